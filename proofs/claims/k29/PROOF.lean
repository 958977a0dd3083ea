import PyProof.Rows.All
import Wide.All
import OpenK.AllK
import Wide.FinOn
import Lean
import PyProof.EqAt
import PyProof.EqKinds
import PyProof.TupleCall
import KE.KMinKey
import PyProof.Rows.CallKwBuiltin
import PyProof.ListRange
import PyProof.Rows.SortWalk
import PySem.Challenge.RW_wishmart_k29_what_bars_a_barter

set_option Elab.async false
set_option linter.all false
set_option maxRecDepth 100000
/-! THE HAND LAYER, for ints, bools, texts, own classes, LISTS and tuples (index, slices, in, append, pop ..), calls, loops. Paste it whole ahead of your own text; what your proof does not reach may be deleted. -/
namespace L2
open PySem PySem.Spec PyProof.Rows

/-- a key: an int or a str -/
abbrev Key := Sum Int Str
def keyIs : Key → Value → Bool
  | .inl k, v => Value.isInt k v
  | .inr x, v => Value.isStrOf x v
def keyH (w : World) : Key → Int
  | .inl k => hashInt k
  | .inr x => hashStr w x
theorem keyIs_shape : ∀ {k : Key} {v : Value}, keyIs k v = true → (∃ i t, k = Sum.inl i ∧ v = Value.int i t) ∨ (∃ x t, k = Sum.inr x ∧ v = Value.str x t)
  | .inl i, v, h => by
    obtain ⟨t, e⟩ := Value.isInt_shape (k := i) (v := v) h
    exact .inl ⟨i, t, rfl, e⟩
  | .inr x, v, h => by
    obtain ⟨t, e⟩ := Value.isStrOf_shape (x := x) (v := v) h
    exact .inr ⟨x, t, rfl, e⟩
theorem key_ll (a b : Int) : decide ((Sum.inl a : Key) = Sum.inl b) = (a == b) := by
  by_cases e : a = b
  · subst e; simp
  · have h : ¬ (Sum.inl a : Key) = Sum.inl b := fun q => e (Sum.inl.inj q)
    rw [decide_eq_false h]
    exact (beq_eq_false_iff_ne.mpr e).symm
theorem key_rr (a b : Str) : decide ((Sum.inr a : Key) = Sum.inr b) = decide (a = b) := by
  by_cases e : a = b
  · subst e; simp
  · have h : ¬ (Sum.inr a : Key) = Sum.inr b := fun q => e (Sum.inr.inj q)
    rw [decide_eq_false h, decide_eq_false e]
theorem key_lr (a : Int) (b : Str) : decide ((Sum.inl a : Key) = Sum.inr b) = false := decide_eq_false (fun q => nomatch q)
theorem key_rl (a : Str) (b : Int) : decide ((Sum.inr a : Key) = Sum.inl b) = false := decide_eq_false (fun q => nomatch q)

def mixKind (prog : Program) (w : World) : PySem.KeyKind prog w Key where
  is := keyIs
  hash := keyH w
  inj := fun v a b ha hb => by
    rcases keyIs_shape ha with ⟨i, t, rfl, rfl⟩ | ⟨x, t, rfl, rfl⟩
    · rcases keyIs_shape hb with ⟨j, u, rfl, e⟩ | ⟨y, u, rfl, e⟩
      · injection e with e1 _; rw [e1]
      · exact nomatch e
    · rcases keyIs_shape hb with ⟨j, u, rfl, e⟩ | ⟨y, u, rfl, e⟩
      · exact nomatch e
      · injection e with e1 _; rw [e1]
  byValue := fun k v h => by
    rcases keyIs_shape h with ⟨i, t, rfl, rfl⟩ | ⟨x, t, rfl, rfl⟩ <;> rfl
  pyHash := fun hv h => by
    rcases keyIs_shape hv with ⟨i, t, rfl, rfl⟩ | ⟨x, t, rfl, rfl⟩
    · exact wpAny_pyHash_int h
    · exact wpAny_pyHash_str h
  eqBool := fun hu hv h => by
    rcases keyIs_shape hu with ⟨i, t, rfl, rfl⟩ | ⟨x, t, rfl, rfl⟩
    · rcases keyIs_shape hv with ⟨j, u, rfl, rfl⟩ | ⟨y, u, rfl, rfl⟩
      · rw [key_ll] at h; exact wpAny_eqBool_int h
      · rw [key_lr] at h; exact SeqAt.EqAt.int_str i t y u _ _ _ _ h
    · rcases keyIs_shape hv with ⟨j, u, rfl, rfl⟩ | ⟨y, u, rfl, rfl⟩
      · rw [key_rl] at h; exact SeqAt.EqAt.str_int x t j u _ _ _ _ h
      · rw [key_rr] at h; exact wpAny_eqBool_str h
  «strs» := fun k x t v h => by
    rcases keyIs_shape h with ⟨i, u, rfl, e⟩ | ⟨y, u, rfl, e⟩
    · exact nomatch e
    · injection e with e1 _
      subst e1
      cases v <;> rfl

end L2

namespace L2
open PySem PySem.Spec PyProof.Rows

/-- a value, without the heap -/
inductive V where
  | non | bl (b : Bool) | int (i : Int) | str (x : Str) | byt (b : Array UInt8) | flt (b : UInt64) | ref (a : Addr) | ty (n : String)
  deriving DecidableEq

def RelV : V → Value → Prop
  | .non, u => u = Value.none
  | .bl b, u => u = Value.bool b
  | .int i, u => ∃ t, u = Value.int i t
  | .str x, u => ∃ t, u = Value.str x t
  | .byt b, u => ∃ t, u = Value.bytes b t
  | .flt b, u => ∃ t, u = Value.float b t
  | .ref a, u => u = Value.ref a
  | .ty n, u => u = Value.type n

abbrev Vals : List V → List Value → Prop := Paired RelV
theorem Vals.length {xs : List V} {us : List Value} (r : Vals xs us) : xs.length = us.length := Paired.length r
theorem Vals.get : ∀ {xs : List V} {us : List Value} {i : Nat} {x : V}, Vals xs us → xs[i]? = some x → ∃ u, us[i]? = some u ∧ RelV x u
  | _, _, _, _, .nil, e => by simp at e
  | _, _, 0, _, .cons r _, e => by simp at e; subst e; exact ⟨_, rfl, r⟩
  | _, _, i + 1, x, .cons _ t, e => by
    obtain ⟨u, h1, h2⟩ := Vals.get (i := i) (x := x) t (by simpa using e)
    exact ⟨u, by simpa using h1, h2⟩
theorem Vals.set {x : V} {u : Value} (r : RelV x u) : ∀ {xs : List V} {us : List Value} (i : Nat), Vals xs us → Vals (xs.set i x) (us.set i u)
  | _, _, _, .nil => .nil
  | _, _, 0, .cons _ t => .cons r t
  | _, _, i + 1, .cons q t => .cons q (Vals.set r i t)
theorem Vals.append : ∀ {xs ys : List V} {us ws : List Value}, Vals xs us → Vals ys ws → Vals (xs ++ ys) (us ++ ws)
  | _, _, _, _, .nil, s => s
  | _, _, _, _, .cons r t, s => .cons r (Vals.append t s)
def RelO : Option V → Option Value → Prop
  | some v, some u => RelV v u
  | none, none => True
  | _, _ => False
def KV {κ : Type} : List (κ × V) → List (κ × Value) → Prop := Paired fun (p : κ × V) (q : κ × Value) => p.1 = q.1 ∧ RelV p.2 q.2

/-- a key of a dict (00_mix): an int or a text -/
def kV : Key → V
  | .inl i => .int i
  | .inr x => .str x

/-- what stands at a tracked address -/
inductive HO where
  /-- a list -/
  | lst (xs : List V)
  /-- a tuple (never changes) -/
  | tup (xs : List V)
  /-- a dict whose keys are ints and texts; one whose keys are tuples of ints and texts (the empty one is both) -/
  | dK (kvs : List (Key × V)) | dT (kvs : List (List Key × V))
  /-- a set of ints: its members, its size -/
  | set (S : Int → Bool) (n : Nat)
  /-- an instance of the class at C, its dict at dx, its attributes -/
  | ins (C dx : Addr) (fs : List (Str × V))
  /-- the dict of the instance at x -/
  | own (x : Addr)
  /-- the dict of an exception -/
  | xd (fs : List (Str × V))
  /-- a bound method, f of x -/
  | met (f x : Addr)
  /-- a range object lo, lo + 1, .. below hi -/
  | rng (lo hi : Int)
  /-- a thing that is known to the object (the script; a dict while a loop walks it): read, never written while it is so -/
  | frz (o : Obj) (u : HO)
  /-- a code object's table -/
  | tbl (ps : Array Value)
  /-- any other thing, by what is true of its one object (a def of one's own: SetO a S n := HO.ext fun h => ..) -/
  | ext (φ : Heap → Prop)

abbrev Hp := Addr → Option HO
def upd (H : Hp) (a : Addr) (o : HO) : Hp := fun b => if b = a then some o else H b
theorem upd_same {H : Hp} {a : Addr} {o : HO} : upd H a o a = some o := by unfold upd; rw [if_pos rfl]
theorem upd_ne {H : Hp} {a b : Addr} {o : HO} (h : b ≠ a) : upd H a o b = H b := by unfold upd; rw [if_neg h]
theorem ne_of_none {H : Hp} {a b : Addr} {o : HO} (h : H a = some o) (h' : H b = none) : a ≠ b := by
  intro e; subst e; rw [h] at h'; cases h'

section
variable (P : Program) (w : World)
def ObjOk (H : Hp) (h : Heap) (a : Addr) : HO → Prop
  | .lst xs => xs.length ≤ sizeLine ∧ ∃ (its : List Value) (n : Nat), Vals xs its ∧ h.get? a = some { cls := .type "list", data := .seq its.toArray n }
  | .tup xs => xs.length ≤ sizeLine ∧ ∃ its : List Value, Vals xs its ∧ IsTup h a its.toArray
  | .dK kvs => kvs.length ≤ sizeLine ∧ (a == sysModules) = false ∧ ∃ vs, KV kvs vs ∧ h.DictOf (mixKind P w) a vs
  | .dT kvs => kvs.length ≤ sizeLine ∧ (a == sysModules) = false ∧ ∃ xs : List (List Key × Addr × Value),
      Paired (fun (p : List Key × V) (q : List Key × Addr × Value) => p.1 = q.1 ∧ H q.2.1 = some (.tup (p.1.map kV)) ∧ RelV p.2 q.2.2) kvs xs ∧
      ∃ o es ep, h.get? a = some o ∧ o.ExactDict ∧ o.data = .dict es ep ∧ es.toList = xs.map (entryOfKey (tupleKind (mixKind P w))) ∧ (xs.map (·.1)).Nodup
  | .set S n => h.SetOf (intKind P w) a S n
  | .ins C dx fs => H dx = some (.own a) ∧ fs.length ≤ 1000 ∧ dx ≠ a ∧ h.get? a = some (PySem.W.instObj C dx) ∧
      ∃ mA, h.Ns1 dx mA ∧ (∀ f, RelO (fs.lookup f) (mA f)) ∧ PySem.Within mA (fs.map (·.1))
  | .own _ => ∃ o, h.get? a = some o
  | .xd fs => ∃ mA, h.Ns1 a mA ∧ ∀ f, RelO (fs.lookup f) (mA f)
  | .rng lo hi => ∃ t u v, h.get? a = some { cls := .type "range", data := .fields #[.int lo t, .int hi u, .int 1 v] }
  | .frz o u => h.get? a = some o ∧ ObjOk H h a u
  | .tbl ps => h.get? a = some { cls := .none, data := .fields ps }
  | .met f x => h.get? a = some (PySem.W.methodObj (.ref f) (.ref x))
  | .ext φ => φ h ∧ (∃ o, h.get? a = some o) ∧ ∀ h1 h2 : Heap, φ h1 → (∀ o, h1.get? a = some o → h2.get? a = some o) → φ h2
/-- the abstract heap is held -/
def HOk (H : Hp) (h : Heap) : Prop := ∀ a o, H a = some o → ObjOk P w H h a o
end

section
variable {P : Program} {w : World} {H H' : Hp} {h h' : Heap} {a : Addr} {o : HO}
theorem ObjOk.lt (x : ObjOk P w H h a o) : a < h.objs.size := by
  cases o with
  | lst xs => obtain ⟨_, _, _, _, e⟩ := x; exact Heap.lt_size e
  | tup xs => obtain ⟨_, _, _, p⟩ := x; exact p.lt
  | dK kvs => obtain ⟨_, _, _, _, o, _, _, e, _⟩ := x; exact Heap.lt_size e
  | dT kvs => obtain ⟨_, _, _, _, o, _, _, e, _⟩ := x; exact Heap.lt_size e
  | set S n => obtain ⟨o, _, _, _, e, _⟩ := x; exact Heap.lt_size e
  | ins C dx fs => obtain ⟨_, _, _, e, _⟩ := x; exact Heap.lt_size e
  | own y => obtain ⟨_, e⟩ := x; exact Heap.lt_size e
  | xd fs => obtain ⟨_, ⟨_, _, _, e, _⟩, _⟩ := x; exact Heap.lt_size e
  | rng lo hi => obtain ⟨_, _, _, e⟩ := x; exact Heap.lt_size e
  | frz ob u => obtain ⟨e, _⟩ := x; exact Heap.lt_size e
  | tbl ps => exact Heap.lt_size (show h.get? a = some _ from x)
  | met f y => exact Heap.lt_size (show h.get? a = some _ from x)
  | ext φ => obtain ⟨_, ⟨_, e⟩, _⟩ := x; exact Heap.lt_size e
theorem Paired.mapP {α β : Type} {F G : α → β → Prop} : ∀ {l₁ : List α} {l₂ : List β}, Paired F l₁ l₂ → (∀ a b, F a b → G a b) → Paired G l₁ l₂
  | _, _, .nil, _ => .nil
  | _, _, .cons r t, f => .cons (f _ _ r) (Paired.mapP t f)
/-- what an object's description leans on: its own object, its own dict, the tuples -/
theorem ObjOk.stay (x : ObjOk P w H h a o) (k : ∀ b u, (b = a ∨ H b = some (.own a)) → h.get? b = some u → h'.get? b = some u)
    (ho : ∀ b, H b = some (.own a) → H' b = some (.own a)) (ht : ∀ b xs, H b = some (.tup xs) → H' b = some (.tup xs)) : ObjOk P w H' h' a o := by
  induction o with
  | lst xs => obtain ⟨z, its, n, r, e⟩ := x; exact ⟨z, its, n, r, k _ _ (.inl rfl) e⟩
  | tup xs => obtain ⟨z, its, r, ob, e, c⟩ := x; exact ⟨z, its, r, ob, k _ _ (.inl rfl) e, c⟩
  | dK kvs => obtain ⟨z, y, vs, r, ob, es, ep, e, c⟩ := x; exact ⟨z, y, vs, r, ob, es, ep, k _ _ (.inl rfl) e, c⟩
  | dT kvs =>
    obtain ⟨z, y, xs, r, ob, es, ep, e, c⟩ := x
    exact ⟨z, y, xs, Paired.mapP r fun p q z => ⟨z.1, ht _ _ z.2.1, z.2.2⟩, ob, es, ep, k _ _ (.inl rfl) e, c⟩
  | set S n => obtain ⟨ob, es, ep, t, e, c⟩ := x; exact ⟨ob, es, ep, t, k _ _ (.inl rfl) e, c⟩
  | ins C dx fs =>
    obtain ⟨d, z, ne, e, mA, ⟨od, es, ep, e2, c⟩, r⟩ := x
    exact ⟨ho _ d, z, ne, k _ _ (.inl rfl) e, mA, ⟨od, es, ep, k _ _ (.inr d) e2, c⟩, r⟩
  | own y => obtain ⟨ob, e⟩ := x; exact ⟨ob, k _ _ (.inl rfl) e⟩
  | xd fs => obtain ⟨mA, ⟨od, es, ep, e, c⟩, r⟩ := x; exact ⟨mA, ⟨od, es, ep, k _ _ (.inl rfl) e, c⟩, r⟩
  | rng lo hi => obtain ⟨t, u, v, e⟩ := x; exact ⟨t, u, v, k _ _ (.inl rfl) e⟩
  | frz ob u ih => obtain ⟨e, q⟩ := x; exact ⟨k _ _ (.inl rfl) e, ih q⟩
  | tbl ps =>
    have e : h.get? a = some { cls := .none, data := .fields ps } := x
    show h'.get? a = some { cls := .none, data := .fields ps }
    exact k a _ (.inl rfl) e
  | met f y =>
    have e : h.get? a = some (PySem.W.methodObj (.ref f) (.ref y)) := x
    show h'.get? a = some (PySem.W.methodObj (.ref f) (.ref y))
    exact k a _ (.inl rfl) e
  | ext φ => obtain ⟨p, ⟨o, e⟩, st⟩ := x; exact ⟨st _ _ p fun o q => k _ _ (.inl rfl) q, ⟨o, k _ _ (.inl rfl) e⟩, st⟩
theorem HOk.lt (x : HOk P w H h) (e : H a = some o) : a < h.objs.size := (x a o e).lt
theorem HOk.fresh (x : HOk P w H h) (e : h.objs.size ≤ a) : H a = none := by
  cases q : H a with
  | none => rfl
  | some u => exact absurd (Nat.lt_of_lt_of_le (x.lt q) e) (Nat.lt_irrefl _)
/-- every object of the heap is kept -/
theorem HOk.kept (x : HOk P w H h) (k : ∀ b u, h.get? b = some u → h'.get? b = some u) : HOk P w H h' := fun a o e =>
  (x a o e).stay (fun b u _ q => k b u q) (fun _ q => q) fun _ _ q => q
/-- a new object is laid and tracked -/
theorem HOk.laid (x : HOk P w H h) (k : ∀ b u, h.get? b = some u → h'.get? b = some u) (hp : h.objs.size ≤ a) (new : ObjOk P w (upd H a o) h' a o) : HOk P w (upd H a o) h' := fun b u e => by
  have hn := x.fresh hp
  by_cases hb : b = a
  · subst hb; rw [upd_same] at e; cases e; exact new
  · rw [upd_ne hb] at e
    exact (x b u e).stay (fun c v _ q => k c v q) (fun c q => by rw [upd_ne (ne_of_none q hn)]; exact q) fun c xs q => by rw [upd_ne (ne_of_none q hn)]; exact q
end

/-- what may be read as u: it is u, or a known u -/
def Rd (H : Hp) (a : Addr) (u : HO) : Prop := H a = some u ∨ ∃ o, H a = some (.frz o u)
theorem Rd.ok {P : Program} {w : World} {H : Hp} {h : Heap} {a : Addr} {u : HO} (r : Rd H a u) (x : HOk P w H h) : ObjOk P w H h a u := by
  rcases r with r | ⟨o, r⟩
  · exact x a u r
  · obtain ⟨_, q⟩ := x a _ r
    exact q
/-- what may be written -/
def Mut : Option HO → Prop
  | some (.lst _) => True
  | some (.dK _) => True
  | some (.dT _) => True
  | some (.set _ _) => True
  | some (.ins _ _ _) => True
  | some (.ext _) => True
  | _ => False
section
variable {P : Program} {w : World} {H : Hp} {h h' : Heap} {x e : Addr} {o' : HO}
/-- the object at e is changed: x itself, or the dict of the instance x -/
theorem HOk.write (ok : HOk P w H h) (mu : Mut (H x)) (he : e = x ∨ H e = some (.own x)) (k : ∀ b u, b ≠ e → h.get? b = some u → h'.get? b = some u) (heo : ∃ u, h'.get? e = some u)
    (new : ObjOk P w (upd H x o') h' x o') : HOk P w (upd H x o') h' := fun b u q => by
  have nown : ∀ c y, H c = some (.own y) → c ≠ x := fun c y r z => by subst z; rw [r] at mu; exact mu
  have ntup : ∀ c xs, H c = some (.tup xs) → c ≠ x := fun c xs r z => by subst z; rw [r] at mu; exact mu
  by_cases hb : b = x
  · subst hb; rw [upd_same] at q; cases q; exact new
  · rw [upd_ne hb] at q
    by_cases hbe : b = e
    · have q' : H b = some (.own x) := by
        rcases he with z | z
        · exact absurd (hbe.trans z) hb
        · rw [hbe]; exact z
      rw [q] at q'; cases q'
      obtain ⟨v, hv⟩ := heo
      exact ⟨v, by rw [hbe]; exact hv⟩
    · refine (ok b u q).stay (fun c v hc r => k c v ?_ r) (fun c r => by rw [upd_ne (nown c b r)]; exact r) fun c xs r => by rw [upd_ne (ntup c xs r)]; exact r
      rcases hc with rfl | hc
      · exact hbe
      · rintro rfl
        rcases he with z | z
        · exact nown c b hc z
        · rw [hc] at z; cases z; exact hb rfl
end

/-! ### kept unless tracked; of the frames at fs (the callers') the slots may change (an exception that passes writes there); of the records at ex (iterators) nothing is said -/
structure Un (fs ex : List Addr) (H H' : Hp) (h h' : Heap) : Prop where
  keep : ∀ b o, h.get? b = some o → H b = none → b ∉ fs → b ∉ ex → h'.get? b = some o
  slot : ∀ b o, h.get? b = some o → H b = none → b ∈ fs → b ∉ ex → ∃ sl, h'.get? b = some { o with slots := sl }
  free : ∀ b o, h.get? b = some o → H b = none → b ∉ ex → H' b = none
  there : ∀ b o, h.get? b = some o → b ∉ ex → ∃ o', h'.get? b = some o'
  tups : ∀ b xs, H b = some (.tup xs) → H' b = some (.tup xs)
  frzs : ∀ b o u, H b = some (.frz o u) → H' b = some (.frz o u)
  tbls : ∀ b ps, H b = some (.tbl ps) → ∃ more, H' b = some (.tbl (ps ++ more))
section
variable {fs fs' ex ex' : List Addr} {H H1 H2 : Hp} {h h1 h2 h' : Heap} {a x e : Addr} {o : HO}
theorem Un.any (u : Un fs ex H H1 h h1) {b : Addr} {ob : Obj} (q : h.get? b = some ob) (n : H b = none) (hx : b ∉ ex) : ∃ sl, h1.get? b = some { ob with slots := sl } := by
  by_cases hb : b ∈ fs
  · exact u.slot b ob q n hb hx
  · exact ⟨ob.slots, u.keep b ob q n hb hx⟩
theorem Un.kept (k : ∀ b u, h.get? b = some u → h'.get? b = some u) : Un fs ex H H h h' :=
  ⟨fun b ob q _ _ _ => k b ob q, fun b ob q _ _ _ => ⟨ob.slots, k b ob q⟩, fun _ _ _ n _ => n, fun b ob q _ => ⟨ob, k b ob q⟩, fun _ _ q => q, fun _ _ _ q => q, fun _ ps q => ⟨#[], by rw [q]; simp⟩⟩
theorem Un.refl : Un fs ex H H h h := Un.kept fun _ _ q => q
theorem Un.laid (k : ∀ b u, h.get? b = some u → h'.get? b = some u) (hp : h.objs.size ≤ a) (hn : H a = none) : Un fs ex H (upd H a o) h h' where
  keep := fun b u q _ _ _ => k b u q
  slot := fun b u q _ _ _ => ⟨u.slots, k b u q⟩
  free := fun b u q n _ => by rw [upd_ne (Nat.ne_of_lt (Nat.lt_of_lt_of_le (Heap.lt_size q) hp))]; exact n
  there := fun b u q _ => ⟨u, k b u q⟩
  tups := fun b xs q => by rw [upd_ne (ne_of_none q hn)]; exact q
  frzs := fun b u xs q => by rw [upd_ne (ne_of_none q hn)]; exact q
  tbls := fun b ps q => ⟨#[], by rw [upd_ne (ne_of_none q hn), q]; simp⟩
theorem Un.write (mu : Mut (H x)) (he : e = x ∨ H e = some (.own x)) (k : ∀ b u, b ≠ e → h.get? b = some u → h'.get? b = some u) (heo : ∃ u, h'.get? e = some u) : Un fs ex H (upd H x o) h h' := by
  have hx : ∀ b, H b = none → b ≠ x := fun b n z => by subst z; rw [n] at mu; exact mu
  have hb : ∀ b, H b = none → b ≠ e := fun b n z => by
    subst z
    rcases he with r | r
    · exact hx b n r
    · rw [n] at r; cases r
  have hm : ∀ b u, H b = some u → ¬ Mut (some u) → b ≠ x := fun b u q nm z => by subst z; rw [q] at mu; exact nm mu
  refine ⟨fun b u q n _ _ => k b u (hb b n) q, fun b u q n _ _ => ⟨u.slots, k b u (hb b n) q⟩, fun b u q n _ => by rw [upd_ne (hx b n)]; exact n, fun b u q _ => ?_,
    fun b xs q => by rw [upd_ne (hm b _ q fun z => z)]; exact q, fun b u xs q => by rw [upd_ne (hm b _ q fun z => z)]; exact q, fun b ps q => ⟨#[], by rw [upd_ne (hm b _ q fun z => z), q]; simp⟩⟩
  by_cases hbe : b = e
  · subst hbe; exact heo
  · exact ⟨u, k b u hbe q⟩
end

/-! ### the heap without what is tracked -/
def trk (h : Heap) (H : Hp) : List Addr := (List.range h.objs.size).filter fun a => (H a).isSome
def hidT (h : Heap) (H : Hp) : Heap := PySem.W.hideAll h (trk h H)
theorem hidT_size (h : Heap) (H : Hp) : (hidT h H).objs.size = h.objs.size := PySem.W.hideAll_size _ _
theorem hidT_get {h : Heap} {H : Hp} {b : Addr} {o : Obj} (e : h.get? b = some o) (n : H b = none) : (hidT h H).get? b = some o :=
  PySem.W.hideAll_get _ e fun hm => by
    have q : (H b).isSome = true := (List.mem_filter.mp hm).2
    rw [n] at q; simp at q
theorem of_hidT {h : Heap} {H : Hp} {b : Addr} {o : Obj} (e : (hidT h H).get? b = some o) : h.get? b = some o ∧ H b = none := by
  have e' : h.get? b = some o := PySem.W.of_hideAll (trk h H) e
  refine ⟨e', ?_⟩
  cases q : H b with
  | none => rfl
  | some x =>
    have hm : b ∈ trk h H := List.mem_filter.mpr ⟨List.mem_range.mpr (Heap.lt_size e'), by simp [q]⟩
    have z : (hidT h H).get? b = none := PySem.W.hideAll_none (trk h H) hm
    rw [z] at e; cases e

/-! ### OpenK's ledger, filled with every new object but one -/
end L2

namespace L2
open PySem PySem.Spec PyProof.Rows

/-- the module's facts, over the base: the heap at the law's entry without what is tracked there -/
structure Mod (K : PySem.W.Frag) (mg : Str → Option Value) (base : Heap) : Prop where
  kin : K.In base
  glob : base.Ns mainGlobals mg
  blt : ∃ mb, base.Ns builtinsNs mb ∧ ∀ x : Str, x ≠ "__name__" → mb x = bootBuiltins x
  nolimit : base.NoLimit

/-- the context: a def's body (or a comprehension's block) running. base: fixed through the whole law; s₀, H₀: the entry; outer: the frames whose slots others may change (a def's callers); stack: all frames that run;
   ex: iterators that were made ahead of the entry and are walked here (a comprehension's); fn: the names whose cells were made at the entry (a def: all; a comprehension's block: its own); calm: not within an except suite; pn: pins that every state bears; xe: what is wanted of an exception that leaves the code -/
structure Cx where
  prog : Program
  w : World
  K : PySem.W.Frag
  mg : Str → Option Value
  base : Heap
  A : Around
  N : List Str
  s₀ : Shared
  H₀ : Hp
  env : Env
  outer : List Env
  stack : List Env
  ex : List Addr
  fn : Str → Bool
  calm : Bool
  pn : List (Addr × Obj)
  xe : Value → Shared → Prop
/-- the callers' frames -/
def frs (l : List Env) : List Addr := l.filterMap (·.frame)
abbrev Cx.fs (X : Cx) : List Addr := frs X.outer

def Vis (sc : Scope) (x : Str) : Prop := sc.names.lookup x = some .local ∨ sc.names.lookup x = some .cell ∨ sc.names.lookup x = some .free
def Loc (sc : Scope) (x : Str) : Prop := sc.names.lookup x = some .local ∨ sc.names.lookup x = some .cell
def Look (env : Env) (h : Heap) (m : Str → Option Value) (x : Str) (u : Value) : Prop :=
  (env.kindOf x = some .local ∧ m x = some u) ∨ ((env.kindOf x = some .cell ∨ env.kindOf x = some .free) ∧ ∃ c, env.cells.lookup x = some c ∧ h.IsCell c (some u))

structure Cx.Ok (X : Cx) : Prop where
  mod : Mod X.K X.mg X.base
  kind : X.env.scope.kind = .function
  glob : X.env.globals = mainGlobals
  blt : X.env.builtins = builtinsNs
  above : X.s₀.heap.objs.size ≤ X.env.locals
  inj : ∀ x y c, X.env.cells.lookup x = some c → X.env.cells.lookup y = some c → x = y
  has : ∀ x, (X.env.kindOf x = some .cell ∨ X.env.kindOf x = some .free) → ∃ c, X.env.cells.lookup x = some c
  cab : ∀ x c, X.fn x = true → X.env.cells.lookup x = some c → X.s₀.heap.objs.size ≤ c
  hd : X.calm = true → X.A.handled = none
  frames : X.A.frames = some X.stack
  stk : X.stack = X.outer ∨ (X.stack = X.env :: X.outer ∧ X.env.frame = some X.env.locals)
  exf : ∀ b ∈ X.ex, b ≠ X.env.locals ∧ ∀ x c, X.env.cells.lookup x = some c → c ≠ b
  bs : ∀ b o, X.base.get? b = some o → X.s₀.heap.get? b = some o ∧ X.H₀ b = none
  bsz : X.base.objs.size ≤ X.s₀.heap.objs.size
  noex : ∀ b o, X.base.get? b = some o → b ∉ X.ex
  exfs : ∀ b ∈ X.ex, b ∉ X.fs
  funs : X.s₀.heap.FunFrames X.base X.outer
  frf : ∀ b ∈ X.fs, X.H₀ b = none

structure Inv (X : Cx) (pins : List (Addr × Obj)) (σ : List (Option V)) (H : Hp) (s : Shared) : Prop where
  ok : X.Ok
  os : s.os = X.s₀.os
  bare : AllBare s.gens
  base : Un X.fs X.ex X.H₀ H X.s₀.heap s.heap
  loc : ∃ m, s.heap.Ns X.env.locals m ∧ ∀ (i : Nat) (x : Str) (v : V), X.N[i]? = some x → σ[i]? = some (some v) → Vis X.env.scope x → ∃ u, RelV v u ∧ Look X.env s.heap m x u
  cell : ∀ x c, X.env.cells.lookup x = some c → ∃ v, s.heap.IsCell c v
  free : H X.env.locals = none
  freeC : ∀ x c, X.env.cells.lookup x = some c → H c = none
  pin : ∀ p ∈ X.pn ++ pins, s.heap.get? p.1 = some p.2 ∧ H p.1 = none ∧ p.1 ≠ X.env.locals ∧ p.1 ∉ X.fs ∧ ∀ v, p.2.data ≠ .cell v
  hok : HOk X.prog X.w H s.heap
  len : σ.length = X.N.length

section
variable {X : Cx} {pins : List (Addr × Obj)} {σ : List (Option V)} {H H' : Hp} {s : Shared} {h' : Heap}

theorem Cx.Ok.nofr (ok : X.Ok) {b : Addr} {o : Obj} (e : X.base.get? b = some o) : b ∉ X.fs := fun hb => by
  have := (ok.funs.mem hb).1
  rw [e] at this; cases this
theorem Inv.bs (I : Inv X pins σ H s) : ∀ b o, X.base.get? b = some o → s.heap.get? b = some o ∧ H b = none := fun b o e =>
  ⟨I.base.keep b o (I.ok.bs b o e).1 (I.ok.bs b o e).2 (I.ok.nofr e) (I.ok.noex b o e), I.base.free b o (I.ok.bs b o e).1 (I.ok.bs b o e).2 (I.ok.noex b o e)⟩
theorem Inv.bk (I : Inv X pins σ H s) : ∀ b o, X.base.get? b = some o → s.heap.get? b = some o := fun b o e => (I.bs b o e).1
theorem Inv.mod (I : Inv X pins σ H s) : Mod X.K X.mg X.base := I.ok.mod
theorem Inv.kIn (I : Inv X pins σ H s) : X.K.In s.heap := I.ok.mod.kin.keeps I.bk
theorem Inv.lt (I : Inv X pins σ H s) : X.env.locals < s.heap.objs.size := let ⟨_, hn, _⟩ := I.loc; hn.lt
theorem Inv.sz (I : Inv X pins σ H s) : X.s₀.heap.objs.size ≤ s.heap.objs.size := Nat.le_trans I.ok.above (Nat.le_of_lt I.lt)
theorem Inv.nofs (I : Inv X pins σ H s) {a : Addr} (h : s.heap.objs.size ≤ a) : a ∉ X.fs := fun hb => by
  obtain ⟨_, o, ho, _⟩ := I.ok.funs.mem hb
  exact absurd (Nat.lt_of_lt_of_le (Heap.lt_size ho) (Nat.le_trans I.sz h)) (Nat.lt_irrefl _)
theorem Inv.cne (I : Inv X pins σ H s) : ∀ x c, X.env.cells.lookup x = some c → c ≠ X.env.locals := fun x c e z => by
  obtain ⟨v, o, ho, hd⟩ := I.cell x c e
  obtain ⟨m, ⟨o', es, ep, ho', hd', _⟩, _⟩ := I.loc
  rw [z, ho'] at ho; cases ho; rw [hd'] at hd; cases hd
theorem Inv.funs (I : Inv X pins σ H s) : s.heap.FunFrames X.base X.outer := by
  have all : ∀ (l : List Env), (∀ b ∈ frs l, b ∈ X.fs) → X.s₀.heap.FunFrames X.base l → s.heap.FunFrames X.base l := by
    intro l
    induction l with
    | nil => intro _ _; trivial
    | cons env r ih =>
      intro hs hl
      obtain ⟨hk, ⟨L, o, hf, hn, ho, hd⟩, hr⟩ := hl
      have hL : L ∈ X.fs := hs L (by unfold frs; rw [List.filterMap_cons, hf]; exact List.mem_cons_self)
      obtain ⟨sl, e⟩ := I.base.slot L o ho (I.ok.frf L hL) hL fun z => I.ok.exfs L z hL
      exact ⟨hk, ⟨L, _, hf, hn, e, hd⟩, ih (fun b hb => hs b (by unfold frs; rw [List.filterMap_cons, hf]; exact List.mem_cons_of_mem _ hb)) hr⟩
  exact all X.outer (fun _ hb => hb) I.ok.funs

/-- the frames that run, for a call -/
theorem Inv.stack (I : Inv X pins σ H s) : s.heap.FunFrames X.base X.stack := by
  rcases I.ok.stk with e | ⟨e, hf⟩
  · rw [e]; exact I.funs
  · rw [e]
    obtain ⟨m, hn, _⟩ := I.loc
    refine .cons (by rw [I.ok.kind]; decide) hf hn ?_ I.funs
    exact Heap.get?_none_of_le (Nat.le_trans I.ok.bsz I.ok.above)
theorem Inv.stkSub (I : Inv X pins σ H s) : ∀ b ∈ frs X.stack, b ∈ X.env.locals :: X.fs := fun b hb => by
  rcases I.ok.stk with e | ⟨e, hf⟩
  · rw [e] at hb; exact List.mem_cons_of_mem _ hb
  · rw [e] at hb
    unfold frs at hb
    rw [List.filterMap_cons, hf] at hb
    exact hb
theorem Inv.stkFree (I : Inv X pins σ H s) : ∀ b ∈ frs X.stack, H b = none := fun b hb => by
  rcases List.mem_cons.mp (I.stkSub b hb) with e | hb
  · rw [e]; exact I.free
  · obtain ⟨_, o, ho, _⟩ := I.ok.funs.mem hb
    exact I.base.free b o ho (I.ok.frf b hb) fun z => I.ok.exfs b z hb

/-- THE STEP: the untracked objects but the frame and the records at ch are kept (the callers' frames up to slots), the frame's map is kept, the new abstract heap is held -/
theorem Inv.step {g' : Array GenState} {t' : Nat} {d' : Drawn} {ch : List Addr} (I : Inv X pins σ H s)
    (hch : ∀ b ∈ ch, (b ∈ X.ex ∨ X.s₀.heap.objs.size ≤ b) ∧ b ≠ X.env.locals ∧ (∀ x c, X.env.cells.lookup x = some c → c ≠ b) ∧ ∀ p ∈ X.pn ++ pins, p.1 ≠ b)
    (keep : ∀ b o, b ≠ X.env.locals → b ∉ X.fs → b ∉ ch → s.heap.get? b = some o → H b = none → h'.get? b = some o)
    (slot : ∀ b o, b ≠ X.env.locals → b ∈ X.fs → b ∉ ch → s.heap.get? b = some o → H b = none → ∃ sl, h'.get? b = some { o with slots := sl }) (free : ∀ b o, b ∉ ch → s.heap.get? b = some o → H b = none → H' b = none)
    (there : ∀ b o, b ∉ ch → s.heap.get? b = some o → ∃ o', h'.get? b = some o')
    (tups : ∀ b xs, H b = some (.tup xs) → H' b = some (.tup xs)) (frzs : ∀ b o u, H b = some (.frz o u) → H' b = some (.frz o u)) (tbls : ∀ b ps, H b = some (.tbl ps) → ∃ more, H' b = some (.tbl (ps ++ more)))
    (ns : ∀ m, s.heap.Ns X.env.locals m → h'.Ns X.env.locals m) (hok : HOk X.prog X.w H' h') (hg : AllBare g') :
    Inv X pins σ H' { s with heap := h', gens := g', drawn := d', toks := t' } := by
  have neL : ∀ b o, X.s₀.heap.get? b = some o → b ≠ X.env.locals := fun b o e => Nat.ne_of_lt (Nat.lt_of_lt_of_le (Heap.lt_size e) I.ok.above)
  have neC : ∀ b o, X.s₀.heap.get? b = some o → b ∉ X.ex → b ∉ ch := fun b o e hx hb => by
    rcases (hch b hb).1 with z | z
    · exact hx z
    · exact absurd (Nat.lt_of_lt_of_le (Heap.lt_size e) z) (Nat.lt_irrefl _)
  have cellK : ∀ x c, X.env.cells.lookup x = some c → ∀ v, s.heap.IsCell c v → h'.IsCell c v := fun x c e v ⟨o, ho, hd⟩ => by
    have nch : c ∉ ch := fun z => (hch c z).2.2.1 x c e rfl
    by_cases hc : c ∈ X.fs
    · obtain ⟨sl, q⟩ := slot c o (I.cne x c e) hc nch ho (I.freeC x c e)
      exact ⟨_, q, hd⟩
    · exact ⟨o, keep c o (I.cne x c e) hc nch ho (I.freeC x c e), hd⟩
  refine ⟨I.ok, I.os, hg, ⟨fun b o e n hb hx => ?_, fun b o e n hb hx => ?_, fun b o e n hx => ?_, fun b o e hx => ?_, fun b xs e => tups b xs (I.base.tups b xs e), fun b o xs e => frzs b o xs (I.base.frzs b o xs e), fun b ps e => ?_⟩, ?_, fun x c e => ?_, ?_, fun x c e => ?_, fun p hp => ?_, hok, I.len⟩
  · exact keep b o (neL b o e) hb (neC b o e hx) (I.base.keep b o e n hb hx) (I.base.free b o e n hx)
  · obtain ⟨sl, e1⟩ := I.base.slot b o e n hb hx
    obtain ⟨sl', e2⟩ := slot b _ (neL b o e) hb (neC b o e hx) e1 (I.base.free b o e n hx)
    exact ⟨sl', e2⟩
  · obtain ⟨o', e1⟩ := I.base.there b o e hx
    exact free b o' (neC b o e hx) e1 (I.base.free b o e n hx)
  · obtain ⟨o', e1⟩ := I.base.there b o e hx
    exact there b o' (neC b o e hx) e1
  · obtain ⟨m1, e1⟩ := I.base.tbls b ps e
    obtain ⟨m2, e2⟩ := tbls b _ e1
    exact ⟨m1 ++ m2, by rw [e2, Array.append_assoc]⟩
  · obtain ⟨m, hn, hl⟩ := I.loc
    refine ⟨m, ns m hn, fun i x v e1 e2 e3 => ?_⟩
    obtain ⟨u, r, l⟩ := hl i x v e1 e2 e3
    refine ⟨u, r, ?_⟩
    rcases l with l | ⟨k, c, e, z⟩
    · exact .inl l
    · exact .inr ⟨k, c, e, cellK x c e _ z⟩
  · obtain ⟨v, z⟩ := I.cell x c e
    exact ⟨v, cellK x c e v z⟩
  · obtain ⟨m, ⟨o, _, _, ho, _⟩, _⟩ := I.loc
    exact free _ o (fun z => (hch _ z).2.1 rfl) ho I.free
  · obtain ⟨v, o, ho, hd⟩ := I.cell x c e
    exact free c o (fun z => (hch c z).2.2.1 x c e rfl) ho (I.freeC x c e)
  · obtain ⟨e, n, ne, nf, d⟩ := I.pin p hp
    have nch : p.1 ∉ ch := fun z => (hch p.1 z).2.2.2 p hp rfl
    exact ⟨keep p.1 p.2 ne nf nch e n, free p.1 p.2 nch e n, ne, nf, d⟩
/-- .. where the frame's own object is kept too -/
theorem Inv.un {t' : Nat} (I : Inv X pins σ H s) (u : Un X.fs [] H H' s.heap h') (hok : HOk X.prog X.w H' h') : Inv X pins σ H' { s with heap := h', toks := t' } := by
  obtain ⟨m, ⟨o, es, ep, ho, r⟩, _⟩ := id I.loc
  obtain ⟨sl, hL⟩ := u.any ho I.free (by simp)
  exact I.step (g' := s.gens) (d' := s.drawn) (ch := []) (fun _ z => nomatch z) (fun b o _ hb _ e n => u.keep b o e n hb (by simp)) (fun b o _ hb _ e n => u.slot b o e n hb (by simp)) (fun b o _ e n => u.free b o e n (by simp)) (fun b o _ e => u.there b o e (by simp)) u.tups u.frzs u.tbls (fun m' hm => by
    obtain ⟨o', es', ep', ho', r'⟩ := hm
    rw [ho] at ho'; cases ho'
    exact ⟨_, es', ep', hL, r'⟩) hok I.bare
/-- behind a call (or a comprehension's block): the slots of this frame may have changed too, the records at ch may have turned -/
theorem Inv.call {g' : Array GenState} {t' : Nat} {d' : Drawn} {ch : List Addr} (I : Inv X pins σ H s) (u : Un (frs X.stack) ch H H' s.heap h') (hok : HOk X.prog X.w H' h') (hg : AllBare g')
    (hch : ∀ b ∈ ch, (b ∈ X.ex ∨ X.s₀.heap.objs.size ≤ b) ∧ b ≠ X.env.locals ∧ (∀ x c, X.env.cells.lookup x = some c → c ≠ b) ∧ ∀ p ∈ X.pn ++ pins, p.1 ≠ b) :
    Inv X pins σ H' { s with heap := h', gens := g', drawn := d', toks := t' } := by
  obtain ⟨m, ⟨o, es, ep, ho, r⟩, _⟩ := id I.loc
  obtain ⟨sl, hL⟩ := u.any ho I.free fun z => (hch _ z).2.1 rfl
  exact I.step (ch := ch) hch (fun b o hL hb hc e n => u.keep b o e n (fun z => (List.mem_cons.mp (I.stkSub b z)).elim hL hb) hc) (fun b o _ _ hc e n => u.any e n hc) (fun b o hc e n => u.free b o e n hc) (fun b o hc e => u.there b o e hc) u.tups u.frzs u.tbls (fun m' hm => by
    obtain ⟨o', es', ep', ho', r'⟩ := hm
    rw [ho] at ho'; cases ho'
    exact ⟨_, es', ep', hL, r'⟩) hok hg
/-- an untracked record of ours (an iterator) has turned -/
theorem Inv.turned {t' : Nat} {it : Addr} (I : Inv X pins σ H s) (k : ∀ b o, b ≠ it → s.heap.get? b = some o → h'.get? b = some o) (hn : H it = none) (hL : it ≠ X.env.locals)
    (h1 : it ∈ X.ex ∨ X.s₀.heap.objs.size ≤ it) (h2 : ∀ x c, X.env.cells.lookup x = some c → c ≠ it) (h3 : ∀ p ∈ X.pn ++ pins, p.1 ≠ it) : Inv X pins σ H { s with heap := h', toks := t' } := by
  have nit : ∀ b u, H b = some u → b ≠ it := fun b u e z => by rw [z, hn] at e; cases e
  refine I.step (g' := s.gens) (d' := s.drawn) (ch := [it]) (fun b hb => ?_) (fun b o _ _ hc e _ => k b o (fun z => hc (by simp [z])) e) (fun b o _ _ hc e _ => ⟨o.slots, k b o (fun z => hc (by simp [z])) e⟩) (fun _ _ _ _ n => n)
    (fun b o hc e => ⟨o, k b o (fun z => hc (by simp [z])) e⟩) (fun _ _ e => e) (fun _ _ _ e => e) (fun b ps e => ⟨#[], by rw [e]; simp⟩) (fun m hm => ?_) (fun b u e => ?_) I.bare
  · have e : b = it := by simpa using hb
    subst e
    exact ⟨h1, hL, h2, h3⟩
  · obtain ⟨o, es, ep, ho, r⟩ := hm
    exact ⟨o, es, ep, k _ o (Ne.symm hL) ho, r⟩
  · refine (I.hok b u e).stay (fun c v hc q => k c v ?_ q) (fun _ q => q) fun _ _ q => q
    rcases hc with z | z
    · rw [z]; exact nit b u e
    · exact nit c _ z
theorem Inv.tok (I : Inv X pins σ H s) (t : Nat) : Inv X pins σ H { s with toks := t } := I.un (h' := s.heap) (t' := t) Un.refl I.hok
/-- all objects kept -/
theorem Inv.kept {t' : Nat} (I : Inv X pins σ H s) (k : ∀ b u, s.heap.get? b = some u → h'.get? b = some u) : Inv X pins σ H { s with heap := h', toks := t' } := I.un (Un.kept k) (I.hok.kept k)
/-- a new object laid and tracked -/
theorem Inv.laid {a : Addr} {o : HO} {t' : Nat} (I : Inv X pins σ H s) (k : ∀ b u, s.heap.get? b = some u → h'.get? b = some u) (hp : s.heap.objs.size ≤ a) (new : ObjOk X.prog X.w (upd H a o) h' a o) :
    Inv X pins σ (upd H a o) { s with heap := h', toks := t' } := I.un (Un.laid k hp (I.hok.fresh hp)) (I.hok.laid k hp new)
/-- an object written -/
theorem Inv.write {x e : Addr} {o : HO} {t' : Nat} (I : Inv X pins σ H s) (mu : Mut (H x)) (he : e = x ∨ H e = some (.own x)) (k : ∀ b u, b ≠ e → s.heap.get? b = some u → h'.get? b = some u) (heo : ∃ u, h'.get? e = some u)
    (new : ObjOk X.prog X.w (upd H x o) h' x o) : Inv X pins σ (upd H x o) { s with heap := h', toks := t' } := I.un (Un.write mu he k heo) (I.hok.write mu he k heo new)
theorem Inv.pins_of {pins' : List (Addr × Obj)} (I : Inv X pins σ H s) (h : ∀ p ∈ pins', s.heap.get? p.1 = some p.2 ∧ H p.1 = none ∧ p.1 ≠ X.env.locals ∧ p.1 ∉ X.fs ∧ ∀ v, p.2.data ≠ .cell v) : Inv X pins' σ H s :=
  ⟨I.ok, I.os, I.bare, I.base, I.loc, I.cell, I.free, I.freeC, fun p hp => (List.mem_append.mp hp).elim (fun z => I.pin p (List.mem_append_left _ z)) (h p), I.hok, I.len⟩

theorem nodup_ix {N : List Str} (hN : N.Nodup) {i j : Nat} {x : Str} (a : N[i]? = some x) (b : N[j]? = some x) : i = j := by
  obtain ⟨h1, e1⟩ := List.getElem?_eq_some_iff.mp a
  obtain ⟨h2, e2⟩ := List.getElem?_eq_some_iff.mp b
  exact (List.getElem_inj hN).mp (e1.trans e2.symm)

/-- a name is stored; what changed -/
theorem store_ok2 {M : Model} {A : Around} {E : Value → Shared → Prop} {i : Nat} {x : Str} {v : V} {u : Value} {Q : Unit → Shared → Prop} (I : Inv X pins σ H s) (hN : X.N.Nodup) (hi : X.N[i]? = some x) (hx : Loc X.env.scope x) (r : RelV v u)
    (h : ∀ s', Inv X pins (σ.set i (some v)) H s' → (∃ a, Heap.SameBut a s.heap s'.heap ∧ (a = X.env.locals ∨ X.env.cells.lookup x = some a)) → Q () s') (hf : X.fn x = true ∨ X.env.scope.names.lookup x = some .local := by first | exact .inl rfl | exact .inr rfl | assumption) : wpAny M A (storeName X.env x u) Q E s := by
  obtain ⟨m, hn, hl⟩ := id I.loc
  have hcls : (X.env.scope.kind == .class || (X.env.scope.kind == .module && X.env.locals != X.env.globals)) = false := by rw [I.ok.kind]; rfl
  have hiσ : i < σ.length := by rw [I.len]; exact (List.getElem?_eq_some_iff.mp hi).1
  have cne := I.cne
  have tracked : ∀ {a : Addr} {h' : Heap}, (∃ o, s.heap.get? a = some o ∧ H a = none) → Heap.SameBut a s.heap h' → HOk X.prog X.w H h' := fun {a h'} ha hs b ob e => by
    obtain ⟨_, _, hfree⟩ := ha
    refine (I.hok b ob e).stay (fun c w' hc q => (hs.2 c ?_).trans q) (fun _ q => q) fun _ _ q => q
    rintro rfl
    rcases hc with rfl | hc
    · rw [hfree] at e; cases e
    · rw [hfree] at hc; cases hc
  rcases hx with hk | hk
  · refine wpAny_storeName_local hk hn (fun h' hn' hs => ?_) hcls
    obtain ⟨oL, _, _, hoL, _⟩ := id hn
    refine h _ ⟨I.ok, I.os, I.bare, ⟨fun b o e n hb hx => ?_, fun b o e n hb hx => ?_, I.base.free, fun b o e hx => ?_, I.base.tups, I.base.frzs, I.base.tbls⟩, ⟨_, hn', fun j y v' e1 e2 e3 => ?_⟩, fun y c e => ?_, I.free, I.freeC, fun p hp => ?_, tracked ⟨oL, hoL, I.free⟩ hs, by simpa using I.len⟩ ⟨_, hs, .inl rfl⟩
    · exact (hs.2 b (Nat.ne_of_lt (Nat.lt_of_lt_of_le (Heap.lt_size e) I.ok.above))).trans (I.base.keep b o e n hb hx)
    · obtain ⟨sl, e1⟩ := I.base.slot b o e n hb hx
      exact ⟨sl, (hs.2 b (Nat.ne_of_lt (Nat.lt_of_lt_of_le (Heap.lt_size e) I.ok.above))).trans e1⟩
    · obtain ⟨o', e1⟩ := I.base.there b o e hx
      exact ⟨o', (hs.2 b (Nat.ne_of_lt (Nat.lt_of_lt_of_le (Heap.lt_size e) I.ok.above))).trans e1⟩
    · by_cases hj : j = i
      · subst hj
        rw [hi] at e1; cases e1
        rw [List.getElem?_set_self hiσ] at e2
        cases e2
        exact ⟨u, r, .inl ⟨hk, by simp⟩⟩
      · rw [List.getElem?_set_ne (Ne.symm hj)] at e2
        obtain ⟨u', r', q⟩ := hl j y v' e1 e2 e3
        refine ⟨u', r', ?_⟩
        rcases q with ⟨k, e⟩ | ⟨k, c, e, z⟩
        · refine .inl ⟨k, ?_⟩
          have : y ≠ x := fun e => hj (nodup_ix hN e1 (e ▸ hi))
          simp [this, e]
        · exact .inr ⟨k, c, e, z.sameBut hs (cne y c e)⟩
    · obtain ⟨w', z⟩ := I.cell y c e
      exact ⟨w', z.sameBut hs (cne y c e)⟩
    · obtain ⟨e, n, ne, nf, d⟩ := I.pin p hp
      exact ⟨(hs.2 p.1 ne).trans e, n, ne, nf, d⟩
  · have hfn : X.fn x = true := by
      rcases hf with z | z
      · exact z
      · rw [z] at hk; cases hk
    obtain ⟨c, hc⟩ := I.ok.has x (.inl hk)
    obtain ⟨w', z⟩ := I.cell x c hc
    refine wpAny_storeName_cell I.ok.kind hk hc z (fun h' hc' hs => ?_)
    obtain ⟨oc, hoc, hocd⟩ := id z
    refine h { s with heap := h' } ⟨I.ok, I.os, I.bare, ⟨fun b o e n hb hx => ?_, fun b o e n hb hx => ?_, I.base.free, fun b o e hx => ?_, I.base.tups, I.base.frzs, I.base.tbls⟩, ⟨m, hn.sameBut hs (Ne.symm (cne x c hc)), fun j y v' e1 e2 e3 => ?_⟩, fun y c' e => ?_, I.free, I.freeC, fun p hp => ?_, tracked ⟨oc, hoc, I.freeC x c hc⟩ hs, by simpa using I.len⟩ ⟨c, hs, .inr hc⟩
    · exact (hs.2 b (Nat.ne_of_lt (Nat.lt_of_lt_of_le (Heap.lt_size e) (I.ok.cab x c hfn hc)))).trans (I.base.keep b o e n hb hx)
    · obtain ⟨sl, e1⟩ := I.base.slot b o e n hb hx
      exact ⟨sl, (hs.2 b (Nat.ne_of_lt (Nat.lt_of_lt_of_le (Heap.lt_size e) (I.ok.cab x c hfn hc)))).trans e1⟩
    · obtain ⟨o', e1⟩ := I.base.there b o e hx
      exact ⟨o', (hs.2 b (Nat.ne_of_lt (Nat.lt_of_lt_of_le (Heap.lt_size e) (I.ok.cab x c hfn hc)))).trans e1⟩
    · by_cases hj : j = i
      · subst hj
        rw [hi] at e1; cases e1
        rw [List.getElem?_set_self hiσ] at e2
        cases e2
        exact ⟨u, r, .inr ⟨.inl hk, c, hc, hc'⟩⟩
      · rw [List.getElem?_set_ne (Ne.symm hj)] at e2
        obtain ⟨u', r', q⟩ := hl j y v' e1 e2 e3
        refine ⟨u', r', ?_⟩
        rcases q with q | ⟨k, c', e, z'⟩
        · exact .inl q
        · refine .inr ⟨k, c', e, z'.sameBut hs ?_⟩
          rintro rfl
          exact hj (nodup_ix hN e1 (I.ok.inj _ _ _ e hc ▸ hi))
    · by_cases hcc : c' = c
      · subst hcc; exact ⟨_, hc'⟩
      · obtain ⟨w2, z2⟩ := I.cell y c' e
        exact ⟨w2, z2.sameBut hs hcc⟩
    · obtain ⟨e, n, ne, nf, d⟩ := I.pin p hp
      refine ⟨(hs.2 p.1 ?_).trans e, n, ne, nf, d⟩
      intro q
      rw [q, hoc] at e
      have q' : oc = p.2 := Option.some.inj e
      exact d w' (by rw [← q']; exact hocd)
theorem store_ok {M : Model} {A : Around} {E : Value → Shared → Prop} {i : Nat} {x : Str} {v : V} {u : Value} {Q : Unit → Shared → Prop} (I : Inv X pins σ H s) (hN : X.N.Nodup) (hi : X.N[i]? = some x) (hx : Loc X.env.scope x) (r : RelV v u)
    (h : ∀ s', Inv X pins (σ.set i (some v)) H s' → Q () s') (hf : X.fn x = true ∨ X.env.scope.names.lookup x = some .local := by first | exact .inl rfl | exact .inr rfl | assumption) : wpAny M A (storeName X.env x u) Q E s :=
  store_ok2 I hN hi hx r (fun s' I' _ => h s' I') hf
/-- behind a call or a block, the state as it is -/
theorem Inv.call' {s' : Shared} {ch : List Addr} (I : Inv X pins σ H s) (ho : s'.os = s.os) (u : Un (frs X.stack) ch H H' s.heap s'.heap) (hok : HOk X.prog X.w H' s'.heap) (hg : AllBare s'.gens)
    (hch : ∀ b ∈ ch, (b ∈ X.ex ∨ X.s₀.heap.objs.size ≤ b) ∧ b ≠ X.env.locals ∧ (∀ x c, X.env.cells.lookup x = some c → c ≠ b) ∧ ∀ p ∈ X.pn ++ pins, p.1 ≠ b) : Inv X pins σ H' s' := by
  obtain ⟨h', g', d', t', o'⟩ := s'
  have e : o' = s.os := ho
  subst e
  exact I.call (g' := g') (t' := t') (d' := d') u hok hg hch
end

/-! ### the judgements -/
/-- an exception: its class, its own dict's address (where it has one), the abstract heap behind it -/
abbrev XK := Value → Option Addr → Hp → Prop
abbrev St := List (Option V)
abbrev VK := V → Hp → Prop
/-- an expression's reading; a test's; an argument list's -/
abbrev TE := St → Hp → VK → Prop
abbrev TT := St → Hp → (Bool → Hp → Prop) → Prop
abbrev TA := St → Hp → (List V → Hp → Prop) → Prop
/-- what is wanted behind a statement -/
structure Ends where
  nx : St → Hp → Prop
  rt : VK
  bk : St → Hp → Prop := fun _ _ => False
  ct : St → Hp → Prop := fun _ _ => False
abbrev TS := Ends → St → Hp → Prop

def EP (X : Cx) (pins : List (Addr × Obj)) (σ : St) (Q : VK) (u : Value) (s' : Shared) : Prop := ∃ v H', Inv X pins σ H' s' ∧ RelV v u ∧ Q v H'
def TP (X : Cx) (pins : List (Addr × Obj)) (σ : St) (Q : Bool → Hp → Prop) (b : Bool) (s' : Shared) : Prop := ∃ H', Inv X pins σ H' s' ∧ Q b H'
def AP (X : Cx) (pins : List (Addr × Obj)) (σ : St) (Q : List V → Hp → Prop) (us : List Value) (s' : Shared) : Prop := ∃ vs H', Inv X pins σ H' s' ∧ Vals vs us ∧ Q vs H'
def SP (X : Cx) (pins : List (Addr × Obj)) (D : Ends) (f : Flow) (s' : Shared) : Prop :=
  match f with
  | .next => ∃ σ' H', Inv X pins σ' H' s' ∧ D.nx σ' H'
  | .brk => ∃ σ' H', Inv X pins σ' H' s' ∧ D.bk σ' H'
  | .cont => ∃ σ' H', Inv X pins σ' H' s' ∧ D.ct σ' H'
  | .ret u => ∃ v σ' H', Inv X pins σ' H' s' ∧ RelV v u ∧ D.rt v H'

def PE (X : Cx) (e : Expr) (t : TE) : Prop :=
  ∀ (pins : List (Addr × Obj)) (s : Shared) (σ : St) (H : Hp) (Q : VK), Inv X pins σ H s → t σ H Q → wpAny (model X.prog X.w) X.A (eval e X.env) (EP X pins σ Q) X.xe s
def PT (X : Cx) (e : Expr) (t : TT) : Prop :=
  ∀ (pins : List (Addr × Obj)) (s : Shared) (σ : St) (H : Hp) (Q : Bool → Hp → Prop), Inv X pins σ H s → t σ H Q → wpAny (model X.prog X.w) X.A (isTrue e X.env (eval e X.env)) (TP X pins σ Q) X.xe s
/-- a test whatever its 'whole' is (and, or) -/
def PW (X : Cx) (e : Expr) (t : TT) : Prop :=
  ∀ (whole : Sem Value) (pins : List (Addr × Obj)) (s : Shared) (σ : St) (H : Hp) (Q : Bool → Hp → Prop), Inv X pins σ H s → t σ H Q → wpAny (model X.prog X.w) X.A (isTrue e X.env whole) (TP X pins σ Q) X.xe s
theorem PW.pt {X : Cx} {e : Expr} {t : TT} (h : PW X e t) : PT X e t := h _
/-- an argument list (no star), from the left -/
def PA (X : Cx) (es : List Expr) (t : TA) : Prop :=
  ∀ (pos : Pos) (pins : List (Addr × Obj)) (s : Shared) (σ : St) (H : Hp) (Q : List V → Hp → Prop), Inv X pins σ H s → t σ H Q → wpAny (model X.prog X.w) X.A (spliced (backTo pos (starEach es X.env))) (AP X pins σ Q) X.xe s
def PS (X : Cx) (st : Stmt) (t : TS) : Prop :=
  ∀ (pins : List (Addr × Obj)) (s : Shared) (σ : St) (H : Hp) (D : Ends), Inv X pins σ H s → t D σ H → wpAny (model X.prog X.w) X.A (exec st X.env) (SP X pins D) X.xe s
def PSs (X : Cx) (st : List Stmt) (t : TS) : Prop :=
  ∀ (pins : List (Addr × Obj)) (s : Shared) (σ : St) (H : Hp) (D : Ends), Inv X pins σ H s → t D σ H → wpAny (model X.prog X.w) X.A (execs st X.env) (SP X pins D) X.xe s
/-- weaken the end -/
theorem thn {α : Type} {t : Sem α} {Q Q' : α → Shared → Prop} {M : Model} {A : Around} {E : Value → Shared → Prop} {s : Shared} (h : wpAny M A t Q E s) (hQ : ∀ a s, Q a s → Q' a s) : wpAny M A t Q' E s := wpAny_mono h hQ fun _ _ x => x
end L2

namespace L2
open PySem PySem.Spec PyProof.Rows
section
variable {X : Cx}

/-! ### names and constants -/
def tVar (i : Nat) : TE := fun σ H Q => ∃ v, σ[i]? = some (some v) ∧ Q v H
def tC (v : V) : TE := fun _ H Q => Q v H
theorem pe_var {i : Nat} {x : Str} {pos : Pos} (hN : X.N[i]? = some x) (hv : Vis X.env.scope x) (hd : (x == ("__debug__" : Str)) = false := by decide) (hcd : (x == ("__classdict__" : Str)) = false := by decide) : PE X (.Name x pos) (tVar i) := by
  intro pins s σ H Q I h
  obtain ⟨v, e, h⟩ := h
  obtain ⟨m, hn, hl⟩ := I.loc
  obtain ⟨u, r, l⟩ := hl i x v hN e hv
  have fin : EP X pins σ Q u s := ⟨v, H, I, r, h⟩
  rcases l with ⟨hk, hm⟩ | ⟨hk, c, hc, hcell⟩
  · exact wpAny_Name (wpAny_loadName_local I.ok.kind hk hn hm fin) hd
  · rcases hk with hk | hk
    · exact wpAny_Name (wpAny_loadName_cell I.ok.kind hk hc hcell fin) hd
    · exact wpAny_Name (wpAny_loadName_free I.ok.kind hk hc hcell fin hcd) hd
theorem pe_int {i j pos} : PE X (.Constant (.int i) j pos) (tC (.int i)) := fun _ _ _ H _ I h => wpAny_Constant_int ⟨.int i, H, I.tok _, ⟨_, rfl⟩, h⟩
theorem pe_bl {b j pos} : PE X (.Constant (.bool b) j pos) (tC (.bl b)) := fun _ _ _ H _ I h => Constant_bool ⟨.bl b, H, I, rfl, h⟩
theorem pe_non {j pos} : PE X (.Constant .none j pos) (tC .non) := fun _ _ _ H _ I h => Constant_none ⟨.non, H, I, rfl, h⟩
/-- a global name of the def -/
def Gl (X : Cx) (x : Str) : Prop := X.env.kindOf x = some .globalImplicit
theorem ld_glob {E : Value → Shared → Prop} {pins : List (Addr × Obj)} {s : Shared} {σ : St} {H : Hp} {x : Str} {u : Value} {pos : Pos} {Q : Value → Shared → Prop} (I : Inv X pins σ H s) (hg : Gl X x) (hm : X.mg x = some u) (h : Q u s)
    (hd : (x == ("__debug__" : Str)) = false := by decide) : wpAny (model X.prog X.w) X.A (eval (.Name x pos) X.env) Q E s :=
  Calls.Name_function_global I.ok.kind hg (Calls.loadGlobal_global (by rw [I.ok.glob]; exact I.mod.glob.keeps I.bk) hm h) hd
theorem ld_blt {E : Value → Shared → Prop} {pins : List (Addr × Obj)} {s : Shared} {σ : St} {H : Hp} {x : Str} {u : Value} {pos : Pos} {Q : Value → Shared → Prop} (I : Inv X pins σ H s) (hg : Gl X x) (hm : X.mg x = none) (hv : bootBuiltins x = some u) (h : Q u s)
    (hn : x ≠ "__name__" := by decide) (hd : (x == ("__debug__" : Str)) = false := by decide) : wpAny (model X.prog X.w) X.A (eval (.Name x pos) X.env) Q E s := by
  obtain ⟨mb, h1, h2⟩ := I.mod.blt
  exact Calls.Name_function_global I.ok.kind hg (Calls.loadGlobal_builtin (by rw [I.ok.glob]; exact I.mod.glob.keeps I.bk) hm (by rw [I.ok.blt]; exact h1.keeps I.bk) ((h2 x hn).trans hv) h) hd
/-! ### arithmetic -/
variable {a b : Expr} {ta tb : TE} {pos : Pos}
/-! ### comparisons -/
/-- a comparison as a value, as a test -/
def tB (t : TE) : TT := fun σ H Q => t σ H fun x H1 => ∃ c, x = .bl c ∧ Q c H1
/-- an expression whose value is a bool, as a test -/
theorem pt_val {e : Expr} {t : TE} (h : PE X e t) (he : ∀ whole, isTrue e X.env whole = (do let v ← whole; standAt e.pos; holding [v] (truthy v)) := by intro _; rfl) : PT X e (tB t) := by
  intro pins s σ H Q I hw
  refine isTrue_plain (thn (h pins s σ H _ I hw) fun v s1 ⟨x, H1, I1, r1, q1⟩ => ?_) (he _)
  obtain ⟨d, rfl, q⟩ := q1
  cases r1
  exact wpAny_truthy_bool ⟨H1, I1, q⟩

/-! ### and, or, not -/
variable {tA tB' : TT} {rest : List Expr}
def tAnd (t u : TT) : TT := fun σ H Q => t σ H fun c H1 => if c = true then u σ H1 Q else Q false H1
def tNot (t : TT) : TT := fun σ H Q => t σ H fun c H1 => Q (!c) H1
theorem pw_and1 (ha : PT X a tA) : PW X (.BoolOp .And [a] pos) tA := by
  intro wh pins s σ H Q I h
  refine isTrue_and (thn (ha pins s σ H Q I h) fun c s1 e => ?_)
  cases c with
  | true => exact isTrue_and_nil e
  | false => exact e
theorem pw_and (ha : PT X a tA) (hb : PW X (.BoolOp .And (b :: rest) pos) tB') : PW X (.BoolOp .And (a :: b :: rest) pos) (tAnd tA tB') := by
  intro wh pins s σ H Q I h
  refine isTrue_and (thn (ha pins s σ H _ I h) fun c s1 ⟨H1, I1, q1⟩ => ?_)
  cases c with
  | true => exact hb wh pins s1 σ H1 Q I1 q1
  | false => exact ⟨H1, I1, q1⟩
theorem pt_not (ha : PT X a tA) : PT X (.UnaryOp .Not a pos) (tNot tA) := by
  intro pins s σ H Q I h
  exact isTrue_not (ha pins s σ H (fun c H1 => Q (!c) H1) I h)
/-- .. as values (bools) -/
def tAndV (ta tb : TE) : TE := fun σ H Q => ta σ H fun x H1 => ∃ c, x = .bl c ∧ if c = true then tb σ H1 Q else Q (.bl false) H1
theorem pe_one {op} {t : TE} (h : PE X a t) : PE X (.BoolOp op [a] pos) t := fun pins s σ H Q I hw => BoolOp_one (h pins s σ H Q I hw)
theorem pe_and (ha : PE X a ta) (hb : PE X (.BoolOp .And (b :: rest) pos) tb) : PE X (.BoolOp .And (a :: b :: rest) pos) (tAndV ta tb) := by
  intro pins s σ H Q I h
  refine BoolOp_and (thn (ha pins s σ H _ I h) fun v s1 ⟨x, H1, I1, r1, q1⟩ => ?_)
  obtain ⟨c, rfl, q1⟩ := q1
  cases r1
  refine wpAny_truthy_bool ?_
  cases c with
  | true => exact hb pins s1 σ H1 Q I1 q1
  | false => exact ⟨.bl false, H1, I1, rfl, q1⟩
end
end L2

namespace L2
open PySem PySem.Spec PyProof.Rows

/-! ### a list, a tuple that is read: tracked, frozen, or an object of the module -/
def SqL (K : PySem.W.Frag) (H : Hp) (a : Addr) (xs : List V) : Prop :=
  Rd H a (.lst xs) ∨
    ∃ (o : Obj) (its : Array Value) (n : Nat), K.lookup a = some o ∧ o.cls = .type "list" ∧ o.dict = none ∧ o.data = .seq its n ∧ its.size ≤ sizeLine ∧ Vals xs its.toList
def SqT (K : PySem.W.Frag) (H : Hp) (a : Addr) (xs : List V) : Prop :=
  Rd H a (.tup xs) ∨
    ∃ (o : Obj) (its : Array Value) (n : Nat), K.lookup a = some o ∧ o.cls = .type "tuple" ∧ o.data = .seq its n ∧ its.size ≤ sizeLine ∧ Vals xs its.toList
def absV : Value → Option V
  | .none => some .non
  | .bool b => some (.bl b)
  | .int i _ => some (.int i)
  | .str x _ => some (.str x)
  | .bytes b _ => some (.byt b)
  | .float b _ => some (.flt b)
  | .ref a => some (.ref a)
  | .type n => some (.ty n)
  | _ => none
theorem RelV.abs {x : V} {u : Value} (r : RelV x u) : absV u = some x := by
  cases x with
  | non => cases r; rfl
  | bl _ => cases r; rfl
  | int _ => obtain ⟨t, rfl⟩ := r; rfl
  | str _ => obtain ⟨t, rfl⟩ := r; rfl
  | byt _ => obtain ⟨t, rfl⟩ := r; rfl
  | flt _ => obtain ⟨t, rfl⟩ := r; rfl
  | ref _ => cases r; rfl
  | ty _ => cases r; rfl
theorem RelV.inj {x y : V} {u : Value} (r : RelV x u) (q : RelV y u) : x = y := Option.some.inj (r.abs.symm.trans q.abs)
theorem Vals.inj : ∀ {xs ys : List V} {us : List Value}, Vals xs us → Vals ys us → xs = ys
  | _, _, _, .nil, .nil => rfl
  | _, _, _, .cons r t, .cons r' t' => by rw [r.inj r', Vals.inj t t']
section
variable {X : Cx} {pins : List (Addr × Obj)} {σ : St} {H : Hp} {s : Shared} {a : Addr} {xs ys : List V}
theorem SqL.of {K : PySem.W.Frag} (h : H a = some (.lst xs)) : SqL K H a xs := .inl (.inl h)
theorem SqT.of {K : PySem.W.Frag} (h : H a = some (.tup xs)) : SqT K H a xs := .inl (.inl h)
theorem Inv.list (I : Inv X pins σ H s) (h : SqL X.K H a xs) : ∃ its : List Value, Vals xs its ∧ PlainL s.heap a its.toArray ∧ xs.length ≤ sizeLine := by
  rcases h with h | ⟨o, its, n, hk, hc, hd, hs, hz, r⟩
  · obtain ⟨z, its, n, r, e⟩ := h.ok I.hok
    exact ⟨its, r, ⟨_, n, e, rfl, rfl, rfl⟩, z⟩
  · refine ⟨its.toList, r, ⟨o, n, I.kIn a o hk, hc, hd, by simpa using hs⟩, ?_⟩
    have e := r.length
    simp only [Array.length_toList] at e
    omega
theorem Inv.tuple (I : Inv X pins σ H s) (h : SqT X.K H a xs) : ∃ its : List Value, Vals xs its ∧ IsTup s.heap a its.toArray ∧ xs.length ≤ sizeLine := by
  rcases h with h | ⟨o, its, n, hk, hc, hs, hz, r⟩
  · obtain ⟨z, its, r, p⟩ := h.ok I.hok
    exact ⟨its, r, p, z⟩
  · refine ⟨its.toList, r, ⟨o, I.kIn a o hk, hc, n, by simpa using hs⟩, ?_⟩
    have e := r.length
    simp only [Array.length_toList] at e
    omega
theorem Inv.list_inj (I : Inv X pins σ H s) (h : SqL X.K H a xs) (h' : SqL X.K H a ys) : xs = ys := by
  obtain ⟨its, r, ⟨o, n, e, _, _, d⟩, _⟩ := I.list h
  obtain ⟨its', r', ⟨o', n', e', _, _, d'⟩, _⟩ := I.list h'
  rw [e] at e'; cases e'
  rw [d] at d'
  injection d' with d1 _
  have : its = its' := by simpa using congrArg Array.toList d1
  subst this
  exact r.inj r'
theorem Inv.tuple_inj (I : Inv X pins σ H s) (h : SqT X.K H a xs) (h' : SqT X.K H a ys) : xs = ys := by
  obtain ⟨its, r, ⟨o, e, _, n, d⟩, _⟩ := I.tuple h
  obtain ⟨its', r', ⟨o', e', _, n', d'⟩, _⟩ := I.tuple h'
  rw [e] at e'; cases e'
  rw [d] at d'
  injection d' with d1 _
  have : its = its' := by simpa using congrArg Array.toList d1
  subst this
  exact r.inj r'
end

/-! ### another wish about exceptions -/
abbrev Cx.wish (X : Cx) (E : Value → Shared → Prop) : Cx := { X with xe := E }
/-- no exception leaves -/
abbrev Cx.nox (X : Cx) : Cx := X.wish fun _ _ => False
theorem Cx.Ok.wish {X : Cx} (ok : X.Ok) (E : Value → Shared → Prop) : (X.wish E).Ok :=
  ⟨ok.mod, ok.kind, ok.glob, ok.blt, ok.above, ok.inj, ok.has, ok.cab, ok.hd, ok.frames, ok.stk, ok.exf, ok.bs, ok.bsz, ok.noex, ok.exfs, ok.funs, ok.frf⟩
theorem Cx.Ok.unwish {X : Cx} {E : Value → Shared → Prop} (ok : (X.wish E).Ok) : X.Ok :=
  ⟨ok.mod, ok.kind, ok.glob, ok.blt, ok.above, ok.inj, ok.has, ok.cab, ok.hd, ok.frames, ok.stk, ok.exf, ok.bs, ok.bsz, ok.noex, ok.exfs, ok.funs, ok.frf⟩
section
variable {X : Cx} {pins : List (Addr × Obj)} {σ : St} {H : Hp} {s : Shared} {E : Value → Shared → Prop}
theorem Inv.wish (I : Inv X pins σ H s) (E : Value → Shared → Prop) : Inv (X.wish E) pins σ H s := ⟨I.ok.wish E, I.os, I.bare, I.base, I.loc, I.cell, I.free, I.freeC, I.pin, I.hok, I.len⟩
theorem Inv.unwish (I : Inv (X.wish E) pins σ H s) : Inv X pins σ H s := ⟨I.ok.unwish, I.os, I.bare, I.base, I.loc, I.cell, I.free, I.freeC, I.pin, I.hok, I.len⟩
theorem SP.unwish {D : Ends} {f : Flow} {s' : Shared} (h : SP (X.wish E) pins D f s') : SP X pins D f s' := by
  cases f with
  | next => obtain ⟨σ', H', I, q⟩ := h; exact ⟨σ', H', I.unwish, q⟩
  | brk => obtain ⟨σ', H', I, q⟩ := h; exact ⟨σ', H', I.unwish, q⟩
  | cont => obtain ⟨σ', H', I, q⟩ := h; exact ⟨σ', H', I.unwish, q⟩
  | ret u => obtain ⟨v, σ', H', I, r, q⟩ := h; exact ⟨v, σ', H', I.unwish, r, q⟩
theorem PSs.nox {st : List Stmt} {t : TS} (h : PSs X.nox st t) : PSs X st t := fun pins s σ H D I hw =>
  wpAny_mono (h pins s σ H D (I.wish _) hw) (fun _ _ q => q.unwish) fun _ _ z => False.elim z
end

/-! ### blocks and small statements -/
section
variable {X : Cx} {st : Stmt} {rest : List Stmt} {t u : TS} {e : Expr} {te : TE} {pos : Pos}
def tNext : TS := fun D σ H => D.nx σ H
def tSeq (t u : TS) : TS := fun D σ H => t { D with nx := u D } σ H
theorem pss_nil : PSs X [] tNext := fun _ _ σ H _ I h => wpAny_execs_nil ⟨σ, H, I, h⟩
theorem pss_cons (h1 : PS X st t) (h2 : PSs X rest u) : PSs X (st :: rest) (tSeq t u) := by
  intro pins s σ H D I h
  refine wpAny_execs_cons (thn (h1 pins s σ H { D with nx := u D } I h) fun f s1 q => ?_)
  cases f with
  | next =>
    obtain ⟨σ', H', I', q⟩ := q
    exact h2 pins s1 σ' H' D I' q
  | ret v => exact q
  | brk => exact q
  | cont => exact q
theorem pss_one (h1 : PS X st t) : PSs X [st] t := by
  intro pins s σ H D I h
  refine wpAny_execs_cons (thn (h1 pins s σ H D I h) fun f s1 q => ?_)
  cases f with
  | next => exact wpAny_execs_nil q
  | ret v => exact q
  | brk => exact q
  | cont => exact q
/-- in a def's body nothing is shown -/
theorem Inv.quiet {pins : List (Addr × Obj)} {σ : St} {H : Hp} {s : Shared} (I : Inv X pins σ H s) : interactive X.env = false := by simp [interactive, I.ok.kind]
/-- an expression whose value is dropped -/
def tDrop (te : TE) : TS := fun D σ H => te σ H fun _ H1 => D.nx σ H1
theorem ps_expr (he : PE X e te) (hs : swapsWith e none pos.line X.env = pure false := by rfl) : PS X (.Expr e pos) (tDrop te) := by
  intro pins s σ H D I h
  exact wpAny_Expr_any (thn (he pins s σ H _ I h) fun v s1 ⟨x, H1, I1, r1, q1⟩ => ⟨σ, H1, I1, q1⟩) I.quiet hs
def tRet (te : TE) : TS := fun D σ H => te σ H D.rt
theorem ps_ret (he : PE X e te) : PS X (.Return (some e) pos) (tRet te) := by
  intro pins s σ H D I h
  exact wpAny_Return_some (thn (he pins s σ H _ I h) fun v s1 ⟨x, H1, I1, r1, q1⟩ => ⟨x, σ, H1, I1, r1, q1⟩)
def tIfS (c : TT) (t u : TS) : TS := fun D σ H => c σ H fun b H1 => if b = true then t D σ H1 else u D σ H1
theorem ps_if {c : Expr} {a b : List Stmt} {tc : TT} (hc : PT X c tc) (ha : PSs X a t) (hb : PSs X b u) : PS X (.If c a b pos) (tIfS tc t u) := by
  intro pins s σ H D I h
  refine wpAny_If (thn (hc pins s σ H _ I h) fun d s1 ⟨H1, I1, q1⟩ => ?_)
  cases d with
  | true => exact ha pins s1 σ H1 D I1 q1
  | false => exact hb pins s1 σ H1 D I1 q1
end

/-! ### targets -/
abbrev TG := V → St → Hp → (St → Hp → Prop) → Prop
abbrev TGs := List V → St → Hp → (St → Hp → Prop) → Prop
def PG (X : Cx) (target : Expr) (t : TG) : Prop :=
  ∀ (pins : List (Addr × Obj)) (s : Shared) (σ : St) (H : Hp) (v : V) (u : Value) (Q : St → Hp → Prop), Inv X pins σ H s → RelV v u → t v σ H Q →
    wpAny (model X.prog X.w) X.A (assign target X.env u) (fun _ s' => ∃ σ' H', Inv X pins σ' H' s' ∧ Q σ' H') X.xe s
/-- several targets, one after another -/
def PGs (X : Cx) (ts : List Expr) (t : TGs) : Prop :=
  ∀ (pins : List (Addr × Obj)) (s : Shared) (σ : St) (H : Hp) (vs : List V) (us : List Value) (Q : St → Hp → Prop), Inv X pins σ H s → Vals vs us → t vs σ H Q →
    wpAny (model X.prog X.w) X.A (assignInOrder ((assignEach ts X.env).map (·.2)) us) (fun _ s' => ∃ σ' H', Inv X pins σ' H' s' ∧ Q σ' H') X.xe s
/-- o[i] = v, by values -/
abbrev TSet := V → V → V → Hp → (Hp → Prop) → Prop
def PSet (X : Cx) (t : TSet) : Prop :=
  ∀ (pins : List (Addr × Obj)) (s : Shared) (σ : St) (H : Hp) (o i v : V) (ov iv u : Value) (Q : Hp → Prop), Inv X pins σ H s → RelV o ov → RelV i iv → RelV v u → t o i v H Q →
    wpAny (model X.prog X.w) X.A (setItem ov iv u) (fun _ s' => ∃ H', Inv X pins σ H' s' ∧ Q H') X.xe s
/-- a op= b, by values -/
abbrev TIp := V → V → Hp → VK → Prop
def PIp (X : Cx) (op : Operator) (t : TIp) : Prop :=
  ∀ (pins : List (Addr × Obj)) (s : Shared) (σ : St) (H : Hp) (x y : V) (v u : Value) (Q : VK), Inv X pins σ H s → RelV x v → RelV y u → t x y H Q →
    wpAny (model X.prog X.w) X.A (inplaceOp op v u) (EP X pins σ Q) X.xe s
section
variable {X : Cx} {pos : Pos}
def gName (i : Nat) : TG := fun v σ H Q => Q (σ.set i (some v)) H
theorem pg_name {i : Nat} {x : Str} (hN : X.N.Nodup) (hi : X.N[i]? = some x) (hx : Loc X.env.scope x) (hf : X.fn x = true ∨ X.env.scope.names.lookup x = some .local := by first | exact .inl rfl | exact .inr rfl | assumption) : PG X (.Name x pos) (gName i) := by
  intro pins s σ H v u Q I r h
  exact wpAny_assign_Name (store_ok I hN hi hx r (fun s' I' => ⟨_, H, I', h⟩) hf)
def gNil : TGs := fun vs σ H Q => vs = [] ∧ Q σ H
def gCons (t : TG) (u : TGs) : TGs := fun vs σ H Q => ∃ v r, vs = v :: r ∧ t v σ H fun σ' H' => u r σ' H' Q
theorem pgs_nil : PGs X [] gNil := by
  intro pins s σ H vs us Q I r h
  obtain ⟨e, h⟩ := h
  subst e
  cases r
  exact assignInOrder_nil ⟨σ, H, I, h⟩
theorem pgs_cons {e : Expr} {es : List Expr} {t : TG} {u : TGs} (h1 : PG X e t) (h2 : PGs X es u)
    (hs : (assignEach (e :: es) X.env).map (·.2) = assign e X.env :: (assignEach es X.env).map (·.2) := by rfl) : PGs X (e :: es) (gCons t u) := by
  intro pins s σ H vs us Q I r h
  obtain ⟨v, vr, e1, h⟩ := h
  subst e1
  cases r with
  | cons r rr =>
    rw [hs]
    refine assignInOrder_cons (thn (h1 pins s σ H _ _ _ I r h) fun _ s1 ⟨σ1, H1, I1, q1⟩ => ?_)
    exact h2 pins s1 σ1 H1 _ _ Q I1 rr q1
/-- (a, b, ..) = a tuple of that length -/
def gTup (K : PySem.W.Frag) (n : Nat) (t : TGs) : TG := fun v σ H Q => ∃ a xs, v = .ref a ∧ SqT K H a xs ∧ xs.length = n ∧ t xs σ H Q
theorem pg_tup {es : List Expr} {k : Nat} {t : TGs} {n : Nat} (hc : X.calm = true) (h : PGs X es t)
    (hn : (assignEach es X.env).length = n := by rfl) (hst : (assignEach es X.env).findIdx? (·.1) = none := by rfl) : PG X (.Tuple es k pos) (gTup X.K n t) := by
  intro pins s σ H v u Q I r hw
  obtain ⟨a, xs, e1, hq, hl, hw⟩ := hw
  subst e1
  cases r
  obtain ⟨its, rv, ht, hz⟩ := I.tuple hq
  refine assign_Tuple_tuple (I.ok.hd hc) ht (by simp [hn, ← hl, rv.length]) hst fun h' hx => ?_
  have I1 : Inv X pins σ H { s with heap := h' } := I.kept (t' := s.toks) fun b o e => hx b o (Nat.ne_of_lt (Heap.lt_size e)) e
  exact h pins _ σ H xs _ Q I1 (by simpa using rv) hw
/-- o[i] = .. -/
def gSub (to ti : TE) (t : TSet) : TG := fun v σ H Q => to σ H fun o H1 => ti σ H1 fun i H2 => t o i v H2 fun H3 => Q σ H3
theorem pg_sub {o i : Expr} {to ti : TE} {t : TSet} (ho : PE X o to) (hi : PE X i ti) (hs : PSet X t)
    (ha : ∀ v, assign (.Subscript o i pos) X.env v = (do
      let ov ← holding [v] (eval o X.env)
      let iv ← holding [v, ov] (eval i X.env)
      standAt pos
      holding [v, ov, iv] (setItem ov iv v)
      release [v, ov, iv] []) := by intro _; rfl) : PG X (.Subscript o i pos) (gSub to ti t) := by
  intro pins s σ H v u Q I r h
  rw [ha]
  refine wpAny_bind (wpAny_holding (thn (ho pins s σ H _ I h) fun ov s1 ⟨x, H1, I1, r1, q1⟩ => ?_))
  refine wpAny_bind (wpAny_holding (thn (hi pins s1 σ H1 _ I1 q1) fun iv s2 ⟨y, H2, I2, r2, q2⟩ => ?_))
  refine wpAny_bind (wpAny_standAt (wpAny_bind (wpAny_holding (thn (hs pins s2 σ H2 x y v ov iv u _ I2 r1 r2 r q2) fun _ s3 ⟨H3, I3, q3⟩ => ?_))))
  exact wpAny_release ⟨σ, H3, I3, q3⟩
/-- target = value -/
def tAsg (te : TE) (g : TG) : TS := fun D σ H => te σ H fun x H1 => g x σ H1 D.nx
theorem ps_asg {tg e : Expr} {te : TE} {g : TG} (he : PE X e te) (hg : PG X tg g) (hs : swapsWithSole [tg] e pos.line X.env = pure false := by rfl) (hw : swappedStores [tg] e X.env = pure none := by rfl)
    (h1 : (assignEach [tg] X.env).map (·.2) = [assign tg X.env] := by rfl) : PS X (.Assign [tg] e pos) (tAsg te g) := by
  intro pins s σ H D I h
  refine wpAny_Assign_stores (thn (he pins s σ H _ I h) fun v s1 ⟨x, H1, I1, r1, q1⟩ => ?_) hs hw
  rw [h1]
  exact thn (hg pins s1 σ H1 x v _ I1 r1 q1) fun _ s2 q => q
/-- name = value -/
theorem ps_set {i : Nat} {x : Str} {e : Expr} {te : TE} {pos' : Pos} (hN : X.N.Nodup) (hi : X.N[i]? = some x) (hx : Loc X.env.scope x) (he : PE X e te) (hs : swapsWith e (some (.Name x pos')) pos.line X.env = pure false := by rfl) (hf : X.fn x = true ∨ X.env.scope.names.lookup x = some .local := by first | exact .inl rfl | exact .inr rfl | assumption) :
    PS X (.Assign [.Name x pos'] e pos) (tAsg te (gName i)) := by
  intro pins s σ H D I h
  refine wpAny_Assign_Name (thn (he pins s σ H _ I h) fun v s1 ⟨y, H1, I1, r1, q1⟩ => ?_) hs
  exact store_ok I1 hN hi hx r1 (fun s2 I2 => ⟨_, H1, I2, q1⟩) hf
/-- name op= e -/
def tAug (i : Nat) (te : TE) (ti : TIp) : TS := fun D σ H => ∃ x, σ[i]? = some (some x) ∧ te σ H fun y H1 => ti x y H1 fun z H2 => D.nx (σ.set i (some z)) H2
theorem ps_aug {i : Nat} {x : Str} {e : Expr} {te : TE} {op : Operator} {ti : TIp} {pos' : Pos} (hN : X.N.Nodup) (hi : X.N[i]? = some x) (hx : Loc X.env.scope x) (he : PE X e te) (ho : PIp X op ti) (hf : X.fn x = true ∨ X.env.scope.names.lookup x = some .local := by first | exact .inl rfl | exact .inr rfl | assumption) :
    PS X (.AugAssign (.Name x pos') op e pos) (tAug i te ti) := by
  intro pins s σ H D I h
  obtain ⟨v, e1, h⟩ := h
  obtain ⟨m, hn, hl⟩ := I.loc
  have vis : Vis X.env.scope x := by rcases hx with k | k; exact .inl k; exact .inr (.inl k)
  obtain ⟨u, r, l⟩ := hl i x v hi e1 vis
  refine wpAny_AugAssign_Name ?_
  have go : wpAny (model X.prog X.w) X.A (eval e X.env) (fun w s₂ => wpAny (model X.prog X.w) X.A (inplaceOp op u w) (fun r s₃ => wpAny (model X.prog X.w) X.A (storeName X.env x r) (fun _ => SP X pins D .next) X.xe s₃) X.xe s₂) X.xe s := by
    refine thn (he pins s σ H _ I h) fun w s1 ⟨y, H1, I1, r1, q1⟩ => ?_
    refine thn (ho pins s1 σ H1 v y u w _ I1 r r1 q1) fun z s2 ⟨zv, H2, I2, r2, q2⟩ => ?_
    exact store_ok I2 hN hi hx r2 (fun s3 I3 => ⟨_, H2, I3, q2⟩) hf
  rcases l with ⟨hk, hm⟩ | ⟨hk, c, hc, hcell⟩
  · exact wpAny_loadName_local I.ok.kind hk hn hm go
  · rcases hk with hk | hk
    · exact wpAny_loadName_cell I.ok.kind hk hc hcell go
    · rcases hx with k | k
      · have : X.env.scope.names.lookup x = some .free := hk
        rw [k] at this; cases this
      · have : X.env.scope.names.lookup x = some .free := hk
        rw [k] at this; cases this
/-- ints -/
def ipI (f : Int → Int → Int) : TIp := fun x y H Q => ∃ i j, x = .int i ∧ y = .int j ∧ Q (.int (f i j)) H
theorem ip_add : PIp X .Add (ipI fun i j => i + j) := by
  intro pins s σ H x y v u Q I r1 r2 h
  obtain ⟨i, j, e1, e2, q⟩ := h
  subst e1; subst e2
  obtain ⟨t, rfl⟩ := r1
  obtain ⟨t', rfl⟩ := r2
  exact iadd_int ⟨.int _, H, I.tok _, ⟨_, rfl⟩, q⟩
end

/-! ### while -/
section
variable {X : Cx} {pos : Pos}
/-- the invariant W with its measure -/
def tWhile (c : TT) (tb : TS) : TS := fun D σ H => ∃ W : Nat → St → Hp → Prop, (∃ m, W m σ H) ∧ ∀ m σ H, W m σ H →
  c σ H fun b H1 => if b = true then ∃ N : St → Hp → Prop, (∀ σ' H', N σ' H' → ∃ m', m' < m ∧ W m' σ' H') ∧ tb { D with nx := N, ct := N, bk := D.nx } σ H1 else D.nx σ H1
theorem ps_while {c : Expr} {body : List Stmt} {tc : TT} {tb : TS} (hp : PassesOwn (model X.prog X.w) X.A X.env X.xe) (hc : PT X c tc) (hb : PSs X body tb) : PS X (.While c body [] pos) (tWhile tc tb) := by
  intro pins s σ H D I h
  obtain ⟨W, ⟨m0, w0⟩, turn⟩ := h
  refine wpAny_While (codeAny_whileLoop (fun n s' => ∃ σ' H', Inv X pins σ' H' s' ∧ W n σ' H') ?_ m0 ⟨σ, H, I, w0⟩)
  rintro n s1 ⟨σ1, H1, I1, w1⟩
  refine wpAny_passesOwn hp (thn (hc pins s1 σ1 H1 _ I1 (turn n σ1 H1 w1)) fun b s2 ⟨H2, I2, q2⟩ => ?_)
  cases b with
  | true =>
    obtain ⟨N, hN, q2⟩ := q2
    rw [if_pos rfl]
    refine wpAny_passesOwn hp (thn (hb pins s2 σ1 H2 _ I2 q2) fun f s3 q3 => ?_)
    cases f with
    | next =>
      obtain ⟨σ3, H3, I3, n3⟩ := q3
      obtain ⟨m', hm, w3⟩ := hN σ3 H3 n3
      exact ⟨m', hm, σ3, H3, I3, w3⟩
    | cont =>
      obtain ⟨σ3, H3, I3, n3⟩ := q3
      obtain ⟨m', hm, w3⟩ := hN σ3 H3 n3
      exact ⟨m', hm, σ3, H3, I3, w3⟩
    | brk => exact q3
    | ret v => exact q3
  | false =>
    rw [if_neg Bool.false_ne_true]
    exact wpAny_execs_nil ⟨σ1, H2, I2, q2⟩
end

/-! ### what a loop or a comprehension walks -/
/-- at turn i: it yields x (the heap may grow), or it stops -/
structure It where
  go : Nat → Hp → Prop
  yld : Nat → Hp → V → Hp → Prop
  stop : Nat → Hp → Prop
/-- the iterator's own objects may turn: they are not the frame's, not pinned, younger than the entry (or a comprehension's own) -/
def FpOk (X : Cx) (pins : List (Addr × Obj)) (H : Hp) (b : Addr) : Prop :=
  H b = none ∧ b ≠ X.env.locals ∧ b ∉ X.fs ∧ (b ∈ X.ex ∨ X.s₀.heap.objs.size ≤ b) ∧ (∀ x c, X.env.cells.lookup x = some c → c ≠ b) ∧ ∀ p ∈ X.pn ++ pins, p.1 ≠ b
theorem Inv.fpOk {X : Cx} {pins : List (Addr × Obj)} {σ : St} {H H' : Hp} {s : Shared} {b : Addr} (I : Inv X pins σ H s) (hb : s.heap.objs.size ≤ b) (hn : H' b = none) : FpOk X pins H' b := by
  refine ⟨hn, Nat.ne_of_gt (Nat.lt_of_lt_of_le I.lt hb), I.nofs hb, .inr (Nat.le_trans I.sz hb), fun x c e z => ?_, fun p hp z => ?_⟩
  · obtain ⟨v, q⟩ := I.cell x c e
    exact absurd (Nat.lt_of_lt_of_le q.lt (by rw [z]; exact hb)) (Nat.lt_irrefl _)
  · exact absurd (Nat.lt_of_lt_of_le (Heap.lt_size (I.pin p hp).1) (by rw [z]; exact hb)) (Nat.lt_irrefl _)
structure Turn (P : Program) (w : World) (K : PySem.W.Frag) (tg : Expr) (J : It) (fp : List Addr) (it : Addr) (tn : Nat → Heap → Prop) : Prop where
  mem : it ∈ fp
  obj : ∀ i h, tn i h → ∀ b ∈ fp, ∃ o, h.get? b = some o ∧ ∀ v, o.data ≠ .cell v
  keep : ∀ i h h', tn i h → (∀ b ∈ fp, ∀ o, h.get? b = some o → h'.get? b = some o) → tn i h'
  item : ∀ (X : Cx), X.prog = P → X.w = w → X.K = K → X.calm = true → ∀ (i : Nat) (pins : List (Addr × Obj)) (s : Shared) (σ : St) (H : Hp) (E : Value → Shared → Prop), Inv X pins σ H s → (∀ b ∈ fp, FpOk X pins H b) → tn i s.heap → J.go i H →
    wpAny (model P w) X.A (pyNext (.ref it)) (fun r s1 => ∃ u, r = some u ∧
      wpAny (model P w) X.A (letOwnedTupleGo tg (.ref it) u) (fun _ s2 => ∃ x H', Inv X pins σ H' s2 ∧ RelV x u ∧ J.yld i H x H' ∧ tn (i + 1) s2.heap ∧ ∀ b ∈ fp, H' b = none) E s1) E s
  done : ∀ (X : Cx), X.prog = P → X.w = w → X.K = K → X.calm = true → ∀ (i : Nat) (pins : List (Addr × Obj)) (s : Shared) (σ : St) (H : Hp) (E : Value → Shared → Prop), Inv X pins σ H s → (∀ b ∈ fp, FpOk X pins H b) → tn i s.heap → J.stop i H →
    wpAny (model P w) X.A (pyNext (.ref it)) (fun r s1 => r = none ∧ Inv X pins σ H s1) E s
  self : ∀ (A : Around) (i : Nat) (s : Shared) (Q : Value → Shared → Prop) (E : Value → Shared → Prop), tn i s.heap → Q (.ref it) s → wpAny (model P w) A (pyIter (.ref it)) Q E s
abbrev TI := St → Hp → (It → Hp → Prop) → Prop
/-- an iterator has come -/
def PIE (X : Cx) (pins : List (Addr × Obj)) (σ : St) (tg : Expr) (R : It → Hp → Prop) (itv : Value) (s2 : Shared) : Prop :=
  ∃ (it : Addr) (fp : List Addr) (tn : Nat → Heap → Prop) (J : It) (H' : Hp), itv = .ref it ∧ Inv X pins σ H' s2 ∧ Turn X.prog X.w X.K tg J fp it tn ∧ tn 0 s2.heap ∧ (∀ b ∈ fp, FpOk X pins H' b) ∧ R J H'
def PI (X : Cx) (tg iter : Expr) (wi : TI) : Prop :=
  ∀ (pins : List (Addr × Obj)) (s : Shared) (σ : St) (H : Hp) (R : It → Hp → Prop), Inv X pins σ H s → wi σ H R →
    wpAny (model X.prog X.w) X.A (eval iter X.env) (fun v s1 => wpAny (model X.prog X.w) X.A (pyIter v) (PIE X pins σ tg R) X.xe s1) X.xe s

/-- the step ahead of the store is nothing for an iterator that keeps no tuple -/
theorem go_of {M : Model} {A : Around} {E : Value → Shared → Prop} {s : Shared} {tg : Expr} {it : Addr} {u : Value} {o : Obj} {n : String} {vs : Array Value} {Q : Unit → Shared → Prop} (ho : s.heap.get? it = some o) (hc : o.cls = .type n) (hd : o.data = .fields vs)
    (hn : ["enumerate", "zip", "dict_itemiterator", "dict_reverseitemiterator", "odict_iterator", "itertools.zip_longest", "itertools.pairwise"].contains n = false) (hQ : Q () s) : wpAny M A (letOwnedTupleGo tg (.ref it) u) Q E s := by
  unfold letOwnedTupleGo
  cases tg <;> first
    | exact wpAny_pure hQ
    | (cases u <;> first
        | exact wpAny_pure hQ
        | (refine wpAny_bind (wpAny_load ho ?_)
           rw [hc, hd]
           show wpAny M A (if (["enumerate", "zip", "dict_itemiterator", "dict_reverseitemiterator", "odict_iterator", "itertools.zip_longest", "itertools.pairwise"].contains n && vs[0]? == some (rawInt _)) = true then _ else _) Q E s
           rw [if_neg (by intro h; rw [hn, Bool.false_and] at h; cases h)]
           exact wpAny_pure hQ))

/-- the list at a, as it stands at each turn (a loop may append to it) -/
def Itl (K : PySem.W.Frag) (a : Addr) : It :=
  ⟨fun i H => ∃ xs x, SqL K H a xs ∧ xs[i]? = some x, fun i H x H' => H' = H ∧ ∀ xs, SqL K H a xs → xs[i]? = some x, fun i H => ∃ xs, SqL K H a xs ∧ xs.length ≤ i⟩
def Itt (K : PySem.W.Frag) (a : Addr) : It :=
  ⟨fun i H => ∃ xs x, SqT K H a xs ∧ xs[i]? = some x, fun i H x H' => H' = H ∧ ∀ xs, SqT K H a xs → xs[i]? = some x, fun i H => ∃ xs, SqT K H a xs ∧ xs.length ≤ i⟩
/-- lo, lo + 1, .. (n of them) -/
def Itr (lo : Int) (n : Nat) : It := ⟨fun i _ => i < n, fun i H x H' => H' = H ∧ x = .int (lo + i), fun i _ => n ≤ i⟩
theorem turn_list {P : Program} {w : World} {K : PySem.W.Frag} {tg : Expr} (a it : Addr) : Turn P w K tg (Itl K a) [it] it (fun i h => h.IsListIter it a i) where
  mem := by simp
  obj := fun i h st b hb => by
    have e : b = it := by simpa using hb
    subst e
    obtain ⟨o, e, c, d⟩ := st
    exact ⟨o, e, fun v z => by rw [d] at z; cases z⟩
  keep := fun i h h' st k => st.at fun o e => k it (by simp) o e
  item := by
    intro X hP hw hK hc i pins s σ H E I hf st hg
    subst hP hw hK
    obtain ⟨xs, x, hq, hx⟩ := hg
    obtain ⟨its, rv, p, hz⟩ := I.list hq
    obtain ⟨u, hu, ru⟩ := rv.get hx
    obtain ⟨f0, f1, f2, f3, f4, f5⟩ := hf it (by simp)
    refine wpAny_pyNext_list_item st p.isList (x := u) (by simpa using hu) fun h' st' sb => ?_
    have I1 : Inv X pins σ H { s with heap := h' } := I.turned (t' := s.toks) (fun b o hb e => (sb.2 b hb).trans e) f0 f1 f3 f4 f5
    obtain ⟨o, e, c, d⟩ := id st'
    exact ⟨u, rfl, go_of (s := { s with heap := h' }) e c d (by decide) ⟨x, H, I1, ru, ⟨rfl, fun ys hy => by rw [I.list_inj hy hq]; exact hx⟩, st', fun b hb => (hf b hb).1⟩⟩
  done := by
    intro X hP hw hK hc i pins s σ H E I hf st hg
    subst hP hw hK
    obtain ⟨xs, hq, hx⟩ := hg
    obtain ⟨its, rv, p, hz⟩ := I.list hq
    obtain ⟨f0, f1, f2, f3, f4, f5⟩ := hf it (by simp)
    have hl := rv.length
    exact wpAny_pyNext_list_end (I.ok.hd hc) st p.isList (by simp; omega) fun h' eb => ⟨rfl, I.turned (t' := s.toks) (fun b o hb e => eb b o hb e) f0 f1 f3 f4 f5⟩
  self := fun _ _ _ _ _ st h => wpAny_pyIter_listiter st h
theorem turn_tuple {P : Program} {w : World} {K : PySem.W.Frag} {tg : Expr} (a it : Addr) : Turn P w K tg (Itt K a) [it] it (fun i h => h.IsTupleIter it a i) where
  mem := by simp
  obj := fun i h st b hb => by
    have e : b = it := by simpa using hb
    subst e
    obtain ⟨o, e, c, d⟩ := st
    exact ⟨o, e, fun v z => by rw [d] at z; cases z⟩
  keep := fun i h h' st k => st.at fun o e => k it (by simp) o e
  item := by
    intro X hP hw hK hc i pins s σ H E I hf st hg
    subst hP hw hK
    obtain ⟨xs, x, hq, hx⟩ := hg
    obtain ⟨its, rv, p, hz⟩ := I.tuple hq
    obtain ⟨u, hu, ru⟩ := rv.get hx
    obtain ⟨f0, f1, f2, f3, f4, f5⟩ := hf it (by simp)
    refine wpAny_pyNext_tuple_item st (show s.heap.IsTuple a its.toArray from p) (x := u) (by simpa using hu) fun h' st' sb => ?_
    have I1 : Inv X pins σ H { s with heap := h' } := I.turned (t' := s.toks) (fun b o hb e => (sb.2 b hb).trans e) f0 f1 f3 f4 f5
    obtain ⟨o, e, c, d⟩ := id st'
    exact ⟨u, rfl, go_of (s := { s with heap := h' }) e c d (by decide) ⟨x, H, I1, ru, ⟨rfl, fun ys hy => by rw [I.tuple_inj hy hq]; exact hx⟩, st', fun b hb => (hf b hb).1⟩⟩
  done := by
    intro X hP hw hK hc i pins s σ H E I hf st hg
    subst hP hw hK
    obtain ⟨xs, hq, hx⟩ := hg
    obtain ⟨its, rv, p, hz⟩ := I.tuple hq
    obtain ⟨f0, f1, f2, f3, f4, f5⟩ := hf it (by simp)
    have hl := rv.length
    exact wpAny_pyNext_tuple_end (I.ok.hd hc) st (show s.heap.IsTuple a its.toArray from p) (by simp; omega) fun h' eb => ⟨rfl, I.turned (t' := s.toks) (fun b o hb e => eb b o hb e) f0 f1 f3 f4 f5⟩
  self := fun _ _ _ _ _ st h => wpAny_pyIter_tupleiter st h
theorem turn_range {P : Program} {w : World} {K : PySem.W.Frag} {tg : Expr} (it : Addr) (lo : Int) (n : Nat) : Turn P w K tg (Itr lo n) [it] it (fun i h => IsRangeIter h it (lo + (i : Nat) * 1) ((n : Int) - (i : Nat)) 1) where
  mem := by simp
  obj := fun i h st b hb => by
    have e : b = it := by simpa using hb
    subst e
    exact ⟨_, st, fun v z => by
      have z' : Data.fields _ = Data.cell v := z
      cases z'⟩
  keep := fun i h h' st k => k it (by simp) _ st
  item := by
    intro X hP hw hK hc i pins s σ H E I hf st hg
    subst hP hw hK
    obtain ⟨f0, f1, f2, f3, f4, f5⟩ := hf it (by simp)
    have W := Walks.range (prog := X.prog) (w := X.w) (I.ok.hd hc) it lo 1 n
    refine W.item i s _ _ hg st fun v h' tk hv st' kk => ?_
    obtain ⟨t, rfl⟩ := hv
    have I1 : Inv X pins σ H { s with heap := h', toks := tk } := I.turned (fun b o hb e => kk b o (by simpa using hb) e) f0 f1 f3 f4 f5
    refine ⟨_, rfl, go_of (s := { s with heap := h', toks := tk }) (n := "range_iterator") st' rfl rfl (by decide) ⟨.int (lo + i), H, I1, ⟨t, ?_⟩, ⟨rfl, rfl⟩, st', fun b hb => (hf b hb).1⟩⟩
    rw [Int.mul_one]
  done := by
    intro X hP hw hK hc i pins s σ H E I hf st hg
    subst hP hw hK
    obtain ⟨f0, f1, f2, f3, f4, f5⟩ := hf it (by simp)
    exact wpAny_pyNext_range_end (I.ok.hd hc) st (by have : n ≤ i := hg; omega) fun h' eb => ⟨rfl, I.turned (t' := s.toks) (fun b o hb e => eb b o hb e) f0 f1 f3 f4 f5⟩
  self := fun _ _ _ _ _ st h => wpAny_pyIter_rangeiter st h
end L2

namespace L2
open PySem PySem.Spec PyProof.Rows
section
variable {X : Cx} {tg : Expr}
def iList (K : PySem.W.Frag) (tl : TE) : TI := fun σ H R => tl σ H fun x H1 => ∃ a, x = .ref a ∧ (∃ xs, SqL K H1 a xs) ∧ R (Itl K a) H1
def iTup (K : PySem.W.Frag) (tl : TE) : TI := fun σ H R => tl σ H fun x H1 => ∃ a, x = .ref a ∧ (∃ xs, SqT K H1 a xs) ∧ R (Itt K a) H1
/-- a range object just made, walked -/
theorem range_it {pins : List (Addr × Obj)} {σ : St} {H : Hp} {s : Shared} {R : It → Hp → Prop} {E : Value → Shared → Prop} {lo hi : Int} {t u v : Tok} {tk : Nat} (I : Inv X pins σ H s) (h1 : -(2 ^ 62) ≤ lo) (h2 : lo < 2 ^ 62) (h3 : -(2 ^ 62) ≤ hi) (h4 : hi < 2 ^ 62)
    (q : R (Itr lo (hi - lo).toNat) H) : wpAny (model X.prog X.w) X.A (pyIter (.ref s.heap.objs.size)) (PIE X pins σ tg R) E { s with heap := s.heap.push { cls := .type "range", data := .fields #[.int lo t, .int hi u, .int 1 v] }, toks := tk } := by
  refine wpAny_pyIter_range (IsRange.new ..) (small_one h1 h2 h3 h4) ?_
  have I1 : Inv X pins σ H { s with heap := s.heap.push { cls := .type "range", data := .fields #[.int lo t, .int hi u, .int 1 v] }, toks := tk } := I.kept fun b o e => Heap.get?_push_of_some _ e
  refine ⟨(s.heap.push { cls := .type "range", data := .fields #[.int lo t, .int hi u, .int 1 v] }).objs.size, [(s.heap.push { cls := .type "range", data := .fields #[.int lo t, .int hi u, .int 1 v] }).objs.size], _, _, H, rfl,
    I1.kept (t' := tk) fun b o e => Heap.get?_push_of_some _ e, turn_range _ lo (hi - lo).toNat, ?_, fun b hb => ?_, q⟩
  · have e1 : lo + ((0 : Nat) : Int) * 1 = lo := by simp
    have e2 : (((hi - lo).toNat : Nat) : Int) - ((0 : Nat) : Int) = Builtin.Range.rangeSize lo hi 1 := by rw [rangeSize_one]; split <;> omega
    show IsRangeIter _ _ (lo + ((0 : Nat) : Int) * 1) ((((hi - lo).toNat : Nat) : Int) - ((0 : Nat) : Int)) 1
    rw [e1, e2]
    exact Heap.get?_push_size _ rfl
  · have e : b = (s.heap.push { cls := .type "range", data := .fields #[.int lo t, .int hi u, .int 1 v] }).objs.size := by simpa using hb
    subst e
    exact I1.fpOk (Nat.le_refl _) (I1.hok.fresh (Nat.le_refl _))
def iRng1 (ta : TA) : TI := fun σ H R => ta σ H fun vs H1 => ∃ j : Int, vs = [.int j] ∧ -(2 ^ 62) ≤ j ∧ j < 2 ^ 62 ∧ R (Itr 0 j.toNat) H1
theorem pi_range1 {a : Expr} {ta : TA} {p pos : Pos} (hg : Gl X "range") (hm : X.mg "range" = none) (ha : PA X [a] ta) (hs : starEach [a] X.env = [(false, eval a X.env)] := by rfl) : PI X tg (.Call (.Name "range" p) [a] [] pos) (iRng1 ta) := by
  intro pins s σ H R I h
  refine Call_ (ld_blt I hg hm boot_range (PyProof.Rows.callWith_type1 (thn (ha pos pins s σ H _ I h) fun us s1 ⟨vs, H1, I1, r1, q1⟩ => ?_) hs rfl))
  obtain ⟨j, e, q1, q2, q⟩ := q1
  subst e
  cases r1 with
  | cons r rr =>
    cases rr
    obtain ⟨t, rfl⟩ := r
    exact call_range_1 (range_it I1 (by omega) (by omega) q1 q2 (by simpa using q))
/-! ### for -/
/-- W: the invariant by the turn and a measure; N: what the body is to reach -/
def tFor (wi : TI) (g : TG) (tb : TS) : TS := fun D σ H => wi σ H fun J H1 => ∃ W : Nat → Nat → St → Hp → Prop, (∃ m, W 0 m σ H1) ∧ ∀ i m σ H, W i m σ H →
  (J.stop i H ∧ D.nx σ H) ∨ (J.go i H ∧ ∃ N : St → Hp → Prop, (∀ σ' H', N σ' H' → ∃ m', m' < m ∧ W (i + 1) m' σ' H') ∧ ∀ x H', J.yld i H x H' → g x σ H' fun σ2 H2 => tb { D with nx := N, ct := N, bk := D.nx } σ2 H2)
/-- the records at fp as they stand -/
def pinsAt (fp : List Addr) (h : Heap) : List (Addr × Obj) := fp.filterMap fun b => (h.get? b).map fun o => (b, o)
theorem mem_pinsAt {fp : List Addr} {h : Heap} {b : Addr} {o : Obj} (hb : b ∈ fp) (e : h.get? b = some o) : (b, o) ∈ pinsAt fp h := List.mem_filterMap.mpr ⟨b, hb, by rw [e]; rfl⟩
theorem of_pinsAt {fp : List Addr} {h : Heap} {p : Addr × Obj} (hp : p ∈ pinsAt fp h) : p.1 ∈ fp ∧ h.get? p.1 = some p.2 := by
  obtain ⟨b, hb, e⟩ := List.mem_filterMap.mp hp
  cases q : h.get? b with
  | none => rw [q] at e; cases e
  | some o =>
    rw [q] at e
    have e' : (b, o) = p := Option.some.inj e
    subst e'
    exact ⟨hb, q⟩
theorem Inv.pinned {pins : List (Addr × Obj)} {σ : St} {H : Hp} {s : Shared} {fp : List Addr} (I : Inv X pins σ H s) (hf : ∀ b ∈ fp, FpOk X pins H b) (ho : ∀ b ∈ fp, ∃ o, s.heap.get? b = some o ∧ ∀ v, o.data ≠ .cell v) : Inv X (pins ++ pinsAt fp s.heap) σ H s :=
  I.pins_of fun p hp => (List.mem_append.mp hp).elim (fun z => I.pin p (List.mem_append_right _ z)) fun z => by
    obtain ⟨hb, e⟩ := of_pinsAt z
    obtain ⟨f0, f1, f2, _⟩ := hf p.1 hb
    obtain ⟨o, e', d⟩ := ho p.1 hb
    rw [e] at e'; cases e'
    exact ⟨e, f0, f1, f2, d⟩
theorem Inv.unpinned {pins pl : List (Addr × Obj)} {σ : St} {H : Hp} {s : Shared} (I : Inv X (pins ++ pl) σ H s) : Inv X pins σ H s := I.pins_of fun p hp => I.pin p (List.mem_append_right _ (List.mem_append_left _ hp))
theorem ps_for {iter : Expr} {body : List Stmt} {wi : TI} {g : TG} {tb : TS} {pos : Pos} (hp : PassesOwn (model X.prog X.w) X.A X.env X.xe) (hc : X.calm = true) (hi : PI X tg iter wi) (hg : PG X tg g) (hb : PSs X body tb)
    (hs : ∀ x, foldedSetIterable iter X.env x = pure x := by intro _; rfl) : PS X (.For tg iter body [] pos) (tFor wi g tb) := by
  intro pins s σ H D I h
  refine wpAny_For (thn (hi pins s σ H _ I h) fun v s1 h1 => thn h1 fun itv s2 h2 => ?_) hs
  obtain ⟨it, fp, tn, J, H2, e, I2, T, st2, f2, W, ⟨m0, w0⟩, turn⟩ := h2
  subst e
  -- what stays true of the iterator's objects through the loop
  have stat : ∀ {H' : Hp}, (∀ b ∈ fp, H' b = none) → ∀ b ∈ fp, FpOk X pins H' b := fun hn b hb => ⟨hn b hb, (f2 b hb).2⟩
  refine codeAny_forLoop_any (fun n s' => ∃ i σ' H', Inv X pins σ' H' s' ∧ tn i s'.heap ∧ (∀ b ∈ fp, H' b = none) ∧ W i n σ' H') ?_ m0 ⟨0, σ, H2, I2, st2, fun b hb => (f2 b hb).1, w0⟩
  rintro n s3 ⟨i, σ3, H3, I3, st3, fr3, w3⟩
  rcases turn i n σ3 H3 w3 with ⟨stop, qn⟩ | ⟨go, N, hN, step⟩
  · refine wpAny_passesOwn hp (thn (T.done X rfl rfl rfl hc i pins s3 σ3 H3 X.xe I3 (stat fr3) st3 stop) fun r s4 ⟨hr, I4⟩ => ?_)
    subst hr
    exact wpAny_execs_nil ⟨σ3, H3, I4, qn⟩
  · refine wpAny_passesOwn hp (thn (T.item X rfl rfl rfl hc i pins s3 σ3 H3 X.xe I3 (stat fr3) st3 go) fun r s4 ⟨u, hr, h4⟩ => ?_)
    subst hr
    refine wpAny_passesOwn hp (thn h4 fun _ s5 ⟨x, H5, I5, r5, y5, st5, fr5⟩ => ?_)
    have I5' := I5.pinned (stat fr5) (T.obj _ _ st5)
    refine wpAny_passesOwn hp (thn (hg _ s5 σ3 H5 x u _ I5' r5 (step x H5 y5)) fun _ s6 ⟨σ6, H6, I6, q6⟩ => ?_)
    refine wpAny_passesOwn hp (thn (hb _ s6 σ6 H6 _ I6 q6) fun f s7 q7 => ?_)
    have again : ∀ {σ7 : St} {H7 : Hp}, Inv X (pins ++ pinsAt fp s5.heap) σ7 H7 s7 → N σ7 H7 → ∃ m, m < n ∧ ∃ i σ' H', Inv X pins σ' H' s7 ∧ tn i s7.heap ∧ (∀ b ∈ fp, H' b = none) ∧ W i m σ' H' := fun {σ7 H7} I7 n7 => by
      obtain ⟨m', hm, w7⟩ := hN σ7 H7 n7
      refine ⟨m', hm, i + 1, σ7, H7, I7.unpinned, T.keep _ _ _ st5 fun b hb o e => (I7.pin (b, o) (List.mem_append_right _ (List.mem_append_right _ (mem_pinsAt hb e)))).1, fun b hb => ?_, w7⟩
      obtain ⟨o, e, d⟩ := T.obj _ _ st5 b hb
      exact (I7.pin (b, o) (List.mem_append_right _ (List.mem_append_right _ (mem_pinsAt hb e)))).2.1
    cases f with
    | next => obtain ⟨σ7, H7, I7, n7⟩ := q7; exact again I7 n7
    | cont => obtain ⟨σ7, H7, I7, n7⟩ := q7; exact again I7 n7
    | brk => obtain ⟨σ7, H7, I7, q7⟩ := q7; exact ⟨σ7, H7, I7.unpinned, q7⟩
    | ret v => obtain ⟨x7, σ7, H7, I7, r7, q7⟩ := q7; exact ⟨x7, σ7, H7, I7.unpinned, r7, q7⟩
end

/-! ### the forms one uses -/
/-- over a list that the body leaves as it is -/
theorem for_list {K : PySem.W.Frag} {a : Addr} {xs : List V} {g : TG} {tb : TS} {D : Ends} {σ : St} {H : Hp} (Pv : Nat → St → Hp → Prop) (h0 : Pv 0 σ H) (hl : ∀ i σ H, i ≤ xs.length → Pv i σ H → SqL K H a xs)
    (hs : ∀ i x σ H, xs[i]? = some x → Pv i σ H → g x σ H fun σ2 H2 => tb { D with nx := Pv (i + 1), ct := Pv (i + 1), bk := D.nx } σ2 H2) (hd : ∀ σ H, Pv xs.length σ H → D.nx σ H) :
    ∃ W : Nat → Nat → St → Hp → Prop, (∃ m, W 0 m σ H) ∧ ∀ i m σ H, W i m σ H →
      ((Itl K a).stop i H ∧ D.nx σ H) ∨ ((Itl K a).go i H ∧ ∃ N : St → Hp → Prop, (∀ σ' H', N σ' H' → ∃ m', m' < m ∧ W (i + 1) m' σ' H') ∧ ∀ x H', (Itl K a).yld i H x H' → g x σ H' fun σ2 H2 => tb { D with nx := N, ct := N, bk := D.nx } σ2 H2) := by
  refine ⟨fun i m σ H => m = xs.length - i ∧ i ≤ xs.length ∧ Pv i σ H, ⟨xs.length, by simp, Nat.zero_le _, h0⟩, ?_⟩
  rintro i m σ H ⟨rfl, hi, p⟩
  have q := hl i σ H hi p
  by_cases hlt : i < xs.length
  · refine .inr ⟨⟨xs, xs[i], q, by simp [hlt]⟩, Pv (i + 1), fun σ' H' p' => ⟨xs.length - (i + 1), by omega, rfl, hlt, p'⟩, fun x H' y => ?_⟩
    obtain ⟨e, y⟩ := y
    subst e
    exact hs i x σ _ (y xs q) p
  · have e : i = xs.length := by omega
    subst e
    exact .inl ⟨⟨xs, q, Nat.le_refl _⟩, hd σ H p⟩
theorem for_range {lo : Int} {n : Nat} {g : TG} {tb : TS} {D : Ends} {σ : St} {H : Hp} (Pv : Nat → St → Hp → Prop) (h0 : Pv 0 σ H)
    (hs : ∀ i σ H, i < n → Pv i σ H → g (.int (lo + i)) σ H fun σ2 H2 => tb { D with nx := Pv (i + 1), ct := Pv (i + 1), bk := D.nx } σ2 H2) (hd : ∀ σ H, Pv n σ H → D.nx σ H) :
    ∃ W : Nat → Nat → St → Hp → Prop, (∃ m, W 0 m σ H) ∧ ∀ i m σ H, W i m σ H →
      ((Itr lo n).stop i H ∧ D.nx σ H) ∨ ((Itr lo n).go i H ∧ ∃ N : St → Hp → Prop, (∀ σ' H', N σ' H' → ∃ m', m' < m ∧ W (i + 1) m' σ' H') ∧ ∀ x H', (Itr lo n).yld i H x H' → g x σ H' fun σ2 H2 => tb { D with nx := N, ct := N, bk := D.nx } σ2 H2) := by
  refine ⟨fun i m σ H => m = n - i ∧ i ≤ n ∧ Pv i σ H, ⟨n, by simp, Nat.zero_le _, h0⟩, ?_⟩
  rintro i m σ H ⟨rfl, hi, p⟩
  by_cases hlt : i < n
  · refine .inr ⟨hlt, Pv (i + 1), fun σ' H' p' => ⟨n - (i + 1), by omega, rfl, hlt, p'⟩, fun x H' y => ?_⟩
    obtain ⟨e, y⟩ := y
    subst e y
    exact hs i σ _ hlt p
  · have e : i = n := by omega
    subst e
    exact .inl ⟨Nat.le_refl _, hd σ H p⟩
/-- while, by a word and a measure of the state -/
theorem while_by {c : TT} {tb : TS} {D : Ends} {σ : St} {H : Hp} (Pv : St → Hp → Prop) (μ : St → Hp → Nat) (h0 : Pv σ H)
    (hs : ∀ σ H, Pv σ H → c σ H fun b H1 => if b = true then tb { D with nx := fun σ' H' => Pv σ' H' ∧ μ σ' H' < μ σ H, ct := fun σ' H' => Pv σ' H' ∧ μ σ' H' < μ σ H, bk := D.nx } σ H1 else D.nx σ H1)
    (mono : ∀ σ H Q Q', (∀ b H1, Q b H1 → Q' b H1) → c σ H Q → c σ H Q') : tWhile c tb D σ H := by
  refine ⟨fun m σ H => m = μ σ H ∧ Pv σ H, ⟨_, rfl, h0⟩, ?_⟩
  rintro m σ H ⟨rfl, p⟩
  refine mono σ H _ _ (fun b H1 q => ?_) (hs σ H p)
  cases b with
  | true => exact ⟨_, fun σ' H' ⟨p', l⟩ => ⟨_, l, rfl, p'⟩, q⟩
  | false => exact q
end L2

namespace L2
open PySem PySem.Spec PyProof.Rows

abbrev R2 := V → V → Hp → VK → Prop
/-- a two-place operation on values: f is binaryOp op, inplaceOp op or compareOp op -/
def OpR (X : Cx) (f : Value → Value → Sem Value) (r : R2) : Prop :=
  ∀ (pins : List (Addr × Obj)) (s : Shared) (σ : St) (H : Hp) (x y : V) (v u : Value) (Q : VK), Inv X pins σ H s → RelV x v → RelV y u → r x y H Q →
    wpAny (model X.prog X.w) X.A (f v u) (EP X pins σ Q) X.xe s
/-- a call of a value that is known (a builtin, a type) with values -/
def CallR (X : Cx) (f : Value) (r : List V → Hp → VK → Prop) : Prop :=
  ∀ (pins : List (Addr × Obj)) (s : Shared) (σ : St) (H : Hp) (xs : List V) (us : List Value) (Q : VK), Inv X pins σ H s → Vals xs us → r xs H Q →
    wpAny (model X.prog X.w) X.A (call f us) (EP X pins σ Q) X.xe s
/-- a value's truth -/
def TruR (X : Cx) (r : V → Hp → (Bool → Hp → Prop) → Prop) : Prop :=
  ∀ (pins : List (Addr × Obj)) (s : Shared) (σ : St) (H : Hp) (x : V) (v : Value) (Q : Bool → Hp → Prop), Inv X pins σ H s → RelV x v → r x H Q →
    wpAny (model X.prog X.w) X.A (truthy v) (TP X pins σ Q) X.xe s

def tOp (r : R2) (ta tb : TE) : TE := fun σ H Q => ta σ H fun x H1 => tb σ H1 fun y H2 => r x y H2 Q
/-- ints in, under C, and a value out -/
def rI (C : Int → Int → Prop) (g : Int → Int → V) : R2 := fun x y H Q => ∃ i j, x = .int i ∧ y = .int j ∧ C i j ∧ Q (g i j) H
def rI0 (g : Int → Int → V) : R2 := fun x y H Q => ∃ i j, x = .int i ∧ y = .int j ∧ Q (g i j) H
section
variable {X : Cx} {a b c : Expr} {ta tb tc : TE} {pos : Pos}

theorem binT (ha : PE X a ta) (hb : PE X b tb) {pins : List (Addr × Obj)} {s : Shared} {σ : St} {H : Hp} {R : V → V → Hp → Prop} (I : Inv X pins σ H s)
    (h : ta σ H fun x H1 => tb σ H1 fun y H2 => R x y H2) {Q : Value → Shared → Prop} {f : Value → Value → Sem Value}
    (hf : ∀ v u s2 x y H2, Inv X pins σ H2 s2 → RelV x v → RelV y u → R x y H2 → wpAny (model X.prog X.w) X.A (f v u) Q X.xe s2) :
    wpAny (model X.prog X.w) X.A (eval a X.env) (fun v s₁ => wpAny (model X.prog X.w) X.A (eval b X.env) (fun u s₂ => wpAny (model X.prog X.w) X.A (f v u) Q X.xe s₂) X.xe s₁) X.xe s := by
  refine thn (ha pins s σ H _ I h) fun v s1 ⟨x, H1, I1, r1, q1⟩ => ?_
  refine thn (hb pins s1 σ H1 _ I1 q1) fun u s2 ⟨y, H2, I2, r2, q2⟩ => ?_
  exact hf v u s2 x y H2 I2 r1 r2 q2

theorem pe_op {op : Operator} {r : R2} (ho : OpR X (binaryOp op) r) (ha : PE X a ta) (hb : PE X b tb) : PE X (.BinOp a op b pos) (tOp r ta tb) := by
  intro pins s σ H Q I h
  exact wpAny_BinOp (binT ha hb I h fun v u s2 x y H2 I2 rx ry q => ho pins s2 σ H2 x y v u Q I2 rx ry q)
/-! ### ints -/
theorem opI {f : Value → Value → Sem Value} {C : Int → Int → Prop} {g : Int → Int → Int}
    (rule : ∀ (i j : Int) (t u : Tok) (s : Shared) (Q : Value → Shared → Prop) (E : Value → Shared → Prop), C i j → Q (.int (g i j) s.toks) { s with toks := s.toks + 1 } → wpAny (model X.prog X.w) X.A (f (.int i t) (.int j u)) Q E s) :
    OpR X f (rI C fun i j => .int (g i j)) := by
  intro pins s σ H x y v u Q I rx ry h
  obtain ⟨i, j, rfl, rfl, hc, q⟩ := h
  obtain ⟨t, rfl⟩ := rx
  obtain ⟨t', rfl⟩ := ry
  exact rule i j t t' s _ _ hc ⟨.int (g i j), H, I.tok _, ⟨_, rfl⟩, q⟩
theorem opI0 {f : Value → Value → Sem Value} {g : Int → Int → Int}
    (rule : ∀ (i j : Int) (t u : Tok) (s : Shared) (Q : Value → Shared → Prop) (E : Value → Shared → Prop), Q (.int (g i j) s.toks) { s with toks := s.toks + 1 } → wpAny (model X.prog X.w) X.A (f (.int i t) (.int j u)) Q E s) :
    OpR X f (rI0 fun i j => .int (g i j)) := by
  intro pins s σ H x y v u Q I rx ry h
  obtain ⟨i, j, rfl, rfl, q⟩ := h
  obtain ⟨t, rfl⟩ := rx
  obtain ⟨t', rfl⟩ := ry
  exact rule i j t t' s _ _ ⟨.int (g i j), H, I.tok _, ⟨_, rfl⟩, q⟩
theorem opB0 {f : Value → Value → Sem Value} {g : Int → Int → Bool}
    (rule : ∀ (i j : Int) (t u : Tok) (s : Shared) (Q : Value → Shared → Prop) (E : Value → Shared → Prop), Q (.bool (g i j)) s → wpAny (model X.prog X.w) X.A (f (.int i t) (.int j u)) Q E s) :
    OpR X f (rI0 fun i j => .bl (g i j)) := by
  intro pins s σ H x y v u Q I rx ry h
  obtain ⟨i, j, rfl, rfl, q⟩ := h
  obtain ⟨t, rfl⟩ := rx
  obtain ⟨t', rfl⟩ := ry
  exact rule i j t t' s _ _ ⟨.bl (g i j), H, I, rfl, q⟩

def CDiv (i j : Int) : Prop := 0 < j ∧ j < 1073741824
def CPow (i j : Int) : Prop := 0 ≤ j ∧ j ≤ 1000000 ∧ i.natAbs < 2 ^ 64
def CMul (i j : Int) : Prop := (-(2 ^ 64) < i ∧ i < 2 ^ 64) ∨ (-(2 ^ 64) < j ∧ j < 2 ^ 64)
theorem CMul.ok {i j : Int} (h : CMul i j) : IntMulOk i j := by
  rcases h with ⟨h1, h2⟩ | ⟨h1, h2⟩
  · exact .of_left (intBits_le_64 h1 h2)
  · exact .of_right (intBits_le_64 h1 h2)
theorem two_pow_nn (k : Nat) : (0 : Int) ≤ 2 ^ k := by
  rw [two_pow_cast]
  exact Int.natCast_nonneg _

theorem op_add : OpR X (binaryOp .Add) (rI0 fun i j => .int (i + j)) := opI0 fun _ _ _ _ _ _ _ q => add_int q
theorem op_sub : OpR X (binaryOp .Sub) (rI0 fun i j => .int (i - j)) := opI0 fun _ _ _ _ _ _ _ q => sub_int q
theorem op_mul : OpR X (binaryOp .Mult) (rI CMul fun i j => .int (i * j)) := opI fun _ _ _ _ _ _ _ hc q => mul_int q hc.ok
/-- // by a positive divisor -/
theorem op_fdiv : OpR X (binaryOp .FloorDiv) (rI CDiv fun i j => .int (i / j)) := opI fun i j _ _ _ _ _ hc q => by
  have h1 : (0 : Int) < j := hc.1
  have h2 : j < 1073741824 := hc.2
  exact floordiv_int (by omega) (by rw [Int.fdiv_eq_ediv_of_nonneg i (by omega)]; exact q) (.inl (PyProof.noPylong_small (by omega)))
/-- % by a positive divisor of any size -/
theorem op_mod : OpR X (binaryOp .Mod) (rI (fun _ j => 0 < j) fun i j => .int (i % j)) := opI fun i j _ _ _ _ _ hc q => by
  have h1 : (0 : Int) < j := hc
  exact mod_int' (by omega) (by rw [Int.fmod_eq_emod_of_nonneg i (by omega)]; exact q)
theorem op_pow : OpR X (binaryOp .Pow) (rI CPow fun i j => .int (i ^ j.toNat)) := opI fun _ _ _ _ _ _ _ hc q => pow_int_small hc.1 hc.2.1 hc.2.2 q
theorem op_shl : OpR X (binaryOp .LShift) (rI CPow fun i j => .int (i * 2 ^ j.toNat)) := opI fun _ _ _ _ _ _ _ hc q => lshift_int_small hc.1 hc.2.1 hc.2.2 q
theorem op_shr : OpR X (binaryOp .RShift) (rI (fun _ j => 0 ≤ j) fun i j => .int (i / 2 ^ j.toNat)) := opI fun i j _ _ _ _ _ hc q =>
  rshift_int hc (by rw [Int.fdiv_eq_ediv_of_nonneg i (two_pow_nn _)]; exact q)
theorem op_and : OpR X (binaryOp .BitAnd) (rI0 fun i j => .int (Builtin.bitAnd i j)) := opI0 fun _ _ _ _ _ _ _ q => and_int q
/-! ### bools among ints: n += (a < b) -/
end

/-! ### comparisons -/
/-- the scalars that == tells apart as data does -/
def scal : V → V → Bool
  | .non, .non => true | .non, .int _ => true | .int _, .non => true | .non, .bl _ => true | .bl _, .non => true | .non, .str _ => true | .str _, .non => true
  | .int _, .int _ => true | .bl _, .bl _ => true | .str _, .str _ => true | .byt _, .byt _ => true
  | .int _, .str _ => true | .str _, .int _ => true | .bl _, .str _ => true | .str _, .bl _ => true
  | _, _ => false
def rEq : R2 := fun x y H Q => scal x y = true ∧ Q (.bl (decide (x = y))) H
theorem dec_int {i j : Int} : decide (V.int i = V.int j) = (i == j) := by
  rw [Bool.eq_iff_iff]
  simp
theorem dec_bl {i j : Bool} : decide (V.bl i = V.bl j) = (i == j) := by
  rw [Bool.eq_iff_iff]
  simp
theorem dec_str {i j : Str} : decide (V.str i = V.str j) = (i == j) := by
  rw [Bool.eq_iff_iff]
  simp
theorem dec_byt {i j : Array UInt8} : decide (V.byt i = V.byt j) = (i.toList == j.toList) := by
  rw [Bool.eq_iff_iff]
  cases i
  cases j
  simp

section
variable {X : Cx} {a b c : Expr} {ta tb tc : TE} {pos : Pos}
theorem fin_bl {pins : List (Addr × Obj)} {σ : St} {H : Hp} {s : Shared} {Q : VK} {k k' : Bool} (I : Inv X pins σ H s) (q : Q (.bl k) H) (e : k = k') : EP X pins σ Q (.bool k') s := by
  subst e
  exact ⟨.bl k, H, I, rfl, q⟩
theorem op_eq : OpR X (compareOp .Eq) rEq := by
  intro pins s σ H x y v u Q I rx ry h
  obtain ⟨hs, q⟩ := h
  cases x with
  | non =>
    cases rx
    cases y with
    | non => cases ry; exact PySem.EqNone.eq_none_none (fin_bl I q (by simp))
    | bl j => cases ry; exact PySem.EqNone.eq_none_bool (fin_bl I q (by simp))
    | int j => obtain ⟨t', rfl⟩ := ry; exact PySem.EqNone.eq_none_int (fin_bl I q (by simp))
    | str j => obtain ⟨t', rfl⟩ := ry; exact PySem.EqNone.eq_none_str (fin_bl I q (by simp))
    | _ => exact absurd (show false = true from hs) Bool.false_ne_true
  | bl i =>
    cases rx
    cases y with
    | non => cases ry; exact PySem.EqNone.eq_bool_none (fin_bl I q (by simp))
    | bl j => cases ry; exact eq_bool (fin_bl I q dec_bl)
    | str j => obtain ⟨t', rfl⟩ := ry; exact PySem.EqMixed.eq_bool_str (fin_bl I q (by simp))
    | _ => exact absurd (show false = true from hs) Bool.false_ne_true
  | int i =>
    obtain ⟨t, rfl⟩ := rx
    cases y with
    | non => cases ry; exact PySem.EqNone.eq_int_none (fin_bl I q (by simp))
    | int j => obtain ⟨t', rfl⟩ := ry; exact eq_int (fin_bl I q dec_int)
    | str j => obtain ⟨t', rfl⟩ := ry; exact PySem.EqMixed.eq_int_str (fin_bl I q (by simp))
    | _ => exact absurd (show false = true from hs) Bool.false_ne_true
  | str i =>
    obtain ⟨t, rfl⟩ := rx
    cases y with
    | non => cases ry; exact PySem.EqNone.eq_str_none (fin_bl I q (by simp))
    | bl j => cases ry; exact PySem.EqMixed.eq_str_bool (fin_bl I q (by simp))
    | int j => obtain ⟨t', rfl⟩ := ry; exact PySem.EqMixed.eq_str_int (fin_bl I q (by simp))
    | str j => obtain ⟨t', rfl⟩ := ry; exact eq_str (fin_bl I q dec_str)
    | _ => exact absurd (show false = true from hs) Bool.false_ne_true
  | byt i =>
    obtain ⟨t, rfl⟩ := rx
    cases y with
    | byt j => obtain ⟨t', rfl⟩ := ry; exact PySem.W.eq_bytes (fin_bl I q dec_byt)
    | _ => exact absurd (show false = true from hs) Bool.false_ne_true
  | _ => cases y <;> exact absurd (show false = true from hs) Bool.false_ne_true
theorem op_lt : OpR X (compareOp .Lt) (rI0 fun i j => .bl (decide (i < j))) := opB0 fun _ _ _ _ _ _ _ q => lt_int q
theorem op_gt : OpR X (compareOp .Gt) (rI0 fun i j => .bl (decide (j < i))) := opB0 fun _ _ _ _ _ _ _ q => gt_int q
theorem nomark (b : Expr) {op : CmpOp} (h : op ≠ .In := by decide) (h2 : op ≠ .NotIn := by decide) : behindInMarks op b = false := by
  have e1 : (op == CmpOp.In) = false := by cases op <;> first | rfl | exact absurd rfl h
  have e2 : (op == CmpOp.NotIn) = false := by cases op <;> first | rfl | exact absurd rfl h2
  cases b <;> simp [behindInMarks, e1, e2]
/-- a comparison as a value; hm: nomark b, or (for in, not in) by with_unfolding_all rfl -/
theorem pe_cmpR {op : CmpOp} {r : R2} (ho : OpR X (compareOp op) r) (ha : PE X a ta) (hb : PE X b tb) (hm : behindInMarks op b = false) : PE X (.Compare a [op] [b] pos) (tOp r ta tb) := by
  intro pins s σ H Q I h
  exact wpAny_Compare1 (binT ha hb I h fun v u s2 x y H2 I2 rx ry q => ho pins s2 σ H2 x y v u Q I2 rx ry q) hm
/-- a reading of a value as a test -/
def tTest (t : TE) : TT := fun σ H Q => t σ H fun x H' => ∃ k, x = .bl k ∧ Q k H'
theorem pt_cmpR {op : CmpOp} {r : R2} (ho : OpR X (compareOp op) r) (ha : PE X a ta) (hb : PE X b tb) (hm : behindInMarks op b = false) : PT X (.Compare a [op] [b] pos) (tTest (tOp r ta tb)) := by
  intro pins s σ H Q I h
  refine wpAny_isTrue_Compare1 (thn (ha pins s σ H _ I h) fun v s1 ⟨x, H1, I1, r1, q1⟩ => thn (hb pins s1 σ H1 _ I1 q1) fun u s2 ⟨y, H2, I2, r2, q2⟩ =>
    thn (ho pins s2 σ H2 x y v u _ I2 r1 r2 q2) fun c s3 ⟨z, H3, I3, r3, k, e, q3⟩ => ?_) hm
  subst e
  cases r3
  exact wpAny_truthy_bool ⟨H3, I3, q3⟩
/-! ### truth -/
/-- a value's truth by the abstract heap -/
def TruV (K : PySem.W.Frag) (x : V) (H : Hp) (k : Bool) : Prop :=
  match x with
  | .non => k = false
  | .bl b => k = b
  | .int i => k = (i != 0)
  | .str y => y.length ≤ sizeLine ∧ k = ((y.length : Int) != 0)
  | .byt y => y.size ≤ sizeLine ∧ k = ((y.size : Int) != 0)
  | .ref p => (∃ xs, SqL K H p xs ∧ k = !xs.isEmpty) ∨ (∃ xs, SqT K H p xs ∧ k = !xs.isEmpty) ∨ ∃ kvs, H p = some (.dK kvs) ∧ k = !kvs.isEmpty
  | _ => False
theorem isEmpty_kv {κ : Type} {kvs : List (κ × V)} {vs : List (κ × Value)} (r : KV kvs vs) : (!vs.isEmpty) = !kvs.isEmpty := by
  cases r <;> rfl
theorem isEmpty_of {xs : List V} {its : List Value} (r : Vals xs its) : (!its.toArray.isEmpty) = !xs.isEmpty := by
  cases r <;> simp
theorem line63 : (sizeLine : Nat) < 2 ^ 63 := by rw [sizeLine_eq]; decide
theorem tru_ok : TruR X (fun x H Q => ∃ k, TruV X.K x H k ∧ Q k H) := by
  intro pins s σ H x v Q I rx h
  obtain ⟨k, e, q⟩ := h
  have hl := line63
  have hs : sizeLine = 16777216 := sizeLine_eq
  cases x with
  | non =>
    cases rx
    have e' : k = false := e
    subst e'
    exact truthy_none ⟨H, I, q⟩
  | bl b =>
    cases rx
    have e' : k = b := e
    subst e'
    exact wpAny_truthy_bool ⟨H, I, q⟩
  | int i =>
    obtain ⟨t, rfl⟩ := rx
    have e' : k = (i != 0) := e
    subst e'
    exact PySem.P.truthy_int ⟨H, I, q⟩
  | str y =>
    obtain ⟨t, rfl⟩ := rx
    obtain ⟨hy, e'⟩ : y.length ≤ sizeLine ∧ k = ((y.length : Int) != 0) := e
    subst e'
    exact PySem.P.truthy_str (by omega) ⟨H, I.tok _, q⟩
  | byt y =>
    obtain ⟨t, rfl⟩ := rx
    obtain ⟨hy, e'⟩ : y.size ≤ sizeLine ∧ k = ((y.size : Int) != 0) := e
    subst e'
    exact PySem.W.truthy_bytes (by omega) ⟨H, I.tok _, q⟩
  | ref p =>
    cases rx
    have e' : (∃ xs, SqL X.K H p xs ∧ k = !xs.isEmpty) ∨ (∃ xs, SqT X.K H p xs ∧ k = !xs.isEmpty) ∨ ∃ kvs, H p = some (.dK kvs) ∧ k = !kvs.isEmpty := e
    rcases e' with ⟨xs, hx, e'⟩ | ⟨xs, hx, e'⟩ | ⟨kvs, hx, e'⟩
    · subst e'
      obtain ⟨its, r, pl, hz⟩ := I.list hx
      have hlen := r.length
      exact wpAny_truthy_list pl.isList (by simp only [List.size_toArray]; omega) ⟨H, I.tok _, by rw [isEmpty_of r]; exact q⟩
    · subst e'
      obtain ⟨its, r, pl, hz⟩ := I.tuple hx
      have hlen := r.length
      exact truthy_tuple pl (by simp only [List.size_toArray]; omega) ⟨H, I.tok _, by rw [isEmpty_of r]; exact q⟩
    · subst e'
      obtain ⟨hz, hS, vs, r, m⟩ : kvs.length ≤ sizeLine ∧ (p == sysModules) = false ∧ ∃ vs, KV kvs vs ∧ s.heap.DictOf (mixKind X.prog X.w) p vs := I.hok p _ hx
      have hlen : kvs.length = vs.length := Paired.length r
      exact wpAny_truthy_dict hS m (by omega) ⟨H, I.tok _, by rw [isEmpty_kv r]; exact q⟩
  | _ => exact (show False from e).elim
/-- any expression whose test is its value's truth (a name, a call, a subscript, a field ..: he by fun _ => rfl) -/
theorem pt_truth (ha : PE X a ta) (he : ∀ whole, isTrue a X.env whole = (do let v ← whole; standAt a.pos; holding [v] (truthy v))) :
    PT X a (fun σ H Q => ta σ H fun x H' => ∃ k, TruV X.K x H' k ∧ Q k H') := by
  intro pins s σ H Q I h
  exact isTrue_plain (thn (ha pins s σ H _ I h) fun v s1 ⟨x, H1, I1, r1, q1⟩ => tru_ok pins s1 σ H1 x v Q I1 r1 q1) (he _)

/-! ### strs and bytes -/
/-! ### scalar builtins, by CallR -/
theorem vals1 {x : V} {us : List Value} (r : Vals [x] us) : ∃ u, us = [u] ∧ RelV x u := by
  cases r with
  | cons r1 r2 => cases r2; exact ⟨_, rfl, r1⟩
theorem vals2 {x y : V} {us : List Value} (r : Vals [x, y] us) : ∃ u w', us = [u, w'] ∧ RelV x u ∧ RelV y w' := by
  cases r with
  | cons r1 r2 =>
    cases r2 with
    | cons r3 r4 => cases r4; exact ⟨_, _, rfl, r1, r3⟩
theorem call_max2 (hc : X.calm = true) : CallR X (.builtin "max") (fun xs H Q => ∃ i j, xs = [.int i, .int j] ∧ Q (.int (if j > i then j else i)) H) := by
  intro pins s σ H xs us Q I r h
  obtain ⟨i, j, rfl, q⟩ := h
  obtain ⟨u, w', rfl, ⟨t, rfl⟩, ⟨t', rfl⟩⟩ := vals2 r
  refine max_two_ints (I.ok.hd hc) fun h' tk k => ⟨_, H, I.kept k, ?_, q⟩
  by_cases hj : j > i
  · rw [if_pos hj, if_pos hj]; exact ⟨_, rfl⟩
  · rw [if_neg hj, if_neg hj]; exact ⟨_, rfl⟩
theorem call_min2 (hc : X.calm = true) : CallR X (.builtin "min") (fun xs H Q => ∃ i j, xs = [.int i, .int j] ∧ Q (.int (if j < i then j else i)) H) := by
  intro pins s σ H xs us Q I r h
  obtain ⟨i, j, rfl, q⟩ := h
  obtain ⟨u, w', rfl, ⟨t, rfl⟩, ⟨t', rfl⟩⟩ := vals2 r
  refine min_two_ints (I.ok.hd hc) fun h' tk k => ⟨_, H, I.kept k, ?_, q⟩
  by_cases hj : j < i
  · rw [if_pos hj, if_pos hj]; exact ⟨_, rfl⟩
  · rw [if_neg hj, if_neg hj]; exact ⟨_, rfl⟩
theorem call_int1 : CallR X (.type "int") (fun xs H Q => (∃ i, xs = [.int i] ∧ Q (.int i) H) ∨ ∃ k, xs = [.bl k] ∧ Q (.int (if k then 1 else 0)) H) := by
  intro pins s σ H xs us Q I r h
  rcases h with ⟨i, rfl, q⟩ | ⟨k, rfl, q⟩
  · obtain ⟨u, rfl, t, rfl⟩ := vals1 r
    exact call_int_int ⟨.int i, H, I, ⟨_, rfl⟩, q⟩
  · obtain ⟨u, rfl, r1⟩ := vals1 r
    cases r1
    exact call_int_bool ⟨.int (if k then 1 else 0), H, I.tok _, ⟨_, rfl⟩, q⟩
end
end L2

namespace L2
open PySem PySem.Spec PyProof.Rows

/-! ### an instance, its attributes a map -/
section
variable {prog : Program} {w : World} {A : Around} {E : Value → Shared → Prop} {s : Shared} {K : PySem.W.Frag} {x dx C f : Addr} {mA : Str → Option Value} {name : Str} {v : Value}

end

/-! ### the attributes as a list of pairs -/
section
variable {P : Program} {w : World} {H H' : Hp} {h h' : Heap} {a C dx : Addr} {fs fs' : List (Str × V)}
end

/-! ### what of the text a class must have -/
section
variable {X : Cx} {pins : List (Addr × Obj)} {σ : St} {H : Hp} {s : Shared} {a C dx : Addr} {fs : List (Str × V)} {f : Str} {v : V} {A : Around} {E : Value → Shared → Prop}

end

/-! ### readings and rules -/
section
variable {X : Cx} {o e value : Expr} {f : Str} {pos pos' tpos : Pos} {ta tv : TE}
end

/-! ### isinstance -/
section
variable {X : Cx} {pins : List (Addr × Obj)} {σ : St} {H : Hp} {s : Shared} {A : Around} {E : Value → Shared → Prop} {Q : Value → Shared → Prop} {c : Value} {b : Bool}
end
end L2

namespace L2
open PySem PySem.Spec PyProof.Rows

/-! ### room -/
structure Room (k : Nat) (A : Around) : Prop where
  hd : A.handled = none
  dp : A.depth + 3 * k + 5 < recursionLimit
  un : A.units + 16 * k + 200 < cLine
theorem Room.mono {j k : Nat} {A : Around} (r : Room k A) (h : j ≤ k) : Room j A := ⟨r.hd, by have := r.dp; omega, by have := r.un; omega⟩
theorem Room.deeper {k : Nat} {A : Around} (r : Room (k + 1) A) (env : Env) : Room k (A.deeper env) :=
  ⟨r.hd, by have := r.dp; show A.depth + 1 + 3 * k + 5 < _; omega, by have := r.un; show A.units + 3 + 16 * k + 200 < _; omega⟩
theorem Room.depth {k : Nat} {A : Around} (r : Room k A) : A.depth < recursionLimit := by have := r.dp; omega
theorem Room.units {k : Nat} {A : Around} (r : Room k A) : A.units + 64 < cLine := by have := r.un; omega
/-! ### argument lists and displays -/
def tNil : TA := fun _ H Q => Q [] H
def tCons (ta : TE) (tr : TA) : TA := fun σ H Q => ta σ H fun x H1 => tr σ H1 fun xs H2 => Q (x :: xs) H2
section
variable {X : Cx} {e : Expr} {es : List Expr} {te : TE} {t : TA} {pos : Pos}
theorem pa_nil : PA X [] tNil := fun _ _ _ _ H Q I h => Calls.spliced_nil ⟨[], H, I, .nil, h⟩
theorem pa_cons (ha : PE X e te) (hr : PA X es t) (hs : starEach (e :: es) X.env = (false, eval e X.env) :: starEach es X.env := by rfl) : PA X (e :: es) (tCons te t) := by
  intro pos pins s σ H Q I h
  rw [hs]
  show wpAny _ _ (spliced ((false, eval e X.env) :: backTo pos (starEach es X.env))) _ _ s
  refine Calls.spliced_cons (thn (ha pins s σ H _ I h) fun u s1 ⟨x, H1, I1, r1, q1⟩ => ?_)
  exact thn (hr pos pins s1 σ H1 _ I1 q1) fun us s2 ⟨xs, H2, I2, r2, q2⟩ => ⟨x :: xs, H2, I2, .cons r1 r2, q2⟩

/-- a tuple, a list of written items -/
def tTup (t : TA) : TE := fun σ H Q => t σ H fun xs H1 => xs.length ≤ sizeLine ∧ ∀ p, H1 p = none → Q (.ref p) (upd H1 p (.tup xs))
def tLst (t : TA) : TE := fun σ H Q => t σ H fun xs H1 => xs.length ≤ sizeLine ∧ ∀ p, H1 p = none → Q (.ref p) (upd H1 p (.lst xs))
theorem pe_tup {x1} (h : PA X es t) : PE X (.Tuple es x1 pos) (tTup t) := by
  intro pins s σ H Q I hq
  refine wpAny_Tuple_spliced (thn (h pos pins s σ H _ I hq) fun us s1 ⟨xs, H1, I1, r, z, q⟩ => ⟨by rw [← r.length]; exact z, ?_⟩)
  have hf : H1 s1.heap.objs.size = none := I1.hok.fresh (Nat.le_refl _)
  refine ⟨.ref s1.heap.objs.size, upd H1 s1.heap.objs.size (.tup xs), I1.laid (t' := s1.toks) (fun b u e => Heap.get?_push_of_some _ e) (Nat.le_refl _) ?_, rfl, q _ hf⟩
  exact ⟨z, us, r, ⟨_, Heap.get?_push_size _ rfl, rfl, _, rfl⟩⟩
theorem pe_lst (h : PA X es t) : PE X (.List es pos) (tLst t) := by
  intro pins s σ H Q I hq
  refine wpAny_List_spliced (thn (h pos pins s σ H _ I hq) fun us s1 ⟨xs, H1, I1, r, z, q⟩ => ⟨by rw [← r.length]; exact z, ?_⟩)
  have hf : H1 s1.heap.objs.size = none := I1.hok.fresh (Nat.le_refl _)
  refine ⟨.ref s1.heap.objs.size, upd H1 s1.heap.objs.size (.lst xs), I1.laid (t' := s1.toks) (fun b u e => Heap.get?_push_of_some _ e) (Nat.le_refl _) ?_, rfl, q _ hf⟩
  exact ⟨z, us, 0, r, Heap.get?_push_size _ rfl⟩
end

/-! ### what a def promises -/
/-- a def's promise: the bound arguments in the parameters' order, the heap, the wanted end, the wanted exception -/
abbrev Sp := List V → Hp → VK → XK → Prop
/-- how an exception lies behind a call (file 08 gives it): the callers' frames, abstract heap and state ahead of the call, the wish, the exception, the state -/
abbrev CXT := List Env → Hp → Shared → XK → Value → Shared → Prop

/-- the state at a call -/
structure Env0 (P : Program) (w : World) (K : PySem.W.Frag) (mg : Str → Option Value) (base : Heap) (A : Around) (outer : List Env) (s : Shared) (H : Hp) : Prop where
  frames : A.frames = some outer
  mod : Mod K mg base
  bs : ∀ b o, base.get? b = some o → s.heap.get? b = some o ∧ H b = none
  bsz : base.objs.size ≤ s.heap.objs.size
  funs : s.heap.FunFrames base outer
  frf : ∀ b ∈ frs outer, H b = none
  hok : HOk P w H s.heap
  bare : AllBare s.gens
/-- a call's end -/
def CE (outer : List Env) (P : Program) (w : World) (H : Hp) (s : Shared) (Q : VK) (u : Value) (s' : Shared) : Prop :=
  ∃ v H', s'.os = s.os ∧ AllBare s'.gens ∧ Un (frs outer) [] H H' s.heap s'.heap ∧ HOk P w H' s'.heap ∧ RelV v u ∧ Q v H'
def CR (CX : CXT) (outer : List Env) (P : Program) (w : World) (H : Hp) (s : Shared) (Q : VK) (E : XK) (r : Result) (s' : Shared) : Prop :=
  match r with
  | .ok (.ret u) => CE outer P w H s Q u s'
  | .ok _ => False
  | .error e => CX outer H s E e s'
structure FnOk (P : Program) (w : World) (K : PySem.W.Frag) (mg : Str → Option Value) (base : Heap) (CX : CXT) (k : Nat) (f : Addr) (fd : FuncData) (ps : List Str) (sp : Sp) : Prop where
  len : ∀ vs H Q E, sp vs H Q E → vs.length = ps.length
  run : ∀ (A : Around) (outer : List Env) (s : Shared) (H : Hp) (args : Args) (us : List Value) (vs : List V) (Q : VK) (E : XK), Room k A → Env0 P w K mg base A outer s H → BindsTo s fd args (ps.zip us) → Vals vs us → sp vs H Q E →
    codeAny (model P w) A (.call (.ref f) args) (CR CX outer P w H s Q E) s
section
variable {X : Cx} {pins : List (Addr × Obj)} {σ : St} {H : Hp} {s s' : Shared}
/-- from a body: what a callee wants -/
theorem Inv.env0 (I : Inv X pins σ H s) : Env0 X.prog X.w X.K X.mg X.base X.A X.stack s H :=
  ⟨I.ok.frames, I.ok.mod, I.bs, Nat.le_trans I.ok.bsz I.sz, I.stack, I.stkFree, I.hok, I.bare⟩
/-- behind a call -/
theorem Inv.after {Q : VK} {u : Value} (I : Inv X pins σ H s) (h : CE X.stack X.prog X.w H s Q u s') : EP X pins σ Q u s' := by
  obtain ⟨v, H', os, bare, un, hok, r, q⟩ := h
  obtain ⟨hh, g, d, t, os'⟩ := s'
  obtain rfl : os' = s.os := os
  exact ⟨v, H', I.call (h' := hh) (g' := g) (d' := d) (t' := t) (ch := []) un hok bare (fun b z => absurd z (by simp)), r, q⟩
end

/-! ### calls -/
/-- f(..): the written arguments, then the defaults dvs; E: what is wanted of an exception -/
def tCall (sp : Sp) (dvs : List V) (E : XK) (t : TA) : TE := fun σ H Q => t σ H fun vs H1 => sp (vs ++ dvs) H1 Q E
/-- how the parameters are bound: us the positional arguments, kw the keywords' values by name, ds the defaults that fill up -/
def Binds (K : PySem.W.Frag) (fd : FuncData) (ps : List Str) (ds : List Value) : Prop :=
  ∀ (s : Shared) (us : List Value), K.In s.heap → (us ++ ds).length = ps.length → BindsTo s fd ⟨us, []⟩ (ps.zip (us ++ ds))
/-- every parameter is given -/
theorem Binds.all {K : PySem.W.Frag} {fd : FuncData} {ps : List Str} (h : ∀ us : List Value, us.length = ps.length → bindArgs fd ⟨us, []⟩ = pure (ps.zip us)) : Binds K fd ps [] := fun s us _ hl => by
  rw [List.append_nil] at hl ⊢
  exact .of_eq (h us hl)

/-- an exception of a callee reaches what this body wants of exceptions -/
def Passes (CX : CXT) (X : Cx) (E : XK) : Prop := ∀ (pins : List (Addr × Obj)) (σ : St) (H : Hp) (s : Shared) (e : Value) (s' : Shared), Inv X pins σ H s → CX X.stack H s E e s' → X.xe e s'

section
variable {X : Cx} {CX : CXT} {k : Nat} {f C : Addr} {fd : FuncData} {ps : List Str} {sp : Sp} {dvs : List V} {ds : List Value} {E : XK} {x m : Str} {p pos apos : Pos} {e o : Expr} {es : List Expr} {ta : TE} {t : TA}

/-- the callee runs -/
theorem run_fn {pins : List (Addr × Obj)} {σ : St} {H : Hp} {s : Shared} {Q : VK} {us : List Value} {vs : List V} (F : FnOk X.prog X.w X.K X.mg X.base CX k f fd ps sp) (hr : Room k X.A) (hb : Binds X.K fd ps ds) (hd : Vals dvs ds) (hx : Passes CX X E)
    (I : Inv X pins σ H s) (r : Vals vs us) (h : sp (vs ++ dvs) H Q E) : wpAny (model X.prog X.w) X.A (call (.ref f) us) (EP X pins σ Q) X.xe s := by
  have r2 : Vals (vs ++ dvs) (us ++ ds) := r.append hd
  have hl : (us ++ ds).length = ps.length := by rw [← r2.length]; exact F.len _ _ _ _ h
  refine wpAny_call (codeAny_mono (F.run X.A X.stack s H ⟨us, []⟩ (us ++ ds) (vs ++ dvs) Q E hr I.env0 (hb s us I.kIn hl) r2 h) fun r s' hq => ?_)
  cases r with
  | error e => exact hx pins σ H s e s' I hq
  | ok fl =>
    cases fl with
    | ret u => exact I.after hq
    | next => exact False.elim hq
    | brk => exact False.elim hq
    | cont => exact False.elim hq

theorem pe_call (F : FnOk X.prog X.w X.K X.mg X.base CX k f fd ps sp) (hr : Room k X.A) (hg : Gl X x) (hm : X.mg x = some (.ref f)) (hk : PySem.W.keepIn X.K (.ref f) = true) (hb : Binds X.K fd ps ds) (hd : Vals dvs ds) (hx : Passes CX X E)
    (ha : PA X (e :: es) t) (hdb : (x == ("__debug__" : Str)) = false := by decide) (he : starEach (e :: es) X.env = (false, eval e X.env) :: starEach es X.env := by rfl) (hpl : (backTo pos (starEach es X.env)).any (·.1) = false := by rfl) :
    PE X (.Call (.Name x p) (e :: es) [] pos) (tCall sp dvs E t) := by
  intro pins s σ H Q I h
  refine wpAny_Call_Name_kw (ld_glob I hg hm ?_ hdb)
  refine PySem.W.callWith_K (h₀ := X.base) I.ok.mod.kin hk (thn (ha pos pins s σ H _ I h) fun us s1 ⟨vs, H1, I1, r, q⟩ => ⟨I1.kIn, ?_⟩) he hpl
  exact run_fn F hr hb hd hx I1 r q
end

/-! ### keywords -/
section
variable {X : Cx} {CX : CXT} {k : Nat} {f C : Addr} {fd : FuncData} {ps ks : List Str} {sp : Sp} {E : XK} {x m : Str} {p pos apos kpos : Pos} {e o : Expr} {es : List Expr} {kws : List Keyword} {te ta : TE} {t tk : TA} {nm : Option Str}
variable {g : List Value → List Value → List Value} {gV : List V → List V → List V}
end

/-! ### a def's body keeps its promise -/
/-- names: the parameters first -/
structure FnScope (N P : List Str) (sc : Scope) : Prop where
  kind : sc.kind = .function
  co : sc.isCoroutine = false
  gen : sc.isGenerator = false
  nd : N.Nodup
  pre : N.take P.length = P
  par : ∀ x ∈ P, sc.names.lookup x = some .local ∨ sc.names.lookup x = some .cell
  nofree : ∀ y ∈ sc.names, y.2 ≠ .free

theorem bindL_out {kindOf : Str → Option NameKind} {x : Str} : ∀ {binds : List (Str × Value)} {m : Str → Option Value}, (∀ v, (x, v) ∉ binds) → bindL kindOf binds m x = m x
  | [], _, _ => rfl
  | (n, v) :: r, m, h => by
    unfold bindL
    rw [bindL_out fun w hw => h w (List.mem_cons_of_mem _ hw)]
    split
    · have : x ≠ n := by rintro rfl; exact h v List.mem_cons_self
      simp [this]
    · rfl
theorem bindC_out {kindOf : Str → Option NameKind} {x : Str} : ∀ {binds : List (Str × Value)} {m : Str → Option Value}, (∀ v, (x, v) ∉ binds) → bindC kindOf binds m x = m x
  | [], _, _ => rfl
  | (n, v) :: r, m, h => by
    unfold bindC
    rw [bindC_out fun w hw => h w (List.mem_cons_of_mem _ hw)]
    split
    · rfl
    · have : x ≠ n := by rintro rfl; exact h v List.mem_cons_self
      simp [this]
theorem bindL_get {kindOf : Str → Option NameKind} {x : Str} {v : Value} : ∀ {P : List Str} {vs : List Value} {i : Nat} {m : Str → Option Value}, P.Nodup → P[i]? = some x → vs[i]? = some v → kindOf x = some .local →
    bindL kindOf (P.zip vs) m x = some v
  | [], _, _, _, _, h, _, _ => by simp at h
  | _ :: _, [], _, _, _, _, h, _ => by simp at h
  | p :: P, w :: vs, 0, m, nd, h1, h2, hk => by
    simp at h1 h2; subst h1; subst h2
    show bindL kindOf ((p, w) :: P.zip vs) m p = _
    unfold bindL
    rw [bindL_out fun v hv => (List.nodup_cons.mp nd).1 (List.of_mem_zip hv).1, if_pos hk]
    simp
  | p :: P, w :: vs, i + 1, m, nd, h1, h2, hk => by
    show bindL kindOf ((p, w) :: P.zip vs) m x = _
    unfold bindL
    exact bindL_get (i := i) (List.nodup_cons.mp nd).2 (by simpa using h1) (by simpa using h2) hk
theorem bindC_get {kindOf : Str → Option NameKind} {x : Str} {v : Value} : ∀ {P : List Str} {vs : List Value} {i : Nat} {m : Str → Option Value}, P.Nodup → P[i]? = some x → vs[i]? = some v → kindOf x ≠ some .local →
    bindC kindOf (P.zip vs) m x = some v
  | [], _, _, _, _, h, _, _ => by simp at h
  | _ :: _, [], _, _, _, _, h, _ => by simp at h
  | p :: P, w :: vs, 0, m, nd, h1, h2, hk => by
    simp at h1 h2; subst h1; subst h2
    show bindC kindOf ((p, w) :: P.zip vs) m p = _
    unfold bindC
    rw [bindC_out fun v hv => (List.nodup_cons.mp nd).1 (List.of_mem_zip hv).1, if_neg hk]
    simp
  | p :: P, w :: vs, i + 1, m, nd, h1, h2, hk => by
    show bindC kindOf ((p, w) :: P.zip vs) m x = _
    unfold bindC
    exact bindC_get (i := i) (List.nodup_cons.mp nd).2 (by simpa using h1) (by simpa using h2) hk

/-- the names' values at the entry -/
def start (N : List Str) (vs : List V) : St := vs.map some ++ List.replicate (N.length - vs.length) none

/-- the context of a def's body, at its entry; an exception leaves the frame, then lies as CX says -/
def cxOf (CX : CXT) (P : Program) (w : World) (K : PySem.W.Frag) (mg : Str → Option Value) (base : Heap) (N : List Str) (qual : Str) (scope : Scope) (f : Addr) (cd : Value) (A : Around) (outer : List Env) (s : Shared) (H : Hp) (E : XK) : Cx where
  prog := P
  w := w
  K := K
  mg := mg
  base := base
  A := A.deeper (envOfC qual scope s.heap.objs.size f cd)
  N := N
  s₀ := s
  H₀ := H
  env := envOfC qual scope s.heap.objs.size f cd
  outer := outer
  stack := envOfC qual scope s.heap.objs.size f cd :: outer
  ex := []
  calm := true
  fn := fun _ => true
  pn := []
  xe := fun e s' => wpAny (model P w) (A.deeper (envOfC qual scope s.heap.objs.size f cd)) (leaving (envOfC qual scope s.heap.objs.size f cd) e) (fun _ s'' => CX outer H s E e s'') (fun e' s'' => CX outer H s E e' s'') s'

theorem cell_has {sc : Scope} {n : Nat} {x : Str} (h : sc.names.lookup x = some .cell) : ∃ c, (cellsFrom n sc.names []).lookup x = some c := by
  have q := PySem.W.cellsFrom_some sc.names n [] (.inl h)
  exact Option.isSome_iff_exists.mp q

theorem inv_start {CX : CXT} {P : Program} {w : World} {K : PySem.W.Frag} {mg : Str → Option Value} {base : Heap} {N ps : List Str} {qual : Str} {scope : Scope} {f : Addr} {cd : Value} {A : Around} {outer : List Env} {s s1 : Shared} {H : Hp} {E : XK} {us : List Value} {vs : List V}
    (S : FnScope N ps scope) (hd : A.handled = none) (e0 : Env0 P w K mg base A outer s H) (hl : vs.length = ps.length) (r : Vals vs us)
    (x : InCallC s s.heap.objs.size (bindL (envOfC qual scope s.heap.objs.size f cd).kindOf (ps.zip us) fun _ => none) (cellsFrom (s.heap.objs.size + 1) scope.names []) (bindC (envOfC qual scope s.heap.objs.size f cd).kindOf (ps.zip us) fun _ => none) s1) :
    Inv (cxOf CX P w K mg base N qual scope f cd A outer s H E) [] (start N vs) H s1 := by
  have hpl : ps.length ≤ N.length := by have := congrArg List.length S.pre; rw [List.length_take] at this; omega
  obtain ⟨h1, tk, rfl, hk⟩ := x.done
  have noA : ∀ b : Addr, b ∉ (cxOf CX P w K mg base N qual scope f cd A outer s H E).ex := fun b z => absurd (show b ∈ ([] : List Addr) from z) (by simp)
  refine ⟨⟨e0.mod, S.kind, rfl, rfl, Nat.le_refl _, fun y z c h1 h2 => ?_, fun y hy => ?_, fun y c _ h => ?_, fun _ => hd, Around.frames_deeper e0.frames, .inr ⟨rfl, rfl⟩, fun b z => absurd z (noA b), e0.bs, e0.bsz, fun b _ _ => noA b, fun b z => absurd z (noA b), e0.funs, e0.frf⟩,
    rfl, e0.bare, Un.kept hk, ⟨_, x.toInCall.ns, fun i y v h1 h2 h3 => ?_⟩, fun y c h => ⟨_, x.cell y c h⟩, e0.hok.fresh (Nat.le_refl _), fun y c h => ?_, fun p hp => absurd (show p ∈ ([] : List (Addr × Obj)) from hp) (by simp), e0.hok.kept hk, ?_⟩
  · exact name_of_addr x.apart (PySem.mem_of_lookup h1) (PySem.mem_of_lookup h2)
  · have hy : scope.names.lookup y = some .cell ∨ scope.names.lookup y = some .free := hy
    rcases hy with hy | hy
    · exact cell_has hy
    · exact absurd rfl (S.nofree _ (PySem.mem_of_lookup hy))
  · exact Nat.le_of_lt (x.above y c (PySem.mem_of_lookup h))
  · have hi : i < vs.length := by
      unfold start at h2
      by_cases hi : i < vs.length
      · exact hi
      · rw [List.getElem?_append_right (by simpa using hi)] at h2
        rw [List.getElem?_replicate] at h2
        split at h2 <;> cases h2
    have ha : vs[i]? = some v := by
      unfold start at h2
      rw [List.getElem?_append_left (by simpa using hi), List.getElem?_map] at h2
      cases e : vs[i]? with
      | none => rw [e] at h2; cases h2
      | some a => rw [e] at h2; cases h2; rfl
    obtain ⟨u, hu, rv⟩ := r.get ha
    have hp : ps[i]? = some y := by
      rw [← S.pre, List.getElem?_take_of_lt (by omega)]; exact h1
    have ndP : ps.Nodup := by rw [← S.pre]; exact S.nd.sublist (List.take_sublist _ _)
    refine ⟨u, rv, ?_⟩
    rcases S.par y (List.mem_of_getElem? hp) with k | k
    · exact .inl ⟨k, bindL_get ndP hp hu k⟩
    · obtain ⟨c, e⟩ := cell_has (n := s.heap.objs.size + 1) k
      refine .inr ⟨.inl k, c, e, ?_⟩
      have q := x.cell y c e
      rw [bindC_get ndP hp hu (by show scope.names.lookup y ≠ _; rw [k]; decide)] at q
      exact q
  · exact e0.hok.fresh (Nat.le_of_lt (x.above y c (PySem.mem_of_lookup h)))
  · unfold start
    show _ = N.length
    rw [List.length_append, List.length_map, List.length_replicate]
    omega

/-- THE RULE: a def (or a method) of the text, by its body. The body's reading t is chosen for each entry; it is run at the parameters' values -/
theorem fn_of {CX : CXT} {P : Program} {w : World} {K : PySem.W.Frag} {mg : Str → Option Value} {base : Heap} {k : Nat} {f : Addr} {name qual : Str} {params : Arguments} {body : List Stmt} {scope : Scope} {dV kV doc pm cdv ct oc : Value} {an od : Option Addr}
    {osl : Array (Option Value)} {N ps : List Str} {sp : Sp} (lk : K.lookup f = some ⟨oc, od, .func (PySem.W.fnOf name qual params body scope dV kV doc pm an cdv ct), osl⟩) (hcd : PySem.W.codeIn K cdv qual = true) (S : FnScope N ps scope)
    (len : ∀ vs H Q E, sp vs H Q E → vs.length = ps.length)
    (hbody : ∀ (A : Around) (outer : List Env) (s : Shared) (H : Hp) (vs : List V) (Q : VK) (E : XK), Room k (A.deeper (envOfC qual scope s.heap.objs.size f cdv)) → sp vs H Q E →
      ∃ t, PSs (cxOf CX P w K mg base N qual scope f cdv A outer s H E) body t ∧ t { nx := fun _ H' => Q .non H', rt := Q } (start N vs) H) :
    FnOk P w K mg base CX (k + 1) f (PySem.W.fnOf name qual params body scope dV kV doc pm an cdv ct) ps sp := by
  refine ⟨len, fun A outer s H args us vs Q E hr e0 hb r hsp => ?_⟩
  have hl := len _ _ _ _ hsp
  have KX : K.In s.heap := e0.mod.kin.keeps fun b o e => (e0.bs b o e).1
  have lim : s.heap.NoLimit := e0.mod.nolimit.keeps fun b o e => (e0.bs b o e).1
  have hkind : ∀ y ∈ ps.zip us, scope.names.lookup y.1 = some .local ∨ (scope.names.lookup y.1 = some .cell ∧ ((cellsFrom (s.heap.objs.size + 1) scope.names []).lookup y.1).isSome = true) := fun ⟨n, v⟩ hy => by
    rcases S.par n (List.of_mem_zip hy).1 with q | q
    · exact .inl q
    · exact .inr ⟨q, PySem.W.cellsFrom_some _ _ _ (.inl q)⟩
  refine codeAny_call_function hr.depth (KX _ _ lk) rfl S.co S.gen rfl (PySem.W.codeRec_of KX hcd) (hb _ _ _ _ ?_)
  refine wpAny_newFunctionEnv_cells S.kind hkind fun env he s1 x => ?_
  subst he
  refine ⟨lim.keeps x.toInCall.keep, codeAny_func ?_⟩
  obtain ⟨t, ht, hq⟩ := hbody A outer s H vs Q E (hr.deeper _) hsp
  have I : Inv (cxOf CX P w K mg base N qual scope f cdv A outer s H E) [] (start N vs) H s1 := inv_start S hr.hd e0 hl r x
  refine wpAny_mono (ht [] s1 (start N vs) H _ I hq) (fun fl s' hs => ?_) fun e s' hs => hs
  have fin : ∀ {σ' : St} {H' : Hp} {v : V} {u : Value}, Inv (cxOf CX P w K mg base N qual scope f cdv A outer s H E) [] σ' H' s' → RelV v u → Q v H' → CE outer P w H s Q u s' :=
    fun {σ' H' v u} J rv q => ⟨v, H', J.os, J.bare, J.base, J.hok, rv, q⟩
  cases fl with
  | ret u =>
    obtain ⟨v, σ', H', J, rv, q⟩ := hs
    exact fin J rv q
  | next =>
    obtain ⟨σ', H', J, q⟩ := hs
    exact fin (v := V.non) (u := Value.none) J rfl q
  | brk =>
    obtain ⟨_, _, _, q⟩ := hs
    exact False.elim q
  | cont =>
    obtain ⟨_, _, _, q⟩ := hs
    exact False.elim q
end L2

namespace L2
open PySem PySem.Spec PyProof.Rows
section
variable {X : Cx} {x : Str} {p pos : Pos} {e : Expr} {es : List Expr} {t : TA} {id T : String} {r : List V → Hp → VK → Prop}

def tCB (r : List V → Hp → VK → Prop) (t : TA) : TE := fun σ H Q => t σ H fun vs H1 => r vs H1 Q
/-- f(e, ..), f a built-in function -/
theorem pe_callB (hc : CallR X (.builtin id) r) (hg : Gl X x) (hm : X.mg x = none) (hv : bootBuiltins x = some (.builtin id)) (ha : PA X (e :: es) t) (hn : x ≠ "__name__" := by decide) (hdb : (x == ("__debug__" : Str)) = false := by decide)
    (he : starEach (e :: es) X.env = (false, eval e X.env) :: starEach es X.env := by rfl) (hpl : (backTo pos (starEach es X.env)).any (·.1) = false := by rfl) : PE X (.Call (.Name x p) (e :: es) [] pos) (tCB r t) := by
  intro pins s σ H Q I h
  refine wpAny_Call_Name_kw (ld_blt I hg hm hv ?_ hn hdb)
  exact PyProof.Rows.callWith_builtin1 (thn (ha pos pins s σ H _ I h) fun us s1 ⟨vs, H1, I1, r1, q1⟩ => hc pins s1 σ H1 vs us Q I1 r1 q1) he hpl
/-- T(e, ..), T a built-in type -/
theorem pe_callTy (hc : CallR X (.type T) r) (hg : Gl X x) (hm : X.mg x = none) (hv : bootBuiltins x = some (.type T)) (ha : PA X (e :: es) t) (hn : x ≠ "__name__" := by decide) (hdb : (x == ("__debug__" : Str)) = false := by decide)
    (he : starEach (e :: es) X.env = (false, eval e X.env) :: starEach es X.env := by rfl) (hpl : (backTo pos (starEach es X.env)).any (·.1) = false := by rfl) : PE X (.Call (.Name x p) (e :: es) [] pos) (tCB r t) := by
  intro pins s σ H Q I h
  refine wpAny_Call_Name_kw (ld_blt I hg hm hv ?_ hn hdb)
  exact PyProof.Rows.callWith_type1 (thn (ha pos pins s σ H _ I h) fun us s1 ⟨vs, H1, I1, r1, q1⟩ => hc pins s1 σ H1 vs us Q I1 r1 q1) he hpl
end
end L2

namespace HT
open PySem PyProof.Rows

section
open PySem.SeqAt
open PySem.AutoSeq1 (wpAny_loadPart')
open PySem.MeetsSeq PySem.MeetsSeq2 PySem.MeetsSeq3

end

section
variable {prog : Program} {w : World} {A : Around} {E : Value → Shared → Prop} {s : Shared}

/-! ### t[a:b], not the whole -/
end
end HT

namespace L2
open PySem PySem.Spec PyProof.Rows

/-! ### the parts of a slice -/
theorem intsAre_of {ns : List Int} : ∀ {us : List Value}, Vals (ns.map V.int) us → IntsAre us ns := by
  induction ns with
  | nil => intro us r; rw [List.map_nil] at r; cases r; exact .nil
  | cons n ns ih =>
    intro us r
    rw [List.map_cons] at r
    cases r with
    | cons r1 r2 =>
      obtain ⟨t, e⟩ := r1
      subst e
      exact .cons n t (ih r2)

section
variable {X : Cx} {e : Expr} {te : TE} {lo hi : Option Expr} {tl th : TO} {pos p2 : Pos}

/-! ### t < u, t + u -/
end
end L2

namespace L2
open PySem PySem.Spec PyProof.Rows

/-! ### places -/
/-- the place that an index of any sign means -/
def ixN (n : Nat) (i : Int) : Option Nat := if 0 ≤ i then (if i < n then some i.toNat else none) else if -(n : Int) ≤ i then some (i + n).toNat else none
def atI {α : Type} (xs : List α) (i : Int) : Option α := (ixN xs.length i).bind fun j => xs[j]?
theorem ixN_seq {n : Nat} {i : Int} {j : Nat} (h : ixN n i = some j) : seqIndex? i n = some j ∧ j < n ∧ -(n : Int) ≤ i ∧ i < n := by
  unfold ixN at h
  by_cases h0 : 0 ≤ i
  · rw [if_pos h0] at h
    by_cases h1 : i < n
    · rw [if_pos h1] at h
      have e : i.toNat = j := Option.some.inj h
      exact ⟨by rw [seqIndex_of h0 h1, e], by omega, by omega, h1⟩
    · rw [if_neg h1] at h; cases h
  · rw [if_neg h0] at h
    by_cases h1 : -(n : Int) ≤ i
    · rw [if_pos h1] at h
      have e : (i + n).toNat = j := Option.some.inj h
      exact ⟨by rw [seqIndex_neg (by omega) h1, e], by omega, h1, by omega⟩
    · rw [if_neg h1] at h; cases h
theorem atI_get {α : Type} {xs : List α} {i : Int} {v : α} (h : atI xs i = some v) : ∃ j, seqIndex? i xs.length = some j ∧ xs[j]? = some v ∧ j < xs.length ∧ -(xs.length : Int) ≤ i ∧ i < xs.length := by
  unfold atI at h
  cases e : ixN xs.length i with
  | none => rw [e] at h; cases h
  | some j =>
    rw [e] at h
    obtain ⟨h1, h2, h3, h4⟩ := ixN_seq e
    exact ⟨j, h1, h, h2, h3, h4⟩
theorem atI_nat {α : Type} {xs : List α} {j : Nat} {v : α} (h : xs[j]? = some v) : atI xs (j : Int) = some v := by
  have hj : j < xs.length := (List.getElem?_eq_some_iff.mp h).1
  have e : ixN xs.length (j : Int) = some j := by
    unfold ixN
    rw [if_pos (by omega), if_pos (by omega)]; simp
  unfold atI; rw [e]; exact h
/-! ### what may be subscripted -/
/-- what stands as an index of a plain subscript -/
def PlainIx (b : Expr) : Prop := ∀ o i, subscripted b false o i = operate [o, i] (getItem o i)
/-- a subscript by values -/
def IxR (X : Cx) (r : R2) : Prop :=
  ∀ (value slice : Expr) (pins : List (Addr × Obj)) (s : Shared) (σ : St) (H : Hp) (x y : V) (v u : Value) (Q : VK), Inv X pins σ H s → RelV x v → RelV y u → r x y H Q →
    subscripted slice false v u = operate [v, u] (getItem v u) → wpAny (model X.prog X.w) X.A (subscriptTail value slice v u) (EP X pins σ Q) X.xe s
/-- a call of a builtin's method by values: the receiver, the arguments -/
def MtR (X : Cx) (id : String) (r : V → List V → Hp → VK → Prop) : Prop :=
  ∀ (pins : List (Addr × Obj)) (s : Shared) (σ : St) (H : Hp) (x : V) (xs : List V) (v : Value) (us : List Value) (Q : VK), Inv X pins σ H s → RelV x v → Vals xs us → r x xs H Q →
    wpAny (model X.prog X.w) X.A (call (.builtin id) (v :: us)) (EP X pins σ Q) X.xe s
section
variable {X : Cx} {a b : Expr} {ta tb : TE} {pos : Pos}
/-- a[b] -/
theorem pe_ix {r : R2} (hr : IxR X r) (ha : PE X a ta) (hb : PE X b tb) (hs : PlainIx b) : PE X (.Subscript a b pos) (tOp r ta tb) := by
  intro pins s σ H Q I h
  exact Subscript_ (binT ha hb I h fun v u s2 x y H2 I2 rx ry q => hr a b pins s2 σ H2 x y v u Q I2 rx ry q (hs _ _))

def rIxL (K : PySem.W.Frag) : R2 := fun x y H Q => ∃ p xs i v, x = .ref p ∧ y = .int i ∧ SqL K H p xs ∧ atI xs i = some v ∧ Q v H
def rIxT (K : PySem.W.Frag) : R2 := fun x y H Q => ∃ p xs i v, x = .ref p ∧ y = .int i ∧ SqT K H p xs ∧ atI xs i = some v ∧ Q v H
theorem ix_list : IxR X (rIxL X.K) := by
  intro value slice pins s σ H x y v u Q I rx ry h hs
  obtain ⟨p, xs, i, z, rfl, rfl, hq, he, q⟩ := h
  cases rx
  obtain ⟨t, rfl⟩ := ry
  obtain ⟨its, r, pl, hz⟩ := I.list hq
  obtain ⟨j, h1, h2, h3, h4, h5⟩ := atI_get he
  obtain ⟨w, ew, rw'⟩ := r.get h2
  have hl := r.length
  have hn := line63
  have fin : EP X pins σ Q w s := ⟨z, H, I, rw', q⟩
  by_cases h0 : 0 ≤ i
  · have hj : i.toNat = j := by
      rw [seqIndex_of h0 h5] at h1
      exact Option.some.inj h1
    exact item_listR pl.isList h0 (by omega) (by rw [hj]; simpa using ew) fin hs
  · have hj : (i + (its.toArray.size : Int)).toNat = j := by
      rw [seqIndex_neg (by omega) h4] at h1
      rw [List.size_toArray, ← hl]
      exact Option.some.inj h1
    exact subscriptTail_builtinR (x := w) pl.isList.typeIs slot_list_getitem.lookup
      (wpAny_getItem_list_neg (Q := fun r s' => r = w ∧ EP X pins σ Q r s') pl.isList (by omega) (by rw [List.size_toArray] <;> omega) (by omega) (by rw [hj]; simpa using ew) ⟨rfl, fin⟩) hs
theorem ix_tup : IxR X (rIxT X.K) := by
  intro value slice pins s σ H x y v u Q I rx ry h hs
  obtain ⟨p, xs, i, z, rfl, rfl, hq, he, q⟩ := h
  cases rx
  obtain ⟨t, rfl⟩ := ry
  obtain ⟨its, r, pl, hz⟩ := I.tuple hq
  obtain ⟨j, h1, h2, h3, h4, h5⟩ := atI_get he
  obtain ⟨w, ew, rw'⟩ := r.get h2
  have hl := r.length
  have hn := line63
  have fin : EP X pins σ Q w s := ⟨z, H, I, rw', q⟩
  exact subscriptTail_builtinR (x := w) pl.typeIs slot_tuple_getitem.lookup
    (getItem_tuple (j := j) (Q := fun r s' => r = w ∧ EP X pins σ Q r s') pl (by omega) (by omega) (by rw [List.size_toArray, ← hl]; exact h1) (by simpa using ew) ⟨rfl, fin⟩) hs
/-! ### xs[i] = v, any sign -/
/-- the list's object behind a store -/
theorem mapSeq_set (its : List Value) (n j : Nat) (u : Value) : Obj.mapSeq (·.setIfInBounds j u) { cls := .type "list", data := .seq its.toArray n } = { cls := .type "list", data := .seq (its.set j u).toArray n } := by
  simp [Obj.mapSeq]
theorem Inv.lst {pins : List (Addr × Obj)} {σ : St} {H : Hp} {s : Shared} {p : Addr} {xs : List V} (I : Inv X pins σ H s) (h : H p = some (.lst xs)) :
    ∃ (its : List Value) (n : Nat), Vals xs its ∧ s.heap.get? p = some { cls := .type "list", data := .seq its.toArray n } ∧ xs.length ≤ sizeLine := by
  obtain ⟨z, its, n, r, e⟩ := I.hok p _ h
  exact ⟨its, n, r, e, z⟩
/-- the list at p is written by an update of its object -/
theorem Inv.lstUpd {pins : List (Addr × Obj)} {σ : St} {H : Hp} {s : Shared} {p : Addr} {xs ys : List V} {its its' : List Value} {n n' : Nat} {f : Obj → Obj} (I : Inv X pins σ H s) (h : H p = some (.lst xs))
    (ho : s.heap.get? p = some { cls := .type "list", data := .seq its.toArray n }) (hf : f { cls := .type "list", data := .seq its.toArray n } = { cls := .type "list", data := .seq its'.toArray n' }) (r : Vals ys its') (hz : ys.length ≤ sizeLine) (t : Nat) :
    Inv X pins σ (upd H p (.lst ys)) { s with heap := s.heap.update p f, toks := t } := by
  have e : (s.heap.update p f).get? p = some { cls := .type "list", data := .seq its'.toArray n' } := by
    rw [Heap.get?_update_self f ho (by rw [hf] <;> rfl), hf]
  refine I.write (x := p) (e := p) (by rw [h]; trivial) (.inl rfl) (fun b u hb q => (Heap.get?_update_other _ _ (Ne.symm hb)).trans q) ⟨_, e⟩ ?_
  exact ⟨hz, its', n', r, e⟩
def rSetL : V → V → V → Hp → (Hp → Prop) → Prop := fun o i v H Q => ∃ p xs k j, o = .ref p ∧ i = .int k ∧ H p = some (.lst xs) ∧ ixN xs.length k = some j ∧ Q (upd H p (.lst (xs.set j v)))
theorem set_list : PSet X rSetL := by
  intro pins s σ H o i v ov iv u Q I ro ri rv h
  obtain ⟨p, xs, k, j, rfl, rfl, hp, hj, q⟩ := h
  cases ro
  obtain ⟨t, rfl⟩ := ri
  obtain ⟨its, n, r, ho, hz⟩ := I.lst hp
  obtain ⟨h1, h2, h3, h4⟩ := ixN_seq hj
  have hl := r.length
  have hn := line63
  have I' : Inv X pins σ (upd H p (.lst (xs.set j v))) { s with heap := s.heap.update p (Obj.mapSeq (·.setIfInBounds j u)) } :=
    I.lstUpd hp ho (mapSeq_set its n j u) (r.set rv j) (by rw [List.length_set]; exact hz) s.toks
  by_cases h0 : 0 ≤ k
  · have hk : k.toNat = j := by
      rw [seqIndex_of h0 h4] at h1
      exact Option.some.inj h1
    exact PySem.W.ki_setAt ho h0 (by omega) (by rw [List.size_toArray, ← hl]; exact h4) (by rw [hk]; exact ⟨_, I', q⟩)
  · have hk : (k + (its.toArray.size : Int)).toNat = j := by
      rw [seqIndex_neg (by omega) h3] at h1
      rw [List.size_toArray, ← hl]
      exact Option.some.inj h1
    exact PySem.W.ki_setBack ho (by omega) (by rw [List.size_toArray, ← hl]; exact h3) (by omega) (by rw [hk]; exact ⟨_, I', q⟩)

/-! ### slices -/
/-! ### in, not in: flat items -/
def flatV : V → Bool
  | .non => true
  | .bl _ => true
  | .int _ => true
  | .str _ => true
  | _ => false
/-- == of flat values -/
def eqV : V → V → Bool
  | .non, .non => true
  | .bl a, .bl b => a == b
  | .bl a, .int b => (if a then 1 else 0) == b
  | .int a, .bl b => a == (if b then 1 else 0)
  | .int a, .int b => a == b
  | .str a, .str b => a == b
  | _, _ => false
theorem eqAt_V {A : Around} {s : Shared} {y x : V} {u v : Value} (ry : RelV y u) (rx : RelV x v) (fy : flatV y = true) (fx : flatV x = true) : SeqAt.EqAt A s u v (eqV y x) := by
  cases y with
  | non =>
    cases ry
    cases x with
    | non => cases rx; exact SeqAt.EqAt.same _
    | bl b => cases rx; exact SeqAt.EqAt.none_bool b
    | int b => obtain ⟨t, rfl⟩ := rx; exact SeqAt.EqAt.none_int b t
    | str b => obtain ⟨t, rfl⟩ := rx; exact SeqAt.EqAt.none_str b t
    | _ => exact absurd (show false = true from fx) Bool.false_ne_true
  | bl a =>
    cases ry
    cases x with
    | non => cases rx; exact SeqAt.EqAt.bool_none a
    | bl b => cases rx; exact SeqAt.EqAt.bool_bool a b
    | int b => obtain ⟨t, rfl⟩ := rx; exact SeqAt.EqAt.bool_int a b t
    | str b => obtain ⟨t, rfl⟩ := rx; exact SeqAt.EqAt.bool_str a b t
    | _ => exact absurd (show false = true from fx) Bool.false_ne_true
  | int a =>
    obtain ⟨t', rfl⟩ := ry
    cases x with
    | non => cases rx; exact SeqAt.EqAt.int_none a t'
    | bl b => cases rx; exact SeqAt.EqAt.int_bool a t' b
    | int b => obtain ⟨t, rfl⟩ := rx; exact SeqAt.EqAt.int_int a t' b t
    | str b => obtain ⟨t, rfl⟩ := rx; exact SeqAt.EqAt.int_str a t' b t
    | _ => exact absurd (show false = true from fx) Bool.false_ne_true
  | str a =>
    obtain ⟨t', rfl⟩ := ry
    cases x with
    | non => cases rx; exact SeqAt.EqAt.str_none a t'
    | bl b => cases rx; exact SeqAt.EqAt.str_bool a t' b
    | int b => obtain ⟨t, rfl⟩ := rx; exact SeqAt.EqAt.str_int a t' b t
    | str b => obtain ⟨t, rfl⟩ := rx; exact SeqAt.EqAt.str_str a t' b t
    | _ => exact absurd (show false = true from fx) Bool.false_ne_true
  | _ => exact absurd (show false = true from fy) Bool.false_ne_true
/-- the items' answers, read off the values (a value's own answer does not lean on its token) -/
def eqU (x : V) (u : Value) : Bool := match u with
  | .none => eqV .non x
  | .bool b => eqV (.bl b) x
  | .int i _ => eqV (.int i) x
  | .str z _ => eqV (.str z) x
  | _ => false
theorem eqU_of {x y : V} {u : Value} (r : RelV y u) (f : flatV y = true) : eqU x u = eqV y x := by
  cases y with
  | non => cases r; rfl
  | bl b => cases r; rfl
  | int i => obtain ⟨t, rfl⟩ := r; rfl
  | str z => obtain ⟨t, rfl⟩ := r; rfl
  | _ => exact absurd (show false = true from f) Bool.false_ne_true
theorem any_eqU {x : V} : ∀ {xs : List V} {us : List Value}, Vals xs us → xs.all flatV = true → us.any (eqU x) = xs.any fun y => eqV y x
  | _, _, .nil, _ => rfl
  | y :: xs, u :: us, .cons r t, f => by
    rw [List.all_cons, Bool.and_eq_true] at f
    rw [List.any_cons, List.any_cons, eqU_of r f.1, any_eqU t f.2]
theorem mem_eqAt {A : Around} {s : Shared} {x : V} {v : Value} (rx : RelV x v) (fx : flatV x = true) : ∀ {xs : List V} {us : List Value}, Vals xs us → xs.all flatV = true → ∀ u ∈ us, SeqAt.EqAt A s u v (eqU x u)
  | _, _, .nil, _ => fun u hu => by cases hu
  | y :: xs, u :: us, .cons r t, f => fun u' hu => by
    rw [List.all_cons, Bool.and_eq_true] at f
    rcases List.mem_cons.mp hu with rfl | hu
    · rw [eqU_of r f.1]; exact eqAt_V r rx f.1 fx
    · exact mem_eqAt rx fx t f.2 u' hu
def inV (x : V) (xs : List V) : Bool := xs.any fun y => eqV y x
/-- x in a list or tuple of flat items -/
def rIn (K : PySem.W.Frag) (neg : Bool) : R2 := fun x y H Q => ∃ p xs, y = .ref p ∧ (SqL K H p xs ∨ SqT K H p xs) ∧ flatV x = true ∧ xs.all flatV = true ∧ Q (.bl (if neg then !inV x xs else inV x xs)) H
theorem op_in_seq : OpR X (compareOp .In) (rIn X.K false) := by
  intro pins s σ H x y v u Q I rx ry h
  obtain ⟨p, xs, rfl, hq, fx, fs, q⟩ := h
  cases ry
  rcases hq with hq | hq
  · obtain ⟨its, r, pl, hz⟩ := I.list hq
    refine SeqAt.in_listAt (eqU x) pl.isList (fun w hw => mem_eqAt rx fx r fs w (by simpa using hw)) ⟨.bl _, H, I, rfl, ?_⟩
    rw [show its.toArray.any (eqU x) = its.any (eqU x) by simp, any_eqU r fs]
    exact q
  · obtain ⟨its, r, pl, hz⟩ := I.tuple hq
    refine SeqAt.in_tupleAt (eqU x) pl (fun w hw => mem_eqAt rx fx r fs w (by simpa using hw)) ⟨.bl _, H, I, rfl, ?_⟩
    rw [show its.toArray.any (eqU x) = its.any (eqU x) by simp, any_eqU r fs]
    exact q
theorem op_notIn_seq : OpR X (compareOp .NotIn) (rIn X.K true) := by
  intro pins s σ H x y v u Q I rx ry h
  obtain ⟨p, xs, rfl, hq, fx, fs, q⟩ := h
  cases ry
  rcases hq with hq | hq
  · obtain ⟨its, r, pl, hz⟩ := I.list hq
    refine SeqAt.notIn_listAt (eqU x) pl.isList (fun w hw => mem_eqAt rx fx r fs w (by simpa using hw)) ⟨.bl _, H, I, rfl, ?_⟩
    rw [show its.toArray.any (eqU x) = its.any (eqU x) by simp, any_eqU r fs]
    exact q
  · obtain ⟨its, r, pl, hz⟩ := I.tuple hq
    refine SeqAt.notIn_tupleAt (eqU x) pl (fun w hw => mem_eqAt rx fx r fs w (by simpa using hw)) ⟨.bl _, H, I, rfl, ?_⟩
    rw [show its.toArray.any (eqU x) = its.any (eqU x) by simp, any_eqU r fs]
    exact q
/-! ### len, list(x), tuple(x) of any list or tuple that is read -/
theorem call_len_seq : CallR X (.builtin "len") (fun xs H Q => ∃ p ys, xs = [.ref p] ∧ (SqL X.K H p ys ∨ SqT X.K H p ys) ∧ Q (.int ys.length) H) := by
  intro pins s σ H xs us Q I r h
  obtain ⟨p, ys, rfl, hq, q⟩ := h
  obtain ⟨u, rfl, rx⟩ := vals1 r
  cases rx
  have hn := line63
  rcases hq with hq | hq
  · obtain ⟨its, r', pl, hz⟩ := I.list hq
    have hlen := r'.length
    exact Calls.call_len_list pl.isList (by simp only [List.size_toArray] <;> omega) ⟨.int ys.length, H, I.tok _, ⟨s.toks + 1, by rw [List.size_toArray, hlen]⟩, q⟩
  · obtain ⟨its, r', pl, hz⟩ := I.tuple hq
    have hlen := r'.length
    exact len_tuple pl (by simp only [List.size_toArray] <;> omega) ⟨.int ys.length, H, I.tok _, ⟨s.toks + 1, by rw [List.size_toArray, hlen]⟩, q⟩
theorem call_tuple_of : CallR X (.type "tuple") (fun xs H Q => ∃ p ys, xs = [.ref p] ∧ ((SqL X.K H p ys ∧ ∀ l, H l = none → Q (.ref l) (upd H l (.tup ys))) ∨ (SqT X.K H p ys ∧ Q (.ref p) H))) := by
  intro pins s σ H xs us Q I r h
  obtain ⟨p, ys, rfl, h⟩ := h
  obtain ⟨u, rfl, rx⟩ := vals1 r
  cases rx
  rcases h with ⟨hq, q⟩ | ⟨hq, q⟩
  · obtain ⟨its, r', pl, hz⟩ := I.list hq
    have hlen := r'.length
    refine call_tuple_list pl.isList (fun h' kp => ?_) (by simp only [List.size_toArray] <;> omega)
    have I1 : Inv X pins σ H { s with heap := h' } := I.kept (t' := s.toks) kp
    have I2 : Inv X pins σ (upd H h'.objs.size (.tup ys)) { s with heap := h'.push { cls := .type "tuple", data := .seq its.toArray } } :=
      I1.laid (t' := s.toks) (fun b o e => Heap.get?_push_of_some _ e) (Nat.le_refl _) (show ObjOk X.prog X.w _ _ _ (.tup ys) from ⟨hz, its, r', IsTup.new _ _⟩)
    exact ⟨.ref h'.objs.size, _, I2, rfl, q _ (I1.hok.fresh (Nat.le_refl _))⟩
  · obtain ⟨its, r', pl, hz⟩ := I.tuple hq
    exact call_tuple_same pl ⟨.ref p, H, I, rfl, q⟩

/-! ### the call of a builtin's method: o.m(..) -/
/-- the value is of that builtin type -/
def tyV (K : PySem.W.Frag) (T : String) (x : V) (H : Hp) : Prop := match x with
  | .str _ => T = "str"
  | .int _ => T = "int"
  | .ref p => (T = "list" ∧ ∃ xs, SqL K H p xs) ∨ (T = "tuple" ∧ ∃ o, K.lookup p = some o ∧ o.cls = .type "tuple" ∧ o.dict = none) ∨
      (T = "dict" ∧ ((∃ kvs, H p = some (.dK kvs)) ∨ ∃ kvs, H p = some (.dT kvs))) ∨ (T = "set" ∧ ∃ S n, H p = some (.set S n))
  | _ => False
theorem tyV_is {pins : List (Addr × Obj)} {σ : St} {H : Hp} {s : Shared} {T : String} {x : V} {v : Value} (I : Inv X pins σ H s) (r : RelV x v) (ty : tyV X.K T x H) :
    s.TypeIs v T ∧ ∀ a, v = .ref a → ∃ ob, s.heap.get? a = some ob ∧ ob.dict = none := by
  cases x with
  | str z =>
    obtain ⟨t, rfl⟩ := r
    cases (show T = "str" from ty)
    exact ⟨typeIs_str s z t, fun _ e => nomatch e⟩
  | int i =>
    obtain ⟨t, rfl⟩ := r
    cases (show T = "int" from ty)
    exact ⟨typeIs_int s i t, fun _ e => nomatch e⟩
  | ref p =>
    cases r
    rcases ty with ⟨rfl, xs, hq⟩ | ⟨rfl, o, hk, hc, hd⟩ | ⟨rfl, hk⟩ | ⟨rfl, S, n, hk⟩
    · obtain ⟨its, _, pl, _⟩ := I.list hq
      refine ⟨pl.isList.typeIs, fun a e => ?_⟩
      cases e
      obtain ⟨o, n, e, c, hd, _⟩ := pl
      exact ⟨o, e, hd⟩
    · refine ⟨⟨o, I.kIn p o hk, hc⟩, fun a e => ?_⟩
      cases e
      exact ⟨o, I.kIn _ o hk, hd⟩
    · have z : ∃ o, s.heap.get? p = some o ∧ o.ExactDict := by
        rcases hk with ⟨kvs, hk⟩ | ⟨kvs, hk⟩
        · obtain ⟨_, _, _, _, o, _, _, e, ex, _⟩ := I.hok p _ hk
          exact ⟨o, e, ex⟩
        · obtain ⟨_, _, _, _, o, _, _, e, ex, _⟩ := I.hok p _ hk
          exact ⟨o, e, ex⟩
      obtain ⟨o, e, ex⟩ := z
      refine ⟨⟨o, e, ex.1⟩, fun a e2 => ?_⟩
      cases e2
      exact ⟨o, e, ex.2.1⟩
    · obtain ⟨o, _, _, _, e, ex, _⟩ := I.hok p _ hk
      refine ⟨⟨o, e, ex.1⟩, fun a e2 => ?_⟩
      cases e2
      exact ⟨o, e, ex.2.1⟩
  | _ => exact False.elim ty
def tBM (K : PySem.W.Frag) (T : String) (r : V → List V → Hp → VK → Prop) (to : TE) (t : TA) : TE := fun σ H Q => to σ H fun x H1 => tyV K T x H1 ∧ t σ H1 fun xs H2 => r x xs H2 Q
variable {o e : Expr} {es : List Expr} {to : TE} {t : TA} {name : Str} {apos cpos : Pos} {T id : String} {r : V → List V → Hp → VK → Prop}
/- xs.append(e), list.index on a module's tuple .. are MtR facts of 06m -/
end
end L2

namespace L2
open PySem PySem.Spec PyProof.Rows

def MtM (X : Cx) (id : String) (r : V → List V → Hp → VK → Prop) : Prop :=
  ∀ (pins : List (Addr × Obj)) (s : Shared) (σ : St) (H : Hp) (x : V) (xs : List V) (v : Value) (us : List Value) (Q : VK), Inv X pins σ H s → RelV x v → Vals xs us → r x xs H Q →
    wpAny (model X.prog X.w) X.A (call (.builtin id) (v :: us)) (EP X pins σ Q) X.xe s

/-! ### lists of values -/
theorem Vals.one : ∀ {x : V} {us : List Value}, Vals [x] us → ∃ u, us = [u] ∧ RelV x u
  | _, _, .cons r .nil => ⟨_, rfl, r⟩
section
variable {X : Cx} {pins : List (Addr × Obj)} {σ : St} {H : Hp} {s : Shared} {l b : Addr} {xs ys zs : List V}

/-! ### the two steps: a tracked list is rewritten, a new list is laid -/
theorem Inv.lset {its its' : List Value} {n : Nat} {f : Array Value → Array Value} {t' : Nat} (I : Inv X pins σ H s) (hH : H l = some (.lst xs))
    (e : s.heap.get? l = some { cls := .type "list", data := .seq its.toArray n }) (hf : f its.toArray = its'.toArray) (hv : Vals ys its') (hz : ys.length ≤ sizeLine) :
    Inv X pins σ (upd H l (.lst ys)) { s with heap := s.heap.update l (Obj.mapSeq f), toks := t' } := by
  have q := PySem.IsL.update e f
  rw [hf] at q
  refine I.write (x := l) (e := l) (by rw [hH]; exact trivial) (.inl rfl) (fun b' u hb hu => (Heap.get?_update_other s.heap (Obj.mapSeq f) (Ne.symm hb)).trans hu) ⟨_, q⟩ ?_
  exact ⟨hz, its', _, hv, q⟩
theorem Inv.lnew {its : List Value} {t' : Nat} (I : Inv X pins σ H s) (hv : Vals ys its) (hz : ys.length ≤ sizeLine) :
    Inv X pins σ (upd H s.heap.objs.size (.lst ys)) { s with heap := s.heap.push { cls := .type "list", data := .seq its.toArray }, toks := t' } :=
  I.laid (fun _ _ q => Heap.get?_push_of_some _ q) (Nat.le_refl _) ⟨hz, its, 0, hv, Heap.get?_push_size _ rfl⟩
theorem Inv.fresh (I : Inv X pins σ H s) : H s.heap.objs.size = none := I.hok.fresh (Nat.le_refl _)
theorem Inv.lstM (I : Inv X pins σ H s) (hH : H l = some (.lst xs)) : xs.length ≤ sizeLine ∧ ∃ (its : List Value) (n : Nat), Vals xs its ∧ xs.length = its.length ∧ s.heap.get? l = some { cls := .type "list", data := .seq its.toArray n } := by
  obtain ⟨z, its, n, r, e⟩ := I.hok l _ hH
  exact ⟨z, its, n, r, r.length, e⟩

theorem notLongL {n : Nat} (h : n ≤ sizeLine) : Builtin.List.listTooLong n = false := by
  unfold Builtin.List.listTooLong
  exact decide_eq_false (by omega)
end

section
variable {X : Cx}

/-! ### methods -/
def rAppend : V → List V → Hp → VK → Prop := fun x vs H Q => ∃ l xs y, x = .ref l ∧ vs = [y] ∧ H l = some (.lst xs) ∧ xs.length < sizeLine ∧ Q .non (upd H l (.lst (xs ++ [y])))
theorem mt_append : MtM X "list.append" rAppend := by
  intro pins s σ H x vs v us Q I rx rv h
  obtain ⟨l, xs, y, rfl, rfl, hH, hz, q⟩ := h
  cases rx
  obtain ⟨u, rfl, ru⟩ := rv.one
  obtain ⟨z, its, n, r, hl, e⟩ := I.lstM hH
  refine call_meets F.slot_list_append ⟨_, e, rfl⟩ F.entry_list_append (F.args_list_append_2 _ _) (PySem.list_append l its.toArray n u (by rw [List.size_toArray]; omega)) ⟨e, ?_⟩
  refine ⟨.non, _, I.lset (its' := its ++ [u]) hH e (by simp) (r.append (.cons ru .nil)) ?_, rfl, q⟩
  rw [List.length_append, List.length_singleton]
  omega

def rExtend : V → List V → Hp → VK → Prop := fun x vs H Q => ∃ l b xs zs, x = .ref l ∧ vs = [.ref b] ∧ H l = some (.lst xs) ∧ H b = some (.lst zs) ∧ xs.length + zs.length ≤ sizeLine ∧ Q .non (upd H l (.lst (xs ++ zs)))
theorem mt_extend : MtM X "list.extend" rExtend := by
  intro pins s σ H x vs v us Q I rx rv h
  obtain ⟨l, b, xs, zs, rfl, rfl, hH, hB, hz, q⟩ := h
  cases rx
  obtain ⟨u, rfl, ru⟩ := rv.one
  cases ru
  obtain ⟨z, its, n, r, hl, e⟩ := I.lstM hH
  obtain ⟨z2, its2, n2, r2, hl2, e2⟩ := I.lstM hB
  have hsz : its.toArray.size + its2.toArray.size ≤ sizeLine := by rw [List.size_toArray, List.size_toArray]; omega
  have hlong : ¬ (!its.toArray.isEmpty && Builtin.List.listTooLong (its.toArray.size + its2.toArray.size)) = true := by
    rw [notLongL hsz, Bool.and_false]
    exact Bool.false_ne_true
  refine call_meets F.slot_list_extend ⟨_, e, rfl⟩ F.entry_list_extend (F.args_list_extend_2 _ _)
    (AutoSeq1.list_extend_list_list_0 l its.toArray n b its2.toArray n2 hlong (by rw [List.size_toArray]; omega) (by omega)) ⟨e, e2, ?_⟩
  refine ⟨.non, _, I.lset (its' := its ++ its2) hH e (by simp) (r.append r2) ?_, rfl, q⟩
  rw [List.length_append]
  omega

/-! ### list + list, list += list, list * int -/
/-! ### del xs[i] -/
end

/-! ### xs[a:b] = ys -/
section
variable {prog : Program} {w : World} {A : Around} {E : Value → Shared → Prop} {s : Shared}
end

section
variable {X : Cx}
end
end L2

namespace Att
open PySem PySem.W PySem.Calls PyProof.Rows

/-! ### the script -/
theorem ints_of_wellAll {P : Params} {h : Heap} : ∀ (ns : List Int) (vs : List Value), WellAll P h vs (ns.map WData.int) → IntsAre vs ns := by
  intro ns
  induction ns with
  | nil =>
    intro vs w
    rw [List.map_nil] at w
    cases w
    exact .nil
  | cons n ns ih =>
    intro vs w
    rw [List.map_cons] at w
    cases w with
    | cons a b =>
      cases a
      exact .cons _ _ (ih _ b)

theorem script_of {l : OpenLaw} {n : Nat} (hn : l.most = some n) {P : Params} {h : Heap} {args : List WData} {vals : List Value}
    (hpre : l.row.toRowW.claim.pre args = true) (hwl : WellAll P h vals args) :
    ∃ a vs ns, vals = [Value.ref a] ∧ args = [WData.list (ns.map WData.int)] ∧ h.get? a = some { cls := .type "list", data := .seq vs.toArray } ∧ IntsAre vs ns ∧ ns.length ≤ n := by
  have hsh : WShape.hasAll [] args [.list .int] = true := (pre_splitW hpre).1
  have hc : l.pre.holds [] { args := args } = true := (pre_splitW hpre).2
  obtain ⟨d, r, rfl, h1, h2⟩ := hasAllW_cons hsh
  obtain rfl := hasAllW_nil h2
  obtain ⟨xs, rfl, h3⟩ := hasW_list h1
  obtain ⟨ns, rfl⟩ := items_int h3
  have hlen : ns.length ≤ n := by
    unfold OpenLaw.pre at hc
    have h4 : (WTm.not (.lt (.lit (.int (n : Int))) (.len (.arg 0)))).holds [] { args := [.list (ns.map .int)] } = true := by
      have h4 := (holds_andW hc).1
      rw [hn] at h4
      exact h4
    have h5 := condW_of h4 (w_not (w_lt w_lit (w_len_list (w_arg rfl))))
    rw [List.length_map] at h5
    refine Nat.le_of_not_lt fun q => ?_
    have q' : (n : Int) < ((ns.length : Nat) : Int) := by omega
    first
      | (rw [decide_eq_true q'] at h5; exact absurd h5 (by decide))
      | (simp at h5; omega)
  cases hwl with
  | cons w1 w2 =>
    cases w2
    cases w1 with
    | list ho hall => exact ⟨_, _, ns, rfl, rfl, ho, ints_of_wellAll ns _ hall, hlen⟩

theorem post_true (l : OpenLaw) (args : List WData) : l.row.toRowW.claim.post args (.bool true) args = true :=
  postW_of (r := l.row.toRowW) (X := (true == true))
    (show WShape.has [] (.bool true) .bool = true by first | rfl | decide | simp [WShape.has, WShape.arms, WShape.armsAll])
    (show (WTm.eq .res (.lit (.bool true))).value [] { args := args, res := some (.bool true), after := args } = some (.bool (true == true)) from w_eq_bool (w_res rfl) w_lit) rfl

/-! ### the attachment: holds_open's last premise (the goal 'hc' behind k_head) from a wpAny of the law's body -/
/-- the same from a codeAny of the CALL (for a layer whose function contracts speak of calls) -/
theorem attach_call {l : OpenLaw} {n : Nat} {q : Program} {loose : List Str} {XP : (Str → Option Value) → Heap → Prop} {YP : World → Heap → Prop} {d : DefRec}
    (hn : l.most = some n) (hdf : d.params.defaults = [])
    (call : ∀ (w : World) (s₀ s₁ : Shared) (mg mb : Str → Option Value) (fa : Addr) (o : Obj) (pm cd doc : Value) (a : Addr) (vs : List Value) (ns : List Int),
      Ground q loose [] XP w s₀ mg mb s₁.heap → YP w s₁.heap →
      s₁.heap.get? fa = some o → o.data = .func (docDef d.name d.params d.body d.scope pm cd doc) → s₁.heap.CodeRec cd d.name → mg d.name = some (.ref fa) →
      s₁.heap.get? a = some { cls := .type "list", data := .seq vs.toArray } → IntsAre vs ns → ns.length ≤ n → s₁.gens = #[] →
      codeAny (model l.prog w) callerA (.call (.ref fa) ⟨[.ref a], []⟩) (fun r s' => r = .ok (.ret (.bool true)) ∧ OldK s₁.heap s'.heap ∧ s'.os = s₁.os ∧ AllBare s'.gens) s₁) :
    WalkO q loose XP YP l.row.toRowW d [] (fun f vs => PySem.call f vs) := by
  intro w s₀ s₁ mg mb G Y fa o pm cd doc dV kV ho hd hcd hD hmg hg args vals as hpre hlay hrd hwl hlo
  obtain rfl : dV = .none := Dflts.none hD hdf
  obtain rfl : kV = .none := Dflts.noKw hD
  obtain ⟨a, vs, ns, rfl, rfl, hobj, hints, hlen⟩ := script_of hn hpre hwl
  refine enter_call (codeAny_mono (call w s₀ s₁ mg mb fa o pm cd doc a vs ns G Y ho (fd_plain hd) hcd hmg hobj hints hlen hg) fun r s' hq => ?_)
  obtain ⟨rfl, h2, h3, h4⟩ := hq
  exact ⟨.inl ⟨.bool true, .bool true, [], rfl, fun _ => rfl, .bool true, post_true l _, fun _ => ⟨List.Pairwise.nil, fun _ hm => (nomatch hm)⟩⟩, h2, h3, h4⟩

/-! ### rules over ANY heap (no ledger) from facts about the written part K: the library's own take a ledger (News) for what they write -/
section
variable {prog : Program} {w : World} {A : Around} {E : Value → Shared → Prop} {s : Shared} {K : Frag}

/-! the whole heap as the ledger: makes every rule that writes through a ledger a rule over any heap -/
end
end Att

namespace L2
open PySem PySem.Spec PyProof.Rows

theorem vals_ints : ∀ {vs : List Value} {ns : List Int}, IntsAre vs ns → Vals (ns.map V.int) vs
  | _, _, .nil => .nil
  | _, _, .cons n t h => .cons ⟨t, rfl⟩ (vals_ints h)

/-- nothing is tracked but the script, known to the object (or it is an object of the module) -/
def Only (H : Hp) : Prop := ∀ b, H b = none ∨ ∃ o xs, H b = some (.frz o (.lst xs))

/-- THE HEAD: the law's promise, at the heap behind the top. F, the promise of the law's def, may use that base is part of the heap (so K.In base, base.Ns mainGlobals mg stand in Mod) -/
theorem law_call {P : Program} {w : World} {K : PySem.W.Frag} {mg mb : Str → Option Value} {CX : CXT} {k : Nat} {fa a : Addr} {fd : FuncData} {x : Str} {sp : Sp} {s₁ : Shared} {vs : List Value} {ns : List Int}
    (KX : K.In s₁.heap) (hns : s₁.heap.Ns mainGlobals mg) (hb : s₁.heap.Ns builtinsNs mb) (hbb : ∀ x : Str, x ≠ "__name__" → mb x = bootBuiltins x) (hlim : s₁.heap.NoLimit) (hg : s₁.gens = #[])
    (ha : s₁.heap.get? a = some { cls := .type "list", data := .seq vs.toArray }) (hi : IntsAre vs ns) (hl : ns.length ≤ sizeLine) (hr : Room k callerA)
    (F : ∀ base : Heap, K.In base → base.Ns mainGlobals mg → FnOk P w K mg base CX k fa fd [x] sp) (hbind : ∀ (s : Shared) (u : Value), BindsTo s fd ⟨[u], []⟩ [(x, u)])
    (hsp : ∀ H : Hp, Only H → SqL K H a (ns.map V.int) → sp [.ref a] H (fun v _ => v = .bl true) fun _ _ _ => False)
    (hCX : ∀ H e s', CX [] H s₁ (fun _ _ _ => False) e s' → False) :
    codeAny (model P w) callerA (.call (.ref fa) ⟨[.ref a], []⟩) (fun r s' => r = .ok (.ret (.bool true)) ∧ OldK s₁.heap s'.heap ∧ s'.os = s₁.os ∧ AllBare s'.gens) s₁ := by
  have rv := vals_ints hi
  have lenV := hi.length
  -- from an abstract heap in which nothing but the script may be tracked
  have core : ∀ H : Hp, Only H → SqL K H a (ns.map V.int) → HOk P w H s₁.heap → (∀ b, H b ≠ none → b = a) → (H a ≠ none → K.lookup a = none) →
      codeAny (model P w) callerA (.call (.ref fa) ⟨[.ref a], []⟩) (fun r s' => r = .ok (.ret (.bool true)) ∧ OldK s₁.heap s'.heap ∧ s'.os = s₁.os ∧ AllBare s'.gens) s₁ := by
    intro H hO hS hok hA hK
    have base_of : ∀ {b : Addr} {o : Obj}, s₁.heap.get? b = some o → H b = none → (hidT s₁.heap H).get? b = some o := fun e n => hidT_get e n
    have noA : ∀ {b : Addr} {o : Obj} {es : Array DictEntry} {ep : Nat}, s₁.heap.get? b = some o → o.data = .dict es ep → H b = none := fun {b o es ep} e d => by
      cases q : H b with
      | none => rfl
      | some u =>
        have e' : b = a := hA b (by rw [q]; simp)
        subst e'
        rw [ha] at e; cases e
        have d' : Data.seq vs.toArray _ = Data.dict es ep := d
        cases d'
    have nsK : ∀ {b : Addr} {m : Str → Option Value}, s₁.heap.Ns b m → (hidT s₁.heap H).Ns b m := fun {b m} ⟨o, es, ep, e, d, r⟩ => ⟨o, es, ep, base_of e (noA e d), d, r⟩
    have hKb : K.In (hidT s₁.heap H) := fun b o e => base_of (KX b o e) (by
      cases q : H b with
      | none => rfl
      | some u =>
        have e' : b = a := hA b (by rw [q]; simp)
        subst e'
        rw [hK (by rw [q]; simp)] at e; cases e)
    have hM : Mod K mg (hidT s₁.heap H) := ⟨hKb, nsK hns, ⟨mb, nsK hb, hbb⟩, let ⟨mc, h1, h2⟩ := hlim; ⟨mc, nsK h1, h2⟩⟩
    have e0 : Env0 P w K mg (hidT s₁.heap H) callerA [] s₁ H := ⟨rfl, hM, fun b o e => of_hidT e, Nat.le_of_eq (hidT_size _ _), trivial, fun b hb => absurd (show b ∈ ([] : List Addr) from hb) (by simp), hok, .of_eq hg⟩
    refine codeAny_mono ((F _ hKb (nsK hns)).run callerA [] s₁ H ⟨[.ref a], []⟩ [.ref a] [.ref a] _ _ hr e0 (hbind s₁ (.ref a)) (.cons rfl .nil) (hsp H hO hS)) fun r s' h => ?_
    cases r with
    | error e => exact (hCX H e s' h).elim
    | ok fl =>
      cases fl with
      | next => exact False.elim h
      | brk => exact False.elim h
      | cont => exact False.elim h
      | ret u =>
        obtain ⟨v, H', os, bare, un, hok', r', q⟩ := h
        have q' : v = .bl true := q
        subst q'
        obtain rfl : u = Value.bool true := r'
        refine ⟨rfl, OldK.of_keep fun b o e => ?_, os, bare⟩
        cases q : H b with
        | none => exact un.keep b o e q (by intro z; exact absurd (show b ∈ ([] : List Addr) from z) (by simp)) (by simp)
        | some u =>
          rcases hO b with z | ⟨ob, xs, z⟩
          · rw [q] at z; cases z
          · have z2 := un.frzs b ob _ z
            obtain ⟨e1, _⟩ := hok b _ z
            obtain ⟨e2, _⟩ := hok' b _ z2
            rw [e] at e1; cases e1
            exact e2
  cases hk : K.lookup a with
  | some o =>
    -- the script is one of the module's own objects
    have e := KX a o hk
    rw [ha] at e
    cases e
    refine core (fun _ => none) (fun _ => .inl rfl) (.inr ⟨_, vs.toArray, _, hk, rfl, rfl, rfl, by rw [List.size_toArray, lenV]; exact hl, by simpa using rv⟩) (fun b u z => by have z' : (none : Option HO) = some u := z; cases z') (fun b z => absurd rfl z) fun z => absurd rfl z
  | none =>
    refine core (fun b => if b = a then some (.frz { cls := .type "list", data := .seq vs.toArray } (.lst (ns.map V.int))) else none) (fun b => ?_) (.inl (.inr ⟨{ cls := .type "list", data := .seq vs.toArray }, if_pos rfl⟩)) (fun b u z => ?_) (fun b z => ?_) fun _ => hk
    · by_cases hb : b = a
      · exact .inr ⟨_, _, if_pos hb⟩
      · exact .inl (if_neg hb)
    · by_cases hb : b = a
      · have z' := (if_pos hb).symm.trans z
        cases z'
        subst hb
        exact ⟨ha, by rw [List.length_map]; exact hl, vs, _, rv, ha⟩
      · have z' := (if_neg hb).symm.trans z
        cases z'
    · by_cases hb : b = a
      · exact hb
      · exact absurd (if_neg hb) z
end L2

namespace L2
open PySem PySem.Spec PyProof.Rows

/-- the goal that k_head leaves (case hc), from the law's promise. F gives the function object fd (K's own) once, then the promise over every base -/
theorem walk_of {l : PySem.W.OpenLaw} {n k : Nat} {q : Program} {loose : List Str} {XP : (Str → Option Value) → Heap → Prop} {YP : World → Heap → Prop} {d : DefRec} {K : Params → PySem.W.Frag} {CX : World → CXT} {sp : World → Sp} {x : Str}
    (hn : l.most = some n) (hn2 : n ≤ sizeLine) (hdf : d.params.defaults = []) (hr : Room k callerA)
    (hY : ∀ (w : World) (h : Heap), YP w h → (K w.params).In h)
    (F : ∀ (w : World) (mg : Str → Option Value) (fa : Addr) (h : Heap), (K w.params).In h → h.Ns mainGlobals mg → mg d.name = some (.ref fa) →
      ∃ fd : FuncData, (∀ (s : Shared) (u : Value), BindsTo s fd ⟨[u], []⟩ [(x, u)]) ∧
        ∀ base : Heap, (K w.params).In base → base.Ns mainGlobals mg → FnOk l.prog w (K w.params) mg base (CX w) k fa fd [x] (sp w))
    (hsp : ∀ (w : World) (H : Hp) (a : Addr) (ns : List Int), ns.length ≤ n → Only H → SqL (K w.params) H a (ns.map V.int) → sp w [.ref a] H (fun v _ => v = .bl true) fun _ _ _ => False)
    (hCX : ∀ (w : World) (H : Hp) (s : Shared) (e : Value) (s' : Shared), CX w [] H s (fun _ _ _ => False) e s' → False) :
    PySem.W.WalkO q loose XP YP l.row.toRowW d [] (fun f vs => PySem.call f vs) := by
  refine Att.attach_call hn hdf fun w s₀ s₁ mg mb fa o pm cd doc a vs ns G Y ho hd hcd hmg hobj hints hlen hg => ?_
  have KX := hY w _ Y
  obtain ⟨fd, hb, hF⟩ := F w mg fa _ KX G.T.g hmg
  exact law_call KX G.T.g G.T.b G.T.builtins G.T.nolimit hg hobj hints (Nat.le_trans hlen hn2) hr hF hb (fun H hO hS => hsp w H a ns hlen hO hS) fun H e s' => hCX w H s₁ e s'
end L2

/- THE LAST THEOREM (shape; LID, My.* are yours):
   My.Adr: a structure of the addresses that your layer names (classes, functions); My.Txt K t: a structure (Prop) of the equations over K;
   My.txt_mk : {K} {implicit addresses ..} (e1 : nsIn K mainGlobals "law" = some (some (.ref f))) (e2 : K.lookup f = some ⟨oc, od, .func (fnOf "law" "law" params body scope dV kV doc pm an cdv ct), sl⟩) (e3 : codeIn K cdv "law" = true) .. : ∃ t, My.Txt K t

set_option maxRecDepth 100000 in
set_option maxHeartbeats 0 in
theorem PySem.Challenge.cw_LID_holds : PySem.Challenge.rw_LID.Holds := by
  w_on; o_law; k_head; (case hw => w_witness2)
  k_fill
  refine L2.walk_of (l := PySem.Challenge.rw_LID) (n := 63) (k := 40) (x := "script") (CX := fun w => ..) (sp := fun _ => My.sp_law) rfl (by decide) rfl ⟨rfl, by decide, by decide⟩ (fun w h Y => PySem.W.kIn_of Y) ?F ?S ?C
  case F =>
    intro w mg fa h KX G hmg
    have T : ∃ t, My.Txt (L2.KOf KX) t := by
      dsimp only [L2.KOf]                          -- K must stand as «<heap const> w.params» for k_is
      refine' My.txt_mk ?e1 ?e2 ?e3 ..
      (case e1 => PySem.W.k_is)                    -- in the order: a name -> its address -> its object -> its parts
      (case e2 => PySem.W.k_is)
      ..
    obtain ⟨t, T⟩ := T
    have e0 := hmg.symm.trans (PySem.W.mg_of KX G T.law)
    cases e0                                       -- fa is the law's own address
    exact ⟨_, fun s u => .of_eq rfl, fun base kb nb => My.law_fn T kb nb⟩     -- if «.of_eq rfl» comes too early: refine' ⟨_, ?b, fun base kb nb => My.law_fn T kb nb⟩; exact fun s u => .of_eq rfl
  case S => exact fun w H a ns hl hO hS => ..
  case C => exact ..
(the tactic k_is has no namespace: write k_is) -/

/-! SHORT WORDS over the layer: a def of the text, its body, what a loop and a test want. -/
namespace L2
open PySem PySem.Spec PyProof.Rows

/-! ### the text by places -/
def defArgs (s : Stmt) : Arguments := match s with
  | .FunctionDef _ a _ _ _ _ _ _ _ _ => a
  | _ => { posonlyargs := [], args := [], vararg := none, kwonlyargs := [], kw_defaults := [], kwarg := none, defaults := [] }
def defBody (s : Stmt) : List Stmt := match s with
  | .FunctionDef _ _ b _ _ _ _ _ _ _ => b
  | _ => []
def defScope (s : Stmt) : Scope := match s with
  | .FunctionDef _ _ _ _ _ _ sc _ _ _ => sc
  | _ => { kind := .function, names := [], isGenerator := false, isCoroutine := false }

/-! ### no exception leaves a def -/
abbrev CX0 : CXT := fun _ _ _ _ _ _ => False
abbrev E0 : XK := fun _ _ _ => False
theorem pass0 {X : Cx} : Passes CX0 X E0 := fun _ _ _ _ _ _ _ h => h.elim

/-! ### a def (or method) of the text as it stands behind the top -/
structure Fun (K : PySem.W.Frag) (x qual : Str) (st : Stmt) (f : Addr) (fd : FuncData) : Prop where
  ex : ∃ (oc : Value) (od : Option Addr) (kV doc pm : Value) (an : Option Addr) (cdv ct : Value) (osl : Array (Option Value)),
    fd = PySem.W.fnOf x qual (defArgs st) (defBody st) (defScope st) .none kV doc pm an cdv ct ∧ K.lookup f = some ⟨oc, od, .func fd, osl⟩ ∧ PySem.W.codeIn K cdv qual = true
  kp : PySem.W.keepIn K (.ref f) = true
section
variable {P : Program} {w : World} {K : PySem.W.Frag} {mg : Str → Option Value} {base : Heap}
/-- THE RULE for a def: its body as a term of rules, and the reading of that term -/
theorem Fun.ok {x qual : Str} {st : Stmt} {f : Addr} {fd : FuncData} {N ps : List Str} {k : Nat} {sp : Sp} (F : Fun K x qual st f fd) (S : FnScope N ps (defScope st)) (len : ∀ vs H Q E, sp vs H Q E → vs.length = ps.length)
    (hbody : ∀ (cdv : Value) (A : Around) (outer : List Env) (s : Shared) (H : Hp) (vs : List V) (Q : VK) (E : XK), Room k (A.deeper (envOfC qual (defScope st) s.heap.objs.size f cdv)) → sp vs H Q E →
      ∃ t, PSs (cxOf CX0 P w K mg base N qual (defScope st) f cdv A outer s H E).nox (defBody st) t ∧ t { nx := fun _ H' => Q .non H', rt := Q } (start N vs) H) : FnOk P w K mg base CX0 (k + 1) f fd ps sp := by
  obtain ⟨oc, od, kV, doc, pm, an, cdv, ct, osl, rfl, lk, hcd⟩ := F.ex
  refine fn_of lk hcd S len fun A outer s H vs Q E hr hsp => ?_
  obtain ⟨t, h, q⟩ := hbody cdv A outer s H vs Q E hr hsp
  exact ⟨t, h.nox, q⟩
/-- how its arguments bind (no defaults): h is «fun _ _ _ _ _ _ us hl => match us, hl with | [_, _], _ => rfl», one _ a parameter -/
theorem Fun.binds {x qual : Str} {st : Stmt} {f : Addr} {fd : FuncData} {ps : List Str} (F : Fun K x qual st f fd)
    (h : ∀ (kV doc pm : Value) (an : Option Addr) (cdv ct : Value) (us : List Value), us.length = ps.length → bindArgs (PySem.W.fnOf x qual (defArgs st) (defBody st) (defScope st) .none kV doc pm an cdv ct) ⟨us, []⟩ = pure (ps.zip us)) : Binds K fd ps [] := by
  obtain ⟨oc, od, kV, doc, pm, an, cdv, ct, osl, rfl, lk, hcd⟩ := F.ex
  exact .all (h kV doc pm an cdv ct)
theorem fun_mk {x qual : Str} {st : Stmt} {f : Addr} {oc : Value} {od an : Option Addr} {osl : Array (Option Value)} {kV doc pm cdv ct : Value} (l : K.lookup f = some ⟨oc, od, .func (PySem.W.fnOf x qual (defArgs st) (defBody st) (defScope st) .none kV doc pm an cdv ct), osl⟩)
    (c : PySem.W.codeIn K cdv qual = true) (k : PySem.W.keepIn K (.ref f) = true) : Fun K x qual st f (PySem.W.fnOf x qual (defArgs st) (defBody st) (defScope st) .none kV doc pm an cdv ct) := ⟨⟨oc, od, kV, doc, pm, an, cdv, ct, osl, rfl, l, c⟩, k⟩
end
/-! ### expressions in short: the name that stands in the i-th slot -/
section
variable {X : Cx}
theorem pv (i : Nat) {x : Str} {pos : Pos} (hN : X.N[i]? = some x := by rfl) (hv : Vis X.env.scope x := by first | exact Or.inl rfl | exact Or.inr (Or.inl rfl) | exact Or.inr (Or.inr rfl)) (hd : (x == ("__debug__" : Str)) = false := by decide)
    (hcd : (x == ("__classdict__" : Str)) = false := by decide) : PE X (.Name x pos) (tVar i) := pe_var hN hv hd hcd
end

/-! ### tests -/
theorem iteF {A B : Prop} (h : B) : if false = true then A else B := by
  rw [if_neg Bool.false_ne_true]
  exact h
theorem iteT {A B : Prop} (h : A) : if true = true then A else B := by
  rw [if_pos rfl]
  exact h
theorem ite2 {c A B : Prop} [Decidable c] (h1 : c → A) (h2 : ¬ c → B) : if c then A else B := by
  by_cases h : c
  · rw [if_pos h]
    exact h1 h
  · rw [if_neg h]
    exact h2 h
/-! ### heaps -/
end L2

set_option Elab.async false
set_option linter.all false
set_option maxRecDepth 100000
namespace L2
open PySem PySem.Spec PyProof.Rows

/-! ### a comprehension's closure and cells -/
def cloF (env : Env) : List (Str × NameKind) → List (Str × Addr) → List (Str × Addr)
  | [], acc => acc
  | (n, k) :: r, acc => if k == .free then cloF env r ((n, (env.cells.lookup n).getD 0) :: acc) else cloF env r acc
theorem clo_forIn {env : Env} (f : Str × NameKind → List (Str × Addr) → Sem (ForInStep (List (Str × Addr))))
    (hf : ∀ n k cs, f (n, k) cs = if k == .free then (do let a ← cellOf env n; pure (.yield ((n, a) :: cs))) else pure (.yield cs)) :
    ∀ (names : List (Str × NameKind)) (acc : List (Str × Addr)), (∀ x ∈ names, x.2 = .free → (env.cells.lookup x.1).isSome = true) → forIn names acc f = pure (cloF env names acc)
  | [], acc, _ => by rw [List.forIn_nil]; rfl
  | (n, k) :: r, acc, h => by
    rw [List.forIn_cons, hf]
    unfold cloF
    have hr : ∀ x ∈ r, x.2 = .free → (env.cells.lookup x.1).isSome = true := fun x hx => h x (List.mem_cons_of_mem _ hx)
    by_cases hk : (k == NameKind.free) = true
    · rw [if_pos hk, if_pos hk]
      have e := h (n, k) List.mem_cons_self (by simpa using hk)
      obtain ⟨c, hc⟩ := Option.isSome_iff_exists.mp e
      unfold cellOf
      simp only at hc
      rw [hc]
      simp only [pure_bind, Option.getD_some]
      exact clo_forIn f hf r _ hr
    · rw [if_neg hk, if_neg hk, pure_bind]
      exact clo_forIn f hf r _ hr
theorem closureFor_cells {scope : Scope} {env : Env} (h : ∀ x ∈ scope.names, x.2 = .free → (env.cells.lookup x.1).isSome = true) : closureFor scope env = pure (cloF env scope.names []) := by
  show (forIn scope.names ([] : List (Str × Addr)) _ >>= fun cs => pure cs) = _
  rw [clo_forIn (env := env) _ (fun n k cs => by cases hk : k == NameKind.free <;> simp [hk]) scope.names [] h]
  simp only [pure_bind]
theorem clo_look {env : Env} {x : Str} {c : Addr} : ∀ (names : List (Str × NameKind)) (acc : List (Str × Addr)), (∀ x ∈ names, x.2 = .free → (env.cells.lookup x.1).isSome = true) →
    (cloF env names acc).lookup x = some c → env.cells.lookup x = some c ∨ acc.lookup x = some c
  | [], _, _, e => .inr e
  | (n, k) :: r, acc, h, e => by
    unfold cloF at e
    have hr : ∀ x ∈ r, x.2 = .free → (env.cells.lookup x.1).isSome = true := fun x hx => h x (List.mem_cons_of_mem _ hx)
    by_cases hk : (k == NameKind.free) = true
    · rw [if_pos hk] at e
      rcases clo_look r _ hr e with q | q
      · exact .inl q
      · rw [List.lookup_cons] at q
        cases hb : x == n with
        | true =>
          rw [hb] at q
          have hx : x = n := by simpa using hb
          obtain ⟨c', hc⟩ := Option.isSome_iff_exists.mp (h (n, k) List.mem_cons_self (by simpa using hk))
          simp only at hc
          rw [hc] at q
          subst hx
          rw [hc]
          exact .inl (by simpa using q)
        | false => rw [hb] at q; exact .inr q
    · rw [if_neg hk] at e
      exact clo_look r _ hr e
theorem clo_some {env : Env} {x : Str} : ∀ (names : List (Str × NameKind)) (acc : List (Str × Addr)), ((x, NameKind.free) ∈ names ∨ (acc.lookup x).isSome = true) → ((cloF env names acc).lookup x).isSome = true
  | [], _, h => h.elim (fun e => nomatch e) id
  | (n, k) :: r, acc, h => by
    unfold cloF
    by_cases hk : (k == NameKind.free) = true
    · rw [if_pos hk]
      refine clo_some r _ ?_
      rcases h with h | h
      · rcases List.mem_cons.mp h with e | h
        · cases e; exact .inr (by rw [List.lookup_cons]; simp)
        · exact .inl h
      · refine .inr ?_
        rw [List.lookup_cons]
        split
        · rfl
        · exact h
    · rw [if_neg hk]
      refine clo_some r _ ?_
      rcases h with h | h
      · rcases List.mem_cons.mp h with e | h
        · cases e; exact absurd (by decide) hk
        · exact .inl h
      · exact .inr h
theorem cf_look {x : Str} {c : Addr} : ∀ (names : List (Str × NameKind)) (k : Nat) (acc : List (Str × Addr)), (cellsFrom k names acc).lookup x = some c → k ≤ c ∨ (acc.lookup x = some c ∧ (x, NameKind.cell) ∉ names)
  | [], _, _, e => .inr ⟨e, by simp⟩
  | (n, kd) :: r, k, acc, e => by
    unfold cellsFrom at e
    by_cases hk : (kd == NameKind.cell) = true
    · rw [if_pos hk] at e
      rcases cf_look r _ _ e with q | ⟨q, nr⟩
      · exact .inl (by omega)
      · rw [List.lookup_cons] at q
        cases hb : x == n with
        | true => rw [hb] at q; cases q; exact .inl (Nat.le_refl _)
        | false =>
          rw [hb] at q
          refine .inr ⟨q, fun z => ?_⟩
          rcases List.mem_cons.mp z with z | z
          · cases z; simp at hb
          · exact nr z
    · rw [if_neg hk] at e
      rcases cf_look r _ _ e with q | ⟨q, nr⟩
      · exact .inl q
      · refine .inr ⟨q, fun z => ?_⟩
        rcases List.mem_cons.mp z with z | z
        · cases z; exact hk (by simp)
        · exact nr z
theorem cf_inj : ∀ (names : List (Str × NameKind)) (k : Nat) (acc : List (Str × Addr)), (∀ p ∈ acc, p.2 < k) → (∀ p q, p ∈ acc → q ∈ acc → p.2 = q.2 → p.1 = q.1) → ∀ p q, p ∈ cellsFrom k names acc → q ∈ cellsFrom k names acc → p.2 = q.2 → p.1 = q.1
  | [], _, _, _, hi, p, q, hp, hq, e => hi p q hp hq e
  | (n, kd) :: r, k, acc, hb, hi, p, q, hp, hq, e => by
    unfold cellsFrom at hp hq
    by_cases hk : (kd == NameKind.cell) = true
    · rw [if_pos hk] at hp hq
      refine cf_inj r (k + 1) ((n, k) :: acc) (fun z hz => ?_) (fun y z hy hz e => ?_) p q hp hq e
      · rcases List.mem_cons.mp hz with rfl | hz
        · exact Nat.lt_succ_self _
        · exact Nat.lt_succ_of_lt (hb z hz)
      · rcases List.mem_cons.mp hy with hy | hy <;> rcases List.mem_cons.mp hz with hz | hz
        · rw [hy, hz]
        · subst hy; exact absurd (hb z hz) (by rw [← e]; exact Nat.lt_irrefl _)
        · subst hz; exact absurd (hb y hy) (by rw [e]; exact Nat.lt_irrefl _)
        · exact hi y z hy hz e
    · rw [if_neg hk] at hp hq
      exact cf_inj r k acc hb hi p q hp hq e
theorem cf_cell : ∀ (names : List (Str × NameKind)) (h : Heap) (acc : List (Str × Addr)) (p : Str × Addr), p ∈ cellsFrom h.objs.size names acc → p ∈ acc ∨ ((pushCells h names).IsCell p.2 none ∧ h.objs.size ≤ p.2)
  | [], _, _, _, e => .inl e
  | (n, kd) :: r, h, acc, p, e => by
    unfold cellsFrom at e
    unfold pushCells
    by_cases hk : (kd == NameKind.cell) = true
    · rw [if_pos hk] at e ⊢
      have hs : (h.push { cls := .type "cell", data := .cell none }).objs.size = h.objs.size + 1 := Heap.size_push ..
      rw [← hs] at e
      rcases cf_cell r _ _ p e with q | ⟨q, l⟩
      · rcases List.mem_cons.mp q with rfl | q
        · exact .inr ⟨Heap.IsCell.keeps ⟨_, Heap.get?_push_size _ rfl, rfl⟩ (pushCells_keeps _ _), Nat.le_refl _⟩
        · exact .inl q
      · exact .inr ⟨q, by omega⟩
    · rw [if_neg hk] at e ⊢
      exact cf_cell r h acc p e
/-- the block's env is made -/
theorem newEnv_comp {M : Model} {A : Around} {E : Value → Shared → Prop} {s : Shared} {scope : Scope} {globals : Addr} {cl : List (Str × Addr)} {qual : Str} {outer : Env} {Q : Env → Shared → Prop}
    (hQ : Q (newEnv scope s.heap.objs.size globals (cellsFrom (s.heap.objs.size + 1) scope.names cl) qual none .none (some outer) builtinsNs) { s with heap := pushCells (s.heap.push { cls := .type "dict", data := .dict #[] }) scope.names }) :
    wpAny M A (newFunctionEnv scope globals cl [] qual none .none (some outer)) Q E s := by
  simp only [newFunctionEnv, Option.isSome_some, if_true]
  refine wpAny_bind (wpAny_alloc ?_)
  refine wpAny_bind (wpAny_layCells _ (fun name kind cells => by cases hkc : kind == NameKind.cell <;> simp [hkc]) _ _ _ _ ?_)
  rw [show ({ s with heap := s.heap.push { cls := .type "dict", data := .dict #[] } } : Shared).heap.objs.size = s.heap.objs.size + 1 from Heap.size_push ..]
  rw [List.forIn_nil]
  exact wpAny_bind (wpAny_pure (wpAny_pure hQ))

/-- the loop of a list comprehension with one for, any target -/
theorem comp_loop {prog : Program} {w : World} {A : Around} {R : Result → Shared → Prop} {s : Shared} {elt target iter : Expr} {ifs : List Expr} {scope : Scope} {pos : Pos} {it acc : Value} {env : Env} (I : Nat → Shared → Prop)
    (turn : ∀ n s, I n s → wpAny (model prog w) A (pyNext it) (fun r s₁ => match r with
      | none => R (.ok .next) s₁
      | some v => wpAny (model prog w) A (letOwnedTupleGo target it v) (fun _ s₁' => wpAny (model prog w) A (assign target env v) (fun _ s₂ =>
          wpAny (model prog w) A (forIn ifs true fun c r => if r = true then do let ok ← isTrue c env (eval c env); pure (ForInStep.yield ok) else pure (ForInStep.yield r)) (fun ok s₃ =>
            if ok = true then wpAny (model prog w) A (eval elt env) (fun x s₄ =>
              wpAny (model prog w) A (call (.builtin "list.append") [acc, x]) (fun _ s₅ => ∃ m, m < n ∧ I m s₅) (fun _ _ => False) s₄) (fun _ _ => False) s₃
            else ∃ m, m < n ∧ I m s₃) (fun _ _ => False) s₂) (fun _ _ => False) s₁') (fun _ _ => False) s₁) (fun _ _ => False) s)
    (n : Nat) (h : I n s) :
    codeAny (model prog w) A (.compLoop (.ListComp elt [⟨target, iter, ifs, 0⟩] scope pos) 0 it acc env) R s := by
  refine codeAny_loop rfl I (fun n s hI => ?_) n h
  show wpAny _ A ((compTurn (.ListComp elt [⟨target, iter, ifs, 0⟩] scope pos) 0 it acc env).onRaise (fun x => do noteFrame x env; theTreesLotGoes x)) _ _ s
  refine wpAny_noted ?_
  rw [compTurn_list]
  refine wpAny_bind (wpAny_standAt (wpAny_bind (wpAny_mono (turn n s hI) (fun r s₁ h₁ => ?_) fun _ _ h' => h'.elim)))
  cases r with
  | none => exact wpAny_pure h₁
  | some v =>
    refine wpAny_bind (wpAny_mono h₁ (fun _ s₁' h₁' => ?_) fun _ _ h' => h'.elim)
    refine wpAny_bind (wpAny_mono h₁' (fun _ s₂ h₂ => wpAny_bind (wpAny_mono h₂ (fun ok s₃ h₃ => ?_) fun _ _ h' => h'.elim)) fun _ _ h' => h'.elim)
    cases ok with
    | false => exact wpAny_pure ⟨rfl, h₃⟩
    | true =>
      exact wpAny_bind (wpAny_bind (wpAny_mono h₃ (fun x s₄ h₄ => wpAny_bind (wpAny_mono h₄ (fun _ s₅ h₅ => wpAny_pure (wpAny_pure ⟨rfl, h₅⟩)) fun _ _ h' => h'.elim)) fun _ _ h' => h'.elim))

/-! ### the block's context -/
def compE (scope : Scope) (C : Addr) (env : Env) : Env := compEnvC scope (cellsFrom (C + 1) scope.names (cloF env scope.names [])) C env
def cxC (X : Cx) (scope : Scope) (C : Addr) (N : List Str) (fp : List Addr) (s : Shared) (H : Hp) : Cx where
  prog := X.prog
  w := X.w
  K := X.K
  mg := X.mg
  base := X.base
  A := X.A
  N := N
  s₀ := s
  H₀ := H
  env := compE scope C X.env
  outer := X.stack
  stack := X.stack
  ex := fp
  fn := fun x => decide ((x, NameKind.cell) ∈ scope.names)
  calm := X.calm
  pn := []
  xe := fun _ _ => False

/-- the tests of a comprehension -/
def PIfs (X : Cx) (ifs : List Expr) (t : TT) : Prop :=
  ∀ (pins : List (Addr × Obj)) (s : Shared) (σ : St) (H : Hp) (Q : Bool → Hp → Prop), Inv X pins σ H s → t σ H Q →
    wpAny (model X.prog X.w) X.A (forIn ifs true fun c r => if r = true then do let ok ← isTrue c X.env (eval c X.env); pure (ForInStep.yield ok) else pure (ForInStep.yield r)) (TP X pins σ Q) X.xe s
def tYes : TT := fun _ H Q => Q true H
theorem pifs_nil {X : Cx} : PIfs X [] tYes := fun _ s σ H Q I h => wpAny_tests_nil ⟨H, I, h⟩
theorem pifs_one {X : Cx} {c : Expr} {t : TT} (h : PT X c t) : PIfs X [c] t := fun pins s σ H Q I q => wpAny_tests_one (h pins s σ H Q I q)

/-- captured names: name and its slot outside -/
def blkσ (own : Nat) (cap : List Nat) (σ : St) : St := List.replicate own none ++ cap.map fun i => (σ[i]?).getD none

structure BlkOk (X : Cx) (scope : Scope) (own : List Str) (cap : List Str) (ix : List Nat) : Prop where
  kind : scope.kind = .function
  names : ∀ x ∈ scope.names, x.2 = .local → scope.names.lookup x.1 = some .local
  nd : (scope.names.map (·.1)).Nodup
  frees : ∀ x ∈ scope.names, x.2 = .free → X.env.kindOf x.1 = some .cell ∨ X.env.kindOf x.1 = some .free
  caps : ∀ (j : Nat) (x : Str), cap[j]? = some x → (x, NameKind.free) ∈ scope.names
  at' : ∀ (j : Nat) (x : Str), cap[j]? = some x → ∃ i, ix[j]? = some i ∧ X.N[i]? = some x
  len : cap.length = ix.length

theorem relabel_look {env : Env} {scope : Scope} {x : Str} {k : NameKind} (h : (relabel scope env).names.lookup x = some k) : (x, k) ∈ scope.names ∨ (k = .cell ∧ (x, NameKind.free) ∈ scope.names) := by
  have m := PySem.mem_of_lookup h
  obtain ⟨⟨n, k'⟩, hm, e⟩ := List.mem_map.mp m
  simp only at e
  split at e
  · rename_i hc
    cases e
    have : k' = NameKind.free := by simp at hc; exact hc.1.1
    subst this
    exact .inr ⟨rfl, hm⟩
  · cases e; exact .inl hm

theorem nodup_keys {names : List (Str × NameKind)} (nd : (names.map (·.1)).Nodup) {x : Str} {k k' : NameKind} (h : (x, k) ∈ names) (h' : (x, k') ∈ names) : k = k' := by
  induction names with
  | nil => cases h
  | cons p r ih =>
    rw [List.map_cons, List.nodup_cons] at nd
    rcases List.mem_cons.mp h with e | h <;> rcases List.mem_cons.mp h' with e' | h'
    · rw [← e'] at e; cases e; rfl
    · exact absurd (List.mem_map.mpr ⟨_, h', by rw [← e]⟩) nd.1
    · exact absurd (List.mem_map.mpr ⟨_, h, by rw [← e']⟩) nd.1
    · exact ih nd.2 h h'

section
variable {X : Cx} {pins : List (Addr × Obj)} {σ : St} {H : Hp} {s : Shared} {scope : Scope} {own cap : List Str} {ix : List Nat}

/-- the block begins: s stands behind the making of the accumulator -/
theorem Inv.block (I : Inv X pins σ H s) (B : BlkOk X scope own cap ix) {fp : List Addr} (hf : ∀ b ∈ fp, FpOk X pins H b) (ho : ∀ b ∈ fp, ∃ o, s.heap.get? b = some o) :
    Inv (cxC X scope s.heap.objs.size (own ++ cap) fp s H) [] (blkσ own.length ix σ) H { s with heap := pushCells (s.heap.push { cls := .type "dict", data := .dict #[] }) scope.names } := by
  have has : ∀ x ∈ scope.names, x.2 = .free → (X.env.cells.lookup x.1).isSome = true := fun x hx hk => by
    obtain ⟨c, e⟩ := I.ok.has x.1 (B.frees x hx hk)
    rw [e]; rfl
  have keep : ∀ b o, s.heap.get? b = some o → (pushCells (s.heap.push { cls := .type "dict", data := .dict #[] }) scope.names).get? b = some o := fun b o e => pushCells_keeps _ _ b o (Heap.get?_push_of_some _ e)
  have old : ∀ x c, X.env.cells.lookup x = some c → c < s.heap.objs.size := fun x c e => let ⟨v, q⟩ := I.cell x c e; q.lt
  have cs_look : ∀ x c, (cellsFrom (s.heap.objs.size + 1) scope.names (cloF X.env scope.names [])).lookup x = some c → s.heap.objs.size + 1 ≤ c ∨ (X.env.cells.lookup x = some c ∧ (x, NameKind.cell) ∉ scope.names) := fun x c e => by
    rcases cf_look _ _ _ e with q | ⟨q, nm⟩
    · exact .inl q
    · rcases clo_look _ _ has q with q | q
      · exact .inr ⟨q, nm⟩
      · cases q
  have clo_mem : ∀ p ∈ cloF X.env scope.names [], X.env.cells.lookup p.1 = some p.2 := by
    have aux : ∀ (names : List (Str × NameKind)) (acc : List (Str × Addr)), (∀ x ∈ names, x.2 = .free → (X.env.cells.lookup x.1).isSome = true) → (∀ p ∈ acc, X.env.cells.lookup p.1 = some p.2) → ∀ p ∈ cloF X.env names acc, X.env.cells.lookup p.1 = some p.2 := by
      intro names
      induction names with
      | nil => intro acc _ h p hp; exact h p hp
      | cons y r ih =>
        intro acc h h2 p hp
        obtain ⟨n, k⟩ := y
        unfold cloF at hp
        by_cases hk : (k == NameKind.free) = true
        · rw [if_pos hk] at hp
          refine ih _ (fun x hx => h x (List.mem_cons_of_mem _ hx)) (fun q hq => ?_) p hp
          rcases List.mem_cons.mp hq with rfl | hq
          · obtain ⟨c, e⟩ := Option.isSome_iff_exists.mp (h (n, k) List.mem_cons_self (by simpa using hk))
            simp only at e ⊢
            rw [e]; rfl
          · exact h2 q hq
        · rw [if_neg hk] at hp
          exact ih _ (fun x hx => h x (List.mem_cons_of_mem _ hx)) h2 p hp
    exact aux _ _ has (fun p hp => nomatch hp)
  have cinj : ∀ x y c, (cellsFrom (s.heap.objs.size + 1) scope.names (cloF X.env scope.names [])).lookup x = some c → (cellsFrom (s.heap.objs.size + 1) scope.names (cloF X.env scope.names [])).lookup y = some c → x = y := fun x y c e1 e2 =>
    cf_inj scope.names (s.heap.objs.size + 1) (cloF X.env scope.names []) (fun p hp => Nat.lt_succ_of_lt (old p.1 p.2 (clo_mem p hp)))
      (fun p q hp hq e => I.ok.inj p.1 q.1 p.2 (clo_mem p hp) (by rw [e]; exact clo_mem q hq)) (x, c) (y, c) (PySem.mem_of_lookup e1) (PySem.mem_of_lookup e2) rfl
  have ccell : ∀ x c, (cellsFrom (s.heap.objs.size + 1) scope.names (cloF X.env scope.names [])).lookup x = some c → ∃ v, (pushCells (s.heap.push { cls := .type "dict", data := .dict #[] }) scope.names).IsCell c v := fun x c e => by
    have m := PySem.mem_of_lookup e
    have hs : (s.heap.push { cls := .type "dict", data := .dict #[] }).objs.size = s.heap.objs.size + 1 := Heap.size_push ..
    rw [← hs] at m
    rcases cf_cell _ _ _ _ m with q | ⟨q, _⟩
    · obtain ⟨v, z⟩ := I.cell _ _ (clo_mem _ q)
      exact ⟨v, z.keeps keep⟩
    · exact ⟨none, q⟩
  have fplt : ∀ b ∈ fp, b < s.heap.objs.size := fun b hb => let ⟨o, e⟩ := ho b hb; Heap.lt_size e
  refine ⟨⟨I.ok.mod, ?_, I.ok.glob, I.ok.blt, Nat.le_refl _, cinj, fun x hx => ?_, fun x c hfx e => ?_, I.ok.hd, I.ok.frames, .inl rfl, fun b hb => ⟨?_, fun x c e => ?_⟩, I.bs, Nat.le_trans I.ok.bsz I.sz, fun b o e hb => ?_, fun b hb hz => ?_, I.stack, I.stkFree⟩,
    rfl, I.bare, Un.kept keep, ⟨fun _ => none, (Heap.Ns.new s.heap (.type "dict")).keeps (pushCells_keeps _ _), fun i x v h1 h2 h3 => ?_⟩, ccell, I.hok.fresh (Nat.le_refl _), fun x c e => ?_, fun p hp => absurd (show p ∈ ([] : List (Addr × Obj)) from hp) (by simp), I.hok.kept keep, ?_⟩
  · exact B.kind
  · have hx' : (relabel scope X.env).names.lookup x = some .cell ∨ (relabel scope X.env).names.lookup x = some .free := hx
    have : ((cellsFrom (s.heap.objs.size + 1) scope.names (cloF X.env scope.names [])).lookup x).isSome = true := by
      have fr : (x, NameKind.free) ∈ scope.names → ((cellsFrom (s.heap.objs.size + 1) scope.names (cloF X.env scope.names [])).lookup x).isSome = true := fun z => PySem.W.cellsFrom_some _ _ _ (.inr (clo_some _ _ (.inl z)))
      have ce : (x, NameKind.cell) ∈ scope.names → ((cellsFrom (s.heap.objs.size + 1) scope.names (cloF X.env scope.names [])).lookup x).isSome = true := fun z => by
        have aux : ∀ (names : List (Str × NameKind)) (k : Nat) (acc : List (Str × Addr)), (x, NameKind.cell) ∈ names → ((cellsFrom k names acc).lookup x).isSome = true := by
          intro names
          induction names with
          | nil => intro _ _ z; cases z
          | cons y r ih =>
            intro k acc z
            obtain ⟨n, kd⟩ := y
            unfold cellsFrom
            by_cases hk : (kd == NameKind.cell) = true
            · rw [if_pos hk]
              rcases List.mem_cons.mp z with e | z
              · cases e
                exact PySem.W.cellsFrom_some _ _ _ (.inr (by rw [List.lookup_cons]; simp))
              · exact ih _ _ z
            · rw [if_neg hk]
              rcases List.mem_cons.mp z with e | z
              · cases e; exact absurd (by decide) hk
              · exact ih _ _ z
        exact aux _ _ _ z
      rcases hx' with q | q
      · rcases relabel_look q with q | ⟨_, q⟩
        · exact ce q
        · exact fr q
      · rcases relabel_look q with q | ⟨e, _⟩
        · exact fr q
        · cases e
    exact Option.isSome_iff_exists.mp this
  · have hm : (x, NameKind.cell) ∈ scope.names := of_decide_eq_true hfx
    rcases cs_look x c e with q | ⟨_, nm⟩
    · exact Nat.le_trans (Nat.le_succ _) q
    · exact absurd hm nm
  · exact Nat.ne_of_lt (fplt b hb)
  · rcases cs_look x c e with q | ⟨q, _⟩
    · exact Nat.ne_of_gt (Nat.lt_of_lt_of_le (fplt b hb) (Nat.le_trans (Nat.le_succ _) q))
    · exact (hf b hb).2.2.2.2.1 x c q
  · rcases (hf b hb).2.2.2.1 with z | z
    · exact I.ok.noex b o e z
    · exact absurd (Nat.lt_of_lt_of_le (Heap.lt_size e) (Nat.le_trans I.ok.bsz z)) (Nat.lt_irrefl _)
  · rcases List.mem_cons.mp (I.stkSub b hz) with e | z
    · exact (hf b hb).2.1 e
    · exact (hf b hb).2.2.1 z
  · -- a captured name
    have h1 : (own ++ cap)[i]? = some x := h1
    have hi : own.length ≤ i := by
      by_cases hi : i < own.length
      · unfold blkσ at h2
        rw [List.getElem?_append_left (by simpa using hi), List.getElem?_replicate, if_pos hi] at h2
        cases h2
      · omega
    rw [List.getElem?_append_right hi] at h1
    unfold blkσ at h2
    rw [List.getElem?_append_right (by simpa using hi), List.length_replicate, List.getElem?_map] at h2
    obtain ⟨j, hj, hN⟩ := B.at' _ _ h1
    rw [hj] at h2
    simp only [Option.map_some, Option.some.injEq] at h2
    have h2' : σ[j]? = some (some v) := by
      cases q : σ[j]? with
      | none => rw [q] at h2; simp at h2
      | some o => rw [q] at h2; simp at h2; rw [h2]
    have fm := B.caps _ _ h1
    have kd := B.frees _ fm rfl
    obtain ⟨m, hn, hl⟩ := I.loc
    obtain ⟨u, r, l⟩ := hl j x v hN h2' (by rcases kd with k | k; exact .inr (.inl k); exact .inr (.inr k))
    refine ⟨u, r, .inr ?_⟩
    have cellx : ∃ c, X.env.cells.lookup x = some c ∧ s.heap.IsCell c (some u) := by
      rcases l with ⟨k, _⟩ | ⟨_, c, e, z⟩
      · simp only at kd; rw [k] at kd; rcases kd with k | k <;> cases k
      · exact ⟨c, e, z⟩
    obtain ⟨c, ec, zc⟩ := cellx
    have ncell : (x, NameKind.cell) ∉ scope.names := fun z => by have := nodup_keys B.nd z fm; cases this
    refine ⟨?_, c, ?_, zc.keeps keep⟩
    · have h3' : (relabel scope X.env).names.lookup x = some .local ∨ (relabel scope X.env).names.lookup x = some .cell ∨ (relabel scope X.env).names.lookup x = some .free := h3
      rcases h3' with q | q | q
      · rcases relabel_look q with q | ⟨e, _⟩
        · have := nodup_keys B.nd q fm; cases this
        · cases e
      · exact .inl q
      · exact .inr q
    · show (cellsFrom (s.heap.objs.size + 1) scope.names (cloF X.env scope.names [])).lookup x = some c
      obtain ⟨c', e'⟩ := Option.isSome_iff_exists.mp (PySem.W.cellsFrom_some (x := x) scope.names (s.heap.objs.size + 1) (cloF X.env scope.names []) (.inr (clo_some _ _ (.inl fm))))
      rw [e']
      rcases cf_look _ _ _ e' with q | ⟨q, _⟩
      · exfalso
        have m := PySem.mem_of_lookup e'
        have aux : ∀ (names : List (Str × NameKind)) (k : Nat) (acc : List (Str × Addr)), (x, NameKind.cell) ∉ names → (cellsFrom k names acc).lookup x = acc.lookup x := by
          intro names
          induction names with
          | nil => intro _ _ _; rfl
          | cons y r ih =>
            intro k acc nm
            obtain ⟨n, kd⟩ := y
            unfold cellsFrom
            by_cases hk : (kd == NameKind.cell) = true
            · rw [if_pos hk, ih _ _ (fun z => nm (List.mem_cons_of_mem _ z)), List.lookup_cons]
              have : (x == n) = false := by
                simp only [beq_eq_false_iff_ne]
                intro e; subst e
                have : kd = .cell := by simpa using hk
                subst this
                exact nm List.mem_cons_self
              rw [this]
            · rw [if_neg hk, ih _ _ (fun z => nm (List.mem_cons_of_mem _ z))]
        rw [aux _ _ _ ncell] at e'
        rcases clo_look _ _ has e' with z | z
        · exact absurd (Nat.lt_of_lt_of_le (old _ _ z) (Nat.le_trans (Nat.le_succ _) q)) (Nat.lt_irrefl _)
        · cases z
      · rcases clo_look _ _ has q with z | z
        · rw [ec] at z; rw [z]
        · cases z
  · rcases cs_look x c e with q | ⟨q, _⟩
    · exact I.hok.fresh (Nat.le_trans (Nat.le_succ _) q)
    · exact I.freeC x c q
  · unfold blkσ
    show _ = (own ++ cap).length
    rw [List.length_append, List.length_append, List.length_replicate, List.length_map, B.len]
end
end L2

set_option Elab.async false
set_option linter.all false
set_option maxRecDepth 100000
namespace L2
open PySem PySem.Spec PyProof.Rows

def tCompN (g : TG) (tt : TT) (te : TE) (J : It) (acc : Addr) (σ₀ : St) (H₀ : Hp) (Q : VK) : Prop :=
  ∃ W : Nat → Nat → St → Hp → Prop, (∃ m, W 0 m σ₀ (upd H₀ acc (.lst []))) ∧ ∀ i m σ' H', W i m σ' H' →
    (J.stop i H' ∧ Q (.ref acc) H') ∨
    (J.go i H' ∧ ∃ N : St → Hp → Prop, (∀ σ2 H2, N σ2 H2 → ∃ m', m' < m ∧ W (i + 1) m' σ2 H2) ∧ ∀ x H2, J.yld i H' x H2 → g x σ' H2 fun σ3 H3 => tt σ3 H3 fun b H4 =>
      if b = true then te σ3 H4 fun y H5 => ∃ ys, H5 acc = some (.lst ys) ∧ ys.length < sizeLine ∧ N σ3 (upd H5 acc (.lst (ys ++ [y]))) else N σ3 H4)
/-- [elt for tg in iter if ..]: the accumulator stands at acc -/
def tComp (wi : TI) (g : TG) (tt : TT) (te : TE) (own : Nat) (ix : List Nat) : TE := fun σ H Q => wi σ H fun J H1 => ∀ acc, H1 acc = none → tCompN g tt te J acc (blkσ own ix σ) H1 Q

section
variable {X : Cx} {scope : Scope} {own cap : List Str} {ix : List Nat} {tg iter elt : Expr} {ifs : List Expr} {wi : TI} {g : TG} {tt : TT} {te : TE} {pos : Pos}

theorem comp_core {pins : List (Addr × Obj)} {σ : St} {H2 : Hp} {s2 : Shared} {it : Addr} {fp : List Addr} {tn : Nat → Heap → Prop} {J : It} {Q : VK} {RR : Value → Addr → Result → Shared → Prop} {E : Value → Shared → Prop}
    (B : BlkOk X scope own cap ix) (hc : X.calm = true)
    (hb : ∀ C fp s H, PG (cxC X scope C (own ++ cap) fp s H) tg g ∧ PIfs (cxC X scope C (own ++ cap) fp s H) ifs tt ∧ PE (cxC X scope C (own ++ cap) fp s H) elt te)
    (I2 : Inv X pins σ H2 s2) (T : Turn X.prog X.w X.K tg J fp it tn) (st2 : tn 0 s2.heap) (f2 : ∀ b ∈ fp, FpOk X pins H2 b)
    (q : ∀ acc, H2 acc = none → tCompN g tt te J acc (blkσ own.length ix σ) H2 Q)
    (hRR : ∀ D C H' s' m, Inv X pins σ H' s' → Q (.ref D) H' → s'.heap.Ns C m → FpOk X pins H' C → RR (.ref D) C (.ok .next) s') :
    wpAny (model X.prog X.w) X.A (newList []) (fun acc s₃ => wpAny (model X.prog X.w) X.A (newFunctionEnv scope X.env.globals (cloF X.env scope.names []) [] X.env.qual none .none (some X.env)) (fun cenv s₄ =>
      codeAny (model X.prog X.w) X.A (.compStart (.ListComp elt [⟨tg, iter, ifs, 0⟩] scope pos) 0 (.ref it) acc { cenv with scope := relabel scope X.env }) (RR acc cenv.locals) s₄) E s₃) E s2 := by
  refine wpAny_newObj_type (newEnv_comp ?_)
  have I3 : Inv X pins σ (upd H2 s2.heap.objs.size (.lst [])) { s2 with heap := s2.heap.push { cls := .type "list", dict := none, data := .seq ([] : List Value).toArray } } := I2.lnew (its := []) (ys := []) (t' := s2.toks) .nil (Nat.zero_le _)
  obtain ⟨W, ⟨m0, w0⟩, turn⟩ := q s2.heap.objs.size I2.fresh
  generalize hD : s2.heap.objs.size = D at I3 w0 turn ⊢
  have hlt : ∀ b ∈ fp, b < D := fun b hbm => by
    obtain ⟨o, e, _⟩ := T.obj 0 _ st2 b hbm
    rw [← hD]; exact Heap.lt_size e
  generalize hs3 : ({ s2 with heap := s2.heap.push { cls := .type "list", dict := none, data := .seq ([] : List Value).toArray } } : Shared) = s3 at I3 ⊢
  have keep3 : ∀ b o, s2.heap.get? b = some o → s3.heap.get? b = some o := fun b o e => by rw [← hs3]; exact Heap.get?_push_of_some _ e
  have f3 : ∀ b ∈ fp, FpOk X pins (upd H2 D (.lst [])) b := fun b hbm => ⟨by rw [upd_ne (Nat.ne_of_lt (hlt b hbm))]; exact (f2 b hbm).1, (f2 b hbm).2⟩
  have o3 : ∀ b ∈ fp, ∃ o, s3.heap.get? b = some o := fun b hbm => let ⟨o, e, _⟩ := T.obj 0 _ st2 b hbm; ⟨o, keep3 b o e⟩
  have I4 := I3.block B f3 o3
  have st4 : tn 0 (pushCells (s3.heap.push { cls := .type "dict", data := .dict #[] }) scope.names) := T.keep 0 _ _ st2 fun b _ o e => pushCells_keeps _ _ b o (Heap.get?_push_of_some _ (keep3 b o e))
  obtain ⟨hg, hif, he⟩ := hb s3.heap.objs.size fp s3 (upd H2 D (.lst []))
  generalize hX' : cxC X scope s3.heap.objs.size (own ++ cap) fp s3 (upd H2 D (.lst [])) = X' at I4 hg hif he
  have eP : X'.prog = X.prog := by rw [← hX']; rfl
  have eW : X'.w = X.w := by rw [← hX']; rfl
  have eK : X'.K = X.K := by rw [← hX']; rfl
  have eA : X'.A = X.A := by rw [← hX']; rfl
  have eE : X'.env = compE scope s3.heap.objs.size X.env := by rw [← hX']; rfl
  have ex : X'.xe = fun _ _ => False := by rw [← hX']; rfl
  have hc' : X'.calm = true := by rw [← hX']; exact hc
  have stat : ∀ {H' : Hp}, (∀ b ∈ fp, H' b = none) → ∀ b ∈ fp, FpOk X' [] H' b := fun hn b hbm => by
    subst hX'
    exact ⟨hn b hbm, (I4.ok.exf b hbm).1, I4.ok.exfs b hbm, .inl hbm, (I4.ok.exf b hbm).2, fun p hp => absurd (show p ∈ ([] : List (Addr × Obj)) from hp) (by simp)⟩
  have loop : ∀ s4 : Shared, s4 = { s3 with heap := pushCells (s3.heap.push { cls := .type "dict", data := .dict #[] }) scope.names } →
      codeAny (model X.prog X.w) X.A (.compLoop (.ListComp elt [⟨tg, iter, ifs, 0⟩] scope pos) 0 (.ref it) (.ref D) (compE scope s3.heap.objs.size X.env)) (RR (.ref D) s3.heap.objs.size) s4 := by
    rintro s4 rfl
    refine comp_loop (fun n s' => ∃ i σ' H', Inv X' [] σ' H' s' ∧ tn i s'.heap ∧ (∀ b ∈ fp, H' b = none) ∧ W i n σ' H') ?_ m0 ⟨0, _, _, I4, st4, fun b hbm => (f3 b hbm).1, w0⟩
    rintro n s5 ⟨i, σ5, H5, I5, st5, fr5, w5⟩
    rcases turn i n σ5 H5 w5 with ⟨stop, qn⟩ | ⟨go, N, hN, step⟩
    · have := T.done X' eP eW eK hc' i [] s5 σ5 H5 (fun _ _ => False) I5 (stat fr5) st5 stop
      rw [eA] at this
      refine thn this fun r s6 ⟨hr, I6⟩ => ?_
      subst hr
      subst hX'
      have J6 : Inv X pins σ H5 s6 := I3.call' (ch := fp) I6.os I6.base I6.hok I6.bare fun b hbm => ⟨(f3 b hbm).2.2.2.1, (f3 b hbm).2.1, (f3 b hbm).2.2.2.2.1, (f3 b hbm).2.2.2.2.2⟩
      obtain ⟨m, hn, _⟩ := I6.loc
      exact hRR D _ H5 s6 m J6 qn hn (I3.fpOk (Nat.le_refl _) I6.free)
    · have := T.item X' eP eW eK hc' i [] s5 σ5 H5 (fun _ _ => False) I5 (stat fr5) st5 go
      rw [eA] at this
      refine thn this fun r s6 ⟨u, hr, h6⟩ => ?_
      subst hr
      refine thn h6 fun _ s7 ⟨x, H7, I7, r7, y7, st7, fr7⟩ => ?_
      have I7' := I7.pinned (stat fr7) (T.obj _ _ st7)
      have a1 := hg _ s7 σ5 H7 x u _ I7' r7 (step x H7 y7)
      rw [eP, eW, eA, eE, ex] at a1
      refine thn a1 fun _ s8 ⟨σ8, H8, I8, q8⟩ => ?_
      have a2 := hif _ s8 σ8 H8 _ I8 q8
      rw [eP, eW, eA, eE, ex] at a2
      refine thn a2 fun b s9 ⟨H9, I9, q9⟩ => ?_
      have again : ∀ {s' : Shared} {σ' : St} {H' : Hp}, Inv X' ([] ++ pinsAt fp s7.heap) σ' H' s' → N σ' H' → ∃ m, m < n ∧ ∃ i σ' H', Inv X' [] σ' H' s' ∧ tn i s'.heap ∧ (∀ b ∈ fp, H' b = none) ∧ W i m σ' H' := fun {s' σ' H'} I' n' => by
        obtain ⟨m', hm, w'⟩ := hN σ' H' n'
        refine ⟨m', hm, i + 1, σ', H', I'.unpinned, T.keep _ _ _ st7 fun b hbm o e => (I'.pin (b, o) (List.mem_append_right _ (List.mem_append_right _ (mem_pinsAt hbm e)))).1, fun b hbm => ?_, w'⟩
        obtain ⟨o, e, d⟩ := T.obj _ _ st7 b hbm
        exact (I'.pin (b, o) (List.mem_append_right _ (List.mem_append_right _ (mem_pinsAt hbm e)))).2.1
      cases b with
      | false => exact again I9 q9
      | true =>
        rw [if_pos rfl] at q9 ⊢
        have a3 := he _ s9 σ8 H9 _ I9 q9
        rw [eP, eW, eA, eE, ex] at a3
        refine thn a3 fun yv s10 ⟨y, H10, I10, r10, ys, hys, hz, q10⟩ => ?_
        have a4 := mt_append (X := X') _ s10 σ8 H10 (.ref D) [y] (.ref D) [yv] (fun v H' => v = .non ∧ N σ8 H') I10 rfl (.cons r10 .nil) ⟨D, ys, y, rfl, rfl, hys, hz, rfl, q10⟩
        rw [eP, eW, eA, ex] at a4
        refine thn a4 fun _ s11 ⟨_, H11, I11, _, _, q11⟩ => again I11 q11
  exact codeAny_compStart_list (loop _ rfl) (T.self X.A 0 _ _ _ st4 (loop _ rfl))

theorem pe_comp (B : BlkOk X scope own cap ix) (hc : X.calm = true) (hi : PI X tg iter wi)
    (hb : ∀ C fp s H, PG (cxC X scope C (own ++ cap) fp s H) tg g ∧ PIfs (cxC X scope C (own ++ cap) fp s H) ifs tt ∧ PE (cxC X scope C (own ++ cap) fp s H) elt te)
    (hs : ∀ x, foldedSetIterable iter X.env x = pure x := by intro _; rfl) : PE X (.ListComp elt [⟨tg, iter, ifs, 0⟩] scope pos) (tComp wi g tt te own.length ix) := by
  intro pins s σ H Q I h
  rw [eval_ListComp]
  have has : ∀ x ∈ scope.names, x.2 = .free → (X.env.cells.lookup x.1).isSome = true := fun x hx hk => by
    obtain ⟨c, e⟩ := I.ok.has x.1 (B.frees x hx hk)
    rw [e]; rfl
  refine wpAny_comprehension_free (use := none) rfl hs (closureFor_cells has) B.kind B.names ?_
  show wpAny _ _ (eval iter X.env) _ _ s
  refine thn (hi pins s σ H _ I h) fun v s1 h1 => thn h1 fun itv s2 h2 => ?_
  obtain ⟨it, fp, tn, J, H2, e, I2, T, st2, f2, q⟩ := h2
  subst e
  refine comp_core (RR := fun acc C => compPost (model X.prog X.w) X.A X.xe none (EP X pins σ Q) acc C) B hc hb I2 T st2 f2 q ?_
  intro D C H' s' m I' q' hn fC
  refine ⟨m, hn, fun h' hsb => ⟨.ref D, H', ?_, rfl, q'⟩⟩
  exact I'.turned (t' := s'.toks) (it := C) (fun b o hbC e => (hsb.2 b hbC).trans e) fC.1 fC.2.1 fC.2.2.2.1 fC.2.2.2.2.1 fC.2.2.2.2.2

/-- name = [.. for ..], the name a plain local on the comprehension's row -/
theorem ps_setC {i : Nat} {y : Str} {py spos : Pos} (hN : X.N.Nodup) (hiN : X.N[i]? = some y) (hx : X.env.scope.names.lookup y = some .local) (B : BlkOk X scope own cap ix) (hc : X.calm = true) (hi : PI X tg iter wi)
    (hb : ∀ C fp s H, PG (cxC X scope C (own ++ cap) fp s H) tg g ∧ PIfs (cxC X scope C (own ++ cap) fp s H) ifs tt ∧ PE (cxC X scope C (own ++ cap) fp s H) elt te)
    (hsw : swapsWith (.ListComp elt [⟨tg, iter, ifs, 0⟩] scope pos) (some (.Name y py)) spos.line X.env = pure true := by rfl)
    (hs : ∀ x, foldedSetIterable iter X.env x = pure x := by intro _; rfl) : PS X (.Assign [.Name y py] (.ListComp elt [⟨tg, iter, ifs, 0⟩] scope pos) spos) (tAsg (tComp wi g tt te own.length ix) (gName i)) := by
  intro pins s σ H D I h
  rw [exec_Assign_Name_used _ _ _ _ hsw]
  have has : ∀ x ∈ scope.names, x.2 = .free → (X.env.cells.lookup x.1).isSome = true := fun x hx hk => by
    obtain ⟨c, e⟩ := I.ok.has x.1 (B.frees x hx hk)
    rw [e]; rfl
  refine wpAny_bind (wpAny_standAt (wpAny_bind ?_))
  show wpAny _ X.A (do let _ ← comprehension (.ListComp elt [⟨tg, iter, ifs, 0⟩] scope pos) scope X.env _ (newList []) false (eval iter X.env) (some (assign (.Name y py) X.env))) _ _ s
  refine wpAny_bind (wpAny_mono (wpAny_comprehension_free (use := some (assign (.Name y py) X.env)) (Q := fun _ s' => SP X pins D .next s') rfl hs (closureFor_cells has) B.kind B.names ?_) (fun _ s' hq => wpAny_pure (wpAny_pure hq)) fun _ _ e => e)
  refine thn (hi pins s σ H _ I h) fun v s1 h1 => thn h1 fun itv s2 h2 => ?_
  obtain ⟨it, fp, tn, J, H2, e, I2, T, st2, f2, q⟩ := h2
  subst e
  refine comp_core (RR := fun acc C => compPost (model X.prog X.w) X.A X.xe (some (assign (.Name y py) X.env)) (fun _ s' => SP X pins D .next s') acc C) B hc hb I2 T st2 f2 q ?_
  intro Da C H' s' m I' q' hn fC
  show wpAny _ X.A (assign (.Name y py) X.env (.ref Da)) _ _ s'
  obtain ⟨oC, es, ep, hoC, hdC, r⟩ := id hn
  have Ip : Inv X (pins ++ [(C, oC)]) σ H' s' := I'.pins_of fun p hp => by
    rcases List.mem_append.mp hp with z | z
    · exact I'.pin p (List.mem_append_right _ z)
    · obtain rfl : p = (C, oC) := by simpa using z
      exact ⟨hoC, fC.1, fC.2.1, fC.2.2.1, fun v e => by rw [hdC] at e; cases e⟩
  refine wpAny_assign_Name (store_ok Ip hN hiN (.inl hx) (v := .ref Da) rfl (fun s'' I'' => ?_) (.inr hx))
  have pC := (I''.pin (C, oC) (List.mem_append_right _ (List.mem_append_right _ (by simp)))).1
  refine ⟨m, ⟨oC, es, ep, pC, hdC, r⟩, fun h' hsb => ⟨_, H', ?_, q'⟩⟩
  exact I''.unpinned.turned (t' := s''.toks) (it := C) (fun b o hbC e => (hsb.2 b hbC).trans e) fC.1 fC.2.1 fC.2.2.2.1 fC.2.2.2.2.1 fC.2.2.2.2.2
end
end L2

set_option Elab.async false
set_option linter.all false
set_option maxRecDepth 100000
namespace L2
open PySem PySem.Spec PyProof.Rows

/-! ### any, all, sum, max over a list or a tuple of plain values -/
def tv : V → Bool
  | .bl b => b
  | .int i => i != 0
  | _ => false
def plainB : V → Bool
  | .bl _ => true
  | .int _ => true
  | .non => true
  | _ => false
theorem truthy_plain {prog : Program} {w : World} {A : Around} {E : Value → Shared → Prop} {s : Shared} {x : V} {v : Value} {Q : Bool → Shared → Prop} (r : RelV x v) (p : plainB x = true) (h : Q (tv x) s) : wpAny (model prog w) A (truthy v) Q E s := by
  cases x with
  | non => cases r; exact truthy_none h
  | bl b => cases r; exact wpAny_truthy_bool h
  | int i => obtain ⟨t, rfl⟩ := r; exact PySem.P.truthy_int h
  | _ => cases p
theorem any_range {xs : List V} {n : Nat} (hn : n = xs.length) (f : V → Bool) : (List.range n).any (fun i => (xs[i]?.map f).getD false) = xs.any f := by
  subst hn
  rw [Bool.eq_iff_iff]
  simp only [List.any_eq_true, List.mem_range]
  constructor
  · rintro ⟨i, hi, h⟩
    rw [List.getElem?_eq_getElem hi] at h
    exact ⟨_, List.getElem_mem hi, by simpa using h⟩
  · rintro ⟨x, hx, h⟩
    obtain ⟨i, hi, e⟩ := List.mem_iff_getElem.mp hx
    exact ⟨i, hi, by rw [List.getElem?_eq_getElem hi, e]; simpa using h⟩

section
variable {X : Cx}
/-- an iterator of a list or a tuple for a built-in that walks it -/
theorem iter_seq {pins : List (Addr × Obj)} {σ : St} {H : Hp} {s : Shared} {p : Addr} {xs : List V} {A : Around} {E : Value → Shared → Prop} {Q : Value → Shared → Prop} (I : Inv X pins σ H s) (hA : A.handled = none) (h : SqL X.K H p xs ∨ SqT X.K H p xs)
    (k : ∀ (it : Addr) (fp wr : List Addr) (its : List Value) (St : Nat → Heap → Prop) (s2 : Shared), Vals xs its → Walks X.prog X.w A it fp wr its.length (fun i v => its[i]? = some v) St → St 0 s2.heap → (∀ b ∈ fp, b < s2.heap.objs.size) →
      (∀ h' tk, (∀ b o, b ∉ wr → s2.heap.get? b = some o → h'.get? b = some o) → Inv X pins σ H { s2 with heap := h', toks := tk }) → Q (.ref it) s2) :
    wpAny (model X.prog X.w) A (pyIter (.ref p)) Q E s := by
  rcases h with h | h
  · obtain ⟨its, rv, pl, hz⟩ := I.list h
    have hp : p < s.heap.objs.size := by obtain ⟨o, n, e, _⟩ := pl; exact Heap.lt_size e
    refine wpAny_pyIter_list pl.isList ?_
    have W := Walks.list (prog := X.prog) (w := X.w) (A := A) hA s.heap.objs.size p (Nat.ne_of_lt hp) its.toArray
    refine k s.heap.objs.size [s.heap.objs.size, p] [s.heap.objs.size] its (fun i h => h.IsListIter s.heap.objs.size p i ∧ h.IsList p its.toArray) _ rv (by simpa using W) ⟨⟨_, Heap.get?_push_size _ rfl, rfl, rfl⟩, pl.isList.push _⟩ (fun b hb => ?_) (fun h' tk hk => ?_)
    · show b < (s.heap.push _).objs.size
      rw [Heap.size_push]
      rcases List.mem_cons.mp hb with rfl | hb
      · exact Nat.lt_succ_self _
      · rcases List.mem_cons.mp hb with rfl | hb
        · exact Nat.lt_succ_of_lt hp
        · cases hb
    · exact I.kept (t' := tk) fun b o e => hk b o (fun z => Nat.lt_irrefl _ (by have := Heap.lt_size e; simp at z; rw [z] at this; exact this)) (Heap.get?_push_of_some _ e)
  · obtain ⟨its, rv, pl, hz⟩ := I.tuple h
    have hp : p < s.heap.objs.size := by obtain ⟨o, e, _⟩ := pl; exact Heap.lt_size e
    have pt : s.heap.IsTuple p its.toArray := pl
    refine wpAny_pyIter_tuple pt ?_
    have W := Walks.tuple (prog := X.prog) (w := X.w) (A := A) hA s.heap.objs.size p (Nat.ne_of_lt hp) its.toArray
    refine k s.heap.objs.size [s.heap.objs.size, p] [s.heap.objs.size] its (fun i h => h.IsTupleIter s.heap.objs.size p i ∧ h.IsTuple p its.toArray) _ rv (by simpa using W) ⟨⟨_, Heap.get?_push_size _ rfl, rfl, rfl⟩, ?_⟩ (fun b hb => ?_) (fun h' tk hk => ?_)
    · obtain ⟨o, e, r⟩ := pt
      exact ⟨o, Heap.get?_push_of_some _ e, r⟩
    · show b < (s.heap.push _).objs.size
      rw [Heap.size_push]
      rcases List.mem_cons.mp hb with rfl | hb
      · exact Nat.lt_succ_self _
      · rcases List.mem_cons.mp hb with rfl | hb
        · exact Nat.lt_succ_of_lt hp
        · cases hb
    · exact I.kept (t' := tk) fun b o e => hk b o (fun z => Nat.lt_irrefl _ (by have := Heap.lt_size e; simp at z; rw [z] at this; exact this)) (Heap.get?_push_of_some _ e)

theorem Vals.at {xs : List V} {us : List Value} {i : Nat} {v : Value} (r : Vals xs us) (e : us[i]? = some v) : ∃ x, xs[i]? = some x ∧ RelV x v := by
  have hi : i < us.length := (List.getElem?_eq_some_iff.mp e).1
  have hx : i < xs.length := by rw [r.length]; exact hi
  obtain ⟨u, h1, h2⟩ := r.get (List.getElem?_eq_getElem hx)
  rw [e] at h1; cases h1
  exact ⟨_, List.getElem?_eq_getElem hx, h2⟩

theorem call_any (hc : X.calm = true) : CallR X (.builtin "any") (fun xs H Q => ∃ p ys, xs = [.ref p] ∧ (SqL X.K H p ys ∨ SqT X.K H p ys) ∧ ys.all plainB = true ∧ Q (.bl (ys.any tv)) H) := by
  intro pins s σ H xs us Q I r h
  obtain ⟨p, ys, rfl, hs, hp, q⟩ := h
  obtain ⟨u, rfl, ru⟩ := vals1 r
  cases ru
  refine call_any_walk (iter_seq I (A := X.A.in1) (I.ok.hd hc) hs fun it fp wr its St s2 rv W st hfp hk => ?_)
  refine ⟨it, fp, wr, its.length, _, St, (fun i => (ys[i]?.map tv).getD false), rfl, W, st, fun i v s' Q' E' hv hq => ?_, fun h' tk kk => ⟨.bl (ys.any tv), H, hk h' tk kk, ?_, q⟩⟩
  · obtain ⟨x, ex, rx⟩ := rv.at hv
    simp only [ex, Option.map_some, Option.getD_some] at hq
    exact truthy_plain rx (List.all_eq_true.mp hp x (List.mem_of_getElem? ex)) hq
  · rw [any_range rv.length.symm]; rfl

theorem preSum_take (ns : List Int) : ∀ k, k ≤ ns.length → preSum (fun i => (ns[i]?).getD 0) k = (ns.take k).sum
  | 0, _ => by simp [preSum]
  | k + 1, h => by
    have hk : k < ns.length := h
    rw [preSum, preSum_take ns k (Nat.le_of_lt hk), List.getElem?_eq_getElem hk]
    have e : ns.take (k + 1) = ns.take k ++ [ns[k]] := by rw [List.take_add_one, List.getElem?_eq_getElem hk]; rfl
    rw [e, List.sum_append]
    simp
theorem call_sum (hc : X.calm = true) : CallR X (.builtin "sum") (fun xs H Q => ∃ (p : Addr) (ns : List Int), xs = [.ref p] ∧ (SqL X.K H p (ns.map V.int) ∨ SqT X.K H p (ns.map V.int)) ∧ Q (.int ns.sum) H) := by
  intro pins s σ H xs us Q I r h
  obtain ⟨p, ns, rfl, hs, q⟩ := h
  obtain ⟨u, rfl, ru⟩ := vals1 r
  cases ru
  refine call_sum_walkG (iter_seq I (A := X.A.in1) (I.ok.hd hc) hs fun it fp wr its St s2 rv W st hfp hk => ?_)
  refine ⟨it, fp, wr, its.length, _, St, (fun i => (ns[i]?).getD 0), rfl, W, st, hfp, fun i v hv => ?_, fun h' tk t' kk => ⟨.int ns.sum, H, hk h' tk kk, ⟨t', ?_⟩, q⟩⟩
  · obtain ⟨x, ex, rx⟩ := rv.at hv
    rw [List.getElem?_map] at ex
    cases e : ns[i]? with
    | none => rw [e] at ex; cases ex
    | some n =>
      rw [e] at ex
      cases ex
      simp only [e, Option.getD_some]
      exact rx
  · have hl : its.length = ns.length := by rw [← rv.length, List.length_map]
    rw [hl, preSum_take ns _ (Nat.le_refl _), List.take_length]
end

/-! ### isinstance(x, T), T a name -/
section
variable {X : Cx} {e : Expr} {te : TE}
end

/-! ### == and != of nested data -/
mutual
inductive DtV (K : PySem.W.Frag) (H : Hp) : V → PyData → Prop
  | non : DtV K H .non .none
  | bl (b : Bool) : DtV K H (.bl b) (.bool b)
  | int (i : Int) : DtV K H (.int i) (.int i)
  | str (x : Str) (ok : (PyData.str x).canLay0 = true) : DtV K H (.str x) (.str x)
  | lst {a : Addr} {xs : List V} {ds : List PyData} : SqL K H a xs → DtVs K H xs ds → DtV K H (.ref a) (.list ds)
  | tup {a : Addr} {xs : List V} {ds : List PyData} : SqT K H a xs → DtVs K H xs ds → DtV K H (.ref a) (.tuple ds)
inductive DtVs (K : PySem.W.Frag) (H : Hp) : List V → List PyData → Prop
  | nil : DtVs K H [] []
  | cons {x : V} {xs : List V} {d : PyData} {ds : List PyData} : DtV K H x d → DtVs K H xs ds → DtVs K H (x :: xs) (d :: ds)
end
section
variable {X : Cx} {pins : List (Addr × Obj)} {σ : St} {H : Hp} {s : Shared}
mutual
theorem DtV.reads (I : Inv X pins σ H s) : ∀ {x : V} {d : PyData} {u : Value}, DtV X.K H x d → RelV x u → ∃ as, Reads s.heap u d as
  | _, _, _, .non, r => by cases r; exact ⟨_, .none⟩
  | _, _, _, .bl b, r => by cases r; exact ⟨_, .bool b⟩
  | _, _, _, .int i, r => by obtain ⟨t, rfl⟩ := r; exact ⟨_, .int i t⟩
  | _, _, _, .str x _, r => by obtain ⟨t, rfl⟩ := r; exact ⟨_, .str x t⟩
  | _, _, _, .lst hq h, r => by
    cases r
    obtain ⟨its, rv, ⟨o, n, e, c, _, d⟩, _⟩ := I.list hq
    obtain ⟨as, ra⟩ := DtVs.reads I h rv
    exact ⟨_, .list e c d (by simpa using ra)⟩
  | _, _, _, .tup hq h, r => by
    cases r
    obtain ⟨its, rv, ⟨o, e, c, n, d⟩, _⟩ := I.tuple hq
    obtain ⟨as, ra⟩ := DtVs.reads I h rv
    exact ⟨_, .tuple e c d (by simpa using ra)⟩
theorem DtVs.reads (I : Inv X pins σ H s) : ∀ {xs : List V} {ds : List PyData} {us : List Value}, DtVs X.K H xs ds → Vals xs us → ∃ as, ReadsAll s.heap us ds as
  | _, _, _, .nil, r => by cases r; exact ⟨_, .nil⟩
  | _, _, _, .cons h t, r => by
    cases r with
    | cons r1 r2 =>
      obtain ⟨as, ra⟩ := DtV.reads I h r1
      obtain ⟨bs, rb⟩ := DtVs.reads I t r2
      exact ⟨_, .cons ra rb⟩
end
mutual
theorem DtV.lay {K : PySem.W.Frag} : ∀ {x : V} {d : PyData}, DtV K H x d → d.canLay0 = true
  | _, _, .non => rfl
  | _, _, .bl b => rfl
  | _, _, .int i => rfl
  | _, _, .str x ok => ok
  | _, _, .lst hq h => by have := DtVs.lay h; simpa [PyData.canLay0] using this
  | _, _, .tup hq h => by have := DtVs.lay h; simpa [PyData.canLay0] using this
theorem DtVs.lay {K : PySem.W.Frag} : ∀ {xs : List V} {ds : List PyData}, DtVs K H xs ds → PyData.canLayAll0 ds = true
  | _, _, .nil => rfl
  | _, _, .cons h t => by have h1 := DtV.lay h; have h2 := DtVs.lay t; simp [PyData.canLayAll0, h1, h2]
end
end
section
variable {X : Cx}
def rEqD (K : PySem.W.Frag) : R2 := fun x y H Q => ∃ dx dy, DtV K H x dx ∧ DtV K H y dy ∧ min dx.depth dy.depth ≤ 60 ∧ Q (.bl (PyData.eqv dx dy)) H
def rNeD (K : PySem.W.Frag) : R2 := fun x y H Q => ∃ dx dy, DtV K H x dx ∧ DtV K H y dy ∧ min dx.depth dy.depth ≤ 60 ∧ Q (.bl (!PyData.eqv dx dy)) H
theorem op_eqD (hu : X.A.units + 64 < cLine) : OpR X (compareOp .Eq) (rEqD X.K) := by
  intro pins s σ H x y v u Q I rx ry h
  obtain ⟨dx, dy, hx, hy, hd, q⟩ := h
  obtain ⟨as, ra⟩ := hx.reads I rx
  obtain ⟨bs, rb⟩ := hy.reads I ry
  exact SeqAt.eqOverData X.prog X.w X.A X.xe s v u dx dy as bs _ ra rb hx.lay hy.lay (by omega) ⟨.bl (PyData.eqv dx dy), H, I, rfl, q⟩
theorem op_neD (hu : X.A.units + 64 < cLine) : OpR X (compareOp .NotEq) (rNeD X.K) := by
  intro pins s σ H x y v u Q I rx ry h
  obtain ⟨dx, dy, hx, hy, hd, q⟩ := h
  obtain ⟨as, ra⟩ := hx.reads I rx
  obtain ⟨bs, rb⟩ := hy.reads I ry
  exact SeqAt.neOverData X.prog X.w X.A X.xe s v u dx dy as bs _ ra rb hx.lay hy.lay (by omega) ⟨.bl (!PyData.eqv dx dy), H, I, rfl, q⟩
end
end L2

set_option Elab.async false
set_option linter.all false
set_option maxRecDepth 100000
namespace PySem
open AutoSeq1 (wpAny_loadPart')
theorem nextOf_tup_item {prog : Program} {w : World} {A : Around} {E : Value → Shared → Prop} {s : Shared} {it l : Addr} {i : Nat} {items} {x : Value} {Q : Value → Shared → Prop} (hit : s.heap.IsTupleIter it l i)
    (hl : s.heap.IsTuple l items) (hx : items[i]? = some x)
    (hQ : ∀ h', h'.IsTupleIter it l (i + 1) → Heap.SameBut it s.heap h' → Q x { s with heap := h' }) :
    wpAny (model prog w) A (Builtin.SmallTypes.nextOf (.ref it)) Q E s := by
  obtain ⟨o, ho, hc, hd⟩ := id hit
  obtain ⟨ol, hol, _, nl, hdl⟩ := hl
  have hty : s.TypeIs (.ref it) "tuple_iterator" := ⟨o, ho, hc⟩
  unfold Builtin.SmallTypes.nextOf
  refine wpAny_bind (wpAny_callSpecial?_slot (name := Str.ofString "__next__") hty PyProof.Rows.slot_tupleiter_next
    (wpAny_call_entry PyProof.Rows.slot_tupleiter_next hty PyProof.Rows.entry_tupleiter_next ?_ (PyProof.Rows.args_tupleiter_next _)))
  show wpAny _ _ (field (.ref it) 0 >>= _) _ _ s
  refine wpAny_bind (wpAny_field ho hd (x := .ref l) rfl ?_)
  show wpAny _ _ (if (Value.ref l == Value.none) = true then _ else _) _ _ s
  rw [if_neg (show ¬ ((Value.ref l == Value.none) = true) from Bool.false_ne_true)]
  show wpAny _ _ (field (.ref it) 1 >>= _) _ _ s
  refine wpAny_bind (wpAny_field ho hd (x := .int i 0) rfl ?_)
  show wpAny _ _ (seqItems? (.ref l) >>= _) _ _ s
  refine wpAny_bind (wpAny_seqItems hol hdl ?_)
  simp only [Int.toNat_natCast, hx]
  refine wpAny_bind (wpAny_setField ho hd (by simp) (wpAny_pure ⟨x, rfl, wpAny_pure (hQ _ ?_ (Heap.SameBut.update ..))⟩))
  exact ⟨_, Heap.get?_update_self _ ho (Obj.isFreed_of_fields (Obj.data_mapFields hd _)), (Obj.cls_mapFields ..).trans hc, by
    rw [Obj.data_mapFields hd]; simp [rawInt]⟩
theorem nextOf_tup_end {prog : Program} {w : World} {A : Around} {E : Value → Shared → Prop} {s : Shared} {it l : Addr} {i : Nat} {items} {Q : Value → Shared → Prop} (hh : A.handled = none)
    (hit : s.heap.IsTupleIter it l i) (hl : s.heap.IsTuple l items) (hx : items[i]? = none)
    (hE : ∀ h' e, Heap.ExtBut it s.heap h' → (∃ o, h'.get? e = some o ∧ o.cls = .type "StopIteration") → E (.ref e) { s with heap := h' }) :
    wpAny (model prog w) A (Builtin.SmallTypes.nextOf (.ref it)) Q E s := by
  obtain ⟨o, ho, hc, hd⟩ := id hit
  obtain ⟨ol, hol, _, nl, hdl⟩ := hl
  have hty : s.TypeIs (.ref it) "tuple_iterator" := ⟨o, ho, hc⟩
  unfold Builtin.SmallTypes.nextOf
  refine wpAny_bind (wpAny_callSpecial?_slot (name := Str.ofString "__next__") hty PyProof.Rows.slot_tupleiter_next
    (wpAny_call_entry PyProof.Rows.slot_tupleiter_next hty PyProof.Rows.entry_tupleiter_next ?_ (PyProof.Rows.args_tupleiter_next _)))
  show wpAny _ _ (field (.ref it) 0 >>= _) _ _ s
  refine wpAny_bind (wpAny_field ho hd (x := .ref l) rfl ?_)
  show wpAny _ _ (if (Value.ref l == Value.none) = true then _ else _) _ _ s
  rw [if_neg (show ¬ ((Value.ref l == Value.none) = true) from Bool.false_ne_true)]
  show wpAny _ _ (field (.ref it) 1 >>= _) _ _ s
  refine wpAny_bind (wpAny_field ho hd (x := .int i 0) rfl ?_)
  show wpAny _ _ (seqItems? (.ref l) >>= _) _ _ s
  refine wpAny_bind (wpAny_seqItems hol hdl ?_)
  simp only [Int.toNat_natCast, hx]
  refine wpAny_bind (wpAny_rule (wpAny_bind (wpAny_setField ho hd (by simp) ?_)))
  show wpAny _ _ (newExc (.type "StopIteration") [] >>= _) _ _ _
  refine wpAny_bind ?_
  simp only [newExc, newTuple]
  refine wpAny_bind (wpAny_newObj_type ?_ (by size_fits))
  refine wpAny_bind (m := firstArgMember _ _) (wpAny_of_eq (a := Value.none) (by first | rfl | (simp only [firstArgMember]; rfl)) ?_)
  refine wpAny_newObj_type ?_ (by size_fits)
  simp only [raiseNew]
  refine wpAny_bind (wpAny_handled ?_)
  first | rw [show A.in1.handled = none from hh] | rw [hh]
  refine wpAny_bind (wpAny_pure (wpAny_throw ?_))
  exact hE _ _ (((Heap.SameBut.update ..).extBut.push _).push _) ⟨_, Heap.get?_push_size _ rfl, rfl⟩
theorem Draws.tup {prog : Program} {w : World} {A : Around} (hh : A.handled = none) (it l : Addr) (hne : l ≠ it) (items : Array Value) :
    Draws prog w A it [it, l] items.size (fun i v => items[i]? = some v) (fun i h => h.IsTupleIter it l i ∧ h.IsTuple l items) where
  live := fun _ _ st => let ⟨o, ho, _⟩ := st.1; ⟨o, ho⟩
  frame := fun _ _ _ st hk => ⟨let ⟨o, e, r⟩ := st.1; ⟨o, hk it (by simp) o e, r⟩, let ⟨o, e, r⟩ := st.2; ⟨o, hk l (by simp) o e, r⟩⟩
  item := fun i s Q E hi st hQ => by
    refine nextOf_tup_item st.1 st.2 (x := items[i]) (by simp [hi]) fun h' hit' hs' => ?_
    obtain ⟨o, e, r⟩ := st.2
    exact hQ _ h' s.toks (by simp [hi]) ⟨hit', ⟨o, hs'.extBut l o hne e, r⟩⟩ hs'
  done := fun s Q E st hE => nextOf_tup_end hh st.1 st.2 (by simp) hE
set_option maxHeartbeats 1000000 in
theorem meets_enumerate_newT (l : Addr) (items : Array Value) (n : Nat) (dct : Option Addr) (sl : Array (Option Value)) :
    Meets (Builtin.«enumerate.__new__» ⟨[.type "enumerate", .ref l], []⟩) (fun _ R s => s.heap.get? l = some { cls := .type "tuple", dict := dct, data := .seq items n, slots := sl } ∧
      R (.ok (.ret (.ref (s.heap.push { cls := .type "tuple_iterator", data := .fields #[.ref l, .int 0 0] }).objs.size)))
        { s with heap := (s.heap.push { cls := .type "tuple_iterator", data := .fields #[.ref l, .int 0 0] }).push { cls := .type "enumerate", data := .fields #[.none, .bool false, .ref s.heap.objs.size, rawInt 0, .none, .none] } }) :=
  .of_wp fun prog w A R s h => by
    obtain ⟨hp, g, d, tk, os⟩ := s; obtain ⟨hl, h⟩ := h
    have hsub := sub_enumerate
    have hL : Heap.IsTuple (Shared.heap ⟨hp, g, d, tk, os⟩) l items := ⟨_, hl, rfl, n, rfl⟩
    wp_walk using wpAny_loadPart' hl
    refine wpAny_stack_any fun st => wpAny_pure ?_
    split
    · rename_i c _ _ _ _ _
      cases (c == Value.type "enumerate")
      · wp_walk using wpAny_loadPart' hl, wpAny_pyIter_tuple hL
        exact ⟨_, rfl, h⟩
      · wp_walk using wpAny_loadPart' hl, wpAny_pyIter_tuple hL
        exact ⟨_, rfl, h⟩
    · wp_walk using wpAny_loadPart' hl, wpAny_pyIter_tuple hL
      exact ⟨_, rfl, h⟩
theorem call_enumerate_tup {prog : Program} {w : World} {A : Around} {E : Value → Shared → Prop} {s : Shared} {l : Addr} {items : Array Value} {Q : Value → Shared → Prop} (hL : s.heap.IsTuple l items)
    (h : ∀ h', IsEnum h' (s.heap.objs.size + 1) s.heap.objs.size 0 .none → h'.IsTupleIter s.heap.objs.size l 0 → h'.objs.size = s.heap.objs.size + 2 →
      (∀ b o, s.heap.get? b = some o → h'.get? b = some o) → Q (.ref (s.heap.objs.size + 1)) { s with heap := h' }) :
    wpAny (model prog w) A (call (.type "enumerate") [.ref l]) Q E s := by
  obtain ⟨⟨c, dct, dt, sl⟩, hl, hc, n, hd⟩ := hL
  replace hc : c = .type "tuple" := hc
  replace hd : dt = .seq items n := hd
  subst hc hd
  refine callType_new F.called_enumerate (by decide) (F.typeCall_enumerate_1 _) (F.newCall_enumerate_1 _) (fun obj => F.args_object_init_2 obj _) F.entry_enumerate_new
    (meets_enumerate_newT l items n dct sl) ⟨hl, ?_⟩
  have hz : (s.heap.push { cls := .type "tuple_iterator", data := .fields #[.ref l, .int 0 0] }).objs.size = s.heap.objs.size + 1 := Heap.size_push ..
  show _ ∧ _
  rw [hz]
  have he : IsEnum ((s.heap.push { cls := .type "tuple_iterator", data := .fields #[.ref l, .int 0 0] }).push
      { cls := .type "enumerate", data := .fields #[.none, .bool false, .ref s.heap.objs.size, rawInt 0, .none, .none] }) (s.heap.objs.size + 1) s.heap.objs.size 0 .none := by
    have := Heap.get?_push_size (s.heap.push { cls := .type "tuple_iterator", data := .fields #[.ref l, .int 0 0] })
      (o := { cls := .type "enumerate", data := .fields #[.none, .bool false, .ref s.heap.objs.size, rawInt 0, .none, .none] }) rfl
    rw [hz] at this; exact this
  refine ⟨⟨_, he, rfl⟩, h _ he ⟨_, Heap.get?_push_of_some _ (Heap.get?_push_size _ rfl), rfl, rfl⟩ (by rw [Heap.size_push, hz]) fun b o x => Heap.get?_push_of_some _ (Heap.get?_push_of_some _ x)⟩
end PySem
namespace PySem
end PySem

set_option Elab.async false
set_option linter.all false
set_option maxRecDepth 100000
namespace PySem
open AutoSeq1 (wpAny_loadPart')
end PySem
namespace L2
open PySem PySem.Spec PyProof.Rows
section
variable {X : Cx}
/-! ### enumerate of a tuple, unpacked at once -/
def Ite (K : PySem.W.Frag) (a : Addr) : It :=
  ⟨fun i H => ∃ xs x, SqT K H a xs ∧ xs[i]? = some x, fun i H x H' => ∃ p, H p = none ∧ x = .ref p ∧ ∀ xs, SqT K H a xs → ∃ y, xs[i]? = some y ∧ H' = upd H p (.tup [.int i, y]), fun i H => ∃ xs, SqT K H a xs ∧ xs.length ≤ i⟩
theorem Inv.turnedL {pins : List (Addr × Obj)} {σ : St} {H : Hp} {s : Shared} {h' : Heap} {t' : Nat} {ch : List Addr} (I : Inv X pins σ H s) (k : ∀ b o, b ∉ ch → s.heap.get? b = some o → h'.get? b = some o) (hf : ∀ b ∈ ch, FpOk X pins H b) :
    Inv X pins σ H { s with heap := h', toks := t' } := by
  have nit : ∀ b u, H b = some u → b ∉ ch := fun b u e z => by rw [(hf b z).1] at e; cases e
  refine I.step (g' := s.gens) (d' := s.drawn) (ch := ch) (fun b hb => ⟨(hf b hb).2.2.2.1, (hf b hb).2.1, (hf b hb).2.2.2.2.1, (hf b hb).2.2.2.2.2⟩) (fun b o _ _ hc e _ => k b o hc e) (fun b o _ _ hc e _ => ⟨o.slots, k b o hc e⟩) (fun _ _ _ _ n => n)
    (fun b o hc e => ⟨o, k b o hc e⟩) (fun _ _ e => e) (fun _ _ _ e => e) (fun b ps e => ⟨#[], by rw [e]; simp⟩) (fun m hm => ?_) (fun b u e => ?_) I.bare
  · obtain ⟨o, es, ep, ho, r⟩ := hm
    exact ⟨o, es, ep, k _ o (fun z => (hf _ z).2.1 rfl) ho, r⟩
  · refine (I.hok b u e).stay (fun c v hc q => k c v ?_ q) (fun _ q => q) fun _ _ q => q
    rcases hc with z | z
    · rw [z]; exact nit b u e
    · exact nit c _ z
theorem Inv.track {pins : List (Addr × Obj)} {σ : St} {H : Hp} {s : Shared} {p : Addr} {o : HO} (I : Inv X pins σ H s) (f : FpOk X pins H p) (new : ObjOk X.prog X.w (upd H p o) s.heap p o) : Inv X pins σ (upd H p o) s := by
  have ne : ∀ b u, H b = some u → b ≠ p := fun b u e z => by rw [z, f.1] at e; cases e
  have := I.step (g' := s.gens) (d' := s.drawn) (t' := s.toks) (h' := s.heap) (H' := upd H p o) (ch := [p]) (fun b hb => by
      obtain rfl : b = p := by simpa using hb
      exact ⟨f.2.2.2.1, f.2.1, f.2.2.2.2.1, f.2.2.2.2.2⟩) (fun b o _ _ _ e _ => e) (fun b o _ _ _ e _ => ⟨o.slots, e⟩)
    (fun b o hc _ n => by rw [upd_ne (fun z => hc (by simp [z]))]; exact n) (fun b o _ e => ⟨o, e⟩) (fun b xs e => by rw [upd_ne (ne b _ e)]; exact e) (fun b o u e => by rw [upd_ne (ne b _ e)]; exact e)
    (fun b ps e => ⟨#[], by rw [upd_ne (ne b _ e), e]; simp⟩) (fun m hm => hm) (fun b u e => by
      by_cases hb : b = p
      · subst hb; rw [upd_same] at e; cases e; exact new
      · rw [upd_ne hb] at e
        exact (I.hok b u e).stay (fun c v _ q => q) (fun c q => by rw [upd_ne (ne c _ q)]; exact q) fun c xs q => by rw [upd_ne (ne c _ q)]; exact q) I.bare
  exact this
theorem turn_enum {P : Program} {w : World} {K : PySem.W.Frag} {elts : List Expr} {kk} {pos : Pos} (a e it : Addr) (hei : e ≠ it) : Turn P w K (.Tuple elts kk pos) (Ite K a) [e, it] e (fun i h => (∃ old, IsEnum h e it (i : Nat) old) ∧ h.IsTupleIter it a i) where
  mem := by simp
  obj := fun i h st b hb => by
    obtain ⟨⟨old, he⟩, o, e1, c, d⟩ := st
    rcases List.mem_cons.mp hb with rfl | hb
    · exact ⟨_, he, fun v z => by cases z⟩
    · obtain rfl : b = it := by simpa using hb
      exact ⟨o, e1, fun v z => by rw [d] at z; cases z⟩
  keep := fun i h h' st k => by
    obtain ⟨⟨old, he⟩, o, e1, c, d⟩ := st
    exact ⟨⟨old, k e (by simp) _ he⟩, o, k it (by simp) _ e1, c, d⟩
  item := by
    intro X hP hw hK hc i pins s σ H E I hf st hg
    subst hP hw hK
    obtain ⟨xs, x, hq, hx⟩ := hg
    obtain ⟨its, rv, p, hz⟩ := I.tuple hq
    obtain ⟨u, hu, ru⟩ := rv.get hx
    obtain ⟨⟨old, he⟩, st2⟩ := st
    have pt : s.heap.IsTuple a its.toArray := p
    have hae : e ≠ a := fun z => by
      obtain ⟨o, e1, c, _⟩ := pt
      rw [← z, he] at e1; cases e1; exact absurd (show Value.type "enumerate" = Value.type "tuple" from c) (by decide)
    have hai : a ≠ it := fun z => by
      obtain ⟨o, e1, c, _⟩ := pt
      obtain ⟨o', e2, c', _⟩ := id st2
      rw [z, e2] at e1; cases e1; rw [c] at c'; exact absurd c' (by decide)
    have hlt : i < its.toArray.size := by simpa using (List.getElem?_eq_some_iff.mp hu).1
    have D := Draws.tup (prog := X.prog) (w := X.w) (A := X.A.in1) (I.ok.hd hc) it a hai its.toArray
    refine wpAny_pyNext_enum_itemD D he ⟨st2, pt⟩ hlt hei (by simp [hei, hae]) fun y h' tk hP heo hst ht hsz hk => ?_
    have hy : y = u := by
      have hP : its.toArray[i]? = some y := hP
      rw [List.getElem?_toArray, hu] at hP
      exact (Option.some.inj hP).symm
    subst hy
    refine ⟨_, rfl, ?_⟩
    refine wpAny_letOwnedTupleGo_enum heo fun h2 he2 hs2 => ?_
    replace hs2 : Heap.SameBut e h' h2 := hs2
    have hne : s.heap.objs.size ≠ e := Nat.ne_of_gt (Heap.lt_size he)
    have I1 : Inv X pins σ H { s with heap := h2, toks := tk + 1 } := I.turnedL (ch := [e, it]) (fun b o hb q => by
      have b1 : b ≠ e := fun z => hb (by simp [z])
      have b2 : b ≠ it := fun z => hb (by simp [z])
      exact hs2.extBut b o b1 (hk b o b1 b2 q)) hf
    have ht2 := hs2.extBut _ _ hne ht
    have fp : FpOk X pins H s.heap.objs.size := I.fpOk (Nat.le_refl _) I.fresh
    have I2 := I1.track (p := s.heap.objs.size) (o := .tup [.int i, x]) fp ⟨by show 2 ≤ sizeLine; decide, [.int i tk, y], .cons ⟨tk, rfl⟩ (.cons ru .nil), ⟨_, ht2, rfl, _, rfl⟩⟩
    refine ⟨.ref s.heap.objs.size, _, I2, rfl, ⟨_, I.fresh, rfl, fun ys hy => by rw [I.tuple_inj hy hq]; exact ⟨x, hx, rfl⟩⟩, ⟨⟨_, he2⟩, ?_⟩, fun b hb => ?_⟩
    · obtain ⟨⟨o, e1, c, d⟩, _⟩ := hst
      exact ⟨o, hs2.extBut _ _ (Ne.symm hei) e1, c, d⟩
    · rw [upd_ne]
      · exact (hf b hb).1
      · rcases List.mem_cons.mp hb with rfl | hb
        · exact hne.symm
        · obtain rfl : b = it := by simpa using hb
          obtain ⟨o, e1, _⟩ := st2
          exact Nat.ne_of_lt (Heap.lt_size e1)
  done := by
    intro X hP hw hK hc i pins s σ H E I hf st hg
    subst hP hw hK
    obtain ⟨xs, hq, hx⟩ := hg
    obtain ⟨its, rv, p, hz⟩ := I.tuple hq
    obtain ⟨⟨old, he⟩, st2⟩ := st
    have pt : s.heap.IsTuple a its.toArray := p
    have hai : a ≠ it := fun z => by
      obtain ⟨o, e1, c, _⟩ := pt
      obtain ⟨o', e2, c', _⟩ := id st2
      rw [z, e2] at e1; cases e1; rw [c] at c'; exact absurd c' (by decide)
    have hl := rv.length
    have hT : s.TypeIs (.ref e) "enumerate" := ⟨_, he, rfl⟩
    unfold pyNext
    refine wpAny_bind (wpAny_attempt (wpAny_callSpecial?_slot (name := Str.ofString "__next__") hT F.slot_enumerate_next
      (wpAny_call_entry F.slot_enumerate_next hT F.entry_enumerate_next ?_ (F.args_enumerate_next_1 _))))
    show wpAny _ _ (field (.ref e) 2 >>= _) _ _ _
    refine wpAny_bind (wpAny_field he rfl (x := .ref it) rfl ?_)
    refine wpAny_bind (nextOf_tup_end (A := X.A.in1) (I.ok.hd hc) st2 pt (by simp; omega) fun h' ex he' hx' => ?_)
    obtain ⟨o, ho, hc'⟩ := hx'
    refine wpAny_bind (wpAny_isInstance (T := "StopIteration") (b := true) ⟨o, ho, hc'⟩ isSubtype_stop ?_)
    exact wpAny_pure ⟨rfl, I.turnedL (t' := s.toks) (ch := [it]) (fun b o hb q => he' b o (fun z => hb (by simp [z])) q) (fun b hb => hf b (List.mem_cons_of_mem _ hb))⟩
  self := fun A i s Q E st h => by
    obtain ⟨⟨old, he⟩, _⟩ := st
    exact wpAny_pyIter_enum he h
def iEnum (K : PySem.W.Frag) (ta : TA) : TI := fun σ H R => ta σ H fun vs H1 => ∃ a, vs = [.ref a] ∧ (∃ xs, SqT K H1 a xs) ∧ R (Ite K a) H1
end
end L2

set_option Elab.async false
set_option linter.all false
set_option maxRecDepth 100000
namespace L2
open PySem PySem.Spec PyProof.Rows
def Cn (σ₀ : St) (acc : Addr) (P : List V → Hp → Prop) (σ : St) (H : Hp) : Prop := (∀ v, σ.set 0 v = σ₀.set 0 v) ∧ ∃ ys, H acc = some (.lst ys) ∧ P ys H
theorem Cn.of {σ₀ : St} {acc : Addr} {P : List V → Hp → Prop} {w : Option V} {H : Hp} {ys : List V} (h : H acc = some (.lst ys)) (p : P ys H) : Cn σ₀ acc P (σ₀.set 0 w) H := ⟨fun v => by rw [List.set_set], ys, h, p⟩
/-- a block's facts, decided -/
def capOk (outer : List (Str × NameKind)) (N : List Str) (scope : Scope) (cap : List Str) (ix : List Nat) : Bool :=
  (scope.kind == .function) && (scope.names.all fun x => x.2 != .local || scope.names.lookup x.1 == some .local) && decide (scope.names.map (·.1)).Nodup &&
  (scope.names.all fun x => x.2 != .free || outer.lookup x.1 == some .cell || outer.lookup x.1 == some .free) && (cap.all fun x => decide ((x, NameKind.free) ∈ scope.names)) && (cap.zip ix).all (fun p => N[p.2]? == some p.1) && cap.length == ix.length
theorem BlkOk.of {X : Cx} {scope : Scope} {own cap : List Str} {ix : List Nat} (outer : List (Str × NameKind)) (N : List Str) (hsc : X.env.scope.names = outer := by rfl) (hN : X.N = N := by rfl) (h : capOk outer N scope cap ix = true := by decide +kernel) : BlkOk X scope own cap ix := by
  unfold capOk at h
  simp only [Bool.and_eq_true, List.all_eq_true, beq_iff_eq, decide_eq_true_eq, Bool.or_eq_true, bne_iff_ne, ne_eq] at h
  obtain ⟨⟨⟨⟨⟨⟨h1, h2⟩, h3⟩, h4⟩, h5⟩, h6⟩, h7⟩ := h
  refine ⟨h1, fun x hx hl => ?_, h3, fun x hx hl => ?_, fun j x e => h5 x (List.mem_of_getElem? e), fun j x e => ?_, h7⟩
  · rcases h2 x hx with z | z
    · exact absurd hl z
    · exact z
  · show X.env.scope.names.lookup x.1 = _ ∨ X.env.scope.names.lookup x.1 = _
    rw [hsc]
    rcases h4 x hx with (z | z) | z
    · exact absurd hl z
    · exact .inl z
    · exact .inr z
  · have hj : j < cap.length := (List.getElem?_eq_some_iff.mp e).1
    have hj' : j < ix.length := by omega
    refine ⟨ix[j], List.getElem?_eq_getElem hj', ?_⟩
    rw [hN]
    have hz : (cap.zip ix)[j]? = some (x, ix[j]) := by
      rw [List.getElem?_zip_eq_some]
      exact ⟨e, List.getElem?_eq_getElem hj'⟩
    exact h6 _ (List.mem_of_getElem? hz)
section
variable {K : PySem.W.Frag} {lo : Int} {n : Nat} {tt : TT} {te : TE} {acc a : Addr} {xs : List V} {σ₀ : St} {H₀ : Hp} {Q : VK}
theorem comp_range (Pv : Nat → List V → Hp → Prop) (h0 : Pv 0 [] (upd H₀ acc (.lst [])))
    (hs : ∀ (i : Nat) ys H, i < n → H acc = some (.lst ys) → Pv i ys H → tt (σ₀.set 0 (some (.int (lo + i)))) H fun b H4 =>
      if b = true then te (σ₀.set 0 (some (.int (lo + i)))) H4 fun y H5 => ∃ zs, H5 acc = some (.lst zs) ∧ zs.length < sizeLine ∧ Cn σ₀ acc (Pv (i + 1)) (σ₀.set 0 (some (.int (lo + i)))) (upd H5 acc (.lst (zs ++ [y]))) else Cn σ₀ acc (Pv (i + 1)) (σ₀.set 0 (some (.int (lo + i)))) H4)
    (hd : ∀ ys H, H acc = some (.lst ys) → Pv n ys H → Q (.ref acc) H) : tCompN (gName 0) tt te (Itr lo n) acc σ₀ H₀ Q := by
  refine ⟨fun i m σ H => m = n - i ∧ i ≤ n ∧ Cn σ₀ acc (Pv i) σ H, ⟨n, by simp, Nat.zero_le _, fun _ => rfl, [], upd_same, h0⟩, ?_⟩
  rintro i m σ H ⟨rfl, hi, hσ, ys, hy, p⟩
  by_cases hlt : i < n
  · refine .inr ⟨hlt, Cn σ₀ acc (Pv (i + 1)), fun σ' H' c => ⟨n - (i + 1), by omega, rfl, hlt, c⟩, fun x H' y => ?_⟩
    obtain ⟨e, y⟩ := y
    subst e y
    show tt (σ.set 0 _) _ _
    rw [hσ]
    exact hs i ys _ hlt hy p
  · have e : i = n := by omega
    subst e
    exact .inl ⟨Nat.le_refl _, hd ys H hy p⟩
theorem comp_list (Pv : Nat → List V → Hp → Prop) (h0 : Pv 0 [] (upd H₀ acc (.lst []))) (hl : ∀ (i : Nat) ys H, i ≤ xs.length → H acc = some (.lst ys) → Pv i ys H → SqL K H a xs)
    (hs : ∀ (i : Nat) x ys H, xs[i]? = some x → H acc = some (.lst ys) → Pv i ys H → tt (σ₀.set 0 (some x)) H fun b H4 =>
      if b = true then te (σ₀.set 0 (some x)) H4 fun y H5 => ∃ zs, H5 acc = some (.lst zs) ∧ zs.length < sizeLine ∧ Cn σ₀ acc (Pv (i + 1)) (σ₀.set 0 (some x)) (upd H5 acc (.lst (zs ++ [y]))) else Cn σ₀ acc (Pv (i + 1)) (σ₀.set 0 (some x)) H4)
    (hd : ∀ ys H, H acc = some (.lst ys) → Pv xs.length ys H → Q (.ref acc) H) : tCompN (gName 0) tt te (Itl K a) acc σ₀ H₀ Q := by
  refine ⟨fun i m σ H => m = xs.length - i ∧ i ≤ xs.length ∧ Cn σ₀ acc (Pv i) σ H, ⟨xs.length, by simp, Nat.zero_le _, fun _ => rfl, [], upd_same, h0⟩, ?_⟩
  rintro i m σ H ⟨rfl, hi, hσ, ys, hy, p⟩
  have q := hl i ys H hi hy p
  by_cases hlt : i < xs.length
  · refine .inr ⟨⟨xs, xs[i], q, by simp [hlt]⟩, Cn σ₀ acc (Pv (i + 1)), fun σ' H' c => ⟨xs.length - (i + 1), by omega, rfl, hlt, c⟩, fun x H' y => ?_⟩
    obtain ⟨e, y⟩ := y
    subst e
    show tt (σ.set 0 _) _ _
    rw [hσ]
    exact hs i x ys _ (y xs q) hy p
  · have e : i = xs.length := by omega
    subst e
    exact .inl ⟨⟨xs, q, Nat.le_refl _⟩, hd ys H hy p⟩
theorem comp_tup (Pv : Nat → List V → Hp → Prop) (h0 : Pv 0 [] (upd H₀ acc (.lst []))) (hl : ∀ (i : Nat) ys H, i ≤ xs.length → H acc = some (.lst ys) → Pv i ys H → SqT K H a xs)
    (hs : ∀ (i : Nat) x ys H, xs[i]? = some x → H acc = some (.lst ys) → Pv i ys H → tt (σ₀.set 0 (some x)) H fun b H4 =>
      if b = true then te (σ₀.set 0 (some x)) H4 fun y H5 => ∃ zs, H5 acc = some (.lst zs) ∧ zs.length < sizeLine ∧ Cn σ₀ acc (Pv (i + 1)) (σ₀.set 0 (some x)) (upd H5 acc (.lst (zs ++ [y]))) else Cn σ₀ acc (Pv (i + 1)) (σ₀.set 0 (some x)) H4)
    (hd : ∀ ys H, H acc = some (.lst ys) → Pv xs.length ys H → Q (.ref acc) H) : tCompN (gName 0) tt te (Itt K a) acc σ₀ H₀ Q := by
  refine ⟨fun i m σ H => m = xs.length - i ∧ i ≤ xs.length ∧ Cn σ₀ acc (Pv i) σ H, ⟨xs.length, by simp, Nat.zero_le _, fun _ => rfl, [], upd_same, h0⟩, ?_⟩
  rintro i m σ H ⟨rfl, hi, hσ, ys, hy, p⟩
  have q := hl i ys H hi hy p
  by_cases hlt : i < xs.length
  · refine .inr ⟨⟨xs, xs[i], q, by simp [hlt]⟩, Cn σ₀ acc (Pv (i + 1)), fun σ' H' c => ⟨xs.length - (i + 1), by omega, rfl, hlt, c⟩, fun x H' y => ?_⟩
    obtain ⟨e, y⟩ := y
    subst e
    show tt (σ.set 0 _) _ _
    rw [hσ]
    exact hs i x ys _ (y xs q) hy p
  · have e : i = xs.length := by omega
    subst e
    exact .inl ⟨⟨xs, q, Nat.le_refl _⟩, hd ys H hy p⟩
end
end L2

set_option Elab.async false
set_option linter.all false
set_option maxRecDepth 100000
namespace L2
open PySem PySem.Spec PyProof.Rows
/-! the rules that name the fragment, with the fragment said: for use inside a comprehension's block -/
section
variable {X : Cx} {tg l : Expr} {tl : TE}
theorem cLen (K : PySem.W.Frag) (h : X.K = K := by rfl) : CallR X (.builtin "len") (fun xs H Q => ∃ p ys, xs = [.ref p] ∧ (SqL K H p ys ∨ SqT K H p ys) ∧ Q (.int ys.length) H) := by subst h; exact call_len_seq
end
end L2

set_option Elab.async false
set_option linter.all false
set_option maxRecDepth 100000
set_option maxHeartbeats 4000000
namespace KG
open PySem L2
theorem boot_tuple : bootBuiltins "tuple" = some (.type "tuple") := by first | rfl | kernel_rfl | decide +kernel
theorem boot_int : bootBuiltins "int" = some (.type "int") := by first | rfl | kernel_rfl | decide +kernel
theorem boot_max : bootBuiltins "max" = some (.builtin "max") := by first | rfl | kernel_rfl | decide +kernel
theorem boot_min : bootBuiltins "min" = some (.builtin "min") := by first | rfl | kernel_rfl | decide +kernel
theorem boot_any : bootBuiltins "any" = some (.builtin "any") := by first | rfl | kernel_rfl | decide +kernel
theorem boot_sum : bootBuiltins "sum" = some (.builtin "sum") := by first | rfl | kernel_rfl | decide +kernel
theorem boot_enumerate : bootBuiltins "enumerate" = some (.type "enumerate") := by first | rfl | kernel_rfl | decide +kernel
/-! ### data -/
def Bag (H : Hp) (b : Addr) : Prop := ∃ c d : Int, H b = some (.lst [.int c, .int d])
/-- all but the bag stays -/
def Kp (b : Addr) (H H' : Hp) : Prop := ∀ a o, a ≠ b → H a = some o → H' a = some o
theorem Kp.refl (b : Addr) (H : Hp) : Kp b H H := fun _ _ _ h => h
theorem Kp.trans {b : Addr} {H H1 H2 : Hp} (x : Kp b H H1) (y : Kp b H1 H2) : Kp b H H2 := fun a o n h => y a o n (x a o n h)
theorem Kp.bag {b : Addr} {H H' : Hp} {o : HO} (x : Kp b H H') : Kp b H (upd H' b o) := fun a u n h => by rw [upd_ne n]; exact x a u n h
theorem Kp.new {b p : Addr} {H H' : Hp} {o : HO} (x : Kp b H H') (hp : H' p = none) : Kp b H (upd H' p o) := fun a u n h => by rw [upd_ne (ne_of_none (x a u n h) hp)]; exact x a u n h
theorem Kp.acc {b p : Addr} {H H' : Hp} {o : HO} (x : Kp b H H') (hp : H p = none) : Kp b H (upd H' p o) := fun a u n h => by rw [upd_ne (ne_of_none h hp)]; exact x a u n h
theorem Kp.free {b p : Addr} {H H' : Hp} (x : Kp b H H') (hb : Bag H b) (hp : H' p = none) (hb' : Bag H' b) : H p = none := by
  cases q : H p with
  | none => rfl
  | some o =>
    by_cases e : p = b
    · subst e; obtain ⟨c, d, h⟩ := hb'; rw [h] at hp; cases hp
    · rw [x p o e q] at hp; cases hp
theorem Bag.new {b p : Addr} {H : Hp} {o : HO} (h : Bag H b) (hp : H p = none) : Bag (upd H p o) b := by
  obtain ⟨c, d, e⟩ := h
  exact ⟨c, d, by rw [upd_ne (ne_of_none e hp)]; exact e⟩
theorem Bag.ne {b p : Addr} {H : Hp} (h : Bag H b) (hp : H p = none) : b ≠ p := by
  obtain ⟨c, d, e⟩ := h
  exact ne_of_none e hp
def spTake : Sp := fun vs H Q _ => ∃ (b : Addr) (m : Int), vs = [.ref b, .int m] ∧ Bag H b ∧ 0 < m ∧ m < 1073741824 ∧ ∀ (r : Int) (H' : Hp), 0 ≤ r → r < m → Bag H' b → Kp b H H' → Q (.int r) H'
def spBag (K : PySem.W.Frag) : Sp := fun vs H Q _ => ∃ (a : Addr) (ns : List Int) (k : Int), vs = [.ref a, .int k] ∧ SqL K H a (ns.map V.int) ∧ 0 ≤ k ∧ k < 100 ∧ ∀ (p : Addr) (c d : Int), H p = none → Q (.ref p) (upd H p (.lst [.int c, .int d]))
/-- a def as it is called -/
structure Cal (K : PySem.W.Frag) (mg : Str → Option Value) (P : Program) (w : World) (base : Heap) (x : Str) (k : Nat) (ps : List Str) (sp : Sp) (f : Addr) (fd : FuncData) : Prop where
  ok : FnOk P w K mg base CX0 k f fd ps sp
  mg : mg x = some (.ref f)
  kp : PySem.W.keepIn K (.ref f) = true
  bd : Binds K fd ps []
theorem sz : sizeLine = 16777216 := PySem.sizeLine_eq

theorem yes_i {σ : St} {H : Hp} {A B : Hp → Prop} (h : A H) : tYes σ H (fun b H4 => if b = true then A H4 else B H4) := iteT (B := B H) h
theorem menu2 {r : Int} (h0 : 0 ≤ r) (h1 : r < 2) : ∃ m : Int, atI [V.int 3, V.int 6] r = some (.int m) ∧ 0 < m ∧ m ≤ 6 := by
  have : r = 0 ∨ r = 1 := by omega
  rcases this with rfl | rfl
  · exact ⟨3, rfl, by decide, by decide⟩
  · exact ⟨6, rfl, by decide, by decide⟩
theorem atI_ints {ns : List Int} {r : Int} (h0 : 0 ≤ r) (h1 : r < ns.length) : atI (ns.map V.int) r = some (V.int (ns.getD r.toNat 0)) ∧ ixN (ns.map V.int).length r = some r.toNat ∧ ns.getD r.toNat 0 ∈ ns := by
  have hl : r.toNat < ns.length := by omega
  have e : (ns.map V.int)[r.toNat]? = some (V.int (ns.getD r.toNat 0)) := by
    rw [List.getElem?_map, List.getElem?_eq_getElem hl]
    simp [List.getD, List.getElem?_eq_getElem hl]
  refine ⟨?_, ?_, ?_⟩
  · have := atI_nat e
    rw [Int.toNat_of_nonneg h0] at this
    exact this
  · unfold ixN
    rw [if_pos h0, if_pos (by rw [List.length_map]; exact h1)]
  · simp [List.getD, List.getElem?_eq_getElem hl]

/-- the tuples stay -/
def Tm (H H' : Hp) : Prop := ∀ a xs, H a = some (.tup xs) → H' a = some (.tup xs)
theorem Kp.tm {b : Addr} {H H' : Hp} (x : Kp b H H') (hb : Bag H b) : Tm H H' := fun a xs h => x a _ (fun z => by obtain ⟨c, d, e⟩ := hb; rw [z, e] at h; cases h) h
theorem Tm.lst {p : Addr} {H : Hp} {xs : List V} {o : HO} (h : H p = some (.lst xs)) : Tm H (upd H p o) := fun a ys e => by
  rw [upd_ne (fun z => by rw [z, h] at e; cases e)]; exact e
theorem Tm.trans {H H1 H2 : Hp} (a : Tm H H1) (b : Tm H1 H2) : Tm H H2 := fun x xs h => b x xs (a x xs h)
theorem Bag.acc {b p : Addr} {H : Hp} {o : HO} (h : Bag H b) (hp : b ≠ p) : Bag (upd H p o) b := by
  obtain ⟨c, d, e⟩ := h
  exact ⟨c, d, by rw [upd_ne hp]; exact e⟩
theorem comp_bag {te : TE} {σ₀ : St} {acc b : Addr} {H1 : Hp} {n : Nat} {Q : VK} (hb1 : Bag H1 b) (hacc : H1 acc = none) (hn : n ≤ 100) (R : Hp → V → Prop) (hR : ∀ H H' v, Tm H H' → R H v → R H' v)
    (ht : ∀ (i : Nat) H', i < n → Bag H' b → Kp b H1 H' → ∀ (Z : V → Hp → Prop), (∀ y H5, Bag H5 b → Kp b H' H5 → R H5 y → Z y H5) → te (σ₀.set 0 (some (.int (0 + i)))) H' Z)
    (hd : ∀ ys H', Bag H' b → Kp b H1 H' → ys.length = n → (∀ y ∈ ys, R H' y) → H' acc = some (.lst ys) → Q (.ref acc) H') : tCompN (gName 0) tYes te (Itr 0 n) acc σ₀ H1 Q := by
  have nacc := hb1.ne hacc
  refine comp_range (fun i ys H' => Bag H' b ∧ Kp b H1 H' ∧ ys.length = i ∧ ∀ y ∈ ys, R H' y) ⟨hb1.new hacc, (Kp.refl b H1).new hacc, rfl, fun y hy => nomatch hy⟩ ?_ ?_
  · rintro i ys H' hi hy ⟨hb', kp', hl, hr⟩
    refine yes_i ?_
    refine ht i H' hi hb' kp' _ fun y H5 hb5 kp5 r5 => ?_
    have hy5 := kp5 acc _ nacc.symm hy
    refine ⟨ys, hy5, by rw [hl, sz]; omega, Cn.of upd_same ⟨hb5.acc nacc, (kp'.trans kp5).acc hacc, by rw [List.length_append, hl]; rfl, fun z hz => ?_⟩⟩
    have tm := Tm.lst (o := .lst (ys ++ [y])) hy5
    rcases List.mem_append.mp hz with q | q
    · exact hR _ _ z tm (hR _ _ z (kp5.tm hb') (hr z q))
    · obtain rfl : z = y := by simpa using q
      exact hR _ _ z tm r5
  · rintro ys H' hy ⟨hb', kp', hl, hr⟩
    exact hd ys H' hb' kp' hl hr hy
/-- rows of ints, tracked -/
def Rws (H : Hp) (ws : List V) (M : List (List Int)) : Prop := Paired (fun v ns => ∃ a, v = V.ref a ∧ H a = some (.tup (List.map V.int ns))) ws M
theorem Rws.keep {H H' : Hp} {ws : List V} {M : List (List Int)} (h : Rws H ws M) (t : Tm H H') : Rws H' ws M := Paired.mapP h fun v ns ⟨a, e, q⟩ => ⟨a, e, t a _ q⟩
theorem Rws.len {H : Hp} {ws : List V} {M : List (List Int)} (h : Rws H ws M) : ws.length = M.length := Paired.length h
theorem Rws.at : ∀ {H : Hp} {ws : List V} {M : List (List Int)} {i : Nat} {x : V}, Rws H ws M → ws[i]? = some x → ∃ ns a, M[i]? = some ns ∧ x = V.ref a ∧ H a = some (.tup (List.map V.int ns))
  | _, _, _, _, _, .nil, e => by simp at e
  | _, _, _, 0, _, .cons ⟨a, h1, h2⟩ _, e => by simp at e; subst e; exact ⟨_, a, rfl, h1, h2⟩
  | _, _, _, i + 1, _, .cons _ t, e => by
    obtain ⟨ns, a, h1, h2, h3⟩ := Rws.at (i := i) t (by simpa using e)
    exact ⟨ns, a, by simpa using h1, h2, h3⟩
/-- all that was tracked stays -/
def Stay (H H' : Hp) : Prop := ∀ a o, H a = some o → H' a = some o
theorem Stay.refl (H : Hp) : Stay H H := fun _ _ h => h
theorem Stay.trans {H H1 H2 : Hp} (a : Stay H H1) (b : Stay H1 H2) : Stay H H2 := fun x o h => b x o (a x o h)
theorem Stay.new {H H' : Hp} {p : Addr} {o : HO} (a : Stay H H') (hp : H' p = none) : Stay H (upd H' p o) := fun x u h => by rw [upd_ne (ne_of_none (a x u h) hp)]; exact a x u h
theorem Stay.acc {H H' : Hp} {p : Addr} {o : HO} (a : Stay H H') (hp : H p = none) : Stay H (upd H' p o) := fun x u h => by rw [upd_ne (ne_of_none h hp)]; exact a x u h
theorem Stay.tm {H H' : Hp} (a : Stay H H') : Tm H H' := fun x xs h => a x _ h
theorem filter_succ (f : Nat → Bool) (n : Nat) : (List.range (n + 1)).filter f = (List.range n).filter f ++ if f n = true then [n] else [] := by
  rw [List.range_succ, List.filter_append]
  congr 1
  by_cases h : f n = true
  · simp [h]
  · simp [h]
theorem Stay.kp {b : Addr} {H0 H H' : Hp} (s : Stay H0 H) (k : Kp b H H') (hb : H0 b = none) : Stay H0 H' := fun a o h => k a o (ne_of_none h hb) (s a o h)
theorem Stay.free {H0 H : Hp} {p : Addr} (s : Stay H0 H) (h : H p = none) : H0 p = none := by
  cases q : H0 p with
  | none => rfl
  | some o => rw [s p o q] at h; cases h
theorem dtInts {K : PySem.W.Frag} {H : Hp} : ∀ ns : List Int, DtVs K H (ns.map V.int) (ns.map PyData.int)
  | [] => .nil
  | n :: ns => .cons (.int n) (dtInts ns)
theorem depInts : ∀ ns : List Int, PyData.depthAll (ns.map PyData.int) = 0
  | [] => rfl
  | n :: ns => by
    rw [List.map_cons, PyData.depthAll, depInts ns]
    rfl
def spLaw (K : PySem.W.Frag) : Sp := fun vs H Q _ => ∃ (a : Addr) (ns : List Int), vs = [.ref a] ∧ SqL K H a (ns.map V.int) ∧ ns.length ≤ 63 ∧ ∀ H', Q (.bl true) H'
theorem SqL.stay {K : PySem.W.Frag} {H H' : Hp} {a : Addr} {xs : List V} (h : SqL K H a xs) (s : Stay H H') : SqL K H' a xs := by
  rcases h with (h | ⟨o, h⟩) | h
  · exact .inl (.inl (s _ _ h))
  · exact .inl (.inr ⟨o, s _ _ h⟩)
  · exact .inr h

theorem boot_list : bootBuiltins "list" = some (.type "list") := by first | rfl | kernel_rfl | decide +kernel
/-! a thing made of plain data, none of it the bag -/
mutual
inductive TrV (b : Addr) (H : Hp) : V → PyData → Prop
  | non : TrV b H .non .none
  | bl (c : Bool) : TrV b H (.bl c) (.bool c)
  | int (i : Int) : TrV b H (.int i) (.int i)
  | str (x : Str) (ok : (PyData.str x).canLay0 = true) : TrV b H (.str x) (.str x)
  | lst {a : Addr} {xs : List V} {ds : List PyData} : a ≠ b → H a = some (.lst xs) → TrVs b H xs ds → TrV b H (.ref a) (.list ds)
  | tup {a : Addr} {xs : List V} {ds : List PyData} : H a = some (.tup xs) → TrVs b H xs ds → TrV b H (.ref a) (.tuple ds)
inductive TrVs (b : Addr) (H : Hp) : List V → List PyData → Prop
  | nil : TrVs b H [] []
  | cons {x : V} {xs : List V} {d : PyData} {ds : List PyData} : TrV b H x d → TrVs b H xs ds → TrVs b H (x :: xs) (d :: ds)
end
mutual
theorem TrV.stay {b : Addr} {H H' : Hp} (k : Stay H H') : ∀ {v : V} {d : PyData}, TrV b H v d → TrV b H' v d
  | _, _, .non => .non
  | _, _, .bl c => .bl c
  | _, _, .int i => .int i
  | _, _, .str x ok => .str x ok
  | _, _, .lst n h t => .lst n (k _ _ h) (TrVs.stay k t)
  | _, _, .tup h t => .tup (k _ _ h) (TrVs.stay k t)
theorem TrVs.stay {b : Addr} {H H' : Hp} (k : Stay H H') : ∀ {vs : List V} {ds : List PyData}, TrVs b H vs ds → TrVs b H' vs ds
  | _, _, .nil => .nil
  | _, _, .cons h t => .cons (TrV.stay k h) (TrVs.stay k t)
end
mutual
theorem TrV.dt {K : PySem.W.Frag} {b : Addr} {H : Hp} : ∀ {v : V} {d : PyData}, TrV b H v d → DtV K H v d
  | _, _, .non => .non
  | _, _, .bl c => .bl c
  | _, _, .int i => .int i
  | _, _, .str x ok => .str x ok
  | _, _, .lst n h t => .lst (SqL.of h) (TrVs.dt t)
  | _, _, .tup h t => .tup (SqT.of h) (TrVs.dt t)
theorem TrVs.dt {K : PySem.W.Frag} {b : Addr} {H : Hp} : ∀ {vs : List V} {ds : List PyData}, TrVs b H vs ds → DtVs K H vs ds
  | _, _, .nil => .nil
  | _, _, .cons h t => .cons (TrV.dt h) (TrVs.dt t)
end
/-! ### the mirrors -/
/-! all numbers within are small -/
end KG

set_option Elab.async false
set_option linter.all false
set_option maxRecDepth 100000
set_option maxHeartbeats 4000000
namespace HT
open PySem PySem.Spec PyProof.Rows
section
variable {prog : Program} {w : World} {A : Around} {E : Value → Shared → Prop} {s : Shared}
end
end HT
namespace L2
open PySem PySem.Spec PyProof.Rows
section
variable {X : Cx}
end
end L2

set_option Elab.async false
set_option linter.all false
set_option maxRecDepth 100000
set_option maxHeartbeats 1000000
namespace L2
open PySem PySem.Spec PyProof.Rows KG
end L2

set_option Elab.async false
set_option linter.all false
set_option maxRecDepth 100000
set_option maxHeartbeats 1000000
/-! an exception of an own class in the air: what it touches -/
namespace EX
open PySem PySem.Spec PyProof.Rows
section
variable {M : Model} {A : Around} {E : Value → Shared → Prop} {s : Shared} {B : Heap} {env : Env} {outer : List Env} {L e C t : Addr} {Q : Unit → Shared → Prop}
end
end EX

set_option Elab.async false
set_option linter.all false
set_option maxRecDepth 100000
set_option maxHeartbeats 1000000
namespace L2
open PySem PySem.Spec PyProof.Rows EX
section
variable {P : Program} {w : World} {K : PySem.W.Frag} {mg : Str → Option Value} {base : Heap} {N : List Str} {qual : Str} {scope : Scope} {f : Addr} {cd : Value} {A : Around} {outer : List Env} {s₀ : Shared} {H₀ : Hp} {E : XK}
end
end L2

set_option Elab.async false
set_option linter.all false
set_option maxRecDepth 100000
set_option maxHeartbeats 1000000
namespace EX
open PySem PySem.Spec PyProof.Rows
section
variable {prog : Program} {w : World} {A : Around} {E : Value → Shared → Prop} {s : Shared}
end
end EX

set_option Elab.async false
set_option linter.all false
set_option maxRecDepth 100000
set_option maxHeartbeats 2000000
namespace L2
open PySem PySem.Spec PyProof.Rows EX
section
variable {X : Cx} {tg : Expr}
end
section
variable {X : Cx} {scope : Scope} {own cap : List Str} {ix : List Nat} {tg iter elt : Expr} {ifs : List Expr} {wi : TI} {g : TG} {tt : TT} {te : TE} {pos : Pos}
end
end L2

set_option Elab.async false
set_option linter.all false
set_option maxRecDepth 100000
set_option maxHeartbeats 1000000
namespace EX
open PySem PySem.Spec PyProof.Rows PySem.W
section
variable {prog : Program} {w : World} {A : Around} {E : Value → Shared → Prop} {s : Shared} {K : Frag} {x D t : Addr} {hd : Value}
end
end EX
namespace L2
open PySem PySem.Spec PyProof.Rows EX
section
variable {X : Cx} {e : Expr} {te : TE} {ea D t : Addr} {hd : Value}
end
end L2

set_option Elab.async false
set_option linter.all false
set_option maxRecDepth 100000
set_option maxHeartbeats 1000000
namespace EX
open PySem PySem.Spec PyProof.Rows PySem.W
section
variable {prog : Program} {w : World} {A : Around} {E : Value → Shared → Prop} {s : Shared} {K : Frag} {e D C t : Addr} {hd : Value}
end
end EX

namespace L2
open PySem PySem.Spec PyProof.Rows EX
/-! ### ''.join(words) -/
end L2

set_option Elab.async false
set_option linter.all false
set_option maxRecDepth 100000
set_option maxHeartbeats 1000000
namespace L2
open PySem PySem.Spec PyProof.Rows EX
/-! ### a def called within an except suite -/
section
variable {P : Program} {w : World} {K : PySem.W.Frag} {mg : Str → Option Value} {base : Heap}
end
end L2

set_option Elab.async false
set_option linter.all false
set_option maxRecDepth 100000
set_option maxHeartbeats 2000000
namespace L2
open PySem PySem.Spec PyProof.Rows EX
section
variable {X : Cx} {pins : List (Addr × Obj)} {σ : St} {H : Hp} {s : Shared}
end
end L2

set_option Elab.async false
set_option linter.all false
set_option maxRecDepth 100000
set_option maxHeartbeats 2000000
namespace L2
open PySem PySem.Spec PyProof.Rows EX
end L2

set_option Elab.async false
set_option linter.all false
set_option maxRecDepth 100000
set_option maxHeartbeats 1000000
namespace KG
open PySem
/-! lowest terms -/
end KG
namespace L2
open PySem PySem.Spec PyProof.Rows KG
section
variable {X : Cx}
end
end L2

set_option Elab.async false
set_option linter.all false
set_option maxRecDepth 100000
set_option maxHeartbeats 1000000
namespace KG
open PySem L2
theorem eqv_nil {es : List PyData} : PyData.eqv (.list es) (.list []) = es.isEmpty := by
  cases es <;> simp [PyData.eqv, PyData.eqvAll]
end KG
namespace L2
open PySem PySem.Spec PyProof.Rows
/-- (a, b, ..) = a list of that length -/
def gLst (K : PySem.W.Frag) (n : Nat) (t : TGs) : TG := fun v σ H Q => ∃ a xs, v = .ref a ∧ SqL K H a xs ∧ xs.length = n ∧ t xs σ H Q
theorem pg_lst {X : Cx} {es : List Expr} {k : Nat} {t : TGs} {n : Nat} {pos : Pos} (hc : X.calm = true) (h : PGs X es t)
    (hn : (assignEach es X.env).length = n := by rfl) (hst : (assignEach es X.env).findIdx? (·.1) = none := by rfl) : PG X (.Tuple es k pos) (gLst X.K n t) := by
  intro pins s σ H v u Q I r hw
  obtain ⟨a, xs, e1, hq, hl, hw⟩ := hw
  subst e1
  cases r
  obtain ⟨its, rv, ht, hz⟩ := I.list hq
  rw [assign_Tuple]
  refine wpAny_bind (wpAny_standAt ?_)
  unfold unpack
  rw [hn, hst]
  have hsz : n = its.toArray.size := by rw [List.size_toArray, ← rv.length, hl]
  rw [hsz]
  refine wpAny_bind (wpAny_holding (PySem.W.kun_itemsOf (I.ok.hd hc) ht.isList fun h' hx => ?_))
  have I1 : Inv X pins σ H { s with heap := h' } := I.kept (t' := s.toks) fun b o e => hx b o (Nat.ne_of_lt (Heap.lt_size e)) e
  exact h pins _ σ H xs _ Q I1 (by simpa using rv) hw
end L2

set_option Elab.async false
set_option linter.all false
set_option maxRecDepth 100000
set_option maxHeartbeats 2000000
namespace L2
open PySem PySem.Spec PyProof.Rows EX
/-! statements that may raise, the exception's wish by the names' values where it came -/
section
variable {X : Cx} {st : Stmt} {sts : List Stmt} {t u : TX}
end
end L2

set_option Elab.async false
set_option linter.all false
set_option maxRecDepth 100000
set_option maxHeartbeats 4000000
namespace KM
open PySem L2 KG EX
/-! ### kinds -/
/-! ### contracts -/
theorem trInts {b : Addr} {H : Hp} : ∀ ns : List Int, TrVs b H (ns.map V.int) (ns.map PyData.int)
  | [] => .nil
  | n :: ns => .cons (.int n) (trInts ns)
theorem Stay.kpb {b : Addr} {H H' : Hp} (s : Stay H H') : Kp b H H' := fun a o _ h => s a o h
theorem Bag.stay {b : Addr} {H H' : Hp} (h : Bag H b) (s : Stay H H') : Bag H' b := by obtain ⟨c, d, e⟩ := h; exact ⟨c, d, s _ _ e⟩
end KM

set_option Elab.async false
set_option linter.all false
set_option maxRecDepth 100000
set_option maxHeartbeats 4000000
namespace KM
open PySem L2 KG EX
/-- the built-ins are the interpreter's own -/
structure Nm (mg : Str → Option Value) : Prop where
  len : mg "len" = none
  range : mg "range" = none
  tuple : mg "tuple" = none
  list : mg "list" = none
  all : mg "all" = none
  any : mg "any" = none
  max : mg "max" = none
  min : mg "min" = none
  sum : mg "sum" = none
  abs : mg "abs" = none
  int : mg "int" = none
  isinstance : mg "isinstance" = none
  bool : mg "bool" = none
  enumerate : mg "enumerate" = none
  valueError : mg "ValueError" = none
end KM

set_option Elab.async false
set_option linter.all false
set_option maxRecDepth 100000
set_option maxHeartbeats 4000000
namespace KM
open PySem L2 KG EX
/-! prices -/
end KM

set_option Elab.async false
set_option linter.all false
set_option maxRecDepth 100000
set_option maxHeartbeats 4000000
namespace KM
open PySem L2 KG EX
end KM

set_option Elab.async false
set_option linter.all false
set_option maxRecDepth 100000
set_option maxHeartbeats 4000000
namespace KM
open PySem L2 KG EX
/-! fractions in lowest terms are the rational numbers -/
end KM

set_option Elab.async false
set_option linter.all false
set_option maxRecDepth 100000
set_option maxHeartbeats 4000000
namespace KM
open PySem L2 KG EX
/-! prices as rational numbers -/
/-- the program's own, over what may be none -/
def natsV (gs : List Nat) : List V := gs.map fun g : Nat => V.int (g : Int)
end KM

set_option Elab.async false
set_option linter.all false
set_option maxRecDepth 100000
set_option maxHeartbeats 4000000
namespace KM
open PySem L2 KG EX
theorem take_snoc {α : Type} {xs : List α} {i : Nat} {x : α} (h : xs[i]? = some x) : xs.take (i + 1) = xs.take i ++ [x] := by rw [List.take_succ, h]; rfl
/-- lists of whole numbers at hand, one by one -/
def LsR (H : Hp) (xs : List V) (M : List (List Int)) : Prop := xs.length = M.length ∧ ∀ (j : Nat) x, xs[j]? = some x → ∃ a, x = .ref a ∧ H a = some (.lst ((M.getD j []).map V.int))
theorem LsR.stay {H H' : Hp} {xs : List V} {M : List (List Int)} (h : LsR H xs M) (s : Stay H H') : LsR H' xs M := ⟨h.1, fun j x hx => by obtain ⟨a, e, z⟩ := h.2 j x hx; exact ⟨a, e, s _ _ z⟩⟩
end KM

set_option Elab.async false
set_option linter.all false
set_option maxRecDepth 100000
set_option maxHeartbeats 4000000
namespace L2
open PySem PySem.Spec PyProof.Rows
end L2
namespace KM
open PySem L2 KG EX
theorem ints_tr {b : Addr} {H : Hp} : ∀ (ns : List Int), TrVs b H (ns.map V.int) (ns.map PyData.int)
  | [] => .nil
  | n :: ns => .cons (.int n) (ints_tr ns)
theorem eqv_ints : ∀ ns : List Int, PyData.eqvAll (ns.map PyData.int) (ns.map PyData.int) = true
  | [] => by simp [PyData.eqvAll]
  | n :: ns => by simp [PyData.eqvAll, PyData.eqv, eqv_ints ns]
theorem natsV_ints (gs : List Nat) : natsV gs = (gs.map fun g : Nat => (g : Int)).map V.int := by unfold natsV; rw [List.map_map]; rfl
end KM

set_option Elab.async false
set_option linter.all false
set_option maxRecDepth 100000
set_option maxHeartbeats 4000000
namespace KM
open PySem L2 KG EX
/-! purses as rational numbers -/
/-- all sets of some numbers -/
def pickL (ns : List Int) (mask : Nat) : List Int := ((List.range ns.length).filter fun k => decide (mask / 2 ^ k % 2 = 1)).map fun k => ns.getD k 0
def setsL (ns : List Int) : List (List Int) := (List.range (2 ^ ns.length)).map (pickL ns)
def spSets : Sp := fun vs H Q _ => ∃ (l : Addr) (ns : List Int), vs = [.ref l] ∧ H l = some (.lst (ns.map V.int)) ∧ ns.length ≤ 6 ∧ ∀ (r : Addr) (xs : List V) (H' : Hp), Stay H H' → H' r = some (.lst xs) → LsR H' xs (setsL ns) → (∀ a, V.ref a ∈ xs → H a = none) → Q (.ref r) H'
end KM

set_option Elab.async false
set_option linter.all false
set_option maxRecDepth 100000
namespace L2
open PySem PySem.Spec PyProof.Rows

/-! ### lists of pairs as tables -/
section
variable {κ : Type} [DecidableEq κ]
end


/-! ### a tracked dict, its keys ints and texts or tuples of these -/
section
variable {P : Program} {w : World} {H : Hp} {h : Heap} {a : Addr}
end

section
variable {X : Cx} {pins : List (Addr × Obj)} {σ : St} {H : Hp} {s : Shared} {a : Addr} {y v : V} {u r : Value} {o : Option V} {A : Around} {E : Value → Shared → Prop}

end

section
variable {X : Cx} {pins : List (Addr × Obj)} {σ : St} {H : Hp} {s : Shared} {a : Addr} {kvs : List (Key × V)} {k : Key} {u : Value} {A : Around} {E : Value → Shared → Prop}
end


/-! ### readings and rules -/
section
variable {X : Cx} {o i e value : Expr} {pos pos' tpos : Pos} {td ty tv : TE}
end


/-! ### displays -/
section
variable {X : Cx} {pos : Pos}
end

/-! ### methods -/
section
variable {X : Cx} {pins : List (Addr × Obj)} {σ : St} {H : Hp} {s : Shared} {a : Addr} {y d : V} {u r : Value} {o : Option V} {A : Around} {E : Value → Shared → Prop}
end

section
variable {X : Cx} {o e f : Expr} {apos cpos : Pos} {td ty tx : TE}
end

/-! ### dict(d): a copy -/
section
variable {X : Cx} {pins : List (Addr × Obj)} {σ : St} {H : Hp} {s : Shared} {a : Addr} {kvs : List (Key × V)} {A : Around} {E : Value → Shared → Prop}
end


section
variable {X : Cx} {pins : List (Addr × Obj)} {σ : St} {H : Hp} {s : Shared} {a : Addr} {y : V} {u : Value} {A : Around} {E : Value → Shared → Prop}
end
end L2
namespace L2
open PySem PySem.Spec PyProof.Rows
section
variable {X : Cx}
end
section
variable {κ : Type} [DecidableEq κ]
end
end L2

set_option Elab.async false
set_option linter.all false
set_option maxRecDepth 100000
namespace L2
open PySem PySem.Spec PyProof.Rows

/-! ### a dict comprehension, keys ints and texts -/
section
variable {X : Cx} {scope : Scope} {own cap : List Str} {ix : List Nat} {tg iter kx vx : Expr} {ifs : List Expr} {wi : TI} {g : TG} {tt : TT} {tk tv : TE} {pos : Pos}

end
end L2

set_option Elab.async false
set_option linter.all false
set_option maxRecDepth 100000
namespace L2
open PySem PySem.Spec PyProof.Rows
section
variable {X : Cx}

/-! ### d.values(), list(d.values()) -/
/-! ### for k in d: the dict stands frozen from there on -/
end
end L2

set_option Elab.async false
set_option linter.all false
set_option maxRecDepth 100000
namespace PySem
/-! ### zip of two tuples -/
theorem upd_pair {prog : Program} {w : World} {A : Around} {E : Value → Shared → Prop} {s : Shared} {T : Addr} {a b x : Value} {k : Nat} {Q : Unit → Shared → Prop} (hT : IsPair s.heap T a b)
    (q : ∀ g, g.get? T = some { cls := .type "tuple", data := .seq ((#[a, b] : Array Value).setIfInBounds k x) } → Heap.SameBut T s.heap g → Q () { s with heap := g }) : wpAny (model prog w) A (updateSeq T (·.setIfInBounds k x)) Q E s :=
  wpAny_updateSeq_pair hT q
section
variable {prog : Program} {w : World} {A : Around} {E : Value → Shared → Prop} {s : Shared} {z TI TO i1 i2 l1 l2 : Addr} {k1 k2 : Nat} {xs ys : Array Value} {x y a b : Value}
theorem tit_but {h g : Heap} {it l c : Addr} {i : Nat} (t : h.IsTupleIter it l i) (sb : Heap.ExtBut c h g) (ne : it ≠ c) : g.IsTupleIter it l i := let ⟨o, e, r⟩ := t; ⟨o, sb it o ne e, r⟩
theorem tup_but {h g : Heap} {l c : Addr} {v : Array Value} (t : h.IsTuple l v) (sb : Heap.ExtBut c h g) (ne : l ≠ c) : g.IsTuple l v := let ⟨o, e, r⟩ := t; ⟨o, sb l o ne e, r⟩
theorem zipT_next {Q : Value → Shared → Prop} (D : ZipApart z TI TO i1 i2 l1 l2) (hz : IsZip s.heap z TI TO .none) (pI : IsPair s.heap TI (.ref i1) (.ref i2)) (pO : IsPair s.heap TO a b)
    (t1 : s.heap.IsTupleIter i1 l1 k1) (t2 : s.heap.IsTupleIter i2 l2 k2) (u1 : s.heap.IsTuple l1 xs) (u2 : s.heap.IsTuple l2 ys) (hx : xs[k1]? = some x) (hy : ys[k2]? = some y)
    (q : ∀ g, IsZip g z TI TO (rawInt s.heap.objs.size) → IsPair g TO x y → g.IsTupleIter i1 l1 (k1 + 1) → g.IsTupleIter i2 l2 (k2 + 1) → IsPair g s.heap.objs.size x y →
      (∀ c o, c ≠ z → c ≠ TO → c ≠ i1 → c ≠ i2 → s.heap.get? c = some o → g.get? c = some o) → Q (.ref s.heap.objs.size) { s with heap := g }) :
    wpAny (model prog w) A (Builtin.«zip.__next__» ⟨[.ref z], []⟩) (fun fin s' => ∃ v, fin = .done (.ret v) ∧ Q v s') E s := by
  show wpAny _ _ (field (.ref z) 2 >>= _) _ _ _; refine wpAny_bind (wpAny_field hz rfl (x := .bool false) rfl ?_)
  show wpAny _ _ (field (.ref z) 3 >>= _) _ _ _; refine wpAny_bind (wpAny_field hz rfl (x := .ref TI) rfl (wpAny_bind (wpAny_seqItems pI rfl ?_)))
  show wpAny _ _ (Builtin.SmallTypes.ownedTupleIsFree (.ref z) >>= _) _ _ _; refine wpAny_bind ?_; unfold Builtin.SmallTypes.ownedTupleIsFree
  refine wpAny_bind (wpAny_field hz rfl (x := .none) rfl (wpAny_pure ?_)); simp only [if_true]
  refine wpAny_bind (wpAny_rule (wpAny_bind (wpAny_field hz rfl (x := .ref TO) rfl ?_)))
  refine wpAny_bind (wpAny_setField_rec hz (by simp) fun g1 z1 b1 => ?_); replace z1 : IsZip g1 z TI TO .ellipsis := z1; refine wpAny_bind ?_
  simp only [List.zipIdx_cons, List.zipIdx_nil, List.forIn_cons, List.forIn_nil]; refine wpAny_bind (wpAny_bind (wpAny_onRaise ?_))
  show wpAny _ _ (Builtin.SmallTypes.nextOf (.ref i1) >>= _) _ _ _; refine wpAny_bind (nextOf_tup_item (tit_but t1 b1.extBut D.i1z) (tup_but u1 b1.extBut D.l1z) hx fun g2 n1 b2 => wpAny_pure ?_)
  have o2 : IsPair g2 TO a b := b2.extBut _ _ D.TOi1 (b1.extBut _ _ D.TOz pO)
  refine wpAny_bind (wpAny_seqItems o2 rfl (wpAny_bind (upd_pair o2 fun g3 o3 b3 => wpAny_bind (wpAny_letGo (wpAny_pure ?_)))))
  replace o3 : IsPair g3 TO x b := o3
  refine wpAny_bind (wpAny_bind (wpAny_onRaise ?_)); show wpAny _ _ (Builtin.SmallTypes.nextOf (.ref i2) >>= _) _ _ _
  refine wpAny_bind (nextOf_tup_item (tit_but (tit_but (tit_but t2 b1.extBut D.i2z) b2.extBut D.i12.symm) b3.extBut D.TOi2.symm) (tup_but (tup_but (tup_but u2 b1.extBut D.l2z) b2.extBut D.l2i1) b3.extBut D.l2TO) hy fun g4 n2 b4 => wpAny_pure ?_)
  have o4 : IsPair g4 TO x b := b4.extBut _ _ D.TOi2 o3
  refine wpAny_bind (wpAny_seqItems o4 rfl (wpAny_bind (upd_pair o4 fun g5 o5 b5 => wpAny_bind (wpAny_letGo (wpAny_pure (wpAny_pure ?_))))))
  replace o5 : IsPair g5 TO x y := o5
  refine wpAny_bind (wpAny_seqItems o5 rfl (wpAny_bind (wpAny_newTuple ?_)))
  have sz : g5.objs.size = s.heap.objs.size := by rw [b5.1, b4.1, b3.1, b2.1, b1.1]
  have z5 : IsZip g5 z TI TO .ellipsis := b5.extBut _ _ D.TOz.symm (b4.extBut _ _ D.i2z.symm (b3.extBut _ _ D.TOz.symm (b2.extBut _ _ D.i1z.symm z1)))
  have k5 : ∀ c o, c ≠ z → c ≠ TO → c ≠ i1 → c ≠ i2 → s.heap.get? c = some o → g5.get? c = some o := fun c o e1 e2 e3 e4 e => b5.extBut _ _ e2 (b4.extBut _ _ e4 (b3.extBut _ _ e2 (b2.extBut _ _ e3 (b1.extBut _ _ e1 e))))
  have m1 : g5.IsTupleIter i1 l1 (k1 + 1) := tit_but (tit_but (tit_but n1 b3.extBut D.TOi1.symm) b4.extBut D.i12) b5.extBut D.TOi1.symm
  have m2 : g5.IsTupleIter i2 l2 (k2 + 1) := tit_but n2 b5.extBut D.TOi2.symm
  have zlt : z < g5.objs.size := Heap.lt_size z5
  show wpAny _ _ (Builtin.SmallTypes.ownedTupleHandOut (.ref z) (.ref g5.objs.size) >>= _) _ _ _; refine wpAny_bind ?_; unfold Builtin.SmallTypes.ownedTupleHandOut
  have z6 : IsZip (g5.push { cls := .type "tuple", data := .seq #[x, y] }) z TI TO .ellipsis := Heap.get?_push_of_some _ z5
  refine wpAny_bind (wpAny_setField_rec z6 (by simp) fun g7 z7 b7 => ?_); replace z7 : IsZip g7 z TI TO (rawInt g5.objs.size) := z7
  refine wpAny_setField_rec z7 (by simp) fun g8 z8 b8 => ?_; replace z8 : IsZip g8 z TI TO (rawInt g5.objs.size) := z8
  have up : ∀ c o, c ≠ z → g5.get? c = some o → g8.get? c = some o := fun c o e1 e => b8.extBut _ _ e1 (b7.extBut _ _ e1 (Heap.get?_push_of_some _ e))
  have p8 : IsPair g8 g5.objs.size x y := b8.extBut _ _ (Nat.ne_of_gt zlt) (b7.extBut _ _ (Nat.ne_of_gt zlt) (Heap.get?_push_size _ rfl))
  rw [sz] at z8 p8
  refine wpAny_pure ⟨_, rfl, ?_⟩; show Q (.ref g5.objs.size) _; rw [sz]
  exact q g8 z8 (up _ _ D.TOz o5) (let ⟨o, e, r⟩ := m1; ⟨o, up _ o D.i1z e, r⟩) (let ⟨o, e, r⟩ := m2; ⟨o, up _ o D.i2z e, r⟩) p8 fun c o e1 e2 e3 e4 e => up c o e1 (k5 c o e1 e2 e3 e4 e)
theorem zipT_stop {Q : Fin → Shared → Prop} (hh : A.handled = none) (D : ZipApart z TI TO i1 i2 l1 l2) (hz : IsZip s.heap z TI TO .none) (pI : IsPair s.heap TI (.ref i1) (.ref i2)) (pO : IsPair s.heap TO a b)
    (t1 : s.heap.IsTupleIter i1 l1 k1) (t2 : s.heap.IsTupleIter i2 l2 k2) (u1 : s.heap.IsTuple l1 xs) (u2 : s.heap.IsTuple l2 ys) (hx : xs[k1]? = none)
    (q : ∀ g e, (∀ c o, c ≠ z → c ≠ TO → c ≠ i1 → c ≠ i2 → s.heap.get? c = some o → g.get? c = some o) → (∃ o, g.get? e = some o ∧ o.cls = .type "StopIteration") → E (.ref e) { s with heap := g }) :
    wpAny (model prog w) A (Builtin.«zip.__next__» ⟨[.ref z], []⟩) Q E s := by
  show wpAny _ _ (field (.ref z) 2 >>= _) _ _ _; refine wpAny_bind (wpAny_field hz rfl (x := .bool false) rfl ?_)
  show wpAny _ _ (field (.ref z) 3 >>= _) _ _ _; refine wpAny_bind (wpAny_field hz rfl (x := .ref TI) rfl (wpAny_bind (wpAny_seqItems pI rfl ?_)))
  show wpAny _ _ (Builtin.SmallTypes.ownedTupleIsFree (.ref z) >>= _) _ _ _; refine wpAny_bind ?_; unfold Builtin.SmallTypes.ownedTupleIsFree
  refine wpAny_bind (wpAny_field hz rfl (x := .none) rfl (wpAny_pure ?_)); simp only [if_true]
  refine wpAny_bind (wpAny_rule (wpAny_bind (wpAny_field hz rfl (x := .ref TO) rfl ?_)))
  refine wpAny_bind (wpAny_setField_rec hz (by simp) fun g1 z1 b1 => ?_); replace z1 : IsZip g1 z TI TO .ellipsis := z1; refine wpAny_bind ?_
  simp only [List.zipIdx_cons, List.zipIdx_nil, List.forIn_cons, List.forIn_nil]; refine wpAny_bind (wpAny_bind (wpAny_onRaise ?_))
  show wpAny _ _ (Builtin.SmallTypes.nextOf (.ref i1) >>= _) _ _ _
  refine wpAny_bind (nextOf_tup_end hh (tit_but t1 b1.extBut D.i1z) (tup_but u1 b1.extBut D.l1z) hx fun g2 e b2 ⟨oe, he, ce⟩ => ?_)
  have z2 : IsZip g2 z TI TO .ellipsis := b2 _ _ D.i1z.symm z1
  have ez : e ≠ z := fun h => by subst h; rw [z2] at he; cases he; simp at ce
  exact wpAny_setField_rec z2 (by simp) fun g3 _ b3 => q g3 e (fun c o e1 _ e3 _ h => b3.extBut _ _ e1 (b2 _ _ e3 (b1.extBut _ _ e1 h))) ⟨oe, b3.extBut _ _ ez he, ce⟩
theorem pyNext_zipT {Q : Option Value → Shared → Prop} (D : ZipApart z TI TO i1 i2 l1 l2) (hz : IsZip s.heap z TI TO .none) (pI : IsPair s.heap TI (.ref i1) (.ref i2)) (pO : IsPair s.heap TO a b)
    (t1 : s.heap.IsTupleIter i1 l1 k1) (t2 : s.heap.IsTupleIter i2 l2 k2) (u1 : s.heap.IsTuple l1 xs) (u2 : s.heap.IsTuple l2 ys) (hx : xs[k1]? = some x) (hy : ys[k2]? = some y)
    (q : ∀ g, IsZip g z TI TO (rawInt s.heap.objs.size) → IsPair g TO x y → g.IsTupleIter i1 l1 (k1 + 1) → g.IsTupleIter i2 l2 (k2 + 1) → IsPair g s.heap.objs.size x y →
      (∀ c o, c ≠ z → c ≠ TO → c ≠ i1 → c ≠ i2 → s.heap.get? c = some o → g.get? c = some o) → Q (some (.ref s.heap.objs.size)) { s with heap := g }) : wpAny (model prog w) A (pyNext (.ref z)) Q E s := by
  have ty : s.TypeIs (.ref z) "zip" := ⟨_, hz, rfl⟩
  unfold pyNext
  exact wpAny_bind (wpAny_attempt (wpAny_callSpecial?_slot (name := Str.ofString "__next__") ty F.slot_zip_next (wpAny_call_entry F.slot_zip_next ty F.entry_zip_next
    (zipT_next D hz pI pO t1 t2 u1 u2 hx hy fun g a1 a2 a3 a4 a5 a6 => wpAny_pure (q g a1 a2 a3 a4 a5 a6)) (F.args_zip_next_1 _))))
theorem pyNext_zipT_end {Q : Option Value → Shared → Prop} (hh : A.handled = none) (D : ZipApart z TI TO i1 i2 l1 l2) (hz : IsZip s.heap z TI TO .none) (pI : IsPair s.heap TI (.ref i1) (.ref i2)) (pO : IsPair s.heap TO a b)
    (t1 : s.heap.IsTupleIter i1 l1 k1) (t2 : s.heap.IsTupleIter i2 l2 k2) (u1 : s.heap.IsTuple l1 xs) (u2 : s.heap.IsTuple l2 ys) (hx : xs[k1]? = none)
    (q : ∀ g, (∀ c o, c ≠ z → c ≠ TO → c ≠ i1 → c ≠ i2 → s.heap.get? c = some o → g.get? c = some o) → Q none { s with heap := g }) : wpAny (model prog w) A (pyNext (.ref z)) Q E s := by
  have ty : s.TypeIs (.ref z) "zip" := ⟨_, hz, rfl⟩
  unfold pyNext
  exact wpAny_bind (wpAny_attempt (wpAny_callSpecial?_slot (name := Str.ofString "__next__") ty F.slot_zip_next (wpAny_call_entry F.slot_zip_next ty F.entry_zip_next
    (zipT_stop hh D hz pI pO t1 t2 u1 u2 hx fun g e hk ⟨o, ho, hc⟩ => wpAny_bind (wpAny_isInstance (T := "StopIteration") (b := true) ⟨o, ho, hc⟩ isSubtype_stop (wpAny_pure (q _ hk)))) (F.args_zip_next_1 _))))
end
abbrev zpA (h : Heap) (l1 : Addr) : Heap := h.push { cls := .type "tuple_iterator", data := .fields #[.ref l1, .int 0 0] }
abbrev zpB (h : Heap) (l1 l2 : Addr) : Heap := (zpA h l1).push { cls := .type "tuple_iterator", data := .fields #[.ref l2, .int 0 0] }
abbrev zpC (h : Heap) (l1 l2 : Addr) : Heap := (zpB h l1 l2).push { cls := .type "tuple", data := .seq #[.ref h.objs.size, .ref (zpA h l1).objs.size] }
abbrev zpD (h : Heap) (l1 l2 : Addr) : Heap := (zpC h l1 l2).push { cls := .type "tuple", data := .seq #[.none, .none] }
abbrev zpE (h : Heap) (l1 l2 : Addr) : Heap := (zpD h l1 l2).push { cls := .type "zip", data := .fields #[.none, .bool false, .bool false, .ref (zpB h l1 l2).objs.size, .ref (zpC h l1 l2).objs.size] }
theorem meets_zipT (l1 l2 : Addr) (xs ys : Array Value) : Meets (Builtin.«zip.__new__» ⟨[.type "zip", .ref l1, .ref l2], []⟩) (fun _ R s => s.heap.IsTuple l1 xs ∧ s.heap.IsTuple l2 ys ∧ R (.ok (.ret (.ref (zpD s.heap l1 l2).objs.size))) { s with heap := zpE s.heap l1 l2 }) :=
  .of_wp fun prog w A R s h => by
    obtain ⟨hp, g, d, tk, os⟩ := s; obtain ⟨v1, v2, h⟩ := h
    have hsub := sub_zip
    have w1 : Heap.IsTuple (Shared.heap ⟨hp, g, d, tk, os⟩) l1 xs := v1
    have w2 : Heap.IsTuple (Shared.heap ⟨zpA hp l1, g, d, tk, os⟩) l2 ys := let ⟨o, e, r⟩ := v2; ⟨o, Heap.get?_push_of_some _ e, r⟩
    wp_walk using wpAny_pyIter_tuple w1, wpAny_pyIter_tuple w2
    exact ⟨_, rfl, h⟩
theorem call_zipT {prog : Program} {w : World} {A : Around} {E : Value → Shared → Prop} {s : Shared} {l1 l2 : Addr} {xs ys : Array Value} {Q : Value → Shared → Prop} (v1 : s.heap.IsTuple l1 xs) (v2 : s.heap.IsTuple l2 ys)
    (q : ∀ g, IsZip g (s.heap.objs.size + 4) (s.heap.objs.size + 2) (s.heap.objs.size + 3) .none → IsPair g (s.heap.objs.size + 2) (.ref s.heap.objs.size) (.ref (s.heap.objs.size + 1)) → IsPair g (s.heap.objs.size + 3) .none .none →
      g.IsTupleIter s.heap.objs.size l1 0 → g.IsTupleIter (s.heap.objs.size + 1) l2 0 → (∀ c o, s.heap.get? c = some o → g.get? c = some o) → Q (.ref (s.heap.objs.size + 4)) { s with heap := g }) : wpAny (model prog w) A (call (.type "zip") [.ref l1, .ref l2]) Q E s := by
  refine callType_new F.called_zip (by decide) (F.typeCall_zip_2 _ _) (F.newCall_zip_2 _ _) (fun obj => F.args_object_init_3 obj _ _) F.entry_zip_new (meets_zipT l1 l2 xs ys) ⟨v1, v2, ?_⟩
  have e1 : (zpA s.heap l1).objs.size = s.heap.objs.size + 1 := Heap.size_push ..
  have e2 : (zpB s.heap l1 l2).objs.size = s.heap.objs.size + 2 := by rw [Heap.size_push, e1]
  have e3 : (zpC s.heap l1 l2).objs.size = s.heap.objs.size + 3 := by rw [Heap.size_push, e2]
  have e4 : (zpD s.heap l1 l2).objs.size = s.heap.objs.size + 4 := by rw [Heap.size_push, e3]
  have p5 : (zpE s.heap l1 l2).get? (zpD s.heap l1 l2).objs.size = some _ := Heap.get?_push_size _ rfl
  have p4 : (zpE s.heap l1 l2).get? (zpC s.heap l1 l2).objs.size = some _ := Heap.get?_push_of_some _ (Heap.get?_push_size _ rfl)
  have p3 : (zpE s.heap l1 l2).get? (zpB s.heap l1 l2).objs.size = some _ := Heap.get?_push_of_some _ (Heap.get?_push_of_some _ (Heap.get?_push_size _ rfl))
  have p2 : (zpE s.heap l1 l2).get? (zpA s.heap l1).objs.size = some _ := Heap.get?_push_of_some _ (Heap.get?_push_of_some _ (Heap.get?_push_of_some _ (Heap.get?_push_size _ rfl)))
  have p1 : (zpE s.heap l1 l2).get? s.heap.objs.size = some _ := Heap.get?_push_of_some _ (Heap.get?_push_of_some _ (Heap.get?_push_of_some _ (Heap.get?_push_of_some _ (Heap.get?_push_size _ rfl))))
  show _ ∧ _; rw [e2, e3, e4] at p5; rw [e1, e2] at p3; rw [e3] at p4; rw [e1] at p2; rw [e4]
  exact ⟨⟨_, p5, rfl⟩, q _ p5 p3 p4 ⟨_, p1, rfl, rfl⟩ ⟨_, p2, rfl, rfl⟩ fun c o h => Heap.get?_push_of_some _ (Heap.get?_push_of_some _ (Heap.get?_push_of_some _ (Heap.get?_push_of_some _ (Heap.get?_push_of_some _ h))))⟩
end PySem
namespace L2
open PySem PySem.Spec PyProof.Rows
section
variable {X : Cx}
/-- zip of two tuples of one length, unpacked at once -/
def Itz (K : PySem.W.Frag) (a b : Addr) : It :=
  ⟨fun i H => ∃ xs ys x y, SqT K H a xs ∧ SqT K H b ys ∧ xs[i]? = some x ∧ ys[i]? = some y,
   fun i H v H' => ∃ p, H p = none ∧ v = .ref p ∧ ∀ xs ys, SqT K H a xs → SqT K H b ys → ∃ x y, xs[i]? = some x ∧ ys[i]? = some y ∧ H' = upd H p (.tup [x, y]),
   fun i H => ∃ xs ys, SqT K H a xs ∧ SqT K H b ys ∧ xs.length ≤ i⟩
theorem turn_zip {P : Program} {w : World} {K : PySem.W.Frag} {elts : List Expr} {kk} {pos : Pos} (a b z TI TO i1 i2 : Addr) (D : ZipApart z TI TO i1 i2 a b) :
    Turn P w K (.Tuple elts kk pos) (Itz K a b) [z, TI, TO, i1, i2] z (fun i h => IsZip h z TI TO .none ∧ IsPair h TI (.ref i1) (.ref i2) ∧ (∃ u v, IsPair h TO u v) ∧ h.IsTupleIter i1 a i ∧ h.IsTupleIter i2 b i) where
  mem := by simp
  obj := fun i h st c hc => by
    obtain ⟨hz, pI, ⟨u, v, pO⟩, ⟨o1, e1, c1, d1⟩, o2, e2, c2, d2⟩ := st
    simp only [List.mem_cons, List.not_mem_nil, or_false] at hc
    rcases hc with rfl | rfl | rfl | rfl | rfl
    · exact ⟨_, hz, fun v z => by cases z⟩
    · exact ⟨_, pI, fun v z => by cases z⟩
    · exact ⟨_, pO, fun v z => by cases z⟩
    · exact ⟨o1, e1, fun v z => by rw [d1] at z; cases z⟩
    · exact ⟨o2, e2, fun v z => by rw [d2] at z; cases z⟩
  keep := fun i h h' st k => by
    obtain ⟨hz, pI, ⟨u, v, pO⟩, ⟨o1, e1, r1⟩, o2, e2, r2⟩ := st
    exact ⟨k z (by simp) _ hz, k TI (by simp) _ pI, ⟨u, v, k TO (by simp) _ pO⟩, ⟨o1, k i1 (by simp) _ e1, r1⟩, o2, k i2 (by simp) _ e2, r2⟩
  item := by
    intro X hP hw hK hc i pins s σ H E I hf st hg
    subst hP hw hK
    obtain ⟨xs, ys, x, y, hq1, hq2, hx, hy⟩ := hg
    obtain ⟨us, ru, pu, zu⟩ := I.tuple hq1
    obtain ⟨vs, rv, pv, zv⟩ := I.tuple hq2
    obtain ⟨u, hu, rxu⟩ := ru.get hx
    obtain ⟨v, hv, ryv⟩ := rv.get hy
    obtain ⟨hz, pI, ⟨u0, v0, pO⟩, t1, t2⟩ := st
    refine pyNext_zipT D hz pI pO t1 t2 (show s.heap.IsTuple a us.toArray from pu) (show s.heap.IsTuple b vs.toArray from pv) (x := u) (y := v) (by simpa using hu) (by simpa using hv) fun g z1 o1 n1 n2 p1 hk => ?_
    refine ⟨_, rfl, ?_⟩
    refine wpAny_letOwnedTupleGo_zip z1 fun g2 z2 b2 => ?_
    replace b2 : Heap.SameBut z g g2 := b2
    have lt : ∀ {c o}, s.heap.get? c = some o → s.heap.objs.size ≠ c := fun e => Nat.ne_of_gt (Heap.lt_size e)
    have hne : s.heap.objs.size ≠ z := lt hz
    have I1 : Inv X pins σ H { s with heap := g2, toks := s.toks } := I.turnedL (ch := [z, TI, TO, i1, i2]) (fun c o hc q => by
      have c1 : c ≠ z := fun h => hc (by simp [h])
      exact b2.extBut c o c1 (hk c o c1 (fun h => hc (by simp [h])) (fun h => hc (by simp [h])) (fun h => hc (by simp [h])) q)) hf
    have p2 := b2.extBut _ _ hne p1
    have fp : FpOk X pins H s.heap.objs.size := I.fpOk (Nat.le_refl _) I.fresh
    have I2 := I1.track (p := s.heap.objs.size) (o := .tup [x, y]) fp ⟨by show 2 ≤ sizeLine; decide, [u, v], .cons rxu (.cons ryv .nil), ⟨_, p2, rfl, _, rfl⟩⟩
    refine ⟨.ref s.heap.objs.size, _, I2, rfl, ⟨_, I.fresh, rfl, fun ys1 ys2 h1 h2 => ?_⟩, ⟨z2, b2.extBut _ _ D.TIz (hk _ _ D.TIz D.TITO D.TIi1 D.TIi2 pI), ⟨_, _, b2.extBut _ _ D.TOz o1⟩, tit_but n1 b2.extBut D.i1z, tit_but n2 b2.extBut D.i2z⟩, fun c hc => ?_⟩
    · rw [I.tuple_inj h1 hq1, I.tuple_inj h2 hq2]; exact ⟨x, y, hx, hy, rfl⟩
    · rw [upd_ne]
      · exact (hf c hc).1
      · simp only [List.mem_cons, List.not_mem_nil, or_false] at hc
        rcases hc with rfl | rfl | rfl | rfl | rfl
        · exact hne.symm
        · exact (lt pI).symm
        · exact (lt pO).symm
        · obtain ⟨_, e, _⟩ := t1; exact (lt e).symm
        · obtain ⟨_, e, _⟩ := t2; exact (lt e).symm
  done := by
    intro X hP hw hK hc i pins s σ H E I hf st hg
    subst hP hw hK
    obtain ⟨xs, ys, hq1, hq2, hx⟩ := hg
    obtain ⟨us, ru, pu, zu⟩ := I.tuple hq1
    obtain ⟨vs, rv, pv, zv⟩ := I.tuple hq2
    obtain ⟨hz, pI, ⟨u0, v0, pO⟩, t1, t2⟩ := st
    have hl := ru.length
    exact pyNext_zipT_end (I.ok.hd hc) D hz pI pO t1 t2 (show s.heap.IsTuple a us.toArray from pu) (show s.heap.IsTuple b vs.toArray from pv) (by simp; omega) fun g hk =>
      ⟨rfl, I.turnedL (t' := s.toks) (ch := [z, TI, TO, i1, i2]) (fun c o hc q => hk c o (fun h => hc (by simp [h])) (fun h => hc (by simp [h])) (fun h => hc (by simp [h])) (fun h => hc (by simp [h])) q) hf⟩
  self := fun A i s Q E st h => wpAny_pyIter_zip st.1 h
def iZip (K : PySem.W.Frag) (ta : TA) : TI := fun σ H R => ta σ H fun vs H1 => ∃ a b, vs = [.ref a, .ref b] ∧ (∃ xs, SqT K H1 a xs) ∧ (∃ ys, SqT K H1 b ys) ∧ R (Itz K a b) H1
end
end L2

set_option Elab.async false
set_option linter.all false
set_option maxRecDepth 100000
namespace L2
open PySem PySem.Spec PyProof.Rows KG
/-- two names at the head of a block -/
abbrev g2 (K : PySem.W.Frag) : TG := gTup K 2 (gCons (gName 0) (gCons (gName 1) gNil))
def S2 (σ₀ σ : St) : Prop := ∀ u v, (σ.set 0 u).set 1 v = (σ₀.set 0 u).set 1 v
theorem S2.of {σ₀ : St} {u v : Option V} : S2 σ₀ ((σ₀.set 0 u).set 1 v) := fun u' v' => by
  match σ₀ with
  | [] => rfl
  | [_] => rfl
  | _ :: _ :: _ => rfl
def Cn2 (σ₀ : St) (acc : Addr) (P : List V → Hp → Prop) (σ : St) (H : Hp) : Prop := S2 σ₀ σ ∧ ∃ ys, H acc = some (.lst ys) ∧ P ys H
theorem Cn2.of {σ₀ : St} {acc : Addr} {P : List V → Hp → Prop} {u v : Option V} {H : Hp} {ys : List V} (h : H acc = some (.lst ys)) (p : P ys H) : Cn2 σ₀ acc P ((σ₀.set 0 u).set 1 v) H := ⟨S2.of, ys, h, p⟩
theorem pair_in {K : PySem.W.Frag} {σ₀ σ : St} {H : Hp} {p : Addr} {x y : V} {Z : St → Hp → Prop} (hσ : S2 σ₀ σ) (hp : H p = none) (h : ∀ H1, Stay H H1 → Z ((σ₀.set 0 (some x)).set 1 (some y)) H1) : g2 K (.ref p) σ (upd H p (.tup [x, y])) Z := by
  refine ⟨p, _, rfl, SqT.of upd_same, rfl, _, _, rfl, _, _, rfl, rfl, ?_⟩
  show Z ((σ.set 0 (some x)).set 1 (some y)) _
  rw [hσ]
  exact h _ ((Stay.refl H).new hp)
section
variable {K : PySem.W.Frag} {tt : TT} {te tk tv : TE} {acc a b : Addr} {xs ys : List V} {σ₀ : St} {H₀ : Hp} {Q : VK} {o : Obj} {kvs : List (Key × V)}
theorem comp_enum (Pv : Nat → List V → Hp → Prop) (h0 : Pv 0 [] (upd H₀ acc (.lst []))) (hl : ∀ (i : Nat) zs H, i ≤ xs.length → H acc = some (.lst zs) → Pv i zs H → SqT K H a xs)
    (hs : ∀ (i : Nat) x zs H H1, xs[i]? = some x → H acc = some (.lst zs) → Pv i zs H → Stay H H1 → tt ((σ₀.set 0 (some (.int i))).set 1 (some x)) H1 fun b H4 =>
      if b = true then te ((σ₀.set 0 (some (.int i))).set 1 (some x)) H4 fun y H5 => ∃ us, H5 acc = some (.lst us) ∧ us.length < sizeLine ∧ Cn2 σ₀ acc (Pv (i + 1)) ((σ₀.set 0 (some (.int i))).set 1 (some x)) (upd H5 acc (.lst (us ++ [y])))
      else Cn2 σ₀ acc (Pv (i + 1)) ((σ₀.set 0 (some (.int i))).set 1 (some x)) H4)
    (hd : ∀ zs H, H acc = some (.lst zs) → Pv xs.length zs H → Q (.ref acc) H) : tCompN (g2 K) tt te (Ite K a) acc σ₀ H₀ Q := by
  refine ⟨fun i m σ H => m = xs.length - i ∧ i ≤ xs.length ∧ Cn2 σ₀ acc (Pv i) σ H, ⟨xs.length, by simp, Nat.zero_le _, fun _ _ => rfl, [], upd_same, h0⟩, ?_⟩
  rintro i m σ H ⟨rfl, hi, hσ, zs, hy, p⟩
  have q := hl i zs H hi hy p
  by_cases hlt : i < xs.length
  · refine .inr ⟨⟨xs, xs[i], q, by simp [hlt]⟩, Cn2 σ₀ acc (Pv (i + 1)), fun σ' H' c => ⟨xs.length - (i + 1), by omega, rfl, hlt, c⟩, fun x H' y => ?_⟩
    obtain ⟨pp, hp, rfl, hyy⟩ := y
    obtain ⟨z, hz, rfl⟩ := hyy xs q
    exact pair_in hσ hp fun H1 s1 => hs i z zs H H1 hz hy p s1
  · have e : i = xs.length := by omega
    subst e
    exact .inl ⟨⟨xs, q, Nat.le_refl _⟩, hd zs H hy p⟩
theorem comp_zip (Pv : Nat → List V → Hp → Prop) (hlen : xs.length = ys.length) (h0 : Pv 0 [] (upd H₀ acc (.lst []))) (hl : ∀ (i : Nat) zs H, i ≤ xs.length → H acc = some (.lst zs) → Pv i zs H → SqT K H a xs ∧ SqT K H b ys)
    (hs : ∀ (i : Nat) x y zs H H1, xs[i]? = some x → ys[i]? = some y → H acc = some (.lst zs) → Pv i zs H → Stay H H1 → tt ((σ₀.set 0 (some x)).set 1 (some y)) H1 fun b H4 =>
      if b = true then te ((σ₀.set 0 (some x)).set 1 (some y)) H4 fun v H5 => ∃ us, H5 acc = some (.lst us) ∧ us.length < sizeLine ∧ Cn2 σ₀ acc (Pv (i + 1)) ((σ₀.set 0 (some x)).set 1 (some y)) (upd H5 acc (.lst (us ++ [v])))
      else Cn2 σ₀ acc (Pv (i + 1)) ((σ₀.set 0 (some x)).set 1 (some y)) H4)
    (hd : ∀ zs H, H acc = some (.lst zs) → Pv xs.length zs H → Q (.ref acc) H) : tCompN (g2 K) tt te (Itz K a b) acc σ₀ H₀ Q := by
  refine ⟨fun i m σ H => m = xs.length - i ∧ i ≤ xs.length ∧ Cn2 σ₀ acc (Pv i) σ H, ⟨xs.length, by simp, Nat.zero_le _, fun _ _ => rfl, [], upd_same, h0⟩, ?_⟩
  rintro i m σ H ⟨rfl, hi, hσ, zs, hy, p⟩
  obtain ⟨q1, q2⟩ := hl i zs H hi hy p
  by_cases hlt : i < xs.length
  · refine .inr ⟨⟨xs, ys, xs[i], ys[i]'(by omega), q1, q2, by simp [hlt], by simp⟩, Cn2 σ₀ acc (Pv (i + 1)), fun σ' H' c => ⟨xs.length - (i + 1), by omega, rfl, hlt, c⟩, fun v H' y => ?_⟩
    obtain ⟨pp, hp, rfl, hyy⟩ := y
    obtain ⟨x1, y1, hx1, hy1, rfl⟩ := hyy xs ys q1 q2
    exact pair_in hσ hp fun H1 s1 => hs i x1 y1 zs H H1 hx1 hy1 hy p s1
  · have e : i = xs.length := by omega
    subst e
    exact .inl ⟨⟨xs, ys, q1, q2, Nat.le_refl _⟩, hd zs H hy p⟩
end
/-! the same rules with the fragment said -/
section
variable {X : Cx}
end
end L2

set_option Elab.async false
set_option linter.all false
set_option maxRecDepth 100000
namespace PySem
/-! ### dicts by their entries as they lie, whatever the keys are -/
section
variable {prog : Program} {w : World} {A : Around} {E : Value → Shared → Prop} {s : Shared} {it d : Addr} {i ep : Nat} {es : Array DictEntry}
end
end PySem
namespace L2
open PySem PySem.Spec PyProof.Rows KG
section
variable {X : Cx}
end
end L2

set_option Elab.async false
set_option linter.all false
set_option maxRecDepth 100000
namespace L2
open PySem PySem.Spec PyProof.Rows KG
section
variable {X : Cx}
/-! ### for k in d, the keys tuples -/
end
section
variable {K : PySem.W.Frag} {tt : TT} {te tk tv : TE} {acc a b : Addr} {xs ys : List V} {σ₀ : St} {H₀ : Hp} {Q : VK} {o : Obj} {kvs : List (List Key × V)}
end
end L2
namespace PySem
section
variable {prog : Program} {w : World} {A : Around} {I : Addr} {fp wr : List Addr} {n : Nat} {P : Nat → Value → Prop} {St : Nat → Heap → Prop}

end
end PySem

set_option Elab.async false
set_option linter.all false
set_option maxRecDepth 100000
namespace L2
open PySem PySem.Spec PyProof.Rows
/-! the rules with the empty fragment: their readings have no letter of the fragment, so they stay alike at all depths -/
def K0 : PySem.W.Frag := []
section
variable {K : PySem.W.Frag} {H : Hp} {a : Addr} {xs : List V}
theorem SqL.k0 (h : SqL K0 H a xs) : SqL K H a xs := by
  rcases h with h | ⟨o, its, n, hk, _⟩
  · exact .inl h
  · exact absurd hk (by show ¬ (none = some o); simp)
theorem SqT.k0 (h : SqT K0 H a xs) : SqT K H a xs := by
  rcases h with h | ⟨o, its, n, hk, _⟩
  · exact .inl h
  · exact absurd hk (by show ¬ (none = some o); simp)
theorem Sq.k0 (h : SqL K0 H a xs ∨ SqT K0 H a xs) : SqL K H a xs ∨ SqT K H a xs := h.elim (fun z => .inl z.k0) fun z => .inr z.k0
mutual
theorem DtV.k0 : ∀ {v : V} {d : PyData}, DtV K0 H v d → DtV K H v d
  | _, _, .non => .non
  | _, _, .bl b => .bl b
  | _, _, .int i => .int i
  | _, _, .str x ok => .str x ok
  | _, _, .lst h t => .lst h.k0 (DtVs.k0 t)
  | _, _, .tup h t => .tup h.k0 (DtVs.k0 t)
theorem DtVs.k0 : ∀ {vs : List V} {ds : List PyData}, DtVs K0 H vs ds → DtVs K H vs ds
  | _, _, .nil => .nil
  | _, _, .cons h t => .cons (DtV.k0 h) (DtVs.k0 t)
end
end
section
variable {X : Cx} {tg l : Expr} {tl : TE}
theorem OpR.imp {f : Value → Value → Sem Value} {r r' : R2} (h : OpR X f r) (hi : ∀ x y H Q, r' x y H Q → r x y H Q) : OpR X f r' := fun pins s σ H x y v u Q I rx ry q => h pins s σ H x y v u Q I rx ry (hi _ _ _ _ q)
theorem CallR.imp {f : Value} {r r' : List V → Hp → VK → Prop} (h : CallR X f r) (hi : ∀ xs H Q, r' xs H Q → r xs H Q) : CallR X f r' := fun pins s σ H xs us Q I rx q => h pins s σ H xs us Q I rx (hi _ _ _ q)
theorem IxR.imp {r r' : R2} (h : IxR X r) (hi : ∀ x y H Q, r' x y H Q → r x y H Q) : IxR X r' := fun a b pins s σ H x y v u Q I rx ry q => h a b pins s σ H x y v u Q I rx ry (hi _ _ _ _ q)
theorem ixL0 : IxR X (rIxL K0) := ix_list.imp fun _ _ _ _ ⟨p, xs, i, v, e1, e2, h, e3, q⟩ => ⟨p, xs, i, v, e1, e2, h.k0, e3, q⟩
theorem ixT0 : IxR X (rIxT K0) := ix_tup.imp fun _ _ _ _ ⟨p, xs, i, v, e1, e2, h, e3, q⟩ => ⟨p, xs, i, v, e1, e2, h.k0, e3, q⟩
def rLen0 : List V → Hp → VK → Prop := fun xs H Q => ∃ p ys, xs = [.ref p] ∧ (SqL K0 H p ys ∨ SqT K0 H p ys) ∧ Q (.int ys.length) H
def rTup0 : List V → Hp → VK → Prop := fun xs H Q => ∃ p ys, xs = [.ref p] ∧ ((SqL K0 H p ys ∧ ∀ l, H l = none → Q (.ref l) (upd H l (.tup ys))) ∨ (SqT K0 H p ys ∧ Q (.ref p) H))
def rAny0 : List V → Hp → VK → Prop := fun xs H Q => ∃ p ys, xs = [.ref p] ∧ (SqL K0 H p ys ∨ SqT K0 H p ys) ∧ ys.all plainB = true ∧ Q (.bl (ys.any tv)) H
def rSum0 : List V → Hp → VK → Prop := fun xs H Q => ∃ (p : Addr) (ns : List Int), xs = [.ref p] ∧ (SqL K0 H p (ns.map V.int) ∨ SqT K0 H p (ns.map V.int)) ∧ Q (.int ns.sum) H
theorem cLen0 : CallR X (.builtin "len") rLen0 := call_len_seq.imp fun _ _ _ ⟨p, ys, e, h, q⟩ => ⟨p, ys, e, Sq.k0 h, q⟩
theorem cTup0 : CallR X (.type "tuple") rTup0 := call_tuple_of.imp fun _ _ _ ⟨p, ys, e, h⟩ => ⟨p, ys, e, h.elim (fun z => .inl ⟨z.1.k0, z.2⟩) fun z => .inr ⟨z.1.k0, z.2⟩⟩
theorem cAny0 (hc : X.calm = true) : CallR X (.builtin "any") rAny0 := (call_any hc).imp fun _ _ _ ⟨p, ys, e, h, q⟩ => ⟨p, ys, e, Sq.k0 h, q⟩
theorem cSum0 (hc : X.calm = true) : CallR X (.builtin "sum") rSum0 := (call_sum hc).imp fun _ _ _ ⟨p, ys, e, h, q⟩ => ⟨p, ys, e, Sq.k0 h, q⟩
theorem opEqD0 (hu : X.A.units + 64 < cLine) : OpR X (compareOp .Eq) (rEqD K0) := (op_eqD hu).imp fun _ _ _ _ ⟨dx, dy, h1, h2, q⟩ => ⟨dx, dy, h1.k0, h2.k0, q⟩
theorem opNeD0 (hu : X.A.units + 64 < cLine) : OpR X (compareOp .NotEq) (rNeD K0) := (op_neD hu).imp fun _ _ _ _ ⟨dx, dy, h1, h2, q⟩ => ⟨dx, dy, h1.k0, h2.k0, q⟩
theorem opIn0 : OpR X (compareOp .In) (rIn K0 false) := op_in_seq.imp fun _ _ _ _ ⟨p, xs, e, h, q⟩ => ⟨p, xs, e, Sq.k0 h, q⟩
theorem opNin0 : OpR X (compareOp .NotIn) (rIn K0 true) := op_notIn_seq.imp fun _ _ _ _ ⟨p, xs, e, h, q⟩ => ⟨p, xs, e, Sq.k0 h, q⟩
/-- iterators -/
structure It.Le (J J' : It) : Prop where
  go : ∀ i H, J'.go i H → J.go i H
  yld : ∀ i H x H', J.yld i H x H' → J'.yld i H x H'
  stop : ∀ i H, J'.stop i H → J.stop i H
theorem Turn.le {P : Program} {w : World} {K : PySem.W.Frag} {tg : Expr} {J J' : It} {fp : List Addr} {it : Addr} {tn : Nat → Heap → Prop} (T : Turn P w K tg J fp it tn) (l : J.Le J') : Turn P w K tg J' fp it tn where
  mem := T.mem
  obj := T.obj
  keep := T.keep
  item := fun X hP hw hK hc i pins s σ H E I hf st hg => thn (T.item X hP hw hK hc i pins s σ H E I hf st (l.go i H hg)) fun r s1 ⟨u, hr, h⟩ => ⟨u, hr, thn h fun _ s2 ⟨x, H', a1, a2, a3, a4⟩ => ⟨x, H', a1, a2, l.yld _ _ _ _ a3, a4⟩⟩
  done := fun X hP hw hK hc i pins s σ H E I hf st hg => T.done X hP hw hK hc i pins s σ H E I hf st (l.stop i H hg)
  self := T.self
theorem le_list {K : PySem.W.Frag} {a : Addr} : (Itl K a).Le (Itl K0 a) := ⟨fun i H ⟨xs, x, h, e⟩ => ⟨xs, x, h.k0, e⟩, fun i H x H' ⟨e, h⟩ => ⟨e, fun xs hx => h xs hx.k0⟩, fun i H ⟨xs, h, e⟩ => ⟨xs, h.k0, e⟩⟩
theorem le_tup {K : PySem.W.Frag} {a : Addr} : (Itt K a).Le (Itt K0 a) := ⟨fun i H ⟨xs, x, h, e⟩ => ⟨xs, x, h.k0, e⟩, fun i H x H' ⟨e, h⟩ => ⟨e, fun xs hx => h xs hx.k0⟩, fun i H ⟨xs, h, e⟩ => ⟨xs, h.k0, e⟩⟩
theorem le_enum {K : PySem.W.Frag} {a : Addr} : (Ite K a).Le (Ite K0 a) := ⟨fun i H ⟨xs, x, h, e⟩ => ⟨xs, x, h.k0, e⟩, fun i H x H' ⟨p, e1, e2, h⟩ => ⟨p, e1, e2, fun xs hx => h xs hx.k0⟩, fun i H ⟨xs, h, e⟩ => ⟨xs, h.k0, e⟩⟩
theorem le_zip {K : PySem.W.Frag} {a b : Addr} : (Itz K a b).Le (Itz K0 a b) := ⟨fun i H ⟨xs, ys, x, y, h1, h2, e⟩ => ⟨xs, ys, x, y, h1.k0, h2.k0, e⟩, fun i H x H' ⟨p, e1, e2, h⟩ => ⟨p, e1, e2, fun xs ys h1 h2 => h xs ys h1.k0 h2.k0⟩, fun i H ⟨xs, ys, h1, h2, e⟩ => ⟨xs, ys, h1.k0, h2.k0, e⟩⟩
theorem piL0 (hl : PE X l tl) : PI X tg l (iList K0 tl) := by
  intro pins s σ H R I h
  refine thn (hl pins s σ H _ I h) fun v s1 ⟨x, H1, I1, r1, a, e, ⟨xs, hq⟩, q⟩ => ?_
  subst e
  cases r1
  obtain ⟨its, rv, p, hz⟩ := I1.list hq.k0
  refine wpAny_pyIter_list p.isList ⟨s1.heap.objs.size, [s1.heap.objs.size], _, Itl K0 a, H1, rfl, I1.kept (t' := s1.toks) fun b o e => Heap.get?_push_of_some _ e, (turn_list (K := X.K) a _).le le_list, ⟨_, Heap.get?_push_size _ rfl, rfl, rfl⟩, fun b hb => ?_, q⟩
  obtain rfl : b = s1.heap.objs.size := by simpa using hb
  exact I1.fpOk (Nat.le_refl _) (I1.hok.fresh (Nat.le_refl _))
theorem piT0 (hl : PE X l tl) : PI X tg l (iTup K0 tl) := by
  intro pins s σ H R I h
  refine thn (hl pins s σ H _ I h) fun v s1 ⟨x, H1, I1, r1, a, e, ⟨xs, hq⟩, q⟩ => ?_
  subst e
  cases r1
  obtain ⟨its, rv, p, hz⟩ := I1.tuple hq.k0
  refine wpAny_pyIter_tuple (show s1.heap.IsTuple a its.toArray from p) ⟨s1.heap.objs.size, [s1.heap.objs.size], _, Itt K0 a, H1, rfl, I1.kept (t' := s1.toks) fun b o e => Heap.get?_push_of_some _ e, (turn_tuple (K := X.K) a _).le le_tup, ⟨_, Heap.get?_push_size _ rfl, rfl, rfl⟩, fun b hb => ?_, q⟩
  obtain rfl : b = s1.heap.objs.size := by simpa using hb
  exact I1.fpOk (Nat.le_refl _) (I1.hok.fresh (Nat.le_refl _))
theorem piEnum0 {a : Expr} {ta : TA} {p pos : Pos} {elts : List Expr} {kk} {tpos : Pos} (hg : Gl X "enumerate") (hm : X.mg "enumerate" = none) (hb : bootBuiltins "enumerate" = some (.type "enumerate")) (ha : PA X [a] ta) (hs : starEach [a] X.env = [(false, eval a X.env)] := by rfl) :
    PI X (.Tuple elts kk tpos) (.Call (.Name "enumerate" p) [a] [] pos) (iEnum K0 ta) := by
  intro pins s σ H R I h
  refine Call_ (ld_blt I hg hm hb (PyProof.Rows.callWith_type1 (thn (ha pos pins s σ H _ I h) fun us s1 ⟨vs, H1, I1, r1, t, e, ⟨xs, hq⟩, q⟩ => ?_) hs rfl))
  subst e
  obtain ⟨u, rfl, ru⟩ := vals1 r1
  cases ru
  obtain ⟨its, rv, pl, hz⟩ := I1.tuple hq.k0
  refine call_enumerate_tup (show s1.heap.IsTuple t its.toArray from pl) fun h' he hit hsz hk => wpAny_pyIter_enum he ?_
  refine ⟨s1.heap.objs.size + 1, [s1.heap.objs.size + 1, s1.heap.objs.size], _, Ite K0 t, H1, rfl, I1.kept (t' := s1.toks) hk, (turn_enum (K := X.K) t _ s1.heap.objs.size (Nat.succ_ne_self _)).le le_enum, ⟨⟨_, he⟩, hit⟩, fun b hb => ?_, q⟩
  rcases List.mem_cons.mp hb with rfl | hb
  · exact I1.fpOk (Nat.le_succ _) (I1.hok.fresh (Nat.le_succ _))
  · obtain rfl : b = s1.heap.objs.size := by simpa using hb
    exact I1.fpOk (Nat.le_refl _) I1.fresh
theorem pi_zip0 {a b : Expr} {ta : TA} {p pos : Pos} {elts : List Expr} {kk} {tpos : Pos} (hg : Gl X "zip") (hm : X.mg "zip" = none) (hb : bootBuiltins "zip" = some (.type "zip")) (ha : PA X [a, b] ta)
    (hs : starEach [a, b] X.env = [(false, eval a X.env), (false, eval b X.env)] := by rfl) (hs2 : starEach [b] X.env = [(false, eval b X.env)] := by rfl) : PI X (.Tuple elts kk tpos) (.Call (.Name "zip" p) [a, b] [] pos) (iZip K0 ta) := by
  intro pins s σ H R I h
  refine Call_ (ld_blt I hg hm hb (PyProof.Rows.callWith_type1 (thn (ha pos pins s σ H _ I h) fun us s1 ⟨vs, H1, I1, r1, q1⟩ => ?_) (by rw [hs, hs2]) (by rw [hs2]; rfl)))
  obtain ⟨x, y, e, ⟨xs, hq1⟩, ⟨ys, hq2⟩, q⟩ := q1
  subst e
  cases r1 with
  | cons r rr =>
    cases rr with
    | cons r' rr =>
      cases rr
      cases r
      cases r'
      obtain ⟨us, ru, pu, zu⟩ := I1.tuple hq1.k0
      obtain ⟨vs, rv, pv, zv⟩ := I1.tuple hq2.k0
      have a1 : x < s1.heap.objs.size := by obtain ⟨_, e, _⟩ := (show s1.heap.IsTuple x us.toArray from pu); exact Heap.lt_size e
      have a2 : y < s1.heap.objs.size := by obtain ⟨_, e, _⟩ := (show s1.heap.IsTuple y vs.toArray from pv); exact Heap.lt_size e
      refine call_zipT (show s1.heap.IsTuple x us.toArray from pu) (show s1.heap.IsTuple y vs.toArray from pv) fun g z0 pI pO n1 n2 hk => wpAny_pyIter_zip z0 ?_
      refine ⟨s1.heap.objs.size + 4, [s1.heap.objs.size + 4, s1.heap.objs.size + 2, s1.heap.objs.size + 3, s1.heap.objs.size, s1.heap.objs.size + 1], _, Itz K0 x y, H1, rfl, I1.kept (t' := s1.toks) hk, (turn_zip (K := X.K) x y _ _ _ _ _ (zipApart_new a1 a2)).le le_zip, ⟨z0, pI, ⟨_, _, pO⟩, n1, n2⟩, fun c hc => ?_, q⟩
      have hge : s1.heap.objs.size ≤ c := by
        simp only [List.mem_cons, List.not_mem_nil, or_false] at hc
        rcases hc with h | h | h | h | h <;> rw [h] <;> first | exact Nat.le_add_right _ _ | exact Nat.le_refl _
      exact I1.fpOk hge (I1.hok.fresh hge)
theorem pgTup0 {es : List Expr} {k : Nat} {t : TGs} {n : Nat} {pos : Pos} (hc : X.calm = true) (h : PGs X es t) (hn : (assignEach es X.env).length = n := by rfl) (hst : (assignEach es X.env).findIdx? (·.1) = none := by rfl) : PG X (.Tuple es k pos) (gTup K0 n t) :=
  fun pins s σ H v u Q I r ⟨a, xs, e, hq, q⟩ => pg_tup hc h hn hst pins s σ H v u Q I r ⟨a, xs, e, hq.k0, q⟩
theorem pgLst0 {es : List Expr} {k : Nat} {t : TGs} {n : Nat} {pos : Pos} (hc : X.calm = true) (h : PGs X es t) (hn : (assignEach es X.env).length = n := by rfl) (hst : (assignEach es X.env).findIdx? (·.1) = none := by rfl) : PG X (.Tuple es k pos) (gLst K0 n t) :=
  fun pins s σ H v u Q I r ⟨a, xs, e, hq, q⟩ => pg_lst hc h hn hst pins s σ H v u Q I r ⟨a, xs, e, hq.k0, q⟩
theorem tyV.k0 {K : PySem.W.Frag} {T : String} {x : V} {H : Hp} (h : tyV K0 T x H) : tyV K T x H := by
  cases x with
  | ref p =>
    rcases h with ⟨e, xs, h⟩ | ⟨e, o, hk, _⟩ | h | h
    · exact .inl ⟨e, xs, h.k0⟩
    · exact absurd hk (by show ¬ (none = some o); simp)
    · exact .inr (.inr (.inl h))
    · exact .inr (.inr (.inr h))
  | _ => exact h
variable {o e : Expr} {es : List Expr} {to : TE} {t : TA} {name : Str} {apos cpos : Pos} {T id : String} {r : V → List V → Hp → VK → Prop}
theorem peBm0 (pa : PlainAttrs T) (slot : Slot T name id) (hty : typeOf (.builtin id) = pure (.type "method_descriptor")) (hm : MtR X id r) (ho : PE X o to) (ha : PA X (e :: es) t)
    (hbase : attributeBase o name X.env (eval o X.env) = eval o X.env := by rfl)
    (hfew : ((backTo cpos (starEach (e :: es) X.env)).all (fun x => !x.1) && (backToKw cpos (keywordEach [] X.env)).all (fun x => x.1.isSome)
      && decide ((e :: es).length + ([] : List Keyword).length + (if ([] : List Keyword).isEmpty then 0 else 1) < 30)) = true := by rfl)
    (hline : (apos.endLine == cpos.line) = true := by rfl) (hs : starEach (e :: es) X.env = (false, eval e X.env) :: starEach es X.env := by rfl) (hplain : (backTo cpos (starEach es X.env)).any (·.1) = false := by rfl) :
    PE X (.Call (.Attribute o name apos) (e :: es) [] cpos) (tBM K0 T r to t) := by
  intro pins s σ H Q I h
  refine wpAny_Call_method_late hbase hfew hline rfl (thn (ho pins s σ H _ I h) fun v s1 ⟨x, H1, I1, r1, ty, q1⟩ => ?_)
  obtain ⟨h1, h2⟩ := tyV_is I1 r1 ty.k0
  refine ⟨T, id, pa, slot, hty, h1, h2, ?_⟩
  have hA := ha cpos pins s1 σ H1 _ I1 q1
  rw [hs] at hA ⊢
  exact Calls.callWith_builtin (by show (false || (backTo cpos (starEach es X.env)).any (·.1)) = false; rw [hplain] <;> rfl) (Calls.evalArgs_plain (thn hA fun us s2 ⟨vs, H2, I2, r2, q2⟩ => hm pins s2 σ H2 x vs v us Q I2 r1 r2 q2))
end
end L2

set_option Elab.async false
set_option linter.all false
set_option maxRecDepth 100000
set_option maxHeartbeats 4000000
namespace KM
open PySem L2 KG EX
theorem boot_zip : bootBuiltins "zip" = some (.type "zip") := by first | rfl | kernel_rfl | decide +kernel
/-! the rates: keys in order, values as fractions -/
end KM
namespace KM
open PySem L2 KG EX
end KM
namespace KM
open PySem L2 KG EX
end KM
namespace KM
open PySem L2 KG EX
end KM
namespace KM
open PySem L2 KG EX
theorem LsR.app {H : Hp} {ys : List V} {M : List (List Int)} (h : LsR H ys M) {a : Addr} {r : List Int} (ha : H a = some (.lst (r.map V.int))) : LsR H (ys ++ [.ref a]) (M ++ [r]) := by
  refine ⟨by simp [h.1], fun j y hy => ?_⟩
  rcases Nat.lt_or_ge j ys.length with z | z
  · rw [List.getElem?_append_left z] at hy
    obtain ⟨c, e, hc⟩ := h.2 j y hy
    refine ⟨c, e, ?_⟩
    have : (M ++ [r]).getD j [] = M.getD j [] := by simp [List.getD, List.getElem?_append_left (h.1 ▸ z)]
    rw [this]; exact hc
  · have : j = ys.length := by
      have := (List.getElem?_eq_some_iff.mp hy).1
      simp at this; omega
    subst this
    simp at hy
    subst hy
    refine ⟨a, rfl, ?_⟩
    have : (M ++ [r]).getD ys.length [] = r := by rw [h.1]; simp [List.getD]
    rw [this]; exact ha
theorem flat_ints (ns : List Int) : (ns.map V.int).all flatV = true := by
  rw [List.all_map]; simp [Function.comp_def, flatV]
theorem lsr_dt {K : PySem.W.Frag} {H : Hp} : ∀ {zs : List V} {M : List (List Int)}, LsR H zs M → DtVs K H zs (M.map fun r => PyData.list (r.map PyData.int))
  | [], [], _ => .nil
  | [], _ :: _, h => by have := h.1; simp at this
  | _ :: _, [], h => by have := h.1; simp at this
  | z :: zs, r :: M, h => by
    obtain ⟨a, e, ha⟩ := h.2 0 z rfl
    subst e
    have hr : (r :: M).getD 0 [] = r := rfl
    rw [hr] at ha
    refine .cons (.lst (SqL.of ha) (ints_tr (b := a) r).dt) (lsr_dt (zs := zs) (M := M) ⟨by simpa using h.1, fun j x hx => ?_⟩)
    obtain ⟨c, e, hc⟩ := h.2 (j + 1) x (by simpa using hx)
    exact ⟨c, e, by simpa [List.getD] using hc⟩
end KM
namespace KM
end KM

set_option Elab.async false
set_option linter.all false
set_option maxRecDepth 100000
set_option maxHeartbeats 4000000
namespace KM
open PySem L2 KG EX
end KM

set_option Elab.async false
set_option linter.all false
set_option maxRecDepth 100000
set_option maxHeartbeats 4000000
namespace KM
open PySem L2 KG EX
/-! greatest and least, shares, the first prices -/
/-- sets are sublists -/
theorem pickL_sub (ns : List Int) (mask : Nat) : (pickL ns mask).Sublist ns := by
  have e : ns = (List.range ns.length).map fun k => ns.getD k 0 := by
    refine List.ext_getElem (by simp) fun i h1 h2 => ?_
    simp [List.getD, List.getElem?_eq_getElem h1]
  have h : (pickL ns mask).Sublist ((List.range ns.length).map fun k => ns.getD k 0) := by
    unfold pickL
    exact List.Sublist.map _ List.filter_sublist
  rw [← e] at h; exact h
theorem setsL_sub {ns S : List Int} (h : S ∈ setsL ns) : S.Sublist ns := by
  unfold setsL at h
  obtain ⟨k, _, rfl⟩ := List.mem_map.mp h
  exact pickL_sub ns k
end KM

set_option Elab.async false
set_option linter.all false
set_option maxRecDepth 100000
set_option maxHeartbeats 4000000
namespace KM
open PySem L2 KG EX
section
variable {am : List Int} {ps qs : List Rat} {M : List (List Int)} {n : Nat}
end
end KM
namespace KM
open PySem L2 KG EX
end KM
namespace KM
open PySem L2 KG EX
end KM
namespace KM
open PySem L2 KG EX
end KM

set_option Elab.async false
set_option linter.all false
set_option maxRecDepth 100000
namespace L2
open PySem PySem.Spec PyProof.Rows

/-! ### a dict comprehension, keys tuples of ints and texts -/
section
variable {X : Cx} {scope : Scope} {own cap : List Str} {ix : List Nat} {tg iter kx vx : Expr} {ifs : List Expr} {wi : TI} {g : TG} {tt : TT} {tk tv : TE} {pos : Pos}

end


section
variable {X : Cx}
end

section
variable {X : Cx}
end
end L2

set_option Elab.async false
set_option linter.all false
set_option maxRecDepth 100000
namespace L2
open PySem PySem.Spec PyProof.Rows KG
section
variable {K : PySem.W.Frag} {tt : TT} {tk tv : TE} {a acc : Addr} {xs : List V} {σ₀ : St} {H₀ : Hp} {Q : VK}
end
end L2

set_option Elab.async false
set_option linter.all false
set_option maxRecDepth 100000
set_option maxHeartbeats 4000000
namespace KM
open PySem L2 KG EX
/-! ### sets in their order -/
theorem pickL_tb (ns : List Int) (mask : Nat) : pickL ns mask = ((List.range ns.length).filter fun k => Nat.testBit mask k).map fun k => ns.getD k 0 := by
  unfold pickL
  congr 1
  refine List.filter_congr fun k _ => ?_
  rw [Nat.testBit_eq_decide_div_mod_eq]
theorem pickL_lo {ns : List Int} {m : Int} {k : Nat} (h : k < 2 ^ ns.length) : pickL (ns ++ [m]) k = pickL ns k := by
  rw [pickL_tb, pickL_tb, List.length_append, List.length_singleton, List.range_succ, List.filter_append]
  have e : [ns.length].filter (fun j => Nat.testBit k j) = [] := by simp [List.filter, Nat.testBit_lt_two_pow h]
  rw [e, List.append_nil]
  refine List.map_congr_left fun j hj => ?_
  have hj' : j < ns.length := by simpa using (List.mem_filter.mp hj).1
  simp [List.getD, List.getElem?_append_left hj']
theorem pickL_hi {ns : List Int} {m : Int} {k : Nat} (h : k < 2 ^ ns.length) : pickL (ns ++ [m]) (2 ^ ns.length + k) = pickL ns k ++ [m] := by
  rw [pickL_tb, pickL_tb, List.length_append, List.length_singleton, List.range_succ, List.filter_append, List.map_append]
  have e : [ns.length].filter (fun j => Nat.testBit (2 ^ ns.length + k) j) = [ns.length] := by
    simp [List.filter, Nat.testBit_two_pow_add_eq, Nat.testBit_lt_two_pow h]
  rw [e]
  have e2 : (List.range ns.length).filter (fun j => Nat.testBit (2 ^ ns.length + k) j) = (List.range ns.length).filter (fun j => Nat.testBit k j) := by
    refine List.filter_congr fun j hj => ?_
    exact Nat.testBit_two_pow_add_gt (by simpa using hj) k
  rw [e2]
  congr 1
  · refine List.map_congr_left fun j hj => ?_
    have hj' : j < ns.length := by simpa using (List.mem_filter.mp hj).1
    simp [List.getD, List.getElem?_append_left hj']
  · simp [List.getD]
theorem setsL_snoc (ns : List Int) (m : Int) : setsL (ns ++ [m]) = setsL ns ++ (setsL ns).map fun s => s ++ [m] := by
  unfold setsL
  rw [List.length_append, List.length_singleton, Nat.pow_succ, Nat.mul_two, List.range_add, List.map_append, List.map_map, List.map_map]
  congr 1
  · exact List.map_congr_left fun k hk => pickL_lo (by simpa using hk)
  · exact List.map_congr_left fun k hk => pickL_hi (by simpa using hk)
theorem setsL_len (ns : List Int) : (setsL ns).length = 2 ^ ns.length := by unfold setsL; rw [List.length_map, List.length_range]
/-- all sublists, once -/
theorem mem_setsL {ns S : List Int} : S ∈ setsL ns ↔ S.Sublist ns := by
  constructor
  · exact setsL_sub
  · intro h
    revert S
    suffices H : ∀ (ms S : List Int), S.Sublist ms.reverse → S ∈ setsL ms.reverse by
      intro S h; have := H ns.reverse S; rw [List.reverse_reverse] at this; exact this h
    intro ms
    induction ms with
    | nil => intro S h; rw [List.reverse_nil] at h ⊢; rw [List.sublist_nil.mp h]; exact List.mem_singleton.mpr rfl
    | cons m ms ih =>
      intro S h
      rw [List.reverse_cons] at h ⊢
      rw [setsL_snoc]
      obtain ⟨a, b, rfl, ha, hb⟩ := List.sublist_append_iff.mp h
      rcases List.sublist_cons_iff.mp hb with hb | ⟨r, rfl, hr⟩
      · rw [List.sublist_nil.mp hb, List.append_nil]; exact List.mem_append_left _ (ih a ha)
      · rw [List.sublist_nil.mp hr]; exact List.mem_append_right _ (List.mem_map.mpr ⟨a, ih a ha, rfl⟩)
/-! ### sums over what some test picks -/
/-! ### sets of a list -/
theorem sub_eq {α : Type} [BEq α] [LawfulBEq α] : ∀ {S U : List α}, S.Sublist U → U.Nodup → U.filter (fun x => S.contains x) = S
  | _, _, .slnil, _ => rfl
  | _, _, .cons a h, nd => by
    have nd' := List.nodup_cons.mp nd
    rw [List.filter_cons_of_neg (by rw [List.contains_iff_mem]; exact fun z => nd'.1 (h.subset z))]
    exact sub_eq h nd'.2
  | _, _, .cons₂ (l₁ := S) (l₂ := U) a h, nd => by
    have nd' := List.nodup_cons.mp nd
    rw [List.filter_cons_of_pos (by rw [List.contains_iff_mem]; exact List.mem_cons_self)]
    congr 1
    rw [← sub_eq h nd'.2]
    refine List.filter_congr fun x hx => ?_
    rw [sub_eq h nd'.2, Bool.eq_iff_iff, List.contains_iff_mem, List.contains_iff_mem, List.mem_cons]
    constructor
    · rintro (rfl | z)
      · exact absurd hx nd'.1
      · exact z
    · exact .inr
theorem sub_ext {α : Type} [BEq α] [LawfulBEq α] {A B U : List α} (hA : A.Sublist U) (hB : B.Sublist U) (nd : U.Nodup) (h : ∀ x, x ∈ A ↔ x ∈ B) : A = B := by
  rw [← sub_eq hA nd, ← sub_eq hB nd]
  refine List.filter_congr fun x _ => ?_
  rw [Bool.eq_iff_iff, List.contains_iff_mem, List.contains_iff_mem, h x]
end KM

set_option Elab.async false
set_option linter.all false
set_option maxRecDepth 100000
set_option maxHeartbeats 4000000
namespace KM
open PySem L2 KG EX
/-! the money above the purses is what the lemma on sets asks -/
end KM

set_option Elab.async false
set_option linter.all false
set_option maxRecDepth 100000
namespace L2
open PySem PySem.Spec PyProof.Rows KG
section
variable {X : Cx}
theorem vals_of {f : Nat → V} : ∀ {n : Nat} {us : List Value}, us.length = n → (∀ (i : Nat) v, us[i]? = some v → RelV (f i) v) → Vals ((List.range n).map f) us := by
  intro n us
  induction us generalizing n f with
  | nil => intro h _; subst h; exact .nil
  | cons u us ih =>
    intro h hv
    subst h
    rw [List.length_cons, List.range_succ_eq_map, List.map_cons, List.map_map]
    exact .cons (hv 0 u rfl) (ih (f := f ∘ Nat.succ) rfl fun i v e => hv (i + 1) v (by simpa using e))
def rngOf (r : Addr) (j : Int) : HO := .ext fun h => ∃ t u v, IsRange h r 0 j 1 t u v
theorem call_rangeV : CallR X (.type "range") (fun xs H Q => ∃ j, xs = [.int j] ∧ ∀ r, H r = none → Q (.ref r) (upd H r (rngOf r j))) := by
  intro pins s σ H xs us Q I r h
  obtain ⟨j, rfl, q⟩ := h
  obtain ⟨u, rfl, t, rfl⟩ := vals1 r
  refine call_range_1 ⟨.ref s.heap.objs.size, _, I.laid (o := rngOf s.heap.objs.size j) (fun _ _ q => Heap.get?_push_of_some _ q) (Nat.le_refl _) ⟨⟨_, _, _, Heap.get?_push_size _ rfl⟩, ⟨_, Heap.get?_push_size _ rfl⟩, fun h1 h2 w1 hk => ?_⟩, rfl, q _ I.fresh⟩
  obtain ⟨a, b, c, e⟩ := w1
  exact ⟨a, b, c, hk _ e⟩
theorem call_list_rng (hc : X.calm = true) : CallR X (.type "list") (fun xs H Q => ∃ r j, xs = [.ref r] ∧ H r = some (rngOf r j) ∧ 0 ≤ j ∧ j ≤ 1000 ∧ ∀ l, H l = none → Q (.ref l) (upd H l (.lst ((List.range j.toNat).map fun i : Nat => V.int (i : Int))))) := by
  intro pins s σ H xs us Q I r h
  obtain ⟨a, j, rfl, hv, h0, h1, q⟩ := h
  obtain ⟨u, rfl, rx⟩ := vals1 r
  cases rx
  obtain ⟨t1, t2, t3, hr⟩ := (I.hok a _ hv).1
  refine call_list_range (n := j.toNat) (I.ok.hd hc) hr (small_one (by decide) (by decide) (by omega) (by omega)) (by rw [rangeSize_one]; split <;> omega) (by omega) fun h' tk acc c' hk hD hacc => ?_
  have hvs : Vals ((List.range j.toNat).map fun i : Nat => V.int (i : Int)) acc.toList := vals_of (by rw [Array.length_toList]; exact hacc.1) fun i v e => by
    obtain ⟨t, rfl⟩ := hacc.2 i v (by rw [← Array.getElem?_toList]; exact e)
    exact ⟨t, by congr 1; omega⟩
  have hs := line63
  refine ⟨.ref s.heap.objs.size, _, I.laid (t' := tk) (o := .lst ((List.range j.toNat).map fun i : Nat => V.int (i : Int))) hk (Nat.le_refl _) ⟨by rw [List.length_map, List.length_range]; show _ ≤ sizeLine; exact Nat.le_trans (show j.toNat ≤ 1000 by omega) (by decide), acc.toList, c', hvs, ?_⟩, rfl, q _ I.fresh⟩
  simpa using hD
def rSort0 : List V → Hp → VK → Prop := fun xs H Q => ∃ (p : Addr) (ns : List Int), xs = [.ref p] ∧ SqL K0 H p (ns.map V.int) ∧ ns.length < 64 ∧ ∀ (ns' : List Int) (l : Addr), ns'.Perm ns → ns'.Pairwise (fun a b => a ≤ b) → H l = none → Q (.ref l) (upd H l (.lst (ns'.map V.int)))
theorem call_sorted0 : CallR X (.builtin "sorted") rSort0 := by
  intro pins s σ H xs us Q I r h
  obtain ⟨p, ns, rfl, hp, h64, q⟩ := h
  obtain ⟨u, rfl, rx⟩ := vals1 r
  cases rx
  obtain ⟨its, rv, pl, hz⟩ := I.list hp.k0
  have hl := rv.length
  rw [List.length_map] at hl
  refine sorted_ints pl.isList (intsAre_of rv) (by omega) fun out ns' hi hperm hpw => ?_
  obtain ⟨e, he⟩ := sortedAll_at s.heap its out
  have hlen : ns'.length = ns.length := hperm.length_eq
  refine ⟨.ref (s.heap.objs.size + 1), _, I.laid (t' := s.toks) (o := .lst (ns'.map V.int)) (fun _ _ q => sortedAll_old q) (Nat.le_succ _) ⟨by rw [List.length_map, hlen]; exact Nat.le_trans (show ns.length ≤ 64 by omega) (by decide), out.toList, e, vals_ints hi, ?_⟩, rfl, q ns' _ hperm hpw (I.hok.fresh (Nat.le_succ _))⟩
  simpa [seqObj] using he
end
end L2
namespace KM
open PySem L2
theorem boot_sorted : bootBuiltins "sorted" = some (.builtin "sorted") := by first | rfl | kernel_rfl | decide +kernel
theorem boot_range' : bootBuiltins "range" = some (.type "range") := by first | rfl | kernel_rfl | decide +kernel
end KM

set_option Elab.async false
set_option linter.all false
set_option maxRecDepth 100000
set_option maxHeartbeats 4000000
namespace KM
open PySem L2 KG EX
section
variable {K : PySem.W.Frag} {n : Nat} {tt : TT} {te : TE} {acc a b : Addr} {xs ys : List V} {σ₀ : St} {H₀ : Hp} {Q : VK}
theorem filt_snoc {α : Type} (f : Nat → Bool) (v : Nat → α) (i : Nat) : ((List.range (i + 1)).filter f).map v = ((List.range i).filter f).map v ++ if f i = true then [v i] else [] := by
  rw [filter_succ, List.map_append]
  congr 1
  split <;> simp_all
theorem filt_len {α : Type} (f : Nat → Bool) (v : Nat → α) (i : Nat) : (((List.range i).filter f).map v).length ≤ i := by
  have h := List.length_filter_le f (List.range i)
  rw [List.length_range] at h
  rw [List.length_map]; exact h
/-- a comprehension over range(n) that only reads -/
theorem pr_range (f : Nat → Bool) (v : Nat → V) (hacc : H₀ acc = none) (hn : n ≤ 1000)
    (ht : ∀ (i : Nat) H Z, i < n → Stay H₀ H → (∀ H', Stay H H' → Z (f i) H') → tt (σ₀.set 0 (some (.int i))) H Z)
    (he : ∀ (i : Nat) H (Z : VK), i < n → f i = true → Stay H₀ H → (∀ H', Stay H H' → Z (v i) H') → te (σ₀.set 0 (some (.int i))) H Z)
    (hd : ∀ H, Stay H₀ H → H acc = some (.lst (((List.range n).filter f).map v)) → Q (.ref acc) H) : tCompN (gName 0) tt te (Itr 0 n) acc σ₀ H₀ Q := by
  refine comp_range (fun i ys H' => Stay H₀ H' ∧ ys = ((List.range i).filter f).map v) ⟨(Stay.refl H₀).acc hacc, rfl⟩ ?_ (fun ys H hy ⟨s, e⟩ => hd H s (e ▸ hy))
  rintro i ys H hi hy ⟨s, rfl⟩
  have e0 : (0 + (i : Int)) = (i : Int) := Int.zero_add _
  rw [e0]
  refine ht i H _ hi s fun H' s' => ?_
  cases hf : f i with
  | true =>
    refine iteT (he i H' _ hi hf (s.trans s') fun H2 s2 => ⟨_, (s'.trans s2) _ _ hy, ?_, Cn.of upd_same ⟨((s.trans s').trans s2).acc hacc, ?_⟩⟩)
    · have := filt_len f v i; rw [sz]; omega
    · rw [filt_snoc, hf, if_pos rfl]
  | false => exact iteF (Cn.of (s' _ _ hy) ⟨s.trans s', by rw [filt_snoc, hf, if_neg (by decide), List.append_nil]⟩)
theorem pr_list (f : Nat → Bool) (v : Nat → V) (hacc : H₀ acc = none) (hn : xs.length ≤ 1000) (hl : H₀ a = some (.lst xs))
    (ht : ∀ (i : Nat) x H Z, xs[i]? = some x → Stay H₀ H → (∀ H', Stay H H' → Z (f i) H') → tt (σ₀.set 0 (some x)) H Z)
    (he : ∀ (i : Nat) x H (Z : VK), xs[i]? = some x → f i = true → Stay H₀ H → (∀ H', Stay H H' → Z (v i) H') → te (σ₀.set 0 (some x)) H Z)
    (hd : ∀ H, Stay H₀ H → H acc = some (.lst (((List.range xs.length).filter f).map v)) → Q (.ref acc) H) : tCompN (gName 0) tt te (Itl K a) acc σ₀ H₀ Q := by
  refine comp_list (xs := xs) (fun i ys H' => Stay H₀ H' ∧ ys = ((List.range i).filter f).map v) ⟨(Stay.refl H₀).acc hacc, rfl⟩ (fun i ys H' _ _ z => SqL.of (z.1 _ _ hl)) ?_ (fun ys H hy ⟨s, e⟩ => hd H s (e ▸ hy))
  rintro i x ys H hx hy ⟨s, rfl⟩
  have hi : i < xs.length := (List.getElem?_eq_some_iff.mp hx).1
  refine ht i x H _ hx s fun H' s' => ?_
  cases hf : f i with
  | true =>
    refine iteT (he i x H' _ hx hf (s.trans s') fun H2 s2 => ⟨_, (s'.trans s2) _ _ hy, ?_, Cn.of upd_same ⟨((s.trans s').trans s2).acc hacc, ?_⟩⟩)
    · have := filt_len f v i; rw [sz]; omega
    · rw [filt_snoc, hf, if_pos rfl]
  | false => exact iteF (Cn.of (s' _ _ hy) ⟨s.trans s', by rw [filt_snoc, hf, if_neg (by decide), List.append_nil]⟩)
theorem pr_tup (f : Nat → Bool) (v : Nat → V) (hacc : H₀ acc = none) (hn : xs.length ≤ 1000) (hl : H₀ a = some (.tup xs))
    (ht : ∀ (i : Nat) x H Z, xs[i]? = some x → Stay H₀ H → (∀ H', Stay H H' → Z (f i) H') → tt (σ₀.set 0 (some x)) H Z)
    (he : ∀ (i : Nat) x H (Z : VK), xs[i]? = some x → f i = true → Stay H₀ H → (∀ H', Stay H H' → Z (v i) H') → te (σ₀.set 0 (some x)) H Z)
    (hd : ∀ H, Stay H₀ H → H acc = some (.lst (((List.range xs.length).filter f).map v)) → Q (.ref acc) H) : tCompN (gName 0) tt te (Itt K a) acc σ₀ H₀ Q := by
  refine comp_tup (xs := xs) (fun i ys H' => Stay H₀ H' ∧ ys = ((List.range i).filter f).map v) ⟨(Stay.refl H₀).acc hacc, rfl⟩ (fun i ys H' _ _ z => SqT.of (z.1 _ _ hl)) ?_ (fun ys H hy ⟨s, e⟩ => hd H s (e ▸ hy))
  rintro i x ys H hx hy ⟨s, rfl⟩
  have hi : i < xs.length := (List.getElem?_eq_some_iff.mp hx).1
  refine ht i x H _ hx s fun H' s' => ?_
  cases hf : f i with
  | true =>
    refine iteT (he i x H' _ hx hf (s.trans s') fun H2 s2 => ⟨_, (s'.trans s2) _ _ hy, ?_, Cn.of upd_same ⟨((s.trans s').trans s2).acc hacc, ?_⟩⟩)
    · have := filt_len f v i; rw [sz]; omega
    · rw [filt_snoc, hf, if_pos rfl]
  | false => exact iteF (Cn.of (s' _ _ hy) ⟨s.trans s', by rw [filt_snoc, hf, if_neg (by decide), List.append_nil]⟩)
theorem pr_enum (f : Nat → Bool) (v : Nat → V) (hacc : H₀ acc = none) (hn : xs.length ≤ 1000) (hl : H₀ a = some (.tup xs))
    (ht : ∀ (i : Nat) x H Z, xs[i]? = some x → Stay H₀ H → (∀ H', Stay H H' → Z (f i) H') → tt ((σ₀.set 0 (some (.int i))).set 1 (some x)) H Z)
    (he : ∀ (i : Nat) x H (Z : VK), xs[i]? = some x → f i = true → Stay H₀ H → (∀ H', Stay H H' → Z (v i) H') → te ((σ₀.set 0 (some (.int i))).set 1 (some x)) H Z)
    (hd : ∀ H, Stay H₀ H → H acc = some (.lst (((List.range xs.length).filter f).map v)) → Q (.ref acc) H) : tCompN (g2 K) tt te (Ite K a) acc σ₀ H₀ Q := by
  refine comp_enum (xs := xs) (fun i ys H' => Stay H₀ H' ∧ ys = ((List.range i).filter f).map v) ⟨(Stay.refl H₀).acc hacc, rfl⟩ (fun i ys H' _ _ z => SqT.of (z.1 _ _ hl)) ?_ (fun ys H hy ⟨s, e⟩ => hd H s (e ▸ hy))
  rintro i x ys H H1 hx hy ⟨s, rfl⟩ s1
  have hi : i < xs.length := (List.getElem?_eq_some_iff.mp hx).1
  refine ht i x H1 _ hx (s.trans s1) fun H' s0 => ?_
  have s' := s1.trans s0
  cases hf : f i with
  | true =>
    refine iteT (he i x H' _ hx hf (s.trans s') fun H2 s2 => ⟨_, (s'.trans s2) _ _ hy, ?_, Cn2.of upd_same ⟨((s.trans s').trans s2).acc hacc, ?_⟩⟩)
    · have := filt_len f v i; rw [sz]; omega
    · rw [filt_snoc, hf, if_pos rfl]
  | false => exact iteF (Cn2.of (s' _ _ hy) ⟨s.trans s', by rw [filt_snoc, hf, if_neg (by decide), List.append_nil]⟩)
theorem pr_zip (f : Nat → Bool) (v : Nat → V) (hlen : xs.length = ys.length) (hacc : H₀ acc = none) (hn : xs.length ≤ 1000) (hl : H₀ a = some (.tup xs)) (hl2 : H₀ b = some (.tup ys))
    (ht : ∀ (i : Nat) x y H Z, xs[i]? = some x → ys[i]? = some y → Stay H₀ H → (∀ H', Stay H H' → Z (f i) H') → tt ((σ₀.set 0 (some x)).set 1 (some y)) H Z)
    (he : ∀ (i : Nat) x y H (Z : VK), xs[i]? = some x → ys[i]? = some y → f i = true → Stay H₀ H → (∀ H', Stay H H' → Z (v i) H') → te ((σ₀.set 0 (some x)).set 1 (some y)) H Z)
    (hd : ∀ H, Stay H₀ H → H acc = some (.lst (((List.range xs.length).filter f).map v)) → Q (.ref acc) H) : tCompN (g2 K) tt te (Itz K a b) acc σ₀ H₀ Q := by
  refine comp_zip (xs := xs) (ys := ys) (fun i zs H' => Stay H₀ H' ∧ zs = ((List.range i).filter f).map v) hlen ⟨(Stay.refl H₀).acc hacc, rfl⟩ (fun i zs H' _ _ z => ⟨SqT.of (z.1 _ _ hl), SqT.of (z.1 _ _ hl2)⟩) ?_ (fun zs H hy ⟨s, e⟩ => hd H s (e ▸ hy))
  rintro i x y zs H H1 hx hyy hy ⟨s, rfl⟩ s1
  have hi : i < xs.length := (List.getElem?_eq_some_iff.mp hx).1
  refine ht i x y H1 _ hx hyy (s.trans s1) fun H' s0 => ?_
  have s' := s1.trans s0
  cases hf : f i with
  | true =>
    refine iteT (he i x y H' _ hx hyy hf (s.trans s') fun H2 s2 => ⟨_, (s'.trans s2) _ _ hy, ?_, Cn2.of upd_same ⟨((s.trans s').trans s2).acc hacc, ?_⟩⟩)
    · have := filt_len f v i; rw [sz]; omega
    · rw [filt_snoc, hf, if_pos rfl]
  | false => exact iteF (Cn2.of (s' _ _ hy) ⟨s.trans s', by rw [filt_snoc, hf, if_neg (by decide), List.append_nil]⟩)
/-- a comprehension over a list with draws from the bag -/
theorem comp_bagL {H1 : Hp} (hb1 : Bag H1 b) (hacc : H1 acc = none) (hn : xs.length ≤ 100) (ha : H1 a = some (.lst xs)) (nab : a ≠ b) (R : Nat → V → Prop)
    (ht : ∀ (i : Nat) x H', xs[i]? = some x → Bag H' b → Kp b H1 H' → ∀ (Z : V → Hp → Prop), (∀ y H5, Bag H5 b → Kp b H' H5 → R i y → Z y H5) → te (σ₀.set 0 (some x)) H' Z)
    (hd : ∀ ys H', Bag H' b → Kp b H1 H' → ys.length = xs.length → (∀ i y, ys[i]? = some y → R i y) → H' acc = some (.lst ys) → Q (.ref acc) H') : tCompN (gName 0) tYes te (Itl K a) acc σ₀ H1 Q := by
  have nacc := hb1.ne hacc
  refine comp_list (xs := xs) (fun i ys H' => Bag H' b ∧ Kp b H1 H' ∧ ys.length = i ∧ ∀ j y, ys[j]? = some y → R j y) ⟨hb1.new hacc, (Kp.refl b H1).new hacc, rfl, fun j y hy => by simp at hy⟩ (fun i ys H' _ _ z => SqL.of (z.2.1 _ _ nab ha)) ?_ ?_
  · rintro i x ys H' hx hy ⟨hb', kp', hl, hr⟩
    have hi : i < xs.length := (List.getElem?_eq_some_iff.mp hx).1
    refine yes_i ?_
    refine ht i x H' hx hb' kp' _ fun y H5 hb5 kp5 r5 => ?_
    have hy5 := kp5 acc _ nacc.symm hy
    refine ⟨ys, hy5, by rw [hl, sz]; omega, Cn.of upd_same ⟨hb5.acc nacc, (kp'.trans kp5).acc hacc, by rw [List.length_append, hl]; rfl, fun j z hz => ?_⟩⟩
    rcases Nat.lt_or_ge j ys.length with q | q
    · rw [List.getElem?_append_left q] at hz; exact hr j z hz
    · have ej : j = ys.length := by have := (List.getElem?_eq_some_iff.mp hz).1; simp at this; omega
      subst ej
      simp at hz
      subst hz
      rw [hl]; exact r5
  · rintro ys H' hy ⟨hb', kp', hl, hr⟩
    exact hd ys H' hb' kp' hl hr hy
end
theorem idx_all {α : Type} (ls : List α) (d : α) : (List.range ls.length).map (fun i => ls.getD i d) = ls := by
  apply List.ext_getElem?
  intro i
  rw [List.getElem?_map]
  by_cases h : i < ls.length
  · rw [List.getElem?_range h]; simp [List.getD, List.getElem?_eq_getElem h]
  · rw [List.getElem?_eq_none (by simpa using h), List.getElem?_eq_none (by omega)]; rfl
theorem idx_filt {α β : Type} (ls : List α) (F : α → Bool) (G : α → β) (d : α) : ((List.range ls.length).filter fun i => F (ls.getD i d)).map (fun i => G (ls.getD i d)) = (ls.filter F).map G := by
  conv => rhs; rw [← idx_all ls d, List.filter_map, List.map_map]
  rfl
theorem getD_of {α : Type} {ls : List α} {i : Nat} {y d : α} (h : ls[i]? = some y) : ls.getD i d = y := by simp [List.getD, h]
theorem ints_get {ns : List Int} {i : Nat} {x : V} (h : (ns.map V.int)[i]? = some x) : i < ns.length ∧ x = V.int (ns.getD i 0) := by
  rw [List.getElem?_map] at h
  cases e : ns[i]? with
  | none => rw [e] at h; cases h
  | some n =>
    rw [e] at h
    exact ⟨(List.getElem?_eq_some_iff.mp e).1, by rw [getD_of e]; simpa using h.symm⟩
theorem in_ints (ns : List Int) (x : Int) : inV (V.int x) (ns.map V.int) = ns.contains x := by
  have h : inV (V.int x) (ns.map V.int) = ns.any fun h => decide (h = x) := by
    unfold inV
    rw [List.any_map]
    congr 1
  rw [h, List.contains_eq_any_beq]
  congr 1
  funext y
  by_cases z : y = x
  · subst z; simp
  · have : ¬ x = y := fun h => z h.symm
    simp [z, this]
end KM

set_option Elab.async false
set_option linter.all false
set_option maxRecDepth 100000
set_option maxHeartbeats 4000000
namespace KM
open PySem L2 KG EX
/-! ### barters -/
def ent (M : List (List Int)) (i j : Nat) : Int := (M.getD i []).getD j 0
def posM (M : List (List Int)) (h : Int) (j : Nat) : Bool := decide (0 < ent M h.toNat j)
def rangeI (n : Nat) : List Int := (List.range n).map fun i : Nat => (i : Int)
theorem mem_rangeI {n : Nat} {x : Int} : x ∈ rangeI n ↔ 0 ≤ x ∧ x < n := by
  unfold rangeI
  rw [List.mem_map]
  constructor
  · rintro ⟨i, hi, rfl⟩
    have := List.mem_range.mp hi
    omega
  · rintro ⟨h0, h1⟩
    exact ⟨x.toNat, List.mem_range.mpr (by omega), by omega⟩
theorem rangeI_len (n : Nat) : (rangeI n).length = n := by unfold rangeI; rw [List.length_map, List.length_range]
theorem rangeI_nodup (n : Nat) : (rangeI n).Nodup := by
  unfold rangeI
  exact List.Pairwise.map _ (fun a b h e => h (by omega)) List.nodup_range
structure BtAt (H : Hp) (p pB pW : Addr) (xB xW : List V) (B W : List (List Int)) (g : Nat) : Prop where
  hp : H p = some (.tup [.ref pB, .ref pW])
  hB : H pB = some (.tup xB)
  hW : H pW = some (.tup xW)
  rB : Rws H xB B
  rW : Rws H xW W
  len : W.length = B.length
  n1 : 1 ≤ B.length
  n6 : B.length ≤ 6
  g1 : 1 ≤ g
  g6 : g ≤ 6
  lB : ∀ r ∈ B, r.length = g
  lW : ∀ r ∈ W, r.length = g
theorem BtAt.stay {H H' : Hp} {p pB pW : Addr} {xB xW : List V} {B W : List (List Int)} {g : Nat} (m : BtAt H p pB pW xB xW B W g) (s : Stay H H') : BtAt H' p pB pW xB xW B W g :=
  ⟨s _ _ m.hp, s _ _ m.hB, s _ _ m.hW, m.rB.keep s.tm, m.rW.keep s.tm, m.len, m.n1, m.n6, m.g1, m.g6, m.lB, m.lW⟩
/-- a row of a table -/
theorem rws_row {H : Hp} {xs : List V} {M : List (List Int)} {i : Nat} (r : Rws H xs M) (hi : i < M.length) : ∃ a, xs[i]? = some (.ref a) ∧ atI xs i = some (.ref a) ∧ H a = some (.tup ((M.getD i []).map V.int)) := by
  have hx : i < xs.length := by rw [r.len]; exact hi
  obtain ⟨ns, a, h1, h2, h3⟩ := r.at (List.getElem?_eq_getElem hx)
  have e : xs[i]? = some (.ref a) := by rw [List.getElem?_eq_getElem hx, h2]
  exact ⟨a, e, atI_nat e, by rw [getD_of h1]; exact h3⟩
theorem row_len {M : List (List Int)} {g i : Nat} (h : ∀ r ∈ M, r.length = g) (hi : i < M.length) : (M.getD i []).length = g := by
  rw [show M.getD i [] = M[i] by simp [List.getD, List.getElem?_eq_getElem hi]]
  exact h _ (List.getElem_mem hi)
/-- t[h][j] -/
theorem ix2_read {i j k : Nat} {σ : St} {H : Hp} {Q : VK} {pB : Addr} {xB : List V} {B : List (List Int)} {g : Nat} {h : Int} {c : Nat} (hB : H pB = some (.tup xB)) (r : Rws H xB B) (h0 : 0 ≤ h) (hh : h < B.length) (hr : ∀ r ∈ B, r.length = g) (hc : c < g)
    (e1 : σ[i]? = some (some (.ref pB))) (e2 : σ[j]? = some (some (.int h))) (e3 : σ[k]? = some (some (.int (c : Nat)))) (q : Q (.int (ent B h.toNat c)) H) :
    tOp (rIxT K0) (tOp (rIxT K0) (tVar i) (tVar j)) (tVar k) σ H Q := by
  have hn : h.toNat < B.length := by omega
  obtain ⟨a, _, ea, ha⟩ := rws_row r hn
  have eh : ((h.toNat : Nat) : Int) = h := by omega
  rw [eh] at ea
  have hl := row_len hr hn
  obtain ⟨eb, _, _⟩ := atI_ints (ns := B.getD h.toNat []) (r := (c : Int)) (by omega) (by omega)
  rw [Int.toNat_natCast] at eb
  exact ⟨_, e1, _, e2, pB, _, _, _, rfl, rfl, SqT.of hB, ea, _, e3, a, _, _, _, rfl, rfl, SqT.of ha, eb, q⟩
/-! what the document has -/
def shutB (B W : List (List Int)) (g : Nat) (s : List Int) : Bool := (List.range g).all fun j => !(s.any fun h => posM W h j) || !((List.range B.length).any fun h => posM B (h : Nat) j && !s.contains ((h : Nat) : Int))
def barG (B W : List (List Int)) (g : Nat) (s : List Int) : List Nat := (List.range g).filter fun j => (s.any fun h => posM B h j) && !(s.any fun h => posM W h j)
def needB (B W : List (List Int)) (g : Nat) (h o : Int) : Bool := (List.range g).any fun j => posM B o j && posM W h j
def mineL (B W : List (List Int)) (g : Nat) (h : Int) : List (List Int) := ((setsL (rangeI B.length)).filter fun s => !s.isEmpty && shutB B W g s).filter fun s => s.contains h
def clo (B W : List (List Int)) (g : Nat) (h : Int) : List Int := (rangeI B.length).filter fun o => (mineL B W g h).all fun s => s.contains o
def dueD (B W : List (List Int)) (g : Nat) : PyData :=
  match (List.range B.length).find? fun h => !(barG B W g (clo B W g (h : Nat))).isEmpty with
  | none => .none
  | some h => .tuple [.tuple ((clo B W g (h : Nat)).map PyData.int), .int (((barG B W g (clo B W g (h : Nat))).getD 0 0 : Nat) : Int)]
theorem shut_iff {B W : List (List Int)} {g : Nat} {s : List Int} : shutB B W g s = true ↔ ∀ h ∈ s, ∀ o, 0 ≤ o → o < (B.length : Int) → needB B W g h o = true → o ∈ s := by
  unfold shutB needB
  rw [List.all_eq_true]
  constructor
  · intro a h hh o o0 o1 hn
    obtain ⟨j, hj, hp⟩ := List.any_eq_true.mp hn
    rw [Bool.and_eq_true] at hp
    have := a j hj
    rw [Bool.or_eq_true, Bool.not_eq_true', Bool.not_eq_true', List.any_eq_false, List.any_eq_false] at this
    rcases this with z | z
    · exact absurd hp.2 (z h hh)
    · have y := z o.toNat (List.mem_range.mpr (by omega))
      rw [show ((o.toNat : Nat) : Int) = o by omega, hp.1] at y
      simpa using y
  · intro a j hj
    rw [Bool.or_eq_true, Bool.not_eq_true', Bool.not_eq_true', List.any_eq_false, List.any_eq_false]
    by_cases z : ∃ h ∈ s, posM W h j = true
    · obtain ⟨h, hh, hw⟩ := z
      refine .inr fun o ho hp => ?_
      rw [Bool.and_eq_true] at hp
      have ho' := List.mem_range.mp ho
      have := a h hh (o : Int) (by omega) (by omega) (List.any_eq_true.mpr ⟨j, hj, by rw [Bool.and_eq_true]; exact ⟨hp.1, hw⟩⟩)
      simp [this] at hp
    · exact .inl fun h hh hw => z ⟨h, hh, hw⟩
theorem mem_mine {B W : List (List Int)} {g : Nat} {h : Int} {s : List Int} : s ∈ mineL B W g h ↔ s.Sublist (rangeI B.length) ∧ shutB B W g s = true ∧ h ∈ s := by
  unfold mineL
  rw [List.mem_filter, List.mem_filter, mem_setsL]
  constructor
  · rintro ⟨⟨h1, h2⟩, h3⟩
    rw [Bool.and_eq_true] at h2
    exact ⟨h1, h2.2, by simpa using h3⟩
  · rintro ⟨h1, h2, h3⟩
    refine ⟨⟨h1, ?_⟩, by simpa using h3⟩
    rw [Bool.and_eq_true]
    refine ⟨?_, h2⟩
    cases s with
    | nil => cases h3
    | cons _ _ => rfl
theorem all_mine {B W : List (List Int)} {g : Nat} {h : Int} (h0 : 0 ≤ h) (h1 : h < (B.length : Int)) : rangeI B.length ∈ mineL B W g h :=
  mem_mine.mpr ⟨List.Sublist.refl _, shut_iff.mpr fun _ _ o o0 o1 _ => mem_rangeI.mpr ⟨o0, o1⟩, mem_rangeI.mpr ⟨h0, h1⟩⟩
/-- what lies in all of them, picked from the first -/
theorem least_clo {B W : List (List Int)} {g : Nat} {h : Int} (h0 : 0 ≤ h) (h1 : h < (B.length : Int)) : ((mineL B W g h).getD 0 []).filter (fun o => (mineL B W g h).all fun s => s.contains o) = clo B W g h := by
  have hm := all_mine (W := W) (g := g) h0 h1
  cases e : mineL B W g h with
  | nil => rw [e] at hm; cases hm
  | cons s ss =>
    have hs : s ∈ mineL B W g h := by rw [e]; exact List.mem_cons_self
    obtain ⟨sl, _, _⟩ := mem_mine.mp hs
    unfold clo
    rw [e]
    show s.filter _ = _
    refine sub_ext (U := rangeI B.length) (List.Sublist.trans List.filter_sublist sl) List.filter_sublist (rangeI_nodup _) fun x => ?_
    rw [List.mem_filter, List.mem_filter]
    constructor
    · rintro ⟨a, b⟩; exact ⟨sl.subset a, b⟩
    · rintro ⟨a, b⟩
      refine ⟨?_, b⟩
      have := (List.all_eq_true.mp b) s List.mem_cons_self
      simpa using this
theorem mem_clo {B W : List (List Int)} {g : Nat} {h x : Int} : x ∈ clo B W g h ↔ (0 ≤ x ∧ x < (B.length : Int)) ∧ ∀ s ∈ mineL B W g h, x ∈ s := by
  unfold clo
  rw [List.mem_filter, mem_rangeI, List.all_eq_true]
  constructor
  · rintro ⟨a, b⟩; exact ⟨a, fun s hs => by simpa using b s hs⟩
  · rintro ⟨a, b⟩; exact ⟨a, fun s hs => by simpa using b s hs⟩
/-- the found hands, closed, put in order -/
theorem clo_of {B W : List (List Int)} {g : Nat} {h : Int} {F S : List Int} (nd : F.Nodup) (hF : ∀ x ∈ F, x ∈ clo B W g h) (hh : h ∈ F) (cl : ∀ x ∈ F, ∀ o, 0 ≤ o → o < (B.length : Int) → needB B W g x o = true → o ∈ F) (hp : S.Perm F) (hs : S.Pairwise fun a b => a ≤ b) : S = clo B W g h := by
  have ndS : S.Nodup := hp.nodup_iff.mpr nd
  have hin : ∀ x ∈ F, 0 ≤ x ∧ x < (B.length : Int) := fun x hx => (mem_clo.mp (hF x hx)).1
  -- the set as a sublist
  have hmine : (rangeI B.length).filter (fun x => F.contains x) ∈ mineL B W g h := by
    refine mem_mine.mpr ⟨List.filter_sublist, shut_iff.mpr fun x hx o o0 o1 hn => ?_, ?_⟩
    · have hxF : x ∈ F := by simpa using (List.mem_filter.mp hx).2
      have := cl x hxF o o0 o1 hn
      exact List.mem_filter.mpr ⟨mem_rangeI.mpr ⟨o0, o1⟩, by simpa using this⟩
    · exact List.mem_filter.mpr ⟨mem_rangeI.mpr (hin h hh), by simpa using hh⟩
  have hmem : ∀ x, x ∈ S ↔ x ∈ clo B W g h := fun x => by
    rw [hp.mem_iff]
    refine ⟨hF x, fun hx => ?_⟩
    have := (mem_clo.mp hx).2 _ hmine
    simpa using (List.mem_filter.mp this).2
  -- both are in order
  have ndC : (clo B W g h).Nodup := List.Pairwise.sublist List.filter_sublist (rangeI_nodup _)
  have sC : (clo B W g h).Pairwise fun a b => a ≤ b := by
    refine List.Pairwise.sublist List.filter_sublist ?_
    unfold rangeI
    exact List.Pairwise.map _ (fun a b h => by omega) (List.pairwise_lt_range (n := B.length))
  have pC : S.Perm (clo B W g h) := (List.perm_ext_iff_of_nodup ndS ndC).mpr hmem
  exact pC.eq_of_pairwise (fun a b _ _ h1 h2 => by omega) hs sC
end KM

set_option Elab.async false
set_option linter.all false
set_option maxRecDepth 100000
set_option maxHeartbeats 4000000
namespace KM
open PySem L2 KG EX
/-! ### tables made of lists -/
def MatA (Hb H : Hp) (pr : Addr) (as : List Addr) (M : List (List Int)) : Prop :=
  H pr = some (.lst (as.map V.ref)) ∧ as.length = M.length ∧ as.Nodup ∧ pr ∉ as ∧ Hb pr = none ∧ (∀ a ∈ as, Hb a = none) ∧ ∀ (i : Nat) a, as[i]? = some a → H a = some (.lst ((M.getD i []).map V.int))
def Mat (Hb H : Hp) (pr : Addr) (M : List (List Int)) : Prop := ∃ as, MatA Hb H pr as M
theorem Mat.keep {Hb H H' : Hp} {pr : Addr} {M : List (List Int)} (m : Mat Hb H pr M) (k : ∀ a o, Hb a = none → H a = some o → H' a = some o) : Mat Hb H' pr M := by
  obtain ⟨as, h1, h2, h3, h4, h5, h6, h7⟩ := m
  exact ⟨as, k _ _ h5 h1, h2, h3, h4, h5, h6, fun i a e => k _ _ (h6 a (List.mem_of_getElem? e)) (h7 i a e)⟩
theorem Mat.kp {b : Addr} {Hb H H' : Hp} {pr : Addr} {M : List (List Int)} (m : Mat Hb H pr M) (hb : Bag Hb b) (k : Kp b H H') : Mat Hb H' pr M :=
  m.keep fun a o hn e => k a o (hb.ne hn).symm e
theorem Mat.stay {Hb H H' : Hp} {pr : Addr} {M : List (List Int)} (m : Mat Hb H pr M) (s : Stay H H') : Mat Hb H' pr M := m.keep fun a o _ e => s a o e
theorem Mat.free {Hb H : Hp} {pr : Addr} {M : List (List Int)} (m : Mat Hb H pr M) : Hb pr = none := by obtain ⟨as, _, _, _, _, h5, _⟩ := m; exact h5
theorem Mat.nil {Hb H : Hp} {pr : Addr} (h : H pr = some (.lst [])) (hf : Hb pr = none) : Mat Hb H pr [] := ⟨[], h, rfl, List.nodup_nil, fun z => (by cases z), hf, fun a z => (by cases z), fun i a z => by simp at z⟩
/-- a row more -/
theorem Mat.push {Hb H0 H : Hp} {pr c : Addr} {M : List (List Int)} {r : List Int} (m : Mat Hb H0 pr M) (hc : H0 c = none) (hb : Hb c = none) (k : ∀ a o, Hb a = none → H0 a = some o → H a = some o) (hr : H c = some (.lst (r.map V.int))) :
    ∃ xs, H pr = some (.lst xs) ∧ xs.length = M.length ∧ Mat Hb (upd H pr (.lst (xs ++ [.ref c]))) pr (M ++ [r]) := by
  obtain ⟨as, h1, h2, h3, h4, h5, h6, h7⟩ := m
  have ncp : c ≠ pr := fun z => by rw [z, h1] at hc; cases hc
  have nca : c ∉ as := fun z => by
    obtain ⟨i, hi, e⟩ := List.getElem_of_mem z
    have := h7 i c (by rw [List.getElem?_eq_getElem hi, e])
    rw [hc] at this; cases this
  refine ⟨as.map V.ref, k _ _ h5 h1, by rw [List.length_map, h2], as ++ [c], ?_, ?_, ?_, ?_, h5, ?_, ?_⟩
  · rw [upd_same]; simp
  · rw [List.length_append, List.length_append, h2]; rfl
  · rw [List.nodup_append]
    exact ⟨h3, by simp, fun a ha b hb' e => by rw [List.mem_singleton] at hb'; rw [e, hb'] at ha; exact nca ha⟩
  · intro z
    rcases List.mem_append.mp z with y | y
    · exact h4 y
    · exact ncp (List.mem_singleton.mp y).symm
  · intro a ha
    rcases List.mem_append.mp ha with y | y
    · exact h6 a y
    · rw [List.mem_singleton.mp y]; exact hb
  · intro i a e
    have nap : a ≠ pr := fun z => by
      rcases List.mem_append.mp (List.mem_of_getElem? e) with y | y
      · rw [z] at y; exact h4 y
      · exact ncp (by rw [← z]; exact (List.mem_singleton.mp y).symm)
    rw [upd_ne nap]
    rcases Nat.lt_or_ge i as.length with z | z
    · rw [List.getElem?_append_left z] at e
      have : (M ++ [r]).getD i [] = M.getD i [] := by simp [List.getD, List.getElem?_append_left (show i < M.length by omega)]
      rw [this]
      exact k _ _ (h6 a (List.mem_of_getElem? e)) (h7 i a e)
    · have ei : i = as.length := by have := (List.getElem?_eq_some_iff.mp e).1; simp at this; omega
      subst ei
      have ea : a = c := by simpa using e.symm
      subst ea
      have : (M ++ [r]).getD as.length [] = r := by rw [h2]; simp [List.getD]
      rw [this]; exact hr
/-- a row at hand, and what is put in its place -/
theorem Mat.row {Hb H : Hp} {pr : Addr} {M : List (List Int)} {i : Nat} (m : Mat Hb H pr M) (hi : i < M.length) : ∃ xs a, H pr = some (.lst xs) ∧ xs.length = M.length ∧ atI xs i = some (.ref a) ∧ xs[i]? = some (.ref a) ∧ H a = some (.lst ((M.getD i []).map V.int)) ∧ Hb a = none ∧
    ∀ r : List Int, Mat Hb (upd H a (.lst (r.map V.int))) pr (M.set i r) := by
  obtain ⟨as, h1, h2, h3, h4, h5, h6, h7⟩ := m
  have hi' : i < as.length := by omega
  have ea : as[i]? = some as[i] := List.getElem?_eq_getElem hi'
  have er : (as.map V.ref)[i]? = some (.ref as[i]) := by rw [List.getElem?_map, ea]; rfl
  have hm := List.mem_of_getElem? ea
  have nap : pr ≠ as[i] := fun z => h4 (by rw [z]; exact hm)
  refine ⟨as.map V.ref, as[i], h1, by rw [List.length_map, h2], atI_nat er, er, h7 i _ ea, h6 _ hm, fun r => ⟨as, ?_, by rw [List.length_set]; exact h2, h3, h4, h5, h6, fun j a e => ?_⟩⟩
  · rw [upd_ne nap]; exact h1
  · by_cases hj : j = i
    · subst hj
      have : a = as[j] := by rw [ea] at e; simpa using e.symm
      subst this
      rw [upd_same]
      have : (M.set j r).getD j [] = r := by simp [List.getD, hi]
      rw [this]
    · have hja : a ≠ as[i] := fun z => by
        have hjl := (List.getElem?_eq_some_iff.mp e).1
        have ej : as[j] = as[i] := by rw [List.getElem?_eq_getElem hjl] at e; rw [← z]; simpa using e
        exact hj ((List.getElem_inj h3).mp ej)
      rw [upd_ne hja]
      have : (M.set i r).getD j [] = M.getD j [] := by simp [List.getD, List.getElem?_set_ne (Ne.symm hj)]
      rw [this]
      exact h7 j a e
/-- its rows in their order -/
theorem Mat.list {Hb H : Hp} {pr : Addr} {M : List (List Int)} (m : Mat Hb H pr M) : ∃ xs, H pr = some (.lst xs) ∧ xs.length = M.length ∧ ∀ (i : Nat) x, xs[i]? = some x → ∃ a, x = .ref a ∧ Hb a = none ∧ H a = some (.lst ((M.getD i []).map V.int)) := by
  obtain ⟨as, h1, h2, h3, h4, h5, h6, h7⟩ := m
  refine ⟨as.map V.ref, h1, by rw [List.length_map, h2], fun i x e => ?_⟩
  rw [List.getElem?_map] at e
  cases ea : as[i]? with
  | none => rw [ea] at e; cases e
  | some a =>
    rw [ea] at e
    exact ⟨a, by simpa using e.symm, h6 a (List.mem_of_getElem? ea), h7 i a ea⟩
/-! numbers of a table -/
def put2 (M : List (List Int)) (i j : Nat) (x : Int) : List (List Int) := M.set i ((M.getD i []).set j x)
theorem ent_put2 {M : List (List Int)} {i j : Nat} {x : Int} (hi : i < M.length) (hj : j < (M.getD i []).length) (i' j' : Nat) : ent (put2 M i j x) i' j' = if i' = i ∧ j' = j then x else ent M i' j' := by
  unfold ent put2
  by_cases h : i' = i
  · subst h
    have e : (M.set i' ((M.getD i' []).set j x)).getD i' [] = (M.getD i' []).set j x := by simp [List.getD, hi]
    rw [e]
    generalize M.getD i' [] = R at hj ⊢
    by_cases h2 : j' = j
    · subst h2
      rw [if_pos ⟨rfl, rfl⟩]
      simp [List.getD, hj]
    · rw [if_neg (fun z => h2 z.2)]
      simp [List.getD, List.getElem?_set_ne (Ne.symm h2)]
  · rw [if_neg (fun z => h z.1)]
    have e : (M.set i ((M.getD i []).set j x)).getD i' [] = M.getD i' [] := by simp [List.getD, List.getElem?_set_ne (Ne.symm h)]
    rw [e]
structure MOk (n g : Nat) (hi : Int) (M : List (List Int)) : Prop where
  len : M.length = n
  row : ∀ i, i < n → (M.getD i []).length = g
  bd : ∀ i j, i < n → j < g → 0 ≤ ent M i j ∧ ent M i j ≤ hi
theorem put2_rowlen {M : List (List Int)} {i j : Nat} {x : Int} (i' : Nat) : ((put2 M i j x).getD i' []).length = (M.getD i' []).length := by
  unfold put2
  by_cases h : i' = i
  · subst h
    by_cases hl : i' < M.length
    · have e : (M.set i' ((M.getD i' []).set j x)).getD i' [] = (M.getD i' []).set j x := by simp [List.getD, hl]
      rw [e, List.length_set]
    · have e : M.set i' ((M.getD i' []).set j x) = M := List.set_eq_of_length_le (by omega)
      rw [e]
  · have e : (M.set i ((M.getD i []).set j x)).getD i' [] = M.getD i' [] := by simp [List.getD, List.getElem?_set_ne (Ne.symm h)]
    rw [e]
theorem MOk.put {n g : Nat} {hi : Int} {M : List (List Int)} (m : MOk n g hi M) {i j : Nat} {x : Int} (h1 : i < n) (h2 : j < g) (h3 : 0 ≤ x) (h4 : x ≤ hi) : MOk n g hi (put2 M i j x) := by
  have hl := m.row i h1
  refine ⟨by unfold put2; rw [List.length_set]; exact m.len, fun i' hi' => by rw [put2_rowlen]; exact m.row i' hi', fun i' j' hi' hj' => ?_⟩
  rw [ent_put2 (by rw [m.len]; exact h1) (by rw [hl]; exact h2)]
  split
  · exact ⟨h3, h4⟩
  · exact m.bd i' j' hi' hj'
def RowP (M : List (List Int)) (g i : Nat) : Prop := ∃ j, j < g ∧ 1 ≤ ent M i j
def ColP (M : List (List Int)) (n j : Nat) : Prop := ∃ i, i < n ∧ 1 ≤ ent M i j
theorem RowP.put {n g : Nat} {hi : Int} {M : List (List Int)} (m : MOk n g hi M) {i j i' : Nat} {x : Int} (h1 : i < n) (h2 : j < g) (hx : 1 ≤ x) (h : i' = i ∨ RowP M g i') : RowP (put2 M i j x) g i' := by
  have e := ent_put2 (x := x) (M := M) (i := i) (j := j) (by rw [m.len]; exact h1) (by rw [m.row i h1]; exact h2)
  by_cases z : i' = i
  · exact ⟨j, h2, by rw [e, if_pos ⟨z, rfl⟩]; exact hx⟩
  · obtain ⟨j', hj', hp⟩ := h.resolve_left z
    exact ⟨j', hj', by rw [e, if_neg (fun y => z y.1)]; exact hp⟩
theorem ColP.put {n g : Nat} {hi : Int} {M : List (List Int)} (m : MOk n g hi M) {i j j' : Nat} {x : Int} (h1 : i < n) (h2 : j < g) (hx : 1 ≤ x) (h : j' = j ∨ ColP M n j') : ColP (put2 M i j x) n j' := by
  have e := ent_put2 (x := x) (M := M) (i := i) (j := j) (by rw [m.len]; exact h1) (by rw [m.row i h1]; exact h2)
  by_cases z : j' = j
  · exact ⟨i, h1, by rw [e, if_pos ⟨rfl, z⟩]; exact hx⟩
  · obtain ⟨i', hi', hp⟩ := h.resolve_left z
    exact ⟨i', hi', by rw [e, if_neg (fun y => z y.2)]; exact hp⟩
theorem sum_pos : ∀ {ns : List Int}, (∀ x ∈ ns, 0 ≤ x) → 0 ≤ ns.sum ∧ (ns.sum ≠ 0 → ∃ x ∈ ns, 1 ≤ x)
  | [], _ => ⟨by simp, fun h => absurd rfl h⟩
  | n :: ns, h => by
    obtain ⟨h1, h2⟩ := sum_pos (ns := ns) fun x hx => h x (List.mem_cons_of_mem _ hx)
    have h0 := h n List.mem_cons_self
    rw [List.sum_cons]
    refine ⟨by omega, fun hne => ?_⟩
    by_cases hn : 1 ≤ n
    · exact ⟨n, List.mem_cons_self, hn⟩
    · obtain ⟨x, hx, hp⟩ := h2 (by omega)
      exact ⟨x, List.mem_cons_of_mem _ hx, hp⟩
structure BtOk (B W : List (List Int)) (n g : Nat) : Prop where
  okB : MOk n g 10 B
  okW : MOk n g 100 W
  rpB : ∀ i, i < n → RowP B g i
  rpW : ∀ i, i < n → RowP W g i
  cpB : ∀ j, j < g → ColP B n j
  cpW : ∀ j, j < g → ColP W n j
def spBt : Sp := fun vs H Q _ => ∃ (b : Addr), vs = [.ref b] ∧ Bag H b ∧ ∀ (p pB pW : Addr) (xB xW : List V) (B W : List (List Int)) (g : Nat) (H' : Hp), Bag H' b → Kp b H H' → BtAt H' p pB pW xB xW B W g → BtOk B W B.length g → Q (.ref p) H'
/-! contracts of the program -/
def spBring : Sp := fun vs H Q _ => ∃ (a c : Addr) (r t : List Int), vs = [.ref a, .ref c] ∧ H a = some (.tup (r.map V.int)) ∧ H c = some (.tup (t.map V.int)) ∧ r.length = t.length ∧ r.length ≤ 6 ∧ ∀ H', Stay H H' → Q (.bl ((List.range r.length).any fun j => decide (0 < r.getD j 0) && decide (0 < t.getD j 0))) H'
def spShutWith : Sp := fun vs H Q _ => ∃ (p pB pW : Addr) (xB xW : List V) (B W : List (List Int)) (g h : Nat), vs = [.ref p, .int h] ∧ BtAt H p pB pW xB xW B W g ∧ h < B.length ∧ ∀ (r : Addr) (H' : Hp), Stay H H' → H' r = some (.tup ((clo B W g (h : Nat)).map V.int)) → Q (.ref r) H'
def spOnly : Sp := fun vs H Q _ => ∃ (p pB pW l : Addr) (xB xW : List V) (B W : List (List Int)) (g : Nat) (s : List Int), vs = [.ref p, .ref l] ∧ BtAt H p pB pW xB xW B W g ∧ H l = some (.tup (s.map V.int)) ∧ s.length ≤ 6 ∧ (∀ x ∈ s, 0 ≤ x ∧ x < (B.length : Int)) ∧ ∀ (r : Addr) (H' : Hp), Stay H H' → H' r = some (.lst (natsV (barG B W g s))) → Q (.ref r) H'
def spBarred : Sp := fun vs H Q _ => ∃ (p pB pW : Addr) (xB xW : List V) (B W : List (List Int)) (g : Nat), vs = [.ref p] ∧ BtAt H p pB pW xB xW B W g ∧ ∀ (v : V) (H' : Hp), Stay H H' → (∀ b, TrV b H' v (dueD B W g)) → Q v H'
/-! contracts of the law -/
def spLShut : Sp := fun vs H Q _ => ∃ (p pB pW l : Addr) (xB xW : List V) (B W : List (List Int)) (g : Nat) (s : List Int), vs = [.ref p, .ref l] ∧ BtAt H p pB pW xB xW B W g ∧ H l = some (.lst (s.map V.int)) ∧ s.length ≤ 6 ∧ (∀ x ∈ s, 0 ≤ x ∧ x < (B.length : Int)) ∧ ∀ (H' : Hp), Stay H H' → Q (.bl (shutB B W g s)) H'
def spLBarr : Sp := fun vs H Q _ => ∃ (p pB pW l : Addr) (xB xW : List V) (B W : List (List Int)) (g : Nat) (s : List Int), vs = [.ref p, .ref l] ∧ BtAt H p pB pW xB xW B W g ∧ H l = some (.lst (s.map V.int)) ∧ s.length ≤ 6 ∧ (∀ x ∈ s, 0 ≤ x ∧ x < (B.length : Int)) ∧ ∀ (r : Addr) (H' : Hp), Stay H H' → H' r = some (.lst (natsV (barG B W g s))) → Q (.ref r) H'
end KM

set_option Elab.async false
set_option linter.all false
set_option maxRecDepth 100000
set_option maxHeartbeats 4000000
namespace KM
open PySem L2 KG EX
theorem menuF {r far : Int} (h0 : 0 ≤ r) (h1 : r < 2) (hf : 2 ≤ far) : ∃ m : Int, atI [V.int 2, V.int far] r = some (.int m) ∧ 2 ≤ m ∧ m ≤ far := by
  have : r = 0 ∨ r = 1 := by omega
  rcases this with rfl | rfl
  · exact ⟨2, rfl, by decide, hf⟩
  · exact ⟨far, rfl, hf, Int.le_refl _⟩
theorem ints_of {R : Int → Prop} : ∀ {ys : List V}, (∀ y ∈ ys, ∃ x : Int, y = .int x ∧ R x) → ∃ ns : List Int, ys = ns.map V.int ∧ ∀ n ∈ ns, R n
  | [], _ => ⟨[], rfl, fun n h => nomatch h⟩
  | y :: ys, h => by
    obtain ⟨ns, rfl, h1⟩ := ints_of (ys := ys) fun z hz => h z (List.mem_cons_of_mem _ hz)
    obtain ⟨x, rfl, hx⟩ := h y List.mem_cons_self
    refine ⟨x :: ns, rfl, fun n hn => ?_⟩
    rcases List.mem_cons.mp hn with rfl | hn
    · exact hx
    · exact h1 n hn
theorem Rws.app {H : Hp} : ∀ {xs ys : List V} {M N : List (List Int)}, Rws H xs M → Rws H ys N → Rws H (xs ++ ys) (M ++ N)
  | _, _, _, _, .nil, s => s
  | _, _, _, _, .cons h t, s => .cons h (Rws.app t s)
/-- [tuple(one) for one in row] -/
theorem comp_tups {K : PySem.W.Frag} {te : TE} {acc a : Addr} {σ₀ : St} {H₀ : Hp} {Q : VK} {xs : List V} {M : List (List Int)} (hacc : H₀ acc = none) (ha : H₀ a = some (.lst xs)) (hl : xs.length = M.length) (hm : M.length ≤ 1000) (hx : ∀ (i : Nat) x, xs[i]? = some x → ∃ c, x = .ref c ∧ H₀ c = some (.lst ((M.getD i []).map V.int)))
    (ht : ∀ c (ns : List Int) H Z, H c = some (.lst (ns.map V.int)) → (∀ l, H l = none → Z (.ref l) (upd H l (.tup (ns.map V.int)))) → te (σ₀.set 0 (some (.ref c))) H Z)
    (hd : ∀ ys H, Stay H₀ H → Rws H ys M → H acc = some (.lst ys) → Q (.ref acc) H) : tCompN (gName 0) tYes te (Itl K a) acc σ₀ H₀ Q := by
  refine comp_list (xs := xs) (fun i ys H' => Stay H₀ H' ∧ Rws H' ys (M.take i)) ⟨(Stay.refl H₀).acc hacc, .nil⟩ (fun i ys H' _ _ z => SqL.of (z.1 _ _ ha)) ?_ ?_
  · rintro i x ys H hxi hy ⟨s, r⟩
    obtain ⟨c, rfl, hc⟩ := hx i x hxi
    have hi : i < M.length := by rw [← hl]; exact (List.getElem?_eq_some_iff.mp hxi).1
    refine yes_i (ht c (M.getD i []) H _ (s _ _ hc) fun l hl' => ?_)
    have nla : l ≠ acc := fun z => by rw [z, hy] at hl'; cases hl'
    have s1 := (Stay.refl H).new (o := .tup ((M.getD i []).map V.int)) hl'
    have hlen := r.len
    rw [List.length_take] at hlen
    refine ⟨ys, s1 _ _ hy, by rw [sz]; omega, Cn.of upd_same ⟨(s.trans s1).acc hacc, ?_⟩⟩
    have tm : Tm (upd H l (.tup ((M.getD i []).map V.int))) (upd (upd H l (.tup ((M.getD i []).map V.int))) acc (.lst (ys ++ [.ref l]))) := Tm.lst (s1 _ _ hy)
    rw [List.take_add_one, show M[i]? = some (M.getD i []) by simp [List.getD, List.getElem?_eq_getElem hi]]
    exact Rws.app ((r.keep s1.tm).keep tm) (.cons ⟨l, rfl, tm _ _ upd_same⟩ .nil)
  · rintro ys H hy ⟨s, r⟩
    rw [hl, List.take_length] at r
    exact hd ys H s r hy
end KM

set_option Elab.async false
set_option linter.all false
set_option maxRecDepth 100000
set_option maxHeartbeats 4000000
namespace KM
open PySem L2 KG EX
section
variable {K : PySem.W.Frag} {tt : TT} {te : TE} {acc a : Addr} {s : List Int} {σ₀ : St} {H₀ : Hp} {Q : VK}
theorem mem_getD {i : Nat} (hi : i < s.length) : s.getD i 0 ∈ s := by rw [getD_of (List.getElem?_eq_getElem hi)]; exact List.getElem_mem hi
theorem map_idx {β : Type} (G : Int → β) (s : List Int) : ((List.range (s.map V.int).length).filter fun _ => true).map (fun i => G (s.getD i 0)) = s.map G := by
  rw [List.length_map]
  have := idx_filt s (fun _ => true) G 0
  rw [this, List.filter_eq_self.mpr (fun _ _ => rfl)]
/-- [G(x) for x in a tuple of numbers] -/
theorem mapT (G : Int → V) (hacc : H₀ acc = none) (hn : s.length ≤ 1000) (hl : H₀ a = some (.tup (s.map V.int)))
    (he : ∀ x H (Z : VK), x ∈ s → Stay H₀ H → (∀ H', Stay H H' → Z (G x) H') → te (σ₀.set 0 (some (.int x))) H Z)
    (hd : ∀ H, Stay H₀ H → H acc = some (.lst (s.map G)) → Q (.ref acc) H) : tCompN (gName 0) tYes te (Itt K a) acc σ₀ H₀ Q := by
  refine pr_tup (xs := s.map V.int) (fun _ => true) (fun i => G (s.getD i 0)) hacc (by rw [List.length_map]; exact hn) hl (fun i x H Z _ _ h => h H (Stay.refl H)) (fun i x H Z hx _ st h => ?_) (fun H st h => hd H st (by rw [map_idx] at h; exact h))
  obtain ⟨hi, rfl⟩ := ints_get hx
  exact he _ H Z (mem_getD hi) st h
/-- [x for x in a list of numbers if F(x)] -/
theorem filtL (F : Int → Bool) (hacc : H₀ acc = none) (hn : s.length ≤ 1000) (hl : H₀ a = some (.lst (s.map V.int)))
    (ht : ∀ x H Z, x ∈ s → Stay H₀ H → (∀ H', Stay H H' → Z (F x) H') → tt (σ₀.set 0 (some (.int x))) H Z)
    (he : ∀ x H (Z : VK), Z (.int x) H → te (σ₀.set 0 (some (.int x))) H Z)
    (hd : ∀ H, Stay H₀ H → H acc = some (.lst ((s.filter F).map V.int)) → Q (.ref acc) H) : tCompN (gName 0) tt te (Itl K a) acc σ₀ H₀ Q := by
  refine pr_list (xs := s.map V.int) (fun i => F (s.getD i 0)) (fun i => V.int (s.getD i 0)) hacc (by rw [List.length_map]; exact hn) hl (fun i x H Z hx st h => ?_) (fun i x H Z hx _ st h => ?_) (fun H st h => hd H st (by rw [List.length_map, idx_filt s F V.int 0] at h; exact h))
  · obtain ⟨hi, rfl⟩ := ints_get hx
    exact ht _ H Z (mem_getD hi) st h
  · obtain ⟨hi, rfl⟩ := ints_get hx
    exact he _ H Z (h H (Stay.refl H))
end
theorem any_bl {α : Type} (s : List α) (F : α → Bool) : (s.map fun x => V.bl (F x)).any tv = s.any F := by rw [List.any_map]; rfl
theorem plain_bl {α : Type} (s : List α) (F : α → Bool) : (s.map fun x => V.bl (F x)).all plainB = true := by rw [List.all_map]; simp [Function.comp_def, plainB]
theorem clo_le {B W : List (List Int)} {g : Nat} {h : Int} : (clo B W g h).length ≤ B.length := by
  unfold clo
  have := List.length_filter_le (fun o => (mineL B W g h).all fun s => s.contains o) (rangeI B.length)
  rw [rangeI_len] at this; exact this
theorem nodup_le {F : List Int} {n : Nat} (nd : F.Nodup) (h : ∀ x ∈ F, 0 ≤ x ∧ x < (n : Int)) : F.length ≤ n := by
  have : F.length ≤ (rangeI n).length := by
    have hs : F.Perm ((rangeI n).filter fun x => F.contains x) := (List.perm_ext_iff_of_nodup nd (List.Pairwise.sublist List.filter_sublist (rangeI_nodup n))).mpr fun x => by
      rw [List.mem_filter, mem_rangeI]
      constructor
      · intro hx; exact ⟨h x hx, by simpa using hx⟩
      · rintro ⟨_, hx⟩; simpa using hx
    rw [hs.length_eq]; exact List.length_filter_le _ _
  rw [rangeI_len] at this; exact this
/-- one hand more looked at -/
theorem step_clo {B W : List (List Int)} {g : Nat} {h : Int} {F : List Int} {x : Int} (nd : F.Nodup) (hF : ∀ y ∈ F, y ∈ clo B W g h) (hx : x ∈ F) :
    (F ++ (((List.range B.length).filter fun o => !F.contains ((o : Nat) : Int) && needB B W g x (o : Nat)).map fun o : Nat => (o : Int))).Nodup ∧
    (∀ y ∈ F ++ (((List.range B.length).filter fun o => !F.contains ((o : Nat) : Int) && needB B W g x (o : Nat)).map fun o : Nat => (o : Int)), y ∈ clo B W g h) ∧
    ∀ o, 0 ≤ o → o < (B.length : Int) → needB B W g x o = true → o ∈ F ++ (((List.range B.length).filter fun o => !F.contains ((o : Nat) : Int) && needB B W g x (o : Nat)).map fun o : Nat => (o : Int)) := by
  refine ⟨?_, ?_, ?_⟩
  · rw [List.nodup_append]
    refine ⟨nd, ?_, ?_⟩
    · exact List.Pairwise.map _ (fun a b h e => h (by omega)) (List.Pairwise.sublist List.filter_sublist List.nodup_range)
    · intro a ha b hb e
      obtain ⟨o, ho, rfl⟩ := List.mem_map.mp hb
      have := (List.mem_filter.mp ho).2
      rw [Bool.and_eq_true] at this
      rw [e] at ha
      simp [ha] at this
  · intro y hy
    rcases List.mem_append.mp hy with z | z
    · exact hF y z
    · obtain ⟨o, ho, rfl⟩ := List.mem_map.mp z
      obtain ⟨h1, h2⟩ := List.mem_filter.mp ho
      rw [Bool.and_eq_true] at h2
      have h1' := List.mem_range.mp h1
      refine mem_clo.mpr ⟨by omega, fun s hs => ?_⟩
      obtain ⟨_, hsh, _⟩ := mem_mine.mp hs
      exact shut_iff.mp hsh x ((mem_clo.mp (hF x hx)).2 s hs) o (by omega) (by omega) h2.2
  · intro o o0 o1 hn
    by_cases z : o ∈ F
    · exact List.mem_append_left _ z
    · refine List.mem_append_right _ (List.mem_map.mpr ⟨o.toNat, List.mem_filter.mpr ⟨List.mem_range.mpr (by omega), ?_⟩, by omega⟩)
      rw [show ((o.toNat : Nat) : Int) = o by omega, hn]
      simp [z]
end KM

set_option Elab.async false
set_option linter.all false
set_option maxRecDepth 100000
set_option maxHeartbeats 4000000
namespace KM
open PySem L2 KG EX
theorem neNil {H : Hp} {a q : Addr} {ns : List Int} {Q : VK} (h1 : H a = some (.lst (ns.map V.int))) (h2 : H q = some (.lst [])) (hQ : Q (.bl (!ns.isEmpty)) H) : rNeD K0 (.ref a) (.ref q) H Q := by
  refine ⟨.list (ns.map PyData.int), .list [], .lst (SqL.of h1) (dtInts ns), .lst (SqL.of h2) .nil, by simp [PyData.depth, PyData.depthAll, depInts], ?_⟩
  rw [eqv_nil, List.isEmpty_map]
  exact hQ
theorem eqNil {H : Hp} {a q : Addr} {ns : List Int} {Q : VK} (h1 : H a = some (.lst (ns.map V.int))) (h2 : H q = some (.lst [])) (hQ : Q (.bl ns.isEmpty) H) : rEqD K0 (.ref a) (.ref q) H Q := by
  refine ⟨.list (ns.map PyData.int), .list [], .lst (SqL.of h1) (dtInts ns), .lst (SqL.of h2) .nil, by simp [PyData.depth, PyData.depthAll, depInts], ?_⟩
  rw [eqv_nil, List.isEmpty_map]
  exact hQ
theorem eqNilLs {H : Hp} {a q : Addr} {xs : List V} {L : List (List Int)} {Q : VK} (h1 : H a = some (.lst xs)) (r : LsR H xs L) (h2 : H q = some (.lst [])) (hQ : Q (.bl L.isEmpty) H) : rEqD K0 (.ref a) (.ref q) H Q := by
  refine ⟨.list (L.map fun r => PyData.list (r.map PyData.int)), .list [], .lst (SqL.of h1) (lsr_dt r), .lst (SqL.of h2) .nil, by show min _ 1 ≤ 60; omega, ?_⟩
  rw [eqv_nil, List.isEmpty_map]
  exact hQ
theorem filt_isEmpty {α : Type} (f : α → Bool) (s : List α) : (s.filter f).isEmpty = !s.any f := by
  induction s with
  | nil => rfl
  | cons x s ih =>
    rw [List.filter_cons, List.any_cons]
    cases f x with
    | true => rfl
    | false => simpa using ih
/-- [x for x in a list of lists if F(x)] -/
theorem filtLs {K : PySem.W.Frag} {tt : TT} {te : TE} {acc a : Addr} {σ₀ : St} {H₀ : Hp} {Q : VK} {xs : List V} {L : List (List Int)} (F : List Int → Bool) (hacc : H₀ acc = none) (hn : xs.length ≤ 1000) (hl : H₀ a = some (.lst xs)) (r : LsR H₀ xs L)
    (ht : ∀ c s H Z, s ∈ L → H₀ c = some (.lst (s.map V.int)) → Stay H₀ H → (∀ H', Stay H H' → Z (F s) H') → tt (σ₀.set 0 (some (.ref c))) H Z)
    (he : ∀ c H (Z : VK), Z (.ref c) H → te (σ₀.set 0 (some (.ref c))) H Z)
    (hd : ∀ zs H, Stay H₀ H → H acc = some (.lst zs) → LsR H zs (L.filter F) → Q (.ref acc) H) : tCompN (gName 0) tt te (Itl K a) acc σ₀ H₀ Q := by
  refine comp_list (xs := xs) (fun i ys H' => Stay H₀ H' ∧ LsR H₀ ys ((L.take i).filter F)) ⟨(Stay.refl H₀).acc hacc, ⟨rfl, fun j x hx => by simp at hx⟩⟩ (fun i ys H' _ _ z => SqL.of (z.1 _ _ hl)) ?_ ?_
  · rintro i x ys H hx hy ⟨s, ry⟩
    obtain ⟨c, rfl, hc⟩ := r.2 i x hx
    have hi : i < L.length := by rw [← r.1]; exact (List.getElem?_eq_some_iff.mp hx).1
    have hm : L.getD i [] ∈ L := by rw [getD_of (List.getElem?_eq_getElem hi)]; exact List.getElem_mem hi
    have hyl : ys.length ≤ i := by
      have h1 := List.length_filter_le F (L.take i)
      have h2 := ry.1
      rw [List.length_take] at h1; omega
    have et : L.take (i + 1) = L.take i ++ [L.getD i []] := take_snoc (by rw [getD_of (List.getElem?_eq_getElem hi), List.getElem?_eq_getElem hi])
    have hxl := (List.getElem?_eq_some_iff.mp hx).1
    refine ht c _ H _ hm hc s fun H' s' => ?_
    cases hf : F (L.getD i []) with
    | true =>
      refine iteT (he c H' _ ⟨ys, s' _ _ hy, by rw [sz]; omega, Cn.of upd_same ⟨(s.trans s').acc hacc, ?_⟩⟩)
      rw [et, List.filter_append, List.filter_cons, if_pos hf, List.filter_nil]
      exact ry.app hc
    | false =>
      refine iteF (Cn.of (s' _ _ hy) ⟨s.trans s', ?_⟩)
      rw [et, List.filter_append, List.filter_cons, if_neg (by rw [hf]; decide), List.filter_nil, List.append_nil]
      exact ry
  · rintro ys H hy ⟨s, ry⟩
    rw [r.1, List.take_length] at ry
    exact hd ys H s hy (ry.stay s)
theorem clo_self {B W : List (List Int)} {g : Nat} {h : Int} (h0 : 0 ≤ h) (h1 : h < (B.length : Int)) : clo B W g h ∈ mineL B W g h := by
  refine mem_mine.mpr ⟨List.filter_sublist, shut_iff.mpr fun x hx o o0 o1 hn => ?_, mem_clo.mpr ⟨⟨h0, h1⟩, fun s hs => (mem_mine.mp hs).2.2⟩⟩
  obtain ⟨_, hx⟩ := mem_clo.mp hx
  exact mem_clo.mpr ⟨⟨o0, o1⟩, fun s hs => shut_iff.mp (mem_mine.mp hs).2.1 x (hx s hs) o o0 o1 hn⟩
def shutL (B W : List (List Int)) (g : Nat) : List (List Int) := (setsL (rangeI B.length)).filter fun s => !s.isEmpty && shutB B W g s
theorem mine_eq (B W : List (List Int)) (g : Nat) (h : Int) : mineL B W g h = (shutL B W g).filter fun s => s.contains h := rfl
theorem shutL_mem {B W : List (List Int)} {g : Nat} {s : List Int} (h : s ∈ shutL B W g) : s.length ≤ B.length ∧ ∀ x ∈ s, 0 ≤ x ∧ x < (B.length : Int) := by
  have hs := mem_setsL.mp (List.mem_filter.mp h).1
  refine ⟨by have := hs.length_le; rw [rangeI_len] at this; exact this, fun x hx => mem_rangeI.mp (hs.subset hx)⟩
theorem sets_mem {n : Nat} {s : List Int} (h : s ∈ setsL (rangeI n)) : s.length ≤ n ∧ ∀ x ∈ s, 0 ≤ x ∧ x < (n : Int) := by
  have hs := mem_setsL.mp h
  refine ⟨by have := hs.length_le; rw [rangeI_len] at this; exact this, fun x hx => mem_rangeI.mp (hs.subset hx)⟩
theorem due_none {B W : List (List Int)} {g : Nat} (h : ∀ s ∈ shutL B W g, barG B W g s = []) : dueD B W g = .none := by
  unfold dueD
  have ef : (List.range B.length).find? (fun h => !(barG B W g (clo B W g (h : Nat))).isEmpty) = none := by
    rw [List.find?_eq_none]
    intro i hi
    have hi' := List.mem_range.mp hi
    have := clo_self (B := B) (W := W) (g := g) (h := (i : Int)) (by omega) (by omega)
    rw [mine_eq] at this
    rw [h _ (List.mem_filter.mp this).1]; simp
  rw [ef]
theorem due_end {B W : List (List Int)} {g : Nat} (h : ∀ i, i < B.length → barG B W g (clo B W g (i : Nat)) = []) : dueD B W g = .none := by
  unfold dueD
  have ef : (List.range B.length).find? (fun h => !(barG B W g (clo B W g (h : Nat))).isEmpty) = none := by
    rw [List.find?_eq_none]
    intro i hi
    rw [h i (List.mem_range.mp hi)]; simp
  rw [ef]
theorem due_some {B W : List (List Int)} {g i j : Nat} {js : List Nat} (hi : i < B.length) (h : ∀ k, k < i → barG B W g (clo B W g (k : Nat)) = []) (hg : barG B W g (clo B W g (i : Nat)) = j :: js) : dueD B W g = .tuple [.tuple ((clo B W g (i : Nat)).map PyData.int), .int ((j : Nat) : Int)] := by
  unfold dueD
  have ef : (List.range B.length).find? (fun h => !(barG B W g (clo B W g (h : Nat))).isEmpty) = some i := by
    rw [List.find?_range_eq_some]
    refine ⟨by rw [hg]; rfl, List.mem_range.mpr hi, fun k hk => by rw [h k hk]; rfl⟩
  rw [ef]
  show PyData.tuple [_, .int (((barG B W g (clo B W g (i : Nat))).getD 0 0 : Nat) : Int)] = _
  rw [hg]; rfl
theorem due_eqv (B W : List (List Int)) (g : Nat) : PyData.eqv (dueD B W g) (dueD B W g) = true := by
  unfold dueD
  split
  · simp [PyData.eqv]
  · simp [PyData.eqv, PyData.eqvAll, eqv_ints]
theorem due_dep (B W : List (List Int)) (g : Nat) : (dueD B W g).depth ≤ 60 := by
  unfold dueD
  split
  · simp [PyData.depth]
  · simp [PyData.depth, PyData.depthAll, depInts]
def spLDue : Sp := spBarred
end KM

set_option Elab.async false
set_option linter.all false
set_option maxRecDepth 100000
set_option maxHeartbeats 4000000
namespace K29
open PySem L2 KG EX KM
def top (i : Nat) : Stmt := PySem.Challenge.pw_wishmart_k29_what_bars_a_barter.main.body.getD i (.Pass ⟨0, 0, 0, 0⟩)
section
variable {P : Program} {w : World} {K : PySem.W.Frag} {mg : Str → Option Value} {base : Heap}
theorem scTake : FnScope ["bag", "many", "found"] ["bag", "many"] (defScope (top 7)) := ⟨rfl, rfl, rfl, by decide +kernel, rfl, by decide +kernel, by decide +kernel⟩
theorem ok_take {f : Addr} {fd : FuncData} (F : Fun K "_law_take" "_law_take" (top 7) f fd) : FnOk P w K mg base CX0 1 f fd ["bag", "many"] spTake := by
  refine F.ok scTake (fun vs H Q E h => ?_) (fun cdv A outer s H vs Q E hr h => ?_)
  · obtain ⟨b, m, rfl, _⟩ := h; rfl
  · obtain ⟨b, m, rfl, ⟨c, d, hb⟩, h0, h1, k⟩ := h
    refine ⟨_, pss_cons (ps_if (pt_cmpR op_gt (pe_ix ixL0 (pv 0) pe_int (fun _ _ => rfl)) pe_int (nomark _))
        (pss_cons (ps_set (i := 2) scTake.nd rfl (Or.inl rfl) (pe_op op_mod (pe_ix ixL0 (pv 0) pe_int (fun _ _ => rfl)) (pv 1)))
          (pss_cons (ps_asg (pe_op op_fdiv (pe_ix ixL0 (pv 0) pe_int (fun _ _ => rfl)) (pv 1)) (pg_sub (pv 0) pe_int set_list)) (pss_one (ps_ret (pv 2))))) pss_nil)
      (pss_cons (ps_asg (pe_op op_mod (pe_op op_mul (pe_ix ixL0 (pv 0) pe_int (fun _ _ => rfl)) pe_int) pe_int) (pg_sub (pv 0) pe_int set_list))
        (pss_one (ps_ret (pe_op op_mod (pe_op op_fdiv (pe_op op_mod (pe_op op_mul (pe_op op_fdiv (pe_ix ixL0 (pv 0) pe_int (fun _ _ => rfl)) pe_int) (pe_op op_add (pe_op op_mod (pe_ix ixL0 (pv 0) pe_int (fun _ _ => rfl)) pe_int) pe_int)) pe_int) pe_int) (pv 1))))), ?_⟩
    refine ⟨_, rfl, b, _, _, _, rfl, rfl, SqL.of hb, rfl, _, _, rfl, rfl, _, rfl, ?_⟩
    refine ite2 (fun hc => ?_) (fun hc => ?_)
    · refine ⟨_, rfl, b, _, _, _, rfl, rfl, SqL.of hb, rfl, _, rfl, _, _, rfl, rfl, h0, ?_⟩
      refine ⟨_, rfl, b, _, _, _, rfl, rfl, SqL.of hb, rfl, _, rfl, _, _, rfl, rfl, ⟨h0, h1⟩, ?_⟩
      refine ⟨_, rfl, b, _, _, 0, rfl, rfl, hb, rfl, ?_⟩
      refine ⟨_, rfl, k _ _ (Int.emod_nonneg _ (by omega)) (Int.emod_lt_of_pos _ h0) ⟨_, _, upd_same⟩ (Kp.refl b H).bag⟩
    · refine ⟨_, rfl, b, _, _, _, rfl, rfl, SqL.of hb, rfl, _, _, rfl, rfl, .inr ⟨by decide, by decide⟩, _, _, rfl, rfl, (by show (0 : Int) < 2147483647; decide), ?_⟩
      refine ⟨_, rfl, b, _, _, 1, rfl, rfl, hb, rfl, ?_⟩
      have hb2 : (upd H b (.lst [V.int c, V.int (d * 48271 % 2147483647)])) b = some (.lst [V.int c, V.int (d * 48271 % 2147483647)]) := upd_same
      refine ⟨_, rfl, b, _, _, _, rfl, rfl, SqL.of hb2, rfl, _, _, rfl, rfl, ⟨by decide, by decide⟩, ?_⟩
      refine ⟨_, rfl, b, _, _, _, rfl, rfl, SqL.of hb2, rfl, _, _, rfl, rfl, (by show (0 : Int) < 32749; decide), _, _, rfl, rfl, ?_⟩
      refine ⟨_, _, rfl, rfl, .inr ⟨?_, ?_⟩, ?_⟩
      · have := Int.emod_nonneg (d * 48271 % 2147483647) (show (32749 : Int) ≠ 0 by decide); omega
      · have := Int.emod_lt_of_pos (d * 48271 % 2147483647) (show (0 : Int) < 32749 by decide); omega
      refine ⟨_, _, rfl, rfl, (by show (0 : Int) < 2147483629; decide), _, _, rfl, rfl, ⟨by decide, by decide⟩, _, rfl, _, _, rfl, rfl, h0, ?_⟩
      exact k _ _ (Int.emod_nonneg _ (by omega)) (Int.emod_lt_of_pos _ h0) ⟨_, _, upd_same⟩ (Kp.refl b H).bag
theorem scBag : FnScope ["script", "k", "cell", "seed"] ["script", "k"] (defScope (top 6)) := ⟨rfl, rfl, rfl, by decide +kernel, rfl, by decide +kernel, by decide +kernel⟩
theorem ok_bag {f : Addr} {fd : FuncData} (F : Fun K "_law_bag" "_law_bag" (top 6) f fd) (B : Nm mg) : FnOk P w K mg base CX0 1 f fd ["script", "k"] (spBag K) := by
  refine F.ok scBag (fun vs H Q E h => ?_) (fun cdv A outer s H vs Q E hr h => ?_)
  · obtain ⟨a, ns, k, rfl, _⟩ := h; rfl
  · obtain ⟨a, ns, k, rfl, hS, h0, h1, q⟩ := h
    refine ⟨_, pss_cons (ps_set (i := 2) scBag.nd rfl (Or.inl rfl) pe_int)
      (pss_cons (ps_if (pt_cmpR op_lt (pv 1) (pe_callB call_len_seq (by rfl) B.len PySem.boot_len (pa_cons (pv 0) pa_nil)) (nomark _))
        (pss_one (ps_set (i := 2) scBag.nd rfl (Or.inl rfl) (pe_op op_mod (pe_ix ix_list (pv 0) (pv 1) (fun _ _ => rfl)) (pe_op op_pow pe_int pe_int)))) pss_nil)
      (pss_cons (ps_set (i := 3) scBag.nd rfl (Or.inl rfl) (pe_op op_add pe_int (pe_op op_mod (pe_op op_add (pe_op op_add (pe_op op_add (pe_op op_mul (pe_op op_mod (pv 2) pe_int) pe_int) (pe_op op_mul (pe_op op_mul pe_int (pv 1)) (pv 1))) (pe_op op_mul pe_int (pv 1))) pe_int) pe_int)))
      (pss_cons (ps_if (pt_cmpR op_lt (pv 2) (pe_op op_pow pe_int pe_int) (nomark _)) (pss_one (ps_ret (pe_lst (pa_cons pe_int (pa_cons (pv 3) pa_nil))))) pss_nil)
      (pss_one (ps_ret (pe_lst (pa_cons (pv 2) (pa_cons (pv 3) pa_nil)))))))), ?_⟩
    refine ⟨_, rfl, _, rfl, a, _, rfl, .inl hS, _, _, rfl, rfl, _, rfl, ?_⟩
    refine ite2 (fun hc => ?wayA) (fun hc => ?wayB)
    case' wayA =>
      have hk : k < (ns.length : Int) := by simpa using of_decide_eq_true hc
      have hat : atI (ns.map V.int) k = some (V.int (ns.getD k.toNat 0)) := by
        have e : (ns.map V.int)[k.toNat]? = some (V.int (ns.getD k.toNat 0)) := by
          have hl : k.toNat < ns.length := by omega
          rw [List.getElem?_map, List.getElem?_eq_getElem hl]
          simp [List.getD, List.getElem?_eq_getElem hl]
        have := atI_nat e
        rw [Int.toNat_of_nonneg h0] at this
        exact this
      refine ⟨_, rfl, _, rfl, a, _, _, _, rfl, rfl, hS, hat, _, _, rfl, rfl, ⟨by decide, by decide, by decide⟩, _, _, rfl, rfl, (by show (0 : Int) < 10 ^ 60; decide), ?_⟩
    all_goals
      refine ⟨_, rfl, _, _, rfl, rfl, (by show (0 : Int) < 2147483629; decide), _, _, rfl, rfl, .inr ⟨by decide, by decide⟩, ?_⟩
      refine ⟨_, rfl, _, _, rfl, rfl, .inl ⟨by decide, by decide⟩, _, rfl, _, _, rfl, rfl, .inr ⟨by omega, by omega⟩, _, _, rfl, rfl, ?_⟩
      refine ⟨_, rfl, _, _, rfl, rfl, .inl ⟨by decide, by decide⟩, _, _, rfl, rfl, _, _, rfl, rfl, _, _, rfl, rfl, (by show (0 : Int) < 2147483645; decide), _, _, rfl, rfl, ?_⟩
      refine ⟨_, rfl, _, _, rfl, rfl, ⟨by decide, by decide, by decide⟩, _, _, rfl, rfl, _, rfl, ?_⟩
      refine ite2 (fun hc => ?_) (fun hc => ?_)
      · exact ⟨_, rfl, by show 2 ≤ sizeLine; decide, fun p hp => q p _ _ hp⟩
      · exact ⟨_, rfl, _, rfl, by show 2 ≤ sizeLine; decide, fun p hp => q p _ _ hp⟩
end
end K29

set_option Elab.async false
set_option linter.all false
set_option maxRecDepth 100000
set_option maxHeartbeats 4000000
namespace K29
open PySem L2 KG EX KM
section
variable {P : Program} {w : World} {K : PySem.W.Frag} {mg : Str → Option Value} {base : Heap}
abbrev NBt : List Str := ["bag", "hands", "goods", "rows", "far", "rare", "most", "row", "hand", "good", "some"]
theorem scBt : FnScope NBt ["bag"] (defScope (top 8)) := ⟨rfl, rfl, rfl, by decide +kernel, rfl, by decide +kernel, by decide +kernel⟩
theorem ok_bt {f fT : Addr} {fd dT : FuncData} (F : Fun K "_law_barter" "_law_barter" (top 8) f fd) (N : Nm mg) (T : Cal K mg P w base "_law_take" 1 ["bag", "many"] spTake fT dT) : FnOk P w K mg base CX0 2 f fd ["bag"] spBt := by
  refine F.ok scBt (fun vs H Q E h => ?_) (fun cdv A' outer s H vs Q E hr h => ?_)
  · obtain ⟨b, rfl, _⟩ := h; rfl
  · obtain ⟨b, rfl, hb, k⟩ := h
    refine ⟨_, pss_cons (ps_set (i := 1) scBt.nd rfl (Or.inl rfl) (pe_op op_add pe_int (pe_call T.ok hr rfl T.mg T.kp T.bd .nil pass0 (pa_cons (pv 0) (pa_cons (pe_ix ixL0 (pe_lst (pa_cons pe_int (pa_cons pe_int pa_nil))) (pe_call T.ok hr rfl T.mg T.kp T.bd .nil pass0 (pa_cons (pv 0) (pa_cons pe_int pa_nil))) (fun _ _ => rfl)) pa_nil)))))
      (pss_cons (ps_set (i := 2) scBt.nd rfl (Or.inl rfl) (pe_op op_add pe_int (pe_call T.ok hr rfl T.mg T.kp T.bd .nil pass0 (pa_cons (pv 0) (pa_cons (pe_ix ixL0 (pe_lst (pa_cons pe_int (pa_cons pe_int pa_nil))) (pe_call T.ok hr rfl T.mg T.kp T.bd .nil pass0 (pa_cons (pv 0) (pa_cons pe_int pa_nil))) (fun _ _ => rfl)) pa_nil)))))
      (pss_cons (ps_set (i := 3) scBt.nd rfl (Or.inl rfl) (pe_lst pa_nil))
      (pss_cons (ps_for PassesOwn.never rfl (piL0 (pe_lst (pa_cons (pe_lst (pa_cons pe_int (pa_cons pe_int pa_nil))) (pa_cons (pe_lst (pa_cons pe_int (pa_cons (pe_op op_add pe_int (pe_call T.ok hr rfl T.mg T.kp T.bd .nil pass0 (pa_cons (pv 0) (pa_cons pe_int pa_nil)))) pa_nil))) pa_nil)))) (pgLst0 (n := 2) rfl (pgs_cons (pg_name (i := 4) scBt.nd rfl (Or.inl rfl)) (pgs_cons (pg_name (i := 5) scBt.nd rfl (Or.inr rfl)) pgs_nil)))
        (pss_cons (ps_set (i := 6) scBt.nd rfl (Or.inr rfl) (pe_ix ixL0 (pe_lst (pa_cons pe_int (pa_cons (pv 4) pa_nil))) (pe_call T.ok hr rfl T.mg T.kp T.bd .nil pass0 (pa_cons (pv 0) (pa_cons pe_int pa_nil))) (fun _ _ => rfl)))
        (pss_cons (ps_set (i := 7) scBt.nd rfl (Or.inl rfl) (pe_lst pa_nil))
        (pss_cons (ps_for PassesOwn.never rfl (pi_range1 rfl N.range (pa_cons (pv 1) pa_nil)) (pg_name (i := 8) scBt.nd rfl (Or.inl rfl))
          (pss_cons (ps_setC (i := 10) (own := ["good"]) (cap := ["bag", "most"]) (ix := [0, 6]) scBt.nd rfl rfl (BlkOk.of (defScope (top 8)).names NBt) rfl (pi_range1 rfl N.range (pa_cons (pv 2) pa_nil))
            (fun C fp s H => ⟨pg_name (i := 0) (show List.Nodup (["good", "bag", "most"] : List Str) by decide +kernel) rfl (Or.inl rfl), pifs_nil, (pe_call T.ok hr rfl T.mg T.kp T.bd .nil pass0 (pa_cons (pv 1) (pa_cons (pv 2) pa_nil)))⟩))
          (pss_one (ps_expr (peBm0 PySem.F.plainAttrs_list PySem.F.slot_list_append PySem.F.type_list_append mt_append (pv 7) (pa_cons (pe_comp (own := ["one"]) (cap := ["bag", "rare"]) (ix := [0, 5]) (BlkOk.of (defScope (top 8)).names NBt) rfl (piL0 (pv 10))
            (fun C fp s H => ⟨pg_name (i := 0) (show List.Nodup (["one", "bag", "rare"] : List Str) by decide +kernel) rfl (Or.inl rfl), pifs_nil, pe_op op_mul (pv 0) (pe_callTy call_int1 (by rfl) N.int boot_int (pa_cons (pe_cmpR op_eq (pe_call T.ok hr rfl T.mg T.kp T.bd .nil pass0 (pa_cons (pv 1) (pa_cons (pv 2) pa_nil))) pe_int (nomark _)) pa_nil))⟩)) pa_nil))))))
        (pss_cons (ps_for PassesOwn.never rfl (pi_range1 rfl N.range (pa_cons (pv 1) pa_nil)) (pg_name (i := 8) scBt.nd rfl (Or.inl rfl))
          (pss_cons (ps_set (i := 9) scBt.nd rfl (Or.inr rfl) (pe_call T.ok hr rfl T.mg T.kp T.bd .nil pass0 (pa_cons (pv 0) (pa_cons (pv 2) pa_nil))))
          (pss_one (ps_asg (pe_callB (call_max2 rfl) (by rfl) N.max boot_max (pa_cons pe_int (pa_cons (pe_ix ixL0 (pe_ix ixL0 (pv 7) (pv 8) (fun _ _ => rfl)) (pv 9) (fun _ _ => rfl)) pa_nil))) (pg_sub (pe_ix ixL0 (pv 7) (pv 8) (fun _ _ => rfl)) (pv 9) set_list)))))
        (pss_cons (ps_for PassesOwn.never rfl (pi_range1 rfl N.range (pa_cons (pv 2) pa_nil)) (pg_name (i := 9) scBt.nd rfl (Or.inr rfl))
          (pss_cons (ps_set (i := 8) scBt.nd rfl (Or.inl rfl) (pe_call T.ok hr rfl T.mg T.kp T.bd .nil pass0 (pa_cons (pv 0) (pa_cons (pv 1) pa_nil))))
          (pss_one (ps_if (pt_cmpR op_eq (pe_callB (cSum0 rfl) (by rfl) N.sum boot_sum (pa_cons (pe_comp (own := ["one"]) (cap := ["good"]) (ix := [9]) (BlkOk.of (defScope (top 8)).names NBt) rfl (piL0 (pv 7))
              (fun C fp s H => ⟨pg_name (i := 0) (show List.Nodup (["one", "good"] : List Str) by decide +kernel) rfl (Or.inl rfl), pifs_nil, pe_ix ixL0 (pv 0) (pv 1) (fun _ _ => rfl)⟩)) pa_nil)) pe_int (nomark _))
            (pss_one (ps_asg (pe_op op_add pe_int (pe_call T.ok hr rfl T.mg T.kp T.bd .nil pass0 (pa_cons (pv 0) (pa_cons (pe_op op_sub (pv 6) pe_int) pa_nil)))) (pg_sub (pe_ix ixL0 (pv 7) (pv 8) (fun _ _ => rfl)) (pv 9) set_list))) pss_nil))))
        (pss_one (ps_expr (peBm0 PySem.F.plainAttrs_list PySem.F.slot_list_append PySem.F.type_list_append mt_append (pv 3) (pa_cons (pe_callTy cTup0 (by rfl) N.tuple boot_tuple (pa_cons (pe_comp (own := ["one"]) (cap := []) (ix := []) (BlkOk.of (defScope (top 8)).names NBt) rfl (piL0 (pv 7))
            (fun C fp s H => ⟨pg_name (i := 0) (show List.Nodup (["one"] : List Str) by decide +kernel) rfl (Or.inl rfl), pifs_nil, pe_callTy cTup0 (by rfl) N.tuple boot_tuple (pa_cons (pv 0) pa_nil)⟩)) pa_nil)) pa_nil))))))))))
      (pss_one (ps_ret (pe_tup (pa_cons (pe_ix ixL0 (pv 3) pe_int (fun _ _ => rfl)) (pa_cons (pe_ix ixL0 (pv 3) pe_int (fun _ _ => rfl)) pa_nil)))))))), ?_⟩
    -- hands
    refine ⟨_, rfl, by show 2 ≤ sizeLine; decide, fun p1 hp1 => ⟨_, rfl, b, _, rfl, hb.new hp1, by decide, by decide, fun r1 H1 r1a r1b hb1 kp1 => ?_⟩⟩
    obtain ⟨m1, em1, m1a, m1b⟩ := menu2 r1a r1b
    refine ⟨p1, _, _, _, rfl, rfl, SqL.of (kp1 p1 _ (hb.ne hp1).symm upd_same), em1, b, m1, rfl, hb1, m1a, by omega, fun u H2 u0 u1 hb2 kp2 => ⟨_, _, rfl, rfl, ?_⟩⟩
    have k2 : Kp b H H2 := (((Kp.refl b H).new hp1).trans kp1).trans kp2
    -- goods
    refine ⟨_, rfl, by show 2 ≤ sizeLine; decide, fun p3 hp3 => ⟨_, rfl, b, _, rfl, hb2.new hp3, by decide, by decide, fun r3 H3 r3a r3b hb3 kp3 => ?_⟩⟩
    obtain ⟨m3, em3, m3a, m3b⟩ := menu2 r3a r3b
    refine ⟨p3, _, _, _, rfl, rfl, SqL.of (kp3 p3 _ (hb2.ne hp3).symm upd_same), em3, b, m3, rfl, hb3, m3a, by omega, fun g H4 g0 g1 hb4 kp4 => ⟨_, _, rfl, rfl, ?_⟩⟩
    have k4 : Kp b H H4 := ((k2.new hp3).trans kp3).trans kp4
    obtain ⟨n, hn⟩ : ∃ n : Nat, 1 + u = (n : Int) := ⟨(1 + u).toNat, by omega⟩
    obtain ⟨c, hc⟩ : ∃ c : Nat, 1 + g = (c : Int) := ⟨(1 + g).toNat, by omega⟩
    dsimp only
    rw [hn, hc]
    have n1 : 1 ≤ n := by omega
    have n6 : n ≤ 6 := by omega
    have c1 : 1 ≤ c := by omega
    have c6 : c ≤ 6 := by omega
    -- rows
    refine ⟨by show 0 ≤ sizeLine; decide, fun pr hpr => ?_⟩
    have hHpr : H pr = none := k4.free hb hpr hb4
    have hb5 := hb4.new (o := .lst []) hpr
    have k5 := k4.new (o := .lst []) hpr
    have e5 : (upd H4 pr (.lst [])) pr = some (.lst []) := upd_same
    generalize upd H4 pr (.lst []) = H5 at hb5 k5 e5 ⊢
    -- the list of the loop
    refine ⟨by show 2 ≤ sizeLine; decide, fun l1 hl1 => ⟨_, rfl, b, _, rfl, hb5.new hl1, by decide, by decide, fun r6 H6 r6a r6b hb6 kp6 => ⟨_, _, rfl, rfl, by show 2 ≤ sizeLine; decide, fun l2 hl2 => ⟨by show 2 ≤ sizeLine; decide, fun lo hlo => ⟨lo, rfl, ⟨_, SqL.of upd_same⟩, ?_⟩⟩⟩⟩⟩
    have nb1 := hb5.ne hl1
    have npb : pr ≠ b := (hb.ne hHpr).symm
    have n1p : l1 ≠ pr := fun z => by rw [z, e5] at hl1; cases hl1
    have e61 : H6 l1 = some (.lst [.int 11, .int 2]) := kp6 l1 _ nb1.symm upd_same
    have e6p : H6 pr = some (.lst []) := kp6 pr _ npb (by rw [upd_ne n1p.symm]; exact e5)
    have n2p : l2 ≠ pr := fun z => by rw [z, e6p] at hl2; cases hl2
    have s7 := ((Stay.refl H6).new (o := .lst [.int 101, .int (1 + r6)]) hl2).new (o := .lst [.ref l1, .ref l2]) hlo
    have e72 : (upd (upd H6 l2 (.lst [.int 101, .int (1 + r6)])) lo (.lst [.ref l1, .ref l2])) l2 = some (.lst [.int 101, .int (1 + r6)]) := ((Stay.refl (upd H6 l2 (.lst [.int 101, .int (1 + r6)]))).new (o := .lst [.ref l1, .ref l2]) hlo) _ _ upd_same
    have e7o : (upd (upd H6 l2 (.lst [.int 101, .int (1 + r6)])) lo (.lst [.ref l1, .ref l2])) lo = some (.lst [.ref l1, .ref l2]) := upd_same
    have k7 : Kp b H (upd (upd H6 l2 (.lst [.int 101, .int (1 + r6)])) lo (.lst [.ref l1, .ref l2])) := ((k5.new hl1).trans kp6).trans (Stay.kpb s7)
    have hb7 := Bag.stay hb6 s7
    have e71 := s7 _ _ e61
    have e7p := s7 _ _ e6p
    have nop : lo ≠ pr := fun z => by rw [← z, e7o] at e7p; cases e7p
    generalize upd (upd H6 l2 (.lst [.int 101, .int (1 + r6)])) lo (.lst [.ref l1, .ref l2]) = H7 at e72 e7o k7 hb7 e71 e7p ⊢
    have n2b : l2 ≠ b := (hb6.ne hl2).symm
    clear s7 hlo hl2
    have n1b : l1 ≠ b := nb1.symm
    have nob : lo ≠ b := fun z => by rw [z] at e7o; obtain ⟨c1, c2, e⟩ := hb7; rw [e] at e7o; cases e7o
    refine for_list (xs := [.ref l1, .ref l2]) (fun i σ H' => (∃ y4 y5 y6 y7 y8 y9 y10, σ = [some (.ref b), some (.int n), some (.int c), some (.ref pr), y4, y5, y6, y7, y8, y9, y10]) ∧ Bag H' b ∧ Kp b H H' ∧ H' l1 = some (.lst [.int 11, .int 2]) ∧ H' l2 = some (.lst [.int 101, .int (1 + r6)]) ∧ H' lo = some (.lst [.ref l1, .ref l2]) ∧
        ∃ ts, H' pr = some (.lst ts) ∧ ts.length = i ∧ ∀ (j : Nat) t, ts[j]? = some t → ∃ a xs M, t = .ref a ∧ H' a = some (.tup xs) ∧ Rws H' xs M ∧ MOk n c (if j = 0 then 10 else 100) M ∧ (∀ i, i < n → RowP M c i) ∧ (∀ j, j < c → ColP M n j))
      ⟨⟨_, _, _, _, _, _, _, rfl⟩, hb7, k7, e71, e72, e7o, [], e7p, rfl, fun j t ht => by simp at ht⟩ (fun i σ H' _ z => SqL.of z.2.2.2.2.2.1) ?step ?fin
    case fin =>
      rintro σ H8 ⟨⟨y4, y5, y6, y7, y8, y9, y10, rfl⟩, hb8, k8, _, _, _, ts, hts, htl, hall⟩
      match ts, htl with
      | [t0, t1], _ =>
      obtain ⟨a0, x0, M0, rfl, ha0, R0, O0, rp0, cp0⟩ := hall 0 t0 rfl
      obtain ⟨a1, x1, M1, rfl, ha1, R1, O1, rp1, cp1⟩ := hall 1 t1 rfl
      refine ⟨_, rfl, pr, _, _, _, rfl, rfl, SqL.of hts, rfl, _, rfl, pr, _, _, _, rfl, rfl, SqL.of hts, rfl, by show 2 ≤ sizeLine; decide, fun p hp => ?_⟩
      have s9 := (Stay.refl H8).new (o := .tup [.ref a0, .ref a1]) hp
      have hm0 : ∀ r ∈ M0, r.length = c := fun r hr => by
        obtain ⟨i, hi, e⟩ := List.getElem_of_mem hr
        have := O0.row i (by rw [← O0.len]; exact hi)
        rw [getD_of (List.getElem?_eq_getElem hi), e] at this; exact this
      have hm1 : ∀ r ∈ M1, r.length = c := fun r hr => by
        obtain ⟨i, hi, e⟩ := List.getElem_of_mem hr
        have := O1.row i (by rw [← O1.len]; exact hi)
        rw [getD_of (List.getElem?_eq_getElem hi), e] at this; exact this
      refine k p a0 a1 x0 x1 M0 M1 c _ (hb8.new hp) (k8.new hp) ⟨upd_same, s9 _ _ ha0, s9 _ _ ha1, R0.keep s9.tm, R1.keep s9.tm, by rw [O0.len, O1.len], by rw [O0.len]; exact n1, by rw [O0.len]; exact n6, c1, c6, hm0, hm1⟩ ?_
      rw [O0.len]
      exact ⟨O0, O1, rp0, rp1, cp0, cp1⟩
    case step =>
      rintro i x σ H8 hx ⟨⟨y4, y5, y6, y7, y8, y9, y10, rfl⟩, hb8, k8, e81, e82, e8o, ts, hts, htl, hall⟩
      obtain ⟨lx, far, rare, rfl, hlx, hfar, hfar2, hra, hrb⟩ : ∃ (lx : Addr) (far rare : Int), x = .ref lx ∧ H8 lx = some (.lst [.int far, .int rare]) ∧ far - 1 = (if i = 0 then 10 else 100) ∧ 11 ≤ far ∧ 1 ≤ rare ∧ rare ≤ 4 := by
        match i, hx with
        | 0, hx => exact ⟨l1, 11, 2, by simpa using hx.symm, e81, rfl, by decide, by decide, by decide⟩
        | 1, hx => exact ⟨l2, 101, 1 + r6, by simpa using hx.symm, e82, rfl, by decide, by omega, by omega⟩
      have hfar3 : far ≤ 101 := by split at hfar <;> omega
      refine ⟨lx, _, rfl, SqL.of hlx, rfl, _, _, rfl, _, _, rfl, rfl, ?_⟩
      -- most
      refine ⟨_, rfl, by show 2 ≤ sizeLine; decide, fun pm hpm => ⟨_, rfl, b, _, rfl, hb8.new hpm, by decide, by decide, fun r9 H9 r9a r9b hb9 kp9 => ?_⟩⟩
      obtain ⟨m, em, m2, mf⟩ := menuF (far := far) r9a r9b (by omega)
      refine ⟨pm, _, _, _, rfl, rfl, SqL.of (kp9 pm _ (hb8.ne hpm).symm upd_same), em, ?_⟩
      have k89 : Kp b H8 H9 := ((Kp.refl b H8).new hpm).trans kp9
      clear kp9
      -- row
      refine ⟨by show 0 ≤ sizeLine; decide, fun pw hpw => ?_⟩
      have hbA := hb9.new (o := .lst []) hpw
      have kA := (Kp.refl b H9).new (o := .lst []) hpw
      have mA : Mat H9 (upd H9 pw (.lst [])) pw [] := Mat.nil upd_same hpw
      generalize upd H9 pw (.lst []) = HA at hbA kA mA ⊢
      refine ⟨_, rfl, (n : Int), rfl, by omega, by omega, ?_⟩
      rw [Int.toNat_natCast]
      refine for_range (fun j σ H' => (∃ z8 z9 z10, σ = [some (.ref b), some (.int n), some (.int c), some (.ref pr), some (.int far), some (.int rare), some (.int m), some (.ref pw), z8, z9, z10]) ∧ Bag H' b ∧ Kp b H9 H' ∧ ∃ M, Mat H9 H' pw M ∧ MOk j c (far - 1) M)
        ⟨⟨_, _, _, rfl⟩, hbA, kA, [], mA, ⟨rfl, fun i hi => absurd hi (by omega), fun i j hi => absurd hi (by omega)⟩⟩ ?s1 ?f1
      case s1 =>
        rintro j σ HB hj ⟨⟨z8, z9, z10, rfl⟩, hbB, kB, M, mB, oB⟩
        refine ⟨_, rfl, (c : Int), rfl, by omega, by omega, fun a1 ha1 => ?_⟩
        rw [Int.toNat_natCast]
        refine comp_bag hbB ha1 (by omega) (fun _ v => ∃ x : Int, v = .int x ∧ 0 ≤ x ∧ x ≤ far - 1) (fun _ _ _ _ h => h) (fun i H' hi hb' kp' Z hZ => ?_) (fun ys HC hbC kpC hlC hrC hyC => ?_)
        · exact ⟨_, rfl, _, rfl, b, m, rfl, hb', by omega, by omega, fun r H5 p0 p1 hb5 kp5 => hZ _ _ hb5 kp5 ⟨r, rfl, p0, by omega⟩⟩
        obtain ⟨ns, rfl, hns⟩ := ints_of hrC
        rw [List.length_map] at hlC
        have mC := mB.kp hb9 kpC
        obtain ⟨xs, hxs, hxl, _⟩ := mC.list
        refine ⟨_, rfl, .inl ⟨rfl, _, SqL.of hxs⟩, _, rfl, a1, rfl, ⟨_, SqL.of hyC⟩, fun a2 ha2 => ?_⟩
        have nab : a1 ≠ b := fun z => by obtain ⟨c1, c2, e⟩ := hbB; rw [z, e] at ha1; cases ha1
        refine comp_bagL hbC ha2 (by rw [List.length_map]; omega) hyC nab (fun _ v => ∃ x : Int, v = .int x ∧ 0 ≤ x ∧ x ≤ far - 1) (fun i x H' hxi hb' kp' Z hZ => ?_) (fun ys HD hbD kpD hlD hrD hyD => ?_)
        · obtain ⟨hi, rfl⟩ := ints_get hxi
          have hx0 := hns _ (List.getElem_mem hi)
          have hxd : ns.getD i 0 = ns[i] := getD_of (List.getElem?_eq_getElem hi)
          rw [hxd]
          refine ⟨_, rfl, _, rfl, _, rfl, b, rare, rfl, hb', by omega, by omega, fun r H5 p0 p1 hb5 kp5 => ⟨rfl, .inr ⟨_, rfl, _, _, rfl, rfl, .inr ⟨by split <;> omega, by split <;> omega⟩, hZ _ _ hb5 kp5 ⟨_, rfl, ?_, ?_⟩⟩⟩⟩
          · split <;> omega
          · split <;> omega
        obtain ⟨ms, rfl, hms⟩ := ints_of (R := fun x => 0 ≤ x ∧ x ≤ far - 1) fun y hy => by
          obtain ⟨i, hi, e⟩ := List.getElem_of_mem hy
          obtain ⟨x, hx⟩ := hrD i y (by rw [List.getElem?_eq_getElem hi, e])
          exact ⟨x, hx⟩
        have hmsl : ms.length = c := by rw [List.length_map, List.length_map] at hlD; omega
        obtain ⟨zs, hzs, hzl, mE⟩ := mC.push (c := a2) (r := ms) ha2 (kB.trans kpC |>.free hb9 ha2 hbC) (fun a o hn e => kpD a o (hb9.ne hn).symm e) hyD
        refine ⟨pw, zs, .ref a2, rfl, rfl, hzs, by rw [hzl, oB.len, sz]; omega, ⟨_, _, _, rfl⟩, hbD.acc (hb9.ne mB.free), ((kB.trans kpC).trans kpD).acc mB.free, _, mE, ?_⟩
        have eold : ∀ i, i < j → (M ++ [ms]).getD i [] = M.getD i [] := fun i hi => by simp [List.getD, List.getElem?_append_left (show i < M.length by rw [oB.len]; exact hi)]
        have enew : (M ++ [ms]).getD j [] = ms := by rw [← oB.len]; simp [List.getD]
        refine ⟨by rw [List.length_append, oB.len]; rfl, fun i hi => ?_, fun i j' hi hj' => ?_⟩
        · by_cases z : i < j
          · rw [eold i z]; exact oB.row i z
          · obtain rfl : i = j := by omega
            rw [enew]; exact hmsl
        · unfold ent
          by_cases z : i < j
          · rw [eold i z]; exact oB.bd i j' z hj'
          · obtain rfl : i = j := by omega
            rw [enew, show ms.getD j' 0 = ms[j']'(by omega) from getD_of (List.getElem?_eq_getElem (by omega))]
            exact hms _ (List.getElem_mem _)
      case f1 =>
      rintro σ HB ⟨⟨z8, z9, z10, rfl⟩, hbB, kB, M, mB, oB⟩
      -- each hand has something
      refine ⟨_, rfl, (n : Int), rfl, by omega, by omega, ?_⟩
      rw [Int.toNat_natCast]
      refine for_range (fun j σ H' => (∃ z8 z9 z10, σ = [some (.ref b), some (.int n), some (.int c), some (.ref pr), some (.int far), some (.int rare), some (.int m), some (.ref pw), z8, z9, z10]) ∧ Bag H' b ∧ Kp b H9 H' ∧ ∃ M, Mat H9 H' pw M ∧ MOk n c (far - 1) M ∧ ∀ i, i < j → RowP M c i)
        ⟨⟨_, _, _, rfl⟩, hbB, kB, M, mB, oB, fun i hi => absurd hi (by omega)⟩ ?s2 ?f2
      case s2 =>
        clear mB oB M kB hbB
        rintro j σ HC hj ⟨⟨z8, z9, z10, rfl⟩, hbC, kC, M, mC, oC, rp⟩
        rw [Int.zero_add]
        refine ⟨_, rfl, _, rfl, b, (c : Int), rfl, hbC, by omega, by omega, fun r HD r0 r1 hbD kpD => ?_⟩
        have mD := mC.kp hb9 kpD
        obtain ⟨xs, a, hxs, hxl, ea, _, ha, hfa, hset⟩ := mD.row (i := j) (by rw [oC.len]; exact hj)
        have hrl := oC.row j hj
        obtain ⟨eb, ex, _⟩ := atI_ints (ns := M.getD j []) (r := r) r0 (by rw [hrl]; exact r1)
        obtain ⟨q0, rfl⟩ : ∃ q : Nat, r = (q : Int) := ⟨r.toNat, by omega⟩
        rw [Int.toNat_natCast] at eb ex
        refine ⟨_, rfl, _, rfl, pw, _, _, _, rfl, rfl, SqL.of hxs, ea, _, rfl, a, _, _, _, rfl, rfl, SqL.of ha, eb, _, _, rfl, ?_⟩
        refine ⟨_, rfl, _, rfl, pw, _, _, _, rfl, rfl, SqL.of hxs, ea, _, rfl, a, _, _, q0, rfl, rfl, ha, ex, ?_⟩
        have hbd := oC.bd j q0 hj (by omega)
        have hv : ent M j q0 = (M.getD j []).getD q0 0 := rfl
        have es : ((M.getD j []).map V.int).set q0 (V.int (if (M.getD j []).getD q0 0 > 1 then (M.getD j []).getD q0 0 else 1)) = ((M.getD j []).set q0 (if (M.getD j []).getD q0 0 > 1 then (M.getD j []).getD q0 0 else 1)).map V.int := by rw [List.map_set]
        rw [es]
        refine ⟨⟨_, _, _, rfl⟩, hbD.acc (hb9.ne hfa), (kC.trans kpD).acc hfa, put2 M j q0 (if (M.getD j []).getD q0 0 > 1 then (M.getD j []).getD q0 0 else 1), hset _, oC.put hj (by omega) (by split <;> omega) (by rw [← hv]; split <;> omega), fun i hi => RowP.put oC hj (by omega) (by split <;> omega) ?_⟩
        by_cases z : i = j
        · exact .inl z
        · exact .inr (rp i (by omega))
      case f2 =>
      clear mB oB M kB hbB
      rintro σ HB ⟨⟨z8, z9, z10, rfl⟩, hbB, kB, M, mB, oB, rp⟩
      -- each good has something
      refine ⟨_, rfl, (c : Int), rfl, by omega, by omega, ?_⟩
      rw [Int.toNat_natCast]
      refine for_range (fun j σ H' => (∃ z8 z9 z10, σ = [some (.ref b), some (.int n), some (.int c), some (.ref pr), some (.int far), some (.int rare), some (.int m), some (.ref pw), z8, z9, z10]) ∧ Bag H' b ∧ Kp b H9 H' ∧ ∃ M, Mat H9 H' pw M ∧ MOk n c (far - 1) M ∧ (∀ i, i < n → RowP M c i) ∧ ∀ i, i < j → ColP M n i)
        ⟨⟨_, _, _, rfl⟩, hbB, kB, M, mB, oB, rp, fun i hi => absurd hi (by omega)⟩ ?s3 ?f3
      case s3 =>
        clear mB oB M kB hbB rp
        rintro j σ HC hj ⟨⟨z8, z9, z10, rfl⟩, hbC, kC, M, mC, oC, rp, cp⟩
        rw [Int.zero_add]
        refine ⟨_, rfl, _, rfl, b, (n : Int), rfl, hbC, by omega, by omega, fun r HD r0 r1 hbD kpD => ?_⟩
        have mD := mC.kp hb9 kpD
        obtain ⟨q0, rfl⟩ : ∃ q : Nat, r = (q : Int) := ⟨r.toNat, by omega⟩
        obtain ⟨xs, hxs, hxl, hxr⟩ := mD.list
        refine ⟨_, rfl, pw, rfl, ⟨_, SqL.of hxs⟩, fun a1 ha1 => ?_⟩
        refine pr_list (xs := xs) (fun _ => true) (fun i => V.int (ent M i j)) ha1 (by rw [hxl, oC.len]; omega) hxs (fun i x H' Z _ _ h => h H' (Stay.refl H')) (fun i x H' Z hx _ st h => ?_) (fun HE sE hyE => ?_)
        · obtain ⟨a, rfl, _, ha⟩ := hxr i x hx
          have hi : i < n := by rw [← oC.len, ← hxl]; exact (List.getElem?_eq_some_iff.mp hx).1
          have hrl := oC.row i hi
          obtain ⟨eb, _, _⟩ := atI_ints (ns := M.getD i []) (r := (j : Int)) (by omega) (by rw [hrl]; omega)
          rw [Int.toNat_natCast] at eb
          exact ⟨_, rfl, _, rfl, a, _, _, _, rfl, rfl, SqL.of (st _ _ ha), eb, h H' (Stay.refl H')⟩
        have ey : ((List.range xs.length).filter fun _ => true).map (fun i => V.int (ent M i j)) = ((List.range n).map fun i => ent M i j).map V.int := by
          rw [hxl, oC.len, List.map_map, List.filter_eq_self.mpr (fun _ _ => rfl)]; rfl
        rw [ey] at hyE
        refine ⟨a1, _, rfl, .inl (SqL.of hyE), rfl, _, rfl, ?_⟩
        have mE := mD.stay sE
        have kE := (kC.trans kpD).trans (Stay.kpb sE)
        have hbE := Bag.stay hbD sE
        obtain ⟨_, hsum⟩ := sum_pos (ns := (List.range n).map fun i => ent M i j) fun x hx => by
          obtain ⟨i, hi, rfl⟩ := List.mem_map.mp hx
          exact (oC.bd i j (List.mem_range.mp hi) hj).1
        refine ite2 (fun hz => ?_) (fun hz => ?_)
        · refine ⟨_, rfl, _, rfl, _, _, rfl, rfl, b, m - 1, rfl, hbE, by omega, by omega, fun v HF v0 v1 hbF kpF => ⟨_, _, rfl, rfl, ?_⟩⟩
          have mF := mE.kp hb9 kpF
          obtain ⟨xs, a, hxs, hxl, ea, _, ha, hfa, hset⟩ := mF.row (i := q0) (by rw [oC.len]; omega)
          have hrl := oC.row q0 (by omega)
          obtain ⟨_, ex, _⟩ := atI_ints (ns := M.getD q0 []) (r := (j : Int)) (by omega) (by rw [hrl]; omega)
          rw [Int.toNat_natCast] at ex
          refine ⟨_, rfl, _, rfl, pw, _, _, _, rfl, rfl, SqL.of hxs, ea, _, rfl, a, _, _, j, rfl, rfl, ha, ex, ?_⟩
          have es : ((M.getD q0 []).map V.int).set j (V.int (1 + v)) = ((M.getD q0 []).set j (1 + v)).map V.int := by rw [List.map_set]
          rw [es]
          refine ⟨⟨_, _, _, rfl⟩, hbF.acc (hb9.ne hfa), (kE.trans kpF).acc hfa, put2 M q0 j (1 + v), hset _, oC.put (by omega) hj (by omega) (by omega), fun i hi => RowP.put oC (by omega) hj (by omega) (.inr (rp i hi)), fun i hi => ColP.put oC (by omega) hj (by omega) ?_⟩
          by_cases z : i = j
          · exact .inl z
          · exact .inr (cp i (by omega))
        · refine ⟨⟨_, _, _, rfl⟩, hbE, kE, M, mE, oC, rp, fun i hi => ?_⟩
          by_cases z : i = j
          · subst z
            obtain ⟨x, hx, hp⟩ := hsum (fun e => hz (by rw [e]; rfl))
            obtain ⟨i', hi', rfl⟩ := List.mem_map.mp hx
            exact ⟨i', List.mem_range.mp hi', hp⟩
          · exact cp i (by omega)
      case f3 =>
      clear mB oB M kB hbB rp
      rintro σ HB ⟨⟨z8, z9, z10, rfl⟩, hbB, kB, M, mB, oB, rp, cp⟩
      -- as tuples
      have k8B : Kp b H8 HB := k89.trans kB
      have htsB := k8B _ _ npb hts
      obtain ⟨xs, hxs, hxl, hxr⟩ := mB.list
      refine ⟨_, rfl, .inl ⟨rfl, _, SqL.of htsB⟩, _, rfl, pw, rfl, ⟨_, SqL.of hxs⟩, fun a1 ha1 => ?_⟩
      refine comp_tups ha1 hxs hxl (by rw [oB.len]; omega) (fun i x hx => by obtain ⟨a, e, _, ha⟩ := hxr i x hx; exact ⟨a, e, ha⟩) (fun a ns H' Z ha hZ => ⟨_, rfl, a, _, rfl, .inl ⟨SqL.of ha, hZ⟩⟩) (fun ys HC sC rC hyC => ?_)
      refine ⟨a1, _, rfl, .inl ⟨SqL.of hyC, fun l hl => ?_⟩⟩
      have sD := sC.new (o := .tup ys) hl
      have eD : (upd HC l (.tup ys)) l = some (.tup ys) := upd_same
      have rD := rC.keep ((Stay.refl HC).new (o := .tup ys) hl).tm
      generalize upd HC l (.tup ys) = HD at sD eD rD ⊢
      have k8D := k8B.trans (Stay.kpb sD)
      have hbD := Bag.stay hbB sD
      have htsD := sD _ _ htsB
      refine ⟨pr, ts, .ref l, rfl, rfl, htsD, by rw [htl, sz]; have := (List.getElem?_eq_some_iff.mp hx).1; simp at this; omega, ⟨_, _, _, _, _, _, _, rfl⟩, hbD.acc npb.symm, (k8.trans k8D).acc hHpr, ?_, ?_, ?_, ts ++ [.ref l], upd_same, by rw [List.length_append, htl]; rfl, fun j t ht => ?_⟩
      · rw [upd_ne n1p]; exact k8D _ _ n1b e81
      · rw [upd_ne n2p]; exact k8D _ _ n2b e82
      · rw [upd_ne nop]; exact k8D _ _ nob e8o
      have tm : Tm HD (upd HD pr (.lst (ts ++ [.ref l]))) := Tm.lst htsD
      rcases Nat.lt_or_ge j ts.length with z | z
      · rw [List.getElem?_append_left z] at ht
        obtain ⟨a, xs', M', e, h1, h2, h3⟩ := hall j t ht
        have tm8 := (k8D.tm hb8).trans tm
        exact ⟨a, xs', M', e, tm8 _ _ h1, h2.keep tm8, h3⟩
      · have ej : j = ts.length := by have := (List.getElem?_eq_some_iff.mp ht).1; simp at this; omega
        subst ej
        have et : t = .ref l := by simpa using ht.symm
        subst et
        refine ⟨l, ys, M, rfl, tm _ _ eD, rD.keep tm, ?_, rp, cp⟩
        rw [htl, ← hfar]; exact oB
end
end K29

set_option Elab.async false
set_option linter.all false
set_option maxRecDepth 100000
set_option maxHeartbeats 4000000
namespace K29
open PySem L2 KG EX KM
section
variable {P : Program} {w : World} {K : PySem.W.Frag} {mg : Str → Option Value} {base : Heap}
theorem scBw : FnScope ["brought", "wishes"] ["brought", "wishes"] (defScope (top 3)) := ⟨rfl, rfl, rfl, by decide +kernel, rfl, by decide +kernel, by decide +kernel⟩
theorem ok_bw {f : Addr} {fd : FuncData} (F : Fun K "brings_wished" "brings_wished" (top 3) f fd) (N : Nm mg) (mz : mg "zip" = none) : FnOk P w K mg base CX0 1 f fd ["brought", "wishes"] spBring := by
  refine F.ok scBw (fun vs H Q E h => ?_) (fun cdv A' outer s H vs Q E hr h => ?_)
  · obtain ⟨a, c, r, t, rfl, _⟩ := h; rfl
  · obtain ⟨a, c, r, t, rfl, ha, hc, hl, h6, k⟩ := h
    refine ⟨_, pss_one (ps_ret (pe_callB (cAny0 rfl) (by rfl) N.any boot_any (pa_cons (pe_comp (own := ["number", "wish"]) (cap := []) (ix := []) (BlkOk.of (defScope (top 3)).names ["brought", "wishes"]) rfl (pi_zip0 rfl mz boot_zip (pa_cons (pv 0) (pa_cons (pv 1) pa_nil)))
      (fun C fp s H => ⟨pgTup0 (n := 2) rfl (pgs_cons (pg_name (i := 0) (show List.Nodup (["number", "wish"] : List Str) by decide +kernel) rfl (Or.inl rfl)) (pgs_cons (pg_name (i := 1) (show List.Nodup (["number", "wish"] : List Str) by decide +kernel) rfl (Or.inl rfl)) pgs_nil)), pifs_nil,
        pe_and (pe_cmpR op_gt (pv 0) pe_int (nomark _)) (pe_one (pe_cmpR op_gt (pv 1) pe_int (nomark _)))⟩)) pa_nil))), ?_⟩
    refine ⟨_, rfl, _, rfl, a, c, rfl, ⟨_, SqT.of ha⟩, ⟨_, SqT.of hc⟩, fun acc hacc => ?_⟩
    refine pr_zip (xs := r.map V.int) (ys := t.map V.int) (fun _ => true) (fun j => V.bl (decide (0 < r.getD j 0) && decide (0 < t.getD j 0))) (by rw [List.length_map, List.length_map]; exact hl) hacc (by rw [List.length_map]; omega) ha hc (fun i x y H' Z _ _ _ h => h H' (Stay.refl H')) (fun i x y H' Z hx hy _ st h => ?_) (fun H1 s1 h1 => ?_)
    · obtain ⟨_, rfl⟩ := ints_get hx
      obtain ⟨_, rfl⟩ := ints_get hy
      refine ⟨_, rfl, _, _, rfl, rfl, _, rfl, ?_⟩
      have h' := h H' (Stay.refl H')
      cases hz : decide (0 < r.getD i 0) with
      | true =>
        rw [hz] at h'
        exact iteT ⟨_, rfl, _, _, rfl, rfl, by simpa using h'⟩
      | false =>
        rw [hz] at h'
        exact iteF (by simpa using h')
    · rw [List.length_map, List.filter_eq_self.mpr (fun _ _ => rfl)] at h1
      refine ⟨acc, _, rfl, .inl (SqL.of h1), plain_bl _ _, ?_⟩
      rw [any_bl]
      exact k H1 s1
abbrev NOb : List Str := ["barter", "hands", "brought", "wishes"]
theorem scOb : FnScope NOb ["barter", "hands"] (defScope (top 4)) := ⟨rfl, rfl, rfl, by decide +kernel, rfl, by decide +kernel, by decide +kernel⟩
theorem ok_ob {f : Addr} {fd : FuncData} (F : Fun K "goods_only_brought" "goods_only_brought" (top 4) f fd) (N : Nm mg) : FnOk P w K mg base CX0 1 f fd ["barter", "hands"] spOnly := by
  refine F.ok scOb (fun vs H Q E h => ?_) (fun cdv A' outer s H vs Q E hr h => ?_)
  · obtain ⟨p, pB, pW, l, xB, xW, B, W, g, s, rfl, _⟩ := h; rfl
  · obtain ⟨p, pB, pW, l, xB, xW, B, W, g, s, rfl, m, hl, h6, hs, k⟩ := h
    refine ⟨_, pss_cons (ps_asg (pv 0) (pgTup0 (n := 2) rfl (pgs_cons (pg_name (i := 2) scOb.nd rfl (Or.inr rfl)) (pgs_cons (pg_name (i := 3) scOb.nd rfl (Or.inr rfl)) pgs_nil))))
      (pss_one (ps_ret (pe_comp (own := ["good"]) (cap := ["brought", "hands", "wishes"]) (ix := [2, 1, 3]) (BlkOk.of (defScope (top 4)).names NOb) rfl (pi_range1 rfl N.range (pa_cons (pe_callB cLen0 (by rfl) N.len PySem.boot_len (pa_cons (pe_ix ixT0 (pv 2) pe_int (fun _ _ => rfl)) pa_nil)) pa_nil))
        (fun C fp s H => ⟨pg_name (i := 0) (show List.Nodup (["good", "brought", "hands", "wishes"] : List Str) by decide +kernel) rfl (Or.inr rfl), pifs_one (PW.pt (pw_and (pt_val (pe_callB (cAny0 rfl) (by rfl) N.any boot_any (pa_cons (pe_comp (own := ["hand"]) (cap := ["brought", "good"]) (ix := [1, 0]) (BlkOk.of [(".0", .local), ("good", .cell), ("any", .globalImplicit), ("brought", .cell), ("hands", .cell), ("wishes", .cell)] ["good", "brought", "hands", "wishes"]) rfl (piT0 (pv 2)) (fun C fp s H => ⟨pg_name (i := 0) (show List.Nodup (["hand", "brought", "good"] : List Str) by decide +kernel) rfl (Or.inl rfl), pifs_nil, pe_cmpR op_gt (pe_ix ixT0 (pe_ix ixT0 (pv 1) (pv 0) (fun _ _ => rfl)) (pv 2) (fun _ _ => rfl)) pe_int (nomark _)⟩)) pa_nil))) (pw_and1 (pt_not (pt_val (pe_callB (cAny0 rfl) (by rfl) N.any boot_any (pa_cons (pe_comp (own := ["hand"]) (cap := ["wishes", "good"]) (ix := [3, 0]) (BlkOk.of [(".0", .local), ("good", .cell), ("any", .globalImplicit), ("brought", .cell), ("hands", .cell), ("wishes", .cell)] ["good", "brought", "hands", "wishes"]) rfl (piT0 (pv 2)) (fun C fp s H => ⟨pg_name (i := 0) (show List.Nodup (["hand", "wishes", "good"] : List Str) by decide +kernel) rfl (Or.inl rfl), pifs_nil, pe_cmpR op_gt (pe_ix ixT0 (pe_ix ixT0 (pv 1) (pv 0) (fun _ _ => rfl)) (pv 2) (fun _ _ => rfl)) pe_int (nomark _)⟩)) pa_nil))))))), pv 0⟩)))), ?_⟩
    refine ⟨_, rfl, p, _, rfl, SqT.of m.hp, rfl, _, _, rfl, _, _, rfl, rfl, ?_⟩
    obtain ⟨a0, _, ea0, ha0⟩ := rws_row m.rB (i := 0) m.n1
    have hl0 := row_len m.lB (i := 0) m.n1
    refine ⟨_, rfl, pB, _, _, _, rfl, rfl, SqT.of m.hB, ea0, a0, _, rfl, .inr (SqT.of ha0), (g : Int), by rw [List.length_map, hl0], by omega, by have := m.g6; omega, fun acc hacc => ?_⟩
    rw [Int.toNat_natCast]
    refine pr_range (fun j => (s.any fun h => posM B h j) && !(s.any fun h => posM W h j)) (fun j => V.int ((j : Nat) : Int)) hacc (by have := m.g6; omega) (fun j H1 Z hj s1 h => ?_) (fun j H1 Z hj _ s1 h => ⟨_, rfl, h H1 (Stay.refl H1)⟩) (fun H1 s1 h1 => k acc H1 s1 h1)
    have m1 := m.stay s1
    refine ⟨_, rfl, l, rfl, ⟨_, SqT.of (s1 _ _ hl)⟩, fun a1 ha1 => ?_⟩
    refine mapT (fun x => V.bl (posM B x j)) ha1 (by omega) (s1 _ _ hl) (fun x H2 Z hx s2 hZ => ?_) (fun H2 s2 h2 => ?_)
    · have m2 := m1.stay s2
      exact ix2_read m2.hB m2.rB (hs x hx).1 (hs x hx).2 m2.lB hj rfl rfl rfl ⟨_, _, rfl, rfl, hZ H2 (Stay.refl H2)⟩
    refine ⟨a1, _, rfl, .inl (SqL.of h2), plain_bl _ _, _, rfl, ?_⟩
    rw [any_bl]
    cases hc : s.any fun h => posM B h j with
    | false =>
      rw [hc] at h
      exact iteF (h H2 s2)
    | true =>
      rw [hc] at h
      have m2 := m1.stay s2
      have hl2 := s2 _ _ (s1 _ _ hl)
      refine iteT ⟨_, rfl, l, rfl, ⟨_, SqT.of hl2⟩, fun a2 ha2 => ?_⟩
      refine mapT (fun x => V.bl (posM W x j)) ha2 (by omega) hl2 (fun x H3 Z hx s3 hZ => ?_) (fun H3 s3 h3 => ?_)
      · have m3 := m2.stay s3
        exact ix2_read m3.hW m3.rW (hs x hx).1 (by rw [m3.len]; exact (hs x hx).2) m3.lW hj rfl rfl rfl ⟨_, _, rfl, rfl, hZ H3 (Stay.refl H3)⟩
      refine ⟨a2, _, rfl, .inl (SqL.of h3), plain_bl _ _, _, rfl, ?_⟩
      rw [any_bl]
      exact h H3 (s2.trans s3)
abbrev NSw : List Str := ["barter", "hand", "brought", "wishes", "found", "at", "needed"]
theorem scSw : FnScope NSw ["barter", "hand"] (defScope (top 2)) := ⟨rfl, rfl, rfl, by decide +kernel, rfl, by decide +kernel, by decide +kernel⟩
theorem ok_sw {f fB : Addr} {fd dB : FuncData} (F : Fun K "shut_in_with" "shut_in_with" (top 2) f fd) (N : Nm mg) (mS : mg "sorted" = none) (Bw : Cal K mg P w base "brings_wished" 1 ["brought", "wishes"] spBring fB dB) : FnOk P w K mg base CX0 2 f fd ["barter", "hand"] spShutWith := by
  refine F.ok scSw (fun vs H Q E h => ?_) (fun cdv A' outer s H vs Q E hr h => ?_)
  · obtain ⟨p, pB, pW, xB, xW, B, W, g, h, rfl, _⟩ := h; rfl
  · obtain ⟨p, pB, pW, xB, xW, B, W, g, h, rfl, m, hh, k⟩ := h
    refine ⟨_, pss_cons (ps_asg (pv 0) (pgTup0 (n := 2) rfl (pgs_cons (pg_name (i := 2) scSw.nd rfl (Or.inl rfl)) (pgs_cons (pg_name (i := 3) scSw.nd rfl (Or.inl rfl)) pgs_nil))))
      (pss_cons (ps_set (i := 4) scSw.nd rfl (Or.inr rfl) (pe_lst (pa_cons (pv 1) pa_nil)))
      (pss_cons (ps_set (i := 5) scSw.nd rfl (Or.inl rfl) pe_int)
      (pss_cons (ps_while PassesOwn.never (pt_cmpR op_lt (pv 5) (pe_callB cLen0 (by rfl) N.len PySem.boot_len (pa_cons (pv 4) pa_nil)) (nomark _))
        (pss_cons (ps_set (i := 6) scSw.nd rfl (Or.inr rfl) (pe_ix ixT0 (pv 3) (pe_ix ixL0 (pv 4) (pv 5) (fun _ _ => rfl)) (fun _ _ => rfl)))
        (pss_cons (ps_expr (peBm0 PySem.F.plainAttrs_list PySem.F.slot_list_extend PySem.F.type_list_extend mt_extend (pv 4) (pa_cons (pe_comp (own := ["other", "row"]) (cap := ["found", "needed"]) (ix := [4, 6]) (BlkOk.of (defScope (top 2)).names NSw) rfl (piEnum0 rfl N.enumerate boot_enumerate (pa_cons (pv 2) pa_nil))
          (fun C fp s H => ⟨pgTup0 (n := 2) rfl (pgs_cons (pg_name (i := 0) (show List.Nodup (["other", "row", "found", "needed"] : List Str) by decide +kernel) rfl (Or.inl rfl)) (pgs_cons (pg_name (i := 1) (show List.Nodup (["other", "row", "found", "needed"] : List Str) by decide +kernel) rfl (Or.inl rfl)) pgs_nil)),
            pifs_one (PW.pt (pw_and (pt_cmpR opNin0 (pv 0) (pv 2) (by with_unfolding_all rfl)) (pw_and1 (pt_val (pe_call Bw.ok hr rfl Bw.mg Bw.kp Bw.bd .nil pass0 (pa_cons (pv 1) (pa_cons (pv 3) pa_nil))))))), pv 0⟩)) pa_nil)))
        (pss_one (ps_aug (i := 5) scSw.nd rfl (Or.inl rfl) pe_int ip_add)))))
      (pss_one (ps_ret (pe_callTy cTup0 (by rfl) N.tuple boot_tuple (pa_cons (pe_callB call_sorted0 (by rfl) mS boot_sorted (pa_cons (pv 4) pa_nil)) pa_nil))))))), ?_⟩
    refine ⟨_, rfl, p, _, rfl, SqT.of m.hp, rfl, _, _, rfl, _, _, rfl, rfl, ?_⟩
    refine ⟨_, rfl, by show 1 ≤ sizeLine; decide, fun pf hpf => ?_⟩
    have s0 := (Stay.refl H).new (o := .lst [.int (h : Nat)]) hpf
    have e0 : (upd H pf (.lst [.int (h : Nat)])) pf = some (.lst (([(h : Int)] : List Int).map V.int)) := upd_same
    generalize upd H pf (.lst [.int (h : Nat)]) = H0 at s0 e0 ⊢
    refine while_by (fun σ H' => Stay H H' ∧ ∃ (Fs : List Int) (at' : Nat) (y6 : Option V), σ = [some (.ref p), some (.int h), some (.ref pB), some (.ref pW), some (.ref pf), some (.int at'), y6] ∧ H' pf = some (.lst (Fs.map V.int)) ∧ Fs.Nodup ∧ (∀ x ∈ Fs, x ∈ clo B W g (h : Nat)) ∧ (h : Int) ∈ Fs ∧ at' ≤ Fs.length ∧ ∀ i, i < at' → ∀ o, 0 ≤ o → o < (B.length : Int) → needB B W g (Fs.getD i 0) o = true → o ∈ Fs)
      (fun σ _ => match σ with | [_, _, _, _, _, some (.int a), _] => 6 - a.toNat | _ => 0) ⟨s0, [(h : Int)], 0, _, rfl, e0, by simp, ?_, by simp, by simp, fun i hi => absurd hi (by omega)⟩ ?step ?mono
    · intro x hx
      rw [List.mem_singleton] at hx
      subst hx
      exact mem_clo.mpr ⟨by omega, fun s hs => (mem_mine.mp hs).2.2⟩
    case mono =>
      rintro σ H' Q1 Q2 himp ⟨v, e, u, e2, pp, ys, e3, hq, i, j, e4, e5, c, e6, q⟩
      exact ⟨v, e, u, e2, pp, ys, e3, hq, i, j, e4, e5, c, e6, himp _ _ q⟩
    case step =>
      rintro σ H1 ⟨s1, Fs, at', y6, rfl, hF, nd, hcl, hhF, hat, hdone⟩
      have m1 := m.stay s1
      have hin : ∀ x ∈ Fs, 0 ≤ x ∧ x < (B.length : Int) := fun x hx => (mem_clo.mp (hcl x hx)).1
      have hF6 := nodup_le nd hin
      have hn6 := m.n6
      refine ⟨_, rfl, _, rfl, pf, _, rfl, .inl (SqL.of hF), _, _, rfl, rfl, _, rfl, ?_⟩
      rw [List.length_map]
      refine ite2 (fun hlt => ?_) (fun hlt => ?_)
      · have hlt' : at' < Fs.length := by simpa using of_decide_eq_true hlt
        -- needed
        obtain ⟨ea, _, _⟩ := atI_ints (ns := Fs) (r := (at' : Int)) (by omega) (by omega)
        rw [Int.toNat_natCast] at ea
        have hxm := mem_getD hlt'
        have hx := hin _ hxm
        generalize hxe : Fs.getD at' 0 = x at ea hxm hx
        obtain ⟨a, _, eaw, ha⟩ := rws_row m1.rW (i := x.toNat) (by rw [m1.len]; omega)
        rw [show ((x.toNat : Nat) : Int) = x by omega] at eaw
        refine ⟨_, rfl, _, rfl, _, rfl, pf, _, _, _, rfl, rfl, SqL.of hF, ea, pW, _, _, _, rfl, rfl, SqT.of m1.hW, eaw, ?_⟩
        have hlw := row_len m1.lW (i := x.toNat) (by rw [m1.len]; omega)
        -- the others
        refine ⟨_, rfl, .inl ⟨rfl, _, SqL.of hF⟩, _, rfl, pB, rfl, ⟨_, SqT.of m1.hB⟩, fun a1 ha1 => ?_⟩
        have npf : pf ≠ a1 := fun z => by rw [z, ha1] at hF; cases hF
        refine pr_enum (xs := xB) (fun o => !Fs.contains ((o : Nat) : Int) && needB B W g x (o : Nat)) (fun o => V.int ((o : Nat) : Int)) ha1 (by rw [m1.rB.len]; omega) m1.hB (fun i y H2 Z hy s2 hZ => ?_) (fun i y H2 Z hy _ s2 hZ => ⟨_, rfl, hZ H2 (Stay.refl H2)⟩) (fun H2 s2 h2 => ?_)
        · have hi : i < B.length := by rw [← m1.rB.len]; exact (List.getElem?_eq_some_iff.mp hy).1
          obtain ⟨c, ec, _, hc⟩ := rws_row m1.rB hi
          obtain rfl : y = .ref c := by rw [hy] at ec; simpa using ec
          refine ⟨_, rfl, _, rfl, pf, _, rfl, .inl (SqL.of (s2 _ _ hF)), rfl, flat_ints Fs, _, rfl, ?_⟩
          have ein : (if true = true then !inV (V.int ((i : Nat) : Int)) (Fs.map V.int) else inV (V.int ((i : Nat) : Int)) (Fs.map V.int)) = !Fs.contains ((i : Nat) : Int) := by rw [if_pos rfl, in_ints]
          rw [ein]
          cases hcn : Fs.contains ((i : Nat) : Int) with
          | true => rw [hcn] at hZ; exact iteF (hZ H2 (Stay.refl H2))
          | false =>
            rw [hcn] at hZ
            have hlb := row_len m1.lB hi
            refine iteT ⟨_, rfl, _, rfl, c, a, _, _, rfl, s2 _ _ hc, s2 _ _ ha, by rw [hlb, hlw], by have := m.g6; omega, fun H3 s3 => ⟨_, rfl, ?_⟩⟩
            rw [hlb]
            exact hZ H3 s3
        · refine ⟨pf, a1, _, _, rfl, rfl, s2 _ _ hF, h2, ?_, ?_⟩
          · have := filt_len (fun o => !Fs.contains ((o : Nat) : Int) && needB B W g x (o : Nat)) (fun o => V.int ((o : Nat) : Int)) xB.length
            have hxl := m1.rB.len
            rw [List.length_map, sz]; omega
          refine ⟨_, rfl, _, _, rfl, rfl, ?_⟩
          obtain ⟨p1, p2, p3⟩ := step_clo nd hcl hxm
          have hxl := m1.rB.len
          refine ⟨⟨(s1.trans s2).acc hpf, _, at' + 1, _, rfl, ?_, p1, p2, List.mem_append_left _ hhF, by rw [List.length_append]; omega, fun i hi o o0 o1 hn => ?_⟩, ?_⟩
          · rw [upd_same, List.map_append, List.map_map, ← hxl]; rfl
          · rcases Nat.lt_or_ge i at' with z | z
            · have eg : (Fs ++ (((List.range B.length).filter fun o => !Fs.contains ((o : Nat) : Int) && needB B W g x (o : Nat)).map fun o : Nat => (o : Int))).getD i 0 = Fs.getD i 0 := by simp only [List.getD]; rw [List.getElem?_append_left (by omega)]
              rw [eg] at hn
              exact List.mem_append_left _ (hdone i z o o0 o1 hn)
            · obtain rfl : i = at' := by omega
              have eg : (Fs ++ (((List.range B.length).filter fun o => !Fs.contains ((o : Nat) : Int) && needB B W g x (o : Nat)).map fun o : Nat => (o : Int))).getD i 0 = Fs.getD i 0 := by simp only [List.getD]; rw [List.getElem?_append_left (by omega)]
              rw [eg, hxe] at hn
              exact p3 o o0 o1 hn
          · show 6 - ((at' : Int) + 1).toNat < 6 - ((at' : Int)).toNat
            omega
      · have hge : Fs.length ≤ at' := by
          have : ¬ ((at' : Int) < (Fs.length : Int)) := fun z => hlt (decide_eq_true z)
          omega
        refine ⟨_, rfl, pf, Fs, rfl, SqL.of hF, by omega, fun ns' l hp hs hl => ?_⟩
        refine ⟨l, _, rfl, .inl ⟨SqL.of upd_same, fun l2 hl2 => ?_⟩⟩
        have eS : ns' = clo B W g (h : Nat) := clo_of nd hcl hhF (fun x hx o o0 o1 hn => by
          obtain ⟨i, hi, e⟩ := List.getElem_of_mem hx
          exact hdone i (by omega) o o0 o1 (by rw [getD_of (List.getElem?_eq_getElem hi), e]; exact hn)) hp hs
        rw [eS] at hl2 ⊢
        exact k l2 _ ((s1.new hl).new hl2) upd_same
abbrev NBd : List Str := ["barter", "hand", "hands", "goods"]
theorem scBd : FnScope NBd ["barter"] (defScope (top 1)) := ⟨rfl, rfl, rfl, by decide +kernel, rfl, by decide +kernel, by decide +kernel⟩
theorem ok_bd {f fS fO : Addr} {fd dS dO : FuncData} (F : Fun K "barred" "barred" (top 1) f fd) (N : Nm mg) (Sw : Cal K mg P w base "shut_in_with" 2 ["barter", "hand"] spShutWith fS dS) (Ob : Cal K mg P w base "goods_only_brought" 1 ["barter", "hands"] spOnly fO dO) : FnOk P w K mg base CX0 3 f fd ["barter"] spBarred := by
  refine F.ok scBd (fun vs H Q E h => ?_) (fun cdv A' outer s H vs Q E hr h => ?_)
  · obtain ⟨p, pB, pW, xB, xW, B, W, g, rfl, _⟩ := h; rfl
  · obtain ⟨p, pB, pW, xB, xW, B, W, g, rfl, m, k⟩ := h
    have hr1 : Room 1 _ := hr.mono (by decide)
    refine ⟨_, pss_cons (ps_for PassesOwn.never rfl (pi_range1 rfl N.range (pa_cons (pe_callB cLen0 (by rfl) N.len PySem.boot_len (pa_cons (pe_ix ixT0 (pv 0) pe_int (fun _ _ => rfl)) pa_nil)) pa_nil)) (pg_name (i := 1) scBd.nd rfl (Or.inl rfl))
        (pss_cons (ps_set (i := 2) scBd.nd rfl (Or.inl rfl) (pe_call Sw.ok hr rfl Sw.mg Sw.kp Sw.bd .nil pass0 (pa_cons (pv 0) (pa_cons (pv 1) pa_nil))))
        (pss_cons (ps_set (i := 3) scBd.nd rfl (Or.inl rfl) (pe_call Ob.ok hr1 rfl Ob.mg Ob.kp Ob.bd .nil pass0 (pa_cons (pv 0) (pa_cons (pv 2) pa_nil))))
        (pss_one (ps_if (pt_truth (pv 3) (fun _ => rfl)) (pss_one (ps_ret (pe_tup (pa_cons (pv 2) (pa_cons (pe_ix ixL0 (pv 3) pe_int (fun _ _ => rfl)) pa_nil))))) pss_nil)))))
      (pss_one (ps_ret pe_non)), ?_⟩
    refine ⟨_, rfl, p, _, _, _, rfl, rfl, SqT.of m.hp, rfl, pB, _, rfl, .inr (SqT.of m.hB), (B.length : Int), by rw [m.rB.len], by omega, by have := m.n6; omega, ?_⟩
    rw [Int.toNat_natCast]
    refine for_range (fun i σ H' => Stay H H' ∧ (∃ y1 y2 y3, σ = [some (.ref p), y1, y2, y3]) ∧ ∀ h, h < i → barG B W g (clo B W g (h : Nat)) = []) ⟨Stay.refl H, ⟨_, _, _, rfl⟩, fun h hh => absurd hh (by omega)⟩ ?_ ?_
    · rintro i σ H1 hi ⟨s1, ⟨y1, y2, y3, rfl⟩, hno⟩
      rw [Int.zero_add]
      refine ⟨_, rfl, _, rfl, p, pB, pW, xB, xW, B, W, g, i, rfl, m.stay s1, hi, fun r H2 s2 hr2 => ?_⟩
      have hb6 := clo_le (B := B) (W := W) (g := g) (h := (i : Int))
      have hn6 := m.n6
      refine ⟨_, rfl, _, rfl, p, pB, pW, r, xB, xW, B, W, g, _, rfl, m.stay (s1.trans s2), hr2, by omega, fun x hx => (mem_clo.mp hx).1, fun q H3 s3 hq => ?_⟩
      have s13 := (s1.trans s2).trans s3
      refine ⟨_, rfl, _, .inl ⟨_, SqL.of hq, rfl⟩, ?_⟩
      cases hg : barG B W g (clo B W g (i : Nat)) with
      | nil =>
        refine iteF ⟨s13, ⟨_, _, _, rfl⟩, fun h hh => ?_⟩
        rcases Nat.lt_or_ge h i with z | z
        · exact hno h z
        · obtain rfl : h = i := by omega
          exact hg
      | cons j js =>
        rw [hg] at hq
        refine iteT ⟨_, rfl, _, rfl, q, _, _, _, rfl, rfl, SqL.of hq, (show atI (natsV (j :: js)) ((0 : Nat) : Int) = some (V.int ((j : Nat) : Int)) from atI_nat rfl), by show 2 ≤ sizeLine; decide, fun t ht => ?_⟩
        refine k _ _ (s13.new ht) fun b => ?_
        have ed : dueD B W g = .tuple [.tuple ((clo B W g (i : Nat)).map PyData.int), .int ((j : Nat) : Int)] := by
          unfold dueD
          have ef : (List.range B.length).find? (fun h => !(barG B W g (clo B W g (h : Nat))).isEmpty) = some i := by
            rw [List.find?_range_eq_some]
            refine ⟨by rw [hg]; rfl, List.mem_range.mpr hi, fun h hh => by rw [hno h hh]; rfl⟩
          rw [ef]
          show PyData.tuple [_, .int (((barG B W g (clo B W g (i : Nat))).getD 0 0 : Nat) : Int)] = _
          rw [hg]; rfl
        rw [ed]
        have s4 := (Stay.refl H3).new (o := .tup [.ref r, .int ((j : Nat) : Int)]) ht
        exact .tup upd_same (.cons (.tup ((s3.trans s4) _ _ hr2) (trInts _)) (.cons (.int _) .nil))
    · rintro σ H1 ⟨s1, ⟨y1, y2, y3, rfl⟩, hno⟩
      refine k _ _ s1 fun b => ?_
      have ed : dueD B W g = .none := by
        unfold dueD
        have ef : (List.range B.length).find? (fun h => !(barG B W g (clo B W g (h : Nat))).isEmpty) = none := by
          rw [List.find?_eq_none]
          intro h hh
          rw [hno h (List.mem_range.mp hh)]; simp
        rw [ef]
      rw [ed]
      exact .non
end
end K29

set_option Elab.async false
set_option linter.all false
set_option maxRecDepth 100000
set_option maxHeartbeats 4000000
namespace K29
open PySem L2 KG EX KM
section
variable {P : Program} {w : World} {K : PySem.W.Frag} {mg : Str → Option Value} {base : Heap}
theorem and_one (m : Nat) : Builtin.bitAnd (m : Int) 1 = ((m % 2 : Nat) : Int) := by
  unfold Builtin.bitAnd
  rw [decide_eq_true (show (0 : Int) ≤ (m : Int) by omega), decide_eq_true (show (0 : Int) ≤ 1 by decide)]
  show (((m : Int).toNat &&& (1 : Int).toNat : Nat) : Int) = _
  rw [Int.toNat_natCast]
  show ((m &&& 1 : Nat) : Int) = _
  rw [Nat.and_one_is_mod]
theorem scSets : FnScope ["some", "found", "mask"] ["some"] (defScope (top 9)) := ⟨rfl, rfl, rfl, by decide +kernel, rfl, by decide +kernel, by decide +kernel⟩
theorem ok_sets {f : Addr} {fd : FuncData} (F : Fun K "_law_sets" "_law_sets" (top 9) f fd) (N : Nm mg) : FnOk P w K mg base CX0 1 f fd ["some"] spSets := by
  refine F.ok scSets (fun vs H Q E h => ?_) (fun cdv A' outer s H vs Q E hr h => ?_)
  · obtain ⟨l, ns, rfl, _⟩ := h; rfl
  · obtain ⟨l, ns, rfl, hl, hn, k⟩ := h
    refine ⟨_, pss_cons (ps_set (i := 1) scSets.nd rfl (Or.inl rfl) (pe_lst pa_nil))
      (pss_cons (ps_for PassesOwn.never rfl (pi_range1 rfl N.range (pa_cons (pe_op op_shl pe_int (pe_callB cLen0 (by rfl) N.len PySem.boot_len (pa_cons (pv 0) pa_nil))) pa_nil)) (pg_name (i := 2) scSets.nd rfl (Or.inr rfl))
        (pss_one (ps_expr (peBm0 PySem.F.plainAttrs_list PySem.F.slot_list_append PySem.F.type_list_append mt_append (pv 1) (pa_cons (pe_comp (own := ["k"]) (cap := ["some", "mask"]) (ix := [0, 2]) (BlkOk.of (defScope (top 9)).names ["some", "found", "mask"]) rfl (pi_range1 rfl N.range (pa_cons (pe_callB cLen0 (by rfl) N.len PySem.boot_len (pa_cons (pv 0) pa_nil)) pa_nil))
          (fun C fp s H => ⟨pg_name (i := 0) (show List.Nodup (["k", "some", "mask"] : List Str) by decide +kernel) rfl (Or.inl rfl), pifs_one (pt_cmpR op_eq (pe_op op_and (pe_op op_shr (pv 2) (pv 0)) pe_int) pe_int (nomark _)), pe_ix ixL0 (pv 1) (pv 0) (fun _ _ => rfl)⟩)) pa_nil)))))
      (pss_one (ps_ret (pv 1)))), ?_⟩
    refine ⟨by show 0 ≤ sizeLine; decide, fun pf hpf => ?_⟩
    have s0 := (Stay.refl H).new (o := .lst []) hpf
    have hnl : (ns.map V.int).length = ns.length := List.length_map _
    have h2 : (2 : Nat) ^ ns.length ≤ 64 := Nat.le_trans (Nat.pow_le_pow_right (by decide) hn) (by decide)
    have etn : (((ns.map V.int).length : Nat) : Int).toNat = ns.length := by rw [hnl]; omega
    have epow : (1 : Int) * 2 ^ (((ns.map V.int).length : Nat) : Int).toNat = ((2 ^ ns.length : Nat) : Int) := by rw [etn, Int.one_mul]; exact (Int.natCast_pow 2 _).symm
    refine ⟨_, rfl, l, _, rfl, .inl (SqL.of (s0 _ _ hl)), _, _, rfl, rfl, ⟨by omega, by omega, by decide⟩, ((2 ^ ns.length : Nat) : Int), by show [V.int ((1 : Int) * 2 ^ (((ns.map V.int).length : Nat) : Int).toNat)] = _; rw [epow], ?_, ?_, ?_⟩
    · generalize 2 ^ ns.length = z at h2; omega
    · generalize 2 ^ ns.length = z at h2; omega
    rw [Int.toNat_natCast]
    refine for_range (fun i σ H' => (∃ y2, σ = [some (.ref l), some (.ref pf), y2]) ∧ Stay H H' ∧ ∃ xs, H' pf = some (.lst xs) ∧ xs.length = i ∧ ∀ (j : Nat) x, xs[j]? = some x → ∃ a, x = .ref a ∧ a ≠ pf ∧ H a = none ∧ H' a = some (.lst ((pickL ns j).map V.int)))
      ⟨⟨_, rfl⟩, s0, [], upd_same, rfl, fun j x hx => by simp at hx⟩ ?_ ?_
    · rintro i σ H1 hi ⟨⟨y2, rfl⟩, s1, xs, hxs, hxl, hxp⟩
      have e0 : (0 + (i : Int)) = (i : Int) := by omega
      refine ⟨_, rfl, .inl ⟨rfl, _, SqL.of hxs⟩, _, rfl, l, _, rfl, .inl (SqL.of (s1 _ _ hl)), (ns.length : Int), by rw [hnl], by omega, by omega, fun acc hacc => ?_⟩
      rw [Int.toNat_natCast]
      have npf : pf ≠ acc := fun z => by rw [z, hacc] at hxs; cases hxs
      refine comp_range (fun j ys H' => Stay H1 H' ∧ ys = (((List.range j).filter fun k => decide (i / 2 ^ k % 2 = 1)).map fun k => V.int (ns.getD k 0))) ⟨(Stay.refl H1).acc hacc, rfl⟩ ?_ ?_
      · rintro j ys H' hj hy ⟨st, rfl⟩
        obtain ⟨er, _, _⟩ := atI_ints (ns := ns) (r := 0 + (j : Int)) (by omega) (by omega)
        have ej : (0 + (j : Int)).toNat = j := by omega
        rw [ej] at er
        refine ⟨_, rfl, _, rfl, _, _, rfl, rfl, by omega, _, _, rfl, rfl, rfl, _, rfl, ?_⟩
        have ev : decide (V.int (Builtin.bitAnd ((0 + (i : Int)) / 2 ^ (0 + (j : Int)).toNat) 1) = V.int 1) = decide (i / 2 ^ j % 2 = 1) := by
          rw [ej, e0]
          have : ((i : Int) / 2 ^ j) = ((i / 2 ^ j : Nat) : Int) := by rw [Int.natCast_ediv, Int.natCast_pow]; rfl
          rw [this, and_one]
          simp
          omega
        rw [ev]
        have hf : ((List.range (j + 1)).filter fun k => decide (i / 2 ^ k % 2 = 1)).map (fun k => V.int (ns.getD k 0)) = ((List.range j).filter fun k => decide (i / 2 ^ k % 2 = 1)).map (fun k => V.int (ns.getD k 0)) ++ (if decide (i / 2 ^ j % 2 = 1) = true then [V.int (ns.getD j 0)] else []) := by
          rw [filter_succ, List.map_append]
          congr 1
          split <;> simp_all
        cases hc : decide (i / 2 ^ j % 2 = 1) with
        | true =>
          refine iteT ⟨_, rfl, _, rfl, l, _, _, _, rfl, rfl, SqL.of (st _ _ (s1 _ _ hl)), er, _, hy, ?_, Cn.of upd_same ⟨st.acc hacc, ?_⟩⟩
          · have h1 := List.length_filter_le (fun k => decide (i / 2 ^ k % 2 = 1)) (List.range j)
            rw [List.length_range] at h1
            rw [List.length_map, sz]; omega
          · rw [hf, hc, if_pos rfl]
        | false =>
          refine iteF (Cn.of hy ⟨st, ?_⟩)
          rw [hf, hc, if_neg (by decide), List.append_nil]
      · rintro ys H2 hy ⟨st, rfl⟩
        have hxs2 := st _ _ hxs
        have el : xs.length = i := hxl
        refine ⟨pf, xs, .ref acc, rfl, rfl, hxs2, by rw [hxl, sz]; omega, ⟨_, rfl⟩, (s1.trans st).acc hpf, xs ++ [.ref acc], upd_same, by rw [List.length_append, hxl]; rfl, fun j y hyy => ?_⟩
        rcases Nat.lt_or_ge j xs.length with z | z
        · rw [List.getElem?_append_left z] at hyy
          obtain ⟨a, e, na, nh, ha⟩ := hxp j y hyy
          exact ⟨a, e, na, nh, by rw [upd_ne na]; exact st _ _ ha⟩
        · have ej : j = xs.length := by
            have := (List.getElem?_eq_some_iff.mp hyy).1
            simp at this; omega
          subst ej
          simp at hyy
          subst hyy
          refine ⟨acc, rfl, npf.symm, s1.free hacc, ?_⟩
          rw [upd_ne npf.symm, hy, hxl]
          unfold pickL
          rw [List.map_map]; rfl
    · rintro σ H1 ⟨⟨y2, rfl⟩, s1, xs, hxs, hxl, hxp⟩
      refine ⟨_, rfl, k pf xs H1 s1 hxs ⟨by unfold setsL; rw [hxl, List.length_map, List.length_range], fun j x hx => ?_⟩ fun a ham => ?_⟩
      case refine_2 =>
        obtain ⟨j, hj, ej⟩ := List.getElem_of_mem ham
        obtain ⟨a', e', _, nh, _⟩ := hxp j _ (List.getElem?_eq_getElem hj)
        rw [ej] at e'
        injection e' with e'
        rw [e']; exact nh
      obtain ⟨a, e, _, _, ha⟩ := hxp j x hx
      have hj : j < 2 ^ ns.length := by have := (List.getElem?_eq_some_iff.mp hx).1; omega
      have eg : (setsL ns).getD j [] = pickL ns j := by
        unfold setsL
        simp [List.getD, List.getElem?_map, List.getElem?_range hj]
      exact ⟨a, e, by rw [eg]; exact ha⟩
abbrev NLs : List Str := ["barter", "hands", "brought", "wishes", "good"]
theorem scLs : FnScope NLs ["barter", "hands"] (defScope (top 10)) := ⟨rfl, rfl, rfl, by decide +kernel, rfl, by decide +kernel, by decide +kernel⟩
theorem ok_ls {f : Addr} {fd : FuncData} (F : Fun K "_law_is_shut_in" "_law_is_shut_in" (top 10) f fd) (N : Nm mg) : FnOk P w K mg base CX0 1 f fd ["barter", "hands"] spLShut := by
  refine F.ok scLs (fun vs H Q E h => ?_) (fun cdv A' outer s H vs Q E hr h => ?_)
  · obtain ⟨p, pB, pW, l, xB, xW, B, W, g, s, rfl, _⟩ := h; rfl
  · obtain ⟨p, pB, pW, l, xB, xW, B, W, g, s, rfl, m, hl, h6, hs, k⟩ := h
    have hu := hr.units
    refine ⟨_, pss_cons (ps_asg (pv 0) (pgTup0 (n := 2) rfl (pgs_cons (pg_name (i := 2) scLs.nd rfl (Or.inr rfl)) (pgs_cons (pg_name (i := 3) scLs.nd rfl (Or.inr rfl)) pgs_nil))))
      (pss_cons (ps_for PassesOwn.never rfl (pi_range1 rfl N.range (pa_cons (pe_callB cLen0 (by rfl) N.len PySem.boot_len (pa_cons (pe_ix ixT0 (pv 2) pe_int (fun _ _ => rfl)) pa_nil)) pa_nil)) (pg_name (i := 4) scLs.nd rfl (Or.inr rfl))
        (pss_one (ps_if (pt_cmpR (opNeD0 hu) (pe_comp (own := ["hand"]) (cap := ["good", "wishes"]) (ix := [4, 3]) (BlkOk.of (defScope (top 10)).names NLs) rfl (piL0 (pv 1))
            (fun C fp s H => ⟨pg_name (i := 0) (show List.Nodup (["hand", "good", "wishes"] : List Str) by decide +kernel) rfl (Or.inl rfl), pifs_one (pt_cmpR op_gt (pe_ix ixT0 (pe_ix ixT0 (pv 2) (pv 0) (fun _ _ => rfl)) (pv 1) (fun _ _ => rfl)) pe_int (nomark _)), pv 0⟩)) (pe_lst pa_nil) (nomark _))
          (pss_one (ps_if (pt_cmpR (opNeD0 hu) (pe_comp (own := ["hand"]) (cap := ["brought", "good", "hands"]) (ix := [2, 4, 1]) (BlkOk.of (defScope (top 10)).names NLs) rfl (pi_range1 rfl N.range (pa_cons (pe_callB cLen0 (by rfl) N.len PySem.boot_len (pa_cons (pv 2) pa_nil)) pa_nil))
            (fun C fp s H => ⟨pg_name (i := 0) (show List.Nodup (["hand", "brought", "good", "hands"] : List Str) by decide +kernel) rfl (Or.inl rfl), pifs_one (PW.pt (pw_and (pt_cmpR op_gt (pe_ix ixT0 (pe_ix ixT0 (pv 1) (pv 0) (fun _ _ => rfl)) (pv 2) (fun _ _ => rfl)) pe_int (nomark _)) (pw_and1 (pt_cmpR opNin0 (pv 0) (pv 3) (by with_unfolding_all rfl))))), pv 0⟩)) (pe_lst pa_nil) (nomark _))
            (pss_one (ps_ret pe_bl)) pss_nil)) pss_nil)))
      (pss_one (ps_ret pe_bl))), ?_⟩
    refine ⟨_, rfl, p, _, rfl, SqT.of m.hp, rfl, _, _, rfl, _, _, rfl, rfl, ?_⟩
    obtain ⟨a0, _, ea0, ha0⟩ := rws_row m.rB (i := 0) m.n1
    have hl0 := row_len m.lB (i := 0) m.n1
    have hg6 := m.g6
    have hn6 := m.n6
    refine ⟨_, rfl, pB, _, _, _, rfl, rfl, SqT.of m.hB, ea0, a0, _, rfl, .inr (SqT.of ha0), (g : Int), by rw [List.length_map, hl0], by omega, by omega, ?_⟩
    rw [Int.toNat_natCast]
    refine for_range (fun j σ H' => Stay H H' ∧ (∃ y, σ = [some (.ref p), some (.ref l), some (.ref pB), some (.ref pW), y]) ∧ ∀ i, i < j → (!(s.any fun h => posM W h i) || !((List.range B.length).any fun h => posM B (h : Nat) i && !s.contains ((h : Nat) : Int))) = true)
      ⟨Stay.refl H, ⟨_, rfl⟩, fun i hi => absurd hi (by omega)⟩ ?_ ?_
    · rintro j σ H1 hj ⟨s1, ⟨y, rfl⟩, hok⟩
      rw [Int.zero_add]
      have next : (!(s.any fun h => posM W h j) || !((List.range B.length).any fun h => posM B (h : Nat) j && !s.contains ((h : Nat) : Int))) = true → ∀ i, i < j + 1 → (!(s.any fun h => posM W h i) || !((List.range B.length).any fun h => posM B (h : Nat) i && !s.contains ((h : Nat) : Int))) = true := fun hc i hi => by
        rcases Nat.lt_or_ge i j with z | z
        · exact hok i z
        · obtain rfl : i = j := by omega
          exact hc
      have m1 := m.stay s1
      refine ⟨_, rfl, l, rfl, ⟨_, SqL.of (s1 _ _ hl)⟩, fun a1 ha1 => ?_⟩
      refine filtL (fun x => posM W x j) ha1 (by omega) (s1 _ _ hl) (fun x H2 Z hx s2 hZ => ?_) (fun x H2 Z h => ⟨_, rfl, h⟩) (fun H2 s2 h2 => ?_)
      · have m2 := m1.stay s2
        exact ix2_read m2.hW m2.rW (hs x hx).1 (by rw [m2.len]; exact (hs x hx).2) m2.lW hj rfl rfl rfl ⟨_, _, rfl, rfl, _, rfl, hZ H2 (Stay.refl H2)⟩
      refine ⟨by show 0 ≤ sizeLine; decide, fun q1 hq1 => neNil (((Stay.refl H2).new (o := .lst []) hq1) _ _ h2) upd_same ⟨_, rfl, ?_⟩⟩
      rw [filt_isEmpty, Bool.not_not]
      have s12 := (s1.trans s2).new (o := .lst []) hq1
      generalize upd H2 q1 (.lst []) = H3 at s12 ⊢
      cases hw : s.any fun x => posM W x j with
      | false => exact iteF ⟨s12, ⟨_, rfl⟩, next (by rw [hw]; rfl)⟩
      | true =>
      have m3 := m.stay s12
      refine iteT ⟨_, rfl, pB, _, rfl, .inr (SqT.of m3.hB), (B.length : Int), by rw [m3.rB.len], by omega, by omega, fun a2 ha2 => ?_⟩
      rw [Int.toNat_natCast]
      refine pr_range (fun h => posM B (h : Nat) j && !s.contains ((h : Nat) : Int)) (fun h => V.int ((h : Nat) : Int)) ha2 (by omega) (fun i H4 Z hi s4 hZ => ?_) (fun i H4 Z hi _ s4 hZ => ⟨_, rfl, hZ H4 (Stay.refl H4)⟩) (fun H4 s4 h4 => ?_)
      · have m4 := m3.stay s4
        refine ix2_read m4.hB m4.rB (by omega) (by omega) m4.lB hj rfl rfl rfl ⟨_, _, rfl, rfl, _, rfl, ?_⟩
        show if posM B ((i : Nat) : Int) j = true then _ else _
        cases hp : posM B ((i : Nat) : Int) j with
        | false => rw [hp] at hZ; exact iteF (hZ H4 (Stay.refl H4))
        | true =>
          rw [hp] at hZ
          refine iteT ⟨_, rfl, _, rfl, l, _, rfl, .inl (SqL.of ((s12.trans s4) _ _ hl)), rfl, flat_ints s, _, rfl, ?_⟩
          rw [if_pos rfl, in_ints]
          exact hZ H4 (Stay.refl H4)
      have e4 : ((List.range B.length).filter fun h => posM B (h : Nat) j && !s.contains ((h : Nat) : Int)).map (fun h => V.int ((h : Nat) : Int)) = (((List.range B.length).filter fun h => posM B (h : Nat) j && !s.contains ((h : Nat) : Int)).map fun h : Nat => (h : Int)).map V.int := by rw [List.map_map]; rfl
      rw [e4] at h4
      refine ⟨by show 0 ≤ sizeLine; decide, fun q2 hq2 => neNil (((Stay.refl H4).new (o := .lst []) hq2) _ _ h4) upd_same ⟨_, rfl, ?_⟩⟩
      rw [List.isEmpty_map, filt_isEmpty, Bool.not_not]
      have s14 := (s12.trans s4).new (o := .lst []) hq2
      generalize upd H4 q2 (.lst []) = H5 at s14 ⊢
      cases hb : (List.range B.length).any fun h => posM B (h : Nat) j && !s.contains ((h : Nat) : Int) with
      | false => exact iteF ⟨s14, ⟨_, rfl⟩, next (by rw [hb, hw]; rfl)⟩
      | true =>
        refine iteT ?_
        have e5 : shutB B W g s = false := by
          unfold shutB
          rw [List.all_eq_false]
          exact ⟨j, List.mem_range.mpr hj, by rw [hw, hb]; decide⟩
        rw [e5] at k
        exact k H5 s14
    · rintro σ H1 ⟨s1, ⟨y, rfl⟩, hok⟩
      have e5 : shutB B W g s = true := by
        unfold shutB
        rw [List.all_eq_true]
        exact fun i hi => hok i (List.mem_range.mp hi)
      rw [e5] at k
      exact k H1 s1
abbrev NLb : List Str := ["barter", "hands", "brought", "wishes", "found", "good"]
theorem scLb : FnScope NLb ["barter", "hands"] (defScope (top 11)) := ⟨rfl, rfl, rfl, by decide +kernel, rfl, by decide +kernel, by decide +kernel⟩
theorem ok_lb {f : Addr} {fd : FuncData} (F : Fun K "_law_barring" "_law_barring" (top 11) f fd) (N : Nm mg) : FnOk P w K mg base CX0 1 f fd ["barter", "hands"] spLBarr := by
  refine F.ok scLb (fun vs H Q E h => ?_) (fun cdv A' outer s H vs Q E hr h => ?_)
  · obtain ⟨p, pB, pW, l, xB, xW, B, W, g, s, rfl, _⟩ := h; rfl
  · obtain ⟨p, pB, pW, l, xB, xW, B, W, g, s, rfl, m, hl, h6, hs, k⟩ := h
    have hu := hr.units
    refine ⟨_, pss_cons (ps_asg (pv 0) (pgTup0 (n := 2) rfl (pgs_cons (pg_name (i := 2) scLb.nd rfl (Or.inr rfl)) (pgs_cons (pg_name (i := 3) scLb.nd rfl (Or.inr rfl)) pgs_nil))))
      (pss_cons (ps_set (i := 4) scLb.nd rfl (Or.inl rfl) (pe_lst pa_nil))
      (pss_cons (ps_for PassesOwn.never rfl (pi_range1 rfl N.range (pa_cons (pe_callB cLen0 (by rfl) N.len PySem.boot_len (pa_cons (pe_ix ixT0 (pv 2) pe_int (fun _ _ => rfl)) pa_nil)) pa_nil)) (pg_name (i := 5) scLb.nd rfl (Or.inr rfl))
        (pss_one (ps_if (pt_cmpR (opNeD0 hu) (pe_comp (own := ["hand"]) (cap := ["brought", "good"]) (ix := [2, 5]) (BlkOk.of (defScope (top 11)).names NLb) rfl (piL0 (pv 1))
            (fun C fp s H => ⟨pg_name (i := 0) (show List.Nodup (["hand", "brought", "good"] : List Str) by decide +kernel) rfl (Or.inl rfl), pifs_one (pt_cmpR op_gt (pe_ix ixT0 (pe_ix ixT0 (pv 1) (pv 0) (fun _ _ => rfl)) (pv 2) (fun _ _ => rfl)) pe_int (nomark _)), pv 0⟩)) (pe_lst pa_nil) (nomark _))
          (pss_one (ps_if (pt_cmpR (opEqD0 hu) (pe_comp (own := ["hand"]) (cap := ["good", "wishes"]) (ix := [5, 3]) (BlkOk.of (defScope (top 11)).names NLb) rfl (piL0 (pv 1))
            (fun C fp s H => ⟨pg_name (i := 0) (show List.Nodup (["hand", "good", "wishes"] : List Str) by decide +kernel) rfl (Or.inl rfl), pifs_one (pt_cmpR op_gt (pe_ix ixT0 (pe_ix ixT0 (pv 2) (pv 0) (fun _ _ => rfl)) (pv 1) (fun _ _ => rfl)) pe_int (nomark _)), pv 0⟩)) (pe_lst pa_nil) (nomark _))
            (pss_one (ps_expr (peBm0 PySem.F.plainAttrs_list PySem.F.slot_list_append PySem.F.type_list_append mt_append (pv 4) (pa_cons (pv 5) pa_nil)))) pss_nil)) pss_nil)))
      (pss_one (ps_ret (pv 4))))), ?_⟩
    refine ⟨_, rfl, p, _, rfl, SqT.of m.hp, rfl, _, _, rfl, _, _, rfl, rfl, ?_⟩
    refine ⟨by show 0 ≤ sizeLine; decide, fun pf hpf => ?_⟩
    have s0 := (Stay.refl H).new (o := .lst []) hpf
    have e0 : (upd H pf (.lst [])) pf = some (.lst []) := upd_same
    generalize upd H pf (.lst []) = H0 at s0 e0 ⊢
    have m0 := m.stay s0
    obtain ⟨a0, _, ea0, ha0⟩ := rws_row m0.rB (i := 0) m.n1
    have hl0 := row_len m.lB (i := 0) m.n1
    have hg6 := m.g6
    have hn6 := m.n6
    refine ⟨_, rfl, pB, _, _, _, rfl, rfl, SqT.of m0.hB, ea0, a0, _, rfl, .inr (SqT.of ha0), (g : Int), by rw [List.length_map, hl0], by omega, by omega, ?_⟩
    rw [Int.toNat_natCast]
    refine for_range (fun j σ H' => Stay H H' ∧ (∃ y, σ = [some (.ref p), some (.ref l), some (.ref pB), some (.ref pW), some (.ref pf), y]) ∧ H' pf = some (.lst (natsV ((List.range j).filter fun j => (s.any fun h => posM B h j) && !(s.any fun h => posM W h j)))))
      ⟨s0, ⟨_, rfl⟩, e0⟩ ?_ (fun σ H1 ⟨s1, ⟨y, e⟩, hf⟩ => by subst e; exact ⟨_, rfl, k pf H1 s1 hf⟩)
    rintro j σ H1 hj ⟨s1, ⟨y, rfl⟩, hf⟩
    rw [Int.zero_add]
    have nxt : natsV ((List.range (j + 1)).filter fun j => (s.any fun h => posM B h j) && !(s.any fun h => posM W h j)) = natsV ((List.range j).filter fun j => (s.any fun h => posM B h j) && !(s.any fun h => posM W h j)) ++ (if ((s.any fun h => posM B h j) && !(s.any fun h => posM W h j)) = true then [V.int ((j : Nat) : Int)] else []) := by
      unfold natsV; exact filt_snoc _ _ j
    have m1 := m.stay s1
    refine ⟨_, rfl, l, rfl, ⟨_, SqL.of (s1 _ _ hl)⟩, fun a1 ha1 => ?_⟩
    refine filtL (fun x => posM B x j) ha1 (by omega) (s1 _ _ hl) (fun x H2 Z hx s2 hZ => ?_) (fun x H2 Z h => ⟨_, rfl, h⟩) (fun H2 s2 h2 => ?_)
    · have m2 := m1.stay s2
      exact ix2_read m2.hB m2.rB (hs x hx).1 (hs x hx).2 m2.lB hj rfl rfl rfl ⟨_, _, rfl, rfl, _, rfl, hZ H2 (Stay.refl H2)⟩
    refine ⟨by show 0 ≤ sizeLine; decide, fun q1 hq1 => neNil (((Stay.refl H2).new (o := .lst []) hq1) _ _ h2) upd_same ⟨_, rfl, ?_⟩⟩
    rw [filt_isEmpty, Bool.not_not]
    have s23 := s2.new (o := .lst []) hq1
    generalize upd H2 q1 (.lst []) = H3 at s23 ⊢
    have s13 := s1.trans s23
    have hf3 := s23 _ _ hf
    cases hw : s.any fun x => posM B x j with
    | false =>
      refine iteF ⟨s13, ⟨_, rfl⟩, ?_⟩
      rw [nxt, hw, if_neg (by simp), List.append_nil]; exact hf3
    | true =>
    have m3 := m.stay s13
    refine iteT ⟨_, rfl, l, rfl, ⟨_, SqL.of (s13 _ _ hl)⟩, fun a2 ha2 => ?_⟩
    refine filtL (fun x => posM W x j) ha2 (by omega) (s13 _ _ hl) (fun x H2 Z hx s2 hZ => ?_) (fun x H2 Z h => ⟨_, rfl, h⟩) (fun H4 s4 h4 => ?_)
    · have m2 := m3.stay s2
      exact ix2_read m2.hW m2.rW (hs x hx).1 (by rw [m2.len]; exact (hs x hx).2) m2.lW hj rfl rfl rfl ⟨_, _, rfl, rfl, _, rfl, hZ H2 (Stay.refl H2)⟩
    refine ⟨by show 0 ≤ sizeLine; decide, fun q2 hq2 => eqNil (((Stay.refl H4).new (o := .lst []) hq2) _ _ h4) upd_same ⟨_, rfl, ?_⟩⟩
    rw [filt_isEmpty]
    have s45 := s4.new (o := .lst []) hq2
    generalize upd H4 q2 (.lst []) = H5 at s45 ⊢
    have s15 := s13.trans s45
    have hf5 := s45 _ _ hf3
    cases hb : s.any fun x => posM W x j with
    | true =>
      refine iteF ⟨s15, ⟨_, rfl⟩, ?_⟩
      rw [nxt, hw, hb, if_neg (by decide), List.append_nil]; exact hf5
    | false =>
      refine iteT ⟨_, rfl, .inl ⟨rfl, _, SqL.of hf5⟩, _, rfl, pf, _, _, rfl, rfl, hf5, ?_, s15.acc hpf, ⟨_, rfl⟩, ?_⟩
      · have := filt_len (fun j => (s.any fun h => posM B h j) && !(s.any fun h => posM W h j)) (fun g : Nat => V.int (g : Int)) j
        show List.length (List.map (fun g : Nat => V.int (g : Int)) _) < _
        rw [sz]; omega
      · rw [nxt, hw, hb, if_pos (by decide)]; exact upd_same
abbrev NLd : List Str := ["barter", "sets", "hand", "mine", "least", "goods"]
theorem scLd : FnScope NLd ["barter"] (defScope (top 12)) := ⟨rfl, rfl, rfl, by decide +kernel, rfl, by decide +kernel, by decide +kernel⟩
theorem ok_ldue {f fS fI fB : Addr} {fd dS dI dB : FuncData} (F : Fun K "_law_due" "_law_due" (top 12) f fd) (N : Nm mg) (Se : Cal K mg P w base "_law_sets" 1 ["some"] spSets fS dS) (Si : Cal K mg P w base "_law_is_shut_in" 1 ["barter", "hands"] spLShut fI dI)
    (Ba : Cal K mg P w base "_law_barring" 1 ["barter", "hands"] spLBarr fB dB) : FnOk P w K mg base CX0 2 f fd ["barter"] spLDue := by
  refine F.ok scLd (fun vs H Q E h => ?_) (fun cdv A' outer s H vs Q E hr h => ?_)
  · obtain ⟨p, pB, pW, xB, xW, B, W, g, rfl, _⟩ := h; rfl
  · obtain ⟨p, pB, pW, xB, xW, B, W, g, rfl, m, k⟩ := h
    have hu := hr.units
    refine ⟨_, pss_cons (ps_setC (i := 1) (own := ["hands"]) (cap := ["barter"]) (ix := [0]) scLd.nd rfl rfl (BlkOk.of (defScope (top 12)).names NLd) rfl (piL0 (pe_call Se.ok hr rfl Se.mg Se.kp Se.bd .nil pass0 (pa_cons (pe_callTy (call_list_rng rfl) (by rfl) N.list boot_list (pa_cons (pe_callTy call_rangeV (by rfl) N.range boot_range' (pa_cons (pe_callB cLen0 (by rfl) N.len PySem.boot_len (pa_cons (pe_ix ixT0 (pv 0) pe_int (fun _ _ => rfl)) pa_nil)) pa_nil)) pa_nil)) pa_nil)))
        (fun C fp s H => ⟨pg_name (i := 0) (show List.Nodup (["hands", "barter"] : List Str) by decide +kernel) rfl (Or.inl rfl), pifs_one (PW.pt (pw_and (pt_cmpR (opNeD0 hu) (pv 0) (pe_lst pa_nil) (nomark _)) (pw_and1 (pt_val (pe_call Si.ok hr rfl Si.mg Si.kp Si.bd .nil pass0 (pa_cons (pv 1) (pa_cons (pv 0) pa_nil))))))), pv 0⟩))
      (pss_cons (ps_if (pt_cmpR (opEqD0 hu) (pe_comp (own := ["hands"]) (cap := ["barter"]) (ix := [0]) (BlkOk.of (defScope (top 12)).names NLd) rfl (piL0 (pv 1))
        (fun C fp s H => ⟨pg_name (i := 0) (show List.Nodup (["hands", "barter"] : List Str) by decide +kernel) rfl (Or.inl rfl), pifs_one (pt_cmpR (opNeD0 hu) (pe_call Ba.ok hr rfl Ba.mg Ba.kp Ba.bd .nil pass0 (pa_cons (pv 1) (pa_cons (pv 0) pa_nil))) (pe_lst pa_nil) (nomark _)), pv 0⟩)) (pe_lst pa_nil) (nomark _)) (pss_one (ps_ret pe_non)) pss_nil)
      (pss_cons (ps_for PassesOwn.never rfl (pi_range1 rfl N.range (pa_cons (pe_callB cLen0 (by rfl) N.len PySem.boot_len (pa_cons (pe_ix ixT0 (pv 0) pe_int (fun _ _ => rfl)) pa_nil)) pa_nil)) (pg_name (i := 2) scLd.nd rfl (Or.inr rfl))
        (pss_cons (ps_set (i := 3) scLd.nd rfl (Or.inr rfl) (pe_comp (own := ["hands"]) (cap := ["hand"]) (ix := [2]) (BlkOk.of (defScope (top 12)).names NLd) rfl (piL0 (pv 1))
          (fun C fp s H => ⟨pg_name (i := 0) (show List.Nodup (["hands", "hand"] : List Str) by decide +kernel) rfl (Or.inl rfl), pifs_one (pt_cmpR opIn0 (pv 1) (pv 0) (by with_unfolding_all rfl)), pv 0⟩)))
        (pss_cons (ps_setC (i := 4) (own := ["one"]) (cap := ["mine"]) (ix := [3]) scLd.nd rfl rfl (BlkOk.of (defScope (top 12)).names NLd) rfl (piL0 (pe_ix ixL0 (pv 3) pe_int (fun _ _ => rfl)))
          (fun C fp s H => ⟨pg_name (i := 0) (show List.Nodup (["one", "mine"] : List Str) by decide +kernel) rfl (Or.inr rfl), pifs_one (pt_cmpR (opEqD0 hu) (pe_comp (own := ["hands"]) (cap := ["one"]) (ix := [0]) (BlkOk.of [(".0", .local), ("one", .cell), ("mine", .cell)] ["one", "mine"]) rfl (piL0 (pv 1))
            (fun C fp s H => ⟨pg_name (i := 0) (show List.Nodup (["hands", "one"] : List Str) by decide +kernel) rfl (Or.inl rfl), pifs_one (pt_cmpR opNin0 (pv 1) (pv 0) (by with_unfolding_all rfl)), pv 0⟩)) (pe_lst pa_nil) (nomark _)), pv 0⟩))
        (pss_cons (ps_set (i := 5) scLd.nd rfl (Or.inl rfl) (pe_call Ba.ok hr rfl Ba.mg Ba.kp Ba.bd .nil pass0 (pa_cons (pv 0) (pa_cons (pv 4) pa_nil))))
        (pss_one (ps_if (pt_cmpR (opNeD0 hu) (pv 5) (pe_lst pa_nil) (nomark _)) (pss_one (ps_ret (pe_tup (pa_cons (pe_callTy cTup0 (by rfl) N.tuple boot_tuple (pa_cons (pv 4) pa_nil)) (pa_cons (pe_ix ixL0 (pv 5) pe_int (fun _ _ => rfl)) pa_nil))))) pss_nil))))))
      (pss_one (ps_ret pe_non)))), ?_⟩
    have hn6 := m.n6
    -- the sets that are shut in
    refine ⟨_, rfl, p, _, _, _, rfl, rfl, SqT.of m.hp, rfl, pB, _, rfl, .inr (SqT.of m.hB), (B.length : Int), by rw [m.rB.len], fun rr hrr => ?_⟩
    refine ⟨rr, (B.length : Int), rfl, upd_same, by omega, by omega, fun l hl => ?_⟩
    rw [Int.toNat_natCast]
    have s1 := ((Stay.refl H).new (o := rngOf rr (B.length : Int)) hrr).new (o := .lst ((List.range B.length).map fun i : Nat => V.int (i : Int))) hl
    have e1 : (upd (upd H rr (rngOf rr (B.length : Int))) l (.lst ((List.range B.length).map fun i : Nat => V.int (i : Int)))) l = some (.lst ((rangeI B.length).map V.int)) := by
      rw [upd_same]; unfold rangeI; rw [List.map_map]; rfl
    generalize upd (upd H rr (rngOf rr (B.length : Int))) l (.lst ((List.range B.length).map fun i : Nat => V.int (i : Int))) = H1 at s1 e1 ⊢
    refine ⟨l, rangeI B.length, rfl, e1, by rw [rangeI_len]; exact hn6, fun r xs H2 s2 hr2 ls _ => ?_⟩
    have s12 := s1.trans s2
    have m2 := m.stay s12
    have hsl : xs.length ≤ 64 := by
      rw [ls.1, setsL_len, rangeI_len]
      exact Nat.le_trans (Nat.pow_le_pow_right (by decide) hn6) (by decide)
    refine ⟨r, rfl, ⟨_, SqL.of hr2⟩, fun a3 ha3 => ?_⟩
    refine filtLs (L := setsL (rangeI B.length)) (fun s => !s.isEmpty && shutB B W g s) ha3 (by omega) hr2 ls (fun c s H3 Z hsm hc s3 hZ => ?_) (fun c H3 Z h => ⟨_, rfl, h⟩) (fun zs H3 s3 hz lz => ?_)
    · obtain ⟨hsl', hsx⟩ := sets_mem hsm
      refine ⟨_, rfl, by show 0 ≤ sizeLine; decide, fun q hq => ?_⟩
      have s4 := (Stay.refl H3).new (o := .lst []) hq
      refine neNil (s4 _ _ (s3 _ _ hc)) upd_same ⟨_, rfl, ?_⟩
      cases he : s.isEmpty with
      | true => rw [he] at hZ; exact iteF (hZ _ s4)
      | false =>
        rw [he] at hZ
        exact iteT ⟨_, rfl, _, rfl, p, pB, pW, c, xB, xW, B, W, g, s, rfl, (m2.stay s3).stay s4, (s3.trans s4) _ _ hc, by omega, hsx, fun H5 s5 => ⟨_, rfl, hZ H5 (s4.trans s5)⟩⟩
    have lz : LsR H3 zs (shutL B W g) := lz
    have hzl : zs.length ≤ 64 := by
      have h1 := List.length_filter_le (fun s => !s.isEmpty && shutB B W g s) (setsL (rangeI B.length))
      have h2 := lz.1
      have h3 := ls.1
      show zs.length ≤ 64
      unfold shutL at h2
      omega
    have s13 := s12.trans s3
    have m3 := m.stay s13
    -- does one bar it
    refine ⟨_, rfl, a3, rfl, ⟨_, SqL.of hz⟩, fun a4 ha4 => ?_⟩
    refine filtLs (L := shutL B W g) (fun s => !(barG B W g s).isEmpty) ha4 (by omega) hz lz (fun c s H4 Z hsm hc s4 hZ => ?_) (fun c H4 Z h => ⟨_, rfl, h⟩) (fun ys H4 s4 hy ly => ?_)
    · obtain ⟨hsl', hsx⟩ := shutL_mem hsm
      refine ⟨_, rfl, _, rfl, p, pB, pW, c, xB, xW, B, W, g, s, rfl, m3.stay s4, s4 _ _ hc, by omega, hsx, fun q H5 s5 hq => ?_⟩
      refine ⟨by show 0 ≤ sizeLine; decide, fun q2 hq2 => ?_⟩
      have s6 := (Stay.refl H5).new (o := .lst []) hq2
      rw [natsV_ints] at hq
      refine neNil (s6 _ _ hq) upd_same ⟨_, rfl, ?_⟩
      rw [List.isEmpty_map]
      exact hZ _ (s5.trans s6)
    refine ⟨by show 0 ≤ sizeLine; decide, fun q hq => ?_⟩
    have s45 := s4.new (o := .lst []) hq
    have s5 := (Stay.refl H4).new (o := .lst []) hq
    refine eqNilLs (s5 _ _ hy) (ly.stay s5) upd_same ⟨_, rfl, ?_⟩
    rw [filt_isEmpty]
    have hz5 := s45 _ _ hz
    have lz5 := lz.stay s45
    have s15 := s13.trans s45
    generalize upd H4 q (.lst []) = H5 at s15 hz5 lz5 ⊢
    cases hany : (shutL B W g).any fun s => !(barG B W g s).isEmpty with
    | false =>
      refine iteT (k _ _ s15 fun b => ?_)
      rw [due_none fun s hs => ?_]
      · exact .non
      · have := (List.any_eq_false.mp hany) s hs
        simpa using this
    | true =>
    refine iteF ?_
    have m5 := m.stay s15
    -- hand by hand
    refine ⟨_, rfl, p, _, _, _, rfl, rfl, SqT.of m5.hp, rfl, pB, _, rfl, .inr (SqT.of m5.hB), (B.length : Int), by rw [m.rB.len], by omega, by omega, ?_⟩
    rw [Int.toNat_natCast]
    refine for_range (fun i σ H' => Stay H5 H' ∧ (∃ y2 y3 y4 y5, σ = [some (.ref p), some (.ref a3), y2, y3, y4, y5]) ∧ ∀ h, h < i → barG B W g (clo B W g (h : Nat)) = []) ⟨Stay.refl H5, ⟨_, _, _, _, rfl⟩, fun h hh => absurd hh (by omega)⟩ ?_ ?_
    · rintro i σ H6 hi ⟨s6, ⟨y2, y3, y4, y5, rfl⟩, hno⟩
      rw [Int.zero_add]
      have hz6 := s6 _ _ hz5
      have lz6 := lz5.stay s6
      -- mine
      refine ⟨_, rfl, a3, rfl, ⟨_, SqL.of hz6⟩, fun a7 ha7 => ?_⟩
      refine filtLs (L := shutL B W g) (fun s => s.contains ((i : Nat) : Int)) ha7 (by omega) hz6 lz6 (fun c s H7 Z hsm hc s7 hZ => ?_) (fun c H7 Z h => ⟨_, rfl, h⟩) (fun ms H7 s7 hm lm => ?_)
      · refine ⟨_, rfl, _, rfl, c, _, rfl, .inl (SqL.of (s7 _ _ hc)), rfl, flat_ints s, _, rfl, ?_⟩
        rw [if_neg (by decide), in_ints]
        exact hZ H7 (Stay.refl H7)
      have lm : LsR H7 ms (mineL B W g ((i : Nat) : Int)) := lm
      have hmine := all_mine (B := B) (W := W) (g := g) (h := ((i : Nat) : Int)) (by omega) (by omega)
      have hml : ms.length ≤ 64 := by
        have h1 := List.length_filter_le (fun s : List Int => s.contains ((i : Nat) : Int)) (shutL B W g)
        have h2 := lm.1
        have h3 := lz.1
        rw [mine_eq] at h2
        omega
      have hm0 : 0 < (mineL B W g ((i : Nat) : Int)).length := List.length_pos_of_mem hmine
      have hx0 : 0 < ms.length := by rw [lm.1]; exact hm0
      obtain ⟨c0, ec0, hc0⟩ := lm.2 0 ms[0] (List.getElem?_eq_getElem hx0)
      have hm0' : (mineL B W g ((i : Nat) : Int)).getD 0 [] ∈ mineL B W g ((i : Nat) : Int) := by rw [getD_of (List.getElem?_eq_getElem hm0)]; exact List.getElem_mem hm0
      have hsh0 := shutL_mem (List.mem_filter.mp (show _ ∈ (shutL B W g).filter fun s => s.contains ((i : Nat) : Int) from hm0')).1
      -- least
      refine ⟨_, rfl, a7, _, _, _, rfl, rfl, SqL.of hm, (show atI ms ((0 : Nat) : Int) = some (.ref c0) from atI_nat (by rw [List.getElem?_eq_getElem hx0, ec0])), c0, rfl, ⟨_, SqL.of hc0⟩, fun a8 ha8 => ?_⟩
      refine filtL (fun x => (mineL B W g ((i : Nat) : Int)).all fun s => s.contains x) ha8 (by omega) hc0 (fun x H8 Z hx s8 hZ => ?_) (fun x H8 Z h => ⟨_, rfl, h⟩) (fun H8 s8 h8 => ?_)
      · refine ⟨_, rfl, a7, rfl, ⟨_, SqL.of (s8 _ _ hm)⟩, fun a9 ha9 => ?_⟩
        refine filtLs (L := mineL B W g ((i : Nat) : Int)) (fun s => !s.contains x) ha9 (by omega) (s8 _ _ hm) (lm.stay s8) (fun c s H9 Z hsm hc s9 hZ => ?_) (fun c H9 Z h => ⟨_, rfl, h⟩) (fun us H9 s9 hu9 lu => ?_)
        · refine ⟨_, rfl, _, rfl, c, _, rfl, .inl (SqL.of (s9 _ _ hc)), rfl, flat_ints s, _, rfl, ?_⟩
          rw [if_pos rfl, in_ints]
          exact hZ H9 (Stay.refl H9)
        refine ⟨by show 0 ≤ sizeLine; decide, fun q hq => ?_⟩
        have sq := (Stay.refl H9).new (o := .lst []) hq
        refine eqNilLs (sq _ _ hu9) (lu.stay sq) upd_same ⟨_, rfl, ?_⟩
        have ea : ((mineL B W g ((i : Nat) : Int)).filter fun s => !s.contains x).isEmpty = (mineL B W g ((i : Nat) : Int)).all fun s => s.contains x := by
          rw [filt_isEmpty, List.not_any_eq_all_not]
          simp
        rw [ea]
        exact hZ _ (s9.trans sq)
      rw [least_clo (by omega) (by omega)] at h8
      have s58 := (s6.trans s7).trans s8
      have s18 := s15.trans s58
      have hb6 := clo_le (B := B) (W := W) (g := g) (h := (i : Int))
      -- goods
      refine ⟨_, rfl, _, rfl, p, pB, pW, a8, xB, xW, B, W, g, _, rfl, m.stay s18, h8, by omega, fun x hx => (mem_clo.mp hx).1, fun q H9 s9 hq => ?_⟩
      refine ⟨_, rfl, by show 0 ≤ sizeLine; decide, fun q2 hq2 => ?_⟩
      have sq := (Stay.refl H9).new (o := .lst []) hq2
      have hqi := hq
      rw [natsV_ints] at hqi
      refine neNil (sq _ _ hqi) upd_same ⟨_, rfl, ?_⟩
      rw [List.isEmpty_map]
      have s5A := (s58.trans s9).trans sq
      have hqA := sq _ _ hq
      have h8A := (s9.trans sq) _ _ h8
      generalize upd H9 q2 (.lst []) = HA at s5A hqA h8A ⊢
      cases hg : barG B W g (clo B W g (i : Nat)) with
      | nil =>
        refine iteF ⟨s5A, ⟨_, _, _, _, rfl⟩, fun h hh => ?_⟩
        rcases Nat.lt_or_ge h i with z | z
        · exact hno h z
        · obtain rfl : h = i := by omega
          exact hg
      | cons j js =>
        rw [hg] at hqA
        refine iteT ⟨_, rfl, a8, _, rfl, .inl ⟨SqL.of h8A, fun t1 ht1 => ?_⟩⟩
        have sB := (Stay.refl HA).new (o := .tup ((clo B W g (i : Nat)).map V.int)) ht1
        refine ⟨_, rfl, q, _, _, _, rfl, rfl, SqL.of (sB _ _ hqA), (show atI (natsV (j :: js)) ((0 : Nat) : Int) = some (V.int ((j : Nat) : Int)) from atI_nat rfl), by show 2 ≤ sizeLine; decide, fun t ht => ?_⟩
        refine k _ _ (((s15.trans s5A).trans sB).new ht) fun b => ?_
        rw [due_some hi hno hg]
        exact .tup upd_same (.cons (.tup (((Stay.refl _).new ht) _ _ upd_same) (trInts _)) (.cons (.int _) .nil))
    · rintro σ H6 ⟨s6, ⟨y2, y3, y4, y5, rfl⟩, hno⟩
      refine k _ _ (s15.trans s6) fun b => ?_
      rw [due_end hno]
      exact .non
abbrev NL : List Str := ["script", "k", "bag", "barter"]
theorem scLaw : FnScope NL ["script"] (defScope (top 13)) := ⟨rfl, rfl, rfl, by decide +kernel, rfl, by decide +kernel, by decide +kernel⟩
theorem ok_law {f fB fM fP fF : Addr} {fd dB dM dP dF : FuncData} (F : Fun K "law" "law" (top 13) f fd) (N : Nm mg)
    (Bg : Cal K mg P w base "_law_bag" 1 ["script", "k"] (spBag K) fB dB) (Bt : Cal K mg P w base "_law_barter" 2 ["bag"] spBt fM dM) (Bd : Cal K mg P w base "barred" 3 ["barter"] spBarred fP dP) (Du : Cal K mg P w base "_law_due" 2 ["barter"] spLDue fF dF) : FnOk P w K mg base CX0 4 f fd ["script"] (spLaw K) := by
  refine F.ok scLaw (fun vs H Q E h => ?_) (fun cdv A outer s H vs Q E hr h => ?_)
  · obtain ⟨a, ns, rfl, _⟩ := h; rfl
  · obtain ⟨a, ns, rfl, hS, hlen, k⟩ := h
    have hu := hr.units
    have hr1 : Room 1 _ := hr.mono (by decide)
    have hr2 : Room 2 _ := hr.mono (by decide)
    refine ⟨_, pss_cons (ps_for PassesOwn.never rfl (pi_range1 rfl N.range (pa_cons (pe_op op_add (pe_callB (call_min2 rfl) (by rfl) N.min boot_min (pa_cons (pe_callB (cLen K) (by rfl) N.len PySem.boot_len (pa_cons (pv 0) pa_nil)) (pa_cons pe_int pa_nil))) pe_int) pa_nil)) (pg_name (i := 1) scLaw.nd rfl (Or.inl rfl))
      (pss_cons (ps_set (i := 2) scLaw.nd rfl (Or.inl rfl) (pe_call Bg.ok hr1 rfl Bg.mg Bg.kp Bg.bd .nil pass0 (pa_cons (pv 0) (pa_cons (pv 1) pa_nil))))
      (pss_cons (ps_set (i := 3) scLaw.nd rfl (Or.inl rfl) (pe_call Bt.ok hr2 rfl Bt.mg Bt.kp Bt.bd .nil pass0 (pa_cons (pv 2) pa_nil)))
      (pss_one (ps_if (pt_cmpR (opNeD0 hu) (pe_call Bd.ok hr rfl Bd.mg Bd.kp Bd.bd .nil pass0 (pa_cons (pv 3) pa_nil)) (pe_call Du.ok hr2 rfl Du.mg Du.kp Du.bd .nil pass0 (pa_cons (pv 3) pa_nil)) (nomark _)) (pss_one (ps_ret pe_bl)) pss_nil)))))
      (pss_one (ps_ret pe_bl)), ?_⟩
    refine ⟨_, rfl, a, _, rfl, .inl hS, _, _, rfl, _, _, rfl, rfl, _, rfl, ?_, ?_, ?_⟩
    · rw [List.length_map]; split <;> omega
    · rw [List.length_map]; split <;> omega
    have hN : ((if (40 : Int) < ((ns.map V.int).length : Int) then (40 : Int) else ((ns.map V.int).length : Int)) + 2).toNat ≤ 65 := by
      rw [List.length_map]; split <;> omega
    refine for_range (fun i σ H' => Stay H H' ∧ ∃ x1 x2 x3, σ = [some (.ref a), x1, x2, x3]) ⟨Stay.refl H, _, _, _, rfl⟩ ?_ (fun σ H' _ => k H')
    rintro i σ H0 hi ⟨st0, x1, x2, x3, rfl⟩
    have hS0 := SqL.stay hS st0
    refine ⟨_, rfl, _, rfl, a, ns, _, rfl, hS0, by omega, by omega, fun b c d hb0 => ?_⟩
    have hb1 : Bag (upd H0 b (.lst [.int c, .int d])) b := ⟨c, d, upd_same⟩
    have s1 : Stay H0 (upd H0 b (.lst [.int c, .int d])) := (Stay.refl H0).new hb0
    refine ⟨_, rfl, b, rfl, hb1, fun p pB pW xB xW B W g H1 hbag kp1 m _ => ?_⟩
    have s2 : Stay H0 H1 := s1.kp kp1 hb0
    refine ⟨_, rfl, p, pB, pW, xB, xW, B, W, g, rfl, m, fun v H2 s3 hv => ?_⟩
    refine ⟨_, rfl, p, pB, pW, xB, xW, B, W, g, rfl, m.stay s3, fun u H3 s4 hu' => ?_⟩
    refine ⟨dueD B W g, dueD B W g, ((hv b).stay s4).dt, (hu' b).dt, by have := due_dep B W g; omega, _, rfl, ?_⟩
    rw [due_eqv]
    exact iteF ⟨((st0.trans s2).trans s3).trans s4, _, _, _, rfl⟩
end
end K29

set_option Elab.async false
set_option linter.all false
set_option maxRecDepth 100000
set_option maxHeartbeats 8000000
namespace K29
open PySem L2 KG EX KM
theorem all_mk {l : PySem.W.OpenLaw} {w : World} {K : PySem.W.Frag} {h : Heap} {mg : Str → Option Value} {fa : Addr} (X : K.In h) (G : h.Ns mainGlobals mg) (hfa : mg "law" = some (.ref fa))
    {f0 f1 f2 f3 f4 f5 f6 f7 f8 f9 f10 f11  : Addr}
    {od0 an0 od1 an1 od2 an2 od3 an3 od4 an4 od5 an5 od6 an6 od7 an7 od8 an8 od9 an9 od10 an10 od11 an11 : Option Addr} {sl0 sl1 sl2 sl3 sl4 sl5 sl6 sl7 sl8 sl9 sl10 sl11 : Array (Option Value)} {oc0 kV0 dc0 pm0 cd0 ct0 oc1 kV1 dc1 pm1 cd1 ct1 oc2 kV2 dc2 pm2 cd2 ct2 oc3 kV3 dc3 pm3 cd3 ct3 oc4 kV4 dc4 pm4 cd4 ct4 oc5 kV5 dc5 pm5 cd5 ct5 oc6 kV6 dc6 pm6 cd6 ct6 oc7 kV7 dc7 pm7 cd7 ct7 oc8 kV8 dc8 pm8 cd8 ct8 oc9 kV9 dc9 pm9 cd9 ct9 oc10 kV10 dc10 pm10 cd10 ct10 oc11 kV11 dc11 pm11 cd11 ct11 : Value}
    (a0 : PySem.W.nsIn K mainGlobals "barred" = some (some (.ref f0))) (l0 : K.lookup f0 = some ⟨oc0, od0, .func (PySem.W.fnOf "barred" "barred" (defArgs (top 1)) (defBody (top 1)) (defScope (top 1)) .none kV0 dc0 pm0 an0 cd0 ct0), sl0⟩) (c0 : PySem.W.codeIn K cd0 "barred" = true) (k0 : PySem.W.keepIn K (.ref f0) = true)
    (a1 : PySem.W.nsIn K mainGlobals "shut_in_with" = some (some (.ref f1))) (l1 : K.lookup f1 = some ⟨oc1, od1, .func (PySem.W.fnOf "shut_in_with" "shut_in_with" (defArgs (top 2)) (defBody (top 2)) (defScope (top 2)) .none kV1 dc1 pm1 an1 cd1 ct1), sl1⟩) (c1 : PySem.W.codeIn K cd1 "shut_in_with" = true) (k1 : PySem.W.keepIn K (.ref f1) = true)
    (a2 : PySem.W.nsIn K mainGlobals "brings_wished" = some (some (.ref f2))) (l2 : K.lookup f2 = some ⟨oc2, od2, .func (PySem.W.fnOf "brings_wished" "brings_wished" (defArgs (top 3)) (defBody (top 3)) (defScope (top 3)) .none kV2 dc2 pm2 an2 cd2 ct2), sl2⟩) (c2 : PySem.W.codeIn K cd2 "brings_wished" = true) (k2 : PySem.W.keepIn K (.ref f2) = true)
    (a3 : PySem.W.nsIn K mainGlobals "goods_only_brought" = some (some (.ref f3))) (l3 : K.lookup f3 = some ⟨oc3, od3, .func (PySem.W.fnOf "goods_only_brought" "goods_only_brought" (defArgs (top 4)) (defBody (top 4)) (defScope (top 4)) .none kV3 dc3 pm3 an3 cd3 ct3), sl3⟩) (c3 : PySem.W.codeIn K cd3 "goods_only_brought" = true) (k3 : PySem.W.keepIn K (.ref f3) = true)
    (a4 : PySem.W.nsIn K mainGlobals "_law_bag" = some (some (.ref f4))) (l4 : K.lookup f4 = some ⟨oc4, od4, .func (PySem.W.fnOf "_law_bag" "_law_bag" (defArgs (top 6)) (defBody (top 6)) (defScope (top 6)) .none kV4 dc4 pm4 an4 cd4 ct4), sl4⟩) (c4 : PySem.W.codeIn K cd4 "_law_bag" = true) (k4 : PySem.W.keepIn K (.ref f4) = true)
    (a5 : PySem.W.nsIn K mainGlobals "_law_take" = some (some (.ref f5))) (l5 : K.lookup f5 = some ⟨oc5, od5, .func (PySem.W.fnOf "_law_take" "_law_take" (defArgs (top 7)) (defBody (top 7)) (defScope (top 7)) .none kV5 dc5 pm5 an5 cd5 ct5), sl5⟩) (c5 : PySem.W.codeIn K cd5 "_law_take" = true) (k5 : PySem.W.keepIn K (.ref f5) = true)
    (a6 : PySem.W.nsIn K mainGlobals "_law_barter" = some (some (.ref f6))) (l6 : K.lookup f6 = some ⟨oc6, od6, .func (PySem.W.fnOf "_law_barter" "_law_barter" (defArgs (top 8)) (defBody (top 8)) (defScope (top 8)) .none kV6 dc6 pm6 an6 cd6 ct6), sl6⟩) (c6 : PySem.W.codeIn K cd6 "_law_barter" = true) (k6 : PySem.W.keepIn K (.ref f6) = true)
    (a7 : PySem.W.nsIn K mainGlobals "_law_sets" = some (some (.ref f7))) (l7 : K.lookup f7 = some ⟨oc7, od7, .func (PySem.W.fnOf "_law_sets" "_law_sets" (defArgs (top 9)) (defBody (top 9)) (defScope (top 9)) .none kV7 dc7 pm7 an7 cd7 ct7), sl7⟩) (c7 : PySem.W.codeIn K cd7 "_law_sets" = true) (k7 : PySem.W.keepIn K (.ref f7) = true)
    (a8 : PySem.W.nsIn K mainGlobals "_law_is_shut_in" = some (some (.ref f8))) (l8 : K.lookup f8 = some ⟨oc8, od8, .func (PySem.W.fnOf "_law_is_shut_in" "_law_is_shut_in" (defArgs (top 10)) (defBody (top 10)) (defScope (top 10)) .none kV8 dc8 pm8 an8 cd8 ct8), sl8⟩) (c8 : PySem.W.codeIn K cd8 "_law_is_shut_in" = true) (k8 : PySem.W.keepIn K (.ref f8) = true)
    (a9 : PySem.W.nsIn K mainGlobals "_law_barring" = some (some (.ref f9))) (l9 : K.lookup f9 = some ⟨oc9, od9, .func (PySem.W.fnOf "_law_barring" "_law_barring" (defArgs (top 11)) (defBody (top 11)) (defScope (top 11)) .none kV9 dc9 pm9 an9 cd9 ct9), sl9⟩) (c9 : PySem.W.codeIn K cd9 "_law_barring" = true) (k9 : PySem.W.keepIn K (.ref f9) = true)
    (a10 : PySem.W.nsIn K mainGlobals "_law_due" = some (some (.ref f10))) (l10 : K.lookup f10 = some ⟨oc10, od10, .func (PySem.W.fnOf "_law_due" "_law_due" (defArgs (top 12)) (defBody (top 12)) (defScope (top 12)) .none kV10 dc10 pm10 an10 cd10 ct10), sl10⟩) (c10 : PySem.W.codeIn K cd10 "_law_due" = true) (k10 : PySem.W.keepIn K (.ref f10) = true)
    (a11 : PySem.W.nsIn K mainGlobals "law" = some (some (.ref f11))) (l11 : K.lookup f11 = some ⟨oc11, od11, .func (PySem.W.fnOf "law" "law" (defArgs (top 13)) (defBody (top 13)) (defScope (top 13)) .none kV11 dc11 pm11 an11 cd11 ct11), sl11⟩) (c11 : PySem.W.codeIn K cd11 "law" = true) (k11 : PySem.W.keepIn K (.ref f11) = true)
    (z0 : PySem.W.nsIn K mainGlobals "len" = some none)
    (z1 : PySem.W.nsIn K mainGlobals "range" = some none)
    (z2 : PySem.W.nsIn K mainGlobals "tuple" = some none)
    (z3 : PySem.W.nsIn K mainGlobals "list" = some none)
    (z4 : PySem.W.nsIn K mainGlobals "all" = some none)
    (z5 : PySem.W.nsIn K mainGlobals "any" = some none)
    (z6 : PySem.W.nsIn K mainGlobals "max" = some none)
    (z7 : PySem.W.nsIn K mainGlobals "min" = some none)
    (z8 : PySem.W.nsIn K mainGlobals "sum" = some none)
    (z9 : PySem.W.nsIn K mainGlobals "abs" = some none)
    (z10 : PySem.W.nsIn K mainGlobals "int" = some none)
    (z11 : PySem.W.nsIn K mainGlobals "isinstance" = some none)
    (z12 : PySem.W.nsIn K mainGlobals "bool" = some none)
    (z13 : PySem.W.nsIn K mainGlobals "enumerate" = some none)
    (z14 : PySem.W.nsIn K mainGlobals "ValueError" = some none)
    (yzip : PySem.W.nsIn K mainGlobals "zip" = some none)
    (ysorted : PySem.W.nsIn K mainGlobals "sorted" = some none) :
    ∃ fd : FuncData, (∀ (s : Shared) (v : Value), BindsTo s fd ⟨[v], []⟩ [("script", v)]) ∧ ∀ base : Heap, K.In base → base.Ns mainGlobals mg → FnOk l.prog w K mg base CX0 4 fa fd ["script"] (spLaw K) := by
  have e := hfa.symm.trans (PySem.W.mg_of X G a11)
  cases e
  have N : Nm mg := ⟨PySem.W.mg_none_of X G z0, PySem.W.mg_none_of X G z1, PySem.W.mg_none_of X G z2, PySem.W.mg_none_of X G z3, PySem.W.mg_none_of X G z4, PySem.W.mg_none_of X G z5, PySem.W.mg_none_of X G z6, PySem.W.mg_none_of X G z7, PySem.W.mg_none_of X G z8, PySem.W.mg_none_of X G z9, PySem.W.mg_none_of X G z10, PySem.W.mg_none_of X G z11, PySem.W.mg_none_of X G z12, PySem.W.mg_none_of X G z13, PySem.W.mg_none_of X G z14⟩
  have mZip := PySem.W.mg_none_of X G yzip
  have mSorted := PySem.W.mg_none_of X G ysorted
  have F0 := fun_mk (st := top 1) l0 c0 k0
  have b0 := F0.binds (ps := ["barter"]) fun _ _ _ _ _ _ us hl => match us, hl with | [_], _ => rfl
  have F1 := fun_mk (st := top 2) l1 c1 k1
  have b1 := F1.binds (ps := ["barter", "hand"]) fun _ _ _ _ _ _ us hl => match us, hl with | [_, _], _ => rfl
  have F2 := fun_mk (st := top 3) l2 c2 k2
  have b2 := F2.binds (ps := ["brought", "wishes"]) fun _ _ _ _ _ _ us hl => match us, hl with | [_, _], _ => rfl
  have F3 := fun_mk (st := top 4) l3 c3 k3
  have b3 := F3.binds (ps := ["barter", "hands"]) fun _ _ _ _ _ _ us hl => match us, hl with | [_, _], _ => rfl
  have F4 := fun_mk (st := top 6) l4 c4 k4
  have b4 := F4.binds (ps := ["script", "k"]) fun _ _ _ _ _ _ us hl => match us, hl with | [_, _], _ => rfl
  have F5 := fun_mk (st := top 7) l5 c5 k5
  have b5 := F5.binds (ps := ["bag", "many"]) fun _ _ _ _ _ _ us hl => match us, hl with | [_, _], _ => rfl
  have F6 := fun_mk (st := top 8) l6 c6 k6
  have b6 := F6.binds (ps := ["bag"]) fun _ _ _ _ _ _ us hl => match us, hl with | [_], _ => rfl
  have F7 := fun_mk (st := top 9) l7 c7 k7
  have b7 := F7.binds (ps := ["some"]) fun _ _ _ _ _ _ us hl => match us, hl with | [_], _ => rfl
  have F8 := fun_mk (st := top 10) l8 c8 k8
  have b8 := F8.binds (ps := ["barter", "hands"]) fun _ _ _ _ _ _ us hl => match us, hl with | [_, _], _ => rfl
  have F9 := fun_mk (st := top 11) l9 c9 k9
  have b9 := F9.binds (ps := ["barter", "hands"]) fun _ _ _ _ _ _ us hl => match us, hl with | [_, _], _ => rfl
  have F10 := fun_mk (st := top 12) l10 c10 k10
  have b10 := F10.binds (ps := ["barter"]) fun _ _ _ _ _ _ us hl => match us, hl with | [_], _ => rfl
  have F11 := fun_mk (st := top 13) l11 c11 k11
  refine ⟨PySem.W.fnOf "law" "law" (defArgs (top 13)) (defBody (top 13)) (defScope (top 13)) .none kV11 dc11 pm11 an11 cd11 ct11, fun s v => .of_eq rfl, fun base _ _ => ?_⟩
  have Bw : Cal K mg l.prog w base "brings_wished" 1 ["brought", "wishes"] spBring f2 _ := ⟨ok_bw F2 N mZip, PySem.W.mg_of X G a2, k2, b2⟩
  have Ob : Cal K mg l.prog w base "goods_only_brought" 1 ["barter", "hands"] spOnly f3 _ := ⟨ok_ob F3 N, PySem.W.mg_of X G a3, k3, b3⟩
  have Sw : Cal K mg l.prog w base "shut_in_with" 2 ["barter", "hand"] spShutWith f1 _ := ⟨ok_sw F1 N mSorted Bw, PySem.W.mg_of X G a1, k1, b1⟩
  have Bd : Cal K mg l.prog w base "barred" 3 ["barter"] spBarred f0 _ := ⟨ok_bd F0 N Sw Ob, PySem.W.mg_of X G a0, k0, b0⟩
  have Bg : Cal K mg l.prog w base "_law_bag" 1 ["script", "k"] (spBag K) f4 _ := ⟨ok_bag F4 N, PySem.W.mg_of X G a4, k4, b4⟩
  have T : Cal K mg l.prog w base "_law_take" 1 ["bag", "many"] spTake f5 _ := ⟨ok_take F5, PySem.W.mg_of X G a5, k5, b5⟩
  have Bt : Cal K mg l.prog w base "_law_barter" 2 ["bag"] spBt f6 _ := ⟨ok_bt F6 N T, PySem.W.mg_of X G a6, k6, b6⟩
  have Se : Cal K mg l.prog w base "_law_sets" 1 ["some"] spSets f7 _ := ⟨ok_sets F7 N, PySem.W.mg_of X G a7, k7, b7⟩
  have Si : Cal K mg l.prog w base "_law_is_shut_in" 1 ["barter", "hands"] spLShut f8 _ := ⟨ok_ls F8 N, PySem.W.mg_of X G a8, k8, b8⟩
  have Ba : Cal K mg l.prog w base "_law_barring" 1 ["barter", "hands"] spLBarr f9 _ := ⟨ok_lb F9 N, PySem.W.mg_of X G a9, k9, b9⟩
  have Du : Cal K mg l.prog w base "_law_due" 2 ["barter"] spLDue f10 _ := ⟨ok_ldue F10 N Se Si Ba, PySem.W.mg_of X G a10, k10, b10⟩
  exact ok_law F11 N Bg Bt Bd Du
theorem walk {l : PySem.W.OpenLaw} {q : Program} {loose : List Str} {XP : (Str → Option Value) → Heap → Prop} {YP : World → Heap → Prop} {d : DefRec} {K : Params → PySem.W.Frag} (hn : l.most = some 63) (hdf : d.params.defaults = [])
    (hY : ∀ (w : World) (h : Heap), YP w h → (K w.params).In h)
    (F : ∀ (w : World) (mg : Str → Option Value) (fa : Addr) (h : Heap), (K w.params).In h → h.Ns mainGlobals mg → mg d.name = some (.ref fa) →
      ∃ fd : FuncData, (∀ (s : Shared) (u : Value), BindsTo s fd ⟨[u], []⟩ [("script", u)]) ∧ ∀ base : Heap, (K w.params).In base → base.Ns mainGlobals mg → FnOk l.prog w (K w.params) mg base CX0 4 fa fd ["script"] (spLaw (K w.params))) :
    PySem.W.WalkO q loose XP YP l.row.toRowW d [] (fun f vs => PySem.call f vs) :=
  L2.walk_of (n := 63) (k := 4) (x := "script") (CX := fun _ => CX0) (sp := fun w => spLaw (K w.params)) hn (by decide) hdf ⟨rfl, by decide, by decide⟩ hY F (fun _ _ a ns hl _ hS => ⟨a, ns, rfl, hS, hl, fun _ => rfl⟩) fun _ _ _ _ _ z => z
end K29
open PySem PySem.W PyProof.Rows
set_option maxRecDepth 100000 in
set_option maxHeartbeats 0 in
theorem PySem.Challenge.cw_wishmart_k29_what_bars_a_barter_holds : PySem.Challenge.rw_wishmart_k29_what_bars_a_barter.Holds := by
  w_on; o_law; k_head; (case hw => w_witness2)
  k_fill
  refine K29.walk (l := PySem.Challenge.rw_wishmart_k29_what_bars_a_barter) rfl rfl (fun w h Y => PySem.W.kIn_of Y) ?F
  case F =>
    intro w mg fa h KX G hmg
    refine' K29.all_mk KX G hmg ?a0 ?l0 ?c0 ?k0 ?a1 ?l1 ?c1 ?k1 ?a2 ?l2 ?c2 ?k2 ?a3 ?l3 ?c3 ?k3 ?a4 ?l4 ?c4 ?k4 ?a5 ?l5 ?c5 ?k5 ?a6 ?l6 ?c6 ?k6 ?a7 ?l7 ?c7 ?k7 ?a8 ?l8 ?c8 ?k8 ?a9 ?l9 ?c9 ?k9 ?a10 ?l10 ?c10 ?k10 ?a11 ?l11 ?c11 ?k11 ?z0 ?z1 ?z2 ?z3 ?z4 ?z5 ?z6 ?z7 ?z8 ?z9 ?z10 ?z11 ?z12 ?z13 ?z14 ?yzip ?ysorted
    (case a0 => k_is)
    (case l0 => k_is)
    (case c0 => k_is)
    (case k0 => k_is)
    (case a1 => k_is)
    (case l1 => k_is)
    (case c1 => k_is)
    (case k1 => k_is)
    (case a2 => k_is)
    (case l2 => k_is)
    (case c2 => k_is)
    (case k2 => k_is)
    (case a3 => k_is)
    (case l3 => k_is)
    (case c3 => k_is)
    (case k3 => k_is)
    (case a4 => k_is)
    (case l4 => k_is)
    (case c4 => k_is)
    (case k4 => k_is)
    (case a5 => k_is)
    (case l5 => k_is)
    (case c5 => k_is)
    (case k5 => k_is)
    (case a6 => k_is)
    (case l6 => k_is)
    (case c6 => k_is)
    (case k6 => k_is)
    (case a7 => k_is)
    (case l7 => k_is)
    (case c7 => k_is)
    (case k7 => k_is)
    (case a8 => k_is)
    (case l8 => k_is)
    (case c8 => k_is)
    (case k8 => k_is)
    (case a9 => k_is)
    (case l9 => k_is)
    (case c9 => k_is)
    (case k9 => k_is)
    (case a10 => k_is)
    (case l10 => k_is)
    (case c10 => k_is)
    (case k10 => k_is)
    (case a11 => k_is)
    (case l11 => k_is)
    (case c11 => k_is)
    (case k11 => k_is)
    (case z0 => k_is)
    (case z1 => k_is)
    (case z2 => k_is)
    (case z3 => k_is)
    (case z4 => k_is)
    (case z5 => k_is)
    (case z6 => k_is)
    (case z7 => k_is)
    (case z8 => k_is)
    (case z9 => k_is)
    (case z10 => k_is)
    (case z11 => k_is)
    (case z12 => k_is)
    (case z13 => k_is)
    (case z14 => k_is)
    (case yzip => k_is)
    (case ysorted => k_is)
