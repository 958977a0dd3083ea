import PyProof.Rows.All
import Wide.All
import OpenK.AllK
import Wide.FinOn
import Lean
import PyProof.EqAt
import PyProof.EqKinds
import PyProof.TupleCall
import KE.KMinKey
import PyProof.Rows.CallKwBuiltin
import PyProof.ListRange
import PyProof.Rows.SortWalk
import PySem.Challenge.RW_wishmart_k26_gains_reckoned
set_option Elab.async false
set_option linter.all false
set_option maxRecDepth 100000
namespace L2
open PySem PySem.Spec PyProof.Rows
abbrev Key := Sum Int Str
def keyIs : Key → Value → Bool
  | .inl k, v => Value.isInt k v
  | .inr x, v => Value.isStrOf x v
def keyH (w : World) : Key → Int
  | .inl k => hashInt k
  | .inr x => hashStr w x
theorem keyIs_shape : ∀ {k : Key} {v : Value}, keyIs k v = true → (∃ i t, k = Sum.inl i ∧ v = Value.int i t) ∨ (∃ x t, k = Sum.inr x ∧ v = Value.str x t)
  | .inl i, v, h => by
    obtain ⟨t, e⟩ := Value.isInt_shape (k := i) (v := v) h
    exact .inl ⟨i, t, rfl, e⟩
  | .inr x, v, h => by
    obtain ⟨t, e⟩ := Value.isStrOf_shape (x := x) (v := v) h
    exact .inr ⟨x, t, rfl, e⟩
theorem key_ll (a b : Int) : decide ((Sum.inl a : Key) = Sum.inl b) = (a == b) := by
  by_cases e : a = b
  · subst e; simp
  · have h : ¬ (Sum.inl a : Key) = Sum.inl b := fun q => e (Sum.inl.inj q)
    rw [decide_eq_false h]
    exact (beq_eq_false_iff_ne.mpr e).symm
theorem key_rr (a b : Str) : decide ((Sum.inr a : Key) = Sum.inr b) = decide (a = b) := by
  by_cases e : a = b
  · subst e; simp
  · have h : ¬ (Sum.inr a : Key) = Sum.inr b := fun q => e (Sum.inr.inj q)
    rw [decide_eq_false h, decide_eq_false e]
theorem key_lr (a : Int) (b : Str) : decide ((Sum.inl a : Key) = Sum.inr b) = false := decide_eq_false (fun q => nomatch q)
theorem key_rl (a : Str) (b : Int) : decide ((Sum.inr a : Key) = Sum.inl b) = false := decide_eq_false (fun q => nomatch q)
def mixKind (prog : Program) (w : World) : PySem.KeyKind prog w Key where
  is := keyIs
  hash := keyH w
  inj := fun v a b ha hb => by
    rcases keyIs_shape ha with ⟨i, t, rfl, rfl⟩ | ⟨x, t, rfl, rfl⟩
    · rcases keyIs_shape hb with ⟨j, u, rfl, e⟩ | ⟨y, u, rfl, e⟩
      · injection e with e1 _; rw [e1]
      · exact nomatch e
    · rcases keyIs_shape hb with ⟨j, u, rfl, e⟩ | ⟨y, u, rfl, e⟩
      · exact nomatch e
      · injection e with e1 _; rw [e1]
  byValue := fun k v h => by
    rcases keyIs_shape h with ⟨i, t, rfl, rfl⟩ | ⟨x, t, rfl, rfl⟩ <;> rfl
  pyHash := fun hv h => by
    rcases keyIs_shape hv with ⟨i, t, rfl, rfl⟩ | ⟨x, t, rfl, rfl⟩
    · exact wpAny_pyHash_int h
    · exact wpAny_pyHash_str h
  eqBool := fun hu hv h => by
    rcases keyIs_shape hu with ⟨i, t, rfl, rfl⟩ | ⟨x, t, rfl, rfl⟩
    · rcases keyIs_shape hv with ⟨j, u, rfl, rfl⟩ | ⟨y, u, rfl, rfl⟩
      · rw [key_ll] at h; exact wpAny_eqBool_int h
      · rw [key_lr] at h; exact SeqAt.EqAt.int_str i t y u _ _ _ _ h
    · rcases keyIs_shape hv with ⟨j, u, rfl, rfl⟩ | ⟨y, u, rfl, rfl⟩
      · rw [key_rl] at h; exact SeqAt.EqAt.str_int x t j u _ _ _ _ h
      · rw [key_rr] at h; exact wpAny_eqBool_str h
  «strs» := fun k x t v h => by
    rcases keyIs_shape h with ⟨i, u, rfl, e⟩ | ⟨y, u, rfl, e⟩
    · exact nomatch e
    · injection e with e1 _
      subst e1
      cases v <;> rfl
end L2
namespace L2
open PySem PySem.Spec PyProof.Rows
inductive V where
  | non | bl (b : Bool) | int (i : Int) | str (x : Str) | byt (b : Array UInt8) | flt (b : UInt64) | ref (a : Addr) | ty (n : String)
  deriving DecidableEq
def RelV : V → Value → Prop
  | .non, u => u = Value.none
  | .bl b, u => u = Value.bool b
  | .int i, u => ∃ t, u = Value.int i t
  | .str x, u => ∃ t, u = Value.str x t
  | .byt b, u => ∃ t, u = Value.bytes b t
  | .flt b, u => ∃ t, u = Value.float b t
  | .ref a, u => u = Value.ref a
  | .ty n, u => u = Value.type n
abbrev Vals : List V → List Value → Prop := Paired RelV
theorem Vals.length {xs : List V} {us : List Value} (r : Vals xs us) : xs.length = us.length := Paired.length r
theorem Vals.get : ∀ {xs : List V} {us : List Value} {i : Nat} {x : V}, Vals xs us → xs[i]? = some x → ∃ u, us[i]? = some u ∧ RelV x u
  | _, _, _, _, .nil, e => by simp at e
  | _, _, 0, _, .cons r _, e => by simp at e; subst e; exact ⟨_, rfl, r⟩
  | _, _, i + 1, x, .cons _ t, e => by
    obtain ⟨u, h1, h2⟩ := Vals.get (i := i) (x := x) t (by simpa using e)
    exact ⟨u, by simpa using h1, h2⟩
theorem Vals.set {x : V} {u : Value} (r : RelV x u) : ∀ {xs : List V} {us : List Value} (i : Nat), Vals xs us → Vals (xs.set i x) (us.set i u)
  | _, _, _, .nil => .nil
  | _, _, 0, .cons _ t => .cons r t
  | _, _, i + 1, .cons q t => .cons q (Vals.set r i t)
theorem Vals.append : ∀ {xs ys : List V} {us ws : List Value}, Vals xs us → Vals ys ws → Vals (xs ++ ys) (us ++ ws)
  | _, _, _, _, .nil, s => s
  | _, _, _, _, .cons r t, s => .cons r (Vals.append t s)
theorem Vals.take : ∀ {xs : List V} {us : List Value} (n : Nat), Vals xs us → Vals (xs.take n) (us.take n)
  | _, _, 0, _ => .nil
  | _, _, _ + 1, .nil => .nil
  | _, _, n + 1, .cons r t => .cons r (Vals.take n t)
theorem Vals.drop : ∀ {xs : List V} {us : List Value} (n : Nat), Vals xs us → Vals (xs.drop n) (us.drop n)
  | _, _, 0, r => r
  | _, _, _ + 1, .nil => .nil
  | _, _, n + 1, .cons _ t => Vals.drop n t
def RelO : Option V → Option Value → Prop
  | some v, some u => RelV v u
  | none, none => True
  | _, _ => False
def KV {κ : Type} : List (κ × V) → List (κ × Value) → Prop := Paired fun (p : κ × V) (q : κ × Value) => p.1 = q.1 ∧ RelV p.2 q.2
def kV : Key → V
  | .inl i => .int i
  | .inr x => .str x
inductive HO where
  /-- a list -/
  | lst (xs : List V)
  /-- a tuple (never changes) -/
  | tup (xs : List V)
  /-- a dict whose keys are ints and texts; one whose keys are tuples of ints and texts (the empty one is both) -/
  | dK (kvs : List (Key × V)) | dT (kvs : List (List Key × V))
  /-- a set of ints: its members, its size -/
  | set (S : Int → Bool) (n : Nat)
  /-- an instance of the class at C, its dict at dx, its attributes -/
  | ins (C dx : Addr) (fs : List (Str × V))
  /-- the dict of the instance at x -/
  | own (x : Addr)
  /-- the dict of an exception -/
  | xd (fs : List (Str × V))
  /-- a bound method, f of x -/
  | met (f x : Addr)
  /-- a range object lo, lo + 1, .. below hi -/
  | rng (lo hi : Int)
  /-- a thing that is known to the object (the script; a dict while a loop walks it): read, never written while it is so -/
  | frz (o : Obj) (u : HO)
  /-- a code object's table -/
  | tbl (ps : Array Value)
  /-- any other thing, by what is true of its one object (a def of one's own: SetO a S n := HO.ext fun h => ..) -/
  | ext (φ : Heap → Prop)
abbrev Hp := Addr → Option HO
def upd (H : Hp) (a : Addr) (o : HO) : Hp := fun b => if b = a then some o else H b
theorem upd_same {H : Hp} {a : Addr} {o : HO} : upd H a o a = some o := by unfold upd; rw [if_pos rfl]
theorem upd_ne {H : Hp} {a b : Addr} {o : HO} (h : b ≠ a) : upd H a o b = H b := by unfold upd; rw [if_neg h]
theorem ne_of_none {H : Hp} {a b : Addr} {o : HO} (h : H a = some o) (h' : H b = none) : a ≠ b := by
  intro e; subst e; rw [h] at h'; cases h'
section
variable (P : Program) (w : World)
def ObjOk (H : Hp) (h : Heap) (a : Addr) : HO → Prop
  | .lst xs => xs.length ≤ sizeLine ∧ ∃ (its : List Value) (n : Nat), Vals xs its ∧ h.get? a = some { cls := .type "list", data := .seq its.toArray n }
  | .tup xs => xs.length ≤ sizeLine ∧ ∃ its : List Value, Vals xs its ∧ IsTup h a its.toArray
  | .dK kvs => kvs.length ≤ sizeLine ∧ (a == sysModules) = false ∧ ∃ vs, KV kvs vs ∧ h.DictOf (mixKind P w) a vs
  | .dT kvs => kvs.length ≤ sizeLine ∧ (a == sysModules) = false ∧ ∃ xs : List (List Key × Addr × Value),
      Paired (fun (p : List Key × V) (q : List Key × Addr × Value) => p.1 = q.1 ∧ H q.2.1 = some (.tup (p.1.map kV)) ∧ RelV p.2 q.2.2) kvs xs ∧
      ∃ o es ep, h.get? a = some o ∧ o.ExactDict ∧ o.data = .dict es ep ∧ es.toList = xs.map (entryOfKey (tupleKind (mixKind P w))) ∧ (xs.map (·.1)).Nodup
  | .set S n => h.SetOf (intKind P w) a S n
  | .ins C dx fs => H dx = some (.own a) ∧ fs.length ≤ 1000 ∧ dx ≠ a ∧ h.get? a = some (PySem.W.instObj C dx) ∧
      ∃ mA, h.Ns1 dx mA ∧ (∀ f, RelO (fs.lookup f) (mA f)) ∧ PySem.Within mA (fs.map (·.1))
  | .own _ => ∃ o, h.get? a = some o
  | .xd fs => ∃ mA, h.Ns1 a mA ∧ ∀ f, RelO (fs.lookup f) (mA f)
  | .rng lo hi => ∃ t u v, h.get? a = some { cls := .type "range", data := .fields #[.int lo t, .int hi u, .int 1 v] }
  | .frz o u => h.get? a = some o ∧ ObjOk H h a u
  | .tbl ps => h.get? a = some { cls := .none, data := .fields ps }
  | .met f x => h.get? a = some (PySem.W.methodObj (.ref f) (.ref x))
  | .ext φ => φ h ∧ (∃ o, h.get? a = some o) ∧ ∀ h1 h2 : Heap, φ h1 → (∀ o, h1.get? a = some o → h2.get? a = some o) → φ h2
def HOk (H : Hp) (h : Heap) : Prop := ∀ a o, H a = some o → ObjOk P w H h a o
end
section
variable {P : Program} {w : World} {H H' : Hp} {h h' : Heap} {a : Addr} {o : HO}
theorem ObjOk.lt (x : ObjOk P w H h a o) : a < h.objs.size := by
  cases o with
  | lst xs => obtain ⟨_, _, _, _, e⟩ := x; exact Heap.lt_size e
  | tup xs => obtain ⟨_, _, _, p⟩ := x; exact p.lt
  | dK kvs => obtain ⟨_, _, _, _, o, _, _, e, _⟩ := x; exact Heap.lt_size e
  | dT kvs => obtain ⟨_, _, _, _, o, _, _, e, _⟩ := x; exact Heap.lt_size e
  | set S n => obtain ⟨o, _, _, _, e, _⟩ := x; exact Heap.lt_size e
  | ins C dx fs => obtain ⟨_, _, _, e, _⟩ := x; exact Heap.lt_size e
  | own y => obtain ⟨_, e⟩ := x; exact Heap.lt_size e
  | xd fs => obtain ⟨_, ⟨_, _, _, e, _⟩, _⟩ := x; exact Heap.lt_size e
  | rng lo hi => obtain ⟨_, _, _, e⟩ := x; exact Heap.lt_size e
  | frz ob u => obtain ⟨e, _⟩ := x; exact Heap.lt_size e
  | tbl ps => exact Heap.lt_size (show h.get? a = some _ from x)
  | met f y => exact Heap.lt_size (show h.get? a = some _ from x)
  | ext φ => obtain ⟨_, ⟨_, e⟩, _⟩ := x; exact Heap.lt_size e
theorem Paired.mapP {α β : Type} {F G : α → β → Prop} : ∀ {l₁ : List α} {l₂ : List β}, Paired F l₁ l₂ → (∀ a b, F a b → G a b) → Paired G l₁ l₂
  | _, _, .nil, _ => .nil
  | _, _, .cons r t, f => .cons (f _ _ r) (Paired.mapP t f)
theorem ObjOk.stay (x : ObjOk P w H h a o) (k : ∀ b u, (b = a ∨ H b = some (.own a)) → h.get? b = some u → h'.get? b = some u)
    (ho : ∀ b, H b = some (.own a) → H' b = some (.own a)) (ht : ∀ b xs, H b = some (.tup xs) → H' b = some (.tup xs)) : ObjOk P w H' h' a o := by
  induction o with
  | lst xs => obtain ⟨z, its, n, r, e⟩ := x; exact ⟨z, its, n, r, k _ _ (.inl rfl) e⟩
  | tup xs => obtain ⟨z, its, r, ob, e, c⟩ := x; exact ⟨z, its, r, ob, k _ _ (.inl rfl) e, c⟩
  | dK kvs => obtain ⟨z, y, vs, r, ob, es, ep, e, c⟩ := x; exact ⟨z, y, vs, r, ob, es, ep, k _ _ (.inl rfl) e, c⟩
  | dT kvs =>
    obtain ⟨z, y, xs, r, ob, es, ep, e, c⟩ := x
    exact ⟨z, y, xs, Paired.mapP r fun p q z => ⟨z.1, ht _ _ z.2.1, z.2.2⟩, ob, es, ep, k _ _ (.inl rfl) e, c⟩
  | set S n => obtain ⟨ob, es, ep, t, e, c⟩ := x; exact ⟨ob, es, ep, t, k _ _ (.inl rfl) e, c⟩
  | ins C dx fs =>
    obtain ⟨d, z, ne, e, mA, ⟨od, es, ep, e2, c⟩, r⟩ := x
    exact ⟨ho _ d, z, ne, k _ _ (.inl rfl) e, mA, ⟨od, es, ep, k _ _ (.inr d) e2, c⟩, r⟩
  | own y => obtain ⟨ob, e⟩ := x; exact ⟨ob, k _ _ (.inl rfl) e⟩
  | xd fs => obtain ⟨mA, ⟨od, es, ep, e, c⟩, r⟩ := x; exact ⟨mA, ⟨od, es, ep, k _ _ (.inl rfl) e, c⟩, r⟩
  | rng lo hi => obtain ⟨t, u, v, e⟩ := x; exact ⟨t, u, v, k _ _ (.inl rfl) e⟩
  | frz ob u ih => obtain ⟨e, q⟩ := x; exact ⟨k _ _ (.inl rfl) e, ih q⟩
  | tbl ps =>
    have e : h.get? a = some { cls := .none, data := .fields ps } := x
    show h'.get? a = some { cls := .none, data := .fields ps }
    exact k a _ (.inl rfl) e
  | met f y =>
    have e : h.get? a = some (PySem.W.methodObj (.ref f) (.ref y)) := x
    show h'.get? a = some (PySem.W.methodObj (.ref f) (.ref y))
    exact k a _ (.inl rfl) e
  | ext φ => obtain ⟨p, ⟨o, e⟩, st⟩ := x; exact ⟨st _ _ p fun o q => k _ _ (.inl rfl) q, ⟨o, k _ _ (.inl rfl) e⟩, st⟩
theorem HOk.lt (x : HOk P w H h) (e : H a = some o) : a < h.objs.size := (x a o e).lt
theorem HOk.fresh (x : HOk P w H h) (e : h.objs.size ≤ a) : H a = none := by
  cases q : H a with
  | none => rfl
  | some u => exact absurd (Nat.lt_of_lt_of_le (x.lt q) e) (Nat.lt_irrefl _)
theorem HOk.kept (x : HOk P w H h) (k : ∀ b u, h.get? b = some u → h'.get? b = some u) : HOk P w H h' := fun a o e =>
  (x a o e).stay (fun b u _ q => k b u q) (fun _ q => q) fun _ _ q => q
theorem HOk.laid (x : HOk P w H h) (k : ∀ b u, h.get? b = some u → h'.get? b = some u) (hp : h.objs.size ≤ a) (new : ObjOk P w (upd H a o) h' a o) : HOk P w (upd H a o) h' := fun b u e => by
  have hn := x.fresh hp
  by_cases hb : b = a
  · subst hb; rw [upd_same] at e; cases e; exact new
  · rw [upd_ne hb] at e
    exact (x b u e).stay (fun c v _ q => k c v q) (fun c q => by rw [upd_ne (ne_of_none q hn)]; exact q) fun c xs q => by rw [upd_ne (ne_of_none q hn)]; exact q
end
def Rd (H : Hp) (a : Addr) (u : HO) : Prop := H a = some u ∨ ∃ o, H a = some (.frz o u)
theorem Rd.ok {P : Program} {w : World} {H : Hp} {h : Heap} {a : Addr} {u : HO} (r : Rd H a u) (x : HOk P w H h) : ObjOk P w H h a u := by
  rcases r with r | ⟨o, r⟩
  · exact x a u r
  · obtain ⟨_, q⟩ := x a _ r
    exact q
def Mut : Option HO → Prop
  | some (.lst _) => True
  | some (.dK _) => True
  | some (.dT _) => True
  | some (.set _ _) => True
  | some (.ins _ _ _) => True
  | some (.ext _) => True
  | _ => False
section
variable {P : Program} {w : World} {H : Hp} {h h' : Heap} {x e : Addr} {o' : HO}
theorem HOk.write (ok : HOk P w H h) (mu : Mut (H x)) (he : e = x ∨ H e = some (.own x)) (k : ∀ b u, b ≠ e → h.get? b = some u → h'.get? b = some u) (heo : ∃ u, h'.get? e = some u)
    (new : ObjOk P w (upd H x o') h' x o') : HOk P w (upd H x o') h' := fun b u q => by
  have nown : ∀ c y, H c = some (.own y) → c ≠ x := fun c y r z => by subst z; rw [r] at mu; exact mu
  have ntup : ∀ c xs, H c = some (.tup xs) → c ≠ x := fun c xs r z => by subst z; rw [r] at mu; exact mu
  by_cases hb : b = x
  · subst hb; rw [upd_same] at q; cases q; exact new
  · rw [upd_ne hb] at q
    by_cases hbe : b = e
    · have q' : H b = some (.own x) := by
        rcases he with z | z
        · exact absurd (hbe.trans z) hb
        · rw [hbe]; exact z
      rw [q] at q'; cases q'
      obtain ⟨v, hv⟩ := heo
      exact ⟨v, by rw [hbe]; exact hv⟩
    · refine (ok b u q).stay (fun c v hc r => k c v ?_ r) (fun c r => by rw [upd_ne (nown c b r)]; exact r) fun c xs r => by rw [upd_ne (ntup c xs r)]; exact r
      rcases hc with rfl | hc
      · exact hbe
      · rintro rfl
        rcases he with z | z
        · exact nown c b hc z
        · rw [hc] at z; cases z; exact hb rfl
end
structure Un (fs ex : List Addr) (H H' : Hp) (h h' : Heap) : Prop where
  keep : ∀ b o, h.get? b = some o → H b = none → b ∉ fs → b ∉ ex → h'.get? b = some o
  slot : ∀ b o, h.get? b = some o → H b = none → b ∈ fs → b ∉ ex → ∃ sl, h'.get? b = some { o with slots := sl }
  free : ∀ b o, h.get? b = some o → H b = none → b ∉ ex → H' b = none
  there : ∀ b o, h.get? b = some o → b ∉ ex → ∃ o', h'.get? b = some o'
  tups : ∀ b xs, H b = some (.tup xs) → H' b = some (.tup xs)
  frzs : ∀ b o u, H b = some (.frz o u) → H' b = some (.frz o u)
  tbls : ∀ b ps, H b = some (.tbl ps) → ∃ more, H' b = some (.tbl (ps ++ more))
section
variable {fs fs' ex ex' : List Addr} {H H1 H2 : Hp} {h h1 h2 h' : Heap} {a x e : Addr} {o : HO}
theorem Un.any (u : Un fs ex H H1 h h1) {b : Addr} {ob : Obj} (q : h.get? b = some ob) (n : H b = none) (hx : b ∉ ex) : ∃ sl, h1.get? b = some { ob with slots := sl } := by
  by_cases hb : b ∈ fs
  · exact u.slot b ob q n hb hx
  · exact ⟨ob.slots, u.keep b ob q n hb hx⟩
theorem Un.kept (k : ∀ b u, h.get? b = some u → h'.get? b = some u) : Un fs ex H H h h' :=
  ⟨fun b ob q _ _ _ => k b ob q, fun b ob q _ _ _ => ⟨ob.slots, k b ob q⟩, fun _ _ _ n _ => n, fun b ob q _ => ⟨ob, k b ob q⟩, fun _ _ q => q, fun _ _ _ q => q, fun _ ps q => ⟨#[], by rw [q]; simp⟩⟩
theorem Un.refl : Un fs ex H H h h := Un.kept fun _ _ q => q
theorem Un.laid (k : ∀ b u, h.get? b = some u → h'.get? b = some u) (hp : h.objs.size ≤ a) (hn : H a = none) : Un fs ex H (upd H a o) h h' where
  keep := fun b u q _ _ _ => k b u q
  slot := fun b u q _ _ _ => ⟨u.slots, k b u q⟩
  free := fun b u q n _ => by rw [upd_ne (Nat.ne_of_lt (Nat.lt_of_lt_of_le (Heap.lt_size q) hp))]; exact n
  there := fun b u q _ => ⟨u, k b u q⟩
  tups := fun b xs q => by rw [upd_ne (ne_of_none q hn)]; exact q
  frzs := fun b u xs q => by rw [upd_ne (ne_of_none q hn)]; exact q
  tbls := fun b ps q => ⟨#[], by rw [upd_ne (ne_of_none q hn), q]; simp⟩
theorem Un.write (mu : Mut (H x)) (he : e = x ∨ H e = some (.own x)) (k : ∀ b u, b ≠ e → h.get? b = some u → h'.get? b = some u) (heo : ∃ u, h'.get? e = some u) : Un fs ex H (upd H x o) h h' := by
  have hx : ∀ b, H b = none → b ≠ x := fun b n z => by subst z; rw [n] at mu; exact mu
  have hb : ∀ b, H b = none → b ≠ e := fun b n z => by
    subst z
    rcases he with r | r
    · exact hx b n r
    · rw [n] at r; cases r
  have hm : ∀ b u, H b = some u → ¬ Mut (some u) → b ≠ x := fun b u q nm z => by subst z; rw [q] at mu; exact nm mu
  refine ⟨fun b u q n _ _ => k b u (hb b n) q, fun b u q n _ _ => ⟨u.slots, k b u (hb b n) q⟩, fun b u q n _ => by rw [upd_ne (hx b n)]; exact n, fun b u q _ => ?_,
    fun b xs q => by rw [upd_ne (hm b _ q fun z => z)]; exact q, fun b u xs q => by rw [upd_ne (hm b _ q fun z => z)]; exact q, fun b ps q => ⟨#[], by rw [upd_ne (hm b _ q fun z => z), q]; simp⟩⟩
  by_cases hbe : b = e
  · subst hbe; exact heo
  · exact ⟨u, k b u hbe q⟩
end
def trk (h : Heap) (H : Hp) : List Addr := (List.range h.objs.size).filter fun a => (H a).isSome
def hidT (h : Heap) (H : Hp) : Heap := PySem.W.hideAll h (trk h H)
theorem hidT_size (h : Heap) (H : Hp) : (hidT h H).objs.size = h.objs.size := PySem.W.hideAll_size _ _
theorem hidT_get {h : Heap} {H : Hp} {b : Addr} {o : Obj} (e : h.get? b = some o) (n : H b = none) : (hidT h H).get? b = some o :=
  PySem.W.hideAll_get _ e fun hm => by
    have q : (H b).isSome = true := (List.mem_filter.mp hm).2
    rw [n] at q; simp at q
theorem of_hidT {h : Heap} {H : Hp} {b : Addr} {o : Obj} (e : (hidT h H).get? b = some o) : h.get? b = some o ∧ H b = none := by
  have e' : h.get? b = some o := PySem.W.of_hideAll (trk h H) e
  refine ⟨e', ?_⟩
  cases q : H b with
  | none => rfl
  | some x =>
    have hm : b ∈ trk h H := List.mem_filter.mpr ⟨List.mem_range.mpr (Heap.lt_size e'), by simp [q]⟩
    have z : (hidT h H).get? b = none := PySem.W.hideAll_none (trk h H) hm
    rw [z] at e; cases e
end L2
namespace L2
open PySem PySem.Spec PyProof.Rows
structure Mod (K : PySem.W.Frag) (mg : Str → Option Value) (base : Heap) : Prop where
  kin : K.In base
  glob : base.Ns mainGlobals mg
  blt : ∃ mb, base.Ns builtinsNs mb ∧ ∀ x : Str, x ≠ "__name__" → mb x = bootBuiltins x
  nolimit : base.NoLimit
/-- the context: a def's body (or a comprehension's block) running. base: fixed through the whole law; s₀, H₀: the entry; outer: the frames whose slots others may change (a def's callers); stack: all frames that run;
   ex: iterators that were made ahead of the entry and are walked here (a comprehension's); fn: the names whose cells were made at the entry (a def: all; a comprehension's block: its own); calm: not within an except suite; pn: pins that every state bears; xe: what is wanted of an exception that leaves the code -/
structure Cx where
  prog : Program
  w : World
  K : PySem.W.Frag
  mg : Str → Option Value
  base : Heap
  A : Around
  N : List Str
  s₀ : Shared
  H₀ : Hp
  env : Env
  outer : List Env
  stack : List Env
  ex : List Addr
  fn : Str → Bool
  calm : Bool
  pn : List (Addr × Obj)
  xe : Value → Shared → Prop
def frs (l : List Env) : List Addr := l.filterMap (·.frame)
abbrev Cx.fs (X : Cx) : List Addr := frs X.outer
def Vis (sc : Scope) (x : Str) : Prop := sc.names.lookup x = some .local ∨ sc.names.lookup x = some .cell ∨ sc.names.lookup x = some .free
def Loc (sc : Scope) (x : Str) : Prop := sc.names.lookup x = some .local ∨ sc.names.lookup x = some .cell
def Look (env : Env) (h : Heap) (m : Str → Option Value) (x : Str) (u : Value) : Prop :=
  (env.kindOf x = some .local ∧ m x = some u) ∨ ((env.kindOf x = some .cell ∨ env.kindOf x = some .free) ∧ ∃ c, env.cells.lookup x = some c ∧ h.IsCell c (some u))
structure Cx.Ok (X : Cx) : Prop where
  mod : Mod X.K X.mg X.base
  kind : X.env.scope.kind = .function
  glob : X.env.globals = mainGlobals
  blt : X.env.builtins = builtinsNs
  above : X.s₀.heap.objs.size ≤ X.env.locals
  inj : ∀ x y c, X.env.cells.lookup x = some c → X.env.cells.lookup y = some c → x = y
  has : ∀ x, (X.env.kindOf x = some .cell ∨ X.env.kindOf x = some .free) → ∃ c, X.env.cells.lookup x = some c
  cab : ∀ x c, X.fn x = true → X.env.cells.lookup x = some c → X.s₀.heap.objs.size ≤ c
  hd : X.calm = true → X.A.handled = none
  frames : X.A.frames = some X.stack
  stk : X.stack = X.outer ∨ (X.stack = X.env :: X.outer ∧ X.env.frame = some X.env.locals)
  exf : ∀ b ∈ X.ex, b ≠ X.env.locals ∧ ∀ x c, X.env.cells.lookup x = some c → c ≠ b
  bs : ∀ b o, X.base.get? b = some o → X.s₀.heap.get? b = some o ∧ X.H₀ b = none
  bsz : X.base.objs.size ≤ X.s₀.heap.objs.size
  noex : ∀ b o, X.base.get? b = some o → b ∉ X.ex
  exfs : ∀ b ∈ X.ex, b ∉ X.fs
  funs : X.s₀.heap.FunFrames X.base X.outer
  frf : ∀ b ∈ X.fs, X.H₀ b = none
structure Inv (X : Cx) (pins : List (Addr × Obj)) (σ : List (Option V)) (H : Hp) (s : Shared) : Prop where
  ok : X.Ok
  os : s.os = X.s₀.os
  bare : AllBare s.gens
  base : Un X.fs X.ex X.H₀ H X.s₀.heap s.heap
  loc : ∃ m, s.heap.Ns X.env.locals m ∧ ∀ (i : Nat) (x : Str) (v : V), X.N[i]? = some x → σ[i]? = some (some v) → Vis X.env.scope x → ∃ u, RelV v u ∧ Look X.env s.heap m x u
  cell : ∀ x c, X.env.cells.lookup x = some c → ∃ v, s.heap.IsCell c v
  free : H X.env.locals = none
  freeC : ∀ x c, X.env.cells.lookup x = some c → H c = none
  pin : ∀ p ∈ X.pn ++ pins, s.heap.get? p.1 = some p.2 ∧ H p.1 = none ∧ p.1 ≠ X.env.locals ∧ p.1 ∉ X.fs ∧ ∀ v, p.2.data ≠ .cell v
  hok : HOk X.prog X.w H s.heap
  len : σ.length = X.N.length
section
variable {X : Cx} {pins : List (Addr × Obj)} {σ : List (Option V)} {H H' : Hp} {s : Shared} {h' : Heap}
theorem Cx.Ok.nofr (ok : X.Ok) {b : Addr} {o : Obj} (e : X.base.get? b = some o) : b ∉ X.fs := fun hb => by
  have := (ok.funs.mem hb).1
  rw [e] at this; cases this
theorem Inv.bs (I : Inv X pins σ H s) : ∀ b o, X.base.get? b = some o → s.heap.get? b = some o ∧ H b = none := fun b o e =>
  ⟨I.base.keep b o (I.ok.bs b o e).1 (I.ok.bs b o e).2 (I.ok.nofr e) (I.ok.noex b o e), I.base.free b o (I.ok.bs b o e).1 (I.ok.bs b o e).2 (I.ok.noex b o e)⟩
theorem Inv.bk (I : Inv X pins σ H s) : ∀ b o, X.base.get? b = some o → s.heap.get? b = some o := fun b o e => (I.bs b o e).1
theorem Inv.mod (I : Inv X pins σ H s) : Mod X.K X.mg X.base := I.ok.mod
theorem Inv.kIn (I : Inv X pins σ H s) : X.K.In s.heap := I.ok.mod.kin.keeps I.bk
theorem Inv.lt (I : Inv X pins σ H s) : X.env.locals < s.heap.objs.size := let ⟨_, hn, _⟩ := I.loc; hn.lt
theorem Inv.sz (I : Inv X pins σ H s) : X.s₀.heap.objs.size ≤ s.heap.objs.size := Nat.le_trans I.ok.above (Nat.le_of_lt I.lt)
theorem Inv.nofs (I : Inv X pins σ H s) {a : Addr} (h : s.heap.objs.size ≤ a) : a ∉ X.fs := fun hb => by
  obtain ⟨_, o, ho, _⟩ := I.ok.funs.mem hb
  exact absurd (Nat.lt_of_lt_of_le (Heap.lt_size ho) (Nat.le_trans I.sz h)) (Nat.lt_irrefl _)
theorem Inv.cne (I : Inv X pins σ H s) : ∀ x c, X.env.cells.lookup x = some c → c ≠ X.env.locals := fun x c e z => by
  obtain ⟨v, o, ho, hd⟩ := I.cell x c e
  obtain ⟨m, ⟨o', es, ep, ho', hd', _⟩, _⟩ := I.loc
  rw [z, ho'] at ho; cases ho; rw [hd'] at hd; cases hd
theorem Inv.funs (I : Inv X pins σ H s) : s.heap.FunFrames X.base X.outer := by
  have all : ∀ (l : List Env), (∀ b ∈ frs l, b ∈ X.fs) → X.s₀.heap.FunFrames X.base l → s.heap.FunFrames X.base l := by
    intro l
    induction l with
    | nil => intro _ _; trivial
    | cons env r ih =>
      intro hs hl
      obtain ⟨hk, ⟨L, o, hf, hn, ho, hd⟩, hr⟩ := hl
      have hL : L ∈ X.fs := hs L (by unfold frs; rw [List.filterMap_cons, hf]; exact List.mem_cons_self)
      obtain ⟨sl, e⟩ := I.base.slot L o ho (I.ok.frf L hL) hL fun z => I.ok.exfs L z hL
      exact ⟨hk, ⟨L, _, hf, hn, e, hd⟩, ih (fun b hb => hs b (by unfold frs; rw [List.filterMap_cons, hf]; exact List.mem_cons_of_mem _ hb)) hr⟩
  exact all X.outer (fun _ hb => hb) I.ok.funs
theorem Inv.stack (I : Inv X pins σ H s) : s.heap.FunFrames X.base X.stack := by
  rcases I.ok.stk with e | ⟨e, hf⟩
  · rw [e]; exact I.funs
  · rw [e]
    obtain ⟨m, hn, _⟩ := I.loc
    refine .cons (by rw [I.ok.kind]; decide) hf hn ?_ I.funs
    exact Heap.get?_none_of_le (Nat.le_trans I.ok.bsz I.ok.above)
theorem Inv.stkSub (I : Inv X pins σ H s) : ∀ b ∈ frs X.stack, b ∈ X.env.locals :: X.fs := fun b hb => by
  rcases I.ok.stk with e | ⟨e, hf⟩
  · rw [e] at hb; exact List.mem_cons_of_mem _ hb
  · rw [e] at hb
    unfold frs at hb
    rw [List.filterMap_cons, hf] at hb
    exact hb
theorem Inv.stkFree (I : Inv X pins σ H s) : ∀ b ∈ frs X.stack, H b = none := fun b hb => by
  rcases List.mem_cons.mp (I.stkSub b hb) with e | hb
  · rw [e]; exact I.free
  · obtain ⟨_, o, ho, _⟩ := I.ok.funs.mem hb
    exact I.base.free b o ho (I.ok.frf b hb) fun z => I.ok.exfs b z hb
theorem Inv.step {g' : Array GenState} {t' : Nat} {d' : Drawn} {ch : List Addr} (I : Inv X pins σ H s)
    (hch : ∀ b ∈ ch, (b ∈ X.ex ∨ X.s₀.heap.objs.size ≤ b) ∧ b ≠ X.env.locals ∧ (∀ x c, X.env.cells.lookup x = some c → c ≠ b) ∧ ∀ p ∈ X.pn ++ pins, p.1 ≠ b)
    (keep : ∀ b o, b ≠ X.env.locals → b ∉ X.fs → b ∉ ch → s.heap.get? b = some o → H b = none → h'.get? b = some o)
    (slot : ∀ b o, b ≠ X.env.locals → b ∈ X.fs → b ∉ ch → s.heap.get? b = some o → H b = none → ∃ sl, h'.get? b = some { o with slots := sl }) (free : ∀ b o, b ∉ ch → s.heap.get? b = some o → H b = none → H' b = none)
    (there : ∀ b o, b ∉ ch → s.heap.get? b = some o → ∃ o', h'.get? b = some o')
    (tups : ∀ b xs, H b = some (.tup xs) → H' b = some (.tup xs)) (frzs : ∀ b o u, H b = some (.frz o u) → H' b = some (.frz o u)) (tbls : ∀ b ps, H b = some (.tbl ps) → ∃ more, H' b = some (.tbl (ps ++ more)))
    (ns : ∀ m, s.heap.Ns X.env.locals m → h'.Ns X.env.locals m) (hok : HOk X.prog X.w H' h') (hg : AllBare g') :
    Inv X pins σ H' { s with heap := h', gens := g', drawn := d', toks := t' } := by
  have neL : ∀ b o, X.s₀.heap.get? b = some o → b ≠ X.env.locals := fun b o e => Nat.ne_of_lt (Nat.lt_of_lt_of_le (Heap.lt_size e) I.ok.above)
  have neC : ∀ b o, X.s₀.heap.get? b = some o → b ∉ X.ex → b ∉ ch := fun b o e hx hb => by
    rcases (hch b hb).1 with z | z
    · exact hx z
    · exact absurd (Nat.lt_of_lt_of_le (Heap.lt_size e) z) (Nat.lt_irrefl _)
  have cellK : ∀ x c, X.env.cells.lookup x = some c → ∀ v, s.heap.IsCell c v → h'.IsCell c v := fun x c e v ⟨o, ho, hd⟩ => by
    have nch : c ∉ ch := fun z => (hch c z).2.2.1 x c e rfl
    by_cases hc : c ∈ X.fs
    · obtain ⟨sl, q⟩ := slot c o (I.cne x c e) hc nch ho (I.freeC x c e)
      exact ⟨_, q, hd⟩
    · exact ⟨o, keep c o (I.cne x c e) hc nch ho (I.freeC x c e), hd⟩
  refine ⟨I.ok, I.os, hg, ⟨fun b o e n hb hx => ?_, fun b o e n hb hx => ?_, fun b o e n hx => ?_, fun b o e hx => ?_, fun b xs e => tups b xs (I.base.tups b xs e), fun b o xs e => frzs b o xs (I.base.frzs b o xs e), fun b ps e => ?_⟩, ?_, fun x c e => ?_, ?_, fun x c e => ?_, fun p hp => ?_, hok, I.len⟩
  · exact keep b o (neL b o e) hb (neC b o e hx) (I.base.keep b o e n hb hx) (I.base.free b o e n hx)
  · obtain ⟨sl, e1⟩ := I.base.slot b o e n hb hx
    obtain ⟨sl', e2⟩ := slot b _ (neL b o e) hb (neC b o e hx) e1 (I.base.free b o e n hx)
    exact ⟨sl', e2⟩
  · obtain ⟨o', e1⟩ := I.base.there b o e hx
    exact free b o' (neC b o e hx) e1 (I.base.free b o e n hx)
  · obtain ⟨o', e1⟩ := I.base.there b o e hx
    exact there b o' (neC b o e hx) e1
  · obtain ⟨m1, e1⟩ := I.base.tbls b ps e
    obtain ⟨m2, e2⟩ := tbls b _ e1
    exact ⟨m1 ++ m2, by rw [e2, Array.append_assoc]⟩
  · obtain ⟨m, hn, hl⟩ := I.loc
    refine ⟨m, ns m hn, fun i x v e1 e2 e3 => ?_⟩
    obtain ⟨u, r, l⟩ := hl i x v e1 e2 e3
    refine ⟨u, r, ?_⟩
    rcases l with l | ⟨k, c, e, z⟩
    · exact .inl l
    · exact .inr ⟨k, c, e, cellK x c e _ z⟩
  · obtain ⟨v, z⟩ := I.cell x c e
    exact ⟨v, cellK x c e v z⟩
  · obtain ⟨m, ⟨o, _, _, ho, _⟩, _⟩ := I.loc
    exact free _ o (fun z => (hch _ z).2.1 rfl) ho I.free
  · obtain ⟨v, o, ho, hd⟩ := I.cell x c e
    exact free c o (fun z => (hch c z).2.2.1 x c e rfl) ho (I.freeC x c e)
  · obtain ⟨e, n, ne, nf, d⟩ := I.pin p hp
    have nch : p.1 ∉ ch := fun z => (hch p.1 z).2.2.2 p hp rfl
    exact ⟨keep p.1 p.2 ne nf nch e n, free p.1 p.2 nch e n, ne, nf, d⟩
theorem Inv.un {t' : Nat} (I : Inv X pins σ H s) (u : Un X.fs [] H H' s.heap h') (hok : HOk X.prog X.w H' h') : Inv X pins σ H' { s with heap := h', toks := t' } := by
  obtain ⟨m, ⟨o, es, ep, ho, r⟩, _⟩ := id I.loc
  obtain ⟨sl, hL⟩ := u.any ho I.free (by simp)
  exact I.step (g' := s.gens) (d' := s.drawn) (ch := []) (fun _ z => nomatch z) (fun b o _ hb _ e n => u.keep b o e n hb (by simp)) (fun b o _ hb _ e n => u.slot b o e n hb (by simp)) (fun b o _ e n => u.free b o e n (by simp)) (fun b o _ e => u.there b o e (by simp)) u.tups u.frzs u.tbls (fun m' hm => by
    obtain ⟨o', es', ep', ho', r'⟩ := hm
    rw [ho] at ho'; cases ho'
    exact ⟨_, es', ep', hL, r'⟩) hok I.bare
theorem Inv.call {g' : Array GenState} {t' : Nat} {d' : Drawn} {ch : List Addr} (I : Inv X pins σ H s) (u : Un (frs X.stack) ch H H' s.heap h') (hok : HOk X.prog X.w H' h') (hg : AllBare g')
    (hch : ∀ b ∈ ch, (b ∈ X.ex ∨ X.s₀.heap.objs.size ≤ b) ∧ b ≠ X.env.locals ∧ (∀ x c, X.env.cells.lookup x = some c → c ≠ b) ∧ ∀ p ∈ X.pn ++ pins, p.1 ≠ b) :
    Inv X pins σ H' { s with heap := h', gens := g', drawn := d', toks := t' } := by
  obtain ⟨m, ⟨o, es, ep, ho, r⟩, _⟩ := id I.loc
  obtain ⟨sl, hL⟩ := u.any ho I.free fun z => (hch _ z).2.1 rfl
  exact I.step (ch := ch) hch (fun b o hL hb hc e n => u.keep b o e n (fun z => (List.mem_cons.mp (I.stkSub b z)).elim hL hb) hc) (fun b o _ _ hc e n => u.any e n hc) (fun b o hc e n => u.free b o e n hc) (fun b o hc e => u.there b o e hc) u.tups u.frzs u.tbls (fun m' hm => by
    obtain ⟨o', es', ep', ho', r'⟩ := hm
    rw [ho] at ho'; cases ho'
    exact ⟨_, es', ep', hL, r'⟩) hok hg
theorem Inv.turned {t' : Nat} {it : Addr} (I : Inv X pins σ H s) (k : ∀ b o, b ≠ it → s.heap.get? b = some o → h'.get? b = some o) (hn : H it = none) (hL : it ≠ X.env.locals)
    (h1 : it ∈ X.ex ∨ X.s₀.heap.objs.size ≤ it) (h2 : ∀ x c, X.env.cells.lookup x = some c → c ≠ it) (h3 : ∀ p ∈ X.pn ++ pins, p.1 ≠ it) : Inv X pins σ H { s with heap := h', toks := t' } := by
  have nit : ∀ b u, H b = some u → b ≠ it := fun b u e z => by rw [z, hn] at e; cases e
  refine I.step (g' := s.gens) (d' := s.drawn) (ch := [it]) (fun b hb => ?_) (fun b o _ _ hc e _ => k b o (fun z => hc (by simp [z])) e) (fun b o _ _ hc e _ => ⟨o.slots, k b o (fun z => hc (by simp [z])) e⟩) (fun _ _ _ _ n => n)
    (fun b o hc e => ⟨o, k b o (fun z => hc (by simp [z])) e⟩) (fun _ _ e => e) (fun _ _ _ e => e) (fun b ps e => ⟨#[], by rw [e]; simp⟩) (fun m hm => ?_) (fun b u e => ?_) I.bare
  · have e : b = it := by simpa using hb
    subst e
    exact ⟨h1, hL, h2, h3⟩
  · obtain ⟨o, es, ep, ho, r⟩ := hm
    exact ⟨o, es, ep, k _ o (Ne.symm hL) ho, r⟩
  · refine (I.hok b u e).stay (fun c v hc q => k c v ?_ q) (fun _ q => q) fun _ _ q => q
    rcases hc with z | z
    · rw [z]; exact nit b u e
    · exact nit c _ z
theorem Inv.tok (I : Inv X pins σ H s) (t : Nat) : Inv X pins σ H { s with toks := t } := I.un (h' := s.heap) (t' := t) Un.refl I.hok
theorem Inv.kept {t' : Nat} (I : Inv X pins σ H s) (k : ∀ b u, s.heap.get? b = some u → h'.get? b = some u) : Inv X pins σ H { s with heap := h', toks := t' } := I.un (Un.kept k) (I.hok.kept k)
theorem Inv.laid {a : Addr} {o : HO} {t' : Nat} (I : Inv X pins σ H s) (k : ∀ b u, s.heap.get? b = some u → h'.get? b = some u) (hp : s.heap.objs.size ≤ a) (new : ObjOk X.prog X.w (upd H a o) h' a o) :
    Inv X pins σ (upd H a o) { s with heap := h', toks := t' } := I.un (Un.laid k hp (I.hok.fresh hp)) (I.hok.laid k hp new)
theorem Inv.write {x e : Addr} {o : HO} {t' : Nat} (I : Inv X pins σ H s) (mu : Mut (H x)) (he : e = x ∨ H e = some (.own x)) (k : ∀ b u, b ≠ e → s.heap.get? b = some u → h'.get? b = some u) (heo : ∃ u, h'.get? e = some u)
    (new : ObjOk X.prog X.w (upd H x o) h' x o) : Inv X pins σ (upd H x o) { s with heap := h', toks := t' } := I.un (Un.write mu he k heo) (I.hok.write mu he k heo new)
theorem Inv.pins_of {pins' : List (Addr × Obj)} (I : Inv X pins σ H s) (h : ∀ p ∈ pins', s.heap.get? p.1 = some p.2 ∧ H p.1 = none ∧ p.1 ≠ X.env.locals ∧ p.1 ∉ X.fs ∧ ∀ v, p.2.data ≠ .cell v) : Inv X pins' σ H s :=
  ⟨I.ok, I.os, I.bare, I.base, I.loc, I.cell, I.free, I.freeC, fun p hp => (List.mem_append.mp hp).elim (fun z => I.pin p (List.mem_append_left _ z)) (h p), I.hok, I.len⟩
theorem nodup_ix {N : List Str} (hN : N.Nodup) {i j : Nat} {x : Str} (a : N[i]? = some x) (b : N[j]? = some x) : i = j := by
  obtain ⟨h1, e1⟩ := List.getElem?_eq_some_iff.mp a
  obtain ⟨h2, e2⟩ := List.getElem?_eq_some_iff.mp b
  exact (List.getElem_inj hN).mp (e1.trans e2.symm)
theorem store_ok2 {M : Model} {A : Around} {E : Value → Shared → Prop} {i : Nat} {x : Str} {v : V} {u : Value} {Q : Unit → Shared → Prop} (I : Inv X pins σ H s) (hN : X.N.Nodup) (hi : X.N[i]? = some x) (hx : Loc X.env.scope x) (r : RelV v u)
    (h : ∀ s', Inv X pins (σ.set i (some v)) H s' → (∃ a, Heap.SameBut a s.heap s'.heap ∧ (a = X.env.locals ∨ X.env.cells.lookup x = some a)) → Q () s') (hf : X.fn x = true ∨ X.env.scope.names.lookup x = some .local := by first | exact .inl rfl | exact .inr rfl | assumption) : wpAny M A (storeName X.env x u) Q E s := by
  obtain ⟨m, hn, hl⟩ := id I.loc
  have hcls : (X.env.scope.kind == .class || (X.env.scope.kind == .module && X.env.locals != X.env.globals)) = false := by rw [I.ok.kind]; rfl
  have hiσ : i < σ.length := by rw [I.len]; exact (List.getElem?_eq_some_iff.mp hi).1
  have cne := I.cne
  have tracked : ∀ {a : Addr} {h' : Heap}, (∃ o, s.heap.get? a = some o ∧ H a = none) → Heap.SameBut a s.heap h' → HOk X.prog X.w H h' := fun {a h'} ha hs b ob e => by
    obtain ⟨_, _, hfree⟩ := ha
    refine (I.hok b ob e).stay (fun c w' hc q => (hs.2 c ?_).trans q) (fun _ q => q) fun _ _ q => q
    rintro rfl
    rcases hc with rfl | hc
    · rw [hfree] at e; cases e
    · rw [hfree] at hc; cases hc
  rcases hx with hk | hk
  · refine wpAny_storeName_local hk hn (fun h' hn' hs => ?_) hcls
    obtain ⟨oL, _, _, hoL, _⟩ := id hn
    refine h _ ⟨I.ok, I.os, I.bare, ⟨fun b o e n hb hx => ?_, fun b o e n hb hx => ?_, I.base.free, fun b o e hx => ?_, I.base.tups, I.base.frzs, I.base.tbls⟩, ⟨_, hn', fun j y v' e1 e2 e3 => ?_⟩, fun y c e => ?_, I.free, I.freeC, fun p hp => ?_, tracked ⟨oL, hoL, I.free⟩ hs, by simpa using I.len⟩ ⟨_, hs, .inl rfl⟩
    · exact (hs.2 b (Nat.ne_of_lt (Nat.lt_of_lt_of_le (Heap.lt_size e) I.ok.above))).trans (I.base.keep b o e n hb hx)
    · obtain ⟨sl, e1⟩ := I.base.slot b o e n hb hx
      exact ⟨sl, (hs.2 b (Nat.ne_of_lt (Nat.lt_of_lt_of_le (Heap.lt_size e) I.ok.above))).trans e1⟩
    · obtain ⟨o', e1⟩ := I.base.there b o e hx
      exact ⟨o', (hs.2 b (Nat.ne_of_lt (Nat.lt_of_lt_of_le (Heap.lt_size e) I.ok.above))).trans e1⟩
    · by_cases hj : j = i
      · subst hj
        rw [hi] at e1; cases e1
        rw [List.getElem?_set_self hiσ] at e2
        cases e2
        exact ⟨u, r, .inl ⟨hk, by simp⟩⟩
      · rw [List.getElem?_set_ne (Ne.symm hj)] at e2
        obtain ⟨u', r', q⟩ := hl j y v' e1 e2 e3
        refine ⟨u', r', ?_⟩
        rcases q with ⟨k, e⟩ | ⟨k, c, e, z⟩
        · refine .inl ⟨k, ?_⟩
          have : y ≠ x := fun e => hj (nodup_ix hN e1 (e ▸ hi))
          simp [this, e]
        · exact .inr ⟨k, c, e, z.sameBut hs (cne y c e)⟩
    · obtain ⟨w', z⟩ := I.cell y c e
      exact ⟨w', z.sameBut hs (cne y c e)⟩
    · obtain ⟨e, n, ne, nf, d⟩ := I.pin p hp
      exact ⟨(hs.2 p.1 ne).trans e, n, ne, nf, d⟩
  · have hfn : X.fn x = true := by
      rcases hf with z | z
      · exact z
      · rw [z] at hk; cases hk
    obtain ⟨c, hc⟩ := I.ok.has x (.inl hk)
    obtain ⟨w', z⟩ := I.cell x c hc
    refine wpAny_storeName_cell I.ok.kind hk hc z (fun h' hc' hs => ?_)
    obtain ⟨oc, hoc, hocd⟩ := id z
    refine h { s with heap := h' } ⟨I.ok, I.os, I.bare, ⟨fun b o e n hb hx => ?_, fun b o e n hb hx => ?_, I.base.free, fun b o e hx => ?_, I.base.tups, I.base.frzs, I.base.tbls⟩, ⟨m, hn.sameBut hs (Ne.symm (cne x c hc)), fun j y v' e1 e2 e3 => ?_⟩, fun y c' e => ?_, I.free, I.freeC, fun p hp => ?_, tracked ⟨oc, hoc, I.freeC x c hc⟩ hs, by simpa using I.len⟩ ⟨c, hs, .inr hc⟩
    · exact (hs.2 b (Nat.ne_of_lt (Nat.lt_of_lt_of_le (Heap.lt_size e) (I.ok.cab x c hfn hc)))).trans (I.base.keep b o e n hb hx)
    · obtain ⟨sl, e1⟩ := I.base.slot b o e n hb hx
      exact ⟨sl, (hs.2 b (Nat.ne_of_lt (Nat.lt_of_lt_of_le (Heap.lt_size e) (I.ok.cab x c hfn hc)))).trans e1⟩
    · obtain ⟨o', e1⟩ := I.base.there b o e hx
      exact ⟨o', (hs.2 b (Nat.ne_of_lt (Nat.lt_of_lt_of_le (Heap.lt_size e) (I.ok.cab x c hfn hc)))).trans e1⟩
    · by_cases hj : j = i
      · subst hj
        rw [hi] at e1; cases e1
        rw [List.getElem?_set_self hiσ] at e2
        cases e2
        exact ⟨u, r, .inr ⟨.inl hk, c, hc, hc'⟩⟩
      · rw [List.getElem?_set_ne (Ne.symm hj)] at e2
        obtain ⟨u', r', q⟩ := hl j y v' e1 e2 e3
        refine ⟨u', r', ?_⟩
        rcases q with q | ⟨k, c', e, z'⟩
        · exact .inl q
        · refine .inr ⟨k, c', e, z'.sameBut hs ?_⟩
          rintro rfl
          exact hj (nodup_ix hN e1 (I.ok.inj _ _ _ e hc ▸ hi))
    · by_cases hcc : c' = c
      · subst hcc; exact ⟨_, hc'⟩
      · obtain ⟨w2, z2⟩ := I.cell y c' e
        exact ⟨w2, z2.sameBut hs hcc⟩
    · obtain ⟨e, n, ne, nf, d⟩ := I.pin p hp
      refine ⟨(hs.2 p.1 ?_).trans e, n, ne, nf, d⟩
      intro q
      rw [q, hoc] at e
      have q' : oc = p.2 := Option.some.inj e
      exact d w' (by rw [← q']; exact hocd)
theorem store_ok {M : Model} {A : Around} {E : Value → Shared → Prop} {i : Nat} {x : Str} {v : V} {u : Value} {Q : Unit → Shared → Prop} (I : Inv X pins σ H s) (hN : X.N.Nodup) (hi : X.N[i]? = some x) (hx : Loc X.env.scope x) (r : RelV v u)
    (h : ∀ s', Inv X pins (σ.set i (some v)) H s' → Q () s') (hf : X.fn x = true ∨ X.env.scope.names.lookup x = some .local := by first | exact .inl rfl | exact .inr rfl | assumption) : wpAny M A (storeName X.env x u) Q E s :=
  store_ok2 I hN hi hx r (fun s' I' _ => h s' I') hf
theorem Inv.call' {s' : Shared} {ch : List Addr} (I : Inv X pins σ H s) (ho : s'.os = s.os) (u : Un (frs X.stack) ch H H' s.heap s'.heap) (hok : HOk X.prog X.w H' s'.heap) (hg : AllBare s'.gens)
    (hch : ∀ b ∈ ch, (b ∈ X.ex ∨ X.s₀.heap.objs.size ≤ b) ∧ b ≠ X.env.locals ∧ (∀ x c, X.env.cells.lookup x = some c → c ≠ b) ∧ ∀ p ∈ X.pn ++ pins, p.1 ≠ b) : Inv X pins σ H' s' := by
  obtain ⟨h', g', d', t', o'⟩ := s'
  have e : o' = s.os := ho
  subst e
  exact I.call (g' := g') (t' := t') (d' := d') u hok hg hch
end
abbrev XK := Value → Option Addr → Hp → Prop
abbrev St := List (Option V)
abbrev VK := V → Hp → Prop
abbrev TE := St → Hp → VK → Prop
abbrev TT := St → Hp → (Bool → Hp → Prop) → Prop
abbrev TA := St → Hp → (List V → Hp → Prop) → Prop
structure Ends where
  nx : St → Hp → Prop
  rt : VK
  bk : St → Hp → Prop := fun _ _ => False
  ct : St → Hp → Prop := fun _ _ => False
abbrev TS := Ends → St → Hp → Prop
def EP (X : Cx) (pins : List (Addr × Obj)) (σ : St) (Q : VK) (u : Value) (s' : Shared) : Prop := ∃ v H', Inv X pins σ H' s' ∧ RelV v u ∧ Q v H'
def TP (X : Cx) (pins : List (Addr × Obj)) (σ : St) (Q : Bool → Hp → Prop) (b : Bool) (s' : Shared) : Prop := ∃ H', Inv X pins σ H' s' ∧ Q b H'
def AP (X : Cx) (pins : List (Addr × Obj)) (σ : St) (Q : List V → Hp → Prop) (us : List Value) (s' : Shared) : Prop := ∃ vs H', Inv X pins σ H' s' ∧ Vals vs us ∧ Q vs H'
def SP (X : Cx) (pins : List (Addr × Obj)) (D : Ends) (f : Flow) (s' : Shared) : Prop :=
  match f with
  | .next => ∃ σ' H', Inv X pins σ' H' s' ∧ D.nx σ' H'
  | .brk => ∃ σ' H', Inv X pins σ' H' s' ∧ D.bk σ' H'
  | .cont => ∃ σ' H', Inv X pins σ' H' s' ∧ D.ct σ' H'
  | .ret u => ∃ v σ' H', Inv X pins σ' H' s' ∧ RelV v u ∧ D.rt v H'
def PE (X : Cx) (e : Expr) (t : TE) : Prop :=
  ∀ (pins : List (Addr × Obj)) (s : Shared) (σ : St) (H : Hp) (Q : VK), Inv X pins σ H s → t σ H Q → wpAny (model X.prog X.w) X.A (eval e X.env) (EP X pins σ Q) X.xe s
def PT (X : Cx) (e : Expr) (t : TT) : Prop :=
  ∀ (pins : List (Addr × Obj)) (s : Shared) (σ : St) (H : Hp) (Q : Bool → Hp → Prop), Inv X pins σ H s → t σ H Q → wpAny (model X.prog X.w) X.A (isTrue e X.env (eval e X.env)) (TP X pins σ Q) X.xe s
def PW (X : Cx) (e : Expr) (t : TT) : Prop :=
  ∀ (whole : Sem Value) (pins : List (Addr × Obj)) (s : Shared) (σ : St) (H : Hp) (Q : Bool → Hp → Prop), Inv X pins σ H s → t σ H Q → wpAny (model X.prog X.w) X.A (isTrue e X.env whole) (TP X pins σ Q) X.xe s
theorem PW.pt {X : Cx} {e : Expr} {t : TT} (h : PW X e t) : PT X e t := h _
def PA (X : Cx) (es : List Expr) (t : TA) : Prop :=
  ∀ (pos : Pos) (pins : List (Addr × Obj)) (s : Shared) (σ : St) (H : Hp) (Q : List V → Hp → Prop), Inv X pins σ H s → t σ H Q → wpAny (model X.prog X.w) X.A (spliced (backTo pos (starEach es X.env))) (AP X pins σ Q) X.xe s
def PS (X : Cx) (st : Stmt) (t : TS) : Prop :=
  ∀ (pins : List (Addr × Obj)) (s : Shared) (σ : St) (H : Hp) (D : Ends), Inv X pins σ H s → t D σ H → wpAny (model X.prog X.w) X.A (exec st X.env) (SP X pins D) X.xe s
def PSs (X : Cx) (st : List Stmt) (t : TS) : Prop :=
  ∀ (pins : List (Addr × Obj)) (s : Shared) (σ : St) (H : Hp) (D : Ends), Inv X pins σ H s → t D σ H → wpAny (model X.prog X.w) X.A (execs st X.env) (SP X pins D) X.xe s
theorem thn {α : Type} {t : Sem α} {Q Q' : α → Shared → Prop} {M : Model} {A : Around} {E : Value → Shared → Prop} {s : Shared} (h : wpAny M A t Q E s) (hQ : ∀ a s, Q a s → Q' a s) : wpAny M A t Q' E s := wpAny_mono h hQ fun _ _ x => x
end L2
namespace L2
open PySem PySem.Spec PyProof.Rows
section
variable {X : Cx}
def tVar (i : Nat) : TE := fun σ H Q => ∃ v, σ[i]? = some (some v) ∧ Q v H
def tC (v : V) : TE := fun _ H Q => Q v H
theorem pe_var {i : Nat} {x : Str} {pos : Pos} (hN : X.N[i]? = some x) (hv : Vis X.env.scope x) (hd : (x == ("__debug__" : Str)) = false := by decide) (hcd : (x == ("__classdict__" : Str)) = false := by decide) : PE X (.Name x pos) (tVar i) := by
  intro pins s σ H Q I h
  obtain ⟨v, e, h⟩ := h
  obtain ⟨m, hn, hl⟩ := I.loc
  obtain ⟨u, r, l⟩ := hl i x v hN e hv
  have fin : EP X pins σ Q u s := ⟨v, H, I, r, h⟩
  rcases l with ⟨hk, hm⟩ | ⟨hk, c, hc, hcell⟩
  · exact wpAny_Name (wpAny_loadName_local I.ok.kind hk hn hm fin) hd
  · rcases hk with hk | hk
    · exact wpAny_Name (wpAny_loadName_cell I.ok.kind hk hc hcell fin) hd
    · exact wpAny_Name (wpAny_loadName_free I.ok.kind hk hc hcell fin hcd) hd
theorem pe_int {i j pos} : PE X (.Constant (.int i) j pos) (tC (.int i)) := fun _ _ _ H _ I h => wpAny_Constant_int ⟨.int i, H, I.tok _, ⟨_, rfl⟩, h⟩
theorem pe_bl {b j pos} : PE X (.Constant (.bool b) j pos) (tC (.bl b)) := fun _ _ _ H _ I h => Constant_bool ⟨.bl b, H, I, rfl, h⟩
theorem pe_non {j pos} : PE X (.Constant .none j pos) (tC .non) := fun _ _ _ H _ I h => Constant_none ⟨.non, H, I, rfl, h⟩
theorem pe_str {x j pos} : PE X (.Constant (.str x) j pos) (tC (.str x)) := fun _ _ _ H _ I h => Calls.Constant_str ⟨.str x, H, I.tok _, ⟨_, rfl⟩, h⟩
def Gl (X : Cx) (x : Str) : Prop := X.env.kindOf x = some .globalImplicit
theorem ld_glob {E : Value → Shared → Prop} {pins : List (Addr × Obj)} {s : Shared} {σ : St} {H : Hp} {x : Str} {u : Value} {pos : Pos} {Q : Value → Shared → Prop} (I : Inv X pins σ H s) (hg : Gl X x) (hm : X.mg x = some u) (h : Q u s)
    (hd : (x == ("__debug__" : Str)) = false := by decide) : wpAny (model X.prog X.w) X.A (eval (.Name x pos) X.env) Q E s :=
  Calls.Name_function_global I.ok.kind hg (Calls.loadGlobal_global (by rw [I.ok.glob]; exact I.mod.glob.keeps I.bk) hm h) hd
theorem ld_blt {E : Value → Shared → Prop} {pins : List (Addr × Obj)} {s : Shared} {σ : St} {H : Hp} {x : Str} {u : Value} {pos : Pos} {Q : Value → Shared → Prop} (I : Inv X pins σ H s) (hg : Gl X x) (hm : X.mg x = none) (hv : bootBuiltins x = some u) (h : Q u s)
    (hn : x ≠ "__name__" := by decide) (hd : (x == ("__debug__" : Str)) = false := by decide) : wpAny (model X.prog X.w) X.A (eval (.Name x pos) X.env) Q E s := by
  obtain ⟨mb, h1, h2⟩ := I.mod.blt
  exact Calls.Name_function_global I.ok.kind hg (Calls.loadGlobal_builtin (by rw [I.ok.glob]; exact I.mod.glob.keeps I.bk) hm (by rw [I.ok.blt]; exact h1.keeps I.bk) ((h2 x hn).trans hv) h) hd
variable {a b : Expr} {ta tb : TE} {pos : Pos}
def tB (t : TE) : TT := fun σ H Q => t σ H fun x H1 => ∃ c, x = .bl c ∧ Q c H1
theorem pt_val {e : Expr} {t : TE} (h : PE X e t) (he : ∀ whole, isTrue e X.env whole = (do let v ← whole; standAt e.pos; holding [v] (truthy v)) := by intro _; rfl) : PT X e (tB t) := by
  intro pins s σ H Q I hw
  refine isTrue_plain (thn (h pins s σ H _ I hw) fun v s1 ⟨x, H1, I1, r1, q1⟩ => ?_) (he _)
  obtain ⟨d, rfl, q⟩ := q1
  cases r1
  exact wpAny_truthy_bool ⟨H1, I1, q⟩
variable {tA tB' : TT} {rest : List Expr}
def tOr (t u : TT) : TT := fun σ H Q => t σ H fun c H1 => if c = true then Q true H1 else u σ H1 Q
def tNot (t : TT) : TT := fun σ H Q => t σ H fun c H1 => Q (!c) H1
theorem pw_or1 (ha : PT X a tA) : PW X (.BoolOp .Or [a] pos) tA := by
  intro wh pins s σ H Q I h
  refine isTrue_or (thn (ha pins s σ H Q I h) fun c s1 e => ?_)
  cases c with
  | false => exact isTrue_or_nil e
  | true => exact e
theorem pw_or (ha : PT X a tA) (hb : PW X (.BoolOp .Or (b :: rest) pos) tB') : PW X (.BoolOp .Or (a :: b :: rest) pos) (tOr tA tB') := by
  intro wh pins s σ H Q I h
  refine isTrue_or (thn (ha pins s σ H _ I h) fun c s1 ⟨H1, I1, q1⟩ => ?_)
  cases c with
  | true => exact ⟨H1, I1, q1⟩
  | false => exact hb wh pins s1 σ H1 Q I1 q1
theorem pt_not (ha : PT X a tA) : PT X (.UnaryOp .Not a pos) (tNot tA) := by
  intro pins s σ H Q I h
  exact isTrue_not (ha pins s σ H (fun c H1 => Q (!c) H1) I h)
def tAndV (ta tb : TE) : TE := fun σ H Q => ta σ H fun x H1 => ∃ c, x = .bl c ∧ if c = true then tb σ H1 Q else Q (.bl false) H1
def tNotV (ta : TE) : TE := fun σ H Q => ta σ H fun x H1 => ∃ c, x = .bl c ∧ Q (.bl (!c)) H1
theorem pe_one {op} {t : TE} (h : PE X a t) : PE X (.BoolOp op [a] pos) t := fun pins s σ H Q I hw => BoolOp_one (h pins s σ H Q I hw)
theorem pe_and (ha : PE X a ta) (hb : PE X (.BoolOp .And (b :: rest) pos) tb) : PE X (.BoolOp .And (a :: b :: rest) pos) (tAndV ta tb) := by
  intro pins s σ H Q I h
  refine BoolOp_and (thn (ha pins s σ H _ I h) fun v s1 ⟨x, H1, I1, r1, q1⟩ => ?_)
  obtain ⟨c, rfl, q1⟩ := q1
  cases r1
  refine wpAny_truthy_bool ?_
  cases c with
  | true => exact hb pins s1 σ H1 Q I1 q1
  | false => exact ⟨.bl false, H1, I1, rfl, q1⟩
theorem pe_not (ha : PE X a ta) : PE X (.UnaryOp .Not a pos) (tNotV ta) := by
  intro pins s σ H Q I h
  refine UnaryOp_ (thn (ha pins s σ H _ I h) fun v s1 ⟨x, H1, I1, r1, q1⟩ => ?_)
  obtain ⟨c, rfl, q1⟩ := q1
  cases r1
  exact not_of (wpAny_truthy_bool ⟨.bl (!c), H1, I1, rfl, q1⟩)
end
end L2
namespace L2
open PySem PySem.Spec PyProof.Rows
def SqL (K : PySem.W.Frag) (H : Hp) (a : Addr) (xs : List V) : Prop :=
  Rd H a (.lst xs) ∨
    ∃ (o : Obj) (its : Array Value) (n : Nat), K.lookup a = some o ∧ o.cls = .type "list" ∧ o.dict = none ∧ o.data = .seq its n ∧ its.size ≤ sizeLine ∧ Vals xs its.toList
def SqT (K : PySem.W.Frag) (H : Hp) (a : Addr) (xs : List V) : Prop :=
  Rd H a (.tup xs) ∨
    ∃ (o : Obj) (its : Array Value) (n : Nat), K.lookup a = some o ∧ o.cls = .type "tuple" ∧ o.data = .seq its n ∧ its.size ≤ sizeLine ∧ Vals xs its.toList
def absV : Value → Option V
  | .none => some .non
  | .bool b => some (.bl b)
  | .int i _ => some (.int i)
  | .str x _ => some (.str x)
  | .bytes b _ => some (.byt b)
  | .float b _ => some (.flt b)
  | .ref a => some (.ref a)
  | .type n => some (.ty n)
  | _ => none
theorem RelV.abs {x : V} {u : Value} (r : RelV x u) : absV u = some x := by
  cases x with
  | non => cases r; rfl
  | bl _ => cases r; rfl
  | int _ => obtain ⟨t, rfl⟩ := r; rfl
  | str _ => obtain ⟨t, rfl⟩ := r; rfl
  | byt _ => obtain ⟨t, rfl⟩ := r; rfl
  | flt _ => obtain ⟨t, rfl⟩ := r; rfl
  | ref _ => cases r; rfl
  | ty _ => cases r; rfl
theorem RelV.inj {x y : V} {u : Value} (r : RelV x u) (q : RelV y u) : x = y := Option.some.inj (r.abs.symm.trans q.abs)
theorem Vals.inj : ∀ {xs ys : List V} {us : List Value}, Vals xs us → Vals ys us → xs = ys
  | _, _, _, .nil, .nil => rfl
  | _, _, _, .cons r t, .cons r' t' => by rw [r.inj r', Vals.inj t t']
section
variable {X : Cx} {pins : List (Addr × Obj)} {σ : St} {H : Hp} {s : Shared} {a : Addr} {xs ys : List V}
theorem SqL.of {K : PySem.W.Frag} (h : H a = some (.lst xs)) : SqL K H a xs := .inl (.inl h)
theorem SqT.of {K : PySem.W.Frag} (h : H a = some (.tup xs)) : SqT K H a xs := .inl (.inl h)
theorem Inv.list (I : Inv X pins σ H s) (h : SqL X.K H a xs) : ∃ its : List Value, Vals xs its ∧ PlainL s.heap a its.toArray ∧ xs.length ≤ sizeLine := by
  rcases h with h | ⟨o, its, n, hk, hc, hd, hs, hz, r⟩
  · obtain ⟨z, its, n, r, e⟩ := h.ok I.hok
    exact ⟨its, r, ⟨_, n, e, rfl, rfl, rfl⟩, z⟩
  · refine ⟨its.toList, r, ⟨o, n, I.kIn a o hk, hc, hd, by simpa using hs⟩, ?_⟩
    have e := r.length
    simp only [Array.length_toList] at e
    omega
theorem Inv.tuple (I : Inv X pins σ H s) (h : SqT X.K H a xs) : ∃ its : List Value, Vals xs its ∧ IsTup s.heap a its.toArray ∧ xs.length ≤ sizeLine := by
  rcases h with h | ⟨o, its, n, hk, hc, hs, hz, r⟩
  · obtain ⟨z, its, r, p⟩ := h.ok I.hok
    exact ⟨its, r, p, z⟩
  · refine ⟨its.toList, r, ⟨o, I.kIn a o hk, hc, n, by simpa using hs⟩, ?_⟩
    have e := r.length
    simp only [Array.length_toList] at e
    omega
theorem Inv.list_inj (I : Inv X pins σ H s) (h : SqL X.K H a xs) (h' : SqL X.K H a ys) : xs = ys := by
  obtain ⟨its, r, ⟨o, n, e, _, _, d⟩, _⟩ := I.list h
  obtain ⟨its', r', ⟨o', n', e', _, _, d'⟩, _⟩ := I.list h'
  rw [e] at e'; cases e'
  rw [d] at d'
  injection d' with d1 _
  have : its = its' := by simpa using congrArg Array.toList d1
  subst this
  exact r.inj r'
theorem Inv.tuple_inj (I : Inv X pins σ H s) (h : SqT X.K H a xs) (h' : SqT X.K H a ys) : xs = ys := by
  obtain ⟨its, r, ⟨o, e, _, n, d⟩, _⟩ := I.tuple h
  obtain ⟨its', r', ⟨o', e', _, n', d'⟩, _⟩ := I.tuple h'
  rw [e] at e'; cases e'
  rw [d] at d'
  injection d' with d1 _
  have : its = its' := by simpa using congrArg Array.toList d1
  subst this
  exact r.inj r'
end
abbrev Cx.wish (X : Cx) (E : Value → Shared → Prop) : Cx := { X with xe := E }
abbrev Cx.nox (X : Cx) : Cx := X.wish fun _ _ => False
theorem Cx.Ok.wish {X : Cx} (ok : X.Ok) (E : Value → Shared → Prop) : (X.wish E).Ok :=
  ⟨ok.mod, ok.kind, ok.glob, ok.blt, ok.above, ok.inj, ok.has, ok.cab, ok.hd, ok.frames, ok.stk, ok.exf, ok.bs, ok.bsz, ok.noex, ok.exfs, ok.funs, ok.frf⟩
theorem Cx.Ok.unwish {X : Cx} {E : Value → Shared → Prop} (ok : (X.wish E).Ok) : X.Ok :=
  ⟨ok.mod, ok.kind, ok.glob, ok.blt, ok.above, ok.inj, ok.has, ok.cab, ok.hd, ok.frames, ok.stk, ok.exf, ok.bs, ok.bsz, ok.noex, ok.exfs, ok.funs, ok.frf⟩
section
variable {X : Cx} {pins : List (Addr × Obj)} {σ : St} {H : Hp} {s : Shared} {E : Value → Shared → Prop}
theorem Inv.wish (I : Inv X pins σ H s) (E : Value → Shared → Prop) : Inv (X.wish E) pins σ H s := ⟨I.ok.wish E, I.os, I.bare, I.base, I.loc, I.cell, I.free, I.freeC, I.pin, I.hok, I.len⟩
theorem Inv.unwish (I : Inv (X.wish E) pins σ H s) : Inv X pins σ H s := ⟨I.ok.unwish, I.os, I.bare, I.base, I.loc, I.cell, I.free, I.freeC, I.pin, I.hok, I.len⟩
theorem SP.unwish {D : Ends} {f : Flow} {s' : Shared} (h : SP (X.wish E) pins D f s') : SP X pins D f s' := by
  cases f with
  | next => obtain ⟨σ', H', I, q⟩ := h; exact ⟨σ', H', I.unwish, q⟩
  | brk => obtain ⟨σ', H', I, q⟩ := h; exact ⟨σ', H', I.unwish, q⟩
  | cont => obtain ⟨σ', H', I, q⟩ := h; exact ⟨σ', H', I.unwish, q⟩
  | ret u => obtain ⟨v, σ', H', I, r, q⟩ := h; exact ⟨v, σ', H', I.unwish, r, q⟩
theorem PSs.nox {st : List Stmt} {t : TS} (h : PSs X.nox st t) : PSs X st t := fun pins s σ H D I hw =>
  wpAny_mono (h pins s σ H D (I.wish _) hw) (fun _ _ q => q.unwish) fun _ _ z => False.elim z
end
section
variable {X : Cx} {st : Stmt} {rest : List Stmt} {t u : TS} {e : Expr} {te : TE} {pos : Pos}
def tNext : TS := fun D σ H => D.nx σ H
def tSeq (t u : TS) : TS := fun D σ H => t { D with nx := u D } σ H
theorem pss_nil : PSs X [] tNext := fun _ _ σ H _ I h => wpAny_execs_nil ⟨σ, H, I, h⟩
theorem pss_cons (h1 : PS X st t) (h2 : PSs X rest u) : PSs X (st :: rest) (tSeq t u) := by
  intro pins s σ H D I h
  refine wpAny_execs_cons (thn (h1 pins s σ H { D with nx := u D } I h) fun f s1 q => ?_)
  cases f with
  | next =>
    obtain ⟨σ', H', I', q⟩ := q
    exact h2 pins s1 σ' H' D I' q
  | ret v => exact q
  | brk => exact q
  | cont => exact q
theorem pss_one (h1 : PS X st t) : PSs X [st] t := by
  intro pins s σ H D I h
  refine wpAny_execs_cons (thn (h1 pins s σ H D I h) fun f s1 q => ?_)
  cases f with
  | next => exact wpAny_execs_nil q
  | ret v => exact q
  | brk => exact q
  | cont => exact q
theorem Inv.quiet {pins : List (Addr × Obj)} {σ : St} {H : Hp} {s : Shared} (I : Inv X pins σ H s) : interactive X.env = false := by simp [interactive, I.ok.kind]
def tDrop (te : TE) : TS := fun D σ H => te σ H fun _ H1 => D.nx σ H1
theorem ps_expr (he : PE X e te) (hs : swapsWith e none pos.line X.env = pure false := by rfl) : PS X (.Expr e pos) (tDrop te) := by
  intro pins s σ H D I h
  exact wpAny_Expr_any (thn (he pins s σ H _ I h) fun v s1 ⟨x, H1, I1, r1, q1⟩ => ⟨σ, H1, I1, q1⟩) I.quiet hs
def tRet (te : TE) : TS := fun D σ H => te σ H D.rt
theorem ps_ret (he : PE X e te) : PS X (.Return (some e) pos) (tRet te) := by
  intro pins s σ H D I h
  exact wpAny_Return_some (thn (he pins s σ H _ I h) fun v s1 ⟨x, H1, I1, r1, q1⟩ => ⟨x, σ, H1, I1, r1, q1⟩)
def tIfS (c : TT) (t u : TS) : TS := fun D σ H => c σ H fun b H1 => if b = true then t D σ H1 else u D σ H1
theorem ps_if {c : Expr} {a b : List Stmt} {tc : TT} (hc : PT X c tc) (ha : PSs X a t) (hb : PSs X b u) : PS X (.If c a b pos) (tIfS tc t u) := by
  intro pins s σ H D I h
  refine wpAny_If (thn (hc pins s σ H _ I h) fun d s1 ⟨H1, I1, q1⟩ => ?_)
  cases d with
  | true => exact ha pins s1 σ H1 D I1 q1
  | false => exact hb pins s1 σ H1 D I1 q1
end
abbrev TG := V → St → Hp → (St → Hp → Prop) → Prop
abbrev TGs := List V → St → Hp → (St → Hp → Prop) → Prop
def PG (X : Cx) (target : Expr) (t : TG) : Prop :=
  ∀ (pins : List (Addr × Obj)) (s : Shared) (σ : St) (H : Hp) (v : V) (u : Value) (Q : St → Hp → Prop), Inv X pins σ H s → RelV v u → t v σ H Q →
    wpAny (model X.prog X.w) X.A (assign target X.env u) (fun _ s' => ∃ σ' H', Inv X pins σ' H' s' ∧ Q σ' H') X.xe s
def PGs (X : Cx) (ts : List Expr) (t : TGs) : Prop :=
  ∀ (pins : List (Addr × Obj)) (s : Shared) (σ : St) (H : Hp) (vs : List V) (us : List Value) (Q : St → Hp → Prop), Inv X pins σ H s → Vals vs us → t vs σ H Q →
    wpAny (model X.prog X.w) X.A (assignInOrder ((assignEach ts X.env).map (·.2)) us) (fun _ s' => ∃ σ' H', Inv X pins σ' H' s' ∧ Q σ' H') X.xe s
abbrev TSet := V → V → V → Hp → (Hp → Prop) → Prop
def PSet (X : Cx) (t : TSet) : Prop :=
  ∀ (pins : List (Addr × Obj)) (s : Shared) (σ : St) (H : Hp) (o i v : V) (ov iv u : Value) (Q : Hp → Prop), Inv X pins σ H s → RelV o ov → RelV i iv → RelV v u → t o i v H Q →
    wpAny (model X.prog X.w) X.A (setItem ov iv u) (fun _ s' => ∃ H', Inv X pins σ H' s' ∧ Q H') X.xe s
section
variable {X : Cx} {pos : Pos}
def gName (i : Nat) : TG := fun v σ H Q => Q (σ.set i (some v)) H
theorem pg_name {i : Nat} {x : Str} (hN : X.N.Nodup) (hi : X.N[i]? = some x) (hx : Loc X.env.scope x) (hf : X.fn x = true ∨ X.env.scope.names.lookup x = some .local := by first | exact .inl rfl | exact .inr rfl | assumption) : PG X (.Name x pos) (gName i) := by
  intro pins s σ H v u Q I r h
  exact wpAny_assign_Name (store_ok I hN hi hx r (fun s' I' => ⟨_, H, I', h⟩) hf)
def gNil : TGs := fun vs σ H Q => vs = [] ∧ Q σ H
def gCons (t : TG) (u : TGs) : TGs := fun vs σ H Q => ∃ v r, vs = v :: r ∧ t v σ H fun σ' H' => u r σ' H' Q
theorem pgs_nil : PGs X [] gNil := by
  intro pins s σ H vs us Q I r h
  obtain ⟨e, h⟩ := h
  subst e
  cases r
  exact assignInOrder_nil ⟨σ, H, I, h⟩
theorem pgs_cons {e : Expr} {es : List Expr} {t : TG} {u : TGs} (h1 : PG X e t) (h2 : PGs X es u)
    (hs : (assignEach (e :: es) X.env).map (·.2) = assign e X.env :: (assignEach es X.env).map (·.2) := by rfl) : PGs X (e :: es) (gCons t u) := by
  intro pins s σ H vs us Q I r h
  obtain ⟨v, vr, e1, h⟩ := h
  subst e1
  cases r with
  | cons r rr =>
    rw [hs]
    refine assignInOrder_cons (thn (h1 pins s σ H _ _ _ I r h) fun _ s1 ⟨σ1, H1, I1, q1⟩ => ?_)
    exact h2 pins s1 σ1 H1 _ _ Q I1 rr q1
def gTup (K : PySem.W.Frag) (n : Nat) (t : TGs) : TG := fun v σ H Q => ∃ a xs, v = .ref a ∧ SqT K H a xs ∧ xs.length = n ∧ t xs σ H Q
theorem pg_tup {es : List Expr} {k : Nat} {t : TGs} {n : Nat} (hc : X.calm = true) (h : PGs X es t)
    (hn : (assignEach es X.env).length = n := by rfl) (hst : (assignEach es X.env).findIdx? (·.1) = none := by rfl) : PG X (.Tuple es k pos) (gTup X.K n t) := by
  intro pins s σ H v u Q I r hw
  obtain ⟨a, xs, e1, hq, hl, hw⟩ := hw
  subst e1
  cases r
  obtain ⟨its, rv, ht, hz⟩ := I.tuple hq
  refine assign_Tuple_tuple (I.ok.hd hc) ht (by simp [hn, ← hl, rv.length]) hst fun h' hx => ?_
  have I1 : Inv X pins σ H { s with heap := h' } := I.kept (t' := s.toks) fun b o e => hx b o (Nat.ne_of_lt (Heap.lt_size e)) e
  exact h pins _ σ H xs _ Q I1 (by simpa using rv) hw
def gSub (to ti : TE) (t : TSet) : TG := fun v σ H Q => to σ H fun o H1 => ti σ H1 fun i H2 => t o i v H2 fun H3 => Q σ H3
theorem pg_sub {o i : Expr} {to ti : TE} {t : TSet} (ho : PE X o to) (hi : PE X i ti) (hs : PSet X t)
    (ha : ∀ v, assign (.Subscript o i pos) X.env v = (do
      let ov ← holding [v] (eval o X.env)
      let iv ← holding [v, ov] (eval i X.env)
      standAt pos
      holding [v, ov, iv] (setItem ov iv v)
      release [v, ov, iv] []) := by intro _; rfl) : PG X (.Subscript o i pos) (gSub to ti t) := by
  intro pins s σ H v u Q I r h
  rw [ha]
  refine wpAny_bind (wpAny_holding (thn (ho pins s σ H _ I h) fun ov s1 ⟨x, H1, I1, r1, q1⟩ => ?_))
  refine wpAny_bind (wpAny_holding (thn (hi pins s1 σ H1 _ I1 q1) fun iv s2 ⟨y, H2, I2, r2, q2⟩ => ?_))
  refine wpAny_bind (wpAny_standAt (wpAny_bind (wpAny_holding (thn (hs pins s2 σ H2 x y v ov iv u _ I2 r1 r2 r q2) fun _ s3 ⟨H3, I3, q3⟩ => ?_))))
  exact wpAny_release ⟨σ, H3, I3, q3⟩
def tAsg (te : TE) (g : TG) : TS := fun D σ H => te σ H fun x H1 => g x σ H1 D.nx
theorem ps_asg {tg e : Expr} {te : TE} {g : TG} (he : PE X e te) (hg : PG X tg g) (hs : swapsWithSole [tg] e pos.line X.env = pure false := by rfl) (hw : swappedStores [tg] e X.env = pure none := by rfl)
    (h1 : (assignEach [tg] X.env).map (·.2) = [assign tg X.env] := by rfl) : PS X (.Assign [tg] e pos) (tAsg te g) := by
  intro pins s σ H D I h
  refine wpAny_Assign_stores (thn (he pins s σ H _ I h) fun v s1 ⟨x, H1, I1, r1, q1⟩ => ?_) hs hw
  rw [h1]
  exact thn (hg pins s1 σ H1 x v _ I1 r1 q1) fun _ s2 q => q
theorem ps_set {i : Nat} {x : Str} {e : Expr} {te : TE} {pos' : Pos} (hN : X.N.Nodup) (hi : X.N[i]? = some x) (hx : Loc X.env.scope x) (he : PE X e te) (hs : swapsWith e (some (.Name x pos')) pos.line X.env = pure false := by rfl) (hf : X.fn x = true ∨ X.env.scope.names.lookup x = some .local := by first | exact .inl rfl | exact .inr rfl | assumption) :
    PS X (.Assign [.Name x pos'] e pos) (tAsg te (gName i)) := by
  intro pins s σ H D I h
  refine wpAny_Assign_Name (thn (he pins s σ H _ I h) fun v s1 ⟨y, H1, I1, r1, q1⟩ => ?_) hs
  exact store_ok I1 hN hi hx r1 (fun s2 I2 => ⟨_, H1, I2, q1⟩) hf
def tPar (i j : Nat) (ta : TA) : TS := fun D σ H => ta σ H fun vs H1 => ∃ v w, vs = [v, w] ∧ D.nx ((σ.set i (some v)).set j (some w)) H1
theorem ps_par {i j : Nat} {x y : Str} {a b : Expr} {ta : TA} {px py pt : Pos} {kt k2 pt2} (hc : X.calm = true) (hN : X.N.Nodup) (hi : X.N[i]? = some x) (hj : X.N[j]? = some y) (hij : i ≠ j)
    (hx : X.env.scope.names.lookup x = some .local) (hy : X.env.scope.names.lookup y = some .local) (ha : PA X [a, b] ta)
    (hw : swappedStores [.Tuple [.Name x px, .Name y py] kt pt] (.Tuple [a, b] k2 pt2) X.env = pure (some [x, y]))
    (hs : swapsWithSole [.Tuple [.Name x px, .Name y py] kt pt] (.Tuple [a, b] k2 pt2) pos.line X.env = pure false := by rfl) :
    PS X (.Assign [.Tuple [.Name x px, .Name y py] kt pt] (.Tuple [a, b] k2 pt2) pos) (tPar i j ta) := by
  intro pins s σ H D I h
  rw [exec_Assign_arm]
  refine wpAny_bind (wpAny_standAt ?_)
  rw [hs]
  refine wpAny_bind (wpAny_pure ?_)
  rw [if_neg (by decide)]
  refine wpAny_bind (Tuple_ (thn (ha _ pins s σ H _ I h) fun us s1 ⟨vs, H1, I1, r1, q1⟩ => ?_))
  obtain ⟨v, w, e1, q1⟩ := q1
  subst e1
  obtain ⟨u1, u2, rfl, rv, rw'⟩ : ∃ u1 u2, us = [u1, u2] ∧ RelV v u1 ∧ RelV w u2 := by
    cases r1 with
    | cons p q =>
      cases q with
      | cons p' q' =>
        cases q'
        exact ⟨_, _, rfl, p, p'⟩
  refine wpAny_newObj_type ?_ (by show 2 ≤ sizeLine; decide)
  have I2 : Inv X pins σ H1 { s1 with heap := s1.heap.push { cls := .type "tuple", data := .seq [u1, u2].toArray } } := I1.kept (t' := s1.toks) fun b o e => Heap.get?_push_of_some _ e
  rw [hw]
  refine wpAny_bind (wpAny_pure ?_)
  show wpAny (model X.prog X.w) X.A (do rule "assign.swapped-stores"; let items ← unpackItems (.ref s1.heap.objs.size) 2 none; assignInOrder [fun v => bindName X.env y v, fun v => bindName X.env x v] items.reverse; pure Flow.next) _ _ _
  refine wpAny_bind (wpAny_rule (wpAny_bind (unpackItems_tuple (items := #[u1, u2]) (I.ok.hd hc) (IsTup.new s1.heap _) fun h' hx' => ?_)))
  have I3 := I2.kept (h' := h') (t' := s1.toks) fun b o e => hx' b o (Nat.ne_of_lt (Heap.lt_size e)) e
  show wpAny _ _ (assignInOrder [fun v => bindName X.env y v, fun v => bindName X.env x v] [u2, u1] >>= fun _ => pure Flow.next) _ _ _
  refine wpAny_bind (assignInOrder_cons (wpAny_bindName (store_ok I3 hN hj (.inl hy) rw' (fun s2 I4 => ?_) (.inr hy))))
  refine assignInOrder_cons (wpAny_bindName (store_ok I4 hN hi (.inl hx) rv (fun s3 I5 => assignInOrder_nil (wpAny_pure ?_)) (.inr hx)))
  rw [List.set_comm _ _ (Ne.symm hij)] at I5
  exact ⟨_, H1, I5, q1⟩
end
section
variable {X : Cx} {pos : Pos}
def tWhile (c : TT) (tb : TS) : TS := fun D σ H => ∃ W : Nat → St → Hp → Prop, (∃ m, W m σ H) ∧ ∀ m σ H, W m σ H →
  c σ H fun b H1 => if b = true then ∃ N : St → Hp → Prop, (∀ σ' H', N σ' H' → ∃ m', m' < m ∧ W m' σ' H') ∧ tb { D with nx := N, ct := N, bk := D.nx } σ H1 else D.nx σ H1
theorem ps_while {c : Expr} {body : List Stmt} {tc : TT} {tb : TS} (hp : PassesOwn (model X.prog X.w) X.A X.env X.xe) (hc : PT X c tc) (hb : PSs X body tb) : PS X (.While c body [] pos) (tWhile tc tb) := by
  intro pins s σ H D I h
  obtain ⟨W, ⟨m0, w0⟩, turn⟩ := h
  refine wpAny_While (codeAny_whileLoop (fun n s' => ∃ σ' H', Inv X pins σ' H' s' ∧ W n σ' H') ?_ m0 ⟨σ, H, I, w0⟩)
  rintro n s1 ⟨σ1, H1, I1, w1⟩
  refine wpAny_passesOwn hp (thn (hc pins s1 σ1 H1 _ I1 (turn n σ1 H1 w1)) fun b s2 ⟨H2, I2, q2⟩ => ?_)
  cases b with
  | true =>
    obtain ⟨N, hN, q2⟩ := q2
    rw [if_pos rfl]
    refine wpAny_passesOwn hp (thn (hb pins s2 σ1 H2 _ I2 q2) fun f s3 q3 => ?_)
    cases f with
    | next =>
      obtain ⟨σ3, H3, I3, n3⟩ := q3
      obtain ⟨m', hm, w3⟩ := hN σ3 H3 n3
      exact ⟨m', hm, σ3, H3, I3, w3⟩
    | cont =>
      obtain ⟨σ3, H3, I3, n3⟩ := q3
      obtain ⟨m', hm, w3⟩ := hN σ3 H3 n3
      exact ⟨m', hm, σ3, H3, I3, w3⟩
    | brk => exact q3
    | ret v => exact q3
  | false =>
    rw [if_neg Bool.false_ne_true]
    exact wpAny_execs_nil ⟨σ1, H2, I2, q2⟩
end
structure It where
  go : Nat → Hp → Prop
  yld : Nat → Hp → V → Hp → Prop
  stop : Nat → Hp → Prop
def FpOk (X : Cx) (pins : List (Addr × Obj)) (H : Hp) (b : Addr) : Prop :=
  H b = none ∧ b ≠ X.env.locals ∧ b ∉ X.fs ∧ (b ∈ X.ex ∨ X.s₀.heap.objs.size ≤ b) ∧ (∀ x c, X.env.cells.lookup x = some c → c ≠ b) ∧ ∀ p ∈ X.pn ++ pins, p.1 ≠ b
theorem Inv.fpOk {X : Cx} {pins : List (Addr × Obj)} {σ : St} {H H' : Hp} {s : Shared} {b : Addr} (I : Inv X pins σ H s) (hb : s.heap.objs.size ≤ b) (hn : H' b = none) : FpOk X pins H' b := by
  refine ⟨hn, Nat.ne_of_gt (Nat.lt_of_lt_of_le I.lt hb), I.nofs hb, .inr (Nat.le_trans I.sz hb), fun x c e z => ?_, fun p hp z => ?_⟩
  · obtain ⟨v, q⟩ := I.cell x c e
    exact absurd (Nat.lt_of_lt_of_le q.lt (by rw [z]; exact hb)) (Nat.lt_irrefl _)
  · exact absurd (Nat.lt_of_lt_of_le (Heap.lt_size (I.pin p hp).1) (by rw [z]; exact hb)) (Nat.lt_irrefl _)
structure Turn (P : Program) (w : World) (K : PySem.W.Frag) (tg : Expr) (J : It) (fp : List Addr) (it : Addr) (tn : Nat → Heap → Prop) : Prop where
  mem : it ∈ fp
  obj : ∀ i h, tn i h → ∀ b ∈ fp, ∃ o, h.get? b = some o ∧ ∀ v, o.data ≠ .cell v
  keep : ∀ i h h', tn i h → (∀ b ∈ fp, ∀ o, h.get? b = some o → h'.get? b = some o) → tn i h'
  item : ∀ (X : Cx), X.prog = P → X.w = w → X.K = K → X.calm = true → ∀ (i : Nat) (pins : List (Addr × Obj)) (s : Shared) (σ : St) (H : Hp) (E : Value → Shared → Prop), Inv X pins σ H s → (∀ b ∈ fp, FpOk X pins H b) → tn i s.heap → J.go i H →
    wpAny (model P w) X.A (pyNext (.ref it)) (fun r s1 => ∃ u, r = some u ∧
      wpAny (model P w) X.A (letOwnedTupleGo tg (.ref it) u) (fun _ s2 => ∃ x H', Inv X pins σ H' s2 ∧ RelV x u ∧ J.yld i H x H' ∧ tn (i + 1) s2.heap ∧ ∀ b ∈ fp, H' b = none) E s1) E s
  done : ∀ (X : Cx), X.prog = P → X.w = w → X.K = K → X.calm = true → ∀ (i : Nat) (pins : List (Addr × Obj)) (s : Shared) (σ : St) (H : Hp) (E : Value → Shared → Prop), Inv X pins σ H s → (∀ b ∈ fp, FpOk X pins H b) → tn i s.heap → J.stop i H →
    wpAny (model P w) X.A (pyNext (.ref it)) (fun r s1 => r = none ∧ Inv X pins σ H s1) E s
  self : ∀ (A : Around) (i : Nat) (s : Shared) (Q : Value → Shared → Prop) (E : Value → Shared → Prop), tn i s.heap → Q (.ref it) s → wpAny (model P w) A (pyIter (.ref it)) Q E s
abbrev TI := St → Hp → (It → Hp → Prop) → Prop
def PIE (X : Cx) (pins : List (Addr × Obj)) (σ : St) (tg : Expr) (R : It → Hp → Prop) (itv : Value) (s2 : Shared) : Prop :=
  ∃ (it : Addr) (fp : List Addr) (tn : Nat → Heap → Prop) (J : It) (H' : Hp), itv = .ref it ∧ Inv X pins σ H' s2 ∧ Turn X.prog X.w X.K tg J fp it tn ∧ tn 0 s2.heap ∧ (∀ b ∈ fp, FpOk X pins H' b) ∧ R J H'
def PI (X : Cx) (tg iter : Expr) (wi : TI) : Prop :=
  ∀ (pins : List (Addr × Obj)) (s : Shared) (σ : St) (H : Hp) (R : It → Hp → Prop), Inv X pins σ H s → wi σ H R →
    wpAny (model X.prog X.w) X.A (eval iter X.env) (fun v s1 => wpAny (model X.prog X.w) X.A (pyIter v) (PIE X pins σ tg R) X.xe s1) X.xe s
theorem go_of {M : Model} {A : Around} {E : Value → Shared → Prop} {s : Shared} {tg : Expr} {it : Addr} {u : Value} {o : Obj} {n : String} {vs : Array Value} {Q : Unit → Shared → Prop} (ho : s.heap.get? it = some o) (hc : o.cls = .type n) (hd : o.data = .fields vs)
    (hn : ["enumerate", "zip", "dict_itemiterator", "dict_reverseitemiterator", "odict_iterator", "itertools.zip_longest", "itertools.pairwise"].contains n = false) (hQ : Q () s) : wpAny M A (letOwnedTupleGo tg (.ref it) u) Q E s := by
  unfold letOwnedTupleGo
  cases tg <;> first
    | exact wpAny_pure hQ
    | (cases u <;> first
        | exact wpAny_pure hQ
        | (refine wpAny_bind (wpAny_load ho ?_)
           rw [hc, hd]
           show wpAny M A (if (["enumerate", "zip", "dict_itemiterator", "dict_reverseitemiterator", "odict_iterator", "itertools.zip_longest", "itertools.pairwise"].contains n && vs[0]? == some (rawInt _)) = true then _ else _) Q E s
           rw [if_neg (by intro h; rw [hn, Bool.false_and] at h; cases h)]
           exact wpAny_pure hQ))
def Itl (K : PySem.W.Frag) (a : Addr) : It :=
  ⟨fun i H => ∃ xs x, SqL K H a xs ∧ xs[i]? = some x, fun i H x H' => H' = H ∧ ∀ xs, SqL K H a xs → xs[i]? = some x, fun i H => ∃ xs, SqL K H a xs ∧ xs.length ≤ i⟩
def Itt (K : PySem.W.Frag) (a : Addr) : It :=
  ⟨fun i H => ∃ xs x, SqT K H a xs ∧ xs[i]? = some x, fun i H x H' => H' = H ∧ ∀ xs, SqT K H a xs → xs[i]? = some x, fun i H => ∃ xs, SqT K H a xs ∧ xs.length ≤ i⟩
def Itr (lo : Int) (n : Nat) : It := ⟨fun i _ => i < n, fun i H x H' => H' = H ∧ x = .int (lo + i), fun i _ => n ≤ i⟩
theorem turn_list {P : Program} {w : World} {K : PySem.W.Frag} {tg : Expr} (a it : Addr) : Turn P w K tg (Itl K a) [it] it (fun i h => h.IsListIter it a i) where
  mem := by simp
  obj := fun i h st b hb => by
    have e : b = it := by simpa using hb
    subst e
    obtain ⟨o, e, c, d⟩ := st
    exact ⟨o, e, fun v z => by rw [d] at z; cases z⟩
  keep := fun i h h' st k => st.at fun o e => k it (by simp) o e
  item := by
    intro X hP hw hK hc i pins s σ H E I hf st hg
    subst hP hw hK
    obtain ⟨xs, x, hq, hx⟩ := hg
    obtain ⟨its, rv, p, hz⟩ := I.list hq
    obtain ⟨u, hu, ru⟩ := rv.get hx
    obtain ⟨f0, f1, f2, f3, f4, f5⟩ := hf it (by simp)
    refine wpAny_pyNext_list_item st p.isList (x := u) (by simpa using hu) fun h' st' sb => ?_
    have I1 : Inv X pins σ H { s with heap := h' } := I.turned (t' := s.toks) (fun b o hb e => (sb.2 b hb).trans e) f0 f1 f3 f4 f5
    obtain ⟨o, e, c, d⟩ := id st'
    exact ⟨u, rfl, go_of (s := { s with heap := h' }) e c d (by decide) ⟨x, H, I1, ru, ⟨rfl, fun ys hy => by rw [I.list_inj hy hq]; exact hx⟩, st', fun b hb => (hf b hb).1⟩⟩
  done := by
    intro X hP hw hK hc i pins s σ H E I hf st hg
    subst hP hw hK
    obtain ⟨xs, hq, hx⟩ := hg
    obtain ⟨its, rv, p, hz⟩ := I.list hq
    obtain ⟨f0, f1, f2, f3, f4, f5⟩ := hf it (by simp)
    have hl := rv.length
    exact wpAny_pyNext_list_end (I.ok.hd hc) st p.isList (by simp; omega) fun h' eb => ⟨rfl, I.turned (t' := s.toks) (fun b o hb e => eb b o hb e) f0 f1 f3 f4 f5⟩
  self := fun _ _ _ _ _ st h => wpAny_pyIter_listiter st h
theorem turn_tuple {P : Program} {w : World} {K : PySem.W.Frag} {tg : Expr} (a it : Addr) : Turn P w K tg (Itt K a) [it] it (fun i h => h.IsTupleIter it a i) where
  mem := by simp
  obj := fun i h st b hb => by
    have e : b = it := by simpa using hb
    subst e
    obtain ⟨o, e, c, d⟩ := st
    exact ⟨o, e, fun v z => by rw [d] at z; cases z⟩
  keep := fun i h h' st k => st.at fun o e => k it (by simp) o e
  item := by
    intro X hP hw hK hc i pins s σ H E I hf st hg
    subst hP hw hK
    obtain ⟨xs, x, hq, hx⟩ := hg
    obtain ⟨its, rv, p, hz⟩ := I.tuple hq
    obtain ⟨u, hu, ru⟩ := rv.get hx
    obtain ⟨f0, f1, f2, f3, f4, f5⟩ := hf it (by simp)
    refine wpAny_pyNext_tuple_item st (show s.heap.IsTuple a its.toArray from p) (x := u) (by simpa using hu) fun h' st' sb => ?_
    have I1 : Inv X pins σ H { s with heap := h' } := I.turned (t' := s.toks) (fun b o hb e => (sb.2 b hb).trans e) f0 f1 f3 f4 f5
    obtain ⟨o, e, c, d⟩ := id st'
    exact ⟨u, rfl, go_of (s := { s with heap := h' }) e c d (by decide) ⟨x, H, I1, ru, ⟨rfl, fun ys hy => by rw [I.tuple_inj hy hq]; exact hx⟩, st', fun b hb => (hf b hb).1⟩⟩
  done := by
    intro X hP hw hK hc i pins s σ H E I hf st hg
    subst hP hw hK
    obtain ⟨xs, hq, hx⟩ := hg
    obtain ⟨its, rv, p, hz⟩ := I.tuple hq
    obtain ⟨f0, f1, f2, f3, f4, f5⟩ := hf it (by simp)
    have hl := rv.length
    exact wpAny_pyNext_tuple_end (I.ok.hd hc) st (show s.heap.IsTuple a its.toArray from p) (by simp; omega) fun h' eb => ⟨rfl, I.turned (t' := s.toks) (fun b o hb e => eb b o hb e) f0 f1 f3 f4 f5⟩
  self := fun _ _ _ _ _ st h => wpAny_pyIter_tupleiter st h
theorem turn_range {P : Program} {w : World} {K : PySem.W.Frag} {tg : Expr} (it : Addr) (lo : Int) (n : Nat) : Turn P w K tg (Itr lo n) [it] it (fun i h => IsRangeIter h it (lo + (i : Nat) * 1) ((n : Int) - (i : Nat)) 1) where
  mem := by simp
  obj := fun i h st b hb => by
    have e : b = it := by simpa using hb
    subst e
    exact ⟨_, st, fun v z => by
      have z' : Data.fields _ = Data.cell v := z
      cases z'⟩
  keep := fun i h h' st k => k it (by simp) _ st
  item := by
    intro X hP hw hK hc i pins s σ H E I hf st hg
    subst hP hw hK
    obtain ⟨f0, f1, f2, f3, f4, f5⟩ := hf it (by simp)
    have W := Walks.range (prog := X.prog) (w := X.w) (I.ok.hd hc) it lo 1 n
    refine W.item i s _ _ hg st fun v h' tk hv st' kk => ?_
    obtain ⟨t, rfl⟩ := hv
    have I1 : Inv X pins σ H { s with heap := h', toks := tk } := I.turned (fun b o hb e => kk b o (by simpa using hb) e) f0 f1 f3 f4 f5
    refine ⟨_, rfl, go_of (s := { s with heap := h', toks := tk }) (n := "range_iterator") st' rfl rfl (by decide) ⟨.int (lo + i), H, I1, ⟨t, ?_⟩, ⟨rfl, rfl⟩, st', fun b hb => (hf b hb).1⟩⟩
    rw [Int.mul_one]
  done := by
    intro X hP hw hK hc i pins s σ H E I hf st hg
    subst hP hw hK
    obtain ⟨f0, f1, f2, f3, f4, f5⟩ := hf it (by simp)
    exact wpAny_pyNext_range_end (I.ok.hd hc) st (by have : n ≤ i := hg; omega) fun h' eb => ⟨rfl, I.turned (t' := s.toks) (fun b o hb e => eb b o hb e) f0 f1 f3 f4 f5⟩
  self := fun _ _ _ _ _ st h => wpAny_pyIter_rangeiter st h
end L2
namespace L2
open PySem PySem.Spec PyProof.Rows
section
variable {X : Cx} {tg : Expr}
def iList (K : PySem.W.Frag) (tl : TE) : TI := fun σ H R => tl σ H fun x H1 => ∃ a, x = .ref a ∧ (∃ xs, SqL K H1 a xs) ∧ R (Itl K a) H1
def iTup (K : PySem.W.Frag) (tl : TE) : TI := fun σ H R => tl σ H fun x H1 => ∃ a, x = .ref a ∧ (∃ xs, SqT K H1 a xs) ∧ R (Itt K a) H1
theorem range_it {pins : List (Addr × Obj)} {σ : St} {H : Hp} {s : Shared} {R : It → Hp → Prop} {E : Value → Shared → Prop} {lo hi : Int} {t u v : Tok} {tk : Nat} (I : Inv X pins σ H s) (h1 : -(2 ^ 62) ≤ lo) (h2 : lo < 2 ^ 62) (h3 : -(2 ^ 62) ≤ hi) (h4 : hi < 2 ^ 62)
    (q : R (Itr lo (hi - lo).toNat) H) : wpAny (model X.prog X.w) X.A (pyIter (.ref s.heap.objs.size)) (PIE X pins σ tg R) E { s with heap := s.heap.push { cls := .type "range", data := .fields #[.int lo t, .int hi u, .int 1 v] }, toks := tk } := by
  refine wpAny_pyIter_range (IsRange.new ..) (small_one h1 h2 h3 h4) ?_
  have I1 : Inv X pins σ H { s with heap := s.heap.push { cls := .type "range", data := .fields #[.int lo t, .int hi u, .int 1 v] }, toks := tk } := I.kept fun b o e => Heap.get?_push_of_some _ e
  refine ⟨(s.heap.push { cls := .type "range", data := .fields #[.int lo t, .int hi u, .int 1 v] }).objs.size, [(s.heap.push { cls := .type "range", data := .fields #[.int lo t, .int hi u, .int 1 v] }).objs.size], _, _, H, rfl,
    I1.kept (t' := tk) fun b o e => Heap.get?_push_of_some _ e, turn_range _ lo (hi - lo).toNat, ?_, fun b hb => ?_, q⟩
  · have e1 : lo + ((0 : Nat) : Int) * 1 = lo := by simp
    have e2 : (((hi - lo).toNat : Nat) : Int) - ((0 : Nat) : Int) = Builtin.Range.rangeSize lo hi 1 := by rw [rangeSize_one]; split <;> omega
    show IsRangeIter _ _ (lo + ((0 : Nat) : Int) * 1) ((((hi - lo).toNat : Nat) : Int) - ((0 : Nat) : Int)) 1
    rw [e1, e2]
    exact Heap.get?_push_size _ rfl
  · have e : b = (s.heap.push { cls := .type "range", data := .fields #[.int lo t, .int hi u, .int 1 v] }).objs.size := by simpa using hb
    subst e
    exact I1.fpOk (Nat.le_refl _) (I1.hok.fresh (Nat.le_refl _))
def iRng1 (ta : TA) : TI := fun σ H R => ta σ H fun vs H1 => ∃ j : Int, vs = [.int j] ∧ -(2 ^ 62) ≤ j ∧ j < 2 ^ 62 ∧ R (Itr 0 j.toNat) H1
theorem pi_range1 {a : Expr} {ta : TA} {p pos : Pos} (hg : Gl X "range") (hm : X.mg "range" = none) (ha : PA X [a] ta) (hs : starEach [a] X.env = [(false, eval a X.env)] := by rfl) : PI X tg (.Call (.Name "range" p) [a] [] pos) (iRng1 ta) := by
  intro pins s σ H R I h
  refine Call_ (ld_blt I hg hm boot_range (PyProof.Rows.callWith_type1 (thn (ha pos pins s σ H _ I h) fun us s1 ⟨vs, H1, I1, r1, q1⟩ => ?_) hs rfl))
  obtain ⟨j, e, q1, q2, q⟩ := q1
  subst e
  cases r1 with
  | cons r rr =>
    cases rr
    obtain ⟨t, rfl⟩ := r
    exact call_range_1 (range_it I1 (by omega) (by omega) q1 q2 (by simpa using q))
def tFor (wi : TI) (g : TG) (tb : TS) : TS := fun D σ H => wi σ H fun J H1 => ∃ W : Nat → Nat → St → Hp → Prop, (∃ m, W 0 m σ H1) ∧ ∀ i m σ H, W i m σ H →
  (J.stop i H ∧ D.nx σ H) ∨ (J.go i H ∧ ∃ N : St → Hp → Prop, (∀ σ' H', N σ' H' → ∃ m', m' < m ∧ W (i + 1) m' σ' H') ∧ ∀ x H', J.yld i H x H' → g x σ H' fun σ2 H2 => tb { D with nx := N, ct := N, bk := D.nx } σ2 H2)
def pinsAt (fp : List Addr) (h : Heap) : List (Addr × Obj) := fp.filterMap fun b => (h.get? b).map fun o => (b, o)
theorem mem_pinsAt {fp : List Addr} {h : Heap} {b : Addr} {o : Obj} (hb : b ∈ fp) (e : h.get? b = some o) : (b, o) ∈ pinsAt fp h := List.mem_filterMap.mpr ⟨b, hb, by rw [e]; rfl⟩
theorem of_pinsAt {fp : List Addr} {h : Heap} {p : Addr × Obj} (hp : p ∈ pinsAt fp h) : p.1 ∈ fp ∧ h.get? p.1 = some p.2 := by
  obtain ⟨b, hb, e⟩ := List.mem_filterMap.mp hp
  cases q : h.get? b with
  | none => rw [q] at e; cases e
  | some o =>
    rw [q] at e
    have e' : (b, o) = p := Option.some.inj e
    subst e'
    exact ⟨hb, q⟩
theorem Inv.pinned {pins : List (Addr × Obj)} {σ : St} {H : Hp} {s : Shared} {fp : List Addr} (I : Inv X pins σ H s) (hf : ∀ b ∈ fp, FpOk X pins H b) (ho : ∀ b ∈ fp, ∃ o, s.heap.get? b = some o ∧ ∀ v, o.data ≠ .cell v) : Inv X (pins ++ pinsAt fp s.heap) σ H s :=
  I.pins_of fun p hp => (List.mem_append.mp hp).elim (fun z => I.pin p (List.mem_append_right _ z)) fun z => by
    obtain ⟨hb, e⟩ := of_pinsAt z
    obtain ⟨f0, f1, f2, _⟩ := hf p.1 hb
    obtain ⟨o, e', d⟩ := ho p.1 hb
    rw [e] at e'; cases e'
    exact ⟨e, f0, f1, f2, d⟩
theorem Inv.unpinned {pins pl : List (Addr × Obj)} {σ : St} {H : Hp} {s : Shared} (I : Inv X (pins ++ pl) σ H s) : Inv X pins σ H s := I.pins_of fun p hp => I.pin p (List.mem_append_right _ (List.mem_append_left _ hp))
theorem ps_for {iter : Expr} {body : List Stmt} {wi : TI} {g : TG} {tb : TS} {pos : Pos} (hp : PassesOwn (model X.prog X.w) X.A X.env X.xe) (hc : X.calm = true) (hi : PI X tg iter wi) (hg : PG X tg g) (hb : PSs X body tb)
    (hs : ∀ x, foldedSetIterable iter X.env x = pure x := by intro _; rfl) : PS X (.For tg iter body [] pos) (tFor wi g tb) := by
  intro pins s σ H D I h
  refine wpAny_For (thn (hi pins s σ H _ I h) fun v s1 h1 => thn h1 fun itv s2 h2 => ?_) hs
  obtain ⟨it, fp, tn, J, H2, e, I2, T, st2, f2, W, ⟨m0, w0⟩, turn⟩ := h2
  subst e
  have stat : ∀ {H' : Hp}, (∀ b ∈ fp, H' b = none) → ∀ b ∈ fp, FpOk X pins H' b := fun hn b hb => ⟨hn b hb, (f2 b hb).2⟩
  refine codeAny_forLoop_any (fun n s' => ∃ i σ' H', Inv X pins σ' H' s' ∧ tn i s'.heap ∧ (∀ b ∈ fp, H' b = none) ∧ W i n σ' H') ?_ m0 ⟨0, σ, H2, I2, st2, fun b hb => (f2 b hb).1, w0⟩
  rintro n s3 ⟨i, σ3, H3, I3, st3, fr3, w3⟩
  rcases turn i n σ3 H3 w3 with ⟨stop, qn⟩ | ⟨go, N, hN, step⟩
  · refine wpAny_passesOwn hp (thn (T.done X rfl rfl rfl hc i pins s3 σ3 H3 X.xe I3 (stat fr3) st3 stop) fun r s4 ⟨hr, I4⟩ => ?_)
    subst hr
    exact wpAny_execs_nil ⟨σ3, H3, I4, qn⟩
  · refine wpAny_passesOwn hp (thn (T.item X rfl rfl rfl hc i pins s3 σ3 H3 X.xe I3 (stat fr3) st3 go) fun r s4 ⟨u, hr, h4⟩ => ?_)
    subst hr
    refine wpAny_passesOwn hp (thn h4 fun _ s5 ⟨x, H5, I5, r5, y5, st5, fr5⟩ => ?_)
    have I5' := I5.pinned (stat fr5) (T.obj _ _ st5)
    refine wpAny_passesOwn hp (thn (hg _ s5 σ3 H5 x u _ I5' r5 (step x H5 y5)) fun _ s6 ⟨σ6, H6, I6, q6⟩ => ?_)
    refine wpAny_passesOwn hp (thn (hb _ s6 σ6 H6 _ I6 q6) fun f s7 q7 => ?_)
    have again : ∀ {σ7 : St} {H7 : Hp}, Inv X (pins ++ pinsAt fp s5.heap) σ7 H7 s7 → N σ7 H7 → ∃ m, m < n ∧ ∃ i σ' H', Inv X pins σ' H' s7 ∧ tn i s7.heap ∧ (∀ b ∈ fp, H' b = none) ∧ W i m σ' H' := fun {σ7 H7} I7 n7 => by
      obtain ⟨m', hm, w7⟩ := hN σ7 H7 n7
      refine ⟨m', hm, i + 1, σ7, H7, I7.unpinned, T.keep _ _ _ st5 fun b hb o e => (I7.pin (b, o) (List.mem_append_right _ (List.mem_append_right _ (mem_pinsAt hb e)))).1, fun b hb => ?_, w7⟩
      obtain ⟨o, e, d⟩ := T.obj _ _ st5 b hb
      exact (I7.pin (b, o) (List.mem_append_right _ (List.mem_append_right _ (mem_pinsAt hb e)))).2.1
    cases f with
    | next => obtain ⟨σ7, H7, I7, n7⟩ := q7; exact again I7 n7
    | cont => obtain ⟨σ7, H7, I7, n7⟩ := q7; exact again I7 n7
    | brk => obtain ⟨σ7, H7, I7, q7⟩ := q7; exact ⟨σ7, H7, I7.unpinned, q7⟩
    | ret v => obtain ⟨x7, σ7, H7, I7, r7, q7⟩ := q7; exact ⟨x7, σ7, H7, I7.unpinned, r7, q7⟩
end
theorem for_list {K : PySem.W.Frag} {a : Addr} {xs : List V} {g : TG} {tb : TS} {D : Ends} {σ : St} {H : Hp} (Pv : Nat → St → Hp → Prop) (h0 : Pv 0 σ H) (hl : ∀ i σ H, i ≤ xs.length → Pv i σ H → SqL K H a xs)
    (hs : ∀ i x σ H, xs[i]? = some x → Pv i σ H → g x σ H fun σ2 H2 => tb { D with nx := Pv (i + 1), ct := Pv (i + 1), bk := D.nx } σ2 H2) (hd : ∀ σ H, Pv xs.length σ H → D.nx σ H) :
    ∃ W : Nat → Nat → St → Hp → Prop, (∃ m, W 0 m σ H) ∧ ∀ i m σ H, W i m σ H →
      ((Itl K a).stop i H ∧ D.nx σ H) ∨ ((Itl K a).go i H ∧ ∃ N : St → Hp → Prop, (∀ σ' H', N σ' H' → ∃ m', m' < m ∧ W (i + 1) m' σ' H') ∧ ∀ x H', (Itl K a).yld i H x H' → g x σ H' fun σ2 H2 => tb { D with nx := N, ct := N, bk := D.nx } σ2 H2) := by
  refine ⟨fun i m σ H => m = xs.length - i ∧ i ≤ xs.length ∧ Pv i σ H, ⟨xs.length, by simp, Nat.zero_le _, h0⟩, ?_⟩
  rintro i m σ H ⟨rfl, hi, p⟩
  have q := hl i σ H hi p
  by_cases hlt : i < xs.length
  · refine .inr ⟨⟨xs, xs[i], q, by simp [hlt]⟩, Pv (i + 1), fun σ' H' p' => ⟨xs.length - (i + 1), by omega, rfl, hlt, p'⟩, fun x H' y => ?_⟩
    obtain ⟨e, y⟩ := y
    subst e
    exact hs i x σ _ (y xs q) p
  · have e : i = xs.length := by omega
    subst e
    exact .inl ⟨⟨xs, q, Nat.le_refl _⟩, hd σ H p⟩
theorem for_tup {K : PySem.W.Frag} {a : Addr} {xs : List V} {g : TG} {tb : TS} {D : Ends} {σ : St} {H : Hp} (Pv : Nat → St → Hp → Prop) (h0 : Pv 0 σ H) (hl : ∀ i σ H, i ≤ xs.length → Pv i σ H → SqT K H a xs)
    (hs : ∀ i x σ H, xs[i]? = some x → Pv i σ H → g x σ H fun σ2 H2 => tb { D with nx := Pv (i + 1), ct := Pv (i + 1), bk := D.nx } σ2 H2) (hd : ∀ σ H, Pv xs.length σ H → D.nx σ H) :
    ∃ W : Nat → Nat → St → Hp → Prop, (∃ m, W 0 m σ H) ∧ ∀ i m σ H, W i m σ H →
      ((Itt K a).stop i H ∧ D.nx σ H) ∨ ((Itt K a).go i H ∧ ∃ N : St → Hp → Prop, (∀ σ' H', N σ' H' → ∃ m', m' < m ∧ W (i + 1) m' σ' H') ∧ ∀ x H', (Itt K a).yld i H x H' → g x σ H' fun σ2 H2 => tb { D with nx := N, ct := N, bk := D.nx } σ2 H2) := by
  refine ⟨fun i m σ H => m = xs.length - i ∧ i ≤ xs.length ∧ Pv i σ H, ⟨xs.length, by simp, Nat.zero_le _, h0⟩, ?_⟩
  rintro i m σ H ⟨rfl, hi, p⟩
  have q := hl i σ H hi p
  by_cases hlt : i < xs.length
  · refine .inr ⟨⟨xs, xs[i], q, by simp [hlt]⟩, Pv (i + 1), fun σ' H' p' => ⟨xs.length - (i + 1), by omega, rfl, hlt, p'⟩, fun x H' y => ?_⟩
    obtain ⟨e, y⟩ := y
    subst e
    exact hs i x σ _ (y xs q) p
  · have e : i = xs.length := by omega
    subst e
    exact .inl ⟨⟨xs, q, Nat.le_refl _⟩, hd σ H p⟩
theorem for_range {lo : Int} {n : Nat} {g : TG} {tb : TS} {D : Ends} {σ : St} {H : Hp} (Pv : Nat → St → Hp → Prop) (h0 : Pv 0 σ H)
    (hs : ∀ i σ H, i < n → Pv i σ H → g (.int (lo + i)) σ H fun σ2 H2 => tb { D with nx := Pv (i + 1), ct := Pv (i + 1), bk := D.nx } σ2 H2) (hd : ∀ σ H, Pv n σ H → D.nx σ H) :
    ∃ W : Nat → Nat → St → Hp → Prop, (∃ m, W 0 m σ H) ∧ ∀ i m σ H, W i m σ H →
      ((Itr lo n).stop i H ∧ D.nx σ H) ∨ ((Itr lo n).go i H ∧ ∃ N : St → Hp → Prop, (∀ σ' H', N σ' H' → ∃ m', m' < m ∧ W (i + 1) m' σ' H') ∧ ∀ x H', (Itr lo n).yld i H x H' → g x σ H' fun σ2 H2 => tb { D with nx := N, ct := N, bk := D.nx } σ2 H2) := by
  refine ⟨fun i m σ H => m = n - i ∧ i ≤ n ∧ Pv i σ H, ⟨n, by simp, Nat.zero_le _, h0⟩, ?_⟩
  rintro i m σ H ⟨rfl, hi, p⟩
  by_cases hlt : i < n
  · refine .inr ⟨hlt, Pv (i + 1), fun σ' H' p' => ⟨n - (i + 1), by omega, rfl, hlt, p'⟩, fun x H' y => ?_⟩
    obtain ⟨e, y⟩ := y
    subst e y
    exact hs i σ _ hlt p
  · have e : i = n := by omega
    subst e
    exact .inl ⟨Nat.le_refl _, hd σ H p⟩
theorem while_by {c : TT} {tb : TS} {D : Ends} {σ : St} {H : Hp} (Pv : St → Hp → Prop) (μ : St → Hp → Nat) (h0 : Pv σ H)
    (hs : ∀ σ H, Pv σ H → c σ H fun b H1 => if b = true then tb { D with nx := fun σ' H' => Pv σ' H' ∧ μ σ' H' < μ σ H, ct := fun σ' H' => Pv σ' H' ∧ μ σ' H' < μ σ H, bk := D.nx } σ H1 else D.nx σ H1)
    (mono : ∀ σ H Q Q', (∀ b H1, Q b H1 → Q' b H1) → c σ H Q → c σ H Q') : tWhile c tb D σ H := by
  refine ⟨fun m σ H => m = μ σ H ∧ Pv σ H, ⟨_, rfl, h0⟩, ?_⟩
  rintro m σ H ⟨rfl, p⟩
  refine mono σ H _ _ (fun b H1 q => ?_) (hs σ H p)
  cases b with
  | true => exact ⟨_, fun σ' H' ⟨p', l⟩ => ⟨_, l, rfl, p'⟩, q⟩
  | false => exact q
end L2
namespace L2
open PySem PySem.Spec PyProof.Rows
abbrev R2 := V → V → Hp → VK → Prop
def OpR (X : Cx) (f : Value → Value → Sem Value) (r : R2) : Prop :=
  ∀ (pins : List (Addr × Obj)) (s : Shared) (σ : St) (H : Hp) (x y : V) (v u : Value) (Q : VK), Inv X pins σ H s → RelV x v → RelV y u → r x y H Q →
    wpAny (model X.prog X.w) X.A (f v u) (EP X pins σ Q) X.xe s
def UnR (X : Cx) (f : Value → Sem Value) (r : V → Hp → VK → Prop) : Prop :=
  ∀ (pins : List (Addr × Obj)) (s : Shared) (σ : St) (H : Hp) (x : V) (v : Value) (Q : VK), Inv X pins σ H s → RelV x v → r x H Q →
    wpAny (model X.prog X.w) X.A (f v) (EP X pins σ Q) X.xe s
def CallR (X : Cx) (f : Value) (r : List V → Hp → VK → Prop) : Prop :=
  ∀ (pins : List (Addr × Obj)) (s : Shared) (σ : St) (H : Hp) (xs : List V) (us : List Value) (Q : VK), Inv X pins σ H s → Vals xs us → r xs H Q →
    wpAny (model X.prog X.w) X.A (call f us) (EP X pins σ Q) X.xe s
def tOp (r : R2) (ta tb : TE) : TE := fun σ H Q => ta σ H fun x H1 => tb σ H1 fun y H2 => r x y H2 Q
def tUn (r : V → Hp → VK → Prop) (ta : TE) : TE := fun σ H Q => ta σ H fun x H1 => r x H1 Q
def rI (C : Int → Int → Prop) (g : Int → Int → V) : R2 := fun x y H Q => ∃ i j, x = .int i ∧ y = .int j ∧ C i j ∧ Q (g i j) H
def rI0 (g : Int → Int → V) : R2 := fun x y H Q => ∃ i j, x = .int i ∧ y = .int j ∧ Q (g i j) H
def rU (g : Int → V) : V → Hp → VK → Prop := fun x H Q => ∃ i, x = .int i ∧ Q (g i) H
section
variable {X : Cx} {a b c : Expr} {ta tb tc : TE} {pos : Pos}
theorem binT (ha : PE X a ta) (hb : PE X b tb) {pins : List (Addr × Obj)} {s : Shared} {σ : St} {H : Hp} {R : V → V → Hp → Prop} (I : Inv X pins σ H s)
    (h : ta σ H fun x H1 => tb σ H1 fun y H2 => R x y H2) {Q : Value → Shared → Prop} {f : Value → Value → Sem Value}
    (hf : ∀ v u s2 x y H2, Inv X pins σ H2 s2 → RelV x v → RelV y u → R x y H2 → wpAny (model X.prog X.w) X.A (f v u) Q X.xe s2) :
    wpAny (model X.prog X.w) X.A (eval a X.env) (fun v s₁ => wpAny (model X.prog X.w) X.A (eval b X.env) (fun u s₂ => wpAny (model X.prog X.w) X.A (f v u) Q X.xe s₂) X.xe s₁) X.xe s := by
  refine thn (ha pins s σ H _ I h) fun v s1 ⟨x, H1, I1, r1, q1⟩ => ?_
  refine thn (hb pins s1 σ H1 _ I1 q1) fun u s2 ⟨y, H2, I2, r2, q2⟩ => ?_
  exact hf v u s2 x y H2 I2 r1 r2 q2
theorem pe_op {op : Operator} {r : R2} (ho : OpR X (binaryOp op) r) (ha : PE X a ta) (hb : PE X b tb) : PE X (.BinOp a op b pos) (tOp r ta tb) := by
  intro pins s σ H Q I h
  exact wpAny_BinOp (binT ha hb I h fun v u s2 x y H2 I2 rx ry q => ho pins s2 σ H2 x y v u Q I2 rx ry q)
theorem pe_un {op : UnaryOp} {r : V → Hp → VK → Prop} (ho : UnR X (unaryOp op) r) (ha : PE X a ta) : PE X (.UnaryOp op a pos) (tUn r ta) := by
  intro pins s σ H Q I h
  exact UnaryOp_ (thn (ha pins s σ H _ I h) fun v s1 ⟨x, H1, I1, r1, q1⟩ => ho pins s1 σ H1 x v Q I1 r1 q1)
theorem opI {f : Value → Value → Sem Value} {C : Int → Int → Prop} {g : Int → Int → Int}
    (rule : ∀ (i j : Int) (t u : Tok) (s : Shared) (Q : Value → Shared → Prop) (E : Value → Shared → Prop), C i j → Q (.int (g i j) s.toks) { s with toks := s.toks + 1 } → wpAny (model X.prog X.w) X.A (f (.int i t) (.int j u)) Q E s) :
    OpR X f (rI C fun i j => .int (g i j)) := by
  intro pins s σ H x y v u Q I rx ry h
  obtain ⟨i, j, rfl, rfl, hc, q⟩ := h
  obtain ⟨t, rfl⟩ := rx
  obtain ⟨t', rfl⟩ := ry
  exact rule i j t t' s _ _ hc ⟨.int (g i j), H, I.tok _, ⟨_, rfl⟩, q⟩
theorem opI0 {f : Value → Value → Sem Value} {g : Int → Int → Int}
    (rule : ∀ (i j : Int) (t u : Tok) (s : Shared) (Q : Value → Shared → Prop) (E : Value → Shared → Prop), Q (.int (g i j) s.toks) { s with toks := s.toks + 1 } → wpAny (model X.prog X.w) X.A (f (.int i t) (.int j u)) Q E s) :
    OpR X f (rI0 fun i j => .int (g i j)) := by
  intro pins s σ H x y v u Q I rx ry h
  obtain ⟨i, j, rfl, rfl, q⟩ := h
  obtain ⟨t, rfl⟩ := rx
  obtain ⟨t', rfl⟩ := ry
  exact rule i j t t' s _ _ ⟨.int (g i j), H, I.tok _, ⟨_, rfl⟩, q⟩
theorem opB0 {f : Value → Value → Sem Value} {g : Int → Int → Bool}
    (rule : ∀ (i j : Int) (t u : Tok) (s : Shared) (Q : Value → Shared → Prop) (E : Value → Shared → Prop), Q (.bool (g i j)) s → wpAny (model X.prog X.w) X.A (f (.int i t) (.int j u)) Q E s) :
    OpR X f (rI0 fun i j => .bl (g i j)) := by
  intro pins s σ H x y v u Q I rx ry h
  obtain ⟨i, j, rfl, rfl, q⟩ := h
  obtain ⟨t, rfl⟩ := rx
  obtain ⟨t', rfl⟩ := ry
  exact rule i j t t' s _ _ ⟨.bl (g i j), H, I, rfl, q⟩
def CDiv (i j : Int) : Prop := 0 < j ∧ j < 1073741824
def CPow (i j : Int) : Prop := 0 ≤ j ∧ j ≤ 1000000 ∧ i.natAbs < 2 ^ 64
def CMul (i j : Int) : Prop := (-(2 ^ 64) < i ∧ i < 2 ^ 64) ∨ (-(2 ^ 64) < j ∧ j < 2 ^ 64)
theorem CMul.ok {i j : Int} (h : CMul i j) : IntMulOk i j := by
  rcases h with ⟨h1, h2⟩ | ⟨h1, h2⟩
  · exact .of_left (intBits_le_64 h1 h2)
  · exact .of_right (intBits_le_64 h1 h2)
theorem op_add : OpR X (binaryOp .Add) (rI0 fun i j => .int (i + j)) := opI0 fun _ _ _ _ _ _ _ q => add_int q
theorem op_sub : OpR X (binaryOp .Sub) (rI0 fun i j => .int (i - j)) := opI0 fun _ _ _ _ _ _ _ q => sub_int q
theorem op_mul : OpR X (binaryOp .Mult) (rI CMul fun i j => .int (i * j)) := opI fun _ _ _ _ _ _ _ hc q => mul_int q hc.ok
theorem op_fdiv : OpR X (binaryOp .FloorDiv) (rI CDiv fun i j => .int (i / j)) := opI fun i j _ _ _ _ _ hc q => by
  have h1 : (0 : Int) < j := hc.1
  have h2 : j < 1073741824 := hc.2
  exact floordiv_int (by omega) (by rw [Int.fdiv_eq_ediv_of_nonneg i (by omega)]; exact q) (.inl (PyProof.noPylong_small (by omega)))
theorem op_mod : OpR X (binaryOp .Mod) (rI (fun _ j => 0 < j) fun i j => .int (i % j)) := opI fun i j _ _ _ _ _ hc q => by
  have h1 : (0 : Int) < j := hc
  exact mod_int' (by omega) (by rw [Int.fmod_eq_emod_of_nonneg i (by omega)]; exact q)
theorem op_modN : OpR X (binaryOp .Mod) (rI (fun _ j => j ≠ 0) fun i j => .int (i.fmod j)) := opI fun _ _ _ _ _ _ _ hc q => mod_int' hc q
theorem op_pow : OpR X (binaryOp .Pow) (rI CPow fun i j => .int (i ^ j.toNat)) := opI fun _ _ _ _ _ _ _ hc q => pow_int_small hc.1 hc.2.1 hc.2.2 q
theorem unI {f : Value → Sem Value} {g : Int → Int}
    (rule : ∀ (i : Int) (t : Tok) (s : Shared) (Q : Value → Shared → Prop) (E : Value → Shared → Prop), Q (.int (g i) s.toks) { s with toks := s.toks + 1 } → wpAny (model X.prog X.w) X.A (f (.int i t)) Q E s) :
    UnR X f (rU fun i => .int (g i)) := by
  intro pins s σ H x v Q I rx h
  obtain ⟨i, rfl, q⟩ := h
  obtain ⟨t, rfl⟩ := rx
  exact rule i t s _ _ ⟨.int (g i), H, I.tok _, ⟨_, rfl⟩, q⟩
theorem un_neg : UnR X (unaryOp .USub) (rU fun i => .int (-i)) := unI fun _ _ _ _ _ q => neg_int q
end
def scal : V → V → Bool
  | .non, .non => true | .non, .int _ => true | .int _, .non => true | .non, .bl _ => true | .bl _, .non => true | .non, .str _ => true | .str _, .non => true
  | .int _, .int _ => true | .bl _, .bl _ => true | .str _, .str _ => true | .byt _, .byt _ => true
  | .int _, .str _ => true | .str _, .int _ => true | .bl _, .str _ => true | .str _, .bl _ => true
  | _, _ => false
def rEq : R2 := fun x y H Q => scal x y = true ∧ Q (.bl (decide (x = y))) H
def rNe : R2 := fun x y H Q => scal x y = true ∧ Q (.bl (!decide (x = y))) H
theorem dec_int {i j : Int} : decide (V.int i = V.int j) = (i == j) := by
  rw [Bool.eq_iff_iff]
  simp
theorem dec_bl {i j : Bool} : decide (V.bl i = V.bl j) = (i == j) := by
  rw [Bool.eq_iff_iff]
  simp
theorem dec_str {i j : Str} : decide (V.str i = V.str j) = (i == j) := by
  rw [Bool.eq_iff_iff]
  simp
theorem dec_byt {i j : Array UInt8} : decide (V.byt i = V.byt j) = (i.toList == j.toList) := by
  rw [Bool.eq_iff_iff]
  cases i
  cases j
  simp
section
variable {X : Cx} {a b c : Expr} {ta tb tc : TE} {pos : Pos}
theorem fin_bl {pins : List (Addr × Obj)} {σ : St} {H : Hp} {s : Shared} {Q : VK} {k k' : Bool} (I : Inv X pins σ H s) (q : Q (.bl k) H) (e : k = k') : EP X pins σ Q (.bool k') s := by
  subst e
  exact ⟨.bl k, H, I, rfl, q⟩
theorem op_eq : OpR X (compareOp .Eq) rEq := by
  intro pins s σ H x y v u Q I rx ry h
  obtain ⟨hs, q⟩ := h
  cases x with
  | non =>
    cases rx
    cases y with
    | non => cases ry; exact PySem.EqNone.eq_none_none (fin_bl I q (by simp))
    | bl j => cases ry; exact PySem.EqNone.eq_none_bool (fin_bl I q (by simp))
    | int j => obtain ⟨t', rfl⟩ := ry; exact PySem.EqNone.eq_none_int (fin_bl I q (by simp))
    | str j => obtain ⟨t', rfl⟩ := ry; exact PySem.EqNone.eq_none_str (fin_bl I q (by simp))
    | _ => exact absurd (show false = true from hs) Bool.false_ne_true
  | bl i =>
    cases rx
    cases y with
    | non => cases ry; exact PySem.EqNone.eq_bool_none (fin_bl I q (by simp))
    | bl j => cases ry; exact eq_bool (fin_bl I q dec_bl)
    | str j => obtain ⟨t', rfl⟩ := ry; exact PySem.EqMixed.eq_bool_str (fin_bl I q (by simp))
    | _ => exact absurd (show false = true from hs) Bool.false_ne_true
  | int i =>
    obtain ⟨t, rfl⟩ := rx
    cases y with
    | non => cases ry; exact PySem.EqNone.eq_int_none (fin_bl I q (by simp))
    | int j => obtain ⟨t', rfl⟩ := ry; exact eq_int (fin_bl I q dec_int)
    | str j => obtain ⟨t', rfl⟩ := ry; exact PySem.EqMixed.eq_int_str (fin_bl I q (by simp))
    | _ => exact absurd (show false = true from hs) Bool.false_ne_true
  | str i =>
    obtain ⟨t, rfl⟩ := rx
    cases y with
    | non => cases ry; exact PySem.EqNone.eq_str_none (fin_bl I q (by simp))
    | bl j => cases ry; exact PySem.EqMixed.eq_str_bool (fin_bl I q (by simp))
    | int j => obtain ⟨t', rfl⟩ := ry; exact PySem.EqMixed.eq_str_int (fin_bl I q (by simp))
    | str j => obtain ⟨t', rfl⟩ := ry; exact eq_str (fin_bl I q dec_str)
    | _ => exact absurd (show false = true from hs) Bool.false_ne_true
  | byt i =>
    obtain ⟨t, rfl⟩ := rx
    cases y with
    | byt j => obtain ⟨t', rfl⟩ := ry; exact PySem.W.eq_bytes (fin_bl I q dec_byt)
    | _ => exact absurd (show false = true from hs) Bool.false_ne_true
  | _ => cases y <;> exact absurd (show false = true from hs) Bool.false_ne_true
theorem op_ne : OpR X (compareOp .NotEq) rNe := by
  intro pins s σ H x y v u Q I rx ry h
  obtain ⟨hs, q⟩ := h
  cases x with
  | non =>
    cases rx
    cases y with
    | non => cases ry; exact PySem.EqNone.ne_none_none (fin_bl I q (by simp))
    | bl j => cases ry; exact PySem.EqNone.ne_none_bool (fin_bl I q (by simp))
    | int j => obtain ⟨t', rfl⟩ := ry; exact PySem.EqNone.ne_none_int (fin_bl I q (by simp))
    | str j => obtain ⟨t', rfl⟩ := ry; exact PySem.EqNone.ne_none_str (fin_bl I q (by simp))
    | _ => exact absurd (show false = true from hs) Bool.false_ne_true
  | bl i =>
    cases rx
    cases y with
    | non => cases ry; exact PySem.EqNone.ne_bool_none (fin_bl I q (by simp))
    | bl j => cases ry; exact ne_bool (fin_bl I q (congrArg not dec_bl))
    | str j => obtain ⟨t', rfl⟩ := ry; exact PySem.EqMixed.ne_bool_str (fin_bl I q (by simp))
    | _ => exact absurd (show false = true from hs) Bool.false_ne_true
  | int i =>
    obtain ⟨t, rfl⟩ := rx
    cases y with
    | non => cases ry; exact PySem.EqNone.ne_int_none (fin_bl I q (by simp))
    | int j => obtain ⟨t', rfl⟩ := ry; exact ne_int (fin_bl I q (congrArg not dec_int))
    | str j => obtain ⟨t', rfl⟩ := ry; exact PySem.EqMixed.ne_int_str (fin_bl I q (by simp))
    | _ => exact absurd (show false = true from hs) Bool.false_ne_true
  | str i =>
    obtain ⟨t, rfl⟩ := rx
    cases y with
    | non => cases ry; exact PySem.EqNone.ne_str_none (fin_bl I q (by simp))
    | bl j => cases ry; exact PySem.EqMixed.ne_str_bool (fin_bl I q (by simp))
    | int j => obtain ⟨t', rfl⟩ := ry; exact PySem.EqMixed.ne_str_int (fin_bl I q (by simp))
    | str j => obtain ⟨t', rfl⟩ := ry; exact ne_str (fin_bl I q (congrArg not dec_str))
    | _ => exact absurd (show false = true from hs) Bool.false_ne_true
  | byt i =>
    obtain ⟨t, rfl⟩ := rx
    cases y with
    | byt j => obtain ⟨t', rfl⟩ := ry; exact PySem.W.ne_bytes (fin_bl I q (congrArg not dec_byt))
    | _ => exact absurd (show false = true from hs) Bool.false_ne_true
  | _ => cases y <;> exact absurd (show false = true from hs) Bool.false_ne_true
theorem op_lt : OpR X (compareOp .Lt) (rI0 fun i j => .bl (decide (i < j))) := opB0 fun _ _ _ _ _ _ _ q => lt_int q
theorem op_gt : OpR X (compareOp .Gt) (rI0 fun i j => .bl (decide (j < i))) := opB0 fun _ _ _ _ _ _ _ q => gt_int q
theorem op_ge : OpR X (compareOp .GtE) (rI0 fun i j => .bl (decide (j ≤ i))) := opB0 fun _ _ _ _ _ _ _ q => ge_int q
theorem nomark (b : Expr) {op : CmpOp} (h : op ≠ .In := by decide) (h2 : op ≠ .NotIn := by decide) : behindInMarks op b = false := by
  have e1 : (op == CmpOp.In) = false := by cases op <;> first | rfl | exact absurd rfl h
  have e2 : (op == CmpOp.NotIn) = false := by cases op <;> first | rfl | exact absurd rfl h2
  cases b <;> simp [behindInMarks, e1, e2]
theorem pe_cmpR {op : CmpOp} {r : R2} (ho : OpR X (compareOp op) r) (ha : PE X a ta) (hb : PE X b tb) (hm : behindInMarks op b = false) : PE X (.Compare a [op] [b] pos) (tOp r ta tb) := by
  intro pins s σ H Q I h
  exact wpAny_Compare1 (binT ha hb I h fun v u s2 x y H2 I2 rx ry q => ho pins s2 σ H2 x y v u Q I2 rx ry q) hm
def tTest (t : TE) : TT := fun σ H Q => t σ H fun x H' => ∃ k, x = .bl k ∧ Q k H'
theorem pt_cmpR {op : CmpOp} {r : R2} (ho : OpR X (compareOp op) r) (ha : PE X a ta) (hb : PE X b tb) (hm : behindInMarks op b = false) : PT X (.Compare a [op] [b] pos) (tTest (tOp r ta tb)) := by
  intro pins s σ H Q I h
  refine wpAny_isTrue_Compare1 (thn (ha pins s σ H _ I h) fun v s1 ⟨x, H1, I1, r1, q1⟩ => thn (hb pins s1 σ H1 _ I1 q1) fun u s2 ⟨y, H2, I2, r2, q2⟩ =>
    thn (ho pins s2 σ H2 x y v u _ I2 r1 r2 q2) fun c s3 ⟨z, H3, I3, r3, k, e, q3⟩ => ?_) hm
  subst e
  cases r3
  exact wpAny_truthy_bool ⟨H3, I3, q3⟩
theorem line63 : (sizeLine : Nat) < 2 ^ 63 := by rw [sizeLine_eq]; decide
theorem vals1 {x : V} {us : List Value} (r : Vals [x] us) : ∃ u, us = [u] ∧ RelV x u := by
  cases r with
  | cons r1 r2 => cases r2; exact ⟨_, rfl, r1⟩
theorem vals2 {x y : V} {us : List Value} (r : Vals [x, y] us) : ∃ u w', us = [u, w'] ∧ RelV x u ∧ RelV y w' := by
  cases r with
  | cons r1 r2 =>
    cases r2 with
    | cons r3 r4 => cases r4; exact ⟨_, _, rfl, r1, r3⟩
theorem call_abs : CallR X (.builtin "abs") (fun xs H Q => ∃ i, xs = [.int i] ∧ Q (.int (if i < 0 then -i else i)) H) := by
  intro pins s σ H xs us Q I r h
  obtain ⟨i, rfl, q⟩ := h
  obtain ⟨u, rfl, t, rfl⟩ := vals1 r
  exact call_abs_int fun u tk => ⟨.int (if i < 0 then -i else i), H, I.tok _, ⟨_, rfl⟩, q⟩
theorem call_max2 (hc : X.calm = true) : CallR X (.builtin "max") (fun xs H Q => ∃ i j, xs = [.int i, .int j] ∧ Q (.int (if j > i then j else i)) H) := by
  intro pins s σ H xs us Q I r h
  obtain ⟨i, j, rfl, q⟩ := h
  obtain ⟨u, w', rfl, ⟨t, rfl⟩, ⟨t', rfl⟩⟩ := vals2 r
  refine max_two_ints (I.ok.hd hc) fun h' tk k => ⟨_, H, I.kept k, ?_, q⟩
  by_cases hj : j > i
  · rw [if_pos hj, if_pos hj]; exact ⟨_, rfl⟩
  · rw [if_neg hj, if_neg hj]; exact ⟨_, rfl⟩
theorem call_min2 (hc : X.calm = true) : CallR X (.builtin "min") (fun xs H Q => ∃ i j, xs = [.int i, .int j] ∧ Q (.int (if j < i then j else i)) H) := by
  intro pins s σ H xs us Q I r h
  obtain ⟨i, j, rfl, q⟩ := h
  obtain ⟨u, w', rfl, ⟨t, rfl⟩, ⟨t', rfl⟩⟩ := vals2 r
  refine min_two_ints (I.ok.hd hc) fun h' tk k => ⟨_, H, I.kept k, ?_, q⟩
  by_cases hj : j < i
  · rw [if_pos hj, if_pos hj]; exact ⟨_, rfl⟩
  · rw [if_neg hj, if_neg hj]; exact ⟨_, rfl⟩
theorem call_int1 : CallR X (.type "int") (fun xs H Q => (∃ i, xs = [.int i] ∧ Q (.int i) H) ∨ ∃ k, xs = [.bl k] ∧ Q (.int (if k then 1 else 0)) H) := by
  intro pins s σ H xs us Q I r h
  rcases h with ⟨i, rfl, q⟩ | ⟨k, rfl, q⟩
  · obtain ⟨u, rfl, t, rfl⟩ := vals1 r
    exact call_int_int ⟨.int i, H, I, ⟨_, rfl⟩, q⟩
  · obtain ⟨u, rfl, r1⟩ := vals1 r
    cases r1
    exact call_int_bool ⟨.int (if k then 1 else 0), H, I.tok _, ⟨_, rfl⟩, q⟩
end
end L2
namespace L2
open PySem PySem.Spec PyProof.Rows
structure ObjM (h : Heap) (x dx C : Addr) (mA : Str → Option Value) : Prop where
  obj : h.get? x = some (PySem.W.instObj C dx)
  ns : h.Ns1 dx mA
  ne : dx ≠ x
theorem lookIn_ns {h : Heap} {dx : Addr} {mA : Str → Option Value} (n : h.Ns1 dx mA) : ∃ od, h.get? dx = some od ∧ ∀ name, PySem.W.lookIn name od = some (mA name) := by
  obtain ⟨o, es, ep, ho, hd, hk, _, hm⟩ := n
  refine ⟨o, ho, fun name => ?_⟩
  have e := hm name
  unfold nsFind findBy at e
  rw [← Array.find?_toList] at e
  unfold PySem.W.lookIn
  rw [hd]
  dsimp only
  split
  · rename_i y q
    rw [q] at e
    exact congrArg some e
  · rename_i q
    rw [q] at e
    have a : es.toList.any (·.refKey) = false := by
      rw [List.any_eq_false]
      intro y hy
      obtain ⟨z, t, hkey⟩ := hk y (Array.mem_toList_iff.mp hy)
      simp [DictEntry.refKey, hkey]
    have a' : ¬ es.toList.any (·.refKey) = true := by rw [a]; exact Bool.false_ne_true
    rw [if_neg a']
    exact congrArg some e
theorem ObjM.look {h : Heap} {x dx C : Addr} {mA : Str → Option Value} (I : ObjM h x dx C mA) : ∃ od, PySem.W.InstAt h x (PySem.W.instObj C dx) C (some od) ∧ ∀ name, PySem.W.lookIn name od = some (mA name) :=
  let ⟨od, ho, hl⟩ := lookIn_ns I.ns
  ⟨od, ⟨I.obj, rfl, rfl, ho⟩, hl⟩
section
variable {prog : Program} {w : World} {A : Around} {E : Value → Shared → Prop} {s : Shared} {K : PySem.W.Frag} {x dx C f : Addr} {mA : Str → Option Value} {name : Str} {v : Value}
end
section
variable {P : Program} {w : World} {H H' : Hp} {h h' : Heap} {a C dx : Addr} {fs fs' : List (Str × V)}
theorem ins_get (hok : HOk P w H h) (e : H a = some (.ins C dx fs)) : ∃ mA, ObjM h a dx C mA ∧ (∀ f, RelO (fs.lookup f) (mA f)) ∧ PySem.Within mA (fs.map (·.1)) ∧ fs.length ≤ 1000 ∧ H dx = some (.own a) := by
  obtain ⟨d, z, ne, ob, mA, n, r, q⟩ := (show ObjOk P w H h a (.ins C dx fs) from hok a _ e)
  exact ⟨mA, ⟨ob, n, ne⟩, r, q, z, d⟩
end
structure Cls (K : PySem.W.Frag) (C : Addr) : Prop where
  pg : PySem.W.plainGet K C Str.empty = true
  hd : PySem.W.hasDictIn K C = true
  po : PySem.W.plainOver K C = true
  sa : PySem.W.findIn K (.ref C) "__setattr__" = some (some (.builtin "object.__setattr__"))
theorem Cls.get {K : PySem.W.Frag} {C : Addr} (c : Cls K C) (f : Str) : PySem.W.plainGet K C f = true := c.pg
section
variable {X : Cx} {pins : List (Addr × Obj)} {σ : St} {H : Hp} {s : Shared} {a C dx : Addr} {fs : List (Str × V)} {f : Str} {v : V} {A : Around} {E : Value → Shared → Prop}
end
section
variable {X : Cx} {o e value : Expr} {f : Str} {pos pos' tpos : Pos} {ta tv : TE}
end
section
variable {X : Cx} {pins : List (Addr × Obj)} {σ : St} {H : Hp} {s : Shared} {A : Around} {E : Value → Shared → Prop} {Q : Value → Shared → Prop} {c : Value} {b : Bool}
inductive TyOf (K : PySem.W.Frag) (H : Hp) : V → Value → Prop where
  | non : TyOf K H .non (.type "NoneType")
  | bl (x : Bool) : TyOf K H (.bl x) (.type "bool")
  | int (i : Int) : TyOf K H (.int i) (.type "int")
  | str (x : Str) : TyOf K H (.str x) (.type "str")
  | flt (x : UInt64) : TyOf K H (.flt x) (.type "float")
  | lst {a : Addr} {xs : List V} (e : H a = some (.lst xs)) : TyOf K H (.ref a) (.type "list")
  | frz {a : Addr} {o : Obj} {xs : List V} (e : H a = some (.frz o (.lst xs))) : TyOf K H (.ref a) (.type "list")
  | tup {a : Addr} {xs : List V} (e : H a = some (.tup xs)) : TyOf K H (.ref a) (.type "tuple")
  | dK {a : Addr} {kvs : List (Key × V)} (e : H a = some (.dK kvs)) : TyOf K H (.ref a) (.type "dict")
  | dT {a : Addr} {kvs : List (List Key × V)} (e : H a = some (.dT kvs)) : TyOf K H (.ref a) (.type "dict")
  | ins {a C dx : Addr} {fs : List (Str × V)} (e : H a = some (.ins C dx fs)) (cl : Cls K C) (ha : PySem.W.findIn K (.ref C) "__class__" = some (some (.builtin "object.__class__")))
      (hn : PySem.W.specialIn K (.builtin "object.__class__") "__get__" = some (some (.builtin "getset_descriptor.__get__"))) (htk : PySem.W.takesIn K (.builtin "object.__class__") = some true)
      (hm : PySem.W.mroIn K C (.type "object") = some true) : TyOf K H (.ref a) (.ref C)
theorem isinst_ok {x : V} {u t : Value} (I : Inv X pins σ H s) (rx : RelV x u) (ty : TyOf X.K H x t) (e : PySem.W.kitOne X.K t c = some b) (h : ∀ tk, Q (.bool b) { s with toks := tk }) :
    wpAny (model X.prog X.w) A (call (.builtin "isinstance") [u, c]) Q E s := by
  cases ty with
  | non => cases (show u = Value.none from rx); exact PySem.W.kia_one PySem.W.kitx_none I.kIn True.intro e (fun z => nomatch z) h
  | bl y => cases (show u = Value.bool y from rx); exact PySem.W.kia_one PySem.W.kitx_bool I.kIn True.intro e (fun z => nomatch z) h
  | int i => obtain ⟨t, q⟩ := (show ∃ t, u = Value.int i t from rx); cases q; exact PySem.W.kia_one PySem.W.kitx_int I.kIn True.intro e (fun z => nomatch z) h
  | str y => obtain ⟨t, q⟩ := (show ∃ t, u = Value.str y t from rx); cases q; exact PySem.W.kia_one PySem.W.kitx_str I.kIn True.intro e (fun z => nomatch z) h
  | flt y => obtain ⟨t, q⟩ := (show ∃ t, u = Value.float y t from rx); cases q; exact PySem.W.kia_one PySem.W.kitx_float I.kIn True.intro e (fun z => nomatch z) h
  | @lst a xs ea =>
    cases (show u = Value.ref a from rx)
    obtain ⟨_, _, n, _, h1⟩ := (show ObjOk X.prog X.w H s.heap a (.lst xs) from I.hok a _ ea)
    exact PySem.W.kia_one PySem.W.kitx_list I.kIn ⟨_, h1, rfl⟩ e (fun z => nomatch z) h
  | @frz a ob xs ea =>
    cases (show u = Value.ref a from rx)
    obtain ⟨_, _, _, n, _, h1⟩ := (show ObjOk X.prog X.w H s.heap a (.frz ob (.lst xs)) from I.hok a _ ea)
    exact PySem.W.kia_one PySem.W.kitx_list I.kIn ⟨_, h1, rfl⟩ e (fun z => nomatch z) h
  | @tup a xs ea =>
    cases (show u = Value.ref a from rx)
    obtain ⟨_, _, _, p⟩ := (show ObjOk X.prog X.w H s.heap a (.tup xs) from I.hok a _ ea)
    obtain ⟨o, h1, h2, _⟩ := p
    exact PySem.W.kia_one PySem.W.kitx_tuple I.kIn ⟨o, h1, h2⟩ e (fun z => nomatch z) h
  | @dK a kvs ea =>
    cases (show u = Value.ref a from rx)
    obtain ⟨_, _, vs, _, p⟩ := (show ObjOk X.prog X.w H s.heap a (.dK kvs) from I.hok a _ ea)
    obtain ⟨o, es, ep, h1, h2, _⟩ := p
    exact PySem.W.kia_one PySem.W.kitx_dict I.kIn ⟨o, h1, h2.1⟩ e (fun z => nomatch z) h
  | @dT a kvs ea =>
    cases (show u = Value.ref a from rx)
    obtain ⟨_, _, xs, _, o, es, ep, h1, h2, _⟩ := (show ObjOk X.prog X.w H s.heap a (.dT kvs) from I.hok a _ ea)
    exact PySem.W.kia_one PySem.W.kitx_dict I.kIn ⟨o, h1, h2.1⟩ e (fun z => nomatch z) h
  | @ins a C dx fs ea cl ha hn htk hm =>
    cases (show u = Value.ref a from rx)
    obtain ⟨mA, O, _⟩ := ins_get I.hok ea
    obtain ⟨od, J, _⟩ := O.look
    exact PySem.W.kia_one (PySem.W.kitx_own (cl.get _) cl.hd ha hn htk hm) I.kIn J e (fun z => nomatch z) h
end
end L2
namespace L2
open PySem PySem.Spec PyProof.Rows
structure Room (k : Nat) (A : Around) : Prop where
  hd : A.handled = none
  dp : A.depth + 3 * k + 5 < recursionLimit
  un : A.units + 16 * k + 200 < cLine
theorem Room.mono {j k : Nat} {A : Around} (r : Room k A) (h : j ≤ k) : Room j A := ⟨r.hd, by have := r.dp; omega, by have := r.un; omega⟩
theorem Room.deeper {k : Nat} {A : Around} (r : Room (k + 1) A) (env : Env) : Room k (A.deeper env) :=
  ⟨r.hd, by have := r.dp; show A.depth + 1 + 3 * k + 5 < _; omega, by have := r.un; show A.units + 3 + 16 * k + 200 < _; omega⟩
theorem Room.depth {k : Nat} {A : Around} (r : Room k A) : A.depth < recursionLimit := by have := r.dp; omega
theorem Room.units {k : Nat} {A : Around} (r : Room k A) : A.units + 64 < cLine := by have := r.un; omega
def tNil : TA := fun _ H Q => Q [] H
def tCons (ta : TE) (tr : TA) : TA := fun σ H Q => ta σ H fun x H1 => tr σ H1 fun xs H2 => Q (x :: xs) H2
section
variable {X : Cx} {e : Expr} {es : List Expr} {te : TE} {t : TA} {pos : Pos}
theorem pa_nil : PA X [] tNil := fun _ _ _ _ H Q I h => Calls.spliced_nil ⟨[], H, I, .nil, h⟩
theorem pa_cons (ha : PE X e te) (hr : PA X es t) (hs : starEach (e :: es) X.env = (false, eval e X.env) :: starEach es X.env := by rfl) : PA X (e :: es) (tCons te t) := by
  intro pos pins s σ H Q I h
  rw [hs]
  show wpAny _ _ (spliced ((false, eval e X.env) :: backTo pos (starEach es X.env))) _ _ s
  refine Calls.spliced_cons (thn (ha pins s σ H _ I h) fun u s1 ⟨x, H1, I1, r1, q1⟩ => ?_)
  exact thn (hr pos pins s1 σ H1 _ I1 q1) fun us s2 ⟨xs, H2, I2, r2, q2⟩ => ⟨x :: xs, H2, I2, .cons r1 r2, q2⟩
def tTup (t : TA) : TE := fun σ H Q => t σ H fun xs H1 => xs.length ≤ sizeLine ∧ ∀ p, H1 p = none → Q (.ref p) (upd H1 p (.tup xs))
def tLst (t : TA) : TE := fun σ H Q => t σ H fun xs H1 => xs.length ≤ sizeLine ∧ ∀ p, H1 p = none → Q (.ref p) (upd H1 p (.lst xs))
theorem pe_tup {x1} (h : PA X es t) : PE X (.Tuple es x1 pos) (tTup t) := by
  intro pins s σ H Q I hq
  refine wpAny_Tuple_spliced (thn (h pos pins s σ H _ I hq) fun us s1 ⟨xs, H1, I1, r, z, q⟩ => ⟨by rw [← r.length]; exact z, ?_⟩)
  have hf : H1 s1.heap.objs.size = none := I1.hok.fresh (Nat.le_refl _)
  refine ⟨.ref s1.heap.objs.size, upd H1 s1.heap.objs.size (.tup xs), I1.laid (t' := s1.toks) (fun b u e => Heap.get?_push_of_some _ e) (Nat.le_refl _) ?_, rfl, q _ hf⟩
  exact ⟨z, us, r, ⟨_, Heap.get?_push_size _ rfl, rfl, _, rfl⟩⟩
theorem pe_lst (h : PA X es t) : PE X (.List es pos) (tLst t) := by
  intro pins s σ H Q I hq
  refine wpAny_List_spliced (thn (h pos pins s σ H _ I hq) fun us s1 ⟨xs, H1, I1, r, z, q⟩ => ⟨by rw [← r.length]; exact z, ?_⟩)
  have hf : H1 s1.heap.objs.size = none := I1.hok.fresh (Nat.le_refl _)
  refine ⟨.ref s1.heap.objs.size, upd H1 s1.heap.objs.size (.lst xs), I1.laid (t' := s1.toks) (fun b u e => Heap.get?_push_of_some _ e) (Nat.le_refl _) ?_, rfl, q _ hf⟩
  exact ⟨z, us, 0, r, Heap.get?_push_size _ rfl⟩
end
abbrev Sp := List V → Hp → VK → XK → Prop
abbrev CXT := List Env → Hp → Shared → XK → Value → Shared → Prop
structure Env0 (P : Program) (w : World) (K : PySem.W.Frag) (mg : Str → Option Value) (base : Heap) (A : Around) (outer : List Env) (s : Shared) (H : Hp) : Prop where
  frames : A.frames = some outer
  mod : Mod K mg base
  bs : ∀ b o, base.get? b = some o → s.heap.get? b = some o ∧ H b = none
  bsz : base.objs.size ≤ s.heap.objs.size
  funs : s.heap.FunFrames base outer
  frf : ∀ b ∈ frs outer, H b = none
  hok : HOk P w H s.heap
  bare : AllBare s.gens
def CE (outer : List Env) (P : Program) (w : World) (H : Hp) (s : Shared) (Q : VK) (u : Value) (s' : Shared) : Prop :=
  ∃ v H', s'.os = s.os ∧ AllBare s'.gens ∧ Un (frs outer) [] H H' s.heap s'.heap ∧ HOk P w H' s'.heap ∧ RelV v u ∧ Q v H'
def CR (CX : CXT) (outer : List Env) (P : Program) (w : World) (H : Hp) (s : Shared) (Q : VK) (E : XK) (r : Result) (s' : Shared) : Prop :=
  match r with
  | .ok (.ret u) => CE outer P w H s Q u s'
  | .ok _ => False
  | .error e => CX outer H s E e s'
structure FnOk (P : Program) (w : World) (K : PySem.W.Frag) (mg : Str → Option Value) (base : Heap) (CX : CXT) (k : Nat) (f : Addr) (fd : FuncData) (ps : List Str) (sp : Sp) : Prop where
  len : ∀ vs H Q E, sp vs H Q E → vs.length = ps.length
  run : ∀ (A : Around) (outer : List Env) (s : Shared) (H : Hp) (args : Args) (us : List Value) (vs : List V) (Q : VK) (E : XK), Room k A → Env0 P w K mg base A outer s H → BindsTo s fd args (ps.zip us) → Vals vs us → sp vs H Q E →
    codeAny (model P w) A (.call (.ref f) args) (CR CX outer P w H s Q E) s
section
variable {X : Cx} {pins : List (Addr × Obj)} {σ : St} {H : Hp} {s s' : Shared}
theorem Inv.env0 (I : Inv X pins σ H s) : Env0 X.prog X.w X.K X.mg X.base X.A X.stack s H :=
  ⟨I.ok.frames, I.ok.mod, I.bs, Nat.le_trans I.ok.bsz I.sz, I.stack, I.stkFree, I.hok, I.bare⟩
theorem Inv.after {Q : VK} {u : Value} (I : Inv X pins σ H s) (h : CE X.stack X.prog X.w H s Q u s') : EP X pins σ Q u s' := by
  obtain ⟨v, H', os, bare, un, hok, r, q⟩ := h
  obtain ⟨hh, g, d, t, os'⟩ := s'
  obtain rfl : os' = s.os := os
  exact ⟨v, H', I.call (h' := hh) (g' := g) (d' := d) (t' := t) (ch := []) un hok bare (fun b z => absurd z (by simp)), r, q⟩
end
def tCall (sp : Sp) (dvs : List V) (E : XK) (t : TA) : TE := fun σ H Q => t σ H fun vs H1 => sp (vs ++ dvs) H1 Q E
def Binds (K : PySem.W.Frag) (fd : FuncData) (ps : List Str) (ds : List Value) : Prop :=
  ∀ (s : Shared) (us : List Value), K.In s.heap → (us ++ ds).length = ps.length → BindsTo s fd ⟨us, []⟩ (ps.zip (us ++ ds))
theorem Binds.all {K : PySem.W.Frag} {fd : FuncData} {ps : List Str} (h : ∀ us : List Value, us.length = ps.length → bindArgs fd ⟨us, []⟩ = pure (ps.zip us)) : Binds K fd ps [] := fun s us _ hl => by
  rw [List.append_nil] at hl ⊢
  exact .of_eq (h us hl)
def Passes (CX : CXT) (X : Cx) (E : XK) : Prop := ∀ (pins : List (Addr × Obj)) (σ : St) (H : Hp) (s : Shared) (e : Value) (s' : Shared), Inv X pins σ H s → CX X.stack H s E e s' → X.xe e s'
section
variable {X : Cx} {CX : CXT} {k : Nat} {f C : Addr} {fd : FuncData} {ps : List Str} {sp : Sp} {dvs : List V} {ds : List Value} {E : XK} {x m : Str} {p pos apos : Pos} {e o : Expr} {es : List Expr} {ta : TE} {t : TA}
theorem run_fn {pins : List (Addr × Obj)} {σ : St} {H : Hp} {s : Shared} {Q : VK} {us : List Value} {vs : List V} (F : FnOk X.prog X.w X.K X.mg X.base CX k f fd ps sp) (hr : Room k X.A) (hb : Binds X.K fd ps ds) (hd : Vals dvs ds) (hx : Passes CX X E)
    (I : Inv X pins σ H s) (r : Vals vs us) (h : sp (vs ++ dvs) H Q E) : wpAny (model X.prog X.w) X.A (call (.ref f) us) (EP X pins σ Q) X.xe s := by
  have r2 : Vals (vs ++ dvs) (us ++ ds) := r.append hd
  have hl : (us ++ ds).length = ps.length := by rw [← r2.length]; exact F.len _ _ _ _ h
  refine wpAny_call (codeAny_mono (F.run X.A X.stack s H ⟨us, []⟩ (us ++ ds) (vs ++ dvs) Q E hr I.env0 (hb s us I.kIn hl) r2 h) fun r s' hq => ?_)
  cases r with
  | error e => exact hx pins σ H s e s' I hq
  | ok fl =>
    cases fl with
    | ret u => exact I.after hq
    | next => exact False.elim hq
    | brk => exact False.elim hq
    | cont => exact False.elim hq
theorem pe_call (F : FnOk X.prog X.w X.K X.mg X.base CX k f fd ps sp) (hr : Room k X.A) (hg : Gl X x) (hm : X.mg x = some (.ref f)) (hk : PySem.W.keepIn X.K (.ref f) = true) (hb : Binds X.K fd ps ds) (hd : Vals dvs ds) (hx : Passes CX X E)
    (ha : PA X (e :: es) t) (hdb : (x == ("__debug__" : Str)) = false := by decide) (he : starEach (e :: es) X.env = (false, eval e X.env) :: starEach es X.env := by rfl) (hpl : (backTo pos (starEach es X.env)).any (·.1) = false := by rfl) :
    PE X (.Call (.Name x p) (e :: es) [] pos) (tCall sp dvs E t) := by
  intro pins s σ H Q I h
  refine wpAny_Call_Name_kw (ld_glob I hg hm ?_ hdb)
  refine PySem.W.callWith_K (h₀ := X.base) I.ok.mod.kin hk (thn (ha pos pins s σ H _ I h) fun us s1 ⟨vs, H1, I1, r, q⟩ => ⟨I1.kIn, ?_⟩) he hpl
  exact run_fn F hr hb hd hx I1 r q
end
section
variable {X : Cx} {CX : CXT} {k : Nat} {f C : Addr} {fd : FuncData} {ps ks : List Str} {sp : Sp} {E : XK} {x m : Str} {p pos apos kpos : Pos} {e o : Expr} {es : List Expr} {kws : List Keyword} {te ta : TE} {t tk : TA} {nm : Option Str}
variable {g : List Value → List Value → List Value} {gV : List V → List V → List V}
end
structure FnScope (N P : List Str) (sc : Scope) : Prop where
  kind : sc.kind = .function
  co : sc.isCoroutine = false
  gen : sc.isGenerator = false
  nd : N.Nodup
  pre : N.take P.length = P
  par : ∀ x ∈ P, sc.names.lookup x = some .local ∨ sc.names.lookup x = some .cell
  nofree : ∀ y ∈ sc.names, y.2 ≠ .free
theorem bindL_out {kindOf : Str → Option NameKind} {x : Str} : ∀ {binds : List (Str × Value)} {m : Str → Option Value}, (∀ v, (x, v) ∉ binds) → bindL kindOf binds m x = m x
  | [], _, _ => rfl
  | (n, v) :: r, m, h => by
    unfold bindL
    rw [bindL_out fun w hw => h w (List.mem_cons_of_mem _ hw)]
    split
    · have : x ≠ n := by rintro rfl; exact h v List.mem_cons_self
      simp [this]
    · rfl
theorem bindC_out {kindOf : Str → Option NameKind} {x : Str} : ∀ {binds : List (Str × Value)} {m : Str → Option Value}, (∀ v, (x, v) ∉ binds) → bindC kindOf binds m x = m x
  | [], _, _ => rfl
  | (n, v) :: r, m, h => by
    unfold bindC
    rw [bindC_out fun w hw => h w (List.mem_cons_of_mem _ hw)]
    split
    · rfl
    · have : x ≠ n := by rintro rfl; exact h v List.mem_cons_self
      simp [this]
theorem bindL_get {kindOf : Str → Option NameKind} {x : Str} {v : Value} : ∀ {P : List Str} {vs : List Value} {i : Nat} {m : Str → Option Value}, P.Nodup → P[i]? = some x → vs[i]? = some v → kindOf x = some .local →
    bindL kindOf (P.zip vs) m x = some v
  | [], _, _, _, _, h, _, _ => by simp at h
  | _ :: _, [], _, _, _, _, h, _ => by simp at h
  | p :: P, w :: vs, 0, m, nd, h1, h2, hk => by
    simp at h1 h2; subst h1; subst h2
    show bindL kindOf ((p, w) :: P.zip vs) m p = _
    unfold bindL
    rw [bindL_out fun v hv => (List.nodup_cons.mp nd).1 (List.of_mem_zip hv).1, if_pos hk]
    simp
  | p :: P, w :: vs, i + 1, m, nd, h1, h2, hk => by
    show bindL kindOf ((p, w) :: P.zip vs) m x = _
    unfold bindL
    exact bindL_get (i := i) (List.nodup_cons.mp nd).2 (by simpa using h1) (by simpa using h2) hk
theorem bindC_get {kindOf : Str → Option NameKind} {x : Str} {v : Value} : ∀ {P : List Str} {vs : List Value} {i : Nat} {m : Str → Option Value}, P.Nodup → P[i]? = some x → vs[i]? = some v → kindOf x ≠ some .local →
    bindC kindOf (P.zip vs) m x = some v
  | [], _, _, _, _, h, _, _ => by simp at h
  | _ :: _, [], _, _, _, _, h, _ => by simp at h
  | p :: P, w :: vs, 0, m, nd, h1, h2, hk => by
    simp at h1 h2; subst h1; subst h2
    show bindC kindOf ((p, w) :: P.zip vs) m p = _
    unfold bindC
    rw [bindC_out fun v hv => (List.nodup_cons.mp nd).1 (List.of_mem_zip hv).1, if_neg hk]
    simp
  | p :: P, w :: vs, i + 1, m, nd, h1, h2, hk => by
    show bindC kindOf ((p, w) :: P.zip vs) m x = _
    unfold bindC
    exact bindC_get (i := i) (List.nodup_cons.mp nd).2 (by simpa using h1) (by simpa using h2) hk
def start (N : List Str) (vs : List V) : St := vs.map some ++ List.replicate (N.length - vs.length) none
def cxOf (CX : CXT) (P : Program) (w : World) (K : PySem.W.Frag) (mg : Str → Option Value) (base : Heap) (N : List Str) (qual : Str) (scope : Scope) (f : Addr) (cd : Value) (A : Around) (outer : List Env) (s : Shared) (H : Hp) (E : XK) : Cx where
  prog := P
  w := w
  K := K
  mg := mg
  base := base
  A := A.deeper (envOfC qual scope s.heap.objs.size f cd)
  N := N
  s₀ := s
  H₀ := H
  env := envOfC qual scope s.heap.objs.size f cd
  outer := outer
  stack := envOfC qual scope s.heap.objs.size f cd :: outer
  ex := []
  calm := true
  fn := fun _ => true
  pn := []
  xe := fun e s' => wpAny (model P w) (A.deeper (envOfC qual scope s.heap.objs.size f cd)) (leaving (envOfC qual scope s.heap.objs.size f cd) e) (fun _ s'' => CX outer H s E e s'') (fun e' s'' => CX outer H s E e' s'') s'
theorem cell_has {sc : Scope} {n : Nat} {x : Str} (h : sc.names.lookup x = some .cell) : ∃ c, (cellsFrom n sc.names []).lookup x = some c := by
  have q := PySem.W.cellsFrom_some sc.names n [] (.inl h)
  exact Option.isSome_iff_exists.mp q
theorem inv_start {CX : CXT} {P : Program} {w : World} {K : PySem.W.Frag} {mg : Str → Option Value} {base : Heap} {N ps : List Str} {qual : Str} {scope : Scope} {f : Addr} {cd : Value} {A : Around} {outer : List Env} {s s1 : Shared} {H : Hp} {E : XK} {us : List Value} {vs : List V}
    (S : FnScope N ps scope) (hd : A.handled = none) (e0 : Env0 P w K mg base A outer s H) (hl : vs.length = ps.length) (r : Vals vs us)
    (x : InCallC s s.heap.objs.size (bindL (envOfC qual scope s.heap.objs.size f cd).kindOf (ps.zip us) fun _ => none) (cellsFrom (s.heap.objs.size + 1) scope.names []) (bindC (envOfC qual scope s.heap.objs.size f cd).kindOf (ps.zip us) fun _ => none) s1) :
    Inv (cxOf CX P w K mg base N qual scope f cd A outer s H E) [] (start N vs) H s1 := by
  have hpl : ps.length ≤ N.length := by have := congrArg List.length S.pre; rw [List.length_take] at this; omega
  obtain ⟨h1, tk, rfl, hk⟩ := x.done
  have noA : ∀ b : Addr, b ∉ (cxOf CX P w K mg base N qual scope f cd A outer s H E).ex := fun b z => absurd (show b ∈ ([] : List Addr) from z) (by simp)
  refine ⟨⟨e0.mod, S.kind, rfl, rfl, Nat.le_refl _, fun y z c h1 h2 => ?_, fun y hy => ?_, fun y c _ h => ?_, fun _ => hd, Around.frames_deeper e0.frames, .inr ⟨rfl, rfl⟩, fun b z => absurd z (noA b), e0.bs, e0.bsz, fun b _ _ => noA b, fun b z => absurd z (noA b), e0.funs, e0.frf⟩,
    rfl, e0.bare, Un.kept hk, ⟨_, x.toInCall.ns, fun i y v h1 h2 h3 => ?_⟩, fun y c h => ⟨_, x.cell y c h⟩, e0.hok.fresh (Nat.le_refl _), fun y c h => ?_, fun p hp => absurd (show p ∈ ([] : List (Addr × Obj)) from hp) (by simp), e0.hok.kept hk, ?_⟩
  · exact name_of_addr x.apart (PySem.mem_of_lookup h1) (PySem.mem_of_lookup h2)
  · have hy : scope.names.lookup y = some .cell ∨ scope.names.lookup y = some .free := hy
    rcases hy with hy | hy
    · exact cell_has hy
    · exact absurd rfl (S.nofree _ (PySem.mem_of_lookup hy))
  · exact Nat.le_of_lt (x.above y c (PySem.mem_of_lookup h))
  · have hi : i < vs.length := by
      unfold start at h2
      by_cases hi : i < vs.length
      · exact hi
      · rw [List.getElem?_append_right (by simpa using hi)] at h2
        rw [List.getElem?_replicate] at h2
        split at h2 <;> cases h2
    have ha : vs[i]? = some v := by
      unfold start at h2
      rw [List.getElem?_append_left (by simpa using hi), List.getElem?_map] at h2
      cases e : vs[i]? with
      | none => rw [e] at h2; cases h2
      | some a => rw [e] at h2; cases h2; rfl
    obtain ⟨u, hu, rv⟩ := r.get ha
    have hp : ps[i]? = some y := by
      rw [← S.pre, List.getElem?_take_of_lt (by omega)]; exact h1
    have ndP : ps.Nodup := by rw [← S.pre]; exact S.nd.sublist (List.take_sublist _ _)
    refine ⟨u, rv, ?_⟩
    rcases S.par y (List.mem_of_getElem? hp) with k | k
    · exact .inl ⟨k, bindL_get ndP hp hu k⟩
    · obtain ⟨c, e⟩ := cell_has (n := s.heap.objs.size + 1) k
      refine .inr ⟨.inl k, c, e, ?_⟩
      have q := x.cell y c e
      rw [bindC_get ndP hp hu (by show scope.names.lookup y ≠ _; rw [k]; decide)] at q
      exact q
  · exact e0.hok.fresh (Nat.le_of_lt (x.above y c (PySem.mem_of_lookup h)))
  · unfold start
    show _ = N.length
    rw [List.length_append, List.length_map, List.length_replicate]
    omega
theorem fn_of {CX : CXT} {P : Program} {w : World} {K : PySem.W.Frag} {mg : Str → Option Value} {base : Heap} {k : Nat} {f : Addr} {name qual : Str} {params : Arguments} {body : List Stmt} {scope : Scope} {dV kV doc pm cdv ct oc : Value} {an od : Option Addr}
    {osl : Array (Option Value)} {N ps : List Str} {sp : Sp} (lk : K.lookup f = some ⟨oc, od, .func (PySem.W.fnOf name qual params body scope dV kV doc pm an cdv ct), osl⟩) (hcd : PySem.W.codeIn K cdv qual = true) (S : FnScope N ps scope)
    (len : ∀ vs H Q E, sp vs H Q E → vs.length = ps.length)
    (hbody : ∀ (A : Around) (outer : List Env) (s : Shared) (H : Hp) (vs : List V) (Q : VK) (E : XK), Room k (A.deeper (envOfC qual scope s.heap.objs.size f cdv)) → sp vs H Q E →
      ∃ t, PSs (cxOf CX P w K mg base N qual scope f cdv A outer s H E) body t ∧ t { nx := fun _ H' => Q .non H', rt := Q } (start N vs) H) :
    FnOk P w K mg base CX (k + 1) f (PySem.W.fnOf name qual params body scope dV kV doc pm an cdv ct) ps sp := by
  refine ⟨len, fun A outer s H args us vs Q E hr e0 hb r hsp => ?_⟩
  have hl := len _ _ _ _ hsp
  have KX : K.In s.heap := e0.mod.kin.keeps fun b o e => (e0.bs b o e).1
  have lim : s.heap.NoLimit := e0.mod.nolimit.keeps fun b o e => (e0.bs b o e).1
  have hkind : ∀ y ∈ ps.zip us, scope.names.lookup y.1 = some .local ∨ (scope.names.lookup y.1 = some .cell ∧ ((cellsFrom (s.heap.objs.size + 1) scope.names []).lookup y.1).isSome = true) := fun ⟨n, v⟩ hy => by
    rcases S.par n (List.of_mem_zip hy).1 with q | q
    · exact .inl q
    · exact .inr ⟨q, PySem.W.cellsFrom_some _ _ _ (.inl q)⟩
  refine codeAny_call_function hr.depth (KX _ _ lk) rfl S.co S.gen rfl (PySem.W.codeRec_of KX hcd) (hb _ _ _ _ ?_)
  refine wpAny_newFunctionEnv_cells S.kind hkind fun env he s1 x => ?_
  subst he
  refine ⟨lim.keeps x.toInCall.keep, codeAny_func ?_⟩
  obtain ⟨t, ht, hq⟩ := hbody A outer s H vs Q E (hr.deeper _) hsp
  have I : Inv (cxOf CX P w K mg base N qual scope f cdv A outer s H E) [] (start N vs) H s1 := inv_start S hr.hd e0 hl r x
  refine wpAny_mono (ht [] s1 (start N vs) H _ I hq) (fun fl s' hs => ?_) fun e s' hs => hs
  have fin : ∀ {σ' : St} {H' : Hp} {v : V} {u : Value}, Inv (cxOf CX P w K mg base N qual scope f cdv A outer s H E) [] σ' H' s' → RelV v u → Q v H' → CE outer P w H s Q u s' :=
    fun {σ' H' v u} J rv q => ⟨v, H', J.os, J.bare, J.base, J.hok, rv, q⟩
  cases fl with
  | ret u =>
    obtain ⟨v, σ', H', J, rv, q⟩ := hs
    exact fin J rv q
  | next =>
    obtain ⟨σ', H', J, q⟩ := hs
    exact fin (v := V.non) (u := Value.none) J rfl q
  | brk =>
    obtain ⟨_, _, _, q⟩ := hs
    exact False.elim q
  | cont =>
    obtain ⟨_, _, _, q⟩ := hs
    exact False.elim q
end L2
namespace L2
open PySem PySem.Spec PyProof.Rows
section
variable {X : Cx} {x : Str} {p pos : Pos} {e : Expr} {es : List Expr} {t : TA} {id T : String} {r : List V → Hp → VK → Prop}
def tCB (r : List V → Hp → VK → Prop) (t : TA) : TE := fun σ H Q => t σ H fun vs H1 => r vs H1 Q
theorem pe_callB (hc : CallR X (.builtin id) r) (hg : Gl X x) (hm : X.mg x = none) (hv : bootBuiltins x = some (.builtin id)) (ha : PA X (e :: es) t) (hn : x ≠ "__name__" := by decide) (hdb : (x == ("__debug__" : Str)) = false := by decide)
    (he : starEach (e :: es) X.env = (false, eval e X.env) :: starEach es X.env := by rfl) (hpl : (backTo pos (starEach es X.env)).any (·.1) = false := by rfl) : PE X (.Call (.Name x p) (e :: es) [] pos) (tCB r t) := by
  intro pins s σ H Q I h
  refine wpAny_Call_Name_kw (ld_blt I hg hm hv ?_ hn hdb)
  exact PyProof.Rows.callWith_builtin1 (thn (ha pos pins s σ H _ I h) fun us s1 ⟨vs, H1, I1, r1, q1⟩ => hc pins s1 σ H1 vs us Q I1 r1 q1) he hpl
theorem pe_callTy (hc : CallR X (.type T) r) (hg : Gl X x) (hm : X.mg x = none) (hv : bootBuiltins x = some (.type T)) (ha : PA X (e :: es) t) (hn : x ≠ "__name__" := by decide) (hdb : (x == ("__debug__" : Str)) = false := by decide)
    (he : starEach (e :: es) X.env = (false, eval e X.env) :: starEach es X.env := by rfl) (hpl : (backTo pos (starEach es X.env)).any (·.1) = false := by rfl) : PE X (.Call (.Name x p) (e :: es) [] pos) (tCB r t) := by
  intro pins s σ H Q I h
  refine wpAny_Call_Name_kw (ld_blt I hg hm hv ?_ hn hdb)
  exact PyProof.Rows.callWith_type1 (thn (ha pos pins s σ H _ I h) fun us s1 ⟨vs, H1, I1, r1, q1⟩ => hc pins s1 σ H1 vs us Q I1 r1 q1) he hpl
end
end L2
namespace HT
open PySem PyProof.Rows
section
open PySem.SeqAt
open PySem.AutoSeq1 (wpAny_loadPart')
open PySem.MeetsSeq PySem.MeetsSeq2 PySem.MeetsSeq3
end
section
variable {prog : Program} {w : World} {A : Around} {E : Value → Shared → Prop} {s : Shared}
theorem cat_tup {t b : Addr} {vs ws : List Value} {Q : Value → Shared → Prop} (ht : IsTup s.heap t vs.toArray) (hb : IsTup s.heap b ws.toArray) (hv : vs ≠ [])
    (h1 : ws = [] → Q (.ref t) s) (h2 : ws ≠ [] → Q (.ref s.heap.objs.size) { s with heap := s.heap.push { cls := .type "tuple", data := .seq (vs ++ ws).toArray } })
    (hsz : vs.length + ws.length ≤ sizeLine) : wpAny (model prog w) A (binaryOp .Add (.ref t) (.ref b)) Q E s := by
  obtain ⟨⟨cls, dd, data, sl⟩, ho, hc, n, hd⟩ := id ht
  obtain ⟨⟨cls2, dd2, data2, sl2⟩, ho2, hc2, n2, hd2⟩ := id hb
  simp only at hc hd hc2 hd2
  subst hc hd hc2 hd2
  have e : vs.toArray ++ ws.toArray = (vs ++ ws).toArray := by simp
  by_cases hw : ws = []
  · exact concat_meets ⟨_, ho, rfl⟩ ⟨_, ho2, rfl⟩ noFill_tuple_add seq_tuple_add PySem.F.slot_tuple_add PySem.F.entry_tuple_add (PySem.F.args_tuple_add_2 _ _)
      (tuple_addW1 t b vs.toArray ws.toArray n n2 dd dd2 sl sl2 (by simpa using hv) (by simp [hw])) ⟨ho, ho2, h1 hw⟩
  · refine concat_meets ⟨_, ho, rfl⟩ ⟨_, ho2, rfl⟩ noFill_tuple_add seq_tuple_add PySem.F.slot_tuple_add PySem.F.entry_tuple_add (PySem.F.args_tuple_add_2 _ _)
      (tuple_addW2 t b vs.toArray ws.toArray n n2 dd dd2 sl sl2 (by simpa using hv) (by simpa using hw) (by rw [List.size_toArray, List.size_toArray]; exact hsz)) ⟨ho, ho2, ?_⟩
    rw [e]
    exact h2 hw
def sIx (n d : Nat) : Option Int → Nat
  | none => d
  | some v => if v < 0 then (v + (n : Int)).toNat else min v.toNat n
theorem sIx_none (n d : Nat) : sIx n d none = d := rfl
theorem sIx_le (n d : Nat) (hd : d ≤ n) (o : Option Int) : sIx n d o ≤ n := by
  cases o with
  | none => exact hd
  | some v =>
    show (if v < 0 then (v + (n : Int)).toNat else min v.toNat n) ≤ n
    by_cases hv : v < 0
    · rw [if_pos hv]; omega
    · rw [if_neg hv]; exact Nat.min_le_right _ _
theorem clip_eq (v : Int) (n d : Nat) : (if v < 0 then max (v + (n : Int)) 0 else min v (n : Int)) = ((sIx n d (some v) : Nat) : Int) := by
  show (if v < 0 then max (v + (n : Int)) 0 else min v (n : Int)) = (((if v < 0 then (v + (n : Int)).toNat else min v.toNat n) : Nat) : Int)
  by_cases hv : v < 0
  · simp only [if_pos hv]; omega
  · simp only [if_neg hv]; omega
theorem adjust_gen (lo hi : Option Int) (n : Nat) : Builtin.Slice.sliceAdjust lo hi 1 (n : Int) = (((sIx n 0 lo : Nat) : Int), ((sIx n n hi : Nat) : Int)) := by
  have h1 : ¬ ((1 : Int) < 0) := by omega
  unfold Builtin.Slice.sliceAdjust
  simp only [h1, if_false]
  refine Prod.ext ?_ ?_
  · cases lo with
    | none => rfl
    | some v => exact clip_eq v n 0
  · cases hi with
    | none => rfl
    | some v => exact clip_eq v n n
theorem places_gen (i j : Nat) : Builtin.Slice.slicePlaces (i : Int) (j : Int) 1 = j - i := by
  unfold Builtin.Slice.slicePlaces
  have h1 : (1 : Int) > 0 := by omega
  simp only [h1, if_true, Int.ediv_one]
  split <;> omega
theorem slicePart_ {v : Value} {o : Option Int} {Q : Option Int → Shared → Prop} (p : IsPart v o) (h : Q o s) : wpAny (model prog w) A (Builtin.Slice.slicePartIndex v) Q E s := by
  cases p with
  | none => exact slicePart_none h
  | int i t => exact slicePart_int h
theorem sliceApplied_gen {sl : Addr} {vl vu : Value} {lo hi : Option Int} {n : Nat} {Q : Int × Int × Nat → Shared → Prop} (hs : s.heap.IsSliceOf sl vl vu .none) (pl : IsPart vl lo) (pu : IsPart vu hi)
    (h : Q (((sIx n 0 lo : Nat) : Int), 1, sIx n n hi - sIx n 0 lo) s) : wpAny (model prog w) A (Builtin.Slice.sliceApplied (.ref sl) (pure (n : Int))) Q E s := by
  obtain ⟨os, hos, hcs, hds⟩ := id hs
  unfold Builtin.Slice.sliceApplied Builtin.Slice.sliceFields
  refine wpAny_bind (wpAny_bind (wpAny_field hos hds (x := vl) rfl (wpAny_bind (wpAny_field hos hds (x := vu) rfl (wpAny_bind (wpAny_field hos hds (x := .none) rfl (wpAny_pure ?_)))))))
  refine wpAny_bind (slicePart_none ?_)
  show wpAny _ _ (if ((1 : Int) == 0) = true then _ else _) _ _ s
  rw [if_neg (by decide)]
  refine wpAny_bind (slicePart_ pl (wpAny_bind (slicePart_ pu (wpAny_bind (wpAny_pure ?_)))))
  show wpAny _ _ (match Builtin.Slice.sliceAdjust lo hi 1 (n : Int) with | (lo, hi) => pure (lo, (1 : Int), Builtin.Slice.slicePlaces lo hi 1)) _ _ s
  rw [adjust_gen lo hi n]
  show wpAny _ _ (pure (((sIx n 0 lo : Nat) : Int), (1 : Int), Builtin.Slice.slicePlaces ((sIx n 0 lo : Nat) : Int) ((sIx n n hi : Nat) : Int) 1)) _ _ s
  rw [places_gen]
  exact wpAny_pure h
theorem pick_gen (xs : Array Value) (i k : Nat) : ((List.range k).filterMap fun (m : Nat) => xs[((i : Int) + (m : Int) * 1).toNat]?).toArray = ((xs.toList.drop i).take k).toArray := by
  have e : (fun (m : Nat) => xs[((i : Int) + (m : Int) * 1).toNat]?) = fun m => xs[i + m]? := by
    funext m
    have : ((i : Int) + (m : Int) * 1).toNat = i + m := by omega
    rw [this]
  rw [e]
  have := pick_run xs i k
  rw [List.filterMap_map] at this
  have e2 : ((fun x => xs[x]?) ∘ fun x => i + x) = fun m => xs[i + m]? := rfl
  rw [e2] at this
  rw [this]
theorem getItem_tuple_cut {t sl : Addr} {items : Array Value} {vl vu : Value} {lo hi : Option Int} {Q : Value → Shared → Prop} (ht : IsTup s.heap t items) (hs : s.heap.IsSliceOf sl vl vu .none) (pl : IsPart vl lo) (pu : IsPart vu hi)
    (hw : ¬ (sIx items.size 0 lo = 0 ∧ sIx items.size items.size hi = items.size))
    (h : Q (.ref s.heap.objs.size) { s with heap := s.heap.push { cls := .type "tuple", data := .seq ((items.toList.drop (sIx items.size 0 lo)).take (sIx items.size items.size hi - sIx items.size 0 lo)).toArray } })
    (hsz : items.size ≤ sizeLine) : wpAny (model prog w) A (getItem (.ref t) (.ref sl)) Q E s := by
  have htake : sizeOk (.seq ((items.toList.drop (sIx items.size 0 lo)).take (sIx items.size items.size hi - sIx items.size 0 lo)).toArray) := by
    show ((items.toList.drop (sIx items.size 0 lo)).take (sIx items.size items.size hi - sIx items.size 0 lo)).toArray.size ≤ sizeLine
    rw [List.size_toArray, List.length_take, List.length_drop, Array.length_toList]
    omega
  have hj : sIx items.size items.size hi ≤ items.size := sIx_le _ _ (Nat.le_refl _) hi
  obtain ⟨os, hos, hcs, hds⟩ := id hs
  have hTs : s.TypeIs (.ref sl) "slice" := ⟨os, hos, hcs⟩
  unfold getItem
  try with_reducible refine wpAny_holding ?_
  first | refine wpAny_bind (wpAny_pure ?_) | skip
  refine wpAny_bind (wpAny_sequenceKey ht.typeIs (by decide) ?_)
  refine wpAny_bind (wpAny_callSpecial?_slot (name := Str.ofString "__getitem__") ht.typeIs PyProof.Rows.slot_tuple_getitem
    (wpAny_call_entry PyProof.Rows.slot_tuple_getitem ht.typeIs entry_tuple_getitem ?_ (args_tuple_getitem _ _)))
  show wpAny _ _ (Builtin.Tuple.tupleItemsOf (.ref t) >>= _) _ _ s
  refine wpAny_bind (tupleItemsOf_ ht ?_)
  refine wpAny_bind (wpAny_typeOf hTs ?_)
  rw [if_pos (by decide)]
  refine wpAny_bind (sliceApplied_gen hs pl pu ?_)
  have hno : ¬ ((((sIx items.size 0 lo : Nat) : Int) == 0 && (1 : Int) == 1 && (sIx items.size items.size hi - sIx items.size 0 lo) == items.size) = true) := by
    intro q
    rw [Bool.and_eq_true, Bool.and_eq_true] at q
    have q1 : ((sIx items.size 0 lo : Nat) : Int) = 0 := eq_of_beq q.1.1
    have q2 : sIx items.size items.size hi - sIx items.size 0 lo = items.size := eq_of_beq q.2
    exact hw ⟨by omega, by omega⟩
  show wpAny _ _ (if (((sIx items.size 0 lo : Nat) : Int) == 0 && (1 : Int) == 1 && (sIx items.size items.size hi - sIx items.size 0 lo) == items.size) = true then _ else _) _ _ s
  rw [if_neg hno, pick_gen]
  first
    | exact wpAny_bind (m := Builtin.Tuple.tupleExact _) (wpAny_newObj_type (wpAny_pure ⟨_, rfl, wpAny_pure h⟩) htake)
    | exact wpAny_bind (m := Builtin.Tuple.tupleExact _) (wpAny_newObj_type (wpAny_bind (wpAny_pure (wpAny_pure ⟨_, rfl, wpAny_pure h⟩))) htake)
    | exact wpAny_bind (wpAny_bind (m := Builtin.Tuple.tupleExact _) (wpAny_newObj_type (wpAny_pure (wpAny_pure ⟨_, rfl, wpAny_pure h⟩)) htake))
    | exact wpAny_bind (wpAny_bind (m := Builtin.Tuple.tupleExact _) (wpAny_newObj_type (wpAny_pure ⟨_, rfl, wpAny_pure h⟩) htake))
end
end HT
namespace L2
open PySem PySem.Spec PyProof.Rows
abbrev TO := St → Hp → (Option Int → Hp → Prop) → Prop
def PO (X : Cx) (e : Option Expr) (t : TO) : Prop :=
  ∀ (pins : List (Addr × Obj)) (s : Shared) (σ : St) (H : Hp) (Q : Option Int → Hp → Prop), Inv X pins σ H s → t σ H Q →
    wpAny (model X.prog X.w) X.A (evalPart e X.env) (fun u s' => ∃ o H', Inv X pins σ H' s' ∧ IsPart u o ∧ Q o H') X.xe s
def tNoPart : TO := fun _ H Q => Q none H
def tPart (t : TE) : TO := fun σ H Q => t σ H fun x H1 => ∃ i, x = .int i ∧ Q (some i) H1
section
variable {X : Cx} {e : Expr} {te : TE} {lo hi : Option Expr} {tl th : TO} {pos p2 : Pos}
theorem po_none : PO X none tNoPart := by
  intro pins s σ H Q I h
  rw [evalPart_none]
  exact wpAny_pure ⟨none, H, I, .none, h⟩
theorem po_some (h : PE X e te) : PO X (some e) (tPart te) := by
  intro pins s σ H Q I hw
  rw [evalPart_some]
  refine thn (h pins s σ H _ I hw) fun u s1 ⟨x, H1, I1, r1, q1⟩ => ?_
  obtain ⟨i, rfl, q⟩ := q1
  obtain ⟨t, rfl⟩ := r1
  exact ⟨some i, H1, I1, .int i t, q⟩
def SlR (X : Cx) (r : V → Option Int → Option Int → Hp → VK → Prop) : Prop :=
  ∀ (pins : List (Addr × Obj)) (s : Shared) (σ : St) (H : Hp) (x : V) (v vl vu : Value) (lo hi : Option Int) (sl : Addr) (Q : VK), Inv X pins σ H s → RelV x v → s.heap.IsSliceOf sl vl vu .none → IsPart vl lo → IsPart vu hi → r x lo hi H Q →
    ∃ T id, typeLookup (.type T) "__getitem__" = pure (some (.builtin id)) ∧ s.TypeIs v T ∧ wpAny (model X.prog X.w) X.A (getItem v (.ref sl)) (EP X pins σ Q) X.xe s
def tSl (r : V → Option Int → Option Int → Hp → VK → Prop) (te : TE) (tl th : TO) : TE := fun σ H Q => te σ H fun x H1 => tl σ H1 fun l H2 => th σ H2 fun u H3 => r x l u H3 Q
theorem pe_slice {r : V → Option Int → Option Int → Hp → VK → Prop} (hr : SlR X r) (he : PE X e te) (hl : PO X lo tl) (hu : PO X hi th) : PE X (.Subscript e (.Slice lo hi none p2) pos) (tSl r te tl th) := by
  intro pins s σ H Q I h
  refine Subscript_ (thn (he pins s σ H _ I h) fun v s1 ⟨x, H1, I1, r1, q1⟩ => ?_)
  refine wpAny_Slice (thn (hl pins s1 σ H1 _ I1 q1) fun vl s2 ⟨l, H2, I2, pl, q2⟩ => thn (hu pins s2 σ H2 _ I2 q2) fun vu s3 ⟨u, H3, I3, pu, q3⟩ => ?_)
  rw [evalPart_none]
  refine wpAny_pure ?_
  have I4 : Inv X pins σ H3 { s3 with heap := s3.heap.push { cls := .type "slice", data := .fields #[vl, vu, .none] } } := I3.kept (t' := s3.toks) fun b ob q => Heap.get?_push_of_some _ q
  obtain ⟨T, id, hT, ht, hg⟩ := hr pins { s3 with heap := s3.heap.push { cls := .type "slice", data := .fields #[vl, vu, .none] } } σ H3 x v vl vu l u s3.heap.objs.size Q I4 r1 (Heap.IsSliceOf.new ..) pl pu q3
  show wpAny (model X.prog X.w) X.A (subscriptTail e (.Slice lo hi none p2) v (.ref s3.heap.objs.size)) (EP X pins σ Q) X.xe { s3 with heap := s3.heap.push { cls := .type "slice", data := .fields #[vl, vu, .none] } }
  exact tail_any (ops := [.ref s3.heap.objs.size, v]) ht hT hg (by with_unfolding_all rfl)
def cutV (xs : List V) (lo hi : Option Int) : List V := (xs.drop (HT.sIx xs.length 0 lo)).take (HT.sIx xs.length xs.length hi - HT.sIx xs.length 0 lo)
theorem cutV_length (xs : List V) (lo hi : Option Int) : (cutV xs lo hi).length ≤ xs.length := by
  unfold cutV
  rw [List.length_take, List.length_drop]
  omega
def rSlT (K : PySem.W.Frag) : V → Option Int → Option Int → Hp → VK → Prop := fun x lo hi H Q => ∃ a xs, x = .ref a ∧ SqT K H a xs ∧
  ¬ (HT.sIx xs.length 0 lo = 0 ∧ HT.sIx xs.length xs.length hi = xs.length) ∧ ∀ p, H p = none → Q (.ref p) (upd H p (.tup (cutV xs lo hi)))
theorem sl_tup : SlR X (rSlT X.K) := by
  intro pins s σ H x v vl vu lo hi sl Q I rx hs pl pu h
  obtain ⟨a, xs, rfl, hx, hw, q⟩ := h
  cases rx
  obtain ⟨its, r, ht, hz⟩ := I.tuple hx
  have hlen : its.toArray.size = xs.length := by rw [List.size_toArray]; exact r.length.symm
  refine ⟨"tuple", _, PyProof.Rows.slot_tuple_getitem.lookup, ht.typeIs, ?_⟩
  refine HT.getItem_tuple_cut ht hs pl pu (by rw [hlen]; exact hw) ?_ (by rw [hlen]; exact hz)
  rw [hlen]
  refine ⟨.ref s.heap.objs.size, _, I.laid (t' := s.toks) (o := .tup (cutV xs lo hi)) (fun b ob q => Heap.get?_push_of_some _ q) (Nat.le_refl _) ?_, rfl, q _ (I.hok.fresh (Nat.le_refl _))⟩
  exact ⟨Nat.le_trans (cutV_length xs lo hi) hz, _, (r.drop (HT.sIx xs.length 0 lo)).take (HT.sIx xs.length xs.length hi - HT.sIx xs.length 0 lo), IsTup.new _ _⟩
def rCatT (K : PySem.W.Frag) : R2 := fun x y H Q => ∃ a b xs ys, x = .ref a ∧ y = .ref b ∧ SqT K H a xs ∧ SqT K H b ys ∧ xs ≠ [] ∧ xs.length + ys.length ≤ sizeLine ∧
  (ys = [] → Q (.ref a) H) ∧ (ys ≠ [] → ∀ p, H p = none → Q (.ref p) (upd H p (.tup (xs ++ ys))))
theorem Vals.nil_iff {xs : List V} {us : List Value} (r : Vals xs us) : us = [] ↔ xs = [] := by
  cases r with
  | nil => simp
  | cons _ _ => simp
theorem op_catT : OpR X (binaryOp .Add) (rCatT X.K) := by
  intro pins s σ H x y v u Q I rx ry h
  obtain ⟨a, b, xs, ys, rfl, rfl, ha, hb, hx, hz, q1, q2⟩ := h
  cases rx
  cases ry
  obtain ⟨its, r1, p1, _⟩ := I.tuple ha
  obtain ⟨its2, r2, p2, _⟩ := I.tuple hb
  refine HT.cat_tup p1 p2 (fun z => hx (r1.nil_iff.mp z)) (fun z => ⟨.ref a, H, I, rfl, q1 (r2.nil_iff.mp z)⟩) (fun z => ?_) (by rw [← r1.length, ← r2.length]; exact hz)
  refine ⟨.ref s.heap.objs.size, _, I.laid (t' := s.toks) (o := .tup (xs ++ ys)) (fun b ob q => Heap.get?_push_of_some _ q) (Nat.le_refl _) ?_, rfl, q2 (fun w => z (r2.nil_iff.mpr w)) _ (I.hok.fresh (Nat.le_refl _))⟩
  exact ⟨by rw [List.length_append]; exact hz, _, r1.append r2, IsTup.new _ _⟩
end
end L2
namespace L2
open PySem PySem.Spec PyProof.Rows
def ixN (n : Nat) (i : Int) : Option Nat := if 0 ≤ i then (if i < n then some i.toNat else none) else if -(n : Int) ≤ i then some (i + n).toNat else none
def atI {α : Type} (xs : List α) (i : Int) : Option α := (ixN xs.length i).bind fun j => xs[j]?
theorem ixN_seq {n : Nat} {i : Int} {j : Nat} (h : ixN n i = some j) : seqIndex? i n = some j ∧ j < n ∧ -(n : Int) ≤ i ∧ i < n := by
  unfold ixN at h
  by_cases h0 : 0 ≤ i
  · rw [if_pos h0] at h
    by_cases h1 : i < n
    · rw [if_pos h1] at h
      have e : i.toNat = j := Option.some.inj h
      exact ⟨by rw [seqIndex_of h0 h1, e], by omega, by omega, h1⟩
    · rw [if_neg h1] at h; cases h
  · rw [if_neg h0] at h
    by_cases h1 : -(n : Int) ≤ i
    · rw [if_pos h1] at h
      have e : (i + n).toNat = j := Option.some.inj h
      exact ⟨by rw [seqIndex_neg (by omega) h1, e], by omega, h1, by omega⟩
    · rw [if_neg h1] at h; cases h
theorem atI_get {α : Type} {xs : List α} {i : Int} {v : α} (h : atI xs i = some v) : ∃ j, seqIndex? i xs.length = some j ∧ xs[j]? = some v ∧ j < xs.length ∧ -(xs.length : Int) ≤ i ∧ i < xs.length := by
  unfold atI at h
  cases e : ixN xs.length i with
  | none => rw [e] at h; cases h
  | some j =>
    rw [e] at h
    obtain ⟨h1, h2, h3, h4⟩ := ixN_seq e
    exact ⟨j, h1, h, h2, h3, h4⟩
theorem atI_nat {α : Type} {xs : List α} {j : Nat} {v : α} (h : xs[j]? = some v) : atI xs (j : Int) = some v := by
  have hj : j < xs.length := (List.getElem?_eq_some_iff.mp h).1
  have e : ixN xs.length (j : Int) = some j := by
    unfold ixN
    rw [if_pos (by omega), if_pos (by omega)]; simp
  unfold atI; rw [e]; exact h
def PlainIx (b : Expr) : Prop := ∀ o i, subscripted b false o i = operate [o, i] (getItem o i)
def IxR (X : Cx) (r : R2) : Prop :=
  ∀ (value slice : Expr) (pins : List (Addr × Obj)) (s : Shared) (σ : St) (H : Hp) (x y : V) (v u : Value) (Q : VK), Inv X pins σ H s → RelV x v → RelV y u → r x y H Q →
    subscripted slice false v u = operate [v, u] (getItem v u) → wpAny (model X.prog X.w) X.A (subscriptTail value slice v u) (EP X pins σ Q) X.xe s
def MtR (X : Cx) (id : String) (r : V → List V → Hp → VK → Prop) : Prop :=
  ∀ (pins : List (Addr × Obj)) (s : Shared) (σ : St) (H : Hp) (x : V) (xs : List V) (v : Value) (us : List Value) (Q : VK), Inv X pins σ H s → RelV x v → Vals xs us → r x xs H Q →
    wpAny (model X.prog X.w) X.A (call (.builtin id) (v :: us)) (EP X pins σ Q) X.xe s
section
variable {X : Cx} {a b : Expr} {ta tb : TE} {pos : Pos}
theorem pe_ix {r : R2} (hr : IxR X r) (ha : PE X a ta) (hb : PE X b tb) (hs : PlainIx b) : PE X (.Subscript a b pos) (tOp r ta tb) := by
  intro pins s σ H Q I h
  exact Subscript_ (binT ha hb I h fun v u s2 x y H2 I2 rx ry q => hr a b pins s2 σ H2 x y v u Q I2 rx ry q (hs _ _))
def rIxL (K : PySem.W.Frag) : R2 := fun x y H Q => ∃ p xs i v, x = .ref p ∧ y = .int i ∧ SqL K H p xs ∧ atI xs i = some v ∧ Q v H
def rIxT (K : PySem.W.Frag) : R2 := fun x y H Q => ∃ p xs i v, x = .ref p ∧ y = .int i ∧ SqT K H p xs ∧ atI xs i = some v ∧ Q v H
theorem ix_list : IxR X (rIxL X.K) := by
  intro value slice pins s σ H x y v u Q I rx ry h hs
  obtain ⟨p, xs, i, z, rfl, rfl, hq, he, q⟩ := h
  cases rx
  obtain ⟨t, rfl⟩ := ry
  obtain ⟨its, r, pl, hz⟩ := I.list hq
  obtain ⟨j, h1, h2, h3, h4, h5⟩ := atI_get he
  obtain ⟨w, ew, rw'⟩ := r.get h2
  have hl := r.length
  have hn := line63
  have fin : EP X pins σ Q w s := ⟨z, H, I, rw', q⟩
  by_cases h0 : 0 ≤ i
  · have hj : i.toNat = j := by
      rw [seqIndex_of h0 h5] at h1
      exact Option.some.inj h1
    exact item_listR pl.isList h0 (by omega) (by rw [hj]; simpa using ew) fin hs
  · have hj : (i + (its.toArray.size : Int)).toNat = j := by
      rw [seqIndex_neg (by omega) h4] at h1
      rw [List.size_toArray, ← hl]
      exact Option.some.inj h1
    exact subscriptTail_builtinR (x := w) pl.isList.typeIs slot_list_getitem.lookup
      (wpAny_getItem_list_neg (Q := fun r s' => r = w ∧ EP X pins σ Q r s') pl.isList (by omega) (by rw [List.size_toArray] <;> omega) (by omega) (by rw [hj]; simpa using ew) ⟨rfl, fin⟩) hs
theorem ix_tup : IxR X (rIxT X.K) := by
  intro value slice pins s σ H x y v u Q I rx ry h hs
  obtain ⟨p, xs, i, z, rfl, rfl, hq, he, q⟩ := h
  cases rx
  obtain ⟨t, rfl⟩ := ry
  obtain ⟨its, r, pl, hz⟩ := I.tuple hq
  obtain ⟨j, h1, h2, h3, h4, h5⟩ := atI_get he
  obtain ⟨w, ew, rw'⟩ := r.get h2
  have hl := r.length
  have hn := line63
  have fin : EP X pins σ Q w s := ⟨z, H, I, rw', q⟩
  exact subscriptTail_builtinR (x := w) pl.typeIs slot_tuple_getitem.lookup
    (getItem_tuple (j := j) (Q := fun r s' => r = w ∧ EP X pins σ Q r s') pl (by omega) (by omega) (by rw [List.size_toArray, ← hl]; exact h1) (by simpa using ew) ⟨rfl, fin⟩) hs
theorem mapSeq_set (its : List Value) (n j : Nat) (u : Value) : Obj.mapSeq (·.setIfInBounds j u) { cls := .type "list", data := .seq its.toArray n } = { cls := .type "list", data := .seq (its.set j u).toArray n } := by
  simp [Obj.mapSeq]
theorem Inv.lst {pins : List (Addr × Obj)} {σ : St} {H : Hp} {s : Shared} {p : Addr} {xs : List V} (I : Inv X pins σ H s) (h : H p = some (.lst xs)) :
    ∃ (its : List Value) (n : Nat), Vals xs its ∧ s.heap.get? p = some { cls := .type "list", data := .seq its.toArray n } ∧ xs.length ≤ sizeLine := by
  obtain ⟨z, its, n, r, e⟩ := I.hok p _ h
  exact ⟨its, n, r, e, z⟩
theorem Inv.lstUpd {pins : List (Addr × Obj)} {σ : St} {H : Hp} {s : Shared} {p : Addr} {xs ys : List V} {its its' : List Value} {n n' : Nat} {f : Obj → Obj} (I : Inv X pins σ H s) (h : H p = some (.lst xs))
    (ho : s.heap.get? p = some { cls := .type "list", data := .seq its.toArray n }) (hf : f { cls := .type "list", data := .seq its.toArray n } = { cls := .type "list", data := .seq its'.toArray n' }) (r : Vals ys its') (hz : ys.length ≤ sizeLine) (t : Nat) :
    Inv X pins σ (upd H p (.lst ys)) { s with heap := s.heap.update p f, toks := t } := by
  have e : (s.heap.update p f).get? p = some { cls := .type "list", data := .seq its'.toArray n' } := by
    rw [Heap.get?_update_self f ho (by rw [hf] <;> rfl), hf]
  refine I.write (x := p) (e := p) (by rw [h]; trivial) (.inl rfl) (fun b u hb q => (Heap.get?_update_other _ _ (Ne.symm hb)).trans q) ⟨_, e⟩ ?_
  exact ⟨hz, its', n', r, e⟩
def rSetL : V → V → V → Hp → (Hp → Prop) → Prop := fun o i v H Q => ∃ p xs k j, o = .ref p ∧ i = .int k ∧ H p = some (.lst xs) ∧ ixN xs.length k = some j ∧ Q (upd H p (.lst (xs.set j v)))
theorem set_list : PSet X rSetL := by
  intro pins s σ H o i v ov iv u Q I ro ri rv h
  obtain ⟨p, xs, k, j, rfl, rfl, hp, hj, q⟩ := h
  cases ro
  obtain ⟨t, rfl⟩ := ri
  obtain ⟨its, n, r, ho, hz⟩ := I.lst hp
  obtain ⟨h1, h2, h3, h4⟩ := ixN_seq hj
  have hl := r.length
  have hn := line63
  have I' : Inv X pins σ (upd H p (.lst (xs.set j v))) { s with heap := s.heap.update p (Obj.mapSeq (·.setIfInBounds j u)) } :=
    I.lstUpd hp ho (mapSeq_set its n j u) (r.set rv j) (by rw [List.length_set]; exact hz) s.toks
  by_cases h0 : 0 ≤ k
  · have hk : k.toNat = j := by
      rw [seqIndex_of h0 h4] at h1
      exact Option.some.inj h1
    exact PySem.W.ki_setAt ho h0 (by omega) (by rw [List.size_toArray, ← hl]; exact h4) (by rw [hk]; exact ⟨_, I', q⟩)
  · have hk : (k + (its.toArray.size : Int)).toNat = j := by
      rw [seqIndex_neg (by omega) h3] at h1
      rw [List.size_toArray, ← hl]
      exact Option.some.inj h1
    exact PySem.W.ki_setBack ho (by omega) (by rw [List.size_toArray, ← hl]; exact h3) (by omega) (by rw [hk]; exact ⟨_, I', q⟩)
theorem call_len_seq : CallR X (.builtin "len") (fun xs H Q => ∃ p ys, xs = [.ref p] ∧ (SqL X.K H p ys ∨ SqT X.K H p ys) ∧ Q (.int ys.length) H) := by
  intro pins s σ H xs us Q I r h
  obtain ⟨p, ys, rfl, hq, q⟩ := h
  obtain ⟨u, rfl, rx⟩ := vals1 r
  cases rx
  have hn := line63
  rcases hq with hq | hq
  · obtain ⟨its, r', pl, hz⟩ := I.list hq
    have hlen := r'.length
    exact Calls.call_len_list pl.isList (by simp only [List.size_toArray] <;> omega) ⟨.int ys.length, H, I.tok _, ⟨s.toks + 1, by rw [List.size_toArray, hlen]⟩, q⟩
  · obtain ⟨its, r', pl, hz⟩ := I.tuple hq
    have hlen := r'.length
    exact len_tuple pl (by simp only [List.size_toArray] <;> omega) ⟨.int ys.length, H, I.tok _, ⟨s.toks + 1, by rw [List.size_toArray, hlen]⟩, q⟩
theorem call_list_of : CallR X (.type "list") (fun xs H Q => ∃ p ys, xs = [.ref p] ∧ (SqL X.K H p ys ∨ SqT X.K H p ys) ∧ ∀ l, H l = none → Q (.ref l) (upd H l (.lst ys))) := by
  intro pins s σ H xs us Q I r h
  obtain ⟨p, ys, rfl, hq, q⟩ := h
  obtain ⟨u, rfl, rx⟩ := vals1 r
  cases rx
  have fin : ∀ (its : List Value), Vals ys its → ys.length ≤ sizeLine → ∀ (h' : Heap) (c' : Nat), (∀ b o', s.heap.get? b = some o' → h'.get? b = some o') →
      h'.get? s.heap.objs.size = some { cls := .type "list", dict := none, data := .seq its.toArray c', slots := #[] } → EP X pins σ Q (.ref s.heap.objs.size) { s with heap := h' } := fun its r' hz h' c' kp e =>
    ⟨.ref s.heap.objs.size, _, I.laid (t' := s.toks) kp (Nat.le_refl _) (show ObjOk X.prog X.w _ h' _ (.lst ys) from ⟨hz, its, c', r', e⟩), rfl, q _ (I.hok.fresh (Nat.le_refl _))⟩
  rcases hq with hq | hq
  · obtain ⟨its, r', pl, hz⟩ := I.list hq
    have hlen := r'.length
    obtain ⟨o, ho, hc, n, hd⟩ := pl.isList
    exact call_list_seq p (.inl rfl) ho hc hd (fun h' c' kp e => fin its r' hz h' c' kp e) (by simp only [List.size_toArray] <;> omega)
  · obtain ⟨its, r', pl, hz⟩ := I.tuple hq
    have hlen := r'.length
    obtain ⟨o, ho, hc, n, hd⟩ := pl
    exact call_list_seq p (.inr rfl) ho hc hd (fun h' c' kp e => fin its r' hz h' c' kp e) (by simp only [List.size_toArray] <;> omega)
theorem call_tuple_of : CallR X (.type "tuple") (fun xs H Q => ∃ p ys, xs = [.ref p] ∧ ((SqL X.K H p ys ∧ ∀ l, H l = none → Q (.ref l) (upd H l (.tup ys))) ∨ (SqT X.K H p ys ∧ Q (.ref p) H))) := by
  intro pins s σ H xs us Q I r h
  obtain ⟨p, ys, rfl, h⟩ := h
  obtain ⟨u, rfl, rx⟩ := vals1 r
  cases rx
  rcases h with ⟨hq, q⟩ | ⟨hq, q⟩
  · obtain ⟨its, r', pl, hz⟩ := I.list hq
    have hlen := r'.length
    refine call_tuple_list pl.isList (fun h' kp => ?_) (by simp only [List.size_toArray] <;> omega)
    have I1 : Inv X pins σ H { s with heap := h' } := I.kept (t' := s.toks) kp
    have I2 : Inv X pins σ (upd H h'.objs.size (.tup ys)) { s with heap := h'.push { cls := .type "tuple", data := .seq its.toArray } } :=
      I1.laid (t' := s.toks) (fun b o e => Heap.get?_push_of_some _ e) (Nat.le_refl _) (show ObjOk X.prog X.w _ _ _ (.tup ys) from ⟨hz, its, r', IsTup.new _ _⟩)
    exact ⟨.ref h'.objs.size, _, I2, rfl, q _ (I1.hok.fresh (Nat.le_refl _))⟩
  · obtain ⟨its, r', pl, hz⟩ := I.tuple hq
    exact call_tuple_same pl ⟨.ref p, H, I, rfl, q⟩
def tyV (K : PySem.W.Frag) (T : String) (x : V) (H : Hp) : Prop := match x with
  | .str _ => T = "str"
  | .int _ => T = "int"
  | .ref p => (T = "list" ∧ ∃ xs, SqL K H p xs) ∨ (T = "tuple" ∧ ∃ o, K.lookup p = some o ∧ o.cls = .type "tuple" ∧ o.dict = none) ∨
      (T = "dict" ∧ ((∃ kvs, H p = some (.dK kvs)) ∨ ∃ kvs, H p = some (.dT kvs))) ∨ (T = "set" ∧ ∃ S n, H p = some (.set S n))
  | _ => False
theorem tyV_is {pins : List (Addr × Obj)} {σ : St} {H : Hp} {s : Shared} {T : String} {x : V} {v : Value} (I : Inv X pins σ H s) (r : RelV x v) (ty : tyV X.K T x H) :
    s.TypeIs v T ∧ ∀ a, v = .ref a → ∃ ob, s.heap.get? a = some ob ∧ ob.dict = none := by
  cases x with
  | str z =>
    obtain ⟨t, rfl⟩ := r
    cases (show T = "str" from ty)
    exact ⟨typeIs_str s z t, fun _ e => nomatch e⟩
  | int i =>
    obtain ⟨t, rfl⟩ := r
    cases (show T = "int" from ty)
    exact ⟨typeIs_int s i t, fun _ e => nomatch e⟩
  | ref p =>
    cases r
    rcases ty with ⟨rfl, xs, hq⟩ | ⟨rfl, o, hk, hc, hd⟩ | ⟨rfl, hk⟩ | ⟨rfl, S, n, hk⟩
    · obtain ⟨its, _, pl, _⟩ := I.list hq
      refine ⟨pl.isList.typeIs, fun a e => ?_⟩
      cases e
      obtain ⟨o, n, e, c, hd, _⟩ := pl
      exact ⟨o, e, hd⟩
    · refine ⟨⟨o, I.kIn p o hk, hc⟩, fun a e => ?_⟩
      cases e
      exact ⟨o, I.kIn _ o hk, hd⟩
    · have z : ∃ o, s.heap.get? p = some o ∧ o.ExactDict := by
        rcases hk with ⟨kvs, hk⟩ | ⟨kvs, hk⟩
        · obtain ⟨_, _, _, _, o, _, _, e, ex, _⟩ := I.hok p _ hk
          exact ⟨o, e, ex⟩
        · obtain ⟨_, _, _, _, o, _, _, e, ex, _⟩ := I.hok p _ hk
          exact ⟨o, e, ex⟩
      obtain ⟨o, e, ex⟩ := z
      refine ⟨⟨o, e, ex.1⟩, fun a e2 => ?_⟩
      cases e2
      exact ⟨o, e, ex.2.1⟩
    · obtain ⟨o, _, _, _, e, ex, _⟩ := I.hok p _ hk
      refine ⟨⟨o, e, ex.1⟩, fun a e2 => ?_⟩
      cases e2
      exact ⟨o, e, ex.2.1⟩
  | _ => exact False.elim ty
def tBM (K : PySem.W.Frag) (T : String) (r : V → List V → Hp → VK → Prop) (to : TE) (t : TA) : TE := fun σ H Q => to σ H fun x H1 => tyV K T x H1 ∧ t σ H1 fun xs H2 => r x xs H2 Q
variable {o e : Expr} {es : List Expr} {to : TE} {t : TA} {name : Str} {apos cpos : Pos} {T id : String} {r : V → List V → Hp → VK → Prop}
/- xs.append(e), list.index on a module's tuple .. are MtR facts of 06m -/
end
end L2
namespace L2
open PySem PySem.Spec PyProof.Rows
def MtM (X : Cx) (id : String) (r : V → List V → Hp → VK → Prop) : Prop :=
  ∀ (pins : List (Addr × Obj)) (s : Shared) (σ : St) (H : Hp) (x : V) (xs : List V) (v : Value) (us : List Value) (Q : VK), Inv X pins σ H s → RelV x v → Vals xs us → r x xs H Q →
    wpAny (model X.prog X.w) X.A (call (.builtin id) (v :: us)) (EP X pins σ Q) X.xe s
theorem Vals.one : ∀ {x : V} {us : List Value}, Vals [x] us → ∃ u, us = [u] ∧ RelV x u
  | _, _, .cons r .nil => ⟨_, rfl, r⟩
theorem Vals.rep {xs : List V} {us : List Value} (h : Vals xs us) : ∀ k : Nat, Vals (List.replicate k xs).flatten (List.replicate k us).flatten
  | 0 => .nil
  | k + 1 => by
    rw [List.replicate_succ, List.replicate_succ, List.flatten_cons, List.flatten_cons]
    exact Vals.append h (Vals.rep h k)
theorem foldl_rep (its : List Value) : ∀ (k : Nat) (acc : List Value),
    List.foldl (fun x1 x2 => x1 ++ x2) acc.toArray (List.replicate k its.toArray) = (acc ++ (List.replicate k its).flatten).toArray
  | 0, acc => by simp
  | k + 1, acc => by
    have e : acc.toArray ++ its.toArray = (acc ++ its).toArray := by simp
    have e2 : (acc ++ its) ++ (List.replicate k its).flatten = acc ++ (List.replicate (k + 1) its).flatten := by
      rw [List.replicate_succ, List.flatten_cons, List.append_assoc]
    rw [← e2, ← foldl_rep its k (acc ++ its), ← e, List.replicate_succ, List.foldl_cons]
section
variable {X : Cx} {pins : List (Addr × Obj)} {σ : St} {H : Hp} {s : Shared} {l b : Addr} {xs ys zs : List V}
theorem Inv.lset {its its' : List Value} {n : Nat} {f : Array Value → Array Value} {t' : Nat} (I : Inv X pins σ H s) (hH : H l = some (.lst xs))
    (e : s.heap.get? l = some { cls := .type "list", data := .seq its.toArray n }) (hf : f its.toArray = its'.toArray) (hv : Vals ys its') (hz : ys.length ≤ sizeLine) :
    Inv X pins σ (upd H l (.lst ys)) { s with heap := s.heap.update l (Obj.mapSeq f), toks := t' } := by
  have q := PySem.IsL.update e f
  rw [hf] at q
  refine I.write (x := l) (e := l) (by rw [hH]; exact trivial) (.inl rfl) (fun b' u hb hu => (Heap.get?_update_other s.heap (Obj.mapSeq f) (Ne.symm hb)).trans hu) ⟨_, q⟩ ?_
  exact ⟨hz, its', _, hv, q⟩
theorem Inv.lnew {its : List Value} {t' : Nat} (I : Inv X pins σ H s) (hv : Vals ys its) (hz : ys.length ≤ sizeLine) :
    Inv X pins σ (upd H s.heap.objs.size (.lst ys)) { s with heap := s.heap.push { cls := .type "list", data := .seq its.toArray }, toks := t' } :=
  I.laid (fun _ _ q => Heap.get?_push_of_some _ q) (Nat.le_refl _) ⟨hz, its, 0, hv, Heap.get?_push_size _ rfl⟩
theorem Inv.fresh (I : Inv X pins σ H s) : H s.heap.objs.size = none := I.hok.fresh (Nat.le_refl _)
theorem Inv.lstM (I : Inv X pins σ H s) (hH : H l = some (.lst xs)) : xs.length ≤ sizeLine ∧ ∃ (its : List Value) (n : Nat), Vals xs its ∧ xs.length = its.length ∧ s.heap.get? l = some { cls := .type "list", data := .seq its.toArray n } := by
  obtain ⟨z, its, n, r, e⟩ := I.hok l _ hH
  exact ⟨z, its, n, r, r.length, e⟩
theorem notLongL {n : Nat} (h : n ≤ sizeLine) : Builtin.List.listTooLong n = false := by
  unfold Builtin.List.listTooLong
  exact decide_eq_false (by omega)
end
section
variable {X : Cx}
def rAppend : V → List V → Hp → VK → Prop := fun x vs H Q => ∃ l xs y, x = .ref l ∧ vs = [y] ∧ H l = some (.lst xs) ∧ xs.length < sizeLine ∧ Q .non (upd H l (.lst (xs ++ [y])))
theorem mt_append : MtM X "list.append" rAppend := by
  intro pins s σ H x vs v us Q I rx rv h
  obtain ⟨l, xs, y, rfl, rfl, hH, hz, q⟩ := h
  cases rx
  obtain ⟨u, rfl, ru⟩ := rv.one
  obtain ⟨z, its, n, r, hl, e⟩ := I.lstM hH
  refine call_meets F.slot_list_append ⟨_, e, rfl⟩ F.entry_list_append (F.args_list_append_2 _ _) (PySem.list_append l its.toArray n u (by rw [List.size_toArray]; omega)) ⟨e, ?_⟩
  refine ⟨.non, _, I.lset (its' := its ++ [u]) hH e (by simp) (r.append (.cons ru .nil)) ?_, rfl, q⟩
  rw [List.length_append, List.length_singleton]
  omega
def rCat : R2 := fun x y H Q => ∃ l b xs zs, x = .ref l ∧ y = .ref b ∧ H l = some (.lst xs) ∧ H b = some (.lst zs) ∧ xs.length + zs.length ≤ sizeLine ∧ ∀ p, H p = none → Q (.ref p) (upd H p (.lst (xs ++ zs)))
theorem op_cat : OpR X (binaryOp .Add) rCat := by
  intro pins s σ H x y v u Q I rx ry h
  obtain ⟨l, b, xs, zs, rfl, rfl, hH, hB, hz, q⟩ := h
  cases rx
  cases ry
  obtain ⟨z, its, n, r, hl, e⟩ := I.lstM hH
  obtain ⟨z2, its2, n2, r2, hl2, e2⟩ := I.lstM hB
  refine PySem.P.add_list e e2 ?_ (by rw [List.size_toArray, List.size_toArray]; omega)
  have ea : its.toArray ++ its2.toArray = (its ++ its2).toArray := by simp
  rw [ea]
  exact ⟨.ref _, _, I.lnew (t' := s.toks) (r.append r2) (by rw [List.length_append]; omega), rfl, q _ I.fresh⟩
def rRep : R2 := fun x y H Q => ∃ l k xs, x = .ref l ∧ y = .int k ∧ H l = some (.lst xs) ∧ -(2 ^ 63) ≤ k ∧ k < 2 ^ 63 ∧ xs.length * k.toNat ≤ sizeLine ∧
  ∀ p, H p = none → Q (.ref p) (upd H p (.lst (List.replicate k.toNat xs).flatten))
theorem len_rep {α : Type} (xs : List α) (k : Nat) : (List.replicate k xs).flatten.length = k * xs.length := by
  induction k with
  | zero => simp
  | succ k ih => rw [List.replicate_succ, List.flatten_cons, List.length_append, ih, Nat.succ_mul, Nat.add_comm]
theorem op_rep : OpR X (binaryOp .Mult) rRep := by
  intro pins s σ H x y v u Q I rx ry h
  obtain ⟨l, k, xs, rfl, rfl, hH, h1, h2, hz, q⟩ := h
  cases rx
  obtain ⟨t, rfl⟩ := ry
  obtain ⟨z, its, n, r, hl, e⟩ := I.lstM hH
  have hlen : its.toArray.size * k.toNat ≤ sizeLine := by rw [List.size_toArray, ← hl]; exact hz
  have hcap : ¬ its.toArray.size * k.toNat > (2 ^ 63 - 1) / 8 := by
    have : (sizeLine : Nat) ≤ (2 ^ 63 - 1) / 8 := by decide
    omega
  have hfit : ¬ (!Builtin.List.listFitsIndex k) = true := by
    rw [fitsIndex_both h1 h2]
    exact Bool.false_ne_true
  have hlong : ¬ Builtin.List.listTooLong (its.toArray.size * k.toNat) = true := by
    rw [notLongL hlen]
    exact Bool.false_ne_true
  have hnew : List.foldl (fun x1 x2 => x1 ++ x2) #[] (List.replicate (if its.toArray.isEmpty = true then 0 else k.toNat) its.toArray) = (List.replicate k.toNat its).flatten.toArray := by
    have f0 : ∀ m : Nat, List.foldl (fun x1 x2 => x1 ++ x2) #[] (List.replicate m its.toArray) = (List.replicate m its).flatten.toArray := fun m => by
      have := foldl_rep its m []
      rw [List.nil_append] at this
      exact this
    rw [f0]
    cases its with
    | nil => simp
    | cons a r' => rw [if_neg (by simp)]
  refine wpAny_binaryOp_repeat_ref (T := "list") (U := "int") (by decide) ⟨_, e, rfl⟩ (fun s' => typeIs_int s' k t) noFill_list_mul F.fills_int_mul F.slot_int_rmul repeat_list F.slot_int_index.lookup
    (call_meets F.slot_int_rmul (typeIs_int s k t) F.entry_int_rmul (F.args_int_rmul_2 _ _) (int___rmul___int_list k t l its.toArray n)
      ⟨e, rfl, ⟨_, e, rfl⟩, call_meets F.slot_list_mul ⟨_, e, rfl⟩ F.entry_list_mul (F.args_list_mul_2 _ _) (AutoListH.list___mul___list_int_3 l its.toArray n k t hfit hcap hlong) ⟨e, ?_⟩⟩)
  rw [hnew]
  exact ⟨.ref _, _, I.lnew (t' := s.toks) (r.rep k.toNat) (by rw [len_rep, Nat.mul_comm]; exact hz), rfl, q _ I.fresh⟩
end
section
variable {prog : Program} {w : World} {A : Around} {E : Value → Shared → Prop} {s : Shared}
end
section
variable {X : Cx}
end
end L2
namespace Att
open PySem PySem.W PySem.Calls PyProof.Rows
theorem ints_of_wellAll {P : Params} {h : Heap} : ∀ (ns : List Int) (vs : List Value), WellAll P h vs (ns.map WData.int) → IntsAre vs ns := by
  intro ns
  induction ns with
  | nil =>
    intro vs w
    rw [List.map_nil] at w
    cases w
    exact .nil
  | cons n ns ih =>
    intro vs w
    rw [List.map_cons] at w
    cases w with
    | cons a b =>
      cases a
      exact .cons _ _ (ih _ b)
theorem script_of {l : OpenLaw} {n : Nat} (hn : l.most = some n) {P : Params} {h : Heap} {args : List WData} {vals : List Value}
    (hpre : l.row.toRowW.claim.pre args = true) (hwl : WellAll P h vals args) :
    ∃ a vs ns, vals = [Value.ref a] ∧ args = [WData.list (ns.map WData.int)] ∧ h.get? a = some { cls := .type "list", data := .seq vs.toArray } ∧ IntsAre vs ns ∧ ns.length ≤ n := by
  have hsh : WShape.hasAll [] args [.list .int] = true := (pre_splitW hpre).1
  have hc : l.pre.holds [] { args := args } = true := (pre_splitW hpre).2
  obtain ⟨d, r, rfl, h1, h2⟩ := hasAllW_cons hsh
  obtain rfl := hasAllW_nil h2
  obtain ⟨xs, rfl, h3⟩ := hasW_list h1
  obtain ⟨ns, rfl⟩ := items_int h3
  have hlen : ns.length ≤ n := by
    unfold OpenLaw.pre at hc
    have h4 : (WTm.not (.lt (.lit (.int (n : Int))) (.len (.arg 0)))).holds [] { args := [.list (ns.map .int)] } = true := by
      have h4 := (holds_andW hc).1
      rw [hn] at h4
      exact h4
    have h5 := condW_of h4 (w_not (w_lt w_lit (w_len_list (w_arg rfl))))
    rw [List.length_map] at h5
    refine Nat.le_of_not_lt fun q => ?_
    have q' : (n : Int) < ((ns.length : Nat) : Int) := by omega
    first
      | (rw [decide_eq_true q'] at h5; exact absurd h5 (by decide))
      | (simp at h5; omega)
  cases hwl with
  | cons w1 w2 =>
    cases w2
    cases w1 with
    | list ho hall => exact ⟨_, _, ns, rfl, rfl, ho, ints_of_wellAll ns _ hall, hlen⟩
theorem post_true (l : OpenLaw) (args : List WData) : l.row.toRowW.claim.post args (.bool true) args = true :=
  postW_of (r := l.row.toRowW) (X := (true == true))
    (show WShape.has [] (.bool true) .bool = true by first | rfl | decide | simp [WShape.has, WShape.arms, WShape.armsAll])
    (show (WTm.eq .res (.lit (.bool true))).value [] { args := args, res := some (.bool true), after := args } = some (.bool (true == true)) from w_eq_bool (w_res rfl) w_lit) rfl
theorem attach_call {l : OpenLaw} {n : Nat} {q : Program} {loose : List Str} {XP : (Str → Option Value) → Heap → Prop} {YP : World → Heap → Prop} {d : DefRec}
    (hn : l.most = some n) (hdf : d.params.defaults = [])
    (call : ∀ (w : World) (s₀ s₁ : Shared) (mg mb : Str → Option Value) (fa : Addr) (o : Obj) (pm cd doc : Value) (a : Addr) (vs : List Value) (ns : List Int),
      Ground q loose [] XP w s₀ mg mb s₁.heap → YP w s₁.heap →
      s₁.heap.get? fa = some o → o.data = .func (docDef d.name d.params d.body d.scope pm cd doc) → s₁.heap.CodeRec cd d.name → mg d.name = some (.ref fa) →
      s₁.heap.get? a = some { cls := .type "list", data := .seq vs.toArray } → IntsAre vs ns → ns.length ≤ n → s₁.gens = #[] →
      codeAny (model l.prog w) callerA (.call (.ref fa) ⟨[.ref a], []⟩) (fun r s' => r = .ok (.ret (.bool true)) ∧ OldK s₁.heap s'.heap ∧ s'.os = s₁.os ∧ AllBare s'.gens) s₁) :
    WalkO q loose XP YP l.row.toRowW d [] (fun f vs => PySem.call f vs) := by
  intro w s₀ s₁ mg mb G Y fa o pm cd doc dV kV ho hd hcd hD hmg hg args vals as hpre hlay hrd hwl hlo
  obtain rfl : dV = .none := Dflts.none hD hdf
  obtain rfl : kV = .none := Dflts.noKw hD
  obtain ⟨a, vs, ns, rfl, rfl, hobj, hints, hlen⟩ := script_of hn hpre hwl
  refine enter_call (codeAny_mono (call w s₀ s₁ mg mb fa o pm cd doc a vs ns G Y ho (fd_plain hd) hcd hmg hobj hints hlen hg) fun r s' hq => ?_)
  obtain ⟨rfl, h2, h3, h4⟩ := hq
  exact ⟨.inl ⟨.bool true, .bool true, [], rfl, fun _ => rfl, .bool true, post_true l _, fun _ => ⟨List.Pairwise.nil, fun _ hm => (nomatch hm)⟩⟩, h2, h3, h4⟩
section
variable {prog : Program} {w : World} {A : Around} {E : Value → Shared → Prop} {s : Shared} {K : Frag}
end
end Att
namespace L2
open PySem PySem.Spec PyProof.Rows
theorem vals_ints : ∀ {vs : List Value} {ns : List Int}, IntsAre vs ns → Vals (ns.map V.int) vs
  | _, _, .nil => .nil
  | _, _, .cons n t h => .cons ⟨t, rfl⟩ (vals_ints h)
def Only (H : Hp) : Prop := ∀ b, H b = none ∨ ∃ o xs, H b = some (.frz o (.lst xs))
theorem law_call {P : Program} {w : World} {K : PySem.W.Frag} {mg mb : Str → Option Value} {CX : CXT} {k : Nat} {fa a : Addr} {fd : FuncData} {x : Str} {sp : Sp} {s₁ : Shared} {vs : List Value} {ns : List Int}
    (KX : K.In s₁.heap) (hns : s₁.heap.Ns mainGlobals mg) (hb : s₁.heap.Ns builtinsNs mb) (hbb : ∀ x : Str, x ≠ "__name__" → mb x = bootBuiltins x) (hlim : s₁.heap.NoLimit) (hg : s₁.gens = #[])
    (ha : s₁.heap.get? a = some { cls := .type "list", data := .seq vs.toArray }) (hi : IntsAre vs ns) (hl : ns.length ≤ sizeLine) (hr : Room k callerA)
    (F : ∀ base : Heap, K.In base → base.Ns mainGlobals mg → FnOk P w K mg base CX k fa fd [x] sp) (hbind : ∀ (s : Shared) (u : Value), BindsTo s fd ⟨[u], []⟩ [(x, u)])
    (hsp : ∀ H : Hp, Only H → SqL K H a (ns.map V.int) → sp [.ref a] H (fun v _ => v = .bl true) fun _ _ _ => False)
    (hCX : ∀ H e s', CX [] H s₁ (fun _ _ _ => False) e s' → False) :
    codeAny (model P w) callerA (.call (.ref fa) ⟨[.ref a], []⟩) (fun r s' => r = .ok (.ret (.bool true)) ∧ OldK s₁.heap s'.heap ∧ s'.os = s₁.os ∧ AllBare s'.gens) s₁ := by
  have rv := vals_ints hi
  have lenV := hi.length
  have core : ∀ H : Hp, Only H → SqL K H a (ns.map V.int) → HOk P w H s₁.heap → (∀ b, H b ≠ none → b = a) → (H a ≠ none → K.lookup a = none) →
      codeAny (model P w) callerA (.call (.ref fa) ⟨[.ref a], []⟩) (fun r s' => r = .ok (.ret (.bool true)) ∧ OldK s₁.heap s'.heap ∧ s'.os = s₁.os ∧ AllBare s'.gens) s₁ := by
    intro H hO hS hok hA hK
    have base_of : ∀ {b : Addr} {o : Obj}, s₁.heap.get? b = some o → H b = none → (hidT s₁.heap H).get? b = some o := fun e n => hidT_get e n
    have noA : ∀ {b : Addr} {o : Obj} {es : Array DictEntry} {ep : Nat}, s₁.heap.get? b = some o → o.data = .dict es ep → H b = none := fun {b o es ep} e d => by
      cases q : H b with
      | none => rfl
      | some u =>
        have e' : b = a := hA b (by rw [q]; simp)
        subst e'
        rw [ha] at e; cases e
        have d' : Data.seq vs.toArray _ = Data.dict es ep := d
        cases d'
    have nsK : ∀ {b : Addr} {m : Str → Option Value}, s₁.heap.Ns b m → (hidT s₁.heap H).Ns b m := fun {b m} ⟨o, es, ep, e, d, r⟩ => ⟨o, es, ep, base_of e (noA e d), d, r⟩
    have hKb : K.In (hidT s₁.heap H) := fun b o e => base_of (KX b o e) (by
      cases q : H b with
      | none => rfl
      | some u =>
        have e' : b = a := hA b (by rw [q]; simp)
        subst e'
        rw [hK (by rw [q]; simp)] at e; cases e)
    have hM : Mod K mg (hidT s₁.heap H) := ⟨hKb, nsK hns, ⟨mb, nsK hb, hbb⟩, let ⟨mc, h1, h2⟩ := hlim; ⟨mc, nsK h1, h2⟩⟩
    have e0 : Env0 P w K mg (hidT s₁.heap H) callerA [] s₁ H := ⟨rfl, hM, fun b o e => of_hidT e, Nat.le_of_eq (hidT_size _ _), trivial, fun b hb => absurd (show b ∈ ([] : List Addr) from hb) (by simp), hok, .of_eq hg⟩
    refine codeAny_mono ((F _ hKb (nsK hns)).run callerA [] s₁ H ⟨[.ref a], []⟩ [.ref a] [.ref a] _ _ hr e0 (hbind s₁ (.ref a)) (.cons rfl .nil) (hsp H hO hS)) fun r s' h => ?_
    cases r with
    | error e => exact (hCX H e s' h).elim
    | ok fl =>
      cases fl with
      | next => exact False.elim h
      | brk => exact False.elim h
      | cont => exact False.elim h
      | ret u =>
        obtain ⟨v, H', os, bare, un, hok', r', q⟩ := h
        have q' : v = .bl true := q
        subst q'
        obtain rfl : u = Value.bool true := r'
        refine ⟨rfl, OldK.of_keep fun b o e => ?_, os, bare⟩
        cases q : H b with
        | none => exact un.keep b o e q (by intro z; exact absurd (show b ∈ ([] : List Addr) from z) (by simp)) (by simp)
        | some u =>
          rcases hO b with z | ⟨ob, xs, z⟩
          · rw [q] at z; cases z
          · have z2 := un.frzs b ob _ z
            obtain ⟨e1, _⟩ := hok b _ z
            obtain ⟨e2, _⟩ := hok' b _ z2
            rw [e] at e1; cases e1
            exact e2
  cases hk : K.lookup a with
  | some o =>
    have e := KX a o hk
    rw [ha] at e
    cases e
    refine core (fun _ => none) (fun _ => .inl rfl) (.inr ⟨_, vs.toArray, _, hk, rfl, rfl, rfl, by rw [List.size_toArray, lenV]; exact hl, by simpa using rv⟩) (fun b u z => by have z' : (none : Option HO) = some u := z; cases z') (fun b z => absurd rfl z) fun z => absurd rfl z
  | none =>
    refine core (fun b => if b = a then some (.frz { cls := .type "list", data := .seq vs.toArray } (.lst (ns.map V.int))) else none) (fun b => ?_) (.inl (.inr ⟨{ cls := .type "list", data := .seq vs.toArray }, if_pos rfl⟩)) (fun b u z => ?_) (fun b z => ?_) fun _ => hk
    · by_cases hb : b = a
      · exact .inr ⟨_, _, if_pos hb⟩
      · exact .inl (if_neg hb)
    · by_cases hb : b = a
      · have z' := (if_pos hb).symm.trans z
        cases z'
        subst hb
        exact ⟨ha, by rw [List.length_map]; exact hl, vs, _, rv, ha⟩
      · have z' := (if_neg hb).symm.trans z
        cases z'
    · by_cases hb : b = a
      · exact hb
      · exact absurd (if_neg hb) z
end L2
namespace L2
open PySem PySem.Spec PyProof.Rows
theorem walk_of {l : PySem.W.OpenLaw} {n k : Nat} {q : Program} {loose : List Str} {XP : (Str → Option Value) → Heap → Prop} {YP : World → Heap → Prop} {d : DefRec} {K : Params → PySem.W.Frag} {CX : World → CXT} {sp : World → Sp} {x : Str}
    (hn : l.most = some n) (hn2 : n ≤ sizeLine) (hdf : d.params.defaults = []) (hr : Room k callerA)
    (hY : ∀ (w : World) (h : Heap), YP w h → (K w.params).In h)
    (F : ∀ (w : World) (mg : Str → Option Value) (fa : Addr) (h : Heap), (K w.params).In h → h.Ns mainGlobals mg → mg d.name = some (.ref fa) →
      ∃ fd : FuncData, (∀ (s : Shared) (u : Value), BindsTo s fd ⟨[u], []⟩ [(x, u)]) ∧
        ∀ base : Heap, (K w.params).In base → base.Ns mainGlobals mg → FnOk l.prog w (K w.params) mg base (CX w) k fa fd [x] (sp w))
    (hsp : ∀ (w : World) (H : Hp) (a : Addr) (ns : List Int), ns.length ≤ n → Only H → SqL (K w.params) H a (ns.map V.int) → sp w [.ref a] H (fun v _ => v = .bl true) fun _ _ _ => False)
    (hCX : ∀ (w : World) (H : Hp) (s : Shared) (e : Value) (s' : Shared), CX w [] H s (fun _ _ _ => False) e s' → False) :
    PySem.W.WalkO q loose XP YP l.row.toRowW d [] (fun f vs => PySem.call f vs) := by
  refine Att.attach_call hn hdf fun w s₀ s₁ mg mb fa o pm cd doc a vs ns G Y ho hd hcd hmg hobj hints hlen hg => ?_
  have KX := hY w _ Y
  obtain ⟨fd, hb, hF⟩ := F w mg fa _ KX G.T.g hmg
  exact law_call KX G.T.g G.T.b G.T.builtins G.T.nolimit hg hobj hints (Nat.le_trans hlen hn2) hr hF hb (fun H hO hS => hsp w H a ns hlen hO hS) fun H e s' => hCX w H s₁ e s'
end L2
/- THE LAST THEOREM (shape; LID, My.* are yours):
   My.Adr: a structure of the addresses that your layer names (classes, functions); My.Txt K t: a structure (Prop) of the equations over K;
   My.txt_mk : {K} {implicit addresses ..} (e1 : nsIn K mainGlobals "law" = some (some (.ref f))) (e2 : K.lookup f = some ⟨oc, od, .func (fnOf "law" "law" params body scope dV kV doc pm an cdv ct), sl⟩) (e3 : codeIn K cdv "law" = true) .. : ∃ t, My.Txt K t
set_option maxRecDepth 100000 in
set_option maxHeartbeats 0 in
theorem PySem.Challenge.cw_LID_holds : PySem.Challenge.rw_LID.Holds := by
  w_on; o_law; k_head; (case hw => w_witness2)
  k_fill
  refine L2.walk_of (l := PySem.Challenge.rw_LID) (n := 63) (k := 40) (x := "script") (CX := fun w => ..) (sp := fun _ => My.sp_law) rfl (by decide) rfl ⟨rfl, by decide, by decide⟩ (fun w h Y => PySem.W.kIn_of Y) ?F ?S ?C
  case F =>
    intro w mg fa h KX G hmg
    have T : ∃ t, My.Txt (L2.KOf KX) t := by
      dsimp only [L2.KOf]                          -- K must stand as «<heap const> w.params» for k_is
      refine' My.txt_mk ?e1 ?e2 ?e3 ..
      (case e1 => PySem.W.k_is)                    -- in the order: a name -> its address -> its object -> its parts
      (case e2 => PySem.W.k_is)
      ..
    obtain ⟨t, T⟩ := T
    have e0 := hmg.symm.trans (PySem.W.mg_of KX G T.law)
    cases e0                                       -- fa is the law's own address
    exact ⟨_, fun s u => .of_eq rfl, fun base kb nb => My.law_fn T kb nb⟩     -- if «.of_eq rfl» comes too early: refine' ⟨_, ?b, fun base kb nb => My.law_fn T kb nb⟩; exact fun s u => .of_eq rfl
  case S => exact fun w H a ns hl hO hS => ..
  case C => exact ..
(the tactic k_is has no namespace: write k_is) -/
namespace L2
open PySem PySem.Spec PyProof.Rows
def defArgs (s : Stmt) : Arguments := match s with
  | .FunctionDef _ a _ _ _ _ _ _ _ _ => a
  | _ => { posonlyargs := [], args := [], vararg := none, kwonlyargs := [], kw_defaults := [], kwarg := none, defaults := [] }
def defBody (s : Stmt) : List Stmt := match s with
  | .FunctionDef _ _ b _ _ _ _ _ _ _ => b
  | _ => []
def defScope (s : Stmt) : Scope := match s with
  | .FunctionDef _ _ _ _ _ _ sc _ _ _ => sc
  | _ => { kind := .function, names := [], isGenerator := false, isCoroutine := false }
abbrev CX0 : CXT := fun _ _ _ _ _ _ => False
abbrev E0 : XK := fun _ _ _ => False
theorem pass0 {X : Cx} : Passes CX0 X E0 := fun _ _ _ _ _ _ _ h => h.elim
structure Fun (K : PySem.W.Frag) (x qual : Str) (st : Stmt) (f : Addr) (fd : FuncData) : Prop where
  ex : ∃ (oc : Value) (od : Option Addr) (kV doc pm : Value) (an : Option Addr) (cdv ct : Value) (osl : Array (Option Value)),
    fd = PySem.W.fnOf x qual (defArgs st) (defBody st) (defScope st) .none kV doc pm an cdv ct ∧ K.lookup f = some ⟨oc, od, .func fd, osl⟩ ∧ PySem.W.codeIn K cdv qual = true
  kp : PySem.W.keepIn K (.ref f) = true
section
variable {P : Program} {w : World} {K : PySem.W.Frag} {mg : Str → Option Value} {base : Heap}
theorem Fun.ok {x qual : Str} {st : Stmt} {f : Addr} {fd : FuncData} {N ps : List Str} {k : Nat} {sp : Sp} (F : Fun K x qual st f fd) (S : FnScope N ps (defScope st)) (len : ∀ vs H Q E, sp vs H Q E → vs.length = ps.length)
    (hbody : ∀ (cdv : Value) (A : Around) (outer : List Env) (s : Shared) (H : Hp) (vs : List V) (Q : VK) (E : XK), Room k (A.deeper (envOfC qual (defScope st) s.heap.objs.size f cdv)) → sp vs H Q E →
      ∃ t, PSs (cxOf CX0 P w K mg base N qual (defScope st) f cdv A outer s H E).nox (defBody st) t ∧ t { nx := fun _ H' => Q .non H', rt := Q } (start N vs) H) : FnOk P w K mg base CX0 (k + 1) f fd ps sp := by
  obtain ⟨oc, od, kV, doc, pm, an, cdv, ct, osl, rfl, lk, hcd⟩ := F.ex
  refine fn_of lk hcd S len fun A outer s H vs Q E hr hsp => ?_
  obtain ⟨t, h, q⟩ := hbody cdv A outer s H vs Q E hr hsp
  exact ⟨t, h.nox, q⟩
theorem Fun.binds {x qual : Str} {st : Stmt} {f : Addr} {fd : FuncData} {ps : List Str} (F : Fun K x qual st f fd)
    (h : ∀ (kV doc pm : Value) (an : Option Addr) (cdv ct : Value) (us : List Value), us.length = ps.length → bindArgs (PySem.W.fnOf x qual (defArgs st) (defBody st) (defScope st) .none kV doc pm an cdv ct) ⟨us, []⟩ = pure (ps.zip us)) : Binds K fd ps [] := by
  obtain ⟨oc, od, kV, doc, pm, an, cdv, ct, osl, rfl, lk, hcd⟩ := F.ex
  exact .all (h kV doc pm an cdv ct)
theorem fun_mk {x qual : Str} {st : Stmt} {f : Addr} {oc : Value} {od an : Option Addr} {osl : Array (Option Value)} {kV doc pm cdv ct : Value} (l : K.lookup f = some ⟨oc, od, .func (PySem.W.fnOf x qual (defArgs st) (defBody st) (defScope st) .none kV doc pm an cdv ct), osl⟩)
    (c : PySem.W.codeIn K cdv qual = true) (k : PySem.W.keepIn K (.ref f) = true) : Fun K x qual st f (PySem.W.fnOf x qual (defArgs st) (defBody st) (defScope st) .none kV doc pm an cdv ct) := ⟨⟨oc, od, kV, doc, pm, an, cdv, ct, osl, rfl, l, c⟩, k⟩
end
section
variable {X : Cx}
theorem pv (i : Nat) {x : Str} {pos : Pos} (hN : X.N[i]? = some x := by rfl) (hv : Vis X.env.scope x := by first | exact Or.inl rfl | exact Or.inr (Or.inl rfl) | exact Or.inr (Or.inr rfl)) (hd : (x == ("__debug__" : Str)) = false := by decide)
    (hcd : (x == ("__classdict__" : Str)) = false := by decide) : PE X (.Name x pos) (tVar i) := pe_var hN hv hd hcd
end
theorem iteF {A B : Prop} (h : B) : if false = true then A else B := by
  rw [if_neg Bool.false_ne_true]
  exact h
theorem iteT {A B : Prop} (h : A) : if true = true then A else B := by
  rw [if_pos rfl]
  exact h
theorem ite2 {c A B : Prop} [Decidable c] (h1 : c → A) (h2 : ¬ c → B) : if c then A else B := by
  by_cases h : c
  · rw [if_pos h]
    exact h1 h
  · rw [if_neg h]
    exact h2 h
end L2
set_option Elab.async false
set_option linter.all false
set_option maxRecDepth 100000
namespace L2
open PySem PySem.Spec PyProof.Rows
def cloF (env : Env) : List (Str × NameKind) → List (Str × Addr) → List (Str × Addr)
  | [], acc => acc
  | (n, k) :: r, acc => if k == .free then cloF env r ((n, (env.cells.lookup n).getD 0) :: acc) else cloF env r acc
theorem clo_forIn {env : Env} (f : Str × NameKind → List (Str × Addr) → Sem (ForInStep (List (Str × Addr))))
    (hf : ∀ n k cs, f (n, k) cs = if k == .free then (do let a ← cellOf env n; pure (.yield ((n, a) :: cs))) else pure (.yield cs)) :
    ∀ (names : List (Str × NameKind)) (acc : List (Str × Addr)), (∀ x ∈ names, x.2 = .free → (env.cells.lookup x.1).isSome = true) → forIn names acc f = pure (cloF env names acc)
  | [], acc, _ => by rw [List.forIn_nil]; rfl
  | (n, k) :: r, acc, h => by
    rw [List.forIn_cons, hf]
    unfold cloF
    have hr : ∀ x ∈ r, x.2 = .free → (env.cells.lookup x.1).isSome = true := fun x hx => h x (List.mem_cons_of_mem _ hx)
    by_cases hk : (k == NameKind.free) = true
    · rw [if_pos hk, if_pos hk]
      have e := h (n, k) List.mem_cons_self (by simpa using hk)
      obtain ⟨c, hc⟩ := Option.isSome_iff_exists.mp e
      unfold cellOf
      simp only at hc
      rw [hc]
      simp only [pure_bind, Option.getD_some]
      exact clo_forIn f hf r _ hr
    · rw [if_neg hk, if_neg hk, pure_bind]
      exact clo_forIn f hf r _ hr
theorem closureFor_cells {scope : Scope} {env : Env} (h : ∀ x ∈ scope.names, x.2 = .free → (env.cells.lookup x.1).isSome = true) : closureFor scope env = pure (cloF env scope.names []) := by
  show (forIn scope.names ([] : List (Str × Addr)) _ >>= fun cs => pure cs) = _
  rw [clo_forIn (env := env) _ (fun n k cs => by cases hk : k == NameKind.free <;> simp [hk]) scope.names [] h]
  simp only [pure_bind]
theorem clo_look {env : Env} {x : Str} {c : Addr} : ∀ (names : List (Str × NameKind)) (acc : List (Str × Addr)), (∀ x ∈ names, x.2 = .free → (env.cells.lookup x.1).isSome = true) →
    (cloF env names acc).lookup x = some c → env.cells.lookup x = some c ∨ acc.lookup x = some c
  | [], _, _, e => .inr e
  | (n, k) :: r, acc, h, e => by
    unfold cloF at e
    have hr : ∀ x ∈ r, x.2 = .free → (env.cells.lookup x.1).isSome = true := fun x hx => h x (List.mem_cons_of_mem _ hx)
    by_cases hk : (k == NameKind.free) = true
    · rw [if_pos hk] at e
      rcases clo_look r _ hr e with q | q
      · exact .inl q
      · rw [List.lookup_cons] at q
        cases hb : x == n with
        | true =>
          rw [hb] at q
          have hx : x = n := by simpa using hb
          obtain ⟨c', hc⟩ := Option.isSome_iff_exists.mp (h (n, k) List.mem_cons_self (by simpa using hk))
          simp only at hc
          rw [hc] at q
          subst hx
          rw [hc]
          exact .inl (by simpa using q)
        | false => rw [hb] at q; exact .inr q
    · rw [if_neg hk] at e
      exact clo_look r _ hr e
theorem clo_some {env : Env} {x : Str} : ∀ (names : List (Str × NameKind)) (acc : List (Str × Addr)), ((x, NameKind.free) ∈ names ∨ (acc.lookup x).isSome = true) → ((cloF env names acc).lookup x).isSome = true
  | [], _, h => h.elim (fun e => nomatch e) id
  | (n, k) :: r, acc, h => by
    unfold cloF
    by_cases hk : (k == NameKind.free) = true
    · rw [if_pos hk]
      refine clo_some r _ ?_
      rcases h with h | h
      · rcases List.mem_cons.mp h with e | h
        · cases e; exact .inr (by rw [List.lookup_cons]; simp)
        · exact .inl h
      · refine .inr ?_
        rw [List.lookup_cons]
        split
        · rfl
        · exact h
    · rw [if_neg hk]
      refine clo_some r _ ?_
      rcases h with h | h
      · rcases List.mem_cons.mp h with e | h
        · cases e; exact absurd (by decide) hk
        · exact .inl h
      · exact .inr h
theorem cf_look {x : Str} {c : Addr} : ∀ (names : List (Str × NameKind)) (k : Nat) (acc : List (Str × Addr)), (cellsFrom k names acc).lookup x = some c → k ≤ c ∨ (acc.lookup x = some c ∧ (x, NameKind.cell) ∉ names)
  | [], _, _, e => .inr ⟨e, by simp⟩
  | (n, kd) :: r, k, acc, e => by
    unfold cellsFrom at e
    by_cases hk : (kd == NameKind.cell) = true
    · rw [if_pos hk] at e
      rcases cf_look r _ _ e with q | ⟨q, nr⟩
      · exact .inl (by omega)
      · rw [List.lookup_cons] at q
        cases hb : x == n with
        | true => rw [hb] at q; cases q; exact .inl (Nat.le_refl _)
        | false =>
          rw [hb] at q
          refine .inr ⟨q, fun z => ?_⟩
          rcases List.mem_cons.mp z with z | z
          · cases z; simp at hb
          · exact nr z
    · rw [if_neg hk] at e
      rcases cf_look r _ _ e with q | ⟨q, nr⟩
      · exact .inl q
      · refine .inr ⟨q, fun z => ?_⟩
        rcases List.mem_cons.mp z with z | z
        · cases z; exact hk (by simp)
        · exact nr z
theorem cf_inj : ∀ (names : List (Str × NameKind)) (k : Nat) (acc : List (Str × Addr)), (∀ p ∈ acc, p.2 < k) → (∀ p q, p ∈ acc → q ∈ acc → p.2 = q.2 → p.1 = q.1) → ∀ p q, p ∈ cellsFrom k names acc → q ∈ cellsFrom k names acc → p.2 = q.2 → p.1 = q.1
  | [], _, _, _, hi, p, q, hp, hq, e => hi p q hp hq e
  | (n, kd) :: r, k, acc, hb, hi, p, q, hp, hq, e => by
    unfold cellsFrom at hp hq
    by_cases hk : (kd == NameKind.cell) = true
    · rw [if_pos hk] at hp hq
      refine cf_inj r (k + 1) ((n, k) :: acc) (fun z hz => ?_) (fun y z hy hz e => ?_) p q hp hq e
      · rcases List.mem_cons.mp hz with rfl | hz
        · exact Nat.lt_succ_self _
        · exact Nat.lt_succ_of_lt (hb z hz)
      · rcases List.mem_cons.mp hy with hy | hy <;> rcases List.mem_cons.mp hz with hz | hz
        · rw [hy, hz]
        · subst hy; exact absurd (hb z hz) (by rw [← e]; exact Nat.lt_irrefl _)
        · subst hz; exact absurd (hb y hy) (by rw [e]; exact Nat.lt_irrefl _)
        · exact hi y z hy hz e
    · rw [if_neg hk] at hp hq
      exact cf_inj r k acc hb hi p q hp hq e
theorem cf_cell : ∀ (names : List (Str × NameKind)) (h : Heap) (acc : List (Str × Addr)) (p : Str × Addr), p ∈ cellsFrom h.objs.size names acc → p ∈ acc ∨ ((pushCells h names).IsCell p.2 none ∧ h.objs.size ≤ p.2)
  | [], _, _, _, e => .inl e
  | (n, kd) :: r, h, acc, p, e => by
    unfold cellsFrom at e
    unfold pushCells
    by_cases hk : (kd == NameKind.cell) = true
    · rw [if_pos hk] at e ⊢
      have hs : (h.push { cls := .type "cell", data := .cell none }).objs.size = h.objs.size + 1 := Heap.size_push ..
      rw [← hs] at e
      rcases cf_cell r _ _ p e with q | ⟨q, l⟩
      · rcases List.mem_cons.mp q with rfl | q
        · exact .inr ⟨Heap.IsCell.keeps ⟨_, Heap.get?_push_size _ rfl, rfl⟩ (pushCells_keeps _ _), Nat.le_refl _⟩
        · exact .inl q
      · exact .inr ⟨q, by omega⟩
    · rw [if_neg hk] at e ⊢
      exact cf_cell r h acc p e
theorem newEnv_comp {M : Model} {A : Around} {E : Value → Shared → Prop} {s : Shared} {scope : Scope} {globals : Addr} {cl : List (Str × Addr)} {qual : Str} {outer : Env} {Q : Env → Shared → Prop}
    (hQ : Q (newEnv scope s.heap.objs.size globals (cellsFrom (s.heap.objs.size + 1) scope.names cl) qual none .none (some outer) builtinsNs) { s with heap := pushCells (s.heap.push { cls := .type "dict", data := .dict #[] }) scope.names }) :
    wpAny M A (newFunctionEnv scope globals cl [] qual none .none (some outer)) Q E s := by
  simp only [newFunctionEnv, Option.isSome_some, if_true]
  refine wpAny_bind (wpAny_alloc ?_)
  refine wpAny_bind (wpAny_layCells _ (fun name kind cells => by cases hkc : kind == NameKind.cell <;> simp [hkc]) _ _ _ _ ?_)
  rw [show ({ s with heap := s.heap.push { cls := .type "dict", data := .dict #[] } } : Shared).heap.objs.size = s.heap.objs.size + 1 from Heap.size_push ..]
  rw [List.forIn_nil]
  exact wpAny_bind (wpAny_pure (wpAny_pure hQ))
theorem comp_loop {prog : Program} {w : World} {A : Around} {R : Result → Shared → Prop} {s : Shared} {elt target iter : Expr} {ifs : List Expr} {scope : Scope} {pos : Pos} {it acc : Value} {env : Env} (I : Nat → Shared → Prop)
    (turn : ∀ n s, I n s → wpAny (model prog w) A (pyNext it) (fun r s₁ => match r with
      | none => R (.ok .next) s₁
      | some v => wpAny (model prog w) A (letOwnedTupleGo target it v) (fun _ s₁' => wpAny (model prog w) A (assign target env v) (fun _ s₂ =>
          wpAny (model prog w) A (forIn ifs true fun c r => if r = true then do let ok ← isTrue c env (eval c env); pure (ForInStep.yield ok) else pure (ForInStep.yield r)) (fun ok s₃ =>
            if ok = true then wpAny (model prog w) A (eval elt env) (fun x s₄ =>
              wpAny (model prog w) A (call (.builtin "list.append") [acc, x]) (fun _ s₅ => ∃ m, m < n ∧ I m s₅) (fun _ _ => False) s₄) (fun _ _ => False) s₃
            else ∃ m, m < n ∧ I m s₃) (fun _ _ => False) s₂) (fun _ _ => False) s₁') (fun _ _ => False) s₁) (fun _ _ => False) s)
    (n : Nat) (h : I n s) :
    codeAny (model prog w) A (.compLoop (.ListComp elt [⟨target, iter, ifs, 0⟩] scope pos) 0 it acc env) R s := by
  refine codeAny_loop rfl I (fun n s hI => ?_) n h
  show wpAny _ A ((compTurn (.ListComp elt [⟨target, iter, ifs, 0⟩] scope pos) 0 it acc env).onRaise (fun x => do noteFrame x env; theTreesLotGoes x)) _ _ s
  refine wpAny_noted ?_
  rw [compTurn_list]
  refine wpAny_bind (wpAny_standAt (wpAny_bind (wpAny_mono (turn n s hI) (fun r s₁ h₁ => ?_) fun _ _ h' => h'.elim)))
  cases r with
  | none => exact wpAny_pure h₁
  | some v =>
    refine wpAny_bind (wpAny_mono h₁ (fun _ s₁' h₁' => ?_) fun _ _ h' => h'.elim)
    refine wpAny_bind (wpAny_mono h₁' (fun _ s₂ h₂ => wpAny_bind (wpAny_mono h₂ (fun ok s₃ h₃ => ?_) fun _ _ h' => h'.elim)) fun _ _ h' => h'.elim)
    cases ok with
    | false => exact wpAny_pure ⟨rfl, h₃⟩
    | true =>
      exact wpAny_bind (wpAny_bind (wpAny_mono h₃ (fun x s₄ h₄ => wpAny_bind (wpAny_mono h₄ (fun _ s₅ h₅ => wpAny_pure (wpAny_pure ⟨rfl, h₅⟩)) fun _ _ h' => h'.elim)) fun _ _ h' => h'.elim))
def compE (scope : Scope) (C : Addr) (env : Env) : Env := compEnvC scope (cellsFrom (C + 1) scope.names (cloF env scope.names [])) C env
def cxC (X : Cx) (scope : Scope) (C : Addr) (N : List Str) (fp : List Addr) (s : Shared) (H : Hp) : Cx where
  prog := X.prog
  w := X.w
  K := X.K
  mg := X.mg
  base := X.base
  A := X.A
  N := N
  s₀ := s
  H₀ := H
  env := compE scope C X.env
  outer := X.stack
  stack := X.stack
  ex := fp
  fn := fun x => decide ((x, NameKind.cell) ∈ scope.names)
  calm := X.calm
  pn := []
  xe := fun _ _ => False
def PIfs (X : Cx) (ifs : List Expr) (t : TT) : Prop :=
  ∀ (pins : List (Addr × Obj)) (s : Shared) (σ : St) (H : Hp) (Q : Bool → Hp → Prop), Inv X pins σ H s → t σ H Q →
    wpAny (model X.prog X.w) X.A (forIn ifs true fun c r => if r = true then do let ok ← isTrue c X.env (eval c X.env); pure (ForInStep.yield ok) else pure (ForInStep.yield r)) (TP X pins σ Q) X.xe s
def tYes : TT := fun _ H Q => Q true H
theorem pifs_nil {X : Cx} : PIfs X [] tYes := fun _ s σ H Q I h => wpAny_tests_nil ⟨H, I, h⟩
theorem pifs_one {X : Cx} {c : Expr} {t : TT} (h : PT X c t) : PIfs X [c] t := fun pins s σ H Q I q => wpAny_tests_one (h pins s σ H Q I q)
def blkσ (own : Nat) (cap : List Nat) (σ : St) : St := List.replicate own none ++ cap.map fun i => (σ[i]?).getD none
structure BlkOk (X : Cx) (scope : Scope) (own : List Str) (cap : List Str) (ix : List Nat) : Prop where
  kind : scope.kind = .function
  names : ∀ x ∈ scope.names, x.2 = .local → scope.names.lookup x.1 = some .local
  nd : (scope.names.map (·.1)).Nodup
  frees : ∀ x ∈ scope.names, x.2 = .free → X.env.kindOf x.1 = some .cell ∨ X.env.kindOf x.1 = some .free
  caps : ∀ (j : Nat) (x : Str), cap[j]? = some x → (x, NameKind.free) ∈ scope.names
  at' : ∀ (j : Nat) (x : Str), cap[j]? = some x → ∃ i, ix[j]? = some i ∧ X.N[i]? = some x
  len : cap.length = ix.length
theorem relabel_look {env : Env} {scope : Scope} {x : Str} {k : NameKind} (h : (relabel scope env).names.lookup x = some k) : (x, k) ∈ scope.names ∨ (k = .cell ∧ (x, NameKind.free) ∈ scope.names) := by
  have m := PySem.mem_of_lookup h
  obtain ⟨⟨n, k'⟩, hm, e⟩ := List.mem_map.mp m
  simp only at e
  split at e
  · rename_i hc
    cases e
    have : k' = NameKind.free := by simp at hc; exact hc.1.1
    subst this
    exact .inr ⟨rfl, hm⟩
  · cases e; exact .inl hm
theorem nodup_keys {names : List (Str × NameKind)} (nd : (names.map (·.1)).Nodup) {x : Str} {k k' : NameKind} (h : (x, k) ∈ names) (h' : (x, k') ∈ names) : k = k' := by
  induction names with
  | nil => cases h
  | cons p r ih =>
    rw [List.map_cons, List.nodup_cons] at nd
    rcases List.mem_cons.mp h with e | h <;> rcases List.mem_cons.mp h' with e' | h'
    · rw [← e'] at e; cases e; rfl
    · exact absurd (List.mem_map.mpr ⟨_, h', by rw [← e]⟩) nd.1
    · exact absurd (List.mem_map.mpr ⟨_, h, by rw [← e']⟩) nd.1
    · exact ih nd.2 h h'
section
variable {X : Cx} {pins : List (Addr × Obj)} {σ : St} {H : Hp} {s : Shared} {scope : Scope} {own cap : List Str} {ix : List Nat}
theorem Inv.block (I : Inv X pins σ H s) (B : BlkOk X scope own cap ix) {fp : List Addr} (hf : ∀ b ∈ fp, FpOk X pins H b) (ho : ∀ b ∈ fp, ∃ o, s.heap.get? b = some o) :
    Inv (cxC X scope s.heap.objs.size (own ++ cap) fp s H) [] (blkσ own.length ix σ) H { s with heap := pushCells (s.heap.push { cls := .type "dict", data := .dict #[] }) scope.names } := by
  have has : ∀ x ∈ scope.names, x.2 = .free → (X.env.cells.lookup x.1).isSome = true := fun x hx hk => by
    obtain ⟨c, e⟩ := I.ok.has x.1 (B.frees x hx hk)
    rw [e]; rfl
  have keep : ∀ b o, s.heap.get? b = some o → (pushCells (s.heap.push { cls := .type "dict", data := .dict #[] }) scope.names).get? b = some o := fun b o e => pushCells_keeps _ _ b o (Heap.get?_push_of_some _ e)
  have old : ∀ x c, X.env.cells.lookup x = some c → c < s.heap.objs.size := fun x c e => let ⟨v, q⟩ := I.cell x c e; q.lt
  have cs_look : ∀ x c, (cellsFrom (s.heap.objs.size + 1) scope.names (cloF X.env scope.names [])).lookup x = some c → s.heap.objs.size + 1 ≤ c ∨ (X.env.cells.lookup x = some c ∧ (x, NameKind.cell) ∉ scope.names) := fun x c e => by
    rcases cf_look _ _ _ e with q | ⟨q, nm⟩
    · exact .inl q
    · rcases clo_look _ _ has q with q | q
      · exact .inr ⟨q, nm⟩
      · cases q
  have clo_mem : ∀ p ∈ cloF X.env scope.names [], X.env.cells.lookup p.1 = some p.2 := by
    have aux : ∀ (names : List (Str × NameKind)) (acc : List (Str × Addr)), (∀ x ∈ names, x.2 = .free → (X.env.cells.lookup x.1).isSome = true) → (∀ p ∈ acc, X.env.cells.lookup p.1 = some p.2) → ∀ p ∈ cloF X.env names acc, X.env.cells.lookup p.1 = some p.2 := by
      intro names
      induction names with
      | nil => intro acc _ h p hp; exact h p hp
      | cons y r ih =>
        intro acc h h2 p hp
        obtain ⟨n, k⟩ := y
        unfold cloF at hp
        by_cases hk : (k == NameKind.free) = true
        · rw [if_pos hk] at hp
          refine ih _ (fun x hx => h x (List.mem_cons_of_mem _ hx)) (fun q hq => ?_) p hp
          rcases List.mem_cons.mp hq with rfl | hq
          · obtain ⟨c, e⟩ := Option.isSome_iff_exists.mp (h (n, k) List.mem_cons_self (by simpa using hk))
            simp only at e ⊢
            rw [e]; rfl
          · exact h2 q hq
        · rw [if_neg hk] at hp
          exact ih _ (fun x hx => h x (List.mem_cons_of_mem _ hx)) h2 p hp
    exact aux _ _ has (fun p hp => nomatch hp)
  have cinj : ∀ x y c, (cellsFrom (s.heap.objs.size + 1) scope.names (cloF X.env scope.names [])).lookup x = some c → (cellsFrom (s.heap.objs.size + 1) scope.names (cloF X.env scope.names [])).lookup y = some c → x = y := fun x y c e1 e2 =>
    cf_inj scope.names (s.heap.objs.size + 1) (cloF X.env scope.names []) (fun p hp => Nat.lt_succ_of_lt (old p.1 p.2 (clo_mem p hp)))
      (fun p q hp hq e => I.ok.inj p.1 q.1 p.2 (clo_mem p hp) (by rw [e]; exact clo_mem q hq)) (x, c) (y, c) (PySem.mem_of_lookup e1) (PySem.mem_of_lookup e2) rfl
  have ccell : ∀ x c, (cellsFrom (s.heap.objs.size + 1) scope.names (cloF X.env scope.names [])).lookup x = some c → ∃ v, (pushCells (s.heap.push { cls := .type "dict", data := .dict #[] }) scope.names).IsCell c v := fun x c e => by
    have m := PySem.mem_of_lookup e
    have hs : (s.heap.push { cls := .type "dict", data := .dict #[] }).objs.size = s.heap.objs.size + 1 := Heap.size_push ..
    rw [← hs] at m
    rcases cf_cell _ _ _ _ m with q | ⟨q, _⟩
    · obtain ⟨v, z⟩ := I.cell _ _ (clo_mem _ q)
      exact ⟨v, z.keeps keep⟩
    · exact ⟨none, q⟩
  have fplt : ∀ b ∈ fp, b < s.heap.objs.size := fun b hb => let ⟨o, e⟩ := ho b hb; Heap.lt_size e
  refine ⟨⟨I.ok.mod, ?_, I.ok.glob, I.ok.blt, Nat.le_refl _, cinj, fun x hx => ?_, fun x c hfx e => ?_, I.ok.hd, I.ok.frames, .inl rfl, fun b hb => ⟨?_, fun x c e => ?_⟩, I.bs, Nat.le_trans I.ok.bsz I.sz, fun b o e hb => ?_, fun b hb hz => ?_, I.stack, I.stkFree⟩,
    rfl, I.bare, Un.kept keep, ⟨fun _ => none, (Heap.Ns.new s.heap (.type "dict")).keeps (pushCells_keeps _ _), fun i x v h1 h2 h3 => ?_⟩, ccell, I.hok.fresh (Nat.le_refl _), fun x c e => ?_, fun p hp => absurd (show p ∈ ([] : List (Addr × Obj)) from hp) (by simp), I.hok.kept keep, ?_⟩
  · exact B.kind
  · have hx' : (relabel scope X.env).names.lookup x = some .cell ∨ (relabel scope X.env).names.lookup x = some .free := hx
    have : ((cellsFrom (s.heap.objs.size + 1) scope.names (cloF X.env scope.names [])).lookup x).isSome = true := by
      have fr : (x, NameKind.free) ∈ scope.names → ((cellsFrom (s.heap.objs.size + 1) scope.names (cloF X.env scope.names [])).lookup x).isSome = true := fun z => PySem.W.cellsFrom_some _ _ _ (.inr (clo_some _ _ (.inl z)))
      have ce : (x, NameKind.cell) ∈ scope.names → ((cellsFrom (s.heap.objs.size + 1) scope.names (cloF X.env scope.names [])).lookup x).isSome = true := fun z => by
        have aux : ∀ (names : List (Str × NameKind)) (k : Nat) (acc : List (Str × Addr)), (x, NameKind.cell) ∈ names → ((cellsFrom k names acc).lookup x).isSome = true := by
          intro names
          induction names with
          | nil => intro _ _ z; cases z
          | cons y r ih =>
            intro k acc z
            obtain ⟨n, kd⟩ := y
            unfold cellsFrom
            by_cases hk : (kd == NameKind.cell) = true
            · rw [if_pos hk]
              rcases List.mem_cons.mp z with e | z
              · cases e
                exact PySem.W.cellsFrom_some _ _ _ (.inr (by rw [List.lookup_cons]; simp))
              · exact ih _ _ z
            · rw [if_neg hk]
              rcases List.mem_cons.mp z with e | z
              · cases e; exact absurd (by decide) hk
              · exact ih _ _ z
        exact aux _ _ _ z
      rcases hx' with q | q
      · rcases relabel_look q with q | ⟨_, q⟩
        · exact ce q
        · exact fr q
      · rcases relabel_look q with q | ⟨e, _⟩
        · exact fr q
        · cases e
    exact Option.isSome_iff_exists.mp this
  · have hm : (x, NameKind.cell) ∈ scope.names := of_decide_eq_true hfx
    rcases cs_look x c e with q | ⟨_, nm⟩
    · exact Nat.le_trans (Nat.le_succ _) q
    · exact absurd hm nm
  · exact Nat.ne_of_lt (fplt b hb)
  · rcases cs_look x c e with q | ⟨q, _⟩
    · exact Nat.ne_of_gt (Nat.lt_of_lt_of_le (fplt b hb) (Nat.le_trans (Nat.le_succ _) q))
    · exact (hf b hb).2.2.2.2.1 x c q
  · rcases (hf b hb).2.2.2.1 with z | z
    · exact I.ok.noex b o e z
    · exact absurd (Nat.lt_of_lt_of_le (Heap.lt_size e) (Nat.le_trans I.ok.bsz z)) (Nat.lt_irrefl _)
  · rcases List.mem_cons.mp (I.stkSub b hz) with e | z
    · exact (hf b hb).2.1 e
    · exact (hf b hb).2.2.1 z
  · -- a captured name
    have h1 : (own ++ cap)[i]? = some x := h1
    have hi : own.length ≤ i := by
      by_cases hi : i < own.length
      · unfold blkσ at h2
        rw [List.getElem?_append_left (by simpa using hi), List.getElem?_replicate, if_pos hi] at h2
        cases h2
      · omega
    rw [List.getElem?_append_right hi] at h1
    unfold blkσ at h2
    rw [List.getElem?_append_right (by simpa using hi), List.length_replicate, List.getElem?_map] at h2
    obtain ⟨j, hj, hN⟩ := B.at' _ _ h1
    rw [hj] at h2
    simp only [Option.map_some, Option.some.injEq] at h2
    have h2' : σ[j]? = some (some v) := by
      cases q : σ[j]? with
      | none => rw [q] at h2; simp at h2
      | some o => rw [q] at h2; simp at h2; rw [h2]
    have fm := B.caps _ _ h1
    have kd := B.frees _ fm rfl
    obtain ⟨m, hn, hl⟩ := I.loc
    obtain ⟨u, r, l⟩ := hl j x v hN h2' (by rcases kd with k | k; exact .inr (.inl k); exact .inr (.inr k))
    refine ⟨u, r, .inr ?_⟩
    have cellx : ∃ c, X.env.cells.lookup x = some c ∧ s.heap.IsCell c (some u) := by
      rcases l with ⟨k, _⟩ | ⟨_, c, e, z⟩
      · simp only at kd; rw [k] at kd; rcases kd with k | k <;> cases k
      · exact ⟨c, e, z⟩
    obtain ⟨c, ec, zc⟩ := cellx
    have ncell : (x, NameKind.cell) ∉ scope.names := fun z => by have := nodup_keys B.nd z fm; cases this
    refine ⟨?_, c, ?_, zc.keeps keep⟩
    · have h3' : (relabel scope X.env).names.lookup x = some .local ∨ (relabel scope X.env).names.lookup x = some .cell ∨ (relabel scope X.env).names.lookup x = some .free := h3
      rcases h3' with q | q | q
      · rcases relabel_look q with q | ⟨e, _⟩
        · have := nodup_keys B.nd q fm; cases this
        · cases e
      · exact .inl q
      · exact .inr q
    · show (cellsFrom (s.heap.objs.size + 1) scope.names (cloF X.env scope.names [])).lookup x = some c
      obtain ⟨c', e'⟩ := Option.isSome_iff_exists.mp (PySem.W.cellsFrom_some (x := x) scope.names (s.heap.objs.size + 1) (cloF X.env scope.names []) (.inr (clo_some _ _ (.inl fm))))
      rw [e']
      rcases cf_look _ _ _ e' with q | ⟨q, _⟩
      · exfalso
        have m := PySem.mem_of_lookup e'
        have aux : ∀ (names : List (Str × NameKind)) (k : Nat) (acc : List (Str × Addr)), (x, NameKind.cell) ∉ names → (cellsFrom k names acc).lookup x = acc.lookup x := by
          intro names
          induction names with
          | nil => intro _ _ _; rfl
          | cons y r ih =>
            intro k acc nm
            obtain ⟨n, kd⟩ := y
            unfold cellsFrom
            by_cases hk : (kd == NameKind.cell) = true
            · rw [if_pos hk, ih _ _ (fun z => nm (List.mem_cons_of_mem _ z)), List.lookup_cons]
              have : (x == n) = false := by
                simp only [beq_eq_false_iff_ne]
                intro e; subst e
                have : kd = .cell := by simpa using hk
                subst this
                exact nm List.mem_cons_self
              rw [this]
            · rw [if_neg hk, ih _ _ (fun z => nm (List.mem_cons_of_mem _ z))]
        rw [aux _ _ _ ncell] at e'
        rcases clo_look _ _ has e' with z | z
        · exact absurd (Nat.lt_of_lt_of_le (old _ _ z) (Nat.le_trans (Nat.le_succ _) q)) (Nat.lt_irrefl _)
        · cases z
      · rcases clo_look _ _ has q with z | z
        · rw [ec] at z; rw [z]
        · cases z
  · rcases cs_look x c e with q | ⟨q, _⟩
    · exact I.hok.fresh (Nat.le_trans (Nat.le_succ _) q)
    · exact I.freeC x c q
  · unfold blkσ
    show _ = (own ++ cap).length
    rw [List.length_append, List.length_append, List.length_replicate, List.length_map, B.len]
end
end L2
set_option Elab.async false
set_option linter.all false
set_option maxRecDepth 100000
namespace L2
open PySem PySem.Spec PyProof.Rows
def tCompN (g : TG) (tt : TT) (te : TE) (J : It) (acc : Addr) (σ₀ : St) (H₀ : Hp) (Q : VK) : Prop :=
  ∃ W : Nat → Nat → St → Hp → Prop, (∃ m, W 0 m σ₀ (upd H₀ acc (.lst []))) ∧ ∀ i m σ' H', W i m σ' H' →
    (J.stop i H' ∧ Q (.ref acc) H') ∨
    (J.go i H' ∧ ∃ N : St → Hp → Prop, (∀ σ2 H2, N σ2 H2 → ∃ m', m' < m ∧ W (i + 1) m' σ2 H2) ∧ ∀ x H2, J.yld i H' x H2 → g x σ' H2 fun σ3 H3 => tt σ3 H3 fun b H4 =>
      if b = true then te σ3 H4 fun y H5 => ∃ ys, H5 acc = some (.lst ys) ∧ ys.length < sizeLine ∧ N σ3 (upd H5 acc (.lst (ys ++ [y]))) else N σ3 H4)
def tComp (wi : TI) (g : TG) (tt : TT) (te : TE) (own : Nat) (ix : List Nat) : TE := fun σ H Q => wi σ H fun J H1 => ∀ acc, H1 acc = none → tCompN g tt te J acc (blkσ own ix σ) H1 Q
section
variable {X : Cx} {scope : Scope} {own cap : List Str} {ix : List Nat} {tg iter elt : Expr} {ifs : List Expr} {wi : TI} {g : TG} {tt : TT} {te : TE} {pos : Pos}
theorem comp_core {pins : List (Addr × Obj)} {σ : St} {H2 : Hp} {s2 : Shared} {it : Addr} {fp : List Addr} {tn : Nat → Heap → Prop} {J : It} {Q : VK} {RR : Value → Addr → Result → Shared → Prop} {E : Value → Shared → Prop}
    (B : BlkOk X scope own cap ix) (hc : X.calm = true)
    (hb : ∀ C fp s H, PG (cxC X scope C (own ++ cap) fp s H) tg g ∧ PIfs (cxC X scope C (own ++ cap) fp s H) ifs tt ∧ PE (cxC X scope C (own ++ cap) fp s H) elt te)
    (I2 : Inv X pins σ H2 s2) (T : Turn X.prog X.w X.K tg J fp it tn) (st2 : tn 0 s2.heap) (f2 : ∀ b ∈ fp, FpOk X pins H2 b)
    (q : ∀ acc, H2 acc = none → tCompN g tt te J acc (blkσ own.length ix σ) H2 Q)
    (hRR : ∀ D C H' s' m, Inv X pins σ H' s' → Q (.ref D) H' → s'.heap.Ns C m → FpOk X pins H' C → RR (.ref D) C (.ok .next) s') :
    wpAny (model X.prog X.w) X.A (newList []) (fun acc s₃ => wpAny (model X.prog X.w) X.A (newFunctionEnv scope X.env.globals (cloF X.env scope.names []) [] X.env.qual none .none (some X.env)) (fun cenv s₄ =>
      codeAny (model X.prog X.w) X.A (.compStart (.ListComp elt [⟨tg, iter, ifs, 0⟩] scope pos) 0 (.ref it) acc { cenv with scope := relabel scope X.env }) (RR acc cenv.locals) s₄) E s₃) E s2 := by
  refine wpAny_newObj_type (newEnv_comp ?_)
  have I3 : Inv X pins σ (upd H2 s2.heap.objs.size (.lst [])) { s2 with heap := s2.heap.push { cls := .type "list", dict := none, data := .seq ([] : List Value).toArray } } := I2.lnew (its := []) (ys := []) (t' := s2.toks) .nil (Nat.zero_le _)
  obtain ⟨W, ⟨m0, w0⟩, turn⟩ := q s2.heap.objs.size I2.fresh
  generalize hD : s2.heap.objs.size = D at I3 w0 turn ⊢
  have hlt : ∀ b ∈ fp, b < D := fun b hbm => by
    obtain ⟨o, e, _⟩ := T.obj 0 _ st2 b hbm
    rw [← hD]; exact Heap.lt_size e
  generalize hs3 : ({ s2 with heap := s2.heap.push { cls := .type "list", dict := none, data := .seq ([] : List Value).toArray } } : Shared) = s3 at I3 ⊢
  have keep3 : ∀ b o, s2.heap.get? b = some o → s3.heap.get? b = some o := fun b o e => by rw [← hs3]; exact Heap.get?_push_of_some _ e
  have f3 : ∀ b ∈ fp, FpOk X pins (upd H2 D (.lst [])) b := fun b hbm => ⟨by rw [upd_ne (Nat.ne_of_lt (hlt b hbm))]; exact (f2 b hbm).1, (f2 b hbm).2⟩
  have o3 : ∀ b ∈ fp, ∃ o, s3.heap.get? b = some o := fun b hbm => let ⟨o, e, _⟩ := T.obj 0 _ st2 b hbm; ⟨o, keep3 b o e⟩
  have I4 := I3.block B f3 o3
  have st4 : tn 0 (pushCells (s3.heap.push { cls := .type "dict", data := .dict #[] }) scope.names) := T.keep 0 _ _ st2 fun b _ o e => pushCells_keeps _ _ b o (Heap.get?_push_of_some _ (keep3 b o e))
  obtain ⟨hg, hif, he⟩ := hb s3.heap.objs.size fp s3 (upd H2 D (.lst []))
  generalize hX' : cxC X scope s3.heap.objs.size (own ++ cap) fp s3 (upd H2 D (.lst [])) = X' at I4 hg hif he
  have eP : X'.prog = X.prog := by rw [← hX']; rfl
  have eW : X'.w = X.w := by rw [← hX']; rfl
  have eK : X'.K = X.K := by rw [← hX']; rfl
  have eA : X'.A = X.A := by rw [← hX']; rfl
  have eE : X'.env = compE scope s3.heap.objs.size X.env := by rw [← hX']; rfl
  have ex : X'.xe = fun _ _ => False := by rw [← hX']; rfl
  have hc' : X'.calm = true := by rw [← hX']; exact hc
  have stat : ∀ {H' : Hp}, (∀ b ∈ fp, H' b = none) → ∀ b ∈ fp, FpOk X' [] H' b := fun hn b hbm => by
    subst hX'
    exact ⟨hn b hbm, (I4.ok.exf b hbm).1, I4.ok.exfs b hbm, .inl hbm, (I4.ok.exf b hbm).2, fun p hp => absurd (show p ∈ ([] : List (Addr × Obj)) from hp) (by simp)⟩
  have loop : ∀ s4 : Shared, s4 = { s3 with heap := pushCells (s3.heap.push { cls := .type "dict", data := .dict #[] }) scope.names } →
      codeAny (model X.prog X.w) X.A (.compLoop (.ListComp elt [⟨tg, iter, ifs, 0⟩] scope pos) 0 (.ref it) (.ref D) (compE scope s3.heap.objs.size X.env)) (RR (.ref D) s3.heap.objs.size) s4 := by
    rintro s4 rfl
    refine comp_loop (fun n s' => ∃ i σ' H', Inv X' [] σ' H' s' ∧ tn i s'.heap ∧ (∀ b ∈ fp, H' b = none) ∧ W i n σ' H') ?_ m0 ⟨0, _, _, I4, st4, fun b hbm => (f3 b hbm).1, w0⟩
    rintro n s5 ⟨i, σ5, H5, I5, st5, fr5, w5⟩
    rcases turn i n σ5 H5 w5 with ⟨stop, qn⟩ | ⟨go, N, hN, step⟩
    · have := T.done X' eP eW eK hc' i [] s5 σ5 H5 (fun _ _ => False) I5 (stat fr5) st5 stop
      rw [eA] at this
      refine thn this fun r s6 ⟨hr, I6⟩ => ?_
      subst hr
      subst hX'
      have J6 : Inv X pins σ H5 s6 := I3.call' (ch := fp) I6.os I6.base I6.hok I6.bare fun b hbm => ⟨(f3 b hbm).2.2.2.1, (f3 b hbm).2.1, (f3 b hbm).2.2.2.2.1, (f3 b hbm).2.2.2.2.2⟩
      obtain ⟨m, hn, _⟩ := I6.loc
      exact hRR D _ H5 s6 m J6 qn hn (I3.fpOk (Nat.le_refl _) I6.free)
    · have := T.item X' eP eW eK hc' i [] s5 σ5 H5 (fun _ _ => False) I5 (stat fr5) st5 go
      rw [eA] at this
      refine thn this fun r s6 ⟨u, hr, h6⟩ => ?_
      subst hr
      refine thn h6 fun _ s7 ⟨x, H7, I7, r7, y7, st7, fr7⟩ => ?_
      have I7' := I7.pinned (stat fr7) (T.obj _ _ st7)
      have a1 := hg _ s7 σ5 H7 x u _ I7' r7 (step x H7 y7)
      rw [eP, eW, eA, eE, ex] at a1
      refine thn a1 fun _ s8 ⟨σ8, H8, I8, q8⟩ => ?_
      have a2 := hif _ s8 σ8 H8 _ I8 q8
      rw [eP, eW, eA, eE, ex] at a2
      refine thn a2 fun b s9 ⟨H9, I9, q9⟩ => ?_
      have again : ∀ {s' : Shared} {σ' : St} {H' : Hp}, Inv X' ([] ++ pinsAt fp s7.heap) σ' H' s' → N σ' H' → ∃ m, m < n ∧ ∃ i σ' H', Inv X' [] σ' H' s' ∧ tn i s'.heap ∧ (∀ b ∈ fp, H' b = none) ∧ W i m σ' H' := fun {s' σ' H'} I' n' => by
        obtain ⟨m', hm, w'⟩ := hN σ' H' n'
        refine ⟨m', hm, i + 1, σ', H', I'.unpinned, T.keep _ _ _ st7 fun b hbm o e => (I'.pin (b, o) (List.mem_append_right _ (List.mem_append_right _ (mem_pinsAt hbm e)))).1, fun b hbm => ?_, w'⟩
        obtain ⟨o, e, d⟩ := T.obj _ _ st7 b hbm
        exact (I'.pin (b, o) (List.mem_append_right _ (List.mem_append_right _ (mem_pinsAt hbm e)))).2.1
      cases b with
      | false => exact again I9 q9
      | true =>
        rw [if_pos rfl] at q9 ⊢
        have a3 := he _ s9 σ8 H9 _ I9 q9
        rw [eP, eW, eA, eE, ex] at a3
        refine thn a3 fun yv s10 ⟨y, H10, I10, r10, ys, hys, hz, q10⟩ => ?_
        have a4 := mt_append (X := X') _ s10 σ8 H10 (.ref D) [y] (.ref D) [yv] (fun v H' => v = .non ∧ N σ8 H') I10 rfl (.cons r10 .nil) ⟨D, ys, y, rfl, rfl, hys, hz, rfl, q10⟩
        rw [eP, eW, eA, ex] at a4
        refine thn a4 fun _ s11 ⟨_, H11, I11, _, _, q11⟩ => again I11 q11
  exact codeAny_compStart_list (loop _ rfl) (T.self X.A 0 _ _ _ st4 (loop _ rfl))
theorem pe_comp (B : BlkOk X scope own cap ix) (hc : X.calm = true) (hi : PI X tg iter wi)
    (hb : ∀ C fp s H, PG (cxC X scope C (own ++ cap) fp s H) tg g ∧ PIfs (cxC X scope C (own ++ cap) fp s H) ifs tt ∧ PE (cxC X scope C (own ++ cap) fp s H) elt te)
    (hs : ∀ x, foldedSetIterable iter X.env x = pure x := by intro _; rfl) : PE X (.ListComp elt [⟨tg, iter, ifs, 0⟩] scope pos) (tComp wi g tt te own.length ix) := by
  intro pins s σ H Q I h
  rw [eval_ListComp]
  have has : ∀ x ∈ scope.names, x.2 = .free → (X.env.cells.lookup x.1).isSome = true := fun x hx hk => by
    obtain ⟨c, e⟩ := I.ok.has x.1 (B.frees x hx hk)
    rw [e]; rfl
  refine wpAny_comprehension_free (use := none) rfl hs (closureFor_cells has) B.kind B.names ?_
  show wpAny _ _ (eval iter X.env) _ _ s
  refine thn (hi pins s σ H _ I h) fun v s1 h1 => thn h1 fun itv s2 h2 => ?_
  obtain ⟨it, fp, tn, J, H2, e, I2, T, st2, f2, q⟩ := h2
  subst e
  refine comp_core (RR := fun acc C => compPost (model X.prog X.w) X.A X.xe none (EP X pins σ Q) acc C) B hc hb I2 T st2 f2 q ?_
  intro D C H' s' m I' q' hn fC
  refine ⟨m, hn, fun h' hsb => ⟨.ref D, H', ?_, rfl, q'⟩⟩
  exact I'.turned (t' := s'.toks) (it := C) (fun b o hbC e => (hsb.2 b hbC).trans e) fC.1 fC.2.1 fC.2.2.2.1 fC.2.2.2.2.1 fC.2.2.2.2.2
theorem ps_setC {i : Nat} {y : Str} {py spos : Pos} (hN : X.N.Nodup) (hiN : X.N[i]? = some y) (hx : X.env.scope.names.lookup y = some .local) (B : BlkOk X scope own cap ix) (hc : X.calm = true) (hi : PI X tg iter wi)
    (hb : ∀ C fp s H, PG (cxC X scope C (own ++ cap) fp s H) tg g ∧ PIfs (cxC X scope C (own ++ cap) fp s H) ifs tt ∧ PE (cxC X scope C (own ++ cap) fp s H) elt te)
    (hsw : swapsWith (.ListComp elt [⟨tg, iter, ifs, 0⟩] scope pos) (some (.Name y py)) spos.line X.env = pure true := by rfl)
    (hs : ∀ x, foldedSetIterable iter X.env x = pure x := by intro _; rfl) : PS X (.Assign [.Name y py] (.ListComp elt [⟨tg, iter, ifs, 0⟩] scope pos) spos) (tAsg (tComp wi g tt te own.length ix) (gName i)) := by
  intro pins s σ H D I h
  rw [exec_Assign_Name_used _ _ _ _ hsw]
  have has : ∀ x ∈ scope.names, x.2 = .free → (X.env.cells.lookup x.1).isSome = true := fun x hx hk => by
    obtain ⟨c, e⟩ := I.ok.has x.1 (B.frees x hx hk)
    rw [e]; rfl
  refine wpAny_bind (wpAny_standAt (wpAny_bind ?_))
  show wpAny _ X.A (do let _ ← comprehension (.ListComp elt [⟨tg, iter, ifs, 0⟩] scope pos) scope X.env _ (newList []) false (eval iter X.env) (some (assign (.Name y py) X.env))) _ _ s
  refine wpAny_bind (wpAny_mono (wpAny_comprehension_free (use := some (assign (.Name y py) X.env)) (Q := fun _ s' => SP X pins D .next s') rfl hs (closureFor_cells has) B.kind B.names ?_) (fun _ s' hq => wpAny_pure (wpAny_pure hq)) fun _ _ e => e)
  refine thn (hi pins s σ H _ I h) fun v s1 h1 => thn h1 fun itv s2 h2 => ?_
  obtain ⟨it, fp, tn, J, H2, e, I2, T, st2, f2, q⟩ := h2
  subst e
  refine comp_core (RR := fun acc C => compPost (model X.prog X.w) X.A X.xe (some (assign (.Name y py) X.env)) (fun _ s' => SP X pins D .next s') acc C) B hc hb I2 T st2 f2 q ?_
  intro Da C H' s' m I' q' hn fC
  show wpAny _ X.A (assign (.Name y py) X.env (.ref Da)) _ _ s'
  obtain ⟨oC, es, ep, hoC, hdC, r⟩ := id hn
  have Ip : Inv X (pins ++ [(C, oC)]) σ H' s' := I'.pins_of fun p hp => by
    rcases List.mem_append.mp hp with z | z
    · exact I'.pin p (List.mem_append_right _ z)
    · obtain rfl : p = (C, oC) := by simpa using z
      exact ⟨hoC, fC.1, fC.2.1, fC.2.2.1, fun v e => by rw [hdC] at e; cases e⟩
  refine wpAny_assign_Name (store_ok Ip hN hiN (.inl hx) (v := .ref Da) rfl (fun s'' I'' => ?_) (.inr hx))
  have pC := (I''.pin (C, oC) (List.mem_append_right _ (List.mem_append_right _ (by simp)))).1
  refine ⟨m, ⟨oC, es, ep, pC, hdC, r⟩, fun h' hsb => ⟨_, H', ?_, q'⟩⟩
  exact I''.unpinned.turned (t' := s''.toks) (it := C) (fun b o hbC e => (hsb.2 b hbC).trans e) fC.1 fC.2.1 fC.2.2.2.1 fC.2.2.2.2.1 fC.2.2.2.2.2
end
end L2
set_option Elab.async false
set_option linter.all false
set_option maxRecDepth 100000
namespace L2
open PySem PySem.Spec PyProof.Rows
def tv : V → Bool
  | .bl b => b
  | .int i => i != 0
  | _ => false
def plainB : V → Bool
  | .bl _ => true
  | .int _ => true
  | .non => true
  | _ => false
theorem truthy_plain {prog : Program} {w : World} {A : Around} {E : Value → Shared → Prop} {s : Shared} {x : V} {v : Value} {Q : Bool → Shared → Prop} (r : RelV x v) (p : plainB x = true) (h : Q (tv x) s) : wpAny (model prog w) A (truthy v) Q E s := by
  cases x with
  | non => cases r; exact truthy_none h
  | bl b => cases r; exact wpAny_truthy_bool h
  | int i => obtain ⟨t, rfl⟩ := r; exact PySem.P.truthy_int h
  | _ => cases p
theorem all_range {xs : List V} {n : Nat} (hn : n = xs.length) (f : V → Bool) : (List.range n).all (fun i => (xs[i]?.map f).getD true) = xs.all f := by
  subst hn
  rw [Bool.eq_iff_iff]
  simp only [List.all_eq_true, List.mem_range]
  constructor
  · intro h x hx
    obtain ⟨i, hi, e⟩ := List.mem_iff_getElem.mp hx
    have := h i hi
    rw [List.getElem?_eq_getElem hi, e] at this
    simpa using this
  · intro h i hi
    rw [List.getElem?_eq_getElem hi]
    simpa using h _ (List.getElem_mem hi)
theorem any_range {xs : List V} {n : Nat} (hn : n = xs.length) (f : V → Bool) : (List.range n).any (fun i => (xs[i]?.map f).getD false) = xs.any f := by
  subst hn
  rw [Bool.eq_iff_iff]
  simp only [List.any_eq_true, List.mem_range]
  constructor
  · rintro ⟨i, hi, h⟩
    rw [List.getElem?_eq_getElem hi] at h
    exact ⟨_, List.getElem_mem hi, by simpa using h⟩
  · rintro ⟨x, hx, h⟩
    obtain ⟨i, hi, e⟩ := List.mem_iff_getElem.mp hx
    exact ⟨i, hi, by rw [List.getElem?_eq_getElem hi, e]; simpa using h⟩
section
variable {X : Cx}
theorem iter_seq {pins : List (Addr × Obj)} {σ : St} {H : Hp} {s : Shared} {p : Addr} {xs : List V} {A : Around} {E : Value → Shared → Prop} {Q : Value → Shared → Prop} (I : Inv X pins σ H s) (hA : A.handled = none) (h : SqL X.K H p xs ∨ SqT X.K H p xs)
    (k : ∀ (it : Addr) (fp wr : List Addr) (its : List Value) (St : Nat → Heap → Prop) (s2 : Shared), Vals xs its → Walks X.prog X.w A it fp wr its.length (fun i v => its[i]? = some v) St → St 0 s2.heap → (∀ b ∈ fp, b < s2.heap.objs.size) →
      (∀ h' tk, (∀ b o, b ∉ wr → s2.heap.get? b = some o → h'.get? b = some o) → Inv X pins σ H { s2 with heap := h', toks := tk }) → Q (.ref it) s2) :
    wpAny (model X.prog X.w) A (pyIter (.ref p)) Q E s := by
  rcases h with h | h
  · obtain ⟨its, rv, pl, hz⟩ := I.list h
    have hp : p < s.heap.objs.size := by obtain ⟨o, n, e, _⟩ := pl; exact Heap.lt_size e
    refine wpAny_pyIter_list pl.isList ?_
    have W := Walks.list (prog := X.prog) (w := X.w) (A := A) hA s.heap.objs.size p (Nat.ne_of_lt hp) its.toArray
    refine k s.heap.objs.size [s.heap.objs.size, p] [s.heap.objs.size] its (fun i h => h.IsListIter s.heap.objs.size p i ∧ h.IsList p its.toArray) _ rv (by simpa using W) ⟨⟨_, Heap.get?_push_size _ rfl, rfl, rfl⟩, pl.isList.push _⟩ (fun b hb => ?_) (fun h' tk hk => ?_)
    · show b < (s.heap.push _).objs.size
      rw [Heap.size_push]
      rcases List.mem_cons.mp hb with rfl | hb
      · exact Nat.lt_succ_self _
      · rcases List.mem_cons.mp hb with rfl | hb
        · exact Nat.lt_succ_of_lt hp
        · cases hb
    · exact I.kept (t' := tk) fun b o e => hk b o (fun z => Nat.lt_irrefl _ (by have := Heap.lt_size e; simp at z; rw [z] at this; exact this)) (Heap.get?_push_of_some _ e)
  · obtain ⟨its, rv, pl, hz⟩ := I.tuple h
    have hp : p < s.heap.objs.size := by obtain ⟨o, e, _⟩ := pl; exact Heap.lt_size e
    have pt : s.heap.IsTuple p its.toArray := pl
    refine wpAny_pyIter_tuple pt ?_
    have W := Walks.tuple (prog := X.prog) (w := X.w) (A := A) hA s.heap.objs.size p (Nat.ne_of_lt hp) its.toArray
    refine k s.heap.objs.size [s.heap.objs.size, p] [s.heap.objs.size] its (fun i h => h.IsTupleIter s.heap.objs.size p i ∧ h.IsTuple p its.toArray) _ rv (by simpa using W) ⟨⟨_, Heap.get?_push_size _ rfl, rfl, rfl⟩, ?_⟩ (fun b hb => ?_) (fun h' tk hk => ?_)
    · obtain ⟨o, e, r⟩ := pt
      exact ⟨o, Heap.get?_push_of_some _ e, r⟩
    · show b < (s.heap.push _).objs.size
      rw [Heap.size_push]
      rcases List.mem_cons.mp hb with rfl | hb
      · exact Nat.lt_succ_self _
      · rcases List.mem_cons.mp hb with rfl | hb
        · exact Nat.lt_succ_of_lt hp
        · cases hb
    · exact I.kept (t' := tk) fun b o e => hk b o (fun z => Nat.lt_irrefl _ (by have := Heap.lt_size e; simp at z; rw [z] at this; exact this)) (Heap.get?_push_of_some _ e)
theorem Vals.at {xs : List V} {us : List Value} {i : Nat} {v : Value} (r : Vals xs us) (e : us[i]? = some v) : ∃ x, xs[i]? = some x ∧ RelV x v := by
  have hi : i < us.length := (List.getElem?_eq_some_iff.mp e).1
  have hx : i < xs.length := by rw [r.length]; exact hi
  obtain ⟨u, h1, h2⟩ := r.get (List.getElem?_eq_getElem hx)
  rw [e] at h1; cases h1
  exact ⟨_, List.getElem?_eq_getElem hx, h2⟩
theorem call_all (hc : X.calm = true) : CallR X (.builtin "all") (fun xs H Q => ∃ p ys, xs = [.ref p] ∧ (SqL X.K H p ys ∨ SqT X.K H p ys) ∧ ys.all plainB = true ∧ Q (.bl (ys.all tv)) H) := by
  intro pins s σ H xs us Q I r h
  obtain ⟨p, ys, rfl, hs, hp, q⟩ := h
  obtain ⟨u, rfl, ru⟩ := vals1 r
  cases ru
  refine call_all_walk (iter_seq I (A := X.A.in1) (I.ok.hd hc) hs fun it fp wr its St s2 rv W st hfp hk => ?_)
  refine ⟨it, fp, wr, its.length, _, St, (fun i => (ys[i]?.map tv).getD true), rfl, W, st, fun i v s' Q' E' hv hq => ?_, fun h' tk kk => ⟨.bl (ys.all tv), H, hk h' tk kk, ?_, q⟩⟩
  · obtain ⟨x, ex, rx⟩ := rv.at hv
    simp only [ex, Option.map_some, Option.getD_some] at hq
    exact truthy_plain rx (List.all_eq_true.mp hp x (List.mem_of_getElem? ex)) hq
  · rw [all_range rv.length.symm]; rfl
theorem call_any (hc : X.calm = true) : CallR X (.builtin "any") (fun xs H Q => ∃ p ys, xs = [.ref p] ∧ (SqL X.K H p ys ∨ SqT X.K H p ys) ∧ ys.all plainB = true ∧ Q (.bl (ys.any tv)) H) := by
  intro pins s σ H xs us Q I r h
  obtain ⟨p, ys, rfl, hs, hp, q⟩ := h
  obtain ⟨u, rfl, ru⟩ := vals1 r
  cases ru
  refine call_any_walk (iter_seq I (A := X.A.in1) (I.ok.hd hc) hs fun it fp wr its St s2 rv W st hfp hk => ?_)
  refine ⟨it, fp, wr, its.length, _, St, (fun i => (ys[i]?.map tv).getD false), rfl, W, st, fun i v s' Q' E' hv hq => ?_, fun h' tk kk => ⟨.bl (ys.any tv), H, hk h' tk kk, ?_, q⟩⟩
  · obtain ⟨x, ex, rx⟩ := rv.at hv
    simp only [ex, Option.map_some, Option.getD_some] at hq
    exact truthy_plain rx (List.all_eq_true.mp hp x (List.mem_of_getElem? ex)) hq
  · rw [any_range rv.length.symm]; rfl
theorem preSum_take (ns : List Int) : ∀ k, k ≤ ns.length → preSum (fun i => (ns[i]?).getD 0) k = (ns.take k).sum
  | 0, _ => by simp [preSum]
  | k + 1, h => by
    have hk : k < ns.length := h
    rw [preSum, preSum_take ns k (Nat.le_of_lt hk), List.getElem?_eq_getElem hk]
    have e : ns.take (k + 1) = ns.take k ++ [ns[k]] := by rw [List.take_add_one, List.getElem?_eq_getElem hk]; rfl
    rw [e, List.sum_append]
    simp
theorem call_sum (hc : X.calm = true) : CallR X (.builtin "sum") (fun xs H Q => ∃ (p : Addr) (ns : List Int), xs = [.ref p] ∧ (SqL X.K H p (ns.map V.int) ∨ SqT X.K H p (ns.map V.int)) ∧ Q (.int ns.sum) H) := by
  intro pins s σ H xs us Q I r h
  obtain ⟨p, ns, rfl, hs, q⟩ := h
  obtain ⟨u, rfl, ru⟩ := vals1 r
  cases ru
  refine call_sum_walkG (iter_seq I (A := X.A.in1) (I.ok.hd hc) hs fun it fp wr its St s2 rv W st hfp hk => ?_)
  refine ⟨it, fp, wr, its.length, _, St, (fun i => (ns[i]?).getD 0), rfl, W, st, hfp, fun i v hv => ?_, fun h' tk t' kk => ⟨.int ns.sum, H, hk h' tk kk, ⟨t', ?_⟩, q⟩⟩
  · obtain ⟨x, ex, rx⟩ := rv.at hv
    rw [List.getElem?_map] at ex
    cases e : ns[i]? with
    | none => rw [e] at ex; cases ex
    | some n =>
      rw [e] at ex
      cases ex
      simp only [e, Option.getD_some]
      exact rx
  · have hl : its.length = ns.length := by rw [← rv.length, List.length_map]
    rw [hl, preSum_take ns _ (Nat.le_refl _), List.take_length]
end
def tIsi (K : PySem.W.Frag) (c : Value) (te : TE) : TE := fun σ H Q => te σ H fun x H1 => ∃ t b, TyOf K H1 x t ∧ PySem.W.kitOne K t c = some b ∧ Q (.bl b) H1
section
variable {X : Cx} {e : Expr} {te : TE}
theorem spl2 {a b : Expr} {ta : TE} {pos : Pos} {pins : List (Addr × Obj)} {s : Shared} {σ : St} {H : Hp} {Q : List Value → Shared → Prop} (ha : PE X a ta) (I : Inv X pins σ H s) {R : V → Hp → Prop} (h : ta σ H R)
    (hs : starEach [a, b] X.env = [(false, eval a X.env), (false, eval b X.env)]) (k : ∀ u s1 x H1, Inv X pins σ H1 s1 → RelV x u → R x H1 → wpAny (model X.prog X.w) X.A (eval b X.env) (fun v s2 => Q [u, v] s2) X.xe s1) :
    wpAny (model X.prog X.w) X.A (spliced (backTo pos (starEach [a, b] X.env))) Q X.xe s := by
  rw [hs]
  refine Calls.spliced_cons (thn (ha pins s σ H _ I h) fun u s1 ⟨x, H1, I1, r, q⟩ => ?_)
  exact Calls.spliced_cons (thn (k u s1 x H1 I1 r q) fun v s2 h2 => Calls.spliced_nil h2)
theorem pe_isiB {T : Str} {n : String} {p p2 pos : Pos} (he : PE X e te) (hg : Gl X "isinstance") (hm : X.mg "isinstance" = none) (hgT : Gl X T) (hmT : X.mg T = none) (hv : bootBuiltins T = some (.type n))
    (hb : bootBuiltins "isinstance" = some (.builtin "isinstance")) (hnT : T ≠ "__name__" := by decide) (hdT : (T == ("__debug__" : Str)) = false := by decide)
    (hs : starEach [e, .Name T p2] X.env = [(false, eval e X.env), (false, eval (.Name T p2) X.env)] := by rfl)
    (hpl : (backTo pos (starEach [.Name T p2] X.env)).any (·.1) = false := by rfl) : PE X (.Call (.Name "isinstance" p) [e, .Name T p2] [] pos) (tIsi X.K (.type n) te) := by
  intro pins s σ H Q I h
  refine Call_ (ld_blt I hg hm hb (PyProof.Rows.callWith_builtin1 (spl2 (Q := fun us s1 => wpAny (model X.prog X.w) X.A (call (.builtin "isinstance") us) (EP X pins σ Q) X.xe s1) he I h hs fun u s1 x H1 I1 r q => ?_) ?_ hpl))
  · refine ld_blt I1 hgT hmT hv ?_ hnT hdT
    obtain ⟨t, b, ty, ek, q⟩ := q
    exact isinst_ok I1 r ty ek fun tk => ⟨.bl b, H1, I1.tok tk, rfl, q⟩
  · rw [hs]; rfl
end
mutual
inductive DtV (K : PySem.W.Frag) (H : Hp) : V → PyData → Prop
  | non : DtV K H .non .none
  | bl (b : Bool) : DtV K H (.bl b) (.bool b)
  | int (i : Int) : DtV K H (.int i) (.int i)
  | str (x : Str) (ok : (PyData.str x).canLay0 = true) : DtV K H (.str x) (.str x)
  | lst {a : Addr} {xs : List V} {ds : List PyData} : SqL K H a xs → DtVs K H xs ds → DtV K H (.ref a) (.list ds)
  | tup {a : Addr} {xs : List V} {ds : List PyData} : SqT K H a xs → DtVs K H xs ds → DtV K H (.ref a) (.tuple ds)
inductive DtVs (K : PySem.W.Frag) (H : Hp) : List V → List PyData → Prop
  | nil : DtVs K H [] []
  | cons {x : V} {xs : List V} {d : PyData} {ds : List PyData} : DtV K H x d → DtVs K H xs ds → DtVs K H (x :: xs) (d :: ds)
end
section
variable {X : Cx} {pins : List (Addr × Obj)} {σ : St} {H : Hp} {s : Shared}
mutual
theorem DtV.reads (I : Inv X pins σ H s) : ∀ {x : V} {d : PyData} {u : Value}, DtV X.K H x d → RelV x u → ∃ as, Reads s.heap u d as
  | _, _, _, .non, r => by cases r; exact ⟨_, .none⟩
  | _, _, _, .bl b, r => by cases r; exact ⟨_, .bool b⟩
  | _, _, _, .int i, r => by obtain ⟨t, rfl⟩ := r; exact ⟨_, .int i t⟩
  | _, _, _, .str x _, r => by obtain ⟨t, rfl⟩ := r; exact ⟨_, .str x t⟩
  | _, _, _, .lst hq h, r => by
    cases r
    obtain ⟨its, rv, ⟨o, n, e, c, _, d⟩, _⟩ := I.list hq
    obtain ⟨as, ra⟩ := DtVs.reads I h rv
    exact ⟨_, .list e c d (by simpa using ra)⟩
  | _, _, _, .tup hq h, r => by
    cases r
    obtain ⟨its, rv, ⟨o, e, c, n, d⟩, _⟩ := I.tuple hq
    obtain ⟨as, ra⟩ := DtVs.reads I h rv
    exact ⟨_, .tuple e c d (by simpa using ra)⟩
theorem DtVs.reads (I : Inv X pins σ H s) : ∀ {xs : List V} {ds : List PyData} {us : List Value}, DtVs X.K H xs ds → Vals xs us → ∃ as, ReadsAll s.heap us ds as
  | _, _, _, .nil, r => by cases r; exact ⟨_, .nil⟩
  | _, _, _, .cons h t, r => by
    cases r with
    | cons r1 r2 =>
      obtain ⟨as, ra⟩ := DtV.reads I h r1
      obtain ⟨bs, rb⟩ := DtVs.reads I t r2
      exact ⟨_, .cons ra rb⟩
end
mutual
theorem DtV.lay {K : PySem.W.Frag} : ∀ {x : V} {d : PyData}, DtV K H x d → d.canLay0 = true
  | _, _, .non => rfl
  | _, _, .bl b => rfl
  | _, _, .int i => rfl
  | _, _, .str x ok => ok
  | _, _, .lst hq h => by have := DtVs.lay h; simpa [PyData.canLay0] using this
  | _, _, .tup hq h => by have := DtVs.lay h; simpa [PyData.canLay0] using this
theorem DtVs.lay {K : PySem.W.Frag} : ∀ {xs : List V} {ds : List PyData}, DtVs K H xs ds → PyData.canLayAll0 ds = true
  | _, _, .nil => rfl
  | _, _, .cons h t => by have h1 := DtV.lay h; have h2 := DtVs.lay t; simp [PyData.canLayAll0, h1, h2]
end
end
section
variable {X : Cx}
def rEqD (K : PySem.W.Frag) : R2 := fun x y H Q => ∃ dx dy, DtV K H x dx ∧ DtV K H y dy ∧ min dx.depth dy.depth ≤ 60 ∧ Q (.bl (PyData.eqv dx dy)) H
def rNeD (K : PySem.W.Frag) : R2 := fun x y H Q => ∃ dx dy, DtV K H x dx ∧ DtV K H y dy ∧ min dx.depth dy.depth ≤ 60 ∧ Q (.bl (!PyData.eqv dx dy)) H
theorem op_eqD (hu : X.A.units + 64 < cLine) : OpR X (compareOp .Eq) (rEqD X.K) := by
  intro pins s σ H x y v u Q I rx ry h
  obtain ⟨dx, dy, hx, hy, hd, q⟩ := h
  obtain ⟨as, ra⟩ := hx.reads I rx
  obtain ⟨bs, rb⟩ := hy.reads I ry
  exact SeqAt.eqOverData X.prog X.w X.A X.xe s v u dx dy as bs _ ra rb hx.lay hy.lay (by omega) ⟨.bl (PyData.eqv dx dy), H, I, rfl, q⟩
theorem op_neD (hu : X.A.units + 64 < cLine) : OpR X (compareOp .NotEq) (rNeD X.K) := by
  intro pins s σ H x y v u Q I rx ry h
  obtain ⟨dx, dy, hx, hy, hd, q⟩ := h
  obtain ⟨as, ra⟩ := hx.reads I rx
  obtain ⟨bs, rb⟩ := hy.reads I ry
  exact SeqAt.neOverData X.prog X.w X.A X.xe s v u dx dy as bs _ ra rb hx.lay hy.lay (by omega) ⟨.bl (!PyData.eqv dx dy), H, I, rfl, q⟩
end
end L2
set_option Elab.async false
set_option linter.all false
set_option maxRecDepth 100000
namespace PySem
open AutoSeq1 (wpAny_loadPart')
theorem nextOf_tup_item {prog : Program} {w : World} {A : Around} {E : Value → Shared → Prop} {s : Shared} {it l : Addr} {i : Nat} {items} {x : Value} {Q : Value → Shared → Prop} (hit : s.heap.IsTupleIter it l i)
    (hl : s.heap.IsTuple l items) (hx : items[i]? = some x)
    (hQ : ∀ h', h'.IsTupleIter it l (i + 1) → Heap.SameBut it s.heap h' → Q x { s with heap := h' }) :
    wpAny (model prog w) A (Builtin.SmallTypes.nextOf (.ref it)) Q E s := by
  obtain ⟨o, ho, hc, hd⟩ := id hit
  obtain ⟨ol, hol, _, nl, hdl⟩ := hl
  have hty : s.TypeIs (.ref it) "tuple_iterator" := ⟨o, ho, hc⟩
  unfold Builtin.SmallTypes.nextOf
  refine wpAny_bind (wpAny_callSpecial?_slot (name := Str.ofString "__next__") hty PyProof.Rows.slot_tupleiter_next
    (wpAny_call_entry PyProof.Rows.slot_tupleiter_next hty PyProof.Rows.entry_tupleiter_next ?_ (PyProof.Rows.args_tupleiter_next _)))
  show wpAny _ _ (field (.ref it) 0 >>= _) _ _ s
  refine wpAny_bind (wpAny_field ho hd (x := .ref l) rfl ?_)
  show wpAny _ _ (if (Value.ref l == Value.none) = true then _ else _) _ _ s
  rw [if_neg (show ¬ ((Value.ref l == Value.none) = true) from Bool.false_ne_true)]
  show wpAny _ _ (field (.ref it) 1 >>= _) _ _ s
  refine wpAny_bind (wpAny_field ho hd (x := .int i 0) rfl ?_)
  show wpAny _ _ (seqItems? (.ref l) >>= _) _ _ s
  refine wpAny_bind (wpAny_seqItems hol hdl ?_)
  simp only [Int.toNat_natCast, hx]
  refine wpAny_bind (wpAny_setField ho hd (by simp) (wpAny_pure ⟨x, rfl, wpAny_pure (hQ _ ?_ (Heap.SameBut.update ..))⟩))
  exact ⟨_, Heap.get?_update_self _ ho (Obj.isFreed_of_fields (Obj.data_mapFields hd _)), (Obj.cls_mapFields ..).trans hc, by
    rw [Obj.data_mapFields hd]; simp [rawInt]⟩
theorem nextOf_tup_end {prog : Program} {w : World} {A : Around} {E : Value → Shared → Prop} {s : Shared} {it l : Addr} {i : Nat} {items} {Q : Value → Shared → Prop} (hh : A.handled = none)
    (hit : s.heap.IsTupleIter it l i) (hl : s.heap.IsTuple l items) (hx : items[i]? = none)
    (hE : ∀ h' e, Heap.ExtBut it s.heap h' → (∃ o, h'.get? e = some o ∧ o.cls = .type "StopIteration") → E (.ref e) { s with heap := h' }) :
    wpAny (model prog w) A (Builtin.SmallTypes.nextOf (.ref it)) Q E s := by
  obtain ⟨o, ho, hc, hd⟩ := id hit
  obtain ⟨ol, hol, _, nl, hdl⟩ := hl
  have hty : s.TypeIs (.ref it) "tuple_iterator" := ⟨o, ho, hc⟩
  unfold Builtin.SmallTypes.nextOf
  refine wpAny_bind (wpAny_callSpecial?_slot (name := Str.ofString "__next__") hty PyProof.Rows.slot_tupleiter_next
    (wpAny_call_entry PyProof.Rows.slot_tupleiter_next hty PyProof.Rows.entry_tupleiter_next ?_ (PyProof.Rows.args_tupleiter_next _)))
  show wpAny _ _ (field (.ref it) 0 >>= _) _ _ s
  refine wpAny_bind (wpAny_field ho hd (x := .ref l) rfl ?_)
  show wpAny _ _ (if (Value.ref l == Value.none) = true then _ else _) _ _ s
  rw [if_neg (show ¬ ((Value.ref l == Value.none) = true) from Bool.false_ne_true)]
  show wpAny _ _ (field (.ref it) 1 >>= _) _ _ s
  refine wpAny_bind (wpAny_field ho hd (x := .int i 0) rfl ?_)
  show wpAny _ _ (seqItems? (.ref l) >>= _) _ _ s
  refine wpAny_bind (wpAny_seqItems hol hdl ?_)
  simp only [Int.toNat_natCast, hx]
  refine wpAny_bind (wpAny_rule (wpAny_bind (wpAny_setField ho hd (by simp) ?_)))
  show wpAny _ _ (newExc (.type "StopIteration") [] >>= _) _ _ _
  refine wpAny_bind ?_
  simp only [newExc, newTuple]
  refine wpAny_bind (wpAny_newObj_type ?_ (by size_fits))
  refine wpAny_bind (m := firstArgMember _ _) (wpAny_of_eq (a := Value.none) (by first | rfl | (simp only [firstArgMember]; rfl)) ?_)
  refine wpAny_newObj_type ?_ (by size_fits)
  simp only [raiseNew]
  refine wpAny_bind (wpAny_handled ?_)
  first | rw [show A.in1.handled = none from hh] | rw [hh]
  refine wpAny_bind (wpAny_pure (wpAny_throw ?_))
  exact hE _ _ (((Heap.SameBut.update ..).extBut.push _).push _) ⟨_, Heap.get?_push_size _ rfl, rfl⟩
theorem Draws.tup {prog : Program} {w : World} {A : Around} (hh : A.handled = none) (it l : Addr) (hne : l ≠ it) (items : Array Value) :
    Draws prog w A it [it, l] items.size (fun i v => items[i]? = some v) (fun i h => h.IsTupleIter it l i ∧ h.IsTuple l items) where
  live := fun _ _ st => let ⟨o, ho, _⟩ := st.1; ⟨o, ho⟩
  frame := fun _ _ _ st hk => ⟨let ⟨o, e, r⟩ := st.1; ⟨o, hk it (by simp) o e, r⟩, let ⟨o, e, r⟩ := st.2; ⟨o, hk l (by simp) o e, r⟩⟩
  item := fun i s Q E hi st hQ => by
    refine nextOf_tup_item st.1 st.2 (x := items[i]) (by simp [hi]) fun h' hit' hs' => ?_
    obtain ⟨o, e, r⟩ := st.2
    exact hQ _ h' s.toks (by simp [hi]) ⟨hit', ⟨o, hs'.extBut l o hne e, r⟩⟩ hs'
  done := fun s Q E st hE => nextOf_tup_end hh st.1 st.2 (by simp) hE
set_option maxHeartbeats 1000000 in
theorem meets_enumerate_newT (l : Addr) (items : Array Value) (n : Nat) (dct : Option Addr) (sl : Array (Option Value)) :
    Meets (Builtin.«enumerate.__new__» ⟨[.type "enumerate", .ref l], []⟩) (fun _ R s => s.heap.get? l = some { cls := .type "tuple", dict := dct, data := .seq items n, slots := sl } ∧
      R (.ok (.ret (.ref (s.heap.push { cls := .type "tuple_iterator", data := .fields #[.ref l, .int 0 0] }).objs.size)))
        { s with heap := (s.heap.push { cls := .type "tuple_iterator", data := .fields #[.ref l, .int 0 0] }).push { cls := .type "enumerate", data := .fields #[.none, .bool false, .ref s.heap.objs.size, rawInt 0, .none, .none] } }) :=
  .of_wp fun prog w A R s h => by
    obtain ⟨hp, g, d, tk, os⟩ := s; obtain ⟨hl, h⟩ := h
    have hsub := sub_enumerate
    have hL : Heap.IsTuple (Shared.heap ⟨hp, g, d, tk, os⟩) l items := ⟨_, hl, rfl, n, rfl⟩
    wp_walk using wpAny_loadPart' hl
    refine wpAny_stack_any fun st => wpAny_pure ?_
    split
    · rename_i c _ _ _ _ _
      cases (c == Value.type "enumerate")
      · wp_walk using wpAny_loadPart' hl, wpAny_pyIter_tuple hL
        exact ⟨_, rfl, h⟩
      · wp_walk using wpAny_loadPart' hl, wpAny_pyIter_tuple hL
        exact ⟨_, rfl, h⟩
    · wp_walk using wpAny_loadPart' hl, wpAny_pyIter_tuple hL
      exact ⟨_, rfl, h⟩
theorem call_enumerate_tup {prog : Program} {w : World} {A : Around} {E : Value → Shared → Prop} {s : Shared} {l : Addr} {items : Array Value} {Q : Value → Shared → Prop} (hL : s.heap.IsTuple l items)
    (h : ∀ h', IsEnum h' (s.heap.objs.size + 1) s.heap.objs.size 0 .none → h'.IsTupleIter s.heap.objs.size l 0 → h'.objs.size = s.heap.objs.size + 2 →
      (∀ b o, s.heap.get? b = some o → h'.get? b = some o) → Q (.ref (s.heap.objs.size + 1)) { s with heap := h' }) :
    wpAny (model prog w) A (call (.type "enumerate") [.ref l]) Q E s := by
  obtain ⟨⟨c, dct, dt, sl⟩, hl, hc, n, hd⟩ := hL
  replace hc : c = .type "tuple" := hc
  replace hd : dt = .seq items n := hd
  subst hc hd
  refine callType_new F.called_enumerate (by decide) (F.typeCall_enumerate_1 _) (F.newCall_enumerate_1 _) (fun obj => F.args_object_init_2 obj _) F.entry_enumerate_new
    (meets_enumerate_newT l items n dct sl) ⟨hl, ?_⟩
  have hz : (s.heap.push { cls := .type "tuple_iterator", data := .fields #[.ref l, .int 0 0] }).objs.size = s.heap.objs.size + 1 := Heap.size_push ..
  show _ ∧ _
  rw [hz]
  have he : IsEnum ((s.heap.push { cls := .type "tuple_iterator", data := .fields #[.ref l, .int 0 0] }).push
      { cls := .type "enumerate", data := .fields #[.none, .bool false, .ref s.heap.objs.size, rawInt 0, .none, .none] }) (s.heap.objs.size + 1) s.heap.objs.size 0 .none := by
    have := Heap.get?_push_size (s.heap.push { cls := .type "tuple_iterator", data := .fields #[.ref l, .int 0 0] })
      (o := { cls := .type "enumerate", data := .fields #[.none, .bool false, .ref s.heap.objs.size, rawInt 0, .none, .none] }) rfl
    rw [hz] at this; exact this
  refine ⟨⟨_, he, rfl⟩, h _ he ⟨_, Heap.get?_push_of_some _ (Heap.get?_push_size _ rfl), rfl, rfl⟩ (by rw [Heap.size_push, hz]) fun b o x => Heap.get?_push_of_some _ (Heap.get?_push_of_some _ x)⟩
end PySem
namespace PySem
theorem noR_tuple_mul : fillsNumberSlot (.type "tuple") "mul" = pure false := by
  first
    | exact fillsNumberSlot_seq (id := "tuple.__mul__") (r := some (.builtin "tuple.__rmul__")) F.slot_tuple_mul.lookup (by decide +kernel) F.slot_tuple_rmul.lookup rfl
    | (unfold fillsNumberSlot; rfl)
theorem repeat_tuple : seqRepeat? (.type "tuple") = pure (some (.builtin "tuple.__mul__")) := by
  unfold seqRepeat?
  first | rfl | kernel_rfl
end PySem
set_option Elab.async false
set_option linter.all false
set_option maxRecDepth 100000
namespace PySem
open AutoSeq1 (wpAny_loadPart')
theorem int_rmul_tup (a : Int) (t : Tok) (l : Addr) (items : Array Value) (n : Nat) (dct : Option Addr) (sl : Array (Option Value)) :
    Meets (Builtin.«int.__rmul__» ⟨[.int a t, .ref l], []⟩) (fun _ R s => s.heap.get? l = some { cls := .type "tuple", dict := dct, data := .seq items n, slots := sl } ∧ R (.ok (.ret Value.notImplemented)) s) :=
  .of_wp fun prog w A R s h => by obtain ⟨hp, g, d, tk, os⟩ := s; obtain ⟨hl, h⟩ := h; wp_walk using wpAny_loadPart' hl; exact ⟨_, rfl, h⟩
set_option maxHeartbeats 2000000 in
theorem tup_mul_new (l : Addr) (items : Array Value) (n : Nat) (dct : Option Addr) (sl : Array (Option Value)) (x : Int) (u : Tok) (hne : items.isEmpty = false) (h1 : (x == 1) = false) (h2 : (decide (x < -(2 ^ 63)) || decide (x ≥ 2 ^ 63)) = false)
    (h3 : (decide (x ≤ 0) || items.isEmpty) = false) (h4 : decide ((items.size : Int) * x > (2 ^ 63 - 1) / 8) = false) (h5 : Builtin.Tuple.tupleTooMany ((items.size : Int) * x) = false) (h6 : (List.foldl (fun x1 x2 => x1 ++ x2) #[] (List.replicate x.toNat items)).size ≤ sizeLine) :
    Meets (Builtin.«tuple.__mul__» ⟨[.ref l, .int x u], []⟩) (fun _ R s => s.heap.get? l = some { cls := .type "tuple", dict := dct, data := .seq items n, slots := sl } ∧ R (.ok (.ret (Value.ref s.heap.objs.size))) { s with heap := s.heap.push { cls := Value.type "tuple", data := Data.seq (List.foldl (fun x1 x2 => x1 ++ x2) #[] (List.replicate x.toNat items)) } }) :=
  .of_wp fun prog w A R s h => by
    obtain ⟨hp, g, d, tk, os⟩ := s; obtain ⟨hl, h⟩ := h
    wp_walk using wpAny_loadPart' hl
    rw [if_neg (by rw [h2]; exact Bool.false_ne_true)]
    wp_walk using wpAny_loadPart' hl
    rw [if_neg (by rw [h3]; exact Bool.false_ne_true)]
    try dsimp only
    rw [if_neg (of_decide_eq_false h4)]
    try dsimp only
    rw [if_neg (by rw [h5]; exact Bool.false_ne_true)]
    try dsimp only
    refine wpAny_bind (wpAny_newObj_type ?_ h6)
    wp_walk
    exact ⟨_, rfl, h⟩
set_option maxHeartbeats 2000000 in
theorem tup_mul_one (l : Addr) (items : Array Value) (n : Nat) (dct : Option Addr) (sl : Array (Option Value)) (u : Tok) :
    Meets (Builtin.«tuple.__mul__» ⟨[.ref l, .int 1 u], []⟩) (fun _ R s => s.heap.get? l = some { cls := .type "tuple", dict := dct, data := .seq items n, slots := sl } ∧ R (.ok (.ret (Value.ref l))) s) :=
  .of_wp fun prog w A R s h => by
    obtain ⟨hp, g, d, tk, os⟩ := s; obtain ⟨hl, h⟩ := h
    wp_walk using wpAny_loadPart' hl
    exact ⟨_, rfl, h⟩
end PySem
namespace L2
open PySem PySem.Spec PyProof.Rows
section
variable {X : Cx}
def rRepT (K : PySem.W.Frag) : R2 := fun x y H Q => ∃ (a : Addr) (k : Int) (xs : List V), x = .ref a ∧ y = .int k ∧ SqT K H a xs ∧ xs ≠ [] ∧ 1 ≤ k ∧ xs.length * k.toNat ≤ sizeLine ∧
  (k = 1 → Q (.ref a) H) ∧ (k ≠ 1 → ∀ p, H p = none → Q (.ref p) (upd H p (.tup (List.replicate k.toNat xs).flatten)))
theorem op_repT : OpR X (binaryOp .Mult) (rRepT X.K) := by
  intro pins s σ H x y v u Q I rx ry h
  obtain ⟨a, k, xs, rfl, rfl, hH, hne, h1, hz, q1, q2⟩ := h
  cases rx
  obtain ⟨t, rfl⟩ := ry
  obtain ⟨its, r, ⟨⟨cl, dc, dt, sl⟩, e, hc, n, hd⟩, hl⟩ := I.tuple hH
  simp only at hc hd
  subst hc hd
  have hlen := r.length
  have hty : s.TypeIs (.ref a) "tuple" := ⟨_, e, rfl⟩
  refine wpAny_binaryOp_repeat_ref (T := "tuple") (U := "int") (by decide) hty (fun s' => typeIs_int s' k t) noR_tuple_mul F.fills_int_mul F.slot_int_rmul repeat_tuple F.slot_int_index.lookup
    (call_meets F.slot_int_rmul (typeIs_int s k t) F.entry_int_rmul (F.args_int_rmul_2 _ _) (int_rmul_tup k t a its.toArray n dc sl) ⟨e, rfl, hty, ?_⟩)
  have hs : sizeLine = 16777216 := sizeLine_eq
  by_cases hk : k = 1
  · subst hk
    exact call_meets F.slot_tuple_mul hty F.entry_tuple_mul (F.args_tuple_mul_2 _ _) (tup_mul_one a its.toArray n dc sl t) ⟨e, ⟨.ref a, H, I, rfl, q1 rfl⟩⟩
  · have hpos : 0 < its.length := by rw [← hlen]; exact List.length_pos_iff.mpr hne
    have hmul : (its.length : Int) * k = ((its.length * k.toNat : Nat) : Int) := by
      rw [Int.natCast_mul, Int.toNat_of_nonneg (by omega)]
    have hz' : its.length * k.toNat ≤ 16777216 := by rw [← hlen, ← hs]; exact hz
    have hkb : k.toNat ≤ 16777216 := Nat.le_trans (Nat.le_mul_of_pos_left _ hpos) hz'
    have hnew : List.foldl (fun x1 x2 => x1 ++ x2) #[] (List.replicate k.toNat its.toArray) = (List.replicate k.toNat its).flatten.toArray := by
      have := foldl_rep its k.toNat []
      rw [List.nil_append] at this
      exact this
    have hfit : (List.foldl (fun x1 x2 => x1 ++ x2) #[] (List.replicate k.toNat its.toArray)).size ≤ sizeLine := by
      rw [hnew, List.size_toArray, len_rep, hs, Nat.mul_comm]; exact hz'
    refine call_meets F.slot_tuple_mul hty F.entry_tuple_mul (F.args_tuple_mul_2 _ _) (tup_mul_new a its.toArray n dc sl k t ?_ ?_ ?_ ?_ ?_ ?_ hfit) ⟨e, ?_⟩
    · cases its with
      | nil => simp at hpos
      | cons _ _ => simp
    · simpa using hk
    · rw [decide_eq_false (by omega), decide_eq_false (by omega)]; rfl
    · rw [decide_eq_false (by omega)]
      cases its with
      | nil => simp at hpos
      | cons _ _ => simp
    · refine decide_eq_false ?_
      rw [List.size_toArray, hmul]; omega
    · show decide (_ > _) = false
      refine decide_eq_false ?_
      rw [List.size_toArray, hmul, hs]; omega
    · rw [hnew]
      refine ⟨.ref _, _, I.laid (t' := s.toks) (o := .tup (List.replicate k.toNat xs).flatten) (fun _ _ q => Heap.get?_push_of_some _ q) (Nat.le_refl _) ⟨?_, _, r.rep k.toNat, IsTup.new s.heap _⟩, rfl, q2 hk _ I.fresh⟩
      rw [len_rep, Nat.mul_comm]; exact hz
def Ite (K : PySem.W.Frag) (a : Addr) : It :=
  ⟨fun i H => ∃ xs x, SqT K H a xs ∧ xs[i]? = some x, fun i H x H' => ∃ p, H p = none ∧ x = .ref p ∧ ∀ xs, SqT K H a xs → ∃ y, xs[i]? = some y ∧ H' = upd H p (.tup [.int i, y]), fun i H => ∃ xs, SqT K H a xs ∧ xs.length ≤ i⟩
theorem Inv.turnedL {pins : List (Addr × Obj)} {σ : St} {H : Hp} {s : Shared} {h' : Heap} {t' : Nat} {ch : List Addr} (I : Inv X pins σ H s) (k : ∀ b o, b ∉ ch → s.heap.get? b = some o → h'.get? b = some o) (hf : ∀ b ∈ ch, FpOk X pins H b) :
    Inv X pins σ H { s with heap := h', toks := t' } := by
  have nit : ∀ b u, H b = some u → b ∉ ch := fun b u e z => by rw [(hf b z).1] at e; cases e
  refine I.step (g' := s.gens) (d' := s.drawn) (ch := ch) (fun b hb => ⟨(hf b hb).2.2.2.1, (hf b hb).2.1, (hf b hb).2.2.2.2.1, (hf b hb).2.2.2.2.2⟩) (fun b o _ _ hc e _ => k b o hc e) (fun b o _ _ hc e _ => ⟨o.slots, k b o hc e⟩) (fun _ _ _ _ n => n)
    (fun b o hc e => ⟨o, k b o hc e⟩) (fun _ _ e => e) (fun _ _ _ e => e) (fun b ps e => ⟨#[], by rw [e]; simp⟩) (fun m hm => ?_) (fun b u e => ?_) I.bare
  · obtain ⟨o, es, ep, ho, r⟩ := hm
    exact ⟨o, es, ep, k _ o (fun z => (hf _ z).2.1 rfl) ho, r⟩
  · refine (I.hok b u e).stay (fun c v hc q => k c v ?_ q) (fun _ q => q) fun _ _ q => q
    rcases hc with z | z
    · rw [z]; exact nit b u e
    · exact nit c _ z
theorem Inv.track {pins : List (Addr × Obj)} {σ : St} {H : Hp} {s : Shared} {p : Addr} {o : HO} (I : Inv X pins σ H s) (f : FpOk X pins H p) (new : ObjOk X.prog X.w (upd H p o) s.heap p o) : Inv X pins σ (upd H p o) s := by
  have ne : ∀ b u, H b = some u → b ≠ p := fun b u e z => by rw [z, f.1] at e; cases e
  have := I.step (g' := s.gens) (d' := s.drawn) (t' := s.toks) (h' := s.heap) (H' := upd H p o) (ch := [p]) (fun b hb => by
      obtain rfl : b = p := by simpa using hb
      exact ⟨f.2.2.2.1, f.2.1, f.2.2.2.2.1, f.2.2.2.2.2⟩) (fun b o _ _ _ e _ => e) (fun b o _ _ _ e _ => ⟨o.slots, e⟩)
    (fun b o hc _ n => by rw [upd_ne (fun z => hc (by simp [z]))]; exact n) (fun b o _ e => ⟨o, e⟩) (fun b xs e => by rw [upd_ne (ne b _ e)]; exact e) (fun b o u e => by rw [upd_ne (ne b _ e)]; exact e)
    (fun b ps e => ⟨#[], by rw [upd_ne (ne b _ e), e]; simp⟩) (fun m hm => hm) (fun b u e => by
      by_cases hb : b = p
      · subst hb; rw [upd_same] at e; cases e; exact new
      · rw [upd_ne hb] at e
        exact (I.hok b u e).stay (fun c v _ q => q) (fun c q => by rw [upd_ne (ne c _ q)]; exact q) fun c xs q => by rw [upd_ne (ne c _ q)]; exact q) I.bare
  exact this
theorem turn_enum {P : Program} {w : World} {K : PySem.W.Frag} {elts : List Expr} {kk} {pos : Pos} (a e it : Addr) (hei : e ≠ it) : Turn P w K (.Tuple elts kk pos) (Ite K a) [e, it] e (fun i h => (∃ old, IsEnum h e it (i : Nat) old) ∧ h.IsTupleIter it a i) where
  mem := by simp
  obj := fun i h st b hb => by
    obtain ⟨⟨old, he⟩, o, e1, c, d⟩ := st
    rcases List.mem_cons.mp hb with rfl | hb
    · exact ⟨_, he, fun v z => by cases z⟩
    · obtain rfl : b = it := by simpa using hb
      exact ⟨o, e1, fun v z => by rw [d] at z; cases z⟩
  keep := fun i h h' st k => by
    obtain ⟨⟨old, he⟩, o, e1, c, d⟩ := st
    exact ⟨⟨old, k e (by simp) _ he⟩, o, k it (by simp) _ e1, c, d⟩
  item := by
    intro X hP hw hK hc i pins s σ H E I hf st hg
    subst hP hw hK
    obtain ⟨xs, x, hq, hx⟩ := hg
    obtain ⟨its, rv, p, hz⟩ := I.tuple hq
    obtain ⟨u, hu, ru⟩ := rv.get hx
    obtain ⟨⟨old, he⟩, st2⟩ := st
    have pt : s.heap.IsTuple a its.toArray := p
    have hae : e ≠ a := fun z => by
      obtain ⟨o, e1, c, _⟩ := pt
      rw [← z, he] at e1; cases e1; exact absurd (show Value.type "enumerate" = Value.type "tuple" from c) (by decide)
    have hai : a ≠ it := fun z => by
      obtain ⟨o, e1, c, _⟩ := pt
      obtain ⟨o', e2, c', _⟩ := id st2
      rw [z, e2] at e1; cases e1; rw [c] at c'; exact absurd c' (by decide)
    have hlt : i < its.toArray.size := by simpa using (List.getElem?_eq_some_iff.mp hu).1
    have D := Draws.tup (prog := X.prog) (w := X.w) (A := X.A.in1) (I.ok.hd hc) it a hai its.toArray
    refine wpAny_pyNext_enum_itemD D he ⟨st2, pt⟩ hlt hei (by simp [hei, hae]) fun y h' tk hP heo hst ht hsz hk => ?_
    have hy : y = u := by
      have hP : its.toArray[i]? = some y := hP
      rw [List.getElem?_toArray, hu] at hP
      exact (Option.some.inj hP).symm
    subst hy
    refine ⟨_, rfl, ?_⟩
    refine wpAny_letOwnedTupleGo_enum heo fun h2 he2 hs2 => ?_
    replace hs2 : Heap.SameBut e h' h2 := hs2
    have hne : s.heap.objs.size ≠ e := Nat.ne_of_gt (Heap.lt_size he)
    have I1 : Inv X pins σ H { s with heap := h2, toks := tk + 1 } := I.turnedL (ch := [e, it]) (fun b o hb q => by
      have b1 : b ≠ e := fun z => hb (by simp [z])
      have b2 : b ≠ it := fun z => hb (by simp [z])
      exact hs2.extBut b o b1 (hk b o b1 b2 q)) hf
    have ht2 := hs2.extBut _ _ hne ht
    have fp : FpOk X pins H s.heap.objs.size := I.fpOk (Nat.le_refl _) I.fresh
    have I2 := I1.track (p := s.heap.objs.size) (o := .tup [.int i, x]) fp ⟨by show 2 ≤ sizeLine; decide, [.int i tk, y], .cons ⟨tk, rfl⟩ (.cons ru .nil), ⟨_, ht2, rfl, _, rfl⟩⟩
    refine ⟨.ref s.heap.objs.size, _, I2, rfl, ⟨_, I.fresh, rfl, fun ys hy => by rw [I.tuple_inj hy hq]; exact ⟨x, hx, rfl⟩⟩, ⟨⟨_, he2⟩, ?_⟩, fun b hb => ?_⟩
    · obtain ⟨⟨o, e1, c, d⟩, _⟩ := hst
      exact ⟨o, hs2.extBut _ _ (Ne.symm hei) e1, c, d⟩
    · rw [upd_ne]
      · exact (hf b hb).1
      · rcases List.mem_cons.mp hb with rfl | hb
        · exact hne.symm
        · obtain rfl : b = it := by simpa using hb
          obtain ⟨o, e1, _⟩ := st2
          exact Nat.ne_of_lt (Heap.lt_size e1)
  done := by
    intro X hP hw hK hc i pins s σ H E I hf st hg
    subst hP hw hK
    obtain ⟨xs, hq, hx⟩ := hg
    obtain ⟨its, rv, p, hz⟩ := I.tuple hq
    obtain ⟨⟨old, he⟩, st2⟩ := st
    have pt : s.heap.IsTuple a its.toArray := p
    have hai : a ≠ it := fun z => by
      obtain ⟨o, e1, c, _⟩ := pt
      obtain ⟨o', e2, c', _⟩ := id st2
      rw [z, e2] at e1; cases e1; rw [c] at c'; exact absurd c' (by decide)
    have hl := rv.length
    have hT : s.TypeIs (.ref e) "enumerate" := ⟨_, he, rfl⟩
    unfold pyNext
    refine wpAny_bind (wpAny_attempt (wpAny_callSpecial?_slot (name := Str.ofString "__next__") hT F.slot_enumerate_next
      (wpAny_call_entry F.slot_enumerate_next hT F.entry_enumerate_next ?_ (F.args_enumerate_next_1 _))))
    show wpAny _ _ (field (.ref e) 2 >>= _) _ _ _
    refine wpAny_bind (wpAny_field he rfl (x := .ref it) rfl ?_)
    refine wpAny_bind (nextOf_tup_end (A := X.A.in1) (I.ok.hd hc) st2 pt (by simp; omega) fun h' ex he' hx' => ?_)
    obtain ⟨o, ho, hc'⟩ := hx'
    refine wpAny_bind (wpAny_isInstance (T := "StopIteration") (b := true) ⟨o, ho, hc'⟩ isSubtype_stop ?_)
    exact wpAny_pure ⟨rfl, I.turnedL (t' := s.toks) (ch := [it]) (fun b o hb q => he' b o (fun z => hb (by simp [z])) q) (fun b hb => hf b (List.mem_cons_of_mem _ hb))⟩
  self := fun A i s Q E st h => by
    obtain ⟨⟨old, he⟩, _⟩ := st
    exact wpAny_pyIter_enum he h
def iEnum (K : PySem.W.Frag) (ta : TA) : TI := fun σ H R => ta σ H fun vs H1 => ∃ a, vs = [.ref a] ∧ (∃ xs, SqT K H1 a xs) ∧ R (Ite K a) H1
end
end L2
set_option Elab.async false
set_option linter.all false
set_option maxRecDepth 100000
namespace L2
open PySem PySem.Spec PyProof.Rows
def Cn (σ₀ : St) (acc : Addr) (P : List V → Hp → Prop) (σ : St) (H : Hp) : Prop := (∀ v, σ.set 0 v = σ₀.set 0 v) ∧ ∃ ys, H acc = some (.lst ys) ∧ P ys H
theorem Cn.of {σ₀ : St} {acc : Addr} {P : List V → Hp → Prop} {w : Option V} {H : Hp} {ys : List V} (h : H acc = some (.lst ys)) (p : P ys H) : Cn σ₀ acc P (σ₀.set 0 w) H := ⟨fun v => by rw [List.set_set], ys, h, p⟩
def capOk (outer : List (Str × NameKind)) (N : List Str) (scope : Scope) (cap : List Str) (ix : List Nat) : Bool :=
  (scope.kind == .function) && (scope.names.all fun x => x.2 != .local || scope.names.lookup x.1 == some .local) && decide (scope.names.map (·.1)).Nodup &&
  (scope.names.all fun x => x.2 != .free || outer.lookup x.1 == some .cell || outer.lookup x.1 == some .free) && (cap.all fun x => decide ((x, NameKind.free) ∈ scope.names)) && (cap.zip ix).all (fun p => N[p.2]? == some p.1) && cap.length == ix.length
theorem BlkOk.of {X : Cx} {scope : Scope} {own cap : List Str} {ix : List Nat} (outer : List (Str × NameKind)) (N : List Str) (hsc : X.env.scope.names = outer := by rfl) (hN : X.N = N := by rfl) (h : capOk outer N scope cap ix = true := by decide +kernel) : BlkOk X scope own cap ix := by
  unfold capOk at h
  simp only [Bool.and_eq_true, List.all_eq_true, beq_iff_eq, decide_eq_true_eq, Bool.or_eq_true, bne_iff_ne, ne_eq] at h
  obtain ⟨⟨⟨⟨⟨⟨h1, h2⟩, h3⟩, h4⟩, h5⟩, h6⟩, h7⟩ := h
  refine ⟨h1, fun x hx hl => ?_, h3, fun x hx hl => ?_, fun j x e => h5 x (List.mem_of_getElem? e), fun j x e => ?_, h7⟩
  · rcases h2 x hx with z | z
    · exact absurd hl z
    · exact z
  · show X.env.scope.names.lookup x.1 = _ ∨ X.env.scope.names.lookup x.1 = _
    rw [hsc]
    rcases h4 x hx with (z | z) | z
    · exact absurd hl z
    · exact .inl z
    · exact .inr z
  · have hj : j < cap.length := (List.getElem?_eq_some_iff.mp e).1
    have hj' : j < ix.length := by omega
    refine ⟨ix[j], List.getElem?_eq_getElem hj', ?_⟩
    rw [hN]
    have hz : (cap.zip ix)[j]? = some (x, ix[j]) := by
      rw [List.getElem?_zip_eq_some]
      exact ⟨e, List.getElem?_eq_getElem hj'⟩
    exact h6 _ (List.mem_of_getElem? hz)
section
variable {K : PySem.W.Frag} {lo : Int} {n : Nat} {tt : TT} {te : TE} {acc a : Addr} {xs : List V} {σ₀ : St} {H₀ : Hp} {Q : VK}
theorem comp_range (Pv : Nat → List V → Hp → Prop) (h0 : Pv 0 [] (upd H₀ acc (.lst [])))
    (hs : ∀ (i : Nat) ys H, i < n → H acc = some (.lst ys) → Pv i ys H → tt (σ₀.set 0 (some (.int (lo + i)))) H fun b H4 =>
      if b = true then te (σ₀.set 0 (some (.int (lo + i)))) H4 fun y H5 => ∃ zs, H5 acc = some (.lst zs) ∧ zs.length < sizeLine ∧ Cn σ₀ acc (Pv (i + 1)) (σ₀.set 0 (some (.int (lo + i)))) (upd H5 acc (.lst (zs ++ [y]))) else Cn σ₀ acc (Pv (i + 1)) (σ₀.set 0 (some (.int (lo + i)))) H4)
    (hd : ∀ ys H, H acc = some (.lst ys) → Pv n ys H → Q (.ref acc) H) : tCompN (gName 0) tt te (Itr lo n) acc σ₀ H₀ Q := by
  refine ⟨fun i m σ H => m = n - i ∧ i ≤ n ∧ Cn σ₀ acc (Pv i) σ H, ⟨n, by simp, Nat.zero_le _, fun _ => rfl, [], upd_same, h0⟩, ?_⟩
  rintro i m σ H ⟨rfl, hi, hσ, ys, hy, p⟩
  by_cases hlt : i < n
  · refine .inr ⟨hlt, Cn σ₀ acc (Pv (i + 1)), fun σ' H' c => ⟨n - (i + 1), by omega, rfl, hlt, c⟩, fun x H' y => ?_⟩
    obtain ⟨e, y⟩ := y
    subst e y
    show tt (σ.set 0 _) _ _
    rw [hσ]
    exact hs i ys _ hlt hy p
  · have e : i = n := by omega
    subst e
    exact .inl ⟨Nat.le_refl _, hd ys H hy p⟩
theorem comp_list (Pv : Nat → List V → Hp → Prop) (h0 : Pv 0 [] (upd H₀ acc (.lst []))) (hl : ∀ (i : Nat) ys H, i ≤ xs.length → H acc = some (.lst ys) → Pv i ys H → SqL K H a xs)
    (hs : ∀ (i : Nat) x ys H, xs[i]? = some x → H acc = some (.lst ys) → Pv i ys H → tt (σ₀.set 0 (some x)) H fun b H4 =>
      if b = true then te (σ₀.set 0 (some x)) H4 fun y H5 => ∃ zs, H5 acc = some (.lst zs) ∧ zs.length < sizeLine ∧ Cn σ₀ acc (Pv (i + 1)) (σ₀.set 0 (some x)) (upd H5 acc (.lst (zs ++ [y]))) else Cn σ₀ acc (Pv (i + 1)) (σ₀.set 0 (some x)) H4)
    (hd : ∀ ys H, H acc = some (.lst ys) → Pv xs.length ys H → Q (.ref acc) H) : tCompN (gName 0) tt te (Itl K a) acc σ₀ H₀ Q := by
  refine ⟨fun i m σ H => m = xs.length - i ∧ i ≤ xs.length ∧ Cn σ₀ acc (Pv i) σ H, ⟨xs.length, by simp, Nat.zero_le _, fun _ => rfl, [], upd_same, h0⟩, ?_⟩
  rintro i m σ H ⟨rfl, hi, hσ, ys, hy, p⟩
  have q := hl i ys H hi hy p
  by_cases hlt : i < xs.length
  · refine .inr ⟨⟨xs, xs[i], q, by simp [hlt]⟩, Cn σ₀ acc (Pv (i + 1)), fun σ' H' c => ⟨xs.length - (i + 1), by omega, rfl, hlt, c⟩, fun x H' y => ?_⟩
    obtain ⟨e, y⟩ := y
    subst e
    show tt (σ.set 0 _) _ _
    rw [hσ]
    exact hs i x ys _ (y xs q) hy p
  · have e : i = xs.length := by omega
    subst e
    exact .inl ⟨⟨xs, q, Nat.le_refl _⟩, hd ys H hy p⟩
theorem comp_tup (Pv : Nat → List V → Hp → Prop) (h0 : Pv 0 [] (upd H₀ acc (.lst []))) (hl : ∀ (i : Nat) ys H, i ≤ xs.length → H acc = some (.lst ys) → Pv i ys H → SqT K H a xs)
    (hs : ∀ (i : Nat) x ys H, xs[i]? = some x → H acc = some (.lst ys) → Pv i ys H → tt (σ₀.set 0 (some x)) H fun b H4 =>
      if b = true then te (σ₀.set 0 (some x)) H4 fun y H5 => ∃ zs, H5 acc = some (.lst zs) ∧ zs.length < sizeLine ∧ Cn σ₀ acc (Pv (i + 1)) (σ₀.set 0 (some x)) (upd H5 acc (.lst (zs ++ [y]))) else Cn σ₀ acc (Pv (i + 1)) (σ₀.set 0 (some x)) H4)
    (hd : ∀ ys H, H acc = some (.lst ys) → Pv xs.length ys H → Q (.ref acc) H) : tCompN (gName 0) tt te (Itt K a) acc σ₀ H₀ Q := by
  refine ⟨fun i m σ H => m = xs.length - i ∧ i ≤ xs.length ∧ Cn σ₀ acc (Pv i) σ H, ⟨xs.length, by simp, Nat.zero_le _, fun _ => rfl, [], upd_same, h0⟩, ?_⟩
  rintro i m σ H ⟨rfl, hi, hσ, ys, hy, p⟩
  have q := hl i ys H hi hy p
  by_cases hlt : i < xs.length
  · refine .inr ⟨⟨xs, xs[i], q, by simp [hlt]⟩, Cn σ₀ acc (Pv (i + 1)), fun σ' H' c => ⟨xs.length - (i + 1), by omega, rfl, hlt, c⟩, fun x H' y => ?_⟩
    obtain ⟨e, y⟩ := y
    subst e
    show tt (σ.set 0 _) _ _
    rw [hσ]
    exact hs i x ys _ (y xs q) hy p
  · have e : i = xs.length := by omega
    subst e
    exact .inl ⟨⟨xs, q, Nat.le_refl _⟩, hd ys H hy p⟩
end
end L2
set_option Elab.async false
set_option linter.all false
set_option maxRecDepth 100000
namespace L2
open PySem PySem.Spec PyProof.Rows
section
variable {X : Cx} {tg l : Expr} {tl : TE}
theorem cLen (K : PySem.W.Frag) (h : X.K = K := by rfl) : CallR X (.builtin "len") (fun xs H Q => ∃ p ys, xs = [.ref p] ∧ (SqL K H p ys ∨ SqT K H p ys) ∧ Q (.int ys.length) H) := by subst h; exact call_len_seq
end
end L2
set_option Elab.async false
set_option linter.all false
set_option maxRecDepth 100000
set_option maxHeartbeats 4000000
namespace KG
open PySem L2
theorem boot_tuple : bootBuiltins "tuple" = some (.type "tuple") := by first | rfl | kernel_rfl | decide +kernel
theorem boot_int : bootBuiltins "int" = some (.type "int") := by first | rfl | kernel_rfl | decide +kernel
theorem boot_abs : bootBuiltins "abs" = some (.builtin "abs") := by first | rfl | kernel_rfl | decide +kernel
theorem boot_max : bootBuiltins "max" = some (.builtin "max") := by first | rfl | kernel_rfl | decide +kernel
theorem boot_min : bootBuiltins "min" = some (.builtin "min") := by first | rfl | kernel_rfl | decide +kernel
theorem boot_any : bootBuiltins "any" = some (.builtin "any") := by first | rfl | kernel_rfl | decide +kernel
theorem boot_sum : bootBuiltins "sum" = some (.builtin "sum") := by first | rfl | kernel_rfl | decide +kernel
theorem boot_enumerate : bootBuiltins "enumerate" = some (.type "enumerate") := by first | rfl | kernel_rfl | decide +kernel
theorem boot_isinstance : bootBuiltins "isinstance" = some (.builtin "isinstance") := by first | rfl | kernel_rfl | decide +kernel
theorem boot_bool : bootBuiltins "bool" = some (.type "bool") := by first | rfl | kernel_rfl | decide +kernel
def Bag (H : Hp) (b : Addr) : Prop := ∃ c d : Int, H b = some (.lst [.int c, .int d])
def Kp (b : Addr) (H H' : Hp) : Prop := ∀ a o, a ≠ b → H a = some o → H' a = some o
theorem Kp.refl (b : Addr) (H : Hp) : Kp b H H := fun _ _ _ h => h
theorem Kp.trans {b : Addr} {H H1 H2 : Hp} (x : Kp b H H1) (y : Kp b H1 H2) : Kp b H H2 := fun a o n h => y a o n (x a o n h)
theorem Kp.bag {b : Addr} {H H' : Hp} {o : HO} (x : Kp b H H') : Kp b H (upd H' b o) := fun a u n h => by rw [upd_ne n]; exact x a u n h
theorem Kp.new {b p : Addr} {H H' : Hp} {o : HO} (x : Kp b H H') (hp : H' p = none) : Kp b H (upd H' p o) := fun a u n h => by rw [upd_ne (ne_of_none (x a u n h) hp)]; exact x a u n h
theorem Kp.acc {b p : Addr} {H H' : Hp} {o : HO} (x : Kp b H H') (hp : H p = none) : Kp b H (upd H' p o) := fun a u n h => by rw [upd_ne (ne_of_none h hp)]; exact x a u n h
theorem Kp.free {b p : Addr} {H H' : Hp} (x : Kp b H H') (hb : Bag H b) (hp : H' p = none) (hb' : Bag H' b) : H p = none := by
  cases q : H p with
  | none => rfl
  | some o =>
    by_cases e : p = b
    · subst e; obtain ⟨c, d, h⟩ := hb'; rw [h] at hp; cases hp
    · rw [x p o e q] at hp; cases hp
theorem Bag.new {b p : Addr} {H : Hp} {o : HO} (h : Bag H b) (hp : H p = none) : Bag (upd H p o) b := by
  obtain ⟨c, d, e⟩ := h
  exact ⟨c, d, by rw [upd_ne (ne_of_none e hp)]; exact e⟩
theorem Bag.ne {b p : Addr} {H : Hp} (h : Bag H b) (hp : H p = none) : b ≠ p := by
  obtain ⟨c, d, e⟩ := h
  exact ne_of_none e hp
def spTake : Sp := fun vs H Q _ => ∃ (b : Addr) (m : Int), vs = [.ref b, .int m] ∧ Bag H b ∧ 0 < m ∧ m < 1073741824 ∧ ∀ (r : Int) (H' : Hp), 0 ≤ r → r < m → Bag H' b → Kp b H H' → Q (.int r) H'
def spBag (K : PySem.W.Frag) : Sp := fun vs H Q _ => ∃ (a : Addr) (ns : List Int) (k : Int), vs = [.ref a, .int k] ∧ SqL K H a (ns.map V.int) ∧ 0 ≤ k ∧ k < 100 ∧ ∀ (p : Addr) (c d : Int), H p = none → Q (.ref p) (upd H p (.lst [.int c, .int d]))
structure Cal (K : PySem.W.Frag) (mg : Str → Option Value) (P : Program) (w : World) (base : Heap) (x : Str) (k : Nat) (ps : List Str) (sp : Sp) (f : Addr) (fd : FuncData) : Prop where
  ok : FnOk P w K mg base CX0 k f fd ps sp
  mg : mg x = some (.ref f)
  kp : PySem.W.keepIn K (.ref f) = true
  bd : Binds K fd ps []
theorem sz : sizeLine = 16777216 := PySem.sizeLine_eq
theorem yes_i {σ : St} {H : Hp} {A B : Hp → Prop} (h : A H) : tYes σ H (fun b H4 => if b = true then A H4 else B H4) := iteT (B := B H) h
theorem menu2 {r : Int} (h0 : 0 ≤ r) (h1 : r < 2) : ∃ m : Int, atI [V.int 3, V.int 6] r = some (.int m) ∧ 0 < m ∧ m ≤ 6 := by
  have : r = 0 ∨ r = 1 := by omega
  rcases this with rfl | rfl
  · exact ⟨3, rfl, by decide, by decide⟩
  · exact ⟨6, rfl, by decide, by decide⟩
theorem atI_ints {ns : List Int} {r : Int} (h0 : 0 ≤ r) (h1 : r < ns.length) : atI (ns.map V.int) r = some (V.int (ns.getD r.toNat 0)) ∧ ixN (ns.map V.int).length r = some r.toNat ∧ ns.getD r.toNat 0 ∈ ns := by
  have hl : r.toNat < ns.length := by omega
  have e : (ns.map V.int)[r.toNat]? = some (V.int (ns.getD r.toNat 0)) := by
    rw [List.getElem?_map, List.getElem?_eq_getElem hl]
    simp [List.getD, List.getElem?_eq_getElem hl]
  refine ⟨?_, ?_, ?_⟩
  · have := atI_nat e
    rw [Int.toNat_of_nonneg h0] at this
    exact this
  · unfold ixN
    rw [if_pos h0, if_pos (by rw [List.length_map]; exact h1)]
  · simp [List.getD, List.getElem?_eq_getElem hl]
def Tm (H H' : Hp) : Prop := ∀ a xs, H a = some (.tup xs) → H' a = some (.tup xs)
theorem Kp.tm {b : Addr} {H H' : Hp} (x : Kp b H H') (hb : Bag H b) : Tm H H' := fun a xs h => x a _ (fun z => by obtain ⟨c, d, e⟩ := hb; rw [z, e] at h; cases h) h
theorem Tm.lst {p : Addr} {H : Hp} {xs : List V} {o : HO} (h : H p = some (.lst xs)) : Tm H (upd H p o) := fun a ys e => by
  rw [upd_ne (fun z => by rw [z, h] at e; cases e)]; exact e
theorem Tm.new {p : Addr} {H : Hp} {o : HO} (h : H p = none) : Tm H (upd H p o) := fun a ys e => by rw [upd_ne (ne_of_none e h)]; exact e
theorem Tm.trans {H H1 H2 : Hp} (a : Tm H H1) (b : Tm H1 H2) : Tm H H2 := fun x xs h => b x xs (a x xs h)
theorem Bag.acc {b p : Addr} {H : Hp} {o : HO} (h : Bag H b) (hp : b ≠ p) : Bag (upd H p o) b := by
  obtain ⟨c, d, e⟩ := h
  exact ⟨c, d, by rw [upd_ne hp]; exact e⟩
theorem comp_bag {te : TE} {σ₀ : St} {acc b : Addr} {H1 : Hp} {n : Nat} {Q : VK} (hb1 : Bag H1 b) (hacc : H1 acc = none) (hn : n ≤ 100) (R : Hp → V → Prop) (hR : ∀ H H' v, Tm H H' → R H v → R H' v)
    (ht : ∀ (i : Nat) H', i < n → Bag H' b → Kp b H1 H' → ∀ (Z : V → Hp → Prop), (∀ y H5, Bag H5 b → Kp b H' H5 → R H5 y → Z y H5) → te (σ₀.set 0 (some (.int (0 + i)))) H' Z)
    (hd : ∀ ys H', Bag H' b → Kp b H1 H' → ys.length = n → (∀ y ∈ ys, R H' y) → H' acc = some (.lst ys) → Q (.ref acc) H') : tCompN (gName 0) tYes te (Itr 0 n) acc σ₀ H1 Q := by
  have nacc := hb1.ne hacc
  refine comp_range (fun i ys H' => Bag H' b ∧ Kp b H1 H' ∧ ys.length = i ∧ ∀ y ∈ ys, R H' y) ⟨hb1.new hacc, (Kp.refl b H1).new hacc, rfl, fun y hy => nomatch hy⟩ ?_ ?_
  · rintro i ys H' hi hy ⟨hb', kp', hl, hr⟩
    refine yes_i ?_
    refine ht i H' hi hb' kp' _ fun y H5 hb5 kp5 r5 => ?_
    have hy5 := kp5 acc _ nacc.symm hy
    refine ⟨ys, hy5, by rw [hl, sz]; omega, Cn.of upd_same ⟨hb5.acc nacc, (kp'.trans kp5).acc hacc, by rw [List.length_append, hl]; rfl, fun z hz => ?_⟩⟩
    have tm := Tm.lst (o := .lst (ys ++ [y])) hy5
    rcases List.mem_append.mp hz with q | q
    · exact hR _ _ z tm (hR _ _ z (kp5.tm hb') (hr z q))
    · obtain rfl : z = y := by simpa using q
      exact hR _ _ z tm r5
  · rintro ys H' hy ⟨hb', kp', hl, hr⟩
    exact hd ys H' hb' kp' hl hr hy
def Rws (H : Hp) (ws : List V) (M : List (List Int)) : Prop := Paired (fun v ns => ∃ a, v = V.ref a ∧ H a = some (.tup (List.map V.int ns))) ws M
theorem Rws.keep {H H' : Hp} {ws : List V} {M : List (List Int)} (h : Rws H ws M) (t : Tm H H') : Rws H' ws M := Paired.mapP h fun v ns ⟨a, e, q⟩ => ⟨a, e, t a _ q⟩
theorem Rws.len {H : Hp} {ws : List V} {M : List (List Int)} (h : Rws H ws M) : ws.length = M.length := Paired.length h
theorem Rws.at : ∀ {H : Hp} {ws : List V} {M : List (List Int)} {i : Nat} {x : V}, Rws H ws M → ws[i]? = some x → ∃ ns a, M[i]? = some ns ∧ x = V.ref a ∧ H a = some (.tup (List.map V.int ns))
  | _, _, _, _, _, .nil, e => by simp at e
  | _, _, _, 0, _, .cons ⟨a, h1, h2⟩ _, e => by simp at e; subst e; exact ⟨_, a, rfl, h1, h2⟩
  | _, _, _, i + 1, _, .cons _ t, e => by
    obtain ⟨ns, a, h1, h2, h3⟩ := Rws.at (i := i) t (by simpa using e)
    exact ⟨ns, a, by simpa using h1, h2, h3⟩
def Stay (H H' : Hp) : Prop := ∀ a o, H a = some o → H' a = some o
theorem Stay.refl (H : Hp) : Stay H H := fun _ _ h => h
theorem Stay.trans {H H1 H2 : Hp} (a : Stay H H1) (b : Stay H1 H2) : Stay H H2 := fun x o h => b x o (a x o h)
theorem Stay.new {H H' : Hp} {p : Addr} {o : HO} (a : Stay H H') (hp : H' p = none) : Stay H (upd H' p o) := fun x u h => by rw [upd_ne (ne_of_none (a x u h) hp)]; exact a x u h
theorem Stay.acc {H H' : Hp} {p : Addr} {o : HO} (a : Stay H H') (hp : H p = none) : Stay H (upd H' p o) := fun x u h => by rw [upd_ne (ne_of_none h hp)]; exact a x u h
theorem Stay.tm {H H' : Hp} (a : Stay H H') : Tm H H' := fun x xs h => a x _ h
theorem filter_succ (f : Nat → Bool) (n : Nat) : (List.range (n + 1)).filter f = (List.range n).filter f ++ if f n = true then [n] else [] := by
  rw [List.range_succ, List.filter_append]
  congr 1
  by_cases h : f n = true
  · simp [h]
  · simp [h]
theorem ifs_cont {c : TT} {t1 u : TS} {D : Ends} {σ : St} {H : Hp} (G : St → Hp → Prop) (hc : ∀ σ' H', G σ' H' → u D σ' H') (h : (∀ σ' H', G σ' H' → u D σ' H') → tIfS c t1 tNext { D with nx := u D } σ H) : tSeq (tIfS c t1 tNext) u D σ H := h hc
theorem Stay.kp {b : Addr} {H0 H H' : Hp} (s : Stay H0 H) (k : Kp b H H') (hb : H0 b = none) : Stay H0 H' := fun a o h => k a o (ne_of_none h hb) (s a o h)
theorem Stay.free {H0 H : Hp} {p : Addr} (s : Stay H0 H) (h : H p = none) : H0 p = none := by
  cases q : H0 p with
  | none => rfl
  | some o => rw [s p o q] at h; cases h
def spLaw (K : PySem.W.Frag) : Sp := fun vs H Q _ => ∃ (a : Addr) (ns : List Int), vs = [.ref a] ∧ SqL K H a (ns.map V.int) ∧ ns.length ≤ 63 ∧ ∀ H', Q (.bl true) H'
theorem SqL.stay {K : PySem.W.Frag} {H H' : Hp} {a : Addr} {xs : List V} (h : SqL K H a xs) (s : Stay H H') : SqL K H' a xs := by
  rcases h with (h | ⟨o, h⟩) | h
  · exact .inl (.inl (s _ _ h))
  · exact .inl (.inr ⟨o, s _ _ h⟩)
  · exact .inr h
theorem boot_list : bootBuiltins "list" = some (.type "list") := by first | rfl | kernel_rfl | decide +kernel
theorem boot_all : bootBuiltins "all" = some (.builtin "all") := by first | rfl | kernel_rfl | decide +kernel
mutual
inductive TrV (b : Addr) (H : Hp) : V → PyData → Prop
  | non : TrV b H .non .none
  | bl (c : Bool) : TrV b H (.bl c) (.bool c)
  | int (i : Int) : TrV b H (.int i) (.int i)
  | str (x : Str) (ok : (PyData.str x).canLay0 = true) : TrV b H (.str x) (.str x)
  | lst {a : Addr} {xs : List V} {ds : List PyData} : a ≠ b → H a = some (.lst xs) → TrVs b H xs ds → TrV b H (.ref a) (.list ds)
  | tup {a : Addr} {xs : List V} {ds : List PyData} : H a = some (.tup xs) → TrVs b H xs ds → TrV b H (.ref a) (.tuple ds)
inductive TrVs (b : Addr) (H : Hp) : List V → List PyData → Prop
  | nil : TrVs b H [] []
  | cons {x : V} {xs : List V} {d : PyData} {ds : List PyData} : TrV b H x d → TrVs b H xs ds → TrVs b H (x :: xs) (d :: ds)
end
mutual
theorem TrV.kp {b : Addr} {H H' : Hp} (k : Kp b H H') (hb : Bag H b) : ∀ {v : V} {d : PyData}, TrV b H v d → TrV b H' v d
  | _, _, .non => .non
  | _, _, .bl c => .bl c
  | _, _, .int i => .int i
  | _, _, .str x ok => .str x ok
  | _, _, .lst n h t => .lst n (k _ _ n h) (TrVs.kp k hb t)
  | _, _, .tup h t => .tup (k.tm hb _ _ h) (TrVs.kp k hb t)
theorem TrVs.kp {b : Addr} {H H' : Hp} (k : Kp b H H') (hb : Bag H b) : ∀ {vs : List V} {ds : List PyData}, TrVs b H vs ds → TrVs b H' vs ds
  | _, _, .nil => .nil
  | _, _, .cons h t => .cons (TrV.kp k hb h) (TrVs.kp k hb t)
end
mutual
theorem TrV.stay {b : Addr} {H H' : Hp} (k : Stay H H') : ∀ {v : V} {d : PyData}, TrV b H v d → TrV b H' v d
  | _, _, .non => .non
  | _, _, .bl c => .bl c
  | _, _, .int i => .int i
  | _, _, .str x ok => .str x ok
  | _, _, .lst n h t => .lst n (k _ _ h) (TrVs.stay k t)
  | _, _, .tup h t => .tup (k _ _ h) (TrVs.stay k t)
theorem TrVs.stay {b : Addr} {H H' : Hp} (k : Stay H H') : ∀ {vs : List V} {ds : List PyData}, TrVs b H vs ds → TrVs b H' vs ds
  | _, _, .nil => .nil
  | _, _, .cons h t => .cons (TrV.stay k h) (TrVs.stay k t)
end
mutual
theorem TrV.dt {K : PySem.W.Frag} {b : Addr} {H : Hp} : ∀ {v : V} {d : PyData}, TrV b H v d → DtV K H v d
  | _, _, .non => .non
  | _, _, .bl c => .bl c
  | _, _, .int i => .int i
  | _, _, .str x ok => .str x ok
  | _, _, .lst n h t => .lst (SqL.of h) (TrVs.dt t)
  | _, _, .tup h t => .tup (SqT.of h) (TrVs.dt t)
theorem TrVs.dt {K : PySem.W.Frag} {b : Addr} {H : Hp} : ∀ {vs : List V} {ds : List PyData}, TrVs b H vs ds → DtVs K H vs ds
  | _, _, .nil => .nil
  | _, _, .cons h t => .cons (TrV.dt h) (TrVs.dt t)
end
theorem TrVs.len {b : Addr} {H : Hp} : ∀ {vs : List V} {ds : List PyData}, TrVs b H vs ds → vs.length = ds.length
  | _, _, .nil => rfl
  | _, _, .cons _ t => congrArg (· + 1) (TrVs.len t)
theorem TrVs.at {b : Addr} {H : Hp} : ∀ {vs : List V} {ds : List PyData} {i : Nat} {x : V}, TrVs b H vs ds → vs[i]? = some x → ∃ d, ds[i]? = some d ∧ TrV b H x d
  | _, _, _, _, .nil, e => by simp at e
  | _, _, 0, _, .cons h _, e => by simp at e; subst e; exact ⟨_, rfl, h⟩
  | _, _, i + 1, _, .cons _ t, e => by
    obtain ⟨d, h1, h2⟩ := TrVs.at (i := i) t (by simpa using e)
    exact ⟨d, by simpa using h1, h2⟩
theorem TrVs.app {b : Addr} {H : Hp} : ∀ {vs ws : List V} {ds es : List PyData}, TrVs b H vs ds → TrVs b H ws es → TrVs b H (vs ++ ws) (ds ++ es)
  | _, _, _, _, .nil, s => s
  | _, _, _, _, .cons h t, s => .cons h (TrVs.app t s)
theorem TrVs.take {b : Addr} {H : Hp} : ∀ {vs : List V} {ds : List PyData} (n : Nat), TrVs b H vs ds → TrVs b H (vs.take n) (ds.take n)
  | _, _, 0, _ => .nil
  | _, _, _ + 1, .nil => .nil
  | _, _, n + 1, .cons h t => .cons h (TrVs.take n t)
theorem TrVs.drop {b : Addr} {H : Hp} : ∀ {vs : List V} {ds : List PyData} (n : Nat), TrVs b H vs ds → TrVs b H (vs.drop n) (ds.drop n)
  | _, _, 0, r => r
  | _, _, _ + 1, .nil => .nil
  | _, _, n + 1, .cons _ t => TrVs.drop n t
def isWhole : PyData → Bool
  | .int _ => true
  | _ => false
def within (lo hi : Int) : PyData → Bool
  | .int i => decide (lo ≤ i) && decide (i ≤ hi)
  | _ => false
def isFrac : PyData → Bool
  | .tuple [.int t, .int u] => decide (1 ≤ u) && decide (Int.gcd t u = 1)
  | _ => false
def isPurse : PyData → Bool
  | .tuple [.int t, .int u] => decide (1 ≤ u) && decide (Int.gcd t u = 1) && decide (1 ≤ t) && decide (t ≤ 1000000) && decide (u ≤ 1000000)
  | _ => false
def isRow (n : Nat) (lo hi : Int) : PyData → Bool
  | .tuple ds => decide (ds.length = n) && ds.all (within lo hi)
  | _ => false
def isMk : PyData → Bool
  | .tuple [.tuple a, .tuple p, .tuple w] => decide (1 ≤ a.length) && decide (a.length ≤ 6) && a.all (within 1 60) && (decide (1 ≤ p.length) && decide (p.length ≤ 6) && p.all isPurse) && (decide (w.length = p.length) && w.all (isRow a.length 0 100))
  | _ => false
mutual
def small : PyData → Bool
  | .int i => decide (-1073741824 < i) && decide (i < 1073741824)
  | .list ds => smalls ds
  | .tuple ds => smalls ds
  | _ => true
def smalls : List PyData → Bool
  | [] => true
  | d :: ds => small d && smalls ds
end
theorem smalls_mem : ∀ {ds : List PyData} {d : PyData}, smalls ds = true → d ∈ ds → small d = true
  | d :: ds, e, h, hm => by
    have h' : small d = true ∧ smalls ds = true := by simpa [smalls] using h
    rcases List.mem_cons.mp hm with rfl | hm
    · exact h'.1
    · exact smalls_mem h'.2 hm
theorem smalls_of : ∀ {ds : List PyData}, (∀ d ∈ ds, small d = true) → smalls ds = true
  | [], _ => rfl
  | d :: ds, h => by
    have := smalls_of (ds := ds) fun e he => h e (List.mem_cons_of_mem _ he)
    simp [smalls, this, h d List.mem_cons_self]
end KG
set_option Elab.async false
set_option linter.all false
set_option maxRecDepth 100000
set_option maxHeartbeats 4000000
namespace HT
open PySem PySem.Spec PyProof.Rows
section
variable {prog : Program} {w : World} {A : Around} {E : Value → Shared → Prop} {s : Shared}
theorem getItem_tuple_all {t sl : Addr} {items : Array Value} {vl vu : Value} {lo hi : Option Int} {Q : Value → Shared → Prop} (ht : IsTup s.heap t items) (hs : s.heap.IsSliceOf sl vl vu .none) (pl : IsPart vl lo) (pu : IsPart vu hi)
    (hw : sIx items.size 0 lo = 0 ∧ sIx items.size items.size hi = items.size) (h : Q (.ref t) s) : wpAny (model prog w) A (getItem (.ref t) (.ref sl)) Q E s := by
  obtain ⟨os, hos, hcs, hds⟩ := id hs
  have hTs : s.TypeIs (.ref sl) "slice" := ⟨os, hos, hcs⟩
  unfold getItem
  try with_reducible refine wpAny_holding ?_
  first | refine wpAny_bind (wpAny_pure ?_) | skip
  refine wpAny_bind (wpAny_sequenceKey ht.typeIs (by decide) ?_)
  refine wpAny_bind (wpAny_callSpecial?_slot (name := Str.ofString "__getitem__") ht.typeIs PyProof.Rows.slot_tuple_getitem
    (wpAny_call_entry PyProof.Rows.slot_tuple_getitem ht.typeIs entry_tuple_getitem ?_ (args_tuple_getitem _ _)))
  show wpAny _ _ (Builtin.Tuple.tupleItemsOf (.ref t) >>= _) _ _ s
  refine wpAny_bind (tupleItemsOf_ ht ?_)
  refine wpAny_bind (wpAny_typeOf hTs ?_)
  rw [if_pos (by decide)]
  refine wpAny_bind (sliceApplied_gen hs pl pu ?_)
  have hyes : ((((sIx items.size 0 lo : Nat) : Int) == 0 && (1 : Int) == 1 && (sIx items.size items.size hi - sIx items.size 0 lo) == items.size) = true) := by
    rw [hw.1, hw.2]; simp
  show wpAny _ _ (if (((sIx items.size 0 lo : Nat) : Int) == 0 && (1 : Int) == 1 && (sIx items.size items.size hi - sIx items.size 0 lo) == items.size) = true then _ else _) _ _ s
  rw [if_pos hyes]
  have htt : s.TypeIs (.ref t) "tuple" := ht.typeIs
  refine wpAny_bind (m := Builtin.Tuple.tupleIsExact (.ref t)) (wpAny_bind (wpAny_typeOf htt (wpAny_pure ?_)))
  rw [if_pos (by decide)]
  first
    | exact wpAny_pure ⟨_, rfl, wpAny_pure h⟩
    | exact wpAny_bind (wpAny_pure (wpAny_pure ⟨_, rfl, wpAny_pure h⟩))
    | (wp_walk; exact ⟨_, rfl, wpAny_pure h⟩)
    | (wp_walk; exact ⟨_, rfl, h⟩)
end
end HT
namespace L2
open PySem PySem.Spec PyProof.Rows
section
variable {X : Cx}
def rSlA : V → Option Int → Option Int → Hp → VK → Prop := fun x lo hi H Q => ∃ a xs, x = .ref a ∧ H a = some (.tup xs) ∧ ∀ p H', KG.Stay H H' → H' p = some (.tup (cutV xs lo hi)) → Q (.ref p) H'
theorem sl_tupA : SlR X rSlA := by
  intro pins s σ H x v vl vu lo hi sl Q I rx hs pl pu h
  obtain ⟨a, xs, rfl, hx, q⟩ := h
  by_cases hw : HT.sIx xs.length 0 lo = 0 ∧ HT.sIx xs.length xs.length hi = xs.length
  · cases rx
    obtain ⟨its, r, ht, hz⟩ := I.tuple (SqT.of hx)
    have hlen : its.toArray.size = xs.length := by rw [List.size_toArray]; exact r.length.symm
    refine ⟨"tuple", _, PyProof.Rows.slot_tuple_getitem.lookup, ht.typeIs, ?_⟩
    refine HT.getItem_tuple_all ht hs pl pu (by rw [hlen]; exact hw) ⟨.ref a, H, I, rfl, q a H (KG.Stay.refl H) ?_⟩
    have e : cutV xs lo hi = xs := by unfold cutV; rw [hw.1, hw.2, List.drop_zero, Nat.sub_zero, List.take_length]
    rw [e]; exact hx
  · exact sl_tup pins s σ H _ v vl vu lo hi sl Q I rx hs pl pu ⟨a, xs, rfl, SqT.of hx, hw, fun p hp => q p _ ((KG.Stay.refl H).new hp) upd_same⟩
def rCatA : R2 := fun x y H Q => ∃ a b xs ys, x = .ref a ∧ y = .ref b ∧ H a = some (.tup xs) ∧ H b = some (.tup ys) ∧ xs.length + ys.length ≤ sizeLine ∧ ∀ p H', KG.Stay H H' → H' p = some (.tup (xs ++ ys)) → Q (.ref p) H'
theorem op_catA : OpR X (binaryOp .Add) rCatA := by
  intro pins s σ H x y v u Q I rx ry h
  obtain ⟨a, b, xs, ys, rfl, rfl, ha, hb, hz, q⟩ := h
  by_cases hx : xs = []
  · cases rx
    cases ry
    obtain ⟨its, r1, p1, _⟩ := I.tuple (SqT.of ha)
    obtain ⟨its2, r2, p2, _⟩ := I.tuple (SqT.of hb)
    obtain ⟨⟨cls, dd, data, sl⟩, ho, hc, n, hd⟩ := id p1
    obtain ⟨⟨cls2, dd2, data2, sl2⟩, ho2, hc2, n2, hd2⟩ := id p2
    simp only at hc hd hc2 hd2
    subst hc hd hc2 hd2
    have e0 : its = [] := r1.nil_iff.mpr hx
    exact concat_meets ⟨_, ho, rfl⟩ ⟨_, ho2, rfl⟩ noFill_tuple_add seq_tuple_add PySem.F.slot_tuple_add PySem.F.entry_tuple_add (PySem.F.args_tuple_add_2 _ _)
      (tuple_addW0 a b its.toArray its2.toArray n n2 dd dd2 sl sl2 (by simp [e0])) ⟨ho, ho2, ⟨.ref b, H, I, rfl, q b H (KG.Stay.refl H) (by rw [hx]; exact hb)⟩⟩
  · refine op_catT pins s σ H _ _ v u Q I rx ry ⟨a, b, xs, ys, rfl, rfl, SqT.of ha, SqT.of hb, hx, hz, fun e => q a H (KG.Stay.refl H) (by rw [e, List.append_nil]; exact ha), fun _ p hp => q p _ ((KG.Stay.refl H).new hp) upd_same⟩
end
end L2
set_option Elab.async false
set_option linter.all false
set_option maxRecDepth 100000
set_option maxHeartbeats 1000000
namespace L2
open PySem PySem.Spec PyProof.Rows KG
def litL (f : Expr → Option PyData) : List Expr → Option (List PyData)
  | [] => some []
  | e :: es => match f e, litL f es with
    | some d, some ds => some (d :: ds)
    | _, _ => none
def litS (nm : Str → Option Int) (f : Expr → Option PyData) : Expr → Option PyData
  | .Name x _ => (nm x).map .int
  | .Constant (.int i) _ _ => some (.int i)
  | .Constant (.bool c) _ _ => some (.bool c)
  | .Constant .none _ _ => some .none
  | .Constant (.str x) _ _ => if (PyData.str x).canLay0 = true then some (.str x) else none
  | .UnaryOp .USub a _ => match f a with
    | some (.int i) => some (.int (-i))
    | _ => none
  | .BinOp a .Add b _ => match f a, f b with
    | some (.int i), some (.int j) => some (.int (i + j))
    | _, _ => none
  | .BinOp a .Sub b _ => match f a, f b with
    | some (.int i), some (.int j) => some (.int (i - j))
    | _, _ => none
  | .BinOp a .Pow b _ => match f a, f b with
    | some (.int i), some (.int j) => if 0 ≤ j ∧ j ≤ 1000000 ∧ i.natAbs < 2 ^ 64 then some (.int (i ^ j.toNat)) else none
    | _, _ => none
  | .Tuple es _ _ => if es.length ≤ 1000 then (litL f es).map .tuple else none
  | .List es _ => if es.length ≤ 1000 then (litL f es).map .list else none
  | _ => none
def lit (nm : Str → Option Int) : Nat → Expr → Option PyData
  | 0 => fun _ => none
  | n + 1 => litS nm (lit nm n)
def tLit (C : St → Prop) (d : PyData) : TE := fun σ H Q => C σ ∧ ∀ v H', Stay H H' → (∀ b, H b ≠ none → TrV b H' v d) → (∀ i, d = .int i → v = .int i) → Q v H'
def tLits (C : St → Prop) (ds : List PyData) : TA := fun σ H Q => C σ ∧ ∀ vs H', Stay H H' → (∀ b, H b ≠ none → TrVs b H' vs ds) → vs.length = ds.length → Q vs H'
theorem PE.weak {X : Cx} {e : Expr} {t t' : TE} (h : PE X e t) (hw : ∀ σ H Q, t' σ H Q → t σ H Q) : PE X e t' := fun pins s σ H Q I q => h pins s σ H Q I (hw σ H Q q)
theorem PA.weak {X : Cx} {es : List Expr} {t t' : TA} (h : PA X es t) (hw : ∀ σ H Q, t' σ H Q → t σ H Q) : PA X es t' := fun pos pins s σ H Q I q => h pos pins s σ H Q I (hw σ H Q q)
theorem lit_star {X : Cx} {nm : Str → Option Int} {n : Nat} {e : Expr} {es : List Expr} {d : PyData} (h : lit nm n e = some d) : starEach (e :: es) X.env = (false, eval e X.env) :: starEach es X.env := by
  cases n with
  | zero => cases h
  | succ n =>
    have h : litS nm (lit nm n) e = some d := h
    cases e <;> first | rfl | (unfold litS at h; cases h)
theorem litL_len {f : Expr → Option PyData} : ∀ {es : List Expr} {ds : List PyData}, litL f es = some ds → ds.length = es.length
  | [], ds, h => by simp [litL] at h; subst h; rfl
  | e :: es, ds, h => by
    unfold litL at h
    split at h
    · next d ds' h1 h2 => cases h; simp [litL_len h2]
    · cases h
theorem ne_stay {H H' : Hp} {b : Addr} (s : Stay H H') (h : H b ≠ none) : H' b ≠ none := by
  cases e : H b with
  | none => exact absurd e h
  | some o => rw [s _ _ e]; simp
theorem pa_lits {X : Cx} {nm : Str → Option Int} {C : St → Prop} {n : Nat} (ih : ∀ (e : Expr) (d : PyData), lit nm n e = some d → PE X e (tLit C d)) : ∀ (es : List Expr) (ds : List PyData), litL (lit nm n) es = some ds → PA X es (tLits C ds)
  | [], ds, h => by
    simp [litL] at h; subst h
    exact PA.weak pa_nil fun σ H Q q => q.2 [] H (Stay.refl H) (fun b _ => .nil) rfl
  | e :: es, ds, h => by
    unfold litL at h
    split at h
    · next d ds' h1 h2 =>
      cases h
      refine PA.weak (pa_cons (ih e d h1) (pa_lits ih es ds' h2) (lit_star h1)) fun σ H Q q => ⟨q.1, fun v H1 s1 t1 _ => ⟨q.1, ?_⟩⟩
      intro vs H2 s2 t2 l2
      exact q.2 (v :: vs) H2 (s1.trans s2) (fun b hb => .cons ((t1 b hb).stay s2) (t2 b (ne_stay s1 hb))) (by simp [l2])
    · cases h
theorem pe_litC {X : Cx} (nm : Str → Option Int) (C : St → Prop) (hnm : ∀ x i pos, nm x = some i → PE X (.Name x pos) (fun σ H Q => C σ ∧ Q (.int i) H)) : ∀ (n : Nat) (e : Expr) (d : PyData), lit nm n e = some d → PE X e (tLit C d) := by
  intro n
  induction n with
  | zero => intro e d h; cases h
  | succ n ih =>
    intro e d h
    have h : litS nm (lit nm n) e = some d := h
    unfold litS at h
    split at h
    · obtain ⟨i, e1, rfl⟩ := Option.map_eq_some_iff.mp h
      exact PE.weak (hnm _ i _ e1) fun σ H Q q => ⟨q.1, q.2 _ H (Stay.refl H) (fun b _ => .int _) (fun i e => by cases e; rfl)⟩
    · cases h; exact PE.weak pe_int fun σ H Q q => q.2 _ H (Stay.refl H) (fun b _ => .int _) (fun i e => by cases e; rfl)
    · cases h; exact PE.weak pe_bl fun σ H Q q => q.2 _ H (Stay.refl H) (fun b _ => .bl _) (fun i e => by cases e)
    · cases h; exact PE.weak pe_non fun σ H Q q => q.2 _ H (Stay.refl H) (fun b _ => .non) (fun i e => by cases e)
    · split at h
      · next ok => cases h; exact PE.weak pe_str fun σ H Q q => q.2 _ H (Stay.refl H) (fun b _ => .str _ ok) (fun i e => by cases e)
      · cases h
    · split at h
      · next i e1 =>
        cases h
        exact PE.weak (pe_un un_neg (ih _ _ e1)) fun σ H Q q => ⟨q.1, fun v H1 s1 t1 i1 => ⟨_, i1 _ rfl, q.2 _ H1 s1 (fun b _ => .int _) (fun i e => by cases e; rfl)⟩⟩
      · cases h
    · split at h
      · next i j e1 e2 =>
        cases h
        exact PE.weak (pe_op op_add (ih _ _ e1) (ih _ _ e2)) fun σ H Q q => ⟨q.1, fun v H1 s1 t1 i1 => ⟨q.1, fun v2 H2 s2 t2 i2 => ⟨_, _, i1 _ rfl, i2 _ rfl, q.2 _ H2 (s1.trans s2) (fun b _ => .int _) (fun i e => by cases e; rfl)⟩⟩⟩
      · cases h
    · split at h
      · next i j e1 e2 =>
        cases h
        exact PE.weak (pe_op op_sub (ih _ _ e1) (ih _ _ e2)) fun σ H Q q => ⟨q.1, fun v H1 s1 t1 i1 => ⟨q.1, fun v2 H2 s2 t2 i2 => ⟨_, _, i1 _ rfl, i2 _ rfl, q.2 _ H2 (s1.trans s2) (fun b _ => .int _) (fun i e => by cases e; rfl)⟩⟩⟩
      · cases h
    · split at h
      · next i j e1 e2 =>
        split at h
        · next hc =>
          cases h
          exact PE.weak (pe_op op_pow (ih _ _ e1) (ih _ _ e2)) fun σ H Q q => ⟨q.1, fun v H1 s1 t1 i1 => ⟨q.1, fun v2 H2 s2 t2 i2 => ⟨_, _, i1 _ rfl, i2 _ rfl, hc, q.2 _ H2 (s1.trans s2) (fun b _ => .int _) (fun i e => by cases e; rfl)⟩⟩⟩
        · cases h
      · cases h
    · split at h
      · next hl =>
        obtain ⟨ds, e1, rfl⟩ := Option.map_eq_some_iff.mp h
        refine PE.weak (pe_tup (pa_lits ih _ _ e1)) fun σ H Q q => ⟨q.1, fun vs H1 s1 t1 l1 => ⟨?_, fun p hp => ?_⟩⟩
        · rw [l1, litL_len e1, sz]; omega
        · exact q.2 _ _ (s1.new hp) (fun b hb => .tup upd_same ((t1 b hb).stay ((Stay.refl H1).new hp))) (fun i e => by cases e)
      · cases h
    · split at h
      · next hl =>
        obtain ⟨ds, e1, rfl⟩ := Option.map_eq_some_iff.mp h
        refine PE.weak (pe_lst (pa_lits ih _ _ e1)) fun σ H Q q => ⟨q.1, fun vs H1 s1 t1 l1 => ⟨?_, fun p hp => ?_⟩⟩
        · rw [l1, litL_len e1, sz]; omega
        · exact q.2 _ _ (s1.new hp) (fun b hb => .lst (fun z => ne_stay s1 hb (z ▸ hp)) upd_same ((t1 b hb).stay ((Stay.refl H1).new hp))) (fun i e => by cases e)
      · cases h
    · cases h
theorem pe_lit {X : Cx} (n : Nat) (e : Expr) (d : PyData) (h : lit (fun _ => none) n e = some d) : PE X e (fun _ H Q => ∀ v H', Stay H H' → (∀ b, H b ≠ none → TrV b H' v d) → (∀ i, d = .int i → v = .int i) → Q v H') :=
  PE.weak (pe_litC (fun _ => none) (fun _ => True) (fun x i pos e => by cases e) n e d h) fun σ H Q q => ⟨trivial, q⟩
end L2
set_option Elab.async false
set_option linter.all false
set_option maxRecDepth 100000
set_option maxHeartbeats 1000000
namespace EX
open PySem PySem.Spec PyProof.Rows
def excO (C t : Addr) (hd : Value) : Obj := { cls := .ref C, data := .fields #[.ref t, hd, .none, .none, .bool false, .none] }
def Hd (B : Heap) (e : Addr) (h : Heap) (v : Value) : Prop := v = .none ∨ ∃ T oT ts, v = .ref T ∧ B.get? T = none ∧ T ≠ e ∧ h.get? T = some oT ∧ oT.data = .fields ts ∧ 3 < ts.size
structure Air (B : Heap) (l : List Env) (e C t : Addr) (h : Heap) : Prop where
  st : B.StaysIn h
  ne : B.get? e = none
  ff : h.FunFrames B l
  ob : ∃ hd, h.get? e = some (excO C t hd) ∧ Hd B e h hd
theorem Air.tail {B : Heap} {env : Env} {l : List Env} {e C t : Addr} {h : Heap} (a : Air B (env :: l) e C t h) : Air B l e C t h := ⟨a.st, a.ne, a.ff.2.2, a.ob⟩
section
variable {M : Model} {A : Around} {E : Value → Shared → Prop} {s : Shared} {B : Heap} {env : Env} {outer : List Env} {L e C t : Addr} {Q : Unit → Shared → Prop}
theorem air_entry {head : Value} {hn : Bool} (a : Air B (env :: outer) e C t s.heap) (hfr : A.frames = some (env :: outer)) (hf : env.frame = some L)
    (k : ∀ h', Air B (env :: outer) e C t h' → s.heap.UpToSlots h' → Q () { s with heap := h' }) :
    wpAny M A (do let fr ← frameOf env; let pl ← entryPlaceOf L hn; let x ← EntryCells.newEntry head fr .none (rawInt L) .none pl; setField (.ref e) 1 x) Q E s := by
  obtain ⟨hd, he, _⟩ := a.ob
  refine wpAny_bind (wpAny_frameOf_fun hfr a.ff hf fun g so => ?_)
  obtain ⟨_, so2, so3⟩ := so
  have nfr : e ∉ (env :: outer).filterMap (·.frame) := fun m => by
    obtain ⟨_, o, ho, nf⟩ := a.ff.mem m
    rw [he] at ho
    cases ho
    exact nf _ rfl
  have ge : g.get? e = some (excO C t hd) := (so2 e nfr).trans he
  have gB : B.StaysIn g := fun b o q => (so2 b fun m => by rw [(a.ff.mem m).1] at q; cases q).trans (a.st b o q)
  refine wpAny_bind (wpAny_entryPlaceOf fun pl ipl => ?_)
  unfold EntryCells.newEntry newFields
  refine wpAny_bind (wpAny_newObj_type ?_ (ipl.sizeOk5 _ _ _ _ _))
  generalize hN : ({ cls := .type "traceback", dict := none, data := .fields ([head, .ref L, .none, rawInt L, .none] ++ (if pl.isEmpty then List.replicate 6 Value.none else pl)).toArray } : Obj) = oN
  have g2 : (g.push oN).get? e = some (excO C t hd) := Heap.get?_push_of_some _ ge
  have gT : (g.push oN).get? g.objs.size = some oN := Heap.get?_push_size g (by rw [← hN]; rfl)
  have Te : g.objs.size ≠ e := Nat.ne_of_gt (Heap.lt_size ge)
  have nBT : B.get? g.objs.size = none := by
    cases q : B.get? g.objs.size with
    | none => rfl
    | some o => exact absurd (Heap.lt_size (gB _ o q)) (Nat.lt_irrefl _)
  refine wpAny_setField g2 rfl (by show 1 < 6; decide) (k _ ?_ ?_)
  · refine ⟨fun b o q => ?_, a.ne, ?_, .ref g.objs.size, ?_, .inr ⟨g.objs.size, oN, _, rfl, nBT, Te, ?_, by rw [← hN], ?_⟩⟩
    · rw [Heap.get?_update_other _ _ (fun z => by rw [← z, a.ne] at q; cases q)]
      exact Heap.get?_push_of_some _ (gB b o q)
    · refine a.ff.of_keeps fun b o q nf => ?_
      obtain ⟨sl, q2⟩ := so3 b o q
      refine ⟨{ o with slots := sl }, ?_, rfl⟩
      rw [Heap.get?_update_other _ _ (fun z => by rw [← z, he] at q; cases q; exact nf _ rfl)]
      exact Heap.get?_push_of_some _ q2
    · exact Heap.get?_update_self _ g2 rfl
    · rw [Heap.get?_update_other _ _ Te.symm]; exact gT
    · simp only [List.size_toArray, List.length_append, List.length_cons]; omega
  · intro b o q nf
    obtain ⟨sl, q2⟩ := so3 b o q
    refine ⟨sl, ?_⟩
    rw [Heap.get?_update_other _ _ (fun z => by rw [← z, he] at q; cases q; exact nf _ rfl)]
    exact Heap.get?_push_of_some _ q2
theorem air_head {T : Addr} {oT : Obj} {ts : Array Value} {v : Value} (a : Air B outer e C t s.heap) (nT : B.get? T = none) (Te : T ≠ e) (hT : s.heap.get? T = some oT) (dT : oT.data = .fields ts) (h3 : 3 < ts.size)
    (k : ∀ h', Air B outer e C t h' → s.heap.UpToSlots h' → Q () { s with heap := h' }) : wpAny M A (setField (.ref T) 3 v) Q E s := by
  obtain ⟨hd, he, hh⟩ := a.ob
  refine wpAny_setField hT dT h3 ?_
  have oth : ∀ b, b ≠ T → (s.heap.update T (Obj.mapFields (·.setIfInBounds 3 v))).get? b = s.heap.get? b := fun b n => Heap.get?_update_other _ _ (Ne.symm n)
  have isf : ∀ b o, s.heap.get? b = some o → (∀ vs, o.data ≠ .fields vs) → b ≠ T := fun b o q nf z => by
    rw [z, hT] at q; cases q; exact nf _ dT
  refine k _ ⟨fun b o q => ?_, a.ne, a.ff.of_keeps fun b o q nf => ⟨o, (oth b (isf b o q nf)).trans q, rfl⟩, hd, (oth e Te.symm).trans he, ?_⟩ fun b o q nf => ⟨o.slots, (oth b (isf b o q nf)).trans q⟩
  · exact (oth b fun z => by rw [z, nT] at q; cases q).trans (a.st b o q)
  · rcases hh with z | ⟨T2, o2, t2, z, n2, e2, h2, d2, s2⟩
    · exact .inl z
    · by_cases w : T2 = T
      · subst w
        rw [hT] at h2; cases h2
        have := Obj.data_mapFields dT (·.setIfInBounds 3 v)
        exact .inr ⟨T2, _, _, z, n2, e2, Heap.get?_update_self _ hT (Obj.isFreed_of_fields this), this, by simpa using h3⟩
      · exact .inr ⟨T2, o2, t2, z, n2, e2, (oth T2 w).trans h2, d2, s2⟩
theorem air_note (a : Air B (env :: outer) e C t s.heap) (hfr : A.frames = some (env :: outer)) (hf : env.frame = some L)
    (k : ∀ h', Air B (env :: outer) e C t h' → s.heap.UpToSlots h' → Q () { s with heap := h' }) : wpAny M A (noteFrame (.ref e) env) Q E s := by
  obtain ⟨hd, he, hh⟩ := a.ob
  unfold noteFrame
  simp only [hf]
  refine wpAny_bind (wpAny_field he rfl (x := hd) rfl ?_)
  rcases hh with rfl | ⟨T, oT, ts, rfl, nT, Te, hT, dT, h3⟩
  · rw [if_neg (by decide)]
    exact air_entry a hfr hf k
  · rw [if_pos (show (Value.ref T != Value.none) = true from by simp)]
    refine wpAny_bind (wpAny_field hT dT (x := ts[3]) (by rw [Array.getElem?_eq_getElem h3]) ?_)
    by_cases hv : (ts[3] == rawInt L) = true
    · rw [if_pos hv]
      exact wpAny_pure (k s.heap a (Heap.UpToSlots.refl _))
    · rw [if_neg hv]
      refine wpAny_bind (air_head a nT Te hT dT h3 fun h1 a1 u1 => ?_)
      exact air_entry (s := { s with heap := h1 }) a1 hfr hf fun h2 a2 u2 => k h2 a2 (u1.trans u2)
theorem air_land (a : Air B outer e C t s.heap) (k : ∀ h', Air B outer e C t h' → s.heap.UpToSlots h' → Q () { s with heap := h' }) : wpAny M A (setFlight (.ref e) none) Q E s := by
  obtain ⟨hd, he, hh⟩ := a.ob
  unfold setFlight
  refine wpAny_bind (wpAny_field he rfl (x := hd) rfl ?_)
  rcases hh with rfl | ⟨T, oT, ts, rfl, nT, Te, hT, dT, h3⟩
  · rw [if_neg (by decide)]
    exact wpAny_pure (k s.heap a (Heap.UpToSlots.refl _))
  · rw [if_pos (show (Value.ref T != Value.none) = true from by simp)]
    exact air_head a nT Te hT dT h3 k
theorem air_leave (a : Air B (env :: outer) e C t s.heap) (hfr : A.frames = some (env :: outer)) (hf : env.frame = some L)
    (k : ∀ h', Air B outer e C t h' → s.heap.UpToSlots h' → Q () { s with heap := h' }) : wpAny M A (leaving env (.ref e)) Q E s := by
  unfold leaving
  refine wpAny_bind (air_note a hfr hf fun h1 a1 u1 => ?_)
  exact air_land (s := { s with heap := h1 }) a1.tail fun h2 a2 u2 => k h2 a2 (u1.trans u2)
end
end EX
set_option Elab.async false
set_option linter.all false
set_option maxRecDepth 100000
set_option maxHeartbeats 1000000
namespace L2
open PySem PySem.Spec PyProof.Rows EX
theorem obj_is {P : Program} {w : World} {H : Hp} {h : Heap} {a : Addr} {o : HO} (x : ObjOk P w H h a o) : ∃ u, h.get? a = some u := by
  cases o with
  | lst xs => obtain ⟨_, _, _, _, q⟩ := x; exact ⟨_, q⟩
  | tup xs => obtain ⟨_, _, _, ⟨_, q, _⟩⟩ := x; exact ⟨_, q⟩
  | dK kvs => obtain ⟨_, _, _, _, _, _, _, q, _⟩ := x; exact ⟨_, q⟩
  | dT kvs => obtain ⟨_, _, _, _, _, _, _, q, _⟩ := x; exact ⟨_, q⟩
  | set S n => obtain ⟨_, _, _, _, q, _⟩ := x; exact ⟨_, q⟩
  | ins C dx fs => obtain ⟨_, _, _, q, _⟩ := x; exact ⟨_, q⟩
  | own y => exact x
  | xd fs => obtain ⟨_, ⟨_, _, _, q, _⟩, _⟩ := x; exact ⟨_, q⟩
  | rng lo hi => obtain ⟨_, _, _, q⟩ := x; exact ⟨_, q⟩
  | frz ob u => exact ⟨_, x.1⟩
  | tbl ps => exact ⟨_, x⟩
  | met f y => exact ⟨_, x⟩
  | ext φ => exact x.2.1
theorem ff_base {h base B : Heap} : ∀ {l : List Env}, (∀ b ∈ frs l, B.get? b = none) → h.FunFrames base l → h.FunFrames B l
  | [], _, _ => trivial
  | env :: r, hB, ⟨hk, ⟨L, o, hf, hn, ho, hd⟩, hr⟩ =>
    ⟨hk, ⟨L, o, hf, hB L (by unfold frs; rw [List.filterMap_cons, hf]; exact List.mem_cons_self), ho, hd⟩,
      ff_base (fun b hb => hB b (by unfold frs; rw [List.filterMap_cons, hf]; exact List.mem_cons_of_mem _ hb)) hr⟩
def CXF (P : Program) (w : World) : CXT := fun outer H s E e s' => ∃ (a C t : Addr) (B : Heap) (H' : Hp), e = .ref a ∧ s'.os = s.os ∧ AllBare s'.gens ∧ Un (frs outer) [] H H' s.heap s'.heap ∧ HOk P w H' B ∧
  (∀ b o, s.heap.get? b = some o → b ∉ frs outer → (∃ o', B.get? b = some o') ∧ (H b = none → B.get? b = some o)) ∧ Air B outer a C t s'.heap ∧ s.heap.get? a = none ∧ H' a = none ∧ E (.ref C) none H'
section
variable {P : Program} {w : World} {K : PySem.W.Frag} {mg : Str → Option Value} {base : Heap} {N : List Str} {qual : Str} {scope : Scope} {f : Addr} {cd : Value} {A : Around} {outer : List Env} {s₀ : Shared} {H₀ : Hp} {E : XK}
theorem fly_out {pins : List (Addr × Obj)} {σ : St} {H H' : Hp} {s s' : Shared} {a C t : Addr} {B h' : Heap} (I : Inv (cxOf (CXF P w) P w K mg base N qual scope f cd A outer s₀ H₀ E) pins σ H s)
    (os : s'.os = s.os) (bare : AllBare s'.gens) (un : Un (envOfC qual scope s₀.heap.objs.size f cd :: outer |> frs) [] H H' s.heap s'.heap) (hok : HOk P w H' B)
    (third : ∀ b o, s.heap.get? b = some o → b ∉ frs (envOfC qual scope s₀.heap.objs.size f cd :: outer) → (∃ o', B.get? b = some o') ∧ (H b = none → B.get? b = some o))
    (ff : s'.heap.FunFrames B (envOfC qual scope s₀.heap.objs.size f cd :: outer)) (air : Air B outer a C t h') (up : s'.heap.UpToSlots h') (na : s.heap.get? a = none) (na' : H' a = none) (he : E (.ref C) none H') : CXF P w outer H₀ s₀ E (.ref a) { s' with heap := h' } := by
  have stk : ∀ b o, s₀.heap.get? b = some o → b ∉ frs outer → b ∉ frs (envOfC qual scope s₀.heap.objs.size f cd :: outer) := fun b o q n m => by
    rcases List.mem_cons.mp (I.stkSub b m) with z | z
    · have : b < s₀.heap.objs.size := Heap.lt_size q
      have h2 : s₀.heap.objs.size ≤ b := by rw [z]; exact I.ok.above
      exact absurd (Nat.lt_of_lt_of_le this h2) (Nat.lt_irrefl _)
    · exact n z
  have infr : ∀ b, b ∈ frs outer → b ∈ frs (envOfC qual scope s₀.heap.objs.size f cd :: outer) := fun b m => by
    unfold frs; rw [List.filterMap_cons]; exact List.mem_cons_of_mem _ m
  have ub : Un (frs outer) [] H₀ H s₀.heap s.heap := I.base
  refine ⟨a, C, t, B, H', rfl, os.trans I.os, bare, ⟨fun b o q n nf _ => ?_, fun b o q n m _ => ?_, fun b o q n _ => ?_, fun b o q _ => ?_, fun b xs q => un.tups b xs (ub.tups b xs q), fun b o u q => un.frzs b o u (ub.frzs b o u q), fun b ps q => ?_⟩, hok, fun b o q nf => ?_, air, ?_, na', he⟩
  · exact air.st b o ((third b o (ub.keep b o q n nf (by simp)) (stk b o q nf)).2 (ub.free b o q n (by simp)))
  · obtain ⟨sl, q1⟩ := ub.slot b o q n m (by simp)
    obtain ⟨sl2, q2⟩ := un.slot b _ q1 (ub.free b o q n (by simp)) (infr b m) (by simp)
    obtain ⟨_, o3, q3, nf⟩ := ff.mem (infr b m)
    rw [q2] at q3
    cases q3
    obtain ⟨sl3, q4⟩ := up b _ q2 nf
    exact ⟨sl3, q4⟩
  · obtain ⟨o', q1⟩ := ub.there b o q (by simp)
    exact un.free b o' q1 (ub.free b o q n (by simp)) (by simp)
  · obtain ⟨o', q1⟩ := ub.there b o q (by simp)
    by_cases m : b ∈ frs outer
    · obtain ⟨_, o3, q3, nf⟩ := ff.mem (infr b m)
      obtain ⟨sl3, q4⟩ := up b _ q3 nf
      exact ⟨_, q4⟩
    · obtain ⟨o2, q2⟩ := (third b o' q1 (stk b o q m)).1
      exact ⟨o2, air.st b o2 q2⟩
  · obtain ⟨m1, e1⟩ := ub.tbls b ps q
    obtain ⟨m2, e2⟩ := un.tbls b _ e1
    exact ⟨m1 ++ m2, by rw [e2, Array.append_assoc]⟩
  · obtain ⟨o', q1⟩ := ub.there b o q (by simp)
    refine ⟨(third b o' q1 (stk b o q nf)).1, fun n => ?_⟩
    have q2 := ub.keep b o q n nf (by simp)
    exact (third b o q2 (stk b o q nf)).2 (ub.free b o q n (by simp))
  · cases q : s₀.heap.get? a with
    | none => rfl
    | some o =>
      obtain ⟨o', q1⟩ := ub.there a o q (by simp)
      rw [na] at q1; cases q1
theorem passF : Passes (CXF P w) (cxOf (CXF P w) P w K mg base N qual scope f cd A outer s₀ H₀ E) E := by
  intro pins σ H s e s' I h
  obtain ⟨a, C, t, B, H', rfl, os, bare, un, hok, third, air, na, na', he⟩ := h
  refine air_leave (L := s₀.heap.objs.size) air I.ok.frames rfl fun h' air' up => ?_
  exact fly_out I os bare un hok third air.ff air' up na na' he
theorem raiseF {pins : List (Addr × Obj)} {σ : St} {H : Hp} {s : Shared} {h1 : Heap} {a C : Addr} {args : List Value} (I : Inv (cxOf (CXF P w) P w K mg base N qual scope f cd A outer s₀ H₀ E) pins σ H s) (mk : Heap.MadeExcOf s.heap h1 a (.ref C) args) (he : E (.ref C) none H) :
    (cxOf (CXF P w) P w K mg base N qual scope f cd A outer s₀ H₀ E).xe (.ref a) { s with heap := h1 } := by
  obtain ⟨t, ht, htn, _⟩ := mk.there
  have nofr : ∀ b u, H b = some u → b ∉ frs (envOfC qual scope s₀.heap.objs.size f cd :: outer) := fun b u q m => by
    have := I.stkFree b m
    rw [q] at this; cases this
  have hB : ∀ b ∈ frs (envOfC qual scope s₀.heap.objs.size f cd :: outer), (PySem.W.hideAll s.heap (frs (envOfC qual scope s₀.heap.objs.size f cd :: outer))).get? b = none := fun b m => PySem.W.hideAll_none _ m
  have hokB : HOk P w H (PySem.W.hideAll s.heap (frs (envOfC qual scope s₀.heap.objs.size f cd :: outer))) := fun b u q =>
    (I.hok b u q).stay (fun c v hc qc => PySem.W.hideAll_get _ qc (by
      rcases hc with z | z
      · rw [z]; exact nofr b u q
      · exact nofr c _ z)) (fun _ z => z) fun _ _ z => z
  have na' : H a = none := by
    cases q : H a with
    | none => rfl
    | some u =>
      obtain ⟨o, ho⟩ := obj_is (I.hok a u q)
      rw [mk.new] at ho; cases ho
  have air0 : Air (PySem.W.hideAll s.heap (frs (envOfC qual scope s₀.heap.objs.size f cd :: outer))) (envOfC qual scope s₀.heap.objs.size f cd :: outer) a C t h1 := by
    refine ⟨fun b o q => mk.keeps b o (PySem.W.of_hideAll _ q), ?_, (ff_base hB I.stack).of_keeps fun b o q _ => ⟨o, mk.keeps b o q, rfl⟩, .none, ht, .inl rfl⟩
    cases q : (PySem.W.hideAll s.heap (frs (envOfC qual scope s₀.heap.objs.size f cd :: outer))).get? a with
    | none => rfl
    | some o => have := PySem.W.of_hideAll _ q; rw [mk.new] at this; cases this
  refine air_leave (s := { s with heap := h1 }) (L := s₀.heap.objs.size) air0 I.ok.frames rfl fun h' air' up => ?_
  exact fly_out (s' := { s with heap := h1 }) I rfl I.bare (Un.kept mk.keeps) hokB (fun b o q n => ⟨⟨o, PySem.W.hideAll_get _ q n⟩, fun _ => PySem.W.hideAll_get _ q n⟩) air0.ff air' up mk.new na' he
theorem Fun.okX {x qual : Str} {st : Stmt} {f : Addr} {fd : FuncData} {N ps : List Str} {k : Nat} {sp : Sp} (F : Fun K x qual st f fd) (S : FnScope N ps (defScope st)) (len : ∀ vs H Q E, sp vs H Q E → vs.length = ps.length)
    (hbody : ∀ (cdv : Value) (A : Around) (outer : List Env) (s : Shared) (H : Hp) (vs : List V) (Q : VK) (E : XK), Room k (A.deeper (envOfC qual (defScope st) s.heap.objs.size f cdv)) → sp vs H Q E →
      ∃ t, PSs (cxOf (CXF P w) P w K mg base N qual (defScope st) f cdv A outer s H E) (defBody st) t ∧ t { nx := fun _ H' => Q .non H', rt := Q } (start N vs) H) : FnOk P w K mg base (CXF P w) (k + 1) f fd ps sp := by
  obtain ⟨oc, od, kV, doc, pm, an, cdv, ct, osl, rfl, lk, hcd⟩ := F.ex
  exact fn_of lk hcd S len fun A outer s H vs Q E hr hsp => hbody cdv A outer s H vs Q E hr hsp
end
def tRaise (E : XK) (C : Addr) (t : TA) : TS := fun _ σ H => t σ H fun vs H1 => vs.length ≤ sizeLine ∧ E (.ref C) none H1
theorem ps_raise {P : Program} {w : World} {K : PySem.W.Frag} {mg : Str → Option Value} {base : Heap} {N : List Str} {qual : Str} {scope : Scope} {f : Addr} {cd : Value} {A : Around} {outer : List Env} {s₀ : Shared} {H₀ : Hp} {E : XK}
    {x : Str} {C : Addr} {e : Expr} {es : List Expr} {t : TA} {np cpos pos : Pos} {bmB : List Value} {B newId initId : String} (FB : ExcBaseFacts B newId initId bmB) (hg : Gl (cxOf (CXF P w) P w K mg base N qual scope f cd A outer s₀ H₀ E) x) (hm : mg x = some (.ref C)) (hx : PySem.W.excIn K C bmB newId = true)
    (ha : PA (cxOf (CXF P w) P w K mg base N qual scope f cd A outer s₀ H₀ E) (e :: es) t) (hd : (x == ("__debug__" : Str)) = false := by decide)
    (he : starEach (e :: es) (envOfC qual scope s₀.heap.objs.size f cd) = (false, eval e (envOfC qual scope s₀.heap.objs.size f cd)) :: starEach es (envOfC qual scope s₀.heap.objs.size f cd) := by rfl)
    (hpl : (backTo cpos (starEach es (envOfC qual scope s₀.heap.objs.size f cd))).any (·.1) = false := by rfl) :
    PS (cxOf (CXF P w) P w K mg base N qual scope f cd A outer s₀ H₀ E) (.Raise (some (.Call (.Name x np) (e :: es) [] cpos)) none pos) (tRaise E C t) := by
  intro pins s σ H D I h
  unfold PySem.W.excIn at hx
  split at hx
  · rename_i dd cdd sl ho
    split at hx
    · rename_i C' bm k0 k1 k2 k3 n k5 hmro hs
      simp only [Bool.and_eq_true, beq_iff_eq, Bool.not_eq_true'] at hx
      obtain ⟨⟨⟨⟨⟨rfl, rfl⟩, hdel⟩, ht⟩, hok⟩, hni⟩ := hx
      obtain ⟨nm, bs, mro, ns, qn, hdd, sn, sub, ab, col, del⟩ := cdd
      dsimp only at hmro hdel hok hni
      subst hmro hdel
      have hsl : sl = #[k0, k1, k2, k3, some (.builtin n), k5] := by
        obtain ⟨l⟩ := sl
        simp only at hs
        rw [hs]
      subst hsl
      have kb : K.In base := I.ok.mod.kin
      have nsB := Heap.Ns.of_isNs (PySem.W.isNs_of_in kb hok)
      refine wpAny_Raise_call_subT FB (C := C') (nm := nm) (q := qn) (N := ns) (bs := bs) (bm := bm) (hdct := hdd) (sn := sn) (sub := sub) (ab := ab) (col := col) (dd := dd) (k0 := k0) (k1 := k1) (k2 := k2) (k3 := k3) (k5 := k5) (mN := base.nsMap ns)
        ((PySem.W.tail_of_in kb ht).hasType FB.hasBase) (I.ok.hd rfl) ?_ (PySem.W.nsMap_none_of_in kb hok hni) ?_
      · show (backTo cpos (starEach (e :: es) (envOfC qual scope s₀.heap.objs.size f cd))).any (·.1) = false
        rw [he]
        show (false || (backTo cpos (starEach es (envOfC qual scope s₀.heap.objs.size f cd))).any (·.1)) = false
        rw [hpl]; rfl
      · refine ld_glob I hg hm ⟨rfl, ?_⟩ hd
        show wpAny _ _ (evalArgs (.ref C') true (backTo cpos (starEach (e :: es) (envOfC qual scope s₀.heap.objs.size f cd))) []) _ _ s
        have ha' := ha cpos pins s σ H _ I h
        have ha2 : wpAny (model P w) (A.deeper (envOfC qual scope s₀.heap.objs.size f cd)) (spliced (backTo cpos (starEach (e :: es) (envOfC qual scope s₀.heap.objs.size f cd)))) _ _ s := ha'
        rw [he] at ha2 ⊢
        refine Calls.evalArgs_plain (thn ha2 fun us s2 ⟨vs, H2, I2, r, z, q⟩ => ?_)
        exact ⟨rfl, by rw [← r.length]; exact z, I2.bk _ _ (kb _ _ ho), nsB.keeps I2.bk, (PySem.W.tail_of_in kb ht).keeps I2.bk, fun h' a mk => raiseF I2 mk q⟩
    · cases hx
  · cases hx
end L2
set_option Elab.async false
set_option linter.all false
set_option maxRecDepth 100000
set_option maxHeartbeats 1000000
namespace EX
open PySem PySem.Spec PyProof.Rows
theorem entry_unchain : entryFor table "proto.unchain" = some Builtin.«proto.unchain» := entryFor_of_tree (by kernel_rfl)
section
variable {prog : Program} {w : World} {A : Around} {E : Value → Shared → Prop} {s : Shared}
theorem raiseNew_some {α : Type} {Q : α → Shared → Prop} {a hA C t : Addr} {hd : Value} {oa : Obj} {vs : Array Value} (hh : A.handled = some (.ref hA)) (ne : hA ≠ a) (hH : s.heap.get? hA = some (excO C t hd)) (ha : s.heap.get? a = some oa) (da : oa.data = .fields vs) (hz : 2 < vs.size)
    (h : E (.ref a) { s with heap := s.heap.update a (Obj.mapFields (·.setIfInBounds 2 (.ref hA))) }) : wpAny (model prog w) A (raiseNew (.ref a) : Sem α) Q E s := by
  unfold raiseNew
  refine wpAny_bind (wpAny_handled ?_)
  rw [hh]
  have n : ((Value.ref hA != Value.ref a) = true) := by simp [ne]
  simp only [n, if_true]
  refine wpAny_bind (wpAny_holding (wpAny_runValue (codeAny_builtin entry_unchain ?_)))
  unfold Builtin.«proto.unchain»
  refine wpAny_bind (wpAny_field hH rfl (x := .none) rfl ?_)
  rw [if_pos (by decide)]
  have back : wpAny (model prog w) A (do updateField a 2 (Value.ref hA); throw (Value.ref a) : Sem α) Q E s := by
    unfold updateField
    refine wpAny_bind (wpAny_bind (wpAny_load ha ?_))
    rw [da]
    show wpAny _ _ (if 2 < vs.size then _ else _) _ _ s
    rw [if_pos hz]
    exact wpAny_update ha (wpAny_throw h)
  first
    | exact wpAny_pure back
    | exact wpAny_bind (wpAny_pure (wpAny_pure back))
    | exact wpAny_bind (wpAny_pure back)
    | (wp_walk; exact back)
theorem range_end_h {hA C t : Addr} {hd : Value} {it : Addr} {x left step : Int} {Q : Option Value → Shared → Prop} (hh : A.handled = some (.ref hA)) (hH : s.heap.get? hA = some (excO C t hd)) (hit : IsRangeIter s.heap it x left step) (hl : left ≤ 0)
    (k : ∀ h', Heap.ExtBut it s.heap h' → Q none { s with heap := h' }) : wpAny (model prog w) A (pyNext (.ref it)) Q E s := by
  have ty : s.TypeIs (.ref it) "range_iterator" := ⟨_, hit, rfl⟩
  unfold pyNext
  refine wpAny_bind (wpAny_attempt (wpAny_callSpecial?_slot (name := Str.ofString "__next__") ty F.slot_range_iterator_next (wpAny_call_entry F.slot_range_iterator_next ty F.entry_range_iterator_next ?_ (F.args_range_iterator_next_1 _))))
  show wpAny _ _ (field (.ref it) 0 >>= _) _ _ s; refine wpAny_bind (wpAny_field hit rfl (x := rawInt x) rfl ?_)
  show wpAny _ _ (field (.ref it) 1 >>= _) _ _ s; refine wpAny_bind (wpAny_field hit rfl (x := rawInt left) rfl ?_)
  show wpAny _ _ (field (.ref it) 2 >>= _) _ _ s; refine wpAny_bind (wpAny_field hit rfl (x := rawInt step) rfl ?_)
  show wpAny _ _ (if left ≤ 0 then _ else _) _ _ s
  rw [if_pos hl]
  refine wpAny_bind (wpAny_rule (wpAny_bind ?_))
  show wpAny _ _ (newExc (.type "StopIteration") [] >>= _) _ _ _; refine wpAny_bind ?_
  simp only [newExc, newTuple]
  refine wpAny_bind (wpAny_newObj_type ?_ (by size_fits))
  refine wpAny_bind (m := firstArgMember _ _) (wpAny_of_eq (a := Value.none) (by first | rfl | (simp only [firstArgMember]; rfl)) ?_)
  refine wpAny_newObj_type ?_ (by size_fits)
  refine raiseNew_some (hA := hA) (C := C) (t := t) (hd := hd) (by first | exact hh | (show A.in1.handled = _; exact hh)) ?_ (Heap.get?_push_of_some _ (Heap.get?_push_of_some _ hH)) (Heap.get?_push_size _ rfl) rfl ?_ ?_
  · exact Nat.ne_of_lt (Nat.lt_of_lt_of_le (Heap.lt_size hH) (by rw [Heap.size_push]; exact Nat.le_succ _))
  · simp only [List.size_toArray, List.length_append, List.length_cons, Array.size_append]; first | omega | (simp; omega) | decide
  · refine wpAny_bind (wpAny_isInstance (T := "StopIteration") (b := true) ⟨_, Heap.get?_update_self _ (Heap.get?_push_size _ rfl) ?_, Obj.cls_mapFields _ _⟩ isSubtype_stop ?_)
    · exact Obj.isFreed_of_fields (Obj.data_mapFields rfl _)
    · refine wpAny_pure (k _ fun b o nb q => ?_)
      have lt := Heap.lt_size q
      refine (Heap.get?_update_other _ _ ?_).trans (Heap.get?_push_of_some _ (Heap.get?_push_of_some _ q))
      exact Nat.ne_of_gt (Nat.lt_of_lt_of_le lt (by rw [Heap.size_push]; exact Nat.le_succ _))
end
end EX
set_option Elab.async false
set_option linter.all false
set_option maxRecDepth 100000
set_option maxHeartbeats 2000000
namespace L2
open PySem PySem.Spec PyProof.Rows EX
def Qt (X : Cx) : Prop := X.calm = true ∨ ∃ hA C t hd, X.A.handled = some (.ref hA) ∧ (hA, excO C t hd) ∈ X.pn
def cxCR (X : Cx) (scope : Scope) (C : Addr) (N : List Str) (fp : List Addr) (s : Shared) (H : Hp) : Cx := { cxC X scope C N fp s H with pn := X.pn }
theorem Inv.blockR {X : Cx} {scope : Scope} {own cap : List Str} {ix : List Nat} {pins : List (Addr × Obj)} {σ : St} {H : Hp} {s : Shared} (I : Inv X pins σ H s) (B : BlkOk X scope own cap ix) {fp : List Addr} (hf : ∀ b ∈ fp, FpOk X pins H b) (ho : ∀ b ∈ fp, ∃ o, s.heap.get? b = some o) :
    Inv (cxCR X scope s.heap.objs.size (own ++ cap) fp s H) [] (blkσ own.length ix σ) H { s with heap := pushCells (s.heap.push { cls := .type "dict", data := .dict #[] }) scope.names } := by
  have J := I.block B hf ho
  refine ⟨⟨J.ok.mod, J.ok.kind, J.ok.glob, J.ok.blt, J.ok.above, J.ok.inj, J.ok.has, J.ok.cab, J.ok.hd, J.ok.frames, J.ok.stk, J.ok.exf, J.ok.bs, J.ok.bsz, J.ok.noex, J.ok.exfs, J.ok.funs, J.ok.frf⟩, J.os, J.bare, J.base, J.loc, J.cell, J.free, J.freeC, fun p hp => ?_, J.hok, J.len⟩
  have hp' : p ∈ X.pn := by simpa using (show p ∈ X.pn ++ [] from hp)
  obtain ⟨q1, q2, q3, q4, q5⟩ := I.pin p (List.mem_append_left _ hp')
  refine ⟨pushCells_keeps _ _ _ _ (Heap.get?_push_of_some _ q1), q2, ?_, ?_, q5⟩
  · exact Nat.ne_of_lt (Heap.lt_size q1)
  · intro z
    rcases List.mem_cons.mp (I.stkSub p.1 z) with e | e
    · exact q3 e
    · exact q4 e
structure TurnR (P : Program) (w : World) (K : PySem.W.Frag) (tg : Expr) (J : It) (fp : List Addr) (it : Addr) (tn : Nat → Heap → Prop) : Prop where
  mem : it ∈ fp
  obj : ∀ i h, tn i h → ∀ b ∈ fp, ∃ o, h.get? b = some o ∧ ∀ v, o.data ≠ .cell v
  keep : ∀ i h h', tn i h → (∀ b ∈ fp, ∀ o, h.get? b = some o → h'.get? b = some o) → tn i h'
  item : ∀ (X : Cx), X.prog = P → X.w = w → X.K = K → Qt X → ∀ (i : Nat) (pins : List (Addr × Obj)) (s : Shared) (σ : St) (H : Hp) (E : Value → Shared → Prop), Inv X pins σ H s → (∀ b ∈ fp, FpOk X pins H b) → tn i s.heap → J.go i H →
    wpAny (model P w) X.A (pyNext (.ref it)) (fun r s1 => ∃ u, r = some u ∧
      wpAny (model P w) X.A (letOwnedTupleGo tg (.ref it) u) (fun _ s2 => ∃ x H', Inv X pins σ H' s2 ∧ RelV x u ∧ J.yld i H x H' ∧ tn (i + 1) s2.heap ∧ ∀ b ∈ fp, H' b = none) E s1) E s
  done : ∀ (X : Cx), X.prog = P → X.w = w → X.K = K → Qt X → ∀ (i : Nat) (pins : List (Addr × Obj)) (s : Shared) (σ : St) (H : Hp) (E : Value → Shared → Prop), Inv X pins σ H s → (∀ b ∈ fp, FpOk X pins H b) → tn i s.heap → J.stop i H →
    wpAny (model P w) X.A (pyNext (.ref it)) (fun r s1 => r = none ∧ Inv X pins σ H s1) E s
  self : ∀ (A : Around) (i : Nat) (s : Shared) (Q : Value → Shared → Prop) (E : Value → Shared → Prop), tn i s.heap → Q (.ref it) s → wpAny (model P w) A (pyIter (.ref it)) Q E s
def PIER (X : Cx) (pins : List (Addr × Obj)) (σ : St) (tg : Expr) (R : It → Hp → Prop) (itv : Value) (s2 : Shared) : Prop :=
  ∃ (it : Addr) (fp : List Addr) (tn : Nat → Heap → Prop) (J : It) (H' : Hp), itv = .ref it ∧ Inv X pins σ H' s2 ∧ TurnR X.prog X.w X.K tg J fp it tn ∧ tn 0 s2.heap ∧ (∀ b ∈ fp, FpOk X pins H' b) ∧ R J H'
def PIR (X : Cx) (tg iter : Expr) (wi : TI) : Prop :=
  ∀ (pins : List (Addr × Obj)) (s : Shared) (σ : St) (H : Hp) (R : It → Hp → Prop), Inv X pins σ H s → wi σ H R →
    wpAny (model X.prog X.w) X.A (eval iter X.env) (fun v s1 => wpAny (model X.prog X.w) X.A (pyIter v) (PIER X pins σ tg R) X.xe s1) X.xe s
theorem turn_rangeR {P : Program} {w : World} {K : PySem.W.Frag} {tg : Expr} (it : Addr) (lo : Int) (n : Nat) : TurnR P w K tg (Itr lo n) [it] it (fun i h => IsRangeIter h it (lo + (i : Nat) * 1) ((n : Int) - (i : Nat)) 1) where
  mem := by simp
  obj := fun i h st b hb => by
    have e : b = it := by simpa using hb
    subst e
    exact ⟨_, st, fun v z => by
      have z' : Data.fields _ = Data.cell v := z
      cases z'⟩
  keep := fun i h h' st k => k it (by simp) _ st
  item := by
    intro X hP hw hK hc i pins s σ H E I hf st hg
    subst hP hw hK
    obtain ⟨f0, f1, f2, f3, f4, f5⟩ := hf it (by simp)
    have hgo : i < n := hg
    refine wpAny_pyNext_range_item st (by omega) fun h' st' kk => ?_
    have I1 : Inv X pins σ H { s with heap := h', toks := s.toks + 1 } := I.turned (fun b o hb e => (kk.2 b hb).trans e) f0 f1 f3 f4 f5
    have st2 : IsRangeIter h' it (lo + ((i + 1 : Nat) : Int) * 1) ((n : Int) - ((i + 1 : Nat) : Int)) 1 := by
      have e1 : lo + ((i + 1 : Nat) : Int) * 1 = lo + (i : Int) * 1 + 1 := by omega
      have e2 : (n : Int) - ((i + 1 : Nat) : Int) = (n : Int) - (i : Int) - 1 := by omega
      rw [e1, e2]; exact st'
    refine ⟨_, rfl, go_of (s := { s with heap := h', toks := s.toks + 1 }) (n := "range_iterator") st2 rfl rfl (by decide) ⟨.int (lo + i), H, I1, ⟨s.toks, ?_⟩, ⟨rfl, rfl⟩, st2, fun b hb => (hf b hb).1⟩⟩
    rw [Int.mul_one]
  done := by
    intro X hP hw hK hc i pins s σ H E I hf st hg
    subst hP hw hK
    obtain ⟨f0, f1, f2, f3, f4, f5⟩ := hf it (by simp)
    rcases hc with hc | ⟨hA, C, t, hd, hh, hp⟩
    · exact wpAny_pyNext_range_end (I.ok.hd hc) st (by have : n ≤ i := hg; omega) fun h' eb => ⟨rfl, I.turned (t' := s.toks) (fun b o hb e => eb b o hb e) f0 f1 f3 f4 f5⟩
    exact EX.range_end_h hh (I.pin _ (List.mem_append_left _ hp)).1 st (by have : n ≤ i := hg; omega) fun h' eb => ⟨rfl, I.turned (t' := s.toks) (fun b o hb e => eb b o hb e) f0 f1 f3 f4 f5⟩
  self := fun _ _ _ _ _ st h => wpAny_pyIter_rangeiter st h
section
variable {X : Cx} {tg : Expr}
theorem range_itR {pins : List (Addr × Obj)} {σ : St} {H : Hp} {s : Shared} {R : It → Hp → Prop} {E : Value → Shared → Prop} {lo hi : Int} {t u v : Tok} {tk : Nat} (I : Inv X pins σ H s) (h1 : -(2 ^ 62) ≤ lo) (h2 : lo < 2 ^ 62) (h3 : -(2 ^ 62) ≤ hi) (h4 : hi < 2 ^ 62)
    (q : R (Itr lo (hi - lo).toNat) H) : wpAny (model X.prog X.w) X.A (pyIter (.ref s.heap.objs.size)) (PIER X pins σ tg R) E { s with heap := s.heap.push { cls := .type "range", data := .fields #[.int lo t, .int hi u, .int 1 v] }, toks := tk } := by
  refine wpAny_pyIter_range (IsRange.new ..) (small_one h1 h2 h3 h4) ?_
  have I1 : Inv X pins σ H { s with heap := s.heap.push { cls := .type "range", data := .fields #[.int lo t, .int hi u, .int 1 v] }, toks := tk } := I.kept fun b o e => Heap.get?_push_of_some _ e
  refine ⟨(s.heap.push { cls := .type "range", data := .fields #[.int lo t, .int hi u, .int 1 v] }).objs.size, [(s.heap.push { cls := .type "range", data := .fields #[.int lo t, .int hi u, .int 1 v] }).objs.size], _, _, H, rfl,
    I1.kept (t' := tk) fun b o e => Heap.get?_push_of_some _ e, turn_rangeR _ lo (hi - lo).toNat, ?_, fun b hb => ?_, q⟩
  · have e1 : lo + ((0 : Nat) : Int) * 1 = lo := by simp
    have e2 : (((hi - lo).toNat : Nat) : Int) - ((0 : Nat) : Int) = Builtin.Range.rangeSize lo hi 1 := by rw [rangeSize_one]; split <;> omega
    show IsRangeIter _ _ (lo + ((0 : Nat) : Int) * 1) ((((hi - lo).toNat : Nat) : Int) - ((0 : Nat) : Int)) 1
    rw [e1, e2]
    exact Heap.get?_push_size _ rfl
  · have e : b = (s.heap.push { cls := .type "range", data := .fields #[.int lo t, .int hi u, .int 1 v] }).objs.size := by simpa using hb
    subst e
    exact I1.fpOk (Nat.le_refl _) (I1.hok.fresh (Nat.le_refl _))
theorem piR_range1 {a : Expr} {ta : TA} {p pos : Pos} (hg : Gl X "range") (hm : X.mg "range" = none) (ha : PA X [a] ta) (hs : starEach [a] X.env = [(false, eval a X.env)] := by rfl) : PIR X tg (.Call (.Name "range" p) [a] [] pos) (iRng1 ta) := by
  intro pins s σ H R I h
  refine Call_ (ld_blt I hg hm boot_range (PyProof.Rows.callWith_type1 (thn (ha pos pins s σ H _ I h) fun us s1 ⟨vs, H1, I1, r1, q1⟩ => ?_) hs rfl))
  obtain ⟨j, e, q1, q2, q⟩ := q1
  subst e
  cases r1 with
  | cons r rr =>
    cases rr
    obtain ⟨t, rfl⟩ := r
    exact call_range_1 (range_itR I1 (by omega) (by omega) q1 q2 (by simpa using q))
end
section
variable {X : Cx} {scope : Scope} {own cap : List Str} {ix : List Nat} {tg iter elt : Expr} {ifs : List Expr} {wi : TI} {g : TG} {tt : TT} {te : TE} {pos : Pos}
theorem comp_coreR {pins : List (Addr × Obj)} {σ : St} {H2 : Hp} {s2 : Shared} {it : Addr} {fp : List Addr} {tn : Nat → Heap → Prop} {J : It} {Q : VK} {RR : Value → Addr → Result → Shared → Prop} {E : Value → Shared → Prop}
    (B : BlkOk X scope own cap ix) (hc : Qt X)
    (hb : ∀ C fp s H, PG (cxCR X scope C (own ++ cap) fp s H) tg g ∧ PIfs (cxCR X scope C (own ++ cap) fp s H) ifs tt ∧ PE (cxCR X scope C (own ++ cap) fp s H) elt te)
    (I2 : Inv X pins σ H2 s2) (T : TurnR X.prog X.w X.K tg J fp it tn) (st2 : tn 0 s2.heap) (f2 : ∀ b ∈ fp, FpOk X pins H2 b)
    (q : ∀ acc, H2 acc = none → tCompN g tt te J acc (blkσ own.length ix σ) H2 Q)
    (hRR : ∀ D C H' s' m, Inv X pins σ H' s' → Q (.ref D) H' → s'.heap.Ns C m → FpOk X pins H' C → RR (.ref D) C (.ok .next) s') :
    wpAny (model X.prog X.w) X.A (newList []) (fun acc s₃ => wpAny (model X.prog X.w) X.A (newFunctionEnv scope X.env.globals (cloF X.env scope.names []) [] X.env.qual none .none (some X.env)) (fun cenv s₄ =>
      codeAny (model X.prog X.w) X.A (.compStart (.ListComp elt [⟨tg, iter, ifs, 0⟩] scope pos) 0 (.ref it) acc { cenv with scope := relabel scope X.env }) (RR acc cenv.locals) s₄) E s₃) E s2 := by
  refine wpAny_newObj_type (newEnv_comp ?_)
  have I3 : Inv X pins σ (upd H2 s2.heap.objs.size (.lst [])) { s2 with heap := s2.heap.push { cls := .type "list", dict := none, data := .seq ([] : List Value).toArray } } := I2.lnew (its := []) (ys := []) (t' := s2.toks) .nil (Nat.zero_le _)
  obtain ⟨W, ⟨m0, w0⟩, turn⟩ := q s2.heap.objs.size I2.fresh
  generalize hD : s2.heap.objs.size = D at I3 w0 turn ⊢
  have hlt : ∀ b ∈ fp, b < D := fun b hbm => by
    obtain ⟨o, e, _⟩ := T.obj 0 _ st2 b hbm
    rw [← hD]; exact Heap.lt_size e
  generalize hs3 : ({ s2 with heap := s2.heap.push { cls := .type "list", dict := none, data := .seq ([] : List Value).toArray } } : Shared) = s3 at I3 ⊢
  have keep3 : ∀ b o, s2.heap.get? b = some o → s3.heap.get? b = some o := fun b o e => by rw [← hs3]; exact Heap.get?_push_of_some _ e
  have f3 : ∀ b ∈ fp, FpOk X pins (upd H2 D (.lst [])) b := fun b hbm => ⟨by rw [upd_ne (Nat.ne_of_lt (hlt b hbm))]; exact (f2 b hbm).1, (f2 b hbm).2⟩
  have o3 : ∀ b ∈ fp, ∃ o, s3.heap.get? b = some o := fun b hbm => let ⟨o, e, _⟩ := T.obj 0 _ st2 b hbm; ⟨o, keep3 b o e⟩
  have I4 := I3.blockR B f3 o3
  have st4 : tn 0 (pushCells (s3.heap.push { cls := .type "dict", data := .dict #[] }) scope.names) := T.keep 0 _ _ st2 fun b _ o e => pushCells_keeps _ _ b o (Heap.get?_push_of_some _ (keep3 b o e))
  obtain ⟨hg, hif, he⟩ := hb s3.heap.objs.size fp s3 (upd H2 D (.lst []))
  generalize hX' : cxCR X scope s3.heap.objs.size (own ++ cap) fp s3 (upd H2 D (.lst [])) = X' at I4 hg hif he
  have eP : X'.prog = X.prog := by rw [← hX']; rfl
  have eW : X'.w = X.w := by rw [← hX']; rfl
  have eK : X'.K = X.K := by rw [← hX']; rfl
  have eA : X'.A = X.A := by rw [← hX']; rfl
  have eE : X'.env = compE scope s3.heap.objs.size X.env := by rw [← hX']; rfl
  have ex : X'.xe = fun _ _ => False := by rw [← hX']; rfl
  have hc' : Qt X' := by rw [← hX']; exact hc
  have stat : ∀ {H' : Hp}, (∀ b ∈ fp, H' b = none) → ∀ b ∈ fp, FpOk X' [] H' b := fun hn b hbm => by
    subst hX'
    exact ⟨hn b hbm, (I4.ok.exf b hbm).1, I4.ok.exfs b hbm, .inl hbm, (I4.ok.exf b hbm).2, fun p hp => (f3 b hbm).2.2.2.2.2 p (List.mem_append_left _ (by simpa using (show p ∈ X.pn ++ [] from hp)))⟩
  have loop : ∀ s4 : Shared, s4 = { s3 with heap := pushCells (s3.heap.push { cls := .type "dict", data := .dict #[] }) scope.names } →
      codeAny (model X.prog X.w) X.A (.compLoop (.ListComp elt [⟨tg, iter, ifs, 0⟩] scope pos) 0 (.ref it) (.ref D) (compE scope s3.heap.objs.size X.env)) (RR (.ref D) s3.heap.objs.size) s4 := by
    rintro s4 rfl
    refine comp_loop (fun n s' => ∃ i σ' H', Inv X' [] σ' H' s' ∧ tn i s'.heap ∧ (∀ b ∈ fp, H' b = none) ∧ W i n σ' H') ?_ m0 ⟨0, _, _, I4, st4, fun b hbm => (f3 b hbm).1, w0⟩
    rintro n s5 ⟨i, σ5, H5, I5, st5, fr5, w5⟩
    rcases turn i n σ5 H5 w5 with ⟨stop, qn⟩ | ⟨go, N, hN, step⟩
    · have := T.done X' eP eW eK hc' i [] s5 σ5 H5 (fun _ _ => False) I5 (stat fr5) st5 stop
      rw [eA] at this
      refine thn this fun r s6 ⟨hr, I6⟩ => ?_
      subst hr
      subst hX'
      have J6 : Inv X pins σ H5 s6 := I3.call' (ch := fp) I6.os I6.base I6.hok I6.bare fun b hbm => ⟨(f3 b hbm).2.2.2.1, (f3 b hbm).2.1, (f3 b hbm).2.2.2.2.1, (f3 b hbm).2.2.2.2.2⟩
      obtain ⟨m, hn, _⟩ := I6.loc
      exact hRR D _ H5 s6 m J6 qn hn (I3.fpOk (Nat.le_refl _) I6.free)
    · have := T.item X' eP eW eK hc' i [] s5 σ5 H5 (fun _ _ => False) I5 (stat fr5) st5 go
      rw [eA] at this
      refine thn this fun r s6 ⟨u, hr, h6⟩ => ?_
      subst hr
      refine thn h6 fun _ s7 ⟨x, H7, I7, r7, y7, st7, fr7⟩ => ?_
      have I7' := I7.pinned (stat fr7) (T.obj _ _ st7)
      have a1 := hg _ s7 σ5 H7 x u _ I7' r7 (step x H7 y7)
      rw [eP, eW, eA, eE, ex] at a1
      refine thn a1 fun _ s8 ⟨σ8, H8, I8, q8⟩ => ?_
      have a2 := hif _ s8 σ8 H8 _ I8 q8
      rw [eP, eW, eA, eE, ex] at a2
      refine thn a2 fun b s9 ⟨H9, I9, q9⟩ => ?_
      have again : ∀ {s' : Shared} {σ' : St} {H' : Hp}, Inv X' ([] ++ pinsAt fp s7.heap) σ' H' s' → N σ' H' → ∃ m, m < n ∧ ∃ i σ' H', Inv X' [] σ' H' s' ∧ tn i s'.heap ∧ (∀ b ∈ fp, H' b = none) ∧ W i m σ' H' := fun {s' σ' H'} I' n' => by
        obtain ⟨m', hm, w'⟩ := hN σ' H' n'
        refine ⟨m', hm, i + 1, σ', H', I'.unpinned, T.keep _ _ _ st7 fun b hbm o e => (I'.pin (b, o) (List.mem_append_right _ (List.mem_append_right _ (mem_pinsAt hbm e)))).1, fun b hbm => ?_, w'⟩
        obtain ⟨o, e, d⟩ := T.obj _ _ st7 b hbm
        exact (I'.pin (b, o) (List.mem_append_right _ (List.mem_append_right _ (mem_pinsAt hbm e)))).2.1
      cases b with
      | false => exact again I9 q9
      | true =>
        rw [if_pos rfl] at q9 ⊢
        have a3 := he _ s9 σ8 H9 _ I9 q9
        rw [eP, eW, eA, eE, ex] at a3
        refine thn a3 fun yv s10 ⟨y, H10, I10, r10, ys, hys, hz, q10⟩ => ?_
        have a4 := mt_append (X := X') _ s10 σ8 H10 (.ref D) [y] (.ref D) [yv] (fun v H' => v = .non ∧ N σ8 H') I10 rfl (.cons r10 .nil) ⟨D, ys, y, rfl, rfl, hys, hz, rfl, q10⟩
        rw [eP, eW, eA, ex] at a4
        refine thn a4 fun _ s11 ⟨_, H11, I11, _, _, q11⟩ => again I11 q11
  exact codeAny_compStart_list (loop _ rfl) (T.self X.A 0 _ _ _ st4 (loop _ rfl))
theorem pe_compR (B : BlkOk X scope own cap ix) (hc : Qt X) (hi : PIR X tg iter wi)
    (hb : ∀ C fp s H, PG (cxCR X scope C (own ++ cap) fp s H) tg g ∧ PIfs (cxCR X scope C (own ++ cap) fp s H) ifs tt ∧ PE (cxCR X scope C (own ++ cap) fp s H) elt te)
    (hs : ∀ x, foldedSetIterable iter X.env x = pure x := by intro _; rfl) : PE X (.ListComp elt [⟨tg, iter, ifs, 0⟩] scope pos) (tComp wi g tt te own.length ix) := by
  intro pins s σ H Q I h
  rw [eval_ListComp]
  have has : ∀ x ∈ scope.names, x.2 = .free → (X.env.cells.lookup x.1).isSome = true := fun x hx hk => by
    obtain ⟨c, e⟩ := I.ok.has x.1 (B.frees x hx hk)
    rw [e]; rfl
  refine wpAny_comprehension_free (use := none) rfl hs (closureFor_cells has) B.kind B.names ?_
  show wpAny _ _ (eval iter X.env) _ _ s
  refine thn (hi pins s σ H _ I h) fun v s1 h1 => thn h1 fun itv s2 h2 => ?_
  obtain ⟨it, fp, tn, J, H2, e, I2, T, st2, f2, q⟩ := h2
  subst e
  refine comp_coreR (RR := fun acc C => compPost (model X.prog X.w) X.A X.xe none (EP X pins σ Q) acc C) B hc hb I2 T st2 f2 q ?_
  intro D C H' s' m I' q' hn fC
  refine ⟨m, hn, fun h' hsb => ⟨.ref D, H', ?_, rfl, q'⟩⟩
  exact I'.turned (t' := s'.toks) (it := C) (fun b o hbC e => (hsb.2 b hbC).trans e) fC.1 fC.2.1 fC.2.2.2.1 fC.2.2.2.2.1 fC.2.2.2.2.2
end
end L2
set_option Elab.async false
set_option linter.all false
set_option maxRecDepth 100000
set_option maxHeartbeats 1000000
namespace EX
open PySem PySem.Spec PyProof.Rows PySem.W
structure ExcK (K : Frag) (D : Addr) : Prop where
  ga : findIn K (.ref D) "__getattribute__" = some (some (.builtin "BaseException.__getattribute__"))
  gt : findIn K (.ref D) "__getattr__" = some none
  cl : findIn K (.ref D) "__class__" = some (some (.builtin "object.__class__"))
  get : specialIn K (.builtin "object.__class__") "__get__" = some (some (.builtin "getset_descriptor.__get__"))
  tk : takesIn K (.builtin "object.__class__") = some true
  ob : mroIn K D (.type "object") = some true
  be : mroIn K D (.type "BaseException") = some true
section
variable {prog : Program} {w : World} {A : Around} {E : Value → Shared → Prop} {s : Shared} {K : Frag} {x D t : Addr} {hd : Value}
theorem inst_exc {h : Heap} (hx : h.get? x = some (excO D t hd)) : PySem.W.InstAt h x (excO D t hd) D none := ⟨hx, rfl, rfl, trivial⟩
theorem exc_class {Q : Option Value → Shared → Prop} (Z : ExcK K D) (X : K.In s.heap) (hx : s.heap.get? x = some (excO D t hd)) (k : Q (some (.ref D)) { s with toks := s.toks + 1 }) : wpAny (model prog w) A (getAttr? (.ref x) "__class__") Q E s := by
  have I := inst_exc hx
  obtain ⟨hh, g, d, tt, os⟩ := s
  have L0 := I.type (M := model prog w)
  have L1 := looks_findIn (M := model prog w) X Z.ga
  have L2 := looks_findIn (M := model prog w) X Z.gt
  have hcls : ∃ cd, clsIn K D = some cd := by
    have := Z.ob
    unfold mroIn at this
    obtain ⟨cd, q, _⟩ := Option.bind_eq_some_iff.mp this
    exact ⟨cd, q⟩
  have hf : findObj K D none "__class__" = some (.bind (.builtin "getset_descriptor.__get__") (.builtin "object.__class__")) := by
    obtain ⟨cd, hc⟩ := hcls
    unfold findObj
    rw [hc, Option.bind_some, Z.cl, Option.bind_some]
    simp [Z.get, Z.tk]
  have L3 := looks_find (M := model prog w) X I hf
  have L4 := looks_mroIn (M := model prog w) X Z.be
  unfold getAttr? getAttrBy? getAttrBy
  refine wpAny_bind (wpAny_mkText (wpAny_bind (wpAny_attempt (wpAny_holding (wpAny_bind (L0.at (wpAny_bind (L1.at ?_))))))))
  show wpAny _ _ (if (onTheHeap (Value.ref D) && Value.builtin "BaseException.__getattribute__" == .builtin "object.__getattribute__") = true then _ else getAttrByItsOwn _ _ _ _ _ _) _ _ _
  rw [if_neg (by rw [show (Value.builtin "BaseException.__getattribute__" == Value.builtin "object.__getattribute__") = false by decide +kernel, Bool.and_false]; exact Bool.false_ne_true)]
  unfold getAttrByItsOwn hookBefore
  refine wpAny_bind (L2.at (wpAny_bind (wpAny_attempt (wpAny_holding ?_))))
  show wpAny _ _ (boundAndCalled _ _ _) _ _ _
  unfold boundAndCalled
  have f3 := F.attr_ValueError.ga.bind (.ref x)
  rw [f3]
  refine wpAny_bind (wpAny_pure (wpAny_call (codeAny_call_builtin F.attr_ValueError.ga.plain F.entry_bexc_ga ?_)))
  have hk : builtinKind "BaseException.__getattribute__" = some .slot := by decide +kernel
  have hsp : splitId "BaseException.__getattribute__" = some ("BaseException", "__getattribute__") := by decide +kernel
  have har := F.args_bexc_ga (.ref x) (.str "__class__" tt)
  simp only [checkBuiltinCall, hk, hsp]
  have LI : Looks (model prog w) hh (isInstance (.ref x) (.type "BaseException")) true := L0.andThen L4
  show wpAny _ _ (isInstance (.ref x) (.type "BaseException") >>= _) _ _ _
  refine wpAny_bind (LI.at ?_)
  simp only [Bool.not_true, Bool.false_eq_true, if_false]
  unfold argsOk at har
  show wpAny _ _ (match Manifest.signature? "BaseException.__getattribute__" with | some sig => Bind.checkArgs "BaseException.__getattribute__" sig ⟨[.ref x, .str "__class__" tt], []⟩ | x => pure ()) _ _ _
  refine wpAny_of_eq har ?_
  unfold Builtin.«object.__getattribute__»
  repeat (any_goals (first | with_reducible refine L0.at ?_ | with_reducible refine L3.at ?_ | wp_step))
  refine class_get (s := ⟨hh, g, d, tt + 1, os⟩) X I Z.ob ?_
  exact wpAny_pure (handed_on rfl (wpAny_pure k))
theorem kitx_exc (Z : ExcK K D) : KitX K (.ref x) (.ref D) (fun h => h.get? x = some (excO D t hd)) where
  ty := fun _ _ _ hx => (inst_exc hx).type
  it := fun M h X _ => by
    have := Z.ob
    unfold mroIn at this
    obtain ⟨cd, q, _⟩ := Option.bind_eq_some_iff.mp this
    unfold clsIn at q
    split at q
    · rename_i c' d' cd' sl' ho
      intro A' Q' E' s' k hq
      unfold isType loadHead
      exact wpAny_bind (wpAny_loadPart (k _ _ (X _ _ ho)) (wpAny_pure hq))
    · cases q
  ne := fun h tp dd its n sl X htp => by
    have := Z.ob
    unfold mroIn at this
    obtain ⟨cd, q, _⟩ := Option.bind_eq_some_iff.mp this
    refine Bool.eq_false_iff.mpr fun z => ?_
    have e : D = tp := Value.ref.inj (beq_iff_eq.mp z)
    subst e
    unfold clsIn at q
    split at q
    · rename_i c' d' cd' sl' ho
      have y := (X _ _ ho).symm.trans htp
      cases y
    · cases q
  ca := fun X hx k => exc_class Z X hx k
end
end EX
namespace L2
open PySem PySem.Spec PyProof.Rows EX
def tIsE (K : PySem.W.Frag) (D : Addr) (c : Value) (ea : Addr) (te : TE) : TE := fun σ H Q => te σ H fun x H1 => x = .ref ea ∧ ∃ b, PySem.W.kitOne K (.ref D) c = some b ∧ Q (.bl b) H1
section
variable {X : Cx} {e : Expr} {te : TE} {ea D t : Addr} {hd : Value}
theorem isE_at {pins : List (Addr × Obj)} {s : Shared} {σ : St} {H : Hp} {Q : VK} {c : Value} {b : Bool} (Z : ExcK X.K D) (hp : (ea, excO D t hd) ∈ X.pn) (I : Inv X pins σ H s) (ek : PySem.W.kitOne X.K (.ref D) c = some b) (q : Q (.bl b) H) :
    wpAny (model X.prog X.w) X.A (call (.builtin "isinstance") [.ref ea, c]) (EP X pins σ Q) X.xe s :=
  PySem.W.kia_one (kitx_exc (x := ea) (t := t) (hd := hd) Z) I.kIn (I.pin _ (List.mem_append_left _ hp)).1 ek (fun z => nomatch z) fun tk => ⟨.bl b, H, I.tok tk, rfl, q⟩
theorem pe_isEC {T : Str} {C : Addr} {p p2 pos : Pos} (Z : ExcK X.K D) (hp : (ea, excO D t hd) ∈ X.pn) (he : PE X e te) (hg : Gl X "isinstance") (hm : X.mg "isinstance" = none) (hgT : Gl X T) (hmT : X.mg T = some (.ref C))
    (hb : bootBuiltins "isinstance" = some (.builtin "isinstance")) (hdT : (T == ("__debug__" : Str)) = false := by decide)
    (hs : starEach [e, .Name T p2] X.env = [(false, eval e X.env), (false, eval (.Name T p2) X.env)] := by rfl)
    (hpl : (backTo pos (starEach [.Name T p2] X.env)).any (·.1) = false := by rfl) : PE X (.Call (.Name "isinstance" p) [e, .Name T p2] [] pos) (tIsE X.K D (.ref C) ea te) := by
  intro pins s σ H Q I h
  refine Call_ (ld_blt I hg hm hb (PyProof.Rows.callWith_builtin1 (spl2 (Q := fun us s1 => wpAny (model X.prog X.w) X.A (call (.builtin "isinstance") us) (EP X pins σ Q) X.xe s1) he I h hs fun u s1 x H1 I1 r q => ?_) ?_ hpl))
  · refine ld_glob I1 hgT hmT ?_ hdT
    obtain ⟨rfl, b, ek, q⟩ := q
    cases r
    exact isE_at Z hp I1 ek q
  · rw [hs]; rfl
theorem pe_isEB {T : Str} {n : String} {p p2 pos : Pos} (Z : ExcK X.K D) (hp : (ea, excO D t hd) ∈ X.pn) (he : PE X e te) (hg : Gl X "isinstance") (hm : X.mg "isinstance" = none) (hgT : Gl X T) (hmT : X.mg T = none) (hv : bootBuiltins T = some (.type n))
    (hb : bootBuiltins "isinstance" = some (.builtin "isinstance")) (hnT : T ≠ "__name__" := by decide) (hdT : (T == ("__debug__" : Str)) = false := by decide)
    (hs : starEach [e, .Name T p2] X.env = [(false, eval e X.env), (false, eval (.Name T p2) X.env)] := by rfl)
    (hpl : (backTo pos (starEach [.Name T p2] X.env)).any (·.1) = false := by rfl) : PE X (.Call (.Name "isinstance" p) [e, .Name T p2] [] pos) (tIsE X.K D (.type n) ea te) := by
  intro pins s σ H Q I h
  refine Call_ (ld_blt I hg hm hb (PyProof.Rows.callWith_builtin1 (spl2 (Q := fun us s1 => wpAny (model X.prog X.w) X.A (call (.builtin "isinstance") us) (EP X pins σ Q) X.xe s1) he I h hs fun u s1 x H1 I1 r q => ?_) ?_ hpl))
  · refine ld_blt I1 hgT hmT hv ?_ hnT hdT
    obtain ⟨rfl, b, ek, q⟩ := q
    cases r
    exact isE_at Z hp I1 ek q
  · rw [hs]; rfl
end
end L2
set_option Elab.async false
set_option linter.all false
set_option maxRecDepth 100000
set_option maxHeartbeats 1000000
namespace EX
open PySem PySem.Spec PyProof.Rows PySem.W
section
variable {prog : Program} {w : World} {A : Around} {E : Value → Shared → Prop} {s : Shared} {K : Frag} {e D C t : Addr} {hd : Value}
theorem exc_match {Q : Bool → Shared → Prop} {b : Bool} (X : K.In s.heap) (he : s.heap.get? e = some (excO D t hd)) (hty : typeIn K (.ref C) = some (.type "type")) (hb : mroIn K C (.type "BaseException") = some true) (hs : mroIn K D (.ref C) = some b) (k : Q b s) :
    wpAny (model prog w) A (excMatches (.ref e) (.ref C)) Q E s := by
  obtain ⟨hh, g, d, tt, os⟩ := s
  have L0 := (inst_exc he).type (M := model prog w)
  have L1 := looks_typeIn (M := model prog w) X hty
  have L2 := looks_mroIn (M := model prog w) X hb
  have L3 := looks_mroIn (M := model prog w) X hs
  have f := tc_notTuple
  have hC : ∃ o cd, K.lookup C = some o ∧ o.data = .cls cd := by
    have := hb
    unfold mroIn at this
    obtain ⟨cd, q, _⟩ := Option.bind_eq_some_iff.mp this
    unfold clsIn at q
    split at q
    · rename_i ho; exact ⟨_, _, ho, rfl⟩
    · cases q
  obtain ⟨oC, cdC, ho, hdC⟩ := hC
  have gC := X _ _ ho
  unfold excMatches
  repeat (any_goals (first | with_reducible refine L0.at ?_ | with_reducible refine L1.at ?_ | with_reducible refine L2.at ?_ | with_reducible refine L3.at ?_ | wp_step))
  cases b <;> (repeat (any_goals wp_step)) <;> exact k
end
end EX
namespace L2
open PySem PySem.Spec PyProof.Rows EX
def rJoin (K : PySem.W.Frag) : V → List V → Hp → VK → Prop := fun x vs H Q => ∃ (y : Str) (p : Addr) (zs : List Str), x = .str y ∧ vs = [.ref p] ∧ SqL K H p (zs.map V.str) ∧ (∀ z ∈ zs, z.length ≤ 12) ∧ y.length ≤ 4 ∧ zs.length ≤ 1000 ∧ Q (.str (PySem.Txt.join y zs)) H
theorem carried_strs : ∀ {zs : List Str} {us : List Value}, Vals (zs.map V.str) us → CarriedAll us (zs.map fun z => PyData.str z)
  | [], _, r => by cases r; exact .nil
  | z :: zs, _, r => by
    rw [List.map_cons] at r
    cases r with
    | cons r1 r2 =>
      obtain ⟨t, rfl⟩ := r1
      exact .cons (.str _ t) (carried_strs r2)
theorem mt_join {X : Cx} (K : PySem.W.Frag) (hK : X.K = K := by rfl) : MtR X "str.join" (rJoin K) := by
  subst hK
  intro pins s σ H x vs v us Q I rx rv h
  obtain ⟨y, p, zs, rfl, rfl, hq, hB, hy, hn, q⟩ := h
  obtain ⟨t, rfl⟩ := rx
  obtain ⟨u, rfl, ru⟩ := rv.one
  cases ru
  obtain ⟨its, r, hl, _⟩ := I.list hq
  refine PySem.W.KT.join_B 12 hl.isList (l := zs) (g := fun z => z) (carried_strs r) hB (by omega) (by omega) fun t' k => ?_
  rw [List.map_id']
  exact ⟨.str _, H, I.tok k, ⟨_, rfl⟩, q⟩
end L2
set_option Elab.async false
set_option linter.all false
set_option maxRecDepth 100000
set_option maxHeartbeats 1000000
namespace L2
open PySem PySem.Spec PyProof.Rows EX
structure RoomH (k : Nat) (A : Around) (ea : Addr) : Prop where
  hd : A.handled = some (.ref ea)
  dp : A.depth + 3 * k + 5 < recursionLimit
  un : A.units + 16 * k + 200 < cLine
theorem RoomH.deeper {k : Nat} {A : Around} {ea : Addr} (r : RoomH (k + 1) A ea) (env : Env) : RoomH k (A.deeper env) ea :=
  ⟨r.hd, by have := r.dp; show A.depth + 1 + 3 * k + 5 < _; omega, by have := r.un; show A.units + 3 + 16 * k + 200 < _; omega⟩
def cxH (P : Program) (w : World) (K : PySem.W.Frag) (mg : Str → Option Value) (base : Heap) (N : List Str) (qual : Str) (scope : Scope) (f : Addr) (cd : Value) (A : Around) (outer : List Env) (s : Shared) (H : Hp) (ea D t : Addr) (hd : Value) : Cx :=
  { cxOf CX0 P w K mg base N qual scope f cd A outer s H E0 with calm := false, pn := [(ea, excO D t hd)], xe := fun _ _ => False }
structure FnH (P : Program) (w : World) (K : PySem.W.Frag) (mg : Str → Option Value) (base : Heap) (k : Nat) (f : Addr) (fd : FuncData) (ps : List Str) (sp : Addr → Addr → Sp) : Prop where
  len : ∀ ea D vs H Q E, sp ea D vs H Q E → vs.length = ps.length
  run : ∀ (A : Around) (outer : List Env) (s : Shared) (H : Hp) (args : Args) (us : List Value) (vs : List V) (Q : VK) (E : XK) (ea D t : Addr) (hd : Value), RoomH k A ea → Env0 P w K mg base A outer s H → s.heap.get? ea = some (excO D t hd) → H ea = none → ea ∉ frs outer →
    BindsTo s fd args (ps.zip us) → Vals vs us → sp ea D vs H Q E → codeAny (model P w) A (.call (.ref f) args) (CR CX0 outer P w H s Q E) s
section
variable {P : Program} {w : World} {K : PySem.W.Frag} {mg : Str → Option Value} {base : Heap}
theorem inv_startH {N ps : List Str} {qual : Str} {scope : Scope} {f : Addr} {cd : Value} {A : Around} {outer : List Env} {s s1 : Shared} {H : Hp} {us : List Value} {vs : List V} {ea D t : Addr} {hd : Value}
    (S : FnScope N ps scope) (e0 : Env0 P w K mg base A outer s H) (hl : vs.length = ps.length) (r : Vals vs us) (he : s.heap.get? ea = some (excO D t hd)) (hn : H ea = none) (hf : ea ∉ frs outer)
    (x : InCallC s s.heap.objs.size (bindL (envOfC qual scope s.heap.objs.size f cd).kindOf (ps.zip us) fun _ => none) (cellsFrom (s.heap.objs.size + 1) scope.names []) (bindC (envOfC qual scope s.heap.objs.size f cd).kindOf (ps.zip us) fun _ => none) s1) :
    Inv (cxH P w K mg base N qual scope f cd A outer s H ea D t hd) [] (start N vs) H s1 := by
  have e1 : Env0 P w K mg base { A with handled := none } outer s H := ⟨e0.frames, e0.mod, e0.bs, e0.bsz, e0.funs, e0.frf, e0.hok, e0.bare⟩
  have J := inv_start (CX := CX0) (E := E0) (A := { A with handled := none }) S rfl e1 hl r x
  have keep := x.toInCall.keep
  refine ⟨⟨J.ok.mod, J.ok.kind, J.ok.glob, J.ok.blt, J.ok.above, J.ok.inj, J.ok.has, J.ok.cab, fun z => (nomatch z), Around.frames_deeper e0.frames, J.ok.stk, J.ok.exf, J.ok.bs, J.ok.bsz, J.ok.noex, J.ok.exfs, J.ok.funs, J.ok.frf⟩, J.os, J.bare, J.base, J.loc, J.cell, J.free, J.freeC, fun p hp => ?_, J.hok, J.len⟩
  have hp' : p = (ea, excO D t hd) := by simpa using (show p ∈ [(ea, excO D t hd)] ++ [] from hp)
  subst hp'
  exact ⟨keep _ _ he, hn, Nat.ne_of_lt (Heap.lt_size he), hf, fun v z => by cases z⟩
theorem Fun.okH {x qual : Str} {st : Stmt} {f : Addr} {fd : FuncData} {N ps : List Str} {k : Nat} {sp : Addr → Addr → Sp} (F : Fun K x qual st f fd) (S : FnScope N ps (defScope st)) (len : ∀ ea D vs H Q E, sp ea D vs H Q E → vs.length = ps.length)
    (hbody : ∀ (cdv : Value) (A : Around) (outer : List Env) (s : Shared) (H : Hp) (vs : List V) (Q : VK) (E : XK) (ea D t : Addr) (hd : Value), RoomH k (A.deeper (envOfC qual (defScope st) s.heap.objs.size f cdv)) ea → sp ea D vs H Q E →
      ∃ t', PSs (cxH P w K mg base N qual (defScope st) f cdv A outer s H ea D t hd) (defBody st) t' ∧ t' { nx := fun _ H' => Q .non H', rt := Q } (start N vs) H) : FnH P w K mg base (k + 1) f fd ps sp := by
  obtain ⟨oc, od, kV, doc, pm, an, cdv, ct, osl, rfl, lk, hcd⟩ := F.ex
  refine ⟨len, fun A outer s H args us vs Q E ea D t hd hr e0 he hn hf hb r hsp => ?_⟩
  have hl := len _ _ _ _ _ _ hsp
  have KX : K.In s.heap := e0.mod.kin.keeps fun b o e => (e0.bs b o e).1
  have lim : s.heap.NoLimit := e0.mod.nolimit.keeps fun b o e => (e0.bs b o e).1
  have hkind : ∀ y ∈ ps.zip us, (defScope st).names.lookup y.1 = some .local ∨ ((defScope st).names.lookup y.1 = some .cell ∧ ((cellsFrom (s.heap.objs.size + 1) (defScope st).names []).lookup y.1).isSome = true) := fun ⟨n, v⟩ hy => by
    rcases S.par n (List.of_mem_zip hy).1 with q | q
    · exact .inl q
    · exact .inr ⟨q, PySem.W.cellsFrom_some _ _ _ (.inl q)⟩
  refine codeAny_call_function (by have := hr.dp; omega) (KX _ _ lk) rfl S.co S.gen rfl (PySem.W.codeRec_of KX hcd) (hb _ _ _ _ ?_)
  refine wpAny_newFunctionEnv_cells S.kind hkind fun env he' s1 x => ?_
  subst he'
  refine ⟨lim.keeps x.toInCall.keep, codeAny_func ?_⟩
  obtain ⟨t', ht, hq⟩ := hbody cdv A outer s H vs Q E ea D t hd (hr.deeper _) hsp
  have I := inv_startH (qual := qual) (f := f) (cd := cdv) S e0 hl r he hn hf x
  refine wpAny_mono (ht [] s1 (start N vs) H _ I hq) (fun fl s' hs => ?_) fun e s' hs => False.elim hs
  have fin : ∀ {σ' : St} {H' : Hp} {v : V} {u : Value}, Inv (cxH P w K mg base N qual (defScope st) f cdv A outer s H ea D t hd) [] σ' H' s' → RelV v u → Q v H' → CE outer P w H s Q u s' :=
    fun {σ' H' v u} J rv q => ⟨v, H', J.os, J.bare, J.base, J.hok, rv, q⟩
  cases fl with
  | ret u =>
    obtain ⟨v, σ', H', J, rv, q⟩ := hs
    exact fin J rv q
  | next =>
    obtain ⟨σ', H', J, q⟩ := hs
    exact fin (v := V.non) (u := Value.none) J rfl q
  | brk =>
    obtain ⟨_, _, _, q⟩ := hs
    exact False.elim q
  | cont =>
    obtain ⟨_, _, _, q⟩ := hs
    exact False.elim q
end
end L2
set_option Elab.async false
set_option linter.all false
set_option maxRecDepth 100000
set_option maxHeartbeats 2000000
namespace L2
open PySem PySem.Spec PyProof.Rows EX
theorem un_up {l : List Env} {H H' : Hp} {h h1 h2 B : Heap} {a C t : Addr} (un : Un (frs l) [] H H' h h1) (third : ∀ b o, h.get? b = some o → b ∉ frs l → (∃ o', B.get? b = some o') ∧ (H b = none → B.get? b = some o))
    (ff : h1.FunFrames B l) (air : Air B l a C t h2) (up : h1.UpToSlots h2) : Un (frs l) [] H H' h h2 := by
  refine ⟨fun b o q n nf _ => air.st b o ((third b o q nf).2 n), fun b o q n m _ => ?_, un.free, fun b o q _ => ?_, un.tups, un.frzs, un.tbls⟩
  · obtain ⟨sl, q1⟩ := un.slot b o q n m (by simp)
    obtain ⟨_, o3, q3, nf⟩ := ff.mem m
    rw [q1] at q3
    cases q3
    obtain ⟨sl3, q4⟩ := up b _ q1 nf
    exact ⟨sl3, q4⟩
  · by_cases m : b ∈ frs l
    · obtain ⟨_, o3, q3, nf⟩ := ff.mem m
      obtain ⟨sl3, q4⟩ := up b _ q3 nf
      exact ⟨_, q4⟩
    · obtain ⟨o2, q2⟩ := (third b o q m).1
      exact ⟨o2, air.st b o2 q2⟩
section
variable {X : Cx} {pins : List (Addr × Obj)} {σ : St} {H : Hp} {s : Shared}
theorem inv_goes {n : Str} {j : Nat} {m : Str → Option Value} {h' : Heap} {v : Option Value} {tk : Nat} (I : Inv X pins σ H s) (hN : X.N.Nodup) (hj : X.N[j]? = some n) (hn : s.heap.Ns X.env.locals m)
    (hl : ∀ (i : Nat) (x : Str) (v : V), X.N[i]? = some x → σ[i]? = some (some v) → Vis X.env.scope x → ∃ u, RelV v u ∧ Look X.env s.heap m x u)
    (hn' : h'.Ns X.env.locals (fun x => if x = n then v else m x)) (hs : Heap.SameBut X.env.locals s.heap h') : Inv X pins (σ.set j none) H { s with heap := h', toks := tk } := by
  have cne := I.cne
  have ltL : ∀ b o, X.s₀.heap.get? b = some o → b ≠ X.env.locals := fun b o e => Nat.ne_of_lt (Nat.lt_of_lt_of_le (Heap.lt_size e) I.ok.above)
  refine ⟨I.ok, I.os, I.bare, ⟨fun b o e n hb hx => (hs.2 b (ltL b o e)).trans (I.base.keep b o e n hb hx), fun b o e n hb hx => ?_, I.base.free, fun b o e hx => ?_, I.base.tups, I.base.frzs, I.base.tbls⟩, ⟨_, hn', fun i x v' e1 e2 e3 => ?_⟩, fun y c e => ?_, I.free, I.freeC, fun p hp => ?_, fun b ob e => ?_, by simpa using I.len⟩
  · obtain ⟨sl, e1⟩ := I.base.slot b o e n hb hx
    exact ⟨sl, (hs.2 b (ltL b o e)).trans e1⟩
  · obtain ⟨o', e1⟩ := I.base.there b o e hx
    exact ⟨o', (hs.2 b (ltL b o e)).trans e1⟩
  · by_cases hji : i = j
    · subst hji
      by_cases hlt : i < σ.length
      · rw [List.getElem?_set_self hlt] at e2; cases e2
      · rw [List.getElem?_eq_none (by simpa using hlt)] at e2; cases e2
    · rw [List.getElem?_set_ne (Ne.symm hji)] at e2
      obtain ⟨u, r, q⟩ := hl i x v' e1 e2 e3
      refine ⟨u, r, ?_⟩
      rcases q with ⟨kd, e⟩ | ⟨kd, c, e, z⟩
      · have : x ≠ n := fun z => hji (nodup_ix hN e1 (z ▸ hj))
        exact .inl ⟨kd, by simp [this, e]⟩
      · exact .inr ⟨kd, c, e, z.sameBut hs (cne x c e)⟩
  · obtain ⟨w', z⟩ := I.cell y c e
    exact ⟨w', z.sameBut hs (cne y c e)⟩
  · obtain ⟨e, n, ne, nf, d⟩ := I.pin p hp
    exact ⟨(hs.2 p.1 ne).trans e, n, ne, nf, d⟩
  · refine (I.hok b ob e).stay (fun c w' hc q => (hs.2 c ?_).trans q) (fun _ q => q) fun _ _ q => q
    rintro rfl
    rcases hc with z | z
    · rw [← z, I.free] at e; cases e
    · rw [I.free] at z; cases z
def cxS (X : Cx) (ea D t : Addr) (hd : Value) : Cx := { X with A := X.A.mark (some (.ref ea)), calm := false, pn := (ea, excO D t hd) :: X.pn, xe := fun _ _ => False }
theorem Inv.suite {ea D t : Addr} {hd : Value} (I : Inv X pins σ H s) (he : s.heap.get? ea = some (excO D t hd)) (hn : H ea = none) (hL : ea ≠ X.env.locals) (hf : ea ∉ X.fs) : Inv (cxS X ea D t hd) pins σ H s := by
  refine ⟨⟨I.ok.mod, I.ok.kind, I.ok.glob, I.ok.blt, I.ok.above, I.ok.inj, I.ok.has, I.ok.cab, fun z => (nomatch z), I.ok.frames, I.ok.stk, I.ok.exf, I.ok.bs, I.ok.bsz, I.ok.noex, I.ok.exfs, I.ok.funs, I.ok.frf⟩, I.os, I.bare, I.base, I.loc, I.cell, I.free, I.freeC, fun p hp => ?_, I.hok, I.len⟩
  have hp' : p = (ea, excO D t hd) ∨ p ∈ X.pn ++ pins := List.mem_cons.mp (show p ∈ (ea, excO D t hd) :: (X.pn ++ pins) from hp)
  rcases hp' with z | z
  · subst z; exact ⟨he, hn, hL, hf, fun v z => by cases z⟩
  · exact I.pin p z
theorem Inv.unsuite {ea D t : Addr} {hd : Value} (ok : X.Ok) (I : Inv (cxS X ea D t hd) pins σ H s) : Inv X pins σ H s :=
  ⟨ok, I.os, I.bare, I.base, I.loc, I.cell, I.free, I.freeC, fun p hp => I.pin p (show p ∈ (ea, excO D t hd) :: (X.pn ++ pins) from List.mem_cons_of_mem _ hp), I.hok, I.len⟩
end
def tCallH (sp : Addr → Addr → Sp) (ea D : Addr) (t : TA) : TE := fun σ H Q => t σ H fun vs H1 => sp ea D vs H1 Q E0
theorem pe_callH {X : Cx} {k : Nat} {f ea D t : Addr} {hd : Value} {fd : FuncData} {ps : List Str} {sp : Addr → Addr → Sp} {x : Str} {p pos : Pos} {e : Expr} {es : List Expr} {ta : TA} (F : FnH X.prog X.w X.K X.mg X.base k f fd ps sp) (hr : RoomH k X.A ea) (hp : (ea, excO D t hd) ∈ X.pn)
    (hg : Gl X x) (hm : X.mg x = some (.ref f)) (hk : PySem.W.keepIn X.K (.ref f) = true) (hb : Binds X.K fd ps []) (ha : PA X (e :: es) ta) (hdb : (x == ("__debug__" : Str)) = false := by decide)
    (he : starEach (e :: es) X.env = (false, eval e X.env) :: starEach es X.env := by rfl) (hpl : (backTo pos (starEach es X.env)).any (·.1) = false := by rfl) : PE X (.Call (.Name x p) (e :: es) [] pos) (tCallH sp ea D ta) := by
  intro pins s σ H Q I h
  refine wpAny_Call_Name_kw (ld_glob I hg hm ?_ hdb)
  refine PySem.W.callWith_K (h₀ := X.base) I.ok.mod.kin hk (thn (ha pos pins s σ H _ I h) fun us s1 ⟨vs, H1, I1, r, q⟩ => ⟨I1.kIn, ?_⟩) he hpl
  obtain ⟨p1, p2, p3, p4, _⟩ := I1.pin _ (List.mem_append_left _ hp)
  have hl : us.length = ps.length := by rw [← r.length]; exact F.len _ _ _ _ _ _ q
  have hb' := hb s1 us I1.kIn (by rw [List.append_nil]; exact hl)
  rw [List.append_nil] at hb'
  refine wpAny_call (codeAny_mono (F.run X.A X.stack s1 H1 ⟨us, []⟩ us vs Q E0 ea D t hd hr I1.env0 p1 p2 (fun z => ?_) hb' r q) fun r s' hq => ?_)
  · rcases List.mem_cons.mp (I1.stkSub ea z) with e | e
    · exact p3 e
    · exact p4 e
  · cases r with
    | error e => exact False.elim hq
    | ok fl =>
      cases fl with
      | ret u => exact I1.after hq
      | next => exact False.elim hq
      | brk => exact False.elim hq
      | cont => exact False.elim hq
end L2
set_option Elab.async false
set_option linter.all false
set_option maxRecDepth 100000
set_option maxHeartbeats 2000000
namespace L2
open PySem PySem.Spec PyProof.Rows EX
end L2
set_option Elab.async false
set_option linter.all false
set_option maxRecDepth 100000
set_option maxHeartbeats 1000000
namespace KG
open PySem
def Bd (k : Nat) (n : Int) : Prop := n.natAbs < 2 ^ k
theorem Bd.mono {j k : Nat} {n : Int} (h : Bd j n) (hj : j ≤ k) : Bd k n := Nat.lt_of_lt_of_le h (Nat.pow_le_pow_right (by decide) hj)
theorem Bd.mul {j k : Nat} {a b : Int} (h : Bd j a) (h' : Bd k b) : Bd (j + k) (a * b) := by
  unfold Bd at *
  rw [Int.natAbs_mul, Nat.pow_add]
  exact Nat.mul_lt_mul'' h h'
theorem Bd.le {k : Nat} {a b : Int} (h : Bd k b) (hl : a.natAbs ≤ b.natAbs) : Bd k a := Nat.lt_of_le_of_lt hl h
theorem Bd.log {k : Nat} {n : Int} (h : Bd k n) (hk : k ≤ 8999) : n.natAbs.log2 < 9000 := by
  by_cases h0 : n.natAbs = 0
  · rw [h0]; decide +kernel
  · exact (Nat.log2_lt h0).mpr (Nat.lt_of_lt_of_le h (Nat.pow_le_pow_right (by decide) (by omega)))
def sg (t u : Int) : Int := if u < 0 then -(Int.gcd t u : Int) else (Int.gcd t u : Int)
def nx (t u : Int) : Int := t.fdiv (sg t u)
def ny (t u : Int) : Int := u.fdiv (sg t u)
theorem nf_spec {t u : Int} (h : u ≠ 0) : nx t u * u = t * ny t u ∧ 0 < ny t u ∧ Int.gcd (nx t u) (ny t u) = 1 ∧ sg t u ≠ 0 ∧ (nx t u).natAbs ≤ t.natAbs ∧ (ny t u).natAbs ≤ u.natAbs := by
  have g0 : 0 < Int.gcd t u := Int.gcd_pos_of_ne_zero_right t h
  obtain ⟨a, ha⟩ : (Int.gcd t u : Int) ∣ t := Int.gcd_dvd_left ..
  obtain ⟨b, hb⟩ : (Int.gcd t u : Int) ∣ u := Int.gcd_dvd_right ..
  generalize hg : Int.gcd t u = g at *
  have hc : Int.gcd a b = 1 := by
    have e : Int.gcd t u = Int.gcd ((g : Int) * a) ((g : Int) * b) := by rw [← ha, ← hb]
    rw [hg, Int.gcd_mul_left] at e
    simp at e
    have e2 : g * 1 = g * Int.gcd a b := by rw [Nat.mul_one]; exact e
    exact (Nat.eq_of_mul_eq_mul_left g0 e2).symm
  have gp : (0 : Int) < g := by omega
  have la : a.natAbs ≤ t.natAbs := by
    rw [ha, Int.natAbs_mul]; simp
    exact Nat.le_mul_of_pos_left _ g0
  have lb : b.natAbs ≤ u.natAbs := by
    rw [hb, Int.natAbs_mul]; simp
    exact Nat.le_mul_of_pos_left _ g0
  unfold nx ny sg
  rw [hg]
  by_cases hu : u < 0
  · rw [if_pos hu]
    have dn : (-(g : Int)) ≠ 0 := by omega
    have e1 : t.fdiv (-(g : Int)) = -a := by
      have : t = (-(g : Int)) * (-a) := by rw [Int.neg_mul_neg]; exact ha
      rw [this, Int.mul_fdiv_cancel_left _ dn]
    have e2 : u.fdiv (-(g : Int)) = -b := by
      have : u = (-(g : Int)) * (-b) := by rw [Int.neg_mul_neg]; exact hb
      rw [this, Int.mul_fdiv_cancel_left _ dn]
    rw [e1, e2]
    refine ⟨?_, ?_, by rw [Int.neg_gcd, Int.gcd_neg]; exact hc, dn, by rw [Int.natAbs_neg]; exact la, by rw [Int.natAbs_neg]; exact lb⟩
    · have q : a * u = t * b := by rw [hb, ha]; rw [Int.mul_left_comm, Int.mul_assoc]
      rw [Int.neg_mul, q, Int.mul_neg]
    · rcases Int.lt_or_le b 0 with z | z
      · omega
      · have : 0 ≤ (g : Int) * b := Int.mul_nonneg (by omega) z
        omega
  · rw [if_neg hu]
    have dn : (g : Int) ≠ 0 := by omega
    have e1 : t.fdiv (g : Int) = a := by rw [ha, Int.mul_fdiv_cancel_left _ dn]
    have e2 : u.fdiv (g : Int) = b := by rw [hb, Int.mul_fdiv_cancel_left _ dn]
    rw [e1, e2]
    refine ⟨?_, ?_, hc, dn, la, lb⟩
    · rw [hb, ha, Int.mul_left_comm, Int.mul_assoc]
    · rcases Int.lt_or_le 0 b with z | z
      · exact z
      · have : (g : Int) * b ≤ 0 := Int.mul_nonpos_of_nonneg_of_nonpos (by omega) z
        omega
theorem fmod_lt {a c : Int} (h : c ≠ 0) : (a.fmod c).natAbs < c.natAbs := by
  rcases Int.lt_or_gt_of_ne h with z | z
  · have e : (-a).fmod (-c) = -(a.fmod c) := Int.neg_fmod_neg a c
    have h1 := Int.fmod_nonneg_of_pos (-a) (show 0 < -c by omega)
    have h2 := Int.fmod_lt_of_pos (-a) (show 0 < -c by omega)
    omega
  · have h1 := Int.fmod_nonneg_of_pos a z
    have h2 := Int.fmod_lt_of_pos a z
    omega
theorem gcd_fmod {a c : Int} : Int.gcd c (a.fmod c) = Int.gcd a c := by
  rw [Int.gcd_comm a c, Int.fmod_def, Int.gcd_sub_mul_left_right]
end KG
namespace L2
open PySem PySem.Spec PyProof.Rows KG
section
variable {X : Cx}
theorem op_fdivBN : OpR X (binaryOp .FloorDiv) (rI (fun _ j => j ≠ 0 ∧ Bd 8000 j) fun i j => .int (i.fdiv j)) := opI fun _ _ _ _ _ _ _ hc q => floordiv_int hc.1 q (.inl (PyProof.noPylong_of_log2 (hc.2.log (by decide))))
theorem op_mulB : OpR X (binaryOp .Mult) (rI (fun i j => Bd 8000 i ∧ Bd 8000 j) fun i j => .int (i * j)) := opI fun i j _ _ _ _ _ hc q => mul_int q (IntMulOk.of_bits (Nat.le_trans (intBits_le hc.1) (by decide)) (Nat.le_trans (intBits_le hc.2) (by decide)))
end
end L2
set_option Elab.async false
set_option linter.all false
set_option maxRecDepth 100000
set_option maxHeartbeats 1000000
namespace KG
open PySem L2
theorem comp_filt {K : PySem.W.Frag} {tt : TT} {σ₀ : St} {a acc b : Addr} {H1 : Hp} {xs : List V} {ds : List PyData} {Q : VK} (m : PyData → Bool) (hT : TrVs b H1 xs ds) (ha : H1 a = some (.tup xs)) (hacc : H1 acc = none) (hl : xs.length ≤ 1000) (hσ : 0 < σ₀.length)
    (ht : ∀ (x : V) (d : PyData) (H' : Hp), Stay H1 H' → TrV b H' x d → d ∈ ds → ∀ Z : Bool → Hp → Prop, (∀ H5, Stay H' H5 → Z (!m d) H5) → tt (σ₀.set 0 (some x)) H' Z)
    (hd : ∀ ys es H', Stay H1 H' → H' acc = some (.lst ys) → TrVs b H' ys es → es.isEmpty = ds.all m → Q (.ref acc) H') : tCompN (gName 0) tt (tVar 0) (Itt K a) acc σ₀ H1 Q := by
  have hlen := hT.len
  refine comp_tup (xs := xs) (fun i ys H' => Stay H1 H' ∧ ys.length ≤ i ∧ ∃ es, TrVs b H1 ys es ∧ es = (ds.take i).filter (fun d => !m d)) ⟨(Stay.refl H1).acc hacc, Nat.le_refl _, [], .nil, rfl⟩ (fun i ys H' _ _ q => SqT.of (q.1 _ _ ha)) ?_ ?_
  · rintro i x ys H' hx hy ⟨st, hyl, es, tr, rfl⟩
    obtain ⟨d, hdi, hT1⟩ := hT.at hx
    have hi : i < xs.length := (List.getElem?_eq_some_iff.mp hx).1
    refine ht x d H' st (hT1.stay st) (List.mem_of_getElem? hdi) _ fun H5 st5 => ?_
    have hes : (ds.take (i + 1)).filter (fun d => !m d) = (ds.take i).filter (fun d => !m d) ++ if m d = true then [] else [d] := by
      rw [List.take_add_one, hdi, List.filter_append]
      congr 1
      cases hm : m d <;> simp [hm]
    cases hm : m d with
    | true =>
      refine iteF (Cn.of (st5 _ _ hy) ⟨st.trans st5, by omega, _, tr, ?_⟩)
      rw [hes, hm]; simp
    | false =>
      refine iteT ⟨x, ?_, ys, st5 _ _ hy, by rw [sz]; omega, Cn.of upd_same ⟨(st.trans st5).acc hacc, ?_, _, ?_, rfl⟩⟩
      · rw [List.getElem?_set_self hσ]
      · rw [List.length_append]; show ys.length + 1 ≤ i + 1; omega
      · rw [hes, hm]
        exact TrVs.app tr (.cons hT1 .nil)
  · rintro ys H' hy ⟨st, hyl, es, tr, rfl⟩
    rw [hlen, List.take_length] at tr
    refine hd ys _ H' st hy (tr.stay st) ?_
    rw [Bool.eq_iff_iff, List.isEmpty_iff, List.filter_eq_nil_iff, List.all_eq_true]
    simp
theorem eqv_nil {es : List PyData} : PyData.eqv (.list es) (.list []) = es.isEmpty := by
  cases es <;> simp [PyData.eqv, PyData.eqvAll]
end KG
namespace L2
open PySem PySem.Spec PyProof.Rows
theorem pIsi {X : Cx} {e : Expr} {te : TE} (K : PySem.W.Frag) {T : Str} {n : String} {p p2 pos : Pos} (he : PE X e te) (hg : Gl X "isinstance") (hm : X.mg "isinstance" = none) (hgT : Gl X T) (hmT : X.mg T = none) (hv : bootBuiltins T = some (.type n))
    (hb : bootBuiltins "isinstance" = some (.builtin "isinstance")) (h : X.K = K := by rfl) (hnT : T ≠ "__name__" := by decide) (hdT : (T == ("__debug__" : Str)) = false := by decide)
    (hs : starEach [e, .Name T p2] X.env = [(false, eval e X.env), (false, eval (.Name T p2) X.env)] := by rfl)
    (hpl : (backTo pos (starEach [.Name T p2] X.env)).any (·.1) = false := by rfl) : PE X (.Call (.Name "isinstance" p) [e, .Name T p2] [] pos) (tIsi K (.type n) te) := by
  subst h; exact pe_isiB he hg hm hgT hmT hv hb hnT hdT hs hpl
end L2
set_option Elab.async false
set_option linter.all false
set_option maxRecDepth 100000
set_option maxHeartbeats 2000000
namespace L2
open PySem PySem.Spec PyProof.Rows EX
abbrev TX := Ends → (St → XK) → St → Hp → Prop
def Hx (X : Cx) (pins : List (Addr × Obj)) (Ex : St → XK) (EE : Value → Shared → Prop) : Prop := ∀ (σ : St) (H : Hp) (s : Shared) (e : Value) (s' : Shared), Inv X pins σ H s → CXF X.prog X.w X.stack H s (Ex σ) e s' → EE e s'
def PSx (X : Cx) (st : Stmt) (t : TX) : Prop := ∀ (pins : List (Addr × Obj)) (s : Shared) (σ : St) (H : Hp) (D : Ends) (Ex : St → XK) (EE : Value → Shared → Prop), Inv X pins σ H s → Hx X pins Ex EE → t D Ex σ H → wpAny (model X.prog X.w) X.A (exec st X.env) (SP X pins D) EE s
def PSsx (X : Cx) (sts : List Stmt) (t : TX) : Prop := ∀ (pins : List (Addr × Obj)) (s : Shared) (σ : St) (H : Hp) (D : Ends) (Ex : St → XK) (EE : Value → Shared → Prop), Inv X pins σ H s → Hx X pins Ex EE → t D Ex σ H → wpAny (model X.prog X.w) X.A (execs sts X.env) (SP X pins D) EE s
def PEx (X : Cx) (e : Expr) (t : (St → XK) → TE) : Prop := ∀ (pins : List (Addr × Obj)) (s : Shared) (σ : St) (H : Hp) (Q : VK) (Ex : St → XK) (EE : Value → Shared → Prop), Inv X pins σ H s → Hx X pins Ex EE → t Ex σ H Q → wpAny (model X.prog X.w) X.A (eval e X.env) (EP X pins σ Q) EE s
def xIf (c : TT) (t u : TX) : TX := fun D Ex σ H => c σ H fun b H1 => if b = true then t D Ex σ H1 else u D Ex σ H1
def xDrop (te : (St → XK) → TE) : TX := fun D Ex σ H => te Ex σ H fun _ H1 => D.nx σ H1
def xSet (i : Nat) (te : (St → XK) → TE) : TX := fun D Ex σ H => te Ex σ H fun v H1 => D.nx (σ.set i (some v)) H1
def xCall (sp : Sp) (t : TA) : (St → XK) → TE := fun Ex σ H Q => t σ H fun vs H1 => sp vs H1 Q (Ex σ)
section
variable {X : Cx} {st : Stmt} {sts : List Stmt} {t u : TX}
theorem px_one (h1 : PSx X st t) : PSsx X [st] t := by
  intro pins s σ H D Ex EE I hx h
  refine wpAny_execs_cons (thn (h1 pins s σ H D Ex EE I hx h) fun f s1 q => ?_)
  cases f with
  | next => exact wpAny_execs_nil q
  | ret v => exact q
  | brk => exact q
  | cont => exact q
theorem px_if {c : Expr} {a b : List Stmt} {tc : TT} {pos : Pos} (hc : PT X.nox c tc) (ha : PSsx X a t) (hb : PSsx X b u) : PSx X (.If c a b pos) (xIf tc t u) := by
  intro pins s σ H D Ex EE I hx h
  refine wpAny_If (wpAny_mono (hc pins s σ H _ (I.wish _) h) (fun d s1 ⟨H1, I1, q1⟩ => ?_) fun _ _ z => False.elim z)
  cases d with
  | true => exact ha pins s1 σ H1 D Ex EE I1.unwish hx q1
  | false => exact hb pins s1 σ H1 D Ex EE I1.unwish hx q1
theorem px_expr {e : Expr} {te : (St → XK) → TE} {pos : Pos} (he : PEx X e te) (hs : swapsWith e none pos.line X.env = pure false := by rfl) : PSx X (.Expr e pos) (xDrop te) := by
  intro pins s σ H D Ex EE I hx h
  exact wpAny_Expr_any (thn (he pins s σ H _ Ex EE I hx h) fun v s1 ⟨x, H1, I1, r1, q1⟩ => ⟨σ, H1, I1, q1⟩) I.quiet hs
theorem px_set {i : Nat} {x : Str} {e : Expr} {te : (St → XK) → TE} {pos pos' : Pos} (hN : X.N.Nodup) (hi : X.N[i]? = some x) (hx : Loc X.env.scope x) (he : PEx X e te) (hs : swapsWith e (some (.Name x pos')) pos.line X.env = pure false := by rfl) (hf : X.fn x = true ∨ X.env.scope.names.lookup x = some .local := by first | exact .inl rfl | exact .inr rfl | assumption) :
    PSx X (.Assign [.Name x pos'] e pos) (xSet i te) := by
  intro pins s σ H D Ex EE I hxx h
  refine wpAny_Assign_Name (thn (he pins s σ H _ Ex EE I hxx h) fun v s1 ⟨y, H1, I1, r1, q1⟩ => ?_) hs
  exact store_ok I1 hN hi hx r1 (fun s2 I2 => ⟨_, H1, I2, q1⟩) hf
theorem px_call {k : Nat} {f : Addr} {fd : FuncData} {ps : List Str} {sp : Sp} {x : Str} {p pos : Pos} {e : Expr} {es : List Expr} {ta : TA} (F : FnOk X.prog X.w X.K X.mg X.base (CXF X.prog X.w) k f fd ps sp) (hr : Room k X.A) (hg : Gl X x) (hm : X.mg x = some (.ref f))
    (hk : PySem.W.keepIn X.K (.ref f) = true) (hb : Binds X.K fd ps []) (ha : PA X.nox (e :: es) ta) (hdb : (x == ("__debug__" : Str)) = false := by decide)
    (he : starEach (e :: es) X.env = (false, eval e X.env) :: starEach es X.env := by rfl) (hpl : (backTo pos (starEach es X.env)).any (·.1) = false := by rfl) : PEx X (.Call (.Name x p) (e :: es) [] pos) (xCall sp ta) := by
  intro pins s σ H Q Ex EE I hx h
  refine wpAny_Call_Name_kw (ld_glob I hg hm ?_ hdb)
  refine PySem.W.callWith_K (h₀ := X.base) I.ok.mod.kin hk (wpAny_mono (ha pos pins s σ H _ (I.wish _) h) (fun us s1 ⟨vs, H1, I1w, r, q⟩ => ?_) fun _ _ z => False.elim z) he hpl
  have I1 : Inv X pins σ H1 s1 := I1w.unwish
  refine ⟨I1.kIn, ?_⟩
  have hlen : us.length = ps.length := by rw [← r.length]; exact F.len _ _ _ _ q
  have hb' := hb s1 us I1.kIn (by rw [List.append_nil]; exact hlen)
  rw [List.append_nil] at hb'
  refine wpAny_call (codeAny_mono (F.run X.A X.stack s1 H1 ⟨us, []⟩ us vs _ _ hr I1.env0 hb' r q) fun res s' hq => ?_)
  cases res with
  | error ev => exact hx σ H1 s1 ev s' I1 hq
  | ok fl =>
    cases fl with
    | ret v => exact I1.after hq
    | next => exact False.elim hq
    | brk => exact False.elim hq
    | cont => exact False.elim hq
def tTryX (K : PySem.W.Frag) (spK : Addr → Addr → Sp) (M : Addr) (j l : Nat) (tb : TX) : TS := fun D σ H => tb D
  (fun σ1 c _ H2 => ∃ Dc, c = .ref Dc ∧ PySem.W.mroIn K Dc (.ref M) = some true ∧ ∀ ea, H2 ea = none → spK ea Dc [.ref ea] H2 (fun v H3 => D.nx (((σ1.set j (some (.ref ea))).set l (some v)).set j none) H3) E0) σ H
theorem ps_tryX {kk : Nat} {fK M : Addr} {fdK : FuncData} {psK : List Str} {spK : Addr → Addr → Sp} {n y kf Cl : Str} {j l : Nat} {body : List Stmt} {tb : TX} {np py kp np2 kpos ypos hpos pos : Pos}
    (hb : PSsx X body tb) (G : FnH X.prog X.w X.K X.mg X.base kk fK fdK psK spK) (hr2 : Room kk X.A) (hgk : Gl X kf) (hmk : X.mg kf = some (.ref fK)) (hkk : PySem.W.keepIn X.K (.ref fK) = true) (hbk : Binds X.K fdK psK [])
    (hgC : Gl X Cl) (hmC : X.mg Cl = some (.ref M)) (tyM : PySem.W.typeIn X.K (.ref M) = some (.type "type")) (bM : PySem.W.mroIn X.K M (.type "BaseException") = some true)
    (hst : X.stack = X.env :: X.outer) (hfr : X.env.frame = some X.env.locals) (hN : X.N.Nodup) (hj : X.N[j]? = some n) (hl : X.N[l]? = some y)
    (kn : X.env.scope.names.lookup n = some .local) (ky : X.env.scope.names.lookup y = some .local)
    (hs2 : swapsWith (.Call (.Name kf kp) [.Name n np2] [] kpos) (some (.Name y py)) ypos.line X.env = pure false := by rfl)
    (d2 : (kf == ("__debug__" : Str)) = false := by decide) (d3 : (Cl == ("__debug__" : Str)) = false := by decide) (d4 : (n == ("__debug__" : Str)) = false := by decide) (d5 : (n == ("__classdict__" : Str)) = false := by decide)
    (he2 : starEach [.Name n np2] X.env = [(false, eval (.Name n np2) X.env)] := by rfl) :
    PS X (.Try body [.ExceptHandler (some (.Name Cl np)) (some n) [.Assign [.Name y py] (.Call (.Name kf kp) [.Name n np2] [] kpos) ypos] hpos] [] [] pos) (tTryX X.K spK M j l tb) := by
  intro pins s σ H D I h
  refine wpAny_Try_except (thn (hb pins s σ H D _ _ I ?_ h) fun f s1 q => ?_)
  case refine_2 =>
    cases f with
    | next => exact wpAny_execs_nil q
    | ret v => exact q
    | brk => exact q
    | cont => exact q
  intro σ1 H1 s1 ev s' I1 hq
  obtain ⟨a, C, t, B, H2, rfl, os, bare, un, hok, third, air, na, na', Dc, eC, hsub, hk⟩ := hq
  cases eC
  have ff := air.ff
  rw [hst] at air
  refine air_note (L := X.env.locals) air (by rw [← hst]; exact I.ok.frames) hfr fun h3 air3 up3 => ?_
  refine air_land (s := { s' with heap := h3 }) air3 fun h4 air4 up4 => ?_
  have up34 := up3.trans up4
  have ht : ∀ b o, s1.heap.get? b = some o → b ≠ a := fun b o q z => by rw [z, na] at q; cases q
  have aL : a ≠ X.env.locals := by
    obtain ⟨m, ⟨oL, _, _, hoL, _⟩, _⟩ := I1.loc
    exact (ht _ _ hoL).symm
  have aF : a ∉ X.fs := fun z => by
    obtain ⟨_, o, ho, _⟩ := I1.funs.mem z
    exact ht _ _ ho rfl
  have inv : ∀ (h' : Heap), Air B (X.env :: X.outer) a C t h' → s'.heap.UpToSlots h' → Inv X pins σ1 H2 { s' with heap := h' } := fun h' air' up' =>
    I1.call' (s' := { s' with heap := h' }) (ch := []) os (un_up un third ff (by rw [hst]; exact air') up') (hok.kept air'.st) bare (fun b z => absurd z (by simp))
  obtain ⟨hd4, he4, _⟩ := air4.ob
  have J4 := (inv h4 air4 up34).suite he4 na' aL aF
  refine wpAny_handleBy_cons (codeAny_handlers_test (ld_glob J4 hgC hmC ?_ d3)) (by intro z; cases z)
  refine exc_match (K := X.K) J4.kIn he4 tyM bM hsub ?_
  refine codeAny_handlers_suite_as ?_
  refine air_land (s := { s' with heap := h4 }) air4 fun h5 air5 up5 => ?_
  obtain ⟨hd5, he5, _⟩ := air5.ob
  have J5 := (inv h5 air5 (up34.trans up5)).suite he5 na' aL aF
  refine store_ok (X := cxS X a C t hd5) J5 hN hj (.inl kn) (v := .ref a) rfl (fun s6 J6 => ?_) (.inr kn)
  have rh : RoomH kk (cxS X a C t hd5).A a := ⟨rfl, hr2.dp, hr2.un⟩
  have suite : PSs (cxS X a C t hd5) [.Assign [.Name y py] (.Call (.Name kf kp) [.Name n np2] [] kpos) ypos] _ :=
    pss_one (ps_set (i := l) hN hl (.inl ky) (pe_callH (X := cxS X a C t hd5) (D := C) (t := t) (hd := hd5) G rh List.mem_cons_self hgk hmk hkk hbk (pa_cons (pe_var (i := j) hj (.inl kn) d4 d5) pa_nil he2) d2 he2 rfl) hs2 (.inr ky))
  have hjl : j < σ1.length := by rw [I1.len]; exact (List.getElem?_eq_some_iff.mp hj).1
  have run := suite pins s6 (σ1.set j (some (.ref a))) H2 { nx := fun σ3 H3 => D.nx (σ3.set j none) H3, rt := fun _ _ => False } J6 ⟨.ref a, by rw [List.getElem?_set_self hjl], hk a na'⟩
  refine wpAny_mono run (fun fl s7 hs7 => ?_) fun _ _ z => False.elim z
  cases fl with
  | ret u => obtain ⟨_, _, _, _, _, z⟩ := hs7; exact False.elim z
  | brk => obtain ⟨_, _, _, z⟩ := hs7; exact False.elim z
  | cont => obtain ⟨_, _, _, z⟩ := hs7; exact False.elim z
  | next =>
    obtain ⟨σ7, H7, J7, q7⟩ := hs7
    have I7 : Inv X pins σ7 H7 s7 := Inv.unsuite I.ok J7
    obtain ⟨m, hn, hlk⟩ := id I7.loc
    refine wpAny_nameGoes_keeps kn hn (by rw [I.ok.kind]; rfl) fun h8 v hn8 hs8 => ?_
    exact ⟨σ7.set j none, H7, inv_goes I7 hN hj hn hlk hn8 hs8, q7⟩
end
end L2
set_option Elab.async false
set_option linter.all false
set_option maxRecDepth 100000
set_option maxHeartbeats 4000000
namespace KM
open PySem L2 KG EX
def isI : PyData → Bool
  | .int _ => true
  | .bool _ => true
  | _ => false
def isB : PyData → Bool
  | .bool _ => true
  | _ => false
def isT : PyData → Bool
  | .tuple _ => true
  | _ => false
structure IsK (K : PySem.W.Frag) : Prop where
  i1 : PySem.W.kitOne K (.type "NoneType") (.type "int") = some false
  i2 : PySem.W.kitOne K (.type "bool") (.type "int") = some true
  i3 : PySem.W.kitOne K (.type "int") (.type "int") = some true
  i4 : PySem.W.kitOne K (.type "str") (.type "int") = some false
  i5 : PySem.W.kitOne K (.type "list") (.type "int") = some false
  i6 : PySem.W.kitOne K (.type "tuple") (.type "int") = some false
  b1 : PySem.W.kitOne K (.type "NoneType") (.type "bool") = some false
  b2 : PySem.W.kitOne K (.type "bool") (.type "bool") = some true
  b3 : PySem.W.kitOne K (.type "int") (.type "bool") = some false
  b4 : PySem.W.kitOne K (.type "str") (.type "bool") = some false
  b5 : PySem.W.kitOne K (.type "list") (.type "bool") = some false
  b6 : PySem.W.kitOne K (.type "tuple") (.type "bool") = some false
  t1 : PySem.W.kitOne K (.type "NoneType") (.type "tuple") = some false
  t2 : PySem.W.kitOne K (.type "bool") (.type "tuple") = some false
  t3 : PySem.W.kitOne K (.type "int") (.type "tuple") = some false
  t4 : PySem.W.kitOne K (.type "str") (.type "tuple") = some false
  t5 : PySem.W.kitOne K (.type "list") (.type "tuple") = some false
  t6 : PySem.W.kitOne K (.type "tuple") (.type "tuple") = some true
theorem isi {K : PySem.W.Frag} (Z : IsK K) {b : Addr} {H : Hp} {v : V} {d : PyData} (h : TrV b H v d) : ∃ t, TyOf K H v t ∧ PySem.W.kitOne K t (.type "int") = some (isI d) := by
  cases h with
  | non => exact ⟨_, .non, Z.i1⟩
  | bl c => exact ⟨_, .bl _, Z.i2⟩
  | int c => exact ⟨_, .int _, Z.i3⟩
  | str x ok => exact ⟨_, .str _, Z.i4⟩
  | lst n e t => exact ⟨_, .lst e, Z.i5⟩
  | tup e t => exact ⟨_, .tup e, Z.i6⟩
theorem isb {K : PySem.W.Frag} (Z : IsK K) {b : Addr} {H : Hp} {v : V} {d : PyData} (h : TrV b H v d) : ∃ t, TyOf K H v t ∧ PySem.W.kitOne K t (.type "bool") = some (isB d) := by
  cases h with
  | non => exact ⟨_, .non, Z.b1⟩
  | bl c => exact ⟨_, .bl _, Z.b2⟩
  | int c => exact ⟨_, .int _, Z.b3⟩
  | str x ok => exact ⟨_, .str _, Z.b4⟩
  | lst n e t => exact ⟨_, .lst e, Z.b5⟩
  | tup e t => exact ⟨_, .tup e, Z.b6⟩
theorem ist {K : PySem.W.Frag} (Z : IsK K) {b : Addr} {H : Hp} {v : V} {d : PyData} (h : TrV b H v d) : ∃ t, TyOf K H v t ∧ PySem.W.kitOne K t (.type "tuple") = some (isT d) := by
  cases h with
  | non => exact ⟨_, .non, Z.t1⟩
  | bl c => exact ⟨_, .bl _, Z.t2⟩
  | int c => exact ⟨_, .int _, Z.t3⟩
  | str x ok => exact ⟨_, .str _, Z.t4⟩
  | lst n e t => exact ⟨_, .lst e, Z.t5⟩
  | tup e t => exact ⟨_, .tup e, Z.t6⟩
theorem tupCase {b : Addr} {H : Hp} {v : V} {d : PyData} (h : TrV b H v d) : isT d = false ∨ ∃ a xs ds, v = .ref a ∧ d = .tuple ds ∧ H a = some (.tup xs) ∧ TrVs b H xs ds := by
  cases h with
  | non => exact .inl rfl
  | bl c => exact .inl rfl
  | int c => exact .inl rfl
  | str x ok => exact .inl rfl
  | lst n e t => exact .inl rfl
  | tup e t => exact .inr ⟨_, _, _, rfl, rfl, e, t⟩
theorem intCase {b : Addr} {H : Hp} {v : V} {d : PyData} (h : TrV b H v d) : isWhole d = false ∨ ∃ i, v = .int i ∧ d = .int i := by
  cases h with
  | non => exact .inl rfl
  | bl c => exact .inl rfl
  | int c => exact .inr ⟨_, rfl, rfl⟩
  | str x ok => exact .inl rfl
  | lst n e t => exact .inl rfl
  | tup e t => exact .inl rfl
theorem isWhole_eq (d : PyData) : isWhole d = (isI d && !isB d) := by cases d <;> rfl
theorem within_no {lo hi : Int} {d : PyData} (h : isWhole d = false) : within lo hi d = false := by cases d <;> first | rfl | cases h
theorem isFrac_no {d : PyData} (h : isT d = false) : isFrac d = false := by cases d <;> first | rfl | cases h
def spT (m : PyData → Bool) : Sp := fun vs H Q _ => ∃ (b : Addr) (v : V) (d : PyData), vs = [v] ∧ TrV b H v d ∧ ∀ H', Stay H H' → Q (.bl (m d)) H'
def spTs (m : PyData → Bool) : Sp := fun vs H Q _ => ∃ (b : Addr) (v : V) (d : PyData), vs = [v] ∧ TrV b H v d ∧ small d = true ∧ ∀ H', Stay H H' → Q (.bl (m d)) H'
def spGcd : Sp := fun vs H Q _ => ∃ (t u : Int), vs = [.int t, .int u] ∧ 0 ≤ u ∧ Q (.int (Int.gcd t u)) H
theorem gcd_emod {a c : Int} : Int.gcd c (a % c) = Int.gcd a c := by
  rw [Int.gcd_comm a c, Int.emod_def, Int.gcd_sub_mul_left_right]
theorem abs_gcd {a : Int} : (if a < 0 then -a else a) = (Int.gcd a 0 : Int) := by
  rw [Int.gcd_zero_right]
  split <;> omega
theorem comp_bools {K : PySem.W.Frag} {te : TE} {σ₀ : St} {a acc b : Addr} {H1 : Hp} {xs : List V} {ds : List PyData} {Q : VK} (m : PyData → Bool) (hT : TrVs b H1 xs ds) (ha : H1 a = some (.tup xs)) (hacc : H1 acc = none) (hl : xs.length ≤ 1000)
    (ht : ∀ (x : V) (d : PyData) (H' : Hp), Stay H1 H' → TrV b H' x d → d ∈ ds → ∀ Z : V → Hp → Prop, (∀ H5, Stay H' H5 → Z (.bl (m d)) H5) → te (σ₀.set 0 (some x)) H' Z)
    (hd : ∀ H', Stay H1 H' → H' acc = some (.lst (ds.map fun d => .bl (m d))) → Q (.ref acc) H') : tCompN (gName 0) tYes te (Itt K a) acc σ₀ H1 Q := by
  have hlen := hT.len
  refine comp_tup (xs := xs) (fun i ys H' => Stay H1 H' ∧ ys = (ds.take i).map fun d => .bl (m d)) ⟨(Stay.refl H1).acc hacc, rfl⟩ (fun i ys H' _ _ q => SqT.of (q.1 _ _ ha)) ?_ ?_
  · rintro i x ys H' hx hy ⟨st, rfl⟩
    obtain ⟨d, hdi, hT1⟩ := hT.at hx
    have hi : i < xs.length := (List.getElem?_eq_some_iff.mp hx).1
    refine yes_i ?_
    refine ht x d H' st (hT1.stay st) (List.mem_of_getElem? hdi) _ fun H5 st5 => ?_
    refine ⟨_, st5 _ _ hy, ?_, Cn.of upd_same ⟨(st.trans st5).acc hacc, ?_⟩⟩
    · rw [List.length_map, List.length_take, sz]; omega
    · rw [List.take_add_one, hdi, List.map_append]; rfl
  · rintro ys H' hy ⟨st, rfl⟩
    rw [hlen, List.take_length] at hy
    exact hd H' st hy
theorem isFrac_len {ds : List PyData} (h : ds.length ≠ 2) : isFrac (.tuple ds) = false := by
  unfold isFrac
  split
  · next heq => injection heq with heq; subst heq; exact absurd rfl h
  · rfl
theorem vint_ne {a b : Nat} (h : a ≠ b) : (!decide (V.int (a : Int) = V.int (b : Int))) = true := by
  have : (a : Int) ≠ b := by omega
  simp [this]
theorem vint_eq (a : Int) : (!decide (V.int a = V.int a)) = false := by simp
def spFrac : Sp := fun vs H Q _ => ∃ (t u : Int), vs = [.int t, .int u] ∧ 0 < u ∧ u < 1073741824 ∧ ∀ (p : Addr), H p = none → Q (.ref p) (upd H p (.tup [.int (t / (Int.gcd t u : Int)), .int (u / (Int.gcd t u : Int))]))
theorem gcd_pos {t u : Int} (h : 0 < u) : 0 < (Int.gcd t u : Int) ∧ (Int.gcd t u : Int) ≤ u := by
  have h1 : 0 < Int.gcd t u := Int.gcd_pos_of_ne_zero_right t (by omega)
  have h2 : (Int.gcd t u : Int) ∣ u := Int.gcd_dvd_right ..
  exact ⟨by omega, Int.le_of_dvd h h2⟩
def spPu : Sp := fun vs H Q _ => ∃ (b : Addr), vs = [.ref b] ∧ Bag H b ∧ ∀ (v : V) (d : PyData) (H' : Hp), Bag H' b → Kp b H H' → TrV b H' v d → isPurse d = true → Q v H'
theorem purse_one {t : Int} (h1 : 1 ≤ t) (h2 : t ≤ 1000000) : isPurse (.tuple [.int t, .int 1]) = true := by
  show (decide ((1 : Int) ≤ 1) && decide (Int.gcd t 1 = 1) && decide (1 ≤ t) && decide (t ≤ 1000000) && decide ((1 : Int) ≤ 1000000)) = true
  rw [decide_eq_true h1, decide_eq_true h2, Int.gcd_one_right]; rfl
theorem purse_low {t u : Int} (h1 : 1 ≤ t) (h2 : t ≤ 1000000) (h3 : 1 ≤ u) (h4 : u ≤ 1000000) : isPurse (.tuple [.int (t / (Int.gcd t u : Int)), .int (u / (Int.gcd t u : Int))]) = true := by
  obtain ⟨g0, g1⟩ := gcd_pos (t := t) (u := u) (by omega)
  have gt : (Int.gcd t u : Int) ∣ t := Int.gcd_dvd_left ..
  have gu : (Int.gcd t u : Int) ∣ u := Int.gcd_dvd_right ..
  have e : Int.gcd (t / (Int.gcd t u : Int)) (u / (Int.gcd t u : Int)) = 1 := Int.gcd_ediv_gcd_ediv_gcd (by omega)
  have lo : ∀ n : Int, 1 ≤ n → n ≤ 1000000 → (Int.gcd t u : Int) ∣ n → 1 ≤ n / (Int.gcd t u : Int) ∧ n / (Int.gcd t u : Int) ≤ 1000000 := fun n n1 n2 hd => by
    have a1 : n / (Int.gcd t u : Int) * (Int.gcd t u : Int) = n := Int.ediv_mul_cancel hd
    have a2 : n / (Int.gcd t u : Int) ≤ n := Int.ediv_le_self _ (by omega)
    have a3 : 0 ≤ n / (Int.gcd t u : Int) := Int.ediv_nonneg (by omega) (by omega)
    refine ⟨?_, by omega⟩
    rcases Int.lt_or_le 0 (n / (Int.gcd t u : Int)) with z | z
    · omega
    · have : n / (Int.gcd t u : Int) = 0 := by omega
      rw [this, Int.zero_mul] at a1; omega
  obtain ⟨t1, t2⟩ := lo t h1 h2 gt
  obtain ⟨u1, u2⟩ := lo u h3 h4 gu
  show (decide _ && decide (Int.gcd _ _ = 1) && decide _ && decide _ && decide _) = true
  rw [decide_eq_true u1, decide_eq_true e, decide_eq_true t1, decide_eq_true t2, decide_eq_true u2]; rfl
theorem trI2 {b p : Addr} {H : Hp} {x y : Int} : TrV b (upd H p (.tup [.int x, .int y])) (.ref p) (.tuple [.int x, .int y]) := .tup upd_same (.cons (.int x) (.cons (.int y) .nil))
def spWi : Sp := fun vs H Q _ => ∃ (b : Addr) (g : Int), vs = [.ref b, .int g] ∧ Bag H b ∧ 0 < g ∧ g ≤ 6 ∧
  ∀ (p : Addr) (ns : List Int) (H' : Hp), Bag H' b → Kp b H H' → H' p = some (.tup (ns.map V.int)) → (ns.length : Int) = g → (∀ n ∈ ns, 0 ≤ n ∧ n ≤ 100) → (∃ n ∈ ns, 1 ≤ n) → Q (.ref p) H'
theorem menu5b {r : Int} (h0 : 0 ≤ r) (h1 : r < 5) : ∃ m : Int, atI [V.int 3, V.int 101, V.int 2, V.int 10, V.int 101] r = some (.int m) ∧ 0 < m ∧ m ≤ 101 := by
  have : r = 0 ∨ r = 1 ∨ r = 2 ∨ r = 3 ∨ r = 4 := by omega
  rcases this with rfl | rfl | rfl | rfl | rfl
  · exact ⟨3, rfl, by decide, by decide⟩
  · exact ⟨101, rfl, by decide, by decide⟩
  · exact ⟨2, rfl, by decide, by decide⟩
  · exact ⟨10, rfl, by decide, by decide⟩
  · exact ⟨101, rfl, by decide, by decide⟩
theorem menu3c {r : Int} (h0 : 0 ≤ r) (h1 : r < 3) : ∃ m : Int, atI [V.int 1, V.int 9, V.int 60] r = some (.int m) ∧ 0 < m ∧ m ≤ 60 := by
  have : r = 0 ∨ r = 1 ∨ r = 2 := by omega
  rcases this with rfl | rfl | rfl
  · exact ⟨1, rfl, by decide, by decide⟩
  · exact ⟨9, rfl, by decide, by decide⟩
  · exact ⟨60, rfl, by decide, by decide⟩
theorem trAll {b : Addr} {H : Hp} {m : PyData → Bool} : ∀ {ys : List V}, (∀ y ∈ ys, ∃ d, TrV b H y d ∧ m d = true) → ∃ ds, TrVs b H ys ds ∧ ds.all m = true
  | [], _ => ⟨[], .nil, rfl⟩
  | y :: ys, h => by
    obtain ⟨ds, h1, h2⟩ := trAll (ys := ys) fun z hz => h z (List.mem_cons_of_mem _ hz)
    obtain ⟨d, h3, h4⟩ := h y List.mem_cons_self
    exact ⟨d :: ds, .cons h3 h1, by rw [List.all_cons, h4, h2]; rfl⟩
def oneD : PyData → Bool
  | .int n => decide (1 ≤ n)
  | _ => false
def posD : PyData → Bool
  | .tuple ds => ds.any oneD
  | _ => false
theorem all_both {α : Type} {f g : α → Bool} : ∀ {xs : List α}, (xs.all fun x => f x && g x) = true → xs.all f = true ∧ xs.all g = true
  | [], _ => ⟨rfl, rfl⟩
  | x :: xs, h => by
    rw [List.all_cons, Bool.and_eq_true, Bool.and_eq_true] at h
    obtain ⟨h1, h2⟩ := all_both h.2
    exact ⟨by rw [List.all_cons, h.1.1, h1]; rfl, by rw [List.all_cons, h.1.2, h2]; rfl⟩
def spMk : Sp := fun vs H Q _ => ∃ (b : Addr), vs = [.ref b] ∧ Bag H b ∧ ∀ (p : Addr) (am pu wi : List PyData) (H' : Hp), Bag H' b → Kp b H H' → TrV b H' (.ref p) (.tuple [.tuple am, .tuple pu, .tuple wi]) → isMk (.tuple [.tuple am, .tuple pu, .tuple wi]) = true → wi.all posD = true → Q (.ref p) H'
def RA (_ : Hp) (v : V) : Prop := ∃ n : Int, v = .int n ∧ 1 ≤ n ∧ n ≤ 60
def RP (H : Hp) (v : V) : Prop := ∃ (a : Addr) (t u : Int), v = .ref a ∧ H a = some (.tup [.int t, .int u]) ∧ isPurse (.tuple [.int t, .int u]) = true
def RW (g : Int) (H : Hp) (v : V) : Prop := ∃ (a : Addr) (ns : List Int), v = .ref a ∧ H a = some (.tup (List.map V.int ns)) ∧ (ns.length : Int) = g ∧ (∀ n ∈ ns, 0 ≤ n ∧ n ≤ 100) ∧ ∃ n ∈ ns, 1 ≤ n
theorem purseShape {d : PyData} (h : isPurse d = true) : ∃ t u : Int, d = .tuple [.int t, .int u] := by
  unfold isPurse at h
  split at h
  · exact ⟨_, _, rfl⟩
  · cases h
theorem RP.of {b : Addr} {H : Hp} {v : V} {d : PyData} (h : TrV b H v d) (hp : isPurse d = true) : RP H v := by
  obtain ⟨t, u, rfl⟩ := purseShape hp
  cases h with
  | tup ha hs =>
  cases hs with
  | cons hx hs =>
  cases hs with
  | cons hy hs =>
  cases hs
  cases hx
  cases hy
  exact ⟨_, t, u, rfl, ha, hp⟩
theorem RA.tr {b : Addr} {H : Hp} {v : V} (h : RA H v) : ∃ d, TrV b H v d ∧ within 1 60 d = true := by
  obtain ⟨n, rfl, h1, h2⟩ := h
  exact ⟨.int n, .int n, by show (decide _ && decide _) = true; rw [decide_eq_true h1, decide_eq_true h2]; rfl⟩
theorem RP.tr {b : Addr} {H : Hp} {v : V} (h : RP H v) : ∃ d, TrV b H v d ∧ isPurse d = true := by
  obtain ⟨a, t, u, rfl, h1, h2⟩ := h
  exact ⟨_, .tup h1 (.cons (.int t) (.cons (.int u) .nil)), h2⟩
theorem trInts {b : Addr} {H : Hp} : ∀ ns : List Int, TrVs b H (ns.map V.int) (ns.map PyData.int)
  | [] => .nil
  | n :: ns => .cons (.int n) (trInts ns)
theorem all_within {lo hi : Int} {ns : List Int} (h : ∀ n ∈ ns, lo ≤ n ∧ n ≤ hi) : (ns.map PyData.int).all (within lo hi) = true := by
  rw [List.all_map, List.all_eq_true]
  intro n hn
  obtain ⟨h1, h2⟩ := h n hn
  show (decide _ && decide _) = true
  rw [decide_eq_true h1, decide_eq_true h2]; rfl
theorem RW.tr {b : Addr} {H : Hp} {v : V} {g : Nat} (h : RW g H v) : ∃ d, TrV b H v d ∧ (isRow g 0 100 d && posD d) = true := by
  obtain ⟨a, ns, rfl, h1, h2, h3, n, hn, hp⟩ := h
  refine ⟨_, .tup h1 (trInts ns), ?_⟩
  have e1 : isRow g 0 100 (.tuple (ns.map PyData.int)) = true := by
    show (decide _ && _) = true
    rw [decide_eq_true (show (ns.map PyData.int).length = g by rw [List.length_map]; omega), all_within h3]; rfl
  have e2 : posD (.tuple (ns.map PyData.int)) = true := List.any_eq_true.mpr ⟨.int n, List.mem_map.mpr ⟨n, hn, rfl⟩, by show decide (1 ≤ n) = true; exact decide_eq_true hp⟩
  rw [e1, e2]; rfl
theorem isMk_of {a p w : List PyData} (h1 : 1 ≤ a.length) (h2 : a.length ≤ 6) (h3 : a.all (within 1 60) = true) (h4 : 1 ≤ p.length) (h5 : p.length ≤ 6) (h6 : p.all isPurse = true) (h7 : w.length = p.length) (h8 : w.all (isRow a.length 0 100) = true) : isMk (.tuple [.tuple a, .tuple p, .tuple w]) = true := by
  show (decide _ && decide _ && _ && (decide _ && decide _ && _) && (decide _ && _)) = true
  rw [decide_eq_true h1, decide_eq_true h2, h3, decide_eq_true h4, decide_eq_true h5, h6, decide_eq_true h7, h8]; rfl
theorem isMk_out {a p w : List PyData} (h : isMk (.tuple [.tuple a, .tuple p, .tuple w]) = true) : 1 ≤ a.length ∧ a.length ≤ 6 ∧ a.all (within 1 60) = true ∧ 1 ≤ p.length ∧ p.length ≤ 6 ∧ p.all isPurse = true ∧ w.length = p.length ∧ w.all (isRow a.length 0 100) = true := by
  have h' : (decide (1 ≤ a.length) && decide (a.length ≤ 6) && a.all (within 1 60) && (decide (1 ≤ p.length) && decide (p.length ≤ 6) && p.all isPurse) && (decide (w.length = p.length) && w.all (isRow a.length 0 100))) = true := h
  simp only [Bool.and_eq_true, decide_eq_true_eq] at h'
  obtain ⟨⟨⟨⟨h1, h2⟩, h3⟩, ⟨h4, h5⟩, h6⟩, h7, h8⟩ := h'
  exact ⟨h1, h2, h3, h4, h5, h6, h7, h8⟩
theorem frac_low {i j : Int} (h : 0 < j) : (PyData.eqv (.tuple [.int i, .int j]) (.tuple [.int (i / (Int.gcd i j : Int)), .int (j / (Int.gcd i j : Int))])) = decide (Int.gcd i j = 1) := by
  obtain ⟨g0, g1⟩ := gcd_pos (t := i) h
  have gu : (Int.gcd i j : Int) ∣ j := Int.gcd_dvd_right ..
  have gt : (Int.gcd i j : Int) ∣ i := Int.gcd_dvd_left ..
  simp only [PyData.eqv, PyData.eqvAll, Bool.and_true]
  rw [Bool.eq_iff_iff, Bool.and_eq_true, beq_iff_eq, beq_iff_eq, decide_eq_true_eq]
  constructor
  · rintro ⟨_, h2⟩
    have a1 : j / (Int.gcd i j : Int) * (Int.gcd i j : Int) = j := Int.ediv_mul_cancel gu
    rw [← h2] at a1
    have : (Int.gcd i j : Int) = 1 := by
      have a2 : j * (Int.gcd i j : Int) = j * 1 := by rw [a1, Int.mul_one]
      exact Int.eq_of_mul_eq_mul_left (by omega) a2
    omega
  · intro e
    rw [e]; simp
theorem smalls_t {ds : List PyData} (h : small (.tuple ds) = true) : ∀ d ∈ ds, small d = true := fun d hd => smalls_mem (ds := ds) h hd
mutual
def ln (n : Nat) : PyData → Bool
  | .list ds => decide (ds.length ≤ n) && lns n ds
  | .tuple ds => decide (ds.length ≤ n) && lns n ds
  | _ => true
def lns (n : Nat) : List PyData → Bool
  | [] => true
  | d :: ds => ln n d && lns n ds
end
theorem lns_iff {n : Nat} : ∀ {ds : List PyData}, lns n ds = true ↔ ∀ d ∈ ds, ln n d = true
  | [] => by simp [lns]
  | d :: ds => by
    rw [lns, Bool.and_eq_true, lns_iff (ds := ds)]
    simp
theorem ln_t {n : Nat} {ds : List PyData} : ln n (.tuple ds) = true ↔ ds.length ≤ n ∧ ∀ d ∈ ds, ln n d = true := by
  rw [ln, Bool.and_eq_true, decide_eq_true_eq, lns_iff]
theorem ln_l {n : Nat} {ds : List PyData} : ln n (.list ds) = true ↔ ds.length ≤ n ∧ ∀ d ∈ ds, ln n d = true := by
  rw [ln, Bool.and_eq_true, decide_eq_true_eq, lns_iff]
mutual
theorem ln_mono {n m : Nat} (h : n ≤ m) : ∀ {d : PyData}, ln n d = true → ln m d = true
  | .none, _ => rfl
  | .bool _, _ => rfl
  | .int _, _ => rfl
  | .str _, _ => rfl
  | .dict _, _ => rfl
  | .list ds, e => by
    have e' : ds.length ≤ n ∧ lns n ds = true := by simpa [ln] using e
    have := lns_mono h (ds := ds) e'.2
    simp [ln, this]; omega
  | .tuple ds, e => by
    have e' : ds.length ≤ n ∧ lns n ds = true := by simpa [ln] using e
    have := lns_mono h (ds := ds) e'.2
    simp [ln, this]; omega
theorem lns_mono {n m : Nat} (h : n ≤ m) : ∀ {ds : List PyData}, lns n ds = true → lns m ds = true
  | [], _ => rfl
  | d :: ds, e => by
    have e' : ln n d = true ∧ lns n ds = true := by simpa [lns] using e
    simp [lns, ln_mono h e'.1, lns_mono h e'.2]
end
theorem small_t {ds : List PyData} (h : ∀ d ∈ ds, small d = true) : small (.tuple ds) = true := smalls_of h
theorem small_l {ds : List PyData} (h : ∀ d ∈ ds, small d = true) : small (.list ds) = true := smalls_of h
def oddL : List PyData := [.int (-1), .int 0, .int 1, .int 2, .int 61, .int 101, .int 1000001, .bool true, .bool false, .none, .str "", .str "1", .tuple [], .tuple [.int 1], .tuple [.int 0, .int 1], .tuple [.int 1, .int 1], .tuple [.int 2, .int 2], .tuple [.int 1, .int 0],
  .tuple [.int 1, .int (-1)], .tuple [.bool true, .int 1], .list [.int 1, .int 1], .list [], .tuple [.int 1, .int 2, .int 3], .tuple [.tuple [.int 1, .int 1]]]
theorem oddL_ok : ∀ d ∈ oddL, isMk d = false ∧ small d = true ∧ ln 3 d = true := by
  have h : oddL.all (fun d => !isMk d && small d && ln 3 d) = true := by decide +kernel
  intro d hd
  have := List.all_eq_true.mp h d hd
  simp only [Bool.and_eq_true, Bool.not_eq_true'] at this
  exact ⟨this.1.1, this.1.2, this.2⟩
def spOdd : Sp := fun vs H Q _ => ∃ (b : Addr), vs = [.ref b] ∧ Bag H b ∧ ∀ (v : V) (d : PyData) (H' : Hp), Bag H' b → Kp b H H' → TrV b H' v d → d ∈ oddL → Q v H'
theorem Stay.kpb {b : Addr} {H H' : Hp} (s : Stay H H') : Kp b H H' := fun a o _ h => s a o h
theorem Bag.stay {b : Addr} {H H' : Hp} (h : Bag H b) (s : Stay H H') : Bag H' b := by obtain ⟨c, d, e⟩ := h; exact ⟨c, d, s _ _ e⟩
theorem trAt {b : Addr} {H : Hp} {xs : List V} {ds : List PyData} {r : Int} (h : TrVs b H xs ds) (h0 : 0 ≤ r) (h1 : r < xs.length) : ∃ x d, xs[r.toNat]? = some x ∧ atI xs r = some x ∧ ds[r.toNat]? = some d ∧ TrV b H x d := by
  have hl : r.toNat < xs.length := by omega
  have e := List.getElem?_eq_getElem hl
  obtain ⟨d, e2, t⟩ := h.at e
  have := atI_nat e
  rw [Int.toNat_of_nonneg h0] at this
  exact ⟨_, d, e, this, e2, t⟩
theorem cut_to {xs : List V} {r : Int} (h0 : 0 ≤ r) (h1 : r < xs.length) : cutV xs none (some r) = xs.take r.toNat := by
  have e1 : HT.sIx xs.length xs.length (some r) = r.toNat := by
    show (if r < 0 then (r + (xs.length : Int)).toNat else min r.toNat xs.length) = _
    rw [if_neg (by omega)]; omega
  unfold cutV
  rw [HT.sIx_none, e1]; simp
theorem cut_from {xs : List V} {r : Int} (h0 : 0 ≤ r) (h1 : r ≤ xs.length) : cutV xs (some r) none = xs.drop r.toNat := by
  have e1 : HT.sIx xs.length 0 (some r) = r.toNat := by
    show (if r < 0 then (r + (xs.length : Int)).toNat else min r.toNat xs.length) = _
    rw [if_neg (by omega)]; omega
  unfold cutV
  rw [HT.sIx_none, e1, List.take_of_length_le]
  rw [List.length_drop]; omega
theorem eqv_tnil {es : List PyData} : PyData.eqv (.tuple es) (.tuple []) = es.isEmpty := by
  cases es <;> simp [PyData.eqv, PyData.eqvAll]
def spRep (m : Nat) : Sp := fun vs H Q _ => ∃ (b : Addr) (v : V) (d : PyData) (deep n : Nat), vs = [.ref b, v, .int deep] ∧ deep < m ∧ Bag H b ∧ TrV b H v d ∧ small d = true ∧ ln n d = true ∧ 3 ≤ n ∧ n ≤ 50 ∧
  ∀ (v' : V) (d' : PyData) (H' : Hp), Bag H' b → Kp b H H' → TrV b H' v' d' → small d' = true → ln (n + 1) d' = true → Q v' H'
def put {α : Type} (xs : List α) (i : Nat) (x : α) : List α := xs.take i ++ [x] ++ xs.drop (i + 1)
theorem put_tr {b : Addr} {H : Hp} {xs : List V} {ds : List PyData} {i : Nat} {x : V} {d : PyData} (h : TrVs b H xs ds) (hx : TrV b H x d) : TrVs b H (put xs i x) (put ds i d) := ((h.take i).app (.cons hx .nil)).app (h.drop (i + 1))
theorem rowShape {n : Nat} {lo hi : Int} {d : PyData} (h : isRow n lo hi d = true) : ∃ rs, d = .tuple rs ∧ rs.length = n ∧ rs.all (within lo hi) = true := by
  unfold isRow at h
  split at h
  · next ds => simp only [Bool.and_eq_true, decide_eq_true_eq] at h; exact ⟨ds, rfl, h.1, h.2⟩
  · cases h
theorem intsOf {b : Addr} {H : Hp} : ∀ {xs : List V} {ds : List PyData}, TrVs b H xs ds → ds.all (within 0 100) = true → ∃ ns : List Int, xs = ns.map V.int ∧ ∀ n ∈ ns, 0 ≤ n ∧ n ≤ 100
  | _, _, .nil, _ => ⟨[], rfl, fun n h => nomatch h⟩
  | _, _, .cons (x := x) (d := d) h t, e => by
    rw [List.all_cons, Bool.and_eq_true] at e
    obtain ⟨ns, rfl, h2⟩ := intsOf t e.2
    rcases intCase h with hn | ⟨i, rfl, rfl⟩
    · rw [within_no hn] at e; cases e.1
    · have h1 : (decide (0 ≤ i) && decide (i ≤ 100)) = true := e.1
      simp only [Bool.and_eq_true, decide_eq_true_eq] at h1
      refine ⟨i :: ns, rfl, fun n hn => ?_⟩
      rcases List.mem_cons.mp hn with rfl | hn
      · exact h1
      · exact h2 n hn
end KM
set_option Elab.async false
set_option linter.all false
set_option maxRecDepth 100000
set_option maxHeartbeats 4000000
namespace KM
open PySem L2 KG EX
structure Nm (mg : Str → Option Value) : Prop where
  len : mg "len" = none
  range : mg "range" = none
  tuple : mg "tuple" = none
  list : mg "list" = none
  all : mg "all" = none
  any : mg "any" = none
  max : mg "max" = none
  min : mg "min" = none
  sum : mg "sum" = none
  abs : mg "abs" = none
  int : mg "int" = none
  isinstance : mg "isinstance" = none
  bool : mg "bool" = none
  enumerate : mg "enumerate" = none
  valueError : mg "ValueError" = none
theorem boot_value : bootBuiltins "ValueError" = some (.type "ValueError") := by first | rfl | kernel_rfl | decide +kernel
structure CalX (K : PySem.W.Frag) (mg : Str → Option Value) (P : Program) (w : World) (base : Heap) (x : Str) (k : Nat) (ps : List Str) (sp : Sp) (f : Addr) (fd : FuncData) : Prop where
  ok : FnOk P w K mg base (CXF P w) k f fd ps sp
  mg : mg x = some (.ref f)
  kp : PySem.W.keepIn K (.ref f) = true
  bd : Binds K fd ps []
structure CalH (K : PySem.W.Frag) (mg : Str → Option Value) (P : Program) (w : World) (base : Heap) (x : Str) (k : Nat) (ps : List Str) (sp : Addr → Addr → Sp) (f : Addr) (fd : FuncData) : Prop where
  ok : FnH P w K mg base k f fd ps sp
  mg : mg x = some (.ref f)
  kp : PySem.W.keepIn K (.ref f) = true
  bd : Binds K fd ps []
theorem passE0 {P : Program} {w : World} {X : Cx} : Passes (CXF P w) X E0 := fun _ _ _ _ _ _ _ h => by
  obtain ⟨_, _, _, _, _, _, _, _, _, _, _, _, _, _, z⟩ := h
  exact z.elim
end KM
set_option Elab.async false
set_option linter.all false
set_option maxRecDepth 100000
set_option maxHeartbeats 4000000
namespace KM
open PySem L2 KG EX
def intOf : PyData → Int
  | .int i => i
  | _ => 0
def rowOf : PyData → List Int
  | .tuple rs => rs.map intOf
  | _ => []
def rowsOf (wi : List PyData) : List (List Int) := wi.map rowOf
theorem rows_of {b : Addr} {H : Hp} {n : Nat} : ∀ {xw : List V} {wi : List PyData}, TrVs b H xw wi → wi.all (isRow n 0 100) = true → Rws H xw (rowsOf wi) ∧ ∀ r ∈ rowsOf wi, r.length = n ∧ ∀ k ∈ r, 0 ≤ k ∧ k ≤ 100
  | _, _, .nil, _ => ⟨.nil, fun r h => nomatch h⟩
  | _, _, .cons (d := d) h t, e => by
    rw [List.all_cons, Bool.and_eq_true] at e
    obtain ⟨h1, h2⟩ := rows_of t e.2
    obtain ⟨rs, rfl, hl, hr⟩ := rowShape e.1
    cases h with
    | @tup a xs _ ha hs =>
    obtain ⟨ns, rfl, hn⟩ := intsOf hs hr
    have er : rs = ns.map PyData.int := by
      clear ha hn hr hl e
      induction ns generalizing rs with
      | nil => cases hs; rfl
      | cons m ns ih =>
        cases hs with
        | cons hx ht => cases hx; rw [ih _ ht]; rfl
    subst er
    have eo : rowOf (.tuple (ns.map PyData.int)) = ns := by
      show (ns.map PyData.int).map intOf = ns
      rw [List.map_map]
      have : (intOf ∘ PyData.int) = fun i => i := rfl
      rw [this, List.map_id']
    refine ⟨?_, fun r hr' => ?_⟩
    · show Rws H _ (rowOf (.tuple (ns.map PyData.int)) :: rowsOf _)
      rw [eo]
      exact .cons ⟨a, rfl, ha⟩ h1
    · have hr2 : r = rowOf (.tuple (ns.map PyData.int)) ∨ r ∈ rowsOf _ := List.mem_cons.mp hr'
      rcases hr2 with z | z
      · rw [z, eo]; rw [List.length_map] at hl; exact ⟨hl, hn⟩
      · exact h2 r z
structure MkAt (b : Addr) (H : Hp) (p pa pp pw : Addr) (xa xp xw : List V) (am pu wi : List PyData) : Prop where
  hp : H p = some (.tup [.ref pa, .ref pp, .ref pw])
  ha : H pa = some (.tup xa)
  hpp : H pp = some (.tup xp)
  hw : H pw = some (.tup xw)
  ta : TrVs b H xa am
  tp : TrVs b H xp pu
  tw : TrVs b H xw wi
  ok : isMk (.tuple [.tuple am, .tuple pu, .tuple wi]) = true
theorem MkAt.of {b p : Addr} {H : Hp} {am pu wi : List PyData} (h : TrV b H (.ref p) (.tuple [.tuple am, .tuple pu, .tuple wi])) (m : isMk (.tuple [.tuple am, .tuple pu, .tuple wi]) = true) : ∃ pa pp pw xa xp xw, MkAt b H p pa pp pw xa xp xw am pu wi := by
  cases h with
  | @tup _ xs0 _ hp hs0 =>
  match xs0, hs0 with
  | _, .cons (.tup (a := pa) (xs := xa) ha hsa) (.cons (.tup (a := pp) (xs := xp) hpp hsp) (.cons (.tup (a := pw) (xs := xw) hpw hsw) .nil)) => exact ⟨pa, pp, pw, xa, xp, xw, hp, ha, hpp, hpw, hsa, hsp, hsw, m⟩
theorem MkAt.stay {b p pa pp pw : Addr} {H H' : Hp} {xa xp xw : List V} {am pu wi : List PyData} (m : MkAt b H p pa pp pw xa xp xw am pu wi) (s : Stay H H') : MkAt b H' p pa pp pw xa xp xw am pu wi :=
  ⟨s _ _ m.hp, s _ _ m.ha, s _ _ m.hpp, s _ _ m.hw, m.ta.stay s, m.tp.stay s, m.tw.stay s, m.ok⟩
theorem MkAt.kp {b p pa pp pw : Addr} {H H' : Hp} {xa xp xw : List V} {am pu wi : List PyData} (m : MkAt b H p pa pp pw xa xp xw am pu wi) (k : Kp b H H') (hb : Bag H b) : MkAt b H' p pa pp pw xa xp xw am pu wi :=
  ⟨k.tm hb _ _ m.hp, k.tm hb _ _ m.ha, k.tm hb _ _ m.hpp, k.tm hb _ _ m.hw, m.ta.kp k hb, m.tp.kp k hb, m.tw.kp k hb, m.ok⟩
theorem MkAt.lw {b p pa pp pw : Addr} {H : Hp} {xa xp xw : List V} {am pu wi : List PyData} (m : MkAt b H p pa pp pw xa xp xw am pu wi) : Rws H xw (rowsOf wi) ∧ rowsOf wi ≠ [] ∧ (∀ r ∈ rowsOf wi, r.length = xa.length) ∧ (∀ r ∈ rowsOf wi, ∀ k ∈ r, 0 ≤ k ∧ k ≤ 100) ∧ 1 ≤ xa.length ∧ xa.length ≤ 6 ∧ 1 ≤ xw.length ∧ xw.length ≤ 6 ∧ xp.length = xw.length := by
  obtain ⟨h1, h2, h3, h4, h5, h6, h7, h8⟩ := isMk_out m.ok
  obtain ⟨r1, r2⟩ := rows_of m.tw h8
  have la := m.ta.len
  have lp := m.tp.len
  have lw := m.tw.len
  refine ⟨r1, ?_, fun r hr => by rw [(r2 r hr).1, la], fun r hr => (r2 r hr).2, by omega, by omega, by omega, by omega, by omega⟩
  intro z
  have := congrArg List.length z
  unfold rowsOf at this
  rw [List.length_map] at this
  simp at this
  rw [this] at h7
  simp at h7
  omega
end KM
set_option Elab.async false
set_option linter.all false
set_option maxRecDepth 100000
set_option maxHeartbeats 4000000
namespace KM
open PySem L2 KG EX
structure Clx (K : PySem.W.Frag) (mg : Str → Option Value) (M De Bu Dl Go Mk Nn Pr Ro Tx No Un : Addr) : Prop where
  mgM : mg "MartError" = some (.ref M)
  mgDe : mg "Dear" = some (.ref De)
  mgBu : mg "NoBuyer" = some (.ref Bu)
  mgDl : mg "NoDealing" = some (.ref Dl)
  mgGo : mg "NoGood" = some (.ref Go)
  mgMk : mg "NoMarket" = some (.ref Mk)
  mgNn : mg "NoNumber" = some (.ref Nn)
  mgPr : mg "NoPrices" = some (.ref Pr)
  mgRo : mg "NoRow" = some (.ref Ro)
  mgTx : mg "NoText" = some (.ref Tx)
  mgNo : mg "Nothing" = some (.ref No)
  mgUn : mg "Unwished" = some (.ref Un)
  tyM : PySem.W.typeIn K (.ref M) = some (.type "type")
  bM : PySem.W.mroIn K M (.type "BaseException") = some true
structure ErrOf (K : PySem.W.Frag) (M De Bu Dl Go Mk Nn Pr Ro Tx No Un D : Addr) (i : Nat) : Prop where
  kDe : PySem.W.kitOne K (.ref D) (.ref De) = some (decide (i = 0))
  kBu : PySem.W.kitOne K (.ref D) (.ref Bu) = some (decide (i = 1))
  kDl : PySem.W.kitOne K (.ref D) (.ref Dl) = some (decide (i = 2))
  kGo : PySem.W.kitOne K (.ref D) (.ref Go) = some (decide (i = 3))
  kMk : PySem.W.kitOne K (.ref D) (.ref Mk) = some (decide (i = 4))
  kNn : PySem.W.kitOne K (.ref D) (.ref Nn) = some (decide (i = 5))
  kPr : PySem.W.kitOne K (.ref D) (.ref Pr) = some (decide (i = 6))
  kRo : PySem.W.kitOne K (.ref D) (.ref Ro) = some (decide (i = 7))
  kTx : PySem.W.kitOne K (.ref D) (.ref Tx) = some (decide (i = 8))
  kNo : PySem.W.kitOne K (.ref D) (.ref No) = some (decide (i = 9))
  kUn : PySem.W.kitOne K (.ref D) (.ref Un) = some (decide (i = 10))
  kVa : PySem.W.kitOne K (.ref D) (.type "ValueError") = some true
  ex : PySem.W.excIn K D [.type "ValueError", .type "Exception", .type "BaseException", .type "object"] "ValueError.__new__" = true
  sub : PySem.W.mroIn K D (.ref M) = some true
  ek : ExcK K D
def wordsL : List Str := ["Dear", "NoBuyer", "NoDealing", "NoGood", "NoMarket", "NoNumber", "NoPrices", "NoRow", "NoText", "Nothing", "Unwished", "+"]
def flagsL (i : Nat) : List Bool := [decide (i = 0), decide (i = 1), decide (i = 2), decide (i = 3), decide (i = 4), decide (i = 5), decide (i = 6), decide (i = 7), decide (i = 8), decide (i = 9), decide (i = 10), true]
def toldL (i n : Nat) : List Str := ((List.range n).filter fun j => (flagsL i).getD j false).map fun j => wordsL.getD j ""
theorem toldL_succ (i n : Nat) : toldL i (n + 1) = toldL i n ++ if (flagsL i).getD n false = true then [wordsL.getD n ""] else [] := by
  unfold toldL
  rw [filter_succ, List.map_append]
  split <;> simp
theorem toldL_len (i n : Nat) : (toldL i n).length ≤ n := by
  unfold toldL
  rw [List.length_map]
  exact Nat.le_trans (List.length_filter_le _ _) (by simp)
theorem toldL_end : ∀ i : Fin 11, toldL i.1 12 = [wordsL.getD i.1 "", "+"] ∧ (∀ z ∈ [wordsL.getD i.1 "", "+"], z.length ≤ 12) := by decide +kernel
def kindS (i : Nat) : Str := PySem.Txt.join "" [wordsL.getD i "", "+"]
theorem strsOf {b : Addr} {H : Hp} : ∀ {xs : List V} {zs : List Str}, TrVs b H xs (zs.map PyData.str) → xs = zs.map V.str
  | _, [], .nil => rfl
  | _, _ :: _, .cons h t => by
    cases h
    rw [List.map_cons, strsOf t]
def spKinds (K : PySem.W.Frag) (M De Bu Dl Go Mk Nn Pr Ro Tx No Un : Addr) : Addr → Addr → Sp := fun ea D vs H Q _ => ∃ i, i < 11 ∧ ErrOf K M De Bu Dl Go Mk Nn Pr Ro Tx No Un D i ∧ vs = [.ref ea] ∧ ∀ H', Stay H H' → Q (.str (kindS i)) H'
end KM
set_option Elab.async false
set_option linter.all false
set_option maxRecDepth 100000
set_option maxHeartbeats 4000000
namespace KM
open PySem L2 KG EX
theorem low_uniq {a b X Y : Int} (hb : 0 < b) (hY : 0 < Y) (g1 : Int.gcd a b = 1) (g2 : Int.gcd X Y = 1) (h : X * b = a * Y) : X = a ∧ Y = b := by
  have d1 : Y ∣ b := by
    have q : Y ∣ X * b := ⟨a, by rw [h, Int.mul_comm]⟩
    rw [← Int.dvd_gcd_mul_iff_dvd_mul, Int.gcd_comm, g2] at q
    simpa using q
  have d2 : b ∣ Y := by
    have q : b ∣ a * Y := ⟨X, by rw [← h, Int.mul_comm]⟩
    rw [← Int.dvd_gcd_mul_iff_dvd_mul, Int.gcd_comm, g1] at q
    simpa using q
  have e : Y = b := Int.dvd_antisymm (by omega) (by omega) d1 d2
  subst e
  exact ⟨Int.eq_of_mul_eq_mul_right (by omega) h, rfl⟩
theorem den_pos (q : Rat) : (0 : Int) < (q.den : Int) := by have := q.den_nz; omega
theorem rat_gcd (q : Rat) : Int.gcd q.num (q.den : Int) = 1 := q.reduced
theorem nf_rat {T U : Int} (hU : U ≠ 0) : nx T U = (Rat.divInt T U).num ∧ ny T U = ((Rat.divInt T U).den : Int) := by
  obtain ⟨n1, n2, n3, _⟩ := nf_spec (t := T) hU
  have hd := den_pos (Rat.divInt T U)
  have h1 : T * ((Rat.divInt T U).den : Int) = (Rat.divInt T U).num * U := by
    rw [← Rat.divInt_eq_divInt_iff hU (by omega), Rat.num_divInt_den]
  refine low_uniq hd n2 (rat_gcd _) n3 ?_
  have e : nx T U * ((Rat.divInt T U).den : Int) * U = (Rat.divInt T U).num * ny T U * U := by
    calc nx T U * ((Rat.divInt T U).den : Int) * U = nx T U * U * ((Rat.divInt T U).den : Int) := by rw [Int.mul_right_comm]
      _ = T * ny T U * ((Rat.divInt T U).den : Int) := by rw [n1]
      _ = T * ((Rat.divInt T U).den : Int) * ny T U := by rw [Int.mul_right_comm]
      _ = (Rat.divInt T U).num * U * ny T U := by rw [h1]
      _ = (Rat.divInt T U).num * ny T U * U := by rw [Int.mul_right_comm]
  exact Int.eq_of_mul_eq_mul_right hU e
abbrev qO (q : Rat) : HO := .tup [.int q.num, .int (q.den : Int)]
def Rb (k : Nat) (q : Rat) : Prop := Bd k q.num ∧ Bd k (q.den : Int)
theorem Rb.mono {j k : Nat} {q : Rat} (h : Rb j q) (hk : j ≤ k) : Rb k q := ⟨h.1.mono hk, h.2.mono hk⟩
theorem rat_pos {q : Rat} : 0 < q ↔ 0 < q.num := by
  rw [Rat.lt_iff]; simp
theorem rat_of {t u : Int} (hu : 0 < u) (hg : Int.gcd t u = 1) : ∃ q : Rat, q.num = t ∧ (q.den : Int) = u := by
  refine ⟨⟨t, u.toNat, by omega, ?_⟩, rfl, by show ((u.toNat : Nat) : Int) = u; omega⟩
  show Nat.gcd t.natAbs u.toNat = 1
  have : u.toNat = u.natAbs := by omega
  rw [this]; exact hg
theorem add_rat (a b : Rat) : Rat.divInt (a.num * b.den + b.num * a.den) (a.den * b.den) = a + b := by
  rw [← Rat.divInt_add_divInt _ _ (by have := den_pos a; omega) (by have := den_pos b; omega), Rat.num_divInt_den, Rat.num_divInt_den]
theorem mul_rat (a b : Rat) : Rat.divInt (a.num * b.num) (a.den * b.den) = a * b := by
  rw [← Rat.divInt_mul_divInt, Rat.num_divInt_den, Rat.num_divInt_den]
theorem sub_rat (a b : Rat) : Rat.divInt (a.num * b.den - b.num * a.den) (a.den * b.den) = a - b := by
  have h := add_rat a (-b)
  rw [Rat.sub_eq_add_neg, ← h]
  congr 1
  · rw [Rat.neg_num, Rat.neg_den]
    rw [Int.neg_mul]; omega
theorem div_rat {a b : Rat} (hb : b.num ≠ 0) : Rat.divInt (a.num * b.den) (a.den * b.num) = a / b := by
  rw [Rat.div_def, Rat.inv_def]
  conv => rhs; rw [← Rat.num_divInt_den a]
  rw [Rat.divInt_mul_divInt]
theorem lt_rat (a b : Rat) : (a.num * b.den < b.num * a.den) = (a < b) := propext (Rat.lt_iff a b).symm
theorem rb_div {k : Nat} {T U : Int} (hU : U ≠ 0) (h1 : Bd k T) (h2 : Bd k U) : Rb k (Rat.divInt T U) := by
  obtain ⟨e1, e2⟩ := nf_rat (T := T) hU
  obtain ⟨_, _, _, _, n5, n6⟩ := nf_spec (t := T) hU
  refine ⟨?_, ?_⟩
  · rw [← e1]; exact h1.le n5
  · rw [← e2]; exact h2.le n6
theorem Bd.add {j : Nat} {a b : Int} (ha : Bd j a) (hb : Bd j b) : Bd (j + 1) (a + b) := by
  unfold Bd at *
  rw [Nat.pow_succ]; omega
theorem rb_add {j k : Nat} {a b : Rat} (ha : Rb j a) (hb : Rb k b) : Rb (j + k + 1) (a + b) := by
  rw [← add_rat]
  have h2 : (a.den : Int) * b.den ≠ 0 := Int.ne_of_gt (Int.mul_pos (den_pos a) (den_pos b))
  refine rb_div h2 (Bd.add (ha.1.mul hb.2) ?_) ((ha.2.mul hb.2).mono (by omega))
  have := hb.1.mul ha.2
  exact Bd.mono this (by omega)
theorem rb_mul {j k : Nat} {a b : Rat} (ha : Rb j a) (hb : Rb k b) : Rb (j + k) (a * b) := by
  rw [← mul_rat]
  have h2 : (a.den : Int) * b.den ≠ 0 := Int.ne_of_gt (Int.mul_pos (den_pos a) (den_pos b))
  exact rb_div h2 (ha.1.mul hb.1) (ha.2.mul hb.2)
def spFr (Nn : Addr) : Sp := fun vs H Q E => ∃ (t u : Int), vs = [.int t, .int u] ∧ Bd 8000 u ∧ (u = 0 → E (.ref Nn) none H) ∧ (u ≠ 0 → ∀ p, H p = none → Q (.ref p) (upd H p (qO (Rat.divInt t u))))
def spLf : Sp := fun vs H Q _ => ∃ (t u : Int), vs = [.int t, .int u] ∧ 0 < u ∧ Bd 8000 u ∧ ∀ p, H p = none → Q (.ref p) (upd H p (qO (Rat.divInt t u)))
def sp2 (op : Rat → Rat → Rat) : Sp := fun vs H Q _ => ∃ (p q : Addr) (a b : Rat), vs = [.ref p, .ref q] ∧ H p = some (qO a) ∧ H q = some (qO b) ∧ Rb 3000 a ∧ Rb 3000 b ∧ ∀ r, H r = none → Q (.ref r) (upd H r (qO (op a b)))
def spOver (Nn : Addr) : Sp := fun vs H Q E => ∃ (p q : Addr) (a b : Rat), vs = [.ref p, .ref q] ∧ H p = some (qO a) ∧ H q = some (qO b) ∧ Rb 3000 a ∧ Rb 3000 b ∧ (b = 0 → E (.ref Nn) none H) ∧ (b ≠ 0 → ∀ r, H r = none → Q (.ref r) (upd H r (qO (a / b))))
def spLess : Sp := fun vs H Q _ => ∃ (p q : Addr) (a b : Rat), vs = [.ref p, .ref q] ∧ H p = some (qO a) ∧ H q = some (qO b) ∧ Rb 3000 a ∧ Rb 3000 b ∧ Q (.bl (decide (a < b))) H
def qPl : Rat → Rat → Rat := fun a b => a + b
def qMi : Rat → Rat → Rat := fun a b => a - b
def qTi : Rat → Rat → Rat := fun a b => a * b
theorem b3 {n : Int} (h : Bd 3000 n) : Bd 8000 n := h.mono (by decide)
theorem b6 {n : Int} (h : Bd (3000 + 3000) n) : Bd 8000 n := h.mono (by decide)
theorem sg_bd {k : Nat} {t u : Int} (h : Bd k u) (hu : u ≠ 0) : Bd k (sg t u) := by
  refine h.le ?_
  have g0 : 0 < Int.gcd t u := Int.gcd_pos_of_ne_zero_right t hu
  have e : (sg t u).natAbs = Int.gcd t u := by unfold sg; split <;> omega
  rw [e]
  exact Nat.le_of_dvd (by omega) (Int.gcd_dvd_natAbs_right t u)
theorem abs_gcd0 {a : Int} : (if a < 0 then -a else a) = (Int.gcd a 0 : Int) := by
  rw [Int.gcd_zero_right]
  split <;> omega
def spGcdN : Sp := fun vs H Q _ => ∃ (t u : Int), vs = [.int t, .int u] ∧ Q (.int (Int.gcd t u)) H
end KM
set_option Elab.async false
set_option linter.all false
set_option maxRecDepth 100000
set_option maxHeartbeats 4000000
namespace KM
open PySem L2 KG EX
def qD (q : Rat) : PyData := .tuple [.int q.num, .int (q.den : Int)]
end KM
set_option Elab.async false
set_option linter.all false
set_option maxRecDepth 100000
set_option maxHeartbeats 4000000
namespace KM
open PySem L2 KG EX
theorem rb_int {k : Nat} {n : Int} (h : Bd k n) (hk : 1 ≤ k) : Rb k (n : Rat) := ⟨h, by
  show Bd k ((1 : Nat) : Int)
  unfold Bd
  exact Nat.one_lt_two_pow (by omega)⟩
def Frs (H : Hp) (ys : List V) (qs : List Rat) : Prop := ys.length = qs.length ∧ ∀ (j : Nat) y, ys[j]? = some y → ∃ a, y = .ref a ∧ H a = some (qO (qs.getD j 0))
theorem Frs.stay {H H' : Hp} {ys : List V} {qs : List Rat} (h : Frs H ys qs) (s : Stay H H') : Frs H' ys qs := ⟨h.1, fun j y hy => by obtain ⟨a, e, z⟩ := h.2 j y hy; exact ⟨a, e, s _ _ z⟩⟩
theorem Frs.of {b : Addr} {H : Hp} : ∀ {ys : List V} {qs : List Rat}, TrVs b H ys (qs.map qD) → Frs H ys qs
  | [], [], _ => ⟨rfl, fun j y h => by simp at h⟩
  | y :: ys, q :: qs, .cons h t => by
    have ih := Frs.of t
    refine ⟨by simp [ih.1], fun j z hz => ?_⟩
    cases j with
    | zero =>
      have e : y = z := by simpa using hz
      subst e
      unfold qD at h
      cases h with
      | @tup a xs _ ha hs =>
      match xs, hs with
      | _, .cons (.int _) (.cons (.int _) .nil) => exact ⟨a, rfl, ha⟩
    | succ j => exact ih.2 j z (by simpa using hz)
theorem Frs.at {H : Hp} {ys : List V} {qs : List Rat} (h : Frs H ys qs) {g : Nat} (hg : g < qs.length) : ∃ a, atI ys (g : Int) = some (.ref a) ∧ H a = some (qO (qs.getD g 0)) := by
  have hl : g < ys.length := by rw [h.1]; exact hg
  have e := List.getElem?_eq_getElem hl
  obtain ⟨a, e2, z⟩ := h.2 g _ e
  rw [e2] at e
  exact ⟨a, atI_nat e, z⟩
theorem Frs.app {H : Hp} {ys : List V} {qs : List Rat} (h : Frs H ys qs) {a : Addr} {q : Rat} (ha : H a = some (qO q)) : Frs H (ys ++ [.ref a]) (qs ++ [q]) := by
  refine ⟨by simp [h.1], fun j y hy => ?_⟩
  rcases Nat.lt_or_ge j ys.length with z | z
  · rw [List.getElem?_append_left z] at hy
    obtain ⟨c, e, hc⟩ := h.2 j y hy
    refine ⟨c, e, ?_⟩
    have : (qs ++ [q]).getD j 0 = qs.getD j 0 := by simp [List.getD, List.getElem?_append_left (h.1 ▸ z)]
    rw [this]; exact hc
  · have : j = ys.length := by
      have := (List.getElem?_eq_some_iff.mp hy).1
      simp at this; omega
    subst this
    simp at hy
    subst hy
    refine ⟨a, rfl, ?_⟩
    have : (qs ++ [q]).getD ys.length 0 = q := by rw [h.1]; simp [List.getD]
    rw [this]; exact ha
theorem Frs.tm {H H' : Hp} {ys : List V} {qs : List Rat} (h : Frs H ys qs) (s : Tm H H') : Frs H' ys qs := ⟨h.1, fun j y hy => by obtain ⟨a, e, z⟩ := h.2 j y hy; exact ⟨a, e, s _ _ z⟩⟩
def sumQ (qs : List Rat) : Rat := qs.foldl (fun s q => s + q) 0
theorem take_snoc {α : Type} {xs : List α} {i : Nat} {x : α} (h : xs[i]? = some x) : xs.take (i + 1) = xs.take i ++ [x] := by rw [List.take_succ, h]; rfl
theorem sumQ_snoc (qs : List Rat) (q : Rat) : sumQ (qs ++ [q]) = sumQ qs + q := by unfold sumQ; rw [List.foldl_append]; rfl
theorem rb_zero : Rb 1 (0 : Rat) := by unfold Rb Bd; decide +kernel
theorem sumQ_rb {qs : List Rat} {k : Nat} (h : ∀ q ∈ qs, Rb k q) : ∀ i, Rb (1 + (k + 1) * i) (sumQ (qs.take i))
  | 0 => rb_zero
  | i + 1 => by
    have ih := sumQ_rb h i
    cases e : qs[i]? with
    | none =>
      have : qs.take (i + 1) = qs.take i := by rw [List.take_succ, e]; simp
      rw [this]
      exact ih.mono (by rw [Nat.mul_succ]; omega)
    | some q =>
      rw [take_snoc e, sumQ_snoc]
      refine (rb_add ih (h q (List.mem_of_getElem? e))).mono ?_
      rw [Nat.mul_succ]; omega
def spSum : Sp := fun vs H Q _ => ∃ (l : Addr) (ys : List V) (qs : List Rat), vs = [.ref l] ∧ H l = some (.lst ys) ∧ Frs H ys qs ∧ (∀ q ∈ qs, Rb 300 q) ∧ qs.length ≤ 8 ∧ ∀ (r : Addr) (H' : Hp), Stay H H' → H' r = some (qO (sumQ qs)) → Q (.ref r) H'
theorem am_of {b : Addr} {H : Hp} : ∀ {xa : List V} {am : List PyData}, TrVs b H xa am → am.all (within 1 60) = true → xa = (am.map intOf).map V.int ∧ ∀ n ∈ am.map intOf, 1 ≤ n ∧ n ≤ 60
  | _, _, .nil, _ => ⟨rfl, fun n hn => nomatch hn⟩
  | _, _, .cons (d := d) h t, h3 => by
    rw [List.all_cons, Bool.and_eq_true] at h3
    obtain ⟨e, hb⟩ := am_of t h3.2
    obtain ⟨n, rfl, n1, n2⟩ : ∃ n : Int, d = .int n ∧ 1 ≤ n ∧ n ≤ 60 := by
      have := h3.1
      unfold within at this
      split at this
      · simp at this; exact ⟨_, rfl, this⟩
      · cases this
    cases h
    refine ⟨by rw [e]; simp [intOf], fun k hk => ?_⟩
    rcases List.mem_cons.mp hk with rfl | hk
    · exact ⟨n1, n2⟩
    · exact hb k hk
theorem MkAt.am {b p pa pp pw : Addr} {H : Hp} {xa xp xw : List V} {am pu wi : List PyData} (m : MkAt b H p pa pp pw xa xp xw am pu wi) : xa = (am.map intOf).map V.int ∧ ∀ n ∈ am.map intOf, 1 ≤ n ∧ n ≤ 60 := by
  obtain ⟨_, _, h3, _⟩ := isMk_out m.ok
  exact am_of m.ta h3
end KM
set_option Elab.async false
set_option linter.all false
set_option maxRecDepth 100000
set_option maxHeartbeats 4000000
namespace L2
open PySem PySem.Spec PyProof.Rows
end L2
namespace KM
open PySem L2 KG EX
theorem mk_zero {am pu wi : List PyData} (h : isMk (.tuple [.tuple am, .tuple pu, .tuple wi]) = true) : isMk (.tuple [.tuple am, .tuple pu, .tuple (wi.drop 1 ++ [.tuple (List.replicate am.length (.int 0))])]) = true := by
  obtain ⟨h1, h2, h3, h4, h5, h6, h7, h8⟩ := isMk_out h
  have hr : isRow am.length 0 100 (.tuple (List.replicate am.length (.int 0))) = true := by
    show (decide ((List.replicate am.length (PyData.int 0)).length = am.length) && (List.replicate am.length (PyData.int 0)).all (within 0 100)) = true
    rw [List.length_replicate, Bool.and_eq_true]
    refine ⟨by simp, List.all_eq_true.mpr fun d hd => ?_⟩
    rw [(List.mem_replicate.mp hd).2]; rfl
  show (decide (1 ≤ am.length) && decide (am.length ≤ 6) && am.all (within 1 60) && (decide (1 ≤ pu.length) && decide (pu.length ≤ 6) && pu.all isPurse) && (decide ((wi.drop 1 ++ [PyData.tuple (List.replicate am.length (.int 0))]).length = pu.length) && (wi.drop 1 ++ [PyData.tuple (List.replicate am.length (.int 0))]).all (isRow am.length 0 100))) = true
  have hl : (wi.drop 1 ++ [PyData.tuple (List.replicate am.length (.int 0))]).length = pu.length := by
    rw [List.length_append, List.length_drop]; show wi.length - 1 + 1 = _; omega
  have ha : (wi.drop 1 ++ [PyData.tuple (List.replicate am.length (.int 0))]).all (isRow am.length 0 100) = true := by
    rw [List.all_append, Bool.and_eq_true]
    refine ⟨List.all_eq_true.mpr fun d hd => List.all_eq_true.mp h8 d (List.mem_of_mem_drop hd), ?_⟩
    rw [List.all_cons, hr]; rfl
  rw [decide_eq_true h1, decide_eq_true h2, h3, decide_eq_true h4, decide_eq_true h5, h6, decide_eq_true hl, ha]; rfl
theorem zeros_tr {b : Addr} {H : Hp} : ∀ n, TrVs b H (List.replicate n (V.int 0)) (List.replicate n (PyData.int 0))
  | 0 => .nil
  | n + 1 => .cons (.int 0) (zeros_tr n)
theorem flat_zeros (n : Nat) : (List.replicate n [V.int 0]).flatten = List.replicate n (V.int 0) := by
  induction n with
  | zero => rfl
  | succ n ih => rw [List.replicate_succ, List.flatten_cons, ih]; rfl
end KM
set_option Elab.async false
set_option linter.all false
set_option maxRecDepth 100000
set_option maxHeartbeats 4000000
namespace KM
open PySem L2 KG EX
theorem purse_q {d : PyData} (h : isPurse d = true) : ∃ q : Rat, d = qD q ∧ 0 < q ∧ Rb 20 q := by
  obtain ⟨t, u, rfl⟩ := purseShape h
  have h' : (decide (1 ≤ u) && decide (Int.gcd t u = 1) && decide (1 ≤ t) && decide (t ≤ 1000000) && decide (u ≤ 1000000)) = true := h
  simp only [Bool.and_eq_true, decide_eq_true_eq] at h'
  obtain ⟨⟨⟨⟨h1, h2⟩, h3⟩, h4⟩, h5⟩ := h'
  obtain ⟨q, e1, e2⟩ := rat_of (t := t) (u := u) (by omega) h2
  refine ⟨q, by unfold qD; rw [e1, e2], rat_pos.mpr (by omega), ?_, ?_⟩
  · unfold Bd; omega
  · unfold Bd; omega
theorem purses_q : ∀ {pu : List PyData}, pu.all isPurse = true → ∃ ps : List Rat, pu = ps.map qD ∧ ∀ q ∈ ps, 0 < q ∧ Rb 20 q
  | [], _ => ⟨[], rfl, fun q h => nomatch h⟩
  | d :: pu, h => by
    rw [List.all_cons, Bool.and_eq_true] at h
    obtain ⟨q, rfl, h1, h2⟩ := purse_q h.1
    obtain ⟨ps, rfl, hp⟩ := purses_q h.2
    refine ⟨q :: ps, rfl, fun z hz => ?_⟩
    rcases List.mem_cons.mp hz with rfl | hz
    · exact ⟨h1, h2⟩
    · exact hp z hz
def qOf : PyData → Rat
  | .tuple [.int t, .int u] => Rat.divInt t u
  | _ => 0
theorem qOf_qD (q : Rat) : qOf (qD q) = q := Rat.num_divInt_den q
def pursesQ (pu : List PyData) : List Rat := pu.map qOf
theorem MkAt.pu {b p pa pp pw : Addr} {H : Hp} {xa xp xw : List V} {am pu wi : List PyData} (m : MkAt b H p pa pp pw xa xp xw am pu wi) : pu = (pursesQ pu).map qD ∧ ∀ q ∈ pursesQ pu, 0 < q ∧ Rb 20 q := by
  obtain ⟨_, _, _, _, _, h6, _⟩ := isMk_out m.ok
  obtain ⟨ps, e, hp⟩ := purses_q h6
  have : pursesQ pu = ps := by
    rw [e]; unfold pursesQ
    rw [List.map_map]
    have : (qOf ∘ qD) = id := by funext q; exact qOf_qD q
    rw [this, List.map_id]
  rw [this]
  exact ⟨e, hp⟩
theorem MkAt.fp {b p pa pp pw : Addr} {H : Hp} {xa xp xw : List V} {am pu wi : List PyData} (m : MkAt b H p pa pp pw xa xp xw am pu wi) : Frs H xp (pursesQ pu) := by
  have h := m.tp
  rw [m.pu.1] at h
  exact Frs.of h
theorem rb_getD {k : Nat} {qs : List Rat} (hk : 1 ≤ k) (h : ∀ q ∈ qs, Rb k q) (g : Nat) : Rb k (qs.getD g 0) := by
  by_cases hg : g < qs.length
  · have : qs.getD g 0 ∈ qs := by simp [List.getD, List.getElem?_eq_getElem hg]
    exact h _ this
  · have : qs.getD g 0 = 0 := by simp [List.getD, List.getElem?_eq_none (Nat.le_of_not_lt hg)]
    rw [this]; exact rb_zero.mono hk
def spDiv : Sp := fun vs H Q _ => ∃ (p q : Addr) (a b : Rat), vs = [.ref p, .ref q] ∧ H p = some (qO a) ∧ H q = some (qO b) ∧ Rb 3000 a ∧ Rb 3000 b ∧ 0 < b ∧ ∀ r, H r = none → Q (.ref r) (upd H r (qO (a / b)))
theorem rb_divq {j k : Nat} {a b : Rat} (ha : Rb j a) (hb : Rb k b) (h : b ≠ 0) : Rb (j + k) (a / b) := by
  have hn : b.num ≠ 0 := fun z => h (Rat.num_eq_zero.mp z)
  rw [← div_rat hn]
  refine rb_div ?_ (ha.1.mul hb.2) (ha.2.mul hb.1)
  intro z
  rcases Int.mul_eq_zero.mp z with y | y
  · have := den_pos a; omega
  · exact hn y
end KM
set_option Elab.async false
set_option linter.all false
set_option maxRecDepth 100000
namespace L2
open PySem PySem.Spec PyProof.Rows
section
variable {κ : Type} [DecidableEq κ]
end
section
variable {P : Program} {w : World} {H : Hp} {h : Heap} {a : Addr}
end
section
variable {X : Cx} {pins : List (Addr × Obj)} {σ : St} {H : Hp} {s : Shared} {a : Addr} {y v : V} {u r : Value} {o : Option V} {A : Around} {E : Value → Shared → Prop}
end
section
variable {X : Cx} {pins : List (Addr × Obj)} {σ : St} {H : Hp} {s : Shared} {a : Addr} {kvs : List (Key × V)} {k : Key} {u : Value} {A : Around} {E : Value → Shared → Prop}
end
section
variable {X : Cx} {o i e value : Expr} {pos pos' tpos : Pos} {td ty tv : TE}
end
section
variable {X : Cx} {pos : Pos}
end
section
variable {X : Cx} {pins : List (Addr × Obj)} {σ : St} {H : Hp} {s : Shared} {a : Addr} {y d : V} {u r : Value} {o : Option V} {A : Around} {E : Value → Shared → Prop}
end
section
variable {X : Cx} {o e f : Expr} {apos cpos : Pos} {td ty tx : TE}
end
section
variable {X : Cx} {pins : List (Addr × Obj)} {σ : St} {H : Hp} {s : Shared} {a : Addr} {kvs : List (Key × V)} {A : Around} {E : Value → Shared → Prop}
end
section
variable {X : Cx} {pins : List (Addr × Obj)} {σ : St} {H : Hp} {s : Shared} {a : Addr} {y : V} {u : Value} {A : Around} {E : Value → Shared → Prop}
end
end L2
namespace L2
open PySem PySem.Spec PyProof.Rows
section
variable {X : Cx}
end
section
variable {κ : Type} [DecidableEq κ]
end
end L2
set_option Elab.async false
set_option linter.all false
set_option maxRecDepth 100000
namespace L2
open PySem PySem.Spec PyProof.Rows
section
variable {X : Cx} {scope : Scope} {own cap : List Str} {ix : List Nat} {tg iter kx vx : Expr} {ifs : List Expr} {wi : TI} {g : TG} {tt : TT} {tk tv : TE} {pos : Pos}
end
end L2
set_option Elab.async false
set_option linter.all false
set_option maxRecDepth 100000
namespace L2
open PySem PySem.Spec PyProof.Rows
section
variable {X : Cx}
end
end L2
set_option Elab.async false
set_option linter.all false
set_option maxRecDepth 100000
namespace PySem
theorem upd_pair {prog : Program} {w : World} {A : Around} {E : Value → Shared → Prop} {s : Shared} {T : Addr} {a b x : Value} {k : Nat} {Q : Unit → Shared → Prop} (hT : IsPair s.heap T a b)
    (q : ∀ g, g.get? T = some { cls := .type "tuple", data := .seq ((#[a, b] : Array Value).setIfInBounds k x) } → Heap.SameBut T s.heap g → Q () { s with heap := g }) : wpAny (model prog w) A (updateSeq T (·.setIfInBounds k x)) Q E s :=
  wpAny_updateSeq_pair hT q
section
variable {prog : Program} {w : World} {A : Around} {E : Value → Shared → Prop} {s : Shared} {z TI TO i1 i2 l1 l2 : Addr} {k1 k2 : Nat} {xs ys : Array Value} {x y a b : Value}
theorem tit_but {h g : Heap} {it l c : Addr} {i : Nat} (t : h.IsTupleIter it l i) (sb : Heap.ExtBut c h g) (ne : it ≠ c) : g.IsTupleIter it l i := let ⟨o, e, r⟩ := t; ⟨o, sb it o ne e, r⟩
theorem tup_but {h g : Heap} {l c : Addr} {v : Array Value} (t : h.IsTuple l v) (sb : Heap.ExtBut c h g) (ne : l ≠ c) : g.IsTuple l v := let ⟨o, e, r⟩ := t; ⟨o, sb l o ne e, r⟩
theorem zipT_next {Q : Value → Shared → Prop} (D : ZipApart z TI TO i1 i2 l1 l2) (hz : IsZip s.heap z TI TO .none) (pI : IsPair s.heap TI (.ref i1) (.ref i2)) (pO : IsPair s.heap TO a b)
    (t1 : s.heap.IsTupleIter i1 l1 k1) (t2 : s.heap.IsTupleIter i2 l2 k2) (u1 : s.heap.IsTuple l1 xs) (u2 : s.heap.IsTuple l2 ys) (hx : xs[k1]? = some x) (hy : ys[k2]? = some y)
    (q : ∀ g, IsZip g z TI TO (rawInt s.heap.objs.size) → IsPair g TO x y → g.IsTupleIter i1 l1 (k1 + 1) → g.IsTupleIter i2 l2 (k2 + 1) → IsPair g s.heap.objs.size x y →
      (∀ c o, c ≠ z → c ≠ TO → c ≠ i1 → c ≠ i2 → s.heap.get? c = some o → g.get? c = some o) → Q (.ref s.heap.objs.size) { s with heap := g }) :
    wpAny (model prog w) A (Builtin.«zip.__next__» ⟨[.ref z], []⟩) (fun fin s' => ∃ v, fin = .done (.ret v) ∧ Q v s') E s := by
  show wpAny _ _ (field (.ref z) 2 >>= _) _ _ _; refine wpAny_bind (wpAny_field hz rfl (x := .bool false) rfl ?_)
  show wpAny _ _ (field (.ref z) 3 >>= _) _ _ _; refine wpAny_bind (wpAny_field hz rfl (x := .ref TI) rfl (wpAny_bind (wpAny_seqItems pI rfl ?_)))
  show wpAny _ _ (Builtin.SmallTypes.ownedTupleIsFree (.ref z) >>= _) _ _ _; refine wpAny_bind ?_; unfold Builtin.SmallTypes.ownedTupleIsFree
  refine wpAny_bind (wpAny_field hz rfl (x := .none) rfl (wpAny_pure ?_)); simp only [if_true]
  refine wpAny_bind (wpAny_rule (wpAny_bind (wpAny_field hz rfl (x := .ref TO) rfl ?_)))
  refine wpAny_bind (wpAny_setField_rec hz (by simp) fun g1 z1 b1 => ?_); replace z1 : IsZip g1 z TI TO .ellipsis := z1; refine wpAny_bind ?_
  simp only [List.zipIdx_cons, List.zipIdx_nil, List.forIn_cons, List.forIn_nil]; refine wpAny_bind (wpAny_bind (wpAny_onRaise ?_))
  show wpAny _ _ (Builtin.SmallTypes.nextOf (.ref i1) >>= _) _ _ _; refine wpAny_bind (nextOf_tup_item (tit_but t1 b1.extBut D.i1z) (tup_but u1 b1.extBut D.l1z) hx fun g2 n1 b2 => wpAny_pure ?_)
  have o2 : IsPair g2 TO a b := b2.extBut _ _ D.TOi1 (b1.extBut _ _ D.TOz pO)
  refine wpAny_bind (wpAny_seqItems o2 rfl (wpAny_bind (upd_pair o2 fun g3 o3 b3 => wpAny_bind (wpAny_letGo (wpAny_pure ?_)))))
  replace o3 : IsPair g3 TO x b := o3
  refine wpAny_bind (wpAny_bind (wpAny_onRaise ?_)); show wpAny _ _ (Builtin.SmallTypes.nextOf (.ref i2) >>= _) _ _ _
  refine wpAny_bind (nextOf_tup_item (tit_but (tit_but (tit_but t2 b1.extBut D.i2z) b2.extBut D.i12.symm) b3.extBut D.TOi2.symm) (tup_but (tup_but (tup_but u2 b1.extBut D.l2z) b2.extBut D.l2i1) b3.extBut D.l2TO) hy fun g4 n2 b4 => wpAny_pure ?_)
  have o4 : IsPair g4 TO x b := b4.extBut _ _ D.TOi2 o3
  refine wpAny_bind (wpAny_seqItems o4 rfl (wpAny_bind (upd_pair o4 fun g5 o5 b5 => wpAny_bind (wpAny_letGo (wpAny_pure (wpAny_pure ?_))))))
  replace o5 : IsPair g5 TO x y := o5
  refine wpAny_bind (wpAny_seqItems o5 rfl (wpAny_bind (wpAny_newTuple ?_)))
  have sz : g5.objs.size = s.heap.objs.size := by rw [b5.1, b4.1, b3.1, b2.1, b1.1]
  have z5 : IsZip g5 z TI TO .ellipsis := b5.extBut _ _ D.TOz.symm (b4.extBut _ _ D.i2z.symm (b3.extBut _ _ D.TOz.symm (b2.extBut _ _ D.i1z.symm z1)))
  have k5 : ∀ c o, c ≠ z → c ≠ TO → c ≠ i1 → c ≠ i2 → s.heap.get? c = some o → g5.get? c = some o := fun c o e1 e2 e3 e4 e => b5.extBut _ _ e2 (b4.extBut _ _ e4 (b3.extBut _ _ e2 (b2.extBut _ _ e3 (b1.extBut _ _ e1 e))))
  have m1 : g5.IsTupleIter i1 l1 (k1 + 1) := tit_but (tit_but (tit_but n1 b3.extBut D.TOi1.symm) b4.extBut D.i12) b5.extBut D.TOi1.symm
  have m2 : g5.IsTupleIter i2 l2 (k2 + 1) := tit_but n2 b5.extBut D.TOi2.symm
  have zlt : z < g5.objs.size := Heap.lt_size z5
  show wpAny _ _ (Builtin.SmallTypes.ownedTupleHandOut (.ref z) (.ref g5.objs.size) >>= _) _ _ _; refine wpAny_bind ?_; unfold Builtin.SmallTypes.ownedTupleHandOut
  have z6 : IsZip (g5.push { cls := .type "tuple", data := .seq #[x, y] }) z TI TO .ellipsis := Heap.get?_push_of_some _ z5
  refine wpAny_bind (wpAny_setField_rec z6 (by simp) fun g7 z7 b7 => ?_); replace z7 : IsZip g7 z TI TO (rawInt g5.objs.size) := z7
  refine wpAny_setField_rec z7 (by simp) fun g8 z8 b8 => ?_; replace z8 : IsZip g8 z TI TO (rawInt g5.objs.size) := z8
  have up : ∀ c o, c ≠ z → g5.get? c = some o → g8.get? c = some o := fun c o e1 e => b8.extBut _ _ e1 (b7.extBut _ _ e1 (Heap.get?_push_of_some _ e))
  have p8 : IsPair g8 g5.objs.size x y := b8.extBut _ _ (Nat.ne_of_gt zlt) (b7.extBut _ _ (Nat.ne_of_gt zlt) (Heap.get?_push_size _ rfl))
  rw [sz] at z8 p8
  refine wpAny_pure ⟨_, rfl, ?_⟩; show Q (.ref g5.objs.size) _; rw [sz]
  exact q g8 z8 (up _ _ D.TOz o5) (let ⟨o, e, r⟩ := m1; ⟨o, up _ o D.i1z e, r⟩) (let ⟨o, e, r⟩ := m2; ⟨o, up _ o D.i2z e, r⟩) p8 fun c o e1 e2 e3 e4 e => up c o e1 (k5 c o e1 e2 e3 e4 e)
theorem zipT_stop {Q : Fin → Shared → Prop} (hh : A.handled = none) (D : ZipApart z TI TO i1 i2 l1 l2) (hz : IsZip s.heap z TI TO .none) (pI : IsPair s.heap TI (.ref i1) (.ref i2)) (pO : IsPair s.heap TO a b)
    (t1 : s.heap.IsTupleIter i1 l1 k1) (t2 : s.heap.IsTupleIter i2 l2 k2) (u1 : s.heap.IsTuple l1 xs) (u2 : s.heap.IsTuple l2 ys) (hx : xs[k1]? = none)
    (q : ∀ g e, (∀ c o, c ≠ z → c ≠ TO → c ≠ i1 → c ≠ i2 → s.heap.get? c = some o → g.get? c = some o) → (∃ o, g.get? e = some o ∧ o.cls = .type "StopIteration") → E (.ref e) { s with heap := g }) :
    wpAny (model prog w) A (Builtin.«zip.__next__» ⟨[.ref z], []⟩) Q E s := by
  show wpAny _ _ (field (.ref z) 2 >>= _) _ _ _; refine wpAny_bind (wpAny_field hz rfl (x := .bool false) rfl ?_)
  show wpAny _ _ (field (.ref z) 3 >>= _) _ _ _; refine wpAny_bind (wpAny_field hz rfl (x := .ref TI) rfl (wpAny_bind (wpAny_seqItems pI rfl ?_)))
  show wpAny _ _ (Builtin.SmallTypes.ownedTupleIsFree (.ref z) >>= _) _ _ _; refine wpAny_bind ?_; unfold Builtin.SmallTypes.ownedTupleIsFree
  refine wpAny_bind (wpAny_field hz rfl (x := .none) rfl (wpAny_pure ?_)); simp only [if_true]
  refine wpAny_bind (wpAny_rule (wpAny_bind (wpAny_field hz rfl (x := .ref TO) rfl ?_)))
  refine wpAny_bind (wpAny_setField_rec hz (by simp) fun g1 z1 b1 => ?_); replace z1 : IsZip g1 z TI TO .ellipsis := z1; refine wpAny_bind ?_
  simp only [List.zipIdx_cons, List.zipIdx_nil, List.forIn_cons, List.forIn_nil]; refine wpAny_bind (wpAny_bind (wpAny_onRaise ?_))
  show wpAny _ _ (Builtin.SmallTypes.nextOf (.ref i1) >>= _) _ _ _
  refine wpAny_bind (nextOf_tup_end hh (tit_but t1 b1.extBut D.i1z) (tup_but u1 b1.extBut D.l1z) hx fun g2 e b2 ⟨oe, he, ce⟩ => ?_)
  have z2 : IsZip g2 z TI TO .ellipsis := b2 _ _ D.i1z.symm z1
  have ez : e ≠ z := fun h => by subst h; rw [z2] at he; cases he; simp at ce
  exact wpAny_setField_rec z2 (by simp) fun g3 _ b3 => q g3 e (fun c o e1 _ e3 _ h => b3.extBut _ _ e1 (b2 _ _ e3 (b1.extBut _ _ e1 h))) ⟨oe, b3.extBut _ _ ez he, ce⟩
theorem pyNext_zipT {Q : Option Value → Shared → Prop} (D : ZipApart z TI TO i1 i2 l1 l2) (hz : IsZip s.heap z TI TO .none) (pI : IsPair s.heap TI (.ref i1) (.ref i2)) (pO : IsPair s.heap TO a b)
    (t1 : s.heap.IsTupleIter i1 l1 k1) (t2 : s.heap.IsTupleIter i2 l2 k2) (u1 : s.heap.IsTuple l1 xs) (u2 : s.heap.IsTuple l2 ys) (hx : xs[k1]? = some x) (hy : ys[k2]? = some y)
    (q : ∀ g, IsZip g z TI TO (rawInt s.heap.objs.size) → IsPair g TO x y → g.IsTupleIter i1 l1 (k1 + 1) → g.IsTupleIter i2 l2 (k2 + 1) → IsPair g s.heap.objs.size x y →
      (∀ c o, c ≠ z → c ≠ TO → c ≠ i1 → c ≠ i2 → s.heap.get? c = some o → g.get? c = some o) → Q (some (.ref s.heap.objs.size)) { s with heap := g }) : wpAny (model prog w) A (pyNext (.ref z)) Q E s := by
  have ty : s.TypeIs (.ref z) "zip" := ⟨_, hz, rfl⟩
  unfold pyNext
  exact wpAny_bind (wpAny_attempt (wpAny_callSpecial?_slot (name := Str.ofString "__next__") ty F.slot_zip_next (wpAny_call_entry F.slot_zip_next ty F.entry_zip_next
    (zipT_next D hz pI pO t1 t2 u1 u2 hx hy fun g a1 a2 a3 a4 a5 a6 => wpAny_pure (q g a1 a2 a3 a4 a5 a6)) (F.args_zip_next_1 _))))
theorem pyNext_zipT_end {Q : Option Value → Shared → Prop} (hh : A.handled = none) (D : ZipApart z TI TO i1 i2 l1 l2) (hz : IsZip s.heap z TI TO .none) (pI : IsPair s.heap TI (.ref i1) (.ref i2)) (pO : IsPair s.heap TO a b)
    (t1 : s.heap.IsTupleIter i1 l1 k1) (t2 : s.heap.IsTupleIter i2 l2 k2) (u1 : s.heap.IsTuple l1 xs) (u2 : s.heap.IsTuple l2 ys) (hx : xs[k1]? = none)
    (q : ∀ g, (∀ c o, c ≠ z → c ≠ TO → c ≠ i1 → c ≠ i2 → s.heap.get? c = some o → g.get? c = some o) → Q none { s with heap := g }) : wpAny (model prog w) A (pyNext (.ref z)) Q E s := by
  have ty : s.TypeIs (.ref z) "zip" := ⟨_, hz, rfl⟩
  unfold pyNext
  exact wpAny_bind (wpAny_attempt (wpAny_callSpecial?_slot (name := Str.ofString "__next__") ty F.slot_zip_next (wpAny_call_entry F.slot_zip_next ty F.entry_zip_next
    (zipT_stop hh D hz pI pO t1 t2 u1 u2 hx fun g e hk ⟨o, ho, hc⟩ => wpAny_bind (wpAny_isInstance (T := "StopIteration") (b := true) ⟨o, ho, hc⟩ isSubtype_stop (wpAny_pure (q _ hk)))) (F.args_zip_next_1 _))))
end
abbrev zpA (h : Heap) (l1 : Addr) : Heap := h.push { cls := .type "tuple_iterator", data := .fields #[.ref l1, .int 0 0] }
abbrev zpB (h : Heap) (l1 l2 : Addr) : Heap := (zpA h l1).push { cls := .type "tuple_iterator", data := .fields #[.ref l2, .int 0 0] }
abbrev zpC (h : Heap) (l1 l2 : Addr) : Heap := (zpB h l1 l2).push { cls := .type "tuple", data := .seq #[.ref h.objs.size, .ref (zpA h l1).objs.size] }
abbrev zpD (h : Heap) (l1 l2 : Addr) : Heap := (zpC h l1 l2).push { cls := .type "tuple", data := .seq #[.none, .none] }
abbrev zpE (h : Heap) (l1 l2 : Addr) : Heap := (zpD h l1 l2).push { cls := .type "zip", data := .fields #[.none, .bool false, .bool false, .ref (zpB h l1 l2).objs.size, .ref (zpC h l1 l2).objs.size] }
theorem meets_zipT (l1 l2 : Addr) (xs ys : Array Value) : Meets (Builtin.«zip.__new__» ⟨[.type "zip", .ref l1, .ref l2], []⟩) (fun _ R s => s.heap.IsTuple l1 xs ∧ s.heap.IsTuple l2 ys ∧ R (.ok (.ret (.ref (zpD s.heap l1 l2).objs.size))) { s with heap := zpE s.heap l1 l2 }) :=
  .of_wp fun prog w A R s h => by
    obtain ⟨hp, g, d, tk, os⟩ := s; obtain ⟨v1, v2, h⟩ := h
    have hsub := sub_zip
    have w1 : Heap.IsTuple (Shared.heap ⟨hp, g, d, tk, os⟩) l1 xs := v1
    have w2 : Heap.IsTuple (Shared.heap ⟨zpA hp l1, g, d, tk, os⟩) l2 ys := let ⟨o, e, r⟩ := v2; ⟨o, Heap.get?_push_of_some _ e, r⟩
    wp_walk using wpAny_pyIter_tuple w1, wpAny_pyIter_tuple w2
    exact ⟨_, rfl, h⟩
theorem call_zipT {prog : Program} {w : World} {A : Around} {E : Value → Shared → Prop} {s : Shared} {l1 l2 : Addr} {xs ys : Array Value} {Q : Value → Shared → Prop} (v1 : s.heap.IsTuple l1 xs) (v2 : s.heap.IsTuple l2 ys)
    (q : ∀ g, IsZip g (s.heap.objs.size + 4) (s.heap.objs.size + 2) (s.heap.objs.size + 3) .none → IsPair g (s.heap.objs.size + 2) (.ref s.heap.objs.size) (.ref (s.heap.objs.size + 1)) → IsPair g (s.heap.objs.size + 3) .none .none →
      g.IsTupleIter s.heap.objs.size l1 0 → g.IsTupleIter (s.heap.objs.size + 1) l2 0 → (∀ c o, s.heap.get? c = some o → g.get? c = some o) → Q (.ref (s.heap.objs.size + 4)) { s with heap := g }) : wpAny (model prog w) A (call (.type "zip") [.ref l1, .ref l2]) Q E s := by
  refine callType_new F.called_zip (by decide) (F.typeCall_zip_2 _ _) (F.newCall_zip_2 _ _) (fun obj => F.args_object_init_3 obj _ _) F.entry_zip_new (meets_zipT l1 l2 xs ys) ⟨v1, v2, ?_⟩
  have e1 : (zpA s.heap l1).objs.size = s.heap.objs.size + 1 := Heap.size_push ..
  have e2 : (zpB s.heap l1 l2).objs.size = s.heap.objs.size + 2 := by rw [Heap.size_push, e1]
  have e3 : (zpC s.heap l1 l2).objs.size = s.heap.objs.size + 3 := by rw [Heap.size_push, e2]
  have e4 : (zpD s.heap l1 l2).objs.size = s.heap.objs.size + 4 := by rw [Heap.size_push, e3]
  have p5 : (zpE s.heap l1 l2).get? (zpD s.heap l1 l2).objs.size = some _ := Heap.get?_push_size _ rfl
  have p4 : (zpE s.heap l1 l2).get? (zpC s.heap l1 l2).objs.size = some _ := Heap.get?_push_of_some _ (Heap.get?_push_size _ rfl)
  have p3 : (zpE s.heap l1 l2).get? (zpB s.heap l1 l2).objs.size = some _ := Heap.get?_push_of_some _ (Heap.get?_push_of_some _ (Heap.get?_push_size _ rfl))
  have p2 : (zpE s.heap l1 l2).get? (zpA s.heap l1).objs.size = some _ := Heap.get?_push_of_some _ (Heap.get?_push_of_some _ (Heap.get?_push_of_some _ (Heap.get?_push_size _ rfl)))
  have p1 : (zpE s.heap l1 l2).get? s.heap.objs.size = some _ := Heap.get?_push_of_some _ (Heap.get?_push_of_some _ (Heap.get?_push_of_some _ (Heap.get?_push_of_some _ (Heap.get?_push_size _ rfl))))
  show _ ∧ _; rw [e2, e3, e4] at p5; rw [e1, e2] at p3; rw [e3] at p4; rw [e1] at p2; rw [e4]
  exact ⟨⟨_, p5, rfl⟩, q _ p5 p3 p4 ⟨_, p1, rfl, rfl⟩ ⟨_, p2, rfl, rfl⟩ fun c o h => Heap.get?_push_of_some _ (Heap.get?_push_of_some _ (Heap.get?_push_of_some _ (Heap.get?_push_of_some _ (Heap.get?_push_of_some _ h))))⟩
end PySem
namespace L2
open PySem PySem.Spec PyProof.Rows
section
variable {X : Cx}
def Itz (K : PySem.W.Frag) (a b : Addr) : It :=
  ⟨fun i H => ∃ xs ys x y, SqT K H a xs ∧ SqT K H b ys ∧ xs[i]? = some x ∧ ys[i]? = some y,
   fun i H v H' => ∃ p, H p = none ∧ v = .ref p ∧ ∀ xs ys, SqT K H a xs → SqT K H b ys → ∃ x y, xs[i]? = some x ∧ ys[i]? = some y ∧ H' = upd H p (.tup [x, y]),
   fun i H => ∃ xs ys, SqT K H a xs ∧ SqT K H b ys ∧ xs.length ≤ i⟩
theorem turn_zip {P : Program} {w : World} {K : PySem.W.Frag} {elts : List Expr} {kk} {pos : Pos} (a b z TI TO i1 i2 : Addr) (D : ZipApart z TI TO i1 i2 a b) :
    Turn P w K (.Tuple elts kk pos) (Itz K a b) [z, TI, TO, i1, i2] z (fun i h => IsZip h z TI TO .none ∧ IsPair h TI (.ref i1) (.ref i2) ∧ (∃ u v, IsPair h TO u v) ∧ h.IsTupleIter i1 a i ∧ h.IsTupleIter i2 b i) where
  mem := by simp
  obj := fun i h st c hc => by
    obtain ⟨hz, pI, ⟨u, v, pO⟩, ⟨o1, e1, c1, d1⟩, o2, e2, c2, d2⟩ := st
    simp only [List.mem_cons, List.not_mem_nil, or_false] at hc
    rcases hc with rfl | rfl | rfl | rfl | rfl
    · exact ⟨_, hz, fun v z => by cases z⟩
    · exact ⟨_, pI, fun v z => by cases z⟩
    · exact ⟨_, pO, fun v z => by cases z⟩
    · exact ⟨o1, e1, fun v z => by rw [d1] at z; cases z⟩
    · exact ⟨o2, e2, fun v z => by rw [d2] at z; cases z⟩
  keep := fun i h h' st k => by
    obtain ⟨hz, pI, ⟨u, v, pO⟩, ⟨o1, e1, r1⟩, o2, e2, r2⟩ := st
    exact ⟨k z (by simp) _ hz, k TI (by simp) _ pI, ⟨u, v, k TO (by simp) _ pO⟩, ⟨o1, k i1 (by simp) _ e1, r1⟩, o2, k i2 (by simp) _ e2, r2⟩
  item := by
    intro X hP hw hK hc i pins s σ H E I hf st hg
    subst hP hw hK
    obtain ⟨xs, ys, x, y, hq1, hq2, hx, hy⟩ := hg
    obtain ⟨us, ru, pu, zu⟩ := I.tuple hq1
    obtain ⟨vs, rv, pv, zv⟩ := I.tuple hq2
    obtain ⟨u, hu, rxu⟩ := ru.get hx
    obtain ⟨v, hv, ryv⟩ := rv.get hy
    obtain ⟨hz, pI, ⟨u0, v0, pO⟩, t1, t2⟩ := st
    refine pyNext_zipT D hz pI pO t1 t2 (show s.heap.IsTuple a us.toArray from pu) (show s.heap.IsTuple b vs.toArray from pv) (x := u) (y := v) (by simpa using hu) (by simpa using hv) fun g z1 o1 n1 n2 p1 hk => ?_
    refine ⟨_, rfl, ?_⟩
    refine wpAny_letOwnedTupleGo_zip z1 fun g2 z2 b2 => ?_
    replace b2 : Heap.SameBut z g g2 := b2
    have lt : ∀ {c o}, s.heap.get? c = some o → s.heap.objs.size ≠ c := fun e => Nat.ne_of_gt (Heap.lt_size e)
    have hne : s.heap.objs.size ≠ z := lt hz
    have I1 : Inv X pins σ H { s with heap := g2, toks := s.toks } := I.turnedL (ch := [z, TI, TO, i1, i2]) (fun c o hc q => by
      have c1 : c ≠ z := fun h => hc (by simp [h])
      exact b2.extBut c o c1 (hk c o c1 (fun h => hc (by simp [h])) (fun h => hc (by simp [h])) (fun h => hc (by simp [h])) q)) hf
    have p2 := b2.extBut _ _ hne p1
    have fp : FpOk X pins H s.heap.objs.size := I.fpOk (Nat.le_refl _) I.fresh
    have I2 := I1.track (p := s.heap.objs.size) (o := .tup [x, y]) fp ⟨by show 2 ≤ sizeLine; decide, [u, v], .cons rxu (.cons ryv .nil), ⟨_, p2, rfl, _, rfl⟩⟩
    refine ⟨.ref s.heap.objs.size, _, I2, rfl, ⟨_, I.fresh, rfl, fun ys1 ys2 h1 h2 => ?_⟩, ⟨z2, b2.extBut _ _ D.TIz (hk _ _ D.TIz D.TITO D.TIi1 D.TIi2 pI), ⟨_, _, b2.extBut _ _ D.TOz o1⟩, tit_but n1 b2.extBut D.i1z, tit_but n2 b2.extBut D.i2z⟩, fun c hc => ?_⟩
    · rw [I.tuple_inj h1 hq1, I.tuple_inj h2 hq2]; exact ⟨x, y, hx, hy, rfl⟩
    · rw [upd_ne]
      · exact (hf c hc).1
      · simp only [List.mem_cons, List.not_mem_nil, or_false] at hc
        rcases hc with rfl | rfl | rfl | rfl | rfl
        · exact hne.symm
        · exact (lt pI).symm
        · exact (lt pO).symm
        · obtain ⟨_, e, _⟩ := t1; exact (lt e).symm
        · obtain ⟨_, e, _⟩ := t2; exact (lt e).symm
  done := by
    intro X hP hw hK hc i pins s σ H E I hf st hg
    subst hP hw hK
    obtain ⟨xs, ys, hq1, hq2, hx⟩ := hg
    obtain ⟨us, ru, pu, zu⟩ := I.tuple hq1
    obtain ⟨vs, rv, pv, zv⟩ := I.tuple hq2
    obtain ⟨hz, pI, ⟨u0, v0, pO⟩, t1, t2⟩ := st
    have hl := ru.length
    exact pyNext_zipT_end (I.ok.hd hc) D hz pI pO t1 t2 (show s.heap.IsTuple a us.toArray from pu) (show s.heap.IsTuple b vs.toArray from pv) (by simp; omega) fun g hk =>
      ⟨rfl, I.turnedL (t' := s.toks) (ch := [z, TI, TO, i1, i2]) (fun c o hc q => hk c o (fun h => hc (by simp [h])) (fun h => hc (by simp [h])) (fun h => hc (by simp [h])) (fun h => hc (by simp [h])) q) hf⟩
  self := fun A i s Q E st h => wpAny_pyIter_zip st.1 h
def iZip (K : PySem.W.Frag) (ta : TA) : TI := fun σ H R => ta σ H fun vs H1 => ∃ a b, vs = [.ref a, .ref b] ∧ (∃ xs, SqT K H1 a xs) ∧ (∃ ys, SqT K H1 b ys) ∧ R (Itz K a b) H1
end
end L2
set_option Elab.async false
set_option linter.all false
set_option maxRecDepth 100000
namespace L2
open PySem PySem.Spec PyProof.Rows KG
abbrev g2 (K : PySem.W.Frag) : TG := gTup K 2 (gCons (gName 0) (gCons (gName 1) gNil))
def S2 (σ₀ σ : St) : Prop := ∀ u v, (σ.set 0 u).set 1 v = (σ₀.set 0 u).set 1 v
theorem S2.of {σ₀ : St} {u v : Option V} : S2 σ₀ ((σ₀.set 0 u).set 1 v) := fun u' v' => by
  match σ₀ with
  | [] => rfl
  | [_] => rfl
  | _ :: _ :: _ => rfl
def Cn2 (σ₀ : St) (acc : Addr) (P : List V → Hp → Prop) (σ : St) (H : Hp) : Prop := S2 σ₀ σ ∧ ∃ ys, H acc = some (.lst ys) ∧ P ys H
theorem Cn2.of {σ₀ : St} {acc : Addr} {P : List V → Hp → Prop} {u v : Option V} {H : Hp} {ys : List V} (h : H acc = some (.lst ys)) (p : P ys H) : Cn2 σ₀ acc P ((σ₀.set 0 u).set 1 v) H := ⟨S2.of, ys, h, p⟩
theorem pair_in {K : PySem.W.Frag} {σ₀ σ : St} {H : Hp} {p : Addr} {x y : V} {Z : St → Hp → Prop} (hσ : S2 σ₀ σ) (hp : H p = none) (h : ∀ H1, Stay H H1 → Z ((σ₀.set 0 (some x)).set 1 (some y)) H1) : g2 K (.ref p) σ (upd H p (.tup [x, y])) Z := by
  refine ⟨p, _, rfl, SqT.of upd_same, rfl, _, _, rfl, _, _, rfl, rfl, ?_⟩
  show Z ((σ.set 0 (some x)).set 1 (some y)) _
  rw [hσ]
  exact h _ ((Stay.refl H).new hp)
section
variable {K : PySem.W.Frag} {tt : TT} {te tk tv : TE} {acc a b : Addr} {xs ys : List V} {σ₀ : St} {H₀ : Hp} {Q : VK} {o : Obj} {kvs : List (Key × V)}
theorem comp_enum (Pv : Nat → List V → Hp → Prop) (h0 : Pv 0 [] (upd H₀ acc (.lst []))) (hl : ∀ (i : Nat) zs H, i ≤ xs.length → H acc = some (.lst zs) → Pv i zs H → SqT K H a xs)
    (hs : ∀ (i : Nat) x zs H H1, xs[i]? = some x → H acc = some (.lst zs) → Pv i zs H → Stay H H1 → tt ((σ₀.set 0 (some (.int i))).set 1 (some x)) H1 fun b H4 =>
      if b = true then te ((σ₀.set 0 (some (.int i))).set 1 (some x)) H4 fun y H5 => ∃ us, H5 acc = some (.lst us) ∧ us.length < sizeLine ∧ Cn2 σ₀ acc (Pv (i + 1)) ((σ₀.set 0 (some (.int i))).set 1 (some x)) (upd H5 acc (.lst (us ++ [y])))
      else Cn2 σ₀ acc (Pv (i + 1)) ((σ₀.set 0 (some (.int i))).set 1 (some x)) H4)
    (hd : ∀ zs H, H acc = some (.lst zs) → Pv xs.length zs H → Q (.ref acc) H) : tCompN (g2 K) tt te (Ite K a) acc σ₀ H₀ Q := by
  refine ⟨fun i m σ H => m = xs.length - i ∧ i ≤ xs.length ∧ Cn2 σ₀ acc (Pv i) σ H, ⟨xs.length, by simp, Nat.zero_le _, fun _ _ => rfl, [], upd_same, h0⟩, ?_⟩
  rintro i m σ H ⟨rfl, hi, hσ, zs, hy, p⟩
  have q := hl i zs H hi hy p
  by_cases hlt : i < xs.length
  · refine .inr ⟨⟨xs, xs[i], q, by simp [hlt]⟩, Cn2 σ₀ acc (Pv (i + 1)), fun σ' H' c => ⟨xs.length - (i + 1), by omega, rfl, hlt, c⟩, fun x H' y => ?_⟩
    obtain ⟨pp, hp, rfl, hyy⟩ := y
    obtain ⟨z, hz, rfl⟩ := hyy xs q
    exact pair_in hσ hp fun H1 s1 => hs i z zs H H1 hz hy p s1
  · have e : i = xs.length := by omega
    subst e
    exact .inl ⟨⟨xs, q, Nat.le_refl _⟩, hd zs H hy p⟩
theorem comp_zip (Pv : Nat → List V → Hp → Prop) (hlen : xs.length = ys.length) (h0 : Pv 0 [] (upd H₀ acc (.lst []))) (hl : ∀ (i : Nat) zs H, i ≤ xs.length → H acc = some (.lst zs) → Pv i zs H → SqT K H a xs ∧ SqT K H b ys)
    (hs : ∀ (i : Nat) x y zs H H1, xs[i]? = some x → ys[i]? = some y → H acc = some (.lst zs) → Pv i zs H → Stay H H1 → tt ((σ₀.set 0 (some x)).set 1 (some y)) H1 fun b H4 =>
      if b = true then te ((σ₀.set 0 (some x)).set 1 (some y)) H4 fun v H5 => ∃ us, H5 acc = some (.lst us) ∧ us.length < sizeLine ∧ Cn2 σ₀ acc (Pv (i + 1)) ((σ₀.set 0 (some x)).set 1 (some y)) (upd H5 acc (.lst (us ++ [v])))
      else Cn2 σ₀ acc (Pv (i + 1)) ((σ₀.set 0 (some x)).set 1 (some y)) H4)
    (hd : ∀ zs H, H acc = some (.lst zs) → Pv xs.length zs H → Q (.ref acc) H) : tCompN (g2 K) tt te (Itz K a b) acc σ₀ H₀ Q := by
  refine ⟨fun i m σ H => m = xs.length - i ∧ i ≤ xs.length ∧ Cn2 σ₀ acc (Pv i) σ H, ⟨xs.length, by simp, Nat.zero_le _, fun _ _ => rfl, [], upd_same, h0⟩, ?_⟩
  rintro i m σ H ⟨rfl, hi, hσ, zs, hy, p⟩
  obtain ⟨q1, q2⟩ := hl i zs H hi hy p
  by_cases hlt : i < xs.length
  · refine .inr ⟨⟨xs, ys, xs[i], ys[i]'(by omega), q1, q2, by simp [hlt], by simp⟩, Cn2 σ₀ acc (Pv (i + 1)), fun σ' H' c => ⟨xs.length - (i + 1), by omega, rfl, hlt, c⟩, fun v H' y => ?_⟩
    obtain ⟨pp, hp, rfl, hyy⟩ := y
    obtain ⟨x1, y1, hx1, hy1, rfl⟩ := hyy xs ys q1 q2
    exact pair_in hσ hp fun H1 s1 => hs i x1 y1 zs H H1 hx1 hy1 hy p s1
  · have e : i = xs.length := by omega
    subst e
    exact .inl ⟨⟨xs, ys, q1, q2, Nat.le_refl _⟩, hd zs H hy p⟩
end
section
variable {X : Cx}
end
end L2
set_option Elab.async false
set_option linter.all false
set_option maxRecDepth 100000
namespace PySem
section
variable {prog : Program} {w : World} {A : Around} {E : Value → Shared → Prop} {s : Shared} {it d : Addr} {i ep : Nat} {es : Array DictEntry}
end
end PySem
namespace L2
open PySem PySem.Spec PyProof.Rows KG
section
variable {X : Cx}
end
end L2
set_option Elab.async false
set_option linter.all false
set_option maxRecDepth 100000
namespace L2
open PySem PySem.Spec PyProof.Rows KG
section
variable {X : Cx}
end
section
variable {K : PySem.W.Frag} {tt : TT} {te tk tv : TE} {acc a b : Addr} {xs ys : List V} {σ₀ : St} {H₀ : Hp} {Q : VK} {o : Obj} {kvs : List (List Key × V)}
end
end L2
namespace PySem
section
variable {prog : Program} {w : World} {A : Around} {I : Addr} {fp wr : List Addr} {n : Nat} {P : Nat → Value → Prop} {St : Nat → Heap → Prop}
end
end PySem
set_option Elab.async false
set_option linter.all false
set_option maxRecDepth 100000
namespace L2
open PySem PySem.Spec PyProof.Rows
def K0 : PySem.W.Frag := []
section
variable {K : PySem.W.Frag} {H : Hp} {a : Addr} {xs : List V}
theorem SqL.k0 (h : SqL K0 H a xs) : SqL K H a xs := by
  rcases h with h | ⟨o, its, n, hk, _⟩
  · exact .inl h
  · exact absurd hk (by show ¬ (none = some o); simp)
theorem SqT.k0 (h : SqT K0 H a xs) : SqT K H a xs := by
  rcases h with h | ⟨o, its, n, hk, _⟩
  · exact .inl h
  · exact absurd hk (by show ¬ (none = some o); simp)
theorem Sq.k0 (h : SqL K0 H a xs ∨ SqT K0 H a xs) : SqL K H a xs ∨ SqT K H a xs := h.elim (fun z => .inl z.k0) fun z => .inr z.k0
mutual
theorem DtV.k0 : ∀ {v : V} {d : PyData}, DtV K0 H v d → DtV K H v d
  | _, _, .non => .non
  | _, _, .bl b => .bl b
  | _, _, .int i => .int i
  | _, _, .str x ok => .str x ok
  | _, _, .lst h t => .lst h.k0 (DtVs.k0 t)
  | _, _, .tup h t => .tup h.k0 (DtVs.k0 t)
theorem DtVs.k0 : ∀ {vs : List V} {ds : List PyData}, DtVs K0 H vs ds → DtVs K H vs ds
  | _, _, .nil => .nil
  | _, _, .cons h t => .cons (DtV.k0 h) (DtVs.k0 t)
end
end
section
variable {X : Cx} {tg l : Expr} {tl : TE}
theorem OpR.imp {f : Value → Value → Sem Value} {r r' : R2} (h : OpR X f r) (hi : ∀ x y H Q, r' x y H Q → r x y H Q) : OpR X f r' := fun pins s σ H x y v u Q I rx ry q => h pins s σ H x y v u Q I rx ry (hi _ _ _ _ q)
theorem CallR.imp {f : Value} {r r' : List V → Hp → VK → Prop} (h : CallR X f r) (hi : ∀ xs H Q, r' xs H Q → r xs H Q) : CallR X f r' := fun pins s σ H xs us Q I rx q => h pins s σ H xs us Q I rx (hi _ _ _ q)
theorem IxR.imp {r r' : R2} (h : IxR X r) (hi : ∀ x y H Q, r' x y H Q → r x y H Q) : IxR X r' := fun a b pins s σ H x y v u Q I rx ry q => h a b pins s σ H x y v u Q I rx ry (hi _ _ _ _ q)
theorem ixL0 : IxR X (rIxL K0) := ix_list.imp fun _ _ _ _ ⟨p, xs, i, v, e1, e2, h, e3, q⟩ => ⟨p, xs, i, v, e1, e2, h.k0, e3, q⟩
theorem ixT0 : IxR X (rIxT K0) := ix_tup.imp fun _ _ _ _ ⟨p, xs, i, v, e1, e2, h, e3, q⟩ => ⟨p, xs, i, v, e1, e2, h.k0, e3, q⟩
def rLen0 : List V → Hp → VK → Prop := fun xs H Q => ∃ p ys, xs = [.ref p] ∧ (SqL K0 H p ys ∨ SqT K0 H p ys) ∧ Q (.int ys.length) H
def rTup0 : List V → Hp → VK → Prop := fun xs H Q => ∃ p ys, xs = [.ref p] ∧ ((SqL K0 H p ys ∧ ∀ l, H l = none → Q (.ref l) (upd H l (.tup ys))) ∨ (SqT K0 H p ys ∧ Q (.ref p) H))
def rLst0 : List V → Hp → VK → Prop := fun xs H Q => ∃ p ys, xs = [.ref p] ∧ (SqL K0 H p ys ∨ SqT K0 H p ys) ∧ ∀ l, H l = none → Q (.ref l) (upd H l (.lst ys))
def rAny0 : List V → Hp → VK → Prop := fun xs H Q => ∃ p ys, xs = [.ref p] ∧ (SqL K0 H p ys ∨ SqT K0 H p ys) ∧ ys.all plainB = true ∧ Q (.bl (ys.any tv)) H
def rAll0 : List V → Hp → VK → Prop := fun xs H Q => ∃ p ys, xs = [.ref p] ∧ (SqL K0 H p ys ∨ SqT K0 H p ys) ∧ ys.all plainB = true ∧ Q (.bl (ys.all tv)) H
def rSum0 : List V → Hp → VK → Prop := fun xs H Q => ∃ (p : Addr) (ns : List Int), xs = [.ref p] ∧ (SqL K0 H p (ns.map V.int) ∨ SqT K0 H p (ns.map V.int)) ∧ Q (.int ns.sum) H
theorem cLen0 : CallR X (.builtin "len") rLen0 := call_len_seq.imp fun _ _ _ ⟨p, ys, e, h, q⟩ => ⟨p, ys, e, Sq.k0 h, q⟩
theorem cTup0 : CallR X (.type "tuple") rTup0 := call_tuple_of.imp fun _ _ _ ⟨p, ys, e, h⟩ => ⟨p, ys, e, h.elim (fun z => .inl ⟨z.1.k0, z.2⟩) fun z => .inr ⟨z.1.k0, z.2⟩⟩
theorem cLst0 : CallR X (.type "list") rLst0 := call_list_of.imp fun _ _ _ ⟨p, ys, e, h, q⟩ => ⟨p, ys, e, Sq.k0 h, q⟩
theorem cAny0 (hc : X.calm = true) : CallR X (.builtin "any") rAny0 := (call_any hc).imp fun _ _ _ ⟨p, ys, e, h, q⟩ => ⟨p, ys, e, Sq.k0 h, q⟩
theorem cAll0 (hc : X.calm = true) : CallR X (.builtin "all") rAll0 := (call_all hc).imp fun _ _ _ ⟨p, ys, e, h, q⟩ => ⟨p, ys, e, Sq.k0 h, q⟩
theorem cSum0 (hc : X.calm = true) : CallR X (.builtin "sum") rSum0 := (call_sum hc).imp fun _ _ _ ⟨p, ys, e, h, q⟩ => ⟨p, ys, e, Sq.k0 h, q⟩
theorem opRepT0 : OpR X (binaryOp .Mult) (rRepT K0) := op_repT.imp fun _ _ _ _ ⟨a, k, xs, e1, e2, h, q⟩ => ⟨a, k, xs, e1, e2, h.k0, q⟩
theorem opEqD0 (hu : X.A.units + 64 < cLine) : OpR X (compareOp .Eq) (rEqD K0) := (op_eqD hu).imp fun _ _ _ _ ⟨dx, dy, h1, h2, q⟩ => ⟨dx, dy, h1.k0, h2.k0, q⟩
theorem opNeD0 (hu : X.A.units + 64 < cLine) : OpR X (compareOp .NotEq) (rNeD K0) := (op_neD hu).imp fun _ _ _ _ ⟨dx, dy, h1, h2, q⟩ => ⟨dx, dy, h1.k0, h2.k0, q⟩
structure It.Le (J J' : It) : Prop where
  go : ∀ i H, J'.go i H → J.go i H
  yld : ∀ i H x H', J.yld i H x H' → J'.yld i H x H'
  stop : ∀ i H, J'.stop i H → J.stop i H
theorem Turn.le {P : Program} {w : World} {K : PySem.W.Frag} {tg : Expr} {J J' : It} {fp : List Addr} {it : Addr} {tn : Nat → Heap → Prop} (T : Turn P w K tg J fp it tn) (l : J.Le J') : Turn P w K tg J' fp it tn where
  mem := T.mem
  obj := T.obj
  keep := T.keep
  item := fun X hP hw hK hc i pins s σ H E I hf st hg => thn (T.item X hP hw hK hc i pins s σ H E I hf st (l.go i H hg)) fun r s1 ⟨u, hr, h⟩ => ⟨u, hr, thn h fun _ s2 ⟨x, H', a1, a2, a3, a4⟩ => ⟨x, H', a1, a2, l.yld _ _ _ _ a3, a4⟩⟩
  done := fun X hP hw hK hc i pins s σ H E I hf st hg => T.done X hP hw hK hc i pins s σ H E I hf st (l.stop i H hg)
  self := T.self
theorem le_list {K : PySem.W.Frag} {a : Addr} : (Itl K a).Le (Itl K0 a) := ⟨fun i H ⟨xs, x, h, e⟩ => ⟨xs, x, h.k0, e⟩, fun i H x H' ⟨e, h⟩ => ⟨e, fun xs hx => h xs hx.k0⟩, fun i H ⟨xs, h, e⟩ => ⟨xs, h.k0, e⟩⟩
theorem le_tup {K : PySem.W.Frag} {a : Addr} : (Itt K a).Le (Itt K0 a) := ⟨fun i H ⟨xs, x, h, e⟩ => ⟨xs, x, h.k0, e⟩, fun i H x H' ⟨e, h⟩ => ⟨e, fun xs hx => h xs hx.k0⟩, fun i H ⟨xs, h, e⟩ => ⟨xs, h.k0, e⟩⟩
theorem le_enum {K : PySem.W.Frag} {a : Addr} : (Ite K a).Le (Ite K0 a) := ⟨fun i H ⟨xs, x, h, e⟩ => ⟨xs, x, h.k0, e⟩, fun i H x H' ⟨p, e1, e2, h⟩ => ⟨p, e1, e2, fun xs hx => h xs hx.k0⟩, fun i H ⟨xs, h, e⟩ => ⟨xs, h.k0, e⟩⟩
theorem le_zip {K : PySem.W.Frag} {a b : Addr} : (Itz K a b).Le (Itz K0 a b) := ⟨fun i H ⟨xs, ys, x, y, h1, h2, e⟩ => ⟨xs, ys, x, y, h1.k0, h2.k0, e⟩, fun i H x H' ⟨p, e1, e2, h⟩ => ⟨p, e1, e2, fun xs ys h1 h2 => h xs ys h1.k0 h2.k0⟩, fun i H ⟨xs, ys, h1, h2, e⟩ => ⟨xs, ys, h1.k0, h2.k0, e⟩⟩
theorem piL0 (hl : PE X l tl) : PI X tg l (iList K0 tl) := by
  intro pins s σ H R I h
  refine thn (hl pins s σ H _ I h) fun v s1 ⟨x, H1, I1, r1, a, e, ⟨xs, hq⟩, q⟩ => ?_
  subst e
  cases r1
  obtain ⟨its, rv, p, hz⟩ := I1.list hq.k0
  refine wpAny_pyIter_list p.isList ⟨s1.heap.objs.size, [s1.heap.objs.size], _, Itl K0 a, H1, rfl, I1.kept (t' := s1.toks) fun b o e => Heap.get?_push_of_some _ e, (turn_list (K := X.K) a _).le le_list, ⟨_, Heap.get?_push_size _ rfl, rfl, rfl⟩, fun b hb => ?_, q⟩
  obtain rfl : b = s1.heap.objs.size := by simpa using hb
  exact I1.fpOk (Nat.le_refl _) (I1.hok.fresh (Nat.le_refl _))
theorem piT0 (hl : PE X l tl) : PI X tg l (iTup K0 tl) := by
  intro pins s σ H R I h
  refine thn (hl pins s σ H _ I h) fun v s1 ⟨x, H1, I1, r1, a, e, ⟨xs, hq⟩, q⟩ => ?_
  subst e
  cases r1
  obtain ⟨its, rv, p, hz⟩ := I1.tuple hq.k0
  refine wpAny_pyIter_tuple (show s1.heap.IsTuple a its.toArray from p) ⟨s1.heap.objs.size, [s1.heap.objs.size], _, Itt K0 a, H1, rfl, I1.kept (t' := s1.toks) fun b o e => Heap.get?_push_of_some _ e, (turn_tuple (K := X.K) a _).le le_tup, ⟨_, Heap.get?_push_size _ rfl, rfl, rfl⟩, fun b hb => ?_, q⟩
  obtain rfl : b = s1.heap.objs.size := by simpa using hb
  exact I1.fpOk (Nat.le_refl _) (I1.hok.fresh (Nat.le_refl _))
theorem piEnum0 {a : Expr} {ta : TA} {p pos : Pos} {elts : List Expr} {kk} {tpos : Pos} (hg : Gl X "enumerate") (hm : X.mg "enumerate" = none) (hb : bootBuiltins "enumerate" = some (.type "enumerate")) (ha : PA X [a] ta) (hs : starEach [a] X.env = [(false, eval a X.env)] := by rfl) :
    PI X (.Tuple elts kk tpos) (.Call (.Name "enumerate" p) [a] [] pos) (iEnum K0 ta) := by
  intro pins s σ H R I h
  refine Call_ (ld_blt I hg hm hb (PyProof.Rows.callWith_type1 (thn (ha pos pins s σ H _ I h) fun us s1 ⟨vs, H1, I1, r1, t, e, ⟨xs, hq⟩, q⟩ => ?_) hs rfl))
  subst e
  obtain ⟨u, rfl, ru⟩ := vals1 r1
  cases ru
  obtain ⟨its, rv, pl, hz⟩ := I1.tuple hq.k0
  refine call_enumerate_tup (show s1.heap.IsTuple t its.toArray from pl) fun h' he hit hsz hk => wpAny_pyIter_enum he ?_
  refine ⟨s1.heap.objs.size + 1, [s1.heap.objs.size + 1, s1.heap.objs.size], _, Ite K0 t, H1, rfl, I1.kept (t' := s1.toks) hk, (turn_enum (K := X.K) t _ s1.heap.objs.size (Nat.succ_ne_self _)).le le_enum, ⟨⟨_, he⟩, hit⟩, fun b hb => ?_, q⟩
  rcases List.mem_cons.mp hb with rfl | hb
  · exact I1.fpOk (Nat.le_succ _) (I1.hok.fresh (Nat.le_succ _))
  · obtain rfl : b = s1.heap.objs.size := by simpa using hb
    exact I1.fpOk (Nat.le_refl _) I1.fresh
theorem pi_zip0 {a b : Expr} {ta : TA} {p pos : Pos} {elts : List Expr} {kk} {tpos : Pos} (hg : Gl X "zip") (hm : X.mg "zip" = none) (hb : bootBuiltins "zip" = some (.type "zip")) (ha : PA X [a, b] ta)
    (hs : starEach [a, b] X.env = [(false, eval a X.env), (false, eval b X.env)] := by rfl) (hs2 : starEach [b] X.env = [(false, eval b X.env)] := by rfl) : PI X (.Tuple elts kk tpos) (.Call (.Name "zip" p) [a, b] [] pos) (iZip K0 ta) := by
  intro pins s σ H R I h
  refine Call_ (ld_blt I hg hm hb (PyProof.Rows.callWith_type1 (thn (ha pos pins s σ H _ I h) fun us s1 ⟨vs, H1, I1, r1, q1⟩ => ?_) (by rw [hs, hs2]) (by rw [hs2]; rfl)))
  obtain ⟨x, y, e, ⟨xs, hq1⟩, ⟨ys, hq2⟩, q⟩ := q1
  subst e
  cases r1 with
  | cons r rr =>
    cases rr with
    | cons r' rr =>
      cases rr
      cases r
      cases r'
      obtain ⟨us, ru, pu, zu⟩ := I1.tuple hq1.k0
      obtain ⟨vs, rv, pv, zv⟩ := I1.tuple hq2.k0
      have a1 : x < s1.heap.objs.size := by obtain ⟨_, e, _⟩ := (show s1.heap.IsTuple x us.toArray from pu); exact Heap.lt_size e
      have a2 : y < s1.heap.objs.size := by obtain ⟨_, e, _⟩ := (show s1.heap.IsTuple y vs.toArray from pv); exact Heap.lt_size e
      refine call_zipT (show s1.heap.IsTuple x us.toArray from pu) (show s1.heap.IsTuple y vs.toArray from pv) fun g z0 pI pO n1 n2 hk => wpAny_pyIter_zip z0 ?_
      refine ⟨s1.heap.objs.size + 4, [s1.heap.objs.size + 4, s1.heap.objs.size + 2, s1.heap.objs.size + 3, s1.heap.objs.size, s1.heap.objs.size + 1], _, Itz K0 x y, H1, rfl, I1.kept (t' := s1.toks) hk, (turn_zip (K := X.K) x y _ _ _ _ _ (zipApart_new a1 a2)).le le_zip, ⟨z0, pI, ⟨_, _, pO⟩, n1, n2⟩, fun c hc => ?_, q⟩
      have hge : s1.heap.objs.size ≤ c := by
        simp only [List.mem_cons, List.not_mem_nil, or_false] at hc
        rcases hc with h | h | h | h | h <;> rw [h] <;> first | exact Nat.le_add_right _ _ | exact Nat.le_refl _
      exact I1.fpOk hge (I1.hok.fresh hge)
theorem pgTup0 {es : List Expr} {k : Nat} {t : TGs} {n : Nat} {pos : Pos} (hc : X.calm = true) (h : PGs X es t) (hn : (assignEach es X.env).length = n := by rfl) (hst : (assignEach es X.env).findIdx? (·.1) = none := by rfl) : PG X (.Tuple es k pos) (gTup K0 n t) :=
  fun pins s σ H v u Q I r ⟨a, xs, e, hq, q⟩ => pg_tup hc h hn hst pins s σ H v u Q I r ⟨a, xs, e, hq.k0, q⟩
theorem tyV.k0 {K : PySem.W.Frag} {T : String} {x : V} {H : Hp} (h : tyV K0 T x H) : tyV K T x H := by
  cases x with
  | ref p =>
    rcases h with ⟨e, xs, h⟩ | ⟨e, o, hk, _⟩ | h | h
    · exact .inl ⟨e, xs, h.k0⟩
    · exact absurd hk (by show ¬ (none = some o); simp)
    · exact .inr (.inr (.inl h))
    · exact .inr (.inr (.inr h))
  | _ => exact h
variable {o e : Expr} {es : List Expr} {to : TE} {t : TA} {name : Str} {apos cpos : Pos} {T id : String} {r : V → List V → Hp → VK → Prop}
theorem peBm0 (pa : PlainAttrs T) (slot : Slot T name id) (hty : typeOf (.builtin id) = pure (.type "method_descriptor")) (hm : MtR X id r) (ho : PE X o to) (ha : PA X (e :: es) t)
    (hbase : attributeBase o name X.env (eval o X.env) = eval o X.env := by rfl)
    (hfew : ((backTo cpos (starEach (e :: es) X.env)).all (fun x => !x.1) && (backToKw cpos (keywordEach [] X.env)).all (fun x => x.1.isSome)
      && decide ((e :: es).length + ([] : List Keyword).length + (if ([] : List Keyword).isEmpty then 0 else 1) < 30)) = true := by rfl)
    (hline : (apos.endLine == cpos.line) = true := by rfl) (hs : starEach (e :: es) X.env = (false, eval e X.env) :: starEach es X.env := by rfl) (hplain : (backTo cpos (starEach es X.env)).any (·.1) = false := by rfl) :
    PE X (.Call (.Attribute o name apos) (e :: es) [] cpos) (tBM K0 T r to t) := by
  intro pins s σ H Q I h
  refine wpAny_Call_method_late hbase hfew hline rfl (thn (ho pins s σ H _ I h) fun v s1 ⟨x, H1, I1, r1, ty, q1⟩ => ?_)
  obtain ⟨h1, h2⟩ := tyV_is I1 r1 ty.k0
  refine ⟨T, id, pa, slot, hty, h1, h2, ?_⟩
  have hA := ha cpos pins s1 σ H1 _ I1 q1
  rw [hs] at hA ⊢
  exact Calls.callWith_builtin (by show (false || (backTo cpos (starEach es X.env)).any (·.1)) = false; rw [hplain] <;> rfl) (Calls.evalArgs_plain (thn hA fun us s2 ⟨vs, H2, I2, r2, q2⟩ => hm pins s2 σ H2 x vs v us Q I2 r1 r2 q2))
end
end L2
set_option Elab.async false
set_option linter.all false
set_option maxRecDepth 100000
set_option maxHeartbeats 4000000
namespace KM
open PySem L2 KG EX
theorem boot_zip : bootBuiltins "zip" = some (.type "zip") := by first | rfl | kernel_rfl | decide +kernel
def spTot : Sp := fun vs H Q _ => ∃ (l : Addr) (ys : List V) (qs : List Rat), vs = [.ref l] ∧ H l = some (.lst ys) ∧ Frs H ys qs ∧ (∀ q ∈ qs, Rb 400 q) ∧ qs.length ≤ 7 ∧ ∀ (r : Addr) (H' : Hp), Stay H H' → H' r = some (qO (sumQ qs)) → Q (.ref r) H'
theorem frs_get {H : Hp} {ys : List V} {qs : List Rat} (h : Frs H ys qs) {i : Nat} {y : V} (hy : ys[i]? = some y) : ∃ (a : Addr) (q : Rat), y = .ref a ∧ H a = some (qO q) ∧ qs[i]? = some q := by
  obtain ⟨a, e, z⟩ := h.2 i y hy
  have hi : i < qs.length := by rw [← h.1]; exact (List.getElem?_eq_some_iff.mp hy).1
  refine ⟨a, qs[i], e, ?_, List.getElem?_eq_getElem hi⟩
  have : qs.getD i 0 = qs[i] := by simp [List.getD, List.getElem?_eq_getElem hi]
  rw [this] at z; exact z
end KM
namespace KM
open PySem L2 KG EX
end KM
namespace KM
open PySem L2 KG EX
end KM
namespace KM
open PySem L2 KG EX
end KM
namespace KM
open PySem L2 KG EX
theorem filt_all {α : Type} {f : α → Bool} : ∀ (xs : List α), (xs.filter fun x => !f x).isEmpty = xs.all f
  | [] => rfl
  | x :: xs => by
    cases h : f x with
    | true => simp only [List.filter, h, Bool.not_true, List.all_cons, Bool.true_and]; exact filt_all xs
    | false => simp [List.filter, h]
end KM
namespace KM
theorem filt1 {α : Type} (f : α → Bool) (x : α) : [x].filter f = if f x = true then [x] else [] := by cases h : f x <;> simp [List.filter, h]
end KM
set_option Elab.async false
set_option linter.all false
set_option maxRecDepth 100000
set_option maxHeartbeats 4000000
namespace KM
open PySem L2 KG EX
end KM
set_option Elab.async false
set_option linter.all false
set_option maxRecDepth 100000
set_option maxHeartbeats 4000000
namespace KM
open PySem L2 KG EX
theorem cast_pos {z : Int} (h : 0 < z) : (0 : Rat) < (z : Rat) := by
  have e : (0 : Rat) = ((0 : Int) : Rat) := rfl
  rw [e, Rat.intCast_lt_intCast]; exact h
end KM
set_option Elab.async false
set_option linter.all false
set_option maxRecDepth 100000
set_option maxHeartbeats 4000000
namespace KM
open PySem L2 KG EX
theorem div_pos {a b : Rat} (ha : 0 < a) (hb : 0 < b) : 0 < a / b := by
  have h := (Rat.lt_div_iff (a := 0) (b := a) (c := b) hb)
  rw [h, Rat.zero_mul]; exact ha
section
variable {am : List Int} {ps qs : List Rat} {M : List (List Int)} {n : Nat}
end
end KM
namespace KM
open PySem L2 KG EX
end KM
namespace KM
open PySem L2 KG EX
theorem frs_tr {b : Addr} {H : Hp} : ∀ {ys : List V} {qs : List Rat}, Frs H ys qs → TrVs b H ys (qs.map qD)
  | [], [], _ => .nil
  | [], _ :: _, h => by have := h.1; simp at this
  | _ :: _, [], h => by have := h.1; simp at this
  | y :: ys, q :: qs, h => by
    obtain ⟨a, e, ha⟩ := h.2 0 y rfl
    subst e
    have hr : (q :: qs).getD 0 0 = q := rfl
    rw [hr] at ha
    refine .cons (.tup ha (.cons (.int _) (.cons (.int _) .nil))) (frs_tr (ys := ys) (qs := qs) ⟨by simpa using h.1, fun j x hx => ?_⟩)
    obtain ⟨c, e, hc⟩ := h.2 (j + 1) x (by simpa using hx)
    exact ⟨c, e, by simpa [List.getD] using hc⟩
end KM
namespace KM
open PySem L2 KG EX
end KM
set_option Elab.async false
set_option linter.all false
set_option maxRecDepth 100000
namespace L2
open PySem PySem.Spec PyProof.Rows
section
variable {X : Cx} {scope : Scope} {own cap : List Str} {ix : List Nat} {tg iter kx vx : Expr} {ifs : List Expr} {wi : TI} {g : TG} {tt : TT} {tk tv : TE} {pos : Pos}
end
section
variable {X : Cx}
end
section
variable {X : Cx}
end
end L2
set_option Elab.async false
set_option linter.all false
set_option maxRecDepth 100000
namespace L2
open PySem PySem.Spec PyProof.Rows KG
section
variable {K : PySem.W.Frag} {tt : TT} {tk tv : TE} {a acc : Addr} {xs : List V} {σ₀ : St} {H₀ : Hp} {Q : VK}
end
end L2
set_option Elab.async false
set_option linter.all false
set_option maxRecDepth 100000
set_option maxHeartbeats 4000000
namespace KM
open PySem L2 KG EX
theorem sumQ_cons (q : Rat) (qs : List Rat) : sumQ (q :: qs) = q + sumQ qs := by
  have key : ∀ (l : List Rat) (z : Rat), l.foldl (fun s q => s + q) z = z + sumQ l := by
    intro l
    induction l with
    | nil => intro z; unfold sumQ; simp [Rat.add_zero]
    | cons i l ih => intro z; unfold sumQ; rw [List.foldl_cons, List.foldl_cons, ih, ih, Rat.zero_add, Rat.add_assoc]
  conv => lhs; unfold sumQ
  rw [List.foldl_cons, key, Rat.zero_add]
end KM
set_option Elab.async false
set_option linter.all false
set_option maxRecDepth 100000
set_option maxHeartbeats 4000000
namespace KM
open PySem L2 KG EX
end KM
set_option Elab.async false
set_option linter.all false
set_option maxRecDepth 100000
namespace L2
open PySem PySem.Spec PyProof.Rows KG
section
variable {X : Cx}
theorem vals_of {f : Nat → V} : ∀ {n : Nat} {us : List Value}, us.length = n → (∀ (i : Nat) v, us[i]? = some v → RelV (f i) v) → Vals ((List.range n).map f) us := by
  intro n us
  induction us generalizing n f with
  | nil => intro h _; subst h; exact .nil
  | cons u us ih =>
    intro h hv
    subst h
    rw [List.length_cons, List.range_succ_eq_map, List.map_cons, List.map_map]
    exact .cons (hv 0 u rfl) (ih (f := f ∘ Nat.succ) rfl fun i v e => hv (i + 1) v (by simpa using e))
def rngOf (r : Addr) (j : Int) : HO := .ext fun h => ∃ t u v, IsRange h r 0 j 1 t u v
theorem call_rangeV : CallR X (.type "range") (fun xs H Q => ∃ j, xs = [.int j] ∧ ∀ r, H r = none → Q (.ref r) (upd H r (rngOf r j))) := by
  intro pins s σ H xs us Q I r h
  obtain ⟨j, rfl, q⟩ := h
  obtain ⟨u, rfl, t, rfl⟩ := vals1 r
  refine call_range_1 ⟨.ref s.heap.objs.size, _, I.laid (o := rngOf s.heap.objs.size j) (fun _ _ q => Heap.get?_push_of_some _ q) (Nat.le_refl _) ⟨⟨_, _, _, Heap.get?_push_size _ rfl⟩, ⟨_, Heap.get?_push_size _ rfl⟩, fun h1 h2 w1 hk => ?_⟩, rfl, q _ I.fresh⟩
  obtain ⟨a, b, c, e⟩ := w1
  exact ⟨a, b, c, hk _ e⟩
theorem call_list_rng (hc : X.calm = true) : CallR X (.type "list") (fun xs H Q => ∃ r j, xs = [.ref r] ∧ H r = some (rngOf r j) ∧ 0 ≤ j ∧ j ≤ 1000 ∧ ∀ l, H l = none → Q (.ref l) (upd H l (.lst ((List.range j.toNat).map fun i : Nat => V.int (i : Int))))) := by
  intro pins s σ H xs us Q I r h
  obtain ⟨a, j, rfl, hv, h0, h1, q⟩ := h
  obtain ⟨u, rfl, rx⟩ := vals1 r
  cases rx
  obtain ⟨t1, t2, t3, hr⟩ := (I.hok a _ hv).1
  refine call_list_range (n := j.toNat) (I.ok.hd hc) hr (small_one (by decide) (by decide) (by omega) (by omega)) (by rw [rangeSize_one]; split <;> omega) (by omega) fun h' tk acc c' hk hD hacc => ?_
  have hvs : Vals ((List.range j.toNat).map fun i : Nat => V.int (i : Int)) acc.toList := vals_of (by rw [Array.length_toList]; exact hacc.1) fun i v e => by
    obtain ⟨t, rfl⟩ := hacc.2 i v (by rw [← Array.getElem?_toList]; exact e)
    exact ⟨t, by congr 1; omega⟩
  have hs := line63
  refine ⟨.ref s.heap.objs.size, _, I.laid (t' := tk) (o := .lst ((List.range j.toNat).map fun i : Nat => V.int (i : Int))) hk (Nat.le_refl _) ⟨by rw [List.length_map, List.length_range]; show _ ≤ sizeLine; exact Nat.le_trans (show j.toNat ≤ 1000 by omega) (by decide), acc.toList, c', hvs, ?_⟩, rfl, q _ I.fresh⟩
  simpa using hD
end
end L2
namespace KM
open PySem L2
theorem boot_range' : bootBuiltins "range" = some (.type "range") := by first | rfl | kernel_rfl | decide +kernel
end KM
set_option Elab.async false
set_option linter.all false
set_option maxRecDepth 100000
set_option maxHeartbeats 4000000
namespace KM
open PySem L2 KG EX
end KM
set_option Elab.async false
set_option linter.all false
set_option maxRecDepth 100000
set_option maxHeartbeats 4000000
namespace L2
open PySem PySem.Spec PyProof.Rows
abbrev lc2 (elt t1 i1 t2 i2 : Expr) (f1 f2 : List Expr) (scope : Scope) (pos : Pos) : Expr := .ListComp elt [⟨t1, i1, f1, 0⟩, ⟨t2, i2, f2, 0⟩] scope pos
theorem compTurn_list2 (elt t1 i1 t2 i2 : Expr) (f1 f2 : List Expr) (scope : Scope) (pos : Pos) (it acc : Value) (env : Env) :
    compTurn (lc2 elt t1 i1 t2 i2 f1 f2 scope pos) 0 it acc env = (do
      standAt i1.pos
      match ← pyNext it with
      | none => pure (.done .next)
      | some v =>
        letOwnedTupleGo t1 it v
        assign t1 env v
        let mut ok := true
        for c in f1 do
          if ok then ok ← isTrue c env (eval c env)
        if ok then
          let x ← eval i2 env
          standAt i2.pos
          let x ← foldedSetIterable i2 env x
          let _ ← runOwn (.compStart (lc2 elt t1 i1 t2 i2 f1 f2 scope pos) 1 (← holding [x] (pyIter x)) acc env) env
        again (.compLoop (lc2 elt t1 i1 t2 i2 f1 f2 scope pos) 0 it acc env)) := by rfl
theorem compTurn_list2i (elt t1 i1 t2 i2 : Expr) (f1 f2 : List Expr) (scope : Scope) (pos : Pos) (it acc : Value) (env : Env) :
    compTurn (lc2 elt t1 i1 t2 i2 f1 f2 scope pos) 1 it acc env = (do
      standAt i2.pos
      match ← pyNext it with
      | none => pure (.done .next)
      | some v =>
        letOwnedTupleGo t2 it v
        assign t2 env v
        let mut ok := true
        for c in f2 do
          if ok then ok ← isTrue c env (eval c env)
        if ok then
          (do let _ ← call (.builtin "list.append") [acc, ← eval elt env])
        again (.compLoop (lc2 elt t1 i1 t2 i2 f1 f2 scope pos) 1 it acc env)) := by rfl
section
variable {prog : Program} {w : World} {A : Around} {R : Result → Shared → Prop} {s : Shared} {elt t1 i1 t2 i2 : Expr} {f1 f2 : List Expr} {scope : Scope} {pos : Pos} {it acc : Value} {env : Env}
theorem comp_loop2i (I : Nat → Shared → Prop)
    (turn : ∀ n s, I n s → wpAny (model prog w) A (pyNext it) (fun r s₁ => match r with
      | none => R (.ok .next) s₁
      | some v => wpAny (model prog w) A (letOwnedTupleGo t2 it v) (fun _ s₁' => wpAny (model prog w) A (assign t2 env v) (fun _ s₂ =>
          wpAny (model prog w) A (forIn f2 true fun c r => if r = true then do let ok ← isTrue c env (eval c env); pure (ForInStep.yield ok) else pure (ForInStep.yield r)) (fun ok s₃ =>
            if ok = true then wpAny (model prog w) A (eval elt env) (fun x s₄ =>
              wpAny (model prog w) A (call (.builtin "list.append") [acc, x]) (fun _ s₅ => ∃ m, m < n ∧ I m s₅) (fun _ _ => False) s₄) (fun _ _ => False) s₃
            else ∃ m, m < n ∧ I m s₃) (fun _ _ => False) s₂) (fun _ _ => False) s₁') (fun _ _ => False) s₁) (fun _ _ => False) s)
    (n : Nat) (h : I n s) :
    codeAny (model prog w) A (.compLoop (lc2 elt t1 i1 t2 i2 f1 f2 scope pos) 1 it acc env) R s := by
  refine codeAny_loop rfl I (fun n s hI => ?_) n h
  show wpAny _ A ((compTurn (lc2 elt t1 i1 t2 i2 f1 f2 scope pos) 1 it acc env).onRaise (fun x => do noteFrame x env; theTreesLotGoes x)) _ _ s
  refine wpAny_noted ?_
  rw [compTurn_list2i]
  refine wpAny_bind (wpAny_standAt (wpAny_bind (wpAny_mono (turn n s hI) (fun r s₁ h₁ => ?_) fun _ _ h' => h'.elim)))
  cases r with
  | none => exact wpAny_pure h₁
  | some v =>
    refine wpAny_bind (wpAny_mono h₁ (fun _ s₁' h₁' => ?_) fun _ _ h' => h'.elim)
    refine wpAny_bind (wpAny_mono h₁' (fun _ s₂ h₂ => wpAny_bind (wpAny_mono h₂ (fun ok s₃ h₃ => ?_) fun _ _ h' => h'.elim)) fun _ _ h' => h'.elim)
    cases ok with
    | false => exact wpAny_pure ⟨rfl, h₃⟩
    | true =>
      exact wpAny_bind (wpAny_bind (wpAny_mono h₃ (fun x s₄ h₄ => wpAny_bind (wpAny_mono h₄ (fun _ s₅ h₅ => wpAny_pure (wpAny_pure ⟨rfl, h₅⟩)) fun _ _ h' => h'.elim)) fun _ _ h' => h'.elim))
theorem comp_loop2o (hs : ∀ x, foldedSetIterable i2 env x = pure x) (I : Nat → Shared → Prop)
    (turn : ∀ n s, I n s → wpAny (model prog w) A (pyNext it) (fun r s₁ => match r with
      | none => R (.ok .next) s₁
      | some v => wpAny (model prog w) A (letOwnedTupleGo t1 it v) (fun _ s₁' => wpAny (model prog w) A (assign t1 env v) (fun _ s₂ =>
          wpAny (model prog w) A (forIn f1 true fun c r => if r = true then do let ok ← isTrue c env (eval c env); pure (ForInStep.yield ok) else pure (ForInStep.yield r)) (fun ok s₃ =>
            if ok = true then wpAny (model prog w) A (eval i2 env) (fun x s₄ => wpAny (model prog w) A (pyIter x) (fun it2 s₅ =>
              codeAny (model prog w) A (.compStart (lc2 elt t1 i1 t2 i2 f1 f2 scope pos) 1 it2 acc env) (fun r s₆ => r = .ok .next ∧ ∃ m, m < n ∧ I m s₆) s₅) (fun _ _ => False) s₄) (fun _ _ => False) s₃
            else ∃ m, m < n ∧ I m s₃) (fun _ _ => False) s₂) (fun _ _ => False) s₁') (fun _ _ => False) s₁) (fun _ _ => False) s)
    (n : Nat) (h : I n s) :
    codeAny (model prog w) A (.compLoop (lc2 elt t1 i1 t2 i2 f1 f2 scope pos) 0 it acc env) R s := by
  refine codeAny_loop rfl I (fun n s hI => ?_) n h
  show wpAny _ A ((compTurn (lc2 elt t1 i1 t2 i2 f1 f2 scope pos) 0 it acc env).onRaise (fun x => do noteFrame x env; theTreesLotGoes x)) _ _ s
  refine wpAny_noted ?_
  rw [compTurn_list2]
  refine wpAny_bind (wpAny_standAt (wpAny_bind (wpAny_mono (turn n s hI) (fun r s₁ h₁ => ?_) fun _ _ h' => h'.elim)))
  cases r with
  | none => exact wpAny_pure h₁
  | some v =>
    refine wpAny_bind (wpAny_mono h₁ (fun _ s₁' h₁' => ?_) fun _ _ h' => h'.elim)
    refine wpAny_bind (wpAny_mono h₁' (fun _ s₂ h₂ => wpAny_bind (wpAny_mono h₂ (fun ok s₃ h₃ => ?_) fun _ _ h' => h'.elim)) fun _ _ h' => h'.elim)
    cases ok with
    | false => exact wpAny_pure ⟨rfl, h₃⟩
    | true =>
      refine wpAny_bind (wpAny_mono h₃ (fun x s₄ h₄ => wpAny_bind (wpAny_standAt (wpAny_bind (wpAny_of_eq (hs x) (wpAny_bind (wpAny_holding (wpAny_mono h₄ (fun it2 s₅ h₅ => ?_) fun _ _ h' => h'.elim))))))) fun _ _ h' => h'.elim)
      refine wpAny_bind (wpAny_runOwn (codeAny_mono h₅ fun r s₆ h₆ => ?_))
      obtain ⟨rfl, h₆⟩ := h₆
      exact wpAny_pure ⟨rfl, h₆⟩
theorem codeAny_compStart_list2i
    (h0 : codeAny (model prog w) A (.compLoop (lc2 elt t1 i1 t2 i2 f1 f2 scope pos) 1 it acc env) R s)
    (h : wpAny (model prog w) A (pyIter it) (fun it' s' => codeAny (model prog w) A (.compLoop (lc2 elt t1 i1 t2 i2 f1 f2 scope pos) 1 it' acc env) R s')
      (notedBy (model prog w) A env fun x s' => R (.error x) s') s) :
    codeAny (model prog w) A (.compStart (lc2 elt t1 i1 t2 i2 f1 f2 scope pos) 1 it acc env) R s := by
  refine codeAny_of_tree ?_
  show wpAny _ _ ((compStart (lc2 elt t1 i1 t2 i2 f1 f2 scope pos) 1 it acc env).onRaise (fun x => do noteFrame x env; standAt theWindowsPlace)) _ _ s
  refine wpAny_notedAt ?_
  unfold compStart
  show wpAny _ _ (ask >>= _) _ _ s
  refine wpAny_bind (wpAny_askSetting (wpAny_ite ?_))
  split
  · first
      | exact wpAny_bind (wpAny_pure (wpAny_pure (And.intro rfl h0)))
      | exact wpAny_pure (And.intro rfl h0)
  · first
      | exact wpAny_bind (wpAny_rule (wpAny_bind (wpAny_standAt (wpAny_bind (wpAny_mono h (fun it' s' h' => wpAny_pure (And.intro rfl h')) fun _ _ x => x)))))
      | (refine wpAny_bind (wpAny_rule ?_); show wpAny _ _ (standAt i2.pos >>= _) _ _ s; exact wpAny_bind (wpAny_standAt (wpAny_bind (wpAny_mono h (fun it' s' h' => wpAny_pure (And.intro rfl h')) fun _ _ x => x))))
end
def tIn2 (g : TG) (tt : TT) (te : TE) (J : It) (acc : Addr) (σ₀ : St) (H₀ : Hp) (Z : St → Hp → Prop) : Prop :=
  ∃ W : Nat → Nat → St → Hp → Prop, (∃ m, W 0 m σ₀ H₀) ∧ ∀ i m σ' H', W i m σ' H' →
    (J.stop i H' ∧ Z σ' H') ∨
    (J.go i H' ∧ ∃ N : St → Hp → Prop, (∀ σ2 H2, N σ2 H2 → ∃ m', m' < m ∧ W (i + 1) m' σ2 H2) ∧ ∀ x H2, J.yld i H' x H2 → g x σ' H2 fun σ3 H3 => tt σ3 H3 fun b H4 =>
      if b = true then te σ3 H4 fun y H5 => ∃ ys, H5 acc = some (.lst ys) ∧ ys.length < sizeLine ∧ N σ3 (upd H5 acc (.lst (ys ++ [y]))) else N σ3 H4)
def tComp2N (g1 : TG) (tt1 : TT) (wi2 : TI) (g2 : TG) (tt2 : TT) (te : TE) (J : It) (acc : Addr) (σ₀ : St) (H₀ : Hp) (Q : VK) : Prop :=
  ∃ W : Nat → Nat → St → Hp → Prop, (∃ m, W 0 m σ₀ (upd H₀ acc (.lst []))) ∧ ∀ i m σ' H', W i m σ' H' →
    (J.stop i H' ∧ Q (.ref acc) H') ∨
    (J.go i H' ∧ ∃ N : St → Hp → Prop, (∀ σ2 H2, N σ2 H2 → ∃ m', m' < m ∧ W (i + 1) m' σ2 H2) ∧ ∀ x H2, J.yld i H' x H2 → g1 x σ' H2 fun σ3 H3 => tt1 σ3 H3 fun b H4 =>
      if b = true then wi2 σ3 H4 fun J2 H5 => tIn2 g2 tt2 te J2 acc σ3 H5 N else N σ3 H4)
def tComp2 (wi : TI) (g1 : TG) (tt1 : TT) (wi2 : TI) (g2 : TG) (tt2 : TT) (te : TE) (own : Nat) (ix : List Nat) : TE := fun σ H Q => wi σ H fun J H1 => ∀ acc, H1 acc = none → tComp2N g1 tt1 wi2 g2 tt2 te J acc (blkσ own ix σ) H1 Q
section
variable {X : Cx} {scope : Scope} {own cap : List Str} {ix : List Nat} {t1 i1 t2 i2 elt : Expr} {f1 f2 : List Expr} {wi wi2 : TI} {g1 g2 : TG} {tt1 tt2 : TT} {te : TE} {pos : Pos}
theorem comp2_core {pins : List (Addr × Obj)} {σ : St} {H2 : Hp} {s2 : Shared} {it : Addr} {fp : List Addr} {tn : Nat → Heap → Prop} {J : It} {Q : VK} {RR : Value → Addr → Result → Shared → Prop} {E : Value → Shared → Prop}
    (B : BlkOk X scope own cap ix) (hc : X.calm = true)
    (hb : ∀ C fp s H, PG (cxC X scope C (own ++ cap) fp s H) t1 g1 ∧ PIfs (cxC X scope C (own ++ cap) fp s H) f1 tt1 ∧ PI (cxC X scope C (own ++ cap) fp s H) t2 i2 wi2 ∧ PG (cxC X scope C (own ++ cap) fp s H) t2 g2 ∧ PIfs (cxC X scope C (own ++ cap) fp s H) f2 tt2 ∧ PE (cxC X scope C (own ++ cap) fp s H) elt te)
    (hs2 : ∀ (env : Env) x, foldedSetIterable i2 env x = pure x)
    (I2 : Inv X pins σ H2 s2) (T : Turn X.prog X.w X.K t1 J fp it tn) (st2 : tn 0 s2.heap) (fk2 : ∀ b ∈ fp, FpOk X pins H2 b)
    (q : ∀ acc, H2 acc = none → tComp2N g1 tt1 wi2 g2 tt2 te J acc (blkσ own.length ix σ) H2 Q)
    (hRR : ∀ D C H' s' m, Inv X pins σ H' s' → Q (.ref D) H' → s'.heap.Ns C m → FpOk X pins H' C → RR (.ref D) C (.ok .next) s') :
    wpAny (model X.prog X.w) X.A (newList []) (fun acc s₃ => wpAny (model X.prog X.w) X.A (newFunctionEnv scope X.env.globals (cloF X.env scope.names []) [] X.env.qual none .none (some X.env)) (fun cenv s₄ =>
      codeAny (model X.prog X.w) X.A (.compStart (lc2 elt t1 i1 t2 i2 f1 f2 scope pos) 0 (.ref it) acc { cenv with scope := relabel scope X.env }) (RR acc cenv.locals) s₄) E s₃) E s2 := by
  refine wpAny_newObj_type (newEnv_comp ?_)
  have I3 : Inv X pins σ (upd H2 s2.heap.objs.size (.lst [])) { s2 with heap := s2.heap.push { cls := .type "list", dict := none, data := .seq ([] : List Value).toArray } } := I2.lnew (its := []) (ys := []) (t' := s2.toks) .nil (Nat.zero_le _)
  obtain ⟨W, ⟨m0, w0⟩, turn⟩ := q s2.heap.objs.size I2.fresh
  generalize hD : s2.heap.objs.size = D at I3 w0 turn ⊢
  have hlt : ∀ b ∈ fp, b < D := fun b hbm => by
    obtain ⟨o, e, _⟩ := T.obj 0 _ st2 b hbm
    rw [← hD]; exact Heap.lt_size e
  generalize hs3 : ({ s2 with heap := s2.heap.push { cls := .type "list", dict := none, data := .seq ([] : List Value).toArray } } : Shared) = s3 at I3 ⊢
  have keep3 : ∀ b o, s2.heap.get? b = some o → s3.heap.get? b = some o := fun b o e => by rw [← hs3]; exact Heap.get?_push_of_some _ e
  have f3 : ∀ b ∈ fp, FpOk X pins (upd H2 D (.lst [])) b := fun b hbm => ⟨by rw [upd_ne (Nat.ne_of_lt (hlt b hbm))]; exact (fk2 b hbm).1, (fk2 b hbm).2⟩
  have o3 : ∀ b ∈ fp, ∃ o, s3.heap.get? b = some o := fun b hbm => let ⟨o, e, _⟩ := T.obj 0 _ st2 b hbm; ⟨o, keep3 b o e⟩
  have I4 := I3.block B f3 o3
  have st4 : tn 0 (pushCells (s3.heap.push { cls := .type "dict", data := .dict #[] }) scope.names) := T.keep 0 _ _ st2 fun b _ o e => pushCells_keeps _ _ b o (Heap.get?_push_of_some _ (keep3 b o e))
  obtain ⟨hg, hif, hi2, hg2, hif2, he⟩ := hb s3.heap.objs.size fp s3 (upd H2 D (.lst []))
  generalize hX' : cxC X scope s3.heap.objs.size (own ++ cap) fp s3 (upd H2 D (.lst [])) = X' at I4 hg hif hi2 hg2 hif2 he
  have eP : X'.prog = X.prog := by rw [← hX']; rfl
  have eW : X'.w = X.w := by rw [← hX']; rfl
  have eK : X'.K = X.K := by rw [← hX']; rfl
  have eA : X'.A = X.A := by rw [← hX']; rfl
  have eE : X'.env = compE scope s3.heap.objs.size X.env := by rw [← hX']; rfl
  have ex : X'.xe = fun _ _ => False := by rw [← hX']; rfl
  have hc' : X'.calm = true := by rw [← hX']; exact hc
  have stat : ∀ {H' : Hp}, (∀ b ∈ fp, H' b = none) → ∀ b ∈ fp, FpOk X' [] H' b := fun hn b hbm => by
    subst hX'
    exact ⟨hn b hbm, (I4.ok.exf b hbm).1, I4.ok.exfs b hbm, .inl hbm, (I4.ok.exf b hbm).2, fun p hp => absurd (show p ∈ ([] : List (Addr × Obj)) from hp) (by simp)⟩
  have loop : ∀ s4 : Shared, s4 = { s3 with heap := pushCells (s3.heap.push { cls := .type "dict", data := .dict #[] }) scope.names } →
      codeAny (model X.prog X.w) X.A (.compLoop (lc2 elt t1 i1 t2 i2 f1 f2 scope pos) 0 (.ref it) (.ref D) (compE scope s3.heap.objs.size X.env)) (RR (.ref D) s3.heap.objs.size) s4 := by
    rintro s4 rfl
    refine comp_loop2o (hs2 _) (fun n s' => ∃ i σ' H', Inv X' [] σ' H' s' ∧ tn i s'.heap ∧ (∀ b ∈ fp, H' b = none) ∧ W i n σ' H') ?_ m0 ⟨0, _, _, I4, st4, fun b hbm => (f3 b hbm).1, w0⟩
    rintro n s5 ⟨i, σ5, H5, I5, st5, fr5, w5⟩
    rcases turn i n σ5 H5 w5 with ⟨stop, qn⟩ | ⟨go, N, hN, step⟩
    · have := T.done X' eP eW eK hc' i [] s5 σ5 H5 (fun _ _ => False) I5 (stat fr5) st5 stop
      rw [eA] at this
      refine thn this fun r s6 ⟨hr, I6⟩ => ?_
      subst hr
      subst hX'
      have J6 : Inv X pins σ H5 s6 := I3.call' (ch := fp) I6.os I6.base I6.hok I6.bare fun b hbm => ⟨(f3 b hbm).2.2.2.1, (f3 b hbm).2.1, (f3 b hbm).2.2.2.2.1, (f3 b hbm).2.2.2.2.2⟩
      obtain ⟨m, hn, _⟩ := I6.loc
      exact hRR D _ H5 s6 m J6 qn hn (I3.fpOk (Nat.le_refl _) I6.free)
    · have := T.item X' eP eW eK hc' i [] s5 σ5 H5 (fun _ _ => False) I5 (stat fr5) st5 go
      rw [eA] at this
      refine thn this fun r s6 ⟨u, hr, h6⟩ => ?_
      subst hr
      refine thn h6 fun _ s7 ⟨x, H7, I7, r7, y7, st7, fr7⟩ => ?_
      have I7' := I7.pinned (stat fr7) (T.obj _ _ st7)
      have a1 := hg _ s7 σ5 H7 x u _ I7' r7 (step x H7 y7)
      rw [eP, eW, eA, eE, ex] at a1
      refine thn a1 fun _ s8 ⟨σ8, H8, I8, q8⟩ => ?_
      have a2 := hif _ s8 σ8 H8 _ I8 q8
      rw [eP, eW, eA, eE, ex] at a2
      refine thn a2 fun b s9 ⟨H9, I9, q9⟩ => ?_
      have again : ∀ {s' : Shared} {σ' : St} {H' : Hp}, Inv X' ([] ++ pinsAt fp s7.heap) σ' H' s' → N σ' H' → ∃ m, m < n ∧ ∃ i σ' H', Inv X' [] σ' H' s' ∧ tn i s'.heap ∧ (∀ b ∈ fp, H' b = none) ∧ W i m σ' H' := fun {s' σ' H'} I' n' => by
        obtain ⟨m', hm, w'⟩ := hN σ' H' n'
        refine ⟨m', hm, i + 1, σ', H', I'.unpinned, T.keep _ _ _ st7 fun b hbm o e => (I'.pin (b, o) (List.mem_append_right _ (List.mem_append_right _ (mem_pinsAt hbm e)))).1, fun b hbm => ?_, w'⟩
        obtain ⟨o, e, d⟩ := T.obj _ _ st7 b hbm
        exact (I'.pin (b, o) (List.mem_append_right _ (List.mem_append_right _ (mem_pinsAt hbm e)))).2.1
      cases b with
      | false => exact again I9 q9
      | true =>
        rw [if_pos rfl] at q9 ⊢
        have a3 := hi2 _ s9 σ8 H9 _ I9 q9
        rw [eP, eW, eA, eE, ex] at a3
        refine thn a3 fun v10 s10 h10 => thn h10 fun itv s11 h11 => ?_
        obtain ⟨it2, fp2, tn2, J2, H11, e11, I11, T2, st11, fk11, W2, ⟨m2, w2⟩, turn2⟩ := h11
        subst e11
        have stat2 : ∀ {H' : Hp}, (∀ b ∈ fp2, H' b = none) → ∀ b ∈ fp2, FpOk X' ([] ++ pinsAt fp s7.heap) H' b := fun hn b hbm => ⟨hn b hbm, (fk11 b hbm).2⟩
        have loop2 : codeAny (model X.prog X.w) X.A (.compLoop (lc2 elt t1 i1 t2 i2 f1 f2 scope pos) 1 (.ref it2) (.ref D) (compE scope s3.heap.objs.size X.env)) (fun r s₆ => r = .ok .next ∧ ∃ m, m < n ∧ ∃ i σ' H', Inv X' [] σ' H' s₆ ∧ tn i s₆.heap ∧ (∀ b ∈ fp, H' b = none) ∧ W i m σ' H') s11 := by
          refine comp_loop2i (fun n s' => ∃ i σ' H', Inv X' ([] ++ pinsAt fp s7.heap) σ' H' s' ∧ tn2 i s'.heap ∧ (∀ b ∈ fp2, H' b = none) ∧ W2 i n σ' H') ?_ m2 ⟨0, _, _, I11, st11, fun b hbm => (fk11 b hbm).1, w2⟩
          rintro n2 s12 ⟨j, σ12, H12, I12, st12, fr12, w12⟩
          rcases turn2 j n2 σ12 H12 w12 with ⟨stop2, qn2⟩ | ⟨go2, N2, hN2, step2⟩
          · have := T2.done X' rfl rfl rfl hc' j _ s12 σ12 H12 (fun _ _ => False) I12 (stat2 fr12) st12 stop2
            rw [eP, eW, eA] at this
            refine thn this fun r s13 ⟨hr, I13⟩ => ?_
            subst hr
            exact ⟨rfl, again I13 qn2⟩
          · have := T2.item X' rfl rfl rfl hc' j _ s12 σ12 H12 (fun _ _ => False) I12 (stat2 fr12) st12 go2
            rw [eP, eW, eA] at this
            refine thn this fun r s13 ⟨u2, hr, h13⟩ => ?_
            subst hr
            refine thn h13 fun _ s14 ⟨x2, H14, I14, r14, y14, st14, fr14⟩ => ?_
            have I14' := I14.pinned (stat2 fr14) (T2.obj _ _ st14)
            have b1 := hg2 _ s14 σ12 H14 x2 u2 _ I14' r14 (step2 x2 H14 y14)
            rw [eP, eW, eA, eE, ex] at b1
            refine thn b1 fun _ s15 ⟨σ15, H15, I15, q15⟩ => ?_
            have b2 := hif2 _ s15 σ15 H15 _ I15 q15
            rw [eP, eW, eA, eE, ex] at b2
            refine thn b2 fun bb s16 ⟨H16, I16, q16⟩ => ?_
            have again2 : ∀ {s' : Shared} {σ' : St} {H' : Hp}, Inv X' (([] ++ pinsAt fp s7.heap) ++ pinsAt fp2 s14.heap) σ' H' s' → N2 σ' H' → ∃ m, m < n2 ∧ ∃ i σ' H', Inv X' ([] ++ pinsAt fp s7.heap) σ' H' s' ∧ tn2 i s'.heap ∧ (∀ b ∈ fp2, H' b = none) ∧ W2 i m σ' H' := fun {s' σ' H'} I' n' => by
              obtain ⟨m', hm, w'⟩ := hN2 σ' H' n'
              refine ⟨m', hm, j + 1, σ', H', I'.unpinned, T2.keep _ _ _ st14 fun b hbm o e => (I'.pin (b, o) (List.mem_append_right _ (List.mem_append_right _ (mem_pinsAt hbm e)))).1, fun b hbm => ?_, w'⟩
              obtain ⟨o, e, d⟩ := T2.obj _ _ st14 b hbm
              exact (I'.pin (b, o) (List.mem_append_right _ (List.mem_append_right _ (mem_pinsAt hbm e)))).2.1
            cases bb with
            | false => exact again2 I16 q16
            | true =>
              rw [if_pos rfl] at q16 ⊢
              have b3 := he _ s16 σ15 H16 _ I16 q16
              rw [eP, eW, eA, eE, ex] at b3
              refine thn b3 fun yv s17 ⟨y, H17, I17, r17, ys, hys, hz, q17⟩ => ?_
              have b4 := mt_append (X := X') _ s17 σ15 H17 (.ref D) [y] (.ref D) [yv] (fun v H' => v = .non ∧ N2 σ15 H') I17 rfl (.cons r17 .nil) ⟨D, ys, y, rfl, rfl, hys, hz, rfl, q17⟩
              rw [eP, eW, eA, ex] at b4
              refine thn b4 fun _ s18 ⟨_, H18, I18, _, _, q18⟩ => again2 I18 q18
        have self2 := T2.self X.A 0 s11 (fun it' s' => codeAny (model X.prog X.w) X.A (.compLoop (lc2 elt t1 i1 t2 i2 f1 f2 scope pos) 1 it' (.ref D) (compE scope s3.heap.objs.size X.env)) (fun r s₆ => r = .ok .next ∧ ∃ m, m < n ∧ ∃ i σ' H', Inv X' [] σ' H' s₆ ∧ tn i s₆.heap ∧ (∀ b ∈ fp, H' b = none) ∧ W i m σ' H') s') (notedBy (model X.prog X.w) X.A (compE scope s3.heap.objs.size X.env) fun x s' => (Except.error x : Result) = .ok .next ∧ ∃ m, m < n ∧ ∃ i σ' H', Inv X' [] σ' H' s' ∧ tn i s'.heap ∧ (∀ b ∈ fp, H' b = none) ∧ W i m σ' H') st11 loop2
        rw [eP, eW] at self2
        exact codeAny_compStart_list2i loop2 self2
  exact codeAny_compStart_list (loop _ rfl) (T.self X.A 0 _ _ _ st4 (loop _ rfl))
theorem pe_comp2 (B : BlkOk X scope own cap ix) (hc : X.calm = true) (hi : PI X t1 i1 wi)
    (hb : ∀ C fp s H, PG (cxC X scope C (own ++ cap) fp s H) t1 g1 ∧ PIfs (cxC X scope C (own ++ cap) fp s H) f1 tt1 ∧ PI (cxC X scope C (own ++ cap) fp s H) t2 i2 wi2 ∧ PG (cxC X scope C (own ++ cap) fp s H) t2 g2 ∧ PIfs (cxC X scope C (own ++ cap) fp s H) f2 tt2 ∧ PE (cxC X scope C (own ++ cap) fp s H) elt te)
    (hs : ∀ x, foldedSetIterable i1 X.env x = pure x := by intro _; rfl) (hs2 : ∀ (env : Env) x, foldedSetIterable i2 env x = pure x := by intro _ _; rfl) : PE X (.ListComp elt [⟨t1, i1, f1, 0⟩, ⟨t2, i2, f2, 0⟩] scope pos) (tComp2 wi g1 tt1 wi2 g2 tt2 te own.length ix) := by
  intro pins s σ H Q I h
  rw [eval_ListComp]
  have has : ∀ x ∈ scope.names, x.2 = .free → (X.env.cells.lookup x.1).isSome = true := fun x hx hk => by
    obtain ⟨c, e⟩ := I.ok.has x.1 (B.frees x hx hk)
    rw [e]; rfl
  refine wpAny_comprehension_free (use := none) rfl hs (closureFor_cells has) B.kind B.names ?_
  show wpAny _ _ (eval i1 X.env) _ _ s
  refine thn (hi pins s σ H _ I h) fun v s1 h1 => thn h1 fun itv s2 h2 => ?_
  obtain ⟨it, fp, tn, J, H2, e, I2, T, st2, f2, q⟩ := h2
  subst e
  refine comp2_core (RR := fun acc C => compPost (model X.prog X.w) X.A X.xe none (EP X pins σ Q) acc C) B hc hb hs2 I2 T st2 f2 q ?_
  intro D C H' s' m I' q' hn fC
  refine ⟨m, hn, fun h' hsb => ⟨.ref D, H', ?_, rfl, q'⟩⟩
  exact I'.turned (t' := s'.toks) (it := C) (fun b o hbC e => (hsb.2 b hbC).trans e) fC.1 fC.2.1 fC.2.2.2.1 fC.2.2.2.2.1 fC.2.2.2.2.2
end
end L2
set_option Elab.async false
set_option linter.all false
set_option maxRecDepth 100000
namespace L2
open PySem PySem.Spec PyProof.Rows KG
section
variable {te : TE} {acc a : Addr} {xs : List V} {cs : List (Option V)} {H₀ : Hp} {Q : VK}
end
end L2
set_option Elab.async false
set_option linter.all false
set_option maxRecDepth 100000
set_option maxHeartbeats 4000000
namespace KM
open PySem L2 KG EX
def isPart : PyData → Bool
  | .tuple [.int t, .int u] => decide (1 ≤ u) && decide (Int.gcd t u = 1) && decide (0 ≤ t)
  | _ => false
def isDRow (g : Nat) : PyData → Bool
  | .tuple ds => decide (ds.length = g) && ds.all isPart
  | _ => false
def isDl (n g : Nat) : PyData → Bool
  | .tuple ds => decide (ds.length = n) && ds.all (isDRow g)
  | _ => false
theorem isDRow_no {g : Nat} {d : PyData} (h : isT d = false) : isDRow g d = false := by cases d <;> first | rfl | cases h
theorem isDl_no {n g : Nat} {d : PyData} (h : isT d = false) : isDl n g d = false := by cases d <;> first | rfl | cases h
theorem part_frac {d : PyData} (h : isFrac d = false) : isPart d = false := by
  unfold isPart
  split
  · have h' : (_ && _) = false := h
    rw [h']; rfl
  · rfl
theorem frac_shape {d : PyData} (h : isFrac d = true) : ∃ t u : Int, d = .tuple [.int t, .int u] ∧ isPart d = decide (0 ≤ t) := by
  unfold isFrac at h
  split at h
  · rename_i t u
    refine ⟨t, u, rfl, ?_⟩
    show (decide (1 ≤ u) && decide (Int.gcd t u = 1) && decide (0 ≤ t)) = _
    rw [h, Bool.true_and]
  · cases h
def spDRow : Sp := fun vs H Q _ => ∃ (b : Addr) (v : V) (d : PyData) (g : Nat), vs = [v, .int (g : Int)] ∧ g ≤ 6 ∧ TrV b H v d ∧ ∀ H', Stay H H' → Q (.bl (isDRow g d)) H'
def spIsDl : Sp := fun vs H Q _ => ∃ (b p pa pp pw : Addr) (xa xp xw : List V) (am pu wi : List PyData) (v : V) (d : PyData), vs = [.ref p, v] ∧ MkAt b H p pa pp pw xa xp xw am pu wi ∧ TrV b H v d ∧ ∀ H', Stay H H' → Q (.bl (isDl xp.length xa.length d)) H'
end KM
namespace KM
open PySem L2 KG EX
def FrM (H : Hp) (zs : List V) (D : List (List Rat)) : Prop := zs.length = D.length ∧ ∀ (j : Nat) x, zs[j]? = some x → ∃ (a : Addr) (ys : List V) (qs : List Rat), D[j]? = some qs ∧ x = .ref a ∧ H a = some (.tup ys) ∧ Frs H ys qs
theorem FrM.stay {H H' : Hp} {zs : List V} {D : List (List Rat)} (h : FrM H zs D) (s : Stay H H') : FrM H' zs D := ⟨h.1, fun j x hx => by obtain ⟨a, ys, qs, e1, e2, e3, e4⟩ := h.2 j x hx; exact ⟨a, ys, qs, e1, e2, s _ _ e3, e4.stay s⟩⟩
structure DlAt (H : Hp) (q : Addr) (zs : List V) (D : List (List Rat)) (g : Nat) : Prop where
  hq : H q = some (.tup zs)
  fr : FrM H zs D
  len : ∀ qs ∈ D, qs.length = g
  bd : ∀ qs ∈ D, ∀ z ∈ qs, Rb 100 z
  few : D.length ≤ 6
theorem DlAt.stay {H H' : Hp} {q : Addr} {zs : List V} {D : List (List Rat)} {g : Nat} (h : DlAt H q zs D g) (s : Stay H H') : DlAt H' q zs D g := ⟨s _ _ h.hq, h.fr.stay s, h.len, h.bd, h.few⟩
def gotQ (D : List (List Rat)) (g : Nat) : Rat := sumQ (D.map fun qs => qs.getD g 0)
def spGot : Sp := fun vs H Q _ => ∃ (q : Addr) (zs : List V) (D : List (List Rat)) (g n : Nat), vs = [.ref q, .int (g : Int)] ∧ DlAt H q zs D n ∧ g < n ∧ ∀ (r : Addr) (H' : Hp), Stay H H' → H' r = some (qO (gotQ D g)) → Q (.ref r) H'
theorem num_zero {q : Rat} : decide (V.int q.num = V.int 0) = decide (q = 0) := by
  rw [decide_eq_decide]
  constructor
  · intro h; injection h with h; exact Rat.num_eq_zero.mp h
  · intro h; rw [h]; rfl
def matD (D : List (List Rat)) : PyData := .tuple (D.map fun qs => .tuple (qs.map qD))
theorem part_q {e : PyData} (h : isPart e = true) : ∃ q : Rat, e = qD q ∧ 0 ≤ q := by
  unfold isPart at h
  split at h
  · rename_i t u
    simp only [Bool.and_eq_true, decide_eq_true_eq] at h
    obtain ⟨⟨h1, h2⟩, h3⟩ := h
    obtain ⟨q, e1, e2⟩ := rat_of (t := t) (u := u) (by omega) h2
    exact ⟨q, by unfold qD; rw [e1, e2], Rat.num_nonneg.mp (by omega)⟩
  · cases h
theorem parts_q : ∀ {es : List PyData}, es.all isPart = true → ∃ qs : List Rat, es = qs.map qD ∧ ∀ q ∈ qs, 0 ≤ q
  | [], _ => ⟨[], rfl, fun q h => nomatch h⟩
  | e :: es, h => by
    rw [List.all_cons, Bool.and_eq_true] at h
    obtain ⟨q, rfl, h1⟩ := part_q h.1
    obtain ⟨qs, rfl, h2⟩ := parts_q h.2
    refine ⟨q :: qs, rfl, fun z hz => ?_⟩
    rcases List.mem_cons.mp hz with rfl | hz
    · exact h1
    · exact h2 z hz
theorem drow_q {g : Nat} {r : PyData} (h : isDRow g r = true) : ∃ qs : List Rat, r = .tuple (qs.map qD) ∧ qs.length = g ∧ ∀ q ∈ qs, 0 ≤ q := by
  cases r with
  | tuple es =>
    have h' : (decide (es.length = g) && es.all isPart) = true := h
    rw [Bool.and_eq_true, decide_eq_true_eq] at h'
    obtain ⟨qs, rfl, h1⟩ := parts_q h'.2
    exact ⟨qs, rfl, by have := h'.1; rw [List.length_map] at this; exact this, h1⟩
  | _ => cases h
theorem drows_q {g : Nat} : ∀ {ds : List PyData}, ds.all (isDRow g) = true → ∃ D : List (List Rat), ds = (D.map fun qs => .tuple (qs.map qD)) ∧ (∀ qs ∈ D, qs.length = g) ∧ ∀ qs ∈ D, ∀ q ∈ qs, 0 ≤ q
  | [], _ => ⟨[], rfl, by simp, by simp⟩
  | d :: ds, h => by
    rw [List.all_cons, Bool.and_eq_true] at h
    obtain ⟨qs, rfl, h1, h2⟩ := drow_q h.1
    obtain ⟨D, rfl, h3, h4⟩ := drows_q h.2
    refine ⟨qs :: D, rfl, fun z hz => ?_, fun z hz => ?_⟩
    · rcases List.mem_cons.mp hz with rfl | hz
      · exact h1
      · exact h3 z hz
    · rcases List.mem_cons.mp hz with rfl | hz
      · exact h2
      · exact h4 z hz
theorem dl_q {n g : Nat} {d : PyData} (h : isDl n g d = true) : ∃ D : List (List Rat), d = matD D ∧ D.length = n ∧ (∀ qs ∈ D, qs.length = g) ∧ ∀ qs ∈ D, ∀ q ∈ qs, 0 ≤ q := by
  cases d with
  | tuple ds =>
    have h' : (decide (ds.length = n) && ds.all (isDRow g)) = true := h
    rw [Bool.and_eq_true, decide_eq_true_eq] at h'
    obtain ⟨D, rfl, h1, h2⟩ := drows_q h'.2
    exact ⟨D, rfl, by have := h'.1; rw [List.length_map] at this; exact this, h1, h2⟩
  | _ => cases h
theorem frm_of {b : Addr} {H : Hp} : ∀ {zs : List V} {D : List (List Rat)}, TrVs b H zs (D.map fun qs => .tuple (qs.map qD)) → FrM H zs D
  | [], [], _ => ⟨rfl, fun j x h => by simp at h⟩
  | z :: zs, qs :: D, .cons h t => by
    have ih := frm_of t
    cases h with
    | @tup a ys _ ha hys =>
    refine ⟨by simp [ih.1], fun j x hx => ?_⟩
    cases j with
    | zero => simp at hx; subst hx; exact ⟨a, ys, qs, rfl, rfl, ha, Frs.of hys⟩
    | succ j => exact ih.2 j x (by simpa using hx)
end KM
set_option Elab.async false
set_option linter.all false
set_option maxRecDepth 100000
set_option maxHeartbeats 4000000
namespace KM
open PySem L2 KG EX
section
variable {K : PySem.W.Frag} {n : Nat} {tt : TT} {te : TE} {acc a b : Addr} {xs ys : List V} {σ₀ : St} {H₀ : Hp} {Q : VK}
theorem filt_snoc {α : Type} (f : Nat → Bool) (v : Nat → α) (i : Nat) : ((List.range (i + 1)).filter f).map v = ((List.range i).filter f).map v ++ if f i = true then [v i] else [] := by
  rw [filter_succ, List.map_append]
  congr 1
  split <;> simp_all
theorem filt_len {α : Type} (f : Nat → Bool) (v : Nat → α) (i : Nat) : (((List.range i).filter f).map v).length ≤ i := by
  have h := List.length_filter_le f (List.range i)
  rw [List.length_range] at h
  rw [List.length_map]; exact h
theorem pr_enum (f : Nat → Bool) (v : Nat → V) (hacc : H₀ acc = none) (hn : xs.length ≤ 1000) (hl : H₀ a = some (.tup xs))
    (ht : ∀ (i : Nat) x H Z, xs[i]? = some x → Stay H₀ H → (∀ H', Stay H H' → Z (f i) H') → tt ((σ₀.set 0 (some (.int i))).set 1 (some x)) H Z)
    (he : ∀ (i : Nat) x H (Z : VK), xs[i]? = some x → f i = true → Stay H₀ H → (∀ H', Stay H H' → Z (v i) H') → te ((σ₀.set 0 (some (.int i))).set 1 (some x)) H Z)
    (hd : ∀ H, Stay H₀ H → H acc = some (.lst (((List.range xs.length).filter f).map v)) → Q (.ref acc) H) : tCompN (g2 K) tt te (Ite K a) acc σ₀ H₀ Q := by
  refine comp_enum (xs := xs) (fun i ys H' => Stay H₀ H' ∧ ys = ((List.range i).filter f).map v) ⟨(Stay.refl H₀).acc hacc, rfl⟩ (fun i ys H' _ _ z => SqT.of (z.1 _ _ hl)) ?_ (fun ys H hy ⟨s, e⟩ => hd H s (e ▸ hy))
  rintro i x ys H H1 hx hy ⟨s, rfl⟩ s1
  have hi : i < xs.length := (List.getElem?_eq_some_iff.mp hx).1
  refine ht i x H1 _ hx (s.trans s1) fun H' s0 => ?_
  have s' := s1.trans s0
  cases hf : f i with
  | true =>
    refine iteT (he i x H' _ hx hf (s.trans s') fun H2 s2 => ⟨_, (s'.trans s2) _ _ hy, ?_, Cn2.of upd_same ⟨((s.trans s').trans s2).acc hacc, ?_⟩⟩)
    · have := filt_len f v i; rw [sz]; omega
    · rw [filt_snoc, hf, if_pos rfl]
  | false => exact iteF (Cn2.of (s' _ _ hy) ⟨s.trans s', by rw [filt_snoc, hf, if_neg (by decide), List.append_nil]⟩)
end
theorem idx_all {α : Type} (ls : List α) (d : α) : (List.range ls.length).map (fun i => ls.getD i d) = ls := by
  apply List.ext_getElem?
  intro i
  rw [List.getElem?_map]
  by_cases h : i < ls.length
  · rw [List.getElem?_range h]; simp [List.getD, List.getElem?_eq_getElem h]
  · rw [List.getElem?_eq_none (by simpa using h), List.getElem?_eq_none (by omega)]; rfl
theorem getD_of {α : Type} {ls : List α} {i : Nat} {y d : α} (h : ls[i]? = some y) : ls.getD i d = y := by simp [List.getD, h]
theorem ints_get {ns : List Int} {i : Nat} {x : V} (h : (ns.map V.int)[i]? = some x) : i < ns.length ∧ x = V.int (ns.getD i 0) := by
  rw [List.getElem?_map] at h
  cases e : ns[i]? with
  | none => rw [e] at h; cases h
  | some n =>
    rw [e] at h
    exact ⟨(List.getElem?_eq_some_iff.mp e).1, by rw [getD_of e]; simpa using h.symm⟩
end KM
set_option Elab.async false
set_option linter.all false
set_option maxRecDepth 100000
set_option maxHeartbeats 4000000
namespace KM
open PySem L2 KG EX
theorem rws_row {H : Hp} {xs : List V} {M : List (List Int)} {i : Nat} (r : Rws H xs M) (hi : i < M.length) : ∃ a, xs[i]? = some (.ref a) ∧ atI xs i = some (.ref a) ∧ H a = some (.tup ((M.getD i []).map V.int)) := by
  have hx : i < xs.length := by rw [r.len]; exact hi
  obtain ⟨ns, a, h1, h2, h3⟩ := r.at (List.getElem?_eq_getElem hx)
  have e : xs[i]? = some (.ref a) := by rw [List.getElem?_eq_getElem hx, h2]
  exact ⟨a, e, atI_nat e, by rw [getD_of h1]; exact h3⟩
theorem row_len {M : List (List Int)} {g i : Nat} (h : ∀ r ∈ M, r.length = g) (hi : i < M.length) : (M.getD i []).length = g := by
  rw [show M.getD i [] = M[i] by simp [List.getD, List.getElem?_eq_getElem hi]]
  exact h _ (List.getElem_mem hi)
end KM
set_option Elab.async false
set_option linter.all false
set_option maxRecDepth 100000
set_option maxHeartbeats 4000000
namespace KM
open PySem L2 KG EX
theorem sum_pos : ∀ {ns : List Int}, (∀ x ∈ ns, 0 ≤ x) → 0 ≤ ns.sum ∧ (ns.sum ≠ 0 → ∃ x ∈ ns, 1 ≤ x)
  | [], _ => ⟨by simp, fun h => absurd rfl h⟩
  | n :: ns, h => by
    obtain ⟨h1, h2⟩ := sum_pos (ns := ns) fun x hx => h x (List.mem_cons_of_mem _ hx)
    have h0 := h n List.mem_cons_self
    rw [List.sum_cons]
    refine ⟨by omega, fun hne => ?_⟩
    by_cases hn : 1 ≤ n
    · exact ⟨n, List.mem_cons_self, hn⟩
    · obtain ⟨x, hx, hp⟩ := h2 (by omega)
      exact ⟨x, List.mem_cons_of_mem _ hx, hp⟩
end KM
set_option Elab.async false
set_option linter.all false
set_option maxRecDepth 100000
set_option maxHeartbeats 4000000
namespace KM
open PySem L2 KG EX
theorem ints_of {R : Int → Prop} : ∀ {ys : List V}, (∀ y ∈ ys, ∃ x : Int, y = .int x ∧ R x) → ∃ ns : List Int, ys = ns.map V.int ∧ ∀ n ∈ ns, R n
  | [], _ => ⟨[], rfl, fun n h => nomatch h⟩
  | y :: ys, h => by
    obtain ⟨ns, rfl, h1⟩ := ints_of (ys := ys) fun z hz => h z (List.mem_cons_of_mem _ hz)
    obtain ⟨x, rfl, hx⟩ := h y List.mem_cons_self
    refine ⟨x :: ns, rfl, fun n hn => ?_⟩
    rcases List.mem_cons.mp hn with rfl | hn
    · exact hx
    · exact h1 n hn
theorem Rws.app {H : Hp} : ∀ {xs ys : List V} {M N : List (List Int)}, Rws H xs M → Rws H ys N → Rws H (xs ++ ys) (M ++ N)
  | _, _, _, _, .nil, s => s
  | _, _, _, _, .cons h t, s => .cons h (Rws.app t s)
end KM
set_option Elab.async false
set_option linter.all false
set_option maxRecDepth 100000
set_option maxHeartbeats 4000000
namespace KM
open PySem L2 KG EX
section
variable {K : PySem.W.Frag} {tt : TT} {te : TE} {acc a : Addr} {s : List Int} {σ₀ : St} {H₀ : Hp} {Q : VK}
theorem mem_getD {i : Nat} (hi : i < s.length) : s.getD i 0 ∈ s := by rw [getD_of (List.getElem?_eq_getElem hi)]; exact List.getElem_mem hi
end
theorem any_bl {α : Type} (s : List α) (F : α → Bool) : (s.map fun x => V.bl (F x)).any tv = s.any F := by rw [List.any_map]; rfl
theorem plain_bl {α : Type} (s : List α) (F : α → Bool) : (s.map fun x => V.bl (F x)).all plainB = true := by rw [List.all_map]; simp [Function.comp_def, plainB]
end KM
set_option Elab.async false
set_option linter.all false
set_option maxRecDepth 100000
set_option maxHeartbeats 4000000
namespace KM
open PySem L2 KG EX
end KM
set_option Elab.async false
set_option linter.all false
set_option maxRecDepth 100000
set_option maxHeartbeats 4000000
namespace KM
open PySem L2 KG EX
def MvA (Hb H : Hp) (pr : Addr) (as : List Addr) (M : List (List V)) : Prop :=
  H pr = some (.lst (as.map V.ref)) ∧ as.length = M.length ∧ as.Nodup ∧ pr ∉ as ∧ Hb pr = none ∧ (∀ a ∈ as, Hb a = none) ∧ ∀ (i : Nat) a, as[i]? = some a → H a = some (.lst (M.getD i []))
def Mv (Hb H : Hp) (pr : Addr) (M : List (List V)) : Prop := ∃ as, MvA Hb H pr as M
theorem Mv.keep {Hb H H' : Hp} {pr : Addr} {M : List (List V)} (m : Mv Hb H pr M) (k : ∀ a o, Hb a = none → H a = some o → H' a = some o) : Mv Hb H' pr M := by
  obtain ⟨as, h1, h2, h3, h4, h5, h6, h7⟩ := m
  exact ⟨as, k _ _ h5 h1, h2, h3, h4, h5, h6, fun i a e => k _ _ (h6 a (List.mem_of_getElem? e)) (h7 i a e)⟩
theorem Mv.kp {b : Addr} {Hb H H' : Hp} {pr : Addr} {M : List (List V)} (m : Mv Hb H pr M) (hb : Bag Hb b) (k : Kp b H H') : Mv Hb H' pr M :=
  m.keep fun a o hn e => k a o (hb.ne hn).symm e
theorem Mv.stay {Hb H H' : Hp} {pr : Addr} {M : List (List V)} (m : Mv Hb H pr M) (s : Stay H H') : Mv Hb H' pr M := m.keep fun a o _ e => s a o e
theorem Mv.nil {Hb H : Hp} {pr : Addr} (h : H pr = some (.lst [])) (hf : Hb pr = none) : Mv Hb H pr [] := ⟨[], h, rfl, List.nodup_nil, fun z => (by cases z), hf, fun a z => (by cases z), fun i a z => by simp at z⟩
theorem Mv.push {Hb H0 H : Hp} {pr c : Addr} {M : List (List V)} {r : List V} (m : Mv Hb H0 pr M) (hc : H0 c = none) (hb : Hb c = none) (k : ∀ a o, Hb a = none → H0 a = some o → H a = some o) (hr : H c = some (.lst r)) :
    ∃ xs, H pr = some (.lst xs) ∧ xs.length = M.length ∧ Mv Hb (upd H pr (.lst (xs ++ [.ref c]))) pr (M ++ [r]) := by
  obtain ⟨as, h1, h2, h3, h4, h5, h6, h7⟩ := m
  have ncp : c ≠ pr := fun z => by rw [z, h1] at hc; cases hc
  have nca : c ∉ as := fun z => by
    obtain ⟨i, hi, e⟩ := List.getElem_of_mem z
    have := h7 i c (by rw [List.getElem?_eq_getElem hi, e])
    rw [hc] at this; cases this
  refine ⟨as.map V.ref, k _ _ h5 h1, by rw [List.length_map, h2], as ++ [c], ?_, ?_, ?_, ?_, h5, ?_, ?_⟩
  · rw [upd_same]; simp
  · rw [List.length_append, List.length_append, h2]; rfl
  · rw [List.nodup_append]
    exact ⟨h3, by simp, fun a ha b hb' e => by rw [List.mem_singleton] at hb'; rw [e, hb'] at ha; exact nca ha⟩
  · intro z
    rcases List.mem_append.mp z with y | y
    · exact h4 y
    · exact ncp (List.mem_singleton.mp y).symm
  · intro a ha
    rcases List.mem_append.mp ha with y | y
    · exact h6 a y
    · rw [List.mem_singleton.mp y]; exact hb
  · intro i a e
    have nap : a ≠ pr := fun z => by
      rcases List.mem_append.mp (List.mem_of_getElem? e) with y | y
      · rw [z] at y; exact h4 y
      · exact ncp (by rw [← z]; exact (List.mem_singleton.mp y).symm)
    rw [upd_ne nap]
    rcases Nat.lt_or_ge i as.length with z | z
    · rw [List.getElem?_append_left z] at e
      have : (M ++ [r]).getD i [] = M.getD i [] := by simp [List.getD, List.getElem?_append_left (show i < M.length by omega)]
      rw [this]
      exact k _ _ (h6 a (List.mem_of_getElem? e)) (h7 i a e)
    · have ei : i = as.length := by have := (List.getElem?_eq_some_iff.mp e).1; simp at this; omega
      subst ei
      have ea : a = c := by simpa using e.symm
      subst ea
      have : (M ++ [r]).getD as.length [] = r := by rw [h2]; simp [List.getD]
      rw [this]; exact hr
theorem Mv.row {Hb H : Hp} {pr : Addr} {M : List (List V)} {i : Nat} (m : Mv Hb H pr M) (hi : i < M.length) : ∃ xs a, H pr = some (.lst xs) ∧ xs.length = M.length ∧ atI xs i = some (.ref a) ∧ xs[i]? = some (.ref a) ∧ H a = some (.lst (M.getD i [])) ∧ Hb a = none ∧
    ∀ r : List V, Mv Hb (upd H a (.lst r)) pr (M.set i r) := by
  obtain ⟨as, h1, h2, h3, h4, h5, h6, h7⟩ := m
  have hi' : i < as.length := by omega
  have ea : as[i]? = some as[i] := List.getElem?_eq_getElem hi'
  have er : (as.map V.ref)[i]? = some (.ref as[i]) := by rw [List.getElem?_map, ea]; rfl
  have hm := List.mem_of_getElem? ea
  have nap : pr ≠ as[i] := fun z => h4 (by rw [z]; exact hm)
  refine ⟨as.map V.ref, as[i], h1, by rw [List.length_map, h2], atI_nat er, er, h7 i _ ea, h6 _ hm, fun r => ⟨as, ?_, by rw [List.length_set]; exact h2, h3, h4, h5, h6, fun j a e => ?_⟩⟩
  · rw [upd_ne nap]; exact h1
  · by_cases hj : j = i
    · subst hj
      have : a = as[j] := by rw [ea] at e; simpa using e.symm
      subst this
      rw [upd_same]
      have : (M.set j r).getD j [] = r := by simp [List.getD, hi]
      rw [this]
    · have hja : a ≠ as[i] := fun z => by
        have hjl := (List.getElem?_eq_some_iff.mp e).1
        have ej : as[j] = as[i] := by rw [List.getElem?_eq_getElem hjl] at e; rw [← z]; simpa using e
        exact hj ((List.getElem_inj h3).mp ej)
      rw [upd_ne hja]
      have : (M.set i r).getD j [] = M.getD j [] := by simp [List.getD, List.getElem?_set_ne (Ne.symm hj)]
      rw [this]
      exact h7 j a e
theorem Mv.list {Hb H : Hp} {pr : Addr} {M : List (List V)} (m : Mv Hb H pr M) : ∃ xs, H pr = some (.lst xs) ∧ xs.length = M.length ∧ ∀ (i : Nat) x, xs[i]? = some x → ∃ a, x = .ref a ∧ Hb a = none ∧ H a = some (.lst (M.getD i [])) := by
  obtain ⟨as, h1, h2, h3, h4, h5, h6, h7⟩ := m
  refine ⟨as.map V.ref, h1, by rw [List.length_map, h2], fun i x e => ?_⟩
  rw [List.getElem?_map] at e
  cases ea : as[i]? with
  | none => rw [ea] at e; cases e
  | some a =>
    rw [ea] at e
    exact ⟨a, by simpa using e.symm, h6 a (List.mem_of_getElem? ea), h7 i a ea⟩
theorem comp_tupsV {K : PySem.W.Frag} {te : TE} {acc a : Addr} {σ₀ : St} {H₀ : Hp} {Q : VK} {xs : List V} {M : List (List V)} (hacc : H₀ acc = none) (ha : H₀ a = some (.lst xs)) (hl : xs.length = M.length) (hm : M.length ≤ 1000) (hx : ∀ (i : Nat) x, xs[i]? = some x → ∃ c, x = .ref c ∧ H₀ c = some (.lst (M.getD i [])))
    (ht : ∀ c (ns : List V) H Z, H c = some (.lst ns) → (∀ l, H l = none → Z (.ref l) (upd H l (.tup ns))) → te (σ₀.set 0 (some (.ref c))) H Z)
    (hd : ∀ ys H, Stay H₀ H → ys.length = M.length → (∀ (i : Nat) y, ys[i]? = some y → ∃ c, y = .ref c ∧ H c = some (.tup (M.getD i []))) → H acc = some (.lst ys) → Q (.ref acc) H) : tCompN (gName 0) tYes te (Itl K a) acc σ₀ H₀ Q := by
  refine comp_list (xs := xs) (fun i ys H' => Stay H₀ H' ∧ ys.length = i ∧ ∀ (j : Nat) y, ys[j]? = some y → ∃ c, y = .ref c ∧ H' c = some (.tup (M.getD j []))) ⟨(Stay.refl H₀).acc hacc, rfl, fun j y hy => by simp at hy⟩ (fun i ys H' _ _ z => SqL.of (z.1 _ _ ha)) ?_ ?_
  · rintro i x ys H hxi hy ⟨s, hyl, r⟩
    obtain ⟨c, rfl, hc⟩ := hx i x hxi
    have hi : i < M.length := by rw [← hl]; exact (List.getElem?_eq_some_iff.mp hxi).1
    refine yes_i (ht c (M.getD i []) H _ (s _ _ hc) fun l hl' => ?_)
    have s1 := (Stay.refl H).new (o := .tup (M.getD i [])) hl'
    refine ⟨ys, s1 _ _ hy, by rw [sz]; omega, Cn.of upd_same ⟨(s.trans s1).acc hacc, by rw [List.length_append, hyl]; rfl, fun j y hyj => ?_⟩⟩
    have tm : Tm (upd H l (.tup (M.getD i []))) (upd (upd H l (.tup (M.getD i []))) acc (.lst (ys ++ [.ref l]))) := Tm.lst (s1 _ _ hy)
    rcases Nat.lt_or_ge j ys.length with q | q
    · rw [List.getElem?_append_left q] at hyj
      obtain ⟨u, e, hu⟩ := r j y hyj
      exact ⟨u, e, tm _ _ (s1 _ _ hu)⟩
    · have ej : j = ys.length := by have := (List.getElem?_eq_some_iff.mp hyj).1; simp at this; omega
      subst ej
      obtain rfl : y = .ref l := by simpa using hyj.symm
      refine ⟨l, rfl, tm _ _ ?_⟩
      rw [hyl]; exact upd_same
  · rintro ys H hy ⟨s, hyl, r⟩
    exact hd ys H s (by rw [hyl, hl]) r hy
end KM
set_option Elab.async false
set_option linter.all false
set_option maxRecDepth 100000
set_option maxHeartbeats 4000000
namespace L2
open PySem PySem.Spec PyProof.Rows KG
def PL (f : Nat → Nat → Bool) (n i j : Nat) : List (List Int) := ((List.range i).flatMap fun i => ((List.range n).filter (f i)).map fun j => [((i : Nat) : Int), ((j : Nat) : Int)]) ++ ((List.range j).filter (f i)).map fun j => [((i : Nat) : Int), ((j : Nat) : Int)]
theorem PL_next (f : Nat → Nat → Bool) (n i : Nat) : PL f n i n = PL f n (i + 1) 0 := by
  unfold PL
  rw [List.range_succ, List.flatMap_append]
  simp
theorem PL_succ (f : Nat → Nat → Bool) (n i j : Nat) : PL f n i (j + 1) = PL f n i j ++ if f i j = true then [[((i : Nat) : Int), ((j : Nat) : Int)]] else [] := by
  unfold PL
  rw [KM.filt_snoc, List.append_assoc]
theorem PL_len (f : Nat → Nat → Bool) (n i j : Nat) : (PL f n i j).length ≤ i * n + j := by
  unfold PL
  rw [List.length_append, List.length_map]
  have h1 : ((List.range i).flatMap fun i => ((List.range n).filter (f i)).map fun j => [((i : Nat) : Int), ((j : Nat) : Int)]).length ≤ i * n := by
    induction i with
    | zero => simp
    | succ i ih =>
      have h3 : ((List.range n).filter (f i)).length ≤ n := by
        have := List.length_filter_le (f i) (List.range n)
        rw [List.length_range] at this; exact this
      rw [List.range_succ, List.flatMap_append, List.length_append]
      simp only [List.flatMap_cons, List.flatMap_nil, List.append_nil, List.length_map]
      rw [Nat.succ_mul]
      omega
  have h2 : ((List.range j).filter (f i)).length ≤ j := by
    have := List.length_filter_le (f i) (List.range j)
    rw [List.length_range] at this; exact this
  omega
def CnP (p : Option V) (cs : List (Option V)) (acc : Addr) (P : List V → Hp → Prop) (σ : St) (H : Hp) : Prop := (∃ x1, σ = p :: x1 :: cs) ∧ ∃ zs, H acc = some (.lst zs) ∧ P zs H
theorem comp2_pairs {tt : TT} {te : TE} {acc a : Addr} {cs : List (Option V)} {H₀ : Hp} {Q : VK} {n k : Nat} (f : Nat → Nat → Bool) (hn : n ≤ 6) (hacc : H₀ acc = none) (hk : ∀ x0 x1 : Option V, (x0 :: x1 :: cs)[k]? = some (some (.ref a))) (ha : H₀ a = some (.lst ((List.range n).map fun i : Nat => V.int (i : Int))))
    (ht : ∀ (i j : Nat) H (Z : Bool → Hp → Prop), i < n → j < n → Stay H₀ H → (∀ H', Stay H H' → Z (f i j) H') → tt (some (.int (i : Int)) :: some (.int (j : Int)) :: cs) H Z)
    (he : ∀ (i j : Nat) H (Z : VK), (∀ l, H l = none → Z (.ref l) (upd H l (.tup [.int (i : Int), .int (j : Int)]))) → te (some (.int (i : Int)) :: some (.int (j : Int)) :: cs) H Z)
    (hd : ∀ zs H, Stay H₀ H → H acc = some (.lst zs) → Rws H zs (PL f n n 0) → Q (.ref acc) H) {x0 x1 : Option V} :
    tComp2N (gName 0) tYes (iList K0 (tVar k)) (gName 1) tt te (Itl K0 a) acc (x0 :: x1 :: cs) H₀ Q := by
  have hxs : ∀ i, i < n → ((List.range n).map fun i : Nat => V.int (i : Int))[i]? = some (V.int (i : Int)) := fun i hi => by
    rw [List.getElem?_map, List.getElem?_range hi]; rfl
  have hlen : ((List.range n).map fun i : Nat => V.int (i : Int)).length = n := by rw [List.length_map, List.length_range]
  generalize hxe : (List.range n).map (fun i : Nat => V.int (i : Int)) = xs at ha hxs hlen
  refine ⟨fun i m σ H => m = n - i ∧ i ≤ n ∧ (∃ x0 x1, σ = x0 :: x1 :: cs) ∧ ∃ zs, H acc = some (.lst zs) ∧ Stay H₀ H ∧ Rws H zs (PL f n i 0), ⟨n, by simp, Nat.zero_le _, ⟨_, _, rfl⟩, [], upd_same, (Stay.refl H₀).acc hacc, .nil⟩, ?_⟩
  rintro i m σ H ⟨rfl, hi, ⟨x0, x1, rfl⟩, zs, hz, s, r⟩
  by_cases hlt : i < n
  · refine .inr ⟨⟨xs, V.int (i : Int), SqL.of (s _ _ ha), hxs i hlt⟩, fun σ H => (∃ x0 x1, σ = x0 :: x1 :: cs) ∧ ∃ zs, H acc = some (.lst zs) ∧ Stay H₀ H ∧ Rws H zs (PL f n (i + 1) 0), fun σ' H' p => ⟨n - (i + 1), by omega, rfl, hlt, p⟩, fun x H' y => ?_⟩
    obtain ⟨e, y⟩ := y
    subst e
    obtain rfl : x = V.int (i : Int) := by
      have := y xs (SqL.of (s _ _ ha))
      rw [hxs i hlt] at this; exact (Option.some.inj this).symm
    dsimp only [gName]
    refine yes_i ?_
    show iList K0 (tVar k) (some (.int (i : Int)) :: x1 :: cs) _ _
    refine ⟨_, hk _ _, a, rfl, ⟨_, SqL.of (s _ _ ha)⟩, ?_⟩
    refine ⟨fun j m σ H => m = n - j ∧ j ≤ n ∧ (∃ x1, σ = some (.int (i : Int)) :: x1 :: cs) ∧ ∃ zs, H acc = some (.lst zs) ∧ Stay H₀ H ∧ Rws H zs (PL f n i j), ⟨n, by simp, Nat.zero_le _, ⟨_, rfl⟩, zs, hz, s, r⟩, ?_⟩
    rintro j m σ H2 ⟨rfl, hj, ⟨x1, rfl⟩, zs2, hz2, s2, r2⟩
    by_cases hlt2 : j < n
    · refine .inr ⟨⟨xs, V.int (j : Int), SqL.of (s2 _ _ ha), hxs j hlt2⟩, CnP (some (.int (i : Int))) cs acc (fun zs H => Stay H₀ H ∧ Rws H zs (PL f n i (j + 1))), fun σ' H' p => ⟨n - (j + 1), by omega, rfl, hlt2, p⟩, fun x H' y => ?_⟩
      obtain ⟨e, y⟩ := y
      subst e
      obtain rfl : x = V.int (j : Int) := by
        have := y xs (SqL.of (s2 _ _ ha))
        rw [hxs j hlt2] at this; exact (Option.some.inj this).symm
      show tt (some (.int (i : Int)) :: some (.int (j : Int)) :: cs) _ _
      refine ht i j _ _ hlt hlt2 s2 fun H3 s3 => ?_
      have hz3 := s3 _ _ hz2
      have r3 := r2.keep s3.tm
      have hlen3 := r3.len
      have hpl := PL_len f n i j
      have hin : i * n ≤ 5 * 6 := Nat.mul_le_mul (by omega) hn
      cases hf : f i j with
      | true =>
        refine iteT (he i j H3 _ fun l hl => ?_)
        have s4 := (Stay.refl H3).new (o := .tup [.int (i : Int), .int (j : Int)]) hl
        have hz4 := s4 _ _ hz3
        refine ⟨zs2, hz4, by rw [sz]; omega, ⟨_, rfl⟩, zs2 ++ [.ref l], upd_same, ((s2.trans s3).trans s4).acc hacc, ?_⟩
        rw [PL_succ, hf, if_pos rfl]
        have tm : Tm (upd H3 l (.tup [.int (i : Int), .int (j : Int)])) (upd (upd H3 l (.tup [.int (i : Int), .int (j : Int)])) acc (.lst (zs2 ++ [.ref l]))) := Tm.lst hz4
        exact KM.Rws.app ((r3.keep s4.tm).keep tm) (.cons ⟨l, rfl, tm _ _ upd_same⟩ .nil)
      | false =>
        refine iteF ⟨⟨_, rfl⟩, zs2, hz3, s2.trans s3, ?_⟩
        rw [PL_succ, hf, if_neg (by decide), List.append_nil]; exact r3
    · have e : j = n := by omega
      subst e
      refine .inl ⟨⟨xs, SqL.of (s2 _ _ ha), by omega⟩, ⟨_, _, rfl⟩, zs2, hz2, s2, ?_⟩
      rw [← PL_next]; exact r2
  · have e : i = n := by omega
    subst e
    exact .inl ⟨⟨xs, SqL.of (s _ _ ha), by omega⟩, hd zs H s hz r⟩
end L2
namespace KM
open PySem L2 KG EX
def worthQ (ns : List Int) (qs : List Rat) : Rat := sumQ ((List.range ns.length).map fun g => ((ns.getD g 0 : Int) : Rat) * qs.getD g 0)
theorem rb_sumQ {k : Nat} : ∀ {qs : List Rat}, (∀ q ∈ qs, Rb k q) → Rb (1 + (k + 1) * qs.length) (sumQ qs)
  | [], _ => rb_zero
  | q :: qs, h => by
    have ih := rb_sumQ (qs := qs) fun z hz => h z (List.mem_cons_of_mem _ hz)
    rw [sumQ_cons]
    have := rb_add (h q List.mem_cons_self) ih
    refine this.mono ?_
    rw [List.length_cons, Nat.mul_succ]
    omega
theorem rb_wish {n : Int} (h : 0 ≤ n ∧ n ≤ 100) : Rb 7 (n : Rat) := rb_int (by unfold Bd; omega) (by decide)
theorem rb_worth {ns : List Int} {qs : List Rat} (h6 : ns.length ≤ 6) (hn : ∀ n ∈ ns, 0 ≤ n ∧ n ≤ 100) (hq : ∀ q ∈ qs, Rb 100 q) : Rb 1000 (worthQ ns qs) := by
  unfold worthQ
  have h := rb_sumQ (k := 107) (qs := (List.range ns.length).map fun g => ((ns.getD g 0 : Int) : Rat) * qs.getD g 0) fun z hz => by
    obtain ⟨g, hg, rfl⟩ := List.mem_map.mp hz
    exact rb_mul (rb_wish (hn _ (mem_getD (List.mem_range.mp hg)))) (rb_getD (by decide) hq g)
  refine h.mono ?_
  rw [List.length_map, List.length_range]
  omega
def spWorth : Sp := fun vs H Q _ => ∃ (a c : Addr) (ns : List Int) (ys : List V) (qs : List Rat), vs = [.ref a, .ref c] ∧ H a = some (.tup (ns.map V.int)) ∧ H c = some (.tup ys) ∧ Frs H ys qs ∧ ns.length = qs.length ∧ ns.length ≤ 6 ∧ (∀ n ∈ ns, 0 ≤ n ∧ n ≤ 100) ∧ (∀ q ∈ qs, Rb 100 q) ∧
  ∀ (r : Addr) (H' : Hp), Stay H H' → H' r = some (qO (worthQ ns qs)) → Q (.ref r) H'
def rateW (M : List (List Int)) (ps : List Rat) (D : List (List Rat)) (i j : Nat) : Rat := worthQ (M.getD i []) (D.getD j []) / ps.getD j 0
def ratherB (M : List (List Int)) (ps : List Rat) (D : List (List Rat)) (i j : Nat) : Bool := decide (rateW M ps D i i < rateW M ps D i j)
def spWbp : Sp := fun vs H Q _ => ∃ (b p pa pp pw q : Addr) (xa xp xw zs : List V) (am pu wi : List PyData) (D : List (List Rat)) (i j : Nat), vs = [.ref p, .ref q, .int (i : Int), .int (j : Int)] ∧ MkAt b H p pa pp pw xa xp xw am pu wi ∧ DlAt H q zs D xa.length ∧ D.length = xp.length ∧ i < xp.length ∧ j < xp.length ∧
  ∀ (r : Addr) (H' : Hp), Stay H H' → H' r = some (qO (rateW (rowsOf wi) (pursesQ pu) D i j)) → Q (.ref r) H'
def spWr : Sp := fun vs H Q _ => ∃ (b p pa pp pw q : Addr) (xa xp xw zs : List V) (am pu wi : List PyData) (D : List (List Rat)) (i j : Nat), vs = [.ref p, .ref q, .int (i : Int), .int (j : Int)] ∧ MkAt b H p pa pp pw xa xp xw am pu wi ∧ DlAt H q zs D xa.length ∧ D.length = xp.length ∧ i < xp.length ∧ j < xp.length ∧
  ∀ H', Stay H H' → Q (.bl (ratherB (rowsOf wi) (pursesQ pu) D i j)) H'
def tooB (am : List Int) (D : List (List Rat)) (n : Nat) : Bool := (List.range n).any fun g => decide (((am.getD g 0 : Int) : Rat) < gotQ D g)
def spTooM : Sp := fun vs H Q _ => ∃ (b p pa pp pw q : Addr) (xa xp xw zs : List V) (am pu wi : List PyData) (D : List (List Rat)), vs = [.ref p, .ref q] ∧ MkAt b H p pa pp pw xa xp xw am pu wi ∧ DlAt H q zs D xa.length ∧ ∀ H', Stay H H' → Q (.bl (tooB (am.map intOf) D xa.length)) H'
def spNeedD (Nd : Addr) : Sp := fun vs H Q E => ∃ (b p pa pp pw : Addr) (xa xp xw : List V) (am pu wi : List PyData) (v : V) (d : PyData), vs = [.ref p, v] ∧ MkAt b H p pa pp pw xa xp xw am pu wi ∧ TrV b H v d ∧ (∀ D, d = matD D → ∀ r ∈ D, ∀ z ∈ r, Rb 100 z) ∧
  (isDl xp.length xa.length d = false → ∀ H', Stay H H' → E (.ref Nd) none H') ∧ (∀ D, d = matD D → D.length = xp.length → (∀ r ∈ D, r.length = xa.length) → (∀ r ∈ D, ∀ z ∈ r, 0 ≤ z) → tooB (am.map intOf) D xa.length = true → ∀ H', Stay H H' → E (.ref Nd) none H') ∧
  (∀ D, d = matD D → D.length = xp.length → (∀ r ∈ D, r.length = xa.length) → (∀ r ∈ D, ∀ z ∈ r, 0 ≤ z) → tooB (am.map intOf) D xa.length = false → ∀ H', Stay H H' → Q .non H')
def spRather (Nd : Addr) : Sp := fun vs H Q E => ∃ (b p pa pp pw : Addr) (xa xp xw : List V) (am pu wi : List PyData) (v : V) (d : PyData), vs = [.ref p, v] ∧ MkAt b H p pa pp pw xa xp xw am pu wi ∧ TrV b H v d ∧ (∀ D, d = matD D → ∀ r ∈ D, ∀ z ∈ r, Rb 100 z) ∧
  (isDl xp.length xa.length d = false → ∀ H', Stay H H' → E (.ref Nd) none H') ∧ (∀ D, d = matD D → D.length = xp.length → (∀ r ∈ D, r.length = xa.length) → (∀ r ∈ D, ∀ z ∈ r, 0 ≤ z) → tooB (am.map intOf) D xa.length = true → ∀ H', Stay H H' → E (.ref Nd) none H') ∧
  (∀ D, d = matD D → D.length = xp.length → (∀ r ∈ D, r.length = xa.length) → (∀ r ∈ D, ∀ z ∈ r, 0 ≤ z) → tooB (am.map intOf) D xa.length = false → ∀ (l : Addr) (ws : List V) (H' : Hp), Stay H H' → H' l = some (.lst ws) → Rws H' ws (PL (ratherB (rowsOf wi) (pursesQ pu) D) xp.length xp.length 0) → Q (.ref l) H')
end KM
set_option Elab.async false
set_option linter.all false
set_option maxRecDepth 100000
set_option maxHeartbeats 4000000
namespace PySem
open AutoSeq1 (wpAny_loadPart')
end PySem
namespace L2
open PySem PySem.Spec PyProof.Rows
section
variable {X : Cx}
end
end L2
namespace KM
open PySem L2 KG EX
theorem comp_bagT {K : PySem.W.Frag} {te : TE} {acc a b : Addr} {xs : List V} {σ₀ : St} {Q : VK} {H1 : Hp} (hb1 : Bag H1 b) (hacc : H1 acc = none) (hn : xs.length ≤ 100) (ha : H1 a = some (.tup xs)) (R : V → Prop)
    (ht : ∀ (i : Nat) x H', xs[i]? = some x → Bag H' b → Kp b H1 H' → ∀ (Z : V → Hp → Prop), (∀ y H5, Bag H5 b → Kp b H' H5 → R y → Z y H5) → te (σ₀.set 0 (some x)) H' Z)
    (hd : ∀ ys H', Bag H' b → Kp b H1 H' → ys.length = xs.length → (∀ y ∈ ys, R y) → H' acc = some (.lst ys) → Q (.ref acc) H') : tCompN (gName 0) tYes te (Itt K a) acc σ₀ H1 Q := by
  have nacc := hb1.ne hacc
  refine comp_tup (xs := xs) (fun i ys H' => Bag H' b ∧ Kp b H1 H' ∧ ys.length = i ∧ ∀ y ∈ ys, R y) ⟨hb1.new hacc, (Kp.refl b H1).new hacc, rfl, fun y hy => nomatch hy⟩ (fun i ys H' _ _ z => SqT.of (z.2.1.tm hb1 _ _ ha)) ?_ ?_
  · rintro i x ys H' hx hy ⟨hb', kp', hl, hr⟩
    have hi : i < xs.length := (List.getElem?_eq_some_iff.mp hx).1
    refine yes_i ?_
    refine ht i x H' hx hb' kp' _ fun y H5 hb5 kp5 r5 => ?_
    have hy5 := kp5 acc _ nacc.symm hy
    refine ⟨ys, hy5, by rw [hl, sz]; omega, Cn.of upd_same ⟨hb5.acc nacc, (kp'.trans kp5).acc hacc, by rw [List.length_append, hl]; rfl, fun z hz => ?_⟩⟩
    rcases List.mem_append.mp hz with q | q
    · exact hr z q
    · rw [List.mem_singleton.mp q]; exact r5
  · rintro ys H' hy ⟨hb', kp', hl, hr⟩
    exact hd ys H' hb' kp' hl hr hy
theorem sumQ_app : ∀ (a b : List Rat), sumQ (a ++ b) = sumQ a + sumQ b
  | [], b => by rw [List.nil_append]; show _ = (0 : Rat) + _; rw [Rat.zero_add]
  | q :: a, b => by rw [List.cons_append, sumQ_cons, sumQ_cons, sumQ_app a b, Rat.add_assoc]
theorem sum_div (c : Rat) (x : Nat → Int) : ∀ n, sumQ ((List.range n).map fun i => ((x i : Int) : Rat) * c) = ((((List.range n).map x).sum : Int) : Rat) * c
  | 0 => by show (0 : Rat) = ((0 : Int) : Rat) * c; rw [Rat.intCast_zero, Rat.zero_mul]
  | n + 1 => by
    rw [List.range_succ, List.map_append, List.map_append, sumQ_app, sum_div c x n, List.sum_append]
    show _ + sumQ [((x n : Int) : Rat) * c] = _
    have e : sumQ [((x n : Int) : Rat) * c] = ((x n : Int) : Rat) * c := by rw [sumQ_cons]; show _ + (0 : Rat) = _; rw [Rat.add_zero]
    rw [e, show ((List.map x [n]).sum : Int) = x n by simp, Rat.intCast_add, Rat.add_mul]
theorem inv_pos' {m : Int} (h : 1 ≤ m) : 0 < ((m : Int) : Rat)⁻¹ := by
  have h1 := div_pos (a := 1) (b := ((m : Int) : Rat)) (by decide) (cast_pos (by omega))
  rwa [Rat.div_def, Rat.one_mul] at h1
theorem sum_mulI (a : Int) (s : Nat → Int) : ∀ n, ((List.range n).map fun i => a * s i).sum = a * ((List.range n).map s).sum
  | 0 => by simp
  | n + 1 => by
    rw [List.range_succ, List.map_append, List.map_append, List.sum_append, List.sum_append, sum_mulI a s n, Int.mul_add]
    simp
theorem shares_le {a m : Int} {s : Nat → Int} {n : Nat} (ha : 0 ≤ a) (hm : 1 ≤ m) (hs : ((List.range n).map s).sum ≤ m) : sumQ ((List.range n).map fun i => Rat.divInt (a * s i) m) ≤ ((a : Int) : Rat) := by
  have e : ((List.range n).map fun i => Rat.divInt (a * s i) m) = ((List.range n).map fun i => ((a * s i : Int) : Rat) * ((m : Int) : Rat)⁻¹) := by
    congr 1; funext i; rw [Rat.divInt_eq_div, Rat.div_def]
  rw [e, sum_div, sum_mulI]
  have hm0 : ((m : Int) : Rat) ≠ 0 := fun z => by have := cast_pos (z := m) (by omega); rw [z] at this; exact absurd this (by decide)
  have h1 : (((a * ((List.range n).map s).sum : Int)) : Rat) ≤ ((a * m : Int) : Rat) := Rat.intCast_le_intCast.mpr (Int.mul_le_mul_of_nonneg_left hs ha)
  have h2 := Rat.mul_le_mul_of_nonneg_left h1 (Rat.le_of_lt (inv_pos' hm))
  have h3 : ((m : Int) : Rat)⁻¹ * ((a * m : Int) : Rat) = ((a : Int) : Rat) := by
    rw [Rat.intCast_mul, Rat.mul_comm, Rat.mul_assoc, Rat.mul_inv_cancel _ hm0, Rat.mul_one]
  rw [h3, Rat.mul_comm] at h2
  exact h2
theorem share_ok {a s m : Int} (ha : 0 ≤ a ∧ a ≤ 60) (hs : 0 ≤ s ∧ s ≤ 4) (hm : 1 ≤ m ∧ m ≤ 100) : 0 ≤ Rat.divInt (a * s) m ∧ Rb 20 (Rat.divInt (a * s) m) := by
  have h0 : 0 ≤ a * s := Int.mul_nonneg ha.1 hs.1
  have h1 : a * s ≤ 60 * 4 := Int.mul_le_mul ha.2 hs.2 hs.1 (by decide)
  refine ⟨Rat.divInt_nonneg h0 (by omega), rb_div (by omega) ?_ ?_⟩
  · unfold Bd; omega
  · unfold Bd; omega
theorem Frs.put {H : Hp} {ys : List V} {qs : List Rat} (h : Frs H ys qs) {a : Addr} {q : Rat} (ha : H a = some (qO q)) (g : Nat) : Frs H (ys.set g (.ref a)) (qs.set g q) := by
  refine ⟨by rw [List.length_set, List.length_set]; exact h.1, fun j y hy => ?_⟩
  by_cases hj : j = g
  · subst hj
    have hl : j < ys.length := by have := (List.getElem?_eq_some_iff.mp hy).1; rwa [List.length_set] at this
    rw [List.getElem?_set_self hl] at hy
    refine ⟨a, (Option.some.inj hy).symm, ?_⟩
    have : (qs.set j q).getD j 0 = q := by simp [List.getD, show j < qs.length by rw [← h.1]; exact hl]
    rw [this]; exact ha
  · rw [List.getElem?_set_ne (Ne.symm hj)] at hy
    obtain ⟨c, e, hc⟩ := h.2 j y hy
    refine ⟨c, e, ?_⟩
    have : (qs.set g q).getD j 0 = qs.getD j 0 := by simp [List.getD, List.getElem?_set_ne (Ne.symm hj)]
    rw [this]; exact hc
def eQ (D : List (List Rat)) (i g : Nat) : Rat := (D.getD i []).getD g 0
theorem gotQ_idx (D : List (List Rat)) (g : Nat) : gotQ D g = sumQ ((List.range D.length).map fun i => eQ D i g) := by
  unfold gotQ eQ
  congr 1
  conv => lhs; rw [← idx_all D [], List.map_map]
  rfl
def putQ (D : List (List Rat)) (i g : Nat) (q : Rat) : List (List Rat) := D.set i ((D.getD i []).set g q)
theorem eQ_put {D : List (List Rat)} {i g : Nat} {q : Rat} (hi : i < D.length) (hg : g < (D.getD i []).length) (i' g' : Nat) : eQ (putQ D i g q) i' g' = if i' = i ∧ g' = g then q else eQ D i' g' := by
  unfold eQ putQ
  by_cases h : i' = i
  · subst h
    have e : (D.set i' ((D.getD i' []).set g q)).getD i' [] = (D.getD i' []).set g q := by simp [List.getD, hi]
    rw [e]
    generalize D.getD i' [] = R at hg ⊢
    by_cases h2 : g' = g
    · subst h2
      rw [if_pos ⟨rfl, rfl⟩]
      simp [List.getD, hg]
    · rw [if_neg (fun z => h2 z.2)]
      simp [List.getD, List.getElem?_set_ne (Ne.symm h2)]
  · rw [if_neg (fun z => h z.1)]
    have e : (D.set i ((D.getD i []).set g q)).getD i' [] = D.getD i' [] := by simp [List.getD, List.getElem?_set_ne (Ne.symm h)]
    rw [e]
theorem putQ_rowlen {D : List (List Rat)} {i g : Nat} {q : Rat} (i' : Nat) : ((putQ D i g q).getD i' []).length = (D.getD i' []).length := by
  unfold putQ
  by_cases h : i' = i
  · subst h
    by_cases hl : i' < D.length
    · have e : (D.set i' ((D.getD i' []).set g q)).getD i' [] = (D.getD i' []).set g q := by simp [List.getD, hl]
      rw [e, List.length_set]
    · have e : D.set i' ((D.getD i' []).set g q) = D := List.set_eq_of_length_le (by omega)
      rw [e]
  · have e : (D.set i ((D.getD i []).set g q)).getD i' [] = D.getD i' [] := by simp [List.getD, List.getElem?_set_ne (Ne.symm h)]
    rw [e]
def ColQ (am : List Int) (D : List (List Rat)) (n g : Nat) : Prop := (∀ i, i < n → 0 ≤ eQ D i g ∧ Rb 20 (eQ D i g)) ∧ sumQ ((List.range n).map fun i => eQ D i g) ≤ ((am.getD g 0 : Int) : Rat)
theorem ColQ.congr {am : List Int} {D D' : List (List Rat)} {n g : Nat} (h : ColQ am D n g) (e : ∀ i, i < n → eQ D' i g = eQ D i g) : ColQ am D' n g := by
  refine ⟨fun i hi => by rw [e i hi]; exact h.1 i hi, ?_⟩
  have : ((List.range n).map fun i => eQ D' i g) = ((List.range n).map fun i => eQ D i g) := List.map_congr_left fun i hi => e i (List.mem_range.mp hi)
  rw [this]; exact h.2
def spAnyD : Sp := fun vs H Q _ => ∃ (b p pa pp pw : Addr) (xa xp xw : List V) (am pu wi : List PyData), vs = [.ref b, .ref p] ∧ Bag H b ∧ MkAt b H p pa pp pw xa xp xw am pu wi ∧
  ∀ (q : Addr) (zs : List V) (D : List (List Rat)) (H' : Hp), Bag H' b → Kp b H H' → DlAt H' q zs D xa.length → D.length = xp.length → (∀ r ∈ D, ∀ z ∈ r, 0 ≤ z ∧ Rb 20 z) → (∀ g, g < xa.length → gotQ D g ≤ (((am.map intOf).getD g 0 : Int) : Rat)) → Q (.ref q) H'
end KM
set_option Elab.async false
set_option linter.all false
set_option maxRecDepth 100000
set_option maxHeartbeats 4000000
namespace KM
open PySem L2 KG EX
theorem frm_tr {b : Addr} {H : Hp} : ∀ {zs : List V} {D : List (List Rat)}, FrM H zs D → TrVs b H zs (D.map fun qs => .tuple (qs.map qD))
  | [], [], _ => .nil
  | [], _ :: _, h => by have := h.1; simp at this
  | _ :: _, [], h => by have := h.1; simp at this
  | z :: zs, qs :: D, h => by
    obtain ⟨a, ys, qs', e1, e2, e3, e4⟩ := h.2 0 z rfl
    have : qs' = qs := by simpa using e1.symm
    subst this e2
    refine .cons (.tup e3 (frs_tr e4)) (frm_tr ⟨by have := h.1; simpa using this, fun j x hx => ?_⟩)
    obtain ⟨a, ys, qs, f1, f2⟩ := h.2 (j + 1) x (by simpa using hx)
    exact ⟨a, ys, qs, by simpa using f1, f2⟩
theorem part_qD {q : Rat} (h : 0 ≤ q) : isPart (qD q) = true := by
  show (decide ((1 : Int) ≤ (q.den : Int)) && decide (Int.gcd q.num (q.den : Int) = 1) && decide (0 ≤ q.num)) = true
  have h1 := den_pos q
  have h2 : Int.gcd q.num (q.den : Int) = 1 := by
    have := q.reduced
    unfold Nat.Coprime at this
    rw [Int.gcd_eq_natAbs_gcd_natAbs]
    simpa using this
  rw [decide_eq_true (show (1 : Int) ≤ (q.den : Int) by omega), decide_eq_true h2, decide_eq_true (Rat.num_nonneg.mpr h)]; rfl
theorem isDl_mat {D : List (List Rat)} {n g : Nat} (h1 : D.length = n) (h2 : ∀ r ∈ D, r.length = g) (h3 : ∀ r ∈ D, ∀ z ∈ r, 0 ≤ z) : isDl n g (matD D) = true := by
  show (decide ((D.map fun qs => PyData.tuple (qs.map qD)).length = n) && (D.map fun qs => PyData.tuple (qs.map qD)).all (isDRow g)) = true
  rw [List.length_map, decide_eq_true h1, Bool.true_and, List.all_map, List.all_eq_true]
  intro r hr
  show (decide ((r.map qD).length = g) && (r.map qD).all isPart) = true
  rw [List.length_map, decide_eq_true (h2 r hr), Bool.true_and, List.all_map, List.all_eq_true]
  exact fun z hz => part_qD (h3 r hr z hz)
end KM
set_option Elab.async false
set_option linter.all false
set_option maxRecDepth 100000
set_option maxHeartbeats 4000000
namespace EX
open PySem PySem.Spec PyProof.Rows
def Tb (e C t : Addr) (h : Heap) : Prop := ∃ T, h.get? e = some (excO C t (.ref T))
section
variable {M : Model} {A : Around} {E : Value → Shared → Prop} {s : Shared} {B : Heap} {env : Env} {outer : List Env} {L e C t : Addr} {Q : Unit → Shared → Prop}
theorem air_entryH {head : Value} {hn : Bool} (a : Air B (env :: outer) e C t s.heap) (hfr : A.frames = some (env :: outer)) (hf : env.frame = some L)
    (k : ∀ h', Air B (env :: outer) e C t h' → s.heap.UpToSlots h' → Tb e C t h' → Q () { s with heap := h' }) :
    wpAny M A (do let fr ← frameOf env; let pl ← entryPlaceOf L hn; let x ← EntryCells.newEntry head fr .none (rawInt L) .none pl; setField (.ref e) 1 x) Q E s := by
  obtain ⟨hd, he, _⟩ := a.ob
  refine wpAny_bind (wpAny_frameOf_fun hfr a.ff hf fun g so => ?_)
  obtain ⟨_, so2, so3⟩ := so
  have nfr : e ∉ (env :: outer).filterMap (·.frame) := fun m => by
    obtain ⟨_, o, ho, nf⟩ := a.ff.mem m
    rw [he] at ho
    cases ho
    exact nf _ rfl
  have ge : g.get? e = some (excO C t hd) := (so2 e nfr).trans he
  have gB : B.StaysIn g := fun b o q => (so2 b fun m => by rw [(a.ff.mem m).1] at q; cases q).trans (a.st b o q)
  refine wpAny_bind (wpAny_entryPlaceOf fun pl ipl => ?_)
  unfold EntryCells.newEntry newFields
  refine wpAny_bind (wpAny_newObj_type ?_ (ipl.sizeOk5 _ _ _ _ _))
  generalize hN : ({ cls := .type "traceback", dict := none, data := .fields ([head, .ref L, .none, rawInt L, .none] ++ (if pl.isEmpty then List.replicate 6 Value.none else pl)).toArray } : Obj) = oN
  have g2 : (g.push oN).get? e = some (excO C t hd) := Heap.get?_push_of_some _ ge
  have gT : (g.push oN).get? g.objs.size = some oN := Heap.get?_push_size g (by rw [← hN]; rfl)
  have Te : g.objs.size ≠ e := Nat.ne_of_gt (Heap.lt_size ge)
  have nBT : B.get? g.objs.size = none := by
    cases q : B.get? g.objs.size with
    | none => rfl
    | some o => exact absurd (Heap.lt_size (gB _ o q)) (Nat.lt_irrefl _)
  refine wpAny_setField g2 rfl (by show 1 < 6; decide) (k _ ?_ ?_ ⟨_, Heap.get?_update_self _ g2 rfl⟩)
  · refine ⟨fun b o q => ?_, a.ne, ?_, .ref g.objs.size, ?_, .inr ⟨g.objs.size, oN, _, rfl, nBT, Te, ?_, by rw [← hN], ?_⟩⟩
    · rw [Heap.get?_update_other _ _ (fun z => by rw [← z, a.ne] at q; cases q)]
      exact Heap.get?_push_of_some _ (gB b o q)
    · refine a.ff.of_keeps fun b o q nf => ?_
      obtain ⟨sl, q2⟩ := so3 b o q
      refine ⟨{ o with slots := sl }, ?_, rfl⟩
      rw [Heap.get?_update_other _ _ (fun z => by rw [← z, he] at q; cases q; exact nf _ rfl)]
      exact Heap.get?_push_of_some _ q2
    · exact Heap.get?_update_self _ g2 rfl
    · rw [Heap.get?_update_other _ _ Te.symm]; exact gT
    · simp only [List.size_toArray, List.length_append, List.length_cons]; omega
  · intro b o q nf
    obtain ⟨sl, q2⟩ := so3 b o q
    refine ⟨sl, ?_⟩
    rw [Heap.get?_update_other _ _ (fun z => by rw [← z, he] at q; cases q; exact nf _ rfl)]
    exact Heap.get?_push_of_some _ q2
theorem air_noteH (a : Air B (env :: outer) e C t s.heap) (hfr : A.frames = some (env :: outer)) (hf : env.frame = some L)
    (k : ∀ h', Air B (env :: outer) e C t h' → s.heap.UpToSlots h' → Tb e C t h' → Q () { s with heap := h' }) : wpAny M A (noteFrame (.ref e) env) Q E s := by
  obtain ⟨hd, he, hh⟩ := a.ob
  unfold noteFrame
  simp only [hf]
  refine wpAny_bind (wpAny_field he rfl (x := hd) rfl ?_)
  rcases hh with rfl | ⟨T, oT, ts, rfl, nT, Te, hT, dT, h3⟩
  · rw [if_neg (by decide)]
    exact air_entryH a hfr hf k
  · rw [if_pos (show (Value.ref T != Value.none) = true from by simp)]
    refine wpAny_bind (wpAny_field hT dT (x := ts[3]) (by rw [Array.getElem?_eq_getElem h3]) ?_)
    by_cases hv : (ts[3] == rawInt L) = true
    · rw [if_pos hv]
      exact wpAny_pure (k s.heap a (Heap.UpToSlots.refl _) ⟨_, he⟩)
    · rw [if_neg hv]
      refine wpAny_bind (air_head a nT Te hT dT h3 fun h1 a1 u1 => ?_)
      exact air_entryH (s := { s with heap := h1 }) a1 hfr hf fun h2 a2 u2 b2 => k h2 a2 (u1.trans u2) b2
theorem air_fly {fr : Option Addr} (a : Air B outer e C t s.heap) (k : ∀ h', Air B outer e C t h' → s.heap.UpToSlots h' → Q () { s with heap := h' }) : wpAny M A (setFlight (.ref e) fr) Q E s := by
  obtain ⟨hd, he, hh⟩ := a.ob
  unfold setFlight
  refine wpAny_bind (wpAny_field he rfl (x := hd) rfl ?_)
  rcases hh with rfl | ⟨T, oT, ts, rfl, nT, Te, hT, dT, h3⟩
  · rw [if_neg (by decide)]
    exact wpAny_pure (k s.heap a (Heap.UpToSlots.refl _))
  · rw [if_pos (show (Value.ref T != Value.none) = true from by simp)]
    exact air_head a nT Te hT dT h3 k
theorem air_pass {α : Type} {what : String} {cenv : Env} {Qa : α → Shared → Prop} (a : Air B outer e C t s.heap) (b : Tb e C t s.heap) (k : ∀ h', Air B outer e C t h' → s.heap.UpToSlots h' → E (.ref e) { s with heap := h' }) : wpAny M A (PySem.passOn what (.ref e) cenv : Sem α) Qa E s := by
  obtain ⟨T, q⟩ := b
  unfold PySem.passOn
  refine wpAny_bind (wpAny_field q rfl (x := .ref T) rfl ?_)
  rw [if_neg (by simp)]
  exact wpAny_bind (air_fly a fun h1 a1 u1 => wpAny_throw (k h1 a1 u1))
end
end EX
namespace L2
open PySem PySem.Spec PyProof.Rows EX
theorem comp_loopX {prog : Program} {w : World} {A : Around} {R : Result → Shared → Prop} {s : Shared} {elt target iter : Expr} {ifs : List Expr} {scope : Scope} {pos : Pos} {it acc : Value} {env : Env} (I : Nat → Shared → Prop) {XE : Value → Shared → Prop} (hX : ∀ x s', XE x s' → notedBy (model prog w) A env (fun x s' => R (.error x) s') x s')
    (turn : ∀ n s, I n s → wpAny (model prog w) A (pyNext it) (fun r s₁ => match r with
      | none => R (.ok .next) s₁
      | some v => wpAny (model prog w) A (letOwnedTupleGo target it v) (fun _ s₁' => wpAny (model prog w) A (assign target env v) (fun _ s₂ =>
          wpAny (model prog w) A (forIn ifs true fun c r => if r = true then do let ok ← isTrue c env (eval c env); pure (ForInStep.yield ok) else pure (ForInStep.yield r)) (fun ok s₃ =>
            if ok = true then wpAny (model prog w) A (eval elt env) (fun x s₄ =>
              wpAny (model prog w) A (call (.builtin "list.append") [acc, x]) (fun _ s₅ => ∃ m, m < n ∧ I m s₅) XE s₄) XE s₃
            else ∃ m, m < n ∧ I m s₃) XE s₂) XE s₁') XE s₁) XE s)
    (n : Nat) (h : I n s) :
    codeAny (model prog w) A (.compLoop (.ListComp elt [⟨target, iter, ifs, 0⟩] scope pos) 0 it acc env) R s := by
  refine codeAny_loop rfl I (fun n s hI => ?_) n h
  show wpAny _ A ((compTurn (.ListComp elt [⟨target, iter, ifs, 0⟩] scope pos) 0 it acc env).onRaise (fun x => do noteFrame x env; theTreesLotGoes x)) _ _ s
  refine wpAny_noted ?_
  rw [compTurn_list]
  refine wpAny_bind (wpAny_standAt (wpAny_bind (wpAny_mono (turn n s hI) (fun r s₁ h₁ => ?_) hX)))
  cases r with
  | none => exact wpAny_pure h₁
  | some v =>
    refine wpAny_bind (wpAny_mono h₁ (fun _ s₁' h₁' => ?_) hX)
    refine wpAny_bind (wpAny_mono h₁' (fun _ s₂ h₂ => wpAny_bind (wpAny_mono h₂ (fun ok s₃ h₃ => ?_) hX)) hX)
    cases ok with
    | false => exact wpAny_pure ⟨rfl, h₃⟩
    | true =>
      exact wpAny_bind (wpAny_bind (wpAny_mono h₃ (fun x s₄ h₄ => wpAny_bind (wpAny_mono h₄ (fun _ s₅ h₅ => wpAny_pure (wpAny_pure ⟨rfl, h₅⟩)) hX)) hX))
def XEC (X : Cx) (E0 : XK) (C : Addr) (e : Value) (s' : Shared) : Prop := ∃ pins σ H s m, Inv X pins σ H s ∧ FpOk X pins H C ∧ s.heap.Ns C m ∧ CXF X.prog X.w X.stack H s E0 e s'
def cxCX (X : Cx) (E0 : XK) (scope : Scope) (C : Addr) (N : List Str) (fp : List Addr) (s : Shared) (H : Hp) : Cx := { cxC X scope C N fp s H with xe := XEC X E0 C }
theorem Inv.xeX {X : Cx} {E0 : XK} {scope : Scope} {C : Addr} {N : List Str} {fp : List Addr} {s s1 : Shared} {H H1 : Hp} {pins : List (Addr × Obj)} {σ : St} (I : Inv (cxC X scope C N fp s H) pins σ H1 s1) : Inv (cxCX X E0 scope C N fp s H) pins σ H1 s1 :=
  ⟨⟨I.ok.mod, I.ok.kind, I.ok.glob, I.ok.blt, I.ok.above, I.ok.inj, I.ok.has, I.ok.cab, I.ok.hd, I.ok.frames, I.ok.stk, I.ok.exf, I.ok.bs, I.ok.bsz, I.ok.noex, I.ok.exfs, I.ok.funs, I.ok.frf⟩, I.os, I.bare, I.base, I.loc, I.cell, I.free, I.freeC, I.pin, I.hok, I.len⟩
theorem ff_but {h h2 B B2 : Heap} : ∀ {l : List Env}, (∀ b ∈ frs l, B2.get? b = none) → (∀ b ∈ frs l, ∀ o, h.get? b = some o → h2.get? b = some o) → h.FunFrames B l → h2.FunFrames B2 l
  | [], _, _, _ => trivial
  | env :: r, hB, k, ⟨hk, ⟨L, o, hf, hn, ho, hd⟩, hr⟩ => by
    have m : L ∈ frs (env :: r) := by unfold frs; rw [List.filterMap_cons, hf]; exact List.mem_cons_self
    have sub : ∀ b ∈ frs r, b ∈ frs (env :: r) := fun b hb => by unfold frs; rw [List.filterMap_cons, hf]; exact List.mem_cons_of_mem _ hb
    exact ⟨hk, ⟨L, o, hf, hB L m, k L m o ho, hd⟩, ff_but (fun b hb => hB b (sub b hb)) (fun b hb => k b (sub b hb)) hr⟩
theorem fly_same {P : Program} {w : World} {E0 : XK} {l : List Env} {H H' : Hp} {s s' : Shared} {a C t : Addr} {B h' : Heap} (os : s'.os = s.os) (bare : AllBare s'.gens) (un : Un (frs l) [] H H' s.heap s'.heap) (hok : HOk P w H' B)
    (third : ∀ b o, s.heap.get? b = some o → b ∉ frs l → (∃ o', B.get? b = some o') ∧ (H b = none → B.get? b = some o)) (ff : s'.heap.FunFrames B l) (air : Air B l a C t h') (up : s'.heap.UpToSlots h') (na : s.heap.get? a = none) (na' : H' a = none) (he : E0 (.ref C) none H') : CXF P w l H s E0 (.ref a) { s' with heap := h' } := by
  refine ⟨a, C, t, B, H', rfl, os, bare, ⟨fun b o q n nf _ => air.st b o ((third b o q nf).2 n), fun b o q n m _ => ?_, un.free, fun b o q _ => ?_, un.tups, un.frzs, un.tbls⟩, hok, third, air, na, na', he⟩
  · obtain ⟨sl2, q2⟩ := un.slot b _ q n m (by simp)
    obtain ⟨_, o3, q3, nf⟩ := ff.mem m
    rw [q2] at q3
    cases q3
    obtain ⟨sl3, q4⟩ := up b _ q2 nf
    exact ⟨sl3, q4⟩
  · by_cases m : b ∈ frs l
    · obtain ⟨_, o3, q3, nf⟩ := ff.mem m
      obtain ⟨sl3, q4⟩ := up b _ q3 nf
      exact ⟨_, q4⟩
    · obtain ⟨o2, q2⟩ := (third b o q m).1
      exact ⟨o2, air.st b o2 q2⟩
theorem xec_out {X : Cx} {E0 : XK} {out : List Env} {L C : Addr} {cenv : Env} {e : Value} {s' : Shared} (hst : X.stack = X.env :: out) (hf : X.env.frame = some L) (hp : Passes (CXF X.prog X.w) X E0) (hcf : cenv.frame = X.env.frame) (h : XEC X E0 C e s') :
    notedBy (model X.prog X.w) X.A cenv (fun x s'' => ∃ m, s''.heap.Ns C m ∧ ∀ h', Heap.SameBut C s''.heap h' → ∀ cenv : Env, cenv.locals = C → wpAny (model X.prog X.w) X.A (PySem.passOn "comprehension.variables-let-go" x cenv : Sem Value) (fun _ _ => False) X.xe { s'' with heap := h' }) e s' := by
  obtain ⟨pins, σ, H, s, m, I, fC, ⟨oC, es, ep, hoC, hdC, rC⟩, a, D, t, B, H', rfl, os, bare, un, hok, third, air, na, na', he⟩ := h
  have nC : C ∉ frs X.stack := fun z => by
    rcases List.mem_cons.mp (I.stkSub C z) with y | y
    · exact fC.2.1 y
    · exact fC.2.2.1 y
  have BC : B.get? C = some oC := (third C oC hoC nC).2 fC.1
  have eN : noteFrame (.ref a) cenv = noteFrame (.ref a) X.env := by unfold noteFrame PySem.frameOf; rw [hcf]
  unfold notedBy
  rw [eN]
  rw [hst] at air
  refine air_noteH air (by rw [I.ok.frames, hst]) hf fun h1 a1 u1 b1 => ?_
  rw [← hst] at a1 air
  refine ⟨m, ⟨oC, es, ep, a1.st C oC BC, hdC, rC⟩, fun h2 sb cenv' _ => ?_⟩
  have neB : ∀ b, B.get? b = none → b ≠ C := fun b q z => by rw [z, BC] at q; cases q
  have HC : H' C = none := un.free C oC hoC fC.1 (by simp)
  have hidn : ∀ {G : Heap} {b : Addr}, G.get? b = none → (PySem.W.hideAll G [C]).get? b = none := fun {G b} q => by
    cases z : (PySem.W.hideAll G [C]).get? b with
    | none => rfl
    | some o => have := PySem.W.of_hideAll _ z; rw [q] at this; cases this
  have hidC : ∀ {G : Heap} {b : Addr} {o : Obj}, (PySem.W.hideAll G [C]).get? b = some o → b ≠ C ∧ G.get? b = some o := fun {G b o} q => by
    refine ⟨fun z => ?_, PySem.W.of_hideAll _ q⟩
    rw [z, PySem.W.hideAll_none [C] (by simp)] at q
    cases q
  have a2 : Air (PySem.W.hideAll B [C]) X.stack a D t h2 := by
    refine ⟨fun b o q => (sb.2 b (hidC q).1).trans (a1.st b o (hidC q).2), hidn a1.ne, ff_but (fun b hb => hidn (a1.ff.mem hb).1) (fun b hb o q => (sb.2 b (fun z => nC (z ▸ hb))).trans q) a1.ff, ?_⟩
    obtain ⟨hd, q, hh⟩ := a1.ob
    refine ⟨hd, (sb.2 a (neB a a1.ne)).trans q, ?_⟩
    rcases hh with z | ⟨T, oT, ts, e1, e2, e3, e4, e5⟩
    · exact .inl z
    · exact .inr ⟨T, oT, ts, e1, hidn e2, e3, (sb.2 T (neB T e2)).trans e4, e5⟩
  have b2 : Tb a D t h2 := by
    obtain ⟨T, q⟩ := b1
    exact ⟨T, (sb.2 a (neB a a1.ne)).trans q⟩
  have third2 : ∀ b o, (PySem.W.hideAll s.heap [C]).get? b = some o → b ∉ frs X.stack → (∃ o', (PySem.W.hideAll B [C]).get? b = some o') ∧ (H b = none → (PySem.W.hideAll B [C]).get? b = some o) := fun b o q nf => by
    obtain ⟨n, q'⟩ := hidC q
    obtain ⟨⟨o', e1⟩, e2⟩ := third b o q' nf
    exact ⟨⟨o', PySem.W.hideAll_get _ e1 (by simpa using n)⟩, fun z => PySem.W.hideAll_get _ (e2 z) (by simpa using n)⟩
  have hok2 : HOk X.prog X.w H' (PySem.W.hideAll B [C]) := fun b u q =>
    (hok b u q).stay (fun c v hc qc => PySem.W.hideAll_get _ qc (by
      rcases hc with z | z
      · rw [z]; intro y; rw [List.mem_singleton.mp y, HC] at q; cases q
      · intro y; rw [List.mem_singleton.mp y, HC] at z; cases z)) (fun _ z => z) fun _ _ z => z
  have I2 : Inv X pins σ H { s with heap := PySem.W.hideAll s.heap [C] } := I.turned (t' := s.toks) (it := C) (fun b o n q => PySem.W.hideAll_get _ q (by simpa using n)) fC.1 fC.2.1 fC.2.2.2.1 fC.2.2.2.2.1 fC.2.2.2.2.2
  have un2 : Un (frs X.stack) [] H H' (PySem.W.hideAll s.heap [C]) h2 := by
    refine ⟨fun b o q n nf _ => a2.st b o ((third2 b o q nf).2 n), fun b o q n m' _ => ?_, fun b o q n x => un.free b o (hidC q).2 n x, fun b o q _ => ?_, un.tups, un.frzs, un.tbls⟩
    · obtain ⟨sl2, q2⟩ := un.slot b _ (hidC q).2 n m' (by simp)
      obtain ⟨_, o3, q3, nf⟩ := air.ff.mem m'
      rw [q2] at q3
      cases q3
      obtain ⟨sl3, q4⟩ := u1 b _ q2 nf
      exact ⟨sl3, (sb.2 b (hidC q).1).trans q4⟩
    · by_cases m' : b ∈ frs X.stack
      · obtain ⟨_, o3, q3, nf⟩ := air.ff.mem m'
        obtain ⟨sl3, q4⟩ := u1 b _ q3 nf
        exact ⟨_, (sb.2 b (hidC q).1).trans q4⟩
      · obtain ⟨o2, q2⟩ := (third2 b o q m').1
        exact ⟨o2, a2.st b o2 q2⟩
  refine air_pass (s := { s' with heap := h2 }) a2 b2 fun h3 a3 u3 => ?_
  exact hp pins σ H _ _ _ I2 (fly_same (s' := { s' with heap := h2 }) os bare un2 hok2 third2 a2.ff a3 u3 (hidn na) na' he)
section
variable {X : Cx} {scope : Scope} {own cap : List Str} {ix : List Nat} {tg iter elt : Expr} {ifs : List Expr} {wi : TI} {g : TG} {tt : TT} {te : TE} {pos : Pos}
theorem comp_coreX {pins : List (Addr × Obj)} {σ : St} {H2 : Hp} {s2 : Shared} {it : Addr} {fp : List Addr} {tn : Nat → Heap → Prop} {J : It} {Q : VK} {RR : Value → Addr → Result → Shared → Prop} {E : Value → Shared → Prop}
    {E0 : XK} (B : BlkOk X scope own cap ix) (hc : X.calm = true)
    (hb : ∀ C fp s H, Passes (CXF X.prog X.w) (cxCX X E0 scope C (own ++ cap) fp s H) E0 → PG (cxCX X E0 scope C (own ++ cap) fp s H) tg g ∧ PIfs (cxCX X E0 scope C (own ++ cap) fp s H) ifs tt ∧ PE (cxCX X E0 scope C (own ++ cap) fp s H) elt te)
    (I2 : Inv X pins σ H2 s2) (T : Turn X.prog X.w X.K tg J fp it tn) (st2 : tn 0 s2.heap) (f2 : ∀ b ∈ fp, FpOk X pins H2 b)
    (q : ∀ acc, H2 acc = none → tCompN g tt te J acc (blkσ own.length ix σ) H2 Q)
    (hRR : ∀ D C H' s' m, Inv X pins σ H' s' → Q (.ref D) H' → s'.heap.Ns C m → FpOk X pins H' C → RR (.ref D) C (.ok .next) s')
    (hRX : ∀ D C cenv e s', cenv.frame = X.env.frame → XEC X E0 C e s' → notedBy (model X.prog X.w) X.A cenv (fun x s' => RR (.ref D) C (.error x) s') e s') :
    wpAny (model X.prog X.w) X.A (newList []) (fun acc s₃ => wpAny (model X.prog X.w) X.A (newFunctionEnv scope X.env.globals (cloF X.env scope.names []) [] X.env.qual none .none (some X.env)) (fun cenv s₄ =>
      codeAny (model X.prog X.w) X.A (.compStart (.ListComp elt [⟨tg, iter, ifs, 0⟩] scope pos) 0 (.ref it) acc { cenv with scope := relabel scope X.env }) (RR acc cenv.locals) s₄) E s₃) E s2 := by
  refine wpAny_newObj_type (newEnv_comp ?_)
  have I3 : Inv X pins σ (upd H2 s2.heap.objs.size (.lst [])) { s2 with heap := s2.heap.push { cls := .type "list", dict := none, data := .seq ([] : List Value).toArray } } := I2.lnew (its := []) (ys := []) (t' := s2.toks) .nil (Nat.zero_le _)
  obtain ⟨W, ⟨m0, w0⟩, turn⟩ := q s2.heap.objs.size I2.fresh
  generalize hD : s2.heap.objs.size = D at I3 w0 turn ⊢
  have hlt : ∀ b ∈ fp, b < D := fun b hbm => by
    obtain ⟨o, e, _⟩ := T.obj 0 _ st2 b hbm
    rw [← hD]; exact Heap.lt_size e
  generalize hs3 : ({ s2 with heap := s2.heap.push { cls := .type "list", dict := none, data := .seq ([] : List Value).toArray } } : Shared) = s3 at I3 ⊢
  have keep3 : ∀ b o, s2.heap.get? b = some o → s3.heap.get? b = some o := fun b o e => by rw [← hs3]; exact Heap.get?_push_of_some _ e
  have f3 : ∀ b ∈ fp, FpOk X pins (upd H2 D (.lst [])) b := fun b hbm => ⟨by rw [upd_ne (Nat.ne_of_lt (hlt b hbm))]; exact (f2 b hbm).1, (f2 b hbm).2⟩
  have o3 : ∀ b ∈ fp, ∃ o, s3.heap.get? b = some o := fun b hbm => let ⟨o, e, _⟩ := T.obj 0 _ st2 b hbm; ⟨o, keep3 b o e⟩
  have I4 := (I3.block B f3 o3).xeX (E0 := E0)
  have st4 : tn 0 (pushCells (s3.heap.push { cls := .type "dict", data := .dict #[] }) scope.names) := T.keep 0 _ _ st2 fun b _ o e => pushCells_keeps _ _ b o (Heap.get?_push_of_some _ (keep3 b o e))
  have pass : Passes (CXF X.prog X.w) (cxCX X E0 scope s3.heap.objs.size (own ++ cap) fp s3 (upd H2 D (.lst []))) E0 := fun pins' σ' H' s' e s'' I' h' => by
    have J' : Inv X pins σ H' s' := I3.call' (ch := fp) I'.os I'.base I'.hok I'.bare fun b hbm => ⟨(f3 b hbm).2.2.2.1, (f3 b hbm).2.1, (f3 b hbm).2.2.2.2.1, (f3 b hbm).2.2.2.2.2⟩
    obtain ⟨m', hn', _⟩ := I'.loc
    exact ⟨pins, σ, H', s', m', J', I3.fpOk (Nat.le_refl _) I'.free, hn', h'⟩
  obtain ⟨hg, hif, he⟩ := hb s3.heap.objs.size fp s3 (upd H2 D (.lst [])) pass
  generalize hX' : cxCX X E0 scope s3.heap.objs.size (own ++ cap) fp s3 (upd H2 D (.lst [])) = X' at I4 hg hif he
  have eP : X'.prog = X.prog := by rw [← hX']; rfl
  have eW : X'.w = X.w := by rw [← hX']; rfl
  have eK : X'.K = X.K := by rw [← hX']; rfl
  have eA : X'.A = X.A := by rw [← hX']; rfl
  have eE : X'.env = compE scope s3.heap.objs.size X.env := by rw [← hX']; rfl
  have ex : X'.xe = XEC X E0 s3.heap.objs.size := by rw [← hX']; rfl
  have hc' : X'.calm = true := by rw [← hX']; exact hc
  have stat : ∀ {H' : Hp}, (∀ b ∈ fp, H' b = none) → ∀ b ∈ fp, FpOk X' [] H' b := fun hn b hbm => by
    subst hX'
    exact ⟨hn b hbm, (I4.ok.exf b hbm).1, I4.ok.exfs b hbm, .inl hbm, (I4.ok.exf b hbm).2, fun p hp => absurd (show p ∈ ([] : List (Addr × Obj)) from hp) (by simp)⟩
  have loop : ∀ s4 : Shared, s4 = { s3 with heap := pushCells (s3.heap.push { cls := .type "dict", data := .dict #[] }) scope.names } →
      codeAny (model X.prog X.w) X.A (.compLoop (.ListComp elt [⟨tg, iter, ifs, 0⟩] scope pos) 0 (.ref it) (.ref D) (compE scope s3.heap.objs.size X.env)) (RR (.ref D) s3.heap.objs.size) s4 := by
    rintro s4 rfl
    refine comp_loopX (XE := XEC X E0 s3.heap.objs.size) (fun n s' => ∃ i σ' H', Inv X' [] σ' H' s' ∧ tn i s'.heap ∧ (∀ b ∈ fp, H' b = none) ∧ W i n σ' H') (fun x s' h => hRX D _ (compE scope s3.heap.objs.size X.env) x s' rfl h) ?_ m0 ⟨0, _, _, I4, st4, fun b hbm => (f3 b hbm).1, w0⟩
    rintro n s5 ⟨i, σ5, H5, I5, st5, fr5, w5⟩
    rcases turn i n σ5 H5 w5 with ⟨stop, qn⟩ | ⟨go, N, hN, step⟩
    · have := T.done X' eP eW eK hc' i [] s5 σ5 H5 (XEC X E0 s3.heap.objs.size) I5 (stat fr5) st5 stop
      rw [eA] at this
      refine thn this fun r s6 ⟨hr, I6⟩ => ?_
      subst hr
      subst hX'
      have J6 : Inv X pins σ H5 s6 := I3.call' (ch := fp) I6.os I6.base I6.hok I6.bare fun b hbm => ⟨(f3 b hbm).2.2.2.1, (f3 b hbm).2.1, (f3 b hbm).2.2.2.2.1, (f3 b hbm).2.2.2.2.2⟩
      obtain ⟨m, hn, _⟩ := I6.loc
      exact hRR D _ H5 s6 m J6 qn hn (I3.fpOk (Nat.le_refl _) I6.free)
    · have := T.item X' eP eW eK hc' i [] s5 σ5 H5 (XEC X E0 s3.heap.objs.size) I5 (stat fr5) st5 go
      rw [eA] at this
      refine thn this fun r s6 ⟨u, hr, h6⟩ => ?_
      subst hr
      refine thn h6 fun _ s7 ⟨x, H7, I7, r7, y7, st7, fr7⟩ => ?_
      have I7' := I7.pinned (stat fr7) (T.obj _ _ st7)
      have a1 := hg _ s7 σ5 H7 x u _ I7' r7 (step x H7 y7)
      rw [eP, eW, eA, eE, ex] at a1
      refine thn a1 fun _ s8 ⟨σ8, H8, I8, q8⟩ => ?_
      have a2 := hif _ s8 σ8 H8 _ I8 q8
      rw [eP, eW, eA, eE, ex] at a2
      refine thn a2 fun b s9 ⟨H9, I9, q9⟩ => ?_
      have again : ∀ {s' : Shared} {σ' : St} {H' : Hp}, Inv X' ([] ++ pinsAt fp s7.heap) σ' H' s' → N σ' H' → ∃ m, m < n ∧ ∃ i σ' H', Inv X' [] σ' H' s' ∧ tn i s'.heap ∧ (∀ b ∈ fp, H' b = none) ∧ W i m σ' H' := fun {s' σ' H'} I' n' => by
        obtain ⟨m', hm, w'⟩ := hN σ' H' n'
        refine ⟨m', hm, i + 1, σ', H', I'.unpinned, T.keep _ _ _ st7 fun b hbm o e => (I'.pin (b, o) (List.mem_append_right _ (List.mem_append_right _ (mem_pinsAt hbm e)))).1, fun b hbm => ?_, w'⟩
        obtain ⟨o, e, d⟩ := T.obj _ _ st7 b hbm
        exact (I'.pin (b, o) (List.mem_append_right _ (List.mem_append_right _ (mem_pinsAt hbm e)))).2.1
      cases b with
      | false => exact again I9 q9
      | true =>
        rw [if_pos rfl] at q9 ⊢
        have a3 := he _ s9 σ8 H9 _ I9 q9
        rw [eP, eW, eA, eE, ex] at a3
        refine thn a3 fun yv s10 ⟨y, H10, I10, r10, ys, hys, hz, q10⟩ => ?_
        have a4 := mt_append (X := X') _ s10 σ8 H10 (.ref D) [y] (.ref D) [yv] (fun v H' => v = .non ∧ N σ8 H') I10 rfl (.cons r10 .nil) ⟨D, ys, y, rfl, rfl, hys, hz, rfl, q10⟩
        rw [eP, eW, eA, ex] at a4
        refine thn a4 fun _ s11 ⟨_, H11, I11, _, _, q11⟩ => again I11 q11
  exact codeAny_compStart_list (loop _ rfl) (T.self X.A 0 _ _ _ st4 (loop _ rfl))
theorem ps_setCX {i : Nat} {y : Str} {py spos : Pos} (hN : X.N.Nodup) (hiN : X.N[i]? = some y) (hx : X.env.scope.names.lookup y = some .local) {E0 : XK} {out : List Env} {L : Addr} (hst : X.stack = X.env :: out) (hfr : X.env.frame = some L) (hpx : Passes (CXF X.prog X.w) X E0) (B : BlkOk X scope own cap ix) (hc : X.calm = true) (hi : PI X tg iter wi)
    (hb : ∀ C fp s H, Passes (CXF X.prog X.w) (cxCX X E0 scope C (own ++ cap) fp s H) E0 → PG (cxCX X E0 scope C (own ++ cap) fp s H) tg g ∧ PIfs (cxCX X E0 scope C (own ++ cap) fp s H) ifs tt ∧ PE (cxCX X E0 scope C (own ++ cap) fp s H) elt te)
    (hsw : swapsWith (.ListComp elt [⟨tg, iter, ifs, 0⟩] scope pos) (some (.Name y py)) spos.line X.env = pure true := by rfl)
    (hs : ∀ x, foldedSetIterable iter X.env x = pure x := by intro _; rfl) : PS X (.Assign [.Name y py] (.ListComp elt [⟨tg, iter, ifs, 0⟩] scope pos) spos) (tAsg (tComp wi g tt te own.length ix) (gName i)) := by
  intro pins s σ H D I h
  rw [exec_Assign_Name_used _ _ _ _ hsw]
  have has : ∀ x ∈ scope.names, x.2 = .free → (X.env.cells.lookup x.1).isSome = true := fun x hx hk => by
    obtain ⟨c, e⟩ := I.ok.has x.1 (B.frees x hx hk)
    rw [e]; rfl
  refine wpAny_bind (wpAny_standAt (wpAny_bind ?_))
  show wpAny _ X.A (do let _ ← comprehension (.ListComp elt [⟨tg, iter, ifs, 0⟩] scope pos) scope X.env _ (newList []) false (eval iter X.env) (some (assign (.Name y py) X.env))) _ _ s
  refine wpAny_bind (wpAny_mono (wpAny_comprehension_free (use := some (assign (.Name y py) X.env)) (Q := fun _ s' => SP X pins D .next s') rfl hs (closureFor_cells has) B.kind B.names ?_) (fun _ s' hq => wpAny_pure (wpAny_pure hq)) fun _ _ e => e)
  refine thn (hi pins s σ H _ I h) fun v s1 h1 => thn h1 fun itv s2 h2 => ?_
  obtain ⟨it, fp, tn, J, H2, e, I2, T, st2, f2, q⟩ := h2
  subst e
  refine comp_coreX (RR := fun acc C => compPost (model X.prog X.w) X.A X.xe (some (assign (.Name y py) X.env)) (fun _ s' => SP X pins D .next s') acc C) B hc hb I2 T st2 f2 q ?_ (fun D C cenv e s' hcf h => xec_out hst hfr hpx hcf h)
  intro Da C H' s' m I' q' hn fC
  show wpAny _ X.A (assign (.Name y py) X.env (.ref Da)) _ _ s'
  obtain ⟨oC, es, ep, hoC, hdC, r⟩ := id hn
  have Ip : Inv X (pins ++ [(C, oC)]) σ H' s' := I'.pins_of fun p hp => by
    rcases List.mem_append.mp hp with z | z
    · exact I'.pin p (List.mem_append_right _ z)
    · obtain rfl : p = (C, oC) := by simpa using z
      exact ⟨hoC, fC.1, fC.2.1, fC.2.2.1, fun v e => by rw [hdC] at e; cases e⟩
  refine wpAny_assign_Name (store_ok Ip hN hiN (.inl hx) (v := .ref Da) rfl (fun s'' I'' => ?_) (.inr hx))
  have pC := (I''.pin (C, oC) (List.mem_append_right _ (List.mem_append_right _ (by simp)))).1
  refine ⟨m, ⟨oC, es, ep, pC, hdC, r⟩, fun h' hsb => ⟨_, H', ?_, q'⟩⟩
  exact I''.unpinned.turned (t' := s''.toks) (it := C) (fun b o hbC e => (hsb.2 b hbC).trans e) fC.1 fC.2.1 fC.2.2.2.1 fC.2.2.2.2.1 fC.2.2.2.2.2
end
end L2
set_option Elab.async false
set_option linter.all false
set_option maxRecDepth 100000
set_option maxHeartbeats 2000000
namespace PySem
abbrev IsTri (h : Heap) (T : Addr) (a b c : Value) : Prop := h.get? T = some { cls := .type "tuple", data := .seq #[a, b, c] }
theorem upd_tri {prog : Program} {w : World} {A : Around} {E : Value → Shared → Prop} {s : Shared} {T : Addr} {a b c x : Value} {k : Nat} {Q : Unit → Shared → Prop} (hT : IsTri s.heap T a b c)
    (q : ∀ g, g.get? T = some { cls := .type "tuple", data := .seq ((#[a, b, c] : Array Value).setIfInBounds k x) } → Heap.SameBut T s.heap g → Q () { s with heap := g }) : wpAny (model prog w) A (updateSeq T (·.setIfInBounds k x)) Q E s := by
  have e : (s.heap.update T (Obj.mapSeq (·.setIfInBounds k x))).get? T = some { cls := .type "tuple", data := .seq ((#[a, b, c] : Array Value).setIfInBounds k x) } := by
    rw [Heap.get?_update_self _ hT rfl, Obj.mapSeq.eq_1, if_pos (by simp)]
  refine wpAny_updateSeq hT rfl (q _ e (Heap.SameBut.update _ _ _)) ?_ ?_
  · show 3 ≤ sizeLine; decide
  · rw [Array.size_setIfInBounds]; show 3 ≤ sizeLine + 1; decide
structure Z3 (z TI TO i1 i2 i3 l1 l2 l3 : Addr) : Prop where
  TIz : TI ≠ z
  TOz : TO ≠ z
  i1z : i1 ≠ z
  i2z : i2 ≠ z
  i3z : i3 ≠ z
  TITO : TI ≠ TO
  TIi1 : TI ≠ i1
  TIi2 : TI ≠ i2
  TIi3 : TI ≠ i3
  TOi1 : TO ≠ i1
  TOi2 : TO ≠ i2
  TOi3 : TO ≠ i3
  i12 : i1 ≠ i2
  i13 : i1 ≠ i3
  i23 : i2 ≠ i3
  l1z : l1 ≠ z
  l2z : l2 ≠ z
  l2TO : l2 ≠ TO
  l2i1 : l2 ≠ i1
  l3z : l3 ≠ z
  l3TO : l3 ≠ TO
  l3i1 : l3 ≠ i1
  l3i2 : l3 ≠ i2
section
variable {prog : Program} {w : World} {A : Around} {E : Value → Shared → Prop} {s : Shared} {z TI TO i1 i2 i3 l1 l2 l3 : Addr} {k1 k2 k3 : Nat} {xs ys us : Array Value} {x y u a b c : Value}
theorem zip3_next {Q : Value → Shared → Prop} (D : Z3 z TI TO i1 i2 i3 l1 l2 l3) (hz : IsZip s.heap z TI TO .none) (pI : IsTri s.heap TI (.ref i1) (.ref i2) (.ref i3)) (pO : IsTri s.heap TO a b c)
    (t1 : s.heap.IsTupleIter i1 l1 k1) (t2 : s.heap.IsTupleIter i2 l2 k2) (t3 : s.heap.IsTupleIter i3 l3 k3) (u1 : s.heap.IsTuple l1 xs) (u2 : s.heap.IsTuple l2 ys) (u3 : s.heap.IsTuple l3 us) (hx : xs[k1]? = some x) (hy : ys[k2]? = some y) (hu : us[k3]? = some u)
    (q : ∀ g, IsZip g z TI TO (rawInt s.heap.objs.size) → IsTri g TO x y u → g.IsTupleIter i1 l1 (k1 + 1) → g.IsTupleIter i2 l2 (k2 + 1) → g.IsTupleIter i3 l3 (k3 + 1) → IsTri g s.heap.objs.size x y u →
      (∀ c o, c ≠ z → c ≠ TO → c ≠ i1 → c ≠ i2 → c ≠ i3 → s.heap.get? c = some o → g.get? c = some o) → Q (.ref s.heap.objs.size) { s with heap := g }) :
    wpAny (model prog w) A (Builtin.«zip.__next__» ⟨[.ref z], []⟩) (fun fin s' => ∃ v, fin = .done (.ret v) ∧ Q v s') E s := by
  show wpAny _ _ (field (.ref z) 2 >>= _) _ _ _; refine wpAny_bind (wpAny_field hz rfl (x := .bool false) rfl ?_)
  show wpAny _ _ (field (.ref z) 3 >>= _) _ _ _; refine wpAny_bind (wpAny_field hz rfl (x := .ref TI) rfl (wpAny_bind (wpAny_seqItems pI rfl ?_)))
  show wpAny _ _ (Builtin.SmallTypes.ownedTupleIsFree (.ref z) >>= _) _ _ _; refine wpAny_bind ?_; unfold Builtin.SmallTypes.ownedTupleIsFree
  refine wpAny_bind (wpAny_field hz rfl (x := .none) rfl (wpAny_pure ?_)); simp only [if_true]
  refine wpAny_bind (wpAny_rule (wpAny_bind (wpAny_field hz rfl (x := .ref TO) rfl ?_)))
  refine wpAny_bind (wpAny_setField_rec hz (by simp) fun g1 z1 b1 => ?_); replace z1 : IsZip g1 z TI TO .ellipsis := z1; refine wpAny_bind ?_
  simp only [List.zipIdx_cons, List.zipIdx_nil, List.forIn_cons, List.forIn_nil]; refine wpAny_bind (wpAny_bind (wpAny_onRaise ?_))
  show wpAny _ _ (Builtin.SmallTypes.nextOf (.ref i1) >>= _) _ _ _; refine wpAny_bind (nextOf_tup_item (tit_but t1 b1.extBut D.i1z) (tup_but u1 b1.extBut D.l1z) hx fun g2 n1 b2 => wpAny_pure ?_)
  have o2 : IsTri g2 TO a b c := b2.extBut _ _ D.TOi1 (b1.extBut _ _ D.TOz pO)
  refine wpAny_bind (wpAny_seqItems o2 rfl (wpAny_bind (upd_tri o2 fun g3 o3 b3 => wpAny_bind (wpAny_letGo (wpAny_pure ?_)))))
  replace o3 : IsTri g3 TO x b c := o3
  refine wpAny_bind (wpAny_bind (wpAny_onRaise ?_)); show wpAny _ _ (Builtin.SmallTypes.nextOf (.ref i2) >>= _) _ _ _
  refine wpAny_bind (nextOf_tup_item (tit_but (tit_but (tit_but t2 b1.extBut D.i2z) b2.extBut D.i12.symm) b3.extBut D.TOi2.symm) (tup_but (tup_but (tup_but u2 b1.extBut D.l2z) b2.extBut D.l2i1) b3.extBut D.l2TO) hy fun g4 n2 b4 => wpAny_pure ?_)
  have o4 : IsTri g4 TO x b c := b4.extBut _ _ D.TOi2 o3
  refine wpAny_bind (wpAny_seqItems o4 rfl (wpAny_bind (upd_tri o4 fun g5 o5 b5 => wpAny_bind (wpAny_letGo (wpAny_pure ?_)))))
  replace o5 : IsTri g5 TO x y c := o5
  refine wpAny_bind (wpAny_bind (wpAny_onRaise ?_)); show wpAny _ _ (Builtin.SmallTypes.nextOf (.ref i3) >>= _) _ _ _
  refine wpAny_bind (nextOf_tup_item (tit_but (tit_but (tit_but (tit_but (tit_but t3 b1.extBut D.i3z) b2.extBut D.i13.symm) b3.extBut D.TOi3.symm) b4.extBut D.i23.symm) b5.extBut D.TOi3.symm) (tup_but (tup_but (tup_but (tup_but (tup_but u3 b1.extBut D.l3z) b2.extBut D.l3i1) b3.extBut D.l3TO) b4.extBut D.l3i2) b5.extBut D.l3TO) hu fun g6 n3 b6 => wpAny_pure ?_)
  have o6 : IsTri g6 TO x y c := b6.extBut _ _ D.TOi3 o5
  refine wpAny_bind (wpAny_seqItems o6 rfl (wpAny_bind (upd_tri o6 fun g7 o7 b7 => wpAny_bind (wpAny_letGo (wpAny_pure (wpAny_pure ?_))))))
  replace o7 : IsTri g7 TO x y u := o7
  refine wpAny_bind (wpAny_seqItems o7 rfl (wpAny_bind (wpAny_newTuple ?_)))
  have sz : g7.objs.size = s.heap.objs.size := by rw [b7.1, b6.1, b5.1, b4.1, b3.1, b2.1, b1.1]
  have z7 : IsZip g7 z TI TO .ellipsis := b7.extBut _ _ D.TOz.symm (b6.extBut _ _ D.i3z.symm (b5.extBut _ _ D.TOz.symm (b4.extBut _ _ D.i2z.symm (b3.extBut _ _ D.TOz.symm (b2.extBut _ _ D.i1z.symm z1)))))
  have k7 : ∀ c o, c ≠ z → c ≠ TO → c ≠ i1 → c ≠ i2 → c ≠ i3 → s.heap.get? c = some o → g7.get? c = some o := fun c o e1 e2 e3 e4 e5 e => b7.extBut _ _ e2 (b6.extBut _ _ e5 (b5.extBut _ _ e2 (b4.extBut _ _ e4 (b3.extBut _ _ e2 (b2.extBut _ _ e3 (b1.extBut _ _ e1 e))))))
  have m1 : g7.IsTupleIter i1 l1 (k1 + 1) := tit_but (tit_but (tit_but (tit_but (tit_but n1 b3.extBut D.TOi1.symm) b4.extBut D.i12) b5.extBut D.TOi1.symm) b6.extBut D.i13) b7.extBut D.TOi1.symm
  have m2 : g7.IsTupleIter i2 l2 (k2 + 1) := tit_but (tit_but (tit_but n2 b5.extBut D.TOi2.symm) b6.extBut D.i23) b7.extBut D.TOi2.symm
  have m3 : g7.IsTupleIter i3 l3 (k3 + 1) := tit_but n3 b7.extBut D.TOi3.symm
  have zlt : z < g7.objs.size := Heap.lt_size z7
  show wpAny _ _ (Builtin.SmallTypes.ownedTupleHandOut (.ref z) (.ref g7.objs.size) >>= _) _ _ _; refine wpAny_bind ?_; unfold Builtin.SmallTypes.ownedTupleHandOut
  have z8 : IsZip (g7.push { cls := .type "tuple", data := .seq #[x, y, u] }) z TI TO .ellipsis := Heap.get?_push_of_some _ z7
  refine wpAny_bind (wpAny_setField_rec z8 (by simp) fun g9 z9 b9 => ?_); replace z9 : IsZip g9 z TI TO (rawInt g7.objs.size) := z9
  refine wpAny_setField_rec z9 (by simp) fun gA zA bA => ?_; replace zA : IsZip gA z TI TO (rawInt g7.objs.size) := zA
  have up : ∀ c o, c ≠ z → g7.get? c = some o → gA.get? c = some o := fun c o e1 e => bA.extBut _ _ e1 (b9.extBut _ _ e1 (Heap.get?_push_of_some _ e))
  have pA : IsTri gA g7.objs.size x y u := bA.extBut _ _ (Nat.ne_of_gt zlt) (b9.extBut _ _ (Nat.ne_of_gt zlt) (Heap.get?_push_size _ rfl))
  rw [sz] at zA pA
  refine wpAny_pure ⟨_, rfl, ?_⟩; show Q (.ref g7.objs.size) _; rw [sz]
  exact q gA zA (up _ _ D.TOz o7) (let ⟨o, e, r⟩ := m1; ⟨o, up _ o D.i1z e, r⟩) (let ⟨o, e, r⟩ := m2; ⟨o, up _ o D.i2z e, r⟩) (let ⟨o, e, r⟩ := m3; ⟨o, up _ o D.i3z e, r⟩) pA fun c o e1 e2 e3 e4 e5 e => up c o e1 (k7 c o e1 e2 e3 e4 e5 e)
theorem zip3_stop {Q : Fin → Shared → Prop} (hh : A.handled = none) (D : Z3 z TI TO i1 i2 i3 l1 l2 l3) (hz : IsZip s.heap z TI TO .none) (pI : IsTri s.heap TI (.ref i1) (.ref i2) (.ref i3))
    (t1 : s.heap.IsTupleIter i1 l1 k1) (u1 : s.heap.IsTuple l1 xs) (hx : xs[k1]? = none)
    (q : ∀ g e, (∀ c o, c ≠ z → c ≠ i1 → s.heap.get? c = some o → g.get? c = some o) → (∃ o, g.get? e = some o ∧ o.cls = .type "StopIteration") → E (.ref e) { s with heap := g }) :
    wpAny (model prog w) A (Builtin.«zip.__next__» ⟨[.ref z], []⟩) Q E s := by
  show wpAny _ _ (field (.ref z) 2 >>= _) _ _ _; refine wpAny_bind (wpAny_field hz rfl (x := .bool false) rfl ?_)
  show wpAny _ _ (field (.ref z) 3 >>= _) _ _ _; refine wpAny_bind (wpAny_field hz rfl (x := .ref TI) rfl (wpAny_bind (wpAny_seqItems pI rfl ?_)))
  show wpAny _ _ (Builtin.SmallTypes.ownedTupleIsFree (.ref z) >>= _) _ _ _; refine wpAny_bind ?_; unfold Builtin.SmallTypes.ownedTupleIsFree
  refine wpAny_bind (wpAny_field hz rfl (x := .none) rfl (wpAny_pure ?_)); simp only [if_true]
  refine wpAny_bind (wpAny_rule (wpAny_bind (wpAny_field hz rfl (x := .ref TO) rfl ?_)))
  refine wpAny_bind (wpAny_setField_rec hz (by simp) fun g1 z1 b1 => ?_); replace z1 : IsZip g1 z TI TO .ellipsis := z1; refine wpAny_bind ?_
  simp only [List.zipIdx_cons, List.zipIdx_nil, List.forIn_cons, List.forIn_nil]; refine wpAny_bind (wpAny_bind (wpAny_onRaise ?_))
  show wpAny _ _ (Builtin.SmallTypes.nextOf (.ref i1) >>= _) _ _ _
  refine wpAny_bind (nextOf_tup_end hh (tit_but t1 b1.extBut D.i1z) (tup_but u1 b1.extBut D.l1z) hx fun g2 e b2 ⟨oe, he, ce⟩ => ?_)
  have z2 : IsZip g2 z TI TO .ellipsis := b2 _ _ D.i1z.symm z1
  have ez : e ≠ z := fun h => by subst h; rw [z2] at he; cases he; simp at ce
  exact wpAny_setField_rec z2 (by simp) fun g3 _ b3 => q g3 e (fun c o e1 e3 h => b3.extBut _ _ e1 (b2 _ _ e3 (b1.extBut _ _ e1 h))) ⟨oe, b3.extBut _ _ ez he, ce⟩
theorem pyNext_zip3 {Q : Option Value → Shared → Prop} (D : Z3 z TI TO i1 i2 i3 l1 l2 l3) (hz : IsZip s.heap z TI TO .none) (pI : IsTri s.heap TI (.ref i1) (.ref i2) (.ref i3)) (pO : IsTri s.heap TO a b c)
    (t1 : s.heap.IsTupleIter i1 l1 k1) (t2 : s.heap.IsTupleIter i2 l2 k2) (t3 : s.heap.IsTupleIter i3 l3 k3) (u1 : s.heap.IsTuple l1 xs) (u2 : s.heap.IsTuple l2 ys) (u3 : s.heap.IsTuple l3 us) (hx : xs[k1]? = some x) (hy : ys[k2]? = some y) (hu : us[k3]? = some u)
    (q : ∀ g, IsZip g z TI TO (rawInt s.heap.objs.size) → IsTri g TO x y u → g.IsTupleIter i1 l1 (k1 + 1) → g.IsTupleIter i2 l2 (k2 + 1) → g.IsTupleIter i3 l3 (k3 + 1) → IsTri g s.heap.objs.size x y u →
      (∀ c o, c ≠ z → c ≠ TO → c ≠ i1 → c ≠ i2 → c ≠ i3 → s.heap.get? c = some o → g.get? c = some o) → Q (some (.ref s.heap.objs.size)) { s with heap := g }) : wpAny (model prog w) A (pyNext (.ref z)) Q E s := by
  have ty : s.TypeIs (.ref z) "zip" := ⟨_, hz, rfl⟩
  unfold pyNext
  exact wpAny_bind (wpAny_attempt (wpAny_callSpecial?_slot (name := Str.ofString "__next__") ty F.slot_zip_next (wpAny_call_entry F.slot_zip_next ty F.entry_zip_next
    (zip3_next D hz pI pO t1 t2 t3 u1 u2 u3 hx hy hu fun g a1 a2 a3 a4 a5 a6 a7 => wpAny_pure (q g a1 a2 a3 a4 a5 a6 a7)) (F.args_zip_next_1 _))))
theorem pyNext_zip3_end {Q : Option Value → Shared → Prop} (hh : A.handled = none) (D : Z3 z TI TO i1 i2 i3 l1 l2 l3) (hz : IsZip s.heap z TI TO .none) (pI : IsTri s.heap TI (.ref i1) (.ref i2) (.ref i3))
    (t1 : s.heap.IsTupleIter i1 l1 k1) (u1 : s.heap.IsTuple l1 xs) (hx : xs[k1]? = none)
    (q : ∀ g, (∀ c o, c ≠ z → c ≠ i1 → s.heap.get? c = some o → g.get? c = some o) → Q none { s with heap := g }) : wpAny (model prog w) A (pyNext (.ref z)) Q E s := by
  have ty : s.TypeIs (.ref z) "zip" := ⟨_, hz, rfl⟩
  unfold pyNext
  exact wpAny_bind (wpAny_attempt (wpAny_callSpecial?_slot (name := Str.ofString "__next__") ty F.slot_zip_next (wpAny_call_entry F.slot_zip_next ty F.entry_zip_next
    (zip3_stop hh D hz pI t1 u1 hx fun g e hk ⟨o, ho, hc⟩ => wpAny_bind (wpAny_isInstance (T := "StopIteration") (b := true) ⟨o, ho, hc⟩ isSubtype_stop (wpAny_pure (q _ hk)))) (F.args_zip_next_1 _))))
end
abbrev z3A (h : Heap) (l1 : Addr) : Heap := h.push { cls := .type "tuple_iterator", data := .fields #[.ref l1, .int 0 0] }
abbrev z3B (h : Heap) (l1 l2 : Addr) : Heap := (z3A h l1).push { cls := .type "tuple_iterator", data := .fields #[.ref l2, .int 0 0] }
abbrev z3C (h : Heap) (l1 l2 l3 : Addr) : Heap := (z3B h l1 l2).push { cls := .type "tuple_iterator", data := .fields #[.ref l3, .int 0 0] }
abbrev z3D (h : Heap) (l1 l2 l3 : Addr) : Heap := (z3C h l1 l2 l3).push { cls := .type "tuple", data := .seq #[.ref h.objs.size, .ref (z3A h l1).objs.size, .ref (z3B h l1 l2).objs.size] }
abbrev z3E (h : Heap) (l1 l2 l3 : Addr) : Heap := (z3D h l1 l2 l3).push { cls := .type "tuple", data := .seq #[.none, .none, .none] }
abbrev z3F (h : Heap) (l1 l2 l3 : Addr) : Heap := (z3E h l1 l2 l3).push { cls := .type "zip", data := .fields #[.none, .bool false, .bool false, .ref (z3C h l1 l2 l3).objs.size, .ref (z3D h l1 l2 l3).objs.size] }
theorem meets_zip3 (l1 l2 l3 : Addr) (xs ys us : Array Value) : Meets (Builtin.«zip.__new__» ⟨[.type "zip", .ref l1, .ref l2, .ref l3], []⟩) (fun _ R s => s.heap.IsTuple l1 xs ∧ s.heap.IsTuple l2 ys ∧ s.heap.IsTuple l3 us ∧ R (.ok (.ret (.ref (z3E s.heap l1 l2 l3).objs.size))) { s with heap := z3F s.heap l1 l2 l3 }) :=
  .of_wp fun prog w A R s h => by
    obtain ⟨hp, g, d, tk, os⟩ := s; obtain ⟨v1, v2, v3, h⟩ := h
    have hsub := sub_zip
    have w1 : Heap.IsTuple (Shared.heap ⟨hp, g, d, tk, os⟩) l1 xs := v1
    have w2 : Heap.IsTuple (Shared.heap ⟨z3A hp l1, g, d, tk, os⟩) l2 ys := let ⟨o, e, r⟩ := v2; ⟨o, Heap.get?_push_of_some _ e, r⟩
    have w3 : Heap.IsTuple (Shared.heap ⟨z3B hp l1 l2, g, d, tk, os⟩) l3 us := let ⟨o, e, r⟩ := v3; ⟨o, Heap.get?_push_of_some _ (Heap.get?_push_of_some _ e), r⟩
    wp_walk using wpAny_pyIter_tuple w1, wpAny_pyIter_tuple w2, wpAny_pyIter_tuple w3
    exact ⟨_, rfl, h⟩
theorem typeCall_zip_3 (a b c : Value) : checkTypeCall "zip" { pos := [a, b, c] } = pure () := by first | rfl | kernel_rfl | decide +kernel
theorem newCall_zip_3 (a b c : Value) : checkBuiltinCall "zip.__new__" { pos := [Value.type "zip", a, b, c] } = pure () := by first | rfl | kernel_rfl | decide +kernel
theorem args_object_init_4 (a b c d : Value) : argsOk "object.__init__" { pos := [a, b, c, d] } := by first | rfl | kernel_rfl | exact fun _ => rfl | decide +kernel
theorem call_zip3 {prog : Program} {w : World} {A : Around} {E : Value → Shared → Prop} {s : Shared} {l1 l2 l3 : Addr} {xs ys us : Array Value} {Q : Value → Shared → Prop} (v1 : s.heap.IsTuple l1 xs) (v2 : s.heap.IsTuple l2 ys) (v3 : s.heap.IsTuple l3 us)
    (q : ∀ g, IsZip g (s.heap.objs.size + 5) (s.heap.objs.size + 3) (s.heap.objs.size + 4) .none → IsTri g (s.heap.objs.size + 3) (.ref s.heap.objs.size) (.ref (s.heap.objs.size + 1)) (.ref (s.heap.objs.size + 2)) → IsTri g (s.heap.objs.size + 4) .none .none .none →
      g.IsTupleIter s.heap.objs.size l1 0 → g.IsTupleIter (s.heap.objs.size + 1) l2 0 → g.IsTupleIter (s.heap.objs.size + 2) l3 0 → (∀ c o, s.heap.get? c = some o → g.get? c = some o) → Q (.ref (s.heap.objs.size + 5)) { s with heap := g }) : wpAny (model prog w) A (call (.type "zip") [.ref l1, .ref l2, .ref l3]) Q E s := by
  refine callType_new F.called_zip (by decide) (typeCall_zip_3 _ _ _) (newCall_zip_3 _ _ _) (fun obj => args_object_init_4 obj _ _ _) F.entry_zip_new (meets_zip3 l1 l2 l3 xs ys us) ⟨v1, v2, v3, ?_⟩
  have e1 : (z3A s.heap l1).objs.size = s.heap.objs.size + 1 := Heap.size_push ..
  have e2 : (z3B s.heap l1 l2).objs.size = s.heap.objs.size + 2 := by rw [Heap.size_push, e1]
  have e3 : (z3C s.heap l1 l2 l3).objs.size = s.heap.objs.size + 3 := by rw [Heap.size_push, e2]
  have e4 : (z3D s.heap l1 l2 l3).objs.size = s.heap.objs.size + 4 := by rw [Heap.size_push, e3]
  have e5 : (z3E s.heap l1 l2 l3).objs.size = s.heap.objs.size + 5 := by rw [Heap.size_push, e4]
  have p6 : (z3F s.heap l1 l2 l3).get? (z3E s.heap l1 l2 l3).objs.size = some _ := Heap.get?_push_size _ rfl
  have p5 : (z3F s.heap l1 l2 l3).get? (z3D s.heap l1 l2 l3).objs.size = some _ := Heap.get?_push_of_some _ (Heap.get?_push_size _ rfl)
  have p4 : (z3F s.heap l1 l2 l3).get? (z3C s.heap l1 l2 l3).objs.size = some _ := Heap.get?_push_of_some _ (Heap.get?_push_of_some _ (Heap.get?_push_size _ rfl))
  have p3 : (z3F s.heap l1 l2 l3).get? (z3B s.heap l1 l2).objs.size = some _ := Heap.get?_push_of_some _ (Heap.get?_push_of_some _ (Heap.get?_push_of_some _ (Heap.get?_push_size _ rfl)))
  have p2 : (z3F s.heap l1 l2 l3).get? (z3A s.heap l1).objs.size = some _ := Heap.get?_push_of_some _ (Heap.get?_push_of_some _ (Heap.get?_push_of_some _ (Heap.get?_push_of_some _ (Heap.get?_push_size _ rfl))))
  have p1 : (z3F s.heap l1 l2 l3).get? s.heap.objs.size = some _ := Heap.get?_push_of_some _ (Heap.get?_push_of_some _ (Heap.get?_push_of_some _ (Heap.get?_push_of_some _ (Heap.get?_push_of_some _ (Heap.get?_push_size _ rfl)))))
  show _ ∧ _; rw [e3, e4, e5] at p6; rw [e1, e2, e3] at p4; rw [e4] at p5; rw [e2] at p3; rw [e1] at p2; rw [e5]
  exact ⟨⟨_, p6, rfl⟩, q _ p6 p4 p5 ⟨_, p1, rfl, rfl⟩ ⟨_, p2, rfl, rfl⟩ ⟨_, p3, rfl, rfl⟩ fun c o h => Heap.get?_push_of_some _ (Heap.get?_push_of_some _ (Heap.get?_push_of_some _ (Heap.get?_push_of_some _ (Heap.get?_push_of_some _ (Heap.get?_push_of_some _ h)))))⟩
end PySem
namespace L2
open PySem PySem.Spec PyProof.Rows
section
variable {X : Cx}
def It3 (K : PySem.W.Frag) (a b c : Addr) : It :=
  ⟨fun i H => ∃ xs ys us x y u, SqT K H a xs ∧ SqT K H b ys ∧ SqT K H c us ∧ xs[i]? = some x ∧ ys[i]? = some y ∧ us[i]? = some u,
   fun i H v H' => ∃ p, H p = none ∧ v = .ref p ∧ ∀ xs ys us, SqT K H a xs → SqT K H b ys → SqT K H c us → ∃ x y u, xs[i]? = some x ∧ ys[i]? = some y ∧ us[i]? = some u ∧ H' = upd H p (.tup [x, y, u]),
   fun i H => ∃ xs, SqT K H a xs ∧ xs.length ≤ i⟩
theorem turn_zip3 {P : Program} {w : World} {K : PySem.W.Frag} {elts : List Expr} {kk} {pos : Pos} (a b c z TI TO i1 i2 i3 : Addr) (D : Z3 z TI TO i1 i2 i3 a b c) :
    Turn P w K (.Tuple elts kk pos) (It3 K a b c) [z, TI, TO, i1, i2, i3] z (fun i h => IsZip h z TI TO .none ∧ IsTri h TI (.ref i1) (.ref i2) (.ref i3) ∧ (∃ u v t, IsTri h TO u v t) ∧ h.IsTupleIter i1 a i ∧ h.IsTupleIter i2 b i ∧ h.IsTupleIter i3 c i) where
  mem := by simp
  obj := fun i h st c hc => by
    obtain ⟨hz, pI, ⟨u, v, t, pO⟩, ⟨o1, e1, c1, d1⟩, ⟨o2, e2, c2, d2⟩, o3, e3, c3, d3⟩ := st
    simp only [List.mem_cons, List.not_mem_nil, or_false] at hc
    rcases hc with rfl | rfl | rfl | rfl | rfl | rfl
    · exact ⟨_, hz, fun v z => by cases z⟩
    · exact ⟨_, pI, fun v z => by cases z⟩
    · exact ⟨_, pO, fun v z => by cases z⟩
    · exact ⟨o1, e1, fun v z => by rw [d1] at z; cases z⟩
    · exact ⟨o2, e2, fun v z => by rw [d2] at z; cases z⟩
    · exact ⟨o3, e3, fun v z => by rw [d3] at z; cases z⟩
  keep := fun i h h' st k => by
    obtain ⟨hz, pI, ⟨u, v, t, pO⟩, ⟨o1, e1, r1⟩, ⟨o2, e2, r2⟩, o3, e3, r3⟩ := st
    exact ⟨k z (by simp) _ hz, k TI (by simp) _ pI, ⟨u, v, t, k TO (by simp) _ pO⟩, ⟨o1, k i1 (by simp) _ e1, r1⟩, ⟨o2, k i2 (by simp) _ e2, r2⟩, o3, k i3 (by simp) _ e3, r3⟩
  item := by
    intro X hP hw hK hc i pins s σ H E I hf st hg
    subst hP hw hK
    obtain ⟨xs, ys, ws, x, y, t, hq1, hq2, hq3, hx, hy, ht⟩ := hg
    obtain ⟨us, ru, pu, zu⟩ := I.tuple hq1
    obtain ⟨vs, rv, pv, zv⟩ := I.tuple hq2
    obtain ⟨ts, rt, pt, zt⟩ := I.tuple hq3
    obtain ⟨u, hu, rxu⟩ := ru.get hx
    obtain ⟨v, hv, ryv⟩ := rv.get hy
    obtain ⟨r, hr, rtr⟩ := rt.get ht
    obtain ⟨hz, pI, ⟨u0, v0, w0, pO⟩, t1, t2, t3⟩ := st
    refine pyNext_zip3 D hz pI pO t1 t2 t3 (show s.heap.IsTuple a us.toArray from pu) (show s.heap.IsTuple b vs.toArray from pv) (show s.heap.IsTuple c ts.toArray from pt) (x := u) (y := v) (u := r) (by simpa using hu) (by simpa using hv) (by simpa using hr) fun g z1 o1 n1 n2 n3 p1 hk => ?_
    refine ⟨_, rfl, ?_⟩
    refine wpAny_letOwnedTupleGo_zip z1 fun g2 z2 b2 => ?_
    replace b2 : Heap.SameBut z g g2 := b2
    have lt : ∀ {c o}, s.heap.get? c = some o → s.heap.objs.size ≠ c := fun e => Nat.ne_of_gt (Heap.lt_size e)
    have hne : s.heap.objs.size ≠ z := lt hz
    have I1 : Inv X pins σ H { s with heap := g2, toks := s.toks } := I.turnedL (ch := [z, TI, TO, i1, i2, i3]) (fun c o hc q => by
      have c1 : c ≠ z := fun h => hc (by simp [h])
      exact b2.extBut c o c1 (hk c o c1 (fun h => hc (by simp [h])) (fun h => hc (by simp [h])) (fun h => hc (by simp [h])) (fun h => hc (by simp [h])) q)) hf
    have p2 := b2.extBut _ _ hne p1
    have fp : FpOk X pins H s.heap.objs.size := I.fpOk (Nat.le_refl _) I.fresh
    have I2 := I1.track (p := s.heap.objs.size) (o := .tup [x, y, t]) fp ⟨by show 3 ≤ sizeLine; decide, [u, v, r], .cons rxu (.cons ryv (.cons rtr .nil)), ⟨_, p2, rfl, _, rfl⟩⟩
    refine ⟨.ref s.heap.objs.size, _, I2, rfl, ⟨_, I.fresh, rfl, fun ys1 ys2 ys3 h1 h2 h3 => ?_⟩, ⟨z2, b2.extBut _ _ D.TIz (hk _ _ D.TIz D.TITO D.TIi1 D.TIi2 D.TIi3 pI), ⟨_, _, _, b2.extBut _ _ D.TOz o1⟩, tit_but n1 b2.extBut D.i1z, tit_but n2 b2.extBut D.i2z, tit_but n3 b2.extBut D.i3z⟩, fun c hc => ?_⟩
    · rw [I.tuple_inj h1 hq1, I.tuple_inj h2 hq2, I.tuple_inj h3 hq3]; exact ⟨x, y, t, hx, hy, ht, rfl⟩
    · rw [upd_ne]
      · exact (hf c hc).1
      · simp only [List.mem_cons, List.not_mem_nil, or_false] at hc
        rcases hc with rfl | rfl | rfl | rfl | rfl | rfl
        · exact hne.symm
        · exact (lt pI).symm
        · exact (lt pO).symm
        · obtain ⟨_, e, _⟩ := t1; exact (lt e).symm
        · obtain ⟨_, e, _⟩ := t2; exact (lt e).symm
        · obtain ⟨_, e, _⟩ := t3; exact (lt e).symm
  done := by
    intro X hP hw hK hc i pins s σ H E I hf st hg
    subst hP hw hK
    obtain ⟨xs, hq1, hx⟩ := hg
    obtain ⟨us, ru, pu, zu⟩ := I.tuple hq1
    obtain ⟨hz, pI, ⟨u0, v0, w0, pO⟩, t1, t2, t3⟩ := st
    have hl := ru.length
    exact pyNext_zip3_end (I.ok.hd hc) D hz pI t1 (show s.heap.IsTuple a us.toArray from pu) (by simp; omega) fun g hk =>
      ⟨rfl, I.turnedL (t' := s.toks) (ch := [z, TI, TO, i1, i2, i3]) (fun c o hc q => hk c o (fun h => hc (by simp [h])) (fun h => hc (by simp [h])) q) hf⟩
  self := fun A i s Q E st h => wpAny_pyIter_zip st.1 h
def iZip3 (K : PySem.W.Frag) (ta : TA) : TI := fun σ H R => ta σ H fun vs H1 => ∃ a b c, vs = [.ref a, .ref b, .ref c] ∧ (∃ xs, SqT K H1 a xs) ∧ (∃ ys, SqT K H1 b ys) ∧ (∃ us, SqT K H1 c us) ∧ R (It3 K a b c) H1
theorem le_zip3 {K : PySem.W.Frag} {a b c : Addr} : (It3 K a b c).Le (It3 K0 a b c) := ⟨fun i H ⟨xs, ys, us, x, y, u, h1, h2, h3, e⟩ => ⟨xs, ys, us, x, y, u, h1.k0, h2.k0, h3.k0, e⟩, fun i H x H' ⟨p, e1, e2, h⟩ => ⟨p, e1, e2, fun xs ys us h1 h2 h3 => h xs ys us h1.k0 h2.k0 h3.k0⟩, fun i H ⟨xs, h1, e⟩ => ⟨xs, h1.k0, e⟩⟩
end
end L2
set_option Elab.async false
set_option linter.all false
set_option maxRecDepth 100000
set_option maxHeartbeats 2000000
namespace L2
open PySem PySem.Spec PyProof.Rows KG
section
variable {X : Cx}
theorem pi_zip30 {a b c : Expr} {ta : TA} {p pos : Pos} {elts : List Expr} {kk} {tpos : Pos} (hg : Gl X "zip") (hm : X.mg "zip" = none) (hb : bootBuiltins "zip" = some (.type "zip")) (ha : PA X [a, b, c] ta)
    (hs : starEach [a, b, c] X.env = [(false, eval a X.env), (false, eval b X.env), (false, eval c X.env)] := by rfl) (hs2 : starEach [b, c] X.env = [(false, eval b X.env), (false, eval c X.env)] := by rfl) (hs3 : starEach [c] X.env = [(false, eval c X.env)] := by rfl) :
    PI X (.Tuple elts kk tpos) (.Call (.Name "zip" p) [a, b, c] [] pos) (iZip3 K0 ta) := by
  intro pins s σ H R I h
  refine Call_ (ld_blt I hg hm hb (PyProof.Rows.callWith_type1 (thn (ha pos pins s σ H _ I h) fun us s1 ⟨vs, H1, I1, r1, q1⟩ => ?_) (by rw [hs, hs2]) (by rw [hs2]; rfl)))
  obtain ⟨x, y, t, e, ⟨xs, hq1⟩, ⟨ys, hq2⟩, ⟨ws, hq3⟩, q⟩ := q1
  subst e
  cases r1 with
  | cons r rr =>
    cases rr with
    | cons r' rr =>
    cases rr with
    | cons r'' rr =>
      cases rr
      cases r
      cases r'
      cases r''
      obtain ⟨us, ru, pu, zu⟩ := I1.tuple hq1.k0
      obtain ⟨vs, rv, pv, zv⟩ := I1.tuple hq2.k0
      obtain ⟨ts, rt, pt, zt⟩ := I1.tuple hq3.k0
      have a1 : x < s1.heap.objs.size := by obtain ⟨_, e, _⟩ := (show s1.heap.IsTuple x us.toArray from pu); exact Heap.lt_size e
      have a2 : y < s1.heap.objs.size := by obtain ⟨_, e, _⟩ := (show s1.heap.IsTuple y vs.toArray from pv); exact Heap.lt_size e
      have a3 : t < s1.heap.objs.size := by obtain ⟨_, e, _⟩ := (show s1.heap.IsTuple t ts.toArray from pt); exact Heap.lt_size e
      refine call_zip3 (show s1.heap.IsTuple x us.toArray from pu) (show s1.heap.IsTuple y vs.toArray from pv) (show s1.heap.IsTuple t ts.toArray from pt) fun g z0 pI pO n1 n2 n3 hk => ?_
      refine wpAny_pyIter_zip z0 ?_
      generalize hn : s1.heap.objs.size = n at *
      refine ⟨n + 5, [n + 5, n + 3, n + 4, n, n + 1, n + 2], _, It3 K0 x y t, H1, rfl, I1.kept (t' := s1.toks) hk, (turn_zip3 (K := X.K) x y t _ _ _ _ _ _ ?_).le le_zip3, ⟨z0, pI, ⟨_, _, _, pO⟩, n1, n2, n3⟩, fun c hc => ?_, q⟩
      · constructor <;> (intro h; simp only [Addr] at *; omega)
      have hge : n ≤ c := by
        simp only [List.mem_cons, List.not_mem_nil, or_false] at hc
        rcases hc with h | h | h | h | h | h <;> rw [h] <;> first | exact Nat.le_add_right _ _ | exact Nat.le_refl _
      rw [← hn] at hge
      exact I1.fpOk hge (I1.hok.fresh hge)
end
abbrev g3 (K : PySem.W.Frag) : TG := gTup K 3 (gCons (gName 0) (gCons (gName 1) (gCons (gName 2) gNil)))
def S3 (σ₀ σ : St) : Prop := ∀ u v t, ((σ.set 0 u).set 1 v).set 2 t = ((σ₀.set 0 u).set 1 v).set 2 t
theorem S3.of {σ₀ : St} {u v t : Option V} : S3 σ₀ (((σ₀.set 0 u).set 1 v).set 2 t) := fun u' v' t' => by
  match σ₀ with
  | [] => rfl
  | [_] => rfl
  | [_, _] => rfl
  | _ :: _ :: _ :: _ => rfl
def Cn3 (σ₀ : St) (acc : Addr) (P : List V → Hp → Prop) (σ : St) (H : Hp) : Prop := S3 σ₀ σ ∧ ∃ ys, H acc = some (.lst ys) ∧ P ys H
theorem Cn3.of {σ₀ : St} {acc : Addr} {P : List V → Hp → Prop} {u v t : Option V} {H : Hp} {ys : List V} (h : H acc = some (.lst ys)) (p : P ys H) : Cn3 σ₀ acc P (((σ₀.set 0 u).set 1 v).set 2 t) H := ⟨S3.of, ys, h, p⟩
theorem tri_in {K : PySem.W.Frag} {σ₀ σ : St} {H : Hp} {p : Addr} {x y u : V} {Z : St → Hp → Prop} (hσ : S3 σ₀ σ) (hp : H p = none) (h : ∀ H1, Stay H H1 → Z (((σ₀.set 0 (some x)).set 1 (some y)).set 2 (some u)) H1) : g3 K (.ref p) σ (upd H p (.tup [x, y, u])) Z := by
  refine ⟨p, _, rfl, SqT.of upd_same, rfl, _, _, rfl, _, _, rfl, _, _, rfl, rfl, ?_⟩
  show Z (((σ.set 0 (some x)).set 1 (some y)).set 2 (some u)) _
  rw [hσ]
  exact h _ ((Stay.refl H).new hp)
theorem comp_zip3 {K : PySem.W.Frag} {tt : TT} {te : TE} {acc a b c : Addr} {xs ys ws : List V} {σ₀ : St} {H₀ : Hp} {Q : VK} (Pv : Nat → List V → Hp → Prop) (hlen : xs.length = ys.length) (hlen2 : xs.length = ws.length) (h0 : Pv 0 [] (upd H₀ acc (.lst []))) (hl : ∀ (i : Nat) zs H, i ≤ xs.length → H acc = some (.lst zs) → Pv i zs H → SqT K H a xs ∧ SqT K H b ys ∧ SqT K H c ws)
    (hs : ∀ (i : Nat) x y u zs H H1, xs[i]? = some x → ys[i]? = some y → ws[i]? = some u → H acc = some (.lst zs) → Pv i zs H → Stay H H1 → tt (((σ₀.set 0 (some x)).set 1 (some y)).set 2 (some u)) H1 fun b H4 =>
      if b = true then te (((σ₀.set 0 (some x)).set 1 (some y)).set 2 (some u)) H4 fun v H5 => ∃ us, H5 acc = some (.lst us) ∧ us.length < sizeLine ∧ Cn3 σ₀ acc (Pv (i + 1)) (((σ₀.set 0 (some x)).set 1 (some y)).set 2 (some u)) (upd H5 acc (.lst (us ++ [v])))
      else Cn3 σ₀ acc (Pv (i + 1)) (((σ₀.set 0 (some x)).set 1 (some y)).set 2 (some u)) H4)
    (hd : ∀ zs H, H acc = some (.lst zs) → Pv xs.length zs H → Q (.ref acc) H) : tCompN (g3 K) tt te (It3 K a b c) acc σ₀ H₀ Q := by
  refine ⟨fun i m σ H => m = xs.length - i ∧ i ≤ xs.length ∧ Cn3 σ₀ acc (Pv i) σ H, ⟨xs.length, by simp, Nat.zero_le _, fun _ _ _ => rfl, [], upd_same, h0⟩, ?_⟩
  rintro i m σ H ⟨rfl, hi, hσ, zs, hy, p⟩
  obtain ⟨q1, q2, q3⟩ := hl i zs H hi hy p
  by_cases hlt : i < xs.length
  · refine .inr ⟨⟨xs, ys, ws, xs[i], ys[i]'(by omega), ws[i]'(by omega), q1, q2, q3, by simp [hlt], by simp, by simp⟩, Cn3 σ₀ acc (Pv (i + 1)), fun σ' H' c => ⟨xs.length - (i + 1), by omega, rfl, hlt, c⟩, fun v H' y => ?_⟩
    obtain ⟨pp, hp, rfl, hyy⟩ := y
    obtain ⟨x1, y1, u1, hx1, hy1, hu1, rfl⟩ := hyy xs ys ws q1 q2 q3
    exact tri_in hσ hp fun H1 s1 => hs i x1 y1 u1 zs H H1 hx1 hy1 hu1 hy p s1
  · have e : i = xs.length := by omega
    subst e
    exact .inl ⟨⟨xs, q1, Nat.le_refl _⟩, hd zs H hy p⟩
end L2
set_option Elab.async false
set_option linter.all false
set_option maxRecDepth 100000
set_option maxHeartbeats 4000000
namespace KM
open PySem L2 KG EX
def spTot2 : Sp := fun vs H Q _ => ∃ (l : Addr) (ys : List V) (qs : List Rat), vs = [.ref l] ∧ H l = some (.lst ys) ∧ Frs H ys qs ∧ (∀ q ∈ qs, Rb 480 q) ∧ qs.length ≤ 6 ∧ ∀ (r : Addr) (H' : Hp), Stay H H' → H' r = some (qO (sumQ qs)) → Q (.ref r) H'
def spTotT : Sp := fun vs H Q _ => ∃ (l : Addr) (ys : List V) (qs : List Rat), vs = [.ref l] ∧ H l = some (.tup ys) ∧ Frs H ys qs ∧ (∀ q ∈ qs, Rb 480 q) ∧ qs.length ≤ 6 ∧ ∀ (r : Addr) (H' : Hp), Stay H H' → H' r = some (qO (sumQ qs)) → Q (.ref r) H'
theorem rb_worth30 {ns : List Int} {qs : List Rat} (h6 : ns.length ≤ 6) (hn : ∀ n ∈ ns, 0 ≤ n ∧ n ≤ 100) (hq : ∀ q ∈ qs, Rb 30 q) : Rb 229 (worthQ ns qs) := by
  unfold worthQ
  have h := rb_sumQ (k := 37) (qs := (List.range ns.length).map fun g => ((ns.getD g 0 : Int) : Rat) * qs.getD g 0) fun z hz => by
    obtain ⟨g, hg, rfl⟩ := List.mem_map.mp hz
    exact rb_mul (rb_wish (hn _ (mem_getD (List.mem_range.mp hg)))) (rb_getD (by decide) hq g)
  refine h.mono ?_
  rw [List.length_map, List.length_range]
  omega
def worthsQ (M : List (List Int)) (D : List (List Rat)) (n : Nat) : List Rat := (List.range n).map fun i => worthQ (M.getD i []) (D.getD i [])
def spWorths : Sp := fun vs H Q _ => ∃ (b p pa pp pw q : Addr) (xa xp xw zs : List V) (am pu wi : List PyData) (D : List (List Rat)), vs = [.ref p, .ref q] ∧ MkAt b H p pa pp pw xa xp xw am pu wi ∧ DlAt H q zs D xa.length ∧ D.length = xp.length ∧
  ∀ (r : Addr) (ys : List V) (H' : Hp), Stay H H' → H' r = some (.tup ys) → Frs H' ys (worthsQ (rowsOf wi) D xp.length) → Q (.ref r) H'
def rowQ : PyData → List Rat
  | .tuple es => es.map qOf
  | _ => []
def matOf : PyData → List (List Rat)
  | .tuple ds => ds.map rowQ
  | _ => []
theorem rowQ_q (qs : List Rat) : rowQ (.tuple (qs.map qD)) = qs := by
  show (qs.map qD).map qOf = qs
  rw [List.map_map]
  have : (qOf ∘ qD) = id := by funext q; exact qOf_qD q
  rw [this, List.map_id]
theorem matOf_mat (D : List (List Rat)) : matOf (matD D) = D := by
  show (D.map fun qs => PyData.tuple (qs.map qD)).map rowQ = D
  rw [List.map_map]
  have : (rowQ ∘ fun qs => PyData.tuple (qs.map qD)) = id := by funext q; exact rowQ_q q
  rw [this, List.map_id]
def oneDl (n g : Nat) (am : List Int) (d : PyData) : Bool := isDl n g d && !tooB am (matOf d) g
def zeroB (M : List (List Int)) (D : List (List Rat)) (n : Nat) : Bool := (List.range n).any fun i => decide (worthQ (M.getD i []) (D.getD i []) = 0)
def partQ (M : List (List Int)) (ps : List Rat) (D E : List (List Rat)) (i : Nat) : Rat := ps.getD i 0 * (worthQ (M.getD i []) (D.getD i []) / worthQ (M.getD i []) (E.getD i []))
def gainQ (M : List (List Int)) (ps : List Rat) (D E : List (List Rat)) (n : Nat) : Rat := sumQ ((List.range n).map (partQ M ps D E)) - sumQ ps
def outG (M : List (List Int)) (ps : List Rat) (am : List Int) (n g : Nat) (d e : PyData) : Str × Option Rat :=
  if (oneDl n g am d && oneDl n g am e) = true then (if zeroB M (matOf e) n = true then ("NoNumber+", none) else ("", some (gainQ M ps (matOf d) (matOf e) n))) else ("NoDealing+", none)
def Told (H : Hp) (x : V) : Option Rat → Prop
  | none => x = .non
  | some q => ∃ c, x = .ref c ∧ H c = some (qO q)
theorem small_q {D : List (List Rat)} (h : small (matD D) = true) : ∀ r ∈ D, ∀ z ∈ r, Rb 30 z := by
  intro r hr z hz
  have h1 := smalls_t h (.tuple (r.map qD)) (List.mem_map.mpr ⟨r, hr, rfl⟩)
  have h2 := smalls_t h1 (qD z) (List.mem_map.mpr ⟨z, hz, rfl⟩)
  have h3 := smalls_t (ds := [.int z.num, .int z.den]) h2
  have a1 := h3 (.int z.num) (by simp)
  have a2 := h3 (.int z.den) (by simp)
  have b1 : (decide (-1073741824 < z.num) && decide (z.num < 1073741824)) = true := a1
  have b2 : (decide (-1073741824 < (z.den : Int)) && decide ((z.den : Int) < 1073741824)) = true := a2
  simp only [Bool.and_eq_true, decide_eq_true_eq] at b1 b2
  constructor <;> (unfold Bd; omega)
theorem one_dl {n g : Nat} {am : List Int} {d : PyData} (h : oneDl n g am d = true) : ∃ D, d = matD D ∧ D.length = n ∧ (∀ qs ∈ D, qs.length = g) ∧ (∀ qs ∈ D, ∀ q ∈ qs, 0 ≤ q) ∧ tooB am D g = false := by
  unfold oneDl at h
  rw [Bool.and_eq_true, Bool.not_eq_true'] at h
  obtain ⟨D, rfl, e1, e2, e3⟩ := dl_q h.1
  rw [matOf_mat] at h
  exact ⟨D, rfl, e1, e2, e3, h.2⟩
theorem one_no {n g : Nat} {am : List Int} {d : PyData} (h : isDl n g d = false) : oneDl n g am d = false := by unfold oneDl; rw [h]; rfl
theorem one_too {n g : Nat} {am : List Int} {D : List (List Rat)} (h : tooB am D g = true) : oneDl n g am (matD D) = false := by unfold oneDl; rw [matOf_mat, h]; simp
theorem one_yes {n g : Nat} {am : List Int} {D : List (List Rat)} (h1 : D.length = n) (h2 : ∀ r ∈ D, r.length = g) (h3 : ∀ r ∈ D, ∀ z ∈ r, 0 ≤ z) (h : tooB am D g = false) : oneDl n g am (matD D) = true := by
  unfold oneDl
  rw [matOf_mat, h, isDl_mat h1 h2 h3]; rfl
def spGain (Nd Nn : Addr) : Sp := fun vs H Q E => ∃ (b p pa pp pw : Addr) (xa xp xw : List V) (am pu wi : List PyData) (v u : V) (d e : PyData), vs = [.ref p, v, u] ∧ MkAt b H p pa pp pw xa xp xw am pu wi ∧ TrV b H v d ∧ TrV b H u e ∧ small d = true ∧ small e = true ∧
  ((oneDl xp.length xa.length (am.map intOf) d && oneDl xp.length xa.length (am.map intOf) e) = false → ∀ H', Stay H H' → E (.ref Nd) none H') ∧
  (oneDl xp.length xa.length (am.map intOf) d = true → oneDl xp.length xa.length (am.map intOf) e = true → zeroB (rowsOf wi) (matOf e) xp.length = true → ∀ H', Stay H H' → E (.ref Nn) none H') ∧
  (oneDl xp.length xa.length (am.map intOf) d = true → oneDl xp.length xa.length (am.map intOf) e = true → zeroB (rowsOf wi) (matOf e) xp.length = false → ∀ (r : Addr) (H' : Hp), Stay H H' → H' r = some (qO (gainQ (rowsOf wi) (pursesQ pu) (matOf d) (matOf e) xp.length)) → Q (.ref r) H')
theorem worths_get {M : List (List Int)} {D : List (List Rat)} {n i : Nat} {q : Rat} (h : (worthsQ M D n)[i]? = some q) : i < n ∧ q = worthQ (M.getD i []) (D.getD i []) := by
  unfold worthsQ at h
  rw [List.getElem?_map] at h
  cases e : (List.range n)[i]? with
  | none => rw [e] at h; cases h
  | some j =>
    have hj := List.getElem?_eq_some_iff.mp e
    rw [e] at h
    obtain ⟨hl, ej⟩ := hj
    rw [List.length_range] at hl
    rw [List.getElem_range] at ej
    subst ej
    exact ⟨hl, by simpa using h.symm⟩
theorem rb_part {M : List (List Int)} {ps : List Rat} {D E : List (List Rat)} {i : Nat} (h1 : Rb 229 (worthQ (M.getD i []) (D.getD i []))) (h2 : Rb 229 (worthQ (M.getD i []) (E.getD i []))) (h3 : Rb 20 (ps.getD i 0)) (h0 : worthQ (M.getD i []) (E.getD i []) ≠ 0) : Rb 478 (partQ M ps D E i) :=
  rb_mul h3 (rb_divq h1 h2 h0)
theorem rb_w {b p pa pp pw q : Addr} {H : Hp} {xa xp xw zs : List V} {am pu wi : List PyData} {D : List (List Rat)} {i : Nat} (m : MkAt b H p pa pp pw xa xp xw am pu wi) (hb : ∀ r ∈ D, ∀ z ∈ r, Rb 30 z) (hi : i < xp.length) : Rb 229 (worthQ ((rowsOf wi).getD i []) (D.getD i [])) := by
  obtain ⟨rw0, rne, rlen, rbd, a1, a6, w1, w6, wp⟩ := m.lw
  have hil : i < (rowsOf wi).length := by rw [← rw0.len]; omega
  have hrl := row_len rlen hil
  have hmem : (rowsOf wi).getD i [] ∈ rowsOf wi := by rw [getD_of (List.getElem?_eq_getElem hil)]; exact List.getElem_mem hil
  refine rb_worth30 (by omega) (rbd _ hmem) fun z hz => ?_
  rcases Nat.lt_or_ge i D.length with y | y
  · rw [getD_of (List.getElem?_eq_getElem y)] at hz
    exact hb _ (List.getElem_mem y) z hz
  · have : D.getD i [] = [] := by simp [List.getD, y]
    rw [this] at hz; cases hz
def spOne : Sp := fun vs H Q _ => ∃ (b p pa pp pw : Addr) (xa xp xw : List V) (am pu wi : List PyData) (v : V) (d : PyData), vs = [.ref p, v] ∧ MkAt b H p pa pp pw xa xp xw am pu wi ∧ TrV b H v d ∧ small d = true ∧ ∀ H', Stay H H' → Q (.bl (oneDl xp.length xa.length (am.map intOf) d)) H'
def spDueG : Sp := fun vs H Q _ => ∃ (b p pa pp pw : Addr) (xa xp xw : List V) (am pu wi : List PyData) (v u : V) (d e : PyData), vs = [.ref p, v, u] ∧ MkAt b H p pa pp pw xa xp xw am pu wi ∧ TrV b H v d ∧ TrV b H u e ∧ small d = true ∧ small e = true ∧
  ∀ (l : Addr) (x : V) (H' : Hp), Stay H H' → H' l = some (.lst [.str (outG (rowsOf wi) (pursesQ pu) (am.map intOf) xp.length xa.length d e).1, x]) → Told H' x (outG (rowsOf wi) (pursesQ pu) (am.map intOf) xp.length xa.length d e).2 → Q (.ref l) H'
end KM
set_option Elab.async false
set_option linter.all false
set_option maxRecDepth 100000
set_option maxHeartbeats 4000000
namespace K26
open PySem L2 KG EX KM
def top (i : Nat) : Stmt := PySem.Challenge.pw_wishmart_k26_gains_reckoned.main.body.getD i (.Pass ⟨0, 0, 0, 0⟩)
section
variable {P : Program} {w : World} {K : PySem.W.Frag} {mg : Str → Option Value} {base : Heap}
theorem scWhole : FnScope ["thing"] ["thing"] (defScope (top 14)) := ⟨rfl, rfl, rfl, by decide +kernel, rfl, by decide +kernel, by decide +kernel⟩
theorem ok_whole {f : Addr} {fd : FuncData} (F : Fun K "is_whole" "is_whole" (top 14) f fd) (N : Nm mg) (Z : IsK K) : FnOk P w K mg base CX0 1 f fd ["thing"] (spT isWhole) := by
  refine F.ok scWhole (fun vs H Q E h => ?_) (fun cdv A outer s H vs Q E hr h => ?_)
  · obtain ⟨b, v, d, rfl, _⟩ := h; rfl
  · obtain ⟨b, v, d, rfl, hT, k⟩ := h
    refine ⟨_, pss_one (ps_ret (pe_and (pIsi K (pv 0) rfl N.isinstance rfl N.int boot_int boot_isinstance) (pe_one (pe_not (pIsi K (pv 0) rfl N.isinstance rfl N.bool boot_bool boot_isinstance))))), ?_⟩
    obtain ⟨t1, ty1, e1⟩ := isi Z hT
    obtain ⟨t2, ty2, e2⟩ := isb Z hT
    refine ⟨_, rfl, t1, _, ty1, e1, _, rfl, ?_⟩
    have hk := k H (Stay.refl H)
    rw [isWhole_eq] at hk
    cases hi : isI d with
    | true =>
      rw [hi] at hk
      refine iteT ⟨_, rfl, t2, _, ty2, e2, _, rfl, hk⟩
    | false =>
      rw [hi] at hk
      exact iteF hk
theorem scGcd : FnScope ["one", "other"] ["one", "other"] (defScope (top 16)) := ⟨rfl, rfl, rfl, by decide +kernel, rfl, by decide +kernel, by decide +kernel⟩
theorem ok_gcd {f : Addr} {fd : FuncData} (F : Fun K "common_divisor" "common_divisor" (top 16) f fd) (N : Nm mg) : FnOk P w K mg base CX0 1 f fd ["one", "other"] spGcd := by
  refine F.ok scGcd (fun vs H Q E h => ?_) (fun cdv A outer s H vs Q E hr h => ?_)
  · obtain ⟨t, u, rfl, _⟩ := h; rfl
  · obtain ⟨t, u, rfl, u0, k⟩ := h
    refine ⟨_, pss_cons (ps_while PassesOwn.never (pt_cmpR op_ne (pv 1) pe_int (nomark _)) (pss_one (ps_par (i := 0) (j := 1) rfl scGcd.nd rfl rfl (by decide) rfl rfl (pa_cons (pv 1) (pa_cons (pe_op op_mod (pv 0) (pv 1)) pa_nil)) (by rfl))))
      (pss_one (ps_ret (pe_callB call_abs (by rfl) N.abs boot_abs (pa_cons (pv 0) pa_nil)))), ?_⟩
    refine while_by (fun σ H' => H' = H ∧ ∃ a c : Int, σ = [some (.int a), some (.int c)] ∧ 0 ≤ c ∧ Int.gcd a c = Int.gcd t u)
      (fun σ _ => match σ with | [_, some (.int c)] => c.toNat | _ => 0) ⟨rfl, t, u, rfl, u0, rfl⟩ ?_ ?_
    · rintro σ H' ⟨rfl, a, c, rfl, c0, e⟩
      refine ⟨_, rfl, rfl, _, rfl, ?_⟩
      by_cases hc : c = 0
      · subst hc
        refine iteF ?_
        refine ⟨_, rfl, _, rfl, ?_⟩
        rw [abs_gcd, e]
        exact k
      · have e1 : (!decide (V.int c = V.int 0)) = true := by simp [hc]
        rw [e1]
        refine iteT ?_
        have cp : 0 < c := by omega
        refine ⟨_, rfl, _, rfl, _, rfl, _, _, rfl, rfl, cp, _, _, rfl, ⟨rfl, c, a % c, rfl, Int.emod_nonneg _ hc, gcd_emod.trans e⟩, ?_⟩
        have h1 := Int.emod_lt_of_pos a cp
        have h2 := Int.emod_nonneg a hc
        show (a % c).toNat < c.toNat
        omega
    · rintro σ H' Q1 Q2 himp ⟨v, e, sc, kk, ek, q⟩
      exact ⟨v, e, sc, kk, ek, himp _ _ q⟩
theorem scFrac : FnScope ["thing", "top", "bottom"] ["thing"] (defScope (top 15)) := ⟨rfl, rfl, rfl, by decide +kernel, rfl, by decide +kernel, by decide +kernel⟩
theorem ok_isfrac {f fW fG : Addr} {fd dW dG : FuncData} (F : Fun K "is_fraction" "is_fraction" (top 15) f fd) (N : Nm mg) (Z : IsK K) (W : Cal K mg P w base "is_whole" 1 ["thing"] (spT isWhole) fW dW) (G : Cal K mg P w base "common_divisor" 1 ["one", "other"] spGcd fG dG) : FnOk P w K mg base CX0 2 f fd ["thing"] (spT isFrac) := by
  refine F.ok scFrac (fun vs H Q E h => ?_) (fun cdv A outer s H vs Q E hr h => ?_)
  · obtain ⟨b, v, d, rfl, _⟩ := h; rfl
  · obtain ⟨b, v, d, rfl, hT, k⟩ := h
    refine ⟨_, pss_cons (ps_if (PW.pt (pw_or (pt_not (pt_val (pIsi K (pv 0) rfl N.isinstance rfl N.tuple boot_tuple boot_isinstance))) (pw_or1 (pt_cmpR op_ne (pe_callB cLen0 (by rfl) N.len PySem.boot_len (pa_cons (pv 0) pa_nil)) pe_int (nomark _))))) (pss_one (ps_ret pe_bl)) pss_nil)
      (pss_cons (ps_asg (pv 0) (pgTup0 rfl (pgs_cons (pg_name (i := 1) scFrac.nd rfl (Or.inl rfl)) (pgs_cons (pg_name (i := 2) scFrac.nd rfl (Or.inl rfl)) pgs_nil))))
      (pss_cons (ps_if (PW.pt (pw_or (pt_not (pt_val (pe_call W.ok hr rfl W.mg W.kp W.bd .nil pass0 (pa_cons (pv 1) pa_nil)))) (pw_or1 (pt_not (pt_val (pe_call W.ok hr rfl W.mg W.kp W.bd .nil pass0 (pa_cons (pv 2) pa_nil))))))) (pss_one (ps_ret pe_bl)) pss_nil)
      (pss_one (ps_ret (pe_and (pe_cmpR op_ge (pv 2) pe_int (nomark _)) (pe_one (pe_cmpR op_eq (pe_call G.ok hr rfl G.mg G.kp G.bd .nil pass0 (pa_cons (pv 1) (pa_cons (pv 2) pa_nil))) pe_int (nomark _)))))))), ?_⟩
    obtain ⟨t1, ty1, e1⟩ := ist Z hT
    refine ⟨_, rfl, t1, _, ty1, e1, _, rfl, ?_⟩
    have hk := k H (Stay.refl H)
    rcases tupCase hT with hn | ⟨a, xs, ds, rfl, rfl, ha, hs⟩
    · rw [hn]; rw [isFrac_no hn] at hk
      exact iteT (iteT hk)
    refine iteF ?_
    refine ⟨_, rfl, a, xs, rfl, .inr (SqT.of ha), rfl, _, rfl, ?_⟩
    by_cases hl : xs.length = 2
    case neg =>
      have e2 : (!decide (V.int (xs.length : Int) = V.int 2)) = true := vint_ne (b := 2) hl
      rw [e2]
      have hl2 : ds.length ≠ 2 := by rw [← hs.len]; exact hl
      have e3 : isFrac (.tuple ds) = false := isFrac_len hl2
      rw [e3] at hk
      exact iteT hk
    have e2 : (!decide (V.int (xs.length : Int) = V.int 2)) = false := by rw [hl]; rfl
    rw [e2]
    refine iteF ?_
    match xs, ds, hl, hs with
    | [x, y], _, _, .cons (d := dx) hx (.cons (d := dy) hy .nil) =>
    refine ⟨_, rfl, a, _, rfl, SqT.of ha, rfl, _, _, rfl, _, _, rfl, rfl, ?_⟩
    refine ⟨_, rfl, b, x, dx, rfl, hx, fun H1 s1 => ?_⟩
    refine ⟨_, rfl, ?_⟩
    rcases intCase hx with hn | ⟨i, rfl, rfl⟩
    · rw [hn]
      refine iteT (iteT ?_)
      have e3 : isFrac (.tuple [dx, dy]) = false := by cases dx <;> first | rfl | cases hn
      rw [e3] at k
      exact k H1 s1
    refine iteF ?_
    refine ⟨_, rfl, b, y, dy, rfl, hy.stay s1, fun H2 s2 => ?_⟩
    refine ⟨_, rfl, ?_⟩
    rcases intCase hy with hn | ⟨j, rfl, rfl⟩
    · rw [hn]
      refine iteT ?_
      have e3 : isFrac (.tuple [.int i, dy]) = false := by cases dy <;> first | rfl | cases hn
      rw [e3] at k
      exact k H2 (s1.trans s2)
    refine iteF ?_
    refine ⟨_, rfl, _, _, rfl, rfl, _, rfl, ?_⟩
    have hk2 : Q (.bl (decide ((1 : Int) ≤ j) && decide (Int.gcd i j = 1))) H2 := k H2 (s1.trans s2)
    by_cases hj : 1 ≤ j
    · have e4 : decide ((1 : Int) ≤ j) = true := by simpa using hj
      rw [e4] at hk2 ⊢
      refine iteT ⟨_, rfl, _, rfl, i, j, rfl, by omega, rfl, ?_⟩
      have e5 : decide (V.int ((Int.gcd i j : Nat) : Int) = V.int 1) = decide (Int.gcd i j = 1) := by
        rw [decide_eq_decide]
        constructor
        · intro h; injection h with h; omega
        · intro h; rw [h]; rfl
      rw [e5]
      simpa using hk2
    · have e4 : decide ((1 : Int) ≤ j) = false := by simpa using hj
      rw [e4] at hk2 ⊢
      exact iteF hk2
theorem scTake : FnScope ["bag", "many", "found"] ["bag", "many"] (defScope (top 39)) := ⟨rfl, rfl, rfl, by decide +kernel, rfl, by decide +kernel, by decide +kernel⟩
theorem ok_take {f : Addr} {fd : FuncData} (F : Fun K "_law_take" "_law_take" (top 39) f fd) : FnOk P w K mg base CX0 1 f fd ["bag", "many"] spTake := by
  refine F.ok scTake (fun vs H Q E h => ?_) (fun cdv A outer s H vs Q E hr h => ?_)
  · obtain ⟨b, m, rfl, _⟩ := h; rfl
  · obtain ⟨b, m, rfl, ⟨c, d, hb⟩, h0, h1, k⟩ := h
    refine ⟨_, pss_cons (ps_if (pt_cmpR op_gt (pe_ix ixL0 (pv 0) pe_int (fun _ _ => rfl)) pe_int (nomark _))
        (pss_cons (ps_set (i := 2) scTake.nd rfl (Or.inl rfl) (pe_op op_mod (pe_ix ixL0 (pv 0) pe_int (fun _ _ => rfl)) (pv 1)))
          (pss_cons (ps_asg (pe_op op_fdiv (pe_ix ixL0 (pv 0) pe_int (fun _ _ => rfl)) (pv 1)) (pg_sub (pv 0) pe_int set_list)) (pss_one (ps_ret (pv 2))))) pss_nil)
      (pss_cons (ps_asg (pe_op op_mod (pe_op op_mul (pe_ix ixL0 (pv 0) pe_int (fun _ _ => rfl)) pe_int) pe_int) (pg_sub (pv 0) pe_int set_list))
        (pss_one (ps_ret (pe_op op_mod (pe_op op_fdiv (pe_op op_mod (pe_op op_mul (pe_op op_fdiv (pe_ix ixL0 (pv 0) pe_int (fun _ _ => rfl)) pe_int) (pe_op op_add (pe_op op_mod (pe_ix ixL0 (pv 0) pe_int (fun _ _ => rfl)) pe_int) pe_int)) pe_int) pe_int) (pv 1))))), ?_⟩
    refine ⟨_, rfl, b, _, _, _, rfl, rfl, SqL.of hb, rfl, _, _, rfl, rfl, _, rfl, ?_⟩
    refine ite2 (fun hc => ?_) (fun hc => ?_)
    · refine ⟨_, rfl, b, _, _, _, rfl, rfl, SqL.of hb, rfl, _, rfl, _, _, rfl, rfl, h0, ?_⟩
      refine ⟨_, rfl, b, _, _, _, rfl, rfl, SqL.of hb, rfl, _, rfl, _, _, rfl, rfl, ⟨h0, h1⟩, ?_⟩
      refine ⟨_, rfl, b, _, _, 0, rfl, rfl, hb, rfl, ?_⟩
      refine ⟨_, rfl, k _ _ (Int.emod_nonneg _ (by omega)) (Int.emod_lt_of_pos _ h0) ⟨_, _, upd_same⟩ (Kp.refl b H).bag⟩
    · refine ⟨_, rfl, b, _, _, _, rfl, rfl, SqL.of hb, rfl, _, _, rfl, rfl, .inr ⟨by decide, by decide⟩, _, _, rfl, rfl, (by show (0 : Int) < 2147483647; decide), ?_⟩
      refine ⟨_, rfl, b, _, _, 1, rfl, rfl, hb, rfl, ?_⟩
      have hb2 : (upd H b (.lst [V.int c, V.int (d * 48271 % 2147483647)])) b = some (.lst [V.int c, V.int (d * 48271 % 2147483647)]) := upd_same
      refine ⟨_, rfl, b, _, _, _, rfl, rfl, SqL.of hb2, rfl, _, _, rfl, rfl, ⟨by decide, by decide⟩, ?_⟩
      refine ⟨_, rfl, b, _, _, _, rfl, rfl, SqL.of hb2, rfl, _, _, rfl, rfl, (by show (0 : Int) < 32749; decide), _, _, rfl, rfl, ?_⟩
      refine ⟨_, _, rfl, rfl, .inr ⟨?_, ?_⟩, ?_⟩
      · have := Int.emod_nonneg (d * 48271 % 2147483647) (show (32749 : Int) ≠ 0 by decide); omega
      · have := Int.emod_lt_of_pos (d * 48271 % 2147483647) (show (0 : Int) < 32749 by decide); omega
      refine ⟨_, _, rfl, rfl, (by show (0 : Int) < 2147483629; decide), _, _, rfl, rfl, ⟨by decide, by decide⟩, _, rfl, _, _, rfl, rfl, h0, ?_⟩
      exact k _ _ (Int.emod_nonneg _ (by omega)) (Int.emod_lt_of_pos _ h0) ⟨_, _, upd_same⟩ (Kp.refl b H).bag
theorem scBag : FnScope ["script", "k", "cell", "seed"] ["script", "k"] (defScope (top 38)) := ⟨rfl, rfl, rfl, by decide +kernel, rfl, by decide +kernel, by decide +kernel⟩
theorem ok_bag {f : Addr} {fd : FuncData} (F : Fun K "_law_bag" "_law_bag" (top 38) f fd) (B : Nm mg) : FnOk P w K mg base CX0 1 f fd ["script", "k"] (spBag K) := by
  refine F.ok scBag (fun vs H Q E h => ?_) (fun cdv A outer s H vs Q E hr h => ?_)
  · obtain ⟨a, ns, k, rfl, _⟩ := h; rfl
  · obtain ⟨a, ns, k, rfl, hS, h0, h1, q⟩ := h
    refine ⟨_, pss_cons (ps_set (i := 2) scBag.nd rfl (Or.inl rfl) pe_int)
      (pss_cons (ps_if (pt_cmpR op_lt (pv 1) (pe_callB call_len_seq (by rfl) B.len PySem.boot_len (pa_cons (pv 0) pa_nil)) (nomark _))
        (pss_one (ps_set (i := 2) scBag.nd rfl (Or.inl rfl) (pe_op op_mod (pe_ix ix_list (pv 0) (pv 1) (fun _ _ => rfl)) (pe_op op_pow pe_int pe_int)))) pss_nil)
      (pss_cons (ps_set (i := 3) scBag.nd rfl (Or.inl rfl) (pe_op op_add pe_int (pe_op op_mod (pe_op op_add (pe_op op_add (pe_op op_add (pe_op op_mul (pe_op op_mod (pv 2) pe_int) pe_int) (pe_op op_mul (pe_op op_mul pe_int (pv 1)) (pv 1))) (pe_op op_mul pe_int (pv 1))) pe_int) pe_int)))
      (pss_cons (ps_if (pt_cmpR op_lt (pv 2) (pe_op op_pow pe_int pe_int) (nomark _)) (pss_one (ps_ret (pe_lst (pa_cons pe_int (pa_cons (pv 3) pa_nil))))) pss_nil)
      (pss_one (ps_ret (pe_lst (pa_cons (pv 2) (pa_cons (pv 3) pa_nil)))))))), ?_⟩
    refine ⟨_, rfl, _, rfl, a, _, rfl, .inl hS, _, _, rfl, rfl, _, rfl, ?_⟩
    refine ite2 (fun hc => ?wayA) (fun hc => ?wayB)
    case' wayA =>
      have hk : k < (ns.length : Int) := by simpa using of_decide_eq_true hc
      have hat : atI (ns.map V.int) k = some (V.int (ns.getD k.toNat 0)) := by
        have e : (ns.map V.int)[k.toNat]? = some (V.int (ns.getD k.toNat 0)) := by
          have hl : k.toNat < ns.length := by omega
          rw [List.getElem?_map, List.getElem?_eq_getElem hl]
          simp [List.getD, List.getElem?_eq_getElem hl]
        have := atI_nat e
        rw [Int.toNat_of_nonneg h0] at this
        exact this
      refine ⟨_, rfl, _, rfl, a, _, _, _, rfl, rfl, hS, hat, _, _, rfl, rfl, ⟨by decide, by decide, by decide⟩, _, _, rfl, rfl, (by show (0 : Int) < 10 ^ 60; decide), ?_⟩
    all_goals
      refine ⟨_, rfl, _, _, rfl, rfl, (by show (0 : Int) < 2147483629; decide), _, _, rfl, rfl, .inr ⟨by decide, by decide⟩, ?_⟩
      refine ⟨_, rfl, _, _, rfl, rfl, .inl ⟨by decide, by decide⟩, _, rfl, _, _, rfl, rfl, .inr ⟨by omega, by omega⟩, _, _, rfl, rfl, ?_⟩
      refine ⟨_, rfl, _, _, rfl, rfl, .inl ⟨by decide, by decide⟩, _, _, rfl, rfl, _, _, rfl, rfl, _, _, rfl, rfl, (by show (0 : Int) < 2147483645; decide), _, _, rfl, rfl, ?_⟩
      refine ⟨_, rfl, _, _, rfl, rfl, ⟨by decide, by decide, by decide⟩, _, _, rfl, rfl, _, rfl, ?_⟩
      refine ite2 (fun hc => ?_) (fun hc => ?_)
      · exact ⟨_, rfl, by show 2 ≤ sizeLine; decide, fun p hp => q p _ _ hp⟩
      · exact ⟨_, rfl, _, rfl, by show 2 ≤ sizeLine; decide, fun p hp => q p _ _ hp⟩
theorem scLFrac : FnScope ["top", "bottom", "one", "other", "by"] ["top", "bottom"] (defScope (top 40)) := ⟨rfl, rfl, rfl, by decide +kernel, rfl, by decide +kernel, by decide +kernel⟩
theorem ok_frac {f : Addr} {fd : FuncData} (F : Fun K "_law_frac" "_law_frac" (top 40) f fd) (B : Nm mg) : FnOk P w K mg base CX0 1 f fd ["top", "bottom"] spFrac := by
  refine F.ok scLFrac (fun vs H Q E h => ?_) (fun cdv A outer s H vs Q E hr h => ?_)
  · obtain ⟨t, u, rfl, _⟩ := h; rfl
  · obtain ⟨t, u, rfl, u0, u1, k⟩ := h
    refine ⟨_, pss_cons (ps_par (i := 2) (j := 3) rfl scLFrac.nd rfl rfl (by decide) rfl rfl (pa_cons (pv 0) (pa_cons (pv 1) pa_nil)) (by rfl))
      (pss_cons (ps_while PassesOwn.never (pt_cmpR op_ne (pv 3) pe_int (nomark _)) (pss_one (ps_par (i := 2) (j := 3) rfl scLFrac.nd rfl rfl (by decide) rfl rfl (pa_cons (pv 3) (pa_cons (pe_op op_mod (pv 2) (pv 3)) pa_nil)) (by rfl))))
      (pss_cons (ps_set (i := 4) scLFrac.nd rfl (Or.inl rfl) (pe_op op_mul (pe_callB call_abs (by rfl) B.abs boot_abs (pa_cons (pv 2) pa_nil)) (pe_op op_sub pe_int (pe_op op_mul pe_int (pe_callTy call_int1 (by rfl) B.int boot_int (pa_cons (pe_cmpR op_lt (pv 1) pe_int (nomark _)) pa_nil))))))
      (pss_one (ps_ret (pe_tup (pa_cons (pe_op op_fdiv (pv 0) (pv 4)) (pa_cons (pe_op op_fdiv (pv 1) (pv 4)) pa_nil))))))), ?_⟩
    refine ⟨_, rfl, _, rfl, _, _, rfl, ?_⟩
    refine while_by (fun σ H' => H' = H ∧ ∃ a c : Int, σ = [some (.int t), some (.int u), some (.int a), some (.int c), none] ∧ 0 ≤ c ∧ Int.gcd a c = Int.gcd t u)
      (fun σ _ => match σ with | [_, _, _, some (.int c), _] => c.toNat | _ => 0) ⟨rfl, t, u, rfl, by omega, rfl⟩ ?_ ?_
    · rintro σ H' ⟨rfl, a, c, rfl, c0, e⟩
      refine ⟨_, rfl, rfl, _, rfl, ?_⟩
      by_cases hc : c = 0
      · subst hc
        refine iteF ?_
        refine ⟨_, rfl, _, rfl, _, rfl, _, _, rfl, rfl, .inr ⟨_, rfl, _, _, rfl, rfl, .inl ⟨by decide, by decide⟩, _, _, rfl, rfl, ?_⟩⟩
        have e2 : decide (u < 0) = false := decide_eq_false (by omega)
        rw [abs_gcd, e, e2]
        obtain ⟨g0, g1⟩ := gcd_pos (t := t) u0
        have e3 : (Int.gcd t u : Int) * (1 - 2 * (if false = true then (1 : Int) else 0)) = (Int.gcd t u : Int) := by simp
        refine ⟨_, _, rfl, rfl, .inl ⟨by omega, by omega⟩, ?_⟩
        show gName 4 (V.int ((Int.gcd t u : Int) * (1 - 2 * (if false = true then (1 : Int) else 0)))) _ _ _
        rw [e3]
        exact ⟨_, rfl, _, rfl, _, _, rfl, rfl, ⟨g0, by omega⟩, _, rfl, _, rfl, _, _, rfl, rfl, ⟨g0, by omega⟩, by show 2 ≤ sizeLine; decide, fun p hp => k p hp⟩
      · have e1 : (!decide (V.int c = V.int 0)) = true := by simp [hc]
        rw [e1]
        refine iteT ?_
        have cp : 0 < c := by omega
        refine ⟨_, rfl, _, rfl, _, rfl, _, _, rfl, rfl, cp, _, _, rfl, ⟨rfl, c, a % c, rfl, Int.emod_nonneg _ hc, gcd_emod.trans e⟩, ?_⟩
        have h1 := Int.emod_lt_of_pos a cp
        have h2 := Int.emod_nonneg a hc
        show (a % c).toNat < c.toNat
        omega
    · rintro σ H' Q1 Q2 himp ⟨v, e, sc, kk, ek, q⟩
      exact ⟨v, e, sc, kk, ek, himp _ _ q⟩
theorem scLPurse : FnScope ["bag", "way"] ["bag"] (defScope (top 48)) := ⟨rfl, rfl, rfl, by decide +kernel, rfl, by decide +kernel, by decide +kernel⟩
theorem ok_lpurse {f fT fF : Addr} {fd dT dF : FuncData} (F : Fun K "_law_purse" "_law_purse" (top 48) f fd) (T : Cal K mg P w base "_law_take" 1 ["bag", "many"] spTake fT dT) (R : Cal K mg P w base "_law_frac" 1 ["top", "bottom"] spFrac fF dF) : FnOk P w K mg base CX0 2 f fd ["bag"] spPu := by
  refine F.ok scLPurse (fun vs H Q E h => ?_) (fun cdv A outer s H vs Q E hr h => ?_)
  · obtain ⟨b, rfl, _⟩ := h; rfl
  · obtain ⟨b, rfl, hb, k⟩ := h
    refine ⟨_, pss_cons (ps_set (i := 1) scLPurse.nd rfl (Or.inl rfl) (pe_call T.ok hr rfl T.mg T.kp T.bd .nil pass0 (pa_cons (pv 0) (pa_cons pe_int pa_nil))))
      (pss_cons (ps_if (pt_cmpR op_eq (pv 1) pe_int (nomark _)) (pss_one (ps_ret (pe_tup (pa_cons (pe_op op_add pe_int (pe_call T.ok hr rfl T.mg T.kp T.bd .nil pass0 (pa_cons (pv 0) (pa_cons pe_int pa_nil)))) (pa_cons pe_int pa_nil))))) pss_nil)
      (pss_cons (ps_if (pt_cmpR op_eq (pv 1) pe_int (nomark _)) (pss_one (ps_ret (pe_tup (pa_cons (pe_op op_add pe_int (pe_call T.ok hr rfl T.mg T.kp T.bd .nil pass0 (pa_cons (pv 0) (pa_cons (pe_op op_pow pe_int pe_int) pa_nil)))) (pa_cons pe_int pa_nil))))) pss_nil)
      (pss_cons (ps_if (pt_cmpR op_eq (pv 1) pe_int (nomark _)) (pss_one (ps_ret (pe_call R.ok hr rfl R.mg R.kp R.bd .nil pass0 (pa_cons (pe_op op_add pe_int (pe_call T.ok hr rfl T.mg T.kp T.bd .nil pass0 (pa_cons (pv 0) (pa_cons (pe_op op_pow pe_int pe_int) pa_nil)))) (pa_cons (pe_op op_add pe_int (pe_call T.ok hr rfl T.mg T.kp T.bd .nil pass0 (pa_cons (pv 0) (pa_cons (pe_op op_pow pe_int pe_int) pa_nil)))) pa_nil))))) pss_nil)
      (pss_one (ps_ret (pe_call R.ok hr rfl R.mg R.kp R.bd .nil pass0 (pa_cons (pe_op op_add pe_int (pe_call T.ok hr rfl T.mg T.kp T.bd .nil pass0 (pa_cons (pv 0) (pa_cons pe_int pa_nil)))) (pa_cons (pe_op op_add pe_int (pe_call T.ok hr rfl T.mg T.kp T.bd .nil pass0 (pa_cons (pv 0) (pa_cons pe_int pa_nil)))) pa_nil)))))))), ?_⟩
    refine ⟨_, rfl, b, _, rfl, hb, by decide, by decide, fun r H1 r0 r1 hb1 kp1 => ?_⟩
    refine ⟨_, rfl, rfl, _, rfl, ite2 (fun _ => ?_) (fun _ => ?_)⟩
    · refine ⟨_, rfl, b, _, rfl, hb1, by decide, by decide, fun r2 H2 p0 p1 hb2 kp2 => ⟨_, _, rfl, rfl, by show 2 ≤ sizeLine; decide, fun p hp => k _ _ _ (hb2.new hp) ((kp1.trans kp2).new hp) trI2 (purse_one (by omega) (by omega))⟩⟩
    refine ⟨_, rfl, rfl, _, rfl, ite2 (fun _ => ?_) (fun _ => ?_)⟩
    · refine ⟨_, rfl, _, _, rfl, rfl, ⟨by decide, by decide, by decide⟩, b, _, rfl, hb1, by decide, by decide, fun r2 H2 p0 p1 hb2 kp2 => ⟨_, _, rfl, rfl, by show 2 ≤ sizeLine; decide, fun p hp => ?_⟩⟩
      have p1' : r2 < 1000000 := p1
      exact k _ _ _ (hb2.new hp) ((kp1.trans kp2).new hp) trI2 (purse_one (by omega) (by omega))
    refine ⟨_, rfl, rfl, _, rfl, ite2 (fun _ => ?_) (fun _ => ?_)⟩
    · refine ⟨_, rfl, _, _, rfl, rfl, ⟨by decide, by decide, by decide⟩, b, _, rfl, hb1, by decide, by decide, fun r2 H2 p0 p1 hb2 kp2 => ⟨_, _, rfl, rfl, ?_⟩⟩
      refine ⟨_, rfl, _, _, rfl, rfl, ⟨by decide, by decide, by decide⟩, b, _, rfl, hb2, by decide, by decide, fun r3 H3 q0 q1 hb3 kp3 => ⟨_, _, rfl, rfl, ?_⟩⟩
      have p1' : r2 < 1000000 := p1
      have q1' : r3 < 1000000 := q1
      exact ⟨_, _, rfl, by omega, by omega, fun p hp => k _ _ _ (hb3.new hp) (((kp1.trans kp2).trans kp3).new hp) trI2 (purse_low (by omega) (by omega) (by omega) (by omega))⟩
    · refine ⟨_, rfl, b, _, rfl, hb1, by decide, by decide, fun r2 H2 p0 p1 hb2 kp2 => ⟨_, _, rfl, rfl, ?_⟩⟩
      refine ⟨_, rfl, b, _, rfl, hb2, by decide, by decide, fun r3 H3 q0 q1 hb3 kp3 => ⟨_, _, rfl, rfl, ?_⟩⟩
      exact ⟨_, _, rfl, by omega, by omega, fun p hp => k _ _ _ (hb3.new hp) (((kp1.trans kp2).trans kp3).new hp) trI2 (purse_low (by omega) (by omega) (by omega) (by omega))⟩
theorem scWishes : FnScope ["bag", "goods", "most", "row", "at"] ["bag", "goods"] (defScope (top 49)) := ⟨rfl, rfl, rfl, by decide +kernel, rfl, by decide +kernel, by decide +kernel⟩
theorem ok_wishes {f fT : Addr} {fd dT : FuncData} (F : Fun K "_law_wishes" "_law_wishes" (top 49) f fd) (B : Nm mg) (T : Cal K mg P w base "_law_take" 1 ["bag", "many"] spTake fT dT) : FnOk P w K mg base CX0 2 f fd ["bag", "goods"] spWi := by
  refine F.ok scWishes (fun vs H Q E h => ?_) (fun cdv A outer s H vs Q E hr h => ?_)
  · obtain ⟨b, g, rfl, _⟩ := h; rfl
  · obtain ⟨b, g, rfl, hb, g0, g1, k⟩ := h
    refine ⟨_, pss_cons (ps_set (i := 2) scWishes.nd rfl (Or.inr rfl) (pe_ix ixL0 (pe_lst (pa_cons pe_int (pa_cons pe_int (pa_cons pe_int (pa_cons pe_int (pa_cons pe_int pa_nil)))))) (pe_call T.ok hr rfl T.mg T.kp T.bd .nil pass0 (pa_cons (pv 0) (pa_cons pe_int pa_nil))) (fun _ _ => rfl)))
      (pss_cons (ps_setC (i := 3) (own := ["k"]) (cap := ["bag", "most"]) (ix := [0, 2]) scWishes.nd rfl rfl (BlkOk.of (defScope (top 49)).names ["bag", "goods", "most", "row", "at"]) rfl (pi_range1 rfl B.range (pa_cons (pv 1) pa_nil))
        (fun C fp s H => ⟨pg_name (i := 0) (show List.Nodup (["k", "bag", "most"] : List Str) by decide +kernel) rfl (Or.inl rfl), pifs_nil, pe_call T.ok hr rfl T.mg T.kp T.bd .nil pass0 (pa_cons (pv 1) (pa_cons (pv 2) pa_nil))⟩))
      (pss_cons (ps_set (i := 4) scWishes.nd rfl (Or.inl rfl) (pe_call T.ok hr rfl T.mg T.kp T.bd .nil pass0 (pa_cons (pv 0) (pa_cons (pv 1) pa_nil))))
      (pss_cons (ps_asg (pe_callB (call_max2 rfl) (by rfl) B.max boot_max (pa_cons pe_int (pa_cons (pe_ix ixL0 (pv 3) (pv 4) (fun _ _ => rfl)) pa_nil))) (pg_sub (pv 3) (pv 4) set_list))
      (pss_one (ps_ret (pe_callTy cTup0 (by rfl) B.tuple boot_tuple (pa_cons (pv 3) pa_nil))))))), ?_⟩
    refine ⟨by show 5 ≤ sizeLine; decide, fun p hp => ⟨_, rfl, b, _, rfl, hb.new hp, by decide, by decide, fun r H1 r0 r1 hb1 kp1 => ?_⟩⟩
    have np := hb.ne hp
    obtain ⟨m, em, m0, m1⟩ := menu5b r0 r1
    refine ⟨p, _, _, _, rfl, rfl, SqL.of (kp1 p _ np.symm upd_same), em, ?_⟩
    have kp1' : Kp b H H1 := ((Kp.refl b H).new hp).trans kp1
    refine ⟨_, rfl, g, rfl, by omega, by omega, fun acc hacc => ?_⟩
    have nacc := hb1.ne hacc
    refine comp_range (fun i ys H' => Bag H' b ∧ Kp b H1 H' ∧ ∃ ns : List Int, ys = ns.map V.int ∧ ns.length = i ∧ ∀ n ∈ ns, 0 ≤ n ∧ n ≤ 100) ⟨hb1.new hacc, (Kp.refl b H1).new hacc, [], rfl, rfl, fun n hn => nomatch hn⟩ ?_ ?_
    · rintro i ys H' hi hy ⟨hb', kp', ns, rfl, hl, hnn⟩
      refine yes_i ?_
      refine ⟨_, rfl, _, rfl, b, m, rfl, hb', m0, by omega, fun r2 H5 p0 p1 hb5 kp5 => ⟨_, kp5 acc _ nacc.symm hy, ?_, Cn.of upd_same ⟨?_, (kp'.trans kp5).acc hacc, ns ++ [r2], ?_, ?_, ?_⟩⟩⟩
      · rw [List.length_map, sz]; omega
      · obtain ⟨c, d, e⟩ := hb5
        exact ⟨c, d, by rw [upd_ne nacc]; exact e⟩
      · rw [List.map_append]; rfl
      · rw [List.length_append, hl]; rfl
      · intro n hn
        rcases List.mem_append.mp hn with z | z
        · exact hnn n z
        · obtain rfl : n = r2 := by simpa using z
          exact ⟨p0, by omega⟩
    · rintro ys H' hy ⟨hb', kp', ns, rfl, hl, hnn⟩
      refine ⟨_, rfl, _, rfl, b, g, rfl, hb', g0, by omega, fun r2 H5 p0 p1 hb5 kp5 => ?_⟩
      have hy5 := kp5 acc _ nacc.symm hy
      obtain ⟨ea, ex, em2⟩ := atI_ints (ns := ns) p0 (by omega)
      refine ⟨_, rfl, _, rfl, acc, _, _, _, rfl, rfl, SqL.of hy5, ea, _, _, rfl, ?_⟩
      refine ⟨_, rfl, _, rfl, acc, _, _, r2.toNat, rfl, rfl, hy5, ex, ?_⟩
      have es : (ns.map V.int).set r2.toNat (V.int (if ns.getD r2.toNat 0 > 1 then ns.getD r2.toNat 0 else 1)) = (ns.set r2.toNat (if ns.getD r2.toNat 0 > 1 then ns.getD r2.toNat 0 else 1)).map V.int := by rw [List.map_set]
      refine ⟨_, rfl, acc, _, rfl, .inl ⟨SqL.of upd_same, fun l hl2 => ?_⟩⟩
      have kk : Kp b H H5 := (kp1'.trans kp').trans kp5
      have hHacc : H acc = none := kp1'.free hb hacc hb1
      have hb6 : Bag (upd H5 acc (.lst ((ns.map V.int).set r2.toNat (V.int (if ns.getD r2.toNat 0 > 1 then ns.getD r2.toNat 0 else 1))))) b := by
        obtain ⟨c, d, e⟩ := hb5
        exact ⟨c, d, by rw [upd_ne nacc]; exact e⟩
      refine k l (ns.set r2.toNat (if ns.getD r2.toNat 0 > 1 then ns.getD r2.toNat 0 else 1)) _ (hb6.new hl2) ((kk.acc hHacc).new hl2) ?_ ?_ ?_ ⟨(if ns.getD r2.toNat 0 > 1 then ns.getD r2.toNat 0 else 1), List.mem_of_getElem? (i := r2.toNat) (List.getElem?_set_self (by omega)), by split <;> omega⟩
      · rw [upd_same, es]
      · rw [List.length_set, hl]; omega
      · intro n hn
        rcases List.mem_or_eq_of_mem_set hn with z | z
        · exact hnn n z
        · rw [z]; have := hnn _ em2; split <;> omega
theorem scMarket : FnScope ["bag", "goods", "buyers", "most", "amounts", "purses", "wishes"] ["bag"] (defScope (top 50)) := ⟨rfl, rfl, rfl, by decide +kernel, rfl, by decide +kernel, by decide +kernel⟩
theorem ok_market {f fT fP fW : Addr} {fd dT dP dW : FuncData} (F : Fun K "_law_market" "_law_market" (top 50) f fd) (B : Nm mg) (T : Cal K mg P w base "_law_take" 1 ["bag", "many"] spTake fT dT)
    (R : Cal K mg P w base "_law_purse" 2 ["bag"] spPu fP dP) (W : Cal K mg P w base "_law_wishes" 2 ["bag", "goods"] spWi fW dW) : FnOk P w K mg base CX0 3 f fd ["bag"] spMk := by
  refine F.ok scMarket (fun vs H Q E h => ?_) (fun cdv A outer s H vs Q E hr h => ?_)
  · obtain ⟨b, rfl, _⟩ := h; rfl
  · obtain ⟨b, rfl, hb, k⟩ := h
    have hr1 : Room 1 _ := hr.mono (by decide)
    refine ⟨_, pss_cons (ps_set (i := 1) scMarket.nd rfl (Or.inr rfl) (pe_op op_add pe_int (pe_call T.ok hr1 rfl T.mg T.kp T.bd .nil pass0 (pa_cons (pv 0) (pa_cons (pe_ix ixL0 (pe_lst (pa_cons pe_int (pa_cons pe_int pa_nil))) (pe_call T.ok hr1 rfl T.mg T.kp T.bd .nil pass0 (pa_cons (pv 0) (pa_cons pe_int pa_nil))) (fun _ _ => rfl)) pa_nil)))))
      (pss_cons (ps_set (i := 2) scMarket.nd rfl (Or.inl rfl) (pe_op op_add pe_int (pe_call T.ok hr1 rfl T.mg T.kp T.bd .nil pass0 (pa_cons (pv 0) (pa_cons (pe_ix ixL0 (pe_lst (pa_cons pe_int (pa_cons pe_int pa_nil))) (pe_call T.ok hr1 rfl T.mg T.kp T.bd .nil pass0 (pa_cons (pv 0) (pa_cons pe_int pa_nil))) (fun _ _ => rfl)) pa_nil)))))
      (pss_cons (ps_set (i := 3) scMarket.nd rfl (Or.inr rfl) (pe_ix ixL0 (pe_lst (pa_cons pe_int (pa_cons pe_int (pa_cons pe_int pa_nil)))) (pe_call T.ok hr1 rfl T.mg T.kp T.bd .nil pass0 (pa_cons (pv 0) (pa_cons pe_int pa_nil))) (fun _ _ => rfl)))
      (pss_cons (ps_set (i := 4) scMarket.nd rfl (Or.inl rfl) (pe_callTy cTup0 (by rfl) B.tuple boot_tuple (pa_cons (pe_comp (own := ["k"]) (cap := ["bag", "most"]) (ix := [0, 3]) (BlkOk.of (defScope (top 50)).names ["bag", "goods", "buyers", "most", "amounts", "purses", "wishes"]) rfl (pi_range1 rfl B.range (pa_cons (pv 1) pa_nil))
        (fun C fp s H => ⟨pg_name (i := 0) (show List.Nodup (["k", "bag", "most"] : List Str) by decide +kernel) rfl (Or.inl rfl), pifs_nil, pe_op op_add pe_int (pe_call T.ok hr1 rfl T.mg T.kp T.bd .nil pass0 (pa_cons (pv 1) (pa_cons (pv 2) pa_nil)))⟩)) pa_nil)))
      (pss_cons (ps_set (i := 5) scMarket.nd rfl (Or.inl rfl) (pe_callTy cTup0 (by rfl) B.tuple boot_tuple (pa_cons (pe_comp (own := ["k"]) (cap := ["bag"]) (ix := [0]) (BlkOk.of (defScope (top 50)).names ["bag", "goods", "buyers", "most", "amounts", "purses", "wishes"]) rfl (pi_range1 rfl B.range (pa_cons (pv 2) pa_nil))
        (fun C fp s H => ⟨pg_name (i := 0) (show List.Nodup (["k", "bag"] : List Str) by decide +kernel) rfl (Or.inl rfl), pifs_nil, pe_call R.ok hr rfl R.mg R.kp R.bd .nil pass0 (pa_cons (pv 1) pa_nil)⟩)) pa_nil)))
      (pss_cons (ps_set (i := 6) scMarket.nd rfl (Or.inl rfl) (pe_callTy cTup0 (by rfl) B.tuple boot_tuple (pa_cons (pe_comp (own := ["k"]) (cap := ["bag", "goods"]) (ix := [0, 1]) (BlkOk.of (defScope (top 50)).names ["bag", "goods", "buyers", "most", "amounts", "purses", "wishes"]) rfl (pi_range1 rfl B.range (pa_cons (pv 2) pa_nil))
        (fun C fp s H => ⟨pg_name (i := 0) (show List.Nodup (["k", "bag", "goods"] : List Str) by decide +kernel) rfl (Or.inl rfl), pifs_nil, pe_call W.ok hr rfl W.mg W.kp W.bd .nil pass0 (pa_cons (pv 1) (pa_cons (pv 2) pa_nil))⟩)) pa_nil)))
      (pss_one (ps_ret (pe_tup (pa_cons (pv 4) (pa_cons (pv 5) (pa_cons (pv 6) pa_nil))))))))))), ?_⟩
    refine ⟨_, rfl, by show 2 ≤ sizeLine; decide, fun p1 hp1 => ⟨_, rfl, b, _, rfl, hb.new hp1, by decide, by decide, fun r1 H1 r1a r1b hb1 kp1 => ?_⟩⟩
    obtain ⟨m1, em1, m1a, m1b⟩ := menu2 r1a r1b
    refine ⟨p1, _, _, _, rfl, rfl, SqL.of (kp1 p1 _ (hb.ne hp1).symm upd_same), em1, b, m1, rfl, hb1, m1a, by omega, fun g H2 g0 g1 hb2 kp2 => ⟨_, _, rfl, rfl, ?_⟩⟩
    have k2 : Kp b H H2 := (((Kp.refl b H).new hp1).trans kp1).trans kp2
    refine ⟨_, rfl, by show 2 ≤ sizeLine; decide, fun p3 hp3 => ⟨_, rfl, b, _, rfl, hb2.new hp3, by decide, by decide, fun r3 H3 r3a r3b hb3 kp3 => ?_⟩⟩
    obtain ⟨m3, em3, m3a, m3b⟩ := menu2 r3a r3b
    refine ⟨p3, _, _, _, rfl, rfl, SqL.of (kp3 p3 _ (hb2.ne hp3).symm upd_same), em3, b, m3, rfl, hb3, m3a, by omega, fun u H4 u0 u1 hb4 kp4 => ⟨_, _, rfl, rfl, ?_⟩⟩
    have k4 : Kp b H H4 := ((k2.new hp3).trans kp3).trans kp4
    refine ⟨by show 3 ≤ sizeLine; decide, fun p5 hp5 => ⟨_, rfl, b, _, rfl, hb4.new hp5, by decide, by decide, fun r5 H5 r5a r5b hb5 kp5 => ?_⟩⟩
    obtain ⟨m5, em5, m5a, m5b⟩ := menu3c r5a r5b
    refine ⟨p5, _, _, _, rfl, rfl, SqL.of (kp5 p5 _ (hb4.ne hp5).symm upd_same), em5, ?_⟩
    have k5 : Kp b H H5 := (k4.new hp5).trans kp5
    refine ⟨_, rfl, 1 + g, rfl, by omega, by omega, fun a6 ha6 => ?_⟩
    refine comp_bag hb5 ha6 (by omega) RA (fun _ _ _ _ h => h) (fun i H' hi hb' kp' Z hZ => ?_) (fun am H6 hb6 kp6 hl6 hr6 hy6 => ?_)
    · exact ⟨_, rfl, _, rfl, b, m5, rfl, hb', m5a, by omega, fun r H7 q0 q1 hb7 kp7 => ⟨_, _, rfl, rfl, hZ _ _ hb7 kp7 ⟨_, rfl, by omega, by omega⟩⟩⟩
    refine ⟨a6, am, rfl, .inl ⟨SqL.of hy6, fun pa hpa => ?_⟩⟩
    have k6 := (k5.trans kp6).new (o := .tup am) hpa
    have b6 := hb6.new (o := .tup am) hpa
    refine ⟨_, rfl, 1 + u, rfl, by omega, by omega, fun a7 ha7 => ?_⟩
    refine comp_bag b6 ha7 (by omega) RP (fun _ _ _ t h => by obtain ⟨a, t1, u1, e, h1, h2⟩ := h; exact ⟨a, t1, u1, e, t _ _ h1, h2⟩) (fun i H' hi hb' kp' Z hZ => ?_) (fun pu H7 hb7 kp7 hl7 hr7 hy7 => ?_)
    · exact ⟨_, rfl, b, rfl, hb', fun v d H8 hb8 kp8 tr pu => hZ _ _ hb8 kp8 (RP.of tr pu)⟩
    refine ⟨a7, pu, rfl, .inl ⟨SqL.of hy7, fun pp hpp => ?_⟩⟩
    have k7 := (k6.trans kp7).new (o := .tup pu) hpp
    have b7 := hb7.new (o := .tup pu) hpp
    refine ⟨_, rfl, 1 + u, rfl, by omega, by omega, fun a8 ha8 => ?_⟩
    refine comp_bag b7 ha8 (by omega) (RW (1 + g)) (fun _ _ _ t h => by obtain ⟨a, ns, e, h1, h2⟩ := h; exact ⟨a, ns, e, t _ _ h1, h2⟩) (fun i H' hi hb' kp' Z hZ => ?_) (fun ws H8 hb8 kp8 hl8 hw8 hy8 => ?_)
    · exact ⟨_, rfl, _, rfl, b, 1 + g, rfl, hb', by omega, by omega, fun q ns H9 hb9 kp9 e1 e2 e3 e4 => hZ _ _ hb9 kp9 ⟨q, ns, rfl, e1, e2, e3, e4⟩⟩
    refine ⟨a8, ws, rfl, .inl ⟨SqL.of hy8, fun pw hpw => ?_⟩⟩
    have k8 := (k7.trans kp8).new (o := .tup ws) hpw
    have b8 := hb8.new (o := .tup ws) hpw
    refine ⟨_, rfl, _, rfl, _, rfl, by show 3 ≤ sizeLine; decide, fun p hp => ?_⟩
    have tB : Tm H7 (upd (upd H8 pw (.tup ws)) p (.tup [.ref pa, .ref pp, .ref pw])) := ((Tm.new hpp).trans ((kp8.tm b7).trans (Tm.new hpw))).trans (Tm.new hp)
    have tB2 : Tm (upd H7 pp (.tup pu)) (upd (upd H8 pw (.tup ws)) p (.tup [.ref pa, .ref pp, .ref pw])) := ((kp8.tm b7).trans (Tm.new hpw)).trans (Tm.new hp)
    have tA : Tm (upd H6 pa (.tup am)) (upd (upd H8 pw (.tup ws)) p (.tup [.ref pa, .ref pp, .ref pw])) := (kp7.tm b6).trans tB
    have tC : Tm H8 (upd (upd H8 pw (.tup ws)) p (.tup [.ref pa, .ref pp, .ref pw])) := (Tm.new hpw).trans (Tm.new hp)
    have hpa2 := tA pa _ upd_same
    have hpp2 := tB2 pp _ upd_same
    have hpw2 := (Tm.new (o := .tup [.ref pa, .ref pp, .ref pw]) hp) pw _ upd_same
    have hgn : ((1 + g).toNat : Int) = 1 + g := by omega
    obtain ⟨da, ta, sa⟩ := trAll (b := b) (ys := am) fun y hy => RA.tr (H := upd (upd H8 pw (.tup ws)) p (.tup [.ref pa, .ref pp, .ref pw])) (hr6 y hy)
    obtain ⟨dp, tp, sp⟩ := trAll (b := b) (ys := pu) fun y hy => RP.tr (H := upd (upd H8 pw (.tup ws)) p (.tup [.ref pa, .ref pp, .ref pw])) (by obtain ⟨a, t1, u1, e, h1, h2⟩ := hr7 y hy; exact ⟨a, t1, u1, e, tB _ _ h1, h2⟩)
    obtain ⟨dw, tw, sw⟩ := trAll (b := b) (ys := ws) fun y hy => RW.tr (g := (1 + g).toNat) (H := upd (upd H8 pw (.tup ws)) p (.tup [.ref pa, .ref pp, .ref pw])) (by obtain ⟨a, ns, e, h1, h2⟩ := hw8 y hy; exact ⟨a, ns, e, tC _ _ h1, by rw [hgn]; exact h2⟩)
    have la := ta.len
    have lp := tp.len
    have lw := tw.len
    have eg : (1 + g).toNat = da.length := by omega
    rw [eg] at sw
    obtain ⟨sw, spo⟩ := all_both sw
    refine k p da dp dw _ (b8.new hp) (k8.new hp) (.tup upd_same (.cons (.tup hpa2 ta) (.cons (.tup hpp2 tp) (.cons (.tup hpw2 tw) .nil)))) (isMk_of (by omega) (by omega) sa (by omega) (by omega) sp (by omega) sw) spo
theorem scLFr : FnScope ["thing"] ["thing"] (defScope (top 47)) := ⟨rfl, rfl, rfl, by decide +kernel, rfl, by decide +kernel, by decide +kernel⟩
theorem ok_lisfrac {f fR : Addr} {fd dR : FuncData} (F : Fun K "_law_is_fraction" "_law_is_fraction" (top 47) f fd) (N : Nm mg) (Z : IsK K) (R : Cal K mg P w base "_law_frac" 1 ["top", "bottom"] spFrac fR dR) : FnOk P w K mg base CX0 2 f fd ["thing"] (spTs isFrac) := by
  refine F.ok scLFr (fun vs H Q E h => ?_) (fun cdv A outer s H vs Q E hr h => ?_)
  · obtain ⟨b, v, d, rfl, _⟩ := h; rfl
  · obtain ⟨b, v, d, rfl, hT, hsm, k⟩ := h
    have hu := hr.units
    refine ⟨_, pss_cons (ps_if (PW.pt (pw_or (pt_not (pt_val (pIsi K (pv 0) rfl N.isinstance rfl N.tuple boot_tuple boot_isinstance))) (pw_or1 (pt_cmpR op_ne (pe_callB cLen0 (by rfl) N.len PySem.boot_len (pa_cons (pv 0) pa_nil)) pe_int (nomark _))))) (pss_one (ps_ret pe_bl)) pss_nil)
      (pss_cons (ps_if (pt_cmpR (opNeD0 hu) (pe_comp (own := ["one"]) (cap := []) (ix := []) (BlkOk.of (defScope (top 47)).names ["thing"]) rfl (piT0 (pv 0))
        (fun C fp s H => ⟨pg_name (i := 0) (show List.Nodup (["one"] : List Str) by decide +kernel) rfl (Or.inl rfl), pifs_one (PW.pt (pw_or (pt_not (pt_val (pIsi K (pv 0) rfl N.isinstance rfl N.int boot_int boot_isinstance))) (pw_or1 (pt_val (pIsi K (pv 0) rfl N.isinstance rfl N.bool boot_bool boot_isinstance))))), pv 0⟩)) (pe_lst pa_nil) (nomark _)) (pss_one (ps_ret pe_bl)) pss_nil)
      (pss_one (ps_ret (pe_and (pe_cmpR op_gt (pe_ix ixT0 (pv 0) pe_int (fun _ _ => rfl)) pe_int (nomark _)) (pe_one (pe_cmpR (opEqD0 hu) (pv 0) (pe_call R.ok hr rfl R.mg R.kp R.bd .nil pass0 (pa_cons (pe_ix ixT0 (pv 0) pe_int (fun _ _ => rfl)) (pa_cons (pe_ix ixT0 (pv 0) pe_int (fun _ _ => rfl)) pa_nil))) (nomark _))))))), ?_⟩
    obtain ⟨t1, ty1, e1⟩ := ist Z hT
    refine ⟨_, rfl, t1, _, ty1, e1, _, rfl, ?_⟩
    have hk := k H (Stay.refl H)
    rcases tupCase hT with hn | ⟨a, xs, ds, rfl, rfl, ha, hs⟩
    · rw [hn]; rw [isFrac_no hn] at hk
      exact iteT (iteT hk)
    refine iteF ?_
    have hlen := hs.len
    refine ⟨_, rfl, a, xs, rfl, .inr (SqT.of ha), rfl, _, rfl, ?_⟩
    by_cases hl : xs.length = 2
    case neg =>
      have e2 : (!decide (V.int (xs.length : Int) = V.int 2)) = true := vint_ne (b := 2) hl
      rw [e2]
      rw [isFrac_len (by omega)] at hk
      exact iteT hk
    have e2 : (!decide (V.int (xs.length : Int) = V.int 2)) = false := by rw [hl]; rfl
    rw [e2]
    refine iteF ?_
    refine ⟨_, rfl, a, rfl, ⟨xs, SqT.of ha⟩, fun acc hacc => ?_⟩
    refine comp_filt isWhole hs ha hacc (by omega) (Nat.succ_pos _) (fun x d H' st hx _ Z0 hZ => ?_) (fun ys es H' st hy tr he => ?_)
    · obtain ⟨u1, uy1, ue1⟩ := isi Z hx
      obtain ⟨u2, uy2, ue2⟩ := isb Z hx
      refine ⟨_, rfl, u1, _, uy1, ue1, _, rfl, ?_⟩
      have hz := hZ H' (Stay.refl H')
      rw [isWhole_eq] at hz
      cases hi : isI d with
      | false => rw [hi] at hz; exact iteT hz
      | true => rw [hi] at hz; exact iteF ⟨_, rfl, u2, _, uy2, ue2, _, rfl, by simpa using hz⟩
    refine ⟨by show 0 ≤ sizeLine; decide, fun q hq => ?_⟩
    have s2 : Stay H' (upd H' q (.lst [])) := (Stay.refl H').new hq
    refine ⟨.list es, .list [], .lst (SqL.of (s2 _ _ hy)) (tr.stay s2).dt, .lst (SqL.of upd_same) .nil, by show min _ 1 ≤ 60; omega, _, rfl, ?_⟩
    rw [eqv_nil, he]
    have s3 := st.trans s2
    match xs, ds, hl, hs with
    | [x, y], _, _, .cons (d := dx) hx (.cons (d := dy) hy2 .nil) =>
    have hk3 := k _ s3
    rcases intCase hx with hn | ⟨i, rfl, rfl⟩
    · have e3 : isFrac (.tuple [dx, dy]) = false := by cases dx <;> first | rfl | cases hn
      rw [e3] at hk3
      have e4 : (!List.all [dx, dy] isWhole) = true := by simp [hn]
      rw [e4]
      exact iteT hk3
    rcases intCase hy2 with hn | ⟨j, rfl, rfl⟩
    · have e3 : isFrac (.tuple [.int i, dy]) = false := by cases dy <;> first | rfl | cases hn
      rw [e3] at hk3
      have e4 : (!List.all [.int i, dy] isWhole) = true := by simp [hn]
      rw [e4]
      exact iteT hk3
    refine iteF ?_
    have ha3 := s3 _ _ ha
    refine ⟨_, rfl, a, _, _, _, rfl, rfl, SqT.of ha3, rfl, _, _, rfl, rfl, _, rfl, ?_⟩
    have hk2 : Q (.bl (decide ((1 : Int) ≤ j) && decide (Int.gcd i j = 1))) _ := hk3
    have hsm' : -1073741824 < j ∧ j < 1073741824 := by
      have : small (.int j) = true := smalls_mem (ds := [.int i, .int j]) hsm (by simp)
      have h2 : (decide (-1073741824 < j) && decide (j < 1073741824)) = true := this
      simpa using h2
    by_cases hj : 0 < j
    · rw [decide_eq_true (show (1 : Int) ≤ j by omega)] at hk2
      rw [decide_eq_true hj]
      refine iteT ⟨_, rfl, _, rfl, a, _, _, _, rfl, rfl, SqT.of ha3, rfl, _, rfl, a, _, _, _, rfl, rfl, SqT.of ha3, rfl, i, j, rfl, hj, hsm'.2, fun p hp => ?_⟩
      have s4 : Stay _ (upd (upd H' q (.lst [])) p (.tup [.int (i / (Int.gcd i j : Int)), .int (j / (Int.gcd i j : Int))])) := (Stay.refl (upd H' q (.lst []))).new hp
      refine ⟨.tuple [.int i, .int j], .tuple [.int (i / (Int.gcd i j : Int)), .int (j / (Int.gcd i j : Int))], .tup (SqT.of (s4 _ _ ha3)) (.cons (.int i) (.cons (.int j) .nil)), .tup (SqT.of upd_same) (.cons (.int _) (.cons (.int _) .nil)), ?_, ?_⟩
      · simp [PyData.depth, PyData.depthAll]
      · rw [frac_low hj]
        have := k _ (s3.trans s4)
        have e5 : isFrac (.tuple [.int i, .int j]) = decide (Int.gcd i j = 1) := by
          show (decide ((1 : Int) ≤ j) && decide (Int.gcd i j = 1)) = _
          rw [decide_eq_true (show (1 : Int) ≤ j by omega)]; rfl
        rw [e5] at this
        exact this
    · rw [decide_eq_false (show ¬ (1 : Int) ≤ j by omega)] at hk2
      rw [decide_eq_false hj]
      exact iteF hk2
theorem scOdd : FnScope ["bag", "some"] ["bag"] (defScope (top 55)) := ⟨rfl, rfl, rfl, by decide +kernel, rfl, by decide +kernel, by decide +kernel⟩
theorem ok_odd {f fT : Addr} {fd dT : FuncData} (F : Fun K "_law_odd" "_law_odd" (top 55) f fd) (T : Cal K mg P w base "_law_take" 1 ["bag", "many"] spTake fT dT) : FnOk P w K mg base CX0 2 f fd ["bag"] spOdd := by
  refine F.ok scOdd (fun vs H Q E h => ?_) (fun cdv A outer s H vs Q E hr h => ?_)
  · obtain ⟨b, rfl, _⟩ := h; rfl
  · obtain ⟨b, rfl, hb, k⟩ := h
    refine ⟨_, pss_cons (ps_set (i := 1) scOdd.nd rfl (Or.inl rfl) (pe_lit 5 _ (.list (oddL.take 18)) (by kernel_rfl)))
      (pss_one (ps_ret (pe_ix ixL0 (pe_op op_cat (pv 1) (pe_lit 5 _ (.list (oddL.drop 18)) (by kernel_rfl)))
        (pe_call T.ok hr rfl T.mg T.kp T.bd .nil pass0 (pa_cons (pv 0) (pa_cons pe_int pa_nil))) (fun _ _ => rfl)))), ?_⟩
    have nb : H b ≠ none := by obtain ⟨c, d, e⟩ := hb; rw [e]; simp
    intro v1 H1 s1 t1 _
    refine ⟨_, rfl, ?_⟩
    intro v2 H2 s2 t2 _
    have t2' := t2 b (ne_stay s1 nb)
    have t1' := (t1 b nb).stay s2
    cases t1' with
    | @lst q1 xs1 _ n1 e1 l1 =>
    cases t2' with
    | @lst q2 xs2 _ n2 e2 l2 =>
    have len1 := l1.len
    have len2 := l2.len
    have la : (oddL.take 18).length = 18 := by decide
    have lb : (oddL.drop 18).length = 6 := by decide
    refine ⟨_, _, _, _, rfl, rfl, e1, e2, by rw [sz]; omega, fun pc hpc => ?_⟩
    have s3 := (s1.trans s2).new (o := .lst (xs1 ++ xs2)) hpc
    have hb3 := Bag.stay hb s3
    refine ⟨_, rfl, b, _, rfl, hb3, by decide, by decide, fun r H3 r0 r1 hb4 kp4 => ?_⟩
    have l12 := ((l1.app l2).stay ((Stay.refl H2).new (o := .lst (xs1 ++ xs2)) hpc)).kp kp4 hb3
    have hpb : pc ≠ b := fun z => by
      have : H2 b ≠ none := ne_stay (s1.trans s2) nb
      rw [← z] at this; exact this hpc
    have epc := kp4 pc _ hpb upd_same
    obtain ⟨x, d, ex, ea, ed, tx⟩ := trAt l12 r0 (by rw [List.length_append]; omega)
    refine ⟨pc, _, _, _, rfl, rfl, SqL.of epc, ea, ?_⟩
    refine k x d H3 hb4 ((Stay.kpb s3).trans kp4) tx ?_
    have := List.mem_of_getElem? ed
    rwa [List.take_append_drop] at this
theorem scRep : FnScope ["bag", "thing", "deep", "at", "way"] ["bag", "thing", "deep"] (defScope (top 56)) := ⟨rfl, rfl, rfl, by decide +kernel, rfl, by decide +kernel, by decide +kernel⟩
theorem ok_rep {f fT fO : Addr} {fd dT dO : FuncData} (F : Fun K "_law_replaced" "_law_replaced" (top 56) f fd) (N : Nm mg) (Z : IsK K) (T : Cal K mg P w base "_law_take" 1 ["bag", "many"] spTake fT dT) (O : Cal K mg P w base "_law_odd" 2 ["bag"] spOdd fO dO)
    (hmg : mg "_law_replaced" = some (.ref f)) (hkp : PySem.W.keepIn K (.ref f) = true) (hbd : Binds K fd ["bag", "thing", "deep"] []) : ∀ m : Nat, FnOk P w K mg base CX0 (m + 2) f fd ["bag", "thing", "deep"] (spRep m)
  | 0 => ⟨fun vs H Q E h => (by obtain ⟨b, v, d, deep, n, _, h, _⟩ := h; omega), fun A outer s H args us vs Q E hr he hb hv hs => (by obtain ⟨b, v, d, deep, n, _, h, _⟩ := hs; omega)⟩
  | m + 1 => by
    have Rc := ok_rep F N Z T O hmg hkp hbd m
    refine F.ok scRep (fun vs H Q E h => ?_) (fun cdv A outer s H vs Q E hr h => ?_)
    · obtain ⟨b, v, d, deep, n, rfl, _⟩ := h; rfl
    · obtain ⟨b, v, d, deep, n, rfl, hdm, hb, hT, hsm, hln, hn3, hn50, k⟩ := h
      have hu := hr.units
      have hr1 : Room 1 _ := hr.mono (by omega)
      have hr2 : Room 2 _ := hr.mono (by omega)
      refine ⟨_, pss_cons (ps_if (PW.pt (pw_or (pt_cmpR op_eq (pv 2) pe_int (nomark _)) (pw_or (pt_not (pt_val (pIsi K (pv 1) rfl N.isinstance rfl N.tuple boot_tuple boot_isinstance))) (pw_or (pt_cmpR (opEqD0 hu) (pv 1) (pe_tup pa_nil) (nomark _)) (pw_or1 (pt_cmpR op_eq (pe_call T.ok hr1 rfl T.mg T.kp T.bd .nil pass0 (pa_cons (pv 0) (pa_cons pe_int pa_nil))) pe_int (nomark _)))))))
          (pss_one (ps_ret (pe_call O.ok hr2 rfl O.mg O.kp O.bd .nil pass0 (pa_cons (pv 0) pa_nil)))) pss_nil)
        (pss_cons (ps_set (i := 3) scRep.nd rfl (Or.inl rfl) (pe_call T.ok hr1 rfl T.mg T.kp T.bd .nil pass0 (pa_cons (pv 0) (pa_cons (pe_callB cLen0 (by rfl) N.len PySem.boot_len (pa_cons (pv 1) pa_nil)) pa_nil))))
        (pss_cons (ps_set (i := 4) scRep.nd rfl (Or.inl rfl) (pe_call T.ok hr1 rfl T.mg T.kp T.bd .nil pass0 (pa_cons (pv 0) (pa_cons pe_int pa_nil))))
        (pss_cons (ps_if (pt_cmpR op_eq (pv 4) pe_int (nomark _)) (pss_one (ps_ret (pe_op op_catA (pe_slice sl_tupA (pv 1) po_none (po_some (pv 3))) (pe_slice sl_tupA (pv 1) (po_some (pe_op op_add (pv 3) pe_int)) po_none)))) pss_nil)
        (pss_cons (ps_if (pt_cmpR op_eq (pv 4) pe_int (nomark _)) (pss_one (ps_ret (pe_op op_catA (pe_op op_catA (pe_slice sl_tupA (pv 1) po_none (po_some (pv 3))) (pe_tup (pa_cons (pe_ix ixT0 (pv 1) (pv 3) (fun _ _ => rfl)) pa_nil))) (pe_slice sl_tupA (pv 1) (po_some (pv 3)) po_none)))) pss_nil)
        (pss_cons (ps_if (pt_cmpR op_eq (pv 4) pe_int (nomark _)) (pss_one (ps_ret (pe_callTy cLst0 (by rfl) N.list boot_list (pa_cons (pv 1) pa_nil)))) pss_nil)
        (pss_one (ps_ret (pe_op op_catA (pe_op op_catA (pe_slice sl_tupA (pv 1) po_none (po_some (pv 3))) (pe_tup (pa_cons (pe_call Rc hr rfl hmg hkp hbd .nil pass0 (pa_cons (pv 0) (pa_cons (pe_ix ixT0 (pv 1) (pv 3) (fun _ _ => rfl)) (pa_cons (pe_op op_sub (pv 2) pe_int) pa_nil)))) pa_nil))) (pe_slice sl_tupA (pv 1) (po_some (pe_op op_add (pv 3) pe_int)) po_none))))))))), ?_⟩
      have hodd : ∀ H1, Bag H1 b → Kp b H H1 → ∀ σ : St, σ[0]? = some (some (.ref b)) → (tCall spOdd [] E0 (tCons (tVar 0) tNil)) σ H1 Q := fun H1 hb1 kp1 σ hσ =>
        ⟨_, hσ, b, rfl, hb1, fun v' d' H' hb' kp' tr hm => by
          obtain ⟨_, o2, o3⟩ := oddL_ok d' hm
          exact k v' d' H' hb' (kp1.trans kp') tr o2 (ln_mono (by omega) o3)⟩
      refine ⟨_, rfl, rfl, _, rfl, ?_⟩
      by_cases hd0 : deep = 0
      · subst hd0
        exact iteT (iteT (hodd H hb (Kp.refl b H) _ rfl))
      have e0 : decide (V.int (deep : Int) = V.int 0) = false := by
        rw [decide_eq_false_iff_not]
        intro h; injection h with h; omega
      rw [e0]
      refine iteF ?_
      obtain ⟨t1, ty1, e1⟩ := ist Z hT
      refine ⟨_, rfl, t1, _, ty1, e1, _, rfl, ?_⟩
      rcases tupCase hT with hn | ⟨a, xs, ds, rfl, rfl, ha, hs⟩
      · rw [hn]
        exact iteT (iteT (hodd H hb (Kp.refl b H) _ rfl))
      refine iteF ?_
      refine ⟨_, rfl, by show 0 ≤ sizeLine; decide, fun q hq => ?_⟩
      have sq := (Stay.refl H).new (o := .tup []) hq
      refine ⟨.tuple ds, .tuple [], .tup (SqT.of (sq _ _ ha)) (hs.stay sq).dt, .tup (SqT.of upd_same) .nil, by show min _ 1 ≤ 60; omega, _, rfl, ?_⟩
      rw [eqv_tnil]
      have hbq := Bag.stay hb sq
      cases hem : ds.isEmpty with
      | true => exact iteT (iteT (hodd _ hbq (Stay.kpb sq) _ rfl))
      | false =>
      refine iteF ?_
      refine ⟨_, rfl, b, _, rfl, hbq, by decide, by decide, fun r1 H1 r1a r1b hb1 kp1 => ⟨rfl, _, rfl, ?_⟩⟩
      have k1 : Kp b H H1 := (Stay.kpb sq).trans kp1
      refine ite2 (fun _ => hodd H1 hb1 k1 _ rfl) (fun _ => ?_)
      have lnd := ln_t.mp hln
      have smd := smalls_t hsm
      have hlen := hs.len
      have hpos : 0 < ds.length := by
        cases ds with
        | nil => cases hem
        | cons _ _ => simp
      have tm1 := k1.tm hb
      refine ⟨_, rfl, _, rfl, a, xs, rfl, .inr (SqT.of (tm1 _ _ ha)), b, _, rfl, hb1, by omega, by omega, fun r H2 r0 rl hb2 kp2 => ?_⟩
      refine ⟨_, rfl, b, _, rfl, hb2, by decide, by decide, fun wy H3 _ _ hb3 kp3 => ?_⟩
      have k3 : Kp b H H3 := (k1.trans kp2).trans kp3
      have ha3 := k3.tm hb _ _ ha
      have hs3 := hs.kp k3 hb
      obtain ⟨x, dx, ex, eax, edx, tx⟩ := trAt hs3 r0 rl
      have hto := cut_to (xs := xs) r0 rl
      have hfr := cut_from (xs := xs) (r := r + 1) (by omega) (by omega)
      have hfr0 := cut_from (xs := xs) r0 (by omega)
      have er1 : (r + 1).toNat = r.toNat + 1 := by omega
      rw [er1] at hfr
      have mem_to : ∀ d ∈ ds.take r.toNat, d ∈ ds := fun d hd => List.mem_of_mem_take hd
      have mem_fr : ∀ j, ∀ d ∈ ds.drop j, d ∈ ds := fun j d hd => List.mem_of_mem_drop hd
      have hdx := List.mem_of_getElem? edx
      refine ⟨_, rfl, rfl, _, rfl, ite2 (fun _ => ?_) (fun _ => ?_)⟩
      · -- left out
        refine ⟨_, rfl, _, rfl, _, rfl, a, xs, rfl, ha3, fun p1 H4 s4 hp1 => ?_⟩
        refine ⟨_, rfl, _, rfl, _, _, rfl, rfl, _, rfl, a, xs, rfl, s4 _ _ ha3, fun p2 H5 s5 hp2 => ?_⟩
        rw [hto] at hp1
        rw [hfr] at hp2
        refine ⟨p1, p2, _, _, rfl, rfl, s5 _ _ hp1, hp2, ?_, fun p3 H6 s6 hp3 => ?_⟩
        · rw [List.length_take, List.length_drop, sz]; omega
        have s46 := (s4.trans s5).trans s6
        refine k _ (.tuple (ds.take r.toNat ++ ds.drop (r.toNat + 1))) H6 (Bag.stay hb3 s46) (k3.trans (Stay.kpb s46)) (.tup hp3 (((hs3.take _).app (hs3.drop _)).stay s46)) (small_t fun d hd => ?_) (ln_t.mpr ⟨?_, fun d hd => ?_⟩)
        · rcases List.mem_append.mp hd with z | z
          · exact smd d (mem_to d z)
          · exact smd d (mem_fr _ d z)
        · rw [List.length_append, List.length_take, List.length_drop]; omega
        · refine ln_mono (Nat.le_succ n) ?_
          rcases List.mem_append.mp hd with z | z
          · exact lnd.2 d (mem_to d z)
          · exact lnd.2 d (mem_fr _ d z)
      refine ⟨_, rfl, rfl, _, rfl, ite2 (fun _ => ?_) (fun _ => ?_)⟩
      · -- told twice
        refine ⟨_, rfl, _, rfl, _, rfl, a, xs, rfl, ha3, fun p1 H4 s4 hp1 => ?_⟩
        rw [hto] at hp1
        refine ⟨_, rfl, _, rfl, a, _, _, _, rfl, rfl, SqT.of (s4 _ _ ha3), eax, by show 1 ≤ sizeLine; decide, fun p2 hp2 => ?_⟩
        have s5 := (Stay.refl H4).new (o := .tup [x]) hp2
        refine ⟨p1, p2, _, _, rfl, rfl, s5 _ _ hp1, upd_same, ?_, fun p3 H6 s6 hp3 => ?_⟩
        · rw [List.length_take, sz]; show _ + 1 ≤ _; omega
        have s46 := (s4.trans s5).trans s6
        refine ⟨_, rfl, _, rfl, _, rfl, a, xs, rfl, s46 _ _ ha3, fun p4 H7 s7 hp4 => ?_⟩
        rw [hfr0] at hp4
        refine ⟨p3, p4, _, _, rfl, rfl, s7 _ _ hp3, hp4, ?_, fun p5 H8 s8 hp5 => ?_⟩
        · rw [List.length_append, List.length_take, List.length_drop, sz]; show _ + 1 + _ ≤ _; omega
        have s48 := (s46.trans s7).trans s8
        refine k _ (.tuple (ds.take r.toNat ++ [dx] ++ ds.drop r.toNat)) H8 (Bag.stay hb3 s48) (k3.trans (Stay.kpb s48)) (.tup hp5 ((((hs3.take _).app (.cons tx .nil)).app (hs3.drop _)).stay s48)) (small_t fun d hd => ?_) (ln_t.mpr ⟨?_, fun d hd => ?_⟩)
        · rcases List.mem_append.mp hd with z | z
          · rcases List.mem_append.mp z with z | z
            · exact smd d (mem_to d z)
            · obtain rfl : d = dx := by simpa using z
              exact smd d hdx
          · exact smd d (mem_fr _ d z)
        · rw [List.length_append, List.length_append, List.length_take, List.length_drop]; show _ + 1 + _ ≤ _; omega
        · refine ln_mono (Nat.le_succ n) ?_
          rcases List.mem_append.mp hd with z | z
          · rcases List.mem_append.mp z with z | z
            · exact lnd.2 d (mem_to d z)
            · obtain rfl : d = dx := by simpa using z
              exact lnd.2 d hdx
          · exact lnd.2 d (mem_fr _ d z)
      refine ⟨_, rfl, rfl, _, rfl, ite2 (fun _ => ?_) (fun _ => ?_)⟩
      · -- a list
        refine ⟨_, rfl, a, xs, rfl, .inr (SqT.of ha3), fun l hl => ?_⟩
        have s4 := (Stay.refl H3).new (o := .lst xs) hl
        have nlb : l ≠ b := fun z => by
          obtain ⟨c', d', e'⟩ := hb3
          rw [z, e'] at hl; cases hl
        exact k _ (.list ds) _ (Bag.stay hb3 s4) (k3.trans (Stay.kpb s4)) (.lst nlb upd_same (hs3.stay s4)) (small_l smd) (ln_l.mpr ⟨by omega, fun d hd => ln_mono (by omega) (lnd.2 d hd)⟩)
      · -- put otherwise
        refine ⟨_, rfl, _, rfl, _, rfl, a, xs, rfl, ha3, fun p1 H4 s4 hp1 => ?_⟩
        rw [hto] at hp1
        have hb4 := Bag.stay hb3 s4
        refine ⟨_, rfl, _, rfl, _, rfl, a, _, _, _, rfl, rfl, SqT.of (s4 _ _ ha3), eax, _, rfl, _, _, rfl, rfl, b, x, dx, deep - 1, n, ?_, by omega, hb4, tx.stay s4, smd dx hdx, lnd.2 dx hdx, hn3, hn50, fun x' dx' H5 hb5 kp5 tx' smx lnx => ?_⟩
        · show [V.ref b, x, V.int ((deep : Int) - 1)] = _
          have : ((deep : Int) - 1) = ((deep - 1 : Nat) : Int) := by omega
          rw [this]
        refine ⟨by show 1 ≤ sizeLine; decide, fun p2 hp2 => ?_⟩
        have s5 := (Stay.refl H5).new (o := .tup [x']) hp2
        have tm5 := kp5.tm hb4
        refine ⟨p1, p2, _, _, rfl, rfl, s5 _ _ (tm5 _ _ hp1), upd_same, ?_, fun p3 H6 s6 hp3 => ?_⟩
        · rw [List.length_take, sz]; show _ + 1 ≤ _; omega
        have s56 := s5.trans s6
        refine ⟨_, rfl, _, rfl, _, _, rfl, rfl, _, rfl, a, xs, rfl, s56 _ _ (tm5 _ _ (s4 _ _ ha3)), fun p4 H7 s7 hp4 => ?_⟩
        rw [hfr] at hp4
        refine ⟨p3, p4, _, _, rfl, rfl, s7 _ _ hp3, hp4, ?_, fun p5 H8 s8 hp5 => ?_⟩
        · rw [List.length_append, List.length_take, List.length_drop, sz]; show _ + 1 + _ ≤ _; omega
        have s58 := (s56.trans s7).trans s8
        have hs5 := (hs3.stay s4).kp kp5 hb4
        refine k _ (.tuple (ds.take r.toNat ++ [dx'] ++ ds.drop (r.toNat + 1))) H8 (Bag.stay hb5 s58) (((k3.trans (Stay.kpb s4)).trans kp5).trans (Stay.kpb s58)) (.tup hp5 ((((hs5.take _).app (.cons tx' .nil)).app (hs5.drop _)).stay s58)) (small_t fun d hd => ?_) (ln_t.mpr ⟨?_, fun d hd => ?_⟩)
        · rcases List.mem_append.mp hd with z | z
          · rcases List.mem_append.mp z with z | z
            · exact smd d (mem_to d z)
            · obtain rfl : d = dx' := by simpa using z
              exact smx
          · exact smd d (mem_fr _ d z)
        · rw [List.length_append, List.length_append, List.length_take, List.length_drop]; show _ + 1 + _ ≤ _; omega
        · rcases List.mem_append.mp hd with z | z
          · rcases List.mem_append.mp z with z | z
            · exact ln_mono (by omega) (lnd.2 d (mem_to d z))
            · obtain rfl : d = dx' := by simpa using z
              exact lnx
          · exact ln_mono (by omega) (lnd.2 d (mem_fr _ d z))
end
end K26
set_option Elab.async false
set_option linter.all false
set_option maxRecDepth 100000
set_option maxHeartbeats 4000000
namespace K26
open PySem L2 KG EX KM
section
variable {P : Program} {w : World} {K : PySem.W.Frag} {mg : Str → Option Value} {base : Heap}
theorem scGcdN : FnScope ["one", "other"] ["one", "other"] (defScope (top 16)) := ⟨rfl, rfl, rfl, by decide +kernel, rfl, by decide +kernel, by decide +kernel⟩
theorem ok_gcdN {f : Addr} {fd : FuncData} (F : Fun K "common_divisor" "common_divisor" (top 16) f fd) (N : Nm mg) : FnOk P w K mg base CX0 1 f fd ["one", "other"] spGcdN := by
  refine F.ok scGcdN (fun vs H Q E h => ?_) (fun cdv A outer s H vs Q E hr h => ?_)
  · obtain ⟨t, u, rfl, _⟩ := h; rfl
  · obtain ⟨t, u, rfl, k⟩ := h
    refine ⟨_, pss_cons (ps_while PassesOwn.never (pt_cmpR op_ne (pv 1) pe_int (nomark _)) (pss_one (ps_par (i := 0) (j := 1) rfl scGcdN.nd rfl rfl (by decide) rfl rfl (pa_cons (pv 1) (pa_cons (pe_op op_modN (pv 0) (pv 1)) pa_nil)) (by rfl))))
      (pss_one (ps_ret (pe_callB call_abs (by rfl) N.abs boot_abs (pa_cons (pv 0) pa_nil)))), ?_⟩
    refine while_by (fun σ H' => H' = H ∧ ∃ a c : Int, σ = [some (.int a), some (.int c)] ∧ Int.gcd a c = Int.gcd t u)
      (fun σ _ => match σ with | [_, some (.int c)] => c.natAbs | _ => 0) ⟨rfl, t, u, rfl, rfl⟩ ?_ ?_
    · rintro σ H' ⟨rfl, a, c, rfl, e⟩
      refine ⟨_, rfl, rfl, _, rfl, ?_⟩
      by_cases hc : c = 0
      · subst hc
        refine iteF ?_
        refine ⟨_, rfl, _, rfl, ?_⟩
        rw [abs_gcd0, e]
        exact k
      · have e1 : (!decide (V.int c = V.int 0)) = true := by simp [hc]
        rw [e1]
        refine iteT ?_
        exact ⟨_, rfl, _, rfl, _, rfl, _, _, rfl, rfl, hc, _, _, rfl, ⟨rfl, c, a.fmod c, rfl, gcd_fmod.trans e⟩, fmod_lt hc⟩
    · rintro σ H' Q1 Q2 himp ⟨v, e, sc, kk, ek, q⟩
      exact ⟨v, e, sc, kk, ek, himp _ _ q⟩
theorem scFr : FnScope ["top", "bottom", "divisor"] ["top", "bottom"] (defScope (top 17)) := ⟨rfl, rfl, rfl, by decide +kernel, rfl, by decide +kernel, by decide +kernel⟩
theorem ok_fraction {f fG Nn : Addr} {fd dG : FuncData} (F : Fun K "fraction" "fraction" (top 17) f fd) (mgNn : mg "NoNumber" = some (.ref Nn)) (exN : PySem.W.excIn K Nn [.type "ValueError", .type "Exception", .type "BaseException", .type "object"] "ValueError.__new__" = true) (G : Cal K mg P w base "common_divisor" 1 ["one", "other"] spGcdN fG dG) : FnOk P w K mg base (CXF P w) 2 f fd ["top", "bottom"] (spFr Nn) := by
  refine F.okX scFr (fun vs H Q E h => ?_) (fun cdv A outer s H vs Q E hr h => ?_)
  · obtain ⟨t, u, rfl, _⟩ := h; rfl
  · obtain ⟨t, u, rfl, hb, k0, k1⟩ := h
    refine ⟨_, pss_cons (ps_if (pt_cmpR op_eq (pv 1) pe_int (nomark _)) (pss_one (ps_raise PySem.F.excBase_ValueError rfl mgNn exN (pa_cons pe_str pa_nil))) pss_nil)
      (pss_cons (ps_set (i := 2) scFr.nd rfl (Or.inl rfl) (pe_call G.ok hr rfl G.mg G.kp G.bd .nil pass0 (pa_cons (pv 0) (pa_cons (pv 1) pa_nil))))
      (pss_cons (ps_if (pt_cmpR op_lt (pv 1) pe_int (nomark _)) (pss_one (ps_set (i := 2) scFr.nd rfl (Or.inl rfl) (pe_un un_neg (pv 2)))) pss_nil)
      (pss_one (ps_ret (pe_tup (pa_cons (pe_op op_fdivBN (pv 0) (pv 2)) (pa_cons (pe_op op_fdivBN (pv 1) (pv 2)) pa_nil))))))), ?_⟩
    refine ⟨_, rfl, rfl, _, rfl, ?_⟩
    by_cases hu : u = 0
    · subst hu
      exact iteT ⟨by show 1 ≤ sizeLine; decide, k0 rfl⟩
    have e1 : decide (V.int u = V.int 0) = false := by simp [hu]
    rw [e1]
    refine iteF ?_
    refine ⟨_, rfl, _, rfl, t, u, rfl, ?_⟩
    refine ⟨_, rfl, _, _, rfl, rfl, _, rfl, ?_⟩
    have hs := (nf_spec (t := t) hu).2.2.2.1
    have hsb := sg_bd (t := t) hb hu
    obtain ⟨q1, q2⟩ := nf_rat (T := t) hu
    have k1' : ∀ p, H p = none → Q (.ref p) (upd H p (.tup [.int (nx t u), .int (ny t u)])) := fun p hp => by rw [q1, q2]; exact k1 hu p hp
    have fin : ∀ d : Int, d = sg t u → (tRet (tTup (tCons (tOp (rI (fun _ j => j ≠ 0 ∧ Bd 8000 j) fun i j => .int (i.fdiv j)) (tVar 0) (tVar 2)) (tCons (tOp (rI (fun _ j => j ≠ 0 ∧ Bd 8000 j) fun i j => .int (i.fdiv j)) (tVar 1) (tVar 2)) tNil)))) { nx := fun _ H' => Q .non H', rt := Q } [some (.int t), some (.int u), some (.int d)] H := fun d hd => by
      subst hd
      exact ⟨_, rfl, _, rfl, _, _, rfl, rfl, ⟨hs, hsb⟩, _, rfl, _, rfl, _, _, rfl, rfl, ⟨hs, hsb⟩, by show 2 ≤ sizeLine; decide, fun p hp => k1' p hp⟩
    by_cases hn : u < 0
    · rw [decide_eq_true hn]
      exact iteT ⟨_, rfl, _, rfl, fin _ (by unfold sg; rw [if_pos hn])⟩
    · rw [decide_eq_false hn]
      exact iteF (fin _ (by unfold sg; rw [if_neg hn]))
theorem scLf : FnScope ["top", "bottom", "one", "other", "by"] ["top", "bottom"] (defScope (top 40)) := ⟨rfl, rfl, rfl, by decide +kernel, rfl, by decide +kernel, by decide +kernel⟩
theorem ok_lf {f : Addr} {fd : FuncData} (F : Fun K "_law_frac" "_law_frac" (top 40) f fd) (B : Nm mg) : FnOk P w K mg base CX0 1 f fd ["top", "bottom"] spLf := by
  refine F.ok scLf (fun vs H Q E h => ?_) (fun cdv A outer s H vs Q E hr h => ?_)
  · obtain ⟨t, u, rfl, _⟩ := h; rfl
  · obtain ⟨t, u, rfl, u0, u1, k⟩ := h
    refine ⟨_, pss_cons (ps_par (i := 2) (j := 3) rfl scLf.nd rfl rfl (by decide) rfl rfl (pa_cons (pv 0) (pa_cons (pv 1) pa_nil)) (by rfl))
      (pss_cons (ps_while PassesOwn.never (pt_cmpR op_ne (pv 3) pe_int (nomark _)) (pss_one (ps_par (i := 2) (j := 3) rfl scLf.nd rfl rfl (by decide) rfl rfl (pa_cons (pv 3) (pa_cons (pe_op op_modN (pv 2) (pv 3)) pa_nil)) (by rfl))))
      (pss_cons (ps_set (i := 4) scLf.nd rfl (Or.inl rfl) (pe_op op_mul (pe_callB call_abs (by rfl) B.abs boot_abs (pa_cons (pv 2) pa_nil)) (pe_op op_sub pe_int (pe_op op_mul pe_int (pe_callTy call_int1 (by rfl) B.int boot_int (pa_cons (pe_cmpR op_lt (pv 1) pe_int (nomark _)) pa_nil))))))
      (pss_one (ps_ret (pe_tup (pa_cons (pe_op op_fdivBN (pv 0) (pv 4)) (pa_cons (pe_op op_fdivBN (pv 1) (pv 4)) pa_nil))))))), ?_⟩
    have hu : u ≠ 0 := by omega
    obtain ⟨q1, q2⟩ := nf_rat (T := t) hu
    have k' : ∀ p, H p = none → Q (.ref p) (upd H p (.tup [.int (nx t u), .int (ny t u)])) := fun p hp => by rw [q1, q2]; exact k p hp
    have hs := (nf_spec (t := t) hu).2.2.2.1
    have hsb := sg_bd (t := t) u1 hu
    have esg : (Int.gcd t u : Int) = sg t u := by unfold sg; rw [if_neg (by omega)]
    refine ⟨_, rfl, _, rfl, _, _, rfl, ?_⟩
    refine while_by (fun σ H' => H' = H ∧ ∃ a c : Int, σ = [some (.int t), some (.int u), some (.int a), some (.int c), none] ∧ Int.gcd a c = Int.gcd t u)
      (fun σ _ => match σ with | [_, _, _, some (.int c), _] => c.natAbs | _ => 0) ⟨rfl, t, u, rfl, rfl⟩ ?_ ?_
    · rintro σ H' ⟨rfl, a, c, rfl, e⟩
      refine ⟨_, rfl, rfl, _, rfl, ?_⟩
      by_cases hc : c = 0
      · subst hc
        refine iteF ?_
        refine ⟨_, rfl, _, rfl, _, rfl, _, _, rfl, rfl, .inr ⟨_, rfl, _, _, rfl, rfl, .inl ⟨by decide, by decide⟩, _, _, rfl, rfl, ?_⟩⟩
        have e2 : decide (u < 0) = false := decide_eq_false (by omega)
        rw [abs_gcd0, e, e2, esg]
        have e3 : sg t u * (1 - 2 * (if false = true then (1 : Int) else 0)) = sg t u := by simp
        refine ⟨_, _, rfl, rfl, .inr ⟨by decide, by decide⟩, ?_⟩
        show gName 4 (V.int (sg t u * (1 - 2 * (if false = true then (1 : Int) else 0)))) _ _ _
        rw [e3]
        exact ⟨_, rfl, _, rfl, _, _, rfl, rfl, ⟨hs, hsb⟩, _, rfl, _, rfl, _, _, rfl, rfl, ⟨hs, hsb⟩, by show 2 ≤ sizeLine; decide, fun p hp => k' p hp⟩
      · have e1 : (!decide (V.int c = V.int 0)) = true := by simp [hc]
        rw [e1]
        refine iteT ?_
        exact ⟨_, rfl, _, rfl, _, rfl, _, _, rfl, rfl, hc, _, _, rfl, ⟨rfl, c, a.fmod c, rfl, gcd_fmod.trans e⟩, fmod_lt hc⟩
    · rintro σ H' Q1 Q2 himp ⟨v, e, sc, kk, ek, q⟩
      exact ⟨v, e, sc, kk, ek, himp _ _ q⟩
theorem sc_plus : FnScope ["one", "other"] ["one", "other"] (defScope (top 18)) := ⟨rfl, rfl, rfl, by decide +kernel, rfl, by decide +kernel, by decide +kernel⟩
theorem ok_plus {f fF Nn : Addr} {fd dF : FuncData} (F : Fun K "plus" "plus" (top 18) f fd) (G : CalX K mg P w base "fraction" 2 ["top", "bottom"] (spFr Nn) fF dF) : FnOk P w K mg base (CXF P w) 3 f fd ["one", "other"] (sp2 qPl) := by
  refine F.okX sc_plus (fun vs H Q E h => ?_) (fun cdv A outer s H vs Q E hr h => ?_)
  · obtain ⟨p, q, a, b, rfl, _⟩ := h; rfl
  · obtain ⟨p, q, a, b, rfl, hp, hq, ⟨ba, bb⟩, ⟨bc, bd⟩, k⟩ := h
    have hb := den_pos a
    have hd := den_pos b
    refine ⟨_, pss_one (ps_ret (pe_call G.ok hr rfl G.mg G.kp G.bd .nil passF (pa_cons (pe_op op_add (pe_op op_mulB (pe_ix ixT0 (pv 0) pe_int (fun _ _ => rfl)) (pe_ix ixT0 (pv 1) pe_int (fun _ _ => rfl))) (pe_op op_mulB (pe_ix ixT0 (pv 1) pe_int (fun _ _ => rfl)) (pe_ix ixT0 (pv 0) pe_int (fun _ _ => rfl)))) (pa_cons (pe_op op_mulB (pe_ix ixT0 (pv 0) pe_int (fun _ _ => rfl)) (pe_ix ixT0 (pv 1) pe_int (fun _ _ => rfl))) pa_nil)))), ?_⟩
    refine ⟨_, rfl, p, _, _, _, rfl, rfl, SqT.of hp, rfl, _, rfl, q, _, _, _, rfl, rfl, SqT.of hq, rfl, _, _, rfl, rfl, ⟨b3 ba, b3 bd⟩, _, rfl, q, _, _, _, rfl, rfl, SqT.of hq, rfl, _, rfl, p, _, _, _, rfl, rfl, SqT.of hp, rfl, _, _, rfl, rfl, ⟨b3 bc, b3 bb⟩, _, _, rfl, rfl, _, rfl, p, _, _, _, rfl, rfl, SqT.of hp, rfl, _, rfl, q, _, _, _, rfl, rfl, SqT.of hq, rfl, _, _, rfl, rfl, ⟨b3 bb, b3 bd⟩, ?_⟩
    exact ⟨_, _, rfl, b6 (bb.mul bd), fun h0 => absurd h0 (Int.ne_of_gt (Int.mul_pos hb hd)), fun _ r hr' => by rw [add_rat]; exact k r hr'⟩
theorem sc_minus : FnScope ["one", "other"] ["one", "other"] (defScope (top 19)) := ⟨rfl, rfl, rfl, by decide +kernel, rfl, by decide +kernel, by decide +kernel⟩
theorem ok_minus {f fF Nn : Addr} {fd dF : FuncData} (F : Fun K "minus" "minus" (top 19) f fd) (G : CalX K mg P w base "fraction" 2 ["top", "bottom"] (spFr Nn) fF dF) : FnOk P w K mg base (CXF P w) 3 f fd ["one", "other"] (sp2 qMi) := by
  refine F.okX sc_minus (fun vs H Q E h => ?_) (fun cdv A outer s H vs Q E hr h => ?_)
  · obtain ⟨p, q, a, b, rfl, _⟩ := h; rfl
  · obtain ⟨p, q, a, b, rfl, hp, hq, ⟨ba, bb⟩, ⟨bc, bd⟩, k⟩ := h
    have hb := den_pos a
    have hd := den_pos b
    refine ⟨_, pss_one (ps_ret (pe_call G.ok hr rfl G.mg G.kp G.bd .nil passF (pa_cons (pe_op op_sub (pe_op op_mulB (pe_ix ixT0 (pv 0) pe_int (fun _ _ => rfl)) (pe_ix ixT0 (pv 1) pe_int (fun _ _ => rfl))) (pe_op op_mulB (pe_ix ixT0 (pv 1) pe_int (fun _ _ => rfl)) (pe_ix ixT0 (pv 0) pe_int (fun _ _ => rfl)))) (pa_cons (pe_op op_mulB (pe_ix ixT0 (pv 0) pe_int (fun _ _ => rfl)) (pe_ix ixT0 (pv 1) pe_int (fun _ _ => rfl))) pa_nil)))), ?_⟩
    refine ⟨_, rfl, p, _, _, _, rfl, rfl, SqT.of hp, rfl, _, rfl, q, _, _, _, rfl, rfl, SqT.of hq, rfl, _, _, rfl, rfl, ⟨b3 ba, b3 bd⟩, _, rfl, q, _, _, _, rfl, rfl, SqT.of hq, rfl, _, rfl, p, _, _, _, rfl, rfl, SqT.of hp, rfl, _, _, rfl, rfl, ⟨b3 bc, b3 bb⟩, _, _, rfl, rfl, _, rfl, p, _, _, _, rfl, rfl, SqT.of hp, rfl, _, rfl, q, _, _, _, rfl, rfl, SqT.of hq, rfl, _, _, rfl, rfl, ⟨b3 bb, b3 bd⟩, ?_⟩
    exact ⟨_, _, rfl, b6 (bb.mul bd), fun h0 => absurd h0 (Int.ne_of_gt (Int.mul_pos hb hd)), fun _ r hr' => by rw [sub_rat]; exact k r hr'⟩
theorem sc_times : FnScope ["one", "other"] ["one", "other"] (defScope (top 20)) := ⟨rfl, rfl, rfl, by decide +kernel, rfl, by decide +kernel, by decide +kernel⟩
theorem ok_times {f fF Nn : Addr} {fd dF : FuncData} (F : Fun K "times" "times" (top 20) f fd) (G : CalX K mg P w base "fraction" 2 ["top", "bottom"] (spFr Nn) fF dF) : FnOk P w K mg base (CXF P w) 3 f fd ["one", "other"] (sp2 qTi) := by
  refine F.okX sc_times (fun vs H Q E h => ?_) (fun cdv A outer s H vs Q E hr h => ?_)
  · obtain ⟨p, q, a, b, rfl, _⟩ := h; rfl
  · obtain ⟨p, q, a, b, rfl, hp, hq, ⟨ba, bb⟩, ⟨bc, bd⟩, k⟩ := h
    have hb := den_pos a
    have hd := den_pos b
    refine ⟨_, pss_one (ps_ret (pe_call G.ok hr rfl G.mg G.kp G.bd .nil passF (pa_cons (pe_op op_mulB (pe_ix ixT0 (pv 0) pe_int (fun _ _ => rfl)) (pe_ix ixT0 (pv 1) pe_int (fun _ _ => rfl))) (pa_cons (pe_op op_mulB (pe_ix ixT0 (pv 0) pe_int (fun _ _ => rfl)) (pe_ix ixT0 (pv 1) pe_int (fun _ _ => rfl))) pa_nil)))), ?_⟩
    refine ⟨_, rfl, p, _, _, _, rfl, rfl, SqT.of hp, rfl, _, rfl, q, _, _, _, rfl, rfl, SqT.of hq, rfl, _, _, rfl, rfl, ⟨b3 ba, b3 bc⟩, _, rfl, p, _, _, _, rfl, rfl, SqT.of hp, rfl, _, rfl, q, _, _, _, rfl, rfl, SqT.of hq, rfl, _, _, rfl, rfl, ⟨b3 bb, b3 bd⟩, ?_⟩
    exact ⟨_, _, rfl, b6 (bb.mul bd), fun h0 => absurd h0 (Int.ne_of_gt (Int.mul_pos hb hd)), fun _ r hr' => by rw [mul_rat]; exact k r hr'⟩
theorem sc_law_add : FnScope ["one", "other"] ["one", "other"] (defScope (top 41)) := ⟨rfl, rfl, rfl, by decide +kernel, rfl, by decide +kernel, by decide +kernel⟩
theorem ok_law_add {f fF : Addr} {fd dF : FuncData} (F : Fun K "_law_add" "_law_add" (top 41) f fd) (G : Cal K mg P w base "_law_frac" 1 ["top", "bottom"] spLf fF dF) : FnOk P w K mg base CX0 2 f fd ["one", "other"] (sp2 qPl) := by
  refine F.ok sc_law_add (fun vs H Q E h => ?_) (fun cdv A outer s H vs Q E hr h => ?_)
  · obtain ⟨p, q, a, b, rfl, _⟩ := h; rfl
  · obtain ⟨p, q, a, b, rfl, hp, hq, ⟨ba, bb⟩, ⟨bc, bd⟩, k⟩ := h
    have hb := den_pos a
    have hd := den_pos b
    refine ⟨_, pss_one (ps_ret (pe_call G.ok hr rfl G.mg G.kp G.bd .nil pass0 (pa_cons (pe_op op_add (pe_op op_mulB (pe_ix ixT0 (pv 0) pe_int (fun _ _ => rfl)) (pe_ix ixT0 (pv 1) pe_int (fun _ _ => rfl))) (pe_op op_mulB (pe_ix ixT0 (pv 1) pe_int (fun _ _ => rfl)) (pe_ix ixT0 (pv 0) pe_int (fun _ _ => rfl)))) (pa_cons (pe_op op_mulB (pe_ix ixT0 (pv 0) pe_int (fun _ _ => rfl)) (pe_ix ixT0 (pv 1) pe_int (fun _ _ => rfl))) pa_nil)))), ?_⟩
    refine ⟨_, rfl, p, _, _, _, rfl, rfl, SqT.of hp, rfl, _, rfl, q, _, _, _, rfl, rfl, SqT.of hq, rfl, _, _, rfl, rfl, ⟨b3 ba, b3 bd⟩, _, rfl, q, _, _, _, rfl, rfl, SqT.of hq, rfl, _, rfl, p, _, _, _, rfl, rfl, SqT.of hp, rfl, _, _, rfl, rfl, ⟨b3 bc, b3 bb⟩, _, _, rfl, rfl, _, rfl, p, _, _, _, rfl, rfl, SqT.of hp, rfl, _, rfl, q, _, _, _, rfl, rfl, SqT.of hq, rfl, _, _, rfl, rfl, ⟨b3 bb, b3 bd⟩, ?_⟩
    exact ⟨_, _, rfl, Int.mul_pos hb hd, b6 (bb.mul bd), fun r hr' => by rw [add_rat]; exact k r hr'⟩
theorem sc_law_sub : FnScope ["one", "other"] ["one", "other"] (defScope (top 42)) := ⟨rfl, rfl, rfl, by decide +kernel, rfl, by decide +kernel, by decide +kernel⟩
theorem ok_law_sub {f fF : Addr} {fd dF : FuncData} (F : Fun K "_law_sub" "_law_sub" (top 42) f fd) (G : Cal K mg P w base "_law_frac" 1 ["top", "bottom"] spLf fF dF) : FnOk P w K mg base CX0 2 f fd ["one", "other"] (sp2 qMi) := by
  refine F.ok sc_law_sub (fun vs H Q E h => ?_) (fun cdv A outer s H vs Q E hr h => ?_)
  · obtain ⟨p, q, a, b, rfl, _⟩ := h; rfl
  · obtain ⟨p, q, a, b, rfl, hp, hq, ⟨ba, bb⟩, ⟨bc, bd⟩, k⟩ := h
    have hb := den_pos a
    have hd := den_pos b
    refine ⟨_, pss_one (ps_ret (pe_call G.ok hr rfl G.mg G.kp G.bd .nil pass0 (pa_cons (pe_op op_sub (pe_op op_mulB (pe_ix ixT0 (pv 0) pe_int (fun _ _ => rfl)) (pe_ix ixT0 (pv 1) pe_int (fun _ _ => rfl))) (pe_op op_mulB (pe_ix ixT0 (pv 1) pe_int (fun _ _ => rfl)) (pe_ix ixT0 (pv 0) pe_int (fun _ _ => rfl)))) (pa_cons (pe_op op_mulB (pe_ix ixT0 (pv 0) pe_int (fun _ _ => rfl)) (pe_ix ixT0 (pv 1) pe_int (fun _ _ => rfl))) pa_nil)))), ?_⟩
    refine ⟨_, rfl, p, _, _, _, rfl, rfl, SqT.of hp, rfl, _, rfl, q, _, _, _, rfl, rfl, SqT.of hq, rfl, _, _, rfl, rfl, ⟨b3 ba, b3 bd⟩, _, rfl, q, _, _, _, rfl, rfl, SqT.of hq, rfl, _, rfl, p, _, _, _, rfl, rfl, SqT.of hp, rfl, _, _, rfl, rfl, ⟨b3 bc, b3 bb⟩, _, _, rfl, rfl, _, rfl, p, _, _, _, rfl, rfl, SqT.of hp, rfl, _, rfl, q, _, _, _, rfl, rfl, SqT.of hq, rfl, _, _, rfl, rfl, ⟨b3 bb, b3 bd⟩, ?_⟩
    exact ⟨_, _, rfl, Int.mul_pos hb hd, b6 (bb.mul bd), fun r hr' => by rw [sub_rat]; exact k r hr'⟩
theorem sc_law_mul : FnScope ["one", "other"] ["one", "other"] (defScope (top 43)) := ⟨rfl, rfl, rfl, by decide +kernel, rfl, by decide +kernel, by decide +kernel⟩
theorem ok_law_mul {f fF : Addr} {fd dF : FuncData} (F : Fun K "_law_mul" "_law_mul" (top 43) f fd) (G : Cal K mg P w base "_law_frac" 1 ["top", "bottom"] spLf fF dF) : FnOk P w K mg base CX0 2 f fd ["one", "other"] (sp2 qTi) := by
  refine F.ok sc_law_mul (fun vs H Q E h => ?_) (fun cdv A outer s H vs Q E hr h => ?_)
  · obtain ⟨p, q, a, b, rfl, _⟩ := h; rfl
  · obtain ⟨p, q, a, b, rfl, hp, hq, ⟨ba, bb⟩, ⟨bc, bd⟩, k⟩ := h
    have hb := den_pos a
    have hd := den_pos b
    refine ⟨_, pss_one (ps_ret (pe_call G.ok hr rfl G.mg G.kp G.bd .nil pass0 (pa_cons (pe_op op_mulB (pe_ix ixT0 (pv 0) pe_int (fun _ _ => rfl)) (pe_ix ixT0 (pv 1) pe_int (fun _ _ => rfl))) (pa_cons (pe_op op_mulB (pe_ix ixT0 (pv 0) pe_int (fun _ _ => rfl)) (pe_ix ixT0 (pv 1) pe_int (fun _ _ => rfl))) pa_nil)))), ?_⟩
    refine ⟨_, rfl, p, _, _, _, rfl, rfl, SqT.of hp, rfl, _, rfl, q, _, _, _, rfl, rfl, SqT.of hq, rfl, _, _, rfl, rfl, ⟨b3 ba, b3 bc⟩, _, rfl, p, _, _, _, rfl, rfl, SqT.of hp, rfl, _, rfl, q, _, _, _, rfl, rfl, SqT.of hq, rfl, _, _, rfl, rfl, ⟨b3 bb, b3 bd⟩, ?_⟩
    exact ⟨_, _, rfl, Int.mul_pos hb hd, b6 (bb.mul bd), fun r hr' => by rw [mul_rat]; exact k r hr'⟩
theorem scok_less : FnScope ["one", "other"] ["one", "other"] (defScope (top 22)) := ⟨rfl, rfl, rfl, by decide +kernel, rfl, by decide +kernel, by decide +kernel⟩
theorem ok_less {f : Addr} {fd : FuncData} (F : Fun K "less" "less" (top 22) f fd) : FnOk P w K mg base CX0 1 f fd ["one", "other"] spLess := by
  refine F.ok scok_less (fun vs H Q E h => ?_) (fun cdv A outer s H vs Q E hr h => ?_)
  · obtain ⟨p, q, a, b, rfl, _⟩ := h; rfl
  · obtain ⟨p, q, a, b, rfl, hp, hq, ⟨ba, bb⟩, ⟨bc, bd⟩, k⟩ := h
    have hb := den_pos a
    have hd := den_pos b
    refine ⟨_, pss_one (ps_ret (pe_cmpR op_lt (pe_op op_mulB (pe_ix ixT0 (pv 0) pe_int (fun _ _ => rfl)) (pe_ix ixT0 (pv 1) pe_int (fun _ _ => rfl))) (pe_op op_mulB (pe_ix ixT0 (pv 1) pe_int (fun _ _ => rfl)) (pe_ix ixT0 (pv 0) pe_int (fun _ _ => rfl))) (nomark _))), ?_⟩
    exact ⟨_, rfl, p, _, _, _, rfl, rfl, SqT.of hp, rfl, _, rfl, q, _, _, _, rfl, rfl, SqT.of hq, rfl, _, _, rfl, rfl, ⟨b3 ba, b3 bd⟩, _, rfl, q, _, _, _, rfl, rfl, SqT.of hq, rfl, _, rfl, p, _, _, _, rfl, rfl, SqT.of hp, rfl, _, _, rfl, rfl, ⟨b3 bc, b3 bb⟩, _, _, rfl, rfl, by simp only [lt_rat]; exact k⟩
theorem scok_law_less : FnScope ["one", "other"] ["one", "other"] (defScope (top 45)) := ⟨rfl, rfl, rfl, by decide +kernel, rfl, by decide +kernel, by decide +kernel⟩
theorem ok_law_less {f : Addr} {fd : FuncData} (F : Fun K "_law_less" "_law_less" (top 45) f fd) : FnOk P w K mg base CX0 1 f fd ["one", "other"] spLess := by
  refine F.ok scok_law_less (fun vs H Q E h => ?_) (fun cdv A outer s H vs Q E hr h => ?_)
  · obtain ⟨p, q, a, b, rfl, _⟩ := h; rfl
  · obtain ⟨p, q, a, b, rfl, hp, hq, ⟨ba, bb⟩, ⟨bc, bd⟩, k⟩ := h
    have hb := den_pos a
    have hd := den_pos b
    refine ⟨_, pss_one (ps_ret (pe_cmpR op_lt (pe_op op_mulB (pe_ix ixT0 (pv 0) pe_int (fun _ _ => rfl)) (pe_ix ixT0 (pv 1) pe_int (fun _ _ => rfl))) (pe_op op_mulB (pe_ix ixT0 (pv 1) pe_int (fun _ _ => rfl)) (pe_ix ixT0 (pv 0) pe_int (fun _ _ => rfl))) (nomark _))), ?_⟩
    exact ⟨_, rfl, p, _, _, _, rfl, rfl, SqT.of hp, rfl, _, rfl, q, _, _, _, rfl, rfl, SqT.of hq, rfl, _, _, rfl, rfl, ⟨b3 ba, b3 bd⟩, _, rfl, q, _, _, _, rfl, rfl, SqT.of hq, rfl, _, rfl, p, _, _, _, rfl, rfl, SqT.of hp, rfl, _, _, rfl, rfl, ⟨b3 bc, b3 bb⟩, _, _, rfl, rfl, by simp only [lt_rat]; exact k⟩
theorem scOver : FnScope ["one", "other"] ["one", "other"] (defScope (top 21)) := ⟨rfl, rfl, rfl, by decide +kernel, rfl, by decide +kernel, by decide +kernel⟩
theorem ok_over {f fF Nn : Addr} {fd dF : FuncData} (F : Fun K "over" "over" (top 21) f fd) (G : CalX K mg P w base "fraction" 2 ["top", "bottom"] (spFr Nn) fF dF) : FnOk P w K mg base (CXF P w) 3 f fd ["one", "other"] (spOver Nn) := by
  refine F.okX scOver (fun vs H Q E h => ?_) (fun cdv A outer s H vs Q E hr h => ?_)
  · obtain ⟨p, q, a, b, rfl, _⟩ := h; rfl
  · obtain ⟨p, q, a, b, rfl, hp, hq, ⟨ba, bb⟩, ⟨bc, bd⟩, k0, k1⟩ := h
    have hb := den_pos a
    have hd := den_pos b
    refine ⟨_, pss_one (ps_ret (pe_call G.ok hr rfl G.mg G.kp G.bd .nil passF (pa_cons (pe_op op_mulB (pe_ix ixT0 (pv 0) pe_int (fun _ _ => rfl)) (pe_ix ixT0 (pv 1) pe_int (fun _ _ => rfl))) (pa_cons (pe_op op_mulB (pe_ix ixT0 (pv 0) pe_int (fun _ _ => rfl)) (pe_ix ixT0 (pv 1) pe_int (fun _ _ => rfl))) pa_nil)))), ?_⟩
    refine ⟨_, rfl, p, _, _, _, rfl, rfl, SqT.of hp, rfl, _, rfl, q, _, _, _, rfl, rfl, SqT.of hq, rfl, _, _, rfl, rfl, ⟨b3 ba, b3 bd⟩, ?_⟩
    refine ⟨_, rfl, p, _, _, _, rfl, rfl, SqT.of hp, rfl, _, rfl, q, _, _, _, rfl, rfl, SqT.of hq, rfl, _, _, rfl, rfl, ⟨b3 bb, b3 bc⟩, ?_⟩
    refine ⟨_, _, rfl, b6 (bb.mul bc), fun h0 => k0 ?_, fun h0 r hr' => ?_⟩
    · rcases Int.mul_eq_zero.mp h0 with z | z
      · omega
      · exact Rat.num_eq_zero.mp z
    · have hn : b.num ≠ 0 := fun z => h0 (by rw [z, Int.mul_zero])
      rw [div_rat hn]
      exact k1 (fun z => hn (by rw [z]; rfl)) r hr'
end
end K26
set_option Elab.async false
set_option linter.all false
set_option maxRecDepth 100000
set_option maxHeartbeats 4000000
namespace K26
open PySem L2 KG EX KM
section
variable {P : Program} {w : World} {K : PySem.W.Frag} {mg : Str → Option Value} {base : Heap}
end
end K26
set_option Elab.async false
set_option linter.all false
set_option maxRecDepth 100000
set_option maxHeartbeats 4000000
namespace K26
open PySem L2 KG EX KM
section
variable {P : Program} {w : World} {K : PySem.W.Frag} {mg : Str → Option Value} {base : Heap}
theorem scKinds : FnScope ["e", "some", "words"] ["e"] (defScope (top 57)) := ⟨rfl, rfl, rfl, by decide +kernel, rfl, by decide +kernel, by decide +kernel⟩
theorem ok_kinds {f M De Bu Dl Go Mk Nn Pr Ro Tx No Un : Addr} {fd : FuncData} (F : Fun K "_law_kinds" "_law_kinds" (top 57) f fd) (N : Nm mg) (C : Clx K mg M De Bu Dl Go Mk Nn Pr Ro Tx No Un) : FnH P w K mg base 1 f fd ["e"] (spKinds K M De Bu Dl Go Mk Nn Pr Ro Tx No Un) := by
  refine F.okH scKinds (fun ea D vs H Q E h => ?_) (fun cdv A outer s H vs Q E ea D t hd hr h => ?_)
  · obtain ⟨_, _, _, rfl, _⟩ := h; rfl
  · obtain ⟨ci, hci, R, rfl, k⟩ := h
    have hp : (ea, excO D t hd) ∈ (cxH P w K mg base ["e", "some", "words"] "_law_kinds" (defScope (top 57)) f cdv A outer s H ea D t hd).pn := List.mem_cons_self
    have qt : Qt (cxH P w K mg base ["e", "some", "words"] "_law_kinds" (defScope (top 57)) f cdv A outer s H ea D t hd) := .inr ⟨ea, D, t, hd, hr.hd, hp⟩
    refine ⟨_, pss_cons (ps_set (i := 1) scKinds.nd rfl (Or.inr rfl) (pe_lst (pa_cons (pe_isEC R.ek hp (pv 0) rfl N.isinstance rfl C.mgDe boot_isinstance) (pa_cons (pe_isEC R.ek hp (pv 0) rfl N.isinstance rfl C.mgBu boot_isinstance) (pa_cons (pe_isEC R.ek hp (pv 0) rfl N.isinstance rfl C.mgDl boot_isinstance) (pa_cons (pe_isEC R.ek hp (pv 0) rfl N.isinstance rfl C.mgGo boot_isinstance) pa_nil))))))
      (pss_cons (ps_set (i := 1) scKinds.nd rfl (Or.inr rfl) (pe_op op_cat (pv 1) (pe_lst (pa_cons (pe_isEC R.ek hp (pv 0) rfl N.isinstance rfl C.mgMk boot_isinstance) (pa_cons (pe_isEC R.ek hp (pv 0) rfl N.isinstance rfl C.mgNn boot_isinstance) (pa_cons (pe_isEC R.ek hp (pv 0) rfl N.isinstance rfl C.mgPr boot_isinstance) (pa_cons (pe_isEC R.ek hp (pv 0) rfl N.isinstance rfl C.mgRo boot_isinstance) pa_nil)))))))
      (pss_cons (ps_set (i := 1) scKinds.nd rfl (Or.inr rfl) (pe_op op_cat (pv 1) (pe_lst (pa_cons (pe_isEC R.ek hp (pv 0) rfl N.isinstance rfl C.mgTx boot_isinstance) (pa_cons (pe_isEC R.ek hp (pv 0) rfl N.isinstance rfl C.mgNo boot_isinstance) (pa_cons (pe_isEC R.ek hp (pv 0) rfl N.isinstance rfl C.mgUn boot_isinstance) (pa_cons (pe_isEB R.ek hp (pv 0) rfl N.isinstance rfl N.valueError boot_value boot_isinstance) pa_nil)))))))
      (pss_cons (ps_set (i := 2) scKinds.nd rfl (Or.inr rfl) (pe_lit 3 _ (.list ((wordsL.take 8).map PyData.str)) (by kernel_rfl)))
      (pss_cons (ps_set (i := 2) scKinds.nd rfl (Or.inr rfl) (pe_op op_cat (pv 2) (pe_lit 3 _ (.list ((wordsL.drop 8).map PyData.str)) (by kernel_rfl))))
      (pss_one (ps_ret (peBm0 PySem.F.plainAttrs_str PySem.F.slot_str_join PySem.F.type_str_join (mt_join K) pe_str (pa_cons (pe_compR (own := ["k"]) (cap := ["some", "words"]) (ix := [1, 2]) (BlkOk.of (defScope (top 57)).names ["e", "some", "words"]) qt (piR_range1 rfl N.range (pa_cons pe_int pa_nil))
        (fun C fp s H => ⟨pg_name (i := 0) (show List.Nodup (["k", "some", "words"] : List Str) by decide +kernel) rfl (Or.inl rfl), pifs_one (pt_val (pe_ix ixL0 (pv 1) (pv 0) (fun _ _ => rfl))), pe_ix ixL0 (pv 2) (pv 0) (fun _ _ => rfl)⟩)) pa_nil)))))))), ?_⟩
    have H0 : ∃ (L1 L2 L3 : List V), L1 = [.bl (decide (ci = 0)), .bl (decide (ci = 1)), .bl (decide (ci = 2)), .bl (decide (ci = 3))] ∧ L2 = [.bl (decide (ci = 4)), .bl (decide (ci = 5)), .bl (decide (ci = 6)), .bl (decide (ci = 7))] ∧ L3 = [.bl (decide (ci = 8)), .bl (decide (ci = 9)), .bl (decide (ci = 10)), .bl true] ∧ L1 ++ L2 ++ L3 = (flagsL ci).map V.bl := ⟨_, _, _, rfl, rfl, rfl, rfl⟩
    obtain ⟨L1, L2, L3, eL1, eL2, eL3, eL⟩ := H0
    refine ⟨_, rfl, rfl, _, R.kDe, _, rfl, rfl, _, R.kBu, _, rfl, rfl, _, R.kDl, _, rfl, rfl, _, R.kGo, by show 4 ≤ sizeLine; decide, fun p1 h1 => ?_⟩
    rw [← eL1]
    refine ⟨_, rfl, _, rfl, rfl, _, R.kMk, _, rfl, rfl, _, R.kNn, _, rfl, rfl, _, R.kPr, _, rfl, rfl, _, R.kRo, by show 4 ≤ sizeLine; decide, fun p2 h2 => ?_⟩
    rw [← eL2]
    have s12 := (Stay.refl (upd H p1 (.lst L1))).new (o := .lst L2) h2
    refine ⟨p1, p2, _, _, rfl, rfl, s12 _ _ upd_same, upd_same, by rw [eL1, eL2, sz]; show 4 + 4 ≤ 16777216; decide, fun p3 h3 => ?_⟩
    have s3 : Stay H (upd (upd (upd H p1 (.lst L1)) p2 (.lst L2)) p3 (.lst (L1 ++ L2))) := (((Stay.refl H).new h1).new h2).new h3
    have e3 : (upd (upd (upd H p1 (.lst L1)) p2 (.lst L2)) p3 (.lst (L1 ++ L2))) p3 = some (.lst (L1 ++ L2)) := upd_same
    generalize upd (upd (upd H p1 (.lst L1)) p2 (.lst L2)) p3 (.lst (L1 ++ L2)) = H3 at s3 e3
    refine ⟨_, rfl, _, rfl, rfl, _, R.kTx, _, rfl, rfl, _, R.kNo, _, rfl, rfl, _, R.kUn, _, rfl, rfl, _, R.kVa, by show 4 ≤ sizeLine; decide, fun p4 h4 => ?_⟩
    rw [← eL3]
    refine ⟨p3, p4, _, _, rfl, rfl, ((Stay.refl H3).new h4) _ _ e3, upd_same, by rw [eL1, eL2, eL3, sz]; show 8 + 4 ≤ 16777216; decide, fun p5 h5 => ?_⟩
    rw [eL]
    have s5 : Stay H (upd (upd H3 p4 (.lst L3)) p5 (.lst ((flagsL ci).map V.bl))) := (s3.new h4).new h5
    have e5 : (upd (upd H3 p4 (.lst L3)) p5 (.lst ((flagsL ci).map V.bl))) p5 = some (.lst ((flagsL ci).map V.bl)) := upd_same
    generalize upd (upd H3 p4 (.lst L3)) p5 (.lst ((flagsL ci).map V.bl)) = H5 at s5 e5
    have nb5 : H5 p5 ≠ none := by rw [e5]; simp
    intro v6 H6 s6 t6 _
    have t6' := t6 p5 nb5
    cases t6' with
    | @lst q6 xs6 _ n6 e6 l6 =>
    refine ⟨_, rfl, ?_⟩
    intro v7 H7 s7 t7 _
    cases t7 p5 (ne_stay s6 nb5) with
    | @lst q7 xs7 _ n7 e7 l7 =>
    have z6 := strsOf l6
    have z7 := strsOf l7
    subst z6 z7
    refine ⟨q6, q7, _, _, rfl, rfl, s7 _ _ e6, e7, ?_, fun p8 h8 => ?_⟩
    · rw [List.length_map, List.length_map, sz]; decide
    have e8 : (upd H7 p8 (.lst ((wordsL.take 8).map V.str ++ (wordsL.drop 8).map V.str))) p8 = some (.lst (wordsL.map V.str)) := by
      rw [upd_same, ← List.map_append, List.take_append_drop]
    have s8 : Stay H5 (upd H7 p8 (.lst ((wordsL.take 8).map V.str ++ (wordsL.drop 8).map V.str))) := (s6.trans s7).new h8
    generalize upd H7 p8 (.lst ((wordsL.take 8).map V.str ++ (wordsL.drop 8).map V.str)) = H8 at e8 s8
    have e58 := s8 _ _ e5
    refine ⟨rfl, 12, rfl, by decide, by decide, fun acc hacc => ?_⟩
    refine comp_range (fun i ys H' => Stay H8 H' ∧ ys = (toldL ci i).map V.str) ⟨(Stay.refl H8).acc hacc, rfl⟩ ?_ ?_
    · rintro i ys H' hi hy ⟨st, rfl⟩
      have hi' : i < 12 := hi
      have ef : ((flagsL ci).map V.bl)[i]? = some (V.bl ((flagsL ci).getD i false)) := by
        rw [List.getElem?_map]
        have hl : i < (flagsL ci).length := hi'
        rw [List.getElem?_eq_getElem hl]
        simp [List.getD, List.getElem?_eq_getElem hl]
      have ew : (wordsL.map V.str)[i]? = some (V.str (wordsL.getD i "")) := by
        rw [List.getElem?_map]
        have hl : i < wordsL.length := hi'
        rw [List.getElem?_eq_getElem hl]
        simp [List.getD, List.getElem?_eq_getElem hl]
      have af := atI_nat ef
      have aw := atI_nat ew
      have e0 : (0 + (i : Int)) = ((i : Nat) : Int) := by omega
      rw [← e0] at af aw
      refine ⟨_, rfl, _, rfl, p5, _, _, _, rfl, rfl, SqL.of (st _ _ e58), af, _, rfl, ?_⟩
      cases hf : (flagsL ci).getD i false with
      | true =>
        refine iteT ⟨_, rfl, _, rfl, p8, _, _, _, rfl, rfl, SqL.of (st _ _ e8), aw, _, hy, ?_, Cn.of upd_same ⟨st.acc hacc, ?_⟩⟩
        · rw [List.length_map, sz]; have := toldL_len ci i; omega
        · rw [toldL_succ, hf, List.map_append]; rfl
      | false =>
        refine iteF (Cn.of hy ⟨st, ?_⟩)
        rw [toldL_succ, hf]; simp
    · rintro ys H' hy ⟨st, rfl⟩
      obtain ⟨te, tb⟩ := toldL_end ⟨ci, hci⟩
      dsimp only at te tb
      rw [show (12 : Int).toNat = 12 from rfl, te] at hy
      exact ⟨"", acc, [wordsL.getD ci "", "+"], rfl, rfl, SqL.of hy, tb, by decide, by show 2 ≤ 1000; decide, k _ (s5.trans (s8.trans st))⟩
end
end K26
set_option Elab.async false
set_option linter.all false
set_option maxRecDepth 100000
set_option maxHeartbeats 4000000
namespace K26
open PySem L2 KG EX KM
section
variable {P : Program} {w : World} {K : PySem.W.Frag} {mg : Str → Option Value} {base : Heap}
theorem scSum : FnScope ["some", "found", "one"] ["some"] (defScope (top 46)) := ⟨rfl, rfl, rfl, by decide +kernel, rfl, by decide +kernel, by decide +kernel⟩
theorem ok_sum {f fA : Addr} {fd dA : FuncData} (F : Fun K "_law_sum" "_law_sum" (top 46) f fd) (A : Cal K mg P w base "_law_add" 2 ["one", "other"] (sp2 qPl) fA dA) : FnOk P w K mg base CX0 3 f fd ["some"] spSum := by
  refine F.ok scSum (fun vs H Q E h => ?_) (fun cdv A' outer s H vs Q E hr h => ?_)
  · obtain ⟨l, ys, qs, rfl, _⟩ := h; rfl
  · obtain ⟨l, ys, qs, rfl, hl, hf, hb, hn, k⟩ := h
    refine ⟨_, pss_cons (ps_set (i := 1) scSum.nd rfl (Or.inl rfl) (pe_tup (pa_cons pe_int (pa_cons pe_int pa_nil))))
      (pss_cons (ps_for PassesOwn.never rfl (piL0 (pv 0)) (pg_name (i := 2) scSum.nd rfl (Or.inl rfl)) (pss_one (ps_set (i := 1) scSum.nd rfl (Or.inl rfl) (pe_call A.ok hr rfl A.mg A.kp A.bd .nil pass0 (pa_cons (pv 1) (pa_cons (pv 2) pa_nil))))))
      (pss_one (ps_ret (pv 1)))), ?_⟩
    refine ⟨by show 2 ≤ sizeLine; decide, fun p0 hp0 => ?_⟩
    have s0 := (Stay.refl H).new (o := .tup [.int 0, .int 1]) hp0
    refine ⟨_, rfl, l, rfl, ⟨ys, SqL.of (s0 _ _ hl)⟩, ?_⟩
    refine for_list (xs := ys) (fun i σ H' => (∃ r y2, σ = [some (.ref l), some (.ref r), y2] ∧ H' r = some (qO (sumQ (qs.take i)))) ∧ Stay H H') ⟨⟨p0, _, rfl, upd_same⟩, s0⟩ (fun j σ H' _ q => SqL.of (q.2 _ _ hl)) ?_ ?_
    · rintro i y σ H1 hy ⟨⟨r, y2, rfl, hr1⟩, s1⟩
      obtain ⟨a, rfl, ha⟩ := (hf.stay s1).2 i y hy
      have hi : i < qs.length := by have := (List.getElem?_eq_some_iff.mp hy).1; rw [hf.1] at this; exact this
      have eq : qs[i]? = some (qs.getD i 0) := by simp [List.getD, List.getElem?_eq_getElem hi]
      have b1 : Rb 3000 (sumQ (qs.take i)) := (sumQ_rb hb i).mono (by omega)
      have b2 : Rb 3000 (qs.getD i 0) := (hb _ (List.mem_of_getElem? eq)).mono (by decide)
      refine ⟨_, rfl, _, rfl, r, a, _, _, rfl, hr1, ha, b1, b2, fun r2 hr2 => ?_⟩
      exact ⟨⟨r2, _, rfl, by rw [take_snoc eq, sumQ_snoc]; exact upd_same⟩, s1.new hr2⟩
    · rintro σ H1 ⟨⟨r, y2, rfl, hr1⟩, s1⟩
      rw [List.take_of_length_le (by rw [hf.1]; exact Nat.le_refl _)] at hr1
      exact ⟨_, rfl, k r H1 s1 hr1⟩
end
end K26
set_option Elab.async false
set_option linter.all false
set_option maxRecDepth 100000
set_option maxHeartbeats 4000000
namespace K26
open PySem L2 KG EX KM
section
variable {P : Program} {w : World} {K : PySem.W.Frag} {mg : Str → Option Value} {base : Heap}
theorem scTot : FnScope ["parts", "whole", "part"] ["parts"] (defScope (top 23)) := ⟨rfl, rfl, rfl, by decide +kernel, rfl, by decide +kernel, by decide +kernel⟩
theorem ok_total {f fA : Addr} {fd dA : FuncData} (F : Fun K "total" "total" (top 23) f fd) (A : CalX K mg P w base "plus" 3 ["one", "other"] (sp2 qPl) fA dA) : FnOk P w K mg base CX0 4 f fd ["parts"] spTot := by
  refine F.ok scTot (fun vs H Q E h => ?_) (fun cdv A' outer s H vs Q E hr h => ?_)
  · obtain ⟨l, ys, qs, rfl, _⟩ := h; rfl
  · obtain ⟨l, ys, qs, rfl, hl, hf, hb, h8, k⟩ := h
    refine ⟨_, pss_cons (ps_set (i := 1) scTot.nd rfl (Or.inl rfl) (pe_tup (pa_cons pe_int (pa_cons pe_int pa_nil))))
      (pss_cons (ps_for PassesOwn.never rfl (piL0 (pv 0)) (pg_name (i := 2) scTot.nd rfl (Or.inl rfl))
        (pss_one (ps_set (i := 1) scTot.nd rfl (Or.inl rfl) (pe_call A.ok hr rfl A.mg A.kp A.bd .nil passE0 (pa_cons (pv 1) (pa_cons (pv 2) pa_nil))))))
      (pss_one (ps_ret (pv 1)))), ?_⟩
    refine ⟨by show 2 ≤ sizeLine; decide, fun p0 hp0 => ?_⟩
    have s0 := (Stay.refl H).new (o := .tup [.int 0, .int 1]) hp0
    refine ⟨_, rfl, l, rfl, ⟨_, SqL.of (s0 _ _ hl)⟩, ?_⟩
    refine for_list (xs := ys) (fun i σ H' => (∃ a y2, σ = [some (.ref l), some (.ref a), y2] ∧ H' a = some (qO (sumQ (qs.take i)))) ∧ Stay H H') ⟨⟨p0, _, rfl, upd_same⟩, s0⟩ (fun i σ H' _ z => SqL.of (z.2 _ _ hl)) ?_ ?_
    · rintro i x σ H1 hx ⟨⟨a, y2, rfl, ha⟩, s1⟩
      obtain ⟨c, q, rfl, hc, hq⟩ := frs_get (hf.stay s1) hx
      have hi : i < qs.length := (List.getElem?_eq_some_iff.mp hq).1
      have b1 : Rb 3000 (sumQ (qs.take i)) := (sumQ_rb hb i).mono (by have : 401 * i ≤ 401 * 6 := Nat.mul_le_mul_left _ (by omega); omega)
      have b2 : Rb 3000 q := (hb q (List.mem_of_getElem? hq)).mono (by decide)
      refine ⟨_, rfl, _, rfl, a, c, _, _, rfl, ha, hc, b1, b2, fun r hr' => ?_⟩
      refine ⟨⟨r, _, rfl, ?_⟩, s1.new hr'⟩
      rw [take_snoc hq, sumQ_snoc]
      exact upd_same
    · rintro σ H1 ⟨⟨a, y2, rfl, ha⟩, s1⟩
      rw [hf.1, List.take_length] at ha
      exact ⟨_, rfl, k a H1 s1 ha⟩
end
end K26
set_option Elab.async false
set_option linter.all false
set_option maxRecDepth 100000
set_option maxHeartbeats 4000000
namespace K26
open PySem L2 KG EX KM
section
variable {P : Program} {w : World} {K : PySem.W.Frag} {mg : Str → Option Value} {base : Heap}
end
end K26
set_option Elab.async false
set_option linter.all false
set_option maxRecDepth 100000
set_option maxHeartbeats 4000000
namespace K26
open PySem L2 KG EX KM
section
variable {P : Program} {w : World} {K : PySem.W.Frag} {mg : Str → Option Value} {base : Heap}
end
end K26
set_option Elab.async false
set_option linter.all false
set_option maxRecDepth 100000
set_option maxHeartbeats 4000000
namespace K26
open PySem L2 KG EX KM
section
variable {P : Program} {w : World} {K : PySem.W.Frag} {mg : Str → Option Value} {base : Heap}
end
end K26
set_option Elab.async false
set_option linter.all false
set_option maxRecDepth 100000
set_option maxHeartbeats 4000000
namespace K26
open PySem L2 KG EX KM
section
variable {P : Program} {w : World} {K : PySem.W.Frag} {mg : Str → Option Value} {base : Heap}
theorem scDR : FnScope ["thing", "goods"] ["thing", "goods"] (defScope (top 26)) := ⟨rfl, rfl, rfl, by decide +kernel, rfl, by decide +kernel, by decide +kernel⟩
theorem ok_dr {f fI : Addr} {fd dI : FuncData} (F : Fun K "is_dealt_row" "is_dealt_row" (top 26) f fd) (N : Nm mg) (Z : IsK K) (I : Cal K mg P w base "is_fraction" 2 ["thing"] (spT isFrac) fI dI) : FnOk P w K mg base CX0 3 f fd ["thing", "goods"] spDRow := by
  refine F.ok scDR (fun vs H Q E h => ?_) (fun cdv A' outer s H vs Q E hr h => ?_)
  · obtain ⟨b, v, d, g, rfl, _⟩ := h; rfl
  · obtain ⟨b, v, d, g, rfl, hg6, hT, k⟩ := h
    refine ⟨_, pss_cons (ps_if (PW.pt (pw_or (pt_not (pt_val (pIsi K (pv 0) rfl N.isinstance rfl N.tuple boot_tuple boot_isinstance))) (pw_or1 (pt_cmpR op_ne (pe_callB cLen0 (by rfl) N.len PySem.boot_len (pa_cons (pv 0) pa_nil)) (pv 1) (nomark _))))) (pss_one (ps_ret pe_bl)) pss_nil)
      (pss_one (ps_ret (pe_callB (cAll0 rfl) (by rfl) N.all boot_all (pa_cons (pe_comp (own := ["part"]) (cap := []) (ix := []) (BlkOk.of (defScope (top 26)).names ["thing", "goods"]) rfl (piT0 (pv 0))
        (fun C fp s H => ⟨pg_name (i := 0) (show List.Nodup (["part"] : List Str) by decide +kernel) rfl (Or.inl rfl), pifs_nil, pe_and (pe_call I.ok hr rfl I.mg I.kp I.bd .nil pass0 (pa_cons (pv 0) pa_nil)) (pe_one (pe_cmpR op_ge (pe_ix ixT0 (pv 0) pe_int (fun _ _ => rfl)) pe_int (nomark _)))⟩)) pa_nil)))), ?_⟩
    obtain ⟨t1, ty1, e1⟩ := ist Z hT
    refine ⟨_, rfl, t1, _, ty1, e1, _, rfl, ?_⟩
    have hk := k H (Stay.refl H)
    rcases tupCase hT with hn | ⟨a, xs, ds, rfl, rfl, ha, hs⟩
    · rw [hn]; rw [isDRow_no hn] at hk
      exact iteT (iteT hk)
    refine iteF ?_
    have hlen := hs.len
    refine ⟨_, rfl, a, xs, rfl, .inr (SqT.of ha), _, rfl, rfl, _, rfl, ?_⟩
    by_cases hl : xs.length = g
    case neg =>
      rw [vint_ne hl]
      have e3 : isDRow g (.tuple ds) = false := by
        show (decide (ds.length = g) && _) = false
        rw [decide_eq_false (by rw [← hlen]; exact hl)]; rfl
      rw [e3] at hk
      exact iteT hk
    rw [hl, vint_eq]
    refine iteF ?_
    refine ⟨_, rfl, a, rfl, ⟨_, SqT.of ha⟩, fun acc hacc => ?_⟩
    refine comp_bools (K := K0) isPart hs ha hacc (by omega) ?_ ?_
    · intro x d H1 s1 hx _ Z hZ
      refine ⟨_, rfl, b, x, d, rfl, hx, fun H2 s2 => ⟨_, rfl, ?_⟩⟩
      have hZ2 := hZ H2 s2
      cases hf : isFrac d with
      | false =>
        rw [part_frac hf] at hZ2
        exact iteF hZ2
      | true =>
        obtain ⟨t, u, rfl, ep⟩ := frac_shape hf
        rw [ep] at hZ2
        have hx2 := hx.stay s2
        cases hx2 with
        | @tup a2 ys _ ha2 hys =>
        match ys, hys with
        | [_, _], .cons (.int _) (.cons (.int _) .nil) =>
        exact iteT ⟨_, rfl, a2, _, _, _, rfl, rfl, SqT.of ha2, rfl, _, _, rfl, rfl, hZ2⟩
    · intro H1 s1 hz
      refine ⟨acc, _, rfl, .inl (SqL.of hz), ?_, ?_⟩
      · rw [List.all_map]; simp [Function.comp_def, plainB]
      have e : (ds.map fun d => V.bl (isPart d)).all tv = ds.all isPart := by rw [List.all_map]; rfl
      rw [e]
      have e3 : isDRow g (.tuple ds) = ds.all isPart := by
        show (decide (ds.length = g) && _) = _
        rw [decide_eq_true (by rw [← hlen]; exact hl), Bool.true_and]
      have := k H1 s1
      rw [e3] at this
      exact this
theorem scIDl : FnScope ["market", "thing"] ["market", "thing"] (defScope (top 25)) := ⟨rfl, rfl, rfl, by decide +kernel, rfl, by decide +kernel, by decide +kernel⟩
theorem ok_idl {f fI : Addr} {fd dI : FuncData} (F : Fun K "is_dealing" "is_dealing" (top 25) f fd) (N : Nm mg) (Z : IsK K) (I : Cal K mg P w base "is_dealt_row" 3 ["thing", "goods"] spDRow fI dI) : FnOk P w K mg base CX0 4 f fd ["market", "thing"] spIsDl := by
  refine F.ok scIDl (fun vs H Q E h => ?_) (fun cdv A' outer s H vs Q E hr h => ?_)
  · obtain ⟨b, p, pa, pp, pw, xa, xp, xw, am, pu, wi, v, d, rfl, _⟩ := h; rfl
  · obtain ⟨b, p, pa, pp, pw, xa, xp, xw, am, pu, wi, v, d, rfl, m, hT, k⟩ := h
    obtain ⟨_, _, _, _, a1, a6, w1, w6, wp⟩ := m.lw
    refine ⟨_, pss_cons (ps_if (PW.pt (pw_or (pt_not (pt_val (pIsi K (pv 1) rfl N.isinstance rfl N.tuple boot_tuple boot_isinstance))) (pw_or1 (pt_cmpR op_ne (pe_callB cLen0 (by rfl) N.len PySem.boot_len (pa_cons (pv 1) pa_nil)) (pe_callB cLen0 (by rfl) N.len PySem.boot_len (pa_cons (pe_ix ixT0 (pv 0) pe_int (fun _ _ => rfl)) pa_nil)) (nomark _))))) (pss_one (ps_ret pe_bl)) pss_nil)
      (pss_one (ps_ret (pe_callB (cAll0 rfl) (by rfl) N.all boot_all (pa_cons (pe_comp (own := ["row"]) (cap := ["market"]) (ix := [0]) (BlkOk.of (defScope (top 25)).names ["market", "thing"]) rfl (piT0 (pv 1))
        (fun C fp s H => ⟨pg_name (i := 0) (show List.Nodup (["row", "market"] : List Str) by decide +kernel) rfl (Or.inl rfl), pifs_nil, pe_call I.ok hr rfl I.mg I.kp I.bd .nil pass0 (pa_cons (pv 0) (pa_cons (pe_callB cLen0 (by rfl) N.len PySem.boot_len (pa_cons (pe_ix ixT0 (pv 1) pe_int (fun _ _ => rfl)) pa_nil)) pa_nil))⟩)) pa_nil)))), ?_⟩
    obtain ⟨t1, ty1, e1⟩ := ist Z hT
    refine ⟨_, rfl, t1, _, ty1, e1, _, rfl, ?_⟩
    have hk := k H (Stay.refl H)
    rcases tupCase hT with hn | ⟨a, xs, ds, rfl, rfl, ha, hs⟩
    · rw [hn]; rw [isDl_no hn] at hk
      exact iteT (iteT hk)
    refine iteF ?_
    have hlen := hs.len
    refine ⟨_, rfl, a, xs, rfl, .inr (SqT.of ha), _, rfl, p, _, _, _, rfl, rfl, SqT.of m.hp, rfl, pp, xp, rfl, .inr (SqT.of m.hpp), rfl, _, rfl, ?_⟩
    by_cases hl : xs.length = xp.length
    case neg =>
      rw [vint_ne hl]
      have e3 : isDl xp.length xa.length (.tuple ds) = false := by
        show (decide (ds.length = xp.length) && _) = false
        rw [decide_eq_false (by rw [← hlen]; exact hl)]; rfl
      rw [e3] at hk
      exact iteT hk
    rw [hl, vint_eq]
    refine iteF ?_
    refine ⟨_, rfl, a, rfl, ⟨_, SqT.of ha⟩, fun acc hacc => ?_⟩
    refine comp_bools (K := K0) (isDRow xa.length) hs ha hacc (by omega) ?_ ?_
    · intro x d H1 s1 hx _ Z hZ
      have m1 := m.stay s1
      exact ⟨_, rfl, _, rfl, p, _, _, _, rfl, rfl, SqT.of m1.hp, rfl, pa, xa, rfl, .inr (SqT.of m1.ha), b, x, d, xa.length, rfl, a6, hx, hZ⟩
    · intro H1 s1 hz
      refine ⟨acc, _, rfl, .inl (SqL.of hz), ?_, ?_⟩
      · rw [List.all_map]; simp [Function.comp_def, plainB]
      have e : (ds.map fun d => V.bl (isDRow xa.length d)).all tv = ds.all (isDRow xa.length) := by rw [List.all_map]; rfl
      rw [e]
      have e3 : isDl xp.length xa.length (.tuple ds) = ds.all (isDRow xa.length) := by
        show (decide (ds.length = xp.length) && _) = _
        rw [decide_eq_true (by rw [← hlen]; exact hl), Bool.true_and]
      have := k H1 s1
      rw [e3] at this
      exact this
theorem scGot : FnScope ["dealing", "good"] ["dealing", "good"] (defScope (top 27)) := ⟨rfl, rfl, rfl, by decide +kernel, rfl, by decide +kernel, by decide +kernel⟩
theorem ok_got {f fT : Addr} {fd dT : FuncData} (F : Fun K "got_in_all" "got_in_all" (top 27) f fd) (T : Cal K mg P w base "total" 4 ["parts"] spTot fT dT) : FnOk P w K mg base CX0 5 f fd ["dealing", "good"] spGot := by
  refine F.ok scGot (fun vs H Q E h => ?_) (fun cdv A' outer s H vs Q E hr h => ?_)
  · obtain ⟨q, zs, D, g, n, rfl, _⟩ := h; rfl
  · obtain ⟨q, zs, D, g, n, rfl, dl, hg, k⟩ := h
    refine ⟨_, pss_one (ps_ret (pe_call T.ok hr rfl T.mg T.kp T.bd .nil pass0 (pa_cons (pe_comp (own := ["row"]) (cap := ["good"]) (ix := [1]) (BlkOk.of (defScope (top 27)).names ["dealing", "good"]) rfl (piT0 (pv 0))
      (fun C fp s H => ⟨pg_name (i := 0) (show List.Nodup (["row", "good"] : List Str) by decide +kernel) rfl (Or.inl rfl), pifs_nil, pe_ix ixT0 (pv 0) (pv 1) (fun _ _ => rfl)⟩)) pa_nil))), ?_⟩
    refine ⟨_, rfl, q, rfl, ⟨_, SqT.of dl.hq⟩, fun acc hacc => ?_⟩
    refine comp_tup (xs := zs) (fun i ws H' => Stay H H' ∧ Frs H' ws ((D.take i).map fun qs => qs.getD g 0)) ⟨(Stay.refl H).acc hacc, rfl, fun j y hy => by simp at hy⟩ (fun i ws H' _ _ z => SqT.of (z.1 _ _ dl.hq)) ?_ ?_
    · rintro i x ws H1 hx hz ⟨s1, fr1⟩
      obtain ⟨a, ys, qs, hD, rfl, ha, fq⟩ := (dl.fr.stay s1).2 i x hx
      have hqn := dl.len qs (List.mem_of_getElem? hD)
      obtain ⟨c, ec, hcq⟩ := fq.at (g := g) (by omega)
      have hi : i < D.length := (List.getElem?_eq_some_iff.mp hD).1
      have hfew := dl.few
      refine yes_i ⟨_, rfl, _, rfl, a, _, _, _, rfl, rfl, SqT.of ha, ec, ws, hz, by rw [fr1.1, List.length_map, List.length_take, sz]; omega, Cn.of upd_same ⟨s1.acc hacc, ?_⟩⟩
      rw [take_snoc hD, List.map_append]
      exact (fr1.app (a := c) hcq).tm (Tm.lst hz)
    · rintro ws H1 hz ⟨s1, fr1⟩
      rw [dl.fr.1, List.take_length] at fr1
      have hfew := dl.few
      refine ⟨acc, ws, _, rfl, hz, fr1, fun z hz' => ?_, by rw [List.length_map]; omega, fun r H2 s2 e2 => k r H2 (s1.trans s2) e2⟩
      obtain ⟨qs, hqs, rfl⟩ := List.mem_map.mp hz'
      exact (rb_getD (by decide) (dl.bd qs hqs) g).mono (by decide)
end
end K26
set_option Elab.async false
set_option linter.all false
set_option maxRecDepth 100000
set_option maxHeartbeats 4000000
namespace K26
open PySem L2 KG EX KM
section
variable {P : Program} {w : World} {K : PySem.W.Frag} {mg : Str → Option Value} {base : Heap}
theorem scWo : FnScope ["wishes", "got"] ["wishes", "got"] (defScope (top 28)) := ⟨rfl, rfl, rfl, by decide +kernel, rfl, by decide +kernel, by decide +kernel⟩
theorem ok_wo {f fT fM : Addr} {fd dT dM : FuncData} (F : Fun K "worth_of" "worth_of" (top 28) f fd) (mz : mg "zip" = none) (T : Cal K mg P w base "total" 4 ["parts"] spTot fT dT) (M : CalX K mg P w base "times" 3 ["one", "other"] (sp2 qTi) fM dM) : FnOk P w K mg base CX0 5 f fd ["wishes", "got"] spWorth := by
  refine F.ok scWo (fun vs H Q E h => ?_) (fun cdv A' outer s H vs Q E hr h => ?_)
  · obtain ⟨a, c, ns, ys, qs, rfl, _⟩ := h; rfl
  · obtain ⟨a, c, ns, ys, qs, rfl, ha, hc, fr, hl, h6, hn, hq, k⟩ := h
    have hr3 : Room 3 _ := hr.mono (by decide)
    refine ⟨_, pss_one (ps_ret (pe_call T.ok hr rfl T.mg T.kp T.bd .nil pass0 (pa_cons (pe_comp (own := ["wish", "part"]) (cap := []) (ix := []) (BlkOk.of (defScope (top 28)).names ["wishes", "got"]) rfl (pi_zip0 rfl mz boot_zip (pa_cons (pv 0) (pa_cons (pv 1) pa_nil)))
      (fun C fp s H => ⟨pgTup0 (n := 2) rfl (pgs_cons (pg_name (i := 0) (show List.Nodup (["wish", "part"] : List Str) by decide +kernel) rfl (Or.inl rfl)) (pgs_cons (pg_name (i := 1) (show List.Nodup (["wish", "part"] : List Str) by decide +kernel) rfl (Or.inl rfl)) pgs_nil)), pifs_nil,
        pe_call M.ok hr3 rfl M.mg M.kp M.bd .nil passE0 (pa_cons (pe_tup (pa_cons (pv 0) (pa_cons pe_int pa_nil))) (pa_cons (pv 1) pa_nil))⟩)) pa_nil))), ?_⟩
    refine ⟨_, rfl, _, rfl, a, c, rfl, ⟨_, SqT.of ha⟩, ⟨_, SqT.of hc⟩, fun acc hacc => ?_⟩
    have hyl : (ns.map V.int).length = ys.length := by rw [List.length_map, fr.1]; exact hl
    refine comp_zip (xs := ns.map V.int) (ys := ys) (fun j vs H' => Stay H H' ∧ Frs H' vs ((List.range j).map fun g => ((ns.getD g 0 : Int) : Rat) * qs.getD g 0)) hyl ⟨(Stay.refl H).acc hacc, ⟨rfl, fun j y z => by simp at z⟩⟩ (fun j vs H' _ _ z => ⟨SqT.of (z.1 _ _ ha), SqT.of (z.1 _ _ hc)⟩) ?_ ?_
    · rintro j u v vs H3 H4 hu3 hv3 hz3 ⟨s3, fr3⟩ s4
      have s34 := s3.trans s4
      obtain ⟨hj, rfl⟩ := ints_get hu3
      obtain ⟨c2, z2, rfl, hc2, hz2⟩ := frs_get fr hv3
      have hw := hn _ (mem_getD hj)
      refine yes_i ⟨_, rfl, by show 2 ≤ sizeLine; decide, fun p0 hp0 => ?_⟩
      have s5 := s4.new (o := .tup [.int (ns.getD j 0), .int 1]) hp0
      have b1 := rb_wish hw
      have b2 := hq z2 (List.mem_of_getElem? hz2)
      refine ⟨_, rfl, p0, c2, ((ns.getD j 0 : Int) : Rat), z2, rfl, upd_same, ((Stay.refl H4).new (o := .tup [.int (ns.getD j 0), .int 1]) hp0) _ _ (s34 _ _ hc2), b1.mono (by decide), b2.mono (by decide), fun r hr' => ?_⟩
      have s6 := s5.new (o := qO (qTi ((ns.getD j 0 : Int) : Rat) z2)) hr'
      have hz6 := s6 _ _ hz3
      refine ⟨vs, hz6, by rw [fr3.1, List.length_map, List.length_range, sz]; omega, Cn2.of upd_same ⟨(s3.trans s6).acc hacc, ?_⟩⟩
      rw [List.range_succ, List.map_append, List.map_singleton]
      have e2 : qs.getD j 0 = z2 := by simp [List.getD, hz2]
      rw [e2]
      exact ((fr3.stay s6).app (a := r) upd_same).tm (Tm.lst hz6)
    · rintro vs H3 hz3 ⟨s3, fr3⟩
      rw [List.length_map] at fr3
      refine ⟨acc, vs, _, rfl, hz3, fr3, fun z hz' => ?_, by rw [List.length_map, List.length_range]; omega, fun r H5 s5 e5 => k r H5 (s3.trans s5) e5⟩
      obtain ⟨g, hg, rfl⟩ := List.mem_map.mp hz'
      exact (rb_mul (rb_wish (hn _ (mem_getD (List.mem_range.mp hg)))) (rb_getD (by decide) hq g)).mono (by decide)
theorem dl_row {H : Hp} {q : Addr} {zs : List V} {D : List (List Rat)} {n j : Nat} (dl : DlAt H q zs D n) (hj : j < D.length) : ∃ (a : Addr) (ys : List V), atI zs (j : Int) = some (.ref a) ∧ zs[j]? = some (.ref a) ∧ H a = some (.tup ys) ∧ Frs H ys (D.getD j []) ∧ (D.getD j []).length = n ∧ ∀ z ∈ D.getD j [], Rb 100 z := by
  have hz : j < zs.length := by rw [dl.fr.1]; exact hj
  obtain ⟨a, ys, qs, hD, e, ha, fr⟩ := dl.fr.2 j zs[j] (List.getElem?_eq_getElem hz)
  have eD : D.getD j [] = qs := getD_of hD
  have ez : zs[j]? = some (.ref a) := by rw [List.getElem?_eq_getElem hz, e]
  refine ⟨a, ys, atI_nat ez, ez, ha, by rw [eD]; exact fr, by rw [eD]; exact dl.len qs (List.mem_of_getElem? hD), by rw [eD]; exact dl.bd qs (List.mem_of_getElem? hD)⟩
theorem scWb : FnScope ["market", "dealing", "buyer", "other"] ["market", "dealing", "buyer", "other"] (defScope (top 35)) := ⟨rfl, rfl, rfl, by decide +kernel, rfl, by decide +kernel, by decide +kernel⟩
theorem ok_wb {f fW fO Nn : Addr} {fd dW dO : FuncData} (F : Fun K "worth_by_purse" "worth_by_purse" (top 35) f fd) (W : Cal K mg P w base "worth_of" 5 ["wishes", "got"] spWorth fW dW) (O : CalX K mg P w base "over" 3 ["one", "other"] (spOver Nn) fO dO) : FnOk P w K mg base CX0 6 f fd ["market", "dealing", "buyer", "other"] spWbp := by
  refine F.ok scWb (fun vs H Q E h => ?_) (fun cdv A' outer s H vs Q E hr h => ?_)
  · obtain ⟨b, p, pa, pp, pw, q, xa, xp, xw, zs, am, pu, wi, D, i, j, rfl, _⟩ := h; rfl
  · obtain ⟨b, p, pa, pp, pw, q, xa, xp, xw, zs, am, pu, wi, D, i, j, rfl, m, dl, hD, hi, hj, k⟩ := h
    have hr3 : Room 3 _ := hr.mono (by decide)
    obtain ⟨rw0, rne, rlen, rbd, a1, a6, w1, w6, wp⟩ := m.lw
    obtain ⟨epu, pub⟩ := m.pu
    refine ⟨_, pss_one (ps_ret (pe_call O.ok hr3 rfl O.mg O.kp O.bd .nil passE0 (pa_cons (pe_call W.ok hr rfl W.mg W.kp W.bd .nil pass0 (pa_cons (pe_ix ixT0 (pe_ix ixT0 (pv 0) pe_int (fun _ _ => rfl)) (pv 2) (fun _ _ => rfl)) (pa_cons (pe_ix ixT0 (pv 1) (pv 3) (fun _ _ => rfl)) pa_nil)))
      (pa_cons (pe_ix ixT0 (pe_ix ixT0 (pv 0) pe_int (fun _ _ => rfl)) (pv 3) (fun _ _ => rfl)) pa_nil)))), ?_⟩
    have hil : i < (rowsOf wi).length := by rw [← rw0.len]; omega
    obtain ⟨ar, _, ear, har⟩ := rws_row rw0 hil
    have hrl := row_len rlen hil
    obtain ⟨c, ys, ec, _, hc, fr, hl, hb⟩ := dl_row dl (j := j) (by omega)
    have hmem : (rowsOf wi).getD i [] ∈ rowsOf wi := by rw [getD_of (List.getElem?_eq_getElem hil)]; exact List.getElem_mem hil
    refine ⟨_, rfl, p, _, _, _, rfl, rfl, SqT.of m.hp, rfl, _, rfl, pw, _, _, _, rfl, rfl, SqT.of m.hw, ear, _, rfl, _, rfl, q, _, _, _, rfl, rfl, SqT.of dl.hq, ec, ar, c, _, ys, D.getD j [], rfl, har, hc, fr, by rw [hrl, hl], by omega, rbd _ hmem, hb, fun r H1 s1 hr1 => ?_⟩
    have m1 := m.stay s1
    have fp := m1.fp
    have hjp : j < (pursesQ pu).length := by rw [← fp.1]; exact hj
    obtain ⟨cp, ecp, hcp⟩ := fp.at (g := j) hjp
    have hpm : (pursesQ pu).getD j 0 ∈ pursesQ pu := by rw [getD_of (List.getElem?_eq_getElem hjp)]; exact List.getElem_mem hjp
    have hpp := pub _ hpm
    have hne : (pursesQ pu).getD j 0 ≠ 0 := fun z => by have := hpp.1; rw [z] at this; exact absurd this (by decide)
    refine ⟨_, rfl, p, _, _, _, rfl, rfl, SqT.of m1.hp, rfl, _, rfl, pp, _, _, _, rfl, rfl, SqT.of m1.hpp, ecp, r, cp, _, _, rfl, hr1, hcp, (rb_worth (by omega) (rbd _ hmem) hb).mono (by decide), hpp.2.mono (by decide), fun z => absurd z hne, fun _ r2 hr2 => ?_⟩
    exact k r2 _ (s1.new hr2) upd_same
theorem scWr : FnScope ["market", "dealing", "buyer", "other"] ["market", "dealing", "buyer", "other"] (defScope (top 34)) := ⟨rfl, rfl, rfl, by decide +kernel, rfl, by decide +kernel, by decide +kernel⟩
theorem rb_rateW {b p pa pp pw q : Addr} {H : Hp} {xa xp xw zs : List V} {am pu wi : List PyData} {D : List (List Rat)} {i j : Nat} (m : MkAt b H p pa pp pw xa xp xw am pu wi) (dl : DlAt H q zs D xa.length) (hD : D.length = xp.length) (hi : i < xp.length) (hj : j < xp.length) : Rb 3000 (rateW (rowsOf wi) (pursesQ pu) D i j) := by
  obtain ⟨rw0, rne, rlen, rbd, a1, a6, w1, w6, wp⟩ := m.lw
  obtain ⟨epu, pub⟩ := m.pu
  have hil : i < (rowsOf wi).length := by rw [← rw0.len]; omega
  have hrl := row_len rlen hil
  obtain ⟨c, ys, _, _, _, _, hl, hb⟩ := dl_row dl (j := j) (by omega)
  have hmem : (rowsOf wi).getD i [] ∈ rowsOf wi := by rw [getD_of (List.getElem?_eq_getElem hil)]; exact List.getElem_mem hil
  have hjp : j < (pursesQ pu).length := by rw [← m.fp.1]; exact hj
  have hpm : (pursesQ pu).getD j 0 ∈ pursesQ pu := by rw [getD_of (List.getElem?_eq_getElem hjp)]; exact List.getElem_mem hjp
  have hpp := pub _ hpm
  have hne : (pursesQ pu).getD j 0 ≠ 0 := fun z => by have := hpp.1; rw [z] at this; exact absurd this (by decide)
  exact (rb_divq (rb_worth (by omega) (rbd _ hmem) hb) hpp.2 hne).mono (by decide)
theorem ok_wr {f fW fL : Addr} {fd dW dL : FuncData} (F : Fun K "would_rather" "would_rather" (top 34) f fd) (W : Cal K mg P w base "worth_by_purse" 6 ["market", "dealing", "buyer", "other"] spWbp fW dW) (L : Cal K mg P w base "less" 1 ["one", "other"] spLess fL dL) : FnOk P w K mg base CX0 7 f fd ["market", "dealing", "buyer", "other"] spWr := by
  refine F.ok scWr (fun vs H Q E h => ?_) (fun cdv A' outer s H vs Q E hr h => ?_)
  · obtain ⟨b, p, pa, pp, pw, q, xa, xp, xw, zs, am, pu, wi, D, i, j, rfl, _⟩ := h; rfl
  · obtain ⟨b, p, pa, pp, pw, q, xa, xp, xw, zs, am, pu, wi, D, i, j, rfl, m, dl, hD, hi, hj, k⟩ := h
    have hr1 : Room 1 _ := hr.mono (by decide)
    refine ⟨_, pss_one (ps_ret (pe_call L.ok hr1 rfl L.mg L.kp L.bd .nil pass0 (pa_cons (pe_call W.ok hr rfl W.mg W.kp W.bd .nil pass0 (pa_cons (pv 0) (pa_cons (pv 1) (pa_cons (pv 2) (pa_cons (pv 2) pa_nil)))))
      (pa_cons (pe_call W.ok hr rfl W.mg W.kp W.bd .nil pass0 (pa_cons (pv 0) (pa_cons (pv 1) (pa_cons (pv 2) (pa_cons (pv 3) pa_nil))))) pa_nil)))), ?_⟩
    refine ⟨_, rfl, _, rfl, _, rfl, _, rfl, b, p, pa, pp, pw, q, xa, xp, xw, zs, am, pu, wi, D, i, i, rfl, m, dl, hD, hi, hi, fun r1 H1 s1 e1 => ?_⟩
    refine ⟨_, rfl, _, rfl, _, rfl, _, rfl, b, p, pa, pp, pw, q, xa, xp, xw, zs, am, pu, wi, D, i, j, rfl, m.stay s1, dl.stay s1, hD, hi, hj, fun r2 H2 s2 e2 => ?_⟩
    exact ⟨r1, r2, _, _, rfl, s2 _ _ e1, e2, rb_rateW m dl hD hi hi, rb_rateW m dl hD hi hj, k H2 (s1.trans s2)⟩
theorem scTm : FnScope ["market", "dealing"] ["market", "dealing"] (defScope (top 33)) := ⟨rfl, rfl, rfl, by decide +kernel, rfl, by decide +kernel, by decide +kernel⟩
theorem ok_tm {f fG fL : Addr} {fd dG dL : FuncData} (F : Fun K "deals_too_much" "deals_too_much" (top 33) f fd) (N : Nm mg) (G : Cal K mg P w base "got_in_all" 5 ["dealing", "good"] spGot fG dG) (L : Cal K mg P w base "less" 1 ["one", "other"] spLess fL dL) : FnOk P w K mg base CX0 6 f fd ["market", "dealing"] spTooM := by
  refine F.ok scTm (fun vs H Q E h => ?_) (fun cdv A' outer s H vs Q E hr h => ?_)
  · obtain ⟨b, p, pa, pp, pw, q, xa, xp, xw, zs, am, pu, wi, D, rfl, _⟩ := h; rfl
  · obtain ⟨b, p, pa, pp, pw, q, xa, xp, xw, zs, am, pu, wi, D, rfl, m, dl, k⟩ := h
    have hr1 : Room 1 _ := hr.mono (by decide)
    obtain ⟨_, _, _, _, a1, a6, w1, w6, wp⟩ := m.lw
    obtain ⟨exa, amb⟩ := m.am
    have nd : List.Nodup (["good", "amount", "dealing"] : List Str) := by decide +kernel
    refine ⟨_, pss_one (ps_ret (pe_callB (cAny0 rfl) (by rfl) N.any boot_any (pa_cons (pe_comp (own := ["good", "amount"]) (cap := ["dealing"]) (ix := [1]) (BlkOk.of (defScope (top 33)).names ["market", "dealing"]) rfl (piEnum0 rfl N.enumerate boot_enumerate (pa_cons (pe_ix ixT0 (pv 0) pe_int (fun _ _ => rfl)) pa_nil))
      (fun C fp s H => ⟨pgTup0 (n := 2) rfl (pgs_cons (pg_name (i := 0) nd rfl (Or.inl rfl)) (pgs_cons (pg_name (i := 1) nd rfl (Or.inl rfl)) pgs_nil)), pifs_nil,
        pe_call L.ok hr1 rfl L.mg L.kp L.bd .nil pass0 (pa_cons (pe_tup (pa_cons (pv 1) (pa_cons pe_int pa_nil))) (pa_cons (pe_call G.ok hr rfl G.mg G.kp G.bd .nil pass0 (pa_cons (pv 2) (pa_cons (pv 0) pa_nil))) pa_nil))⟩)) pa_nil))), ?_⟩
    refine ⟨_, rfl, p, _, _, _, rfl, rfl, SqT.of m.hp, rfl, pa, rfl, ⟨_, SqT.of m.ha⟩, fun acc hacc => ?_⟩
    refine pr_enum (xs := xa) (fun _ => true) (fun g => V.bl (decide ((((am.map intOf).getD g 0 : Int) : Rat) < gotQ D g))) hacc (by omega) m.ha (fun i x H' Z _ _ h => h H' (Stay.refl H')) (fun i x H1 Z hx _ s1 h => ?_) (fun H1 s1 h1 => ?_)
    · have hi : i < xa.length := (List.getElem?_eq_some_iff.mp hx).1
      rw [exa] at hx
      obtain ⟨hil, rfl⟩ := ints_get hx
      have hb := amb _ (mem_getD hil)
      have dl1 := dl.stay s1
      refine ⟨_, rfl, by show 2 ≤ sizeLine; decide, fun p0 hp0 => ?_⟩
      have s2 := (Stay.refl H1).new (o := .tup [.int ((am.map intOf).getD i 0), .int 1]) hp0
      refine ⟨_, rfl, _, rfl, q, zs, D, i, xa.length, rfl, dl1.stay s2, hi, fun r H3 s3 e3 => ?_⟩
      have bg : Rb 3000 (gotQ D i) := by
        unfold gotQ
        have := rb_sumQ (k := 100) (qs := D.map fun qs => qs.getD i 0) fun z hz => by
          obtain ⟨qs, hqs, rfl⟩ := List.mem_map.mp hz
          exact rb_getD (by decide) (dl.bd qs hqs) i
        refine this.mono ?_
        have := dl.few
        rw [List.length_map]; omega
      exact ⟨p0, r, _, _, rfl, s3 _ _ upd_same, e3, (rb_int (k := 7) (by unfold Bd; omega) (by decide)).mono (by decide), bg, h H3 (s2.trans s3)⟩
    · rw [List.filter_eq_self.mpr (fun _ _ => rfl)] at h1
      refine ⟨acc, _, rfl, .inl (SqL.of h1), plain_bl _ _, ?_⟩
      rw [any_bl]
      exact k H1 s1
theorem scNd : FnScope ["market", "thing"] ["market", "thing"] (defScope (top 32)) := ⟨rfl, rfl, rfl, by decide +kernel, rfl, by decide +kernel, by decide +kernel⟩
theorem ok_nd {f fI fT Nd : Addr} {fd dI dT : FuncData} (F : Fun K "need_dealing" "need_dealing" (top 32) f fd) (mgN : mg "NoDealing" = some (.ref Nd)) (exN : PySem.W.excIn K Nd [.type "ValueError", .type "Exception", .type "BaseException", .type "object"] "ValueError.__new__" = true)
    (I : Cal K mg P w base "is_dealing" 4 ["market", "thing"] spIsDl fI dI) (T : Cal K mg P w base "deals_too_much" 6 ["market", "dealing"] spTooM fT dT) : FnOk P w K mg base (CXF P w) 7 f fd ["market", "thing"] (spNeedD Nd) := by
  refine F.okX scNd (fun vs H Q E h => ?_) (fun cdv A' outer s H vs Q E hr h => ?_)
  · obtain ⟨b, p, pa, pp, pw, xa, xp, xw, am, pu, wi, v, d, rfl, _⟩ := h; rfl
  · obtain ⟨b, p, pa, pp, pw, xa, xp, xw, am, pu, wi, v, d, rfl, m, hT, hbd, k0, k1, k2⟩ := h
    have hr4 : Room 4 _ := hr.mono (by decide)
    refine ⟨_, pss_one (ps_if (PW.pt (pw_or (pt_not (pt_val (pe_call I.ok hr4 rfl I.mg I.kp I.bd .nil pass0 (pa_cons (pv 0) (pa_cons (pv 1) pa_nil))))) (pw_or1 (pt_val (pe_call T.ok hr rfl T.mg T.kp T.bd .nil pass0 (pa_cons (pv 0) (pa_cons (pv 1) pa_nil))))))) (pss_one (ps_raise PySem.F.excBase_ValueError rfl mgN exN (pa_cons pe_str pa_nil))) pss_nil), ?_⟩
    refine ⟨_, rfl, _, rfl, b, p, pa, pp, pw, xa, xp, xw, am, pu, wi, v, d, rfl, m, hT, fun H1 s1 => ⟨_, rfl, ?_⟩⟩
    cases hd : isDl xp.length xa.length d with
    | false => exact iteT (iteT ⟨by show 1 ≤ sizeLine; decide, k0 hd H1 s1⟩)
    | true =>
      obtain ⟨D, rfl, e1, e2, e3⟩ := dl_q hd
      have hT1 := hT.stay s1
      cases hT1 with
      | @tup q zs _ hq hs =>
      obtain ⟨_, _, _, _, a1, a6, w1, w6, wp⟩ := m.lw
      have dl : DlAt H1 q zs D xa.length := ⟨hq, frm_of hs, e2, hbd D rfl, by omega⟩
      refine iteF ⟨_, rfl, _, rfl, b, p, pa, pp, pw, q, xa, xp, xw, zs, am, pu, wi, D, rfl, m.stay s1, dl, fun H2 s2 => ⟨_, rfl, ?_⟩⟩
      cases ht : tooB (am.map intOf) D xa.length with
      | true => exact iteT ⟨by show 1 ≤ sizeLine; decide, k1 D rfl e1 e2 e3 ht H2 (s1.trans s2)⟩
      | false => exact iteF (k2 D rfl e1 e2 e3 ht H2 (s1.trans s2))
abbrev NRa : List Str := ["market", "dealing", "buyers"]
theorem scRa : FnScope NRa ["market", "dealing"] (defScope (top 31)) := ⟨rfl, rfl, rfl, by decide +kernel, rfl, by decide +kernel, by decide +kernel⟩
theorem ok_ra {f fN fW Nd : Addr} {fd dN dW : FuncData} (F : Fun K "rather" "rather" (top 31) f fd) (N : Nm mg) (Ne : CalX K mg P w base "need_dealing" 7 ["market", "thing"] (spNeedD Nd) fN dN) (Wr : Cal K mg P w base "would_rather" 7 ["market", "dealing", "buyer", "other"] spWr fW dW) : FnOk P w K mg base (CXF P w) 8 f fd ["market", "dealing"] (spRather Nd) := by
  refine F.okX scRa (fun vs H Q E h => ?_) (fun cdv A' outer s H vs Q E hr h => ?_)
  · obtain ⟨b, p, pa, pp, pw, xa, xp, xw, am, pu, wi, v, d, rfl, _⟩ := h; rfl
  · obtain ⟨b, p, pa, pp, pw, xa, xp, xw, am, pu, wi, v, d, rfl, m, hT, hbd, k0, k1, k2⟩ := h
    have nd : List.Nodup (["buyer", "other", "buyers", "dealing", "market"] : List Str) := by decide +kernel
    refine ⟨_, pss_cons (ps_expr (pe_call Ne.ok hr rfl Ne.mg Ne.kp Ne.bd .nil passF (pa_cons (pv 0) (pa_cons (pv 1) pa_nil))))
      (pss_cons (ps_set (i := 2) scRa.nd rfl (Or.inr rfl) (pe_callTy (call_list_rng rfl) (by rfl) N.list boot_list (pa_cons (pe_callTy call_rangeV (by rfl) N.range boot_range' (pa_cons (pe_callB cLen0 (by rfl) N.len PySem.boot_len (pa_cons (pv 1) pa_nil)) pa_nil)) pa_nil)))
      (pss_one (ps_ret (pe_comp2 (own := ["buyer", "other"]) (cap := ["buyers", "dealing", "market"]) (ix := [2, 1, 0]) (BlkOk.of (defScope (top 31)).names NRa) rfl (piL0 (pv 2))
        (fun C fp s H => ⟨pg_name (i := 0) nd rfl (Or.inl rfl), pifs_nil, piL0 (pv 2), pg_name (i := 1) nd rfl (Or.inl rfl), pifs_one (pt_val (pe_call Wr.ok hr rfl Wr.mg Wr.kp Wr.bd .nil pass0 (pa_cons (pv 4) (pa_cons (pv 3) (pa_cons (pv 0) (pa_cons (pv 1) pa_nil)))))), pe_tup (pa_cons (pv 0) (pa_cons (pv 1) pa_nil))⟩))))), ?_⟩
    refine ⟨_, rfl, _, rfl, b, p, pa, pp, pw, xa, xp, xw, am, pu, wi, v, d, rfl, m, hT, hbd, k0, k1, fun D ed e1 e2 e3 ht H1 s1 => ?_⟩
    subst ed
    have hT1 := hT.stay s1
    have m1 := m.stay s1
    obtain ⟨_, _, _, _, a1, a6, w1, w6, wp⟩ := m.lw
    cases hT1 with
    | @tup q zs _ hq hs =>
    have dl : DlAt H1 q zs D xa.length := ⟨hq, frm_of hs, e2, hbd D rfl, by omega⟩
    have hzl : zs.length = xp.length := by rw [dl.fr.1, e1]
    refine ⟨_, rfl, q, _, rfl, .inr (SqT.of hq), (xp.length : Int), by rw [hzl], fun rr hrr => ?_⟩
    refine ⟨rr, (xp.length : Int), rfl, upd_same, by omega, by omega, fun l hl => ?_⟩
    rw [Int.toNat_natCast]
    have s2 := ((Stay.refl H1).new (o := rngOf rr (xp.length : Int)) hrr).new (o := .lst ((List.range xp.length).map fun i : Nat => V.int (i : Int))) hl
    have e4 : (upd (upd H1 rr (rngOf rr (xp.length : Int))) l (.lst ((List.range xp.length).map fun i : Nat => V.int (i : Int)))) l = some (.lst ((List.range xp.length).map fun i : Nat => V.int (i : Int))) := upd_same
    generalize upd (upd H1 rr (rngOf rr (xp.length : Int))) l (.lst ((List.range xp.length).map fun i : Nat => V.int (i : Int))) = H2 at s2 e4 ⊢
    refine ⟨_, rfl, l, rfl, ⟨_, SqL.of e4⟩, fun acc hacc => ?_⟩
    refine comp2_pairs (cs := [some (.ref l), some (.ref q), some (.ref p)]) (x0 := none) (x1 := none) (ratherB (rowsOf wi) (pursesQ pu) D) (by omega) hacc (fun _ _ => rfl) e4 (fun i j H3 Z hi hj s3 hZ => ?_) (fun i j H3 Z hZ => ⟨_, rfl, _, rfl, by show 2 ≤ sizeLine; decide, hZ⟩) (fun ws H3 s3 hw rw => k2 D rfl e1 e2 e3 ht acc ws H3 ((s1.trans s2).trans s3) hw rw)
    have s23 := s2.trans s3
    exact ⟨_, rfl, _, rfl, _, rfl, _, rfl, b, p, pa, pp, pw, q, xa, xp, xw, zs, am, pu, wi, D, i, j, rfl, m1.stay s23, dl.stay s23, e1, hi, hj, fun H4 s4 => ⟨_, rfl, hZ H4 s4⟩⟩
end
end K26
set_option Elab.async false
set_option linter.all false
set_option maxRecDepth 100000
set_option maxHeartbeats 4000000
namespace K26
open PySem L2 KG EX KM
section
variable {P : Program} {w : World} {K : PySem.W.Frag} {mg : Str → Option Value} {base : Heap}
theorem sc_law_div : FnScope ["one", "other"] ["one", "other"] (defScope (top 44)) := ⟨rfl, rfl, rfl, by decide +kernel, rfl, by decide +kernel, by decide +kernel⟩
theorem ok_law_div {f fF : Addr} {fd dF : FuncData} (F : Fun K "_law_div" "_law_div" (top 44) f fd) (G : Cal K mg P w base "_law_frac" 1 ["top", "bottom"] spLf fF dF) : FnOk P w K mg base CX0 2 f fd ["one", "other"] spDiv := by
  refine F.ok sc_law_div (fun vs H Q E h => ?_) (fun cdv A outer s H vs Q E hr h => ?_)
  · obtain ⟨p, q, a, b, rfl, _⟩ := h; rfl
  · obtain ⟨p, q, a, b, rfl, hp, hq, ⟨ba, bb⟩, ⟨bc, bd⟩, hb0, k⟩ := h
    have hb := den_pos a
    have hn := rat_pos.mp hb0
    refine ⟨_, pss_one (ps_ret (pe_call G.ok hr rfl G.mg G.kp G.bd .nil pass0 (pa_cons (pe_op op_mulB (pe_ix ixT0 (pv 0) pe_int (fun _ _ => rfl)) (pe_ix ixT0 (pv 1) pe_int (fun _ _ => rfl))) (pa_cons (pe_op op_mulB (pe_ix ixT0 (pv 0) pe_int (fun _ _ => rfl)) (pe_ix ixT0 (pv 1) pe_int (fun _ _ => rfl))) pa_nil)))), ?_⟩
    refine ⟨_, rfl, p, _, _, _, rfl, rfl, SqT.of hp, rfl, _, rfl, q, _, _, _, rfl, rfl, SqT.of hq, rfl, _, _, rfl, rfl, ⟨b3 ba, b3 bd⟩, _, rfl, p, _, _, _, rfl, rfl, SqT.of hp, rfl, _, rfl, q, _, _, _, rfl, rfl, SqT.of hq, rfl, _, _, rfl, rfl, ⟨b3 bb, b3 bc⟩, ?_⟩
    exact ⟨_, _, rfl, Int.mul_pos hb hn, b6 (bb.mul bc), fun r hr' => by rw [div_rat (by omega)]; exact k r hr'⟩
theorem scLw : FnScope ["wishes", "row"] ["wishes", "row"] (defScope (top 52)) := ⟨rfl, rfl, rfl, by decide +kernel, rfl, by decide +kernel, by decide +kernel⟩
theorem ok_lworth {f fS fM : Addr} {fd dS dM : FuncData} (F : Fun K "_law_worth" "_law_worth" (top 52) f fd) (N : Nm mg) (Su : Cal K mg P w base "_law_sum" 3 ["some"] spSum fS dS) (M : Cal K mg P w base "_law_mul" 2 ["one", "other"] (sp2 qTi) fM dM) : FnOk P w K mg base CX0 4 f fd ["wishes", "row"] spWorth := by
  refine F.ok scLw (fun vs H Q E h => ?_) (fun cdv A' outer s H vs Q E hr h => ?_)
  · obtain ⟨a, c, ns, ys, qs, rfl, _⟩ := h; rfl
  · obtain ⟨a, c, ns, ys, qs, rfl, ha, hc, fr, hl, h6, hn, hq, k⟩ := h
    have hr2 : Room 2 _ := hr.mono (by decide)
    refine ⟨_, pss_one (ps_ret (pe_call Su.ok hr rfl Su.mg Su.kp Su.bd .nil pass0 (pa_cons (pe_comp (own := ["good"]) (cap := ["row", "wishes"]) (ix := [1, 0]) (BlkOk.of (defScope (top 52)).names ["wishes", "row"]) rfl (pi_range1 rfl N.range (pa_cons (pe_callB cLen0 (by rfl) N.len PySem.boot_len (pa_cons (pv 1) pa_nil)) pa_nil))
      (fun C fp s H => ⟨pg_name (i := 0) (show List.Nodup (["good", "row", "wishes"] : List Str) by decide +kernel) rfl (Or.inl rfl), pifs_nil,
        pe_call M.ok hr2 rfl M.mg M.kp M.bd .nil pass0 (pa_cons (pe_tup (pa_cons (pe_ix ixT0 (pv 2) (pv 0) (fun _ _ => rfl)) (pa_cons pe_int pa_nil))) (pa_cons (pe_ix ixT0 (pv 1) (pv 0) (fun _ _ => rfl)) pa_nil))⟩)) pa_nil))), ?_⟩
    have hyl : ys.length = ns.length := by rw [fr.1]; exact hl.symm
    refine ⟨_, rfl, c, _, rfl, .inr (SqT.of hc), (ns.length : Int), by rw [hyl], by omega, by omega, fun acc hacc => ?_⟩
    rw [Int.toNat_natCast]
    refine comp_range (fun j vs H' => Stay H H' ∧ Frs H' vs ((List.range j).map fun g => ((ns.getD g 0 : Int) : Rat) * qs.getD g 0)) ⟨(Stay.refl H).acc hacc, ⟨rfl, fun j y z => by simp at z⟩⟩ ?_ ?_
    · rintro j vs H3 hj hz3 ⟨s3, fr3⟩
      rw [Int.zero_add]
      obtain ⟨ea, _, _⟩ := atI_ints (ns := ns) (r := (j : Int)) (by omega) (by omega)
      rw [Int.toNat_natCast] at ea
      obtain ⟨c2, ec2, hc2⟩ := fr.at (g := j) (by omega)
      refine yes_i ⟨_, rfl, _, rfl, a, _, _, _, rfl, rfl, SqT.of (s3 _ _ ha), ea, by show 2 ≤ sizeLine; decide, fun p0 hp0 => ?_⟩
      have s5 := (Stay.refl H3).new (o := .tup [.int (ns.getD j 0), .int 1]) hp0
      have b1 := rb_wish (hn _ (mem_getD hj))
      have b2 := rb_getD (k := 100) (by decide) hq j
      refine ⟨_, rfl, _, rfl, c, _, _, _, rfl, rfl, SqT.of ((s3.trans s5) _ _ hc), ec2, p0, c2, ((ns.getD j 0 : Int) : Rat), _, rfl, upd_same, (s3.trans s5) _ _ hc2, b1.mono (by decide), b2.mono (by decide), fun r hr' => ?_⟩
      have s6 := s5.new (o := qO (qTi ((ns.getD j 0 : Int) : Rat) (qs.getD j 0))) hr'
      have hz6 := s6 _ _ hz3
      refine ⟨vs, hz6, by rw [fr3.1, List.length_map, List.length_range, sz]; omega, Cn.of upd_same ⟨(s3.trans s6).acc hacc, ?_⟩⟩
      rw [List.range_succ, List.map_append, List.map_singleton]
      exact ((fr3.stay s6).app (a := r) upd_same).tm (Tm.lst hz6)
    · rintro vs H3 hz3 ⟨s3, fr3⟩
      refine ⟨acc, vs, _, rfl, hz3, fr3, fun z hz' => ?_, by rw [List.length_map, List.length_range]; omega, fun r H5 s5 e5 => k r H5 (s3.trans s5) e5⟩
      obtain ⟨g, hg, rfl⟩ := List.mem_map.mp hz'
      exact (rb_mul (rb_wish (hn _ (mem_getD (List.mem_range.mp hg)))) (rb_getD (by decide) hq g)).mono (by decide)
abbrev NAd : List Str := ["bag", "market", "buyer", "rows", "good", "shares", "left"]
theorem scAd : FnScope NAd ["bag", "market"] (defScope (top 53)) := ⟨rfl, rfl, rfl, by decide +kernel, rfl, by decide +kernel, by decide +kernel⟩
theorem menu25 {r : Int} (h0 : 0 ≤ r) (h1 : r < 2) : ∃ m : Int, atI [V.int 2, V.int 5] r = some (.int m) ∧ 0 < m ∧ m ≤ 5 := by
  have : r = 0 ∨ r = 1 := by omega
  rcases this with rfl | rfl
  · exact ⟨2, rfl, by decide, by decide⟩
  · exact ⟨5, rfl, by decide, by decide⟩
theorem rep1 (n : Nat) (x : V) : (List.replicate n [x]).flatten = List.replicate n x := by
  induction n with
  | zero => rfl
  | succ n ih => rw [List.replicate_succ, List.flatten_cons, ih, List.replicate_succ]; rfl
theorem frs_rep {H : Hp} {t : Addr} {q : Rat} (h : H t = some (qO q)) (n : Nat) : Frs H (List.replicate n (.ref t)) (List.replicate n q) := by
  refine ⟨by rw [List.length_replicate, List.length_replicate], fun j y hy => ?_⟩
  have hj : j < n := by have := (List.getElem?_eq_some_iff.mp hy).1; rwa [List.length_replicate] at this
  have e : (List.replicate n q).getD j 0 = q := by simp [List.getD, hj]
  rw [List.getElem?_replicate_of_lt hj] at hy
  exact ⟨t, (Option.some.inj hy).symm, by rw [e]; exact h⟩
theorem ok_ad {f fT fF : Addr} {fd dT dF : FuncData} (F : Fun K "_law_any_dealing" "_law_any_dealing" (top 53) f fd) (N : Nm mg) (T : Cal K mg P w base "_law_take" 1 ["bag", "many"] spTake fT dT) (Lf : Cal K mg P w base "_law_frac" 1 ["top", "bottom"] spLf fF dF) : FnOk P w K mg base CX0 2 f fd ["bag", "market"] spAnyD := by
  refine F.ok scAd (fun vs H Q E h => ?_) (fun cdv A' outer s H vs Q E hr h => ?_)
  · obtain ⟨b, p, pa, pp, pw, xa, xp, xw, am, pu, wi, rfl, _⟩ := h; rfl
  · obtain ⟨b, p, pa, pp, pw, xa, xp, xw, am, pu, wi, rfl, hb, m, k⟩ := h
    obtain ⟨_, _, _, _, a1, a6, w1, w6, wp⟩ := m.lw
    obtain ⟨exa, amb⟩ := m.am
    have hal : (am.map intOf).length = xa.length := by have := congrArg List.length exa; rw [List.length_map] at this; exact this.symm
    refine ⟨_, pss_cons (ps_setC (i := 3) (own := ["buyer"]) (cap := ["market"]) (ix := [1]) scAd.nd rfl rfl (BlkOk.of (defScope (top 53)).names NAd) rfl (piT0 (pe_ix ixT0 (pv 1) pe_int (fun _ _ => rfl)))
        (fun C fp s H => ⟨pg_name (i := 0) (show List.Nodup (["buyer", "market"] : List Str) by decide +kernel) rfl (Or.inl rfl), pifs_nil, pe_op op_rep (pe_lst (pa_cons (pe_tup (pa_cons pe_int (pa_cons pe_int pa_nil))) pa_nil)) (pe_callB cLen0 (by rfl) N.len PySem.boot_len (pa_cons (pe_ix ixT0 (pv 1) pe_int (fun _ _ => rfl)) pa_nil))⟩))
      (pss_cons (ps_for PassesOwn.never rfl (pi_range1 rfl N.range (pa_cons (pe_callB cLen0 (by rfl) N.len PySem.boot_len (pa_cons (pe_ix ixT0 (pv 1) pe_int (fun _ _ => rfl)) pa_nil)) pa_nil)) (pg_name (i := 4) scAd.nd rfl (Or.inl rfl))
        (pss_cons (ps_setC (i := 5) (own := ["buyer"]) (cap := ["bag"]) (ix := [0]) scAd.nd rfl rfl (BlkOk.of (defScope (top 53)).names NAd) rfl (piT0 (pe_ix ixT0 (pv 1) pe_int (fun _ _ => rfl)))
          (fun C fp s H => ⟨pg_name (i := 0) (show List.Nodup (["buyer", "bag"] : List Str) by decide +kernel) rfl (Or.inl rfl), pifs_nil, pe_call T.ok hr rfl T.mg T.kp T.bd .nil pass0 (pa_cons (pv 1) (pa_cons (pe_ix ixL0 (pe_lst (pa_cons pe_int (pa_cons pe_int pa_nil))) (pe_call T.ok hr rfl T.mg T.kp T.bd .nil pass0 (pa_cons (pv 1) (pa_cons pe_int pa_nil))) (fun _ _ => rfl)) pa_nil))⟩))
        (pss_cons (ps_set (i := 6) scAd.nd rfl (Or.inl rfl) (pe_call T.ok hr rfl T.mg T.kp T.bd .nil pass0 (pa_cons (pv 0) (pa_cons pe_int pa_nil))))
        (pss_one (ps_for PassesOwn.never rfl (pi_range1 rfl N.range (pa_cons (pe_callB cLen0 (by rfl) N.len PySem.boot_len (pa_cons (pv 3) pa_nil)) pa_nil)) (pg_name (i := 2) scAd.nd rfl (Or.inl rfl))
          (pss_one (ps_asg (pe_call Lf.ok hr rfl Lf.mg Lf.kp Lf.bd .nil pass0 (pa_cons (pe_op op_mul (pe_ix ixT0 (pe_ix ixT0 (pv 1) pe_int (fun _ _ => rfl)) (pv 4) (fun _ _ => rfl)) (pe_ix ixL0 (pv 5) (pv 2) (fun _ _ => rfl)))
            (pa_cons (pe_callB (call_max2 rfl) (by rfl) N.max boot_max (pa_cons pe_int (pa_cons (pe_op op_add (pe_callB (cSum0 rfl) (by rfl) N.sum boot_sum (pa_cons (pv 5) pa_nil)) (pv 6)) pa_nil))) pa_nil))) (pg_sub (pe_ix ixL0 (pv 3) (pv 2) (fun _ _ => rfl)) (pv 4) set_list))))))))
      (pss_one (ps_ret (pe_callTy cTup0 (by rfl) N.tuple boot_tuple (pa_cons (pe_comp (own := ["row"]) (cap := []) (ix := []) (BlkOk.of (defScope (top 53)).names NAd) rfl (piL0 (pv 3))
        (fun C fp s H => ⟨pg_name (i := 0) (show List.Nodup (["row"] : List Str) by decide +kernel) rfl (Or.inl rfl), pifs_nil, pe_callTy cTup0 (by rfl) N.tuple boot_tuple (pa_cons (pv 0) pa_nil)⟩)) pa_nil))))), ?_⟩
    refine ⟨_, rfl, p, _, _, _, rfl, rfl, SqT.of m.hp, rfl, pp, rfl, ⟨_, SqT.of m.hpp⟩, fun pr hpr => ?_⟩
    refine comp_tup (xs := xp) (fun i zs H' => Stay H H' ∧ ∃ Ys, Mv H H' pr Ys ∧ Ys.length = i ∧ ∀ j, j < i → Frs H' (Ys.getD j []) (List.replicate xa.length 0)) ⟨(Stay.refl H).acc hpr, [], Mv.nil upd_same hpr, rfl, fun j hj => absurd hj (by omega)⟩ (fun i zs H' _ _ z => SqT.of (z.1 _ _ m.hpp)) ?_ ?_
    · rintro i x zs H1 hx hz ⟨s1, Ys, mv, hYl, hfr⟩
      have m1 := m.stay s1
      refine yes_i ⟨by show 2 ≤ sizeLine; decide, fun t ht => ⟨by show 1 ≤ sizeLine; decide, fun l1 hl1 => ?_⟩⟩
      have s2 := (Stay.refl H1).new (o := .tup [.int 0, .int 1]) ht
      have e2 : (upd H1 t (.tup [.int 0, .int 1])) t = some (qO 0) := upd_same
      generalize upd H1 t (.tup [.int 0, .int 1]) = H2 at s2 e2 hl1 ⊢
      have s3 := (Stay.refl H2).new (o := .lst [.ref t]) hl1
      have e3 : (upd H2 l1 (.lst [.ref t])) l1 = some (.lst [.ref t]) := upd_same
      generalize upd H2 l1 (.lst [.ref t]) = H3 at s3 e3 ⊢
      have m3 := m1.stay (s2.trans s3)
      refine ⟨_, rfl, p, _, _, _, rfl, rfl, SqT.of m3.hp, rfl, pa, _, rfl, .inr (SqT.of m3.ha), l1, _, _, rfl, rfl, e3, by omega, by omega, by rw [Int.toNat_natCast, sz]; show 1 * _ ≤ _; omega, fun l2 hl2 => ?_⟩
      rw [Int.toNat_natCast, rep1]
      have s13 := s2.trans s3
      have s4 := (Stay.refl H3).new (o := .lst (List.replicate xa.length (V.ref t))) hl2
      have s14 := s13.trans s4
      obtain ⟨zs', hz', hzl, mv'⟩ := mv.push (c := l2) (r := List.replicate xa.length (V.ref t)) (s13.free hl2) ((s1.trans s13).free hl2) (fun a o _ e => s14 _ _ e) upd_same
      have ez : zs = zs' := by
        have := s14 _ _ hz
        rw [hz'] at this
        injection this with this
        injection this with this
        exact this.symm
      subst ez
      have hxi := (List.getElem?_eq_some_iff.mp hx).1
      have tm : Tm (upd H3 l2 (.lst (List.replicate xa.length (V.ref t)))) (upd (upd H3 l2 (.lst (List.replicate xa.length (V.ref t)))) pr (.lst (zs ++ [.ref l2]))) := Tm.lst (s14 _ _ hz)
      refine ⟨zs, hz', by rw [hzl, hYl, sz]; omega, Cn.of upd_same ⟨(s1.trans s14).acc hpr, _, mv', by rw [List.length_append, hYl]; rfl, fun j hj => ?_⟩⟩
      rcases Nat.lt_or_ge j i with y | y
      · have : (Ys ++ [List.replicate xa.length (V.ref t)]).getD j [] = Ys.getD j [] := by simp [List.getD, List.getElem?_append_left (show j < Ys.length by omega)]
        rw [this]
        exact ((hfr j y).stay s14).tm tm
      · obtain rfl : j = i := by omega
        have : (Ys ++ [List.replicate xa.length (V.ref t)]).getD j [] = List.replicate xa.length (V.ref t) := by rw [← hYl]; simp [List.getD]
        rw [this]
        exact (frs_rep ((s3.trans s4) _ _ e2) _).tm tm
    rintro zs0 H1 hz0 ⟨s1, Ys0, mv0, hYl0, hfr0⟩
    have m1 := m.stay s1
    refine ⟨_, rfl, p, _, _, _, rfl, rfl, SqT.of m1.hp, rfl, pa, _, rfl, .inr (SqT.of m1.ha), (xa.length : Int), rfl, by omega, by omega, ?_⟩
    rw [Int.toNat_natCast]
    refine for_range (fun i σ H' => (∃ y2 y4 y5 y6, σ = [some (.ref b), some (.ref p), y2, some (.ref pr), y4, y5, y6]) ∧ Bag H' b ∧ Kp b H H' ∧ ∃ Ys D, Mv H H' pr Ys ∧ Ys.length = xp.length ∧ D.length = xp.length ∧ (∀ j, j < xp.length → Frs H' (Ys.getD j []) (D.getD j []) ∧ (D.getD j []).length = xa.length) ∧ ∀ g, g < i → ColQ (am.map intOf) D xp.length g)
      ⟨⟨_, _, _, _, rfl⟩, Bag.stay hb s1, Stay.kpb s1, Ys0, List.replicate xp.length (List.replicate xa.length 0), mv0, hYl0, by rw [List.length_replicate], fun j hj => ?_, fun g hg => absurd hg (by omega)⟩ ?st ?fi
    · have : (List.replicate xp.length (List.replicate xa.length (0 : Rat))).getD j [] = List.replicate xa.length 0 := by simp [List.getD, hj]
      rw [this]
      exact ⟨hfr0 j hj, by rw [List.length_replicate]⟩
    case st =>
      rintro i σ H2 hi ⟨⟨y2, y4, y5, y6, rfl⟩, hb2, k2, Ys, D, mv, hYl, hDl, hfr, hcol⟩
      rw [Int.zero_add]
      have m2 := m.kp k2 hb
      refine ⟨_, rfl, p, _, _, _, rfl, rfl, SqT.of m2.hp, rfl, pp, rfl, ⟨_, SqT.of m2.hpp⟩, fun ps hps => ?_⟩
      refine comp_bagT hb2 hps (by omega) m2.hpp (fun y => ∃ x : Int, y = .int x ∧ (0 ≤ x ∧ x ≤ 4)) (fun j x H' hx hb' kp' Z hZ => ?_) (fun ys H3 hb3 kp3 hl3 hr3 hy3 => ?_)
      · refine ⟨_, rfl, by show 2 ≤ sizeLine; decide, fun l hl => ⟨_, rfl, b, _, rfl, hb'.new hl, by decide, by decide, fun r H5 r0 r1 hb5 kp5 => ?_⟩⟩
        obtain ⟨mm, em, q0, q1⟩ := menu25 r0 r1
        exact ⟨l, _, _, _, rfl, rfl, SqL.of (kp5 l _ (hb'.ne hl).symm upd_same), em, b, mm, rfl, hb5, q0, by omega, fun r2 H6 p0 p1 hb6 kp6 => hZ _ _ hb6 ((((Kp.refl b H').new hl).trans kp5).trans kp6) ⟨r2, rfl, p0, by omega⟩⟩
      obtain ⟨ss, rfl, hss⟩ := ints_of hr3
      rw [List.length_map] at hl3
      refine ⟨_, rfl, b, _, rfl, hb3, by decide, by decide, fun lf H4 lf0 lf1 hb4 kp4 => ?_⟩
      have npsb : ps ≠ b := (hb2.ne hps).symm
      have hy4 := kp4 _ _ npsb hy3
      have k24 := kp3.trans kp4
      have mv4 := mv.kp hb k24
      obtain ⟨xs4, hxs4, hxl4, _⟩ := mv4.list
      refine ⟨_, rfl, pr, _, rfl, .inl (SqL.of hxs4), (xp.length : Int), by rw [hxl4, hYl], by omega, by omega, ?_⟩
      rw [Int.toNat_natCast]
      have hsum := sum_pos (ns := ss) fun x hx => (hss x hx).1
      have hsum2 : ss.sum ≤ 24 := by
        have : ∀ {l : List Int}, (∀ x ∈ l, 0 ≤ x ∧ x ≤ 4) → l.sum ≤ 4 * l.length := by
          intro l
          induction l with
          | nil => intro _; simp
          | cons y l ih =>
            intro h
            have h1 := ih fun x hx => h x (List.mem_cons_of_mem _ hx)
            have h2 := h y List.mem_cons_self
            rw [List.sum_cons, List.length_cons]; omega
        have := this hss
        omega
      obtain ⟨mm, hmm⟩ : ∃ mm : Int, mm = if ss.sum + lf > 1 then ss.sum + lf else 1 := ⟨_, rfl⟩
      have hmm1 : 1 ≤ mm ∧ mm ≤ 100 ∧ ss.sum ≤ mm := by rw [hmm]; have := hsum.1; split <;> omega
      have hai : (am.map intOf).getD i 0 ∈ am.map intOf := mem_getD (by omega)
      have hami := amb _ hai
      refine for_range (fun j σ H' => (∃ z2, σ = [some (.ref b), some (.ref p), z2, some (.ref pr), some (.int (i : Int)), some (.ref ps), some (.int lf)]) ∧ Bag H' b ∧ Kp b H H' ∧ H' ps = some (.lst (ss.map V.int)) ∧ ∃ Ys' D', Mv H H' pr Ys' ∧ Ys'.length = xp.length ∧ D'.length = xp.length ∧ (∀ j', j' < xp.length → Frs H' (Ys'.getD j' []) (D'.getD j' []) ∧ (D'.getD j' []).length = xa.length) ∧ (∀ j', j' < j → eQ D' j' i = Rat.divInt ((am.map intOf).getD i 0 * ss.getD j' 0) mm) ∧ ∀ j' g', j' < xp.length → g' ≠ i → eQ D' j' g' = eQ D j' g')
        ⟨⟨_, rfl⟩, hb4, k2.trans k24, hy4, Ys, D, mv4, hYl, hDl, fun j' hj' => ⟨(hfr j' hj').1.tm (k24.tm hb2), (hfr j' hj').2⟩, fun j' hj' => absurd hj' (by omega), fun _ _ _ _ => rfl⟩ ?st2 ?fi2
      case st2 =>
        rintro j σ H5 hj ⟨⟨z2, rfl⟩, hb5, k5, hy5, Ys', D', mv5, hYl5, hDl5, hfr5, hdone, hold⟩
        rw [Int.zero_add]
        have m5 := m.kp k5 hb
        have ha5 := m5.ha
        rw [exa] at ha5
        obtain ⟨ea, _, _⟩ := atI_ints (ns := am.map intOf) (r := (i : Int)) (by omega) (by omega)
        obtain ⟨es, _, _⟩ := atI_ints (ns := ss) (r := (j : Int)) (by omega) (by omega)
        rw [Int.toNat_natCast] at ea es
        have hsj := hss _ (mem_getD (s := ss) (i := j) (by omega))
        refine ⟨_, rfl, p, _, _, _, rfl, rfl, SqT.of m5.hp, rfl, _, rfl, pa, _, _, _, rfl, rfl, SqT.of ha5, ea, _, rfl, _, rfl, ps, _, _, _, rfl, rfl, SqL.of hy5, es, _, _, rfl, rfl, .inl ⟨by omega, by omega⟩, ?_⟩
        refine ⟨_, rfl, ps, ss, rfl, .inl (SqL.of hy5), _, rfl, _, _, rfl, rfl, _, _, rfl, ?_⟩
        rw [← hmm]
        refine ⟨_, mm, rfl, by omega, by unfold Bd; exact Nat.lt_of_lt_of_le (show mm.natAbs < 2 ^ 7 by omega) (Nat.pow_le_pow_right (by decide) (by decide)), fun t ht => ?_⟩
        have s6 := (Stay.refl H5).new (o := qO (Rat.divInt ((am.map intOf).getD i 0 * ss.getD j 0) mm)) ht
        have e6 : (upd H5 t (qO (Rat.divInt ((am.map intOf).getD i 0 * ss.getD j 0) mm))) t = some (qO (Rat.divInt ((am.map intOf).getD i 0 * ss.getD j 0) mm)) := upd_same
        generalize upd H5 t (qO (Rat.divInt ((am.map intOf).getD i 0 * ss.getD j 0) mm)) = H6 at s6 e6 ⊢
        obtain ⟨xs, a, hxs, hxl, ea2, _, ha, hfa, hset⟩ := (mv5.stay s6).row (i := j) (by omega)
        obtain ⟨hfj, hfl⟩ := hfr5 j hj
        have hrl : (Ys'.getD j []).length = xa.length := by rw [hfj.1, hfl]
        have exn : ixN (Ys'.getD j []).length (i : Int) = some i := by
          unfold ixN
          rw [if_pos (by omega), if_pos (by omega), Int.toNat_natCast]
        refine ⟨_, rfl, _, rfl, pr, _, _, _, rfl, rfl, SqL.of hxs, ea2, _, rfl, a, _, _, i, rfl, rfl, ha, exn, ?_⟩
        have nab : a ≠ b := (hb.ne hfa).symm
        have nap : ps ≠ a := fun z => by
          have h1 := s6 _ _ hy5
          rw [z, ha] at h1
          injection h1 with h1
          injection h1 with h1
          have h0 : (Ys'.getD j [])[0]? = some (V.int (ss.getD 0 0)) := by
            rw [h1, List.getElem?_map, List.getElem?_eq_getElem (show 0 < ss.length by omega), getD_of (List.getElem?_eq_getElem (show 0 < ss.length by omega))]; rfl
          obtain ⟨u, e, _⟩ := hfj.2 0 _ h0
          cases e
        have tl : Tm H6 (upd H6 a (.lst ((Ys'.getD j []).set i (.ref t)))) := Tm.lst ha
        have eput := eQ_put (D := D') (i := j) (g := i) (q := Rat.divInt ((am.map intOf).getD i 0 * ss.getD j 0) mm) (by omega) (by omega)
        refine ⟨⟨_, rfl⟩, (Bag.stay hb5 s6).acc nab.symm, (k5.trans (Stay.kpb s6)).acc hfa, by rw [upd_ne nap]; exact s6 _ _ hy5, _, putQ D' j i (Rat.divInt ((am.map intOf).getD i 0 * ss.getD j 0) mm), hset _, by rw [List.length_set]; exact hYl5, by unfold putQ; rw [List.length_set]; exact hDl5, fun j' hj' => ⟨?_, by rw [putQ_rowlen]; exact (hfr5 j' hj').2⟩, fun j' hj' => ?_, fun j' g' hj' hg' => ?_⟩
        · unfold putQ
          by_cases z : j' = j
          · subst z
            have e1 : (Ys'.set j' ((Ys'.getD j' []).set i (.ref t))).getD j' [] = (Ys'.getD j' []).set i (.ref t) := by simp [List.getD, show j' < Ys'.length by omega]
            have e2 : (D'.set j' ((D'.getD j' []).set i (Rat.divInt ((am.map intOf).getD i 0 * ss.getD j' 0) mm))).getD j' [] = (D'.getD j' []).set i (Rat.divInt ((am.map intOf).getD i 0 * ss.getD j' 0) mm) := by simp [List.getD, show j' < D'.length by omega]
            rw [e1, e2]
            exact (Frs.put (hfj.stay s6) e6 i).tm tl
          · have e1 : (Ys'.set j ((Ys'.getD j []).set i (.ref t))).getD j' [] = Ys'.getD j' [] := by simp [List.getD, List.getElem?_set_ne (Ne.symm z)]
            have e2 : (D'.set j ((D'.getD j []).set i (Rat.divInt ((am.map intOf).getD i 0 * ss.getD j 0) mm))).getD j' [] = D'.getD j' [] := by simp [List.getD, List.getElem?_set_ne (Ne.symm z)]
            rw [e1, e2]
            exact ((hfr5 j' hj').1.stay s6).tm tl
        · rw [eput]
          by_cases z : j' = j
          · rw [if_pos ⟨z, rfl⟩, z]
          · rw [if_neg (fun y => z y.1)]; exact hdone j' (by omega)
        · rw [eput, if_neg (fun y => hg' y.2)]; exact hold j' g' hj' hg'
      case fi2 =>
        rintro σ H5 ⟨⟨z2, rfl⟩, hb5, k5, hy5, Ys', D', mv5, hYl5, hDl5, hfr5, hdone, hold⟩
        refine ⟨⟨_, _, _, _, rfl⟩, hb5, k5, Ys', D', mv5, hYl5, hDl5, hfr5, fun g hg => ?_⟩
        by_cases z : g = i
        · subst z
          refine ⟨fun j hj => ?_, ?_⟩
          · rw [hdone j hj]
            exact share_ok ⟨by omega, hami.2⟩ (hss _ (mem_getD (s := ss) (i := j) (by omega))) ⟨hmm1.1, hmm1.2.1⟩
          · have e : ((List.range xp.length).map fun j => eQ D' j g) = (List.range xp.length).map fun j => Rat.divInt ((am.map intOf).getD g 0 * ss.getD j 0) mm := List.map_congr_left fun j hj => hdone j (List.mem_range.mp hj)
            rw [e]
            refine shares_le (s := fun j => ss.getD j 0) (by omega) hmm1.1 ?_
            rw [← hl3, idx_all ss 0]
            exact hmm1.2.2
        · exact (hcol g (by omega)).congr fun j hj => hold j g hj z
    case fi =>
      rintro σ H2 ⟨⟨y2, y4, y5, y6, rfl⟩, hb2, k2, Ys, D, mv, hYl, hDl, hfr, hcol⟩
      obtain ⟨xs, hxs, hxl, hxr⟩ := mv.list
      refine ⟨_, rfl, pr, rfl, ⟨_, SqL.of hxs⟩, fun a1 ha1 => ?_⟩
      refine comp_tupsV ha1 hxs hxl (by omega) (fun i x hx => by obtain ⟨a, e, _, ha⟩ := hxr i x hx; exact ⟨a, e, ha⟩) (fun a ns H' Z ha hZ => ⟨_, rfl, a, _, rfl, .inl ⟨SqL.of ha, hZ⟩⟩) (fun ys H3 s3 hyl hyr hy3 => ?_)
      refine ⟨a1, _, rfl, .inl ⟨SqL.of hy3, fun q hq => ?_⟩⟩
      have s4 := (Stay.refl H3).new (o := .tup ys) hq
      have s24 := s3.trans s4
      have hrows : ∀ r ∈ D, ∃ i, i < xp.length ∧ D.getD i [] = r := fun r hr' => by
        obtain ⟨i, hi, e⟩ := List.getElem_of_mem hr'
        exact ⟨i, by omega, by rw [getD_of (List.getElem?_eq_getElem hi), e]⟩
      have hent : ∀ r ∈ D, ∀ z ∈ r, 0 ≤ z ∧ Rb 20 z := fun r hr' z hz => by
        obtain ⟨i, hi, rfl⟩ := hrows r hr'
        obtain ⟨g, hg, e⟩ := List.getElem_of_mem hz
        have hgl : g < xa.length := by rw [← (hfr i hi).2]; exact hg
        have := (hcol g hgl).1 i hi
        unfold eQ at this
        rw [getD_of (List.getElem?_eq_getElem hg), e] at this
        exact this
      refine k q ys D _ ((Bag.stay hb2 s3).new hq) (k2.trans (Stay.kpb s24)) ⟨upd_same, ⟨by omega, fun j x hx => ?_⟩, fun r hr' => ?_, fun r hr' z hz => (hent r hr' z hz).2.mono (by decide), by omega⟩ hDl hent (fun g hg => ?_)
      · have hj : j < xp.length := by have := (List.getElem?_eq_some_iff.mp hx).1; omega
        obtain ⟨c, e, hc⟩ := hyr j x hx
        exact ⟨c, Ys.getD j [], D.getD j [], by rw [getD_of (List.getElem?_eq_getElem (show j < D.length by omega)), List.getElem?_eq_getElem (show j < D.length by omega)], e, s4 _ _ hc, (hfr j hj).1.stay s24⟩
      · obtain ⟨i, hi, rfl⟩ := hrows r hr'
        exact (hfr i hi).2
      · rw [gotQ_idx, hDl]
        exact (hcol g hg).2
end
end K26
set_option Elab.async false
set_option linter.all false
set_option maxRecDepth 100000
set_option maxHeartbeats 4000000
namespace K26
open PySem L2 KG EX KM
section
variable {P : Program} {w : World} {K : PySem.W.Frag} {mg : Str → Option Value} {base : Heap}
theorem ok_total2 {f fA : Addr} {fd dA : FuncData} (F : Fun K "total" "total" (top 23) f fd) (A : CalX K mg P w base "plus" 3 ["one", "other"] (sp2 qPl) fA dA) : FnOk P w K mg base CX0 4 f fd ["parts"] spTot2 := by
  refine F.ok scTot (fun vs H Q E h => ?_) (fun cdv A' outer s H vs Q E hr h => ?_)
  · obtain ⟨l, ys, qs, rfl, _⟩ := h; rfl
  · obtain ⟨l, ys, qs, rfl, hl, hf, hb, h8, k⟩ := h
    refine ⟨_, pss_cons (ps_set (i := 1) scTot.nd rfl (Or.inl rfl) (pe_tup (pa_cons pe_int (pa_cons pe_int pa_nil))))
      (pss_cons (ps_for PassesOwn.never rfl (piL0 (pv 0)) (pg_name (i := 2) scTot.nd rfl (Or.inl rfl))
        (pss_one (ps_set (i := 1) scTot.nd rfl (Or.inl rfl) (pe_call A.ok hr rfl A.mg A.kp A.bd .nil passE0 (pa_cons (pv 1) (pa_cons (pv 2) pa_nil))))))
      (pss_one (ps_ret (pv 1)))), ?_⟩
    refine ⟨by show 2 ≤ sizeLine; decide, fun p0 hp0 => ?_⟩
    have s0 := (Stay.refl H).new (o := .tup [.int 0, .int 1]) hp0
    refine ⟨_, rfl, l, rfl, ⟨_, SqL.of (s0 _ _ hl)⟩, ?_⟩
    refine for_list (xs := ys) (fun i σ H' => (∃ a y2, σ = [some (.ref l), some (.ref a), y2] ∧ H' a = some (qO (sumQ (qs.take i)))) ∧ Stay H H') ⟨⟨p0, _, rfl, upd_same⟩, s0⟩ (fun i σ H' _ z => SqL.of (z.2 _ _ hl)) ?_ ?_
    · rintro i x σ H1 hx ⟨⟨a, y2, rfl, ha⟩, s1⟩
      obtain ⟨c, q, rfl, hc, hq⟩ := frs_get (hf.stay s1) hx
      have hi : i < qs.length := (List.getElem?_eq_some_iff.mp hq).1
      have b1 : Rb 3000 (sumQ (qs.take i)) := (sumQ_rb hb i).mono (by have : 481 * i ≤ 481 * 6 := Nat.mul_le_mul_left _ (by omega); omega)
      have b2 : Rb 3000 q := (hb q (List.mem_of_getElem? hq)).mono (by decide)
      refine ⟨_, rfl, _, rfl, a, c, _, _, rfl, ha, hc, b1, b2, fun r hr' => ?_⟩
      refine ⟨⟨r, _, rfl, ?_⟩, s1.new hr'⟩
      rw [take_snoc hq, sumQ_snoc]
      exact upd_same
    · rintro σ H1 ⟨⟨a, y2, rfl, ha⟩, s1⟩
      rw [hf.1, List.take_length] at ha
      exact ⟨_, rfl, k a H1 s1 ha⟩
theorem ok_totalT {f fA : Addr} {fd dA : FuncData} (F : Fun K "total" "total" (top 23) f fd) (A : CalX K mg P w base "plus" 3 ["one", "other"] (sp2 qPl) fA dA) : FnOk P w K mg base CX0 4 f fd ["parts"] spTotT := by
  refine F.ok scTot (fun vs H Q E h => ?_) (fun cdv A' outer s H vs Q E hr h => ?_)
  · obtain ⟨l, ys, qs, rfl, _⟩ := h; rfl
  · obtain ⟨l, ys, qs, rfl, hl, hf, hb, h8, k⟩ := h
    refine ⟨_, pss_cons (ps_set (i := 1) scTot.nd rfl (Or.inl rfl) (pe_tup (pa_cons pe_int (pa_cons pe_int pa_nil))))
      (pss_cons (ps_for PassesOwn.never rfl (piT0 (pv 0)) (pg_name (i := 2) scTot.nd rfl (Or.inl rfl))
        (pss_one (ps_set (i := 1) scTot.nd rfl (Or.inl rfl) (pe_call A.ok hr rfl A.mg A.kp A.bd .nil passE0 (pa_cons (pv 1) (pa_cons (pv 2) pa_nil))))))
      (pss_one (ps_ret (pv 1)))), ?_⟩
    refine ⟨by show 2 ≤ sizeLine; decide, fun p0 hp0 => ?_⟩
    have s0 := (Stay.refl H).new (o := .tup [.int 0, .int 1]) hp0
    refine ⟨_, rfl, l, rfl, ⟨_, SqT.of (s0 _ _ hl)⟩, ?_⟩
    refine for_tup (xs := ys) (fun i σ H' => (∃ a y2, σ = [some (.ref l), some (.ref a), y2] ∧ H' a = some (qO (sumQ (qs.take i)))) ∧ Stay H H') ⟨⟨p0, _, rfl, upd_same⟩, s0⟩ (fun i σ H' _ z => SqT.of (z.2 _ _ hl)) ?_ ?_
    · rintro i x σ H1 hx ⟨⟨a, y2, rfl, ha⟩, s1⟩
      obtain ⟨c, q, rfl, hc, hq⟩ := frs_get (hf.stay s1) hx
      have hi : i < qs.length := (List.getElem?_eq_some_iff.mp hq).1
      have b1 : Rb 3000 (sumQ (qs.take i)) := (sumQ_rb hb i).mono (by have : 481 * i ≤ 481 * 6 := Nat.mul_le_mul_left _ (by omega); omega)
      have b2 : Rb 3000 q := (hb q (List.mem_of_getElem? hq)).mono (by decide)
      refine ⟨_, rfl, _, rfl, a, c, _, _, rfl, ha, hc, b1, b2, fun r hr' => ?_⟩
      refine ⟨⟨r, _, rfl, ?_⟩, s1.new hr'⟩
      rw [take_snoc hq, sumQ_snoc]
      exact upd_same
    · rintro σ H1 ⟨⟨a, y2, rfl, ha⟩, s1⟩
      rw [hf.1, List.take_length] at ha
      exact ⟨_, rfl, k a H1 s1 ha⟩
theorem scWs : FnScope ["market", "dealing"] ["market", "dealing"] (defScope (top 29)) := ⟨rfl, rfl, rfl, by decide +kernel, rfl, by decide +kernel, by decide +kernel⟩
theorem ok_ws {f fW : Addr} {fd dW : FuncData} (F : Fun K "worths_of" "worths_of" (top 29) f fd) (N : Nm mg) (mz : mg "zip" = none) (W : Cal K mg P w base "worth_of" 5 ["wishes", "got"] spWorth fW dW) : FnOk P w K mg base CX0 6 f fd ["market", "dealing"] spWorths := by
  refine F.ok scWs (fun vs H Q E h => ?_) (fun cdv A' outer s H vs Q E hr h => ?_)
  · obtain ⟨b, p, pa, pp, pw, q, xa, xp, xw, zs, am, pu, wi, D, rfl, _⟩ := h; rfl
  · obtain ⟨b, p, pa, pp, pw, q, xa, xp, xw, zs, am, pu, wi, D, rfl, m, dl, hD, k⟩ := h
    refine ⟨_, pss_one (ps_ret (pe_callTy cTup0 (by rfl) N.tuple boot_tuple (pa_cons (pe_comp (own := ["row", "got"]) (cap := []) (ix := []) (BlkOk.of (defScope (top 29)).names ["market", "dealing"]) rfl (pi_zip0 rfl mz boot_zip (pa_cons (pe_ix ixT0 (pv 0) pe_int (fun _ _ => rfl)) (pa_cons (pv 1) pa_nil)))
      (fun C fp s H => ⟨pgTup0 (n := 2) rfl (pgs_cons (pg_name (i := 0) (show List.Nodup (["row", "got"] : List Str) by decide +kernel) rfl (Or.inl rfl)) (pgs_cons (pg_name (i := 1) (show List.Nodup (["row", "got"] : List Str) by decide +kernel) rfl (Or.inl rfl)) pgs_nil)), pifs_nil,
        pe_call W.ok hr rfl W.mg W.kp W.bd .nil pass0 (pa_cons (pv 0) (pa_cons (pv 1) pa_nil))⟩)) pa_nil))), ?_⟩
    obtain ⟨rw0, rne, rlen, rbd, a1, a6, w1, w6, wp⟩ := m.lw
    have hzl : zs.length = xp.length := by rw [dl.fr.1, hD]
    refine ⟨_, rfl, p, _, _, _, rfl, rfl, SqT.of m.hp, rfl, _, rfl, pw, q, rfl, ⟨_, SqT.of m.hw⟩, ⟨_, SqT.of dl.hq⟩, fun acc hacc => ?_⟩
    refine comp_zip (xs := xw) (ys := zs) (fun j vs H' => Stay H H' ∧ Frs H' vs (worthsQ (rowsOf wi) D j)) (by omega) ⟨(Stay.refl H).acc hacc, ⟨rfl, fun j y z => by simp at z⟩⟩ (fun j vs H' _ _ z => ⟨SqT.of (z.1 _ _ m.hw), SqT.of (z.1 _ _ dl.hq)⟩) ?_ ?_
    · rintro j x y vs H3 H4 hx hy hz3 ⟨s3, fr3⟩ s4
      have hj : j < xw.length := (List.getElem?_eq_some_iff.mp hx).1
      have hil : j < (rowsOf wi).length := by rw [← rw0.len]; exact hj
      obtain ⟨ar, ex, _, har⟩ := rws_row rw0 hil
      obtain rfl : x = .ref ar := by rw [ex] at hx; exact (Option.some.inj hx).symm
      obtain ⟨c, ys, _, ey, hc, fr, hl, hb⟩ := dl_row dl (j := j) (by omega)
      obtain rfl : y = .ref c := by rw [ey] at hy; exact (Option.some.inj hy).symm
      have hrl := row_len rlen hil
      have hmem : (rowsOf wi).getD j [] ∈ rowsOf wi := by rw [getD_of (List.getElem?_eq_getElem hil)]; exact List.getElem_mem hil
      have s34 := s3.trans s4
      refine yes_i ⟨_, rfl, _, rfl, ar, c, _, ys, D.getD j [], rfl, s34 _ _ har, s34 _ _ hc, fr.stay s34, by rw [hrl, hl], by omega, rbd _ hmem, hb, fun r H5 s5 hr5 => ?_⟩
      have s35 := s4.trans s5
      have hz5 := s35 _ _ hz3
      have e1 : worthsQ (rowsOf wi) D (j + 1) = worthsQ (rowsOf wi) D j ++ [worthQ ((rowsOf wi).getD j []) (D.getD j [])] := by
        unfold worthsQ; rw [List.range_succ, List.map_append]; rfl
      refine ⟨vs, hz5, by rw [fr3.1, sz]; unfold worthsQ; rw [List.length_map, List.length_range]; omega, Cn2.of upd_same ⟨(s3.trans s35).acc hacc, ?_⟩⟩
      rw [e1]
      exact ((fr3.stay s35).app (a := r) hr5).tm (Tm.lst hz5)
    · rintro vs H3 hz3 ⟨s3, fr3⟩
      refine ⟨acc, _, rfl, .inl ⟨SqL.of hz3, fun l hl => ?_⟩⟩
      have ew : xw.length = xp.length := by omega
      rw [ew] at fr3
      exact k l vs _ (s3.new hl) upd_same (fr3.stay ((Stay.refl H3).new hl))
end
end K26
set_option Elab.async false
set_option linter.all false
set_option maxRecDepth 100000
set_option maxHeartbeats 4000000
namespace K26
open PySem L2 KG EX KM
section
variable {P : Program} {w : World} {K : PySem.W.Frag} {mg : Str → Option Value} {base : Heap}
abbrev NGa : List Str := ["market", "dealing", "other", "parts"]
theorem scGa : FnScope NGa ["market", "dealing", "other"] (defScope (top 36)) := ⟨rfl, rfl, rfl, by decide +kernel, rfl, by decide +kernel, by decide +kernel⟩
theorem ok_ga {f fN fW fT fTT fO fTi fM Nd Nn : Addr} {fd dN dW dT dTT dO dTi dM : FuncData} (F : Fun K "gain" "gain" (top 36) f fd) (mz : mg "zip" = none) (Ne : CalX K mg P w base "need_dealing" 7 ["market", "thing"] (spNeedD Nd) fN dN) (Ws : Cal K mg P w base "worths_of" 6 ["market", "dealing"] spWorths fW dW)
    (To : Cal K mg P w base "total" 4 ["parts"] spTot2 fT dT) (TT : Cal K mg P w base "total" 4 ["parts"] spTotT fTT dTT) (Ov : CalX K mg P w base "over" 3 ["one", "other"] (spOver Nn) fO dO) (Ti : CalX K mg P w base "times" 3 ["one", "other"] (sp2 qTi) fTi dTi) (Mi : CalX K mg P w base "minus" 3 ["one", "other"] (sp2 qMi) fM dM) :
    FnOk P w K mg base (CXF P w) 8 f fd ["market", "dealing", "other"] (spGain Nd Nn) := by
  refine F.okX scGa (fun vs H Q E h => ?_) (fun cdv A' outer s H vs Q E hr h => ?_)
  · obtain ⟨b, p, pa, pp, pw, xa, xp, xw, am, pu, wi, v, u, d, e, rfl, _⟩ := h; rfl
  · obtain ⟨b, p, pa, pp, pw, xa, xp, xw, am, pu, wi, v, u, d, e, rfl, m, hT, hU, sd, se, k0, k1, k2⟩ := h
    have hr6 : Room 6 _ := hr.mono (by decide)
    have hr4 : Room 4 _ := hr.mono (by decide)
    have hr3 : Room 3 _ := hr.mono (by decide)
    have nd : List.Nodup (["purse", "worth", "ahead"] : List Str) := by decide +kernel
    refine ⟨_, pss_cons (ps_expr (pe_call Ne.ok hr rfl Ne.mg Ne.kp Ne.bd .nil passF (pa_cons (pv 0) (pa_cons (pv 1) pa_nil))))
      (pss_cons (ps_expr (pe_call Ne.ok hr rfl Ne.mg Ne.kp Ne.bd .nil passF (pa_cons (pv 0) (pa_cons (pv 2) pa_nil))))
      (pss_cons (ps_setCX (E0 := E) (i := 3) (own := ["purse", "worth", "ahead"]) (cap := []) (ix := []) scGa.nd rfl rfl rfl rfl passF (BlkOk.of (defScope (top 36)).names NGa) rfl (pi_zip30 rfl mz boot_zip (pa_cons (pe_ix ixT0 (pv 0) pe_int (fun _ _ => rfl)) (pa_cons (pe_call Ws.ok hr6 rfl Ws.mg Ws.kp Ws.bd .nil pass0 (pa_cons (pv 0) (pa_cons (pv 1) pa_nil))) (pa_cons (pe_call Ws.ok hr6 rfl Ws.mg Ws.kp Ws.bd .nil pass0 (pa_cons (pv 0) (pa_cons (pv 2) pa_nil))) pa_nil))))
        (fun C fp s H hp => ⟨pgTup0 (n := 3) rfl (pgs_cons (pg_name (i := 0) nd rfl (Or.inl rfl)) (pgs_cons (pg_name (i := 1) nd rfl (Or.inl rfl)) (pgs_cons (pg_name (i := 2) nd rfl (Or.inl rfl)) pgs_nil))), pifs_nil,
          pe_call Ti.ok hr3 rfl Ti.mg Ti.kp Ti.bd .nil passE0 (pa_cons (pv 0) (pa_cons (pe_call Ov.ok hr3 rfl Ov.mg Ov.kp Ov.bd .nil hp (pa_cons (pv 1) (pa_cons (pv 2) pa_nil))) pa_nil))⟩))
      (pss_one (ps_ret (pe_call Mi.ok hr3 rfl Mi.mg Mi.kp Mi.bd .nil passE0 (pa_cons (pe_call To.ok hr4 rfl To.mg To.kp To.bd .nil pass0 (pa_cons (pv 3) pa_nil)) (pa_cons (pe_call TT.ok hr4 rfl TT.mg TT.kp TT.bd .nil pass0 (pa_cons (pe_ix ixT0 (pv 0) pe_int (fun _ _ => rfl)) pa_nil)) pa_nil))))))), ?_⟩
    have bdr : ∀ {x : PyData}, small x = true → ∀ D, x = matD D → ∀ r ∈ D, ∀ z ∈ r, Rb 100 z := fun {x} hx D eD r hr z hz => by
      subst eD
      exact (small_q hx r hr z hz).mono (by decide)
    refine ⟨_, rfl, _, rfl, b, p, pa, pp, pw, xa, xp, xw, am, pu, wi, v, d, rfl, m, hT, bdr sd, fun hn H1 s1 => ?_, fun D ed e1 e2 e3 ht H1 s1 => ?_, fun D ed e1 e2 e3 ht H1 s1 => ?_⟩
    · exact k0 (by rw [one_no hn]; rfl) H1 s1
    · subst ed
      exact k0 (by rw [one_too ht]; rfl) H1 s1
    subst ed
    have o1 := one_yes (am := am.map intOf) e1 e2 e3 ht
    have m1 := m.stay s1
    have hU1 := hU.stay s1
    have hT1 := hT.stay s1
    refine ⟨_, rfl, _, rfl, b, p, pa, pp, pw, xa, xp, xw, am, pu, wi, u, e, rfl, m1, hU1, bdr se, fun hn H2 s2 => ?_, fun D2 ed g1 g2 g3 gt H2 s2 => ?_, fun D2 ed g1 g2 g3 gt H2 s2 => ?_⟩
    · exact k0 (by rw [one_no hn]; simp) H2 (s1.trans s2)
    · subst ed
      exact k0 (by rw [one_too gt]; simp) H2 (s1.trans s2)
    subst ed
    have o2 := one_yes (am := am.map intOf) g1 g2 g3 gt
    rw [matOf_mat] at k1 k2
    rw [matOf_mat] at k2
    obtain ⟨rw0, rne, rlen, rbd, a1, a6, w1, w6, wp⟩ := m.lw
    obtain ⟨epu, pub⟩ := m.pu
    have s12 := s1.trans s2
    have m2 := m.stay s12
    have hT2 := hT.stay s12
    have hU2 := hU.stay s12
    cases hT2 with
    | @tup q zs _ hq hs =>
    cases hU2 with
    | @tup q2 zs2 _ hq2 hs2 =>
    have dl : DlAt H2 q zs D xa.length := ⟨hq, frm_of hs, e2, bdr sd D rfl, by omega⟩
    have dl2 : DlAt H2 q2 zs2 D2 xa.length := ⟨hq2, frm_of hs2, g2, bdr se D2 rfl, by omega⟩
    refine ⟨_, rfl, p, _, _, _, rfl, rfl, SqT.of m2.hp, rfl, _, rfl, _, rfl, b, p, pa, pp, pw, q, xa, xp, xw, zs, am, pu, wi, D, rfl, m2, dl, e1, fun r1 ys1 H3 s3 hr1 fr1 => ?_⟩
    refine ⟨_, rfl, _, rfl, b, p, pa, pp, pw, q2, xa, xp, xw, zs2, am, pu, wi, D2, rfl, m2.stay s3, dl2.stay s3, g1, fun r2 ys2 H4 s4 hr2 fr2 => ?_⟩
    have m4 := (m2.stay s3).stay s4
    have hr1' := s4 _ _ hr1
    have fr1' := fr1.stay s4
    have s04 := (s12.trans s3).trans s4
    refine ⟨pp, r1, r2, rfl, ⟨_, SqT.of m4.hpp⟩, ⟨_, SqT.of hr1'⟩, ⟨_, SqT.of hr2⟩, fun acc hacc => ?_⟩
    have wl1 : (worthsQ (rowsOf wi) D xp.length).length = xp.length := by unfold worthsQ; rw [List.length_map, List.length_range]
    have wl2 : (worthsQ (rowsOf wi) D2 xp.length).length = xp.length := by unfold worthsQ; rw [List.length_map, List.length_range]
    refine comp_zip3 (xs := xp) (ys := ys1) (ws := ys2) (fun j vs H' => Stay H4 H' ∧ Frs H' vs ((List.range j).map (partQ (rowsOf wi) (pursesQ pu) D D2)) ∧ ∀ i, i < j → worthQ ((rowsOf wi).getD i []) (D2.getD i []) ≠ 0) (by rw [fr1'.1, wl1]) (by rw [fr2.1, wl2]) ⟨(Stay.refl H4).acc hacc, ⟨rfl, fun j y z => by simp at z⟩, fun i hi => absurd hi (by omega)⟩ (fun j vs H' _ _ z => ⟨SqT.of (z.1 _ _ m4.hpp), SqT.of (z.1 _ _ hr1'), SqT.of (z.1 _ _ hr2)⟩) ?_ ?_
    · rintro j x y t vs H5 H6 hx hy ht' hz ⟨s5, fr5, nz5⟩ s6
      have s56 := s5.trans s6
      obtain ⟨cp, zp, rfl, hcp, hzp⟩ := frs_get m4.fp hx
      obtain ⟨c1, z1, rfl, hc1, hz1⟩ := frs_get fr1' hy
      obtain ⟨c2, z2, rfl, hc2, hz2⟩ := frs_get fr2 ht'
      obtain ⟨hj, rfl⟩ := worths_get hz1
      obtain ⟨_, rfl⟩ := worths_get hz2
      have ep : (pursesQ pu).getD j 0 = zp := getD_of hzp
      have bp := (pub zp (List.mem_of_getElem? hzp)).2
      have b1 := rb_w (q := q) (zs := zs) m (small_q sd) hj
      have b2 := rb_w (q := q) (zs := zs) m (small_q se) hj
      refine yes_i ⟨_, rfl, _, rfl, _, rfl, c1, c2, _, _, rfl, s56 _ _ hc1, s56 _ _ hc2, b1.mono (by decide), b2.mono (by decide), fun h0 => ?_, fun h0 r hr' => ?_⟩
      · refine k1 o1 o2 ?_ H6 (s04.trans s56)
        unfold zeroB
        rw [List.any_eq_true]
        exact ⟨j, List.mem_range.mpr hj, by simpa using h0⟩
      have s7 := (Stay.refl H6).new (o := qO (worthQ ((rowsOf wi).getD j []) (D.getD j []) / worthQ ((rowsOf wi).getD j []) (D2.getD j []))) hr'
      refine ⟨cp, r, zp, _, rfl, s7 _ _ (s56 _ _ hcp), upd_same, bp.mono (by decide), (rb_divq b1 b2 h0).mono (by decide), fun r3 hr3 => ?_⟩
      have s8 := s7.new (o := qO (qTi zp (worthQ ((rowsOf wi).getD j []) (D.getD j []) / worthQ ((rowsOf wi).getD j []) (D2.getD j [])))) hr3
      have hz8 := (s6.trans s8) _ _ hz
      refine ⟨vs, hz8, by rw [fr5.1, List.length_map, List.length_range, sz]; omega, Cn3.of upd_same ⟨(s5.trans (s6.trans s8)).acc hacc, ?_, fun i hi => ?_⟩⟩
      · rw [List.range_succ, List.map_append, List.map_singleton]
        have epq : partQ (rowsOf wi) (pursesQ pu) D D2 j = qTi zp (worthQ ((rowsOf wi).getD j []) (D.getD j []) / worthQ ((rowsOf wi).getD j []) (D2.getD j [])) := by unfold partQ; rw [ep]; rfl
        rw [epq]
        exact ((fr5.stay (s6.trans s8)).app (a := r3) upd_same).tm (Tm.lst hz8)
      · rcases Nat.lt_or_ge i j with y | y
        · exact nz5 i y
        · obtain rfl : i = j := by omega
          exact h0
    rintro vs H5 hz ⟨s5, fr5, nz5⟩
    have zb : zeroB (rowsOf wi) D2 xp.length = false := by
      unfold zeroB
      rw [List.any_eq_false]
      intro i hi
      simpa using nz5 i (List.mem_range.mp hi)
    have bpart : ∀ z ∈ (List.range xp.length).map (partQ (rowsOf wi) (pursesQ pu) D D2), Rb 478 z := fun z hz => by
      obtain ⟨i, hi, rfl⟩ := List.mem_map.mp hz
      have hi := List.mem_range.mp hi
      exact rb_part (rb_w (q := q) (zs := zs) m (small_q sd) hi) (rb_w (q := q) (zs := zs) m (small_q se) hi) (rb_getD (by decide) (fun z hz => (pub z hz).2) i) (nz5 i hi)
    have m5 := m4.stay s5
    refine ⟨_, rfl, acc, vs, _, rfl, hz, fr5, fun z hz => (bpart z hz).mono (by decide), by rw [List.length_map, List.length_range]; omega, fun r5 H6 s6 hr5 => ?_⟩
    have m6 := m5.stay s6
    refine ⟨_, rfl, p, _, _, _, rfl, rfl, SqT.of m6.hp, rfl, pp, xp, _, rfl, m6.hpp, m6.fp, fun z hz => ((pub z hz).2).mono (by decide), by rw [← m6.fp.1]; omega, fun r6 H7 s7 hr6' => ?_⟩
    have b5 := rb_sumQ bpart
    rw [List.length_map, List.length_range] at b5
    have b6 := rb_sumQ (k := 20) (qs := pursesQ pu) fun z hz => (pub z hz).2
    refine ⟨r5, r6, _, _, rfl, s7 _ _ hr5, hr6', b5.mono (by omega), b6.mono (by rw [← m.fp.1]; omega), fun r7 hr7 => ?_⟩
    exact k2 o1 o2 zb r7 _ ((s04.trans s5).trans ((s6.trans s7).new hr7)) upd_same
end
end K26
set_option Elab.async false
set_option linter.all false
set_option maxRecDepth 100000
set_option maxHeartbeats 4000000
namespace K26
open PySem L2 KG EX KM
def spLIsDl : Sp := fun vs H Q _ => ∃ (b p pa pp pw : Addr) (xa xp xw : List V) (am pu wi : List PyData) (v : V) (d : PyData), vs = [.ref p, v] ∧ MkAt b H p pa pp pw xa xp xw am pu wi ∧ TrV b H v d ∧ small d = true ∧ ∀ H', Stay H H' → Q (.bl (isDl xp.length xa.length d)) H'
theorem smalls_of {ds : List PyData} (h : small (.tuple ds) = true) : ∀ d ∈ ds, small d = true := fun d hd => smalls_mem (by simpa [small] using h) hd
section
variable {P : Program} {w : World} {K : PySem.W.Frag} {mg : Str → Option Value} {base : Heap}
theorem scLDl : FnScope ["market", "thing", "row"] ["market", "thing"] (defScope (top 54)) := ⟨rfl, rfl, rfl, by decide +kernel, rfl, by decide +kernel, by decide +kernel⟩
theorem ok_lidl {f fI : Addr} {fd dI : FuncData} (F : Fun K "_law_is_dealing" "_law_is_dealing" (top 54) f fd) (N : Nm mg) (Z : IsK K) (I : Cal K mg P w base "_law_is_fraction" 2 ["thing"] (spTs isFrac) fI dI) : FnOk P w K mg base CX0 3 f fd ["market", "thing"] spLIsDl := by
  refine F.ok scLDl (fun vs H Q E h => ?_) (fun cdv A' outer s H vs Q E hr h => ?_)
  · obtain ⟨b, p, pa, pp, pw, xa, xp, xw, am, pu, wi, v, d, rfl, _⟩ := h; rfl
  · obtain ⟨b, p, pa, pp, pw, xa, xp, xw, am, pu, wi, v, d, rfl, m, hT, hsm, k⟩ := h
    have hu := hr.units
    obtain ⟨_, _, _, _, a1, a6, w1, w6, wp⟩ := m.lw
    refine ⟨_, pss_cons (ps_if (PW.pt (pw_or (pt_not (pt_val (pIsi K (pv 1) rfl N.isinstance rfl N.tuple boot_tuple boot_isinstance))) (pw_or1 (pt_cmpR op_ne (pe_callB cLen0 (by rfl) N.len PySem.boot_len (pa_cons (pv 1) pa_nil)) (pe_callB cLen0 (by rfl) N.len PySem.boot_len (pa_cons (pe_ix ixT0 (pv 0) pe_int (fun _ _ => rfl)) pa_nil)) (nomark _))))) (pss_one (ps_ret pe_bl)) pss_nil)
      (pss_cons (ps_for PassesOwn.never rfl (piT0 (pv 1)) (pg_name (i := 2) scLDl.nd rfl (Or.inl rfl))
        (pss_cons (ps_if (PW.pt (pw_or (pt_not (pt_val (pIsi K (pv 2) rfl N.isinstance rfl N.tuple boot_tuple boot_isinstance))) (pw_or1 (pt_cmpR op_ne (pe_callB cLen0 (by rfl) N.len PySem.boot_len (pa_cons (pv 2) pa_nil)) (pe_callB cLen0 (by rfl) N.len PySem.boot_len (pa_cons (pe_ix ixT0 (pv 0) pe_int (fun _ _ => rfl)) pa_nil)) (nomark _))))) (pss_one (ps_ret pe_bl)) pss_nil)
        (pss_one (ps_if (pt_cmpR (opNeD0 hu) (pe_comp (own := ["one"]) (cap := []) (ix := []) (BlkOk.of (defScope (top 54)).names ["market", "thing", "row"]) rfl (piT0 (pv 2))
          (fun C fp s H => ⟨pg_name (i := 0) (show List.Nodup (["one"] : List Str) by decide +kernel) rfl (Or.inl rfl), pifs_one (PW.pt (pw_or (pt_not (pt_val (pe_call I.ok hr rfl I.mg I.kp I.bd .nil pass0 (pa_cons (pv 0) pa_nil)))) (pw_or1 (pt_cmpR op_lt (pe_ix ixT0 (pv 0) pe_int (fun _ _ => rfl)) pe_int (nomark _))))), pv 0⟩)) (pe_lst pa_nil) (nomark _)) (pss_one (ps_ret pe_bl)) pss_nil))))
      (pss_one (ps_ret pe_bl))), ?_⟩
    obtain ⟨t1, ty1, e1⟩ := ist Z hT
    refine ⟨_, rfl, t1, _, ty1, e1, _, rfl, ?_⟩
    have hk := k H (Stay.refl H)
    rcases tupCase hT with hn | ⟨a, xs, ds, rfl, rfl, ha, hs⟩
    · rw [hn]; rw [isDl_no hn] at hk
      exact iteT (iteT hk)
    refine iteF ?_
    have hlen := hs.len
    have hsml := smalls_of hsm
    refine ⟨_, rfl, a, xs, rfl, .inr (SqT.of ha), _, rfl, p, _, _, _, rfl, rfl, SqT.of m.hp, rfl, pp, xp, rfl, .inr (SqT.of m.hpp), rfl, _, rfl, ?_⟩
    by_cases hl : xs.length = xp.length
    case neg =>
      rw [vint_ne hl]
      have e3 : isDl xp.length xa.length (.tuple ds) = false := by
        show (decide (ds.length = xp.length) && _) = false
        rw [decide_eq_false (by rw [← hlen]; exact hl)]; rfl
      rw [e3] at hk
      exact iteT hk
    rw [hl, vint_eq]
    refine iteF ?_
    have e3 : isDl xp.length xa.length (.tuple ds) = ds.all (isDRow xa.length) := by
      show (decide (ds.length = xp.length) && _) = _
      rw [decide_eq_true (by rw [← hlen]; exact hl), Bool.true_and]
    rw [e3] at k
    refine ⟨_, rfl, a, rfl, ⟨_, SqT.of ha⟩, ?_⟩
    refine for_tup (xs := xs) (fun i σ H' => Stay H H' ∧ (∃ y2, σ = [some (.ref p), some (.ref a), y2]) ∧ (ds.take i).all (isDRow xa.length) = true) ⟨Stay.refl H, ⟨_, rfl⟩, rfl⟩ (fun i σ H' _ z => SqT.of (z.1 _ _ ha)) ?_ ?_
    · rintro i x σ H1 hx ⟨s1, ⟨y2, rfl⟩, hall⟩
      obtain ⟨d, hdi, hT1⟩ := hs.at hx
      have hT1' := hT1.stay s1
      have hds := hsml d (List.mem_of_getElem? hdi)
      have no : isDRow xa.length d = false → ∀ H', Stay H1 H' → Q (.bl false) H' := fun e H' s' => by
        have e4 : ds.all (isDRow xa.length) = false := by
          rw [List.all_eq_false]
          exact ⟨d, List.mem_of_getElem? hdi, by rw [e]; decide⟩
        have := k H' (s1.trans s')
        rw [e4] at this; exact this
      have m1 := m.stay s1
      obtain ⟨t2, ty2, e2⟩ := ist Z hT1'
      refine ⟨_, rfl, t2, _, ty2, e2, _, rfl, ?_⟩
      rcases tupCase hT1' with hn | ⟨c, ys, es, rfl, rfl, hc, hes⟩
      · rw [hn]
        exact iteT (iteT (no (isDRow_no hn) H1 (Stay.refl H1)))
      refine iteF ?_
      have hel := hes.len
      refine ⟨_, rfl, c, ys, rfl, .inr (SqT.of hc), _, rfl, p, _, _, _, rfl, rfl, SqT.of m1.hp, rfl, pa, xa, rfl, .inr (SqT.of m1.ha), rfl, _, rfl, ?_⟩
      by_cases hyl : ys.length = xa.length
      case neg =>
        rw [vint_ne hyl]
        refine iteT (no ?_ H1 (Stay.refl H1))
        show (decide (es.length = xa.length) && _) = false
        rw [decide_eq_false (by rw [← hel]; exact hyl)]; rfl
      rw [hyl, vint_eq]
      refine iteF ?_
      have e4 : isDRow xa.length (.tuple es) = es.all isPart := by
        show (decide (es.length = xa.length) && _) = _
        rw [decide_eq_true (by rw [← hel]; exact hyl), Bool.true_and]
      have hsme := smalls_of hds
      refine ⟨_, rfl, c, rfl, ⟨_, SqT.of hc⟩, fun acc hacc => ?_⟩
      refine comp_tup (xs := ys) (fun j zs H' => Stay H1 H' ∧ TrVs b H1 zs ((es.take j).filter fun e => !isPart e) ∧ zs.length ≤ j) ⟨(Stay.refl H1).acc hacc, .nil, Nat.le_refl _⟩ (fun j zs H' _ _ z => SqT.of (z.1 _ _ hc)) ?_ ?_
      · rintro j y zs H2 hy hz ⟨s2, tz, hzl⟩
        obtain ⟨e, hej, hTe⟩ := hes.at hy
        have hj : j < ys.length := (List.getElem?_eq_some_iff.mp hy).1
        have ef : (es.take (j + 1)).filter (fun e => !isPart e) = (es.take j).filter (fun e => !isPart e) ++ if (!isPart e) = true then [e] else [] := by
          rw [take_snoc hej, List.filter_append]
          congr 1
          exact filt1 _ _
        refine ⟨_, rfl, b, y, e, rfl, hTe.stay s2, hsme e (List.mem_of_getElem? hej), fun H3 s3 => ⟨_, rfl, ?_⟩⟩
        cases hf : isFrac e with
        | false => exact iteT (iteT ⟨_, rfl, zs, s3 _ _ hz, by rw [sz]; omega, Cn.of upd_same ⟨(s2.trans s3).acc hacc, by rw [ef, part_frac hf]; exact tz.app (.cons hTe .nil), by rw [List.length_append]; show zs.length + 1 ≤ j + 1; omega⟩⟩)
        | true =>
          obtain ⟨t, u, rfl, ep⟩ := frac_shape hf
          have hx3 := (hTe.stay s2).stay s3
          cases hx3 with
          | @tup a2 ys2 _ ha2 hys2 =>
          match ys2, hys2 with
          | [_, _], .cons (.int _) (.cons (.int _) .nil) =>
          refine iteF ⟨_, rfl, a2, _, _, _, rfl, rfl, SqT.of ha2, rfl, _, _, rfl, rfl, _, rfl, ?_⟩
          by_cases h0 : t < 0
          · rw [decide_eq_true h0]
            exact iteT ⟨_, rfl, zs, s3 _ _ hz, by rw [sz]; omega, Cn.of upd_same ⟨(s2.trans s3).acc hacc, by rw [ef, ep, decide_eq_false (show ¬ 0 ≤ t by omega)]; exact tz.app (.cons hTe .nil), by rw [List.length_append]; show zs.length + 1 ≤ j + 1; omega⟩⟩
          · rw [decide_eq_false h0]
            refine iteF (Cn.of (s3 _ _ hz) ⟨s2.trans s3, ?_, by omega⟩)
            rw [ef, ep, decide_eq_true (show 0 ≤ t by omega)]
            simpa using tz
      · rintro zs H2 hz ⟨s2, tz, hzl⟩
        rw [hel, List.take_length] at tz
        refine ⟨by show 0 ≤ sizeLine; decide, fun q5 hq5 => ?_⟩
        have s5 := (Stay.refl H2).new (o := .lst []) hq5
        refine ⟨.list (es.filter fun e => !isPart e), .list [], .lst (SqL.of (s5 _ _ hz)) ((tz.stay (s2.trans s5)).dt), .lst (SqL.of upd_same) .nil, by show min _ 1 ≤ 60; omega, _, rfl, ?_⟩
        rw [eqv_nil, filt_all]
        have s25 := s2.trans s5
        generalize upd H2 q5 (.lst []) = H6 at s5 s25 ⊢
        cases hp : es.all isPart with
        | false => exact iteT (no (by rw [e4]; exact hp) H6 s25)
        | true =>
          refine iteF ⟨s1.trans s25, ⟨_, rfl⟩, ?_⟩
          rw [take_snoc hdi, List.all_append, hall]
          simp [e4, hp]
    · rintro σ H1 ⟨s1, ⟨y2, rfl⟩, hall⟩
      rw [hlen, List.take_length] at hall
      have := k H1 s1
      rw [hall] at this
      exact this
end
end K26
set_option Elab.async false
set_option linter.all false
set_option maxRecDepth 100000
set_option maxHeartbeats 4000000
namespace K26
open PySem L2 KG EX KM
theorem sumQ_nn : ∀ {qs : List Rat}, (∀ q ∈ qs, 0 ≤ q) → 0 ≤ sumQ qs
  | [], _ => by rw [show sumQ [] = 0 from rfl]; exact Rat.le_refl
  | q :: qs, h => by
    rw [sumQ_cons]
    exact Rat.add_nonneg (h q List.mem_cons_self) (sumQ_nn fun z hz => h z (List.mem_cons_of_mem _ hz))
theorem worth_nn {ns : List Int} {qs : List Rat} (hn : ∀ n ∈ ns, 0 ≤ n ∧ n ≤ 100) (hq : ∀ q ∈ qs, 0 ≤ q) : 0 ≤ worthQ ns qs := by
  unfold worthQ
  refine sumQ_nn fun z hz => ?_
  obtain ⟨g, hg, rfl⟩ := List.mem_map.mp hz
  refine Rat.mul_nonneg ?_ ?_
  · have := (hn _ (mem_getD (List.mem_range.mp hg))).1
    exact_mod_cast this
  · rcases Nat.lt_or_ge g qs.length with y | y
    · rw [getD_of (List.getElem?_eq_getElem y)]; exact hq _ (List.getElem_mem y)
    · have : qs.getD g 0 = 0 := by simp [List.getD, y]
      rw [this]; exact Rat.le_refl
section
variable {P : Program} {w : World} {K : PySem.W.Frag} {mg : Str → Option Value} {base : Heap}
theorem ok_sum2 {f fA : Addr} {fd dA : FuncData} (F : Fun K "_law_sum" "_law_sum" (top 46) f fd) (A : Cal K mg P w base "_law_add" 2 ["one", "other"] (sp2 qPl) fA dA) : FnOk P w K mg base CX0 3 f fd ["some"] spTot2 := by
  refine F.ok scSum (fun vs H Q E h => ?_) (fun cdv A' outer s H vs Q E hr h => ?_)
  · obtain ⟨l, ys, qs, rfl, _⟩ := h; rfl
  · obtain ⟨l, ys, qs, rfl, hl, hf, hb, hn, k⟩ := h
    refine ⟨_, pss_cons (ps_set (i := 1) scSum.nd rfl (Or.inl rfl) (pe_tup (pa_cons pe_int (pa_cons pe_int pa_nil))))
      (pss_cons (ps_for PassesOwn.never rfl (piL0 (pv 0)) (pg_name (i := 2) scSum.nd rfl (Or.inl rfl)) (pss_one (ps_set (i := 1) scSum.nd rfl (Or.inl rfl) (pe_call A.ok hr rfl A.mg A.kp A.bd .nil pass0 (pa_cons (pv 1) (pa_cons (pv 2) pa_nil))))))
      (pss_one (ps_ret (pv 1)))), ?_⟩
    refine ⟨by show 2 ≤ sizeLine; decide, fun p0 hp0 => ?_⟩
    have s0 := (Stay.refl H).new (o := .tup [.int 0, .int 1]) hp0
    refine ⟨_, rfl, l, rfl, ⟨ys, SqL.of (s0 _ _ hl)⟩, ?_⟩
    refine for_list (xs := ys) (fun i σ H' => (∃ r y2, σ = [some (.ref l), some (.ref r), y2] ∧ H' r = some (qO (sumQ (qs.take i)))) ∧ Stay H H') ⟨⟨p0, _, rfl, upd_same⟩, s0⟩ (fun j σ H' _ q => SqL.of (q.2 _ _ hl)) ?_ ?_
    · rintro i y σ H1 hy ⟨⟨r, y2, rfl, hr1⟩, s1⟩
      obtain ⟨a, rfl, ha⟩ := (hf.stay s1).2 i y hy
      have hi : i < qs.length := by have := (List.getElem?_eq_some_iff.mp hy).1; rw [hf.1] at this; exact this
      have eq : qs[i]? = some (qs.getD i 0) := by simp [List.getD, List.getElem?_eq_getElem hi]
      have b1 : Rb 3000 (sumQ (qs.take i)) := (sumQ_rb hb i).mono (by have : 481 * i ≤ 481 * 6 := Nat.mul_le_mul_left _ (by omega); omega)
      have b2 : Rb 3000 (qs.getD i 0) := (hb _ (List.mem_of_getElem? eq)).mono (by decide)
      refine ⟨_, rfl, _, rfl, r, a, _, _, rfl, hr1, ha, b1, b2, fun r2 hr2 => ?_⟩
      exact ⟨⟨r2, _, rfl, by rw [take_snoc eq, sumQ_snoc]; exact upd_same⟩, s1.new hr2⟩
    · rintro σ H1 ⟨⟨r, y2, rfl, hr1⟩, s1⟩
      rw [List.take_of_length_le (by rw [hf.1]; exact Nat.le_refl _)] at hr1
      exact ⟨_, rfl, k r H1 s1 hr1⟩
theorem scIo : FnScope ["market", "thing", "good"] ["market", "thing"] (defScope (top 58)) := ⟨rfl, rfl, rfl, by decide +kernel, rfl, by decide +kernel, by decide +kernel⟩
theorem ok_one {f fD fL fS : Addr} {fd dD dL dS : FuncData} (F : Fun K "_law_is_one" "_law_is_one" (top 58) f fd) (N : Nm mg) (Dl : Cal K mg P w base "_law_is_dealing" 3 ["market", "thing"] spLIsDl fD dD) (Ls : Cal K mg P w base "_law_less" 1 ["one", "other"] spLess fL dL) (Su : Cal K mg P w base "_law_sum" 3 ["some"] spTot2 fS dS) : FnOk P w K mg base CX0 4 f fd ["market", "thing"] spOne := by
  refine F.ok scIo (fun vs H Q E h => ?_) (fun cdv A' outer s H vs Q E hr h => ?_)
  · obtain ⟨b, p, pa, pp, pw, xa, xp, xw, am, pu, wi, v, d, rfl, _⟩ := h; rfl
  · obtain ⟨b, p, pa, pp, pw, xa, xp, xw, am, pu, wi, v, d, rfl, m, hT, sd, k⟩ := h
    have hr1 : Room 1 _ := hr.mono (by decide)
    refine ⟨_, pss_cons (ps_if (pt_not (pt_val (pe_call Dl.ok hr rfl Dl.mg Dl.kp Dl.bd .nil pass0 (pa_cons (pv 0) (pa_cons (pv 1) pa_nil))))) (pss_one (ps_ret pe_bl)) pss_nil)
      (pss_cons (ps_for PassesOwn.never rfl (pi_range1 rfl N.range (pa_cons (pe_callB cLen0 (by rfl) N.len PySem.boot_len (pa_cons (pe_ix ixT0 (pv 0) pe_int (fun _ _ => rfl)) pa_nil)) pa_nil)) (pg_name (i := 2) scIo.nd rfl (Or.inr rfl))
        (pss_one (ps_if (pt_val (pe_call Ls.ok hr1 rfl Ls.mg Ls.kp Ls.bd .nil pass0 (pa_cons (pe_tup (pa_cons (pe_ix ixT0 (pe_ix ixT0 (pv 0) pe_int (fun _ _ => rfl)) (pv 2) (fun _ _ => rfl)) (pa_cons pe_int pa_nil))) (pa_cons (pe_call Su.ok hr rfl Su.mg Su.kp Su.bd .nil pass0 (pa_cons (pe_comp (own := ["row"]) (cap := ["good"]) (ix := [2]) (BlkOk.of (defScope (top 58)).names ["market", "thing", "good"]) rfl (piT0 (pv 1))
          (fun C fp s H => ⟨pg_name (i := 0) (show List.Nodup (["row", "good"] : List Str) by decide +kernel) rfl (Or.inl rfl), pifs_nil, pe_ix ixT0 (pv 0) (pv 1) (fun _ _ => rfl)⟩)) pa_nil)) pa_nil)))) (pss_one (ps_ret pe_bl)) pss_nil)))
      (pss_one (ps_ret pe_bl))), ?_⟩
    refine ⟨_, rfl, _, rfl, b, p, pa, pp, pw, xa, xp, xw, am, pu, wi, v, d, rfl, m, hT, sd, fun H1 s1 => ⟨_, rfl, ?_⟩⟩
    cases hd : isDl xp.length xa.length d with
    | false =>
      refine iteT ?_
      have := k H1 s1
      rw [one_no hd] at this
      exact this
    | true =>
    refine iteF ?_
    obtain ⟨D, rfl, e1, e2, e3⟩ := dl_q hd
    have hT1 := hT.stay s1
    cases hT1 with
    | @tup q zs _ hq hs =>
    obtain ⟨_, _, _, _, a1, a6, w1, w6, wp⟩ := m.lw
    obtain ⟨exa, amb⟩ := m.am
    have hal : (am.map intOf).length = xa.length := by have := congrArg List.length exa; rw [List.length_map] at this; exact this.symm
    have dl : DlAt H1 q zs D xa.length := ⟨hq, frm_of hs, e2, fun r hr z hz => (small_q sd r hr z hz).mono (by decide), by omega⟩
    have m1 := m.stay s1
    refine ⟨_, rfl, p, _, _, _, rfl, rfl, SqT.of m1.hp, rfl, pa, _, rfl, .inr (SqT.of m1.ha), (xa.length : Int), rfl, by omega, by omega, ?_⟩
    rw [Int.toNat_natCast]
    refine for_range (fun i σ H' => Stay H1 H' ∧ (∃ y2, σ = [some (.ref p), some (.ref q), y2]) ∧ tooB (am.map intOf) D i = false) ⟨Stay.refl H1, ⟨_, rfl⟩, rfl⟩ ?_ ?_
    · rintro i σ H2 hi ⟨s2, ⟨y2, rfl⟩, ht⟩
      rw [show (0 + (i : Int)) = (i : Int) from Int.zero_add _]
      have m2 := m1.stay s2
      have dl2 := dl.stay s2
      obtain ⟨ea, _, _⟩ := atI_ints (ns := am.map intOf) (r := (i : Int)) (by omega) (by omega)
      rw [Int.toNat_natCast, ← exa] at ea
      have hb := amb _ (mem_getD (show i < (am.map intOf).length by omega))
      refine ⟨_, rfl, p, _, _, _, rfl, rfl, SqT.of m2.hp, rfl, _, rfl, pa, _, _, _, rfl, rfl, SqT.of m2.ha, ea, by show 2 ≤ sizeLine; decide, fun p0 hp0 => ?_⟩
      have s3 := (Stay.refl H2).new (o := .tup [.int ((am.map intOf).getD i 0), .int 1]) hp0
      have e3' : (upd H2 p0 (.tup [.int ((am.map intOf).getD i 0), .int 1])) p0 = some (qO (((am.map intOf).getD i 0 : Int) : Rat)) := upd_same
      generalize upd H2 p0 (.tup [.int ((am.map intOf).getD i 0), .int 1]) = H3 at s3 e3' ⊢
      have dl3 := dl2.stay s3
      refine ⟨_, rfl, q, rfl, ⟨_, SqT.of dl3.hq⟩, fun acc hacc => ?_⟩
      refine comp_tup (xs := zs) (fun j ws H' => Stay H3 H' ∧ Frs H' ws ((D.take j).map fun qs => qs.getD i 0)) ⟨(Stay.refl H3).acc hacc, rfl, fun j y hy => by simp at hy⟩ (fun j ws H' _ _ z => SqT.of (z.1 _ _ dl3.hq)) ?_ ?_
      · rintro j x ws H4 hx hz ⟨s4, fr4⟩
        obtain ⟨a, ys, qs, hD, rfl, ha, fq⟩ := (dl3.fr.stay s4).2 j x hx
        have hqn := dl.len qs (List.mem_of_getElem? hD)
        obtain ⟨c, ec, hcq⟩ := fq.at (g := i) (by omega)
        have hj : j < D.length := (List.getElem?_eq_some_iff.mp hD).1
        refine yes_i ⟨_, rfl, _, rfl, a, _, _, _, rfl, rfl, SqT.of ha, ec, ws, hz, by rw [fr4.1, List.length_map, List.length_take, sz]; omega, Cn.of upd_same ⟨s4.acc hacc, ?_⟩⟩
        rw [take_snoc hD, List.map_append]
        exact (fr4.app (a := c) hcq).tm (Tm.lst hz)
      · rintro ws H4 hz ⟨s4, fr4⟩
        rw [dl3.fr.1, List.take_length] at fr4
        refine ⟨acc, ws, _, rfl, hz, fr4, fun z hz' => ?_, by rw [List.length_map]; omega, fun r H5 s5 e5 => ?_⟩
        · obtain ⟨qs, hqs, rfl⟩ := List.mem_map.mp hz'
          exact (rb_getD (by decide) (dl.bd qs hqs) i).mono (by decide)
        have s35 := s4.trans s5
        have bg : Rb 3000 (gotQ D i) := by
          unfold gotQ
          have := rb_sumQ (k := 100) (qs := D.map fun qs => qs.getD i 0) fun z hz => by
            obtain ⟨qs, hqs, rfl⟩ := List.mem_map.mp hz
            exact rb_getD (by decide) (dl.bd qs hqs) i
          refine this.mono ?_
          rw [List.length_map]; omega
        refine ⟨p0, r, _, _, rfl, s35 _ _ e3', e5, (rb_int (k := 7) (by unfold Bd; omega) (by decide)).mono (by decide), bg, _, rfl, ?_⟩
        have s15 := s2.trans (s3.trans s35)
        have ets : tooB (am.map intOf) D (i + 1) = (tooB (am.map intOf) D i || decide ((((am.map intOf).getD i 0 : Int) : Rat) < gotQ D i)) := by
          unfold tooB; rw [List.range_succ, List.any_append]; simp
        show (if decide ((((am.map intOf).getD i 0 : Int) : Rat) < gotQ D i) = true then _ else _)
        cases hl : decide ((((am.map intOf).getD i 0 : Int) : Rat) < gotQ D i) with
        | true =>
          refine iteT ?_
          have too : tooB (am.map intOf) D xa.length = true := by
            unfold tooB; rw [List.any_eq_true]
            exact ⟨i, List.mem_range.mpr hi, hl⟩
          have := k H5 (s1.trans s15)
          rw [one_too too] at this
          exact this
        | false => exact iteF ⟨s15, ⟨_, rfl⟩, by rw [ets, ht, hl]; rfl⟩
    · rintro σ H2 ⟨s2, ⟨y2, rfl⟩, ht⟩
      have := k H2 (s1.trans s2)
      rw [one_yes e1 e2 e3 ht] at this
      exact this
end
end K26
set_option Elab.async false
set_option linter.all false
set_option maxRecDepth 100000
set_option maxHeartbeats 4000000
namespace K26
open PySem L2 KG EX KM
section
variable {P : Program} {w : World} {K : PySem.W.Frag} {mg : Str → Option Value} {base : Heap}
abbrev NDu : List Str := ["market", "one", "other", "shares", "buyer", "worth"]
theorem scDu : FnScope NDu ["market", "one", "other"] (defScope (top 60)) := ⟨rfl, rfl, rfl, by decide +kernel, rfl, by decide +kernel, by decide +kernel⟩
theorem ok_dueG {f fO fW fM fD fS fB : Addr} {fd dO dW dM dD dS dB : FuncData} (F : Fun K "_law_due" "_law_due" (top 60) f fd) (N : Nm mg) (On : Cal K mg P w base "_law_is_one" 4 ["market", "thing"] spOne fO dO) (Lw : Cal K mg P w base "_law_worth" 4 ["wishes", "row"] spWorth fW dW)
    (Mu : Cal K mg P w base "_law_mul" 2 ["one", "other"] (sp2 qTi) fM dM) (Dv : Cal K mg P w base "_law_div" 2 ["one", "other"] spDiv fD dD) (Su : Cal K mg P w base "_law_sum" 3 ["some"] spTot2 fS dS) (Sb : Cal K mg P w base "_law_sub" 2 ["one", "other"] (sp2 qMi) fB dB) : FnOk P w K mg base CX0 5 f fd ["market", "one", "other"] spDueG := by
  refine F.ok scDu (fun vs H Q E h => ?_) (fun cdv A' outer s H vs Q E hr h => ?_)
  · obtain ⟨b, p, pa, pp, pw, xa, xp, xw, am, pu, wi, v, u, d, e, rfl, _⟩ := h; rfl
  · obtain ⟨b, p, pa, pp, pw, xa, xp, xw, am, pu, wi, v, u, d, e, rfl, m, hT, hU, sd, se, k⟩ := h
    have hr3 : Room 3 _ := hr.mono (by decide)
    have hr2 : Room 2 _ := hr.mono (by decide)
    refine ⟨_, pss_cons (ps_if (PW.pt (pw_or (pt_not (pt_val (pe_call On.ok hr rfl On.mg On.kp On.bd .nil pass0 (pa_cons (pv 0) (pa_cons (pv 1) pa_nil))))) (pw_or1 (pt_not (pt_val (pe_call On.ok hr rfl On.mg On.kp On.bd .nil pass0 (pa_cons (pv 0) (pa_cons (pv 2) pa_nil)))))))) (pss_one (ps_ret (pe_lst (pa_cons pe_str (pa_cons pe_non pa_nil))))) pss_nil)
      (pss_cons (ps_set (i := 3) scDu.nd rfl (Or.inl rfl) (pe_lst pa_nil))
      (pss_cons (ps_for PassesOwn.never rfl (pi_range1 rfl N.range (pa_cons (pe_callB cLen0 (by rfl) N.len PySem.boot_len (pa_cons (pv 1) pa_nil)) pa_nil)) (pg_name (i := 4) scDu.nd rfl (Or.inl rfl))
        (pss_cons (ps_set (i := 5) scDu.nd rfl (Or.inl rfl) (pe_call Lw.ok hr rfl Lw.mg Lw.kp Lw.bd .nil pass0 (pa_cons (pe_ix ixT0 (pe_ix ixT0 (pv 0) pe_int (fun _ _ => rfl)) (pv 4) (fun _ _ => rfl)) (pa_cons (pe_ix ixT0 (pv 2) (pv 4) (fun _ _ => rfl)) pa_nil))))
        (pss_cons (ps_if (pt_cmpR op_eq (pe_ix ixT0 (pv 5) pe_int (fun _ _ => rfl)) pe_int (nomark _)) (pss_one (ps_ret (pe_lst (pa_cons pe_str (pa_cons pe_non pa_nil))))) pss_nil)
        (pss_one (ps_expr (peBm0 PySem.F.plainAttrs_list PySem.F.slot_list_append PySem.F.type_list_append mt_append (pv 3) (pa_cons (pe_call Mu.ok hr2 rfl Mu.mg Mu.kp Mu.bd .nil pass0 (pa_cons (pe_ix ixT0 (pe_ix ixT0 (pv 0) pe_int (fun _ _ => rfl)) (pv 4) (fun _ _ => rfl))
          (pa_cons (pe_call Dv.ok hr2 rfl Dv.mg Dv.kp Dv.bd .nil pass0 (pa_cons (pe_call Lw.ok hr rfl Lw.mg Lw.kp Lw.bd .nil pass0 (pa_cons (pe_ix ixT0 (pe_ix ixT0 (pv 0) pe_int (fun _ _ => rfl)) (pv 4) (fun _ _ => rfl)) (pa_cons (pe_ix ixT0 (pv 1) (pv 4) (fun _ _ => rfl)) pa_nil))) (pa_cons (pv 5) pa_nil))) pa_nil))) pa_nil)))))))
      (pss_one (ps_ret (pe_lst (pa_cons pe_str (pa_cons (pe_call Sb.ok hr2 rfl Sb.mg Sb.kp Sb.bd .nil pass0 (pa_cons (pe_call Su.ok hr3 rfl Su.mg Su.kp Su.bd .nil pass0 (pa_cons (pv 3) pa_nil)) (pa_cons (pe_call Su.ok hr3 rfl Su.mg Su.kp Su.bd .nil pass0 (pa_cons (pe_callTy cLst0 (by rfl) N.list boot_list (pa_cons (pe_ix ixT0 (pv 0) pe_int (fun _ _ => rfl)) pa_nil)) pa_nil)) pa_nil))) pa_nil))))))), ?_⟩
    have no : (oneDl xp.length xa.length (am.map intOf) d && oneDl xp.length xa.length (am.map intOf) e) = false → ∀ H1, Stay H H1 → ∀ l, H1 l = none → Q (.ref l) (upd H1 l (.lst [.str "NoDealing+", .non])) := fun z H1 s1 l hl => by
      have eo : outG (rowsOf wi) (pursesQ pu) (am.map intOf) xp.length xa.length d e = (("NoDealing+" : Str), (none : Option Rat)) := by unfold outG; rw [z]; rfl
      rw [eo] at k
      exact k l .non _ (s1.new hl) upd_same rfl
    refine ⟨_, rfl, _, rfl, b, p, pa, pp, pw, xa, xp, xw, am, pu, wi, v, d, rfl, m, hT, sd, fun H1 s1 => ⟨_, rfl, ?_⟩⟩
    cases h1 : oneDl xp.length xa.length (am.map intOf) d with
    | false => exact iteT (iteT ⟨by show 2 ≤ sizeLine; decide, fun l hl => no (by rw [h1]; rfl) H1 s1 l hl⟩)
    | true =>
    refine iteF ?_
    refine ⟨_, rfl, _, rfl, b, p, pa, pp, pw, xa, xp, xw, am, pu, wi, u, e, rfl, m.stay s1, hU.stay s1, se, fun H2 s2 => ⟨_, rfl, ?_⟩⟩
    have s12 := s1.trans s2
    cases h2 : oneDl xp.length xa.length (am.map intOf) e with
    | false => exact iteT ⟨by show 2 ≤ sizeLine; decide, fun l hl => no (by rw [h2]; simp) H2 s12 l hl⟩
    | true =>
    refine iteF ?_
    obtain ⟨D, rfl, e1, e2, e3, _⟩ := one_dl h1
    obtain ⟨D2, rfl, g1, g2, g3, _⟩ := one_dl h2
    obtain ⟨rw0, rne, rlen, rbd, a1, a6, w1, w6, wp⟩ := m.lw
    obtain ⟨epu, pub⟩ := m.pu
    have hT2 := hT.stay s12
    have hU2 := hU.stay s12
    cases hT2 with
    | @tup q zs _ hq hs =>
    cases hU2 with
    | @tup q2 zs2 _ hq2 hs2 =>
    have dl : DlAt H2 q zs D xa.length := ⟨hq, frm_of hs, e2, fun r hr z hz => (small_q sd r hr z hz).mono (by decide), by omega⟩
    have dl2 : DlAt H2 q2 zs2 D2 xa.length := ⟨hq2, frm_of hs2, g2, fun r hr z hz => (small_q se r hr z hz).mono (by decide), by omega⟩
    have m2 := m.stay s12
    have hzl : zs.length = xp.length := by rw [dl.fr.1, e1]
    have eo : outG (rowsOf wi) (pursesQ pu) (am.map intOf) xp.length xa.length (matD D) (matD D2) = if zeroB (rowsOf wi) D2 xp.length = true then (("NoNumber+" : Str), (none : Option Rat)) else (("" : Str), some (gainQ (rowsOf wi) (pursesQ pu) D D2 xp.length)) := by
      unfold outG; rw [h1, h2, matOf_mat, matOf_mat]; rfl
    refine ⟨by show 0 ≤ sizeLine; decide, fun sh hsh => ?_⟩
    have s3 := (Stay.refl H2).new (o := .lst []) hsh
    have e3' : (upd H2 sh (.lst [])) sh = some (.lst []) := upd_same
    generalize upd H2 sh (.lst []) = H3 at s3 e3' ⊢
    have dl3 := dl.stay s3
    refine ⟨_, rfl, q, _, rfl, .inr (SqT.of dl3.hq), (xp.length : Int), by rw [hzl], by omega, by omega, ?_⟩
    rw [Int.toNat_natCast]
    refine for_range (fun i σ H' => Stay H2 H' ∧ (∃ y4 y5 vs, σ = [some (.ref p), some (.ref q), some (.ref q2), some (.ref sh), y4, y5] ∧ H' sh = some (.lst vs) ∧ Frs H' vs ((List.range i).map (partQ (rowsOf wi) (pursesQ pu) D D2))) ∧ ∀ j, j < i → worthQ ((rowsOf wi).getD j []) (D2.getD j []) ≠ 0)
      ⟨s3, ⟨_, _, [], rfl, e3', ⟨rfl, fun j y z => by simp at z⟩⟩, fun j hj => absurd hj (by omega)⟩ ?lp ?fi
    case lp =>
      rintro i σ H4 hi ⟨s4, ⟨y4, y5, vs, rfl, hvs, fr4⟩, nz⟩
      rw [show (0 + (i : Int)) = (i : Int) from Int.zero_add _]
      have m4 := m2.stay s4
      have dl4 := dl.stay s4
      have dl24 := dl2.stay s4
      have hil : i < (rowsOf wi).length := by rw [← rw0.len]; omega
      have hrl := row_len rlen hil
      have hmem : (rowsOf wi).getD i [] ∈ rowsOf wi := by rw [getD_of (List.getElem?_eq_getElem hil)]; exact List.getElem_mem hil
      obtain ⟨ar, _, ear, har⟩ := rws_row m4.lw.1 hil
      obtain ⟨c2, ys2, ec2, _, hc2, f2, l2, bd2⟩ := dl_row dl24 (j := i) (by omega)
      refine ⟨_, rfl, p, _, _, _, rfl, rfl, SqT.of m4.hp, rfl, _, rfl, pw, _, _, _, rfl, rfl, SqT.of m4.hw, ear, _, rfl, _, rfl, q2, _, _, _, rfl, rfl, SqT.of dl24.hq, ec2, ar, c2, _, ys2, D2.getD i [], rfl, har, hc2, f2, by rw [hrl, l2], by omega, rbd _ hmem, bd2, fun r5 H5 s5 hr5 => ?_⟩
      dsimp only [gName]
      have hD2m : D2.getD i [] ∈ D2 := by rw [getD_of (List.getElem?_eq_getElem (show i < D2.length by omega))]; exact List.getElem_mem _
      have hDm : D.getD i [] ∈ D := by rw [getD_of (List.getElem?_eq_getElem (show i < D.length by omega))]; exact List.getElem_mem _
      refine ifs_cont (fun σ H' => σ = [some (.ref p), some (.ref q), some (.ref q2), some (.ref sh), some (.int (i : Int)), some (.ref r5)] ∧ H' = H5 ∧ worthQ ((rowsOf wi).getD i []) (D2.getD i []) ≠ 0) ?rest ?hv
      case hv =>
        intro cont
        refine ⟨_, rfl, r5, _, _, _, rfl, rfl, SqT.of hr5, rfl, rfl, _, rfl, ?_⟩
        rw [num_zero]
        by_cases h0 : worthQ ((rowsOf wi).getD i []) (D2.getD i []) = 0
        · rw [decide_eq_true h0]
          refine iteT ⟨by show 2 ≤ sizeLine; decide, fun l hl => ?_⟩
          have zb : zeroB (rowsOf wi) D2 xp.length = true := by
            unfold zeroB; rw [List.any_eq_true]
            exact ⟨i, List.mem_range.mpr hi, by simpa using h0⟩
          rw [eo, zb] at k
          exact k l .non _ ((s12.trans (s4.trans s5)).new hl) upd_same rfl
        · rw [decide_eq_false h0]
          exact iteF (cont _ _ ⟨rfl, rfl, h0⟩)
      case rest =>
      rintro σ H6 ⟨rfl, rfl, h0⟩
      have m5 := m4.stay s5
      have dl5 := dl4.stay s5
      obtain ⟨ar', _, ear', har'⟩ := rws_row m5.lw.1 hil
      obtain ⟨c1, ys1, ec1, _, hc1, f1, l1, bd1⟩ := dl_row dl5 (j := i) (by omega)
      have hip : i < (pursesQ pu).length := by rw [← m5.fp.1]; exact hi
      obtain ⟨cp, ecp, hcp⟩ := m5.fp.at (g := i) hip
      refine ⟨_, rfl, .inl ⟨rfl, _, SqL.of (s5 _ _ hvs)⟩, _, rfl, p, _, _, _, rfl, rfl, SqT.of m5.hp, rfl, _, rfl, pp, _, _, _, rfl, rfl, SqT.of m5.hpp, ecp, _, rfl, p, _, _, _, rfl, rfl, SqT.of m5.hp, rfl, _, rfl, pw, _, _, _, rfl, rfl, SqT.of m5.hw, ear', _, rfl, _, rfl, q, _, _, _, rfl, rfl, SqT.of dl5.hq, ec1, ar', c1, _, ys1, D.getD i [], rfl, har', hc1, f1, by rw [hrl, l1], by omega, rbd _ hmem, bd1, fun r7 H7 s7 hr7 => ?_⟩
      have b1 := rb_w (q := q) (zs := zs) m (small_q sd) hi
      have b2 := rb_w (q := q) (zs := zs) m (small_q se) hi
      have w0 : 0 < worthQ ((rowsOf wi).getD i []) (D2.getD i []) := by
        have := worth_nn (rbd _ hmem) (g3 _ hD2m)
        exact Rat.lt_of_le_of_ne this (Ne.symm h0)
      refine ⟨_, rfl, r7, r5, _, _, rfl, hr7, s7 _ _ hr5, b1.mono (by decide), b2.mono (by decide), w0, fun r8 hr8 => ?_⟩
      have s8 := s7.new (o := qO (worthQ ((rowsOf wi).getD i []) (D.getD i []) / worthQ ((rowsOf wi).getD i []) (D2.getD i []))) hr8
      have e8 : (upd H7 r8 (qO (worthQ ((rowsOf wi).getD i []) (D.getD i []) / worthQ ((rowsOf wi).getD i []) (D2.getD i [])))) r8 = some (qO (worthQ ((rowsOf wi).getD i []) (D.getD i []) / worthQ ((rowsOf wi).getD i []) (D2.getD i []))) := upd_same
      generalize upd H7 r8 (qO (worthQ ((rowsOf wi).getD i []) (D.getD i []) / worthQ ((rowsOf wi).getD i []) (D2.getD i []))) = H8 at s8 e8 ⊢
      have bp : Rb 20 ((pursesQ pu).getD i 0) := rb_getD (by decide) (fun z hz => (pub z hz).2) i
      refine ⟨cp, r8, _, _, rfl, s8 _ _ hcp, e8, bp.mono (by decide), (rb_divq b1 b2 h0).mono (by decide), fun r9 hr9 => ?_⟩
      have s9 := s8.new (o := qO (qTi ((pursesQ pu).getD i 0) (worthQ ((rowsOf wi).getD i []) (D.getD i []) / worthQ ((rowsOf wi).getD i []) (D2.getD i [])))) hr9
      have e9 : (upd H8 r9 (qO (qTi ((pursesQ pu).getD i 0) (worthQ ((rowsOf wi).getD i []) (D.getD i []) / worthQ ((rowsOf wi).getD i []) (D2.getD i []))))) r9 = some (qO (partQ (rowsOf wi) (pursesQ pu) D D2 i)) := upd_same
      generalize upd H8 r9 (qO (qTi ((pursesQ pu).getD i 0) (worthQ ((rowsOf wi).getD i []) (D.getD i []) / worthQ ((rowsOf wi).getD i []) (D2.getD i [])))) = H9 at s9 e9 ⊢
      have s49 := s5.trans s9
      have hvs9 := s49 _ _ hvs
      refine ⟨sh, vs, .ref r9, rfl, rfl, hvs9, by rw [fr4.1, List.length_map, List.length_range, sz]; omega, (s4.trans s49).acc hsh, ⟨_, _, vs ++ [.ref r9], rfl, upd_same, ?_⟩, fun j hj => ?_⟩
      · rw [List.range_succ, List.map_append, List.map_singleton]
        exact ((fr4.stay s49).app (a := r9) e9).tm (Tm.lst hvs9)
      · rcases Nat.lt_or_ge j i with y | y
        · exact nz j y
        · obtain rfl : j = i := by omega
          exact h0
    case fi =>
      rintro σ H4 ⟨s4, ⟨y4, y5, vs, rfl, hvs, fr4⟩, nz⟩
      have m4 := m2.stay s4
      have zb : zeroB (rowsOf wi) D2 xp.length = false := by
        unfold zeroB
        rw [List.any_eq_false]
        intro i hi
        simpa using nz i (List.mem_range.mp hi)
      have bpart : ∀ z ∈ (List.range xp.length).map (partQ (rowsOf wi) (pursesQ pu) D D2), Rb 478 z := fun z hz => by
        obtain ⟨i, hi, rfl⟩ := List.mem_map.mp hz
        have hi := List.mem_range.mp hi
        exact rb_part (rb_w (q := q) (zs := zs) m (small_q sd) hi) (rb_w (q := q) (zs := zs) m (small_q se) hi) (rb_getD (by decide) (fun z hz => (pub z hz).2) i) (nz i hi)
      refine ⟨_, rfl, sh, vs, _, rfl, hvs, fr4, fun z hz => (bpart z hz).mono (by decide), by rw [List.length_map, List.length_range]; omega, fun r5 H5 s5 hr5 => ?_⟩
      have m5 := m4.stay s5
      refine ⟨_, rfl, p, _, _, _, rfl, rfl, SqT.of m5.hp, rfl, pp, xp, rfl, .inr (SqT.of m5.hpp), fun l6 hl6 => ?_⟩
      have s6 := (Stay.refl H5).new (o := .lst xp) hl6
      have e6 : (upd H5 l6 (.lst xp)) l6 = some (.lst xp) := upd_same
      generalize upd H5 l6 (.lst xp) = H6 at s6 e6 ⊢
      have m6 := m5.stay s6
      refine ⟨l6, xp, _, rfl, e6, m6.fp, fun z hz => ((pub z hz).2).mono (by decide), by rw [← m6.fp.1]; omega, fun r7 H7 s7 hr7 => ?_⟩
      have b5 := rb_sumQ bpart
      rw [List.length_map, List.length_range] at b5
      have b6 := rb_sumQ (k := 20) (qs := pursesQ pu) fun z hz => (pub z hz).2
      have s57 := s6.trans s7
      refine ⟨r5, r7, _, _, rfl, s57 _ _ hr5, hr7, b5.mono (by omega), b6.mono (by rw [← m.fp.1]; omega), fun r8 hr8 => ?_⟩
      refine ⟨by show 2 ≤ sizeLine; decide, fun l9 hl9 => ?_⟩
      rw [eo, zb] at k
      exact k l9 (.ref r8) _ ((s12.trans (s4.trans (s5.trans (s57.new hr8)))).new hl9) upd_same ⟨r8, rfl, ((Stay.refl _).new hl9) _ _ upd_same⟩
end
end K26
set_option Elab.async false
set_option linter.all false
set_option maxRecDepth 100000
set_option maxHeartbeats 4000000
namespace K26
open PySem L2 KG EX KM
theorem kind_dl : kindS 2 = ("NoDealing+" : Str) := by decide +kernel
theorem kind_nn : kindS 5 = ("NoNumber+" : Str) := by decide +kernel
def spTriedG : Sp := fun vs H Q _ => ∃ (b p pa pp pw : Addr) (xa xp xw : List V) (am pu wi : List PyData) (way : Int) (v u : V) (d : PyData), vs = [.int way, .ref p, v, u] ∧ MkAt b H p pa pp pw xa xp xw am pu wi ∧ TrV b H v d ∧ small d = true ∧
  ((way = 0 ∧ ∃ e, TrV b H u e ∧ small e = true ∧ ∀ (l : Addr) (x : V) (H' : Hp), Stay H H' → H' l = some (.lst [.str (outG (rowsOf wi) (pursesQ pu) (am.map intOf) xp.length xa.length d e).1, x]) → Told H' x (outG (rowsOf wi) (pursesQ pu) (am.map intOf) xp.length xa.length d e).2 → Q (.ref l) H') ∨
   (way = 1 ∧ ∀ (l : Addr) (H' : Hp), Stay H H' → H' l = some (.lst [.str (if oneDl xp.length xa.length (am.map intOf) d = true then "" else "NoDealing+"), .non]) → Q (.ref l) H'))
section
variable {P : Program} {w : World} {K : PySem.W.Frag} {mg : Str → Option Value} {base : Heap}
abbrev NTr : List Str := ["way", "market", "one", "other", "kind", "told", "e"]
theorem scTr : FnScope NTr ["way", "market", "one", "other"] (defScope (top 59)) := ⟨rfl, rfl, rfl, by decide +kernel, rfl, by decide +kernel, by decide +kernel⟩
theorem ok_tried {f fG fR fK M De Bu Dl Go Mk Nn Pr Ro Tx No Un : Addr} {fd dG dR dK : FuncData} (F : Fun K "_law_tried" "_law_tried" (top 59) f fd) (R : Clx K mg M De Bu Dl Go Mk Nn Pr Ro Tx No Un) (ED : ErrOf K M De Bu Dl Go Mk Nn Pr Ro Tx No Un Dl 2) (EN : ErrOf K M De Bu Dl Go Mk Nn Pr Ro Tx No Un Nn 5)
    (Ga : CalX K mg P w base "gain" 8 ["market", "dealing", "other"] (spGain Dl Nn) fG dG) (Ra : CalX K mg P w base "rather" 8 ["market", "dealing"] (spRather Dl) fR dR)
    (C : CalH K mg P w base "_law_kinds" 1 ["e"] (spKinds K M De Bu Dl Go Mk Nn Pr Ro Tx No Un) fK dK) : FnOk P w K mg base CX0 9 f fd ["way", "market", "one", "other"] spTriedG := by
  refine F.ok scTr (fun vs H Q E h => ?_) (fun cdv A outer s H vs Q E hr h => ?_)
  · obtain ⟨b, p, pa, pp, pw, xa, xp, xw, am, pu, wi, way, v, u, d, rfl, _⟩ := h; rfl
  · obtain ⟨b, p, pa, pp, pw, xa, xp, xw, am, pu, wi, way, v, u, d, rfl, m, hT, sd, k⟩ := h
    refine ⟨_, pss_cons (ps_set (i := 4) scTr.nd rfl (Or.inl rfl) pe_str)
      (pss_cons (ps_set (i := 5) scTr.nd rfl (Or.inl rfl) pe_non)
      (pss_cons (ps_tryX (j := 6) (l := 4) (px_one (px_if (pt_cmpR op_eq (pv 0) pe_int (nomark _))
          (px_one (px_set (i := 5) scTr.nd rfl (Or.inl rfl) (px_call Ga.ok hr rfl Ga.mg Ga.kp Ga.bd (pa_cons (pv 1) (pa_cons (pv 2) (pa_cons (pv 3) pa_nil))))))
          (px_one (px_expr (px_call Ra.ok hr rfl Ra.mg Ra.kp Ra.bd (pa_cons (pv 1) (pa_cons (pv 2) pa_nil)))))))
        C.ok (hr.mono (by decide)) rfl C.mg C.kp C.bd rfl R.mgM R.tyM R.bM rfl rfl scTr.nd rfl rfl rfl rfl)
      (pss_one (ps_ret (pe_lst (pa_cons (pv 4) (pa_cons (pv 5) pa_nil))))))), ?_⟩
    rcases k with ⟨rfl, e, hU, se, k⟩ | ⟨rfl, k⟩
    · refine ⟨_, rfl, rfl, _, rfl, iteT ?_⟩
      refine ⟨_, rfl, _, rfl, _, rfl, b, p, pa, pp, pw, xa, xp, xw, am, pu, wi, v, u, d, e, rfl, m, hT, hU, sd, se, fun hn H1 s1 => ?_, fun h1 h2 hz H1 s1 => ?_, fun h1 h2 hz r H1 s1 hr1 => ?_⟩
      · refine ⟨Dl, rfl, ED.sub, fun ea _ => ⟨2, by decide, ED, rfl, fun H3 s3 => ⟨_, rfl, _, rfl, by show 2 ≤ sizeLine; decide, fun l hl => ?_⟩⟩⟩
        have eo : outG (rowsOf wi) (pursesQ pu) (am.map intOf) xp.length xa.length d e = (("NoDealing+" : Str), (none : Option Rat)) := by unfold outG; rw [hn]; rfl
        rw [eo] at k
        exact k l .non _ ((s1.trans s3).new hl) (by rw [kind_dl]; exact upd_same) rfl
      · refine ⟨Nn, rfl, EN.sub, fun ea _ => ⟨5, by decide, EN, rfl, fun H3 s3 => ⟨_, rfl, _, rfl, by show 2 ≤ sizeLine; decide, fun l hl => ?_⟩⟩⟩
        have eo : outG (rowsOf wi) (pursesQ pu) (am.map intOf) xp.length xa.length d e = (("NoNumber+" : Str), (none : Option Rat)) := by unfold outG; rw [h1, h2, hz]; rfl
        rw [eo] at k
        exact k l .non _ ((s1.trans s3).new hl) (by rw [kind_nn]; exact upd_same) rfl
      · refine ⟨_, rfl, _, rfl, by show 2 ≤ sizeLine; decide, fun l hl => ?_⟩
        have eo : outG (rowsOf wi) (pursesQ pu) (am.map intOf) xp.length xa.length d e = (("" : Str), some (gainQ (rowsOf wi) (pursesQ pu) (matOf d) (matOf e) xp.length)) := by unfold outG; rw [h1, h2, hz]; rfl
        rw [eo] at k
        exact k l (.ref r) _ (s1.new hl) upd_same ⟨r, rfl, ((Stay.refl H1).new hl) _ _ hr1⟩
    · refine ⟨_, rfl, rfl, _, rfl, iteF ?_⟩
      have ex : oneDl xp.length xa.length (am.map intOf) d = false → ∀ (H1 : Hp), Stay H H1 → ∃ Dc, (Value.ref Dl) = .ref Dc ∧ PySem.W.mroIn K Dc (.ref M) = some true ∧ ∀ ea, H1 ea = none → spKinds K M De Bu Dl Go Mk Nn Pr Ro Tx No Un ea Dc [.ref ea] H1 (fun u' H3 => (tRet (tLst (tCons (tVar 4) (tCons (tVar 5) tNil)))) { nx := fun _ H' => Q .non H', rt := Q } ((([some (V.int 1), some (.ref p), some v, some u, some (.str ""), some .non, none].set 6 (some (.ref ea))).set 4 (some u')).set 6 none) H3) E0 := fun hn H1 s1 =>
        ⟨Dl, rfl, ED.sub, fun ea _ => ⟨2, by decide, ED, rfl, fun H3 s3 => ⟨_, rfl, _, rfl, by show 2 ≤ sizeLine; decide, fun l hl => by
          have := k l (upd H3 l (.lst [.str (kindS 2), .non])) ((s1.trans s3).new hl)
          rw [hn] at this
          exact this (by rw [kind_dl]; exact upd_same)⟩⟩⟩
      refine ⟨_, rfl, _, rfl, b, p, pa, pp, pw, xa, xp, xw, am, pu, wi, v, d, rfl, m, hT, fun D eD r hr z hz => ?_, fun hn H1 s1 => ex (one_no hn) H1 s1, fun D eD e1 e2 e3 ht H1 s1 => ?_, fun D eD e1 e2 e3 ht l2 ws H1 s1 _ _ => ?_⟩
      · subst eD
        exact (small_q sd r hr z hz).mono (by decide)
      · subst eD
        exact ex (one_too ht) H1 s1
      · subst eD
        refine ⟨_, rfl, _, rfl, by show 2 ≤ sizeLine; decide, fun l hl => ?_⟩
        have := k l (upd H1 l (.lst [.str "", .non])) (s1.new hl)
        rw [one_yes e1 e2 e3 ht] at this
        exact this upd_same
end
end K26
set_option Elab.async false
set_option linter.all false
set_option maxRecDepth 100000
set_option maxHeartbeats 4000000
namespace K26
open PySem L2 KG EX KM
theorem small_i {z : Int} (h : -1073741824 < z ∧ z < 1073741824) : small (.int z) = true := by
  show (decide (-1073741824 < z) && decide (z < 1073741824)) = true
  rw [decide_eq_true h.1, decide_eq_true h.2]; rfl
theorem small_qd {q : Rat} (h : Rb 20 q) : small (qD q) = true := by
  obtain ⟨h1, h2⟩ := h
  unfold Bd at h1 h2
  refine small_t fun d hd => ?_
  simp only [List.mem_cons, List.not_mem_nil, or_false] at hd
  rcases hd with rfl | rfl
  · exact small_i (by omega)
  · exact small_i (by omega)
theorem small_m {D : List (List Rat)} (h : ∀ r ∈ D, ∀ z ∈ r, Rb 20 z) : small (matD D) = true := by
  refine small_t fun d hd => ?_
  obtain ⟨r, hr, rfl⟩ := List.mem_map.mp hd
  refine small_t fun e he => ?_
  obtain ⟨z, hz, rfl⟩ := List.mem_map.mp he
  exact small_qd (h r hr z hz)
theorem ln_m {D : List (List Rat)} {g : Nat} (h6 : D.length ≤ 6) (hg : g ≤ 6) (hl : ∀ r ∈ D, r.length = g) : ln 6 (matD D) = true := by
  refine ln_t.mpr ⟨by rw [List.length_map]; exact h6, fun d hd => ?_⟩
  obtain ⟨r, hr, rfl⟩ := List.mem_map.mp hd
  refine ln_t.mpr ⟨by rw [List.length_map, hl r hr]; exact hg, fun e he => ?_⟩
  obtain ⟨z, hz, rfl⟩ := List.mem_map.mp he
  rfl
theorem set_put {α : Type} {xs : List α} {i : Nat} {x : α} (h : i < xs.length) : xs.set i x = put xs i x := by
  unfold put
  rw [List.set_eq_take_append_cons_drop, if_pos h]; simp
theorem trs_ix {b : Addr} {H : Hp} : ∀ {ys : List V} {ds : List PyData}, ys.length = ds.length → (∀ (j : Nat) y d, ys[j]? = some y → ds[j]? = some d → TrV b H y d) → TrVs b H ys ds
  | [], [], _, _ => .nil
  | [], _ :: _, h, _ => by simp at h
  | _ :: _, [], h, _ => by simp at h
  | y :: ys, d :: ds, hl, h => .cons (h 0 y d rfl rfl) (trs_ix (by simpa using hl) fun j y d hy hd => h (j + 1) y d (by simpa using hy) (by simpa using hd))
def spSpoilG : Sp := fun vs H Q _ => ∃ (b q : Addr) (pv : V) (zs : List V) (D : List (List Rat)) (g : Nat), vs = [.ref b, pv, .ref q] ∧ Bag H b ∧ DlAt H q zs D g ∧ 1 ≤ g ∧ g ≤ 6 ∧ 1 ≤ D.length ∧ (∀ r ∈ D, ∀ z ∈ r, 0 ≤ z ∧ Rb 20 z) ∧
  ∀ (v : V) (d : PyData) (H' : Hp), Bag H' b → Kp b H H' → TrV b H' v d → small d = true → Q v H'
section
variable {P : Program} {w : World} {K : PySem.W.Frag} {mg : Str → Option Value} {base : Heap}
abbrev NSp : List Str := ["bag", "market", "dealing", "rows", "buyer", "good", "top", "bottom", "way", "some"]
theorem scSp : FnScope NSp ["bag", "market", "dealing"] (defScope (top 61)) := ⟨rfl, rfl, rfl, by decide +kernel, rfl, by decide +kernel, by decide +kernel⟩
theorem ok_sp {f fT fR : Addr} {fd dT dR : FuncData} (F : Fun K "_law_spoilt" "_law_spoilt" (top 61) f fd) (N : Nm mg) (T : Cal K mg P w base "_law_take" 1 ["bag", "many"] spTake fT dT) (Re : Cal K mg P w base "_law_replaced" 6 ["bag", "thing", "deep"] (spRep 4) fR dR) : FnOk P w K mg base CX0 7 f fd ["bag", "market", "dealing"] spSpoilG := by
  refine F.ok scSp (fun vs H Q E h => ?_) (fun cdv A' outer s H vs Q E hr h => ?_)
  · obtain ⟨b, q, pv, zs, D, g, rfl, _⟩ := h; rfl
  · obtain ⟨b, q, mk, zs, D, g, rfl, hb, dl, g1, g6, n1, hent, k⟩ := h
    have hr1 : Room 1 _ := hr.mono (by decide)
    have hfew := dl.few
    refine ⟨_, pss_cons (ps_setC (i := 3) (own := ["row"]) (cap := []) (ix := []) scSp.nd rfl rfl (BlkOk.of (defScope (top 61)).names NSp) rfl (piT0 (pv 2))
        (fun C fp s H => ⟨pg_name (i := 0) (show List.Nodup (["row"] : List Str) by decide +kernel) rfl (Or.inl rfl), pifs_nil, pe_callTy cLst0 (by rfl) N.list boot_list (pa_cons (pv 0) pa_nil)⟩))
      (pss_cons (ps_set (i := 4) scSp.nd rfl (Or.inl rfl) (pe_call T.ok hr1 rfl T.mg T.kp T.bd .nil pass0 (pa_cons (pv 0) (pa_cons (pe_callB cLen0 (by rfl) N.len PySem.boot_len (pa_cons (pv 3) pa_nil)) pa_nil))))
      (pss_cons (ps_set (i := 5) scSp.nd rfl (Or.inl rfl) (pe_call T.ok hr1 rfl T.mg T.kp T.bd .nil pass0 (pa_cons (pv 0) (pa_cons (pe_callB cLen0 (by rfl) N.len PySem.boot_len (pa_cons (pe_ix ixL0 (pv 3) pe_int (fun _ _ => rfl)) pa_nil)) pa_nil))))
      (pss_cons (ps_asg (pe_ix ixL0 (pe_ix ixL0 (pv 3) (pv 4) (fun _ _ => rfl)) (pv 5) (fun _ _ => rfl)) (pgTup0 (n := 2) rfl (pgs_cons (pg_name (i := 6) scSp.nd rfl (Or.inl rfl)) (pgs_cons (pg_name (i := 7) scSp.nd rfl (Or.inl rfl)) pgs_nil))))
      (pss_cons (ps_set (i := 8) scSp.nd rfl (Or.inl rfl) (pe_call T.ok hr1 rfl T.mg T.kp T.bd .nil pass0 (pa_cons (pv 0) (pa_cons pe_int pa_nil))))
      (pss_cons (ps_set (i := 9) scSp.nd rfl (Or.inl rfl) (pe_lst (pa_cons (pe_tup (pa_cons (pe_op op_sub (pe_op op_sub pe_int pe_int) (pv 6)) (pa_cons (pv 7) pa_nil)))
        (pa_cons (pe_tup (pa_cons (pe_op op_add (pv 6) (pe_op op_mul (pv 7) (pe_op op_add pe_int (pe_call T.ok hr1 rfl T.mg T.kp T.bd .nil pass0 (pa_cons (pv 0) (pa_cons pe_int pa_nil)))))) (pa_cons (pv 7) pa_nil)))
        (pa_cons (pe_tup (pa_cons (pe_op op_mul pe_int (pv 6)) (pa_cons (pe_op op_mul pe_int (pv 7)) pa_nil)))
        (pa_cons (pe_tup (pa_cons (pv 6) (pa_cons pe_int pa_nil))) pa_nil))))))
      (pss_cons (ps_if (pt_cmpR op_eq (pv 8) pe_int (nomark _)) (pss_one (ps_ret (pe_call Re.ok hr rfl Re.mg Re.kp Re.bd .nil pass0 (pa_cons (pv 0) (pa_cons (pv 2) (pa_cons pe_int pa_nil)))))) pss_nil)
      (pss_cons (ps_asg (pe_ix ixL0 (pv 9) (pv 8) (fun _ _ => rfl)) (pg_sub (pe_ix ixL0 (pv 3) (pv 4) (fun _ _ => rfl)) (pv 5) set_list))
      (pss_one (ps_ret (pe_callTy cTup0 (by rfl) N.tuple boot_tuple (pa_cons (pe_comp (own := ["row"]) (cap := []) (ix := []) (BlkOk.of (defScope (top 61)).names NSp) rfl (piL0 (pv 3))
        (fun C fp s H => ⟨pg_name (i := 0) (show List.Nodup (["row"] : List Str) by decide +kernel) rfl (Or.inl rfl), pifs_nil, pe_callTy cTup0 (by rfl) N.tuple boot_tuple (pa_cons (pv 0) pa_nil)⟩)) pa_nil))))))))))), ?_⟩
    have hT0 : TrV b H (.ref q) (matD D) := .tup dl.hq (frm_tr dl.fr)
    have hzl : zs.length = D.length := dl.fr.1
    refine ⟨_, rfl, q, rfl, ⟨_, SqT.of dl.hq⟩, fun pr hpr => ?_⟩
    refine comp_tup (xs := zs) (fun i ws H' => Stay H H' ∧ ∃ Ys, Mv H H' pr Ys ∧ Ys.length = i ∧ ∀ j, j < i → Frs H' (Ys.getD j []) (D.getD j [])) ⟨(Stay.refl H).acc hpr, [], Mv.nil upd_same hpr, rfl, fun j hj => absurd hj (by omega)⟩ (fun i ws H' _ _ z => SqT.of (z.1 _ _ dl.hq)) ?_ ?_
    · rintro i x ws H1 hx hz ⟨s1, Ys, mv, hYl, hfr⟩
      have hi : i < zs.length := (List.getElem?_eq_some_iff.mp hx).1
      obtain ⟨c, ys, _, ez, hc, fr, hl, _⟩ := dl_row dl (j := i) (by omega)
      obtain rfl : x = .ref c := by rw [ez] at hx; exact (Option.some.inj hx).symm
      refine yes_i ⟨_, rfl, c, ys, rfl, .inr (SqT.of (s1 _ _ hc)), fun l hl' => ?_⟩
      have s2 := (Stay.refl H1).new (o := .lst ys) hl'
      obtain ⟨ws', hw', hwl, mv'⟩ := mv.push (c := l) (r := ys) hl' (s1.free hl') (fun a o _ e => s2 _ _ e) upd_same
      have ew : ws = ws' := by
        have := s2 _ _ hz
        rw [hw'] at this
        injection this with this
        injection this with this
        exact this.symm
      subst ew
      have tm : Tm (upd H1 l (.lst ys)) (upd (upd H1 l (.lst ys)) pr (.lst (ws ++ [.ref l]))) := Tm.lst (s2 _ _ hz)
      refine ⟨ws, hw', by rw [hwl, hYl, sz]; omega, Cn.of upd_same ⟨(s1.trans s2).acc hpr, _, mv', by rw [List.length_append, hYl]; rfl, fun j hj => ?_⟩⟩
      rcases Nat.lt_or_ge j i with y | y
      · have : (Ys ++ [ys]).getD j [] = Ys.getD j [] := by simp [List.getD, List.getElem?_append_left (show j < Ys.length by omega)]
        rw [this]
        exact ((hfr j y).stay s2).tm tm
      · obtain rfl : j = i := by omega
        have : (Ys ++ [ys]).getD j [] = ys := by rw [← hYl]; simp [List.getD]
        rw [this]
        exact (fr.stay (s1.trans s2)).tm tm
    rintro ws1 H1 hz1 ⟨s1, Ys, mv1, hYl, hfr1⟩
    rw [hzl] at hYl hfr1
    have hb1 : Bag H1 b := Bag.stay hb s1
    have k1 : Kp b H H1 := Stay.kpb s1
    have hlen1 : ws1.length = D.length := by
      obtain ⟨xs, hxs, hxl, _⟩ := mv1.list
      rw [hz1] at hxs; injection hxs with hxs; injection hxs with hxs
      rw [hxs, hxl, hYl]
    refine ⟨_, rfl, _, rfl, pr, _, rfl, .inl (SqL.of hz1), b, _, rfl, hb1, by omega, by omega, fun r4 H2 r40 r41 hb2 kp2 => ?_⟩
    have k2 := k1.trans kp2
    have mv2 := mv1.kp hb kp2
    have hfr2 : ∀ j, j < D.length → Frs H2 (Ys.getD j []) (D.getD j []) := fun j hj => (hfr1 j hj).tm (kp2.tm hb1)
    have hrow : ∀ j, j < D.length → (Ys.getD j []).length = g := fun j hj => by
      rw [(hfr2 j hj).1]
      exact dl.len _ (by rw [getD_of (List.getElem?_eq_getElem hj)]; exact List.getElem_mem hj)
    obtain ⟨i, rfl⟩ : ∃ i : Nat, r4 = (i : Int) := ⟨r4.toNat, by omega⟩
    have hi : i < D.length := by omega
    obtain ⟨xs2, a2, hxs2, _, ea2, _, ha2, _, _⟩ := mv2.row (i := 0) (by omega)
    refine ⟨_, rfl, _, rfl, pr, _, _, _, rfl, rfl, SqL.of hxs2, ea2, a2, _, rfl, .inl (SqL.of ha2), b, _, rfl, hb2, by rw [hrow 0 (by omega)]; omega, by rw [hrow 0 (by omega)]; omega, fun r5 H3 r50 r51 hb3 kp3 => ?_⟩
    rw [hrow 0 (by omega)] at r51
    obtain ⟨j, rfl⟩ : ∃ j : Nat, r5 = (j : Int) := ⟨r5.toNat, by omega⟩
    have hj : j < g := by omega
    have k3 := k2.trans kp3
    have mv3 := mv2.kp hb kp3
    have hfr3 : ∀ j, j < D.length → Frs H3 (Ys.getD j []) (D.getD j []) := fun j hj => (hfr2 j hj).tm (kp3.tm hb2)
    obtain ⟨xs3, a3, hxs3, _, ea3, _, ha3, hfa3, _⟩ := mv3.row (i := i) (by omega)
    have hDi : D.getD i [] ∈ D := by rw [getD_of (List.getElem?_eq_getElem hi)]; exact List.getElem_mem hi
    obtain ⟨c, ec, hc⟩ := (hfr3 i hi).at (g := j) (by rw [dl.len _ hDi]; exact hj)
    have hzm : (D.getD i []).getD j 0 ∈ D.getD i [] := by
      have hl : j < (D.getD i []).length := by rw [dl.len _ hDi]; exact hj
      rw [getD_of (List.getElem?_eq_getElem hl)]; exact List.getElem_mem hl
    obtain ⟨z0, ⟨zb1, zb2⟩⟩ := hent _ hDi _ hzm
    generalize hzz : (D.getD i []).getD j 0 = z at hc z0 zb1 zb2
    unfold Bd at zb1 zb2
    have hn0 : 0 ≤ z.num := Rat.num_nonneg.mpr z0
    have hd0 := den_pos z
    refine ⟨_, rfl, _, rfl, pr, _, _, _, rfl, rfl, SqL.of hxs3, ea3, _, rfl, a3, _, _, _, rfl, rfl, SqL.of ha3, ec, ?_⟩
    refine ⟨c, _, rfl, SqT.of hc, rfl, _, _, rfl, _, _, rfl, rfl, ?_⟩
    refine ⟨_, rfl, b, _, rfl, hb3, by decide, by decide, fun r8 H4 r80 r81 hb4 kp4 => ?_⟩
    have k4 := k3.trans kp4
    have mv4 := mv3.kp hb kp4
    have hfr4 : ∀ j, j < D.length → Frs H4 (Ys.getD j []) (D.getD j []) := fun j hj => (hfr3 j hj).tm (kp4.tm hb3)
    refine ⟨_, _, rfl, rfl, _, rfl, _, _, rfl, rfl, _, rfl, by show 2 ≤ sizeLine; decide, fun t1 ht1 => ?_⟩
    have s5 := (Stay.refl H4).new (o := .tup [.int (0 - 1 - z.num), .int z.den]) ht1
    have e5 : (upd H4 t1 (.tup [.int (0 - 1 - z.num), .int z.den])) t1 = some (.tup [.int (0 - 1 - z.num), .int z.den]) := upd_same
    generalize upd H4 t1 (.tup [.int (0 - 1 - z.num), .int z.den]) = H5 at s5 e5 ⊢
    refine ⟨_, rfl, _, rfl, _, rfl, b, _, rfl, Bag.stay hb4 s5, by decide, by decide, fun r6 H6 r60 r61 hb6 kp6 => ?_⟩
    have e6 := kp6.tm (Bag.stay hb4 s5) _ _ e5
    have k46 : Kp b H4 H6 := (Stay.kpb s5).trans kp6
    refine ⟨_, _, rfl, rfl, _, _, rfl, rfl, .inl ⟨by omega, by omega⟩, _, _, rfl, rfl, _, rfl, by show 2 ≤ sizeLine; decide, fun t2 ht2 => ?_⟩
    have s7 := (Stay.refl H6).new (o := .tup [.int (z.num + z.den * (1 + r6)), .int z.den]) ht2
    have e7 : (upd H6 t2 (.tup [.int (z.num + z.den * (1 + r6)), .int z.den])) t2 = some (.tup [.int (z.num + z.den * (1 + r6)), .int z.den]) := upd_same
    generalize upd H6 t2 (.tup [.int (z.num + z.den * (1 + r6)), .int z.den]) = H7 at s7 e7 ⊢
    refine ⟨_, rfl, _, _, rfl, rfl, .inl ⟨by decide, by decide⟩, _, rfl, _, _, rfl, rfl, .inl ⟨by decide, by decide⟩, by show 2 ≤ sizeLine; decide, fun t3 ht3 => ?_⟩
    have s8 := (Stay.refl H7).new (o := .tup [.int (2 * z.num), .int (2 * z.den)]) ht3
    have e8 : (upd H7 t3 (.tup [.int (2 * z.num), .int (2 * z.den)])) t3 = some (.tup [.int (2 * z.num), .int (2 * z.den)]) := upd_same
    generalize upd H7 t3 (.tup [.int (2 * z.num), .int (2 * z.den)]) = H8 at s8 e8 ⊢
    refine ⟨_, rfl, by show 2 ≤ sizeLine; decide, fun t4 ht4 => ?_⟩
    have s9 := (Stay.refl H8).new (o := .tup [.int z.num, .int 0]) ht4
    have e9 : (upd H8 t4 (.tup [.int z.num, .int 0])) t4 = some (.tup [.int z.num, .int 0]) := upd_same
    generalize upd H8 t4 (.tup [.int z.num, .int 0]) = H9 at s9 e9 ⊢
    refine ⟨by show 4 ≤ sizeLine; decide, fun l hl => ?_⟩
    have s10 := (Stay.refl H9).new (o := .lst [.ref t1, .ref t2, .ref t3, .ref t4]) hl
    have e10 : (upd H9 l (.lst [.ref t1, .ref t2, .ref t3, .ref t4])) l = some (.lst [.ref t1, .ref t2, .ref t3, .ref t4]) := upd_same
    generalize upd H9 l (.lst [.ref t1, .ref t2, .ref t3, .ref t4]) = H10 at s10 e10 ⊢
    have s6x : Stay H6 H10 := ((s7.trans s8).trans s9).trans s10
    have k4x : Kp b H4 H10 := k46.trans (Stay.kpb s6x)
    have hbx : Bag H10 b := Bag.stay hb6 s6x
    have kx : Kp b H H10 := k4.trans k4x
    have mvx := mv4.kp hb k4x
    have hfrx : ∀ j, j < D.length → Frs H10 (Ys.getD j []) (D.getD j []) := fun j hj => (hfr4 j hj).tm (k4x.tm hb4)
    dsimp only [gName]
    refine ifs_cont (fun σ H' => σ = [some (.ref b), some mk, some (.ref q), some (.ref pr), some (.int (i : Int)), some (.int (j : Int)), some (.int z.num), some (.int z.den), some (.int r8), some (.ref l)] ∧ H' = H10 ∧ r8 ≠ 4) ?rest ?hv
    case hv =>
      intro cont
      refine ⟨_, rfl, rfl, _, rfl, ?_⟩
      by_cases h4 : r8 = 4
      · subst h4
        refine iteT ⟨_, rfl, _, rfl, b, .ref q, matD D, 3, 6, rfl, by decide, hbx, hT0.kp kx hb, small_m fun r hr z hz => (hent r hr z hz).2, ln_m hfew g6 dl.len, by decide, by decide, fun v' d' H' hb' kp' tr' sm' _ => k v' d' H' hb' (kx.trans kp') tr' sm'⟩
      · rw [show decide (V.int r8 = V.int 4) = false from decide_eq_false fun y => h4 (by injection y)]
        exact iteF (cont _ _ ⟨rfl, rfl, h4⟩)
    case rest =>
    rintro σ H' ⟨rfl, rfl, h4⟩
    obtain ⟨t, num, den, eat, ht, hsm⟩ : ∃ (t : Addr) (num den : Int), atI [V.ref t1, V.ref t2, V.ref t3, V.ref t4] r8 = some (.ref t) ∧ H' t = some (.tup [.int num, .int den]) ∧ small (.tuple [.int num, .int den]) = true := by
      have : r8 = 0 ∨ r8 = 1 ∨ r8 = 2 ∨ r8 = 3 := by omega
      have sm : ∀ {x y : Int}, (-1073741824 < x ∧ x < 1073741824) → (-1073741824 < y ∧ y < 1073741824) → small (.tuple [.int x, .int y]) = true := fun {x y} hx hy => small_t fun d hd => by
        simp only [List.mem_cons, List.not_mem_nil, or_false] at hd
        rcases hd with rfl | rfl
        · exact small_i hx
        · exact small_i hy
      rcases this with rfl | rfl | rfl | rfl
      · exact ⟨t1, _, _, rfl, s6x _ _ e6, sm (by omega) (by omega)⟩
      · refine ⟨t2, _, _, rfl, ((s8.trans s9).trans s10) _ _ e7, sm ?_ (by omega)⟩
        have h1 : (z.den : Int) * (1 + r6) ≤ z.den * 9 := Int.mul_le_mul_of_nonneg_left (by omega) (by omega)
        have h2 : 0 ≤ (z.den : Int) * (1 + r6) := Int.mul_nonneg (by omega) (by omega)
        omega
      · exact ⟨t3, _, _, rfl, (s9.trans s10) _ _ e8, sm (by omega) (by omega)⟩
      · exact ⟨t4, _, _, rfl, s10 _ _ e9, sm (by omega) (by omega)⟩
    obtain ⟨xsx, ax, hxsx, _, eax, _, hax, hfax, hset⟩ := mvx.row (i := i) (by omega)
    have exn : ixN (Ys.getD i []).length (j : Int) = some j := by
      unfold ixN
      rw [if_pos (by omega), if_pos (by rw [hrow i hi]; omega), Int.toNat_natCast]
    refine ⟨_, rfl, _, rfl, l, _, _, _, rfl, rfl, SqL.of e10, eat, ?_⟩
    refine ⟨_, rfl, _, rfl, pr, _, _, _, rfl, rfl, SqL.of hxsx, eax, _, rfl, ax, _, _, j, rfl, rfl, hax, exn, ?_⟩
    have nab : ax ≠ b := (hb.ne hfax).symm
    have tl : Tm H' (upd H' ax (.lst ((Ys.getD i []).set j (.ref t)))) := Tm.lst hax
    have mvy := hset ((Ys.getD i []).set j (.ref t))
    have hby : Bag (upd H' ax (.lst ((Ys.getD i []).set j (.ref t)))) b := hbx.acc nab.symm
    have ky : Kp b H (upd H' ax (.lst ((Ys.getD i []).set j (.ref t)))) := kx.acc hfax
    have hty := tl _ _ ht
    have hfry : ∀ j', j' < D.length → Frs (upd H' ax (.lst ((Ys.getD i []).set j (.ref t)))) (Ys.getD j' []) (D.getD j' []) := fun j' hj' => (hfrx j' hj').tm tl
    generalize upd H' ax (.lst ((Ys.getD i []).set j (.ref t))) = Hy at mvy hby ky hty hfry ⊢
    obtain ⟨xs, hxs, hxl, hxr⟩ := mvy.list
    refine ⟨_, rfl, pr, rfl, ⟨_, SqL.of hxs⟩, fun q1 hq1 => ?_⟩
    refine comp_tupsV hq1 hxs hxl (by rw [List.length_set]; omega) (fun i x hx => by obtain ⟨a, e, _, ha⟩ := hxr i x hx; exact ⟨a, e, ha⟩) (fun a ns H' Z ha hZ => ⟨_, rfl, a, _, rfl, .inl ⟨SqL.of ha, hZ⟩⟩) (fun ys Hz sz' hyl hyr hy3 => ?_)
    refine ⟨q1, _, rfl, .inl ⟨SqL.of hy3, fun q2 hq2 => ?_⟩⟩
    have sl := (Stay.refl Hz).new (o := .tup ys) hq2
    have sy := sz'.trans sl
    rw [List.length_set, hYl] at hyl
    have hed : ∀ (j' : Nat) (d : PyData), ((List.range D.length).map fun j' => PyData.tuple (if j' = i then ((D.getD j' []).map qD).set j (.tuple [.int num, .int den]) else (D.getD j' []).map qD))[j']? = some d → j' < D.length ∧ d = PyData.tuple (if j' = i then ((D.getD j' []).map qD).set j (.tuple [.int num, .int den]) else (D.getD j' []).map qD) := fun j' d hd => by
      rw [List.getElem?_map] at hd
      cases e : (List.range D.length)[j']? with
      | none => rw [e] at hd; cases hd
      | some m =>
        obtain ⟨hl, em⟩ := List.getElem?_eq_some_iff.mp e
        rw [List.length_range] at hl
        rw [List.getElem_range] at em
        subst em
        rw [e] at hd
        exact ⟨hl, by simpa using hd.symm⟩
    refine k (.ref q2) (.tuple ((List.range D.length).map fun j' => PyData.tuple (if j' = i then ((D.getD j' []).map qD).set j (.tuple [.int num, .int den]) else (D.getD j' []).map qD))) _ (Bag.stay hby sy) (ky.trans (Stay.kpb sy)) (.tup upd_same (trs_ix (by rw [hyl, List.length_map, List.length_range]) fun j' y d hy hd => ?_)) (small_t fun d hd => ?_)
    · obtain ⟨hj', rfl⟩ := hed j' d hd
      obtain ⟨c', rfl, hc'⟩ := hyr j' y hy
      refine .tup (sl _ _ hc') ?_
      by_cases hji : j' = i
      · subst hji
        rw [if_pos rfl]
        have e1 : (Ys.set j' ((Ys.getD j' []).set j (.ref t))).getD j' [] = (Ys.getD j' []).set j (.ref t) := by simp [List.getD, show j' < Ys.length by omega]
        rw [e1, set_put (by rw [hrow j' hj']; exact hj), set_put (by rw [List.length_map, dl.len _ hDi]; exact hj)]
        exact put_tr (frs_tr ((hfry j' hj').stay sy)) (.tup (sy _ _ hty) (.cons (.int _) (.cons (.int _) .nil)))
      · rw [if_neg hji]
        have e1 : (Ys.set i ((Ys.getD i []).set j (.ref t))).getD j' [] = Ys.getD j' [] := by simp [List.getD, List.getElem?_set_ne (Ne.symm hji)]
        rw [e1]
        exact frs_tr ((hfry j' hj').stay sy)
    · obtain ⟨j', hj', rfl⟩ := List.mem_map.mp hd
      have hj' := List.mem_range.mp hj'
      have hDj : D.getD j' [] ∈ D := by rw [getD_of (List.getElem?_eq_getElem hj')]; exact List.getElem_mem hj'
      have old : ∀ e ∈ (D.getD j' []).map qD, small e = true := fun e he => by
        obtain ⟨z', hz', rfl⟩ := List.mem_map.mp he
        exact small_qd (hent _ hDj z' hz').2
      refine small_t fun e he => ?_
      split at he
      · rcases List.mem_or_eq_of_mem_set he with y | y
        · exact old e y
        · rw [y]; exact hsm
      · exact old e he
end
end K26
set_option Elab.async false
set_option linter.all false
set_option maxRecDepth 100000
set_option maxHeartbeats 4000000
namespace K26
open PySem L2 KG EX KM
def toldD : Option Rat → PyData
  | none => .none
  | some q => qD q
theorem told_tr {b : Addr} {H : Hp} {x : V} {o : Option Rat} (h : Told H x o) : TrV b H x (toldD o) := by
  cases o with
  | none =>
    have h : x = .non := h
    subst h
    exact .non
  | some q =>
    obtain ⟨c, rfl, hc⟩ := h
    exact .tup hc (.cons (.int _) (.cons (.int _) .nil))
theorem eqv_out (k : Str) (o : Option Rat) : PyData.eqv (.list [.str k, toldD o]) (.list [.str k, toldD o]) = true := by
  cases o <;> simp [PyData.eqv, PyData.eqvAll, toldD, qD]
theorem out_lay (M : List (List Int)) (ps : List Rat) (am : List Int) (n g : Nat) (d e : PyData) : (PyData.str (outG M ps am n g d e).1).canLay0 = true := by
  unfold outG
  split
  · split
    · decide +kernel
    · show (PyData.str "").canLay0 = true
      decide +kernel
  · decide +kernel
theorem dep_out (k : Str) (o : Option Rat) : (PyData.list [.str k, toldD o]).depth ≤ 60 := by
  cases o <;> simp [PyData.depth, PyData.depthAll, toldD, qD]
section
variable {P : Program} {w : World} {K : PySem.W.Frag} {mg : Str → Option Value} {base : Heap}
abbrev NL : List Str := ["script", "k", "bag", "market", "one", "other", "bad", "pair"]
theorem scLaw : FnScope NL ["script"] (defScope (top 62)) := ⟨rfl, rfl, rfl, by decide +kernel, rfl, by decide +kernel, by decide +kernel⟩
theorem ok_law {f fB fT fM fA fS fR fD fO : Addr} {fd dB dT dM dA dS dR dD dO : FuncData} (F : Fun K "law" "law" (top 62) f fd) (N : Nm mg)
    (Bg : Cal K mg P w base "_law_bag" 1 ["script", "k"] (spBag K) fB dB) (T : Cal K mg P w base "_law_take" 1 ["bag", "many"] spTake fT dT) (Mk : Cal K mg P w base "_law_market" 3 ["bag"] spMk fM dM) (Ad : Cal K mg P w base "_law_any_dealing" 2 ["bag", "market"] spAnyD fA dA)
    (Sp : Cal K mg P w base "_law_spoilt" 7 ["bag", "market", "dealing"] spSpoilG fS dS) (Tr : Cal K mg P w base "_law_tried" 9 ["way", "market", "one", "other"] spTriedG fR dR) (Du : Cal K mg P w base "_law_due" 5 ["market", "one", "other"] spDueG fD dD) (On : Cal K mg P w base "_law_is_one" 4 ["market", "thing"] spOne fO dO) : FnOk P w K mg base CX0 10 f fd ["script"] (spLaw K) := by
  refine F.ok scLaw (fun vs H Q E h => ?_) (fun cdv A' outer s H vs Q E hr h => ?_)
  · obtain ⟨a, ns, rfl, _⟩ := h; rfl
  · obtain ⟨a, ns, rfl, hS, hlen, k⟩ := h
    have hr1 : Room 1 _ := hr.mono (by decide)
    have hr2 : Room 2 _ := hr.mono (by decide)
    have hr3 : Room 3 _ := hr.mono (by decide)
    have hr4 : Room 4 _ := hr.mono (by decide)
    have hr5 : Room 5 _ := hr.mono (by decide)
    have hr7 : Room 7 _ := hr.mono (by decide)
    have hu := hr.units
    refine ⟨_, pss_cons (ps_for PassesOwn.never rfl (pi_range1 rfl N.range (pa_cons (pe_op op_add (pe_callB (call_min2 rfl) (by rfl) N.min boot_min (pa_cons (pe_callB (cLen K) (by rfl) N.len PySem.boot_len (pa_cons (pv 0) pa_nil)) (pa_cons pe_int pa_nil))) pe_int) pa_nil)) (pg_name (i := 1) scLaw.nd rfl (Or.inl rfl))
      (pss_cons (ps_set (i := 2) scLaw.nd rfl (Or.inl rfl) (pe_call Bg.ok hr1 rfl Bg.mg Bg.kp Bg.bd .nil pass0 (pa_cons (pv 0) (pa_cons (pv 1) pa_nil))))
      (pss_cons (ps_set (i := 3) scLaw.nd rfl (Or.inl rfl) (pe_call Mk.ok hr3 rfl Mk.mg Mk.kp Mk.bd .nil pass0 (pa_cons (pv 2) pa_nil)))
      (pss_cons (ps_if (pt_cmpR op_eq (pe_call T.ok hr1 rfl T.mg T.kp T.bd .nil pass0 (pa_cons (pv 2) (pa_cons pe_int pa_nil))) pe_int (nomark _))
        (pss_one (ps_set (i := 3) scLaw.nd rfl (Or.inl rfl) (pe_tup (pa_cons (pe_ix ixT0 (pv 3) pe_int (fun _ _ => rfl)) (pa_cons (pe_ix ixT0 (pv 3) pe_int (fun _ _ => rfl)) (pa_cons (pe_op op_catA (pe_slice sl_tupA (pe_ix ixT0 (pv 3) pe_int (fun _ _ => rfl)) (po_some pe_int) po_none)
          (pe_tup (pa_cons (pe_op opRepT0 (pe_tup (pa_cons pe_int pa_nil)) (pe_callB cLen0 (by rfl) N.len PySem.boot_len (pa_cons (pe_ix ixT0 (pv 3) pe_int (fun _ _ => rfl)) pa_nil))) pa_nil))) pa_nil)))))) pss_nil)
      (pss_cons (ps_set (i := 4) scLaw.nd rfl (Or.inl rfl) (pe_call Ad.ok hr2 rfl Ad.mg Ad.kp Ad.bd .nil pass0 (pa_cons (pv 2) (pa_cons (pv 3) pa_nil))))
      (pss_cons (ps_set (i := 5) scLaw.nd rfl (Or.inl rfl) (pe_ix ixL0 (pe_lst (pa_cons (pe_call Ad.ok hr2 rfl Ad.mg Ad.kp Ad.bd .nil pass0 (pa_cons (pv 2) (pa_cons (pv 3) pa_nil))) (pa_cons (pv 4) pa_nil))) (pe_callTy call_int1 (by rfl) N.int boot_int (pa_cons (pe_cmpR op_eq (pe_call T.ok hr1 rfl T.mg T.kp T.bd .nil pass0 (pa_cons (pv 2) (pa_cons pe_int pa_nil))) pe_int (nomark _)) pa_nil)) (fun _ _ => rfl)))
      (pss_cons (ps_set (i := 6) scLaw.nd rfl (Or.inl rfl) (pe_call Sp.ok hr7 rfl Sp.mg Sp.kp Sp.bd .nil pass0 (pa_cons (pv 2) (pa_cons (pv 3) (pa_cons (pv 4) pa_nil)))))
      (pss_cons (ps_for PassesOwn.never rfl (piL0 (pe_lst (pa_cons (pe_lst (pa_cons (pv 4) (pa_cons (pv 5) pa_nil))) (pa_cons (pe_lst (pa_cons (pv 5) (pa_cons (pv 4) pa_nil))) (pa_cons (pe_lst (pa_cons (pv 6) (pa_cons (pv 5) pa_nil))) (pa_cons (pe_lst (pa_cons (pv 5) (pa_cons (pv 6) pa_nil))) pa_nil)))))) (pg_name (i := 7) scLaw.nd rfl (Or.inl rfl))
        (pss_one (ps_if (pt_cmpR (opNeD0 hu) (pe_call Tr.ok hr rfl Tr.mg Tr.kp Tr.bd .nil pass0 (pa_cons pe_int (pa_cons (pv 3) (pa_cons (pe_ix ixL0 (pv 7) pe_int (fun _ _ => rfl)) (pa_cons (pe_ix ixL0 (pv 7) pe_int (fun _ _ => rfl)) pa_nil))))) (pe_call Du.ok hr5 rfl Du.mg Du.kp Du.bd .nil pass0 (pa_cons (pv 3) (pa_cons (pe_ix ixL0 (pv 7) pe_int (fun _ _ => rfl)) (pa_cons (pe_ix ixL0 (pv 7) pe_int (fun _ _ => rfl)) pa_nil)))) (nomark _)) (pss_one (ps_ret pe_bl)) pss_nil)))
      (pss_one (ps_if (pt_cmpR op_ne (pe_ix ixL0 (pe_call Tr.ok hr rfl Tr.mg Tr.kp Tr.bd .nil pass0 (pa_cons pe_int (pa_cons (pv 3) (pa_cons (pv 6) (pa_cons pe_non pa_nil))))) pe_int (fun _ _ => rfl)) (pe_ix ixL0 (pe_lst (pa_cons pe_str (pa_cons pe_str pa_nil))) (pe_callTy call_int1 (by rfl) N.int boot_int (pa_cons (pe_call On.ok hr4 rfl On.mg On.kp On.bd .nil pass0 (pa_cons (pv 3) (pa_cons (pv 6) pa_nil))) pa_nil)) (fun _ _ => rfl)) (nomark _)) (pss_one (ps_ret pe_bl)) pss_nil))))))))))
      (pss_one (ps_ret pe_bl)), ?_⟩
    refine ⟨_, rfl, a, _, rfl, .inl hS, _, _, rfl, _, _, rfl, rfl, _, rfl, ?_, ?_, ?_⟩
    · rw [List.length_map]; split <;> omega
    · rw [List.length_map]; split <;> omega
    have hN : ((if (30 : Int) < ((ns.map V.int).length : Int) then (30 : Int) else ((ns.map V.int).length : Int)) + 2).toNat ≤ 65 := by
      rw [List.length_map]; split <;> omega
    refine for_range (fun i σ H' => Stay H H' ∧ ∃ x1 x2 x3 x4 x5 x6 x7, σ = [some (.ref a), x1, x2, x3, x4, x5, x6, x7]) ⟨Stay.refl H, _, _, _, _, _, _, _, rfl⟩ ?_ (fun σ H' _ => k H')
    rintro i σ H0 hi ⟨st0, x1, x2, x3, x4, x5, x6, x7, rfl⟩
    have hS0 := SqL.stay hS st0
    refine ⟨_, rfl, _, rfl, a, ns, _, rfl, hS0, by omega, by omega, fun b c d hb0 => ?_⟩
    have hb1 : Bag (upd H0 b (.lst [.int c, .int d])) b := ⟨c, d, upd_same⟩
    have s1 : Stay H0 (upd H0 b (.lst [.int c, .int d])) := (Stay.refl H0).new hb0
    refine ⟨_, rfl, b, rfl, hb1, fun p am pu wi H1 hbag kp1 hT hM _ => ?_⟩
    have s2 : Stay H0 H1 := s1.kp kp1 hb0
    dsimp only [gName]
    refine ifs_cont (fun σ H5 => ∃ p wi, σ = [some (.ref a), some (.int (0 + (i : Int))), some (.ref b), some (.ref p), x4, x5, x6, x7] ∧ Bag H5 b ∧ Stay H0 H5 ∧ TrV b H5 (.ref p) (.tuple [.tuple am, .tuple pu, .tuple wi]) ∧ isMk (.tuple [.tuple am, .tuple pu, .tuple wi]) = true) ?_ ?_
    case refine_2 =>
      intro cont
      refine ⟨_, rfl, b, _, rfl, hbag, by decide, by decide, fun r H4 _ _ hb4 kp4 => ⟨rfl, _, rfl, ite2 (fun _ => ?_) (fun _ => ?_)⟩⟩
      · obtain ⟨pa, pp, pw, xa, xp, xw, m1⟩ := MkAt.of hT hM
        have m4 := m1.kp kp4 hbag
        obtain ⟨_, _, _, _, a1, a6, w1, w6, _⟩ := m4.lw
        refine ⟨_, rfl, p, _, _, _, rfl, rfl, SqT.of m4.hp, rfl, _, rfl, p, _, _, _, rfl, rfl, SqT.of m4.hp, rfl, _, rfl, p, _, _, _, rfl, rfl, SqT.of m4.hp, rfl, _, rfl, pw, xw, rfl, m4.hw, fun u1 H5 s5 hu1 => ?_⟩
        have ec := cut_from (xs := xw) (r := 1) (by omega) (by omega)
        rw [ec] at hu1
        refine ⟨by show 1 ≤ sizeLine; decide, fun u2 hu2 => ?_⟩
        have s6 := (Stay.refl H5).new (o := .tup [.int 0]) hu2
        have m6 := (m4.stay s5).stay s6
        refine ⟨_, rfl, p, _, _, _, rfl, rfl, SqT.of m6.hp, rfl, pa, xa, rfl, .inr (SqT.of m6.ha), ?_⟩
        refine ⟨u2, _, [V.int 0], rfl, rfl, SqT.of upd_same, by simp, by omega, ?_, fun h1 => ?_, fun h1 z hz0 => ?_⟩
        · have : ((xa.length : Int)).toNat = xa.length := by omega
          rw [this, sz]; show 1 * xa.length ≤ _; omega
        · have hz : (upd H5 u2 (.tup [.int 0])) u2 = some (.tup (List.replicate xa.length (V.int 0))) := by
            have : xa.length = 1 := by omega
            rw [this]; exact upd_same
          have s57 := s6
          generalize upd H5 u2 (.tup [.int 0]) = H7 at hz s57 ⊢
          generalize u2 = z at hz ⊢
          refine ⟨by show 1 ≤ sizeLine; decide, fun t ht => ?_⟩
          have s8 := s57.new (o := .tup [.ref z]) ht
          have s78 := (Stay.refl H7).new (o := .tup [.ref z]) ht
          refine ⟨u1, t, _, _, rfl, rfl, s8 _ _ hu1, upd_same, ?_, fun u3 H9 s9 hu3 => ?_⟩
          · rw [List.length_drop, sz]; show _ + 1 ≤ _; omega
          refine ⟨by show 3 ≤ sizeLine; decide, fun u4 hu4 => ?_⟩
          have s10 := (Stay.refl H9).new (o := .tup [.ref pa, .ref pp, .ref u3]) hu4
          have S := s5.trans (s8.trans (s9.trans s10))
          have S9 := s9.trans s10
          have mf := m4.stay S
          have hzf := S9 _ _ (s78 _ _ hz)
          have lam := m4.ta.len
          rw [lam] at hzf
          refine cont _ _ ⟨u4, wi.drop 1 ++ [.tuple (List.replicate am.length (.int 0))], rfl, Bag.stay hb4 S, (s2.kp kp4 hb0).trans S, .tup upd_same (.cons (.tup mf.ha mf.ta) (.cons (.tup mf.hpp mf.tp) (.cons (.tup (s10 _ _ hu3) ((mf.tw.drop 1).app (.cons (.tup hzf (zeros_tr _)) .nil))) .nil))), mk_zero hM⟩
        · have hz : (upd (upd H5 u2 (.tup [.int 0])) z (.tup (List.replicate ((xa.length : Int)).toNat [V.int 0]).flatten)) z = some (.tup (List.replicate xa.length (V.int 0))) := by
            rw [upd_same, flat_zeros]
            have : ((xa.length : Int)).toNat = xa.length := by omega
            rw [this]
          have s57 := s6.new (o := .tup (List.replicate ((xa.length : Int)).toNat [V.int 0]).flatten) hz0
          generalize upd (upd H5 u2 (.tup [.int 0])) z (.tup (List.replicate ((xa.length : Int)).toNat [V.int 0]).flatten) = H7 at hz s57 ⊢
          refine ⟨by show 1 ≤ sizeLine; decide, fun t ht => ?_⟩
          have s8 := s57.new (o := .tup [.ref z]) ht
          have s78 := (Stay.refl H7).new (o := .tup [.ref z]) ht
          refine ⟨u1, t, _, _, rfl, rfl, s8 _ _ hu1, upd_same, ?_, fun u3 H9 s9 hu3 => ?_⟩
          · rw [List.length_drop, sz]; show _ + 1 ≤ _; omega
          refine ⟨by show 3 ≤ sizeLine; decide, fun u4 hu4 => ?_⟩
          have s10 := (Stay.refl H9).new (o := .tup [.ref pa, .ref pp, .ref u3]) hu4
          have S := s5.trans (s8.trans (s9.trans s10))
          have S9 := s9.trans s10
          have mf := m4.stay S
          have hzf := S9 _ _ (s78 _ _ hz)
          have lam := m4.ta.len
          rw [lam] at hzf
          refine cont _ _ ⟨u4, wi.drop 1 ++ [.tuple (List.replicate am.length (.int 0))], rfl, Bag.stay hb4 S, (s2.kp kp4 hb0).trans S, .tup upd_same (.cons (.tup mf.ha mf.ta) (.cons (.tup mf.hpp mf.tp) (.cons (.tup (s10 _ _ hu3) ((mf.tw.drop 1).app (.cons (.tup hzf (zeros_tr _)) .nil))) .nil))), mk_zero hM⟩
      · exact cont _ _ ⟨p, wi, rfl, hb4, s2.kp kp4 hb0, hT.kp kp4 hbag, hM⟩
    rintro σ H5 ⟨p, wi, rfl, hb5, s05, hT5, hM5⟩
    obtain ⟨pa, pp, pw, xa, xp, xw, m5⟩ := MkAt.of hT5 hM5
    obtain ⟨rw0, rne, rlen, rbd, a1, a6, w1, w6, wp⟩ := m5.lw
    refine ⟨_, rfl, _, rfl, b, p, pa, pp, pw, xa, xp, xw, am, pu, wi, rfl, hb5, m5, fun q1 zs1 D1 H6 hb6 kp6 dl6 hDl hent hgot => ?_⟩
    have m6 := m5.kp kp6 hb5
    have s06 : Stay H0 H6 := s05.kp kp6 hb0
    have hT1 : TrV b H6 (.ref q1) (matD D1) := .tup dl6.hq (frm_tr dl6.fr)
    have sm1 : small (matD D1) = true := small_m fun r hr z hz => (hent r hr z hz).2
    refine ⟨_, rfl, _, rfl, b, p, pa, pp, pw, xa, xp, xw, am, pu, wi, rfl, hb6, m6, fun q2 zs2 D2 H7 hb7 kp7 dl7 hDl2 hent2 hgot2 => ?_⟩
    have m7 := m6.kp kp7 hb6
    have s07 : Stay H0 H7 := s06.kp kp7 hb0
    have hT2 : TrV b H7 (.ref q2) (matD D2) := .tup dl7.hq (frm_tr dl7.fr)
    have sm2 : small (matD D2) = true := small_m fun r hr z hz => (hent2 r hr z hz).2
    refine ⟨_, rfl, by show 2 ≤ sizeLine; decide, fun l0 hl0 => ?_⟩
    have s78 := (Stay.refl H7).new (o := .lst [.ref q2, .ref q1]) hl0
    have e8 : (upd H7 l0 (.lst [.ref q2, .ref q1])) l0 = some (.lst [.ref q2, .ref q1]) := upd_same
    have nl0 := hb7.ne hl0
    generalize upd H7 l0 (.lst [.ref q2, .ref q1]) = H8 at s78 e8 ⊢
    have hb8 := Bag.stay hb7 s78
    refine ⟨_, rfl, b, _, rfl, hb8, by decide, by decide, fun r9 H9 _ _ hb9 kp9 => ?_⟩
    have k69 : Kp b H6 H9 := (kp7.trans (Stay.kpb s78)).trans kp9
    have s09 : Stay H0 H9 := (s07.trans s78).kp kp9 hb0
    have m9 := m6.kp k69 hb6
    have hT19 := hT1.kp k69 hb6
    have hT29 := (hT2.stay s78).kp kp9 hb8
    have e9 := kp9 l0 _ nl0.symm e8
    have hso : ∀ bb : Bool, ∃ v2 d2, atI [V.ref q2, V.ref q1] (if bb = true then 1 else 0) = some v2 ∧ TrV b H9 v2 d2 ∧ small d2 = true := fun bb => by
      cases bb with
      | false => exact ⟨.ref q2, matD D2, rfl, hT29, sm2⟩
      | true => exact ⟨.ref q1, matD D1, rfl, hT19, sm1⟩
    refine ⟨rfl, .inr ⟨_, rfl, ?_⟩⟩
    obtain ⟨v2, d2, ea2, hT2', sm2'⟩ := hso (decide (V.int r9 = V.int 0))
    refine ⟨l0, _, _, _, rfl, rfl, SqL.of e9, ea2, ?_⟩
    clear hso hT2 hT29 sm2 hgot2 hent2 hDl2 dl7
    have dl9 : DlAt H9 q1 zs1 D1 xa.length := ⟨k69.tm hb6 _ _ dl6.hq, ⟨dl6.fr.1, fun j x hx => by obtain ⟨a', ys, qs, e1, e2, e3, e4⟩ := dl6.fr.2 j x hx; exact ⟨a', ys, qs, e1, e2, k69.tm hb6 _ _ e3, e4.tm (k69.tm hb6)⟩⟩, dl6.len, dl6.bd, dl6.few⟩
    refine ⟨_, rfl, _, rfl, _, rfl, b, q1, _, zs1, D1, xa.length, rfl, hb9, dl9, a1, a6, by omega, hent, fun v3 d3 H10 hb10 kp10 hT3 sm3 => ?_⟩
    have m10 := m9.kp kp10 hb9
    have s010 : Stay H0 H10 := s09.kp kp10 hb0
    have hT1x := hT19.kp kp10 hb9
    have hT2x := hT2'.kp kp10 hb9
    refine ⟨_, rfl, _, rfl, by show 2 ≤ sizeLine; decide, fun l1 hl1 => ?_⟩
    have t1 := (Stay.refl H10).new (o := .lst [.ref q1, v2]) hl1
    have f1 : (upd H10 l1 (.lst [.ref q1, v2])) l1 = some (.lst [.ref q1, v2]) := upd_same
    generalize upd H10 l1 (.lst [.ref q1, v2]) = G1 at t1 f1 ⊢
    refine ⟨_, rfl, _, rfl, by show 2 ≤ sizeLine; decide, fun l2 hl2 => ?_⟩
    have t2 := (Stay.refl G1).new (o := .lst [v2, .ref q1]) hl2
    have f2 : (upd G1 l2 (.lst [v2, .ref q1])) l2 = some (.lst [v2, .ref q1]) := upd_same
    generalize upd G1 l2 (.lst [v2, .ref q1]) = G2 at t2 f2 ⊢
    refine ⟨_, rfl, _, rfl, by show 2 ≤ sizeLine; decide, fun l3 hl3 => ?_⟩
    have t3 := (Stay.refl G2).new (o := .lst [v3, v2]) hl3
    have f3 : (upd G2 l3 (.lst [v3, v2])) l3 = some (.lst [v3, v2]) := upd_same
    generalize upd G2 l3 (.lst [v3, v2]) = G3 at t3 f3 ⊢
    refine ⟨_, rfl, _, rfl, by show 2 ≤ sizeLine; decide, fun l4 hl4 => ?_⟩
    have t4 := (Stay.refl G3).new (o := .lst [v2, v3]) hl4
    have f4 : (upd G3 l4 (.lst [v2, v3])) l4 = some (.lst [v2, v3]) := upd_same
    generalize upd G3 l4 (.lst [v2, v3]) = G4 at t4 f4 ⊢
    refine ⟨by show 4 ≤ sizeLine; decide, fun l5 hl5 => ?_⟩
    have t5 := (Stay.refl G4).new (o := .lst [.ref l1, .ref l2, .ref l3, .ref l4]) hl5
    have f5 : (upd G4 l5 (.lst [.ref l1, .ref l2, .ref l3, .ref l4])) l5 = some (.lst [.ref l1, .ref l2, .ref l3, .ref l4]) := upd_same
    generalize upd G4 l5 (.lst [.ref l1, .ref l2, .ref l3, .ref l4]) = G5 at t5 f5 ⊢
    have st5 : Stay H10 G5 := (((t1.trans t2).trans t3).trans t4).trans t5
    have hprs : ∀ (j : Nat) x, ([V.ref l1, .ref l2, .ref l3, .ref l4] : List V)[j]? = some x → ∃ (l : Addr) (v u : V) (d e : PyData), x = .ref l ∧ G5 l = some (.lst [v, u]) ∧ TrV b G5 v d ∧ TrV b G5 u e ∧ small d = true ∧ small e = true := fun j x hx => by
      have g1 := (((t2.trans t3).trans t4).trans t5) _ _ f1
      have g2 := ((t3.trans t4).trans t5) _ _ f2
      have g3 := (t4.trans t5) _ _ f3
      have g4 := t5 _ _ f4
      have w1 := hT1x.stay st5
      have w2 := hT2x.stay st5
      have w3 := hT3.stay st5
      match j, hx with
      | 0, hx => exact ⟨l1, _, _, _, _, (Option.some.inj hx).symm, g1, w1, w2, sm1, sm2'⟩
      | 1, hx => exact ⟨l2, _, _, _, _, (Option.some.inj hx).symm, g2, w2, w1, sm2', sm1⟩
      | 2, hx => exact ⟨l3, _, _, _, _, (Option.some.inj hx).symm, g3, w3, w2, sm3, sm2'⟩
      | 3, hx => exact ⟨l4, _, _, _, _, (Option.some.inj hx).symm, g4, w2, w3, sm2', sm3⟩
      | n + 4, hx => simp at hx
    have mG := m10.stay st5
    refine ⟨l5, rfl, ⟨_, SqL.of f5⟩, ?_⟩
    refine for_list (xs := [V.ref l1, .ref l2, .ref l3, .ref l4]) (fun j σ H' => Stay G5 H' ∧ ∃ y7, σ = [some (.ref a), some (.int (0 + (i : Int))), some (.ref b), some (.ref p), some (.ref q1), some v2, some v3, y7]) ⟨Stay.refl G5, _, rfl⟩ (fun j σ H' _ z => SqL.of (z.1 _ _ f5)) ?lp ?fi
    case lp =>
      rintro j x σ H11 hx ⟨s11, y7, rfl⟩
      obtain ⟨l, v, u, d, e, rfl, hl, hv, hu', sd, se⟩ := hprs j x hx
      have m11 := mG.stay s11
      have hl11 := s11 _ _ hl
      refine ⟨_, rfl, _, rfl, l, _, _, _, rfl, rfl, SqL.of hl11, rfl, _, rfl, l, _, _, _, rfl, rfl, SqL.of hl11, rfl, b, p, pa, pp, pw, xa, xp, xw, am, pu, wi, 0, v, u, d, rfl, m11, hv.stay s11, sd, .inl ⟨rfl, e, hu'.stay s11, se, fun r1 z1 H12 s12 hr12 tz1 => ?_⟩⟩
      have s1112 := s11.trans s12
      have hl12 := s1112 _ _ hl
      refine ⟨_, rfl, _, rfl, l, _, _, _, rfl, rfl, SqL.of hl12, rfl, _, rfl, l, _, _, _, rfl, rfl, SqL.of hl12, rfl, b, p, pa, pp, pw, xa, xp, xw, am, pu, wi, v, u, d, e, rfl, mG.stay s1112, hv.stay s1112, hu'.stay s1112, sd, se, fun r2 z2 H13 s13 hr13 tz2 => ?_⟩
      have tr1 : TrVs b H13 [.str (outG (rowsOf wi) (pursesQ pu) (am.map intOf) xp.length xa.length d e).1, z1] [.str (outG (rowsOf wi) (pursesQ pu) (am.map intOf) xp.length xa.length d e).1, toldD (outG (rowsOf wi) (pursesQ pu) (am.map intOf) xp.length xa.length d e).2] := .cons (.str _ (out_lay ..)) (.cons ((told_tr tz1).stay s13) .nil)
      have tr2 : TrVs b H13 [.str (outG (rowsOf wi) (pursesQ pu) (am.map intOf) xp.length xa.length d e).1, z2] [.str (outG (rowsOf wi) (pursesQ pu) (am.map intOf) xp.length xa.length d e).1, toldD (outG (rowsOf wi) (pursesQ pu) (am.map intOf) xp.length xa.length d e).2] := .cons (.str _ (out_lay ..)) (.cons (told_tr tz2) .nil)
      refine ⟨.list _, .list _, .lst (SqL.of (s13 _ _ hr12)) tr1.dt, .lst (SqL.of hr13) tr2.dt, by have := dep_out (outG (rowsOf wi) (pursesQ pu) (am.map intOf) xp.length xa.length d e).1 (outG (rowsOf wi) (pursesQ pu) (am.map intOf) xp.length xa.length d e).2; omega, _, rfl, ?_⟩
      rw [eqv_out]
      exact iteF ⟨s1112.trans s13, _, rfl⟩
    case fi =>
      rintro σ H11 ⟨s11, y7, rfl⟩
      have m11 := mG.stay s11
      have w3 := (hT3.stay st5).stay s11
      refine ⟨_, rfl, _, rfl, b, p, pa, pp, pw, xa, xp, xw, am, pu, wi, 1, v3, .non, d3, rfl, m11, w3, sm3, .inr ⟨rfl, fun r1 H12 s12 hr12 => ?_⟩⟩
      refine ⟨r1, _, _, _, rfl, rfl, SqL.of hr12, rfl, ?_⟩
      refine ⟨by show 2 ≤ sizeLine; decide, fun l6 hl6 => ?_⟩
      have s13 := (Stay.refl H12).new (o := .lst [.str "NoDealing+", .str ""]) hl6
      have e13 : (upd H12 l6 (.lst [.str "NoDealing+", .str ""])) l6 = some (.lst [.str "NoDealing+", .str ""]) := upd_same
      generalize upd H12 l6 (.lst [.str "NoDealing+", .str ""]) = H13 at s13 e13 ⊢
      have s1113 := s12.trans s13
      refine ⟨_, rfl, _, rfl, b, p, pa, pp, pw, xa, xp, xw, am, pu, wi, v3, d3, rfl, m11.stay s1113, w3.stay s1113, sm3, fun H14 s14 => .inr ⟨_, rfl, ?_⟩⟩
      have fin : Stay H0 H14 := ((s010.trans st5).trans s11).trans (s1113.trans s14)
      cases ho : oneDl xp.length xa.length (am.map intOf) d3 with
      | true =>
        refine ⟨l6, _, _, _, rfl, rfl, SqL.of (s14 _ _ e13), rfl, rfl, _, rfl, ?_⟩
        exact iteF ⟨st0.trans fin, _, _, _, _, _, _, _, rfl⟩
      | false =>
        refine ⟨l6, _, _, _, rfl, rfl, SqL.of (s14 _ _ e13), rfl, rfl, _, rfl, ?_⟩
        exact iteF ⟨st0.trans fin, _, _, _, _, _, _, _, rfl⟩
end
end K26
set_option Elab.async false
set_option linter.all false
set_option maxRecDepth 100000
set_option maxHeartbeats 8000000
namespace K26
open PySem L2 KG EX KM
theorem all_mk {l : PySem.W.OpenLaw} {w : World} {K : PySem.W.Frag} {h : Heap} {mg : Str → Option Value} {fa : Addr} (X : K.In h) (G : h.Ns mainGlobals mg) (hfa : mg "law" = some (.ref fa))
    {f0 f1 f2 f3 f4 f5 f6 f7 f8 f9 f10 f11 f12 f13 f14 f15 f16 f17 f18 f19 f20 f21 f22 f23 f24 f25 f26 f27 f28 f29 f30 f31 f32 f33 f34 f35 f36 f37 f38 f39 f40 f41 f42 f43 f44 M Nn Mk Pr De Un Bu Go No Dl Tx Ro : Addr}
    {od0 an0 od1 an1 od2 an2 od3 an3 od4 an4 od5 an5 od6 an6 od7 an7 od8 an8 od9 an9 od10 an10 od11 an11 od12 an12 od13 an13 od14 an14 od15 an15 od16 an16 od17 an17 od18 an18 od19 an19 od20 an20 od21 an21 od22 an22 od23 an23 od24 an24 od25 an25 od26 an26 od27 an27 od28 an28 od29 an29 od30 an30 od31 an31 od32 an32 od33 an33 od34 an34 od35 an35 od36 an36 od37 an37 od38 an38 od39 an39 od40 an40 od41 an41 od42 an42 od43 an43 od44 an44 : Option Addr} {sl0 sl1 sl2 sl3 sl4 sl5 sl6 sl7 sl8 sl9 sl10 sl11 sl12 sl13 sl14 sl15 sl16 sl17 sl18 sl19 sl20 sl21 sl22 sl23 sl24 sl25 sl26 sl27 sl28 sl29 sl30 sl31 sl32 sl33 sl34 sl35 sl36 sl37 sl38 sl39 sl40 sl41 sl42 sl43 sl44 : Array (Option Value)} {oc0 kV0 dc0 pm0 cd0 ct0 oc1 kV1 dc1 pm1 cd1 ct1 oc2 kV2 dc2 pm2 cd2 ct2 oc3 kV3 dc3 pm3 cd3 ct3 oc4 kV4 dc4 pm4 cd4 ct4 oc5 kV5 dc5 pm5 cd5 ct5 oc6 kV6 dc6 pm6 cd6 ct6 oc7 kV7 dc7 pm7 cd7 ct7 oc8 kV8 dc8 pm8 cd8 ct8 oc9 kV9 dc9 pm9 cd9 ct9 oc10 kV10 dc10 pm10 cd10 ct10 oc11 kV11 dc11 pm11 cd11 ct11 oc12 kV12 dc12 pm12 cd12 ct12 oc13 kV13 dc13 pm13 cd13 ct13 oc14 kV14 dc14 pm14 cd14 ct14 oc15 kV15 dc15 pm15 cd15 ct15 oc16 kV16 dc16 pm16 cd16 ct16 oc17 kV17 dc17 pm17 cd17 ct17 oc18 kV18 dc18 pm18 cd18 ct18 oc19 kV19 dc19 pm19 cd19 ct19 oc20 kV20 dc20 pm20 cd20 ct20 oc21 kV21 dc21 pm21 cd21 ct21 oc22 kV22 dc22 pm22 cd22 ct22 oc23 kV23 dc23 pm23 cd23 ct23 oc24 kV24 dc24 pm24 cd24 ct24 oc25 kV25 dc25 pm25 cd25 ct25 oc26 kV26 dc26 pm26 cd26 ct26 oc27 kV27 dc27 pm27 cd27 ct27 oc28 kV28 dc28 pm28 cd28 ct28 oc29 kV29 dc29 pm29 cd29 ct29 oc30 kV30 dc30 pm30 cd30 ct30 oc31 kV31 dc31 pm31 cd31 ct31 oc32 kV32 dc32 pm32 cd32 ct32 oc33 kV33 dc33 pm33 cd33 ct33 oc34 kV34 dc34 pm34 cd34 ct34 oc35 kV35 dc35 pm35 cd35 ct35 oc36 kV36 dc36 pm36 cd36 ct36 oc37 kV37 dc37 pm37 cd37 ct37 oc38 kV38 dc38 pm38 cd38 ct38 oc39 kV39 dc39 pm39 cd39 ct39 oc40 kV40 dc40 pm40 cd40 ct40 oc41 kV41 dc41 pm41 cd41 ct41 oc42 kV42 dc42 pm42 cd42 ct42 oc43 kV43 dc43 pm43 cd43 ct43 oc44 kV44 dc44 pm44 cd44 ct44 : Value}
    (a0 : PySem.W.nsIn K mainGlobals "is_whole" = some (some (.ref f0))) (l0 : K.lookup f0 = some ⟨oc0, od0, .func (PySem.W.fnOf "is_whole" "is_whole" (defArgs (top 14)) (defBody (top 14)) (defScope (top 14)) .none kV0 dc0 pm0 an0 cd0 ct0), sl0⟩) (c0 : PySem.W.codeIn K cd0 "is_whole" = true) (k0 : PySem.W.keepIn K (.ref f0) = true)
    (a1 : PySem.W.nsIn K mainGlobals "is_fraction" = some (some (.ref f1))) (l1 : K.lookup f1 = some ⟨oc1, od1, .func (PySem.W.fnOf "is_fraction" "is_fraction" (defArgs (top 15)) (defBody (top 15)) (defScope (top 15)) .none kV1 dc1 pm1 an1 cd1 ct1), sl1⟩) (c1 : PySem.W.codeIn K cd1 "is_fraction" = true) (k1 : PySem.W.keepIn K (.ref f1) = true)
    (a2 : PySem.W.nsIn K mainGlobals "common_divisor" = some (some (.ref f2))) (l2 : K.lookup f2 = some ⟨oc2, od2, .func (PySem.W.fnOf "common_divisor" "common_divisor" (defArgs (top 16)) (defBody (top 16)) (defScope (top 16)) .none kV2 dc2 pm2 an2 cd2 ct2), sl2⟩) (c2 : PySem.W.codeIn K cd2 "common_divisor" = true) (k2 : PySem.W.keepIn K (.ref f2) = true)
    (a3 : PySem.W.nsIn K mainGlobals "fraction" = some (some (.ref f3))) (l3 : K.lookup f3 = some ⟨oc3, od3, .func (PySem.W.fnOf "fraction" "fraction" (defArgs (top 17)) (defBody (top 17)) (defScope (top 17)) .none kV3 dc3 pm3 an3 cd3 ct3), sl3⟩) (c3 : PySem.W.codeIn K cd3 "fraction" = true) (k3 : PySem.W.keepIn K (.ref f3) = true)
    (a4 : PySem.W.nsIn K mainGlobals "plus" = some (some (.ref f4))) (l4 : K.lookup f4 = some ⟨oc4, od4, .func (PySem.W.fnOf "plus" "plus" (defArgs (top 18)) (defBody (top 18)) (defScope (top 18)) .none kV4 dc4 pm4 an4 cd4 ct4), sl4⟩) (c4 : PySem.W.codeIn K cd4 "plus" = true) (k4 : PySem.W.keepIn K (.ref f4) = true)
    (a5 : PySem.W.nsIn K mainGlobals "minus" = some (some (.ref f5))) (l5 : K.lookup f5 = some ⟨oc5, od5, .func (PySem.W.fnOf "minus" "minus" (defArgs (top 19)) (defBody (top 19)) (defScope (top 19)) .none kV5 dc5 pm5 an5 cd5 ct5), sl5⟩) (c5 : PySem.W.codeIn K cd5 "minus" = true) (k5 : PySem.W.keepIn K (.ref f5) = true)
    (a6 : PySem.W.nsIn K mainGlobals "times" = some (some (.ref f6))) (l6 : K.lookup f6 = some ⟨oc6, od6, .func (PySem.W.fnOf "times" "times" (defArgs (top 20)) (defBody (top 20)) (defScope (top 20)) .none kV6 dc6 pm6 an6 cd6 ct6), sl6⟩) (c6 : PySem.W.codeIn K cd6 "times" = true) (k6 : PySem.W.keepIn K (.ref f6) = true)
    (a7 : PySem.W.nsIn K mainGlobals "over" = some (some (.ref f7))) (l7 : K.lookup f7 = some ⟨oc7, od7, .func (PySem.W.fnOf "over" "over" (defArgs (top 21)) (defBody (top 21)) (defScope (top 21)) .none kV7 dc7 pm7 an7 cd7 ct7), sl7⟩) (c7 : PySem.W.codeIn K cd7 "over" = true) (k7 : PySem.W.keepIn K (.ref f7) = true)
    (a8 : PySem.W.nsIn K mainGlobals "less" = some (some (.ref f8))) (l8 : K.lookup f8 = some ⟨oc8, od8, .func (PySem.W.fnOf "less" "less" (defArgs (top 22)) (defBody (top 22)) (defScope (top 22)) .none kV8 dc8 pm8 an8 cd8 ct8), sl8⟩) (c8 : PySem.W.codeIn K cd8 "less" = true) (k8 : PySem.W.keepIn K (.ref f8) = true)
    (a9 : PySem.W.nsIn K mainGlobals "total" = some (some (.ref f9))) (l9 : K.lookup f9 = some ⟨oc9, od9, .func (PySem.W.fnOf "total" "total" (defArgs (top 23)) (defBody (top 23)) (defScope (top 23)) .none kV9 dc9 pm9 an9 cd9 ct9), sl9⟩) (c9 : PySem.W.codeIn K cd9 "total" = true) (k9 : PySem.W.keepIn K (.ref f9) = true)
    (a10 : PySem.W.nsIn K mainGlobals "is_dealing" = some (some (.ref f10))) (l10 : K.lookup f10 = some ⟨oc10, od10, .func (PySem.W.fnOf "is_dealing" "is_dealing" (defArgs (top 25)) (defBody (top 25)) (defScope (top 25)) .none kV10 dc10 pm10 an10 cd10 ct10), sl10⟩) (c10 : PySem.W.codeIn K cd10 "is_dealing" = true) (k10 : PySem.W.keepIn K (.ref f10) = true)
    (a11 : PySem.W.nsIn K mainGlobals "is_dealt_row" = some (some (.ref f11))) (l11 : K.lookup f11 = some ⟨oc11, od11, .func (PySem.W.fnOf "is_dealt_row" "is_dealt_row" (defArgs (top 26)) (defBody (top 26)) (defScope (top 26)) .none kV11 dc11 pm11 an11 cd11 ct11), sl11⟩) (c11 : PySem.W.codeIn K cd11 "is_dealt_row" = true) (k11 : PySem.W.keepIn K (.ref f11) = true)
    (a12 : PySem.W.nsIn K mainGlobals "got_in_all" = some (some (.ref f12))) (l12 : K.lookup f12 = some ⟨oc12, od12, .func (PySem.W.fnOf "got_in_all" "got_in_all" (defArgs (top 27)) (defBody (top 27)) (defScope (top 27)) .none kV12 dc12 pm12 an12 cd12 ct12), sl12⟩) (c12 : PySem.W.codeIn K cd12 "got_in_all" = true) (k12 : PySem.W.keepIn K (.ref f12) = true)
    (a13 : PySem.W.nsIn K mainGlobals "worth_of" = some (some (.ref f13))) (l13 : K.lookup f13 = some ⟨oc13, od13, .func (PySem.W.fnOf "worth_of" "worth_of" (defArgs (top 28)) (defBody (top 28)) (defScope (top 28)) .none kV13 dc13 pm13 an13 cd13 ct13), sl13⟩) (c13 : PySem.W.codeIn K cd13 "worth_of" = true) (k13 : PySem.W.keepIn K (.ref f13) = true)
    (a14 : PySem.W.nsIn K mainGlobals "worths_of" = some (some (.ref f14))) (l14 : K.lookup f14 = some ⟨oc14, od14, .func (PySem.W.fnOf "worths_of" "worths_of" (defArgs (top 29)) (defBody (top 29)) (defScope (top 29)) .none kV14 dc14 pm14 an14 cd14 ct14), sl14⟩) (c14 : PySem.W.codeIn K cd14 "worths_of" = true) (k14 : PySem.W.keepIn K (.ref f14) = true)
    (a15 : PySem.W.nsIn K mainGlobals "rather" = some (some (.ref f15))) (l15 : K.lookup f15 = some ⟨oc15, od15, .func (PySem.W.fnOf "rather" "rather" (defArgs (top 31)) (defBody (top 31)) (defScope (top 31)) .none kV15 dc15 pm15 an15 cd15 ct15), sl15⟩) (c15 : PySem.W.codeIn K cd15 "rather" = true) (k15 : PySem.W.keepIn K (.ref f15) = true)
    (a16 : PySem.W.nsIn K mainGlobals "need_dealing" = some (some (.ref f16))) (l16 : K.lookup f16 = some ⟨oc16, od16, .func (PySem.W.fnOf "need_dealing" "need_dealing" (defArgs (top 32)) (defBody (top 32)) (defScope (top 32)) .none kV16 dc16 pm16 an16 cd16 ct16), sl16⟩) (c16 : PySem.W.codeIn K cd16 "need_dealing" = true) (k16 : PySem.W.keepIn K (.ref f16) = true)
    (a17 : PySem.W.nsIn K mainGlobals "deals_too_much" = some (some (.ref f17))) (l17 : K.lookup f17 = some ⟨oc17, od17, .func (PySem.W.fnOf "deals_too_much" "deals_too_much" (defArgs (top 33)) (defBody (top 33)) (defScope (top 33)) .none kV17 dc17 pm17 an17 cd17 ct17), sl17⟩) (c17 : PySem.W.codeIn K cd17 "deals_too_much" = true) (k17 : PySem.W.keepIn K (.ref f17) = true)
    (a18 : PySem.W.nsIn K mainGlobals "would_rather" = some (some (.ref f18))) (l18 : K.lookup f18 = some ⟨oc18, od18, .func (PySem.W.fnOf "would_rather" "would_rather" (defArgs (top 34)) (defBody (top 34)) (defScope (top 34)) .none kV18 dc18 pm18 an18 cd18 ct18), sl18⟩) (c18 : PySem.W.codeIn K cd18 "would_rather" = true) (k18 : PySem.W.keepIn K (.ref f18) = true)
    (a19 : PySem.W.nsIn K mainGlobals "worth_by_purse" = some (some (.ref f19))) (l19 : K.lookup f19 = some ⟨oc19, od19, .func (PySem.W.fnOf "worth_by_purse" "worth_by_purse" (defArgs (top 35)) (defBody (top 35)) (defScope (top 35)) .none kV19 dc19 pm19 an19 cd19 ct19), sl19⟩) (c19 : PySem.W.codeIn K cd19 "worth_by_purse" = true) (k19 : PySem.W.keepIn K (.ref f19) = true)
    (a20 : PySem.W.nsIn K mainGlobals "gain" = some (some (.ref f20))) (l20 : K.lookup f20 = some ⟨oc20, od20, .func (PySem.W.fnOf "gain" "gain" (defArgs (top 36)) (defBody (top 36)) (defScope (top 36)) .none kV20 dc20 pm20 an20 cd20 ct20), sl20⟩) (c20 : PySem.W.codeIn K cd20 "gain" = true) (k20 : PySem.W.keepIn K (.ref f20) = true)
    (a21 : PySem.W.nsIn K mainGlobals "_law_bag" = some (some (.ref f21))) (l21 : K.lookup f21 = some ⟨oc21, od21, .func (PySem.W.fnOf "_law_bag" "_law_bag" (defArgs (top 38)) (defBody (top 38)) (defScope (top 38)) .none kV21 dc21 pm21 an21 cd21 ct21), sl21⟩) (c21 : PySem.W.codeIn K cd21 "_law_bag" = true) (k21 : PySem.W.keepIn K (.ref f21) = true)
    (a22 : PySem.W.nsIn K mainGlobals "_law_take" = some (some (.ref f22))) (l22 : K.lookup f22 = some ⟨oc22, od22, .func (PySem.W.fnOf "_law_take" "_law_take" (defArgs (top 39)) (defBody (top 39)) (defScope (top 39)) .none kV22 dc22 pm22 an22 cd22 ct22), sl22⟩) (c22 : PySem.W.codeIn K cd22 "_law_take" = true) (k22 : PySem.W.keepIn K (.ref f22) = true)
    (a23 : PySem.W.nsIn K mainGlobals "_law_frac" = some (some (.ref f23))) (l23 : K.lookup f23 = some ⟨oc23, od23, .func (PySem.W.fnOf "_law_frac" "_law_frac" (defArgs (top 40)) (defBody (top 40)) (defScope (top 40)) .none kV23 dc23 pm23 an23 cd23 ct23), sl23⟩) (c23 : PySem.W.codeIn K cd23 "_law_frac" = true) (k23 : PySem.W.keepIn K (.ref f23) = true)
    (a24 : PySem.W.nsIn K mainGlobals "_law_add" = some (some (.ref f24))) (l24 : K.lookup f24 = some ⟨oc24, od24, .func (PySem.W.fnOf "_law_add" "_law_add" (defArgs (top 41)) (defBody (top 41)) (defScope (top 41)) .none kV24 dc24 pm24 an24 cd24 ct24), sl24⟩) (c24 : PySem.W.codeIn K cd24 "_law_add" = true) (k24 : PySem.W.keepIn K (.ref f24) = true)
    (a25 : PySem.W.nsIn K mainGlobals "_law_sub" = some (some (.ref f25))) (l25 : K.lookup f25 = some ⟨oc25, od25, .func (PySem.W.fnOf "_law_sub" "_law_sub" (defArgs (top 42)) (defBody (top 42)) (defScope (top 42)) .none kV25 dc25 pm25 an25 cd25 ct25), sl25⟩) (c25 : PySem.W.codeIn K cd25 "_law_sub" = true) (k25 : PySem.W.keepIn K (.ref f25) = true)
    (a26 : PySem.W.nsIn K mainGlobals "_law_mul" = some (some (.ref f26))) (l26 : K.lookup f26 = some ⟨oc26, od26, .func (PySem.W.fnOf "_law_mul" "_law_mul" (defArgs (top 43)) (defBody (top 43)) (defScope (top 43)) .none kV26 dc26 pm26 an26 cd26 ct26), sl26⟩) (c26 : PySem.W.codeIn K cd26 "_law_mul" = true) (k26 : PySem.W.keepIn K (.ref f26) = true)
    (a27 : PySem.W.nsIn K mainGlobals "_law_div" = some (some (.ref f27))) (l27 : K.lookup f27 = some ⟨oc27, od27, .func (PySem.W.fnOf "_law_div" "_law_div" (defArgs (top 44)) (defBody (top 44)) (defScope (top 44)) .none kV27 dc27 pm27 an27 cd27 ct27), sl27⟩) (c27 : PySem.W.codeIn K cd27 "_law_div" = true) (k27 : PySem.W.keepIn K (.ref f27) = true)
    (a28 : PySem.W.nsIn K mainGlobals "_law_less" = some (some (.ref f28))) (l28 : K.lookup f28 = some ⟨oc28, od28, .func (PySem.W.fnOf "_law_less" "_law_less" (defArgs (top 45)) (defBody (top 45)) (defScope (top 45)) .none kV28 dc28 pm28 an28 cd28 ct28), sl28⟩) (c28 : PySem.W.codeIn K cd28 "_law_less" = true) (k28 : PySem.W.keepIn K (.ref f28) = true)
    (a29 : PySem.W.nsIn K mainGlobals "_law_sum" = some (some (.ref f29))) (l29 : K.lookup f29 = some ⟨oc29, od29, .func (PySem.W.fnOf "_law_sum" "_law_sum" (defArgs (top 46)) (defBody (top 46)) (defScope (top 46)) .none kV29 dc29 pm29 an29 cd29 ct29), sl29⟩) (c29 : PySem.W.codeIn K cd29 "_law_sum" = true) (k29 : PySem.W.keepIn K (.ref f29) = true)
    (a30 : PySem.W.nsIn K mainGlobals "_law_is_fraction" = some (some (.ref f30))) (l30 : K.lookup f30 = some ⟨oc30, od30, .func (PySem.W.fnOf "_law_is_fraction" "_law_is_fraction" (defArgs (top 47)) (defBody (top 47)) (defScope (top 47)) .none kV30 dc30 pm30 an30 cd30 ct30), sl30⟩) (c30 : PySem.W.codeIn K cd30 "_law_is_fraction" = true) (k30 : PySem.W.keepIn K (.ref f30) = true)
    (a31 : PySem.W.nsIn K mainGlobals "_law_purse" = some (some (.ref f31))) (l31 : K.lookup f31 = some ⟨oc31, od31, .func (PySem.W.fnOf "_law_purse" "_law_purse" (defArgs (top 48)) (defBody (top 48)) (defScope (top 48)) .none kV31 dc31 pm31 an31 cd31 ct31), sl31⟩) (c31 : PySem.W.codeIn K cd31 "_law_purse" = true) (k31 : PySem.W.keepIn K (.ref f31) = true)
    (a32 : PySem.W.nsIn K mainGlobals "_law_wishes" = some (some (.ref f32))) (l32 : K.lookup f32 = some ⟨oc32, od32, .func (PySem.W.fnOf "_law_wishes" "_law_wishes" (defArgs (top 49)) (defBody (top 49)) (defScope (top 49)) .none kV32 dc32 pm32 an32 cd32 ct32), sl32⟩) (c32 : PySem.W.codeIn K cd32 "_law_wishes" = true) (k32 : PySem.W.keepIn K (.ref f32) = true)
    (a33 : PySem.W.nsIn K mainGlobals "_law_market" = some (some (.ref f33))) (l33 : K.lookup f33 = some ⟨oc33, od33, .func (PySem.W.fnOf "_law_market" "_law_market" (defArgs (top 50)) (defBody (top 50)) (defScope (top 50)) .none kV33 dc33 pm33 an33 cd33 ct33), sl33⟩) (c33 : PySem.W.codeIn K cd33 "_law_market" = true) (k33 : PySem.W.keepIn K (.ref f33) = true)
    (a34 : PySem.W.nsIn K mainGlobals "_law_worth" = some (some (.ref f34))) (l34 : K.lookup f34 = some ⟨oc34, od34, .func (PySem.W.fnOf "_law_worth" "_law_worth" (defArgs (top 52)) (defBody (top 52)) (defScope (top 52)) .none kV34 dc34 pm34 an34 cd34 ct34), sl34⟩) (c34 : PySem.W.codeIn K cd34 "_law_worth" = true) (k34 : PySem.W.keepIn K (.ref f34) = true)
    (a35 : PySem.W.nsIn K mainGlobals "_law_any_dealing" = some (some (.ref f35))) (l35 : K.lookup f35 = some ⟨oc35, od35, .func (PySem.W.fnOf "_law_any_dealing" "_law_any_dealing" (defArgs (top 53)) (defBody (top 53)) (defScope (top 53)) .none kV35 dc35 pm35 an35 cd35 ct35), sl35⟩) (c35 : PySem.W.codeIn K cd35 "_law_any_dealing" = true) (k35 : PySem.W.keepIn K (.ref f35) = true)
    (a36 : PySem.W.nsIn K mainGlobals "_law_is_dealing" = some (some (.ref f36))) (l36 : K.lookup f36 = some ⟨oc36, od36, .func (PySem.W.fnOf "_law_is_dealing" "_law_is_dealing" (defArgs (top 54)) (defBody (top 54)) (defScope (top 54)) .none kV36 dc36 pm36 an36 cd36 ct36), sl36⟩) (c36 : PySem.W.codeIn K cd36 "_law_is_dealing" = true) (k36 : PySem.W.keepIn K (.ref f36) = true)
    (a37 : PySem.W.nsIn K mainGlobals "_law_odd" = some (some (.ref f37))) (l37 : K.lookup f37 = some ⟨oc37, od37, .func (PySem.W.fnOf "_law_odd" "_law_odd" (defArgs (top 55)) (defBody (top 55)) (defScope (top 55)) .none kV37 dc37 pm37 an37 cd37 ct37), sl37⟩) (c37 : PySem.W.codeIn K cd37 "_law_odd" = true) (k37 : PySem.W.keepIn K (.ref f37) = true)
    (a38 : PySem.W.nsIn K mainGlobals "_law_replaced" = some (some (.ref f38))) (l38 : K.lookup f38 = some ⟨oc38, od38, .func (PySem.W.fnOf "_law_replaced" "_law_replaced" (defArgs (top 56)) (defBody (top 56)) (defScope (top 56)) .none kV38 dc38 pm38 an38 cd38 ct38), sl38⟩) (c38 : PySem.W.codeIn K cd38 "_law_replaced" = true) (k38 : PySem.W.keepIn K (.ref f38) = true)
    (a39 : PySem.W.nsIn K mainGlobals "_law_kinds" = some (some (.ref f39))) (l39 : K.lookup f39 = some ⟨oc39, od39, .func (PySem.W.fnOf "_law_kinds" "_law_kinds" (defArgs (top 57)) (defBody (top 57)) (defScope (top 57)) .none kV39 dc39 pm39 an39 cd39 ct39), sl39⟩) (c39 : PySem.W.codeIn K cd39 "_law_kinds" = true) (k39 : PySem.W.keepIn K (.ref f39) = true)
    (a40 : PySem.W.nsIn K mainGlobals "_law_is_one" = some (some (.ref f40))) (l40 : K.lookup f40 = some ⟨oc40, od40, .func (PySem.W.fnOf "_law_is_one" "_law_is_one" (defArgs (top 58)) (defBody (top 58)) (defScope (top 58)) .none kV40 dc40 pm40 an40 cd40 ct40), sl40⟩) (c40 : PySem.W.codeIn K cd40 "_law_is_one" = true) (k40 : PySem.W.keepIn K (.ref f40) = true)
    (a41 : PySem.W.nsIn K mainGlobals "_law_tried" = some (some (.ref f41))) (l41 : K.lookup f41 = some ⟨oc41, od41, .func (PySem.W.fnOf "_law_tried" "_law_tried" (defArgs (top 59)) (defBody (top 59)) (defScope (top 59)) .none kV41 dc41 pm41 an41 cd41 ct41), sl41⟩) (c41 : PySem.W.codeIn K cd41 "_law_tried" = true) (k41 : PySem.W.keepIn K (.ref f41) = true)
    (a42 : PySem.W.nsIn K mainGlobals "_law_due" = some (some (.ref f42))) (l42 : K.lookup f42 = some ⟨oc42, od42, .func (PySem.W.fnOf "_law_due" "_law_due" (defArgs (top 60)) (defBody (top 60)) (defScope (top 60)) .none kV42 dc42 pm42 an42 cd42 ct42), sl42⟩) (c42 : PySem.W.codeIn K cd42 "_law_due" = true) (k42 : PySem.W.keepIn K (.ref f42) = true)
    (a43 : PySem.W.nsIn K mainGlobals "_law_spoilt" = some (some (.ref f43))) (l43 : K.lookup f43 = some ⟨oc43, od43, .func (PySem.W.fnOf "_law_spoilt" "_law_spoilt" (defArgs (top 61)) (defBody (top 61)) (defScope (top 61)) .none kV43 dc43 pm43 an43 cd43 ct43), sl43⟩) (c43 : PySem.W.codeIn K cd43 "_law_spoilt" = true) (k43 : PySem.W.keepIn K (.ref f43) = true)
    (a44 : PySem.W.nsIn K mainGlobals "law" = some (some (.ref f44))) (l44 : K.lookup f44 = some ⟨oc44, od44, .func (PySem.W.fnOf "law" "law" (defArgs (top 62)) (defBody (top 62)) (defScope (top 62)) .none kV44 dc44 pm44 an44 cd44 ct44), sl44⟩) (c44 : PySem.W.codeIn K cd44 "law" = true) (k44 : PySem.W.keepIn K (.ref f44) = true)
    (z0 : PySem.W.nsIn K mainGlobals "len" = some none)
    (z1 : PySem.W.nsIn K mainGlobals "range" = some none)
    (z2 : PySem.W.nsIn K mainGlobals "tuple" = some none)
    (z3 : PySem.W.nsIn K mainGlobals "list" = some none)
    (z4 : PySem.W.nsIn K mainGlobals "all" = some none)
    (z5 : PySem.W.nsIn K mainGlobals "any" = some none)
    (z6 : PySem.W.nsIn K mainGlobals "max" = some none)
    (z7 : PySem.W.nsIn K mainGlobals "min" = some none)
    (z8 : PySem.W.nsIn K mainGlobals "sum" = some none)
    (z9 : PySem.W.nsIn K mainGlobals "abs" = some none)
    (z10 : PySem.W.nsIn K mainGlobals "int" = some none)
    (z11 : PySem.W.nsIn K mainGlobals "isinstance" = some none)
    (z12 : PySem.W.nsIn K mainGlobals "bool" = some none)
    (z13 : PySem.W.nsIn K mainGlobals "enumerate" = some none)
    (z14 : PySem.W.nsIn K mainGlobals "ValueError" = some none)
    (yzip : PySem.W.nsIn K mainGlobals "zip" = some none)
    (gM : PySem.W.nsIn K mainGlobals "MartError" = some (some (.ref M)))
    (gNn : PySem.W.nsIn K mainGlobals "NoNumber" = some (some (.ref Nn)))
    (gMk : PySem.W.nsIn K mainGlobals "NoMarket" = some (some (.ref Mk)))
    (gPr : PySem.W.nsIn K mainGlobals "NoPrices" = some (some (.ref Pr)))
    (gDe : PySem.W.nsIn K mainGlobals "Dear" = some (some (.ref De)))
    (gUn : PySem.W.nsIn K mainGlobals "Unwished" = some (some (.ref Un)))
    (gBu : PySem.W.nsIn K mainGlobals "NoBuyer" = some (some (.ref Bu)))
    (gGo : PySem.W.nsIn K mainGlobals "NoGood" = some (some (.ref Go)))
    (gNo : PySem.W.nsIn K mainGlobals "Nothing" = some (some (.ref No)))
    (gDl : PySem.W.nsIn K mainGlobals "NoDealing" = some (some (.ref Dl)))
    (gTx : PySem.W.nsIn K mainGlobals "NoText" = some (some (.ref Tx)))
    (gRo : PySem.W.nsIn K mainGlobals "NoRow" = some (some (.ref Ro)))
    (ti1 : PySem.W.kitOne K (.type "NoneType") (.type "int") = some false)
    (ti2 : PySem.W.kitOne K (.type "bool") (.type "int") = some true)
    (ti3 : PySem.W.kitOne K (.type "int") (.type "int") = some true)
    (ti4 : PySem.W.kitOne K (.type "str") (.type "int") = some false)
    (ti5 : PySem.W.kitOne K (.type "list") (.type "int") = some false)
    (ti6 : PySem.W.kitOne K (.type "tuple") (.type "int") = some false)
    (tb1 : PySem.W.kitOne K (.type "NoneType") (.type "bool") = some false)
    (tb2 : PySem.W.kitOne K (.type "bool") (.type "bool") = some true)
    (tb3 : PySem.W.kitOne K (.type "int") (.type "bool") = some false)
    (tb4 : PySem.W.kitOne K (.type "str") (.type "bool") = some false)
    (tb5 : PySem.W.kitOne K (.type "list") (.type "bool") = some false)
    (tb6 : PySem.W.kitOne K (.type "tuple") (.type "bool") = some false)
    (tt1 : PySem.W.kitOne K (.type "NoneType") (.type "tuple") = some false)
    (tt2 : PySem.W.kitOne K (.type "bool") (.type "tuple") = some false)
    (tt3 : PySem.W.kitOne K (.type "int") (.type "tuple") = some false)
    (tt4 : PySem.W.kitOne K (.type "str") (.type "tuple") = some false)
    (tt5 : PySem.W.kitOne K (.type "list") (.type "tuple") = some false)
    (tt6 : PySem.W.kitOne K (.type "tuple") (.type "tuple") = some true)
    (eXNn : PySem.W.excIn K Nn [.type "ValueError", .type "Exception", .type "BaseException", .type "object"] "ValueError.__new__" = true)
    (eXDl : PySem.W.excIn K Dl [.type "ValueError", .type "Exception", .type "BaseException", .type "object"] "ValueError.__new__" = true)
    (eT : PySem.W.typeIn K (.ref M) = some (.type "type")) (eB : PySem.W.mroIn K M (.type "BaseException") = some true)
    (e4 : PySem.W.specialIn K (.builtin "object.__class__") "__get__" = some (some (.builtin "getset_descriptor.__get__"))) (e5 : PySem.W.takesIn K (.builtin "object.__class__") = some true)
    (qDlDe : PySem.W.kitOne K (.ref Dl) (.ref De) = some false)
    (qDlBu : PySem.W.kitOne K (.ref Dl) (.ref Bu) = some false)
    (qDlDl : PySem.W.kitOne K (.ref Dl) (.ref Dl) = some true)
    (qDlGo : PySem.W.kitOne K (.ref Dl) (.ref Go) = some false)
    (qDlMk : PySem.W.kitOne K (.ref Dl) (.ref Mk) = some false)
    (qDlNn : PySem.W.kitOne K (.ref Dl) (.ref Nn) = some false)
    (qDlPr : PySem.W.kitOne K (.ref Dl) (.ref Pr) = some false)
    (qDlRo : PySem.W.kitOne K (.ref Dl) (.ref Ro) = some false)
    (qDlTx : PySem.W.kitOne K (.ref Dl) (.ref Tx) = some false)
    (qDlNo : PySem.W.kitOne K (.ref Dl) (.ref No) = some false)
    (qDlUn : PySem.W.kitOne K (.ref Dl) (.ref Un) = some false)
    (qDlVa : PySem.W.kitOne K (.ref Dl) (.type "ValueError") = some true)
    (sDl : PySem.W.mroIn K Dl (.ref M) = some true) (uDl1 : PySem.W.findIn K (.ref Dl) "__getattribute__" = some (some (.builtin "BaseException.__getattribute__"))) (uDl2 : PySem.W.findIn K (.ref Dl) "__getattr__" = some none) (uDl3 : PySem.W.findIn K (.ref Dl) "__class__" = some (some (.builtin "object.__class__"))) (uDl6 : PySem.W.mroIn K Dl (.type "object") = some true) (uDl7 : PySem.W.mroIn K Dl (.type "BaseException") = some true)
    (qNnDe : PySem.W.kitOne K (.ref Nn) (.ref De) = some false)
    (qNnBu : PySem.W.kitOne K (.ref Nn) (.ref Bu) = some false)
    (qNnDl : PySem.W.kitOne K (.ref Nn) (.ref Dl) = some false)
    (qNnGo : PySem.W.kitOne K (.ref Nn) (.ref Go) = some false)
    (qNnMk : PySem.W.kitOne K (.ref Nn) (.ref Mk) = some false)
    (qNnNn : PySem.W.kitOne K (.ref Nn) (.ref Nn) = some true)
    (qNnPr : PySem.W.kitOne K (.ref Nn) (.ref Pr) = some false)
    (qNnRo : PySem.W.kitOne K (.ref Nn) (.ref Ro) = some false)
    (qNnTx : PySem.W.kitOne K (.ref Nn) (.ref Tx) = some false)
    (qNnNo : PySem.W.kitOne K (.ref Nn) (.ref No) = some false)
    (qNnUn : PySem.W.kitOne K (.ref Nn) (.ref Un) = some false)
    (qNnVa : PySem.W.kitOne K (.ref Nn) (.type "ValueError") = some true)
    (sNn : PySem.W.mroIn K Nn (.ref M) = some true) (uNn1 : PySem.W.findIn K (.ref Nn) "__getattribute__" = some (some (.builtin "BaseException.__getattribute__"))) (uNn2 : PySem.W.findIn K (.ref Nn) "__getattr__" = some none) (uNn3 : PySem.W.findIn K (.ref Nn) "__class__" = some (some (.builtin "object.__class__"))) (uNn6 : PySem.W.mroIn K Nn (.type "object") = some true) (uNn7 : PySem.W.mroIn K Nn (.type "BaseException") = some true) :
    ∃ fd : FuncData, (∀ (s : Shared) (v : Value), BindsTo s fd ⟨[v], []⟩ [("script", v)]) ∧ ∀ base : Heap, K.In base → base.Ns mainGlobals mg → FnOk l.prog w K mg base CX0 10 fa fd ["script"] (spLaw K) := by
  have e := hfa.symm.trans (PySem.W.mg_of X G a44)
  cases e
  have N : Nm mg := ⟨PySem.W.mg_none_of X G z0, PySem.W.mg_none_of X G z1, PySem.W.mg_none_of X G z2, PySem.W.mg_none_of X G z3, PySem.W.mg_none_of X G z4, PySem.W.mg_none_of X G z5, PySem.W.mg_none_of X G z6, PySem.W.mg_none_of X G z7, PySem.W.mg_none_of X G z8, PySem.W.mg_none_of X G z9, PySem.W.mg_none_of X G z10, PySem.W.mg_none_of X G z11, PySem.W.mg_none_of X G z12, PySem.W.mg_none_of X G z13, PySem.W.mg_none_of X G z14⟩
  have mZip := PySem.W.mg_none_of X G yzip
  have Z : IsK K := ⟨ti1, ti2, ti3, ti4, ti5, ti6, tb1, tb2, tb3, tb4, tb5, tb6, tt1, tt2, tt3, tt4, tt5, tt6⟩
  have mgM := PySem.W.mg_of X G gM
  have mgNn := PySem.W.mg_of X G gNn
  have mgMk := PySem.W.mg_of X G gMk
  have mgPr := PySem.W.mg_of X G gPr
  have mgDe := PySem.W.mg_of X G gDe
  have mgUn := PySem.W.mg_of X G gUn
  have mgBu := PySem.W.mg_of X G gBu
  have mgGo := PySem.W.mg_of X G gGo
  have mgNo := PySem.W.mg_of X G gNo
  have mgDl := PySem.W.mg_of X G gDl
  have mgTx := PySem.W.mg_of X G gTx
  have mgRo := PySem.W.mg_of X G gRo
  have R : Clx K mg M De Bu Dl Go Mk Nn Pr Ro Tx No Un := ⟨mgM, mgDe, mgBu, mgDl, mgGo, mgMk, mgNn, mgPr, mgRo, mgTx, mgNo, mgUn, eT, eB⟩
  have EDl : ErrOf K M De Bu Dl Go Mk Nn Pr Ro Tx No Un Dl 2 := ⟨qDlDe, qDlBu, qDlDl, qDlGo, qDlMk, qDlNn, qDlPr, qDlRo, qDlTx, qDlNo, qDlUn, qDlVa, eXDl, sDl, ⟨uDl1, uDl2, uDl3, e4, e5, uDl6, uDl7⟩⟩
  have ENn : ErrOf K M De Bu Dl Go Mk Nn Pr Ro Tx No Un Nn 5 := ⟨qNnDe, qNnBu, qNnDl, qNnGo, qNnMk, qNnNn, qNnPr, qNnRo, qNnTx, qNnNo, qNnUn, qNnVa, eXNn, sNn, ⟨uNn1, uNn2, uNn3, e4, e5, uNn6, uNn7⟩⟩
  have F0 := fun_mk (st := top 14) l0 c0 k0
  have b0 := F0.binds (ps := ["thing"]) fun _ _ _ _ _ _ us hl => match us, hl with | [_], _ => rfl
  have F1 := fun_mk (st := top 15) l1 c1 k1
  have b1 := F1.binds (ps := ["thing"]) fun _ _ _ _ _ _ us hl => match us, hl with | [_], _ => rfl
  have F2 := fun_mk (st := top 16) l2 c2 k2
  have b2 := F2.binds (ps := ["one", "other"]) fun _ _ _ _ _ _ us hl => match us, hl with | [_, _], _ => rfl
  have F3 := fun_mk (st := top 17) l3 c3 k3
  have b3 := F3.binds (ps := ["top", "bottom"]) fun _ _ _ _ _ _ us hl => match us, hl with | [_, _], _ => rfl
  have F4 := fun_mk (st := top 18) l4 c4 k4
  have b4 := F4.binds (ps := ["one", "other"]) fun _ _ _ _ _ _ us hl => match us, hl with | [_, _], _ => rfl
  have F5 := fun_mk (st := top 19) l5 c5 k5
  have b5 := F5.binds (ps := ["one", "other"]) fun _ _ _ _ _ _ us hl => match us, hl with | [_, _], _ => rfl
  have F6 := fun_mk (st := top 20) l6 c6 k6
  have b6 := F6.binds (ps := ["one", "other"]) fun _ _ _ _ _ _ us hl => match us, hl with | [_, _], _ => rfl
  have F7 := fun_mk (st := top 21) l7 c7 k7
  have b7 := F7.binds (ps := ["one", "other"]) fun _ _ _ _ _ _ us hl => match us, hl with | [_, _], _ => rfl
  have F8 := fun_mk (st := top 22) l8 c8 k8
  have b8 := F8.binds (ps := ["one", "other"]) fun _ _ _ _ _ _ us hl => match us, hl with | [_, _], _ => rfl
  have F9 := fun_mk (st := top 23) l9 c9 k9
  have b9 := F9.binds (ps := ["parts"]) fun _ _ _ _ _ _ us hl => match us, hl with | [_], _ => rfl
  have F10 := fun_mk (st := top 25) l10 c10 k10
  have b10 := F10.binds (ps := ["market", "thing"]) fun _ _ _ _ _ _ us hl => match us, hl with | [_, _], _ => rfl
  have F11 := fun_mk (st := top 26) l11 c11 k11
  have b11 := F11.binds (ps := ["thing", "goods"]) fun _ _ _ _ _ _ us hl => match us, hl with | [_, _], _ => rfl
  have F12 := fun_mk (st := top 27) l12 c12 k12
  have b12 := F12.binds (ps := ["dealing", "good"]) fun _ _ _ _ _ _ us hl => match us, hl with | [_, _], _ => rfl
  have F13 := fun_mk (st := top 28) l13 c13 k13
  have b13 := F13.binds (ps := ["wishes", "got"]) fun _ _ _ _ _ _ us hl => match us, hl with | [_, _], _ => rfl
  have F14 := fun_mk (st := top 29) l14 c14 k14
  have b14 := F14.binds (ps := ["market", "dealing"]) fun _ _ _ _ _ _ us hl => match us, hl with | [_, _], _ => rfl
  have F15 := fun_mk (st := top 31) l15 c15 k15
  have b15 := F15.binds (ps := ["market", "dealing"]) fun _ _ _ _ _ _ us hl => match us, hl with | [_, _], _ => rfl
  have F16 := fun_mk (st := top 32) l16 c16 k16
  have b16 := F16.binds (ps := ["market", "thing"]) fun _ _ _ _ _ _ us hl => match us, hl with | [_, _], _ => rfl
  have F17 := fun_mk (st := top 33) l17 c17 k17
  have b17 := F17.binds (ps := ["market", "dealing"]) fun _ _ _ _ _ _ us hl => match us, hl with | [_, _], _ => rfl
  have F18 := fun_mk (st := top 34) l18 c18 k18
  have b18 := F18.binds (ps := ["market", "dealing", "buyer", "other"]) fun _ _ _ _ _ _ us hl => match us, hl with | [_, _, _, _], _ => rfl
  have F19 := fun_mk (st := top 35) l19 c19 k19
  have b19 := F19.binds (ps := ["market", "dealing", "buyer", "other"]) fun _ _ _ _ _ _ us hl => match us, hl with | [_, _, _, _], _ => rfl
  have F20 := fun_mk (st := top 36) l20 c20 k20
  have b20 := F20.binds (ps := ["market", "dealing", "other"]) fun _ _ _ _ _ _ us hl => match us, hl with | [_, _, _], _ => rfl
  have F21 := fun_mk (st := top 38) l21 c21 k21
  have b21 := F21.binds (ps := ["script", "k"]) fun _ _ _ _ _ _ us hl => match us, hl with | [_, _], _ => rfl
  have F22 := fun_mk (st := top 39) l22 c22 k22
  have b22 := F22.binds (ps := ["bag", "many"]) fun _ _ _ _ _ _ us hl => match us, hl with | [_, _], _ => rfl
  have F23 := fun_mk (st := top 40) l23 c23 k23
  have b23 := F23.binds (ps := ["top", "bottom"]) fun _ _ _ _ _ _ us hl => match us, hl with | [_, _], _ => rfl
  have F24 := fun_mk (st := top 41) l24 c24 k24
  have b24 := F24.binds (ps := ["one", "other"]) fun _ _ _ _ _ _ us hl => match us, hl with | [_, _], _ => rfl
  have F25 := fun_mk (st := top 42) l25 c25 k25
  have b25 := F25.binds (ps := ["one", "other"]) fun _ _ _ _ _ _ us hl => match us, hl with | [_, _], _ => rfl
  have F26 := fun_mk (st := top 43) l26 c26 k26
  have b26 := F26.binds (ps := ["one", "other"]) fun _ _ _ _ _ _ us hl => match us, hl with | [_, _], _ => rfl
  have F27 := fun_mk (st := top 44) l27 c27 k27
  have b27 := F27.binds (ps := ["one", "other"]) fun _ _ _ _ _ _ us hl => match us, hl with | [_, _], _ => rfl
  have F28 := fun_mk (st := top 45) l28 c28 k28
  have b28 := F28.binds (ps := ["one", "other"]) fun _ _ _ _ _ _ us hl => match us, hl with | [_, _], _ => rfl
  have F29 := fun_mk (st := top 46) l29 c29 k29
  have b29 := F29.binds (ps := ["some"]) fun _ _ _ _ _ _ us hl => match us, hl with | [_], _ => rfl
  have F30 := fun_mk (st := top 47) l30 c30 k30
  have b30 := F30.binds (ps := ["thing"]) fun _ _ _ _ _ _ us hl => match us, hl with | [_], _ => rfl
  have F31 := fun_mk (st := top 48) l31 c31 k31
  have b31 := F31.binds (ps := ["bag"]) fun _ _ _ _ _ _ us hl => match us, hl with | [_], _ => rfl
  have F32 := fun_mk (st := top 49) l32 c32 k32
  have b32 := F32.binds (ps := ["bag", "goods"]) fun _ _ _ _ _ _ us hl => match us, hl with | [_, _], _ => rfl
  have F33 := fun_mk (st := top 50) l33 c33 k33
  have b33 := F33.binds (ps := ["bag"]) fun _ _ _ _ _ _ us hl => match us, hl with | [_], _ => rfl
  have F34 := fun_mk (st := top 52) l34 c34 k34
  have b34 := F34.binds (ps := ["wishes", "row"]) fun _ _ _ _ _ _ us hl => match us, hl with | [_, _], _ => rfl
  have F35 := fun_mk (st := top 53) l35 c35 k35
  have b35 := F35.binds (ps := ["bag", "market"]) fun _ _ _ _ _ _ us hl => match us, hl with | [_, _], _ => rfl
  have F36 := fun_mk (st := top 54) l36 c36 k36
  have b36 := F36.binds (ps := ["market", "thing"]) fun _ _ _ _ _ _ us hl => match us, hl with | [_, _], _ => rfl
  have F37 := fun_mk (st := top 55) l37 c37 k37
  have b37 := F37.binds (ps := ["bag"]) fun _ _ _ _ _ _ us hl => match us, hl with | [_], _ => rfl
  have F38 := fun_mk (st := top 56) l38 c38 k38
  have b38 := F38.binds (ps := ["bag", "thing", "deep"]) fun _ _ _ _ _ _ us hl => match us, hl with | [_, _, _], _ => rfl
  have F39 := fun_mk (st := top 57) l39 c39 k39
  have b39 := F39.binds (ps := ["e"]) fun _ _ _ _ _ _ us hl => match us, hl with | [_], _ => rfl
  have F40 := fun_mk (st := top 58) l40 c40 k40
  have b40 := F40.binds (ps := ["market", "thing"]) fun _ _ _ _ _ _ us hl => match us, hl with | [_, _], _ => rfl
  have F41 := fun_mk (st := top 59) l41 c41 k41
  have b41 := F41.binds (ps := ["way", "market", "one", "other"]) fun _ _ _ _ _ _ us hl => match us, hl with | [_, _, _, _], _ => rfl
  have F42 := fun_mk (st := top 60) l42 c42 k42
  have b42 := F42.binds (ps := ["market", "one", "other"]) fun _ _ _ _ _ _ us hl => match us, hl with | [_, _, _], _ => rfl
  have F43 := fun_mk (st := top 61) l43 c43 k43
  have b43 := F43.binds (ps := ["bag", "market", "dealing"]) fun _ _ _ _ _ _ us hl => match us, hl with | [_, _, _], _ => rfl
  have F44 := fun_mk (st := top 62) l44 c44 k44
  refine ⟨PySem.W.fnOf "law" "law" (defArgs (top 62)) (defBody (top 62)) (defScope (top 62)) .none kV44 dc44 pm44 an44 cd44 ct44, fun s v => .of_eq rfl, fun base _ _ => ?_⟩
  have W : Cal K mg l.prog w base "is_whole" 1 ["thing"] (spT isWhole) f0 _ := ⟨ok_whole F0 N Z, PySem.W.mg_of X G a0, k0, b0⟩
  have Gc : Cal K mg l.prog w base "common_divisor" 1 ["one", "other"] spGcd f2 _ := ⟨ok_gcd F2 N, PySem.W.mg_of X G a2, k2, b2⟩
  have Gn : Cal K mg l.prog w base "common_divisor" 1 ["one", "other"] spGcdN f2 _ := ⟨ok_gcdN F2 N, PySem.W.mg_of X G a2, k2, b2⟩
  have IF : Cal K mg l.prog w base "is_fraction" 2 ["thing"] (spT isFrac) f1 _ := ⟨ok_isfrac F1 N Z W Gc, PySem.W.mg_of X G a1, k1, b1⟩
  have Fr : CalX K mg l.prog w base "fraction" 2 ["top", "bottom"] (spFr Nn) f3 _ := ⟨ok_fraction F3 mgNn eXNn Gn, PySem.W.mg_of X G a3, k3, b3⟩
  have Pl : CalX K mg l.prog w base "plus" 3 ["one", "other"] (sp2 qPl) f4 _ := ⟨ok_plus F4 Fr, PySem.W.mg_of X G a4, k4, b4⟩
  have Ti : CalX K mg l.prog w base "times" 3 ["one", "other"] (sp2 qTi) f6 _ := ⟨ok_times F6 Fr, PySem.W.mg_of X G a6, k6, b6⟩
  have Ov : CalX K mg l.prog w base "over" 3 ["one", "other"] (spOver Nn) f7 _ := ⟨ok_over F7 Fr, PySem.W.mg_of X G a7, k7, b7⟩
  have Ls : Cal K mg l.prog w base "less" 1 ["one", "other"] spLess f8 _ := ⟨ok_less F8, PySem.W.mg_of X G a8, k8, b8⟩
  have To : Cal K mg l.prog w base "total" 4 ["parts"] spTot f9 _ := ⟨ok_total F9 Pl, PySem.W.mg_of X G a9, k9, b9⟩
  have Mi : CalX K mg l.prog w base "minus" 3 ["one", "other"] (sp2 qMi) f5 _ := ⟨ok_minus F5 Fr, PySem.W.mg_of X G a5, k5, b5⟩
  have To2 : Cal K mg l.prog w base "total" 4 ["parts"] spTot2 f9 _ := ⟨ok_total2 F9 Pl, PySem.W.mg_of X G a9, k9, b9⟩
  have ToT : Cal K mg l.prog w base "total" 4 ["parts"] spTotT f9 _ := ⟨ok_totalT F9 Pl, PySem.W.mg_of X G a9, k9, b9⟩
  have Dr : Cal K mg l.prog w base "is_dealt_row" 3 ["thing", "goods"] spDRow f11 _ := ⟨ok_dr F11 N Z IF, PySem.W.mg_of X G a11, k11, b11⟩
  have IDl : Cal K mg l.prog w base "is_dealing" 4 ["market", "thing"] spIsDl f10 _ := ⟨ok_idl F10 N Z Dr, PySem.W.mg_of X G a10, k10, b10⟩
  have Gia : Cal K mg l.prog w base "got_in_all" 5 ["dealing", "good"] spGot f12 _ := ⟨ok_got F12 To, PySem.W.mg_of X G a12, k12, b12⟩
  have Wo : Cal K mg l.prog w base "worth_of" 5 ["wishes", "got"] spWorth f13 _ := ⟨ok_wo F13 mZip To Ti, PySem.W.mg_of X G a13, k13, b13⟩
  have Wb : Cal K mg l.prog w base "worth_by_purse" 6 ["market", "dealing", "buyer", "other"] spWbp f19 _ := ⟨ok_wb F19 Wo Ov, PySem.W.mg_of X G a19, k19, b19⟩
  have Wr : Cal K mg l.prog w base "would_rather" 7 ["market", "dealing", "buyer", "other"] spWr f18 _ := ⟨ok_wr F18 Wb Ls, PySem.W.mg_of X G a18, k18, b18⟩
  have Tm : Cal K mg l.prog w base "deals_too_much" 6 ["market", "dealing"] spTooM f17 _ := ⟨ok_tm F17 N Gia Ls, PySem.W.mg_of X G a17, k17, b17⟩
  have NdC : CalX K mg l.prog w base "need_dealing" 7 ["market", "thing"] (spNeedD Dl) f16 _ := ⟨ok_nd F16 mgDl eXDl IDl Tm, PySem.W.mg_of X G a16, k16, b16⟩
  have Ra : CalX K mg l.prog w base "rather" 8 ["market", "dealing"] (spRather Dl) f15 _ := ⟨ok_ra F15 N NdC Wr, PySem.W.mg_of X G a15, k15, b15⟩
  have Ws : Cal K mg l.prog w base "worths_of" 6 ["market", "dealing"] spWorths f14 _ := ⟨ok_ws F14 N mZip Wo, PySem.W.mg_of X G a14, k14, b14⟩
  have Ga : CalX K mg l.prog w base "gain" 8 ["market", "dealing", "other"] (spGain Dl Nn) f20 _ := ⟨ok_ga F20 mZip NdC Ws To2 ToT Ov Ti Mi, PySem.W.mg_of X G a20, k20, b20⟩
  have Bg : Cal K mg l.prog w base "_law_bag" 1 ["script", "k"] (spBag K) f21 _ := ⟨ok_bag F21 N, PySem.W.mg_of X G a21, k21, b21⟩
  have T : Cal K mg l.prog w base "_law_take" 1 ["bag", "many"] spTake f22 _ := ⟨ok_take F22, PySem.W.mg_of X G a22, k22, b22⟩
  have Lf : Cal K mg l.prog w base "_law_frac" 1 ["top", "bottom"] spFrac f23 _ := ⟨ok_frac F23 N, PySem.W.mg_of X G a23, k23, b23⟩
  have LfQ : Cal K mg l.prog w base "_law_frac" 1 ["top", "bottom"] spLf f23 _ := ⟨ok_lf F23 N, PySem.W.mg_of X G a23, k23, b23⟩
  have Lu : Cal K mg l.prog w base "_law_purse" 2 ["bag"] spPu f31 _ := ⟨ok_lpurse F31 T Lf, PySem.W.mg_of X G a31, k31, b31⟩
  have Lw : Cal K mg l.prog w base "_law_wishes" 2 ["bag", "goods"] spWi f32 _ := ⟨ok_wishes F32 N T, PySem.W.mg_of X G a32, k32, b32⟩
  have MkL : Cal K mg l.prog w base "_law_market" 3 ["bag"] spMk f33 _ := ⟨ok_market F33 N T Lu Lw, PySem.W.mg_of X G a33, k33, b33⟩
  have LmQ : Cal K mg l.prog w base "_law_mul" 2 ["one", "other"] (sp2 qTi) f26 _ := ⟨ok_law_mul F26 LfQ, PySem.W.mg_of X G a26, k26, b26⟩
  have La : Cal K mg l.prog w base "_law_add" 2 ["one", "other"] (sp2 qPl) f24 _ := ⟨ok_law_add F24 LfQ, PySem.W.mg_of X G a24, k24, b24⟩
  have Lsu : Cal K mg l.prog w base "_law_sub" 2 ["one", "other"] (sp2 qMi) f25 _ := ⟨ok_law_sub F25 LfQ, PySem.W.mg_of X G a25, k25, b25⟩
  have Su : Cal K mg l.prog w base "_law_sum" 3 ["some"] spSum f29 _ := ⟨ok_sum F29 La, PySem.W.mg_of X G a29, k29, b29⟩
  have Su2 : Cal K mg l.prog w base "_law_sum" 3 ["some"] spTot2 f29 _ := ⟨ok_sum2 F29 La, PySem.W.mg_of X G a29, k29, b29⟩
  have Ld : Cal K mg l.prog w base "_law_div" 2 ["one", "other"] spDiv f27 _ := ⟨ok_law_div F27 LfQ, PySem.W.mg_of X G a27, k27, b27⟩
  have Ll : Cal K mg l.prog w base "_law_less" 1 ["one", "other"] spLess f28 _ := ⟨ok_law_less F28, PySem.W.mg_of X G a28, k28, b28⟩
  have Lwo : Cal K mg l.prog w base "_law_worth" 4 ["wishes", "row"] spWorth f34 _ := ⟨ok_lworth F34 N Su LmQ, PySem.W.mg_of X G a34, k34, b34⟩
  have Ad : Cal K mg l.prog w base "_law_any_dealing" 2 ["bag", "market"] spAnyD f35 _ := ⟨ok_ad F35 N T LfQ, PySem.W.mg_of X G a35, k35, b35⟩
  have Li : Cal K mg l.prog w base "_law_is_fraction" 2 ["thing"] (spTs isFrac) f30 _ := ⟨ok_lisfrac F30 N Z Lf, PySem.W.mg_of X G a30, k30, b30⟩
  have LDl : Cal K mg l.prog w base "_law_is_dealing" 3 ["market", "thing"] spLIsDl f36 _ := ⟨ok_lidl F36 N Z Li, PySem.W.mg_of X G a36, k36, b36⟩
  have On : Cal K mg l.prog w base "_law_is_one" 4 ["market", "thing"] spOne f40 _ := ⟨ok_one F40 N LDl Ll Su2, PySem.W.mg_of X G a40, k40, b40⟩
  have Du : Cal K mg l.prog w base "_law_due" 5 ["market", "one", "other"] spDueG f42 _ := ⟨ok_dueG F42 N On Lwo LmQ Ld Su2 Lsu, PySem.W.mg_of X G a42, k42, b42⟩
  have Od : Cal K mg l.prog w base "_law_odd" 2 ["bag"] spOdd f37 _ := ⟨ok_odd F37 T, PySem.W.mg_of X G a37, k37, b37⟩
  have Re : Cal K mg l.prog w base "_law_replaced" 6 ["bag", "thing", "deep"] (spRep 4) f38 _ := ⟨ok_rep F38 N Z T Od (PySem.W.mg_of X G a38) k38 b38 4, PySem.W.mg_of X G a38, k38, b38⟩
  have Spo : Cal K mg l.prog w base "_law_spoilt" 7 ["bag", "market", "dealing"] spSpoilG f43 _ := ⟨ok_sp F43 N T Re, PySem.W.mg_of X G a43, k43, b43⟩
  have Ki : CalH K mg l.prog w base "_law_kinds" 1 ["e"] (spKinds K M De Bu Dl Go Mk Nn Pr Ro Tx No Un) f39 _ := ⟨ok_kinds F39 N R, PySem.W.mg_of X G a39, k39, b39⟩
  have Tr : Cal K mg l.prog w base "_law_tried" 9 ["way", "market", "one", "other"] spTriedG f41 _ := ⟨ok_tried F41 R EDl ENn Ga Ra Ki, PySem.W.mg_of X G a41, k41, b41⟩
  exact ok_law F44 N Bg T MkL Ad Spo Tr Du On
theorem walk {l : PySem.W.OpenLaw} {q : Program} {loose : List Str} {XP : (Str → Option Value) → Heap → Prop} {YP : World → Heap → Prop} {d : DefRec} {K : Params → PySem.W.Frag} (hn : l.most = some 63) (hdf : d.params.defaults = [])
    (hY : ∀ (w : World) (h : Heap), YP w h → (K w.params).In h)
    (F : ∀ (w : World) (mg : Str → Option Value) (fa : Addr) (h : Heap), (K w.params).In h → h.Ns mainGlobals mg → mg d.name = some (.ref fa) →
      ∃ fd : FuncData, (∀ (s : Shared) (u : Value), BindsTo s fd ⟨[u], []⟩ [("script", u)]) ∧ ∀ base : Heap, (K w.params).In base → base.Ns mainGlobals mg → FnOk l.prog w (K w.params) mg base CX0 10 fa fd ["script"] (spLaw (K w.params))) :
    PySem.W.WalkO q loose XP YP l.row.toRowW d [] (fun f vs => PySem.call f vs) :=
  L2.walk_of (n := 63) (k := 10) (x := "script") (CX := fun _ => CX0) (sp := fun w => spLaw (K w.params)) hn (by decide) hdf ⟨rfl, by decide, by decide⟩ hY F (fun _ _ a ns hl _ hS => ⟨a, ns, rfl, hS, hl, fun _ => rfl⟩) fun _ _ _ _ _ z => z
end K26
open PySem PySem.W PyProof.Rows
def PySem.W.Fast.tw14967050649054761553 : Nat := 0
def PySem.W.Fast.tw2204839486721537715 : Nat := 0
def PySem.W.Fast.tw13975666216291842739 : Nat := 0
def PySem.W.Fast.tw18152361707008051491 : Nat := 0
def PySem.W.Fast.tw17887466490362310708 : Nat := 0
def PySem.W.Fast.tw10514872108273669326 : Nat := 0
def PySem.W.Fast.tw4862961684058423648 : Nat := 0
def PySem.W.Fast.tw5327767341795297586 : Nat := 0
def PySem.W.Fast.tw6292581123302895046 : Nat := 0
def PySem.W.Fast.tw9393923670786006057 : Nat := 0
def PySem.W.Fast.tw3577502568562721987 : Nat := 0
def PySem.W.Fast.tw16068393734663503321 : Nat := 0
def PySem.W.Fast.tw2837002824512994785 : Nat := 0
def PySem.W.Fast.tw11692071252654813992 : Nat := 0
def PySem.W.Fast.tw4030263382950513417 : Nat := 0
def PySem.W.Fast.tw14216295960302108062 : Nat := 0
def PySem.W.Fast.tw5751084065660419541 : Nat := 0
def PySem.W.Fast.tw3347194707696863781 : Nat := 0
set_option maxRecDepth 100000 in
set_option maxHeartbeats 0 in
theorem PySem.Challenge.cw_wishmart_k26_gains_reckoned_holds : PySem.Challenge.rw_wishmart_k26_gains_reckoned.Holds := by
  w_on; o_law; k_head; (case hw => w_witness2)
  k_fill
  refine K26.walk (l := PySem.Challenge.rw_wishmart_k26_gains_reckoned) rfl rfl (fun w h Y => PySem.W.kIn_of Y) ?F
  case F =>
    intro w mg fa h KX G hmg
    refine' K26.all_mk KX G hmg ?a0 ?l0 ?c0 ?k0 ?a1 ?l1 ?c1 ?k1 ?a2 ?l2 ?c2 ?k2 ?a3 ?l3 ?c3 ?k3 ?a4 ?l4 ?c4 ?k4 ?a5 ?l5 ?c5 ?k5 ?a6 ?l6 ?c6 ?k6 ?a7 ?l7 ?c7 ?k7 ?a8 ?l8 ?c8 ?k8 ?a9 ?l9 ?c9 ?k9 ?a10 ?l10 ?c10 ?k10 ?a11 ?l11 ?c11 ?k11 ?a12 ?l12 ?c12 ?k12 ?a13 ?l13 ?c13 ?k13 ?a14 ?l14 ?c14 ?k14 ?a15 ?l15 ?c15 ?k15 ?a16 ?l16 ?c16 ?k16 ?a17 ?l17 ?c17 ?k17 ?a18 ?l18 ?c18 ?k18 ?a19 ?l19 ?c19 ?k19 ?a20 ?l20 ?c20 ?k20 ?a21 ?l21 ?c21 ?k21 ?a22 ?l22 ?c22 ?k22 ?a23 ?l23 ?c23 ?k23 ?a24 ?l24 ?c24 ?k24 ?a25 ?l25 ?c25 ?k25 ?a26 ?l26 ?c26 ?k26 ?a27 ?l27 ?c27 ?k27 ?a28 ?l28 ?c28 ?k28 ?a29 ?l29 ?c29 ?k29 ?a30 ?l30 ?c30 ?k30 ?a31 ?l31 ?c31 ?k31 ?a32 ?l32 ?c32 ?k32 ?a33 ?l33 ?c33 ?k33 ?a34 ?l34 ?c34 ?k34 ?a35 ?l35 ?c35 ?k35 ?a36 ?l36 ?c36 ?k36 ?a37 ?l37 ?c37 ?k37 ?a38 ?l38 ?c38 ?k38 ?a39 ?l39 ?c39 ?k39 ?a40 ?l40 ?c40 ?k40 ?a41 ?l41 ?c41 ?k41 ?a42 ?l42 ?c42 ?k42 ?a43 ?l43 ?c43 ?k43 ?a44 ?l44 ?c44 ?k44 ?z0 ?z1 ?z2 ?z3 ?z4 ?z5 ?z6 ?z7 ?z8 ?z9 ?z10 ?z11 ?z12 ?z13 ?z14 ?yzip ?gM ?gNn ?gMk ?gPr ?gDe ?gUn ?gBu ?gGo ?gNo ?gDl ?gTx ?gRo ?ti1 ?ti2 ?ti3 ?ti4 ?ti5 ?ti6 ?tb1 ?tb2 ?tb3 ?tb4 ?tb5 ?tb6 ?tt1 ?tt2 ?tt3 ?tt4 ?tt5 ?tt6 ?eXNn ?eXDl ?eT ?eB ?e4 ?e5 ?qDlDe ?qDlBu ?qDlDl ?qDlGo ?qDlMk ?qDlNn ?qDlPr ?qDlRo ?qDlTx ?qDlNo ?qDlUn ?qDlVa ?sDl ?uDl1 ?uDl2 ?uDl3 ?uDl6 ?uDl7 ?qNnDe ?qNnBu ?qNnDl ?qNnGo ?qNnMk ?qNnNn ?qNnPr ?qNnRo ?qNnTx ?qNnNo ?qNnUn ?qNnVa ?sNn ?uNn1 ?uNn2 ?uNn3 ?uNn6 ?uNn7
    (case a0 => k_is)
    (case l0 => k_is)
    (case c0 => k_is)
    (case k0 => k_is)
    (case a1 => k_is)
    (case l1 => k_is)
    (case c1 => k_is)
    (case k1 => k_is)
    (case a2 => k_is)
    (case l2 => k_is)
    (case c2 => k_is)
    (case k2 => k_is)
    (case a3 => k_is)
    (case l3 => k_is)
    (case c3 => k_is)
    (case k3 => k_is)
    (case a4 => k_is)
    (case l4 => k_is)
    (case c4 => k_is)
    (case k4 => k_is)
    (case a5 => k_is)
    (case l5 => k_is)
    (case c5 => k_is)
    (case k5 => k_is)
    (case a6 => k_is)
    (case l6 => k_is)
    (case c6 => k_is)
    (case k6 => k_is)
    (case a7 => k_is)
    (case l7 => k_is)
    (case c7 => k_is)
    (case k7 => k_is)
    (case a8 => k_is)
    (case l8 => k_is)
    (case c8 => k_is)
    (case k8 => k_is)
    (case a9 => k_is)
    (case l9 => k_is)
    (case c9 => k_is)
    (case k9 => k_is)
    (case a10 => k_is)
    (case l10 => k_is)
    (case c10 => k_is)
    (case k10 => k_is)
    (case a11 => k_is)
    (case l11 => k_is)
    (case c11 => k_is)
    (case k11 => k_is)
    (case a12 => k_is)
    (case l12 => k_is)
    (case c12 => k_is)
    (case k12 => k_is)
    (case a13 => k_is)
    (case l13 => k_is)
    (case c13 => k_is)
    (case k13 => k_is)
    (case a14 => k_is)
    (case l14 => k_is)
    (case c14 => k_is)
    (case k14 => k_is)
    (case a15 => k_is)
    (case l15 => k_is)
    (case c15 => k_is)
    (case k15 => k_is)
    (case a16 => k_is)
    (case l16 => k_is)
    (case c16 => k_is)
    (case k16 => k_is)
    (case a17 => k_is)
    (case l17 => k_is)
    (case c17 => k_is)
    (case k17 => k_is)
    (case a18 => k_is)
    (case l18 => k_is)
    (case c18 => k_is)
    (case k18 => k_is)
    (case a19 => k_is)
    (case l19 => k_is)
    (case c19 => k_is)
    (case k19 => k_is)
    (case a20 => k_is)
    (case l20 => k_is)
    (case c20 => k_is)
    (case k20 => k_is)
    (case a21 => k_is)
    (case l21 => k_is)
    (case c21 => k_is)
    (case k21 => k_is)
    (case a22 => k_is)
    (case l22 => k_is)
    (case c22 => k_is)
    (case k22 => k_is)
    (case a23 => k_is)
    (case l23 => k_is)
    (case c23 => k_is)
    (case k23 => k_is)
    (case a24 => k_is)
    (case l24 => k_is)
    (case c24 => k_is)
    (case k24 => k_is)
    (case a25 => k_is)
    (case l25 => k_is)
    (case c25 => k_is)
    (case k25 => k_is)
    (case a26 => k_is)
    (case l26 => k_is)
    (case c26 => k_is)
    (case k26 => k_is)
    (case a27 => k_is)
    (case l27 => k_is)
    (case c27 => k_is)
    (case k27 => k_is)
    (case a28 => k_is)
    (case l28 => k_is)
    (case c28 => k_is)
    (case k28 => k_is)
    (case a29 => k_is)
    (case l29 => k_is)
    (case c29 => k_is)
    (case k29 => k_is)
    (case a30 => k_is)
    (case l30 => k_is)
    (case c30 => k_is)
    (case k30 => k_is)
    (case a31 => k_is)
    (case l31 => k_is)
    (case c31 => k_is)
    (case k31 => k_is)
    (case a32 => k_is)
    (case l32 => k_is)
    (case c32 => k_is)
    (case k32 => k_is)
    (case a33 => k_is)
    (case l33 => k_is)
    (case c33 => k_is)
    (case k33 => k_is)
    (case a34 => k_is)
    (case l34 => k_is)
    (case c34 => k_is)
    (case k34 => k_is)
    (case a35 => k_is)
    (case l35 => k_is)
    (case c35 => k_is)
    (case k35 => k_is)
    (case a36 => k_is)
    (case l36 => k_is)
    (case c36 => k_is)
    (case k36 => k_is)
    (case a37 => k_is)
    (case l37 => k_is)
    (case c37 => k_is)
    (case k37 => k_is)
    (case a38 => k_is)
    (case l38 => k_is)
    (case c38 => k_is)
    (case k38 => k_is)
    (case a39 => k_is)
    (case l39 => k_is)
    (case c39 => k_is)
    (case k39 => k_is)
    (case a40 => k_is)
    (case l40 => k_is)
    (case c40 => k_is)
    (case k40 => k_is)
    (case a41 => k_is)
    (case l41 => k_is)
    (case c41 => k_is)
    (case k41 => k_is)
    (case a42 => k_is)
    (case l42 => k_is)
    (case c42 => k_is)
    (case k42 => k_is)
    (case a43 => k_is)
    (case l43 => k_is)
    (case c43 => k_is)
    (case k43 => k_is)
    (case a44 => k_is)
    (case l44 => k_is)
    (case c44 => k_is)
    (case k44 => k_is)
    (case z0 => k_is)
    (case z1 => k_is)
    (case z2 => k_is)
    (case z3 => k_is)
    (case z4 => k_is)
    (case z5 => k_is)
    (case z6 => k_is)
    (case z7 => k_is)
    (case z8 => k_is)
    (case z9 => k_is)
    (case z10 => k_is)
    (case z11 => k_is)
    (case z12 => k_is)
    (case z13 => k_is)
    (case z14 => k_is)
    (case yzip => k_is)
    (case gM => k_is)
    (case gNn => k_is)
    (case gMk => k_is)
    (case gPr => k_is)
    (case gDe => k_is)
    (case gUn => k_is)
    (case gBu => k_is)
    (case gGo => k_is)
    (case gNo => k_is)
    (case gDl => k_is)
    (case gTx => k_is)
    (case gRo => k_is)
    (case ti1 => first | rfl | kit_is | k_is)
    (case ti2 => first | rfl | kit_is | k_is)
    (case ti3 => first | rfl | kit_is | k_is)
    (case ti4 => first | rfl | kit_is | k_is)
    (case ti5 => first | rfl | kit_is | k_is)
    (case ti6 => first | rfl | kit_is | k_is)
    (case tb1 => first | rfl | kit_is | k_is)
    (case tb2 => first | rfl | kit_is | k_is)
    (case tb3 => first | rfl | kit_is | k_is)
    (case tb4 => first | rfl | kit_is | k_is)
    (case tb5 => first | rfl | kit_is | k_is)
    (case tb6 => first | rfl | kit_is | k_is)
    (case tt1 => first | rfl | kit_is | k_is)
    (case tt2 => first | rfl | kit_is | k_is)
    (case tt3 => first | rfl | kit_is | k_is)
    (case tt4 => first | rfl | kit_is | k_is)
    (case tt5 => first | rfl | kit_is | k_is)
    (case tt6 => first | rfl | kit_is | k_is)
    (case qDlDe => first | rfl | kit_is | k_is)
    (case qDlBu => first | rfl | kit_is | k_is)
    (case qDlDl => first | rfl | kit_is | k_is)
    (case qDlGo => first | rfl | kit_is | k_is)
    (case qDlMk => first | rfl | kit_is | k_is)
    (case qDlNn => first | rfl | kit_is | k_is)
    (case qDlPr => first | rfl | kit_is | k_is)
    (case qDlRo => first | rfl | kit_is | k_is)
    (case qDlTx => first | rfl | kit_is | k_is)
    (case qDlNo => first | rfl | kit_is | k_is)
    (case qDlUn => first | rfl | kit_is | k_is)
    (case qDlVa => first | rfl | kit_is | k_is)
    (case qNnDe => first | rfl | kit_is | k_is)
    (case qNnBu => first | rfl | kit_is | k_is)
    (case qNnDl => first | rfl | kit_is | k_is)
    (case qNnGo => first | rfl | kit_is | k_is)
    (case qNnMk => first | rfl | kit_is | k_is)
    (case qNnNn => first | rfl | kit_is | k_is)
    (case qNnPr => first | rfl | kit_is | k_is)
    (case qNnRo => first | rfl | kit_is | k_is)
    (case qNnTx => first | rfl | kit_is | k_is)
    (case qNnNo => first | rfl | kit_is | k_is)
    (case qNnUn => first | rfl | kit_is | k_is)
    (case qNnVa => first | rfl | kit_is | k_is)
    (case eXNn => first | k_is | kit_is | rfl | kernel_rfl | decide +kernel)
    (case eXDl => first | k_is | kit_is | rfl | kernel_rfl | decide +kernel)
    (case eT => first | k_is | kit_is | rfl | kernel_rfl | decide +kernel)
    (case eB => first | k_is | kit_is | rfl | kernel_rfl | decide +kernel)
    (case e4 => first | k_is | kit_is | rfl | kernel_rfl | decide +kernel)
    (case e5 => first | k_is | kit_is | rfl | kernel_rfl | decide +kernel)
    (case sDl => first | k_is | kit_is | rfl | kernel_rfl | decide +kernel)
    (case uDl1 => first | k_is | kit_is | rfl | kernel_rfl | decide +kernel)
    (case uDl2 => first | k_is | kit_is | rfl | kernel_rfl | decide +kernel)
    (case uDl3 => first | k_is | kit_is | rfl | kernel_rfl | decide +kernel)
    (case uDl6 => first | k_is | kit_is | rfl | kernel_rfl | decide +kernel)
    (case uDl7 => first | k_is | kit_is | rfl | kernel_rfl | decide +kernel)
    (case sNn => first | k_is | kit_is | rfl | kernel_rfl | decide +kernel)
    (case uNn1 => first | k_is | kit_is | rfl | kernel_rfl | decide +kernel)
    (case uNn2 => first | k_is | kit_is | rfl | kernel_rfl | decide +kernel)
    (case uNn3 => first | k_is | kit_is | rfl | kernel_rfl | decide +kernel)
    (case uNn6 => first | k_is | kit_is | rfl | kernel_rfl | decide +kernel)
    (case uNn7 => first | k_is | kit_is | rfl | kernel_rfl | decide +kernel)
