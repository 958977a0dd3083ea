import PyProof.Rows.All
import Wide.All
import OpenK.AllK
import Wide.FinOn
import Lean
import PyProof.EqAt
import PyProof.EqKinds
import PyProof.TupleCall
import KE.KMinKey
import PyProof.Rows.CallKwBuiltin
import PyProof.ListRange
import PyProof.Rows.SortWalk
import PySem.Challenge.RW_wishmart_k09_buyers_too_rich
set_option Elab.async false
set_option linter.all false
set_option maxRecDepth 100000
set_option maxHeartbeats 8000000
namespace L2
open PySem PySem.Spec PyProof.Rows
abbrev Key:=Sum Int Str
def keyIs:Key→Value→Bool
 | .inl k,v=>Value.isInt k v
 | .inr x,v=>Value.isStrOf x v
def keyH (w:World):Key→Int
 | .inl k=>hashInt k
 | .inr x=>hashStr w x
theorem jd1:∀ {k:Key} {v:Value},keyIs k v=true→(∃ i t,k=Sum.inl i∧v=Value.int i t) ∨ (∃ x t,k=Sum.inr x∧v=Value.str x t)
 | .inl i,v,h=>by
  obtain ⟨t,e⟩:=Value.isInt_shape (k:=i) (v:=v) h
  exact .inl ⟨i,t,rfl,e⟩
 | .inr x,v,h=>by
  obtain ⟨t,e⟩:=Value.isStrOf_shape (x:=x) (v:=v) h
  exact .inr ⟨x,t,rfl,e⟩
theorem keyIs_int (i:Int) (t:Tok):keyIs (.inl i) (.int i t)=true:=by simp [keyIs,Value.isInt]
theorem keyIs_str (x:Str) (t:Tok):keyIs (.inr x) (.str x t)=true:=by simp [keyIs,Value.isStrOf]
theorem key_ll (a b:Int):decide ((Sum.inl a:Key)=Sum.inl b)=(a == b):=by
 by_cases e:a=b
 ·subst e; simp
 ·have h:¬ (Sum.inl a:Key)=Sum.inl b:=fun q=>e (Sum.inl.inj q)
  rw [decide_eq_false h]
  exact (beq_eq_false_iff_ne.mpr e).symm
theorem key_rr (a b:Str):decide ((Sum.inr a:Key)=Sum.inr b)=decide (a=b):=by
 by_cases e:a=b
 ·subst e; simp
 ·have h:¬ (Sum.inr a:Key)=Sum.inr b:=fun q=>e (Sum.inr.inj q)
  rw [decide_eq_false h,decide_eq_false e]
theorem key_lr (a:Int) (b:Str):decide ((Sum.inl a:Key)=Sum.inr b)=false:=decide_eq_false (fun q=>nomatch q)
theorem key_rl (a:Str) (b:Int):decide ((Sum.inr a:Key)=Sum.inl b)=false:=decide_eq_false (fun q=>nomatch q)
def jc4 (prog:Program) (w:World):PySem.KeyKind prog w Key where
 is:=keyIs
 hash:=keyH w
 inj:=fun v a b ha hb=>by
  rcases jd1 ha with ⟨i,t,rfl,rfl⟩ | ⟨x,t,rfl,rfl⟩
  ·rcases jd1 hb with ⟨j,u,rfl,e⟩ | ⟨y,u,rfl,e⟩
   ·injection e with e1 _; rw [e1]
   ·exact nomatch e
  ·rcases jd1 hb with ⟨j,u,rfl,e⟩ | ⟨y,u,rfl,e⟩
   ·exact nomatch e
   ·injection e with e1 _; rw [e1]
 byValue:=fun k v h=>by
  rcases jd1 h with ⟨i,t,rfl,rfl⟩ | ⟨x,t,rfl,rfl⟩ <;> rfl
 pyHash:=fun hv h=>by
  rcases jd1 hv with ⟨i,t,rfl,rfl⟩ | ⟨x,t,rfl,rfl⟩
  ·exact wpAny_pyHash_int h
  ·exact wpAny_pyHash_str h
 eqBool:=fun hu hv h=>by
  rcases jd1 hu with ⟨i,t,rfl,rfl⟩ | ⟨x,t,rfl,rfl⟩
  ·rcases jd1 hv with ⟨j,u,rfl,rfl⟩ | ⟨y,u,rfl,rfl⟩
   ·rw [key_ll] at h; exact wpAny_eqBool_int h
   ·rw [key_lr] at h; exact SeqAt.EqAt.int_str i t y u _ _ _ _ h
  ·rcases jd1 hv with ⟨j,u,rfl,rfl⟩ | ⟨y,u,rfl,rfl⟩
   ·rw [key_rl] at h; exact SeqAt.EqAt.str_int x t j u _ _ _ _ h
   ·rw [key_rr] at h; exact wpAny_eqBool_str h
 «strs»:=fun k x t v h=>by
  rcases jd1 h with ⟨i,u,rfl,e⟩ | ⟨y,u,rfl,e⟩
  ·exact nomatch e
  ·injection e with e1 _
   subst e1
   cases v <;> rfl
theorem mixKind_int (prog:Program) (w:World) (i:Int) (t:Tok):(jc4 prog w).is (.inl i) (.int i t)=true:=keyIs_int i t
theorem mixKind_str (prog:Program) (w:World) (x:Str) (t:Tok):(jc4 prog w).is (.inr x) (.str x t)=true:=keyIs_str x t
end L2
namespace L2
open PySem PySem.Spec PyProof.Rows
inductive V where
 | non | bl (b:Bool) | int (i:Int) | str (x:Str) | byt (b:Array UInt8) | flt (b:UInt64) | ref (a:Addr) | ty (n:String)
 deriving DecidableEq
def RelV:V→Value→Prop
 | .non,u=>u=Value.none
 | .bl b,u=>u=Value.bool b
 | .int i,u=>∃ t,u=Value.int i t
 | .str x,u=>∃ t,u=Value.str x t
 | .byt b,u=>∃ t,u=Value.bytes b t
 | .flt b,u=>∃ t,u=Value.float b t
 | .ref a,u=>u=Value.ref a
 | .ty n,u=>u=Value.type n
abbrev Vals:List V→List Value→Prop:=Paired RelV
theorem Vals.length {xs:List V} {us:List Value} (r:Vals xs us):xs.length=us.length:=Paired.length r
theorem Vals.get:∀ {xs:List V} {us:List Value} {i:Nat} {x:V},Vals xs us→xs[i]?=some x→∃ u,us[i]?=some u∧RelV x u
 | _,_,_,_,.nil,e=>by simp at e
 | _,_,0,_,.cons r _,e=>by simp at e; subst e; exact ⟨_,rfl,r⟩
 | _,_,i + 1,x,.cons _ t,e=>by
  obtain ⟨u,h1,h2⟩:=Vals.get (i:=i) (x:=x) t (by simpa using e)
  exact ⟨u,by simpa using h1,h2⟩
theorem Vals.set {x:V} {u:Value} (r:RelV x u):∀ {xs:List V} {us:List Value} (i:Nat),Vals xs us→Vals (xs.set i x) (us.set i u)
 | _,_,_,.nil=>.nil
 | _,_,0,.cons _ t=>.cons r t
 | _,_,i + 1,.cons q t=>.cons q (Vals.set r i t)
theorem Vals.append:∀ {xs ys:List V} {us ws:List Value},Vals xs us→Vals ys ws→Vals (xs ++ ys) (us ++ ws)
 | _,_,_,_,.nil,s=>s
 | _,_,_,_,.cons r t,s=>.cons r (Vals.append t s)
theorem Vals.take:∀ {xs:List V} {us:List Value} (n:Nat),Vals xs us→Vals (xs.take n) (us.take n)
 | _,_,0,_=>.nil
 | _,_,_ + 1,.nil=>.nil
 | _,_,n + 1,.cons r t=>.cons r (Vals.take n t)
theorem Vals.drop:∀ {xs:List V} {us:List Value} (n:Nat),Vals xs us→Vals (xs.drop n) (us.drop n)
 | _,_,0,r=>r
 | _,_,_ + 1,.nil=>.nil
 | _,_,n + 1,.cons _ t=>Vals.drop n t
def RelO:Option V→Option Value→Prop
 | some v,some u=>RelV v u
 | none,none=>True
 | _,_=>False
def KV {κ : Type}:List (κ × V)→List (κ × Value)→Prop:=Paired fun (p:κ × V) (q:κ × Value)=>p.1=q.1∧RelV p.2 q.2
def kV:Key→V
 | .inl i=>.int i
 | .inr x=>.str x
inductive HO where
 | lst (xs:List V)
 | tup (xs:List V)
 | dK (kvs:List (Key × V)) | dT (kvs:List (List Key × V))
 | set (S:Int→Bool) (n:Nat)
 | ins (C dx:Addr) (fs:List (Str × V))
 | own (x:Addr)
 | xd (fs:List (Str × V))
 | met (f x:Addr)
 | rng (lo hi:Int)
 | frz (o:Obj) (u:HO)
 | tbl (ps:Array Value)
 | ext (φ : Heap→Prop)
abbrev Hp:=Addr→Option HO
def upd (H:Hp) (a:Addr) (o:HO):Hp:=fun b=>if b=a then some o else H b
theorem ja1 {H:Hp} {a:Addr} {o:HO}:upd H a o a=some o:=by unfold upd; rw [if_pos rfl]
theorem jb5 {H:Hp} {a b:Addr} {o:HO} (h:b ≠ a):upd H a o b=H b:=by unfold upd; rw [if_neg h]
theorem ne_of {H:Hp} {a b:Addr} {o u:HO} (h:H a=some o) (h':H b=some u) (d:o ≠ u):a ≠ b:=by
 intro e; subst e; rw [h] at h'; exact d (Option.some.inj h')
theorem jc2 {H:Hp} {a b:Addr} {o:HO} (h:H a=some o) (h':H b=none):a ≠ b:=by
 intro e; subst e; rw [h] at h'; cases h'
section
variable (P:Program) (w:World)
def ObjOk (H:Hp) (h:Heap) (a:Addr):HO→Prop
 | .lst xs=>xs.length ≤ sizeLine∧∃ (its:List Value) (n:Nat),Vals xs its∧h.get? a=some { cls:=.type "list",data:=.seq its.toArray n }
 | .tup xs=>xs.length ≤ sizeLine∧∃ its:List Value,Vals xs its∧IsTup h a its.toArray
 | .dK kvs=>kvs.length ≤ sizeLine∧(a == sysModules)=false∧∃ vs,KV kvs vs∧h.DictOf (jc4 P w) a vs
 | .dT kvs=>kvs.length ≤ sizeLine∧(a == sysModules)=false∧∃ xs:List (List Key × Addr × Value),
   Paired (fun (p:List Key × V) (q:List Key × Addr × Value)=>p.1=q.1∧H q.2.1=some (.tup (p.1.map kV))∧RelV p.2 q.2.2) kvs xs ∧
   ∃ o es ep,h.get? a=some o∧o.ExactDict∧o.data=.dict es ep∧es.toList=xs.map (entryOfKey (tupleKind (jc4 P w)))∧(xs.map (·.1)).Nodup
 | .set S n=>h.SetOf (intKind P w) a S n
 | .ins C dx fs=>H dx=some (.own a)∧fs.length ≤ 1000∧dx ≠ a∧h.get? a=some (PySem.W.instObj C dx) ∧
   ∃ mA,h.Ns1 dx mA∧(∀ f,RelO (fs.lookup f) (mA f))∧PySem.Within mA (fs.map (·.1))
 | .own _=>∃ o,h.get? a=some o
 | .xd fs=>∃ mA,h.Ns1 a mA∧∀ f,RelO (fs.lookup f) (mA f)
 | .rng lo hi=>∃ t u v,h.get? a=some { cls:=.type "range",data:=.fields #[.int lo t,.int hi u,.int 1 v] }
 | .frz o u=>h.get? a=some o∧ObjOk H h a u
 | .tbl ps=>h.get? a=some { cls:=.none,data:=.fields ps }
 | .met f x=>h.get? a=some (PySem.W.methodObj (.ref f) (.ref x))
 | .ext φ=>φ h∧(∃ o,h.get? a=some o)∧∀ h1 h2:Heap,φ h1→(∀ o,h1.get? a=some o→h2.get? a=some o)→φ h2
def HOk (H:Hp) (h:Heap):Prop:=∀ a o,H a=some o→ObjOk P w H h a o
end
section
variable {P:Program} {w:World} {H H':Hp} {h h':Heap} {a:Addr} {o:HO}
theorem ObjOk.lt (x:ObjOk P w H h a o):a < h.objs.size:=by
 cases o with
 | lst xs=>obtain ⟨_,_,_,_,e⟩:=x; exact Heap.lt_size e
 | tup xs=>obtain ⟨_,_,_,p⟩:=x; exact p.lt
 | dK kvs=>obtain ⟨_,_,_,_,o,_,_,e,_⟩:=x; exact Heap.lt_size e
 | dT kvs=>obtain ⟨_,_,_,_,o,_,_,e,_⟩:=x; exact Heap.lt_size e
 | set S n=>obtain ⟨o,_,_,_,e,_⟩:=x; exact Heap.lt_size e
 | ins C dx fs=>obtain ⟨_,_,_,e,_⟩:=x; exact Heap.lt_size e
 | own y=>obtain ⟨_,e⟩:=x; exact Heap.lt_size e
 | xd fs=>obtain ⟨_,⟨_,_,_,e,_⟩,_⟩:=x; exact Heap.lt_size e
 | rng lo hi=>obtain ⟨_,_,_,e⟩:=x; exact Heap.lt_size e
 | frz ob u=>obtain ⟨e,_⟩:=x; exact Heap.lt_size e
 | tbl ps=>exact Heap.lt_size (show h.get? a=some _ from x)
 | met f y=>exact Heap.lt_size (show h.get? a=some _ from x)
 | ext φ=>obtain ⟨_,⟨_,e⟩,_⟩:=x; exact Heap.lt_size e
theorem Paired.mapP {α β : Type} {F G:α→β→Prop}:∀ {l₁:List α} {l₂:List β},Paired F l₁ l₂→(∀ a b,F a b→G a b)→Paired G l₁ l₂
 | _,_,.nil,_=>.nil
 | _,_,.cons r t,f=>.cons (f _ _ r) (Paired.mapP t f)
theorem ObjOk.stay (x:ObjOk P w H h a o) (k:∀ b u,(b=a ∨ H b=some (.own a))→h.get? b=some u→h'.get? b=some u)
  (ho:∀ b,H b=some (.own a)→H' b=some (.own a)) (ht:∀ b xs,H b=some (.tup xs)→H' b=some (.tup xs)):ObjOk P w H' h' a o:=by
 induction o with
 | lst xs=>obtain ⟨z,its,n,r,e⟩:=x; exact ⟨z,its,n,r,k _ _ (.inl rfl) e⟩
 | tup xs=>obtain ⟨z,its,r,ob,e,c⟩:=x; exact ⟨z,its,r,ob,k _ _ (.inl rfl) e,c⟩
 | dK kvs=>obtain ⟨z,y,vs,r,ob,es,ep,e,c⟩:=x; exact ⟨z,y,vs,r,ob,es,ep,k _ _ (.inl rfl) e,c⟩
 | dT kvs =>
  obtain ⟨z,y,xs,r,ob,es,ep,e,c⟩:=x
  exact ⟨z,y,xs,Paired.mapP r fun p q z=>⟨z.1,ht _ _ z.2.1,z.2.2⟩,ob,es,ep,k _ _ (.inl rfl) e,c⟩
 | set S n=>obtain ⟨ob,es,ep,t,e,c⟩:=x; exact ⟨ob,es,ep,t,k _ _ (.inl rfl) e,c⟩
 | ins C dx fs =>
  obtain ⟨d,z,ne,e,mA,⟨od,es,ep,e2,c⟩,r⟩:=x
  exact ⟨ho _ d,z,ne,k _ _ (.inl rfl) e,mA,⟨od,es,ep,k _ _ (.inr d) e2,c⟩,r⟩
 | own y=>obtain ⟨ob,e⟩:=x; exact ⟨ob,k _ _ (.inl rfl) e⟩
 | xd fs=>obtain ⟨mA,⟨od,es,ep,e,c⟩,r⟩:=x; exact ⟨mA,⟨od,es,ep,k _ _ (.inl rfl) e,c⟩,r⟩
 | rng lo hi=>obtain ⟨t,u,v,e⟩:=x; exact ⟨t,u,v,k _ _ (.inl rfl) e⟩
 | frz ob u ih=>obtain ⟨e,q⟩:=x; exact ⟨k _ _ (.inl rfl) e,ih q⟩
 | tbl ps =>
  have e:h.get? a=some { cls:=.none,data:=.fields ps }:=x
  show h'.get? a=some { cls:=.none,data:=.fields ps }
  exact k a _ (.inl rfl) e
 | met f y =>
  have e:h.get? a=some (PySem.W.methodObj (.ref f) (.ref y)):=x
  show h'.get? a=some (PySem.W.methodObj (.ref f) (.ref y))
  exact k a _ (.inl rfl) e
 | ext φ=>obtain ⟨p,⟨o,e⟩,st⟩:=x; exact ⟨st _ _ p fun o q=>k _ _ (.inl rfl) q,⟨o,k _ _ (.inl rfl) e⟩,st⟩
theorem HOk.lt (x:HOk P w H h) (e:H a=some o):a < h.objs.size:=(x a o e).lt
theorem HOk.fresh (x:HOk P w H h) (e:h.objs.size ≤ a):H a=none:=by
 cases q:H a with
 | none=>rfl
 | some u=>exact absurd (Nat.lt_of_lt_of_le (x.lt q) e) (Nat.lt_irrefl _)
theorem HOk.kept (x:HOk P w H h) (k:∀ b u,h.get? b=some u→h'.get? b=some u):HOk P w H h':=fun a o e =>
 (x a o e).stay (fun b u _ q=>k b u q) (fun _ q=>q) fun _ _ q=>q
theorem HOk.laid (x:HOk P w H h) (k:∀ b u,h.get? b=some u→h'.get? b=some u) (hp:h.objs.size ≤ a) (new:ObjOk P w (upd H a o) h' a o):HOk P w (upd H a o) h':=fun b u e=>by
 have hn:=x.fresh hp
 by_cases hb:b=a
 ·subst hb; rw [ja1] at e; cases e; exact new
 ·rw [jb5 hb] at e
  exact (x b u e).stay (fun c v _ q=>k c v q) (fun c q=>by rw [jb5 (jc2 q hn)]; exact q) fun c xs q=>by rw [jb5 (jc2 q hn)]; exact q
end
def Rd (H:Hp) (a:Addr) (u:HO):Prop:=H a=some u ∨ ∃ o,H a=some (.frz o u)
theorem Rd.ok {P:Program} {w:World} {H:Hp} {h:Heap} {a:Addr} {u:HO} (r:Rd H a u) (x:HOk P w H h):ObjOk P w H h a u:=by
 rcases r with r | ⟨o,r⟩
 ·exact x a u r
 ·obtain ⟨_,q⟩:=x a _ r
  exact q
def Mut:Option HO→Prop
 | some (.lst _)=>True
 | some (.dK _)=>True
 | some (.dT _)=>True
 | some (.set _ _)=>True
 | some (.ins _ _ _)=>True
 | some (.ext _)=>True
 | _=>False
section
variable {P:Program} {w:World} {H:Hp} {h h':Heap} {x e:Addr} {o':HO}
theorem HOk.write (ok:HOk P w H h) (mu:Mut (H x)) (he:e=x ∨ H e=some (.own x)) (k:∀ b u,b ≠ e→h.get? b=some u→h'.get? b=some u) (heo:∃ u,h'.get? e=some u)
  (new:ObjOk P w (upd H x o') h' x o'):HOk P w (upd H x o') h':=fun b u q=>by
 have nown:∀ c y,H c=some (.own y)→c ≠ x:=fun c y r z=>by subst z; rw [r] at mu; exact mu
 have ntup:∀ c xs,H c=some (.tup xs)→c ≠ x:=fun c xs r z=>by subst z; rw [r] at mu; exact mu
 by_cases hb:b=x
 ·subst hb; rw [ja1] at q; cases q; exact new
 ·rw [jb5 hb] at q
  by_cases hbe:b=e
  ·have q':H b=some (.own x):=by
    rcases he with z | z
    ·exact absurd (hbe.trans z) hb
    ·rw [hbe]; exact z
   rw [q] at q'; cases q'
   obtain ⟨v,hv⟩:=heo
   exact ⟨v,by rw [hbe]; exact hv⟩
  ·refine (ok b u q).stay (fun c v hc r=>k c v ?_ r) (fun c r=>by rw [jb5 (nown c b r)]; exact r) fun c xs r=>by rw [jb5 (ntup c xs r)]; exact r
   rcases hc with rfl | hc
   ·exact hbe
   ·rintro rfl
    rcases he with z | z
    ·exact nown c b hc z
    ·rw [hc] at z; cases z; exact hb rfl
end
structure Un (fs ex:List Addr) (H H':Hp) (h h':Heap):Prop where
 keep:∀ b o,h.get? b=some o→H b=none→b ∉ fs→b ∉ ex→h'.get? b=some o
 slot:∀ b o,h.get? b=some o→H b=none→b ∈ fs→b ∉ ex→∃ sl,h'.get? b=some { o with slots:=sl }
 free:∀ b o,h.get? b=some o→H b=none→b ∉ ex→H' b=none
 there:∀ b o,h.get? b=some o→b ∉ ex→∃ o',h'.get? b=some o'
 tups:∀ b xs,H b=some (.tup xs)→H' b=some (.tup xs)
 frzs:∀ b o u,H b=some (.frz o u)→H' b=some (.frz o u)
 tbls:∀ b ps,H b=some (.tbl ps)→∃ more,H' b=some (.tbl (ps ++ more))
section
variable {fs fs' ex ex':List Addr} {H H1 H2:Hp} {h h1 h2 h':Heap} {a x e:Addr} {o:HO}
theorem Un.any (u:Un fs ex H H1 h h1) {b:Addr} {ob:Obj} (q:h.get? b=some ob) (n:H b=none) (hx:b ∉ ex):∃ sl,h1.get? b=some { ob with slots:=sl }:=by
 by_cases hb:b ∈ fs
 ·exact u.slot b ob q n hb hx
 ·exact ⟨ob.slots,u.keep b ob q n hb hx⟩
theorem Un.kept (k:∀ b u,h.get? b=some u→h'.get? b=some u):Un fs ex H H h h' :=
 ⟨fun b ob q _ _ _=>k b ob q,fun b ob q _ _ _=>⟨ob.slots,k b ob q⟩,fun _ _ _ n _=>n,fun b ob q _=>⟨ob,k b ob q⟩,fun _ _ q=>q,fun _ _ _ q=>q,fun _ ps q=>⟨#[],by rw [q]; simp⟩⟩
theorem Un.refl:Un fs ex H H h h:=Un.kept fun _ _ q=>q
theorem Un.laid (k:∀ b u,h.get? b=some u→h'.get? b=some u) (hp:h.objs.size ≤ a) (hn:H a=none):Un fs ex H (upd H a o) h h' where
 keep:=fun b u q _ _ _=>k b u q
 slot:=fun b u q _ _ _=>⟨u.slots,k b u q⟩
 free:=fun b u q n _=>by rw [jb5 (Nat.ne_of_lt (Nat.lt_of_lt_of_le (Heap.lt_size q) hp))]; exact n
 there:=fun b u q _=>⟨u,k b u q⟩
 tups:=fun b xs q=>by rw [jb5 (jc2 q hn)]; exact q
 frzs:=fun b u xs q=>by rw [jb5 (jc2 q hn)]; exact q
 tbls:=fun b ps q=>⟨#[],by rw [jb5 (jc2 q hn),q]; simp⟩
theorem Un.write (mu:Mut (H x)) (he:e=x ∨ H e=some (.own x)) (k:∀ b u,b ≠ e→h.get? b=some u→h'.get? b=some u) (heo:∃ u,h'.get? e=some u):Un fs ex H (upd H x o) h h':=by
 have hx:∀ b,H b=none→b ≠ x:=fun b n z=>by subst z; rw [n] at mu; exact mu
 have hb:∀ b,H b=none→b ≠ e:=fun b n z=>by
  subst z
  rcases he with r | r
  ·exact hx b n r
  ·rw [n] at r; cases r
 have hm:∀ b u,H b=some u→¬ Mut (some u)→b ≠ x:=fun b u q nm z=>by subst z; rw [q] at mu; exact nm mu
 refine ⟨fun b u q n _ _=>k b u (hb b n) q,fun b u q n _ _=>⟨u.slots,k b u (hb b n) q⟩,fun b u q n _=>by rw [jb5 (hx b n)]; exact n,fun b u q _=>?_,
  fun b xs q=>by rw [jb5 (hm b _ q fun z=>z)]; exact q,fun b u xs q=>by rw [jb5 (hm b _ q fun z=>z)]; exact q,fun b ps q=>⟨#[],by rw [jb5 (hm b _ q fun z=>z),q]; simp⟩⟩
 by_cases hbe:b=e
 ·subst hbe; exact heo
 ·exact ⟨u,k b u hbe q⟩
end
def trk (h:Heap) (H:Hp):List Addr:=(List.range h.objs.size).filter fun a=>(H a).isSome
def hidT (h:Heap) (H:Hp):Heap:=PySem.W.hideAll h (trk h H)
theorem hidT_size (h:Heap) (H:Hp):(hidT h H).objs.size=h.objs.size:=PySem.W.hideAll_size _ _
theorem hidT_get {h:Heap} {H:Hp} {b:Addr} {o:Obj} (e:h.get? b=some o) (n:H b=none):(hidT h H).get? b=some o :=
 PySem.W.hideAll_get _ e fun hm=>by
  have q:(H b).isSome=true:=(List.mem_filter.mp hm).2
  rw [n] at q; simp at q
theorem of_hidT {h:Heap} {H:Hp} {b:Addr} {o:Obj} (e:(hidT h H).get? b=some o):h.get? b=some o∧H b=none:=by
 have e':h.get? b=some o:=PySem.W.of_hideAll (trk h H) e
 refine ⟨e',?_⟩
 cases q:H b with
 | none=>rfl
 | some x =>
  have hm:b ∈ trk h H:=List.mem_filter.mpr ⟨List.mem_range.mpr (Heap.lt_size e'),by simp [q]⟩
  have z:(hidT h H).get? b=none:=PySem.W.hideAll_none (trk h H) hm
  rw [z] at e; cases e
end L2
namespace L2
open PySem PySem.Spec PyProof.Rows
structure Mod (K:PySem.W.Frag) (mg:Str→Option Value) (base:Heap):Prop where
 kin:K.In base
 glob:base.Ns mainGlobals mg
 blt:∃ mb,base.Ns builtinsNs mb∧∀ x:Str,x ≠ "__name__"→mb x=bootBuiltins x
 nolimit:base.NoLimit
structure Cx where
 prog:Program
 w:World
 K:PySem.W.Frag
 mg:Str→Option Value
 base:Heap
 A:Around
 N:List Str
 s₀:Shared
 H₀:Hp
 env:Env
 outer:List Env
 stack:List Env
 ex:List Addr
 fn:Str→Bool
 calm:Bool
 pn:List (Addr × Obj)
 xe:Value→Shared→Prop
def frs (l:List Env):List Addr:=l.filterMap (·.frame)
abbrev Cx.fs (X:Cx):List Addr:=frs X.outer
def Vis (sc:Scope) (x:Str):Prop:=sc.names.lookup x=some .local ∨ sc.names.lookup x=some .cell ∨ sc.names.lookup x=some .free
def Loc (sc:Scope) (x:Str):Prop:=sc.names.lookup x=some .local ∨ sc.names.lookup x=some .cell
def Look (env:Env) (h:Heap) (m:Str→Option Value) (x:Str) (u:Value):Prop :=
 (env.kindOf x=some .local∧m x=some u) ∨ ((env.kindOf x=some .cell ∨ env.kindOf x=some .free)∧∃ c,env.cells.lookup x=some c∧h.IsCell c (some u))
structure Cx.Ok (X:Cx):Prop where
 mod:Mod X.K X.mg X.base
 kind:X.env.scope.kind=.function
 glob:X.env.globals=mainGlobals
 blt:X.env.builtins=builtinsNs
 above:X.s₀.heap.objs.size ≤ X.env.locals
 inj:∀ x y c,X.env.cells.lookup x=some c→X.env.cells.lookup y=some c→x=y
 has:∀ x,(X.env.kindOf x=some .cell ∨ X.env.kindOf x=some .free)→∃ c,X.env.cells.lookup x=some c
 cab:∀ x c,X.fn x=true→X.env.cells.lookup x=some c→X.s₀.heap.objs.size ≤ c
 hd:X.calm=true→X.A.handled=none
 frames:X.A.frames=some X.stack
 stk:X.stack=X.outer ∨ (X.stack=X.env :: X.outer∧X.env.frame=some X.env.locals)
 exf:∀ b ∈ X.ex,b ≠ X.env.locals∧∀ x c,X.env.cells.lookup x=some c→c ≠ b
 bs:∀ b o,X.base.get? b=some o→X.s₀.heap.get? b=some o∧X.H₀ b=none
 bsz:X.base.objs.size ≤ X.s₀.heap.objs.size
 noex:∀ b o,X.base.get? b=some o→b ∉ X.ex
 exfs:∀ b ∈ X.ex,b ∉ X.fs
 funs:X.s₀.heap.FunFrames X.base X.outer
 frf:∀ b ∈ X.fs,X.H₀ b=none
structure Inv (X:Cx) (pins:List (Addr × Obj)) (σ:List (Option V)) (H:Hp) (s:Shared):Prop where
 ok:X.Ok
 os:s.os=X.s₀.os
 bare:AllBare s.gens
 base:Un X.fs X.ex X.H₀ H X.s₀.heap s.heap
 loc:∃ m,s.heap.Ns X.env.locals m∧∀ (i:Nat) (x:Str) (v:V),X.N[i]?=some x→σ[i]?=some (some v)→Vis X.env.scope x→∃ u,RelV v u∧Look X.env s.heap m x u
 cell:∀ x c,X.env.cells.lookup x=some c→∃ v,s.heap.IsCell c v
 free:H X.env.locals=none
 freeC:∀ x c,X.env.cells.lookup x=some c→H c=none
 pin:∀ p ∈ X.pn ++ pins,s.heap.get? p.1=some p.2∧H p.1=none∧p.1 ≠ X.env.locals∧p.1 ∉ X.fs∧∀ v,p.2.data ≠ .cell v
 hok:HOk X.prog X.w H s.heap
 len:σ.length=X.N.length
section
variable {X:Cx} {pins:List (Addr × Obj)} {σ:List (Option V)} {H H':Hp} {s:Shared} {h':Heap}
theorem Cx.Ok.nofr (ok:X.Ok) {b:Addr} {o:Obj} (e:X.base.get? b=some o):b ∉ X.fs:=fun hb=>by
 have:=(ok.funs.mem hb).1
 rw [e] at this; cases this
theorem Inv.bs (I:Inv X pins σ H s):∀ b o,X.base.get? b=some o→s.heap.get? b=some o∧H b=none:=fun b o e =>
 ⟨I.base.keep b o (I.ok.bs b o e).1 (I.ok.bs b o e).2 (I.ok.nofr e) (I.ok.noex b o e),I.base.free b o (I.ok.bs b o e).1 (I.ok.bs b o e).2 (I.ok.noex b o e)⟩
theorem Inv.bk (I:Inv X pins σ H s):∀ b o,X.base.get? b=some o→s.heap.get? b=some o:=fun b o e=>(I.bs b o e).1
theorem Inv.mod (I:Inv X pins σ H s):Mod X.K X.mg X.base:=I.ok.mod
theorem Inv.kIn (I:Inv X pins σ H s):X.K.In s.heap:=I.ok.mod.kin.keeps I.bk
theorem Inv.lt (I:Inv X pins σ H s):X.env.locals < s.heap.objs.size:=let ⟨_,hn,_⟩:=I.loc; hn.lt
theorem Inv.sz (I:Inv X pins σ H s):X.s₀.heap.objs.size ≤ s.heap.objs.size:=Nat.le_trans I.ok.above (Nat.le_of_lt I.lt)
theorem Inv.nofs (I:Inv X pins σ H s) {a:Addr} (h:s.heap.objs.size ≤ a):a ∉ X.fs:=fun hb=>by
 obtain ⟨_,o,ho,_⟩:=I.ok.funs.mem hb
 exact absurd (Nat.lt_of_lt_of_le (Heap.lt_size ho) (Nat.le_trans I.sz h)) (Nat.lt_irrefl _)
theorem Inv.cne (I:Inv X pins σ H s):∀ x c,X.env.cells.lookup x=some c→c ≠ X.env.locals:=fun x c e z=>by
 obtain ⟨v,o,ho,hd⟩:=I.cell x c e
 obtain ⟨m,⟨o',es,ep,ho',hd',_⟩,_⟩:=I.loc
 rw [z,ho'] at ho; cases ho; rw [hd'] at hd; cases hd
theorem Inv.funs (I:Inv X pins σ H s):s.heap.FunFrames X.base X.outer:=by
 have all:∀ (l:List Env),(∀ b ∈ frs l,b ∈ X.fs)→X.s₀.heap.FunFrames X.base l→s.heap.FunFrames X.base l:=by
  intro l
  induction l with
  | nil=>intro _ _; trivial
  | cons env r ih =>
   intro hs hl
   obtain ⟨hk,⟨L,o,hf,hn,ho,hd⟩,hr⟩:=hl
   have hL:L ∈ X.fs:=hs L (by unfold frs; rw [List.filterMap_cons,hf]; exact List.mem_cons_self)
   obtain ⟨sl,e⟩:=I.base.slot L o ho (I.ok.frf L hL) hL fun z=>I.ok.exfs L z hL
   exact ⟨hk,⟨L,_,hf,hn,e,hd⟩,ih (fun b hb=>hs b (by unfold frs; rw [List.filterMap_cons,hf]; exact List.mem_cons_of_mem _ hb)) hr⟩
 exact all X.outer (fun _ hb=>hb) I.ok.funs
theorem Inv.stack (I:Inv X pins σ H s):s.heap.FunFrames X.base X.stack:=by
 rcases I.ok.stk with e | ⟨e,hf⟩
 ·rw [e]; exact I.funs
 ·rw [e]
  obtain ⟨m,hn,_⟩:=I.loc
  refine .cons (by rw [I.ok.kind]; decide) hf hn ?_ I.funs
  exact Heap.get?_none_of_le (Nat.le_trans I.ok.bsz I.ok.above)
theorem Inv.stkSub (I:Inv X pins σ H s):∀ b ∈ frs X.stack,b ∈ X.env.locals :: X.fs:=fun b hb=>by
 rcases I.ok.stk with e | ⟨e,hf⟩
 ·rw [e] at hb; exact List.mem_cons_of_mem _ hb
 ·rw [e] at hb
  unfold frs at hb
  rw [List.filterMap_cons,hf] at hb
  exact hb
theorem Inv.stkFree (I:Inv X pins σ H s):∀ b ∈ frs X.stack,H b=none:=fun b hb=>by
 rcases List.mem_cons.mp (I.stkSub b hb) with e | hb
 ·rw [e]; exact I.free
 ·obtain ⟨_,o,ho,_⟩:=I.ok.funs.mem hb
  exact I.base.free b o ho (I.ok.frf b hb) fun z=>I.ok.exfs b z hb
theorem Inv.step {g':Array GenState} {t':Nat} {d':Drawn} {ch:List Addr} (I:Inv X pins σ H s)
  (hch:∀ b ∈ ch,(b ∈ X.ex ∨ X.s₀.heap.objs.size ≤ b)∧b ≠ X.env.locals∧(∀ x c,X.env.cells.lookup x=some c→c ≠ b)∧∀ p ∈ X.pn ++ pins,p.1 ≠ b)
  (keep:∀ b o,b ≠ X.env.locals→b ∉ X.fs→b ∉ ch→s.heap.get? b=some o→H b=none→h'.get? b=some o)
  (slot:∀ b o,b ≠ X.env.locals→b ∈ X.fs→b ∉ ch→s.heap.get? b=some o→H b=none→∃ sl,h'.get? b=some { o with slots:=sl }) (free:∀ b o,b ∉ ch→s.heap.get? b=some o→H b=none→H' b=none)
  (there:∀ b o,b ∉ ch→s.heap.get? b=some o→∃ o',h'.get? b=some o')
  (tups:∀ b xs,H b=some (.tup xs)→H' b=some (.tup xs)) (frzs:∀ b o u,H b=some (.frz o u)→H' b=some (.frz o u)) (tbls:∀ b ps,H b=some (.tbl ps)→∃ more,H' b=some (.tbl (ps ++ more)))
  (ns:∀ m,s.heap.Ns X.env.locals m→h'.Ns X.env.locals m) (hok:HOk X.prog X.w H' h') (hg:AllBare g') :
  Inv X pins σ H' { s with heap:=h',gens:=g',drawn:=d',toks:=t' }:=by
 have neL:∀ b o,X.s₀.heap.get? b=some o→b ≠ X.env.locals:=fun b o e=>Nat.ne_of_lt (Nat.lt_of_lt_of_le (Heap.lt_size e) I.ok.above)
 have neC:∀ b o,X.s₀.heap.get? b=some o→b ∉ X.ex→b ∉ ch:=fun b o e hx hb=>by
  rcases (hch b hb).1 with z | z
  ·exact hx z
  ·exact absurd (Nat.lt_of_lt_of_le (Heap.lt_size e) z) (Nat.lt_irrefl _)
 have cellK:∀ x c,X.env.cells.lookup x=some c→∀ v,s.heap.IsCell c v→h'.IsCell c v:=fun x c e v ⟨o,ho,hd⟩=>by
  have nch:c ∉ ch:=fun z=>(hch c z).2.2.1 x c e rfl
  by_cases hc:c ∈ X.fs
  ·obtain ⟨sl,q⟩:=slot c o (I.cne x c e) hc nch ho (I.freeC x c e)
   exact ⟨_,q,hd⟩
  ·exact ⟨o,keep c o (I.cne x c e) hc nch ho (I.freeC x c e),hd⟩
 refine ⟨I.ok,I.os,hg,⟨fun b o e n hb hx=>?_,fun b o e n hb hx=>?_,fun b o e n hx=>?_,fun b o e hx=>?_,fun b xs e=>tups b xs (I.base.tups b xs e),fun b o xs e=>frzs b o xs (I.base.frzs b o xs e),fun b ps e=>?_⟩,?_,fun x c e=>?_,?_,fun x c e=>?_,fun p hp=>?_,hok,I.len⟩
 ·exact keep b o (neL b o e) hb (neC b o e hx) (I.base.keep b o e n hb hx) (I.base.free b o e n hx)
 ·obtain ⟨sl,e1⟩:=I.base.slot b o e n hb hx
  obtain ⟨sl',e2⟩:=slot b _ (neL b o e) hb (neC b o e hx) e1 (I.base.free b o e n hx)
  exact ⟨sl',e2⟩
 ·obtain ⟨o',e1⟩:=I.base.there b o e hx
  exact free b o' (neC b o e hx) e1 (I.base.free b o e n hx)
 ·obtain ⟨o',e1⟩:=I.base.there b o e hx
  exact there b o' (neC b o e hx) e1
 ·obtain ⟨m1,e1⟩:=I.base.tbls b ps e
  obtain ⟨m2,e2⟩:=tbls b _ e1
  exact ⟨m1 ++ m2,by rw [e2,Array.append_assoc]⟩
 ·obtain ⟨m,hn,hl⟩:=I.loc
  refine ⟨m,ns m hn,fun i x v e1 e2 e3=>?_⟩
  obtain ⟨u,r,l⟩:=hl i x v e1 e2 e3
  refine ⟨u,r,?_⟩
  rcases l with l | ⟨k,c,e,z⟩
  ·exact .inl l
  ·exact .inr ⟨k,c,e,cellK x c e _ z⟩
 ·obtain ⟨v,z⟩:=I.cell x c e
  exact ⟨v,cellK x c e v z⟩
 ·obtain ⟨m,⟨o,_,_,ho,_⟩,_⟩:=I.loc
  exact free _ o (fun z=>(hch _ z).2.1 rfl) ho I.free
 ·obtain ⟨v,o,ho,hd⟩:=I.cell x c e
  exact free c o (fun z=>(hch c z).2.2.1 x c e rfl) ho (I.freeC x c e)
 ·obtain ⟨e,n,ne,nf,d⟩:=I.pin p hp
  have nch:p.1 ∉ ch:=fun z=>(hch p.1 z).2.2.2 p hp rfl
  exact ⟨keep p.1 p.2 ne nf nch e n,free p.1 p.2 nch e n,ne,nf,d⟩
theorem Inv.un {t':Nat} (I:Inv X pins σ H s) (u:Un X.fs [] H H' s.heap h') (hok:HOk X.prog X.w H' h'):Inv X pins σ H' { s with heap:=h',toks:=t' }:=by
 obtain ⟨m,⟨o,es,ep,ho,r⟩,_⟩:=id I.loc
 obtain ⟨sl,hL⟩:=u.any ho I.free (by simp)
 exact I.step (g':=s.gens) (d':=s.drawn) (ch:=[]) (fun _ z=>nomatch z) (fun b o _ hb _ e n=>u.keep b o e n hb (by simp)) (fun b o _ hb _ e n=>u.slot b o e n hb (by simp)) (fun b o _ e n=>u.free b o e n (by simp)) (fun b o _ e=>u.there b o e (by simp)) u.tups u.frzs u.tbls (fun m' hm=>by
  obtain ⟨o',es',ep',ho',r'⟩:=hm
  rw [ho] at ho'; cases ho'
  exact ⟨_,es',ep',hL,r'⟩) hok I.bare
theorem Inv.call {g':Array GenState} {t':Nat} {d':Drawn} {ch:List Addr} (I:Inv X pins σ H s) (u:Un (frs X.stack) ch H H' s.heap h') (hok:HOk X.prog X.w H' h') (hg:AllBare g')
  (hch:∀ b ∈ ch,(b ∈ X.ex ∨ X.s₀.heap.objs.size ≤ b)∧b ≠ X.env.locals∧(∀ x c,X.env.cells.lookup x=some c→c ≠ b)∧∀ p ∈ X.pn ++ pins,p.1 ≠ b) :
  Inv X pins σ H' { s with heap:=h',gens:=g',drawn:=d',toks:=t' }:=by
 obtain ⟨m,⟨o,es,ep,ho,r⟩,_⟩:=id I.loc
 obtain ⟨sl,hL⟩:=u.any ho I.free fun z=>(hch _ z).2.1 rfl
 exact I.step (ch:=ch) hch (fun b o hL hb hc e n=>u.keep b o e n (fun z=>(List.mem_cons.mp (I.stkSub b z)).elim hL hb) hc) (fun b o _ _ hc e n=>u.any e n hc) (fun b o hc e n=>u.free b o e n hc) (fun b o hc e=>u.there b o e hc) u.tups u.frzs u.tbls (fun m' hm=>by
  obtain ⟨o',es',ep',ho',r'⟩:=hm
  rw [ho] at ho'; cases ho'
  exact ⟨_,es',ep',hL,r'⟩) hok hg
theorem Inv.turned {t':Nat} {it:Addr} (I:Inv X pins σ H s) (k:∀ b o,b ≠ it→s.heap.get? b=some o→h'.get? b=some o) (hn:H it=none) (hL:it ≠ X.env.locals)
  (h1:it ∈ X.ex ∨ X.s₀.heap.objs.size ≤ it) (h2:∀ x c,X.env.cells.lookup x=some c→c ≠ it) (h3:∀ p ∈ X.pn ++ pins,p.1 ≠ it):Inv X pins σ H { s with heap:=h',toks:=t' }:=by
 have nit:∀ b u,H b=some u→b ≠ it:=fun b u e z=>by rw [z,hn] at e; cases e
 refine I.step (g':=s.gens) (d':=s.drawn) (ch:=[it]) (fun b hb=>?_) (fun b o _ _ hc e _=>k b o (fun z=>hc (by simp [z])) e) (fun b o _ _ hc e _=>⟨o.slots,k b o (fun z=>hc (by simp [z])) e⟩) (fun _ _ _ _ n=>n)
  (fun b o hc e=>⟨o,k b o (fun z=>hc (by simp [z])) e⟩) (fun _ _ e=>e) (fun _ _ _ e=>e) (fun b ps e=>⟨#[],by rw [e]; simp⟩) (fun m hm=>?_) (fun b u e=>?_) I.bare
 ·have e:b=it:=by simpa using hb
  subst e
  exact ⟨h1,hL,h2,h3⟩
 ·obtain ⟨o,es,ep,ho,r⟩:=hm
  exact ⟨o,es,ep,k _ o (Ne.symm hL) ho,r⟩
 ·refine (I.hok b u e).stay (fun c v hc q=>k c v ?_ q) (fun _ q=>q) fun _ _ q=>q
  rcases hc with z | z
  ·rw [z]; exact nit b u e
  ·exact nit c _ z
theorem Inv.tok (I:Inv X pins σ H s) (t:Nat):Inv X pins σ H { s with toks:=t }:=I.un (h':=s.heap) (t':=t) Un.refl I.hok
theorem Inv.kept {t':Nat} (I:Inv X pins σ H s) (k:∀ b u,s.heap.get? b=some u→h'.get? b=some u):Inv X pins σ H { s with heap:=h',toks:=t' }:=I.un (Un.kept k) (I.hok.kept k)
theorem Inv.laid {a:Addr} {o:HO} {t':Nat} (I:Inv X pins σ H s) (k:∀ b u,s.heap.get? b=some u→h'.get? b=some u) (hp:s.heap.objs.size ≤ a) (new:ObjOk X.prog X.w (upd H a o) h' a o) :
  Inv X pins σ (upd H a o) { s with heap:=h',toks:=t' }:=I.un (Un.laid k hp (I.hok.fresh hp)) (I.hok.laid k hp new)
theorem Inv.write {x e:Addr} {o:HO} {t':Nat} (I:Inv X pins σ H s) (mu:Mut (H x)) (he:e=x ∨ H e=some (.own x)) (k:∀ b u,b ≠ e→s.heap.get? b=some u→h'.get? b=some u) (heo:∃ u,h'.get? e=some u)
  (new:ObjOk X.prog X.w (upd H x o) h' x o):Inv X pins σ (upd H x o) { s with heap:=h',toks:=t' }:=I.un (Un.write mu he k heo) (I.hok.write mu he k heo new)
theorem Inv.pins_of {pins':List (Addr × Obj)} (I:Inv X pins σ H s) (h:∀ p ∈ pins',s.heap.get? p.1=some p.2∧H p.1=none∧p.1 ≠ X.env.locals∧p.1 ∉ X.fs∧∀ v,p.2.data ≠ .cell v):Inv X pins' σ H s :=
 ⟨I.ok,I.os,I.bare,I.base,I.loc,I.cell,I.free,I.freeC,fun p hp=>(List.mem_append.mp hp).elim (fun z=>I.pin p (List.mem_append_left _ z)) (h p),I.hok,I.len⟩
theorem nodup_ix {N:List Str} (hN:N.Nodup) {i j:Nat} {x:Str} (a:N[i]?=some x) (b:N[j]?=some x):i=j:=by
 obtain ⟨h1,e1⟩:=List.getElem?_eq_some_iff.mp a
 obtain ⟨h2,e2⟩:=List.getElem?_eq_some_iff.mp b
 exact (List.getElem_inj hN).mp (e1.trans e2.symm)
theorem store_ok2 {M:Model} {A:Around} {E:Value→Shared→Prop} {i:Nat} {x:Str} {v:V} {u:Value} {Q:Unit→Shared→Prop} (I:Inv X pins σ H s) (hN:X.N.Nodup) (hi:X.N[i]?=some x) (hx:Loc X.env.scope x) (r:RelV v u)
  (h:∀ s',Inv X pins (σ.set i (some v)) H s'→(∃ a,Heap.SameBut a s.heap s'.heap∧(a=X.env.locals ∨ X.env.cells.lookup x=some a))→Q () s') (hf:X.fn x=true ∨ X.env.scope.names.lookup x=some .local:=by first | exact .inl rfl | exact .inr rfl | assumption):wpAny M A (storeName X.env x u) Q E s:=by
 obtain ⟨m,hn,hl⟩:=id I.loc
 have hcls:(X.env.scope.kind == .class || (X.env.scope.kind == .module && X.env.locals != X.env.globals))=false:=by rw [I.ok.kind]; rfl
 have hiσ:i < σ.length:=by rw [I.len]; exact (List.getElem?_eq_some_iff.mp hi).1
 have cne:=I.cne
 have tracked:∀ {a:Addr} {h':Heap},(∃ o,s.heap.get? a=some o∧H a=none)→Heap.SameBut a s.heap h'→HOk X.prog X.w H h':=fun {a h'} ha hs b ob e=>by
  obtain ⟨_,_,hfree⟩:=ha
  refine (I.hok b ob e).stay (fun c w' hc q=>(hs.2 c ?_).trans q) (fun _ q=>q) fun _ _ q=>q
  rintro rfl
  rcases hc with rfl | hc
  ·rw [hfree] at e; cases e
  ·rw [hfree] at hc; cases hc
 rcases hx with hk | hk
 ·refine wpAny_storeName_local hk hn (fun h' hn' hs=>?_) hcls
  obtain ⟨oL,_,_,hoL,_⟩:=id hn
  refine h _ ⟨I.ok,I.os,I.bare,⟨fun b o e n hb hx=>?_,fun b o e n hb hx=>?_,I.base.free,fun b o e hx=>?_,I.base.tups,I.base.frzs,I.base.tbls⟩,⟨_,hn',fun j y v' e1 e2 e3=>?_⟩,fun y c e=>?_,I.free,I.freeC,fun p hp=>?_,tracked ⟨oL,hoL,I.free⟩ hs,by simpa using I.len⟩ ⟨_,hs,.inl rfl⟩
  ·exact (hs.2 b (Nat.ne_of_lt (Nat.lt_of_lt_of_le (Heap.lt_size e) I.ok.above))).trans (I.base.keep b o e n hb hx)
  ·obtain ⟨sl,e1⟩:=I.base.slot b o e n hb hx
   exact ⟨sl,(hs.2 b (Nat.ne_of_lt (Nat.lt_of_lt_of_le (Heap.lt_size e) I.ok.above))).trans e1⟩
  ·obtain ⟨o',e1⟩:=I.base.there b o e hx
   exact ⟨o',(hs.2 b (Nat.ne_of_lt (Nat.lt_of_lt_of_le (Heap.lt_size e) I.ok.above))).trans e1⟩
  ·by_cases hj:j=i
   ·subst hj
    rw [hi] at e1; cases e1
    rw [List.getElem?_set_self hiσ] at e2
    cases e2
    exact ⟨u,r,.inl ⟨hk,by simp⟩⟩
   ·rw [List.getElem?_set_ne (Ne.symm hj)] at e2
    obtain ⟨u',r',q⟩:=hl j y v' e1 e2 e3
    refine ⟨u',r',?_⟩
    rcases q with ⟨k,e⟩ | ⟨k,c,e,z⟩
    ·refine .inl ⟨k,?_⟩
     have:y ≠ x:=fun e=>hj (nodup_ix hN e1 (e ▸ hi))
     simp [this,e]
    ·exact .inr ⟨k,c,e,z.sameBut hs (cne y c e)⟩
  ·obtain ⟨w',z⟩:=I.cell y c e
   exact ⟨w',z.sameBut hs (cne y c e)⟩
  ·obtain ⟨e,n,ne,nf,d⟩:=I.pin p hp
   exact ⟨(hs.2 p.1 ne).trans e,n,ne,nf,d⟩
 ·have hfn:X.fn x=true:=by
   rcases hf with z | z
   ·exact z
   ·rw [z] at hk; cases hk
  obtain ⟨c,hc⟩:=I.ok.has x (.inl hk)
  obtain ⟨w',z⟩:=I.cell x c hc
  refine wpAny_storeName_cell I.ok.kind hk hc z (fun h' hc' hs=>?_)
  obtain ⟨oc,hoc,hocd⟩:=id z
  refine h { s with heap:=h' } ⟨I.ok,I.os,I.bare,⟨fun b o e n hb hx=>?_,fun b o e n hb hx=>?_,I.base.free,fun b o e hx=>?_,I.base.tups,I.base.frzs,I.base.tbls⟩,⟨m,hn.sameBut hs (Ne.symm (cne x c hc)),fun j y v' e1 e2 e3=>?_⟩,fun y c' e=>?_,I.free,I.freeC,fun p hp=>?_,tracked ⟨oc,hoc,I.freeC x c hc⟩ hs,by simpa using I.len⟩ ⟨c,hs,.inr hc⟩
  ·exact (hs.2 b (Nat.ne_of_lt (Nat.lt_of_lt_of_le (Heap.lt_size e) (I.ok.cab x c hfn hc)))).trans (I.base.keep b o e n hb hx)
  ·obtain ⟨sl,e1⟩:=I.base.slot b o e n hb hx
   exact ⟨sl,(hs.2 b (Nat.ne_of_lt (Nat.lt_of_lt_of_le (Heap.lt_size e) (I.ok.cab x c hfn hc)))).trans e1⟩
  ·obtain ⟨o',e1⟩:=I.base.there b o e hx
   exact ⟨o',(hs.2 b (Nat.ne_of_lt (Nat.lt_of_lt_of_le (Heap.lt_size e) (I.ok.cab x c hfn hc)))).trans e1⟩
  ·by_cases hj:j=i
   ·subst hj
    rw [hi] at e1; cases e1
    rw [List.getElem?_set_self hiσ] at e2
    cases e2
    exact ⟨u,r,.inr ⟨.inl hk,c,hc,hc'⟩⟩
   ·rw [List.getElem?_set_ne (Ne.symm hj)] at e2
    obtain ⟨u',r',q⟩:=hl j y v' e1 e2 e3
    refine ⟨u',r',?_⟩
    rcases q with q | ⟨k,c',e,z'⟩
    ·exact .inl q
    ·refine .inr ⟨k,c',e,z'.sameBut hs ?_⟩
     rintro rfl
     exact hj (nodup_ix hN e1 (I.ok.inj _ _ _ e hc ▸ hi))
  ·by_cases hcc:c'=c
   ·subst hcc; exact ⟨_,hc'⟩
   ·obtain ⟨w2,z2⟩:=I.cell y c' e
    exact ⟨w2,z2.sameBut hs hcc⟩
  ·obtain ⟨e,n,ne,nf,d⟩:=I.pin p hp
   refine ⟨(hs.2 p.1 ?_).trans e,n,ne,nf,d⟩
   intro q
   rw [q,hoc] at e
   have q':oc=p.2:=Option.some.inj e
   exact d w' (by rw [← q']; exact hocd)
theorem store_ok {M:Model} {A:Around} {E:Value→Shared→Prop} {i:Nat} {x:Str} {v:V} {u:Value} {Q:Unit→Shared→Prop} (I:Inv X pins σ H s) (hN:X.N.Nodup) (hi:X.N[i]?=some x) (hx:Loc X.env.scope x) (r:RelV v u)
  (h:∀ s',Inv X pins (σ.set i (some v)) H s'→Q () s') (hf:X.fn x=true ∨ X.env.scope.names.lookup x=some .local:=by first | exact .inl rfl | exact .inr rfl | assumption):wpAny M A (storeName X.env x u) Q E s :=
 store_ok2 I hN hi hx r (fun s' I' _=>h s' I') hf
theorem Inv.call' {s':Shared} {ch:List Addr} (I:Inv X pins σ H s) (ho:s'.os=s.os) (u:Un (frs X.stack) ch H H' s.heap s'.heap) (hok:HOk X.prog X.w H' s'.heap) (hg:AllBare s'.gens)
  (hch:∀ b ∈ ch,(b ∈ X.ex ∨ X.s₀.heap.objs.size ≤ b)∧b ≠ X.env.locals∧(∀ x c,X.env.cells.lookup x=some c→c ≠ b)∧∀ p ∈ X.pn ++ pins,p.1 ≠ b):Inv X pins σ H' s':=by
 obtain ⟨h',g',d',t',o'⟩:=s'
 have e:o'=s.os:=ho
 subst e
 exact I.call (g':=g') (t':=t') (d':=d') u hok hg hch
end
abbrev XK:=Value→Option Addr→Hp→Prop
abbrev St:=List (Option V)
abbrev VK:=V→Hp→Prop
abbrev TE:=St→Hp→VK→Prop
abbrev TT:=St→Hp→(Bool→Hp→Prop)→Prop
abbrev TA:=St→Hp→(List V→Hp→Prop)→Prop
structure Ends where
 nx:St→Hp→Prop
 rt:VK
 bk:St→Hp→Prop:=fun _ _=>False
 ct:St→Hp→Prop:=fun _ _=>False
abbrev TS:=Ends→St→Hp→Prop
def EP (X:Cx) (pins:List (Addr × Obj)) (σ:St) (Q:VK) (u:Value) (s':Shared):Prop:=∃ v H',Inv X pins σ H' s'∧RelV v u∧Q v H'
def TP (X:Cx) (pins:List (Addr × Obj)) (σ:St) (Q:Bool→Hp→Prop) (b:Bool) (s':Shared):Prop:=∃ H',Inv X pins σ H' s'∧Q b H'
def AP (X:Cx) (pins:List (Addr × Obj)) (σ:St) (Q:List V→Hp→Prop) (us:List Value) (s':Shared):Prop:=∃ vs H',Inv X pins σ H' s'∧Vals vs us∧Q vs H'
def SP (X:Cx) (pins:List (Addr × Obj)) (D:Ends) (f:Flow) (s':Shared):Prop :=
 match f with
 | .next=>∃ σ' H',Inv X pins σ' H' s'∧D.nx σ' H'
 | .brk=>∃ σ' H',Inv X pins σ' H' s'∧D.bk σ' H'
 | .cont=>∃ σ' H',Inv X pins σ' H' s'∧D.ct σ' H'
 | .ret u=>∃ v σ' H',Inv X pins σ' H' s'∧RelV v u∧D.rt v H'
def PE (X:Cx) (e:Expr) (t:TE):Prop :=
 ∀ (pins:List (Addr × Obj)) (s:Shared) (σ:St) (H:Hp) (Q:VK),Inv X pins σ H s→t σ H Q→wpAny (model X.prog X.w) X.A (eval e X.env) (EP X pins σ Q) X.xe s
def PT (X:Cx) (e:Expr) (t:TT):Prop :=
 ∀ (pins:List (Addr × Obj)) (s:Shared) (σ:St) (H:Hp) (Q:Bool→Hp→Prop),Inv X pins σ H s→t σ H Q→wpAny (model X.prog X.w) X.A (isTrue e X.env (eval e X.env)) (TP X pins σ Q) X.xe s
def PW (X:Cx) (e:Expr) (t:TT):Prop :=
 ∀ (whole:Sem Value) (pins:List (Addr × Obj)) (s:Shared) (σ:St) (H:Hp) (Q:Bool→Hp→Prop),Inv X pins σ H s→t σ H Q→wpAny (model X.prog X.w) X.A (isTrue e X.env whole) (TP X pins σ Q) X.xe s
theorem PW.pt {X:Cx} {e:Expr} {t:TT} (h:PW X e t):PT X e t:=h _
def PA (X:Cx) (es:List Expr) (t:TA):Prop :=
 ∀ (pos:Pos) (pins:List (Addr × Obj)) (s:Shared) (σ:St) (H:Hp) (Q:List V→Hp→Prop),Inv X pins σ H s→t σ H Q→wpAny (model X.prog X.w) X.A (spliced (backTo pos (starEach es X.env))) (AP X pins σ Q) X.xe s
def PS (X:Cx) (st:Stmt) (t:TS):Prop :=
 ∀ (pins:List (Addr × Obj)) (s:Shared) (σ:St) (H:Hp) (D:Ends),Inv X pins σ H s→t D σ H→wpAny (model X.prog X.w) X.A (exec st X.env) (SP X pins D) X.xe s
def PSs (X:Cx) (st:List Stmt) (t:TS):Prop :=
 ∀ (pins:List (Addr × Obj)) (s:Shared) (σ:St) (H:Hp) (D:Ends),Inv X pins σ H s→t D σ H→wpAny (model X.prog X.w) X.A (execs st X.env) (SP X pins D) X.xe s
theorem thn {α : Type} {t:Sem α} {Q Q':α→Shared→Prop} {M:Model} {A:Around} {E:Value→Shared→Prop} {s:Shared} (h:wpAny M A t Q E s) (hQ:∀ a s,Q a s→Q' a s):wpAny M A t Q' E s:=wpAny_mono h hQ fun _ _ x=>x
end L2
namespace L2
open PySem PySem.Spec PyProof.Rows
section
variable {X:Cx}
def tVar (i:Nat):TE:=fun σ H Q=>∃ v,σ[i]?=some (some v)∧Q v H
def tC (v:V):TE:=fun _ H Q=>Q v H
theorem pe_var {i:Nat} {x:Str} {pos:Pos} (hN:X.N[i]?=some x) (hv:Vis X.env.scope x) (hd:(x == ("__debug__" : Str))=false:=by decide) (hcd:(x == ("__classdict__" : Str))=false:=by decide):PE X (.Name x pos) (tVar i):=by
 intro pins s σ H Q I h
 obtain ⟨v,e,h⟩:=h
 obtain ⟨m,hn,hl⟩:=I.loc
 obtain ⟨u,r,l⟩:=hl i x v hN e hv
 have fin:EP X pins σ Q u s:=⟨v,H,I,r,h⟩
 rcases l with ⟨hk,hm⟩ | ⟨hk,c,hc,hcell⟩
 ·exact wpAny_Name (wpAny_loadName_local I.ok.kind hk hn hm fin) hd
 ·rcases hk with hk | hk
  ·exact wpAny_Name (wpAny_loadName_cell I.ok.kind hk hc hcell fin) hd
  ·exact wpAny_Name (wpAny_loadName_free I.ok.kind hk hc hcell fin hcd) hd
theorem ja3 {i j pos}:PE X (.Constant (.int i) j pos) (tC (.int i)):=fun _ _ _ H _ I h=>wpAny_Constant_int ⟨.int i,H,I.tok _,⟨_,rfl⟩,h⟩
theorem pe_bl {b j pos}:PE X (.Constant (.bool b) j pos) (tC (.bl b)):=fun _ _ _ H _ I h=>Constant_bool ⟨.bl b,H,I,rfl,h⟩
theorem pe_str {x j pos}:PE X (.Constant (.str x) j pos) (tC (.str x)):=fun _ _ _ H _ I h=>Calls.Constant_str ⟨.str x,H,I.tok _,⟨_,rfl⟩,h⟩
def Gl (X:Cx) (x:Str):Prop:=X.env.kindOf x=some .globalImplicit
theorem ld_glob {E:Value→Shared→Prop} {pins:List (Addr × Obj)} {s:Shared} {σ:St} {H:Hp} {x:Str} {u:Value} {pos:Pos} {Q:Value→Shared→Prop} (I:Inv X pins σ H s) (hg:Gl X x) (hm:X.mg x=some u) (h:Q u s)
  (hd:(x == ("__debug__" : Str))=false:=by decide):wpAny (model X.prog X.w) X.A (eval (.Name x pos) X.env) Q E s :=
 Calls.Name_function_global I.ok.kind hg (Calls.loadGlobal_global (by rw [I.ok.glob]; exact I.mod.glob.keeps I.bk) hm h) hd
theorem ld_blt {E:Value→Shared→Prop} {pins:List (Addr × Obj)} {s:Shared} {σ:St} {H:Hp} {x:Str} {u:Value} {pos:Pos} {Q:Value→Shared→Prop} (I:Inv X pins σ H s) (hg:Gl X x) (hm:X.mg x=none) (hv:bootBuiltins x=some u) (h:Q u s)
  (hn:x ≠ "__name__":=by decide) (hd:(x == ("__debug__" : Str))=false:=by decide):wpAny (model X.prog X.w) X.A (eval (.Name x pos) X.env) Q E s:=by
 obtain ⟨mb,h1,h2⟩:=I.mod.blt
 exact Calls.Name_function_global I.ok.kind hg (Calls.loadGlobal_builtin (by rw [I.ok.glob]; exact I.mod.glob.keeps I.bk) hm (by rw [I.ok.blt]; exact h1.keeps I.bk) ((h2 x hn).trans hv) h) hd
variable {a b:Expr} {ta tb:TE} {pos:Pos}
def tB (t:TE):TT:=fun σ H Q=>t σ H fun x H1=>∃ c,x=.bl c∧Q c H1
theorem pt_val {e:Expr} {t:TE} (h:PE X e t) (he:∀ whole,isTrue e X.env whole=(do let v ← whole; standAt e.pos; holding [v] (truthy v)):=by intro _; rfl):PT X e (tB t):=by
 intro pins s σ H Q I hw
 refine isTrue_plain (thn (h pins s σ H _ I hw) fun v s1 ⟨x,H1,I1,r1,q1⟩=>?_) (he _)
 obtain ⟨d,rfl,q⟩:=q1
 cases r1
 exact wpAny_truthy_bool ⟨H1,I1,q⟩
variable {tA tB':TT} {rest:List Expr}
def tAnd (t u:TT):TT:=fun σ H Q=>t σ H fun c H1=>if c=true then u σ H1 Q else Q false H1
def tOr (t u:TT):TT:=fun σ H Q=>t σ H fun c H1=>if c=true then Q true H1 else u σ H1 Q
def tNot (t:TT):TT:=fun σ H Q=>t σ H fun c H1=>Q (!c) H1
theorem pw_and1 (ha:PT X a tA):PW X (.BoolOp .And [a] pos) tA:=by
 intro wh pins s σ H Q I h
 refine isTrue_and (thn (ha pins s σ H Q I h) fun c s1 e=>?_)
 cases c with
 | true=>exact isTrue_and_nil e
 | false=>exact e
theorem pw_or1 (ha:PT X a tA):PW X (.BoolOp .Or [a] pos) tA:=by
 intro wh pins s σ H Q I h
 refine isTrue_or (thn (ha pins s σ H Q I h) fun c s1 e=>?_)
 cases c with
 | false=>exact isTrue_or_nil e
 | true=>exact e
theorem pw_and (ha:PT X a tA) (hb:PW X (.BoolOp .And (b :: rest) pos) tB'):PW X (.BoolOp .And (a :: b :: rest) pos) (tAnd tA tB'):=by
 intro wh pins s σ H Q I h
 refine isTrue_and (thn (ha pins s σ H _ I h) fun c s1 ⟨H1,I1,q1⟩=>?_)
 cases c with
 | true=>exact hb wh pins s1 σ H1 Q I1 q1
 | false=>exact ⟨H1,I1,q1⟩
theorem pw_or (ha:PT X a tA) (hb:PW X (.BoolOp .Or (b :: rest) pos) tB'):PW X (.BoolOp .Or (a :: b :: rest) pos) (tOr tA tB'):=by
 intro wh pins s σ H Q I h
 refine isTrue_or (thn (ha pins s σ H _ I h) fun c s1 ⟨H1,I1,q1⟩=>?_)
 cases c with
 | true=>exact ⟨H1,I1,q1⟩
 | false=>exact hb wh pins s1 σ H1 Q I1 q1
theorem pt_not (ha:PT X a tA):PT X (.UnaryOp .Not a pos) (tNot tA):=by
 intro pins s σ H Q I h
 exact isTrue_not (ha pins s σ H (fun c H1=>Q (!c) H1) I h)
def tAndV (ta tb:TE):TE:=fun σ H Q=>ta σ H fun x H1=>∃ c,x=.bl c∧if c=true then tb σ H1 Q else Q (.bl false) H1
def tNotV (ta:TE):TE:=fun σ H Q=>ta σ H fun x H1=>∃ c,x=.bl c∧Q (.bl (!c)) H1
theorem pe_one {op} {t:TE} (h:PE X a t):PE X (.BoolOp op [a] pos) t:=fun pins s σ H Q I hw=>BoolOp_one (h pins s σ H Q I hw)
theorem pe_and (ha:PE X a ta) (hb:PE X (.BoolOp .And (b :: rest) pos) tb):PE X (.BoolOp .And (a :: b :: rest) pos) (tAndV ta tb):=by
 intro pins s σ H Q I h
 refine BoolOp_and (thn (ha pins s σ H _ I h) fun v s1 ⟨x,H1,I1,r1,q1⟩=>?_)
 obtain ⟨c,rfl,q1⟩:=q1
 cases r1
 refine wpAny_truthy_bool ?_
 cases c with
 | true=>exact hb pins s1 σ H1 Q I1 q1
 | false=>exact ⟨.bl false,H1,I1,rfl,q1⟩
theorem pe_not (ha:PE X a ta):PE X (.UnaryOp .Not a pos) (tNotV ta):=by
 intro pins s σ H Q I h
 refine UnaryOp_ (thn (ha pins s σ H _ I h) fun v s1 ⟨x,H1,I1,r1,q1⟩=>?_)
 obtain ⟨c,rfl,q1⟩:=q1
 cases r1
 exact not_of (wpAny_truthy_bool ⟨.bl (!c),H1,I1,rfl,q1⟩)
def tIf (t:TT) (ta tb:TE):TE:=fun σ H Q=>t σ H fun c H1=>if c=true then ta σ H1 Q else tb σ H1 Q
theorem pe_ifExp {c:Expr} (hc:PT X c tA) (ha:PE X a ta) (hb:PE X b tb):PE X (.IfExp c a b pos) (tIf tA ta tb):=by
 intro pins s σ H Q I h
 refine wpAny_IfExp (thn (hc pins s σ H _ I h) fun d s1 ⟨H1,I1,q1⟩=>?_)
 cases d with
 | true=>exact ha pins s1 σ H1 Q I1 q1
 | false=>exact hb pins s1 σ H1 Q I1 q1
end
end L2
namespace L2
open PySem PySem.Spec PyProof.Rows
def SqL (K:PySem.W.Frag) (H:Hp) (a:Addr) (xs:List V):Prop :=
 Rd H a (.lst xs) ∨
  ∃ (o:Obj) (its:Array Value) (n:Nat),K.lookup a=some o∧o.cls=.type "list"∧o.dict=none∧o.data=.seq its n∧its.size ≤ sizeLine∧Vals xs its.toList
def SqT (K:PySem.W.Frag) (H:Hp) (a:Addr) (xs:List V):Prop :=
 Rd H a (.tup xs) ∨
  ∃ (o:Obj) (its:Array Value) (n:Nat),K.lookup a=some o∧o.cls=.type "tuple"∧o.data=.seq its n∧its.size ≤ sizeLine∧Vals xs its.toList
def absV:Value→Option V
 | .none=>some .non
 | .bool b=>some (.bl b)
 | .int i _=>some (.int i)
 | .str x _=>some (.str x)
 | .bytes b _=>some (.byt b)
 | .float b _=>some (.flt b)
 | .ref a=>some (.ref a)
 | .type n=>some (.ty n)
 | _=>none
theorem RelV.abs {x:V} {u:Value} (r:RelV x u):absV u=some x:=by
 cases x with
 | non=>cases r; rfl
 | bl _=>cases r; rfl
 | int _=>obtain ⟨t,rfl⟩:=r; rfl
 | str _=>obtain ⟨t,rfl⟩:=r; rfl
 | byt _=>obtain ⟨t,rfl⟩:=r; rfl
 | flt _=>obtain ⟨t,rfl⟩:=r; rfl
 | ref _=>cases r; rfl
 | ty _=>cases r; rfl
theorem RelV.inj {x y:V} {u:Value} (r:RelV x u) (q:RelV y u):x=y:=Option.some.inj (r.abs.symm.trans q.abs)
theorem Vals.inj:∀ {xs ys:List V} {us:List Value},Vals xs us→Vals ys us→xs=ys
 | _,_,_,.nil,.nil=>rfl
 | _,_,_,.cons r t,.cons r' t'=>by rw [r.inj r',Vals.inj t t']
section
variable {X:Cx} {pins:List (Addr × Obj)} {σ:St} {H:Hp} {s:Shared} {a:Addr} {xs ys:List V}
theorem SqL.of {K:PySem.W.Frag} (h:H a=some (.lst xs)):SqL K H a xs:=.inl (.inl h)
theorem SqT.of {K:PySem.W.Frag} (h:H a=some (.tup xs)):SqT K H a xs:=.inl (.inl h)
theorem Inv.list (I:Inv X pins σ H s) (h:SqL X.K H a xs):∃ its:List Value,Vals xs its∧PlainL s.heap a its.toArray∧xs.length ≤ sizeLine:=by
 rcases h with h | ⟨o,its,n,hk,hc,hd,hs,hz,r⟩
 ·obtain ⟨z,its,n,r,e⟩:=h.ok I.hok
  exact ⟨its,r,⟨_,n,e,rfl,rfl,rfl⟩,z⟩
 ·refine ⟨its.toList,r,⟨o,n,I.kIn a o hk,hc,hd,by simpa using hs⟩,?_⟩
  have e:=r.length
  simp only [Array.length_toList] at e
  omega
theorem Inv.tuple (I:Inv X pins σ H s) (h:SqT X.K H a xs):∃ its:List Value,Vals xs its∧IsTup s.heap a its.toArray∧xs.length ≤ sizeLine:=by
 rcases h with h | ⟨o,its,n,hk,hc,hs,hz,r⟩
 ·obtain ⟨z,its,r,p⟩:=h.ok I.hok
  exact ⟨its,r,p,z⟩
 ·refine ⟨its.toList,r,⟨o,I.kIn a o hk,hc,n,by simpa using hs⟩,?_⟩
  have e:=r.length
  simp only [Array.length_toList] at e
  omega
theorem Inv.list_inj (I:Inv X pins σ H s) (h:SqL X.K H a xs) (h':SqL X.K H a ys):xs=ys:=by
 obtain ⟨its,r,⟨o,n,e,_,_,d⟩,_⟩:=I.list h
 obtain ⟨its',r',⟨o',n',e',_,_,d'⟩,_⟩:=I.list h'
 rw [e] at e'; cases e'
 rw [d] at d'
 injection d' with d1 _
 have:its=its':=by simpa using congrArg Array.toList d1
 subst this
 exact r.inj r'
theorem Inv.tuple_inj (I:Inv X pins σ H s) (h:SqT X.K H a xs) (h':SqT X.K H a ys):xs=ys:=by
 obtain ⟨its,r,⟨o,e,_,n,d⟩,_⟩:=I.tuple h
 obtain ⟨its',r',⟨o',e',_,n',d'⟩,_⟩:=I.tuple h'
 rw [e] at e'; cases e'
 rw [d] at d'
 injection d' with d1 _
 have:its=its':=by simpa using congrArg Array.toList d1
 subst this
 exact r.inj r'
end
abbrev Cx.wish (X:Cx) (E:Value→Shared→Prop):Cx:={ X with xe:=E }
abbrev Cx.nox (X:Cx):Cx:=X.wish fun _ _=>False
theorem Cx.Ok.wish {X:Cx} (ok:X.Ok) (E:Value→Shared→Prop):(X.wish E).Ok :=
 ⟨ok.mod,ok.kind,ok.glob,ok.blt,ok.above,ok.inj,ok.has,ok.cab,ok.hd,ok.frames,ok.stk,ok.exf,ok.bs,ok.bsz,ok.noex,ok.exfs,ok.funs,ok.frf⟩
theorem Cx.Ok.unwish {X:Cx} {E:Value→Shared→Prop} (ok:(X.wish E).Ok):X.Ok :=
 ⟨ok.mod,ok.kind,ok.glob,ok.blt,ok.above,ok.inj,ok.has,ok.cab,ok.hd,ok.frames,ok.stk,ok.exf,ok.bs,ok.bsz,ok.noex,ok.exfs,ok.funs,ok.frf⟩
section
variable {X:Cx} {pins:List (Addr × Obj)} {σ:St} {H:Hp} {s:Shared} {E:Value→Shared→Prop}
theorem Inv.wish (I:Inv X pins σ H s) (E:Value→Shared→Prop):Inv (X.wish E) pins σ H s:=⟨I.ok.wish E,I.os,I.bare,I.base,I.loc,I.cell,I.free,I.freeC,I.pin,I.hok,I.len⟩
theorem Inv.unwish (I:Inv (X.wish E) pins σ H s):Inv X pins σ H s:=⟨I.ok.unwish,I.os,I.bare,I.base,I.loc,I.cell,I.free,I.freeC,I.pin,I.hok,I.len⟩
theorem SP.unwish {D:Ends} {f:Flow} {s':Shared} (h:SP (X.wish E) pins D f s'):SP X pins D f s':=by
 cases f with
 | next=>obtain ⟨σ',H',I,q⟩:=h; exact ⟨σ',H',I.unwish,q⟩
 | brk=>obtain ⟨σ',H',I,q⟩:=h; exact ⟨σ',H',I.unwish,q⟩
 | cont=>obtain ⟨σ',H',I,q⟩:=h; exact ⟨σ',H',I.unwish,q⟩
 | ret u=>obtain ⟨v,σ',H',I,r,q⟩:=h; exact ⟨v,σ',H',I.unwish,r,q⟩
theorem PSs.nox {st:List Stmt} {t:TS} (h:PSs X.nox st t):PSs X st t:=fun pins s σ H D I hw =>
 wpAny_mono (h pins s σ H D (I.wish _) hw) (fun _ _ q=>q.unwish) fun _ _ z=>False.elim z
end
section
variable {X:Cx} {st:Stmt} {rest:List Stmt} {t u:TS} {e:Expr} {te:TE} {pos:Pos}
def tNext:TS:=fun D σ H=>D.nx σ H
def tSeq (t u:TS):TS:=fun D σ H=>t { D with nx:=u D } σ H
theorem jc6:PSs X [] tNext:=fun _ _ σ H _ I h=>wpAny_execs_nil ⟨σ,H,I,h⟩
theorem ja4 (h1:PS X st t) (h2:PSs X rest u):PSs X (st :: rest) (tSeq t u):=by
 intro pins s σ H D I h
 refine wpAny_execs_cons (thn (h1 pins s σ H { D with nx:=u D } I h) fun f s1 q=>?_)
 cases f with
 | next =>
  obtain ⟨σ',H',I',q⟩:=q
  exact h2 pins s1 σ' H' D I' q
 | ret v=>exact q
 | brk=>exact q
 | cont=>exact q
theorem ja7 (h1:PS X st t):PSs X [st] t:=by
 intro pins s σ H D I h
 refine wpAny_execs_cons (thn (h1 pins s σ H D I h) fun f s1 q=>?_)
 cases f with
 | next=>exact wpAny_execs_nil q
 | ret v=>exact q
 | brk=>exact q
 | cont=>exact q
theorem Inv.quiet {pins:List (Addr × Obj)} {σ:St} {H:Hp} {s:Shared} (I:Inv X pins σ H s):interactive X.env=false:=by simp [interactive,I.ok.kind]
def tDrop (te:TE):TS:=fun D σ H=>te σ H fun _ H1=>D.nx σ H1
theorem ps_expr (he:PE X e te) (hs:swapsWith e none pos.line X.env=pure false:=by rfl):PS X (.Expr e pos) (tDrop te):=by
 intro pins s σ H D I h
 exact wpAny_Expr_any (thn (he pins s σ H _ I h) fun v s1 ⟨x,H1,I1,r1,q1⟩=>⟨σ,H1,I1,q1⟩) I.quiet hs
def tRet (te:TE):TS:=fun D σ H=>te σ H D.rt
theorem jb4 (he:PE X e te):PS X (.Return (some e) pos) (tRet te):=by
 intro pins s σ H D I h
 exact wpAny_Return_some (thn (he pins s σ H _ I h) fun v s1 ⟨x,H1,I1,r1,q1⟩=>⟨x,σ,H1,I1,r1,q1⟩)
def tIfS (c:TT) (t u:TS):TS:=fun D σ H=>c σ H fun b H1=>if b=true then t D σ H1 else u D σ H1
theorem jf1 {c:Expr} {a b:List Stmt} {tc:TT} (hc:PT X c tc) (ha:PSs X a t) (hb:PSs X b u):PS X (.If c a b pos) (tIfS tc t u):=by
 intro pins s σ H D I h
 refine wpAny_If (thn (hc pins s σ H _ I h) fun d s1 ⟨H1,I1,q1⟩=>?_)
 cases d with
 | true=>exact ha pins s1 σ H1 D I1 q1
 | false=>exact hb pins s1 σ H1 D I1 q1
end
abbrev TG:=V→St→Hp→(St→Hp→Prop)→Prop
abbrev TGs:=List V→St→Hp→(St→Hp→Prop)→Prop
def PG (X:Cx) (target:Expr) (t:TG):Prop :=
 ∀ (pins:List (Addr × Obj)) (s:Shared) (σ:St) (H:Hp) (v:V) (u:Value) (Q:St→Hp→Prop),Inv X pins σ H s→RelV v u→t v σ H Q →
  wpAny (model X.prog X.w) X.A (assign target X.env u) (fun _ s'=>∃ σ' H',Inv X pins σ' H' s'∧Q σ' H') X.xe s
def PGs (X:Cx) (ts:List Expr) (t:TGs):Prop :=
 ∀ (pins:List (Addr × Obj)) (s:Shared) (σ:St) (H:Hp) (vs:List V) (us:List Value) (Q:St→Hp→Prop),Inv X pins σ H s→Vals vs us→t vs σ H Q →
  wpAny (model X.prog X.w) X.A (assignInOrder ((assignEach ts X.env).map (·.2)) us) (fun _ s'=>∃ σ' H',Inv X pins σ' H' s'∧Q σ' H') X.xe s
abbrev TSet:=V→V→V→Hp→(Hp→Prop)→Prop
def PSet (X:Cx) (t:TSet):Prop :=
 ∀ (pins:List (Addr × Obj)) (s:Shared) (σ:St) (H:Hp) (o i v:V) (ov iv u:Value) (Q:Hp→Prop),Inv X pins σ H s→RelV o ov→RelV i iv→RelV v u→t o i v H Q →
  wpAny (model X.prog X.w) X.A (setItem ov iv u) (fun _ s'=>∃ H',Inv X pins σ H' s'∧Q H') X.xe s
section
variable {X:Cx} {pos:Pos}
def gName (i:Nat):TG:=fun v σ H Q=>Q (σ.set i (some v)) H
theorem ja8 {i:Nat} {x:Str} (hN:X.N.Nodup) (hi:X.N[i]?=some x) (hx:Loc X.env.scope x) (hf:X.fn x=true ∨ X.env.scope.names.lookup x=some .local:=by first | exact .inl rfl | exact .inr rfl | assumption):PG X (.Name x pos) (gName i):=by
 intro pins s σ H v u Q I r h
 exact wpAny_assign_Name (store_ok I hN hi hx r (fun s' I'=>⟨_,H,I',h⟩) hf)
def gNil:TGs:=fun vs σ H Q=>vs=[]∧Q σ H
def gCons (t:TG) (u:TGs):TGs:=fun vs σ H Q=>∃ v r,vs=v :: r∧t v σ H fun σ' H'=>u r σ' H' Q
theorem pgs_nil:PGs X [] gNil:=by
 intro pins s σ H vs us Q I r h
 obtain ⟨e,h⟩:=h
 subst e
 cases r
 exact assignInOrder_nil ⟨σ,H,I,h⟩
theorem jc9 {e:Expr} {es:List Expr} {t:TG} {u:TGs} (h1:PG X e t) (h2:PGs X es u)
  (hs:(assignEach (e :: es) X.env).map (·.2)=assign e X.env :: (assignEach es X.env).map (·.2):=by rfl):PGs X (e :: es) (gCons t u):=by
 intro pins s σ H vs us Q I r h
 obtain ⟨v,vr,e1,h⟩:=h
 subst e1
 cases r with
 | cons r rr =>
  rw [hs]
  refine assignInOrder_cons (thn (h1 pins s σ H _ _ _ I r h) fun _ s1 ⟨σ1,H1,I1,q1⟩=>?_)
  exact h2 pins s1 σ1 H1 _ _ Q I1 rr q1
def gTup (K:PySem.W.Frag) (n:Nat) (t:TGs):TG:=fun v σ H Q=>∃ a xs,v=.ref a∧SqT K H a xs∧xs.length=n∧t xs σ H Q
theorem pg_tup {es:List Expr} {k:Nat} {t:TGs} {n:Nat} (hc:X.calm=true) (h:PGs X es t)
  (hn:(assignEach es X.env).length=n:=by rfl) (hst:(assignEach es X.env).findIdx? (·.1)=none:=by rfl):PG X (.Tuple es k pos) (gTup X.K n t):=by
 intro pins s σ H v u Q I r hw
 obtain ⟨a,xs,e1,hq,hl,hw⟩:=hw
 subst e1
 cases r
 obtain ⟨its,rv,ht,hz⟩:=I.tuple hq
 refine assign_Tuple_tuple (I.ok.hd hc) ht (by simp [hn,← hl,rv.length]) hst fun h' hx=>?_
 have I1:Inv X pins σ H { s with heap:=h' }:=I.kept (t':=s.toks) fun b o e=>hx b o (Nat.ne_of_lt (Heap.lt_size e)) e
 exact h pins _ σ H xs _ Q I1 (by simpa using rv) hw
def gSub (to ti:TE) (t:TSet):TG:=fun v σ H Q=>to σ H fun o H1=>ti σ H1 fun i H2=>t o i v H2 fun H3=>Q σ H3
theorem pg_sub {o i:Expr} {to ti:TE} {t:TSet} (ho:PE X o to) (hi:PE X i ti) (hs:PSet X t)
  (ha:∀ v,assign (.Subscript o i pos) X.env v=(do
   let ov ← holding [v] (eval o X.env)
   let iv ← holding [v,ov] (eval i X.env)
   standAt pos
   holding [v,ov,iv] (setItem ov iv v)
   release [v,ov,iv] []):=by intro _; rfl):PG X (.Subscript o i pos) (gSub to ti t):=by
 intro pins s σ H v u Q I r h
 rw [ha]
 refine wpAny_bind (wpAny_holding (thn (ho pins s σ H _ I h) fun ov s1 ⟨x,H1,I1,r1,q1⟩=>?_))
 refine wpAny_bind (wpAny_holding (thn (hi pins s1 σ H1 _ I1 q1) fun iv s2 ⟨y,H2,I2,r2,q2⟩=>?_))
 refine wpAny_bind (wpAny_standAt (wpAny_bind (wpAny_holding (thn (hs pins s2 σ H2 x y v ov iv u _ I2 r1 r2 r q2) fun _ s3 ⟨H3,I3,q3⟩=>?_))))
 exact wpAny_release ⟨σ,H3,I3,q3⟩
def tAsg (te:TE) (g:TG):TS:=fun D σ H=>te σ H fun x H1=>g x σ H1 D.nx
theorem ps_asg {tg e:Expr} {te:TE} {g:TG} (he:PE X e te) (hg:PG X tg g) (hs:swapsWithSole [tg] e pos.line X.env=pure false:=by rfl) (hw:swappedStores [tg] e X.env=pure none:=by rfl)
  (h1:(assignEach [tg] X.env).map (·.2)=[assign tg X.env]:=by rfl):PS X (.Assign [tg] e pos) (tAsg te g):=by
 intro pins s σ H D I h
 refine wpAny_Assign_stores (thn (he pins s σ H _ I h) fun v s1 ⟨x,H1,I1,r1,q1⟩=>?_) hs hw
 rw [h1]
 exact thn (hg pins s1 σ H1 x v _ I1 r1 q1) fun _ s2 q=>q
theorem jb1 {i:Nat} {x:Str} {e:Expr} {te:TE} {pos':Pos} (hN:X.N.Nodup) (hi:X.N[i]?=some x) (hx:Loc X.env.scope x) (he:PE X e te) (hs:swapsWith e (some (.Name x pos')) pos.line X.env=pure false:=by rfl) (hf:X.fn x=true ∨ X.env.scope.names.lookup x=some .local:=by first | exact .inl rfl | exact .inr rfl | assumption) :
  PS X (.Assign [.Name x pos'] e pos) (tAsg te (gName i)):=by
 intro pins s σ H D I h
 refine wpAny_Assign_Name (thn (he pins s σ H _ I h) fun v s1 ⟨y,H1,I1,r1,q1⟩=>?_) hs
 exact store_ok I1 hN hi hx r1 (fun s2 I2=>⟨_,H1,I2,q1⟩) hf
def tPar (i j:Nat) (ta:TA):TS:=fun D σ H=>ta σ H fun vs H1=>∃ v w,vs=[v,w]∧D.nx ((σ.set i (some v)).set j (some w)) H1
theorem ps_par {i j:Nat} {x y:Str} {a b:Expr} {ta:TA} {px py pt:Pos} {kt k2 pt2} (hc:X.calm=true) (hN:X.N.Nodup) (hi:X.N[i]?=some x) (hj:X.N[j]?=some y) (hij:i ≠ j)
  (hx:X.env.scope.names.lookup x=some .local) (hy:X.env.scope.names.lookup y=some .local) (ha:PA X [a,b] ta)
  (hw:swappedStores [.Tuple [.Name x px,.Name y py] kt pt] (.Tuple [a,b] k2 pt2) X.env=pure (some [x,y]))
  (hs:swapsWithSole [.Tuple [.Name x px,.Name y py] kt pt] (.Tuple [a,b] k2 pt2) pos.line X.env=pure false:=by rfl) :
  PS X (.Assign [.Tuple [.Name x px,.Name y py] kt pt] (.Tuple [a,b] k2 pt2) pos) (tPar i j ta):=by
 intro pins s σ H D I h
 rw [exec_Assign_arm]
 refine wpAny_bind (wpAny_standAt ?_)
 rw [hs]
 refine wpAny_bind (wpAny_pure ?_)
 rw [if_neg (by decide)]
 refine wpAny_bind (Tuple_ (thn (ha _ pins s σ H _ I h) fun us s1 ⟨vs,H1,I1,r1,q1⟩=>?_))
 obtain ⟨v,w,e1,q1⟩:=q1
 subst e1
 obtain ⟨u1,u2,rfl,rv,rw'⟩:∃ u1 u2,us=[u1,u2]∧RelV v u1∧RelV w u2:=by
  cases r1 with
  | cons p q =>
   cases q with
   | cons p' q' =>
    cases q'
    exact ⟨_,_,rfl,p,p'⟩
 refine wpAny_newObj_type ?_ (by show 2 ≤ sizeLine; decide)
 have I2:Inv X pins σ H1 { s1 with heap:=s1.heap.push { cls:=.type "tuple",data:=.seq [u1,u2].toArray } }:=I1.kept (t':=s1.toks) fun b o e=>Heap.get?_push_of_some _ e
 rw [hw]
 refine wpAny_bind (wpAny_pure ?_)
 show wpAny (model X.prog X.w) X.A (do rule "assign.swapped-stores"; let items ← unpackItems (.ref s1.heap.objs.size) 2 none; assignInOrder [fun v=>bindName X.env y v,fun v=>bindName X.env x v] items.reverse; pure Flow.next) _ _ _
 refine wpAny_bind (wpAny_rule (wpAny_bind (unpackItems_tuple (items:=#[u1,u2]) (I.ok.hd hc) (IsTup.new s1.heap _) fun h' hx'=>?_)))
 have I3:=I2.kept (h':=h') (t':=s1.toks) fun b o e=>hx' b o (Nat.ne_of_lt (Heap.lt_size e)) e
 show wpAny _ _ (assignInOrder [fun v=>bindName X.env y v,fun v=>bindName X.env x v] [u2,u1] >>= fun _=>pure Flow.next) _ _ _
 refine wpAny_bind (assignInOrder_cons (wpAny_bindName (store_ok I3 hN hj (.inl hy) rw' (fun s2 I4=>?_) (.inr hy))))
 refine assignInOrder_cons (wpAny_bindName (store_ok I4 hN hi (.inl hx) rv (fun s3 I5=>assignInOrder_nil (wpAny_pure ?_)) (.inr hx)))
 rw [List.set_comm _ _ (Ne.symm hij)] at I5
 exact ⟨_,H1,I5,q1⟩
end
section
variable {X:Cx} {pos:Pos}
def tWhile (c:TT) (tb:TS):TS:=fun D σ H=>∃ W:Nat→St→Hp→Prop,(∃ m,W m σ H)∧∀ m σ H,W m σ H →
 c σ H fun b H1=>if b=true then ∃ N:St→Hp→Prop,(∀ σ' H',N σ' H'→∃ m',m' < m∧W m' σ' H')∧tb { D with nx:=N,ct:=N,bk:=D.nx } σ H1 else D.nx σ H1
theorem ps_while {c:Expr} {body:List Stmt} {tc:TT} {tb:TS} (hp:PassesOwn (model X.prog X.w) X.A X.env X.xe) (hc:PT X c tc) (hb:PSs X body tb):PS X (.While c body [] pos) (tWhile tc tb):=by
 intro pins s σ H D I h
 obtain ⟨W,⟨m0,w0⟩,turn⟩:=h
 refine wpAny_While (codeAny_whileLoop (fun n s'=>∃ σ' H',Inv X pins σ' H' s'∧W n σ' H') ?_ m0 ⟨σ,H,I,w0⟩)
 rintro n s1 ⟨σ1,H1,I1,w1⟩
 refine wpAny_passesOwn hp (thn (hc pins s1 σ1 H1 _ I1 (turn n σ1 H1 w1)) fun b s2 ⟨H2,I2,q2⟩=>?_)
 cases b with
 | true =>
  obtain ⟨N,hN,q2⟩:=q2
  rw [if_pos rfl]
  refine wpAny_passesOwn hp (thn (hb pins s2 σ1 H2 _ I2 q2) fun f s3 q3=>?_)
  cases f with
  | next =>
   obtain ⟨σ3,H3,I3,n3⟩:=q3
   obtain ⟨m',hm,w3⟩:=hN σ3 H3 n3
   exact ⟨m',hm,σ3,H3,I3,w3⟩
  | cont =>
   obtain ⟨σ3,H3,I3,n3⟩:=q3
   obtain ⟨m',hm,w3⟩:=hN σ3 H3 n3
   exact ⟨m',hm,σ3,H3,I3,w3⟩
  | brk=>exact q3
  | ret v=>exact q3
 | false =>
  rw [if_neg Bool.false_ne_true]
  exact wpAny_execs_nil ⟨σ1,H2,I2,q2⟩
end
structure It where
 go:Nat→Hp→Prop
 yld:Nat→Hp→V→Hp→Prop
 stop:Nat→Hp→Prop
def FpOk (X:Cx) (pins:List (Addr × Obj)) (H:Hp) (b:Addr):Prop :=
 H b=none∧b ≠ X.env.locals∧b ∉ X.fs∧(b ∈ X.ex ∨ X.s₀.heap.objs.size ≤ b)∧(∀ x c,X.env.cells.lookup x=some c→c ≠ b)∧∀ p ∈ X.pn ++ pins,p.1 ≠ b
theorem Inv.fpOk {X:Cx} {pins:List (Addr × Obj)} {σ:St} {H H':Hp} {s:Shared} {b:Addr} (I:Inv X pins σ H s) (hb:s.heap.objs.size ≤ b) (hn:H' b=none):FpOk X pins H' b:=by
 refine ⟨hn,Nat.ne_of_gt (Nat.lt_of_lt_of_le I.lt hb),I.nofs hb,.inr (Nat.le_trans I.sz hb),fun x c e z=>?_,fun p hp z=>?_⟩
 ·obtain ⟨v,q⟩:=I.cell x c e
  exact absurd (Nat.lt_of_lt_of_le q.lt (by rw [z]; exact hb)) (Nat.lt_irrefl _)
 ·exact absurd (Nat.lt_of_lt_of_le (Heap.lt_size (I.pin p hp).1) (by rw [z]; exact hb)) (Nat.lt_irrefl _)
structure Turn (P:Program) (w:World) (K:PySem.W.Frag) (tg:Expr) (J:It) (fp:List Addr) (it:Addr) (tn:Nat→Heap→Prop):Prop where
 mem:it ∈ fp
 obj:∀ i h,tn i h→∀ b ∈ fp,∃ o,h.get? b=some o∧∀ v,o.data ≠ .cell v
 keep:∀ i h h',tn i h→(∀ b ∈ fp,∀ o,h.get? b=some o→h'.get? b=some o)→tn i h'
 item:∀ (X:Cx),X.prog=P→X.w=w→X.K=K→X.calm=true→∀ (i:Nat) (pins:List (Addr × Obj)) (s:Shared) (σ:St) (H:Hp) (E:Value→Shared→Prop),Inv X pins σ H s→(∀ b ∈ fp,FpOk X pins H b)→tn i s.heap→J.go i H →
  wpAny (model P w) X.A (pyNext (.ref it)) (fun r s1=>∃ u,r=some u ∧
   wpAny (model P w) X.A (letOwnedTupleGo tg (.ref it) u) (fun _ s2=>∃ x H',Inv X pins σ H' s2∧RelV x u∧J.yld i H x H'∧tn (i + 1) s2.heap∧∀ b ∈ fp,H' b=none) E s1) E s
 done:∀ (X:Cx),X.prog=P→X.w=w→X.K=K→X.calm=true→∀ (i:Nat) (pins:List (Addr × Obj)) (s:Shared) (σ:St) (H:Hp) (E:Value→Shared→Prop),Inv X pins σ H s→(∀ b ∈ fp,FpOk X pins H b)→tn i s.heap→J.stop i H →
  wpAny (model P w) X.A (pyNext (.ref it)) (fun r s1=>r=none∧Inv X pins σ H s1) E s
 self:∀ (A:Around) (i:Nat) (s:Shared) (Q:Value→Shared→Prop) (E:Value→Shared→Prop),tn i s.heap→Q (.ref it) s→wpAny (model P w) A (pyIter (.ref it)) Q E s
abbrev TI:=St→Hp→(It→Hp→Prop)→Prop
def PIE (X:Cx) (pins:List (Addr × Obj)) (σ:St) (tg:Expr) (R:It→Hp→Prop) (itv:Value) (s2:Shared):Prop :=
 ∃ (it:Addr) (fp:List Addr) (tn:Nat→Heap→Prop) (J:It) (H':Hp),itv=.ref it∧Inv X pins σ H' s2∧Turn X.prog X.w X.K tg J fp it tn∧tn 0 s2.heap∧(∀ b ∈ fp,FpOk X pins H' b)∧R J H'
def PI (X:Cx) (tg iter:Expr) (wi:TI):Prop :=
 ∀ (pins:List (Addr × Obj)) (s:Shared) (σ:St) (H:Hp) (R:It→Hp→Prop),Inv X pins σ H s→wi σ H R →
  wpAny (model X.prog X.w) X.A (eval iter X.env) (fun v s1=>wpAny (model X.prog X.w) X.A (pyIter v) (PIE X pins σ tg R) X.xe s1) X.xe s
theorem go_of {M:Model} {A:Around} {E:Value→Shared→Prop} {s:Shared} {tg:Expr} {it:Addr} {u:Value} {o:Obj} {n:String} {vs:Array Value} {Q:Unit→Shared→Prop} (ho:s.heap.get? it=some o) (hc:o.cls=.type n) (hd:o.data=.fields vs)
  (hn:["enumerate","zip","dict_itemiterator","dict_reverseitemiterator","odict_iterator","itertools.zip_longest","itertools.pairwise"].contains n=false) (hQ:Q () s):wpAny M A (letOwnedTupleGo tg (.ref it) u) Q E s:=by
 unfold letOwnedTupleGo
 cases tg <;> first
  | exact wpAny_pure hQ
  | (cases u <;> first
    | exact wpAny_pure hQ
    | (refine wpAny_bind (wpAny_load ho ?_); rw [hc,hd]; show wpAny M A (if (["enumerate","zip","dict_itemiterator","dict_reverseitemiterator","odict_iterator","itertools.zip_longest","itertools.pairwise"].contains n && vs[0]? == some (rawInt _))=true then _ else _) Q E s; rw [if_neg (by intro h; rw [hn,Bool.false_and] at h; cases h)]; exact wpAny_pure hQ))
def Itl (K:PySem.W.Frag) (a:Addr):It :=
 ⟨fun i H=>∃ xs x,SqL K H a xs∧xs[i]?=some x,fun i H x H'=>H'=H∧∀ xs,SqL K H a xs→xs[i]?=some x,fun i H=>∃ xs,SqL K H a xs∧xs.length ≤ i⟩
def Itt (K:PySem.W.Frag) (a:Addr):It :=
 ⟨fun i H=>∃ xs x,SqT K H a xs∧xs[i]?=some x,fun i H x H'=>H'=H∧∀ xs,SqT K H a xs→xs[i]?=some x,fun i H=>∃ xs,SqT K H a xs∧xs.length ≤ i⟩
def Itr (lo:Int) (n:Nat):It:=⟨fun i _=>i < n,fun i H x H'=>H'=H∧x=.int (lo + i),fun i _=>n ≤ i⟩
theorem turn_list {P:Program} {w:World} {K:PySem.W.Frag} {tg:Expr} (a it:Addr):Turn P w K tg (Itl K a) [it] it (fun i h=>h.IsListIter it a i) where
 mem:=by simp
 obj:=fun i h st b hb=>by
  have e:b=it:=by simpa using hb
  subst e
  obtain ⟨o,e,c,d⟩:=st
  exact ⟨o,e,fun v z=>by rw [d] at z; cases z⟩
 keep:=fun i h h' st k=>st.at fun o e=>k it (by simp) o e
 item:=by
  intro X hP hw hK hc i pins s σ H E I hf st hg
  subst hP hw hK
  obtain ⟨xs,x,hq,hx⟩:=hg
  obtain ⟨its,rv,p,hz⟩:=I.list hq
  obtain ⟨u,hu,ru⟩:=rv.get hx
  obtain ⟨f0,f1,f2,f3,f4,f5⟩:=hf it (by simp)
  refine wpAny_pyNext_list_item st p.isList (x:=u) (by simpa using hu) fun h' st' sb=>?_
  have I1:Inv X pins σ H { s with heap:=h' }:=I.turned (t':=s.toks) (fun b o hb e=>(sb.2 b hb).trans e) f0 f1 f3 f4 f5
  obtain ⟨o,e,c,d⟩:=id st'
  exact ⟨u,rfl,go_of (s:={ s with heap:=h' }) e c d (by decide) ⟨x,H,I1,ru,⟨rfl,fun ys hy=>by rw [I.list_inj hy hq]; exact hx⟩,st',fun b hb=>(hf b hb).1⟩⟩
 done:=by
  intro X hP hw hK hc i pins s σ H E I hf st hg
  subst hP hw hK
  obtain ⟨xs,hq,hx⟩:=hg
  obtain ⟨its,rv,p,hz⟩:=I.list hq
  obtain ⟨f0,f1,f2,f3,f4,f5⟩:=hf it (by simp)
  have hl:=rv.length
  exact wpAny_pyNext_list_end (I.ok.hd hc) st p.isList (by simp; omega) fun h' eb=>⟨rfl,I.turned (t':=s.toks) (fun b o hb e=>eb b o hb e) f0 f1 f3 f4 f5⟩
 self:=fun _ _ _ _ _ st h=>wpAny_pyIter_listiter st h
theorem turn_tuple {P:Program} {w:World} {K:PySem.W.Frag} {tg:Expr} (a it:Addr):Turn P w K tg (Itt K a) [it] it (fun i h=>h.IsTupleIter it a i) where
 mem:=by simp
 obj:=fun i h st b hb=>by
  have e:b=it:=by simpa using hb
  subst e
  obtain ⟨o,e,c,d⟩:=st
  exact ⟨o,e,fun v z=>by rw [d] at z; cases z⟩
 keep:=fun i h h' st k=>st.at fun o e=>k it (by simp) o e
 item:=by
  intro X hP hw hK hc i pins s σ H E I hf st hg
  subst hP hw hK
  obtain ⟨xs,x,hq,hx⟩:=hg
  obtain ⟨its,rv,p,hz⟩:=I.tuple hq
  obtain ⟨u,hu,ru⟩:=rv.get hx
  obtain ⟨f0,f1,f2,f3,f4,f5⟩:=hf it (by simp)
  refine wpAny_pyNext_tuple_item st (show s.heap.IsTuple a its.toArray from p) (x:=u) (by simpa using hu) fun h' st' sb=>?_
  have I1:Inv X pins σ H { s with heap:=h' }:=I.turned (t':=s.toks) (fun b o hb e=>(sb.2 b hb).trans e) f0 f1 f3 f4 f5
  obtain ⟨o,e,c,d⟩:=id st'
  exact ⟨u,rfl,go_of (s:={ s with heap:=h' }) e c d (by decide) ⟨x,H,I1,ru,⟨rfl,fun ys hy=>by rw [I.tuple_inj hy hq]; exact hx⟩,st',fun b hb=>(hf b hb).1⟩⟩
 done:=by
  intro X hP hw hK hc i pins s σ H E I hf st hg
  subst hP hw hK
  obtain ⟨xs,hq,hx⟩:=hg
  obtain ⟨its,rv,p,hz⟩:=I.tuple hq
  obtain ⟨f0,f1,f2,f3,f4,f5⟩:=hf it (by simp)
  have hl:=rv.length
  exact wpAny_pyNext_tuple_end (I.ok.hd hc) st (show s.heap.IsTuple a its.toArray from p) (by simp; omega) fun h' eb=>⟨rfl,I.turned (t':=s.toks) (fun b o hb e=>eb b o hb e) f0 f1 f3 f4 f5⟩
 self:=fun _ _ _ _ _ st h=>wpAny_pyIter_tupleiter st h
theorem turn_range {P:Program} {w:World} {K:PySem.W.Frag} {tg:Expr} (it:Addr) (lo:Int) (n:Nat):Turn P w K tg (Itr lo n) [it] it (fun i h=>IsRangeIter h it (lo + (i:Nat) * 1) ((n:Int) - (i:Nat)) 1) where
 mem:=by simp
 obj:=fun i h st b hb=>by
  have e:b=it:=by simpa using hb
  subst e
  exact ⟨_,st,fun v z=>by
   have z':Data.fields _=Data.cell v:=z
   cases z'⟩
 keep:=fun i h h' st k=>k it (by simp) _ st
 item:=by
  intro X hP hw hK hc i pins s σ H E I hf st hg
  subst hP hw hK
  obtain ⟨f0,f1,f2,f3,f4,f5⟩:=hf it (by simp)
  have W:=Walks.range (prog:=X.prog) (w:=X.w) (I.ok.hd hc) it lo 1 n
  refine W.item i s _ _ hg st fun v h' tk hv st' kk=>?_
  obtain ⟨t,rfl⟩:=hv
  have I1:Inv X pins σ H { s with heap:=h',toks:=tk }:=I.turned (fun b o hb e=>kk b o (by simpa using hb) e) f0 f1 f3 f4 f5
  refine ⟨_,rfl,go_of (s:={ s with heap:=h',toks:=tk }) (n:="range_iterator") st' rfl rfl (by decide) ⟨.int (lo + i),H,I1,⟨t,?_⟩,⟨rfl,rfl⟩,st',fun b hb=>(hf b hb).1⟩⟩
  rw [Int.mul_one]
 done:=by
  intro X hP hw hK hc i pins s σ H E I hf st hg
  subst hP hw hK
  obtain ⟨f0,f1,f2,f3,f4,f5⟩:=hf it (by simp)
  exact wpAny_pyNext_range_end (I.ok.hd hc) st (by have:n ≤ i:=hg; omega) fun h' eb=>⟨rfl,I.turned (t':=s.toks) (fun b o hb e=>eb b o hb e) f0 f1 f3 f4 f5⟩
 self:=fun _ _ _ _ _ st h=>wpAny_pyIter_rangeiter st h
end L2
namespace L2
open PySem PySem.Spec PyProof.Rows
section
variable {X:Cx} {tg:Expr}
def iList (K:PySem.W.Frag) (tl:TE):TI:=fun σ H R=>tl σ H fun x H1=>∃ a,x=.ref a∧(∃ xs,SqL K H1 a xs)∧R (Itl K a) H1
def iTup (K:PySem.W.Frag) (tl:TE):TI:=fun σ H R=>tl σ H fun x H1=>∃ a,x=.ref a∧(∃ xs,SqT K H1 a xs)∧R (Itt K a) H1
theorem range_it {pins:List (Addr × Obj)} {σ:St} {H:Hp} {s:Shared} {R:It→Hp→Prop} {E:Value→Shared→Prop} {lo hi:Int} {t u v:Tok} {tk:Nat} (I:Inv X pins σ H s) (h1:-(2 ^ 62) ≤ lo) (h2:lo < 2 ^ 62) (h3:-(2 ^ 62) ≤ hi) (h4:hi < 2 ^ 62)
  (q:R (Itr lo (hi - lo).toNat) H):wpAny (model X.prog X.w) X.A (pyIter (.ref s.heap.objs.size)) (PIE X pins σ tg R) E { s with heap:=s.heap.push { cls:=.type "range",data:=.fields #[.int lo t,.int hi u,.int 1 v] },toks:=tk }:=by
 refine wpAny_pyIter_range (IsRange.new ..) (small_one h1 h2 h3 h4) ?_
 have I1:Inv X pins σ H { s with heap:=s.heap.push { cls:=.type "range",data:=.fields #[.int lo t,.int hi u,.int 1 v] },toks:=tk }:=I.kept fun b o e=>Heap.get?_push_of_some _ e
 refine ⟨(s.heap.push { cls:=.type "range",data:=.fields #[.int lo t,.int hi u,.int 1 v] }).objs.size,[(s.heap.push { cls:=.type "range",data:=.fields #[.int lo t,.int hi u,.int 1 v] }).objs.size],_,_,H,rfl,
  I1.kept (t':=tk) fun b o e=>Heap.get?_push_of_some _ e,turn_range _ lo (hi - lo).toNat,?_,fun b hb=>?_,q⟩
 ·have e1:lo + ((0:Nat):Int) * 1=lo:=by simp
  have e2:(((hi - lo).toNat:Nat):Int) - ((0:Nat):Int)=Builtin.Range.rangeSize lo hi 1:=by rw [rangeSize_one]; split <;> omega
  show IsRangeIter _ _ (lo + ((0:Nat):Int) * 1) ((((hi - lo).toNat:Nat):Int) - ((0:Nat):Int)) 1
  rw [e1,e2]
  exact Heap.get?_push_size _ rfl
 ·have e:b=(s.heap.push { cls:=.type "range",data:=.fields #[.int lo t,.int hi u,.int 1 v] }).objs.size:=by simpa using hb
  subst e
  exact I1.fpOk (Nat.le_refl _) (I1.hok.fresh (Nat.le_refl _))
def iRng1 (ta:TA):TI:=fun σ H R=>ta σ H fun vs H1=>∃ j:Int,vs=[.int j]∧-(2 ^ 62) ≤ j∧j < 2 ^ 62∧R (Itr 0 j.toNat) H1
theorem jd2 {a:Expr} {ta:TA} {p pos:Pos} (hg:Gl X "range") (hm:X.mg "range"=none) (ha:PA X [a] ta) (hs:starEach [a] X.env=[(false,eval a X.env)]:=by rfl):PI X tg (.Call (.Name "range" p) [a] [] pos) (iRng1 ta):=by
 intro pins s σ H R I h
 refine Call_ (ld_blt I hg hm boot_range (PyProof.Rows.callWith_type1 (thn (ha pos pins s σ H _ I h) fun us s1 ⟨vs,H1,I1,r1,q1⟩=>?_) hs rfl))
 obtain ⟨j,e,q1,q2,q⟩:=q1
 subst e
 cases r1 with
 | cons r rr =>
  cases rr
  obtain ⟨t,rfl⟩:=r
  exact call_range_1 (range_it I1 (by omega) (by omega) q1 q2 (by simpa using q))
def tFor (wi:TI) (g:TG) (tb:TS):TS:=fun D σ H=>wi σ H fun J H1=>∃ W:Nat→Nat→St→Hp→Prop,(∃ m,W 0 m σ H1)∧∀ i m σ H,W i m σ H →
 (J.stop i H∧D.nx σ H) ∨ (J.go i H∧∃ N:St→Hp→Prop,(∀ σ' H',N σ' H'→∃ m',m' < m∧W (i + 1) m' σ' H')∧∀ x H',J.yld i H x H'→g x σ H' fun σ2 H2=>tb { D with nx:=N,ct:=N,bk:=D.nx } σ2 H2)
def pinsAt (fp:List Addr) (h:Heap):List (Addr × Obj):=fp.filterMap fun b=>(h.get? b).map fun o=>(b,o)
theorem jc8 {fp:List Addr} {h:Heap} {b:Addr} {o:Obj} (hb:b ∈ fp) (e:h.get? b=some o):(b,o) ∈ pinsAt fp h:=List.mem_filterMap.mpr ⟨b,hb,by rw [e]; rfl⟩
theorem of_pinsAt {fp:List Addr} {h:Heap} {p:Addr × Obj} (hp:p ∈ pinsAt fp h):p.1 ∈ fp∧h.get? p.1=some p.2:=by
 obtain ⟨b,hb,e⟩:=List.mem_filterMap.mp hp
 cases q:h.get? b with
 | none=>rw [q] at e; cases e
 | some o =>
  rw [q] at e
  have e':(b,o)=p:=Option.some.inj e
  subst e'
  exact ⟨hb,q⟩
theorem Inv.pinned {pins:List (Addr × Obj)} {σ:St} {H:Hp} {s:Shared} {fp:List Addr} (I:Inv X pins σ H s) (hf:∀ b ∈ fp,FpOk X pins H b) (ho:∀ b ∈ fp,∃ o,s.heap.get? b=some o∧∀ v,o.data ≠ .cell v):Inv X (pins ++ pinsAt fp s.heap) σ H s :=
 I.pins_of fun p hp=>(List.mem_append.mp hp).elim (fun z=>I.pin p (List.mem_append_right _ z)) fun z=>by
  obtain ⟨hb,e⟩:=of_pinsAt z
  obtain ⟨f0,f1,f2,_⟩:=hf p.1 hb
  obtain ⟨o,e',d⟩:=ho p.1 hb
  rw [e] at e'; cases e'
  exact ⟨e,f0,f1,f2,d⟩
theorem Inv.unpinned {pins pl:List (Addr × Obj)} {σ:St} {H:Hp} {s:Shared} (I:Inv X (pins ++ pl) σ H s):Inv X pins σ H s:=I.pins_of fun p hp=>I.pin p (List.mem_append_right _ (List.mem_append_left _ hp))
theorem jf6 {iter:Expr} {body:List Stmt} {wi:TI} {g:TG} {tb:TS} {pos:Pos} (hp:PassesOwn (model X.prog X.w) X.A X.env X.xe) (hc:X.calm=true) (hi:PI X tg iter wi) (hg:PG X tg g) (hb:PSs X body tb)
  (hs:∀ x,foldedSetIterable iter X.env x=pure x:=by intro _; rfl):PS X (.For tg iter body [] pos) (tFor wi g tb):=by
 intro pins s σ H D I h
 refine wpAny_For (thn (hi pins s σ H _ I h) fun v s1 h1=>thn h1 fun itv s2 h2=>?_) hs
 obtain ⟨it,fp,tn,J,H2,e,I2,T,st2,f2,W,⟨m0,w0⟩,turn⟩:=h2
 subst e
 have stat:∀ {H':Hp},(∀ b ∈ fp,H' b=none)→∀ b ∈ fp,FpOk X pins H' b:=fun hn b hb=>⟨hn b hb,(f2 b hb).2⟩
 refine codeAny_forLoop_any (fun n s'=>∃ i σ' H',Inv X pins σ' H' s'∧tn i s'.heap∧(∀ b ∈ fp,H' b=none)∧W i n σ' H') ?_ m0 ⟨0,σ,H2,I2,st2,fun b hb=>(f2 b hb).1,w0⟩
 rintro n s3 ⟨i,σ3,H3,I3,st3,fr3,w3⟩
 rcases turn i n σ3 H3 w3 with ⟨stop,qn⟩ | ⟨go,N,hN,step⟩
 ·refine wpAny_passesOwn hp (thn (T.done X rfl rfl rfl hc i pins s3 σ3 H3 X.xe I3 (stat fr3) st3 stop) fun r s4 ⟨hr,I4⟩=>?_)
  subst hr
  exact wpAny_execs_nil ⟨σ3,H3,I4,qn⟩
 ·refine wpAny_passesOwn hp (thn (T.item X rfl rfl rfl hc i pins s3 σ3 H3 X.xe I3 (stat fr3) st3 go) fun r s4 ⟨u,hr,h4⟩=>?_)
  subst hr
  refine wpAny_passesOwn hp (thn h4 fun _ s5 ⟨x,H5,I5,r5,y5,st5,fr5⟩=>?_)
  have I5':=I5.pinned (stat fr5) (T.obj _ _ st5)
  refine wpAny_passesOwn hp (thn (hg _ s5 σ3 H5 x u _ I5' r5 (step x H5 y5)) fun _ s6 ⟨σ6,H6,I6,q6⟩=>?_)
  refine wpAny_passesOwn hp (thn (hb _ s6 σ6 H6 _ I6 q6) fun f s7 q7=>?_)
  have again:∀ {σ7:St} {H7:Hp},Inv X (pins ++ pinsAt fp s5.heap) σ7 H7 s7→N σ7 H7→∃ m,m < n∧∃ i σ' H',Inv X pins σ' H' s7∧tn i s7.heap∧(∀ b ∈ fp,H' b=none)∧W i m σ' H':=fun {σ7 H7} I7 n7=>by
   obtain ⟨m',hm,w7⟩:=hN σ7 H7 n7
   refine ⟨m',hm,i + 1,σ7,H7,I7.unpinned,T.keep _ _ _ st5 fun b hb o e=>(I7.pin (b,o) (List.mem_append_right _ (List.mem_append_right _ (jc8 hb e)))).1,fun b hb=>?_,w7⟩
   obtain ⟨o,e,d⟩:=T.obj _ _ st5 b hb
   exact (I7.pin (b,o) (List.mem_append_right _ (List.mem_append_right _ (jc8 hb e)))).2.1
  cases f with
  | next=>obtain ⟨σ7,H7,I7,n7⟩:=q7; exact again I7 n7
  | cont=>obtain ⟨σ7,H7,I7,n7⟩:=q7; exact again I7 n7
  | brk=>obtain ⟨σ7,H7,I7,q7⟩:=q7; exact ⟨σ7,H7,I7.unpinned,q7⟩
  | ret v=>obtain ⟨x7,σ7,H7,I7,r7,q7⟩:=q7; exact ⟨x7,σ7,H7,I7.unpinned,r7,q7⟩
end
theorem jf7 {K:PySem.W.Frag} {a:Addr} {xs:List V} {g:TG} {tb:TS} {D:Ends} {σ:St} {H:Hp} (Pv:Nat→St→Hp→Prop) (h0:Pv 0 σ H) (hl:∀ i σ H,i ≤ xs.length→Pv i σ H→SqL K H a xs)
  (hs:∀ i x σ H,xs[i]?=some x→Pv i σ H→g x σ H fun σ2 H2=>tb { D with nx:=Pv (i + 1),ct:=Pv (i + 1),bk:=D.nx } σ2 H2) (hd:∀ σ H,Pv xs.length σ H→D.nx σ H) :
  ∃ W:Nat→Nat→St→Hp→Prop,(∃ m,W 0 m σ H)∧∀ i m σ H,W i m σ H →
   ((Itl K a).stop i H∧D.nx σ H) ∨ ((Itl K a).go i H∧∃ N:St→Hp→Prop,(∀ σ' H',N σ' H'→∃ m',m' < m∧W (i + 1) m' σ' H')∧∀ x H',(Itl K a).yld i H x H'→g x σ H' fun σ2 H2=>tb { D with nx:=N,ct:=N,bk:=D.nx } σ2 H2):=by
 refine ⟨fun i m σ H=>m=xs.length - i∧i ≤ xs.length∧Pv i σ H,⟨xs.length,by simp,Nat.zero_le _,h0⟩,?_⟩
 rintro i m σ H ⟨rfl,hi,p⟩
 have q:=hl i σ H hi p
 by_cases hlt:i < xs.length
 ·refine .inr ⟨⟨xs,xs[i],q,by simp [hlt]⟩,Pv (i + 1),fun σ' H' p'=>⟨xs.length - (i + 1),by omega,rfl,hlt,p'⟩,fun x H' y=>?_⟩
  obtain ⟨e,y⟩:=y
  subst e
  exact hs i x σ _ (y xs q) p
 ·have e:i=xs.length:=by omega
  subst e
  exact .inl ⟨⟨xs,q,Nat.le_refl _⟩,hd σ H p⟩
theorem for_tup {K:PySem.W.Frag} {a:Addr} {xs:List V} {g:TG} {tb:TS} {D:Ends} {σ:St} {H:Hp} (Pv:Nat→St→Hp→Prop) (h0:Pv 0 σ H) (hl:∀ i σ H,i ≤ xs.length→Pv i σ H→SqT K H a xs)
  (hs:∀ i x σ H,xs[i]?=some x→Pv i σ H→g x σ H fun σ2 H2=>tb { D with nx:=Pv (i + 1),ct:=Pv (i + 1),bk:=D.nx } σ2 H2) (hd:∀ σ H,Pv xs.length σ H→D.nx σ H) :
  ∃ W:Nat→Nat→St→Hp→Prop,(∃ m,W 0 m σ H)∧∀ i m σ H,W i m σ H →
   ((Itt K a).stop i H∧D.nx σ H) ∨ ((Itt K a).go i H∧∃ N:St→Hp→Prop,(∀ σ' H',N σ' H'→∃ m',m' < m∧W (i + 1) m' σ' H')∧∀ x H',(Itt K a).yld i H x H'→g x σ H' fun σ2 H2=>tb { D with nx:=N,ct:=N,bk:=D.nx } σ2 H2):=by
 refine ⟨fun i m σ H=>m=xs.length - i∧i ≤ xs.length∧Pv i σ H,⟨xs.length,by simp,Nat.zero_le _,h0⟩,?_⟩
 rintro i m σ H ⟨rfl,hi,p⟩
 have q:=hl i σ H hi p
 by_cases hlt:i < xs.length
 ·refine .inr ⟨⟨xs,xs[i],q,by simp [hlt]⟩,Pv (i + 1),fun σ' H' p'=>⟨xs.length - (i + 1),by omega,rfl,hlt,p'⟩,fun x H' y=>?_⟩
  obtain ⟨e,y⟩:=y
  subst e
  exact hs i x σ _ (y xs q) p
 ·have e:i=xs.length:=by omega
  subst e
  exact .inl ⟨⟨xs,q,Nat.le_refl _⟩,hd σ H p⟩
theorem for_range {lo:Int} {n:Nat} {g:TG} {tb:TS} {D:Ends} {σ:St} {H:Hp} (Pv:Nat→St→Hp→Prop) (h0:Pv 0 σ H)
  (hs:∀ i σ H,i < n→Pv i σ H→g (.int (lo + i)) σ H fun σ2 H2=>tb { D with nx:=Pv (i + 1),ct:=Pv (i + 1),bk:=D.nx } σ2 H2) (hd:∀ σ H,Pv n σ H→D.nx σ H) :
  ∃ W:Nat→Nat→St→Hp→Prop,(∃ m,W 0 m σ H)∧∀ i m σ H,W i m σ H →
   ((Itr lo n).stop i H∧D.nx σ H) ∨ ((Itr lo n).go i H∧∃ N:St→Hp→Prop,(∀ σ' H',N σ' H'→∃ m',m' < m∧W (i + 1) m' σ' H')∧∀ x H',(Itr lo n).yld i H x H'→g x σ H' fun σ2 H2=>tb { D with nx:=N,ct:=N,bk:=D.nx } σ2 H2):=by
 refine ⟨fun i m σ H=>m=n - i∧i ≤ n∧Pv i σ H,⟨n,by simp,Nat.zero_le _,h0⟩,?_⟩
 rintro i m σ H ⟨rfl,hi,p⟩
 by_cases hlt:i < n
 ·refine .inr ⟨hlt,Pv (i + 1),fun σ' H' p'=>⟨n - (i + 1),by omega,rfl,hlt,p'⟩,fun x H' y=>?_⟩
  obtain ⟨e,y⟩:=y
  subst e y
  exact hs i σ _ hlt p
 ·have e:i=n:=by omega
  subst e
  exact .inl ⟨Nat.le_refl _,hd σ H p⟩
theorem while_by {c:TT} {tb:TS} {D:Ends} {σ:St} {H:Hp} (Pv:St→Hp→Prop) (μ : St→Hp→Nat) (h0:Pv σ H)
  (hs:∀ σ H,Pv σ H→c σ H fun b H1=>if b=true then tb { D with nx:=fun σ' H'=>Pv σ' H'∧μ σ' H' < μ σ H,ct:=fun σ' H'=>Pv σ' H'∧μ σ' H' < μ σ H,bk:=D.nx } σ H1 else D.nx σ H1)
  (mono:∀ σ H Q Q',(∀ b H1,Q b H1→Q' b H1)→c σ H Q→c σ H Q'):tWhile c tb D σ H:=by
 refine ⟨fun m σ H=>m=μ σ H∧Pv σ H,⟨_,rfl,h0⟩,?_⟩
 rintro m σ H ⟨rfl,p⟩
 refine mono σ H _ _ (fun b H1 q=>?_) (hs σ H p)
 cases b with
 | true=>exact ⟨_,fun σ' H' ⟨p',l⟩=>⟨_,l,rfl,p'⟩,q⟩
 | false=>exact q
end L2
namespace L2
open PySem PySem.Spec PyProof.Rows
abbrev R2:=V→V→Hp→VK→Prop
def OpR (X:Cx) (f:Value→Value→Sem Value) (r:R2):Prop :=
 ∀ (pins:List (Addr × Obj)) (s:Shared) (σ:St) (H:Hp) (x y:V) (v u:Value) (Q:VK),Inv X pins σ H s→RelV x v→RelV y u→r x y H Q →
  wpAny (model X.prog X.w) X.A (f v u) (EP X pins σ Q) X.xe s
def UnR (X:Cx) (f:Value→Sem Value) (r:V→Hp→VK→Prop):Prop :=
 ∀ (pins:List (Addr × Obj)) (s:Shared) (σ:St) (H:Hp) (x:V) (v:Value) (Q:VK),Inv X pins σ H s→RelV x v→r x H Q →
  wpAny (model X.prog X.w) X.A (f v) (EP X pins σ Q) X.xe s
def CallR (X:Cx) (f:Value) (r:List V→Hp→VK→Prop):Prop :=
 ∀ (pins:List (Addr × Obj)) (s:Shared) (σ:St) (H:Hp) (xs:List V) (us:List Value) (Q:VK),Inv X pins σ H s→Vals xs us→r xs H Q →
  wpAny (model X.prog X.w) X.A (call f us) (EP X pins σ Q) X.xe s
def TruR (X:Cx) (r:V→Hp→(Bool→Hp→Prop)→Prop):Prop :=
 ∀ (pins:List (Addr × Obj)) (s:Shared) (σ:St) (H:Hp) (x:V) (v:Value) (Q:Bool→Hp→Prop),Inv X pins σ H s→RelV x v→r x H Q →
  wpAny (model X.prog X.w) X.A (truthy v) (TP X pins σ Q) X.xe s
def tOp (r:R2) (ta tb:TE):TE:=fun σ H Q=>ta σ H fun x H1=>tb σ H1 fun y H2=>r x y H2 Q
def tUn (r:V→Hp→VK→Prop) (ta:TE):TE:=fun σ H Q=>ta σ H fun x H1=>r x H1 Q
def rI (C:Int→Int→Prop) (g:Int→Int→V):R2:=fun x y H Q=>∃ i j,x=.int i∧y=.int j∧C i j∧Q (g i j) H
def rI0 (g:Int→Int→V):R2:=fun x y H Q=>∃ i j,x=.int i∧y=.int j∧Q (g i j) H
def rU (g:Int→V):V→Hp→VK→Prop:=fun x H Q=>∃ i,x=.int i∧Q (g i) H
section
variable {X:Cx} {a b c:Expr} {ta tb tc:TE} {pos:Pos}
theorem binT (ha:PE X a ta) (hb:PE X b tb) {pins:List (Addr × Obj)} {s:Shared} {σ:St} {H:Hp} {R:V→V→Hp→Prop} (I:Inv X pins σ H s)
  (h:ta σ H fun x H1=>tb σ H1 fun y H2=>R x y H2) {Q:Value→Shared→Prop} {f:Value→Value→Sem Value}
  (hf:∀ v u s2 x y H2,Inv X pins σ H2 s2→RelV x v→RelV y u→R x y H2→wpAny (model X.prog X.w) X.A (f v u) Q X.xe s2) :
  wpAny (model X.prog X.w) X.A (eval a X.env) (fun v s₁=>wpAny (model X.prog X.w) X.A (eval b X.env) (fun u s₂=>wpAny (model X.prog X.w) X.A (f v u) Q X.xe s₂) X.xe s₁) X.xe s:=by
 refine thn (ha pins s σ H _ I h) fun v s1 ⟨x,H1,I1,r1,q1⟩=>?_
 refine thn (hb pins s1 σ H1 _ I1 q1) fun u s2 ⟨y,H2,I2,r2,q2⟩=>?_
 exact hf v u s2 x y H2 I2 r1 r2 q2
theorem jb3 {op:Operator} {r:R2} (ho:OpR X (binaryOp op) r) (ha:PE X a ta) (hb:PE X b tb):PE X (.BinOp a op b pos) (tOp r ta tb):=by
 intro pins s σ H Q I h
 exact wpAny_BinOp (binT ha hb I h fun v u s2 x y H2 I2 rx ry q=>ho pins s2 σ H2 x y v u Q I2 rx ry q)
theorem pe_un {op:UnaryOp} {r:V→Hp→VK→Prop} (ho:UnR X (unaryOp op) r) (ha:PE X a ta):PE X (.UnaryOp op a pos) (tUn r ta):=by
 intro pins s σ H Q I h
 exact UnaryOp_ (thn (ha pins s σ H _ I h) fun v s1 ⟨x,H1,I1,r1,q1⟩=>ho pins s1 σ H1 x v Q I1 r1 q1)
theorem opI {f:Value→Value→Sem Value} {C:Int→Int→Prop} {g:Int→Int→Int}
  (rule:∀ (i j:Int) (t u:Tok) (s:Shared) (Q:Value→Shared→Prop) (E:Value→Shared→Prop),C i j→Q (.int (g i j) s.toks) { s with toks:=s.toks + 1 }→wpAny (model X.prog X.w) X.A (f (.int i t) (.int j u)) Q E s) :
  OpR X f (rI C fun i j=>.int (g i j)):=by
 intro pins s σ H x y v u Q I rx ry h
 obtain ⟨i,j,rfl,rfl,hc,q⟩:=h
 obtain ⟨t,rfl⟩:=rx
 obtain ⟨t',rfl⟩:=ry
 exact rule i j t t' s _ _ hc ⟨.int (g i j),H,I.tok _,⟨_,rfl⟩,q⟩
theorem opI0 {f:Value→Value→Sem Value} {g:Int→Int→Int}
  (rule:∀ (i j:Int) (t u:Tok) (s:Shared) (Q:Value→Shared→Prop) (E:Value→Shared→Prop),Q (.int (g i j) s.toks) { s with toks:=s.toks + 1 }→wpAny (model X.prog X.w) X.A (f (.int i t) (.int j u)) Q E s) :
  OpR X f (rI0 fun i j=>.int (g i j)):=by
 intro pins s σ H x y v u Q I rx ry h
 obtain ⟨i,j,rfl,rfl,q⟩:=h
 obtain ⟨t,rfl⟩:=rx
 obtain ⟨t',rfl⟩:=ry
 exact rule i j t t' s _ _ ⟨.int (g i j),H,I.tok _,⟨_,rfl⟩,q⟩
theorem opB0 {f:Value→Value→Sem Value} {g:Int→Int→Bool}
  (rule:∀ (i j:Int) (t u:Tok) (s:Shared) (Q:Value→Shared→Prop) (E:Value→Shared→Prop),Q (.bool (g i j)) s→wpAny (model X.prog X.w) X.A (f (.int i t) (.int j u)) Q E s) :
  OpR X f (rI0 fun i j=>.bl (g i j)):=by
 intro pins s σ H x y v u Q I rx ry h
 obtain ⟨i,j,rfl,rfl,q⟩:=h
 obtain ⟨t,rfl⟩:=rx
 obtain ⟨t',rfl⟩:=ry
 exact rule i j t t' s _ _ ⟨.bl (g i j),H,I,rfl,q⟩
def CDiv (i j:Int):Prop:=0 < j∧j < 1073741824
def CPow (i j:Int):Prop:=0 ≤ j∧j ≤ 1000000∧i.natAbs < 2 ^ 64
def CMul (i j:Int):Prop:=(-(2 ^ 64) < i∧i < 2 ^ 64) ∨ (-(2 ^ 64) < j∧j < 2 ^ 64)
theorem CMul.ok {i j:Int} (h:CMul i j):IntMulOk i j:=by
 rcases h with ⟨h1,h2⟩ | ⟨h1,h2⟩
 ·exact .of_left (intBits_le_64 h1 h2)
 ·exact .of_right (intBits_le_64 h1 h2)
theorem two_pow_nn (k:Nat):(0:Int) ≤ 2 ^ k:=by
 rw [two_pow_cast]
 exact Int.natCast_nonneg _
theorem jd9:OpR X (binaryOp .Add) (rI0 fun i j=>.int (i + j)):=opI0 fun _ _ _ _ _ _ _ q=>add_int q
theorem op_sub:OpR X (binaryOp .Sub) (rI0 fun i j=>.int (i - j)):=opI0 fun _ _ _ _ _ _ _ q=>sub_int q
theorem op_mul:OpR X (binaryOp .Mult) (rI CMul fun i j=>.int (i * j)):=opI fun _ _ _ _ _ _ _ hc q=>mul_int q hc.ok
theorem op_fdiv:OpR X (binaryOp .FloorDiv) (rI CDiv fun i j=>.int (i / j)):=opI fun i j _ _ _ _ _ hc q=>by
 have h1:(0:Int) < j:=hc.1
 have h2:j < 1073741824:=hc.2
 exact floordiv_int (by omega) (by rw [Int.fdiv_eq_ediv_of_nonneg i (by omega)]; exact q) (.inl (PyProof.noPylong_small (by omega)))
theorem op_mod:OpR X (binaryOp .Mod) (rI (fun _ j=>0 < j) fun i j=>.int (i % j)):=opI fun i j _ _ _ _ _ hc q=>by
 have h1:(0:Int) < j:=hc
 exact mod_int' (by omega) (by rw [Int.fmod_eq_emod_of_nonneg i (by omega)]; exact q)
theorem op_modN:OpR X (binaryOp .Mod) (rI (fun _ j=>j ≠ 0) fun i j=>.int (i.fmod j)):=opI fun _ _ _ _ _ _ _ hc q=>mod_int' hc q
theorem op_pow:OpR X (binaryOp .Pow) (rI CPow fun i j=>.int (i ^ j.toNat)):=opI fun _ _ _ _ _ _ _ hc q=>pow_int_small hc.1 hc.2.1 hc.2.2 q
theorem op_shl:OpR X (binaryOp .LShift) (rI CPow fun i j=>.int (i * 2 ^ j.toNat)):=opI fun _ _ _ _ _ _ _ hc q=>lshift_int_small hc.1 hc.2.1 hc.2.2 q
theorem op_shr:OpR X (binaryOp .RShift) (rI (fun _ j=>0 ≤ j) fun i j=>.int (i / 2 ^ j.toNat)):=opI fun i j _ _ _ _ _ hc q =>
 rshift_int hc (by rw [Int.fdiv_eq_ediv_of_nonneg i (two_pow_nn _)]; exact q)
theorem op_and:OpR X (binaryOp .BitAnd) (rI0 fun i j=>.int (Builtin.bitAnd i j)):=opI0 fun _ _ _ _ _ _ _ q=>and_int q
theorem unI {f:Value→Sem Value} {g:Int→Int}
  (rule:∀ (i:Int) (t:Tok) (s:Shared) (Q:Value→Shared→Prop) (E:Value→Shared→Prop),Q (.int (g i) s.toks) { s with toks:=s.toks + 1 }→wpAny (model X.prog X.w) X.A (f (.int i t)) Q E s) :
  UnR X f (rU fun i=>.int (g i)):=by
 intro pins s σ H x v Q I rx h
 obtain ⟨i,rfl,q⟩:=h
 obtain ⟨t,rfl⟩:=rx
 exact rule i t s _ _ ⟨.int (g i),H,I.tok _,⟨_,rfl⟩,q⟩
theorem un_neg:UnR X (unaryOp .USub) (rU fun i=>.int (-i)):=unI fun _ _ _ _ _ q=>neg_int q
end
def scal:V→V→Bool
 | .non,.non=>true | .non,.int _=>true | .int _,.non=>true | .non,.bl _=>true | .bl _,.non=>true | .non,.str _=>true | .str _,.non=>true
 | .int _,.int _=>true | .bl _,.bl _=>true | .str _,.str _=>true | .byt _,.byt _=>true
 | .int _,.str _=>true | .str _,.int _=>true | .bl _,.str _=>true | .str _,.bl _=>true
 | _,_=>false
def rEq:R2:=fun x y H Q=>scal x y=true∧Q (.bl (decide (x=y))) H
def rNe:R2:=fun x y H Q=>scal x y=true∧Q (.bl (!decide (x=y))) H
theorem dec_int {i j:Int}:decide (V.int i=V.int j)=(i == j):=by
 rw [Bool.eq_iff_iff]
 simp
theorem dec_bl {i j:Bool}:decide (V.bl i=V.bl j)=(i == j):=by
 rw [Bool.eq_iff_iff]
 simp
theorem dec_str {i j:Str}:decide (V.str i=V.str j)=(i == j):=by
 rw [Bool.eq_iff_iff]
 simp
theorem dec_byt {i j:Array UInt8}:decide (V.byt i=V.byt j)=(i.toList == j.toList):=by
 rw [Bool.eq_iff_iff]
 cases i
 cases j
 simp
section
variable {X:Cx} {a b c:Expr} {ta tb tc:TE} {pos:Pos}
theorem jc7 {pins:List (Addr × Obj)} {σ:St} {H:Hp} {s:Shared} {Q:VK} {k k':Bool} (I:Inv X pins σ H s) (q:Q (.bl k) H) (e:k=k'):EP X pins σ Q (.bool k') s:=by
 subst e
 exact ⟨.bl k,H,I,rfl,q⟩
theorem op_eq:OpR X (compareOp .Eq) rEq:=by
 intro pins s σ H x y v u Q I rx ry h
 obtain ⟨hs,q⟩:=h
 cases x with
 | non =>
  cases rx
  cases y with
  | non=>cases ry; exact PySem.EqNone.eq_none_none (jc7 I q (by simp))
  | bl j=>cases ry; exact PySem.EqNone.eq_none_bool (jc7 I q (by simp))
  | int j=>obtain ⟨t',rfl⟩:=ry; exact PySem.EqNone.eq_none_int (jc7 I q (by simp))
  | str j=>obtain ⟨t',rfl⟩:=ry; exact PySem.EqNone.eq_none_str (jc7 I q (by simp))
  | _=>exact absurd (show false=true from hs) Bool.false_ne_true
 | bl i =>
  cases rx
  cases y with
  | non=>cases ry; exact PySem.EqNone.eq_bool_none (jc7 I q (by simp))
  | bl j=>cases ry; exact eq_bool (jc7 I q dec_bl)
  | str j=>obtain ⟨t',rfl⟩:=ry; exact PySem.EqMixed.eq_bool_str (jc7 I q (by simp))
  | _=>exact absurd (show false=true from hs) Bool.false_ne_true
 | int i =>
  obtain ⟨t,rfl⟩:=rx
  cases y with
  | non=>cases ry; exact PySem.EqNone.eq_int_none (jc7 I q (by simp))
  | int j=>obtain ⟨t',rfl⟩:=ry; exact eq_int (jc7 I q dec_int)
  | str j=>obtain ⟨t',rfl⟩:=ry; exact PySem.EqMixed.eq_int_str (jc7 I q (by simp))
  | _=>exact absurd (show false=true from hs) Bool.false_ne_true
 | str i =>
  obtain ⟨t,rfl⟩:=rx
  cases y with
  | non=>cases ry; exact PySem.EqNone.eq_str_none (jc7 I q (by simp))
  | bl j=>cases ry; exact PySem.EqMixed.eq_str_bool (jc7 I q (by simp))
  | int j=>obtain ⟨t',rfl⟩:=ry; exact PySem.EqMixed.eq_str_int (jc7 I q (by simp))
  | str j=>obtain ⟨t',rfl⟩:=ry; exact eq_str (jc7 I q dec_str)
  | _=>exact absurd (show false=true from hs) Bool.false_ne_true
 | byt i =>
  obtain ⟨t,rfl⟩:=rx
  cases y with
  | byt j=>obtain ⟨t',rfl⟩:=ry; exact PySem.W.eq_bytes (jc7 I q dec_byt)
  | _=>exact absurd (show false=true from hs) Bool.false_ne_true
 | _=>cases y <;> exact absurd (show false=true from hs) Bool.false_ne_true
theorem op_ne:OpR X (compareOp .NotEq) rNe:=by
 intro pins s σ H x y v u Q I rx ry h
 obtain ⟨hs,q⟩:=h
 cases x with
 | non =>
  cases rx
  cases y with
  | non=>cases ry; exact PySem.EqNone.ne_none_none (jc7 I q (by simp))
  | bl j=>cases ry; exact PySem.EqNone.ne_none_bool (jc7 I q (by simp))
  | int j=>obtain ⟨t',rfl⟩:=ry; exact PySem.EqNone.ne_none_int (jc7 I q (by simp))
  | str j=>obtain ⟨t',rfl⟩:=ry; exact PySem.EqNone.ne_none_str (jc7 I q (by simp))
  | _=>exact absurd (show false=true from hs) Bool.false_ne_true
 | bl i =>
  cases rx
  cases y with
  | non=>cases ry; exact PySem.EqNone.ne_bool_none (jc7 I q (by simp))
  | bl j=>cases ry; exact ne_bool (jc7 I q (congrArg not dec_bl))
  | str j=>obtain ⟨t',rfl⟩:=ry; exact PySem.EqMixed.ne_bool_str (jc7 I q (by simp))
  | _=>exact absurd (show false=true from hs) Bool.false_ne_true
 | int i =>
  obtain ⟨t,rfl⟩:=rx
  cases y with
  | non=>cases ry; exact PySem.EqNone.ne_int_none (jc7 I q (by simp))
  | int j=>obtain ⟨t',rfl⟩:=ry; exact ne_int (jc7 I q (congrArg not dec_int))
  | str j=>obtain ⟨t',rfl⟩:=ry; exact PySem.EqMixed.ne_int_str (jc7 I q (by simp))
  | _=>exact absurd (show false=true from hs) Bool.false_ne_true
 | str i =>
  obtain ⟨t,rfl⟩:=rx
  cases y with
  | non=>cases ry; exact PySem.EqNone.ne_str_none (jc7 I q (by simp))
  | bl j=>cases ry; exact PySem.EqMixed.ne_str_bool (jc7 I q (by simp))
  | int j=>obtain ⟨t',rfl⟩:=ry; exact PySem.EqMixed.ne_str_int (jc7 I q (by simp))
  | str j=>obtain ⟨t',rfl⟩:=ry; exact ne_str (jc7 I q (congrArg not dec_str))
  | _=>exact absurd (show false=true from hs) Bool.false_ne_true
 | byt i =>
  obtain ⟨t,rfl⟩:=rx
  cases y with
  | byt j=>obtain ⟨t',rfl⟩:=ry; exact PySem.W.ne_bytes (jc7 I q (congrArg not dec_byt))
  | _=>exact absurd (show false=true from hs) Bool.false_ne_true
 | _=>cases y <;> exact absurd (show false=true from hs) Bool.false_ne_true
theorem op_lt:OpR X (compareOp .Lt) (rI0 fun i j=>.bl (decide (i < j))):=opB0 fun _ _ _ _ _ _ _ q=>lt_int q
theorem op_gt:OpR X (compareOp .Gt) (rI0 fun i j=>.bl (decide (j < i))):=opB0 fun _ _ _ _ _ _ _ q=>gt_int q
theorem op_ge:OpR X (compareOp .GtE) (rI0 fun i j=>.bl (decide (j ≤ i))):=opB0 fun _ _ _ _ _ _ _ q=>ge_int q
theorem nomark (b:Expr) {op:CmpOp} (h:op ≠ .In:=by decide) (h2:op ≠ .NotIn:=by decide):behindInMarks op b=false:=by
 have e1:(op == CmpOp.In)=false:=by cases op <;> first | rfl | exact absurd rfl h
 have e2:(op == CmpOp.NotIn)=false:=by cases op <;> first | rfl | exact absurd rfl h2
 cases b <;> simp [behindInMarks,e1,e2]
theorem pe_cmpR {op:CmpOp} {r:R2} (ho:OpR X (compareOp op) r) (ha:PE X a ta) (hb:PE X b tb) (hm:behindInMarks op b=false):PE X (.Compare a [op] [b] pos) (tOp r ta tb):=by
 intro pins s σ H Q I h
 exact wpAny_Compare1 (binT ha hb I h fun v u s2 x y H2 I2 rx ry q=>ho pins s2 σ H2 x y v u Q I2 rx ry q) hm
def tTest (t:TE):TT:=fun σ H Q=>t σ H fun x H'=>∃ k,x=.bl k∧Q k H'
theorem jc0 {op:CmpOp} {r:R2} (ho:OpR X (compareOp op) r) (ha:PE X a ta) (hb:PE X b tb) (hm:behindInMarks op b=false):PT X (.Compare a [op] [b] pos) (tTest (tOp r ta tb)):=by
 intro pins s σ H Q I h
 refine wpAny_isTrue_Compare1 (thn (ha pins s σ H _ I h) fun v s1 ⟨x,H1,I1,r1,q1⟩=>thn (hb pins s1 σ H1 _ I1 q1) fun u s2 ⟨y,H2,I2,r2,q2⟩ =>
  thn (ho pins s2 σ H2 x y v u _ I2 r1 r2 q2) fun c s3 ⟨z,H3,I3,r3,k,e,q3⟩=>?_) hm
 subst e
 cases r3
 exact wpAny_truthy_bool ⟨H3,I3,q3⟩
def TruV (K:PySem.W.Frag) (x:V) (H:Hp) (k:Bool):Prop :=
 match x with
 | .non=>k=false
 | .bl b=>k=b
 | .int i=>k=(i != 0)
 | .str y=>y.length ≤ sizeLine∧k=((y.length:Int) != 0)
 | .byt y=>y.size ≤ sizeLine∧k=((y.size:Int) != 0)
 | .ref p=>(∃ xs,SqL K H p xs∧k=!xs.isEmpty) ∨ (∃ xs,SqT K H p xs∧k=!xs.isEmpty) ∨ ∃ kvs,H p=some (.dK kvs)∧k=!kvs.isEmpty
 | _=>False
theorem isEmpty_kv {κ : Type} {kvs:List (κ × V)} {vs:List (κ × Value)} (r:KV kvs vs):(!vs.isEmpty)=!kvs.isEmpty:=by
 cases r <;> rfl
theorem isEmpty_of {xs:List V} {its:List Value} (r:Vals xs its):(!its.toArray.isEmpty)=!xs.isEmpty:=by
 cases r <;> simp
theorem line63:(sizeLine:Nat) < 2 ^ 63:=by rw [sizeLine_eq]; decide
theorem tru_ok:TruR X (fun x H Q=>∃ k,TruV X.K x H k∧Q k H):=by
 intro pins s σ H x v Q I rx h
 obtain ⟨k,e,q⟩:=h
 have hl:=line63
 have hs:sizeLine=16777216:=sizeLine_eq
 cases x with
 | non =>
  cases rx
  have e':k=false:=e
  subst e'
  exact truthy_none ⟨H,I,q⟩
 | bl b =>
  cases rx
  have e':k=b:=e
  subst e'
  exact wpAny_truthy_bool ⟨H,I,q⟩
 | int i =>
  obtain ⟨t,rfl⟩:=rx
  have e':k=(i != 0):=e
  subst e'
  exact PySem.P.truthy_int ⟨H,I,q⟩
 | str y =>
  obtain ⟨t,rfl⟩:=rx
  obtain ⟨hy,e'⟩:y.length ≤ sizeLine∧k=((y.length:Int) != 0):=e
  subst e'
  exact PySem.P.truthy_str (by omega) ⟨H,I.tok _,q⟩
 | byt y =>
  obtain ⟨t,rfl⟩:=rx
  obtain ⟨hy,e'⟩:y.size ≤ sizeLine∧k=((y.size:Int) != 0):=e
  subst e'
  exact PySem.W.truthy_bytes (by omega) ⟨H,I.tok _,q⟩
 | ref p =>
  cases rx
  have e':(∃ xs,SqL X.K H p xs∧k=!xs.isEmpty) ∨ (∃ xs,SqT X.K H p xs∧k=!xs.isEmpty) ∨ ∃ kvs,H p=some (.dK kvs)∧k=!kvs.isEmpty:=e
  rcases e' with ⟨xs,hx,e'⟩ | ⟨xs,hx,e'⟩ | ⟨kvs,hx,e'⟩
  ·subst e'
   obtain ⟨its,r,pl,hz⟩:=I.list hx
   have hlen:=r.length
   exact wpAny_truthy_list pl.isList (by simp only [List.size_toArray]; omega) ⟨H,I.tok _,by rw [isEmpty_of r]; exact q⟩
  ·subst e'
   obtain ⟨its,r,pl,hz⟩:=I.tuple hx
   have hlen:=r.length
   exact truthy_tuple pl (by simp only [List.size_toArray]; omega) ⟨H,I.tok _,by rw [isEmpty_of r]; exact q⟩
  ·subst e'
   obtain ⟨hz,hS,vs,r,m⟩:kvs.length ≤ sizeLine∧(p == sysModules)=false∧∃ vs,KV kvs vs∧s.heap.DictOf (jc4 X.prog X.w) p vs:=I.hok p _ hx
   have hlen:kvs.length=vs.length:=Paired.length r
   exact wpAny_truthy_dict hS m (by omega) ⟨H,I.tok _,by rw [isEmpty_kv r]; exact q⟩
 | _=>exact (show False from e).elim
theorem pt_truth (ha:PE X a ta) (he:∀ whole,isTrue a X.env whole=(do let v ← whole; standAt a.pos; holding [v] (truthy v))) :
  PT X a (fun σ H Q=>ta σ H fun x H'=>∃ k,TruV X.K x H' k∧Q k H'):=by
 intro pins s σ H Q I h
 exact isTrue_plain (thn (ha pins s σ H _ I h) fun v s1 ⟨x,H1,I1,r1,q1⟩=>tru_ok pins s1 σ H1 x v Q I1 r1 q1) (he _)
theorem vals1 {x:V} {us:List Value} (r:Vals [x] us):∃ u,us=[u]∧RelV x u:=by
 cases r with
 | cons r1 r2=>cases r2; exact ⟨_,rfl,r1⟩
theorem vals2 {x y:V} {us:List Value} (r:Vals [x,y] us):∃ u w',us=[u,w']∧RelV x u∧RelV y w':=by
 cases r with
 | cons r1 r2 =>
  cases r2 with
  | cons r3 r4=>cases r4; exact ⟨_,_,rfl,r1,r3⟩
theorem call_abs:CallR X (.builtin "abs") (fun xs H Q=>∃ i,xs=[.int i]∧Q (.int (if i < 0 then -i else i)) H):=by
 intro pins s σ H xs us Q I r h
 obtain ⟨i,rfl,q⟩:=h
 obtain ⟨u,rfl,t,rfl⟩:=vals1 r
 exact call_abs_int fun u tk=>⟨.int (if i < 0 then -i else i),H,I.tok _,⟨_,rfl⟩,q⟩
theorem call_max2 (hc:X.calm=true):CallR X (.builtin "max") (fun xs H Q=>∃ i j,xs=[.int i,.int j]∧Q (.int (if j > i then j else i)) H):=by
 intro pins s σ H xs us Q I r h
 obtain ⟨i,j,rfl,q⟩:=h
 obtain ⟨u,w',rfl,⟨t,rfl⟩,⟨t',rfl⟩⟩:=vals2 r
 refine max_two_ints (I.ok.hd hc) fun h' tk k=>⟨_,H,I.kept k,?_,q⟩
 by_cases hj:j > i
 ·rw [if_pos hj,if_pos hj]; exact ⟨_,rfl⟩
 ·rw [if_neg hj,if_neg hj]; exact ⟨_,rfl⟩
theorem call_min2 (hc:X.calm=true):CallR X (.builtin "min") (fun xs H Q=>∃ i j,xs=[.int i,.int j]∧Q (.int (if j < i then j else i)) H):=by
 intro pins s σ H xs us Q I r h
 obtain ⟨i,j,rfl,q⟩:=h
 obtain ⟨u,w',rfl,⟨t,rfl⟩,⟨t',rfl⟩⟩:=vals2 r
 refine min_two_ints (I.ok.hd hc) fun h' tk k=>⟨_,H,I.kept k,?_,q⟩
 by_cases hj:j < i
 ·rw [if_pos hj,if_pos hj]; exact ⟨_,rfl⟩
 ·rw [if_neg hj,if_neg hj]; exact ⟨_,rfl⟩
theorem call_int1:CallR X (.type "int") (fun xs H Q=>(∃ i,xs=[.int i]∧Q (.int i) H) ∨ ∃ k,xs=[.bl k]∧Q (.int (if k then 1 else 0)) H):=by
 intro pins s σ H xs us Q I r h
 rcases h with ⟨i,rfl,q⟩ | ⟨k,rfl,q⟩
 ·obtain ⟨u,rfl,t,rfl⟩:=vals1 r
  exact call_int_int ⟨.int i,H,I,⟨_,rfl⟩,q⟩
 ·obtain ⟨u,rfl,r1⟩:=vals1 r
  cases r1
  exact call_int_bool ⟨.int (if k then 1 else 0),H,I.tok _,⟨_,rfl⟩,q⟩
end
end L2
namespace L2
open PySem PySem.Spec PyProof.Rows
structure ObjM (h:Heap) (x dx C:Addr) (mA:Str→Option Value):Prop where
 obj:h.get? x=some (PySem.W.instObj C dx)
 ns:h.Ns1 dx mA
 ne:dx ≠ x
theorem lookIn_ns {h:Heap} {dx:Addr} {mA:Str→Option Value} (n:h.Ns1 dx mA):∃ od,h.get? dx=some od∧∀ name,PySem.W.lookIn name od=some (mA name):=by
 obtain ⟨o,es,ep,ho,hd,hk,_,hm⟩:=n
 refine ⟨o,ho,fun name=>?_⟩
 have e:=hm name
 unfold nsFind findBy at e
 rw [← Array.find?_toList] at e
 unfold PySem.W.lookIn
 rw [hd]
 dsimp only
 split
 ·rename_i y q
  rw [q] at e
  exact congrArg some e
 ·rename_i q
  rw [q] at e
  have a:es.toList.any (·.refKey)=false:=by
   rw [List.any_eq_false]
   intro y hy
   obtain ⟨z,t,hkey⟩:=hk y (Array.mem_toList_iff.mp hy)
   simp [DictEntry.refKey,hkey]
  have a':¬ es.toList.any (·.refKey)=true:=by rw [a]; exact Bool.false_ne_true
  rw [if_neg a']
  exact congrArg some e
theorem ObjM.look {h:Heap} {x dx C:Addr} {mA:Str→Option Value} (I:ObjM h x dx C mA):∃ od,PySem.W.InstAt h x (PySem.W.instObj C dx) C (some od)∧∀ name,PySem.W.lookIn name od=some (mA name) :=
 let ⟨od,ho,hl⟩:=lookIn_ns I.ns
 ⟨od,⟨I.obj,rfl,rfl,ho⟩,hl⟩
section
variable {prog:Program} {w:World} {A:Around} {E:Value→Shared→Prop} {s:Shared} {K:PySem.W.Frag} {x dx C f:Addr} {mA:Str→Option Value} {name:Str} {v:Value}
end
theorem RelO.some_of {v:V} {o:Option Value} (r:RelO (some v) o):∃ u,o=some u∧RelV v u:=by
 cases o with
 | none=>exact (show False from r).elim
 | some u=>exact ⟨u,rfl,r⟩
section
variable {P:Program} {w:World} {H H':Hp} {h h':Heap} {a C dx:Addr} {fs fs':List (Str × V)}
theorem ins_get (hok:HOk P w H h) (e:H a=some (.ins C dx fs)):∃ mA,ObjM h a dx C mA∧(∀ f,RelO (fs.lookup f) (mA f))∧PySem.Within mA (fs.map (·.1))∧fs.length ≤ 1000∧H dx=some (.own a):=by
 obtain ⟨d,z,ne,ob,mA,n,r,q⟩:=(show ObjOk P w H h a (.ins C dx fs) from hok a _ e)
 exact ⟨mA,⟨ob,n,ne⟩,r,q,z,d⟩
end
structure Cls (K:PySem.W.Frag) (C:Addr):Prop where
 pg:PySem.W.plainGet K C Str.empty=true
 hd:PySem.W.hasDictIn K C=true
 po:PySem.W.plainOver K C=true
 sa:PySem.W.findIn K (.ref C) "__setattr__"=some (some (.builtin "object.__setattr__"))
theorem Cls.get {K:PySem.W.Frag} {C:Addr} (c:Cls K C) (f:Str):PySem.W.plainGet K C f=true:=c.pg
section
variable {X:Cx} {pins:List (Addr × Obj)} {σ:St} {H:Hp} {s:Shared} {a C dx:Addr} {fs:List (Str × V)} {f:Str} {v:V} {A:Around} {E:Value→Shared→Prop}
end
section
variable {X:Cx} {o e value:Expr} {f:Str} {pos pos' tpos:Pos} {ta tv:TE}
end
section
variable {X:Cx} {pins:List (Addr × Obj)} {σ:St} {H:Hp} {s:Shared} {A:Around} {E:Value→Shared→Prop} {Q:Value→Shared→Prop} {c:Value} {b:Bool}
inductive TyOf (K:PySem.W.Frag) (H:Hp):V→Value→Prop where
 | non:TyOf K H .non (.type "NoneType")
 | bl (x:Bool):TyOf K H (.bl x) (.type "bool")
 | int (i:Int):TyOf K H (.int i) (.type "int")
 | str (x:Str):TyOf K H (.str x) (.type "str")
 | flt (x:UInt64):TyOf K H (.flt x) (.type "float")
 | lst {a:Addr} {xs:List V} (e:H a=some (.lst xs)):TyOf K H (.ref a) (.type "list")
 | frz {a:Addr} {o:Obj} {xs:List V} (e:H a=some (.frz o (.lst xs))):TyOf K H (.ref a) (.type "list")
 | tup {a:Addr} {xs:List V} (e:H a=some (.tup xs)):TyOf K H (.ref a) (.type "tuple")
 | dK {a:Addr} {kvs:List (Key × V)} (e:H a=some (.dK kvs)):TyOf K H (.ref a) (.type "dict")
 | dT {a:Addr} {kvs:List (List Key × V)} (e:H a=some (.dT kvs)):TyOf K H (.ref a) (.type "dict")
 | ins {a C dx:Addr} {fs:List (Str × V)} (e:H a=some (.ins C dx fs)) (cl:Cls K C) (ha:PySem.W.findIn K (.ref C) "__class__"=some (some (.builtin "object.__class__")))
   (hn:PySem.W.specialIn K (.builtin "object.__class__") "__get__"=some (some (.builtin "getset_descriptor.__get__"))) (htk:PySem.W.takesIn K (.builtin "object.__class__")=some true)
   (hm:PySem.W.mroIn K C (.type "object")=some true):TyOf K H (.ref a) (.ref C)
theorem isinst_ok {x:V} {u t:Value} (I:Inv X pins σ H s) (rx:RelV x u) (ty:TyOf X.K H x t) (e:PySem.W.kitOne X.K t c=some b) (h:∀ tk,Q (.bool b) { s with toks:=tk }) :
  wpAny (model X.prog X.w) A (call (.builtin "isinstance") [u,c]) Q E s:=by
 cases ty with
 | non=>cases (show u=Value.none from rx); exact PySem.W.kia_one PySem.W.kitx_none I.kIn True.intro e (fun z=>nomatch z) h
 | bl y=>cases (show u=Value.bool y from rx); exact PySem.W.kia_one PySem.W.kitx_bool I.kIn True.intro e (fun z=>nomatch z) h
 | int i=>obtain ⟨t,q⟩:=(show ∃ t,u=Value.int i t from rx); cases q; exact PySem.W.kia_one PySem.W.kitx_int I.kIn True.intro e (fun z=>nomatch z) h
 | str y=>obtain ⟨t,q⟩:=(show ∃ t,u=Value.str y t from rx); cases q; exact PySem.W.kia_one PySem.W.kitx_str I.kIn True.intro e (fun z=>nomatch z) h
 | flt y=>obtain ⟨t,q⟩:=(show ∃ t,u=Value.float y t from rx); cases q; exact PySem.W.kia_one PySem.W.kitx_float I.kIn True.intro e (fun z=>nomatch z) h
 | @lst a xs ea =>
  cases (show u=Value.ref a from rx)
  obtain ⟨_,_,n,_,h1⟩:=(show ObjOk X.prog X.w H s.heap a (.lst xs) from I.hok a _ ea)
  exact PySem.W.kia_one PySem.W.kitx_list I.kIn ⟨_,h1,rfl⟩ e (fun z=>nomatch z) h
 | @frz a ob xs ea =>
  cases (show u=Value.ref a from rx)
  obtain ⟨_,_,_,n,_,h1⟩:=(show ObjOk X.prog X.w H s.heap a (.frz ob (.lst xs)) from I.hok a _ ea)
  exact PySem.W.kia_one PySem.W.kitx_list I.kIn ⟨_,h1,rfl⟩ e (fun z=>nomatch z) h
 | @tup a xs ea =>
  cases (show u=Value.ref a from rx)
  obtain ⟨_,_,_,p⟩:=(show ObjOk X.prog X.w H s.heap a (.tup xs) from I.hok a _ ea)
  obtain ⟨o,h1,h2,_⟩:=p
  exact PySem.W.kia_one PySem.W.kitx_tuple I.kIn ⟨o,h1,h2⟩ e (fun z=>nomatch z) h
 | @dK a kvs ea =>
  cases (show u=Value.ref a from rx)
  obtain ⟨_,_,vs,_,p⟩:=(show ObjOk X.prog X.w H s.heap a (.dK kvs) from I.hok a _ ea)
  obtain ⟨o,es,ep,h1,h2,_⟩:=p
  exact PySem.W.kia_one PySem.W.kitx_dict I.kIn ⟨o,h1,h2.1⟩ e (fun z=>nomatch z) h
 | @dT a kvs ea =>
  cases (show u=Value.ref a from rx)
  obtain ⟨_,_,xs,_,o,es,ep,h1,h2,_⟩:=(show ObjOk X.prog X.w H s.heap a (.dT kvs) from I.hok a _ ea)
  exact PySem.W.kia_one PySem.W.kitx_dict I.kIn ⟨o,h1,h2.1⟩ e (fun z=>nomatch z) h
 | @ins a C dx fs ea cl ha hn htk hm =>
  cases (show u=Value.ref a from rx)
  obtain ⟨mA,O,_⟩:=ins_get I.hok ea
  obtain ⟨od,J,_⟩:=O.look
  exact PySem.W.kia_one (PySem.W.kitx_own (cl.get _) cl.hd ha hn htk hm) I.kIn J e (fun z=>nomatch z) h
end
end L2
namespace L2
open PySem PySem.Spec PyProof.Rows
structure Room (k:Nat) (A:Around):Prop where
 hd:A.handled=none
 dp:A.depth + 3 * k + 5 < recursionLimit
 un:A.units + 16 * k + 200 < cLine
theorem Room.mono {j k:Nat} {A:Around} (r:Room k A) (h:j ≤ k):Room j A:=⟨r.hd,by have:=r.dp; omega,by have:=r.un; omega⟩
theorem Room.deeper {k:Nat} {A:Around} (r:Room (k + 1) A) (env:Env):Room k (A.deeper env) :=
 ⟨r.hd,by have:=r.dp; show A.depth + 1 + 3 * k + 5 < _; omega,by have:=r.un; show A.units + 3 + 16 * k + 200 < _; omega⟩
theorem Room.depth {k:Nat} {A:Around} (r:Room k A):A.depth < recursionLimit:=by have:=r.dp; omega
theorem Room.units {k:Nat} {A:Around} (r:Room k A):A.units + 64 < cLine:=by have:=r.un; omega
theorem Room.units0 {k:Nat} {A:Around} (r:Room k A):A.units < cLine:=by have:=r.un; omega
def tNil:TA:=fun _ H Q=>Q [] H
def tCons (ta:TE) (tr:TA):TA:=fun σ H Q=>ta σ H fun x H1=>tr σ H1 fun xs H2=>Q (x :: xs) H2
section
variable {X:Cx} {e:Expr} {es:List Expr} {te:TE} {t:TA} {pos:Pos}
theorem ja2:PA X [] tNil:=fun _ _ _ _ H Q I h=>Calls.spliced_nil ⟨[],H,I,.nil,h⟩
theorem ja0 (ha:PE X e te) (hr:PA X es t) (hs:starEach (e :: es) X.env=(false,eval e X.env) :: starEach es X.env:=by rfl):PA X (e :: es) (tCons te t):=by
 intro pos pins s σ H Q I h
 rw [hs]
 show wpAny _ _ (spliced ((false,eval e X.env) :: backTo pos (starEach es X.env))) _ _ s
 refine Calls.spliced_cons (thn (ha pins s σ H _ I h) fun u s1 ⟨x,H1,I1,r1,q1⟩=>?_)
 exact thn (hr pos pins s1 σ H1 _ I1 q1) fun us s2 ⟨xs,H2,I2,r2,q2⟩=>⟨x :: xs,H2,I2,.cons r1 r2,q2⟩
def tTup (t:TA):TE:=fun σ H Q=>t σ H fun xs H1=>xs.length ≤ sizeLine∧∀ p,H1 p=none→Q (.ref p) (upd H1 p (.tup xs))
def tLst (t:TA):TE:=fun σ H Q=>t σ H fun xs H1=>xs.length ≤ sizeLine∧∀ p,H1 p=none→Q (.ref p) (upd H1 p (.lst xs))
theorem jd6 {x1} (h:PA X es t):PE X (.Tuple es x1 pos) (tTup t):=by
 intro pins s σ H Q I hq
 refine wpAny_Tuple_spliced (thn (h pos pins s σ H _ I hq) fun us s1 ⟨xs,H1,I1,r,z,q⟩=>⟨by rw [← r.length]; exact z,?_⟩)
 have hf:H1 s1.heap.objs.size=none:=I1.hok.fresh (Nat.le_refl _)
 refine ⟨.ref s1.heap.objs.size,upd H1 s1.heap.objs.size (.tup xs),I1.laid (t':=s1.toks) (fun b u e=>Heap.get?_push_of_some _ e) (Nat.le_refl _) ?_,rfl,q _ hf⟩
 exact ⟨z,us,r,⟨_,Heap.get?_push_size _ rfl,rfl,_,rfl⟩⟩
theorem je4 (h:PA X es t):PE X (.List es pos) (tLst t):=by
 intro pins s σ H Q I hq
 refine wpAny_List_spliced (thn (h pos pins s σ H _ I hq) fun us s1 ⟨xs,H1,I1,r,z,q⟩=>⟨by rw [← r.length]; exact z,?_⟩)
 have hf:H1 s1.heap.objs.size=none:=I1.hok.fresh (Nat.le_refl _)
 refine ⟨.ref s1.heap.objs.size,upd H1 s1.heap.objs.size (.lst xs),I1.laid (t':=s1.toks) (fun b u e=>Heap.get?_push_of_some _ e) (Nat.le_refl _) ?_,rfl,q _ hf⟩
 exact ⟨z,us,0,r,Heap.get?_push_size _ rfl⟩
end
abbrev Sp:=List V→Hp→VK→XK→Prop
abbrev CXT:=List Env→Hp→Shared→XK→Value→Shared→Prop
structure Env0 (P:Program) (w:World) (K:PySem.W.Frag) (mg:Str→Option Value) (base:Heap) (A:Around) (outer:List Env) (s:Shared) (H:Hp):Prop where
 frames:A.frames=some outer
 mod:Mod K mg base
 bs:∀ b o,base.get? b=some o→s.heap.get? b=some o∧H b=none
 bsz:base.objs.size ≤ s.heap.objs.size
 funs:s.heap.FunFrames base outer
 frf:∀ b ∈ frs outer,H b=none
 hok:HOk P w H s.heap
 bare:AllBare s.gens
def CE (outer:List Env) (P:Program) (w:World) (H:Hp) (s:Shared) (Q:VK) (u:Value) (s':Shared):Prop :=
 ∃ v H',s'.os=s.os∧AllBare s'.gens∧Un (frs outer) [] H H' s.heap s'.heap∧HOk P w H' s'.heap∧RelV v u∧Q v H'
def CR (CX:CXT) (outer:List Env) (P:Program) (w:World) (H:Hp) (s:Shared) (Q:VK) (E:XK) (r:Result) (s':Shared):Prop :=
 match r with
 | .ok (.ret u)=>CE outer P w H s Q u s'
 | .ok _=>False
 | .error e=>CX outer H s E e s'
structure FnOk (P:Program) (w:World) (K:PySem.W.Frag) (mg:Str→Option Value) (base:Heap) (CX:CXT) (k:Nat) (f:Addr) (fd:FuncData) (ps:List Str) (sp:Sp):Prop where
 len:∀ vs H Q E,sp vs H Q E→vs.length=ps.length
 run:∀ (A:Around) (outer:List Env) (s:Shared) (H:Hp) (args:Args) (us:List Value) (vs:List V) (Q:VK) (E:XK),Room k A→Env0 P w K mg base A outer s H→BindsTo s fd args (ps.zip us)→Vals vs us→sp vs H Q E →
  codeAny (model P w) A (.call (.ref f) args) (CR CX outer P w H s Q E) s
section
variable {X:Cx} {pins:List (Addr × Obj)} {σ:St} {H:Hp} {s s':Shared}
theorem Inv.env0 (I:Inv X pins σ H s):Env0 X.prog X.w X.K X.mg X.base X.A X.stack s H :=
 ⟨I.ok.frames,I.ok.mod,I.bs,Nat.le_trans I.ok.bsz I.sz,I.stack,I.stkFree,I.hok,I.bare⟩
theorem Inv.after {Q:VK} {u:Value} (I:Inv X pins σ H s) (h:CE X.stack X.prog X.w H s Q u s'):EP X pins σ Q u s':=by
 obtain ⟨v,H',os,bare,un,hok,r,q⟩:=h
 obtain ⟨hh,g,d,t,os'⟩:=s'
 obtain rfl:os'=s.os:=os
 exact ⟨v,H',I.call (h':=hh) (g':=g) (d':=d) (t':=t) (ch:=[]) un hok bare (fun b z=>absurd z (by simp)),r,q⟩
end
def tCall (sp:Sp) (dvs:List V) (E:XK) (t:TA):TE:=fun σ H Q=>t σ H fun vs H1=>sp (vs ++ dvs) H1 Q E
def Binds (K:PySem.W.Frag) (fd:FuncData) (ps:List Str) (ds:List Value):Prop :=
 ∀ (s:Shared) (us:List Value),K.In s.heap→(us ++ ds).length=ps.length→BindsTo s fd ⟨us,[]⟩ (ps.zip (us ++ ds))
theorem Binds.all {K:PySem.W.Frag} {fd:FuncData} {ps:List Str} (h:∀ us:List Value,us.length=ps.length→bindArgs fd ⟨us,[]⟩=pure (ps.zip us)):Binds K fd ps []:=fun s us _ hl=>by
 rw [List.append_nil] at hl ⊢
 exact .of_eq (h us hl)
def Passes (CX:CXT) (X:Cx) (E:XK):Prop:=∀ (pins:List (Addr × Obj)) (σ:St) (H:Hp) (s:Shared) (e:Value) (s':Shared),Inv X pins σ H s→CX X.stack H s E e s'→X.xe e s'
section
variable {X:Cx} {CX:CXT} {k:Nat} {f C:Addr} {fd:FuncData} {ps:List Str} {sp:Sp} {dvs:List V} {ds:List Value} {E:XK} {x m:Str} {p pos apos:Pos} {e o:Expr} {es:List Expr} {ta:TE} {t:TA}
theorem run_fn {pins:List (Addr × Obj)} {σ:St} {H:Hp} {s:Shared} {Q:VK} {us:List Value} {vs:List V} (F:FnOk X.prog X.w X.K X.mg X.base CX k f fd ps sp) (hr:Room k X.A) (hb:Binds X.K fd ps ds) (hd:Vals dvs ds) (hx:Passes CX X E)
  (I:Inv X pins σ H s) (r:Vals vs us) (h:sp (vs ++ dvs) H Q E):wpAny (model X.prog X.w) X.A (call (.ref f) us) (EP X pins σ Q) X.xe s:=by
 have r2:Vals (vs ++ dvs) (us ++ ds):=r.append hd
 have hl:(us ++ ds).length=ps.length:=by rw [← r2.length]; exact F.len _ _ _ _ h
 refine wpAny_call (codeAny_mono (F.run X.A X.stack s H ⟨us,[]⟩ (us ++ ds) (vs ++ dvs) Q E hr I.env0 (hb s us I.kIn hl) r2 h) fun r s' hq=>?_)
 cases r with
 | error e=>exact hx pins σ H s e s' I hq
 | ok fl =>
  cases fl with
  | ret u=>exact I.after hq
  | next=>exact False.elim hq
  | brk=>exact False.elim hq
  | cont=>exact False.elim hq
theorem ja6 (F:FnOk X.prog X.w X.K X.mg X.base CX k f fd ps sp) (hr:Room k X.A) (hg:Gl X x) (hm:X.mg x=some (.ref f)) (hk:PySem.W.keepIn X.K (.ref f)=true) (hb:Binds X.K fd ps ds) (hd:Vals dvs ds) (hx:Passes CX X E)
  (ha:PA X (e :: es) t) (hdb:(x == ("__debug__" : Str))=false:=by decide) (he:starEach (e :: es) X.env=(false,eval e X.env) :: starEach es X.env:=by rfl) (hpl:(backTo pos (starEach es X.env)).any (·.1)=false:=by rfl) :
  PE X (.Call (.Name x p) (e :: es) [] pos) (tCall sp dvs E t):=by
 intro pins s σ H Q I h
 refine wpAny_Call_Name_kw (ld_glob I hg hm ?_ hdb)
 refine PySem.W.callWith_K (h₀:=X.base) I.ok.mod.kin hk (thn (ha pos pins s σ H _ I h) fun us s1 ⟨vs,H1,I1,r,q⟩=>⟨I1.kIn,?_⟩) he hpl
 exact run_fn F hr hb hd hx I1 r q
end
section
variable {X:Cx} {CX:CXT} {k:Nat} {f C:Addr} {fd:FuncData} {ps ks:List Str} {sp:Sp} {E:XK} {x m:Str} {p pos apos kpos:Pos} {e o:Expr} {es:List Expr} {kws:List Keyword} {te ta:TE} {t tk:TA} {nm:Option Str}
variable {g:List Value→List Value→List Value} {gV:List V→List V→List V}
end
structure FnScope (N P:List Str) (sc:Scope):Prop where
 kind:sc.kind=.function
 co:sc.isCoroutine=false
 gen:sc.isGenerator=false
 nd:N.Nodup
 pre:N.take P.length=P
 par:∀ x ∈ P,sc.names.lookup x=some .local ∨ sc.names.lookup x=some .cell
 nofree:∀ y ∈ sc.names,y.2 ≠ .free
theorem bindL_out {kindOf:Str→Option NameKind} {x:Str}:∀ {binds:List (Str × Value)} {m:Str→Option Value},(∀ v,(x,v) ∉ binds)→bindL kindOf binds m x=m x
 | [],_,_=>rfl
 | (n,v) :: r,m,h=>by
  unfold bindL
  rw [bindL_out fun w hw=>h w (List.mem_cons_of_mem _ hw)]
  split
  ·have:x ≠ n:=by rintro rfl; exact h v List.mem_cons_self
   simp [this]
  ·rfl
theorem bindC_out {kindOf:Str→Option NameKind} {x:Str}:∀ {binds:List (Str × Value)} {m:Str→Option Value},(∀ v,(x,v) ∉ binds)→bindC kindOf binds m x=m x
 | [],_,_=>rfl
 | (n,v) :: r,m,h=>by
  unfold bindC
  rw [bindC_out fun w hw=>h w (List.mem_cons_of_mem _ hw)]
  split
  ·rfl
  ·have:x ≠ n:=by rintro rfl; exact h v List.mem_cons_self
   simp [this]
theorem bindL_get {kindOf:Str→Option NameKind} {x:Str} {v:Value}:∀ {P:List Str} {vs:List Value} {i:Nat} {m:Str→Option Value},P.Nodup→P[i]?=some x→vs[i]?=some v→kindOf x=some .local →
  bindL kindOf (P.zip vs) m x=some v
 | [],_,_,_,_,h,_,_=>by simp at h
 | _ :: _,[],_,_,_,_,h,_=>by simp at h
 | p :: P,w :: vs,0,m,nd,h1,h2,hk=>by
  simp at h1 h2; subst h1; subst h2
  show bindL kindOf ((p,w) :: P.zip vs) m p=_
  unfold bindL
  rw [bindL_out fun v hv=>(List.nodup_cons.mp nd).1 (List.of_mem_zip hv).1,if_pos hk]
  simp
 | p :: P,w :: vs,i + 1,m,nd,h1,h2,hk=>by
  show bindL kindOf ((p,w) :: P.zip vs) m x=_
  unfold bindL
  exact bindL_get (i:=i) (List.nodup_cons.mp nd).2 (by simpa using h1) (by simpa using h2) hk
theorem bindC_get {kindOf:Str→Option NameKind} {x:Str} {v:Value}:∀ {P:List Str} {vs:List Value} {i:Nat} {m:Str→Option Value},P.Nodup→P[i]?=some x→vs[i]?=some v→kindOf x ≠ some .local →
  bindC kindOf (P.zip vs) m x=some v
 | [],_,_,_,_,h,_,_=>by simp at h
 | _ :: _,[],_,_,_,_,h,_=>by simp at h
 | p :: P,w :: vs,0,m,nd,h1,h2,hk=>by
  simp at h1 h2; subst h1; subst h2
  show bindC kindOf ((p,w) :: P.zip vs) m p=_
  unfold bindC
  rw [bindC_out fun v hv=>(List.nodup_cons.mp nd).1 (List.of_mem_zip hv).1,if_neg hk]
  simp
 | p :: P,w :: vs,i + 1,m,nd,h1,h2,hk=>by
  show bindC kindOf ((p,w) :: P.zip vs) m x=_
  unfold bindC
  exact bindC_get (i:=i) (List.nodup_cons.mp nd).2 (by simpa using h1) (by simpa using h2) hk
def start (N:List Str) (vs:List V):St:=vs.map some ++ List.replicate (N.length - vs.length) none
def cxOf (CX:CXT) (P:Program) (w:World) (K:PySem.W.Frag) (mg:Str→Option Value) (base:Heap) (N:List Str) (qual:Str) (scope:Scope) (f:Addr) (cd:Value) (A:Around) (outer:List Env) (s:Shared) (H:Hp) (E:XK):Cx where
 prog:=P
 w:=w
 K:=K
 mg:=mg
 base:=base
 A:=A.deeper (envOfC qual scope s.heap.objs.size f cd)
 N:=N
 s₀:=s
 H₀:=H
 env:=envOfC qual scope s.heap.objs.size f cd
 outer:=outer
 stack:=envOfC qual scope s.heap.objs.size f cd :: outer
 ex:=[]
 calm:=true
 fn:=fun _=>true
 pn:=[]
 xe:=fun e s'=>wpAny (model P w) (A.deeper (envOfC qual scope s.heap.objs.size f cd)) (leaving (envOfC qual scope s.heap.objs.size f cd) e) (fun _ s''=>CX outer H s E e s'') (fun e' s''=>CX outer H s E e' s'') s'
theorem cell_has {sc:Scope} {n:Nat} {x:Str} (h:sc.names.lookup x=some .cell):∃ c,(cellsFrom n sc.names []).lookup x=some c:=by
 have q:=PySem.W.cellsFrom_some sc.names n [] (.inl h)
 exact Option.isSome_iff_exists.mp q
theorem inv_start {CX:CXT} {P:Program} {w:World} {K:PySem.W.Frag} {mg:Str→Option Value} {base:Heap} {N ps:List Str} {qual:Str} {scope:Scope} {f:Addr} {cd:Value} {A:Around} {outer:List Env} {s s1:Shared} {H:Hp} {E:XK} {us:List Value} {vs:List V}
  (S:FnScope N ps scope) (hd:A.handled=none) (e0:Env0 P w K mg base A outer s H) (hl:vs.length=ps.length) (r:Vals vs us)
  (x:InCallC s s.heap.objs.size (bindL (envOfC qual scope s.heap.objs.size f cd).kindOf (ps.zip us) fun _=>none) (cellsFrom (s.heap.objs.size + 1) scope.names []) (bindC (envOfC qual scope s.heap.objs.size f cd).kindOf (ps.zip us) fun _=>none) s1) :
  Inv (cxOf CX P w K mg base N qual scope f cd A outer s H E) [] (start N vs) H s1:=by
 have hpl:ps.length ≤ N.length:=by have:=congrArg List.length S.pre; rw [List.length_take] at this; omega
 obtain ⟨h1,tk,rfl,hk⟩:=x.done
 have noA:∀ b:Addr,b ∉ (cxOf CX P w K mg base N qual scope f cd A outer s H E).ex:=fun b z=>absurd (show b ∈ ([]:List Addr) from z) (by simp)
 refine ⟨⟨e0.mod,S.kind,rfl,rfl,Nat.le_refl _,fun y z c h1 h2=>?_,fun y hy=>?_,fun y c _ h=>?_,fun _=>hd,Around.frames_deeper e0.frames,.inr ⟨rfl,rfl⟩,fun b z=>absurd z (noA b),e0.bs,e0.bsz,fun b _ _=>noA b,fun b z=>absurd z (noA b),e0.funs,e0.frf⟩,
  rfl,e0.bare,Un.kept hk,⟨_,x.toInCall.ns,fun i y v h1 h2 h3=>?_⟩,fun y c h=>⟨_,x.cell y c h⟩,e0.hok.fresh (Nat.le_refl _),fun y c h=>?_,fun p hp=>absurd (show p ∈ ([]:List (Addr × Obj)) from hp) (by simp),e0.hok.kept hk,?_⟩
 ·exact name_of_addr x.apart (PySem.mem_of_lookup h1) (PySem.mem_of_lookup h2)
 ·have hy:scope.names.lookup y=some .cell ∨ scope.names.lookup y=some .free:=hy
  rcases hy with hy | hy
  ·exact cell_has hy
  ·exact absurd rfl (S.nofree _ (PySem.mem_of_lookup hy))
 ·exact Nat.le_of_lt (x.above y c (PySem.mem_of_lookup h))
 ·have hi:i < vs.length:=by
   unfold start at h2
   by_cases hi:i < vs.length
   ·exact hi
   ·rw [List.getElem?_append_right (by simpa using hi)] at h2
    rw [List.getElem?_replicate] at h2
    split at h2 <;> cases h2
  have ha:vs[i]?=some v:=by
   unfold start at h2
   rw [List.getElem?_append_left (by simpa using hi),List.getElem?_map] at h2
   cases e:vs[i]? with
   | none=>rw [e] at h2; cases h2
   | some a=>rw [e] at h2; cases h2; rfl
  obtain ⟨u,hu,rv⟩:=r.get ha
  have hp:ps[i]?=some y:=by
   rw [← S.pre,List.getElem?_take_of_lt (by omega)]; exact h1
  have ndP:ps.Nodup:=by rw [← S.pre]; exact S.nd.sublist (List.take_sublist _ _)
  refine ⟨u,rv,?_⟩
  rcases S.par y (List.mem_of_getElem? hp) with k | k
  ·exact .inl ⟨k,bindL_get ndP hp hu k⟩
  ·obtain ⟨c,e⟩:=cell_has (n:=s.heap.objs.size + 1) k
   refine .inr ⟨.inl k,c,e,?_⟩
   have q:=x.cell y c e
   rw [bindC_get ndP hp hu (by show scope.names.lookup y ≠ _; rw [k]; decide)] at q
   exact q
 ·exact e0.hok.fresh (Nat.le_of_lt (x.above y c (PySem.mem_of_lookup h)))
 ·unfold start
  show _=N.length
  rw [List.length_append,List.length_map,List.length_replicate]
  omega
theorem fn_of {CX:CXT} {P:Program} {w:World} {K:PySem.W.Frag} {mg:Str→Option Value} {base:Heap} {k:Nat} {f:Addr} {name qual:Str} {params:Arguments} {body:List Stmt} {scope:Scope} {dV kV doc pm cdv ct oc:Value} {an od:Option Addr}
  {osl:Array (Option Value)} {N ps:List Str} {sp:Sp} (lk:K.lookup f=some ⟨oc,od,.func (PySem.W.fnOf name qual params body scope dV kV doc pm an cdv ct),osl⟩) (hcd:PySem.W.codeIn K cdv qual=true) (S:FnScope N ps scope)
  (len:∀ vs H Q E,sp vs H Q E→vs.length=ps.length)
  (hbody:∀ (A:Around) (outer:List Env) (s:Shared) (H:Hp) (vs:List V) (Q:VK) (E:XK),Room k (A.deeper (envOfC qual scope s.heap.objs.size f cdv))→sp vs H Q E →
   ∃ t,PSs (cxOf CX P w K mg base N qual scope f cdv A outer s H E) body t∧t { nx:=fun _ H'=>Q .non H',rt:=Q } (start N vs) H) :
  FnOk P w K mg base CX (k + 1) f (PySem.W.fnOf name qual params body scope dV kV doc pm an cdv ct) ps sp:=by
 refine ⟨len,fun A outer s H args us vs Q E hr e0 hb r hsp=>?_⟩
 have hl:=len _ _ _ _ hsp
 have KX:K.In s.heap:=e0.mod.kin.keeps fun b o e=>(e0.bs b o e).1
 have lim:s.heap.NoLimit:=e0.mod.nolimit.keeps fun b o e=>(e0.bs b o e).1
 have hkind:∀ y ∈ ps.zip us,scope.names.lookup y.1=some .local ∨ (scope.names.lookup y.1=some .cell∧((cellsFrom (s.heap.objs.size + 1) scope.names []).lookup y.1).isSome=true):=fun ⟨n,v⟩ hy=>by
  rcases S.par n (List.of_mem_zip hy).1 with q | q
  ·exact .inl q
  ·exact .inr ⟨q,PySem.W.cellsFrom_some _ _ _ (.inl q)⟩
 refine codeAny_call_function hr.depth (KX _ _ lk) rfl S.co S.gen rfl (PySem.W.codeRec_of KX hcd) (hb _ _ _ _ ?_)
 refine wpAny_newFunctionEnv_cells S.kind hkind fun env he s1 x=>?_
 subst he
 refine ⟨lim.keeps x.toInCall.keep,codeAny_func ?_⟩
 obtain ⟨t,ht,hq⟩:=hbody A outer s H vs Q E (hr.deeper _) hsp
 have I:Inv (cxOf CX P w K mg base N qual scope f cdv A outer s H E) [] (start N vs) H s1:=inv_start S hr.hd e0 hl r x
 refine wpAny_mono (ht [] s1 (start N vs) H _ I hq) (fun fl s' hs=>?_) fun e s' hs=>hs
 have fin:∀ {σ':St} {H':Hp} {v:V} {u:Value},Inv (cxOf CX P w K mg base N qual scope f cdv A outer s H E) [] σ' H' s'→RelV v u→Q v H'→CE outer P w H s Q u s' :=
  fun {σ' H' v u} J rv q=>⟨v,H',J.os,J.bare,J.base,J.hok,rv,q⟩
 cases fl with
 | ret u =>
  obtain ⟨v,σ',H',J,rv,q⟩:=hs
  exact fin J rv q
 | next =>
  obtain ⟨σ',H',J,q⟩:=hs
  exact fin (v:=V.non) (u:=Value.none) J rfl q
 | brk =>
  obtain ⟨_,_,_,q⟩:=hs
  exact False.elim q
 | cont =>
  obtain ⟨_,_,_,q⟩:=hs
  exact False.elim q
end L2
namespace L2
open PySem PySem.Spec PyProof.Rows
section
variable {X:Cx} {x:Str} {p pos:Pos} {e:Expr} {es:List Expr} {t:TA} {id T:String} {r:List V→Hp→VK→Prop}
def tCB (r:List V→Hp→VK→Prop) (t:TA):TE:=fun σ H Q=>t σ H fun vs H1=>r vs H1 Q
theorem jb0 (hc:CallR X (.builtin id) r) (hg:Gl X x) (hm:X.mg x=none) (hv:bootBuiltins x=some (.builtin id)) (ha:PA X (e :: es) t) (hn:x ≠ "__name__":=by decide) (hdb:(x == ("__debug__" : Str))=false:=by decide)
  (he:starEach (e :: es) X.env=(false,eval e X.env) :: starEach es X.env:=by rfl) (hpl:(backTo pos (starEach es X.env)).any (·.1)=false:=by rfl):PE X (.Call (.Name x p) (e :: es) [] pos) (tCB r t):=by
 intro pins s σ H Q I h
 refine wpAny_Call_Name_kw (ld_blt I hg hm hv ?_ hn hdb)
 exact PyProof.Rows.callWith_builtin1 (thn (ha pos pins s σ H _ I h) fun us s1 ⟨vs,H1,I1,r1,q1⟩=>hc pins s1 σ H1 vs us Q I1 r1 q1) he hpl
theorem jb6 (hc:CallR X (.type T) r) (hg:Gl X x) (hm:X.mg x=none) (hv:bootBuiltins x=some (.type T)) (ha:PA X (e :: es) t) (hn:x ≠ "__name__":=by decide) (hdb:(x == ("__debug__" : Str))=false:=by decide)
  (he:starEach (e :: es) X.env=(false,eval e X.env) :: starEach es X.env:=by rfl) (hpl:(backTo pos (starEach es X.env)).any (·.1)=false:=by rfl):PE X (.Call (.Name x p) (e :: es) [] pos) (tCB r t):=by
 intro pins s σ H Q I h
 refine wpAny_Call_Name_kw (ld_blt I hg hm hv ?_ hn hdb)
 exact PyProof.Rows.callWith_type1 (thn (ha pos pins s σ H _ I h) fun us s1 ⟨vs,H1,I1,r1,q1⟩=>hc pins s1 σ H1 vs us Q I1 r1 q1) he hpl
end
end L2
namespace HT
open PySem PyProof.Rows
section
open PySem.SeqAt
open PySem.AutoSeq1 (wpAny_loadPart')
open PySem.MeetsSeq PySem.MeetsSeq2 PySem.MeetsSeq3
end
section
variable {prog:Program} {w:World} {A:Around} {E:Value→Shared→Prop} {s:Shared}
theorem cat_tup {t b:Addr} {vs ws:List Value} {Q:Value→Shared→Prop} (ht:IsTup s.heap t vs.toArray) (hb:IsTup s.heap b ws.toArray) (hv:vs ≠ [])
  (h1:ws=[]→Q (.ref t) s) (h2:ws ≠ []→Q (.ref s.heap.objs.size) { s with heap:=s.heap.push { cls:=.type "tuple",data:=.seq (vs ++ ws).toArray } })
  (hsz:vs.length + ws.length ≤ sizeLine):wpAny (model prog w) A (binaryOp .Add (.ref t) (.ref b)) Q E s:=by
 obtain ⟨⟨cls,dd,data,sl⟩,ho,hc,n,hd⟩:=id ht
 obtain ⟨⟨cls2,dd2,data2,sl2⟩,ho2,hc2,n2,hd2⟩:=id hb
 simp only at hc hd hc2 hd2
 subst hc hd hc2 hd2
 have e:vs.toArray ++ ws.toArray=(vs ++ ws).toArray:=by simp
 by_cases hw:ws=[]
 ·exact concat_meets ⟨_,ho,rfl⟩ ⟨_,ho2,rfl⟩ noFill_tuple_add seq_tuple_add PySem.F.slot_tuple_add PySem.F.entry_tuple_add (PySem.F.args_tuple_add_2 _ _)
   (tuple_addW1 t b vs.toArray ws.toArray n n2 dd dd2 sl sl2 (by simpa using hv) (by simp [hw])) ⟨ho,ho2,h1 hw⟩
 ·refine concat_meets ⟨_,ho,rfl⟩ ⟨_,ho2,rfl⟩ noFill_tuple_add seq_tuple_add PySem.F.slot_tuple_add PySem.F.entry_tuple_add (PySem.F.args_tuple_add_2 _ _)
   (tuple_addW2 t b vs.toArray ws.toArray n n2 dd dd2 sl sl2 (by simpa using hv) (by simpa using hw) (by rw [List.size_toArray,List.size_toArray]; exact hsz)) ⟨ho,ho2,?_⟩
  rw [e]
  exact h2 hw
def sIx (n d:Nat):Option Int→Nat
 | none=>d
 | some v=>if v < 0 then (v + (n:Int)).toNat else min v.toNat n
theorem sIx_none (n d:Nat):sIx n d none=d:=rfl
theorem sIx_le (n d:Nat) (hd:d ≤ n) (o:Option Int):sIx n d o ≤ n:=by
 cases o with
 | none=>exact hd
 | some v =>
  show (if v < 0 then (v + (n:Int)).toNat else min v.toNat n) ≤ n
  by_cases hv:v < 0
  ·rw [if_pos hv]; omega
  ·rw [if_neg hv]; exact Nat.min_le_right _ _
theorem clip_eq (v:Int) (n d:Nat):(if v < 0 then max (v + (n:Int)) 0 else min v (n:Int))=((sIx n d (some v):Nat):Int):=by
 show (if v < 0 then max (v + (n:Int)) 0 else min v (n:Int))=(((if v < 0 then (v + (n:Int)).toNat else min v.toNat n):Nat):Int)
 by_cases hv:v < 0
 ·simp only [if_pos hv]; omega
 ·simp only [if_neg hv]; omega
theorem adjust_gen (lo hi:Option Int) (n:Nat):Builtin.Slice.sliceAdjust lo hi 1 (n:Int)=(((sIx n 0 lo:Nat):Int),((sIx n n hi:Nat):Int)):=by
 have h1:¬ ((1:Int) < 0):=by omega
 unfold Builtin.Slice.sliceAdjust
 simp only [h1,if_false]
 refine Prod.ext ?_ ?_
 ·cases lo with
  | none=>rfl
  | some v=>exact clip_eq v n 0
 ·cases hi with
  | none=>rfl
  | some v=>exact clip_eq v n n
theorem places_gen (i j:Nat):Builtin.Slice.slicePlaces (i:Int) (j:Int) 1=j - i:=by
 unfold Builtin.Slice.slicePlaces
 have h1:(1:Int) > 0:=by omega
 simp only [h1,if_true,Int.ediv_one]
 split <;> omega
theorem slicePart_ {v:Value} {o:Option Int} {Q:Option Int→Shared→Prop} (p:IsPart v o) (h:Q o s):wpAny (model prog w) A (Builtin.Slice.slicePartIndex v) Q E s:=by
 cases p with
 | none=>exact slicePart_none h
 | int i t=>exact slicePart_int h
theorem sliceApplied_gen {sl:Addr} {vl vu:Value} {lo hi:Option Int} {n:Nat} {Q:Int × Int × Nat→Shared→Prop} (hs:s.heap.IsSliceOf sl vl vu .none) (pl:IsPart vl lo) (pu:IsPart vu hi)
  (h:Q (((sIx n 0 lo:Nat):Int),1,sIx n n hi - sIx n 0 lo) s):wpAny (model prog w) A (Builtin.Slice.sliceApplied (.ref sl) (pure (n:Int))) Q E s:=by
 obtain ⟨os,hos,hcs,hds⟩:=id hs
 unfold Builtin.Slice.sliceApplied Builtin.Slice.sliceFields
 refine wpAny_bind (wpAny_bind (wpAny_field hos hds (x:=vl) rfl (wpAny_bind (wpAny_field hos hds (x:=vu) rfl (wpAny_bind (wpAny_field hos hds (x:=.none) rfl (wpAny_pure ?_)))))))
 refine wpAny_bind (slicePart_none ?_)
 show wpAny _ _ (if ((1:Int) == 0)=true then _ else _) _ _ s
 rw [if_neg (by decide)]
 refine wpAny_bind (slicePart_ pl (wpAny_bind (slicePart_ pu (wpAny_bind (wpAny_pure ?_)))))
 show wpAny _ _ (match Builtin.Slice.sliceAdjust lo hi 1 (n:Int) with | (lo,hi)=>pure (lo,(1:Int),Builtin.Slice.slicePlaces lo hi 1)) _ _ s
 rw [adjust_gen lo hi n]
 show wpAny _ _ (pure (((sIx n 0 lo:Nat):Int),(1:Int),Builtin.Slice.slicePlaces ((sIx n 0 lo:Nat):Int) ((sIx n n hi:Nat):Int) 1)) _ _ s
 rw [places_gen]
 exact wpAny_pure h
theorem pick_gen (xs:Array Value) (i k:Nat):((List.range k).filterMap fun (m:Nat)=>xs[((i:Int) + (m:Int) * 1).toNat]?).toArray=((xs.toList.drop i).take k).toArray:=by
 have e:(fun (m:Nat)=>xs[((i:Int) + (m:Int) * 1).toNat]?)=fun m=>xs[i + m]?:=by
  funext m
  have:((i:Int) + (m:Int) * 1).toNat=i + m:=by omega
  rw [this]
 rw [e]
 have:=pick_run xs i k
 rw [List.filterMap_map] at this
 have e2:((fun x=>xs[x]?) ∘ fun x=>i + x)=fun m=>xs[i + m]?:=rfl
 rw [e2] at this
 rw [this]
theorem getItem_tuple_cut {t sl:Addr} {items:Array Value} {vl vu:Value} {lo hi:Option Int} {Q:Value→Shared→Prop} (ht:IsTup s.heap t items) (hs:s.heap.IsSliceOf sl vl vu .none) (pl:IsPart vl lo) (pu:IsPart vu hi)
  (hw:¬ (sIx items.size 0 lo=0∧sIx items.size items.size hi=items.size))
  (h:Q (.ref s.heap.objs.size) { s with heap:=s.heap.push { cls:=.type "tuple",data:=.seq ((items.toList.drop (sIx items.size 0 lo)).take (sIx items.size items.size hi - sIx items.size 0 lo)).toArray } })
  (hsz:items.size ≤ sizeLine):wpAny (model prog w) A (getItem (.ref t) (.ref sl)) Q E s:=by
 have htake:sizeOk (.seq ((items.toList.drop (sIx items.size 0 lo)).take (sIx items.size items.size hi - sIx items.size 0 lo)).toArray):=by
  show ((items.toList.drop (sIx items.size 0 lo)).take (sIx items.size items.size hi - sIx items.size 0 lo)).toArray.size ≤ sizeLine
  rw [List.size_toArray,List.length_take,List.length_drop,Array.length_toList]
  omega
 have hj:sIx items.size items.size hi ≤ items.size:=sIx_le _ _ (Nat.le_refl _) hi
 obtain ⟨os,hos,hcs,hds⟩:=id hs
 have hTs:s.TypeIs (.ref sl) "slice":=⟨os,hos,hcs⟩
 unfold getItem
 try with_reducible refine wpAny_holding ?_
 first | refine wpAny_bind (wpAny_pure ?_) | skip
 refine wpAny_bind (wpAny_sequenceKey ht.typeIs (by decide) ?_)
 refine wpAny_bind (wpAny_callSpecial?_slot (name:=Str.ofString "__getitem__") ht.typeIs PyProof.Rows.slot_tuple_getitem
  (wpAny_call_entry PyProof.Rows.slot_tuple_getitem ht.typeIs entry_tuple_getitem ?_ (args_tuple_getitem _ _)))
 show wpAny _ _ (Builtin.Tuple.tupleItemsOf (.ref t) >>= _) _ _ s
 refine wpAny_bind (tupleItemsOf_ ht ?_)
 refine wpAny_bind (wpAny_typeOf hTs ?_)
 rw [if_pos (by decide)]
 refine wpAny_bind (sliceApplied_gen hs pl pu ?_)
 have hno:¬ ((((sIx items.size 0 lo:Nat):Int) == 0 && (1:Int) == 1 && (sIx items.size items.size hi - sIx items.size 0 lo) == items.size)=true):=by
  intro q
  rw [Bool.and_eq_true,Bool.and_eq_true] at q
  have q1:((sIx items.size 0 lo:Nat):Int)=0:=eq_of_beq q.1.1
  have q2:sIx items.size items.size hi - sIx items.size 0 lo=items.size:=eq_of_beq q.2
  exact hw ⟨by omega,by omega⟩
 show wpAny _ _ (if (((sIx items.size 0 lo:Nat):Int) == 0 && (1:Int) == 1 && (sIx items.size items.size hi - sIx items.size 0 lo) == items.size)=true then _ else _) _ _ s
 rw [if_neg hno,pick_gen]
 first
  | exact wpAny_bind (m:=Builtin.Tuple.tupleExact _) (wpAny_newObj_type (wpAny_pure ⟨_,rfl,wpAny_pure h⟩) htake)
  | exact wpAny_bind (m:=Builtin.Tuple.tupleExact _) (wpAny_newObj_type (wpAny_bind (wpAny_pure (wpAny_pure ⟨_,rfl,wpAny_pure h⟩))) htake)
  | exact wpAny_bind (wpAny_bind (m:=Builtin.Tuple.tupleExact _) (wpAny_newObj_type (wpAny_pure (wpAny_pure ⟨_,rfl,wpAny_pure h⟩)) htake))
  | exact wpAny_bind (wpAny_bind (m:=Builtin.Tuple.tupleExact _) (wpAny_newObj_type (wpAny_pure ⟨_,rfl,wpAny_pure h⟩) htake))
end
end HT
namespace L2
open PySem PySem.Spec PyProof.Rows
abbrev TO:=St→Hp→(Option Int→Hp→Prop)→Prop
def PO (X:Cx) (e:Option Expr) (t:TO):Prop :=
 ∀ (pins:List (Addr × Obj)) (s:Shared) (σ:St) (H:Hp) (Q:Option Int→Hp→Prop),Inv X pins σ H s→t σ H Q →
  wpAny (model X.prog X.w) X.A (evalPart e X.env) (fun u s'=>∃ o H',Inv X pins σ H' s'∧IsPart u o∧Q o H') X.xe s
def tNoPart:TO:=fun _ H Q=>Q none H
def tPart (t:TE):TO:=fun σ H Q=>t σ H fun x H1=>∃ i,x=.int i∧Q (some i) H1
section
variable {X:Cx} {e:Expr} {te:TE} {lo hi:Option Expr} {tl th:TO} {pos p2:Pos}
theorem po_none:PO X none tNoPart:=by
 intro pins s σ H Q I h
 rw [evalPart_none]
 exact wpAny_pure ⟨none,H,I,.none,h⟩
theorem po_some (h:PE X e te):PO X (some e) (tPart te):=by
 intro pins s σ H Q I hw
 rw [evalPart_some]
 refine thn (h pins s σ H _ I hw) fun u s1 ⟨x,H1,I1,r1,q1⟩=>?_
 obtain ⟨i,rfl,q⟩:=q1
 obtain ⟨t,rfl⟩:=r1
 exact ⟨some i,H1,I1,.int i t,q⟩
def SlR (X:Cx) (r:V→Option Int→Option Int→Hp→VK→Prop):Prop :=
 ∀ (pins:List (Addr × Obj)) (s:Shared) (σ:St) (H:Hp) (x:V) (v vl vu:Value) (lo hi:Option Int) (sl:Addr) (Q:VK),Inv X pins σ H s→RelV x v→s.heap.IsSliceOf sl vl vu .none→IsPart vl lo→IsPart vu hi→r x lo hi H Q →
  ∃ T id,typeLookup (.type T) "__getitem__"=pure (some (.builtin id))∧s.TypeIs v T∧wpAny (model X.prog X.w) X.A (getItem v (.ref sl)) (EP X pins σ Q) X.xe s
def tSl (r:V→Option Int→Option Int→Hp→VK→Prop) (te:TE) (tl th:TO):TE:=fun σ H Q=>te σ H fun x H1=>tl σ H1 fun l H2=>th σ H2 fun u H3=>r x l u H3 Q
theorem pe_slice {r:V→Option Int→Option Int→Hp→VK→Prop} (hr:SlR X r) (he:PE X e te) (hl:PO X lo tl) (hu:PO X hi th):PE X (.Subscript e (.Slice lo hi none p2) pos) (tSl r te tl th):=by
 intro pins s σ H Q I h
 refine Subscript_ (thn (he pins s σ H _ I h) fun v s1 ⟨x,H1,I1,r1,q1⟩=>?_)
 refine wpAny_Slice (thn (hl pins s1 σ H1 _ I1 q1) fun vl s2 ⟨l,H2,I2,pl,q2⟩=>thn (hu pins s2 σ H2 _ I2 q2) fun vu s3 ⟨u,H3,I3,pu,q3⟩=>?_)
 rw [evalPart_none]
 refine wpAny_pure ?_
 have I4:Inv X pins σ H3 { s3 with heap:=s3.heap.push { cls:=.type "slice",data:=.fields #[vl,vu,.none] } }:=I3.kept (t':=s3.toks) fun b ob q=>Heap.get?_push_of_some _ q
 obtain ⟨T,id,hT,ht,hg⟩:=hr pins { s3 with heap:=s3.heap.push { cls:=.type "slice",data:=.fields #[vl,vu,.none] } } σ H3 x v vl vu l u s3.heap.objs.size Q I4 r1 (Heap.IsSliceOf.new ..) pl pu q3
 show wpAny (model X.prog X.w) X.A (subscriptTail e (.Slice lo hi none p2) v (.ref s3.heap.objs.size)) (EP X pins σ Q) X.xe { s3 with heap:=s3.heap.push { cls:=.type "slice",data:=.fields #[vl,vu,.none] } }
 exact tail_any (ops:=[.ref s3.heap.objs.size,v]) ht hT hg (by with_unfolding_all rfl)
def cutV (xs:List V) (lo hi:Option Int):List V:=(xs.drop (HT.sIx xs.length 0 lo)).take (HT.sIx xs.length xs.length hi - HT.sIx xs.length 0 lo)
theorem cutV_length (xs:List V) (lo hi:Option Int):(cutV xs lo hi).length ≤ xs.length:=by
 unfold cutV
 rw [List.length_take,List.length_drop]
 omega
def rSlT (K:PySem.W.Frag):V→Option Int→Option Int→Hp→VK→Prop:=fun x lo hi H Q=>∃ a xs,x=.ref a∧SqT K H a xs ∧
 ¬ (HT.sIx xs.length 0 lo=0∧HT.sIx xs.length xs.length hi=xs.length)∧∀ p,H p=none→Q (.ref p) (upd H p (.tup (cutV xs lo hi)))
theorem sl_tup:SlR X (rSlT X.K):=by
 intro pins s σ H x v vl vu lo hi sl Q I rx hs pl pu h
 obtain ⟨a,xs,rfl,hx,hw,q⟩:=h
 cases rx
 obtain ⟨its,r,ht,hz⟩:=I.tuple hx
 have hlen:its.toArray.size=xs.length:=by rw [List.size_toArray]; exact r.length.symm
 refine ⟨"tuple",_,PyProof.Rows.slot_tuple_getitem.lookup,ht.typeIs,?_⟩
 refine HT.getItem_tuple_cut ht hs pl pu (by rw [hlen]; exact hw) ?_ (by rw [hlen]; exact hz)
 rw [hlen]
 refine ⟨.ref s.heap.objs.size,_,I.laid (t':=s.toks) (o:=.tup (cutV xs lo hi)) (fun b ob q=>Heap.get?_push_of_some _ q) (Nat.le_refl _) ?_,rfl,q _ (I.hok.fresh (Nat.le_refl _))⟩
 exact ⟨Nat.le_trans (cutV_length xs lo hi) hz,_,(r.drop (HT.sIx xs.length 0 lo)).take (HT.sIx xs.length xs.length hi - HT.sIx xs.length 0 lo),IsTup.new _ _⟩
def rCatT (K:PySem.W.Frag):R2:=fun x y H Q=>∃ a b xs ys,x=.ref a∧y=.ref b∧SqT K H a xs∧SqT K H b ys∧xs ≠ []∧xs.length + ys.length ≤ sizeLine ∧
 (ys=[]→Q (.ref a) H)∧(ys ≠ []→∀ p,H p=none→Q (.ref p) (upd H p (.tup (xs ++ ys))))
theorem Vals.nil_iff {xs:List V} {us:List Value} (r:Vals xs us):us=[] ↔ xs=[]:=by
 cases r with
 | nil=>simp
 | cons _ _=>simp
theorem op_catT:OpR X (binaryOp .Add) (rCatT X.K):=by
 intro pins s σ H x y v u Q I rx ry h
 obtain ⟨a,b,xs,ys,rfl,rfl,ha,hb,hx,hz,q1,q2⟩:=h
 cases rx
 cases ry
 obtain ⟨its,r1,p1,_⟩:=I.tuple ha
 obtain ⟨its2,r2,p2,_⟩:=I.tuple hb
 refine HT.cat_tup p1 p2 (fun z=>hx (r1.nil_iff.mp z)) (fun z=>⟨.ref a,H,I,rfl,q1 (r2.nil_iff.mp z)⟩) (fun z=>?_) (by rw [← r1.length,← r2.length]; exact hz)
 refine ⟨.ref s.heap.objs.size,_,I.laid (t':=s.toks) (o:=.tup (xs ++ ys)) (fun b ob q=>Heap.get?_push_of_some _ q) (Nat.le_refl _) ?_,rfl,q2 (fun w=>z (r2.nil_iff.mpr w)) _ (I.hok.fresh (Nat.le_refl _))⟩
 exact ⟨by rw [List.length_append]; exact hz,_,r1.append r2,IsTup.new _ _⟩
end
end L2
namespace L2
open PySem PySem.Spec PyProof.Rows
def ixN (n:Nat) (i:Int):Option Nat:=if 0 ≤ i then (if i < n then some i.toNat else none) else if -(n:Int) ≤ i then some (i + n).toNat else none
def atI {α : Type} (xs:List α) (i:Int):Option α:=(ixN xs.length i).bind fun j=>xs[j]?
theorem ixN_seq {n:Nat} {i:Int} {j:Nat} (h:ixN n i=some j):seqIndex? i n=some j∧j < n∧-(n:Int) ≤ i∧i < n:=by
 unfold ixN at h
 by_cases h0:0 ≤ i
 ·rw [if_pos h0] at h
  by_cases h1:i < n
  ·rw [if_pos h1] at h
   have e:i.toNat=j:=Option.some.inj h
   exact ⟨by rw [seqIndex_of h0 h1,e],by omega,by omega,h1⟩
  ·rw [if_neg h1] at h; cases h
 ·rw [if_neg h0] at h
  by_cases h1:-(n:Int) ≤ i
  ·rw [if_pos h1] at h
   have e:(i + n).toNat=j:=Option.some.inj h
   exact ⟨by rw [seqIndex_neg (by omega) h1,e],by omega,h1,by omega⟩
  ·rw [if_neg h1] at h; cases h
theorem atI_get {α : Type} {xs:List α} {i:Int} {v:α} (h:atI xs i=some v):∃ j,seqIndex? i xs.length=some j∧xs[j]?=some v∧j < xs.length∧-(xs.length:Int) ≤ i∧i < xs.length:=by
 unfold atI at h
 cases e:ixN xs.length i with
 | none=>rw [e] at h; cases h
 | some j =>
  rw [e] at h
  obtain ⟨h1,h2,h3,h4⟩:=ixN_seq e
  exact ⟨j,h1,h,h2,h3,h4⟩
theorem atI_nat {α : Type} {xs:List α} {j:Nat} {v:α} (h:xs[j]?=some v):atI xs (j:Int)=some v:=by
 have hj:j < xs.length:=(List.getElem?_eq_some_iff.mp h).1
 have e:ixN xs.length (j:Int)=some j:=by
  unfold ixN
  rw [if_pos (by omega),if_pos (by omega)]; simp
 unfold atI; rw [e]; exact h
def PlainIx (b:Expr):Prop:=∀ o i,subscripted b false o i=operate [o,i] (getItem o i)
def IxR (X:Cx) (r:R2):Prop :=
 ∀ (value slice:Expr) (pins:List (Addr × Obj)) (s:Shared) (σ:St) (H:Hp) (x y:V) (v u:Value) (Q:VK),Inv X pins σ H s→RelV x v→RelV y u→r x y H Q →
  subscripted slice false v u=operate [v,u] (getItem v u)→wpAny (model X.prog X.w) X.A (subscriptTail value slice v u) (EP X pins σ Q) X.xe s
def MtR (X:Cx) (id:String) (r:V→List V→Hp→VK→Prop):Prop :=
 ∀ (pins:List (Addr × Obj)) (s:Shared) (σ:St) (H:Hp) (x:V) (xs:List V) (v:Value) (us:List Value) (Q:VK),Inv X pins σ H s→RelV x v→Vals xs us→r x xs H Q →
  wpAny (model X.prog X.w) X.A (call (.builtin id) (v :: us)) (EP X pins σ Q) X.xe s
section
variable {X:Cx} {a b:Expr} {ta tb:TE} {pos:Pos}
theorem ja9 {r:R2} (hr:IxR X r) (ha:PE X a ta) (hb:PE X b tb) (hs:PlainIx b):PE X (.Subscript a b pos) (tOp r ta tb):=by
 intro pins s σ H Q I h
 exact Subscript_ (binT ha hb I h fun v u s2 x y H2 I2 rx ry q=>hr a b pins s2 σ H2 x y v u Q I2 rx ry q (hs _ _))
def rIxL (K:PySem.W.Frag):R2:=fun x y H Q=>∃ p xs i v,x=.ref p∧y=.int i∧SqL K H p xs∧atI xs i=some v∧Q v H
def rIxT (K:PySem.W.Frag):R2:=fun x y H Q=>∃ p xs i v,x=.ref p∧y=.int i∧SqT K H p xs∧atI xs i=some v∧Q v H
theorem ix_list:IxR X (rIxL X.K):=by
 intro value slice pins s σ H x y v u Q I rx ry h hs
 obtain ⟨p,xs,i,z,rfl,rfl,hq,he,q⟩:=h
 cases rx
 obtain ⟨t,rfl⟩:=ry
 obtain ⟨its,r,pl,hz⟩:=I.list hq
 obtain ⟨j,h1,h2,h3,h4,h5⟩:=atI_get he
 obtain ⟨w,ew,rw'⟩:=r.get h2
 have hl:=r.length
 have hn:=line63
 have fin:EP X pins σ Q w s:=⟨z,H,I,rw',q⟩
 by_cases h0:0 ≤ i
 ·have hj:i.toNat=j:=by
   rw [seqIndex_of h0 h5] at h1
   exact Option.some.inj h1
  exact item_listR pl.isList h0 (by omega) (by rw [hj]; simpa using ew) fin hs
 ·have hj:(i + (its.toArray.size:Int)).toNat=j:=by
   rw [seqIndex_neg (by omega) h4] at h1
   rw [List.size_toArray,← hl]
   exact Option.some.inj h1
  exact subscriptTail_builtinR (x:=w) pl.isList.typeIs slot_list_getitem.lookup
   (wpAny_getItem_list_neg (Q:=fun r s'=>r=w∧EP X pins σ Q r s') pl.isList (by omega) (by rw [List.size_toArray] <;> omega) (by omega) (by rw [hj]; simpa using ew) ⟨rfl,fin⟩) hs
theorem ix_tup:IxR X (rIxT X.K):=by
 intro value slice pins s σ H x y v u Q I rx ry h hs
 obtain ⟨p,xs,i,z,rfl,rfl,hq,he,q⟩:=h
 cases rx
 obtain ⟨t,rfl⟩:=ry
 obtain ⟨its,r,pl,hz⟩:=I.tuple hq
 obtain ⟨j,h1,h2,h3,h4,h5⟩:=atI_get he
 obtain ⟨w,ew,rw'⟩:=r.get h2
 have hl:=r.length
 have hn:=line63
 have fin:EP X pins σ Q w s:=⟨z,H,I,rw',q⟩
 exact subscriptTail_builtinR (x:=w) pl.typeIs slot_tuple_getitem.lookup
  (getItem_tuple (j:=j) (Q:=fun r s'=>r=w∧EP X pins σ Q r s') pl (by omega) (by omega) (by rw [List.size_toArray,← hl]; exact h1) (by simpa using ew) ⟨rfl,fin⟩) hs
theorem mapSeq_set (its:List Value) (n j:Nat) (u:Value):Obj.mapSeq (·.setIfInBounds j u) { cls:=.type "list",data:=.seq its.toArray n }={ cls:=.type "list",data:=.seq (its.set j u).toArray n }:=by
 simp [Obj.mapSeq]
theorem Inv.lst {pins:List (Addr × Obj)} {σ:St} {H:Hp} {s:Shared} {p:Addr} {xs:List V} (I:Inv X pins σ H s) (h:H p=some (.lst xs)) :
  ∃ (its:List Value) (n:Nat),Vals xs its∧s.heap.get? p=some { cls:=.type "list",data:=.seq its.toArray n }∧xs.length ≤ sizeLine:=by
 obtain ⟨z,its,n,r,e⟩:=I.hok p _ h
 exact ⟨its,n,r,e,z⟩
theorem Inv.lstUpd {pins:List (Addr × Obj)} {σ:St} {H:Hp} {s:Shared} {p:Addr} {xs ys:List V} {its its':List Value} {n n':Nat} {f:Obj→Obj} (I:Inv X pins σ H s) (h:H p=some (.lst xs))
  (ho:s.heap.get? p=some { cls:=.type "list",data:=.seq its.toArray n }) (hf:f { cls:=.type "list",data:=.seq its.toArray n }={ cls:=.type "list",data:=.seq its'.toArray n' }) (r:Vals ys its') (hz:ys.length ≤ sizeLine) (t:Nat) :
  Inv X pins σ (upd H p (.lst ys)) { s with heap:=s.heap.update p f,toks:=t }:=by
 have e:(s.heap.update p f).get? p=some { cls:=.type "list",data:=.seq its'.toArray n' }:=by
  rw [Heap.get?_update_self f ho (by rw [hf] <;> rfl),hf]
 refine I.write (x:=p) (e:=p) (by rw [h]; trivial) (.inl rfl) (fun b u hb q=>(Heap.get?_update_other _ _ (Ne.symm hb)).trans q) ⟨_,e⟩ ?_
 exact ⟨hz,its',n',r,e⟩
def rSetL:V→V→V→Hp→(Hp→Prop)→Prop:=fun o i v H Q=>∃ p xs k j,o=.ref p∧i=.int k∧H p=some (.lst xs)∧ixN xs.length k=some j∧Q (upd H p (.lst (xs.set j v)))
theorem set_list:PSet X rSetL:=by
 intro pins s σ H o i v ov iv u Q I ro ri rv h
 obtain ⟨p,xs,k,j,rfl,rfl,hp,hj,q⟩:=h
 cases ro
 obtain ⟨t,rfl⟩:=ri
 obtain ⟨its,n,r,ho,hz⟩:=I.lst hp
 obtain ⟨h1,h2,h3,h4⟩:=ixN_seq hj
 have hl:=r.length
 have hn:=line63
 have I':Inv X pins σ (upd H p (.lst (xs.set j v))) { s with heap:=s.heap.update p (Obj.mapSeq (·.setIfInBounds j u)) } :=
  I.lstUpd hp ho (mapSeq_set its n j u) (r.set rv j) (by rw [List.length_set]; exact hz) s.toks
 by_cases h0:0 ≤ k
 ·have hk:k.toNat=j:=by
   rw [seqIndex_of h0 h4] at h1
   exact Option.some.inj h1
  exact PySem.W.ki_setAt ho h0 (by omega) (by rw [List.size_toArray,← hl]; exact h4) (by rw [hk]; exact ⟨_,I',q⟩)
 ·have hk:(k + (its.toArray.size:Int)).toNat=j:=by
   rw [seqIndex_neg (by omega) h3] at h1
   rw [List.size_toArray,← hl]
   exact Option.some.inj h1
  exact PySem.W.ki_setBack ho (by omega) (by rw [List.size_toArray,← hl]; exact h3) (by omega) (by rw [hk]; exact ⟨_,I',q⟩)
theorem slice_bounds (lo hi:Option Int) (n:Nat):(sliceBounds lo hi none n).1=((HT.sIx n 0 lo:Nat):Int)∧(sliceBounds lo hi none n).2.1=((HT.sIx n n hi:Nat):Int)∧(sliceBounds lo hi none n).2.2=1:=by
 refine ⟨?_,?_,rfl⟩
 ·cases lo with
  | none=>simp [sliceBounds,HT.sIx]
  | some i =>
   simp only [sliceBounds,HT.sIx,Option.getD_none,show (1:Int) > 0 by decide,if_true]
   by_cases h:i < 0
   ·simp only [h,if_true] <;> omega
   ·simp only [h,if_false] <;> omega
 ·cases hi with
  | none=>simp [sliceBounds,HT.sIx]
  | some i =>
   simp only [sliceBounds,HT.sIx,Option.getD_none,show (1:Int) > 0 by decide,if_true]
   by_cases h:i < 0
   ·simp only [h,if_true] <;> omega
   ·simp only [h,if_false] <;> omega
theorem slicePick_cut (its:List Value) (lo hi:Option Int):slicePick its.toArray lo hi none=((its.drop (HT.sIx its.length 0 lo)).take (HT.sIx its.length its.length hi - HT.sIx its.length 0 lo)).toArray:=by
 obtain ⟨h1,h2,h3⟩:=slice_bounds lo hi its.toArray.size
 unfold slicePick
 rw [h1,h2,h3]
 simp only [sliceRange_one,pick_run,List.size_toArray] <;> rfl
def rSlL (K:PySem.W.Frag):V→Option Int→Option Int→Hp→VK→Prop:=fun x lo hi H Q=>∃ a xs,x=.ref a∧SqL K H a xs∧∀ p,H p=none→Q (.ref p) (upd H p (.lst (cutV xs lo hi)))
theorem sl_list:SlR X (rSlL X.K):=by
 intro pins s σ H x v vl vu lo hi sl Q I rx hs pl pu h
 obtain ⟨a,xs,rfl,hx,q⟩:=h
 cases rx
 obtain ⟨its,r,ht,hz⟩:=I.list hx
 have hlen:=r.length
 refine ⟨"list",_,slot_list_getitem.lookup,ht.isList.typeIs,?_⟩
 refine wpAny_getItem_list_slice ht.isList hs pl pu .none (by simp) ?_ (by rw [List.size_toArray] <;> omega)
 rw [slicePick_cut,← hlen]
 refine ⟨.ref s.heap.objs.size,_,I.laid (t':=s.toks) (o:=.lst (cutV xs lo hi)) (fun b ob q=>Heap.get?_push_of_some _ q) (Nat.le_refl _) ?_,rfl,q _ (I.hok.fresh (Nat.le_refl _))⟩
 exact ⟨Nat.le_trans (cutV_length xs lo hi) hz,_,0,(r.drop (HT.sIx xs.length 0 lo)).take (HT.sIx xs.length xs.length hi - HT.sIx xs.length 0 lo),Heap.get?_push_size _ rfl⟩
def flatV:V→Bool
 | .non=>true
 | .bl _=>true
 | .int _=>true
 | .str _=>true
 | _=>false
def eqV:V→V→Bool
 | .non,.non=>true
 | .bl a,.bl b=>a == b
 | .bl a,.int b=>(if a then 1 else 0) == b
 | .int a,.bl b=>a == (if b then 1 else 0)
 | .int a,.int b=>a == b
 | .str a,.str b=>a == b
 | _,_=>false
theorem eqAt_V {A:Around} {s:Shared} {y x:V} {u v:Value} (ry:RelV y u) (rx:RelV x v) (fy:flatV y=true) (fx:flatV x=true):SeqAt.EqAt A s u v (eqV y x):=by
 cases y with
 | non =>
  cases ry
  cases x with
  | non=>cases rx; exact SeqAt.EqAt.same _
  | bl b=>cases rx; exact SeqAt.EqAt.none_bool b
  | int b=>obtain ⟨t,rfl⟩:=rx; exact SeqAt.EqAt.none_int b t
  | str b=>obtain ⟨t,rfl⟩:=rx; exact SeqAt.EqAt.none_str b t
  | _=>exact absurd (show false=true from fx) Bool.false_ne_true
 | bl a =>
  cases ry
  cases x with
  | non=>cases rx; exact SeqAt.EqAt.bool_none a
  | bl b=>cases rx; exact SeqAt.EqAt.bool_bool a b
  | int b=>obtain ⟨t,rfl⟩:=rx; exact SeqAt.EqAt.bool_int a b t
  | str b=>obtain ⟨t,rfl⟩:=rx; exact SeqAt.EqAt.bool_str a b t
  | _=>exact absurd (show false=true from fx) Bool.false_ne_true
 | int a =>
  obtain ⟨t',rfl⟩:=ry
  cases x with
  | non=>cases rx; exact SeqAt.EqAt.int_none a t'
  | bl b=>cases rx; exact SeqAt.EqAt.int_bool a t' b
  | int b=>obtain ⟨t,rfl⟩:=rx; exact SeqAt.EqAt.int_int a t' b t
  | str b=>obtain ⟨t,rfl⟩:=rx; exact SeqAt.EqAt.int_str a t' b t
  | _=>exact absurd (show false=true from fx) Bool.false_ne_true
 | str a =>
  obtain ⟨t',rfl⟩:=ry
  cases x with
  | non=>cases rx; exact SeqAt.EqAt.str_none a t'
  | bl b=>cases rx; exact SeqAt.EqAt.str_bool a t' b
  | int b=>obtain ⟨t,rfl⟩:=rx; exact SeqAt.EqAt.str_int a t' b t
  | str b=>obtain ⟨t,rfl⟩:=rx; exact SeqAt.EqAt.str_str a t' b t
  | _=>exact absurd (show false=true from fx) Bool.false_ne_true
 | _=>exact absurd (show false=true from fy) Bool.false_ne_true
def eqU (x:V) (u:Value):Bool:=match u with
 | .none=>eqV .non x
 | .bool b=>eqV (.bl b) x
 | .int i _=>eqV (.int i) x
 | .str z _=>eqV (.str z) x
 | _=>false
theorem eqU_of {x y:V} {u:Value} (r:RelV y u) (f:flatV y=true):eqU x u=eqV y x:=by
 cases y with
 | non=>cases r; rfl
 | bl b=>cases r; rfl
 | int i=>obtain ⟨t,rfl⟩:=r; rfl
 | str z=>obtain ⟨t,rfl⟩:=r; rfl
 | _=>exact absurd (show false=true from f) Bool.false_ne_true
theorem any_eqU {x:V}:∀ {xs:List V} {us:List Value},Vals xs us→xs.all flatV=true→us.any (eqU x)=xs.any fun y=>eqV y x
 | _,_,.nil,_=>rfl
 | y :: xs,u :: us,.cons r t,f=>by
  rw [List.all_cons,Bool.and_eq_true] at f
  rw [List.any_cons,List.any_cons,eqU_of r f.1,any_eqU t f.2]
theorem mem_eqAt {A:Around} {s:Shared} {x:V} {v:Value} (rx:RelV x v) (fx:flatV x=true):∀ {xs:List V} {us:List Value},Vals xs us→xs.all flatV=true→∀ u ∈ us,SeqAt.EqAt A s u v (eqU x u)
 | _,_,.nil,_=>fun u hu=>by cases hu
 | y :: xs,u :: us,.cons r t,f=>fun u' hu=>by
  rw [List.all_cons,Bool.and_eq_true] at f
  rcases List.mem_cons.mp hu with rfl | hu
  ·rw [eqU_of r f.1]; exact eqAt_V r rx f.1 fx
  ·exact mem_eqAt rx fx t f.2 u' hu
def inV (x:V) (xs:List V):Bool:=xs.any fun y=>eqV y x
def rIn (K:PySem.W.Frag) (neg:Bool):R2:=fun x y H Q=>∃ p xs,y=.ref p∧(SqL K H p xs ∨ SqT K H p xs)∧flatV x=true∧xs.all flatV=true∧Q (.bl (if neg then !inV x xs else inV x xs)) H
theorem op_in_seq:OpR X (compareOp .In) (rIn X.K false):=by
 intro pins s σ H x y v u Q I rx ry h
 obtain ⟨p,xs,rfl,hq,fx,fs,q⟩:=h
 cases ry
 rcases hq with hq | hq
 ·obtain ⟨its,r,pl,hz⟩:=I.list hq
  refine SeqAt.in_listAt (eqU x) pl.isList (fun w hw=>mem_eqAt rx fx r fs w (by simpa using hw)) ⟨.bl _,H,I,rfl,?_⟩
  rw [show its.toArray.any (eqU x)=its.any (eqU x) by simp,any_eqU r fs]
  exact q
 ·obtain ⟨its,r,pl,hz⟩:=I.tuple hq
  refine SeqAt.in_tupleAt (eqU x) pl (fun w hw=>mem_eqAt rx fx r fs w (by simpa using hw)) ⟨.bl _,H,I,rfl,?_⟩
  rw [show its.toArray.any (eqU x)=its.any (eqU x) by simp,any_eqU r fs]
  exact q
theorem op_notIn_seq:OpR X (compareOp .NotIn) (rIn X.K true):=by
 intro pins s σ H x y v u Q I rx ry h
 obtain ⟨p,xs,rfl,hq,fx,fs,q⟩:=h
 cases ry
 rcases hq with hq | hq
 ·obtain ⟨its,r,pl,hz⟩:=I.list hq
  refine SeqAt.notIn_listAt (eqU x) pl.isList (fun w hw=>mem_eqAt rx fx r fs w (by simpa using hw)) ⟨.bl _,H,I,rfl,?_⟩
  rw [show its.toArray.any (eqU x)=its.any (eqU x) by simp,any_eqU r fs]
  exact q
 ·obtain ⟨its,r,pl,hz⟩:=I.tuple hq
  refine SeqAt.notIn_tupleAt (eqU x) pl (fun w hw=>mem_eqAt rx fx r fs w (by simpa using hw)) ⟨.bl _,H,I,rfl,?_⟩
  rw [show its.toArray.any (eqU x)=its.any (eqU x) by simp,any_eqU r fs]
  exact q
theorem call_len_seq:CallR X (.builtin "len") (fun xs H Q=>∃ p ys,xs=[.ref p]∧(SqL X.K H p ys ∨ SqT X.K H p ys)∧Q (.int ys.length) H):=by
 intro pins s σ H xs us Q I r h
 obtain ⟨p,ys,rfl,hq,q⟩:=h
 obtain ⟨u,rfl,rx⟩:=vals1 r
 cases rx
 have hn:=line63
 rcases hq with hq | hq
 ·obtain ⟨its,r',pl,hz⟩:=I.list hq
  have hlen:=r'.length
  exact Calls.call_len_list pl.isList (by simp only [List.size_toArray] <;> omega) ⟨.int ys.length,H,I.tok _,⟨s.toks + 1,by rw [List.size_toArray,hlen]⟩,q⟩
 ·obtain ⟨its,r',pl,hz⟩:=I.tuple hq
  have hlen:=r'.length
  exact len_tuple pl (by simp only [List.size_toArray] <;> omega) ⟨.int ys.length,H,I.tok _,⟨s.toks + 1,by rw [List.size_toArray,hlen]⟩,q⟩
theorem call_list_of:CallR X (.type "list") (fun xs H Q=>∃ p ys,xs=[.ref p]∧(SqL X.K H p ys ∨ SqT X.K H p ys)∧∀ l,H l=none→Q (.ref l) (upd H l (.lst ys))):=by
 intro pins s σ H xs us Q I r h
 obtain ⟨p,ys,rfl,hq,q⟩:=h
 obtain ⟨u,rfl,rx⟩:=vals1 r
 cases rx
 have fin:∀ (its:List Value),Vals ys its→ys.length ≤ sizeLine→∀ (h':Heap) (c':Nat),(∀ b o',s.heap.get? b=some o'→h'.get? b=some o') →
   h'.get? s.heap.objs.size=some { cls:=.type "list",dict:=none,data:=.seq its.toArray c',slots:=#[] }→EP X pins σ Q (.ref s.heap.objs.size) { s with heap:=h' }:=fun its r' hz h' c' kp e =>
  ⟨.ref s.heap.objs.size,_,I.laid (t':=s.toks) kp (Nat.le_refl _) (show ObjOk X.prog X.w _ h' _ (.lst ys) from ⟨hz,its,c',r',e⟩),rfl,q _ (I.hok.fresh (Nat.le_refl _))⟩
 rcases hq with hq | hq
 ·obtain ⟨its,r',pl,hz⟩:=I.list hq
  have hlen:=r'.length
  obtain ⟨o,ho,hc,n,hd⟩:=pl.isList
  exact call_list_seq p (.inl rfl) ho hc hd (fun h' c' kp e=>fin its r' hz h' c' kp e) (by simp only [List.size_toArray] <;> omega)
 ·obtain ⟨its,r',pl,hz⟩:=I.tuple hq
  have hlen:=r'.length
  obtain ⟨o,ho,hc,n,hd⟩:=pl
  exact call_list_seq p (.inr rfl) ho hc hd (fun h' c' kp e=>fin its r' hz h' c' kp e) (by simp only [List.size_toArray] <;> omega)
theorem call_tuple_of:CallR X (.type "tuple") (fun xs H Q=>∃ p ys,xs=[.ref p]∧((SqL X.K H p ys∧∀ l,H l=none→Q (.ref l) (upd H l (.tup ys))) ∨ (SqT X.K H p ys∧Q (.ref p) H))):=by
 intro pins s σ H xs us Q I r h
 obtain ⟨p,ys,rfl,h⟩:=h
 obtain ⟨u,rfl,rx⟩:=vals1 r
 cases rx
 rcases h with ⟨hq,q⟩ | ⟨hq,q⟩
 ·obtain ⟨its,r',pl,hz⟩:=I.list hq
  have hlen:=r'.length
  refine call_tuple_list pl.isList (fun h' kp=>?_) (by simp only [List.size_toArray] <;> omega)
  have I1:Inv X pins σ H { s with heap:=h' }:=I.kept (t':=s.toks) kp
  have I2:Inv X pins σ (upd H h'.objs.size (.tup ys)) { s with heap:=h'.push { cls:=.type "tuple",data:=.seq its.toArray } } :=
   I1.laid (t':=s.toks) (fun b o e=>Heap.get?_push_of_some _ e) (Nat.le_refl _) (show ObjOk X.prog X.w _ _ _ (.tup ys) from ⟨hz,its,r',IsTup.new _ _⟩)
  exact ⟨.ref h'.objs.size,_,I2,rfl,q _ (I1.hok.fresh (Nat.le_refl _))⟩
 ·obtain ⟨its,r',pl,hz⟩:=I.tuple hq
  exact call_tuple_same pl ⟨.ref p,H,I,rfl,q⟩
def tyV (K:PySem.W.Frag) (T:String) (x:V) (H:Hp):Prop:=match x with
 | .str _=>T="str"
 | .int _=>T="int"
 | .ref p=>(T="list"∧∃ xs,SqL K H p xs) ∨ (T="tuple"∧∃ o,K.lookup p=some o∧o.cls=.type "tuple"∧o.dict=none) ∨
   (T="dict"∧((∃ kvs,H p=some (.dK kvs)) ∨ ∃ kvs,H p=some (.dT kvs))) ∨ (T="set"∧∃ S n,H p=some (.set S n))
 | _=>False
theorem tyV_is {pins:List (Addr × Obj)} {σ:St} {H:Hp} {s:Shared} {T:String} {x:V} {v:Value} (I:Inv X pins σ H s) (r:RelV x v) (ty:tyV X.K T x H) :
  s.TypeIs v T∧∀ a,v=.ref a→∃ ob,s.heap.get? a=some ob∧ob.dict=none:=by
 cases x with
 | str z =>
  obtain ⟨t,rfl⟩:=r
  cases (show T="str" from ty)
  exact ⟨typeIs_str s z t,fun _ e=>nomatch e⟩
 | int i =>
  obtain ⟨t,rfl⟩:=r
  cases (show T="int" from ty)
  exact ⟨typeIs_int s i t,fun _ e=>nomatch e⟩
 | ref p =>
  cases r
  rcases ty with ⟨rfl,xs,hq⟩ | ⟨rfl,o,hk,hc,hd⟩ | ⟨rfl,hk⟩ | ⟨rfl,S,n,hk⟩
  ·obtain ⟨its,_,pl,_⟩:=I.list hq
   refine ⟨pl.isList.typeIs,fun a e=>?_⟩
   cases e
   obtain ⟨o,n,e,c,hd,_⟩:=pl
   exact ⟨o,e,hd⟩
  ·refine ⟨⟨o,I.kIn p o hk,hc⟩,fun a e=>?_⟩
   cases e
   exact ⟨o,I.kIn _ o hk,hd⟩
  ·have z:∃ o,s.heap.get? p=some o∧o.ExactDict:=by
    rcases hk with ⟨kvs,hk⟩ | ⟨kvs,hk⟩
    ·obtain ⟨_,_,_,_,o,_,_,e,ex,_⟩:=I.hok p _ hk
     exact ⟨o,e,ex⟩
    ·obtain ⟨_,_,_,_,o,_,_,e,ex,_⟩:=I.hok p _ hk
     exact ⟨o,e,ex⟩
   obtain ⟨o,e,ex⟩:=z
   refine ⟨⟨o,e,ex.1⟩,fun a e2=>?_⟩
   cases e2
   exact ⟨o,e,ex.2.1⟩
  ·obtain ⟨o,_,_,_,e,ex,_⟩:=I.hok p _ hk
   refine ⟨⟨o,e,ex.1⟩,fun a e2=>?_⟩
   cases e2
   exact ⟨o,e,ex.2.1⟩
 | _=>exact False.elim ty
def tBM0 (K:PySem.W.Frag) (T:String) (r:V→List V→Hp→VK→Prop) (to:TE):TE:=fun σ H Q=>to σ H fun x H1=>tyV K T x H1∧r x [] H1 Q
def tBM (K:PySem.W.Frag) (T:String) (r:V→List V→Hp→VK→Prop) (to:TE) (t:TA):TE:=fun σ H Q=>to σ H fun x H1=>tyV K T x H1∧t σ H1 fun xs H2=>r x xs H2 Q
variable {o e:Expr} {es:List Expr} {to:TE} {t:TA} {name:Str} {apos cpos:Pos} {T id:String} {r:V→List V→Hp→VK→Prop}
theorem pe_bm0 (pa:PlainAttrs T) (slot:Slot T name id) (hty:typeOf (.builtin id)=pure (.type "method_descriptor")) (hm:MtR X id r) (ho:PE X o to)
  (hbase:attributeBase o name X.env (eval o X.env)=eval o X.env:=by rfl) (hline:(apos.endLine == cpos.line)=true:=by rfl):PE X (.Call (.Attribute o name apos) [] [] cpos) (tBM0 X.K T r to):=by
 intro pins s σ H Q I h
 refine wpAny_Call_method0_late hbase hline (thn (ho pins s σ H _ I h) fun v s1 ⟨x,H1,I1,r1,ty,q1⟩=>?_)
 obtain ⟨h1,h2⟩:=tyV_is I1 r1 ty
 exact ⟨T,id,pa,slot,hty,h1,h2,Calls.callWith_builtin rfl (PySem.evalArgs_none (hm pins s1 σ H1 x [] v [] Q I1 r1 .nil q1))⟩
end
end L2
namespace L2
open PySem PySem.Spec PyProof.Rows
def MtM (X:Cx) (id:String) (r:V→List V→Hp→VK→Prop):Prop :=
 ∀ (pins:List (Addr × Obj)) (s:Shared) (σ:St) (H:Hp) (x:V) (xs:List V) (v:Value) (us:List Value) (Q:VK),Inv X pins σ H s→RelV x v→Vals xs us→r x xs H Q →
  wpAny (model X.prog X.w) X.A (call (.builtin id) (v :: us)) (EP X pins σ Q) X.xe s
theorem Vals.one:∀ {x:V} {us:List Value},Vals [x] us→∃ u,us=[u]∧RelV x u
 | _,_,.cons r .nil=>⟨_,rfl,r⟩
theorem Vals.rep {xs:List V} {us:List Value} (h:Vals xs us):∀ k:Nat,Vals (List.replicate k xs).flatten (List.replicate k us).flatten
 | 0=>.nil
 | k + 1=>by
  rw [List.replicate_succ,List.replicate_succ,List.flatten_cons,List.flatten_cons]
  exact Vals.append h (Vals.rep h k)
theorem foldl_rep (its:List Value):∀ (k:Nat) (acc:List Value),
  List.foldl (fun x1 x2=>x1 ++ x2) acc.toArray (List.replicate k its.toArray)=(acc ++ (List.replicate k its).flatten).toArray
 | 0,acc=>by simp
 | k + 1,acc=>by
  have e:acc.toArray ++ its.toArray=(acc ++ its).toArray:=by simp
  have e2:(acc ++ its) ++ (List.replicate k its).flatten=acc ++ (List.replicate (k + 1) its).flatten:=by
   rw [List.replicate_succ,List.flatten_cons,List.append_assoc]
  rw [← e2,← foldl_rep its k (acc ++ its),← e,List.replicate_succ,List.foldl_cons]
section
variable {X:Cx} {pins:List (Addr × Obj)} {σ:St} {H:Hp} {s:Shared} {l b:Addr} {xs ys zs:List V}
theorem Inv.lset {its its':List Value} {n:Nat} {f:Array Value→Array Value} {t':Nat} (I:Inv X pins σ H s) (hH:H l=some (.lst xs))
  (e:s.heap.get? l=some { cls:=.type "list",data:=.seq its.toArray n }) (hf:f its.toArray=its'.toArray) (hv:Vals ys its') (hz:ys.length ≤ sizeLine) :
  Inv X pins σ (upd H l (.lst ys)) { s with heap:=s.heap.update l (Obj.mapSeq f),toks:=t' }:=by
 have q:=PySem.IsL.update e f
 rw [hf] at q
 refine I.write (x:=l) (e:=l) (by rw [hH]; exact trivial) (.inl rfl) (fun b' u hb hu=>(Heap.get?_update_other s.heap (Obj.mapSeq f) (Ne.symm hb)).trans hu) ⟨_,q⟩ ?_
 exact ⟨hz,its',_,hv,q⟩
theorem Inv.lnew {its:List Value} {t':Nat} (I:Inv X pins σ H s) (hv:Vals ys its) (hz:ys.length ≤ sizeLine) :
  Inv X pins σ (upd H s.heap.objs.size (.lst ys)) { s with heap:=s.heap.push { cls:=.type "list",data:=.seq its.toArray },toks:=t' } :=
 I.laid (fun _ _ q=>Heap.get?_push_of_some _ q) (Nat.le_refl _) ⟨hz,its,0,hv,Heap.get?_push_size _ rfl⟩
theorem Inv.fresh (I:Inv X pins σ H s):H s.heap.objs.size=none:=I.hok.fresh (Nat.le_refl _)
theorem Inv.lstM (I:Inv X pins σ H s) (hH:H l=some (.lst xs)):xs.length ≤ sizeLine∧∃ (its:List Value) (n:Nat),Vals xs its∧xs.length=its.length∧s.heap.get? l=some { cls:=.type "list",data:=.seq its.toArray n }:=by
 obtain ⟨z,its,n,r,e⟩:=I.hok l _ hH
 exact ⟨z,its,n,r,r.length,e⟩
end
section
variable {X:Cx}
def rAppend:V→List V→Hp→VK→Prop:=fun x vs H Q=>∃ l xs y,x=.ref l∧vs=[y]∧H l=some (.lst xs)∧xs.length < sizeLine∧Q .non (upd H l (.lst (xs ++ [y])))
theorem jf3:MtM X "list.append" rAppend:=by
 intro pins s σ H x vs v us Q I rx rv h
 obtain ⟨l,xs,y,rfl,rfl,hH,hz,q⟩:=h
 cases rx
 obtain ⟨u,rfl,ru⟩:=rv.one
 obtain ⟨z,its,n,r,hl,e⟩:=I.lstM hH
 refine call_meets F.slot_list_append ⟨_,e,rfl⟩ F.entry_list_append (F.args_list_append_2 _ _) (PySem.list_append l its.toArray n u (by rw [List.size_toArray]; omega)) ⟨e,?_⟩
 refine ⟨.non,_,I.lset (its':=its ++ [u]) hH e (by simp) (r.append (.cons ru .nil)) ?_,rfl,q⟩
 rw [List.length_append,List.length_singleton]
 omega
def rCat:R2:=fun x y H Q=>∃ l b xs zs,x=.ref l∧y=.ref b∧H l=some (.lst xs)∧H b=some (.lst zs)∧xs.length + zs.length ≤ sizeLine∧∀ p,H p=none→Q (.ref p) (upd H p (.lst (xs ++ zs)))
theorem op_cat:OpR X (binaryOp .Add) rCat:=by
 intro pins s σ H x y v u Q I rx ry h
 obtain ⟨l,b,xs,zs,rfl,rfl,hH,hB,hz,q⟩:=h
 cases rx
 cases ry
 obtain ⟨z,its,n,r,hl,e⟩:=I.lstM hH
 obtain ⟨z2,its2,n2,r2,hl2,e2⟩:=I.lstM hB
 refine PySem.P.add_list e e2 ?_ (by rw [List.size_toArray,List.size_toArray]; omega)
 have ea:its.toArray ++ its2.toArray=(its ++ its2).toArray:=by simp
 rw [ea]
 exact ⟨.ref _,_,I.lnew (t':=s.toks) (r.append r2) (by rw [List.length_append]; omega),rfl,q _ I.fresh⟩
theorem len_rep {α : Type} (xs:List α) (k:Nat):(List.replicate k xs).flatten.length=k * xs.length:=by
 induction k with
 | zero=>simp
 | succ k ih=>rw [List.replicate_succ,List.flatten_cons,List.length_append,ih,Nat.succ_mul,Nat.add_comm]
end
section
variable {prog:Program} {w:World} {A:Around} {E:Value→Shared→Prop} {s:Shared}
end
section
variable {X:Cx}
end
end L2
namespace Att
open PySem PySem.W PySem.Calls PyProof.Rows
theorem ints_of_wellAll {P:Params} {h:Heap}:∀ (ns:List Int) (vs:List Value),WellAll P h vs (ns.map WData.int)→IntsAre vs ns:=by
 intro ns
 induction ns with
 | nil =>
  intro vs w
  rw [List.map_nil] at w
  cases w
  exact .nil
 | cons n ns ih =>
  intro vs w
  rw [List.map_cons] at w
  cases w with
  | cons a b =>
   cases a
   exact .cons _ _ (ih _ b)
theorem script_of {l:OpenLaw} {n:Nat} (hn:l.most=some n) {P:Params} {h:Heap} {args:List WData} {vals:List Value}
  (hpre:l.row.toRowW.claim.pre args=true) (hwl:WellAll P h vals args) :
  ∃ a vs ns,vals=[Value.ref a]∧args=[WData.list (ns.map WData.int)]∧h.get? a=some { cls:=.type "list",data:=.seq vs.toArray }∧IntsAre vs ns∧ns.length ≤ n:=by
 have hsh:WShape.hasAll [] args [.list .int]=true:=(pre_splitW hpre).1
 have hc:l.pre.holds [] { args:=args }=true:=(pre_splitW hpre).2
 obtain ⟨d,r,rfl,h1,h2⟩:=hasAllW_cons hsh
 obtain rfl:=hasAllW_nil h2
 obtain ⟨xs,rfl,h3⟩:=hasW_list h1
 obtain ⟨ns,rfl⟩:=items_int h3
 have hlen:ns.length ≤ n:=by
  unfold OpenLaw.pre at hc
  have h4:(WTm.not (.lt (.lit (.int (n:Int))) (.len (.arg 0)))).holds [] { args:=[.list (ns.map .int)] }=true:=by
   have h4:=(holds_andW hc).1
   rw [hn] at h4
   exact h4
  have h5:=condW_of h4 (w_not (w_lt w_lit (w_len_list (w_arg rfl))))
  rw [List.length_map] at h5
  refine Nat.le_of_not_lt fun q=>?_
  have q':(n:Int) < ((ns.length:Nat):Int):=by omega
  first
   | (rw [decide_eq_true q'] at h5; exact absurd h5 (by decide))
   | (simp at h5; omega)
 cases hwl with
 | cons w1 w2 =>
  cases w2
  cases w1 with
  | list ho hall=>exact ⟨_,_,ns,rfl,rfl,ho,ints_of_wellAll ns _ hall,hlen⟩
theorem post_true (l:OpenLaw) (args:List WData):l.row.toRowW.claim.post args (.bool true) args=true :=
 postW_of (r:=l.row.toRowW) (X:=(true == true))
  (show WShape.has [] (.bool true) .bool=true by first | rfl | decide | simp [WShape.has,WShape.arms,WShape.armsAll])
  (show (WTm.eq .res (.lit (.bool true))).value [] { args:=args,res:=some (.bool true),after:=args }=some (.bool (true == true)) from w_eq_bool (w_res rfl) w_lit) rfl
theorem attach_call {l:OpenLaw} {n:Nat} {q:Program} {loose:List Str} {XP:(Str→Option Value)→Heap→Prop} {YP:World→Heap→Prop} {d:DefRec}
  (hn:l.most=some n) (hdf:d.params.defaults=[])
  (call:∀ (w:World) (s₀ s₁:Shared) (mg mb:Str→Option Value) (fa:Addr) (o:Obj) (pm cd doc:Value) (a:Addr) (vs:List Value) (ns:List Int),
   Ground q loose [] XP w s₀ mg mb s₁.heap→YP w s₁.heap →
   s₁.heap.get? fa=some o→o.data=.func (docDef d.name d.params d.body d.scope pm cd doc)→s₁.heap.CodeRec cd d.name→mg d.name=some (.ref fa) →
   s₁.heap.get? a=some { cls:=.type "list",data:=.seq vs.toArray }→IntsAre vs ns→ns.length ≤ n→s₁.gens=#[] →
   codeAny (model l.prog w) callerA (.call (.ref fa) ⟨[.ref a],[]⟩) (fun r s'=>r=.ok (.ret (.bool true))∧OldK s₁.heap s'.heap∧s'.os=s₁.os∧AllBare s'.gens) s₁) :
  WalkO q loose XP YP l.row.toRowW d [] (fun f vs=>PySem.call f vs):=by
 intro w s₀ s₁ mg mb G Y fa o pm cd doc dV kV ho hd hcd hD hmg hg args vals as hpre hlay hrd hwl hlo
 obtain rfl:dV=.none:=Dflts.none hD hdf
 obtain rfl:kV=.none:=Dflts.noKw hD
 obtain ⟨a,vs,ns,rfl,rfl,hobj,hints,hlen⟩:=script_of hn hpre hwl
 refine enter_call (codeAny_mono (call w s₀ s₁ mg mb fa o pm cd doc a vs ns G Y ho (fd_plain hd) hcd hmg hobj hints hlen hg) fun r s' hq=>?_)
 obtain ⟨rfl,h2,h3,h4⟩:=hq
 exact ⟨.inl ⟨.bool true,.bool true,[],rfl,fun _=>rfl,.bool true,post_true l _,fun _=>⟨List.Pairwise.nil,fun _ hm=>(nomatch hm)⟩⟩,h2,h3,h4⟩
section
variable {prog:Program} {w:World} {A:Around} {E:Value→Shared→Prop} {s:Shared} {K:Frag}
end
end Att
namespace L2
open PySem PySem.Spec PyProof.Rows
theorem vals_ints:∀ {vs:List Value} {ns:List Int},IntsAre vs ns→Vals (ns.map V.int) vs
 | _,_,.nil=>.nil
 | _,_,.cons n t h=>.cons ⟨t,rfl⟩ (vals_ints h)
def Only (H:Hp):Prop:=∀ b,H b=none ∨ ∃ o xs,H b=some (.frz o (.lst xs))
theorem law_call {P:Program} {w:World} {K:PySem.W.Frag} {mg mb:Str→Option Value} {CX:CXT} {k:Nat} {fa a:Addr} {fd:FuncData} {x:Str} {sp:Sp} {s₁:Shared} {vs:List Value} {ns:List Int}
  (KX:K.In s₁.heap) (hns:s₁.heap.Ns mainGlobals mg) (hb:s₁.heap.Ns builtinsNs mb) (hbb:∀ x:Str,x ≠ "__name__"→mb x=bootBuiltins x) (hlim:s₁.heap.NoLimit) (hg:s₁.gens=#[])
  (ha:s₁.heap.get? a=some { cls:=.type "list",data:=.seq vs.toArray }) (hi:IntsAre vs ns) (hl:ns.length ≤ sizeLine) (hr:Room k callerA)
  (F:∀ base:Heap,K.In base→base.Ns mainGlobals mg→FnOk P w K mg base CX k fa fd [x] sp) (hbind:∀ (s:Shared) (u:Value),BindsTo s fd ⟨[u],[]⟩ [(x,u)])
  (hsp:∀ H:Hp,Only H→SqL K H a (ns.map V.int)→sp [.ref a] H (fun v _=>v=.bl true) fun _ _ _=>False)
  (hCX:∀ H e s',CX [] H s₁ (fun _ _ _=>False) e s'→False) :
  codeAny (model P w) callerA (.call (.ref fa) ⟨[.ref a],[]⟩) (fun r s'=>r=.ok (.ret (.bool true))∧OldK s₁.heap s'.heap∧s'.os=s₁.os∧AllBare s'.gens) s₁:=by
 have rv:=vals_ints hi
 have lenV:=hi.length
 have core:∀ H:Hp,Only H→SqL K H a (ns.map V.int)→HOk P w H s₁.heap→(∀ b,H b ≠ none→b=a)→(H a ≠ none→K.lookup a=none) →
   codeAny (model P w) callerA (.call (.ref fa) ⟨[.ref a],[]⟩) (fun r s'=>r=.ok (.ret (.bool true))∧OldK s₁.heap s'.heap∧s'.os=s₁.os∧AllBare s'.gens) s₁:=by
  intro H hO hS hok hA hK
  have base_of:∀ {b:Addr} {o:Obj},s₁.heap.get? b=some o→H b=none→(hidT s₁.heap H).get? b=some o:=fun e n=>hidT_get e n
  have noA:∀ {b:Addr} {o:Obj} {es:Array DictEntry} {ep:Nat},s₁.heap.get? b=some o→o.data=.dict es ep→H b=none:=fun {b o es ep} e d=>by
   cases q:H b with
   | none=>rfl
   | some u =>
    have e':b=a:=hA b (by rw [q]; simp)
    subst e'
    rw [ha] at e; cases e
    have d':Data.seq vs.toArray _=Data.dict es ep:=d
    cases d'
  have nsK:∀ {b:Addr} {m:Str→Option Value},s₁.heap.Ns b m→(hidT s₁.heap H).Ns b m:=fun {b m} ⟨o,es,ep,e,d,r⟩=>⟨o,es,ep,base_of e (noA e d),d,r⟩
  have hKb:K.In (hidT s₁.heap H):=fun b o e=>base_of (KX b o e) (by
   cases q:H b with
   | none=>rfl
   | some u =>
    have e':b=a:=hA b (by rw [q]; simp)
    subst e'
    rw [hK (by rw [q]; simp)] at e; cases e)
  have hM:Mod K mg (hidT s₁.heap H):=⟨hKb,nsK hns,⟨mb,nsK hb,hbb⟩,let ⟨mc,h1,h2⟩:=hlim; ⟨mc,nsK h1,h2⟩⟩
  have e0:Env0 P w K mg (hidT s₁.heap H) callerA [] s₁ H:=⟨rfl,hM,fun b o e=>of_hidT e,Nat.le_of_eq (hidT_size _ _),trivial,fun b hb=>absurd (show b ∈ ([]:List Addr) from hb) (by simp),hok,.of_eq hg⟩
  refine codeAny_mono ((F _ hKb (nsK hns)).run callerA [] s₁ H ⟨[.ref a],[]⟩ [.ref a] [.ref a] _ _ hr e0 (hbind s₁ (.ref a)) (.cons rfl .nil) (hsp H hO hS)) fun r s' h=>?_
  cases r with
  | error e=>exact (hCX H e s' h).elim
  | ok fl =>
   cases fl with
   | next=>exact False.elim h
   | brk=>exact False.elim h
   | cont=>exact False.elim h
   | ret u =>
    obtain ⟨v,H',os,bare,un,hok',r',q⟩:=h
    have q':v=.bl true:=q
    subst q'
    obtain rfl:u=Value.bool true:=r'
    refine ⟨rfl,OldK.of_keep fun b o e=>?_,os,bare⟩
    cases q:H b with
    | none=>exact un.keep b o e q (by intro z; exact absurd (show b ∈ ([]:List Addr) from z) (by simp)) (by simp)
    | some u =>
     rcases hO b with z | ⟨ob,xs,z⟩
     ·rw [q] at z; cases z
     ·have z2:=un.frzs b ob _ z
      obtain ⟨e1,_⟩:=hok b _ z
      obtain ⟨e2,_⟩:=hok' b _ z2
      rw [e] at e1; cases e1
      exact e2
 cases hk:K.lookup a with
 | some o =>
  have e:=KX a o hk
  rw [ha] at e
  cases e
  refine core (fun _=>none) (fun _=>.inl rfl) (.inr ⟨_,vs.toArray,_,hk,rfl,rfl,rfl,by rw [List.size_toArray,lenV]; exact hl,by simpa using rv⟩) (fun b u z=>by have z':(none:Option HO)=some u:=z; cases z') (fun b z=>absurd rfl z) fun z=>absurd rfl z
 | none =>
  refine core (fun b=>if b=a then some (.frz { cls:=.type "list",data:=.seq vs.toArray } (.lst (ns.map V.int))) else none) (fun b=>?_) (.inl (.inr ⟨{ cls:=.type "list",data:=.seq vs.toArray },if_pos rfl⟩)) (fun b u z=>?_) (fun b z=>?_) fun _=>hk
  ·by_cases hb:b=a
   ·exact .inr ⟨_,_,if_pos hb⟩
   ·exact .inl (if_neg hb)
  ·by_cases hb:b=a
   ·have z':=(if_pos hb).symm.trans z
    cases z'
    subst hb
    exact ⟨ha,by rw [List.length_map]; exact hl,vs,_,rv,ha⟩
   ·have z':=(if_neg hb).symm.trans z
    cases z'
  ·by_cases hb:b=a
   ·exact hb
   ·exact absurd (if_neg hb) z
end L2
namespace L2
open PySem PySem.Spec PyProof.Rows
theorem walk_of {l:PySem.W.OpenLaw} {n k:Nat} {q:Program} {loose:List Str} {XP:(Str→Option Value)→Heap→Prop} {YP:World→Heap→Prop} {d:DefRec} {K:Params→PySem.W.Frag} {CX:World→CXT} {sp:World→Sp} {x:Str}
  (hn:l.most=some n) (hn2:n ≤ sizeLine) (hdf:d.params.defaults=[]) (hr:Room k callerA)
  (hY:∀ (w:World) (h:Heap),YP w h→(K w.params).In h)
  (F:∀ (w:World) (mg:Str→Option Value) (fa:Addr) (h:Heap),(K w.params).In h→h.Ns mainGlobals mg→mg d.name=some (.ref fa) →
   ∃ fd:FuncData,(∀ (s:Shared) (u:Value),BindsTo s fd ⟨[u],[]⟩ [(x,u)]) ∧
    ∀ base:Heap,(K w.params).In base→base.Ns mainGlobals mg→FnOk l.prog w (K w.params) mg base (CX w) k fa fd [x] (sp w))
  (hsp:∀ (w:World) (H:Hp) (a:Addr) (ns:List Int),ns.length ≤ n→Only H→SqL (K w.params) H a (ns.map V.int)→sp w [.ref a] H (fun v _=>v=.bl true) fun _ _ _=>False)
  (hCX:∀ (w:World) (H:Hp) (s:Shared) (e:Value) (s':Shared),CX w [] H s (fun _ _ _=>False) e s'→False) :
  PySem.W.WalkO q loose XP YP l.row.toRowW d [] (fun f vs=>PySem.call f vs):=by
 refine Att.attach_call hn hdf fun w s₀ s₁ mg mb fa o pm cd doc a vs ns G Y ho hd hcd hmg hobj hints hlen hg=>?_
 have KX:=hY w _ Y
 obtain ⟨fd,hb,hF⟩:=F w mg fa _ KX G.T.g hmg
 exact law_call KX G.T.g G.T.b G.T.builtins G.T.nolimit hg hobj hints (Nat.le_trans hlen hn2) hr hF hb (fun H hO hS=>hsp w H a ns hlen hO hS) fun H e s'=>hCX w H s₁ e s'
end L2
namespace L2
open PySem PySem.Spec PyProof.Rows
def je5 (s:Stmt):Arguments:=match s with
 | .FunctionDef _ a _ _ _ _ _ _ _ _=>a
 | _=>{ posonlyargs:=[],args:=[],vararg:=none,kwonlyargs:=[],kw_defaults:=[],kwarg:=none,defaults:=[] }
def je2 (s:Stmt):List Stmt:=match s with
 | .FunctionDef _ _ b _ _ _ _ _ _ _=>b
 | _=>[]
def ja5 (s:Stmt):Scope:=match s with
 | .FunctionDef _ _ _ _ _ _ sc _ _ _=>sc
 | _=>{ kind:=.function,names:=[],isGenerator:=false,isCoroutine:=false }
abbrev CX0:CXT:=fun _ _ _ _ _ _=>False
abbrev E0:XK:=fun _ _ _=>False
theorem pass0 {X:Cx}:Passes CX0 X E0:=fun _ _ _ _ _ _ _ h=>h.elim
structure Fun (K:PySem.W.Frag) (x qual:Str) (st:Stmt) (f:Addr) (fd:FuncData):Prop where
 ex:∃ (oc:Value) (od:Option Addr) (kV doc pm:Value) (an:Option Addr) (cdv ct:Value) (osl:Array (Option Value)),
  fd=PySem.W.fnOf x qual (je5 st) (je2 st) (ja5 st) .none kV doc pm an cdv ct∧K.lookup f=some ⟨oc,od,.func fd,osl⟩∧PySem.W.codeIn K cdv qual=true
 kp:PySem.W.keepIn K (.ref f)=true
section
variable {P:Program} {w:World} {K:PySem.W.Frag} {mg:Str→Option Value} {base:Heap}
theorem Fun.ok {x qual:Str} {st:Stmt} {f:Addr} {fd:FuncData} {N ps:List Str} {k:Nat} {sp:Sp} (F:Fun K x qual st f fd) (S:FnScope N ps (ja5 st)) (len:∀ vs H Q E,sp vs H Q E→vs.length=ps.length)
  (hbody:∀ (cdv:Value) (A:Around) (outer:List Env) (s:Shared) (H:Hp) (vs:List V) (Q:VK) (E:XK),Room k (A.deeper (envOfC qual (ja5 st) s.heap.objs.size f cdv))→sp vs H Q E →
   ∃ t,PSs (cxOf CX0 P w K mg base N qual (ja5 st) f cdv A outer s H E).nox (je2 st) t∧t { nx:=fun _ H'=>Q .non H',rt:=Q } (start N vs) H):FnOk P w K mg base CX0 (k + 1) f fd ps sp:=by
 obtain ⟨oc,od,kV,doc,pm,an,cdv,ct,osl,rfl,lk,hcd⟩:=F.ex
 refine fn_of lk hcd S len fun A outer s H vs Q E hr hsp=>?_
 obtain ⟨t,h,q⟩:=hbody cdv A outer s H vs Q E hr hsp
 exact ⟨t,h.nox,q⟩
theorem Fun.binds {x qual:Str} {st:Stmt} {f:Addr} {fd:FuncData} {ps:List Str} (F:Fun K x qual st f fd)
  (h:∀ (kV doc pm:Value) (an:Option Addr) (cdv ct:Value) (us:List Value),us.length=ps.length→bindArgs (PySem.W.fnOf x qual (je5 st) (je2 st) (ja5 st) .none kV doc pm an cdv ct) ⟨us,[]⟩=pure (ps.zip us)):Binds K fd ps []:=by
 obtain ⟨oc,od,kV,doc,pm,an,cdv,ct,osl,rfl,lk,hcd⟩:=F.ex
 exact .all (h kV doc pm an cdv ct)
theorem fun_mk {x qual:Str} {st:Stmt} {f:Addr} {oc:Value} {od an:Option Addr} {osl:Array (Option Value)} {kV doc pm cdv ct:Value} (l:K.lookup f=some ⟨oc,od,.func (PySem.W.fnOf x qual (je5 st) (je2 st) (ja5 st) .none kV doc pm an cdv ct),osl⟩)
  (c:PySem.W.codeIn K cdv qual=true) (k:PySem.W.keepIn K (.ref f)=true):Fun K x qual st f (PySem.W.fnOf x qual (je5 st) (je2 st) (ja5 st) .none kV doc pm an cdv ct):=⟨⟨oc,od,kV,doc,pm,an,cdv,ct,osl,rfl,l,c⟩,k⟩
end
theorem hu_of {A:Around} {k:Nat} (hr:Room k A):A.units + 1 < cLine:=Nat.lt_of_le_of_lt (Nat.add_le_add_left (by decide:1 ≤ 64) _) hr.units
section
variable {X:Cx}
theorem pv (i:Nat) {x:Str} {pos:Pos} (hN:X.N[i]?=some x:=by rfl) (hv:Vis X.env.scope x:=by first | exact Or.inl rfl | exact Or.inr (Or.inl rfl) | exact Or.inr (Or.inr rfl)) (hd:(x == ("__debug__" : Str))=false:=by decide)
  (hcd:(x == ("__classdict__" : Str))=false:=by decide):PE X (.Name x pos) (tVar i):=pe_var hN hv hd hcd
end
theorem iteF {A B:Prop} (h:B):if false=true then A else B:=by
 rw [if_neg Bool.false_ne_true]
 exact h
theorem iteT {A B:Prop} (h:A):if true=true then A else B:=by
 rw [if_pos rfl]
 exact h
theorem ite2 {c A B:Prop} [Decidable c] (h1:c→A) (h2:¬ c→B):if c then A else B:=by
 by_cases h:c
 ·rw [if_pos h]
  exact h1 h
 ·rw [if_neg h]
  exact h2 h
end L2
namespace L2
open PySem PySem.Spec PyProof.Rows
def cloF (env:Env):List (Str × NameKind)→List (Str × Addr)→List (Str × Addr)
 | [],acc=>acc
 | (n,k) :: r,acc=>if k == .free then cloF env r ((n,(env.cells.lookup n).getD 0) :: acc) else cloF env r acc
theorem clo_forIn {env:Env} (f:Str × NameKind→List (Str × Addr)→Sem (ForInStep (List (Str × Addr))))
  (hf:∀ n k cs,f (n,k) cs=if k == .free then (do let a ← cellOf env n; pure (.yield ((n,a) :: cs))) else pure (.yield cs)) :
  ∀ (names:List (Str × NameKind)) (acc:List (Str × Addr)),(∀ x ∈ names,x.2=.free→(env.cells.lookup x.1).isSome=true)→forIn names acc f=pure (cloF env names acc)
 | [],acc,_=>by rw [List.forIn_nil]; rfl
 | (n,k) :: r,acc,h=>by
  rw [List.forIn_cons,hf]
  unfold cloF
  have hr:∀ x ∈ r,x.2=.free→(env.cells.lookup x.1).isSome=true:=fun x hx=>h x (List.mem_cons_of_mem _ hx)
  by_cases hk:(k == NameKind.free)=true
  ·rw [if_pos hk,if_pos hk]
   have e:=h (n,k) List.mem_cons_self (by simpa using hk)
   obtain ⟨c,hc⟩:=Option.isSome_iff_exists.mp e
   unfold cellOf
   simp only at hc
   rw [hc]
   simp only [pure_bind,Option.getD_some]
   exact clo_forIn f hf r _ hr
  ·rw [if_neg hk,if_neg hk,pure_bind]
   exact clo_forIn f hf r _ hr
theorem jd4 {scope:Scope} {env:Env} (h:∀ x ∈ scope.names,x.2=.free→(env.cells.lookup x.1).isSome=true):closureFor scope env=pure (cloF env scope.names []):=by
 show (forIn scope.names ([]:List (Str × Addr)) _ >>= fun cs=>pure cs)=_
 rw [clo_forIn (env:=env) _ (fun n k cs=>by cases hk:k == NameKind.free <;> simp [hk]) scope.names [] h]
 simp only [pure_bind]
theorem clo_look {env:Env} {x:Str} {c:Addr}:∀ (names:List (Str × NameKind)) (acc:List (Str × Addr)),(∀ x ∈ names,x.2=.free→(env.cells.lookup x.1).isSome=true) →
  (cloF env names acc).lookup x=some c→env.cells.lookup x=some c ∨ acc.lookup x=some c
 | [],_,_,e=>.inr e
 | (n,k) :: r,acc,h,e=>by
  unfold cloF at e
  have hr:∀ x ∈ r,x.2=.free→(env.cells.lookup x.1).isSome=true:=fun x hx=>h x (List.mem_cons_of_mem _ hx)
  by_cases hk:(k == NameKind.free)=true
  ·rw [if_pos hk] at e
   rcases clo_look r _ hr e with q | q
   ·exact .inl q
   ·rw [List.lookup_cons] at q
    cases hb:x == n with
    | true =>
     rw [hb] at q
     have hx:x=n:=by simpa using hb
     obtain ⟨c',hc⟩:=Option.isSome_iff_exists.mp (h (n,k) List.mem_cons_self (by simpa using hk))
     simp only at hc
     rw [hc] at q
     subst hx
     rw [hc]
     exact .inl (by simpa using q)
    | false=>rw [hb] at q; exact .inr q
  ·rw [if_neg hk] at e
   exact clo_look r _ hr e
theorem clo_some {env:Env} {x:Str}:∀ (names:List (Str × NameKind)) (acc:List (Str × Addr)),((x,NameKind.free) ∈ names ∨ (acc.lookup x).isSome=true)→((cloF env names acc).lookup x).isSome=true
 | [],_,h=>h.elim (fun e=>nomatch e) id
 | (n,k) :: r,acc,h=>by
  unfold cloF
  by_cases hk:(k == NameKind.free)=true
  ·rw [if_pos hk]
   refine clo_some r _ ?_
   rcases h with h | h
   ·rcases List.mem_cons.mp h with e | h
    ·cases e; exact .inr (by rw [List.lookup_cons]; simp)
    ·exact .inl h
   ·refine .inr ?_
    rw [List.lookup_cons]
    split
    ·rfl
    ·exact h
  ·rw [if_neg hk]
   refine clo_some r _ ?_
   rcases h with h | h
   ·rcases List.mem_cons.mp h with e | h
    ·cases e; exact absurd (by decide) hk
    ·exact .inl h
   ·exact .inr h
theorem cf_look {x:Str} {c:Addr}:∀ (names:List (Str × NameKind)) (k:Nat) (acc:List (Str × Addr)),(cellsFrom k names acc).lookup x=some c→k ≤ c ∨ (acc.lookup x=some c∧(x,NameKind.cell) ∉ names)
 | [],_,_,e=>.inr ⟨e,by simp⟩
 | (n,kd) :: r,k,acc,e=>by
  unfold cellsFrom at e
  by_cases hk:(kd == NameKind.cell)=true
  ·rw [if_pos hk] at e
   rcases cf_look r _ _ e with q | ⟨q,nr⟩
   ·exact .inl (by omega)
   ·rw [List.lookup_cons] at q
    cases hb:x == n with
    | true=>rw [hb] at q; cases q; exact .inl (Nat.le_refl _)
    | false =>
     rw [hb] at q
     refine .inr ⟨q,fun z=>?_⟩
     rcases List.mem_cons.mp z with z | z
     ·cases z; simp at hb
     ·exact nr z
  ·rw [if_neg hk] at e
   rcases cf_look r _ _ e with q | ⟨q,nr⟩
   ·exact .inl q
   ·refine .inr ⟨q,fun z=>?_⟩
    rcases List.mem_cons.mp z with z | z
    ·cases z; exact hk (by simp)
    ·exact nr z
theorem cf_inj:∀ (names:List (Str × NameKind)) (k:Nat) (acc:List (Str × Addr)),(∀ p ∈ acc,p.2 < k)→(∀ p q,p ∈ acc→q ∈ acc→p.2=q.2→p.1=q.1)→∀ p q,p ∈ cellsFrom k names acc→q ∈ cellsFrom k names acc→p.2=q.2→p.1=q.1
 | [],_,_,_,hi,p,q,hp,hq,e=>hi p q hp hq e
 | (n,kd) :: r,k,acc,hb,hi,p,q,hp,hq,e=>by
  unfold cellsFrom at hp hq
  by_cases hk:(kd == NameKind.cell)=true
  ·rw [if_pos hk] at hp hq
   refine cf_inj r (k + 1) ((n,k) :: acc) (fun z hz=>?_) (fun y z hy hz e=>?_) p q hp hq e
   ·rcases List.mem_cons.mp hz with rfl | hz
    ·exact Nat.lt_succ_self _
    ·exact Nat.lt_succ_of_lt (hb z hz)
   ·rcases List.mem_cons.mp hy with hy | hy <;> rcases List.mem_cons.mp hz with hz | hz
    ·rw [hy,hz]
    ·subst hy; exact absurd (hb z hz) (by rw [← e]; exact Nat.lt_irrefl _)
    ·subst hz; exact absurd (hb y hy) (by rw [e]; exact Nat.lt_irrefl _)
    ·exact hi y z hy hz e
  ·rw [if_neg hk] at hp hq
   exact cf_inj r k acc hb hi p q hp hq e
theorem cf_cell:∀ (names:List (Str × NameKind)) (h:Heap) (acc:List (Str × Addr)) (p:Str × Addr),p ∈ cellsFrom h.objs.size names acc→p ∈ acc ∨ ((pushCells h names).IsCell p.2 none∧h.objs.size ≤ p.2)
 | [],_,_,_,e=>.inl e
 | (n,kd) :: r,h,acc,p,e=>by
  unfold cellsFrom at e
  unfold pushCells
  by_cases hk:(kd == NameKind.cell)=true
  ·rw [if_pos hk] at e ⊢
   have hs:(h.push { cls:=.type "cell",data:=.cell none }).objs.size=h.objs.size + 1:=Heap.size_push ..
   rw [← hs] at e
   rcases cf_cell r _ _ p e with q | ⟨q,l⟩
   ·rcases List.mem_cons.mp q with rfl | q
    ·exact .inr ⟨Heap.IsCell.keeps ⟨_,Heap.get?_push_size _ rfl,rfl⟩ (pushCells_keeps _ _),Nat.le_refl _⟩
    ·exact .inl q
   ·exact .inr ⟨q,by omega⟩
  ·rw [if_neg hk] at e ⊢
   exact cf_cell r h acc p e
theorem newEnv_comp {M:Model} {A:Around} {E:Value→Shared→Prop} {s:Shared} {scope:Scope} {globals:Addr} {cl:List (Str × Addr)} {qual:Str} {outer:Env} {Q:Env→Shared→Prop}
  (hQ:Q (newEnv scope s.heap.objs.size globals (cellsFrom (s.heap.objs.size + 1) scope.names cl) qual none .none (some outer) builtinsNs) { s with heap:=pushCells (s.heap.push { cls:=.type "dict",data:=.dict #[] }) scope.names }) :
  wpAny M A (newFunctionEnv scope globals cl [] qual none .none (some outer)) Q E s:=by
 simp only [newFunctionEnv,Option.isSome_some,if_true]
 refine wpAny_bind (wpAny_alloc ?_)
 refine wpAny_bind (wpAny_layCells _ (fun name kind cells=>by cases hkc:kind == NameKind.cell <;> simp [hkc]) _ _ _ _ ?_)
 rw [show ({ s with heap:=s.heap.push { cls:=.type "dict",data:=.dict #[] } }:Shared).heap.objs.size=s.heap.objs.size + 1 from Heap.size_push ..]
 rw [List.forIn_nil]
 exact wpAny_bind (wpAny_pure (wpAny_pure hQ))
theorem comp_loop {prog:Program} {w:World} {A:Around} {R:Result→Shared→Prop} {s:Shared} {elt target iter:Expr} {ifs:List Expr} {scope:Scope} {pos:Pos} {it acc:Value} {env:Env} (I:Nat→Shared→Prop)
  (turn:∀ n s,I n s→wpAny (model prog w) A (pyNext it) (fun r s₁=>match r with
   | none=>R (.ok .next) s₁
   | some v=>wpAny (model prog w) A (letOwnedTupleGo target it v) (fun _ s₁'=>wpAny (model prog w) A (assign target env v) (fun _ s₂ =>
     wpAny (model prog w) A (forIn ifs true fun c r=>if r=true then do let ok ← isTrue c env (eval c env); pure (ForInStep.yield ok) else pure (ForInStep.yield r)) (fun ok s₃ =>
      if ok=true then wpAny (model prog w) A (eval elt env) (fun x s₄ =>
       wpAny (model prog w) A (call (.builtin "list.append") [acc,x]) (fun _ s₅=>∃ m,m < n∧I m s₅) (fun _ _=>False) s₄) (fun _ _=>False) s₃
      else ∃ m,m < n∧I m s₃) (fun _ _=>False) s₂) (fun _ _=>False) s₁') (fun _ _=>False) s₁) (fun _ _=>False) s)
  (n:Nat) (h:I n s) :
  codeAny (model prog w) A (.compLoop (.ListComp elt [⟨target,iter,ifs,0⟩] scope pos) 0 it acc env) R s:=by
 refine codeAny_loop rfl I (fun n s hI=>?_) n h
 show wpAny _ A ((compTurn (.ListComp elt [⟨target,iter,ifs,0⟩] scope pos) 0 it acc env).onRaise (fun x=>do noteFrame x env; theTreesLotGoes x)) _ _ s
 refine wpAny_noted ?_
 rw [compTurn_list]
 refine wpAny_bind (wpAny_standAt (wpAny_bind (wpAny_mono (turn n s hI) (fun r s₁ h₁=>?_) fun _ _ h'=>h'.elim)))
 cases r with
 | none=>exact wpAny_pure h₁
 | some v =>
  refine wpAny_bind (wpAny_mono h₁ (fun _ s₁' h₁'=>?_) fun _ _ h'=>h'.elim)
  refine wpAny_bind (wpAny_mono h₁' (fun _ s₂ h₂=>wpAny_bind (wpAny_mono h₂ (fun ok s₃ h₃=>?_) fun _ _ h'=>h'.elim)) fun _ _ h'=>h'.elim)
  cases ok with
  | false=>exact wpAny_pure ⟨rfl,h₃⟩
  | true =>
   exact wpAny_bind (wpAny_bind (wpAny_mono h₃ (fun x s₄ h₄=>wpAny_bind (wpAny_mono h₄ (fun _ s₅ h₅=>wpAny_pure (wpAny_pure ⟨rfl,h₅⟩)) fun _ _ h'=>h'.elim)) fun _ _ h'=>h'.elim))
def compE (scope:Scope) (C:Addr) (env:Env):Env:=compEnvC scope (cellsFrom (C + 1) scope.names (cloF env scope.names [])) C env
def cxC (X:Cx) (scope:Scope) (C:Addr) (N:List Str) (fp:List Addr) (s:Shared) (H:Hp):Cx where
 prog:=X.prog
 w:=X.w
 K:=X.K
 mg:=X.mg
 base:=X.base
 A:=X.A
 N:=N
 s₀:=s
 H₀:=H
 env:=compE scope C X.env
 outer:=X.stack
 stack:=X.stack
 ex:=fp
 fn:=fun x=>decide ((x,NameKind.cell) ∈ scope.names)
 calm:=X.calm
 pn:=[]
 xe:=fun _ _=>False
def PIfs (X:Cx) (ifs:List Expr) (t:TT):Prop :=
 ∀ (pins:List (Addr × Obj)) (s:Shared) (σ:St) (H:Hp) (Q:Bool→Hp→Prop),Inv X pins σ H s→t σ H Q →
  wpAny (model X.prog X.w) X.A (forIn ifs true fun c r=>if r=true then do let ok ← isTrue c X.env (eval c X.env); pure (ForInStep.yield ok) else pure (ForInStep.yield r)) (TP X pins σ Q) X.xe s
def tYes:TT:=fun _ H Q=>Q true H
theorem jb9 {X:Cx}:PIfs X [] tYes:=fun _ s σ H Q I h=>wpAny_tests_nil ⟨H,I,h⟩
theorem je6 {X:Cx} {c:Expr} {t:TT} (h:PT X c t):PIfs X [c] t:=fun pins s σ H Q I q=>wpAny_tests_one (h pins s σ H Q I q)
def blkσ (own:Nat) (cap:List Nat) (σ:St):St:=List.replicate own none ++ cap.map fun i=>(σ[i]?).getD none
structure BlkOk (X:Cx) (scope:Scope) (own:List Str) (cap:List Str) (ix:List Nat):Prop where
 kind:scope.kind=.function
 names:∀ x ∈ scope.names,x.2=.local→scope.names.lookup x.1=some .local
 nd:(scope.names.map (·.1)).Nodup
 frees:∀ x ∈ scope.names,x.2=.free→X.env.kindOf x.1=some .cell ∨ X.env.kindOf x.1=some .free
 caps:∀ (j:Nat) (x:Str),cap[j]?=some x→(x,NameKind.free) ∈ scope.names
 at':∀ (j:Nat) (x:Str),cap[j]?=some x→∃ i,ix[j]?=some i∧X.N[i]?=some x
 len:cap.length=ix.length
theorem relabel_look {env:Env} {scope:Scope} {x:Str} {k:NameKind} (h:(relabel scope env).names.lookup x=some k):(x,k) ∈ scope.names ∨ (k=.cell∧(x,NameKind.free) ∈ scope.names):=by
 have m:=PySem.mem_of_lookup h
 obtain ⟨⟨n,k'⟩,hm,e⟩:=List.mem_map.mp m
 simp only at e
 split at e
 ·rename_i hc
  cases e
  have:k'=NameKind.free:=by simp at hc; exact hc.1.1
  subst this
  exact .inr ⟨rfl,hm⟩
 ·cases e; exact .inl hm
theorem nodup_keys {names:List (Str × NameKind)} (nd:(names.map (·.1)).Nodup) {x:Str} {k k':NameKind} (h:(x,k) ∈ names) (h':(x,k') ∈ names):k=k':=by
 induction names with
 | nil=>cases h
 | cons p r ih =>
  rw [List.map_cons,List.nodup_cons] at nd
  rcases List.mem_cons.mp h with e | h <;> rcases List.mem_cons.mp h' with e' | h'
  ·rw [← e'] at e; cases e; rfl
  ·exact absurd (List.mem_map.mpr ⟨_,h',by rw [← e]⟩) nd.1
  ·exact absurd (List.mem_map.mpr ⟨_,h,by rw [← e']⟩) nd.1
  ·exact ih nd.2 h h'
section
variable {X:Cx} {pins:List (Addr × Obj)} {σ:St} {H:Hp} {s:Shared} {scope:Scope} {own cap:List Str} {ix:List Nat}
theorem Inv.block (I:Inv X pins σ H s) (B:BlkOk X scope own cap ix) {fp:List Addr} (hf:∀ b ∈ fp,FpOk X pins H b) (ho:∀ b ∈ fp,∃ o,s.heap.get? b=some o) :
  Inv (cxC X scope s.heap.objs.size (own ++ cap) fp s H) [] (blkσ own.length ix σ) H { s with heap:=pushCells (s.heap.push { cls:=.type "dict",data:=.dict #[] }) scope.names }:=by
 have has:∀ x ∈ scope.names,x.2=.free→(X.env.cells.lookup x.1).isSome=true:=fun x hx hk=>by
  obtain ⟨c,e⟩:=I.ok.has x.1 (B.frees x hx hk)
  rw [e]; rfl
 have keep:∀ b o,s.heap.get? b=some o→(pushCells (s.heap.push { cls:=.type "dict",data:=.dict #[] }) scope.names).get? b=some o:=fun b o e=>pushCells_keeps _ _ b o (Heap.get?_push_of_some _ e)
 have old:∀ x c,X.env.cells.lookup x=some c→c < s.heap.objs.size:=fun x c e=>let ⟨v,q⟩:=I.cell x c e; q.lt
 have cs_look:∀ x c,(cellsFrom (s.heap.objs.size + 1) scope.names (cloF X.env scope.names [])).lookup x=some c→s.heap.objs.size + 1 ≤ c ∨ (X.env.cells.lookup x=some c∧(x,NameKind.cell) ∉ scope.names):=fun x c e=>by
  rcases cf_look _ _ _ e with q | ⟨q,nm⟩
  ·exact .inl q
  ·rcases clo_look _ _ has q with q | q
   ·exact .inr ⟨q,nm⟩
   ·cases q
 have clo_mem:∀ p ∈ cloF X.env scope.names [],X.env.cells.lookup p.1=some p.2:=by
  have aux:∀ (names:List (Str × NameKind)) (acc:List (Str × Addr)),(∀ x ∈ names,x.2=.free→(X.env.cells.lookup x.1).isSome=true)→(∀ p ∈ acc,X.env.cells.lookup p.1=some p.2)→∀ p ∈ cloF X.env names acc,X.env.cells.lookup p.1=some p.2:=by
   intro names
   induction names with
   | nil=>intro acc _ h p hp; exact h p hp
   | cons y r ih =>
    intro acc h h2 p hp
    obtain ⟨n,k⟩:=y
    unfold cloF at hp
    by_cases hk:(k == NameKind.free)=true
    ·rw [if_pos hk] at hp
     refine ih _ (fun x hx=>h x (List.mem_cons_of_mem _ hx)) (fun q hq=>?_) p hp
     rcases List.mem_cons.mp hq with rfl | hq
     ·obtain ⟨c,e⟩:=Option.isSome_iff_exists.mp (h (n,k) List.mem_cons_self (by simpa using hk))
      simp only at e ⊢
      rw [e]; rfl
     ·exact h2 q hq
    ·rw [if_neg hk] at hp
     exact ih _ (fun x hx=>h x (List.mem_cons_of_mem _ hx)) h2 p hp
  exact aux _ _ has (fun p hp=>nomatch hp)
 have cinj:∀ x y c,(cellsFrom (s.heap.objs.size + 1) scope.names (cloF X.env scope.names [])).lookup x=some c→(cellsFrom (s.heap.objs.size + 1) scope.names (cloF X.env scope.names [])).lookup y=some c→x=y:=fun x y c e1 e2 =>
  cf_inj scope.names (s.heap.objs.size + 1) (cloF X.env scope.names []) (fun p hp=>Nat.lt_succ_of_lt (old p.1 p.2 (clo_mem p hp)))
   (fun p q hp hq e=>I.ok.inj p.1 q.1 p.2 (clo_mem p hp) (by rw [e]; exact clo_mem q hq)) (x,c) (y,c) (PySem.mem_of_lookup e1) (PySem.mem_of_lookup e2) rfl
 have ccell:∀ x c,(cellsFrom (s.heap.objs.size + 1) scope.names (cloF X.env scope.names [])).lookup x=some c→∃ v,(pushCells (s.heap.push { cls:=.type "dict",data:=.dict #[] }) scope.names).IsCell c v:=fun x c e=>by
  have m:=PySem.mem_of_lookup e
  have hs:(s.heap.push { cls:=.type "dict",data:=.dict #[] }).objs.size=s.heap.objs.size + 1:=Heap.size_push ..
  rw [← hs] at m
  rcases cf_cell _ _ _ _ m with q | ⟨q,_⟩
  ·obtain ⟨v,z⟩:=I.cell _ _ (clo_mem _ q)
   exact ⟨v,z.keeps keep⟩
  ·exact ⟨none,q⟩
 have fplt:∀ b ∈ fp,b < s.heap.objs.size:=fun b hb=>let ⟨o,e⟩:=ho b hb; Heap.lt_size e
 refine ⟨⟨I.ok.mod,?_,I.ok.glob,I.ok.blt,Nat.le_refl _,cinj,fun x hx=>?_,fun x c hfx e=>?_,I.ok.hd,I.ok.frames,.inl rfl,fun b hb=>⟨?_,fun x c e=>?_⟩,I.bs,Nat.le_trans I.ok.bsz I.sz,fun b o e hb=>?_,fun b hb hz=>?_,I.stack,I.stkFree⟩,
  rfl,I.bare,Un.kept keep,⟨fun _=>none,(Heap.Ns.new s.heap (.type "dict")).keeps (pushCells_keeps _ _),fun i x v h1 h2 h3=>?_⟩,ccell,I.hok.fresh (Nat.le_refl _),fun x c e=>?_,fun p hp=>absurd (show p ∈ ([]:List (Addr × Obj)) from hp) (by simp),I.hok.kept keep,?_⟩
 ·exact B.kind
 ·have hx':(relabel scope X.env).names.lookup x=some .cell ∨ (relabel scope X.env).names.lookup x=some .free:=hx
  have:((cellsFrom (s.heap.objs.size + 1) scope.names (cloF X.env scope.names [])).lookup x).isSome=true:=by
   have fr:(x,NameKind.free) ∈ scope.names→((cellsFrom (s.heap.objs.size + 1) scope.names (cloF X.env scope.names [])).lookup x).isSome=true:=fun z=>PySem.W.cellsFrom_some _ _ _ (.inr (clo_some _ _ (.inl z)))
   have ce:(x,NameKind.cell) ∈ scope.names→((cellsFrom (s.heap.objs.size + 1) scope.names (cloF X.env scope.names [])).lookup x).isSome=true:=fun z=>by
    have aux:∀ (names:List (Str × NameKind)) (k:Nat) (acc:List (Str × Addr)),(x,NameKind.cell) ∈ names→((cellsFrom k names acc).lookup x).isSome=true:=by
     intro names
     induction names with
     | nil=>intro _ _ z; cases z
     | cons y r ih =>
      intro k acc z
      obtain ⟨n,kd⟩:=y
      unfold cellsFrom
      by_cases hk:(kd == NameKind.cell)=true
      ·rw [if_pos hk]
       rcases List.mem_cons.mp z with e | z
       ·cases e
        exact PySem.W.cellsFrom_some _ _ _ (.inr (by rw [List.lookup_cons]; simp))
       ·exact ih _ _ z
      ·rw [if_neg hk]
       rcases List.mem_cons.mp z with e | z
       ·cases e; exact absurd (by decide) hk
       ·exact ih _ _ z
    exact aux _ _ _ z
   rcases hx' with q | q
   ·rcases relabel_look q with q | ⟨_,q⟩
    ·exact ce q
    ·exact fr q
   ·rcases relabel_look q with q | ⟨e,_⟩
    ·exact fr q
    ·cases e
  exact Option.isSome_iff_exists.mp this
 ·have hm:(x,NameKind.cell) ∈ scope.names:=of_decide_eq_true hfx
  rcases cs_look x c e with q | ⟨_,nm⟩
  ·exact Nat.le_trans (Nat.le_succ _) q
  ·exact absurd hm nm
 ·exact Nat.ne_of_lt (fplt b hb)
 ·rcases cs_look x c e with q | ⟨q,_⟩
  ·exact Nat.ne_of_gt (Nat.lt_of_lt_of_le (fplt b hb) (Nat.le_trans (Nat.le_succ _) q))
  ·exact (hf b hb).2.2.2.2.1 x c q
 ·rcases (hf b hb).2.2.2.1 with z | z
  ·exact I.ok.noex b o e z
  ·exact absurd (Nat.lt_of_lt_of_le (Heap.lt_size e) (Nat.le_trans I.ok.bsz z)) (Nat.lt_irrefl _)
 ·rcases List.mem_cons.mp (I.stkSub b hz) with e | z
  ·exact (hf b hb).2.1 e
  ·exact (hf b hb).2.2.1 z
 ·
  have h1:(own ++ cap)[i]?=some x:=h1
  have hi:own.length ≤ i:=by
   by_cases hi:i < own.length
   ·unfold blkσ at h2
    rw [List.getElem?_append_left (by simpa using hi),List.getElem?_replicate,if_pos hi] at h2
    cases h2
   ·omega
  rw [List.getElem?_append_right hi] at h1
  unfold blkσ at h2
  rw [List.getElem?_append_right (by simpa using hi),List.length_replicate,List.getElem?_map] at h2
  obtain ⟨j,hj,hN⟩:=B.at' _ _ h1
  rw [hj] at h2
  simp only [Option.map_some,Option.some.injEq] at h2
  have h2':σ[j]?=some (some v):=by
   cases q:σ[j]? with
   | none=>rw [q] at h2; simp at h2
   | some o=>rw [q] at h2; simp at h2; rw [h2]
  have fm:=B.caps _ _ h1
  have kd:=B.frees _ fm rfl
  obtain ⟨m,hn,hl⟩:=I.loc
  obtain ⟨u,r,l⟩:=hl j x v hN h2' (by rcases kd with k | k; exact .inr (.inl k); exact .inr (.inr k))
  refine ⟨u,r,.inr ?_⟩
  have cellx:∃ c,X.env.cells.lookup x=some c∧s.heap.IsCell c (some u):=by
   rcases l with ⟨k,_⟩ | ⟨_,c,e,z⟩
   ·simp only at kd; rw [k] at kd; rcases kd with k | k <;> cases k
   ·exact ⟨c,e,z⟩
  obtain ⟨c,ec,zc⟩:=cellx
  have ncell:(x,NameKind.cell) ∉ scope.names:=fun z=>by have:=nodup_keys B.nd z fm; cases this
  refine ⟨?_,c,?_,zc.keeps keep⟩
  ·have h3':(relabel scope X.env).names.lookup x=some .local ∨ (relabel scope X.env).names.lookup x=some .cell ∨ (relabel scope X.env).names.lookup x=some .free:=h3
   rcases h3' with q | q | q
   ·rcases relabel_look q with q | ⟨e,_⟩
    ·have:=nodup_keys B.nd q fm; cases this
    ·cases e
   ·exact .inl q
   ·exact .inr q
  ·show (cellsFrom (s.heap.objs.size + 1) scope.names (cloF X.env scope.names [])).lookup x=some c
   obtain ⟨c',e'⟩:=Option.isSome_iff_exists.mp (PySem.W.cellsFrom_some (x:=x) scope.names (s.heap.objs.size + 1) (cloF X.env scope.names []) (.inr (clo_some _ _ (.inl fm))))
   rw [e']
   rcases cf_look _ _ _ e' with q | ⟨q,_⟩
   ·exfalso
    have m:=PySem.mem_of_lookup e'
    have aux:∀ (names:List (Str × NameKind)) (k:Nat) (acc:List (Str × Addr)),(x,NameKind.cell) ∉ names→(cellsFrom k names acc).lookup x=acc.lookup x:=by
     intro names
     induction names with
     | nil=>intro _ _ _; rfl
     | cons y r ih =>
      intro k acc nm
      obtain ⟨n,kd⟩:=y
      unfold cellsFrom
      by_cases hk:(kd == NameKind.cell)=true
      ·rw [if_pos hk,ih _ _ (fun z=>nm (List.mem_cons_of_mem _ z)),List.lookup_cons]
       have:(x == n)=false:=by
        simp only [beq_eq_false_iff_ne]
        intro e; subst e
        have:kd=.cell:=by simpa using hk
        subst this
        exact nm List.mem_cons_self
       rw [this]
      ·rw [if_neg hk,ih _ _ (fun z=>nm (List.mem_cons_of_mem _ z))]
    rw [aux _ _ _ ncell] at e'
    rcases clo_look _ _ has e' with z | z
    ·exact absurd (Nat.lt_of_lt_of_le (old _ _ z) (Nat.le_trans (Nat.le_succ _) q)) (Nat.lt_irrefl _)
    ·cases z
   ·rcases clo_look _ _ has q with z | z
    ·rw [ec] at z; rw [z]
    ·cases z
 ·rcases cs_look x c e with q | ⟨q,_⟩
  ·exact I.hok.fresh (Nat.le_trans (Nat.le_succ _) q)
  ·exact I.freeC x c q
 ·unfold blkσ
  show _=(own ++ cap).length
  rw [List.length_append,List.length_append,List.length_replicate,List.length_map,B.len]
end
end L2
namespace L2
open PySem PySem.Spec PyProof.Rows
def tCompN (g:TG) (tt:TT) (te:TE) (J:It) (acc:Addr) (σ₀:St) (H₀:Hp) (Q:VK):Prop :=
 ∃ W:Nat→Nat→St→Hp→Prop,(∃ m,W 0 m σ₀ (upd H₀ acc (.lst [])))∧∀ i m σ' H',W i m σ' H' →
  (J.stop i H'∧Q (.ref acc) H') ∨
  (J.go i H'∧∃ N:St→Hp→Prop,(∀ σ2 H2,N σ2 H2→∃ m',m' < m∧W (i + 1) m' σ2 H2)∧∀ x H2,J.yld i H' x H2→g x σ' H2 fun σ3 H3=>tt σ3 H3 fun b H4 =>
   if b=true then te σ3 H4 fun y H5=>∃ ys,H5 acc=some (.lst ys)∧ys.length < sizeLine∧N σ3 (upd H5 acc (.lst (ys ++ [y]))) else N σ3 H4)
def tComp (wi:TI) (g:TG) (tt:TT) (te:TE) (own:Nat) (ix:List Nat):TE:=fun σ H Q=>wi σ H fun J H1=>∀ acc,H1 acc=none→tCompN g tt te J acc (blkσ own ix σ) H1 Q
section
variable {X:Cx} {scope:Scope} {own cap:List Str} {ix:List Nat} {tg iter elt:Expr} {ifs:List Expr} {wi:TI} {g:TG} {tt:TT} {te:TE} {pos:Pos}
theorem comp_core {pins:List (Addr × Obj)} {σ:St} {H2:Hp} {s2:Shared} {it:Addr} {fp:List Addr} {tn:Nat→Heap→Prop} {J:It} {Q:VK} {RR:Value→Addr→Result→Shared→Prop} {E:Value→Shared→Prop}
  (B:BlkOk X scope own cap ix) (hc:X.calm=true)
  (hb:∀ C fp s H,PG (cxC X scope C (own ++ cap) fp s H) tg g∧PIfs (cxC X scope C (own ++ cap) fp s H) ifs tt∧PE (cxC X scope C (own ++ cap) fp s H) elt te)
  (I2:Inv X pins σ H2 s2) (T:Turn X.prog X.w X.K tg J fp it tn) (st2:tn 0 s2.heap) (f2:∀ b ∈ fp,FpOk X pins H2 b)
  (q:∀ acc,H2 acc=none→tCompN g tt te J acc (blkσ own.length ix σ) H2 Q)
  (hRR:∀ D C H' s' m,Inv X pins σ H' s'→Q (.ref D) H'→s'.heap.Ns C m→FpOk X pins H' C→RR (.ref D) C (.ok .next) s') :
  wpAny (model X.prog X.w) X.A (newList []) (fun acc s₃=>wpAny (model X.prog X.w) X.A (newFunctionEnv scope X.env.globals (cloF X.env scope.names []) [] X.env.qual none .none (some X.env)) (fun cenv s₄ =>
   codeAny (model X.prog X.w) X.A (.compStart (.ListComp elt [⟨tg,iter,ifs,0⟩] scope pos) 0 (.ref it) acc { cenv with scope:=relabel scope X.env }) (RR acc cenv.locals) s₄) E s₃) E s2:=by
 refine wpAny_newObj_type (newEnv_comp ?_)
 have I3:Inv X pins σ (upd H2 s2.heap.objs.size (.lst [])) { s2 with heap:=s2.heap.push { cls:=.type "list",dict:=none,data:=.seq ([]:List Value).toArray } }:=I2.lnew (its:=[]) (ys:=[]) (t':=s2.toks) .nil (Nat.zero_le _)
 obtain ⟨W,⟨m0,w0⟩,turn⟩:=q s2.heap.objs.size I2.fresh
 generalize hD:s2.heap.objs.size=D at I3 w0 turn ⊢
 have hlt:∀ b ∈ fp,b < D:=fun b hbm=>by
  obtain ⟨o,e,_⟩:=T.obj 0 _ st2 b hbm
  rw [← hD]; exact Heap.lt_size e
 generalize hs3:({ s2 with heap:=s2.heap.push { cls:=.type "list",dict:=none,data:=.seq ([]:List Value).toArray } }:Shared)=s3 at I3 ⊢
 have keep3:∀ b o,s2.heap.get? b=some o→s3.heap.get? b=some o:=fun b o e=>by rw [← hs3]; exact Heap.get?_push_of_some _ e
 have f3:∀ b ∈ fp,FpOk X pins (upd H2 D (.lst [])) b:=fun b hbm=>⟨by rw [jb5 (Nat.ne_of_lt (hlt b hbm))]; exact (f2 b hbm).1,(f2 b hbm).2⟩
 have o3:∀ b ∈ fp,∃ o,s3.heap.get? b=some o:=fun b hbm=>let ⟨o,e,_⟩:=T.obj 0 _ st2 b hbm; ⟨o,keep3 b o e⟩
 have I4:=I3.block B f3 o3
 have st4:tn 0 (pushCells (s3.heap.push { cls:=.type "dict",data:=.dict #[] }) scope.names):=T.keep 0 _ _ st2 fun b _ o e=>pushCells_keeps _ _ b o (Heap.get?_push_of_some _ (keep3 b o e))
 obtain ⟨hg,hif,he⟩:=hb s3.heap.objs.size fp s3 (upd H2 D (.lst []))
 generalize hX':cxC X scope s3.heap.objs.size (own ++ cap) fp s3 (upd H2 D (.lst []))=X' at I4 hg hif he
 have eP:X'.prog=X.prog:=by rw [← hX']; rfl
 have eW:X'.w=X.w:=by rw [← hX']; rfl
 have eK:X'.K=X.K:=by rw [← hX']; rfl
 have eA:X'.A=X.A:=by rw [← hX']; rfl
 have eE:X'.env=compE scope s3.heap.objs.size X.env:=by rw [← hX']; rfl
 have ex:X'.xe=fun _ _=>False:=by rw [← hX']; rfl
 have hc':X'.calm=true:=by rw [← hX']; exact hc
 have stat:∀ {H':Hp},(∀ b ∈ fp,H' b=none)→∀ b ∈ fp,FpOk X' [] H' b:=fun hn b hbm=>by
  subst hX'
  exact ⟨hn b hbm,(I4.ok.exf b hbm).1,I4.ok.exfs b hbm,.inl hbm,(I4.ok.exf b hbm).2,fun p hp=>absurd (show p ∈ ([]:List (Addr × Obj)) from hp) (by simp)⟩
 have loop:∀ s4:Shared,s4={ s3 with heap:=pushCells (s3.heap.push { cls:=.type "dict",data:=.dict #[] }) scope.names } →
   codeAny (model X.prog X.w) X.A (.compLoop (.ListComp elt [⟨tg,iter,ifs,0⟩] scope pos) 0 (.ref it) (.ref D) (compE scope s3.heap.objs.size X.env)) (RR (.ref D) s3.heap.objs.size) s4:=by
  rintro s4 rfl
  refine comp_loop (fun n s'=>∃ i σ' H',Inv X' [] σ' H' s'∧tn i s'.heap∧(∀ b ∈ fp,H' b=none)∧W i n σ' H') ?_ m0 ⟨0,_,_,I4,st4,fun b hbm=>(f3 b hbm).1,w0⟩
  rintro n s5 ⟨i,σ5,H5,I5,st5,fr5,w5⟩
  rcases turn i n σ5 H5 w5 with ⟨stop,qn⟩ | ⟨go,N,hN,step⟩
  ·have:=T.done X' eP eW eK hc' i [] s5 σ5 H5 (fun _ _=>False) I5 (stat fr5) st5 stop
   rw [eA] at this
   refine thn this fun r s6 ⟨hr,I6⟩=>?_
   subst hr
   subst hX'
   have J6:Inv X pins σ H5 s6:=I3.call' (ch:=fp) I6.os I6.base I6.hok I6.bare fun b hbm=>⟨(f3 b hbm).2.2.2.1,(f3 b hbm).2.1,(f3 b hbm).2.2.2.2.1,(f3 b hbm).2.2.2.2.2⟩
   obtain ⟨m,hn,_⟩:=I6.loc
   exact hRR D _ H5 s6 m J6 qn hn (I3.fpOk (Nat.le_refl _) I6.free)
  ·have:=T.item X' eP eW eK hc' i [] s5 σ5 H5 (fun _ _=>False) I5 (stat fr5) st5 go
   rw [eA] at this
   refine thn this fun r s6 ⟨u,hr,h6⟩=>?_
   subst hr
   refine thn h6 fun _ s7 ⟨x,H7,I7,r7,y7,st7,fr7⟩=>?_
   have I7':=I7.pinned (stat fr7) (T.obj _ _ st7)
   have a1:=hg _ s7 σ5 H7 x u _ I7' r7 (step x H7 y7)
   rw [eP,eW,eA,eE,ex] at a1
   refine thn a1 fun _ s8 ⟨σ8,H8,I8,q8⟩=>?_
   have a2:=hif _ s8 σ8 H8 _ I8 q8
   rw [eP,eW,eA,eE,ex] at a2
   refine thn a2 fun b s9 ⟨H9,I9,q9⟩=>?_
   have again:∀ {s':Shared} {σ':St} {H':Hp},Inv X' ([] ++ pinsAt fp s7.heap) σ' H' s'→N σ' H'→∃ m,m < n∧∃ i σ' H',Inv X' [] σ' H' s'∧tn i s'.heap∧(∀ b ∈ fp,H' b=none)∧W i m σ' H':=fun {s' σ' H'} I' n'=>by
    obtain ⟨m',hm,w'⟩:=hN σ' H' n'
    refine ⟨m',hm,i + 1,σ',H',I'.unpinned,T.keep _ _ _ st7 fun b hbm o e=>(I'.pin (b,o) (List.mem_append_right _ (List.mem_append_right _ (jc8 hbm e)))).1,fun b hbm=>?_,w'⟩
    obtain ⟨o,e,d⟩:=T.obj _ _ st7 b hbm
    exact (I'.pin (b,o) (List.mem_append_right _ (List.mem_append_right _ (jc8 hbm e)))).2.1
   cases b with
   | false=>exact again I9 q9
   | true =>
    rw [if_pos rfl] at q9 ⊢
    have a3:=he _ s9 σ8 H9 _ I9 q9
    rw [eP,eW,eA,eE,ex] at a3
    refine thn a3 fun yv s10 ⟨y,H10,I10,r10,ys,hys,hz,q10⟩=>?_
    have a4:=jf3 (X:=X') _ s10 σ8 H10 (.ref D) [y] (.ref D) [yv] (fun v H'=>v=.non∧N σ8 H') I10 rfl (.cons r10 .nil) ⟨D,ys,y,rfl,rfl,hys,hz,rfl,q10⟩
    rw [eP,eW,eA,ex] at a4
    refine thn a4 fun _ s11 ⟨_,H11,I11,_,_,q11⟩=>again I11 q11
 exact codeAny_compStart_list (loop _ rfl) (T.self X.A 0 _ _ _ st4 (loop _ rfl))
theorem jc3 (B:BlkOk X scope own cap ix) (hc:X.calm=true) (hi:PI X tg iter wi)
  (hb:∀ C fp s H,PG (cxC X scope C (own ++ cap) fp s H) tg g∧PIfs (cxC X scope C (own ++ cap) fp s H) ifs tt∧PE (cxC X scope C (own ++ cap) fp s H) elt te)
  (hs:∀ x,foldedSetIterable iter X.env x=pure x:=by intro _; rfl):PE X (.ListComp elt [⟨tg,iter,ifs,0⟩] scope pos) (tComp wi g tt te own.length ix):=by
 intro pins s σ H Q I h
 rw [eval_ListComp]
 have has:∀ x ∈ scope.names,x.2=.free→(X.env.cells.lookup x.1).isSome=true:=fun x hx hk=>by
  obtain ⟨c,e⟩:=I.ok.has x.1 (B.frees x hx hk)
  rw [e]; rfl
 refine wpAny_comprehension_free (use:=none) rfl hs (jd4 has) B.kind B.names ?_
 show wpAny _ _ (eval iter X.env) _ _ s
 refine thn (hi pins s σ H _ I h) fun v s1 h1=>thn h1 fun itv s2 h2=>?_
 obtain ⟨it,fp,tn,J,H2,e,I2,T,st2,f2,q⟩:=h2
 subst e
 refine comp_core (RR:=fun acc C=>compPost (model X.prog X.w) X.A X.xe none (EP X pins σ Q) acc C) B hc hb I2 T st2 f2 q ?_
 intro D C H' s' m I' q' hn fC
 refine ⟨m,hn,fun h' hsb=>⟨.ref D,H',?_,rfl,q'⟩⟩
 exact I'.turned (t':=s'.toks) (it:=C) (fun b o hbC e=>(hsb.2 b hbC).trans e) fC.1 fC.2.1 fC.2.2.2.1 fC.2.2.2.2.1 fC.2.2.2.2.2
theorem ps_setC {i:Nat} {y:Str} {py spos:Pos} (hN:X.N.Nodup) (hiN:X.N[i]?=some y) (hx:X.env.scope.names.lookup y=some .local) (B:BlkOk X scope own cap ix) (hc:X.calm=true) (hi:PI X tg iter wi)
  (hb:∀ C fp s H,PG (cxC X scope C (own ++ cap) fp s H) tg g∧PIfs (cxC X scope C (own ++ cap) fp s H) ifs tt∧PE (cxC X scope C (own ++ cap) fp s H) elt te)
  (hsw:swapsWith (.ListComp elt [⟨tg,iter,ifs,0⟩] scope pos) (some (.Name y py)) spos.line X.env=pure true:=by rfl)
  (hs:∀ x,foldedSetIterable iter X.env x=pure x:=by intro _; rfl):PS X (.Assign [.Name y py] (.ListComp elt [⟨tg,iter,ifs,0⟩] scope pos) spos) (tAsg (tComp wi g tt te own.length ix) (gName i)):=by
 intro pins s σ H D I h
 rw [exec_Assign_Name_used _ _ _ _ hsw]
 have has:∀ x ∈ scope.names,x.2=.free→(X.env.cells.lookup x.1).isSome=true:=fun x hx hk=>by
  obtain ⟨c,e⟩:=I.ok.has x.1 (B.frees x hx hk)
  rw [e]; rfl
 refine wpAny_bind (wpAny_standAt (wpAny_bind ?_))
 show wpAny _ X.A (do let _ ← comprehension (.ListComp elt [⟨tg,iter,ifs,0⟩] scope pos) scope X.env _ (newList []) false (eval iter X.env) (some (assign (.Name y py) X.env))) _ _ s
 refine wpAny_bind (wpAny_mono (wpAny_comprehension_free (use:=some (assign (.Name y py) X.env)) (Q:=fun _ s'=>SP X pins D .next s') rfl hs (jd4 has) B.kind B.names ?_) (fun _ s' hq=>wpAny_pure (wpAny_pure hq)) fun _ _ e=>e)
 refine thn (hi pins s σ H _ I h) fun v s1 h1=>thn h1 fun itv s2 h2=>?_
 obtain ⟨it,fp,tn,J,H2,e,I2,T,st2,f2,q⟩:=h2
 subst e
 refine comp_core (RR:=fun acc C=>compPost (model X.prog X.w) X.A X.xe (some (assign (.Name y py) X.env)) (fun _ s'=>SP X pins D .next s') acc C) B hc hb I2 T st2 f2 q ?_
 intro Da C H' s' m I' q' hn fC
 show wpAny _ X.A (assign (.Name y py) X.env (.ref Da)) _ _ s'
 obtain ⟨oC,es,ep,hoC,hdC,r⟩:=id hn
 have Ip:Inv X (pins ++ [(C,oC)]) σ H' s':=I'.pins_of fun p hp=>by
  rcases List.mem_append.mp hp with z | z
  ·exact I'.pin p (List.mem_append_right _ z)
  ·obtain rfl:p=(C,oC):=by simpa using z
   exact ⟨hoC,fC.1,fC.2.1,fC.2.2.1,fun v e=>by rw [hdC] at e; cases e⟩
 refine wpAny_assign_Name (store_ok Ip hN hiN (.inl hx) (v:=.ref Da) rfl (fun s'' I''=>?_) (.inr hx))
 have pC:=(I''.pin (C,oC) (List.mem_append_right _ (List.mem_append_right _ (by simp)))).1
 refine ⟨m,⟨oC,es,ep,pC,hdC,r⟩,fun h' hsb=>⟨_,H',?_,q'⟩⟩
 exact I''.unpinned.turned (t':=s''.toks) (it:=C) (fun b o hbC e=>(hsb.2 b hbC).trans e) fC.1 fC.2.1 fC.2.2.2.1 fC.2.2.2.2.1 fC.2.2.2.2.2
end
end L2
namespace L2
open PySem PySem.Spec PyProof.Rows
def tv:V→Bool
 | .bl b=>b
 | .int i=>i != 0
 | _=>false
def plainB:V→Bool
 | .bl _=>true
 | .int _=>true
 | .non=>true
 | _=>false
theorem truthy_plain {prog:Program} {w:World} {A:Around} {E:Value→Shared→Prop} {s:Shared} {x:V} {v:Value} {Q:Bool→Shared→Prop} (r:RelV x v) (p:plainB x=true) (h:Q (tv x) s):wpAny (model prog w) A (truthy v) Q E s:=by
 cases x with
 | non=>cases r; exact truthy_none h
 | bl b=>cases r; exact wpAny_truthy_bool h
 | int i=>obtain ⟨t,rfl⟩:=r; exact PySem.P.truthy_int h
 | _=>cases p
theorem all_range {xs:List V} {n:Nat} (hn:n=xs.length) (f:V→Bool):(List.range n).all (fun i=>(xs[i]?.map f).getD true)=xs.all f:=by
 subst hn
 rw [Bool.eq_iff_iff]
 simp only [List.all_eq_true,List.mem_range]
 constructor
 ·intro h x hx
  obtain ⟨i,hi,e⟩:=List.mem_iff_getElem.mp hx
  have:=h i hi
  rw [List.getElem?_eq_getElem hi,e] at this
  simpa using this
 ·intro h i hi
  rw [List.getElem?_eq_getElem hi]
  simpa using h _ (List.getElem_mem hi)
theorem any_range {xs:List V} {n:Nat} (hn:n=xs.length) (f:V→Bool):(List.range n).any (fun i=>(xs[i]?.map f).getD false)=xs.any f:=by
 subst hn
 rw [Bool.eq_iff_iff]
 simp only [List.any_eq_true,List.mem_range]
 constructor
 ·rintro ⟨i,hi,h⟩
  rw [List.getElem?_eq_getElem hi] at h
  exact ⟨_,List.getElem_mem hi,by simpa using h⟩
 ·rintro ⟨x,hx,h⟩
  obtain ⟨i,hi,e⟩:=List.mem_iff_getElem.mp hx
  exact ⟨i,hi,by rw [List.getElem?_eq_getElem hi,e]; simpa using h⟩
section
variable {X:Cx}
theorem iter_seq {pins:List (Addr × Obj)} {σ:St} {H:Hp} {s:Shared} {p:Addr} {xs:List V} {A:Around} {E:Value→Shared→Prop} {Q:Value→Shared→Prop} (I:Inv X pins σ H s) (hA:A.handled=none) (h:SqL X.K H p xs ∨ SqT X.K H p xs)
  (k:∀ (it:Addr) (fp wr:List Addr) (its:List Value) (St:Nat→Heap→Prop) (s2:Shared),Vals xs its→Walks X.prog X.w A it fp wr its.length (fun i v=>its[i]?=some v) St→St 0 s2.heap→(∀ b ∈ fp,b < s2.heap.objs.size) →
   (∀ h' tk,(∀ b o,b ∉ wr→s2.heap.get? b=some o→h'.get? b=some o)→Inv X pins σ H { s2 with heap:=h',toks:=tk })→Q (.ref it) s2) :
  wpAny (model X.prog X.w) A (pyIter (.ref p)) Q E s:=by
 rcases h with h | h
 ·obtain ⟨its,rv,pl,hz⟩:=I.list h
  have hp:p < s.heap.objs.size:=by obtain ⟨o,n,e,_⟩:=pl; exact Heap.lt_size e
  refine wpAny_pyIter_list pl.isList ?_
  have W:=Walks.list (prog:=X.prog) (w:=X.w) (A:=A) hA s.heap.objs.size p (Nat.ne_of_lt hp) its.toArray
  refine k s.heap.objs.size [s.heap.objs.size,p] [s.heap.objs.size] its (fun i h=>h.IsListIter s.heap.objs.size p i∧h.IsList p its.toArray) _ rv (by simpa using W) ⟨⟨_,Heap.get?_push_size _ rfl,rfl,rfl⟩,pl.isList.push _⟩ (fun b hb=>?_) (fun h' tk hk=>?_)
  ·show b < (s.heap.push _).objs.size
   rw [Heap.size_push]
   rcases List.mem_cons.mp hb with rfl | hb
   ·exact Nat.lt_succ_self _
   ·rcases List.mem_cons.mp hb with rfl | hb
    ·exact Nat.lt_succ_of_lt hp
    ·cases hb
  ·exact I.kept (t':=tk) fun b o e=>hk b o (fun z=>Nat.lt_irrefl _ (by have:=Heap.lt_size e; simp at z; rw [z] at this; exact this)) (Heap.get?_push_of_some _ e)
 ·obtain ⟨its,rv,pl,hz⟩:=I.tuple h
  have hp:p < s.heap.objs.size:=by obtain ⟨o,e,_⟩:=pl; exact Heap.lt_size e
  have pt:s.heap.IsTuple p its.toArray:=pl
  refine wpAny_pyIter_tuple pt ?_
  have W:=Walks.tuple (prog:=X.prog) (w:=X.w) (A:=A) hA s.heap.objs.size p (Nat.ne_of_lt hp) its.toArray
  refine k s.heap.objs.size [s.heap.objs.size,p] [s.heap.objs.size] its (fun i h=>h.IsTupleIter s.heap.objs.size p i∧h.IsTuple p its.toArray) _ rv (by simpa using W) ⟨⟨_,Heap.get?_push_size _ rfl,rfl,rfl⟩,?_⟩ (fun b hb=>?_) (fun h' tk hk=>?_)
  ·obtain ⟨o,e,r⟩:=pt
   exact ⟨o,Heap.get?_push_of_some _ e,r⟩
  ·show b < (s.heap.push _).objs.size
   rw [Heap.size_push]
   rcases List.mem_cons.mp hb with rfl | hb
   ·exact Nat.lt_succ_self _
   ·rcases List.mem_cons.mp hb with rfl | hb
    ·exact Nat.lt_succ_of_lt hp
    ·cases hb
  ·exact I.kept (t':=tk) fun b o e=>hk b o (fun z=>Nat.lt_irrefl _ (by have:=Heap.lt_size e; simp at z; rw [z] at this; exact this)) (Heap.get?_push_of_some _ e)
theorem Vals.at {xs:List V} {us:List Value} {i:Nat} {v:Value} (r:Vals xs us) (e:us[i]?=some v):∃ x,xs[i]?=some x∧RelV x v:=by
 have hi:i < us.length:=(List.getElem?_eq_some_iff.mp e).1
 have hx:i < xs.length:=by rw [r.length]; exact hi
 obtain ⟨u,h1,h2⟩:=r.get (List.getElem?_eq_getElem hx)
 rw [e] at h1; cases h1
 exact ⟨_,List.getElem?_eq_getElem hx,h2⟩
theorem call_all (hc:X.calm=true):CallR X (.builtin "all") (fun xs H Q=>∃ p ys,xs=[.ref p]∧(SqL X.K H p ys ∨ SqT X.K H p ys)∧ys.all plainB=true∧Q (.bl (ys.all tv)) H):=by
 intro pins s σ H xs us Q I r h
 obtain ⟨p,ys,rfl,hs,hp,q⟩:=h
 obtain ⟨u,rfl,ru⟩:=vals1 r
 cases ru
 refine call_all_walk (iter_seq I (A:=X.A.in1) (I.ok.hd hc) hs fun it fp wr its St s2 rv W st hfp hk=>?_)
 refine ⟨it,fp,wr,its.length,_,St,(fun i=>(ys[i]?.map tv).getD true),rfl,W,st,fun i v s' Q' E' hv hq=>?_,fun h' tk kk=>⟨.bl (ys.all tv),H,hk h' tk kk,?_,q⟩⟩
 ·obtain ⟨x,ex,rx⟩:=rv.at hv
  simp only [ex,Option.map_some,Option.getD_some] at hq
  exact truthy_plain rx (List.all_eq_true.mp hp x (List.mem_of_getElem? ex)) hq
 ·rw [all_range rv.length.symm]; rfl
theorem call_any (hc:X.calm=true):CallR X (.builtin "any") (fun xs H Q=>∃ p ys,xs=[.ref p]∧(SqL X.K H p ys ∨ SqT X.K H p ys)∧ys.all plainB=true∧Q (.bl (ys.any tv)) H):=by
 intro pins s σ H xs us Q I r h
 obtain ⟨p,ys,rfl,hs,hp,q⟩:=h
 obtain ⟨u,rfl,ru⟩:=vals1 r
 cases ru
 refine call_any_walk (iter_seq I (A:=X.A.in1) (I.ok.hd hc) hs fun it fp wr its St s2 rv W st hfp hk=>?_)
 refine ⟨it,fp,wr,its.length,_,St,(fun i=>(ys[i]?.map tv).getD false),rfl,W,st,fun i v s' Q' E' hv hq=>?_,fun h' tk kk=>⟨.bl (ys.any tv),H,hk h' tk kk,?_,q⟩⟩
 ·obtain ⟨x,ex,rx⟩:=rv.at hv
  simp only [ex,Option.map_some,Option.getD_some] at hq
  exact truthy_plain rx (List.all_eq_true.mp hp x (List.mem_of_getElem? ex)) hq
 ·rw [any_range rv.length.symm]; rfl
theorem preSum_take (ns:List Int):∀ k,k ≤ ns.length→preSum (fun i=>(ns[i]?).getD 0) k=(ns.take k).sum
 | 0,_=>by simp [preSum]
 | k + 1,h=>by
  have hk:k < ns.length:=h
  rw [preSum,preSum_take ns k (Nat.le_of_lt hk),List.getElem?_eq_getElem hk]
  have e:ns.take (k + 1)=ns.take k ++ [ns[k]]:=by rw [List.take_add_one,List.getElem?_eq_getElem hk]; rfl
  rw [e,List.sum_append]
  simp
theorem call_sum (hc:X.calm=true):CallR X (.builtin "sum") (fun xs H Q=>∃ (p:Addr) (ns:List Int),xs=[.ref p]∧(SqL X.K H p (ns.map V.int) ∨ SqT X.K H p (ns.map V.int))∧Q (.int ns.sum) H):=by
 intro pins s σ H xs us Q I r h
 obtain ⟨p,ns,rfl,hs,q⟩:=h
 obtain ⟨u,rfl,ru⟩:=vals1 r
 cases ru
 refine call_sum_walkG (iter_seq I (A:=X.A.in1) (I.ok.hd hc) hs fun it fp wr its St s2 rv W st hfp hk=>?_)
 refine ⟨it,fp,wr,its.length,_,St,(fun i=>(ns[i]?).getD 0),rfl,W,st,hfp,fun i v hv=>?_,fun h' tk t' kk=>⟨.int ns.sum,H,hk h' tk kk,⟨t',?_⟩,q⟩⟩
 ·obtain ⟨x,ex,rx⟩:=rv.at hv
  rw [List.getElem?_map] at ex
  cases e:ns[i]? with
  | none=>rw [e] at ex; cases ex
  | some n =>
   rw [e] at ex
   cases ex
   simp only [e,Option.getD_some]
   exact rx
 ·have hl:its.length=ns.length:=by rw [← rv.length,List.length_map]
  rw [hl,preSum_take ns _ (Nat.le_refl _),List.take_length]
theorem call_maxL (hc:X.calm=true):CallR X (.builtin "max") (fun xs H Q=>∃ (p:Addr) (ns:List Int),xs=[.ref p]∧(SqL X.K H p (ns.map V.int) ∨ SqT X.K H p (ns.map V.int))∧ns ≠ []∧∀ m,m ∈ ns→(∀ n ∈ ns,n ≤ m)→Q (.int m) H):=by
 intro pins s σ H xs us Q I r h
 obtain ⟨p,ns,rfl,hs,hne,q⟩:=h
 obtain ⟨u,rfl,ru⟩:=vals1 r
 cases ru
 refine call_max_walk (iter_seq I (A:=X.A.in1) (I.ok.hd hc) hs fun it fp wr its St s2 rv W st hfp hk=>?_)
 have hl:its.length=ns.length:=by rw [← rv.length,List.length_map]
 have hpos:0 < ns.length:=List.length_pos_iff.mpr hne
 have val:∀ (i:Nat) (v:Value),its[i]?=some v→∃ t,v=Value.int ((ns[i]?).getD 0) t:=fun i v hv=>by
  obtain ⟨x,ex,rx⟩:=rv.at hv
  rw [List.getElem?_map] at ex
  cases e:ns[i]? with
  | none=>rw [e] at ex; cases ex
  | some n =>
   rw [e] at ex
   cases ex
   exact rx
 refine ⟨it,fp,wr,its.length,_,St,(fun i j=>decide ((ns[i]?).getD 0 > (ns[j]?).getD 0)),rfl,W,st,hfp,by omega,CmpOf.ints_gt (fun i=>(ns[i]?).getD 0) val,fun v h' tk hP kk=>?_⟩
 obtain ⟨t,rfl⟩:=val _ _ hP
 obtain ⟨h1,h2⟩:=argBest_gt (fun i=>(ns[i]?).getD 0) (its.length - 1)
 have hlt:argBest (fun i j=>decide ((ns[i]?).getD 0 > (ns[j]?).getD 0)) (its.length - 1) < ns.length:=by
  omega
 refine ⟨.int _,H,hk h' tk kk,⟨t,rfl⟩,q _ ?_ fun n hn=>?_⟩
 ·rw [List.getElem?_eq_getElem hlt]
  exact List.getElem_mem hlt
 ·obtain ⟨i,hi,e⟩:=List.mem_iff_getElem.mp hn
  have:=h2 i (by omega)
  simp only [List.getElem?_eq_getElem hi,Option.getD_some] at this
  rw [← e]; exact this
end
def tIsi (K:PySem.W.Frag) (c:Value) (te:TE):TE:=fun σ H Q=>te σ H fun x H1=>∃ t b,TyOf K H1 x t∧PySem.W.kitOne K t c=some b∧Q (.bl b) H1
section
variable {X:Cx} {e:Expr} {te:TE}
theorem spl2 {a b:Expr} {ta:TE} {pos:Pos} {pins:List (Addr × Obj)} {s:Shared} {σ:St} {H:Hp} {Q:List Value→Shared→Prop} (ha:PE X a ta) (I:Inv X pins σ H s) {R:V→Hp→Prop} (h:ta σ H R)
  (hs:starEach [a,b] X.env=[(false,eval a X.env),(false,eval b X.env)]) (k:∀ u s1 x H1,Inv X pins σ H1 s1→RelV x u→R x H1→wpAny (model X.prog X.w) X.A (eval b X.env) (fun v s2=>Q [u,v] s2) X.xe s1) :
  wpAny (model X.prog X.w) X.A (spliced (backTo pos (starEach [a,b] X.env))) Q X.xe s:=by
 rw [hs]
 refine Calls.spliced_cons (thn (ha pins s σ H _ I h) fun u s1 ⟨x,H1,I1,r,q⟩=>?_)
 exact Calls.spliced_cons (thn (k u s1 x H1 I1 r q) fun v s2 h2=>Calls.spliced_nil h2)
theorem pe_isiB {T:Str} {n:String} {p p2 pos:Pos} (he:PE X e te) (hg:Gl X "isinstance") (hm:X.mg "isinstance"=none) (hgT:Gl X T) (hmT:X.mg T=none) (hv:bootBuiltins T=some (.type n))
  (hb:bootBuiltins "isinstance"=some (.builtin "isinstance")) (hnT:T ≠ "__name__":=by decide) (hdT:(T == ("__debug__" : Str))=false:=by decide)
  (hs:starEach [e,.Name T p2] X.env=[(false,eval e X.env),(false,eval (.Name T p2) X.env)]:=by rfl)
  (hpl:(backTo pos (starEach [.Name T p2] X.env)).any (·.1)=false:=by rfl):PE X (.Call (.Name "isinstance" p) [e,.Name T p2] [] pos) (tIsi X.K (.type n) te):=by
 intro pins s σ H Q I h
 refine Call_ (ld_blt I hg hm hb (PyProof.Rows.callWith_builtin1 (spl2 (Q:=fun us s1=>wpAny (model X.prog X.w) X.A (call (.builtin "isinstance") us) (EP X pins σ Q) X.xe s1) he I h hs fun u s1 x H1 I1 r q=>?_) ?_ hpl))
 ·refine ld_blt I1 hgT hmT hv ?_ hnT hdT
  obtain ⟨t,b,ty,ek,q⟩:=q
  exact isinst_ok I1 r ty ek fun tk=>⟨.bl b,H1,I1.tok tk,rfl,q⟩
 ·rw [hs]; rfl
end
mutual
inductive DtV (K:PySem.W.Frag) (H:Hp):V→PyData→Prop
 | non:DtV K H .non .none
 | bl (b:Bool):DtV K H (.bl b) (.bool b)
 | int (i:Int):DtV K H (.int i) (.int i)
 | str (x:Str) (ok:(PyData.str x).canLay0=true):DtV K H (.str x) (.str x)
 | lst {a:Addr} {xs:List V} {ds:List PyData}:SqL K H a xs→DtVs K H xs ds→DtV K H (.ref a) (.list ds)
 | tup {a:Addr} {xs:List V} {ds:List PyData}:SqT K H a xs→DtVs K H xs ds→DtV K H (.ref a) (.tuple ds)
inductive DtVs (K:PySem.W.Frag) (H:Hp):List V→List PyData→Prop
 | nil:DtVs K H [] []
 | cons {x:V} {xs:List V} {d:PyData} {ds:List PyData}:DtV K H x d→DtVs K H xs ds→DtVs K H (x :: xs) (d :: ds)
end
section
variable {X:Cx} {pins:List (Addr × Obj)} {σ:St} {H:Hp} {s:Shared}
mutual
theorem DtV.reads (I:Inv X pins σ H s):∀ {x:V} {d:PyData} {u:Value},DtV X.K H x d→RelV x u→∃ as,Reads s.heap u d as
 | _,_,_,.non,r=>by cases r; exact ⟨_,.none⟩
 | _,_,_,.bl b,r=>by cases r; exact ⟨_,.bool b⟩
 | _,_,_,.int i,r=>by obtain ⟨t,rfl⟩:=r; exact ⟨_,.int i t⟩
 | _,_,_,.str x _,r=>by obtain ⟨t,rfl⟩:=r; exact ⟨_,.str x t⟩
 | _,_,_,.lst hq h,r=>by
  cases r
  obtain ⟨its,rv,⟨o,n,e,c,_,d⟩,_⟩:=I.list hq
  obtain ⟨as,ra⟩:=DtVs.reads I h rv
  exact ⟨_,.list e c d (by simpa using ra)⟩
 | _,_,_,.tup hq h,r=>by
  cases r
  obtain ⟨its,rv,⟨o,e,c,n,d⟩,_⟩:=I.tuple hq
  obtain ⟨as,ra⟩:=DtVs.reads I h rv
  exact ⟨_,.tuple e c d (by simpa using ra)⟩
theorem DtVs.reads (I:Inv X pins σ H s):∀ {xs:List V} {ds:List PyData} {us:List Value},DtVs X.K H xs ds→Vals xs us→∃ as,ReadsAll s.heap us ds as
 | _,_,_,.nil,r=>by cases r; exact ⟨_,.nil⟩
 | _,_,_,.cons h t,r=>by
  cases r with
  | cons r1 r2 =>
   obtain ⟨as,ra⟩:=DtV.reads I h r1
   obtain ⟨bs,rb⟩:=DtVs.reads I t r2
   exact ⟨_,.cons ra rb⟩
end
mutual
theorem DtV.lay {K:PySem.W.Frag}:∀ {x:V} {d:PyData},DtV K H x d→d.canLay0=true
 | _,_,.non=>rfl
 | _,_,.bl b=>rfl
 | _,_,.int i=>rfl
 | _,_,.str x ok=>ok
 | _,_,.lst hq h=>by have:=DtVs.lay h; simpa [PyData.canLay0] using this
 | _,_,.tup hq h=>by have:=DtVs.lay h; simpa [PyData.canLay0] using this
theorem DtVs.lay {K:PySem.W.Frag}:∀ {xs:List V} {ds:List PyData},DtVs K H xs ds→PyData.canLayAll0 ds=true
 | _,_,.nil=>rfl
 | _,_,.cons h t=>by have h1:=DtV.lay h; have h2:=DtVs.lay t; simp [PyData.canLayAll0,h1,h2]
end
end
section
variable {X:Cx}
def rEqD (K:PySem.W.Frag):R2:=fun x y H Q=>∃ dx dy,DtV K H x dx∧DtV K H y dy∧min dx.depth dy.depth ≤ 60∧Q (.bl (PyData.eqv dx dy)) H
def rNeD (K:PySem.W.Frag):R2:=fun x y H Q=>∃ dx dy,DtV K H x dx∧DtV K H y dy∧min dx.depth dy.depth ≤ 60∧Q (.bl (!PyData.eqv dx dy)) H
theorem op_eqD (hu:X.A.units + 64 < cLine):OpR X (compareOp .Eq) (rEqD X.K):=by
 intro pins s σ H x y v u Q I rx ry h
 obtain ⟨dx,dy,hx,hy,hd,q⟩:=h
 obtain ⟨as,ra⟩:=hx.reads I rx
 obtain ⟨bs,rb⟩:=hy.reads I ry
 exact SeqAt.eqOverData X.prog X.w X.A X.xe s v u dx dy as bs _ ra rb hx.lay hy.lay (by omega) ⟨.bl (PyData.eqv dx dy),H,I,rfl,q⟩
theorem op_neD (hu:X.A.units + 64 < cLine):OpR X (compareOp .NotEq) (rNeD X.K):=by
 intro pins s σ H x y v u Q I rx ry h
 obtain ⟨dx,dy,hx,hy,hd,q⟩:=h
 obtain ⟨as,ra⟩:=hx.reads I rx
 obtain ⟨bs,rb⟩:=hy.reads I ry
 exact SeqAt.neOverData X.prog X.w X.A X.xe s v u dx dy as bs _ ra rb hx.lay hy.lay (by omega) ⟨.bl (!PyData.eqv dx dy),H,I,rfl,q⟩
end
end L2
namespace PySem
open AutoSeq1 (wpAny_loadPart')
theorem jf2 {prog:Program} {w:World} {A:Around} {E:Value→Shared→Prop} {s:Shared} {it l:Addr} {i:Nat} {items} {x:Value} {Q:Value→Shared→Prop} (hit:s.heap.IsTupleIter it l i)
  (hl:s.heap.IsTuple l items) (hx:items[i]?=some x)
  (hQ:∀ h',h'.IsTupleIter it l (i + 1)→Heap.SameBut it s.heap h'→Q x { s with heap:=h' }) :
  wpAny (model prog w) A (Builtin.SmallTypes.nextOf (.ref it)) Q E s:=by
 obtain ⟨o,ho,hc,hd⟩:=id hit
 obtain ⟨ol,hol,_,nl,hdl⟩:=hl
 have hty:s.TypeIs (.ref it) "tuple_iterator":=⟨o,ho,hc⟩
 unfold Builtin.SmallTypes.nextOf
 refine wpAny_bind (wpAny_callSpecial?_slot (name:=Str.ofString "__next__") hty PyProof.Rows.slot_tupleiter_next
  (wpAny_call_entry PyProof.Rows.slot_tupleiter_next hty PyProof.Rows.entry_tupleiter_next ?_ (PyProof.Rows.args_tupleiter_next _)))
 show wpAny _ _ (field (.ref it) 0 >>= _) _ _ s
 refine wpAny_bind (wpAny_field ho hd (x:=.ref l) rfl ?_)
 show wpAny _ _ (if (Value.ref l == Value.none)=true then _ else _) _ _ s
 rw [if_neg (show ¬ ((Value.ref l == Value.none)=true) from Bool.false_ne_true)]
 show wpAny _ _ (field (.ref it) 1 >>= _) _ _ s
 refine wpAny_bind (wpAny_field ho hd (x:=.int i 0) rfl ?_)
 show wpAny _ _ (seqItems? (.ref l) >>= _) _ _ s
 refine wpAny_bind (wpAny_seqItems hol hdl ?_)
 simp only [Int.toNat_natCast,hx]
 refine wpAny_bind (wpAny_setField ho hd (by simp) (wpAny_pure ⟨x,rfl,wpAny_pure (hQ _ ?_ (Heap.SameBut.update ..))⟩))
 exact ⟨_,Heap.get?_update_self _ ho (Obj.isFreed_of_fields (Obj.data_mapFields hd _)),(Obj.cls_mapFields ..).trans hc,by
  rw [Obj.data_mapFields hd]; simp [rawInt]⟩
theorem jf8 {prog:Program} {w:World} {A:Around} {E:Value→Shared→Prop} {s:Shared} {it l:Addr} {i:Nat} {items} {Q:Value→Shared→Prop} (hh:A.handled=none)
  (hit:s.heap.IsTupleIter it l i) (hl:s.heap.IsTuple l items) (hx:items[i]?=none)
  (hE:∀ h' e,Heap.ExtBut it s.heap h'→(∃ o,h'.get? e=some o∧o.cls=.type "StopIteration")→E (.ref e) { s with heap:=h' }) :
  wpAny (model prog w) A (Builtin.SmallTypes.nextOf (.ref it)) Q E s:=by
 obtain ⟨o,ho,hc,hd⟩:=id hit
 obtain ⟨ol,hol,_,nl,hdl⟩:=hl
 have hty:s.TypeIs (.ref it) "tuple_iterator":=⟨o,ho,hc⟩
 unfold Builtin.SmallTypes.nextOf
 refine wpAny_bind (wpAny_callSpecial?_slot (name:=Str.ofString "__next__") hty PyProof.Rows.slot_tupleiter_next
  (wpAny_call_entry PyProof.Rows.slot_tupleiter_next hty PyProof.Rows.entry_tupleiter_next ?_ (PyProof.Rows.args_tupleiter_next _)))
 show wpAny _ _ (field (.ref it) 0 >>= _) _ _ s
 refine wpAny_bind (wpAny_field ho hd (x:=.ref l) rfl ?_)
 show wpAny _ _ (if (Value.ref l == Value.none)=true then _ else _) _ _ s
 rw [if_neg (show ¬ ((Value.ref l == Value.none)=true) from Bool.false_ne_true)]
 show wpAny _ _ (field (.ref it) 1 >>= _) _ _ s
 refine wpAny_bind (wpAny_field ho hd (x:=.int i 0) rfl ?_)
 show wpAny _ _ (seqItems? (.ref l) >>= _) _ _ s
 refine wpAny_bind (wpAny_seqItems hol hdl ?_)
 simp only [Int.toNat_natCast,hx]
 refine wpAny_bind (wpAny_rule (wpAny_bind (wpAny_setField ho hd (by simp) ?_)))
 show wpAny _ _ (newExc (.type "StopIteration") [] >>= _) _ _ _
 refine wpAny_bind ?_
 simp only [newExc,newTuple]
 refine wpAny_bind (wpAny_newObj_type ?_ (by size_fits))
 refine wpAny_bind (m:=firstArgMember _ _) (wpAny_of_eq (a:=Value.none) (by first | rfl | (simp only [firstArgMember]; rfl)) ?_)
 refine wpAny_newObj_type ?_ (by size_fits)
 simp only [raiseNew]
 refine wpAny_bind (wpAny_handled ?_)
 first | rw [show A.in1.handled=none from hh] | rw [hh]
 refine wpAny_bind (wpAny_pure (wpAny_throw ?_))
 exact hE _ _ (((Heap.SameBut.update ..).extBut.push _).push _) ⟨_,Heap.get?_push_size _ rfl,rfl⟩
theorem Draws.tup {prog:Program} {w:World} {A:Around} (hh:A.handled=none) (it l:Addr) (hne:l ≠ it) (items:Array Value) :
  Draws prog w A it [it,l] items.size (fun i v=>items[i]?=some v) (fun i h=>h.IsTupleIter it l i∧h.IsTuple l items) where
 live:=fun _ _ st=>let ⟨o,ho,_⟩:=st.1; ⟨o,ho⟩
 frame:=fun _ _ _ st hk=>⟨let ⟨o,e,r⟩:=st.1; ⟨o,hk it (by simp) o e,r⟩,let ⟨o,e,r⟩:=st.2; ⟨o,hk l (by simp) o e,r⟩⟩
 item:=fun i s Q E hi st hQ=>by
  refine jf2 st.1 st.2 (x:=items[i]) (by simp [hi]) fun h' hit' hs'=>?_
  obtain ⟨o,e,r⟩:=st.2
  exact hQ _ h' s.toks (by simp [hi]) ⟨hit',⟨o,hs'.extBut l o hne e,r⟩⟩ hs'
 done:=fun s Q E st hE=>jf8 hh st.1 st.2 (by simp) hE
set_option maxHeartbeats 1000000 in
theorem meets_enumerate_newT (l:Addr) (items:Array Value) (n:Nat) (dct:Option Addr) (sl:Array (Option Value)) :
  Meets (Builtin.«enumerate.__new__» ⟨[.type "enumerate",.ref l],[]⟩) (fun _ R s=>s.heap.get? l=some { cls:=.type "tuple",dict:=dct,data:=.seq items n,slots:=sl } ∧
   R (.ok (.ret (.ref (s.heap.push { cls:=.type "tuple_iterator",data:=.fields #[.ref l,.int 0 0] }).objs.size)))
    { s with heap:=(s.heap.push { cls:=.type "tuple_iterator",data:=.fields #[.ref l,.int 0 0] }).push { cls:=.type "enumerate",data:=.fields #[.none,.bool false,.ref s.heap.objs.size,rawInt 0,.none,.none] } }) :=
 .of_wp fun prog w A R s h=>by
  obtain ⟨hp,g,d,tk,os⟩:=s; obtain ⟨hl,h⟩:=h
  have hsub:=sub_enumerate
  have hL:Heap.IsTuple (Shared.heap ⟨hp,g,d,tk,os⟩) l items:=⟨_,hl,rfl,n,rfl⟩
  wp_walk using wpAny_loadPart' hl
  refine wpAny_stack_any fun st=>wpAny_pure ?_
  split
  ·rename_i c _ _ _ _ _
   cases (c == Value.type "enumerate")
   ·wp_walk using wpAny_loadPart' hl,wpAny_pyIter_tuple hL
    exact ⟨_,rfl,h⟩
   ·wp_walk using wpAny_loadPart' hl,wpAny_pyIter_tuple hL
    exact ⟨_,rfl,h⟩
  ·wp_walk using wpAny_loadPart' hl,wpAny_pyIter_tuple hL
   exact ⟨_,rfl,h⟩
theorem call_enumerate_tup {prog:Program} {w:World} {A:Around} {E:Value→Shared→Prop} {s:Shared} {l:Addr} {items:Array Value} {Q:Value→Shared→Prop} (hL:s.heap.IsTuple l items)
  (h:∀ h',IsEnum h' (s.heap.objs.size + 1) s.heap.objs.size 0 .none→h'.IsTupleIter s.heap.objs.size l 0→h'.objs.size=s.heap.objs.size + 2 →
   (∀ b o,s.heap.get? b=some o→h'.get? b=some o)→Q (.ref (s.heap.objs.size + 1)) { s with heap:=h' }) :
  wpAny (model prog w) A (call (.type "enumerate") [.ref l]) Q E s:=by
 obtain ⟨⟨c,dct,dt,sl⟩,hl,hc,n,hd⟩:=hL
 replace hc:c=.type "tuple":=hc
 replace hd:dt=.seq items n:=hd
 subst hc hd
 refine callType_new F.called_enumerate (by decide) (F.typeCall_enumerate_1 _) (F.newCall_enumerate_1 _) (fun obj=>F.args_object_init_2 obj _) F.entry_enumerate_new
  (meets_enumerate_newT l items n dct sl) ⟨hl,?_⟩
 have hz:(s.heap.push { cls:=.type "tuple_iterator",data:=.fields #[.ref l,.int 0 0] }).objs.size=s.heap.objs.size + 1:=Heap.size_push ..
 show _∧_
 rw [hz]
 have he:IsEnum ((s.heap.push { cls:=.type "tuple_iterator",data:=.fields #[.ref l,.int 0 0] }).push
   { cls:=.type "enumerate",data:=.fields #[.none,.bool false,.ref s.heap.objs.size,rawInt 0,.none,.none] }) (s.heap.objs.size + 1) s.heap.objs.size 0 .none:=by
  have:=Heap.get?_push_size (s.heap.push { cls:=.type "tuple_iterator",data:=.fields #[.ref l,.int 0 0] })
   (o:={ cls:=.type "enumerate",data:=.fields #[.none,.bool false,.ref s.heap.objs.size,rawInt 0,.none,.none] }) rfl
  rw [hz] at this; exact this
 refine ⟨⟨_,he,rfl⟩,h _ he ⟨_,Heap.get?_push_of_some _ (Heap.get?_push_size _ rfl),rfl,rfl⟩ (by rw [Heap.size_push,hz]) fun b o x=>Heap.get?_push_of_some _ (Heap.get?_push_of_some _ x)⟩
end PySem
namespace PySem
theorem noR_tuple_mul:fillsNumberSlot (.type "tuple") "mul"=pure false:=by
 first
  | exact fillsNumberSlot_seq (id:="tuple.__mul__") (r:=some (.builtin "tuple.__rmul__")) F.slot_tuple_mul.lookup (by decide +kernel) F.slot_tuple_rmul.lookup rfl
  | (unfold fillsNumberSlot; rfl)
theorem repeat_tuple:seqRepeat? (.type "tuple")=pure (some (.builtin "tuple.__mul__")):=by
 unfold seqRepeat?
 first | rfl | kernel_rfl
end PySem
namespace PySem
open AutoSeq1 (wpAny_loadPart')
theorem int_rmul_tup (a:Int) (t:Tok) (l:Addr) (items:Array Value) (n:Nat) (dct:Option Addr) (sl:Array (Option Value)) :
  Meets (Builtin.«int.__rmul__» ⟨[.int a t,.ref l],[]⟩) (fun _ R s=>s.heap.get? l=some { cls:=.type "tuple",dict:=dct,data:=.seq items n,slots:=sl }∧R (.ok (.ret Value.notImplemented)) s) :=
 .of_wp fun prog w A R s h=>by obtain ⟨hp,g,d,tk,os⟩:=s; obtain ⟨hl,h⟩:=h; wp_walk using wpAny_loadPart' hl; exact ⟨_,rfl,h⟩
set_option maxHeartbeats 2000000 in
theorem tup_mul_new (l:Addr) (items:Array Value) (n:Nat) (dct:Option Addr) (sl:Array (Option Value)) (x:Int) (u:Tok) (hne:items.isEmpty=false) (h1:(x == 1)=false) (h2:(decide (x < -(2 ^ 63)) || decide (x ≥ 2 ^ 63))=false)
  (h3:(decide (x ≤ 0) || items.isEmpty)=false) (h4:decide ((items.size:Int) * x > (2 ^ 63 - 1) / 8)=false) (h5:Builtin.Tuple.tupleTooMany ((items.size:Int) * x)=false) (h6:(List.foldl (fun x1 x2=>x1 ++ x2) #[] (List.replicate x.toNat items)).size ≤ sizeLine) :
  Meets (Builtin.«tuple.__mul__» ⟨[.ref l,.int x u],[]⟩) (fun _ R s=>s.heap.get? l=some { cls:=.type "tuple",dict:=dct,data:=.seq items n,slots:=sl }∧R (.ok (.ret (Value.ref s.heap.objs.size))) { s with heap:=s.heap.push { cls:=Value.type "tuple",data:=Data.seq (List.foldl (fun x1 x2=>x1 ++ x2) #[] (List.replicate x.toNat items)) } }) :=
 .of_wp fun prog w A R s h=>by
  obtain ⟨hp,g,d,tk,os⟩:=s; obtain ⟨hl,h⟩:=h
  wp_walk using wpAny_loadPart' hl
  rw [if_neg (by rw [h2]; exact Bool.false_ne_true)]
  wp_walk using wpAny_loadPart' hl
  rw [if_neg (by rw [h3]; exact Bool.false_ne_true)]
  try dsimp only
  rw [if_neg (of_decide_eq_false h4)]
  try dsimp only
  rw [if_neg (by rw [h5]; exact Bool.false_ne_true)]
  try dsimp only
  refine wpAny_bind (wpAny_newObj_type ?_ h6)
  wp_walk
  exact ⟨_,rfl,h⟩
set_option maxHeartbeats 2000000 in
theorem tup_mul_one (l:Addr) (items:Array Value) (n:Nat) (dct:Option Addr) (sl:Array (Option Value)) (u:Tok) :
  Meets (Builtin.«tuple.__mul__» ⟨[.ref l,.int 1 u],[]⟩) (fun _ R s=>s.heap.get? l=some { cls:=.type "tuple",dict:=dct,data:=.seq items n,slots:=sl }∧R (.ok (.ret (Value.ref l))) s) :=
 .of_wp fun prog w A R s h=>by
  obtain ⟨hp,g,d,tk,os⟩:=s; obtain ⟨hl,h⟩:=h
  wp_walk using wpAny_loadPart' hl
  exact ⟨_,rfl,h⟩
end PySem
namespace L2
open PySem PySem.Spec PyProof.Rows
section
variable {X:Cx}
def rRepT (K:PySem.W.Frag):R2:=fun x y H Q=>∃ (a:Addr) (k:Int) (xs:List V),x=.ref a∧y=.int k∧SqT K H a xs∧xs ≠ []∧1 ≤ k∧xs.length * k.toNat ≤ sizeLine ∧
 (k=1→Q (.ref a) H)∧(k ≠ 1→∀ p,H p=none→Q (.ref p) (upd H p (.tup (List.replicate k.toNat xs).flatten)))
theorem op_repT:OpR X (binaryOp .Mult) (rRepT X.K):=by
 intro pins s σ H x y v u Q I rx ry h
 obtain ⟨a,k,xs,rfl,rfl,hH,hne,h1,hz,q1,q2⟩:=h
 cases rx
 obtain ⟨t,rfl⟩:=ry
 obtain ⟨its,r,⟨⟨cl,dc,dt,sl⟩,e,hc,n,hd⟩,hl⟩:=I.tuple hH
 simp only at hc hd
 subst hc hd
 have hlen:=r.length
 have hty:s.TypeIs (.ref a) "tuple":=⟨_,e,rfl⟩
 refine wpAny_binaryOp_repeat_ref (T:="tuple") (U:="int") (by decide) hty (fun s'=>typeIs_int s' k t) noR_tuple_mul F.fills_int_mul F.slot_int_rmul repeat_tuple F.slot_int_index.lookup
  (call_meets F.slot_int_rmul (typeIs_int s k t) F.entry_int_rmul (F.args_int_rmul_2 _ _) (int_rmul_tup k t a its.toArray n dc sl) ⟨e,rfl,hty,?_⟩)
 have hs:sizeLine=16777216:=sizeLine_eq
 by_cases hk:k=1
 ·subst hk
  exact call_meets F.slot_tuple_mul hty F.entry_tuple_mul (F.args_tuple_mul_2 _ _) (tup_mul_one a its.toArray n dc sl t) ⟨e,⟨.ref a,H,I,rfl,q1 rfl⟩⟩
 ·have hpos:0 < its.length:=by rw [← hlen]; exact List.length_pos_iff.mpr hne
  have hmul:(its.length:Int) * k=((its.length * k.toNat:Nat):Int):=by
   rw [Int.natCast_mul,Int.toNat_of_nonneg (by omega)]
  have hz':its.length * k.toNat ≤ 16777216:=by rw [← hlen,← hs]; exact hz
  have hkb:k.toNat ≤ 16777216:=Nat.le_trans (Nat.le_mul_of_pos_left _ hpos) hz'
  have hnew:List.foldl (fun x1 x2=>x1 ++ x2) #[] (List.replicate k.toNat its.toArray)=(List.replicate k.toNat its).flatten.toArray:=by
   have:=foldl_rep its k.toNat []
   rw [List.nil_append] at this
   exact this
  have hfit:(List.foldl (fun x1 x2=>x1 ++ x2) #[] (List.replicate k.toNat its.toArray)).size ≤ sizeLine:=by
   rw [hnew,List.size_toArray,len_rep,hs,Nat.mul_comm]; exact hz'
  refine call_meets F.slot_tuple_mul hty F.entry_tuple_mul (F.args_tuple_mul_2 _ _) (tup_mul_new a its.toArray n dc sl k t ?_ ?_ ?_ ?_ ?_ ?_ hfit) ⟨e,?_⟩
  ·cases its with
   | nil=>simp at hpos
   | cons _ _=>simp
  ·simpa using hk
  ·rw [decide_eq_false (by omega),decide_eq_false (by omega)]; rfl
  ·rw [decide_eq_false (by omega)]
   cases its with
   | nil=>simp at hpos
   | cons _ _=>simp
  ·refine decide_eq_false ?_
   rw [List.size_toArray,hmul]; omega
  ·show decide (_ > _)=false
   refine decide_eq_false ?_
   rw [List.size_toArray,hmul,hs]; omega
  ·rw [hnew]
   refine ⟨.ref _,_,I.laid (t':=s.toks) (o:=.tup (List.replicate k.toNat xs).flatten) (fun _ _ q=>Heap.get?_push_of_some _ q) (Nat.le_refl _) ⟨?_,_,r.rep k.toNat,IsTup.new s.heap _⟩,rfl,q2 hk _ I.fresh⟩
   rw [len_rep,Nat.mul_comm]; exact hz
def Ite (K:PySem.W.Frag) (a:Addr):It :=
 ⟨fun i H=>∃ xs x,SqT K H a xs∧xs[i]?=some x,fun i H x H'=>∃ p,H p=none∧x=.ref p∧∀ xs,SqT K H a xs→∃ y,xs[i]?=some y∧H'=upd H p (.tup [.int i,y]),fun i H=>∃ xs,SqT K H a xs∧xs.length ≤ i⟩
theorem Inv.turnedL {pins:List (Addr × Obj)} {σ:St} {H:Hp} {s:Shared} {h':Heap} {t':Nat} {ch:List Addr} (I:Inv X pins σ H s) (k:∀ b o,b ∉ ch→s.heap.get? b=some o→h'.get? b=some o) (hf:∀ b ∈ ch,FpOk X pins H b) :
  Inv X pins σ H { s with heap:=h',toks:=t' }:=by
 have nit:∀ b u,H b=some u→b ∉ ch:=fun b u e z=>by rw [(hf b z).1] at e; cases e
 refine I.step (g':=s.gens) (d':=s.drawn) (ch:=ch) (fun b hb=>⟨(hf b hb).2.2.2.1,(hf b hb).2.1,(hf b hb).2.2.2.2.1,(hf b hb).2.2.2.2.2⟩) (fun b o _ _ hc e _=>k b o hc e) (fun b o _ _ hc e _=>⟨o.slots,k b o hc e⟩) (fun _ _ _ _ n=>n)
  (fun b o hc e=>⟨o,k b o hc e⟩) (fun _ _ e=>e) (fun _ _ _ e=>e) (fun b ps e=>⟨#[],by rw [e]; simp⟩) (fun m hm=>?_) (fun b u e=>?_) I.bare
 ·obtain ⟨o,es,ep,ho,r⟩:=hm
  exact ⟨o,es,ep,k _ o (fun z=>(hf _ z).2.1 rfl) ho,r⟩
 ·refine (I.hok b u e).stay (fun c v hc q=>k c v ?_ q) (fun _ q=>q) fun _ _ q=>q
  rcases hc with z | z
  ·rw [z]; exact nit b u e
  ·exact nit c _ z
theorem Inv.track {pins:List (Addr × Obj)} {σ:St} {H:Hp} {s:Shared} {p:Addr} {o:HO} (I:Inv X pins σ H s) (f:FpOk X pins H p) (new:ObjOk X.prog X.w (upd H p o) s.heap p o):Inv X pins σ (upd H p o) s:=by
 have ne:∀ b u,H b=some u→b ≠ p:=fun b u e z=>by rw [z,f.1] at e; cases e
 have:=I.step (g':=s.gens) (d':=s.drawn) (t':=s.toks) (h':=s.heap) (H':=upd H p o) (ch:=[p]) (fun b hb=>by
   obtain rfl:b=p:=by simpa using hb
   exact ⟨f.2.2.2.1,f.2.1,f.2.2.2.2.1,f.2.2.2.2.2⟩) (fun b o _ _ _ e _=>e) (fun b o _ _ _ e _=>⟨o.slots,e⟩)
  (fun b o hc _ n=>by rw [jb5 (fun z=>hc (by simp [z]))]; exact n) (fun b o _ e=>⟨o,e⟩) (fun b xs e=>by rw [jb5 (ne b _ e)]; exact e) (fun b o u e=>by rw [jb5 (ne b _ e)]; exact e)
  (fun b ps e=>⟨#[],by rw [jb5 (ne b _ e),e]; simp⟩) (fun m hm=>hm) (fun b u e=>by
   by_cases hb:b=p
   ·subst hb; rw [ja1] at e; cases e; exact new
   ·rw [jb5 hb] at e
    exact (I.hok b u e).stay (fun c v _ q=>q) (fun c q=>by rw [jb5 (ne c _ q)]; exact q) fun c xs q=>by rw [jb5 (ne c _ q)]; exact q) I.bare
 exact this
theorem turn_enum {P:Program} {w:World} {K:PySem.W.Frag} {elts:List Expr} {kk} {pos:Pos} (a e it:Addr) (hei:e ≠ it):Turn P w K (.Tuple elts kk pos) (Ite K a) [e,it] e (fun i h=>(∃ old,IsEnum h e it (i:Nat) old)∧h.IsTupleIter it a i) where
 mem:=by simp
 obj:=fun i h st b hb=>by
  obtain ⟨⟨old,he⟩,o,e1,c,d⟩:=st
  rcases List.mem_cons.mp hb with rfl | hb
  ·exact ⟨_,he,fun v z=>by cases z⟩
  ·obtain rfl:b=it:=by simpa using hb
   exact ⟨o,e1,fun v z=>by rw [d] at z; cases z⟩
 keep:=fun i h h' st k=>by
  obtain ⟨⟨old,he⟩,o,e1,c,d⟩:=st
  exact ⟨⟨old,k e (by simp) _ he⟩,o,k it (by simp) _ e1,c,d⟩
 item:=by
  intro X hP hw hK hc i pins s σ H E I hf st hg
  subst hP hw hK
  obtain ⟨xs,x,hq,hx⟩:=hg
  obtain ⟨its,rv,p,hz⟩:=I.tuple hq
  obtain ⟨u,hu,ru⟩:=rv.get hx
  obtain ⟨⟨old,he⟩,st2⟩:=st
  have pt:s.heap.IsTuple a its.toArray:=p
  have hae:e ≠ a:=fun z=>by
   obtain ⟨o,e1,c,_⟩:=pt
   rw [← z,he] at e1; cases e1; exact absurd (show Value.type "enumerate"=Value.type "tuple" from c) (by decide)
  have hai:a ≠ it:=fun z=>by
   obtain ⟨o,e1,c,_⟩:=pt
   obtain ⟨o',e2,c',_⟩:=id st2
   rw [z,e2] at e1; cases e1; rw [c] at c'; exact absurd c' (by decide)
  have hlt:i < its.toArray.size:=by simpa using (List.getElem?_eq_some_iff.mp hu).1
  have D:=Draws.tup (prog:=X.prog) (w:=X.w) (A:=X.A.in1) (I.ok.hd hc) it a hai its.toArray
  refine wpAny_pyNext_enum_itemD D he ⟨st2,pt⟩ hlt hei (by simp [hei,hae]) fun y h' tk hP heo hst ht hsz hk=>?_
  have hy:y=u:=by
   have hP:its.toArray[i]?=some y:=hP
   rw [List.getElem?_toArray,hu] at hP
   exact (Option.some.inj hP).symm
  subst hy
  refine ⟨_,rfl,?_⟩
  refine wpAny_letOwnedTupleGo_enum heo fun h2 he2 hs2=>?_
  replace hs2:Heap.SameBut e h' h2:=hs2
  have hne:s.heap.objs.size ≠ e:=Nat.ne_of_gt (Heap.lt_size he)
  have I1:Inv X pins σ H { s with heap:=h2,toks:=tk + 1 }:=I.turnedL (ch:=[e,it]) (fun b o hb q=>by
   have b1:b ≠ e:=fun z=>hb (by simp [z])
   have b2:b ≠ it:=fun z=>hb (by simp [z])
   exact hs2.extBut b o b1 (hk b o b1 b2 q)) hf
  have ht2:=hs2.extBut _ _ hne ht
  have fp:FpOk X pins H s.heap.objs.size:=I.fpOk (Nat.le_refl _) I.fresh
  have I2:=I1.track (p:=s.heap.objs.size) (o:=.tup [.int i,x]) fp ⟨by show 2 ≤ sizeLine; decide,[.int i tk,y],.cons ⟨tk,rfl⟩ (.cons ru .nil),⟨_,ht2,rfl,_,rfl⟩⟩
  refine ⟨.ref s.heap.objs.size,_,I2,rfl,⟨_,I.fresh,rfl,fun ys hy=>by rw [I.tuple_inj hy hq]; exact ⟨x,hx,rfl⟩⟩,⟨⟨_,he2⟩,?_⟩,fun b hb=>?_⟩
  ·obtain ⟨⟨o,e1,c,d⟩,_⟩:=hst
   exact ⟨o,hs2.extBut _ _ (Ne.symm hei) e1,c,d⟩
  ·rw [jb5]
   ·exact (hf b hb).1
   ·rcases List.mem_cons.mp hb with rfl | hb
    ·exact hne.symm
    ·obtain rfl:b=it:=by simpa using hb
     obtain ⟨o,e1,_⟩:=st2
     exact Nat.ne_of_lt (Heap.lt_size e1)
 done:=by
  intro X hP hw hK hc i pins s σ H E I hf st hg
  subst hP hw hK
  obtain ⟨xs,hq,hx⟩:=hg
  obtain ⟨its,rv,p,hz⟩:=I.tuple hq
  obtain ⟨⟨old,he⟩,st2⟩:=st
  have pt:s.heap.IsTuple a its.toArray:=p
  have hai:a ≠ it:=fun z=>by
   obtain ⟨o,e1,c,_⟩:=pt
   obtain ⟨o',e2,c',_⟩:=id st2
   rw [z,e2] at e1; cases e1; rw [c] at c'; exact absurd c' (by decide)
  have hl:=rv.length
  have hT:s.TypeIs (.ref e) "enumerate":=⟨_,he,rfl⟩
  unfold pyNext
  refine wpAny_bind (wpAny_attempt (wpAny_callSpecial?_slot (name:=Str.ofString "__next__") hT F.slot_enumerate_next
   (wpAny_call_entry F.slot_enumerate_next hT F.entry_enumerate_next ?_ (F.args_enumerate_next_1 _))))
  show wpAny _ _ (field (.ref e) 2 >>= _) _ _ _
  refine wpAny_bind (wpAny_field he rfl (x:=.ref it) rfl ?_)
  refine wpAny_bind (jf8 (A:=X.A.in1) (I.ok.hd hc) st2 pt (by simp; omega) fun h' ex he' hx'=>?_)
  obtain ⟨o,ho,hc'⟩:=hx'
  refine wpAny_bind (wpAny_isInstance (T:="StopIteration") (b:=true) ⟨o,ho,hc'⟩ isSubtype_stop ?_)
  exact wpAny_pure ⟨rfl,I.turnedL (t':=s.toks) (ch:=[it]) (fun b o hb q=>he' b o (fun z=>hb (by simp [z])) q) (fun b hb=>hf b (List.mem_cons_of_mem _ hb))⟩
 self:=fun A i s Q E st h=>by
  obtain ⟨⟨old,he⟩,_⟩:=st
  exact wpAny_pyIter_enum he h
def iEnum (K:PySem.W.Frag) (ta:TA):TI:=fun σ H R=>ta σ H fun vs H1=>∃ a,vs=[.ref a]∧(∃ xs,SqT K H1 a xs)∧R (Ite K a) H1
end
end L2
namespace L2
open PySem PySem.Spec PyProof.Rows
def Cn (σ₀:St) (acc:Addr) (P:List V→Hp→Prop) (σ:St) (H:Hp):Prop:=(∀ v,σ.set 0 v=σ₀.set 0 v)∧∃ ys,H acc=some (.lst ys)∧P ys H
theorem Cn.of {σ₀:St} {acc:Addr} {P:List V→Hp→Prop} {w:Option V} {H:Hp} {ys:List V} (h:H acc=some (.lst ys)) (p:P ys H):Cn σ₀ acc P (σ₀.set 0 w) H:=⟨fun v=>by rw [List.set_set],ys,h,p⟩
def capOk (outer:List (Str × NameKind)) (N:List Str) (scope:Scope) (cap:List Str) (ix:List Nat):Bool :=
 (scope.kind == .function) && (scope.names.all fun x=>x.2 != .local || scope.names.lookup x.1 == some .local) && decide (scope.names.map (·.1)).Nodup &&
 (scope.names.all fun x=>x.2 != .free || outer.lookup x.1 == some .cell || outer.lookup x.1 == some .free) && (cap.all fun x=>decide ((x,NameKind.free) ∈ scope.names)) && (cap.zip ix).all (fun p=>N[p.2]? == some p.1) && cap.length == ix.length
theorem BlkOk.of {X:Cx} {scope:Scope} {own cap:List Str} {ix:List Nat} (outer:List (Str × NameKind)) (N:List Str) (hsc:X.env.scope.names=outer:=by rfl) (hN:X.N=N:=by rfl) (h:capOk outer N scope cap ix=true:=by decide +kernel):BlkOk X scope own cap ix:=by
 unfold capOk at h
 simp only [Bool.and_eq_true,List.all_eq_true,beq_iff_eq,decide_eq_true_eq,Bool.or_eq_true,bne_iff_ne,ne_eq] at h
 obtain ⟨⟨⟨⟨⟨⟨h1,h2⟩,h3⟩,h4⟩,h5⟩,h6⟩,h7⟩:=h
 refine ⟨h1,fun x hx hl=>?_,h3,fun x hx hl=>?_,fun j x e=>h5 x (List.mem_of_getElem? e),fun j x e=>?_,h7⟩
 ·rcases h2 x hx with z | z
  ·exact absurd hl z
  ·exact z
 ·show X.env.scope.names.lookup x.1=_ ∨ X.env.scope.names.lookup x.1=_
  rw [hsc]
  rcases h4 x hx with (z | z) | z
  ·exact absurd hl z
  ·exact .inl z
  ·exact .inr z
 ·have hj:j < cap.length:=(List.getElem?_eq_some_iff.mp e).1
  have hj':j < ix.length:=by omega
  refine ⟨ix[j],List.getElem?_eq_getElem hj',?_⟩
  rw [hN]
  have hz:(cap.zip ix)[j]?=some (x,ix[j]):=by
   rw [List.getElem?_zip_eq_some]
   exact ⟨e,List.getElem?_eq_getElem hj'⟩
  exact h6 _ (List.mem_of_getElem? hz)
section
variable {K:PySem.W.Frag} {lo:Int} {n:Nat} {tt:TT} {te:TE} {acc a:Addr} {xs:List V} {σ₀:St} {H₀:Hp} {Q:VK}
theorem je8 (Pv:Nat→List V→Hp→Prop) (h0:Pv 0 [] (upd H₀ acc (.lst [])))
  (hs:∀ (i:Nat) ys H,i < n→H acc=some (.lst ys)→Pv i ys H→tt (σ₀.set 0 (some (.int (lo + i)))) H fun b H4 =>
   if b=true then te (σ₀.set 0 (some (.int (lo + i)))) H4 fun y H5=>∃ zs,H5 acc=some (.lst zs)∧zs.length < sizeLine∧Cn σ₀ acc (Pv (i + 1)) (σ₀.set 0 (some (.int (lo + i)))) (upd H5 acc (.lst (zs ++ [y]))) else Cn σ₀ acc (Pv (i + 1)) (σ₀.set 0 (some (.int (lo + i)))) H4)
  (hd:∀ ys H,H acc=some (.lst ys)→Pv n ys H→Q (.ref acc) H):tCompN (gName 0) tt te (Itr lo n) acc σ₀ H₀ Q:=by
 refine ⟨fun i m σ H=>m=n - i∧i ≤ n∧Cn σ₀ acc (Pv i) σ H,⟨n,by simp,Nat.zero_le _,fun _=>rfl,[],ja1,h0⟩,?_⟩
 rintro i m σ H ⟨rfl,hi,hσ,ys,hy,p⟩
 by_cases hlt:i < n
 ·refine .inr ⟨hlt,Cn σ₀ acc (Pv (i + 1)),fun σ' H' c=>⟨n - (i + 1),by omega,rfl,hlt,c⟩,fun x H' y=>?_⟩
  obtain ⟨e,y⟩:=y
  subst e y
  show tt (σ.set 0 _) _ _
  rw [hσ]
  exact hs i ys _ hlt hy p
 ·have e:i=n:=by omega
  subst e
  exact .inl ⟨Nat.le_refl _,hd ys H hy p⟩
theorem jd3 (Pv:Nat→List V→Hp→Prop) (h0:Pv 0 [] (upd H₀ acc (.lst []))) (hl:∀ (i:Nat) ys H,i ≤ xs.length→H acc=some (.lst ys)→Pv i ys H→SqL K H a xs)
  (hs:∀ (i:Nat) x ys H,xs[i]?=some x→H acc=some (.lst ys)→Pv i ys H→tt (σ₀.set 0 (some x)) H fun b H4 =>
   if b=true then te (σ₀.set 0 (some x)) H4 fun y H5=>∃ zs,H5 acc=some (.lst zs)∧zs.length < sizeLine∧Cn σ₀ acc (Pv (i + 1)) (σ₀.set 0 (some x)) (upd H5 acc (.lst (zs ++ [y]))) else Cn σ₀ acc (Pv (i + 1)) (σ₀.set 0 (some x)) H4)
  (hd:∀ ys H,H acc=some (.lst ys)→Pv xs.length ys H→Q (.ref acc) H):tCompN (gName 0) tt te (Itl K a) acc σ₀ H₀ Q:=by
 refine ⟨fun i m σ H=>m=xs.length - i∧i ≤ xs.length∧Cn σ₀ acc (Pv i) σ H,⟨xs.length,by simp,Nat.zero_le _,fun _=>rfl,[],ja1,h0⟩,?_⟩
 rintro i m σ H ⟨rfl,hi,hσ,ys,hy,p⟩
 have q:=hl i ys H hi hy p
 by_cases hlt:i < xs.length
 ·refine .inr ⟨⟨xs,xs[i],q,by simp [hlt]⟩,Cn σ₀ acc (Pv (i + 1)),fun σ' H' c=>⟨xs.length - (i + 1),by omega,rfl,hlt,c⟩,fun x H' y=>?_⟩
  obtain ⟨e,y⟩:=y
  subst e
  show tt (σ.set 0 _) _ _
  rw [hσ]
  exact hs i x ys _ (y xs q) hy p
 ·have e:i=xs.length:=by omega
  subst e
  exact .inl ⟨⟨xs,q,Nat.le_refl _⟩,hd ys H hy p⟩
theorem comp_tup (Pv:Nat→List V→Hp→Prop) (h0:Pv 0 [] (upd H₀ acc (.lst []))) (hl:∀ (i:Nat) ys H,i ≤ xs.length→H acc=some (.lst ys)→Pv i ys H→SqT K H a xs)
  (hs:∀ (i:Nat) x ys H,xs[i]?=some x→H acc=some (.lst ys)→Pv i ys H→tt (σ₀.set 0 (some x)) H fun b H4 =>
   if b=true then te (σ₀.set 0 (some x)) H4 fun y H5=>∃ zs,H5 acc=some (.lst zs)∧zs.length < sizeLine∧Cn σ₀ acc (Pv (i + 1)) (σ₀.set 0 (some x)) (upd H5 acc (.lst (zs ++ [y]))) else Cn σ₀ acc (Pv (i + 1)) (σ₀.set 0 (some x)) H4)
  (hd:∀ ys H,H acc=some (.lst ys)→Pv xs.length ys H→Q (.ref acc) H):tCompN (gName 0) tt te (Itt K a) acc σ₀ H₀ Q:=by
 refine ⟨fun i m σ H=>m=xs.length - i∧i ≤ xs.length∧Cn σ₀ acc (Pv i) σ H,⟨xs.length,by simp,Nat.zero_le _,fun _=>rfl,[],ja1,h0⟩,?_⟩
 rintro i m σ H ⟨rfl,hi,hσ,ys,hy,p⟩
 have q:=hl i ys H hi hy p
 by_cases hlt:i < xs.length
 ·refine .inr ⟨⟨xs,xs[i],q,by simp [hlt]⟩,Cn σ₀ acc (Pv (i + 1)),fun σ' H' c=>⟨xs.length - (i + 1),by omega,rfl,hlt,c⟩,fun x H' y=>?_⟩
  obtain ⟨e,y⟩:=y
  subst e
  show tt (σ.set 0 _) _ _
  rw [hσ]
  exact hs i x ys _ (y xs q) hy p
 ·have e:i=xs.length:=by omega
  subst e
  exact .inl ⟨⟨xs,q,Nat.le_refl _⟩,hd ys H hy p⟩
end
end L2
namespace L2
open PySem PySem.Spec PyProof.Rows
section
variable {X:Cx} {tg l:Expr} {tl:TE}
theorem cLen (K:PySem.W.Frag) (h:X.K=K:=by rfl):CallR X (.builtin "len") (fun xs H Q=>∃ p ys,xs=[.ref p]∧(SqL K H p ys ∨ SqT K H p ys)∧Q (.int ys.length) H):=by subst h; exact call_len_seq
end
end L2
namespace KG
open PySem L2
theorem jc5:bootBuiltins "tuple"=some (.type "tuple"):=by first | rfl | kernel_rfl | decide +kernel
theorem boot_int:bootBuiltins "int"=some (.type "int"):=by first | rfl | kernel_rfl | decide +kernel
theorem boot_abs:bootBuiltins "abs"=some (.builtin "abs"):=by first | rfl | kernel_rfl | decide +kernel
theorem boot_max:bootBuiltins "max"=some (.builtin "max"):=by first | rfl | kernel_rfl | decide +kernel
theorem boot_min:bootBuiltins "min"=some (.builtin "min"):=by first | rfl | kernel_rfl | decide +kernel
theorem boot_any:bootBuiltins "any"=some (.builtin "any"):=by first | rfl | kernel_rfl | decide +kernel
theorem boot_sum:bootBuiltins "sum"=some (.builtin "sum"):=by first | rfl | kernel_rfl | decide +kernel
theorem boot_enumerate:bootBuiltins "enumerate"=some (.type "enumerate"):=by first | rfl | kernel_rfl | decide +kernel
theorem jd7:bootBuiltins "isinstance"=some (.builtin "isinstance"):=by first | rfl | kernel_rfl | decide +kernel
theorem boot_bool:bootBuiltins "bool"=some (.type "bool"):=by first | rfl | kernel_rfl | decide +kernel
def Bag (H:Hp) (b:Addr):Prop:=∃ c d:Int,H b=some (.lst [.int c,.int d])
def Kp (b:Addr) (H H':Hp):Prop:=∀ a o,a ≠ b→H a=some o→H' a=some o
theorem Kp.refl (b:Addr) (H:Hp):Kp b H H:=fun _ _ _ h=>h
theorem Kp.trans {b:Addr} {H H1 H2:Hp} (x:Kp b H H1) (y:Kp b H1 H2):Kp b H H2:=fun a o n h=>y a o n (x a o n h)
theorem Kp.bag {b:Addr} {H H':Hp} {o:HO} (x:Kp b H H'):Kp b H (upd H' b o):=fun a u n h=>by rw [jb5 n]; exact x a u n h
theorem Kp.new {b p:Addr} {H H':Hp} {o:HO} (x:Kp b H H') (hp:H' p=none):Kp b H (upd H' p o):=fun a u n h=>by rw [jb5 (jc2 (x a u n h) hp)]; exact x a u n h
theorem Kp.acc {b p:Addr} {H H':Hp} {o:HO} (x:Kp b H H') (hp:H p=none):Kp b H (upd H' p o):=fun a u n h=>by rw [jb5 (jc2 h hp)]; exact x a u n h
theorem Kp.free {b p:Addr} {H H':Hp} (x:Kp b H H') (hb:Bag H b) (hp:H' p=none) (hb':Bag H' b):H p=none:=by
 cases q:H p with
 | none=>rfl
 | some o =>
  by_cases e:p=b
  ·subst e; obtain ⟨c,d,h⟩:=hb'; rw [h] at hp; cases hp
  ·rw [x p o e q] at hp; cases hp
theorem Bag.new {b p:Addr} {H:Hp} {o:HO} (h:Bag H b) (hp:H p=none):Bag (upd H p o) b:=by
 obtain ⟨c,d,e⟩:=h
 exact ⟨c,d,by rw [jb5 (jc2 e hp)]; exact e⟩
theorem Bag.ne {b p:Addr} {H:Hp} (h:Bag H b) (hp:H p=none):b ≠ p:=by
 obtain ⟨c,d,e⟩:=h
 exact jc2 e hp
def spTake:Sp:=fun vs H Q _=>∃ (b:Addr) (m:Int),vs=[.ref b,.int m]∧Bag H b∧0 < m∧m < 1073741824∧∀ (r:Int) (H':Hp),0 ≤ r→r < m→Bag H' b→Kp b H H'→Q (.int r) H'
def spBag (K:PySem.W.Frag):Sp:=fun vs H Q _=>∃ (a:Addr) (ns:List Int) (k:Int),vs=[.ref a,.int k]∧SqL K H a (ns.map V.int)∧0 ≤ k∧k < 100∧∀ (p:Addr) (c d:Int),H p=none→Q (.ref p) (upd H p (.lst [.int c,.int d]))
structure Cal (K:PySem.W.Frag) (mg:Str→Option Value) (P:Program) (w:World) (base:Heap) (x:Str) (k:Nat) (ps:List Str) (sp:Sp) (f:Addr) (fd:FuncData):Prop where
 ok:FnOk P w K mg base CX0 k f fd ps sp
 mg:mg x=some (.ref f)
 kp:PySem.W.keepIn K (.ref f)=true
 bd:Binds K fd ps []
theorem sz:sizeLine=16777216:=PySem.sizeLine_eq
theorem je9 {σ:St} {H:Hp} {A B:Hp→Prop} (h:A H):tYes σ H (fun b H4=>if b=true then A H4 else B H4):=iteT (B:=B H) h
theorem menu2 {r:Int} (h0:0 ≤ r) (h1:r < 2):∃ m:Int,atI [V.int 3,V.int 6] r=some (.int m)∧0 < m∧m ≤ 6:=by
 have:r=0 ∨ r=1:=by omega
 rcases this with rfl | rfl
 ·exact ⟨3,rfl,by decide,by decide⟩
 ·exact ⟨6,rfl,by decide,by decide⟩
theorem jd8 {ns:List Int} {r:Int} (h0:0 ≤ r) (h1:r < ns.length):atI (ns.map V.int) r=some (V.int (ns.getD r.toNat 0))∧ixN (ns.map V.int).length r=some r.toNat∧ns.getD r.toNat 0 ∈ ns:=by
 have hl:r.toNat < ns.length:=by omega
 have e:(ns.map V.int)[r.toNat]?=some (V.int (ns.getD r.toNat 0)):=by
  rw [List.getElem?_map,List.getElem?_eq_getElem hl]
  simp [List.getD,List.getElem?_eq_getElem hl]
 refine ⟨?_,?_,?_⟩
 ·have:=atI_nat e
  rw [Int.toNat_of_nonneg h0] at this
  exact this
 ·unfold ixN
  rw [if_pos h0,if_pos (by rw [List.length_map]; exact h1)]
 ·simp [List.getD,List.getElem?_eq_getElem hl]
def Tm (H H':Hp):Prop:=∀ a xs,H a=some (.tup xs)→H' a=some (.tup xs)
theorem Kp.tm {b:Addr} {H H':Hp} (x:Kp b H H') (hb:Bag H b):Tm H H':=fun a xs h=>x a _ (fun z=>by obtain ⟨c,d,e⟩:=hb; rw [z,e] at h; cases h) h
theorem Tm.lst {p:Addr} {H:Hp} {xs:List V} {o:HO} (h:H p=some (.lst xs)):Tm H (upd H p o):=fun a ys e=>by
 rw [jb5 (fun z=>by rw [z,h] at e; cases e)]; exact e
theorem Tm.new {p:Addr} {H:Hp} {o:HO} (h:H p=none):Tm H (upd H p o):=fun a ys e=>by rw [jb5 (jc2 e h)]; exact e
theorem Tm.trans {H H1 H2:Hp} (a:Tm H H1) (b:Tm H1 H2):Tm H H2:=fun x xs h=>b x xs (a x xs h)
theorem Bag.acc {b p:Addr} {H:Hp} {o:HO} (h:Bag H b) (hp:b ≠ p):Bag (upd H p o) b:=by
 obtain ⟨c,d,e⟩:=h
 exact ⟨c,d,by rw [jb5 hp]; exact e⟩
theorem comp_bag {te:TE} {σ₀:St} {acc b:Addr} {H1:Hp} {n:Nat} {Q:VK} (hb1:Bag H1 b) (hacc:H1 acc=none) (hn:n ≤ 100) (R:Hp→V→Prop) (hR:∀ H H' v,Tm H H'→R H v→R H' v)
  (ht:∀ (i:Nat) H',i < n→Bag H' b→Kp b H1 H'→∀ (Z:V→Hp→Prop),(∀ y H5,Bag H5 b→Kp b H' H5→R H5 y→Z y H5)→te (σ₀.set 0 (some (.int (0 + i)))) H' Z)
  (hd:∀ ys H',Bag H' b→Kp b H1 H'→ys.length=n→(∀ y ∈ ys,R H' y)→H' acc=some (.lst ys)→Q (.ref acc) H'):tCompN (gName 0) tYes te (Itr 0 n) acc σ₀ H1 Q:=by
 have nacc:=hb1.ne hacc
 refine je8 (fun i ys H'=>Bag H' b∧Kp b H1 H'∧ys.length=i∧∀ y ∈ ys,R H' y) ⟨hb1.new hacc,(Kp.refl b H1).new hacc,rfl,fun y hy=>nomatch hy⟩ ?_ ?_
 ·rintro i ys H' hi hy ⟨hb',kp',hl,hr⟩
  refine je9 ?_
  refine ht i H' hi hb' kp' _ fun y H5 hb5 kp5 r5=>?_
  have hy5:=kp5 acc _ nacc.symm hy
  refine ⟨ys,hy5,by rw [hl,sz]; omega,Cn.of ja1 ⟨hb5.acc nacc,(kp'.trans kp5).acc hacc,by rw [List.length_append,hl]; rfl,fun z hz=>?_⟩⟩
  have tm:=Tm.lst (o:=.lst (ys ++ [y])) hy5
  rcases List.mem_append.mp hz with q | q
  ·exact hR _ _ z tm (hR _ _ z (kp5.tm hb') (hr z q))
  ·obtain rfl:z=y:=by simpa using q
   exact hR _ _ z tm r5
 ·rintro ys H' hy ⟨hb',kp',hl,hr⟩
  exact hd ys H' hb' kp' hl hr hy
def Rws (H:Hp) (ws:List V) (M:List (List Int)):Prop:=Paired (fun v ns=>∃ a,v=V.ref a∧H a=some (.tup (List.map V.int ns))) ws M
theorem Rws.keep {H H':Hp} {ws:List V} {M:List (List Int)} (h:Rws H ws M) (t:Tm H H'):Rws H' ws M:=Paired.mapP h fun v ns ⟨a,e,q⟩=>⟨a,e,t a _ q⟩
theorem Rws.len {H:Hp} {ws:List V} {M:List (List Int)} (h:Rws H ws M):ws.length=M.length:=Paired.length h
theorem Rws.at:∀ {H:Hp} {ws:List V} {M:List (List Int)} {i:Nat} {x:V},Rws H ws M→ws[i]?=some x→∃ ns a,M[i]?=some ns∧x=V.ref a∧H a=some (.tup (List.map V.int ns))
 | _,_,_,_,_,.nil,e=>by simp at e
 | _,_,_,0,_,.cons ⟨a,h1,h2⟩ _,e=>by simp at e; subst e; exact ⟨_,a,rfl,h1,h2⟩
 | _,_,_,i + 1,_,.cons _ t,e=>by
  obtain ⟨ns,a,h1,h2,h3⟩:=Rws.at (i:=i) t (by simpa using e)
  exact ⟨ns,a,by simpa using h1,h2,h3⟩
def Stay (H H':Hp):Prop:=∀ a o,H a=some o→H' a=some o
theorem Stay.refl (H:Hp):Stay H H:=fun _ _ h=>h
theorem Stay.trans {H H1 H2:Hp} (a:Stay H H1) (b:Stay H1 H2):Stay H H2:=fun x o h=>b x o (a x o h)
theorem Stay.new {H H':Hp} {p:Addr} {o:HO} (a:Stay H H') (hp:H' p=none):Stay H (upd H' p o):=fun x u h=>by rw [jb5 (jc2 (a x u h) hp)]; exact a x u h
theorem Stay.acc {H H':Hp} {p:Addr} {o:HO} (a:Stay H H') (hp:H p=none):Stay H (upd H' p o):=fun x u h=>by rw [jb5 (jc2 h hp)]; exact a x u h
theorem Stay.tm {H H':Hp} (a:Stay H H'):Tm H H':=fun x xs h=>a x _ h
def has (M:List (List Int)) (j:Nat):Bool:=M.any fun r=>decide (0 < r.getD j 0)
def jd5 (g:Nat) (M:List (List Int)):List V:=((List.range g).filter (has M)).map fun (j:Nat)=>V.int (0 + (j:Int))
theorem filter_succ (f:Nat→Bool) (n:Nat):(List.range (n + 1)).filter f=(List.range n).filter f ++ if f n=true then [n] else []:=by
 rw [List.range_succ,List.filter_append]
 congr 1
 by_cases h:f n=true
 ·simp [h]
 ·simp [h]
theorem wishedL_len (g:Nat) (M:List (List Int)):(jd5 g M).length ≤ g:=by
 unfold jd5
 rw [List.length_map]
 exact Nat.le_trans (List.length_filter_le _ _) (by simp)
theorem jf5 (i:Nat) (M:List (List Int)):jd5 (i + 1) M=jd5 i M ++ if has M i=true then [V.int (0 + (i:Int))] else []:=by
 unfold jd5
 rw [filter_succ,List.map_append]
 split <;> simp
theorem ifs_cont {c:TT} {t1 u:TS} {D:Ends} {σ:St} {H:Hp} (G:St→Hp→Prop) (hc:∀ σ' H',G σ' H'→u D σ' H') (h:(∀ σ' H',G σ' H'→u D σ' H')→tIfS c t1 tNext { D with nx:=u D } σ H):tSeq (tIfS c t1 tNext) u D σ H:=h hc
theorem Stay.kp {b:Addr} {H0 H H':Hp} (s:Stay H0 H) (k:Kp b H H') (hb:H0 b=none):Stay H0 H':=fun a o h=>k a o (jc2 h hb) (s a o h)
theorem Stay.free {H0 H:Hp} {p:Addr} (s:Stay H0 H) (h:H p=none):H0 p=none:=by
 cases q:H0 p with
 | none=>rfl
 | some o=>rw [s p o q] at h; cases h
theorem depInts:∀ ns:List Int,PyData.depthAll (ns.map PyData.int)=0
 | []=>rfl
 | n :: ns=>by
  rw [List.map_cons,PyData.depthAll,depInts ns]
  rfl
def spLaw (K:PySem.W.Frag):Sp:=fun vs H Q _=>∃ (a:Addr) (ns:List Int),vs=[.ref a]∧SqL K H a (ns.map V.int)∧ns.length ≤ 63∧∀ H',Q (.bl true) H'
theorem SqL.stay {K:PySem.W.Frag} {H H':Hp} {a:Addr} {xs:List V} (h:SqL K H a xs) (s:Stay H H'):SqL K H' a xs:=by
 rcases h with (h | ⟨o,h⟩) | h
 ·exact .inl (.inl (s _ _ h))
 ·exact .inl (.inr ⟨o,s _ _ h⟩)
 ·exact .inr h
theorem jf4:bootBuiltins "list"=some (.type "list"):=by first | rfl | kernel_rfl | decide +kernel
theorem boot_all:bootBuiltins "all"=some (.builtin "all"):=by first | rfl | kernel_rfl | decide +kernel
mutual
inductive TrV (b:Addr) (H:Hp):V→PyData→Prop
 | non:TrV b H .non .none
 | bl (c:Bool):TrV b H (.bl c) (.bool c)
 | int (i:Int):TrV b H (.int i) (.int i)
 | str (x:Str) (ok:(PyData.str x).canLay0=true):TrV b H (.str x) (.str x)
 | lst {a:Addr} {xs:List V} {ds:List PyData}:a ≠ b→H a=some (.lst xs)→TrVs b H xs ds→TrV b H (.ref a) (.list ds)
 | tup {a:Addr} {xs:List V} {ds:List PyData}:H a=some (.tup xs)→TrVs b H xs ds→TrV b H (.ref a) (.tuple ds)
inductive TrVs (b:Addr) (H:Hp):List V→List PyData→Prop
 | nil:TrVs b H [] []
 | cons {x:V} {xs:List V} {d:PyData} {ds:List PyData}:TrV b H x d→TrVs b H xs ds→TrVs b H (x :: xs) (d :: ds)
end
mutual
theorem TrV.kp {b:Addr} {H H':Hp} (k:Kp b H H') (hb:Bag H b):∀ {v:V} {d:PyData},TrV b H v d→TrV b H' v d
 | _,_,.non=>.non
 | _,_,.bl c=>.bl c
 | _,_,.int i=>.int i
 | _,_,.str x ok=>.str x ok
 | _,_,.lst n h t=>.lst n (k _ _ n h) (TrVs.kp k hb t)
 | _,_,.tup h t=>.tup (k.tm hb _ _ h) (TrVs.kp k hb t)
theorem TrVs.kp {b:Addr} {H H':Hp} (k:Kp b H H') (hb:Bag H b):∀ {vs:List V} {ds:List PyData},TrVs b H vs ds→TrVs b H' vs ds
 | _,_,.nil=>.nil
 | _,_,.cons h t=>.cons (TrV.kp k hb h) (TrVs.kp k hb t)
end
mutual
theorem TrV.stay {b:Addr} {H H':Hp} (k:Stay H H'):∀ {v:V} {d:PyData},TrV b H v d→TrV b H' v d
 | _,_,.non=>.non
 | _,_,.bl c=>.bl c
 | _,_,.int i=>.int i
 | _,_,.str x ok=>.str x ok
 | _,_,.lst n h t=>.lst n (k _ _ h) (TrVs.stay k t)
 | _,_,.tup h t=>.tup (k _ _ h) (TrVs.stay k t)
theorem TrVs.stay {b:Addr} {H H':Hp} (k:Stay H H'):∀ {vs:List V} {ds:List PyData},TrVs b H vs ds→TrVs b H' vs ds
 | _,_,.nil=>.nil
 | _,_,.cons h t=>.cons (TrV.stay k h) (TrVs.stay k t)
end
mutual
theorem TrV.dt {K:PySem.W.Frag} {b:Addr} {H:Hp}:∀ {v:V} {d:PyData},TrV b H v d→DtV K H v d
 | _,_,.non=>.non
 | _,_,.bl c=>.bl c
 | _,_,.int i=>.int i
 | _,_,.str x ok=>.str x ok
 | _,_,.lst n h t=>.lst (SqL.of h) (TrVs.dt t)
 | _,_,.tup h t=>.tup (SqT.of h) (TrVs.dt t)
theorem TrVs.dt {K:PySem.W.Frag} {b:Addr} {H:Hp}:∀ {vs:List V} {ds:List PyData},TrVs b H vs ds→DtVs K H vs ds
 | _,_,.nil=>.nil
 | _,_,.cons h t=>.cons (TrV.dt h) (TrVs.dt t)
end
theorem TrVs.len {b:Addr} {H:Hp}:∀ {vs:List V} {ds:List PyData},TrVs b H vs ds→vs.length=ds.length
 | _,_,.nil=>rfl
 | _,_,.cons _ t=>congrArg (· + 1) (TrVs.len t)
theorem TrVs.at {b:Addr} {H:Hp}:∀ {vs:List V} {ds:List PyData} {i:Nat} {x:V},TrVs b H vs ds→vs[i]?=some x→∃ d,ds[i]?=some d∧TrV b H x d
 | _,_,_,_,.nil,e=>by simp at e
 | _,_,0,_,.cons h _,e=>by simp at e; subst e; exact ⟨_,rfl,h⟩
 | _,_,i + 1,_,.cons _ t,e=>by
  obtain ⟨d,h1,h2⟩:=TrVs.at (i:=i) t (by simpa using e)
  exact ⟨d,by simpa using h1,h2⟩
theorem TrVs.app {b:Addr} {H:Hp}:∀ {vs ws:List V} {ds es:List PyData},TrVs b H vs ds→TrVs b H ws es→TrVs b H (vs ++ ws) (ds ++ es)
 | _,_,_,_,.nil,s=>s
 | _,_,_,_,.cons h t,s=>.cons h (TrVs.app t s)
theorem TrVs.drop {b:Addr} {H:Hp}:∀ {vs:List V} {ds:List PyData} (n:Nat),TrVs b H vs ds→TrVs b H (vs.drop n) (ds.drop n)
 | _,_,0,r=>r
 | _,_,_ + 1,.nil=>.nil
 | _,_,n + 1,.cons _ t=>TrVs.drop n t
def isWhole:PyData→Bool
 | .int _=>true
 | _=>false
def within (lo hi:Int):PyData→Bool
 | .int i=>decide (lo ≤ i) && decide (i ≤ hi)
 | _=>false
def isFrac:PyData→Bool
 | .tuple [.int t,.int u]=>decide (1 ≤ u) && decide (Int.gcd t u=1)
 | _=>false
def je1:PyData→Bool
 | .tuple [.int t,.int u]=>decide (1 ≤ u) && decide (Int.gcd t u=1) && decide (1 ≤ t) && decide (t ≤ 1000000) && decide (u ≤ 1000000)
 | _=>false
def isRow (n:Nat) (lo hi:Int):PyData→Bool
 | .tuple ds=>decide (ds.length=n) && ds.all (within lo hi)
 | _=>false
def isMk:PyData→Bool
 | .tuple [.tuple a,.tuple p,.tuple w]=>decide (1 ≤ a.length) && decide (a.length ≤ 6) && a.all (within 1 60) && (decide (1 ≤ p.length) && decide (p.length ≤ 6) && p.all je1) && (decide (w.length=p.length) && w.all (isRow a.length 0 100))
 | _=>false
end KG
namespace HT
open PySem PySem.Spec PyProof.Rows
section
variable {prog:Program} {w:World} {A:Around} {E:Value→Shared→Prop} {s:Shared}
theorem getItem_tuple_all {t sl:Addr} {items:Array Value} {vl vu:Value} {lo hi:Option Int} {Q:Value→Shared→Prop} (ht:IsTup s.heap t items) (hs:s.heap.IsSliceOf sl vl vu .none) (pl:IsPart vl lo) (pu:IsPart vu hi)
  (hw:sIx items.size 0 lo=0∧sIx items.size items.size hi=items.size) (h:Q (.ref t) s):wpAny (model prog w) A (getItem (.ref t) (.ref sl)) Q E s:=by
 obtain ⟨os,hos,hcs,hds⟩:=id hs
 have hTs:s.TypeIs (.ref sl) "slice":=⟨os,hos,hcs⟩
 unfold getItem
 try with_reducible refine wpAny_holding ?_
 first | refine wpAny_bind (wpAny_pure ?_) | skip
 refine wpAny_bind (wpAny_sequenceKey ht.typeIs (by decide) ?_)
 refine wpAny_bind (wpAny_callSpecial?_slot (name:=Str.ofString "__getitem__") ht.typeIs PyProof.Rows.slot_tuple_getitem
  (wpAny_call_entry PyProof.Rows.slot_tuple_getitem ht.typeIs entry_tuple_getitem ?_ (args_tuple_getitem _ _)))
 show wpAny _ _ (Builtin.Tuple.tupleItemsOf (.ref t) >>= _) _ _ s
 refine wpAny_bind (tupleItemsOf_ ht ?_)
 refine wpAny_bind (wpAny_typeOf hTs ?_)
 rw [if_pos (by decide)]
 refine wpAny_bind (sliceApplied_gen hs pl pu ?_)
 have hyes:((((sIx items.size 0 lo:Nat):Int) == 0 && (1:Int) == 1 && (sIx items.size items.size hi - sIx items.size 0 lo) == items.size)=true):=by
  rw [hw.1,hw.2]; simp
 show wpAny _ _ (if (((sIx items.size 0 lo:Nat):Int) == 0 && (1:Int) == 1 && (sIx items.size items.size hi - sIx items.size 0 lo) == items.size)=true then _ else _) _ _ s
 rw [if_pos hyes]
 have htt:s.TypeIs (.ref t) "tuple":=ht.typeIs
 refine wpAny_bind (m:=Builtin.Tuple.tupleIsExact (.ref t)) (wpAny_bind (wpAny_typeOf htt (wpAny_pure ?_)))
 rw [if_pos (by decide)]
 first
  | exact wpAny_pure ⟨_,rfl,wpAny_pure h⟩
  | exact wpAny_bind (wpAny_pure (wpAny_pure ⟨_,rfl,wpAny_pure h⟩))
  | (wp_walk; exact ⟨_,rfl,wpAny_pure h⟩)
  | (wp_walk; exact ⟨_,rfl,h⟩)
end
end HT
namespace L2
open PySem PySem.Spec PyProof.Rows
section
variable {X:Cx}
def rSlA:V→Option Int→Option Int→Hp→VK→Prop:=fun x lo hi H Q=>∃ a xs,x=.ref a∧H a=some (.tup xs)∧∀ p H',KG.Stay H H'→H' p=some (.tup (cutV xs lo hi))→Q (.ref p) H'
theorem sl_tupA:SlR X rSlA:=by
 intro pins s σ H x v vl vu lo hi sl Q I rx hs pl pu h
 obtain ⟨a,xs,rfl,hx,q⟩:=h
 by_cases hw:HT.sIx xs.length 0 lo=0∧HT.sIx xs.length xs.length hi=xs.length
 ·cases rx
  obtain ⟨its,r,ht,hz⟩:=I.tuple (SqT.of hx)
  have hlen:its.toArray.size=xs.length:=by rw [List.size_toArray]; exact r.length.symm
  refine ⟨"tuple",_,PyProof.Rows.slot_tuple_getitem.lookup,ht.typeIs,?_⟩
  refine HT.getItem_tuple_all ht hs pl pu (by rw [hlen]; exact hw) ⟨.ref a,H,I,rfl,q a H (KG.Stay.refl H) ?_⟩
  have e:cutV xs lo hi=xs:=by unfold cutV; rw [hw.1,hw.2,List.drop_zero,Nat.sub_zero,List.take_length]
  rw [e]; exact hx
 ·exact sl_tup pins s σ H _ v vl vu lo hi sl Q I rx hs pl pu ⟨a,xs,rfl,SqT.of hx,hw,fun p hp=>q p _ ((KG.Stay.refl H).new hp) ja1⟩
def rCatA:R2:=fun x y H Q=>∃ a b xs ys,x=.ref a∧y=.ref b∧H a=some (.tup xs)∧H b=some (.tup ys)∧xs.length + ys.length ≤ sizeLine∧∀ p H',KG.Stay H H'→H' p=some (.tup (xs ++ ys))→Q (.ref p) H'
theorem op_catA:OpR X (binaryOp .Add) rCatA:=by
 intro pins s σ H x y v u Q I rx ry h
 obtain ⟨a,b,xs,ys,rfl,rfl,ha,hb,hz,q⟩:=h
 by_cases hx:xs=[]
 ·cases rx
  cases ry
  obtain ⟨its,r1,p1,_⟩:=I.tuple (SqT.of ha)
  obtain ⟨its2,r2,p2,_⟩:=I.tuple (SqT.of hb)
  obtain ⟨⟨cls,dd,data,sl⟩,ho,hc,n,hd⟩:=id p1
  obtain ⟨⟨cls2,dd2,data2,sl2⟩,ho2,hc2,n2,hd2⟩:=id p2
  simp only at hc hd hc2 hd2
  subst hc hd hc2 hd2
  have e0:its=[]:=r1.nil_iff.mpr hx
  exact concat_meets ⟨_,ho,rfl⟩ ⟨_,ho2,rfl⟩ noFill_tuple_add seq_tuple_add PySem.F.slot_tuple_add PySem.F.entry_tuple_add (PySem.F.args_tuple_add_2 _ _)
   (tuple_addW0 a b its.toArray its2.toArray n n2 dd dd2 sl sl2 (by simp [e0])) ⟨ho,ho2,⟨.ref b,H,I,rfl,q b H (KG.Stay.refl H) (by rw [hx]; exact hb)⟩⟩
 ·refine op_catT pins s σ H _ _ v u Q I rx ry ⟨a,b,xs,ys,rfl,rfl,SqT.of ha,SqT.of hb,hx,hz,fun e=>q a H (KG.Stay.refl H) (by rw [e,List.append_nil]; exact ha),fun _ p hp=>q p _ ((KG.Stay.refl H).new hp) ja1⟩
end
end L2
namespace L2
open PySem PySem.Spec PyProof.Rows KG
end L2
namespace EX
open PySem PySem.Spec PyProof.Rows
def excO (C t:Addr) (hd:Value):Obj:={ cls:=.ref C,data:=.fields #[.ref t,hd,.none,.none,.bool false,.none] }
def Hd (B:Heap) (e:Addr) (h:Heap) (v:Value):Prop:=v=.none ∨ ∃ T oT ts,v=.ref T∧B.get? T=none∧T ≠ e∧h.get? T=some oT∧oT.data=.fields ts∧3 < ts.size
structure Air (B:Heap) (l:List Env) (e C t:Addr) (h:Heap):Prop where
 st:B.StaysIn h
 ne:B.get? e=none
 ff:h.FunFrames B l
 ob:∃ hd,h.get? e=some (excO C t hd)∧Hd B e h hd
theorem Air.tail {B:Heap} {env:Env} {l:List Env} {e C t:Addr} {h:Heap} (a:Air B (env :: l) e C t h):Air B l e C t h:=⟨a.st,a.ne,a.ff.2.2,a.ob⟩
section
variable {M:Model} {A:Around} {E:Value→Shared→Prop} {s:Shared} {B:Heap} {env:Env} {outer:List Env} {L e C t:Addr} {Q:Unit→Shared→Prop}
theorem air_entry {head:Value} {hn:Bool} (a:Air B (env :: outer) e C t s.heap) (hfr:A.frames=some (env :: outer)) (hf:env.frame=some L)
  (k:∀ h',Air B (env :: outer) e C t h'→s.heap.UpToSlots h'→Q () { s with heap:=h' }) :
  wpAny M A (do let fr ← frameOf env; let pl ← entryPlaceOf L hn; let x ← EntryCells.newEntry head fr .none (rawInt L) .none pl; setField (.ref e) 1 x) Q E s:=by
 obtain ⟨hd,he,_⟩:=a.ob
 refine wpAny_bind (wpAny_frameOf_fun hfr a.ff hf fun g so=>?_)
 obtain ⟨_,so2,so3⟩:=so
 have nfr:e ∉ (env :: outer).filterMap (·.frame):=fun m=>by
  obtain ⟨_,o,ho,nf⟩:=a.ff.mem m
  rw [he] at ho
  cases ho
  exact nf _ rfl
 have ge:g.get? e=some (excO C t hd):=(so2 e nfr).trans he
 have gB:B.StaysIn g:=fun b o q=>(so2 b fun m=>by rw [(a.ff.mem m).1] at q; cases q).trans (a.st b o q)
 refine wpAny_bind (wpAny_entryPlaceOf fun pl ipl=>?_)
 unfold EntryCells.newEntry newFields
 refine wpAny_bind (wpAny_newObj_type ?_ (ipl.sizeOk5 _ _ _ _ _))
 generalize hN:({ cls:=.type "traceback",dict:=none,data:=.fields ([head,.ref L,.none,rawInt L,.none] ++ (if pl.isEmpty then List.replicate 6 Value.none else pl)).toArray }:Obj)=oN
 have g2:(g.push oN).get? e=some (excO C t hd):=Heap.get?_push_of_some _ ge
 have gT:(g.push oN).get? g.objs.size=some oN:=Heap.get?_push_size g (by rw [← hN]; rfl)
 have Te:g.objs.size ≠ e:=Nat.ne_of_gt (Heap.lt_size ge)
 have nBT:B.get? g.objs.size=none:=by
  cases q:B.get? g.objs.size with
  | none=>rfl
  | some o=>exact absurd (Heap.lt_size (gB _ o q)) (Nat.lt_irrefl _)
 refine wpAny_setField g2 rfl (by show 1 < 6; decide) (k _ ?_ ?_)
 ·refine ⟨fun b o q=>?_,a.ne,?_,.ref g.objs.size,?_,.inr ⟨g.objs.size,oN,_,rfl,nBT,Te,?_,by rw [← hN],?_⟩⟩
  ·rw [Heap.get?_update_other _ _ (fun z=>by rw [← z,a.ne] at q; cases q)]
   exact Heap.get?_push_of_some _ (gB b o q)
  ·refine a.ff.of_keeps fun b o q nf=>?_
   obtain ⟨sl,q2⟩:=so3 b o q
   refine ⟨{ o with slots:=sl },?_,rfl⟩
   rw [Heap.get?_update_other _ _ (fun z=>by rw [← z,he] at q; cases q; exact nf _ rfl)]
   exact Heap.get?_push_of_some _ q2
  ·exact Heap.get?_update_self _ g2 rfl
  ·rw [Heap.get?_update_other _ _ Te.symm]; exact gT
  ·simp only [List.size_toArray,List.length_append,List.length_cons]; omega
 ·intro b o q nf
  obtain ⟨sl,q2⟩:=so3 b o q
  refine ⟨sl,?_⟩
  rw [Heap.get?_update_other _ _ (fun z=>by rw [← z,he] at q; cases q; exact nf _ rfl)]
  exact Heap.get?_push_of_some _ q2
theorem air_head {T:Addr} {oT:Obj} {ts:Array Value} {v:Value} (a:Air B outer e C t s.heap) (nT:B.get? T=none) (Te:T ≠ e) (hT:s.heap.get? T=some oT) (dT:oT.data=.fields ts) (h3:3 < ts.size)
  (k:∀ h',Air B outer e C t h'→s.heap.UpToSlots h'→Q () { s with heap:=h' }):wpAny M A (setField (.ref T) 3 v) Q E s:=by
 obtain ⟨hd,he,hh⟩:=a.ob
 refine wpAny_setField hT dT h3 ?_
 have oth:∀ b,b ≠ T→(s.heap.update T (Obj.mapFields (·.setIfInBounds 3 v))).get? b=s.heap.get? b:=fun b n=>Heap.get?_update_other _ _ (Ne.symm n)
 have isf:∀ b o,s.heap.get? b=some o→(∀ vs,o.data ≠ .fields vs)→b ≠ T:=fun b o q nf z=>by
  rw [z,hT] at q; cases q; exact nf _ dT
 refine k _ ⟨fun b o q=>?_,a.ne,a.ff.of_keeps fun b o q nf=>⟨o,(oth b (isf b o q nf)).trans q,rfl⟩,hd,(oth e Te.symm).trans he,?_⟩ fun b o q nf=>⟨o.slots,(oth b (isf b o q nf)).trans q⟩
 ·exact (oth b fun z=>by rw [z,nT] at q; cases q).trans (a.st b o q)
 ·rcases hh with z | ⟨T2,o2,t2,z,n2,e2,h2,d2,s2⟩
  ·exact .inl z
  ·by_cases w:T2=T
   ·subst w
    rw [hT] at h2; cases h2
    have:=Obj.data_mapFields dT (·.setIfInBounds 3 v)
    exact .inr ⟨T2,_,_,z,n2,e2,Heap.get?_update_self _ hT (Obj.isFreed_of_fields this),this,by simpa using h3⟩
   ·exact .inr ⟨T2,o2,t2,z,n2,e2,(oth T2 w).trans h2,d2,s2⟩
theorem air_note (a:Air B (env :: outer) e C t s.heap) (hfr:A.frames=some (env :: outer)) (hf:env.frame=some L)
  (k:∀ h',Air B (env :: outer) e C t h'→s.heap.UpToSlots h'→Q () { s with heap:=h' }):wpAny M A (noteFrame (.ref e) env) Q E s:=by
 obtain ⟨hd,he,hh⟩:=a.ob
 unfold noteFrame
 simp only [hf]
 refine wpAny_bind (wpAny_field he rfl (x:=hd) rfl ?_)
 rcases hh with rfl | ⟨T,oT,ts,rfl,nT,Te,hT,dT,h3⟩
 ·rw [if_neg (by decide)]
  exact air_entry a hfr hf k
 ·rw [if_pos (show (Value.ref T != Value.none)=true from by simp)]
  refine wpAny_bind (wpAny_field hT dT (x:=ts[3]) (by rw [Array.getElem?_eq_getElem h3]) ?_)
  by_cases hv:(ts[3] == rawInt L)=true
  ·rw [if_pos hv]
   exact wpAny_pure (k s.heap a (Heap.UpToSlots.refl _))
  ·rw [if_neg hv]
   refine wpAny_bind (air_head a nT Te hT dT h3 fun h1 a1 u1=>?_)
   exact air_entry (s:={ s with heap:=h1 }) a1 hfr hf fun h2 a2 u2=>k h2 a2 (u1.trans u2)
theorem air_land (a:Air B outer e C t s.heap) (k:∀ h',Air B outer e C t h'→s.heap.UpToSlots h'→Q () { s with heap:=h' }):wpAny M A (setFlight (.ref e) none) Q E s:=by
 obtain ⟨hd,he,hh⟩:=a.ob
 unfold setFlight
 refine wpAny_bind (wpAny_field he rfl (x:=hd) rfl ?_)
 rcases hh with rfl | ⟨T,oT,ts,rfl,nT,Te,hT,dT,h3⟩
 ·rw [if_neg (by decide)]
  exact wpAny_pure (k s.heap a (Heap.UpToSlots.refl _))
 ·rw [if_pos (show (Value.ref T != Value.none)=true from by simp)]
  exact air_head a nT Te hT dT h3 k
theorem air_leave (a:Air B (env :: outer) e C t s.heap) (hfr:A.frames=some (env :: outer)) (hf:env.frame=some L)
  (k:∀ h',Air B outer e C t h'→s.heap.UpToSlots h'→Q () { s with heap:=h' }):wpAny M A (leaving env (.ref e)) Q E s:=by
 unfold leaving
 refine wpAny_bind (air_note a hfr hf fun h1 a1 u1=>?_)
 exact air_land (s:={ s with heap:=h1 }) a1.tail fun h2 a2 u2=>k h2 a2 (u1.trans u2)
end
end EX
namespace L2
open PySem PySem.Spec PyProof.Rows EX
theorem obj_is {P:Program} {w:World} {H:Hp} {h:Heap} {a:Addr} {o:HO} (x:ObjOk P w H h a o):∃ u,h.get? a=some u:=by
 cases o with
 | lst xs=>obtain ⟨_,_,_,_,q⟩:=x; exact ⟨_,q⟩
 | tup xs=>obtain ⟨_,_,_,⟨_,q,_⟩⟩:=x; exact ⟨_,q⟩
 | dK kvs=>obtain ⟨_,_,_,_,_,_,_,q,_⟩:=x; exact ⟨_,q⟩
 | dT kvs=>obtain ⟨_,_,_,_,_,_,_,q,_⟩:=x; exact ⟨_,q⟩
 | set S n=>obtain ⟨_,_,_,_,q,_⟩:=x; exact ⟨_,q⟩
 | ins C dx fs=>obtain ⟨_,_,_,q,_⟩:=x; exact ⟨_,q⟩
 | own y=>exact x
 | xd fs=>obtain ⟨_,⟨_,_,_,q,_⟩,_⟩:=x; exact ⟨_,q⟩
 | rng lo hi=>obtain ⟨_,_,_,q⟩:=x; exact ⟨_,q⟩
 | frz ob u=>exact ⟨_,x.1⟩
 | tbl ps=>exact ⟨_,x⟩
 | met f y=>exact ⟨_,x⟩
 | ext φ=>exact x.2.1
theorem ff_base {h base B:Heap}:∀ {l:List Env},(∀ b ∈ frs l,B.get? b=none)→h.FunFrames base l→h.FunFrames B l
 | [],_,_=>trivial
 | env :: r,hB,⟨hk,⟨L,o,hf,hn,ho,hd⟩,hr⟩ =>
  ⟨hk,⟨L,o,hf,hB L (by unfold frs; rw [List.filterMap_cons,hf]; exact List.mem_cons_self),ho,hd⟩,
   ff_base (fun b hb=>hB b (by unfold frs; rw [List.filterMap_cons,hf]; exact List.mem_cons_of_mem _ hb)) hr⟩
def CXF (P:Program) (w:World):CXT:=fun outer H s E e s'=>∃ (a C t:Addr) (B:Heap) (H':Hp),e=.ref a∧s'.os=s.os∧AllBare s'.gens∧Un (frs outer) [] H H' s.heap s'.heap∧HOk P w H' B ∧
 (∀ b o,s.heap.get? b=some o→b ∉ frs outer→(∃ o',B.get? b=some o')∧(H b=none→B.get? b=some o))∧Air B outer a C t s'.heap∧s.heap.get? a=none∧H' a=none∧E (.ref C) none H'
section
variable {P:Program} {w:World} {K:PySem.W.Frag} {mg:Str→Option Value} {base:Heap} {N:List Str} {qual:Str} {scope:Scope} {f:Addr} {cd:Value} {A:Around} {outer:List Env} {s₀:Shared} {H₀:Hp} {E:XK}
theorem fly_out {pins:List (Addr × Obj)} {σ:St} {H H':Hp} {s s':Shared} {a C t:Addr} {B h':Heap} (I:Inv (cxOf (CXF P w) P w K mg base N qual scope f cd A outer s₀ H₀ E) pins σ H s)
  (os:s'.os=s.os) (bare:AllBare s'.gens) (un:Un (envOfC qual scope s₀.heap.objs.size f cd :: outer |> frs) [] H H' s.heap s'.heap) (hok:HOk P w H' B)
  (third:∀ b o,s.heap.get? b=some o→b ∉ frs (envOfC qual scope s₀.heap.objs.size f cd :: outer)→(∃ o',B.get? b=some o')∧(H b=none→B.get? b=some o))
  (ff:s'.heap.FunFrames B (envOfC qual scope s₀.heap.objs.size f cd :: outer)) (air:Air B outer a C t h') (up:s'.heap.UpToSlots h') (na:s.heap.get? a=none) (na':H' a=none) (he:E (.ref C) none H'):CXF P w outer H₀ s₀ E (.ref a) { s' with heap:=h' }:=by
 have stk:∀ b o,s₀.heap.get? b=some o→b ∉ frs outer→b ∉ frs (envOfC qual scope s₀.heap.objs.size f cd :: outer):=fun b o q n m=>by
  rcases List.mem_cons.mp (I.stkSub b m) with z | z
  ·have:b < s₀.heap.objs.size:=Heap.lt_size q
   have h2:s₀.heap.objs.size ≤ b:=by rw [z]; exact I.ok.above
   exact absurd (Nat.lt_of_lt_of_le this h2) (Nat.lt_irrefl _)
  ·exact n z
 have infr:∀ b,b ∈ frs outer→b ∈ frs (envOfC qual scope s₀.heap.objs.size f cd :: outer):=fun b m=>by
  unfold frs; rw [List.filterMap_cons]; exact List.mem_cons_of_mem _ m
 have ub:Un (frs outer) [] H₀ H s₀.heap s.heap:=I.base
 refine ⟨a,C,t,B,H',rfl,os.trans I.os,bare,⟨fun b o q n nf _=>?_,fun b o q n m _=>?_,fun b o q n _=>?_,fun b o q _=>?_,fun b xs q=>un.tups b xs (ub.tups b xs q),fun b o u q=>un.frzs b o u (ub.frzs b o u q),fun b ps q=>?_⟩,hok,fun b o q nf=>?_,air,?_,na',he⟩
 ·exact air.st b o ((third b o (ub.keep b o q n nf (by simp)) (stk b o q nf)).2 (ub.free b o q n (by simp)))
 ·obtain ⟨sl,q1⟩:=ub.slot b o q n m (by simp)
  obtain ⟨sl2,q2⟩:=un.slot b _ q1 (ub.free b o q n (by simp)) (infr b m) (by simp)
  obtain ⟨_,o3,q3,nf⟩:=ff.mem (infr b m)
  rw [q2] at q3
  cases q3
  obtain ⟨sl3,q4⟩:=up b _ q2 nf
  exact ⟨sl3,q4⟩
 ·obtain ⟨o',q1⟩:=ub.there b o q (by simp)
  exact un.free b o' q1 (ub.free b o q n (by simp)) (by simp)
 ·obtain ⟨o',q1⟩:=ub.there b o q (by simp)
  by_cases m:b ∈ frs outer
  ·obtain ⟨_,o3,q3,nf⟩:=ff.mem (infr b m)
   obtain ⟨sl3,q4⟩:=up b _ q3 nf
   exact ⟨_,q4⟩
  ·obtain ⟨o2,q2⟩:=(third b o' q1 (stk b o q m)).1
   exact ⟨o2,air.st b o2 q2⟩
 ·obtain ⟨m1,e1⟩:=ub.tbls b ps q
  obtain ⟨m2,e2⟩:=un.tbls b _ e1
  exact ⟨m1 ++ m2,by rw [e2,Array.append_assoc]⟩
 ·obtain ⟨o',q1⟩:=ub.there b o q (by simp)
  refine ⟨(third b o' q1 (stk b o q nf)).1,fun n=>?_⟩
  have q2:=ub.keep b o q n nf (by simp)
  exact (third b o q2 (stk b o q nf)).2 (ub.free b o q n (by simp))
 ·cases q:s₀.heap.get? a with
  | none=>rfl
  | some o =>
   obtain ⟨o',q1⟩:=ub.there a o q (by simp)
   rw [na] at q1; cases q1
theorem passF:Passes (CXF P w) (cxOf (CXF P w) P w K mg base N qual scope f cd A outer s₀ H₀ E) E:=by
 intro pins σ H s e s' I h
 obtain ⟨a,C,t,B,H',rfl,os,bare,un,hok,third,air,na,na',he⟩:=h
 refine air_leave (L:=s₀.heap.objs.size) air I.ok.frames rfl fun h' air' up=>?_
 exact fly_out I os bare un hok third air.ff air' up na na' he
theorem raiseF {pins:List (Addr × Obj)} {σ:St} {H:Hp} {s:Shared} {h1:Heap} {a C:Addr} {args:List Value} (I:Inv (cxOf (CXF P w) P w K mg base N qual scope f cd A outer s₀ H₀ E) pins σ H s) (mk:Heap.MadeExcOf s.heap h1 a (.ref C) args) (he:E (.ref C) none H) :
  (cxOf (CXF P w) P w K mg base N qual scope f cd A outer s₀ H₀ E).xe (.ref a) { s with heap:=h1 }:=by
 obtain ⟨t,ht,htn,_⟩:=mk.there
 have nofr:∀ b u,H b=some u→b ∉ frs (envOfC qual scope s₀.heap.objs.size f cd :: outer):=fun b u q m=>by
  have:=I.stkFree b m
  rw [q] at this; cases this
 have hB:∀ b ∈ frs (envOfC qual scope s₀.heap.objs.size f cd :: outer),(PySem.W.hideAll s.heap (frs (envOfC qual scope s₀.heap.objs.size f cd :: outer))).get? b=none:=fun b m=>PySem.W.hideAll_none _ m
 have hokB:HOk P w H (PySem.W.hideAll s.heap (frs (envOfC qual scope s₀.heap.objs.size f cd :: outer))):=fun b u q =>
  (I.hok b u q).stay (fun c v hc qc=>PySem.W.hideAll_get _ qc (by
   rcases hc with z | z
   ·rw [z]; exact nofr b u q
   ·exact nofr c _ z)) (fun _ z=>z) fun _ _ z=>z
 have na':H a=none:=by
  cases q:H a with
  | none=>rfl
  | some u =>
   obtain ⟨o,ho⟩:=obj_is (I.hok a u q)
   rw [mk.new] at ho; cases ho
 have air0:Air (PySem.W.hideAll s.heap (frs (envOfC qual scope s₀.heap.objs.size f cd :: outer))) (envOfC qual scope s₀.heap.objs.size f cd :: outer) a C t h1:=by
  refine ⟨fun b o q=>mk.keeps b o (PySem.W.of_hideAll _ q),?_,(ff_base hB I.stack).of_keeps fun b o q _=>⟨o,mk.keeps b o q,rfl⟩,.none,ht,.inl rfl⟩
  cases q:(PySem.W.hideAll s.heap (frs (envOfC qual scope s₀.heap.objs.size f cd :: outer))).get? a with
  | none=>rfl
  | some o=>have:=PySem.W.of_hideAll _ q; rw [mk.new] at this; cases this
 refine air_leave (s:={ s with heap:=h1 }) (L:=s₀.heap.objs.size) air0 I.ok.frames rfl fun h' air' up=>?_
 exact fly_out (s':={ s with heap:=h1 }) I rfl I.bare (Un.kept mk.keeps) hokB (fun b o q n=>⟨⟨o,PySem.W.hideAll_get _ q n⟩,fun _=>PySem.W.hideAll_get _ q n⟩) air0.ff air' up mk.new na' he
theorem Fun.okX {x qual:Str} {st:Stmt} {f:Addr} {fd:FuncData} {N ps:List Str} {k:Nat} {sp:Sp} (F:Fun K x qual st f fd) (S:FnScope N ps (ja5 st)) (len:∀ vs H Q E,sp vs H Q E→vs.length=ps.length)
  (hbody:∀ (cdv:Value) (A:Around) (outer:List Env) (s:Shared) (H:Hp) (vs:List V) (Q:VK) (E:XK),Room k (A.deeper (envOfC qual (ja5 st) s.heap.objs.size f cdv))→sp vs H Q E →
   ∃ t,PSs (cxOf (CXF P w) P w K mg base N qual (ja5 st) f cdv A outer s H E) (je2 st) t∧t { nx:=fun _ H'=>Q .non H',rt:=Q } (start N vs) H):FnOk P w K mg base (CXF P w) (k + 1) f fd ps sp:=by
 obtain ⟨oc,od,kV,doc,pm,an,cdv,ct,osl,rfl,lk,hcd⟩:=F.ex
 exact fn_of lk hcd S len fun A outer s H vs Q E hr hsp=>hbody cdv A outer s H vs Q E hr hsp
end
def tRaise (E:XK) (C:Addr) (t:TA):TS:=fun _ σ H=>t σ H fun vs H1=>vs.length ≤ sizeLine∧E (.ref C) none H1
theorem ps_raise {P:Program} {w:World} {K:PySem.W.Frag} {mg:Str→Option Value} {base:Heap} {N:List Str} {qual:Str} {scope:Scope} {f:Addr} {cd:Value} {A:Around} {outer:List Env} {s₀:Shared} {H₀:Hp} {E:XK}
  {x:Str} {C:Addr} {e:Expr} {es:List Expr} {t:TA} {np cpos pos:Pos} {bmB:List Value} {B newId initId:String} (FB:ExcBaseFacts B newId initId bmB) (hg:Gl (cxOf (CXF P w) P w K mg base N qual scope f cd A outer s₀ H₀ E) x) (hm:mg x=some (.ref C)) (hx:PySem.W.excIn K C bmB newId=true)
  (ha:PA (cxOf (CXF P w) P w K mg base N qual scope f cd A outer s₀ H₀ E) (e :: es) t) (hd:(x == ("__debug__" : Str))=false:=by decide)
  (he:starEach (e :: es) (envOfC qual scope s₀.heap.objs.size f cd)=(false,eval e (envOfC qual scope s₀.heap.objs.size f cd)) :: starEach es (envOfC qual scope s₀.heap.objs.size f cd):=by rfl)
  (hpl:(backTo cpos (starEach es (envOfC qual scope s₀.heap.objs.size f cd))).any (·.1)=false:=by rfl) :
  PS (cxOf (CXF P w) P w K mg base N qual scope f cd A outer s₀ H₀ E) (.Raise (some (.Call (.Name x np) (e :: es) [] cpos)) none pos) (tRaise E C t):=by
 intro pins s σ H D I h
 unfold PySem.W.excIn at hx
 split at hx
 ·rename_i dd cdd sl ho
  split at hx
  ·rename_i C' bm k0 k1 k2 k3 n k5 hmro hs
   simp only [Bool.and_eq_true,beq_iff_eq,Bool.not_eq_true'] at hx
   obtain ⟨⟨⟨⟨⟨rfl,rfl⟩,hdel⟩,ht⟩,hok⟩,hni⟩:=hx
   obtain ⟨nm,bs,mro,ns,qn,hdd,sn,sub,ab,col,del⟩:=cdd
   dsimp only at hmro hdel hok hni
   subst hmro hdel
   have hsl:sl=#[k0,k1,k2,k3,some (.builtin n),k5]:=by
    obtain ⟨l⟩:=sl
    simp only at hs
    rw [hs]
   subst hsl
   have kb:K.In base:=I.ok.mod.kin
   have nsB:=Heap.Ns.of_isNs (PySem.W.isNs_of_in kb hok)
   refine wpAny_Raise_call_subT FB (C:=C') (nm:=nm) (q:=qn) (N:=ns) (bs:=bs) (bm:=bm) (hdct:=hdd) (sn:=sn) (sub:=sub) (ab:=ab) (col:=col) (dd:=dd) (k0:=k0) (k1:=k1) (k2:=k2) (k3:=k3) (k5:=k5) (mN:=base.nsMap ns)
    ((PySem.W.tail_of_in kb ht).hasType FB.hasBase) (I.ok.hd rfl) ?_ (PySem.W.nsMap_none_of_in kb hok hni) ?_
   ·show (backTo cpos (starEach (e :: es) (envOfC qual scope s₀.heap.objs.size f cd))).any (·.1)=false
    rw [he]
    show (false || (backTo cpos (starEach es (envOfC qual scope s₀.heap.objs.size f cd))).any (·.1))=false
    rw [hpl]; rfl
   ·refine ld_glob I hg hm ⟨rfl,?_⟩ hd
    show wpAny _ _ (evalArgs (.ref C') true (backTo cpos (starEach (e :: es) (envOfC qual scope s₀.heap.objs.size f cd))) []) _ _ s
    have ha':=ha cpos pins s σ H _ I h
    have ha2:wpAny (model P w) (A.deeper (envOfC qual scope s₀.heap.objs.size f cd)) (spliced (backTo cpos (starEach (e :: es) (envOfC qual scope s₀.heap.objs.size f cd)))) _ _ s:=ha'
    rw [he] at ha2 ⊢
    refine Calls.evalArgs_plain (thn ha2 fun us s2 ⟨vs,H2,I2,r,z,q⟩=>?_)
    exact ⟨rfl,by rw [← r.length]; exact z,I2.bk _ _ (kb _ _ ho),nsB.keeps I2.bk,(PySem.W.tail_of_in kb ht).keeps I2.bk,fun h' a mk=>raiseF I2 mk q⟩
  ·cases hx
 ·cases hx
end L2
namespace EX
open PySem PySem.Spec PyProof.Rows
section
variable {prog:Program} {w:World} {A:Around} {E:Value→Shared→Prop} {s:Shared}
end
end EX
namespace L2
open PySem PySem.Spec PyProof.Rows EX
section
variable {X:Cx} {tg:Expr}
end
section
variable {X:Cx} {scope:Scope} {own cap:List Str} {ix:List Nat} {tg iter elt:Expr} {ifs:List Expr} {wi:TI} {g:TG} {tt:TT} {te:TE} {pos:Pos}
end
end L2
namespace EX
open PySem PySem.Spec PyProof.Rows PySem.W
section
variable {prog:Program} {w:World} {A:Around} {E:Value→Shared→Prop} {s:Shared} {K:Frag} {x D t:Addr} {hd:Value}
end
end EX
namespace L2
open PySem PySem.Spec PyProof.Rows EX
section
variable {X:Cx} {e:Expr} {te:TE} {ea D t:Addr} {hd:Value}
end
end L2
namespace EX
open PySem PySem.Spec PyProof.Rows PySem.W
section
variable {prog:Program} {w:World} {A:Around} {E:Value→Shared→Prop} {s:Shared} {K:Frag} {e D C t:Addr} {hd:Value}
end
end EX
namespace L2
open PySem PySem.Spec PyProof.Rows EX
end L2
namespace L2
open PySem PySem.Spec PyProof.Rows EX
section
variable {P:Program} {w:World} {K:PySem.W.Frag} {mg:Str→Option Value} {base:Heap}
end
end L2
namespace L2
open PySem PySem.Spec PyProof.Rows EX
section
variable {X:Cx} {pins:List (Addr × Obj)} {σ:St} {H:Hp} {s:Shared}
end
end L2
namespace L2
open PySem PySem.Spec PyProof.Rows EX
end L2
namespace KG
open PySem
def Bd (k:Nat) (n:Int):Prop:=n.natAbs < 2 ^ k
theorem Bd.mono {j k:Nat} {n:Int} (h:Bd j n) (hj:j ≤ k):Bd k n:=Nat.lt_of_lt_of_le h (Nat.pow_le_pow_right (by decide) hj)
theorem Bd.mul {j k:Nat} {a b:Int} (h:Bd j a) (h':Bd k b):Bd (j + k) (a * b):=by
 unfold Bd at *
 rw [Int.natAbs_mul,Nat.pow_add]
 exact Nat.mul_lt_mul'' h h'
theorem Bd.le {k:Nat} {a b:Int} (h:Bd k b) (hl:a.natAbs ≤ b.natAbs):Bd k a:=Nat.lt_of_le_of_lt hl h
theorem Bd.log {k:Nat} {n:Int} (h:Bd k n) (hk:k ≤ 8999):n.natAbs.log2 < 9000:=by
 by_cases h0:n.natAbs=0
 ·rw [h0]; decide +kernel
 ·exact (Nat.log2_lt h0).mpr (Nat.lt_of_lt_of_le h (Nat.pow_le_pow_right (by decide) (by omega)))
def sg (t u:Int):Int:=if u < 0 then -(Int.gcd t u:Int) else (Int.gcd t u:Int)
def nx (t u:Int):Int:=t.fdiv (sg t u)
def ny (t u:Int):Int:=u.fdiv (sg t u)
theorem nf_spec {t u:Int} (h:u ≠ 0):nx t u * u=t * ny t u∧0 < ny t u∧Int.gcd (nx t u) (ny t u)=1∧sg t u ≠ 0∧(nx t u).natAbs ≤ t.natAbs∧(ny t u).natAbs ≤ u.natAbs:=by
 have g0:0 < Int.gcd t u:=Int.gcd_pos_of_ne_zero_right t h
 obtain ⟨a,ha⟩:(Int.gcd t u:Int) ∣ t:=Int.gcd_dvd_left ..
 obtain ⟨b,hb⟩:(Int.gcd t u:Int) ∣ u:=Int.gcd_dvd_right ..
 generalize hg:Int.gcd t u=g at *
 have hc:Int.gcd a b=1:=by
  have e:Int.gcd t u=Int.gcd ((g:Int) * a) ((g:Int) * b):=by rw [← ha,← hb]
  rw [hg,Int.gcd_mul_left] at e
  simp at e
  have e2:g * 1=g * Int.gcd a b:=by rw [Nat.mul_one]; exact e
  exact (Nat.eq_of_mul_eq_mul_left g0 e2).symm
 have gp:(0:Int) < g:=by omega
 have la:a.natAbs ≤ t.natAbs:=by
  rw [ha,Int.natAbs_mul]; simp
  exact Nat.le_mul_of_pos_left _ g0
 have lb:b.natAbs ≤ u.natAbs:=by
  rw [hb,Int.natAbs_mul]; simp
  exact Nat.le_mul_of_pos_left _ g0
 unfold nx ny sg
 rw [hg]
 by_cases hu:u < 0
 ·rw [if_pos hu]
  have dn:(-(g:Int)) ≠ 0:=by omega
  have e1:t.fdiv (-(g:Int))=-a:=by
   have:t=(-(g:Int)) * (-a):=by rw [Int.neg_mul_neg]; exact ha
   rw [this,Int.mul_fdiv_cancel_left _ dn]
  have e2:u.fdiv (-(g:Int))=-b:=by
   have:u=(-(g:Int)) * (-b):=by rw [Int.neg_mul_neg]; exact hb
   rw [this,Int.mul_fdiv_cancel_left _ dn]
  rw [e1,e2]
  refine ⟨?_,?_,by rw [Int.neg_gcd,Int.gcd_neg]; exact hc,dn,by rw [Int.natAbs_neg]; exact la,by rw [Int.natAbs_neg]; exact lb⟩
  ·have q:a * u=t * b:=by rw [hb,ha]; rw [Int.mul_left_comm,Int.mul_assoc]
   rw [Int.neg_mul,q,Int.mul_neg]
  ·rcases Int.lt_or_le b 0 with z | z
   ·omega
   ·have:0 ≤ (g:Int) * b:=Int.mul_nonneg (by omega) z
    omega
 ·rw [if_neg hu]
  have dn:(g:Int) ≠ 0:=by omega
  have e1:t.fdiv (g:Int)=a:=by rw [ha,Int.mul_fdiv_cancel_left _ dn]
  have e2:u.fdiv (g:Int)=b:=by rw [hb,Int.mul_fdiv_cancel_left _ dn]
  rw [e1,e2]
  refine ⟨?_,?_,hc,dn,la,lb⟩
  ·rw [hb,ha,Int.mul_left_comm,Int.mul_assoc]
  ·rcases Int.lt_or_le 0 b with z | z
   ·exact z
   ·have:(g:Int) * b ≤ 0:=Int.mul_nonpos_of_nonneg_of_nonpos (by omega) z
    omega
theorem nf_pos {t u:Int} (h:0 < u):nx t u=t / (Int.gcd t u:Int)∧ny t u=u / (Int.gcd t u:Int):=by
 unfold nx ny sg
 rw [if_neg (by omega)]
 exact ⟨Int.fdiv_eq_ediv_of_nonneg _ (by omega),Int.fdiv_eq_ediv_of_nonneg _ (by omega)⟩
theorem fmod_lt {a c:Int} (h:c ≠ 0):(a.fmod c).natAbs < c.natAbs:=by
 rcases Int.lt_or_gt_of_ne h with z | z
 ·have e:(-a).fmod (-c)=-(a.fmod c):=Int.neg_fmod_neg a c
  have h1:=Int.fmod_nonneg_of_pos (-a) (show 0 < -c by omega)
  have h2:=Int.fmod_lt_of_pos (-a) (show 0 < -c by omega)
  omega
 ·have h1:=Int.fmod_nonneg_of_pos a z
  have h2:=Int.fmod_lt_of_pos a z
  omega
theorem gcd_fmod {a c:Int}:Int.gcd c (a.fmod c)=Int.gcd a c:=by
 rw [Int.gcd_comm a c,Int.fmod_def,Int.gcd_sub_mul_left_right]
end KG
namespace L2
open PySem PySem.Spec PyProof.Rows KG
section
variable {X:Cx}
theorem op_fdivB:OpR X (binaryOp .FloorDiv) (rI (fun _ j=>0 < j∧Bd 8000 j) fun i j=>.int (i / j)):=opI fun i j _ _ _ _ _ hc q=>by
 have h1:(0:Int) < j:=hc.1
 exact floordiv_int (by omega) (by rw [Int.fdiv_eq_ediv_of_nonneg i (by omega)]; exact q) (.inl (PyProof.noPylong_of_log2 (hc.2.log (by decide))))
theorem op_fdivBN:OpR X (binaryOp .FloorDiv) (rI (fun _ j=>j ≠ 0∧Bd 8000 j) fun i j=>.int (i.fdiv j)):=opI fun _ _ _ _ _ _ _ hc q=>floordiv_int hc.1 q (.inl (PyProof.noPylong_of_log2 (hc.2.log (by decide))))
theorem jd0:OpR X (binaryOp .Mult) (rI (fun i j=>Bd 8000 i∧Bd 8000 j) fun i j=>.int (i * j)):=opI fun i j _ _ _ _ _ hc q=>mul_int q (IntMulOk.of_bits (Nat.le_trans (intBits_le hc.1) (by decide)) (Nat.le_trans (intBits_le hc.2) (by decide)))
end
end L2
namespace KG
open PySem L2
theorem eqv_nil {es:List PyData}:PyData.eqv (.list es) (.list [])=es.isEmpty:=by
 cases es <;> simp [PyData.eqv,PyData.eqvAll]
theorem atI_any {xs:List V} {r:Int} {Pr:V→Prop} (h0:0 ≤ r) (h1:r < xs.length) (h:∀ v ∈ xs,Pr v):∃ v,atI xs r=some v∧Pr v:=by
 have hl:r.toNat < xs.length:=by omega
 have e:=List.getElem?_eq_getElem hl
 have:=atI_nat e
 rw [Int.toNat_of_nonneg h0] at this
 exact ⟨_,this,h _ (List.getElem_mem hl)⟩
end KG
namespace L2
open PySem PySem.Spec PyProof.Rows
def gLst (K:PySem.W.Frag) (n:Nat) (t:TGs):TG:=fun v σ H Q=>∃ a xs,v=.ref a∧SqL K H a xs∧xs.length=n∧t xs σ H Q
theorem pg_lst {X:Cx} {es:List Expr} {k:Nat} {t:TGs} {n:Nat} {pos:Pos} (hc:X.calm=true) (h:PGs X es t)
  (hn:(assignEach es X.env).length=n:=by rfl) (hst:(assignEach es X.env).findIdx? (·.1)=none:=by rfl):PG X (.Tuple es k pos) (gLst X.K n t):=by
 intro pins s σ H v u Q I r hw
 obtain ⟨a,xs,e1,hq,hl,hw⟩:=hw
 subst e1
 cases r
 obtain ⟨its,rv,ht,hz⟩:=I.list hq
 rw [assign_Tuple]
 refine wpAny_bind (wpAny_standAt ?_)
 unfold unpack
 rw [hn,hst]
 have hsz:n=its.toArray.size:=by rw [List.size_toArray,← rv.length,hl]
 rw [hsz]
 refine wpAny_bind (wpAny_holding (PySem.W.kun_itemsOf (I.ok.hd hc) ht.isList fun h' hx=>?_))
 have I1:Inv X pins σ H { s with heap:=h' }:=I.kept (t':=s.toks) fun b o e=>hx b o (Nat.ne_of_lt (Heap.lt_size e)) e
 exact h pins _ σ H xs _ Q I1 (by simpa using rv) hw
theorem pIsi {X:Cx} {e:Expr} {te:TE} (K:PySem.W.Frag) {T:Str} {n:String} {p p2 pos:Pos} (he:PE X e te) (hg:Gl X "isinstance") (hm:X.mg "isinstance"=none) (hgT:Gl X T) (hmT:X.mg T=none) (hv:bootBuiltins T=some (.type n))
  (hb:bootBuiltins "isinstance"=some (.builtin "isinstance")) (h:X.K=K:=by rfl) (hnT:T ≠ "__name__":=by decide) (hdT:(T == ("__debug__" : Str))=false:=by decide)
  (hs:starEach [e,.Name T p2] X.env=[(false,eval e X.env),(false,eval (.Name T p2) X.env)]:=by rfl)
  (hpl:(backTo pos (starEach [.Name T p2] X.env)).any (·.1)=false:=by rfl):PE X (.Call (.Name "isinstance" p) [e,.Name T p2] [] pos) (tIsi K (.type n) te):=by
 subst h; exact pe_isiB he hg hm hgT hmT hv hb hnT hdT hs hpl
end L2
namespace L2
open PySem PySem.Spec PyProof.Rows EX
section
variable {X:Cx} {st:Stmt} {sts:List Stmt} {t u:TX}
end
end L2
namespace KM
open PySem L2 KG EX
def isI:PyData→Bool
 | .int _=>true
 | .bool _=>true
 | _=>false
def isB:PyData→Bool
 | .bool _=>true
 | _=>false
def isT:PyData→Bool
 | .tuple _=>true
 | _=>false
structure IsK (K:PySem.W.Frag):Prop where
 i1:PySem.W.kitOne K (.type "NoneType") (.type "int")=some false
 i2:PySem.W.kitOne K (.type "bool") (.type "int")=some true
 i3:PySem.W.kitOne K (.type "int") (.type "int")=some true
 i4:PySem.W.kitOne K (.type "str") (.type "int")=some false
 i5:PySem.W.kitOne K (.type "list") (.type "int")=some false
 i6:PySem.W.kitOne K (.type "tuple") (.type "int")=some false
 b1:PySem.W.kitOne K (.type "NoneType") (.type "bool")=some false
 b2:PySem.W.kitOne K (.type "bool") (.type "bool")=some true
 b3:PySem.W.kitOne K (.type "int") (.type "bool")=some false
 b4:PySem.W.kitOne K (.type "str") (.type "bool")=some false
 b5:PySem.W.kitOne K (.type "list") (.type "bool")=some false
 b6:PySem.W.kitOne K (.type "tuple") (.type "bool")=some false
 t1:PySem.W.kitOne K (.type "NoneType") (.type "tuple")=some false
 t2:PySem.W.kitOne K (.type "bool") (.type "tuple")=some false
 t3:PySem.W.kitOne K (.type "int") (.type "tuple")=some false
 t4:PySem.W.kitOne K (.type "str") (.type "tuple")=some false
 t5:PySem.W.kitOne K (.type "list") (.type "tuple")=some false
 t6:PySem.W.kitOne K (.type "tuple") (.type "tuple")=some true
theorem isi {K:PySem.W.Frag} (Z:IsK K) {b:Addr} {H:Hp} {v:V} {d:PyData} (h:TrV b H v d):∃ t,TyOf K H v t∧PySem.W.kitOne K t (.type "int")=some (isI d):=by
 cases h with
 | non=>exact ⟨_,.non,Z.i1⟩
 | bl c=>exact ⟨_,.bl _,Z.i2⟩
 | int c=>exact ⟨_,.int _,Z.i3⟩
 | str x ok=>exact ⟨_,.str _,Z.i4⟩
 | lst n e t=>exact ⟨_,.lst e,Z.i5⟩
 | tup e t=>exact ⟨_,.tup e,Z.i6⟩
theorem isb {K:PySem.W.Frag} (Z:IsK K) {b:Addr} {H:Hp} {v:V} {d:PyData} (h:TrV b H v d):∃ t,TyOf K H v t∧PySem.W.kitOne K t (.type "bool")=some (isB d):=by
 cases h with
 | non=>exact ⟨_,.non,Z.b1⟩
 | bl c=>exact ⟨_,.bl _,Z.b2⟩
 | int c=>exact ⟨_,.int _,Z.b3⟩
 | str x ok=>exact ⟨_,.str _,Z.b4⟩
 | lst n e t=>exact ⟨_,.lst e,Z.b5⟩
 | tup e t=>exact ⟨_,.tup e,Z.b6⟩
theorem ist {K:PySem.W.Frag} (Z:IsK K) {b:Addr} {H:Hp} {v:V} {d:PyData} (h:TrV b H v d):∃ t,TyOf K H v t∧PySem.W.kitOne K t (.type "tuple")=some (isT d):=by
 cases h with
 | non=>exact ⟨_,.non,Z.t1⟩
 | bl c=>exact ⟨_,.bl _,Z.t2⟩
 | int c=>exact ⟨_,.int _,Z.t3⟩
 | str x ok=>exact ⟨_,.str _,Z.t4⟩
 | lst n e t=>exact ⟨_,.lst e,Z.t5⟩
 | tup e t=>exact ⟨_,.tup e,Z.t6⟩
theorem tupCase {b:Addr} {H:Hp} {v:V} {d:PyData} (h:TrV b H v d):isT d=false ∨ ∃ a xs ds,v=.ref a∧d=.tuple ds∧H a=some (.tup xs)∧TrVs b H xs ds:=by
 cases h with
 | non=>exact .inl rfl
 | bl c=>exact .inl rfl
 | int c=>exact .inl rfl
 | str x ok=>exact .inl rfl
 | lst n e t=>exact .inl rfl
 | tup e t=>exact .inr ⟨_,_,_,rfl,rfl,e,t⟩
theorem intCase {b:Addr} {H:Hp} {v:V} {d:PyData} (h:TrV b H v d):isWhole d=false ∨ ∃ i,v=.int i∧d=.int i:=by
 cases h with
 | non=>exact .inl rfl
 | bl c=>exact .inl rfl
 | int c=>exact .inr ⟨_,rfl,rfl⟩
 | str x ok=>exact .inl rfl
 | lst n e t=>exact .inl rfl
 | tup e t=>exact .inl rfl
theorem isWhole_eq (d:PyData):isWhole d=(isI d && !isB d):=by cases d <;> rfl
theorem within_no {lo hi:Int} {d:PyData} (h:isWhole d=false):within lo hi d=false:=by cases d <;> first | rfl | cases h
theorem isFrac_no {d:PyData} (h:isT d=false):isFrac d=false:=by cases d <;> first | rfl | cases h
def spT (m:PyData→Bool):Sp:=fun vs H Q _=>∃ (b:Addr) (v:V) (d:PyData),vs=[v]∧TrV b H v d∧∀ H',Stay H H'→Q (.bl (m d)) H'
def spGcd:Sp:=fun vs H Q _=>∃ (t u:Int),vs=[.int t,.int u]∧0 ≤ u∧Q (.int (Int.gcd t u)) H
theorem gcd_emod {a c:Int}:Int.gcd c (a % c)=Int.gcd a c:=by
 rw [Int.gcd_comm a c,Int.emod_def,Int.gcd_sub_mul_left_right]
theorem abs_gcd {a:Int}:(if a < 0 then -a else a)=(Int.gcd a 0:Int):=by
 rw [Int.gcd_zero_right]
 split <;> omega
theorem isFrac_len {ds:List PyData} (h:ds.length ≠ 2):isFrac (.tuple ds)=false:=by
 unfold isFrac
 split
 ·next heq=>injection heq with heq; subst heq; exact absurd rfl h
 ·rfl
theorem vint_ne {a b:Nat} (h:a ≠ b):(!decide (V.int (a:Int)=V.int (b:Int)))=true:=by
 have:(a:Int) ≠ b:=by omega
 simp [this]
theorem vint_eq (a:Int):(!decide (V.int a=V.int a))=false:=by simp
theorem fracShape {d:PyData} (h:isFrac d=true):∃ t u:Int,d=.tuple [.int t,.int u]∧1 ≤ u∧Int.gcd t u=1:=by
 unfold isFrac at h
 split at h
 ·next t u=>simp at h; exact ⟨t,u,rfl,h.1,h.2⟩
 ·cases h
def spFrac:Sp:=fun vs H Q _=>∃ (t u:Int),vs=[.int t,.int u]∧0 < u∧u < 1073741824∧∀ (p:Addr),H p=none→Q (.ref p) (upd H p (.tup [.int (t / (Int.gcd t u:Int)),.int (u / (Int.gcd t u:Int))]))
theorem gcd_pos {t u:Int} (h:0 < u):0 < (Int.gcd t u:Int)∧(Int.gcd t u:Int) ≤ u:=by
 have h1:0 < Int.gcd t u:=Int.gcd_pos_of_ne_zero_right t (by omega)
 have h2:(Int.gcd t u:Int) ∣ u:=Int.gcd_dvd_right ..
 exact ⟨by omega,Int.le_of_dvd h h2⟩
def spPu:Sp:=fun vs H Q _=>∃ (b:Addr),vs=[.ref b]∧Bag H b∧∀ (v:V) (d:PyData) (H':Hp),Bag H' b→Kp b H H'→TrV b H' v d→je1 d=true→Q v H'
theorem purse_one {t:Int} (h1:1 ≤ t) (h2:t ≤ 1000000):je1 (.tuple [.int t,.int 1])=true:=by
 show (decide ((1:Int) ≤ 1) && decide (Int.gcd t 1=1) && decide (1 ≤ t) && decide (t ≤ 1000000) && decide ((1:Int) ≤ 1000000))=true
 rw [decide_eq_true h1,decide_eq_true h2,Int.gcd_one_right]; rfl
theorem purse_low {t u:Int} (h1:1 ≤ t) (h2:t ≤ 1000000) (h3:1 ≤ u) (h4:u ≤ 1000000):je1 (.tuple [.int (t / (Int.gcd t u:Int)),.int (u / (Int.gcd t u:Int))])=true:=by
 obtain ⟨g0,g1⟩:=gcd_pos (t:=t) (u:=u) (by omega)
 have gt:(Int.gcd t u:Int) ∣ t:=Int.gcd_dvd_left ..
 have gu:(Int.gcd t u:Int) ∣ u:=Int.gcd_dvd_right ..
 have e:Int.gcd (t / (Int.gcd t u:Int)) (u / (Int.gcd t u:Int))=1:=Int.gcd_ediv_gcd_ediv_gcd (by omega)
 have lo:∀ n:Int,1 ≤ n→n ≤ 1000000→(Int.gcd t u:Int) ∣ n→1 ≤ n / (Int.gcd t u:Int)∧n / (Int.gcd t u:Int) ≤ 1000000:=fun n n1 n2 hd=>by
  have a1:n / (Int.gcd t u:Int) * (Int.gcd t u:Int)=n:=Int.ediv_mul_cancel hd
  have a2:n / (Int.gcd t u:Int) ≤ n:=Int.ediv_le_self _ (by omega)
  have a3:0 ≤ n / (Int.gcd t u:Int):=Int.ediv_nonneg (by omega) (by omega)
  refine ⟨?_,by omega⟩
  rcases Int.lt_or_le 0 (n / (Int.gcd t u:Int)) with z | z
  ·omega
  ·have:n / (Int.gcd t u:Int)=0:=by omega
   rw [this,Int.zero_mul] at a1; omega
 obtain ⟨t1,t2⟩:=lo t h1 h2 gt
 obtain ⟨u1,u2⟩:=lo u h3 h4 gu
 show (decide _ && decide (Int.gcd _ _=1) && decide _ && decide _ && decide _)=true
 rw [decide_eq_true u1,decide_eq_true e,decide_eq_true t1,decide_eq_true t2,decide_eq_true u2]; rfl
theorem trI2 {b p:Addr} {H:Hp} {x y:Int}:TrV b (upd H p (.tup [.int x,.int y])) (.ref p) (.tuple [.int x,.int y]):=.tup ja1 (.cons (.int x) (.cons (.int y) .nil))
def spWi:Sp:=fun vs H Q _=>∃ (b:Addr) (g:Int),vs=[.ref b,.int g]∧Bag H b∧0 < g∧g ≤ 6 ∧
 ∀ (p:Addr) (ns:List Int) (H':Hp),Bag H' b→Kp b H H'→H' p=some (.tup (ns.map V.int))→(ns.length:Int)=g→(∀ n ∈ ns,0 ≤ n∧n ≤ 100)→(∃ n ∈ ns,1 ≤ n)→Q (.ref p) H'
theorem menu5b {r:Int} (h0:0 ≤ r) (h1:r < 5):∃ m:Int,atI [V.int 3,V.int 101,V.int 2,V.int 10,V.int 101] r=some (.int m)∧0 < m∧m ≤ 101:=by
 have:r=0 ∨ r=1 ∨ r=2 ∨ r=3 ∨ r=4:=by omega
 rcases this with rfl | rfl | rfl | rfl | rfl
 ·exact ⟨3,rfl,by decide,by decide⟩
 ·exact ⟨101,rfl,by decide,by decide⟩
 ·exact ⟨2,rfl,by decide,by decide⟩
 ·exact ⟨10,rfl,by decide,by decide⟩
 ·exact ⟨101,rfl,by decide,by decide⟩
theorem menu3c {r:Int} (h0:0 ≤ r) (h1:r < 3):∃ m:Int,atI [V.int 1,V.int 9,V.int 60] r=some (.int m)∧0 < m∧m ≤ 60:=by
 have:r=0 ∨ r=1 ∨ r=2:=by omega
 rcases this with rfl | rfl | rfl
 ·exact ⟨1,rfl,by decide,by decide⟩
 ·exact ⟨9,rfl,by decide,by decide⟩
 ·exact ⟨60,rfl,by decide,by decide⟩
theorem trAll {b:Addr} {H:Hp} {m:PyData→Bool}:∀ {ys:List V},(∀ y ∈ ys,∃ d,TrV b H y d∧m d=true)→∃ ds,TrVs b H ys ds∧ds.all m=true
 | [],_=>⟨[],.nil,rfl⟩
 | y :: ys,h=>by
  obtain ⟨ds,h1,h2⟩:=trAll (ys:=ys) fun z hz=>h z (List.mem_cons_of_mem _ hz)
  obtain ⟨d,h3,h4⟩:=h y List.mem_cons_self
  exact ⟨d :: ds,.cons h3 h1,by rw [List.all_cons,h4,h2]; rfl⟩
def oneD:PyData→Bool
 | .int n=>decide (1 ≤ n)
 | _=>false
def posD:PyData→Bool
 | .tuple ds=>ds.any oneD
 | _=>false
theorem all_both {α : Type} {f g:α→Bool}:∀ {xs:List α},(xs.all fun x=>f x && g x)=true→xs.all f=true∧xs.all g=true
 | [],_=>⟨rfl,rfl⟩
 | x :: xs,h=>by
  rw [List.all_cons,Bool.and_eq_true,Bool.and_eq_true] at h
  obtain ⟨h1,h2⟩:=all_both h.2
  exact ⟨by rw [List.all_cons,h.1.1,h1]; rfl,by rw [List.all_cons,h.1.2,h2]; rfl⟩
def spMk:Sp:=fun vs H Q _=>∃ (b:Addr),vs=[.ref b]∧Bag H b∧∀ (p:Addr) (am pu wi:List PyData) (H':Hp),Bag H' b→Kp b H H'→TrV b H' (.ref p) (.tuple [.tuple am,.tuple pu,.tuple wi])→isMk (.tuple [.tuple am,.tuple pu,.tuple wi])=true→wi.all posD=true→Q (.ref p) H'
def RA (_:Hp) (v:V):Prop:=∃ n:Int,v=.int n∧1 ≤ n∧n ≤ 60
def RP (H:Hp) (v:V):Prop:=∃ (a:Addr) (t u:Int),v=.ref a∧H a=some (.tup [.int t,.int u])∧je1 (.tuple [.int t,.int u])=true
def RW (g:Int) (H:Hp) (v:V):Prop:=∃ (a:Addr) (ns:List Int),v=.ref a∧H a=some (.tup (List.map V.int ns))∧(ns.length:Int)=g∧(∀ n ∈ ns,0 ≤ n∧n ≤ 100)∧∃ n ∈ ns,1 ≤ n
theorem purseShape {d:PyData} (h:je1 d=true):∃ t u:Int,d=.tuple [.int t,.int u]:=by
 unfold je1 at h
 split at h
 ·exact ⟨_,_,rfl⟩
 ·cases h
theorem RP.of {b:Addr} {H:Hp} {v:V} {d:PyData} (h:TrV b H v d) (hp:je1 d=true):RP H v:=by
 obtain ⟨t,u,rfl⟩:=purseShape hp
 cases h with
 | tup ha hs =>
 cases hs with
 | cons hx hs =>
 cases hs with
 | cons hy hs =>
 cases hs
 cases hx
 cases hy
 exact ⟨_,t,u,rfl,ha,hp⟩
theorem RA.tr {b:Addr} {H:Hp} {v:V} (h:RA H v):∃ d,TrV b H v d∧within 1 60 d=true:=by
 obtain ⟨n,rfl,h1,h2⟩:=h
 exact ⟨.int n,.int n,by show (decide _ && decide _)=true; rw [decide_eq_true h1,decide_eq_true h2]; rfl⟩
theorem RP.tr {b:Addr} {H:Hp} {v:V} (h:RP H v):∃ d,TrV b H v d∧je1 d=true:=by
 obtain ⟨a,t,u,rfl,h1,h2⟩:=h
 exact ⟨_,.tup h1 (.cons (.int t) (.cons (.int u) .nil)),h2⟩
theorem trInts {b:Addr} {H:Hp}:∀ ns:List Int,TrVs b H (ns.map V.int) (ns.map PyData.int)
 | []=>.nil
 | n :: ns=>.cons (.int n) (trInts ns)
theorem all_within {lo hi:Int} {ns:List Int} (h:∀ n ∈ ns,lo ≤ n∧n ≤ hi):(ns.map PyData.int).all (within lo hi)=true:=by
 rw [List.all_map,List.all_eq_true]
 intro n hn
 obtain ⟨h1,h2⟩:=h n hn
 show (decide _ && decide _)=true
 rw [decide_eq_true h1,decide_eq_true h2]; rfl
theorem RW.tr {b:Addr} {H:Hp} {v:V} {g:Nat} (h:RW g H v):∃ d,TrV b H v d∧(isRow g 0 100 d && posD d)=true:=by
 obtain ⟨a,ns,rfl,h1,h2,h3,n,hn,hp⟩:=h
 refine ⟨_,.tup h1 (trInts ns),?_⟩
 have e1:isRow g 0 100 (.tuple (ns.map PyData.int))=true:=by
  show (decide _ && _)=true
  rw [decide_eq_true (show (ns.map PyData.int).length=g by rw [List.length_map]; omega),all_within h3]; rfl
 have e2:posD (.tuple (ns.map PyData.int))=true:=List.any_eq_true.mpr ⟨.int n,List.mem_map.mpr ⟨n,hn,rfl⟩,by show decide (1 ≤ n)=true; exact decide_eq_true hp⟩
 rw [e1,e2]; rfl
theorem isMk_of {a p w:List PyData} (h1:1 ≤ a.length) (h2:a.length ≤ 6) (h3:a.all (within 1 60)=true) (h4:1 ≤ p.length) (h5:p.length ≤ 6) (h6:p.all je1=true) (h7:w.length=p.length) (h8:w.all (isRow a.length 0 100)=true):isMk (.tuple [.tuple a,.tuple p,.tuple w])=true:=by
 show (decide _ && decide _ && _ && (decide _ && decide _ && _) && (decide _ && _))=true
 rw [decide_eq_true h1,decide_eq_true h2,h3,decide_eq_true h4,decide_eq_true h5,h6,decide_eq_true h7,h8]; rfl
theorem isMk_out {a p w:List PyData} (h:isMk (.tuple [.tuple a,.tuple p,.tuple w])=true):1 ≤ a.length∧a.length ≤ 6∧a.all (within 1 60)=true∧1 ≤ p.length∧p.length ≤ 6∧p.all je1=true∧w.length=p.length∧w.all (isRow a.length 0 100)=true:=by
 have h':(decide (1 ≤ a.length) && decide (a.length ≤ 6) && a.all (within 1 60) && (decide (1 ≤ p.length) && decide (p.length ≤ 6) && p.all je1) && (decide (w.length=p.length) && w.all (isRow a.length 0 100)))=true:=h
 simp only [Bool.and_eq_true,decide_eq_true_eq] at h'
 obtain ⟨⟨⟨⟨h1,h2⟩,h3⟩,⟨h4,h5⟩,h6⟩,h7,h8⟩:=h'
 exact ⟨h1,h2,h3,h4,h5,h6,h7,h8⟩
theorem Stay.kpb {b:Addr} {H H':Hp} (s:Stay H H'):Kp b H H':=fun a o _ h=>s a o h
theorem Bag.stay {b:Addr} {H H':Hp} (h:Bag H b) (s:Stay H H'):Bag H' b:=by obtain ⟨c,d,e⟩:=h; exact ⟨c,d,s _ _ e⟩
theorem trAt {b:Addr} {H:Hp} {xs:List V} {ds:List PyData} {r:Int} (h:TrVs b H xs ds) (h0:0 ≤ r) (h1:r < xs.length):∃ x d,xs[r.toNat]?=some x∧atI xs r=some x∧ds[r.toNat]?=some d∧TrV b H x d:=by
 have hl:r.toNat < xs.length:=by omega
 have e:=List.getElem?_eq_getElem hl
 obtain ⟨d,e2,t⟩:=h.at e
 have:=atI_nat e
 rw [Int.toNat_of_nonneg h0] at this
 exact ⟨_,d,e,this,e2,t⟩
theorem cut_to {xs:List V} {r:Int} (h0:0 ≤ r) (h1:r < xs.length):cutV xs none (some r)=xs.take r.toNat:=by
 have e1:HT.sIx xs.length xs.length (some r)=r.toNat:=by
  show (if r < 0 then (r + (xs.length:Int)).toNat else min r.toNat xs.length)=_
  rw [if_neg (by omega)]; omega
 unfold cutV
 rw [HT.sIx_none,e1]; simp
theorem cut_from {xs:List V} {r:Int} (h0:0 ≤ r) (h1:r ≤ xs.length):cutV xs (some r) none=xs.drop r.toNat:=by
 have e1:HT.sIx xs.length 0 (some r)=r.toNat:=by
  show (if r < 0 then (r + (xs.length:Int)).toNat else min r.toNat xs.length)=_
  rw [if_neg (by omega)]; omega
 unfold cutV
 rw [HT.sIx_none,e1,List.take_of_length_le]
 rw [List.length_drop]; omega
theorem rowShape {n:Nat} {lo hi:Int} {d:PyData} (h:isRow n lo hi d=true):∃ rs,d=.tuple rs∧rs.length=n∧rs.all (within lo hi)=true:=by
 unfold isRow at h
 split at h
 ·next ds=>simp only [Bool.and_eq_true,decide_eq_true_eq] at h; exact ⟨ds,rfl,h.1,h.2⟩
 ·cases h
theorem intsOf {b:Addr} {H:Hp}:∀ {xs:List V} {ds:List PyData},TrVs b H xs ds→ds.all (within 0 100)=true→∃ ns:List Int,xs=ns.map V.int∧∀ n ∈ ns,0 ≤ n∧n ≤ 100
 | _,_,.nil,_=>⟨[],rfl,fun n h=>nomatch h⟩
 | _,_,.cons (x:=x) (d:=d) h t,e=>by
  rw [List.all_cons,Bool.and_eq_true] at e
  obtain ⟨ns,rfl,h2⟩:=intsOf t e.2
  rcases intCase h with hn | ⟨i,rfl,rfl⟩
  ·rw [within_no hn] at e; cases e.1
  ·have h1:(decide (0 ≤ i) && decide (i ≤ 100))=true:=e.1
   simp only [Bool.and_eq_true,decide_eq_true_eq] at h1
   refine ⟨i :: ns,rfl,fun n hn=>?_⟩
   rcases List.mem_cons.mp hn with rfl | hn
   ·exact h1
   ·exact h2 n hn
end KM
namespace KM
open PySem L2 KG EX
structure Nm (mg:Str→Option Value):Prop where
 len:mg "len"=none
 range:mg "range"=none
 tuple:mg "tuple"=none
 list:mg "list"=none
 all:mg "all"=none
 any:mg "any"=none
 max:mg "max"=none
 min:mg "min"=none
 sum:mg "sum"=none
 abs:mg "abs"=none
 int:mg "int"=none
 isinstance:mg "isinstance"=none
 bool:mg "bool"=none
 enumerate:mg "enumerate"=none
 valueError:mg "ValueError"=none
structure CalX (K:PySem.W.Frag) (mg:Str→Option Value) (P:Program) (w:World) (base:Heap) (x:Str) (k:Nat) (ps:List Str) (sp:Sp) (f:Addr) (fd:FuncData):Prop where
 ok:FnOk P w K mg base (CXF P w) k f fd ps sp
 mg:mg x=some (.ref f)
 kp:PySem.W.keepIn K (.ref f)=true
 bd:Binds K fd ps []
theorem passE0 {P:Program} {w:World} {X:Cx}:Passes (CXF P w) X E0:=fun _ _ _ _ _ _ _ h=>by
 obtain ⟨_,_,_,_,_,_,_,_,_,_,_,_,_,_,z⟩:=h
 exact z.elim
end KM
namespace L2
open PySem PySem.Spec PyProof.Rows
section
variable {κ : Type} [DecidableEq κ]
def valV (kvs:List (κ × V)) (k:κ):Option V:=(kvs.find? fun kv=>decide (kv.1=k)).map (·.2)
def putK (kvs:List (κ × V)) (k:κ) (v:V):List (κ × V) :=
 if (kvs.any fun kv=>decide (kv.1=k))=true then kvs.map (fun kv=>if kv.1=k then (kv.1,v) else kv) else kvs ++ [(k,v)]
theorem valV_pos {p:κ × V} {r:List (κ × V)} {k:κ} (e:p.1=k):valV (p :: r) k=some p.2:=by simp [valV,List.find?_cons,e]
theorem valV_neg {p:κ × V} {r:List (κ × V)} {k:κ} (e:¬ p.1=k):valV (p :: r) k=valV r k:=by simp [valV,List.find?_cons,e]
theorem valV_any (k:κ):∀ kvs:List (κ × V),(kvs.any fun kv=>decide (kv.1=k))=(valV kvs k).isSome
 | []=>rfl
 | p :: r=>by
  rw [List.any_cons]
  by_cases e:p.1=k
  ·simp only [valV_pos e,decide_eq_true e,Bool.true_or,Option.isSome_some]
  ·rw [valV_neg e,decide_eq_false e,Bool.false_or]; exact valV_any k r
theorem length_putK (kvs:List (κ × V)) (k:κ) (v:V):(putK kvs k v).length ≤ kvs.length + 1:=by
 unfold putK
 split
 ·rw [List.length_map]; omega
 ·rw [List.length_append,List.length_cons,List.length_nil]; omega
theorem putK_new {kvs:List (κ × V)} {k:κ} (v:V) (h:valV kvs k=none):putK kvs k v=kvs ++ [(k,v)]:=by
 unfold putK
 rw [valV_any,h]
 exact if_neg (by decide)
theorem RelO.isSome_eq {o:Option V} {u:Option Value} (r:RelO o u):o.isSome=u.isSome:=by
 cases o with
 | none=>cases u with
  | none=>rfl
  | some _=>exact (show False from r).elim
 | some _=>cases u with
  | none=>exact (show False from r).elim
  | some _=>rfl
theorem KV.val {kvs:List (κ × V)} {vs:List (κ × Value)} (r:KV kvs vs) (k:κ):RelO (valV kvs k) (valueAt vs k):=by
 unfold KV at r
 induction r with
 | nil=>exact True.intro
 | @cons p q ps qs h t ih =>
  obtain ⟨h1,h2⟩:=h
  by_cases e:p.1=k
  ·have e':q.1=k:=h1.symm.trans e
   have b:valueAt (q :: qs) k=some q.2:=by simp [valueAt,List.find?_cons,e']
   rw [valV_pos e,b]; exact h2
  ·have e':¬ q.1=k:=fun z=>e (h1.trans z)
   have b:valueAt (q :: qs) k=valueAt qs k:=by simp [valueAt,List.find?_cons,e']
   rw [valV_neg e,b]; exact ih
theorem KV.any {kvs:List (κ × V)} {vs:List (κ × Value)} (r:KV kvs vs) (k:κ):(kvs.any fun kv=>decide (kv.1=k))=vs.any fun kv=>decide (kv.1=k):=by
 unfold KV at r
 induction r with
 | nil=>rfl
 | cons h t ih=>rw [List.any_cons,List.any_cons,ih,h.1]
theorem KV.repl {kvs:List (κ × V)} {vs:List (κ × Value)} (r:KV kvs vs) (k:κ) {y:V} {u:Value} (ry:RelV y u) :
  KV (kvs.map fun kv=>if kv.1=k then (kv.1,y) else kv) (vs.map fun kv=>if kv.1=k then (kv.1,u) else kv):=by
 unfold KV at r ⊢
 induction r with
 | nil=>exact .nil
 | @cons p q ps qs h t ih =>
  rw [List.map_cons,List.map_cons]
  refine .cons ?_ ih
  obtain ⟨h1,h2⟩:=h
  by_cases e:p.1=k
  ·rw [if_pos e,if_pos (h1.symm.trans e)]; exact ⟨h1,ry⟩
  ·rw [if_neg e,if_neg (fun z=>e (h1.trans z))]; exact ⟨h1,h2⟩
theorem KV.put {kvs:List (κ × V)} {vs:List (κ × Value)} (r:KV kvs vs) (k:κ) {y:V} {u:Value} (ry:RelV y u):KV (putK kvs k y) (stored vs k u):=by
 unfold putK stored
 rw [r.any k]
 by_cases e:(vs.any fun kv=>decide (kv.1=k))=true
 ·rw [if_pos e,if_pos e]; exact r.repl k ry
 ·rw [if_neg e,if_neg e]; exact Paired.snoc r ⟨rfl,ry⟩
theorem KV.keys {kvs:List (κ × V)} {vs:List (κ × Value)} (r:KV kvs vs):kvs.map (·.1)=vs.map (·.1):=by
 unfold KV at r
 induction r with
 | nil=>rfl
 | cons h t ih=>rw [List.map_cons,List.map_cons,ih,h.1]
theorem KV.length {kvs:List (κ × V)} {vs:List (κ × Value)} (r:KV kvs vs):kvs.length=vs.length:=Paired.length r
end
theorem kV_is {P:Program} {w:World} {k:Key} {u:Value} (r:RelV (kV k) u):(jc4 P w).is k u=true:=by
 cases k with
 | inl i=>obtain ⟨t,e⟩:=(show ∃ t,u=Value.int i t from r); subst e; exact mixKind_int P w i t
 | inr x=>obtain ⟨t,e⟩:=(show ∃ t,u=Value.str x t from r); subst e; exact mixKind_str P w x t
theorem items_are {P:Program} {w:World}:∀ {ks:List Key} {us:List Value},Vals (ks.map kV) us→ItemsAre (jc4 P w) ks us
 | [],_,r=>by rw [List.map_nil] at r; cases r; exact .nil
 | k :: ks,_,r=>by
  rw [List.map_cons] at r
  cases r with
  | cons h t=>exact .cons (kV_is h) (items_are t)
abbrev KT (H:Hp):List (List Key × V)→List (List Key × Addr × Value)→Prop:=Paired fun p q=>p.1=q.1∧H q.2.1=some (.tup (p.1.map kV))∧RelV p.2 q.2.2
theorem KT.val {H:Hp} {kvs:List (List Key × V)} {xs:List (List Key × Addr × Value)} (r:KT H kvs xs) (k:List Key):RelO (valV kvs k) ((atKey xs k).map (·.2)):=by
 induction r with
 | nil=>exact True.intro
 | @cons p q ps qs h t ih =>
  obtain ⟨h1,_,h2⟩:=h
  by_cases e:p.1=k
  ·have e':q.1=k:=h1.symm.trans e
   have b:atKey (q :: qs) k=some q.2:=by simp [atKey,List.find?_cons,e']
   rw [valV_pos e,b]; exact h2
  ·have e':¬ q.1=k:=fun z=>e (h1.trans z)
   have b:atKey (q :: qs) k=atKey qs k:=by simp [atKey,List.find?_cons,e']
   rw [valV_neg e,b]; exact ih
theorem KT.repl {H:Hp} {kvs:List (List Key × V)} {xs:List (List Key × Addr × Value)} (r:KT H kvs xs) (k:List Key) {y:V} {u:Value} (ry:RelV y u) :
  KT H (kvs.map fun kv=>if kv.1=k then (kv.1,y) else kv) (xs.map (putAt k u)):=by
 induction r with
 | nil=>exact .nil
 | @cons p q ps qs h t ih =>
  rw [List.map_cons,List.map_cons]
  refine .cons ?_ ih
  obtain ⟨h1,h2,h3⟩:=h
  unfold putAt
  by_cases e:p.1=k
  ·rw [if_pos e,if_pos (h1.symm.trans e)]; exact ⟨h1,h2,ry⟩
  ·rw [if_neg e,if_neg (fun z=>e (h1.trans z))]; exact ⟨h1,h2,h3⟩
theorem KT.put {H:Hp} {kvs:List (List Key × V)} {xs:List (List Key × Addr × Value)} (r:KT H kvs xs) (k:List Key) {b:Addr} {y:V} {u:Value} (hb:H b=some (.tup (k.map kV))) (ry:RelV y u) :
  KT H (putK kvs k y) (storedH xs k b u):=by
 have e:(kvs.any fun kv=>decide (kv.1=k))=(atKey xs k).isSome:=by
  rw [valV_any,(r.val k).isSome_eq,Option.isSome_map]
 unfold putK storedH
 rw [e]
 by_cases q:(atKey xs k).isSome=true
 ·rw [if_pos q,if_pos q]; exact r.repl k ry
 ·rw [if_neg q,if_neg q]; exact Paired.snoc r ⟨rfl,hb,ry⟩
theorem KT.keeps {H H':Hp} {kvs:List (List Key × V)} {xs:List (List Key × Addr × Value)} (r:KT H kvs xs) (ht:∀ b ys,H b=some (.tup ys)→H' b=some (.tup ys)):KT H' kvs xs :=
 Paired.mapP r fun _ _ z=>⟨z.1,ht _ _ z.2.1,z.2.2⟩
section
variable {P:Program} {w:World} {H:Hp} {h:Heap} {a:Addr}
theorem rd_of {u:HO} (ok:HOk P w H h) (e:Rd H a u):ObjOk P w H h a u:=e.ok ok
theorem dk_rd {kvs:List (Key × V)} (ok:HOk P w H h) (e:Rd H a (.dK kvs)):kvs.length ≤ sizeLine∧(a == sysModules)=false∧∃ vs,KV kvs vs∧h.DictOf (jc4 P w) a vs :=
 show ObjOk P w H h a (.dK kvs) from rd_of ok e
theorem dk_of {kvs:List (Key × V)} (ok:HOk P w H h) (e:H a=some (.dK kvs)):kvs.length ≤ sizeLine∧(a == sysModules)=false∧∃ vs,KV kvs vs∧h.DictOf (jc4 P w) a vs:=dk_rd ok (.inl e)
theorem key_of {ks:List Key} (ok:HOk P w H h) (e:H a=some (.tup (ks.map kV))):(tupleKind (jc4 P w)).is h ks a:=by
 obtain ⟨_,its,r,o,h1,h2,n,h3⟩:=(show ObjOk P w H h a (.tup (ks.map kV)) from ok a _ e)
 exact ⟨o,its.toArray,n,h1,h2,h3,by simpa using items_are r⟩
theorem dt_rd {kvs:List (List Key × V)} (ok:HOk P w H h) (e:Rd H a (.dT kvs)):kvs.length ≤ sizeLine∧(a == sysModules)=false ∧
  ∃ xs,KT H kvs xs∧h.DictOfH (tupleKind (jc4 P w)) a xs:=by
 obtain ⟨z,y,xs,r,o,es,ep,h1,h2,h3,h4,h5⟩:=(show ObjOk P w H h a (.dT kvs) from rd_of ok e)
 refine ⟨z,y,xs,r,o,es,ep,h1,h2,h3,h4,fun x hx=>?_,h5⟩
 have all:∀ {l:List (List Key × V)} {m:List (List Key × Addr × Value)},KT H l m→∀ x ∈ m,(tupleKind (jc4 P w)).is h x.1 x.2.1:=by
  intro l m q
  induction q with
  | nil=>intro x hx; exact nomatch hx
  | @cons p q ps qs hq t ih =>
   intro x hx
   rcases List.mem_cons.mp hx with e | hx
   ·subst e
    exact key_of ok (by rw [← hq.1]; exact hq.2.1)
   ·exact ih x hx
 exact all r x hx
theorem dt_of {kvs:List (List Key × V)} (ok:HOk P w H h) (e:H a=some (.dT kvs)):kvs.length ≤ sizeLine∧(a == sysModules)=false ∧
  ∃ xs,KT H kvs xs∧h.DictOfH (tupleKind (jc4 P w)) a xs:=dt_rd ok (.inl e)
end
def DGet (H:Hp) (a:Addr) (y:V) (r:Option V):Prop :=
 (∃ kvs k,Rd H a (.dK kvs)∧y=kV k∧r=valV kvs k) ∨ ∃ kvs k b,Rd H a (.dT kvs)∧y=.ref b∧H b=some (.tup (k.map kV))∧r=valV kvs k
section
variable {X:Cx} {pins:List (Addr × Obj)} {σ:St} {H:Hp} {s:Shared} {a:Addr} {y v:V} {u r:Value} {o:Option V} {A:Around} {E:Value→Shared→Prop}
theorem Inv.big (I:Inv X pins σ H s):sysModules < s.heap.objs.size:=by
 have h:mainGlobals < s.heap.objs.size:=(I.mod.glob.keeps I.bk).lt
 exact Nat.lt_trans (by decide) h
theorem d_getItem {Q:Value→Shared→Prop} (hu:A.units + 1 < cLine) (I:Inv X pins σ H s) (g:DGet H a y (some v)) (ry:RelV y u) (h:∀ w' s',Inv X pins σ H s'→RelV v w'→Q w' s') :
  wpAny (model X.prog X.w) A (getItem (.ref a) u) Q E s:=by
 rcases g with ⟨kvs,k,e,ey,l⟩ | ⟨kvs,k,b,e,ey,eb,l⟩
 ·subst ey
  obtain ⟨z,hd,vs,rel,dd⟩:=dk_rd I.hok e
  obtain ⟨w',hw,rw'⟩:=RelO.some_of (v:=v) (o:=valueAt vs k) (by rw [l]; exact rel.val k)
  exact wpAny_getItem_of (kV_is ry) dd.mapOf hw (h w' _ (I.tok _) rw')
 ·subst ey
  cases (show u=Value.ref b from ry)
  obtain ⟨z,hd,xs,rel,dd⟩:=dt_rd I.hok e
  obtain ⟨w',hw,rw'⟩:=RelO.some_of (v:=v) (o:=(atKey xs k).map (·.2)) (by rw [l]; exact rel.val k)
  obtain ⟨p,hp,hp2⟩:=Option.map_eq_some_iff.mp hw
  refine wpAny_getItem_heap (tupleKind_room_in1 hu) (key_of I.hok eb) dd hp ?_
  rw [hp2]
  exact h w' _ (I.tok _) rw'
theorem d_write {h':Heap} {t':Nat} {ob:HO} (I:Inv X pins σ H s) (mu:Mut (H a)) (hs:Heap.SameBut a s.heap h') (he:∃ q,h'.get? a=some q) (new:ObjOk X.prog X.w (upd H a ob) h' a ob) :
  Inv X pins σ (upd H a ob) { s with heap:=h',toks:=t' } :=
 I.write (x:=a) (e:=a) mu (.inl rfl) (fun b q hb z=>(hs.2 b hb).trans z) he new
theorem dk_new {P:Program} {w:World} {H':Hp} {h':Heap} {kvs:List (Key × V)} {vs:List (Key × Value)} (z:kvs.length ≤ sizeLine) (hd:(a == sysModules)=false) (rel:KV kvs vs) (dd:h'.DictOf (jc4 P w) a vs) :
  ObjOk P w H' h' a (.dK kvs):=⟨z,hd,vs,rel,dd⟩
end
section
variable {X:Cx} {pins:List (Addr × Obj)} {σ:St} {H:Hp} {s:Shared} {a:Addr} {kvs:List (Key × V)} {k:Key} {u:Value} {A:Around} {E:Value→Shared→Prop}
end
def NoSl (i:Expr):Prop:=∀ ov iv,subscripted i false ov iv=operate [ov,iv] (getItem ov iv)
theorem subD_of {prog:Program} {w:World} {A:Around} {E:Value→Shared→Prop} {s:Shared} {env:Env} {value slice:Expr} {pos:Pos} {T id:String} {Q:Value→Shared→Prop}
  (hl:typeLookup (.type T) "__getitem__"=pure (some (.builtin id))) (hs:NoSl slice)
  (h:wpAny (model prog w) A (eval value env) (fun o s₁=>wpAny (model prog w) A (eval slice env) (fun i s₂=>s₂.TypeIs o T∧wpAny (model prog w) A (getItem o i) Q E s₂) E s₁) E s) :
  wpAny (model prog w) A (eval (.Subscript value slice pos) env) Q E s:=by
 refine Subscript_ (wpAny_mono h (fun o s₁ h₁=>wpAny_mono h₁ (fun i s₂ h₂=>?_) fun _ _ x=>x) fun _ _ x=>x)
 obtain ⟨hT,h₂⟩:=h₂
 unfold subscriptTail
 refine wpAny_bind ?_
 rw [getitemInPython_of_ne hT.not_modules]
 refine wpAny_bind (wpAny_specialOf hT hl ?_)
 have fin:wpAny (model prog w) A (subscripted slice false o i) (fun r s₃=>wpAny (model prog w) A (letTemporaryGo value o r >>= fun _=>pure r) Q E s₃) E s₂:=by
  rw [hs o i]
  exact wpAny_operating (wpAny_mono h₂ (fun r s₃ h₃=>wpAny_bind (wpAny_letTemporaryGo (wpAny_pure h₃))) fun _ _ x=>x)
 first
  | exact wpAny_pure (wpAny_bind fin)
  | exact wpAny_bind (wpAny_pure (wpAny_bind fin))
  | exact wpAny_bind fin
theorem dict_typeIs {X:Cx} {pins:List (Addr × Obj)} {σ:St} {H:Hp} {s:Shared} {a:Addr} {y:V} {o:Option V} (I:Inv X pins σ H s) (g:DGet H a y o):s.TypeIs (.ref a) "dict":=by
 rcases g with ⟨kvs,k,e,_,_⟩ | ⟨kvs,k,b,e,_,_,_⟩
 ·obtain ⟨_,_,vs,_,dd⟩:=dk_rd I.hok e
  exact dd.typeIs
 ·obtain ⟨_,_,xs,_,dd⟩:=dt_rd I.hok e
  exact dd.typeIs
def tDGet (td ty:TE):TE:=fun σ H Q=>td σ H fun x H1=>ty σ H1 fun y H2=>∃ a v,x=.ref a∧DGet H2 a y (some v)∧Q v H2
section
variable {X:Cx} {o i e value:Expr} {pos pos' tpos:Pos} {td ty tv:TE}
theorem pe_dget (hu:X.A.units + 1 < cLine) (ho:PE X o td) (hi:PE X i ty) (hs:NoSl i):PE X (.Subscript o i pos) (tDGet td ty):=by
 intro pins s σ H Q I h
 refine subD_of PySem.F.slot_dict_getitem.lookup hs (thn (ho pins s σ H _ I h) fun u s1 ⟨x,H1,I1,rx,q1⟩=>thn (hi pins s1 σ H1 _ I1 q1) fun iv s2 ⟨y,H2,I2,ry,a,v,ex,g,q2⟩=>?_)
 subst ex
 obtain rfl:u=Value.ref a:=rx
 exact ⟨dict_typeIs I2 g,d_getItem hu I2 g ry fun w' s3 I3 rw'=>⟨v,H2,I3,rw',q2⟩⟩
end
theorem dk_empty {P:Program} {w:World} {H:Hp} (h:Heap) (hb:sysModules < h.objs.size):ObjOk P w H (h.push { cls:=.type "dict",data:=.dict #[] }) h.objs.size (.dK []) :=
 ⟨Nat.zero_le _,beq_eq_false_iff_ne.mpr (Ne.symm (Nat.ne_of_lt hb)),[],.nil,Heap.DictOf.new h⟩
theorem dt_empty {P:Program} {w:World} {H:Hp} (h:Heap) (hb:sysModules < h.objs.size):ObjOk P w H (h.push { cls:=.type "dict",data:=.dict #[] }) h.objs.size (.dT []) :=
 ⟨Nat.zero_le _,beq_eq_false_iff_ne.mpr (Ne.symm (Nat.ne_of_lt hb)),[],.nil,_,#[],0,Heap.get?_push_size _ rfl,⟨rfl,rfl,rfl⟩,rfl,rfl,List.nodup_nil⟩
section
variable {X:Cx} {pos:Pos}
end
section
variable {X:Cx} {pins:List (Addr × Obj)} {σ:St} {H:Hp} {s:Shared} {a:Addr} {y d:V} {u r:Value} {o:Option V} {A:Around} {E:Value→Shared→Prop}
end
section
variable {X:Cx} {o e f:Expr} {apos cpos:Pos} {td ty tx:TE}
end
section
variable {X:Cx} {pins:List (Addr × Obj)} {σ:St} {H:Hp} {s:Shared} {a:Addr} {kvs:List (Key × V)} {A:Around} {E:Value→Shared→Prop}
end
section
variable {X:Cx} {pins:List (Addr × Obj)} {σ:St} {H:Hp} {s:Shared} {a:Addr} {y:V} {u:Value} {A:Around} {E:Value→Shared→Prop}
end
end L2
namespace L2
open PySem PySem.Spec PyProof.Rows
section
variable {X:Cx}
end
section
variable {κ : Type} [DecidableEq κ]
theorem valV_in {kvs:List (κ × V)} {k:κ} {v:V} (h:valV kvs k=some v):k ∈ kvs.map (·.1):=by
 have q:(kvs.any fun kv=>decide (kv.1=k))=true:=by
  rw [valV_any,h]
  all_goals rfl
 obtain ⟨p,hp,e⟩:=List.any_eq_true.mp q
 exact List.mem_map.mpr ⟨p,hp,of_decide_eq_true e⟩
end
end L2
namespace L2
open PySem PySem.Spec PyProof.Rows
def tDCompN (g:TG) (tt:TT) (tk tv:TE) (J:It) (acc:Addr) (σ₀:St) (H₀:Hp) (Q:VK):Prop :=
 ∃ W:Nat→Nat→St→Hp→Prop,(∃ m,W 0 m σ₀ (upd H₀ acc (.dK [])))∧∀ i m σ' H',W i m σ' H' →
  (J.stop i H'∧Q (.ref acc) H') ∨
  (J.go i H'∧∃ N:St→Hp→Prop,(∀ σ2 H2,N σ2 H2→∃ m',m' < m∧W (i + 1) m' σ2 H2)∧∀ x H2,J.yld i H' x H2→g x σ' H2 fun σ3 H3=>tt σ3 H3 fun b H4 =>
   if b=true then tk σ3 H4 fun kx H5=>tv σ3 H5 fun y H6=>∃ kvs k,H6 acc=some (.dK kvs)∧kx=kV k∧kvs.length < sizeLine∧N σ3 (upd H6 acc (.dK (putK kvs k y))) else N σ3 H4)
def tDComp (wi:TI) (g:TG) (tt:TT) (tk tv:TE) (own:Nat) (ix:List Nat):TE:=fun σ H Q=>wi σ H fun J H1=>∀ acc,H1 acc=none→tDCompN g tt tk tv J acc (blkσ own ix σ) H1 Q
theorem d_dictSet {X:Cx} {pins:List (Addr × Obj)} {σ:St} {H:Hp} {s:Shared} {a:Addr} {v:V} {u r:Value} {A:Around} {E:Value→Shared→Prop} {kvs:List (Key × V)} {k:Key} {Q:Unit→Shared→Prop} (I:Inv X pins σ H s)
  (e:H a=some (.dK kvs)) (ry:RelV (kV k) u) (rv:RelV v r) (l:kvs.length < sizeLine) (h:∀ s',Inv X pins σ (upd H a (.dK (putK kvs k v))) s'→Q () s'):wpAny (model X.prog X.w) A (dictSet a u r) Q E s:=by
 obtain ⟨z,hd,vs,rel,dd⟩:=dk_of I.hok e
 have z1:vs.length ≤ sizeLine:=by rw [← rel.length]; exact z
 have z2:(putK kvs k v).length ≤ sizeLine:=Nat.le_trans (length_putK kvs k v) l
 refine wpAny_dictSet_pairs (hsz:=z1) (kV_is ry) dd fun h' dd' hs=>h _ ?_
 have he:∃ q,h'.get? a=some q:=let ⟨q,_,_,hq,_⟩:=dd'; ⟨q,hq⟩
 exact d_write I (by rw [e]; exact True.intro) hs he (dk_new z2 hd (rel.put k rv) dd')
theorem dcomp_loop {prog:Program} {w:World} {A:Around} {R:Result→Shared→Prop} {s:Shared} {kx vx target iter:Expr} {ifs:List Expr} {scope:Scope} {pos:Pos} {it:Value} {D:Addr} {env:Env} (I:Nat→Shared→Prop)
  (turn:∀ n s,I n s→wpAny (model prog w) A (pyNext it) (fun r s₁=>match r with
   | none=>R (.ok .next) s₁
   | some v=>wpAny (model prog w) A (letOwnedTupleGo target it v) (fun _ s₁'=>wpAny (model prog w) A (assign target env v) (fun _ s₂ =>
     wpAny (model prog w) A (forIn ifs true fun c r=>if r=true then do let ok ← isTrue c env (eval c env); pure (ForInStep.yield ok) else pure (ForInStep.yield r)) (fun ok s₃ =>
      if ok=true then wpAny (model prog w) A (eval kx env) (fun kv s₄=>wpAny (model prog w) A (eval vx env) (fun vv s₅=>wpAny (model prog w) A (dictSet D kv vv) (fun _ s₆=>∃ m,m < n∧I m s₆) (fun _ _=>False) s₅)
       (fun _ _=>False) s₄) (fun _ _=>False) s₃ else ∃ m,m < n∧I m s₃) (fun _ _=>False) s₂) (fun _ _=>False) s₁') (fun _ _=>False) s₁) (fun _ _=>False) s)
  (n:Nat) (h:I n s):codeAny (model prog w) A (.compLoop (.DictComp kx vx [⟨target,iter,ifs,0⟩] scope pos) 0 it (.ref D) env) R s:=by
 refine codeAny_loop rfl I (fun n s hI=>?_) n h
 show wpAny _ A ((compTurn (.DictComp kx vx [⟨target,iter,ifs,0⟩] scope pos) 0 it (.ref D) env).onRaise (fun x=>do noteFrame x env; theTreesLotGoes x)) _ _ s
 refine wpAny_noted ?_
 rw [compTurn_dict]
 refine wpAny_bind (wpAny_standAt (wpAny_bind (wpAny_mono (turn n s hI) (fun r s₁ h₁=>?_) fun _ _ h'=>h'.elim)))
 cases r with
 | none=>exact wpAny_pure h₁
 | some v =>
  refine wpAny_bind (wpAny_mono h₁ (fun _ s₁' h₁'=>?_) fun _ _ h'=>h'.elim)
  refine wpAny_bind (wpAny_mono h₁' (fun _ s₂ h₂=>wpAny_bind (wpAny_mono h₂ (fun ok s₃ h₃=>?_) fun _ _ h'=>h'.elim)) fun _ _ h'=>h'.elim)
  cases ok with
  | false=>exact wpAny_pure ⟨rfl,h₃⟩
  | true =>
   exact wpAny_bind (wpAny_bind (wpAny_mono h₃ (fun kv s₄ h₄=>wpAny_bind (wpAny_holding (wpAny_mono h₄ (fun vv s₅ h₅=>wpAny_bind (wpAny_standAt (wpAny_holding (wpAny_mono h₅ (fun _ s₆ h₆=>wpAny_pure ⟨rfl,h₆⟩) fun _ _ z=>z.elim)))) fun _ _ z=>z.elim))) fun _ _ z=>z.elim))
section
variable {X:Cx} {scope:Scope} {own cap:List Str} {ix:List Nat} {tg iter kx vx:Expr} {ifs:List Expr} {wi:TI} {g:TG} {tt:TT} {tk tv:TE} {pos:Pos}
theorem dcomp_core {pins:List (Addr × Obj)} {σ:St} {H2:Hp} {s2:Shared} {it:Addr} {fp:List Addr} {tn:Nat→Heap→Prop} {J:It} {Q:VK} {RR:Value→Addr→Result→Shared→Prop} {E:Value→Shared→Prop}
  (B:BlkOk X scope own cap ix) (hc:X.calm=true)
  (hb:∀ C fp s H,PG (cxC X scope C (own ++ cap) fp s H) tg g∧PIfs (cxC X scope C (own ++ cap) fp s H) ifs tt∧PE (cxC X scope C (own ++ cap) fp s H) kx tk∧PE (cxC X scope C (own ++ cap) fp s H) vx tv)
  (I2:Inv X pins σ H2 s2) (T:Turn X.prog X.w X.K tg J fp it tn) (st2:tn 0 s2.heap) (f2:∀ b ∈ fp,FpOk X pins H2 b)
  (q:∀ acc,H2 acc=none→tDCompN g tt tk tv J acc (blkσ own.length ix σ) H2 Q)
  (hRR:∀ D C H' s' m,Inv X pins σ H' s'→Q (.ref D) H'→s'.heap.Ns C m→FpOk X pins H' C→RR (.ref D) C (.ok .next) s') :
  wpAny (model X.prog X.w) X.A newDict (fun acc s₃=>wpAny (model X.prog X.w) X.A (newFunctionEnv scope X.env.globals (cloF X.env scope.names []) [] X.env.qual none .none (some X.env)) (fun cenv s₄ =>
   codeAny (model X.prog X.w) X.A (.compStart (.DictComp kx vx [⟨tg,iter,ifs,0⟩] scope pos) 0 (.ref it) acc { cenv with scope:=relabel scope X.env }) (RR acc cenv.locals) s₄) E s₃) E s2:=by
 refine wpAny_newObj_type (newEnv_comp ?_)
 have I3:Inv X pins σ (upd H2 s2.heap.objs.size (.dK [])) { s2 with heap:=s2.heap.push { cls:=.type "dict",dict:=none,data:=.dict #[] } } :=
  I2.laid (a:=s2.heap.objs.size) (o:=.dK []) (h':=s2.heap.push { cls:=.type "dict",data:=.dict #[] }) (t':=s2.toks) (fun _ _ q=>Heap.get?_push_of_some _ q) (Nat.le_refl _) (dk_empty s2.heap I2.big)
 obtain ⟨W,⟨m0,w0⟩,turn⟩:=q s2.heap.objs.size I2.fresh
 generalize hD:s2.heap.objs.size=D at I3 w0 turn ⊢
 have hlt:∀ b ∈ fp,b < D:=fun b hbm=>by
  obtain ⟨o,e,_⟩:=T.obj 0 _ st2 b hbm
  rw [← hD]; exact Heap.lt_size e
 generalize hs3:({ s2 with heap:=s2.heap.push { cls:=.type "dict",dict:=none,data:=.dict #[] } }:Shared)=s3 at I3 ⊢
 have keep3:∀ b o,s2.heap.get? b=some o→s3.heap.get? b=some o:=fun b o e=>by rw [← hs3]; exact Heap.get?_push_of_some _ e
 have f3:∀ b ∈ fp,FpOk X pins (upd H2 D (.dK [])) b:=fun b hbm=>⟨by rw [jb5 (Nat.ne_of_lt (hlt b hbm))]; exact (f2 b hbm).1,(f2 b hbm).2⟩
 have o3:∀ b ∈ fp,∃ o,s3.heap.get? b=some o:=fun b hbm=>let ⟨o,e,_⟩:=T.obj 0 _ st2 b hbm; ⟨o,keep3 b o e⟩
 have I4:=I3.block B f3 o3
 have st4:tn 0 (pushCells (s3.heap.push { cls:=.type "dict",data:=.dict #[] }) scope.names):=T.keep 0 _ _ st2 fun b _ o e=>pushCells_keeps _ _ b o (Heap.get?_push_of_some _ (keep3 b o e))
 obtain ⟨hg,hif,hek,hev⟩:=hb s3.heap.objs.size fp s3 (upd H2 D (.dK []))
 generalize hX':cxC X scope s3.heap.objs.size (own ++ cap) fp s3 (upd H2 D (.dK []))=X' at I4 hg hif hek hev
 have eP:X'.prog=X.prog:=by rw [← hX']; rfl
 have eW:X'.w=X.w:=by rw [← hX']; rfl
 have eK:X'.K=X.K:=by rw [← hX']; rfl
 have eA:X'.A=X.A:=by rw [← hX']; rfl
 have eE:X'.env=compE scope s3.heap.objs.size X.env:=by rw [← hX']; rfl
 have ex:X'.xe=fun _ _=>False:=by rw [← hX']; rfl
 have hc':X'.calm=true:=by rw [← hX']; exact hc
 have stat:∀ {H':Hp},(∀ b ∈ fp,H' b=none)→∀ b ∈ fp,FpOk X' [] H' b:=fun hn b hbm=>by
  subst hX'
  exact ⟨hn b hbm,(I4.ok.exf b hbm).1,I4.ok.exfs b hbm,.inl hbm,(I4.ok.exf b hbm).2,fun p hp=>absurd (show p ∈ ([]:List (Addr × Obj)) from hp) (by simp)⟩
 have loop:∀ s4:Shared,s4={ s3 with heap:=pushCells (s3.heap.push { cls:=.type "dict",data:=.dict #[] }) scope.names } →
   codeAny (model X.prog X.w) X.A (.compLoop (.DictComp kx vx [⟨tg,iter,ifs,0⟩] scope pos) 0 (.ref it) (.ref D) (compE scope s3.heap.objs.size X.env)) (RR (.ref D) s3.heap.objs.size) s4:=by
  rintro s4 rfl
  refine dcomp_loop (fun n s'=>∃ i σ' H',Inv X' [] σ' H' s'∧tn i s'.heap∧(∀ b ∈ fp,H' b=none)∧W i n σ' H') ?_ m0 ⟨0,_,_,I4,st4,fun b hbm=>(f3 b hbm).1,w0⟩
  rintro n s5 ⟨i,σ5,H5,I5,st5,fr5,w5⟩
  rcases turn i n σ5 H5 w5 with ⟨stop,qn⟩ | ⟨go,N,hN,step⟩
  ·have:=T.done X' eP eW eK hc' i [] s5 σ5 H5 (fun _ _=>False) I5 (stat fr5) st5 stop
   rw [eA] at this
   refine thn this fun r s6 ⟨hr,I6⟩=>?_
   subst hr
   subst hX'
   have J6:Inv X pins σ H5 s6:=I3.call' (ch:=fp) I6.os I6.base I6.hok I6.bare fun b hbm=>⟨(f3 b hbm).2.2.2.1,(f3 b hbm).2.1,(f3 b hbm).2.2.2.2.1,(f3 b hbm).2.2.2.2.2⟩
   obtain ⟨m,hn,_⟩:=I6.loc
   exact hRR D _ H5 s6 m J6 qn hn (I3.fpOk (Nat.le_refl _) I6.free)
  ·have:=T.item X' eP eW eK hc' i [] s5 σ5 H5 (fun _ _=>False) I5 (stat fr5) st5 go
   rw [eA] at this
   refine thn this fun r s6 ⟨u,hr,h6⟩=>?_
   subst hr
   refine thn h6 fun _ s7 ⟨x,H7,I7,r7,y7,st7,fr7⟩=>?_
   have I7':=I7.pinned (stat fr7) (T.obj _ _ st7)
   have a1:=hg _ s7 σ5 H7 x u _ I7' r7 (step x H7 y7)
   rw [eP,eW,eA,eE,ex] at a1
   refine thn a1 fun _ s8 ⟨σ8,H8,I8,q8⟩=>?_
   have a2:=hif _ s8 σ8 H8 _ I8 q8
   rw [eP,eW,eA,eE,ex] at a2
   refine thn a2 fun b s9 ⟨H9,I9,q9⟩=>?_
   have again:∀ {s':Shared} {σ':St} {H':Hp},Inv X' ([] ++ pinsAt fp s7.heap) σ' H' s'→N σ' H'→∃ m,m < n∧∃ i σ' H',Inv X' [] σ' H' s'∧tn i s'.heap∧(∀ b ∈ fp,H' b=none)∧W i m σ' H':=fun {s' σ' H'} I' n'=>by
    obtain ⟨m',hm,w'⟩:=hN σ' H' n'
    refine ⟨m',hm,i + 1,σ',H',I'.unpinned,T.keep _ _ _ st7 fun b hbm o e=>(I'.pin (b,o) (List.mem_append_right _ (List.mem_append_right _ (jc8 hbm e)))).1,fun b hbm=>?_,w'⟩
    obtain ⟨o,e,d⟩:=T.obj _ _ st7 b hbm
    exact (I'.pin (b,o) (List.mem_append_right _ (List.mem_append_right _ (jc8 hbm e)))).2.1
   cases b with
   | false=>exact again I9 q9
   | true =>
    rw [if_pos rfl] at q9 ⊢
    have a3:=hek _ s9 σ8 H9 _ I9 q9
    rw [eP,eW,eA,eE,ex] at a3
    refine thn a3 fun kv s10 ⟨yk,H10,I10,r10,q10⟩=>?_
    have a4:=hev _ s10 σ8 H10 _ I10 q10
    rw [eP,eW,eA,eE,ex] at a4
    refine thn a4 fun vv s11 ⟨yv,H11,I11,r11,kvs,k,hk,ek,hz,q11⟩=>?_
    subst ek
    have a5:=d_dictSet (E:=fun _ _=>False) (A:=X.A) (Q:=fun _ s'=>∃ m,m < n∧∃ i σ' H',Inv X' [] σ' H' s'∧tn i s'.heap∧(∀ b ∈ fp,H' b=none)∧W i m σ' H') I11 hk r10 r11 hz fun s' I'=>again I' q11
    rw [eP,eW] at a5
    exact a5
 exact codeAny_compStart_dict (loop _ rfl) (T.self X.A 0 _ _ _ st4 (loop _ rfl))
theorem pe_dcomp (B:BlkOk X scope own cap ix) (hc:X.calm=true) (hi:PI X tg iter wi)
  (hb:∀ C fp s H,PG (cxC X scope C (own ++ cap) fp s H) tg g∧PIfs (cxC X scope C (own ++ cap) fp s H) ifs tt∧PE (cxC X scope C (own ++ cap) fp s H) kx tk∧PE (cxC X scope C (own ++ cap) fp s H) vx tv)
  (hs:∀ x,foldedSetIterable iter X.env x=pure x:=by intro _; rfl):PE X (.DictComp kx vx [⟨tg,iter,ifs,0⟩] scope pos) (tDComp wi g tt tk tv own.length ix):=by
 intro pins s σ H Q I h
 rw [arm_eval_DictComp]
 have has:∀ x ∈ scope.names,x.2=.free→(X.env.cells.lookup x.1).isSome=true:=fun x hx hk=>by
  obtain ⟨c,e⟩:=I.ok.has x.1 (B.frees x hx hk)
  rw [e]; rfl
 refine wpAny_comprehension_free (use:=none) rfl hs (jd4 has) B.kind B.names ?_
 show wpAny _ _ (eval iter X.env) _ _ s
 refine thn (hi pins s σ H _ I h) fun v s1 h1=>thn h1 fun itv s2 h2=>?_
 obtain ⟨it,fp,tn,J,H2,e,I2,T,st2,f2,q⟩:=h2
 subst e
 refine dcomp_core (RR:=fun acc C=>compPost (model X.prog X.w) X.A X.xe none (EP X pins σ Q) acc C) B hc hb I2 T st2 f2 q ?_
 intro D C H' s' m I' q' hn fC
 refine ⟨m,hn,fun h' hsb=>⟨.ref D,H',?_,rfl,q'⟩⟩
 exact I'.turned (t':=s'.toks) (it:=C) (fun b o hbC e=>(hsb.2 b hbC).trans e) fC.1 fC.2.1 fC.2.2.2.1 fC.2.2.2.2.1 fC.2.2.2.2.2
end
end L2
namespace L2
open PySem PySem.Spec PyProof.Rows
section
variable {X:Cx}
def viewOf (v a:Addr):HO:=.ext fun h=>h.IsValuesView v a
def rValues:V→List V→Hp→VK→Prop:=fun x xs H Q=>∃ a kvs,x=.ref a∧xs=[]∧H a=some (.dK kvs)∧∀ v,H v=none→Q (.ref v) (upd H v (viewOf v a))
theorem mt_values:MtR X "dict.values" rValues:=by
 intro pins s σ H x xs v us Q I r rs h
 obtain ⟨a,kvs,rfl,rfl,ha,q⟩:=h
 cases rs
 cases r
 obtain ⟨z,hd,vs,rel,dd⟩:=dk_of I.hok ha
 refine call_meetsIn PySem.F.slot_dict_values dd.typeIs PySem.F.entry_dict_values (PySem.F.args_dict_values_1 _) (meets_dict_values (jc4 X.prog X.w) a hd) ⟨⟨vs,dd⟩,?_⟩
 have hv:(s.heap.push { cls:=.type "dict_values",data:=.fields #[.ref a] }).IsValuesView s.heap.objs.size a:=⟨_,Heap.get?_push_size _ rfl,rfl,rfl⟩
 refine ⟨.ref s.heap.objs.size,_,I.laid (t':=s.toks) (o:=viewOf s.heap.objs.size a) (fun _ _ q=>Heap.get?_push_of_some _ q) (Nat.le_refl _) ⟨hv,⟨_,Heap.get?_push_size _ rfl⟩,fun h1 h2 w1 hk=>?_⟩,rfl,q _ I.fresh⟩
 obtain ⟨o,e,c⟩:=w1
 exact ⟨o,hk o e,c⟩
theorem dict_at {pins:List (Addr × Obj)} {σ:St} {H:Hp} {s:Shared} {a:Addr} {kvs:List (Key × V)} (I:Inv X pins σ H s) (ha:Rd H a (.dK kvs)) :
  kvs.length ≤ sizeLine∧(a == sysModules)=false∧∃ vs ep,KV kvs vs∧s.heap.DictAt (jc4 X.prog X.w) a vs ep:=by
 obtain ⟨z,hd,vs,rel,o,es,ep,r⟩:=dk_rd I.hok ha
 exact ⟨z,hd,vs,ep,rel,o,es,r⟩
theorem kv_vals:∀ {kvs:List (Key × V)} {vs:List (Key × Value)} {us:List Value},KV kvs vs→us.length=vs.length→(∀ (j:Nat) (v:Value),us[j]?=some v→∃ k,vs[j]?=some (k,v))→Vals (kvs.map (·.2)) us
 | _,_,us,.nil,hl,_=>by
  cases us with
  | nil=>exact .nil
  | cons _ _=>simp at hl
 | _,_,us,.cons h hs,hl,hu=>by
  cases us with
  | nil=>simp at hl
  | cons u us =>
   refine .cons ?_ (kv_vals hs (by simpa using hl) fun j v hj=>hu (j + 1) v (by simpa using hj))
   obtain ⟨k,e⟩:=hu 0 u rfl
   simp at e
   have:=h.2
   rw [e] at this
   exact this
theorem call_list_values (hc:X.calm=true):CallR X (.type "list") (fun xs H Q=>∃ v a kvs,xs=[.ref v]∧H v=some (viewOf v a)∧Rd H a (.dK kvs)∧∀ l,H l=none→Q (.ref l) (upd H l (.lst (kvs.map (·.2))))):=by
 intro pins s σ H xs us Q I r h
 obtain ⟨v,a,kvs,rfl,hv,ha,q⟩:=h
 obtain ⟨u,rfl,rx⟩:=vals1 r
 cases rx
 obtain ⟨z,hd,vs,ep,rel,at'⟩:=dict_at I ha
 have hview:s.heap.IsValuesView v a:=(I.hok v _ hv).1
 have hl:=rel.length
 refine PySem.W.kdl_call (PySem.W.kdl_values (knd:=jc4 X.prog X.w) (kvs:=vs) (ep:=ep) (r:=v) (d:=a)) (I.ok.hd hc) ⟨hview,at'⟩ (by rw [← hl]; exact z) fun h' tk acc c' hk hD hacc=>?_
 have hvs:Vals (kvs.map (·.2)) acc.toList:=kv_vals rel (by rw [Array.length_toList]; exact hacc.1) fun j x e=>hacc.2 j x (by rw [← Array.getElem?_toList]; exact e)
 refine ⟨.ref s.heap.objs.size,_,I.laid (t':=tk) (o:=.lst (kvs.map (·.2))) hk (Nat.le_refl _) ⟨by rw [List.length_map]; exact z,acc.toList,c',hvs,?_⟩,rfl,q _ I.fresh⟩
 simpa using hD
theorem Inv.freeze {pins:List (Addr × Obj)} {σ:St} {H:Hp} {s:Shared} {a:Addr} {kvs:List (Key × V)} {o:Obj} (I:Inv X pins σ H s) (ha:H a=some (.dK kvs)) (ho:s.heap.get? a=some o):Inv X pins σ (upd H a (.frz o (.dK kvs))) s:=by
 refine I.write (x:=a) (e:=a) (t':=s.toks) (h':=s.heap) (by rw [ha]; exact True.intro) (.inl rfl) (fun _ _ _ e=>e) ⟨o,ho⟩ ⟨ho,?_⟩
 obtain ⟨z,hd,vs,rel,dd⟩:=dk_of I.hok ha
 exact ⟨z,hd,vs,rel,dd⟩
theorem kV_rel {k:Key} {v:Value} (h:keyIs k v=true):RelV (kV k) v:=by
 rcases jd1 h with ⟨i,t,rfl,rfl⟩ | ⟨x,t,rfl,rfl⟩
 ·exact ⟨t,rfl⟩
 ·exact ⟨t,rfl⟩
def Itd (a:Addr) (o:Obj) (kvs:List (Key × V)):It :=
 ⟨fun i H=>H a=some (.frz o (.dK kvs))∧i < kvs.length,fun i H x H'=>H'=H∧∃ k v,kvs[i]?=some (k,v)∧x=kV k,fun i H=>H a=some (.frz o (.dK kvs))∧kvs.length ≤ i⟩
theorem dict_frz {pins:List (Addr × Obj)} {σ:St} {H:Hp} {s:Shared} {a:Addr} {o:Obj} {es0:Array DictEntry} {ep:Nat} {kvs:List (Key × V)} (I:Inv X pins σ H s) (hg:H a=some (.frz o (.dK kvs))) (hep:o.data=.dict es0 ep) :
  ∃ vs,KV kvs vs∧vs.length=kvs.length∧s.heap.DictAt (jc4 X.prog X.w) a vs ep:=by
 obtain ⟨z,hd,vs,ep',rel,o',es,ho',r⟩:=dict_at I (.inr ⟨o,hg⟩)
 obtain ⟨ho,_⟩:=I.hok a _ hg
 have:o'=o:=by rw [ho] at ho'; exact (Option.some.inj ho').symm
 subst this
 have h2:=r.2.1
 rw [hep] at h2
 injection h2 with _ h2
 subst h2
 exact ⟨vs,rel,rel.length.symm,o',es,ho',r⟩
theorem turn_dict {P:Program} {w:World} {K:PySem.W.Frag} {tg:Expr} (a it:Addr) (o:Obj) (kvs:List (Key × V)) (es0:Array DictEntry) (ep:Nat) (hep:o.data=.dict es0 ep):Turn P w K tg (Itd a o kvs) [it] it (fun i h=>h.IsKeyIter it a i kvs.length ep) where
 mem:=by simp
 obj:=fun i h st b hb=>by
  obtain rfl:b=it:=by simpa using hb
  obtain ⟨o',e,c,d⟩:=st
  exact ⟨o',e,fun v z=>by rw [d] at z; cases z⟩
 keep:=fun i h h' st k=>st.at fun o e=>k it (by simp) o e
 item:=by
  intro X hP hw hK hc i pins s σ H E I hf st hg
  subst hP hw hK
  obtain ⟨hg,hi⟩:=hg
  obtain ⟨vs,rel,hl,at'⟩:=dict_frz I hg hep
  obtain ⟨f0,f1,f2,f3,f4,f5⟩:=hf it (by simp)
  obtain ⟨⟨k,v⟩,hkv⟩:∃ p,vs[i]?=some p:=⟨vs[i],by simp [show i < vs.length by omega]⟩
  refine wpAny_pyNext_dict_item (by rw [hl]; exact st) at' hkv fun key h' hkey st' sb=>?_
  have I1:Inv X pins σ H { s with heap:=h' }:=I.turned (t':=s.toks) (fun b o hb e=>(sb.2 b hb).trans e) f0 f1 f3 f4 f5
  rw [hl] at st'
  obtain ⟨o1,e1,c1,d1⟩:=id st'
  have hkk:∃ v',kvs[i]?=some (k,v'):=by
   have e2:=rel.keys
   have e3:=congrArg (fun l=>l[i]?) e2
   simp only [List.getElem?_map,hkv,Option.map_some] at e3
   cases e4:kvs[i]? with
   | none=>rw [e4] at e3; cases e3
   | some p =>
    rw [e4] at e3
    simp only [Option.map_some,Option.some.injEq] at e3
    exact ⟨p.2,by rw [← e3]⟩
  obtain ⟨v',hv'⟩:=hkk
  exact ⟨key,rfl,go_of (s:={ s with heap:=h' }) e1 c1 d1 (by decide) ⟨kV k,H,I1,kV_rel hkey,⟨rfl,k,v',hv',rfl⟩,st',fun b hb=>(hf b hb).1⟩⟩
 done:=by
  intro X hP hw hK hc i pins s σ H E I hf st hg
  subst hP hw hK
  obtain ⟨hg,hi⟩:=hg
  obtain ⟨vs,rel,hl,at'⟩:=dict_frz I hg hep
  obtain ⟨f0,f1,f2,f3,f4,f5⟩:=hf it (by simp)
  exact wpAny_pyNext_dict_end (I.ok.hd hc) (by rw [hl]; exact st) at' (by simp; omega) fun h' eb=>⟨rfl,I.turned (t':=s.toks) (fun b o hb e=>eb b o hb e) f0 f1 f3 f4 f5⟩
 self:=fun _ _ _ _ _ st h=>wpAny_pyIter_keyiter st h
def iDict (td:TE):TI:=fun σ H R=>td σ H fun x H1=>∃ a kvs,x=.ref a∧H1 a=some (.dK kvs)∧∀ o,R (Itd a o kvs) (upd H1 a (.frz o (.dK kvs)))
theorem pi_dict {tg l:Expr} {td:TE} (hl:PE X l td):PI X tg l (iDict td):=by
 intro pins s σ H R I h
 refine thn (hl pins s σ H _ I h) fun v s1 ⟨x,H1,I1,r1,q1⟩=>?_
 obtain ⟨a,kvs,e,ha,q⟩:=q1
 subst e
 cases r1
 obtain ⟨z,hd,vs,ep,rel,o,es,ho,r⟩:=dict_at I1 (.inl ha)
 have at':s1.heap.DictAt (jc4 X.prog X.w) a vs ep:=⟨o,es,ho,r⟩
 refine wpAny_pyIter_dict hd at' ?_
 have I2:=I1.freeze ha ho
 have hl2:=rel.length
 refine ⟨s1.heap.objs.size,[s1.heap.objs.size],_,Itd a o kvs,_,rfl,I2.kept (t':=s1.toks) fun b o e=>Heap.get?_push_of_some _ e,turn_dict a _ o kvs es ep r.2.1,⟨_,Heap.get?_push_size _ rfl,rfl,by rw [hl2]; rfl⟩,fun b hb=>?_,q o⟩
 obtain rfl:b=s1.heap.objs.size:=by simpa using hb
 exact I2.fpOk (Nat.le_refl _) (I2.hok.fresh (Nat.le_refl _))
end
end L2
namespace PySem
theorem upd_pair {prog:Program} {w:World} {A:Around} {E:Value→Shared→Prop} {s:Shared} {T:Addr} {a b x:Value} {k:Nat} {Q:Unit→Shared→Prop} (hT:IsPair s.heap T a b)
  (q:∀ g,g.get? T=some { cls:=.type "tuple",data:=.seq ((#[a,b]:Array Value).setIfInBounds k x) }→Heap.SameBut T s.heap g→Q () { s with heap:=g }):wpAny (model prog w) A (updateSeq T (·.setIfInBounds k x)) Q E s :=
 wpAny_updateSeq_pair hT q
section
variable {prog:Program} {w:World} {A:Around} {E:Value→Shared→Prop} {s:Shared} {z TI TO i1 i2 l1 l2:Addr} {k1 k2:Nat} {xs ys:Array Value} {x y a b:Value}
theorem jf0 {h g:Heap} {it l c:Addr} {i:Nat} (t:h.IsTupleIter it l i) (sb:Heap.ExtBut c h g) (ne:it ≠ c):g.IsTupleIter it l i:=let ⟨o,e,r⟩:=t; ⟨o,sb it o ne e,r⟩
theorem tup_but {h g:Heap} {l c:Addr} {v:Array Value} (t:h.IsTuple l v) (sb:Heap.ExtBut c h g) (ne:l ≠ c):g.IsTuple l v:=let ⟨o,e,r⟩:=t; ⟨o,sb l o ne e,r⟩
theorem zipT_next {Q:Value→Shared→Prop} (D:ZipApart z TI TO i1 i2 l1 l2) (hz:IsZip s.heap z TI TO .none) (pI:IsPair s.heap TI (.ref i1) (.ref i2)) (pO:IsPair s.heap TO a b)
  (t1:s.heap.IsTupleIter i1 l1 k1) (t2:s.heap.IsTupleIter i2 l2 k2) (u1:s.heap.IsTuple l1 xs) (u2:s.heap.IsTuple l2 ys) (hx:xs[k1]?=some x) (hy:ys[k2]?=some y)
  (q:∀ g,IsZip g z TI TO (rawInt s.heap.objs.size)→IsPair g TO x y→g.IsTupleIter i1 l1 (k1 + 1)→g.IsTupleIter i2 l2 (k2 + 1)→IsPair g s.heap.objs.size x y →
   (∀ c o,c ≠ z→c ≠ TO→c ≠ i1→c ≠ i2→s.heap.get? c=some o→g.get? c=some o)→Q (.ref s.heap.objs.size) { s with heap:=g }) :
  wpAny (model prog w) A (Builtin.«zip.__next__» ⟨[.ref z],[]⟩) (fun fin s'=>∃ v,fin=.done (.ret v)∧Q v s') E s:=by
 show wpAny _ _ (field (.ref z) 2 >>= _) _ _ _; refine wpAny_bind (wpAny_field hz rfl (x:=.bool false) rfl ?_)
 show wpAny _ _ (field (.ref z) 3 >>= _) _ _ _; refine wpAny_bind (wpAny_field hz rfl (x:=.ref TI) rfl (wpAny_bind (wpAny_seqItems pI rfl ?_)))
 show wpAny _ _ (Builtin.SmallTypes.ownedTupleIsFree (.ref z) >>= _) _ _ _; refine wpAny_bind ?_; unfold Builtin.SmallTypes.ownedTupleIsFree
 refine wpAny_bind (wpAny_field hz rfl (x:=.none) rfl (wpAny_pure ?_)); simp only [if_true]
 refine wpAny_bind (wpAny_rule (wpAny_bind (wpAny_field hz rfl (x:=.ref TO) rfl ?_)))
 refine wpAny_bind (wpAny_setField_rec hz (by simp) fun g1 z1 b1=>?_); replace z1:IsZip g1 z TI TO .ellipsis:=z1; refine wpAny_bind ?_
 simp only [List.zipIdx_cons,List.zipIdx_nil,List.forIn_cons,List.forIn_nil]; refine wpAny_bind (wpAny_bind (wpAny_onRaise ?_))
 show wpAny _ _ (Builtin.SmallTypes.nextOf (.ref i1) >>= _) _ _ _; refine wpAny_bind (jf2 (jf0 t1 b1.extBut D.i1z) (tup_but u1 b1.extBut D.l1z) hx fun g2 n1 b2=>wpAny_pure ?_)
 have o2:IsPair g2 TO a b:=b2.extBut _ _ D.TOi1 (b1.extBut _ _ D.TOz pO)
 refine wpAny_bind (wpAny_seqItems o2 rfl (wpAny_bind (upd_pair o2 fun g3 o3 b3=>wpAny_bind (wpAny_letGo (wpAny_pure ?_)))))
 replace o3:IsPair g3 TO x b:=o3
 refine wpAny_bind (wpAny_bind (wpAny_onRaise ?_)); show wpAny _ _ (Builtin.SmallTypes.nextOf (.ref i2) >>= _) _ _ _
 refine wpAny_bind (jf2 (jf0 (jf0 (jf0 t2 b1.extBut D.i2z) b2.extBut D.i12.symm) b3.extBut D.TOi2.symm) (tup_but (tup_but (tup_but u2 b1.extBut D.l2z) b2.extBut D.l2i1) b3.extBut D.l2TO) hy fun g4 n2 b4=>wpAny_pure ?_)
 have o4:IsPair g4 TO x b:=b4.extBut _ _ D.TOi2 o3
 refine wpAny_bind (wpAny_seqItems o4 rfl (wpAny_bind (upd_pair o4 fun g5 o5 b5=>wpAny_bind (wpAny_letGo (wpAny_pure (wpAny_pure ?_))))))
 replace o5:IsPair g5 TO x y:=o5
 refine wpAny_bind (wpAny_seqItems o5 rfl (wpAny_bind (wpAny_newTuple ?_)))
 have sz:g5.objs.size=s.heap.objs.size:=by rw [b5.1,b4.1,b3.1,b2.1,b1.1]
 have z5:IsZip g5 z TI TO .ellipsis:=b5.extBut _ _ D.TOz.symm (b4.extBut _ _ D.i2z.symm (b3.extBut _ _ D.TOz.symm (b2.extBut _ _ D.i1z.symm z1)))
 have k5:∀ c o,c ≠ z→c ≠ TO→c ≠ i1→c ≠ i2→s.heap.get? c=some o→g5.get? c=some o:=fun c o e1 e2 e3 e4 e=>b5.extBut _ _ e2 (b4.extBut _ _ e4 (b3.extBut _ _ e2 (b2.extBut _ _ e3 (b1.extBut _ _ e1 e))))
 have m1:g5.IsTupleIter i1 l1 (k1 + 1):=jf0 (jf0 (jf0 n1 b3.extBut D.TOi1.symm) b4.extBut D.i12) b5.extBut D.TOi1.symm
 have m2:g5.IsTupleIter i2 l2 (k2 + 1):=jf0 n2 b5.extBut D.TOi2.symm
 have zlt:z < g5.objs.size:=Heap.lt_size z5
 show wpAny _ _ (Builtin.SmallTypes.ownedTupleHandOut (.ref z) (.ref g5.objs.size) >>= _) _ _ _; refine wpAny_bind ?_; unfold Builtin.SmallTypes.ownedTupleHandOut
 have z6:IsZip (g5.push { cls:=.type "tuple",data:=.seq #[x,y] }) z TI TO .ellipsis:=Heap.get?_push_of_some _ z5
 refine wpAny_bind (wpAny_setField_rec z6 (by simp) fun g7 z7 b7=>?_); replace z7:IsZip g7 z TI TO (rawInt g5.objs.size):=z7
 refine wpAny_setField_rec z7 (by simp) fun g8 z8 b8=>?_; replace z8:IsZip g8 z TI TO (rawInt g5.objs.size):=z8
 have up:∀ c o,c ≠ z→g5.get? c=some o→g8.get? c=some o:=fun c o e1 e=>b8.extBut _ _ e1 (b7.extBut _ _ e1 (Heap.get?_push_of_some _ e))
 have p8:IsPair g8 g5.objs.size x y:=b8.extBut _ _ (Nat.ne_of_gt zlt) (b7.extBut _ _ (Nat.ne_of_gt zlt) (Heap.get?_push_size _ rfl))
 rw [sz] at z8 p8
 refine wpAny_pure ⟨_,rfl,?_⟩; show Q (.ref g5.objs.size) _; rw [sz]
 exact q g8 z8 (up _ _ D.TOz o5) (let ⟨o,e,r⟩:=m1; ⟨o,up _ o D.i1z e,r⟩) (let ⟨o,e,r⟩:=m2; ⟨o,up _ o D.i2z e,r⟩) p8 fun c o e1 e2 e3 e4 e=>up c o e1 (k5 c o e1 e2 e3 e4 e)
theorem zipT_stop {Q:Fin→Shared→Prop} (hh:A.handled=none) (D:ZipApart z TI TO i1 i2 l1 l2) (hz:IsZip s.heap z TI TO .none) (pI:IsPair s.heap TI (.ref i1) (.ref i2)) (pO:IsPair s.heap TO a b)
  (t1:s.heap.IsTupleIter i1 l1 k1) (t2:s.heap.IsTupleIter i2 l2 k2) (u1:s.heap.IsTuple l1 xs) (u2:s.heap.IsTuple l2 ys) (hx:xs[k1]?=none)
  (q:∀ g e,(∀ c o,c ≠ z→c ≠ TO→c ≠ i1→c ≠ i2→s.heap.get? c=some o→g.get? c=some o)→(∃ o,g.get? e=some o∧o.cls=.type "StopIteration")→E (.ref e) { s with heap:=g }) :
  wpAny (model prog w) A (Builtin.«zip.__next__» ⟨[.ref z],[]⟩) Q E s:=by
 show wpAny _ _ (field (.ref z) 2 >>= _) _ _ _; refine wpAny_bind (wpAny_field hz rfl (x:=.bool false) rfl ?_)
 show wpAny _ _ (field (.ref z) 3 >>= _) _ _ _; refine wpAny_bind (wpAny_field hz rfl (x:=.ref TI) rfl (wpAny_bind (wpAny_seqItems pI rfl ?_)))
 show wpAny _ _ (Builtin.SmallTypes.ownedTupleIsFree (.ref z) >>= _) _ _ _; refine wpAny_bind ?_; unfold Builtin.SmallTypes.ownedTupleIsFree
 refine wpAny_bind (wpAny_field hz rfl (x:=.none) rfl (wpAny_pure ?_)); simp only [if_true]
 refine wpAny_bind (wpAny_rule (wpAny_bind (wpAny_field hz rfl (x:=.ref TO) rfl ?_)))
 refine wpAny_bind (wpAny_setField_rec hz (by simp) fun g1 z1 b1=>?_); replace z1:IsZip g1 z TI TO .ellipsis:=z1; refine wpAny_bind ?_
 simp only [List.zipIdx_cons,List.zipIdx_nil,List.forIn_cons,List.forIn_nil]; refine wpAny_bind (wpAny_bind (wpAny_onRaise ?_))
 show wpAny _ _ (Builtin.SmallTypes.nextOf (.ref i1) >>= _) _ _ _
 refine wpAny_bind (jf8 hh (jf0 t1 b1.extBut D.i1z) (tup_but u1 b1.extBut D.l1z) hx fun g2 e b2 ⟨oe,he,ce⟩=>?_)
 have z2:IsZip g2 z TI TO .ellipsis:=b2 _ _ D.i1z.symm z1
 have ez:e ≠ z:=fun h=>by subst h; rw [z2] at he; cases he; simp at ce
 exact wpAny_setField_rec z2 (by simp) fun g3 _ b3=>q g3 e (fun c o e1 _ e3 _ h=>b3.extBut _ _ e1 (b2 _ _ e3 (b1.extBut _ _ e1 h))) ⟨oe,b3.extBut _ _ ez he,ce⟩
theorem pyNext_zipT {Q:Option Value→Shared→Prop} (D:ZipApart z TI TO i1 i2 l1 l2) (hz:IsZip s.heap z TI TO .none) (pI:IsPair s.heap TI (.ref i1) (.ref i2)) (pO:IsPair s.heap TO a b)
  (t1:s.heap.IsTupleIter i1 l1 k1) (t2:s.heap.IsTupleIter i2 l2 k2) (u1:s.heap.IsTuple l1 xs) (u2:s.heap.IsTuple l2 ys) (hx:xs[k1]?=some x) (hy:ys[k2]?=some y)
  (q:∀ g,IsZip g z TI TO (rawInt s.heap.objs.size)→IsPair g TO x y→g.IsTupleIter i1 l1 (k1 + 1)→g.IsTupleIter i2 l2 (k2 + 1)→IsPair g s.heap.objs.size x y →
   (∀ c o,c ≠ z→c ≠ TO→c ≠ i1→c ≠ i2→s.heap.get? c=some o→g.get? c=some o)→Q (some (.ref s.heap.objs.size)) { s with heap:=g }):wpAny (model prog w) A (pyNext (.ref z)) Q E s:=by
 have ty:s.TypeIs (.ref z) "zip":=⟨_,hz,rfl⟩
 unfold pyNext
 exact wpAny_bind (wpAny_attempt (wpAny_callSpecial?_slot (name:=Str.ofString "__next__") ty F.slot_zip_next (wpAny_call_entry F.slot_zip_next ty F.entry_zip_next
  (zipT_next D hz pI pO t1 t2 u1 u2 hx hy fun g a1 a2 a3 a4 a5 a6=>wpAny_pure (q g a1 a2 a3 a4 a5 a6)) (F.args_zip_next_1 _))))
theorem pyNext_zipT_end {Q:Option Value→Shared→Prop} (hh:A.handled=none) (D:ZipApart z TI TO i1 i2 l1 l2) (hz:IsZip s.heap z TI TO .none) (pI:IsPair s.heap TI (.ref i1) (.ref i2)) (pO:IsPair s.heap TO a b)
  (t1:s.heap.IsTupleIter i1 l1 k1) (t2:s.heap.IsTupleIter i2 l2 k2) (u1:s.heap.IsTuple l1 xs) (u2:s.heap.IsTuple l2 ys) (hx:xs[k1]?=none)
  (q:∀ g,(∀ c o,c ≠ z→c ≠ TO→c ≠ i1→c ≠ i2→s.heap.get? c=some o→g.get? c=some o)→Q none { s with heap:=g }):wpAny (model prog w) A (pyNext (.ref z)) Q E s:=by
 have ty:s.TypeIs (.ref z) "zip":=⟨_,hz,rfl⟩
 unfold pyNext
 exact wpAny_bind (wpAny_attempt (wpAny_callSpecial?_slot (name:=Str.ofString "__next__") ty F.slot_zip_next (wpAny_call_entry F.slot_zip_next ty F.entry_zip_next
  (zipT_stop hh D hz pI pO t1 t2 u1 u2 hx fun g e hk ⟨o,ho,hc⟩=>wpAny_bind (wpAny_isInstance (T:="StopIteration") (b:=true) ⟨o,ho,hc⟩ isSubtype_stop (wpAny_pure (q _ hk)))) (F.args_zip_next_1 _))))
end
abbrev zpA (h:Heap) (l1:Addr):Heap:=h.push { cls:=.type "tuple_iterator",data:=.fields #[.ref l1,.int 0 0] }
abbrev zpB (h:Heap) (l1 l2:Addr):Heap:=(zpA h l1).push { cls:=.type "tuple_iterator",data:=.fields #[.ref l2,.int 0 0] }
abbrev zpC (h:Heap) (l1 l2:Addr):Heap:=(zpB h l1 l2).push { cls:=.type "tuple",data:=.seq #[.ref h.objs.size,.ref (zpA h l1).objs.size] }
abbrev zpD (h:Heap) (l1 l2:Addr):Heap:=(zpC h l1 l2).push { cls:=.type "tuple",data:=.seq #[.none,.none] }
abbrev zpE (h:Heap) (l1 l2:Addr):Heap:=(zpD h l1 l2).push { cls:=.type "zip",data:=.fields #[.none,.bool false,.bool false,.ref (zpB h l1 l2).objs.size,.ref (zpC h l1 l2).objs.size] }
theorem meets_zipT (l1 l2:Addr) (xs ys:Array Value):Meets (Builtin.«zip.__new__» ⟨[.type "zip",.ref l1,.ref l2],[]⟩) (fun _ R s=>s.heap.IsTuple l1 xs∧s.heap.IsTuple l2 ys∧R (.ok (.ret (.ref (zpD s.heap l1 l2).objs.size))) { s with heap:=zpE s.heap l1 l2 }) :=
 .of_wp fun prog w A R s h=>by
  obtain ⟨hp,g,d,tk,os⟩:=s; obtain ⟨v1,v2,h⟩:=h
  have hsub:=sub_zip
  have w1:Heap.IsTuple (Shared.heap ⟨hp,g,d,tk,os⟩) l1 xs:=v1
  have w2:Heap.IsTuple (Shared.heap ⟨zpA hp l1,g,d,tk,os⟩) l2 ys:=let ⟨o,e,r⟩:=v2; ⟨o,Heap.get?_push_of_some _ e,r⟩
  wp_walk using wpAny_pyIter_tuple w1,wpAny_pyIter_tuple w2
  exact ⟨_,rfl,h⟩
theorem call_zipT {prog:Program} {w:World} {A:Around} {E:Value→Shared→Prop} {s:Shared} {l1 l2:Addr} {xs ys:Array Value} {Q:Value→Shared→Prop} (v1:s.heap.IsTuple l1 xs) (v2:s.heap.IsTuple l2 ys)
  (q:∀ g,IsZip g (s.heap.objs.size + 4) (s.heap.objs.size + 2) (s.heap.objs.size + 3) .none→IsPair g (s.heap.objs.size + 2) (.ref s.heap.objs.size) (.ref (s.heap.objs.size + 1))→IsPair g (s.heap.objs.size + 3) .none .none →
   g.IsTupleIter s.heap.objs.size l1 0→g.IsTupleIter (s.heap.objs.size + 1) l2 0→(∀ c o,s.heap.get? c=some o→g.get? c=some o)→Q (.ref (s.heap.objs.size + 4)) { s with heap:=g }):wpAny (model prog w) A (call (.type "zip") [.ref l1,.ref l2]) Q E s:=by
 refine callType_new F.called_zip (by decide) (F.typeCall_zip_2 _ _) (F.newCall_zip_2 _ _) (fun obj=>F.args_object_init_3 obj _ _) F.entry_zip_new (meets_zipT l1 l2 xs ys) ⟨v1,v2,?_⟩
 have e1:(zpA s.heap l1).objs.size=s.heap.objs.size + 1:=Heap.size_push ..
 have e2:(zpB s.heap l1 l2).objs.size=s.heap.objs.size + 2:=by rw [Heap.size_push,e1]
 have e3:(zpC s.heap l1 l2).objs.size=s.heap.objs.size + 3:=by rw [Heap.size_push,e2]
 have e4:(zpD s.heap l1 l2).objs.size=s.heap.objs.size + 4:=by rw [Heap.size_push,e3]
 have p5:(zpE s.heap l1 l2).get? (zpD s.heap l1 l2).objs.size=some _:=Heap.get?_push_size _ rfl
 have p4:(zpE s.heap l1 l2).get? (zpC s.heap l1 l2).objs.size=some _:=Heap.get?_push_of_some _ (Heap.get?_push_size _ rfl)
 have p3:(zpE s.heap l1 l2).get? (zpB s.heap l1 l2).objs.size=some _:=Heap.get?_push_of_some _ (Heap.get?_push_of_some _ (Heap.get?_push_size _ rfl))
 have p2:(zpE s.heap l1 l2).get? (zpA s.heap l1).objs.size=some _:=Heap.get?_push_of_some _ (Heap.get?_push_of_some _ (Heap.get?_push_of_some _ (Heap.get?_push_size _ rfl)))
 have p1:(zpE s.heap l1 l2).get? s.heap.objs.size=some _:=Heap.get?_push_of_some _ (Heap.get?_push_of_some _ (Heap.get?_push_of_some _ (Heap.get?_push_of_some _ (Heap.get?_push_size _ rfl))))
 show _∧_; rw [e2,e3,e4] at p5; rw [e1,e2] at p3; rw [e3] at p4; rw [e1] at p2; rw [e4]
 exact ⟨⟨_,p5,rfl⟩,q _ p5 p3 p4 ⟨_,p1,rfl,rfl⟩ ⟨_,p2,rfl,rfl⟩ fun c o h=>Heap.get?_push_of_some _ (Heap.get?_push_of_some _ (Heap.get?_push_of_some _ (Heap.get?_push_of_some _ (Heap.get?_push_of_some _ h))))⟩
end PySem
namespace L2
open PySem PySem.Spec PyProof.Rows
section
variable {X:Cx}
def Itz (K:PySem.W.Frag) (a b:Addr):It :=
 ⟨fun i H=>∃ xs ys x y,SqT K H a xs∧SqT K H b ys∧xs[i]?=some x∧ys[i]?=some y,
  fun i H v H'=>∃ p,H p=none∧v=.ref p∧∀ xs ys,SqT K H a xs→SqT K H b ys→∃ x y,xs[i]?=some x∧ys[i]?=some y∧H'=upd H p (.tup [x,y]),
  fun i H=>∃ xs ys,SqT K H a xs∧SqT K H b ys∧xs.length ≤ i⟩
theorem turn_zip {P:Program} {w:World} {K:PySem.W.Frag} {elts:List Expr} {kk} {pos:Pos} (a b z TI TO i1 i2:Addr) (D:ZipApart z TI TO i1 i2 a b) :
  Turn P w K (.Tuple elts kk pos) (Itz K a b) [z,TI,TO,i1,i2] z (fun i h=>IsZip h z TI TO .none∧IsPair h TI (.ref i1) (.ref i2)∧(∃ u v,IsPair h TO u v)∧h.IsTupleIter i1 a i∧h.IsTupleIter i2 b i) where
 mem:=by simp
 obj:=fun i h st c hc=>by
  obtain ⟨hz,pI,⟨u,v,pO⟩,⟨o1,e1,c1,d1⟩,o2,e2,c2,d2⟩:=st
  simp only [List.mem_cons,List.not_mem_nil,or_false] at hc
  rcases hc with rfl | rfl | rfl | rfl | rfl
  ·exact ⟨_,hz,fun v z=>by cases z⟩
  ·exact ⟨_,pI,fun v z=>by cases z⟩
  ·exact ⟨_,pO,fun v z=>by cases z⟩
  ·exact ⟨o1,e1,fun v z=>by rw [d1] at z; cases z⟩
  ·exact ⟨o2,e2,fun v z=>by rw [d2] at z; cases z⟩
 keep:=fun i h h' st k=>by
  obtain ⟨hz,pI,⟨u,v,pO⟩,⟨o1,e1,r1⟩,o2,e2,r2⟩:=st
  exact ⟨k z (by simp) _ hz,k TI (by simp) _ pI,⟨u,v,k TO (by simp) _ pO⟩,⟨o1,k i1 (by simp) _ e1,r1⟩,o2,k i2 (by simp) _ e2,r2⟩
 item:=by
  intro X hP hw hK hc i pins s σ H E I hf st hg
  subst hP hw hK
  obtain ⟨xs,ys,x,y,hq1,hq2,hx,hy⟩:=hg
  obtain ⟨us,ru,pu,zu⟩:=I.tuple hq1
  obtain ⟨vs,rv,pv,zv⟩:=I.tuple hq2
  obtain ⟨u,hu,rxu⟩:=ru.get hx
  obtain ⟨v,hv,ryv⟩:=rv.get hy
  obtain ⟨hz,pI,⟨u0,v0,pO⟩,t1,t2⟩:=st
  refine pyNext_zipT D hz pI pO t1 t2 (show s.heap.IsTuple a us.toArray from pu) (show s.heap.IsTuple b vs.toArray from pv) (x:=u) (y:=v) (by simpa using hu) (by simpa using hv) fun g z1 o1 n1 n2 p1 hk=>?_
  refine ⟨_,rfl,?_⟩
  refine wpAny_letOwnedTupleGo_zip z1 fun g2 z2 b2=>?_
  replace b2:Heap.SameBut z g g2:=b2
  have lt:∀ {c o},s.heap.get? c=some o→s.heap.objs.size ≠ c:=fun e=>Nat.ne_of_gt (Heap.lt_size e)
  have hne:s.heap.objs.size ≠ z:=lt hz
  have I1:Inv X pins σ H { s with heap:=g2,toks:=s.toks }:=I.turnedL (ch:=[z,TI,TO,i1,i2]) (fun c o hc q=>by
   have c1:c ≠ z:=fun h=>hc (by simp [h])
   exact b2.extBut c o c1 (hk c o c1 (fun h=>hc (by simp [h])) (fun h=>hc (by simp [h])) (fun h=>hc (by simp [h])) q)) hf
  have p2:=b2.extBut _ _ hne p1
  have fp:FpOk X pins H s.heap.objs.size:=I.fpOk (Nat.le_refl _) I.fresh
  have I2:=I1.track (p:=s.heap.objs.size) (o:=.tup [x,y]) fp ⟨by show 2 ≤ sizeLine; decide,[u,v],.cons rxu (.cons ryv .nil),⟨_,p2,rfl,_,rfl⟩⟩
  refine ⟨.ref s.heap.objs.size,_,I2,rfl,⟨_,I.fresh,rfl,fun ys1 ys2 h1 h2=>?_⟩,⟨z2,b2.extBut _ _ D.TIz (hk _ _ D.TIz D.TITO D.TIi1 D.TIi2 pI),⟨_,_,b2.extBut _ _ D.TOz o1⟩,jf0 n1 b2.extBut D.i1z,jf0 n2 b2.extBut D.i2z⟩,fun c hc=>?_⟩
  ·rw [I.tuple_inj h1 hq1,I.tuple_inj h2 hq2]; exact ⟨x,y,hx,hy,rfl⟩
  ·rw [jb5]
   ·exact (hf c hc).1
   ·simp only [List.mem_cons,List.not_mem_nil,or_false] at hc
    rcases hc with rfl | rfl | rfl | rfl | rfl
    ·exact hne.symm
    ·exact (lt pI).symm
    ·exact (lt pO).symm
    ·obtain ⟨_,e,_⟩:=t1; exact (lt e).symm
    ·obtain ⟨_,e,_⟩:=t2; exact (lt e).symm
 done:=by
  intro X hP hw hK hc i pins s σ H E I hf st hg
  subst hP hw hK
  obtain ⟨xs,ys,hq1,hq2,hx⟩:=hg
  obtain ⟨us,ru,pu,zu⟩:=I.tuple hq1
  obtain ⟨vs,rv,pv,zv⟩:=I.tuple hq2
  obtain ⟨hz,pI,⟨u0,v0,pO⟩,t1,t2⟩:=st
  have hl:=ru.length
  exact pyNext_zipT_end (I.ok.hd hc) D hz pI pO t1 t2 (show s.heap.IsTuple a us.toArray from pu) (show s.heap.IsTuple b vs.toArray from pv) (by simp; omega) fun g hk =>
   ⟨rfl,I.turnedL (t':=s.toks) (ch:=[z,TI,TO,i1,i2]) (fun c o hc q=>hk c o (fun h=>hc (by simp [h])) (fun h=>hc (by simp [h])) (fun h=>hc (by simp [h])) (fun h=>hc (by simp [h])) q) hf⟩
 self:=fun A i s Q E st h=>wpAny_pyIter_zip st.1 h
def iZip (K:PySem.W.Frag) (ta:TA):TI:=fun σ H R=>ta σ H fun vs H1=>∃ a b,vs=[.ref a,.ref b]∧(∃ xs,SqT K H1 a xs)∧(∃ ys,SqT K H1 b ys)∧R (Itz K a b) H1
end
end L2
namespace L2
open PySem PySem.Spec PyProof.Rows KG
abbrev g2 (K:PySem.W.Frag):TG:=gTup K 2 (gCons (gName 0) (gCons (gName 1) gNil))
def S2 (σ₀ σ:St):Prop:=∀ u v,(σ.set 0 u).set 1 v=(σ₀.set 0 u).set 1 v
theorem S2.of {σ₀:St} {u v:Option V}:S2 σ₀ ((σ₀.set 0 u).set 1 v):=fun u' v'=>by
 match σ₀ with
 | []=>rfl
 | [_]=>rfl
 | _ :: _ :: _=>rfl
def Cn2 (σ₀:St) (acc:Addr) (P:List V→Hp→Prop) (σ:St) (H:Hp):Prop:=S2 σ₀ σ∧∃ ys,H acc=some (.lst ys)∧P ys H
theorem Cn2.of {σ₀:St} {acc:Addr} {P:List V→Hp→Prop} {u v:Option V} {H:Hp} {ys:List V} (h:H acc=some (.lst ys)) (p:P ys H):Cn2 σ₀ acc P ((σ₀.set 0 u).set 1 v) H:=⟨S2.of,ys,h,p⟩
def CnD (σ₀:St) (acc:Addr) (P:List (Key × V)→Hp→Prop) (σ:St) (H:Hp):Prop:=S2 σ₀ σ∧∃ ys,H acc=some (.dK ys)∧P ys H
theorem CnD.of {σ₀:St} {acc:Addr} {P:List (Key × V)→Hp→Prop} {u v:Option V} {H:Hp} {ys:List (Key × V)} (h:H acc=some (.dK ys)) (p:P ys H):CnD σ₀ acc P ((σ₀.set 0 u).set 1 v) H:=⟨S2.of,ys,h,p⟩
theorem pair_in {K:PySem.W.Frag} {σ₀ σ:St} {H:Hp} {p:Addr} {x y:V} {Z:St→Hp→Prop} (hσ:S2 σ₀ σ) (hp:H p=none) (h:∀ H1,Stay H H1→Z ((σ₀.set 0 (some x)).set 1 (some y)) H1):g2 K (.ref p) σ (upd H p (.tup [x,y])) Z:=by
 refine ⟨p,_,rfl,SqT.of ja1,rfl,_,_,rfl,_,_,rfl,rfl,?_⟩
 show Z ((σ.set 0 (some x)).set 1 (some y)) _
 rw [hσ]
 exact h _ ((Stay.refl H).new hp)
section
variable {K:PySem.W.Frag} {tt:TT} {te tk tv:TE} {acc a b:Addr} {xs ys:List V} {σ₀:St} {H₀:Hp} {Q:VK} {o:Obj} {kvs:List (Key × V)}
theorem comp_enum (Pv:Nat→List V→Hp→Prop) (h0:Pv 0 [] (upd H₀ acc (.lst []))) (hl:∀ (i:Nat) zs H,i ≤ xs.length→H acc=some (.lst zs)→Pv i zs H→SqT K H a xs)
  (hs:∀ (i:Nat) x zs H H1,xs[i]?=some x→H acc=some (.lst zs)→Pv i zs H→Stay H H1→tt ((σ₀.set 0 (some (.int i))).set 1 (some x)) H1 fun b H4 =>
   if b=true then te ((σ₀.set 0 (some (.int i))).set 1 (some x)) H4 fun y H5=>∃ us,H5 acc=some (.lst us)∧us.length < sizeLine∧Cn2 σ₀ acc (Pv (i + 1)) ((σ₀.set 0 (some (.int i))).set 1 (some x)) (upd H5 acc (.lst (us ++ [y])))
   else Cn2 σ₀ acc (Pv (i + 1)) ((σ₀.set 0 (some (.int i))).set 1 (some x)) H4)
  (hd:∀ zs H,H acc=some (.lst zs)→Pv xs.length zs H→Q (.ref acc) H):tCompN (g2 K) tt te (Ite K a) acc σ₀ H₀ Q:=by
 refine ⟨fun i m σ H=>m=xs.length - i∧i ≤ xs.length∧Cn2 σ₀ acc (Pv i) σ H,⟨xs.length,by simp,Nat.zero_le _,fun _ _=>rfl,[],ja1,h0⟩,?_⟩
 rintro i m σ H ⟨rfl,hi,hσ,zs,hy,p⟩
 have q:=hl i zs H hi hy p
 by_cases hlt:i < xs.length
 ·refine .inr ⟨⟨xs,xs[i],q,by simp [hlt]⟩,Cn2 σ₀ acc (Pv (i + 1)),fun σ' H' c=>⟨xs.length - (i + 1),by omega,rfl,hlt,c⟩,fun x H' y=>?_⟩
  obtain ⟨pp,hp,rfl,hyy⟩:=y
  obtain ⟨z,hz,rfl⟩:=hyy xs q
  exact pair_in hσ hp fun H1 s1=>hs i z zs H H1 hz hy p s1
 ·have e:i=xs.length:=by omega
  subst e
  exact .inl ⟨⟨xs,q,Nat.le_refl _⟩,hd zs H hy p⟩
theorem comp_zip (Pv:Nat→List V→Hp→Prop) (hlen:xs.length=ys.length) (h0:Pv 0 [] (upd H₀ acc (.lst []))) (hl:∀ (i:Nat) zs H,i ≤ xs.length→H acc=some (.lst zs)→Pv i zs H→SqT K H a xs∧SqT K H b ys)
  (hs:∀ (i:Nat) x y zs H H1,xs[i]?=some x→ys[i]?=some y→H acc=some (.lst zs)→Pv i zs H→Stay H H1→tt ((σ₀.set 0 (some x)).set 1 (some y)) H1 fun b H4 =>
   if b=true then te ((σ₀.set 0 (some x)).set 1 (some y)) H4 fun v H5=>∃ us,H5 acc=some (.lst us)∧us.length < sizeLine∧Cn2 σ₀ acc (Pv (i + 1)) ((σ₀.set 0 (some x)).set 1 (some y)) (upd H5 acc (.lst (us ++ [v])))
   else Cn2 σ₀ acc (Pv (i + 1)) ((σ₀.set 0 (some x)).set 1 (some y)) H4)
  (hd:∀ zs H,H acc=some (.lst zs)→Pv xs.length zs H→Q (.ref acc) H):tCompN (g2 K) tt te (Itz K a b) acc σ₀ H₀ Q:=by
 refine ⟨fun i m σ H=>m=xs.length - i∧i ≤ xs.length∧Cn2 σ₀ acc (Pv i) σ H,⟨xs.length,by simp,Nat.zero_le _,fun _ _=>rfl,[],ja1,h0⟩,?_⟩
 rintro i m σ H ⟨rfl,hi,hσ,zs,hy,p⟩
 obtain ⟨q1,q2⟩:=hl i zs H hi hy p
 by_cases hlt:i < xs.length
 ·refine .inr ⟨⟨xs,ys,xs[i],ys[i]'(by omega),q1,q2,by simp [hlt],by simp⟩,Cn2 σ₀ acc (Pv (i + 1)),fun σ' H' c=>⟨xs.length - (i + 1),by omega,rfl,hlt,c⟩,fun v H' y=>?_⟩
  obtain ⟨pp,hp,rfl,hyy⟩:=y
  obtain ⟨x1,y1,hx1,hy1,rfl⟩:=hyy xs ys q1 q2
  exact pair_in hσ hp fun H1 s1=>hs i x1 y1 zs H H1 hx1 hy1 hy p s1
 ·have e:i=xs.length:=by omega
  subst e
  exact .inl ⟨⟨xs,ys,q1,q2,Nat.le_refl _⟩,hd zs H hy p⟩
theorem comp_dict (Pv:Nat→List V→Hp→Prop) (h0:Pv 0 [] (upd H₀ acc (.lst []))) (hl:∀ (i:Nat) zs H,i ≤ kvs.length→H acc=some (.lst zs)→Pv i zs H→H a=some (.frz o (.dK kvs)))
  (hs:∀ (i:Nat) k v zs H,kvs[i]?=some (k,v)→H acc=some (.lst zs)→Pv i zs H→tt (σ₀.set 0 (some (kV k))) H fun b H4 =>
   if b=true then te (σ₀.set 0 (some (kV k))) H4 fun y H5=>∃ us,H5 acc=some (.lst us)∧us.length < sizeLine∧Cn σ₀ acc (Pv (i + 1)) (σ₀.set 0 (some (kV k))) (upd H5 acc (.lst (us ++ [y]))) else Cn σ₀ acc (Pv (i + 1)) (σ₀.set 0 (some (kV k))) H4)
  (hd:∀ zs H,H acc=some (.lst zs)→Pv kvs.length zs H→Q (.ref acc) H):tCompN (gName 0) tt te (Itd a o kvs) acc σ₀ H₀ Q:=by
 refine ⟨fun i m σ H=>m=kvs.length - i∧i ≤ kvs.length∧Cn σ₀ acc (Pv i) σ H,⟨kvs.length,by simp,Nat.zero_le _,fun _=>rfl,[],ja1,h0⟩,?_⟩
 rintro i m σ H ⟨rfl,hi,hσ,zs,hy,p⟩
 have q:=hl i zs H hi hy p
 by_cases hlt:i < kvs.length
 ·refine .inr ⟨⟨q,hlt⟩,Cn σ₀ acc (Pv (i + 1)),fun σ' H' c=>⟨kvs.length - (i + 1),by omega,rfl,hlt,c⟩,fun x H' y=>?_⟩
  obtain ⟨e,k,v,hk,ek⟩:=y
  subst e ek
  show tt (σ.set 0 _) _ _
  rw [hσ]
  exact hs i k v zs _ hk hy p
 ·have e:i=kvs.length:=by omega
  subst e
  exact .inl ⟨⟨q,Nat.le_refl _⟩,hd zs H hy p⟩
theorem dcomp_enum (Pv:Nat→List (Key × V)→Hp→Prop) (h0:Pv 0 [] (upd H₀ acc (.dK []))) (hl:∀ (i:Nat) zs H,i ≤ xs.length→H acc=some (.dK zs)→Pv i zs H→SqT K H a xs)
  (hs:∀ (i:Nat) x zs H H1,xs[i]?=some x→H acc=some (.dK zs)→Pv i zs H→Stay H H1→tt ((σ₀.set 0 (some (.int i))).set 1 (some x)) H1 fun b H4 =>
   if b=true then tk ((σ₀.set 0 (some (.int i))).set 1 (some x)) H4 fun kx H5=>tv ((σ₀.set 0 (some (.int i))).set 1 (some x)) H5 fun y H6=>∃ us k,H6 acc=some (.dK us)∧kx=kV k∧us.length < sizeLine∧CnD σ₀ acc (Pv (i + 1)) ((σ₀.set 0 (some (.int i))).set 1 (some x)) (upd H6 acc (.dK (putK us k y)))
   else CnD σ₀ acc (Pv (i + 1)) ((σ₀.set 0 (some (.int i))).set 1 (some x)) H4)
  (hd:∀ zs H,H acc=some (.dK zs)→Pv xs.length zs H→Q (.ref acc) H):tDCompN (g2 K) tt tk tv (Ite K a) acc σ₀ H₀ Q:=by
 refine ⟨fun i m σ H=>m=xs.length - i∧i ≤ xs.length∧CnD σ₀ acc (Pv i) σ H,⟨xs.length,by simp,Nat.zero_le _,fun _ _=>rfl,[],ja1,h0⟩,?_⟩
 rintro i m σ H ⟨rfl,hi,hσ,zs,hy,p⟩
 have q:=hl i zs H hi hy p
 by_cases hlt:i < xs.length
 ·refine .inr ⟨⟨xs,xs[i],q,by simp [hlt]⟩,CnD σ₀ acc (Pv (i + 1)),fun σ' H' c=>⟨xs.length - (i + 1),by omega,rfl,hlt,c⟩,fun x H' y=>?_⟩
  obtain ⟨pp,hp,rfl,hyy⟩:=y
  obtain ⟨z,hz,rfl⟩:=hyy xs q
  exact pair_in hσ hp fun H1 s1=>hs i z zs H H1 hz hy p s1
 ·have e:i=xs.length:=by omega
  subst e
  exact .inl ⟨⟨xs,q,Nat.le_refl _⟩,hd zs H hy p⟩
end
section
variable {X:Cx}
end
end L2
namespace L2
open PySem PySem.Spec PyProof.Rows
def K0:PySem.W.Frag:=[]
section
variable {K:PySem.W.Frag} {H:Hp} {a:Addr} {xs:List V}
theorem SqL.k0 (h:SqL K0 H a xs):SqL K H a xs:=by
 rcases h with h | ⟨o,its,n,hk,_⟩
 ·exact .inl h
 ·exact absurd hk (by show ¬ (none=some o); simp)
theorem SqT.k0 (h:SqT K0 H a xs):SqT K H a xs:=by
 rcases h with h | ⟨o,its,n,hk,_⟩
 ·exact .inl h
 ·exact absurd hk (by show ¬ (none=some o); simp)
theorem Sq.k0 (h:SqL K0 H a xs ∨ SqT K0 H a xs):SqL K H a xs ∨ SqT K H a xs:=h.elim (fun z=>.inl z.k0) fun z=>.inr z.k0
mutual
theorem DtV.k0:∀ {v:V} {d:PyData},DtV K0 H v d→DtV K H v d
 | _,_,.non=>.non
 | _,_,.bl b=>.bl b
 | _,_,.int i=>.int i
 | _,_,.str x ok=>.str x ok
 | _,_,.lst h t=>.lst h.k0 (DtVs.k0 t)
 | _,_,.tup h t=>.tup h.k0 (DtVs.k0 t)
theorem DtVs.k0:∀ {vs:List V} {ds:List PyData},DtVs K0 H vs ds→DtVs K H vs ds
 | _,_,.nil=>.nil
 | _,_,.cons h t=>.cons (DtV.k0 h) (DtVs.k0 t)
end
end
section
variable {X:Cx} {tg l:Expr} {tl:TE}
theorem OpR.imp {f:Value→Value→Sem Value} {r r':R2} (h:OpR X f r) (hi:∀ x y H Q,r' x y H Q→r x y H Q):OpR X f r':=fun pins s σ H x y v u Q I rx ry q=>h pins s σ H x y v u Q I rx ry (hi _ _ _ _ q)
theorem CallR.imp {f:Value} {r r':List V→Hp→VK→Prop} (h:CallR X f r) (hi:∀ xs H Q,r' xs H Q→r xs H Q):CallR X f r':=fun pins s σ H xs us Q I rx q=>h pins s σ H xs us Q I rx (hi _ _ _ q)
theorem IxR.imp {r r':R2} (h:IxR X r) (hi:∀ x y H Q,r' x y H Q→r x y H Q):IxR X r':=fun a b pins s σ H x y v u Q I rx ry q=>h a b pins s σ H x y v u Q I rx ry (hi _ _ _ _ q)
theorem ixL0:IxR X (rIxL K0):=ix_list.imp fun _ _ _ _ ⟨p,xs,i,v,e1,e2,h,e3,q⟩=>⟨p,xs,i,v,e1,e2,h.k0,e3,q⟩
theorem ixT0:IxR X (rIxT K0):=ix_tup.imp fun _ _ _ _ ⟨p,xs,i,v,e1,e2,h,e3,q⟩=>⟨p,xs,i,v,e1,e2,h.k0,e3,q⟩
def rLen0:List V→Hp→VK→Prop:=fun xs H Q=>∃ p ys,xs=[.ref p]∧(SqL K0 H p ys ∨ SqT K0 H p ys)∧Q (.int ys.length) H
def rTup0:List V→Hp→VK→Prop:=fun xs H Q=>∃ p ys,xs=[.ref p]∧((SqL K0 H p ys∧∀ l,H l=none→Q (.ref l) (upd H l (.tup ys))) ∨ (SqT K0 H p ys∧Q (.ref p) H))
def rLst0:List V→Hp→VK→Prop:=fun xs H Q=>∃ p ys,xs=[.ref p]∧(SqL K0 H p ys ∨ SqT K0 H p ys)∧∀ l,H l=none→Q (.ref l) (upd H l (.lst ys))
def rAny0:List V→Hp→VK→Prop:=fun xs H Q=>∃ p ys,xs=[.ref p]∧(SqL K0 H p ys ∨ SqT K0 H p ys)∧ys.all plainB=true∧Q (.bl (ys.any tv)) H
def rAll0:List V→Hp→VK→Prop:=fun xs H Q=>∃ p ys,xs=[.ref p]∧(SqL K0 H p ys ∨ SqT K0 H p ys)∧ys.all plainB=true∧Q (.bl (ys.all tv)) H
def rSum0:List V→Hp→VK→Prop:=fun xs H Q=>∃ (p:Addr) (ns:List Int),xs=[.ref p]∧(SqL K0 H p (ns.map V.int) ∨ SqT K0 H p (ns.map V.int))∧Q (.int ns.sum) H
def rMax0:List V→Hp→VK→Prop:=fun xs H Q=>∃ (p:Addr) (ns:List Int),xs=[.ref p]∧(SqL K0 H p (ns.map V.int) ∨ SqT K0 H p (ns.map V.int))∧ns ≠ []∧∀ m,m ∈ ns→(∀ n ∈ ns,n ≤ m)→Q (.int m) H
theorem cLen0:CallR X (.builtin "len") rLen0:=call_len_seq.imp fun _ _ _ ⟨p,ys,e,h,q⟩=>⟨p,ys,e,Sq.k0 h,q⟩
theorem cTup0:CallR X (.type "tuple") rTup0:=call_tuple_of.imp fun _ _ _ ⟨p,ys,e,h⟩=>⟨p,ys,e,h.elim (fun z=>.inl ⟨z.1.k0,z.2⟩) fun z=>.inr ⟨z.1.k0,z.2⟩⟩
theorem cLst0:CallR X (.type "list") rLst0:=call_list_of.imp fun _ _ _ ⟨p,ys,e,h,q⟩=>⟨p,ys,e,Sq.k0 h,q⟩
theorem cAny0 (hc:X.calm=true):CallR X (.builtin "any") rAny0:=(call_any hc).imp fun _ _ _ ⟨p,ys,e,h,q⟩=>⟨p,ys,e,Sq.k0 h,q⟩
theorem cAll0 (hc:X.calm=true):CallR X (.builtin "all") rAll0:=(call_all hc).imp fun _ _ _ ⟨p,ys,e,h,q⟩=>⟨p,ys,e,Sq.k0 h,q⟩
theorem cSum0 (hc:X.calm=true):CallR X (.builtin "sum") rSum0:=(call_sum hc).imp fun _ _ _ ⟨p,ys,e,h,q⟩=>⟨p,ys,e,Sq.k0 h,q⟩
theorem cMax0 (hc:X.calm=true):CallR X (.builtin "max") rMax0:=(call_maxL hc).imp fun _ _ _ ⟨p,ys,e,h,q⟩=>⟨p,ys,e,Sq.k0 h,q⟩
theorem opRepT0:OpR X (binaryOp .Mult) (rRepT K0):=op_repT.imp fun _ _ _ _ ⟨a,k,xs,e1,e2,h,q⟩=>⟨a,k,xs,e1,e2,h.k0,q⟩
theorem opEqD0 (hu:X.A.units + 64 < cLine):OpR X (compareOp .Eq) (rEqD K0):=(op_eqD hu).imp fun _ _ _ _ ⟨dx,dy,h1,h2,q⟩=>⟨dx,dy,h1.k0,h2.k0,q⟩
theorem opNeD0 (hu:X.A.units + 64 < cLine):OpR X (compareOp .NotEq) (rNeD K0):=(op_neD hu).imp fun _ _ _ _ ⟨dx,dy,h1,h2,q⟩=>⟨dx,dy,h1.k0,h2.k0,q⟩
theorem opIn0:OpR X (compareOp .In) (rIn K0 false):=op_in_seq.imp fun _ _ _ _ ⟨p,xs,e,h,q⟩=>⟨p,xs,e,Sq.k0 h,q⟩
theorem opNin0:OpR X (compareOp .NotIn) (rIn K0 true):=op_notIn_seq.imp fun _ _ _ _ ⟨p,xs,e,h,q⟩=>⟨p,xs,e,Sq.k0 h,q⟩
theorem slL0:SlR X (rSlL K0):=fun pins s σ H x v vl vu lo hi sl Q I rx hs pl pu ⟨a,xs,e,h,q⟩=>sl_list pins s σ H x v vl vu lo hi sl Q I rx hs pl pu ⟨a,xs,e,h.k0,q⟩
structure It.Le (J J':It):Prop where
 go:∀ i H,J'.go i H→J.go i H
 yld:∀ i H x H',J.yld i H x H'→J'.yld i H x H'
 stop:∀ i H,J'.stop i H→J.stop i H
theorem Turn.le {P:Program} {w:World} {K:PySem.W.Frag} {tg:Expr} {J J':It} {fp:List Addr} {it:Addr} {tn:Nat→Heap→Prop} (T:Turn P w K tg J fp it tn) (l:J.Le J'):Turn P w K tg J' fp it tn where
 mem:=T.mem
 obj:=T.obj
 keep:=T.keep
 item:=fun X hP hw hK hc i pins s σ H E I hf st hg=>thn (T.item X hP hw hK hc i pins s σ H E I hf st (l.go i H hg)) fun r s1 ⟨u,hr,h⟩=>⟨u,hr,thn h fun _ s2 ⟨x,H',a1,a2,a3,a4⟩=>⟨x,H',a1,a2,l.yld _ _ _ _ a3,a4⟩⟩
 done:=fun X hP hw hK hc i pins s σ H E I hf st hg=>T.done X hP hw hK hc i pins s σ H E I hf st (l.stop i H hg)
 self:=T.self
theorem le_list {K:PySem.W.Frag} {a:Addr}:(Itl K a).Le (Itl K0 a):=⟨fun i H ⟨xs,x,h,e⟩=>⟨xs,x,h.k0,e⟩,fun i H x H' ⟨e,h⟩=>⟨e,fun xs hx=>h xs hx.k0⟩,fun i H ⟨xs,h,e⟩=>⟨xs,h.k0,e⟩⟩
theorem le_tup {K:PySem.W.Frag} {a:Addr}:(Itt K a).Le (Itt K0 a):=⟨fun i H ⟨xs,x,h,e⟩=>⟨xs,x,h.k0,e⟩,fun i H x H' ⟨e,h⟩=>⟨e,fun xs hx=>h xs hx.k0⟩,fun i H ⟨xs,h,e⟩=>⟨xs,h.k0,e⟩⟩
theorem le_enum {K:PySem.W.Frag} {a:Addr}:(Ite K a).Le (Ite K0 a):=⟨fun i H ⟨xs,x,h,e⟩=>⟨xs,x,h.k0,e⟩,fun i H x H' ⟨p,e1,e2,h⟩=>⟨p,e1,e2,fun xs hx=>h xs hx.k0⟩,fun i H ⟨xs,h,e⟩=>⟨xs,h.k0,e⟩⟩
theorem le_zip {K:PySem.W.Frag} {a b:Addr}:(Itz K a b).Le (Itz K0 a b):=⟨fun i H ⟨xs,ys,x,y,h1,h2,e⟩=>⟨xs,ys,x,y,h1.k0,h2.k0,e⟩,fun i H x H' ⟨p,e1,e2,h⟩=>⟨p,e1,e2,fun xs ys h1 h2=>h xs ys h1.k0 h2.k0⟩,fun i H ⟨xs,ys,h1,h2,e⟩=>⟨xs,ys,h1.k0,h2.k0,e⟩⟩
theorem piL0 (hl:PE X l tl):PI X tg l (iList K0 tl):=by
 intro pins s σ H R I h
 refine thn (hl pins s σ H _ I h) fun v s1 ⟨x,H1,I1,r1,a,e,⟨xs,hq⟩,q⟩=>?_
 subst e
 cases r1
 obtain ⟨its,rv,p,hz⟩:=I1.list hq.k0
 refine wpAny_pyIter_list p.isList ⟨s1.heap.objs.size,[s1.heap.objs.size],_,Itl K0 a,H1,rfl,I1.kept (t':=s1.toks) fun b o e=>Heap.get?_push_of_some _ e,(turn_list (K:=X.K) a _).le le_list,⟨_,Heap.get?_push_size _ rfl,rfl,rfl⟩,fun b hb=>?_,q⟩
 obtain rfl:b=s1.heap.objs.size:=by simpa using hb
 exact I1.fpOk (Nat.le_refl _) (I1.hok.fresh (Nat.le_refl _))
theorem piT0 (hl:PE X l tl):PI X tg l (iTup K0 tl):=by
 intro pins s σ H R I h
 refine thn (hl pins s σ H _ I h) fun v s1 ⟨x,H1,I1,r1,a,e,⟨xs,hq⟩,q⟩=>?_
 subst e
 cases r1
 obtain ⟨its,rv,p,hz⟩:=I1.tuple hq.k0
 refine wpAny_pyIter_tuple (show s1.heap.IsTuple a its.toArray from p) ⟨s1.heap.objs.size,[s1.heap.objs.size],_,Itt K0 a,H1,rfl,I1.kept (t':=s1.toks) fun b o e=>Heap.get?_push_of_some _ e,(turn_tuple (K:=X.K) a _).le le_tup,⟨_,Heap.get?_push_size _ rfl,rfl,rfl⟩,fun b hb=>?_,q⟩
 obtain rfl:b=s1.heap.objs.size:=by simpa using hb
 exact I1.fpOk (Nat.le_refl _) (I1.hok.fresh (Nat.le_refl _))
theorem piEnum0 {a:Expr} {ta:TA} {p pos:Pos} {elts:List Expr} {kk} {tpos:Pos} (hg:Gl X "enumerate") (hm:X.mg "enumerate"=none) (hb:bootBuiltins "enumerate"=some (.type "enumerate")) (ha:PA X [a] ta) (hs:starEach [a] X.env=[(false,eval a X.env)]:=by rfl) :
  PI X (.Tuple elts kk tpos) (.Call (.Name "enumerate" p) [a] [] pos) (iEnum K0 ta):=by
 intro pins s σ H R I h
 refine Call_ (ld_blt I hg hm hb (PyProof.Rows.callWith_type1 (thn (ha pos pins s σ H _ I h) fun us s1 ⟨vs,H1,I1,r1,t,e,⟨xs,hq⟩,q⟩=>?_) hs rfl))
 subst e
 obtain ⟨u,rfl,ru⟩:=vals1 r1
 cases ru
 obtain ⟨its,rv,pl,hz⟩:=I1.tuple hq.k0
 refine call_enumerate_tup (show s1.heap.IsTuple t its.toArray from pl) fun h' he hit hsz hk=>wpAny_pyIter_enum he ?_
 refine ⟨s1.heap.objs.size + 1,[s1.heap.objs.size + 1,s1.heap.objs.size],_,Ite K0 t,H1,rfl,I1.kept (t':=s1.toks) hk,(turn_enum (K:=X.K) t _ s1.heap.objs.size (Nat.succ_ne_self _)).le le_enum,⟨⟨_,he⟩,hit⟩,fun b hb=>?_,q⟩
 rcases List.mem_cons.mp hb with rfl | hb
 ·exact I1.fpOk (Nat.le_succ _) (I1.hok.fresh (Nat.le_succ _))
 ·obtain rfl:b=s1.heap.objs.size:=by simpa using hb
  exact I1.fpOk (Nat.le_refl _) I1.fresh
theorem pi_zip0 {a b:Expr} {ta:TA} {p pos:Pos} {elts:List Expr} {kk} {tpos:Pos} (hg:Gl X "zip") (hm:X.mg "zip"=none) (hb:bootBuiltins "zip"=some (.type "zip")) (ha:PA X [a,b] ta)
  (hs:starEach [a,b] X.env=[(false,eval a X.env),(false,eval b X.env)]:=by rfl) (hs2:starEach [b] X.env=[(false,eval b X.env)]:=by rfl):PI X (.Tuple elts kk tpos) (.Call (.Name "zip" p) [a,b] [] pos) (iZip K0 ta):=by
 intro pins s σ H R I h
 refine Call_ (ld_blt I hg hm hb (PyProof.Rows.callWith_type1 (thn (ha pos pins s σ H _ I h) fun us s1 ⟨vs,H1,I1,r1,q1⟩=>?_) (by rw [hs,hs2]) (by rw [hs2]; rfl)))
 obtain ⟨x,y,e,⟨xs,hq1⟩,⟨ys,hq2⟩,q⟩:=q1
 subst e
 cases r1 with
 | cons r rr =>
  cases rr with
  | cons r' rr =>
   cases rr
   cases r
   cases r'
   obtain ⟨us,ru,pu,zu⟩:=I1.tuple hq1.k0
   obtain ⟨vs,rv,pv,zv⟩:=I1.tuple hq2.k0
   have a1:x < s1.heap.objs.size:=by obtain ⟨_,e,_⟩:=(show s1.heap.IsTuple x us.toArray from pu); exact Heap.lt_size e
   have a2:y < s1.heap.objs.size:=by obtain ⟨_,e,_⟩:=(show s1.heap.IsTuple y vs.toArray from pv); exact Heap.lt_size e
   refine call_zipT (show s1.heap.IsTuple x us.toArray from pu) (show s1.heap.IsTuple y vs.toArray from pv) fun g z0 pI pO n1 n2 hk=>wpAny_pyIter_zip z0 ?_
   refine ⟨s1.heap.objs.size + 4,[s1.heap.objs.size + 4,s1.heap.objs.size + 2,s1.heap.objs.size + 3,s1.heap.objs.size,s1.heap.objs.size + 1],_,Itz K0 x y,H1,rfl,I1.kept (t':=s1.toks) hk,(turn_zip (K:=X.K) x y _ _ _ _ _ (zipApart_new a1 a2)).le le_zip,⟨z0,pI,⟨_,_,pO⟩,n1,n2⟩,fun c hc=>?_,q⟩
   have hge:s1.heap.objs.size ≤ c:=by
    simp only [List.mem_cons,List.not_mem_nil,or_false] at hc
    rcases hc with h | h | h | h | h <;> rw [h] <;> first | exact Nat.le_add_right _ _ | exact Nat.le_refl _
   exact I1.fpOk hge (I1.hok.fresh hge)
theorem pgTup0 {es:List Expr} {k:Nat} {t:TGs} {n:Nat} {pos:Pos} (hc:X.calm=true) (h:PGs X es t) (hn:(assignEach es X.env).length=n:=by rfl) (hst:(assignEach es X.env).findIdx? (·.1)=none:=by rfl):PG X (.Tuple es k pos) (gTup K0 n t) :=
 fun pins s σ H v u Q I r ⟨a,xs,e,hq,q⟩=>pg_tup hc h hn hst pins s σ H v u Q I r ⟨a,xs,e,hq.k0,q⟩
theorem pgLst0 {es:List Expr} {k:Nat} {t:TGs} {n:Nat} {pos:Pos} (hc:X.calm=true) (h:PGs X es t) (hn:(assignEach es X.env).length=n:=by rfl) (hst:(assignEach es X.env).findIdx? (·.1)=none:=by rfl):PG X (.Tuple es k pos) (gLst K0 n t) :=
 fun pins s σ H v u Q I r ⟨a,xs,e,hq,q⟩=>pg_lst hc h hn hst pins s σ H v u Q I r ⟨a,xs,e,hq.k0,q⟩
theorem tyV.k0 {K:PySem.W.Frag} {T:String} {x:V} {H:Hp} (h:tyV K0 T x H):tyV K T x H:=by
 cases x with
 | ref p =>
  rcases h with ⟨e,xs,h⟩ | ⟨e,o,hk,_⟩ | h | h
  ·exact .inl ⟨e,xs,h.k0⟩
  ·exact absurd hk (by show ¬ (none=some o); simp)
  ·exact .inr (.inr (.inl h))
  ·exact .inr (.inr (.inr h))
 | _=>exact h
variable {o e:Expr} {es:List Expr} {to:TE} {t:TA} {name:Str} {apos cpos:Pos} {T id:String} {r:V→List V→Hp→VK→Prop}
theorem peBm0 (pa:PlainAttrs T) (slot:Slot T name id) (hty:typeOf (.builtin id)=pure (.type "method_descriptor")) (hm:MtR X id r) (ho:PE X o to) (ha:PA X (e :: es) t)
  (hbase:attributeBase o name X.env (eval o X.env)=eval o X.env:=by rfl)
  (hfew:((backTo cpos (starEach (e :: es) X.env)).all (fun x=>!x.1) && (backToKw cpos (keywordEach [] X.env)).all (fun x=>x.1.isSome)
   && decide ((e :: es).length + ([]:List Keyword).length + (if ([]:List Keyword).isEmpty then 0 else 1) < 30))=true:=by rfl)
  (hline:(apos.endLine == cpos.line)=true:=by rfl) (hs:starEach (e :: es) X.env=(false,eval e X.env) :: starEach es X.env:=by rfl) (hplain:(backTo cpos (starEach es X.env)).any (·.1)=false:=by rfl) :
  PE X (.Call (.Attribute o name apos) (e :: es) [] cpos) (tBM K0 T r to t):=by
 intro pins s σ H Q I h
 refine wpAny_Call_method_late hbase hfew hline rfl (thn (ho pins s σ H _ I h) fun v s1 ⟨x,H1,I1,r1,ty,q1⟩=>?_)
 obtain ⟨h1,h2⟩:=tyV_is I1 r1 ty.k0
 refine ⟨T,id,pa,slot,hty,h1,h2,?_⟩
 have hA:=ha cpos pins s1 σ H1 _ I1 q1
 rw [hs] at hA ⊢
 exact Calls.callWith_builtin (by show (false || (backTo cpos (starEach es X.env)).any (·.1))=false; rw [hplain] <;> rfl) (Calls.evalArgs_plain (thn hA fun us s2 ⟨vs,H2,I2,r2,q2⟩=>hm pins s2 σ H2 x vs v us Q I2 r1 r2 q2))
end
end L2
namespace K9
open PySem L2 KG EX KM
def top (i:Nat):Stmt:=PySem.Challenge.pw_wishmart_k09_buyers_too_rich.main.body.getD i (.Pass ⟨0,0,0,0⟩)
section
variable {P:Program} {w:World} {K:PySem.W.Frag} {mg:Str→Option Value} {base:Heap}
theorem scWhole:FnScope ["thing"] ["thing"] (ja5 (top 5)):=⟨rfl,rfl,rfl,by decide +kernel,rfl,by decide +kernel,by decide +kernel⟩
theorem ok_whole {f:Addr} {fd:FuncData} (F:Fun K "is_whole" "is_whole" (top 5) f fd) (N:Nm mg) (Z:IsK K):FnOk P w K mg base CX0 1 f fd ["thing"] (spT isWhole):=by
 refine F.ok scWhole (fun vs H Q E h=>?_) (fun cdv A outer s H vs Q E hr h=>?_)
 ·obtain ⟨b,v,d,rfl,_⟩:=h; rfl
 ·obtain ⟨b,v,d,rfl,hT,k⟩:=h
  refine ⟨_,ja7 (jb4 (pe_and (pIsi K (pv 0) rfl N.isinstance rfl N.int boot_int jd7) (pe_one (pe_not (pIsi K (pv 0) rfl N.isinstance rfl N.bool boot_bool jd7))))),?_⟩
  obtain ⟨t1,ty1,e1⟩:=isi Z hT
  obtain ⟨t2,ty2,e2⟩:=isb Z hT
  refine ⟨_,rfl,t1,_,ty1,e1,_,rfl,?_⟩
  have hk:=k H (Stay.refl H)
  rw [isWhole_eq] at hk
  cases hi:isI d with
  | true =>
   rw [hi] at hk
   refine iteT ⟨_,rfl,t2,_,ty2,e2,_,rfl,hk⟩
  | false =>
   rw [hi] at hk
   exact iteF hk
theorem scGcd:FnScope ["one","other"] ["one","other"] (ja5 (top 7)):=⟨rfl,rfl,rfl,by decide +kernel,rfl,by decide +kernel,by decide +kernel⟩
theorem ok_gcd {f:Addr} {fd:FuncData} (F:Fun K "common_divisor" "common_divisor" (top 7) f fd) (N:Nm mg):FnOk P w K mg base CX0 1 f fd ["one","other"] spGcd:=by
 refine F.ok scGcd (fun vs H Q E h=>?_) (fun cdv A outer s H vs Q E hr h=>?_)
 ·obtain ⟨t,u,rfl,_⟩:=h; rfl
 ·obtain ⟨t,u,rfl,u0,k⟩:=h
  refine ⟨_,ja4 (ps_while PassesOwn.never (jc0 op_ne (pv 1) ja3 (nomark _)) (ja7 (ps_par (i:=0) (j:=1) rfl scGcd.nd rfl rfl (by decide) rfl rfl (ja0 (pv 1) (ja0 (jb3 op_mod (pv 0) (pv 1)) ja2)) (by rfl))))
   (ja7 (jb4 (jb0 call_abs (by rfl) N.abs boot_abs (ja0 (pv 0) ja2)))),?_⟩
  refine while_by (fun σ H'=>H'=H∧∃ a c:Int,σ=[some (.int a),some (.int c)]∧0 ≤ c∧Int.gcd a c=Int.gcd t u)
   (fun σ _=>match σ with | [_,some (.int c)]=>c.toNat | _=>0) ⟨rfl,t,u,rfl,u0,rfl⟩ ?_ ?_
  ·rintro σ H' ⟨rfl,a,c,rfl,c0,e⟩
   refine ⟨_,rfl,rfl,_,rfl,?_⟩
   by_cases hc:c=0
   ·subst hc
    refine iteF ?_
    refine ⟨_,rfl,_,rfl,?_⟩
    rw [abs_gcd,e]
    exact k
   ·have e1:(!decide (V.int c=V.int 0))=true:=by simp [hc]
    rw [e1]
    refine iteT ?_
    have cp:0 < c:=by omega
    refine ⟨_,rfl,_,rfl,_,rfl,_,_,rfl,rfl,cp,_,_,rfl,⟨rfl,c,a % c,rfl,Int.emod_nonneg _ hc,gcd_emod.trans e⟩,?_⟩
    have h1:=Int.emod_lt_of_pos a cp
    have h2:=Int.emod_nonneg a hc
    show (a % c).toNat < c.toNat
    omega
  ·rintro σ H' Q1 Q2 himp ⟨v,e,sc,kk,ek,q⟩
   exact ⟨v,e,sc,kk,ek,himp _ _ q⟩
theorem scFrac:FnScope ["thing","top","bottom"] ["thing"] (ja5 (top 6)):=⟨rfl,rfl,rfl,by decide +kernel,rfl,by decide +kernel,by decide +kernel⟩
theorem ok_isfrac {f fW fG:Addr} {fd dW dG:FuncData} (F:Fun K "is_fraction" "is_fraction" (top 6) f fd) (N:Nm mg) (Z:IsK K) (W:Cal K mg P w base "is_whole" 1 ["thing"] (spT isWhole) fW dW) (G:Cal K mg P w base "common_divisor" 1 ["one","other"] spGcd fG dG):FnOk P w K mg base CX0 2 f fd ["thing"] (spT isFrac):=by
 refine F.ok scFrac (fun vs H Q E h=>?_) (fun cdv A outer s H vs Q E hr h=>?_)
 ·obtain ⟨b,v,d,rfl,_⟩:=h; rfl
 ·obtain ⟨b,v,d,rfl,hT,k⟩:=h
  refine ⟨_,ja4 (jf1 (PW.pt (pw_or (pt_not (pt_val (pIsi K (pv 0) rfl N.isinstance rfl N.tuple jc5 jd7))) (pw_or1 (jc0 op_ne (jb0 cLen0 (by rfl) N.len PySem.boot_len (ja0 (pv 0) ja2)) ja3 (nomark _))))) (ja7 (jb4 pe_bl)) jc6)
   (ja4 (ps_asg (pv 0) (pgTup0 rfl (jc9 (ja8 (i:=1) scFrac.nd rfl (Or.inl rfl)) (jc9 (ja8 (i:=2) scFrac.nd rfl (Or.inl rfl)) pgs_nil))))
   (ja4 (jf1 (PW.pt (pw_or (pt_not (pt_val (ja6 W.ok hr rfl W.mg W.kp W.bd .nil pass0 (ja0 (pv 1) ja2)))) (pw_or1 (pt_not (pt_val (ja6 W.ok hr rfl W.mg W.kp W.bd .nil pass0 (ja0 (pv 2) ja2))))))) (ja7 (jb4 pe_bl)) jc6)
   (ja7 (jb4 (pe_and (pe_cmpR op_ge (pv 2) ja3 (nomark _)) (pe_one (pe_cmpR op_eq (ja6 G.ok hr rfl G.mg G.kp G.bd .nil pass0 (ja0 (pv 1) (ja0 (pv 2) ja2))) ja3 (nomark _)))))))),?_⟩
  obtain ⟨t1,ty1,e1⟩:=ist Z hT
  refine ⟨_,rfl,t1,_,ty1,e1,_,rfl,?_⟩
  have hk:=k H (Stay.refl H)
  rcases tupCase hT with hn | ⟨a,xs,ds,rfl,rfl,ha,hs⟩
  ·rw [hn]; rw [isFrac_no hn] at hk
   exact iteT (iteT hk)
  refine iteF ?_
  refine ⟨_,rfl,a,xs,rfl,.inr (SqT.of ha),rfl,_,rfl,?_⟩
  by_cases hl:xs.length=2
  case neg =>
   have e2:(!decide (V.int (xs.length:Int)=V.int 2))=true:=vint_ne (b:=2) hl
   rw [e2]
   have hl2:ds.length ≠ 2:=by rw [← hs.len]; exact hl
   have e3:isFrac (.tuple ds)=false:=isFrac_len hl2
   rw [e3] at hk
   exact iteT hk
  have e2:(!decide (V.int (xs.length:Int)=V.int 2))=false:=by rw [hl]; rfl
  rw [e2]
  refine iteF ?_
  match xs,ds,hl,hs with
  | [x,y],_,_,.cons (d:=dx) hx (.cons (d:=dy) hy .nil) =>
  refine ⟨_,rfl,a,_,rfl,SqT.of ha,rfl,_,_,rfl,_,_,rfl,rfl,?_⟩
  refine ⟨_,rfl,b,x,dx,rfl,hx,fun H1 s1=>?_⟩
  refine ⟨_,rfl,?_⟩
  rcases intCase hx with hn | ⟨i,rfl,rfl⟩
  ·rw [hn]
   refine iteT (iteT ?_)
   have e3:isFrac (.tuple [dx,dy])=false:=by cases dx <;> first | rfl | cases hn
   rw [e3] at k
   exact k H1 s1
  refine iteF ?_
  refine ⟨_,rfl,b,y,dy,rfl,hy.stay s1,fun H2 s2=>?_⟩
  refine ⟨_,rfl,?_⟩
  rcases intCase hy with hn | ⟨j,rfl,rfl⟩
  ·rw [hn]
   refine iteT ?_
   have e3:isFrac (.tuple [.int i,dy])=false:=by cases dy <;> first | rfl | cases hn
   rw [e3] at k
   exact k H2 (s1.trans s2)
  refine iteF ?_
  refine ⟨_,rfl,_,_,rfl,rfl,_,rfl,?_⟩
  have hk2:Q (.bl (decide ((1:Int) ≤ j) && decide (Int.gcd i j=1))) H2:=k H2 (s1.trans s2)
  by_cases hj:1 ≤ j
  ·have e4:decide ((1:Int) ≤ j)=true:=by simpa using hj
   rw [e4] at hk2 ⊢
   refine iteT ⟨_,rfl,_,rfl,i,j,rfl,by omega,rfl,?_⟩
   have e5:decide (V.int ((Int.gcd i j:Nat):Int)=V.int 1)=decide (Int.gcd i j=1):=by
    rw [decide_eq_decide]
    constructor
    ·intro h; injection h with h; omega
    ·intro h; rw [h]; rfl
   rw [e5]
   simpa using hk2
  ·have e4:decide ((1:Int) ≤ j)=false:=by simpa using hj
   rw [e4] at hk2 ⊢
   exact iteF hk2
theorem scTake:FnScope ["bag","many","found"] ["bag","many"] (ja5 (top 33)):=⟨rfl,rfl,rfl,by decide +kernel,rfl,by decide +kernel,by decide +kernel⟩
theorem ok_take {f:Addr} {fd:FuncData} (F:Fun K "_law_take" "_law_take" (top 33) f fd):FnOk P w K mg base CX0 1 f fd ["bag","many"] spTake:=by
 refine F.ok scTake (fun vs H Q E h=>?_) (fun cdv A outer s H vs Q E hr h=>?_)
 ·obtain ⟨b,m,rfl,_⟩:=h; rfl
 ·obtain ⟨b,m,rfl,⟨c,d,hb⟩,h0,h1,k⟩:=h
  refine ⟨_,ja4 (jf1 (jc0 op_gt (ja9 ixL0 (pv 0) ja3 (fun _ _=>rfl)) ja3 (nomark _))
    (ja4 (jb1 (i:=2) scTake.nd rfl (Or.inl rfl) (jb3 op_mod (ja9 ixL0 (pv 0) ja3 (fun _ _=>rfl)) (pv 1)))
     (ja4 (ps_asg (jb3 op_fdiv (ja9 ixL0 (pv 0) ja3 (fun _ _=>rfl)) (pv 1)) (pg_sub (pv 0) ja3 set_list)) (ja7 (jb4 (pv 2))))) jc6)
   (ja4 (ps_asg (jb3 op_mod (jb3 op_mul (ja9 ixL0 (pv 0) ja3 (fun _ _=>rfl)) ja3) ja3) (pg_sub (pv 0) ja3 set_list))
    (ja7 (jb4 (jb3 op_mod (jb3 op_fdiv (jb3 op_mod (jb3 op_mul (jb3 op_fdiv (ja9 ixL0 (pv 0) ja3 (fun _ _=>rfl)) ja3) (jb3 jd9 (jb3 op_mod (ja9 ixL0 (pv 0) ja3 (fun _ _=>rfl)) ja3) ja3)) ja3) ja3) (pv 1))))),?_⟩
  refine ⟨_,rfl,b,_,_,_,rfl,rfl,SqL.of hb,rfl,_,_,rfl,rfl,_,rfl,?_⟩
  refine ite2 (fun hc=>?_) (fun hc=>?_)
  ·refine ⟨_,rfl,b,_,_,_,rfl,rfl,SqL.of hb,rfl,_,rfl,_,_,rfl,rfl,h0,?_⟩
   refine ⟨_,rfl,b,_,_,_,rfl,rfl,SqL.of hb,rfl,_,rfl,_,_,rfl,rfl,⟨h0,h1⟩,?_⟩
   refine ⟨_,rfl,b,_,_,0,rfl,rfl,hb,rfl,?_⟩
   refine ⟨_,rfl,k _ _ (Int.emod_nonneg _ (by omega)) (Int.emod_lt_of_pos _ h0) ⟨_,_,ja1⟩ (Kp.refl b H).bag⟩
  ·refine ⟨_,rfl,b,_,_,_,rfl,rfl,SqL.of hb,rfl,_,_,rfl,rfl,.inr ⟨by decide,by decide⟩,_,_,rfl,rfl,(by show (0:Int) < 2147483647; decide),?_⟩
   refine ⟨_,rfl,b,_,_,1,rfl,rfl,hb,rfl,?_⟩
   have hb2:(upd H b (.lst [V.int c,V.int (d * 48271 % 2147483647)])) b=some (.lst [V.int c,V.int (d * 48271 % 2147483647)]):=ja1
   refine ⟨_,rfl,b,_,_,_,rfl,rfl,SqL.of hb2,rfl,_,_,rfl,rfl,⟨by decide,by decide⟩,?_⟩
   refine ⟨_,rfl,b,_,_,_,rfl,rfl,SqL.of hb2,rfl,_,_,rfl,rfl,(by show (0:Int) < 32749; decide),_,_,rfl,rfl,?_⟩
   refine ⟨_,_,rfl,rfl,.inr ⟨?_,?_⟩,?_⟩
   ·have:=Int.emod_nonneg (d * 48271 % 2147483647) (show (32749:Int) ≠ 0 by decide); omega
   ·have:=Int.emod_lt_of_pos (d * 48271 % 2147483647) (show (0:Int) < 32749 by decide); omega
   refine ⟨_,_,rfl,rfl,(by show (0:Int) < 2147483629; decide),_,_,rfl,rfl,⟨by decide,by decide⟩,_,rfl,_,_,rfl,rfl,h0,?_⟩
   exact k _ _ (Int.emod_nonneg _ (by omega)) (Int.emod_lt_of_pos _ h0) ⟨_,_,ja1⟩ (Kp.refl b H).bag
theorem scBag:FnScope ["script","k","cell","seed"] ["script","k"] (ja5 (top 32)):=⟨rfl,rfl,rfl,by decide +kernel,rfl,by decide +kernel,by decide +kernel⟩
theorem ok_bag {f:Addr} {fd:FuncData} (F:Fun K "_law_bag" "_law_bag" (top 32) f fd) (B:Nm mg):FnOk P w K mg base CX0 1 f fd ["script","k"] (spBag K):=by
 refine F.ok scBag (fun vs H Q E h=>?_) (fun cdv A outer s H vs Q E hr h=>?_)
 ·obtain ⟨a,ns,k,rfl,_⟩:=h; rfl
 ·obtain ⟨a,ns,k,rfl,hS,h0,h1,q⟩:=h
  refine ⟨_,ja4 (jb1 (i:=2) scBag.nd rfl (Or.inl rfl) ja3)
   (ja4 (jf1 (jc0 op_lt (pv 1) (jb0 call_len_seq (by rfl) B.len PySem.boot_len (ja0 (pv 0) ja2)) (nomark _))
    (ja7 (jb1 (i:=2) scBag.nd rfl (Or.inl rfl) (jb3 op_mod (ja9 ix_list (pv 0) (pv 1) (fun _ _=>rfl)) (jb3 op_pow ja3 ja3)))) jc6)
   (ja4 (jb1 (i:=3) scBag.nd rfl (Or.inl rfl) (jb3 jd9 ja3 (jb3 op_mod (jb3 jd9 (jb3 jd9 (jb3 jd9 (jb3 op_mul (jb3 op_mod (pv 2) ja3) ja3) (jb3 op_mul (jb3 op_mul ja3 (pv 1)) (pv 1))) (jb3 op_mul ja3 (pv 1))) ja3) ja3)))
   (ja4 (jf1 (jc0 op_lt (pv 2) (jb3 op_pow ja3 ja3) (nomark _)) (ja7 (jb4 (je4 (ja0 ja3 (ja0 (pv 3) ja2))))) jc6)
   (ja7 (jb4 (je4 (ja0 (pv 2) (ja0 (pv 3) ja2)))))))),?_⟩
  refine ⟨_,rfl,_,rfl,a,_,rfl,.inl hS,_,_,rfl,rfl,_,rfl,?_⟩
  refine ite2 (fun hc=>?wayA) (fun hc=>?wayB)
  case' wayA =>
   have hk:k < (ns.length:Int):=by simpa using of_decide_eq_true hc
   have hat:atI (ns.map V.int) k=some (V.int (ns.getD k.toNat 0)):=by
    have e:(ns.map V.int)[k.toNat]?=some (V.int (ns.getD k.toNat 0)):=by
     have hl:k.toNat < ns.length:=by omega
     rw [List.getElem?_map,List.getElem?_eq_getElem hl]
     simp [List.getD,List.getElem?_eq_getElem hl]
    have:=atI_nat e
    rw [Int.toNat_of_nonneg h0] at this
    exact this
   refine ⟨_,rfl,_,rfl,a,_,_,_,rfl,rfl,hS,hat,_,_,rfl,rfl,⟨by decide,by decide,by decide⟩,_,_,rfl,rfl,(by show (0:Int) < 10 ^ 60; decide),?_⟩
  all_goals
   refine ⟨_,rfl,_,_,rfl,rfl,(by show (0:Int) < 2147483629; decide),_,_,rfl,rfl,.inr ⟨by decide,by decide⟩,?_⟩
   refine ⟨_,rfl,_,_,rfl,rfl,.inl ⟨by decide,by decide⟩,_,rfl,_,_,rfl,rfl,.inr ⟨by omega,by omega⟩,_,_,rfl,rfl,?_⟩
   refine ⟨_,rfl,_,_,rfl,rfl,.inl ⟨by decide,by decide⟩,_,_,rfl,rfl,_,_,rfl,rfl,_,_,rfl,rfl,(by show (0:Int) < 2147483645; decide),_,_,rfl,rfl,?_⟩
   refine ⟨_,rfl,_,_,rfl,rfl,⟨by decide,by decide,by decide⟩,_,_,rfl,rfl,_,rfl,?_⟩
   refine ite2 (fun hc=>?_) (fun hc=>?_)
   ·exact ⟨_,rfl,by show 2 ≤ sizeLine; decide,fun p hp=>q p _ _ hp⟩
   ·exact ⟨_,rfl,_,rfl,by show 2 ≤ sizeLine; decide,fun p hp=>q p _ _ hp⟩
theorem scLFrac:FnScope ["top","bottom","one","other","by"] ["top","bottom"] (ja5 (top 34)):=⟨rfl,rfl,rfl,by decide +kernel,rfl,by decide +kernel,by decide +kernel⟩
theorem ok_frac {f:Addr} {fd:FuncData} (F:Fun K "_law_frac" "_law_frac" (top 34) f fd) (B:Nm mg):FnOk P w K mg base CX0 1 f fd ["top","bottom"] spFrac:=by
 refine F.ok scLFrac (fun vs H Q E h=>?_) (fun cdv A outer s H vs Q E hr h=>?_)
 ·obtain ⟨t,u,rfl,_⟩:=h; rfl
 ·obtain ⟨t,u,rfl,u0,u1,k⟩:=h
  refine ⟨_,ja4 (ps_par (i:=2) (j:=3) rfl scLFrac.nd rfl rfl (by decide) rfl rfl (ja0 (pv 0) (ja0 (pv 1) ja2)) (by rfl))
   (ja4 (ps_while PassesOwn.never (jc0 op_ne (pv 3) ja3 (nomark _)) (ja7 (ps_par (i:=2) (j:=3) rfl scLFrac.nd rfl rfl (by decide) rfl rfl (ja0 (pv 3) (ja0 (jb3 op_mod (pv 2) (pv 3)) ja2)) (by rfl))))
   (ja4 (jb1 (i:=4) scLFrac.nd rfl (Or.inl rfl) (jb3 op_mul (jb0 call_abs (by rfl) B.abs boot_abs (ja0 (pv 2) ja2)) (jb3 op_sub ja3 (jb3 op_mul ja3 (jb6 call_int1 (by rfl) B.int boot_int (ja0 (pe_cmpR op_lt (pv 1) ja3 (nomark _)) ja2))))))
   (ja7 (jb4 (jd6 (ja0 (jb3 op_fdiv (pv 0) (pv 4)) (ja0 (jb3 op_fdiv (pv 1) (pv 4)) ja2))))))),?_⟩
  refine ⟨_,rfl,_,rfl,_,_,rfl,?_⟩
  refine while_by (fun σ H'=>H'=H∧∃ a c:Int,σ=[some (.int t),some (.int u),some (.int a),some (.int c),none]∧0 ≤ c∧Int.gcd a c=Int.gcd t u)
   (fun σ _=>match σ with | [_,_,_,some (.int c),_]=>c.toNat | _=>0) ⟨rfl,t,u,rfl,by omega,rfl⟩ ?_ ?_
  ·rintro σ H' ⟨rfl,a,c,rfl,c0,e⟩
   refine ⟨_,rfl,rfl,_,rfl,?_⟩
   by_cases hc:c=0
   ·subst hc
    refine iteF ?_
    refine ⟨_,rfl,_,rfl,_,rfl,_,_,rfl,rfl,.inr ⟨_,rfl,_,_,rfl,rfl,.inl ⟨by decide,by decide⟩,_,_,rfl,rfl,?_⟩⟩
    have e2:decide (u < 0)=false:=decide_eq_false (by omega)
    rw [abs_gcd,e,e2]
    obtain ⟨g0,g1⟩:=gcd_pos (t:=t) u0
    have e3:(Int.gcd t u:Int) * (1 - 2 * (if false=true then (1:Int) else 0))=(Int.gcd t u:Int):=by simp
    refine ⟨_,_,rfl,rfl,.inl ⟨by omega,by omega⟩,?_⟩
    show gName 4 (V.int ((Int.gcd t u:Int) * (1 - 2 * (if false=true then (1:Int) else 0)))) _ _ _
    rw [e3]
    exact ⟨_,rfl,_,rfl,_,_,rfl,rfl,⟨g0,by omega⟩,_,rfl,_,rfl,_,_,rfl,rfl,⟨g0,by omega⟩,by show 2 ≤ sizeLine; decide,fun p hp=>k p hp⟩
   ·have e1:(!decide (V.int c=V.int 0))=true:=by simp [hc]
    rw [e1]
    refine iteT ?_
    have cp:0 < c:=by omega
    refine ⟨_,rfl,_,rfl,_,rfl,_,_,rfl,rfl,cp,_,_,rfl,⟨rfl,c,a % c,rfl,Int.emod_nonneg _ hc,gcd_emod.trans e⟩,?_⟩
    have h1:=Int.emod_lt_of_pos a cp
    have h2:=Int.emod_nonneg a hc
    show (a % c).toNat < c.toNat
    omega
  ·rintro σ H' Q1 Q2 himp ⟨v,e,sc,kk,ek,q⟩
   exact ⟨v,e,sc,kk,ek,himp _ _ q⟩
theorem scLPurse:FnScope ["bag","way"] ["bag"] (ja5 (top 41)):=⟨rfl,rfl,rfl,by decide +kernel,rfl,by decide +kernel,by decide +kernel⟩
theorem ok_lpurse {f fT fF:Addr} {fd dT dF:FuncData} (F:Fun K "_law_purse" "_law_purse" (top 41) f fd) (T:Cal K mg P w base "_law_take" 1 ["bag","many"] spTake fT dT) (R:Cal K mg P w base "_law_frac" 1 ["top","bottom"] spFrac fF dF):FnOk P w K mg base CX0 2 f fd ["bag"] spPu:=by
 refine F.ok scLPurse (fun vs H Q E h=>?_) (fun cdv A outer s H vs Q E hr h=>?_)
 ·obtain ⟨b,rfl,_⟩:=h; rfl
 ·obtain ⟨b,rfl,hb,k⟩:=h
  refine ⟨_,ja4 (jb1 (i:=1) scLPurse.nd rfl (Or.inl rfl) (ja6 T.ok hr rfl T.mg T.kp T.bd .nil pass0 (ja0 (pv 0) (ja0 ja3 ja2))))
   (ja4 (jf1 (jc0 op_eq (pv 1) ja3 (nomark _)) (ja7 (jb4 (jd6 (ja0 (jb3 jd9 ja3 (ja6 T.ok hr rfl T.mg T.kp T.bd .nil pass0 (ja0 (pv 0) (ja0 ja3 ja2)))) (ja0 ja3 ja2))))) jc6)
   (ja4 (jf1 (jc0 op_eq (pv 1) ja3 (nomark _)) (ja7 (jb4 (jd6 (ja0 (jb3 jd9 ja3 (ja6 T.ok hr rfl T.mg T.kp T.bd .nil pass0 (ja0 (pv 0) (ja0 (jb3 op_pow ja3 ja3) ja2)))) (ja0 ja3 ja2))))) jc6)
   (ja4 (jf1 (jc0 op_eq (pv 1) ja3 (nomark _)) (ja7 (jb4 (ja6 R.ok hr rfl R.mg R.kp R.bd .nil pass0 (ja0 (jb3 jd9 ja3 (ja6 T.ok hr rfl T.mg T.kp T.bd .nil pass0 (ja0 (pv 0) (ja0 (jb3 op_pow ja3 ja3) ja2)))) (ja0 (jb3 jd9 ja3 (ja6 T.ok hr rfl T.mg T.kp T.bd .nil pass0 (ja0 (pv 0) (ja0 (jb3 op_pow ja3 ja3) ja2)))) ja2))))) jc6)
   (ja7 (jb4 (ja6 R.ok hr rfl R.mg R.kp R.bd .nil pass0 (ja0 (jb3 jd9 ja3 (ja6 T.ok hr rfl T.mg T.kp T.bd .nil pass0 (ja0 (pv 0) (ja0 ja3 ja2)))) (ja0 (jb3 jd9 ja3 (ja6 T.ok hr rfl T.mg T.kp T.bd .nil pass0 (ja0 (pv 0) (ja0 ja3 ja2)))) ja2)))))))),?_⟩
  refine ⟨_,rfl,b,_,rfl,hb,by decide,by decide,fun r H1 r0 r1 hb1 kp1=>?_⟩
  refine ⟨_,rfl,rfl,_,rfl,ite2 (fun _=>?_) (fun _=>?_)⟩
  ·refine ⟨_,rfl,b,_,rfl,hb1,by decide,by decide,fun r2 H2 p0 p1 hb2 kp2=>⟨_,_,rfl,rfl,by show 2 ≤ sizeLine; decide,fun p hp=>k _ _ _ (hb2.new hp) ((kp1.trans kp2).new hp) trI2 (purse_one (by omega) (by omega))⟩⟩
  refine ⟨_,rfl,rfl,_,rfl,ite2 (fun _=>?_) (fun _=>?_)⟩
  ·refine ⟨_,rfl,_,_,rfl,rfl,⟨by decide,by decide,by decide⟩,b,_,rfl,hb1,by decide,by decide,fun r2 H2 p0 p1 hb2 kp2=>⟨_,_,rfl,rfl,by show 2 ≤ sizeLine; decide,fun p hp=>?_⟩⟩
   have p1':r2 < 1000000:=p1
   exact k _ _ _ (hb2.new hp) ((kp1.trans kp2).new hp) trI2 (purse_one (by omega) (by omega))
  refine ⟨_,rfl,rfl,_,rfl,ite2 (fun _=>?_) (fun _=>?_)⟩
  ·refine ⟨_,rfl,_,_,rfl,rfl,⟨by decide,by decide,by decide⟩,b,_,rfl,hb1,by decide,by decide,fun r2 H2 p0 p1 hb2 kp2=>⟨_,_,rfl,rfl,?_⟩⟩
   refine ⟨_,rfl,_,_,rfl,rfl,⟨by decide,by decide,by decide⟩,b,_,rfl,hb2,by decide,by decide,fun r3 H3 q0 q1 hb3 kp3=>⟨_,_,rfl,rfl,?_⟩⟩
   have p1':r2 < 1000000:=p1
   have q1':r3 < 1000000:=q1
   exact ⟨_,_,rfl,by omega,by omega,fun p hp=>k _ _ _ (hb3.new hp) (((kp1.trans kp2).trans kp3).new hp) trI2 (purse_low (by omega) (by omega) (by omega) (by omega))⟩
  ·refine ⟨_,rfl,b,_,rfl,hb1,by decide,by decide,fun r2 H2 p0 p1 hb2 kp2=>⟨_,_,rfl,rfl,?_⟩⟩
   refine ⟨_,rfl,b,_,rfl,hb2,by decide,by decide,fun r3 H3 q0 q1 hb3 kp3=>⟨_,_,rfl,rfl,?_⟩⟩
   exact ⟨_,_,rfl,by omega,by omega,fun p hp=>k _ _ _ (hb3.new hp) (((kp1.trans kp2).trans kp3).new hp) trI2 (purse_low (by omega) (by omega) (by omega) (by omega))⟩
theorem scWishes:FnScope ["bag","goods","most","row","at"] ["bag","goods"] (ja5 (top 42)):=⟨rfl,rfl,rfl,by decide +kernel,rfl,by decide +kernel,by decide +kernel⟩
theorem ok_wishes {f fT:Addr} {fd dT:FuncData} (F:Fun K "_law_wishes" "_law_wishes" (top 42) f fd) (B:Nm mg) (T:Cal K mg P w base "_law_take" 1 ["bag","many"] spTake fT dT):FnOk P w K mg base CX0 2 f fd ["bag","goods"] spWi:=by
 refine F.ok scWishes (fun vs H Q E h=>?_) (fun cdv A outer s H vs Q E hr h=>?_)
 ·obtain ⟨b,g,rfl,_⟩:=h; rfl
 ·obtain ⟨b,g,rfl,hb,g0,g1,k⟩:=h
  refine ⟨_,ja4 (jb1 (i:=2) scWishes.nd rfl (Or.inr rfl) (ja9 ixL0 (je4 (ja0 ja3 (ja0 ja3 (ja0 ja3 (ja0 ja3 (ja0 ja3 ja2)))))) (ja6 T.ok hr rfl T.mg T.kp T.bd .nil pass0 (ja0 (pv 0) (ja0 ja3 ja2))) (fun _ _=>rfl)))
   (ja4 (ps_setC (i:=3) (own:=["k"]) (cap:=["bag","most"]) (ix:=[0,2]) scWishes.nd rfl rfl (BlkOk.of (ja5 (top 42)).names ["bag","goods","most","row","at"]) rfl (jd2 rfl B.range (ja0 (pv 1) ja2))
    (fun C fp s H=>⟨ja8 (i:=0) (show List.Nodup (["k","bag","most"]:List Str) by decide +kernel) rfl (Or.inl rfl),jb9,ja6 T.ok hr rfl T.mg T.kp T.bd .nil pass0 (ja0 (pv 1) (ja0 (pv 2) ja2))⟩))
   (ja4 (jb1 (i:=4) scWishes.nd rfl (Or.inl rfl) (ja6 T.ok hr rfl T.mg T.kp T.bd .nil pass0 (ja0 (pv 0) (ja0 (pv 1) ja2))))
   (ja4 (ps_asg (jb0 (call_max2 rfl) (by rfl) B.max boot_max (ja0 ja3 (ja0 (ja9 ixL0 (pv 3) (pv 4) (fun _ _=>rfl)) ja2))) (pg_sub (pv 3) (pv 4) set_list))
   (ja7 (jb4 (jb6 cTup0 (by rfl) B.tuple jc5 (ja0 (pv 3) ja2))))))),?_⟩
  refine ⟨by show 5 ≤ sizeLine; decide,fun p hp=>⟨_,rfl,b,_,rfl,hb.new hp,by decide,by decide,fun r H1 r0 r1 hb1 kp1=>?_⟩⟩
  have np:=hb.ne hp
  obtain ⟨m,em,m0,m1⟩:=menu5b r0 r1
  refine ⟨p,_,_,_,rfl,rfl,SqL.of (kp1 p _ np.symm ja1),em,?_⟩
  have kp1':Kp b H H1:=((Kp.refl b H).new hp).trans kp1
  refine ⟨_,rfl,g,rfl,by omega,by omega,fun acc hacc=>?_⟩
  have nacc:=hb1.ne hacc
  refine je8 (fun i ys H'=>Bag H' b∧Kp b H1 H'∧∃ ns:List Int,ys=ns.map V.int∧ns.length=i∧∀ n ∈ ns,0 ≤ n∧n ≤ 100) ⟨hb1.new hacc,(Kp.refl b H1).new hacc,[],rfl,rfl,fun n hn=>nomatch hn⟩ ?_ ?_
  ·rintro i ys H' hi hy ⟨hb',kp',ns,rfl,hl,hnn⟩
   refine je9 ?_
   refine ⟨_,rfl,_,rfl,b,m,rfl,hb',m0,by omega,fun r2 H5 p0 p1 hb5 kp5=>⟨_,kp5 acc _ nacc.symm hy,?_,Cn.of ja1 ⟨?_,(kp'.trans kp5).acc hacc,ns ++ [r2],?_,?_,?_⟩⟩⟩
   ·rw [List.length_map,sz]; omega
   ·obtain ⟨c,d,e⟩:=hb5
    exact ⟨c,d,by rw [jb5 nacc]; exact e⟩
   ·rw [List.map_append]; rfl
   ·rw [List.length_append,hl]; rfl
   ·intro n hn
    rcases List.mem_append.mp hn with z | z
    ·exact hnn n z
    ·obtain rfl:n=r2:=by simpa using z
     exact ⟨p0,by omega⟩
  ·rintro ys H' hy ⟨hb',kp',ns,rfl,hl,hnn⟩
   refine ⟨_,rfl,_,rfl,b,g,rfl,hb',g0,by omega,fun r2 H5 p0 p1 hb5 kp5=>?_⟩
   have hy5:=kp5 acc _ nacc.symm hy
   obtain ⟨ea,ex,em2⟩:=jd8 (ns:=ns) p0 (by omega)
   refine ⟨_,rfl,_,rfl,acc,_,_,_,rfl,rfl,SqL.of hy5,ea,_,_,rfl,?_⟩
   refine ⟨_,rfl,_,rfl,acc,_,_,r2.toNat,rfl,rfl,hy5,ex,?_⟩
   have es:(ns.map V.int).set r2.toNat (V.int (if ns.getD r2.toNat 0 > 1 then ns.getD r2.toNat 0 else 1))=(ns.set r2.toNat (if ns.getD r2.toNat 0 > 1 then ns.getD r2.toNat 0 else 1)).map V.int:=by rw [List.map_set]
   refine ⟨_,rfl,acc,_,rfl,.inl ⟨SqL.of ja1,fun l hl2=>?_⟩⟩
   have kk:Kp b H H5:=(kp1'.trans kp').trans kp5
   have hHacc:H acc=none:=kp1'.free hb hacc hb1
   have hb6:Bag (upd H5 acc (.lst ((ns.map V.int).set r2.toNat (V.int (if ns.getD r2.toNat 0 > 1 then ns.getD r2.toNat 0 else 1))))) b:=by
    obtain ⟨c,d,e⟩:=hb5
    exact ⟨c,d,by rw [jb5 nacc]; exact e⟩
   refine k l (ns.set r2.toNat (if ns.getD r2.toNat 0 > 1 then ns.getD r2.toNat 0 else 1)) _ (hb6.new hl2) ((kk.acc hHacc).new hl2) ?_ ?_ ?_ ⟨(if ns.getD r2.toNat 0 > 1 then ns.getD r2.toNat 0 else 1),List.mem_of_getElem? (i:=r2.toNat) (List.getElem?_set_self (by omega)),by split <;> omega⟩
   ·rw [ja1,es]
   ·rw [List.length_set,hl]; omega
   ·intro n hn
    rcases List.mem_or_eq_of_mem_set hn with z | z
    ·exact hnn n z
    ·rw [z]; have:=hnn _ em2; split <;> omega
theorem scMarket:FnScope ["bag","goods","buyers","most","amounts","purses","wishes"] ["bag"] (ja5 (top 43)):=⟨rfl,rfl,rfl,by decide +kernel,rfl,by decide +kernel,by decide +kernel⟩
theorem ok_market {f fT fP fW:Addr} {fd dT dP dW:FuncData} (F:Fun K "_law_market" "_law_market" (top 43) f fd) (B:Nm mg) (T:Cal K mg P w base "_law_take" 1 ["bag","many"] spTake fT dT)
  (R:Cal K mg P w base "_law_purse" 2 ["bag"] spPu fP dP) (W:Cal K mg P w base "_law_wishes" 2 ["bag","goods"] spWi fW dW):FnOk P w K mg base CX0 3 f fd ["bag"] spMk:=by
 refine F.ok scMarket (fun vs H Q E h=>?_) (fun cdv A outer s H vs Q E hr h=>?_)
 ·obtain ⟨b,rfl,_⟩:=h; rfl
 ·obtain ⟨b,rfl,hb,k⟩:=h
  have hr1:Room 1 _:=hr.mono (by decide)
  refine ⟨_,ja4 (jb1 (i:=1) scMarket.nd rfl (Or.inr rfl) (jb3 jd9 ja3 (ja6 T.ok hr1 rfl T.mg T.kp T.bd .nil pass0 (ja0 (pv 0) (ja0 (ja9 ixL0 (je4 (ja0 ja3 (ja0 ja3 ja2))) (ja6 T.ok hr1 rfl T.mg T.kp T.bd .nil pass0 (ja0 (pv 0) (ja0 ja3 ja2))) (fun _ _=>rfl)) ja2)))))
   (ja4 (jb1 (i:=2) scMarket.nd rfl (Or.inl rfl) (jb3 jd9 ja3 (ja6 T.ok hr1 rfl T.mg T.kp T.bd .nil pass0 (ja0 (pv 0) (ja0 (ja9 ixL0 (je4 (ja0 ja3 (ja0 ja3 ja2))) (ja6 T.ok hr1 rfl T.mg T.kp T.bd .nil pass0 (ja0 (pv 0) (ja0 ja3 ja2))) (fun _ _=>rfl)) ja2)))))
   (ja4 (jb1 (i:=3) scMarket.nd rfl (Or.inr rfl) (ja9 ixL0 (je4 (ja0 ja3 (ja0 ja3 (ja0 ja3 ja2)))) (ja6 T.ok hr1 rfl T.mg T.kp T.bd .nil pass0 (ja0 (pv 0) (ja0 ja3 ja2))) (fun _ _=>rfl)))
   (ja4 (jb1 (i:=4) scMarket.nd rfl (Or.inl rfl) (jb6 cTup0 (by rfl) B.tuple jc5 (ja0 (jc3 (own:=["k"]) (cap:=["bag","most"]) (ix:=[0,3]) (BlkOk.of (ja5 (top 43)).names ["bag","goods","buyers","most","amounts","purses","wishes"]) rfl (jd2 rfl B.range (ja0 (pv 1) ja2))
    (fun C fp s H=>⟨ja8 (i:=0) (show List.Nodup (["k","bag","most"]:List Str) by decide +kernel) rfl (Or.inl rfl),jb9,jb3 jd9 ja3 (ja6 T.ok hr1 rfl T.mg T.kp T.bd .nil pass0 (ja0 (pv 1) (ja0 (pv 2) ja2)))⟩)) ja2)))
   (ja4 (jb1 (i:=5) scMarket.nd rfl (Or.inl rfl) (jb6 cTup0 (by rfl) B.tuple jc5 (ja0 (jc3 (own:=["k"]) (cap:=["bag"]) (ix:=[0]) (BlkOk.of (ja5 (top 43)).names ["bag","goods","buyers","most","amounts","purses","wishes"]) rfl (jd2 rfl B.range (ja0 (pv 2) ja2))
    (fun C fp s H=>⟨ja8 (i:=0) (show List.Nodup (["k","bag"]:List Str) by decide +kernel) rfl (Or.inl rfl),jb9,ja6 R.ok hr rfl R.mg R.kp R.bd .nil pass0 (ja0 (pv 1) ja2)⟩)) ja2)))
   (ja4 (jb1 (i:=6) scMarket.nd rfl (Or.inl rfl) (jb6 cTup0 (by rfl) B.tuple jc5 (ja0 (jc3 (own:=["k"]) (cap:=["bag","goods"]) (ix:=[0,1]) (BlkOk.of (ja5 (top 43)).names ["bag","goods","buyers","most","amounts","purses","wishes"]) rfl (jd2 rfl B.range (ja0 (pv 2) ja2))
    (fun C fp s H=>⟨ja8 (i:=0) (show List.Nodup (["k","bag","goods"]:List Str) by decide +kernel) rfl (Or.inl rfl),jb9,ja6 W.ok hr rfl W.mg W.kp W.bd .nil pass0 (ja0 (pv 1) (ja0 (pv 2) ja2))⟩)) ja2)))
   (ja7 (jb4 (jd6 (ja0 (pv 4) (ja0 (pv 5) (ja0 (pv 6) ja2))))))))))),?_⟩
  refine ⟨_,rfl,by show 2 ≤ sizeLine; decide,fun p1 hp1=>⟨_,rfl,b,_,rfl,hb.new hp1,by decide,by decide,fun r1 H1 r1a r1b hb1 kp1=>?_⟩⟩
  obtain ⟨m1,em1,m1a,m1b⟩:=menu2 r1a r1b
  refine ⟨p1,_,_,_,rfl,rfl,SqL.of (kp1 p1 _ (hb.ne hp1).symm ja1),em1,b,m1,rfl,hb1,m1a,by omega,fun g H2 g0 g1 hb2 kp2=>⟨_,_,rfl,rfl,?_⟩⟩
  have k2:Kp b H H2:=(((Kp.refl b H).new hp1).trans kp1).trans kp2
  refine ⟨_,rfl,by show 2 ≤ sizeLine; decide,fun p3 hp3=>⟨_,rfl,b,_,rfl,hb2.new hp3,by decide,by decide,fun r3 H3 r3a r3b hb3 kp3=>?_⟩⟩
  obtain ⟨m3,em3,m3a,m3b⟩:=menu2 r3a r3b
  refine ⟨p3,_,_,_,rfl,rfl,SqL.of (kp3 p3 _ (hb2.ne hp3).symm ja1),em3,b,m3,rfl,hb3,m3a,by omega,fun u H4 u0 u1 hb4 kp4=>⟨_,_,rfl,rfl,?_⟩⟩
  have k4:Kp b H H4:=((k2.new hp3).trans kp3).trans kp4
  refine ⟨by show 3 ≤ sizeLine; decide,fun p5 hp5=>⟨_,rfl,b,_,rfl,hb4.new hp5,by decide,by decide,fun r5 H5 r5a r5b hb5 kp5=>?_⟩⟩
  obtain ⟨m5,em5,m5a,m5b⟩:=menu3c r5a r5b
  refine ⟨p5,_,_,_,rfl,rfl,SqL.of (kp5 p5 _ (hb4.ne hp5).symm ja1),em5,?_⟩
  have k5:Kp b H H5:=(k4.new hp5).trans kp5
  refine ⟨_,rfl,1 + g,rfl,by omega,by omega,fun a6 ha6=>?_⟩
  refine comp_bag hb5 ha6 (by omega) RA (fun _ _ _ _ h=>h) (fun i H' hi hb' kp' Z hZ=>?_) (fun am H6 hb6 kp6 hl6 hr6 hy6=>?_)
  ·exact ⟨_,rfl,_,rfl,b,m5,rfl,hb',m5a,by omega,fun r H7 q0 q1 hb7 kp7=>⟨_,_,rfl,rfl,hZ _ _ hb7 kp7 ⟨_,rfl,by omega,by omega⟩⟩⟩
  refine ⟨a6,am,rfl,.inl ⟨SqL.of hy6,fun pa hpa=>?_⟩⟩
  have k6:=(k5.trans kp6).new (o:=.tup am) hpa
  have b6:=hb6.new (o:=.tup am) hpa
  refine ⟨_,rfl,1 + u,rfl,by omega,by omega,fun a7 ha7=>?_⟩
  refine comp_bag b6 ha7 (by omega) RP (fun _ _ _ t h=>by obtain ⟨a,t1,u1,e,h1,h2⟩:=h; exact ⟨a,t1,u1,e,t _ _ h1,h2⟩) (fun i H' hi hb' kp' Z hZ=>?_) (fun pu H7 hb7 kp7 hl7 hr7 hy7=>?_)
  ·exact ⟨_,rfl,b,rfl,hb',fun v d H8 hb8 kp8 tr pu=>hZ _ _ hb8 kp8 (RP.of tr pu)⟩
  refine ⟨a7,pu,rfl,.inl ⟨SqL.of hy7,fun pp hpp=>?_⟩⟩
  have k7:=(k6.trans kp7).new (o:=.tup pu) hpp
  have b7:=hb7.new (o:=.tup pu) hpp
  refine ⟨_,rfl,1 + u,rfl,by omega,by omega,fun a8 ha8=>?_⟩
  refine comp_bag b7 ha8 (by omega) (RW (1 + g)) (fun _ _ _ t h=>by obtain ⟨a,ns,e,h1,h2⟩:=h; exact ⟨a,ns,e,t _ _ h1,h2⟩) (fun i H' hi hb' kp' Z hZ=>?_) (fun ws H8 hb8 kp8 hl8 hw8 hy8=>?_)
  ·exact ⟨_,rfl,_,rfl,b,1 + g,rfl,hb',by omega,by omega,fun q ns H9 hb9 kp9 e1 e2 e3 e4=>hZ _ _ hb9 kp9 ⟨q,ns,rfl,e1,e2,e3,e4⟩⟩
  refine ⟨a8,ws,rfl,.inl ⟨SqL.of hy8,fun pw hpw=>?_⟩⟩
  have k8:=(k7.trans kp8).new (o:=.tup ws) hpw
  have b8:=hb8.new (o:=.tup ws) hpw
  refine ⟨_,rfl,_,rfl,_,rfl,by show 3 ≤ sizeLine; decide,fun p hp=>?_⟩
  have tB:Tm H7 (upd (upd H8 pw (.tup ws)) p (.tup [.ref pa,.ref pp,.ref pw])):=((Tm.new hpp).trans ((kp8.tm b7).trans (Tm.new hpw))).trans (Tm.new hp)
  have tB2:Tm (upd H7 pp (.tup pu)) (upd (upd H8 pw (.tup ws)) p (.tup [.ref pa,.ref pp,.ref pw])):=((kp8.tm b7).trans (Tm.new hpw)).trans (Tm.new hp)
  have tA:Tm (upd H6 pa (.tup am)) (upd (upd H8 pw (.tup ws)) p (.tup [.ref pa,.ref pp,.ref pw])):=(kp7.tm b6).trans tB
  have tC:Tm H8 (upd (upd H8 pw (.tup ws)) p (.tup [.ref pa,.ref pp,.ref pw])):=(Tm.new hpw).trans (Tm.new hp)
  have hpa2:=tA pa _ ja1
  have hpp2:=tB2 pp _ ja1
  have hpw2:=(Tm.new (o:=.tup [.ref pa,.ref pp,.ref pw]) hp) pw _ ja1
  have hgn:((1 + g).toNat:Int)=1 + g:=by omega
  obtain ⟨da,ta,sa⟩:=trAll (b:=b) (ys:=am) fun y hy=>RA.tr (H:=upd (upd H8 pw (.tup ws)) p (.tup [.ref pa,.ref pp,.ref pw])) (hr6 y hy)
  obtain ⟨dp,tp,sp⟩:=trAll (b:=b) (ys:=pu) fun y hy=>RP.tr (H:=upd (upd H8 pw (.tup ws)) p (.tup [.ref pa,.ref pp,.ref pw])) (by obtain ⟨a,t1,u1,e,h1,h2⟩:=hr7 y hy; exact ⟨a,t1,u1,e,tB _ _ h1,h2⟩)
  obtain ⟨dw,tw,sw⟩:=trAll (b:=b) (ys:=ws) fun y hy=>RW.tr (g:=(1 + g).toNat) (H:=upd (upd H8 pw (.tup ws)) p (.tup [.ref pa,.ref pp,.ref pw])) (by obtain ⟨a,ns,e,h1,h2⟩:=hw8 y hy; exact ⟨a,ns,e,tC _ _ h1,by rw [hgn]; exact h2⟩)
  have la:=ta.len
  have lp:=tp.len
  have lw:=tw.len
  have eg:(1 + g).toNat=da.length:=by omega
  rw [eg] at sw
  obtain ⟨sw,spo⟩:=all_both sw
  refine k p da dp dw _ (b8.new hp) (k8.new hp) (.tup ja1 (.cons (.tup hpa2 ta) (.cons (.tup hpp2 tp) (.cons (.tup hpw2 tw) .nil)))) (isMk_of (by omega) (by omega) sa (by omega) (by omega) sp (by omega) sw) spo
end
end K9
namespace KM
open PySem L2 KG EX
def intOf:PyData→Int
 | .int i=>i
 | _=>0
def rowOf:PyData→List Int
 | .tuple rs=>rs.map intOf
 | _=>[]
def rowsOf (wi:List PyData):List (List Int):=wi.map rowOf
theorem rows_of {b:Addr} {H:Hp} {n:Nat}:∀ {xw:List V} {wi:List PyData},TrVs b H xw wi→wi.all (isRow n 0 100)=true→Rws H xw (rowsOf wi)∧∀ r ∈ rowsOf wi,r.length=n∧∀ k ∈ r,0 ≤ k∧k ≤ 100
 | _,_,.nil,_=>⟨.nil,fun r h=>nomatch h⟩
 | _,_,.cons (d:=d) h t,e=>by
  rw [List.all_cons,Bool.and_eq_true] at e
  obtain ⟨h1,h2⟩:=rows_of t e.2
  obtain ⟨rs,rfl,hl,hr⟩:=rowShape e.1
  cases h with
  | @tup a xs _ ha hs =>
  obtain ⟨ns,rfl,hn⟩:=intsOf hs hr
  have er:rs=ns.map PyData.int:=by
   clear ha hn hr hl e
   induction ns generalizing rs with
   | nil=>cases hs; rfl
   | cons m ns ih =>
    cases hs with
    | cons hx ht=>cases hx; rw [ih _ ht]; rfl
  subst er
  have eo:rowOf (.tuple (ns.map PyData.int))=ns:=by
   show (ns.map PyData.int).map intOf=ns
   rw [List.map_map]
   have:(intOf ∘ PyData.int)=fun i=>i:=rfl
   rw [this,List.map_id']
  refine ⟨?_,fun r hr'=>?_⟩
  ·show Rws H _ (rowOf (.tuple (ns.map PyData.int)) :: rowsOf _)
   rw [eo]
   exact .cons ⟨a,rfl,ha⟩ h1
  ·have hr2:r=rowOf (.tuple (ns.map PyData.int)) ∨ r ∈ rowsOf _:=List.mem_cons.mp hr'
   rcases hr2 with z | z
   ·rw [z,eo]; rw [List.length_map] at hl; exact ⟨hl,hn⟩
   ·exact h2 r z
structure MkAt (b:Addr) (H:Hp) (p pa pp pw:Addr) (xa xp xw:List V) (am pu wi:List PyData):Prop where
 hp:H p=some (.tup [.ref pa,.ref pp,.ref pw])
 ha:H pa=some (.tup xa)
 hpp:H pp=some (.tup xp)
 hw:H pw=some (.tup xw)
 ta:TrVs b H xa am
 tp:TrVs b H xp pu
 tw:TrVs b H xw wi
 ok:isMk (.tuple [.tuple am,.tuple pu,.tuple wi])=true
theorem MkAt.of {b p:Addr} {H:Hp} {am pu wi:List PyData} (h:TrV b H (.ref p) (.tuple [.tuple am,.tuple pu,.tuple wi])) (m:isMk (.tuple [.tuple am,.tuple pu,.tuple wi])=true):∃ pa pp pw xa xp xw,MkAt b H p pa pp pw xa xp xw am pu wi:=by
 cases h with
 | @tup _ xs0 _ hp hs0 =>
 match xs0,hs0 with
 | _,.cons (.tup (a:=pa) (xs:=xa) ha hsa) (.cons (.tup (a:=pp) (xs:=xp) hpp hsp) (.cons (.tup (a:=pw) (xs:=xw) hpw hsw) .nil))=>exact ⟨pa,pp,pw,xa,xp,xw,hp,ha,hpp,hpw,hsa,hsp,hsw,m⟩
theorem MkAt.stay {b p pa pp pw:Addr} {H H':Hp} {xa xp xw:List V} {am pu wi:List PyData} (m:MkAt b H p pa pp pw xa xp xw am pu wi) (s:Stay H H'):MkAt b H' p pa pp pw xa xp xw am pu wi :=
 ⟨s _ _ m.hp,s _ _ m.ha,s _ _ m.hpp,s _ _ m.hw,m.ta.stay s,m.tp.stay s,m.tw.stay s,m.ok⟩
theorem MkAt.kp {b p pa pp pw:Addr} {H H':Hp} {xa xp xw:List V} {am pu wi:List PyData} (m:MkAt b H p pa pp pw xa xp xw am pu wi) (k:Kp b H H') (hb:Bag H b):MkAt b H' p pa pp pw xa xp xw am pu wi :=
 ⟨k.tm hb _ _ m.hp,k.tm hb _ _ m.ha,k.tm hb _ _ m.hpp,k.tm hb _ _ m.hw,m.ta.kp k hb,m.tp.kp k hb,m.tw.kp k hb,m.ok⟩
def spLWished:Sp:=fun vs H Q _=>∃ (p pa pw:Addr) (z:V) (am ws:List V) (M:List (List Int)),vs=[.ref p]∧H p=some (.tup [.ref pa,z,.ref pw])∧H pa=some (.tup am)∧H pw=some (.tup ws)∧Rws H ws M∧M ≠ [] ∧
 (∀ r ∈ M,r.length=am.length)∧am.length ≤ 6∧ws.length ≤ 6∧∀ (q:Addr) (H':Hp),Stay H H'→H q=none→H' q=some (.lst (jd5 am.length M))→Q (.ref q) H'
theorem MkAt.lw {b p pa pp pw:Addr} {H:Hp} {xa xp xw:List V} {am pu wi:List PyData} (m:MkAt b H p pa pp pw xa xp xw am pu wi):Rws H xw (rowsOf wi)∧rowsOf wi ≠ []∧(∀ r ∈ rowsOf wi,r.length=xa.length)∧(∀ r ∈ rowsOf wi,∀ k ∈ r,0 ≤ k∧k ≤ 100)∧1 ≤ xa.length∧xa.length ≤ 6∧1 ≤ xw.length∧xw.length ≤ 6∧xp.length=xw.length:=by
 obtain ⟨h1,h2,h3,h4,h5,h6,h7,h8⟩:=isMk_out m.ok
 obtain ⟨r1,r2⟩:=rows_of m.tw h8
 have la:=m.ta.len
 have lp:=m.tp.len
 have lw:=m.tw.len
 refine ⟨r1,?_,fun r hr=>by rw [(r2 r hr).1,la],fun r hr=>(r2 r hr).2,by omega,by omega,by omega,by omega,by omega⟩
 intro z
 have:=congrArg List.length z
 unfold rowsOf at this
 rw [List.length_map] at this
 simp at this
 rw [this] at h7
 simp at h7
 omega
theorem in_wished {M:List (List Int)} {g j:Nat} (hj:j < g):inV (V.int (0 + (j:Int))) (jd5 g M)=has M j:=by
 unfold inV jd5
 rw [List.any_map,Bool.eq_iff_iff,List.any_eq_true]
 constructor
 ·rintro ⟨k,hk,e⟩
  rw [List.mem_filter] at hk
  have e':(0 + (k:Int))=0 + (j:Int):=by simpa [eqV] using e
  have:k=j:=by omega
  subst this
  exact hk.2
 ·intro h
  refine ⟨j,by rw [List.mem_filter]; exact ⟨by simpa using hj,h⟩,by simp [eqV]⟩
theorem flat_wished (g:Nat) (M:List (List Int)):(jd5 g M).all flatV=true:=by
 unfold jd5
 rw [List.all_map]; simp [Function.comp_def,flatV]
def je0 (wd:Bool):PyData→Bool
 | .tuple [.int t,.int u]=>isFrac (.tuple [.int t,.int u]) && (if wd then decide (0 < t) else decide (t=0) && decide (u=1))
 | _=>false
def isPrs (g:Nat) (M:List (List Int)):PyData→Bool
 | .tuple ds=>decide (ds.length=g) && (List.range g).all fun j=>je0 (has M j) (ds.getD j .none)
 | _=>false
theorem isPrice_no {wd:Bool} {d:PyData} (h:isFrac d=false):je0 wd d=false:=by
 unfold je0
 split
 ·rw [h]; rfl
 ·rfl
theorem isPrs_no {g:Nat} {M:List (List Int)} {d:PyData} (h:isT d=false):isPrs g M d=false:=by cases d <;> first | rfl | cases h
end KM
namespace KM
open PySem L2 KG EX
end KM
namespace KM
open PySem L2 KG EX
theorem low_uniq {a b X Y:Int} (hb:0 < b) (hY:0 < Y) (g1:Int.gcd a b=1) (g2:Int.gcd X Y=1) (h:X * b=a * Y):X=a∧Y=b:=by
 have d1:Y ∣ b:=by
  have q:Y ∣ X * b:=⟨a,by rw [h,Int.mul_comm]⟩
  rw [← Int.dvd_gcd_mul_iff_dvd_mul,Int.gcd_comm,g2] at q
  simpa using q
 have d2:b ∣ Y:=by
  have q:b ∣ a * Y:=⟨X,by rw [← h,Int.mul_comm]⟩
  rw [← Int.dvd_gcd_mul_iff_dvd_mul,Int.gcd_comm,g1] at q
  simpa using q
 have e:Y=b:=Int.dvd_antisymm (by omega) (by omega) d1 d2
 subst e
 exact ⟨Int.eq_of_mul_eq_mul_right (by omega) h,rfl⟩
theorem jc1 (q:Rat):(0:Int) < (q.den:Int):=by have:=q.den_nz; omega
theorem rat_gcd (q:Rat):Int.gcd q.num (q.den:Int)=1:=q.reduced
theorem nf_rat {T U:Int} (hU:U ≠ 0):nx T U=(Rat.divInt T U).num∧ny T U=((Rat.divInt T U).den:Int):=by
 obtain ⟨n1,n2,n3,_⟩:=nf_spec (t:=T) hU
 have hd:=jc1 (Rat.divInt T U)
 have h1:T * ((Rat.divInt T U).den:Int)=(Rat.divInt T U).num * U:=by
  rw [← Rat.divInt_eq_divInt_iff hU (by omega),Rat.num_divInt_den]
 refine low_uniq hd n2 (rat_gcd _) n3 ?_
 have e:nx T U * ((Rat.divInt T U).den:Int) * U=(Rat.divInt T U).num * ny T U * U:=by
  calc nx T U * ((Rat.divInt T U).den:Int) * U=nx T U * U * ((Rat.divInt T U).den:Int):=by rw [Int.mul_right_comm]
   _=T * ny T U * ((Rat.divInt T U).den:Int):=by rw [n1]
   _=T * ((Rat.divInt T U).den:Int) * ny T U:=by rw [Int.mul_right_comm]
   _=(Rat.divInt T U).num * U * ny T U:=by rw [h1]
   _=(Rat.divInt T U).num * ny T U * U:=by rw [Int.mul_right_comm]
 exact Int.eq_of_mul_eq_mul_right hU e
abbrev qO (q:Rat):HO:=.tup [.int q.num,.int (q.den:Int)]
def Rb (k:Nat) (q:Rat):Prop:=Bd k q.num∧Bd k (q.den:Int)
theorem Rb.mono {j k:Nat} {q:Rat} (h:Rb j q) (hk:j ≤ k):Rb k q:=⟨h.1.mono hk,h.2.mono hk⟩
theorem rat_pos {q:Rat}:0 < q ↔ 0 < q.num:=by
 rw [Rat.lt_iff]; simp
theorem rat_of {t u:Int} (hu:0 < u) (hg:Int.gcd t u=1):∃ q:Rat,q.num=t∧(q.den:Int)=u:=by
 refine ⟨⟨t,u.toNat,by omega,?_⟩,rfl,by show ((u.toNat:Nat):Int)=u; omega⟩
 show Nat.gcd t.natAbs u.toNat=1
 have:u.toNat=u.natAbs:=by omega
 rw [this]; exact hg
theorem add_rat (a b:Rat):Rat.divInt (a.num * b.den + b.num * a.den) (a.den * b.den)=a + b:=by
 rw [← Rat.divInt_add_divInt _ _ (by have:=jc1 a; omega) (by have:=jc1 b; omega),Rat.num_divInt_den,Rat.num_divInt_den]
theorem mul_rat (a b:Rat):Rat.divInt (a.num * b.num) (a.den * b.den)=a * b:=by
 rw [← Rat.divInt_mul_divInt,Rat.num_divInt_den,Rat.num_divInt_den]
theorem div_rat {a b:Rat} (hb:b.num ≠ 0):Rat.divInt (a.num * b.den) (a.den * b.num)=a / b:=by
 rw [Rat.div_def,Rat.inv_def]
 conv=>rhs; rw [← Rat.num_divInt_den a]
 rw [Rat.divInt_mul_divInt]
theorem lt_rat (a b:Rat):(a.num * b.den < b.num * a.den)=(a < b):=propext (Rat.lt_iff a b).symm
theorem rb_div {k:Nat} {T U:Int} (hU:U ≠ 0) (h1:Bd k T) (h2:Bd k U):Rb k (Rat.divInt T U):=by
 obtain ⟨e1,e2⟩:=nf_rat (T:=T) hU
 obtain ⟨_,_,_,_,n5,n6⟩:=nf_spec (t:=T) hU
 refine ⟨?_,?_⟩
 ·rw [← e1]; exact h1.le n5
 ·rw [← e2]; exact h2.le n6
theorem Bd.add {j:Nat} {a b:Int} (ha:Bd j a) (hb:Bd j b):Bd (j + 1) (a + b):=by
 unfold Bd at *
 rw [Nat.pow_succ]; omega
theorem rb_add {j k:Nat} {a b:Rat} (ha:Rb j a) (hb:Rb k b):Rb (j + k + 1) (a + b):=by
 rw [← add_rat]
 have h2:(a.den:Int) * b.den ≠ 0:=Int.ne_of_gt (Int.mul_pos (jc1 a) (jc1 b))
 refine rb_div h2 (Bd.add (ha.1.mul hb.2) ?_) ((ha.2.mul hb.2).mono (by omega))
 have:=hb.1.mul ha.2
 exact Bd.mono this (by omega)
theorem rb_mul {j k:Nat} {a b:Rat} (ha:Rb j a) (hb:Rb k b):Rb (j + k) (a * b):=by
 rw [← mul_rat]
 have h2:(a.den:Int) * b.den ≠ 0:=Int.ne_of_gt (Int.mul_pos (jc1 a) (jc1 b))
 exact rb_div h2 (ha.1.mul hb.1) (ha.2.mul hb.2)
def spFr (Nn:Addr):Sp:=fun vs H Q E=>∃ (t u:Int),vs=[.int t,.int u]∧Bd 8000 u∧(u=0→E (.ref Nn) none H)∧(u ≠ 0→∀ p,H p=none→Q (.ref p) (upd H p (qO (Rat.divInt t u))))
def spLf:Sp:=fun vs H Q _=>∃ (t u:Int),vs=[.int t,.int u]∧0 < u∧Bd 8000 u∧∀ p,H p=none→Q (.ref p) (upd H p (qO (Rat.divInt t u)))
def sp2 (op:Rat→Rat→Rat):Sp:=fun vs H Q _=>∃ (p q:Addr) (a b:Rat),vs=[.ref p,.ref q]∧H p=some (qO a)∧H q=some (qO b)∧Rb 3000 a∧Rb 3000 b∧∀ r,H r=none→Q (.ref r) (upd H r (qO (op a b)))
def spOver (Nn:Addr):Sp:=fun vs H Q E=>∃ (p q:Addr) (a b:Rat),vs=[.ref p,.ref q]∧H p=some (qO a)∧H q=some (qO b)∧Rb 3000 a∧Rb 3000 b∧(b=0→E (.ref Nn) none H)∧(b ≠ 0→∀ r,H r=none→Q (.ref r) (upd H r (qO (a / b))))
def spLess:Sp:=fun vs H Q _=>∃ (p q:Addr) (a b:Rat),vs=[.ref p,.ref q]∧H p=some (qO a)∧H q=some (qO b)∧Rb 3000 a∧Rb 3000 b∧Q (.bl (decide (a < b))) H
def qPl:Rat→Rat→Rat:=fun a b=>a + b
def qTi:Rat→Rat→Rat:=fun a b=>a * b
theorem b3 {n:Int} (h:Bd 3000 n):Bd 8000 n:=h.mono (by decide)
theorem b6 {n:Int} (h:Bd (3000 + 3000) n):Bd 8000 n:=h.mono (by decide)
theorem sg_bd {k:Nat} {t u:Int} (h:Bd k u) (hu:u ≠ 0):Bd k (sg t u):=by
 refine h.le ?_
 have g0:0 < Int.gcd t u:=Int.gcd_pos_of_ne_zero_right t hu
 have e:(sg t u).natAbs=Int.gcd t u:=by unfold sg; split <;> omega
 rw [e]
 exact Nat.le_of_dvd (by omega) (Int.gcd_dvd_natAbs_right t u)
theorem abs_gcd0 {a:Int}:(if a < 0 then -a else a)=(Int.gcd a 0:Int):=by
 rw [Int.gcd_zero_right]
 split <;> omega
def spGcdN:Sp:=fun vs H Q _=>∃ (t u:Int),vs=[.int t,.int u]∧Q (.int (Int.gcd t u)) H
end KM
namespace K9
open PySem L2 KG EX KM
section
variable {P:Program} {w:World} {K:PySem.W.Frag} {mg:Str→Option Value} {base:Heap}
theorem scGcdN:FnScope ["one","other"] ["one","other"] (ja5 (top 7)):=⟨rfl,rfl,rfl,by decide +kernel,rfl,by decide +kernel,by decide +kernel⟩
theorem ok_gcdN {f:Addr} {fd:FuncData} (F:Fun K "common_divisor" "common_divisor" (top 7) f fd) (N:Nm mg):FnOk P w K mg base CX0 1 f fd ["one","other"] spGcdN:=by
 refine F.ok scGcdN (fun vs H Q E h=>?_) (fun cdv A outer s H vs Q E hr h=>?_)
 ·obtain ⟨t,u,rfl,_⟩:=h; rfl
 ·obtain ⟨t,u,rfl,k⟩:=h
  refine ⟨_,ja4 (ps_while PassesOwn.never (jc0 op_ne (pv 1) ja3 (nomark _)) (ja7 (ps_par (i:=0) (j:=1) rfl scGcdN.nd rfl rfl (by decide) rfl rfl (ja0 (pv 1) (ja0 (jb3 op_modN (pv 0) (pv 1)) ja2)) (by rfl))))
   (ja7 (jb4 (jb0 call_abs (by rfl) N.abs boot_abs (ja0 (pv 0) ja2)))),?_⟩
  refine while_by (fun σ H'=>H'=H∧∃ a c:Int,σ=[some (.int a),some (.int c)]∧Int.gcd a c=Int.gcd t u)
   (fun σ _=>match σ with | [_,some (.int c)]=>c.natAbs | _=>0) ⟨rfl,t,u,rfl,rfl⟩ ?_ ?_
  ·rintro σ H' ⟨rfl,a,c,rfl,e⟩
   refine ⟨_,rfl,rfl,_,rfl,?_⟩
   by_cases hc:c=0
   ·subst hc
    refine iteF ?_
    refine ⟨_,rfl,_,rfl,?_⟩
    rw [abs_gcd0,e]
    exact k
   ·have e1:(!decide (V.int c=V.int 0))=true:=by simp [hc]
    rw [e1]
    refine iteT ?_
    exact ⟨_,rfl,_,rfl,_,rfl,_,_,rfl,rfl,hc,_,_,rfl,⟨rfl,c,a.fmod c,rfl,gcd_fmod.trans e⟩,fmod_lt hc⟩
  ·rintro σ H' Q1 Q2 himp ⟨v,e,sc,kk,ek,q⟩
   exact ⟨v,e,sc,kk,ek,himp _ _ q⟩
theorem scFr:FnScope ["top","bottom","divisor"] ["top","bottom"] (ja5 (top 8)):=⟨rfl,rfl,rfl,by decide +kernel,rfl,by decide +kernel,by decide +kernel⟩
theorem ok_fraction {f fG Nn:Addr} {fd dG:FuncData} (F:Fun K "fraction" "fraction" (top 8) f fd) (mgNn:mg "NoNumber"=some (.ref Nn)) (exN:PySem.W.excIn K Nn [.type "ValueError",.type "Exception",.type "BaseException",.type "object"] "ValueError.__new__"=true) (G:Cal K mg P w base "common_divisor" 1 ["one","other"] spGcdN fG dG):FnOk P w K mg base (CXF P w) 2 f fd ["top","bottom"] (spFr Nn):=by
 refine F.okX scFr (fun vs H Q E h=>?_) (fun cdv A outer s H vs Q E hr h=>?_)
 ·obtain ⟨t,u,rfl,_⟩:=h; rfl
 ·obtain ⟨t,u,rfl,hb,k0,k1⟩:=h
  refine ⟨_,ja4 (jf1 (jc0 op_eq (pv 1) ja3 (nomark _)) (ja7 (ps_raise PySem.F.excBase_ValueError rfl mgNn exN (ja0 pe_str ja2))) jc6)
   (ja4 (jb1 (i:=2) scFr.nd rfl (Or.inl rfl) (ja6 G.ok hr rfl G.mg G.kp G.bd .nil pass0 (ja0 (pv 0) (ja0 (pv 1) ja2))))
   (ja4 (jf1 (jc0 op_lt (pv 1) ja3 (nomark _)) (ja7 (jb1 (i:=2) scFr.nd rfl (Or.inl rfl) (pe_un un_neg (pv 2)))) jc6)
   (ja7 (jb4 (jd6 (ja0 (jb3 op_fdivBN (pv 0) (pv 2)) (ja0 (jb3 op_fdivBN (pv 1) (pv 2)) ja2))))))),?_⟩
  refine ⟨_,rfl,rfl,_,rfl,?_⟩
  by_cases hu:u=0
  ·subst hu
   exact iteT ⟨by show 1 ≤ sizeLine; decide,k0 rfl⟩
  have e1:decide (V.int u=V.int 0)=false:=by simp [hu]
  rw [e1]
  refine iteF ?_
  refine ⟨_,rfl,_,rfl,t,u,rfl,?_⟩
  refine ⟨_,rfl,_,_,rfl,rfl,_,rfl,?_⟩
  have hs:=(nf_spec (t:=t) hu).2.2.2.1
  have hsb:=sg_bd (t:=t) hb hu
  obtain ⟨q1,q2⟩:=nf_rat (T:=t) hu
  have k1':∀ p,H p=none→Q (.ref p) (upd H p (.tup [.int (nx t u),.int (ny t u)])):=fun p hp=>by rw [q1,q2]; exact k1 hu p hp
  have fin:∀ d:Int,d=sg t u→(tRet (tTup (tCons (tOp (rI (fun _ j=>j ≠ 0∧Bd 8000 j) fun i j=>.int (i.fdiv j)) (tVar 0) (tVar 2)) (tCons (tOp (rI (fun _ j=>j ≠ 0∧Bd 8000 j) fun i j=>.int (i.fdiv j)) (tVar 1) (tVar 2)) tNil)))) { nx:=fun _ H'=>Q .non H',rt:=Q } [some (.int t),some (.int u),some (.int d)] H:=fun d hd=>by
   subst hd
   exact ⟨_,rfl,_,rfl,_,_,rfl,rfl,⟨hs,hsb⟩,_,rfl,_,rfl,_,_,rfl,rfl,⟨hs,hsb⟩,by show 2 ≤ sizeLine; decide,fun p hp=>k1' p hp⟩
  by_cases hn:u < 0
  ·rw [decide_eq_true hn]
   exact iteT ⟨_,rfl,_,rfl,fin _ (by unfold sg; rw [if_pos hn])⟩
  ·rw [decide_eq_false hn]
   exact iteF (fin _ (by unfold sg; rw [if_neg hn]))
theorem scLf:FnScope ["top","bottom","one","other","by"] ["top","bottom"] (ja5 (top 34)):=⟨rfl,rfl,rfl,by decide +kernel,rfl,by decide +kernel,by decide +kernel⟩
theorem ok_lf {f:Addr} {fd:FuncData} (F:Fun K "_law_frac" "_law_frac" (top 34) f fd) (B:Nm mg):FnOk P w K mg base CX0 1 f fd ["top","bottom"] spLf:=by
 refine F.ok scLf (fun vs H Q E h=>?_) (fun cdv A outer s H vs Q E hr h=>?_)
 ·obtain ⟨t,u,rfl,_⟩:=h; rfl
 ·obtain ⟨t,u,rfl,u0,u1,k⟩:=h
  refine ⟨_,ja4 (ps_par (i:=2) (j:=3) rfl scLf.nd rfl rfl (by decide) rfl rfl (ja0 (pv 0) (ja0 (pv 1) ja2)) (by rfl))
   (ja4 (ps_while PassesOwn.never (jc0 op_ne (pv 3) ja3 (nomark _)) (ja7 (ps_par (i:=2) (j:=3) rfl scLf.nd rfl rfl (by decide) rfl rfl (ja0 (pv 3) (ja0 (jb3 op_modN (pv 2) (pv 3)) ja2)) (by rfl))))
   (ja4 (jb1 (i:=4) scLf.nd rfl (Or.inl rfl) (jb3 op_mul (jb0 call_abs (by rfl) B.abs boot_abs (ja0 (pv 2) ja2)) (jb3 op_sub ja3 (jb3 op_mul ja3 (jb6 call_int1 (by rfl) B.int boot_int (ja0 (pe_cmpR op_lt (pv 1) ja3 (nomark _)) ja2))))))
   (ja7 (jb4 (jd6 (ja0 (jb3 op_fdivBN (pv 0) (pv 4)) (ja0 (jb3 op_fdivBN (pv 1) (pv 4)) ja2))))))),?_⟩
  have hu:u ≠ 0:=by omega
  obtain ⟨q1,q2⟩:=nf_rat (T:=t) hu
  have k':∀ p,H p=none→Q (.ref p) (upd H p (.tup [.int (nx t u),.int (ny t u)])):=fun p hp=>by rw [q1,q2]; exact k p hp
  have hs:=(nf_spec (t:=t) hu).2.2.2.1
  have hsb:=sg_bd (t:=t) u1 hu
  have esg:(Int.gcd t u:Int)=sg t u:=by unfold sg; rw [if_neg (by omega)]
  refine ⟨_,rfl,_,rfl,_,_,rfl,?_⟩
  refine while_by (fun σ H'=>H'=H∧∃ a c:Int,σ=[some (.int t),some (.int u),some (.int a),some (.int c),none]∧Int.gcd a c=Int.gcd t u)
   (fun σ _=>match σ with | [_,_,_,some (.int c),_]=>c.natAbs | _=>0) ⟨rfl,t,u,rfl,rfl⟩ ?_ ?_
  ·rintro σ H' ⟨rfl,a,c,rfl,e⟩
   refine ⟨_,rfl,rfl,_,rfl,?_⟩
   by_cases hc:c=0
   ·subst hc
    refine iteF ?_
    refine ⟨_,rfl,_,rfl,_,rfl,_,_,rfl,rfl,.inr ⟨_,rfl,_,_,rfl,rfl,.inl ⟨by decide,by decide⟩,_,_,rfl,rfl,?_⟩⟩
    have e2:decide (u < 0)=false:=decide_eq_false (by omega)
    rw [abs_gcd0,e,e2,esg]
    have e3:sg t u * (1 - 2 * (if false=true then (1:Int) else 0))=sg t u:=by simp
    refine ⟨_,_,rfl,rfl,.inr ⟨by decide,by decide⟩,?_⟩
    show gName 4 (V.int (sg t u * (1 - 2 * (if false=true then (1:Int) else 0)))) _ _ _
    rw [e3]
    exact ⟨_,rfl,_,rfl,_,_,rfl,rfl,⟨hs,hsb⟩,_,rfl,_,rfl,_,_,rfl,rfl,⟨hs,hsb⟩,by show 2 ≤ sizeLine; decide,fun p hp=>k' p hp⟩
   ·have e1:(!decide (V.int c=V.int 0))=true:=by simp [hc]
    rw [e1]
    refine iteT ?_
    exact ⟨_,rfl,_,rfl,_,rfl,_,_,rfl,rfl,hc,_,_,rfl,⟨rfl,c,a.fmod c,rfl,gcd_fmod.trans e⟩,fmod_lt hc⟩
  ·rintro σ H' Q1 Q2 himp ⟨v,e,sc,kk,ek,q⟩
   exact ⟨v,e,sc,kk,ek,himp _ _ q⟩
theorem sc_times:FnScope ["one","other"] ["one","other"] (ja5 (top 9)):=⟨rfl,rfl,rfl,by decide +kernel,rfl,by decide +kernel,by decide +kernel⟩
theorem ok_times {f fF Nn:Addr} {fd dF:FuncData} (F:Fun K "times" "times" (top 9) f fd) (G:CalX K mg P w base "fraction" 2 ["top","bottom"] (spFr Nn) fF dF):FnOk P w K mg base (CXF P w) 3 f fd ["one","other"] (sp2 qTi):=by
 refine F.okX sc_times (fun vs H Q E h=>?_) (fun cdv A outer s H vs Q E hr h=>?_)
 ·obtain ⟨p,q,a,b,rfl,_⟩:=h; rfl
 ·obtain ⟨p,q,a,b,rfl,hp,hq,⟨ba,bb⟩,⟨bc,bd⟩,k⟩:=h
  have hb:=jc1 a
  have hd:=jc1 b
  refine ⟨_,ja7 (jb4 (ja6 G.ok hr rfl G.mg G.kp G.bd .nil passF (ja0 (jb3 jd0 (ja9 ixT0 (pv 0) ja3 (fun _ _=>rfl)) (ja9 ixT0 (pv 1) ja3 (fun _ _=>rfl))) (ja0 (jb3 jd0 (ja9 ixT0 (pv 0) ja3 (fun _ _=>rfl)) (ja9 ixT0 (pv 1) ja3 (fun _ _=>rfl))) ja2)))),?_⟩
  refine ⟨_,rfl,p,_,_,_,rfl,rfl,SqT.of hp,rfl,_,rfl,q,_,_,_,rfl,rfl,SqT.of hq,rfl,_,_,rfl,rfl,⟨b3 ba,b3 bc⟩,_,rfl,p,_,_,_,rfl,rfl,SqT.of hp,rfl,_,rfl,q,_,_,_,rfl,rfl,SqT.of hq,rfl,_,_,rfl,rfl,⟨b3 bb,b3 bd⟩,?_⟩
  exact ⟨_,_,rfl,b6 (bb.mul bd),fun h0=>absurd h0 (Int.ne_of_gt (Int.mul_pos hb hd)),fun _ r hr'=>by rw [mul_rat]; exact k r hr'⟩
theorem sc_law_add:FnScope ["one","other"] ["one","other"] (ja5 (top 35)):=⟨rfl,rfl,rfl,by decide +kernel,rfl,by decide +kernel,by decide +kernel⟩
theorem ok_law_add {f fF:Addr} {fd dF:FuncData} (F:Fun K "_law_add" "_law_add" (top 35) f fd) (G:Cal K mg P w base "_law_frac" 1 ["top","bottom"] spLf fF dF):FnOk P w K mg base CX0 2 f fd ["one","other"] (sp2 qPl):=by
 refine F.ok sc_law_add (fun vs H Q E h=>?_) (fun cdv A outer s H vs Q E hr h=>?_)
 ·obtain ⟨p,q,a,b,rfl,_⟩:=h; rfl
 ·obtain ⟨p,q,a,b,rfl,hp,hq,⟨ba,bb⟩,⟨bc,bd⟩,k⟩:=h
  have hb:=jc1 a
  have hd:=jc1 b
  refine ⟨_,ja7 (jb4 (ja6 G.ok hr rfl G.mg G.kp G.bd .nil pass0 (ja0 (jb3 jd9 (jb3 jd0 (ja9 ixT0 (pv 0) ja3 (fun _ _=>rfl)) (ja9 ixT0 (pv 1) ja3 (fun _ _=>rfl))) (jb3 jd0 (ja9 ixT0 (pv 1) ja3 (fun _ _=>rfl)) (ja9 ixT0 (pv 0) ja3 (fun _ _=>rfl)))) (ja0 (jb3 jd0 (ja9 ixT0 (pv 0) ja3 (fun _ _=>rfl)) (ja9 ixT0 (pv 1) ja3 (fun _ _=>rfl))) ja2)))),?_⟩
  refine ⟨_,rfl,p,_,_,_,rfl,rfl,SqT.of hp,rfl,_,rfl,q,_,_,_,rfl,rfl,SqT.of hq,rfl,_,_,rfl,rfl,⟨b3 ba,b3 bd⟩,_,rfl,q,_,_,_,rfl,rfl,SqT.of hq,rfl,_,rfl,p,_,_,_,rfl,rfl,SqT.of hp,rfl,_,_,rfl,rfl,⟨b3 bc,b3 bb⟩,_,_,rfl,rfl,_,rfl,p,_,_,_,rfl,rfl,SqT.of hp,rfl,_,rfl,q,_,_,_,rfl,rfl,SqT.of hq,rfl,_,_,rfl,rfl,⟨b3 bb,b3 bd⟩,?_⟩
  exact ⟨_,_,rfl,Int.mul_pos hb hd,b6 (bb.mul bd),fun r hr'=>by rw [add_rat]; exact k r hr'⟩
theorem sc_law_mul:FnScope ["one","other"] ["one","other"] (ja5 (top 37)):=⟨rfl,rfl,rfl,by decide +kernel,rfl,by decide +kernel,by decide +kernel⟩
theorem ok_law_mul {f fF:Addr} {fd dF:FuncData} (F:Fun K "_law_mul" "_law_mul" (top 37) f fd) (G:Cal K mg P w base "_law_frac" 1 ["top","bottom"] spLf fF dF):FnOk P w K mg base CX0 2 f fd ["one","other"] (sp2 qTi):=by
 refine F.ok sc_law_mul (fun vs H Q E h=>?_) (fun cdv A outer s H vs Q E hr h=>?_)
 ·obtain ⟨p,q,a,b,rfl,_⟩:=h; rfl
 ·obtain ⟨p,q,a,b,rfl,hp,hq,⟨ba,bb⟩,⟨bc,bd⟩,k⟩:=h
  have hb:=jc1 a
  have hd:=jc1 b
  refine ⟨_,ja7 (jb4 (ja6 G.ok hr rfl G.mg G.kp G.bd .nil pass0 (ja0 (jb3 jd0 (ja9 ixT0 (pv 0) ja3 (fun _ _=>rfl)) (ja9 ixT0 (pv 1) ja3 (fun _ _=>rfl))) (ja0 (jb3 jd0 (ja9 ixT0 (pv 0) ja3 (fun _ _=>rfl)) (ja9 ixT0 (pv 1) ja3 (fun _ _=>rfl))) ja2)))),?_⟩
  refine ⟨_,rfl,p,_,_,_,rfl,rfl,SqT.of hp,rfl,_,rfl,q,_,_,_,rfl,rfl,SqT.of hq,rfl,_,_,rfl,rfl,⟨b3 ba,b3 bc⟩,_,rfl,p,_,_,_,rfl,rfl,SqT.of hp,rfl,_,rfl,q,_,_,_,rfl,rfl,SqT.of hq,rfl,_,_,rfl,rfl,⟨b3 bb,b3 bd⟩,?_⟩
  exact ⟨_,_,rfl,Int.mul_pos hb hd,b6 (bb.mul bd),fun r hr'=>by rw [mul_rat]; exact k r hr'⟩
theorem scok_less:FnScope ["one","other"] ["one","other"] (ja5 (top 11)):=⟨rfl,rfl,rfl,by decide +kernel,rfl,by decide +kernel,by decide +kernel⟩
theorem ok_less {f:Addr} {fd:FuncData} (F:Fun K "less" "less" (top 11) f fd):FnOk P w K mg base CX0 1 f fd ["one","other"] spLess:=by
 refine F.ok scok_less (fun vs H Q E h=>?_) (fun cdv A outer s H vs Q E hr h=>?_)
 ·obtain ⟨p,q,a,b,rfl,_⟩:=h; rfl
 ·obtain ⟨p,q,a,b,rfl,hp,hq,⟨ba,bb⟩,⟨bc,bd⟩,k⟩:=h
  have hb:=jc1 a
  have hd:=jc1 b
  refine ⟨_,ja7 (jb4 (pe_cmpR op_lt (jb3 jd0 (ja9 ixT0 (pv 0) ja3 (fun _ _=>rfl)) (ja9 ixT0 (pv 1) ja3 (fun _ _=>rfl))) (jb3 jd0 (ja9 ixT0 (pv 1) ja3 (fun _ _=>rfl)) (ja9 ixT0 (pv 0) ja3 (fun _ _=>rfl))) (nomark _))),?_⟩
  exact ⟨_,rfl,p,_,_,_,rfl,rfl,SqT.of hp,rfl,_,rfl,q,_,_,_,rfl,rfl,SqT.of hq,rfl,_,_,rfl,rfl,⟨b3 ba,b3 bd⟩,_,rfl,q,_,_,_,rfl,rfl,SqT.of hq,rfl,_,rfl,p,_,_,_,rfl,rfl,SqT.of hp,rfl,_,_,rfl,rfl,⟨b3 bc,b3 bb⟩,_,_,rfl,rfl,by simp only [lt_rat]; exact k⟩
theorem scOver:FnScope ["one","other"] ["one","other"] (ja5 (top 10)):=⟨rfl,rfl,rfl,by decide +kernel,rfl,by decide +kernel,by decide +kernel⟩
theorem ok_over {f fF Nn:Addr} {fd dF:FuncData} (F:Fun K "over" "over" (top 10) f fd) (G:CalX K mg P w base "fraction" 2 ["top","bottom"] (spFr Nn) fF dF):FnOk P w K mg base (CXF P w) 3 f fd ["one","other"] (spOver Nn):=by
 refine F.okX scOver (fun vs H Q E h=>?_) (fun cdv A outer s H vs Q E hr h=>?_)
 ·obtain ⟨p,q,a,b,rfl,_⟩:=h; rfl
 ·obtain ⟨p,q,a,b,rfl,hp,hq,⟨ba,bb⟩,⟨bc,bd⟩,k0,k1⟩:=h
  have hb:=jc1 a
  have hd:=jc1 b
  refine ⟨_,ja7 (jb4 (ja6 G.ok hr rfl G.mg G.kp G.bd .nil passF (ja0 (jb3 jd0 (ja9 ixT0 (pv 0) ja3 (fun _ _=>rfl)) (ja9 ixT0 (pv 1) ja3 (fun _ _=>rfl))) (ja0 (jb3 jd0 (ja9 ixT0 (pv 0) ja3 (fun _ _=>rfl)) (ja9 ixT0 (pv 1) ja3 (fun _ _=>rfl))) ja2)))),?_⟩
  refine ⟨_,rfl,p,_,_,_,rfl,rfl,SqT.of hp,rfl,_,rfl,q,_,_,_,rfl,rfl,SqT.of hq,rfl,_,_,rfl,rfl,⟨b3 ba,b3 bd⟩,?_⟩
  refine ⟨_,rfl,p,_,_,_,rfl,rfl,SqT.of hp,rfl,_,rfl,q,_,_,_,rfl,rfl,SqT.of hq,rfl,_,_,rfl,rfl,⟨b3 bb,b3 bc⟩,?_⟩
  refine ⟨_,_,rfl,b6 (bb.mul bc),fun h0=>k0 ?_,fun h0 r hr'=>?_⟩
  ·rcases Int.mul_eq_zero.mp h0 with z | z
   ·omega
   ·exact Rat.num_eq_zero.mp z
  ·have hn:b.num ≠ 0:=fun z=>h0 (by rw [z,Int.mul_zero])
   rw [div_rat hn]
   exact k1 (fun z=>hn (by rw [z]; rfl)) r hr'
end
end K9
namespace KM
open PySem L2 KG EX
def spMulS:Sp:=fun vs H Q _=>∃ (p q:Addr) (a b c d:Int),vs=[.ref p,.ref q]∧H p=some (.tup [.int a,.int b])∧H q=some (.tup [.int c,.int d])∧0 ≤ a∧a < 1073741824∧0 < b∧b < 1073741824∧0 < d∧b * d < 1073741824 ∧
 ∀ r,H r=none→Q (.ref r) (upd H r (.tup [.int (a * c / (Int.gcd (a * c) (b * d):Int)),.int (b * d / (Int.gcd (a * c) (b * d):Int))]))
theorem low_pos {t u:Int} (ht:0 < t) (hu:0 < u):0 < t / (Int.gcd t u:Int)∧t / (Int.gcd t u:Int) ≤ t∧0 < u / (Int.gcd t u:Int)∧u / (Int.gcd t u:Int) ≤ u∧Int.gcd (t / (Int.gcd t u:Int)) (u / (Int.gcd t u:Int))=1:=by
 obtain ⟨n1,n2,n3,_,n5,n6⟩:=nf_spec (t:=t) (u:=u) (by omega)
 obtain ⟨e1,e2⟩:=nf_pos (t:=t) hu
 rw [e1,e2] at n1 n3
 rw [e1] at n5
 rw [e2] at n2 n6
 have hx:0 < t / (Int.gcd t u:Int):=by
  rcases Int.lt_or_le 0 (t / (Int.gcd t u:Int)) with z | z
  ·exact z
  ·have h1:t / (Int.gcd t u:Int) * u ≤ 0:=Int.mul_nonpos_of_nonpos_of_nonneg z (by omega)
   have h2:0 < t * (u / (Int.gcd t u:Int)):=Int.mul_pos ht n2
   omega
 exact ⟨hx,by omega,n2,by omega,n3⟩
def PrV (wd:Bool) (H:Hp) (v:V):Prop:=∃ (a:Addr) (t u:Int),v=.ref a∧H a=some (.tup [.int t,.int u])∧je0 wd (.tuple [.int t,.int u])=true∧0 ≤ t∧t ≤ 60000∧1 ≤ u∧u ≤ 2000
theorem PrV.tm {wd:Bool} {H H':Hp} {v:V} (h:PrV wd H v) (t:Tm H H'):PrV wd H' v:=by obtain ⟨a,x,y,e,h1,h2⟩:=h; exact ⟨a,x,y,e,t _ _ h1,h2⟩
theorem isPrice_true {t u:Int} (h1:0 < t) (h2:0 < u) (h3:Int.gcd t u=1):je0 true (.tuple [.int t,.int u])=true:=by
 show ((decide (1 ≤ u) && decide (Int.gcd t u=1)) && decide (0 < t))=true
 rw [decide_eq_true (show 1 ≤ u by omega),decide_eq_true h3,decide_eq_true h1]; rfl
def spPrices:Sp:=fun vs H Q _=>∃ (b p pa pp pw:Addr) (xa xp xw:List V) (am pu wi:List PyData),vs=[.ref b,.ref p]∧Bag H b∧MkAt b H p pa pp pw xa xp xw am pu wi ∧
 ∀ (q:Addr) (ys:List V) (H':Hp),Bag H' b→Kp b H H'→H' q=some (.tup ys)→ys.length=xa.length→(∀ (j:Nat) y,ys[j]?=some y→PrV (has (rowsOf wi) j) H' y)→Q (.ref q) H'
theorem prs_iff {g:Nat} {M:List (List Int)} {ds:List PyData}:isPrs g M (.tuple ds)=true ↔ ds.length=g∧∀ j,j < g→je0 (has M j) (ds.getD j .none)=true:=by
 show (decide (ds.length=g) && (List.range g).all fun j=>je0 (has M j) (ds.getD j .none))=true ↔ _
 rw [Bool.and_eq_true,decide_eq_true_eq,List.all_eq_true]
 constructor
 ·rintro ⟨h1,h2⟩; exact ⟨h1,fun j hj=>h2 j (by simpa using hj)⟩
 ·rintro ⟨h1,h2⟩; exact ⟨h1,fun j hj=>h2 j (by simpa using hj)⟩
def qD (q:Rat):PyData:=.tuple [.int q.num,.int (q.den:Int)]
theorem isFrac_q (q:Rat):isFrac (qD q)=true:=by
 have h:=jc1 q
 show (decide (1 ≤ (q.den:Int)) && decide (Int.gcd q.num (q.den:Int)=1))=true
 rw [decide_eq_true (show 1 ≤ (q.den:Int) by omega),decide_eq_true (rat_gcd q)]; rfl
theorem frac_q {d:PyData} (h:isFrac d=true):∃ q:Rat,d=qD q:=by
 obtain ⟨t,u,rfl,hu,hg⟩:=fracShape h
 obtain ⟨q,e1,e2⟩:=rat_of (t:=t) (u:=u) (by omega) (by omega)
 exact ⟨q,by unfold qD; rw [e1,e2]⟩
theorem isPrice_q {wd:Bool} {q:Rat}:je0 wd (qD q)=true ↔ (if wd=true then 0 < q else q=0):=by
 show (isFrac (qD q) && (if wd then decide (0 < q.num) else decide (q.num=0) && decide ((q.den:Int)=1)))=true ↔ _
 rw [isFrac_q]
 cases wd with
 | true=>simp [rat_pos]
 | false =>
  simp
  rintro rfl; rfl
structure Prs (M:List (List Int)) (qs:List Rat):Prop where
 pos:∀ j,j < qs.length→has M j=true→0 < qs.getD j 0
 nil:∀ j,j < qs.length→has M j=false→qs.getD j 0=0
theorem getD_map {α β : Type} {f:α→β} {xs:List α} {j:Nat} {a:α} {b:β} (h:j < xs.length):(xs.map f).getD j b=f (xs.getD j a):=by
 simp [List.getD,List.getElem?_map,List.getElem?_eq_getElem h]
theorem prs_q {g:Nat} {M:List (List Int)} {qs:List Rat}:isPrs g M (.tuple (qs.map qD))=true ↔ qs.length=g∧Prs M qs:=by
 rw [prs_iff,List.length_map]
 constructor
 ·rintro ⟨h1,h2⟩
  refine ⟨h1,⟨fun j hj hh=>?_,fun j hj hh=>?_⟩⟩
  ·have:=h2 j (by omega)
   rw [getD_map (a:=0) hj,isPrice_q,hh] at this
   exact this
  ·have:=h2 j (by omega)
   rw [getD_map (a:=0) hj,isPrice_q,hh] at this
   exact this
 ·rintro ⟨h1,h2⟩
  refine ⟨h1,fun j hj=>?_⟩
  rw [getD_map (a:=0) (by omega),isPrice_q]
  cases hh:has M j with
  | true=>exact h2.pos j (by omega) hh
  | false=>exact h2.nil j (by omega) hh
theorem prs_some {g:Nat} {M:List (List Int)} {d:PyData} (h:isPrs g M d=true):∃ qs:List Rat,d=.tuple (qs.map qD)∧qs.length=g∧Prs M qs:=by
 cases d with
 | tuple ds =>
  obtain ⟨h1,h2⟩:=prs_iff.mp h
  have:∃ qs:List Rat,ds=qs.map qD:=by
   have hall:∀ d ∈ ds,∃ q:Rat,d=qD q:=fun d hd=>by
    obtain ⟨j,hj,e⟩:=List.getElem_of_mem hd
    have:=h2 j (by omega)
    have e2:ds.getD j .none=d:=by simp [List.getD,List.getElem?_eq_getElem hj,e]
    rw [e2] at this
    cases hf:isFrac d with
    | true=>exact frac_q hf
    | false=>rw [isPrice_no hf] at this; cases this
   clear h h1 h2
   induction ds with
   | nil=>exact ⟨[],rfl⟩
   | cons d ds ih =>
    obtain ⟨q,rfl⟩:=hall d (List.mem_cons_self)
    obtain ⟨qs,rfl⟩:=ih fun d hd=>hall d (List.mem_cons_of_mem _ hd)
    exact ⟨q :: qs,rfl⟩
  obtain ⟨qs,rfl⟩:=this
  exact ⟨qs,rfl,prs_q.mp h⟩
 | _=>cases h
theorem PrV.q {wd:Bool} {H:Hp} {v:V} (b:Addr) (h:PrV wd H v):∃ q:Rat,TrV b H v (qD q)∧je0 wd (qD q)=true∧0 ≤ q.num∧q.num ≤ 60000∧1 ≤ (q.den:Int)∧(q.den:Int) ≤ 2000:=by
 obtain ⟨a,t,u,rfl,ha,hp,t0,t1,u0,u1⟩:=h
 have hf:isFrac (.tuple [.int t,.int u])=true:=by
  cases e:isFrac (.tuple [.int t,.int u]) with
  | true=>rfl
  | false=>rw [isPrice_no e] at hp; cases hp
 obtain ⟨q,e⟩:=frac_q hf
 have e':=e
 unfold qD at e'
 injection e' with e'
 injection e' with e1 e2
 injection e1 with e1
 injection e2 with e2 e3
 injection e2 with e2
 refine ⟨q,?_,by rw [← e]; exact hp,by omega,by omega,by omega,by omega⟩
 rw [← e]
 exact .tup ha (.cons (.int t) (.cons (.int u) .nil))
theorem prv_list {b:Addr} {H:Hp}:∀ {ys:List V} {wd:Nat→Bool},(∀ (j:Nat) y,ys[j]?=some y→PrV (wd j) H y)→∃ qs:List Rat,TrVs b H ys (qs.map qD)∧qs.length=ys.length∧(∀ j,j < ys.length→je0 (wd j) ((qs.map qD).getD j .none)=true)∧∀ q ∈ qs,0 ≤ q.num∧q.num ≤ 60000∧1 ≤ (q.den:Int)∧(q.den:Int) ≤ 2000
 | [],_,_=>⟨[],.nil,rfl,fun j hj=>absurd hj (by simp),fun q hq=>nomatch hq⟩
 | y :: ys,wd,h=>by
  obtain ⟨q,t,e,bds⟩:=(h 0 y rfl).q b
  obtain ⟨qs,ts,el,es,bs⟩:=prv_list (b:=b) (ys:=ys) (wd:=fun j=>wd (j + 1)) fun j z hz=>h (j + 1) z hz
  refine ⟨q :: qs,.cons t ts,by simp [el],fun j hj=>?_,fun z hz=>?_⟩
  ·cases j with
   | zero=>exact e
   | succ j=>exact es j (by simpa using hj)
  ·rcases List.mem_cons.mp hz with rfl | hz
   ·exact bds
   ·exact bs z hz
def moneyQ (am:List Int) (qs:List Rat) (gs:List Nat):Rat:=gs.foldl (fun s g=>s + qs.getD g 0 * ((am.getD g 0:Int):Rat)) 0
def worse (row:List Int) (qs:List Rat) (g o:Nat):Bool:=decide (0 < row.getD o 0) && decide ((row.getD g 0:Rat) * qs.getD o 0 < (row.getD o 0:Rat) * qs.getD g 0)
def bestB (row:List Int) (qs:List Rat) (g:Nat):Bool:=decide (row.getD g 0 ≠ 0) && (List.range row.length).all fun o=>!worse row qs g o
def bestR (row:List Int) (qs:List Rat):List Nat:=(List.range row.length).filter (bestB row qs)
def bestM (M:List (List Int)) (qs:List Rat):List (List Int):=M.map fun row=>(bestR row qs).map fun g:Nat=>(g:Int)
def natsV (gs:List Nat):List V:=gs.map fun g:Nat=>V.int (g:Int)
structure ArgP (b:Addr) (H:Hp) (p pa pp pw:Addr) (xa xp xw:List V) (am pu wi:List PyData) (v:V) (d:PyData):Prop where
 m:MkAt b H p pa pp pw xa xp xw am pu wi
 tr:TrV b H v d
 wd:∀ qs:List Rat,d=.tuple (qs.map qD)→∀ z ∈ qs,Rb 300 z
theorem ArgP.stay {b:Addr} {H H':Hp} {p pa pp pw:Addr} {xa xp xw:List V} {am pu wi:List PyData} {v:V} {d:PyData} (a:ArgP b H p pa pp pw xa xp xw am pu wi v d) (s:Stay H H'):ArgP b H' p pa pp pw xa xp xw am pu wi v d:=⟨a.m.stay s,a.tr.stay s,a.wd⟩
def spAre:Sp:=fun vs H Q _=>∃ (b p pa pp pw:Addr) (xa xp xw:List V) (am pu wi:List PyData) (v:V) (d:PyData),vs=[.ref p,v]∧MkAt b H p pa pp pw xa xp xw am pu wi∧TrV b H v d∧∀ H',Stay H H'→Q (.bl (isPrs xa.length (rowsOf wi) d)) H'
def spBest (Pr:Addr):Sp:=fun vs H Q E=>∃ (b p pa pp pw:Addr) (xa xp xw:List V) (am pu wi:List PyData) (v:V) (d:PyData),vs=[.ref p,v]∧ArgP b H p pa pp pw xa xp xw am pu wi v d ∧
 (isPrs xa.length (rowsOf wi) d=false→∀ H',Stay H H'→E (.ref Pr) none H') ∧
 (∀ qs:List Rat,d=.tuple (qs.map qD)→qs.length=xa.length→Prs (rowsOf wi) qs→∀ (r:Addr) (xs:List V) (H':Hp),Stay H H'→H' r=some (.tup xs)→Rws H' xs (bestM (rowsOf wi) qs)→Q (.ref r) H')
end KM
namespace KM
open PySem L2 KG EX
theorem mul_den (x:Rat):x * (((x.den:Int):Int):Rat)=(x.num:Rat):=by
 have hd:=jc1 x
 rw [← mul_rat,Rat.num_intCast,Rat.den_intCast,← Rat.num_divInt_den (x.num:Rat),Rat.num_intCast,Rat.den_intCast,Rat.divInt_eq_divInt_iff (by simpa using (by omega:(x.den:Int) ≠ 0)) (by decide)]
 simp
theorem worse_int {a b:Int} {x y:Rat}:((a:Rat) * x < (b:Rat) * y) ↔ (a * x.num * y.den < b * y.num * x.den):=by
 have hx:=jc1 x
 have hy:=jc1 y
 have pc:(0:Rat) < (((x.den:Int) * (y.den:Int):Int):Rat):=by
  have:(0:Rat)=((0:Int):Rat):=rfl
  rw [this,Rat.intCast_lt_intCast]
  exact Int.mul_pos hx hy
 rw [← Rat.mul_lt_mul_left pc,← Rat.intCast_lt_intCast]
 have e1:(((x.den:Int) * (y.den:Int):Int):Rat) * ((a:Rat) * x)=((a * x.num * y.den:Int):Rat):=by
  rw [Rat.intCast_mul,Rat.intCast_mul,Rat.intCast_mul,← mul_den x]
  simp only [Rat.mul_assoc,Rat.mul_comm]
  grind
 have e2:(((x.den:Int) * (y.den:Int):Int):Rat) * ((b:Rat) * y)=((b * y.num * x.den:Int):Rat):=by
  rw [Rat.intCast_mul,Rat.intCast_mul,Rat.intCast_mul,← mul_den y]
  grind
 rw [e1,e2]
theorem rb_int {k:Nat} {n:Int} (h:Bd k n) (hk:1 ≤ k):Rb k (n:Rat):=⟨h,by
 show Bd k ((1:Nat):Int)
 unfold Bd
 exact Nat.one_lt_two_pow (by omega)⟩
def Frs (H:Hp) (ys:List V) (qs:List Rat):Prop:=ys.length=qs.length∧∀ (j:Nat) y,ys[j]?=some y→∃ a,y=.ref a∧H a=some (qO (qs.getD j 0))
theorem Frs.stay {H H':Hp} {ys:List V} {qs:List Rat} (h:Frs H ys qs) (s:Stay H H'):Frs H' ys qs:=⟨h.1,fun j y hy=>by obtain ⟨a,e,z⟩:=h.2 j y hy; exact ⟨a,e,s _ _ z⟩⟩
theorem fr_cell {b:Addr} {H:Hp} {a:Addr} {xs:List V} {x y:Int} (ha:H a=some (.tup xs)) (hs:TrVs b H xs [.int x,.int y]):H a=some (.tup [.int x,.int y]):=by
 cases hs with | cons h1 t1=>?_
 cases h1
 cases t1 with | cons h2 t2=>?_
 cases h2
 cases t2
 exact ha
theorem Frs.of {b:Addr} {H:Hp}:∀ {ys:List V} {qs:List Rat},TrVs b H ys (qs.map qD)→Frs H ys qs
 | [],[],_=>⟨rfl,fun j y h=>by simp at h⟩
 | y :: ys,q :: qs,.cons h t=>by
  have ih:=Frs.of t
  refine ⟨by simp [ih.1],fun j z hz=>?_⟩
  cases j with
  | zero =>
   have e:y=z:=by simpa using hz
   subst e
   unfold qD at h
   cases h with
   | @tup a xs _ ha hs =>
   exact ⟨a,rfl,fr_cell ha hs⟩
  | succ j=>exact ih.2 j z (by simpa using hz)
theorem Frs.at {H:Hp} {ys:List V} {qs:List Rat} (h:Frs H ys qs) {g:Nat} (hg:g < qs.length):∃ a,atI ys (g:Int)=some (.ref a)∧H a=some (qO (qs.getD g 0)):=by
 have hl:g < ys.length:=by rw [h.1]; exact hg
 have e:=List.getElem?_eq_getElem hl
 obtain ⟨a,e2,z⟩:=h.2 g _ e
 rw [e2] at e
 exact ⟨a,atI_nat e,z⟩
theorem Frs.app {H:Hp} {ys:List V} {qs:List Rat} (h:Frs H ys qs) {a:Addr} {q:Rat} (ha:H a=some (qO q)):Frs H (ys ++ [.ref a]) (qs ++ [q]):=by
 refine ⟨by simp [h.1],fun j y hy=>?_⟩
 rcases Nat.lt_or_ge j ys.length with z | z
 ·rw [List.getElem?_append_left z] at hy
  obtain ⟨c,e,hc⟩:=h.2 j y hy
  refine ⟨c,e,?_⟩
  have:(qs ++ [q]).getD j 0=qs.getD j 0:=by simp [List.getD,List.getElem?_append_left (h.1 ▸ z)]
  rw [this]; exact hc
 ·have:j=ys.length:=by
   have:=(List.getElem?_eq_some_iff.mp hy).1
   simp at this; omega
  subst this
  simp at hy
  subst hy
  refine ⟨a,rfl,?_⟩
  have:(qs ++ [q]).getD ys.length 0=q:=by rw [h.1]; simp [List.getD]
  rw [this]; exact ha
theorem Frs.tm {H H':Hp} {ys:List V} {qs:List Rat} (h:Frs H ys qs) (s:Tm H H'):Frs H' ys qs:=⟨h.1,fun j y hy=>by obtain ⟨a,e,z⟩:=h.2 j y hy; exact ⟨a,e,s _ _ z⟩⟩
def sumQ (qs:List Rat):Rat:=qs.foldl (fun s q=>s + q) 0
theorem jb2 {α : Type} {xs:List α} {i:Nat} {x:α} (h:xs[i]?=some x):xs.take (i + 1)=xs.take i ++ [x]:=by rw [List.take_succ,h]; rfl
theorem sumQ_snoc (qs:List Rat) (q:Rat):sumQ (qs ++ [q])=sumQ qs + q:=by unfold sumQ; rw [List.foldl_append]; rfl
theorem rb_zero:Rb 1 (0:Rat):=by unfold Rb Bd; decide +kernel
theorem sumQ_rb {qs:List Rat} {k:Nat} (h:∀ q ∈ qs,Rb k q):∀ i,Rb (1 + (k + 1) * i) (sumQ (qs.take i))
 | 0=>rb_zero
 | i + 1=>by
  have ih:=sumQ_rb h i
  cases e:qs[i]? with
  | none =>
   have:qs.take (i + 1)=qs.take i:=by rw [List.take_succ,e]; simp
   rw [this]
   exact ih.mono (by rw [Nat.mul_succ]; omega)
  | some q =>
   rw [jb2 e,sumQ_snoc]
   refine (rb_add ih (h q (List.mem_of_getElem? e))).mono ?_
   rw [Nat.mul_succ]; omega
theorem money_sum {am:List Int} {qs:List Rat} {gs:List Nat}:moneyQ am qs gs=sumQ (gs.map fun g=>qs.getD g 0 * ((am.getD g 0:Int):Rat)):=by
 unfold moneyQ sumQ
 rw [List.foldl_map]
def spSum:Sp:=fun vs H Q _=>∃ (l:Addr) (ys:List V) (qs:List Rat),vs=[.ref l]∧H l=some (.lst ys)∧Frs H ys qs∧(∀ q ∈ qs,Rb 300 q)∧qs.length ≤ 8∧∀ (r:Addr) (H':Hp),Stay H H'→H' r=some (qO (sumQ qs))→Q (.ref r) H'
theorem am_of {b:Addr} {H:Hp}:∀ {xa:List V} {am:List PyData},TrVs b H xa am→am.all (within 1 60)=true→xa=(am.map intOf).map V.int∧∀ n ∈ am.map intOf,1 ≤ n∧n ≤ 60
 | _,_,.nil,_=>⟨rfl,fun n hn=>nomatch hn⟩
 | _,_,.cons (d:=d) h t,h3=>by
  rw [List.all_cons,Bool.and_eq_true] at h3
  obtain ⟨e,hb⟩:=am_of t h3.2
  obtain ⟨n,rfl,n1,n2⟩:∃ n:Int,d=.int n∧1 ≤ n∧n ≤ 60:=by
   have:=h3.1
   unfold within at this
   split at this
   ·simp at this; exact ⟨_,rfl,this⟩
   ·cases this
  cases h
  refine ⟨by rw [e]; simp [intOf],fun k hk=>?_⟩
  rcases List.mem_cons.mp hk with rfl | hk
  ·exact ⟨n1,n2⟩
  ·exact hb k hk
theorem MkAt.am {b p pa pp pw:Addr} {H:Hp} {xa xp xw:List V} {am pu wi:List PyData} (m:MkAt b H p pa pp pw xa xp xw am pu wi):xa=(am.map intOf).map V.int∧∀ n ∈ am.map intOf,1 ≤ n∧n ≤ 60:=by
 obtain ⟨_,_,h3,_⟩:=isMk_out m.ok
 exact am_of m.ta h3
structure PrAt (b:Addr) (H:Hp) (q:Addr) (ys:List V) (qs:List Rat):Prop where
 hq:H q=some (.tup ys)
 tr:TrVs b H ys (qs.map qD)
 bd:∀ z ∈ qs,Rb 293 z
theorem PrAt.stay {b:Addr} {H H':Hp} {q:Addr} {ys:List V} {qs:List Rat} (h:PrAt b H q ys qs) (s:Stay H H'):PrAt b H' q ys qs:=⟨s _ _ h.hq,h.tr.stay s,h.bd⟩
theorem PrAt.rb {b:Addr} {H:Hp} {q:Addr} {ys:List V} {qs:List Rat} (h:PrAt b H q ys qs) (g:Nat):Rb 293 (qs.getD g 0):=by
 by_cases hg:g < qs.length
 ·have:qs.getD g 0 ∈ qs:=by simp [List.getD,List.getElem?_eq_getElem hg]
  exact h.bd _ this
 ·have:qs.getD g 0=0:=by simp [List.getD,List.getElem?_eq_none (Nat.le_of_not_lt hg)]
  rw [this]; exact rb_zero.mono (by decide)
def spMoneyL:Sp:=fun vs H Q _=>∃ (b p pa pp pw q l:Addr) (xa xp xw ys:List V) (am pu wi:List PyData) (qs:List Rat) (gs:List Nat),vs=[.ref p,.ref q,.ref l]∧MkAt b H p pa pp pw xa xp xw am pu wi∧PrAt b H q ys qs∧qs.length=xa.length∧H l=some (.lst (natsV gs))∧gs.length ≤ 6∧(∀ g ∈ gs,g < xa.length) ∧
 ∀ (r:Addr) (H':Hp),Stay H H'→H' r=some (qO (moneyQ (am.map intOf) qs gs))→Q (.ref r) H'
def LsR (H:Hp) (xs:List V) (M:List (List Int)):Prop:=xs.length=M.length∧∀ (j:Nat) x,xs[j]?=some x→∃ a,x=.ref a∧H a=some (.lst ((M.getD j []).map V.int))
theorem LsR.stay {H H':Hp} {xs:List V} {M:List (List Int)} (h:LsR H xs M) (s:Stay H H'):LsR H' xs M:=⟨h.1,fun j x hx=>by obtain ⟨a,e,z⟩:=h.2 j x hx; exact ⟨a,e,s _ _ z⟩⟩
def spLBest:Sp:=fun vs H Q _=>∃ (b p pa pp pw q:Addr) (xa xp xw ys:List V) (am pu wi:List PyData) (qs:List Rat),vs=[.ref p,.ref q]∧MkAt b H p pa pp pw xa xp xw am pu wi∧PrAt b H q ys qs∧qs.length=xa.length ∧
 ∀ (r:Addr) (xs:List V) (H':Hp),Stay H H'→H' r=some (.lst xs)→LsR H' xs (bestM (rowsOf wi) qs)→Q (.ref r) H'
end KM
namespace L2
open PySem PySem.Spec PyProof.Rows
end L2
namespace KM
open PySem L2 KG EX
theorem ints_tr {b:Addr} {H:Hp}:∀ (ns:List Int),TrVs b H (ns.map V.int) (ns.map PyData.int)
 | []=>.nil
 | n :: ns=>.cons (.int n) (ints_tr ns)
def rowD (ns:List Int):PyData:=.tuple (ns.map PyData.int)
theorem eqv_ints:∀ ns:List Int,PyData.eqvAll (ns.map PyData.int) (ns.map PyData.int)=true
 | []=>by simp [PyData.eqvAll]
 | n :: ns=>by simp [PyData.eqvAll,PyData.eqv,eqv_ints ns]
theorem eqv_row (ns:List Int):PyData.eqv (rowD ns) (rowD ns)=true:=by
 unfold rowD
 simp only [PyData.eqv]
 exact eqv_ints ns
theorem dep_row (ns:List Int):(rowD ns).depth ≤ 1:=by
 unfold rowD
 simp [PyData.depth,depInts]
theorem dep_q (q:Rat):(qD q).depth ≤ 1:=by unfold qD; simp [PyData.depth,PyData.depthAll]
theorem natsV_ints (gs:List Nat):natsV gs=(gs.map fun g:Nat=>(g:Int)).map V.int:=by unfold natsV; rw [List.map_map]; rfl
theorem mk_zero {am pu wi:List PyData} (h:isMk (.tuple [.tuple am,.tuple pu,.tuple wi])=true):isMk (.tuple [.tuple am,.tuple pu,.tuple (wi.drop 1 ++ [.tuple (List.replicate am.length (.int 0))])])=true:=by
 obtain ⟨h1,h2,h3,h4,h5,h6,h7,h8⟩:=isMk_out h
 have hr:isRow am.length 0 100 (.tuple (List.replicate am.length (.int 0)))=true:=by
  show (decide ((List.replicate am.length (PyData.int 0)).length=am.length) && (List.replicate am.length (PyData.int 0)).all (within 0 100))=true
  rw [List.length_replicate,Bool.and_eq_true]
  refine ⟨by simp,List.all_eq_true.mpr fun d hd=>?_⟩
  rw [(List.mem_replicate.mp hd).2]; rfl
 show (decide (1 ≤ am.length) && decide (am.length ≤ 6) && am.all (within 1 60) && (decide (1 ≤ pu.length) && decide (pu.length ≤ 6) && pu.all je1) && (decide ((wi.drop 1 ++ [PyData.tuple (List.replicate am.length (.int 0))]).length=pu.length) && (wi.drop 1 ++ [PyData.tuple (List.replicate am.length (.int 0))]).all (isRow am.length 0 100)))=true
 have hl:(wi.drop 1 ++ [PyData.tuple (List.replicate am.length (.int 0))]).length=pu.length:=by
  rw [List.length_append,List.length_drop]; show wi.length - 1 + 1=_; omega
 have ha:(wi.drop 1 ++ [PyData.tuple (List.replicate am.length (.int 0))]).all (isRow am.length 0 100)=true:=by
  rw [List.all_append,Bool.and_eq_true]
  refine ⟨List.all_eq_true.mpr fun d hd=>List.all_eq_true.mp h8 d (List.mem_of_mem_drop hd),?_⟩
  rw [List.all_cons,hr]; rfl
 rw [decide_eq_true h1,decide_eq_true h2,h3,decide_eq_true h4,decide_eq_true h5,h6,decide_eq_true hl,ha]; rfl
theorem zeros_tr {b:Addr} {H:Hp}:∀ n,TrVs b H (List.replicate n (V.int 0)) (List.replicate n (PyData.int 0))
 | 0=>.nil
 | n + 1=>.cons (.int 0) (zeros_tr n)
theorem flat_zeros (n:Nat):(List.replicate n [V.int 0]).flatten=List.replicate n (V.int 0):=by
 induction n with
 | zero=>rfl
 | succ n ih=>rw [List.replicate_succ,List.flatten_cons,ih]; rfl
end KM
namespace KM
open PySem L2 KG EX
theorem purse_q {d:PyData} (h:je1 d=true):∃ q:Rat,d=qD q∧0 < q∧Rb 20 q:=by
 obtain ⟨t,u,rfl⟩:=purseShape h
 have h':(decide (1 ≤ u) && decide (Int.gcd t u=1) && decide (1 ≤ t) && decide (t ≤ 1000000) && decide (u ≤ 1000000))=true:=h
 simp only [Bool.and_eq_true,decide_eq_true_eq] at h'
 obtain ⟨⟨⟨⟨h1,h2⟩,h3⟩,h4⟩,h5⟩:=h'
 obtain ⟨q,e1,e2⟩:=rat_of (t:=t) (u:=u) (by omega) h2
 refine ⟨q,by unfold qD; rw [e1,e2],rat_pos.mpr (by omega),?_,?_⟩
 ·unfold Bd; omega
 ·unfold Bd; omega
theorem purses_q:∀ {pu:List PyData},pu.all je1=true→∃ ps:List Rat,pu=ps.map qD∧∀ q ∈ ps,0 < q∧Rb 20 q
 | [],_=>⟨[],rfl,fun q h=>nomatch h⟩
 | d :: pu,h=>by
  rw [List.all_cons,Bool.and_eq_true] at h
  obtain ⟨q,rfl,h1,h2⟩:=purse_q h.1
  obtain ⟨ps,rfl,hp⟩:=purses_q h.2
  refine ⟨q :: ps,rfl,fun z hz=>?_⟩
  rcases List.mem_cons.mp hz with rfl | hz
  ·exact ⟨h1,h2⟩
  ·exact hp z hz
def qOf:PyData→Rat
 | .tuple [.int t,.int u]=>Rat.divInt t u
 | _=>0
theorem qOf_qD (q:Rat):qOf (qD q)=q:=Rat.num_divInt_den q
def jb8 (pu:List PyData):List Rat:=pu.map qOf
theorem MkAt.pu {b p pa pp pw:Addr} {H:Hp} {xa xp xw:List V} {am pu wi:List PyData} (m:MkAt b H p pa pp pw xa xp xw am pu wi):pu=(jb8 pu).map qD∧∀ q ∈ jb8 pu,0 < q∧Rb 20 q:=by
 obtain ⟨_,_,_,_,_,h6,_⟩:=isMk_out m.ok
 obtain ⟨ps,e,hp⟩:=purses_q h6
 have:jb8 pu=ps:=by
  rw [e]; unfold jb8
  rw [List.map_map]
  have:(qOf ∘ qD)=id:=by funext q; exact qOf_qD q
  rw [this,List.map_id]
 rw [this]
 exact ⟨e,hp⟩
theorem MkAt.fp {b p pa pp pw:Addr} {H:Hp} {xa xp xw:List V} {am pu wi:List PyData} (m:MkAt b H p pa pp pw xa xp xw am pu wi):Frs H xp (jb8 pu):=by
 have h:=m.tp
 rw [m.pu.1] at h
 exact Frs.of h
theorem rb_getD {k:Nat} {qs:List Rat} (hk:1 ≤ k) (h:∀ q ∈ qs,Rb k q) (g:Nat):Rb k (qs.getD g 0):=by
 by_cases hg:g < qs.length
 ·have:qs.getD g 0 ∈ qs:=by simp [List.getD,List.getElem?_eq_getElem hg]
  exact h _ this
 ·have:qs.getD g 0=0:=by simp [List.getD,List.getElem?_eq_none (Nat.le_of_not_lt hg)]
  rw [this]; exact rb_zero.mono hk
def pickQ (ps:List Rat) (bs:List Nat):Rat:=sumQ (bs.map fun i=>ps.getD i 0)
def spPurses:Sp:=fun vs H Q _=>∃ (b p pa pp pw l:Addr) (xa xp xw:List V) (am pu wi:List PyData) (bs:List Nat),vs=[.ref p,.ref l]∧MkAt b H p pa pp pw xa xp xw am pu wi∧H l=some (.lst (natsV bs))∧bs.length ≤ 6∧(∀ i ∈ bs,i < xp.length) ∧
 ∀ (r:Addr) (H':Hp),Stay H H'→H' r=some (qO (pickQ (jb8 pu) bs))→Q (.ref r) H'
def spDiv:Sp:=fun vs H Q _=>∃ (p q:Addr) (a b:Rat),vs=[.ref p,.ref q]∧H p=some (qO a)∧H q=some (qO b)∧Rb 3000 a∧Rb 3000 b∧0 < b∧∀ r,H r=none→Q (.ref r) (upd H r (qO (a / b)))
theorem rb_divq {j k:Nat} {a b:Rat} (ha:Rb j a) (hb:Rb k b) (h:b ≠ 0):Rb (j + k) (a / b):=by
 have hn:b.num ≠ 0:=fun z=>h (Rat.num_eq_zero.mp z)
 rw [← div_rat hn]
 refine rb_div ?_ (ha.1.mul hb.2) (ha.2.mul hb.1)
 intro z
 rcases Int.mul_eq_zero.mp z with y | y
 ·have:=jc1 a; omega
 ·exact hn y
def pickL (ns:List Int) (mask:Nat):List Int:=((List.range ns.length).filter fun k=>decide (mask / 2 ^ k % 2=1)).map fun k=>ns.getD k 0
def setsL (ns:List Int):List (List Int):=(List.range (2 ^ ns.length)).map (pickL ns)
def spSets:Sp:=fun vs H Q _=>∃ (l:Addr) (ns:List Int),vs=[.ref l]∧H l=some (.lst (ns.map V.int))∧ns.length ≤ 6∧∀ (r:Addr) (xs:List V) (H':Hp),Stay H H'→H' r=some (.lst xs)→LsR H' xs (setsL ns)→(∀ a,V.ref a ∈ xs→H a=none)→Q (.ref r) H'
def IntsOf (c:Int) (ms:List Int) (qs:List Rat):Prop:=ms.length=qs.length∧∀ j,j < qs.length→((ms.getD j 0:Int):Rat)=(c:Rat) * qs.getD j 0
def jb7 (am:List Int) (qs:List Rat):List Rat:=(List.range qs.length).map fun g=>qs.getD g 0 * ((am.getD g 0:Int):Rat)
def spInts:Sp:=fun vs H Q _=>∃ (b p pa pp pw q:Addr) (xa xp xw ys:List V) (am pu wi:List PyData) (qs:List Rat),vs=[.ref p,.ref q]∧MkAt b H p pa pp pw xa xp xw am pu wi∧PrAt b H q ys qs∧qs.length=xa.length ∧
 ∀ (r r1 r2:Addr) (c:Int) (ms ps:List Int) (H':Hp),Stay H H'→0 < c→IntsOf c ms (jb7 (am.map intOf) qs)→IntsOf c ps (jb8 pu)→H' r=some (.lst [.ref r1,.ref r2])→H' r1=some (.lst (ms.map V.int))→H' r2=some (.lst (ps.map V.int))→Q (.ref r) H'
def topsL (rows:List (Int × List Int)) (m:Int):List (List Int):=(rows.filter fun r=>decide (r.1=m)).map (·.2)
def leastOf (rows:List (Int × List Int)) (m:Int):List Int:=((topsL rows m).getD 0 []).filter fun x=>(topsL rows m).all fun s=>s.contains x
def RowsAt (H:Hp) (xs:List V) (rows:List (Int × List Int)):Prop:=xs.length=rows.length∧∀ (j:Nat) x,xs[j]?=some x→∃ a c,x=.ref a∧H a=some (.lst [.int (rows.getD j (0,[])).1,.ref c])∧H c=some (.lst ((rows.getD j (0,[])).2.map V.int))
def spLeast:Sp:=fun vs H Q _=>∃ (l:Addr) (xs:List V) (rows:List (Int × List Int)),vs=[.ref l]∧H l=some (.lst xs)∧RowsAt H xs rows∧rows ≠ []∧rows.length ≤ 64∧(∀ r ∈ rows,r.2.length ≤ 6) ∧
 ∀ (m:Int) (r:Addr) (H':Hp),m ∈ rows.map (·.1)→(∀ n ∈ rows.map (·.1),n ≤ m)→Stay H H'→H' r=some (.tup ((leastOf rows m).map V.int))→Q (.ref r) H'
end KM
namespace KM
open PySem L2 KG EX
theorem boot_zip:bootBuiltins "zip"=some (.type "zip"):=by first | rfl | kernel_rfl | decide +kernel
def spWis:Sp:=fun vs H Q _=>∃ (b p pa pp pw:Addr) (xa xp xw:List V) (am pu wi:List PyData),vs=[.ref p]∧MkAt b H p pa pp pw xa xp xw am pu wi∧∀ (q:Addr) (H':Hp),Stay H H'→H' q=some (.tup (jd5 xa.length (rowsOf wi)))→Q (.ref q) H'
def spGre:Sp:=fun vs H Q _=>∃ (l:Addr) (ys:List V) (qs:List Rat),vs=[.ref l]∧H l=some (.lst ys)∧Frs H ys qs∧qs ≠ []∧(∀ q ∈ qs,Rb 3000 q)∧∀ (a:Addr) (q:Rat),H a=some (qO q)→q ∈ qs→(∀ z ∈ qs,z ≤ q)→Q (.ref a) H
theorem frs_get {H:Hp} {ys:List V} {qs:List Rat} (h:Frs H ys qs) {i:Nat} {y:V} (hy:ys[i]?=some y):∃ (a:Addr) (q:Rat),y=.ref a∧H a=some (qO q)∧qs[i]?=some q:=by
 obtain ⟨a,e,z⟩:=h.2 i y hy
 have hi:i < qs.length:=by rw [← h.1]; exact (List.getElem?_eq_some_iff.mp hy).1
 refine ⟨a,qs[i],e,?_,List.getElem?_eq_getElem hi⟩
 have:qs.getD i 0=qs[i]:=by simp [List.getD,List.getElem?_eq_getElem hi]
 rw [this] at z; exact z
def spBB:Sp:=fun vs H Q _=>∃ (r q:Addr) (ns:List Int) (ys:List V) (qs:List Rat),vs=[.ref r,.ref q]∧H r=some (.tup (ns.map V.int))∧H q=some (.tup ys)∧Frs H ys qs∧ns.length=qs.length∧ns.length ≤ 6∧(∀ k ∈ ns,0 ≤ k∧k ≤ 100)∧(∀ z ∈ qs,Rb 300 z) ∧
 (∀ j,0 < ns.getD j 0→0 < qs.getD j 0)∧∀ (t:Addr) (H':Hp),Stay H H'→H' t=some (.tup (natsV (bestR ns qs)))→Q (.ref t) H'
def spRate:Sp:=fun vs H Q _=>∃ (n:Int) (q:Addr) (x:Rat),vs=[.int n,.ref q]∧H q=some (qO x)∧Rb 300 x∧0 < x∧0 ≤ n∧n ≤ 100∧∀ (t:Addr) (H':Hp),Stay H H'→H' t=some (qO ((n:Rat) / x))→Q (.ref t) H'
def monQ (am:List Int) (qs:List Rat) (n:Nat):List Rat:=(List.range n).map fun g=>((am.getD g 0:Int):Rat) * qs.getD g 0
def spMBG:Sp:=fun vs H Q _=>∃ (b p pa pp pw q:Addr) (xa xp xw ys:List V) (am pu wi:List PyData) (qs:List Rat),vs=[.ref p,.ref q]∧MkAt b H p pa pp pw xa xp xw am pu wi∧H q=some (.tup ys)∧Frs H ys qs∧qs.length=xa.length∧(∀ z ∈ qs,Rb 300 z) ∧
 ∀ (r:Addr) (zs:List V) (H':Hp),Stay H H'→H r=none→H' r=some (.lst zs)→Frs H' zs (monQ (am.map intOf) qs xa.length)→Q (.ref r) H'
def spNeed (Pr:Addr):Sp:=fun vs H Q E=>∃ (b p pa pp pw:Addr) (xa xp xw:List V) (am pu wi:List PyData) (v:V) (d:PyData),vs=[.ref p,v]∧MkAt b H p pa pp pw xa xp xw am pu wi∧TrV b H v d ∧
 (isPrs xa.length (rowsOf wi) d=false→∀ H',Stay H H'→E (.ref Pr) none H')∧(isPrs xa.length (rowsOf wi) d=true→∀ H',Stay H H'→Q .non H')
theorem eqv_qq (p q:Rat):PyData.eqv (qD p) (qD q)=decide (p=q):=by
 unfold qD
 simp only [PyData.eqv,PyData.eqvAll]
 rw [Bool.eq_iff_iff]
 simp
 constructor
 ·rintro ⟨h1,h2⟩; exact Rat.ext h1 (by omega)
 ·rintro rfl; exact ⟨rfl,rfl⟩
theorem qO_dt {K:PySem.W.Frag} {H:Hp} {a:Addr} {q:Rat} (h:H a=some (qO q)):DtV K H (.ref a) (qD q):=(TrV.tup (b:=a + 1) h (.cons (.int _) (.cons (.int _) .nil))).dt
def posL (ns:List Int) (i:Nat):List Nat:=(List.range i).filter fun j=>decide (0 < ns.getD j 0)
def rateQ (ns:List Int) (qs:List Rat) (j:Nat):Rat:=((ns.getD j 0:Int):Rat) / qs.getD j 0
theorem posL_succ (ns:List Int) (i:Nat):posL ns (i + 1)=posL ns i ++ if 0 < ns.getD i 0 then [i] else []:=by
 unfold posL
 rw [List.range_succ,List.filter_append]
 congr 1
 by_cases h:0 < ns.getD i 0
 ·rw [if_pos h]; simp only [List.filter,h,decide_true]
 ·rw [if_neg h]; simp only [List.filter,h,decide_false]
theorem posL_lt {ns:List Int} {i j:Nat} (h:j ∈ posL ns i):j < i∧0 < ns.getD j 0:=by
 unfold posL at h
 rw [List.mem_filter] at h
 exact ⟨by simpa using h.1,by simpa using h.2⟩
theorem posL_len (ns:List Int) (i:Nat):(posL ns i).length ≤ i:=by
 unfold posL
 exact Nat.le_trans (List.length_filter_le _ _) (by simp)
theorem posL_nodup (ns:List Int) (i:Nat):(posL ns i).Nodup:=(List.nodup_range).sublist List.filter_sublist
def keyN (j:Nat):Key:=.inl (j:Int)
theorem keyN_inj {i j:Nat} (h:keyN i=keyN j):i=j:=by unfold keyN at h; injection h with h; omega
structure Rts (ns:List Int) (qs:List Rat) (i:Nat) (kvs:List (Key × V)) (H:Hp):Prop where
 ks:kvs.map (·.1)=(posL ns i).map keyN
 fr:Frs H (kvs.map (·.2)) ((posL ns i).map (rateQ ns qs))
theorem Rts.len {ns:List Int} {qs:List Rat} {i:Nat} {kvs:List (Key × V)} {H:Hp} (h:Rts ns qs i kvs H):kvs.length=(posL ns i).length:=by
 have:=congrArg List.length h.ks
 simpa using this
theorem Rts.stay {ns:List Int} {qs:List Rat} {i:Nat} {kvs:List (Key × V)} {H H':Hp} (h:Rts ns qs i kvs H) (s:Stay H H'):Rts ns qs i kvs H':=⟨h.ks,h.fr.stay s⟩
theorem Rts.tm {ns:List Int} {qs:List Rat} {i:Nat} {kvs:List (Key × V)} {H H':Hp} (h:Rts ns qs i kvs H) (s:Tm H H'):Rts ns qs i kvs H':=⟨h.ks,h.fr.tm s⟩
theorem valV_none {kvs:List (Key × V)} {k:Key} (h:k ∉ kvs.map (·.1)):valV kvs k=none:=by
 cases e:valV kvs k with
 | none=>rfl
 | some v=>exact absurd (valV_in e) h
theorem Rts.put {ns:List Int} {qs:List Rat} {i:Nat} {kvs:List (Key × V)} {H:Hp} (h:Rts ns qs i kvs H) {a:Addr} (hp:0 < ns.getD i 0) (ha:H a=some (qO (rateQ ns qs i))):Rts ns qs (i + 1) (putK kvs (keyN i) (.ref a)) H:=by
 have hn:keyN i ∉ kvs.map (·.1):=by
  rw [h.ks]
  intro z
  obtain ⟨j,hj,e⟩:=List.mem_map.mp z
  have:=(posL_lt hj).1
  have:=keyN_inj e
  omega
 rw [putK_new _ (valV_none hn)]
 refine ⟨?_,?_⟩
 ·rw [List.map_append,h.ks,posL_succ,if_pos hp,List.map_append]; rfl
 ·rw [List.map_append,posL_succ,if_pos hp,List.map_append]
  exact h.fr.app ha
theorem Rts.skip {ns:List Int} {qs:List Rat} {i:Nat} {kvs:List (Key × V)} {H:Hp} (h:Rts ns qs i kvs H) (hp:¬ 0 < ns.getD i 0):Rts ns qs (i + 1) kvs H:=by
 refine ⟨?_,?_⟩
 ·rw [posL_succ,if_neg hp,List.append_nil]; exact h.ks
 ·rw [posL_succ,if_neg hp,List.append_nil]; exact h.fr
theorem Rts.at {ns:List Int} {qs:List Rat} {n i:Nat} {kvs:List (Key × V)} {H:Hp} (h:Rts ns qs n kvs H) {k:Key} {v:V} (e:kvs[i]?=some (k,v)):∃ (j:Nat) (a:Addr),(posL ns n)[i]?=some j∧k=keyN j∧v=.ref a∧H a=some (qO (rateQ ns qs j))∧valV kvs k=some v:=by
 have e1:=congrArg (fun l=>l[i]?) h.ks
 simp only [List.getElem?_map,e,Option.map_some] at e1
 cases ej:(posL ns n)[i]? with
 | none=>rw [ej] at e1; cases e1
 | some j =>
  rw [ej] at e1
  simp only [Option.map_some,Option.some.injEq] at e1
  have e2:(kvs.map (·.2))[i]?=some v:=by rw [List.getElem?_map,e]; rfl
  obtain ⟨a,q,ea,hq,eq⟩:=frs_get h.fr e2
  rw [List.getElem?_map,ej] at eq
  simp only [Option.map_some,Option.some.injEq] at eq
  refine ⟨j,a,rfl,e1,ea,by rw [eq]; exact hq,?_⟩
  have nd:(kvs.map (·.1)).Nodup:=by
   rw [h.ks]
   exact (posL_nodup ns n).map _ fun _ _ hab z=>hab (keyN_inj z)
  clear e1 ej e2 ea hq eq h
  induction kvs generalizing i with
  | nil=>simp at e
  | cons p r ih =>
   rw [List.map_cons,List.nodup_cons] at nd
   cases i with
   | zero =>
    have e':p=(k,v):=by simpa using e
    rw [e']; exact valV_pos rfl
   | succ i =>
    have e':r[i]?=some (k,v):=by simpa using e
    have hm:k ∈ r.map (·.1):=List.mem_map.mpr ⟨(k,v),List.mem_of_getElem? e',rfl⟩
    rw [valV_neg (fun z=>nd.1 (by rw [z]; exact hm))]
    exact ih e' nd.2
theorem rate_lt {ns:List Int} {qs:List Rat} {g o:Nat} (hg:0 < qs.getD g 0) (ho:0 < qs.getD o 0):(rateQ ns qs g < rateQ ns qs o) ↔ (((ns.getD g 0:Int):Rat) * qs.getD o 0 < ((ns.getD o 0:Int):Rat) * qs.getD g 0):=by
 unfold rateQ
 generalize ((ns.getD g 0:Int):Rat)=a
 generalize ((ns.getD o 0:Int):Rat)=b
 generalize qs.getD g 0=x at hg ⊢
 generalize qs.getD o 0=y at ho ⊢
 have hxy:(0:Rat) < x * y:=Rat.mul_pos hg ho
 rw [← Rat.mul_lt_mul_left hxy]
 have hx:x ≠ 0:=fun z=>by rw [z] at hg; exact absurd hg (by decide)
 have hy:y ≠ 0:=fun z=>by rw [z] at ho; exact absurd ho (by decide)
 have e1:x * y * (a / x)=a * y:=by grind
 have e2:x * y * (b / y)=b * x:=by grind
 rw [e1,e2]
theorem best_max {ns:List Int} {qs:List Rat} (hpos:∀ j,0 < ns.getD j 0→0 < qs.getD j 0) (hnn:∀ j,0 ≤ ns.getD j 0) {m:Rat} (hm:m ∈ (posL ns ns.length).map (rateQ ns qs)) (hmax:∀ z ∈ (posL ns ns.length).map (rateQ ns qs),z ≤ m) :
  bestR ns qs=(posL ns ns.length).filter fun j=>decide (rateQ ns qs j=m):=by
 unfold bestR posL
 rw [List.filter_filter]
 refine List.filter_congr fun g hg=>?_
 have hgl:g < ns.length:=by simpa using hg
 unfold bestB
 by_cases h0:0 < ns.getD g 0
 ·have h1:ns.getD g 0 ≠ 0:=by omega
  rw [decide_eq_true h1,decide_eq_true h0,Bool.true_and,Bool.and_true,Bool.eq_iff_iff,List.all_eq_true,decide_eq_true_eq]
  constructor
  ·intro h
   obtain ⟨o,ho,eo⟩:=List.mem_map.mp hm
   obtain ⟨ol,op⟩:=posL_lt ho
   have:=h o (by simpa using ol)
   unfold worse at this
   rw [decide_eq_true op,Bool.true_and,Bool.not_eq_true',decide_eq_false_iff_not,← rate_lt (hpos g h0) (hpos o op),eo] at this
   have h2:rateQ ns qs g ≤ m:=hmax _ (List.mem_map.mpr ⟨g,List.mem_filter.mpr ⟨hg,by simpa using h0⟩,rfl⟩)
   exact Rat.le_antisymm h2 (Rat.not_lt.mp this)
  ·intro h o ho
   unfold worse
   by_cases op:0 < ns.getD o 0
   ·rw [decide_eq_true op,Bool.true_and,Bool.not_eq_true',decide_eq_false_iff_not,← rate_lt (hpos g h0) (hpos o op),h]
    exact Rat.not_lt.mpr (hmax _ (List.mem_map.mpr ⟨o,List.mem_filter.mpr ⟨ho,by simpa using op⟩,rfl⟩))
   ·rw [decide_eq_false op]; rfl
 ·have h1:ns.getD g 0=0:=by have:=hnn g; omega
  rw [decide_eq_false h0,Bool.and_false]
  rw [decide_eq_false (fun z=>z h1)]; rfl
theorem best_none {ns:List Int} {qs:List Rat} (hnn:∀ j,0 ≤ ns.getD j 0) (h:posL ns ns.length=[]):bestR ns qs=[]:=by
 unfold bestR
 rw [List.filter_eq_nil_iff]
 intro g hg
 have hgl:g < ns.length:=by simpa using hg
 unfold bestB
 have h0:¬ 0 < ns.getD g 0:=fun z=>by
  have:g ∈ posL ns ns.length:=List.mem_filter.mpr ⟨hg,by simpa using z⟩
  rw [h] at this; cases this
 have h1:ns.getD g 0=0:=by have:=hnn g; omega
 rw [decide_eq_false (fun z=>z h1)]
 simp
end KM
namespace KM
open PySem L2 KG EX
theorem rb_rate {n:Int} {x:Rat} {k j:Nat} (hn:Bd k n) (hx:Rb j x) (h0:0 < x):Rb (k + j) ((n:Rat) / x):=by
 have hp:=rat_pos.mp h0
 have hd:=jc1 x
 have e:=div_rat (a:=(n:Rat)) (b:=x) (by omega)
 have en:((n:Rat)).num=n:=Rat.num_intCast n
 have ed:(((n:Rat)).den:Int)=1:=rfl
 rw [en,ed,Int.one_mul] at e
 rw [← e]
 exact rb_div (by omega) (hn.mul hx.2) (hx.1.mono (by omega))
end KM
namespace KM
open PySem L2 KG EX
end KM
namespace KM
open PySem L2 KG EX
theorem rws_app {H:Hp}:∀ {ws:List V} {M:List (List Int)} {a:Addr} {ns:List Int},Rws H ws M→H a=some (.tup (ns.map V.int))→Rws H (ws ++ [.ref a]) (M ++ [ns])
 | _,_,a,_,.nil,ha=>.cons ⟨a,rfl,ha⟩ .nil
 | _,_,_,_,.cons h t,ha=>.cons h (rws_app t ha)
end KM
namespace KM
open PySem L2 KG EX
theorem LsR.app {H:Hp} {ys:List V} {M:List (List Int)} (h:LsR H ys M) {a:Addr} {r:List Int} (ha:H a=some (.lst (r.map V.int))):LsR H (ys ++ [.ref a]) (M ++ [r]):=by
 refine ⟨by simp [h.1],fun j y hy=>?_⟩
 rcases Nat.lt_or_ge j ys.length with z | z
 ·rw [List.getElem?_append_left z] at hy
  obtain ⟨c,e,hc⟩:=h.2 j y hy
  refine ⟨c,e,?_⟩
  have:(M ++ [r]).getD j []=M.getD j []:=by simp [List.getD,List.getElem?_append_left (h.1 ▸ z)]
  rw [this]; exact hc
 ·have:j=ys.length:=by
   have:=(List.getElem?_eq_some_iff.mp hy).1
   simp at this; omega
  subst this
  simp at hy
  subst hy
  refine ⟨a,rfl,?_⟩
  have:(M ++ [r]).getD ys.length []=r:=by rw [h.1]; simp [List.getD]
  rw [this]; exact ha
theorem inv_ints (ns:List Int) (n:Int):inV (V.int n) (ns.map V.int)=ns.contains n:=by
 unfold inV
 rw [List.any_map,Bool.eq_iff_iff,List.any_eq_true,List.contains_iff_mem]
 constructor
 ·rintro ⟨x,hx,e⟩
  have:x=n:=by simpa [eqV] using e
  rw [← this]; exact hx
 ·intro h
  exact ⟨n,h,by simp [eqV]⟩
theorem lsr_dt {K:PySem.W.Frag} {H:Hp}:∀ {zs:List V} {M:List (List Int)},LsR H zs M→DtVs K H zs (M.map fun r=>PyData.list (r.map PyData.int))
 | [],[],_=>.nil
 | [],_ :: _,h=>by have:=h.1; simp at this
 | _ :: _,[],h=>by have:=h.1; simp at this
 | z :: zs,r :: M,h=>by
  obtain ⟨a,e,ha⟩:=h.2 0 z rfl
  subst e
  have hr:(r :: M).getD 0 []=r:=rfl
  rw [hr] at ha
  refine .cons (.lst (SqL.of ha) (ints_tr (b:=a) r).dt) (lsr_dt (zs:=zs) (M:=M) ⟨by simpa using h.1,fun j x hx=>?_⟩)
  obtain ⟨c,e,hc⟩:=h.2 (j + 1) x (by simpa using hx)
  exact ⟨c,e,by simpa [List.getD] using hc⟩
theorem filt_all {α : Type} {f:α→Bool}:∀ (xs:List α),(xs.filter fun x=>!f x).isEmpty=xs.all f
 | []=>rfl
 | x :: xs=>by
  cases h:f x with
  | true=>simp only [List.filter,h,Bool.not_true,List.all_cons,Bool.true_and]; exact filt_all xs
  | false=>simp [List.filter,h]
end KM
namespace KM
theorem filt1 {α : Type} (f:α→Bool) (x:α):[x].filter f=if f x=true then [x] else []:=by cases h:f x <;> simp [List.filter,h]
end KM
namespace K9
open PySem L2 KG EX KM
section
variable {P:Program} {w:World} {K:PySem.W.Frag} {mg:Str→Option Value} {base:Heap}
abbrev NWi:List Str:=["market","amounts","purses","wishes"]
theorem scWished:FnScope NWi ["market"] (ja5 (top 15)):=⟨rfl,rfl,rfl,by decide +kernel,rfl,by decide +kernel,by decide +kernel⟩
theorem ok_wished {f:Addr} {fd:FuncData} (F:Fun K "wished" "wished" (top 15) f fd) (N:Nm mg):FnOk P w K mg base CX0 1 f fd ["market"] spWis:=by
 refine F.ok scWished (fun vs H Q E h=>?_) (fun cdv A outer s H vs Q E hr h=>?_)
 ·obtain ⟨b,p,pa,pp,pw,xa,xp,xw,am,pu,wi,rfl,_⟩:=h; rfl
 ·obtain ⟨b,p,pa,pp,pw,xa,xp,xw,am,pu,wi,rfl,m,k⟩:=h
  obtain ⟨rw0,rne,rlen,rbd,a1,a6,w1,w6,_⟩:=m.lw
  refine ⟨_,ja4 (ps_asg (pv 0) (pgTup0 rfl (jc9 (ja8 (i:=1) scWished.nd rfl (Or.inl rfl)) (jc9 (ja8 (i:=2) scWished.nd rfl (Or.inl rfl)) (jc9 (ja8 (i:=3) scWished.nd rfl (Or.inr rfl)) pgs_nil)))))
   (ja7 (jb4 (jb6 cTup0 (by rfl) N.tuple jc5 (ja0 (jc3 (own:=["good"]) (cap:=["wishes"]) (ix:=[3]) (BlkOk.of (ja5 (top 15)).names NWi) rfl
    (jd2 rfl N.range (ja0 (jb0 cLen0 (by rfl) N.len PySem.boot_len (ja0 (pv 1) ja2)) ja2))
    (fun C fp s H=>⟨ja8 (i:=0) (show List.Nodup (["good","wishes"]:List Str) by decide +kernel) rfl (Or.inr rfl),
     je6 (pt_val (jb0 (cAny0 rfl) (by rfl) N.any boot_any (ja0 (jc3 (own:=["row"]) (cap:=["good"]) (ix:=[0]) (BlkOk.of [(".0",.local),("good",.cell),("any",.globalImplicit),("wishes",.cell)] ["good","wishes"]) rfl (piT0 (pv 1))
      (fun C fp s H=>⟨ja8 (i:=0) (show List.Nodup (["row","good"]:List Str) by decide +kernel) rfl (Or.inl rfl),jb9,pe_cmpR op_gt (ja9 ixT0 (pv 0) (pv 1) (fun _ _=>rfl)) ja3 (nomark _)⟩)) ja2))),
     pv 0⟩)) ja2)))),?_⟩
  refine ⟨_,rfl,p,_,rfl,SqT.of m.hp,rfl,_,_,rfl,_,_,rfl,_,_,rfl,rfl,?_⟩
  refine ⟨_,rfl,pa,xa,rfl,.inr (SqT.of m.ha),(xa.length:Int),rfl,by omega,by omega,fun acc hacc=>?_⟩
  have exl:((xa.length:Int)).toNat=xa.length:=by simp
  rw [exl]
  refine je8 (fun i ys H'=>Stay H H'∧ys=jd5 i (rowsOf wi)) ⟨(Stay.refl H).acc hacc,rfl⟩ ?_ ?_
  ·rintro i ys H' hi hy ⟨st,rfl⟩
   refine ⟨_,rfl,pw,rfl,⟨xw,SqT.of (st _ _ m.hw)⟩,fun acc2 hacc2=>?_⟩
   refine comp_tup (xs:=xw) (fun j zs H2=>Stay H' H2∧zs=((rowsOf wi).take j).map fun r=>V.bl (decide (0 < r.getD i 0))) ⟨(Stay.refl H').acc hacc2,rfl⟩ (fun j ys H2 _ _ q=>SqT.of (q.1 _ _ (st _ _ m.hw))) ?_ ?_
   ·rintro j x zs H2 hx hz ⟨st2,rfl⟩
    refine je9 ?_
    obtain ⟨ns,a,hM,rfl,hA⟩:=rw0.at hx
    have hA2:=st2 _ _ (st _ _ hA)
    have hnl:=rlen ns (List.mem_of_getElem? hM)
    obtain ⟨ea,_,_⟩:=jd8 (ns:=ns) (r:=0 + (i:Int)) (by omega) (by omega)
    have et:(0 + (i:Int)).toNat=i:=by omega
    rw [et] at ea
    refine ⟨_,rfl,_,rfl,a,_,_,_,rfl,rfl,SqT.of hA2,ea,_,_,rfl,rfl,_,hz,?_,Cn.of ja1 ⟨st2.acc hacc2,?_⟩⟩
    ·rw [List.length_map,List.length_take,sz]; have:=rw0.len; omega
    ·rw [List.take_add_one,hM,List.map_append]
     rfl
   ·rintro zs H2 hz ⟨st2,rfl⟩
    have hl:=rw0.len
    rw [hl,List.take_length] at hz
    refine ⟨acc2,_,rfl,.inl (SqL.of hz),?_,_,rfl,?_⟩
    ·rw [List.all_map]; simp [Function.comp_def,plainB]
    ·have e:((rowsOf wi).map fun r=>V.bl (decide (0 < r.getD i 0))).any tv=has (rowsOf wi) i:=by
      rw [List.any_map]; rfl
     rw [e]
     have hy2:=st2 _ _ hy
     cases hh:has (rowsOf wi) i with
     | true =>
      refine iteT ⟨_,rfl,_,hy2,?_,Cn.of ja1 ⟨(st.trans st2).acc hacc,?_⟩⟩
      ·have:=wishedL_len i (rowsOf wi); rw [sz]; omega
      ·rw [jf5,hh]; rfl
     | false =>
      refine iteF (Cn.of hy2 ⟨st.trans st2,?_⟩)
      rw [jf5,hh]; simp
  ·rintro ys H' hy ⟨st,rfl⟩
   refine ⟨acc,_,rfl,.inl ⟨SqL.of hy,fun l hl=>?_⟩⟩
   exact k l _ (st.new hl) ja1
theorem scGre:FnScope ["parts","found","part"] ["parts"] (ja5 (top 12)):=⟨rfl,rfl,rfl,by decide +kernel,rfl,by decide +kernel,by decide +kernel⟩
theorem ok_greatest {f fA:Addr} {fd dA:FuncData} (F:Fun K "greatest" "greatest" (top 12) f fd) (A:Cal K mg P w base "less" 1 ["one","other"] spLess fA dA):FnOk P w K mg base CX0 2 f fd ["parts"] spGre:=by
 refine F.ok scGre (fun vs H Q E h=>?_) (fun cdv A' outer s H vs Q E hr h=>?_)
 ·obtain ⟨l,ys,qs,rfl,_⟩:=h; rfl
 ·obtain ⟨l,ys,qs,rfl,hl,hf,hne,hb,k⟩:=h
  refine ⟨_,ja4 (jb1 (i:=1) scGre.nd rfl (Or.inl rfl) (ja9 ixL0 (pv 0) ja3 (fun _ _=>rfl)))
   (ja4 (jf6 PassesOwn.never rfl (piL0 (pv 0)) (ja8 (i:=2) scGre.nd rfl (Or.inl rfl))
    (ja7 (jf1 (pt_val (ja6 A.ok hr rfl A.mg A.kp A.bd .nil pass0 (ja0 (pv 1) (ja0 (pv 2) ja2)))) (ja7 (jb1 (i:=1) scGre.nd rfl (Or.inl rfl) (pv 2))) jc6)))
   (ja7 (jb4 (pv 1)))),?_⟩
  have hpos:0 < qs.length:=List.length_pos_iff.mpr hne
  obtain ⟨a0,ea0,ha0⟩:=hf.at (g:=0) hpos
  have m0:qs.getD 0 0 ∈ qs:=by simp [List.getD,List.getElem?_eq_getElem hpos]
  refine ⟨_,rfl,l,_,_,_,rfl,rfl,SqL.of hl,ea0,?_⟩
  refine ⟨_,rfl,l,rfl,⟨_,SqL.of hl⟩,?_⟩
  refine jf7 (xs:=ys) (fun i σ H'=>H'=H∧∃ a q y2,σ=[some (.ref l),some (.ref a),y2]∧H a=some (qO q)∧q ∈ qs∧∀ z ∈ qs.take i,z ≤ q) ⟨rfl,a0,_,_,rfl,ha0,m0,fun z hz=>by simp at hz⟩ (fun i σ H' _ z=>by obtain ⟨rfl,_⟩:=z; exact SqL.of hl) ?_ ?_
  ·rintro i x σ H1 hx ⟨rfl,a,q,y2,rfl,ha,hq,hmax⟩
   obtain ⟨c,z,rfl,hc,hz⟩:=frs_get hf hx
   have hzm:=List.mem_of_getElem? hz
   refine ⟨_,rfl,_,rfl,a,c,q,z,rfl,ha,hc,hb q hq,hb z hzm,_,rfl,?_⟩
   by_cases hlt:q < z
   ·rw [decide_eq_true hlt]
    refine iteT ⟨_,rfl,rfl,c,z,_,rfl,hc,hzm,fun y hy=>?_⟩
    rw [jb2 hz] at hy
    rcases List.mem_append.mp hy with h | h
    ·exact Rat.le_trans (hmax y h) (Rat.le_of_lt hlt)
    ·rw [List.mem_singleton.mp h]; exact Rat.le_refl
   ·rw [decide_eq_false hlt]
    refine iteF ⟨rfl,a,q,_,rfl,ha,hq,fun y hy=>?_⟩
    rw [jb2 hz] at hy
    rcases List.mem_append.mp hy with h | h
    ·exact hmax y h
    ·rw [List.mem_singleton.mp h]; exact Rat.not_lt.mp hlt
  ·rintro σ H1 ⟨rfl,a,q,y2,rfl,ha,hq,hmax⟩
   rw [hf.1,List.take_length] at hmax
   exact ⟨_,rfl,k a q ha hq hmax⟩
theorem scRate:FnScope ["wish","price"] ["wish","price"] (ja5 (top 22)):=⟨rfl,rfl,rfl,by decide +kernel,rfl,by decide +kernel,by decide +kernel⟩
theorem ok_rate {f fA Nn:Addr} {fd dA:FuncData} (F:Fun K "rate" "rate" (top 22) f fd) (A:CalX K mg P w base "over" 3 ["one","other"] (spOver Nn) fA dA):FnOk P w K mg base CX0 4 f fd ["wish","price"] spRate:=by
 refine F.ok scRate (fun vs H Q E h=>?_) (fun cdv A' outer s H vs Q E hr h=>?_)
 ·obtain ⟨n,q,x,rfl,_⟩:=h; rfl
 ·obtain ⟨n,q,x,rfl,hq,bx,x0,n0,n1,k⟩:=h
  refine ⟨_,ja7 (jb4 (ja6 A.ok hr rfl A.mg A.kp A.bd .nil passE0 (ja0 (jd6 (ja0 (pv 0) (ja0 ja3 ja2))) (ja0 (pv 1) ja2)))),?_⟩
  refine ⟨_,rfl,by show 2 ≤ sizeLine; decide,fun p hp=>?_⟩
  have s0:=(Stay.refl H).new (o:=.tup [.int n,.int 1]) hp
  have bn:Rb 3000 (n:Rat):=rb_int (Bd.mono (j:=7) (by unfold Bd; omega) (by decide)) (by decide)
  have hx:x ≠ 0:=fun z=>by rw [z] at x0; exact absurd x0 (by decide)
  refine ⟨_,rfl,p,q,(n:Rat),x,rfl,ja1,s0 _ _ hq,bn,bx.mono (by decide),fun z=>absurd z hx,fun _ r hr'=>?_⟩
  exact k r _ (s0.new hr') ja1
end
end K9
namespace K9
open PySem L2 KG EX KM
section
variable {P:Program} {w:World} {K:PySem.W.Frag} {mg:Str→Option Value} {base:Heap}
abbrev NBB:List Str:=["row","prices","rates","most"]
theorem scBB:FnScope NBB ["row","prices"] (ja5 (top 21)):=⟨rfl,rfl,rfl,by decide +kernel,rfl,by decide +kernel,by decide +kernel⟩
theorem ok_bb {f fR fG:Addr} {fd dR dG:FuncData} (F:Fun K "best_by_wishes" "best_by_wishes" (top 21) f fd) (N:Nm mg) (R:Cal K mg P w base "rate" 4 ["wish","price"] spRate fR dR) (G:Cal K mg P w base "greatest" 2 ["parts"] spGre fG dG):FnOk P w K mg base CX0 5 f fd ["row","prices"] spBB:=by
 refine F.ok scBB (fun vs H Q E h=>?_) (fun cdv A' outer s H vs Q E hr h=>?_)
 ·obtain ⟨r,q,ns,ys,qs,rfl,_⟩:=h; rfl
 ·obtain ⟨r,q,ns,ys,qs,rfl,hrw,hq,hf,hlen,h6,hbn,hbq,hpos,k⟩:=h
  have hr2:Room 2 _:=hr.mono (by decide)
  have hu:=hr.units
  have hu1:=hu_of hr
  refine ⟨_,ja4 (jb1 (i:=2) scBB.nd rfl (Or.inr rfl) (pe_dcomp (own:=["good","wish"]) (cap:=["prices"]) (ix:=[1]) (BlkOk.of (ja5 (top 21)).names NBB) rfl (piEnum0 rfl N.enumerate boot_enumerate (ja0 (pv 0) ja2))
    (fun C fp s H=>⟨pgTup0 (n:=2) rfl (jc9 (ja8 (i:=0) (show List.Nodup (["good","wish","prices"]:List Str) by decide +kernel) rfl (Or.inl rfl)) (jc9 (ja8 (i:=1) (show List.Nodup (["good","wish","prices"]:List Str) by decide +kernel) rfl (Or.inl rfl)) pgs_nil)),
     je6 (jc0 op_gt (pv 1) ja3 (nomark _)),pv 0,ja6 R.ok hr rfl R.mg R.kp R.bd .nil pass0 (ja0 (pv 1) (ja0 (ja9 ixT0 (pv 2) (pv 0) (fun _ _=>rfl)) ja2))⟩)))
   (ja4 (jf1 (pt_not (pt_truth (pv 2) (fun _=>rfl))) (ja7 (jb4 (jd6 ja2))) jc6)
   (ja4 (jb1 (i:=3) scBB.nd rfl (Or.inr rfl) (ja6 G.ok hr2 rfl G.mg G.kp G.bd .nil pass0 (ja0 (jb6 (call_list_values rfl) (by rfl) N.list jf4 (ja0 (pe_bm0 PySem.F.plainAttrs_dict PySem.F.slot_dict_values PySem.F.type_dict_values mt_values (pv 2)) ja2)) ja2)))
   (ja7 (jb4 (jb6 cTup0 (by rfl) N.tuple jc5 (ja0 (jc3 (own:=["good"]) (cap:=["most","rates"]) (ix:=[3,2]) (BlkOk.of (ja5 (top 21)).names NBB) rfl (pi_dict (pv 2))
    (fun C fp s H=>⟨ja8 (i:=0) (show List.Nodup (["good","most","rates"]:List Str) by decide +kernel) rfl (Or.inl rfl),je6 (jc0 (opEqD0 hu) (pe_dget hu1 (pv 2) (pv 0) (fun _ _=>rfl)) (pv 1) (nomark _)),pv 0⟩)) ja2)))))),?_⟩
  have hnn:∀ j,0 ≤ ns.getD j 0:=fun j=>by
   by_cases hj:j < ns.length
   ·have:ns.getD j 0 ∈ ns:=by simp [List.getD,List.getElem?_eq_getElem hj]
    exact (hbn _ this).1
   ·simp [List.getD,List.getElem?_eq_none (Nat.le_of_not_lt hj)]
  refine ⟨_,rfl,r,rfl,⟨_,SqT.of hrw⟩,fun acc hacc=>?_⟩
  refine dcomp_enum (xs:=ns.map V.int) (fun i kvs H'=>Stay H H'∧Rts ns qs i kvs H') ⟨(Stay.refl H).acc hacc,⟨rfl,⟨rfl,fun j y z=>by simp at z⟩⟩⟩ (fun i zs H' _ _ z=>SqT.of (z.1 _ _ hrw)) ?_ ?_
  ·rintro i x kvs H1 H2 hx hy ⟨s1,rt⟩ s2
   obtain ⟨n,hn,rfl⟩:∃ n:Int,ns[i]?=some n∧x=V.int n:=by
    rw [List.getElem?_map] at hx
    cases e:ns[i]? with
    | none=>rw [e] at hx; cases hx
    | some n=>rw [e] at hx; exact ⟨n,rfl,by simpa using hx.symm⟩
   have hi:i < ns.length:=(List.getElem?_eq_some_iff.mp hn).1
   have egd:ns.getD i 0=n:=by simp [List.getD,hn]
   have s12:=s1.trans s2
   refine ⟨_,rfl,_,_,rfl,rfl,_,rfl,?_⟩
   by_cases h0:0 < n
   ·rw [decide_eq_true h0]
    obtain ⟨aq,eq1,hq1⟩:=hf.at (g:=i) (by omega)
    have bn:=hbn n (List.mem_of_getElem? hn)
    have x0:=hpos i (by rw [egd]; exact h0)
    have bx:Rb 300 (qs.getD i 0):=by
     have:qs.getD i 0 ∈ qs:=by simp [List.getD,List.getElem?_eq_getElem (show i < qs.length by omega)]
     exact hbq _ this
    refine iteT ⟨_,rfl,_,rfl,_,rfl,_,rfl,q,_,_,_,rfl,rfl,SqT.of (s12 _ _ hq),eq1,n,aq,_,rfl,s12 _ _ hq1,bx,x0,bn.1,bn.2,fun t H3 s3 ht=>?_⟩
    have hy3:=s3 _ _ (s2 _ _ hy)
    have ki:(V.int (i:Int))=kV (keyN i):=rfl
    have rt3:=(rt.stay s2).stay s3
    have tm3:Tm H3 (upd H3 acc (.dK (putK kvs (keyN i) (.ref t)))):=fun a xs ha=>by rw [jb5 (ne_of ha hy3 (by intro z; cases z))]; exact ha
    refine ⟨kvs,keyN i,hy3,ki,?_,CnD.of ja1 ⟨(s12.trans s3).acc hacc,(rt3.put (by rw [egd]; exact h0) ?_).tm tm3⟩⟩
    ·have:=rt.len; have:=posL_len ns i; rw [sz]; omega
    ·unfold rateQ; rw [egd]; exact ht
   ·rw [decide_eq_false h0]
    refine iteF (CnD.of (s2 _ _ hy) ⟨s12,(rt.skip (by rw [egd]; exact h0)).stay s2⟩)
  ·rintro kvs H1 hy ⟨s1,rt⟩
   rw [List.length_map] at rt
   have hkl:=rt.len
   have hpl:=posL_len ns ns.length
   refine ⟨_,rfl,_,.inr (.inr ⟨kvs,hy,rfl⟩),?_⟩
   cases hem:kvs.isEmpty with
   | true =>
    have hnil:kvs=[]:=List.isEmpty_iff.mp hem
    subst hnil
    have hp0:posL ns ns.length=[]:=List.length_eq_zero_iff.mp hkl.symm
    refine iteT ⟨by show 0 ≤ sizeLine; decide,fun t ht=>k t _ (s1.new ht) ?_⟩
    rw [best_none hnn hp0]; exact ja1
   | false =>
   have hnil:kvs ≠ []:=fun z=>by rw [z] at hem; cases hem
   refine iteF ?_
   refine ⟨_,rfl,.inr (.inr (.inl ⟨rfl,.inl ⟨_,hy⟩⟩)),acc,kvs,rfl,rfl,hy,fun v hv=>?_⟩
   have s2:=(Stay.refl H1).new (o:=viewOf v acc) hv
   refine ⟨v,acc,kvs,rfl,ja1,.inl (s2 _ _ hy),fun l hl=>?_⟩
   have s3:=s2.new (o:=.lst (kvs.map (·.2))) hl
   have rt3:=rt.stay s3
   refine ⟨l,_,_,rfl,ja1,rt3.fr,?_,?_,fun a m ha hm hmax=>?_⟩
   ·intro z
    have:=congrArg List.length z
    rw [List.length_map,← hkl] at this
    exact hnil (List.length_eq_zero_iff.mp this)
   ·intro z hz
    obtain ⟨j,hj,rfl⟩:=List.mem_map.mp hz
    obtain ⟨jl,jp⟩:=posL_lt hj
    unfold rateQ
    have bq:Rb 300 (qs.getD j 0):=by
     have:qs.getD j 0 ∈ qs:=by simp [List.getD,List.getElem?_eq_getElem (show j < qs.length by omega)]
     exact hbq _ this
    have bn:Bd 300 (ns.getD j 0):=by
     have:ns.getD j 0 ∈ ns:=by simp [List.getD,List.getElem?_eq_getElem jl]
     have:=hbn _ this
     exact Bd.mono (j:=7) (by unfold Bd; omega) (by decide)
    exact (rb_rate bn bq (hpos j jp)).mono (by decide)
   generalize upd (upd H1 v (viewOf v acc)) l (.lst (kvs.map (·.2)))=H3 at s3 rt3 ha ⊢
   have hy3:=s3 _ _ hy
   refine ⟨_,rfl,acc,kvs,rfl,hy3,fun o acc2 hacc2=>?_⟩
   have hHacc:H acc=none:=hacc
   have hne:acc2 ≠ acc:=fun z=>by rw [z,ja1] at hacc2; cases hacc2
   have h3n:H3 acc2=none:=by rw [jb5 hne] at hacc2; exact hacc2
   have s13:=s1.trans s3
   have tm4:Tm H3 (upd H3 acc (.frz o (.dK kvs))):=fun a xs ha=>by rw [jb5 (ne_of ha hy3 (by intro z; cases z))]; exact ha
   have s4:Stay H (upd H3 acc (.frz o (.dK kvs))):=s13.acc hacc
   have rt4:=rt3.tm tm4
   have ha4:=tm4 _ _ ha
   have hfz:(upd H3 acc (.frz o (.dK kvs))) acc=some (.frz o (.dK kvs)):=ja1
   generalize upd H3 acc (.frz o (.dK kvs))=H4 at s4 rt4 ha4 hfz hacc2 ⊢
   refine comp_dict (kvs:=kvs) (fun i zs H'=>Stay H4 H'∧zs=natsV (((posL ns ns.length).take i).filter fun j=>decide (rateQ ns qs j=m))) ⟨(Stay.refl H4).acc hacc2,rfl⟩ (fun i zs H' _ _ z=>z.1 _ _ hfz) ?_ ?_
   ·rintro i kk vv zs H5 hkv hz ⟨s5,rfl⟩
    obtain ⟨j,aj,hj,rfl,rfl,haj,hval⟩:=rt4.at hkv
    have hjm:=List.mem_of_getElem? hj
    refine ⟨_,rfl,_,rfl,acc,_,rfl,.inl ⟨kvs,keyN j,.inr ⟨o,s5 _ _ hfz⟩,rfl,hval.symm⟩,_,rfl,?_⟩
    refine ⟨qD (rateQ ns qs j),qD m,qO_dt (s5 _ _ haj),qO_dt (s5 _ _ ha4),Nat.le_trans (Nat.min_le_left _ _) (Nat.le_trans (dep_q _) (by decide)),_,rfl,?_⟩
    rw [eqv_qq]
    have hil:i < (posL ns ns.length).length:=(List.getElem?_eq_some_iff.mp hj).1
    cases hd:decide (rateQ ns qs j=m) with
    | true =>
     refine iteT ⟨_,rfl,_,hz,?_,Cn.of ja1 ⟨s5.acc hacc2,?_⟩⟩
     ·unfold natsV
      have:=List.length_filter_le (fun j=>decide (rateQ ns qs j=m)) ((posL ns ns.length).take i)
      have h3:((posL ns ns.length).take i).length ≤ i:=List.length_take_le _ _
      rw [List.length_map,sz]; omega
     ·rw [jb2 hj,List.filter_append]
      have e1:[j].filter (fun j=>decide (rateQ ns qs j=m))=[j]:=by simp only [List.filter,hd]
      rw [e1]; unfold natsV; rw [List.map_append]; rfl
    | false =>
     refine iteF (Cn.of hz ⟨s5,?_⟩)
     rw [jb2 hj,List.filter_append]
     have e1:[j].filter (fun j=>decide (rateQ ns qs j=m))=[]:=by simp only [List.filter,hd]
     rw [e1,List.append_nil]
   ·rintro zs H5 hz ⟨s5,rfl⟩
    rw [hkl,List.take_length] at hz
    refine ⟨acc2,_,rfl,.inl ⟨SqL.of hz,fun t ht=>?_⟩⟩
    refine k t _ ((s4.trans s5).new ht) ?_
    rw [best_max hpos hnn hm hmax]; exact ja1
end
end K9
namespace K9
open PySem L2 KG EX KM
section
variable {P:Program} {w:World} {K:PySem.W.Frag} {mg:Str→Option Value} {base:Heap}
theorem scMBG:FnScope ["market","prices"] ["market","prices"] (ja5 (top 19)):=⟨rfl,rfl,rfl,by decide +kernel,rfl,by decide +kernel,by decide +kernel⟩
theorem ok_mbg {f fT:Addr} {fd dT:FuncData} (F:Fun K "money_by_good" "money_by_good" (top 19) f fd) (mz:mg "zip"=none) (T:CalX K mg P w base "times" 3 ["one","other"] (sp2 qTi) fT dT):FnOk P w K mg base CX0 4 f fd ["market","prices"] spMBG:=by
 refine F.ok scMBG (fun vs H Q E h=>?_) (fun cdv A' outer s H vs Q E hr h=>?_)
 ·obtain ⟨b,p,pa,pp,pw,q,xa,xp,xw,ys,am,pu,wi,qs,rfl,_⟩:=h; rfl
 ·obtain ⟨b,p,pa,pp,pw,q,xa,xp,xw,ys,am,pu,wi,qs,rfl,m,hq,hf,hlen,hb,k⟩:=h
  obtain ⟨_,_,_,_,a1,a6,_⟩:=m.lw
  obtain ⟨exa,amb⟩:=m.am
  refine ⟨_,ja7 (jb4 (jc3 (own:=["amount","price"]) (cap:=[]) (ix:=[]) (BlkOk.of (ja5 (top 19)).names ["market","prices"]) rfl (pi_zip0 rfl mz boot_zip (ja0 (ja9 ixT0 (pv 0) ja3 (fun _ _=>rfl)) (ja0 (pv 1) ja2)))
    (fun C fp s H=>⟨pgTup0 (n:=2) rfl (jc9 (ja8 (i:=0) (show List.Nodup (["amount","price"]:List Str) by decide +kernel) rfl (Or.inl rfl)) (jc9 (ja8 (i:=1) (show List.Nodup (["amount","price"]:List Str) by decide +kernel) rfl (Or.inl rfl)) pgs_nil)),
     jb9,ja6 T.ok hr rfl T.mg T.kp T.bd .nil passE0 (ja0 (jd6 (ja0 (pv 0) (ja0 ja3 ja2))) (ja0 (pv 1) ja2))⟩))),?_⟩
  refine ⟨_,rfl,p,_,_,_,rfl,rfl,SqT.of m.hp,rfl,_,rfl,pa,q,rfl,⟨_,SqT.of m.ha⟩,⟨_,SqT.of hq⟩,fun acc hacc=>?_⟩
  have hyl:xa.length=ys.length:=by rw [hf.1,hlen]
  refine comp_zip (xs:=xa) (ys:=ys) (fun i zs H'=>Stay H H'∧Frs H' zs (monQ (am.map intOf) qs i)) hyl ⟨(Stay.refl H).acc hacc,⟨rfl,fun j y z=>by simp at z⟩⟩ (fun i zs H' _ _ z=>⟨SqT.of (z.1 _ _ m.ha),SqT.of (z.1 _ _ hq)⟩) ?_ ?_
  ·rintro i x y zs H1 H2 hx hy hz ⟨s1,fr⟩ s2
   have s12:=s1.trans s2
   obtain ⟨c,z,rfl,hc,hqi⟩:=frs_get hf hy
   have hi:i < xa.length:=(List.getElem?_eq_some_iff.mp hx).1
   obtain ⟨n,hn,rfl⟩:∃ n:Int,(am.map intOf)[i]?=some n∧x=V.int n:=by
    rw [exa,List.getElem?_map] at hx
    cases e:(am.map intOf)[i]? with
    | none=>rw [e] at hx; cases hx
    | some n=>rw [e] at hx; exact ⟨n,rfl,by simpa using hx.symm⟩
   have bn:=amb n (List.mem_of_getElem? hn)
   refine je9 ⟨_,rfl,by show 2 ≤ sizeLine; decide,fun p0 hp0=>?_⟩
   have s3:=(Stay.refl H2).new (o:=.tup [.int n,.int 1]) hp0
   have b1:Rb 3000 (n:Rat):=rb_int (Bd.mono (j:=7) (by unfold Bd; omega) (by decide)) (by decide)
   have b2:Rb 3000 z:=(hb z (List.mem_of_getElem? hqi)).mono (by decide)
   refine ⟨_,rfl,p0,c,(n:Rat),z,rfl,ja1,s3 _ _ (s12 _ _ hc),b1,b2,fun r hr'=>?_⟩
   have s4:=s3.new (o:=qO (qTi (n:Rat) z)) hr'
   have hz4:=s4 _ _ (s2 _ _ hz)
   have e1:monQ (am.map intOf) qs (i + 1)=monQ (am.map intOf) qs i ++ [qTi (n:Rat) z]:=by
    unfold monQ
    rw [List.range_succ,List.map_append]
    have e2:(am.map intOf).getD i 0=n:=by simp only [List.getD,hn,Option.getD_some]
    have e3:qs.getD i 0=z:=by simp [List.getD,hqi]
    simp only [List.map_cons,List.map_nil]
    rw [e2,e3]; rfl
   have fr4:=(fr.stay s2).stay s4
   have er:(upd (upd H2 p0 (.tup [.int n,.int 1])) r (qO (qTi (n:Rat) z))) r=some (qO (qTi (n:Rat) z)):=ja1
   generalize upd (upd H2 p0 (.tup [.int n,.int 1])) r (qO (qTi (n:Rat) z))=H4 at s4 hz4 fr4 er ⊢
   have tl:Tm H4 (upd H4 acc (.lst (zs ++ [.ref r]))):=Tm.lst hz4
   refine ⟨zs,hz4,?_,Cn2.of ja1 ⟨(s12.trans s4).acc hacc,?_⟩⟩
   ·rw [fr.1]; unfold monQ; rw [List.length_map,List.length_range,sz]; omega
   ·rw [e1]; exact (fr4.app er).tm tl
  ·rintro zs H1 hz ⟨s1,fr⟩
   exact k acc zs H1 s1 hacc hz fr
abbrev NAr:List Str:=["market","thing","goods"]
theorem scAre:FnScope NAr ["market","thing"] (ja5 (top 17)):=⟨rfl,rfl,rfl,by decide +kernel,rfl,by decide +kernel,by decide +kernel⟩
theorem ok_are {f fI fW:Addr} {fd dI dW:FuncData} (F:Fun K "are_prices" "are_prices" (top 17) f fd) (N:Nm mg) (Z:IsK K) (I:Cal K mg P w base "is_fraction" 2 ["thing"] (spT isFrac) fI dI) (W:Cal K mg P w base "wished" 1 ["market"] spWis fW dW):FnOk P w K mg base CX0 3 f fd ["market","thing"] spAre:=by
 refine F.ok scAre (fun vs H Q E h=>?_) (fun cdv A' outer s H vs Q E hr h=>?_)
 ·obtain ⟨b,p,pa,pp,pw,xa,xp,xw,am,pu,wi,v,d,rfl,_⟩:=h; rfl
 ·obtain ⟨b,p,pa,pp,pw,xa,xp,xw,am,pu,wi,v,d,rfl,m,hT,k⟩:=h
  have hr1:Room 1 _:=hr.mono (by decide)
  have hu:=hr.units
  obtain ⟨rw0,rne,rlen,rbd,a1,a6,w1,w6,_⟩:=m.lw
  refine ⟨_,ja4 (jf1 (PW.pt (pw_or (pt_not (pt_val (pIsi K (pv 1) rfl N.isinstance rfl N.tuple jc5 jd7))) (pw_or1 (jc0 op_ne (jb0 cLen0 (by rfl) N.len PySem.boot_len (ja0 (pv 1) ja2)) (jb0 cLen0 (by rfl) N.len PySem.boot_len (ja0 (ja9 ixT0 (pv 0) ja3 (fun _ _=>rfl)) ja2)) (nomark _))))) (ja7 (jb4 pe_bl)) jc6)
   (ja4 (jf1 (pt_not (pt_val (jb0 (cAll0 rfl) (by rfl) N.all boot_all (ja0 (jc3 (own:=["part"]) (cap:=[]) (ix:=[]) (BlkOk.of (ja5 (top 17)).names NAr) rfl (piT0 (pv 1))
     (fun C fp s H=>⟨ja8 (i:=0) (show List.Nodup (["part"]:List Str) by decide +kernel) rfl (Or.inl rfl),jb9,ja6 I.ok hr rfl I.mg I.kp I.bd .nil pass0 (ja0 (pv 0) ja2)⟩)) ja2)))) (ja7 (jb4 pe_bl)) jc6)
   (ja4 (jb1 (i:=2) scAre.nd rfl (Or.inr rfl) (ja6 W.ok hr1 rfl W.mg W.kp W.bd .nil pass0 (ja0 (pv 0) ja2)))
   (ja7 (jb4 (jb0 (cAll0 rfl) (by rfl) N.all boot_all (ja0 (jc3 (own:=["good","price"]) (cap:=["goods"]) (ix:=[2]) (BlkOk.of (ja5 (top 17)).names NAr) rfl (piEnum0 rfl N.enumerate boot_enumerate (ja0 (pv 1) ja2))
     (fun C fp s H=>⟨pgTup0 (n:=2) rfl (jc9 (ja8 (i:=0) (show List.Nodup (["good","price","goods"]:List Str) by decide +kernel) rfl (Or.inl rfl)) (jc9 (ja8 (i:=1) (show List.Nodup (["good","price","goods"]:List Str) by decide +kernel) rfl (Or.inl rfl)) pgs_nil)),
      jb9,pe_ifExp (jc0 opIn0 (pv 0) (pv 2) (by with_unfolding_all rfl)) (pe_cmpR op_gt (ja9 ixT0 (pv 1) ja3 (fun _ _=>rfl)) ja3 (nomark _)) (pe_cmpR op_eq (ja9 ixT0 (pv 1) ja3 (fun _ _=>rfl)) ja3 (nomark _))⟩)) ja2)))))),?_⟩
  obtain ⟨t1,ty1,e1⟩:=ist Z hT
  refine ⟨_,rfl,t1,_,ty1,e1,_,rfl,?_⟩
  have hk:=k H (Stay.refl H)
  rcases tupCase hT with hn | ⟨a,xs,ds,rfl,rfl,ha,hs⟩
  ·rw [hn]; rw [isPrs_no hn] at hk
   exact iteT (iteT hk)
  refine iteF ?_
  have hlen:=hs.len
  refine ⟨_,rfl,a,xs,rfl,.inr (SqT.of ha),_,rfl,p,_,_,_,rfl,rfl,SqT.of m.hp,rfl,pa,xa,rfl,.inr (SqT.of m.ha),rfl,_,rfl,?_⟩
  by_cases hl:xs.length=xa.length
  case neg =>
   rw [vint_ne hl]
   have e3:isPrs xa.length (rowsOf wi) (.tuple ds)=false:=by
    cases e:isPrs xa.length (rowsOf wi) (.tuple ds) with
    | false=>rfl
    | true=>exact absurd (hlen.trans (prs_iff.mp e).1) hl
   rw [e3] at hk
   exact iteT hk
  rw [hl,vint_eq]
  refine iteF ?_
  refine ⟨_,rfl,a,rfl,⟨_,SqT.of ha⟩,fun acc hacc=>?_⟩
  refine comp_tup (xs:=xs) (fun j zs H2=>Stay H H2∧zs=(ds.take j).map fun d=>V.bl (isFrac d)) ⟨(Stay.refl H).acc hacc,rfl⟩ (fun j zs H2 _ _ z=>SqT.of (z.1 _ _ ha)) ?_ ?_
  ·rintro j x zs H2 hx hz ⟨s2,rfl⟩
   obtain ⟨dx,hdx,tx⟩:=hs.at hx
   refine je9 ⟨_,rfl,b,x,dx,rfl,tx.stay s2,fun H3 s3=>?_⟩
   have hj:j < ds.length:=(List.getElem?_eq_some_iff.mp hdx).1
   refine ⟨_,s3 _ _ hz,?_,Cn.of ja1 ⟨(s2.trans s3).acc hacc,?_⟩⟩
   ·rw [List.length_map,List.length_take,sz]; omega
   ·rw [jb2 hdx,List.map_append]; rfl
  rintro zs H2 hz ⟨s2,rfl⟩
  rw [hlen,List.take_length] at hz
  refine ⟨acc,_,rfl,.inl (SqL.of hz),?_,_,rfl,?_⟩
  ·rw [List.all_map]; simp [Function.comp_def,plainB]
  have e:(ds.map fun d=>V.bl (isFrac d)).all tv=ds.all isFrac:=by rw [List.all_map]; rfl
  rw [e]
  have hk2:=k H2 s2
  cases hfr:ds.all isFrac with
  | false =>
   refine iteT ?_
   have e3:isPrs xa.length (rowsOf wi) (.tuple ds)=false:=by
    cases e:isPrs xa.length (rowsOf wi) (.tuple ds) with
    | false=>rfl
    | true =>
     obtain ⟨h1,h2⟩:=prs_iff.mp e
     have:ds.all isFrac=true:=List.all_eq_true.mpr fun d hd=>by
      obtain ⟨j,hj,ej⟩:=List.getElem_of_mem hd
      have h3:=h2 j (by omega)
      have e2:ds.getD j .none=d:=by simp [List.getD,List.getElem?_eq_getElem hj,ej]
      rw [e2] at h3
      cases hf:isFrac d with
      | true=>rfl
      | false=>rw [isPrice_no hf] at h3; cases h3
     rw [this] at hfr; cases hfr
   rw [e3] at hk2
   exact hk2
  | true =>
  refine iteF ?_
  have m2:=m.stay s2
  refine ⟨_,rfl,b,p,pa,pp,pw,xa,xp,xw,am,pu,wi,rfl,m2,fun qg H3 s3 hqg=>?_⟩
  have s23:=s2.trans s3
  refine ⟨_,rfl,a,rfl,⟨_,SqT.of (s23 _ _ ha)⟩,fun acc3 hacc3=>?_⟩
  have price:∀ (i:Nat) (dx:PyData),ds[i]?=some dx→∃ t u:Int,dx=.tuple [.int t,.int u]∧∀ wd,je0 wd dx=(if wd=true then decide (0 < t) else decide (t=0)):=fun i dx hdx=>by
   have hf:isFrac dx=true:=List.all_eq_true.mp hfr dx (List.mem_of_getElem? hdx)
   obtain ⟨t,u,rfl,hu1,hg1⟩:=fracShape hf
   refine ⟨t,u,rfl,fun wd=>?_⟩
   show (isFrac (.tuple [.int t,.int u]) && (if wd then decide (0 < t) else decide (t=0) && decide (u=1)))=_
   rw [hf,Bool.true_and]
   cases wd with
   | true=>rfl
   | false =>
    show (decide (t=0) && decide (u=1))=decide (t=0)
    by_cases h0:t=0
    ·have:u=1:=by
      subst h0
      simp at hg1
      omega
     rw [decide_eq_true h0,decide_eq_true this]; rfl
    ·rw [decide_eq_false h0]; rfl
  refine comp_enum (xs:=xs) (fun i ys H'=>Stay H3 H'∧ys=(List.range i).map fun j=>V.bl (je0 (has (rowsOf wi) j) (ds.getD j .none))) ⟨(Stay.refl H3).acc hacc3,rfl⟩ (fun i ys H' _ _ z=>SqT.of (z.1 _ _ (s23 _ _ ha))) ?_ ?_
  ·rintro i x ys H4 H5 hx hy ⟨s4,rfl⟩ s5
   obtain ⟨dx,hdx,tx⟩:=hs.at hx
   obtain ⟨t,u,rfl,hpr⟩:=price i dx hdx
   have hi:i < xa.length:=by have:=(List.getElem?_eq_some_iff.mp hx).1; omega
   have s45:=s4.trans s5
   have egd:ds.getD i .none=.tuple [.int t,.int u]:=by simp [List.getD,hdx]
   have tx5:=(tx.stay s23).stay s45
   cases tx5 with
   | @tup ax xs2 _ hax hsx2 =>
   match xs2,hsx2 with
   | _,.cons (.int _) (.cons (.int _) .nil) =>
   refine je9 ⟨_,rfl,_,rfl,qg,_,rfl,.inr (SqT.of (s45 _ _ hqg)),rfl,flat_wished _ _,_,rfl,?_⟩
   have ein:(if false=true then !inV (V.int (i:Int)) (jd5 xa.length (rowsOf wi)) else inV (V.int (i:Int)) (jd5 xa.length (rowsOf wi)))=has (rowsOf wi) i:=by
    rw [if_neg (by decide)]
    have:=in_wished (M:=rowsOf wi) hi
    rw [show (0 + (i:Int))=(i:Int) by omega] at this
    exact this
   rw [ein]
   have hy5:=s5 _ _ hy
   have fin:∀ c:Bool,c=je0 (has (rowsOf wi) i) (.tuple [.int t,.int u])→∃ zs,H5 acc3=some (.lst zs)∧zs.length < sizeLine∧Cn2 (blkσ 2 [2] [some (.ref p),some (.ref a),some (.ref qg)]) acc3 (fun ys H'=>Stay H3 H'∧ys=(List.range (i + 1)).map fun j=>V.bl (je0 (has (rowsOf wi) j) (ds.getD j .none)))
     (((blkσ 2 [2] [some (.ref p),some (.ref a),some (.ref qg)]).set 0 (some (.int i))).set 1 (some (.ref ax))) (upd H5 acc3 (.lst (zs ++ [.bl c]))):=fun c hc=>by
    refine ⟨_,hy5,?_,Cn2.of ja1 ⟨s45.acc hacc3,?_⟩⟩
    ·rw [List.length_map,List.length_range,sz]; omega
    ·rw [List.range_succ,List.map_append,hc]
     simp only [List.map_cons,List.map_nil]
     rw [egd]
   cases hh:has (rowsOf wi) i with
   | true =>
    refine iteT ⟨_,rfl,ax,_,_,_,rfl,rfl,SqT.of hax,rfl,_,_,rfl,rfl,?_⟩
    exact fin _ (by rw [hpr,hh]; rfl)
   | false =>
    refine iteF ⟨_,rfl,ax,_,_,_,rfl,rfl,SqT.of hax,rfl,rfl,?_⟩
    refine fin _ ?_
    rw [hpr,hh]
    by_cases h0:t=0
    ·subst h0; rfl
    ·rw [if_neg (by decide),decide_eq_false h0]; simp [h0]
  ·rintro ys H4 hy ⟨s4,rfl⟩
   refine ⟨acc3,_,rfl,.inl (SqL.of hy),?_,?_⟩
   ·rw [List.all_map]; simp [Function.comp_def,plainB]
   have e4:((List.range xs.length).map fun j=>V.bl (je0 (has (rowsOf wi) j) (ds.getD j .none))).all tv=isPrs xa.length (rowsOf wi) (.tuple ds):=by
    rw [List.all_map]
    show _=(decide (ds.length=xa.length) && (List.range xa.length).all fun j=>je0 (has (rowsOf wi) j) (ds.getD j .none))
    rw [decide_eq_true (by omega),Bool.true_and,hl]; rfl
   rw [e4]
   exact k H4 (s23.trans s4)
end
end K9
namespace K9
open PySem L2 KG EX KM
section
variable {P:Program} {w:World} {K:PySem.W.Frag} {mg:Str→Option Value} {base:Heap}
theorem scNeed:FnScope ["market","thing"] ["market","thing"] (ja5 (top 18)):=⟨rfl,rfl,rfl,by decide +kernel,rfl,by decide +kernel,by decide +kernel⟩
theorem ok_need {f fA Pr:Addr} {fd dA:FuncData} (F:Fun K "need_prices" "need_prices" (top 18) f fd) (mgP:mg "NoPrices"=some (.ref Pr)) (exP:PySem.W.excIn K Pr [.type "ValueError",.type "Exception",.type "BaseException",.type "object"] "ValueError.__new__"=true)
  (A:Cal K mg P w base "are_prices" 3 ["market","thing"] spAre fA dA):FnOk P w K mg base (CXF P w) 4 f fd ["market","thing"] (spNeed Pr):=by
 refine F.okX scNeed (fun vs H Q E h=>?_) (fun cdv A' outer s H vs Q E hr h=>?_)
 ·obtain ⟨b,p,pa,pp,pw,xa,xp,xw,am,pu,wi,v,d,rfl,_⟩:=h; rfl
 ·obtain ⟨b,p,pa,pp,pw,xa,xp,xw,am,pu,wi,v,d,rfl,m,hT,k0,k1⟩:=h
  refine ⟨_,ja7 (jf1 (pt_not (pt_val (ja6 A.ok hr rfl A.mg A.kp A.bd .nil pass0 (ja0 (pv 0) (ja0 (pv 1) ja2))))) (ja7 (ps_raise PySem.F.excBase_ValueError rfl mgP exP (ja0 pe_str ja2))) jc6),?_⟩
  refine ⟨_,rfl,_,rfl,b,p,pa,pp,pw,xa,xp,xw,am,pu,wi,v,d,rfl,m,hT,fun H1 s1=>⟨_,rfl,?_⟩⟩
  cases hp:isPrs xa.length (rowsOf wi) d with
  | false=>exact iteT ⟨by show 1 ≤ sizeLine; decide,k0 hp H1 s1⟩
  | true=>exact iteF (k1 hp H1 s1)
theorem scBG:FnScope ["market","prices"] ["market","prices"] (ja5 (top 20)):=⟨rfl,rfl,rfl,by decide +kernel,rfl,by decide +kernel,by decide +kernel⟩
theorem ok_bg {f fN fB Pr:Addr} {fd dN dB:FuncData} (F:Fun K "best_goods" "best_goods" (top 20) f fd) (N:Nm mg) (Ne:CalX K mg P w base "need_prices" 4 ["market","thing"] (spNeed Pr) fN dN) (B:Cal K mg P w base "best_by_wishes" 5 ["row","prices"] spBB fB dB) :
  FnOk P w K mg base (CXF P w) 6 f fd ["market","prices"] (spBest Pr):=by
 refine F.okX scBG (fun vs H Q E h=>?_) (fun cdv A' outer s H vs Q E hr h=>?_)
 ·obtain ⟨b,p,pa,pp,pw,xa,xp,xw,am,pu,wi,v,d,rfl,_⟩:=h; rfl
 ·obtain ⟨b,p,pa,pp,pw,xa,xp,xw,am,pu,wi,v,d,rfl,ag,k0,k1⟩:=h
  have hr4:Room 4 _:=hr.mono (by decide)
  refine ⟨_,ja4 (ps_expr (ja6 Ne.ok hr4 rfl Ne.mg Ne.kp Ne.bd .nil passF (ja0 (pv 0) (ja0 (pv 1) ja2))))
   (ja7 (jb4 (jb6 cTup0 (by rfl) N.tuple jc5 (ja0 (jc3 (own:=["row"]) (cap:=["prices"]) (ix:=[1]) (BlkOk.of (ja5 (top 20)).names ["market","prices"]) rfl (piT0 (ja9 ixT0 (pv 0) ja3 (fun _ _=>rfl)))
    (fun C fp s H=>⟨ja8 (i:=0) (show List.Nodup (["row","prices"]:List Str) by decide +kernel) rfl (Or.inl rfl),jb9,ja6 B.ok hr rfl B.mg B.kp B.bd .nil pass0 (ja0 (pv 0) (ja0 (pv 1) ja2))⟩)) ja2)))),?_⟩
  refine ⟨_,rfl,_,rfl,b,p,pa,pp,pw,xa,xp,xw,am,pu,wi,v,d,rfl,ag.m,ag.tr,k0,fun hp H1 s1=>?_⟩
  obtain ⟨qs,rfl,hql,hpq⟩:=prs_some hp
  have ag1:=ag.stay s1
  have hbq:=ag.wd qs rfl
  have htr:=ag1.tr
  obtain ⟨rw0,rne,rlen,rbd,a1,a6,w1,w6,_⟩:=ag1.m.lw
  cases htr with
  | @tup a ys _ ha hys =>
  have fr:=Frs.of hys
  refine ⟨_,rfl,p,_,_,_,rfl,rfl,SqT.of ag1.m.hp,rfl,pw,rfl,⟨_,SqT.of ag1.m.hw⟩,fun acc hacc=>?_⟩
  refine comp_tup (xs:=xw) (fun i ws H'=>Stay H1 H'∧Rws H' ws ((bestM (rowsOf wi) qs).take i)) ⟨(Stay.refl H1).acc hacc,.nil⟩ (fun i ws H' _ _ z=>SqT.of (z.1 _ _ ag1.m.hw)) ?_ ?_
  ·rintro i x ws H2 hx hz ⟨s2,rs⟩
   obtain ⟨ns,c,hMi,rfl,hc⟩:=rw0.at hx
   have hnm:=List.mem_of_getElem? hMi
   have hnl:=rlen ns hnm
   have hpos:∀ j,0 < ns.getD j 0→0 < qs.getD j 0:=fun j hj=>by
    have hjl:j < ns.length:=by
     rcases Nat.lt_or_ge j ns.length with z | z
     ·exact z
     ·simp [List.getD,List.getElem?_eq_none z] at hj
    refine hpq.pos j (by omega) ?_
    unfold has
    exact List.any_eq_true.mpr ⟨ns,hnm,by simpa using hj⟩
   refine je9 ⟨_,rfl,_,rfl,c,a,ns,ys,qs,rfl,s2 _ _ hc,s2 _ _ ha,fr.stay s2,by omega,by omega,rbd ns hnm,hbq,hpos,fun t H3 s3 ht=>?_⟩
   have hz3:=s3 _ _ hz
   have hi:i < (rowsOf wi).length:=(List.getElem?_eq_some_iff.mp hMi).1
   have eB:(bestM (rowsOf wi) qs)[i]?=some ((bestR ns qs).map fun g:Nat=>(g:Int)):=by
    unfold bestM; rw [List.getElem?_map,hMi]; rfl
   have tl:Tm H3 (upd H3 acc (.lst (ws ++ [.ref t]))):=Tm.lst hz3
   refine ⟨ws,hz3,?_,Cn.of ja1 ⟨(s2.trans s3).acc hacc,?_⟩⟩
   ·rw [rs.len,List.length_take,sz]
    have:(rowsOf wi).length=xw.length:=rw0.len.symm
    omega
   ·rw [jb2 eB]
    exact rws_app ((rs.keep s3.tm).keep tl) (tl _ _ (by rw [ht,natsV_ints]))
  ·rintro ws H2 hz ⟨s2,rs⟩
   have e:xw.length=(bestM (rowsOf wi) qs).length:=by unfold bestM; rw [List.length_map,rw0.len]
   rw [e,List.take_length] at rs
   refine ⟨acc,ws,rfl,.inl ⟨SqL.of hz,fun l hl=>?_⟩⟩
   have s3:=(Stay.refl H2).new (o:=.tup ws) hl
   exact k1 qs rfl hql hpq l ws _ (s1.trans (s2.trans s3)) ja1 (rs.keep s3.tm)
end
end K9
namespace K9
open PySem L2 KG EX KM
section
variable {P:Program} {w:World} {K:PySem.W.Frag} {mg:Str→Option Value} {base:Heap}
theorem scLWished:FnScope ["market"] ["market"] (ja5 (top 44)):=⟨rfl,rfl,rfl,by decide +kernel,rfl,by decide +kernel,by decide +kernel⟩
theorem ok_lwished {f:Addr} {fd:FuncData} (F:Fun K "_law_wished" "_law_wished" (top 44) f fd) (B:Nm mg):FnOk P w K mg base CX0 1 f fd ["market"] spLWished:=by
 refine F.ok scLWished (fun vs H Q E h=>?_) (fun cdv A outer s H vs Q E hr h=>?_)
 ·obtain ⟨p,pa,pw,z,am,ws,M,rfl,_⟩:=h; rfl
 ·obtain ⟨p,pa,pw,z,am,ws,M,rfl,hp,ha,hw,hR,hne,hlen,l1,l2,k⟩:=h
  refine ⟨_,ja7 (jb4 (jc3 (own:=["good"]) (cap:=["market"]) (ix:=[0]) (BlkOk.of (ja5 (top 44)).names ["market"]) rfl
    (jd2 rfl B.range (ja0 (jb0 cLen0 (by rfl) B.len PySem.boot_len (ja0 (ja9 ixT0 (pv 0) ja3 (fun _ _=>rfl)) ja2)) ja2))
    (fun C fp s H=>⟨ja8 (i:=0) (show List.Nodup (["good","market"]:List Str) by decide +kernel) rfl (Or.inr rfl),
     je6 (jc0 op_gt (jb0 (cMax0 rfl) (by rfl) B.max boot_max (ja0 (jc3 (own:=["row"]) (cap:=["good"]) (ix:=[0]) (BlkOk.of [(".0",.local),("good",.cell),("max",.globalImplicit),("market",.cell)] ["good","market"]) rfl (piT0 (ja9 ixT0 (pv 1) ja3 (fun _ _=>rfl)))
      (fun C fp s H=>⟨ja8 (i:=0) (show List.Nodup (["row","good"]:List Str) by decide +kernel) rfl (Or.inl rfl),jb9,ja9 ixT0 (pv 0) (pv 1) (fun _ _=>rfl)⟩)) ja2)) ja3 (nomark _)),
     pv 0⟩))),?_⟩
  refine ⟨_,rfl,p,_,_,_,rfl,rfl,SqT.of hp,rfl,pa,am,rfl,.inr (SqT.of ha),(am.length:Int),rfl,by omega,by omega,fun acc hacc=>?_⟩
  refine je8 (fun i ys H'=>Stay H H'∧ys=jd5 i M) ⟨(Stay.refl H).acc hacc,rfl⟩ ?_ ?_
  ·rintro i ys H' hi hy ⟨st,rfl⟩
   have hi':i < am.length:=by simpa using hi
   refine ⟨_,rfl,p,_,_,_,rfl,rfl,SqT.of (st _ _ hp),rfl,pw,rfl,⟨ws,SqT.of (st _ _ hw)⟩,fun acc2 hacc2=>?_⟩
   refine comp_tup (xs:=ws) (fun j zs H2=>Stay H' H2∧zs=(M.take j).map fun r=>V.int (r.getD i 0)) ⟨(Stay.refl H').acc hacc2,rfl⟩ (fun j ys H2 _ _ q=>SqT.of (q.1 _ _ (st _ _ hw))) ?_ ?_
   ·rintro j x zs H2 hx hz ⟨st2,rfl⟩
    refine je9 ?_
    obtain ⟨ns,a,hM,rfl,hA⟩:=hR.at hx
    have hA2:=st2 _ _ (st _ _ hA)
    have hnl:=hlen ns (List.mem_of_getElem? hM)
    obtain ⟨ea,_,_⟩:=jd8 (ns:=ns) (r:=0 + (i:Int)) (by omega) (by omega)
    have et:(0 + (i:Int)).toNat=i:=by omega
    rw [et] at ea
    refine ⟨_,rfl,_,rfl,a,_,_,_,rfl,rfl,SqT.of hA2,ea,_,hz,?_,Cn.of ja1 ⟨st2.acc hacc2,?_⟩⟩
    ·rw [List.length_map,List.length_take,sz]; have:=hR.len; omega
    ·rw [List.take_add_one,hM,List.map_append]
     rfl
   ·rintro zs H2 hz ⟨st2,rfl⟩
    have hl:=hR.len
    rw [hl,List.take_length] at hz
    have e2:(M.map fun r=>V.int (r.getD i 0))=(M.map fun r=>r.getD i 0).map V.int:=by rw [List.map_map]; rfl
    rw [e2] at hz
    refine ⟨acc2,M.map fun r=>r.getD i 0,rfl,.inl (SqL.of hz),by simpa using hne,fun m hm hmax=>⟨_,_,rfl,rfl,_,rfl,?_⟩⟩
    have e:decide (0 < m)=has M i:=by
     rw [Bool.eq_iff_iff,decide_eq_true_eq]
     unfold has
     simp only [List.any_eq_true,decide_eq_true_eq]
     constructor
     ·intro h
      obtain ⟨r,hr,e⟩:=List.mem_map.mp hm
      exact ⟨r,hr,by rw [e]; exact h⟩
     ·rintro ⟨r,hr,h⟩
      have:=hmax _ (List.mem_map.mpr ⟨r,hr,rfl⟩)
      omega
    rw [e]
    have hy2:=st2 _ _ hy
    cases hh:has M i with
    | true =>
     refine iteT ⟨_,rfl,_,hy2,?_,Cn.of ja1 ⟨(st.trans st2).acc hacc,?_⟩⟩
     ·have:=wishedL_len i M; rw [sz]; omega
     ·rw [jf5,hh]; rfl
    | false =>
     refine iteF (Cn.of hy2 ⟨st.trans st2,?_⟩)
     rw [jf5,hh]; simp
  ·rintro ys H' hy ⟨st,rfl⟩
   have e:((am.length:Int)).toNat=am.length:=by simp
   rw [e] at hy
   exact k acc _ st hacc hy
theorem scMul:FnScope ["one","other"] ["one","other"] (ja5 (top 37)):=⟨rfl,rfl,rfl,by decide +kernel,rfl,by decide +kernel,by decide +kernel⟩
theorem ok_mul {f fF:Addr} {fd dF:FuncData} (F:Fun K "_law_mul" "_law_mul" (top 37) f fd) (G:Cal K mg P w base "_law_frac" 1 ["top","bottom"] spFrac fF dF):FnOk P w K mg base CX0 2 f fd ["one","other"] spMulS:=by
 refine F.ok scMul (fun vs H Q E h=>?_) (fun cdv A outer s H vs Q E hr h=>?_)
 ·obtain ⟨p,q,a,b,c,d,rfl,_⟩:=h; rfl
 ·obtain ⟨p,q,a,b,c,d,rfl,hp,hq,a0,a1,b0,b1,d0,bd,k⟩:=h
  refine ⟨_,ja7 (jb4 (ja6 G.ok hr rfl G.mg G.kp G.bd .nil pass0 (ja0 (jb3 op_mul (ja9 ixT0 (pv 0) ja3 (fun _ _=>rfl)) (ja9 ixT0 (pv 1) ja3 (fun _ _=>rfl))) (ja0 (jb3 op_mul (ja9 ixT0 (pv 0) ja3 (fun _ _=>rfl)) (ja9 ixT0 (pv 1) ja3 (fun _ _=>rfl))) ja2)))),?_⟩
  refine ⟨_,rfl,p,_,_,_,rfl,rfl,SqT.of hp,rfl,_,rfl,q,_,_,_,rfl,rfl,SqT.of hq,rfl,_,_,rfl,rfl,.inl ⟨by omega,by omega⟩,?_⟩
  refine ⟨_,rfl,p,_,_,_,rfl,rfl,SqT.of hp,rfl,_,rfl,q,_,_,_,rfl,rfl,SqT.of hq,rfl,_,_,rfl,rfl,.inl ⟨by omega,by omega⟩,?_⟩
  exact ⟨_,_,rfl,Int.mul_pos b0 d0,bd,k⟩
abbrev NP:List Str:=["bag","market","base","row","prices","good","price","other","wish","by"]
theorem scPrices:FnScope NP ["bag","market"] (ja5 (top 45)):=⟨rfl,rfl,rfl,by decide +kernel,rfl,by decide +kernel,by decide +kernel⟩
theorem ok_prices {f fT fF fM fW:Addr} {fd dT dF dM dW:FuncData} (F:Fun K "_law_prices" "_law_prices" (top 45) f fd) (N:Nm mg) (T:Cal K mg P w base "_law_take" 1 ["bag","many"] spTake fT dT) (R:Cal K mg P w base "_law_frac" 1 ["top","bottom"] spFrac fF dF)
  (Mu:Cal K mg P w base "_law_mul" 2 ["one","other"] spMulS fM dM) (W:Cal K mg P w base "_law_wished" 1 ["market"] spLWished fW dW):FnOk P w K mg base CX0 3 f fd ["bag","market"] spPrices:=by
 refine F.ok scPrices (fun vs H Q E h=>?_) (fun cdv A outer s H vs Q E hr h=>?_)
 ·obtain ⟨b,p,pa,pp,pw,xa,xp,xw,am,pu,wi,rfl,_⟩:=h; rfl
 ·obtain ⟨b,p,pa,pp,pw,xa,xp,xw,am,pu,wi,rfl,hb,m,k⟩:=h
  have hr1:Room 1 _:=hr.mono (by decide)
  obtain ⟨rw0,rne,rlen,rbd,a1,a6,w1,w6,_⟩:=m.lw
  refine ⟨_,ja4 (jb1 (i:=2) scPrices.nd rfl (Or.inl rfl) (ja6 R.ok hr1 rfl R.mg R.kp R.bd .nil pass0 (ja0 (jb3 jd9 ja3 (ja6 T.ok hr1 rfl T.mg T.kp T.bd .nil pass0 (ja0 (pv 0) (ja0 ja3 ja2)))) (ja0 (jb3 jd9 ja3 (ja6 T.ok hr1 rfl T.mg T.kp T.bd .nil pass0 (ja0 (pv 0) (ja0 ja3 ja2)))) ja2))))
   (ja4 (jb1 (i:=3) scPrices.nd rfl (Or.inl rfl) (ja9 ixT0 (ja9 ixT0 (pv 1) ja3 (fun _ _=>rfl)) (ja6 T.ok hr1 rfl T.mg T.kp T.bd .nil pass0 (ja0 (pv 0) (ja0 (jb0 cLen0 (by rfl) N.len PySem.boot_len (ja0 (ja9 ixT0 (pv 1) ja3 (fun _ _=>rfl)) ja2)) ja2))) (fun _ _=>rfl)))
   (ja4 (jb1 (i:=4) scPrices.nd rfl (Or.inl rfl) (je4 ja2))
   (ja4 (jf6 PassesOwn.never rfl (jd2 rfl N.range (ja0 (jb0 cLen0 (by rfl) N.len PySem.boot_len (ja0 (ja9 ixT0 (pv 1) ja3 (fun _ _=>rfl)) ja2)) ja2)) (ja8 (i:=5) scPrices.nd rfl (Or.inl rfl))
    (ja4 (jb1 (i:=6) scPrices.nd rfl (Or.inl rfl) (jd6 (ja0 ja3 (ja0 ja3 ja2))))
    (ja4 (jf1 (jc0 opIn0 (pv 5) (ja6 W.ok hr1 rfl W.mg W.kp W.bd .nil pass0 (ja0 (pv 1) ja2)) (by with_unfolding_all rfl))
     (ja4 (jb1 (i:=7) scPrices.nd rfl (Or.inl rfl) (ja9 ixT0 (ja9 ixT0 (pv 1) ja3 (fun _ _=>rfl)) (ja6 T.ok hr1 rfl T.mg T.kp T.bd .nil pass0 (ja0 (pv 0) (ja0 (jb0 cLen0 (by rfl) N.len PySem.boot_len (ja0 (ja9 ixT0 (pv 1) ja3 (fun _ _=>rfl)) ja2)) ja2))) (fun _ _=>rfl)))
     (ja4 (jb1 (i:=8) scPrices.nd rfl (Or.inl rfl) (jb0 (call_max2 rfl) (by rfl) N.max boot_max (ja0 ja3 (ja0 (ja9 ixT0 (ja9 ixL0 (je4 (ja0 (pv 3) (ja0 (pv 7) ja2))) (ja6 T.ok hr1 rfl T.mg T.kp T.bd .nil pass0 (ja0 (pv 0) (ja0 ja3 ja2))) (fun _ _=>rfl)) (pv 5) (fun _ _=>rfl)) ja2))))
     (ja4 (jb1 (i:=6) scPrices.nd rfl (Or.inl rfl) (ja6 Mu.ok hr rfl Mu.mg Mu.kp Mu.bd .nil pass0 (ja0 (pv 2) (ja0 (jd6 (ja0 (pv 8) (ja0 ja3 ja2))) ja2))))
     (ja7 (jf1 (jc0 op_eq (ja6 T.ok hr1 rfl T.mg T.kp T.bd .nil pass0 (ja0 (pv 0) (ja0 ja3 ja2))) ja3 (nomark _))
      (ja4 (jb1 (i:=9) scPrices.nd rfl (Or.inl rfl) (ja6 R.ok hr1 rfl R.mg R.kp R.bd .nil pass0 (ja0 (jb3 jd9 ja3 (ja6 T.ok hr1 rfl T.mg T.kp T.bd .nil pass0 (ja0 (pv 0) (ja0 ja3 ja2)))) (ja0 (jb3 jd9 ja3 (ja6 T.ok hr1 rfl T.mg T.kp T.bd .nil pass0 (ja0 (pv 0) (ja0 ja3 ja2)))) ja2))))
      (ja7 (jb1 (i:=6) scPrices.nd rfl (Or.inl rfl) (ja6 Mu.ok hr rfl Mu.mg Mu.kp Mu.bd .nil pass0 (ja0 (pv 6) (ja0 (pv 9) ja2)))))) jc6))))) jc6)
    (ja7 (ps_expr (peBm0 PySem.F.plainAttrs_list PySem.F.slot_list_append PySem.F.type_list_append jf3 (pv 4) (ja0 (pv 6) ja2)))))))
   (ja7 (jb4 (jb6 cTup0 (by rfl) N.tuple jc5 (ja0 (pv 4) ja2))))))),?_⟩
  refine ⟨_,rfl,b,_,rfl,hb,by decide,by decide,fun r1 H1 r1a r1b hb1 kp1=>⟨_,_,rfl,rfl,?_⟩⟩
  refine ⟨_,rfl,b,_,rfl,hb1,by decide,by decide,fun r2 H2 r2a r2b hb2 kp2=>⟨_,_,rfl,rfl,?_⟩⟩
  refine ⟨1 + r1,1 + r2,rfl,by omega,by omega,fun pb hpb=>?_⟩
  obtain ⟨l1,l2,l3,l4,l5⟩:=low_pos (t:=1 + r1) (u:=1 + r2) (by omega) (by omega)
  generalize (1 + r1) / (Int.gcd (1 + r1) (1 + r2):Int)=X at l1 l2 l5 ⊢
  generalize (1 + r2) / (Int.gcd (1 + r1) (1 + r2):Int)=Y at l3 l4 l5 ⊢
  have k2:Kp b H (upd H2 pb (.tup [.int X,.int Y])):=(kp1.trans kp2).new hpb
  have hb2':Bag (upd H2 pb (.tup [.int X,.int Y])) b:=hb2.new hpb
  have eb:(upd H2 pb (.tup [.int X,.int Y])) pb=some (.tup [.int X,.int Y]):=ja1
  generalize upd H2 pb (.tup [.int X,.int Y])=H3 at k2 hb2' eb ⊢
  have m3:=m.kp k2 hb
  refine ⟨_,rfl,p,_,_,_,rfl,rfl,SqT.of m3.hp,rfl,_,rfl,_,rfl,p,_,_,_,rfl,rfl,SqT.of m3.hp,rfl,pw,xw,rfl,.inr (SqT.of m3.hw),b,_,rfl,hb2',by omega,by omega,fun r3 H4 r3a r3b hb4 kp4=>?_⟩
  have k4:=k2.trans kp4
  have m4:=m.kp k4 hb
  have eb4:=kp4.tm hb2' _ _ eb
  obtain ⟨xr,dr,er,ear,_,_⟩:=trAt m4.tw r3a (by omega)
  obtain ⟨nr,ar,hMr,rfl,hAr⟩:=rw0.at er
  refine ⟨pw,_,_,_,rfl,rfl,SqT.of m4.hw,ear,?_⟩
  refine ⟨by show 0 ≤ sizeLine; decide,fun pl hpl=>?_⟩
  have nbl:=hb4.ne hpl
  have hHpl:H pl=none:=k4.free hb hpl hb4
  have k5:Kp b H (upd H4 pl (.lst [])):=k4.new hpl
  have t5:Tm H4 (upd H4 pl (.lst [])):=Tm.new hpl
  have hb5:Bag (upd H4 pl (.lst [])) b:=hb4.new hpl
  have epl:(upd H4 pl (.lst [])) pl=some (.lst []):=ja1
  have eb5:=t5 _ _ eb4
  generalize upd H4 pl (.lst [])=H5 at k5 t5 hb5 epl eb5 ⊢
  have m5:=m.kp k5 hb
  refine ⟨_,rfl,p,_,_,_,rfl,rfl,SqT.of m5.hp,rfl,pa,xa,rfl,.inr (SqT.of m5.ha),(xa.length:Int),rfl,by omega,by omega,?_⟩
  have exl:((xa.length:Int)).toNat=xa.length:=by simp
  rw [exl]
  refine for_range (fun i σ H'=>(∃ y5 y6 y7 y8 y9,σ=[some (.ref b),some (.ref p),some (.ref pb),some (.ref ar),some (.ref pl),y5,y6,y7,y8,y9])∧Bag H' b∧Kp b H H'∧H' pb=some (.tup [.int X,.int Y])∧∃ ys,H' pl=some (.lst ys)∧ys.length=i∧∀ (j:Nat) y,ys[j]?=some y→PrV (has (rowsOf wi) j) H' y)
   ⟨⟨_,_,_,_,_,rfl⟩,hb5,k5,eb5,[],epl,rfl,fun j y z=>by simp at z⟩ ?_ ?_
  ·rintro i σ H6 hi ⟨⟨y5,y6,y7,y8,y9,rfl⟩,hb6,k6,eb6,ys,hys,hyl,hyp⟩
   refine ⟨by show 2 ≤ sizeLine; decide,fun p0 hp0=>?_⟩
   have hb7:Bag (upd H6 p0 (.tup [.int 0,.int 1])) b:=hb6.new hp0
   have s7:Stay H6 (upd H6 p0 (.tup [.int 0,.int 1])):=(Stay.refl H6).new hp0
   have e07:(upd H6 p0 (.tup [.int 0,.int 1])) p0=some (.tup [.int 0,.int 1]):=ja1
   generalize upd H6 p0 (.tup [.int 0,.int 1])=H7 at hb7 s7 e07 ⊢
   dsimp only [gName]
   refine ifs_cont (fun σ H'=>(∃ pr y7 y8 y9,σ=[some (.ref b),some (.ref p),some (.ref pb),some (.ref ar),some (.ref pl),some (.int (0 + (i:Int))),some (.ref pr),y7,y8,y9]∧PrV (has (rowsOf wi) i) H' (.ref pr))∧Bag H' b∧Kp b H6 H') ?_ ?_
   ·rintro σ H' ⟨⟨pr,y7,y8,y9,rfl,hpr⟩,hb',kp'⟩
    have hy':=kp' pl _ nbl.symm hys
    refine ⟨_,rfl,.inl ⟨rfl,_,SqL.of hy'⟩,_,rfl,pl,ys,.ref pr,rfl,rfl,hy',by rw [hyl,sz]; omega,?_⟩
    have tl:Tm H' (upd H' pl (.lst (ys ++ [.ref pr]))):=Tm.lst hy'
    refine ⟨⟨_,_,_,_,_,rfl⟩,hb'.acc nbl,(k6.trans kp').acc hHpl,tl _ _ (kp'.tm hb6 _ _ eb6),ys ++ [.ref pr],ja1,by rw [List.length_append,hyl]; rfl,fun j y hj=>?_⟩
    rcases Nat.lt_or_ge j ys.length with z | z
    ·rw [List.getElem?_append_left z] at hj
     exact ((hyp j y hj).tm (kp'.tm hb6)).tm tl
    ·rw [List.getElem?_append_right z] at hj
     have:j=i:=by
      have:=(List.getElem?_eq_some_iff.mp hj).1
      simp at this
      omega
     subst this
     rw [hyl] at hj
     simp at hj
     subst hj
     exact hpr.tm tl
   ·intro cont
    have k7:=k6.trans (Stay.kpb (b:=b) s7)
    have m7:=m.kp k7 hb
    obtain ⟨rw7,_,_,_,_,_,_,_,_⟩:=m7.lw
    refine ⟨_,rfl,_,rfl,p,pa,pw,_,xa,xw,rowsOf wi,rfl,m7.hp,m7.ha,m7.hw,rw7,rne,rlen,a6,w6,fun q8 H8 s8 _ e8=>?_⟩
    refine ⟨q8,_,rfl,.inl (SqL.of e8),rfl,flat_wished _ _,_,rfl,?_⟩
    have hii:i < xa.length:=hi
    have ein:(if false=true then !inV (V.int (0 + (i:Int))) (jd5 xa.length (rowsOf wi)) else inV (V.int (0 + (i:Int))) (jd5 xa.length (rowsOf wi)))=has (rowsOf wi) i:=by rw [if_neg (by decide)]; exact in_wished hii
    rw [ein]
    have s68:=s7.trans s8
    have hb8:Bag H8 b:=by obtain ⟨c,d,e⟩:=hb7; exact ⟨c,d,s8 _ _ e⟩
    cases hw8:has (rowsOf wi) i with
    | false =>
     refine iteF (cont _ _ ⟨⟨p0,_,_,_,rfl,?_⟩,hb8,fun a o _ h=>s68 a o h⟩)
     rw [hw8]
     exact ⟨p0,0,1,rfl,s8 _ _ e07,by decide,by decide,by decide,by decide,by decide⟩
    | true =>
    refine iteT ?_
    have k8:Kp b H H8:=k6.trans (Stay.kpb (b:=b) s68)
    have m8:=m.kp k8 hb
    refine ⟨_,rfl,p,_,_,_,rfl,rfl,SqT.of m8.hp,rfl,_,rfl,_,rfl,p,_,_,_,rfl,rfl,SqT.of m8.hp,rfl,pw,xw,rfl,.inr (SqT.of m8.hw),b,_,rfl,hb8,by omega,by omega,fun r5 H9 r5a r5b hb9 kp9=>?_⟩
    have k9:=k8.trans kp9
    have m9:=m.kp k9 hb
    obtain ⟨xo,dq,eo,eao,_,_⟩:=trAt m9.tw r5a (by omega)
    obtain ⟨no,ao,hMo,rfl,hAo⟩:=rw0.at eo
    refine ⟨pw,_,_,_,rfl,rfl,SqT.of m9.hw,eao,?_⟩
    refine ⟨_,rfl,_,rfl,by show 2 ≤ sizeLine; decide,fun l2 hl2=>?_⟩
    have nl2:=hb9.ne hl2
    refine ⟨_,rfl,b,_,rfl,hb9.new hl2,by decide,by decide,fun r6 H10 r6a r6b hb10 kp10=>?_⟩
    have e2:=kp10 l2 _ nl2.symm ja1
    have k10:Kp b H H10:=(k9.new hl2).trans kp10
    have k610:Kp b H6 H10:=((((Stay.kpb (b:=b) s68).trans kp9).new hl2).trans kp10)
    obtain ⟨v,ev,av,nv,rfl,hnv,hav⟩:=atI_any (xs:=[V.ref ar,V.ref ao]) (r:=r6) (Pr:=fun v=>∃ (av:Addr) (nv:List Int),v=.ref av∧nv ∈ rowsOf wi∧H av=some (.tup (nv.map V.int))) r6a r6b (by
     intro v hv
     simp at hv
     rcases hv with rfl | rfl
     ·exact ⟨_,_,rfl,List.mem_of_getElem? hMr,hAr⟩
     ·exact ⟨_,_,rfl,List.mem_of_getElem? hMo,hAo⟩)
    have hav10:=k10.tm hb _ _ hav
    have nvl:=rlen nv hnv
    obtain ⟨eg,_,eg2⟩:=jd8 (ns:=nv) (r:=0 + (i:Int)) (by omega) (by omega)
    have nvb:=rbd nv hnv _ eg2
    refine ⟨l2,_,_,_,rfl,rfl,SqL.of e2,ev,_,rfl,av,_,_,_,rfl,rfl,SqT.of hav10,eg,_,_,rfl,?_⟩
    generalize hwv:(if nv.getD (0 + (i:Int)).toNat 0 > 1 then nv.getD (0 + (i:Int)).toNat 0 else 1)=wv
    have wv1:1 ≤ wv∧wv ≤ 100:=by rw [← hwv]; split <;> omega
    have eb10:=k610.tm hb6 _ _ eb6
    refine ⟨_,rfl,_,rfl,by show 2 ≤ sizeLine; decide,fun pt hpt=>?_⟩
    have eb11:=(Tm.new hpt:Tm H10 (upd H10 pt (.tup [.int wv,.int 1]))) _ _ eb10
    refine ⟨pb,pt,X,Y,wv,1,rfl,eb11,ja1,by omega,by omega,by omega,by omega,by omega,by omega,fun pr hpr=>?_⟩
    have posT:0 < X * wv:=Int.mul_pos l1 (by omega)
    have bT:X * wv ≤ 6000:=Int.le_trans (Int.mul_le_mul (show X ≤ 60 by omega) wv1.2 (by omega) (by omega)) (by decide)
    have eY:Y * 1=Y:=Int.mul_one Y
    rw [eY] at *
    obtain ⟨c1,c2,c3,c4,c5⟩:=low_pos (t:=X * wv) (u:=Y) posT l3
    generalize X * wv / (Int.gcd (X * wv) Y:Int)=T at c1 c2 c5 ⊢
    generalize Y / (Int.gcd (X * wv) Y:Int)=U at c3 c4 c5 ⊢
    have hb12:Bag (upd (upd H10 pt (.tup [.int wv,.int 1])) pr (.tup [.int T,.int U])) b:=(hb10.new hpt).new hpr
    have k12:Kp b H6 (upd (upd H10 pt (.tup [.int wv,.int 1])) pr (.tup [.int T,.int U])):=(k610.new hpt).new hpr
    have er12:(upd (upd H10 pt (.tup [.int wv,.int 1])) pr (.tup [.int T,.int U])) pr=some (.tup [.int T,.int U]):=ja1
    generalize upd (upd H10 pt (.tup [.int wv,.int 1])) pr (.tup [.int T,.int U])=H12 at hb12 k12 er12 ⊢
    refine ⟨_,rfl,b,_,rfl,hb12,by decide,by decide,fun r7 H13 _ _ hb13 kp13=>⟨rfl,_,rfl,ite2 (fun _=>?_) (fun _=>?_)⟩⟩
    ·refine ⟨_,rfl,b,_,rfl,hb13,by decide,by decide,fun r8 H14 r8a r8b hb14 kp14=>⟨_,_,rfl,rfl,?_⟩⟩
     refine ⟨_,rfl,b,_,rfl,hb14,by decide,by decide,fun r9 H15 r9a r9b hb15 kp15=>⟨_,_,rfl,rfl,?_⟩⟩
     refine ⟨1 + r8,1 + r9,rfl,by omega,by omega,fun pby hpby=>?_⟩
     obtain ⟨f1,f2,f3,f4,f5⟩:=low_pos (t:=1 + r8) (u:=1 + r9) (by omega) (by omega)
     generalize (1 + r8) / (Int.gcd (1 + r8) (1 + r9):Int)=BX at f1 f2 f5 ⊢
     generalize (1 + r9) / (Int.gcd (1 + r8) (1 + r9):Int)=BY at f3 f4 f5 ⊢
     have er15:=((((kp13.trans kp14).trans kp15).tm hb12).trans (Tm.new (o:=.tup [.int BX,.int BY]) hpby)) _ _ er12
     have bUY:U * BY ≤ 1800:=Int.le_trans (Int.mul_le_mul (show U ≤ 200 by omega) (show BY ≤ 9 by omega) (by omega) (by omega)) (by decide)
     refine ⟨_,rfl,_,rfl,pr,pby,T,U,BX,BY,rfl,er15,ja1,by omega,by omega,c3,by omega,f3,by omega,fun pr2 hpr2=>?_⟩
     have posT2:0 < T * BX:=Int.mul_pos c1 f1
     have posU2:0 < U * BY:=Int.mul_pos c3 f3
     have bT2:T * BX ≤ 54000:=Int.le_trans (Int.mul_le_mul (show T ≤ 6000 by omega) (show BX ≤ 9 by omega) (by omega) (by omega)) (by decide)
     obtain ⟨g1,g2,g3,g4,g5⟩:=low_pos posT2 posU2
     refine cont _ _ ⟨⟨pr2,_,_,_,rfl,?_⟩,(hb15.new hpby).new hpr2,((((k12.trans kp13).trans kp14).trans kp15).new hpby).new hpr2⟩
     rw [hw8]
     exact ⟨pr2,_,_,rfl,ja1,isPrice_true g1 g3 g5,by omega,by omega,by omega,by omega⟩
    ·refine cont _ _ ⟨⟨pr,_,_,_,rfl,?_⟩,hb13,k12.trans kp13⟩
     rw [hw8]
     exact ⟨pr,T,U,rfl,kp13.tm hb12 _ _ er12,isPrice_true c1 c3 c5,by omega,by omega,by omega,by omega⟩
  ·rintro σ H6 ⟨⟨y5,y6,y7,y8,y9,rfl⟩,hb6,k6,eb6,ys,hys,hyl,hyp⟩
   refine ⟨_,rfl,pl,ys,rfl,.inl ⟨SqL.of hys,fun q hq=>?_⟩⟩
   exact k q ys _ (hb6.new hq) (k6.new hq) ja1 hyl fun j y hj=>(hyp j y hj).tm (Tm.new hq)
end
end K9
namespace K9
open PySem L2 KG EX KM
section
variable {P:Program} {w:World} {K:PySem.W.Frag} {mg:Str→Option Value} {base:Heap}
theorem scSum:FnScope ["some","found","one"] ["some"] (ja5 (top 39)):=⟨rfl,rfl,rfl,by decide +kernel,rfl,by decide +kernel,by decide +kernel⟩
theorem ok_sum {f fA:Addr} {fd dA:FuncData} (F:Fun K "_law_sum" "_law_sum" (top 39) f fd) (A:Cal K mg P w base "_law_add" 2 ["one","other"] (sp2 qPl) fA dA):FnOk P w K mg base CX0 3 f fd ["some"] spSum:=by
 refine F.ok scSum (fun vs H Q E h=>?_) (fun cdv A' outer s H vs Q E hr h=>?_)
 ·obtain ⟨l,ys,qs,rfl,_⟩:=h; rfl
 ·obtain ⟨l,ys,qs,rfl,hl,hf,hb,hn,k⟩:=h
  refine ⟨_,ja4 (jb1 (i:=1) scSum.nd rfl (Or.inl rfl) (jd6 (ja0 ja3 (ja0 ja3 ja2))))
   (ja4 (jf6 PassesOwn.never rfl (piL0 (pv 0)) (ja8 (i:=2) scSum.nd rfl (Or.inl rfl)) (ja7 (jb1 (i:=1) scSum.nd rfl (Or.inl rfl) (ja6 A.ok hr rfl A.mg A.kp A.bd .nil pass0 (ja0 (pv 1) (ja0 (pv 2) ja2))))))
   (ja7 (jb4 (pv 1)))),?_⟩
  refine ⟨by show 2 ≤ sizeLine; decide,fun p0 hp0=>?_⟩
  have s0:=(Stay.refl H).new (o:=.tup [.int 0,.int 1]) hp0
  refine ⟨_,rfl,l,rfl,⟨ys,SqL.of (s0 _ _ hl)⟩,?_⟩
  refine jf7 (xs:=ys) (fun i σ H'=>(∃ r y2,σ=[some (.ref l),some (.ref r),y2]∧H' r=some (qO (sumQ (qs.take i))))∧Stay H H') ⟨⟨p0,_,rfl,ja1⟩,s0⟩ (fun j σ H' _ q=>SqL.of (q.2 _ _ hl)) ?_ ?_
  ·rintro i y σ H1 hy ⟨⟨r,y2,rfl,hr1⟩,s1⟩
   obtain ⟨a,rfl,ha⟩:=(hf.stay s1).2 i y hy
   have hi:i < qs.length:=by have:=(List.getElem?_eq_some_iff.mp hy).1; rw [hf.1] at this; exact this
   have eq:qs[i]?=some (qs.getD i 0):=by simp [List.getD,List.getElem?_eq_getElem hi]
   have b1:Rb 3000 (sumQ (qs.take i)):=(sumQ_rb hb i).mono (by omega)
   have b2:Rb 3000 (qs.getD i 0):=(hb _ (List.mem_of_getElem? eq)).mono (by decide)
   refine ⟨_,rfl,_,rfl,r,a,_,_,rfl,hr1,ha,b1,b2,fun r2 hr2=>?_⟩
   exact ⟨⟨r2,_,rfl,by rw [jb2 eq,sumQ_snoc]; exact ja1⟩,s1.new hr2⟩
  ·rintro σ H1 ⟨⟨r,y2,rfl,hr1⟩,s1⟩
   rw [List.take_of_length_le (by rw [hf.1]; exact Nat.le_refl _)] at hr1
   exact ⟨_,rfl,k r H1 s1 hr1⟩
theorem scMoneyL:FnScope ["market","prices","goods"] ["market","prices","goods"] (ja5 (top 48)):=⟨rfl,rfl,rfl,by decide +kernel,rfl,by decide +kernel,by decide +kernel⟩
theorem ok_moneyL {f fS fM:Addr} {fd dS dM:FuncData} (F:Fun K "_law_money" "_law_money" (top 48) f fd) (S:Cal K mg P w base "_law_sum" 3 ["some"] spSum fS dS) (M:Cal K mg P w base "_law_mul" 2 ["one","other"] (sp2 qTi) fM dM):FnOk P w K mg base CX0 4 f fd ["market","prices","goods"] spMoneyL:=by
 refine F.ok scMoneyL (fun vs H Q E h=>?_) (fun cdv A' outer s H vs Q E hr h=>?_)
 ·obtain ⟨b,p,pa,pp,pw,q,l,xa,xp,xw,ys,am,pu,wi,qs,gs,rfl,_⟩:=h; rfl
 ·obtain ⟨b,p,pa,pp,pw,q,l,xa,xp,xw,ys,am,pu,wi,qs,gs,rfl,m,pr,hql,hl,hgl,hgs,k⟩:=h
  have hr2:Room 2 _:=hr.mono (by decide)
  refine ⟨_,ja7 (jb4 (ja6 S.ok hr rfl S.mg S.kp S.bd .nil pass0 (ja0 (jc3 (own:=["good"]) (cap:=["market","prices"]) (ix:=[0,1]) (BlkOk.of (ja5 (top 48)).names ["market","prices","goods"]) rfl (piL0 (pv 2))
   (fun C fp s H=>⟨ja8 (i:=0) (show List.Nodup (["good","market","prices"]:List Str) by decide +kernel) rfl (Or.inl rfl),jb9,
    ja6 M.ok hr2 rfl M.mg M.kp M.bd .nil pass0 (ja0 (ja9 ixT0 (pv 2) (pv 0) (fun _ _=>rfl)) (ja0 (jd6 (ja0 (ja9 ixT0 (ja9 ixT0 (pv 1) ja3 (fun _ _=>rfl)) (pv 0) (fun _ _=>rfl)) (ja0 ja3 ja2))) ja2))⟩)) ja2))),?_⟩
  obtain ⟨exa,ham⟩:=m.am
  have hfr:=Frs.of pr.tr
  refine ⟨_,rfl,l,rfl,⟨_,SqL.of hl⟩,fun acc hacc=>?_⟩
  refine jd3 (xs:=natsV gs) (fun i zs H'=>Stay H H'∧Frs H' zs ((gs.take i).map fun g=>qs.getD g 0 * (((am.map intOf).getD g 0:Int):Rat))) ⟨(Stay.refl H).acc hacc,rfl,fun j y hy=>by simp at hy⟩ (fun i zs H' _ _ q=>SqL.of (q.1 _ _ hl)) ?_ ?_
  ·rintro i x zs H' hx hy ⟨st,fr⟩
   obtain ⟨g,hg,rfl⟩:∃ g:Nat,gs[i]?=some g∧x=V.int (g:Int):=by
    unfold natsV at hx
    rw [List.getElem?_map] at hx
    cases e:gs[i]? with
    | none=>rw [e] at hx; cases hx
    | some g=>rw [e] at hx; exact ⟨g,rfl,by simpa using hx.symm⟩
   have hgx:g < xa.length:=hgs g (List.mem_of_getElem? hg)
   obtain ⟨a,ea,ha⟩:=(hfr.stay st).at (g:=g) (by omega)
   have hamg:g < (am.map intOf).length:=by have:=congrArg List.length exa; rw [List.length_map] at this; omega
   obtain ⟨ea2,_,em2⟩:=jd8 (ns:=am.map intOf) (r:=(g:Int)) (by omega) (by omega)
   rw [← exa] at ea2
   have eg:((g:Int)).toNat=g:=by omega
   rw [eg] at ea2 em2
   have m':=m.stay st
   refine je9 ?_
   refine ⟨_,rfl,_,rfl,q,_,_,_,rfl,rfl,SqT.of (st _ _ pr.hq),ea,_,rfl,p,_,_,_,rfl,rfl,SqT.of m'.hp,rfl,_,rfl,pa,_,_,_,rfl,rfl,SqT.of m'.ha,ea2,by show 2 ≤ sizeLine; decide,fun t ht=>?_⟩
   have st1:=(Stay.refl H').new (o:=.tup [.int ((am.map intOf).getD g 0),.int 1]) ht
   have bam:Rb 7 (((am.map intOf).getD g 0:Int):Rat):=rb_int (by have:=ham _ em2; unfold Bd; omega) (by decide)
   refine ⟨a,t,qs.getD g 0,(((am.map intOf).getD g 0:Int):Rat),rfl,st1 _ _ ha,ja1,(pr.rb g).mono (by decide),bam.mono (by decide),fun r hr'=>?_⟩
   have st2:=st1.new (o:=qO (qTi (qs.getD g 0) (((am.map intOf).getD g 0:Int):Rat))) hr'
   have hy2:=st2 _ _ hy
   refine ⟨_,hy2,?_,Cn.of ja1 ⟨(st.trans st2).acc hacc,?_⟩⟩
   ·rw [fr.1,List.length_map,List.length_take,sz]; omega
   ·rw [jb2 hg,List.map_append]
    exact ((fr.stay st2).app (a:=r) ja1).tm (Tm.lst hy2)
  ·rintro zs H' hy ⟨st,fr⟩
   have e:(natsV gs).length=gs.length:=by unfold natsV; rw [List.length_map]
   rw [e,List.take_of_length_le (Nat.le_refl _)] at fr
   refine ⟨acc,zs,_,rfl,hy,fr,fun z hz=>?_,by rw [List.length_map]; omega,fun r H2 s2 hr2=>k r H2 (st.trans s2) (by rw [money_sum]; exact hr2)⟩
   obtain ⟨g,hg,rfl⟩:=List.mem_map.mp hz
   have bam:Rb 7 (((am.map intOf).getD g 0:Int):Rat):=by
    have hgx:=hgs g hg
    have hamg:g < (am.map intOf).length:=by have:=congrArg List.length exa; rw [List.length_map] at this; omega
    have em:(am.map intOf).getD g 0 ∈ am.map intOf:=by
     have e3:=List.getElem?_eq_getElem hamg
     have:(am.map intOf).getD g 0=(am.map intOf)[g]:=by simp only [List.getD,e3,Option.getD_some]
     rw [this]; exact List.getElem_mem hamg
    exact rb_int (by have:=ham _ em; unfold Bd; omega) (by decide)
   exact (rb_mul (pr.rb g) bam).mono (by decide)
end
end K9
namespace K9
open PySem L2 KG EX KM
theorem range_succ_any {f:Nat→Bool} {n:Nat}:(List.range (n + 1)).any f=((List.range n).any f || f n):=by rw [List.range_succ,List.any_append]; simp
theorem natsV_snoc {f:Nat→Bool} {n:Nat}:natsV ((List.range (n + 1)).filter f)=natsV ((List.range n).filter f) ++ (if f n=true then [V.int (n:Int)] else []):=by
 unfold natsV
 rw [filter_succ,List.map_append]
 split <;> simp
def worstB (row:List Int) (qs:List Rat) (g n:Nat):Bool:=decide (row.getD g 0=0) || (List.range n).any (worse row qs g)
theorem best_worst {row:List Int} {qs:List Rat} {g:Nat}:bestB row qs g=!worstB row qs g row.length:=by
 unfold bestB worstB
 rw [Bool.not_or,List.not_any_eq_all_not]
 simp
theorem worse_b {row:List Int} {qs:List Rat} {g o:Nat}:worse row qs g o=(decide (0 < row.getD o 0) && decide (row.getD g 0 * (qs.getD o 0).num * ((qs.getD g 0).den:Int) < row.getD o 0 * (qs.getD g 0).num * ((qs.getD o 0).den:Int))):=by
 unfold worse
 congr 1
 exact decide_eq_decide.mpr worse_int
section
variable {P:Program} {w:World} {K:PySem.W.Frag} {mg:Str→Option Value} {base:Heap}
abbrev NB:List Str:=["market","prices","found","row","best","good","top","bottom","worse","other","there"]
theorem scBest:FnScope NB ["market","prices"] (ja5 (top 47)):=⟨rfl,rfl,rfl,by decide +kernel,rfl,by decide +kernel,by decide +kernel⟩
theorem ok_lbest {f:Addr} {fd:FuncData} (F:Fun K "_law_best" "_law_best" (top 47) f fd) (N:Nm mg):FnOk P w K mg base CX0 1 f fd ["market","prices"] spLBest:=by
 refine F.ok scBest (fun vs H Q E h=>?_) (fun cdv A' outer s H vs Q E hr h=>?_)
 ·obtain ⟨b,p,pa,pp,pw,q,xa,xp,xw,ys,am,pu,wi,qs,rfl,_⟩:=h; rfl
 ·obtain ⟨b,p,pa,pp,pw,q,xa,xp,xw,ys,am,pu,wi,qs,rfl,m,pr,hql,k⟩:=h
  obtain ⟨rw0,rne,rlen,rbd,a1,a6,w1,w6,_⟩:=m.lw
  have hfr:=Frs.of pr.tr
  refine ⟨_,ja4 (jb1 (i:=2) scBest.nd rfl (Or.inl rfl) (je4 ja2))
   (ja4 (jf6 PassesOwn.never rfl (piT0 (ja9 ixT0 (pv 0) ja3 (fun _ _=>rfl))) (ja8 (i:=3) scBest.nd rfl (Or.inl rfl))
    (ja4 (jb1 (i:=4) scBest.nd rfl (Or.inl rfl) (je4 ja2))
    (ja4 (jf6 PassesOwn.never rfl (jd2 rfl N.range (ja0 (jb0 cLen0 (by rfl) N.len PySem.boot_len (ja0 (pv 3) ja2)) ja2)) (ja8 (i:=5) scBest.nd rfl (Or.inl rfl))
     (ja4 (ps_asg (ja9 ixT0 (pv 1) (pv 5) (fun _ _=>rfl)) (pgTup0 rfl (jc9 (ja8 (i:=6) scBest.nd rfl (Or.inl rfl)) (jc9 (ja8 (i:=7) scBest.nd rfl (Or.inl rfl)) pgs_nil))))
     (ja4 (jb1 (i:=8) scBest.nd rfl (Or.inl rfl) (pe_cmpR op_eq (ja9 ixT0 (pv 3) (pv 5) (fun _ _=>rfl)) ja3 (nomark _)))
     (ja4 (jf6 PassesOwn.never rfl (jd2 rfl N.range (ja0 (jb0 cLen0 (by rfl) N.len PySem.boot_len (ja0 (pv 3) ja2)) ja2)) (ja8 (i:=9) scBest.nd rfl (Or.inl rfl))
      (ja4 (jb1 (i:=10) scBest.nd rfl (Or.inl rfl) (jb3 jd0 (jb3 jd0 (ja9 ixT0 (pv 3) (pv 9) (fun _ _=>rfl)) (pv 6)) (ja9 ixT0 (ja9 ixT0 (pv 1) (pv 9) (fun _ _=>rfl)) ja3 (fun _ _=>rfl))))
      (ja7 (jf1 (PW.pt (pw_and (jc0 op_gt (ja9 ixT0 (pv 3) (pv 9) (fun _ _=>rfl)) ja3 (nomark _)) (pw_and1 (jc0 op_lt (jb3 jd0 (jb3 jd0 (ja9 ixT0 (pv 3) (pv 5) (fun _ _=>rfl)) (ja9 ixT0 (ja9 ixT0 (pv 1) (pv 9) (fun _ _=>rfl)) ja3 (fun _ _=>rfl))) (pv 7)) (pv 10) (nomark _)))))
       (ja7 (jb1 (i:=8) scBest.nd rfl (Or.inl rfl) pe_bl)) jc6))))
     (ja7 (jf1 (pt_not (pt_val (pv 8))) (ja7 (ps_expr (peBm0 PySem.F.plainAttrs_list PySem.F.slot_list_append PySem.F.type_list_append jf3 (pv 4) (ja0 (pv 5) ja2)))) jc6))))))
    (ja7 (ps_expr (peBm0 PySem.F.plainAttrs_list PySem.F.slot_list_append PySem.F.type_list_append jf3 (pv 2) (ja0 (pv 4) ja2)))))))
   (ja7 (jb4 (pv 2)))),?_⟩
  refine ⟨by show 0 ≤ sizeLine; decide,fun pf hpf=>?_⟩
  have s0:=(Stay.refl H).new (o:=.lst []) hpf
  have m0:=m.stay s0
  refine ⟨_,rfl,p,_,_,_,rfl,rfl,SqT.of m0.hp,rfl,pw,rfl,⟨xw,SqT.of m0.hw⟩,?_⟩
  refine for_tup (xs:=xw) (fun i σ H'=>(∃ y3 y4 y5 y6 y7 y8 y9 y10,σ=[some (.ref p),some (.ref q),some (.ref pf),y3,y4,y5,y6,y7,y8,y9,y10])∧Stay H H'∧∃ xs,H' pf=some (.lst xs)∧xs.length=i∧∀ (j:Nat) x,xs[j]?=some x→∃ a,x=.ref a∧a ≠ pf∧H' a=some (.lst (((bestM (rowsOf wi) qs).getD j []).map V.int)))
   ⟨⟨_,_,_,_,_,_,_,_,rfl⟩,s0,[],ja1,rfl,fun j x hx=>by simp at hx⟩ (fun j σ H' _ z=>SqT.of (z.2.1 _ _ m.hw)) ?_ ?_
  ·rintro i x σ H1 hx ⟨⟨y3,y4,y5,y6,y7,y8,y9,y10,rfl⟩,s1,xs,hxs,hxl,hxp⟩
   obtain ⟨row,ar,hrow,rfl,har⟩:=rw0.at hx
   have hmr:=List.mem_of_getElem? hrow
   have rl:=rlen row hmr
   have rb:=rbd row hmr
   refine ⟨by show 0 ≤ sizeLine; decide,fun pb hpb=>?_⟩
   have npf:pf ≠ pb:=fun z=>by rw [z,hpb] at hxs; cases hxs
   have s2:=(Stay.refl H1).new (o:=.lst []) hpb
   have eb2:(upd H1 pb (.lst [])) pb=some (.lst []):=ja1
   generalize upd H1 pb (.lst [])=H2 at s2 eb2 ⊢
   have har2:=s2 _ _ (s1 _ _ har)
   refine ⟨_,rfl,ar,_,rfl,.inr (SqT.of har2),(row.length:Int),by rw [List.length_map],by omega,by omega,?_⟩
   have exl:((row.length:Int)).toNat=row.length:=by simp
   rw [exl]
   refine for_range (fun g σ H'=>(∃ y5 y6 y7 y8 y9 y10,σ=[some (.ref p),some (.ref q),some (.ref pf),some (.ref ar),some (.ref pb),y5,y6,y7,y8,y9,y10])∧Stay H1 H'∧H' pb=some (.lst (natsV ((List.range g).filter (bestB row qs)))))
    ⟨⟨_,_,_,_,_,_,rfl⟩,s2,eb2⟩ ?_ ?_
   ·rintro g σ H3 hg ⟨⟨y5,y6,y7,y8,y9,y10,rfl⟩,s3,eb3⟩
    have e0:(0 + (g:Int))=(g:Int):=by omega
    have s03:=s1.trans s3
    have hq3:=s03 _ _ pr.hq
    have har3:=s03 _ _ har
    obtain ⟨a,ea,ha⟩:=(hfr.stay s03).at (g:=g) (by omega)
    rw [← e0] at ea
    refine ⟨_,rfl,_,rfl,q,_,_,_,rfl,rfl,SqT.of hq3,ea,a,_,rfl,SqT.of ha,rfl,_,_,rfl,_,_,rfl,rfl,?_⟩
    obtain ⟨er,_,em⟩:=jd8 (ns:=row) (r:=0 + (g:Int)) (by omega) (by omega)
    have eg:(0 + (g:Int)).toNat=g:=by omega
    rw [eg] at er em
    refine ⟨_,rfl,_,rfl,ar,_,_,_,rfl,rfl,SqT.of har3,er,rfl,?_⟩
    refine ⟨_,rfl,ar,_,rfl,.inr (SqT.of har3),(row.length:Int),by rw [List.length_map],by omega,by omega,?_⟩
    rw [exl]
    have bW7:∀ o,Bd 7 (row.getD o 0):=fun o=>by
     by_cases ho:o < row.length
     ·have:row.getD o 0 ∈ row:=by simp [List.getD,List.getElem?_eq_getElem ho]
      have:=rb _ this
      unfold Bd; omega
     ·have:row.getD o 0=0:=by simp [List.getD,List.getElem?_eq_none (Nat.le_of_not_lt ho)]
      rw [this]; unfold Bd; decide
    have bW:∀ o,Bd 8000 (row.getD o 0):=fun o=>(bW7 o).mono (by decide)
    have bg:=pr.rb g
    refine for_range (fun o σ H'=>(∃ y9 y10,σ=[some (.ref p),some (.ref q),some (.ref pf),some (.ref ar),some (.ref pb),some (.int (0 + (g:Int))),some (.int (qs.getD g 0).num),some (.int ((qs.getD g 0).den:Int)),some (.bl (worstB row qs g o)),y9,y10])∧H'=H3)
     ⟨⟨_,_,by
      have e1:decide (V.int (row.getD g 0)=V.int 0)=worstB row qs g 0:=by unfold worstB; simp
      rw [e1]; rfl⟩,rfl⟩ ?_ ?_
    ·rintro o σ H4 ho ⟨⟨y9,y10,rfl⟩,rfl⟩
     have e0':(0 + (o:Int))=(o:Int):=by omega
     obtain ⟨ero,_,_⟩:=jd8 (ns:=row) (r:=0 + (o:Int)) (by omega) (by omega)
     have ego:(0 + (o:Int)).toNat=o:=by omega
     rw [ego] at ero
     obtain ⟨ao,eao,hao⟩:=(hfr.stay s03).at (g:=o) (by omega)
     rw [← e0'] at eao
     have bo:=pr.rb o
     have m1:Bd 8000 (row.getD o 0 * (qs.getD g 0).num):=((bW7 o).mul bg.1).mono (by decide)
     have m2:Bd 8000 (row.getD g 0 * (qs.getD o 0).num):=((bW7 g).mul bo.1).mono (by decide)
     refine ⟨_,rfl,_,rfl,ar,_,_,_,rfl,rfl,SqT.of har3,ero,_,rfl,_,_,rfl,rfl,⟨bW o,bg.1.mono (by decide)⟩,_,rfl,_,rfl,q,_,_,_,rfl,rfl,SqT.of hq3,eao,ao,_,_,_,rfl,rfl,SqT.of hao,rfl,_,_,rfl,rfl,⟨m1,bo.2.mono (by decide)⟩,?_⟩
     refine ⟨_,rfl,_,rfl,ar,_,_,_,rfl,rfl,SqT.of har3,ero,_,_,rfl,rfl,_,rfl,?_⟩
     have ew:worstB row qs g (o + 1)=(worstB row qs g o || worse row qs g o):=by unfold worstB; rw [range_succ_any,Bool.or_assoc]
     by_cases hpos:row.getD o 0 > 0
     ·rw [decide_eq_true hpos]
      refine iteT ⟨_,rfl,_,rfl,ar,_,_,_,rfl,rfl,SqT.of har3,er,_,rfl,_,rfl,q,_,_,_,rfl,rfl,SqT.of hq3,eao,ao,_,_,_,rfl,rfl,SqT.of hao,rfl,_,_,rfl,rfl,⟨bW g,bo.1.mono (by decide)⟩,_,rfl,_,_,rfl,rfl,⟨m2,bg.2.mono (by decide)⟩,_,rfl,_,_,rfl,rfl,_,rfl,?_⟩
      have ewo:=worse_b (row:=row) (qs:=qs) (g:=g) (o:=o)
      rw [decide_eq_true (show 0 < row.getD o 0 from hpos),Bool.true_and] at ewo
      rw [← ewo]
      cases hc:worse row qs g o with
      | true =>
       refine iteT ⟨⟨_,_,by rw [ew,hc,Bool.or_true]; rfl⟩,rfl⟩
      | false =>
       refine iteF ⟨⟨_,_,by rw [ew,hc,Bool.or_false]; rfl⟩,rfl⟩
     ·rw [decide_eq_false hpos]
      have hc:worse row qs g o=false:=by rw [worse_b,decide_eq_false (show ¬ 0 < row.getD o 0 from hpos)]; rfl
      refine iteF (iteF ⟨⟨_,_,by rw [ew,hc,Bool.or_false]; rfl⟩,rfl⟩)
    ·rintro σ H4 ⟨⟨y9,y10,rfl⟩,rfl⟩
     have hbw:bestB row qs g=!worstB row qs g row.length:=best_worst
     generalize hwv:worstB row qs g row.length=wv at hbw ⊢
     cases wv with
     | false =>
      have hb:bestB row qs g=true:=hbw
      refine ⟨_,rfl,_,rfl,iteT ⟨_,rfl,.inl ⟨rfl,_,SqL.of eb3⟩,_,rfl,pb,_,_,rfl,rfl,eb3,?_,⟨_,_,_,_,_,_,rfl⟩,s3.acc hpb,?_⟩⟩
      ·unfold natsV; rw [List.length_map,sz]
       have:=List.length_filter_le (bestB row qs) (List.range g)
       simp at this; omega
      ·rw [natsV_snoc,hb,if_pos rfl,e0]; exact ja1
     | true =>
      have hb:bestB row qs g=false:=hbw
      refine ⟨_,rfl,_,rfl,iteF ⟨⟨_,_,_,_,_,_,rfl⟩,s3,?_⟩⟩
      rw [natsV_snoc,hb,if_neg (by decide),List.append_nil]; exact eb3
   ·rintro σ H3 ⟨⟨y5,y6,y7,y8,y9,y10,rfl⟩,s3,eb3⟩
    have hxs3:=s3 _ _ hxs
    refine ⟨_,rfl,.inl ⟨rfl,_,SqL.of hxs3⟩,_,rfl,pf,xs,.ref pb,rfl,rfl,hxs3,by rw [hxl,sz]; have:=(List.getElem?_eq_some_iff.mp hx).1; omega,⟨_,_,_,_,_,_,_,_,rfl⟩,(s1.trans s3).acc hpf,xs ++ [.ref pb],ja1,by rw [List.length_append,hxl]; rfl,fun j y hy=>?_⟩
    rcases Nat.lt_or_ge j xs.length with z | z
    ·rw [List.getElem?_append_left z] at hy
     obtain ⟨a,e,na,ha⟩:=hxp j y hy
     exact ⟨a,e,na,by rw [jb5 na]; exact s3 _ _ ha⟩
    ·have ej:j=xs.length:=by
      have:=(List.getElem?_eq_some_iff.mp hy).1
      simp at this; omega
     subst ej
     simp at hy
     subst hy
     refine ⟨pb,rfl,npf.symm,?_⟩
     rw [jb5 npf.symm,eb3]
     have e1:(bestM (rowsOf wi) qs).getD xs.length []=(bestR row qs).map fun g:Nat=>(g:Int):=by
      unfold bestM
      rw [hxl]
      simp [List.getD,List.getElem?_map,hrow]
     rw [e1]
     unfold bestR natsV
     rw [List.map_map]; rfl
  ·rintro σ H1 ⟨⟨y3,y4,y5,y6,y7,y8,y9,y10,rfl⟩,s1,xs,hxs,hxl,hxp⟩
   refine ⟨_,rfl,k pf xs H1 s1 hxs ⟨?_,fun j x hx=>?_⟩⟩
   ·rw [hxl,rw0.len]; unfold bestM; rw [List.length_map]
   ·obtain ⟨a,e,_,ha⟩:=hxp j x hx
    exact ⟨a,e,ha⟩
end
end K9
namespace K9
open PySem L2 KG EX KM
section
variable {P:Program} {w:World} {K:PySem.W.Frag} {mg:Str→Option Value} {base:Heap}
end
end K9
namespace K9
open PySem L2 KG EX KM
theorem and_one (m:Nat):Builtin.bitAnd (m:Int) 1=((m % 2:Nat):Int):=by
 unfold Builtin.bitAnd
 rw [decide_eq_true (show (0:Int) ≤ (m:Int) by omega),decide_eq_true (show (0:Int) ≤ 1 by decide)]
 show (((m:Int).toNat &&& (1:Int).toNat:Nat):Int)=_
 rw [Int.toNat_natCast]
 show ((m &&& 1:Nat):Int)=_
 rw [Nat.and_one_is_mod]
section
variable {P:Program} {w:World} {K:PySem.W.Frag} {mg:Str→Option Value} {base:Heap}
theorem sc_law_div:FnScope ["one","other"] ["one","other"] (ja5 (top 40)):=⟨rfl,rfl,rfl,by decide +kernel,rfl,by decide +kernel,by decide +kernel⟩
theorem ok_law_div {f fF:Addr} {fd dF:FuncData} (F:Fun K "_law_div" "_law_div" (top 40) f fd) (G:Cal K mg P w base "_law_frac" 1 ["top","bottom"] spLf fF dF):FnOk P w K mg base CX0 2 f fd ["one","other"] spDiv:=by
 refine F.ok sc_law_div (fun vs H Q E h=>?_) (fun cdv A outer s H vs Q E hr h=>?_)
 ·obtain ⟨p,q,a,b,rfl,_⟩:=h; rfl
 ·obtain ⟨p,q,a,b,rfl,hp,hq,⟨ba,bb⟩,⟨bc,bd⟩,hb0,k⟩:=h
  have hb:=jc1 a
  have hn:=rat_pos.mp hb0
  refine ⟨_,ja7 (jb4 (ja6 G.ok hr rfl G.mg G.kp G.bd .nil pass0 (ja0 (jb3 jd0 (ja9 ixT0 (pv 0) ja3 (fun _ _=>rfl)) (ja9 ixT0 (pv 1) ja3 (fun _ _=>rfl))) (ja0 (jb3 jd0 (ja9 ixT0 (pv 0) ja3 (fun _ _=>rfl)) (ja9 ixT0 (pv 1) ja3 (fun _ _=>rfl))) ja2)))),?_⟩
  refine ⟨_,rfl,p,_,_,_,rfl,rfl,SqT.of hp,rfl,_,rfl,q,_,_,_,rfl,rfl,SqT.of hq,rfl,_,_,rfl,rfl,⟨b3 ba,b3 bd⟩,_,rfl,p,_,_,_,rfl,rfl,SqT.of hp,rfl,_,rfl,q,_,_,_,rfl,rfl,SqT.of hq,rfl,_,_,rfl,rfl,⟨b3 bb,b3 bc⟩,?_⟩
  exact ⟨_,_,rfl,Int.mul_pos hb hn,b6 (bb.mul bc),fun r hr'=>by rw [div_rat (by omega)]; exact k r hr'⟩
theorem scPurs:FnScope ["market","buyers"] ["market","buyers"] (ja5 (top 50)):=⟨rfl,rfl,rfl,by decide +kernel,rfl,by decide +kernel,by decide +kernel⟩
theorem ok_purses {f fS:Addr} {fd dS:FuncData} (F:Fun K "_law_purses" "_law_purses" (top 50) f fd) (S:Cal K mg P w base "_law_sum" 3 ["some"] spSum fS dS):FnOk P w K mg base CX0 4 f fd ["market","buyers"] spPurses:=by
 refine F.ok scPurs (fun vs H Q E h=>?_) (fun cdv A' outer s H vs Q E hr h=>?_)
 ·obtain ⟨b,p,pa,pp,pw,l,xa,xp,xw,am,pu,wi,bs,rfl,_⟩:=h; rfl
 ·obtain ⟨b,p,pa,pp,pw,l,xa,xp,xw,am,pu,wi,bs,rfl,m,hl,hbl,hbs,k⟩:=h
  refine ⟨_,ja7 (jb4 (ja6 S.ok hr rfl S.mg S.kp S.bd .nil pass0 (ja0 (jc3 (own:=["buyer"]) (cap:=["market"]) (ix:=[0]) (BlkOk.of (ja5 (top 50)).names ["market","buyers"]) rfl (piL0 (pv 1))
   (fun C fp s H=>⟨ja8 (i:=0) (show List.Nodup (["buyer","market"]:List Str) by decide +kernel) rfl (Or.inl rfl),jb9,ja9 ixT0 (ja9 ixT0 (pv 1) ja3 (fun _ _=>rfl)) (pv 0) (fun _ _=>rfl)⟩)) ja2))),?_⟩
  have hfr:=m.fp
  have hpl:xp.length=(jb8 pu).length:=hfr.1
  refine ⟨_,rfl,l,rfl,⟨_,SqL.of hl⟩,fun acc hacc=>?_⟩
  refine jd3 (xs:=natsV bs) (fun i zs H'=>Stay H H'∧Frs H' zs ((bs.take i).map fun g=>(jb8 pu).getD g 0)) ⟨(Stay.refl H).acc hacc,rfl,fun j y hy=>by simp at hy⟩ (fun i zs H' _ _ q=>SqL.of (q.1 _ _ hl)) ?_ ?_
  ·rintro i x zs H' hx hy ⟨st,fr⟩
   obtain ⟨g,hg,rfl⟩:∃ g:Nat,bs[i]?=some g∧x=V.int (g:Int):=by
    unfold natsV at hx
    rw [List.getElem?_map] at hx
    cases e:bs[i]? with
    | none=>rw [e] at hx; cases hx
    | some g=>rw [e] at hx; exact ⟨g,rfl,by simpa using hx.symm⟩
   have hgx:g < xp.length:=hbs g (List.mem_of_getElem? hg)
   obtain ⟨a,ea,ha⟩:=(hfr.stay st).at (g:=g) (by omega)
   have m':=m.stay st
   refine je9 ⟨_,rfl,p,_,_,_,rfl,rfl,SqT.of m'.hp,rfl,_,rfl,pp,_,_,_,rfl,rfl,SqT.of m'.hpp,ea,_,hy,?_,Cn.of ja1 ⟨st.acc hacc,?_⟩⟩
   ·rw [fr.1,List.length_map,List.length_take,sz]; omega
   ·rw [jb2 hg,List.map_append]
    exact (fr.app (a:=a) ha).tm (Tm.lst hy)
  ·rintro zs H' hy ⟨st,fr⟩
   have e:(natsV bs).length=bs.length:=by unfold natsV; rw [List.length_map]
   rw [e,List.take_of_length_le (Nat.le_refl _)] at fr
   refine ⟨acc,zs,_,rfl,hy,fr,fun z hz=>?_,by rw [List.length_map]; omega,fun r H2 s2 hr2=>k r H2 (st.trans s2) hr2⟩
   obtain ⟨g,hg,rfl⟩:=List.mem_map.mp hz
   exact (rb_getD (by decide) (fun q hq=>(m.pu.2 q hq).2) g).mono (by decide)
theorem scSets:FnScope ["some","found","mask"] ["some"] (ja5 (top 51)):=⟨rfl,rfl,rfl,by decide +kernel,rfl,by decide +kernel,by decide +kernel⟩
theorem ok_sets {f:Addr} {fd:FuncData} (F:Fun K "_law_sets" "_law_sets" (top 51) f fd) (N:Nm mg):FnOk P w K mg base CX0 1 f fd ["some"] spSets:=by
 refine F.ok scSets (fun vs H Q E h=>?_) (fun cdv A' outer s H vs Q E hr h=>?_)
 ·obtain ⟨l,ns,rfl,_⟩:=h; rfl
 ·obtain ⟨l,ns,rfl,hl,hn,k⟩:=h
  refine ⟨_,ja4 (jb1 (i:=1) scSets.nd rfl (Or.inl rfl) (je4 ja2))
   (ja4 (jf6 PassesOwn.never rfl (jd2 rfl N.range (ja0 (jb3 op_shl ja3 (jb0 cLen0 (by rfl) N.len PySem.boot_len (ja0 (pv 0) ja2))) ja2)) (ja8 (i:=2) scSets.nd rfl (Or.inr rfl))
    (ja7 (ps_expr (peBm0 PySem.F.plainAttrs_list PySem.F.slot_list_append PySem.F.type_list_append jf3 (pv 1) (ja0 (jc3 (own:=["k"]) (cap:=["some","mask"]) (ix:=[0,2]) (BlkOk.of (ja5 (top 51)).names ["some","found","mask"]) rfl (jd2 rfl N.range (ja0 (jb0 cLen0 (by rfl) N.len PySem.boot_len (ja0 (pv 0) ja2)) ja2))
     (fun C fp s H=>⟨ja8 (i:=0) (show List.Nodup (["k","some","mask"]:List Str) by decide +kernel) rfl (Or.inl rfl),je6 (jc0 op_eq (jb3 op_and (jb3 op_shr (pv 2) (pv 0)) ja3) ja3 (nomark _)),ja9 ixL0 (pv 1) (pv 0) (fun _ _=>rfl)⟩)) ja2)))))
   (ja7 (jb4 (pv 1)))),?_⟩
  refine ⟨by show 0 ≤ sizeLine; decide,fun pf hpf=>?_⟩
  have s0:=(Stay.refl H).new (o:=.lst []) hpf
  have hnl:(ns.map V.int).length=ns.length:=List.length_map _
  have h2:(2:Nat) ^ ns.length ≤ 64:=Nat.le_trans (Nat.pow_le_pow_right (by decide) hn) (by decide)
  have etn:(((ns.map V.int).length:Nat):Int).toNat=ns.length:=by rw [hnl]; omega
  have epow:(1:Int) * 2 ^ (((ns.map V.int).length:Nat):Int).toNat=((2 ^ ns.length:Nat):Int):=by rw [etn,Int.one_mul]; exact (Int.natCast_pow 2 _).symm
  refine ⟨_,rfl,l,_,rfl,.inl (SqL.of (s0 _ _ hl)),_,_,rfl,rfl,⟨by omega,by omega,by decide⟩,((2 ^ ns.length:Nat):Int),by show [V.int ((1:Int) * 2 ^ (((ns.map V.int).length:Nat):Int).toNat)]=_; rw [epow],?_,?_,?_⟩
  ·generalize 2 ^ ns.length=z at h2; omega
  ·generalize 2 ^ ns.length=z at h2; omega
  rw [Int.toNat_natCast]
  refine for_range (fun i σ H'=>(∃ y2,σ=[some (.ref l),some (.ref pf),y2])∧Stay H H'∧∃ xs,H' pf=some (.lst xs)∧xs.length=i∧∀ (j:Nat) x,xs[j]?=some x→∃ a,x=.ref a∧a ≠ pf∧H a=none∧H' a=some (.lst ((pickL ns j).map V.int)))
   ⟨⟨_,rfl⟩,s0,[],ja1,rfl,fun j x hx=>by simp at hx⟩ ?_ ?_
  ·rintro i σ H1 hi ⟨⟨y2,rfl⟩,s1,xs,hxs,hxl,hxp⟩
   have e0:(0 + (i:Int))=(i:Int):=by omega
   refine ⟨_,rfl,.inl ⟨rfl,_,SqL.of hxs⟩,_,rfl,l,_,rfl,.inl (SqL.of (s1 _ _ hl)),(ns.length:Int),by rw [hnl],by omega,by omega,fun acc hacc=>?_⟩
   rw [Int.toNat_natCast]
   have npf:pf ≠ acc:=fun z=>by rw [z,hacc] at hxs; cases hxs
   refine je8 (fun j ys H'=>Stay H1 H'∧ys=(((List.range j).filter fun k=>decide (i / 2 ^ k % 2=1)).map fun k=>V.int (ns.getD k 0))) ⟨(Stay.refl H1).acc hacc,rfl⟩ ?_ ?_
   ·rintro j ys H' hj hy ⟨st,rfl⟩
    obtain ⟨er,_,_⟩:=jd8 (ns:=ns) (r:=0 + (j:Int)) (by omega) (by omega)
    have ej:(0 + (j:Int)).toNat=j:=by omega
    rw [ej] at er
    refine ⟨_,rfl,_,rfl,_,_,rfl,rfl,by omega,_,_,rfl,rfl,rfl,_,rfl,?_⟩
    have ev:decide (V.int (Builtin.bitAnd ((0 + (i:Int)) / 2 ^ (0 + (j:Int)).toNat) 1)=V.int 1)=decide (i / 2 ^ j % 2=1):=by
     rw [ej,e0]
     have:((i:Int) / 2 ^ j)=((i / 2 ^ j:Nat):Int):=by rw [Int.natCast_ediv,Int.natCast_pow]; rfl
     rw [this,and_one]
     simp
     omega
    rw [ev]
    have hf:((List.range (j + 1)).filter fun k=>decide (i / 2 ^ k % 2=1)).map (fun k=>V.int (ns.getD k 0))=((List.range j).filter fun k=>decide (i / 2 ^ k % 2=1)).map (fun k=>V.int (ns.getD k 0)) ++ (if decide (i / 2 ^ j % 2=1)=true then [V.int (ns.getD j 0)] else []):=by
     rw [filter_succ,List.map_append]
     congr 1
     split <;> simp_all
    cases hc:decide (i / 2 ^ j % 2=1) with
    | true =>
     refine iteT ⟨_,rfl,_,rfl,l,_,_,_,rfl,rfl,SqL.of (st _ _ (s1 _ _ hl)),er,_,hy,?_,Cn.of ja1 ⟨st.acc hacc,?_⟩⟩
     ·have h1:=List.length_filter_le (fun k=>decide (i / 2 ^ k % 2=1)) (List.range j)
      rw [List.length_range] at h1
      rw [List.length_map,sz]; omega
     ·rw [hf,hc,if_pos rfl]
    | false =>
     refine iteF (Cn.of hy ⟨st,?_⟩)
     rw [hf,hc,if_neg (by decide),List.append_nil]
   ·rintro ys H2 hy ⟨st,rfl⟩
    have hxs2:=st _ _ hxs
    have el:xs.length=i:=hxl
    refine ⟨pf,xs,.ref acc,rfl,rfl,hxs2,by rw [hxl,sz]; omega,⟨_,rfl⟩,(s1.trans st).acc hpf,xs ++ [.ref acc],ja1,by rw [List.length_append,hxl]; rfl,fun j y hyy=>?_⟩
    rcases Nat.lt_or_ge j xs.length with z | z
    ·rw [List.getElem?_append_left z] at hyy
     obtain ⟨a,e,na,nh,ha⟩:=hxp j y hyy
     exact ⟨a,e,na,nh,by rw [jb5 na]; exact st _ _ ha⟩
    ·have ej:j=xs.length:=by
      have:=(List.getElem?_eq_some_iff.mp hyy).1
      simp at this; omega
     subst ej
     simp at hyy
     subst hyy
     refine ⟨acc,rfl,npf.symm,s1.free hacc,?_⟩
     rw [jb5 npf.symm,hy,hxl]
     unfold pickL
     rw [List.map_map]; rfl
  ·rintro σ H1 ⟨⟨y2,rfl⟩,s1,xs,hxs,hxl,hxp⟩
   refine ⟨_,rfl,k pf xs H1 s1 hxs ⟨by unfold setsL; rw [hxl,List.length_map,List.length_range],fun j x hx=>?_⟩ fun a ham=>?_⟩
   case refine_2 =>
    obtain ⟨j,hj,ej⟩:=List.getElem_of_mem ham
    obtain ⟨a',e',_,nh,_⟩:=hxp j _ (List.getElem?_eq_getElem hj)
    rw [ej] at e'
    injection e' with e'
    rw [e']; exact nh
   obtain ⟨a,e,_,_,ha⟩:=hxp j x hx
   have hj:j < 2 ^ ns.length:=by have:=(List.getElem?_eq_some_iff.mp hx).1; omega
   have eg:(setsL ns).getD j []=pickL ns j:=by
    unfold setsL
    simp [List.getD,List.getElem?_map,List.getElem?_range hj]
   exact ⟨a,e,by rw [eg]; exact ha⟩
end
end K9
namespace K9
open PySem L2 KG EX KM
theorem Frs.cat {H:Hp} {xs ys:List V} {ps qs:List Rat} (h1:Frs H xs ps) (h2:Frs H ys qs):Frs H (xs ++ ys) (ps ++ qs):=by
 refine ⟨by simp [h1.1,h2.1],fun j y hy=>?_⟩
 rcases Nat.lt_or_ge j xs.length with z | z
 ·rw [List.getElem?_append_left z] at hy
  obtain ⟨c,e,hc⟩:=h1.2 j y hy
  refine ⟨c,e,?_⟩
  have:(ps ++ qs).getD j 0=ps.getD j 0:=by simp [List.getD,List.getElem?_append_left (h1.1 ▸ z)]
  rw [this]; exact hc
 ·rw [List.getElem?_append_right z] at hy
  obtain ⟨c,e,hc⟩:=h2.2 _ y hy
  refine ⟨c,e,?_⟩
  have:(ps ++ qs).getD j 0=qs.getD (j - xs.length) 0:=by
   rw [h1.1] at z ⊢
   simp [List.getD,List.getElem?_append_right z]
  rw [this]; exact hc
def numOf (c:Int) (q:Rat):Int:=q.num * (c / (q.den:Int))
theorem num_of {c:Int} {q:Rat} (h:(q.den:Int) ∣ c):((numOf c q:Int):Rat)=(c:Rat) * q:=by
 obtain ⟨x,rfl⟩:=h
 have hd:=jc1 q
 unfold numOf
 rw [Int.mul_ediv_cancel_left _ (by omega),Rat.intCast_mul,Rat.intCast_mul,← mul_den q]
 grind
theorem ints_of {c:Int} {qs:List Rat} (h:∀ q ∈ qs,(q.den:Int) ∣ c):IntsOf c (qs.map (numOf c)) qs:=by
 refine ⟨List.length_map _,fun j hj=>?_⟩
 have e1:(qs.map (numOf c)).getD j 0=numOf c (qs.getD j 0):=by simp [List.getD,List.getElem?_map,List.getElem?_eq_getElem hj]
 have e2:qs.getD j 0 ∈ qs:=by simp [List.getD,List.getElem?_eq_getElem hj]
 rw [e1]
 exact num_of (h _ e2)
theorem step_div {c:Int} {q:Rat} (hc:0 < c):0 < c * ((Rat.divInt c (q.den:Int)).den:Int)∧(q.den:Int) ∣ c * ((Rat.divInt c (q.den:Int)).den:Int)∧((Rat.divInt c (q.den:Int)).den:Int).natAbs ≤ (q.den:Int).natAbs:=by
 have hd:=jc1 q
 obtain ⟨_,e2⟩:=nf_rat (T:=c) (U:=(q.den:Int)) (by omega)
 obtain ⟨_,n2,_,_,_,n6⟩:=nf_spec (t:=c) (u:=(q.den:Int)) (by omega)
 obtain ⟨_,p2⟩:=nf_pos (t:=c) hd
 refine ⟨Int.mul_pos hc (jc1 _),?_,by rw [← e2]; exact n6⟩
 rw [← e2,p2]
 obtain ⟨x,hx⟩:=Int.gcd_dvd_left (a:=c) (b:=(q.den:Int))
 obtain ⟨y,hy⟩:=Int.gcd_dvd_right (a:=c) (b:=(q.den:Int))
 have hg:(Int.gcd c (q.den:Int):Int) ≠ 0:=by intro z; rw [z,Int.zero_mul] at hx; omega
 have ey:(q.den:Int) / (Int.gcd c (q.den:Int):Int)=y:=Int.ediv_eq_of_eq_mul_right hg hy
 rw [ey]
 generalize (Int.gcd c (q.den:Int):Int)=g at hx hy
 refine ⟨x,?_⟩
 rw [hx,hy]
 grind
theorem flat_ints (ns:List Int):(ns.map V.int).all flatV=true:=by
 rw [List.all_map]; simp [Function.comp_def,flatV]
section
variable {P:Program} {w:World} {K:PySem.W.Frag} {mg:Str→Option Value} {base:Heap}
abbrev NI:List Str:=["market","prices","some","by","one","numbers"]
theorem scInts:FnScope NI ["market","prices"] (ja5 (top 52)):=⟨rfl,rfl,rfl,by decide +kernel,rfl,by decide +kernel,by decide +kernel⟩
theorem ok_ints {f fM fF:Addr} {fd dM dF:FuncData} (F:Fun K "_law_ints" "_law_ints" (top 52) f fd) (N:Nm mg) (M:Cal K mg P w base "_law_mul" 2 ["one","other"] (sp2 qTi) fM dM) (R:Cal K mg P w base "_law_frac" 1 ["top","bottom"] spLf fF dF):FnOk P w K mg base CX0 3 f fd ["market","prices"] spInts:=by
 refine F.ok scInts (fun vs H Q E h=>?_) (fun cdv A' outer s H vs Q E hr h=>?_)
 ·obtain ⟨b,p,pa,pp,pw,q,xa,xp,xw,ys,am,pu,wi,qs,rfl,_⟩:=h; rfl
 ·obtain ⟨b,p,pa,pp,pw,q,xa,xp,xw,ys,am,pu,wi,qs,rfl,m,pr,hql,k⟩:=h
  have hr1:Room 1 _:=hr.mono (by decide)
  refine ⟨_,ja4 (ps_setC (i:=2) (own:=["good"]) (cap:=["market","prices"]) (ix:=[0,1]) scInts.nd rfl rfl (BlkOk.of (ja5 (top 52)).names NI) rfl (jd2 rfl N.range (ja0 (jb0 cLen0 (by rfl) N.len PySem.boot_len (ja0 (pv 1) ja2)) ja2))
    (fun C fp s H=>⟨ja8 (i:=0) (show List.Nodup (["good","market","prices"]:List Str) by decide +kernel) rfl (Or.inl rfl),jb9,
     ja6 M.ok hr rfl M.mg M.kp M.bd .nil pass0 (ja0 (ja9 ixT0 (pv 2) (pv 0) (fun _ _=>rfl)) (ja0 (jd6 (ja0 (ja9 ixT0 (ja9 ixT0 (pv 1) ja3 (fun _ _=>rfl)) (pv 0) (fun _ _=>rfl)) (ja0 ja3 ja2))) ja2))⟩))
   (ja4 (jb1 (i:=2) scInts.nd rfl (Or.inl rfl) (jb3 op_cat (pv 2) (jb6 cLst0 (by rfl) N.list jf4 (ja0 (ja9 ixT0 (pv 0) ja3 (fun _ _=>rfl)) ja2))))
   (ja4 (jb1 (i:=3) scInts.nd rfl (Or.inr rfl) ja3)
   (ja4 (jf6 PassesOwn.never rfl (piL0 (pv 2)) (ja8 (i:=4) scInts.nd rfl (Or.inl rfl)) (ja7 (jb1 (i:=3) scInts.nd rfl (Or.inr rfl) (jb3 jd0 (pv 3) (ja9 ixT0 (ja6 R.ok hr1 rfl R.mg R.kp R.bd .nil pass0 (ja0 (pv 3) (ja0 (ja9 ixT0 (pv 4) ja3 (fun _ _=>rfl)) ja2))) ja3 (fun _ _=>rfl))))))
   (ja4 (ps_setC (i:=5) (own:=["one"]) (cap:=["by"]) (ix:=[3]) scInts.nd rfl rfl (BlkOk.of (ja5 (top 52)).names NI) rfl (piL0 (pv 2))
    (fun C fp s H=>⟨ja8 (i:=0) (show List.Nodup (["one","by"]:List Str) by decide +kernel) rfl (Or.inl rfl),jb9,jb3 jd0 (ja9 ixT0 (pv 0) ja3 (fun _ _=>rfl)) (jb3 op_fdivB (pv 1) (ja9 ixT0 (pv 0) ja3 (fun _ _=>rfl)))⟩))
   (ja7 (jb4 (je4 (ja0 (pe_slice slL0 (pv 5) po_none (po_some (jb0 cLen0 (by rfl) N.len PySem.boot_len (ja0 (pv 1) ja2)))) (ja0 (pe_slice slL0 (pv 5) (po_some (jb0 cLen0 (by rfl) N.len PySem.boot_len (ja0 (pv 1) ja2))) po_none) ja2))))))))),?_⟩
  obtain ⟨exa,ham⟩:=m.am
  obtain ⟨_,_,_,_,a1,a6,w1,w6,wp⟩:=m.lw
  have hfr:=Frs.of pr.tr
  have hyl:ys.length=qs.length:=hfr.1
  refine ⟨_,rfl,q,ys,rfl,.inr (SqT.of pr.hq),(ys.length:Int),rfl,by omega,by omega,fun acc hacc=>?_⟩
  rw [Int.toNat_natCast]
  refine je8 (fun i zs H'=>Stay H H'∧Frs H' zs ((List.range i).map fun g=>qs.getD g 0 * (((am.map intOf).getD g 0:Int):Rat))) ⟨(Stay.refl H).acc hacc,rfl,fun j y hy=>by simp at hy⟩ ?_ ?_
  ·rintro g zs H' hg hy ⟨st,fr⟩
   have e0:(0 + (g:Int))=(g:Int):=by omega
   rw [e0]
   obtain ⟨a,ea,ha⟩:=(hfr.stay st).at (g:=g) (by omega)
   have hamg:g < (am.map intOf).length:=by have:=congrArg List.length exa; rw [List.length_map] at this; omega
   obtain ⟨ea2,_,em2⟩:=jd8 (ns:=am.map intOf) (r:=(g:Int)) (by omega) (by omega)
   rw [← exa] at ea2
   have eg:((g:Int)).toNat=g:=by omega
   rw [eg] at ea2 em2
   have m':=m.stay st
   refine je9 ?_
   refine ⟨_,rfl,_,rfl,q,_,_,_,rfl,rfl,SqT.of (st _ _ pr.hq),ea,_,rfl,p,_,_,_,rfl,rfl,SqT.of m'.hp,rfl,_,rfl,pa,_,_,_,rfl,rfl,SqT.of m'.ha,ea2,by show 2 ≤ sizeLine; decide,fun t ht=>?_⟩
   have st1:=(Stay.refl H').new (o:=.tup [.int ((am.map intOf).getD g 0),.int 1]) ht
   have bam:Rb 7 (((am.map intOf).getD g 0:Int):Rat):=rb_int (by have:=ham _ em2; unfold Bd; omega) (by decide)
   refine ⟨a,t,qs.getD g 0,(((am.map intOf).getD g 0:Int):Rat),rfl,st1 _ _ ha,ja1,(pr.rb g).mono (by decide),bam.mono (by decide),fun r hr'=>?_⟩
   have st2:=st1.new (o:=qO (qTi (qs.getD g 0) (((am.map intOf).getD g 0:Int):Rat))) hr'
   have hy2:=st2 _ _ hy
   refine ⟨_,hy2,?_,Cn.of ja1 ⟨(st.trans st2).acc hacc,?_⟩⟩
   ·rw [fr.1,List.length_map,List.length_range,sz]; omega
   ·rw [List.range_succ,List.map_append]
    exact ((fr.stay st2).app (a:=r) ja1).tm (Tm.lst hy2)
  rintro zs H1 hy1 ⟨s1,fr1⟩
  rw [hyl] at fr1
  have fr1':Frs H1 zs (jb7 (am.map intOf) qs):=fr1
  have hzl:zs.length=qs.length:=by rw [fr1'.1]; unfold jb7; simp
  have m1:=m.stay s1
  refine ⟨_,rfl,_,rfl,p,_,_,_,rfl,rfl,SqT.of m1.hp,rfl,pp,xp,rfl,.inr (SqT.of m1.hpp),fun l1 hl1=>?_⟩
  have s12:=(Stay.refl H1).new (o:=.lst xp) hl1
  refine ⟨acc,l1,zs,xp,rfl,rfl,s12 _ _ hy1,ja1,by rw [sz]; omega,fun l2 hl2=>?_⟩
  have s13:=s12.new (o:=.lst (zs ++ xp)) hl2
  have el2:(upd (upd H1 l1 (.lst xp)) l2 (.lst (zs ++ xp))) l2=some (.lst (zs ++ xp)):=ja1
  have fr3:Frs (upd (upd H1 l1 (.lst xp)) l2 (.lst (zs ++ xp))) (zs ++ xp) (jb7 (am.map intOf) qs ++ jb8 pu):=Frs.cat (fr1'.stay s13) ((m1.stay s13).fp)
  have s03:=s1.trans s13
  generalize upd (upd H1 l1 (.lst xp)) l2 (.lst (zs ++ xp))=H3 at s13 el2 fr3 s03 ⊢
  have hml:(jb7 (am.map intOf) qs).length=qs.length:=by unfold jb7; simp
  have hpl:xp.length=(jb8 pu).length:=m.fp.1
  generalize hall:jb7 (am.map intOf) qs ++ jb8 pu=all at fr3
  have hal:all.length=qs.length + (jb8 pu).length:=by rw [← hall,List.length_append,hml]
  have hbd:∀ z ∈ all,Rb 300 z:=fun z hz=>by
   rw [← hall] at hz
   rcases List.mem_append.mp hz with y | y
   ·unfold jb7 at y
    obtain ⟨g,hg,rfl⟩:=List.mem_map.mp y
    have hgx:g < qs.length:=by simpa using hg
    have hamg:g < (am.map intOf).length:=by have:=congrArg List.length exa; rw [List.length_map] at this; omega
    have em:(am.map intOf).getD g 0 ∈ am.map intOf:=by
     have e3:=List.getElem?_eq_getElem hamg
     have:(am.map intOf).getD g 0=(am.map intOf)[g]:=by simp only [List.getD,e3,Option.getD_some]
     rw [this]; exact List.getElem_mem hamg
    have bam:Rb 7 (((am.map intOf).getD g 0:Int):Rat):=rb_int (by have:=ham _ em; unfold Bd; omega) (by decide)
    exact (rb_mul (pr.rb g) bam).mono (by decide)
   ·exact ((m.pu.2 z y).2).mono (by decide)
  refine ⟨_,rfl,l2,rfl,⟨_,SqL.of el2⟩,?_⟩
  refine jf7 (xs:=zs ++ xp) (fun i σ H'=>(∃ c y4,σ=[some (.ref p),some (.ref q),some (.ref l2),some (.int c),y4,none]∧0 < c∧Bd (1 + 300 * i) c∧∀ z ∈ all.take i,(z.den:Int) ∣ c)∧Stay H3 H') ⟨⟨1,_,rfl,by decide,by unfold Bd; decide,fun z hz=>by simp at hz⟩,Stay.refl H3⟩ (fun j σ H' _ z=>SqL.of (z.2 _ _ el2)) ?_ ?_
  ·rintro i y σ H4 hy ⟨⟨c,y4,rfl,hc0,hcb,hcd⟩,s4⟩
   obtain ⟨a,rfl,ha⟩:=(fr3.stay s4).2 i y hy
   have hi:i < all.length:=by have:=(List.getElem?_eq_some_iff.mp hy).1; rw [fr3.1] at this; exact this
   have eq:all[i]?=some (all.getD i 0):=by simp [List.getD,List.getElem?_eq_getElem hi]
   have bq:=hbd _ (List.mem_of_getElem? eq)
   have hi12:i ≤ 12:=by omega
   obtain ⟨d1,d2,d3⟩:=step_div (c:=c) (q:=all.getD i 0) hc0
   refine ⟨_,rfl,_,rfl,_,rfl,a,_,_,_,rfl,rfl,SqT.of ha,rfl,c,_,rfl,jc1 _,bq.2.mono (by decide),fun r hr'=>?_⟩
   have bden:Bd 300 ((Rat.divInt c ((all.getD i 0).den:Int)).den:Int):=bq.2.le d3
   refine ⟨r,_,_,_,rfl,rfl,SqT.of ja1,rfl,_,_,rfl,rfl,⟨hcb.mono (by omega),bden.mono (by decide)⟩,?_⟩
   refine ⟨⟨_,_,rfl,d1,(hcb.mul bden).mono (by omega),fun z hz=>?_⟩,s4.new hr'⟩
   rw [jb2 eq] at hz
   rcases List.mem_append.mp hz with y | y
   ·exact Int.dvd_trans (hcd z y) ⟨_,rfl⟩
   ·have:z=all.getD i 0:=by simpa using y
    rw [this]; exact d2
  rintro σ H4 ⟨⟨c,y4,rfl,hc0,hcb,hcd⟩,s4⟩
  have hlen:(zs ++ xp).length=all.length:=fr3.1
  rw [hlen,List.take_of_length_le (Nat.le_refl _)] at hcd
  rw [hlen] at hcb
  refine ⟨_,rfl,l2,rfl,⟨_,SqL.of (s4 _ _ el2)⟩,fun acc2 hacc2=>?_⟩
  refine jd3 (xs:=zs ++ xp) (fun i vs H'=>Stay H4 H'∧vs=((all.take i).map (numOf c)).map V.int) ⟨(Stay.refl H4).acc hacc2,rfl⟩ (fun j vs H' _ _ z=>SqL.of (z.1 _ _ (s4 _ _ el2))) ?_ ?_
  ·rintro i x vs H' hx hy ⟨st,rfl⟩
   obtain ⟨a,rfl,ha⟩:=((fr3.stay s4).stay st).2 i x hx
   have hi:i < all.length:=by have:=(List.getElem?_eq_some_iff.mp hx).1; rw [fr3.1] at this; exact this
   have eq:all[i]?=some (all.getD i 0):=by simp [List.getD,List.getElem?_eq_getElem hi]
   have bq:=hbd _ (List.mem_of_getElem? eq)
   have hd:=jc1 (all.getD i 0)
   have bdv:Bd 8000 (c / ((all.getD i 0).den:Int)):=(hcb.le (by
    have h1:0 ≤ c / ((all.getD i 0).den:Int):=Int.ediv_nonneg (by omega) (by omega)
    have h2:c / ((all.getD i 0).den:Int) ≤ c:=Int.ediv_le_self _ (by omega)
    omega)).mono (by omega)
   refine je9 ⟨_,rfl,a,_,_,_,rfl,rfl,SqT.of ha,rfl,_,rfl,_,rfl,a,_,_,_,rfl,rfl,SqT.of ha,rfl,_,_,rfl,rfl,⟨hd,bq.2.mono (by decide)⟩,_,_,rfl,rfl,⟨bq.1.mono (by decide),bdv⟩,_,hy,?_,Cn.of ja1 ⟨st.acc hacc2,?_⟩⟩
   ·rw [List.length_map,List.length_map,List.length_take,sz]; omega
   ·rw [jb2 eq,List.map_append,List.map_append]; rfl
  rintro vs H5 hy5 ⟨s5,rfl⟩
  rw [hlen,List.take_of_length_le (Nat.le_refl _)] at hy5
  have hq5:=s5 _ _ (s4 _ _ (s03 _ _ pr.hq))
  refine ⟨_,rfl,_,rfl,q,ys,rfl,.inr (SqT.of hq5),_,rfl,acc2,_,rfl,SqL.of hy5,fun r1 hr1=>?_⟩
  have s6:=(Stay.refl H5).new (o:=.lst (cutV ((all.map (numOf c)).map V.int) none (some (ys.length:Int)))) hr1
  refine ⟨_,rfl,_,rfl,q,ys,rfl,.inr (SqT.of (s6 _ _ hq5)),_,rfl,acc2,_,rfl,SqL.of (s6 _ _ hy5),fun r2 hr2=>?_⟩
  have hxl:((all.map (numOf c)).map V.int).length=all.length:=by rw [List.length_map,List.length_map]
  have c1:=cut_to (xs:=(all.map (numOf c)).map V.int) (r:=(ys.length:Int)) (by omega) (by omega)
  have c2:=cut_from (xs:=(all.map (numOf c)).map V.int) (r:=(ys.length:Int)) (by omega) (by omega)
  rw [Int.toNat_natCast] at c1 c2
  have t1:((all.map (numOf c)).map V.int).take ys.length=((jb7 (am.map intOf) qs).map (numOf c)).map V.int:=by
   rw [← hall,List.map_append,List.map_append,List.take_left' (by rw [List.length_map,List.length_map]; omega)]
  have t2:((all.map (numOf c)).map V.int).drop ys.length=((jb8 pu).map (numOf c)).map V.int:=by
   rw [← hall,List.map_append,List.map_append,List.drop_left' (by rw [List.length_map,List.length_map]; omega)]
  have s7:=(Stay.refl (upd H5 r1 (.lst (cutV ((all.map (numOf c)).map V.int) none (some (ys.length:Int)))))).new (o:=.lst (cutV ((all.map (numOf c)).map V.int) (some (ys.length:Int)) none)) hr2
  have e1:(upd H5 r1 (.lst (cutV ((all.map (numOf c)).map V.int) none (some (ys.length:Int))))) r1=some (.lst (((jb7 (am.map intOf) qs).map (numOf c)).map V.int)):=by rw [ja1,c1,t1]
  refine ⟨by show 2 ≤ sizeLine; decide,fun r hr'=>?_⟩
  have s8:=(Stay.refl (upd (upd H5 r1 (.lst (cutV ((all.map (numOf c)).map V.int) none (some (ys.length:Int))))) r2 (.lst (cutV ((all.map (numOf c)).map V.int) (some (ys.length:Int)) none)))).new (o:=.lst [.ref r1,.ref r2]) hr'
  have e2:(upd (upd H5 r1 (.lst (cutV ((all.map (numOf c)).map V.int) none (some (ys.length:Int))))) r2 (.lst (cutV ((all.map (numOf c)).map V.int) (some (ys.length:Int)) none))) r2=some (.lst (((jb8 pu).map (numOf c)).map V.int)):=by rw [ja1,c2,t2]
  exact k r r1 r2 c _ _ _ (s03.trans (s4.trans (s5.trans (s6.trans (s7.trans s8))))) hc0 (ints_of fun z hz=>hcd z (by rw [← hall]; exact List.mem_append_left _ hz)) (ints_of fun z hz=>hcd z (by rw [← hall]; exact List.mem_append_right _ hz)) ja1 (s8 _ _ (s7 _ _ e1)) (s8 _ _ e2)
end
end K9
namespace KM
open PySem L2 KG EX
def RowsN (p:Addr) (H:Hp) (xs:List V) (rows:List (Int × List Int)):Prop:=xs.length=rows.length∧∀ (j:Nat) x,xs[j]?=some x→∃ (a c:Addr) (r:Int × List Int),rows[j]?=some r∧x=.ref a∧a ≠ p∧c ≠ p∧H a=some (.lst [.int r.1,.ref c])∧H c=some (.lst (r.2.map V.int))
theorem RowsN.stay {p:Addr} {H H':Hp} {xs:List V} {rows:List (Int × List Int)} (h:RowsN p H xs rows) (s:Stay H H'):RowsN p H' xs rows:=⟨h.1,fun j x hx=>by obtain ⟨a,c,r,e1,e2,e3,e4,e5,e6⟩:=h.2 j x hx; exact ⟨a,c,r,e1,e2,e3,e4,s _ _ e5,s _ _ e6⟩⟩
theorem RowsN.upd {p:Addr} {H:Hp} {o:HO} {xs:List V} {rows:List (Int × List Int)} (h:RowsN p H xs rows):RowsN p (upd H p o) xs rows:=⟨h.1,fun j x hx=>by
 obtain ⟨a,c,r,e1,e2,e3,e4,e5,e6⟩:=h.2 j x hx
 exact ⟨a,c,r,e1,e2,e3,e4,by rw [jb5 e3]; exact e5,by rw [jb5 e4]; exact e6⟩⟩
theorem RowsN.app {p:Addr} {H:Hp} {xs:List V} {rows:List (Int × List Int)} (h:RowsN p H xs rows) {a c:Addr} {r:Int × List Int} (na:a ≠ p) (nc:c ≠ p) (ha:H a=some (.lst [.int r.1,.ref c])) (hc:H c=some (.lst (r.2.map V.int))):RowsN p H (xs ++ [.ref a]) (rows ++ [r]):=by
 refine ⟨by simp [h.1],fun j y hy=>?_⟩
 rcases Nat.lt_or_ge j xs.length with z | z
 ·rw [List.getElem?_append_left z] at hy
  obtain ⟨a',c',r',e1,e2⟩:=h.2 j y hy
  exact ⟨a',c',r',by rw [List.getElem?_append_left (by rw [← h.1]; exact z)]; exact e1,e2⟩
 ·have:j=xs.length:=by
   have:=(List.getElem?_eq_some_iff.mp hy).1
   simp at this; omega
  subst this
  simp at hy
  subst hy
  exact ⟨a,c,r,by rw [h.1]; simp,rfl,na,nc,ha,hc⟩
theorem RowsN.at {p:Addr} {H:Hp} {xs:List V} {rows:List (Int × List Int)} (h:RowsN p H xs rows):RowsAt H xs rows:=⟨h.1,fun j x hx=>by
 obtain ⟨a,c,r,e1,e2,_,_,e5,e6⟩:=h.2 j x hx
 have:rows.getD j (0,[])=r:=by simp [List.getD,e1]
 rw [this]; exact ⟨a,c,e2,e5,e6⟩⟩
theorem ints_sum {c:Int} {ms:List Int} {qs:List Rat} (h:IntsOf c ms qs):∀ {ix:List Nat},(∀ i ∈ ix,i < qs.length)→(((ix.map fun i=>ms.getD i 0).sum:Int):Rat)=(c:Rat) * sumQ (ix.map fun i=>qs.getD i 0):=by
 intro ix
 have key:∀ (ix:List Nat) (z:Rat),(∀ i ∈ ix,i < qs.length)→((ix.map fun i=>qs.getD i 0).foldl (fun s q=>s + q) z)=z + sumQ (ix.map fun i=>qs.getD i 0):=by
  intro ix
  induction ix with
  | nil=>intro z _; unfold sumQ; simp [Rat.add_zero]
  | cons i ix ih =>
   intro z hi
   have hi':∀ j ∈ ix,j < qs.length:=fun j hj=>hi j (List.mem_cons_of_mem _ hj)
   unfold sumQ
   rw [List.map_cons,List.foldl_cons,List.foldl_cons,ih _ hi',ih _ hi',Rat.zero_add,Rat.add_assoc]
 induction ix with
 | nil=>intro _; unfold sumQ; simp [Rat.mul_zero]
 | cons i ix ih =>
  intro hi
  have hi':∀ j ∈ ix,j < qs.length:=fun j hj=>hi j (List.mem_cons_of_mem _ hj)
  rw [List.map_cons,List.sum_cons,Rat.intCast_add,ih hi',h.2 i (hi i List.mem_cons_self)]
  have:sumQ ((i :: ix).map fun i=>qs.getD i 0)=qs.getD i 0 + sumQ (ix.map fun i=>qs.getD i 0):=by
   conv=>lhs; unfold sumQ
   rw [List.map_cons,List.foldl_cons,key ix _ hi',Rat.zero_add]
  rw [this,Rat.mul_add]
def nats (S:List Int):List Nat:=S.map Int.toNat
theorem nats_V {S:List Int} (h:∀ x ∈ S,0 ≤ x):S.map V.int=natsV (nats S):=by
 unfold natsV nats
 rw [List.map_map]
 refine List.map_congr_left fun x hx=>?_
 show V.int x=V.int ((x.toNat:Nat):Int)
 rw [Int.toNat_of_nonneg (h x hx)]
theorem nat_at {gs:List Nat} {i:Nat} {x:V} (h:(natsV gs)[i]?=some x):∃ g:Nat,gs[i]?=some g∧x=V.int (g:Int):=by
 unfold natsV at h
 rw [List.getElem?_map] at h
 cases e:gs[i]? with
 | none=>rw [e] at h; cases h
 | some g=>rw [e] at h; exact ⟨g,rfl,by simpa using h.symm⟩
theorem nats_len (gs:List Nat):(natsV gs).length=gs.length:=by unfold natsV; rw [List.length_map]
end KM
namespace KM
open PySem L2 KG EX
theorem pickL_sub (ns:List Int) (mask:Nat):(pickL ns mask).Sublist ns:=by
 have e:ns=(List.range ns.length).map fun k=>ns.getD k 0:=by
  refine List.ext_getElem (by simp) fun i h1 h2=>?_
  simp [List.getD,List.getElem?_eq_getElem h1]
 have h:(pickL ns mask).Sublist ((List.range ns.length).map fun k=>ns.getD k 0):=by
  unfold pickL
  exact List.Sublist.map _ List.filter_sublist
 rw [← e] at h; exact h
theorem setsL_sub {ns S:List Int} (h:S ∈ setsL ns):S.Sublist ns:=by
 unfold setsL at h
 obtain ⟨k,_,rfl⟩:=List.mem_map.mp h
 exact pickL_sub ns k
end KM
namespace KM
open PySem L2 KG EX
theorem div_pos {a b:Rat} (ha:0 < a) (hb:0 < b):0 < a / b:=by
 have h:=(Rat.lt_div_iff (a:=0) (b:=a) (c:=b) hb)
 rw [h,Rat.zero_mul]; exact ha
section
variable {am:List Int} {ps qs:List Rat} {M:List (List Int)} {n:Nat}
end
end KM
namespace KM
open PySem L2 KG EX
end KM
namespace KM
open PySem L2 KG EX
theorem frs_tr {b:Addr} {H:Hp}:∀ {ys:List V} {qs:List Rat},Frs H ys qs→TrVs b H ys (qs.map qD)
 | [],[],_=>.nil
 | [],_ :: _,h=>by have:=h.1; simp at this
 | _ :: _,[],h=>by have:=h.1; simp at this
 | y :: ys,q :: qs,h=>by
  obtain ⟨a,e,ha⟩:=h.2 0 y rfl
  subst e
  have hr:(q :: qs).getD 0 0=q:=rfl
  rw [hr] at ha
  refine .cons (.tup ha (.cons (.int _) (.cons (.int _) .nil))) (frs_tr (ys:=ys) (qs:=qs) ⟨by simpa using h.1,fun j x hx=>?_⟩)
  obtain ⟨c,e,hc⟩:=h.2 (j + 1) x (by simpa using hx)
  exact ⟨c,e,by simpa [List.getD] using hc⟩
end KM
namespace KM
open PySem L2 KG EX
end KM
namespace PySem
def RawD (h:Heap) (d:Addr) (es:Array DictEntry) (ep:Nat):Prop:=∃ o,h.get? d=some o∧o.ExactDict∧o.data=.dict es ep
section
variable {prog:Program} {w:World} {A:Around} {E:Value→Shared→Prop} {s:Shared} {it d:Addr} {i ep:Nat} {es:Array DictEntry}
theorem RawD.at {h g:Heap} (x:RawD h d es ep) (k:∀ o,h.get? d=some o→g.get? d=some o):RawD g d es ep:=let ⟨o,e,r⟩:=x; ⟨o,k o e,r⟩
theorem raw_key {Q:Option Value→Shared→Prop} (t:s.heap.IsKeyIter it d i es.size ep) (m:RawD s.heap d es ep) (hi:i < es.size)
  (q:∀ g,g.IsKeyIter it d (i + 1) es.size ep→Heap.SameBut it s.heap g→Q (some es[i].key) { s with heap:=g }):wpAny (model prog w) A (pyNext (.ref it)) Q E s:=by
 obtain ⟨o,ho,hc,hd⟩:=id t
 obtain ⟨od,hod,_,hdd⟩:=m
 unfold pyNext; refine wpAny_bind (wpAny_attempt (wpAny_callSpecial?_slot (name:=Str.ofString "__next__") t.typeIs F.slot_dict_keyiterator_next (wpAny_call_entry F.slot_dict_keyiterator_next t.typeIs F.entry_dict_keyiterator_next ?_ (F.args_dict_keyiterator_next_1 _))))
 refine wpAny_bind (wpAny_pure (wpAny_bind (wpAny_bind ?_)))
 first | refine wpAny_bind (wpAny_typeNameOfWhole_keyiter t.typeIs (wpAny_pure (wpAny_bind (wpAny_fieldsOf ho hd ?_)))) | refine wpAny_bind (wpAny_typeNameOf_keyiter t.typeIs (wpAny_pure (wpAny_bind (wpAny_fieldsOf ho hd ?_))))
 have ow:Builtin.Dict_items.ownsTuple "dict_keyiterator"=false:=by decide
 simp only [ow,Bool.false_eq_true,if_false]; show wpAny _ _ (if (Value.ref d == Value.none)=true then _ else _) _ _ s
 rw [if_neg (show ¬ ((Value.ref d == Value.none)=true) from Bool.false_ne_true)]; refine wpAny_bind (wpAny_pure (wpAny_bind (wpAny_dictEntries hod hdd ?_)))
 rw [if_neg (by simp)]; refine wpAny_bind (wpAny_pure (wpAny_bind (wpAny_dictEpoch hod hdd ?_))); rw [if_neg (by simp)]; refine wpAny_pure ?_
 simp only [show ¬ ((i:Int) < 0) from by omega,if_false,Int.toNat_natCast,Array.getElem?_eq_getElem hi]; refine wpAny_bind ?_
 first | refine wpAny_bind (wpAny_typeNameOfWhole_keyiter t.typeIs (wpAny_pure (wpAny_bind (wpAny_isOneOf_keyiter t.typeIs ?_)))) | refine wpAny_bind (wpAny_typeNameOf_keyiter t.typeIs (wpAny_pure (wpAny_bind (wpAny_isOneOf_keyiter t.typeIs ?_))))
 show wpAny _ _ (setField (.ref it) 1 (rawInt ((i:Int) + 1)) >>= _) _ _ s; refine wpAny_bind (wpAny_setField ho hd (by simp) ?_)
 have t':(s.heap.update it (Obj.mapFields (·.setIfInBounds 1 (rawInt ((i:Int) + 1))))).IsKeyIter it d (i + 1) es.size ep:=⟨_,Heap.get?_update_self _ ho (Obj.isFreed_of_fields (Obj.data_mapFields hd _)),(Obj.cls_mapFields ..).trans hc,by rw [Obj.data_mapFields hd]; simp [rawInt]⟩
 refine wpAny_bind (wpAny_holding (wpAny_bind (wpAny_isOneOf_keyiter (s:={ s with heap:=s.heap.update it (Obj.mapFields (·.setIfInBounds 1 (rawInt ((i:Int) + 1)))) }) t'.typeIs ?_)))
 show wpAny _ _ (pure es[i].key) _ _ _; exact wpAny_pure (wpAny_pure ⟨_,rfl,wpAny_pure (q _ t' (Heap.SameBut.update ..))⟩)
theorem raw_key_end {Q:Option Value→Shared→Prop} (hh:A.handled=none) (t:s.heap.IsKeyIter it d i es.size ep) (m:RawD s.heap d es ep) (hi:es.size ≤ i)
  (q:∀ g,Heap.ExtBut it s.heap g→Q none { s with heap:=g }):wpAny (model prog w) A (pyNext (.ref it)) Q E s:=by
 obtain ⟨o,ho,hc,hd⟩:=id t
 obtain ⟨od,hod,_,hdd⟩:=m
 unfold pyNext; refine wpAny_bind (wpAny_attempt (wpAny_callSpecial?_slot (name:=Str.ofString "__next__") t.typeIs F.slot_dict_keyiterator_next (wpAny_call_entry F.slot_dict_keyiterator_next t.typeIs F.entry_dict_keyiterator_next ?_ (F.args_dict_keyiterator_next_1 _))))
 refine wpAny_bind (wpAny_pure (wpAny_bind (wpAny_bind ?_)))
 first | refine wpAny_bind (wpAny_typeNameOfWhole_keyiter t.typeIs (wpAny_pure (wpAny_bind (wpAny_fieldsOf ho hd ?_)))) | refine wpAny_bind (wpAny_typeNameOf_keyiter t.typeIs (wpAny_pure (wpAny_bind (wpAny_fieldsOf ho hd ?_))))
 have ow:Builtin.Dict_items.ownsTuple "dict_keyiterator"=false:=by decide
 simp only [ow,Bool.false_eq_true,if_false]; show wpAny _ _ (if (Value.ref d == Value.none)=true then _ else _) _ _ s
 rw [if_neg (show ¬ ((Value.ref d == Value.none)=true) from Bool.false_ne_true)]; refine wpAny_bind (wpAny_pure (wpAny_bind (wpAny_dictEntries hod hdd ?_)))
 rw [if_neg (by simp)]; refine wpAny_bind (wpAny_pure (wpAny_bind (wpAny_dictEpoch hod hdd ?_))); rw [if_neg (by simp)]; refine wpAny_pure ?_
 simp only [show ¬ ((i:Int) < 0) from by omega,if_false,Int.toNat_natCast,Array.getElem?_eq_none hi]; refine wpAny_bind ?_
 first | refine wpAny_bind (wpAny_typeNameOfWhole_keyiter t.typeIs (wpAny_pure ?_)) | refine wpAny_bind (wpAny_typeNameOf_keyiter t.typeIs (wpAny_pure ?_))
 show wpAny _ _ (setField (.ref it) 0 .none >>= _) _ _ s; refine wpAny_bind (wpAny_setField ho hd (by simp) ?_)
 show wpAny _ _ (newExc (.type "StopIteration") [] >>= _) _ _ _; refine wpAny_bind ?_; simp only [newExc,newTuple]; refine wpAny_bind (wpAny_newObj_type ?_ (by size_fits))
 refine wpAny_bind (m:=firstArgMember _ _) (wpAny_of_eq (a:=Value.none) (by first | rfl | (simp only [firstArgMember]; rfl)) (wpAny_newObj_type ?_ (by size_fits)))
 simp only [raiseNew]; refine wpAny_bind (wpAny_handled ?_); rw [show A.in1.handled=none from hh]; refine wpAny_bind (wpAny_pure (wpAny_throw ?_))
 exact wpAny_bind (wpAny_isInstance (T:="StopIteration") (b:=true) ⟨_,Heap.get?_push_size _ rfl,rfl⟩ isSubtype_stop (wpAny_pure (q _ (((Heap.SameBut.update ..).extBut.push _).push _))))
theorem raw_val {Q:Option Value→Shared→Prop} (t:s.heap.IsValIter it d i es.size ep) (m:RawD s.heap d es ep) (hi:i < es.size)
  (q:∀ g,g.IsValIter it d (i + 1) es.size ep→Heap.SameBut it s.heap g→Q (some es[i].val) { s with heap:=g }):wpAny (model prog w) A (pyNext (.ref it)) Q E s:=by
 obtain ⟨o,ho,hc,hd⟩:=id t
 obtain ⟨od,hod,_,hdd⟩:=m
 unfold pyNext; refine wpAny_bind (wpAny_attempt (wpAny_callSpecial?_slot (name:=Str.ofString "__next__") t.typeIs F.slot_dict_valueiterator_next (wpAny_call_entry F.slot_dict_valueiterator_next t.typeIs F.entry_dict_valueiterator_next ?_ (F.args_dict_valueiterator_next_1 _))))
 refine wpAny_bind (wpAny_pure (wpAny_bind (wpAny_bind ?_)))
 first | refine wpAny_bind (wpAny_typeNameOfWhole_valiter t.typeIs (wpAny_pure (wpAny_bind (wpAny_fieldsOf ho hd ?_)))) | refine wpAny_bind (wpAny_typeNameOf_valiter t.typeIs (wpAny_pure (wpAny_bind (wpAny_fieldsOf ho hd ?_))))
 have ow:Builtin.Dict_items.ownsTuple "dict_valueiterator"=false:=by decide
 simp only [ow,Bool.false_eq_true,if_false]; show wpAny _ _ (if (Value.ref d == Value.none)=true then _ else _) _ _ s
 rw [if_neg (show ¬ ((Value.ref d == Value.none)=true) from Bool.false_ne_true)]; refine wpAny_bind (wpAny_pure (wpAny_bind (wpAny_dictEntries hod hdd ?_)))
 rw [if_neg (by simp)]; refine wpAny_bind (wpAny_pure (wpAny_bind (wpAny_dictEpoch hod hdd ?_))); rw [if_neg (by simp)]; refine wpAny_pure ?_
 simp only [show ¬ ((i:Int) < 0) from by omega,if_false,Int.toNat_natCast,Array.getElem?_eq_getElem hi]; refine wpAny_bind ?_
 first | refine wpAny_bind (wpAny_typeNameOfWhole_valiter t.typeIs (wpAny_pure (wpAny_bind (wpAny_isOneOf_valiter t.typeIs ?_)))) | refine wpAny_bind (wpAny_typeNameOf_valiter t.typeIs (wpAny_pure (wpAny_bind (wpAny_isOneOf_valiter t.typeIs ?_))))
 show wpAny _ _ (setField (.ref it) 1 (rawInt ((i:Int) + 1)) >>= _) _ _ s; refine wpAny_bind (wpAny_setField ho hd (by simp) ?_)
 have t':(s.heap.update it (Obj.mapFields (·.setIfInBounds 1 (rawInt ((i:Int) + 1))))).IsValIter it d (i + 1) es.size ep:=⟨_,Heap.get?_update_self _ ho (Obj.isFreed_of_fields (Obj.data_mapFields hd _)),(Obj.cls_mapFields ..).trans hc,by rw [Obj.data_mapFields hd]; simp [rawInt]⟩
 refine wpAny_bind (wpAny_holding (wpAny_bind (wpAny_isOneOf_valiter (s:={ s with heap:=s.heap.update it (Obj.mapFields (·.setIfInBounds 1 (rawInt ((i:Int) + 1)))) }) t'.typeIs ?_)))
 refine wpAny_bind (wpAny_isOneOf_valiter (s:={ s with heap:=s.heap.update it (Obj.mapFields (·.setIfInBounds 1 (rawInt ((i:Int) + 1)))) }) t'.typeIs ?_)
 show wpAny _ _ (pure es[i].val) _ _ _; exact wpAny_pure (wpAny_pure ⟨_,rfl,wpAny_pure (q _ t' (Heap.SameBut.update ..))⟩)
theorem raw_val_end {Q:Option Value→Shared→Prop} (hh:A.handled=none) (t:s.heap.IsValIter it d i es.size ep) (m:RawD s.heap d es ep) (hi:es.size ≤ i)
  (q:∀ g,Heap.ExtBut it s.heap g→Q none { s with heap:=g }):wpAny (model prog w) A (pyNext (.ref it)) Q E s:=by
 obtain ⟨o,ho,hc,hd⟩:=id t
 obtain ⟨od,hod,_,hdd⟩:=m
 unfold pyNext; refine wpAny_bind (wpAny_attempt (wpAny_callSpecial?_slot (name:=Str.ofString "__next__") t.typeIs F.slot_dict_valueiterator_next (wpAny_call_entry F.slot_dict_valueiterator_next t.typeIs F.entry_dict_valueiterator_next ?_ (F.args_dict_valueiterator_next_1 _))))
 refine wpAny_bind (wpAny_pure (wpAny_bind (wpAny_bind ?_)))
 first | refine wpAny_bind (wpAny_typeNameOfWhole_valiter t.typeIs (wpAny_pure (wpAny_bind (wpAny_fieldsOf ho hd ?_)))) | refine wpAny_bind (wpAny_typeNameOf_valiter t.typeIs (wpAny_pure (wpAny_bind (wpAny_fieldsOf ho hd ?_))))
 have ow:Builtin.Dict_items.ownsTuple "dict_valueiterator"=false:=by decide
 simp only [ow,Bool.false_eq_true,if_false]; show wpAny _ _ (if (Value.ref d == Value.none)=true then _ else _) _ _ s
 rw [if_neg (show ¬ ((Value.ref d == Value.none)=true) from Bool.false_ne_true)]; refine wpAny_bind (wpAny_pure (wpAny_bind (wpAny_dictEntries hod hdd ?_)))
 rw [if_neg (by simp)]; refine wpAny_bind (wpAny_pure (wpAny_bind (wpAny_dictEpoch hod hdd ?_))); rw [if_neg (by simp)]; refine wpAny_pure ?_
 simp only [show ¬ ((i:Int) < 0) from by omega,if_false,Int.toNat_natCast,Array.getElem?_eq_none hi]; refine wpAny_bind ?_
 first | refine wpAny_bind (wpAny_typeNameOfWhole_valiter t.typeIs (wpAny_pure ?_)) | refine wpAny_bind (wpAny_typeNameOf_valiter t.typeIs (wpAny_pure ?_))
 show wpAny _ _ (setField (.ref it) 0 .none >>= _) _ _ s; refine wpAny_bind (wpAny_setField ho hd (by simp) ?_)
 show wpAny _ _ (newExc (.type "StopIteration") [] >>= _) _ _ _; refine wpAny_bind ?_; simp only [newExc,newTuple]; refine wpAny_bind (wpAny_newObj_type ?_ (by size_fits))
 refine wpAny_bind (m:=firstArgMember _ _) (wpAny_of_eq (a:=Value.none) (by first | rfl | (simp only [firstArgMember]; rfl)) (wpAny_newObj_type ?_ (by size_fits)))
 simp only [raiseNew]; refine wpAny_bind (wpAny_handled ?_); rw [show A.in1.handled=none from hh]; refine wpAny_bind (wpAny_pure (wpAny_throw ?_))
 exact wpAny_bind (wpAny_isInstance (T:="StopIteration") (b:=true) ⟨_,Heap.get?_push_size _ rfl,rfl⟩ isSubtype_stop (wpAny_pure (q _ (((Heap.SameBut.update ..).extBut.push _).push _))))
theorem raw_iter {Q:Value→Shared→Prop} (hd:(d == sysModules)=false) (m:RawD s.heap d es ep) (q:Q (.ref s.heap.objs.size) { s with heap:=s.heap.push { cls:=.type "dict_keyiterator",data:=.fields #[.ref d,.int 0 0,.int es.size 0,.int ep 0] } }) :
  wpAny (model prog w) A (pyIter (.ref d)) Q E s:=by
 obtain ⟨o,ho,hx,hdd⟩:=m
 have ty:s.TypeIs (.ref d) "dict":=⟨o,ho,hx.1⟩
 refine wpAny_pyIter_slot ty F.slot_dict_iter (wpAny_call_entry F.slot_dict_iter ty F.entry_dict_iter ?_ (F.args_dict_iter_1 _))
 unfold Builtin.«dict.__iter__»; refine wpAny_bind ?_; unfold Builtin.Dict.dictSlotNone; refine wpAny_bind (wpAny_notOrdered_dict ty ?_)
 show wpAny _ _ (pure (Value.ref d)) _ _ s; refine wpAny_pure ?_; show wpAny _ _ (Builtin.Dict.showsAll d >>= _) _ _ s; unfold Builtin.Dict.showsAll
 rw [if_neg (by rw [hd]; exact Bool.false_ne_true)]; refine wpAny_bind (wpAny_pure (wpAny_bind (wpAny_dictEntries ho hdd (wpAny_bind (wpAny_dictEpoch ho hdd ?_)))))
 refine wpAny_bind (wpAny_newObj_type (wpAny_pure ⟨_,rfl,"dict_keyiterator",_,⟨_,Heap.get?_push_size _ rfl,rfl⟩,F.slot_dict_keyiterator_next.lookup,?_⟩)); simpa [rawInt] using q
theorem raw_values (d:Addr) (hd:(d == sysModules)=false) (es:Array DictEntry) (ep:Nat):MeetsIn prog w (Builtin.«dict.values» ⟨[.ref d],[]⟩) (fun _ R s=>RawD s.heap d es ep∧R (.ok (.ret (.ref s.heap.objs.size))) { s with heap:=s.heap.push { cls:=.type "dict_values",data:=.fields #[.ref d] } }) :=
 .of_wp fun A R s ⟨⟨o,ho,hx,hdd⟩,h⟩=>by
  have ty:s.TypeIs (.ref d) "dict":=⟨o,ho,hx.1⟩
  refine wpAny_bind ?_; unfold Builtin.Dict.noArgs; refine wpAny_bind (wpAny_notOrdered_dict ty ?_); show wpAny _ _ (pure d) _ _ s; refine wpAny_pure ?_
  show wpAny _ _ (Builtin.Dict.showsAll d >>= _) _ _ s; unfold Builtin.Dict.showsAll; rw [if_neg (by rw [hd]; exact Bool.false_ne_true)]; exact wpAny_bind (wpAny_pure (wpAny_bind (wpAny_newObj_type (wpAny_pure ⟨_,rfl,h⟩))))
theorem raw_vals_iter {v:Addr} {Q:Value→Shared→Prop} (hv:s.heap.IsValuesView v d) (m:RawD s.heap d es ep) (q:Q (.ref s.heap.objs.size) { s with heap:=s.heap.push { cls:=.type "dict_valueiterator",data:=.fields #[.ref d,.int 0 0,.int es.size 0,.int ep 0] } }) :
  wpAny (model prog w) A (pyIter (.ref v)) Q E s:=by
 obtain ⟨ov,hov,hcv,hdv⟩:=id hv
 obtain ⟨o,ho,hx,hdd⟩:=m
 refine wpAny_pyIter_slot hv.typeIs F.slot_dict_values_iter (wpAny_call_entry F.slot_dict_values_iter hv.typeIs F.entry_dict_values_iter ?_ (F.args_dict_values_iter_1 _)); unfold Builtin.«dict_values.__iter__»
 refine wpAny_bind (wpAny_pure (wpAny_bind ?_)); unfold Builtin.Dict_items.dictOf; refine wpAny_bind (wpAny_field hov hdv (x:=.ref d) rfl (wpAny_pure (wpAny_bind ?_))); unfold Builtin.Dict_items.newIterator
 refine wpAny_bind (wpAny_dictEntries ho hdd (wpAny_bind (wpAny_dictEpoch ho hdd ?_)))
 have ow:Builtin.Dict_items.ownsTuple "dict_valueiterator"=false:=by decide
 simp only [ow,Bool.false_eq_true,if_false]; refine wpAny_newObj_type (wpAny_pure ⟨_,rfl,"dict_valueiterator",_,⟨_,Heap.get?_push_size _ rfl,rfl⟩,F.slot_dict_valueiterator_next.lookup,?_⟩); simpa [rawInt] using q
theorem Walks.rawVals (hh:A.handled=none) (I d:Addr) (hne:d ≠ I) (es:Array DictEntry) (ep:Nat):Walks prog w A I [I,d] [I] es.size (fun i v=>∃ h:i < es.size,v=es[i].val) (fun i h=>h.IsValIter I d i es.size ep∧RawD h d es ep) where
 sub:=fun b hb=>by simp at hb; simp [hb]
 frame:=fun _ _ _ st hk=>⟨let ⟨o,e,r⟩:=st.1; ⟨o,hk I (by simp) o e,r⟩,st.2.at fun o e=>hk d (by simp) o e⟩
 item:=fun i s Q E hi st hQ=>raw_val st.1 st.2 hi fun g t' sb=>hQ _ g s.toks ⟨hi,rfl⟩ ⟨t',st.2.at fun o e=>sb.extBut d o hne e⟩ fun b o hb e=>sb.extBut b o (fun h=>hb (by simp [h])) e
 done:=fun s Q E st hQ=>raw_val_end hh st.1 st.2 (Nat.le_refl _) fun g eb=>hQ g s.toks fun b o hb e=>eb b o (fun h=>hb (by simp [h])) e
 self:=fun _ s _ _ st hQ=>wpAny_pyIter_valiter (s:=s) st.1 hQ
end
end PySem
namespace L2
open PySem PySem.Spec PyProof.Rows KG
section
variable {X:Cx}
theorem dt_raw {pins:List (Addr × Obj)} {σ:St} {H:Hp} {s:Shared} {a:Addr} {kvs:List (List Key × V)} (I:Inv X pins σ H s) (ha:Rd H a (.dT kvs)) :
  kvs.length ≤ sizeLine∧(a == sysModules)=false∧∃ xs es ep,KT H kvs xs∧RawD s.heap a es ep∧es.toList=xs.map (entryOfKey (tupleKind (jc4 X.prog X.w))):=by
 obtain ⟨z,hd,xs,rel,o,es,ep,h1,h2,h3,h4,_⟩:=dt_rd I.hok ha
 exact ⟨z,hd,xs,es,ep,rel,⟨o,h1,h2,h3⟩,h4⟩
theorem kt_at {H:Hp}:∀ {kvs:List (List Key × V)} {xs:List (List Key × Addr × Value)} {i:Nat} {x:List Key × Addr × Value},KT H kvs xs→xs[i]?=some x→∃ p,kvs[i]?=some p∧p.1=x.1∧H x.2.1=some (.tup (p.1.map kV))∧RelV p.2 x.2.2
 | _,_,_,_,.nil,h=>by simp at h
 | _,_,0,x,.cons (a:=p) hq _,h=>by
  have e:=Option.some.inj (show some _=some x from h)
  subst e
  exact ⟨p,rfl,hq⟩
 | _,_,i + 1,x,.cons _ t,h=>by
  obtain ⟨p,h1,h2⟩:=kt_at (i:=i) t (by simpa using h)
  exact ⟨p,by simpa using h1,h2⟩
theorem kt_len {H:Hp} {kvs:List (List Key × V)} {xs:List (List Key × Addr × Value)} (h:KT H kvs xs):kvs.length=xs.length:=Paired.length h
def rValuesT:V→List V→Hp→VK→Prop:=fun x xs H Q=>∃ a kvs,x=.ref a∧xs=[]∧H a=some (.dT kvs)∧∀ v,H v=none→Q (.ref v) (upd H v (viewOf v a))
theorem mt_valuesT:MtR X "dict.values" rValuesT:=by
 intro pins s σ H x xs v us Q I r rs h
 obtain ⟨a,kvs,rfl,rfl,ha,q⟩:=h
 cases rs
 cases r
 obtain ⟨z,hd,xs,es,ep,rel,raw,_⟩:=dt_raw I (.inl ha)
 have ty:s.TypeIs (.ref a) "dict":=let ⟨o,ho,hx,_⟩:=raw; ⟨o,ho,hx.1⟩
 refine call_meetsIn PySem.F.slot_dict_values ty PySem.F.entry_dict_values (PySem.F.args_dict_values_1 _) (raw_values a hd es ep) ⟨raw,?_⟩
 have hv:(s.heap.push { cls:=.type "dict_values",data:=.fields #[.ref a] }).IsValuesView s.heap.objs.size a:=⟨_,Heap.get?_push_size _ rfl,rfl,rfl⟩
 refine ⟨.ref s.heap.objs.size,_,I.laid (t':=s.toks) (o:=viewOf s.heap.objs.size a) (fun _ _ q=>Heap.get?_push_of_some _ q) (Nat.le_refl _) ⟨hv,⟨_,Heap.get?_push_size _ rfl⟩,fun h1 h2 w1 hk=>?_⟩,rfl,q _ I.fresh⟩
 obtain ⟨o,e,c⟩:=w1
 exact ⟨o,hk o e,c⟩
theorem call_max_valuesT (hc:X.calm=true):CallR X (.builtin "max") (fun xs H Q=>∃ v a kvs ns,xs=[.ref v]∧H v=some (viewOf v a)∧Rd H a (.dT kvs)∧kvs.map (·.2)=ns.map V.int∧ns ≠ []∧∀ m,m ∈ ns→(∀ n ∈ ns,n ≤ m)→Q (.int m) H):=by
 intro pins s σ H xs us Q I r h
 obtain ⟨v,a,kvs,ns,rfl,hv,ha,hns,hne,q⟩:=h
 obtain ⟨u,rfl,ru⟩:=vals1 r
 cases ru
 obtain ⟨z,hd,xs,es,ep,rel,raw,hes⟩:=dt_raw I ha
 have hview:s.heap.IsValuesView v a:=(I.hok v _ hv).1
 have hsz:es.size=xs.length:=by have:=congrArg List.length hes; simpa using this
 have hlk:=kt_len rel
 have hln:kvs.length=ns.length:=by have:=congrArg List.length hns; simpa using this
 have hpos:0 < ns.length:=List.length_pos_iff.mpr hne
 have hda:a < s.heap.objs.size:=by obtain ⟨o,e,_⟩:=raw; exact Heap.lt_size e
 have val:∀ (i:Nat) (x:Value),(∃ h:i < es.size,x=es[i].val)→∃ t,x=Value.int ((ns[i]?).getD 0) t:=fun i x hx=>by
  obtain ⟨hi,rfl⟩:=hx
  have hix:i < xs.length:=by omega
  obtain ⟨p,h1,h2,h3,h4⟩:=kt_at rel (List.getElem?_eq_getElem hix)
  have e1:es[i].val=xs[i].2.2:=by
   have h5:es.toList[i]?=some (entryOfKey (tupleKind (jc4 X.prog X.w)) xs[i]):=by rw [hes,List.getElem?_map,List.getElem?_eq_getElem hix]; rfl
   rw [Array.getElem?_toList,Array.getElem?_eq_getElem hi] at h5
   rw [Option.some.inj h5]; rfl
  have e2:=congrArg (fun l=>l[i]?) hns
  simp only [List.getElem?_map,h1,Option.map_some] at e2
  cases e3:ns[i]? with
  | none=>rw [e3] at e2; cases e2
  | some n =>
   rw [e3] at e2
   simp only [Option.map_some,Option.some.injEq] at e2
   rw [e2] at h4
   rw [e1]; exact h4
 refine call_max_walk (raw_vals_iter hview raw ?_)
 refine ⟨s.heap.objs.size,[s.heap.objs.size,a],[s.heap.objs.size],es.size,_,_,(fun i j=>decide ((ns[i]?).getD 0 > (ns[j]?).getD 0)),rfl,Walks.rawVals (A:=X.A.in1) (I.ok.hd hc) s.heap.objs.size a (Nat.ne_of_lt hda) es ep,
  ⟨⟨_,Heap.get?_push_size _ rfl,rfl,rfl⟩,raw.at fun o e=>Heap.get?_push_of_some _ e⟩,fun b hb=>?_,by omega,CmpOf.ints_gt (fun i=>(ns[i]?).getD 0) val,fun x h' tk hP kk=>?_⟩
 ·rw [Heap.size_push]
  simp only [List.mem_cons,List.not_mem_nil,or_false] at hb
  rcases hb with rfl | rfl
  ·exact Nat.lt_succ_self _
  ·exact Nat.lt_succ_of_lt hda
 obtain ⟨t,rfl⟩:=val _ _ hP
 obtain ⟨h1,h2⟩:=argBest_gt (fun i=>(ns[i]?).getD 0) (es.size - 1)
 generalize argBest (fun i j=>decide ((ns[i]?).getD 0 > (ns[j]?).getD 0)) (es.size - 1)=ab at h1 h2 ⊢
 have hlt:ab < ns.length:=by omega
 refine ⟨.int ((ns[ab]?).getD 0),H,I.kept (t':=tk) fun b o e=>kk b o (fun z=>?_) (Heap.get?_push_of_some _ e),⟨t,rfl⟩,q _ ?_ fun n hn=>?_⟩
 ·have:=Heap.lt_size e
  simp at z
  rw [z] at this; exact Nat.lt_irrefl _ this
 ·rw [List.getElem?_eq_getElem hlt]; exact List.getElem_mem hlt
 ·obtain ⟨j,hj,rfl⟩:=List.getElem_of_mem hn
  have:=h2 j (by omega)
  rw [List.getElem?_eq_getElem hj] at this
  exact this
end
end L2
namespace L2
open PySem PySem.Spec PyProof.Rows KG
section
variable {X:Cx}
theorem Inv.freezeT {pins:List (Addr × Obj)} {σ:St} {H:Hp} {s:Shared} {a:Addr} {kvs:List (List Key × V)} {o:Obj} (I:Inv X pins σ H s) (ha:H a=some (.dT kvs)) (ho:s.heap.get? a=some o):Inv X pins σ (upd H a (.frz o (.dT kvs))) s:=by
 refine I.write (x:=a) (e:=a) (t':=s.toks) (h':=s.heap) (by rw [ha]; exact True.intro) (.inl rfl) (fun _ _ _ e=>e) ⟨o,ho⟩ ⟨ho,?_⟩
 obtain ⟨z,hd,xs,rel,r⟩:=(show ObjOk X.prog X.w H s.heap a (.dT kvs) from I.hok a _ ha)
 exact ⟨z,hd,xs,KT.keeps rel fun b ys e=>by rw [jb5 (ne_of e ha (by intro z; cases z))]; exact e,r⟩
def ItdT (a:Addr) (o:Obj) (kvs:List (List Key × V)):It :=
 ⟨fun i H=>H a=some (.frz o (.dT kvs))∧i < kvs.length,fun i H x H'=>H'=H∧∃ b k v,kvs[i]?=some (k,v)∧x=.ref b∧H b=some (.tup (k.map kV)),fun i H=>H a=some (.frz o (.dT kvs))∧kvs.length ≤ i⟩
theorem dictT_frz {pins:List (Addr × Obj)} {σ:St} {H:Hp} {s:Shared} {a:Addr} {o:Obj} {es0:Array DictEntry} {ep:Nat} {kvs:List (List Key × V)} (I:Inv X pins σ H s) (hg:H a=some (.frz o (.dT kvs))) (hep:o.data=.dict es0 ep) :
  ∃ xs,KT H kvs xs∧RawD s.heap a es0 ep∧es0.toList=xs.map (entryOfKey (tupleKind (jc4 X.prog X.w))):=by
 obtain ⟨z,hd,xs,es,ep',rel,⟨o',ho',hx,hdat⟩,hes⟩:=dt_raw I (.inr ⟨o,hg⟩)
 obtain ⟨ho,_⟩:=I.hok a _ hg
 have:o'=o:=by rw [ho] at ho'; exact (Option.some.inj ho').symm
 subst this
 rw [hep] at hdat
 injection hdat with h1 h2
 subst h1 h2
 exact ⟨xs,rel,⟨o',ho',hx,hep⟩,hes⟩
theorem turn_dictT {P:Program} {w:World} {K:PySem.W.Frag} {tg:Expr} (a it:Addr) (o:Obj) (kvs:List (List Key × V)) (es0:Array DictEntry) (ep:Nat) (hep:o.data=.dict es0 ep) (hl0:es0.size=kvs.length):Turn P w K tg (ItdT a o kvs) [it] it (fun i h=>h.IsKeyIter it a i es0.size ep) where
 mem:=by simp
 obj:=fun i h st b hb=>by
  obtain rfl:b=it:=by simpa using hb
  obtain ⟨o',e,c,d⟩:=st
  exact ⟨o',e,fun v z=>by rw [d] at z; cases z⟩
 keep:=fun i h h' st k=>st.at fun o e=>k it (by simp) o e
 item:=by
  intro X hP hw hK hc i pins s σ H E I hf st hg
  subst hP hw hK
  obtain ⟨hg,hi⟩:=hg
  obtain ⟨xs,rel,raw,hes⟩:=dictT_frz I hg hep
  obtain ⟨f0,f1,f2,f3,f4,f5⟩:=hf it (by simp)
  have hi0:i < es0.size:=by omega
  refine raw_key st raw hi0 fun h' st' sb=>?_
  have I1:Inv X pins σ H { s with heap:=h' }:=I.turned (t':=s.toks) (fun b o hb e=>(sb.2 b hb).trans e) f0 f1 f3 f4 f5
  obtain ⟨o1,e1,c1,d1⟩:=id st'
  have hix:i < xs.length:=by rw [← kt_len rel]; exact hi
  obtain ⟨p,h1,h2,h3,h4⟩:=kt_at rel (List.getElem?_eq_getElem hix)
  have ek:es0[i].key=.ref xs[i].2.1:=by
   have h5:es0.toList[i]?=some (entryOfKey (tupleKind (jc4 X.prog X.w)) xs[i]):=by rw [hes,List.getElem?_map,List.getElem?_eq_getElem hix]; rfl
   rw [Array.getElem?_toList,Array.getElem?_eq_getElem hi0] at h5
   rw [Option.some.inj h5]; rfl
  refine ⟨es0[i].key,rfl,go_of (s:={ s with heap:=h' }) e1 c1 d1 (by decide) ⟨.ref xs[i].2.1,H,I1,ek,⟨rfl,xs[i].2.1,p.1,p.2,h1,rfl,h3⟩,st',fun b hb=>(hf b hb).1⟩⟩
 done:=by
  intro X hP hw hK hc i pins s σ H E I hf st hg
  subst hP hw hK
  obtain ⟨hg,hi⟩:=hg
  obtain ⟨xs,rel,raw,hes⟩:=dictT_frz I hg hep
  obtain ⟨f0,f1,f2,f3,f4,f5⟩:=hf it (by simp)
  exact raw_key_end (I.ok.hd hc) st raw (by omega) fun h' eb=>⟨rfl,I.turned (t':=s.toks) (fun b o hb e=>eb b o hb e) f0 f1 f3 f4 f5⟩
 self:=fun _ _ _ _ _ st h=>wpAny_pyIter_keyiter st h
def iDictT (td:TE):TI:=fun σ H R=>td σ H fun x H1=>∃ a kvs,x=.ref a∧H1 a=some (.dT kvs)∧∀ o,R (ItdT a o kvs) (upd H1 a (.frz o (.dT kvs)))
theorem pi_dictT {tg l:Expr} {td:TE} (hl:PE X l td):PI X tg l (iDictT td):=by
 intro pins s σ H R I h
 refine thn (hl pins s σ H _ I h) fun v s1 ⟨x,H1,I1,r1,q1⟩=>?_
 obtain ⟨a,kvs,e,ha,q⟩:=q1
 subst e
 cases r1
 obtain ⟨z,hd,xs,es,ep,rel,raw,hes⟩:=dt_raw I1 (.inl ha)
 obtain ⟨o,ho,hx,hdat⟩:=id raw
 refine raw_iter hd raw ?_
 have I2:=I1.freezeT ha ho
 have hsz:es.size=kvs.length:=by have:=congrArg List.length hes; rw [kt_len rel]; simpa using this
 refine ⟨s1.heap.objs.size,[s1.heap.objs.size],_,ItdT a o kvs,_,rfl,I2.kept (t':=s1.toks) fun b o e=>Heap.get?_push_of_some _ e,turn_dictT a _ o kvs es ep hdat hsz,⟨_,Heap.get?_push_size _ rfl,rfl,rfl⟩,fun b hb=>?_,q o⟩
 obtain rfl:b=s1.heap.objs.size:=by simpa using hb
 exact I2.fpOk (Nat.le_refl _) (I2.hok.fresh (Nat.le_refl _))
end
section
variable {K:PySem.W.Frag} {tt:TT} {te tk tv:TE} {acc a b:Addr} {xs ys:List V} {σ₀:St} {H₀:Hp} {Q:VK} {o:Obj} {kvs:List (List Key × V)}
theorem comp_dictT (Pv:Nat→List V→Hp→Prop) (h0:Pv 0 [] (upd H₀ acc (.lst []))) (hl:∀ (i:Nat) zs H,i ≤ kvs.length→H acc=some (.lst zs)→Pv i zs H→H a=some (.frz o (.dT kvs)))
  (hs:∀ (i:Nat) k v b zs H,kvs[i]?=some (k,v)→H b=some (.tup (k.map kV))→H acc=some (.lst zs)→Pv i zs H→tt (σ₀.set 0 (some (.ref b))) H fun c H4 =>
   if c=true then te (σ₀.set 0 (some (.ref b))) H4 fun y H5=>∃ us,H5 acc=some (.lst us)∧us.length < sizeLine∧Cn σ₀ acc (Pv (i + 1)) (σ₀.set 0 (some (.ref b))) (upd H5 acc (.lst (us ++ [y]))) else Cn σ₀ acc (Pv (i + 1)) (σ₀.set 0 (some (.ref b))) H4)
  (hd:∀ zs H,H acc=some (.lst zs)→Pv kvs.length zs H→Q (.ref acc) H):tCompN (gName 0) tt te (ItdT a o kvs) acc σ₀ H₀ Q:=by
 refine ⟨fun i m σ H=>m=kvs.length - i∧i ≤ kvs.length∧Cn σ₀ acc (Pv i) σ H,⟨kvs.length,by simp,Nat.zero_le _,fun _=>rfl,[],ja1,h0⟩,?_⟩
 rintro i m σ H ⟨rfl,hi,hσ,zs,hy,p⟩
 have q:=hl i zs H hi hy p
 by_cases hlt:i < kvs.length
 ·refine .inr ⟨⟨q,hlt⟩,Cn σ₀ acc (Pv (i + 1)),fun σ' H' c=>⟨kvs.length - (i + 1),by omega,rfl,hlt,c⟩,fun x H' y=>?_⟩
  obtain ⟨e,b,k,v,hk,ek,hb⟩:=y
  subst e ek
  show tt (σ.set 0 _) _ _
  rw [hσ]
  exact hs i k v b zs _ hk hb hy p
 ·have e:i=kvs.length:=by omega
  subst e
  exact .inl ⟨⟨q,Nat.le_refl _⟩,hd zs H hy p⟩
end
end L2
namespace PySem
section
variable {prog:Program} {w:World} {A:Around} {I:Addr} {fp wr:List Addr} {n:Nat} {P:Nat→Value→Prop} {St:Nat→Heap→Prop}
theorem key_min_loop (W:Walks prog w A.in1 I fp wr n P St) (kf:Nat→Int) (S:Addr) (hSf:S ∉ fp) (J:Heap→Prop)
  (hJ:∀ h h',J h→(∀ b o,b ∉ wr→b ≠ S→h.get? b=some o→h'.get? b=some o)→J h')
  (hkey:∀ i v (s:Shared) (Q:Value→Shared→Prop) (E:Value→Shared→Prop),P i v→J s.heap→(∀ t tk,Q (.int (kf i) t) { s with toks:=tk })→wpAny (model prog w) A.in1 (call (.builtin "len") [v]) Q E s) {R:Result→Shared→Prop} :
  ∀ (r j i:Nat) (s:Shared) (vb:Value) (tb:Tok) (c:Nat),n - (j + 1)=r→j + 1 ≤ n→St (j + 1) s.heap→J s.heap→P i vb→i ≤ j→(∀ j',j' ≤ j→(kf i) ≤ (kf j')∧(j' < i→(kf i) < (kf j'))) →
   s.heap.get? S=some { cls:=.type "list",data:=.seq #[vb,.int (kf i) tb] c } →
   (∀ i v h' tk,P i v→i < n→(∀ j,j < n→(kf i) ≤ (kf j)∧(j < i→(kf i) < (kf j)))→(∀ b o,b ∉ wr→b ≠ S→s.heap.get? b=some o→h'.get? b=some o)→R (.ok (.ret v)) { s with heap:=h',toks:=tk }) →
   codeAny (model prog w) A (.builtin "min.loop" ⟨[.ref I,.builtin "len",.ref S],[]⟩) R s:=by
 have hname:(toString "min" ++ toString ".loop" : String)="min.loop":=by decide
 have hSw:S ∉ wr:=fun h=>hSf (W.sub _ h)
 intro r
 induction r with
 | zero =>
  intro j i s vb tb c hr hj hst hJs hvb hij hbest hS hR
  have hin:j + 1=n:=by omega
  refine codeAny_builtin F.entry_min_loop ?_
  rw [Around.under_plainId F.plain_min_loop _]; show wpAny _ A.in1 (seqItems? (.ref S) >>= _) _ _ _; refine wpAny_bind (wpAny_seqItems hS rfl ?_)
  show wpAny _ A.in1 (tryCatch (pyNext (.ref I)) _ >>= _) _ _ _; refine wpAny_bind (wpAny_tryCatch (W.done _ _ _ (by rw [← hin]; exact hst) fun h' tk' hk'=>?_))
  have hS':=hk' S _ hSw hS
  show wpAny _ A.in1 (updateSeq S (fun _=>#[]) >>= _) _ _ _; refine wpAny_bind (wpAny_updateSeq hS' rfl (wpAny_bind (wpAny_letGo (wpAny_pure ?_))))
  exact hR i vb _ _ hvb (by omega) (fun j' hj'=>hbest j' (by omega)) fun b o hb hbS e=>(Heap.get?_update_other _ _ (Ne.symm hbS)).trans (hk' b o hb e)
 | succ r ih =>
  intro j i s vb tb c hr hj hst hJs hvb hij hbest hS hR
  have hlt:j + 1 < n:=by omega
  refine codeAny_builtin F.entry_min_loop ?_
  rw [Around.under_plainId F.plain_min_loop _]; show wpAny _ A.in1 (seqItems? (.ref S) >>= _) _ _ _; refine wpAny_bind (wpAny_seqItems hS rfl ?_)
  show wpAny _ A.in1 (tryCatch (pyNext (.ref I)) _ >>= _) _ _ _; refine wpAny_bind (wpAny_tryCatch (W.item (j + 1) _ _ _ hlt hst fun v h' tk' hP hst' hk'=>?_))
  have hS':=hk' S _ hSw hS
  have hJ':=hJ _ h' hJs fun b o hb _ e=>hk' b o hb e
  have step:∀ (h2:Heap) (tk2:Nat) (i2:Nat) (v2:Value) (t2:Tok) (c2:Nat),St (j + 1 + 1) h2→J h2→P i2 v2→i2 ≤ j + 1→(∀ j',j' ≤ j + 1→(kf i2) ≤ (kf j')∧(j' < i2→(kf i2) < (kf j'))) →
    h2.get? S=some { cls:=.type "list",data:=.seq #[v2,.int (kf i2) t2] c2 }→(∀ b o,b ∉ wr→b ≠ S→h'.get? b=some o→h2.get? b=some o) →
    codeAny (model prog w) A (.builtin "min.loop" ⟨[.ref I,.builtin "len",.ref S],[]⟩) R { s with heap:=h2,toks:=tk2 }:=fun h2 tk2 i2 v2 t2 c2 a1 a2 a3 a4 a5 a6 a7 =>
   ih (j + 1) i2 { s with heap:=h2,toks:=tk2 } v2 t2 c2 (by omega) hlt a1 a2 a3 a4 a5 a6 fun i3 v3 h3 tk3 b1 b2 b3 b4=>hR i3 v3 h3 tk3 b1 b2 b3 fun b o hb hbS e=>b4 b o hb hbS (a7 b o hb hbS (hk' b o hb e))
  show wpAny _ A.in1 (tryCatch (holding [v] (call (.builtin "len") [v])) _ >>= _) _ _ _
  refine wpAny_bind (wpAny_tryCatch (wpAny_holding (hkey (j + 1) v _ _ _ hP hJ' fun t2 tk2=>?_)))
  show wpAny _ A.in1 (tryCatch (holding [v,.int (kf (j + 1)) t2] (richCompare .Lt (.int (kf (j + 1)) t2) (.int (kf i) tb) >>= _)) _ >>= _) _ _ _
  refine wpAny_bind (wpAny_tryCatch (wpAny_holding (wpAny_bind (CmpOf.ints_lt (prog:=prog) (w:=w) (A:=A.in1) (P:=fun i v=>∃ t,v=.int (kf i) t) kf (fun i v h=>h) (j + 1) i _ _ _ _ _ ⟨t2,rfl⟩ ⟨tb,rfl⟩ ?_))))
  refine wpAny_bind (wpAny_holding (wpAny_truthy_bool (wpAny_bind (wpAny_letGo (wpAny_pure ?_)))))
  by_cases hb':(kf (j + 1)) < (kf i)
  ·simp only [gt_iff_lt,hb',decide_true,if_true]
   refine wpAny_bind (wpAny_updateSeq hS' rfl (wpAny_bind (wpAny_letGo ?_))); rw [hname]
   refine wpAny_pure ⟨plainId_quiet F.plain_min_loop _,step _ _ (j + 1) v t2 _ (W.frame _ _ _ hst' fun b hbf o e=>(Heap.get?_update_other _ _ (fun h:S=b=>hSf (by rw [h]; exact hbf))).trans e) (hJ _ _ hJ' fun b o _ hbS e=>(Heap.get?_update_other _ _ (Ne.symm hbS)).trans e) hP (Nat.le_refl _) (fun j' hj'=>?_) (Heap.get?_update_self _ hS' rfl) fun b o _ hbS e=>(Heap.get?_update_other _ _ (Ne.symm hbS)).trans e⟩
   by_cases e:j'=j + 1
   ·subst e; exact ⟨by omega,fun _=>by omega⟩
   ·have hb1:=hbest j' (by omega)
    have hb2:=hb1.1
    exact ⟨by omega,fun _=>by omega⟩
  ·simp only [gt_iff_lt,hb',decide_false,Bool.false_eq_true,if_false]
   refine wpAny_bind (wpAny_letGo ?_); rw [hname]
   refine wpAny_pure ⟨plainId_quiet F.plain_min_loop _,step _ _ i vb tb c hst' hJ' hvb (by omega) (fun j' hj'=>?_) hS' fun b o _ _ e=>e⟩
   by_cases e:j'=j + 1
   ·subst e; exact ⟨by omega,fun _=>by omega⟩
   ·exact hbest j' (by omega)
theorem key_min_call {E:Value→Shared→Prop} {s:Shared} {x:Value} {Q:Value→Shared→Prop}
  (h:wpAny (model prog w) A.in1 (pyIter x) (fun it s₂=>∃ (I:Addr) (fp wr:List Addr) (n:Nat) (P:Nat→Value→Prop) (St:Nat→Heap→Prop) (kf:Nat→Int) (J:Heap→Prop),it=.ref I∧Walks prog w A.in1 I fp wr n P St∧St 0 s₂.heap∧(∀ b ∈ fp,b < s₂.heap.objs.size)∧0 < n∧(∀ S,s₂.heap.get? S=none→∀ h h',J h→(∀ b o,b ∉ wr→b ≠ S→h.get? b=some o→h'.get? b=some o)→J h')∧(∀ h',(∀ b o,s₂.heap.get? b=some o→h'.get? b=some o)→J h') ∧
   (∀ i v (s:Shared) (Q:Value→Shared→Prop) (E:Value→Shared→Prop),P i v→J s.heap→(∀ t tk,Q (.int (kf i) t) { s with toks:=tk })→wpAny (model prog w) A.in1 (call (.builtin "len") [v]) Q E s) ∧
   ∀ i v h' tk,P i v→i < n→(∀ j,j < n→(kf i) ≤ (kf j)∧(j < i→(kf i) < (kf j)))→(∀ b o,b ∉ wr→s₂.heap.get? b=some o→h'.get? b=some o)→Q v { s₂ with heap:=h',toks:=tk }) E s) :
  wpAny (model prog w) A (call (.builtin "min") [x] [(Str.ofString "key",.builtin "len")]) Q E s:=by
 have hname:(toString "min" ++ toString ".loop" : String)="min.loop":=by decide
 refine PyProof.Rows.kmk_tree F.kind_min F.plain_min F.entry_min (PyProof.Rows.kmk_min_key _ _) ?_
 show wpAny _ A.in1 (Builtin.Builtins.bindParams "min" ["key","default"] 0 ⟨[],[(Str.ofString "key",.builtin "len")]⟩ >>= _) _ _ s
 refine wpAny_bind (wpAny_of_eq (show Builtin.Builtins.bindParams "min" ["key","default"] 0 ⟨[],[(Str.ofString "key",.builtin "len")]⟩=pure [some (.builtin "len"),none] from rfl) (wpAny_bind (wpAny_pure (wpAny_bind (wpAny_mono h (fun it s₂ h₂=>?_) fun _ _ e=>e)))))
 obtain ⟨I,fp,wr,n,P,St,kf,J,rfl,W,hst,hfp,hn,hJ,hJ0,hkey,hQ⟩:=h₂
 refine wpAny_bind (wpAny_newObj_type ?_)
 have hSf:s₂.heap.objs.size ∉ fp:=fun hm=>Nat.lt_irrefl _ (hfp _ hm)
 have hSw:s₂.heap.objs.size ∉ wr:=fun h=>hSf (W.sub _ h)
 have hSn:s₂.heap.get? s₂.heap.objs.size=none:=by
  cases e:s₂.heap.get? s₂.heap.objs.size with
  | none=>rfl
  | some o=>exact absurd (Heap.lt_size e) (Nat.lt_irrefl _)
 rw [hname]
 refine wpAny_pure ⟨plainId_quiet F.plain_min_loop _,codeAny_builtin F.entry_min_loop ?_⟩
 have gS:(s₂.heap.push { cls:=.type "list",data:=.seq #[] }).get? s₂.heap.objs.size=some { cls:=.type "list",data:=.seq #[] }:=Heap.get?_push_size _ rfl
 have old:∀ b o,s₂.heap.get? b=some o→b ≠ s₂.heap.objs.size:=fun b o e=>Nat.ne_of_lt (Heap.lt_size e)
 rw [Around.under_plainId F.plain_min_loop _]; show wpAny _ A.in1 (seqItems? (.ref _) >>= _) _ _ _; refine wpAny_bind (wpAny_seqItems gS rfl ?_)
 show wpAny _ A.in1 (tryCatch (pyNext (.ref I)) _ >>= _) _ _ _
 refine wpAny_bind (wpAny_tryCatch (W.item 0 _ _ _ hn (W.frame _ _ _ hst fun b _ o e=>Heap.get?_push_of_some _ e) fun v h' tk' hP hst' hk'=>?_))
 have hS':=hk' _ _ hSw gS
 have hJ':J h':=hJ _ hSn _ h' (hJ0 _ fun b o e=>Heap.get?_push_of_some _ e) fun b o hb _ e=>hk' b o hb e
 show wpAny _ A.in1 (tryCatch (holding [v] (call (.builtin "len") [v])) _ >>= _) _ _ _
 refine wpAny_bind (wpAny_tryCatch (wpAny_holding (hkey 0 v _ _ _ hP hJ' fun t2 tk2=>?_)))
 show wpAny _ A.in1 (updateSeq s₂.heap.objs.size (fun _=>#[v,.int (kf 0) t2]) >>= _) _ _ _
 refine wpAny_bind (wpAny_updateSeq hS' rfl ?_); rw [hname]
 refine wpAny_pure ⟨plainId_quiet F.plain_min_loop _,key_min_loop W kf _ hSf J (hJ _ hSn) hkey _ 0 0 _ v t2 _ rfl hn (W.frame _ _ _ hst' fun b hbf o e=>(Heap.get?_update_other _ _ (fun h:s₂.heap.objs.size=b=>hSf (by rw [h]; exact hbf))).trans e) (hJ _ hSn _ _ hJ' fun b o _ hbS e=>(Heap.get?_update_other _ _ (Ne.symm hbS)).trans e) hP (Nat.le_refl _) (fun j' hj'=>?_) (Heap.get?_update_self _ hS' rfl) fun i3 v3 h3 tk3 b1 b2 b3 b4=>?_⟩
 ·obtain rfl:j'=0:=by omega
  exact ⟨by omega,fun h=>absurd h (by omega)⟩
 ·exact hQ i3 v3 h3 tk3 b1 b2 b3 fun b o hb e=>b4 b o hb (old b o e) ((Heap.get?_update_other _ _ (Ne.symm (old b o e))).trans (hk' b o hb (Heap.get?_push_of_some _ e)))
end
end PySem
namespace L2
open PySem PySem.Spec PyProof.Rows
def tDCompTN (g:TG) (tt:TT) (tk tv:TE) (J:It) (acc:Addr) (σ₀:St) (H₀:Hp) (Q:VK):Prop :=
 ∃ W:Nat→Nat→St→Hp→Prop,(∃ m,W 0 m σ₀ (upd H₀ acc (.dT [])))∧∀ i m σ' H',W i m σ' H' →
  (J.stop i H'∧Q (.ref acc) H') ∨
  (J.go i H'∧∃ N:St→Hp→Prop,(∀ σ2 H2,N σ2 H2→∃ m',m' < m∧W (i + 1) m' σ2 H2)∧∀ x H2,J.yld i H' x H2→g x σ' H2 fun σ3 H3=>tt σ3 H3 fun b H4 =>
   if b=true then tk σ3 H4 fun kx H5=>tv σ3 H5 fun y H6=>∃ kvs k b,H6 acc=some (.dT kvs)∧kx=.ref b∧H6 b=some (.tup (k.map kV))∧kvs.length < sizeLine∧N σ3 (upd H6 acc (.dT (putK kvs k y))) else N σ3 H4)
def tDCompT (wi:TI) (g:TG) (tt:TT) (tk tv:TE) (own:Nat) (ix:List Nat):TE:=fun σ H Q=>wi σ H fun J H1=>∀ acc,H1 acc=none→tDCompTN g tt tk tv J acc (blkσ own ix σ) H1 Q
theorem d_dictSetT {X:Cx} {pins:List (Addr × Obj)} {σ:St} {H:Hp} {s:Shared} {a b:Addr} {v:V} {r:Value} {A:Around} {E:Value→Shared→Prop} {kvs:List (List Key × V)} {k:List Key} {Q:Unit→Shared→Prop} (hu:(tupleKind (jc4 X.prog X.w)).room A) (I:Inv X pins σ H s)
  (e:H a=some (.dT kvs)) (eb:H b=some (.tup (k.map kV))) (rv:RelV v r) (l:kvs.length < sizeLine) (h:∀ s',Inv X pins σ (upd H a (.dT (putK kvs k v))) s'→Q () s'):wpAny (model X.prog X.w) A (dictSet a (.ref b) r) Q E s:=by
 obtain ⟨z,hd,xs,rel,dd⟩:=dt_of I.hok e
 have hz:xs.length ≤ sizeLine:=by rw [← Paired.length rel]; exact z
 have hl:(putK kvs k v).length ≤ sizeLine:=by have:=length_putK kvs k v; omega
 refine wpAny_dictSet_heap (hsz:=hz) hu (key_of I.hok eb) dd fun h' dd' hs=>h _ ?_
 obtain ⟨q,es,ep,hq,h2,h3,h4,_,h5⟩:=dd'
 refine d_write I (by rw [e]; exact True.intro) hs ⟨q,hq⟩ ⟨hl,hd,_,(rel.put k eb rv).keeps fun c ys ec=>?_,q,es,ep,hq,h2,h3,h4,h5⟩
 rw [jb5 (ne_of ec e (fun z=>nomatch z))]
 exact ec
section
variable {X:Cx} {scope:Scope} {own cap:List Str} {ix:List Nat} {tg iter kx vx:Expr} {ifs:List Expr} {wi:TI} {g:TG} {tt:TT} {tk tv:TE} {pos:Pos}
theorem dcompT_core {pins:List (Addr × Obj)} {σ:St} {H2:Hp} {s2:Shared} {it:Addr} {fp:List Addr} {tn:Nat→Heap→Prop} {J:It} {Q:VK} {RR:Value→Addr→Result→Shared→Prop} {E:Value→Shared→Prop}
  (hu:(tupleKind (jc4 X.prog X.w)).room X.A) (B:BlkOk X scope own cap ix) (hc:X.calm=true)
  (hb:∀ C fp s H,PG (cxC X scope C (own ++ cap) fp s H) tg g∧PIfs (cxC X scope C (own ++ cap) fp s H) ifs tt∧PE (cxC X scope C (own ++ cap) fp s H) kx tk∧PE (cxC X scope C (own ++ cap) fp s H) vx tv)
  (I2:Inv X pins σ H2 s2) (T:Turn X.prog X.w X.K tg J fp it tn) (st2:tn 0 s2.heap) (f2:∀ b ∈ fp,FpOk X pins H2 b)
  (q:∀ acc,H2 acc=none→tDCompTN g tt tk tv J acc (blkσ own.length ix σ) H2 Q)
  (hRR:∀ D C H' s' m,Inv X pins σ H' s'→Q (.ref D) H'→s'.heap.Ns C m→FpOk X pins H' C→RR (.ref D) C (.ok .next) s') :
  wpAny (model X.prog X.w) X.A newDict (fun acc s₃=>wpAny (model X.prog X.w) X.A (newFunctionEnv scope X.env.globals (cloF X.env scope.names []) [] X.env.qual none .none (some X.env)) (fun cenv s₄ =>
   codeAny (model X.prog X.w) X.A (.compStart (.DictComp kx vx [⟨tg,iter,ifs,0⟩] scope pos) 0 (.ref it) acc { cenv with scope:=relabel scope X.env }) (RR acc cenv.locals) s₄) E s₃) E s2:=by
 refine wpAny_newObj_type (newEnv_comp ?_)
 have I3:Inv X pins σ (upd H2 s2.heap.objs.size (.dT [])) { s2 with heap:=s2.heap.push { cls:=.type "dict",dict:=none,data:=.dict #[] } } :=
  I2.laid (a:=s2.heap.objs.size) (o:=.dT []) (h':=s2.heap.push { cls:=.type "dict",data:=.dict #[] }) (t':=s2.toks) (fun _ _ q=>Heap.get?_push_of_some _ q) (Nat.le_refl _) (dt_empty s2.heap I2.big)
 obtain ⟨W,⟨m0,w0⟩,turn⟩:=q s2.heap.objs.size I2.fresh
 generalize hD:s2.heap.objs.size=D at I3 w0 turn ⊢
 have hlt:∀ b ∈ fp,b < D:=fun b hbm=>by
  obtain ⟨o,e,_⟩:=T.obj 0 _ st2 b hbm
  rw [← hD]; exact Heap.lt_size e
 generalize hs3:({ s2 with heap:=s2.heap.push { cls:=.type "dict",dict:=none,data:=.dict #[] } }:Shared)=s3 at I3 ⊢
 have keep3:∀ b o,s2.heap.get? b=some o→s3.heap.get? b=some o:=fun b o e=>by rw [← hs3]; exact Heap.get?_push_of_some _ e
 have f3:∀ b ∈ fp,FpOk X pins (upd H2 D (.dT [])) b:=fun b hbm=>⟨by rw [jb5 (Nat.ne_of_lt (hlt b hbm))]; exact (f2 b hbm).1,(f2 b hbm).2⟩
 have o3:∀ b ∈ fp,∃ o,s3.heap.get? b=some o:=fun b hbm=>let ⟨o,e,_⟩:=T.obj 0 _ st2 b hbm; ⟨o,keep3 b o e⟩
 have I4:=I3.block B f3 o3
 have st4:tn 0 (pushCells (s3.heap.push { cls:=.type "dict",data:=.dict #[] }) scope.names):=T.keep 0 _ _ st2 fun b _ o e=>pushCells_keeps _ _ b o (Heap.get?_push_of_some _ (keep3 b o e))
 obtain ⟨hg,hif,hek,hev⟩:=hb s3.heap.objs.size fp s3 (upd H2 D (.dT []))
 generalize hX':cxC X scope s3.heap.objs.size (own ++ cap) fp s3 (upd H2 D (.dT []))=X' at I4 hg hif hek hev
 have eP:X'.prog=X.prog:=by rw [← hX']; rfl
 have eW:X'.w=X.w:=by rw [← hX']; rfl
 have eK:X'.K=X.K:=by rw [← hX']; rfl
 have eA:X'.A=X.A:=by rw [← hX']; rfl
 have eE:X'.env=compE scope s3.heap.objs.size X.env:=by rw [← hX']; rfl
 have ex:X'.xe=fun _ _=>False:=by rw [← hX']; rfl
 have hc':X'.calm=true:=by rw [← hX']; exact hc
 have stat:∀ {H':Hp},(∀ b ∈ fp,H' b=none)→∀ b ∈ fp,FpOk X' [] H' b:=fun hn b hbm=>by
  subst hX'
  exact ⟨hn b hbm,(I4.ok.exf b hbm).1,I4.ok.exfs b hbm,.inl hbm,(I4.ok.exf b hbm).2,fun p hp=>absurd (show p ∈ ([]:List (Addr × Obj)) from hp) (by simp)⟩
 have loop:∀ s4:Shared,s4={ s3 with heap:=pushCells (s3.heap.push { cls:=.type "dict",data:=.dict #[] }) scope.names } →
   codeAny (model X.prog X.w) X.A (.compLoop (.DictComp kx vx [⟨tg,iter,ifs,0⟩] scope pos) 0 (.ref it) (.ref D) (compE scope s3.heap.objs.size X.env)) (RR (.ref D) s3.heap.objs.size) s4:=by
  rintro s4 rfl
  refine dcomp_loop (fun n s'=>∃ i σ' H',Inv X' [] σ' H' s'∧tn i s'.heap∧(∀ b ∈ fp,H' b=none)∧W i n σ' H') ?_ m0 ⟨0,_,_,I4,st4,fun b hbm=>(f3 b hbm).1,w0⟩
  rintro n s5 ⟨i,σ5,H5,I5,st5,fr5,w5⟩
  rcases turn i n σ5 H5 w5 with ⟨stop,qn⟩ | ⟨go,N,hN,step⟩
  ·have:=T.done X' eP eW eK hc' i [] s5 σ5 H5 (fun _ _=>False) I5 (stat fr5) st5 stop
   rw [eA] at this
   refine thn this fun r s6 ⟨hr,I6⟩=>?_
   subst hr
   subst hX'
   have J6:Inv X pins σ H5 s6:=I3.call' (ch:=fp) I6.os I6.base I6.hok I6.bare fun b hbm=>⟨(f3 b hbm).2.2.2.1,(f3 b hbm).2.1,(f3 b hbm).2.2.2.2.1,(f3 b hbm).2.2.2.2.2⟩
   obtain ⟨m,hn,_⟩:=I6.loc
   exact hRR D _ H5 s6 m J6 qn hn (I3.fpOk (Nat.le_refl _) I6.free)
  ·have:=T.item X' eP eW eK hc' i [] s5 σ5 H5 (fun _ _=>False) I5 (stat fr5) st5 go
   rw [eA] at this
   refine thn this fun r s6 ⟨u,hr,h6⟩=>?_
   subst hr
   refine thn h6 fun _ s7 ⟨x,H7,I7,r7,y7,st7,fr7⟩=>?_
   have I7':=I7.pinned (stat fr7) (T.obj _ _ st7)
   have a1:=hg _ s7 σ5 H7 x u _ I7' r7 (step x H7 y7)
   rw [eP,eW,eA,eE,ex] at a1
   refine thn a1 fun _ s8 ⟨σ8,H8,I8,q8⟩=>?_
   have a2:=hif _ s8 σ8 H8 _ I8 q8
   rw [eP,eW,eA,eE,ex] at a2
   refine thn a2 fun b s9 ⟨H9,I9,q9⟩=>?_
   have again:∀ {s':Shared} {σ':St} {H':Hp},Inv X' ([] ++ pinsAt fp s7.heap) σ' H' s'→N σ' H'→∃ m,m < n∧∃ i σ' H',Inv X' [] σ' H' s'∧tn i s'.heap∧(∀ b ∈ fp,H' b=none)∧W i m σ' H':=fun {s' σ' H'} I' n'=>by
    obtain ⟨m',hm,w'⟩:=hN σ' H' n'
    refine ⟨m',hm,i + 1,σ',H',I'.unpinned,T.keep _ _ _ st7 fun b hbm o e=>(I'.pin (b,o) (List.mem_append_right _ (List.mem_append_right _ (jc8 hbm e)))).1,fun b hbm=>?_,w'⟩
    obtain ⟨o,e,d⟩:=T.obj _ _ st7 b hbm
    exact (I'.pin (b,o) (List.mem_append_right _ (List.mem_append_right _ (jc8 hbm e)))).2.1
   cases b with
   | false=>exact again I9 q9
   | true =>
    rw [if_pos rfl] at q9 ⊢
    have a3:=hek _ s9 σ8 H9 _ I9 q9
    rw [eP,eW,eA,eE,ex] at a3
    refine thn a3 fun kv s10 ⟨yk,H10,I10,r10,q10⟩=>?_
    have a4:=hev _ s10 σ8 H10 _ I10 q10
    rw [eP,eW,eA,eE,ex] at a4
    refine thn a4 fun vv s11 ⟨yv,H11,I11,r11,kvs,k,b,hk,ek,hb11,hz,q11⟩=>?_
    subst ek
    cases (show kv=Value.ref b from r10)
    have a5:=d_dictSetT (E:=fun _ _=>False) (A:=X.A) (Q:=fun _ s'=>∃ m,m < n∧∃ i σ' H',Inv X' [] σ' H' s'∧tn i s'.heap∧(∀ b ∈ fp,H' b=none)∧W i m σ' H') (by rw [eP,eW]; exact hu) I11 hk hb11 r11 hz fun s' I'=>again I' q11
    rw [eP,eW] at a5
    exact a5
 exact codeAny_compStart_dict (loop _ rfl) (T.self X.A 0 _ _ _ st4 (loop _ rfl))
theorem pe_dcompT (hu:(tupleKind (jc4 X.prog X.w)).room X.A) (B:BlkOk X scope own cap ix) (hc:X.calm=true) (hi:PI X tg iter wi)
  (hb:∀ C fp s H,PG (cxC X scope C (own ++ cap) fp s H) tg g∧PIfs (cxC X scope C (own ++ cap) fp s H) ifs tt∧PE (cxC X scope C (own ++ cap) fp s H) kx tk∧PE (cxC X scope C (own ++ cap) fp s H) vx tv)
  (hs:∀ x,foldedSetIterable iter X.env x=pure x:=by intro _; rfl):PE X (.DictComp kx vx [⟨tg,iter,ifs,0⟩] scope pos) (tDCompT wi g tt tk tv own.length ix):=by
 intro pins s σ H Q I h
 rw [arm_eval_DictComp]
 have has:∀ x ∈ scope.names,x.2=.free→(X.env.cells.lookup x.1).isSome=true:=fun x hx hk=>by
  obtain ⟨c,e⟩:=I.ok.has x.1 (B.frees x hx hk)
  rw [e]; rfl
 refine wpAny_comprehension_free (use:=none) rfl hs (jd4 has) B.kind B.names ?_
 show wpAny _ _ (eval iter X.env) _ _ s
 refine thn (hi pins s σ H _ I h) fun v s1 h1=>thn h1 fun itv s2 h2=>?_
 obtain ⟨it,fp,tn,J,H2,e,I2,T,st2,f2,q⟩:=h2
 subst e
 refine dcompT_core (RR:=fun acc C=>compPost (model X.prog X.w) X.A X.xe none (EP X pins σ Q) acc C) hu B hc hb I2 T st2 f2 q ?_
 intro D C H' s' m I' q' hn fC
 refine ⟨m,hn,fun h' hsb=>⟨.ref D,H',?_,rfl,q'⟩⟩
 exact I'.turned (t':=s'.toks) (it:=C) (fun b o hbC e=>(hsb.2 b hbC).trans e) fC.1 fC.2.1 fC.2.2.2.1 fC.2.2.2.2.1 fC.2.2.2.2.2
end
section
variable {X:Cx}
def TsK (K:PySem.W.Frag) (H:Hp) (ys:List V) (ks:List (List V)):Prop:=ys.length=ks.length∧∀ (j:Nat) x,ys[j]?=some x→∃ b,x=.ref b∧SqT K H b (ks.getD j [])
def rMinLen (K:PySem.W.Frag):List V→Hp→VK→Prop:=fun xs H Q=>∃ (p:Addr) (ys:List V) (ks:List (List V)),xs=[.ref p]∧SqL K H p ys∧ks ≠ []∧TsK K H ys ks ∧
 ∀ (i:Nat) (b:Addr),ys[i]?=some (.ref b)→i < ks.length→(∀ j,j < ks.length→(ks.getD i []).length ≤ (ks.getD j []).length∧(j < i→(ks.getD i []).length < (ks.getD j []).length))→Q (.ref b) H
theorem pe_minLen (K:PySem.W.Frag) {e:Expr} {t:TA} {p p2 p3 pos:Pos} (hc:X.calm=true) (hg:Gl X "min") (hm:X.mg "min"=none) (hgl:Gl X "len") (hml:X.mg "len"=none) (ha:PA X [e] t) (hK:X.K=K:=by rfl)
  (he:backTo pos (starEach [e] X.env)=[(false,eval e X.env)]:=by rfl):PE X (.Call (.Name "min" p) [e] [⟨some "key",.Name "len" p2,p3⟩] pos) (tCB (rMinLen K) t):=by
 subst hK
 intro pins s σ H Q I h
 refine wpAny_Call_Name_kw (ld_blt I hg hm boot_min ?_)
 refine PyProof.Rows.callWith_kw (thn (ha pos pins s σ H _ I h) fun us s1 ⟨vs,H1,I1,r1,q1⟩=>?_) (by rw [he]; rfl) (by rw [he]; rfl)
 refine PyProof.Rows.kws_cons (ld_blt I1 hgl hml PySem.boot_len (PyProof.Rows.kws_nil ?_))
 obtain ⟨pl,ys,ks,rfl,hl,hne,⟨hlen,hts⟩,q⟩:=q1
 obtain ⟨u,rfl,ru⟩:=vals1 r1
 cases ru
 show wpAny _ _ (call (.builtin "min") [.ref pl] [(Str.ofString "key",.builtin "len")]) _ _ _
 refine key_min_call (iter_seq I1 (I1.ok.hd hc) (.inl hl) fun it fp wr its St s2 rv W st0 hfp hinv=>?_)
 have hl2:=rv.length
 have hkl:its.length=ks.length:=by omega
 have hn:0 < ks.length:=List.length_pos_iff.mpr hne
 refine ⟨it,fp,wr,its.length,_,St,(fun i=>((ks.getD i []).length:Int)),(fun h=>∀ b o,b ∉ wr→s2.heap.get? b=some o→h.get? b=some o),rfl,W,st0,hfp,by omega,?_,?_,?_,?_⟩
 ·intro S hS h h' J k b o hb e
  exact k b o hb (fun z=>by rw [z,hS] at e; cases e) (J b o hb e)
 ·intro h' k b o _ e; exact k b o e
 ·intro i v s3 Q3 E3 hP J hQ
  have I3:=hinv s3.heap s3.toks J
  obtain ⟨x,hx,rx⟩:=Vals.at rv hP
  obtain ⟨b,rfl,hb⟩:=hts i x hx
  cases rx
  obtain ⟨its3,r3,pl3,hz3⟩:=I3.tuple hb
  have e3:((its3.toArray.size:Nat):Int)=((ks.getD i []).length:Int):=by rw [List.size_toArray,r3.length]
  have hn3:=line63
  have hl3:=r3.length
  refine len_tuple (s:=s3) pl3 (by simp only [List.size_toArray] <;> omega) ?_
  rw [e3]
  exact hQ _ _
 ·intro i v h' tk hP hi hbest hk
  obtain ⟨x,hx,rx⟩:=Vals.at rv hP
  obtain ⟨b,rfl,hb⟩:=hts i x hx
  cases rx
  exact ⟨.ref b,H1,hinv h' tk hk,rfl,q i b hx (by omega) fun j hj=>by
   have hb1:=hbest j (by omega)
   exact ⟨Int.ofNat_le.mp hb1.1,fun z=>Int.ofNat_lt.mp (hb1.2 z)⟩⟩
end
section
variable {X:Cx}
end
end L2
namespace L2
open PySem PySem.Spec PyProof.Rows KG
section
variable {K:PySem.W.Frag} {tt:TT} {tk tv:TE} {a acc:Addr} {xs:List V} {σ₀:St} {H₀:Hp} {Q:VK}
def CnT (σ₀:St) (acc:Addr) (P:List (List Key × V)→Hp→Prop) (σ:St) (H:Hp):Prop:=(∀ u,σ.set 0 u=σ₀.set 0 u)∧∃ ys,H acc=some (.dT ys)∧P ys H
theorem CnT.of {P:List (List Key × V)→Hp→Prop} {u:Option V} {H:Hp} {ys:List (List Key × V)} (h:H acc=some (.dT ys)) (p:P ys H):CnT σ₀ acc P (σ₀.set 0 u) H:=⟨fun v=>by cases σ₀ <;> rfl,ys,h,p⟩
theorem dcompT_list (Pv:Nat→List (List Key × V)→Hp→Prop) (h0:Pv 0 [] (upd H₀ acc (.dT []))) (hl:∀ (i:Nat) zs H,i ≤ xs.length→H acc=some (.dT zs)→Pv i zs H→SqL K H a xs)
  (hs:∀ (i:Nat) x zs H,xs[i]?=some x→H acc=some (.dT zs)→Pv i zs H→tt (σ₀.set 0 (some x)) H fun b H4 =>
   if b=true then tk (σ₀.set 0 (some x)) H4 fun kx H5=>tv (σ₀.set 0 (some x)) H5 fun y H6=>∃ us k b,H6 acc=some (.dT us)∧kx=.ref b∧H6 b=some (.tup (k.map kV))∧us.length < sizeLine∧CnT σ₀ acc (Pv (i + 1)) (σ₀.set 0 (some x)) (upd H6 acc (.dT (putK us k y)))
   else CnT σ₀ acc (Pv (i + 1)) (σ₀.set 0 (some x)) H4)
  (hd:∀ zs H,H acc=some (.dT zs)→Pv xs.length zs H→Q (.ref acc) H):tDCompTN (gName 0) tt tk tv (Itl K a) acc σ₀ H₀ Q:=by
 refine ⟨fun i m σ H=>m=xs.length - i∧i ≤ xs.length∧CnT σ₀ acc (Pv i) σ H,⟨xs.length,by simp,Nat.zero_le _,fun _=>rfl,[],ja1,h0⟩,?_⟩
 rintro i m σ H ⟨rfl,hi,hσ,ys,hy,p⟩
 have q:=hl i ys H hi hy p
 by_cases hlt:i < xs.length
 ·refine .inr ⟨⟨xs,xs[i],q,by simp [hlt]⟩,CnT σ₀ acc (Pv (i + 1)),fun σ' H' c=>⟨xs.length - (i + 1),by omega,rfl,hlt,c⟩,fun x H' y=>?_⟩
  obtain ⟨e,y⟩:=y
  subst e
  show tt (σ.set 0 _) _ _
  rw [hσ]
  exact hs i x ys _ (y xs q) hy p
 ·have e:i=xs.length:=by omega
  subst e
  exact .inl ⟨⟨xs,q,Nat.le_refl _⟩,hd ys H hy p⟩
end
end L2
namespace KM
open PySem L2 KG EX
theorem pickL_tb (ns:List Int) (mask:Nat):pickL ns mask=((List.range ns.length).filter fun k=>Nat.testBit mask k).map fun k=>ns.getD k 0:=by
 unfold pickL
 congr 1
 refine List.filter_congr fun k _=>?_
 rw [Nat.testBit_eq_decide_div_mod_eq]
theorem pickL_lo {ns:List Int} {m:Int} {k:Nat} (h:k < 2 ^ ns.length):pickL (ns ++ [m]) k=pickL ns k:=by
 rw [pickL_tb,pickL_tb,List.length_append,List.length_singleton,List.range_succ,List.filter_append]
 have e:[ns.length].filter (fun j=>Nat.testBit k j)=[]:=by simp [List.filter,Nat.testBit_lt_two_pow h]
 rw [e,List.append_nil]
 refine List.map_congr_left fun j hj=>?_
 have hj':j < ns.length:=by simpa using (List.mem_filter.mp hj).1
 simp [List.getD,List.getElem?_append_left hj']
theorem pickL_hi {ns:List Int} {m:Int} {k:Nat} (h:k < 2 ^ ns.length):pickL (ns ++ [m]) (2 ^ ns.length + k)=pickL ns k ++ [m]:=by
 rw [pickL_tb,pickL_tb,List.length_append,List.length_singleton,List.range_succ,List.filter_append,List.map_append]
 have e:[ns.length].filter (fun j=>Nat.testBit (2 ^ ns.length + k) j)=[ns.length]:=by
  simp [List.filter,Nat.testBit_two_pow_add_eq,Nat.testBit_lt_two_pow h]
 rw [e]
 have e2:(List.range ns.length).filter (fun j=>Nat.testBit (2 ^ ns.length + k) j)=(List.range ns.length).filter (fun j=>Nat.testBit k j):=by
  refine List.filter_congr fun j hj=>?_
  exact Nat.testBit_two_pow_add_gt (by simpa using hj) k
 rw [e2]
 congr 1
 ·refine List.map_congr_left fun j hj=>?_
  have hj':j < ns.length:=by simpa using (List.mem_filter.mp hj).1
  simp [List.getD,List.getElem?_append_left hj']
 ·simp [List.getD]
theorem setsL_snoc (ns:List Int) (m:Int):setsL (ns ++ [m])=setsL ns ++ (setsL ns).map fun s=>s ++ [m]:=by
 unfold setsL
 rw [List.length_append,List.length_singleton,Nat.pow_succ,Nat.mul_two,List.range_add,List.map_append,List.map_map,List.map_map]
 congr 1
 ·exact List.map_congr_left fun k hk=>pickL_lo (by simpa using hk)
 ·exact List.map_congr_left fun k hk=>pickL_hi (by simpa using hk)
theorem setsL_len (ns:List Int):(setsL ns).length=2 ^ ns.length:=by unfold setsL; rw [List.length_map,List.length_range]
theorem mem_setsL {ns S:List Int}:S ∈ setsL ns ↔ S.Sublist ns:=by
 constructor
 ·exact setsL_sub
 ·intro h
  revert S
  suffices H:∀ (ms S:List Int),S.Sublist ms.reverse→S ∈ setsL ms.reverse by
   intro S h; have:=H ns.reverse S; rw [List.reverse_reverse] at this; exact this h
  intro ms
  induction ms with
  | nil=>intro S h; rw [List.reverse_nil] at h ⊢; rw [List.sublist_nil.mp h]; exact List.mem_singleton.mpr rfl
  | cons m ms ih =>
   intro S h
   rw [List.reverse_cons] at h ⊢
   rw [setsL_snoc]
   obtain ⟨a,b,rfl,ha,hb⟩:=List.sublist_append_iff.mp h
   rcases List.sublist_cons_iff.mp hb with hb | ⟨r,rfl,hr⟩
   ·rw [List.sublist_nil.mp hb,List.append_nil]; exact List.mem_append_left _ (ih a ha)
   ·rw [List.sublist_nil.mp hr]; exact List.mem_append_right _ (List.mem_map.mpr ⟨a,ih a ha,rfl⟩)
theorem setsL_nodup {ns:List Int} (h:ns.Nodup):(setsL ns).Nodup:=by
 suffices H:∀ ms:List Int,ms.reverse.Nodup→(setsL ms.reverse).Nodup by
  have:=H ns.reverse; rw [List.reverse_reverse] at this; exact this h
 intro ms
 induction ms with
 | nil=>intro _; rw [List.reverse_nil]; exact List.nodup_cons.mpr ⟨by simp,List.nodup_nil⟩
 | cons m ms ih =>
  intro hn
  rw [List.reverse_cons] at hn ⊢
  have hn':=List.nodup_append.mp hn
  rw [setsL_snoc]
  refine List.nodup_append.mpr ⟨ih hn'.1,(ih hn'.1).map _ fun a b hab z=>hab (List.append_cancel_right z),fun a ha b hb z=>?_⟩
  obtain ⟨s,hs,rfl⟩:=List.mem_map.mp hb
  have h1:=(mem_setsL.mp ha).subset (by rw [z]; simp:m ∈ a)
  exact (hn'.2.2 m h1 m (by simp)) rfl
def wsum (L:List Nat) (w:Nat→Rat) (p:Nat→Bool):Rat:=sumQ ((L.filter p).map w)
theorem je3 (q:Rat) (qs:List Rat):sumQ (q :: qs)=q + sumQ qs:=by
 have key:∀ (l:List Rat) (z:Rat),l.foldl (fun s q=>s + q) z=z + sumQ l:=by
  intro l
  induction l with
  | nil=>intro z; unfold sumQ; simp [Rat.add_zero]
  | cons i l ih=>intro z; unfold sumQ; rw [List.foldl_cons,List.foldl_cons,ih,ih,Rat.zero_add,Rat.add_assoc]
 conv=>lhs; unfold sumQ
 rw [List.foldl_cons,key,Rat.zero_add]
theorem jf9 (x:Nat) (L:List Nat) (w:Nat→Rat) (p:Nat→Bool):wsum (x :: L) w p=(if p x=true then w x else 0) + wsum L w p:=by
 unfold wsum
 cases h:p x with
 | true=>rw [List.filter_cons_of_pos h,List.map_cons,je3,if_pos rfl]
 | false=>rw [List.filter_cons_of_neg (by rw [h]; decide),if_neg (by decide),Rat.zero_add]
theorem wsum_mod (L:List Nat) (w:Nat→Rat) (p q:Nat→Bool):wsum L w (fun x=>p x && q x) + wsum L w (fun x=>p x || q x)=wsum L w p + wsum L w q:=by
 induction L with
 | nil=>rfl
 | cons x L ih =>
  rw [jf9,jf9,jf9,jf9]
  cases p x <;> cases q x <;> simp <;> grind
theorem wsum_le {L:List Nat} {w:Nat→Rat} (hw:∀ x ∈ L,0 ≤ w x) {p q:Nat→Bool} (h:∀ x ∈ L,p x=true→q x=true):wsum L w p ≤ wsum L w q:=by
 induction L with
 | nil=>exact Rat.le_refl
 | cons x L ih =>
  have ih':=ih (fun y hy=>hw y (List.mem_cons_of_mem _ hy)) (fun y hy=>h y (List.mem_cons_of_mem _ hy))
  have h0:=hw x List.mem_cons_self
  have h1:=h x List.mem_cons_self
  rw [jf9,jf9]
  cases hp:p x with
  | false =>
   cases hq:q x with
   | false=>rw [if_neg (by decide),Rat.zero_add,Rat.zero_add]; exact ih'
   | true =>
    rw [if_neg (by decide),if_pos rfl,Rat.zero_add]
    exact Rat.le_trans ih' (by have:=Rat.add_le_add_right (c:=wsum L w q) |>.mpr h0; rwa [Rat.zero_add] at this)
  | true =>
   rw [h1 hp,if_pos rfl]
   exact Rat.add_le_add_left.mpr ih'
def fOf (U:List Nat) (w:Nat→Rat) (L:List Nat) (v:Nat→Rat) (rel:Nat→Nat→Bool) (S:List Nat):Rat:=wsum U w (fun x=>S.contains x) - wsum L v (fun i=>S.any fun g=>rel i g)
theorem wsum_congr {L:List Nat} {w:Nat→Rat} {p q:Nat→Bool} (h:∀ x ∈ L,p x=q x):wsum L w p=wsum L w q:=by
 unfold wsum; rw [List.filter_congr h]
theorem fOf_super {U L:List Nat} {w v:Nat→Rat} {rel:Nat→Nat→Bool} (hv:∀ x ∈ L,0 ≤ v x) {S T I J:List Nat} (hI:∀ x,x ∈ I ↔ x ∈ S∧x ∈ T) (hJ:∀ x,x ∈ J ↔ x ∈ S ∨ x ∈ T) :
  fOf U w L v rel S + fOf U w L v rel T ≤ fOf U w L v rel I + fOf U w L v rel J:=by
 unfold fOf
 have a1:wsum U w (fun x=>I.contains x)=wsum U w (fun x=>S.contains x && T.contains x):=wsum_congr fun x _=>by rw [Bool.eq_iff_iff]; simp [hI]
 have a2:wsum U w (fun x=>J.contains x)=wsum U w (fun x=>S.contains x || T.contains x):=wsum_congr fun x _=>by rw [Bool.eq_iff_iff]; simp [hJ]
 have a3:=wsum_mod U w (fun x=>S.contains x) (fun x=>T.contains x)
 have b1:wsum L v (fun i=>I.any fun g=>rel i g) ≤ wsum L v (fun i=>(S.any fun g=>rel i g) && (T.any fun g=>rel i g)):=wsum_le hv fun x _ h=>by
  obtain ⟨g,hg,hr⟩:=List.any_eq_true.mp h
  have:=(hI g).mp hg
  rw [Bool.and_eq_true]
  exact ⟨List.any_eq_true.mpr ⟨g,this.1,hr⟩,List.any_eq_true.mpr ⟨g,this.2,hr⟩⟩
 have b2:wsum L v (fun i=>J.any fun g=>rel i g)=wsum L v (fun i=>(S.any fun g=>rel i g) || (T.any fun g=>rel i g)):=wsum_congr fun x _=>by
  rw [Bool.eq_iff_iff,Bool.or_eq_true,List.any_eq_true,List.any_eq_true,List.any_eq_true]
  constructor
  ·rintro ⟨g,hg,hr⟩
   rcases (hJ g).mp hg with h | h
   ·exact .inl ⟨g,h,hr⟩
   ·exact .inr ⟨g,h,hr⟩
  ·rintro (⟨g,hg,hr⟩ | ⟨g,hg,hr⟩)
   ·exact ⟨g,(hJ g).mpr (.inl hg),hr⟩
   ·exact ⟨g,(hJ g).mpr (.inr hg),hr⟩
 have b3:=wsum_mod L v (fun i=>S.any fun g=>rel i g) (fun i=>T.any fun g=>rel i g)
 rw [a1,a2,b2]
 generalize wsum L v (fun i=>I.any fun g=>rel i g)=z at b1
 grind
theorem sub_eq {α : Type} [BEq α] [LawfulBEq α]:∀ {S U:List α},S.Sublist U→U.Nodup→U.filter (fun x=>S.contains x)=S
 | _,_,.slnil,_=>rfl
 | _,_,.cons a h,nd=>by
  have nd':=List.nodup_cons.mp nd
  rw [List.filter_cons_of_neg (by rw [List.contains_iff_mem]; exact fun z=>nd'.1 (h.subset z))]
  exact sub_eq h nd'.2
 | _,_,.cons₂ (l₁:=S) (l₂:=U) a h,nd=>by
  have nd':=List.nodup_cons.mp nd
  rw [List.filter_cons_of_pos (by rw [List.contains_iff_mem]; exact List.mem_cons_self)]
  congr 1
  rw [← sub_eq h nd'.2]
  refine List.filter_congr fun x hx=>?_
  rw [sub_eq h nd'.2,Bool.eq_iff_iff,List.contains_iff_mem,List.contains_iff_mem,List.mem_cons]
  constructor
  ·rintro (rfl | z)
   ·exact absurd hx nd'.1
   ·exact z
  ·exact .inr
theorem sub_ext {α : Type} [BEq α] [LawfulBEq α] {A B U:List α} (hA:A.Sublist U) (hB:B.Sublist U) (nd:U.Nodup) (h:∀ x,x ∈ A ↔ x ∈ B):A=B:=by
 rw [← sub_eq hA nd,← sub_eq hB nd]
 refine List.filter_congr fun x _=>?_
 rw [Bool.eq_iff_iff,List.contains_iff_mem,List.contains_iff_mem,h x]
def Super (U:List Int) (f:List Int→Rat):Prop:=∀ S T:List Int,S.Sublist U→T.Sublist U→f S + f T ≤ f (S.filter fun x=>T.contains x) + f (U.filter fun x=>S.contains x || T.contains x)
theorem least_sub {U:List Int} {f:List Int→Rat} (sup:Super U f) {R:List Int} (hR:R.Sublist U) (hM:∀ S:List Int,S.Sublist U→f S ≤ f R) (hmin:∀ S:List Int,S.Sublist U→f S=f R→R.length ≤ S.length) {T:List Int} (hT:T.Sublist U) (fT:f T=f R):∀ x ∈ R,x ∈ T:=by
 have h1:=sup R T hR hT
 have h2:=hM _ (List.filter_sublist (l:=U) (p:=fun x=>R.contains x || T.contains x))
 have sI:(R.filter fun x=>T.contains x).Sublist R:=List.filter_sublist
 have h3:=hM _ (sI.trans hR)
 have e:f (R.filter fun x=>T.contains x)=f R:=by
  rw [fT] at h1
  generalize f (U.filter fun x=>R.contains x || T.contains x)=z at h1 h2
  generalize f (R.filter fun x=>T.contains x)=y at h1 h3 ⊢
  grind
 have h4:=hmin _ (sI.trans hR) e
 have h5:=sI.eq_of_length_le h4
 intro x hx
 rw [← h5] at hx
 simpa using (List.mem_filter.mp hx).2
theorem least_law {rows:List (Int × List Int)} {m c:Int} {U:List Int} {f:List Int→Rat} (nd:U.Nodup) (hrows:rows.map (·.2)=setsL U) (hc:0 < c) (hval:∀ x ∈ rows,((x.1:Int):Rat)=(c:Rat) * f x.2) (hm:m ∈ rows.map (·.1)) (hmax:∀ n ∈ rows.map (·.1),n ≤ m)
  {R:List Int} (hR:R.Sublist U) (hM:∀ S:List Int,S.Sublist U→f S ≤ f R) (hsub:∀ T:List Int,T.Sublist U→f T=f R→∀ x ∈ R,x ∈ T):leastOf rows m=R:=by
 have hc':(0:Rat) < (c:Rat):=Rat.intCast_pos.mpr hc
 have hmem:∀ S:List Int,S.Sublist U→∃ x ∈ rows,x.2=S:=fun S hS=>by
  have:S ∈ rows.map (·.2):=by rw [hrows]; exact mem_setsL.mpr hS
  obtain ⟨x,hx,e⟩:=List.mem_map.mp this
  exact ⟨x,hx,e⟩
 have hsubl:∀ x ∈ rows,x.2.Sublist U:=fun x hx=>mem_setsL.mp (by rw [← hrows]; exact List.mem_map.mpr ⟨x,hx,rfl⟩)
 have em:(m:Rat)=(c:Rat) * f R:=by
  obtain ⟨y,hy,ey⟩:=List.mem_map.mp hm
  obtain ⟨x,hx,ex⟩:=hmem R hR
  have h1:=hmax x.1 (List.mem_map.mpr ⟨x,hx,rfl⟩)
  have h2:=hval x hx
  have h3:=hval y hy
  rw [ex] at h2
  have h4:=hM _ (hsubl y hy)
  have h5:(c:Rat) * f y.2 ≤ (c:Rat) * f R:=Rat.mul_le_mul_of_nonneg_left h4 (Rat.le_of_lt hc')
  rw [← h3,← h2] at h5
  have h6:=Rat.intCast_le_intCast.mp h5
  have:m=x.1:=by rw [ey] at h6; omega
  rw [this]; exact h2
 have htop:∀ T,T ∈ topsL rows m ↔ (T.Sublist U∧f T=f R):=fun T=>by
  unfold topsL
  constructor
  ·intro h
   obtain ⟨x,hx,rfl⟩:=List.mem_map.mp h
   obtain ⟨hx1,hx2⟩:=List.mem_filter.mp hx
   have e:x.1=m:=by simpa using hx2
   refine ⟨hsubl x hx1,?_⟩
   have:=hval x hx1
   rw [e,em] at this
   have hc0:(c:Rat) ≠ 0:=fun z=>by rw [z] at hc'; exact absurd hc' (by decide)
   grind
  ·rintro ⟨hT,fT⟩
   obtain ⟨x,hx,rfl⟩:=hmem T hT
   refine List.mem_map.mpr ⟨x,List.mem_filter.mpr ⟨hx,?_⟩,rfl⟩
   have:=hval x hx
   rw [fT,← em] at this
   simpa using Rat.intCast_inj.mp this
 have hRt:R ∈ topsL rows m:=(htop R).mpr ⟨hR,rfl⟩
 unfold leastOf
 have h0:(topsL rows m).getD 0 [] ∈ topsL rows m:=by
  cases e:topsL rows m with
  | nil=>rw [e] at hRt; cases hRt
  | cons t ts=>simp [List.getD]
 obtain ⟨s0,f0⟩:=(htop _).mp h0
 generalize (topsL rows m).getD 0 []=T0 at h0 s0 f0 ⊢
 refine sub_ext (List.filter_sublist.trans s0) hR nd fun x=>?_
 rw [List.mem_filter,List.all_eq_true]
 constructor
 ·rintro ⟨_,h⟩
  simpa using h R hRt
 ·intro hx
  refine ⟨hsub T0 s0 f0 x hx,fun T hT=>?_⟩
  obtain ⟨sT,fT⟩:=(htop T).mp hT
  simpa using hsub T sT fT x hx
end KM
namespace KM
open PySem L2 KG EX
def TsR (H:Hp) (xs:List V) (M:List (List Int)):Prop:=xs.length=M.length∧∀ (j:Nat) x,xs[j]?=some x→∃ (a:Addr) (r:List Int),M[j]?=some r∧x=.ref a∧H a=some (.tup (r.map V.int))
theorem TsR.nil {H:Hp}:TsR H [] []:=⟨rfl,fun j x h=>by simp at h⟩
theorem TsR.tm {H H':Hp} {xs:List V} {M:List (List Int)} (h:TsR H xs M) (t:Tm H H'):TsR H' xs M:=⟨h.1,fun j x hx=>by obtain ⟨a,r,e1,e2,e3⟩:=h.2 j x hx; exact ⟨a,r,e1,e2,t _ _ e3⟩⟩
theorem TsR.stay {H H':Hp} {xs:List V} {M:List (List Int)} (h:TsR H xs M) (s:Stay H H'):TsR H' xs M:=⟨h.1,fun j x hx=>by obtain ⟨a,r,e1,e2,e3⟩:=h.2 j x hx; exact ⟨a,r,e1,e2,s _ _ e3⟩⟩
theorem TsR.cat {H:Hp} {xs ys:List V} {M N:List (List Int)} (h1:TsR H xs M) (h2:TsR H ys N):TsR H (xs ++ ys) (M ++ N):=by
 refine ⟨by simp [h1.1,h2.1],fun j y hy=>?_⟩
 rcases Nat.lt_or_ge j xs.length with z | z
 ·rw [List.getElem?_append_left z] at hy
  obtain ⟨a,r,e1,e2,e3⟩:=h1.2 j y hy
  exact ⟨a,r,by rw [List.getElem?_append_left (h1.1 ▸ z)]; exact e1,e2,e3⟩
 ·rw [List.getElem?_append_right z] at hy
  obtain ⟨a,r,e1,e2,e3⟩:=h2.2 _ y hy
  exact ⟨a,r,by rw [List.getElem?_append_right (h1.1 ▸ z),← h1.1]; exact e1,e2,e3⟩
theorem TsR.app {H:Hp} {xs:List V} {M:List (List Int)} (h:TsR H xs M) {a:Addr} {r:List Int} (ha:H a=some (.tup (r.map V.int))):TsR H (xs ++ [.ref a]) (M ++ [r]):=h.cat ⟨rfl,fun j x hx=>by
 cases j with
 | zero=>simp at hx; subst hx; exact ⟨a,r,rfl,rfl,ha⟩
 | succ j=>simp at hx⟩
theorem TsR.ks {K:PySem.W.Frag} {H:Hp} {xs:List V} {M:List (List Int)} (h:TsR H xs M):TsK K H xs (M.map fun r=>r.map V.int):=⟨by rw [h.1,List.length_map],fun j x hx=>by
 obtain ⟨a,r,e1,e2,e3⟩:=h.2 j x hx
 refine ⟨a,e2,SqT.of ?_⟩
 have:(M.map fun r=>r.map V.int).getD j []=r.map V.int:=by simp [List.getD,List.getElem?_map,e1]
 rw [this]; exact e3⟩
def spOOB:Sp:=fun vs H Q _=>∃ (l:Addr) (ys:List V) (qs:List Rat),vs=[.ref l]∧H l=some (.lst ys)∧Frs H ys qs∧(∀ q ∈ qs,Rb 300 q)∧qs.length ≤ 12∧∀ (r:Addr) (c:Int) (ms:List Int) (H':Hp),Stay H H'→0 < c→IntsOf c ms qs→H' r=some (.lst (ms.map V.int))→Q (.ref r) H'
def spCoins:Sp:=fun vs H Q _=>∃ (b p pa pp pw q:Addr) (xa xp xw ys:List V) (am pu wi:List PyData) (qs:List Rat),vs=[.ref p,.ref q]∧MkAt b H p pa pp pw xa xp xw am pu wi∧PrAt b H q ys qs∧qs.length=xa.length ∧
 ∀ (r r1 r2:Addr) (c:Int) (ms ps:List Int) (H':Hp),Stay H H'→0 < c→IntsOf c ms (jb7 (am.map intOf) qs)→IntsOf c ps (jb8 pu)→H' r=some (.tup [.ref r1,.ref r2])→H' r1=some (.lst (ms.map V.int))→H' r2=some (.lst (ps.map V.int))→Q (.ref r) H'
def spCo:Sp:=fun vs H Q _=>∃ (l t:Addr) (ms:List Int) (S:List Nat),vs=[.ref l,.ref t]∧H l=some (.lst (ms.map V.int))∧H t=some (.tup (natsV S))∧S.length ≤ 6∧(∀ i ∈ S,i < ms.length)∧∀ H',Stay H H'→Q (.int ((S.map fun i=>ms.getD i 0).sum)) H'
def keyZ (n:Int):Key:=.inl n
def gaD (rows:List (Int × List Int)):List (List Key × V):=rows.map fun r=>(r.2.map keyZ,V.int r.1)
theorem keyZ_V (ns:List Int):(ns.map keyZ).map kV=ns.map V.int:=by rw [List.map_map]; rfl
theorem keyZ_inj {a b:List Int} (h:a.map keyZ=b.map keyZ):a=b:=by
 induction a generalizing b with
 | nil=>cases b with
  | nil=>rfl
  | cons _ _=>cases h
 | cons x a ih=>cases b with
  | nil=>cases h
  | cons y b =>
   rw [List.map_cons,List.map_cons] at h
   injection h with h1 h2
   have:x=y:=by unfold keyZ at h1; injection h1
   rw [this,ih h2]
structure MP (b:Addr) (H:Hp) (p pa pp pw q:Addr) (xa xp xw ys:List V) (am pu wi:List PyData) (qs:List Rat):Prop where
 m:MkAt b H p pa pp pw xa xp xw am pu wi
 pr:PrAt b H q ys qs
 l:qs.length=xa.length
 ok:Prs (rowsOf wi) qs
def BestRow (rows:List (Int × List Int)) (row:Int × List Int):Prop:=row ∈ rows∧(∀ x ∈ rows,x.1 ≤ row.1)∧∀ x ∈ rows,x.1=row.1→row.2.length ≤ x.2.length
def spLom:Sp:=fun vs H Q _=>∃ (d:Addr) (rows:List (Int × List Int)),vs=[.ref d]∧H d=some (.dT (gaD rows))∧rows ≠ []∧rows.length ≤ 64∧(rows.map (·.2)).Nodup ∧
 ∀ (row:Int × List Int) (a:Addr) (H':Hp),(∀ x o,x ≠ d→H x=some o→H' x=some o)→BestRow rows row→H' a=some (.tup (row.2.map V.int))→Q (.ref a) H'
theorem ints_split {c:Int} {ms:List Int} {as bs:List Rat} (h:IntsOf c ms (as ++ bs)):IntsOf c (ms.take as.length) as∧IntsOf c (ms.drop as.length) bs:=by
 obtain ⟨h1,h2⟩:=h
 rw [List.length_append] at h1 h2
 refine ⟨⟨by rw [List.length_take]; omega,fun j hj=>?_⟩,⟨by rw [List.length_drop]; omega,fun j hj=>?_⟩⟩
 ·have h3:=h2 j (by omega)
  have e1:(ms.take as.length).getD j 0=ms.getD j 0:=by simp [List.getD,List.getElem?_take,hj]
  have e2:(as ++ bs).getD j 0=as.getD j 0:=by simp [List.getD,List.getElem?_append_left hj]
  rw [e1,← e2]; exact h3
 ·have h3:=h2 (as.length + j) (by omega)
  have e1:(ms.drop as.length).getD j 0=ms.getD (as.length + j) 0:=by simp [List.getD,List.getElem?_drop]
  have e2:(as ++ bs).getD (as.length + j) 0=bs.getD j 0:=by simp [List.getD,List.getElem?_append_right]
  rw [e1,← e2]; exact h3
theorem monQ_eq (am:List Int) (qs:List Rat):monQ am qs qs.length=jb7 am qs:=by
 unfold monQ jb7
 refine List.map_congr_left fun g _=>Rat.mul_comm _ _
end KM
namespace K9
open PySem L2 KG EX KM
theorem step_lcm {c d:Int} (hc:0 < c) (hd:0 < d):0 < (Int.gcd c d:Int)∧0 < c / (Int.gcd c d:Int) * d∧d ∣ c / (Int.gcd c d:Int) * d∧c ∣ c / (Int.gcd c d:Int) * d∧(c / (Int.gcd c d:Int)).natAbs ≤ c.natAbs∧((Int.gcd c d:Int)).natAbs ≤ d.natAbs:=by
 obtain ⟨x,hx⟩:=Int.gcd_dvd_left (a:=c) (b:=d)
 obtain ⟨y,hy⟩:=Int.gcd_dvd_right (a:=c) (b:=d)
 have hg:0 < (Int.gcd c d:Int):=by
  have:0 < Int.gcd c d:=Int.gcd_pos_of_ne_zero_left _ (by omega)
  omega
 have hle:(Int.gcd c d:Int) ≤ d:=Int.le_of_dvd hd (Int.gcd_dvd_right _ _)
 have ex:c / (Int.gcd c d:Int)=x:=Int.ediv_eq_of_eq_mul_right (by omega) hx
 generalize (Int.gcd c d:Int)=g at hx hy hg hle ex ⊢
 rw [ex]
 have x0:0 < x:=by
  rcases Int.lt_trichotomy x 0 with z | z | z
  ·have:=Int.mul_neg_of_pos_of_neg hg z; omega
  ·rw [z] at hx; omega
  ·exact z
 refine ⟨hg,Int.mul_pos x0 hd,⟨x,Int.mul_comm _ _⟩,⟨y,by rw [hx,hy]; grind⟩,?_,by omega⟩
 have h1:x ≤ c:=by
  rw [hx]
  have:=Int.mul_le_mul_of_nonneg_right (show 1 ≤ g by omega) (show 0 ≤ x by omega)
  omega
 omega
section
variable {P:Program} {w:World} {K:PySem.W.Frag} {mg:Str→Option Value} {base:Heap}
abbrev NOB:List Str:=["parts","bottom","part"]
theorem scOOB:FnScope NOB ["parts"] (ja5 (top 13)):=⟨rfl,rfl,rfl,by decide +kernel,rfl,by decide +kernel,by decide +kernel⟩
theorem ok_oob {f fG:Addr} {fd dG:FuncData} (F:Fun K "on_one_bottom" "on_one_bottom" (top 13) f fd) (G:Cal K mg P w base "common_divisor" 1 ["one","other"] spGcdN fG dG):FnOk P w K mg base CX0 2 f fd ["parts"] spOOB:=by
 refine F.ok scOOB (fun vs H Q E h=>?_) (fun cdv A' outer s H vs Q E hr h=>?_)
 ·obtain ⟨l,ys,qs,rfl,_⟩:=h; rfl
 ·obtain ⟨l,ys,all,rfl,hl,fr,hbd,h12,k⟩:=h
  refine ⟨_,ja4 (jb1 (i:=1) scOOB.nd rfl (Or.inr rfl) ja3)
   (ja4 (jf6 PassesOwn.never rfl (piL0 (pv 0)) (ja8 (i:=2) scOOB.nd rfl (Or.inl rfl))
    (ja7 (jb1 (i:=1) scOOB.nd rfl (Or.inr rfl) (jb3 jd0 (jb3 op_fdivB (pv 1) (ja6 G.ok hr rfl G.mg G.kp G.bd .nil pass0 (ja0 (pv 1) (ja0 (ja9 ixT0 (pv 2) ja3 (fun _ _=>rfl)) ja2)))) (ja9 ixT0 (pv 2) ja3 (fun _ _=>rfl))))))
   (ja7 (jb4 (jc3 (own:=["part"]) (cap:=["bottom"]) (ix:=[1]) (BlkOk.of (ja5 (top 13)).names NOB) rfl (piL0 (pv 0))
    (fun C fp s H=>⟨ja8 (i:=0) (show List.Nodup (["part","bottom"]:List Str) by decide +kernel) rfl (Or.inl rfl),jb9,jb3 jd0 (ja9 ixT0 (pv 0) ja3 (fun _ _=>rfl)) (jb3 op_fdivB (pv 1) (ja9 ixT0 (pv 0) ja3 (fun _ _=>rfl)))⟩))))),?_⟩
  have hyl:ys.length=all.length:=fr.1
  refine ⟨_,rfl,l,rfl,⟨_,SqL.of hl⟩,?_⟩
  refine jf7 (xs:=ys) (fun i σ H'=>(∃ c y2,σ=[some (.ref l),some (.int c),y2]∧0 < c∧Bd (1 + 300 * i) c∧∀ z ∈ all.take i,(z.den:Int) ∣ c)∧H'=H) ⟨⟨1,_,rfl,by decide,by unfold Bd; decide,fun z hz=>by simp at hz⟩,rfl⟩ (fun j σ H' _ z=>by rw [z.2]; exact SqL.of hl) ?_ ?_
  ·rintro i y σ H4 hy ⟨⟨c,y2,rfl,hc0,hcb,hcd⟩,rfl⟩
   obtain ⟨a,rfl,ha⟩:=fr.2 i y hy
   have hi:i < all.length:=by have:=(List.getElem?_eq_some_iff.mp hy).1; omega
   have eq:all[i]?=some (all.getD i 0):=by simp [List.getD,List.getElem?_eq_getElem hi]
   have bq:=hbd _ (List.mem_of_getElem? eq)
   obtain ⟨g0,d1,d2,d3,d4,d5⟩:=step_lcm hc0 (jc1 (all.getD i 0))
   refine ⟨_,rfl,_,rfl,_,rfl,a,_,_,_,rfl,rfl,SqT.of ha,rfl,c,_,rfl,_,_,rfl,rfl,⟨g0,(bq.2.le d5).mono (by decide)⟩,_,rfl,a,_,_,_,rfl,rfl,SqT.of ha,rfl,_,_,rfl,rfl,⟨(hcb.le d4).mono (by omega),bq.2.mono (by decide)⟩,?_⟩
   refine ⟨⟨_,_,rfl,d1,((hcb.le d4).mul bq.2).mono (by omega),fun z hz=>?_⟩,rfl⟩
   rw [jb2 eq] at hz
   rcases List.mem_append.mp hz with y | y
   ·exact Int.dvd_trans (hcd z y) d3
   ·have:z=all.getD i 0:=by simpa using y
    rw [this]; exact d2
  rintro σ H4 ⟨⟨c,y2,rfl,hc0,hcb,hcd⟩,rfl⟩
  rw [hyl,List.take_of_length_le (Nat.le_refl _)] at hcd
  rw [hyl] at hcb
  refine ⟨_,rfl,l,rfl,⟨_,SqL.of hl⟩,fun acc2 hacc2=>?_⟩
  refine jd3 (xs:=ys) (fun i vs H'=>Stay H4 H'∧vs=((all.take i).map (numOf c)).map V.int) ⟨(Stay.refl H4).acc hacc2,rfl⟩ (fun j vs H' _ _ z=>SqL.of (z.1 _ _ hl)) ?_ ?_
  ·rintro i x vs H' hx hy ⟨st,rfl⟩
   obtain ⟨a,rfl,ha⟩:=(fr.stay st).2 i x hx
   have hi:i < all.length:=by have:=(List.getElem?_eq_some_iff.mp hx).1; omega
   have eq:all[i]?=some (all.getD i 0):=by simp [List.getD,List.getElem?_eq_getElem hi]
   have bq:=hbd _ (List.mem_of_getElem? eq)
   have hd:=jc1 (all.getD i 0)
   have bdv:Bd 8000 (c / ((all.getD i 0).den:Int)):=(hcb.le (by
    have h1:0 ≤ c / ((all.getD i 0).den:Int):=Int.ediv_nonneg (by omega) (by omega)
    have h2:c / ((all.getD i 0).den:Int) ≤ c:=Int.ediv_le_self _ (by omega)
    omega)).mono (by omega)
   refine je9 ⟨_,rfl,a,_,_,_,rfl,rfl,SqT.of ha,rfl,_,rfl,_,rfl,a,_,_,_,rfl,rfl,SqT.of ha,rfl,_,_,rfl,rfl,⟨hd,bq.2.mono (by decide)⟩,_,_,rfl,rfl,⟨bq.1.mono (by decide),bdv⟩,_,hy,?_,Cn.of ja1 ⟨st.acc hacc2,?_⟩⟩
   ·rw [List.length_map,List.length_map,List.length_take,sz]; omega
   ·rw [jb2 eq,List.map_append,List.map_append]; rfl
  rintro vs H5 hy5 ⟨s5,rfl⟩
  rw [hyl,List.take_of_length_le (Nat.le_refl _)] at hy5
  exact k acc2 c _ H5 s5 hc0 (ints_of hcd) hy5
theorem scAll:FnScope ["members","sets","member"] ["members"] (ja5 (top 24)):=⟨rfl,rfl,rfl,by decide +kernel,rfl,by decide +kernel,by decide +kernel⟩
theorem scCo:FnScope ["coins","some"] ["coins","some"] (ja5 (top 26)):=⟨rfl,rfl,rfl,by decide +kernel,rfl,by decide +kernel,by decide +kernel⟩
theorem ok_co {f:Addr} {fd:FuncData} (F:Fun K "coins_of" "coins_of" (top 26) f fd) (N:Nm mg):FnOk P w K mg base CX0 1 f fd ["coins","some"] spCo:=by
 refine F.ok scCo (fun vs H Q E h=>?_) (fun cdv A' outer s H vs Q E hr h=>?_)
 ·obtain ⟨l,t,ms,S,rfl,_⟩:=h; rfl
 ·obtain ⟨l,t,ms,S,rfl,hl,ht,h6,hS,k⟩:=h
  refine ⟨_,ja7 (jb4 (jb0 (cSum0 rfl) (by rfl) N.sum boot_sum (ja0 (jc3 (own:=["number"]) (cap:=["coins"]) (ix:=[0]) (BlkOk.of (ja5 (top 26)).names ["coins","some"]) rfl (piT0 (pv 1))
   (fun C fp s H=>⟨ja8 (i:=0) (show List.Nodup (["number","coins"]:List Str) by decide +kernel) rfl (Or.inl rfl),jb9,ja9 ixL0 (pv 1) (pv 0) (fun _ _=>rfl)⟩)) ja2))),?_⟩
  refine ⟨_,rfl,t,rfl,⟨_,SqT.of ht⟩,fun acc hacc=>?_⟩
  refine comp_tup (xs:=natsV S) (fun j zs H'=>Stay H H'∧zs=((S.take j).map fun i=>ms.getD i 0).map V.int) ⟨(Stay.refl H).acc hacc,rfl⟩ (fun j zs H' _ _ z=>SqT.of (z.1 _ _ ht)) ?_ ?_
  ·rintro j x zs H1 hx hz ⟨s1,rfl⟩
   obtain ⟨g,hg,rfl⟩:=nat_at hx
   have hgl:=hS g (List.mem_of_getElem? hg)
   obtain ⟨ea,_,_⟩:=jd8 (ns:=ms) (r:=(g:Int)) (by omega) (by omega)
   rw [Int.toNat_natCast] at ea
   have hj:j < S.length:=(List.getElem?_eq_some_iff.mp hg).1
   refine je9 ⟨_,rfl,_,rfl,l,_,_,_,rfl,rfl,SqL.of (s1 _ _ hl),ea,_,hz,?_,Cn.of ja1 ⟨s1.acc hacc,?_⟩⟩
   ·rw [List.length_map,List.length_map,List.length_take,sz]; omega
   ·rw [jb2 hg,List.map_append,List.map_append]; rfl
  ·rintro zs H1 hz ⟨s1,rfl⟩
   rw [nats_len,List.take_length] at hz
   exact ⟨acc,_,rfl,.inl (SqL.of hz),k H1 s1⟩
abbrev NIC:List Str:=["market","prices","coins","goods"]
theorem scIC:FnScope NIC ["market","prices"] (ja5 (top 25)):=⟨rfl,rfl,rfl,by decide +kernel,rfl,by decide +kernel,by decide +kernel⟩
theorem ok_ic {f fO fM:Addr} {fd dO dM:FuncData} (F:Fun K "in_coins" "in_coins" (top 25) f fd) (N:Nm mg) (O:Cal K mg P w base "on_one_bottom" 2 ["parts"] spOOB fO dO) (M:Cal K mg P w base "money_by_good" 4 ["market","prices"] spMBG fM dM):FnOk P w K mg base CX0 5 f fd ["market","prices"] spCoins:=by
 refine F.ok scIC (fun vs H Q E h=>?_) (fun cdv A' outer s H vs Q E hr h=>?_)
 ·obtain ⟨b,p,pa,pp,pw,q,xa,xp,xw,ys,am,pu,wi,qs,rfl,_⟩:=h; rfl
 ·obtain ⟨b,p,pa,pp,pw,q,xa,xp,xw,ys,am,pu,wi,qs,rfl,m,pr,hql,k⟩:=h
  have hr2:Room 2 _:=hr.mono (by decide)
  refine ⟨_,ja4 (jb1 (i:=2) scIC.nd rfl (Or.inl rfl) (ja6 O.ok hr2 rfl O.mg O.kp O.bd .nil pass0 (ja0 (jb3 op_cat (ja6 M.ok hr rfl M.mg M.kp M.bd .nil pass0 (ja0 (pv 0) (ja0 (pv 1) ja2))) (jb6 cLst0 (by rfl) N.list jf4 (ja0 (ja9 ixT0 (pv 0) ja3 (fun _ _=>rfl)) ja2))) ja2)))
   (ja4 (jb1 (i:=3) scIC.nd rfl (Or.inl rfl) (jb0 cLen0 (by rfl) N.len PySem.boot_len (ja0 (ja9 ixT0 (pv 0) ja3 (fun _ _=>rfl)) ja2)))
   (ja7 (jb4 (jd6 (ja0 (pe_slice slL0 (pv 2) po_none (po_some (pv 3))) (ja0 (pe_slice slL0 (pv 2) (po_some (pv 3)) po_none) ja2)))))),?_⟩
  obtain ⟨exa,ham⟩:=m.am
  obtain ⟨_,_,_,_,a1,a6,w1,w6,wp⟩:=m.lw
  have hfr:=Frs.of pr.tr
  refine ⟨_,rfl,_,rfl,b,p,pa,pp,pw,q,xa,xp,xw,ys,am,pu,wi,qs,rfl,m,pr.hq,hfr,hql,fun z hz=>(pr.bd z hz).mono (by decide),fun r0 zs H1 s1 _ hz0 fr0=>?_⟩
  rw [← hql,monQ_eq] at fr0
  have m1:=m.stay s1
  have hml:(jb7 (am.map intOf) qs).length=qs.length:=by unfold jb7; simp
  have hzl:zs.length=qs.length:=by rw [fr0.1,hml]
  have hpl:xp.length=(jb8 pu).length:=m.fp.1
  refine ⟨_,rfl,p,_,_,_,rfl,rfl,SqT.of m1.hp,rfl,pp,xp,rfl,.inr (SqT.of m1.hpp),fun l1 hl1=>?_⟩
  have s12:=(Stay.refl H1).new (o:=.lst xp) hl1
  refine ⟨r0,l1,zs,xp,rfl,rfl,s12 _ _ hz0,ja1,by rw [sz]; omega,fun l2 hl2=>?_⟩
  have s13:=s12.new (o:=.lst (zs ++ xp)) hl2
  have el2:(upd (upd H1 l1 (.lst xp)) l2 (.lst (zs ++ xp))) l2=some (.lst (zs ++ xp)):=ja1
  have fr3:Frs (upd (upd H1 l1 (.lst xp)) l2 (.lst (zs ++ xp))) (zs ++ xp) (jb7 (am.map intOf) qs ++ jb8 pu):=Frs.cat (fr0.stay s13) ((m1.stay s13).fp)
  have s03:=s1.trans s13
  generalize upd (upd H1 l1 (.lst xp)) l2 (.lst (zs ++ xp))=H3 at s13 el2 fr3 s03 ⊢
  have hbd:∀ z ∈ jb7 (am.map intOf) qs ++ jb8 pu,Rb 300 z:=fun z hz=>by
   rcases List.mem_append.mp hz with y | y
   ·unfold jb7 at y
    obtain ⟨g,hg,rfl⟩:=List.mem_map.mp y
    have hgx:g < qs.length:=by simpa using hg
    have hamg:g < (am.map intOf).length:=by have:=congrArg List.length exa; rw [List.length_map] at this; omega
    have em:(am.map intOf).getD g 0 ∈ am.map intOf:=by
     have e3:=List.getElem?_eq_getElem hamg
     have:(am.map intOf).getD g 0=(am.map intOf)[g]:=by simp only [List.getD,e3,Option.getD_some]
     rw [this]; exact List.getElem_mem hamg
    have bam:Rb 7 (((am.map intOf).getD g 0:Int):Rat):=rb_int (by have:=ham _ em; unfold Bd; omega) (by decide)
    exact (rb_mul (pr.rb g) bam).mono (by decide)
   ·exact ((m.pu.2 z y).2).mono (by decide)
  refine ⟨l2,_,_,rfl,el2,fr3,hbd,by rw [List.length_append,hml]; omega,fun r c ms H4 s4 hc him hr4=>?_⟩
  have s04:=s03.trans s4
  have m4:=m.stay s04
  obtain ⟨i1,i2⟩:=ints_split him
  rw [hml] at i1 i2
  refine ⟨_,rfl,p,_,_,_,rfl,rfl,SqT.of m4.hp,rfl,pa,xa,rfl,.inr (SqT.of m4.ha),?_⟩
  refine ⟨_,rfl,_,rfl,_,rfl,r,_,rfl,SqL.of hr4,fun r1 hr1=>?_⟩
  have s6:=(Stay.refl H4).new (o:=.lst (cutV (ms.map V.int) none (some (xa.length:Int)))) hr1
  refine ⟨_,rfl,_,rfl,_,rfl,r,_,rfl,SqL.of (s6 _ _ hr4),fun r2 hr2=>?_⟩
  have hmsl:ms.length=qs.length + (jb8 pu).length:=by rw [him.1,List.length_append,hml]
  have hxl:(ms.map V.int).length=ms.length:=List.length_map _
  have c1:=cut_to (xs:=ms.map V.int) (r:=(xa.length:Int)) (by omega) (by omega)
  have c2:=cut_from (xs:=ms.map V.int) (r:=(xa.length:Int)) (by omega) (by omega)
  rw [Int.toNat_natCast,← hql,← List.map_take] at c1
  rw [Int.toNat_natCast,← hql,← List.map_drop] at c2
  rw [← hql] at s6 hr2 ⊢
  have s7:=s6.new (o:=.lst (cutV (ms.map V.int) (some (qs.length:Int)) none)) hr2
  have e1:(upd H4 r1 (.lst (cutV (ms.map V.int) none (some (qs.length:Int))))) r1=some (.lst ((ms.take qs.length).map V.int)):=by rw [ja1,c1]
  have e1':=(Stay.refl (upd H4 r1 (.lst (cutV (ms.map V.int) none (some (qs.length:Int)))))).new (o:=.lst (cutV (ms.map V.int) (some (qs.length:Int)) none)) hr2 _ _ e1
  have e2:(upd (upd H4 r1 (.lst (cutV (ms.map V.int) none (some (qs.length:Int))))) r2 (.lst (cutV (ms.map V.int) (some (qs.length:Int)) none))) r2=some (.lst ((ms.drop qs.length).map V.int)):=by rw [ja1,c2]
  generalize upd (upd H4 r1 (.lst (cutV (ms.map V.int) none (some (qs.length:Int))))) r2 (.lst (cutV (ms.map V.int) (some (qs.length:Int)) none))=H7 at s7 e1' e2 ⊢
  refine ⟨by show 2 ≤ sizeLine; decide,fun r9 hr9=>?_⟩
  have s8:=(Stay.refl H7).new (o:=.tup [.ref r1,.ref r2]) hr9
  exact k r9 r1 r2 c _ _ _ (s04.trans (s7.trans s8)) hc i1 i2 ja1 (s8 _ _ e1') (s8 _ _ e2)
end
end K9
namespace K9
open PySem L2 KG EX KM
theorem not_take {α : Type} {L:List α} (nd:L.Nodup) {i:Nat} {r:α} (h:L[i]?=some r):r ∉ L.take i:=by
 intro z
 obtain ⟨j,hj,e⟩:=List.mem_iff_getElem.mp z
 rw [List.length_take] at hj
 obtain ⟨hi,ei⟩:=List.getElem?_eq_some_iff.mp h
 rw [List.getElem_take,← ei] at e
 have:=(List.getElem_inj nd).mp e
 omega
theorem valV_noneT {kvs:List (List Key × V)} {k:List Key} (h:k ∉ kvs.map (·.1)):valV kvs k=none:=by
 cases e:valV kvs k with
 | none=>rfl
 | some v=>exact absurd (valV_in e) h
theorem ga_at:∀ {rows:List (Int × List Int)},(rows.map (·.2)).Nodup→∀ {i:Nat} {k:List Key} {v:V},(gaD rows)[i]?=some (k,v)→∃ row,rows[i]?=some row∧k=row.2.map keyZ∧v=.int row.1∧valV (gaD rows) k=some v:=by
 intro rows nd i k v h
 have h1:∃ row,rows[i]?=some row∧k=row.2.map keyZ∧v=.int row.1:=by
  unfold gaD at h
  rw [List.getElem?_map] at h
  cases e:rows[i]? with
  | none=>rw [e] at h; cases h
  | some row =>
   rw [e] at h
   simp only [Option.map_some,Option.some.injEq,Prod.mk.injEq] at h
   exact ⟨row,rfl,h.1.symm,h.2.symm⟩
 obtain ⟨row,e1,e2,e3⟩:=h1
 refine ⟨row,e1,e2,e3,?_⟩
 clear h
 induction rows generalizing i with
 | nil=>simp at e1
 | cons p r ih =>
  rw [List.map_cons,List.nodup_cons] at nd
  cases i with
  | zero =>
   have e':p=row:=by simpa using e1
   subst e'
   show valV ((p.2.map keyZ,V.int p.1) :: gaD r) k=some v
   rw [e3]; exact valV_pos e2.symm
  | succ i =>
   have e':r[i]?=some row:=by simpa using e1
   have hm:row.2 ∈ r.map (·.2):=List.mem_map.mpr ⟨row,List.mem_of_getElem? e',rfl⟩
   show valV ((p.2.map keyZ,V.int p.1) :: gaD r) k=some v
   rw [valV_neg (fun z=>nd.1 (by rw [e2] at z; rw [keyZ_inj z]; exact hm))]
   exact ih nd.2 e'
def selR (rows:List (Int × List Int)) (m:Int):List (List Int):=(rows.filter fun x=>decide (x.1=m)).map (·.2)
theorem sel_mem {rows:List (Int × List Int)} {m:Int} {r:List Int}:r ∈ selR rows m ↔ ∃ row ∈ rows,row.1=m∧row.2=r:=by
 unfold selR
 rw [List.mem_map]
 constructor
 ·rintro ⟨row,h,rfl⟩
  obtain ⟨h1,h2⟩:=List.mem_filter.mp h
  exact ⟨row,h1,by simpa using h2,rfl⟩
 ·rintro ⟨row,h1,h2,rfl⟩
  exact ⟨row,List.mem_filter.mpr ⟨h1,by simpa using h2⟩,rfl⟩
theorem selR_snoc {rows:List (Int × List Int)} {m:Int} {i:Nat} {row:Int × List Int} (h:rows[i]?=some row):selR (rows.take (i + 1)) m=selR (rows.take i) m ++ if decide (row.1=m)=true then [row.2] else []:=by
 unfold selR
 rw [jb2 h,List.filter_append,filt1,List.map_append]
 congr 1
 split <;> simp_all
theorem tsr_pick {H:Hp} {zs:List V} {M:List (List Int)} (h:TsR H zs M) {i:Nat} {b:Addr} (e:zs[i]?=some (.ref b)):∃ r,M[i]?=some r∧H b=some (.tup (r.map V.int))∧((M.map fun r=>r.map V.int).getD i []).length=r.length:=by
 obtain ⟨a,r,e1,e2,e3⟩:=h.2 i _ e
 injection e2 with e2
 subst e2
 refine ⟨r,e1,e3,?_⟩
 simp [List.getD,List.getElem?_map,e1]
theorem getD_len {M:List (List Int)} {r:List Int} (h:r ∈ M):∃ j,j < M.length∧((M.map fun r=>r.map V.int).getD j []).length=r.length:=by
 obtain ⟨j,hj,rfl⟩:=List.mem_iff_getElem.mp h
 exact ⟨j,hj,by simp [List.getD,List.getElem?_map,List.getElem?_eq_getElem hj]⟩
section
variable {P:Program} {w:World} {K:PySem.W.Frag} {mg:Str→Option Value} {base:Heap}
abbrev NLM:List Str:=["above","most"]
theorem scLM:FnScope NLM ["above"] (ja5 (top 29)):=⟨rfl,rfl,rfl,by decide +kernel,rfl,by decide +kernel,by decide +kernel⟩
theorem ok_lom {f:Addr} {fd:FuncData} (F:Fun K "least_of_most" "least_of_most" (top 29) f fd) (N:Nm mg):FnOk P w K mg base CX0 1 f fd ["above"] spLom:=by
 refine F.ok scLM (fun vs H Q E h=>?_) (fun cdv A' outer s H vs Q E hr h=>?_)
 ·obtain ⟨d,rows,rfl,_⟩:=h; rfl
 ·obtain ⟨d,rows,rfl,hd,hne,h64,nd,k⟩:=h
  have hu1:=hu_of hr
  refine ⟨_,ja4 (jb1 (i:=1) scLM.nd rfl (Or.inr rfl) (jb0 (call_max_valuesT rfl) (by rfl) N.max boot_max (ja0 (pe_bm0 PySem.F.plainAttrs_dict PySem.F.slot_dict_values PySem.F.type_dict_values mt_valuesT (pv 0)) ja2)))
   (ja7 (jb4 (pe_minLen K rfl (by rfl) N.min (by rfl) N.len (ja0 (jc3 (own:=["some"]) (cap:=["above","most"]) (ix:=[0,1]) (BlkOk.of (ja5 (top 29)).names NLM) rfl (pi_dictT (pv 0))
    (fun C fp s H=>⟨ja8 (i:=0) (show List.Nodup (["some","above","most"]:List Str) by decide +kernel) rfl (Or.inl rfl),je6 (jc0 op_eq (pe_dget hu1 (pv 1) (pv 0) (fun _ _=>rfl)) (pv 2) (nomark _)),pv 0⟩)) ja2)))),?_⟩
  refine ⟨_,rfl,.inr (.inr (.inl ⟨rfl,.inr ⟨_,hd⟩⟩)),d,gaD rows,rfl,rfl,hd,fun v hv=>?_⟩
  have s1:=(Stay.refl H).new (o:=viewOf v d) hv
  have hd1:=s1 _ _ hd
  refine ⟨v,d,gaD rows,rows.map (·.1),rfl,ja1,.inl hd1,by unfold gaD; rw [List.map_map,List.map_map]; rfl,fun z=>hne (List.map_eq_nil_iff.mp z),fun mx hm hmax=>?_⟩
  generalize upd H v (viewOf v d)=H1 at s1 hd1 ⊢
  refine ⟨_,rfl,d,gaD rows,rfl,hd1,fun o acc hacc=>?_⟩
  have hfz:(upd H1 d (.frz o (.dT (gaD rows)))) d=some (.frz o (.dT (gaD rows))):=ja1
  have kp4:∀ x oo,x ≠ d→H x=some oo→(upd H1 d (.frz o (.dT (gaD rows)))) x=some oo:=fun x oo hx e=>by rw [jb5 hx]; exact s1 _ _ e
  generalize upd H1 d (.frz o (.dT (gaD rows)))=H4 at hfz kp4 hacc ⊢
  have hgl:(gaD rows).length=rows.length:=by unfold gaD; rw [List.length_map]
  refine comp_dictT (kvs:=gaD rows) (fun i zs H'=>Stay H4 H'∧TsR H' zs (selR (rows.take i) mx)∧zs.length ≤ i) ⟨(Stay.refl H4).acc hacc,TsR.nil,Nat.le_refl _⟩ (fun i zs H' _ _ z=>z.1 _ _ hfz) ?_ ?_
  ·rintro i kk vv b zs H5 hkv hb hz ⟨s5,tz,hzl⟩
   obtain ⟨row,hrow,rfl,rfl,hval⟩:=ga_at nd hkv
   have hi:i < rows.length:=(List.getElem?_eq_some_iff.mp hrow).1
   refine ⟨_,rfl,_,rfl,d,_,rfl,.inr ⟨gaD rows,_,b,.inr ⟨o,s5 _ _ hfz⟩,rfl,hb,hval.symm⟩,_,rfl,rfl,_,rfl,?_⟩
   have ev:decide (V.int row.1=V.int mx)=decide (row.1=mx):=by rw [Bool.eq_iff_iff]; simp
   rw [ev]
   rw [keyZ_V] at hb
   cases hc:decide (row.1=mx) with
   | true =>
    refine iteT ⟨_,rfl,zs,hz,by rw [sz]; omega,Cn.of ja1 ⟨s5.acc hacc,?_,by rw [List.length_append]; show zs.length + 1 ≤ i + 1; omega⟩⟩
    rw [selR_snoc hrow,hc,if_pos rfl]
    exact (tz.app hb).tm (Tm.lst hz)
   | false =>
    refine iteF (Cn.of hz ⟨s5,?_,by omega⟩)
    rw [selR_snoc hrow,hc,if_neg (by decide),List.append_nil]
    exact tz
  ·rintro zs H5 hz ⟨s5,tz,hzl⟩
   rw [hgl,List.take_length] at tz
   obtain ⟨row0,hrow0,er0⟩:=List.mem_map.mp hm
   have hselne:selR rows mx ≠ []:=fun z=>by
    have:=sel_mem.mpr ⟨row0,hrow0,er0,rfl⟩
    rw [z] at this; cases this
   refine ⟨acc,zs,_,rfl,SqL.of hz,fun z=>hselne (List.map_eq_nil_iff.mp z),tz.ks,fun i b hb hi hbest=>?_⟩
   obtain ⟨r,hr1,hbr,hlen⟩:=tsr_pick tz hb
   obtain ⟨row,hrow,e1,e2⟩:=sel_mem.mp (List.mem_of_getElem? hr1)
   subst e2
   refine k row b H5 (fun x oo hx e=>s5 _ _ (kp4 x oo hx e)) ⟨hrow,fun x hx=>?_,fun x hx ex=>?_⟩ hbr
   ·rw [e1]; exact hmax _ (List.mem_map.mpr ⟨x,hx,rfl⟩)
   ·obtain ⟨j,hj,hjl⟩:=getD_len (sel_mem.mpr ⟨x,hx,ex.trans e1,rfl⟩)
    have:=(hbest j (by rw [List.length_map]; exact hj)).1
    omega
end
end K9
namespace L2
open PySem PySem.Spec PyProof.Rows
section
variable {prog:Program} {w:World} {A:Around} {R:Result→Shared→Prop} {s:Shared} {elt t1 i1 t2 i2:Expr} {f1 f2:List Expr} {scope:Scope} {pos:Pos} {it acc:Value} {env:Env}
end
section
variable {X:Cx} {scope:Scope} {own cap:List Str} {ix:List Nat} {t1 i1 t2 i2 elt:Expr} {f1 f2:List Expr} {wi wi2:TI} {g1 g2:TG} {tt1 tt2:TT} {te:TE} {pos:Pos}
end
end L2
namespace L2
open PySem PySem.Spec PyProof.Rows KG
section
variable {X:Cx}
theorem vals_of {f:Nat→V}:∀ {n:Nat} {us:List Value},us.length=n→(∀ (i:Nat) v,us[i]?=some v→RelV (f i) v)→Vals ((List.range n).map f) us:=by
 intro n us
 induction us generalizing n f with
 | nil=>intro h _; subst h; exact .nil
 | cons u us ih =>
  intro h hv
  subst h
  rw [List.length_cons,List.range_succ_eq_map,List.map_cons,List.map_map]
  exact .cons (hv 0 u rfl) (ih (f:=f ∘ Nat.succ) rfl fun i v e=>hv (i + 1) v (by simpa using e))
def rngOf (r:Addr) (j:Int):HO:=.ext fun h=>∃ t u v,IsRange h r 0 j 1 t u v
theorem call_rangeV:CallR X (.type "range") (fun xs H Q=>∃ j,xs=[.int j]∧∀ r,H r=none→Q (.ref r) (upd H r (rngOf r j))):=by
 intro pins s σ H xs us Q I r h
 obtain ⟨j,rfl,q⟩:=h
 obtain ⟨u,rfl,t,rfl⟩:=vals1 r
 refine call_range_1 ⟨.ref s.heap.objs.size,_,I.laid (o:=rngOf s.heap.objs.size j) (fun _ _ q=>Heap.get?_push_of_some _ q) (Nat.le_refl _) ⟨⟨_,_,_,Heap.get?_push_size _ rfl⟩,⟨_,Heap.get?_push_size _ rfl⟩,fun h1 h2 w1 hk=>?_⟩,rfl,q _ I.fresh⟩
 obtain ⟨a,b,c,e⟩:=w1
 exact ⟨a,b,c,hk _ e⟩
theorem je7 (hc:X.calm=true):CallR X (.type "list") (fun xs H Q=>∃ r j,xs=[.ref r]∧H r=some (rngOf r j)∧0 ≤ j∧j ≤ 1000∧∀ l,H l=none→Q (.ref l) (upd H l (.lst ((List.range j.toNat).map fun i:Nat=>V.int (i:Int))))):=by
 intro pins s σ H xs us Q I r h
 obtain ⟨a,j,rfl,hv,h0,h1,q⟩:=h
 obtain ⟨u,rfl,rx⟩:=vals1 r
 cases rx
 obtain ⟨t1,t2,t3,hr⟩:=(I.hok a _ hv).1
 refine call_list_range (n:=j.toNat) (I.ok.hd hc) hr (small_one (by decide) (by decide) (by omega) (by omega)) (by rw [rangeSize_one]; split <;> omega) (by omega) fun h' tk acc c' hk hD hacc=>?_
 have hvs:Vals ((List.range j.toNat).map fun i:Nat=>V.int (i:Int)) acc.toList:=vals_of (by rw [Array.length_toList]; exact hacc.1) fun i v e=>by
  obtain ⟨t,rfl⟩:=hacc.2 i v (by rw [← Array.getElem?_toList]; exact e)
  exact ⟨t,by congr 1; omega⟩
 have hs:=line63
 refine ⟨.ref s.heap.objs.size,_,I.laid (t':=tk) (o:=.lst ((List.range j.toNat).map fun i:Nat=>V.int (i:Int))) hk (Nat.le_refl _) ⟨by rw [List.length_map,List.length_range]; show _ ≤ sizeLine; exact Nat.le_trans (show j.toNat ≤ 1000 by omega) (by decide),acc.toList,c',hvs,?_⟩,rfl,q _ I.fresh⟩
 simpa using hD
end
end L2
namespace KM
open PySem L2
theorem boot_sorted:bootBuiltins "sorted"=some (.builtin "sorted"):=by first | rfl | kernel_rfl | decide +kernel
theorem boot_range':bootBuiltins "range"=some (.type "range"):=by first | rfl | kernel_rfl | decide +kernel
end KM
namespace KM
open PySem L2 KG EX
section
variable {K:PySem.W.Frag} {n:Nat} {tt:TT} {te:TE} {acc a b:Addr} {xs ys:List V} {σ₀:St} {H₀:Hp} {Q:VK}
end
end KM
namespace KM
open PySem L2 KG EX
end KM
namespace KM
open PySem L2 KG EX
end KM
namespace KM
open PySem L2 KG EX
end KM
namespace KM
open PySem L2 KG EX
section
variable {K:PySem.W.Frag} {tt:TT} {te:TE} {acc a:Addr} {s:List Int} {σ₀:St} {H₀:Hp} {Q:VK}
end
end KM
namespace KM
open PySem L2 KG EX
end KM
namespace KM
open PySem L2 KG EX
theorem divInt_pos {a b:Int} (ha:0 < a) (hb:0 < b):0 < Rat.divInt a b:=by
 have hb':(0:Rat) < (b:Rat):=Rat.intCast_pos.mpr hb
 have ha':(0:Rat) < (a:Rat):=Rat.intCast_pos.mpr ha
 rw [Rat.divInt_eq_div]
 exact div_pos ha' hb'
theorem sumQ_nonneg:∀ {l:List Rat},(∀ q ∈ l,0 ≤ q)→0 ≤ sumQ l
 | [],_=>Rat.le_refl
 | q :: l,h=>by
  rw [je3]
  have h1:=h q List.mem_cons_self
  have h2:=sumQ_nonneg (l:=l) fun z hz=>h z (List.mem_cons_of_mem _ hz)
  exact Rat.add_nonneg h1 h2
theorem sumQ_pos {l:List Rat} (hne:l ≠ []) (h:∀ q ∈ l,0 < q):0 < sumQ l:=by
 cases l with
 | nil=>exact absurd rfl hne
 | cons q l =>
  rw [je3]
  have h1:=h q List.mem_cons_self
  have h2:=sumQ_nonneg (l:=l) fun z hz=>Rat.le_of_lt (h z (List.mem_cons_of_mem _ hz))
  generalize sumQ l=s at h2
  grind
theorem moneyQ_sum (am:List Int) (qs:List Rat) (gs:List Nat):moneyQ am qs gs=sumQ (gs.map fun g=>qs.getD g 0 * ((am.getD g 0:Int):Rat)):=by
 unfold moneyQ sumQ
 rw [List.foldl_map]
theorem sumQ_rb' {qs:List Rat} {k n:Nat} (h:∀ q ∈ qs,Rb k q) (hn:qs.length ≤ n):Rb (1 + (k + 1) * n) (sumQ qs):=by
 have:=sumQ_rb h qs.length
 rw [List.take_length] at this
 exact this.mono (Nat.add_le_add_left (Nat.mul_le_mul_left _ hn) _)
def half1 (d:Nat) (h:d ≠ 0):Rat:={ num:=1,den:=d,den_nz:=h,reduced:=by simp [Nat.Coprime] }
theorem rb_16 {q:Rat} (h:0 ≤ q.num∧q.num ≤ 60000∧1 ≤ (q.den:Int)∧(q.den:Int) ≤ 2000):Rb 16 q:=by
 unfold Rb Bd
 exact ⟨by omega,by omega⟩
def spScaled:Sp:=fun vs H Q _=>∃ (b p pa pp pw:Addr) (xa xp xw:List V) (am pu wi:List PyData),vs=[.ref b,.ref p]∧Bag H b∧MkAt b H p pa pp pw xa xp xw am pu wi ∧
 ∀ (q:Addr) (ys:List V) (qs:List Rat) (H':Hp),Bag H' b→Kp b H H'→MP b H' p pa pp pw q xa xp xw ys am pu wi qs→Q (.ref q) H'
theorem prs_scale {M:List (List Int)} {qs:List Rat} {c:Rat} (h:Prs M qs) (hc:0 < c):Prs M (qs.map fun q=>qTi q c):=by
 have e:∀ j,j < qs.length→(qs.map fun q=>qTi q c).getD j 0=qs.getD j 0 * c:=fun j hj=>by simp [List.getD,List.getElem?_map,List.getElem?_eq_getElem hj,qTi]
 refine ⟨fun j hj hw=>?_,fun j hj hw=>?_⟩
 ·rw [List.length_map] at hj
  rw [e j hj]; exact Rat.mul_pos (h.pos j hj hw) hc
 ·rw [List.length_map] at hj
  rw [e j hj,h.nil j hj hw,Rat.zero_mul]
end KM
namespace L2
open PySem PySem.Spec PyProof.Rows KG
section
variable {te:TE} {acc a:Addr} {xs:List V} {cs:List (Option V)} {H₀:Hp} {Q:VK}
end
end L2
namespace KM
open PySem L2 KG EX
end KM
namespace KM
open PySem L2 KG EX
end KM
namespace KM
open PySem L2 KG EX
end KM
namespace L2
open PySem PySem.Spec PyProof.Rows KG
end L2
namespace KM
open PySem L2 KG EX
end KM
namespace PySem
open AutoSeq1 (wpAny_loadPart')
end PySem
namespace L2
open PySem PySem.Spec PyProof.Rows
section
variable {X:Cx}
end
end L2
namespace KM
open PySem L2 KG EX
end KM
namespace KM
open PySem L2 KG EX
end KM
namespace EX
open PySem PySem.Spec PyProof.Rows
section
variable {M:Model} {A:Around} {E:Value→Shared→Prop} {s:Shared} {B:Heap} {env:Env} {outer:List Env} {L e C t:Addr} {Q:Unit→Shared→Prop}
end
end EX
namespace L2
open PySem PySem.Spec PyProof.Rows EX
section
variable {X:Cx} {scope:Scope} {own cap:List Str} {ix:List Nat} {tg iter elt:Expr} {ifs:List Expr} {wi:TI} {g:TG} {tt:TT} {te:TE} {pos:Pos}
end
end L2
namespace PySem
section
variable {prog:Program} {w:World} {A:Around} {E:Value→Shared→Prop} {s:Shared} {z TI TO i1 i2 i3 l1 l2 l3:Addr} {k1 k2 k3:Nat} {xs ys us:Array Value} {x y u a b c:Value}
end
end PySem
namespace L2
open PySem PySem.Spec PyProof.Rows
section
variable {X:Cx}
end
end L2
namespace L2
open PySem PySem.Spec PyProof.Rows KG
section
variable {X:Cx}
end
end L2
namespace KM
open PySem L2 KG EX
end KM
namespace KM
open PySem L2 KG EX
end KM
namespace KM
open PySem L2 KG EX
end KM
namespace KM
open PySem L2 KG EX
end KM
namespace PySem
section
variable {prog:Program} {w:World} {A:Around} {E:Value→Shared→Prop} {s:Shared} {z TI TO i1 i2 l1 l2:Addr} {k1 k2:Nat} {xs ys:Array Value} {x y a b:Value}
end
end PySem
namespace L2
open PySem PySem.Spec PyProof.Rows
section
variable {X:Cx}
end
end L2
namespace KM
open PySem L2 KG EX
end KM
namespace MI
open PySem L2 KG EX KM
open Classical in
section
variable (K:PySem.W.Frag) (QX:Addr→Sto→Prop) (E:XK)
end
end MI
namespace MI
open PySem L2 KG EX KM
section
variable {K:PySem.W.Frag} {w:Wd} {O:Sto} {H H':Hp}
end
end MI
namespace MI
open PySem L2 KG EX KM
section
variable {K:PySem.W.Frag} {QX:Addr→Sto→Prop} {E:XK} {X:Cx} {w:Wd} {O:Sto} {H:Hp}
end
end MI
namespace MI
open PySem L2 KG EX KM
section
variable {K:PySem.W.Frag} {X:Cx}
end
end MI
namespace MI
open PySem L2 KG EX KM
section
variable {K:PySem.W.Frag} {QX:Addr→Sto→Prop} {E:XK} {X:Cx} {w:Wd} {O:Sto} {H:Hp}
end
end MI
namespace MI
open PySem L2 KG EX KM
section
variable {K:PySem.W.Frag} {QX:Addr→Sto→Prop} {E:XK} {X:Cx} {w:Wd} {O:Sto} {H:Hp}
section
variable {scope:Scope} {own cap:List Str} {ix:List Nat} {tg iter elt:Expr} {ifs:List Expr} {it:MA} {mg:MG} {C:MT} {M:ME} {pos:Pos}
end
variable {P:Program} {wo:World} {mg:Str→Option Value} {base:Heap}
end
end MI
namespace MI
open PySem L2 KG EX KM
section
variable {K:PySem.W.Frag} {QX:Addr→Sto→Prop} {E:XK} {X:Cx} {w:Wd} {O:Sto} {H:Hp}
end
end MI
namespace MI
open PySem L2 KG EX KM
section
variable {n:Nat} {ix:List Nat} {items:List AV} {M:ME} {C:MT} {sl:Slt} {O:Sto} {Q:AV→Sto→Prop}
end
end MI
namespace MI
open PySem L2 KG EX KM
section
variable {K:PySem.W.Frag} {QX:Addr→Sto→Prop} {E:XK} {X:Cx} {w:Wd} {O:Sto} {H:Hp}
section
variable {e:Expr} {M:ME} {p p2 pos:Pos}
end
end
end MI
namespace MI
open PySem L2 KG EX KM
section
variable {K:PySem.W.Frag} {w:Wd} {O:Sto} {H:Hp}
end
end MI
namespace MI
open PySem L2 KG EX KM
end MI
namespace MI
open PySem L2 KG EX KM
end MI
namespace MI
open PySem L2 KG EX KM
section
variable {O O':Sto} {k1 k2 m i:Nat} {ks1 ks2:List Nat} {W D:List (List Int)}
end
end MI
namespace MI
open PySem L2 KG EX KM
end MI
namespace MI
open PySem L2 KG EX KM
section
variable {K:PySem.W.Frag} {QX:Addr→Sto→Prop} {E:XK} {X:Cx}
end
section
variable {n:Nat} {ix:List Nat} {sl:Slt} {O:Sto} {Q:AV→Sto→Prop}
end
end MI
namespace MI
open PySem L2 KG EX KM
end MI
namespace MI
open PySem L2 KG EX KM
end MI
namespace MI
open PySem L2 KG EX KM
section
variable {K:PySem.W.Frag}
end
section
variable {A:List Int} {Pu qs:List Rat} {W:List (List Int)} {D:List (List Rat)} {g:Nat}
end
end MI
namespace MI
open PySem L2 KG EX KM
section
variable {K:PySem.W.Frag} {QX:Addr→Sto→Prop} {E:XK} {X:Cx}
end
section
variable {n:Nat} {ix:List Nat} {items:List AV} {M:ME} {sl:Slt} {O:Sto} {Q:AV→Sto→Prop}
end
end MI
namespace MI
open PySem L2 KG EX KM
end MI
namespace L2
open PySem PySem.Spec PyProof.Rows EX
end L2
namespace MI
open PySem L2 KG EX KM
end MI
namespace MI
open PySem L2 KG EX KM
end MI
namespace MI
open PySem L2 KG EX KM
section
variable {K:PySem.W.Frag} {QX:Addr→Sto→Prop} {E:XK} {X:Cx} {w:Wd} {O:Sto} {H:Hp}
end
end MI
namespace MI
open PySem L2 KG EX KM
section
variable {K:PySem.W.Frag} {QX:Addr→Sto→Prop} {E:XK} {X:Cx} {w:Wd} {O:Sto} {H:Hp}
end
end MI
namespace L2
open PySem PySem.Spec PyProof.Rows
section
variable {X:Cx}
end
end L2
namespace L2
open PySem PySem.Spec PyProof.Rows
section
variable {X:Cx}
end
end L2
namespace TX
open PySem L2
end TX
namespace KM
open PySem L2 KG
end KM
namespace MI
open PySem L2 KG EX KM TX
section
variable {K:PySem.W.Frag} {QX:Addr→Sto→Prop} {E:XK} {X:Cx}
end
end MI
namespace L2
open PySem PySem.Spec PyProof.Rows
end L2
namespace L2
open PySem PySem.Spec PyProof.Rows
section
variable {X:Cx}
end
end L2
namespace TX
open PySem L2
end TX
namespace MI
open PySem L2 KG EX KM TX
section
variable {K:PySem.W.Frag} {QX:Addr→Sto→Prop} {E:XK} {X:Cx}
end
end MI
namespace L2
open PySem PySem.Spec PyProof.Rows
end L2
namespace MI
open PySem L2 KG EX KM
end MI
namespace MI
open PySem L2 KG EX KM
section
variable {K:PySem.W.Frag} {QX:Addr→Sto→Prop} {E:XK} {X:Cx}
end
end MI
namespace ST
open PySem
def Up (xs:Array Nat):Prop:=∀ i k,i < k→k < xs.size→xs.getD i 0 < xs.getD k 0
def Bel (xs:Array Nat) (j r:Nat):Prop:=r ≤ xs.size∧(∀ i,i < r→xs.getD i 0 < j)∧∀ i,r ≤ i→i < xs.size→j ≤ xs.getD i 0
theorem go_spec (xs:Array Nat) (j:Nat) (h:Up xs):∀ (fuel lo hi:Nat),lo ≤ hi→hi ≤ xs.size→hi - lo ≤ fuel→(∀ i,i < lo→xs.getD i 0 < j)→(∀ i,hi ≤ i→i < xs.size→j ≤ xs.getD i 0) →
  Bel xs j (SetTable.below.go xs j fuel lo hi)
 | 0,lo,hi,h1,h2,h3,h4,h5=>by
  have e:lo=hi:=by omega
  subst e
  exact ⟨h2,h4,h5⟩
 | fuel + 1,lo,hi,h1,h2,h3,h4,h5=>by
  have e0:SetTable.below.go xs j (fuel + 1) lo hi=(if lo < hi then (if xs.getD ((lo + hi) / 2) j < j then SetTable.below.go xs j fuel ((lo + hi) / 2 + 1) hi else SetTable.below.go xs j fuel lo ((lo + hi) / 2)) else lo):=rfl
  rw [e0]
  by_cases hl:lo < hi
  ·have hm:(lo + hi) / 2 < xs.size:=by omega
   have e:xs.getD ((lo + hi) / 2) j=xs.getD ((lo + hi) / 2) 0:=by simp [Array.getD,hm]
   rw [if_pos hl,e]
   by_cases hc:xs.getD ((lo + hi) / 2) 0 < j
   ·rw [if_pos hc]
    refine go_spec xs j h fuel _ _ (by omega) h2 (by omega) (fun i hi'=>?_) h5
    rcases Nat.lt_or_ge i ((lo + hi) / 2) with z | z
    ·exact Nat.lt_trans (h i _ z hm) hc
    ·have:i=(lo + hi) / 2:=by omega
     rw [this]; exact hc
   ·rw [if_neg hc]
    refine go_spec xs j h fuel _ _ (by omega) (by omega) (by omega) h4 (fun i hi' his=>?_)
    rcases Nat.lt_or_ge ((lo + hi) / 2) i with z | z
    ·have:=h _ i z his; omega
    ·have:i=(lo + hi) / 2:=by omega
     rw [this]; omega
  ·rw [if_neg hl]
   have e:lo=hi:=by omega
   subst e
   exact ⟨h2,h4,h5⟩
theorem below_spec {xs:Array Nat} (h:Up xs) (j:Nat):Bel xs j (SetTable.below xs j) :=
 go_spec xs j h xs.size 0 xs.size (Nat.zero_le _) (Nat.le_refl _) (by omega) (fun i z=>by omega) (fun i a b=>by omega)
theorem below_zero {xs:Array Nat} (h:Up xs):SetTable.below xs 0=0:=by
 obtain ⟨h1,h2,h3⟩:=below_spec h 0
 rcases Nat.eq_zero_or_pos (SetTable.below xs 0) with z | z
 ·exact z
 ·have:=h2 0 z; omega
theorem below_next {xs:Array Nat} (h:Up xs) {i:Nat} (hi:i < xs.size):SetTable.below xs (xs.getD i 0 + 1)=i + 1:=by
 obtain ⟨h1,h2,h3⟩:=below_spec h (xs.getD i 0 + 1)
 rcases Nat.lt_trichotomy (SetTable.below xs (xs.getD i 0 + 1)) (i + 1) with z | z | z
 ·have:=h3 i (by omega) hi; omega
 ·exact z
 ·have:=h2 (i + 1) z
  have:=h i (i + 1) (by omega) (by omega); omega
theorem ins_size {α : Type} (xs:Array α) (p:Nat) (x:α) (hp:p ≤ xs.size):(SetTable.insertAt xs p x).size=xs.size + 1:=by
 unfold SetTable.insertAt
 simp
 omega
theorem ins_list {α : Type} (xs:Array α) (p:Nat) (x:α) (hp:p ≤ xs.size):(SetTable.insertAt xs p x).toList=xs.toList.take p ++ x :: xs.toList.drop p:=by
 unfold SetTable.insertAt
 simp [List.take_of_length_le]
end ST
namespace ST
open PySem PySem.Spec PyProof.Rows
def ks (m:Nat):List Nat:=(List.range 6).filter fun k=>m.testBit k
def tmk (m:Nat):Nat:=if 5 ≤ (ks m).length then 31 else 7
def tb (m fg mv:Nat) (b:Bool):SetTable:={ mask:=tmk m,place:=(ks m).toArray,dummies:=#[],finger:=fg,led:=b,moves:=mv,plain:=true }
def bit (m k:Nat):Nat:=m ||| 1 <<< k
theorem all2 {p:Nat→Nat→Bool} (h:((List.range 64).all fun m=>(List.range 6).all fun k=>p m k)=true) {m k:Nat} (hm:m < 64) (hk:k < 6):p m k=true :=
 List.all_eq_true.mp (List.all_eq_true.mp h m (List.mem_range.mpr hm)) k (List.mem_range.mpr hk)
theorem ins_ks {m k:Nat} (hm:m < 64) (hk:k < 6) (h:m.testBit k=false):SetTable.insertAt (ks m).toArray (SetTable.below (ks m).toArray k) k=(ks (bit m k)).toArray∧SetTable.below (ks m).toArray k ≤ (ks m).length∧(ks (bit m k))=(ks m).take (SetTable.below (ks m).toArray k) ++ k :: (ks m).drop (SetTable.below (ks m).toArray k):=by
 have:=all2 (p:=fun m k=>m.testBit k || (decide (SetTable.insertAt (ks m).toArray (SetTable.below (ks m).toArray k) k=(ks (bit m k)).toArray) && decide (SetTable.below (ks m).toArray k ≤ (ks m).length) && decide ((ks (bit m k))=(ks m).take (SetTable.below (ks m).toArray k) ++ k :: (ks m).drop (SetTable.below (ks m).toArray k)))) (by decide +kernel) hm hk
 simp only [h,Bool.false_or,Bool.and_eq_true,decide_eq_true_eq] at this
 exact ⟨this.1.1,this.1.2,this.2⟩
theorem free_ks {m k:Nat} (hm:m < 64) (hk:k < 6) (h:m.testBit k=false):((ks m).toArray[SetTable.below (ks m).toArray k]? == some k)=false∧SetTable.bits (k:Int) % (tmk m + 1)=k:=by
 have:=all2 (p:=fun m k=>m.testBit k || (!((ks m).toArray[SetTable.below (ks m).toArray k]? == some k) && decide (SetTable.bits (k:Int) % (tmk m + 1)=k))) (by decide +kernel) hm hk
 simp only [h,Bool.false_or,Bool.and_eq_true,decide_eq_true_eq,Bool.not_eq_true'] at this
 exact this
theorem bit_lt {m k:Nat} (hm:m < 64) (hk:k < 6):bit m k < 64:=by
 have:=all2 (p:=fun m k=>decide (bit m k < 64)) (by decide +kernel) hm hk
 simpa using this
theorem bit_old {m k:Nat} (hm:m < 64) (hk:k < 6) (h:m.testBit k=true):bit m k=m:=by
 have:=all2 (p:=fun m k=>!m.testBit k || decide (bit m k=m)) (by decide +kernel) hm hk
 simpa [h] using this
theorem mem_ks {m k:Nat}:k ∈ ks m ↔ k < 6∧m.testBit k=true:=by simp [ks]
theorem ks_len (m:Nat):(ks m).length ≤ 6:=by
 have:=List.length_filter_le (fun k=>m.testBit k) (List.range 6)
 simpa [ks] using this
theorem slot_ks {m k fg mv:Nat} {b:Bool} (hm:m < 64) (hk:k < 6) (h:m.testBit k=false):(tb m fg mv b).slot k=.empty:=by
 unfold SetTable.slot
 show (if ((ks m).toArray[SetTable.below (ks m).toArray k]? == some k)=true then _ else if SetTable.has #[] k=true then _ else _)=_
 rw [(free_ks hm hk h).1,if_neg Bool.false_ne_true]
 rfl
theorem freeSlot_ks {m k fg mv:Nat} {b:Bool} (hm:m < 64) (hk:k < 6) (h:m.testBit k=false):(tb m fg mv b).freeSlot (k:Int)=some (k,false):=by
 unfold SetTable.freeSlot
 have e:SetTable.probe (tb m fg mv b) (fun _=>(k:Int) + 1) k ((tb m fg mv b).probeStart k)=some (.empty k none):=by
  unfold SetTable.probe
  have hj:((tb m fg mv b).probeStart (k:Int)).j=k:=(free_ks hm hk h).2
  obtain ⟨n,hn⟩:∃ n,10 * SetTable.turns (tb m fg mv b).mask=n + 1:=⟨10 * SetTable.turns (tb m fg mv b).mask - 1,by unfold SetTable.turns; omega⟩
  rw [hn]
  unfold SetTable.probe.go
  rw [hj,slot_ks hm hk h]
  rfl
 rw [e]
 rfl
theorem fits_ks {m fg mv n:Nat} {b:Bool} (h:n=(ks m).length):(tb m fg mv b).fits n=true:=by
 subst h
 have:=ks_len m
 unfold SetTable.fits
 simp [tb,SetTable.fill,tmk]
 split <;> omega
end ST
namespace ST
open PySem PySem.Spec PyProof.Rows
def tb' (m k fg mv:Nat) (b:Bool):SetTable:={ mask:=tmk m,place:=(ks (bit m k)).toArray,dummies:=#[],finger:=fg,led:=b,moves:=mv,plain:=true }
theorem sz_ks {m k:Nat} (hm:m < 64) (hk:k < 6) (h:m.testBit k=false):(ks (bit m k)).length=(ks m).length + 1∧((ks (bit m k)).length * 5 ≥ tmk m * 3 ↔ (ks (bit m k)).length=5)∧((ks (bit m k)).length ≠ 5→tmk (bit m k)=tmk m)∧((ks (bit m k)).length=5→tmk (bit m k)=31):=by
 have:=all2 (p:=fun m k=>m.testBit k || (decide ((ks (bit m k)).length=(ks m).length + 1) && decide ((ks (bit m k)).length * 5 ≥ tmk m * 3 ↔ (ks (bit m k)).length=5) && decide ((ks (bit m k)).length ≠ 5→tmk (bit m k)=tmk m) && decide ((ks (bit m k)).length=5→tmk (bit m k)=31))) (by decide +kernel) hm hk
 simp only [h,Bool.false_or,Bool.and_eq_true,decide_eq_true_eq] at this
 exact ⟨this.1.1.1,this.1.1.2,this.1.2,this.2⟩
theorem lay_ks {m k fg mv:Nat} {b:Bool} (hm:m < 64) (hk:k < 6) (h:m.testBit k=false) (es:Array (Int × Value)) (he:es.size=(ks m).length) (x:Value) :
  layNew (tb m fg mv b) es (k:Int) x=(SetTable.insertAt es (SetTable.below (ks m).toArray k) (k,x),tb' m k fg mv b,false,false):=by
 have hp:(tb m fg mv b).put k=(tb' m k fg mv b,SetTable.below (ks m).toArray k):=by
  unfold SetTable.put
  show (({ mask:=tmk m,place:=SetTable.insertAt (ks m).toArray (SetTable.below (ks m).toArray k) k,dummies:=if SetTable.has #[] k=true then SetTable.eraseAt #[] (SetTable.below #[] k) else #[],finger:=fg,led:=b,moves:=mv,plain:=true }:SetTable),SetTable.below (ks m).toArray k)=_
  rw [(ins_ks hm hk h).1]
  rfl
 have hs:(SetTable.insertAt es (SetTable.below (ks m).toArray k) ((k:Int),x)).size=(ks (bit m k)).length:=by
  rw [ins_size _ _ _ (by rw [he]; exact (ins_ks hm hk h).2.1),he,(sz_ks hm hk h).1]
 have hf:(tb' m k fg mv b).fits (ks (bit m k)).length=true:=by
  have h1:=ks_len (bit m k)
  unfold SetTable.fits
  simp [tb',SetTable.fill,tmk]
  split <;> omega
 unfold layNew
 rw [freeSlot_ks hm hk h]
 simp only [hp,hs]
 unfold SetTable.orStandIn
 rw [hf]
 rfl
def live (mask:Nat) (hs:Array Int):Option (List (Nat × Nat)):=(SetTable.layClean mask hs).map fun owner=>(List.range (mask + 1)).filterMap fun j=>(owner.getD j none).map (j,·)
theorem live_ks {m:Nat} (hm:m < 64) (h:(ks m).length=5):live 31 ((ks m).map fun i:Nat=>(i:Int)).toArray=some ((ks m).zip (List.range 5)):=by
 have:((List.range 64).all fun m=>!((ks m).length == 5) || decide (live 31 ((ks m).map fun i:Nat=>(i:Int)).toArray=some ((ks m).zip (List.range 5))))=true:=by decide +kernel
 have:=List.all_eq_true.mp this m (List.mem_range.mpr hm)
 simpa [h] using this
theorem laid_ks {m fg mv:Nat} {b:Bool} (hm:m < 64) (h:(ks m).length=5):SetTable.laid 31 fg mv b true ((ks m).map fun i:Nat=>(i:Int)).toArray=some ({ mask:=31,place:=(ks m).toArray,dummies:=#[],finger:=fg,led:=b,moves:=mv,plain:=true },(List.range 5).toArray):=by
 have hl:=live_ks hm h
 unfold live at hl
 unfold SetTable.laid
 cases e:SetTable.layClean 31 ((ks m).map fun i:Nat=>(i:Int)).toArray with
 | none=>rw [e] at hl; cases hl
 | some owner =>
  rw [e] at hl
  injection hl with hl
  dsimp only at hl
  show some (({ mask:=31,place:=((List.map (fun x=>x.1) ((List.range (31 + 1)).filterMap fun j=>(owner.getD j none).map (j,·)))).toArray,dummies:=#[],finger:=fg,led:=b,moves:=mv,plain:=true }:SetTable),(List.map (fun x=>x.2) ((List.range (31 + 1)).filterMap fun j=>(owner.getD j none).map (j,·))).toArray)=_
  rw [hl]
  have z1:List.map (fun x=>x.1) ((ks m).zip (List.range 5))=ks m:=List.map_fst_zip (by simp [h])
  have z2:List.map (fun x=>x.2) ((ks m).zip (List.range 5))=List.range 5:=List.map_snd_zip (by simp [h])
  rw [z1,z2]
theorem relay_ks {m k fg mv:Nat} {b:Bool} (hm:m < 64) (hk:k < 6) (hb:m.testBit k=false) (h:(ks (bit m k)).length=5) (es:Array (Int × Value)) (he:es.toList.map (·.1)=(ks (bit m k)).map fun i:Nat=>(i:Int)) :
  ∃ mv',relayAll (tb' m k fg mv b) es (SetTable.grown es.size)=(es,tb (bit m k) fg mv' b,false):=by
 have hs:es.size=5:=by
  have:=congrArg List.length he
  simpa [h] using this
 have hh:es.map (·.1)=((ks (bit m k)).map fun i:Nat=>(i:Int)).toArray:=by
  apply Array.toList_inj.mp
  rw [Array.toList_map,he]
 refine ⟨(tb' m k fg mv b).movedTo 31,?_⟩
 unfold relayAll SetTable.relaid
 rw [hs,hh]
 show (match SetTable.laid 31 fg ((tb' m k fg mv b).movedTo 31) b true ((ks (bit m k)).map fun i:Nat=>(i:Int)).toArray with | some (t',order)=>_ | none=>_)=_
 rw [laid_ks (bit_lt hm hk) h]
 have ho:Array.filterMap (fun x=>es[x]?) (List.range 5).toArray=es:=by
  apply Array.toList_inj.mp
  have:∀ l:List (Int × Value),l.length=5→List.filterMap (fun x=>l[x]?) (List.range 5)=l:=by
   intro l hl
   match l,hl with
   | [a,b,c,d,e],_=>rfl
  simpa using this es.toList (by simpa using hs)
 have ht:({ mask:=31,place:=(ks (bit m k)).toArray,dummies:=#[],finger:=fg,led:=b,moves:=(tb' m k fg mv b).movedTo 31,plain:=true }:SetTable)=tb (bit m k) fg ((tb' m k fg mv b).movedTo 31) b:=by
  unfold tb
  rw [(sz_ks hm hk hb).2.2.2 h]
 have hc:coversAll (List.range 5).toArray 5=true:=by decide +kernel
 dsimp only
 rw [ho,ht,hs,hc,fits_ks h.symm]
 rfl
end ST
namespace ST
open PySem PySem.Spec PyProof.Rows
section
variable {P:Program} {w:World} {A:Around} {E:Value→Shared→Prop} {s:Shared} {a:Addr} {b:Bool} {m:Nat}
structure EsK (m:Nat) (es:Array (Int × Value)):Prop where
 keys:es.toList.map (·.1)=(ks m).map fun i:Nat=>(i:Int)
 its:∀ e ∈ es.toList,∃ t,e.2=.int e.1 t
def SetO (m:Nat) (b:Bool) (o:Obj):Prop:=∃ (es:Array (Int × Value)) (ep fg mv:Nat),o.ExactSet∧o.data=.set es ep (tb m fg mv b)∧EsK m es
theorem EsK.size {es:Array (Int × Value)} (h:EsK m es):es.size=(ks m).length:=by
 have:=congrArg List.length h.keys
 simpa using this
theorem EsK.key {es:Array (Int × Value)} (h:EsK m es) {e:Int × Value} (he:e ∈ es.toList):∃ i:Nat,i ∈ ks m∧e.1=(i:Int)∧∃ t,e.2=.int i t:=by
 have:e.1 ∈ (ks m).map fun i:Nat=>(i:Int):=by rw [← h.keys]; exact List.mem_map.mpr ⟨e,he,rfl⟩
 obtain ⟨i,hi,e1⟩:=List.mem_map.mp this
 obtain ⟨t,e2⟩:=h.its e he
 exact ⟨i,hi,e1.symm,t,by rw [e2,← e1]⟩
theorem hash_small {i:Nat} (h:i < 6):hashInt (i:Int)=(i:Int):=by
 have:∀ i:Fin 6,hashInt ((i:Nat):Int)=((i:Nat):Int):=by decide +kernel
 exact this ⟨i,h⟩
theorem int_is (k:Int) (t:Tok):(intKind P w).is k (.int k t)=true:=by
 show Value.isInt k (.int k t)=true
 unfold Value.isInt
 simp
theorem is_int {k:Int} {n:Int} {t:Tok} (h:(intKind P w).is k (.int n t)=true):n=k:=by
 have h':Value.isInt k (.int n t)=true:=h
 have:(n == k)=true ∨ (k == n)=true:=by first | exact .inl h' | exact .inr h'
 rcases this with e | e
 ·exact eq_of_beq e
 ·exact (eq_of_beq e).symm
theorem EsK.elems {es:Array (Int × Value)} (h:EsK m es):ElemsOf (intKind P w) es.toList:=by
 intro e he
 obtain ⟨i,hi,e1,t,e2⟩:=h.key he
 refine ⟨⟨(i:Int),by rw [e2]; exact int_is _ _,?_⟩,by rw [e2]; rfl⟩
 have h1:(intKind P w).hash (i:Int)=hashInt (i:Int):=rfl
 first
 | (rw [e1,h1]; exact (hash_small (mem_ks.mp hi).1).symm)
 | (rw [e1,h1]; exact hash_small (mem_ks.mp hi).1)
theorem EsK.ins {es:Array (Int × Value)} (h:EsK m es) (hm:m < 64) {k:Nat} (hk:k < 6) (hb:m.testBit k=false) (tok:Tok):EsK (bit m k) (SetTable.insertAt es (SetTable.below (ks m).toArray k) ((k:Int),.int k tok)):=by
 obtain ⟨_,i2,i3⟩:=ins_ks hm hk hb
 have hl:(SetTable.insertAt es (SetTable.below (ks m).toArray k) ((k:Int),Value.int k tok)).toList=es.toList.take (SetTable.below (ks m).toArray k) ++ ((k:Int),Value.int k tok) :: es.toList.drop (SetTable.below (ks m).toArray k):=ins_list _ _ _ (by rw [h.size]; exact i2)
 refine ⟨?_,fun e he=>?_⟩
 ·rw [hl,i3,List.map_append,List.map_cons,List.map_take,List.map_drop,h.keys,List.map_append,List.map_cons,List.map_take,List.map_drop]
 ·rw [hl] at he
  rcases List.mem_append.mp he with z | z
  ·exact h.its e (List.mem_of_mem_take z)
  ·rcases List.mem_cons.mp z with z | z
   ·subst z; exact ⟨tok,rfl⟩
   ·exact h.its e (List.mem_of_mem_drop z)
theorem set_put {h:Heap} {o:Obj} {es:Array (Int × Value)} {ep:Nat} {t:SetTable} (ho:h.get? a=some o) (hd:o.data=.set es ep t) {es':Array (Int × Value)} {t':SetTable} :
  (h.update a (Obj.putSet es' t')).get? a=some { o with data:=.set es' (ep + 1) t' }:=by
 have:=Heap.get?_update_self (Obj.putSet es' t') ho (by rw [putSet_of es' t' hd]; rfl)
 rw [putSet_of es' t' hd] at this; exact this
theorem small_bound {n:Nat} (h:n ≤ 6):n < scanBound:=by
 have:scanBound=4096:=rfl
 omega
theorem add_tail {g:Bool→Sem Unit} (hg:∀ (c:Bool) (s1:Shared) (Q1:Unit→Shared→Prop),Q1 () s1→wpAny (model P w) A (g c) Q1 E s1) {o:Obj} {es:Array (Int × Value)} {ep:Nat} {t:SetTable} (ho:s.heap.get? a=some o) (hx:o.ExactSet) (hd:o.data=.set es ep t)
  (hm:m < 64) {k fg mv:Nat} (hk:k < 6) (hb:m.testBit k=false) {es1:Array (Int × Value)} (hE:EsK (bit m k) es1) {R:Option Bool→Shared→Prop}
  (q:∀ h' o',Heap.SameBut a s.heap h'→h'.get? a=some o'→SetO (bit m k) b o'→R (some true) { s with heap:=h' }) :
  wpAny (model P w) A (do
    storeSet a es1 (tb' m k fg mv b)
    if (!false && (tb' m k fg mv b).tooFull)=true then do
      g (relayAll (tb' m k fg mv b) es1 (SetTable.grown es1.size)).2.2
      storeSet a (relayAll (tb' m k fg mv b) es1 (SetTable.grown es1.size)).1 (relayAll (tb' m k fg mv b) es1 (SetTable.grown es1.size)).2.1
      pure (some true)
     else pure (some true)) R E s:=by
 have z1:es1.size < scanBound:=by rw [hE.size]; exact small_bound (ks_len _)
 refine wpAny_bind (wpAny_storeSet_of ho hd ?_ (fits_of_scanBound z1))
 have o1:=set_put (es':=es1) (t':=tb' m k fg mv b) ho hd
 have b1:=Heap.SameBut.update s.heap a (Obj.putSet es1 (tb' m k fg mv b))
 obtain ⟨_,f1,f2,_⟩:=sz_ks hm hk hb
 have hfull:(!false && (tb' m k fg mv b).tooFull)=decide ((ks (bit m k)).length * 5 ≥ tmk m * 3):=by
  simp [SetTable.tooFull,SetTable.fill,tb']
 rw [hfull]
 split
 ·rename_i h5
  have h5:(ks (bit m k)).length=5:=f1.mp (by simpa using h5)
  obtain ⟨mv',er⟩:=relay_ks (fg:=fg) (mv:=mv) (b:=b) hm hk hb h5 es1 hE.keys
  rw [er]
  dsimp only
  refine wpAny_bind (hg _ _ _ ?_)
  refine wpAny_bind (wpAny_storeSet_of o1 rfl ?_ (fits_of_scanBound z1))
  exact wpAny_pure (q _ _ (b1.trans (Heap.SameBut.update _ a _)) (set_put o1 rfl) ⟨es1,_,fg,mv',hx,rfl,hE⟩)
 ·rename_i h5
  have h5:(ks (bit m k)).length ≠ 5:=fun e=>h5 (by simpa using f1.mpr e)
  have et:tb' m k fg mv b=tb (bit m k) fg mv b:=by
   unfold tb' tb
   rw [f2 h5]
  exact wpAny_pure (q _ _ b1 o1 ⟨es1,_,fg,mv,hx,by rw [et],hE⟩)
theorem add_hashed {o:Obj} {k:Nat} {tok:Tok} {Q:Bool→Shared→Prop} (ho:s.heap.get? a=some o) (I:SetO m b o) (hm:m < 64) (hk:k < 6)
  (q:∀ h' o' r,Heap.SameBut a s.heap h'→h'.get? a=some o'→SetO (bit m k) b o'→Q r { s with heap:=h' }):wpAny (model P w) A (setAddHashed a (.int k tok) (k:Int)) Q E s:=by
 obtain ⟨es,ep,fg,mv,hx,hd,hE⟩:=id I
 have hf:(tb m fg mv b).fits es.size=true:=fits_ks hE.size
 have hz:es.size < scanBound:=by rw [hE.size]; exact small_bound (ks_len _)
 have hel:ElemsOf (intKind P w) es.toList:=hE.elems
 unfold setAddHashed
 refine wpAny_holding ?_
 rw [setAddHashedIn]
 refine wpAny_bind (wpAny_setState_of ho hd hf ?_)
 simp only []
 rw [if_pos (byScan_of rfl hz hel)]
 refine wpAny_bind ?_
 unfold setAddByScan
 refine wpAny_bind (wpAny_rule ?_)
 have hh:(k:Int)=(intKind P w).hash (k:Int):=(hash_small hk).symm
 refine wpAny_bind ?_
 have key:=@wpAny_setScan_of
 refine Eq.mp (congrArg (fun z=>wpAny (model P w) A (setScan a (.int k tok) z true es) _ E s) hh.symm) ?_
 refine wpAny_setScan_of (k:=(k:Int)) (int_is k tok) ho hd hf hel ?_
 cases hi:List.findIdx? (fun e=>(intKind P w).is (k:Int) e.2) es.toList with
 | some j =>
  have hb:m.testBit k=true:=by
   obtain ⟨hj,h1,_⟩:=List.findIdx?_eq_some_iff_getElem.mp hi
   obtain ⟨i,hi2,_,tt,e⟩:=hE.key (List.getElem_mem hj)
   rw [e] at h1
   have:(i:Int)=(k:Int):=is_int h1
   have:i=k:=by omega
   subst this
   exact (mem_ks.mp hi2).2
  refine wpAny_pure (wpAny_pure ?_)
  exact q s.heap o false (Heap.SameBut.refl _ _) ho (by rw [bit_old hm hk hb]; exact I)
 | none =>
  have hb:m.testBit k=false:=by
   cases z:m.testBit k with
   | false=>rfl
   | true =>
    have hk1:(k:Int) ∈ es.toList.map (·.1):=by rw [hE.keys]; exact List.mem_map.mpr ⟨k,mem_ks.mpr ⟨hk,z⟩,rfl⟩
    obtain ⟨e,he,e1⟩:=List.mem_map.mp hk1
    obtain ⟨t,e2⟩:=hE.its e he
    have:=List.findIdx?_eq_none_iff.mp hi e he
    rw [e2,e1,int_is] at this; cases this
  dsimp only
  rw [lay_ks hm hk hb es hE.size]
  dsimp only
  have hend:∀ h' o',Heap.SameBut a s.heap h'→h'.get? a=some o'→SetO (bit m k) b o'→Q true { s with heap:=h' }:=fun h' o'=>q h' o' true
  refine wpAny_bind (wpAny_pure ?_)
  rw [if_pos (show (tb' m k fg mv b).plain=true from rfl)]
  refine wpAny_bind ?_
  rw [hashByValue_scannable 8 (show (Value.int (k:Int) tok).scannable=true from rfl)]
  refine wpAny_pure ?_
  refine add_tail ?_ ho hx hd hm hk hb (hE.ins hm hk hb tok) fun h' o' i1 i2 i3=>?_
  ·intro c s1 Q1 h
   cases c <;> first | exact wpAny_pure h | exact wpAny_rule h
  ·exact wpAny_pure (hend h' o' i1 i2 i3)
end
end ST
namespace L2
open PySem PySem.Spec PyProof.Rows ST
def bW (w:World):Bool:=!(w.params.followText "set-order")
def setH (a:Addr) (m:Nat) (b:Bool):HO:=.ext fun h=>∃ o,h.get? a=some o∧SetO m b o
theorem setH_ok {P:Program} {w:World} {H:Hp} {h:Heap} {a:Addr} {m:Nat} {b:Bool} {o:Obj} (ho:h.get? a=some o) (I:SetO m b o):ObjOk P w H h a (setH a m b) :=
 ⟨⟨o,ho,I⟩,⟨o,ho⟩,fun h1 h2 ⟨o1,e1,i1⟩ k=>⟨o1,k _ e1,i1⟩⟩
theorem SetO.cls {m:Nat} {b:Bool} {o:Obj} (I:SetO m b o):o.cls=.type "set":=by
 obtain ⟨es,ep,fg,mv,hx,_⟩:=I
 exact hx.1
section
variable {X:Cx} {pins:List (Addr × Obj)} {σ:St} {H:Hp} {s:Shared} {a:Addr} {A:Around} {E:Value→Shared→Prop}
theorem s_add {m k:Nat} {b:Bool} {u:Value} {Q:Value→Shared→Prop} (I:Inv X pins σ H s) (e:H a=some (setH a m b)) (ru:RelV (.int (k:Int)) u) (hm:m < 64) (hk:k < 6)
  (h:∀ s',Inv X pins σ (upd H a (setH a (bit m k) b)) s'→Q .none s'):wpAny (model X.prog X.w) A (call (.builtin "set.add") [.ref a,u]) Q E s:=by
 obtain ⟨t,rfl⟩:=ru
 obtain ⟨⟨o,ho,hO⟩,_⟩:=I.hok a _ e
 refine wpAny_call_entry F.slot_set_add ⟨o,ho,SetO.cls hO⟩ F.entry_set_add ?_ (F.args_set_add_2 _ _)
 show wpAny _ _ (setAdd a (.int (k:Int) t) >>= fun _=>ret .none) _ _ s
 refine wpAny_bind ?_
 unfold setAdd
 refine wpAny_holding (wpAny_bind (wpAny_pyHash_int ?_))
 rw [hash_small hk]
 refine add_hashed (s:={ s with toks:=s.toks + 1 }) ho hO hm hk fun h' o' r i1 i2 i3=>?_
 refine wpAny_pure ⟨_,rfl,h _ ?_⟩
 exact d_write (t':=s.toks + 1) (I.tok _) (by rw [e]; exact True.intro) i1 ⟨o',i2⟩ (setH_ok i2 i3)
theorem s_new {Q:Value→Shared→Prop} (h:Q (.ref s.heap.objs.size) { s with heap:=s.heap.push { cls:=.type "set",dict:=none,data:=.set #[] 0 (tb 0 0 0 (bW X.w)) } }):wpAny (model X.prog X.w) A (newSet (.type "set")) Q E s:=by
 unfold newSet setsByText
 refine wpAny_bind (wpAny_bind (wpAny_askSetting (wpAny_pure ?_)))
 dsimp only
 simp only [newObj]
 exact wpAny_bind (wpAny_alloc (wpAny_pure h))
theorem s_new_inv (I:Inv X pins σ H s):Inv X pins σ (upd H s.heap.objs.size (setH s.heap.objs.size 0 (bW X.w))) { s with heap:=s.heap.push { cls:=.type "set",dict:=none,data:=.set #[] 0 (tb 0 0 0 (bW X.w)) } } :=
 I.laid (t':=s.toks) (o:=setH s.heap.objs.size 0 (bW X.w)) (fun _ _ q=>Heap.get?_push_of_some _ q) (Nat.le_refl _) (setH_ok (Heap.get?_push_size _ rfl) ⟨#[],0,0,0,⟨rfl,rfl,rfl⟩,rfl,⟨rfl,fun e he=>by simp at he⟩⟩)
end
end L2
namespace ST
open PySem PySem.Spec PyProof.Rows
theorem slot_si_next:Slot "set_iterator" "__next__" "set_iterator.__next__" :=
 .of (owner:="set_iterator") (n:="__next__") (by rw [typeLookup_type,builtinLookup_eq_fast]; kernel_rfl) (by decide +kernel) (by decide +kernel) (by decide +kernel)
  (by first | exact .inl (by decide +kernel) | exact .inr (by decide +kernel)) (by rw [isSubtype_type]; kernel_rfl)
theorem slot_si_iter:Slot "set_iterator" "__iter__" "set_iterator.__iter__" :=
 .of (owner:="set_iterator") (n:="__iter__") (by rw [typeLookup_type,builtinLookup_eq_fast]; kernel_rfl) (by decide +kernel) (by decide +kernel) (by decide +kernel)
  (by first | exact .inl (by decide +kernel) | exact .inr (by decide +kernel)) (by rw [isSubtype_type]; kernel_rfl)
theorem entry_si_next:entryFor table "set_iterator.__next__"=some Builtin.«set_iterator.__next__»:=entryFor_of_tree (by kernel_rfl)
theorem entry_si_iter:entryFor table "set_iterator.__iter__"=some Builtin.«dict_keyiterator.__iter__» :=
 entryFor_alias (id':="dict_keyiterator.__iter__") (by kernel_rfl) rfl (by decide +kernel) (by kernel_rfl)
theorem entry_set_iter:entryFor table "set.__iter__"=some Builtin.«frozenset.__iter__» :=
 entryFor_alias (id':="frozenset.__iter__") (by kernel_rfl) rfl (by decide +kernel) (by kernel_rfl)
theorem args_si_next (a:Value):argsOk "set_iterator.__next__" ⟨[a],[]⟩:=by unfold argsOk; kernel_rfl
theorem args_si_iter (a:Value):argsOk "set_iterator.__iter__" ⟨[a],[]⟩:=by unfold argsOk; kernel_rfl
theorem cons_eraseIdx {α : Type}:∀ {l:List α} {i:Nat} (h:i < l.length),([l[i]] ++ l.eraseIdx i).Perm l
 | [],i,h=>absurd h (by simp)
 | a :: l,0,h=>List.Perm.refl _
 | a :: l,i + 1,h=>by
  have h':i < l.length:=by simpa using h
  show (l[i] :: a :: l.eraseIdx i).Perm (a :: l)
  exact (List.Perm.swap _ _ _).trans (List.Perm.cons a (cons_eraseIdx h'))
theorem pick_go {α : Type} (f:Nat→Nat):∀ (n k:Nat) (l:List α) (out:Array α),l.length=n→(pickOrder.go f n k l out).toList.Perm (out.toList ++ l)
 | 0,k,l,out,h=>by
  have:l=[]:=List.eq_nil_of_length_eq_zero h
  subst this
  show out.toList.Perm _
  simp
 | n + 1,k,l,out,h=>by
  have hi:f k % l.length < l.length:=Nat.mod_lt _ (by omega)
  have e0:pickOrder.go f (n + 1) k l out=(match l[f k % l.length]? with
   | some x=>pickOrder.go f n (k + 1) (l.eraseIdx (f k % l.length)) (out.push x)
   | none=>out):=rfl
  rw [e0,List.getElem?_eq_getElem hi]
  refine (pick_go f n (k + 1) _ _ (by rw [List.length_eraseIdx_of_lt hi]; omega)).trans ?_
  rw [Array.toList_push,List.append_assoc]
  exact List.Perm.append_left _ (cons_eraseIdx hi)
theorem pick_perm {α : Type} (f:Nat→Nat) (xs:Array α):(pickOrder f xs).toList.Perm xs.toList:=by
 have:=pick_go f xs.size 0 xs.toList #[] (by simp)
 simpa [pickOrder] using this
end ST
namespace ST
open PySem PySem.Spec PyProof.Rows L2
abbrev itO (slot i:Int) (a:Addr) (n ep:Int):Obj:={ cls:=.type "set_iterator",dict:=none,data:=.fields #[rawInt slot,rawInt i,.ref a,rawInt n,rawInt ep],slots:=#[] }
structure SetP (w:World) (o:Obj) (m:Nat) (es:Array (Int × Value)) (ep fg mv:Nat):Prop where
 ex:o.ExactSet
 da:o.data=.set es ep (tb m fg mv (bW w))
 el:EsK m es
def ordL (w:World) (a:Addr) (ep:Nat) (es:Array (Int × Value)):List Value :=
 if w.params.followText "set-order"=true then (pickOrder (w.params.setOrder a ep) es).toList.map (·.2) else es.toList.map (·.2)
theorem ord_perm (w:World) (a:Addr) (ep:Nat) (es:Array (Int × Value)):(ordL w a ep es).Perm (es.toList.map (·.2)):=by
 unfold ordL
 split
 ·exact (pick_perm _ _).map _
 ·exact List.Perm.refl _
theorem up_ks {m:Nat} (hm:m < 64):Up (ks m).toArray:=by
 have:((List.range 64).all fun m=>(List.range 6).all fun i=>(List.range 6).all fun k=>!(decide (i < k) && decide (k < (ks m).length)) || decide ((ks m).toArray.getD i 0 < (ks m).toArray.getD k 0))=true:=by decide +kernel
 intro i k hik hk
 have hk':k < (ks m).length:=by simpa using hk
 have h6:=ks_len m
 have:=List.all_eq_true.mp (List.all_eq_true.mp (List.all_eq_true.mp this m (List.mem_range.mpr hm)) i (List.mem_range.mpr (by omega))) k (List.mem_range.mpr (by omega))
 simpa [hik,hk'] using this
section
variable {P:Program} {w:World} {A:Around} {E:Value→Shared→Prop} {s:Shared} {a:Addr} {m:Nat} {o:Obj} {es:Array (Int × Value)} {ep fg mv:Nat}
theorem set_next {slot i:Nat} {Q:Option (Value × Nat)→Shared→Prop} (hm:m < 64) (ho:s.heap.get? a=some o) (S:SetP w o m es ep fg mv) (hs:w.params.followText "set-order"=false→SetTable.below (ks m).toArray slot=i)
  (q:∀ r,(match r with | none=>(ordL w a ep es)[i]?=none | some (v,j)=>(ordL w a ep es)[i]?=some v∧(w.params.followText "set-order"=false→SetTable.below (ks m).toArray j=i + 1))→Q r s) :
  wpAny (model P w) A (setNext a slot i ep) Q E s:=by
 have hf:(tb m fg mv (bW w)).fits es.size=true:=fits_ks S.el.size
 unfold setNext
 refine wpAny_bind (wpAny_setState_of ho S.da hf ?_)
 dsimp only
 unfold setsByText
 refine wpAny_bind (wpAny_bind (wpAny_askSetting (wpAny_pure ?_)))
 cases hb:w.params.followText "set-order" with
 | true =>
  have hb':(model P w).w.params.followText "set-order"=true:=hb
  rw [hb']
  rw [if_pos rfl,if_neg (by simp)]
  unfold setWalk
  refine wpAny_bind (wpAny_bind (wpAny_setState_of ho S.da hf ?_))
  dsimp only
  unfold setsByText
  refine wpAny_bind (wpAny_bind (wpAny_askSetting (wpAny_pure ?_)))
  rw [hb',if_pos rfl]
  refine wpAny_bind (wpAny_askSetting (wpAny_pure (wpAny_pure (q _ ?_))))
  have e:(ordL w a ep es)[i]?=((pickOrder (w.params.setOrder a ep) es)[i]?).map (·.2):=by
   unfold ordL
   rw [if_pos hb,List.getElem?_map,Array.getElem?_toList]
  show (match ((pickOrder (w.params.setOrder a ep) es)[i]?).map fun e=>(e.2,slot) with | none=>_ | some (v,j)=>_)
  cases hx:(pickOrder (w.params.setOrder a ep) es)[i]? with
  | none=>rw [hx] at e; exact e
  | some x=>rw [hx] at e; exact ⟨e,fun z=>by rw [hb] at z; cases z⟩
 | false =>
  have hb':(model P w).w.params.followText "set-order"=false:=hb
  have hs:=hs hb
  rw [hb']
  rw [if_neg Bool.false_ne_true]
  have hbw:bW w=true:=by unfold bW; rw [hb]; rfl
  refine wpAny_ite_split (fun hab=>absurd (show (!true && decide (es.size > 1))=true from hab) (by simp)) (fun _=>?_)
  refine wpAny_bind ?_
  refine wpAny_ite_split (fun hab=>absurd (show (!(bW w) && !es.isEmpty)=true from hab) (by rw [hbw]; simp)) (fun _=>?_)
  refine wpAny_pure (wpAny_pure (q _ ?_))
  have hp:(tb m fg mv (bW w)).place=(ks m).toArray:=rfl
  rw [hp,hs]
  have hsz:=S.el.size
  have e:(ordL w a ep es)[i]?=(es[i]?).map (·.2):=by
   unfold ordL
   rw [if_neg (by rw [hb]; decide),List.getElem?_map,Array.getElem?_toList]
  rcases Nat.lt_or_ge i (ks m).length with hi | hi
  ·have hi2:i < es.size:=by omega
   have hi3:i < (ks m).toArray.size:=by simpa using hi
   rw [Array.getElem?_eq_getElem hi2] at e ⊢
   rw [Array.getElem?_eq_getElem hi3]
   refine ⟨e,fun _=>?_⟩
   have:=below_next (up_ks hm) hi3
   have e2:(ks m).toArray.getD i 0=(ks m).toArray[i]:=by simp only [Array.getD,hi3,dite_true]; rfl
   rw [e2] at this
   exact this
  ·have hi2:es[i]?=none:=by rw [Array.getElem?_eq_none]; omega
   rw [hi2] at e ⊢
   exact e
end
end ST
namespace ST
open PySem PySem.Spec PyProof.Rows L2
section
variable {P:Program} {w:World} {A:Around} {E:Value→Shared→Prop} {s:Shared} {a I:Addr} {m:Nat} {o:Obj} {es:Array (Int × Value)} {ep fg mv:Nat}
theorem ord_len (w:World) (a:Addr) (ep:Nat) (es:Array (Int × Value)):(ordL w a ep es).length=es.size:=by
 have:=(ord_perm w a ep es).length_eq
 simpa using this
def StW (w:World) (a I:Addr) (m:Nat) (o:Obj) (es:Array (Int × Value)) (ep:Nat) (i:Nat) (h:Heap):Prop :=
 ∃ slot:Nat,h.get? I=some (itO slot i a es.size ep)∧h.get? a=some o∧(w.params.followText "set-order"=false→SetTable.below (ks m).toArray slot=i)
theorem si_next {i:Nat} {Q:Option Value→Shared→Prop} (hh:A.handled=none) (hne:a ≠ I) (hm:m < 64) (S:SetP w o m es ep fg mv) (st:StW w a I m o es ep i s.heap)
  (q:∀ v h',(ordL w a ep es)[i]?=some v→StW w a I m o es ep (i + 1) h'→Heap.SameBut I s.heap h'→Q (some v) { s with heap:=h' })
  (qe:∀ h',(ordL w a ep es)[i]?=none→Heap.ExtBut I s.heap h'→Q none { s with heap:=h' }):wpAny (model P w) A (pyNext (.ref I)) Q E s:=by
 obtain ⟨slot,hI,ho,hs⟩:=st
 have hf:(tb m fg mv (bW w)).fits es.size=true:=fits_ks S.el.size
 have hT:s.TypeIs (.ref I) "set_iterator":=⟨_,hI,rfl⟩
 unfold pyNext
 refine wpAny_bind (wpAny_attempt (wpAny_callSpecial?_slot (name:=Str.ofString "__next__") hT slot_si_next
  (wpAny_call_entry slot_si_next hT entry_si_next ?_ (args_si_next _))))
 show wpAny _ _ (fieldsOf (.ref I) >>= _) _ _ s
 refine wpAny_bind (wpAny_fieldsOf hI rfl ?_)
 show wpAny _ _ (setEntries a >>= _) _ _ s
 refine wpAny_bind (wpAny_setEntries_of ho S.da hf ?_)
 rw [if_neg (by simp)]
 show wpAny _ _ (setNext a (Int.toNat (slot:Int)) (Int.toNat (i:Int)) (Int.toNat (ep:Int)) >>= _) _ _ s
 rw [Int.toNat_natCast,Int.toNat_natCast,Int.toNat_natCast]
 refine wpAny_bind (set_next hm ho S hs fun r hr=>?_)
 cases r with
 | some p =>
  obtain ⟨v,j⟩:=p
  obtain ⟨h1,h2⟩:=hr
  show wpAny _ _ (setField (.ref I) 0 (rawInt (j:Int)) >>= fun _=>setField (.ref I) 1 (rawInt ((i:Int) + 1)) >>= fun _=>ret v) _ _ s
  refine wpAny_bind (wpAny_setField_rec hI (by simp) fun h1' g1 b1=>?_)
  refine wpAny_bind (wpAny_setField_rec (s:={ s with heap:=h1' }) g1 (by simp) fun h2' g2 b2=>?_)
  refine wpAny_pure ⟨_,rfl,wpAny_pure (q v h2' h1 ⟨j,?_,?_,h2⟩ (b1.trans b2))⟩
  ·rw [g2]; simp [rawInt]
  ·exact (b2.2 a hne).trans ((b1.2 a hne).trans ho)
 | none =>
  show wpAny _ _ (setField (.ref I) 2 .none >>= fun _=>newExc (.type "StopIteration") [] >>= fun e=>raiseNew e) _ _ s
  refine wpAny_bind (wpAny_setField_rec hI (by simp) fun h1' g1 b1=>?_)
  refine wpAny_bind ?_
  simp only [newExc,newTuple]
  refine wpAny_bind (wpAny_newObj_type ?_ (by size_fits))
  refine wpAny_bind (m:=firstArgMember _ _) (wpAny_of_eq (a:=Value.none) (by first | rfl | (simp only [firstArgMember]; rfl)) ?_)
  refine wpAny_newObj_type ?_ (by size_fits)
  simp only [raiseNew]
  refine wpAny_bind (wpAny_handled ?_)
  rw [show A.in1.handled=none from hh]
  refine wpAny_bind (wpAny_pure (wpAny_throw ?_))
  refine wpAny_bind (wpAny_isInstance (T:="StopIteration") (b:=true) ⟨_,Heap.get?_push_size _ rfl,rfl⟩ isSubtype_stop ?_)
  exact wpAny_pure (qe _ hr ((b1.extBut.push _).push _))
theorem walk_set (hh:A.handled=none) (hne:a ≠ I) (hm:m < 64) (S:SetP w o m es ep fg mv) :
  Walks P w A I [I,a] [I] es.size (fun i v=>(ordL w a ep es)[i]?=some v) (fun i h=>StW w a I m o es ep i h) where
 sub:=fun b hb=>by simp at hb; simp [hb]
 frame:=fun _ _ _ ⟨slot,h1,h2,h3⟩ hk=>⟨slot,hk I (by simp) _ h1,hk a (by simp) _ h2,h3⟩
 item:=fun i s Q E hi st hQ=>si_next hh hne hm S st (fun v h' h1 h2 h3=>hQ v h' s.toks h1 h2 fun b o hb e=>h3.extBut b o (fun h=>hb (by simp [h])) e) fun h' h1=>by
  exfalso
  rw [List.getElem?_eq_none_iff,ord_len] at h1
  exact absurd h1 (Nat.not_le.mpr hi)
 done:=fun s Q E st hQ=>si_next hh hne hm S st (fun v h' h1=>by
  exfalso
  rw [List.getElem?_eq_none (Nat.le_of_eq (ord_len w a ep es))] at h1
  cases h1) fun h' _ he'=>hQ h' s.toks fun b o hb e=>he' b o (fun h=>hb (by simp [h])) e
 self:=fun _ s _ _ ⟨slot,h1,h2,h3⟩ hQ=>by
  refine wpAny_pyIter_slot ⟨_,h1,rfl⟩ slot_si_iter (wpAny_call_entry slot_si_iter ⟨_,h1,rfl⟩ entry_si_iter ?_ (args_si_iter _))
  show wpAny _ _ (ret (.ref I)) _ _ s
  exact wpAny_pure ⟨_,rfl,"set_iterator",_,⟨_,h1,rfl⟩,slot_si_next.lookup,hQ⟩
end
end ST
namespace ST
open PySem PySem.Spec PyProof.Rows L2
section
variable {P:Program} {w:World} {A:Around} {E:Value→Shared→Prop} {s:Shared} {a I:Addr} {m:Nat} {o:Obj} {es:Array (Int × Value)} {ep fg mv:Nat}
theorem iter_set {Q:Value→Shared→Prop} (ho:s.heap.get? a=some o) (S:SetP w o m es ep fg mv)
  (q:Q (.ref s.heap.objs.size) { s with heap:=s.heap.push (itO 0 0 a es.size ep) }):wpAny (model P w) A (pyIter (.ref a)) Q E s:=by
 have hf:(tb m fg mv (bW w)).fits es.size=true:=fits_ks S.el.size
 have hT:s.TypeIs (.ref a) "set":=⟨o,ho,S.ex.1⟩
 refine wpAny_pyIter_slot hT F.slot_set_iter (wpAny_call_entry F.slot_set_iter hT entry_set_iter ?_ (F.args_set_iter_1 _))
 show wpAny _ _ (Builtin.Frozenset.sizeOf a >>= _) _ _ s
 refine wpAny_bind ?_
 unfold Builtin.Frozenset.sizeOf
 refine wpAny_bind (wpAny_setEntries_of ho S.da hf (wpAny_pure ?_))
 refine wpAny_bind ?_
 unfold setDrawn
 refine wpAny_bind (wpAny_setState_of ho S.da hf ?_)
 unfold setsByText
 refine wpAny_bind (wpAny_bind (wpAny_askSetting (wpAny_pure (wpAny_pure ?_))))
 refine wpAny_ite_split (fun hab=>absurd (show (!_ && (!true && decide (es.size > 1)))=true from hab) (by simp)) (fun _=>?_)
 refine wpAny_bind (wpAny_pure ?_)
 refine wpAny_bind ?_
 unfold setEpoch
 refine wpAny_bind (wpAny_setState_of ho S.da hf (wpAny_pure ?_))
 exact wpAny_bind (wpAny_newObj_type (wpAny_pure ⟨_,rfl,"set_iterator",_,⟨_,Heap.get?_push_size _ rfl,rfl⟩,slot_si_next.lookup,q⟩))
theorem hint_set {Q:Bool→Shared→Prop} (ho:s.heap.get? a=some o) (hc:o.cls=.type "set") (h:Q false s):wpAny (model P w) A (Builtin.List.listLengthHint (.ref a)) Q E s:=by
 have hT:s.TypeIs (.ref a) "set":=⟨o,ho,hc⟩
 unfold Builtin.List.listLengthHint
 refine wpAny_bind (wpAny_specialOf hT F.slot_set_len.lookup ?_)
 generalize hid:("set.__len__" : String)=id0
 wp_delta
 rw [show splitId id0=some ("set","__len__") from by subst hid; decide +kernel]
 subst hid
 refine wpAny_bind (wpAny_isInstance (T:="set") (b:=true) hT (by rw [isSubtype_type]; kernel_rfl) ?_)
 refine wpAny_ite_split (fun hab=>absurd hab (by decide)) (fun _=>?_)
 refine wpAny_ite_split (fun _=>?_) (fun hab=>absurd (by decide +kernel) hab)
 refine wpAny_bind (wpAny_typeOf hT ?_)
 exact wpAny_pure h
theorem collect_set {Q:List Value→Shared→Prop} (hh:A.handled=none) (hm:m < 64) (ho:s.heap.get? a=some o) (S:SetP w o m es ep fg mv)
  (hQ:∀ h' tk,(∀ b o,s.heap.get? b=some o→h'.get? b=some o)→s.heap.objs.size < h'.objs.size→Q (ordL w a ep es) { s with heap:=h',toks:=tk }):wpAny (model P w) A (collect (.ref a)) Q E s:=by
 have hlt:a < s.heap.objs.size:=Heap.lt_size ho
 have hn:es.size ≤ sizeLine:=fits_of_scanBound (by rw [S.el.size]; exact small_bound (ks_len _))
 unfold collect
 refine wpAny_bind (wpAny_runValue (codeAny_builtin F.entry_proto_collect ?_))
 rw [Around.under_plainId F.plain_proto_collect _]
 show wpAny _ A.in1 (newList [] >>= fun l=>again (.builtin "list.__iadd__" ⟨[l,.ref a],[]⟩)) _ _ s
 refine wpAny_bind (wpAny_newObj_type ?_)
 refine wpAny_pure ⟨plainId_quiet F.plain_list_iadd _,codeAny_builtin F.entry_list_iadd ?_⟩
 rw [Around.under_plainId F.plain_list_iadd _]
 have hS₁:(s.heap.push { cls:=.type "list",data:=.seq ([]:List Value).toArray }).get? s.heap.objs.size=some { cls:=.type "list",data:=.seq ([]:List Value).toArray }:=Heap.get?_push_size _ rfl
 have ho₁:(s.heap.push { cls:=.type "list",data:=.seq ([]:List Value).toArray }).get? a=some o:=Heap.get?_push_of_some _ ho
 have k₁:∀ b o,s.heap.get? b=some o→(s.heap.push { cls:=.type "list",data:=.seq ([]:List Value).toArray }).get? b=some o:=fun b o e=>Heap.get?_push_of_some _ e
 have hz₁:(s.heap.push { cls:=.type "list",data:=.seq ([]:List Value).toArray }).objs.size=s.heap.objs.size + 1:=size_push' _ _
 generalize s.heap.push { cls:=.type "list",data:=.seq ([]:List Value).toArray }=h1 at hS₁ ho₁ k₁ hz₁ ⊢
 show wpAny _ A.in1 (Builtin.List.listExtendWith (.ref s.heap.objs.size) (.ref a) (.ref s.heap.objs.size)) _ _ { s with heap:=h1 }
 generalize hSz:s.heap.objs.size=Sx at *
 unfold Builtin.List.listExtendWith
 refine wpAny_bind (wpAny_typeOf (T:="set") ⟨o,ho₁,S.ex.1⟩ ?_)
 have e1:Builtin.List.listSameRef (.ref Sx) (.ref a)=false:=by
  have:Sx ≠ a:=Nat.ne_of_gt hlt
  simp [Builtin.List.listSameRef,this]
 have e2:(Value.type "set" == Value.type "list")=false:=by decide
 have e3:(Value.type "set" == Value.type "tuple")=false:=by decide
 simp only [e1,e2,e3,Bool.or_false,Bool.false_eq_true,if_false]
 refine wpAny_bind (iter_set ho₁ S ?_)
 have hI:(h1.push (itO 0 0 a es.size ep)).get? h1.objs.size=some (itO 0 0 a es.size ep):=Heap.get?_push_size _ rfl
 have ho₂:(h1.push (itO 0 0 a es.size ep)).get? a=some o:=Heap.get?_push_of_some _ ho₁
 have hS₂:(h1.push (itO 0 0 a es.size ep)).get? Sx=some { cls:=.type "list",data:=.seq ([]:List Value).toArray }:=Heap.get?_push_of_some _ hS₁
 have k₂:∀ b o,s.heap.get? b=some o→(h1.push (itO 0 0 a es.size ep)).get? b=some o:=fun b o e=>Heap.get?_push_of_some _ (k₁ b o e)
 refine wpAny_bind (wpAny_holding (hint_set ho₂ S.ex.1 ?_))
 show wpAny _ _ _ _ _ { s with heap:=h1.push (itO 0 0 a es.size ep) }
 dsimp only at *
 generalize h1.push (itO 0 0 a es.size ep)=h2 at hI ho₂ hS₂ k₂ ⊢
 rw [hz₁] at hI ⊢
 have hne:a ≠ Sx + 1:=Nat.ne_of_lt (Nat.lt_succ_of_lt hlt)
 have W:=(walk_set (P:=P) (A:=A.in1) (I:=Sx + 1) hh hne hm S).toS
 have key:∀ (h:Heap) (c₁:Nat),StW w a (Sx + 1) m o es ep 0 h→(∀ b o,b ≠ Sx→s.heap.get? b=some o→h.get? b=some o)→h.get? Sx=some { cls:=.type "list",data:=.seq #[] c₁ } →
   codeAny (model P w) A (.builtin "list.extend.loop" ⟨[.ref Sx,.ref (Sx + 1),.ref Sx],[]⟩) (fun r s'=>r=.ok (.ret (.ref Sx))∧wpAny (model P w) A (do let o ← load Sx; match o.data with | .seq xs _=>pure xs.toList | _=>unsupported "internal:collect") Q E s') { s with heap:=h }:=by
  intro h c₁ st hk hS
  refine codeAny_extend_loopS W hn Sx (by simp only [List.mem_cons,List.not_mem_nil,or_false,not_or]; exact ⟨Nat.ne_of_lt (Nat.lt_succ_self _),Nat.ne_of_gt hlt⟩) _ es.size 0 _ #[] c₁ rfl (Nat.zero_le _) st hS (ItemsOf.nil _) fun s' acc' c' hm' hS' hacc=>?_
  have ea:acc'.toList=ordL w a ep es:=by
   refine List.ext_getElem? fun j=>?_
   rcases Nat.lt_or_ge j es.size with hj | hj
   ·have hj':j < acc'.size:=by rw [hacc.1]; exact hj
    have:=hacc.2 j acc'[j] (Array.getElem?_eq_getElem hj')
    rw [this,Array.getElem?_toList,Array.getElem?_eq_getElem hj']
   ·rw [List.getElem?_eq_none (by rw [Array.length_toList,hacc.1]; exact hj),List.getElem?_eq_none (by rw [ord_len]; exact hj)]
  refine ⟨rfl,?_⟩
  refine wpAny_bind (wpAny_load hS' ?_)
  rw [Moved.eq_with hm']
  refine wpAny_pure ?_
  rw [ea]
  refine hQ s'.heap s'.toks (fun b o e=>?_) (Heap.lt_size hS')
  have hb:b < Sx:=by rw [← hSz]; exact Heap.lt_size e
  exact hm'.heap b o (by simp only [List.mem_cons,List.not_mem_nil,or_false,not_or]; exact ⟨Nat.ne_of_lt hb,Nat.ne_of_lt (Nat.lt_succ_of_lt hb)⟩) (hk b o (Nat.ne_of_lt hb) e)
 refine wpAny_ite_split (fun _=>?_) (fun hab=>absurd (by decide +kernel) hab)
 refine wpAny_bind (wpAny_rule ?_)
 refine wpAny_bind ?_
 show wpAny _ _ (updateSeq Sx (·.push .none) >>= fun _=>updateSeq Sx (·.pop)) _ _ _
 refine wpAny_bind (wpAny_updateSeq hS₂ rfl ?_)
 have hS₃:=Heap.get?_update_self (Obj.mapSeq (·.push Value.none)) hS₂ rfl
 refine wpAny_updateSeq (hz:=by seq_fits) hS₃ rfl ?_
 have hS₄:=Heap.get?_update_self (Obj.mapSeq (·.pop)) hS₃ rfl
 have oth:∀ b o,b ≠ Sx→h2.get? b=some o→((h2.update Sx (Obj.mapSeq (·.push Value.none))).update Sx (Obj.mapSeq (·.pop))).get? b=some o:=fun b o hb e =>
  (Heap.get?_update_other _ _ (Ne.symm hb)).trans ((Heap.get?_update_other _ _ (Ne.symm hb)).trans e)
 refine wpAny_pure ⟨plainId_quiet F.plain_extend_loop _,codeAny_mono (key _ _ ⟨0,oth _ _ (Nat.succ_ne_self _) hI,oth _ _ (Nat.ne_of_lt hlt) ho₂,fun _=>below_zero (up_ks hm)⟩ (fun b o hb e=>oth b o hb (k₂ b o e)) hS₄) fun r s' h'=>?_⟩
 obtain ⟨rfl,h'⟩:=h'
 exact h'
end
end ST
namespace L2
open PySem PySem.Spec PyProof.Rows ST
abbrev sc2 (elt t1 i1 t2 i2:Expr) (f1 f2:List Expr) (scope:Scope) (pos:Pos):Expr:=.SetComp elt [⟨t1,i1,f1,0⟩,⟨t2,i2,f2,0⟩] scope pos
theorem compTurn_set2 (elt t1 i1 t2 i2:Expr) (f1 f2:List Expr) (scope:Scope) (pos:Pos) (it acc:Value) (env:Env) :
  compTurn (sc2 elt t1 i1 t2 i2 f1 f2 scope pos) 0 it acc env=(do
   standAt i1.pos
   match ← pyNext it with
   | none=>pure (.done .next)
   | some v =>
    letOwnedTupleGo t1 it v
    assign t1 env v
    let mut ok:=true
    for c in f1 do
     if ok then ok ← isTrue c env (eval c env)
    if ok then
     let x ← eval i2 env
     standAt i2.pos
     let x ← foldedSetIterable i2 env x
     let _ ← runOwn (.compStart (sc2 elt t1 i1 t2 i2 f1 f2 scope pos) 1 (← holding [x] (pyIter x)) acc env) env
    again (.compLoop (sc2 elt t1 i1 t2 i2 f1 f2 scope pos) 0 it acc env)):=by rfl
theorem compTurn_set2i (elt t1 i1 t2 i2:Expr) (f1 f2:List Expr) (scope:Scope) (pos:Pos) (it acc:Value) (env:Env) :
  compTurn (sc2 elt t1 i1 t2 i2 f1 f2 scope pos) 1 it acc env=(do
   standAt i2.pos
   match ← pyNext it with
   | none=>pure (.done .next)
   | some v =>
    letOwnedTupleGo t2 it v
    assign t2 env v
    let mut ok:=true
    for c in f2 do
     if ok then ok ← isTrue c env (eval c env)
    if ok then
     (do let v ← eval elt env; standAt elt.pos; let _ ← call (.builtin "set.add") [acc,v])
    again (.compLoop (sc2 elt t1 i1 t2 i2 f1 f2 scope pos) 1 it acc env)):=by rfl
section
variable {prog:Program} {w:World} {A:Around} {R:Result→Shared→Prop} {s:Shared} {elt t1 i1 t2 i2:Expr} {f1 f2:List Expr} {scope:Scope} {pos:Pos} {it acc:Value} {env:Env}
theorem sets_loop2i (I:Nat→Shared→Prop)
  (turn:∀ n s,I n s→wpAny (model prog w) A (pyNext it) (fun r s₁=>match r with
   | none=>R (.ok .next) s₁
   | some v=>wpAny (model prog w) A (letOwnedTupleGo t2 it v) (fun _ s₁'=>wpAny (model prog w) A (assign t2 env v) (fun _ s₂ =>
     wpAny (model prog w) A (forIn f2 true fun c r=>if r=true then do let ok ← isTrue c env (eval c env); pure (ForInStep.yield ok) else pure (ForInStep.yield r)) (fun ok s₃ =>
      if ok=true then wpAny (model prog w) A (eval elt env) (fun x s₄ =>
       wpAny (model prog w) A (call (.builtin "set.add") [acc,x]) (fun _ s₅=>∃ m,m < n∧I m s₅) (fun _ _=>False) s₄) (fun _ _=>False) s₃
      else ∃ m,m < n∧I m s₃) (fun _ _=>False) s₂) (fun _ _=>False) s₁') (fun _ _=>False) s₁) (fun _ _=>False) s)
  (n:Nat) (h:I n s) :
  codeAny (model prog w) A (.compLoop (sc2 elt t1 i1 t2 i2 f1 f2 scope pos) 1 it acc env) R s:=by
 refine codeAny_loop rfl I (fun n s hI=>?_) n h
 show wpAny _ A ((compTurn (sc2 elt t1 i1 t2 i2 f1 f2 scope pos) 1 it acc env).onRaise (fun x=>do noteFrame x env; theTreesLotGoes x)) _ _ s
 refine wpAny_noted ?_
 rw [compTurn_set2i]
 refine wpAny_bind (wpAny_standAt (wpAny_bind (wpAny_mono (turn n s hI) (fun r s₁ h₁=>?_) fun _ _ h'=>h'.elim)))
 cases r with
 | none=>exact wpAny_pure h₁
 | some v =>
  refine wpAny_bind (wpAny_mono h₁ (fun _ s₁' h₁'=>?_) fun _ _ h'=>h'.elim)
  refine wpAny_bind (wpAny_mono h₁' (fun _ s₂ h₂=>wpAny_bind (wpAny_mono h₂ (fun ok s₃ h₃=>?_) fun _ _ h'=>h'.elim)) fun _ _ h'=>h'.elim)
  cases ok with
  | false=>exact wpAny_pure ⟨rfl,h₃⟩
  | true =>
   exact wpAny_bind (wpAny_bind (wpAny_mono h₃ (fun x s₄ h₄=>wpAny_bind (wpAny_standAt (wpAny_bind (wpAny_mono h₄ (fun _ s₅ h₅=>wpAny_pure (wpAny_pure ⟨rfl,h₅⟩)) fun _ _ h'=>h'.elim)))) fun _ _ h'=>h'.elim))
theorem sets_loop2o (hs:∀ x,foldedSetIterable i2 env x=pure x) (I:Nat→Shared→Prop)
  (turn:∀ n s,I n s→wpAny (model prog w) A (pyNext it) (fun r s₁=>match r with
   | none=>R (.ok .next) s₁
   | some v=>wpAny (model prog w) A (letOwnedTupleGo t1 it v) (fun _ s₁'=>wpAny (model prog w) A (assign t1 env v) (fun _ s₂ =>
     wpAny (model prog w) A (forIn f1 true fun c r=>if r=true then do let ok ← isTrue c env (eval c env); pure (ForInStep.yield ok) else pure (ForInStep.yield r)) (fun ok s₃ =>
      if ok=true then wpAny (model prog w) A (eval i2 env) (fun x s₄=>wpAny (model prog w) A (pyIter x) (fun it2 s₅ =>
       codeAny (model prog w) A (.compStart (sc2 elt t1 i1 t2 i2 f1 f2 scope pos) 1 it2 acc env) (fun r s₆=>r=.ok .next∧∃ m,m < n∧I m s₆) s₅) (fun _ _=>False) s₄) (fun _ _=>False) s₃
      else ∃ m,m < n∧I m s₃) (fun _ _=>False) s₂) (fun _ _=>False) s₁') (fun _ _=>False) s₁) (fun _ _=>False) s)
  (n:Nat) (h:I n s) :
  codeAny (model prog w) A (.compLoop (sc2 elt t1 i1 t2 i2 f1 f2 scope pos) 0 it acc env) R s:=by
 refine codeAny_loop rfl I (fun n s hI=>?_) n h
 show wpAny _ A ((compTurn (sc2 elt t1 i1 t2 i2 f1 f2 scope pos) 0 it acc env).onRaise (fun x=>do noteFrame x env; theTreesLotGoes x)) _ _ s
 refine wpAny_noted ?_
 rw [compTurn_set2]
 refine wpAny_bind (wpAny_standAt (wpAny_bind (wpAny_mono (turn n s hI) (fun r s₁ h₁=>?_) fun _ _ h'=>h'.elim)))
 cases r with
 | none=>exact wpAny_pure h₁
 | some v =>
  refine wpAny_bind (wpAny_mono h₁ (fun _ s₁' h₁'=>?_) fun _ _ h'=>h'.elim)
  refine wpAny_bind (wpAny_mono h₁' (fun _ s₂ h₂=>wpAny_bind (wpAny_mono h₂ (fun ok s₃ h₃=>?_) fun _ _ h'=>h'.elim)) fun _ _ h'=>h'.elim)
  cases ok with
  | false=>exact wpAny_pure ⟨rfl,h₃⟩
  | true =>
   refine wpAny_bind (wpAny_mono h₃ (fun x s₄ h₄=>wpAny_bind (wpAny_standAt (wpAny_bind (wpAny_of_eq (hs x) (wpAny_bind (wpAny_holding (wpAny_mono h₄ (fun it2 s₅ h₅=>?_) fun _ _ h'=>h'.elim))))))) fun _ _ h'=>h'.elim)
   refine wpAny_bind (wpAny_runOwn (codeAny_mono h₅ fun r s₆ h₆=>?_))
   obtain ⟨rfl,h₆⟩:=h₆
   exact wpAny_pure ⟨rfl,h₆⟩
theorem codeAny_compStart_set2i
  (h0:codeAny (model prog w) A (.compLoop (sc2 elt t1 i1 t2 i2 f1 f2 scope pos) 1 it acc env) R s)
  (h:wpAny (model prog w) A (pyIter it) (fun it' s'=>codeAny (model prog w) A (.compLoop (sc2 elt t1 i1 t2 i2 f1 f2 scope pos) 1 it' acc env) R s')
   (notedBy (model prog w) A env fun x s'=>R (.error x) s') s) :
  codeAny (model prog w) A (.compStart (sc2 elt t1 i1 t2 i2 f1 f2 scope pos) 1 it acc env) R s:=by
 refine codeAny_of_tree ?_
 show wpAny _ _ ((compStart (sc2 elt t1 i1 t2 i2 f1 f2 scope pos) 1 it acc env).onRaise (fun x=>do noteFrame x env; standAt theWindowsPlace)) _ _ s
 refine wpAny_notedAt ?_
 unfold compStart
 show wpAny _ _ (ask >>= _) _ _ s
 refine wpAny_bind (wpAny_askSetting (wpAny_ite ?_))
 split
 ·first
   | exact wpAny_bind (wpAny_pure (wpAny_pure (And.intro rfl h0)))
   | exact wpAny_pure (And.intro rfl h0)
 ·first
   | exact wpAny_bind (wpAny_rule (wpAny_bind (wpAny_standAt (wpAny_bind (wpAny_mono h (fun it' s' h'=>wpAny_pure (And.intro rfl h')) fun _ _ x=>x)))))
   | (refine wpAny_bind (wpAny_rule ?_); show wpAny _ _ (standAt i2.pos >>= _) _ _ s; exact wpAny_bind (wpAny_standAt (wpAny_bind (wpAny_mono h (fun it' s' h'=>wpAny_pure (And.intro rfl h')) fun _ _ x=>x))))
theorem codeAny_compStart_set2o
  (h0:codeAny (model prog w) A (.compLoop (sc2 elt t1 i1 t2 i2 f1 f2 scope pos) 0 it acc env) R s)
  (h:wpAny (model prog w) A (pyIter it) (fun it' s'=>codeAny (model prog w) A (.compLoop (sc2 elt t1 i1 t2 i2 f1 f2 scope pos) 0 it' acc env) R s')
   (notedBy (model prog w) A env fun x s'=>R (.error x) s') s) :
  codeAny (model prog w) A (.compStart (sc2 elt t1 i1 t2 i2 f1 f2 scope pos) 0 it acc env) R s:=by
 refine codeAny_of_tree ?_
 show wpAny _ _ ((compStart (sc2 elt t1 i1 t2 i2 f1 f2 scope pos) 0 it acc env).onRaise (fun x=>do noteFrame x env; standAt theWindowsPlace)) _ _ s
 refine wpAny_notedAt ?_
 unfold compStart
 show wpAny _ _ (ask >>= _) _ _ s
 refine wpAny_bind (wpAny_askSetting (wpAny_ite ?_))
 split
 ·first
   | exact wpAny_bind (wpAny_pure (wpAny_pure (And.intro rfl h0)))
   | exact wpAny_pure (And.intro rfl h0)
 ·first
   | exact wpAny_bind (wpAny_rule (wpAny_bind (wpAny_standAt (wpAny_bind (wpAny_mono h (fun it' s' h'=>wpAny_pure (And.intro rfl h')) fun _ _ x=>x)))))
   | (refine wpAny_bind (wpAny_rule ?_); show wpAny _ _ (standAt i1.pos >>= _) _ _ s; exact wpAny_bind (wpAny_standAt (wpAny_bind (wpAny_mono h (fun it' s' h'=>wpAny_pure (And.intro rfl h')) fun _ _ x=>x))))
end
def tSIn2 (b0:Bool) (g:TG) (tt:TT) (te:TE) (J:It) (acc:Addr) (σ₀:St) (H₀:Hp) (Z:St→Hp→Prop):Prop :=
 ∃ W:Nat→Nat→St→Hp→Prop,(∃ m,W 0 m σ₀ H₀)∧∀ i m σ' H',W i m σ' H' →
  (J.stop i H'∧Z σ' H') ∨
  (J.go i H'∧∃ N:St→Hp→Prop,(∀ σ2 H2,N σ2 H2→∃ m',m' < m∧W (i + 1) m' σ2 H2)∧∀ x H2,J.yld i H' x H2→g x σ' H2 fun σ3 H3=>tt σ3 H3 fun b H4 =>
   if b=true then te σ3 H4 fun y H5=>∃ m k:Nat,H5 acc=some (setH acc m b0)∧m < 64∧k < 6∧y=.int k∧N σ3 (upd H5 acc (setH acc (bit m k) b0)) else N σ3 H4)
def tSet2N (b0:Bool) (g1:TG) (tt1:TT) (wi2:TI) (g2:TG) (tt2:TT) (te:TE) (J:It) (acc:Addr) (σ₀:St) (H₀:Hp) (Q:VK):Prop :=
 ∃ W:Nat→Nat→St→Hp→Prop,(∃ m,W 0 m σ₀ (upd H₀ acc (setH acc 0 b0)))∧∀ i m σ' H',W i m σ' H' →
  (J.stop i H'∧Q (.ref acc) H') ∨
  (J.go i H'∧∃ N:St→Hp→Prop,(∀ σ2 H2,N σ2 H2→∃ m',m' < m∧W (i + 1) m' σ2 H2)∧∀ x H2,J.yld i H' x H2→g1 x σ' H2 fun σ3 H3=>tt1 σ3 H3 fun b H4 =>
   if b=true then wi2 σ3 H4 fun J2 H5=>tSIn2 b0 g2 tt2 te J2 acc σ3 H5 N else N σ3 H4)
def tSet2 (b0:Bool) (wi:TI) (g1:TG) (tt1:TT) (wi2:TI) (g2:TG) (tt2:TT) (te:TE) (own:Nat) (ix:List Nat):TE:=fun σ H Q=>wi σ H fun J H1=>∀ acc,H1 acc=none→tSet2N b0 g1 tt1 wi2 g2 tt2 te J acc (blkσ own ix σ) H1 Q
section
variable {X:Cx} {scope:Scope} {own cap:List Str} {ix:List Nat} {t1 i1 t2 i2 elt:Expr} {f1 f2:List Expr} {wi wi2:TI} {g1 g2:TG} {tt1 tt2:TT} {te:TE} {pos:Pos}
theorem set2_core {pins:List (Addr × Obj)} {σ:St} {H2:Hp} {s2:Shared} {it:Addr} {fp:List Addr} {tn:Nat→Heap→Prop} {J:It} {Q:VK} {RR:Value→Addr→Result→Shared→Prop} {E:Value→Shared→Prop}
  (B:BlkOk X scope own cap ix) (hc:X.calm=true)
  (hb:∀ C fp s H,PG (cxC X scope C (own ++ cap) fp s H) t1 g1∧PIfs (cxC X scope C (own ++ cap) fp s H) f1 tt1∧PI (cxC X scope C (own ++ cap) fp s H) t2 i2 wi2∧PG (cxC X scope C (own ++ cap) fp s H) t2 g2∧PIfs (cxC X scope C (own ++ cap) fp s H) f2 tt2∧PE (cxC X scope C (own ++ cap) fp s H) elt te)
  (hs2:∀ (env:Env) x,foldedSetIterable i2 env x=pure x)
  (I2:Inv X pins σ H2 s2) (T:Turn X.prog X.w X.K t1 J fp it tn) (st2:tn 0 s2.heap) (fk2:∀ b ∈ fp,FpOk X pins H2 b)
  (q:∀ acc,H2 acc=none→tSet2N (bW X.w) g1 tt1 wi2 g2 tt2 te J acc (blkσ own.length ix σ) H2 Q)
  (hRR:∀ D C H' s' m,Inv X pins σ H' s'→Q (.ref D) H'→s'.heap.Ns C m→FpOk X pins H' C→RR (.ref D) C (.ok .next) s') :
  wpAny (model X.prog X.w) X.A (newSet (.type "set")) (fun acc s₃=>wpAny (model X.prog X.w) X.A (newFunctionEnv scope X.env.globals (cloF X.env scope.names []) [] X.env.qual none .none (some X.env)) (fun cenv s₄ =>
   codeAny (model X.prog X.w) X.A (.compStart (sc2 elt t1 i1 t2 i2 f1 f2 scope pos) 0 (.ref it) acc { cenv with scope:=relabel scope X.env }) (RR acc cenv.locals) s₄) E s₃) E s2:=by
 refine s_new (X:=X) (newEnv_comp ?_)
 have I3:Inv X pins σ (upd H2 s2.heap.objs.size (setH s2.heap.objs.size 0 (bW X.w))) { s2 with heap:=s2.heap.push { cls:=.type "set",dict:=none,data:=.set #[] 0 (tb 0 0 0 (bW X.w)) } }:=s_new_inv I2
 obtain ⟨W,⟨m0,w0⟩,turn⟩:=q s2.heap.objs.size I2.fresh
 generalize hD:s2.heap.objs.size=D at I3 w0 turn ⊢
 have hlt:∀ b ∈ fp,b < D:=fun b hbm=>by
  obtain ⟨o,e,_⟩:=T.obj 0 _ st2 b hbm
  rw [← hD]; exact Heap.lt_size e
 generalize hs3:({ s2 with heap:=s2.heap.push { cls:=.type "set",dict:=none,data:=.set #[] 0 (tb 0 0 0 (bW X.w)) } }:Shared)=s3 at I3 ⊢
 have keep3:∀ b o,s2.heap.get? b=some o→s3.heap.get? b=some o:=fun b o e=>by rw [← hs3]; exact Heap.get?_push_of_some _ e
 have f3:∀ b ∈ fp,FpOk X pins (upd H2 D (setH D 0 (bW X.w))) b:=fun b hbm=>⟨by rw [jb5 (Nat.ne_of_lt (hlt b hbm))]; exact (fk2 b hbm).1,(fk2 b hbm).2⟩
 have o3:∀ b ∈ fp,∃ o,s3.heap.get? b=some o:=fun b hbm=>let ⟨o,e,_⟩:=T.obj 0 _ st2 b hbm; ⟨o,keep3 b o e⟩
 have I4:=I3.block B f3 o3
 have st4:tn 0 (pushCells (s3.heap.push { cls:=.type "dict",data:=.dict #[] }) scope.names):=T.keep 0 _ _ st2 fun b _ o e=>pushCells_keeps _ _ b o (Heap.get?_push_of_some _ (keep3 b o e))
 obtain ⟨hg,hif,hi2,hg2,hif2,he⟩:=hb s3.heap.objs.size fp s3 (upd H2 D (setH D 0 (bW X.w)))
 generalize hX':cxC X scope s3.heap.objs.size (own ++ cap) fp s3 (upd H2 D (setH D 0 (bW X.w)))=X' at I4 hg hif hi2 hg2 hif2 he
 have eP:X'.prog=X.prog:=by rw [← hX']; rfl
 have eW:X'.w=X.w:=by rw [← hX']; rfl
 have eK:X'.K=X.K:=by rw [← hX']; rfl
 have eA:X'.A=X.A:=by rw [← hX']; rfl
 have eE:X'.env=compE scope s3.heap.objs.size X.env:=by rw [← hX']; rfl
 have ex:X'.xe=fun _ _=>False:=by rw [← hX']; rfl
 have hc':X'.calm=true:=by rw [← hX']; exact hc
 have stat:∀ {H':Hp},(∀ b ∈ fp,H' b=none)→∀ b ∈ fp,FpOk X' [] H' b:=fun hn b hbm=>by
  subst hX'
  exact ⟨hn b hbm,(I4.ok.exf b hbm).1,I4.ok.exfs b hbm,.inl hbm,(I4.ok.exf b hbm).2,fun p hp=>absurd (show p ∈ ([]:List (Addr × Obj)) from hp) (by simp)⟩
 have loop:∀ s4:Shared,s4={ s3 with heap:=pushCells (s3.heap.push { cls:=.type "dict",data:=.dict #[] }) scope.names } →
   codeAny (model X.prog X.w) X.A (.compLoop (sc2 elt t1 i1 t2 i2 f1 f2 scope pos) 0 (.ref it) (.ref D) (compE scope s3.heap.objs.size X.env)) (RR (.ref D) s3.heap.objs.size) s4:=by
  rintro s4 rfl
  refine sets_loop2o (hs2 _) (fun n s'=>∃ i σ' H',Inv X' [] σ' H' s'∧tn i s'.heap∧(∀ b ∈ fp,H' b=none)∧W i n σ' H') ?_ m0 ⟨0,_,_,I4,st4,fun b hbm=>(f3 b hbm).1,w0⟩
  rintro n s5 ⟨i,σ5,H5,I5,st5,fr5,w5⟩
  rcases turn i n σ5 H5 w5 with ⟨stop,qn⟩ | ⟨go,N,hN,step⟩
  ·have:=T.done X' eP eW eK hc' i [] s5 σ5 H5 (fun _ _=>False) I5 (stat fr5) st5 stop
   rw [eA] at this
   refine thn this fun r s6 ⟨hr,I6⟩=>?_
   subst hr
   subst hX'
   have J6:Inv X pins σ H5 s6:=I3.call' (ch:=fp) I6.os I6.base I6.hok I6.bare fun b hbm=>⟨(f3 b hbm).2.2.2.1,(f3 b hbm).2.1,(f3 b hbm).2.2.2.2.1,(f3 b hbm).2.2.2.2.2⟩
   obtain ⟨m,hn,_⟩:=I6.loc
   exact hRR D _ H5 s6 m J6 qn hn (I3.fpOk (Nat.le_refl _) I6.free)
  ·have:=T.item X' eP eW eK hc' i [] s5 σ5 H5 (fun _ _=>False) I5 (stat fr5) st5 go
   rw [eA] at this
   refine thn this fun r s6 ⟨u,hr,h6⟩=>?_
   subst hr
   refine thn h6 fun _ s7 ⟨x,H7,I7,r7,y7,st7,fr7⟩=>?_
   have I7':=I7.pinned (stat fr7) (T.obj _ _ st7)
   have a1:=hg _ s7 σ5 H7 x u _ I7' r7 (step x H7 y7)
   rw [eP,eW,eA,eE,ex] at a1
   refine thn a1 fun _ s8 ⟨σ8,H8,I8,q8⟩=>?_
   have a2:=hif _ s8 σ8 H8 _ I8 q8
   rw [eP,eW,eA,eE,ex] at a2
   refine thn a2 fun b s9 ⟨H9,I9,q9⟩=>?_
   have again:∀ {s':Shared} {σ':St} {H':Hp},Inv X' ([] ++ pinsAt fp s7.heap) σ' H' s'→N σ' H'→∃ m,m < n∧∃ i σ' H',Inv X' [] σ' H' s'∧tn i s'.heap∧(∀ b ∈ fp,H' b=none)∧W i m σ' H':=fun {s' σ' H'} I' n'=>by
    obtain ⟨m',hm,w'⟩:=hN σ' H' n'
    refine ⟨m',hm,i + 1,σ',H',I'.unpinned,T.keep _ _ _ st7 fun b hbm o e=>(I'.pin (b,o) (List.mem_append_right _ (List.mem_append_right _ (jc8 hbm e)))).1,fun b hbm=>?_,w'⟩
    obtain ⟨o,e,d⟩:=T.obj _ _ st7 b hbm
    exact (I'.pin (b,o) (List.mem_append_right _ (List.mem_append_right _ (jc8 hbm e)))).2.1
   cases b with
   | false=>exact again I9 q9
   | true =>
    rw [if_pos rfl] at q9 ⊢
    have a3:=hi2 _ s9 σ8 H9 _ I9 q9
    rw [eP,eW,eA,eE,ex] at a3
    refine thn a3 fun v10 s10 h10=>thn h10 fun itv s11 h11=>?_
    obtain ⟨it2,fp2,tn2,J2,H11,e11,I11,T2,st11,fk11,W2,⟨m2,w2⟩,turn2⟩:=h11
    subst e11
    have stat2:∀ {H':Hp},(∀ b ∈ fp2,H' b=none)→∀ b ∈ fp2,FpOk X' ([] ++ pinsAt fp s7.heap) H' b:=fun hn b hbm=>⟨hn b hbm,(fk11 b hbm).2⟩
    have loop2:codeAny (model X.prog X.w) X.A (.compLoop (sc2 elt t1 i1 t2 i2 f1 f2 scope pos) 1 (.ref it2) (.ref D) (compE scope s3.heap.objs.size X.env)) (fun r s₆=>r=.ok .next∧∃ m,m < n∧∃ i σ' H',Inv X' [] σ' H' s₆∧tn i s₆.heap∧(∀ b ∈ fp,H' b=none)∧W i m σ' H') s11:=by
     refine sets_loop2i (fun n s'=>∃ i σ' H',Inv X' ([] ++ pinsAt fp s7.heap) σ' H' s'∧tn2 i s'.heap∧(∀ b ∈ fp2,H' b=none)∧W2 i n σ' H') ?_ m2 ⟨0,_,_,I11,st11,fun b hbm=>(fk11 b hbm).1,w2⟩
     rintro n2 s12 ⟨j,σ12,H12,I12,st12,fr12,w12⟩
     rcases turn2 j n2 σ12 H12 w12 with ⟨stop2,qn2⟩ | ⟨go2,N2,hN2,step2⟩
     ·have:=T2.done X' rfl rfl rfl hc' j _ s12 σ12 H12 (fun _ _=>False) I12 (stat2 fr12) st12 stop2
      rw [eP,eW,eA] at this
      refine thn this fun r s13 ⟨hr,I13⟩=>?_
      subst hr
      exact ⟨rfl,again I13 qn2⟩
     ·have:=T2.item X' rfl rfl rfl hc' j _ s12 σ12 H12 (fun _ _=>False) I12 (stat2 fr12) st12 go2
      rw [eP,eW,eA] at this
      refine thn this fun r s13 ⟨u2,hr,h13⟩=>?_
      subst hr
      refine thn h13 fun _ s14 ⟨x2,H14,I14,r14,y14,st14,fr14⟩=>?_
      have I14':=I14.pinned (stat2 fr14) (T2.obj _ _ st14)
      have b1:=hg2 _ s14 σ12 H14 x2 u2 _ I14' r14 (step2 x2 H14 y14)
      rw [eP,eW,eA,eE,ex] at b1
      refine thn b1 fun _ s15 ⟨σ15,H15,I15,q15⟩=>?_
      have b2:=hif2 _ s15 σ15 H15 _ I15 q15
      rw [eP,eW,eA,eE,ex] at b2
      refine thn b2 fun bb s16 ⟨H16,I16,q16⟩=>?_
      have again2:∀ {s':Shared} {σ':St} {H':Hp},Inv X' (([] ++ pinsAt fp s7.heap) ++ pinsAt fp2 s14.heap) σ' H' s'→N2 σ' H'→∃ m,m < n2∧∃ i σ' H',Inv X' ([] ++ pinsAt fp s7.heap) σ' H' s'∧tn2 i s'.heap∧(∀ b ∈ fp2,H' b=none)∧W2 i m σ' H':=fun {s' σ' H'} I' n'=>by
       obtain ⟨m',hm,w'⟩:=hN2 σ' H' n'
       refine ⟨m',hm,j + 1,σ',H',I'.unpinned,T2.keep _ _ _ st14 fun b hbm o e=>(I'.pin (b,o) (List.mem_append_right _ (List.mem_append_right _ (jc8 hbm e)))).1,fun b hbm=>?_,w'⟩
       obtain ⟨o,e,d⟩:=T2.obj _ _ st14 b hbm
       exact (I'.pin (b,o) (List.mem_append_right _ (List.mem_append_right _ (jc8 hbm e)))).2.1
      cases bb with
      | false=>exact again2 I16 q16
      | true =>
       rw [if_pos rfl] at q16 ⊢
       have b3:=he _ s16 σ15 H16 _ I16 q16
       rw [eP,eW,eA,eE,ex] at b3
       refine thn b3 fun yv s17 ⟨y,H17,I17,r17,m17,k17,hys,hm17,hk17,ey,q17⟩=>?_
       subst ey
       have b4:=s_add (A:=X.A) (E:=fun _ _=>False) (Q:=fun _ s'=>∃ m,m < n2∧∃ i σ' H',Inv X' ([] ++ pinsAt fp s7.heap) σ' H' s'∧tn2 i s'.heap∧(∀ b ∈ fp2,H' b=none)∧W2 i m σ' H') I17 hys r17 hm17 hk17 fun s' I'=>again2 I' q17
       rw [eP,eW] at b4
       exact b4
    have self2:=T2.self X.A 0 s11 (fun it' s'=>codeAny (model X.prog X.w) X.A (.compLoop (sc2 elt t1 i1 t2 i2 f1 f2 scope pos) 1 it' (.ref D) (compE scope s3.heap.objs.size X.env)) (fun r s₆=>r=.ok .next∧∃ m,m < n∧∃ i σ' H',Inv X' [] σ' H' s₆∧tn i s₆.heap∧(∀ b ∈ fp,H' b=none)∧W i m σ' H') s') (notedBy (model X.prog X.w) X.A (compE scope s3.heap.objs.size X.env) fun x s'=>(Except.error x:Result)=.ok .next∧∃ m,m < n∧∃ i σ' H',Inv X' [] σ' H' s'∧tn i s'.heap∧(∀ b ∈ fp,H' b=none)∧W i m σ' H') st11 loop2
    rw [eP,eW] at self2
    exact codeAny_compStart_set2i loop2 self2
 exact codeAny_compStart_set2o (loop _ rfl) (T.self X.A 0 _ _ _ st4 (loop _ rfl))
theorem pe_set2 (B:BlkOk X scope own cap ix) (hc:X.calm=true) (hi:PI X t1 i1 wi)
  (hb:∀ C fp s H,PG (cxC X scope C (own ++ cap) fp s H) t1 g1∧PIfs (cxC X scope C (own ++ cap) fp s H) f1 tt1∧PI (cxC X scope C (own ++ cap) fp s H) t2 i2 wi2∧PG (cxC X scope C (own ++ cap) fp s H) t2 g2∧PIfs (cxC X scope C (own ++ cap) fp s H) f2 tt2∧PE (cxC X scope C (own ++ cap) fp s H) elt te)
  (hs:∀ x,foldedSetIterable i1 X.env x=pure x:=by intro _; rfl) (hs2:∀ (env:Env) x,foldedSetIterable i2 env x=pure x:=by intro _ _; rfl):PE X (.SetComp elt [⟨t1,i1,f1,0⟩,⟨t2,i2,f2,0⟩] scope pos) (tSet2 (bW X.w) wi g1 tt1 wi2 g2 tt2 te own.length ix):=by
 intro pins s σ H Q I h
 rw [arm_eval_SetComp]
 have has:∀ x ∈ scope.names,x.2=.free→(X.env.cells.lookup x.1).isSome=true:=fun x hx hk=>by
  obtain ⟨c,e⟩:=I.ok.has x.1 (B.frees x hx hk)
  rw [e]; rfl
 refine wpAny_comprehension_free (use:=none) rfl hs (jd4 has) B.kind B.names ?_
 show wpAny _ _ (eval i1 X.env) _ _ s
 refine thn (hi pins s σ H _ I h) fun v s1 h1=>thn h1 fun itv s2 h2=>?_
 obtain ⟨it,fp,tn,J,H2,e,I2,T,st2,f2,q⟩:=h2
 subst e
 refine set2_core (RR:=fun acc C=>compPost (model X.prog X.w) X.A X.xe none (EP X pins σ Q) acc C) B hc hb hs2 I2 T st2 f2 q ?_
 intro D C H' s' m I' q' hn fC
 refine ⟨m,hn,fun h' hsb=>⟨.ref D,H',?_,rfl,q'⟩⟩
 exact I'.turned (t':=s'.toks) (it:=C) (fun b o hbC e=>(hsb.2 b hbC).trans e) fC.1 fC.2.1 fC.2.2.2.1 fC.2.2.2.2.1 fC.2.2.2.2.2
end
end L2
namespace ST
open PySem PySem.Spec PyProof.Rows L2
theorem ints_of:∀ {vs:List Value} {ns:List Int},vs.length=ns.length→(∀ (i:Nat) v,vs[i]?=some v→∃ t n,ns[i]?=some n∧v=.int n t)→IntsAre vs ns
 | [],[],_,_=>.nil
 | [],_ :: _,h,_=>by cases h
 | _ :: _,[],h,_=>by cases h
 | v :: vs,n :: ns,h,hv=>by
  obtain ⟨t,n',e1,e2⟩:=hv 0 v rfl
  have:n=n':=by simpa using e1
  subst this e2
  exact .cons _ t (ints_of (by simpa using h) fun i v e=>hv (i + 1) v (by simpa using e))
def vI:Value→Int
 | .int n _=>n
 | _=>0
section
variable {P:Program} {w:World} {A:Around} {E:Value→Shared→Prop} {s:Shared} {a I:Addr} {m:Nat} {o:Obj} {es:Array (Int × Value)} {ep fg mv:Nat}
theorem ord_ints (S:SetP w o m es ep fg mv):∃ ns:List Int,IntsAre (ordL w a ep es) ns∧ns.Perm ((ks m).map fun i:Nat=>(i:Int)):=by
 refine ⟨(ordL w a ep es).map vI,ints_of (by simp) fun i v e=>?_,?_⟩
 ·have hv:v ∈ es.toList.map (·.2):=(ord_perm w a ep es).mem_iff.mp (List.mem_of_getElem? e)
  obtain ⟨x,hx,rfl⟩:=List.mem_map.mp hv
  obtain ⟨t,ht⟩:=S.el.its x hx
  exact ⟨t,x.1,by rw [List.getElem?_map,e,ht]; rfl,ht⟩
 ·refine ((ord_perm w a ep es).map vI).trans ?_
  rw [List.map_map,← S.el.keys]
  refine List.Perm.of_eq (List.map_congr_left fun x hx=>?_)
  obtain ⟨t,ht⟩:=S.el.its x hx
  show vI x.2=x.1
  rw [ht]; rfl
theorem ks_sorted {m:Nat} (hm:m < 64):((ks m).map fun i:Nat=>(i:Int)).Pairwise (· ≤ ·):=by
 have:∀ m:Fin 64,((ks m).map fun i:Nat=>(i:Int)).Pairwise (· ≤ ·):=by decide +kernel
 exact this ⟨m,hm⟩
theorem sorted_eq {ns ns':List Int} (p:ns'.Perm ns) (h1:ns'.Pairwise (· ≤ ·)) (h2:ns.Pairwise (· ≤ ·)):ns'=ns :=
 List.Perm.eq_of_pairwise (le:=fun a b:Int=>a ≤ b) (fun a b _ _ h h'=>Int.le_antisymm h h') h1 h2 p
theorem sorted_set {Q:Value→Shared→Prop} (hh:A.handled=none) (hm:m < 64) (ho:s.heap.get? a=some o) (S:SetP w o m es ep fg mv)
  (h:∀ h' tk l out e,(∀ b o,s.heap.get? b=some o→h'.get? b=some o)→s.heap.objs.size ≤ l→h'.get? l=some (seqObj "list" out e)→IntsAre out.toList ((ks m).map fun i:Nat=>(i:Int))→Q (.ref l) { s with heap:=h',toks:=tk }) :
  wpAny (model P w) A (call (.builtin "sorted") [.ref a]) Q E s:=by
 refine Calls.call_function_entry kind_sorted plain_sorted entry_sorted (args_sorted1 _) ?_
 unfold Builtin.«sorted»
 refine wpAny_bind (m:=checkCount "sorted" 1 1 _) (wpAny_pure ?_)
 refine wpAny_bind (collect_set (A:=A.in1) hh hm ho S fun h1 tk k1 z1=>?_)
 obtain ⟨ns,hI,hp⟩:=ord_ints (a:=a) S
 have h64:(ordL w a ep es).length < 64:=by rw [ord_len,S.el.size]; have:=ks_len m; omega
 refine wpAny_bind (wpAny_newList ?_)
 have hoL:(h1.push (seqObj "list" (ordL w a ep es).toArray 0)).get? h1.objs.size=some (seqObj "list" (ordL w a ep es).toArray 0):=Heap.get?_push_size _ rfl
 have k2:∀ b o,s.heap.get? b=some o→b ≠ h1.objs.size∧b < (h1.push (seqObj "list" (ordL w a ep es).toArray 0)).objs.size∧(h1.push (seqObj "list" (ordL w a ep es).toArray 0)).get? b=some o:=fun b o e=>by
  have hb:b < h1.objs.size:=Heap.lt_size (k1 b o e)
  exact ⟨Nat.ne_of_lt hb,by rw [size_push']; exact Nat.lt_succ_of_lt hb,Heap.get?_push_of_some _ (k1 b o e)⟩
 show wpAny _ _ _ _ _ { s with heap:=h1.push (seqObj "list" (ordL w a ep es).toArray 0),toks:=tk }
 dsimp only at *
 generalize h1.push (seqObj "list" (ordL w a ep es).toArray 0)=h2 at hoL k2 ⊢
 generalize h1.objs.size=l at hoL k2 z1 ⊢
 refine wpAny_bind (wpAny_holding (wpAny_call_entry slot_list_sort ⟨_,hoL,rfl⟩ entry_list_sort (list_sort_tree hoL hI h64 fun out ns' a1 a2 a3=>⟨_,rfl,?_⟩) (args_list_sort _)))
 have e':ns'=(ks m).map fun i:Nat=>(i:Int):=sorted_eq (a2.trans hp) a3 (ks_sorted hm)
 subst e'
 obtain ⟨e,he⟩:=sortedHeap_at (out:=out) hoL
 refine wpAny_pure ⟨_,rfl,h _ tk l out e (fun b o q=>?_) (Nat.le_of_lt z1) he a1⟩
 obtain ⟨q1,q2,q3⟩:=k2 b o q
 rw [sortedHeap_old q1 q2]
 exact q3
end
end ST
namespace L2
open PySem PySem.Spec PyProof.Rows ST
section
variable {X:Cx}
def rSortS (b0:Bool):List V→Hp→VK→Prop:=fun xs H Q=>∃ (p:Addr) (m:Nat),xs=[.ref p]∧H p=some (setH p m b0)∧m < 64∧∀ l:Addr,H l=none→Q (.ref l) (upd H l (.lst ((ks m).map fun i:Nat=>V.int (i:Int))))
theorem call_sortedS (hc:X.calm=true):CallR X (.builtin "sorted") (rSortS (bW X.w)):=by
 intro pins s σ H xs us Q I r h
 obtain ⟨p,m,rfl,hp,hm,q⟩:=h
 obtain ⟨u,rfl,rx⟩:=vals1 r
 cases rx
 obtain ⟨⟨o,ho,es,ep,fg,mv,hx,hd,hE⟩,_⟩:=I.hok p _ hp
 refine sorted_set (m:=m) (es:=es) (ep:=ep) (fg:=fg) (mv:=mv) (I.ok.hd hc) hm ho ⟨hx,hd,hE⟩ fun h' tk l out e k z hl hi=>?_
 refine ⟨.ref l,_,I.laid (t':=tk) (o:=.lst ((ks m).map fun i:Nat=>V.int (i:Int))) k z ⟨by rw [List.length_map]; exact Nat.le_trans (ks_len m) (by decide),out.toList,e,?_,?_⟩,rfl,q l (I.hok.fresh z)⟩
 ·have:=vals_ints hi
  rw [List.map_map] at this
  exact this
 ·simpa [seqObj] using hl
end
end L2
namespace KM
open PySem L2 KG EX
theorem sumQ_perm {a b:List Rat} (h:a.Perm b):sumQ a=sumQ b:=by
 induction h with
 | nil=>rfl
 | cons x _ ih=>rw [je3,je3,ih]
 | swap x y l=>rw [je3,je3,je3,je3]; grind
 | trans _ _ h1 h2=>rw [h1,h2]
theorem perm_of_mem {a b:List Nat} (ha:a.Nodup) (hb:b.Nodup) (h:∀ x,x ∈ a ↔ x ∈ b):a.Perm b :=
 List.perm_iff_count.mpr fun x=>by
  rw [ha.count,hb.count]
  by_cases hx:x ∈ a
  ·rw [if_pos hx,if_pos ((h x).mp hx)]
  ·rw [if_neg hx,if_neg (fun z=>hx ((h x).mpr z))]
def richU (n:Nat):List Int:=(List.range n).map fun i:Nat=>(i:Int)
def relB (M:List (List Int)) (qs:List Rat) (g i:Nat):Bool:=((bestM M qs).getD i []).contains (g:Int)
def richQ (am:List Int) (ps qs:List Rat) (M:List (List Int)) (S:List Nat):Rat:=fOf (List.range M.length) (fun i=>ps.getD i 0) (List.range qs.length) (fun g=>(jb7 am qs).getD g 0) (relB M qs) S
def Rich (am:List Int) (ps qs:List Rat) (M:List (List Int)) (c:Int) (rows:List (Int × List Int)):Prop:=0 < c∧rows.map (·.2)=setsL (richU M.length)∧∀ x ∈ rows,((x.1:Int):Rat)=(c:Rat) * richQ am ps qs M (nats x.2)
theorem richU_nodup (n:Nat):(richU n).Nodup:=(List.nodup_range).map _ fun a b h z=>h (by omega)
theorem richU_len (n:Nat):(richU n).length=n:=by unfold richU; simp
theorem nats_richU (n:Nat):nats (richU n)=List.range n:=by
 unfold nats richU
 rw [List.map_map]
 exact (List.map_congr_left fun x _=>Int.toNat_natCast x).trans (List.map_id _)
theorem nats_sub {n:Nat} {S:List Int} (h:S.Sublist (richU n)):(nats S).Sublist (List.range n):=by
 have:=List.Sublist.map Int.toNat h
 have h2:=nats_richU n
 unfold nats at h2 ⊢
 rw [h2] at this; exact this
theorem jg0 {n:Nat} {S:List Int} (h:S.Sublist (richU n)) (x:Nat):x ∈ nats S ↔ (x:Int) ∈ S:=by
 unfold nats
 constructor
 ·intro hx
  obtain ⟨y,hy,rfl⟩:=List.mem_map.mp hx
  have:=h.subset hy
  unfold richU at this
  obtain ⟨j,_,rfl⟩:=List.mem_map.mp this
  rw [Int.toNat_natCast]; exact hy
 ·intro hx
  exact List.mem_map.mpr ⟨_,hx,Int.toNat_natCast x⟩
theorem rich_val {am:List Int} {ps qs:List Rat} {M:List (List Int)} {S gs:List Nat} (hS:S.Sublist (List.range M.length)) (nd:gs.Nodup) (hg:∀ g,g ∈ gs ↔ g < qs.length∧∃ i ∈ S,relB M qs g i=true) :
  richQ am ps qs M S=sumQ (S.map fun i=>ps.getD i 0) - sumQ (gs.map fun g=>(jb7 am qs).getD g 0):=by
 unfold richQ fOf wsum
 rw [sub_eq hS List.nodup_range]
 congr 1
 refine sumQ_perm (List.Perm.map _ (perm_of_mem ((List.nodup_range).sublist List.filter_sublist) nd fun x=>?_))
 rw [List.mem_filter,List.mem_range,hg,List.any_eq_true]
theorem rich_super {am:List Int} {ps qs:List Rat} {M:List (List Int)} (hp:∀ q ∈ jb7 am qs,0 ≤ q):Super (richU M.length) (fun S=>richQ am ps qs M (nats S)):=by
 intro S T hS hT
 have sI:(S.filter fun x=>T.contains x).Sublist (richU M.length):=List.filter_sublist.trans hS
 have sJ:((richU M.length).filter fun x=>S.contains x || T.contains x).Sublist (richU M.length):=List.filter_sublist
 show richQ am ps qs M (nats S) + richQ am ps qs M (nats T) ≤ richQ am ps qs M (nats _) + richQ am ps qs M (nats _)
 refine fOf_super (fun x _=>?_) (fun x=>?_) (fun x=>?_)
 ·by_cases hx:x < (jb7 am qs).length
  ·have:(jb7 am qs).getD x 0 ∈ jb7 am qs:=by simp [List.getD,List.getElem?_eq_getElem hx]
   exact hp _ this
  ·have:(jb7 am qs).getD x 0=0:=by simp [List.getD,List.getElem?_eq_none (Nat.le_of_not_lt hx)]
   rw [this]; exact Rat.le_refl
 ·rw [jg0 sI,jg0 hS,jg0 hT,List.mem_filter]; simp
 ·rw [jg0 sJ,jg0 hS,jg0 hT,List.mem_filter]
  simp
  exact fun h=>h.elim (fun z=>hS.subset z) (fun z=>hT.subset z)
section
variable {am:List Int} {ps qs:List Rat} {M:List (List Int)} {c:Int} {rows:List (Int × List Int)}
theorem ri_sub (ab:Rich am ps qs M c rows) {x:Int × List Int} (hx:x ∈ rows):x.2.Sublist (richU M.length):=mem_setsL.mp (by rw [← ab.2.1]; exact List.mem_map.mpr ⟨x,hx,rfl⟩)
theorem ri_mem (ab:Rich am ps qs M c rows) {S:List Int} (h:S.Sublist (richU M.length)):∃ x ∈ rows,x.2=S:=by
 have:S ∈ rows.map (·.2):=by rw [ab.2.1]; exact mem_setsL.mpr h
 obtain ⟨x,hx,e⟩:=List.mem_map.mp this
 exact ⟨x,hx,e⟩
theorem ri_le (ab:Rich am ps qs M c rows) {x y:Int × List Int} (hx:x ∈ rows) (hy:y ∈ rows):x.1 ≤ y.1 ↔ richQ am ps qs M (nats x.2) ≤ richQ am ps qs M (nats y.2):=by
 have hc:(0:Rat) < (c:Rat):=Rat.intCast_pos.mpr ab.1
 rw [← Rat.intCast_le_intCast,ab.2.2 x hx,ab.2.2 y hy]
 rw [← Rat.not_lt,← Rat.not_lt,Rat.mul_lt_mul_left hc]
theorem rich_least (hp:∀ q ∈ jb7 am qs,0 ≤ q) (ab:Rich am ps qs M c rows) {row:Int × List Int} (br:BestRow rows row) {c' m:Int} {rows':List (Int × List Int)} (ab':Rich am ps qs M c' rows') (hm:m ∈ rows'.map (·.1)) (hmax:∀ n ∈ rows'.map (·.1),n ≤ m):leastOf rows' m=row.2:=by
 obtain ⟨hrow,hmx,hmn⟩:=br
 have hM:∀ S:List Int,S.Sublist (richU M.length)→richQ am ps qs M (nats S) ≤ richQ am ps qs M (nats row.2):=fun S hS=>by
  obtain ⟨x,hx,rfl⟩:=ri_mem ab hS
  exact (ri_le ab hx hrow).mp (hmx x hx)
 refine least_law (f:=fun S=>richQ am ps qs M (nats S)) (richU_nodup _) ab'.2.1 ab'.1 ab'.2.2 hm hmax (ri_sub ab hrow) hM fun T hT fT=>?_
 refine least_sub (f:=fun S=>richQ am ps qs M (nats S)) (rich_super hp) (ri_sub ab hrow) hM (fun S hS fS=>?_) hT fT
 obtain ⟨x,hx,rfl⟩:=ri_mem ab hS
 refine hmn x hx ?_
 have e:richQ am ps qs M (nats x.2)=richQ am ps qs M (nats row.2):=fS
 have h1:=(ri_le ab hx hrow).mpr (by rw [e]; exact Rat.le_refl)
 have h2:=(ri_le ab hrow hx).mpr (by rw [e]; exact Rat.le_refl)
 omega
end
end KM
namespace KM
open PySem L2 KG EX ST
theorem bit_tb (m k g:Nat):(bit m k).testBit g=(m.testBit g || decide (g=k)):=by
 unfold bit
 rw [Nat.testBit_or,Nat.one_shiftLeft,Nat.testBit_two_pow]
 congr 1
 rw [Bool.eq_iff_iff]; simp; exact eq_comm
theorem set2_rows {wi2:TI} {acc a:Addr} {cs:List (Option V)} {H₀:Hp} {Q:VK} {b0:Bool} {S:List Nat} {M:List (List Int)} (hacc:H₀ acc=none) (hS:H₀ a=some (.tup (natsV S))) (hM:∀ r ∈ M,∀ x ∈ r,0 ≤ x∧x < 6) (hi:∀ i ∈ S,i < M.length)
  (hw:∀ (i:Nat) (x1:Option V) (H:Hp) (Z:It→Hp→Prop),i ∈ S→Stay H₀ H→(∀ c,H c=some (.tup ((M.getD i []).map V.int))→Z (Itt K0 c) H)→wi2 (some (.int (i:Int)) :: x1 :: cs) H Z)
  (hd:∀ (m:Nat) H,Stay H₀ H→m < 64→(∀ g,m.testBit g=true ↔ ∃ i ∈ S,(g:Int) ∈ M.getD i [])→H acc=some (setH acc m b0)→Q (.ref acc) H) {x0 x1:Option V} :
  tSet2N b0 (gName 0) tYes wi2 (gName 1) tYes (tVar 1) (Itt K0 a) acc (x0 :: x1 :: cs) H₀ Q:=by
 have hrow:∀ i,∀ x ∈ M.getD i [],0 ≤ x∧x < 6:=fun i x hx=>by
  by_cases h:i < M.length
  ·have:M.getD i [] ∈ M:=by simp [List.getD,List.getElem?_eq_getElem h]
   exact hM _ this x hx
  ·have:M.getD i []=[]:=by simp [List.getD,List.getElem?_eq_none (Nat.le_of_not_lt h)]
   rw [this] at hx; cases hx
 have hnl:(natsV S).length=S.length:=nats_len S
 refine ⟨fun i m σ H=>m=S.length - i∧i ≤ S.length∧(∃ x0 x1,σ=x0 :: x1 :: cs)∧Stay H₀ H∧∃ t:Nat,t < 64∧H acc=some (setH acc t b0)∧∀ g,t.testBit g=true ↔ ∃ x ∈ S.take i,(g:Int) ∈ M.getD x [],⟨S.length,by simp,Nat.zero_le _,⟨_,_,rfl⟩,(Stay.refl H₀).acc hacc,0,by decide,ja1,fun g=>by simp⟩,?_⟩
 rintro i m σ H ⟨rfl,hil,⟨x0,x1,rfl⟩,s,t,ht,hz,htb⟩
 have q:SqT K0 H a (natsV S):=SqT.of (s _ _ hS)
 by_cases hlt:i < S.length
 ·have eS:S[i]?=some S[i]:=List.getElem?_eq_getElem hlt
  have hmem:S[i] ∈ S:=List.getElem_mem hlt
  refine .inr ⟨⟨natsV S,_,q,List.getElem?_eq_getElem (by rw [hnl]; exact hlt)⟩,fun σ H=>(∃ x0 x1,σ=x0 :: x1 :: cs)∧Stay H₀ H∧∃ t:Nat,t < 64∧H acc=some (setH acc t b0)∧∀ g,t.testBit g=true ↔ ∃ x ∈ S.take (i + 1),(g:Int) ∈ M.getD x [],fun σ' H' p=>⟨S.length - (i + 1),by omega,rfl,hlt,p⟩,fun x H' y=>?_⟩
  obtain ⟨e,y⟩:=y
  subst e
  obtain ⟨g0,hg0,rfl⟩:=nat_at (y _ q)
  have eg:g0=S[i]:=by rw [eS] at hg0; exact (Option.some.inj hg0).symm
  subst eg
  dsimp only [gName]
  refine je9 ?_
  refine hw S[i] x1 _ _ hmem s fun c hc=>?_
  have hcl:((M.getD S[i] []).map V.int).length=(M.getD S[i] []).length:=List.length_map _
  refine ⟨fun j m σ H=>m=(M.getD S[i] []).length - j∧j ≤ (M.getD S[i] []).length∧(∃ x1,σ=some (.int ((S[i]:Nat):Int)) :: x1 :: cs)∧Stay H₀ H∧H c=some (.tup ((M.getD S[i] []).map V.int))∧∃ t:Nat,t < 64∧H acc=some (setH acc t b0)∧∀ g,t.testBit g=true ↔ (∃ x ∈ S.take i,(g:Int) ∈ M.getD x []) ∨ (g:Int) ∈ (M.getD S[i] []).take j,
   ⟨(M.getD S[i] []).length,by simp,Nat.zero_le _,⟨_,rfl⟩,s,hc,t,ht,hz,fun g=>by rw [htb]; simp⟩,?_⟩
  rintro j m σ H2 ⟨rfl,hj,⟨x1,rfl⟩,s2,hc2,t2,ht2,hz2,htb2⟩
  have q2:SqT K0 H2 c ((M.getD S[i] []).map V.int):=SqT.of hc2
  by_cases hlt2:j < (M.getD S[i] []).length
  ·refine .inr ⟨⟨_,_,q2,List.getElem?_eq_getElem (by rw [hcl]; exact hlt2)⟩,fun σ H=>(∃ x1,σ=some (.int ((S[i]:Nat):Int)) :: x1 :: cs)∧Stay H₀ H∧H c=some (.tup ((M.getD S[i] []).map V.int))∧∃ t:Nat,t < 64∧H acc=some (setH acc t b0)∧∀ g,t.testBit g=true ↔ (∃ x ∈ S.take i,(g:Int) ∈ M.getD x []) ∨ (g:Int) ∈ (M.getD S[i] []).take (j + 1),fun σ' H' p=>⟨(M.getD S[i] []).length - (j + 1),by omega,rfl,hlt2,p⟩,fun x H' y=>?_⟩
   obtain ⟨e,y⟩:=y
   subst e
   have ex:=y _ q2
   rw [List.getElem?_map,List.getElem?_eq_getElem hlt2] at ex
   have ex':V.int (M.getD S[i] [])[j]=x:=by simpa using ex
   subst ex'
   obtain ⟨n0,n6⟩:=hrow S[i] _ (List.getElem_mem hlt2)
   obtain ⟨n,hn⟩:=Int.eq_ofNat_of_zero_le n0
   have hn6:n < 6:=by rw [hn] at n6; omega
   dsimp only [gName]
   refine je9 ?_
   refine ⟨_,rfl,t2,n,hz2,ht2,hn6,by rw [hn],⟨_,rfl⟩,s2.acc hacc,?_,bit t2 n,bit_lt ht2 hn6,ja1,fun g=>?_⟩
   ·rw [jb5 (fun z=>by rw [z,hz2] at hc2; cases hc2)]; exact hc2
   ·rw [bit_tb,Bool.or_eq_true,htb2,jb2 (List.getElem?_eq_getElem hlt2),List.mem_append,or_assoc]
    refine or_congr Iff.rfl (or_congr Iff.rfl ?_)
    rw [List.mem_singleton,hn,decide_eq_true_eq]
    exact ⟨fun z=>by rw [z],fun z=>by have:(g:Int)=(n:Int):=z; omega⟩
  ·have e:j=(M.getD S[i] []).length:=by omega
   subst e
   refine .inl ⟨⟨_,q2,by rw [hcl]; exact Nat.le_refl _⟩,⟨_,_,rfl⟩,s2,t2,ht2,hz2,fun g=>?_⟩
   rw [htb2,List.take_length,jb2 eS]
   constructor
   ·rintro (⟨x,hx,h⟩ | h)
    ·exact ⟨x,List.mem_append_left _ hx,h⟩
    ·exact ⟨S[i],List.mem_append_right _ (List.mem_singleton.mpr rfl),h⟩
   ·rintro ⟨x,hx,h⟩
    rcases List.mem_append.mp hx with z | z
    ·exact .inl ⟨x,z,h⟩
    ·rw [List.mem_singleton.mp z] at h; exact .inr h
 ·have e:i=S.length:=by omega
  subst e
  rw [List.take_length] at htb
  exact .inl ⟨⟨_,q,by rw [hnl]; exact Nat.le_refl _⟩,hd t H s ht htb hz⟩
end KM
namespace KM
open PySem L2 KG EX ST
def spAllL:Sp:=fun vs H Q _=>∃ (l:Addr) (ns:List Int),vs=[.ref l]∧H l=some (.lst (ns.map V.int))∧ns.length ≤ 6∧∀ (r:Addr) (xs:List V) (H':Hp),Stay H H'→H' r=some (.lst xs)→TsR H' xs (setsL ns)→Q (.ref r) H'
def spCoL:Sp:=fun vs H Q _=>∃ (l t:Addr) (ms:List Int) (S:List Nat),vs=[.ref l,.ref t]∧H l=some (.lst (ms.map V.int))∧H t=some (.lst (natsV S))∧S.length ≤ 6∧(∀ i ∈ S,i < ms.length)∧∀ H',Stay H H'→Q (.int ((S.map fun i=>ms.getD i 0).sum)) H'
def spGBB:Sp:=fun vs H Q _=>∃ (pb t:Addr) (xb:List V) (M:List (List Int)) (S:List Nat),vs=[.ref pb,.ref t]∧H pb=some (.tup xb)∧Rws H xb M∧H t=some (.tup (natsV S))∧(∀ i ∈ S,i < M.length)∧(∀ r ∈ M,∀ x ∈ r,0 ≤ x∧x < 6) ∧
 ∀ (r:Addr) (gs:List Nat) (H':Hp),Stay H H'→gs.Nodup→gs.length ≤ 6→(∀ g:Nat,g ∈ gs ↔ ∃ i ∈ S,(g:Int) ∈ M.getD i [])→H' r=some (.lst (natsV gs))→Q (.ref r) H'
def RowB (M:List (List Int)) (ms ps:List Int) (x:Int × List Int):Prop:=∃ gs:List Nat,gs.Nodup∧(∀ g:Nat,g ∈ gs ↔ ∃ i ∈ nats x.2,(g:Int) ∈ M.getD i [])∧x.1=((nats x.2).map fun i=>ps.getD i 0).sum - (gs.map fun g=>ms.getD g 0).sum
def spRAb:Sp:=fun vs H Q _=>∃ (pb rm rp:Addr) (xb:List V) (M:List (List Int)) (ms ps:List Int),vs=[.ref pb,.ref rm,.ref rp]∧H pb=some (.tup xb)∧Rws H xb M∧H rm=some (.lst (ms.map V.int))∧H rp=some (.lst (ps.map V.int))∧ps.length=M.length∧M.length ≤ 6∧ms.length ≤ 6 ∧
 (∀ r ∈ M,∀ x ∈ r,0 ≤ x∧x < (ms.length:Int))∧∀ (d:Addr) (rows:List (Int × List Int)) (H':Hp),Stay H H'→H d=none→rows.map (·.2)=setsL (richU M.length)→(∀ x ∈ rows,RowB M ms ps x)→H' d=some (.dT (gaD rows))→Q (.ref d) H'
def spRB:Sp:=fun vs H Q _=>∃ (b p pa pp pw q:Addr) (xa xp xw ys:List V) (am pu wi:List PyData) (qs:List Rat),vs=[.ref p,.ref q]∧MP b H p pa pp pw q xa xp xw ys am pu wi qs ∧
 ∀ (a:Addr) (c:Int) (rows:List (Int × List Int)) (row:Int × List Int) (H':Hp),Stay H H'→Rich (am.map intOf) (jb8 pu) qs (rowsOf wi) c rows→BestRow rows row→H' a=some (.tup (row.2.map V.int))→Q (.ref a) H'
def spLRich:Sp:=fun vs H Q _=>∃ (b p pa pp pw q:Addr) (xa xp xw ys:List V) (am pu wi:List PyData) (qs:List Rat),vs=[.ref p,.ref q]∧MkAt b H p pa pp pw xa xp xw am pu wi∧PrAt b H q ys qs∧qs.length=xa.length ∧
 ∀ (c:Int) (rows:List (Int × List Int)) (m:Int) (r:Addr) (H':Hp),Rich (am.map intOf) (jb8 pu) qs (rowsOf wi) c rows→m ∈ rows.map (·.1)→(∀ n ∈ rows.map (·.1),n ≤ m)→Stay H H'→H' r=some (.tup ((leastOf rows m).map V.int))→Q (.ref r) H'
theorem ks_nodup (m:Nat):(ks m).Nodup:=(List.nodup_range).sublist List.filter_sublist
theorem best_mem {M:List (List Int)} {qs:List Rat} {g:Nat} (hl:∀ row ∈ M,row.length=g):∀ r ∈ bestM M qs,∀ x ∈ r,0 ≤ x∧x < (g:Int):=fun r hr x hx=>by
 unfold bestM at hr
 obtain ⟨row,hrow,rfl⟩:=List.mem_map.mp hr
 obtain ⟨j,hj,rfl⟩:=List.mem_map.mp hx
 unfold bestR at hj
 have:=List.mem_range.mp (List.mem_filter.mp hj).1
 have:=hl row hrow
 omega
theorem relB_mem {M:List (List Int)} {qs:List Rat} {g i:Nat}:relB M qs g i=true ↔ (g:Int) ∈ (bestM M qs).getD i []:=by
 unfold relB; rw [List.contains_iff_mem]
theorem rich_of {am:List Int} {ps qs:List Rat} {M:List (List Int)} {c:Int} {rows:List (Int × List Int)} {ms pz:List Int} (hc:0 < c) (hms:IntsOf c ms (jb7 am qs)) (hps:IntsOf c pz ps) (hpl:ps.length=M.length) (hb:∀ r ∈ bestM M qs,∀ x ∈ r,0 ≤ x∧x < (qs.length:Int))
  (hrows:rows.map (·.2)=setsL (richU M.length)) (hv:∀ x ∈ rows,RowB (bestM M qs) ms pz x):Rich am ps qs M c rows:=by
 refine ⟨hc,hrows,fun x hx=>?_⟩
 obtain ⟨gs,nd,hg,e⟩:=hv x hx
 have hS:x.2.Sublist (richU M.length):=mem_setsL.mp (by rw [← hrows]; exact List.mem_map.mpr ⟨x,hx,rfl⟩)
 have hml:(jb7 am qs).length=qs.length:=by unfold jb7; simp
 have hgl:∀ g ∈ gs,g < qs.length:=fun g hgm=>by
  obtain ⟨i,_,hi⟩:=(hg g).mp hgm
  by_cases hil:i < (bestM M qs).length
  ·have:(bestM M qs).getD i [] ∈ bestM M qs:=by simp [List.getD,List.getElem?_eq_getElem hil]
   have:=(hb _ this _ hi).2
   omega
  ·have:(bestM M qs).getD i []=[]:=by simp [List.getD,List.getElem?_eq_none (Nat.le_of_not_lt hil)]
   rw [this] at hi; cases hi
 rw [rich_val (nats_sub hS) nd (fun g=>?_),e,Rat.intCast_sub,ints_sum hps (fun i hi=>?_),ints_sum hms (fun g hgm=>by rw [hml]; exact hgl g hgm),Rat.sub_eq_add_neg,Rat.sub_eq_add_neg,Rat.mul_add,Rat.mul_neg]
 ·rw [hpl]
  exact List.mem_range.mp ((nats_sub hS).subset hi)
 ·rw [hg g]
  exact ⟨fun ⟨i,h1,h2⟩=>⟨hgl g ((hg g).mpr ⟨i,h1,h2⟩),i,h1,relB_mem.mpr h2⟩,fun ⟨_,i,h1,h2⟩=>⟨i,h1,relB_mem.mp h2⟩⟩
end KM
namespace K9
open PySem L2 KG EX KM ST
section
variable {P:Program} {w:World} {K:PySem.W.Frag} {mg:Str→Option Value} {base:Heap}
theorem ok_allL {f:Addr} {fd:FuncData} (F:Fun K "all_sets" "all_sets" (top 24) f fd):FnOk P w K mg base CX0 1 f fd ["members"] spAllL:=by
 refine F.ok scAll (fun vs H Q E h=>?_) (fun cdv A' outer s H vs Q E hr h=>?_)
 ·obtain ⟨l,ns,rfl,_⟩:=h; rfl
 ·obtain ⟨l,ns,rfl,hl,h6,k⟩:=h
  refine ⟨_,ja4 (jb1 (i:=1) scAll.nd rfl (Or.inl rfl) (je4 (ja0 (jd6 ja2) ja2)))
   (ja4 (jf6 PassesOwn.never rfl (piL0 (pv 0)) (ja8 (i:=2) scAll.nd rfl (Or.inr rfl))
    (ja7 (jb1 (i:=1) scAll.nd rfl (Or.inl rfl) (jb3 op_cat (pv 1) (jc3 (own:=["some"]) (cap:=["member"]) (ix:=[2]) (BlkOk.of (ja5 (top 24)).names ["members","sets","member"]) rfl (piL0 (pv 1))
     (fun C fp s H=>⟨ja8 (i:=0) (show List.Nodup (["some","member"]:List Str) by decide +kernel) rfl (Or.inl rfl),jb9,jb3 op_catA (pv 0) (jd6 (ja0 (pv 1) ja2))⟩))))))
   (ja7 (jb4 (pv 1)))),?_⟩
  refine ⟨by show 0 ≤ sizeLine; decide,fun p0 hp0=>⟨by show 1 ≤ sizeLine; decide,fun p1 hp1=>?_⟩⟩
  have s0:=(Stay.refl H).new (o:=.tup []) hp0
  have s1:=s0.new (o:=.lst [.ref p0]) hp1
  have e0:(upd (upd H p0 (.tup [])) p1 (.lst [.ref p0])) p0=some (.tup []):=(Stay.refl _).new hp1 _ _ ja1
  have e1:(upd (upd H p0 (.tup [])) p1 (.lst [.ref p0])) p1=some (.lst [.ref p0]):=ja1
  generalize upd (upd H p0 (.tup [])) p1 (.lst [.ref p0])=H1 at s1 e0 e1 ⊢
  refine ⟨_,rfl,l,rfl,⟨_,SqL.of (s1 _ _ hl)⟩,?_⟩
  refine jf7 (xs:=ns.map V.int) (fun i σ H'=>(∃ a xs y2,σ=[some (.ref l),some (.ref a),y2]∧H' a=some (.lst xs)∧TsR H' xs (setsL (ns.take i)))∧Stay H H') ⟨⟨p1,_,_,rfl,e1,TsR.nil.app (r:=[]) e0⟩,s1⟩ (fun i σ H' _ z=>SqL.of (z.2 _ _ hl)) ?_ ?_
  ·rintro i x σ H2 hx ⟨⟨a,xs,y2,rfl,ha,ts⟩,s2⟩
   obtain ⟨n,hn,rfl⟩:∃ n:Int,ns[i]?=some n∧x=V.int n:=by
    rw [List.getElem?_map] at hx
    cases e:ns[i]? with
    | none=>rw [e] at hx; cases hx
    | some n=>rw [e] at hx; exact ⟨n,rfl,by simpa using hx.symm⟩
   have hi:i < ns.length:=(List.getElem?_eq_some_iff.mp hn).1
   have hx32:xs.length ≤ 32:=by
    rw [ts.1,setsL_len,List.length_take]
    exact Nat.le_trans (Nat.pow_le_pow_right (by decide) (show min i ns.length ≤ 5 by omega)) (by decide)
   refine ⟨_,rfl,_,rfl,a,rfl,⟨_,SqL.of ha⟩,fun acc hacc=>?_⟩
   refine jd3 (xs:=xs) (fun j zs H'=>Stay H2 H'∧TsR H' zs (((setsL (ns.take i)).take j).map fun s=>s ++ [n])∧zs.length=j) ⟨(Stay.refl H2).acc hacc,TsR.nil,rfl⟩ (fun j zs H' _ _ z=>SqL.of (z.1 _ _ ha)) ?_ ?_
   ·rintro j x zs H3 hx3 hz ⟨s3,tz,hzl⟩
    obtain ⟨c,r,hr3,rfl,hc⟩:=ts.2 j x hx3
    have hr6:r.length ≤ 6:=by
     have h1:=(mem_setsL.mp (List.mem_of_getElem? hr3)).length_le
     rw [List.length_take] at h1; omega
    have hj:j < xs.length:=(List.getElem?_eq_some_iff.mp hx3).1
    refine je9 ⟨_,rfl,_,rfl,by show 1 ≤ sizeLine; decide,fun q hq=>?_⟩
    have s4:=(Stay.refl H3).new (o:=.tup [.int n]) hq
    refine ⟨c,q,_,_,rfl,rfl,s4 _ _ (s3 _ _ hc),ja1,by rw [List.length_map,sz]; show _ + 1 ≤ _; omega,fun t H5 s5 ht=>?_⟩
    have hz5:=s5 _ _ (s4 _ _ hz)
    have s35:=s4.trans s5
    refine ⟨zs,hz5,by rw [hzl,sz]; omega,Cn.of ja1 ⟨(s3.trans s35).acc hacc,?_,by rw [List.length_append,hzl]; rfl⟩⟩
    rw [jb2 hr3,List.map_append]
    refine ((tz.stay s35).app (r:=r ++ [n]) (a:=t) ?_).tm (Tm.lst hz5)
    rw [ht,List.map_append]; rfl
   ·rintro zs H3 hz ⟨s3,tz,hzl⟩
    rw [ts.1,List.take_length] at tz
    have ha3:=s3 _ _ ha
    refine ⟨a,acc,xs,zs,rfl,rfl,ha3,hz,by rw [hzl,sz]; omega,fun p hp=>?_⟩
    have s4:=(Stay.refl H3).new (o:=.lst (xs ++ zs)) hp
    refine ⟨⟨p,_,_,rfl,ja1,?_⟩,s2.trans (s3.trans s4)⟩
    rw [jb2 hn,setsL_snoc]
    exact ((ts.stay s3).cat tz).stay s4
  ·rintro σ H2 ⟨⟨a,xs,y2,rfl,ha,ts⟩,s2⟩
   rw [List.length_map,List.take_length] at ts
   exact ⟨_,rfl,k a xs H2 s2 ha ts⟩
theorem ok_coL {f:Addr} {fd:FuncData} (F:Fun K "coins_of" "coins_of" (top 26) f fd) (N:Nm mg):FnOk P w K mg base CX0 1 f fd ["coins","some"] spCoL:=by
 refine F.ok scCo (fun vs H Q E h=>?_) (fun cdv A' outer s H vs Q E hr h=>?_)
 ·obtain ⟨l,t,ms,S,rfl,_⟩:=h; rfl
 ·obtain ⟨l,t,ms,S,rfl,hl,ht,h6,hS,k⟩:=h
  refine ⟨_,ja7 (jb4 (jb0 (cSum0 rfl) (by rfl) N.sum boot_sum (ja0 (jc3 (own:=["number"]) (cap:=["coins"]) (ix:=[0]) (BlkOk.of (ja5 (top 26)).names ["coins","some"]) rfl (piL0 (pv 1))
   (fun C fp s H=>⟨ja8 (i:=0) (show List.Nodup (["number","coins"]:List Str) by decide +kernel) rfl (Or.inl rfl),jb9,ja9 ixL0 (pv 1) (pv 0) (fun _ _=>rfl)⟩)) ja2))),?_⟩
  refine ⟨_,rfl,t,rfl,⟨_,SqL.of ht⟩,fun acc hacc=>?_⟩
  refine jd3 (xs:=natsV S) (fun j zs H'=>Stay H H'∧zs=((S.take j).map fun i=>ms.getD i 0).map V.int) ⟨(Stay.refl H).acc hacc,rfl⟩ (fun j zs H' _ _ z=>SqL.of (z.1 _ _ ht)) ?_ ?_
  ·rintro j x zs H1 hx hz ⟨s1,rfl⟩
   obtain ⟨g,hg,rfl⟩:=nat_at hx
   have hgl:=hS g (List.mem_of_getElem? hg)
   obtain ⟨ea,_,_⟩:=jd8 (ns:=ms) (r:=(g:Int)) (by omega) (by omega)
   rw [Int.toNat_natCast] at ea
   have hj:j < S.length:=(List.getElem?_eq_some_iff.mp hg).1
   refine je9 ⟨_,rfl,_,rfl,l,_,_,_,rfl,rfl,SqL.of (s1 _ _ hl),ea,_,hz,?_,Cn.of ja1 ⟨s1.acc hacc,?_⟩⟩
   ·rw [List.length_map,List.length_map,List.length_take,sz]; omega
   ·rw [jb2 hg,List.map_append,List.map_append]; rfl
  ·rintro zs H1 hz ⟨s1,rfl⟩
   rw [nats_len,List.take_length] at hz
   exact ⟨acc,_,rfl,.inl (SqL.of hz),k H1 s1⟩
theorem scGB:FnScope ["best","buyers"] ["best","buyers"] (ja5 (top 28)):=⟨rfl,rfl,rfl,by decide +kernel,rfl,by decide +kernel,by decide +kernel⟩
theorem ok_gb {f:Addr} {fd:FuncData} (F:Fun K "goods_by_best" "goods_by_best" (top 28) f fd) (mS:mg "sorted"=none):FnOk P w K mg base CX0 1 f fd ["best","buyers"] spGBB:=by
 refine F.ok scGB (fun vs H Q E h=>?_) (fun cdv A' outer s H vs Q E hr h=>?_)
 ·obtain ⟨pb,t,xb,M,S,rfl,_⟩:=h; rfl
 ·obtain ⟨pb,t,xb,M,S,rfl,hb,rw0,ht,hi,hM,k⟩:=h
  refine ⟨_,ja7 (jb4 (jb0 (call_sortedS rfl) (by rfl) mS boot_sorted (ja0 (pe_set2 (own:=["buyer","good"]) (cap:=["best"]) (ix:=[0]) (BlkOk.of (ja5 (top 28)).names ["best","buyers"]) rfl (piT0 (pv 1))
   (fun C fp s H=>⟨ja8 (i:=0) (show List.Nodup (["buyer","good","best"]:List Str) by decide +kernel) rfl (Or.inl rfl),jb9,piT0 (ja9 ixT0 (pv 2) (pv 0) (fun _ _=>rfl)),ja8 (i:=1) (show List.Nodup (["buyer","good","best"]:List Str) by decide +kernel) rfl (Or.inl rfl),jb9,pv 1⟩)) ja2))),?_⟩
  refine ⟨_,rfl,t,rfl,⟨_,SqT.of ht⟩,fun acc hacc=>?_⟩
  refine set2_rows (cs:=[some (.ref pb)]) (x0:=none) (x1:=none) hacc ht hM hi (fun i x1 H1 Z hiS s1 hZ=>?_) fun m H1 s1 hm htb hz=>?_
  ·have hil:i < xb.length:=by rw [rw0.len]; exact hi i hiS
   obtain ⟨ns,c,e1,e2,e3⟩:=rw0.at (List.getElem?_eq_getElem hil)
   have eM:M.getD i []=ns:=by simp [List.getD,e1]
   have ea:atI xb (i:Int)=some (.ref c):=atI_nat (by rw [List.getElem?_eq_getElem hil,e2])
   have hc:=s1 _ _ e3
   rw [← eM] at hc
   exact ⟨_,rfl,_,rfl,pb,_,_,_,rfl,rfl,SqT.of (s1 _ _ hb),ea,c,rfl,⟨_,SqT.of hc⟩,hZ c hc⟩
  ·refine ⟨acc,m,rfl,hz,hm,fun l hl=>?_⟩
   refine k l (ks m) _ (s1.new hl) (ks_nodup m) (ks_len m) (fun g=>?_) ja1
   rw [mem_ks,htb]
   refine ⟨fun h=>h.2,fun h=>⟨?_,h⟩⟩
   obtain ⟨i,hiS,hg⟩:=h
   have:M.getD i [] ∈ M:=by simp [List.getD,List.getElem?_eq_getElem (hi i hiS)]
   have:=(hM _ this _ hg).2
   omega
abbrev NBA:List Str:=["best","money","purses"]
theorem scBA:FnScope NBA NBA (ja5 (top 27)):=⟨rfl,rfl,rfl,by decide +kernel,rfl,by decide +kernel,by decide +kernel⟩
theorem ok_ba {f fC fG fA:Addr} {fd dC dG dA:FuncData} (F:Fun K "buyers_above" "buyers_above" (top 27) f fd) (N:Nm mg) (Co:Cal K mg P w base "coins_of" 1 ["coins","some"] spCo fC dC) (CoL:Cal K mg P w base "coins_of" 1 ["coins","some"] spCoL fC dC)
  (G:Cal K mg P w base "goods_by_best" 1 ["best","buyers"] spGBB fG dG) (A:Cal K mg P w base "all_sets" 1 ["members"] spAllL fA dA):FnOk P w K mg base CX0 2 f fd NBA spRAb:=by
 refine F.ok scBA (fun vs H Q E h=>?_) (fun cdv A' outer s H vs Q E hr h=>?_)
 ·obtain ⟨pb,rm,rp,xb,M,ms,ps,rfl,_⟩:=h; rfl
 ·obtain ⟨pb,rm,rp,xb,M,ms,ps,rfl,hb,rw0,hm,hp,hpl,h6,hm6,hM,k⟩:=h
  refine ⟨_,ja7 (jb4 (pe_dcompT (own:=["some"]) (cap:=["best","money","purses"]) (ix:=[0,1,2]) hr.units0 (BlkOk.of (ja5 (top 27)).names NBA) rfl (piL0 (ja6 A.ok hr rfl A.mg A.kp A.bd .nil pass0 (ja0 (jb6 (je7 rfl) (by rfl) N.list jf4 (ja0 (jb6 call_rangeV (by rfl) N.range boot_range' (ja0 (jb0 cLen0 (by rfl) N.len PySem.boot_len (ja0 (pv 2) ja2)) ja2)) ja2)) ja2)))
   (fun C fp s H=>⟨ja8 (i:=0) (show List.Nodup (["some","best","money","purses"]:List Str) by decide +kernel) rfl (Or.inl rfl),jb9,pv 0,
    jb3 op_sub (ja6 Co.ok hr rfl Co.mg Co.kp Co.bd .nil pass0 (ja0 (pv 3) (ja0 (pv 0) ja2))) (ja6 CoL.ok hr rfl CoL.mg CoL.kp CoL.bd .nil pass0 (ja0 (pv 2) (ja0 (ja6 G.ok hr rfl G.mg G.kp G.bd .nil pass0 (ja0 (pv 1) (ja0 (pv 0) ja2))) ja2)))⟩))),?_⟩
  refine ⟨_,rfl,rp,_,rfl,.inl (SqL.of hp),(ps.length:Int),by rw [List.length_map],fun rr hrr=>?_⟩
  refine ⟨rr,(ps.length:Int),rfl,ja1,by omega,by omega,fun l hl=>?_⟩
  rw [Int.toNat_natCast]
  have s2:=((Stay.refl H).new (o:=rngOf rr (ps.length:Int)) hrr).new (o:=.lst ((List.range ps.length).map fun i:Nat=>V.int (i:Int))) hl
  have e2:(upd (upd H rr (rngOf rr (ps.length:Int))) l (.lst ((List.range ps.length).map fun i:Nat=>V.int (i:Int)))) l=some (.lst ((richU ps.length).map V.int)):=by
   rw [ja1]; unfold richU; rw [List.map_map]; rfl
  generalize upd (upd H rr (rngOf rr (ps.length:Int))) l (.lst ((List.range ps.length).map fun i:Nat=>V.int (i:Int)))=H2 at s2 e2 ⊢
  have hul:(richU ps.length).length ≤ 6:=by rw [richU_len]; omega
  refine ⟨l,richU ps.length,rfl,e2,hul,fun qse xs H4 s4 e4 ts4=>?_⟩
  have s04:=s2.trans s4
  have hnd:=setsL_nodup (richU_nodup ps.length)
  have hs64:(setsL (richU ps.length)).length ≤ 64:=by
   rw [setsL_len]
   exact Nat.le_trans (Nat.pow_le_pow_right (by decide) hul) (by decide)
  refine ⟨qse,rfl,⟨_,SqL.of e4⟩,fun acc hacc=>?_⟩
  refine dcompT_list (xs:=xs) (fun i kvs H'=>Stay H4 H'∧∃ rows:List (Int × List Int),kvs=gaD rows∧rows.map (·.2)=(setsL (richU ps.length)).take i∧∀ x ∈ rows,RowB M ms ps x)
   ⟨(Stay.refl H4).acc hacc,[],rfl,rfl,fun x hx=>nomatch hx⟩ (fun i zs H' _ _ z=>SqL.of (z.1 _ _ e4)) ?_ ?_
  ·rintro i x kvs H5 hx hy ⟨s5,rows,rfl,hmap,hval⟩
   obtain ⟨a,S,hSi,rfl,ha⟩:=ts4.2 i x hx
   have hSm:=List.mem_of_getElem? hSi
   have hSs:=mem_setsL.mp hSm
   have hS6:(nats S).length ≤ 6:=by unfold nats; rw [List.length_map]; exact Nat.le_trans hSs.length_le hul
   have hSx:∀ g ∈ nats S,g < ps.length:=fun g hg=>List.mem_range.mp ((nats_sub hSs).subset hg)
   have hnn:∀ x ∈ S,0 ≤ x:=fun x hx=>by
    have:=hSs.subset hx
    unfold richU at this
    obtain ⟨j,_,rfl⟩:=List.mem_map.mp this
    omega
   have ha5:H5 a=some (.tup (natsV (nats S))):=by rw [s5 _ _ ha,nats_V hnn]
   have s05:=s04.trans s5
   refine je9 ⟨_,rfl,_,rfl,_,rfl,rp,a,ps,nats S,rfl,s05 _ _ hp,ha5,hS6,hSx,fun H6 s6=>?_⟩
   have s06:=s05.trans s6
   refine ⟨_,rfl,_,rfl,_,rfl,pb,a,xb,M,nats S,rfl,s06 _ _ hb,rw0.keep s06.tm,s6 _ _ ha5,fun i hi=>by rw [← hpl]; exact hSx i hi,fun r hr x hx=>⟨(hM r hr x hx).1,by have:=(hM r hr x hx).2; omega⟩,fun rg gs H7 s7 nd7 len7 mem7 e7=>?_⟩
   have hgl:∀ g ∈ gs,g < ms.length:=fun g hg=>by
    obtain ⟨j,hj,hgj⟩:=(mem7 g).mp hg
    have hjl:j < M.length:=by rw [← hpl]; exact hSx j hj
    have:M.getD j [] ∈ M:=by simp [List.getD,List.getElem?_eq_getElem hjl]
    have:=(hM _ this _ hgj).2
    omega
   refine ⟨rm,rg,ms,gs,rfl,s7 _ _ (s06 _ _ hm),e7,len7,hgl,fun H8 s8=>?_⟩
   have s58:=(s6.trans s7).trans s8
   have hnew:S.map keyZ ∉ (gaD rows).map (·.1):=fun z=>by
    unfold gaD at z
    rw [List.map_map] at z
    obtain ⟨row,hrow,e⟩:=List.mem_map.mp z
    have e2:row.2=S:=keyZ_inj e
    have:row.2 ∈ rows.map (·.2):=List.mem_map.mpr ⟨row,hrow,rfl⟩
    rw [hmap,e2] at this
    exact not_take hnd hSi this
   have hil:i < (setsL (richU ps.length)).length:=(List.getElem?_eq_some_iff.mp hSi).1
   have hrl:rows.length=i:=by
    have:=congrArg List.length hmap
    rw [List.length_map,List.length_take] at this
    omega
   refine ⟨_,_,rfl,rfl,gaD rows,S.map keyZ,a,s58 _ _ hy,rfl,?_,?_,CnT.of ja1 ⟨(s5.trans s58).acc hacc,rows ++ [(((nats S).map fun i=>ps.getD i 0).sum - (gs.map fun g=>ms.getD g 0).sum,S)],?_,?_,?_⟩⟩
   ·rw [keyZ_V]; exact s58 _ _ (s5 _ _ ha)
   ·unfold gaD; rw [List.length_map,hrl,sz]; omega
   ·rw [putK_new _ (valV_noneT hnew)]; unfold gaD; rw [List.map_append]; rfl
   ·rw [List.map_append,hmap,jb2 hSi]; rfl
   ·intro x hx
    rcases List.mem_append.mp hx with h | h
    ·exact hval x h
    ·rw [List.mem_singleton.mp h]
     exact ⟨gs,nd7,mem7,rfl⟩
  ·rintro kvs H5 hy ⟨s5,rows,rfl,hmap,hval⟩
   rw [ts4.1,List.take_length] at hmap
   rw [hpl] at hmap
   exact k acc rows H5 (s04.trans s5) (s04.free hacc) hmap hval hy
abbrev NRB:List Str:=["market","prices","best","money","purses"]
theorem scRB:FnScope NRB ["market","prices"] (ja5 (top 30)):=⟨rfl,rfl,rfl,by decide +kernel,rfl,by decide +kernel,by decide +kernel⟩
theorem ok_rb {f fB fI fA fL Pr:Addr} {fd dB dI dA dL:FuncData} (F:Fun K "rich_buyers" "rich_buyers" (top 30) f fd) (B:CalX K mg P w base "best_goods" 6 ["market","prices"] (spBest Pr) fB dB) (I:Cal K mg P w base "in_coins" 5 ["market","prices"] spCoins fI dI)
  (A:Cal K mg P w base "buyers_above" 2 NBA spRAb fA dA) (L:Cal K mg P w base "least_of_most" 1 ["above"] spLom fL dL):FnOk P w K mg base CX0 7 f fd ["market","prices"] spRB:=by
 refine F.ok scRB (fun vs H Q E h=>?_) (fun cdv A' outer s H vs Q E hr h=>?_)
 ·obtain ⟨b,p,pa,pp,pw,q,xa,xp,xw,ys,am,pu,wi,qs,rfl,_⟩:=h; rfl
 ·obtain ⟨b,p,pa,pp,pw,q,xa,xp,xw,ys,am,pu,wi,qs,rfl,mp,k⟩:=h
  have m:=mp.m
  have pr:=mp.pr
  have hql:=mp.l
  have hr1:Room 1 _:=hr.mono (by decide)
  have hr2:Room 2 _:=hr.mono (by decide)
  have hr5:Room 5 _:=hr.mono (by decide)
  obtain ⟨rw0,rne,rlen,rbd,a1,a6,w1,w6,wp⟩:=m.lw
  refine ⟨_,ja4 (jb1 (i:=2) scRB.nd rfl (Or.inl rfl) (ja6 B.ok hr rfl B.mg B.kp B.bd .nil passE0 (ja0 (pv 0) (ja0 (pv 1) ja2))))
   (ja4 (ps_asg (ja6 I.ok hr5 rfl I.mg I.kp I.bd .nil pass0 (ja0 (pv 0) (ja0 (pv 1) ja2))) (pgTup0 rfl (jc9 (ja8 (i:=3) scRB.nd rfl (Or.inl rfl)) (jc9 (ja8 (i:=4) scRB.nd rfl (Or.inl rfl)) pgs_nil))))
   (ja7 (jb4 (ja6 L.ok hr1 rfl L.mg L.kp L.bd .nil pass0 (ja0 (ja6 A.ok hr2 rfl A.mg A.kp A.bd .nil pass0 (ja0 (pv 2) (ja0 (pv 3) (ja0 (pv 4) ja2)))) ja2))))),?_⟩
  have hM6:(rowsOf wi).length ≤ 6:=by rw [← rw0.len]; exact w6
  have hPr:isPrs xa.length (rowsOf wi) (.tuple (qs.map qD))=true:=prs_q.mpr ⟨hql,mp.ok⟩
  have ag:ArgP b H p pa pp pw xa xp xw am pu wi (.ref q) (.tuple (qs.map qD)):=⟨m,.tup pr.hq pr.tr,fun qs' e z hz=>by
   injection e with e
   have:qs'=qs:=(List.map_inj_right (fun a b h=>by have h1:=congrArg qOf h; rw [qOf_qD,qOf_qD] at h1; exact h1)).mp e.symm
   rw [this] at hz
   exact (pr.bd z hz).mono (by decide)⟩
  refine ⟨_,rfl,_,rfl,b,p,pa,pp,pw,xa,xp,xw,am,pu,wi,.ref q,_,rfl,ag,fun hn=>by (rw [hPr] at hn; cases hn),fun qs' e _ _ rb xb H1 s1 hb1 ls1=>?_⟩
  injection e with e
  have e':qs=qs':=(List.map_inj_right (fun a b h=>by have h1:=congrArg qOf h; rw [qOf_qD,qOf_qD] at h1; exact h1)).mp e
  subst e'
  refine ⟨_,rfl,_,rfl,b,p,pa,pp,pw,q,xa,xp,xw,ys,am,pu,wi,qs,rfl,m.stay s1,pr.stay s1,hql,fun r2 rm rp c ms ps H2 s2 hc hms hps hr2 hrm hrp=>?_⟩
  refine ⟨r2,_,rfl,SqT.of hr2,rfl,_,_,rfl,_,_,rfl,rfl,?_⟩
  have s12:=s1.trans s2
  have hMl:(bestM (rowsOf wi) qs).length=(rowsOf wi).length:=by unfold bestM; rw [List.length_map]
  have hpl:(jb8 pu).length=(rowsOf wi).length:=by
   have h1:=(m.fp).1
   have h2:=rw0.len
   omega
  have hml:(jb7 (am.map intOf) qs).length=xa.length:=by unfold jb7; rw [List.length_map,List.length_range,hql]
  have hmsl:ms.length=xa.length:=by rw [hms.1,hml]
  have hbm:∀ r ∈ bestM (rowsOf wi) qs,∀ x ∈ r,0 ≤ x∧x < (ms.length:Int):=best_mem (fun row hrow=>by rw [hmsl]; exact rlen row hrow)
  refine ⟨_,rfl,_,rfl,_,rfl,rb,rm,rp,xb,bestM (rowsOf wi) qs,ms,ps,rfl,s2 _ _ hb1,ls1.keep s2.tm,hrm,hrp,by rw [hps.1,hpl,hMl],by rw [hMl]; exact hM6,by omega,hbm,fun d rows H3 s3 hd0 hrows hval hd=>?_⟩
  rw [hMl] at hrows
  have ri:Rich (am.map intOf) (jb8 pu) qs (rowsOf wi) c rows:=rich_of hc hms hps hpl (by rw [hql,← hmsl]; exact hbm) hrows hval
  have hul:(richU (rowsOf wi).length).length ≤ 6:=by rw [richU_len]; exact hM6
  have hrl:rows.length=(setsL (richU (rowsOf wi).length)).length:=by rw [← hrows,List.length_map]
  rw [setsL_len] at hrl
  refine ⟨d,rows,rfl,hd,fun z=>?_,by rw [hrl]; exact Nat.le_trans (Nat.pow_le_pow_right (by decide) hul) (by decide),by rw [hrows]; exact setsL_nodup (richU_nodup _),fun row a H4 kp br ha=>?_⟩
  ·rw [z] at hrl
   exact absurd hrl.symm (Nat.ne_of_gt (Nat.pow_pos (by decide)))
  ·exact k a c rows row H4 (fun x o e=>kp x o (fun z=>by rw [z] at e; rw [s12.free hd0] at e; cases e) (s3 _ _ (s12 _ _ e))) ri br ha
end
end K9
namespace K9
open PySem L2 KG EX KM
section
variable {P:Program} {w:World} {K:PySem.W.Frag} {mg:Str→Option Value} {base:Heap}
abbrev NLe:List Str:=["rows","most","sets","found","one"]
theorem scLeast:FnScope NLe ["rows"] (ja5 (top 53)):=⟨rfl,rfl,rfl,by decide +kernel,rfl,by decide +kernel,by decide +kernel⟩
theorem ok_lleast {f:Addr} {fd:FuncData} (F:Fun K "_law_least" "_law_least" (top 53) f fd) (N:Nm mg):FnOk P w K mg base CX0 1 f fd ["rows"] spLeast:=by
 refine F.ok scLeast (fun vs H Q E h=>?_) (fun cdv A' outer s H vs Q E hr h=>?_)
 ·obtain ⟨l,xs,rows,rfl,_⟩:=h; rfl
 ·obtain ⟨l,xs,rows,rfl,hl,hrow,hne,h64,h6,k⟩:=h
  have hu:=hr.units
  refine ⟨_,ja4 (jb1 (i:=1) scLeast.nd rfl (Or.inr rfl) (jb0 (cMax0 rfl) (by rfl) N.max boot_max (ja0 (jc3 (own:=["row"]) (cap:=[]) (ix:=[]) (BlkOk.of (ja5 (top 53)).names NLe) rfl (piL0 (pv 0))
    (fun C fp s H=>⟨ja8 (i:=0) (show List.Nodup (["row"]:List Str) by decide +kernel) rfl (Or.inl rfl),jb9,ja9 ixL0 (pv 0) ja3 (fun _ _=>rfl)⟩)) ja2)))
   (ja4 (ps_setC (i:=2) (own:=["row"]) (cap:=["most"]) (ix:=[1]) scLeast.nd rfl rfl (BlkOk.of (ja5 (top 53)).names NLe) rfl (piL0 (pv 0))
    (fun C fp s H=>⟨ja8 (i:=0) (show List.Nodup (["row","most"]:List Str) by decide +kernel) rfl (Or.inl rfl),je6 (jc0 op_eq (ja9 ixL0 (pv 0) ja3 (fun _ _=>rfl)) (pv 1) (nomark _)),ja9 ixL0 (pv 0) ja3 (fun _ _=>rfl)⟩))
   (ja4 (jb1 (i:=3) scLeast.nd rfl (Or.inl rfl) (je4 ja2))
   (ja4 (jf6 PassesOwn.never rfl (piL0 (ja9 ixL0 (pv 2) ja3 (fun _ _=>rfl))) (ja8 (i:=4) scLeast.nd rfl (Or.inr rfl))
    (ja7 (jf1 (jc0 (opEqD0 hu) (jc3 (own:=["some"]) (cap:=["one"]) (ix:=[4]) (BlkOk.of (ja5 (top 53)).names NLe) rfl (piL0 (pv 2))
     (fun C fp s H=>⟨ja8 (i:=0) (show List.Nodup (["some","one"]:List Str) by decide +kernel) rfl (Or.inl rfl),je6 (jc0 opNin0 (pv 1) (pv 0) (by with_unfolding_all rfl)),pv 0⟩)) (je4 ja2) (nomark _))
     (ja7 (ps_expr (peBm0 PySem.F.plainAttrs_list PySem.F.slot_list_append PySem.F.type_list_append jf3 (pv 3) (ja0 (pv 4) ja2)))) jc6)))
   (ja7 (jb4 (jb6 cTup0 (by rfl) N.tuple jc5 (ja0 (pv 3) ja2))))))),?_⟩
  have rowAt:∀ (i:Nat) x,xs[i]?=some x→∃ (a c:Addr) (r:Int × List Int),rows[i]?=some r∧x=.ref a∧H a=some (.lst [.int r.1,.ref c])∧H c=some (.lst (r.2.map V.int)):=fun i x hx=>by
   obtain ⟨a,c,e,z,y⟩:=hrow.2 i x hx
   have hi:i < rows.length:=by rw [← hrow.1]; exact (List.getElem?_eq_some_iff.mp hx).1
   have eg:rows.getD i (0,[])=rows[i]:=by simp [List.getD,List.getElem?_eq_getElem hi]
   rw [eg] at z y
   exact ⟨a,c,rows[i],List.getElem?_eq_getElem hi,e,z,y⟩
  refine ⟨_,rfl,l,rfl,⟨_,SqL.of hl⟩,fun acc hacc=>?_⟩
  refine jd3 (xs:=xs) (fun i ys H'=>Stay H H'∧ys=((rows.take i).map (·.1)).map V.int) ⟨(Stay.refl H).acc hacc,rfl⟩ (fun i ys H' _ _ z=>SqL.of (z.1 _ _ hl)) ?_ ?_
  ·rintro i x ys H1 hx hy ⟨s1,rfl⟩
   obtain ⟨a,c,r,hri,rfl,ha,hc⟩:=rowAt i x hx
   refine je9 ⟨_,rfl,a,_,_,_,rfl,rfl,SqL.of (s1 _ _ ha),rfl,_,hy,?_,Cn.of ja1 ⟨s1.acc hacc,?_⟩⟩
   ·rw [List.length_map,List.length_map,List.length_take,sz]; omega
   ·rw [jb2 hri,List.map_append,List.map_append]; rfl
  rintro ys H1 hy ⟨s1,rfl⟩
  rw [hrow.1,List.take_length] at hy
  refine ⟨acc,rows.map (·.1),rfl,.inl (SqL.of hy),by simpa using hne,fun m hm hmax=>?_⟩
  refine ⟨_,rfl,l,rfl,⟨_,SqL.of (s1 _ _ hl)⟩,fun acc2 hacc2=>?_⟩
  refine jd3 (xs:=xs) (fun i ys H'=>Stay H1 H'∧LsR H1 ys (topsL (rows.take i) m)∧ys.length ≤ i) ⟨(Stay.refl H1).acc hacc2,⟨rfl,fun j x z=>by simp at z⟩,Nat.le_refl _⟩ (fun i ys H' _ _ z=>SqL.of (z.1 _ _ (s1 _ _ hl))) ?_ ?_
  ·rintro i x ys H2 hx hy2 ⟨s2,ls,hyl⟩
   obtain ⟨a,c,r,hri,rfl,ha,hc⟩:=rowAt i x hx
   have s12:=s1.trans s2
   have hi:i < rows.length:=(List.getElem?_eq_some_iff.mp hri).1
   refine ⟨_,rfl,a,_,_,_,rfl,rfl,SqL.of (s12 _ _ ha),rfl,_,rfl,rfl,_,rfl,?_⟩
   have et:topsL (rows.take (i + 1)) m=topsL (rows.take i) m ++ if r.1=m then [r.2] else []:=by
    unfold topsL
    rw [jb2 hri,List.filter_append,List.map_append]
    congr 1
    by_cases h:r.1=m
    ·rw [if_pos h]; simp only [List.filter,h,decide_true,List.map_cons,List.map_nil]
    ·rw [if_neg h]; simp only [List.filter,h,decide_false,List.map_nil]
   by_cases h:r.1=m
   ·rw [show decide (V.int r.1=V.int m)=true by simp [h]]
    refine iteT ⟨_,rfl,a,_,_,_,rfl,rfl,SqL.of (s12 _ _ ha),rfl,ys,hy2,?_,Cn.of ja1 ⟨s2.acc hacc2,?_,?_⟩⟩
    ·rw [sz]; omega
    ·rw [et,if_pos h]; exact ls.app (s1 _ _ hc)
    ·rw [List.length_append]; show ys.length + 1 ≤ i + 1; omega
   ·rw [show decide (V.int r.1=V.int m)=false by simp [h]]
    refine iteF (Cn.of hy2 ⟨s2,?_,by omega⟩)
    rw [et,if_neg h,List.append_nil]; exact ls
  rintro ys H2 hy2 ⟨s2,ls,hyl⟩
  rw [hrow.1,List.take_length] at ls
  have s12:=s1.trans s2
  refine ⟨by show 0 ≤ sizeLine; decide,fun pf hpf=>?_⟩
  have s3:=(Stay.refl H2).new (o:=.lst []) hpf
  have hf3:(upd H2 pf (.lst [])) pf=some (.lst []):=ja1
  generalize upd H2 pf (.lst [])=H3 at s3 hf3 ⊢
  have tne:topsL rows m ≠ []:=by
   obtain ⟨r,hr1,hr2⟩:=List.mem_map.mp hm
   intro z
   have:r.2 ∈ topsL rows m:=by
    unfold topsL
    exact List.mem_map.mpr ⟨r,List.mem_filter.mpr ⟨hr1,by simp [hr2]⟩,rfl⟩
   rw [z] at this; cases this
  have tl6:∀ t ∈ topsL rows m,t.length ≤ 6:=fun t ht=>by
   unfold topsL at ht
   obtain ⟨r,hr1,rfl⟩:=List.mem_map.mp ht
   exact h6 r (List.mem_filter.mp hr1).1
  have tlen:(topsL rows m).length ≤ 64:=by
   unfold topsL
   rw [List.length_map]
   exact Nat.le_trans (List.length_filter_le _ _) h64
  generalize htops:topsL rows m=tops at ls tne tl6 tlen
  have hpos:0 < tops.length:=List.length_pos_iff.mpr tne
  have hpy:0 < ys.length:=by rw [ls.1]; exact hpos
  obtain ⟨c0,ec0,hc0⟩:=ls.2 0 _ (List.getElem?_eq_getElem hpy)
  have e0:atI ys ((0:Nat):Int)=some (.ref c0):=by rw [← ec0]; exact atI_nat (List.getElem?_eq_getElem hpy)
  have s23:=s2.trans s3
  have s13:=s1.trans s23
  have hHpf:H2 pf=none:=hpf
  generalize hT0:tops.getD 0 []=T0 at hc0
  refine ⟨_,rfl,acc2,_,_,_,rfl,rfl,SqL.of (s3 _ _ hy2),e0,c0,rfl,⟨_,SqL.of (s23 _ _ hc0)⟩,?_⟩
  have h1pf:H1 pf=none:=s2.free hpf
  have hHpf0:H pf=none:=s1.free h1pf
  have T06:T0.length ≤ 6:=by
   rw [← hT0]
   refine tl6 _ ?_
   simp only [List.getD,List.getElem?_eq_getElem hpos,Option.getD_some]
   exact List.getElem_mem hpos
  refine jf7 (xs:=T0.map V.int) (fun i σ H'=>(∃ y4,σ=[some (.ref l),some (.int m),some (.ref acc2),some (.ref pf),y4])∧Stay H2 H'∧H' pf=some (.lst ((((T0.take i).filter fun x=>tops.all fun s=>s.contains x)).map V.int)))
   ⟨⟨_,rfl⟩,s3,hf3⟩ (fun i σ H' _ z=>SqL.of (z.2.1 _ _ (s2 _ _ hc0))) ?_ ?_
  ·rintro i x σ H4 hx ⟨⟨y4,rfl⟩,s4,hf4⟩
   obtain ⟨n,hn,rfl⟩:∃ n:Int,T0[i]?=some n∧x=V.int n:=by
    rw [List.getElem?_map] at hx
    cases e:T0[i]? with
    | none=>rw [e] at hx; cases hx
    | some n=>rw [e] at hx; exact ⟨n,rfl,by simpa using hx.symm⟩
   have hi:i < T0.length:=(List.getElem?_eq_some_iff.mp hn).1
   refine ⟨_,rfl,acc2,rfl,⟨_,SqL.of (s4 _ _ hy2)⟩,fun acc5 hacc5=>?_⟩
   refine jd3 (xs:=ys) (fun j zs H'=>Stay H4 H'∧LsR H1 zs ((tops.take j).filter fun s=>!s.contains n)∧zs.length ≤ j) ⟨(Stay.refl H4).acc hacc5,⟨rfl,fun j x z=>by simp at z⟩,Nat.le_refl _⟩ (fun j zs H' _ _ z=>SqL.of (z.1 _ _ (s4 _ _ hy2))) ?_ ?_
   ·rintro j x zs H5 hx5 hz ⟨s5,lz,hzl⟩
    obtain ⟨c,rfl,hc⟩:=ls.2 j x hx5
    have hj:j < tops.length:=by rw [← ls.1]; exact (List.getElem?_eq_some_iff.mp hx5).1
    have eg:tops.getD j []=tops[j]:=by simp [List.getD,List.getElem?_eq_getElem hj]
    rw [eg] at hc
    have s25:=s4.trans s5
    refine ⟨_,rfl,_,rfl,c,_,rfl,.inl (SqL.of (s25 _ _ (s2 _ _ hc))),rfl,flat_ints _,_,rfl,?_⟩
    have ein:(if true=true then !inV (V.int n) (tops[j].map V.int) else inV (V.int n) (tops[j].map V.int))=!tops[j].contains n:=by rw [if_pos rfl,inv_ints]
    rw [ein]
    have ef:(tops.take (j + 1)).filter (fun s=>!s.contains n)=(tops.take j).filter (fun s=>!s.contains n) ++ if (!tops[j].contains n)=true then [tops[j]] else []:=by
     rw [jb2 (List.getElem?_eq_getElem hj),List.filter_append]
     congr 1
     exact filt1 _ _
    cases hc5:(!tops[j].contains n) with
    | true =>
     refine iteT ⟨_,rfl,zs,hz,by rw [sz]; omega,Cn.of ja1 ⟨s5.acc hacc5,?_,?_⟩⟩
     ·rw [ef,hc5,if_pos rfl]; exact lz.app hc
     ·rw [List.length_append]; show zs.length + 1 ≤ j + 1; omega
    | false =>
     refine iteF (Cn.of hz ⟨s5,?_,by omega⟩)
     rw [ef,hc5,if_neg (by decide),List.append_nil]; exact lz
   ·rintro zs H5 hz ⟨s5,lz,hzl⟩
    rw [ls.1,List.take_length] at lz
    refine ⟨by show 0 ≤ sizeLine; decide,fun q hq=>?_⟩
    have s6:=(Stay.refl H5).new (o:=.lst []) hq
    have s46:=s5.trans s6
    have lz6:LsR (upd H5 q (.lst [])) zs (tops.filter fun s=>!s.contains n):=lz.stay (s2.trans (s4.trans s46))
    refine ⟨.list ((tops.filter fun s=>!s.contains n).map fun r=>.list (r.map PyData.int)),.list [],.lst (SqL.of (s6 _ _ hz)) (lsr_dt lz6),.lst (SqL.of ja1) .nil,by show min _ 1 ≤ 60; omega,_,rfl,?_⟩
    rw [eqv_nil]
    have eall:((tops.filter fun s=>!s.contains n).map fun r=>PyData.list (r.map PyData.int)).isEmpty=tops.all fun s=>s.contains n:=by
     rw [List.isEmpty_map,filt_all]
    rw [eall]
    have hf6:=s46 _ _ hf4
    generalize upd H5 q (.lst [])=H6 at s46 hf6 ⊢
    have ef:(T0.take (i + 1)).filter (fun x=>tops.all fun s=>s.contains x)=(T0.take i).filter (fun x=>tops.all fun s=>s.contains x) ++ if (tops.all fun s=>s.contains n)=true then [n] else []:=by
     rw [jb2 hn,List.filter_append]
     congr 1
     exact filt1 _ _
    have lf:((T0.take i).filter (fun x=>tops.all fun s=>s.contains x)).length ≤ 6:=by
     have h1:=List.length_filter_le (fun x=>tops.all fun s=>s.contains x) (T0.take i)
     have h3:(T0.take i).length ≤ i:=List.length_take_le _ _
     omega
    cases hc6:tops.all fun s=>s.contains n with
    | true =>
     refine iteT ⟨_,rfl,.inl ⟨rfl,_,SqL.of hf6⟩,_,rfl,pf,_,_,rfl,rfl,hf6,?_,⟨_,rfl⟩,(s4.trans s46).acc hpf,?_⟩
     ·rw [List.length_map,sz]; omega
     ·rw [ef,hc6,if_pos rfl,List.map_append]; exact ja1
    | false =>
     refine iteF ⟨⟨_,rfl⟩,s4.trans s46,?_⟩
     rw [ef,hc6,if_neg (by decide),List.append_nil]; exact hf6
  ·rintro σ H4 ⟨⟨y4,rfl⟩,s4,hf4⟩
   rw [List.length_map,List.take_length] at hf4
   refine ⟨_,rfl,pf,_,rfl,.inl ⟨SqL.of hf4,fun r hr'=>?_⟩⟩
   refine k m r _ hm hmax ((s12.trans s4).new hr') ?_
   unfold leastOf
   rw [htops,hT0]; exact ja1
end
end K9
namespace K9
open PySem L2 KG EX KM
section
variable {P:Program} {w:World} {K:PySem.W.Frag} {mg:Str→Option Value} {base:Heap}
end
end K9
namespace K9
open PySem L2 KG EX KM
section
variable {P:Program} {w:World} {K:PySem.W.Frag} {mg:Str→Option Value} {base:Heap}
abbrev NSc:List Str:=["bag","market","prices","money","by","more"]
theorem scScaled:FnScope NSc ["bag","market"] (ja5 (top 46)):=⟨rfl,rfl,rfl,by decide +kernel,rfl,by decide +kernel,by decide +kernel⟩
theorem ok_scaled {f fP fM fD fU fF fT fL:Addr} {fd dP dM dD dU dF dT dL:FuncData} (F:Fun K "_law_scaled" "_law_scaled" (top 46) f fd) (N:Nm mg) (Pc:Cal K mg P w base "_law_prices" 3 ["bag","market"] spPrices fP dP) (LM:Cal K mg P w base "_law_money" 4 ["market","prices","goods"] spMoneyL fM dM)
  (D:Cal K mg P w base "_law_div" 2 ["one","other"] spDiv fD dD) (U:Cal K mg P w base "_law_purses" 4 ["market","buyers"] spPurses fU dU) (R:Cal K mg P w base "_law_frac" 1 ["top","bottom"] spLf fF dF) (T:Cal K mg P w base "_law_take" 1 ["bag","many"] spTake fT dT) (Mu:Cal K mg P w base "_law_mul" 2 ["one","other"] (sp2 qTi) fL dL) :
  FnOk P w K mg base CX0 5 f fd ["bag","market"] spScaled:=by
 refine F.ok scScaled (fun vs H Q E h=>?_) (fun cdv A' outer s H vs Q E hr h=>?_)
 ·obtain ⟨b,p,pa,pp,pw,xa,xp,xw,am,pu,wi,rfl,_⟩:=h; rfl
 ·obtain ⟨b,p,pa,pp,pw,xa,xp,xw,am,pu,wi,rfl,hb,m,k⟩:=h
  have hr1:Room 1 _:=hr.mono (by decide)
  have hr2:Room 2 _:=hr.mono (by decide)
  have hr3:Room 3 _:=hr.mono (by decide)
  obtain ⟨rw0,rne,rlen,rbd,a1,a6,w1,w6,wp⟩:=m.lw
  obtain ⟨exa,ham⟩:=m.am
  refine ⟨_,ja4 (jb1 (i:=2) scScaled.nd rfl (Or.inl rfl) (ja6 Pc.ok hr3 rfl Pc.mg Pc.kp Pc.bd .nil pass0 (ja0 (pv 0) (ja0 (pv 1) ja2))))
   (ja4 (jb1 (i:=3) scScaled.nd rfl (Or.inl rfl) (ja6 LM.ok hr rfl LM.mg LM.kp LM.bd .nil pass0 (ja0 (pv 1) (ja0 (pv 2) (ja0 (jb6 (je7 rfl) (by rfl) N.list jf4 (ja0 (jb6 call_rangeV (by rfl) N.range boot_range' (ja0 (jb0 cLen0 (by rfl) N.len PySem.boot_len (ja0 (pv 2) ja2)) ja2)) ja2)) ja2)))))
   (ja4 (jf1 (jc0 op_eq (ja9 ixT0 (pv 3) ja3 (fun _ _=>rfl)) ja3 (nomark _)) (ja7 (jb4 (pv 2))) jc6)
   (ja4 (jb1 (i:=4) scScaled.nd rfl (Or.inr rfl) (ja6 D.ok hr2 rfl D.mg D.kp D.bd .nil pass0 (ja0 (ja6 U.ok hr rfl U.mg U.kp U.bd .nil pass0 (ja0 (pv 1) (ja0 (jb6 (je7 rfl) (by rfl) N.list jf4 (ja0 (jb6 call_rangeV (by rfl) N.range boot_range' (ja0 (jb0 cLen0 (by rfl) N.len PySem.boot_len (ja0 (ja9 ixT0 (pv 1) ja3 (fun _ _=>rfl)) ja2)) ja2)) ja2)) ja2))) (ja0 (pv 3) ja2))))
   (ja4 (jb1 (i:=5) scScaled.nd rfl (Or.inl rfl) (ja6 R.ok hr1 rfl R.mg R.kp R.bd .nil pass0 (ja0 (jb3 jd9 ja3 (ja6 T.ok hr1 rfl T.mg T.kp T.bd .nil pass0 (ja0 (pv 0) (ja0 ja3 ja2)))) (ja0 (jb3 jd9 ja3 (ja6 T.ok hr1 rfl T.mg T.kp T.bd .nil pass0 (ja0 (pv 0) (ja0 ja3 ja2)))) ja2))))
   (ja4 (jb1 (i:=4) scScaled.nd rfl (Or.inr rfl) (ja6 Mu.ok hr2 rfl Mu.mg Mu.kp Mu.bd .nil pass0 (ja0 (pv 4) (ja0 (ja9 ixL0 (je4 (ja0 (jd6 (ja0 ja3 (ja0 ja3 ja2))) (ja0 (jd6 (ja0 ja3 (ja0 ja3 ja2))) (ja0 (jd6 (ja0 ja3 (ja0 ja3 ja2))) (ja0 (pv 5) ja2))))) (ja6 T.ok hr1 rfl T.mg T.kp T.bd .nil pass0 (ja0 (pv 0) (ja0 ja3 ja2))) (fun _ _=>rfl)) ja2))))
   (ja7 (jb4 (jb6 cTup0 (by rfl) N.tuple jc5 (ja0 (jc3 (own:=["price"]) (cap:=["by"]) (ix:=[4]) (BlkOk.of (ja5 (top 46)).names NSc) rfl (piT0 (pv 2))
    (fun C fp s H=>⟨ja8 (i:=0) (show List.Nodup (["price","by"]:List Str) by decide +kernel) rfl (Or.inl rfl),jb9,ja6 Mu.ok hr2 rfl Mu.mg Mu.kp Mu.bd .nil pass0 (ja0 (pv 0) (ja0 (pv 1) ja2))⟩)) ja2))))))))),?_⟩
  refine ⟨_,rfl,_,rfl,b,p,pa,pp,pw,xa,xp,xw,am,pu,wi,rfl,hb,m,fun q ys H1 hb1 kp1 hq1 hyl hpr=>?_⟩
  have m1:=m.kp kp1 hb
  obtain ⟨qs,tqs,elq,epr,bq⟩:=prv_list (b:=b) hpr
  have hPr:isPrs xa.length (rowsOf wi) (.tuple (qs.map qD))=true:=prs_iff.mpr ⟨by rw [List.length_map]; omega,fun j hj=>epr j (by omega)⟩
  obtain ⟨hql,prs⟩:=prs_q.mp hPr
  have b16:∀ z ∈ qs,Rb 16 z:=fun z hz=>rb_16 (bq z hz)
  have pr1:PrAt b H1 q ys qs:=⟨hq1,tqs,fun z hz=>(b16 z hz).mono (by decide)⟩
  refine ⟨_,rfl,_,rfl,_,rfl,q,ys,rfl,.inr (SqT.of hq1),_,rfl,fun rg hrg=>?_⟩
  have sa:=(Stay.refl H1).new (o:=rngOf rg (ys.length:Int)) hrg
  refine ⟨rg,_,rfl,ja1,by omega,by omega,fun l hl=>?_⟩
  rw [Int.toNat_natCast]
  have sb:=sa.new (o:=.lst ((List.range ys.length).map fun i:Nat=>V.int (i:Int))) hl
  have el:(upd (upd H1 rg (rngOf rg (ys.length:Int))) l (.lst ((List.range ys.length).map fun i:Nat=>V.int (i:Int)))) l=some (.lst (natsV (List.range ys.length))):=ja1
  generalize upd (upd H1 rg (rngOf rg (ys.length:Int))) l (.lst ((List.range ys.length).map fun i:Nat=>V.int (i:Int)))=H2 at sb el ⊢
  have m2:=m1.stay sb
  have pr2:=pr1.stay sb
  refine ⟨b,p,pa,pp,pw,q,l,xa,xp,xw,ys,am,pu,wi,qs,List.range ys.length,rfl,m2,pr2,hql,el,by rw [List.length_range]; omega,fun g hg=>Nat.lt_of_lt_of_le (show g < ys.length by simpa using hg) (by omega),fun rm H3 s3 hm3=>?_⟩
  have s13:=sb.trans s3
  have hterm:∀ z ∈ ((List.range ys.length).map fun g=>qs.getD g 0 * (((am.map intOf).getD g 0:Int):Rat)),0 ≤ z∧Rb 23 z:=fun z hz=>by
   obtain ⟨g,hg,rfl⟩:=List.mem_map.mp hz
   have hgl:g < ys.length:=by simpa using hg
   have hamg:g < (am.map intOf).length:=by have:=congrArg List.length exa; rw [List.length_map] at this; omega
   have em:(am.map intOf).getD g 0 ∈ am.map intOf:=by
    have e3:=List.getElem?_eq_getElem hamg
    have:(am.map intOf).getD g 0=(am.map intOf)[g]:=by simp only [List.getD,e3,Option.getD_some]
    rw [this]; exact List.getElem_mem hamg
   have hb7:=ham _ em
   have bam:Rb 7 (((am.map intOf).getD g 0:Int):Rat):=rb_int (by unfold Bd; omega) (by decide)
   have hqm:qs.getD g 0 ∈ qs:=by simp [List.getD,List.getElem?_eq_getElem (show g < qs.length by omega)]
   refine ⟨Rat.mul_nonneg ?_ ?_,rb_mul (b16 _ hqm) bam⟩
   ·exact Rat.num_nonneg.mp (bq _ hqm).1
   ·exact Rat.intCast_nonneg.mpr (by omega)
  rw [moneyQ_sum] at hm3
  have mon0:0 ≤ sumQ ((List.range ys.length).map fun g=>qs.getD g 0 * (((am.map intOf).getD g 0:Int):Rat)):=sumQ_nonneg fun z hz=>(hterm z hz).1
  have monb:Rb 145 (sumQ ((List.range ys.length).map fun g=>qs.getD g 0 * (((am.map intOf).getD g 0:Int):Rat))):=sumQ_rb' (k:=23) (n:=6) (fun z hz=>(hterm z hz).2) (by rw [List.length_map,List.length_range]; omega)
  generalize sumQ ((List.range ys.length).map fun g=>qs.getD g 0 * (((am.map intOf).getD g 0:Int):Rat))=mon at hm3 mon0 monb
  refine ⟨_,rfl,rm,_,_,_,rfl,rfl,SqT.of hm3,rfl,rfl,_,rfl,?_⟩
  have kp13:Kp b H H3:=kp1.trans (Stay.kpb (b:=b) s13)
  have hb3:Bag H3 b:=Bag.stay hb1 s13
  have ev:decide (V.int mon.num=V.int 0)=decide (mon.num=0):=by rw [Bool.eq_iff_iff]; simp
  rw [ev]
  by_cases hz:mon.num=0
  ·rw [decide_eq_true hz]
   exact iteT ⟨_,rfl,k q ys qs H3 hb3 kp13 ⟨m1.stay s13,pr1.stay s13,hql,prs⟩⟩
  rw [decide_eq_false hz]
  refine iteF ?_
  have monp:0 < mon:=by
   have h1:mon ≠ 0:=fun z=>hz (by rw [z]; rfl)
   exact (Rat.lt_iff_le_and_ne.mpr ⟨mon0,fun z=>h1 z.symm⟩)
  have m3:=m1.stay s13
  refine ⟨_,rfl,_,rfl,p,_,_,_,rfl,rfl,SqT.of m3.hp,rfl,pp,xp,rfl,.inr (SqT.of m3.hpp),_,rfl,fun rg2 hrg2=>?_⟩
  have sc:=(Stay.refl H3).new (o:=rngOf rg2 (xp.length:Int)) hrg2
  refine ⟨rg2,_,rfl,ja1,by omega,by omega,fun l2 hl2=>?_⟩
  rw [Int.toNat_natCast]
  have sd:=sc.new (o:=.lst ((List.range xp.length).map fun i:Nat=>V.int (i:Int))) hl2
  have el2:(upd (upd H3 rg2 (rngOf rg2 (xp.length:Int))) l2 (.lst ((List.range xp.length).map fun i:Nat=>V.int (i:Int)))) l2=some (.lst (natsV (List.range xp.length))):=ja1
  generalize upd (upd H3 rg2 (rngOf rg2 (xp.length:Int))) l2 (.lst ((List.range xp.length).map fun i:Nat=>V.int (i:Int)))=H4 at sd el2 ⊢
  refine ⟨b,p,pa,pp,pw,l2,xa,xp,xw,am,pu,wi,List.range xp.length,rfl,m3.stay sd,el2,by rw [List.length_range]; omega,fun i hi=>by simpa using hi,fun ru H5 s5 hu5=>?_⟩
  have hpl:xp.length=(jb8 pu).length:=m.fp.1
  have hpt:∀ z ∈ ((List.range xp.length).map fun i=>(jb8 pu).getD i 0),0 < z∧Rb 20 z:=fun z hz=>by
   obtain ⟨i,hi,rfl⟩:=List.mem_map.mp hz
   have hil:i < xp.length:=by simpa using hi
   have:(jb8 pu).getD i 0 ∈ jb8 pu:=by simp [List.getD,List.getElem?_eq_getElem (show i < (jb8 pu).length by omega)]
   exact m.pu.2 _ this
  have pup:0 < pickQ (jb8 pu) (List.range xp.length):=sumQ_pos (fun z=>by
   have:=congrArg List.length z
   rw [List.length_map,List.length_range,List.length_nil] at this
   omega) fun z hz=>(hpt z hz).1
  have pub:Rb 127 (pickQ (jb8 pu) (List.range xp.length)):=sumQ_rb' (k:=20) (n:=6) (fun z hz=>(hpt z hz).2) (by rw [List.length_map,List.length_range]; omega)
  generalize pickQ (jb8 pu) (List.range xp.length)=pq at hu5 pup pub
  have s35:=sd.trans s5
  have hm5:=s35 _ _ hm3
  refine ⟨_,rfl,ru,rm,pq,mon,rfl,hu5,hm5,pub.mono (by decide),monb.mono (by decide),monp,fun rd hrd=>?_⟩
  have s6:=s35.new (o:=qO (pq / mon)) hrd
  have ed:(upd H5 rd (qO (pq / mon))) rd=some (qO (pq / mon)):=ja1
  generalize upd H5 rd (qO (pq / mon))=H6 at s6 ed ⊢
  have mon1:mon ≠ 0:=fun z=>by rw [z] at monp; exact absurd monp (by decide)
  have byb:Rb 272 (pq / mon):=rb_divq pub monb mon1
  have byp:0 < pq / mon:=div_pos pup monp
  generalize pq / mon=by1 at ed byb byp
  have hb6:=Bag.stay hb3 s6
  refine ⟨_,rfl,b,_,rfl,hb6,by decide,by decide,fun r1 H7 r1a r1b hb7 kp7=>⟨_,_,rfl,rfl,?_⟩⟩
  refine ⟨_,rfl,b,_,rfl,hb7,by decide,by decide,fun r2 H8 r2a r2b hb8 kp8=>⟨_,_,rfl,rfl,?_⟩⟩
  have kp68:=kp7.trans kp8
  refine ⟨1 + r1,1 + r2,rfl,by omega,Bd.mono (j:=4) (by unfold Bd; omega) (by decide),fun rq hrq=>?_⟩
  have mop:0 < Rat.divInt (1 + r1) (1 + r2):=divInt_pos (by omega) (by omega)
  have mob:Rb 4 (Rat.divInt (1 + r1) (1 + r2)):=rb_div (by omega) (by unfold Bd; omega) (by unfold Bd; omega)
  generalize Rat.divInt (1 + r1) (1 + r2)=mo at mop mob ⊢
  have kp69:=kp68.new (o:=qO mo) hrq
  have hb9:Bag (upd H8 rq (qO mo)) b:=hb8.new hrq
  have eq9:(upd H8 rq (qO mo)) rq=some (qO mo):=ja1
  generalize upd H8 rq (qO mo)=H9 at kp69 hb9 eq9 ⊢
  refine ⟨_,rfl,by show 2 ≤ sizeLine; decide,fun t1 ht1=>⟨by show 2 ≤ sizeLine; decide,fun t2 ht2=>⟨by show 2 ≤ sizeLine; decide,fun t3 ht3=>⟨_,rfl,by show 4 ≤ sizeLine; decide,fun t4 ht4=>?_⟩⟩⟩⟩
  have z1:=(Stay.refl H9).new (o:=.tup [.int 1,.int 1]) ht1
  have z2:=(Stay.refl (upd H9 t1 (.tup [.int 1,.int 1]))).new (o:=.tup [.int 1,.int 2]) ht2
  have z3:=(Stay.refl (upd (upd H9 t1 (.tup [.int 1,.int 1])) t2 (.tup [.int 1,.int 2]))).new (o:=.tup [.int 1,.int 7]) ht3
  have z4:=(Stay.refl (upd (upd (upd H9 t1 (.tup [.int 1,.int 1])) t2 (.tup [.int 1,.int 2])) t3 (.tup [.int 1,.int 7]))).new (o:=.lst [.ref t1,.ref t2,.ref t3,.ref rq]) ht4
  have q1:=z4 _ _ (z3 _ _ (z2 _ _ (ja1 (H:=H9) (a:=t1) (o:=.tup [.int 1,.int 1]))))
  have q2:=z4 _ _ (z3 _ _ (ja1 (H:=upd H9 t1 (.tup [.int 1,.int 1])) (a:=t2) (o:=.tup [.int 1,.int 2])))
  have q3:=z4 _ _ (ja1 (H:=upd (upd H9 t1 (.tup [.int 1,.int 1])) t2 (.tup [.int 1,.int 2])) (a:=t3) (o:=.tup [.int 1,.int 7]))
  have q4:=z4 _ _ (z3 _ _ (z2 _ _ (z1 _ _ eq9)))
  have q5:(upd (upd (upd (upd H9 t1 (.tup [.int 1,.int 1])) t2 (.tup [.int 1,.int 2])) t3 (.tup [.int 1,.int 7])) t4 (.lst [.ref t1,.ref t2,.ref t3,.ref rq])) t4=some (.lst [.ref t1,.ref t2,.ref t3,.ref rq]):=ja1
  have zs:=z1.trans (z2.trans (z3.trans z4))
  generalize upd (upd (upd (upd H9 t1 (.tup [.int 1,.int 1])) t2 (.tup [.int 1,.int 2])) t3 (.tup [.int 1,.int 7])) t4 (.lst [.ref t1,.ref t2,.ref t3,.ref rq])=H10 at q1 q2 q3 q4 q5 zs ⊢
  have hb10:=Bag.stay hb9 zs
  refine ⟨_,rfl,b,_,rfl,hb10,by decide,by decide,fun r3 H11 r3a r3b hb11 kp11=>?_⟩
  have n4:t4 ≠ b:=fun z=>by
   obtain ⟨c,d,e⟩:=hb10
   rw [← z,q5] at e
   injection e with e; injection e with e; injection e with e1 e2; cases e1
  have tm11:=kp11.tm hb10
  obtain ⟨v,ev3,av,qv,rfl,hav,vp,vb⟩:=atI_any (xs:=[V.ref t1,V.ref t2,V.ref t3,V.ref rq]) (r:=r3) (Pr:=fun v=>∃ (av:Addr) (qv:Rat),v=.ref av∧H11 av=some (qO qv)∧0 < qv∧Rb 4 qv) r3a r3b (by
   intro v hv
   simp at hv
   rcases hv with rfl | rfl | rfl | rfl
   ·exact ⟨t1,half1 1 (by decide),rfl,tm11 _ _ q1,rat_pos.mpr (by decide),by unfold Rb Bd half1; decide⟩
   ·exact ⟨t2,half1 2 (by decide),rfl,tm11 _ _ q2,rat_pos.mpr (by decide),by unfold Rb Bd half1; decide⟩
   ·exact ⟨t3,half1 7 (by decide),rfl,tm11 _ _ q3,rat_pos.mpr (by decide),by unfold Rb Bd half1; decide⟩
   ·exact ⟨rq,mo,rfl,tm11 _ _ q4,mop,mob⟩)
  refine ⟨t4,_,_,_,rfl,rfl,SqL.of (kp11 t4 _ n4 q5),ev3,?_⟩
  have kp611:Kp b H6 H11:=(kp69.trans (Stay.kpb (b:=b) zs)).trans kp11
  have ed11:=(kp611.tm hb6) _ _ ed
  refine ⟨rd,av,by1,qv,rfl,ed11,hav,byb.mono (by decide),vb.mono (by decide),fun rz hrz=>?_⟩
  have bfb:Rb 276 (qTi by1 qv):=rb_mul byb vb
  have bfp:0 < qTi by1 qv:=Rat.mul_pos byp vp
  generalize qTi by1 qv=by2 at bfb bfp ⊢
  have kp12:=kp611.new (o:=qO by2) hrz
  have hb12:Bag (upd H11 rz (qO by2)) b:=hb11.new hrz
  have ez:(upd H11 rz (qO by2)) rz=some (qO by2):=ja1
  generalize upd H11 rz (qO by2)=H12 at kp12 hb12 ez ⊢
  have kpA:Kp b H H12:=(kp13.trans (Stay.kpb (b:=b) s6)).trans kp12
  have k1A:Kp b H1 H12:=((Stay.kpb (b:=b) (s13.trans s6))).trans kp12
  have mA:=m.kp kpA hb
  have prA:PrAt b H12 q ys qs:=⟨k1A.tm hb1 _ _ hq1,tqs.kp k1A hb1,pr1.bd⟩
  have frA:=Frs.of prA.tr
  refine ⟨_,rfl,q,rfl,⟨_,SqT.of prA.hq⟩,fun acc hacc=>?_⟩
  refine comp_tup (xs:=ys) (fun i zs H'=>Stay H12 H'∧Frs H' zs ((qs.take i).map fun q=>qTi q by2)) ⟨(Stay.refl H12).acc hacc,rfl,fun j y hy=>by simp at hy⟩ (fun i zs H' _ _ z=>SqT.of (z.1 _ _ prA.hq)) ?_ ?_
  ·rintro i x zs H13 hx hz13 ⟨s13',fr13⟩
   obtain ⟨c,qq,rfl,hc,hqq⟩:=frs_get frA hx
   have hqm:=List.mem_of_getElem? hqq
   have hi:i < qs.length:=(List.getElem?_eq_some_iff.mp hqq).1
   refine je9 ⟨_,rfl,_,rfl,c,rz,qq,by2,rfl,s13' _ _ hc,s13' _ _ ez,(b16 _ hqm).mono (by decide),bfb.mono (by decide),fun r hr'=>?_⟩
   have s14:=(Stay.refl H13).new (o:=qO (qTi qq by2)) hr'
   have hz14:=s14 _ _ hz13
   refine ⟨zs,hz14,by rw [fr13.1,List.length_map,List.length_take,sz]; omega,Cn.of ja1 ⟨(s13'.trans s14).acc hacc,?_⟩⟩
   rw [jb2 hqq,List.map_append]
   exact ((fr13.stay s14).app (a:=r) ja1).tm (Tm.lst hz14)
  ·rintro zs H13 hz13 ⟨s13',fr13⟩
   have e:ys.length=qs.length:=frA.1
   rw [e,List.take_length] at fr13
   refine ⟨acc,zs,rfl,.inl ⟨SqL.of hz13,fun l hl=>?_⟩⟩
   have s14:=s13'.new (o:=.tup zs) hl
   have sN:=(Stay.refl H13).new (o:=.tup zs) hl
   refine k l zs (qs.map fun q=>qTi q by2) _ (Bag.stay hb12 s14) (kpA.trans (Stay.kpb (b:=b) s14)) ⟨mA.stay s14,⟨ja1,frs_tr (fr13.stay sN),fun z hz=>?_⟩,by rw [List.length_map]; exact hql,prs_scale prs bfp⟩
   obtain ⟨qq,hqm,rfl⟩:=List.mem_map.mp hz
   exact (rb_mul (b16 _ hqm) bfb).mono (by decide)
end
end K9
namespace K9
open PySem L2 KG EX KM
theorem nodup_len:∀ {L U:List Int},L.Nodup→(∀ x ∈ L,x ∈ U)→L.length ≤ U.length
 | [],_,_,_=>Nat.zero_le _
 | x :: L,U,nd,h=>by
  have nd':=List.nodup_cons.mp nd
  have hx:=h x List.mem_cons_self
  have h1:=nodup_len (L:=L) (U:=U.erase x) nd'.2 fun y hy=>(List.mem_erase_of_ne (fun z=>nd'.1 (by rw [← z]; exact hy))).mpr (h y (List.mem_cons_of_mem _ hy))
  rw [List.length_erase_of_mem hx] at h1
  have:0 < U.length:=List.length_pos_of_mem hx
  rw [List.length_cons]; omega
structure PaidL (sets:List (List Int)) (v:List Int→Int) (found:List Int):Prop where
 nd:found.Nodup
 mem:∀ x,x ∈ found ↔ ∃ S ∈ sets,v S=0∧x ∈ S
theorem PaidL.take {sets:List (List Int)} {v:List Int→Int} {found S:List Int} (h:PaidL sets v found) (hS:S.Nodup) (hv:v S=0):PaidL (sets ++ [S]) v (found ++ S.filter fun x=>!found.contains x):=⟨by
 refine List.nodup_append.mpr ⟨h.nd,hS.sublist List.filter_sublist,fun a ha b hb z=>?_⟩
 have:=(List.mem_filter.mp hb).2
 rw [← z] at this
 simp [ha] at this,fun x=>by
 rw [List.mem_append,h.mem,List.mem_filter]
 constructor
 ·rintro (⟨T,hT,r⟩ | ⟨hx,_⟩)
  ·exact ⟨T,List.mem_append_left _ hT,r⟩
  ·exact ⟨S,List.mem_append_right _ (List.mem_singleton.mpr rfl),hv,hx⟩
 ·rintro ⟨T,hT,r1,r2⟩
  rcases List.mem_append.mp hT with z | z
  ·exact .inl ⟨T,z,r1,r2⟩
  ·rw [List.mem_singleton.mp z] at r2
   by_cases hf:x ∈ found
   ·exact .inl ((h.mem x).mp hf)
   ·exact .inr ⟨r2,by simpa using hf⟩⟩
section
variable {P:Program} {w:World} {K:PySem.W.Frag} {mg:Str→Option Value} {base:Heap}
end
end K9
namespace K9
open PySem L2 KG EX KM
theorem best_row {M:List (List Int)} {qs:List Rat} (i:Nat):((bestM M qs).getD i []).Nodup:=by
 by_cases h:i < (bestM M qs).length
 ·have hm:(bestM M qs).getD i [] ∈ bestM M qs:=by simp [List.getD,List.getElem?_eq_getElem h]
  generalize (bestM M qs).getD i []=r at hm
  unfold bestM at hm
  obtain ⟨row,_,rfl⟩:=List.mem_map.mp hm
  unfold bestR
  exact ((List.nodup_range).sublist List.filter_sublist).map _ fun a b h z=>h (by omega)
 ·have:(bestM M qs).getD i []=[]:=by simp [List.getD,List.getElem?_eq_none (Nat.le_of_not_lt h)]
  rw [this]; exact List.nodup_nil
theorem nats_nodup {L:List Int} (nd:L.Nodup) (h:∀ x ∈ L,0 ≤ x):(nats L).Nodup:=by
 unfold nats
 rw [List.nodup_iff_pairwise_ne] at nd ⊢
 rw [List.pairwise_map]
 exact nd.imp_of_mem fun ha hb hab z=>hab (by have:=h _ ha; have:=h _ hb; omega)
theorem mem_nats' {L:List Int} (h:∀ x ∈ L,0 ≤ x) (g:Nat):g ∈ nats L ↔ (g:Int) ∈ L:=by
 unfold nats
 constructor
 ·intro hx
  obtain ⟨y,hy,rfl⟩:=List.mem_map.mp hx
  have:=h y hy
  rw [show ((y.toNat:Nat):Int)=y by omega]; exact hy
 ·intro hx
  exact List.mem_map.mpr ⟨_,hx,Int.toNat_natCast g⟩
section
variable {P:Program} {w:World} {K:PySem.W.Frag} {mg:Str→Option Value} {base:Heap}
abbrev NRi:List Str:=["market","prices","best","money","purses","rows","buyers","goods","buyer","there"]
theorem scRi:FnScope NRi ["market","prices"] (ja5 (top 54)):=⟨rfl,rfl,rfl,by decide +kernel,rfl,by decide +kernel,by decide +kernel⟩
theorem ok_lrich {f fB fI fS fL:Addr} {fd dB dI dS dL:FuncData} (F:Fun K "_law_rich" "_law_rich" (top 54) f fd) (N:Nm mg) (Be:Cal K mg P w base "_law_best" 1 ["market","prices"] spLBest fB dB) (In:Cal K mg P w base "_law_ints" 3 ["market","prices"] spInts fI dI)
  (Se:Cal K mg P w base "_law_sets" 1 ["some"] spSets fS dS) (Le:Cal K mg P w base "_law_least" 1 ["rows"] spLeast fL dL):FnOk P w K mg base CX0 4 f fd ["market","prices"] spLRich:=by
 refine F.ok scRi (fun vs H Q E h=>?_) (fun cdv A' outer s H vs Q E hr h=>?_)
 ·obtain ⟨b,p,pa,pp,pw,q,xa,xp,xw,ys,am,pu,wi,qs,rfl,_⟩:=h; rfl
 ·obtain ⟨b,p,pa,pp,pw,q,xa,xp,xw,ys,am,pu,wi,qs,rfl,m,pr,hql,k⟩:=h
  have hr1:Room 1 _:=hr.mono (by decide)
  obtain ⟨rw0,rne,rlen,rbd,a1,a6,w1,w6,wp⟩:=m.lw
  refine ⟨_,ja4 (jb1 (i:=2) scRi.nd rfl (Or.inl rfl) (ja6 Be.ok hr1 rfl Be.mg Be.kp Be.bd .nil pass0 (ja0 (pv 0) (ja0 (pv 1) ja2))))
   (ja4 (ps_asg (ja6 In.ok hr rfl In.mg In.kp In.bd .nil pass0 (ja0 (pv 0) (ja0 (pv 1) ja2))) (pgLst0 rfl (jc9 (ja8 (i:=3) scRi.nd rfl (Or.inr rfl)) (jc9 (ja8 (i:=4) scRi.nd rfl (Or.inr rfl)) pgs_nil))))
   (ja4 (jb1 (i:=5) scRi.nd rfl (Or.inl rfl) (je4 ja2))
   (ja4 (jf6 PassesOwn.never rfl (piL0 (ja6 Se.ok hr1 rfl Se.mg Se.kp Se.bd .nil pass0 (ja0 (jb6 (je7 rfl) (by rfl) N.list jf4 (ja0 (jb6 call_rangeV (by rfl) N.range boot_range' (ja0 (jb0 cLen0 (by rfl) N.len PySem.boot_len (ja0 (pv 2) ja2)) ja2)) ja2)) ja2))) (ja8 (i:=6) scRi.nd rfl (Or.inl rfl))
    (ja4 (jb1 (i:=7) scRi.nd rfl (Or.inr rfl) (je4 ja2))
    (ja4 (jf6 PassesOwn.never rfl (piL0 (pv 6)) (ja8 (i:=8) scRi.nd rfl (Or.inl rfl))
     (ja7 (jb1 (i:=7) scRi.nd rfl (Or.inr rfl) (jb3 op_cat (pv 7) (jc3 (own:=["good"]) (cap:=["goods"]) (ix:=[7]) (BlkOk.of (ja5 (top 54)).names NRi) rfl (piL0 (ja9 ixL0 (pv 2) (pv 8) (fun _ _=>rfl)))
      (fun C fp s H=>⟨ja8 (i:=0) (show List.Nodup (["good","goods"]:List Str) by decide +kernel) rfl (Or.inl rfl),je6 (jc0 opNin0 (pv 0) (pv 1) (by with_unfolding_all rfl)),pv 0⟩))))))
    (ja4 (jb1 (i:=9) scRi.nd rfl (Or.inl rfl) (jb0 (cSum0 rfl) (by rfl) N.sum boot_sum (ja0 (jc3 (own:=["good"]) (cap:=["money"]) (ix:=[3]) (BlkOk.of (ja5 (top 54)).names NRi) rfl (piL0 (pv 7))
      (fun C fp s H=>⟨ja8 (i:=0) (show List.Nodup (["good","money"]:List Str) by decide +kernel) rfl (Or.inl rfl),jb9,ja9 ixL0 (pv 1) (pv 0) (fun _ _=>rfl)⟩)) ja2)))
    (ja7 (ps_expr (peBm0 PySem.F.plainAttrs_list PySem.F.slot_list_append PySem.F.type_list_append jf3 (pv 5) (ja0 (je4 (ja0 (jb3 op_sub (jb0 (cSum0 rfl) (by rfl) N.sum boot_sum (ja0 (jc3 (own:=["buyer"]) (cap:=["purses"]) (ix:=[4]) (BlkOk.of (ja5 (top 54)).names NRi) rfl (piL0 (pv 6))
      (fun C fp s H=>⟨ja8 (i:=0) (show List.Nodup (["buyer","purses"]:List Str) by decide +kernel) rfl (Or.inl rfl),jb9,ja9 ixL0 (pv 1) (pv 0) (fun _ _=>rfl)⟩)) ja2)) (pv 9)) (ja0 (pv 6) ja2))) ja2))))))))
   (ja7 (jb4 (ja6 Le.ok hr1 rfl Le.mg Le.kp Le.bd .nil pass0 (ja0 (pv 5) ja2))))))),?_⟩
  have hM6:(rowsOf wi).length ≤ 6:=by rw [← rw0.len]; exact w6
  have hMl:(bestM (rowsOf wi) qs).length=(rowsOf wi).length:=by unfold bestM; rw [List.length_map]
  have hpl:(jb8 pu).length=(rowsOf wi).length:=by
   have h1:=(m.fp).1
   have h2:=rw0.len
   omega
  have hml:(jb7 (am.map intOf) qs).length=xa.length:=by unfold jb7; rw [List.length_map,List.length_range,hql]
  have hbm:∀ r ∈ bestM (rowsOf wi) qs,∀ x ∈ r,0 ≤ x∧x < (xa.length:Int):=best_mem (fun row hrow=>rlen row hrow)
  have hbi:∀ i,∀ x ∈ (bestM (rowsOf wi) qs).getD i [],0 ≤ x∧x < (xa.length:Int):=fun i x hx=>by
   by_cases h:i < (bestM (rowsOf wi) qs).length
   ·exact hbm _ (by simp [List.getD,List.getElem?_eq_getElem h]) x hx
   ·have:(bestM (rowsOf wi) qs).getD i []=[]:=by simp [List.getD,List.getElem?_eq_none (Nat.le_of_not_lt h)]
    rw [this] at hx; cases hx
  refine ⟨_,rfl,_,rfl,b,p,pa,pp,pw,q,xa,xp,xw,ys,am,pu,wi,qs,rfl,m,pr,hql,fun rb xb H1 s1 hb1 ls1=>?_⟩
  have hxb:xb.length=(rowsOf wi).length:=by rw [ls1.1,hMl]
  refine ⟨_,rfl,_,rfl,b,p,pa,pp,pw,q,xa,xp,xw,ys,am,pu,wi,qs,rfl,m.stay s1,pr.stay s1,hql,fun r2 rm rp c ms ps H2 s2 hc hms hps hr2 hrm hrp=>?_⟩
  refine ⟨r2,_,rfl,SqL.of hr2,rfl,_,_,rfl,_,_,rfl,rfl,?_⟩
  refine ⟨by show 0 ≤ sizeLine; decide,fun pf hpf=>?_⟩
  have s3:=(Stay.refl H2).new (o:=.lst []) hpf
  have hf3:(upd H2 pf (.lst [])) pf=some (.lst []):=ja1
  have s12:=s1.trans s2
  generalize upd H2 pf (.lst [])=H3 at s3 hf3 ⊢
  refine ⟨_,rfl,rb,xb,rfl,.inl (SqL.of (s3 _ _ (s2 _ _ hb1))),(xb.length:Int),rfl,fun rr hrr=>?_⟩
  refine ⟨rr,(xb.length:Int),rfl,ja1,by omega,by omega,fun l hl=>?_⟩
  rw [Int.toNat_natCast]
  have s4:=((Stay.refl H3).new (o:=rngOf rr (xb.length:Int)) hrr).new (o:=.lst ((List.range xb.length).map fun i:Nat=>V.int (i:Int))) hl
  have e4:(upd (upd H3 rr (rngOf rr (xb.length:Int))) l (.lst ((List.range xb.length).map fun i:Nat=>V.int (i:Int)))) l=some (.lst ((richU xb.length).map V.int)):=by
   rw [ja1]; unfold richU; rw [List.map_map]; rfl
  generalize upd (upd H3 rr (rngOf rr (xb.length:Int))) l (.lst ((List.range xb.length).map fun i:Nat=>V.int (i:Int)))=H4 at s4 e4 ⊢
  rw [hxb] at e4
  have hul:(richU (rowsOf wi).length).length ≤ 6:=by rw [richU_len]; exact hM6
  refine ⟨l,richU (rowsOf wi).length,rfl,e4,hul,fun qse xs5 H5 s5 e5 ls5 new5=>?_⟩
  generalize hse:setsL (richU (rowsOf wi).length)=sets at ls5
  have hset:∀ S ∈ sets,S.Sublist (richU (rowsOf wi).length):=fun S hS=>by rw [← hse] at hS; exact mem_setsL.mp hS
  have hs64:sets.length ≤ 64:=by
   rw [← hse,setsL_len]
   exact Nat.le_trans (Nat.pow_le_pow_right (by decide) hul) (by decide)
  have hsne:sets ≠ []:=by
   intro z
   have:=congrArg List.length z
   rw [← hse,setsL_len,List.length_nil] at this
   exact absurd this (Nat.ne_of_gt (Nat.pow_pos (by decide)))
  have s35:=s4.trans s5
  have s25:=s3.trans s35
  have h0pf:H pf=none:=s12.free hpf
  refine ⟨qse,rfl,⟨_,SqL.of e5⟩,?_⟩
  have hqse:qse ≠ pf:=fun z=>by
   have h1:=s35 _ _ hf3
   rw [← z,e5] at h1
   injection h1 with h1; injection h1 with h1
   have h2:=ls5.1
   rw [h1,List.length_nil] at h2
   exact hsne (List.length_eq_zero_iff.mp h2.symm)
  have hsn:∀ (j:Nat) x,xs5[j]?=some x→∃ (d:Addr) (S:List Int),sets[j]?=some S∧x=.ref d∧H5 d=some (.lst (S.map V.int)):=fun j x hx=>by
   obtain ⟨d,e,hd⟩:=ls5.2 j x hx
   have hj:j < sets.length:=by rw [← ls5.1]; exact (List.getElem?_eq_some_iff.mp hx).1
   have eg:sets.getD j []=sets[j]:=by simp [List.getD,List.getElem?_eq_getElem hj]
   rw [eg] at hd
   exact ⟨d,sets[j],List.getElem?_eq_getElem hj,e,hd⟩
  have hdn:∀ d,V.ref d ∈ xs5→d ≠ pf:=fun d hd z=>by
   have h1:=new5 d hd
   rw [z,s4 _ _ hf3] at h1; cases h1
  have s15:=s12.trans s25
  refine jf7 (xs:=xs5) (fun i σ H'=>(∃ y6 y7 y8 y9,σ=[some (.ref p),some (.ref q),some (.ref rb),some (.ref rm),some (.ref rp),some (.ref pf),y6,y7,y8,y9])∧(∀ a o,a ≠ pf→H5 a=some o→H' a=some o)∧∃ xr rows,H' pf=some (.lst xr)∧RowsN pf H' xr rows∧rows.map (·.2)=sets.take i∧∀ x ∈ rows,RowB (bestM (rowsOf wi) qs) ms ps x)
   ⟨⟨_,_,_,_,rfl⟩,fun a o _ h=>h,[],[],s35 _ _ hf3,⟨rfl,fun j x z=>by simp at z⟩,rfl,fun x hx=>nomatch hx⟩ (fun i σ H' _ z=>SqL.of (z.2.1 _ _ hqse e5)) ?_ ?_
  ·rintro i x σ H6 hx ⟨⟨y6,y7,y8,y9,rfl⟩,kp,xr,rows,hxr,hrows,hmap,hval⟩
   obtain ⟨d,S,hSi,rfl,hd⟩:=hsn i x hx
   have hdp:=hdn d (List.mem_of_getElem? hx)
   have hSs:=hset S (List.mem_of_getElem? hSi)
   have hS6:S.length ≤ 6:=Nat.le_trans hSs.length_le hul
   have hnn:∀ x ∈ S,0 ≤ x:=fun x hx=>by
    have:=hSs.subset hx
    unfold richU at this
    obtain ⟨j,_,rfl⟩:=List.mem_map.mp this
    omega
   have hSx:∀ g ∈ nats S,g < (rowsOf wi).length:=fun g hg=>List.mem_range.mp ((nats_sub hSs).subset hg)
   have hnl:(nats S).length=S.length:=by unfold nats; rw [List.length_map]
   have st26:∀ a o,H2 a=some o→H6 a=some o:=fun a o h=>kp a o (jc2 h hpf) (s25 _ _ h)
   have hd6:=kp d _ hdp hd
   have hi:i < sets.length:=(List.getElem?_eq_some_iff.mp hSi).1
   dsimp only [gName]
   refine ⟨by show 0 ≤ sizeLine; decide,fun pg0 hpg0=>?_⟩
   have s7:=(Stay.refl H6).new (o:=.lst []) hpg0
   have hg7:(upd H6 pg0 (.lst [])) pg0=some (.lst []):=ja1
   generalize upd H6 pg0 (.lst [])=H7 at s7 hg7 ⊢
   have hd7:=s7 _ _ hd6
   have hb7:H7 rb=some (.lst xb):=s7 _ _ (st26 _ _ (s2 _ _ hb1))
   have ls7:LsR H7 xb (bestM (rowsOf wi) qs):=⟨ls1.1,fun j x hx=>by obtain ⟨a,e,z⟩:=ls1.2 j x hx; exact ⟨a,e,s7 _ _ (st26 _ _ (s2 _ _ z))⟩⟩
   have hgl:∀ (sets:List (List Int)) (found:List Int),(∀ r ∈ sets,∀ x ∈ r,0 ≤ x∧x < (xa.length:Int))→PaidL sets (fun _=>0) found→found.length ≤ 6∧∀ x ∈ found,0 ≤ x∧x < (xa.length:Int):=fun sets found hs pl=>by
    have hm:∀ x ∈ found,0 ≤ x∧x < (xa.length:Int):=fun x hx=>by
     obtain ⟨r,hr,_,hxr⟩:=(pl.mem x).mp hx
     exact hs r hr x hxr
    refine ⟨Nat.le_trans (nodup_len (U:=richU xa.length) pl.nd fun x hx=>?_) (by rw [richU_len]; exact a6),hm⟩
    unfold richU
    obtain ⟨h1,h2⟩:=hm x hx
    exact List.mem_map.mpr ⟨x.toNat,List.mem_range.mpr (by omega),by omega⟩
   refine ⟨_,rfl,d,rfl,⟨_,SqL.of hd7⟩,?_⟩
   refine jf7 (xs:=S.map V.int) (fun j σ H'=>Stay H7 H'∧∃ pg goods y8,σ=[some (.ref p),some (.ref q),some (.ref rb),some (.ref rm),some (.ref rp),some (.ref pf),some (.ref d),some (.ref pg),y8,y9]∧H' pg=some (.lst (goods.map V.int))∧PaidL (((nats S).take j).map fun i=>(bestM (rowsOf wi) qs).getD i []) (fun _=>0) goods)
    ⟨Stay.refl H7,pg0,[],y8,rfl,hg7,⟨List.nodup_nil,fun x=>by simp⟩⟩ (fun j σ H' _ z=>SqL.of (z.1 _ _ hd7)) ?_ ?_
   ·rintro j x σ H8 hx8 ⟨s8,pg,goods,y8,rfl,hg8,pl⟩
    rw [nats_V hnn] at hx8
    obtain ⟨t,ht,rfl⟩:=nat_at hx8
    have htl:=hSx t (List.mem_of_getElem? ht)
    have htx:t < xb.length:=by rw [hxb]; exact htl
    obtain ⟨cr,e1,hcr⟩:=ls7.2 t _ (List.getElem?_eq_getElem htx)
    have ea:atI xb (t:Int)=some (.ref cr):=atI_nat (by rw [List.getElem?_eq_getElem htx,e1])
    generalize hR:(bestM (rowsOf wi) qs).getD t []=R at hcr
    have hRn:R.Nodup:=by rw [← hR]; exact best_row t
    have hRb:∀ x ∈ R,0 ≤ x∧x < (xa.length:Int):=by rw [← hR]; exact hbi t
    have hR6:R.length ≤ 6:=Nat.le_trans (nodup_len (U:=richU xa.length) hRn fun x hx=>by
     unfold richU
     obtain ⟨h1,h2⟩:=hRb x hx
     exact List.mem_map.mpr ⟨x.toNat,List.mem_range.mpr (by omega),by omega⟩) (by rw [richU_len]; exact a6)
    obtain ⟨hg6,_⟩:=hgl _ _ (fun r hr x hx=>by obtain ⟨i,_,rfl⟩:=List.mem_map.mp hr; exact hbi i x hx) pl
    have hc8:=s8 _ _ hcr
    dsimp only [gName]
    refine ⟨_,rfl,_,rfl,_,rfl,rb,_,_,_,rfl,rfl,SqL.of (s8 _ _ hb7),ea,cr,rfl,⟨_,SqL.of hc8⟩,fun ac hac=>?_⟩
    refine jd3 (xs:=R.map V.int) (fun j zs H'=>Stay H8 H'∧zs=((R.take j).filter fun x=>!goods.contains x).map V.int) ⟨(Stay.refl H8).acc hac,rfl⟩ (fun j zs H' _ _ z=>SqL.of (z.1 _ _ hc8)) ?_ ?_
    ·rintro j x zs H10 hx10 hz10 ⟨s10,rfl⟩
     obtain ⟨n,hn10,rfl⟩:∃ n:Int,R[j]?=some n∧x=V.int n:=by
      rw [List.getElem?_map] at hx10
      cases e:R[j]? with
      | none=>rw [e] at hx10; cases hx10
      | some n=>rw [e] at hx10; exact ⟨n,rfl,by simpa using hx10.symm⟩
     refine ⟨_,rfl,_,rfl,pg,_,rfl,.inl (SqL.of (s10 _ _ hg8)),rfl,flat_ints goods,_,rfl,?_⟩
     have ein:(if true=true then !inV (V.int n) (goods.map V.int) else inV (V.int n) (goods.map V.int))=!goods.contains n:=by rw [if_pos rfl,inv_ints]
     rw [ein]
     have ef:(R.take (j + 1)).filter (fun x=>!goods.contains x)=(R.take j).filter (fun x=>!goods.contains x) ++ if (!goods.contains n)=true then [n] else []:=by
      rw [jb2 hn10,List.filter_append]
      congr 1
      exact filt1 _ _
     have lf:((R.take j).filter fun x=>!goods.contains x).length ≤ 6:=by
      have h1:=List.length_filter_le (fun x=>!goods.contains x) (R.take j)
      have h3:(R.take j).length ≤ R.length:=by rw [List.length_take]; omega
      omega
     cases hc10:(!goods.contains n) with
     | true =>
      refine iteT ⟨_,rfl,_,hz10,by rw [List.length_map,sz]; omega,Cn.of ja1 ⟨s10.acc hac,?_⟩⟩
      rw [ef,hc10,if_pos rfl,List.map_append]; rfl
     | false =>
      refine iteF (Cn.of hz10 ⟨s10,?_⟩)
      rw [ef,hc10,if_neg (by decide),List.append_nil]
    ·rintro zs H10 hz10 ⟨s10,rfl⟩
     rw [List.length_map,List.take_length] at hz10
     have hg10:=s10 _ _ hg8
     have l2:(R.filter fun x=>!goods.contains x).length ≤ 6:=by
      have h1:=List.length_filter_le (fun x=>!goods.contains x) R
      omega
     refine ⟨pg,ac,_,_,rfl,rfl,hg10,hz10,by rw [List.length_map,List.length_map,sz]; omega,fun pn hpn=>?_⟩
     refine ⟨s8.trans (s10.new hpn),pn,goods ++ R.filter fun x=>!goods.contains x,_,rfl,?_,?_⟩
     ·rw [List.map_append]; exact ja1
     ·rw [jb2 ht,List.map_append]
      have:=pl.take hRn rfl
      rw [← hR] at this ⊢
      exact this
   rintro σ H8 ⟨s8,pg,goods,y8,rfl,hg8,pl⟩
   rw [List.length_map,← hnl,List.take_length] at pl
   obtain ⟨hg6,hgb⟩:=hgl _ _ (fun r hr x hx=>by obtain ⟨i,_,rfl⟩:=List.mem_map.mp hr; exact hbi i x hx) pl
   have hgn:∀ x ∈ goods,0 ≤ x:=fun x hx=>(hgb x hx).1
   have hgx:∀ g ∈ nats goods,g < xa.length:=fun g hg=>by
    have:=hgb _ ((mem_nats' hgn g).mp hg)
    omega
   have hgnl:(nats goods).length=goods.length:=by unfold nats; rw [List.length_map]
   have s68:=s7.trans s8
   have hrp8:H8 rp=some (.lst (ps.map V.int)):=s68 _ _ (st26 _ _ hrp)
   have hrm8:H8 rm=some (.lst (ms.map V.int)):=s68 _ _ (st26 _ _ hrm)
   refine ⟨_,rfl,pg,rfl,⟨_,SqL.of hg8⟩,fun acc hacc=>?_⟩
   refine jd3 (xs:=goods.map V.int) (fun j zs H'=>Stay H8 H'∧zs=(((nats goods).take j).map fun g=>ms.getD g 0).map V.int) ⟨(Stay.refl H8).acc hacc,rfl⟩ (fun j zs H' _ _ z=>SqL.of (z.1 _ _ hg8)) ?_ ?_
   ·rintro j x zs H9 hx9 hz9 ⟨s9,rfl⟩
    rw [nats_V hgn] at hx9
    obtain ⟨t,ht,rfl⟩:=nat_at hx9
    have htx:=hgx t (List.mem_of_getElem? ht)
    obtain ⟨ea,_,_⟩:=jd8 (ns:=ms) (r:=(t:Int)) (by omega) (by rw [hms.1,hml]; omega)
    rw [Int.toNat_natCast] at ea
    have hj:j < (nats goods).length:=(List.getElem?_eq_some_iff.mp ht).1
    refine je9 ⟨_,rfl,_,rfl,rm,_,_,_,rfl,rfl,SqL.of (s9 _ _ hrm8),ea,_,hz9,?_,Cn.of ja1 ⟨s9.acc hacc,?_⟩⟩
    ·rw [List.length_map,List.length_map,List.length_take,sz]; omega
    ·rw [jb2 ht,List.map_append,List.map_append]; rfl
   rintro zs H9 hz9 ⟨s9,rfl⟩
   rw [List.length_map,← hgnl,List.take_length] at hz9
   refine ⟨acc,_,rfl,.inl (SqL.of hz9),?_⟩
   have s69:=s68.trans s9
   dsimp only [gName]
   refine ⟨_,rfl,.inl ⟨rfl,_,SqL.of (s69 _ _ hxr)⟩,_,rfl,d,rfl,⟨_,SqL.of (s69 _ _ hd6)⟩,fun acc9 hacc9=>?_⟩
   refine jd3 (xs:=S.map V.int) (fun j zs H'=>Stay H9 H'∧zs=(((nats S).take j).map fun i=>ps.getD i 0).map V.int) ⟨(Stay.refl H9).acc hacc9,rfl⟩ (fun j zs H' _ _ z=>SqL.of (z.1 _ _ (s69 _ _ hd6))) ?_ ?_
   ·rintro j x zs H10 hx10 hz10 ⟨s10,rfl⟩
    rw [nats_V hnn] at hx10
    obtain ⟨t,ht,rfl⟩:=nat_at hx10
    have htl:=hSx t (List.mem_of_getElem? ht)
    obtain ⟨ea,_,_⟩:=jd8 (ns:=ps) (r:=(t:Int)) (by omega) (by rw [hps.1]; omega)
    rw [Int.toNat_natCast] at ea
    have hj:j < (nats S).length:=(List.getElem?_eq_some_iff.mp ht).1
    refine je9 ⟨_,rfl,_,rfl,rp,_,_,_,rfl,rfl,SqL.of (s10 _ _ (s9 _ _ hrp8)),ea,_,hz10,?_,Cn.of ja1 ⟨s10.acc hacc9,?_⟩⟩
    ·rw [List.length_map,List.length_map,List.length_take,sz]; omega
    ·rw [jb2 ht,List.map_append,List.map_append]; rfl
   rintro zs H10 hz10 ⟨s10,rfl⟩
   rw [List.length_map,← hnl,List.take_length] at hz10
   refine ⟨acc9,_,rfl,.inl (SqL.of hz10),_,rfl,_,_,rfl,rfl,_,rfl,by show 2 ≤ sizeLine; decide,fun a10 ha10=>?_⟩
   have s6a:=s69.trans s10
   have s11:=s6a.new (o:=.lst [.int (((nats S).map fun i=>ps.getD i 0).sum - ((nats goods).map fun g=>ms.getD g 0).sum),.ref d]) ha10
   have e11:(upd H10 a10 (.lst [.int (((nats S).map fun i=>ps.getD i 0).sum - ((nats goods).map fun g=>ms.getD g 0).sum),.ref d])) a10=some (.lst [.int (((nats S).map fun i=>ps.getD i 0).sum - ((nats goods).map fun g=>ms.getD g 0).sum),.ref d]):=ja1
   have n10:a10 ≠ pf:=fun z=>by rw [z,s6a _ _ hxr] at ha10; cases ha10
   generalize upd H10 a10 (.lst [.int (((nats S).map fun i=>ps.getD i 0).sum - ((nats goods).map fun g=>ms.getD g 0).sum),.ref d])=H11 at s11 e11 ⊢
   have hlr:xr.length=i:=by
    rw [hrows.1]
    have:=congrArg List.length hmap
    rw [List.length_map,List.length_take] at this
    omega
   refine ⟨pf,xr,.ref a10,rfl,rfl,s11 _ _ hxr,by rw [hlr,sz]; omega,?_⟩
   refine ⟨⟨_,_,_,_,rfl⟩,fun a o na h=>by rw [jb5 na]; exact s11 _ _ (kp a o na h),xr ++ [.ref a10],rows ++ [(((nats S).map fun i=>ps.getD i 0).sum - ((nats goods).map fun g=>ms.getD g 0).sum,S)],ja1,?_,?_,?_⟩
   ·exact ((hrows.stay s11).app n10 hdp e11 (s11 _ _ hd6)).upd
   ·rw [List.map_append,hmap,jb2 hSi]; rfl
   ·intro x hx
    rcases List.mem_append.mp hx with h | h
    ·exact hval x h
    ·rw [List.mem_singleton.mp h]
     refine ⟨nats goods,nats_nodup pl.nd hgn,fun g=>?_,rfl⟩
     rw [mem_nats' hgn,pl.mem]
     constructor
     ·rintro ⟨r,hr,_,hx⟩
      obtain ⟨i,hi,rfl⟩:=List.mem_map.mp hr
      exact ⟨i,hi,hx⟩
     ·rintro ⟨i,hi,hx⟩
      exact ⟨_,List.mem_map.mpr ⟨i,hi,rfl⟩,rfl,hx⟩
  ·rintro σ H6 ⟨⟨y6,y7,y8,y9,rfl⟩,kp,xr,rows,hxr,hrows,hmap,hval⟩
   rw [ls5.1,List.take_length] at hmap
   have hrl:rows.length=sets.length:=by rw [← hmap,List.length_map]
   refine ⟨_,rfl,pf,xr,rows,rfl,hxr,hrows.at,?_,by rw [hrl]; exact hs64,?_,fun mm r H7 hm hmax s7 e7=>?_⟩
   ·intro z
    rw [z,List.length_nil] at hrl
    exact hsne (List.length_eq_zero_iff.mp hrl.symm)
   ·intro r hr'
    have:r.2 ∈ sets:=by rw [← hmap]; exact List.mem_map.mpr ⟨r,hr',rfl⟩
    exact Nat.le_trans (hset _ this).length_le hul
   ·have st6:Stay H H6:=fun a o h=>kp a o (jc2 h h0pf) (s15 _ _ h)
    exact k c rows mm r H7 (rich_of hc hms hps hpl (by rw [hql]; exact hbm) (by rw [hmap,hse]) hval) hm hmax (st6.trans s7) e7
end
end K9
namespace K9
open PySem L2 KG EX KM
theorem ints_dt {K:PySem.W.Frag} {H:Hp} {a:Addr} {ns:List Int} (h:H a=some (.tup (ns.map V.int))):DtV K H (.ref a) (rowD ns):=(TrV.tup (b:=a + 1) h (ints_tr (b:=a + 1) ns)).dt
section
variable {P:Program} {w:World} {K:PySem.W.Frag} {mg:Str→Option Value} {base:Heap}
abbrev NL:List Str:=["script","k","bag","market","prices","found"]
theorem scLaw:FnScope NL ["script"] (ja5 (top 55)):=⟨rfl,rfl,rfl,by decide +kernel,rfl,by decide +kernel,by decide +kernel⟩
theorem ok_law {f fB fT fM fP fA fS:Addr} {fd dB dT dM dP dA dS:FuncData} (F:Fun K "law" "law" (top 55) f fd) (N:Nm mg) (Z:IsK K)
  (Bg:Cal K mg P w base "_law_bag" 1 ["script","k"] (spBag K) fB dB) (T:Cal K mg P w base "_law_take" 1 ["bag","many"] spTake fT dT) (Mk:Cal K mg P w base "_law_market" 3 ["bag"] spMk fM dM) (Sc:Cal K mg P w base "_law_scaled" 5 ["bag","market"] spScaled fP dP)
  (LR:Cal K mg P w base "_law_rich" 4 ["market","prices"] spLRich fA dA) (RB:Cal K mg P w base "rich_buyers" 7 ["market","prices"] spRB fS dS):FnOk P w K mg base CX0 10 f fd ["script"] (spLaw K):=by
 refine F.ok scLaw (fun vs H Q E h=>?_) (fun cdv A' outer s H vs Q E hr h=>?_)
 ·obtain ⟨a,ns,rfl,_⟩:=h; rfl
 ·obtain ⟨a,ns,rfl,hS,hlen,k⟩:=h
  have hr1:Room 1 _:=hr.mono (by decide)
  have hr3:Room 3 _:=hr.mono (by decide)
  have hr4:Room 4 _:=hr.mono (by decide)
  have hr5:Room 5 _:=hr.mono (by decide)
  have hr7:Room 7 _:=hr.mono (by decide)
  have hu:=hr.units
  refine ⟨_,ja4 (jf6 PassesOwn.never rfl (jd2 rfl N.range (ja0 (jb3 jd9 (jb0 (call_min2 rfl) (by rfl) N.min boot_min (ja0 (jb0 (cLen K) (by rfl) N.len PySem.boot_len (ja0 (pv 0) ja2)) (ja0 ja3 ja2))) ja3) ja2)) (ja8 (i:=1) scLaw.nd rfl (Or.inl rfl))
   (ja4 (jb1 (i:=2) scLaw.nd rfl (Or.inl rfl) (ja6 Bg.ok hr1 rfl Bg.mg Bg.kp Bg.bd .nil pass0 (ja0 (pv 0) (ja0 (pv 1) ja2))))
   (ja4 (jb1 (i:=3) scLaw.nd rfl (Or.inl rfl) (ja6 Mk.ok hr3 rfl Mk.mg Mk.kp Mk.bd .nil pass0 (ja0 (pv 2) ja2)))
   (ja4 (jf1 (jc0 op_eq (ja6 T.ok hr1 rfl T.mg T.kp T.bd .nil pass0 (ja0 (pv 2) (ja0 ja3 ja2))) ja3 (nomark _))
    (ja7 (jb1 (i:=3) scLaw.nd rfl (Or.inl rfl) (jd6 (ja0 (ja9 ixT0 (pv 3) ja3 (fun _ _=>rfl)) (ja0 (ja9 ixT0 (pv 3) ja3 (fun _ _=>rfl)) (ja0 (jb3 op_catA (pe_slice sl_tupA (ja9 ixT0 (pv 3) ja3 (fun _ _=>rfl)) (po_some ja3) po_none)
     (jd6 (ja0 (jb3 opRepT0 (jd6 (ja0 ja3 ja2)) (jb0 cLen0 (by rfl) N.len PySem.boot_len (ja0 (ja9 ixT0 (pv 3) ja3 (fun _ _=>rfl)) ja2))) ja2))) ja2)))))) jc6)
   (ja4 (jb1 (i:=4) scLaw.nd rfl (Or.inl rfl) (ja6 Sc.ok hr5 rfl Sc.mg Sc.kp Sc.bd .nil pass0 (ja0 (pv 2) (ja0 (pv 3) ja2))))
   (ja4 (jb1 (i:=5) scLaw.nd rfl (Or.inl rfl) (ja6 RB.ok hr7 rfl RB.mg RB.kp RB.bd .nil pass0 (ja0 (pv 3) (ja0 (pv 4) ja2))))
   (ja7 (jf1 (PW.pt (pw_or (pt_not (pt_val (pIsi K (pv 5) rfl N.isinstance rfl N.tuple jc5 jd7))) (pw_or1 (jc0 (opNeD0 hu) (pv 5) (ja6 LR.ok hr4 rfl LR.mg LR.kp LR.bd .nil pass0 (ja0 (pv 3) (ja0 (pv 4) ja2))) (nomark _))))) (ja7 (jb4 pe_bl)) jc6))))))))
   (ja7 (jb4 pe_bl)),?_⟩
  refine ⟨_,rfl,a,_,rfl,.inl hS,_,_,rfl,_,_,rfl,rfl,_,rfl,?_,?_,?_⟩
  ·rw [List.length_map]; split <;> omega
  ·rw [List.length_map]; split <;> omega
  have hN:((if (24:Int) < ((ns.map V.int).length:Int) then (24:Int) else ((ns.map V.int).length:Int)) + 2).toNat ≤ 65:=by
   rw [List.length_map]; split <;> omega
  refine for_range (fun i σ H'=>Stay H H'∧∃ x1 x2 x3 x4 x5,σ=[some (.ref a),x1,x2,x3,x4,x5]) ⟨Stay.refl H,_,_,_,_,_,rfl⟩ ?_ (fun σ H' _=>k H')
  rintro i σ H0 hi ⟨st0,x1,x2,x3,x4,x5,rfl⟩
  have hS0:=SqL.stay hS st0
  refine ⟨_,rfl,_,rfl,a,ns,_,rfl,hS0,by omega,by omega,fun b c d hb0=>?_⟩
  have hb1:Bag (upd H0 b (.lst [.int c,.int d])) b:=⟨c,d,ja1⟩
  have s1:Stay H0 (upd H0 b (.lst [.int c,.int d])):=(Stay.refl H0).new hb0
  refine ⟨_,rfl,b,rfl,hb1,fun p am pu wi H1 hbag kp1 hT hM _=>?_⟩
  have s2:Stay H0 H1:=s1.kp kp1 hb0
  dsimp only [gName]
  refine ifs_cont (fun σ H5=>∃ p wi,σ=[some (.ref a),some (.int (0 + (i:Int))),some (.ref b),some (.ref p),x4,x5]∧Bag H5 b∧Stay H0 H5∧TrV b H5 (.ref p) (.tuple [.tuple am,.tuple pu,.tuple wi])∧isMk (.tuple [.tuple am,.tuple pu,.tuple wi])=true) ?_ ?_
  case refine_2 =>
   intro cont
   refine ⟨_,rfl,b,_,rfl,hbag,by decide,by decide,fun r H4 _ _ hb4 kp4=>⟨rfl,_,rfl,ite2 (fun _=>?_) (fun _=>?_)⟩⟩
   ·obtain ⟨pa,pp,pw,xa,xp,xw,m1⟩:=MkAt.of hT hM
    have m4:=m1.kp kp4 hbag
    obtain ⟨_,_,_,_,a1,a6,w1,w6,_⟩:=m4.lw
    refine ⟨_,rfl,p,_,_,_,rfl,rfl,SqT.of m4.hp,rfl,_,rfl,p,_,_,_,rfl,rfl,SqT.of m4.hp,rfl,_,rfl,p,_,_,_,rfl,rfl,SqT.of m4.hp,rfl,_,rfl,pw,xw,rfl,m4.hw,fun u1 H5 s5 hu1=>?_⟩
    have ec:=cut_from (xs:=xw) (r:=1) (by omega) (by omega)
    rw [ec] at hu1
    refine ⟨by show 1 ≤ sizeLine; decide,fun u2 hu2=>?_⟩
    have s6:=(Stay.refl H5).new (o:=.tup [.int 0]) hu2
    have m6:=(m4.stay s5).stay s6
    refine ⟨_,rfl,p,_,_,_,rfl,rfl,SqT.of m6.hp,rfl,pa,xa,rfl,.inr (SqT.of m6.ha),?_⟩
    refine ⟨u2,_,[V.int 0],rfl,rfl,SqT.of ja1,by simp,by omega,?_,fun h1=>?_,fun h1 z hz0=>?_⟩
    ·have:((xa.length:Int)).toNat=xa.length:=by omega
     rw [this,sz]; show 1 * xa.length ≤ _; omega
    ·have hz:(upd H5 u2 (.tup [.int 0])) u2=some (.tup (List.replicate xa.length (V.int 0))):=by
      have:xa.length=1:=by omega
      rw [this]; exact ja1
     have s57:=s6
     generalize upd H5 u2 (.tup [.int 0])=H7 at hz s57 ⊢
     generalize u2=z at hz ⊢
     refine ⟨by show 1 ≤ sizeLine; decide,fun t ht=>?_⟩
     have s8:=s57.new (o:=.tup [.ref z]) ht
     have s78:=(Stay.refl H7).new (o:=.tup [.ref z]) ht
     refine ⟨u1,t,_,_,rfl,rfl,s8 _ _ hu1,ja1,?_,fun u3 H9 s9 hu3=>?_⟩
     ·rw [List.length_drop,sz]; show _ + 1 ≤ _; omega
     refine ⟨by show 3 ≤ sizeLine; decide,fun u4 hu4=>?_⟩
     have s10:=(Stay.refl H9).new (o:=.tup [.ref pa,.ref pp,.ref u3]) hu4
     have S:=s5.trans (s8.trans (s9.trans s10))
     have S9:=s9.trans s10
     have mf:=m4.stay S
     have hzf:=S9 _ _ (s78 _ _ hz)
     have lam:=m4.ta.len
     rw [lam] at hzf
     refine cont _ _ ⟨u4,wi.drop 1 ++ [.tuple (List.replicate am.length (.int 0))],rfl,Bag.stay hb4 S,(s2.kp kp4 hb0).trans S,.tup ja1 (.cons (.tup mf.ha mf.ta) (.cons (.tup mf.hpp mf.tp) (.cons (.tup (s10 _ _ hu3) ((mf.tw.drop 1).app (.cons (.tup hzf (zeros_tr _)) .nil))) .nil))),mk_zero hM⟩
    ·have hz:(upd (upd H5 u2 (.tup [.int 0])) z (.tup (List.replicate ((xa.length:Int)).toNat [V.int 0]).flatten)) z=some (.tup (List.replicate xa.length (V.int 0))):=by
      rw [ja1,flat_zeros]
      have:((xa.length:Int)).toNat=xa.length:=by omega
      rw [this]
     have s57:=s6.new (o:=.tup (List.replicate ((xa.length:Int)).toNat [V.int 0]).flatten) hz0
     generalize upd (upd H5 u2 (.tup [.int 0])) z (.tup (List.replicate ((xa.length:Int)).toNat [V.int 0]).flatten)=H7 at hz s57 ⊢
     refine ⟨by show 1 ≤ sizeLine; decide,fun t ht=>?_⟩
     have s8:=s57.new (o:=.tup [.ref z]) ht
     have s78:=(Stay.refl H7).new (o:=.tup [.ref z]) ht
     refine ⟨u1,t,_,_,rfl,rfl,s8 _ _ hu1,ja1,?_,fun u3 H9 s9 hu3=>?_⟩
     ·rw [List.length_drop,sz]; show _ + 1 ≤ _; omega
     refine ⟨by show 3 ≤ sizeLine; decide,fun u4 hu4=>?_⟩
     have s10:=(Stay.refl H9).new (o:=.tup [.ref pa,.ref pp,.ref u3]) hu4
     have S:=s5.trans (s8.trans (s9.trans s10))
     have S9:=s9.trans s10
     have mf:=m4.stay S
     have hzf:=S9 _ _ (s78 _ _ hz)
     have lam:=m4.ta.len
     rw [lam] at hzf
     refine cont _ _ ⟨u4,wi.drop 1 ++ [.tuple (List.replicate am.length (.int 0))],rfl,Bag.stay hb4 S,(s2.kp kp4 hb0).trans S,.tup ja1 (.cons (.tup mf.ha mf.ta) (.cons (.tup mf.hpp mf.tp) (.cons (.tup (s10 _ _ hu3) ((mf.tw.drop 1).app (.cons (.tup hzf (zeros_tr _)) .nil))) .nil))),mk_zero hM⟩
   ·exact cont _ _ ⟨p,wi,rfl,hb4,s2.kp kp4 hb0,hT.kp kp4 hbag,hM⟩
  rintro σ H5 ⟨p,wi,rfl,hb5,s05,hT5,hM5⟩
  obtain ⟨pa,pp,pw,xa,xp,xw,m5⟩:=MkAt.of hT5 hM5
  have hps:∀ q ∈ jb8 pu,0 ≤ q:=fun q hq=>Rat.le_of_lt (m5.pu.2 q hq).1
  refine ⟨_,rfl,_,rfl,b,p,pa,pp,pw,xa,xp,xw,am,pu,wi,rfl,hb5,m5,fun q ys qs H6 hb6 kp6 mp6=>?_⟩
  have s06:Stay H0 H6:=s05.kp kp6 hb0
  refine ⟨_,rfl,_,rfl,b,p,pa,pp,pw,q,xa,xp,xw,ys,am,pu,wi,qs,rfl,mp6,fun a7 c7 rows7 row7 H7 s7 ri7 br7 e7=>?_⟩
  dsimp only [gName]
  have mp7:MP b H7 p pa pp pw q xa xp xw ys am pu wi qs:=⟨mp6.m.stay s7,mp6.pr.stay s7,mp6.l,mp6.ok⟩
  have tq:TrV b H7 (.ref a7) (rowD row7.2):=.tup e7 (ints_tr _)
  obtain ⟨t1,ty1,et1⟩:=ist Z tq
  refine ⟨_,rfl,t1,_,ty1,et1,_,rfl,iteF ?_⟩
  refine ⟨_,rfl,_,rfl,_,rfl,b,p,pa,pp,pw,q,xa,xp,xw,ys,am,pu,wi,qs,rfl,mp7.m,mp7.pr,mp7.l,fun c8 rows8 mm r8 H8 ri8 hm8 hmax8 s8 e8=>?_⟩
  have hmon:∀ z ∈ jb7 (am.map intOf) qs,0 ≤ z:=fun z hz=>by
   unfold jb7 at hz
   obtain ⟨g,hg,rfl⟩:=List.mem_map.mp hz
   have hgl:=List.mem_range.mp hg
   have h1:0 ≤ qs.getD g 0:=by
    cases hh:has (rowsOf wi) g with
    | true=>exact Rat.le_of_lt (mp6.ok.pos g hgl hh)
    | false=>rw [mp6.ok.nil g hgl hh]; exact Rat.le_refl
   have hal:(am.map intOf).length=xa.length:=by
    have:=congrArg List.length mp6.m.am.1
    simpa using this.symm
   have hga:g < (am.map intOf).length:=by rw [hal,← mp6.l]; exact hgl
   have h2:1 ≤ (am.map intOf).getD g 0:=(mp6.m.am.2 _ (by simp only [List.getD,List.getElem?_eq_getElem hga,Option.getD_some]; exact List.getElem_mem hga)).1
   have h3:(0:Int) ≤ (am.map intOf).getD g 0:=by omega
   exact Rat.mul_nonneg h1 (by exact_mod_cast Rat.intCast_le_intCast.mpr h3)
  rw [rich_least hmon ri7 br7 ri8 hm8 hmax8] at e8
  refine ⟨rowD row7.2,rowD row7.2,ints_dt (s8 _ _ e7),ints_dt e8,Nat.le_trans (Nat.min_le_left _ _) (Nat.le_trans (dep_row _) (by decide)),_,rfl,?_⟩
  rw [eqv_row]
  exact iteF ⟨st0.trans (s06.trans (s7.trans s8)),_,_,_,_,_,rfl⟩
end
end K9
namespace MI
open PySem L2 KG EX KM
def FnA (K:PySem.W.Frag) (nm:Str) (st:Stmt) (f:Addr):Prop:=∃ (oc:Value) (od:Option Addr) (kV dc pm:Value) (an:Option Addr) (cd ct:Value) (sl:Array (Option Value)),PySem.W.nsIn K mainGlobals nm=some (some (.ref f))∧K.lookup f=some ⟨oc,od,.func (PySem.W.fnOf nm nm (je5 st) (je2 st) (ja5 st) .none kV dc pm an cd ct),sl⟩∧PySem.W.codeIn K cd nm=true∧PySem.W.keepIn K (.ref f)=true
theorem el1 {P:List Value→Prop} (h:∀ a,P [a]):∀ us:List Value,us.length=1→P us
 | [a],_=>h a
theorem el2 {P:List Value→Prop} (h:∀ a b,P [a,b]):∀ us:List Value,us.length=2→P us
 | [a,b],_=>h a b
theorem el3 {P:List Value→Prop} (h:∀ a b c,P [a,b,c]):∀ us:List Value,us.length=3→P us
 | [a,b,c],_=>h a b c
structure Fg (K:PySem.W.Frag) (mg:Str→Option Value) (nm:Str) (ps:List Str) (st:Stmt) (f:Addr) (fd:FuncData):Prop where
 F:Fun K nm nm st f fd
 mg:mg nm=some (.ref f)
 kp:PySem.W.keepIn K (.ref f)=true
 bd:Binds K fd ps []
section
variable {K:PySem.W.Frag} {hh:Heap} {mg:Str→Option Value} {nm:Str} {ps:List Str} {st:Stmt} {f:Addr} {fd:FuncData} {k:Nat} {sp:Sp}
theorem Fg.c (a:Fg K mg nm ps st f fd) (l:PySem.W.OpenLaw) (w:World) (base:Heap) (o:FnOk l.prog w K mg base CX0 k f fd ps sp):Cal K mg l.prog w base nm k ps sp f fd:=⟨o,a.mg,a.kp,a.bd⟩
theorem Fg.x (a:Fg K mg nm ps st f fd) (l:PySem.W.OpenLaw) (w:World) (base:Heap) (o:FnOk l.prog w K mg base (CXF l.prog w) k f fd ps sp):CalX K mg l.prog w base nm k ps sp f fd:=⟨o,a.mg,a.kp,a.bd⟩
theorem Fg.of (X:K.In hh) (G:hh.Ns mainGlobals mg) (a:FnA K nm st f) (hb:∀ (kV doc pm:Value) (an:Option Addr) (cdv ct:Value) (us:List Value),us.length=ps.length→bindArgs (PySem.W.fnOf nm nm (je5 st) (je2 st) (ja5 st) .none kV doc pm an cdv ct) ⟨us,[]⟩=pure (ps.zip us)):∃ fd,Fg K mg nm ps st f fd:=by
 obtain ⟨_,_,_,_,_,_,_,_,_,a,l,c,k⟩:=a
 exact ⟨_,fun_mk l c k,PySem.W.mg_of X G a,k,(fun_mk l c k).binds hb⟩
theorem fg1 (ps:List Str) (X:K.In hh) (G:hh.Ns mainGlobals mg) (a:FnA K nm st f) (hb:∀ (kV doc pm:Value) (an:Option Addr) (cdv ct a:Value),bindArgs (PySem.W.fnOf nm nm (je5 st) (je2 st) (ja5 st) .none kV doc pm an cdv ct) ⟨[a],[]⟩=pure (ps.zip [a]):=by intros; rfl) (hl:ps.length=1:=by rfl):∃ fd,Fg K mg nm ps st f fd:=Fg.of X G a fun kV doc pm an cdv ct us hu=>el1 (P:=fun us=>bindArgs (PySem.W.fnOf nm nm (je5 st) (je2 st) (ja5 st) .none kV doc pm an cdv ct) ⟨us,[]⟩=pure (ps.zip us)) (hb kV doc pm an cdv ct) us (hu.trans hl)
theorem fg2 (ps:List Str) (X:K.In hh) (G:hh.Ns mainGlobals mg) (a:FnA K nm st f) (hb:∀ (kV doc pm:Value) (an:Option Addr) (cdv ct a b:Value),bindArgs (PySem.W.fnOf nm nm (je5 st) (je2 st) (ja5 st) .none kV doc pm an cdv ct) ⟨[a,b],[]⟩=pure (ps.zip [a,b]):=by intros; rfl) (hl:ps.length=2:=by rfl):∃ fd,Fg K mg nm ps st f fd:=Fg.of X G a fun kV doc pm an cdv ct us hu=>el2 (P:=fun us=>bindArgs (PySem.W.fnOf nm nm (je5 st) (je2 st) (ja5 st) .none kV doc pm an cdv ct) ⟨us,[]⟩=pure (ps.zip us)) (hb kV doc pm an cdv ct) us (hu.trans hl)
theorem fg3 (ps:List Str) (X:K.In hh) (G:hh.Ns mainGlobals mg) (a:FnA K nm st f) (hb:∀ (kV doc pm:Value) (an:Option Addr) (cdv ct a b c:Value),bindArgs (PySem.W.fnOf nm nm (je5 st) (je2 st) (ja5 st) .none kV doc pm an cdv ct) ⟨[a,b,c],[]⟩=pure (ps.zip [a,b,c]):=by intros; rfl) (hl:ps.length=3:=by rfl):∃ fd,Fg K mg nm ps st f fd:=Fg.of X G a fun kV doc pm an cdv ct us hu=>el3 (P:=fun us=>bindArgs (PySem.W.fnOf nm nm (je5 st) (je2 st) (ja5 st) .none kV doc pm an cdv ct) ⟨us,[]⟩=pure (ps.zip us)) (hb kV doc pm an cdv ct) us (hu.trans hl)
end
end MI
namespace K9
open PySem L2 KG EX KM MI
theorem all_mk {l:PySem.W.OpenLaw} {w:World} {K:PySem.W.Frag} {h:Heap} {mg:Str→Option Value} {fa:Addr} (X:K.In h) (G:h.Ns mainGlobals mg) (hfa:mg "law"=some (.ref fa))
  {f0 f1 f2 f3 f4 f5 f6 f7 f8 f9 f10 f11 f12 f13 f14 f15 f16 f17 f18 f19 f20 f21 f22 f23 f24 f25 f26 f27 f28 f29 f30 f31 f32 f33 f34 f35 f36 f37 f38 f39 f40 f41 f42 f43 M Nn Pr:Addr}
  (a0:FnA K "is_whole" (top 5) f0)
  (a1:FnA K "is_fraction" (top 6) f1)
  (a2:FnA K "common_divisor" (top 7) f2)
  (a3:FnA K "fraction" (top 8) f3)
  (a4:FnA K "times" (top 9) f4)
  (a5:FnA K "over" (top 10) f5)
  (a6:FnA K "less" (top 11) f6)
  (a7:FnA K "greatest" (top 12) f7)
  (a8:FnA K "on_one_bottom" (top 13) f8)
  (a9:FnA K "wished" (top 15) f9)
  (a10:FnA K "are_prices" (top 17) f10)
  (a11:FnA K "need_prices" (top 18) f11)
  (a12:FnA K "money_by_good" (top 19) f12)
  (a13:FnA K "best_goods" (top 20) f13)
  (a14:FnA K "best_by_wishes" (top 21) f14)
  (a15:FnA K "rate" (top 22) f15)
  (a16:FnA K "all_sets" (top 24) f16)
  (a17:FnA K "in_coins" (top 25) f17)
  (a18:FnA K "coins_of" (top 26) f18)
  (a19:FnA K "buyers_above" (top 27) f19)
  (a20:FnA K "goods_by_best" (top 28) f20)
  (a21:FnA K "least_of_most" (top 29) f21)
  (a22:FnA K "rich_buyers" (top 30) f22)
  (a23:FnA K "_law_bag" (top 32) f23)
  (a24:FnA K "_law_take" (top 33) f24)
  (a25:FnA K "_law_frac" (top 34) f25)
  (a26:FnA K "_law_add" (top 35) f26)
  (a27:FnA K "_law_mul" (top 37) f27)
  (a28:FnA K "_law_sum" (top 39) f28)
  (a29:FnA K "_law_div" (top 40) f29)
  (a30:FnA K "_law_purse" (top 41) f30)
  (a31:FnA K "_law_wishes" (top 42) f31)
  (a32:FnA K "_law_market" (top 43) f32)
  (a33:FnA K "_law_wished" (top 44) f33)
  (a34:FnA K "_law_prices" (top 45) f34)
  (a35:FnA K "_law_scaled" (top 46) f35)
  (a36:FnA K "_law_best" (top 47) f36)
  (a37:FnA K "_law_money" (top 48) f37)
  (a38:FnA K "_law_purses" (top 50) f38)
  (a39:FnA K "_law_sets" (top 51) f39)
  (a40:FnA K "_law_ints" (top 52) f40)
  (a41:FnA K "_law_least" (top 53) f41)
  (a42:FnA K "_law_rich" (top 54) f42)
  (a43:FnA K "law" (top 55) f43)
  (z0:PySem.W.nsIn K mainGlobals "len"=some none)
  (z1:PySem.W.nsIn K mainGlobals "range"=some none)
  (z2:PySem.W.nsIn K mainGlobals "tuple"=some none)
  (z3:PySem.W.nsIn K mainGlobals "list"=some none)
  (z4:PySem.W.nsIn K mainGlobals "all"=some none)
  (z5:PySem.W.nsIn K mainGlobals "any"=some none)
  (z6:PySem.W.nsIn K mainGlobals "max"=some none)
  (z7:PySem.W.nsIn K mainGlobals "min"=some none)
  (z8:PySem.W.nsIn K mainGlobals "sum"=some none)
  (z9:PySem.W.nsIn K mainGlobals "abs"=some none)
  (z10:PySem.W.nsIn K mainGlobals "int"=some none)
  (z11:PySem.W.nsIn K mainGlobals "isinstance"=some none)
  (z12:PySem.W.nsIn K mainGlobals "bool"=some none)
  (z13:PySem.W.nsIn K mainGlobals "enumerate"=some none)
  (z14:PySem.W.nsIn K mainGlobals "ValueError"=some none)
  (yzip:PySem.W.nsIn K mainGlobals "zip"=some none)
  (ysorted:PySem.W.nsIn K mainGlobals "sorted"=some none)
  (gM:PySem.W.nsIn K mainGlobals "MartError"=some (some (.ref M)))
  (gNn:PySem.W.nsIn K mainGlobals "NoNumber"=some (some (.ref Nn)))
  (gPr:PySem.W.nsIn K mainGlobals "NoPrices"=some (some (.ref Pr)))
  (ti1:PySem.W.kitOne K (.type "NoneType") (.type "int")=some false)
  (ti2:PySem.W.kitOne K (.type "bool") (.type "int")=some true)
  (ti3:PySem.W.kitOne K (.type "int") (.type "int")=some true)
  (ti4:PySem.W.kitOne K (.type "str") (.type "int")=some false)
  (ti5:PySem.W.kitOne K (.type "list") (.type "int")=some false)
  (ti6:PySem.W.kitOne K (.type "tuple") (.type "int")=some false)
  (tb1:PySem.W.kitOne K (.type "NoneType") (.type "bool")=some false)
  (tb2:PySem.W.kitOne K (.type "bool") (.type "bool")=some true)
  (tb3:PySem.W.kitOne K (.type "int") (.type "bool")=some false)
  (tb4:PySem.W.kitOne K (.type "str") (.type "bool")=some false)
  (tb5:PySem.W.kitOne K (.type "list") (.type "bool")=some false)
  (tb6:PySem.W.kitOne K (.type "tuple") (.type "bool")=some false)
  (tt1:PySem.W.kitOne K (.type "NoneType") (.type "tuple")=some false)
  (tt2:PySem.W.kitOne K (.type "bool") (.type "tuple")=some false)
  (tt3:PySem.W.kitOne K (.type "int") (.type "tuple")=some false)
  (tt4:PySem.W.kitOne K (.type "str") (.type "tuple")=some false)
  (tt5:PySem.W.kitOne K (.type "list") (.type "tuple")=some false)
  (tt6:PySem.W.kitOne K (.type "tuple") (.type "tuple")=some true)
  (eXNn:PySem.W.excIn K Nn [.type "ValueError",.type "Exception",.type "BaseException",.type "object"] "ValueError.__new__"=true)
  (eXPr:PySem.W.excIn K Pr [.type "ValueError",.type "Exception",.type "BaseException",.type "object"] "ValueError.__new__"=true) :
  ∃ fd:FuncData,(∀ (s:Shared) (v:Value),BindsTo s fd ⟨[v],[]⟩ [("script",v)])∧∀ base:Heap,K.In base→base.Ns mainGlobals mg→FnOk l.prog w K mg base CX0 10 fa fd ["script"] (spLaw K):=by
 obtain ⟨_,F0⟩:=fg1 ["thing"] X G a0
 obtain ⟨_,F1⟩:=fg1 ["thing"] X G a1
 obtain ⟨_,F2⟩:=fg2 ["one","other"] X G a2
 obtain ⟨_,F3⟩:=fg2 ["top","bottom"] X G a3
 obtain ⟨_,F4⟩:=fg2 ["one","other"] X G a4
 obtain ⟨_,F5⟩:=fg2 ["one","other"] X G a5
 obtain ⟨_,F6⟩:=fg2 ["one","other"] X G a6
 obtain ⟨_,F7⟩:=fg1 ["parts"] X G a7
 obtain ⟨_,F8⟩:=fg1 ["parts"] X G a8
 obtain ⟨_,F9⟩:=fg1 ["market"] X G a9
 obtain ⟨_,F10⟩:=fg2 ["market","thing"] X G a10
 obtain ⟨_,F11⟩:=fg2 ["market","thing"] X G a11
 obtain ⟨_,F12⟩:=fg2 ["market","prices"] X G a12
 obtain ⟨_,F13⟩:=fg2 ["market","prices"] X G a13
 obtain ⟨_,F14⟩:=fg2 ["row","prices"] X G a14
 obtain ⟨_,F15⟩:=fg2 ["wish","price"] X G a15
 obtain ⟨_,F16⟩:=fg1 ["members"] X G a16
 obtain ⟨_,F17⟩:=fg2 ["market","prices"] X G a17
 obtain ⟨_,F18⟩:=fg2 ["coins","some"] X G a18
 obtain ⟨_,F19⟩:=fg3 ["best","money","purses"] X G a19
 obtain ⟨_,F20⟩:=fg2 ["best","buyers"] X G a20
 obtain ⟨_,F21⟩:=fg1 ["above"] X G a21
 obtain ⟨_,F22⟩:=fg2 ["market","prices"] X G a22
 obtain ⟨_,F23⟩:=fg2 ["script","k"] X G a23
 obtain ⟨_,F24⟩:=fg2 ["bag","many"] X G a24
 obtain ⟨_,F25⟩:=fg2 ["top","bottom"] X G a25
 obtain ⟨_,F26⟩:=fg2 ["one","other"] X G a26
 obtain ⟨_,F27⟩:=fg2 ["one","other"] X G a27
 obtain ⟨_,F28⟩:=fg1 ["some"] X G a28
 obtain ⟨_,F29⟩:=fg2 ["one","other"] X G a29
 obtain ⟨_,F30⟩:=fg1 ["bag"] X G a30
 obtain ⟨_,F31⟩:=fg2 ["bag","goods"] X G a31
 obtain ⟨_,F32⟩:=fg1 ["bag"] X G a32
 obtain ⟨_,F33⟩:=fg1 ["market"] X G a33
 obtain ⟨_,F34⟩:=fg2 ["bag","market"] X G a34
 obtain ⟨_,F35⟩:=fg2 ["bag","market"] X G a35
 obtain ⟨_,F36⟩:=fg2 ["market","prices"] X G a36
 obtain ⟨_,F37⟩:=fg3 ["market","prices","goods"] X G a37
 obtain ⟨_,F38⟩:=fg2 ["market","buyers"] X G a38
 obtain ⟨_,F39⟩:=fg1 ["some"] X G a39
 obtain ⟨_,F40⟩:=fg2 ["market","prices"] X G a40
 obtain ⟨_,F41⟩:=fg1 ["rows"] X G a41
 obtain ⟨_,F42⟩:=fg2 ["market","prices"] X G a42
 obtain ⟨oc43,od43,kV43,dc43,pm43,an43,cd43,ct43,sl43,a43,l43,c43,k43⟩:=a43
 have e:=hfa.symm.trans (PySem.W.mg_of X G a43)
 cases e
 have N:Nm mg:=⟨PySem.W.mg_none_of X G z0,PySem.W.mg_none_of X G z1,PySem.W.mg_none_of X G z2,PySem.W.mg_none_of X G z3,PySem.W.mg_none_of X G z4,PySem.W.mg_none_of X G z5,PySem.W.mg_none_of X G z6,PySem.W.mg_none_of X G z7,PySem.W.mg_none_of X G z8,PySem.W.mg_none_of X G z9,PySem.W.mg_none_of X G z10,PySem.W.mg_none_of X G z11,PySem.W.mg_none_of X G z12,PySem.W.mg_none_of X G z13,PySem.W.mg_none_of X G z14⟩
 have mZip:=PySem.W.mg_none_of X G yzip
 have mSorted:=PySem.W.mg_none_of X G ysorted
 have Z:IsK K:=⟨ti1,ti2,ti3,ti4,ti5,ti6,tb1,tb2,tb3,tb4,tb5,tb6,tt1,tt2,tt3,tt4,tt5,tt6⟩
 have mgM:=PySem.W.mg_of X G gM
 have mgNn:=PySem.W.mg_of X G gNn
 have mgPr:=PySem.W.mg_of X G gPr
 have F43:=fun_mk (st:=top 55) l43 c43 k43
 refine ⟨PySem.W.fnOf "law" "law" (je5 (top 55)) (je2 (top 55)) (ja5 (top 55)) .none kV43 dc43 pm43 an43 cd43 ct43,fun s v=>.of_eq rfl,fun base _ _=>?_⟩
 have W:=F0.c l w base (ok_whole F0.F N Z)
 have Gc:=F2.c l w base (ok_gcd F2.F N)
 have Gn:=F2.c l w base (ok_gcdN F2.F N)
 have IF:=F1.c l w base (ok_isfrac F1.F N Z W Gc)
 have Fr:=F3.x l w base (ok_fraction F3.F mgNn eXNn Gn)
 have Ti:=F4.x l w base (ok_times F4.F Fr)
 have Ov:=F5.x l w base (ok_over F5.F Fr)
 have Ls:=F6.c l w base (ok_less F6.F)
 have Gr:=F7.c l w base (ok_greatest F7.F Ls)
 have Wi:=F9.c l w base (ok_wished F9.F N)
 have Ra:=F15.c l w base (ok_rate F15.F Ov)
 have Ar:=F10.c l w base (ok_are F10.F N Z IF Wi)
 have Ne:=F11.x l w base (ok_need F11.F mgPr eXPr Ar)
 have Mb:=F12.c l w base (ok_mbg F12.F mZip Ti)
 have Bb:=F14.c l w base (ok_bb F14.F N Ra Gr)
 have Be:=F13.x l w base (ok_bg F13.F N Ne Bb)
 have OO:=F8.c l w base (ok_oob F8.F Gn)
 have As:=F16.c l w base (ok_allL F16.F)
 have IC:=F17.c l w base (ok_ic F17.F N OO Mb)
 have Co:=F18.c l w base (ok_co F18.F N)
 have CoL:=F18.c l w base (ok_coL F18.F N)
 have GB:=F20.c l w base (ok_gb F20.F mSorted)
 have BA:=F19.c l w base (ok_ba F19.F N Co CoL GB As)
 have Lo:=F21.c l w base (ok_lom F21.F N)
 have RB:=F22.c l w base (ok_rb F22.F Be IC BA Lo)
 have Bg:=F23.c l w base (ok_bag F23.F N)
 have T:=F24.c l w base (ok_take F24.F)
 have Lf:=F25.c l w base (ok_frac F25.F N)
 have LfQ:=F25.c l w base (ok_lf F25.F N)
 have Lu:=F30.c l w base (ok_lpurse F30.F T Lf)
 have Lw:=F31.c l w base (ok_wishes F31.F N T)
 have MkL:=F32.c l w base (ok_market F32.F N T Lu Lw)
 have Lws:=F33.c l w base (ok_lwished F33.F N)
 have Lm:=F27.c l w base (ok_mul F27.F Lf)
 have Pc:=F34.c l w base (ok_prices F34.F N T Lf Lm Lws)
 have LmQ:=F27.c l w base (ok_law_mul F27.F LfQ)
 have La:=F26.c l w base (ok_law_add F26.F LfQ)
 have Su:=F28.c l w base (ok_sum F28.F La)
 have LM:=F37.c l w base (ok_moneyL F37.F Su LmQ)
 have Ld:=F29.c l w base (ok_law_div F29.F LfQ)
 have Lpu:=F38.c l w base (ok_purses F38.F Su)
 have Sc:=F35.c l w base (ok_scaled F35.F N Pc LM Ld Lpu LfQ T LmQ)
 have LB:=F36.c l w base (ok_lbest F36.F N)
 have Se:=F39.c l w base (ok_sets F39.F N)
 have In:=F40.c l w base (ok_ints F40.F N LmQ LfQ)
 have Lle:=F41.c l w base (ok_lleast F41.F N)
 have LR:=F42.c l w base (ok_lrich F42.F N LB In Se Lle)
 exact ok_law F43 N Z Bg T MkL Sc LR RB
theorem walk {l:PySem.W.OpenLaw} {q:Program} {loose:List Str} {XP:(Str→Option Value)→Heap→Prop} {YP:World→Heap→Prop} {d:DefRec} {K:Params→PySem.W.Frag} (hn:l.most=some 63) (hdf:d.params.defaults=[])
  (hY:∀ (w:World) (h:Heap),YP w h→(K w.params).In h)
  (F:∀ (w:World) (mg:Str→Option Value) (fa:Addr) (h:Heap),(K w.params).In h→h.Ns mainGlobals mg→mg d.name=some (.ref fa) →
   ∃ fd:FuncData,(∀ (s:Shared) (u:Value),BindsTo s fd ⟨[u],[]⟩ [("script",u)])∧∀ base:Heap,(K w.params).In base→base.Ns mainGlobals mg→FnOk l.prog w (K w.params) mg base CX0 10 fa fd ["script"] (spLaw (K w.params))) :
  PySem.W.WalkO q loose XP YP l.row.toRowW d [] (fun f vs=>PySem.call f vs) :=
 L2.walk_of (n:=63) (k:=10) (x:="script") (CX:=fun _=>CX0) (sp:=fun w=>spLaw (K w.params)) hn (by decide) hdf ⟨rfl,by decide,by decide⟩ hY F (fun _ _ a ns hl _ hS=>⟨a,ns,rfl,hS,hl,fun _=>rfl⟩) fun _ _ _ _ _ z=>z
end K9
open PySem PySem.W PyProof.Rows
namespace PySem.W.Fast
def tw3878349093766933297:=0
def tw14420895953665260457:=0
def tw7448690810567066888:=0
def tw5217908478968424708:=0
def tw13328616256765317930:=0
def tw16480829302102565337:=0
def tw12268863669271367235:=0
def tw11800395209797932569:=0
def tw9490641762266587511:=0
def tw14624160204514666927:=0
def tw1337310762062379351:=0
def tw5789445206845998364:=0
def tw452874931714387965:=0
def tw7486593383947312895:=0
def tw8796510149272079730:=0
def tw2534267046414517827:=0
def tw161065663634409165:=0
def tw15695908671704966329:=0
def tw16405187733623638806:=0
def tw14252325199104814034:=0
def tw11389996367474364588:=0
def tw13903670890268380032:=0
def tw5687491068768273205:=0
def tw18160892468463558847:=0
def tw11545160716604639775:=0
def tw1913536343302423536:=0
def tw2226949899877126642:=0
def tw840418601430241046:=0
def tw18238547334816080641:=0
def tw15012430069384914532:=0
def tw11047185178162034084:=0
def tw12380708275725268548:=0
def tw5285680638051089495:=0
def tw8545829991059183272:=0
def tw5448443200475292317:=0
def tw10210208022761624595:=0
def tw1095082116343723629:=0
def tw16001639653260967010:=0
def tw1666116895561726210:=0
def tw5742152886233721706:=0
def tw17881622039496878909:=0
def tw10164243230225738830:=0
def tw6950143208920153490:=0
def tw5606254182457132012:=0
def tw10191740183911214407:=0
def tw8271301168744351650:=0
def tw11821514873736213754:=0
def tw15453930636703915373:=0
def tw1043375610744072741:=0
def tw12596483471114748028:=0
def tw10655387451732224421:=0
def tw9383253954875084128:=0
def tw16707102077317613253:=0
def tw13078045052738944441:=0
def tw4421080506841664127:=0
def tw4149242800867027712:=0
def tw11102108613360641439:=0
def tw3851092167310336186:=0
def tw13044923957451529318:=0
def tw2198869210777929505:=0
def tw2764389525611517390:=0
def tw11383654220322140885:=0
def tw5352758399972252418:=0
def tw12898517444585833904:=0
def tw13065847722172092084:=0
def tw14697333050365527168:=0
def tw4298387882331527:=0
def tw4452817304934498557:=0
def tw9114616466671063263:=0
def tw18148594418276557484:=0
def tw2127384317674368692:=0
def tw13119399344131853543:=0
def tw5744579840459052752:=0
def tw17677975034808769389:=0
def tw10373007677074696757:=0
def tw5026798423157624343:=0
def tw8442725628465271099:=0
def tw9884660976907242076:=0
def tw4678701767799950240:=0
def tw13859271136463725946:=0
def tw17424652031675418045:=0
def tw2063921918717239452:=0
def tw2967001321644470858:=0
def tw4464301566217155877:=0
def tw4221803472328431842:=0
def tw9370972204399500052:=0
def tw7229675470971251644:=0
def tw10601109563410098402:=0
def tw5081794195028179171:=0
def tw7026883453385333705:=0
def tw16802915136757566264:=0
def tw11201262575728790788:=0
def tw2236353484086397538:=0
def tw9716306768954306542:=0
def tw16397567775511603616:=0
def tw647055433262229406:=0
def tw9277062018501533509:=0
def tw13439401965598750826:=0
def tw17793982826555045695:=0
def tw7201394356054657499:=0
def tw2467392912641630349:=0
def tw3418960086184472279:=0
def tw468199772530699625:=0
def tw6515660051195025121:=0
def tw7398976168539430810:=0
def tw1920407025716120815:=0
def tw4052103986455147902:=0
def tw13608088772672187030:=0
def tw6590117058149913298:=0
def tw7027744055288601518:=0
def tw9773755022362746293:=0
def tw5735857174461243589:=0
def tw13889897798404276294:=0
def tw17666276073940848389:=0
def tw11200012254627235578:=0
def tw8955797300281756825:=0
def tw10328997640064176636:=0
def tw8556523014948748757:=0
def tw3395838043052448850:=0
def tw6646680313563637137:=0
def tw1974065843079404087:=0
def tw6898918977140999994:=0
def tw17830648945942071121:=0
def tw13917348033009091578:=0
def tw3788277859702099325:=0
def tw12769866558490178621:=0
def tw14298930795582319480:=0
def tw1579107043797819408:=0
def tw9178027489051900772:=0
def tw9881429606198789290:=0
def tw12208558419730787234:=0
def tw12037773574778897600:=0
def tw11579567493646342949:=0
def tw11048385382066257599:=0
def tw3464433360846685013:=0
def tw9228607173131103783:=0
def tw17427667864144355438:=0
def tw837948403894791033:=0
def tw2755334883104903415:=0
def tw6885947111011151395:=0
def tw1552850366568202009:=0
def tw936423827973543277:=0
def tw17902606908381474649:=0
def tw6569126690785222016:=0
def tw15381356889328556269:=0
def tw7005599930503030155:=0
def tw5105973603030468890:=0
def tw10615686636928447077:=0
def tw2644452262781738618:=0
def tw5259503915508857603:=0
def tw6747607017728926970:=0
def tw11164858193424652022:=0
def tw2863070350368257860:=0
def tw11546801865525055591:=0
def tw10873041618216435261:=0
def tw15757735147524631555:=0
def tw6935388045584045942:=0
def tw17148795488566763381:=0
def tw2143866647042538239:=0
def tw12568318289981310724:=0
def tw2717132840711310313:=0
def tw8483736440142075007:=0
def tw7575574098991167906:=0
def tw4905239589650408820:=0
def tw15322281759468756472:=0
def tw12584709947116626931:=0
def tw6627807195340266398:=0
def tw10702215495920940934:=0
end PySem.W.Fast
set_option maxRecDepth 100000 in
set_option maxHeartbeats 0 in
theorem PySem.Challenge.cw_wishmart_k09_buyers_too_rich_holds : PySem.Challenge.rw_wishmart_k09_buyers_too_rich.Holds := by
 w_on; o_law; k_head; (case hw=>w_witness2)
 k_fill
 refine K9.walk (l:=PySem.Challenge.rw_wishmart_k09_buyers_too_rich) rfl rfl (fun w h Y=>PySem.W.kIn_of Y) ?F
 case F =>
  intro w mg fa h KX G hmg
  refine' K9.all_mk KX G hmg ?a0 ?a1 ?a2 ?a3 ?a4 ?a5 ?a6 ?a7 ?a8 ?a9 ?a10 ?a11 ?a12 ?a13 ?a14 ?a15 ?a16 ?a17 ?a18 ?a19 ?a20 ?a21 ?a22 ?a23 ?a24 ?a25 ?a26 ?a27 ?a28 ?a29 ?a30 ?a31 ?a32 ?a33 ?a34 ?a35 ?a36 ?a37 ?a38 ?a39 ?a40 ?a41 ?a42 ?a43 ?z0 ?z1 ?z2 ?z3 ?z4 ?z5 ?z6 ?z7 ?z8 ?z9 ?z10 ?z11 ?z12 ?z13 ?z14 ?yzip ?ysorted ?gM ?gNn ?gPr ?ti1 ?ti2 ?ti3 ?ti4 ?ti5 ?ti6 ?tb1 ?tb2 ?tb3 ?tb4 ?tb5 ?tb6 ?tt1 ?tt2 ?tt3 ?tt4 ?tt5 ?tt6 ?eXNn ?eXPr
  (case a0 | a1 | a2 | a3 | a4 | a5 | a6 | a7 | a8 | a9 | a10 | a11 | a12 | a13 | a14 | a15 | a16 | a17 | a18 | a19 | a20 | a21 | a22 | a23 | a24 | a25 | a26 | a27 | a28 | a29 | a30 | a31 | a32 | a33 | a34 | a35 | a36 | a37 | a38 | a39 | a40 | a41 | a42 | a43=>exact ⟨_,_,_,_,_,_,_,_,_,by k_is,by k_is,by k_is,by k_is⟩)
  (case z0 | z1 | z2 | z3 | z4 | z5 | z6 | z7 | z8 | z9 | z10 | z11 | z12 | z13 | z14 | yzip | ysorted | gM | gNn | gPr=>k_is)
  (case ti1 | ti2 | ti3 | ti4 | ti5 | ti6 | tb1 | tb2 | tb3 | tb4 | tb5 | tb6 | tt1 | tt2 | tt3 | tt4 | tt5 | tt6=>first | rfl | kit_is | k_is)
  (case eXNn | eXPr=>first | k_is | kit_is | rfl | kernel_rfl | decide +kernel)
