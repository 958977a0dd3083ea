import PyProof.Rows.All
import Wide.All
import OpenK.AllK
import Wide.FinOn
import Lean
import PyProof.EqAt
import PyProof.EqKinds
import PyProof.TupleCall
import KE.KMinKey
import PyProof.Rows.CallKwBuiltin
import PyProof.ListRange
import PyProof.Rows.SortWalk
import PySem.Challenge.RW_wishmart_k33_markets_as_texts
set_option Elab.async false
set_option linter.all false
set_option maxRecDepth 100000
set_option maxHeartbeats 8000000
namespace L2
open PySem PySem.Spec PyProof.Rows
abbrev Key:=Sum Int Str
def keyIs:Key→Value→Bool
 | .inl k,v=>Value.isInt k v
 | .inr x,v=>Value.isStrOf x v
def keyH (w:World):Key→Int
 | .inl k=>hashInt k
 | .inr x=>hashStr w x
theorem je1:∀ {k:Key} {v:Value},keyIs k v=true→(∃ i t,k=Sum.inl i∧v=Value.int i t) ∨ (∃ x t,k=Sum.inr x∧v=Value.str x t)
 | .inl i,v,h=>by
  obtain ⟨t,e⟩:=Value.isInt_shape (k:=i) (v:=v) h
  exact .inl ⟨i,t,rfl,e⟩
 | .inr x,v,h=>by
  obtain ⟨t,e⟩:=Value.isStrOf_shape (x:=x) (v:=v) h
  exact .inr ⟨x,t,rfl,e⟩
theorem key_ll (a b:Int):decide ((Sum.inl a:Key)=Sum.inl b)=(a == b):=by
 by_cases e:a=b
 ·subst e; simp
 ·have h:¬ (Sum.inl a:Key)=Sum.inl b:=fun q=>e (Sum.inl.inj q)
  rw [decide_eq_false h]
  exact (beq_eq_false_iff_ne.mpr e).symm
theorem key_rr (a b:Str):decide ((Sum.inr a:Key)=Sum.inr b)=decide (a=b):=by
 by_cases e:a=b
 ·subst e; simp
 ·have h:¬ (Sum.inr a:Key)=Sum.inr b:=fun q=>e (Sum.inr.inj q)
  rw [decide_eq_false h,decide_eq_false e]
theorem key_lr (a:Int) (b:Str):decide ((Sum.inl a:Key)=Sum.inr b)=false:=decide_eq_false (fun q=>nomatch q)
theorem key_rl (a:Str) (b:Int):decide ((Sum.inr a:Key)=Sum.inl b)=false:=decide_eq_false (fun q=>nomatch q)
def mixKind (prog:Program) (w:World):PySem.KeyKind prog w Key where
 is:=keyIs
 hash:=keyH w
 inj:=fun v a b ha hb=>by
  rcases je1 ha with ⟨i,t,rfl,rfl⟩ | ⟨x,t,rfl,rfl⟩
  ·rcases je1 hb with ⟨j,u,rfl,e⟩ | ⟨y,u,rfl,e⟩
   ·injection e with e1 _; rw [e1]
   ·exact nomatch e
  ·rcases je1 hb with ⟨j,u,rfl,e⟩ | ⟨y,u,rfl,e⟩
   ·exact nomatch e
   ·injection e with e1 _; rw [e1]
 byValue:=fun k v h=>by
  rcases je1 h with ⟨i,t,rfl,rfl⟩ | ⟨x,t,rfl,rfl⟩ <;> rfl
 pyHash:=fun hv h=>by
  rcases je1 hv with ⟨i,t,rfl,rfl⟩ | ⟨x,t,rfl,rfl⟩
  ·exact wpAny_pyHash_int h
  ·exact wpAny_pyHash_str h
 eqBool:=fun hu hv h=>by
  rcases je1 hu with ⟨i,t,rfl,rfl⟩ | ⟨x,t,rfl,rfl⟩
  ·rcases je1 hv with ⟨j,u,rfl,rfl⟩ | ⟨y,u,rfl,rfl⟩
   ·rw [key_ll] at h; exact wpAny_eqBool_int h
   ·rw [key_lr] at h; exact SeqAt.EqAt.int_str i t y u _ _ _ _ h
  ·rcases je1 hv with ⟨j,u,rfl,rfl⟩ | ⟨y,u,rfl,rfl⟩
   ·rw [key_rl] at h; exact SeqAt.EqAt.str_int x t j u _ _ _ _ h
   ·rw [key_rr] at h; exact wpAny_eqBool_str h
 «strs»:=fun k x t v h=>by
  rcases je1 h with ⟨i,u,rfl,e⟩ | ⟨y,u,rfl,e⟩
  ·exact nomatch e
  ·injection e with e1 _
   subst e1
   cases v <;> rfl
end L2
namespace L2
open PySem PySem.Spec PyProof.Rows
inductive V where
 | non | bl (b:Bool) | int (i:Int) | str (x:Str) | byt (b:Array UInt8) | flt (b:UInt64) | ref (a:Addr) | ty (n:String)
 deriving DecidableEq
def RelV:V→Value→Prop
 | .non,u=>u=Value.none
 | .bl b,u=>u=Value.bool b
 | .int i,u=>∃ t,u=Value.int i t
 | .str x,u=>∃ t,u=Value.str x t
 | .byt b,u=>∃ t,u=Value.bytes b t
 | .flt b,u=>∃ t,u=Value.float b t
 | .ref a,u=>u=Value.ref a
 | .ty n,u=>u=Value.type n
abbrev Vals:List V→List Value→Prop:=Paired RelV
theorem Vals.length {xs:List V} {us:List Value} (r:Vals xs us):xs.length=us.length:=Paired.length r
theorem Vals.get:∀ {xs:List V} {us:List Value} {i:Nat} {x:V},Vals xs us→xs[i]?=some x→∃ u,us[i]?=some u∧RelV x u
 | _,_,_,_,.nil,e=>by simp at e
 | _,_,0,_,.cons r _,e=>by simp at e; subst e; exact ⟨_,rfl,r⟩
 | _,_,i + 1,x,.cons _ t,e=>by
  obtain ⟨u,h1,h2⟩:=Vals.get (i:=i) (x:=x) t (by simpa using e)
  exact ⟨u,by simpa using h1,h2⟩
theorem Vals.set {x:V} {u:Value} (r:RelV x u):∀ {xs:List V} {us:List Value} (i:Nat),Vals xs us→Vals (xs.set i x) (us.set i u)
 | _,_,_,.nil=>.nil
 | _,_,0,.cons _ t=>.cons r t
 | _,_,i + 1,.cons q t=>.cons q (Vals.set r i t)
theorem Vals.append:∀ {xs ys:List V} {us ws:List Value},Vals xs us→Vals ys ws→Vals (xs ++ ys) (us ++ ws)
 | _,_,_,_,.nil,s=>s
 | _,_,_,_,.cons r t,s=>.cons r (Vals.append t s)
theorem Vals.take:∀ {xs:List V} {us:List Value} (n:Nat),Vals xs us→Vals (xs.take n) (us.take n)
 | _,_,0,_=>.nil
 | _,_,_ + 1,.nil=>.nil
 | _,_,n + 1,.cons r t=>.cons r (Vals.take n t)
theorem Vals.drop:∀ {xs:List V} {us:List Value} (n:Nat),Vals xs us→Vals (xs.drop n) (us.drop n)
 | _,_,0,r=>r
 | _,_,_ + 1,.nil=>.nil
 | _,_,n + 1,.cons _ t=>Vals.drop n t
def RelO:Option V→Option Value→Prop
 | some v,some u=>RelV v u
 | none,none=>True
 | _,_=>False
def KV {κ : Type}:List (κ × V)→List (κ × Value)→Prop:=Paired fun (p:κ × V) (q:κ × Value)=>p.1=q.1∧RelV p.2 q.2
def kV:Key→V
 | .inl i=>.int i
 | .inr x=>.str x
inductive HO where
 | lst (xs:List V)
 | tup (xs:List V)
 | dK (kvs:List (Key × V)) | dT (kvs:List (List Key × V))
 | set (S:Int→Bool) (n:Nat)
 | ins (C dx:Addr) (fs:List (Str × V))
 | own (x:Addr)
 | xd (fs:List (Str × V))
 | met (f x:Addr)
 | rng (lo hi:Int)
 | frz (o:Obj) (u:HO)
 | tbl (ps:Array Value)
 | ext (φ : Heap→Prop)
abbrev Hp:=Addr→Option HO
def upd (H:Hp) (a:Addr) (o:HO):Hp:=fun b=>if b=a then some o else H b
theorem jb1 {H:Hp} {a:Addr} {o:HO}:upd H a o a=some o:=by unfold upd; rw [if_pos rfl]
theorem jb3 {H:Hp} {a b:Addr} {o:HO} (h:b ≠ a):upd H a o b=H b:=by unfold upd; rw [if_neg h]
theorem jd4 {H:Hp} {a b:Addr} {o:HO} (h:H a=some o) (h':H b=none):a ≠ b:=by
 intro e; subst e; rw [h] at h'; cases h'
section
variable (P:Program) (w:World)
def ObjOk (H:Hp) (h:Heap) (a:Addr):HO→Prop
 | .lst xs=>xs.length ≤ sizeLine∧∃ (its:List Value) (n:Nat),Vals xs its∧h.get? a=some { cls:=.type "list",data:=.seq its.toArray n }
 | .tup xs=>xs.length ≤ sizeLine∧∃ its:List Value,Vals xs its∧IsTup h a its.toArray
 | .dK kvs=>kvs.length ≤ sizeLine∧(a == sysModules)=false∧∃ vs,KV kvs vs∧h.DictOf (mixKind P w) a vs
 | .dT kvs=>kvs.length ≤ sizeLine∧(a == sysModules)=false∧∃ xs:List (List Key × Addr × Value),
   Paired (fun (p:List Key × V) (q:List Key × Addr × Value)=>p.1=q.1∧H q.2.1=some (.tup (p.1.map kV))∧RelV p.2 q.2.2) kvs xs ∧
   ∃ o es ep,h.get? a=some o∧o.ExactDict∧o.data=.dict es ep∧es.toList=xs.map (entryOfKey (tupleKind (mixKind P w)))∧(xs.map (·.1)).Nodup
 | .set S n=>h.SetOf (intKind P w) a S n
 | .ins C dx fs=>H dx=some (.own a)∧fs.length ≤ 1000∧dx ≠ a∧h.get? a=some (PySem.W.instObj C dx) ∧
   ∃ mA,h.Ns1 dx mA∧(∀ f,RelO (fs.lookup f) (mA f))∧PySem.Within mA (fs.map (·.1))
 | .own _=>∃ o,h.get? a=some o
 | .xd fs=>∃ mA,h.Ns1 a mA∧∀ f,RelO (fs.lookup f) (mA f)
 | .rng lo hi=>∃ t u v,h.get? a=some { cls:=.type "range",data:=.fields #[.int lo t,.int hi u,.int 1 v] }
 | .frz o u=>h.get? a=some o∧ObjOk H h a u
 | .tbl ps=>h.get? a=some { cls:=.none,data:=.fields ps }
 | .met f x=>h.get? a=some (PySem.W.methodObj (.ref f) (.ref x))
 | .ext φ=>φ h∧(∃ o,h.get? a=some o)∧∀ h1 h2:Heap,φ h1→(∀ o,h1.get? a=some o→h2.get? a=some o)→φ h2
def HOk (H:Hp) (h:Heap):Prop:=∀ a o,H a=some o→ObjOk P w H h a o
end
section
variable {P:Program} {w:World} {H H':Hp} {h h':Heap} {a:Addr} {o:HO}
theorem ObjOk.lt (x:ObjOk P w H h a o):a < h.objs.size:=by
 cases o with
 | lst xs=>obtain ⟨_,_,_,_,e⟩:=x; exact Heap.lt_size e
 | tup xs=>obtain ⟨_,_,_,p⟩:=x; exact p.lt
 | dK kvs=>obtain ⟨_,_,_,_,o,_,_,e,_⟩:=x; exact Heap.lt_size e
 | dT kvs=>obtain ⟨_,_,_,_,o,_,_,e,_⟩:=x; exact Heap.lt_size e
 | set S n=>obtain ⟨o,_,_,_,e,_⟩:=x; exact Heap.lt_size e
 | ins C dx fs=>obtain ⟨_,_,_,e,_⟩:=x; exact Heap.lt_size e
 | own y=>obtain ⟨_,e⟩:=x; exact Heap.lt_size e
 | xd fs=>obtain ⟨_,⟨_,_,_,e,_⟩,_⟩:=x; exact Heap.lt_size e
 | rng lo hi=>obtain ⟨_,_,_,e⟩:=x; exact Heap.lt_size e
 | frz ob u=>obtain ⟨e,_⟩:=x; exact Heap.lt_size e
 | tbl ps=>exact Heap.lt_size (show h.get? a=some _ from x)
 | met f y=>exact Heap.lt_size (show h.get? a=some _ from x)
 | ext φ=>obtain ⟨_,⟨_,e⟩,_⟩:=x; exact Heap.lt_size e
theorem Paired.mapP {α β : Type} {F G:α→β→Prop}:∀ {l₁:List α} {l₂:List β},Paired F l₁ l₂→(∀ a b,F a b→G a b)→Paired G l₁ l₂
 | _,_,.nil,_=>.nil
 | _,_,.cons r t,f=>.cons (f _ _ r) (Paired.mapP t f)
theorem ObjOk.stay (x:ObjOk P w H h a o) (k:∀ b u,(b=a ∨ H b=some (.own a))→h.get? b=some u→h'.get? b=some u)
  (ho:∀ b,H b=some (.own a)→H' b=some (.own a)) (ht:∀ b xs,H b=some (.tup xs)→H' b=some (.tup xs)):ObjOk P w H' h' a o:=by
 induction o with
 | lst xs=>obtain ⟨z,its,n,r,e⟩:=x; exact ⟨z,its,n,r,k _ _ (.inl rfl) e⟩
 | tup xs=>obtain ⟨z,its,r,ob,e,c⟩:=x; exact ⟨z,its,r,ob,k _ _ (.inl rfl) e,c⟩
 | dK kvs=>obtain ⟨z,y,vs,r,ob,es,ep,e,c⟩:=x; exact ⟨z,y,vs,r,ob,es,ep,k _ _ (.inl rfl) e,c⟩
 | dT kvs =>
  obtain ⟨z,y,xs,r,ob,es,ep,e,c⟩:=x
  exact ⟨z,y,xs,Paired.mapP r fun p q z=>⟨z.1,ht _ _ z.2.1,z.2.2⟩,ob,es,ep,k _ _ (.inl rfl) e,c⟩
 | set S n=>obtain ⟨ob,es,ep,t,e,c⟩:=x; exact ⟨ob,es,ep,t,k _ _ (.inl rfl) e,c⟩
 | ins C dx fs =>
  obtain ⟨d,z,ne,e,mA,⟨od,es,ep,e2,c⟩,r⟩:=x
  exact ⟨ho _ d,z,ne,k _ _ (.inl rfl) e,mA,⟨od,es,ep,k _ _ (.inr d) e2,c⟩,r⟩
 | own y=>obtain ⟨ob,e⟩:=x; exact ⟨ob,k _ _ (.inl rfl) e⟩
 | xd fs=>obtain ⟨mA,⟨od,es,ep,e,c⟩,r⟩:=x; exact ⟨mA,⟨od,es,ep,k _ _ (.inl rfl) e,c⟩,r⟩
 | rng lo hi=>obtain ⟨t,u,v,e⟩:=x; exact ⟨t,u,v,k _ _ (.inl rfl) e⟩
 | frz ob u ih=>obtain ⟨e,q⟩:=x; exact ⟨k _ _ (.inl rfl) e,ih q⟩
 | tbl ps =>
  have e:h.get? a=some { cls:=.none,data:=.fields ps }:=x
  show h'.get? a=some { cls:=.none,data:=.fields ps }
  exact k a _ (.inl rfl) e
 | met f y =>
  have e:h.get? a=some (PySem.W.methodObj (.ref f) (.ref y)):=x
  show h'.get? a=some (PySem.W.methodObj (.ref f) (.ref y))
  exact k a _ (.inl rfl) e
 | ext φ=>obtain ⟨p,⟨o,e⟩,st⟩:=x; exact ⟨st _ _ p fun o q=>k _ _ (.inl rfl) q,⟨o,k _ _ (.inl rfl) e⟩,st⟩
theorem HOk.lt (x:HOk P w H h) (e:H a=some o):a < h.objs.size:=(x a o e).lt
theorem HOk.fresh (x:HOk P w H h) (e:h.objs.size ≤ a):H a=none:=by
 cases q:H a with
 | none=>rfl
 | some u=>exact absurd (Nat.lt_of_lt_of_le (x.lt q) e) (Nat.lt_irrefl _)
theorem HOk.kept (x:HOk P w H h) (k:∀ b u,h.get? b=some u→h'.get? b=some u):HOk P w H h':=fun a o e =>
 (x a o e).stay (fun b u _ q=>k b u q) (fun _ q=>q) fun _ _ q=>q
theorem HOk.laid (x:HOk P w H h) (k:∀ b u,h.get? b=some u→h'.get? b=some u) (hp:h.objs.size ≤ a) (new:ObjOk P w (upd H a o) h' a o):HOk P w (upd H a o) h':=fun b u e=>by
 have hn:=x.fresh hp
 by_cases hb:b=a
 ·subst hb; rw [jb1] at e; cases e; exact new
 ·rw [jb3 hb] at e
  exact (x b u e).stay (fun c v _ q=>k c v q) (fun c q=>by rw [jb3 (jd4 q hn)]; exact q) fun c xs q=>by rw [jb3 (jd4 q hn)]; exact q
end
def Rd (H:Hp) (a:Addr) (u:HO):Prop:=H a=some u ∨ ∃ o,H a=some (.frz o u)
theorem Rd.ok {P:Program} {w:World} {H:Hp} {h:Heap} {a:Addr} {u:HO} (r:Rd H a u) (x:HOk P w H h):ObjOk P w H h a u:=by
 rcases r with r | ⟨o,r⟩
 ·exact x a u r
 ·obtain ⟨_,q⟩:=x a _ r
  exact q
def Mut:Option HO→Prop
 | some (.lst _)=>True
 | some (.dK _)=>True
 | some (.dT _)=>True
 | some (.set _ _)=>True
 | some (.ins _ _ _)=>True
 | some (.ext _)=>True
 | _=>False
section
variable {P:Program} {w:World} {H:Hp} {h h':Heap} {x e:Addr} {o':HO}
theorem HOk.write (ok:HOk P w H h) (mu:Mut (H x)) (he:e=x ∨ H e=some (.own x)) (k:∀ b u,b ≠ e→h.get? b=some u→h'.get? b=some u) (heo:∃ u,h'.get? e=some u)
  (new:ObjOk P w (upd H x o') h' x o'):HOk P w (upd H x o') h':=fun b u q=>by
 have nown:∀ c y,H c=some (.own y)→c ≠ x:=fun c y r z=>by subst z; rw [r] at mu; exact mu
 have ntup:∀ c xs,H c=some (.tup xs)→c ≠ x:=fun c xs r z=>by subst z; rw [r] at mu; exact mu
 by_cases hb:b=x
 ·subst hb; rw [jb1] at q; cases q; exact new
 ·rw [jb3 hb] at q
  by_cases hbe:b=e
  ·have q':H b=some (.own x):=by
    rcases he with z | z
    ·exact absurd (hbe.trans z) hb
    ·rw [hbe]; exact z
   rw [q] at q'; cases q'
   obtain ⟨v,hv⟩:=heo
   exact ⟨v,by rw [hbe]; exact hv⟩
  ·refine (ok b u q).stay (fun c v hc r=>k c v ?_ r) (fun c r=>by rw [jb3 (nown c b r)]; exact r) fun c xs r=>by rw [jb3 (ntup c xs r)]; exact r
   rcases hc with rfl | hc
   ·exact hbe
   ·rintro rfl
    rcases he with z | z
    ·exact nown c b hc z
    ·rw [hc] at z; cases z; exact hb rfl
end
structure Un (fs ex:List Addr) (H H':Hp) (h h':Heap):Prop where
 keep:∀ b o,h.get? b=some o→H b=none→b ∉ fs→b ∉ ex→h'.get? b=some o
 slot:∀ b o,h.get? b=some o→H b=none→b ∈ fs→b ∉ ex→∃ sl,h'.get? b=some { o with slots:=sl }
 free:∀ b o,h.get? b=some o→H b=none→b ∉ ex→H' b=none
 there:∀ b o,h.get? b=some o→b ∉ ex→∃ o',h'.get? b=some o'
 tups:∀ b xs,H b=some (.tup xs)→H' b=some (.tup xs)
 frzs:∀ b o u,H b=some (.frz o u)→H' b=some (.frz o u)
 tbls:∀ b ps,H b=some (.tbl ps)→∃ more,H' b=some (.tbl (ps ++ more))
section
variable {fs fs' ex ex':List Addr} {H H1 H2:Hp} {h h1 h2 h':Heap} {a x e:Addr} {o:HO}
theorem Un.any (u:Un fs ex H H1 h h1) {b:Addr} {ob:Obj} (q:h.get? b=some ob) (n:H b=none) (hx:b ∉ ex):∃ sl,h1.get? b=some { ob with slots:=sl }:=by
 by_cases hb:b ∈ fs
 ·exact u.slot b ob q n hb hx
 ·exact ⟨ob.slots,u.keep b ob q n hb hx⟩
theorem Un.kept (k:∀ b u,h.get? b=some u→h'.get? b=some u):Un fs ex H H h h' :=
 ⟨fun b ob q _ _ _=>k b ob q,fun b ob q _ _ _=>⟨ob.slots,k b ob q⟩,fun _ _ _ n _=>n,fun b ob q _=>⟨ob,k b ob q⟩,fun _ _ q=>q,fun _ _ _ q=>q,fun _ ps q=>⟨#[],by rw [q]; simp⟩⟩
theorem Un.refl:Un fs ex H H h h:=Un.kept fun _ _ q=>q
theorem Un.laid (k:∀ b u,h.get? b=some u→h'.get? b=some u) (hp:h.objs.size ≤ a) (hn:H a=none):Un fs ex H (upd H a o) h h' where
 keep:=fun b u q _ _ _=>k b u q
 slot:=fun b u q _ _ _=>⟨u.slots,k b u q⟩
 free:=fun b u q n _=>by rw [jb3 (Nat.ne_of_lt (Nat.lt_of_lt_of_le (Heap.lt_size q) hp))]; exact n
 there:=fun b u q _=>⟨u,k b u q⟩
 tups:=fun b xs q=>by rw [jb3 (jd4 q hn)]; exact q
 frzs:=fun b u xs q=>by rw [jb3 (jd4 q hn)]; exact q
 tbls:=fun b ps q=>⟨#[],by rw [jb3 (jd4 q hn),q]; simp⟩
theorem Un.write (mu:Mut (H x)) (he:e=x ∨ H e=some (.own x)) (k:∀ b u,b ≠ e→h.get? b=some u→h'.get? b=some u) (heo:∃ u,h'.get? e=some u):Un fs ex H (upd H x o) h h':=by
 have hx:∀ b,H b=none→b ≠ x:=fun b n z=>by subst z; rw [n] at mu; exact mu
 have hb:∀ b,H b=none→b ≠ e:=fun b n z=>by
  subst z
  rcases he with r | r
  ·exact hx b n r
  ·rw [n] at r; cases r
 have hm:∀ b u,H b=some u→¬ Mut (some u)→b ≠ x:=fun b u q nm z=>by subst z; rw [q] at mu; exact nm mu
 refine ⟨fun b u q n _ _=>k b u (hb b n) q,fun b u q n _ _=>⟨u.slots,k b u (hb b n) q⟩,fun b u q n _=>by rw [jb3 (hx b n)]; exact n,fun b u q _=>?_,
  fun b xs q=>by rw [jb3 (hm b _ q fun z=>z)]; exact q,fun b u xs q=>by rw [jb3 (hm b _ q fun z=>z)]; exact q,fun b ps q=>⟨#[],by rw [jb3 (hm b _ q fun z=>z),q]; simp⟩⟩
 by_cases hbe:b=e
 ·subst hbe; exact heo
 ·exact ⟨u,k b u hbe q⟩
end
def trk (h:Heap) (H:Hp):List Addr:=(List.range h.objs.size).filter fun a=>(H a).isSome
def hidT (h:Heap) (H:Hp):Heap:=PySem.W.hideAll h (trk h H)
theorem hidT_size (h:Heap) (H:Hp):(hidT h H).objs.size=h.objs.size:=PySem.W.hideAll_size _ _
theorem hidT_get {h:Heap} {H:Hp} {b:Addr} {o:Obj} (e:h.get? b=some o) (n:H b=none):(hidT h H).get? b=some o :=
 PySem.W.hideAll_get _ e fun hm=>by
  have q:(H b).isSome=true:=(List.mem_filter.mp hm).2
  rw [n] at q; simp at q
theorem of_hidT {h:Heap} {H:Hp} {b:Addr} {o:Obj} (e:(hidT h H).get? b=some o):h.get? b=some o∧H b=none:=by
 have e':h.get? b=some o:=PySem.W.of_hideAll (trk h H) e
 refine ⟨e',?_⟩
 cases q:H b with
 | none=>rfl
 | some x =>
  have hm:b ∈ trk h H:=List.mem_filter.mpr ⟨List.mem_range.mpr (Heap.lt_size e'),by simp [q]⟩
  have z:(hidT h H).get? b=none:=PySem.W.hideAll_none (trk h H) hm
  rw [z] at e; cases e
end L2
namespace L2
open PySem PySem.Spec PyProof.Rows
structure Mod (K:PySem.W.Frag) (mg:Str→Option Value) (base:Heap):Prop where
 kin:K.In base
 glob:base.Ns mainGlobals mg
 blt:∃ mb,base.Ns builtinsNs mb∧∀ x:Str,x ≠ "__name__"→mb x=bootBuiltins x
 nolimit:base.NoLimit
structure Cx where
 prog:Program
 w:World
 K:PySem.W.Frag
 mg:Str→Option Value
 base:Heap
 A:Around
 N:List Str
 s₀:Shared
 H₀:Hp
 env:Env
 outer:List Env
 stack:List Env
 ex:List Addr
 fn:Str→Bool
 calm:Bool
 pn:List (Addr × Obj)
 xe:Value→Shared→Prop
def frs (l:List Env):List Addr:=l.filterMap (·.frame)
abbrev Cx.fs (X:Cx):List Addr:=frs X.outer
def Vis (sc:Scope) (x:Str):Prop:=sc.names.lookup x=some .local ∨ sc.names.lookup x=some .cell ∨ sc.names.lookup x=some .free
def Loc (sc:Scope) (x:Str):Prop:=sc.names.lookup x=some .local ∨ sc.names.lookup x=some .cell
def Look (env:Env) (h:Heap) (m:Str→Option Value) (x:Str) (u:Value):Prop :=
 (env.kindOf x=some .local∧m x=some u) ∨ ((env.kindOf x=some .cell ∨ env.kindOf x=some .free)∧∃ c,env.cells.lookup x=some c∧h.IsCell c (some u))
structure Cx.Ok (X:Cx):Prop where
 mod:Mod X.K X.mg X.base
 kind:X.env.scope.kind=.function
 glob:X.env.globals=mainGlobals
 blt:X.env.builtins=builtinsNs
 above:X.s₀.heap.objs.size ≤ X.env.locals
 inj:∀ x y c,X.env.cells.lookup x=some c→X.env.cells.lookup y=some c→x=y
 has:∀ x,(X.env.kindOf x=some .cell ∨ X.env.kindOf x=some .free)→∃ c,X.env.cells.lookup x=some c
 cab:∀ x c,X.fn x=true→X.env.cells.lookup x=some c→X.s₀.heap.objs.size ≤ c
 hd:X.calm=true→X.A.handled=none
 frames:X.A.frames=some X.stack
 stk:X.stack=X.outer ∨ (X.stack=X.env :: X.outer∧X.env.frame=some X.env.locals)
 exf:∀ b ∈ X.ex,b ≠ X.env.locals∧∀ x c,X.env.cells.lookup x=some c→c ≠ b
 bs:∀ b o,X.base.get? b=some o→X.s₀.heap.get? b=some o∧X.H₀ b=none
 bsz:X.base.objs.size ≤ X.s₀.heap.objs.size
 noex:∀ b o,X.base.get? b=some o→b ∉ X.ex
 exfs:∀ b ∈ X.ex,b ∉ X.fs
 funs:X.s₀.heap.FunFrames X.base X.outer
 frf:∀ b ∈ X.fs,X.H₀ b=none
structure Inv (X:Cx) (pins:List (Addr × Obj)) (σ:List (Option V)) (H:Hp) (s:Shared):Prop where
 ok:X.Ok
 os:s.os=X.s₀.os
 bare:AllBare s.gens
 base:Un X.fs X.ex X.H₀ H X.s₀.heap s.heap
 loc:∃ m,s.heap.Ns X.env.locals m∧∀ (i:Nat) (x:Str) (v:V),X.N[i]?=some x→σ[i]?=some (some v)→Vis X.env.scope x→∃ u,RelV v u∧Look X.env s.heap m x u
 cell:∀ x c,X.env.cells.lookup x=some c→∃ v,s.heap.IsCell c v
 free:H X.env.locals=none
 freeC:∀ x c,X.env.cells.lookup x=some c→H c=none
 pin:∀ p ∈ X.pn ++ pins,s.heap.get? p.1=some p.2∧H p.1=none∧p.1 ≠ X.env.locals∧p.1 ∉ X.fs∧∀ v,p.2.data ≠ .cell v
 hok:HOk X.prog X.w H s.heap
 len:σ.length=X.N.length
section
variable {X:Cx} {pins:List (Addr × Obj)} {σ:List (Option V)} {H H':Hp} {s:Shared} {h':Heap}
theorem Cx.Ok.nofr (ok:X.Ok) {b:Addr} {o:Obj} (e:X.base.get? b=some o):b ∉ X.fs:=fun hb=>by
 have:=(ok.funs.mem hb).1
 rw [e] at this; cases this
theorem Inv.bs (I:Inv X pins σ H s):∀ b o,X.base.get? b=some o→s.heap.get? b=some o∧H b=none:=fun b o e =>
 ⟨I.base.keep b o (I.ok.bs b o e).1 (I.ok.bs b o e).2 (I.ok.nofr e) (I.ok.noex b o e),I.base.free b o (I.ok.bs b o e).1 (I.ok.bs b o e).2 (I.ok.noex b o e)⟩
theorem Inv.bk (I:Inv X pins σ H s):∀ b o,X.base.get? b=some o→s.heap.get? b=some o:=fun b o e=>(I.bs b o e).1
theorem Inv.mod (I:Inv X pins σ H s):Mod X.K X.mg X.base:=I.ok.mod
theorem Inv.kIn (I:Inv X pins σ H s):X.K.In s.heap:=I.ok.mod.kin.keeps I.bk
theorem Inv.lt (I:Inv X pins σ H s):X.env.locals < s.heap.objs.size:=let ⟨_,hn,_⟩:=I.loc; hn.lt
theorem Inv.sz (I:Inv X pins σ H s):X.s₀.heap.objs.size ≤ s.heap.objs.size:=Nat.le_trans I.ok.above (Nat.le_of_lt I.lt)
theorem Inv.nofs (I:Inv X pins σ H s) {a:Addr} (h:s.heap.objs.size ≤ a):a ∉ X.fs:=fun hb=>by
 obtain ⟨_,o,ho,_⟩:=I.ok.funs.mem hb
 exact absurd (Nat.lt_of_lt_of_le (Heap.lt_size ho) (Nat.le_trans I.sz h)) (Nat.lt_irrefl _)
theorem Inv.cne (I:Inv X pins σ H s):∀ x c,X.env.cells.lookup x=some c→c ≠ X.env.locals:=fun x c e z=>by
 obtain ⟨v,o,ho,hd⟩:=I.cell x c e
 obtain ⟨m,⟨o',es,ep,ho',hd',_⟩,_⟩:=I.loc
 rw [z,ho'] at ho; cases ho; rw [hd'] at hd; cases hd
theorem Inv.funs (I:Inv X pins σ H s):s.heap.FunFrames X.base X.outer:=by
 have all:∀ (l:List Env),(∀ b ∈ frs l,b ∈ X.fs)→X.s₀.heap.FunFrames X.base l→s.heap.FunFrames X.base l:=by
  intro l
  induction l with
  | nil=>intro _ _; trivial
  | cons env r ih =>
   intro hs hl
   obtain ⟨hk,⟨L,o,hf,hn,ho,hd⟩,hr⟩:=hl
   have hL:L ∈ X.fs:=hs L (by unfold frs; rw [List.filterMap_cons,hf]; exact List.mem_cons_self)
   obtain ⟨sl,e⟩:=I.base.slot L o ho (I.ok.frf L hL) hL fun z=>I.ok.exfs L z hL
   exact ⟨hk,⟨L,_,hf,hn,e,hd⟩,ih (fun b hb=>hs b (by unfold frs; rw [List.filterMap_cons,hf]; exact List.mem_cons_of_mem _ hb)) hr⟩
 exact all X.outer (fun _ hb=>hb) I.ok.funs
theorem Inv.stack (I:Inv X pins σ H s):s.heap.FunFrames X.base X.stack:=by
 rcases I.ok.stk with e | ⟨e,hf⟩
 ·rw [e]; exact I.funs
 ·rw [e]
  obtain ⟨m,hn,_⟩:=I.loc
  refine .cons (by rw [I.ok.kind]; decide) hf hn ?_ I.funs
  exact Heap.get?_none_of_le (Nat.le_trans I.ok.bsz I.ok.above)
theorem Inv.stkSub (I:Inv X pins σ H s):∀ b ∈ frs X.stack,b ∈ X.env.locals :: X.fs:=fun b hb=>by
 rcases I.ok.stk with e | ⟨e,hf⟩
 ·rw [e] at hb; exact List.mem_cons_of_mem _ hb
 ·rw [e] at hb
  unfold frs at hb
  rw [List.filterMap_cons,hf] at hb
  exact hb
theorem Inv.stkFree (I:Inv X pins σ H s):∀ b ∈ frs X.stack,H b=none:=fun b hb=>by
 rcases List.mem_cons.mp (I.stkSub b hb) with e | hb
 ·rw [e]; exact I.free
 ·obtain ⟨_,o,ho,_⟩:=I.ok.funs.mem hb
  exact I.base.free b o ho (I.ok.frf b hb) fun z=>I.ok.exfs b z hb
theorem Inv.step {g':Array GenState} {t':Nat} {d':Drawn} {ch:List Addr} (I:Inv X pins σ H s)
  (hch:∀ b ∈ ch,(b ∈ X.ex ∨ X.s₀.heap.objs.size ≤ b)∧b ≠ X.env.locals∧(∀ x c,X.env.cells.lookup x=some c→c ≠ b)∧∀ p ∈ X.pn ++ pins,p.1 ≠ b)
  (keep:∀ b o,b ≠ X.env.locals→b ∉ X.fs→b ∉ ch→s.heap.get? b=some o→H b=none→h'.get? b=some o)
  (slot:∀ b o,b ≠ X.env.locals→b ∈ X.fs→b ∉ ch→s.heap.get? b=some o→H b=none→∃ sl,h'.get? b=some { o with slots:=sl }) (free:∀ b o,b ∉ ch→s.heap.get? b=some o→H b=none→H' b=none)
  (there:∀ b o,b ∉ ch→s.heap.get? b=some o→∃ o',h'.get? b=some o')
  (tups:∀ b xs,H b=some (.tup xs)→H' b=some (.tup xs)) (frzs:∀ b o u,H b=some (.frz o u)→H' b=some (.frz o u)) (tbls:∀ b ps,H b=some (.tbl ps)→∃ more,H' b=some (.tbl (ps ++ more)))
  (ns:∀ m,s.heap.Ns X.env.locals m→h'.Ns X.env.locals m) (hok:HOk X.prog X.w H' h') (hg:AllBare g') :
  Inv X pins σ H' { s with heap:=h',gens:=g',drawn:=d',toks:=t' }:=by
 have neL:∀ b o,X.s₀.heap.get? b=some o→b ≠ X.env.locals:=fun b o e=>Nat.ne_of_lt (Nat.lt_of_lt_of_le (Heap.lt_size e) I.ok.above)
 have neC:∀ b o,X.s₀.heap.get? b=some o→b ∉ X.ex→b ∉ ch:=fun b o e hx hb=>by
  rcases (hch b hb).1 with z | z
  ·exact hx z
  ·exact absurd (Nat.lt_of_lt_of_le (Heap.lt_size e) z) (Nat.lt_irrefl _)
 have cellK:∀ x c,X.env.cells.lookup x=some c→∀ v,s.heap.IsCell c v→h'.IsCell c v:=fun x c e v ⟨o,ho,hd⟩=>by
  have nch:c ∉ ch:=fun z=>(hch c z).2.2.1 x c e rfl
  by_cases hc:c ∈ X.fs
  ·obtain ⟨sl,q⟩:=slot c o (I.cne x c e) hc nch ho (I.freeC x c e)
   exact ⟨_,q,hd⟩
  ·exact ⟨o,keep c o (I.cne x c e) hc nch ho (I.freeC x c e),hd⟩
 refine ⟨I.ok,I.os,hg,⟨fun b o e n hb hx=>?_,fun b o e n hb hx=>?_,fun b o e n hx=>?_,fun b o e hx=>?_,fun b xs e=>tups b xs (I.base.tups b xs e),fun b o xs e=>frzs b o xs (I.base.frzs b o xs e),fun b ps e=>?_⟩,?_,fun x c e=>?_,?_,fun x c e=>?_,fun p hp=>?_,hok,I.len⟩
 ·exact keep b o (neL b o e) hb (neC b o e hx) (I.base.keep b o e n hb hx) (I.base.free b o e n hx)
 ·obtain ⟨sl,e1⟩:=I.base.slot b o e n hb hx
  obtain ⟨sl',e2⟩:=slot b _ (neL b o e) hb (neC b o e hx) e1 (I.base.free b o e n hx)
  exact ⟨sl',e2⟩
 ·obtain ⟨o',e1⟩:=I.base.there b o e hx
  exact free b o' (neC b o e hx) e1 (I.base.free b o e n hx)
 ·obtain ⟨o',e1⟩:=I.base.there b o e hx
  exact there b o' (neC b o e hx) e1
 ·obtain ⟨m1,e1⟩:=I.base.tbls b ps e
  obtain ⟨m2,e2⟩:=tbls b _ e1
  exact ⟨m1 ++ m2,by rw [e2,Array.append_assoc]⟩
 ·obtain ⟨m,hn,hl⟩:=I.loc
  refine ⟨m,ns m hn,fun i x v e1 e2 e3=>?_⟩
  obtain ⟨u,r,l⟩:=hl i x v e1 e2 e3
  refine ⟨u,r,?_⟩
  rcases l with l | ⟨k,c,e,z⟩
  ·exact .inl l
  ·exact .inr ⟨k,c,e,cellK x c e _ z⟩
 ·obtain ⟨v,z⟩:=I.cell x c e
  exact ⟨v,cellK x c e v z⟩
 ·obtain ⟨m,⟨o,_,_,ho,_⟩,_⟩:=I.loc
  exact free _ o (fun z=>(hch _ z).2.1 rfl) ho I.free
 ·obtain ⟨v,o,ho,hd⟩:=I.cell x c e
  exact free c o (fun z=>(hch c z).2.2.1 x c e rfl) ho (I.freeC x c e)
 ·obtain ⟨e,n,ne,nf,d⟩:=I.pin p hp
  have nch:p.1 ∉ ch:=fun z=>(hch p.1 z).2.2.2 p hp rfl
  exact ⟨keep p.1 p.2 ne nf nch e n,free p.1 p.2 nch e n,ne,nf,d⟩
theorem Inv.un {t':Nat} (I:Inv X pins σ H s) (u:Un X.fs [] H H' s.heap h') (hok:HOk X.prog X.w H' h'):Inv X pins σ H' { s with heap:=h',toks:=t' }:=by
 obtain ⟨m,⟨o,es,ep,ho,r⟩,_⟩:=id I.loc
 obtain ⟨sl,hL⟩:=u.any ho I.free (by simp)
 exact I.step (g':=s.gens) (d':=s.drawn) (ch:=[]) (fun _ z=>nomatch z) (fun b o _ hb _ e n=>u.keep b o e n hb (by simp)) (fun b o _ hb _ e n=>u.slot b o e n hb (by simp)) (fun b o _ e n=>u.free b o e n (by simp)) (fun b o _ e=>u.there b o e (by simp)) u.tups u.frzs u.tbls (fun m' hm=>by
  obtain ⟨o',es',ep',ho',r'⟩:=hm
  rw [ho] at ho'; cases ho'
  exact ⟨_,es',ep',hL,r'⟩) hok I.bare
theorem Inv.call {g':Array GenState} {t':Nat} {d':Drawn} {ch:List Addr} (I:Inv X pins σ H s) (u:Un (frs X.stack) ch H H' s.heap h') (hok:HOk X.prog X.w H' h') (hg:AllBare g')
  (hch:∀ b ∈ ch,(b ∈ X.ex ∨ X.s₀.heap.objs.size ≤ b)∧b ≠ X.env.locals∧(∀ x c,X.env.cells.lookup x=some c→c ≠ b)∧∀ p ∈ X.pn ++ pins,p.1 ≠ b) :
  Inv X pins σ H' { s with heap:=h',gens:=g',drawn:=d',toks:=t' }:=by
 obtain ⟨m,⟨o,es,ep,ho,r⟩,_⟩:=id I.loc
 obtain ⟨sl,hL⟩:=u.any ho I.free fun z=>(hch _ z).2.1 rfl
 exact I.step (ch:=ch) hch (fun b o hL hb hc e n=>u.keep b o e n (fun z=>(List.mem_cons.mp (I.stkSub b z)).elim hL hb) hc) (fun b o _ _ hc e n=>u.any e n hc) (fun b o hc e n=>u.free b o e n hc) (fun b o hc e=>u.there b o e hc) u.tups u.frzs u.tbls (fun m' hm=>by
  obtain ⟨o',es',ep',ho',r'⟩:=hm
  rw [ho] at ho'; cases ho'
  exact ⟨_,es',ep',hL,r'⟩) hok hg
theorem Inv.turned {t':Nat} {it:Addr} (I:Inv X pins σ H s) (k:∀ b o,b ≠ it→s.heap.get? b=some o→h'.get? b=some o) (hn:H it=none) (hL:it ≠ X.env.locals)
  (h1:it ∈ X.ex ∨ X.s₀.heap.objs.size ≤ it) (h2:∀ x c,X.env.cells.lookup x=some c→c ≠ it) (h3:∀ p ∈ X.pn ++ pins,p.1 ≠ it):Inv X pins σ H { s with heap:=h',toks:=t' }:=by
 have nit:∀ b u,H b=some u→b ≠ it:=fun b u e z=>by rw [z,hn] at e; cases e
 refine I.step (g':=s.gens) (d':=s.drawn) (ch:=[it]) (fun b hb=>?_) (fun b o _ _ hc e _=>k b o (fun z=>hc (by simp [z])) e) (fun b o _ _ hc e _=>⟨o.slots,k b o (fun z=>hc (by simp [z])) e⟩) (fun _ _ _ _ n=>n)
  (fun b o hc e=>⟨o,k b o (fun z=>hc (by simp [z])) e⟩) (fun _ _ e=>e) (fun _ _ _ e=>e) (fun b ps e=>⟨#[],by rw [e]; simp⟩) (fun m hm=>?_) (fun b u e=>?_) I.bare
 ·have e:b=it:=by simpa using hb
  subst e
  exact ⟨h1,hL,h2,h3⟩
 ·obtain ⟨o,es,ep,ho,r⟩:=hm
  exact ⟨o,es,ep,k _ o (Ne.symm hL) ho,r⟩
 ·refine (I.hok b u e).stay (fun c v hc q=>k c v ?_ q) (fun _ q=>q) fun _ _ q=>q
  rcases hc with z | z
  ·rw [z]; exact nit b u e
  ·exact nit c _ z
theorem Inv.tok (I:Inv X pins σ H s) (t:Nat):Inv X pins σ H { s with toks:=t }:=I.un (h':=s.heap) (t':=t) Un.refl I.hok
theorem Inv.kept {t':Nat} (I:Inv X pins σ H s) (k:∀ b u,s.heap.get? b=some u→h'.get? b=some u):Inv X pins σ H { s with heap:=h',toks:=t' }:=I.un (Un.kept k) (I.hok.kept k)
theorem Inv.laid {a:Addr} {o:HO} {t':Nat} (I:Inv X pins σ H s) (k:∀ b u,s.heap.get? b=some u→h'.get? b=some u) (hp:s.heap.objs.size ≤ a) (new:ObjOk X.prog X.w (upd H a o) h' a o) :
  Inv X pins σ (upd H a o) { s with heap:=h',toks:=t' }:=I.un (Un.laid k hp (I.hok.fresh hp)) (I.hok.laid k hp new)
theorem Inv.write {x e:Addr} {o:HO} {t':Nat} (I:Inv X pins σ H s) (mu:Mut (H x)) (he:e=x ∨ H e=some (.own x)) (k:∀ b u,b ≠ e→s.heap.get? b=some u→h'.get? b=some u) (heo:∃ u,h'.get? e=some u)
  (new:ObjOk X.prog X.w (upd H x o) h' x o):Inv X pins σ (upd H x o) { s with heap:=h',toks:=t' }:=I.un (Un.write mu he k heo) (I.hok.write mu he k heo new)
theorem Inv.pins_of {pins':List (Addr × Obj)} (I:Inv X pins σ H s) (h:∀ p ∈ pins',s.heap.get? p.1=some p.2∧H p.1=none∧p.1 ≠ X.env.locals∧p.1 ∉ X.fs∧∀ v,p.2.data ≠ .cell v):Inv X pins' σ H s :=
 ⟨I.ok,I.os,I.bare,I.base,I.loc,I.cell,I.free,I.freeC,fun p hp=>(List.mem_append.mp hp).elim (fun z=>I.pin p (List.mem_append_left _ z)) (h p),I.hok,I.len⟩
theorem nodup_ix {N:List Str} (hN:N.Nodup) {i j:Nat} {x:Str} (a:N[i]?=some x) (b:N[j]?=some x):i=j:=by
 obtain ⟨h1,e1⟩:=List.getElem?_eq_some_iff.mp a
 obtain ⟨h2,e2⟩:=List.getElem?_eq_some_iff.mp b
 exact (List.getElem_inj hN).mp (e1.trans e2.symm)
theorem store_ok2 {M:Model} {A:Around} {E:Value→Shared→Prop} {i:Nat} {x:Str} {v:V} {u:Value} {Q:Unit→Shared→Prop} (I:Inv X pins σ H s) (hN:X.N.Nodup) (hi:X.N[i]?=some x) (hx:Loc X.env.scope x) (r:RelV v u)
  (h:∀ s',Inv X pins (σ.set i (some v)) H s'→(∃ a,Heap.SameBut a s.heap s'.heap∧(a=X.env.locals ∨ X.env.cells.lookup x=some a))→Q () s') (hf:X.fn x=true ∨ X.env.scope.names.lookup x=some .local:=by first | exact .inl rfl | exact .inr rfl | assumption):wpAny M A (storeName X.env x u) Q E s:=by
 obtain ⟨m,hn,hl⟩:=id I.loc
 have hcls:(X.env.scope.kind == .class || (X.env.scope.kind == .module && X.env.locals != X.env.globals))=false:=by rw [I.ok.kind]; rfl
 have hiσ:i < σ.length:=by rw [I.len]; exact (List.getElem?_eq_some_iff.mp hi).1
 have cne:=I.cne
 have tracked:∀ {a:Addr} {h':Heap},(∃ o,s.heap.get? a=some o∧H a=none)→Heap.SameBut a s.heap h'→HOk X.prog X.w H h':=fun {a h'} ha hs b ob e=>by
  obtain ⟨_,_,hfree⟩:=ha
  refine (I.hok b ob e).stay (fun c w' hc q=>(hs.2 c ?_).trans q) (fun _ q=>q) fun _ _ q=>q
  rintro rfl
  rcases hc with rfl | hc
  ·rw [hfree] at e; cases e
  ·rw [hfree] at hc; cases hc
 rcases hx with hk | hk
 ·refine wpAny_storeName_local hk hn (fun h' hn' hs=>?_) hcls
  obtain ⟨oL,_,_,hoL,_⟩:=id hn
  refine h _ ⟨I.ok,I.os,I.bare,⟨fun b o e n hb hx=>?_,fun b o e n hb hx=>?_,I.base.free,fun b o e hx=>?_,I.base.tups,I.base.frzs,I.base.tbls⟩,⟨_,hn',fun j y v' e1 e2 e3=>?_⟩,fun y c e=>?_,I.free,I.freeC,fun p hp=>?_,tracked ⟨oL,hoL,I.free⟩ hs,by simpa using I.len⟩ ⟨_,hs,.inl rfl⟩
  ·exact (hs.2 b (Nat.ne_of_lt (Nat.lt_of_lt_of_le (Heap.lt_size e) I.ok.above))).trans (I.base.keep b o e n hb hx)
  ·obtain ⟨sl,e1⟩:=I.base.slot b o e n hb hx
   exact ⟨sl,(hs.2 b (Nat.ne_of_lt (Nat.lt_of_lt_of_le (Heap.lt_size e) I.ok.above))).trans e1⟩
  ·obtain ⟨o',e1⟩:=I.base.there b o e hx
   exact ⟨o',(hs.2 b (Nat.ne_of_lt (Nat.lt_of_lt_of_le (Heap.lt_size e) I.ok.above))).trans e1⟩
  ·by_cases hj:j=i
   ·subst hj
    rw [hi] at e1; cases e1
    rw [List.getElem?_set_self hiσ] at e2
    cases e2
    exact ⟨u,r,.inl ⟨hk,by simp⟩⟩
   ·rw [List.getElem?_set_ne (Ne.symm hj)] at e2
    obtain ⟨u',r',q⟩:=hl j y v' e1 e2 e3
    refine ⟨u',r',?_⟩
    rcases q with ⟨k,e⟩ | ⟨k,c,e,z⟩
    ·refine .inl ⟨k,?_⟩
     have:y ≠ x:=fun e=>hj (nodup_ix hN e1 (e ▸ hi))
     simp [this,e]
    ·exact .inr ⟨k,c,e,z.sameBut hs (cne y c e)⟩
  ·obtain ⟨w',z⟩:=I.cell y c e
   exact ⟨w',z.sameBut hs (cne y c e)⟩
  ·obtain ⟨e,n,ne,nf,d⟩:=I.pin p hp
   exact ⟨(hs.2 p.1 ne).trans e,n,ne,nf,d⟩
 ·have hfn:X.fn x=true:=by
   rcases hf with z | z
   ·exact z
   ·rw [z] at hk; cases hk
  obtain ⟨c,hc⟩:=I.ok.has x (.inl hk)
  obtain ⟨w',z⟩:=I.cell x c hc
  refine wpAny_storeName_cell I.ok.kind hk hc z (fun h' hc' hs=>?_)
  obtain ⟨oc,hoc,hocd⟩:=id z
  refine h { s with heap:=h' } ⟨I.ok,I.os,I.bare,⟨fun b o e n hb hx=>?_,fun b o e n hb hx=>?_,I.base.free,fun b o e hx=>?_,I.base.tups,I.base.frzs,I.base.tbls⟩,⟨m,hn.sameBut hs (Ne.symm (cne x c hc)),fun j y v' e1 e2 e3=>?_⟩,fun y c' e=>?_,I.free,I.freeC,fun p hp=>?_,tracked ⟨oc,hoc,I.freeC x c hc⟩ hs,by simpa using I.len⟩ ⟨c,hs,.inr hc⟩
  ·exact (hs.2 b (Nat.ne_of_lt (Nat.lt_of_lt_of_le (Heap.lt_size e) (I.ok.cab x c hfn hc)))).trans (I.base.keep b o e n hb hx)
  ·obtain ⟨sl,e1⟩:=I.base.slot b o e n hb hx
   exact ⟨sl,(hs.2 b (Nat.ne_of_lt (Nat.lt_of_lt_of_le (Heap.lt_size e) (I.ok.cab x c hfn hc)))).trans e1⟩
  ·obtain ⟨o',e1⟩:=I.base.there b o e hx
   exact ⟨o',(hs.2 b (Nat.ne_of_lt (Nat.lt_of_lt_of_le (Heap.lt_size e) (I.ok.cab x c hfn hc)))).trans e1⟩
  ·by_cases hj:j=i
   ·subst hj
    rw [hi] at e1; cases e1
    rw [List.getElem?_set_self hiσ] at e2
    cases e2
    exact ⟨u,r,.inr ⟨.inl hk,c,hc,hc'⟩⟩
   ·rw [List.getElem?_set_ne (Ne.symm hj)] at e2
    obtain ⟨u',r',q⟩:=hl j y v' e1 e2 e3
    refine ⟨u',r',?_⟩
    rcases q with q | ⟨k,c',e,z'⟩
    ·exact .inl q
    ·refine .inr ⟨k,c',e,z'.sameBut hs ?_⟩
     rintro rfl
     exact hj (nodup_ix hN e1 (I.ok.inj _ _ _ e hc ▸ hi))
  ·by_cases hcc:c'=c
   ·subst hcc; exact ⟨_,hc'⟩
   ·obtain ⟨w2,z2⟩:=I.cell y c' e
    exact ⟨w2,z2.sameBut hs hcc⟩
  ·obtain ⟨e,n,ne,nf,d⟩:=I.pin p hp
   refine ⟨(hs.2 p.1 ?_).trans e,n,ne,nf,d⟩
   intro q
   rw [q,hoc] at e
   have q':oc=p.2:=Option.some.inj e
   exact d w' (by rw [← q']; exact hocd)
theorem store_ok {M:Model} {A:Around} {E:Value→Shared→Prop} {i:Nat} {x:Str} {v:V} {u:Value} {Q:Unit→Shared→Prop} (I:Inv X pins σ H s) (hN:X.N.Nodup) (hi:X.N[i]?=some x) (hx:Loc X.env.scope x) (r:RelV v u)
  (h:∀ s',Inv X pins (σ.set i (some v)) H s'→Q () s') (hf:X.fn x=true ∨ X.env.scope.names.lookup x=some .local:=by first | exact .inl rfl | exact .inr rfl | assumption):wpAny M A (storeName X.env x u) Q E s :=
 store_ok2 I hN hi hx r (fun s' I' _=>h s' I') hf
theorem Inv.call' {s':Shared} {ch:List Addr} (I:Inv X pins σ H s) (ho:s'.os=s.os) (u:Un (frs X.stack) ch H H' s.heap s'.heap) (hok:HOk X.prog X.w H' s'.heap) (hg:AllBare s'.gens)
  (hch:∀ b ∈ ch,(b ∈ X.ex ∨ X.s₀.heap.objs.size ≤ b)∧b ≠ X.env.locals∧(∀ x c,X.env.cells.lookup x=some c→c ≠ b)∧∀ p ∈ X.pn ++ pins,p.1 ≠ b):Inv X pins σ H' s':=by
 obtain ⟨h',g',d',t',o'⟩:=s'
 have e:o'=s.os:=ho
 subst e
 exact I.call (g':=g') (t':=t') (d':=d') u hok hg hch
end
abbrev XK:=Value→Option Addr→Hp→Prop
abbrev St:=List (Option V)
abbrev VK:=V→Hp→Prop
abbrev TE:=St→Hp→VK→Prop
abbrev TT:=St→Hp→(Bool→Hp→Prop)→Prop
abbrev TA:=St→Hp→(List V→Hp→Prop)→Prop
structure Ends where
 nx:St→Hp→Prop
 rt:VK
 bk:St→Hp→Prop:=fun _ _=>False
 ct:St→Hp→Prop:=fun _ _=>False
abbrev TS:=Ends→St→Hp→Prop
def EP (X:Cx) (pins:List (Addr × Obj)) (σ:St) (Q:VK) (u:Value) (s':Shared):Prop:=∃ v H',Inv X pins σ H' s'∧RelV v u∧Q v H'
def TP (X:Cx) (pins:List (Addr × Obj)) (σ:St) (Q:Bool→Hp→Prop) (b:Bool) (s':Shared):Prop:=∃ H',Inv X pins σ H' s'∧Q b H'
def AP (X:Cx) (pins:List (Addr × Obj)) (σ:St) (Q:List V→Hp→Prop) (us:List Value) (s':Shared):Prop:=∃ vs H',Inv X pins σ H' s'∧Vals vs us∧Q vs H'
def SP (X:Cx) (pins:List (Addr × Obj)) (D:Ends) (f:Flow) (s':Shared):Prop :=
 match f with
 | .next=>∃ σ' H',Inv X pins σ' H' s'∧D.nx σ' H'
 | .brk=>∃ σ' H',Inv X pins σ' H' s'∧D.bk σ' H'
 | .cont=>∃ σ' H',Inv X pins σ' H' s'∧D.ct σ' H'
 | .ret u=>∃ v σ' H',Inv X pins σ' H' s'∧RelV v u∧D.rt v H'
def PE (X:Cx) (e:Expr) (t:TE):Prop :=
 ∀ (pins:List (Addr × Obj)) (s:Shared) (σ:St) (H:Hp) (Q:VK),Inv X pins σ H s→t σ H Q→wpAny (model X.prog X.w) X.A (eval e X.env) (EP X pins σ Q) X.xe s
def PT (X:Cx) (e:Expr) (t:TT):Prop :=
 ∀ (pins:List (Addr × Obj)) (s:Shared) (σ:St) (H:Hp) (Q:Bool→Hp→Prop),Inv X pins σ H s→t σ H Q→wpAny (model X.prog X.w) X.A (isTrue e X.env (eval e X.env)) (TP X pins σ Q) X.xe s
def PW (X:Cx) (e:Expr) (t:TT):Prop :=
 ∀ (whole:Sem Value) (pins:List (Addr × Obj)) (s:Shared) (σ:St) (H:Hp) (Q:Bool→Hp→Prop),Inv X pins σ H s→t σ H Q→wpAny (model X.prog X.w) X.A (isTrue e X.env whole) (TP X pins σ Q) X.xe s
theorem PW.pt {X:Cx} {e:Expr} {t:TT} (h:PW X e t):PT X e t:=h _
def PA (X:Cx) (es:List Expr) (t:TA):Prop :=
 ∀ (pos:Pos) (pins:List (Addr × Obj)) (s:Shared) (σ:St) (H:Hp) (Q:List V→Hp→Prop),Inv X pins σ H s→t σ H Q→wpAny (model X.prog X.w) X.A (spliced (backTo pos (starEach es X.env))) (AP X pins σ Q) X.xe s
def PS (X:Cx) (st:Stmt) (t:TS):Prop :=
 ∀ (pins:List (Addr × Obj)) (s:Shared) (σ:St) (H:Hp) (D:Ends),Inv X pins σ H s→t D σ H→wpAny (model X.prog X.w) X.A (exec st X.env) (SP X pins D) X.xe s
def PSs (X:Cx) (st:List Stmt) (t:TS):Prop :=
 ∀ (pins:List (Addr × Obj)) (s:Shared) (σ:St) (H:Hp) (D:Ends),Inv X pins σ H s→t D σ H→wpAny (model X.prog X.w) X.A (execs st X.env) (SP X pins D) X.xe s
theorem thn {α : Type} {t:Sem α} {Q Q':α→Shared→Prop} {M:Model} {A:Around} {E:Value→Shared→Prop} {s:Shared} (h:wpAny M A t Q E s) (hQ:∀ a s,Q a s→Q' a s):wpAny M A t Q' E s:=wpAny_mono h hQ fun _ _ x=>x
end L2
namespace L2
open PySem PySem.Spec PyProof.Rows
section
variable {X:Cx}
def tVar (i:Nat):TE:=fun σ H Q=>∃ v,σ[i]?=some (some v)∧Q v H
def tC (v:V):TE:=fun _ H Q=>Q v H
theorem pe_var {i:Nat} {x:Str} {pos:Pos} (hN:X.N[i]?=some x) (hv:Vis X.env.scope x) (hd:(x == ("__debug__" : Str))=false:=by decide) (hcd:(x == ("__classdict__" : Str))=false:=by decide):PE X (.Name x pos) (tVar i):=by
 intro pins s σ H Q I h
 obtain ⟨v,e,h⟩:=h
 obtain ⟨m,hn,hl⟩:=I.loc
 obtain ⟨u,r,l⟩:=hl i x v hN e hv
 have fin:EP X pins σ Q u s:=⟨v,H,I,r,h⟩
 rcases l with ⟨hk,hm⟩ | ⟨hk,c,hc,hcell⟩
 ·exact wpAny_Name (wpAny_loadName_local I.ok.kind hk hn hm fin) hd
 ·rcases hk with hk | hk
  ·exact wpAny_Name (wpAny_loadName_cell I.ok.kind hk hc hcell fin) hd
  ·exact wpAny_Name (wpAny_loadName_free I.ok.kind hk hc hcell fin hcd) hd
theorem ja5 {i j pos}:PE X (.Constant (.int i) j pos) (tC (.int i)):=fun _ _ _ H _ I h=>wpAny_Constant_int ⟨.int i,H,I.tok _,⟨_,rfl⟩,h⟩
theorem pe_bl {b j pos}:PE X (.Constant (.bool b) j pos) (tC (.bl b)):=fun _ _ _ H _ I h=>Constant_bool ⟨.bl b,H,I,rfl,h⟩
theorem pe_non {j pos}:PE X (.Constant .none j pos) (tC .non):=fun _ _ _ H _ I h=>Constant_none ⟨.non,H,I,rfl,h⟩
theorem pe_str {x j pos}:PE X (.Constant (.str x) j pos) (tC (.str x)):=fun _ _ _ H _ I h=>Calls.Constant_str ⟨.str x,H,I.tok _,⟨_,rfl⟩,h⟩
def Gl (X:Cx) (x:Str):Prop:=X.env.kindOf x=some .globalImplicit
theorem ld_glob {E:Value→Shared→Prop} {pins:List (Addr × Obj)} {s:Shared} {σ:St} {H:Hp} {x:Str} {u:Value} {pos:Pos} {Q:Value→Shared→Prop} (I:Inv X pins σ H s) (hg:Gl X x) (hm:X.mg x=some u) (h:Q u s)
  (hd:(x == ("__debug__" : Str))=false:=by decide):wpAny (model X.prog X.w) X.A (eval (.Name x pos) X.env) Q E s :=
 Calls.Name_function_global I.ok.kind hg (Calls.loadGlobal_global (by rw [I.ok.glob]; exact I.mod.glob.keeps I.bk) hm h) hd
theorem ld_blt {E:Value→Shared→Prop} {pins:List (Addr × Obj)} {s:Shared} {σ:St} {H:Hp} {x:Str} {u:Value} {pos:Pos} {Q:Value→Shared→Prop} (I:Inv X pins σ H s) (hg:Gl X x) (hm:X.mg x=none) (hv:bootBuiltins x=some u) (h:Q u s)
  (hn:x ≠ "__name__":=by decide) (hd:(x == ("__debug__" : Str))=false:=by decide):wpAny (model X.prog X.w) X.A (eval (.Name x pos) X.env) Q E s:=by
 obtain ⟨mb,h1,h2⟩:=I.mod.blt
 exact Calls.Name_function_global I.ok.kind hg (Calls.loadGlobal_builtin (by rw [I.ok.glob]; exact I.mod.glob.keeps I.bk) hm (by rw [I.ok.blt]; exact h1.keeps I.bk) ((h2 x hn).trans hv) h) hd
theorem pe_glob {x:Str} {v:V} {u:Value} {pos:Pos} (hg:Gl X x) (hm:X.mg x=some u) (r:RelV v u) (hd:(x == ("__debug__" : Str))=false:=by decide):PE X (.Name x pos) (tC v) :=
 fun _ _ _ H _ I h=>ld_glob I hg hm ⟨v,H,I,r,h⟩ hd
variable {a b:Expr} {ta tb:TE} {pos:Pos}
def tB (t:TE):TT:=fun σ H Q=>t σ H fun x H1=>∃ c,x=.bl c∧Q c H1
theorem jh3 {e:Expr} {t:TE} (h:PE X e t) (he:∀ whole,isTrue e X.env whole=(do let v ← whole; standAt e.pos; holding [v] (truthy v)):=by intro _; rfl):PT X e (tB t):=by
 intro pins s σ H Q I hw
 refine isTrue_plain (thn (h pins s σ H _ I hw) fun v s1 ⟨x,H1,I1,r1,q1⟩=>?_) (he _)
 obtain ⟨d,rfl,q⟩:=q1
 cases r1
 exact wpAny_truthy_bool ⟨H1,I1,q⟩
variable {tA tB':TT} {rest:List Expr}
def tAnd (t u:TT):TT:=fun σ H Q=>t σ H fun c H1=>if c=true then u σ H1 Q else Q false H1
def tOr (t u:TT):TT:=fun σ H Q=>t σ H fun c H1=>if c=true then Q true H1 else u σ H1 Q
def tNot (t:TT):TT:=fun σ H Q=>t σ H fun c H1=>Q (!c) H1
theorem pw_and1 (ha:PT X a tA):PW X (.BoolOp .And [a] pos) tA:=by
 intro wh pins s σ H Q I h
 refine isTrue_and (thn (ha pins s σ H Q I h) fun c s1 e=>?_)
 cases c with
 | true=>exact isTrue_and_nil e
 | false=>exact e
theorem pw_or1 (ha:PT X a tA):PW X (.BoolOp .Or [a] pos) tA:=by
 intro wh pins s σ H Q I h
 refine isTrue_or (thn (ha pins s σ H Q I h) fun c s1 e=>?_)
 cases c with
 | false=>exact isTrue_or_nil e
 | true=>exact e
theorem pw_and (ha:PT X a tA) (hb:PW X (.BoolOp .And (b :: rest) pos) tB'):PW X (.BoolOp .And (a :: b :: rest) pos) (tAnd tA tB'):=by
 intro wh pins s σ H Q I h
 refine isTrue_and (thn (ha pins s σ H _ I h) fun c s1 ⟨H1,I1,q1⟩=>?_)
 cases c with
 | true=>exact hb wh pins s1 σ H1 Q I1 q1
 | false=>exact ⟨H1,I1,q1⟩
theorem pw_or (ha:PT X a tA) (hb:PW X (.BoolOp .Or (b :: rest) pos) tB'):PW X (.BoolOp .Or (a :: b :: rest) pos) (tOr tA tB'):=by
 intro wh pins s σ H Q I h
 refine isTrue_or (thn (ha pins s σ H _ I h) fun c s1 ⟨H1,I1,q1⟩=>?_)
 cases c with
 | true=>exact ⟨H1,I1,q1⟩
 | false=>exact hb wh pins s1 σ H1 Q I1 q1
theorem jg7 (ha:PT X a tA):PT X (.UnaryOp .Not a pos) (tNot tA):=by
 intro pins s σ H Q I h
 exact isTrue_not (ha pins s σ H (fun c H1=>Q (!c) H1) I h)
def tAndV (ta tb:TE):TE:=fun σ H Q=>ta σ H fun x H1=>∃ c,x=.bl c∧if c=true then tb σ H1 Q else Q (.bl false) H1
def tNotV (ta:TE):TE:=fun σ H Q=>ta σ H fun x H1=>∃ c,x=.bl c∧Q (.bl (!c)) H1
theorem pe_one {op} {t:TE} (h:PE X a t):PE X (.BoolOp op [a] pos) t:=fun pins s σ H Q I hw=>BoolOp_one (h pins s σ H Q I hw)
theorem pe_and (ha:PE X a ta) (hb:PE X (.BoolOp .And (b :: rest) pos) tb):PE X (.BoolOp .And (a :: b :: rest) pos) (tAndV ta tb):=by
 intro pins s σ H Q I h
 refine BoolOp_and (thn (ha pins s σ H _ I h) fun v s1 ⟨x,H1,I1,r1,q1⟩=>?_)
 obtain ⟨c,rfl,q1⟩:=q1
 cases r1
 refine wpAny_truthy_bool ?_
 cases c with
 | true=>exact hb pins s1 σ H1 Q I1 q1
 | false=>exact ⟨.bl false,H1,I1,rfl,q1⟩
theorem pe_not (ha:PE X a ta):PE X (.UnaryOp .Not a pos) (tNotV ta):=by
 intro pins s σ H Q I h
 refine UnaryOp_ (thn (ha pins s σ H _ I h) fun v s1 ⟨x,H1,I1,r1,q1⟩=>?_)
 obtain ⟨c,rfl,q1⟩:=q1
 cases r1
 exact not_of (wpAny_truthy_bool ⟨.bl (!c),H1,I1,rfl,q1⟩)
def tIf (t:TT) (ta tb:TE):TE:=fun σ H Q=>t σ H fun c H1=>if c=true then ta σ H1 Q else tb σ H1 Q
theorem pe_ifExp {c:Expr} (hc:PT X c tA) (ha:PE X a ta) (hb:PE X b tb):PE X (.IfExp c a b pos) (tIf tA ta tb):=by
 intro pins s σ H Q I h
 refine wpAny_IfExp (thn (hc pins s σ H _ I h) fun d s1 ⟨H1,I1,q1⟩=>?_)
 cases d with
 | true=>exact ha pins s1 σ H1 Q I1 q1
 | false=>exact hb pins s1 σ H1 Q I1 q1
end
end L2
namespace L2
open PySem PySem.Spec PyProof.Rows
def SqL (K:PySem.W.Frag) (H:Hp) (a:Addr) (xs:List V):Prop :=
 Rd H a (.lst xs) ∨
  ∃ (o:Obj) (its:Array Value) (n:Nat),K.lookup a=some o∧o.cls=.type "list"∧o.dict=none∧o.data=.seq its n∧its.size ≤ sizeLine∧Vals xs its.toList
def SqT (K:PySem.W.Frag) (H:Hp) (a:Addr) (xs:List V):Prop :=
 Rd H a (.tup xs) ∨
  ∃ (o:Obj) (its:Array Value) (n:Nat),K.lookup a=some o∧o.cls=.type "tuple"∧o.data=.seq its n∧its.size ≤ sizeLine∧Vals xs its.toList
def absV:Value→Option V
 | .none=>some .non
 | .bool b=>some (.bl b)
 | .int i _=>some (.int i)
 | .str x _=>some (.str x)
 | .bytes b _=>some (.byt b)
 | .float b _=>some (.flt b)
 | .ref a=>some (.ref a)
 | .type n=>some (.ty n)
 | _=>none
theorem RelV.abs {x:V} {u:Value} (r:RelV x u):absV u=some x:=by
 cases x with
 | non=>cases r; rfl
 | bl _=>cases r; rfl
 | int _=>obtain ⟨t,rfl⟩:=r; rfl
 | str _=>obtain ⟨t,rfl⟩:=r; rfl
 | byt _=>obtain ⟨t,rfl⟩:=r; rfl
 | flt _=>obtain ⟨t,rfl⟩:=r; rfl
 | ref _=>cases r; rfl
 | ty _=>cases r; rfl
theorem RelV.inj {x y:V} {u:Value} (r:RelV x u) (q:RelV y u):x=y:=Option.some.inj (r.abs.symm.trans q.abs)
theorem Vals.inj:∀ {xs ys:List V} {us:List Value},Vals xs us→Vals ys us→xs=ys
 | _,_,_,.nil,.nil=>rfl
 | _,_,_,.cons r t,.cons r' t'=>by rw [r.inj r',Vals.inj t t']
section
variable {X:Cx} {pins:List (Addr × Obj)} {σ:St} {H:Hp} {s:Shared} {a:Addr} {xs ys:List V}
theorem SqL.of {K:PySem.W.Frag} (h:H a=some (.lst xs)):SqL K H a xs:=.inl (.inl h)
theorem SqT.of {K:PySem.W.Frag} (h:H a=some (.tup xs)):SqT K H a xs:=.inl (.inl h)
theorem Inv.list (I:Inv X pins σ H s) (h:SqL X.K H a xs):∃ its:List Value,Vals xs its∧PlainL s.heap a its.toArray∧xs.length ≤ sizeLine:=by
 rcases h with h | ⟨o,its,n,hk,hc,hd,hs,hz,r⟩
 ·obtain ⟨z,its,n,r,e⟩:=h.ok I.hok
  exact ⟨its,r,⟨_,n,e,rfl,rfl,rfl⟩,z⟩
 ·refine ⟨its.toList,r,⟨o,n,I.kIn a o hk,hc,hd,by simpa using hs⟩,?_⟩
  have e:=r.length
  simp only [Array.length_toList] at e
  omega
theorem Inv.tuple (I:Inv X pins σ H s) (h:SqT X.K H a xs):∃ its:List Value,Vals xs its∧IsTup s.heap a its.toArray∧xs.length ≤ sizeLine:=by
 rcases h with h | ⟨o,its,n,hk,hc,hs,hz,r⟩
 ·obtain ⟨z,its,r,p⟩:=h.ok I.hok
  exact ⟨its,r,p,z⟩
 ·refine ⟨its.toList,r,⟨o,I.kIn a o hk,hc,n,by simpa using hs⟩,?_⟩
  have e:=r.length
  simp only [Array.length_toList] at e
  omega
theorem Inv.list_inj (I:Inv X pins σ H s) (h:SqL X.K H a xs) (h':SqL X.K H a ys):xs=ys:=by
 obtain ⟨its,r,⟨o,n,e,_,_,d⟩,_⟩:=I.list h
 obtain ⟨its',r',⟨o',n',e',_,_,d'⟩,_⟩:=I.list h'
 rw [e] at e'; cases e'
 rw [d] at d'
 injection d' with d1 _
 have:its=its':=by simpa using congrArg Array.toList d1
 subst this
 exact r.inj r'
theorem Inv.tuple_inj (I:Inv X pins σ H s) (h:SqT X.K H a xs) (h':SqT X.K H a ys):xs=ys:=by
 obtain ⟨its,r,⟨o,e,_,n,d⟩,_⟩:=I.tuple h
 obtain ⟨its',r',⟨o',e',_,n',d'⟩,_⟩:=I.tuple h'
 rw [e] at e'; cases e'
 rw [d] at d'
 injection d' with d1 _
 have:its=its':=by simpa using congrArg Array.toList d1
 subst this
 exact r.inj r'
end
abbrev Cx.wish (X:Cx) (E:Value→Shared→Prop):Cx:={ X with xe:=E }
abbrev Cx.nox (X:Cx):Cx:=X.wish fun _ _=>False
theorem Cx.Ok.wish {X:Cx} (ok:X.Ok) (E:Value→Shared→Prop):(X.wish E).Ok :=
 ⟨ok.mod,ok.kind,ok.glob,ok.blt,ok.above,ok.inj,ok.has,ok.cab,ok.hd,ok.frames,ok.stk,ok.exf,ok.bs,ok.bsz,ok.noex,ok.exfs,ok.funs,ok.frf⟩
theorem Cx.Ok.unwish {X:Cx} {E:Value→Shared→Prop} (ok:(X.wish E).Ok):X.Ok :=
 ⟨ok.mod,ok.kind,ok.glob,ok.blt,ok.above,ok.inj,ok.has,ok.cab,ok.hd,ok.frames,ok.stk,ok.exf,ok.bs,ok.bsz,ok.noex,ok.exfs,ok.funs,ok.frf⟩
section
variable {X:Cx} {pins:List (Addr × Obj)} {σ:St} {H:Hp} {s:Shared} {E:Value→Shared→Prop}
theorem Inv.wish (I:Inv X pins σ H s) (E:Value→Shared→Prop):Inv (X.wish E) pins σ H s:=⟨I.ok.wish E,I.os,I.bare,I.base,I.loc,I.cell,I.free,I.freeC,I.pin,I.hok,I.len⟩
theorem Inv.unwish (I:Inv (X.wish E) pins σ H s):Inv X pins σ H s:=⟨I.ok.unwish,I.os,I.bare,I.base,I.loc,I.cell,I.free,I.freeC,I.pin,I.hok,I.len⟩
theorem SP.unwish {D:Ends} {f:Flow} {s':Shared} (h:SP (X.wish E) pins D f s'):SP X pins D f s':=by
 cases f with
 | next=>obtain ⟨σ',H',I,q⟩:=h; exact ⟨σ',H',I.unwish,q⟩
 | brk=>obtain ⟨σ',H',I,q⟩:=h; exact ⟨σ',H',I.unwish,q⟩
 | cont=>obtain ⟨σ',H',I,q⟩:=h; exact ⟨σ',H',I.unwish,q⟩
 | ret u=>obtain ⟨v,σ',H',I,r,q⟩:=h; exact ⟨v,σ',H',I.unwish,r,q⟩
theorem PSs.nox {st:List Stmt} {t:TS} (h:PSs X.nox st t):PSs X st t:=fun pins s σ H D I hw =>
 wpAny_mono (h pins s σ H D (I.wish _) hw) (fun _ _ q=>q.unwish) fun _ _ z=>False.elim z
end
section
variable {X:Cx} {st:Stmt} {rest:List Stmt} {t u:TS} {e:Expr} {te:TE} {pos:Pos}
def tNext:TS:=fun D σ H=>D.nx σ H
def tSeq (t u:TS):TS:=fun D σ H=>t { D with nx:=u D } σ H
theorem je5:PSs X [] tNext:=fun _ _ σ H _ I h=>wpAny_execs_nil ⟨σ,H,I,h⟩
theorem jb0 (h1:PS X st t) (h2:PSs X rest u):PSs X (st :: rest) (tSeq t u):=by
 intro pins s σ H D I h
 refine wpAny_execs_cons (thn (h1 pins s σ H { D with nx:=u D } I h) fun f s1 q=>?_)
 cases f with
 | next =>
  obtain ⟨σ',H',I',q⟩:=q
  exact h2 pins s1 σ' H' D I' q
 | ret v=>exact q
 | brk=>exact q
 | cont=>exact q
theorem jb5 (h1:PS X st t):PSs X [st] t:=by
 intro pins s σ H D I h
 refine wpAny_execs_cons (thn (h1 pins s σ H D I h) fun f s1 q=>?_)
 cases f with
 | next=>exact wpAny_execs_nil q
 | ret v=>exact q
 | brk=>exact q
 | cont=>exact q
theorem Inv.quiet {pins:List (Addr × Obj)} {σ:St} {H:Hp} {s:Shared} (I:Inv X pins σ H s):interactive X.env=false:=by simp [interactive,I.ok.kind]
def tDrop (te:TE):TS:=fun D σ H=>te σ H fun _ H1=>D.nx σ H1
theorem ps_expr (he:PE X e te) (hs:swapsWith e none pos.line X.env=pure false:=by rfl):PS X (.Expr e pos) (tDrop te):=by
 intro pins s σ H D I h
 exact wpAny_Expr_any (thn (he pins s σ H _ I h) fun v s1 ⟨x,H1,I1,r1,q1⟩=>⟨σ,H1,I1,q1⟩) I.quiet hs
def tRet (te:TE):TS:=fun D σ H=>te σ H D.rt
theorem jc9 (he:PE X e te):PS X (.Return (some e) pos) (tRet te):=by
 intro pins s σ H D I h
 exact wpAny_Return_some (thn (he pins s σ H _ I h) fun v s1 ⟨x,H1,I1,r1,q1⟩=>⟨x,σ,H1,I1,r1,q1⟩)
def tIfS (c:TT) (t u:TS):TS:=fun D σ H=>c σ H fun b H1=>if b=true then t D σ H1 else u D σ H1
theorem ps_if {c:Expr} {a b:List Stmt} {tc:TT} (hc:PT X c tc) (ha:PSs X a t) (hb:PSs X b u):PS X (.If c a b pos) (tIfS tc t u):=by
 intro pins s σ H D I h
 refine wpAny_If (thn (hc pins s σ H _ I h) fun d s1 ⟨H1,I1,q1⟩=>?_)
 cases d with
 | true=>exact ha pins s1 σ H1 D I1 q1
 | false=>exact hb pins s1 σ H1 D I1 q1
end
abbrev TG:=V→St→Hp→(St→Hp→Prop)→Prop
abbrev TGs:=List V→St→Hp→(St→Hp→Prop)→Prop
def PG (X:Cx) (target:Expr) (t:TG):Prop :=
 ∀ (pins:List (Addr × Obj)) (s:Shared) (σ:St) (H:Hp) (v:V) (u:Value) (Q:St→Hp→Prop),Inv X pins σ H s→RelV v u→t v σ H Q →
  wpAny (model X.prog X.w) X.A (assign target X.env u) (fun _ s'=>∃ σ' H',Inv X pins σ' H' s'∧Q σ' H') X.xe s
def PGs (X:Cx) (ts:List Expr) (t:TGs):Prop :=
 ∀ (pins:List (Addr × Obj)) (s:Shared) (σ:St) (H:Hp) (vs:List V) (us:List Value) (Q:St→Hp→Prop),Inv X pins σ H s→Vals vs us→t vs σ H Q →
  wpAny (model X.prog X.w) X.A (assignInOrder ((assignEach ts X.env).map (·.2)) us) (fun _ s'=>∃ σ' H',Inv X pins σ' H' s'∧Q σ' H') X.xe s
abbrev TSet:=V→V→V→Hp→(Hp→Prop)→Prop
def PSet (X:Cx) (t:TSet):Prop :=
 ∀ (pins:List (Addr × Obj)) (s:Shared) (σ:St) (H:Hp) (o i v:V) (ov iv u:Value) (Q:Hp→Prop),Inv X pins σ H s→RelV o ov→RelV i iv→RelV v u→t o i v H Q →
  wpAny (model X.prog X.w) X.A (setItem ov iv u) (fun _ s'=>∃ H',Inv X pins σ H' s'∧Q H') X.xe s
section
variable {X:Cx} {pos:Pos}
def gName (i:Nat):TG:=fun v σ H Q=>Q (σ.set i (some v)) H
theorem jb2 {i:Nat} {x:Str} (hN:X.N.Nodup) (hi:X.N[i]?=some x) (hx:Loc X.env.scope x) (hf:X.fn x=true ∨ X.env.scope.names.lookup x=some .local:=by first | exact .inl rfl | exact .inr rfl | assumption):PG X (.Name x pos) (gName i):=by
 intro pins s σ H v u Q I r h
 exact wpAny_assign_Name (store_ok I hN hi hx r (fun s' I'=>⟨_,H,I',h⟩) hf)
def gNil:TGs:=fun vs σ H Q=>vs=[]∧Q σ H
def gCons (t:TG) (u:TGs):TGs:=fun vs σ H Q=>∃ v r,vs=v :: r∧t v σ H fun σ' H'=>u r σ' H' Q
theorem pgs_nil:PGs X [] gNil:=by
 intro pins s σ H vs us Q I r h
 obtain ⟨e,h⟩:=h
 subst e
 cases r
 exact assignInOrder_nil ⟨σ,H,I,h⟩
theorem jg8 {e:Expr} {es:List Expr} {t:TG} {u:TGs} (h1:PG X e t) (h2:PGs X es u)
  (hs:(assignEach (e :: es) X.env).map (·.2)=assign e X.env :: (assignEach es X.env).map (·.2):=by rfl):PGs X (e :: es) (gCons t u):=by
 intro pins s σ H vs us Q I r h
 obtain ⟨v,vr,e1,h⟩:=h
 subst e1
 cases r with
 | cons r rr =>
  rw [hs]
  refine assignInOrder_cons (thn (h1 pins s σ H _ _ _ I r h) fun _ s1 ⟨σ1,H1,I1,q1⟩=>?_)
  exact h2 pins s1 σ1 H1 _ _ Q I1 rr q1
def gTup (K:PySem.W.Frag) (n:Nat) (t:TGs):TG:=fun v σ H Q=>∃ a xs,v=.ref a∧SqT K H a xs∧xs.length=n∧t xs σ H Q
theorem pg_tup {es:List Expr} {k:Nat} {t:TGs} {n:Nat} (hc:X.calm=true) (h:PGs X es t)
  (hn:(assignEach es X.env).length=n:=by rfl) (hst:(assignEach es X.env).findIdx? (·.1)=none:=by rfl):PG X (.Tuple es k pos) (gTup X.K n t):=by
 intro pins s σ H v u Q I r hw
 obtain ⟨a,xs,e1,hq,hl,hw⟩:=hw
 subst e1
 cases r
 obtain ⟨its,rv,ht,hz⟩:=I.tuple hq
 refine assign_Tuple_tuple (I.ok.hd hc) ht (by simp [hn,← hl,rv.length]) hst fun h' hx=>?_
 have I1:Inv X pins σ H { s with heap:=h' }:=I.kept (t':=s.toks) fun b o e=>hx b o (Nat.ne_of_lt (Heap.lt_size e)) e
 exact h pins _ σ H xs _ Q I1 (by simpa using rv) hw
def gSub (to ti:TE) (t:TSet):TG:=fun v σ H Q=>to σ H fun o H1=>ti σ H1 fun i H2=>t o i v H2 fun H3=>Q σ H3
theorem pg_sub {o i:Expr} {to ti:TE} {t:TSet} (ho:PE X o to) (hi:PE X i ti) (hs:PSet X t)
  (ha:∀ v,assign (.Subscript o i pos) X.env v=(do
   let ov ← holding [v] (eval o X.env)
   let iv ← holding [v,ov] (eval i X.env)
   standAt pos
   holding [v,ov,iv] (setItem ov iv v)
   release [v,ov,iv] []):=by intro _; rfl):PG X (.Subscript o i pos) (gSub to ti t):=by
 intro pins s σ H v u Q I r h
 rw [ha]
 refine wpAny_bind (wpAny_holding (thn (ho pins s σ H _ I h) fun ov s1 ⟨x,H1,I1,r1,q1⟩=>?_))
 refine wpAny_bind (wpAny_holding (thn (hi pins s1 σ H1 _ I1 q1) fun iv s2 ⟨y,H2,I2,r2,q2⟩=>?_))
 refine wpAny_bind (wpAny_standAt (wpAny_bind (wpAny_holding (thn (hs pins s2 σ H2 x y v ov iv u _ I2 r1 r2 r q2) fun _ s3 ⟨H3,I3,q3⟩=>?_))))
 exact wpAny_release ⟨σ,H3,I3,q3⟩
def tAsg (te:TE) (g:TG):TS:=fun D σ H=>te σ H fun x H1=>g x σ H1 D.nx
theorem ps_asg {tg e:Expr} {te:TE} {g:TG} (he:PE X e te) (hg:PG X tg g) (hs:swapsWithSole [tg] e pos.line X.env=pure false:=by rfl) (hw:swappedStores [tg] e X.env=pure none:=by rfl)
  (h1:(assignEach [tg] X.env).map (·.2)=[assign tg X.env]:=by rfl):PS X (.Assign [tg] e pos) (tAsg te g):=by
 intro pins s σ H D I h
 refine wpAny_Assign_stores (thn (he pins s σ H _ I h) fun v s1 ⟨x,H1,I1,r1,q1⟩=>?_) hs hw
 rw [h1]
 exact thn (hg pins s1 σ H1 x v _ I1 r1 q1) fun _ s2 q=>q
theorem je4 {i:Nat} {x:Str} {e:Expr} {te:TE} {pos':Pos} (hN:X.N.Nodup) (hi:X.N[i]?=some x) (hx:Loc X.env.scope x) (he:PE X e te) (hs:swapsWith e (some (.Name x pos')) pos.line X.env=pure false:=by rfl) (hf:X.fn x=true ∨ X.env.scope.names.lookup x=some .local:=by first | exact .inl rfl | exact .inr rfl | assumption) :
  PS X (.Assign [.Name x pos'] e pos) (tAsg te (gName i)):=by
 intro pins s σ H D I h
 refine wpAny_Assign_Name (thn (he pins s σ H _ I h) fun v s1 ⟨y,H1,I1,r1,q1⟩=>?_) hs
 exact store_ok I1 hN hi hx r1 (fun s2 I2=>⟨_,H1,I2,q1⟩) hf
def tPar (i j:Nat) (ta:TA):TS:=fun D σ H=>ta σ H fun vs H1=>∃ v w,vs=[v,w]∧D.nx ((σ.set i (some v)).set j (some w)) H1
theorem ps_par {i j:Nat} {x y:Str} {a b:Expr} {ta:TA} {px py pt:Pos} {kt k2 pt2} (hc:X.calm=true) (hN:X.N.Nodup) (hi:X.N[i]?=some x) (hj:X.N[j]?=some y) (hij:i ≠ j)
  (hx:X.env.scope.names.lookup x=some .local) (hy:X.env.scope.names.lookup y=some .local) (ha:PA X [a,b] ta)
  (hw:swappedStores [.Tuple [.Name x px,.Name y py] kt pt] (.Tuple [a,b] k2 pt2) X.env=pure (some [x,y]))
  (hs:swapsWithSole [.Tuple [.Name x px,.Name y py] kt pt] (.Tuple [a,b] k2 pt2) pos.line X.env=pure false:=by rfl) :
  PS X (.Assign [.Tuple [.Name x px,.Name y py] kt pt] (.Tuple [a,b] k2 pt2) pos) (tPar i j ta):=by
 intro pins s σ H D I h
 rw [exec_Assign_arm]
 refine wpAny_bind (wpAny_standAt ?_)
 rw [hs]
 refine wpAny_bind (wpAny_pure ?_)
 rw [if_neg (by decide)]
 refine wpAny_bind (Tuple_ (thn (ha _ pins s σ H _ I h) fun us s1 ⟨vs,H1,I1,r1,q1⟩=>?_))
 obtain ⟨v,w,e1,q1⟩:=q1
 subst e1
 obtain ⟨u1,u2,rfl,rv,rw'⟩:∃ u1 u2,us=[u1,u2]∧RelV v u1∧RelV w u2:=by
  cases r1 with
  | cons p q =>
   cases q with
   | cons p' q' =>
    cases q'
    exact ⟨_,_,rfl,p,p'⟩
 refine wpAny_newObj_type ?_ (by show 2 ≤ sizeLine; decide)
 have I2:Inv X pins σ H1 { s1 with heap:=s1.heap.push { cls:=.type "tuple",data:=.seq [u1,u2].toArray } }:=I1.kept (t':=s1.toks) fun b o e=>Heap.get?_push_of_some _ e
 rw [hw]
 refine wpAny_bind (wpAny_pure ?_)
 show wpAny (model X.prog X.w) X.A (do rule "assign.swapped-stores"; let items ← unpackItems (.ref s1.heap.objs.size) 2 none; assignInOrder [fun v=>bindName X.env y v,fun v=>bindName X.env x v] items.reverse; pure Flow.next) _ _ _
 refine wpAny_bind (wpAny_rule (wpAny_bind (unpackItems_tuple (items:=#[u1,u2]) (I.ok.hd hc) (IsTup.new s1.heap _) fun h' hx'=>?_)))
 have I3:=I2.kept (h':=h') (t':=s1.toks) fun b o e=>hx' b o (Nat.ne_of_lt (Heap.lt_size e)) e
 show wpAny _ _ (assignInOrder [fun v=>bindName X.env y v,fun v=>bindName X.env x v] [u2,u1] >>= fun _=>pure Flow.next) _ _ _
 refine wpAny_bind (assignInOrder_cons (wpAny_bindName (store_ok I3 hN hj (.inl hy) rw' (fun s2 I4=>?_) (.inr hy))))
 refine assignInOrder_cons (wpAny_bindName (store_ok I4 hN hi (.inl hx) rv (fun s3 I5=>assignInOrder_nil (wpAny_pure ?_)) (.inr hx)))
 rw [List.set_comm _ _ (Ne.symm hij)] at I5
 exact ⟨_,H1,I5,q1⟩
end
section
variable {X:Cx} {pos:Pos}
def tWhile (c:TT) (tb:TS):TS:=fun D σ H=>∃ W:Nat→St→Hp→Prop,(∃ m,W m σ H)∧∀ m σ H,W m σ H →
 c σ H fun b H1=>if b=true then ∃ N:St→Hp→Prop,(∀ σ' H',N σ' H'→∃ m',m' < m∧W m' σ' H')∧tb { D with nx:=N,ct:=N,bk:=D.nx } σ H1 else D.nx σ H1
theorem ps_while {c:Expr} {body:List Stmt} {tc:TT} {tb:TS} (hp:PassesOwn (model X.prog X.w) X.A X.env X.xe) (hc:PT X c tc) (hb:PSs X body tb):PS X (.While c body [] pos) (tWhile tc tb):=by
 intro pins s σ H D I h
 obtain ⟨W,⟨m0,w0⟩,turn⟩:=h
 refine wpAny_While (codeAny_whileLoop (fun n s'=>∃ σ' H',Inv X pins σ' H' s'∧W n σ' H') ?_ m0 ⟨σ,H,I,w0⟩)
 rintro n s1 ⟨σ1,H1,I1,w1⟩
 refine wpAny_passesOwn hp (thn (hc pins s1 σ1 H1 _ I1 (turn n σ1 H1 w1)) fun b s2 ⟨H2,I2,q2⟩=>?_)
 cases b with
 | true =>
  obtain ⟨N,hN,q2⟩:=q2
  rw [if_pos rfl]
  refine wpAny_passesOwn hp (thn (hb pins s2 σ1 H2 _ I2 q2) fun f s3 q3=>?_)
  cases f with
  | next =>
   obtain ⟨σ3,H3,I3,n3⟩:=q3
   obtain ⟨m',hm,w3⟩:=hN σ3 H3 n3
   exact ⟨m',hm,σ3,H3,I3,w3⟩
  | cont =>
   obtain ⟨σ3,H3,I3,n3⟩:=q3
   obtain ⟨m',hm,w3⟩:=hN σ3 H3 n3
   exact ⟨m',hm,σ3,H3,I3,w3⟩
  | brk=>exact q3
  | ret v=>exact q3
 | false =>
  rw [if_neg Bool.false_ne_true]
  exact wpAny_execs_nil ⟨σ1,H2,I2,q2⟩
end
structure It where
 go:Nat→Hp→Prop
 yld:Nat→Hp→V→Hp→Prop
 stop:Nat→Hp→Prop
def FpOk (X:Cx) (pins:List (Addr × Obj)) (H:Hp) (b:Addr):Prop :=
 H b=none∧b ≠ X.env.locals∧b ∉ X.fs∧(b ∈ X.ex ∨ X.s₀.heap.objs.size ≤ b)∧(∀ x c,X.env.cells.lookup x=some c→c ≠ b)∧∀ p ∈ X.pn ++ pins,p.1 ≠ b
theorem Inv.fpOk {X:Cx} {pins:List (Addr × Obj)} {σ:St} {H H':Hp} {s:Shared} {b:Addr} (I:Inv X pins σ H s) (hb:s.heap.objs.size ≤ b) (hn:H' b=none):FpOk X pins H' b:=by
 refine ⟨hn,Nat.ne_of_gt (Nat.lt_of_lt_of_le I.lt hb),I.nofs hb,.inr (Nat.le_trans I.sz hb),fun x c e z=>?_,fun p hp z=>?_⟩
 ·obtain ⟨v,q⟩:=I.cell x c e
  exact absurd (Nat.lt_of_lt_of_le q.lt (by rw [z]; exact hb)) (Nat.lt_irrefl _)
 ·exact absurd (Nat.lt_of_lt_of_le (Heap.lt_size (I.pin p hp).1) (by rw [z]; exact hb)) (Nat.lt_irrefl _)
structure Turn (P:Program) (w:World) (K:PySem.W.Frag) (tg:Expr) (J:It) (fp:List Addr) (it:Addr) (tn:Nat→Heap→Prop):Prop where
 mem:it ∈ fp
 obj:∀ i h,tn i h→∀ b ∈ fp,∃ o,h.get? b=some o∧∀ v,o.data ≠ .cell v
 keep:∀ i h h',tn i h→(∀ b ∈ fp,∀ o,h.get? b=some o→h'.get? b=some o)→tn i h'
 item:∀ (X:Cx),X.prog=P→X.w=w→X.K=K→X.calm=true→∀ (i:Nat) (pins:List (Addr × Obj)) (s:Shared) (σ:St) (H:Hp) (E:Value→Shared→Prop),Inv X pins σ H s→(∀ b ∈ fp,FpOk X pins H b)→tn i s.heap→J.go i H →
  wpAny (model P w) X.A (pyNext (.ref it)) (fun r s1=>∃ u,r=some u ∧
   wpAny (model P w) X.A (letOwnedTupleGo tg (.ref it) u) (fun _ s2=>∃ x H',Inv X pins σ H' s2∧RelV x u∧J.yld i H x H'∧tn (i + 1) s2.heap∧∀ b ∈ fp,H' b=none) E s1) E s
 done:∀ (X:Cx),X.prog=P→X.w=w→X.K=K→X.calm=true→∀ (i:Nat) (pins:List (Addr × Obj)) (s:Shared) (σ:St) (H:Hp) (E:Value→Shared→Prop),Inv X pins σ H s→(∀ b ∈ fp,FpOk X pins H b)→tn i s.heap→J.stop i H →
  wpAny (model P w) X.A (pyNext (.ref it)) (fun r s1=>r=none∧Inv X pins σ H s1) E s
 self:∀ (A:Around) (i:Nat) (s:Shared) (Q:Value→Shared→Prop) (E:Value→Shared→Prop),tn i s.heap→Q (.ref it) s→wpAny (model P w) A (pyIter (.ref it)) Q E s
abbrev TI:=St→Hp→(It→Hp→Prop)→Prop
def PIE (X:Cx) (pins:List (Addr × Obj)) (σ:St) (tg:Expr) (R:It→Hp→Prop) (itv:Value) (s2:Shared):Prop :=
 ∃ (it:Addr) (fp:List Addr) (tn:Nat→Heap→Prop) (J:It) (H':Hp),itv=.ref it∧Inv X pins σ H' s2∧Turn X.prog X.w X.K tg J fp it tn∧tn 0 s2.heap∧(∀ b ∈ fp,FpOk X pins H' b)∧R J H'
def PI (X:Cx) (tg iter:Expr) (wi:TI):Prop :=
 ∀ (pins:List (Addr × Obj)) (s:Shared) (σ:St) (H:Hp) (R:It→Hp→Prop),Inv X pins σ H s→wi σ H R →
  wpAny (model X.prog X.w) X.A (eval iter X.env) (fun v s1=>wpAny (model X.prog X.w) X.A (pyIter v) (PIE X pins σ tg R) X.xe s1) X.xe s
theorem go_of {M:Model} {A:Around} {E:Value→Shared→Prop} {s:Shared} {tg:Expr} {it:Addr} {u:Value} {o:Obj} {n:String} {vs:Array Value} {Q:Unit→Shared→Prop} (ho:s.heap.get? it=some o) (hc:o.cls=.type n) (hd:o.data=.fields vs)
  (hn:["enumerate","zip","dict_itemiterator","dict_reverseitemiterator","odict_iterator","itertools.zip_longest","itertools.pairwise"].contains n=false) (hQ:Q () s):wpAny M A (letOwnedTupleGo tg (.ref it) u) Q E s:=by
 unfold letOwnedTupleGo
 cases tg <;> first
  | exact wpAny_pure hQ
  | (cases u <;> first
    | exact wpAny_pure hQ
    | (refine wpAny_bind (wpAny_load ho ?_); rw [hc,hd]; show wpAny M A (if (["enumerate","zip","dict_itemiterator","dict_reverseitemiterator","odict_iterator","itertools.zip_longest","itertools.pairwise"].contains n && vs[0]? == some (rawInt _))=true then _ else _) Q E s; rw [if_neg (by intro h; rw [hn,Bool.false_and] at h; cases h)]; exact wpAny_pure hQ))
def Itl (K:PySem.W.Frag) (a:Addr):It :=
 ⟨fun i H=>∃ xs x,SqL K H a xs∧xs[i]?=some x,fun i H x H'=>H'=H∧∀ xs,SqL K H a xs→xs[i]?=some x,fun i H=>∃ xs,SqL K H a xs∧xs.length ≤ i⟩
def Itt (K:PySem.W.Frag) (a:Addr):It :=
 ⟨fun i H=>∃ xs x,SqT K H a xs∧xs[i]?=some x,fun i H x H'=>H'=H∧∀ xs,SqT K H a xs→xs[i]?=some x,fun i H=>∃ xs,SqT K H a xs∧xs.length ≤ i⟩
def Itr (lo:Int) (n:Nat):It:=⟨fun i _=>i < n,fun i H x H'=>H'=H∧x=.int (lo + i),fun i _=>n ≤ i⟩
theorem turn_list {P:Program} {w:World} {K:PySem.W.Frag} {tg:Expr} (a it:Addr):Turn P w K tg (Itl K a) [it] it (fun i h=>h.IsListIter it a i) where
 mem:=by simp
 obj:=fun i h st b hb=>by
  have e:b=it:=by simpa using hb
  subst e
  obtain ⟨o,e,c,d⟩:=st
  exact ⟨o,e,fun v z=>by rw [d] at z; cases z⟩
 keep:=fun i h h' st k=>st.at fun o e=>k it (by simp) o e
 item:=by
  intro X hP hw hK hc i pins s σ H E I hf st hg
  subst hP hw hK
  obtain ⟨xs,x,hq,hx⟩:=hg
  obtain ⟨its,rv,p,hz⟩:=I.list hq
  obtain ⟨u,hu,ru⟩:=rv.get hx
  obtain ⟨f0,f1,f2,f3,f4,f5⟩:=hf it (by simp)
  refine wpAny_pyNext_list_item st p.isList (x:=u) (by simpa using hu) fun h' st' sb=>?_
  have I1:Inv X pins σ H { s with heap:=h' }:=I.turned (t':=s.toks) (fun b o hb e=>(sb.2 b hb).trans e) f0 f1 f3 f4 f5
  obtain ⟨o,e,c,d⟩:=id st'
  exact ⟨u,rfl,go_of (s:={ s with heap:=h' }) e c d (by decide) ⟨x,H,I1,ru,⟨rfl,fun ys hy=>by rw [I.list_inj hy hq]; exact hx⟩,st',fun b hb=>(hf b hb).1⟩⟩
 done:=by
  intro X hP hw hK hc i pins s σ H E I hf st hg
  subst hP hw hK
  obtain ⟨xs,hq,hx⟩:=hg
  obtain ⟨its,rv,p,hz⟩:=I.list hq
  obtain ⟨f0,f1,f2,f3,f4,f5⟩:=hf it (by simp)
  have hl:=rv.length
  exact wpAny_pyNext_list_end (I.ok.hd hc) st p.isList (by simp; omega) fun h' eb=>⟨rfl,I.turned (t':=s.toks) (fun b o hb e=>eb b o hb e) f0 f1 f3 f4 f5⟩
 self:=fun _ _ _ _ _ st h=>wpAny_pyIter_listiter st h
theorem turn_tuple {P:Program} {w:World} {K:PySem.W.Frag} {tg:Expr} (a it:Addr):Turn P w K tg (Itt K a) [it] it (fun i h=>h.IsTupleIter it a i) where
 mem:=by simp
 obj:=fun i h st b hb=>by
  have e:b=it:=by simpa using hb
  subst e
  obtain ⟨o,e,c,d⟩:=st
  exact ⟨o,e,fun v z=>by rw [d] at z; cases z⟩
 keep:=fun i h h' st k=>st.at fun o e=>k it (by simp) o e
 item:=by
  intro X hP hw hK hc i pins s σ H E I hf st hg
  subst hP hw hK
  obtain ⟨xs,x,hq,hx⟩:=hg
  obtain ⟨its,rv,p,hz⟩:=I.tuple hq
  obtain ⟨u,hu,ru⟩:=rv.get hx
  obtain ⟨f0,f1,f2,f3,f4,f5⟩:=hf it (by simp)
  refine wpAny_pyNext_tuple_item st (show s.heap.IsTuple a its.toArray from p) (x:=u) (by simpa using hu) fun h' st' sb=>?_
  have I1:Inv X pins σ H { s with heap:=h' }:=I.turned (t':=s.toks) (fun b o hb e=>(sb.2 b hb).trans e) f0 f1 f3 f4 f5
  obtain ⟨o,e,c,d⟩:=id st'
  exact ⟨u,rfl,go_of (s:={ s with heap:=h' }) e c d (by decide) ⟨x,H,I1,ru,⟨rfl,fun ys hy=>by rw [I.tuple_inj hy hq]; exact hx⟩,st',fun b hb=>(hf b hb).1⟩⟩
 done:=by
  intro X hP hw hK hc i pins s σ H E I hf st hg
  subst hP hw hK
  obtain ⟨xs,hq,hx⟩:=hg
  obtain ⟨its,rv,p,hz⟩:=I.tuple hq
  obtain ⟨f0,f1,f2,f3,f4,f5⟩:=hf it (by simp)
  have hl:=rv.length
  exact wpAny_pyNext_tuple_end (I.ok.hd hc) st (show s.heap.IsTuple a its.toArray from p) (by simp; omega) fun h' eb=>⟨rfl,I.turned (t':=s.toks) (fun b o hb e=>eb b o hb e) f0 f1 f3 f4 f5⟩
 self:=fun _ _ _ _ _ st h=>wpAny_pyIter_tupleiter st h
theorem turn_range {P:Program} {w:World} {K:PySem.W.Frag} {tg:Expr} (it:Addr) (lo:Int) (n:Nat):Turn P w K tg (Itr lo n) [it] it (fun i h=>IsRangeIter h it (lo + (i:Nat) * 1) ((n:Int) - (i:Nat)) 1) where
 mem:=by simp
 obj:=fun i h st b hb=>by
  have e:b=it:=by simpa using hb
  subst e
  exact ⟨_,st,fun v z=>by
   have z':Data.fields _=Data.cell v:=z
   cases z'⟩
 keep:=fun i h h' st k=>k it (by simp) _ st
 item:=by
  intro X hP hw hK hc i pins s σ H E I hf st hg
  subst hP hw hK
  obtain ⟨f0,f1,f2,f3,f4,f5⟩:=hf it (by simp)
  have W:=Walks.range (prog:=X.prog) (w:=X.w) (I.ok.hd hc) it lo 1 n
  refine W.item i s _ _ hg st fun v h' tk hv st' kk=>?_
  obtain ⟨t,rfl⟩:=hv
  have I1:Inv X pins σ H { s with heap:=h',toks:=tk }:=I.turned (fun b o hb e=>kk b o (by simpa using hb) e) f0 f1 f3 f4 f5
  refine ⟨_,rfl,go_of (s:={ s with heap:=h',toks:=tk }) (n:="range_iterator") st' rfl rfl (by decide) ⟨.int (lo + i),H,I1,⟨t,?_⟩,⟨rfl,rfl⟩,st',fun b hb=>(hf b hb).1⟩⟩
  rw [Int.mul_one]
 done:=by
  intro X hP hw hK hc i pins s σ H E I hf st hg
  subst hP hw hK
  obtain ⟨f0,f1,f2,f3,f4,f5⟩:=hf it (by simp)
  exact wpAny_pyNext_range_end (I.ok.hd hc) st (by have:n ≤ i:=hg; omega) fun h' eb=>⟨rfl,I.turned (t':=s.toks) (fun b o hb e=>eb b o hb e) f0 f1 f3 f4 f5⟩
 self:=fun _ _ _ _ _ st h=>wpAny_pyIter_rangeiter st h
end L2
namespace L2
open PySem PySem.Spec PyProof.Rows
section
variable {X:Cx} {tg:Expr}
def iTup (K:PySem.W.Frag) (tl:TE):TI:=fun σ H R=>tl σ H fun x H1=>∃ a,x=.ref a∧(∃ xs,SqT K H1 a xs)∧R (Itt K a) H1
theorem range_it {pins:List (Addr × Obj)} {σ:St} {H:Hp} {s:Shared} {R:It→Hp→Prop} {E:Value→Shared→Prop} {lo hi:Int} {t u v:Tok} {tk:Nat} (I:Inv X pins σ H s) (h1:-(2 ^ 62) ≤ lo) (h2:lo < 2 ^ 62) (h3:-(2 ^ 62) ≤ hi) (h4:hi < 2 ^ 62)
  (q:R (Itr lo (hi - lo).toNat) H):wpAny (model X.prog X.w) X.A (pyIter (.ref s.heap.objs.size)) (PIE X pins σ tg R) E { s with heap:=s.heap.push { cls:=.type "range",data:=.fields #[.int lo t,.int hi u,.int 1 v] },toks:=tk }:=by
 refine wpAny_pyIter_range (IsRange.new ..) (small_one h1 h2 h3 h4) ?_
 have I1:Inv X pins σ H { s with heap:=s.heap.push { cls:=.type "range",data:=.fields #[.int lo t,.int hi u,.int 1 v] },toks:=tk }:=I.kept fun b o e=>Heap.get?_push_of_some _ e
 refine ⟨(s.heap.push { cls:=.type "range",data:=.fields #[.int lo t,.int hi u,.int 1 v] }).objs.size,[(s.heap.push { cls:=.type "range",data:=.fields #[.int lo t,.int hi u,.int 1 v] }).objs.size],_,_,H,rfl,
  I1.kept (t':=tk) fun b o e=>Heap.get?_push_of_some _ e,turn_range _ lo (hi - lo).toNat,?_,fun b hb=>?_,q⟩
 ·have e1:lo + ((0:Nat):Int) * 1=lo:=by simp
  have e2:(((hi - lo).toNat:Nat):Int) - ((0:Nat):Int)=Builtin.Range.rangeSize lo hi 1:=by rw [rangeSize_one]; split <;> omega
  show IsRangeIter _ _ (lo + ((0:Nat):Int) * 1) ((((hi - lo).toNat:Nat):Int) - ((0:Nat):Int)) 1
  rw [e1,e2]
  exact Heap.get?_push_size _ rfl
 ·have e:b=(s.heap.push { cls:=.type "range",data:=.fields #[.int lo t,.int hi u,.int 1 v] }).objs.size:=by simpa using hb
  subst e
  exact I1.fpOk (Nat.le_refl _) (I1.hok.fresh (Nat.le_refl _))
def iRng1 (ta:TA):TI:=fun σ H R=>ta σ H fun vs H1=>∃ j:Int,vs=[.int j]∧-(2 ^ 62) ≤ j∧j < 2 ^ 62∧R (Itr 0 j.toNat) H1
theorem pi_range1 {a:Expr} {ta:TA} {p pos:Pos} (hg:Gl X "range") (hm:X.mg "range"=none) (ha:PA X [a] ta) (hs:starEach [a] X.env=[(false,eval a X.env)]:=by rfl):PI X tg (.Call (.Name "range" p) [a] [] pos) (iRng1 ta):=by
 intro pins s σ H R I h
 refine Call_ (ld_blt I hg hm boot_range (PyProof.Rows.callWith_type1 (thn (ha pos pins s σ H _ I h) fun us s1 ⟨vs,H1,I1,r1,q1⟩=>?_) hs rfl))
 obtain ⟨j,e,q1,q2,q⟩:=q1
 subst e
 cases r1 with
 | cons r rr =>
  cases rr
  obtain ⟨t,rfl⟩:=r
  exact call_range_1 (range_it I1 (by omega) (by omega) q1 q2 (by simpa using q))
def tFor (wi:TI) (g:TG) (tb:TS):TS:=fun D σ H=>wi σ H fun J H1=>∃ W:Nat→Nat→St→Hp→Prop,(∃ m,W 0 m σ H1)∧∀ i m σ H,W i m σ H →
 (J.stop i H∧D.nx σ H) ∨ (J.go i H∧∃ N:St→Hp→Prop,(∀ σ' H',N σ' H'→∃ m',m' < m∧W (i + 1) m' σ' H')∧∀ x H',J.yld i H x H'→g x σ H' fun σ2 H2=>tb { D with nx:=N,ct:=N,bk:=D.nx } σ2 H2)
def pinsAt (fp:List Addr) (h:Heap):List (Addr × Obj):=fp.filterMap fun b=>(h.get? b).map fun o=>(b,o)
theorem je9 {fp:List Addr} {h:Heap} {b:Addr} {o:Obj} (hb:b ∈ fp) (e:h.get? b=some o):(b,o) ∈ pinsAt fp h:=List.mem_filterMap.mpr ⟨b,hb,by rw [e]; rfl⟩
theorem of_pinsAt {fp:List Addr} {h:Heap} {p:Addr × Obj} (hp:p ∈ pinsAt fp h):p.1 ∈ fp∧h.get? p.1=some p.2:=by
 obtain ⟨b,hb,e⟩:=List.mem_filterMap.mp hp
 cases q:h.get? b with
 | none=>rw [q] at e; cases e
 | some o =>
  rw [q] at e
  have e':(b,o)=p:=Option.some.inj e
  subst e'
  exact ⟨hb,q⟩
theorem Inv.pinned {pins:List (Addr × Obj)} {σ:St} {H:Hp} {s:Shared} {fp:List Addr} (I:Inv X pins σ H s) (hf:∀ b ∈ fp,FpOk X pins H b) (ho:∀ b ∈ fp,∃ o,s.heap.get? b=some o∧∀ v,o.data ≠ .cell v):Inv X (pins ++ pinsAt fp s.heap) σ H s :=
 I.pins_of fun p hp=>(List.mem_append.mp hp).elim (fun z=>I.pin p (List.mem_append_right _ z)) fun z=>by
  obtain ⟨hb,e⟩:=of_pinsAt z
  obtain ⟨f0,f1,f2,_⟩:=hf p.1 hb
  obtain ⟨o,e',d⟩:=ho p.1 hb
  rw [e] at e'; cases e'
  exact ⟨e,f0,f1,f2,d⟩
theorem Inv.unpinned {pins pl:List (Addr × Obj)} {σ:St} {H:Hp} {s:Shared} (I:Inv X (pins ++ pl) σ H s):Inv X pins σ H s:=I.pins_of fun p hp=>I.pin p (List.mem_append_right _ (List.mem_append_left _ hp))
theorem ps_for {iter:Expr} {body:List Stmt} {wi:TI} {g:TG} {tb:TS} {pos:Pos} (hp:PassesOwn (model X.prog X.w) X.A X.env X.xe) (hc:X.calm=true) (hi:PI X tg iter wi) (hg:PG X tg g) (hb:PSs X body tb)
  (hs:∀ x,foldedSetIterable iter X.env x=pure x:=by intro _; rfl):PS X (.For tg iter body [] pos) (tFor wi g tb):=by
 intro pins s σ H D I h
 refine wpAny_For (thn (hi pins s σ H _ I h) fun v s1 h1=>thn h1 fun itv s2 h2=>?_) hs
 obtain ⟨it,fp,tn,J,H2,e,I2,T,st2,f2,W,⟨m0,w0⟩,turn⟩:=h2
 subst e
 have stat:∀ {H':Hp},(∀ b ∈ fp,H' b=none)→∀ b ∈ fp,FpOk X pins H' b:=fun hn b hb=>⟨hn b hb,(f2 b hb).2⟩
 refine codeAny_forLoop_any (fun n s'=>∃ i σ' H',Inv X pins σ' H' s'∧tn i s'.heap∧(∀ b ∈ fp,H' b=none)∧W i n σ' H') ?_ m0 ⟨0,σ,H2,I2,st2,fun b hb=>(f2 b hb).1,w0⟩
 rintro n s3 ⟨i,σ3,H3,I3,st3,fr3,w3⟩
 rcases turn i n σ3 H3 w3 with ⟨stop,qn⟩ | ⟨go,N,hN,step⟩
 ·refine wpAny_passesOwn hp (thn (T.done X rfl rfl rfl hc i pins s3 σ3 H3 X.xe I3 (stat fr3) st3 stop) fun r s4 ⟨hr,I4⟩=>?_)
  subst hr
  exact wpAny_execs_nil ⟨σ3,H3,I4,qn⟩
 ·refine wpAny_passesOwn hp (thn (T.item X rfl rfl rfl hc i pins s3 σ3 H3 X.xe I3 (stat fr3) st3 go) fun r s4 ⟨u,hr,h4⟩=>?_)
  subst hr
  refine wpAny_passesOwn hp (thn h4 fun _ s5 ⟨x,H5,I5,r5,y5,st5,fr5⟩=>?_)
  have I5':=I5.pinned (stat fr5) (T.obj _ _ st5)
  refine wpAny_passesOwn hp (thn (hg _ s5 σ3 H5 x u _ I5' r5 (step x H5 y5)) fun _ s6 ⟨σ6,H6,I6,q6⟩=>?_)
  refine wpAny_passesOwn hp (thn (hb _ s6 σ6 H6 _ I6 q6) fun f s7 q7=>?_)
  have again:∀ {σ7:St} {H7:Hp},Inv X (pins ++ pinsAt fp s5.heap) σ7 H7 s7→N σ7 H7→∃ m,m < n∧∃ i σ' H',Inv X pins σ' H' s7∧tn i s7.heap∧(∀ b ∈ fp,H' b=none)∧W i m σ' H':=fun {σ7 H7} I7 n7=>by
   obtain ⟨m',hm,w7⟩:=hN σ7 H7 n7
   refine ⟨m',hm,i + 1,σ7,H7,I7.unpinned,T.keep _ _ _ st5 fun b hb o e=>(I7.pin (b,o) (List.mem_append_right _ (List.mem_append_right _ (je9 hb e)))).1,fun b hb=>?_,w7⟩
   obtain ⟨o,e,d⟩:=T.obj _ _ st5 b hb
   exact (I7.pin (b,o) (List.mem_append_right _ (List.mem_append_right _ (je9 hb e)))).2.1
  cases f with
  | next=>obtain ⟨σ7,H7,I7,n7⟩:=q7; exact again I7 n7
  | cont=>obtain ⟨σ7,H7,I7,n7⟩:=q7; exact again I7 n7
  | brk=>obtain ⟨σ7,H7,I7,q7⟩:=q7; exact ⟨σ7,H7,I7.unpinned,q7⟩
  | ret v=>obtain ⟨x7,σ7,H7,I7,r7,q7⟩:=q7; exact ⟨x7,σ7,H7,I7.unpinned,r7,q7⟩
end
theorem while_by {c:TT} {tb:TS} {D:Ends} {σ:St} {H:Hp} (Pv:St→Hp→Prop) (μ : St→Hp→Nat) (h0:Pv σ H)
  (hs:∀ σ H,Pv σ H→c σ H fun b H1=>if b=true then tb { D with nx:=fun σ' H'=>Pv σ' H'∧μ σ' H' < μ σ H,ct:=fun σ' H'=>Pv σ' H'∧μ σ' H' < μ σ H,bk:=D.nx } σ H1 else D.nx σ H1)
  (mono:∀ σ H Q Q',(∀ b H1,Q b H1→Q' b H1)→c σ H Q→c σ H Q'):tWhile c tb D σ H:=by
 refine ⟨fun m σ H=>m=μ σ H∧Pv σ H,⟨_,rfl,h0⟩,?_⟩
 rintro m σ H ⟨rfl,p⟩
 refine mono σ H _ _ (fun b H1 q=>?_) (hs σ H p)
 cases b with
 | true=>exact ⟨_,fun σ' H' ⟨p',l⟩=>⟨_,l,rfl,p'⟩,q⟩
 | false=>exact q
end L2
namespace L2
open PySem PySem.Spec PyProof.Rows
abbrev R2:=V→V→Hp→VK→Prop
def OpR (X:Cx) (f:Value→Value→Sem Value) (r:R2):Prop :=
 ∀ (pins:List (Addr × Obj)) (s:Shared) (σ:St) (H:Hp) (x y:V) (v u:Value) (Q:VK),Inv X pins σ H s→RelV x v→RelV y u→r x y H Q →
  wpAny (model X.prog X.w) X.A (f v u) (EP X pins σ Q) X.xe s
def UnR (X:Cx) (f:Value→Sem Value) (r:V→Hp→VK→Prop):Prop :=
 ∀ (pins:List (Addr × Obj)) (s:Shared) (σ:St) (H:Hp) (x:V) (v:Value) (Q:VK),Inv X pins σ H s→RelV x v→r x H Q →
  wpAny (model X.prog X.w) X.A (f v) (EP X pins σ Q) X.xe s
def CallR (X:Cx) (f:Value) (r:List V→Hp→VK→Prop):Prop :=
 ∀ (pins:List (Addr × Obj)) (s:Shared) (σ:St) (H:Hp) (xs:List V) (us:List Value) (Q:VK),Inv X pins σ H s→Vals xs us→r xs H Q →
  wpAny (model X.prog X.w) X.A (call f us) (EP X pins σ Q) X.xe s
def tOp (r:R2) (ta tb:TE):TE:=fun σ H Q=>ta σ H fun x H1=>tb σ H1 fun y H2=>r x y H2 Q
def tUn (r:V→Hp→VK→Prop) (ta:TE):TE:=fun σ H Q=>ta σ H fun x H1=>r x H1 Q
def rI (C:Int→Int→Prop) (g:Int→Int→V):R2:=fun x y H Q=>∃ i j,x=.int i∧y=.int j∧C i j∧Q (g i j) H
def rI0 (g:Int→Int→V):R2:=fun x y H Q=>∃ i j,x=.int i∧y=.int j∧Q (g i j) H
def rU (g:Int→V):V→Hp→VK→Prop:=fun x H Q=>∃ i,x=.int i∧Q (g i) H
section
variable {X:Cx} {a b c:Expr} {ta tb tc:TE} {pos:Pos}
theorem binT (ha:PE X a ta) (hb:PE X b tb) {pins:List (Addr × Obj)} {s:Shared} {σ:St} {H:Hp} {R:V→V→Hp→Prop} (I:Inv X pins σ H s)
  (h:ta σ H fun x H1=>tb σ H1 fun y H2=>R x y H2) {Q:Value→Shared→Prop} {f:Value→Value→Sem Value}
  (hf:∀ v u s2 x y H2,Inv X pins σ H2 s2→RelV x v→RelV y u→R x y H2→wpAny (model X.prog X.w) X.A (f v u) Q X.xe s2) :
  wpAny (model X.prog X.w) X.A (eval a X.env) (fun v s₁=>wpAny (model X.prog X.w) X.A (eval b X.env) (fun u s₂=>wpAny (model X.prog X.w) X.A (f v u) Q X.xe s₂) X.xe s₁) X.xe s:=by
 refine thn (ha pins s σ H _ I h) fun v s1 ⟨x,H1,I1,r1,q1⟩=>?_
 refine thn (hb pins s1 σ H1 _ I1 q1) fun u s2 ⟨y,H2,I2,r2,q2⟩=>?_
 exact hf v u s2 x y H2 I2 r1 r2 q2
theorem jc6 {op:Operator} {r:R2} (ho:OpR X (binaryOp op) r) (ha:PE X a ta) (hb:PE X b tb):PE X (.BinOp a op b pos) (tOp r ta tb):=by
 intro pins s σ H Q I h
 exact wpAny_BinOp (binT ha hb I h fun v u s2 x y H2 I2 rx ry q=>ho pins s2 σ H2 x y v u Q I2 rx ry q)
theorem pe_un {op:UnaryOp} {r:V→Hp→VK→Prop} (ho:UnR X (unaryOp op) r) (ha:PE X a ta):PE X (.UnaryOp op a pos) (tUn r ta):=by
 intro pins s σ H Q I h
 exact UnaryOp_ (thn (ha pins s σ H _ I h) fun v s1 ⟨x,H1,I1,r1,q1⟩=>ho pins s1 σ H1 x v Q I1 r1 q1)
theorem opI {f:Value→Value→Sem Value} {C:Int→Int→Prop} {g:Int→Int→Int}
  (rule:∀ (i j:Int) (t u:Tok) (s:Shared) (Q:Value→Shared→Prop) (E:Value→Shared→Prop),C i j→Q (.int (g i j) s.toks) { s with toks:=s.toks + 1 }→wpAny (model X.prog X.w) X.A (f (.int i t) (.int j u)) Q E s) :
  OpR X f (rI C fun i j=>.int (g i j)):=by
 intro pins s σ H x y v u Q I rx ry h
 obtain ⟨i,j,rfl,rfl,hc,q⟩:=h
 obtain ⟨t,rfl⟩:=rx
 obtain ⟨t',rfl⟩:=ry
 exact rule i j t t' s _ _ hc ⟨.int (g i j),H,I.tok _,⟨_,rfl⟩,q⟩
theorem opI0 {f:Value→Value→Sem Value} {g:Int→Int→Int}
  (rule:∀ (i j:Int) (t u:Tok) (s:Shared) (Q:Value→Shared→Prop) (E:Value→Shared→Prop),Q (.int (g i j) s.toks) { s with toks:=s.toks + 1 }→wpAny (model X.prog X.w) X.A (f (.int i t) (.int j u)) Q E s) :
  OpR X f (rI0 fun i j=>.int (g i j)):=by
 intro pins s σ H x y v u Q I rx ry h
 obtain ⟨i,j,rfl,rfl,q⟩:=h
 obtain ⟨t,rfl⟩:=rx
 obtain ⟨t',rfl⟩:=ry
 exact rule i j t t' s _ _ ⟨.int (g i j),H,I.tok _,⟨_,rfl⟩,q⟩
theorem opB0 {f:Value→Value→Sem Value} {g:Int→Int→Bool}
  (rule:∀ (i j:Int) (t u:Tok) (s:Shared) (Q:Value→Shared→Prop) (E:Value→Shared→Prop),Q (.bool (g i j)) s→wpAny (model X.prog X.w) X.A (f (.int i t) (.int j u)) Q E s) :
  OpR X f (rI0 fun i j=>.bl (g i j)):=by
 intro pins s σ H x y v u Q I rx ry h
 obtain ⟨i,j,rfl,rfl,q⟩:=h
 obtain ⟨t,rfl⟩:=rx
 obtain ⟨t',rfl⟩:=ry
 exact rule i j t t' s _ _ ⟨.bl (g i j),H,I,rfl,q⟩
def CDiv (i j:Int):Prop:=0 < j∧j < 1073741824
def CPow (i j:Int):Prop:=0 ≤ j∧j ≤ 1000000∧i.natAbs < 2 ^ 64
def CMul (i j:Int):Prop:=(-(2 ^ 64) < i∧i < 2 ^ 64) ∨ (-(2 ^ 64) < j∧j < 2 ^ 64)
theorem CMul.ok {i j:Int} (h:CMul i j):IntMulOk i j:=by
 rcases h with ⟨h1,h2⟩ | ⟨h1,h2⟩
 ·exact .of_left (intBits_le_64 h1 h2)
 ·exact .of_right (intBits_le_64 h1 h2)
theorem op_add:OpR X (binaryOp .Add) (rI0 fun i j=>.int (i + j)):=opI0 fun _ _ _ _ _ _ _ q=>add_int q
theorem op_sub:OpR X (binaryOp .Sub) (rI0 fun i j=>.int (i - j)):=opI0 fun _ _ _ _ _ _ _ q=>sub_int q
theorem op_mul:OpR X (binaryOp .Mult) (rI CMul fun i j=>.int (i * j)):=opI fun _ _ _ _ _ _ _ hc q=>mul_int q hc.ok
theorem op_fdiv:OpR X (binaryOp .FloorDiv) (rI CDiv fun i j=>.int (i / j)):=opI fun i j _ _ _ _ _ hc q=>by
 have h1:(0:Int) < j:=hc.1
 have h2:j < 1073741824:=hc.2
 exact floordiv_int (by omega) (by rw [Int.fdiv_eq_ediv_of_nonneg i (by omega)]; exact q) (.inl (PyProof.noPylong_small (by omega)))
theorem op_mod:OpR X (binaryOp .Mod) (rI (fun _ j=>0 < j) fun i j=>.int (i % j)):=opI fun i j _ _ _ _ _ hc q=>by
 have h1:(0:Int) < j:=hc
 exact mod_int' (by omega) (by rw [Int.fmod_eq_emod_of_nonneg i (by omega)]; exact q)
theorem op_modN:OpR X (binaryOp .Mod) (rI (fun _ j=>j ≠ 0) fun i j=>.int (i.fmod j)):=opI fun _ _ _ _ _ _ _ hc q=>mod_int' hc q
theorem op_pow:OpR X (binaryOp .Pow) (rI CPow fun i j=>.int (i ^ j.toNat)):=opI fun _ _ _ _ _ _ _ hc q=>pow_int_small hc.1 hc.2.1 hc.2.2 q
theorem unI {f:Value→Sem Value} {g:Int→Int}
  (rule:∀ (i:Int) (t:Tok) (s:Shared) (Q:Value→Shared→Prop) (E:Value→Shared→Prop),Q (.int (g i) s.toks) { s with toks:=s.toks + 1 }→wpAny (model X.prog X.w) X.A (f (.int i t)) Q E s) :
  UnR X f (rU fun i=>.int (g i)):=by
 intro pins s σ H x v Q I rx h
 obtain ⟨i,rfl,q⟩:=h
 obtain ⟨t,rfl⟩:=rx
 exact rule i t s _ _ ⟨.int (g i),H,I.tok _,⟨_,rfl⟩,q⟩
theorem un_neg:UnR X (unaryOp .USub) (rU fun i=>.int (-i)):=unI fun _ _ _ _ _ q=>neg_int q
end
def scal:V→V→Bool
 | .non,.non=>true | .non,.int _=>true | .int _,.non=>true | .non,.bl _=>true | .bl _,.non=>true | .non,.str _=>true | .str _,.non=>true
 | .int _,.int _=>true | .bl _,.bl _=>true | .str _,.str _=>true | .byt _,.byt _=>true
 | .int _,.str _=>true | .str _,.int _=>true | .bl _,.str _=>true | .str _,.bl _=>true
 | _,_=>false
def rEq:R2:=fun x y H Q=>scal x y=true∧Q (.bl (decide (x=y))) H
def rNe:R2:=fun x y H Q=>scal x y=true∧Q (.bl (!decide (x=y))) H
theorem dec_int {i j:Int}:decide (V.int i=V.int j)=(i == j):=by
 rw [Bool.eq_iff_iff]
 simp
theorem dec_bl {i j:Bool}:decide (V.bl i=V.bl j)=(i == j):=by
 rw [Bool.eq_iff_iff]
 simp
theorem dec_str {i j:Str}:decide (V.str i=V.str j)=(i == j):=by
 rw [Bool.eq_iff_iff]
 simp
theorem dec_byt {i j:Array UInt8}:decide (V.byt i=V.byt j)=(i.toList == j.toList):=by
 rw [Bool.eq_iff_iff]
 cases i
 cases j
 simp
section
variable {X:Cx} {a b c:Expr} {ta tb tc:TE} {pos:Pos}
theorem jd1 {pins:List (Addr × Obj)} {σ:St} {H:Hp} {s:Shared} {Q:VK} {k k':Bool} (I:Inv X pins σ H s) (q:Q (.bl k) H) (e:k=k'):EP X pins σ Q (.bool k') s:=by
 subst e
 exact ⟨.bl k,H,I,rfl,q⟩
theorem op_eq:OpR X (compareOp .Eq) rEq:=by
 intro pins s σ H x y v u Q I rx ry h
 obtain ⟨hs,q⟩:=h
 cases x with
 | non =>
  cases rx
  cases y with
  | non=>cases ry; exact PySem.EqNone.eq_none_none (jd1 I q (by simp))
  | bl j=>cases ry; exact PySem.EqNone.eq_none_bool (jd1 I q (by simp))
  | int j=>obtain ⟨t',rfl⟩:=ry; exact PySem.EqNone.eq_none_int (jd1 I q (by simp))
  | str j=>obtain ⟨t',rfl⟩:=ry; exact PySem.EqNone.eq_none_str (jd1 I q (by simp))
  | _=>exact absurd (show false=true from hs) Bool.false_ne_true
 | bl i =>
  cases rx
  cases y with
  | non=>cases ry; exact PySem.EqNone.eq_bool_none (jd1 I q (by simp))
  | bl j=>cases ry; exact eq_bool (jd1 I q dec_bl)
  | str j=>obtain ⟨t',rfl⟩:=ry; exact PySem.EqMixed.eq_bool_str (jd1 I q (by simp))
  | _=>exact absurd (show false=true from hs) Bool.false_ne_true
 | int i =>
  obtain ⟨t,rfl⟩:=rx
  cases y with
  | non=>cases ry; exact PySem.EqNone.eq_int_none (jd1 I q (by simp))
  | int j=>obtain ⟨t',rfl⟩:=ry; exact eq_int (jd1 I q dec_int)
  | str j=>obtain ⟨t',rfl⟩:=ry; exact PySem.EqMixed.eq_int_str (jd1 I q (by simp))
  | _=>exact absurd (show false=true from hs) Bool.false_ne_true
 | str i =>
  obtain ⟨t,rfl⟩:=rx
  cases y with
  | non=>cases ry; exact PySem.EqNone.eq_str_none (jd1 I q (by simp))
  | bl j=>cases ry; exact PySem.EqMixed.eq_str_bool (jd1 I q (by simp))
  | int j=>obtain ⟨t',rfl⟩:=ry; exact PySem.EqMixed.eq_str_int (jd1 I q (by simp))
  | str j=>obtain ⟨t',rfl⟩:=ry; exact eq_str (jd1 I q dec_str)
  | _=>exact absurd (show false=true from hs) Bool.false_ne_true
 | byt i =>
  obtain ⟨t,rfl⟩:=rx
  cases y with
  | byt j=>obtain ⟨t',rfl⟩:=ry; exact PySem.W.eq_bytes (jd1 I q dec_byt)
  | _=>exact absurd (show false=true from hs) Bool.false_ne_true
 | _=>cases y <;> exact absurd (show false=true from hs) Bool.false_ne_true
theorem op_ne:OpR X (compareOp .NotEq) rNe:=by
 intro pins s σ H x y v u Q I rx ry h
 obtain ⟨hs,q⟩:=h
 cases x with
 | non =>
  cases rx
  cases y with
  | non=>cases ry; exact PySem.EqNone.ne_none_none (jd1 I q (by simp))
  | bl j=>cases ry; exact PySem.EqNone.ne_none_bool (jd1 I q (by simp))
  | int j=>obtain ⟨t',rfl⟩:=ry; exact PySem.EqNone.ne_none_int (jd1 I q (by simp))
  | str j=>obtain ⟨t',rfl⟩:=ry; exact PySem.EqNone.ne_none_str (jd1 I q (by simp))
  | _=>exact absurd (show false=true from hs) Bool.false_ne_true
 | bl i =>
  cases rx
  cases y with
  | non=>cases ry; exact PySem.EqNone.ne_bool_none (jd1 I q (by simp))
  | bl j=>cases ry; exact ne_bool (jd1 I q (congrArg not dec_bl))
  | str j=>obtain ⟨t',rfl⟩:=ry; exact PySem.EqMixed.ne_bool_str (jd1 I q (by simp))
  | _=>exact absurd (show false=true from hs) Bool.false_ne_true
 | int i =>
  obtain ⟨t,rfl⟩:=rx
  cases y with
  | non=>cases ry; exact PySem.EqNone.ne_int_none (jd1 I q (by simp))
  | int j=>obtain ⟨t',rfl⟩:=ry; exact ne_int (jd1 I q (congrArg not dec_int))
  | str j=>obtain ⟨t',rfl⟩:=ry; exact PySem.EqMixed.ne_int_str (jd1 I q (by simp))
  | _=>exact absurd (show false=true from hs) Bool.false_ne_true
 | str i =>
  obtain ⟨t,rfl⟩:=rx
  cases y with
  | non=>cases ry; exact PySem.EqNone.ne_str_none (jd1 I q (by simp))
  | bl j=>cases ry; exact PySem.EqMixed.ne_str_bool (jd1 I q (by simp))
  | int j=>obtain ⟨t',rfl⟩:=ry; exact PySem.EqMixed.ne_str_int (jd1 I q (by simp))
  | str j=>obtain ⟨t',rfl⟩:=ry; exact ne_str (jd1 I q (congrArg not dec_str))
  | _=>exact absurd (show false=true from hs) Bool.false_ne_true
 | byt i =>
  obtain ⟨t,rfl⟩:=rx
  cases y with
  | byt j=>obtain ⟨t',rfl⟩:=ry; exact PySem.W.ne_bytes (jd1 I q (congrArg not dec_byt))
  | _=>exact absurd (show false=true from hs) Bool.false_ne_true
 | _=>cases y <;> exact absurd (show false=true from hs) Bool.false_ne_true
theorem op_lt:OpR X (compareOp .Lt) (rI0 fun i j=>.bl (decide (i < j))):=opB0 fun _ _ _ _ _ _ _ q=>lt_int q
theorem op_le:OpR X (compareOp .LtE) (rI0 fun i j=>.bl (decide (i ≤ j))):=opB0 fun _ _ _ _ _ _ _ q=>le_int q
theorem op_gt:OpR X (compareOp .Gt) (rI0 fun i j=>.bl (decide (j < i))):=opB0 fun _ _ _ _ _ _ _ q=>gt_int q
theorem op_ge:OpR X (compareOp .GtE) (rI0 fun i j=>.bl (decide (j ≤ i))):=opB0 fun _ _ _ _ _ _ _ q=>ge_int q
theorem op_isN:OpR X (compareOp .Is) (fun x y H Q=>y=.non∧Q (.bl (decide (x=.non))) H):=by
 intro pins s σ H x y v u Q I rx ry h
 obtain ⟨rfl,q⟩:=h
 cases ry
 refine is_none_gen (jd1 I q ?_)
 cases x <;> first
  | (cases rx; rfl)
  | (obtain ⟨t,rfl⟩:=rx; rfl)
theorem OpR.or {f:Value→Value→Sem Value} {r r':R2} (h:OpR X f r) (h':OpR X f r'):OpR X f (fun x y H Q=>r x y H Q ∨ r' x y H Q):=by
 intro pins s σ H x y v u Q I rx ry q
 rcases q with q | q
 ·exact h pins s σ H x y v u Q I rx ry q
 ·exact h' pins s σ H x y v u Q I rx ry q
theorem nomark (b:Expr) {op:CmpOp} (h:op ≠ .In:=by decide) (h2:op ≠ .NotIn:=by decide):behindInMarks op b=false:=by
 have e1:(op == CmpOp.In)=false:=by cases op <;> first | rfl | exact absurd rfl h
 have e2:(op == CmpOp.NotIn)=false:=by cases op <;> first | rfl | exact absurd rfl h2
 cases b <;> simp [behindInMarks,e1,e2]
theorem pe_cmpR {op:CmpOp} {r:R2} (ho:OpR X (compareOp op) r) (ha:PE X a ta) (hb:PE X b tb) (hm:behindInMarks op b=false):PE X (.Compare a [op] [b] pos) (tOp r ta tb):=by
 intro pins s σ H Q I h
 exact wpAny_Compare1 (binT ha hb I h fun v u s2 x y H2 I2 rx ry q=>ho pins s2 σ H2 x y v u Q I2 rx ry q) hm
def tTest (t:TE):TT:=fun σ H Q=>t σ H fun x H'=>∃ k,x=.bl k∧Q k H'
theorem jf0 {op:CmpOp} {r:R2} (ho:OpR X (compareOp op) r) (ha:PE X a ta) (hb:PE X b tb) (hm:behindInMarks op b=false):PT X (.Compare a [op] [b] pos) (tTest (tOp r ta tb)):=by
 intro pins s σ H Q I h
 refine wpAny_isTrue_Compare1 (thn (ha pins s σ H _ I h) fun v s1 ⟨x,H1,I1,r1,q1⟩=>thn (hb pins s1 σ H1 _ I1 q1) fun u s2 ⟨y,H2,I2,r2,q2⟩ =>
  thn (ho pins s2 σ H2 x y v u _ I2 r1 r2 q2) fun c s3 ⟨z,H3,I3,r3,k,e,q3⟩=>?_) hm
 subst e
 cases r3
 exact wpAny_truthy_bool ⟨H3,I3,q3⟩
def tChain (r r':R2) (ta tb tc:TE):TE:=fun σ H Q=>ta σ H fun x H1=>tb σ H1 fun y H2=>r x y H2 fun z H3=>∃ k,z=.bl k ∧
 (if k=true then tc σ H3 fun w' H4=>r' y w' H4 Q else Q (.bl false) H3)
theorem pe_chain {op op':CmpOp} {r r':R2} (ho:OpR X (compareOp op) r) (ho':OpR X (compareOp op') r') (ha:PE X a ta) (hb:PE X b tb) (hc:PE X c tc)
  (hm:lastMarks [op,op'] [b,c]=false:=by with_unfolding_all rfl):PE X (.Compare a [op,op'] [b,c] pos) (tChain r r' ta tb tc):=by
 intro pins s σ H Q I h
 refine Compare_chain (thn (ha pins s σ H _ I h) fun v s1 ⟨x,H1,I1,r1,q1⟩=>chain_link (thn (hb pins s1 σ H1 _ I1 q1) fun u s2 ⟨y,H2,I2,r2,q2⟩ =>
  thn (ho pins s2 σ H2 x y v u _ I2 r1 r2 q2) fun d s3 ⟨z,H3,I3,r3,k,e,q3⟩=>?_)) hm
 subst e
 cases r3
 refine wpAny_truthy_bool ?_
 cases k with
 | false=>exact ite_ff ⟨.bl false,H3,I3,rfl,q3⟩
 | true=>exact ite_tt (chain_last (thn (hc pins s3 σ H3 _ I3 q3) fun w' s4 ⟨z',H4,I4,r4,q4⟩=>ho' pins s4 σ H4 y z' u w' Q I4 r2 r4 q4))
theorem pt_chain {op op':CmpOp} {r r':R2} (ho:OpR X (compareOp op) r) (ho':OpR X (compareOp op') r') (ha:PE X a ta) (hb:PE X b tb) (hc:PE X c tc)
  (hm:lastMarks [op,op'] [b,c]=false:=by with_unfolding_all rfl):PT X (.Compare a [op,op'] [b,c] pos) (tTest (tChain r r' ta tb tc)):=by
 intro pins s σ H Q I h
 refine isTrue_chain (thn (ha pins s σ H _ I h) fun v s1 ⟨x,H1,I1,r1,q1⟩=>test_link (thn (hb pins s1 σ H1 _ I1 q1) fun u s2 ⟨y,H2,I2,r2,q2⟩ =>
  thn (ho pins s2 σ H2 x y v u _ I2 r1 r2 q2) fun d s3 ⟨z,H3,I3,r3,k,e,q3⟩=>?_)) hm
 subst e
 cases r3
 refine wpAny_truthy_bool ?_
 cases k with
 | false =>
  obtain ⟨k',e',q'⟩:=q3
  cases e'
  exact ite_ff ⟨H3,I3,q'⟩
 | true =>
  refine ite_tt (test_last (thn (hc pins s3 σ H3 _ I3 q3) fun w' s4 ⟨z',H4,I4,r4,q4⟩=>thn (ho' pins s4 σ H4 y z' u w' _ I4 r2 r4 q4) fun d' s5 ⟨z2,H5,I5,r5,k2,e2,q5⟩=>?_))
  subst e2
  cases r5
  exact wpAny_truthy_bool ⟨H5,I5,q5⟩
theorem line63:(sizeLine:Nat) < 2 ^ 63:=by rw [sizeLine_eq]; decide
theorem op_add_str:OpR X (binaryOp .Add) (fun x y H Q=>∃ i j,x=.str i∧y=.str j∧i.length + j.length ≤ sizeLine∧Q (.str (i ++ j)) H):=by
 intro pins s σ H x y v u Q I rx ry h
 obtain ⟨i,j,rfl,rfl,hz,q⟩:=h
 obtain ⟨t,rfl⟩:=rx
 obtain ⟨t',rfl⟩:=ry
 exact add_str (fun t' tk=>⟨.str (i ++ j),H,I.tok _,⟨_,rfl⟩,q⟩) hz
theorem vals1 {x:V} {us:List Value} (r:Vals [x] us):∃ u,us=[u]∧RelV x u:=by
 cases r with
 | cons r1 r2=>cases r2; exact ⟨_,rfl,r1⟩
theorem vals2 {x y:V} {us:List Value} (r:Vals [x,y] us):∃ u w',us=[u,w']∧RelV x u∧RelV y w':=by
 cases r with
 | cons r1 r2 =>
  cases r2 with
  | cons r3 r4=>cases r4; exact ⟨_,_,rfl,r1,r3⟩
theorem call_abs:CallR X (.builtin "abs") (fun xs H Q=>∃ i,xs=[.int i]∧Q (.int (if i < 0 then -i else i)) H):=by
 intro pins s σ H xs us Q I r h
 obtain ⟨i,rfl,q⟩:=h
 obtain ⟨u,rfl,t,rfl⟩:=vals1 r
 exact call_abs_int fun u tk=>⟨.int (if i < 0 then -i else i),H,I.tok _,⟨_,rfl⟩,q⟩
theorem call_max2 (hc:X.calm=true):CallR X (.builtin "max") (fun xs H Q=>∃ i j,xs=[.int i,.int j]∧Q (.int (if j > i then j else i)) H):=by
 intro pins s σ H xs us Q I r h
 obtain ⟨i,j,rfl,q⟩:=h
 obtain ⟨u,w',rfl,⟨t,rfl⟩,⟨t',rfl⟩⟩:=vals2 r
 refine max_two_ints (I.ok.hd hc) fun h' tk k=>⟨_,H,I.kept k,?_,q⟩
 by_cases hj:j > i
 ·rw [if_pos hj,if_pos hj]; exact ⟨_,rfl⟩
 ·rw [if_neg hj,if_neg hj]; exact ⟨_,rfl⟩
theorem call_min2 (hc:X.calm=true):CallR X (.builtin "min") (fun xs H Q=>∃ i j,xs=[.int i,.int j]∧Q (.int (if j < i then j else i)) H):=by
 intro pins s σ H xs us Q I r h
 obtain ⟨i,j,rfl,q⟩:=h
 obtain ⟨u,w',rfl,⟨t,rfl⟩,⟨t',rfl⟩⟩:=vals2 r
 refine min_two_ints (I.ok.hd hc) fun h' tk k=>⟨_,H,I.kept k,?_,q⟩
 by_cases hj:j < i
 ·rw [if_pos hj,if_pos hj]; exact ⟨_,rfl⟩
 ·rw [if_neg hj,if_neg hj]; exact ⟨_,rfl⟩
theorem call_int1:CallR X (.type "int") (fun xs H Q=>(∃ i,xs=[.int i]∧Q (.int i) H) ∨ ∃ k,xs=[.bl k]∧Q (.int (if k then 1 else 0)) H):=by
 intro pins s σ H xs us Q I r h
 rcases h with ⟨i,rfl,q⟩ | ⟨k,rfl,q⟩
 ·obtain ⟨u,rfl,t,rfl⟩:=vals1 r
  exact call_int_int ⟨.int i,H,I,⟨_,rfl⟩,q⟩
 ·obtain ⟨u,rfl,r1⟩:=vals1 r
  cases r1
  exact call_int_bool ⟨.int (if k then 1 else 0),H,I.tok _,⟨_,rfl⟩,q⟩
theorem jf6:CallR X (.type "str") (fun xs H Q=>∃ i,xs=[.int i]∧i.natAbs.log2 < 1920∧Q (.str (toString i)) H):=by
 intro pins s σ H xs us Q I r h
 obtain ⟨i,rfl,hz,q⟩:=h
 obtain ⟨u,rfl,t,rfl⟩:=vals1 r
 exact PySem.P.str_of_int hz ⟨.str _,H,I.tok _,⟨_,rfl⟩,q⟩
end
end L2
namespace L2
open PySem PySem.Spec PyProof.Rows
structure ObjM (h:Heap) (x dx C:Addr) (mA:Str→Option Value):Prop where
 obj:h.get? x=some (PySem.W.instObj C dx)
 ns:h.Ns1 dx mA
 ne:dx ≠ x
theorem lookIn_ns {h:Heap} {dx:Addr} {mA:Str→Option Value} (n:h.Ns1 dx mA):∃ od,h.get? dx=some od∧∀ name,PySem.W.lookIn name od=some (mA name):=by
 obtain ⟨o,es,ep,ho,hd,hk,_,hm⟩:=n
 refine ⟨o,ho,fun name=>?_⟩
 have e:=hm name
 unfold nsFind findBy at e
 rw [← Array.find?_toList] at e
 unfold PySem.W.lookIn
 rw [hd]
 dsimp only
 split
 ·rename_i y q
  rw [q] at e
  exact congrArg some e
 ·rename_i q
  rw [q] at e
  have a:es.toList.any (·.refKey)=false:=by
   rw [List.any_eq_false]
   intro y hy
   obtain ⟨z,t,hkey⟩:=hk y (Array.mem_toList_iff.mp hy)
   simp [DictEntry.refKey,hkey]
  have a':¬ es.toList.any (·.refKey)=true:=by rw [a]; exact Bool.false_ne_true
  rw [if_neg a']
  exact congrArg some e
theorem ObjM.look {h:Heap} {x dx C:Addr} {mA:Str→Option Value} (I:ObjM h x dx C mA):∃ od,PySem.W.InstAt h x (PySem.W.instObj C dx) C (some od)∧∀ name,PySem.W.lookIn name od=some (mA name) :=
 let ⟨od,ho,hl⟩:=lookIn_ns I.ns
 ⟨od,⟨I.obj,rfl,rfl,ho⟩,hl⟩
section
variable {prog:Program} {w:World} {A:Around} {E:Value→Shared→Prop} {s:Shared} {K:PySem.W.Frag} {x dx C f:Addr} {mA:Str→Option Value} {name:Str} {v:Value}
end
section
variable {P:Program} {w:World} {H H':Hp} {h h':Heap} {a C dx:Addr} {fs fs':List (Str × V)}
theorem ins_get (hok:HOk P w H h) (e:H a=some (.ins C dx fs)):∃ mA,ObjM h a dx C mA∧(∀ f,RelO (fs.lookup f) (mA f))∧PySem.Within mA (fs.map (·.1))∧fs.length ≤ 1000∧H dx=some (.own a):=by
 obtain ⟨d,z,ne,ob,mA,n,r,q⟩:=(show ObjOk P w H h a (.ins C dx fs) from hok a _ e)
 exact ⟨mA,⟨ob,n,ne⟩,r,q,z,d⟩
end
structure Cls (K:PySem.W.Frag) (C:Addr):Prop where
 pg:PySem.W.plainGet K C Str.empty=true
 hd:PySem.W.hasDictIn K C=true
 po:PySem.W.plainOver K C=true
 sa:PySem.W.findIn K (.ref C) "__setattr__"=some (some (.builtin "object.__setattr__"))
theorem Cls.get {K:PySem.W.Frag} {C:Addr} (c:Cls K C) (f:Str):PySem.W.plainGet K C f=true:=c.pg
section
variable {X:Cx} {pins:List (Addr × Obj)} {σ:St} {H:Hp} {s:Shared} {a C dx:Addr} {fs:List (Str × V)} {f:Str} {v:V} {A:Around} {E:Value→Shared→Prop}
end
section
variable {X:Cx} {o e value:Expr} {f:Str} {pos pos' tpos:Pos} {ta tv:TE}
end
section
variable {X:Cx} {pins:List (Addr × Obj)} {σ:St} {H:Hp} {s:Shared} {A:Around} {E:Value→Shared→Prop} {Q:Value→Shared→Prop} {c:Value} {b:Bool}
inductive TyOf (K:PySem.W.Frag) (H:Hp):V→Value→Prop where
 | non:TyOf K H .non (.type "NoneType")
 | bl (x:Bool):TyOf K H (.bl x) (.type "bool")
 | int (i:Int):TyOf K H (.int i) (.type "int")
 | str (x:Str):TyOf K H (.str x) (.type "str")
 | flt (x:UInt64):TyOf K H (.flt x) (.type "float")
 | lst {a:Addr} {xs:List V} (e:H a=some (.lst xs)):TyOf K H (.ref a) (.type "list")
 | frz {a:Addr} {o:Obj} {xs:List V} (e:H a=some (.frz o (.lst xs))):TyOf K H (.ref a) (.type "list")
 | tup {a:Addr} {xs:List V} (e:H a=some (.tup xs)):TyOf K H (.ref a) (.type "tuple")
 | dK {a:Addr} {kvs:List (Key × V)} (e:H a=some (.dK kvs)):TyOf K H (.ref a) (.type "dict")
 | dT {a:Addr} {kvs:List (List Key × V)} (e:H a=some (.dT kvs)):TyOf K H (.ref a) (.type "dict")
 | ins {a C dx:Addr} {fs:List (Str × V)} (e:H a=some (.ins C dx fs)) (cl:Cls K C) (ha:PySem.W.findIn K (.ref C) "__class__"=some (some (.builtin "object.__class__")))
   (hn:PySem.W.specialIn K (.builtin "object.__class__") "__get__"=some (some (.builtin "getset_descriptor.__get__"))) (htk:PySem.W.takesIn K (.builtin "object.__class__")=some true)
   (hm:PySem.W.mroIn K C (.type "object")=some true):TyOf K H (.ref a) (.ref C)
theorem isinst_ok {x:V} {u t:Value} (I:Inv X pins σ H s) (rx:RelV x u) (ty:TyOf X.K H x t) (e:PySem.W.kitOne X.K t c=some b) (h:∀ tk,Q (.bool b) { s with toks:=tk }) :
  wpAny (model X.prog X.w) A (call (.builtin "isinstance") [u,c]) Q E s:=by
 cases ty with
 | non=>cases (show u=Value.none from rx); exact PySem.W.kia_one PySem.W.kitx_none I.kIn True.intro e (fun z=>nomatch z) h
 | bl y=>cases (show u=Value.bool y from rx); exact PySem.W.kia_one PySem.W.kitx_bool I.kIn True.intro e (fun z=>nomatch z) h
 | int i=>obtain ⟨t,q⟩:=(show ∃ t,u=Value.int i t from rx); cases q; exact PySem.W.kia_one PySem.W.kitx_int I.kIn True.intro e (fun z=>nomatch z) h
 | str y=>obtain ⟨t,q⟩:=(show ∃ t,u=Value.str y t from rx); cases q; exact PySem.W.kia_one PySem.W.kitx_str I.kIn True.intro e (fun z=>nomatch z) h
 | flt y=>obtain ⟨t,q⟩:=(show ∃ t,u=Value.float y t from rx); cases q; exact PySem.W.kia_one PySem.W.kitx_float I.kIn True.intro e (fun z=>nomatch z) h
 | @lst a xs ea =>
  cases (show u=Value.ref a from rx)
  obtain ⟨_,_,n,_,h1⟩:=(show ObjOk X.prog X.w H s.heap a (.lst xs) from I.hok a _ ea)
  exact PySem.W.kia_one PySem.W.kitx_list I.kIn ⟨_,h1,rfl⟩ e (fun z=>nomatch z) h
 | @frz a ob xs ea =>
  cases (show u=Value.ref a from rx)
  obtain ⟨_,_,_,n,_,h1⟩:=(show ObjOk X.prog X.w H s.heap a (.frz ob (.lst xs)) from I.hok a _ ea)
  exact PySem.W.kia_one PySem.W.kitx_list I.kIn ⟨_,h1,rfl⟩ e (fun z=>nomatch z) h
 | @tup a xs ea =>
  cases (show u=Value.ref a from rx)
  obtain ⟨_,_,_,p⟩:=(show ObjOk X.prog X.w H s.heap a (.tup xs) from I.hok a _ ea)
  obtain ⟨o,h1,h2,_⟩:=p
  exact PySem.W.kia_one PySem.W.kitx_tuple I.kIn ⟨o,h1,h2⟩ e (fun z=>nomatch z) h
 | @dK a kvs ea =>
  cases (show u=Value.ref a from rx)
  obtain ⟨_,_,vs,_,p⟩:=(show ObjOk X.prog X.w H s.heap a (.dK kvs) from I.hok a _ ea)
  obtain ⟨o,es,ep,h1,h2,_⟩:=p
  exact PySem.W.kia_one PySem.W.kitx_dict I.kIn ⟨o,h1,h2.1⟩ e (fun z=>nomatch z) h
 | @dT a kvs ea =>
  cases (show u=Value.ref a from rx)
  obtain ⟨_,_,xs,_,o,es,ep,h1,h2,_⟩:=(show ObjOk X.prog X.w H s.heap a (.dT kvs) from I.hok a _ ea)
  exact PySem.W.kia_one PySem.W.kitx_dict I.kIn ⟨o,h1,h2.1⟩ e (fun z=>nomatch z) h
 | @ins a C dx fs ea cl ha hn htk hm =>
  cases (show u=Value.ref a from rx)
  obtain ⟨mA,O,_⟩:=ins_get I.hok ea
  obtain ⟨od,J,_⟩:=O.look
  exact PySem.W.kia_one (PySem.W.kitx_own (cl.get _) cl.hd ha hn htk hm) I.kIn J e (fun z=>nomatch z) h
end
end L2
namespace L2
open PySem PySem.Spec PyProof.Rows
structure Room (k:Nat) (A:Around):Prop where
 hd:A.handled=none
 dp:A.depth + 3 * k + 5 < recursionLimit
 un:A.units + 16 * k + 200 < cLine
theorem Room.mono {j k:Nat} {A:Around} (r:Room k A) (h:j ≤ k):Room j A:=⟨r.hd,by have:=r.dp; omega,by have:=r.un; omega⟩
theorem Room.deeper {k:Nat} {A:Around} (r:Room (k + 1) A) (env:Env):Room k (A.deeper env) :=
 ⟨r.hd,by have:=r.dp; show A.depth + 1 + 3 * k + 5 < _; omega,by have:=r.un; show A.units + 3 + 16 * k + 200 < _; omega⟩
theorem Room.depth {k:Nat} {A:Around} (r:Room k A):A.depth < recursionLimit:=by have:=r.dp; omega
theorem Room.units {k:Nat} {A:Around} (r:Room k A):A.units + 64 < cLine:=by have:=r.un; omega
def tNil:TA:=fun _ H Q=>Q [] H
def tCons (ta:TE) (tr:TA):TA:=fun σ H Q=>ta σ H fun x H1=>tr σ H1 fun xs H2=>Q (x :: xs) H2
section
variable {X:Cx} {e:Expr} {es:List Expr} {te:TE} {t:TA} {pos:Pos}
theorem ja8:PA X [] tNil:=fun _ _ _ _ H Q I h=>Calls.spliced_nil ⟨[],H,I,.nil,h⟩
theorem ja2 (ha:PE X e te) (hr:PA X es t) (hs:starEach (e :: es) X.env=(false,eval e X.env) :: starEach es X.env:=by rfl):PA X (e :: es) (tCons te t):=by
 intro pos pins s σ H Q I h
 rw [hs]
 show wpAny _ _ (spliced ((false,eval e X.env) :: backTo pos (starEach es X.env))) _ _ s
 refine Calls.spliced_cons (thn (ha pins s σ H _ I h) fun u s1 ⟨x,H1,I1,r1,q1⟩=>?_)
 exact thn (hr pos pins s1 σ H1 _ I1 q1) fun us s2 ⟨xs,H2,I2,r2,q2⟩=>⟨x :: xs,H2,I2,.cons r1 r2,q2⟩
def tTup (t:TA):TE:=fun σ H Q=>t σ H fun xs H1=>xs.length ≤ sizeLine∧∀ p,H1 p=none→Q (.ref p) (upd H1 p (.tup xs))
def tLst (t:TA):TE:=fun σ H Q=>t σ H fun xs H1=>xs.length ≤ sizeLine∧∀ p,H1 p=none→Q (.ref p) (upd H1 p (.lst xs))
theorem pe_tup {x1} (h:PA X es t):PE X (.Tuple es x1 pos) (tTup t):=by
 intro pins s σ H Q I hq
 refine wpAny_Tuple_spliced (thn (h pos pins s σ H _ I hq) fun us s1 ⟨xs,H1,I1,r,z,q⟩=>⟨by rw [← r.length]; exact z,?_⟩)
 have hf:H1 s1.heap.objs.size=none:=I1.hok.fresh (Nat.le_refl _)
 refine ⟨.ref s1.heap.objs.size,upd H1 s1.heap.objs.size (.tup xs),I1.laid (t':=s1.toks) (fun b u e=>Heap.get?_push_of_some _ e) (Nat.le_refl _) ?_,rfl,q _ hf⟩
 exact ⟨z,us,r,⟨_,Heap.get?_push_size _ rfl,rfl,_,rfl⟩⟩
theorem pe_lst (h:PA X es t):PE X (.List es pos) (tLst t):=by
 intro pins s σ H Q I hq
 refine wpAny_List_spliced (thn (h pos pins s σ H _ I hq) fun us s1 ⟨xs,H1,I1,r,z,q⟩=>⟨by rw [← r.length]; exact z,?_⟩)
 have hf:H1 s1.heap.objs.size=none:=I1.hok.fresh (Nat.le_refl _)
 refine ⟨.ref s1.heap.objs.size,upd H1 s1.heap.objs.size (.lst xs),I1.laid (t':=s1.toks) (fun b u e=>Heap.get?_push_of_some _ e) (Nat.le_refl _) ?_,rfl,q _ hf⟩
 exact ⟨z,us,0,r,Heap.get?_push_size _ rfl⟩
end
abbrev Sp:=List V→Hp→VK→XK→Prop
abbrev CXT:=List Env→Hp→Shared→XK→Value→Shared→Prop
structure Env0 (P:Program) (w:World) (K:PySem.W.Frag) (mg:Str→Option Value) (base:Heap) (A:Around) (outer:List Env) (s:Shared) (H:Hp):Prop where
 frames:A.frames=some outer
 mod:Mod K mg base
 bs:∀ b o,base.get? b=some o→s.heap.get? b=some o∧H b=none
 bsz:base.objs.size ≤ s.heap.objs.size
 funs:s.heap.FunFrames base outer
 frf:∀ b ∈ frs outer,H b=none
 hok:HOk P w H s.heap
 bare:AllBare s.gens
def CE (outer:List Env) (P:Program) (w:World) (H:Hp) (s:Shared) (Q:VK) (u:Value) (s':Shared):Prop :=
 ∃ v H',s'.os=s.os∧AllBare s'.gens∧Un (frs outer) [] H H' s.heap s'.heap∧HOk P w H' s'.heap∧RelV v u∧Q v H'
def CR (CX:CXT) (outer:List Env) (P:Program) (w:World) (H:Hp) (s:Shared) (Q:VK) (E:XK) (r:Result) (s':Shared):Prop :=
 match r with
 | .ok (.ret u)=>CE outer P w H s Q u s'
 | .ok _=>False
 | .error e=>CX outer H s E e s'
structure FnOk (P:Program) (w:World) (K:PySem.W.Frag) (mg:Str→Option Value) (base:Heap) (CX:CXT) (k:Nat) (f:Addr) (fd:FuncData) (ps:List Str) (sp:Sp):Prop where
 len:∀ vs H Q E,sp vs H Q E→vs.length=ps.length
 run:∀ (A:Around) (outer:List Env) (s:Shared) (H:Hp) (args:Args) (us:List Value) (vs:List V) (Q:VK) (E:XK),Room k A→Env0 P w K mg base A outer s H→BindsTo s fd args (ps.zip us)→Vals vs us→sp vs H Q E →
  codeAny (model P w) A (.call (.ref f) args) (CR CX outer P w H s Q E) s
theorem FnOk.imp {P:Program} {w:World} {K:PySem.W.Frag} {mg:Str→Option Value} {base:Heap} {CX:CXT} {k:Nat} {f:Addr} {fd:FuncData} {ps:List Str} {sp sp':Sp} (F:FnOk P w K mg base CX k f fd ps sp)
  (h:∀ vs H Q E,sp' vs H Q E→sp vs H Q E):FnOk P w K mg base CX k f fd ps sp' :=
 ⟨fun vs H Q E q=>F.len vs H Q E (h _ _ _ _ q),fun A outer s H args us vs Q E hr he hb hv hs=>F.run A outer s H args us vs Q E hr he hb hv (h _ _ _ _ hs)⟩
section
variable {X:Cx} {pins:List (Addr × Obj)} {σ:St} {H:Hp} {s s':Shared}
theorem Inv.env0 (I:Inv X pins σ H s):Env0 X.prog X.w X.K X.mg X.base X.A X.stack s H :=
 ⟨I.ok.frames,I.ok.mod,I.bs,Nat.le_trans I.ok.bsz I.sz,I.stack,I.stkFree,I.hok,I.bare⟩
theorem Inv.after {Q:VK} {u:Value} (I:Inv X pins σ H s) (h:CE X.stack X.prog X.w H s Q u s'):EP X pins σ Q u s':=by
 obtain ⟨v,H',os,bare,un,hok,r,q⟩:=h
 obtain ⟨hh,g,d,t,os'⟩:=s'
 obtain rfl:os'=s.os:=os
 exact ⟨v,H',I.call (h':=hh) (g':=g) (d':=d) (t':=t) (ch:=[]) un hok bare (fun b z=>absurd z (by simp)),r,q⟩
end
def tCall (sp:Sp) (dvs:List V) (E:XK) (t:TA):TE:=fun σ H Q=>t σ H fun vs H1=>sp (vs ++ dvs) H1 Q E
def Binds (K:PySem.W.Frag) (fd:FuncData) (ps:List Str) (ds:List Value):Prop :=
 ∀ (s:Shared) (us:List Value),K.In s.heap→(us ++ ds).length=ps.length→BindsTo s fd ⟨us,[]⟩ (ps.zip (us ++ ds))
theorem Binds.all {K:PySem.W.Frag} {fd:FuncData} {ps:List Str} (h:∀ us:List Value,us.length=ps.length→bindArgs fd ⟨us,[]⟩=pure (ps.zip us)):Binds K fd ps []:=fun s us _ hl=>by
 rw [List.append_nil] at hl ⊢
 exact .of_eq (h us hl)
def Passes (CX:CXT) (X:Cx) (E:XK):Prop:=∀ (pins:List (Addr × Obj)) (σ:St) (H:Hp) (s:Shared) (e:Value) (s':Shared),Inv X pins σ H s→CX X.stack H s E e s'→X.xe e s'
section
variable {X:Cx} {CX:CXT} {k:Nat} {f C:Addr} {fd:FuncData} {ps:List Str} {sp:Sp} {dvs:List V} {ds:List Value} {E:XK} {x m:Str} {p pos apos:Pos} {e o:Expr} {es:List Expr} {ta:TE} {t:TA}
theorem run_fn {pins:List (Addr × Obj)} {σ:St} {H:Hp} {s:Shared} {Q:VK} {us:List Value} {vs:List V} (F:FnOk X.prog X.w X.K X.mg X.base CX k f fd ps sp) (hr:Room k X.A) (hb:Binds X.K fd ps ds) (hd:Vals dvs ds) (hx:Passes CX X E)
  (I:Inv X pins σ H s) (r:Vals vs us) (h:sp (vs ++ dvs) H Q E):wpAny (model X.prog X.w) X.A (call (.ref f) us) (EP X pins σ Q) X.xe s:=by
 have r2:Vals (vs ++ dvs) (us ++ ds):=r.append hd
 have hl:(us ++ ds).length=ps.length:=by rw [← r2.length]; exact F.len _ _ _ _ h
 refine wpAny_call (codeAny_mono (F.run X.A X.stack s H ⟨us,[]⟩ (us ++ ds) (vs ++ dvs) Q E hr I.env0 (hb s us I.kIn hl) r2 h) fun r s' hq=>?_)
 cases r with
 | error e=>exact hx pins σ H s e s' I hq
 | ok fl =>
  cases fl with
  | ret u=>exact I.after hq
  | next=>exact False.elim hq
  | brk=>exact False.elim hq
  | cont=>exact False.elim hq
theorem jb8 (F:FnOk X.prog X.w X.K X.mg X.base CX k f fd ps sp) (hr:Room k X.A) (hg:Gl X x) (hm:X.mg x=some (.ref f)) (hk:PySem.W.keepIn X.K (.ref f)=true) (hb:Binds X.K fd ps ds) (hd:Vals dvs ds) (hx:Passes CX X E)
  (ha:PA X (e :: es) t) (hdb:(x == ("__debug__" : Str))=false:=by decide) (he:starEach (e :: es) X.env=(false,eval e X.env) :: starEach es X.env:=by rfl) (hpl:(backTo pos (starEach es X.env)).any (·.1)=false:=by rfl) :
  PE X (.Call (.Name x p) (e :: es) [] pos) (tCall sp dvs E t):=by
 intro pins s σ H Q I h
 refine wpAny_Call_Name_kw (ld_glob I hg hm ?_ hdb)
 refine PySem.W.callWith_K (h₀:=X.base) I.ok.mod.kin hk (thn (ha pos pins s σ H _ I h) fun us s1 ⟨vs,H1,I1,r,q⟩=>⟨I1.kIn,?_⟩) he hpl
 exact run_fn F hr hb hd hx I1 r q
end
section
variable {X:Cx} {CX:CXT} {k:Nat} {f C:Addr} {fd:FuncData} {ps ks:List Str} {sp:Sp} {E:XK} {x m:Str} {p pos apos kpos:Pos} {e o:Expr} {es:List Expr} {kws:List Keyword} {te ta:TE} {t tk:TA} {nm:Option Str}
variable {g:List Value→List Value→List Value} {gV:List V→List V→List V}
end
structure FnScope (N P:List Str) (sc:Scope):Prop where
 kind:sc.kind=.function
 co:sc.isCoroutine=false
 gen:sc.isGenerator=false
 nd:N.Nodup
 pre:N.take P.length=P
 par:∀ x ∈ P,sc.names.lookup x=some .local ∨ sc.names.lookup x=some .cell
 nofree:∀ y ∈ sc.names,y.2 ≠ .free
theorem bindL_out {kindOf:Str→Option NameKind} {x:Str}:∀ {binds:List (Str × Value)} {m:Str→Option Value},(∀ v,(x,v) ∉ binds)→bindL kindOf binds m x=m x
 | [],_,_=>rfl
 | (n,v) :: r,m,h=>by
  unfold bindL
  rw [bindL_out fun w hw=>h w (List.mem_cons_of_mem _ hw)]
  split
  ·have:x ≠ n:=by rintro rfl; exact h v List.mem_cons_self
   simp [this]
  ·rfl
theorem bindC_out {kindOf:Str→Option NameKind} {x:Str}:∀ {binds:List (Str × Value)} {m:Str→Option Value},(∀ v,(x,v) ∉ binds)→bindC kindOf binds m x=m x
 | [],_,_=>rfl
 | (n,v) :: r,m,h=>by
  unfold bindC
  rw [bindC_out fun w hw=>h w (List.mem_cons_of_mem _ hw)]
  split
  ·rfl
  ·have:x ≠ n:=by rintro rfl; exact h v List.mem_cons_self
   simp [this]
theorem bindL_get {kindOf:Str→Option NameKind} {x:Str} {v:Value}:∀ {P:List Str} {vs:List Value} {i:Nat} {m:Str→Option Value},P.Nodup→P[i]?=some x→vs[i]?=some v→kindOf x=some .local →
  bindL kindOf (P.zip vs) m x=some v
 | [],_,_,_,_,h,_,_=>by simp at h
 | _ :: _,[],_,_,_,_,h,_=>by simp at h
 | p :: P,w :: vs,0,m,nd,h1,h2,hk=>by
  simp at h1 h2; subst h1; subst h2
  show bindL kindOf ((p,w) :: P.zip vs) m p=_
  unfold bindL
  rw [bindL_out fun v hv=>(List.nodup_cons.mp nd).1 (List.of_mem_zip hv).1,if_pos hk]
  simp
 | p :: P,w :: vs,i + 1,m,nd,h1,h2,hk=>by
  show bindL kindOf ((p,w) :: P.zip vs) m x=_
  unfold bindL
  exact bindL_get (i:=i) (List.nodup_cons.mp nd).2 (by simpa using h1) (by simpa using h2) hk
theorem bindC_get {kindOf:Str→Option NameKind} {x:Str} {v:Value}:∀ {P:List Str} {vs:List Value} {i:Nat} {m:Str→Option Value},P.Nodup→P[i]?=some x→vs[i]?=some v→kindOf x ≠ some .local →
  bindC kindOf (P.zip vs) m x=some v
 | [],_,_,_,_,h,_,_=>by simp at h
 | _ :: _,[],_,_,_,_,h,_=>by simp at h
 | p :: P,w :: vs,0,m,nd,h1,h2,hk=>by
  simp at h1 h2; subst h1; subst h2
  show bindC kindOf ((p,w) :: P.zip vs) m p=_
  unfold bindC
  rw [bindC_out fun v hv=>(List.nodup_cons.mp nd).1 (List.of_mem_zip hv).1,if_neg hk]
  simp
 | p :: P,w :: vs,i + 1,m,nd,h1,h2,hk=>by
  show bindC kindOf ((p,w) :: P.zip vs) m x=_
  unfold bindC
  exact bindC_get (i:=i) (List.nodup_cons.mp nd).2 (by simpa using h1) (by simpa using h2) hk
def start (N:List Str) (vs:List V):St:=vs.map some ++ List.replicate (N.length - vs.length) none
def cxOf (CX:CXT) (P:Program) (w:World) (K:PySem.W.Frag) (mg:Str→Option Value) (base:Heap) (N:List Str) (qual:Str) (scope:Scope) (f:Addr) (cd:Value) (A:Around) (outer:List Env) (s:Shared) (H:Hp) (E:XK):Cx where
 prog:=P
 w:=w
 K:=K
 mg:=mg
 base:=base
 A:=A.deeper (envOfC qual scope s.heap.objs.size f cd)
 N:=N
 s₀:=s
 H₀:=H
 env:=envOfC qual scope s.heap.objs.size f cd
 outer:=outer
 stack:=envOfC qual scope s.heap.objs.size f cd :: outer
 ex:=[]
 calm:=true
 fn:=fun _=>true
 pn:=[]
 xe:=fun e s'=>wpAny (model P w) (A.deeper (envOfC qual scope s.heap.objs.size f cd)) (leaving (envOfC qual scope s.heap.objs.size f cd) e) (fun _ s''=>CX outer H s E e s'') (fun e' s''=>CX outer H s E e' s'') s'
theorem cell_has {sc:Scope} {n:Nat} {x:Str} (h:sc.names.lookup x=some .cell):∃ c,(cellsFrom n sc.names []).lookup x=some c:=by
 have q:=PySem.W.cellsFrom_some sc.names n [] (.inl h)
 exact Option.isSome_iff_exists.mp q
theorem inv_start {CX:CXT} {P:Program} {w:World} {K:PySem.W.Frag} {mg:Str→Option Value} {base:Heap} {N ps:List Str} {qual:Str} {scope:Scope} {f:Addr} {cd:Value} {A:Around} {outer:List Env} {s s1:Shared} {H:Hp} {E:XK} {us:List Value} {vs:List V}
  (S:FnScope N ps scope) (hd:A.handled=none) (e0:Env0 P w K mg base A outer s H) (hl:vs.length=ps.length) (r:Vals vs us)
  (x:InCallC s s.heap.objs.size (bindL (envOfC qual scope s.heap.objs.size f cd).kindOf (ps.zip us) fun _=>none) (cellsFrom (s.heap.objs.size + 1) scope.names []) (bindC (envOfC qual scope s.heap.objs.size f cd).kindOf (ps.zip us) fun _=>none) s1) :
  Inv (cxOf CX P w K mg base N qual scope f cd A outer s H E) [] (start N vs) H s1:=by
 have hpl:ps.length ≤ N.length:=by have:=congrArg List.length S.pre; rw [List.length_take] at this; omega
 obtain ⟨h1,tk,rfl,hk⟩:=x.done
 have noA:∀ b:Addr,b ∉ (cxOf CX P w K mg base N qual scope f cd A outer s H E).ex:=fun b z=>absurd (show b ∈ ([]:List Addr) from z) (by simp)
 refine ⟨⟨e0.mod,S.kind,rfl,rfl,Nat.le_refl _,fun y z c h1 h2=>?_,fun y hy=>?_,fun y c _ h=>?_,fun _=>hd,Around.frames_deeper e0.frames,.inr ⟨rfl,rfl⟩,fun b z=>absurd z (noA b),e0.bs,e0.bsz,fun b _ _=>noA b,fun b z=>absurd z (noA b),e0.funs,e0.frf⟩,
  rfl,e0.bare,Un.kept hk,⟨_,x.toInCall.ns,fun i y v h1 h2 h3=>?_⟩,fun y c h=>⟨_,x.cell y c h⟩,e0.hok.fresh (Nat.le_refl _),fun y c h=>?_,fun p hp=>absurd (show p ∈ ([]:List (Addr × Obj)) from hp) (by simp),e0.hok.kept hk,?_⟩
 ·exact name_of_addr x.apart (PySem.mem_of_lookup h1) (PySem.mem_of_lookup h2)
 ·have hy:scope.names.lookup y=some .cell ∨ scope.names.lookup y=some .free:=hy
  rcases hy with hy | hy
  ·exact cell_has hy
  ·exact absurd rfl (S.nofree _ (PySem.mem_of_lookup hy))
 ·exact Nat.le_of_lt (x.above y c (PySem.mem_of_lookup h))
 ·have hi:i < vs.length:=by
   unfold start at h2
   by_cases hi:i < vs.length
   ·exact hi
   ·rw [List.getElem?_append_right (by simpa using hi)] at h2
    rw [List.getElem?_replicate] at h2
    split at h2 <;> cases h2
  have ha:vs[i]?=some v:=by
   unfold start at h2
   rw [List.getElem?_append_left (by simpa using hi),List.getElem?_map] at h2
   cases e:vs[i]? with
   | none=>rw [e] at h2; cases h2
   | some a=>rw [e] at h2; cases h2; rfl
  obtain ⟨u,hu,rv⟩:=r.get ha
  have hp:ps[i]?=some y:=by
   rw [← S.pre,List.getElem?_take_of_lt (by omega)]; exact h1
  have ndP:ps.Nodup:=by rw [← S.pre]; exact S.nd.sublist (List.take_sublist _ _)
  refine ⟨u,rv,?_⟩
  rcases S.par y (List.mem_of_getElem? hp) with k | k
  ·exact .inl ⟨k,bindL_get ndP hp hu k⟩
  ·obtain ⟨c,e⟩:=cell_has (n:=s.heap.objs.size + 1) k
   refine .inr ⟨.inl k,c,e,?_⟩
   have q:=x.cell y c e
   rw [bindC_get ndP hp hu (by show scope.names.lookup y ≠ _; rw [k]; decide)] at q
   exact q
 ·exact e0.hok.fresh (Nat.le_of_lt (x.above y c (PySem.mem_of_lookup h)))
 ·unfold start
  show _=N.length
  rw [List.length_append,List.length_map,List.length_replicate]
  omega
theorem fn_of {CX:CXT} {P:Program} {w:World} {K:PySem.W.Frag} {mg:Str→Option Value} {base:Heap} {k:Nat} {f:Addr} {name qual:Str} {params:Arguments} {body:List Stmt} {scope:Scope} {dV kV doc pm cdv ct oc:Value} {an od:Option Addr}
  {osl:Array (Option Value)} {N ps:List Str} {sp:Sp} (lk:K.lookup f=some ⟨oc,od,.func (PySem.W.fnOf name qual params body scope dV kV doc pm an cdv ct),osl⟩) (hcd:PySem.W.codeIn K cdv qual=true) (S:FnScope N ps scope)
  (len:∀ vs H Q E,sp vs H Q E→vs.length=ps.length)
  (hbody:∀ (A:Around) (outer:List Env) (s:Shared) (H:Hp) (vs:List V) (Q:VK) (E:XK),Room k (A.deeper (envOfC qual scope s.heap.objs.size f cdv))→sp vs H Q E →
   ∃ t,PSs (cxOf CX P w K mg base N qual scope f cdv A outer s H E) body t∧t { nx:=fun _ H'=>Q .non H',rt:=Q } (start N vs) H) :
  FnOk P w K mg base CX (k + 1) f (PySem.W.fnOf name qual params body scope dV kV doc pm an cdv ct) ps sp:=by
 refine ⟨len,fun A outer s H args us vs Q E hr e0 hb r hsp=>?_⟩
 have hl:=len _ _ _ _ hsp
 have KX:K.In s.heap:=e0.mod.kin.keeps fun b o e=>(e0.bs b o e).1
 have lim:s.heap.NoLimit:=e0.mod.nolimit.keeps fun b o e=>(e0.bs b o e).1
 have hkind:∀ y ∈ ps.zip us,scope.names.lookup y.1=some .local ∨ (scope.names.lookup y.1=some .cell∧((cellsFrom (s.heap.objs.size + 1) scope.names []).lookup y.1).isSome=true):=fun ⟨n,v⟩ hy=>by
  rcases S.par n (List.of_mem_zip hy).1 with q | q
  ·exact .inl q
  ·exact .inr ⟨q,PySem.W.cellsFrom_some _ _ _ (.inl q)⟩
 refine codeAny_call_function hr.depth (KX _ _ lk) rfl S.co S.gen rfl (PySem.W.codeRec_of KX hcd) (hb _ _ _ _ ?_)
 refine wpAny_newFunctionEnv_cells S.kind hkind fun env he s1 x=>?_
 subst he
 refine ⟨lim.keeps x.toInCall.keep,codeAny_func ?_⟩
 obtain ⟨t,ht,hq⟩:=hbody A outer s H vs Q E (hr.deeper _) hsp
 have I:Inv (cxOf CX P w K mg base N qual scope f cdv A outer s H E) [] (start N vs) H s1:=inv_start S hr.hd e0 hl r x
 refine wpAny_mono (ht [] s1 (start N vs) H _ I hq) (fun fl s' hs=>?_) fun e s' hs=>hs
 have fin:∀ {σ':St} {H':Hp} {v:V} {u:Value},Inv (cxOf CX P w K mg base N qual scope f cdv A outer s H E) [] σ' H' s'→RelV v u→Q v H'→CE outer P w H s Q u s' :=
  fun {σ' H' v u} J rv q=>⟨v,H',J.os,J.bare,J.base,J.hok,rv,q⟩
 cases fl with
 | ret u =>
  obtain ⟨v,σ',H',J,rv,q⟩:=hs
  exact fin J rv q
 | next =>
  obtain ⟨σ',H',J,q⟩:=hs
  exact fin (v:=V.non) (u:=Value.none) J rfl q
 | brk =>
  obtain ⟨_,_,_,q⟩:=hs
  exact False.elim q
 | cont =>
  obtain ⟨_,_,_,q⟩:=hs
  exact False.elim q
end L2
namespace L2
open PySem PySem.Spec PyProof.Rows
section
variable {X:Cx} {x:Str} {p pos:Pos} {e:Expr} {es:List Expr} {t:TA} {id T:String} {r:List V→Hp→VK→Prop}
def tCB (r:List V→Hp→VK→Prop) (t:TA):TE:=fun σ H Q=>t σ H fun vs H1=>r vs H1 Q
theorem jd2 (hc:CallR X (.builtin id) r) (hg:Gl X x) (hm:X.mg x=none) (hv:bootBuiltins x=some (.builtin id)) (ha:PA X (e :: es) t) (hn:x ≠ "__name__":=by decide) (hdb:(x == ("__debug__" : Str))=false:=by decide)
  (he:starEach (e :: es) X.env=(false,eval e X.env) :: starEach es X.env:=by rfl) (hpl:(backTo pos (starEach es X.env)).any (·.1)=false:=by rfl):PE X (.Call (.Name x p) (e :: es) [] pos) (tCB r t):=by
 intro pins s σ H Q I h
 refine wpAny_Call_Name_kw (ld_blt I hg hm hv ?_ hn hdb)
 exact PyProof.Rows.callWith_builtin1 (thn (ha pos pins s σ H _ I h) fun us s1 ⟨vs,H1,I1,r1,q1⟩=>hc pins s1 σ H1 vs us Q I1 r1 q1) he hpl
theorem jg1 (hc:CallR X (.type T) r) (hg:Gl X x) (hm:X.mg x=none) (hv:bootBuiltins x=some (.type T)) (ha:PA X (e :: es) t) (hn:x ≠ "__name__":=by decide) (hdb:(x == ("__debug__" : Str))=false:=by decide)
  (he:starEach (e :: es) X.env=(false,eval e X.env) :: starEach es X.env:=by rfl) (hpl:(backTo pos (starEach es X.env)).any (·.1)=false:=by rfl):PE X (.Call (.Name x p) (e :: es) [] pos) (tCB r t):=by
 intro pins s σ H Q I h
 refine wpAny_Call_Name_kw (ld_blt I hg hm hv ?_ hn hdb)
 exact PyProof.Rows.callWith_type1 (thn (ha pos pins s σ H _ I h) fun us s1 ⟨vs,H1,I1,r1,q1⟩=>hc pins s1 σ H1 vs us Q I1 r1 q1) he hpl
end
end L2
namespace HT
open PySem PyProof.Rows
section
open PySem.SeqAt
open PySem.AutoSeq1 (wpAny_loadPart')
open PySem.MeetsSeq PySem.MeetsSeq2 PySem.MeetsSeq3
end
section
variable {prog:Program} {w:World} {A:Around} {E:Value→Shared→Prop} {s:Shared}
theorem cat_tup {t b:Addr} {vs ws:List Value} {Q:Value→Shared→Prop} (ht:IsTup s.heap t vs.toArray) (hb:IsTup s.heap b ws.toArray) (hv:vs ≠ [])
  (h1:ws=[]→Q (.ref t) s) (h2:ws ≠ []→Q (.ref s.heap.objs.size) { s with heap:=s.heap.push { cls:=.type "tuple",data:=.seq (vs ++ ws).toArray } })
  (hsz:vs.length + ws.length ≤ sizeLine):wpAny (model prog w) A (binaryOp .Add (.ref t) (.ref b)) Q E s:=by
 obtain ⟨⟨cls,dd,data,sl⟩,ho,hc,n,hd⟩:=id ht
 obtain ⟨⟨cls2,dd2,data2,sl2⟩,ho2,hc2,n2,hd2⟩:=id hb
 simp only at hc hd hc2 hd2
 subst hc hd hc2 hd2
 have e:vs.toArray ++ ws.toArray=(vs ++ ws).toArray:=by simp
 by_cases hw:ws=[]
 ·exact concat_meets ⟨_,ho,rfl⟩ ⟨_,ho2,rfl⟩ noFill_tuple_add seq_tuple_add PySem.F.slot_tuple_add PySem.F.entry_tuple_add (PySem.F.args_tuple_add_2 _ _)
   (tuple_addW1 t b vs.toArray ws.toArray n n2 dd dd2 sl sl2 (by simpa using hv) (by simp [hw])) ⟨ho,ho2,h1 hw⟩
 ·refine concat_meets ⟨_,ho,rfl⟩ ⟨_,ho2,rfl⟩ noFill_tuple_add seq_tuple_add PySem.F.slot_tuple_add PySem.F.entry_tuple_add (PySem.F.args_tuple_add_2 _ _)
   (tuple_addW2 t b vs.toArray ws.toArray n n2 dd dd2 sl sl2 (by simpa using hv) (by simpa using hw) (by rw [List.size_toArray,List.size_toArray]; exact hsz)) ⟨ho,ho2,?_⟩
  rw [e]
  exact h2 hw
def sIx (n d:Nat):Option Int→Nat
 | none=>d
 | some v=>if v < 0 then (v + (n:Int)).toNat else min v.toNat n
theorem sIx_none (n d:Nat):sIx n d none=d:=rfl
theorem sIx_le (n d:Nat) (hd:d ≤ n) (o:Option Int):sIx n d o ≤ n:=by
 cases o with
 | none=>exact hd
 | some v =>
  show (if v < 0 then (v + (n:Int)).toNat else min v.toNat n) ≤ n
  by_cases hv:v < 0
  ·rw [if_pos hv]; omega
  ·rw [if_neg hv]; exact Nat.min_le_right _ _
theorem clip_eq (v:Int) (n d:Nat):(if v < 0 then max (v + (n:Int)) 0 else min v (n:Int))=((sIx n d (some v):Nat):Int):=by
 show (if v < 0 then max (v + (n:Int)) 0 else min v (n:Int))=(((if v < 0 then (v + (n:Int)).toNat else min v.toNat n):Nat):Int)
 by_cases hv:v < 0
 ·simp only [if_pos hv]; omega
 ·simp only [if_neg hv]; omega
theorem adjust_gen (lo hi:Option Int) (n:Nat):Builtin.Slice.sliceAdjust lo hi 1 (n:Int)=(((sIx n 0 lo:Nat):Int),((sIx n n hi:Nat):Int)):=by
 have h1:¬ ((1:Int) < 0):=by omega
 unfold Builtin.Slice.sliceAdjust
 simp only [h1,if_false]
 refine Prod.ext ?_ ?_
 ·cases lo with
  | none=>rfl
  | some v=>exact clip_eq v n 0
 ·cases hi with
  | none=>rfl
  | some v=>exact clip_eq v n n
theorem places_gen (i j:Nat):Builtin.Slice.slicePlaces (i:Int) (j:Int) 1=j - i:=by
 unfold Builtin.Slice.slicePlaces
 have h1:(1:Int) > 0:=by omega
 simp only [h1,if_true,Int.ediv_one]
 split <;> omega
theorem slicePart_ {v:Value} {o:Option Int} {Q:Option Int→Shared→Prop} (p:IsPart v o) (h:Q o s):wpAny (model prog w) A (Builtin.Slice.slicePartIndex v) Q E s:=by
 cases p with
 | none=>exact slicePart_none h
 | int i t=>exact slicePart_int h
theorem sliceApplied_gen {sl:Addr} {vl vu:Value} {lo hi:Option Int} {n:Nat} {Q:Int × Int × Nat→Shared→Prop} (hs:s.heap.IsSliceOf sl vl vu .none) (pl:IsPart vl lo) (pu:IsPart vu hi)
  (h:Q (((sIx n 0 lo:Nat):Int),1,sIx n n hi - sIx n 0 lo) s):wpAny (model prog w) A (Builtin.Slice.sliceApplied (.ref sl) (pure (n:Int))) Q E s:=by
 obtain ⟨os,hos,hcs,hds⟩:=id hs
 unfold Builtin.Slice.sliceApplied Builtin.Slice.sliceFields
 refine wpAny_bind (wpAny_bind (wpAny_field hos hds (x:=vl) rfl (wpAny_bind (wpAny_field hos hds (x:=vu) rfl (wpAny_bind (wpAny_field hos hds (x:=.none) rfl (wpAny_pure ?_)))))))
 refine wpAny_bind (slicePart_none ?_)
 show wpAny _ _ (if ((1:Int) == 0)=true then _ else _) _ _ s
 rw [if_neg (by decide)]
 refine wpAny_bind (slicePart_ pl (wpAny_bind (slicePart_ pu (wpAny_bind (wpAny_pure ?_)))))
 show wpAny _ _ (match Builtin.Slice.sliceAdjust lo hi 1 (n:Int) with | (lo,hi)=>pure (lo,(1:Int),Builtin.Slice.slicePlaces lo hi 1)) _ _ s
 rw [adjust_gen lo hi n]
 show wpAny _ _ (pure (((sIx n 0 lo:Nat):Int),(1:Int),Builtin.Slice.slicePlaces ((sIx n 0 lo:Nat):Int) ((sIx n n hi:Nat):Int) 1)) _ _ s
 rw [places_gen]
 exact wpAny_pure h
theorem pick_gen (xs:Array Value) (i k:Nat):((List.range k).filterMap fun (m:Nat)=>xs[((i:Int) + (m:Int) * 1).toNat]?).toArray=((xs.toList.drop i).take k).toArray:=by
 have e:(fun (m:Nat)=>xs[((i:Int) + (m:Int) * 1).toNat]?)=fun m=>xs[i + m]?:=by
  funext m
  have:((i:Int) + (m:Int) * 1).toNat=i + m:=by omega
  rw [this]
 rw [e]
 have:=pick_run xs i k
 rw [List.filterMap_map] at this
 have e2:((fun x=>xs[x]?) ∘ fun x=>i + x)=fun m=>xs[i + m]?:=rfl
 rw [e2] at this
 rw [this]
theorem getItem_tuple_cut {t sl:Addr} {items:Array Value} {vl vu:Value} {lo hi:Option Int} {Q:Value→Shared→Prop} (ht:IsTup s.heap t items) (hs:s.heap.IsSliceOf sl vl vu .none) (pl:IsPart vl lo) (pu:IsPart vu hi)
  (hw:¬ (sIx items.size 0 lo=0∧sIx items.size items.size hi=items.size))
  (h:Q (.ref s.heap.objs.size) { s with heap:=s.heap.push { cls:=.type "tuple",data:=.seq ((items.toList.drop (sIx items.size 0 lo)).take (sIx items.size items.size hi - sIx items.size 0 lo)).toArray } })
  (hsz:items.size ≤ sizeLine):wpAny (model prog w) A (getItem (.ref t) (.ref sl)) Q E s:=by
 have htake:sizeOk (.seq ((items.toList.drop (sIx items.size 0 lo)).take (sIx items.size items.size hi - sIx items.size 0 lo)).toArray):=by
  show ((items.toList.drop (sIx items.size 0 lo)).take (sIx items.size items.size hi - sIx items.size 0 lo)).toArray.size ≤ sizeLine
  rw [List.size_toArray,List.length_take,List.length_drop,Array.length_toList]
  omega
 have hj:sIx items.size items.size hi ≤ items.size:=sIx_le _ _ (Nat.le_refl _) hi
 obtain ⟨os,hos,hcs,hds⟩:=id hs
 have hTs:s.TypeIs (.ref sl) "slice":=⟨os,hos,hcs⟩
 unfold getItem
 try with_reducible refine wpAny_holding ?_
 first | refine wpAny_bind (wpAny_pure ?_) | skip
 refine wpAny_bind (wpAny_sequenceKey ht.typeIs (by decide) ?_)
 refine wpAny_bind (wpAny_callSpecial?_slot (name:=Str.ofString "__getitem__") ht.typeIs PyProof.Rows.slot_tuple_getitem
  (wpAny_call_entry PyProof.Rows.slot_tuple_getitem ht.typeIs entry_tuple_getitem ?_ (args_tuple_getitem _ _)))
 show wpAny _ _ (Builtin.Tuple.tupleItemsOf (.ref t) >>= _) _ _ s
 refine wpAny_bind (tupleItemsOf_ ht ?_)
 refine wpAny_bind (wpAny_typeOf hTs ?_)
 rw [if_pos (by decide)]
 refine wpAny_bind (sliceApplied_gen hs pl pu ?_)
 have hno:¬ ((((sIx items.size 0 lo:Nat):Int) == 0 && (1:Int) == 1 && (sIx items.size items.size hi - sIx items.size 0 lo) == items.size)=true):=by
  intro q
  rw [Bool.and_eq_true,Bool.and_eq_true] at q
  have q1:((sIx items.size 0 lo:Nat):Int)=0:=eq_of_beq q.1.1
  have q2:sIx items.size items.size hi - sIx items.size 0 lo=items.size:=eq_of_beq q.2
  exact hw ⟨by omega,by omega⟩
 show wpAny _ _ (if (((sIx items.size 0 lo:Nat):Int) == 0 && (1:Int) == 1 && (sIx items.size items.size hi - sIx items.size 0 lo) == items.size)=true then _ else _) _ _ s
 rw [if_neg hno,pick_gen]
 first
  | exact wpAny_bind (m:=Builtin.Tuple.tupleExact _) (wpAny_newObj_type (wpAny_pure ⟨_,rfl,wpAny_pure h⟩) htake)
  | exact wpAny_bind (m:=Builtin.Tuple.tupleExact _) (wpAny_newObj_type (wpAny_bind (wpAny_pure (wpAny_pure ⟨_,rfl,wpAny_pure h⟩))) htake)
  | exact wpAny_bind (wpAny_bind (m:=Builtin.Tuple.tupleExact _) (wpAny_newObj_type (wpAny_pure (wpAny_pure ⟨_,rfl,wpAny_pure h⟩)) htake))
  | exact wpAny_bind (wpAny_bind (m:=Builtin.Tuple.tupleExact _) (wpAny_newObj_type (wpAny_pure ⟨_,rfl,wpAny_pure h⟩) htake))
end
end HT
namespace L2
open PySem PySem.Spec PyProof.Rows
abbrev TO:=St→Hp→(Option Int→Hp→Prop)→Prop
def PO (X:Cx) (e:Option Expr) (t:TO):Prop :=
 ∀ (pins:List (Addr × Obj)) (s:Shared) (σ:St) (H:Hp) (Q:Option Int→Hp→Prop),Inv X pins σ H s→t σ H Q →
  wpAny (model X.prog X.w) X.A (evalPart e X.env) (fun u s'=>∃ o H',Inv X pins σ H' s'∧IsPart u o∧Q o H') X.xe s
def tNoPart:TO:=fun _ H Q=>Q none H
def tPart (t:TE):TO:=fun σ H Q=>t σ H fun x H1=>∃ i,x=.int i∧Q (some i) H1
section
variable {X:Cx} {e:Expr} {te:TE} {lo hi:Option Expr} {tl th:TO} {pos p2:Pos}
theorem po_none:PO X none tNoPart:=by
 intro pins s σ H Q I h
 rw [evalPart_none]
 exact wpAny_pure ⟨none,H,I,.none,h⟩
theorem po_some (h:PE X e te):PO X (some e) (tPart te):=by
 intro pins s σ H Q I hw
 rw [evalPart_some]
 refine thn (h pins s σ H _ I hw) fun u s1 ⟨x,H1,I1,r1,q1⟩=>?_
 obtain ⟨i,rfl,q⟩:=q1
 obtain ⟨t,rfl⟩:=r1
 exact ⟨some i,H1,I1,.int i t,q⟩
def SlR (X:Cx) (r:V→Option Int→Option Int→Hp→VK→Prop):Prop :=
 ∀ (pins:List (Addr × Obj)) (s:Shared) (σ:St) (H:Hp) (x:V) (v vl vu:Value) (lo hi:Option Int) (sl:Addr) (Q:VK),Inv X pins σ H s→RelV x v→s.heap.IsSliceOf sl vl vu .none→IsPart vl lo→IsPart vu hi→r x lo hi H Q →
  ∃ T id,typeLookup (.type T) "__getitem__"=pure (some (.builtin id))∧s.TypeIs v T∧wpAny (model X.prog X.w) X.A (getItem v (.ref sl)) (EP X pins σ Q) X.xe s
theorem SlR.or {r r':V→Option Int→Option Int→Hp→VK→Prop} (h:SlR X r) (h':SlR X r'):SlR X (fun x lo hi H Q=>r x lo hi H Q ∨ r' x lo hi H Q):=by
 intro pins s σ H x v vl vu lo hi sl Q I rx hs pl pu q
 rcases q with q | q
 ·exact h pins s σ H x v vl vu lo hi sl Q I rx hs pl pu q
 ·exact h' pins s σ H x v vl vu lo hi sl Q I rx hs pl pu q
def tSl (r:V→Option Int→Option Int→Hp→VK→Prop) (te:TE) (tl th:TO):TE:=fun σ H Q=>te σ H fun x H1=>tl σ H1 fun l H2=>th σ H2 fun u H3=>r x l u H3 Q
theorem pe_slice {r:V→Option Int→Option Int→Hp→VK→Prop} (hr:SlR X r) (he:PE X e te) (hl:PO X lo tl) (hu:PO X hi th):PE X (.Subscript e (.Slice lo hi none p2) pos) (tSl r te tl th):=by
 intro pins s σ H Q I h
 refine Subscript_ (thn (he pins s σ H _ I h) fun v s1 ⟨x,H1,I1,r1,q1⟩=>?_)
 refine wpAny_Slice (thn (hl pins s1 σ H1 _ I1 q1) fun vl s2 ⟨l,H2,I2,pl,q2⟩=>thn (hu pins s2 σ H2 _ I2 q2) fun vu s3 ⟨u,H3,I3,pu,q3⟩=>?_)
 rw [evalPart_none]
 refine wpAny_pure ?_
 have I4:Inv X pins σ H3 { s3 with heap:=s3.heap.push { cls:=.type "slice",data:=.fields #[vl,vu,.none] } }:=I3.kept (t':=s3.toks) fun b ob q=>Heap.get?_push_of_some _ q
 obtain ⟨T,id,hT,ht,hg⟩:=hr pins { s3 with heap:=s3.heap.push { cls:=.type "slice",data:=.fields #[vl,vu,.none] } } σ H3 x v vl vu l u s3.heap.objs.size Q I4 r1 (Heap.IsSliceOf.new ..) pl pu q3
 show wpAny (model X.prog X.w) X.A (subscriptTail e (.Slice lo hi none p2) v (.ref s3.heap.objs.size)) (EP X pins σ Q) X.xe { s3 with heap:=s3.heap.push { cls:=.type "slice",data:=.fields #[vl,vu,.none] } }
 exact tail_any (ops:=[.ref s3.heap.objs.size,v]) ht hT hg (by with_unfolding_all rfl)
def cutV (xs:List V) (lo hi:Option Int):List V:=(xs.drop (HT.sIx xs.length 0 lo)).take (HT.sIx xs.length xs.length hi - HT.sIx xs.length 0 lo)
theorem cutV_length (xs:List V) (lo hi:Option Int):(cutV xs lo hi).length ≤ xs.length:=by
 unfold cutV
 rw [List.length_take,List.length_drop]
 omega
def rSlT (K:PySem.W.Frag):V→Option Int→Option Int→Hp→VK→Prop:=fun x lo hi H Q=>∃ a xs,x=.ref a∧SqT K H a xs ∧
 ¬ (HT.sIx xs.length 0 lo=0∧HT.sIx xs.length xs.length hi=xs.length)∧∀ p,H p=none→Q (.ref p) (upd H p (.tup (cutV xs lo hi)))
theorem sl_tup:SlR X (rSlT X.K):=by
 intro pins s σ H x v vl vu lo hi sl Q I rx hs pl pu h
 obtain ⟨a,xs,rfl,hx,hw,q⟩:=h
 cases rx
 obtain ⟨its,r,ht,hz⟩:=I.tuple hx
 have hlen:its.toArray.size=xs.length:=by rw [List.size_toArray]; exact r.length.symm
 refine ⟨"tuple",_,PyProof.Rows.slot_tuple_getitem.lookup,ht.typeIs,?_⟩
 refine HT.getItem_tuple_cut ht hs pl pu (by rw [hlen]; exact hw) ?_ (by rw [hlen]; exact hz)
 rw [hlen]
 refine ⟨.ref s.heap.objs.size,_,I.laid (t':=s.toks) (o:=.tup (cutV xs lo hi)) (fun b ob q=>Heap.get?_push_of_some _ q) (Nat.le_refl _) ?_,rfl,q _ (I.hok.fresh (Nat.le_refl _))⟩
 exact ⟨Nat.le_trans (cutV_length xs lo hi) hz,_,(r.drop (HT.sIx xs.length 0 lo)).take (HT.sIx xs.length xs.length hi - HT.sIx xs.length 0 lo),IsTup.new _ _⟩
def rCatT (K:PySem.W.Frag):R2:=fun x y H Q=>∃ a b xs ys,x=.ref a∧y=.ref b∧SqT K H a xs∧SqT K H b ys∧xs ≠ []∧xs.length + ys.length ≤ sizeLine ∧
 (ys=[]→Q (.ref a) H)∧(ys ≠ []→∀ p,H p=none→Q (.ref p) (upd H p (.tup (xs ++ ys))))
theorem Vals.nil_iff {xs:List V} {us:List Value} (r:Vals xs us):us=[] ↔ xs=[]:=by
 cases r with
 | nil=>simp
 | cons _ _=>simp
theorem op_catT:OpR X (binaryOp .Add) (rCatT X.K):=by
 intro pins s σ H x y v u Q I rx ry h
 obtain ⟨a,b,xs,ys,rfl,rfl,ha,hb,hx,hz,q1,q2⟩:=h
 cases rx
 cases ry
 obtain ⟨its,r1,p1,_⟩:=I.tuple ha
 obtain ⟨its2,r2,p2,_⟩:=I.tuple hb
 refine HT.cat_tup p1 p2 (fun z=>hx (r1.nil_iff.mp z)) (fun z=>⟨.ref a,H,I,rfl,q1 (r2.nil_iff.mp z)⟩) (fun z=>?_) (by rw [← r1.length,← r2.length]; exact hz)
 refine ⟨.ref s.heap.objs.size,_,I.laid (t':=s.toks) (o:=.tup (xs ++ ys)) (fun b ob q=>Heap.get?_push_of_some _ q) (Nat.le_refl _) ?_,rfl,q2 (fun w=>z (r2.nil_iff.mpr w)) _ (I.hok.fresh (Nat.le_refl _))⟩
 exact ⟨by rw [List.length_append]; exact hz,_,r1.append r2,IsTup.new _ _⟩
end
end L2
namespace L2
open PySem PySem.Spec PyProof.Rows
def ixN (n:Nat) (i:Int):Option Nat:=if 0 ≤ i then (if i < n then some i.toNat else none) else if -(n:Int) ≤ i then some (i + n).toNat else none
def atI {α : Type} (xs:List α) (i:Int):Option α:=(ixN xs.length i).bind fun j=>xs[j]?
theorem ixN_seq {n:Nat} {i:Int} {j:Nat} (h:ixN n i=some j):seqIndex? i n=some j∧j < n∧-(n:Int) ≤ i∧i < n:=by
 unfold ixN at h
 by_cases h0:0 ≤ i
 ·rw [if_pos h0] at h
  by_cases h1:i < n
  ·rw [if_pos h1] at h
   have e:i.toNat=j:=Option.some.inj h
   exact ⟨by rw [seqIndex_of h0 h1,e],by omega,by omega,h1⟩
  ·rw [if_neg h1] at h; cases h
 ·rw [if_neg h0] at h
  by_cases h1:-(n:Int) ≤ i
  ·rw [if_pos h1] at h
   have e:(i + n).toNat=j:=Option.some.inj h
   exact ⟨by rw [seqIndex_neg (by omega) h1,e],by omega,h1,by omega⟩
  ·rw [if_neg h1] at h; cases h
theorem atI_get {α : Type} {xs:List α} {i:Int} {v:α} (h:atI xs i=some v):∃ j,seqIndex? i xs.length=some j∧xs[j]?=some v∧j < xs.length∧-(xs.length:Int) ≤ i∧i < xs.length:=by
 unfold atI at h
 cases e:ixN xs.length i with
 | none=>rw [e] at h; cases h
 | some j =>
  rw [e] at h
  obtain ⟨h1,h2,h3,h4⟩:=ixN_seq e
  exact ⟨j,h1,h,h2,h3,h4⟩
theorem jg6 {α : Type} {xs:List α} {j:Nat} {v:α} (h:xs[j]?=some v):atI xs (j:Int)=some v:=by
 have hj:j < xs.length:=(List.getElem?_eq_some_iff.mp h).1
 have e:ixN xs.length (j:Int)=some j:=by
  unfold ixN
  rw [if_pos (by omega),if_pos (by omega)]; simp
 unfold atI; rw [e]; exact h
def PlainIx (b:Expr):Prop:=∀ o i,subscripted b false o i=operate [o,i] (getItem o i)
def IxR (X:Cx) (r:R2):Prop :=
 ∀ (value slice:Expr) (pins:List (Addr × Obj)) (s:Shared) (σ:St) (H:Hp) (x y:V) (v u:Value) (Q:VK),Inv X pins σ H s→RelV x v→RelV y u→r x y H Q →
  subscripted slice false v u=operate [v,u] (getItem v u)→wpAny (model X.prog X.w) X.A (subscriptTail value slice v u) (EP X pins σ Q) X.xe s
def MtR (X:Cx) (id:String) (r:V→List V→Hp→VK→Prop):Prop :=
 ∀ (pins:List (Addr × Obj)) (s:Shared) (σ:St) (H:Hp) (x:V) (xs:List V) (v:Value) (us:List Value) (Q:VK),Inv X pins σ H s→RelV x v→Vals xs us→r x xs H Q →
  wpAny (model X.prog X.w) X.A (call (.builtin id) (v :: us)) (EP X pins σ Q) X.xe s
section
variable {X:Cx} {a b:Expr} {ta tb:TE} {pos:Pos}
theorem IxR.or {r r':R2} (h:IxR X r) (h':IxR X r'):IxR X (fun x y H Q=>r x y H Q ∨ r' x y H Q):=by
 intro value slice pins s σ H x y v u Q I rx ry q hs
 rcases q with q | q
 ·exact h value slice pins s σ H x y v u Q I rx ry q hs
 ·exact h' value slice pins s σ H x y v u Q I rx ry q hs
theorem pe_ix {r:R2} (hr:IxR X r) (ha:PE X a ta) (hb:PE X b tb) (hs:PlainIx b):PE X (.Subscript a b pos) (tOp r ta tb):=by
 intro pins s σ H Q I h
 exact Subscript_ (binT ha hb I h fun v u s2 x y H2 I2 rx ry q=>hr a b pins s2 σ H2 x y v u Q I2 rx ry q (hs _ _))
def rIxL (K:PySem.W.Frag):R2:=fun x y H Q=>∃ p xs i v,x=.ref p∧y=.int i∧SqL K H p xs∧atI xs i=some v∧Q v H
def rIxT (K:PySem.W.Frag):R2:=fun x y H Q=>∃ p xs i v,x=.ref p∧y=.int i∧SqT K H p xs∧atI xs i=some v∧Q v H
def rIxS:R2:=fun x y H Q=>∃ z i c,x=.str z∧y=.int i∧z.length ≤ sizeLine∧atI z.cps.toList i=some c∧Q (.str ⟨#[c]⟩) H
theorem ix_list:IxR X (rIxL X.K):=by
 intro value slice pins s σ H x y v u Q I rx ry h hs
 obtain ⟨p,xs,i,z,rfl,rfl,hq,he,q⟩:=h
 cases rx
 obtain ⟨t,rfl⟩:=ry
 obtain ⟨its,r,pl,hz⟩:=I.list hq
 obtain ⟨j,h1,h2,h3,h4,h5⟩:=atI_get he
 obtain ⟨w,ew,rw'⟩:=r.get h2
 have hl:=r.length
 have hn:=line63
 have fin:EP X pins σ Q w s:=⟨z,H,I,rw',q⟩
 by_cases h0:0 ≤ i
 ·have hj:i.toNat=j:=by
   rw [seqIndex_of h0 h5] at h1
   exact Option.some.inj h1
  exact item_listR pl.isList h0 (by omega) (by rw [hj]; simpa using ew) fin hs
 ·have hj:(i + (its.toArray.size:Int)).toNat=j:=by
   rw [seqIndex_neg (by omega) h4] at h1
   rw [List.size_toArray,← hl]
   exact Option.some.inj h1
  exact subscriptTail_builtinR (x:=w) pl.isList.typeIs slot_list_getitem.lookup
   (wpAny_getItem_list_neg (Q:=fun r s'=>r=w∧EP X pins σ Q r s') pl.isList (by omega) (by rw [List.size_toArray] <;> omega) (by omega) (by rw [hj]; simpa using ew) ⟨rfl,fin⟩) hs
theorem ix_tup:IxR X (rIxT X.K):=by
 intro value slice pins s σ H x y v u Q I rx ry h hs
 obtain ⟨p,xs,i,z,rfl,rfl,hq,he,q⟩:=h
 cases rx
 obtain ⟨t,rfl⟩:=ry
 obtain ⟨its,r,pl,hz⟩:=I.tuple hq
 obtain ⟨j,h1,h2,h3,h4,h5⟩:=atI_get he
 obtain ⟨w,ew,rw'⟩:=r.get h2
 have hl:=r.length
 have hn:=line63
 have fin:EP X pins σ Q w s:=⟨z,H,I,rw',q⟩
 exact subscriptTail_builtinR (x:=w) pl.typeIs slot_tuple_getitem.lookup
  (getItem_tuple (j:=j) (Q:=fun r s'=>r=w∧EP X pins σ Q r s') pl (by omega) (by omega) (by rw [List.size_toArray,← hl]; exact h1) (by simpa using ew) ⟨rfl,fin⟩) hs
theorem ix_str:IxR X rIxS:=by
 intro value slice pins s σ H x y v u Q I rx ry h hs
 obtain ⟨z,i,c,rfl,rfl,hz,he,q⟩:=h
 obtain ⟨t,rfl⟩:=rx
 obtain ⟨t',rfl⟩:=ry
 obtain ⟨j,h1,h2,h3,h4,h5⟩:=atI_get he
 have hl:z.cps.toList.length=z.length:=by simp [Str.length]
 rw [hl] at h1 h4 h5
 have hn:=line63
 exact tail_any (typeIs_str s z t) slot_str_getitem.lookup (getItem_str (c:=c) (by
  have e1:decide (i < -(2 ^ 63:Int))=false:=decide_eq_false (by omega)
  have e2:decide (i ≥ 2 ^ 63)=false:=decide_eq_false (by omega)
  rw [e1,e2,Bool.or_false]) (by rw [h1]; simpa using h2) ⟨.str ⟨#[c]⟩,H,I.tok _,⟨_,rfl⟩,q⟩) hs
theorem mapSeq_set (its:List Value) (n j:Nat) (u:Value):Obj.mapSeq (·.setIfInBounds j u) { cls:=.type "list",data:=.seq its.toArray n }={ cls:=.type "list",data:=.seq (its.set j u).toArray n }:=by
 simp [Obj.mapSeq]
theorem Inv.lst {pins:List (Addr × Obj)} {σ:St} {H:Hp} {s:Shared} {p:Addr} {xs:List V} (I:Inv X pins σ H s) (h:H p=some (.lst xs)) :
  ∃ (its:List Value) (n:Nat),Vals xs its∧s.heap.get? p=some { cls:=.type "list",data:=.seq its.toArray n }∧xs.length ≤ sizeLine:=by
 obtain ⟨z,its,n,r,e⟩:=I.hok p _ h
 exact ⟨its,n,r,e,z⟩
theorem Inv.lstUpd {pins:List (Addr × Obj)} {σ:St} {H:Hp} {s:Shared} {p:Addr} {xs ys:List V} {its its':List Value} {n n':Nat} {f:Obj→Obj} (I:Inv X pins σ H s) (h:H p=some (.lst xs))
  (ho:s.heap.get? p=some { cls:=.type "list",data:=.seq its.toArray n }) (hf:f { cls:=.type "list",data:=.seq its.toArray n }={ cls:=.type "list",data:=.seq its'.toArray n' }) (r:Vals ys its') (hz:ys.length ≤ sizeLine) (t:Nat) :
  Inv X pins σ (upd H p (.lst ys)) { s with heap:=s.heap.update p f,toks:=t }:=by
 have e:(s.heap.update p f).get? p=some { cls:=.type "list",data:=.seq its'.toArray n' }:=by
  rw [Heap.get?_update_self f ho (by rw [hf] <;> rfl),hf]
 refine I.write (x:=p) (e:=p) (by rw [h]; trivial) (.inl rfl) (fun b u hb q=>(Heap.get?_update_other _ _ (Ne.symm hb)).trans q) ⟨_,e⟩ ?_
 exact ⟨hz,its',n',r,e⟩
def rSetL:V→V→V→Hp→(Hp→Prop)→Prop:=fun o i v H Q=>∃ p xs k j,o=.ref p∧i=.int k∧H p=some (.lst xs)∧ixN xs.length k=some j∧Q (upd H p (.lst (xs.set j v)))
theorem set_list:PSet X rSetL:=by
 intro pins s σ H o i v ov iv u Q I ro ri rv h
 obtain ⟨p,xs,k,j,rfl,rfl,hp,hj,q⟩:=h
 cases ro
 obtain ⟨t,rfl⟩:=ri
 obtain ⟨its,n,r,ho,hz⟩:=I.lst hp
 obtain ⟨h1,h2,h3,h4⟩:=ixN_seq hj
 have hl:=r.length
 have hn:=line63
 have I':Inv X pins σ (upd H p (.lst (xs.set j v))) { s with heap:=s.heap.update p (Obj.mapSeq (·.setIfInBounds j u)) } :=
  I.lstUpd hp ho (mapSeq_set its n j u) (r.set rv j) (by rw [List.length_set]; exact hz) s.toks
 by_cases h0:0 ≤ k
 ·have hk:k.toNat=j:=by
   rw [seqIndex_of h0 h4] at h1
   exact Option.some.inj h1
  exact PySem.W.ki_setAt ho h0 (by omega) (by rw [List.size_toArray,← hl]; exact h4) (by rw [hk]; exact ⟨_,I',q⟩)
 ·have hk:(k + (its.toArray.size:Int)).toNat=j:=by
   rw [seqIndex_neg (by omega) h3] at h1
   rw [List.size_toArray,← hl]
   exact Option.some.inj h1
  exact PySem.W.ki_setBack ho (by omega) (by rw [List.size_toArray,← hl]; exact h3) (by omega) (by rw [hk]; exact ⟨_,I',q⟩)
theorem slice_bounds (lo hi:Option Int) (n:Nat):(sliceBounds lo hi none n).1=((HT.sIx n 0 lo:Nat):Int)∧(sliceBounds lo hi none n).2.1=((HT.sIx n n hi:Nat):Int)∧(sliceBounds lo hi none n).2.2=1:=by
 refine ⟨?_,?_,rfl⟩
 ·cases lo with
  | none=>simp [sliceBounds,HT.sIx]
  | some i =>
   simp only [sliceBounds,HT.sIx,Option.getD_none,show (1:Int) > 0 by decide,if_true]
   by_cases h:i < 0
   ·simp only [h,if_true] <;> omega
   ·simp only [h,if_false] <;> omega
 ·cases hi with
  | none=>simp [sliceBounds,HT.sIx]
  | some i =>
   simp only [sliceBounds,HT.sIx,Option.getD_none,show (1:Int) > 0 by decide,if_true]
   by_cases h:i < 0
   ·simp only [h,if_true] <;> omega
   ·simp only [h,if_false] <;> omega
theorem slicePick_cut (its:List Value) (lo hi:Option Int):slicePick its.toArray lo hi none=((its.drop (HT.sIx its.length 0 lo)).take (HT.sIx its.length its.length hi - HT.sIx its.length 0 lo)).toArray:=by
 obtain ⟨h1,h2,h3⟩:=slice_bounds lo hi its.toArray.size
 unfold slicePick
 rw [h1,h2,h3]
 simp only [sliceRange_one,pick_run,List.size_toArray] <;> rfl
def rSlL (K:PySem.W.Frag):V→Option Int→Option Int→Hp→VK→Prop:=fun x lo hi H Q=>∃ a xs,x=.ref a∧SqL K H a xs∧∀ p,H p=none→Q (.ref p) (upd H p (.lst (cutV xs lo hi)))
theorem sl_list:SlR X (rSlL X.K):=by
 intro pins s σ H x v vl vu lo hi sl Q I rx hs pl pu h
 obtain ⟨a,xs,rfl,hx,q⟩:=h
 cases rx
 obtain ⟨its,r,ht,hz⟩:=I.list hx
 have hlen:=r.length
 refine ⟨"list",_,slot_list_getitem.lookup,ht.isList.typeIs,?_⟩
 refine wpAny_getItem_list_slice ht.isList hs pl pu .none (by simp) ?_ (by rw [List.size_toArray] <;> omega)
 rw [slicePick_cut,← hlen]
 refine ⟨.ref s.heap.objs.size,_,I.laid (t':=s.toks) (o:=.lst (cutV xs lo hi)) (fun b ob q=>Heap.get?_push_of_some _ q) (Nat.le_refl _) ?_,rfl,q _ (I.hok.fresh (Nat.le_refl _))⟩
 exact ⟨Nat.le_trans (cutV_length xs lo hi) hz,_,0,(r.drop (HT.sIx xs.length 0 lo)).take (HT.sIx xs.length xs.length hi - HT.sIx xs.length 0 lo),Heap.get?_push_size _ rfl⟩
def flatV:V→Bool
 | .non=>true
 | .bl _=>true
 | .int _=>true
 | .str _=>true
 | _=>false
def eqV:V→V→Bool
 | .non,.non=>true
 | .bl a,.bl b=>a == b
 | .bl a,.int b=>(if a then 1 else 0) == b
 | .int a,.bl b=>a == (if b then 1 else 0)
 | .int a,.int b=>a == b
 | .str a,.str b=>a == b
 | _,_=>false
theorem eqAt_V {A:Around} {s:Shared} {y x:V} {u v:Value} (ry:RelV y u) (rx:RelV x v) (fy:flatV y=true) (fx:flatV x=true):SeqAt.EqAt A s u v (eqV y x):=by
 cases y with
 | non =>
  cases ry
  cases x with
  | non=>cases rx; exact SeqAt.EqAt.same _
  | bl b=>cases rx; exact SeqAt.EqAt.none_bool b
  | int b=>obtain ⟨t,rfl⟩:=rx; exact SeqAt.EqAt.none_int b t
  | str b=>obtain ⟨t,rfl⟩:=rx; exact SeqAt.EqAt.none_str b t
  | _=>exact absurd (show false=true from fx) Bool.false_ne_true
 | bl a =>
  cases ry
  cases x with
  | non=>cases rx; exact SeqAt.EqAt.bool_none a
  | bl b=>cases rx; exact SeqAt.EqAt.bool_bool a b
  | int b=>obtain ⟨t,rfl⟩:=rx; exact SeqAt.EqAt.bool_int a b t
  | str b=>obtain ⟨t,rfl⟩:=rx; exact SeqAt.EqAt.bool_str a b t
  | _=>exact absurd (show false=true from fx) Bool.false_ne_true
 | int a =>
  obtain ⟨t',rfl⟩:=ry
  cases x with
  | non=>cases rx; exact SeqAt.EqAt.int_none a t'
  | bl b=>cases rx; exact SeqAt.EqAt.int_bool a t' b
  | int b=>obtain ⟨t,rfl⟩:=rx; exact SeqAt.EqAt.int_int a t' b t
  | str b=>obtain ⟨t,rfl⟩:=rx; exact SeqAt.EqAt.int_str a t' b t
  | _=>exact absurd (show false=true from fx) Bool.false_ne_true
 | str a =>
  obtain ⟨t',rfl⟩:=ry
  cases x with
  | non=>cases rx; exact SeqAt.EqAt.str_none a t'
  | bl b=>cases rx; exact SeqAt.EqAt.str_bool a t' b
  | int b=>obtain ⟨t,rfl⟩:=rx; exact SeqAt.EqAt.str_int a t' b t
  | str b=>obtain ⟨t,rfl⟩:=rx; exact SeqAt.EqAt.str_str a t' b t
  | _=>exact absurd (show false=true from fx) Bool.false_ne_true
 | _=>exact absurd (show false=true from fy) Bool.false_ne_true
def eqU (x:V) (u:Value):Bool:=match u with
 | .none=>eqV .non x
 | .bool b=>eqV (.bl b) x
 | .int i _=>eqV (.int i) x
 | .str z _=>eqV (.str z) x
 | _=>false
theorem eqU_of {x y:V} {u:Value} (r:RelV y u) (f:flatV y=true):eqU x u=eqV y x:=by
 cases y with
 | non=>cases r; rfl
 | bl b=>cases r; rfl
 | int i=>obtain ⟨t,rfl⟩:=r; rfl
 | str z=>obtain ⟨t,rfl⟩:=r; rfl
 | _=>exact absurd (show false=true from f) Bool.false_ne_true
theorem any_eqU {x:V}:∀ {xs:List V} {us:List Value},Vals xs us→xs.all flatV=true→us.any (eqU x)=xs.any fun y=>eqV y x
 | _,_,.nil,_=>rfl
 | y :: xs,u :: us,.cons r t,f=>by
  rw [List.all_cons,Bool.and_eq_true] at f
  rw [List.any_cons,List.any_cons,eqU_of r f.1,any_eqU t f.2]
theorem mem_eqAt {A:Around} {s:Shared} {x:V} {v:Value} (rx:RelV x v) (fx:flatV x=true):∀ {xs:List V} {us:List Value},Vals xs us→xs.all flatV=true→∀ u ∈ us,SeqAt.EqAt A s u v (eqU x u)
 | _,_,.nil,_=>fun u hu=>by cases hu
 | y :: xs,u :: us,.cons r t,f=>fun u' hu=>by
  rw [List.all_cons,Bool.and_eq_true] at f
  rcases List.mem_cons.mp hu with rfl | hu
  ·rw [eqU_of r f.1]; exact eqAt_V r rx f.1 fx
  ·exact mem_eqAt rx fx t f.2 u' hu
def inV (x:V) (xs:List V):Bool:=xs.any fun y=>eqV y x
def rIn (K:PySem.W.Frag) (neg:Bool):R2:=fun x y H Q=>∃ p xs,y=.ref p∧(SqL K H p xs ∨ SqT K H p xs)∧flatV x=true∧xs.all flatV=true∧Q (.bl (if neg then !inV x xs else inV x xs)) H
theorem op_in_seq:OpR X (compareOp .In) (rIn X.K false):=by
 intro pins s σ H x y v u Q I rx ry h
 obtain ⟨p,xs,rfl,hq,fx,fs,q⟩:=h
 cases ry
 rcases hq with hq | hq
 ·obtain ⟨its,r,pl,hz⟩:=I.list hq
  refine SeqAt.in_listAt (eqU x) pl.isList (fun w hw=>mem_eqAt rx fx r fs w (by simpa using hw)) ⟨.bl _,H,I,rfl,?_⟩
  rw [show its.toArray.any (eqU x)=its.any (eqU x) by simp,any_eqU r fs]
  exact q
 ·obtain ⟨its,r,pl,hz⟩:=I.tuple hq
  refine SeqAt.in_tupleAt (eqU x) pl (fun w hw=>mem_eqAt rx fx r fs w (by simpa using hw)) ⟨.bl _,H,I,rfl,?_⟩
  rw [show its.toArray.any (eqU x)=its.any (eqU x) by simp,any_eqU r fs]
  exact q
theorem op_notIn_str:OpR X (compareOp .NotIn) (fun x y H Q=>∃ i j,x=.str i∧y=.str j∧Q (.bl (!(!(Builtin.Str.occurrences j i 0 j.length 1).isEmpty))) H):=by
 intro pins s σ H x y v u Q I rx ry h
 obtain ⟨i,j,rfl,rfl,q⟩:=h
 obtain ⟨t,rfl⟩:=rx
 obtain ⟨t',rfl⟩:=ry
 exact notIn_str ⟨.bl _,H,I,rfl,q⟩
theorem call_len_seq:CallR X (.builtin "len") (fun xs H Q=>∃ p ys,xs=[.ref p]∧(SqL X.K H p ys ∨ SqT X.K H p ys)∧Q (.int ys.length) H):=by
 intro pins s σ H xs us Q I r h
 obtain ⟨p,ys,rfl,hq,q⟩:=h
 obtain ⟨u,rfl,rx⟩:=vals1 r
 cases rx
 have hn:=line63
 rcases hq with hq | hq
 ·obtain ⟨its,r',pl,hz⟩:=I.list hq
  have hlen:=r'.length
  exact Calls.call_len_list pl.isList (by simp only [List.size_toArray] <;> omega) ⟨.int ys.length,H,I.tok _,⟨s.toks + 1,by rw [List.size_toArray,hlen]⟩,q⟩
 ·obtain ⟨its,r',pl,hz⟩:=I.tuple hq
  have hlen:=r'.length
  exact len_tuple pl (by simp only [List.size_toArray] <;> omega) ⟨.int ys.length,H,I.tok _,⟨s.toks + 1,by rw [List.size_toArray,hlen]⟩,q⟩
theorem call_len_str:CallR X (.builtin "len") (fun xs H Q=>∃ z,xs=[.str z]∧z.length ≤ sizeLine∧Q (.int z.length) H):=by
 intro pins s σ H xs us Q I r h
 obtain ⟨z,rfl,hz,q⟩:=h
 obtain ⟨u,rfl,t,rfl⟩:=vals1 r
 have hn:=line63
 exact len_str (by omega) ⟨.int z.length,H,I.tok _,⟨_,rfl⟩,q⟩
theorem call_tuple_of:CallR X (.type "tuple") (fun xs H Q=>∃ p ys,xs=[.ref p]∧((SqL X.K H p ys∧∀ l,H l=none→Q (.ref l) (upd H l (.tup ys))) ∨ (SqT X.K H p ys∧Q (.ref p) H))):=by
 intro pins s σ H xs us Q I r h
 obtain ⟨p,ys,rfl,h⟩:=h
 obtain ⟨u,rfl,rx⟩:=vals1 r
 cases rx
 rcases h with ⟨hq,q⟩ | ⟨hq,q⟩
 ·obtain ⟨its,r',pl,hz⟩:=I.list hq
  have hlen:=r'.length
  refine call_tuple_list pl.isList (fun h' kp=>?_) (by simp only [List.size_toArray] <;> omega)
  have I1:Inv X pins σ H { s with heap:=h' }:=I.kept (t':=s.toks) kp
  have I2:Inv X pins σ (upd H h'.objs.size (.tup ys)) { s with heap:=h'.push { cls:=.type "tuple",data:=.seq its.toArray } } :=
   I1.laid (t':=s.toks) (fun b o e=>Heap.get?_push_of_some _ e) (Nat.le_refl _) (show ObjOk X.prog X.w _ _ _ (.tup ys) from ⟨hz,its,r',IsTup.new _ _⟩)
  exact ⟨.ref h'.objs.size,_,I2,rfl,q _ (I1.hok.fresh (Nat.le_refl _))⟩
 ·obtain ⟨its,r',pl,hz⟩:=I.tuple hq
  exact call_tuple_same pl ⟨.ref p,H,I,rfl,q⟩
def tyV (K:PySem.W.Frag) (T:String) (x:V) (H:Hp):Prop:=match x with
 | .str _=>T="str"
 | .int _=>T="int"
 | .ref p=>(T="list"∧∃ xs,SqL K H p xs) ∨ (T="tuple"∧∃ o,K.lookup p=some o∧o.cls=.type "tuple"∧o.dict=none) ∨
   (T="dict"∧((∃ kvs,H p=some (.dK kvs)) ∨ ∃ kvs,H p=some (.dT kvs))) ∨ (T="set"∧∃ S n,H p=some (.set S n))
 | _=>False
theorem tyV_is {pins:List (Addr × Obj)} {σ:St} {H:Hp} {s:Shared} {T:String} {x:V} {v:Value} (I:Inv X pins σ H s) (r:RelV x v) (ty:tyV X.K T x H) :
  s.TypeIs v T∧∀ a,v=.ref a→∃ ob,s.heap.get? a=some ob∧ob.dict=none:=by
 cases x with
 | str z =>
  obtain ⟨t,rfl⟩:=r
  cases (show T="str" from ty)
  exact ⟨typeIs_str s z t,fun _ e=>nomatch e⟩
 | int i =>
  obtain ⟨t,rfl⟩:=r
  cases (show T="int" from ty)
  exact ⟨typeIs_int s i t,fun _ e=>nomatch e⟩
 | ref p =>
  cases r
  rcases ty with ⟨rfl,xs,hq⟩ | ⟨rfl,o,hk,hc,hd⟩ | ⟨rfl,hk⟩ | ⟨rfl,S,n,hk⟩
  ·obtain ⟨its,_,pl,_⟩:=I.list hq
   refine ⟨pl.isList.typeIs,fun a e=>?_⟩
   cases e
   obtain ⟨o,n,e,c,hd,_⟩:=pl
   exact ⟨o,e,hd⟩
  ·refine ⟨⟨o,I.kIn p o hk,hc⟩,fun a e=>?_⟩
   cases e
   exact ⟨o,I.kIn _ o hk,hd⟩
  ·have z:∃ o,s.heap.get? p=some o∧o.ExactDict:=by
    rcases hk with ⟨kvs,hk⟩ | ⟨kvs,hk⟩
    ·obtain ⟨_,_,_,_,o,_,_,e,ex,_⟩:=I.hok p _ hk
     exact ⟨o,e,ex⟩
    ·obtain ⟨_,_,_,_,o,_,_,e,ex,_⟩:=I.hok p _ hk
     exact ⟨o,e,ex⟩
   obtain ⟨o,e,ex⟩:=z
   refine ⟨⟨o,e,ex.1⟩,fun a e2=>?_⟩
   cases e2
   exact ⟨o,e,ex.2.1⟩
  ·obtain ⟨o,_,_,_,e,ex,_⟩:=I.hok p _ hk
   refine ⟨⟨o,e,ex.1⟩,fun a e2=>?_⟩
   cases e2
   exact ⟨o,e,ex.2.1⟩
 | _=>exact False.elim ty
def tBM0 (K:PySem.W.Frag) (T:String) (r:V→List V→Hp→VK→Prop) (to:TE):TE:=fun σ H Q=>to σ H fun x H1=>tyV K T x H1∧r x [] H1 Q
def tBM (K:PySem.W.Frag) (T:String) (r:V→List V→Hp→VK→Prop) (to:TE) (t:TA):TE:=fun σ H Q=>to σ H fun x H1=>tyV K T x H1∧t σ H1 fun xs H2=>r x xs H2 Q
variable {o e:Expr} {es:List Expr} {to:TE} {t:TA} {name:Str} {apos cpos:Pos} {T id:String} {r:V→List V→Hp→VK→Prop}
theorem pe_bm0 (pa:PlainAttrs T) (slot:Slot T name id) (hty:typeOf (.builtin id)=pure (.type "method_descriptor")) (hm:MtR X id r) (ho:PE X o to)
  (hbase:attributeBase o name X.env (eval o X.env)=eval o X.env:=by rfl) (hline:(apos.endLine == cpos.line)=true:=by rfl):PE X (.Call (.Attribute o name apos) [] [] cpos) (tBM0 X.K T r to):=by
 intro pins s σ H Q I h
 refine wpAny_Call_method0_late hbase hline (thn (ho pins s σ H _ I h) fun v s1 ⟨x,H1,I1,r1,ty,q1⟩=>?_)
 obtain ⟨h1,h2⟩:=tyV_is I1 r1 ty
 exact ⟨T,id,pa,slot,hty,h1,h2,Calls.callWith_builtin rfl (PySem.evalArgs_none (hm pins s1 σ H1 x [] v [] Q I1 r1 .nil q1))⟩
theorem pe_bm (pa:PlainAttrs T) (slot:Slot T name id) (hty:typeOf (.builtin id)=pure (.type "method_descriptor")) (hm:MtR X id r) (ho:PE X o to) (ha:PA X (e :: es) t)
  (hbase:attributeBase o name X.env (eval o X.env)=eval o X.env:=by rfl)
  (hfew:((backTo cpos (starEach (e :: es) X.env)).all (fun x=>!x.1) && (backToKw cpos (keywordEach [] X.env)).all (fun x=>x.1.isSome)
   && decide ((e :: es).length + ([]:List Keyword).length + (if ([]:List Keyword).isEmpty then 0 else 1) < 30))=true:=by rfl)
  (hline:(apos.endLine == cpos.line)=true:=by rfl) (hs:starEach (e :: es) X.env=(false,eval e X.env) :: starEach es X.env:=by rfl) (hplain:(backTo cpos (starEach es X.env)).any (·.1)=false:=by rfl) :
  PE X (.Call (.Attribute o name apos) (e :: es) [] cpos) (tBM X.K T r to t):=by
 intro pins s σ H Q I h
 refine wpAny_Call_method_late hbase hfew hline rfl (thn (ho pins s σ H _ I h) fun v s1 ⟨x,H1,I1,r1,ty,q1⟩=>?_)
 obtain ⟨h1,h2⟩:=tyV_is I1 r1 ty
 refine ⟨T,id,pa,slot,hty,h1,h2,?_⟩
 have hA:=ha cpos pins s1 σ H1 _ I1 q1
 rw [hs] at hA ⊢
 refine Calls.callWith_builtin (by show (false || (backTo cpos (starEach es X.env)).any (·.1))=false; rw [hplain] <;> rfl) (Calls.evalArgs_plain ?_)
 exact thn hA fun us s2 ⟨vs,H2,I2,r2,q2⟩=>hm pins s2 σ H2 x vs v us Q I2 r1 r2 q2
end
end L2
namespace L2
open PySem PySem.Spec PyProof.Rows
def MtM (X:Cx) (id:String) (r:V→List V→Hp→VK→Prop):Prop :=
 ∀ (pins:List (Addr × Obj)) (s:Shared) (σ:St) (H:Hp) (x:V) (xs:List V) (v:Value) (us:List Value) (Q:VK),Inv X pins σ H s→RelV x v→Vals xs us→r x xs H Q →
  wpAny (model X.prog X.w) X.A (call (.builtin id) (v :: us)) (EP X pins σ Q) X.xe s
theorem Vals.one:∀ {x:V} {us:List Value},Vals [x] us→∃ u,us=[u]∧RelV x u
 | _,_,.cons r .nil=>⟨_,rfl,r⟩
section
variable {X:Cx} {pins:List (Addr × Obj)} {σ:St} {H:Hp} {s:Shared} {l b:Addr} {xs ys zs:List V}
theorem Inv.lset {its its':List Value} {n:Nat} {f:Array Value→Array Value} {t':Nat} (I:Inv X pins σ H s) (hH:H l=some (.lst xs))
  (e:s.heap.get? l=some { cls:=.type "list",data:=.seq its.toArray n }) (hf:f its.toArray=its'.toArray) (hv:Vals ys its') (hz:ys.length ≤ sizeLine) :
  Inv X pins σ (upd H l (.lst ys)) { s with heap:=s.heap.update l (Obj.mapSeq f),toks:=t' }:=by
 have q:=PySem.IsL.update e f
 rw [hf] at q
 refine I.write (x:=l) (e:=l) (by rw [hH]; exact trivial) (.inl rfl) (fun b' u hb hu=>(Heap.get?_update_other s.heap (Obj.mapSeq f) (Ne.symm hb)).trans hu) ⟨_,q⟩ ?_
 exact ⟨hz,its',_,hv,q⟩
theorem Inv.lnew {its:List Value} {t':Nat} (I:Inv X pins σ H s) (hv:Vals ys its) (hz:ys.length ≤ sizeLine) :
  Inv X pins σ (upd H s.heap.objs.size (.lst ys)) { s with heap:=s.heap.push { cls:=.type "list",data:=.seq its.toArray },toks:=t' } :=
 I.laid (fun _ _ q=>Heap.get?_push_of_some _ q) (Nat.le_refl _) ⟨hz,its,0,hv,Heap.get?_push_size _ rfl⟩
theorem Inv.fresh (I:Inv X pins σ H s):H s.heap.objs.size=none:=I.hok.fresh (Nat.le_refl _)
theorem Inv.lstM (I:Inv X pins σ H s) (hH:H l=some (.lst xs)):xs.length ≤ sizeLine∧∃ (its:List Value) (n:Nat),Vals xs its∧xs.length=its.length∧s.heap.get? l=some { cls:=.type "list",data:=.seq its.toArray n }:=by
 obtain ⟨z,its,n,r,e⟩:=I.hok l _ hH
 exact ⟨z,its,n,r,r.length,e⟩
end
section
variable {X:Cx}
def rAppend:V→List V→Hp→VK→Prop:=fun x vs H Q=>∃ l xs y,x=.ref l∧vs=[y]∧H l=some (.lst xs)∧xs.length < sizeLine∧Q .non (upd H l (.lst (xs ++ [y])))
theorem mt_append:MtM X "list.append" rAppend:=by
 intro pins s σ H x vs v us Q I rx rv h
 obtain ⟨l,xs,y,rfl,rfl,hH,hz,q⟩:=h
 cases rx
 obtain ⟨u,rfl,ru⟩:=rv.one
 obtain ⟨z,its,n,r,hl,e⟩:=I.lstM hH
 refine call_meets F.slot_list_append ⟨_,e,rfl⟩ F.entry_list_append (F.args_list_append_2 _ _) (PySem.list_append l its.toArray n u (by rw [List.size_toArray]; omega)) ⟨e,?_⟩
 refine ⟨.non,_,I.lset (its':=its ++ [u]) hH e (by simp) (r.append (.cons ru .nil)) ?_,rfl,q⟩
 rw [List.length_append,List.length_singleton]
 omega
def rCat:R2:=fun x y H Q=>∃ l b xs zs,x=.ref l∧y=.ref b∧H l=some (.lst xs)∧H b=some (.lst zs)∧xs.length + zs.length ≤ sizeLine∧∀ p,H p=none→Q (.ref p) (upd H p (.lst (xs ++ zs)))
theorem op_cat:OpR X (binaryOp .Add) rCat:=by
 intro pins s σ H x y v u Q I rx ry h
 obtain ⟨l,b,xs,zs,rfl,rfl,hH,hB,hz,q⟩:=h
 cases rx
 cases ry
 obtain ⟨z,its,n,r,hl,e⟩:=I.lstM hH
 obtain ⟨z2,its2,n2,r2,hl2,e2⟩:=I.lstM hB
 refine PySem.P.add_list e e2 ?_ (by rw [List.size_toArray,List.size_toArray]; omega)
 have ea:its.toArray ++ its2.toArray=(its ++ its2).toArray:=by simp
 rw [ea]
 exact ⟨.ref _,_,I.lnew (t':=s.toks) (r.append r2) (by rw [List.length_append]; omega),rfl,q _ I.fresh⟩
end
section
variable {prog:Program} {w:World} {A:Around} {E:Value→Shared→Prop} {s:Shared}
end
section
variable {X:Cx}
end
end L2
namespace Att
open PySem PySem.W PySem.Calls PyProof.Rows
theorem ints_of_wellAll {P:Params} {h:Heap}:∀ (ns:List Int) (vs:List Value),WellAll P h vs (ns.map WData.int)→IntsAre vs ns:=by
 intro ns
 induction ns with
 | nil =>
  intro vs w
  rw [List.map_nil] at w
  cases w
  exact .nil
 | cons n ns ih =>
  intro vs w
  rw [List.map_cons] at w
  cases w with
  | cons a b =>
   cases a
   exact .cons _ _ (ih _ b)
theorem script_of {l:OpenLaw} {n:Nat} (hn:l.most=some n) {P:Params} {h:Heap} {args:List WData} {vals:List Value}
  (hpre:l.row.toRowW.claim.pre args=true) (hwl:WellAll P h vals args) :
  ∃ a vs ns,vals=[Value.ref a]∧args=[WData.list (ns.map WData.int)]∧h.get? a=some { cls:=.type "list",data:=.seq vs.toArray }∧IntsAre vs ns∧ns.length ≤ n:=by
 have hsh:WShape.hasAll [] args [.list .int]=true:=(pre_splitW hpre).1
 have hc:l.pre.holds [] { args:=args }=true:=(pre_splitW hpre).2
 obtain ⟨d,r,rfl,h1,h2⟩:=hasAllW_cons hsh
 obtain rfl:=hasAllW_nil h2
 obtain ⟨xs,rfl,h3⟩:=hasW_list h1
 obtain ⟨ns,rfl⟩:=items_int h3
 have hlen:ns.length ≤ n:=by
  unfold OpenLaw.pre at hc
  have h4:(WTm.not (.lt (.lit (.int (n:Int))) (.len (.arg 0)))).holds [] { args:=[.list (ns.map .int)] }=true:=by
   have h4:=(holds_andW hc).1
   rw [hn] at h4
   exact h4
  have h5:=condW_of h4 (w_not (w_lt w_lit (w_len_list (w_arg rfl))))
  rw [List.length_map] at h5
  refine Nat.le_of_not_lt fun q=>?_
  have q':(n:Int) < ((ns.length:Nat):Int):=by omega
  first
   | (rw [decide_eq_true q'] at h5; exact absurd h5 (by decide))
   | (simp at h5; omega)
 cases hwl with
 | cons w1 w2 =>
  cases w2
  cases w1 with
  | list ho hall=>exact ⟨_,_,ns,rfl,rfl,ho,ints_of_wellAll ns _ hall,hlen⟩
theorem post_true (l:OpenLaw) (args:List WData):l.row.toRowW.claim.post args (.bool true) args=true :=
 postW_of (r:=l.row.toRowW) (X:=(true == true))
  (show WShape.has [] (.bool true) .bool=true by first | rfl | decide | simp [WShape.has,WShape.arms,WShape.armsAll])
  (show (WTm.eq .res (.lit (.bool true))).value [] { args:=args,res:=some (.bool true),after:=args }=some (.bool (true == true)) from w_eq_bool (w_res rfl) w_lit) rfl
theorem attach_call {l:OpenLaw} {n:Nat} {q:Program} {loose:List Str} {XP:(Str→Option Value)→Heap→Prop} {YP:World→Heap→Prop} {d:DefRec}
  (hn:l.most=some n) (hdf:d.params.defaults=[])
  (call:∀ (w:World) (s₀ s₁:Shared) (mg mb:Str→Option Value) (fa:Addr) (o:Obj) (pm cd doc:Value) (a:Addr) (vs:List Value) (ns:List Int),
   Ground q loose [] XP w s₀ mg mb s₁.heap→YP w s₁.heap →
   s₁.heap.get? fa=some o→o.data=.func (docDef d.name d.params d.body d.scope pm cd doc)→s₁.heap.CodeRec cd d.name→mg d.name=some (.ref fa) →
   s₁.heap.get? a=some { cls:=.type "list",data:=.seq vs.toArray }→IntsAre vs ns→ns.length ≤ n→s₁.gens=#[] →
   codeAny (model l.prog w) callerA (.call (.ref fa) ⟨[.ref a],[]⟩) (fun r s'=>r=.ok (.ret (.bool true))∧OldK s₁.heap s'.heap∧s'.os=s₁.os∧AllBare s'.gens) s₁) :
  WalkO q loose XP YP l.row.toRowW d [] (fun f vs=>PySem.call f vs):=by
 intro w s₀ s₁ mg mb G Y fa o pm cd doc dV kV ho hd hcd hD hmg hg args vals as hpre hlay hrd hwl hlo
 obtain rfl:dV=.none:=Dflts.none hD hdf
 obtain rfl:kV=.none:=Dflts.noKw hD
 obtain ⟨a,vs,ns,rfl,rfl,hobj,hints,hlen⟩:=script_of hn hpre hwl
 refine enter_call (codeAny_mono (call w s₀ s₁ mg mb fa o pm cd doc a vs ns G Y ho (fd_plain hd) hcd hmg hobj hints hlen hg) fun r s' hq=>?_)
 obtain ⟨rfl,h2,h3,h4⟩:=hq
 exact ⟨.inl ⟨.bool true,.bool true,[],rfl,fun _=>rfl,.bool true,post_true l _,fun _=>⟨List.Pairwise.nil,fun _ hm=>(nomatch hm)⟩⟩,h2,h3,h4⟩
section
variable {prog:Program} {w:World} {A:Around} {E:Value→Shared→Prop} {s:Shared} {K:Frag}
end
end Att
namespace L2
open PySem PySem.Spec PyProof.Rows
theorem vals_ints:∀ {vs:List Value} {ns:List Int},IntsAre vs ns→Vals (ns.map V.int) vs
 | _,_,.nil=>.nil
 | _,_,.cons n t h=>.cons ⟨t,rfl⟩ (vals_ints h)
def Only (H:Hp):Prop:=∀ b,H b=none ∨ ∃ o xs,H b=some (.frz o (.lst xs))
theorem law_call {P:Program} {w:World} {K:PySem.W.Frag} {mg mb:Str→Option Value} {CX:CXT} {k:Nat} {fa a:Addr} {fd:FuncData} {x:Str} {sp:Sp} {s₁:Shared} {vs:List Value} {ns:List Int}
  (KX:K.In s₁.heap) (hns:s₁.heap.Ns mainGlobals mg) (hb:s₁.heap.Ns builtinsNs mb) (hbb:∀ x:Str,x ≠ "__name__"→mb x=bootBuiltins x) (hlim:s₁.heap.NoLimit) (hg:s₁.gens=#[])
  (ha:s₁.heap.get? a=some { cls:=.type "list",data:=.seq vs.toArray }) (hi:IntsAre vs ns) (hl:ns.length ≤ sizeLine) (hr:Room k callerA)
  (F:∀ base:Heap,K.In base→base.Ns mainGlobals mg→FnOk P w K mg base CX k fa fd [x] sp) (hbind:∀ (s:Shared) (u:Value),BindsTo s fd ⟨[u],[]⟩ [(x,u)])
  (hsp:∀ H:Hp,Only H→SqL K H a (ns.map V.int)→sp [.ref a] H (fun v _=>v=.bl true) fun _ _ _=>False)
  (hCX:∀ H e s',CX [] H s₁ (fun _ _ _=>False) e s'→False) :
  codeAny (model P w) callerA (.call (.ref fa) ⟨[.ref a],[]⟩) (fun r s'=>r=.ok (.ret (.bool true))∧OldK s₁.heap s'.heap∧s'.os=s₁.os∧AllBare s'.gens) s₁:=by
 have rv:=vals_ints hi
 have lenV:=hi.length
 have core:∀ H:Hp,Only H→SqL K H a (ns.map V.int)→HOk P w H s₁.heap→(∀ b,H b ≠ none→b=a)→(H a ≠ none→K.lookup a=none) →
   codeAny (model P w) callerA (.call (.ref fa) ⟨[.ref a],[]⟩) (fun r s'=>r=.ok (.ret (.bool true))∧OldK s₁.heap s'.heap∧s'.os=s₁.os∧AllBare s'.gens) s₁:=by
  intro H hO hS hok hA hK
  have base_of:∀ {b:Addr} {o:Obj},s₁.heap.get? b=some o→H b=none→(hidT s₁.heap H).get? b=some o:=fun e n=>hidT_get e n
  have noA:∀ {b:Addr} {o:Obj} {es:Array DictEntry} {ep:Nat},s₁.heap.get? b=some o→o.data=.dict es ep→H b=none:=fun {b o es ep} e d=>by
   cases q:H b with
   | none=>rfl
   | some u =>
    have e':b=a:=hA b (by rw [q]; simp)
    subst e'
    rw [ha] at e; cases e
    have d':Data.seq vs.toArray _=Data.dict es ep:=d
    cases d'
  have nsK:∀ {b:Addr} {m:Str→Option Value},s₁.heap.Ns b m→(hidT s₁.heap H).Ns b m:=fun {b m} ⟨o,es,ep,e,d,r⟩=>⟨o,es,ep,base_of e (noA e d),d,r⟩
  have hKb:K.In (hidT s₁.heap H):=fun b o e=>base_of (KX b o e) (by
   cases q:H b with
   | none=>rfl
   | some u =>
    have e':b=a:=hA b (by rw [q]; simp)
    subst e'
    rw [hK (by rw [q]; simp)] at e; cases e)
  have hM:Mod K mg (hidT s₁.heap H):=⟨hKb,nsK hns,⟨mb,nsK hb,hbb⟩,let ⟨mc,h1,h2⟩:=hlim; ⟨mc,nsK h1,h2⟩⟩
  have e0:Env0 P w K mg (hidT s₁.heap H) callerA [] s₁ H:=⟨rfl,hM,fun b o e=>of_hidT e,Nat.le_of_eq (hidT_size _ _),trivial,fun b hb=>absurd (show b ∈ ([]:List Addr) from hb) (by simp),hok,.of_eq hg⟩
  refine codeAny_mono ((F _ hKb (nsK hns)).run callerA [] s₁ H ⟨[.ref a],[]⟩ [.ref a] [.ref a] _ _ hr e0 (hbind s₁ (.ref a)) (.cons rfl .nil) (hsp H hO hS)) fun r s' h=>?_
  cases r with
  | error e=>exact (hCX H e s' h).elim
  | ok fl =>
   cases fl with
   | next=>exact False.elim h
   | brk=>exact False.elim h
   | cont=>exact False.elim h
   | ret u =>
    obtain ⟨v,H',os,bare,un,hok',r',q⟩:=h
    have q':v=.bl true:=q
    subst q'
    obtain rfl:u=Value.bool true:=r'
    refine ⟨rfl,OldK.of_keep fun b o e=>?_,os,bare⟩
    cases q:H b with
    | none=>exact un.keep b o e q (by intro z; exact absurd (show b ∈ ([]:List Addr) from z) (by simp)) (by simp)
    | some u =>
     rcases hO b with z | ⟨ob,xs,z⟩
     ·rw [q] at z; cases z
     ·have z2:=un.frzs b ob _ z
      obtain ⟨e1,_⟩:=hok b _ z
      obtain ⟨e2,_⟩:=hok' b _ z2
      rw [e] at e1; cases e1
      exact e2
 cases hk:K.lookup a with
 | some o =>
  have e:=KX a o hk
  rw [ha] at e
  cases e
  refine core (fun _=>none) (fun _=>.inl rfl) (.inr ⟨_,vs.toArray,_,hk,rfl,rfl,rfl,by rw [List.size_toArray,lenV]; exact hl,by simpa using rv⟩) (fun b u z=>by have z':(none:Option HO)=some u:=z; cases z') (fun b z=>absurd rfl z) fun z=>absurd rfl z
 | none =>
  refine core (fun b=>if b=a then some (.frz { cls:=.type "list",data:=.seq vs.toArray } (.lst (ns.map V.int))) else none) (fun b=>?_) (.inl (.inr ⟨{ cls:=.type "list",data:=.seq vs.toArray },if_pos rfl⟩)) (fun b u z=>?_) (fun b z=>?_) fun _=>hk
  ·by_cases hb:b=a
   ·exact .inr ⟨_,_,if_pos hb⟩
   ·exact .inl (if_neg hb)
  ·by_cases hb:b=a
   ·have z':=(if_pos hb).symm.trans z
    cases z'
    subst hb
    exact ⟨ha,by rw [List.length_map]; exact hl,vs,_,rv,ha⟩
   ·have z':=(if_neg hb).symm.trans z
    cases z'
  ·by_cases hb:b=a
   ·exact hb
   ·exact absurd (if_neg hb) z
end L2
namespace L2
open PySem PySem.Spec PyProof.Rows
theorem walk_of {l:PySem.W.OpenLaw} {n k:Nat} {q:Program} {loose:List Str} {XP:(Str→Option Value)→Heap→Prop} {YP:World→Heap→Prop} {d:DefRec} {K:Params→PySem.W.Frag} {CX:World→CXT} {sp:World→Sp} {x:Str}
  (hn:l.most=some n) (hn2:n ≤ sizeLine) (hdf:d.params.defaults=[]) (hr:Room k callerA)
  (hY:∀ (w:World) (h:Heap),YP w h→(K w.params).In h)
  (F:∀ (w:World) (mg:Str→Option Value) (fa:Addr) (h:Heap),(K w.params).In h→h.Ns mainGlobals mg→mg d.name=some (.ref fa) →
   ∃ fd:FuncData,(∀ (s:Shared) (u:Value),BindsTo s fd ⟨[u],[]⟩ [(x,u)]) ∧
    ∀ base:Heap,(K w.params).In base→base.Ns mainGlobals mg→FnOk l.prog w (K w.params) mg base (CX w) k fa fd [x] (sp w))
  (hsp:∀ (w:World) (H:Hp) (a:Addr) (ns:List Int),ns.length ≤ n→Only H→SqL (K w.params) H a (ns.map V.int)→sp w [.ref a] H (fun v _=>v=.bl true) fun _ _ _=>False)
  (hCX:∀ (w:World) (H:Hp) (s:Shared) (e:Value) (s':Shared),CX w [] H s (fun _ _ _=>False) e s'→False) :
  PySem.W.WalkO q loose XP YP l.row.toRowW d [] (fun f vs=>PySem.call f vs):=by
 refine Att.attach_call hn hdf fun w s₀ s₁ mg mb fa o pm cd doc a vs ns G Y ho hd hcd hmg hobj hints hlen hg=>?_
 have KX:=hY w _ Y
 obtain ⟨fd,hb,hF⟩:=F w mg fa _ KX G.T.g hmg
 exact law_call KX G.T.g G.T.b G.T.builtins G.T.nolimit hg hobj hints (Nat.le_trans hlen hn2) hr hF hb (fun H hO hS=>hsp w H a ns hlen hO hS) fun H e s'=>hCX w H s₁ e s'
end L2
namespace L2
open PySem PySem.Spec PyProof.Rows
def jf3 (s:Stmt):Arguments:=match s with
 | .FunctionDef _ a _ _ _ _ _ _ _ _=>a
 | _=>{ posonlyargs:=[],args:=[],vararg:=none,kwonlyargs:=[],kw_defaults:=[],kwarg:=none,defaults:=[] }
def je2 (s:Stmt):List Stmt:=match s with
 | .FunctionDef _ _ b _ _ _ _ _ _ _=>b
 | _=>[]
def ja3 (s:Stmt):Scope:=match s with
 | .FunctionDef _ _ _ _ _ _ sc _ _ _=>sc
 | _=>{ kind:=.function,names:=[],isGenerator:=false,isCoroutine:=false }
abbrev CX0:CXT:=fun _ _ _ _ _ _=>False
abbrev E0:XK:=fun _ _ _=>False
theorem pass0 {X:Cx}:Passes CX0 X E0:=fun _ _ _ _ _ _ _ h=>h.elim
structure Fun (K:PySem.W.Frag) (x qual:Str) (st:Stmt) (f:Addr) (fd:FuncData):Prop where
 ex:∃ (oc:Value) (od:Option Addr) (kV doc pm:Value) (an:Option Addr) (cdv ct:Value) (osl:Array (Option Value)),
  fd=PySem.W.fnOf x qual (jf3 st) (je2 st) (ja3 st) .none kV doc pm an cdv ct∧K.lookup f=some ⟨oc,od,.func fd,osl⟩∧PySem.W.codeIn K cdv qual=true
 kp:PySem.W.keepIn K (.ref f)=true
section
variable {P:Program} {w:World} {K:PySem.W.Frag} {mg:Str→Option Value} {base:Heap}
theorem Fun.ok {x qual:Str} {st:Stmt} {f:Addr} {fd:FuncData} {N ps:List Str} {k:Nat} {sp:Sp} (F:Fun K x qual st f fd) (S:FnScope N ps (ja3 st)) (len:∀ vs H Q E,sp vs H Q E→vs.length=ps.length)
  (hbody:∀ (cdv:Value) (A:Around) (outer:List Env) (s:Shared) (H:Hp) (vs:List V) (Q:VK) (E:XK),Room k (A.deeper (envOfC qual (ja3 st) s.heap.objs.size f cdv))→sp vs H Q E →
   ∃ t,PSs (cxOf CX0 P w K mg base N qual (ja3 st) f cdv A outer s H E).nox (je2 st) t∧t { nx:=fun _ H'=>Q .non H',rt:=Q } (start N vs) H):FnOk P w K mg base CX0 (k + 1) f fd ps sp:=by
 obtain ⟨oc,od,kV,doc,pm,an,cdv,ct,osl,rfl,lk,hcd⟩:=F.ex
 refine fn_of lk hcd S len fun A outer s H vs Q E hr hsp=>?_
 obtain ⟨t,h,q⟩:=hbody cdv A outer s H vs Q E hr hsp
 exact ⟨t,h.nox,q⟩
theorem Fun.binds {x qual:Str} {st:Stmt} {f:Addr} {fd:FuncData} {ps:List Str} (F:Fun K x qual st f fd)
  (h:∀ (kV doc pm:Value) (an:Option Addr) (cdv ct:Value) (us:List Value),us.length=ps.length→bindArgs (PySem.W.fnOf x qual (jf3 st) (je2 st) (ja3 st) .none kV doc pm an cdv ct) ⟨us,[]⟩=pure (ps.zip us)):Binds K fd ps []:=by
 obtain ⟨oc,od,kV,doc,pm,an,cdv,ct,osl,rfl,lk,hcd⟩:=F.ex
 exact .all (h kV doc pm an cdv ct)
theorem fun_mk {x qual:Str} {st:Stmt} {f:Addr} {oc:Value} {od an:Option Addr} {osl:Array (Option Value)} {kV doc pm cdv ct:Value} (l:K.lookup f=some ⟨oc,od,.func (PySem.W.fnOf x qual (jf3 st) (je2 st) (ja3 st) .none kV doc pm an cdv ct),osl⟩)
  (c:PySem.W.codeIn K cdv qual=true) (k:PySem.W.keepIn K (.ref f)=true):Fun K x qual st f (PySem.W.fnOf x qual (jf3 st) (je2 st) (ja3 st) .none kV doc pm an cdv ct):=⟨⟨oc,od,kV,doc,pm,an,cdv,ct,osl,rfl,l,c⟩,k⟩
end
section
variable {X:Cx}
theorem pv (i:Nat) {x:Str} {pos:Pos} (hN:X.N[i]?=some x:=by rfl) (hv:Vis X.env.scope x:=by first | exact Or.inl rfl | exact Or.inr (Or.inl rfl) | exact Or.inr (Or.inr rfl)) (hd:(x == ("__debug__" : Str))=false:=by decide)
  (hcd:(x == ("__classdict__" : Str))=false:=by decide):PE X (.Name x pos) (tVar i):=pe_var hN hv hd hcd
end
theorem iteF {A B:Prop} (h:B):if false=true then A else B:=by
 rw [if_neg Bool.false_ne_true]
 exact h
theorem iteT {A B:Prop} (h:A):if true=true then A else B:=by
 rw [if_pos rfl]
 exact h
theorem ite2 {c A B:Prop} [Decidable c] (h1:c→A) (h2:¬ c→B):if c then A else B:=by
 by_cases h:c
 ·rw [if_pos h]
  exact h1 h
 ·rw [if_neg h]
  exact h2 h
end L2
namespace L2
open PySem PySem.Spec PyProof.Rows
def cloF (env:Env):List (Str × NameKind)→List (Str × Addr)→List (Str × Addr)
 | [],acc=>acc
 | (n,k) :: r,acc=>if k == .free then cloF env r ((n,(env.cells.lookup n).getD 0) :: acc) else cloF env r acc
theorem clo_forIn {env:Env} (f:Str × NameKind→List (Str × Addr)→Sem (ForInStep (List (Str × Addr))))
  (hf:∀ n k cs,f (n,k) cs=if k == .free then (do let a ← cellOf env n; pure (.yield ((n,a) :: cs))) else pure (.yield cs)) :
  ∀ (names:List (Str × NameKind)) (acc:List (Str × Addr)),(∀ x ∈ names,x.2=.free→(env.cells.lookup x.1).isSome=true)→forIn names acc f=pure (cloF env names acc)
 | [],acc,_=>by rw [List.forIn_nil]; rfl
 | (n,k) :: r,acc,h=>by
  rw [List.forIn_cons,hf]
  unfold cloF
  have hr:∀ x ∈ r,x.2=.free→(env.cells.lookup x.1).isSome=true:=fun x hx=>h x (List.mem_cons_of_mem _ hx)
  by_cases hk:(k == NameKind.free)=true
  ·rw [if_pos hk,if_pos hk]
   have e:=h (n,k) List.mem_cons_self (by simpa using hk)
   obtain ⟨c,hc⟩:=Option.isSome_iff_exists.mp e
   unfold cellOf
   simp only at hc
   rw [hc]
   simp only [pure_bind,Option.getD_some]
   exact clo_forIn f hf r _ hr
  ·rw [if_neg hk,if_neg hk,pure_bind]
   exact clo_forIn f hf r _ hr
theorem je8 {scope:Scope} {env:Env} (h:∀ x ∈ scope.names,x.2=.free→(env.cells.lookup x.1).isSome=true):closureFor scope env=pure (cloF env scope.names []):=by
 show (forIn scope.names ([]:List (Str × Addr)) _ >>= fun cs=>pure cs)=_
 rw [clo_forIn (env:=env) _ (fun n k cs=>by cases hk:k == NameKind.free <;> simp [hk]) scope.names [] h]
 simp only [pure_bind]
theorem clo_look {env:Env} {x:Str} {c:Addr}:∀ (names:List (Str × NameKind)) (acc:List (Str × Addr)),(∀ x ∈ names,x.2=.free→(env.cells.lookup x.1).isSome=true) →
  (cloF env names acc).lookup x=some c→env.cells.lookup x=some c ∨ acc.lookup x=some c
 | [],_,_,e=>.inr e
 | (n,k) :: r,acc,h,e=>by
  unfold cloF at e
  have hr:∀ x ∈ r,x.2=.free→(env.cells.lookup x.1).isSome=true:=fun x hx=>h x (List.mem_cons_of_mem _ hx)
  by_cases hk:(k == NameKind.free)=true
  ·rw [if_pos hk] at e
   rcases clo_look r _ hr e with q | q
   ·exact .inl q
   ·rw [List.lookup_cons] at q
    cases hb:x == n with
    | true =>
     rw [hb] at q
     have hx:x=n:=by simpa using hb
     obtain ⟨c',hc⟩:=Option.isSome_iff_exists.mp (h (n,k) List.mem_cons_self (by simpa using hk))
     simp only at hc
     rw [hc] at q
     subst hx
     rw [hc]
     exact .inl (by simpa using q)
    | false=>rw [hb] at q; exact .inr q
  ·rw [if_neg hk] at e
   exact clo_look r _ hr e
theorem clo_some {env:Env} {x:Str}:∀ (names:List (Str × NameKind)) (acc:List (Str × Addr)),((x,NameKind.free) ∈ names ∨ (acc.lookup x).isSome=true)→((cloF env names acc).lookup x).isSome=true
 | [],_,h=>h.elim (fun e=>nomatch e) id
 | (n,k) :: r,acc,h=>by
  unfold cloF
  by_cases hk:(k == NameKind.free)=true
  ·rw [if_pos hk]
   refine clo_some r _ ?_
   rcases h with h | h
   ·rcases List.mem_cons.mp h with e | h
    ·cases e; exact .inr (by rw [List.lookup_cons]; simp)
    ·exact .inl h
   ·refine .inr ?_
    rw [List.lookup_cons]
    split
    ·rfl
    ·exact h
  ·rw [if_neg hk]
   refine clo_some r _ ?_
   rcases h with h | h
   ·rcases List.mem_cons.mp h with e | h
    ·cases e; exact absurd (by decide) hk
    ·exact .inl h
   ·exact .inr h
theorem cf_look {x:Str} {c:Addr}:∀ (names:List (Str × NameKind)) (k:Nat) (acc:List (Str × Addr)),(cellsFrom k names acc).lookup x=some c→k ≤ c ∨ (acc.lookup x=some c∧(x,NameKind.cell) ∉ names)
 | [],_,_,e=>.inr ⟨e,by simp⟩
 | (n,kd) :: r,k,acc,e=>by
  unfold cellsFrom at e
  by_cases hk:(kd == NameKind.cell)=true
  ·rw [if_pos hk] at e
   rcases cf_look r _ _ e with q | ⟨q,nr⟩
   ·exact .inl (by omega)
   ·rw [List.lookup_cons] at q
    cases hb:x == n with
    | true=>rw [hb] at q; cases q; exact .inl (Nat.le_refl _)
    | false =>
     rw [hb] at q
     refine .inr ⟨q,fun z=>?_⟩
     rcases List.mem_cons.mp z with z | z
     ·cases z; simp at hb
     ·exact nr z
  ·rw [if_neg hk] at e
   rcases cf_look r _ _ e with q | ⟨q,nr⟩
   ·exact .inl q
   ·refine .inr ⟨q,fun z=>?_⟩
    rcases List.mem_cons.mp z with z | z
    ·cases z; exact hk (by simp)
    ·exact nr z
theorem cf_inj:∀ (names:List (Str × NameKind)) (k:Nat) (acc:List (Str × Addr)),(∀ p ∈ acc,p.2 < k)→(∀ p q,p ∈ acc→q ∈ acc→p.2=q.2→p.1=q.1)→∀ p q,p ∈ cellsFrom k names acc→q ∈ cellsFrom k names acc→p.2=q.2→p.1=q.1
 | [],_,_,_,hi,p,q,hp,hq,e=>hi p q hp hq e
 | (n,kd) :: r,k,acc,hb,hi,p,q,hp,hq,e=>by
  unfold cellsFrom at hp hq
  by_cases hk:(kd == NameKind.cell)=true
  ·rw [if_pos hk] at hp hq
   refine cf_inj r (k + 1) ((n,k) :: acc) (fun z hz=>?_) (fun y z hy hz e=>?_) p q hp hq e
   ·rcases List.mem_cons.mp hz with rfl | hz
    ·exact Nat.lt_succ_self _
    ·exact Nat.lt_succ_of_lt (hb z hz)
   ·rcases List.mem_cons.mp hy with hy | hy <;> rcases List.mem_cons.mp hz with hz | hz
    ·rw [hy,hz]
    ·subst hy; exact absurd (hb z hz) (by rw [← e]; exact Nat.lt_irrefl _)
    ·subst hz; exact absurd (hb y hy) (by rw [e]; exact Nat.lt_irrefl _)
    ·exact hi y z hy hz e
  ·rw [if_neg hk] at hp hq
   exact cf_inj r k acc hb hi p q hp hq e
theorem cf_cell:∀ (names:List (Str × NameKind)) (h:Heap) (acc:List (Str × Addr)) (p:Str × Addr),p ∈ cellsFrom h.objs.size names acc→p ∈ acc ∨ ((pushCells h names).IsCell p.2 none∧h.objs.size ≤ p.2)
 | [],_,_,_,e=>.inl e
 | (n,kd) :: r,h,acc,p,e=>by
  unfold cellsFrom at e
  unfold pushCells
  by_cases hk:(kd == NameKind.cell)=true
  ·rw [if_pos hk] at e ⊢
   have hs:(h.push { cls:=.type "cell",data:=.cell none }).objs.size=h.objs.size + 1:=Heap.size_push ..
   rw [← hs] at e
   rcases cf_cell r _ _ p e with q | ⟨q,l⟩
   ·rcases List.mem_cons.mp q with rfl | q
    ·exact .inr ⟨Heap.IsCell.keeps ⟨_,Heap.get?_push_size _ rfl,rfl⟩ (pushCells_keeps _ _),Nat.le_refl _⟩
    ·exact .inl q
   ·exact .inr ⟨q,by omega⟩
  ·rw [if_neg hk] at e ⊢
   exact cf_cell r h acc p e
theorem newEnv_comp {M:Model} {A:Around} {E:Value→Shared→Prop} {s:Shared} {scope:Scope} {globals:Addr} {cl:List (Str × Addr)} {qual:Str} {outer:Env} {Q:Env→Shared→Prop}
  (hQ:Q (newEnv scope s.heap.objs.size globals (cellsFrom (s.heap.objs.size + 1) scope.names cl) qual none .none (some outer) builtinsNs) { s with heap:=pushCells (s.heap.push { cls:=.type "dict",data:=.dict #[] }) scope.names }) :
  wpAny M A (newFunctionEnv scope globals cl [] qual none .none (some outer)) Q E s:=by
 simp only [newFunctionEnv,Option.isSome_some,if_true]
 refine wpAny_bind (wpAny_alloc ?_)
 refine wpAny_bind (wpAny_layCells _ (fun name kind cells=>by cases hkc:kind == NameKind.cell <;> simp [hkc]) _ _ _ _ ?_)
 rw [show ({ s with heap:=s.heap.push { cls:=.type "dict",data:=.dict #[] } }:Shared).heap.objs.size=s.heap.objs.size + 1 from Heap.size_push ..]
 rw [List.forIn_nil]
 exact wpAny_bind (wpAny_pure (wpAny_pure hQ))
theorem comp_loop {prog:Program} {w:World} {A:Around} {R:Result→Shared→Prop} {s:Shared} {elt target iter:Expr} {ifs:List Expr} {scope:Scope} {pos:Pos} {it acc:Value} {env:Env} (I:Nat→Shared→Prop)
  (turn:∀ n s,I n s→wpAny (model prog w) A (pyNext it) (fun r s₁=>match r with
   | none=>R (.ok .next) s₁
   | some v=>wpAny (model prog w) A (letOwnedTupleGo target it v) (fun _ s₁'=>wpAny (model prog w) A (assign target env v) (fun _ s₂ =>
     wpAny (model prog w) A (forIn ifs true fun c r=>if r=true then do let ok ← isTrue c env (eval c env); pure (ForInStep.yield ok) else pure (ForInStep.yield r)) (fun ok s₃ =>
      if ok=true then wpAny (model prog w) A (eval elt env) (fun x s₄ =>
       wpAny (model prog w) A (call (.builtin "list.append") [acc,x]) (fun _ s₅=>∃ m,m < n∧I m s₅) (fun _ _=>False) s₄) (fun _ _=>False) s₃
      else ∃ m,m < n∧I m s₃) (fun _ _=>False) s₂) (fun _ _=>False) s₁') (fun _ _=>False) s₁) (fun _ _=>False) s)
  (n:Nat) (h:I n s) :
  codeAny (model prog w) A (.compLoop (.ListComp elt [⟨target,iter,ifs,0⟩] scope pos) 0 it acc env) R s:=by
 refine codeAny_loop rfl I (fun n s hI=>?_) n h
 show wpAny _ A ((compTurn (.ListComp elt [⟨target,iter,ifs,0⟩] scope pos) 0 it acc env).onRaise (fun x=>do noteFrame x env; theTreesLotGoes x)) _ _ s
 refine wpAny_noted ?_
 rw [compTurn_list]
 refine wpAny_bind (wpAny_standAt (wpAny_bind (wpAny_mono (turn n s hI) (fun r s₁ h₁=>?_) fun _ _ h'=>h'.elim)))
 cases r with
 | none=>exact wpAny_pure h₁
 | some v =>
  refine wpAny_bind (wpAny_mono h₁ (fun _ s₁' h₁'=>?_) fun _ _ h'=>h'.elim)
  refine wpAny_bind (wpAny_mono h₁' (fun _ s₂ h₂=>wpAny_bind (wpAny_mono h₂ (fun ok s₃ h₃=>?_) fun _ _ h'=>h'.elim)) fun _ _ h'=>h'.elim)
  cases ok with
  | false=>exact wpAny_pure ⟨rfl,h₃⟩
  | true =>
   exact wpAny_bind (wpAny_bind (wpAny_mono h₃ (fun x s₄ h₄=>wpAny_bind (wpAny_mono h₄ (fun _ s₅ h₅=>wpAny_pure (wpAny_pure ⟨rfl,h₅⟩)) fun _ _ h'=>h'.elim)) fun _ _ h'=>h'.elim))
def compE (scope:Scope) (C:Addr) (env:Env):Env:=compEnvC scope (cellsFrom (C + 1) scope.names (cloF env scope.names [])) C env
def cxC (X:Cx) (scope:Scope) (C:Addr) (N:List Str) (fp:List Addr) (s:Shared) (H:Hp):Cx where
 prog:=X.prog
 w:=X.w
 K:=X.K
 mg:=X.mg
 base:=X.base
 A:=X.A
 N:=N
 s₀:=s
 H₀:=H
 env:=compE scope C X.env
 outer:=X.stack
 stack:=X.stack
 ex:=fp
 fn:=fun x=>decide ((x,NameKind.cell) ∈ scope.names)
 calm:=X.calm
 pn:=[]
 xe:=fun _ _=>False
def PIfs (X:Cx) (ifs:List Expr) (t:TT):Prop :=
 ∀ (pins:List (Addr × Obj)) (s:Shared) (σ:St) (H:Hp) (Q:Bool→Hp→Prop),Inv X pins σ H s→t σ H Q →
  wpAny (model X.prog X.w) X.A (forIn ifs true fun c r=>if r=true then do let ok ← isTrue c X.env (eval c X.env); pure (ForInStep.yield ok) else pure (ForInStep.yield r)) (TP X pins σ Q) X.xe s
def tYes:TT:=fun _ H Q=>Q true H
theorem jf8 {X:Cx}:PIfs X [] tYes:=fun _ s σ H Q I h=>wpAny_tests_nil ⟨H,I,h⟩
theorem pifs_one {X:Cx} {c:Expr} {t:TT} (h:PT X c t):PIfs X [c] t:=fun pins s σ H Q I q=>wpAny_tests_one (h pins s σ H Q I q)
def blkσ (own:Nat) (cap:List Nat) (σ:St):St:=List.replicate own none ++ cap.map fun i=>(σ[i]?).getD none
structure BlkOk (X:Cx) (scope:Scope) (own:List Str) (cap:List Str) (ix:List Nat):Prop where
 kind:scope.kind=.function
 names:∀ x ∈ scope.names,x.2=.local→scope.names.lookup x.1=some .local
 nd:(scope.names.map (·.1)).Nodup
 frees:∀ x ∈ scope.names,x.2=.free→X.env.kindOf x.1=some .cell ∨ X.env.kindOf x.1=some .free
 caps:∀ (j:Nat) (x:Str),cap[j]?=some x→(x,NameKind.free) ∈ scope.names
 at':∀ (j:Nat) (x:Str),cap[j]?=some x→∃ i,ix[j]?=some i∧X.N[i]?=some x
 len:cap.length=ix.length
theorem relabel_look {env:Env} {scope:Scope} {x:Str} {k:NameKind} (h:(relabel scope env).names.lookup x=some k):(x,k) ∈ scope.names ∨ (k=.cell∧(x,NameKind.free) ∈ scope.names):=by
 have m:=PySem.mem_of_lookup h
 obtain ⟨⟨n,k'⟩,hm,e⟩:=List.mem_map.mp m
 simp only at e
 split at e
 ·rename_i hc
  cases e
  have:k'=NameKind.free:=by simp at hc; exact hc.1.1
  subst this
  exact .inr ⟨rfl,hm⟩
 ·cases e; exact .inl hm
theorem nodup_keys {names:List (Str × NameKind)} (nd:(names.map (·.1)).Nodup) {x:Str} {k k':NameKind} (h:(x,k) ∈ names) (h':(x,k') ∈ names):k=k':=by
 induction names with
 | nil=>cases h
 | cons p r ih =>
  rw [List.map_cons,List.nodup_cons] at nd
  rcases List.mem_cons.mp h with e | h <;> rcases List.mem_cons.mp h' with e' | h'
  ·rw [← e'] at e; cases e; rfl
  ·exact absurd (List.mem_map.mpr ⟨_,h',by rw [← e]⟩) nd.1
  ·exact absurd (List.mem_map.mpr ⟨_,h,by rw [← e']⟩) nd.1
  ·exact ih nd.2 h h'
section
variable {X:Cx} {pins:List (Addr × Obj)} {σ:St} {H:Hp} {s:Shared} {scope:Scope} {own cap:List Str} {ix:List Nat}
theorem Inv.block (I:Inv X pins σ H s) (B:BlkOk X scope own cap ix) {fp:List Addr} (hf:∀ b ∈ fp,FpOk X pins H b) (ho:∀ b ∈ fp,∃ o,s.heap.get? b=some o) :
  Inv (cxC X scope s.heap.objs.size (own ++ cap) fp s H) [] (blkσ own.length ix σ) H { s with heap:=pushCells (s.heap.push { cls:=.type "dict",data:=.dict #[] }) scope.names }:=by
 have has:∀ x ∈ scope.names,x.2=.free→(X.env.cells.lookup x.1).isSome=true:=fun x hx hk=>by
  obtain ⟨c,e⟩:=I.ok.has x.1 (B.frees x hx hk)
  rw [e]; rfl
 have keep:∀ b o,s.heap.get? b=some o→(pushCells (s.heap.push { cls:=.type "dict",data:=.dict #[] }) scope.names).get? b=some o:=fun b o e=>pushCells_keeps _ _ b o (Heap.get?_push_of_some _ e)
 have old:∀ x c,X.env.cells.lookup x=some c→c < s.heap.objs.size:=fun x c e=>let ⟨v,q⟩:=I.cell x c e; q.lt
 have cs_look:∀ x c,(cellsFrom (s.heap.objs.size + 1) scope.names (cloF X.env scope.names [])).lookup x=some c→s.heap.objs.size + 1 ≤ c ∨ (X.env.cells.lookup x=some c∧(x,NameKind.cell) ∉ scope.names):=fun x c e=>by
  rcases cf_look _ _ _ e with q | ⟨q,nm⟩
  ·exact .inl q
  ·rcases clo_look _ _ has q with q | q
   ·exact .inr ⟨q,nm⟩
   ·cases q
 have clo_mem:∀ p ∈ cloF X.env scope.names [],X.env.cells.lookup p.1=some p.2:=by
  have aux:∀ (names:List (Str × NameKind)) (acc:List (Str × Addr)),(∀ x ∈ names,x.2=.free→(X.env.cells.lookup x.1).isSome=true)→(∀ p ∈ acc,X.env.cells.lookup p.1=some p.2)→∀ p ∈ cloF X.env names acc,X.env.cells.lookup p.1=some p.2:=by
   intro names
   induction names with
   | nil=>intro acc _ h p hp; exact h p hp
   | cons y r ih =>
    intro acc h h2 p hp
    obtain ⟨n,k⟩:=y
    unfold cloF at hp
    by_cases hk:(k == NameKind.free)=true
    ·rw [if_pos hk] at hp
     refine ih _ (fun x hx=>h x (List.mem_cons_of_mem _ hx)) (fun q hq=>?_) p hp
     rcases List.mem_cons.mp hq with rfl | hq
     ·obtain ⟨c,e⟩:=Option.isSome_iff_exists.mp (h (n,k) List.mem_cons_self (by simpa using hk))
      simp only at e ⊢
      rw [e]; rfl
     ·exact h2 q hq
    ·rw [if_neg hk] at hp
     exact ih _ (fun x hx=>h x (List.mem_cons_of_mem _ hx)) h2 p hp
  exact aux _ _ has (fun p hp=>nomatch hp)
 have cinj:∀ x y c,(cellsFrom (s.heap.objs.size + 1) scope.names (cloF X.env scope.names [])).lookup x=some c→(cellsFrom (s.heap.objs.size + 1) scope.names (cloF X.env scope.names [])).lookup y=some c→x=y:=fun x y c e1 e2 =>
  cf_inj scope.names (s.heap.objs.size + 1) (cloF X.env scope.names []) (fun p hp=>Nat.lt_succ_of_lt (old p.1 p.2 (clo_mem p hp)))
   (fun p q hp hq e=>I.ok.inj p.1 q.1 p.2 (clo_mem p hp) (by rw [e]; exact clo_mem q hq)) (x,c) (y,c) (PySem.mem_of_lookup e1) (PySem.mem_of_lookup e2) rfl
 have ccell:∀ x c,(cellsFrom (s.heap.objs.size + 1) scope.names (cloF X.env scope.names [])).lookup x=some c→∃ v,(pushCells (s.heap.push { cls:=.type "dict",data:=.dict #[] }) scope.names).IsCell c v:=fun x c e=>by
  have m:=PySem.mem_of_lookup e
  have hs:(s.heap.push { cls:=.type "dict",data:=.dict #[] }).objs.size=s.heap.objs.size + 1:=Heap.size_push ..
  rw [← hs] at m
  rcases cf_cell _ _ _ _ m with q | ⟨q,_⟩
  ·obtain ⟨v,z⟩:=I.cell _ _ (clo_mem _ q)
   exact ⟨v,z.keeps keep⟩
  ·exact ⟨none,q⟩
 have fplt:∀ b ∈ fp,b < s.heap.objs.size:=fun b hb=>let ⟨o,e⟩:=ho b hb; Heap.lt_size e
 refine ⟨⟨I.ok.mod,?_,I.ok.glob,I.ok.blt,Nat.le_refl _,cinj,fun x hx=>?_,fun x c hfx e=>?_,I.ok.hd,I.ok.frames,.inl rfl,fun b hb=>⟨?_,fun x c e=>?_⟩,I.bs,Nat.le_trans I.ok.bsz I.sz,fun b o e hb=>?_,fun b hb hz=>?_,I.stack,I.stkFree⟩,
  rfl,I.bare,Un.kept keep,⟨fun _=>none,(Heap.Ns.new s.heap (.type "dict")).keeps (pushCells_keeps _ _),fun i x v h1 h2 h3=>?_⟩,ccell,I.hok.fresh (Nat.le_refl _),fun x c e=>?_,fun p hp=>absurd (show p ∈ ([]:List (Addr × Obj)) from hp) (by simp),I.hok.kept keep,?_⟩
 ·exact B.kind
 ·have hx':(relabel scope X.env).names.lookup x=some .cell ∨ (relabel scope X.env).names.lookup x=some .free:=hx
  have:((cellsFrom (s.heap.objs.size + 1) scope.names (cloF X.env scope.names [])).lookup x).isSome=true:=by
   have fr:(x,NameKind.free) ∈ scope.names→((cellsFrom (s.heap.objs.size + 1) scope.names (cloF X.env scope.names [])).lookup x).isSome=true:=fun z=>PySem.W.cellsFrom_some _ _ _ (.inr (clo_some _ _ (.inl z)))
   have ce:(x,NameKind.cell) ∈ scope.names→((cellsFrom (s.heap.objs.size + 1) scope.names (cloF X.env scope.names [])).lookup x).isSome=true:=fun z=>by
    have aux:∀ (names:List (Str × NameKind)) (k:Nat) (acc:List (Str × Addr)),(x,NameKind.cell) ∈ names→((cellsFrom k names acc).lookup x).isSome=true:=by
     intro names
     induction names with
     | nil=>intro _ _ z; cases z
     | cons y r ih =>
      intro k acc z
      obtain ⟨n,kd⟩:=y
      unfold cellsFrom
      by_cases hk:(kd == NameKind.cell)=true
      ·rw [if_pos hk]
       rcases List.mem_cons.mp z with e | z
       ·cases e
        exact PySem.W.cellsFrom_some _ _ _ (.inr (by rw [List.lookup_cons]; simp))
       ·exact ih _ _ z
      ·rw [if_neg hk]
       rcases List.mem_cons.mp z with e | z
       ·cases e; exact absurd (by decide) hk
       ·exact ih _ _ z
    exact aux _ _ _ z
   rcases hx' with q | q
   ·rcases relabel_look q with q | ⟨_,q⟩
    ·exact ce q
    ·exact fr q
   ·rcases relabel_look q with q | ⟨e,_⟩
    ·exact fr q
    ·cases e
  exact Option.isSome_iff_exists.mp this
 ·have hm:(x,NameKind.cell) ∈ scope.names:=of_decide_eq_true hfx
  rcases cs_look x c e with q | ⟨_,nm⟩
  ·exact Nat.le_trans (Nat.le_succ _) q
  ·exact absurd hm nm
 ·exact Nat.ne_of_lt (fplt b hb)
 ·rcases cs_look x c e with q | ⟨q,_⟩
  ·exact Nat.ne_of_gt (Nat.lt_of_lt_of_le (fplt b hb) (Nat.le_trans (Nat.le_succ _) q))
  ·exact (hf b hb).2.2.2.2.1 x c q
 ·rcases (hf b hb).2.2.2.1 with z | z
  ·exact I.ok.noex b o e z
  ·exact absurd (Nat.lt_of_lt_of_le (Heap.lt_size e) (Nat.le_trans I.ok.bsz z)) (Nat.lt_irrefl _)
 ·rcases List.mem_cons.mp (I.stkSub b hz) with e | z
  ·exact (hf b hb).2.1 e
  ·exact (hf b hb).2.2.1 z
 ·
  have h1:(own ++ cap)[i]?=some x:=h1
  have hi:own.length ≤ i:=by
   by_cases hi:i < own.length
   ·unfold blkσ at h2
    rw [List.getElem?_append_left (by simpa using hi),List.getElem?_replicate,if_pos hi] at h2
    cases h2
   ·omega
  rw [List.getElem?_append_right hi] at h1
  unfold blkσ at h2
  rw [List.getElem?_append_right (by simpa using hi),List.length_replicate,List.getElem?_map] at h2
  obtain ⟨j,hj,hN⟩:=B.at' _ _ h1
  rw [hj] at h2
  simp only [Option.map_some,Option.some.injEq] at h2
  have h2':σ[j]?=some (some v):=by
   cases q:σ[j]? with
   | none=>rw [q] at h2; simp at h2
   | some o=>rw [q] at h2; simp at h2; rw [h2]
  have fm:=B.caps _ _ h1
  have kd:=B.frees _ fm rfl
  obtain ⟨m,hn,hl⟩:=I.loc
  obtain ⟨u,r,l⟩:=hl j x v hN h2' (by rcases kd with k | k; exact .inr (.inl k); exact .inr (.inr k))
  refine ⟨u,r,.inr ?_⟩
  have cellx:∃ c,X.env.cells.lookup x=some c∧s.heap.IsCell c (some u):=by
   rcases l with ⟨k,_⟩ | ⟨_,c,e,z⟩
   ·simp only at kd; rw [k] at kd; rcases kd with k | k <;> cases k
   ·exact ⟨c,e,z⟩
  obtain ⟨c,ec,zc⟩:=cellx
  have ncell:(x,NameKind.cell) ∉ scope.names:=fun z=>by have:=nodup_keys B.nd z fm; cases this
  refine ⟨?_,c,?_,zc.keeps keep⟩
  ·have h3':(relabel scope X.env).names.lookup x=some .local ∨ (relabel scope X.env).names.lookup x=some .cell ∨ (relabel scope X.env).names.lookup x=some .free:=h3
   rcases h3' with q | q | q
   ·rcases relabel_look q with q | ⟨e,_⟩
    ·have:=nodup_keys B.nd q fm; cases this
    ·cases e
   ·exact .inl q
   ·exact .inr q
  ·show (cellsFrom (s.heap.objs.size + 1) scope.names (cloF X.env scope.names [])).lookup x=some c
   obtain ⟨c',e'⟩:=Option.isSome_iff_exists.mp (PySem.W.cellsFrom_some (x:=x) scope.names (s.heap.objs.size + 1) (cloF X.env scope.names []) (.inr (clo_some _ _ (.inl fm))))
   rw [e']
   rcases cf_look _ _ _ e' with q | ⟨q,_⟩
   ·exfalso
    have m:=PySem.mem_of_lookup e'
    have aux:∀ (names:List (Str × NameKind)) (k:Nat) (acc:List (Str × Addr)),(x,NameKind.cell) ∉ names→(cellsFrom k names acc).lookup x=acc.lookup x:=by
     intro names
     induction names with
     | nil=>intro _ _ _; rfl
     | cons y r ih =>
      intro k acc nm
      obtain ⟨n,kd⟩:=y
      unfold cellsFrom
      by_cases hk:(kd == NameKind.cell)=true
      ·rw [if_pos hk,ih _ _ (fun z=>nm (List.mem_cons_of_mem _ z)),List.lookup_cons]
       have:(x == n)=false:=by
        simp only [beq_eq_false_iff_ne]
        intro e; subst e
        have:kd=.cell:=by simpa using hk
        subst this
        exact nm List.mem_cons_self
       rw [this]
      ·rw [if_neg hk,ih _ _ (fun z=>nm (List.mem_cons_of_mem _ z))]
    rw [aux _ _ _ ncell] at e'
    rcases clo_look _ _ has e' with z | z
    ·exact absurd (Nat.lt_of_lt_of_le (old _ _ z) (Nat.le_trans (Nat.le_succ _) q)) (Nat.lt_irrefl _)
    ·cases z
   ·rcases clo_look _ _ has q with z | z
    ·rw [ec] at z; rw [z]
    ·cases z
 ·rcases cs_look x c e with q | ⟨q,_⟩
  ·exact I.hok.fresh (Nat.le_trans (Nat.le_succ _) q)
  ·exact I.freeC x c q
 ·unfold blkσ
  show _=(own ++ cap).length
  rw [List.length_append,List.length_append,List.length_replicate,List.length_map,B.len]
end
end L2
namespace L2
open PySem PySem.Spec PyProof.Rows
def tCompN (g:TG) (tt:TT) (te:TE) (J:It) (acc:Addr) (σ₀:St) (H₀:Hp) (Q:VK):Prop :=
 ∃ W:Nat→Nat→St→Hp→Prop,(∃ m,W 0 m σ₀ (upd H₀ acc (.lst [])))∧∀ i m σ' H',W i m σ' H' →
  (J.stop i H'∧Q (.ref acc) H') ∨
  (J.go i H'∧∃ N:St→Hp→Prop,(∀ σ2 H2,N σ2 H2→∃ m',m' < m∧W (i + 1) m' σ2 H2)∧∀ x H2,J.yld i H' x H2→g x σ' H2 fun σ3 H3=>tt σ3 H3 fun b H4 =>
   if b=true then te σ3 H4 fun y H5=>∃ ys,H5 acc=some (.lst ys)∧ys.length < sizeLine∧N σ3 (upd H5 acc (.lst (ys ++ [y]))) else N σ3 H4)
def tComp (wi:TI) (g:TG) (tt:TT) (te:TE) (own:Nat) (ix:List Nat):TE:=fun σ H Q=>wi σ H fun J H1=>∀ acc,H1 acc=none→tCompN g tt te J acc (blkσ own ix σ) H1 Q
section
variable {X:Cx} {scope:Scope} {own cap:List Str} {ix:List Nat} {tg iter elt:Expr} {ifs:List Expr} {wi:TI} {g:TG} {tt:TT} {te:TE} {pos:Pos}
theorem comp_core {pins:List (Addr × Obj)} {σ:St} {H2:Hp} {s2:Shared} {it:Addr} {fp:List Addr} {tn:Nat→Heap→Prop} {J:It} {Q:VK} {RR:Value→Addr→Result→Shared→Prop} {E:Value→Shared→Prop}
  (B:BlkOk X scope own cap ix) (hc:X.calm=true)
  (hb:∀ C fp s H,PG (cxC X scope C (own ++ cap) fp s H) tg g∧PIfs (cxC X scope C (own ++ cap) fp s H) ifs tt∧PE (cxC X scope C (own ++ cap) fp s H) elt te)
  (I2:Inv X pins σ H2 s2) (T:Turn X.prog X.w X.K tg J fp it tn) (st2:tn 0 s2.heap) (f2:∀ b ∈ fp,FpOk X pins H2 b)
  (q:∀ acc,H2 acc=none→tCompN g tt te J acc (blkσ own.length ix σ) H2 Q)
  (hRR:∀ D C H' s' m,Inv X pins σ H' s'→Q (.ref D) H'→s'.heap.Ns C m→FpOk X pins H' C→RR (.ref D) C (.ok .next) s') :
  wpAny (model X.prog X.w) X.A (newList []) (fun acc s₃=>wpAny (model X.prog X.w) X.A (newFunctionEnv scope X.env.globals (cloF X.env scope.names []) [] X.env.qual none .none (some X.env)) (fun cenv s₄ =>
   codeAny (model X.prog X.w) X.A (.compStart (.ListComp elt [⟨tg,iter,ifs,0⟩] scope pos) 0 (.ref it) acc { cenv with scope:=relabel scope X.env }) (RR acc cenv.locals) s₄) E s₃) E s2:=by
 refine wpAny_newObj_type (newEnv_comp ?_)
 have I3:Inv X pins σ (upd H2 s2.heap.objs.size (.lst [])) { s2 with heap:=s2.heap.push { cls:=.type "list",dict:=none,data:=.seq ([]:List Value).toArray } }:=I2.lnew (its:=[]) (ys:=[]) (t':=s2.toks) .nil (Nat.zero_le _)
 obtain ⟨W,⟨m0,w0⟩,turn⟩:=q s2.heap.objs.size I2.fresh
 generalize hD:s2.heap.objs.size=D at I3 w0 turn ⊢
 have hlt:∀ b ∈ fp,b < D:=fun b hbm=>by
  obtain ⟨o,e,_⟩:=T.obj 0 _ st2 b hbm
  rw [← hD]; exact Heap.lt_size e
 generalize hs3:({ s2 with heap:=s2.heap.push { cls:=.type "list",dict:=none,data:=.seq ([]:List Value).toArray } }:Shared)=s3 at I3 ⊢
 have keep3:∀ b o,s2.heap.get? b=some o→s3.heap.get? b=some o:=fun b o e=>by rw [← hs3]; exact Heap.get?_push_of_some _ e
 have f3:∀ b ∈ fp,FpOk X pins (upd H2 D (.lst [])) b:=fun b hbm=>⟨by rw [jb3 (Nat.ne_of_lt (hlt b hbm))]; exact (f2 b hbm).1,(f2 b hbm).2⟩
 have o3:∀ b ∈ fp,∃ o,s3.heap.get? b=some o:=fun b hbm=>let ⟨o,e,_⟩:=T.obj 0 _ st2 b hbm; ⟨o,keep3 b o e⟩
 have I4:=I3.block B f3 o3
 have st4:tn 0 (pushCells (s3.heap.push { cls:=.type "dict",data:=.dict #[] }) scope.names):=T.keep 0 _ _ st2 fun b _ o e=>pushCells_keeps _ _ b o (Heap.get?_push_of_some _ (keep3 b o e))
 obtain ⟨hg,hif,he⟩:=hb s3.heap.objs.size fp s3 (upd H2 D (.lst []))
 generalize hX':cxC X scope s3.heap.objs.size (own ++ cap) fp s3 (upd H2 D (.lst []))=X' at I4 hg hif he
 have eP:X'.prog=X.prog:=by rw [← hX']; rfl
 have eW:X'.w=X.w:=by rw [← hX']; rfl
 have eK:X'.K=X.K:=by rw [← hX']; rfl
 have eA:X'.A=X.A:=by rw [← hX']; rfl
 have eE:X'.env=compE scope s3.heap.objs.size X.env:=by rw [← hX']; rfl
 have ex:X'.xe=fun _ _=>False:=by rw [← hX']; rfl
 have hc':X'.calm=true:=by rw [← hX']; exact hc
 have stat:∀ {H':Hp},(∀ b ∈ fp,H' b=none)→∀ b ∈ fp,FpOk X' [] H' b:=fun hn b hbm=>by
  subst hX'
  exact ⟨hn b hbm,(I4.ok.exf b hbm).1,I4.ok.exfs b hbm,.inl hbm,(I4.ok.exf b hbm).2,fun p hp=>absurd (show p ∈ ([]:List (Addr × Obj)) from hp) (by simp)⟩
 have loop:∀ s4:Shared,s4={ s3 with heap:=pushCells (s3.heap.push { cls:=.type "dict",data:=.dict #[] }) scope.names } →
   codeAny (model X.prog X.w) X.A (.compLoop (.ListComp elt [⟨tg,iter,ifs,0⟩] scope pos) 0 (.ref it) (.ref D) (compE scope s3.heap.objs.size X.env)) (RR (.ref D) s3.heap.objs.size) s4:=by
  rintro s4 rfl
  refine comp_loop (fun n s'=>∃ i σ' H',Inv X' [] σ' H' s'∧tn i s'.heap∧(∀ b ∈ fp,H' b=none)∧W i n σ' H') ?_ m0 ⟨0,_,_,I4,st4,fun b hbm=>(f3 b hbm).1,w0⟩
  rintro n s5 ⟨i,σ5,H5,I5,st5,fr5,w5⟩
  rcases turn i n σ5 H5 w5 with ⟨stop,qn⟩ | ⟨go,N,hN,step⟩
  ·have:=T.done X' eP eW eK hc' i [] s5 σ5 H5 (fun _ _=>False) I5 (stat fr5) st5 stop
   rw [eA] at this
   refine thn this fun r s6 ⟨hr,I6⟩=>?_
   subst hr
   subst hX'
   have J6:Inv X pins σ H5 s6:=I3.call' (ch:=fp) I6.os I6.base I6.hok I6.bare fun b hbm=>⟨(f3 b hbm).2.2.2.1,(f3 b hbm).2.1,(f3 b hbm).2.2.2.2.1,(f3 b hbm).2.2.2.2.2⟩
   obtain ⟨m,hn,_⟩:=I6.loc
   exact hRR D _ H5 s6 m J6 qn hn (I3.fpOk (Nat.le_refl _) I6.free)
  ·have:=T.item X' eP eW eK hc' i [] s5 σ5 H5 (fun _ _=>False) I5 (stat fr5) st5 go
   rw [eA] at this
   refine thn this fun r s6 ⟨u,hr,h6⟩=>?_
   subst hr
   refine thn h6 fun _ s7 ⟨x,H7,I7,r7,y7,st7,fr7⟩=>?_
   have I7':=I7.pinned (stat fr7) (T.obj _ _ st7)
   have a1:=hg _ s7 σ5 H7 x u _ I7' r7 (step x H7 y7)
   rw [eP,eW,eA,eE,ex] at a1
   refine thn a1 fun _ s8 ⟨σ8,H8,I8,q8⟩=>?_
   have a2:=hif _ s8 σ8 H8 _ I8 q8
   rw [eP,eW,eA,eE,ex] at a2
   refine thn a2 fun b s9 ⟨H9,I9,q9⟩=>?_
   have again:∀ {s':Shared} {σ':St} {H':Hp},Inv X' ([] ++ pinsAt fp s7.heap) σ' H' s'→N σ' H'→∃ m,m < n∧∃ i σ' H',Inv X' [] σ' H' s'∧tn i s'.heap∧(∀ b ∈ fp,H' b=none)∧W i m σ' H':=fun {s' σ' H'} I' n'=>by
    obtain ⟨m',hm,w'⟩:=hN σ' H' n'
    refine ⟨m',hm,i + 1,σ',H',I'.unpinned,T.keep _ _ _ st7 fun b hbm o e=>(I'.pin (b,o) (List.mem_append_right _ (List.mem_append_right _ (je9 hbm e)))).1,fun b hbm=>?_,w'⟩
    obtain ⟨o,e,d⟩:=T.obj _ _ st7 b hbm
    exact (I'.pin (b,o) (List.mem_append_right _ (List.mem_append_right _ (je9 hbm e)))).2.1
   cases b with
   | false=>exact again I9 q9
   | true =>
    rw [if_pos rfl] at q9 ⊢
    have a3:=he _ s9 σ8 H9 _ I9 q9
    rw [eP,eW,eA,eE,ex] at a3
    refine thn a3 fun yv s10 ⟨y,H10,I10,r10,ys,hys,hz,q10⟩=>?_
    have a4:=mt_append (X:=X') _ s10 σ8 H10 (.ref D) [y] (.ref D) [yv] (fun v H'=>v=.non∧N σ8 H') I10 rfl (.cons r10 .nil) ⟨D,ys,y,rfl,rfl,hys,hz,rfl,q10⟩
    rw [eP,eW,eA,ex] at a4
    refine thn a4 fun _ s11 ⟨_,H11,I11,_,_,q11⟩=>again I11 q11
 exact codeAny_compStart_list (loop _ rfl) (T.self X.A 0 _ _ _ st4 (loop _ rfl))
theorem pe_comp (B:BlkOk X scope own cap ix) (hc:X.calm=true) (hi:PI X tg iter wi)
  (hb:∀ C fp s H,PG (cxC X scope C (own ++ cap) fp s H) tg g∧PIfs (cxC X scope C (own ++ cap) fp s H) ifs tt∧PE (cxC X scope C (own ++ cap) fp s H) elt te)
  (hs:∀ x,foldedSetIterable iter X.env x=pure x:=by intro _; rfl):PE X (.ListComp elt [⟨tg,iter,ifs,0⟩] scope pos) (tComp wi g tt te own.length ix):=by
 intro pins s σ H Q I h
 rw [eval_ListComp]
 have has:∀ x ∈ scope.names,x.2=.free→(X.env.cells.lookup x.1).isSome=true:=fun x hx hk=>by
  obtain ⟨c,e⟩:=I.ok.has x.1 (B.frees x hx hk)
  rw [e]; rfl
 refine wpAny_comprehension_free (use:=none) rfl hs (je8 has) B.kind B.names ?_
 show wpAny _ _ (eval iter X.env) _ _ s
 refine thn (hi pins s σ H _ I h) fun v s1 h1=>thn h1 fun itv s2 h2=>?_
 obtain ⟨it,fp,tn,J,H2,e,I2,T,st2,f2,q⟩:=h2
 subst e
 refine comp_core (RR:=fun acc C=>compPost (model X.prog X.w) X.A X.xe none (EP X pins σ Q) acc C) B hc hb I2 T st2 f2 q ?_
 intro D C H' s' m I' q' hn fC
 refine ⟨m,hn,fun h' hsb=>⟨.ref D,H',?_,rfl,q'⟩⟩
 exact I'.turned (t':=s'.toks) (it:=C) (fun b o hbC e=>(hsb.2 b hbC).trans e) fC.1 fC.2.1 fC.2.2.2.1 fC.2.2.2.2.1 fC.2.2.2.2.2
theorem ps_setC {i:Nat} {y:Str} {py spos:Pos} (hN:X.N.Nodup) (hiN:X.N[i]?=some y) (hx:X.env.scope.names.lookup y=some .local) (B:BlkOk X scope own cap ix) (hc:X.calm=true) (hi:PI X tg iter wi)
  (hb:∀ C fp s H,PG (cxC X scope C (own ++ cap) fp s H) tg g∧PIfs (cxC X scope C (own ++ cap) fp s H) ifs tt∧PE (cxC X scope C (own ++ cap) fp s H) elt te)
  (hsw:swapsWith (.ListComp elt [⟨tg,iter,ifs,0⟩] scope pos) (some (.Name y py)) spos.line X.env=pure true:=by rfl)
  (hs:∀ x,foldedSetIterable iter X.env x=pure x:=by intro _; rfl):PS X (.Assign [.Name y py] (.ListComp elt [⟨tg,iter,ifs,0⟩] scope pos) spos) (tAsg (tComp wi g tt te own.length ix) (gName i)):=by
 intro pins s σ H D I h
 rw [exec_Assign_Name_used _ _ _ _ hsw]
 have has:∀ x ∈ scope.names,x.2=.free→(X.env.cells.lookup x.1).isSome=true:=fun x hx hk=>by
  obtain ⟨c,e⟩:=I.ok.has x.1 (B.frees x hx hk)
  rw [e]; rfl
 refine wpAny_bind (wpAny_standAt (wpAny_bind ?_))
 show wpAny _ X.A (do let _ ← comprehension (.ListComp elt [⟨tg,iter,ifs,0⟩] scope pos) scope X.env _ (newList []) false (eval iter X.env) (some (assign (.Name y py) X.env))) _ _ s
 refine wpAny_bind (wpAny_mono (wpAny_comprehension_free (use:=some (assign (.Name y py) X.env)) (Q:=fun _ s'=>SP X pins D .next s') rfl hs (je8 has) B.kind B.names ?_) (fun _ s' hq=>wpAny_pure (wpAny_pure hq)) fun _ _ e=>e)
 refine thn (hi pins s σ H _ I h) fun v s1 h1=>thn h1 fun itv s2 h2=>?_
 obtain ⟨it,fp,tn,J,H2,e,I2,T,st2,f2,q⟩:=h2
 subst e
 refine comp_core (RR:=fun acc C=>compPost (model X.prog X.w) X.A X.xe (some (assign (.Name y py) X.env)) (fun _ s'=>SP X pins D .next s') acc C) B hc hb I2 T st2 f2 q ?_
 intro Da C H' s' m I' q' hn fC
 show wpAny _ X.A (assign (.Name y py) X.env (.ref Da)) _ _ s'
 obtain ⟨oC,es,ep,hoC,hdC,r⟩:=id hn
 have Ip:Inv X (pins ++ [(C,oC)]) σ H' s':=I'.pins_of fun p hp=>by
  rcases List.mem_append.mp hp with z | z
  ·exact I'.pin p (List.mem_append_right _ z)
  ·obtain rfl:p=(C,oC):=by simpa using z
   exact ⟨hoC,fC.1,fC.2.1,fC.2.2.1,fun v e=>by rw [hdC] at e; cases e⟩
 refine wpAny_assign_Name (store_ok Ip hN hiN (.inl hx) (v:=.ref Da) rfl (fun s'' I''=>?_) (.inr hx))
 have pC:=(I''.pin (C,oC) (List.mem_append_right _ (List.mem_append_right _ (by simp)))).1
 refine ⟨m,⟨oC,es,ep,pC,hdC,r⟩,fun h' hsb=>⟨_,H',?_,q'⟩⟩
 exact I''.unpinned.turned (t':=s''.toks) (it:=C) (fun b o hbC e=>(hsb.2 b hbC).trans e) fC.1 fC.2.1 fC.2.2.2.1 fC.2.2.2.2.1 fC.2.2.2.2.2
end
end L2
namespace L2
open PySem PySem.Spec PyProof.Rows
def tv:V→Bool
 | .bl b=>b
 | .int i=>i != 0
 | _=>false
def plainB:V→Bool
 | .bl _=>true
 | .int _=>true
 | .non=>true
 | _=>false
theorem truthy_plain {prog:Program} {w:World} {A:Around} {E:Value→Shared→Prop} {s:Shared} {x:V} {v:Value} {Q:Bool→Shared→Prop} (r:RelV x v) (p:plainB x=true) (h:Q (tv x) s):wpAny (model prog w) A (truthy v) Q E s:=by
 cases x with
 | non=>cases r; exact truthy_none h
 | bl b=>cases r; exact wpAny_truthy_bool h
 | int i=>obtain ⟨t,rfl⟩:=r; exact PySem.P.truthy_int h
 | _=>cases p
theorem all_range {xs:List V} {n:Nat} (hn:n=xs.length) (f:V→Bool):(List.range n).all (fun i=>(xs[i]?.map f).getD true)=xs.all f:=by
 subst hn
 rw [Bool.eq_iff_iff]
 simp only [List.all_eq_true,List.mem_range]
 constructor
 ·intro h x hx
  obtain ⟨i,hi,e⟩:=List.mem_iff_getElem.mp hx
  have:=h i hi
  rw [List.getElem?_eq_getElem hi,e] at this
  simpa using this
 ·intro h i hi
  rw [List.getElem?_eq_getElem hi]
  simpa using h _ (List.getElem_mem hi)
section
variable {X:Cx}
theorem iter_seq {pins:List (Addr × Obj)} {σ:St} {H:Hp} {s:Shared} {p:Addr} {xs:List V} {A:Around} {E:Value→Shared→Prop} {Q:Value→Shared→Prop} (I:Inv X pins σ H s) (hA:A.handled=none) (h:SqL X.K H p xs ∨ SqT X.K H p xs)
  (k:∀ (it:Addr) (fp wr:List Addr) (its:List Value) (St:Nat→Heap→Prop) (s2:Shared),Vals xs its→Walks X.prog X.w A it fp wr its.length (fun i v=>its[i]?=some v) St→St 0 s2.heap→(∀ b ∈ fp,b < s2.heap.objs.size) →
   (∀ h' tk,(∀ b o,b ∉ wr→s2.heap.get? b=some o→h'.get? b=some o)→Inv X pins σ H { s2 with heap:=h',toks:=tk })→Q (.ref it) s2) :
  wpAny (model X.prog X.w) A (pyIter (.ref p)) Q E s:=by
 rcases h with h | h
 ·obtain ⟨its,rv,pl,hz⟩:=I.list h
  have hp:p < s.heap.objs.size:=by obtain ⟨o,n,e,_⟩:=pl; exact Heap.lt_size e
  refine wpAny_pyIter_list pl.isList ?_
  have W:=Walks.list (prog:=X.prog) (w:=X.w) (A:=A) hA s.heap.objs.size p (Nat.ne_of_lt hp) its.toArray
  refine k s.heap.objs.size [s.heap.objs.size,p] [s.heap.objs.size] its (fun i h=>h.IsListIter s.heap.objs.size p i∧h.IsList p its.toArray) _ rv (by simpa using W) ⟨⟨_,Heap.get?_push_size _ rfl,rfl,rfl⟩,pl.isList.push _⟩ (fun b hb=>?_) (fun h' tk hk=>?_)
  ·show b < (s.heap.push _).objs.size
   rw [Heap.size_push]
   rcases List.mem_cons.mp hb with rfl | hb
   ·exact Nat.lt_succ_self _
   ·rcases List.mem_cons.mp hb with rfl | hb
    ·exact Nat.lt_succ_of_lt hp
    ·cases hb
  ·exact I.kept (t':=tk) fun b o e=>hk b o (fun z=>Nat.lt_irrefl _ (by have:=Heap.lt_size e; simp at z; rw [z] at this; exact this)) (Heap.get?_push_of_some _ e)
 ·obtain ⟨its,rv,pl,hz⟩:=I.tuple h
  have hp:p < s.heap.objs.size:=by obtain ⟨o,e,_⟩:=pl; exact Heap.lt_size e
  have pt:s.heap.IsTuple p its.toArray:=pl
  refine wpAny_pyIter_tuple pt ?_
  have W:=Walks.tuple (prog:=X.prog) (w:=X.w) (A:=A) hA s.heap.objs.size p (Nat.ne_of_lt hp) its.toArray
  refine k s.heap.objs.size [s.heap.objs.size,p] [s.heap.objs.size] its (fun i h=>h.IsTupleIter s.heap.objs.size p i∧h.IsTuple p its.toArray) _ rv (by simpa using W) ⟨⟨_,Heap.get?_push_size _ rfl,rfl,rfl⟩,?_⟩ (fun b hb=>?_) (fun h' tk hk=>?_)
  ·obtain ⟨o,e,r⟩:=pt
   exact ⟨o,Heap.get?_push_of_some _ e,r⟩
  ·show b < (s.heap.push _).objs.size
   rw [Heap.size_push]
   rcases List.mem_cons.mp hb with rfl | hb
   ·exact Nat.lt_succ_self _
   ·rcases List.mem_cons.mp hb with rfl | hb
    ·exact Nat.lt_succ_of_lt hp
    ·cases hb
  ·exact I.kept (t':=tk) fun b o e=>hk b o (fun z=>Nat.lt_irrefl _ (by have:=Heap.lt_size e; simp at z; rw [z] at this; exact this)) (Heap.get?_push_of_some _ e)
theorem Vals.at {xs:List V} {us:List Value} {i:Nat} {v:Value} (r:Vals xs us) (e:us[i]?=some v):∃ x,xs[i]?=some x∧RelV x v:=by
 have hi:i < us.length:=(List.getElem?_eq_some_iff.mp e).1
 have hx:i < xs.length:=by rw [r.length]; exact hi
 obtain ⟨u,h1,h2⟩:=r.get (List.getElem?_eq_getElem hx)
 rw [e] at h1; cases h1
 exact ⟨_,List.getElem?_eq_getElem hx,h2⟩
theorem call_all (hc:X.calm=true):CallR X (.builtin "all") (fun xs H Q=>∃ p ys,xs=[.ref p]∧(SqL X.K H p ys ∨ SqT X.K H p ys)∧ys.all plainB=true∧Q (.bl (ys.all tv)) H):=by
 intro pins s σ H xs us Q I r h
 obtain ⟨p,ys,rfl,hs,hp,q⟩:=h
 obtain ⟨u,rfl,ru⟩:=vals1 r
 cases ru
 refine call_all_walk (iter_seq I (A:=X.A.in1) (I.ok.hd hc) hs fun it fp wr its St s2 rv W st hfp hk=>?_)
 refine ⟨it,fp,wr,its.length,_,St,(fun i=>(ys[i]?.map tv).getD true),rfl,W,st,fun i v s' Q' E' hv hq=>?_,fun h' tk kk=>⟨.bl (ys.all tv),H,hk h' tk kk,?_,q⟩⟩
 ·obtain ⟨x,ex,rx⟩:=rv.at hv
  simp only [ex,Option.map_some,Option.getD_some] at hq
  exact truthy_plain rx (List.all_eq_true.mp hp x (List.mem_of_getElem? ex)) hq
 ·rw [all_range rv.length.symm]; rfl
end
def tIsi (K:PySem.W.Frag) (c:Value) (te:TE):TE:=fun σ H Q=>te σ H fun x H1=>∃ t b,TyOf K H1 x t∧PySem.W.kitOne K t c=some b∧Q (.bl b) H1
section
variable {X:Cx} {e:Expr} {te:TE}
theorem spl2 {a b:Expr} {ta:TE} {pos:Pos} {pins:List (Addr × Obj)} {s:Shared} {σ:St} {H:Hp} {Q:List Value→Shared→Prop} (ha:PE X a ta) (I:Inv X pins σ H s) {R:V→Hp→Prop} (h:ta σ H R)
  (hs:starEach [a,b] X.env=[(false,eval a X.env),(false,eval b X.env)]) (k:∀ u s1 x H1,Inv X pins σ H1 s1→RelV x u→R x H1→wpAny (model X.prog X.w) X.A (eval b X.env) (fun v s2=>Q [u,v] s2) X.xe s1) :
  wpAny (model X.prog X.w) X.A (spliced (backTo pos (starEach [a,b] X.env))) Q X.xe s:=by
 rw [hs]
 refine Calls.spliced_cons (thn (ha pins s σ H _ I h) fun u s1 ⟨x,H1,I1,r,q⟩=>?_)
 exact Calls.spliced_cons (thn (k u s1 x H1 I1 r q) fun v s2 h2=>Calls.spliced_nil h2)
theorem pe_isiB {T:Str} {n:String} {p p2 pos:Pos} (he:PE X e te) (hg:Gl X "isinstance") (hm:X.mg "isinstance"=none) (hgT:Gl X T) (hmT:X.mg T=none) (hv:bootBuiltins T=some (.type n))
  (hb:bootBuiltins "isinstance"=some (.builtin "isinstance")) (hnT:T ≠ "__name__":=by decide) (hdT:(T == ("__debug__" : Str))=false:=by decide)
  (hs:starEach [e,.Name T p2] X.env=[(false,eval e X.env),(false,eval (.Name T p2) X.env)]:=by rfl)
  (hpl:(backTo pos (starEach [.Name T p2] X.env)).any (·.1)=false:=by rfl):PE X (.Call (.Name "isinstance" p) [e,.Name T p2] [] pos) (tIsi X.K (.type n) te):=by
 intro pins s σ H Q I h
 refine Call_ (ld_blt I hg hm hb (PyProof.Rows.callWith_builtin1 (spl2 (Q:=fun us s1=>wpAny (model X.prog X.w) X.A (call (.builtin "isinstance") us) (EP X pins σ Q) X.xe s1) he I h hs fun u s1 x H1 I1 r q=>?_) ?_ hpl))
 ·refine ld_blt I1 hgT hmT hv ?_ hnT hdT
  obtain ⟨t,b,ty,ek,q⟩:=q
  exact isinst_ok I1 r ty ek fun tk=>⟨.bl b,H1,I1.tok tk,rfl,q⟩
 ·rw [hs]; rfl
end
mutual
inductive DtV (K:PySem.W.Frag) (H:Hp):V→PyData→Prop
 | non:DtV K H .non .none
 | bl (b:Bool):DtV K H (.bl b) (.bool b)
 | int (i:Int):DtV K H (.int i) (.int i)
 | str (x:Str) (ok:(PyData.str x).canLay0=true):DtV K H (.str x) (.str x)
 | lst {a:Addr} {xs:List V} {ds:List PyData}:SqL K H a xs→DtVs K H xs ds→DtV K H (.ref a) (.list ds)
 | tup {a:Addr} {xs:List V} {ds:List PyData}:SqT K H a xs→DtVs K H xs ds→DtV K H (.ref a) (.tuple ds)
inductive DtVs (K:PySem.W.Frag) (H:Hp):List V→List PyData→Prop
 | nil:DtVs K H [] []
 | cons {x:V} {xs:List V} {d:PyData} {ds:List PyData}:DtV K H x d→DtVs K H xs ds→DtVs K H (x :: xs) (d :: ds)
end
section
variable {X:Cx} {pins:List (Addr × Obj)} {σ:St} {H:Hp} {s:Shared}
mutual
theorem DtV.reads (I:Inv X pins σ H s):∀ {x:V} {d:PyData} {u:Value},DtV X.K H x d→RelV x u→∃ as,Reads s.heap u d as
 | _,_,_,.non,r=>by cases r; exact ⟨_,.none⟩
 | _,_,_,.bl b,r=>by cases r; exact ⟨_,.bool b⟩
 | _,_,_,.int i,r=>by obtain ⟨t,rfl⟩:=r; exact ⟨_,.int i t⟩
 | _,_,_,.str x _,r=>by obtain ⟨t,rfl⟩:=r; exact ⟨_,.str x t⟩
 | _,_,_,.lst hq h,r=>by
  cases r
  obtain ⟨its,rv,⟨o,n,e,c,_,d⟩,_⟩:=I.list hq
  obtain ⟨as,ra⟩:=DtVs.reads I h rv
  exact ⟨_,.list e c d (by simpa using ra)⟩
 | _,_,_,.tup hq h,r=>by
  cases r
  obtain ⟨its,rv,⟨o,e,c,n,d⟩,_⟩:=I.tuple hq
  obtain ⟨as,ra⟩:=DtVs.reads I h rv
  exact ⟨_,.tuple e c d (by simpa using ra)⟩
theorem DtVs.reads (I:Inv X pins σ H s):∀ {xs:List V} {ds:List PyData} {us:List Value},DtVs X.K H xs ds→Vals xs us→∃ as,ReadsAll s.heap us ds as
 | _,_,_,.nil,r=>by cases r; exact ⟨_,.nil⟩
 | _,_,_,.cons h t,r=>by
  cases r with
  | cons r1 r2 =>
   obtain ⟨as,ra⟩:=DtV.reads I h r1
   obtain ⟨bs,rb⟩:=DtVs.reads I t r2
   exact ⟨_,.cons ra rb⟩
end
mutual
theorem DtV.lay {K:PySem.W.Frag}:∀ {x:V} {d:PyData},DtV K H x d→d.canLay0=true
 | _,_,.non=>rfl
 | _,_,.bl b=>rfl
 | _,_,.int i=>rfl
 | _,_,.str x ok=>ok
 | _,_,.lst hq h=>by have:=DtVs.lay h; simpa [PyData.canLay0] using this
 | _,_,.tup hq h=>by have:=DtVs.lay h; simpa [PyData.canLay0] using this
theorem DtVs.lay {K:PySem.W.Frag}:∀ {xs:List V} {ds:List PyData},DtVs K H xs ds→PyData.canLayAll0 ds=true
 | _,_,.nil=>rfl
 | _,_,.cons h t=>by have h1:=DtV.lay h; have h2:=DtVs.lay t; simp [PyData.canLayAll0,h1,h2]
end
end
section
variable {X:Cx}
def rEqD (K:PySem.W.Frag):R2:=fun x y H Q=>∃ dx dy,DtV K H x dx∧DtV K H y dy∧min dx.depth dy.depth ≤ 60∧Q (.bl (PyData.eqv dx dy)) H
def rNeD (K:PySem.W.Frag):R2:=fun x y H Q=>∃ dx dy,DtV K H x dx∧DtV K H y dy∧min dx.depth dy.depth ≤ 60∧Q (.bl (!PyData.eqv dx dy)) H
theorem op_eqD (hu:X.A.units + 64 < cLine):OpR X (compareOp .Eq) (rEqD X.K):=by
 intro pins s σ H x y v u Q I rx ry h
 obtain ⟨dx,dy,hx,hy,hd,q⟩:=h
 obtain ⟨as,ra⟩:=hx.reads I rx
 obtain ⟨bs,rb⟩:=hy.reads I ry
 exact SeqAt.eqOverData X.prog X.w X.A X.xe s v u dx dy as bs _ ra rb hx.lay hy.lay (by omega) ⟨.bl (PyData.eqv dx dy),H,I,rfl,q⟩
theorem op_neD (hu:X.A.units + 64 < cLine):OpR X (compareOp .NotEq) (rNeD X.K):=by
 intro pins s σ H x y v u Q I rx ry h
 obtain ⟨dx,dy,hx,hy,hd,q⟩:=h
 obtain ⟨as,ra⟩:=hx.reads I rx
 obtain ⟨bs,rb⟩:=hy.reads I ry
 exact SeqAt.neOverData X.prog X.w X.A X.xe s v u dx dy as bs _ ra rb hx.lay hy.lay (by omega) ⟨.bl (!PyData.eqv dx dy),H,I,rfl,q⟩
end
end L2
namespace PySem
open AutoSeq1 (wpAny_loadPart')
theorem nextOf_tup_item {prog:Program} {w:World} {A:Around} {E:Value→Shared→Prop} {s:Shared} {it l:Addr} {i:Nat} {items} {x:Value} {Q:Value→Shared→Prop} (hit:s.heap.IsTupleIter it l i)
  (hl:s.heap.IsTuple l items) (hx:items[i]?=some x)
  (hQ:∀ h',h'.IsTupleIter it l (i + 1)→Heap.SameBut it s.heap h'→Q x { s with heap:=h' }) :
  wpAny (model prog w) A (Builtin.SmallTypes.nextOf (.ref it)) Q E s:=by
 obtain ⟨o,ho,hc,hd⟩:=id hit
 obtain ⟨ol,hol,_,nl,hdl⟩:=hl
 have hty:s.TypeIs (.ref it) "tuple_iterator":=⟨o,ho,hc⟩
 unfold Builtin.SmallTypes.nextOf
 refine wpAny_bind (wpAny_callSpecial?_slot (name:=Str.ofString "__next__") hty PyProof.Rows.slot_tupleiter_next
  (wpAny_call_entry PyProof.Rows.slot_tupleiter_next hty PyProof.Rows.entry_tupleiter_next ?_ (PyProof.Rows.args_tupleiter_next _)))
 show wpAny _ _ (field (.ref it) 0 >>= _) _ _ s
 refine wpAny_bind (wpAny_field ho hd (x:=.ref l) rfl ?_)
 show wpAny _ _ (if (Value.ref l == Value.none)=true then _ else _) _ _ s
 rw [if_neg (show ¬ ((Value.ref l == Value.none)=true) from Bool.false_ne_true)]
 show wpAny _ _ (field (.ref it) 1 >>= _) _ _ s
 refine wpAny_bind (wpAny_field ho hd (x:=.int i 0) rfl ?_)
 show wpAny _ _ (seqItems? (.ref l) >>= _) _ _ s
 refine wpAny_bind (wpAny_seqItems hol hdl ?_)
 simp only [Int.toNat_natCast,hx]
 refine wpAny_bind (wpAny_setField ho hd (by simp) (wpAny_pure ⟨x,rfl,wpAny_pure (hQ _ ?_ (Heap.SameBut.update ..))⟩))
 exact ⟨_,Heap.get?_update_self _ ho (Obj.isFreed_of_fields (Obj.data_mapFields hd _)),(Obj.cls_mapFields ..).trans hc,by
  rw [Obj.data_mapFields hd]; simp [rawInt]⟩
theorem nextOf_tup_end {prog:Program} {w:World} {A:Around} {E:Value→Shared→Prop} {s:Shared} {it l:Addr} {i:Nat} {items} {Q:Value→Shared→Prop} (hh:A.handled=none)
  (hit:s.heap.IsTupleIter it l i) (hl:s.heap.IsTuple l items) (hx:items[i]?=none)
  (hE:∀ h' e,Heap.ExtBut it s.heap h'→(∃ o,h'.get? e=some o∧o.cls=.type "StopIteration")→E (.ref e) { s with heap:=h' }) :
  wpAny (model prog w) A (Builtin.SmallTypes.nextOf (.ref it)) Q E s:=by
 obtain ⟨o,ho,hc,hd⟩:=id hit
 obtain ⟨ol,hol,_,nl,hdl⟩:=hl
 have hty:s.TypeIs (.ref it) "tuple_iterator":=⟨o,ho,hc⟩
 unfold Builtin.SmallTypes.nextOf
 refine wpAny_bind (wpAny_callSpecial?_slot (name:=Str.ofString "__next__") hty PyProof.Rows.slot_tupleiter_next
  (wpAny_call_entry PyProof.Rows.slot_tupleiter_next hty PyProof.Rows.entry_tupleiter_next ?_ (PyProof.Rows.args_tupleiter_next _)))
 show wpAny _ _ (field (.ref it) 0 >>= _) _ _ s
 refine wpAny_bind (wpAny_field ho hd (x:=.ref l) rfl ?_)
 show wpAny _ _ (if (Value.ref l == Value.none)=true then _ else _) _ _ s
 rw [if_neg (show ¬ ((Value.ref l == Value.none)=true) from Bool.false_ne_true)]
 show wpAny _ _ (field (.ref it) 1 >>= _) _ _ s
 refine wpAny_bind (wpAny_field ho hd (x:=.int i 0) rfl ?_)
 show wpAny _ _ (seqItems? (.ref l) >>= _) _ _ s
 refine wpAny_bind (wpAny_seqItems hol hdl ?_)
 simp only [Int.toNat_natCast,hx]
 refine wpAny_bind (wpAny_rule (wpAny_bind (wpAny_setField ho hd (by simp) ?_)))
 show wpAny _ _ (newExc (.type "StopIteration") [] >>= _) _ _ _
 refine wpAny_bind ?_
 simp only [newExc,newTuple]
 refine wpAny_bind (wpAny_newObj_type ?_ (by size_fits))
 refine wpAny_bind (m:=firstArgMember _ _) (wpAny_of_eq (a:=Value.none) (by first | rfl | (simp only [firstArgMember]; rfl)) ?_)
 refine wpAny_newObj_type ?_ (by size_fits)
 simp only [raiseNew]
 refine wpAny_bind (wpAny_handled ?_)
 first | rw [show A.in1.handled=none from hh] | rw [hh]
 refine wpAny_bind (wpAny_pure (wpAny_throw ?_))
 exact hE _ _ (((Heap.SameBut.update ..).extBut.push _).push _) ⟨_,Heap.get?_push_size _ rfl,rfl⟩
end PySem
namespace PySem
end PySem
namespace PySem
open AutoSeq1 (wpAny_loadPart')
end PySem
namespace L2
open PySem PySem.Spec PyProof.Rows
section
variable {X:Cx}
theorem Inv.turnedL {pins:List (Addr × Obj)} {σ:St} {H:Hp} {s:Shared} {h':Heap} {t':Nat} {ch:List Addr} (I:Inv X pins σ H s) (k:∀ b o,b ∉ ch→s.heap.get? b=some o→h'.get? b=some o) (hf:∀ b ∈ ch,FpOk X pins H b) :
  Inv X pins σ H { s with heap:=h',toks:=t' }:=by
 have nit:∀ b u,H b=some u→b ∉ ch:=fun b u e z=>by rw [(hf b z).1] at e; cases e
 refine I.step (g':=s.gens) (d':=s.drawn) (ch:=ch) (fun b hb=>⟨(hf b hb).2.2.2.1,(hf b hb).2.1,(hf b hb).2.2.2.2.1,(hf b hb).2.2.2.2.2⟩) (fun b o _ _ hc e _=>k b o hc e) (fun b o _ _ hc e _=>⟨o.slots,k b o hc e⟩) (fun _ _ _ _ n=>n)
  (fun b o hc e=>⟨o,k b o hc e⟩) (fun _ _ e=>e) (fun _ _ _ e=>e) (fun b ps e=>⟨#[],by rw [e]; simp⟩) (fun m hm=>?_) (fun b u e=>?_) I.bare
 ·obtain ⟨o,es,ep,ho,r⟩:=hm
  exact ⟨o,es,ep,k _ o (fun z=>(hf _ z).2.1 rfl) ho,r⟩
 ·refine (I.hok b u e).stay (fun c v hc q=>k c v ?_ q) (fun _ q=>q) fun _ _ q=>q
  rcases hc with z | z
  ·rw [z]; exact nit b u e
  ·exact nit c _ z
theorem Inv.track {pins:List (Addr × Obj)} {σ:St} {H:Hp} {s:Shared} {p:Addr} {o:HO} (I:Inv X pins σ H s) (f:FpOk X pins H p) (new:ObjOk X.prog X.w (upd H p o) s.heap p o):Inv X pins σ (upd H p o) s:=by
 have ne:∀ b u,H b=some u→b ≠ p:=fun b u e z=>by rw [z,f.1] at e; cases e
 have:=I.step (g':=s.gens) (d':=s.drawn) (t':=s.toks) (h':=s.heap) (H':=upd H p o) (ch:=[p]) (fun b hb=>by
   obtain rfl:b=p:=by simpa using hb
   exact ⟨f.2.2.2.1,f.2.1,f.2.2.2.2.1,f.2.2.2.2.2⟩) (fun b o _ _ _ e _=>e) (fun b o _ _ _ e _=>⟨o.slots,e⟩)
  (fun b o hc _ n=>by rw [jb3 (fun z=>hc (by simp [z]))]; exact n) (fun b o _ e=>⟨o,e⟩) (fun b xs e=>by rw [jb3 (ne b _ e)]; exact e) (fun b o u e=>by rw [jb3 (ne b _ e)]; exact e)
  (fun b ps e=>⟨#[],by rw [jb3 (ne b _ e),e]; simp⟩) (fun m hm=>hm) (fun b u e=>by
   by_cases hb:b=p
   ·subst hb; rw [jb1] at e; cases e; exact new
   ·rw [jb3 hb] at e
    exact (I.hok b u e).stay (fun c v _ q=>q) (fun c q=>by rw [jb3 (ne c _ q)]; exact q) fun c xs q=>by rw [jb3 (ne c _ q)]; exact q) I.bare
 exact this
end
end L2
namespace L2
open PySem PySem.Spec PyProof.Rows
def Cn (σ₀:St) (acc:Addr) (P:List V→Hp→Prop) (σ:St) (H:Hp):Prop:=(∀ v,σ.set 0 v=σ₀.set 0 v)∧∃ ys,H acc=some (.lst ys)∧P ys H
theorem Cn.of {σ₀:St} {acc:Addr} {P:List V→Hp→Prop} {w:Option V} {H:Hp} {ys:List V} (h:H acc=some (.lst ys)) (p:P ys H):Cn σ₀ acc P (σ₀.set 0 w) H:=⟨fun v=>by rw [List.set_set],ys,h,p⟩
def capOk (outer:List (Str × NameKind)) (N:List Str) (scope:Scope) (cap:List Str) (ix:List Nat):Bool :=
 (scope.kind == .function) && (scope.names.all fun x=>x.2 != .local || scope.names.lookup x.1 == some .local) && decide (scope.names.map (·.1)).Nodup &&
 (scope.names.all fun x=>x.2 != .free || outer.lookup x.1 == some .cell || outer.lookup x.1 == some .free) && (cap.all fun x=>decide ((x,NameKind.free) ∈ scope.names)) && (cap.zip ix).all (fun p=>N[p.2]? == some p.1) && cap.length == ix.length
theorem BlkOk.of {X:Cx} {scope:Scope} {own cap:List Str} {ix:List Nat} (outer:List (Str × NameKind)) (N:List Str) (hsc:X.env.scope.names=outer:=by rfl) (hN:X.N=N:=by rfl) (h:capOk outer N scope cap ix=true:=by decide +kernel):BlkOk X scope own cap ix:=by
 unfold capOk at h
 simp only [Bool.and_eq_true,List.all_eq_true,beq_iff_eq,decide_eq_true_eq,Bool.or_eq_true,bne_iff_ne,ne_eq] at h
 obtain ⟨⟨⟨⟨⟨⟨h1,h2⟩,h3⟩,h4⟩,h5⟩,h6⟩,h7⟩:=h
 refine ⟨h1,fun x hx hl=>?_,h3,fun x hx hl=>?_,fun j x e=>h5 x (List.mem_of_getElem? e),fun j x e=>?_,h7⟩
 ·rcases h2 x hx with z | z
  ·exact absurd hl z
  ·exact z
 ·show X.env.scope.names.lookup x.1=_ ∨ X.env.scope.names.lookup x.1=_
  rw [hsc]
  rcases h4 x hx with (z | z) | z
  ·exact absurd hl z
  ·exact .inl z
  ·exact .inr z
 ·have hj:j < cap.length:=(List.getElem?_eq_some_iff.mp e).1
  have hj':j < ix.length:=by omega
  refine ⟨ix[j],List.getElem?_eq_getElem hj',?_⟩
  rw [hN]
  have hz:(cap.zip ix)[j]?=some (x,ix[j]):=by
   rw [List.getElem?_zip_eq_some]
   exact ⟨e,List.getElem?_eq_getElem hj'⟩
  exact h6 _ (List.mem_of_getElem? hz)
section
variable {K:PySem.W.Frag} {lo:Int} {n:Nat} {tt:TT} {te:TE} {acc a:Addr} {xs:List V} {σ₀:St} {H₀:Hp} {Q:VK}
theorem comp_range (Pv:Nat→List V→Hp→Prop) (h0:Pv 0 [] (upd H₀ acc (.lst [])))
  (hs:∀ (i:Nat) ys H,i < n→H acc=some (.lst ys)→Pv i ys H→tt (σ₀.set 0 (some (.int (lo + i)))) H fun b H4 =>
   if b=true then te (σ₀.set 0 (some (.int (lo + i)))) H4 fun y H5=>∃ zs,H5 acc=some (.lst zs)∧zs.length < sizeLine∧Cn σ₀ acc (Pv (i + 1)) (σ₀.set 0 (some (.int (lo + i)))) (upd H5 acc (.lst (zs ++ [y]))) else Cn σ₀ acc (Pv (i + 1)) (σ₀.set 0 (some (.int (lo + i)))) H4)
  (hd:∀ ys H,H acc=some (.lst ys)→Pv n ys H→Q (.ref acc) H):tCompN (gName 0) tt te (Itr lo n) acc σ₀ H₀ Q:=by
 refine ⟨fun i m σ H=>m=n - i∧i ≤ n∧Cn σ₀ acc (Pv i) σ H,⟨n,by simp,Nat.zero_le _,fun _=>rfl,[],jb1,h0⟩,?_⟩
 rintro i m σ H ⟨rfl,hi,hσ,ys,hy,p⟩
 by_cases hlt:i < n
 ·refine .inr ⟨hlt,Cn σ₀ acc (Pv (i + 1)),fun σ' H' c=>⟨n - (i + 1),by omega,rfl,hlt,c⟩,fun x H' y=>?_⟩
  obtain ⟨e,y⟩:=y
  subst e y
  show tt (σ.set 0 _) _ _
  rw [hσ]
  exact hs i ys _ hlt hy p
 ·have e:i=n:=by omega
  subst e
  exact .inl ⟨Nat.le_refl _,hd ys H hy p⟩
theorem comp_tup (Pv:Nat→List V→Hp→Prop) (h0:Pv 0 [] (upd H₀ acc (.lst []))) (hl:∀ (i:Nat) ys H,i ≤ xs.length→H acc=some (.lst ys)→Pv i ys H→SqT K H a xs)
  (hs:∀ (i:Nat) x ys H,xs[i]?=some x→H acc=some (.lst ys)→Pv i ys H→tt (σ₀.set 0 (some x)) H fun b H4 =>
   if b=true then te (σ₀.set 0 (some x)) H4 fun y H5=>∃ zs,H5 acc=some (.lst zs)∧zs.length < sizeLine∧Cn σ₀ acc (Pv (i + 1)) (σ₀.set 0 (some x)) (upd H5 acc (.lst (zs ++ [y]))) else Cn σ₀ acc (Pv (i + 1)) (σ₀.set 0 (some x)) H4)
  (hd:∀ ys H,H acc=some (.lst ys)→Pv xs.length ys H→Q (.ref acc) H):tCompN (gName 0) tt te (Itt K a) acc σ₀ H₀ Q:=by
 refine ⟨fun i m σ H=>m=xs.length - i∧i ≤ xs.length∧Cn σ₀ acc (Pv i) σ H,⟨xs.length,by simp,Nat.zero_le _,fun _=>rfl,[],jb1,h0⟩,?_⟩
 rintro i m σ H ⟨rfl,hi,hσ,ys,hy,p⟩
 have q:=hl i ys H hi hy p
 by_cases hlt:i < xs.length
 ·refine .inr ⟨⟨xs,xs[i],q,by simp [hlt]⟩,Cn σ₀ acc (Pv (i + 1)),fun σ' H' c=>⟨xs.length - (i + 1),by omega,rfl,hlt,c⟩,fun x H' y=>?_⟩
  obtain ⟨e,y⟩:=y
  subst e
  show tt (σ.set 0 _) _ _
  rw [hσ]
  exact hs i x ys _ (y xs q) hy p
 ·have e:i=xs.length:=by omega
  subst e
  exact .inl ⟨⟨xs,q,Nat.le_refl _⟩,hd ys H hy p⟩
end
end L2
namespace L2
open PySem PySem.Spec PyProof.Rows
section
variable {X:Cx} {tg l:Expr} {tl:TE}
theorem cLen (K:PySem.W.Frag) (h:X.K=K:=by rfl):CallR X (.builtin "len") (fun xs H Q=>∃ p ys,xs=[.ref p]∧(SqL K H p ys ∨ SqT K H p ys)∧Q (.int ys.length) H):=by subst h; exact call_len_seq
end
end L2
namespace KG
open PySem L2
theorem jc1:bootBuiltins "tuple"=some (.type "tuple"):=by first | rfl | kernel_rfl | decide +kernel
theorem boot_int:bootBuiltins "int"=some (.type "int"):=by first | rfl | kernel_rfl | decide +kernel
theorem boot_abs:bootBuiltins "abs"=some (.builtin "abs"):=by first | rfl | kernel_rfl | decide +kernel
theorem boot_max:bootBuiltins "max"=some (.builtin "max"):=by first | rfl | kernel_rfl | decide +kernel
theorem boot_min:bootBuiltins "min"=some (.builtin "min"):=by first | rfl | kernel_rfl | decide +kernel
theorem ja6:bootBuiltins "isinstance"=some (.builtin "isinstance"):=by first | rfl | kernel_rfl | decide +kernel
theorem boot_bool:bootBuiltins "bool"=some (.type "bool"):=by first | rfl | kernel_rfl | decide +kernel
def Bag (H:Hp) (b:Addr):Prop:=∃ c d:Int,H b=some (.lst [.int c,.int d])
def Kp (b:Addr) (H H':Hp):Prop:=∀ a o,a ≠ b→H a=some o→H' a=some o
theorem Kp.refl (b:Addr) (H:Hp):Kp b H H:=fun _ _ _ h=>h
theorem Kp.trans {b:Addr} {H H1 H2:Hp} (x:Kp b H H1) (y:Kp b H1 H2):Kp b H H2:=fun a o n h=>y a o n (x a o n h)
theorem Kp.bag {b:Addr} {H H':Hp} {o:HO} (x:Kp b H H'):Kp b H (upd H' b o):=fun a u n h=>by rw [jb3 n]; exact x a u n h
theorem Kp.new {b p:Addr} {H H':Hp} {o:HO} (x:Kp b H H') (hp:H' p=none):Kp b H (upd H' p o):=fun a u n h=>by rw [jb3 (jd4 (x a u n h) hp)]; exact x a u n h
theorem Kp.acc {b p:Addr} {H H':Hp} {o:HO} (x:Kp b H H') (hp:H p=none):Kp b H (upd H' p o):=fun a u n h=>by rw [jb3 (jd4 h hp)]; exact x a u n h
theorem Kp.free {b p:Addr} {H H':Hp} (x:Kp b H H') (hb:Bag H b) (hp:H' p=none) (hb':Bag H' b):H p=none:=by
 cases q:H p with
 | none=>rfl
 | some o =>
  by_cases e:p=b
  ·subst e; obtain ⟨c,d,h⟩:=hb'; rw [h] at hp; cases hp
  ·rw [x p o e q] at hp; cases hp
theorem Bag.new {b p:Addr} {H:Hp} {o:HO} (h:Bag H b) (hp:H p=none):Bag (upd H p o) b:=by
 obtain ⟨c,d,e⟩:=h
 exact ⟨c,d,by rw [jb3 (jd4 e hp)]; exact e⟩
theorem Bag.ne {b p:Addr} {H:Hp} (h:Bag H b) (hp:H p=none):b ≠ p:=by
 obtain ⟨c,d,e⟩:=h
 exact jd4 e hp
def spTake:Sp:=fun vs H Q _=>∃ (b:Addr) (m:Int),vs=[.ref b,.int m]∧Bag H b∧0 < m∧m < 1073741824∧∀ (r:Int) (H':Hp),0 ≤ r→r < m→Bag H' b→Kp b H H'→Q (.int r) H'
def spBag (K:PySem.W.Frag):Sp:=fun vs H Q _=>∃ (a:Addr) (ns:List Int) (k:Int),vs=[.ref a,.int k]∧SqL K H a (ns.map V.int)∧0 ≤ k∧k < 100∧∀ (p:Addr) (c d:Int),H p=none→Q (.ref p) (upd H p (.lst [.int c,.int d]))
structure Cal (K:PySem.W.Frag) (mg:Str→Option Value) (P:Program) (w:World) (base:Heap) (x:Str) (k:Nat) (ps:List Str) (sp:Sp) (f:Addr) (fd:FuncData):Prop where
 ok:FnOk P w K mg base CX0 k f fd ps sp
 mg:mg x=some (.ref f)
 kp:PySem.W.keepIn K (.ref f)=true
 bd:Binds K fd ps []
theorem sz:sizeLine=16777216:=PySem.sizeLine_eq
theorem yes_i {σ:St} {H:Hp} {A B:Hp→Prop} (h:A H):tYes σ H (fun b H4=>if b=true then A H4 else B H4):=iteT (B:=B H) h
theorem menu2 {r:Int} (h0:0 ≤ r) (h1:r < 2):∃ m:Int,atI [V.int 3,V.int 6] r=some (.int m)∧0 < m∧m ≤ 6:=by
 have:r=0 ∨ r=1:=by omega
 rcases this with rfl | rfl
 ·exact ⟨3,rfl,by decide,by decide⟩
 ·exact ⟨6,rfl,by decide,by decide⟩
theorem atI_ints {ns:List Int} {r:Int} (h0:0 ≤ r) (h1:r < ns.length):atI (ns.map V.int) r=some (V.int (ns.getD r.toNat 0))∧ixN (ns.map V.int).length r=some r.toNat∧ns.getD r.toNat 0 ∈ ns:=by
 have hl:r.toNat < ns.length:=by omega
 have e:(ns.map V.int)[r.toNat]?=some (V.int (ns.getD r.toNat 0)):=by
  rw [List.getElem?_map,List.getElem?_eq_getElem hl]
  simp [List.getD,List.getElem?_eq_getElem hl]
 refine ⟨?_,?_,?_⟩
 ·have:=jg6 e
  rw [Int.toNat_of_nonneg h0] at this
  exact this
 ·unfold ixN
  rw [if_pos h0,if_pos (by rw [List.length_map]; exact h1)]
 ·simp [List.getD,List.getElem?_eq_getElem hl]
def Tm (H H':Hp):Prop:=∀ a xs,H a=some (.tup xs)→H' a=some (.tup xs)
theorem Kp.tm {b:Addr} {H H':Hp} (x:Kp b H H') (hb:Bag H b):Tm H H':=fun a xs h=>x a _ (fun z=>by obtain ⟨c,d,e⟩:=hb; rw [z,e] at h; cases h) h
theorem Tm.lst {p:Addr} {H:Hp} {xs:List V} {o:HO} (h:H p=some (.lst xs)):Tm H (upd H p o):=fun a ys e=>by
 rw [jb3 (fun z=>by rw [z,h] at e; cases e)]; exact e
theorem Tm.new {p:Addr} {H:Hp} {o:HO} (h:H p=none):Tm H (upd H p o):=fun a ys e=>by rw [jb3 (jd4 e h)]; exact e
theorem Tm.trans {H H1 H2:Hp} (a:Tm H H1) (b:Tm H1 H2):Tm H H2:=fun x xs h=>b x xs (a x xs h)
theorem Bag.acc {b p:Addr} {H:Hp} {o:HO} (h:Bag H b) (hp:b ≠ p):Bag (upd H p o) b:=by
 obtain ⟨c,d,e⟩:=h
 exact ⟨c,d,by rw [jb3 hp]; exact e⟩
theorem comp_bag {te:TE} {σ₀:St} {acc b:Addr} {H1:Hp} {n:Nat} {Q:VK} (hb1:Bag H1 b) (hacc:H1 acc=none) (hn:n ≤ 100) (R:Hp→V→Prop) (hR:∀ H H' v,Tm H H'→R H v→R H' v)
  (ht:∀ (i:Nat) H',i < n→Bag H' b→Kp b H1 H'→∀ (Z:V→Hp→Prop),(∀ y H5,Bag H5 b→Kp b H' H5→R H5 y→Z y H5)→te (σ₀.set 0 (some (.int (0 + i)))) H' Z)
  (hd:∀ ys H',Bag H' b→Kp b H1 H'→ys.length=n→(∀ y ∈ ys,R H' y)→H' acc=some (.lst ys)→Q (.ref acc) H'):tCompN (gName 0) tYes te (Itr 0 n) acc σ₀ H1 Q:=by
 have nacc:=hb1.ne hacc
 refine comp_range (fun i ys H'=>Bag H' b∧Kp b H1 H'∧ys.length=i∧∀ y ∈ ys,R H' y) ⟨hb1.new hacc,(Kp.refl b H1).new hacc,rfl,fun y hy=>nomatch hy⟩ ?_ ?_
 ·rintro i ys H' hi hy ⟨hb',kp',hl,hr⟩
  refine yes_i ?_
  refine ht i H' hi hb' kp' _ fun y H5 hb5 kp5 r5=>?_
  have hy5:=kp5 acc _ nacc.symm hy
  refine ⟨ys,hy5,by rw [hl,sz]; omega,Cn.of jb1 ⟨hb5.acc nacc,(kp'.trans kp5).acc hacc,by rw [List.length_append,hl]; rfl,fun z hz=>?_⟩⟩
  have tm:=Tm.lst (o:=.lst (ys ++ [y])) hy5
  rcases List.mem_append.mp hz with q | q
  ·exact hR _ _ z tm (hR _ _ z (kp5.tm hb') (hr z q))
  ·obtain rfl:z=y:=by simpa using q
   exact hR _ _ z tm r5
 ·rintro ys H' hy ⟨hb',kp',hl,hr⟩
  exact hd ys H' hb' kp' hl hr hy
def Stay (H H':Hp):Prop:=∀ a o,H a=some o→H' a=some o
theorem Stay.refl (H:Hp):Stay H H:=fun _ _ h=>h
theorem Stay.trans {H H1 H2:Hp} (a:Stay H H1) (b:Stay H1 H2):Stay H H2:=fun x o h=>b x o (a x o h)
theorem Stay.new {H H':Hp} {p:Addr} {o:HO} (a:Stay H H') (hp:H' p=none):Stay H (upd H' p o):=fun x u h=>by rw [jb3 (jd4 (a x u h) hp)]; exact a x u h
theorem Stay.acc {H H':Hp} {p:Addr} {o:HO} (a:Stay H H') (hp:H p=none):Stay H (upd H' p o):=fun x u h=>by rw [jb3 (jd4 h hp)]; exact a x u h
theorem filter_succ (f:Nat→Bool) (n:Nat):(List.range (n + 1)).filter f=(List.range n).filter f ++ if f n=true then [n] else []:=by
 rw [List.range_succ,List.filter_append]
 congr 1
 by_cases h:f n=true
 ·simp [h]
 ·simp [h]
theorem depInts:∀ ns:List Int,PyData.depthAll (ns.map PyData.int)=0
 | []=>rfl
 | n :: ns=>by
  rw [List.map_cons,PyData.depthAll,depInts ns]
  rfl
def spLaw (K:PySem.W.Frag):Sp:=fun vs H Q _=>∃ (a:Addr) (ns:List Int),vs=[.ref a]∧SqL K H a (ns.map V.int)∧ns.length ≤ 63∧∀ H',Q (.bl true) H'
theorem SqL.stay {K:PySem.W.Frag} {H H':Hp} {a:Addr} {xs:List V} (h:SqL K H a xs) (s:Stay H H'):SqL K H' a xs:=by
 rcases h with (h | ⟨o,h⟩) | h
 ·exact .inl (.inl (s _ _ h))
 ·exact .inl (.inr ⟨o,s _ _ h⟩)
 ·exact .inr h
theorem boot_all:bootBuiltins "all"=some (.builtin "all"):=by first | rfl | kernel_rfl | decide +kernel
mutual
inductive TrV (b:Addr) (H:Hp):V→PyData→Prop
 | non:TrV b H .non .none
 | bl (c:Bool):TrV b H (.bl c) (.bool c)
 | int (i:Int):TrV b H (.int i) (.int i)
 | str (x:Str) (ok:(PyData.str x).canLay0=true):TrV b H (.str x) (.str x)
 | lst {a:Addr} {xs:List V} {ds:List PyData}:a ≠ b→H a=some (.lst xs)→TrVs b H xs ds→TrV b H (.ref a) (.list ds)
 | tup {a:Addr} {xs:List V} {ds:List PyData}:H a=some (.tup xs)→TrVs b H xs ds→TrV b H (.ref a) (.tuple ds)
inductive TrVs (b:Addr) (H:Hp):List V→List PyData→Prop
 | nil:TrVs b H [] []
 | cons {x:V} {xs:List V} {d:PyData} {ds:List PyData}:TrV b H x d→TrVs b H xs ds→TrVs b H (x :: xs) (d :: ds)
end
mutual
theorem TrV.stay {b:Addr} {H H':Hp} (k:Stay H H'):∀ {v:V} {d:PyData},TrV b H v d→TrV b H' v d
 | _,_,.non=>.non
 | _,_,.bl c=>.bl c
 | _,_,.int i=>.int i
 | _,_,.str x ok=>.str x ok
 | _,_,.lst n h t=>.lst n (k _ _ h) (TrVs.stay k t)
 | _,_,.tup h t=>.tup (k _ _ h) (TrVs.stay k t)
theorem TrVs.stay {b:Addr} {H H':Hp} (k:Stay H H'):∀ {vs:List V} {ds:List PyData},TrVs b H vs ds→TrVs b H' vs ds
 | _,_,.nil=>.nil
 | _,_,.cons h t=>.cons (TrV.stay k h) (TrVs.stay k t)
end
theorem TrVs.len {b:Addr} {H:Hp}:∀ {vs:List V} {ds:List PyData},TrVs b H vs ds→vs.length=ds.length
 | _,_,.nil=>rfl
 | _,_,.cons _ t=>congrArg (· + 1) (TrVs.len t)
theorem TrVs.at {b:Addr} {H:Hp}:∀ {vs:List V} {ds:List PyData} {i:Nat} {x:V},TrVs b H vs ds→vs[i]?=some x→∃ d,ds[i]?=some d∧TrV b H x d
 | _,_,_,_,.nil,e=>by simp at e
 | _,_,0,_,.cons h _,e=>by simp at e; subst e; exact ⟨_,rfl,h⟩
 | _,_,i + 1,_,.cons _ t,e=>by
  obtain ⟨d,h1,h2⟩:=TrVs.at (i:=i) t (by simpa using e)
  exact ⟨d,by simpa using h1,h2⟩
def isWhole:PyData→Bool
 | .int _=>true
 | _=>false
def within (lo hi:Int):PyData→Bool
 | .int i=>decide (lo ≤ i) && decide (i ≤ hi)
 | _=>false
def isFrac:PyData→Bool
 | .tuple [.int t,.int u]=>decide (1 ≤ u) && decide (Int.gcd t u=1)
 | _=>false
def jc0:PyData→Bool
 | .tuple [.int t,.int u]=>decide (1 ≤ u) && decide (Int.gcd t u=1) && decide (1 ≤ t) && decide (t ≤ 1000000) && decide (u ≤ 1000000)
 | _=>false
def isRow (n:Nat) (lo hi:Int):PyData→Bool
 | .tuple ds=>decide (ds.length=n) && ds.all (within lo hi)
 | _=>false
def isMk:PyData→Bool
 | .tuple [.tuple a,.tuple p,.tuple w]=>decide (1 ≤ a.length) && decide (a.length ≤ 6) && a.all (within 1 60) && (decide (1 ≤ p.length) && decide (p.length ≤ 6) && p.all jc0) && (decide (w.length=p.length) && w.all (isRow a.length 0 100))
 | _=>false
end KG
namespace HT
open PySem PySem.Spec PyProof.Rows
section
variable {prog:Program} {w:World} {A:Around} {E:Value→Shared→Prop} {s:Shared}
theorem getItem_tuple_all {t sl:Addr} {items:Array Value} {vl vu:Value} {lo hi:Option Int} {Q:Value→Shared→Prop} (ht:IsTup s.heap t items) (hs:s.heap.IsSliceOf sl vl vu .none) (pl:IsPart vl lo) (pu:IsPart vu hi)
  (hw:sIx items.size 0 lo=0∧sIx items.size items.size hi=items.size) (h:Q (.ref t) s):wpAny (model prog w) A (getItem (.ref t) (.ref sl)) Q E s:=by
 obtain ⟨os,hos,hcs,hds⟩:=id hs
 have hTs:s.TypeIs (.ref sl) "slice":=⟨os,hos,hcs⟩
 unfold getItem
 try with_reducible refine wpAny_holding ?_
 first | refine wpAny_bind (wpAny_pure ?_) | skip
 refine wpAny_bind (wpAny_sequenceKey ht.typeIs (by decide) ?_)
 refine wpAny_bind (wpAny_callSpecial?_slot (name:=Str.ofString "__getitem__") ht.typeIs PyProof.Rows.slot_tuple_getitem
  (wpAny_call_entry PyProof.Rows.slot_tuple_getitem ht.typeIs entry_tuple_getitem ?_ (args_tuple_getitem _ _)))
 show wpAny _ _ (Builtin.Tuple.tupleItemsOf (.ref t) >>= _) _ _ s
 refine wpAny_bind (tupleItemsOf_ ht ?_)
 refine wpAny_bind (wpAny_typeOf hTs ?_)
 rw [if_pos (by decide)]
 refine wpAny_bind (sliceApplied_gen hs pl pu ?_)
 have hyes:((((sIx items.size 0 lo:Nat):Int) == 0 && (1:Int) == 1 && (sIx items.size items.size hi - sIx items.size 0 lo) == items.size)=true):=by
  rw [hw.1,hw.2]; simp
 show wpAny _ _ (if (((sIx items.size 0 lo:Nat):Int) == 0 && (1:Int) == 1 && (sIx items.size items.size hi - sIx items.size 0 lo) == items.size)=true then _ else _) _ _ s
 rw [if_pos hyes]
 have htt:s.TypeIs (.ref t) "tuple":=ht.typeIs
 refine wpAny_bind (m:=Builtin.Tuple.tupleIsExact (.ref t)) (wpAny_bind (wpAny_typeOf htt (wpAny_pure ?_)))
 rw [if_pos (by decide)]
 first
  | exact wpAny_pure ⟨_,rfl,wpAny_pure h⟩
  | exact wpAny_bind (wpAny_pure (wpAny_pure ⟨_,rfl,wpAny_pure h⟩))
  | (wp_walk; exact ⟨_,rfl,wpAny_pure h⟩)
  | (wp_walk; exact ⟨_,rfl,h⟩)
end
end HT
namespace L2
open PySem PySem.Spec PyProof.Rows
section
variable {X:Cx}
def rSlA:V→Option Int→Option Int→Hp→VK→Prop:=fun x lo hi H Q=>∃ a xs,x=.ref a∧H a=some (.tup xs)∧∀ p H',KG.Stay H H'→H' p=some (.tup (cutV xs lo hi))→Q (.ref p) H'
theorem sl_tupA:SlR X rSlA:=by
 intro pins s σ H x v vl vu lo hi sl Q I rx hs pl pu h
 obtain ⟨a,xs,rfl,hx,q⟩:=h
 by_cases hw:HT.sIx xs.length 0 lo=0∧HT.sIx xs.length xs.length hi=xs.length
 ·cases rx
  obtain ⟨its,r,ht,hz⟩:=I.tuple (SqT.of hx)
  have hlen:its.toArray.size=xs.length:=by rw [List.size_toArray]; exact r.length.symm
  refine ⟨"tuple",_,PyProof.Rows.slot_tuple_getitem.lookup,ht.typeIs,?_⟩
  refine HT.getItem_tuple_all ht hs pl pu (by rw [hlen]; exact hw) ⟨.ref a,H,I,rfl,q a H (KG.Stay.refl H) ?_⟩
  have e:cutV xs lo hi=xs:=by unfold cutV; rw [hw.1,hw.2,List.drop_zero,Nat.sub_zero,List.take_length]
  rw [e]; exact hx
 ·exact sl_tup pins s σ H _ v vl vu lo hi sl Q I rx hs pl pu ⟨a,xs,rfl,SqT.of hx,hw,fun p hp=>q p _ ((KG.Stay.refl H).new hp) jb1⟩
def rCatA:R2:=fun x y H Q=>∃ a b xs ys,x=.ref a∧y=.ref b∧H a=some (.tup xs)∧H b=some (.tup ys)∧xs.length + ys.length ≤ sizeLine∧∀ p H',KG.Stay H H'→H' p=some (.tup (xs ++ ys))→Q (.ref p) H'
theorem op_catA:OpR X (binaryOp .Add) rCatA:=by
 intro pins s σ H x y v u Q I rx ry h
 obtain ⟨a,b,xs,ys,rfl,rfl,ha,hb,hz,q⟩:=h
 by_cases hx:xs=[]
 ·cases rx
  cases ry
  obtain ⟨its,r1,p1,_⟩:=I.tuple (SqT.of ha)
  obtain ⟨its2,r2,p2,_⟩:=I.tuple (SqT.of hb)
  obtain ⟨⟨cls,dd,data,sl⟩,ho,hc,n,hd⟩:=id p1
  obtain ⟨⟨cls2,dd2,data2,sl2⟩,ho2,hc2,n2,hd2⟩:=id p2
  simp only at hc hd hc2 hd2
  subst hc hd hc2 hd2
  have e0:its=[]:=r1.nil_iff.mpr hx
  exact concat_meets ⟨_,ho,rfl⟩ ⟨_,ho2,rfl⟩ noFill_tuple_add seq_tuple_add PySem.F.slot_tuple_add PySem.F.entry_tuple_add (PySem.F.args_tuple_add_2 _ _)
   (tuple_addW0 a b its.toArray its2.toArray n n2 dd dd2 sl sl2 (by simp [e0])) ⟨ho,ho2,⟨.ref b,H,I,rfl,q b H (KG.Stay.refl H) (by rw [hx]; exact hb)⟩⟩
 ·refine op_catT pins s σ H _ _ v u Q I rx ry ⟨a,b,xs,ys,rfl,rfl,SqT.of ha,SqT.of hb,hx,hz,fun e=>q a H (KG.Stay.refl H) (by rw [e,List.append_nil]; exact ha),fun _ p hp=>q p _ ((KG.Stay.refl H).new hp) jb1⟩
end
end L2
namespace L2
open PySem PySem.Spec PyProof.Rows KG
def litL (f:Expr→Option PyData):List Expr→Option (List PyData)
 | []=>some []
 | e :: es=>match f e,litL f es with
  | some d,some ds=>some (d :: ds)
  | _,_=>none
def litS (nm:Str→Option Int) (f:Expr→Option PyData):Expr→Option PyData
 | .Name x _=>(nm x).map .int
 | .Constant (.int i) _ _=>some (.int i)
 | .Constant (.bool c) _ _=>some (.bool c)
 | .Constant .none _ _=>some .none
 | .Constant (.str x) _ _=>if (PyData.str x).canLay0=true then some (.str x) else none
 | .UnaryOp .USub a _=>match f a with
  | some (.int i)=>some (.int (-i))
  | _=>none
 | .BinOp a .Add b _=>match f a,f b with
  | some (.int i),some (.int j)=>some (.int (i + j))
  | _,_=>none
 | .BinOp a .Sub b _=>match f a,f b with
  | some (.int i),some (.int j)=>some (.int (i - j))
  | _,_=>none
 | .BinOp a .Pow b _=>match f a,f b with
  | some (.int i),some (.int j)=>if 0 ≤ j∧j ≤ 1000000∧i.natAbs < 2 ^ 64 then some (.int (i ^ j.toNat)) else none
  | _,_=>none
 | .Tuple es _ _=>if es.length ≤ 1000 then (litL f es).map .tuple else none
 | .List es _=>if es.length ≤ 1000 then (litL f es).map .list else none
 | _=>none
def lit (nm:Str→Option Int):Nat→Expr→Option PyData
 | 0=>fun _=>none
 | n + 1=>litS nm (lit nm n)
def tLit (C:St→Prop) (d:PyData):TE:=fun σ H Q=>C σ∧∀ v H',Stay H H'→(∀ b,H b ≠ none→TrV b H' v d)→(∀ i,d=.int i→v=.int i)→Q v H'
def tLits (C:St→Prop) (ds:List PyData):TA:=fun σ H Q=>C σ∧∀ vs H',Stay H H'→(∀ b,H b ≠ none→TrVs b H' vs ds)→vs.length=ds.length→Q vs H'
theorem PE.weak {X:Cx} {e:Expr} {t t':TE} (h:PE X e t) (hw:∀ σ H Q,t' σ H Q→t σ H Q):PE X e t':=fun pins s σ H Q I q=>h pins s σ H Q I (hw σ H Q q)
theorem PA.weak {X:Cx} {es:List Expr} {t t':TA} (h:PA X es t) (hw:∀ σ H Q,t' σ H Q→t σ H Q):PA X es t':=fun pos pins s σ H Q I q=>h pos pins s σ H Q I (hw σ H Q q)
theorem lit_star {X:Cx} {nm:Str→Option Int} {n:Nat} {e:Expr} {es:List Expr} {d:PyData} (h:lit nm n e=some d):starEach (e :: es) X.env=(false,eval e X.env) :: starEach es X.env:=by
 cases n with
 | zero=>cases h
 | succ n =>
  have h:litS nm (lit nm n) e=some d:=h
  cases e <;> first | rfl | (unfold litS at h; cases h)
theorem litL_len {f:Expr→Option PyData}:∀ {es:List Expr} {ds:List PyData},litL f es=some ds→ds.length=es.length
 | [],ds,h=>by simp [litL] at h; subst h; rfl
 | e :: es,ds,h=>by
  unfold litL at h
  split at h
  ·next d ds' h1 h2=>cases h; simp [litL_len h2]
  ·cases h
theorem ne_stay {H H':Hp} {b:Addr} (s:Stay H H') (h:H b ≠ none):H' b ≠ none:=by
 cases e:H b with
 | none=>exact absurd e h
 | some o=>rw [s _ _ e]; simp
theorem pa_lits {X:Cx} {nm:Str→Option Int} {C:St→Prop} {n:Nat} (ih:∀ (e:Expr) (d:PyData),lit nm n e=some d→PE X e (tLit C d)):∀ (es:List Expr) (ds:List PyData),litL (lit nm n) es=some ds→PA X es (tLits C ds)
 | [],ds,h=>by
  simp [litL] at h; subst h
  exact PA.weak ja8 fun σ H Q q=>q.2 [] H (Stay.refl H) (fun b _=>.nil) rfl
 | e :: es,ds,h=>by
  unfold litL at h
  split at h
  ·next d ds' h1 h2 =>
   cases h
   refine PA.weak (ja2 (ih e d h1) (pa_lits ih es ds' h2) (lit_star h1)) fun σ H Q q=>⟨q.1,fun v H1 s1 t1 _=>⟨q.1,?_⟩⟩
   intro vs H2 s2 t2 l2
   exact q.2 (v :: vs) H2 (s1.trans s2) (fun b hb=>.cons ((t1 b hb).stay s2) (t2 b (ne_stay s1 hb))) (by simp [l2])
  ·cases h
theorem pe_litC {X:Cx} (nm:Str→Option Int) (C:St→Prop) (hnm:∀ x i pos,nm x=some i→PE X (.Name x pos) (fun σ H Q=>C σ∧Q (.int i) H)):∀ (n:Nat) (e:Expr) (d:PyData),lit nm n e=some d→PE X e (tLit C d):=by
 intro n
 induction n with
 | zero=>intro e d h; cases h
 | succ n ih =>
  intro e d h
  have h:litS nm (lit nm n) e=some d:=h
  unfold litS at h
  split at h
  ·obtain ⟨i,e1,rfl⟩:=Option.map_eq_some_iff.mp h
   exact PE.weak (hnm _ i _ e1) fun σ H Q q=>⟨q.1,q.2 _ H (Stay.refl H) (fun b _=>.int _) (fun i e=>by cases e; rfl)⟩
  ·cases h; exact PE.weak ja5 fun σ H Q q=>q.2 _ H (Stay.refl H) (fun b _=>.int _) (fun i e=>by cases e; rfl)
  ·cases h; exact PE.weak pe_bl fun σ H Q q=>q.2 _ H (Stay.refl H) (fun b _=>.bl _) (fun i e=>by cases e)
  ·cases h; exact PE.weak pe_non fun σ H Q q=>q.2 _ H (Stay.refl H) (fun b _=>.non) (fun i e=>by cases e)
  ·split at h
   ·next ok=>cases h; exact PE.weak pe_str fun σ H Q q=>q.2 _ H (Stay.refl H) (fun b _=>.str _ ok) (fun i e=>by cases e)
   ·cases h
  ·split at h
   ·next i e1 =>
    cases h
    exact PE.weak (pe_un un_neg (ih _ _ e1)) fun σ H Q q=>⟨q.1,fun v H1 s1 t1 i1=>⟨_,i1 _ rfl,q.2 _ H1 s1 (fun b _=>.int _) (fun i e=>by cases e; rfl)⟩⟩
   ·cases h
  ·split at h
   ·next i j e1 e2 =>
    cases h
    exact PE.weak (jc6 op_add (ih _ _ e1) (ih _ _ e2)) fun σ H Q q=>⟨q.1,fun v H1 s1 t1 i1=>⟨q.1,fun v2 H2 s2 t2 i2=>⟨_,_,i1 _ rfl,i2 _ rfl,q.2 _ H2 (s1.trans s2) (fun b _=>.int _) (fun i e=>by cases e; rfl)⟩⟩⟩
   ·cases h
  ·split at h
   ·next i j e1 e2 =>
    cases h
    exact PE.weak (jc6 op_sub (ih _ _ e1) (ih _ _ e2)) fun σ H Q q=>⟨q.1,fun v H1 s1 t1 i1=>⟨q.1,fun v2 H2 s2 t2 i2=>⟨_,_,i1 _ rfl,i2 _ rfl,q.2 _ H2 (s1.trans s2) (fun b _=>.int _) (fun i e=>by cases e; rfl)⟩⟩⟩
   ·cases h
  ·split at h
   ·next i j e1 e2 =>
    split at h
    ·next hc =>
     cases h
     exact PE.weak (jc6 op_pow (ih _ _ e1) (ih _ _ e2)) fun σ H Q q=>⟨q.1,fun v H1 s1 t1 i1=>⟨q.1,fun v2 H2 s2 t2 i2=>⟨_,_,i1 _ rfl,i2 _ rfl,hc,q.2 _ H2 (s1.trans s2) (fun b _=>.int _) (fun i e=>by cases e; rfl)⟩⟩⟩
    ·cases h
   ·cases h
  ·split at h
   ·next hl =>
    obtain ⟨ds,e1,rfl⟩:=Option.map_eq_some_iff.mp h
    refine PE.weak (pe_tup (pa_lits ih _ _ e1)) fun σ H Q q=>⟨q.1,fun vs H1 s1 t1 l1=>⟨?_,fun p hp=>?_⟩⟩
    ·rw [l1,litL_len e1,sz]; omega
    ·exact q.2 _ _ (s1.new hp) (fun b hb=>.tup jb1 ((t1 b hb).stay ((Stay.refl H1).new hp))) (fun i e=>by cases e)
   ·cases h
  ·split at h
   ·next hl =>
    obtain ⟨ds,e1,rfl⟩:=Option.map_eq_some_iff.mp h
    refine PE.weak (pe_lst (pa_lits ih _ _ e1)) fun σ H Q q=>⟨q.1,fun vs H1 s1 t1 l1=>⟨?_,fun p hp=>?_⟩⟩
    ·rw [l1,litL_len e1,sz]; omega
    ·exact q.2 _ _ (s1.new hp) (fun b hb=>.lst (fun z=>ne_stay s1 hb (z ▸ hp)) jb1 ((t1 b hb).stay ((Stay.refl H1).new hp))) (fun i e=>by cases e)
   ·cases h
  ·cases h
theorem pe_lit {X:Cx} (n:Nat) (e:Expr) (d:PyData) (h:lit (fun _=>none) n e=some d):PE X e (fun _ H Q=>∀ v H',Stay H H'→(∀ b,H b ≠ none→TrV b H' v d)→(∀ i,d=.int i→v=.int i)→Q v H') :=
 PE.weak (pe_litC (fun _=>none) (fun _=>True) (fun x i pos e=>by cases e) n e d h) fun σ H Q q=>⟨trivial,q⟩
end L2
namespace EX
open PySem PySem.Spec PyProof.Rows
def excO (C t:Addr) (hd:Value):Obj:={ cls:=.ref C,data:=.fields #[.ref t,hd,.none,.none,.bool false,.none] }
def Hd (B:Heap) (e:Addr) (h:Heap) (v:Value):Prop:=v=.none ∨ ∃ T oT ts,v=.ref T∧B.get? T=none∧T ≠ e∧h.get? T=some oT∧oT.data=.fields ts∧3 < ts.size
structure Air (B:Heap) (l:List Env) (e C t:Addr) (h:Heap):Prop where
 st:B.StaysIn h
 ne:B.get? e=none
 ff:h.FunFrames B l
 ob:∃ hd,h.get? e=some (excO C t hd)∧Hd B e h hd
theorem Air.tail {B:Heap} {env:Env} {l:List Env} {e C t:Addr} {h:Heap} (a:Air B (env :: l) e C t h):Air B l e C t h:=⟨a.st,a.ne,a.ff.2.2,a.ob⟩
section
variable {M:Model} {A:Around} {E:Value→Shared→Prop} {s:Shared} {B:Heap} {env:Env} {outer:List Env} {L e C t:Addr} {Q:Unit→Shared→Prop}
theorem air_entry {head:Value} {hn:Bool} (a:Air B (env :: outer) e C t s.heap) (hfr:A.frames=some (env :: outer)) (hf:env.frame=some L)
  (k:∀ h',Air B (env :: outer) e C t h'→s.heap.UpToSlots h'→Q () { s with heap:=h' }) :
  wpAny M A (do let fr ← frameOf env; let pl ← entryPlaceOf L hn; let x ← EntryCells.newEntry head fr .none (rawInt L) .none pl; setField (.ref e) 1 x) Q E s:=by
 obtain ⟨hd,he,_⟩:=a.ob
 refine wpAny_bind (wpAny_frameOf_fun hfr a.ff hf fun g so=>?_)
 obtain ⟨_,so2,so3⟩:=so
 have nfr:e ∉ (env :: outer).filterMap (·.frame):=fun m=>by
  obtain ⟨_,o,ho,nf⟩:=a.ff.mem m
  rw [he] at ho
  cases ho
  exact nf _ rfl
 have ge:g.get? e=some (excO C t hd):=(so2 e nfr).trans he
 have gB:B.StaysIn g:=fun b o q=>(so2 b fun m=>by rw [(a.ff.mem m).1] at q; cases q).trans (a.st b o q)
 refine wpAny_bind (wpAny_entryPlaceOf fun pl ipl=>?_)
 unfold EntryCells.newEntry newFields
 refine wpAny_bind (wpAny_newObj_type ?_ (ipl.sizeOk5 _ _ _ _ _))
 generalize hN:({ cls:=.type "traceback",dict:=none,data:=.fields ([head,.ref L,.none,rawInt L,.none] ++ (if pl.isEmpty then List.replicate 6 Value.none else pl)).toArray }:Obj)=oN
 have g2:(g.push oN).get? e=some (excO C t hd):=Heap.get?_push_of_some _ ge
 have gT:(g.push oN).get? g.objs.size=some oN:=Heap.get?_push_size g (by rw [← hN]; rfl)
 have Te:g.objs.size ≠ e:=Nat.ne_of_gt (Heap.lt_size ge)
 have nBT:B.get? g.objs.size=none:=by
  cases q:B.get? g.objs.size with
  | none=>rfl
  | some o=>exact absurd (Heap.lt_size (gB _ o q)) (Nat.lt_irrefl _)
 refine wpAny_setField g2 rfl (by show 1 < 6; decide) (k _ ?_ ?_)
 ·refine ⟨fun b o q=>?_,a.ne,?_,.ref g.objs.size,?_,.inr ⟨g.objs.size,oN,_,rfl,nBT,Te,?_,by rw [← hN],?_⟩⟩
  ·rw [Heap.get?_update_other _ _ (fun z=>by rw [← z,a.ne] at q; cases q)]
   exact Heap.get?_push_of_some _ (gB b o q)
  ·refine a.ff.of_keeps fun b o q nf=>?_
   obtain ⟨sl,q2⟩:=so3 b o q
   refine ⟨{ o with slots:=sl },?_,rfl⟩
   rw [Heap.get?_update_other _ _ (fun z=>by rw [← z,he] at q; cases q; exact nf _ rfl)]
   exact Heap.get?_push_of_some _ q2
  ·exact Heap.get?_update_self _ g2 rfl
  ·rw [Heap.get?_update_other _ _ Te.symm]; exact gT
  ·simp only [List.size_toArray,List.length_append,List.length_cons]; omega
 ·intro b o q nf
  obtain ⟨sl,q2⟩:=so3 b o q
  refine ⟨sl,?_⟩
  rw [Heap.get?_update_other _ _ (fun z=>by rw [← z,he] at q; cases q; exact nf _ rfl)]
  exact Heap.get?_push_of_some _ q2
theorem air_head {T:Addr} {oT:Obj} {ts:Array Value} {v:Value} (a:Air B outer e C t s.heap) (nT:B.get? T=none) (Te:T ≠ e) (hT:s.heap.get? T=some oT) (dT:oT.data=.fields ts) (h3:3 < ts.size)
  (k:∀ h',Air B outer e C t h'→s.heap.UpToSlots h'→Q () { s with heap:=h' }):wpAny M A (setField (.ref T) 3 v) Q E s:=by
 obtain ⟨hd,he,hh⟩:=a.ob
 refine wpAny_setField hT dT h3 ?_
 have oth:∀ b,b ≠ T→(s.heap.update T (Obj.mapFields (·.setIfInBounds 3 v))).get? b=s.heap.get? b:=fun b n=>Heap.get?_update_other _ _ (Ne.symm n)
 have isf:∀ b o,s.heap.get? b=some o→(∀ vs,o.data ≠ .fields vs)→b ≠ T:=fun b o q nf z=>by
  rw [z,hT] at q; cases q; exact nf _ dT
 refine k _ ⟨fun b o q=>?_,a.ne,a.ff.of_keeps fun b o q nf=>⟨o,(oth b (isf b o q nf)).trans q,rfl⟩,hd,(oth e Te.symm).trans he,?_⟩ fun b o q nf=>⟨o.slots,(oth b (isf b o q nf)).trans q⟩
 ·exact (oth b fun z=>by rw [z,nT] at q; cases q).trans (a.st b o q)
 ·rcases hh with z | ⟨T2,o2,t2,z,n2,e2,h2,d2,s2⟩
  ·exact .inl z
  ·by_cases w:T2=T
   ·subst w
    rw [hT] at h2; cases h2
    have:=Obj.data_mapFields dT (·.setIfInBounds 3 v)
    exact .inr ⟨T2,_,_,z,n2,e2,Heap.get?_update_self _ hT (Obj.isFreed_of_fields this),this,by simpa using h3⟩
   ·exact .inr ⟨T2,o2,t2,z,n2,e2,(oth T2 w).trans h2,d2,s2⟩
theorem air_note (a:Air B (env :: outer) e C t s.heap) (hfr:A.frames=some (env :: outer)) (hf:env.frame=some L)
  (k:∀ h',Air B (env :: outer) e C t h'→s.heap.UpToSlots h'→Q () { s with heap:=h' }):wpAny M A (noteFrame (.ref e) env) Q E s:=by
 obtain ⟨hd,he,hh⟩:=a.ob
 unfold noteFrame
 simp only [hf]
 refine wpAny_bind (wpAny_field he rfl (x:=hd) rfl ?_)
 rcases hh with rfl | ⟨T,oT,ts,rfl,nT,Te,hT,dT,h3⟩
 ·rw [if_neg (by decide)]
  exact air_entry a hfr hf k
 ·rw [if_pos (show (Value.ref T != Value.none)=true from by simp)]
  refine wpAny_bind (wpAny_field hT dT (x:=ts[3]) (by rw [Array.getElem?_eq_getElem h3]) ?_)
  by_cases hv:(ts[3] == rawInt L)=true
  ·rw [if_pos hv]
   exact wpAny_pure (k s.heap a (Heap.UpToSlots.refl _))
  ·rw [if_neg hv]
   refine wpAny_bind (air_head a nT Te hT dT h3 fun h1 a1 u1=>?_)
   exact air_entry (s:={ s with heap:=h1 }) a1 hfr hf fun h2 a2 u2=>k h2 a2 (u1.trans u2)
theorem air_land (a:Air B outer e C t s.heap) (k:∀ h',Air B outer e C t h'→s.heap.UpToSlots h'→Q () { s with heap:=h' }):wpAny M A (setFlight (.ref e) none) Q E s:=by
 obtain ⟨hd,he,hh⟩:=a.ob
 unfold setFlight
 refine wpAny_bind (wpAny_field he rfl (x:=hd) rfl ?_)
 rcases hh with rfl | ⟨T,oT,ts,rfl,nT,Te,hT,dT,h3⟩
 ·rw [if_neg (by decide)]
  exact wpAny_pure (k s.heap a (Heap.UpToSlots.refl _))
 ·rw [if_pos (show (Value.ref T != Value.none)=true from by simp)]
  exact air_head a nT Te hT dT h3 k
theorem air_leave (a:Air B (env :: outer) e C t s.heap) (hfr:A.frames=some (env :: outer)) (hf:env.frame=some L)
  (k:∀ h',Air B outer e C t h'→s.heap.UpToSlots h'→Q () { s with heap:=h' }):wpAny M A (leaving env (.ref e)) Q E s:=by
 unfold leaving
 refine wpAny_bind (air_note a hfr hf fun h1 a1 u1=>?_)
 exact air_land (s:={ s with heap:=h1 }) a1.tail fun h2 a2 u2=>k h2 a2 (u1.trans u2)
end
end EX
namespace L2
open PySem PySem.Spec PyProof.Rows EX
theorem obj_is {P:Program} {w:World} {H:Hp} {h:Heap} {a:Addr} {o:HO} (x:ObjOk P w H h a o):∃ u,h.get? a=some u:=by
 cases o with
 | lst xs=>obtain ⟨_,_,_,_,q⟩:=x; exact ⟨_,q⟩
 | tup xs=>obtain ⟨_,_,_,⟨_,q,_⟩⟩:=x; exact ⟨_,q⟩
 | dK kvs=>obtain ⟨_,_,_,_,_,_,_,q,_⟩:=x; exact ⟨_,q⟩
 | dT kvs=>obtain ⟨_,_,_,_,_,_,_,q,_⟩:=x; exact ⟨_,q⟩
 | set S n=>obtain ⟨_,_,_,_,q,_⟩:=x; exact ⟨_,q⟩
 | ins C dx fs=>obtain ⟨_,_,_,q,_⟩:=x; exact ⟨_,q⟩
 | own y=>exact x
 | xd fs=>obtain ⟨_,⟨_,_,_,q,_⟩,_⟩:=x; exact ⟨_,q⟩
 | rng lo hi=>obtain ⟨_,_,_,q⟩:=x; exact ⟨_,q⟩
 | frz ob u=>exact ⟨_,x.1⟩
 | tbl ps=>exact ⟨_,x⟩
 | met f y=>exact ⟨_,x⟩
 | ext φ=>exact x.2.1
theorem ff_base {h base B:Heap}:∀ {l:List Env},(∀ b ∈ frs l,B.get? b=none)→h.FunFrames base l→h.FunFrames B l
 | [],_,_=>trivial
 | env :: r,hB,⟨hk,⟨L,o,hf,hn,ho,hd⟩,hr⟩ =>
  ⟨hk,⟨L,o,hf,hB L (by unfold frs; rw [List.filterMap_cons,hf]; exact List.mem_cons_self),ho,hd⟩,
   ff_base (fun b hb=>hB b (by unfold frs; rw [List.filterMap_cons,hf]; exact List.mem_cons_of_mem _ hb)) hr⟩
def CXF (P:Program) (w:World):CXT:=fun outer H s E e s'=>∃ (a C t:Addr) (B:Heap) (H':Hp),e=.ref a∧s'.os=s.os∧AllBare s'.gens∧Un (frs outer) [] H H' s.heap s'.heap∧HOk P w H' B ∧
 (∀ b o,s.heap.get? b=some o→b ∉ frs outer→(∃ o',B.get? b=some o')∧(H b=none→B.get? b=some o))∧Air B outer a C t s'.heap∧s.heap.get? a=none∧H' a=none∧E (.ref C) none H'
section
variable {P:Program} {w:World} {K:PySem.W.Frag} {mg:Str→Option Value} {base:Heap} {N:List Str} {qual:Str} {scope:Scope} {f:Addr} {cd:Value} {A:Around} {outer:List Env} {s₀:Shared} {H₀:Hp} {E:XK}
theorem fly_out {pins:List (Addr × Obj)} {σ:St} {H H':Hp} {s s':Shared} {a C t:Addr} {B h':Heap} (I:Inv (cxOf (CXF P w) P w K mg base N qual scope f cd A outer s₀ H₀ E) pins σ H s)
  (os:s'.os=s.os) (bare:AllBare s'.gens) (un:Un (envOfC qual scope s₀.heap.objs.size f cd :: outer |> frs) [] H H' s.heap s'.heap) (hok:HOk P w H' B)
  (third:∀ b o,s.heap.get? b=some o→b ∉ frs (envOfC qual scope s₀.heap.objs.size f cd :: outer)→(∃ o',B.get? b=some o')∧(H b=none→B.get? b=some o))
  (ff:s'.heap.FunFrames B (envOfC qual scope s₀.heap.objs.size f cd :: outer)) (air:Air B outer a C t h') (up:s'.heap.UpToSlots h') (na:s.heap.get? a=none) (na':H' a=none) (he:E (.ref C) none H'):CXF P w outer H₀ s₀ E (.ref a) { s' with heap:=h' }:=by
 have stk:∀ b o,s₀.heap.get? b=some o→b ∉ frs outer→b ∉ frs (envOfC qual scope s₀.heap.objs.size f cd :: outer):=fun b o q n m=>by
  rcases List.mem_cons.mp (I.stkSub b m) with z | z
  ·have:b < s₀.heap.objs.size:=Heap.lt_size q
   have h2:s₀.heap.objs.size ≤ b:=by rw [z]; exact I.ok.above
   exact absurd (Nat.lt_of_lt_of_le this h2) (Nat.lt_irrefl _)
  ·exact n z
 have infr:∀ b,b ∈ frs outer→b ∈ frs (envOfC qual scope s₀.heap.objs.size f cd :: outer):=fun b m=>by
  unfold frs; rw [List.filterMap_cons]; exact List.mem_cons_of_mem _ m
 have ub:Un (frs outer) [] H₀ H s₀.heap s.heap:=I.base
 refine ⟨a,C,t,B,H',rfl,os.trans I.os,bare,⟨fun b o q n nf _=>?_,fun b o q n m _=>?_,fun b o q n _=>?_,fun b o q _=>?_,fun b xs q=>un.tups b xs (ub.tups b xs q),fun b o u q=>un.frzs b o u (ub.frzs b o u q),fun b ps q=>?_⟩,hok,fun b o q nf=>?_,air,?_,na',he⟩
 ·exact air.st b o ((third b o (ub.keep b o q n nf (by simp)) (stk b o q nf)).2 (ub.free b o q n (by simp)))
 ·obtain ⟨sl,q1⟩:=ub.slot b o q n m (by simp)
  obtain ⟨sl2,q2⟩:=un.slot b _ q1 (ub.free b o q n (by simp)) (infr b m) (by simp)
  obtain ⟨_,o3,q3,nf⟩:=ff.mem (infr b m)
  rw [q2] at q3
  cases q3
  obtain ⟨sl3,q4⟩:=up b _ q2 nf
  exact ⟨sl3,q4⟩
 ·obtain ⟨o',q1⟩:=ub.there b o q (by simp)
  exact un.free b o' q1 (ub.free b o q n (by simp)) (by simp)
 ·obtain ⟨o',q1⟩:=ub.there b o q (by simp)
  by_cases m:b ∈ frs outer
  ·obtain ⟨_,o3,q3,nf⟩:=ff.mem (infr b m)
   obtain ⟨sl3,q4⟩:=up b _ q3 nf
   exact ⟨_,q4⟩
  ·obtain ⟨o2,q2⟩:=(third b o' q1 (stk b o q m)).1
   exact ⟨o2,air.st b o2 q2⟩
 ·obtain ⟨m1,e1⟩:=ub.tbls b ps q
  obtain ⟨m2,e2⟩:=un.tbls b _ e1
  exact ⟨m1 ++ m2,by rw [e2,Array.append_assoc]⟩
 ·obtain ⟨o',q1⟩:=ub.there b o q (by simp)
  refine ⟨(third b o' q1 (stk b o q nf)).1,fun n=>?_⟩
  have q2:=ub.keep b o q n nf (by simp)
  exact (third b o q2 (stk b o q nf)).2 (ub.free b o q n (by simp))
 ·cases q:s₀.heap.get? a with
  | none=>rfl
  | some o =>
   obtain ⟨o',q1⟩:=ub.there a o q (by simp)
   rw [na] at q1; cases q1
theorem passF:Passes (CXF P w) (cxOf (CXF P w) P w K mg base N qual scope f cd A outer s₀ H₀ E) E:=by
 intro pins σ H s e s' I h
 obtain ⟨a,C,t,B,H',rfl,os,bare,un,hok,third,air,na,na',he⟩:=h
 refine air_leave (L:=s₀.heap.objs.size) air I.ok.frames rfl fun h' air' up=>?_
 exact fly_out I os bare un hok third air.ff air' up na na' he
theorem raiseF {pins:List (Addr × Obj)} {σ:St} {H:Hp} {s:Shared} {h1:Heap} {a C:Addr} {args:List Value} (I:Inv (cxOf (CXF P w) P w K mg base N qual scope f cd A outer s₀ H₀ E) pins σ H s) (mk:Heap.MadeExcOf s.heap h1 a (.ref C) args) (he:E (.ref C) none H) :
  (cxOf (CXF P w) P w K mg base N qual scope f cd A outer s₀ H₀ E).xe (.ref a) { s with heap:=h1 }:=by
 obtain ⟨t,ht,htn,_⟩:=mk.there
 have nofr:∀ b u,H b=some u→b ∉ frs (envOfC qual scope s₀.heap.objs.size f cd :: outer):=fun b u q m=>by
  have:=I.stkFree b m
  rw [q] at this; cases this
 have hB:∀ b ∈ frs (envOfC qual scope s₀.heap.objs.size f cd :: outer),(PySem.W.hideAll s.heap (frs (envOfC qual scope s₀.heap.objs.size f cd :: outer))).get? b=none:=fun b m=>PySem.W.hideAll_none _ m
 have hokB:HOk P w H (PySem.W.hideAll s.heap (frs (envOfC qual scope s₀.heap.objs.size f cd :: outer))):=fun b u q =>
  (I.hok b u q).stay (fun c v hc qc=>PySem.W.hideAll_get _ qc (by
   rcases hc with z | z
   ·rw [z]; exact nofr b u q
   ·exact nofr c _ z)) (fun _ z=>z) fun _ _ z=>z
 have na':H a=none:=by
  cases q:H a with
  | none=>rfl
  | some u =>
   obtain ⟨o,ho⟩:=obj_is (I.hok a u q)
   rw [mk.new] at ho; cases ho
 have air0:Air (PySem.W.hideAll s.heap (frs (envOfC qual scope s₀.heap.objs.size f cd :: outer))) (envOfC qual scope s₀.heap.objs.size f cd :: outer) a C t h1:=by
  refine ⟨fun b o q=>mk.keeps b o (PySem.W.of_hideAll _ q),?_,(ff_base hB I.stack).of_keeps fun b o q _=>⟨o,mk.keeps b o q,rfl⟩,.none,ht,.inl rfl⟩
  cases q:(PySem.W.hideAll s.heap (frs (envOfC qual scope s₀.heap.objs.size f cd :: outer))).get? a with
  | none=>rfl
  | some o=>have:=PySem.W.of_hideAll _ q; rw [mk.new] at this; cases this
 refine air_leave (s:={ s with heap:=h1 }) (L:=s₀.heap.objs.size) air0 I.ok.frames rfl fun h' air' up=>?_
 exact fly_out (s':={ s with heap:=h1 }) I rfl I.bare (Un.kept mk.keeps) hokB (fun b o q n=>⟨⟨o,PySem.W.hideAll_get _ q n⟩,fun _=>PySem.W.hideAll_get _ q n⟩) air0.ff air' up mk.new na' he
theorem Fun.okX {x qual:Str} {st:Stmt} {f:Addr} {fd:FuncData} {N ps:List Str} {k:Nat} {sp:Sp} (F:Fun K x qual st f fd) (S:FnScope N ps (ja3 st)) (len:∀ vs H Q E,sp vs H Q E→vs.length=ps.length)
  (hbody:∀ (cdv:Value) (A:Around) (outer:List Env) (s:Shared) (H:Hp) (vs:List V) (Q:VK) (E:XK),Room k (A.deeper (envOfC qual (ja3 st) s.heap.objs.size f cdv))→sp vs H Q E →
   ∃ t,PSs (cxOf (CXF P w) P w K mg base N qual (ja3 st) f cdv A outer s H E) (je2 st) t∧t { nx:=fun _ H'=>Q .non H',rt:=Q } (start N vs) H):FnOk P w K mg base (CXF P w) (k + 1) f fd ps sp:=by
 obtain ⟨oc,od,kV,doc,pm,an,cdv,ct,osl,rfl,lk,hcd⟩:=F.ex
 exact fn_of lk hcd S len fun A outer s H vs Q E hr hsp=>hbody cdv A outer s H vs Q E hr hsp
end
def tRaise (E:XK) (C:Addr) (t:TA):TS:=fun _ σ H=>t σ H fun vs H1=>vs.length ≤ sizeLine∧E (.ref C) none H1
theorem ps_raise {P:Program} {w:World} {K:PySem.W.Frag} {mg:Str→Option Value} {base:Heap} {N:List Str} {qual:Str} {scope:Scope} {f:Addr} {cd:Value} {A:Around} {outer:List Env} {s₀:Shared} {H₀:Hp} {E:XK}
  {x:Str} {C:Addr} {e:Expr} {es:List Expr} {t:TA} {np cpos pos:Pos} {bmB:List Value} {B newId initId:String} (FB:ExcBaseFacts B newId initId bmB) (hg:Gl (cxOf (CXF P w) P w K mg base N qual scope f cd A outer s₀ H₀ E) x) (hm:mg x=some (.ref C)) (hx:PySem.W.excIn K C bmB newId=true)
  (ha:PA (cxOf (CXF P w) P w K mg base N qual scope f cd A outer s₀ H₀ E) (e :: es) t) (hd:(x == ("__debug__" : Str))=false:=by decide)
  (he:starEach (e :: es) (envOfC qual scope s₀.heap.objs.size f cd)=(false,eval e (envOfC qual scope s₀.heap.objs.size f cd)) :: starEach es (envOfC qual scope s₀.heap.objs.size f cd):=by rfl)
  (hpl:(backTo cpos (starEach es (envOfC qual scope s₀.heap.objs.size f cd))).any (·.1)=false:=by rfl) :
  PS (cxOf (CXF P w) P w K mg base N qual scope f cd A outer s₀ H₀ E) (.Raise (some (.Call (.Name x np) (e :: es) [] cpos)) none pos) (tRaise E C t):=by
 intro pins s σ H D I h
 unfold PySem.W.excIn at hx
 split at hx
 ·rename_i dd cdd sl ho
  split at hx
  ·rename_i C' bm k0 k1 k2 k3 n k5 hmro hs
   simp only [Bool.and_eq_true,beq_iff_eq,Bool.not_eq_true'] at hx
   obtain ⟨⟨⟨⟨⟨rfl,rfl⟩,hdel⟩,ht⟩,hok⟩,hni⟩:=hx
   obtain ⟨nm,bs,mro,ns,qn,hdd,sn,sub,ab,col,del⟩:=cdd
   dsimp only at hmro hdel hok hni
   subst hmro hdel
   have hsl:sl=#[k0,k1,k2,k3,some (.builtin n),k5]:=by
    obtain ⟨l⟩:=sl
    simp only at hs
    rw [hs]
   subst hsl
   have kb:K.In base:=I.ok.mod.kin
   have nsB:=Heap.Ns.of_isNs (PySem.W.isNs_of_in kb hok)
   refine wpAny_Raise_call_subT FB (C:=C') (nm:=nm) (q:=qn) (N:=ns) (bs:=bs) (bm:=bm) (hdct:=hdd) (sn:=sn) (sub:=sub) (ab:=ab) (col:=col) (dd:=dd) (k0:=k0) (k1:=k1) (k2:=k2) (k3:=k3) (k5:=k5) (mN:=base.nsMap ns)
    ((PySem.W.tail_of_in kb ht).hasType FB.hasBase) (I.ok.hd rfl) ?_ (PySem.W.nsMap_none_of_in kb hok hni) ?_
   ·show (backTo cpos (starEach (e :: es) (envOfC qual scope s₀.heap.objs.size f cd))).any (·.1)=false
    rw [he]
    show (false || (backTo cpos (starEach es (envOfC qual scope s₀.heap.objs.size f cd))).any (·.1))=false
    rw [hpl]; rfl
   ·refine ld_glob I hg hm ⟨rfl,?_⟩ hd
    show wpAny _ _ (evalArgs (.ref C') true (backTo cpos (starEach (e :: es) (envOfC qual scope s₀.heap.objs.size f cd))) []) _ _ s
    have ha':=ha cpos pins s σ H _ I h
    have ha2:wpAny (model P w) (A.deeper (envOfC qual scope s₀.heap.objs.size f cd)) (spliced (backTo cpos (starEach (e :: es) (envOfC qual scope s₀.heap.objs.size f cd)))) _ _ s:=ha'
    rw [he] at ha2 ⊢
    refine Calls.evalArgs_plain (thn ha2 fun us s2 ⟨vs,H2,I2,r,z,q⟩=>?_)
    exact ⟨rfl,by rw [← r.length]; exact z,I2.bk _ _ (kb _ _ ho),nsB.keeps I2.bk,(PySem.W.tail_of_in kb ht).keeps I2.bk,fun h' a mk=>raiseF I2 mk q⟩
  ·cases hx
 ·cases hx
end L2
namespace EX
open PySem PySem.Spec PyProof.Rows
theorem entry_unchain:entryFor table "proto.unchain"=some Builtin.«proto.unchain»:=entryFor_of_tree (by kernel_rfl)
section
variable {prog:Program} {w:World} {A:Around} {E:Value→Shared→Prop} {s:Shared}
theorem raiseNew_some {α : Type} {Q:α→Shared→Prop} {a hA C t:Addr} {hd:Value} {oa:Obj} {vs:Array Value} (hh:A.handled=some (.ref hA)) (ne:hA ≠ a) (hH:s.heap.get? hA=some (excO C t hd)) (ha:s.heap.get? a=some oa) (da:oa.data=.fields vs) (hz:2 < vs.size)
  (h:E (.ref a) { s with heap:=s.heap.update a (Obj.mapFields (·.setIfInBounds 2 (.ref hA))) }):wpAny (model prog w) A (raiseNew (.ref a):Sem α) Q E s:=by
 unfold raiseNew
 refine wpAny_bind (wpAny_handled ?_)
 rw [hh]
 have n:((Value.ref hA != Value.ref a)=true):=by simp [ne]
 simp only [n,if_true]
 refine wpAny_bind (wpAny_holding (wpAny_runValue (codeAny_builtin entry_unchain ?_)))
 unfold Builtin.«proto.unchain»
 refine wpAny_bind (wpAny_field hH rfl (x:=.none) rfl ?_)
 rw [if_pos (by decide)]
 have back:wpAny (model prog w) A (do updateField a 2 (Value.ref hA); throw (Value.ref a):Sem α) Q E s:=by
  unfold updateField
  refine wpAny_bind (wpAny_bind (wpAny_load ha ?_))
  rw [da]
  show wpAny _ _ (if 2 < vs.size then _ else _) _ _ s
  rw [if_pos hz]
  exact wpAny_update ha (wpAny_throw h)
 first
  | exact wpAny_pure back
  | exact wpAny_bind (wpAny_pure (wpAny_pure back))
  | exact wpAny_bind (wpAny_pure back)
  | (wp_walk; exact back)
theorem range_end_h {hA C t:Addr} {hd:Value} {it:Addr} {x left step:Int} {Q:Option Value→Shared→Prop} (hh:A.handled=some (.ref hA)) (hH:s.heap.get? hA=some (excO C t hd)) (hit:IsRangeIter s.heap it x left step) (hl:left ≤ 0)
  (k:∀ h',Heap.ExtBut it s.heap h'→Q none { s with heap:=h' }):wpAny (model prog w) A (pyNext (.ref it)) Q E s:=by
 have ty:s.TypeIs (.ref it) "range_iterator":=⟨_,hit,rfl⟩
 unfold pyNext
 refine wpAny_bind (wpAny_attempt (wpAny_callSpecial?_slot (name:=Str.ofString "__next__") ty F.slot_range_iterator_next (wpAny_call_entry F.slot_range_iterator_next ty F.entry_range_iterator_next ?_ (F.args_range_iterator_next_1 _))))
 show wpAny _ _ (field (.ref it) 0 >>= _) _ _ s; refine wpAny_bind (wpAny_field hit rfl (x:=rawInt x) rfl ?_)
 show wpAny _ _ (field (.ref it) 1 >>= _) _ _ s; refine wpAny_bind (wpAny_field hit rfl (x:=rawInt left) rfl ?_)
 show wpAny _ _ (field (.ref it) 2 >>= _) _ _ s; refine wpAny_bind (wpAny_field hit rfl (x:=rawInt step) rfl ?_)
 show wpAny _ _ (if left ≤ 0 then _ else _) _ _ s
 rw [if_pos hl]
 refine wpAny_bind (wpAny_rule (wpAny_bind ?_))
 show wpAny _ _ (newExc (.type "StopIteration") [] >>= _) _ _ _; refine wpAny_bind ?_
 simp only [newExc,newTuple]
 refine wpAny_bind (wpAny_newObj_type ?_ (by size_fits))
 refine wpAny_bind (m:=firstArgMember _ _) (wpAny_of_eq (a:=Value.none) (by first | rfl | (simp only [firstArgMember]; rfl)) ?_)
 refine wpAny_newObj_type ?_ (by size_fits)
 refine raiseNew_some (hA:=hA) (C:=C) (t:=t) (hd:=hd) (by first | exact hh | (show A.in1.handled=_; exact hh)) ?_ (Heap.get?_push_of_some _ (Heap.get?_push_of_some _ hH)) (Heap.get?_push_size _ rfl) rfl ?_ ?_
 ·exact Nat.ne_of_lt (Nat.lt_of_lt_of_le (Heap.lt_size hH) (by rw [Heap.size_push]; exact Nat.le_succ _))
 ·simp only [List.size_toArray,List.length_append,List.length_cons,Array.size_append]; first | omega | (simp; omega) | decide
 ·refine wpAny_bind (wpAny_isInstance (T:="StopIteration") (b:=true) ⟨_,Heap.get?_update_self _ (Heap.get?_push_size _ rfl) ?_,Obj.cls_mapFields _ _⟩ isSubtype_stop ?_)
  ·exact Obj.isFreed_of_fields (Obj.data_mapFields rfl _)
  ·refine wpAny_pure (k _ fun b o nb q=>?_)
   have lt:=Heap.lt_size q
   refine (Heap.get?_update_other _ _ ?_).trans (Heap.get?_push_of_some _ (Heap.get?_push_of_some _ q))
   exact Nat.ne_of_gt (Nat.lt_of_lt_of_le lt (by rw [Heap.size_push]; exact Nat.le_succ _))
end
end EX
namespace L2
open PySem PySem.Spec PyProof.Rows EX
def Qt (X:Cx):Prop:=X.calm=true ∨ ∃ hA C t hd,X.A.handled=some (.ref hA)∧(hA,excO C t hd) ∈ X.pn
def cxCR (X:Cx) (scope:Scope) (C:Addr) (N:List Str) (fp:List Addr) (s:Shared) (H:Hp):Cx:={ cxC X scope C N fp s H with pn:=X.pn }
theorem Inv.blockR {X:Cx} {scope:Scope} {own cap:List Str} {ix:List Nat} {pins:List (Addr × Obj)} {σ:St} {H:Hp} {s:Shared} (I:Inv X pins σ H s) (B:BlkOk X scope own cap ix) {fp:List Addr} (hf:∀ b ∈ fp,FpOk X pins H b) (ho:∀ b ∈ fp,∃ o,s.heap.get? b=some o) :
  Inv (cxCR X scope s.heap.objs.size (own ++ cap) fp s H) [] (blkσ own.length ix σ) H { s with heap:=pushCells (s.heap.push { cls:=.type "dict",data:=.dict #[] }) scope.names }:=by
 have J:=I.block B hf ho
 refine ⟨⟨J.ok.mod,J.ok.kind,J.ok.glob,J.ok.blt,J.ok.above,J.ok.inj,J.ok.has,J.ok.cab,J.ok.hd,J.ok.frames,J.ok.stk,J.ok.exf,J.ok.bs,J.ok.bsz,J.ok.noex,J.ok.exfs,J.ok.funs,J.ok.frf⟩,J.os,J.bare,J.base,J.loc,J.cell,J.free,J.freeC,fun p hp=>?_,J.hok,J.len⟩
 have hp':p ∈ X.pn:=by simpa using (show p ∈ X.pn ++ [] from hp)
 obtain ⟨q1,q2,q3,q4,q5⟩:=I.pin p (List.mem_append_left _ hp')
 refine ⟨pushCells_keeps _ _ _ _ (Heap.get?_push_of_some _ q1),q2,?_,?_,q5⟩
 ·exact Nat.ne_of_lt (Heap.lt_size q1)
 ·intro z
  rcases List.mem_cons.mp (I.stkSub p.1 z) with e | e
  ·exact q3 e
  ·exact q4 e
structure TurnR (P:Program) (w:World) (K:PySem.W.Frag) (tg:Expr) (J:It) (fp:List Addr) (it:Addr) (tn:Nat→Heap→Prop):Prop where
 mem:it ∈ fp
 obj:∀ i h,tn i h→∀ b ∈ fp,∃ o,h.get? b=some o∧∀ v,o.data ≠ .cell v
 keep:∀ i h h',tn i h→(∀ b ∈ fp,∀ o,h.get? b=some o→h'.get? b=some o)→tn i h'
 item:∀ (X:Cx),X.prog=P→X.w=w→X.K=K→Qt X→∀ (i:Nat) (pins:List (Addr × Obj)) (s:Shared) (σ:St) (H:Hp) (E:Value→Shared→Prop),Inv X pins σ H s→(∀ b ∈ fp,FpOk X pins H b)→tn i s.heap→J.go i H →
  wpAny (model P w) X.A (pyNext (.ref it)) (fun r s1=>∃ u,r=some u ∧
   wpAny (model P w) X.A (letOwnedTupleGo tg (.ref it) u) (fun _ s2=>∃ x H',Inv X pins σ H' s2∧RelV x u∧J.yld i H x H'∧tn (i + 1) s2.heap∧∀ b ∈ fp,H' b=none) E s1) E s
 done:∀ (X:Cx),X.prog=P→X.w=w→X.K=K→Qt X→∀ (i:Nat) (pins:List (Addr × Obj)) (s:Shared) (σ:St) (H:Hp) (E:Value→Shared→Prop),Inv X pins σ H s→(∀ b ∈ fp,FpOk X pins H b)→tn i s.heap→J.stop i H →
  wpAny (model P w) X.A (pyNext (.ref it)) (fun r s1=>r=none∧Inv X pins σ H s1) E s
 self:∀ (A:Around) (i:Nat) (s:Shared) (Q:Value→Shared→Prop) (E:Value→Shared→Prop),tn i s.heap→Q (.ref it) s→wpAny (model P w) A (pyIter (.ref it)) Q E s
def PIER (X:Cx) (pins:List (Addr × Obj)) (σ:St) (tg:Expr) (R:It→Hp→Prop) (itv:Value) (s2:Shared):Prop :=
 ∃ (it:Addr) (fp:List Addr) (tn:Nat→Heap→Prop) (J:It) (H':Hp),itv=.ref it∧Inv X pins σ H' s2∧TurnR X.prog X.w X.K tg J fp it tn∧tn 0 s2.heap∧(∀ b ∈ fp,FpOk X pins H' b)∧R J H'
def PIR (X:Cx) (tg iter:Expr) (wi:TI):Prop :=
 ∀ (pins:List (Addr × Obj)) (s:Shared) (σ:St) (H:Hp) (R:It→Hp→Prop),Inv X pins σ H s→wi σ H R →
  wpAny (model X.prog X.w) X.A (eval iter X.env) (fun v s1=>wpAny (model X.prog X.w) X.A (pyIter v) (PIER X pins σ tg R) X.xe s1) X.xe s
theorem turn_rangeR {P:Program} {w:World} {K:PySem.W.Frag} {tg:Expr} (it:Addr) (lo:Int) (n:Nat):TurnR P w K tg (Itr lo n) [it] it (fun i h=>IsRangeIter h it (lo + (i:Nat) * 1) ((n:Int) - (i:Nat)) 1) where
 mem:=by simp
 obj:=fun i h st b hb=>by
  have e:b=it:=by simpa using hb
  subst e
  exact ⟨_,st,fun v z=>by
   have z':Data.fields _=Data.cell v:=z
   cases z'⟩
 keep:=fun i h h' st k=>k it (by simp) _ st
 item:=by
  intro X hP hw hK hc i pins s σ H E I hf st hg
  subst hP hw hK
  obtain ⟨f0,f1,f2,f3,f4,f5⟩:=hf it (by simp)
  have hgo:i < n:=hg
  refine wpAny_pyNext_range_item st (by omega) fun h' st' kk=>?_
  have I1:Inv X pins σ H { s with heap:=h',toks:=s.toks + 1 }:=I.turned (fun b o hb e=>(kk.2 b hb).trans e) f0 f1 f3 f4 f5
  have st2:IsRangeIter h' it (lo + ((i + 1:Nat):Int) * 1) ((n:Int) - ((i + 1:Nat):Int)) 1:=by
   have e1:lo + ((i + 1:Nat):Int) * 1=lo + (i:Int) * 1 + 1:=by omega
   have e2:(n:Int) - ((i + 1:Nat):Int)=(n:Int) - (i:Int) - 1:=by omega
   rw [e1,e2]; exact st'
  refine ⟨_,rfl,go_of (s:={ s with heap:=h',toks:=s.toks + 1 }) (n:="range_iterator") st2 rfl rfl (by decide) ⟨.int (lo + i),H,I1,⟨s.toks,?_⟩,⟨rfl,rfl⟩,st2,fun b hb=>(hf b hb).1⟩⟩
  rw [Int.mul_one]
 done:=by
  intro X hP hw hK hc i pins s σ H E I hf st hg
  subst hP hw hK
  obtain ⟨f0,f1,f2,f3,f4,f5⟩:=hf it (by simp)
  rcases hc with hc | ⟨hA,C,t,hd,hh,hp⟩
  ·exact wpAny_pyNext_range_end (I.ok.hd hc) st (by have:n ≤ i:=hg; omega) fun h' eb=>⟨rfl,I.turned (t':=s.toks) (fun b o hb e=>eb b o hb e) f0 f1 f3 f4 f5⟩
  exact EX.range_end_h hh (I.pin _ (List.mem_append_left _ hp)).1 st (by have:n ≤ i:=hg; omega) fun h' eb=>⟨rfl,I.turned (t':=s.toks) (fun b o hb e=>eb b o hb e) f0 f1 f3 f4 f5⟩
 self:=fun _ _ _ _ _ st h=>wpAny_pyIter_rangeiter st h
section
variable {X:Cx} {tg:Expr}
theorem range_itR {pins:List (Addr × Obj)} {σ:St} {H:Hp} {s:Shared} {R:It→Hp→Prop} {E:Value→Shared→Prop} {lo hi:Int} {t u v:Tok} {tk:Nat} (I:Inv X pins σ H s) (h1:-(2 ^ 62) ≤ lo) (h2:lo < 2 ^ 62) (h3:-(2 ^ 62) ≤ hi) (h4:hi < 2 ^ 62)
  (q:R (Itr lo (hi - lo).toNat) H):wpAny (model X.prog X.w) X.A (pyIter (.ref s.heap.objs.size)) (PIER X pins σ tg R) E { s with heap:=s.heap.push { cls:=.type "range",data:=.fields #[.int lo t,.int hi u,.int 1 v] },toks:=tk }:=by
 refine wpAny_pyIter_range (IsRange.new ..) (small_one h1 h2 h3 h4) ?_
 have I1:Inv X pins σ H { s with heap:=s.heap.push { cls:=.type "range",data:=.fields #[.int lo t,.int hi u,.int 1 v] },toks:=tk }:=I.kept fun b o e=>Heap.get?_push_of_some _ e
 refine ⟨(s.heap.push { cls:=.type "range",data:=.fields #[.int lo t,.int hi u,.int 1 v] }).objs.size,[(s.heap.push { cls:=.type "range",data:=.fields #[.int lo t,.int hi u,.int 1 v] }).objs.size],_,_,H,rfl,
  I1.kept (t':=tk) fun b o e=>Heap.get?_push_of_some _ e,turn_rangeR _ lo (hi - lo).toNat,?_,fun b hb=>?_,q⟩
 ·have e1:lo + ((0:Nat):Int) * 1=lo:=by simp
  have e2:(((hi - lo).toNat:Nat):Int) - ((0:Nat):Int)=Builtin.Range.rangeSize lo hi 1:=by rw [rangeSize_one]; split <;> omega
  show IsRangeIter _ _ (lo + ((0:Nat):Int) * 1) ((((hi - lo).toNat:Nat):Int) - ((0:Nat):Int)) 1
  rw [e1,e2]
  exact Heap.get?_push_size _ rfl
 ·have e:b=(s.heap.push { cls:=.type "range",data:=.fields #[.int lo t,.int hi u,.int 1 v] }).objs.size:=by simpa using hb
  subst e
  exact I1.fpOk (Nat.le_refl _) (I1.hok.fresh (Nat.le_refl _))
theorem piR_range1 {a:Expr} {ta:TA} {p pos:Pos} (hg:Gl X "range") (hm:X.mg "range"=none) (ha:PA X [a] ta) (hs:starEach [a] X.env=[(false,eval a X.env)]:=by rfl):PIR X tg (.Call (.Name "range" p) [a] [] pos) (iRng1 ta):=by
 intro pins s σ H R I h
 refine Call_ (ld_blt I hg hm boot_range (PyProof.Rows.callWith_type1 (thn (ha pos pins s σ H _ I h) fun us s1 ⟨vs,H1,I1,r1,q1⟩=>?_) hs rfl))
 obtain ⟨j,e,q1,q2,q⟩:=q1
 subst e
 cases r1 with
 | cons r rr =>
  cases rr
  obtain ⟨t,rfl⟩:=r
  exact call_range_1 (range_itR I1 (by omega) (by omega) q1 q2 (by simpa using q))
end
section
variable {X:Cx} {scope:Scope} {own cap:List Str} {ix:List Nat} {tg iter elt:Expr} {ifs:List Expr} {wi:TI} {g:TG} {tt:TT} {te:TE} {pos:Pos}
theorem comp_coreR {pins:List (Addr × Obj)} {σ:St} {H2:Hp} {s2:Shared} {it:Addr} {fp:List Addr} {tn:Nat→Heap→Prop} {J:It} {Q:VK} {RR:Value→Addr→Result→Shared→Prop} {E:Value→Shared→Prop}
  (B:BlkOk X scope own cap ix) (hc:Qt X)
  (hb:∀ C fp s H,PG (cxCR X scope C (own ++ cap) fp s H) tg g∧PIfs (cxCR X scope C (own ++ cap) fp s H) ifs tt∧PE (cxCR X scope C (own ++ cap) fp s H) elt te)
  (I2:Inv X pins σ H2 s2) (T:TurnR X.prog X.w X.K tg J fp it tn) (st2:tn 0 s2.heap) (f2:∀ b ∈ fp,FpOk X pins H2 b)
  (q:∀ acc,H2 acc=none→tCompN g tt te J acc (blkσ own.length ix σ) H2 Q)
  (hRR:∀ D C H' s' m,Inv X pins σ H' s'→Q (.ref D) H'→s'.heap.Ns C m→FpOk X pins H' C→RR (.ref D) C (.ok .next) s') :
  wpAny (model X.prog X.w) X.A (newList []) (fun acc s₃=>wpAny (model X.prog X.w) X.A (newFunctionEnv scope X.env.globals (cloF X.env scope.names []) [] X.env.qual none .none (some X.env)) (fun cenv s₄ =>
   codeAny (model X.prog X.w) X.A (.compStart (.ListComp elt [⟨tg,iter,ifs,0⟩] scope pos) 0 (.ref it) acc { cenv with scope:=relabel scope X.env }) (RR acc cenv.locals) s₄) E s₃) E s2:=by
 refine wpAny_newObj_type (newEnv_comp ?_)
 have I3:Inv X pins σ (upd H2 s2.heap.objs.size (.lst [])) { s2 with heap:=s2.heap.push { cls:=.type "list",dict:=none,data:=.seq ([]:List Value).toArray } }:=I2.lnew (its:=[]) (ys:=[]) (t':=s2.toks) .nil (Nat.zero_le _)
 obtain ⟨W,⟨m0,w0⟩,turn⟩:=q s2.heap.objs.size I2.fresh
 generalize hD:s2.heap.objs.size=D at I3 w0 turn ⊢
 have hlt:∀ b ∈ fp,b < D:=fun b hbm=>by
  obtain ⟨o,e,_⟩:=T.obj 0 _ st2 b hbm
  rw [← hD]; exact Heap.lt_size e
 generalize hs3:({ s2 with heap:=s2.heap.push { cls:=.type "list",dict:=none,data:=.seq ([]:List Value).toArray } }:Shared)=s3 at I3 ⊢
 have keep3:∀ b o,s2.heap.get? b=some o→s3.heap.get? b=some o:=fun b o e=>by rw [← hs3]; exact Heap.get?_push_of_some _ e
 have f3:∀ b ∈ fp,FpOk X pins (upd H2 D (.lst [])) b:=fun b hbm=>⟨by rw [jb3 (Nat.ne_of_lt (hlt b hbm))]; exact (f2 b hbm).1,(f2 b hbm).2⟩
 have o3:∀ b ∈ fp,∃ o,s3.heap.get? b=some o:=fun b hbm=>let ⟨o,e,_⟩:=T.obj 0 _ st2 b hbm; ⟨o,keep3 b o e⟩
 have I4:=I3.blockR B f3 o3
 have st4:tn 0 (pushCells (s3.heap.push { cls:=.type "dict",data:=.dict #[] }) scope.names):=T.keep 0 _ _ st2 fun b _ o e=>pushCells_keeps _ _ b o (Heap.get?_push_of_some _ (keep3 b o e))
 obtain ⟨hg,hif,he⟩:=hb s3.heap.objs.size fp s3 (upd H2 D (.lst []))
 generalize hX':cxCR X scope s3.heap.objs.size (own ++ cap) fp s3 (upd H2 D (.lst []))=X' at I4 hg hif he
 have eP:X'.prog=X.prog:=by rw [← hX']; rfl
 have eW:X'.w=X.w:=by rw [← hX']; rfl
 have eK:X'.K=X.K:=by rw [← hX']; rfl
 have eA:X'.A=X.A:=by rw [← hX']; rfl
 have eE:X'.env=compE scope s3.heap.objs.size X.env:=by rw [← hX']; rfl
 have ex:X'.xe=fun _ _=>False:=by rw [← hX']; rfl
 have hc':Qt X':=by rw [← hX']; exact hc
 have stat:∀ {H':Hp},(∀ b ∈ fp,H' b=none)→∀ b ∈ fp,FpOk X' [] H' b:=fun hn b hbm=>by
  subst hX'
  exact ⟨hn b hbm,(I4.ok.exf b hbm).1,I4.ok.exfs b hbm,.inl hbm,(I4.ok.exf b hbm).2,fun p hp=>(f3 b hbm).2.2.2.2.2 p (List.mem_append_left _ (by simpa using (show p ∈ X.pn ++ [] from hp)))⟩
 have loop:∀ s4:Shared,s4={ s3 with heap:=pushCells (s3.heap.push { cls:=.type "dict",data:=.dict #[] }) scope.names } →
   codeAny (model X.prog X.w) X.A (.compLoop (.ListComp elt [⟨tg,iter,ifs,0⟩] scope pos) 0 (.ref it) (.ref D) (compE scope s3.heap.objs.size X.env)) (RR (.ref D) s3.heap.objs.size) s4:=by
  rintro s4 rfl
  refine comp_loop (fun n s'=>∃ i σ' H',Inv X' [] σ' H' s'∧tn i s'.heap∧(∀ b ∈ fp,H' b=none)∧W i n σ' H') ?_ m0 ⟨0,_,_,I4,st4,fun b hbm=>(f3 b hbm).1,w0⟩
  rintro n s5 ⟨i,σ5,H5,I5,st5,fr5,w5⟩
  rcases turn i n σ5 H5 w5 with ⟨stop,qn⟩ | ⟨go,N,hN,step⟩
  ·have:=T.done X' eP eW eK hc' i [] s5 σ5 H5 (fun _ _=>False) I5 (stat fr5) st5 stop
   rw [eA] at this
   refine thn this fun r s6 ⟨hr,I6⟩=>?_
   subst hr
   subst hX'
   have J6:Inv X pins σ H5 s6:=I3.call' (ch:=fp) I6.os I6.base I6.hok I6.bare fun b hbm=>⟨(f3 b hbm).2.2.2.1,(f3 b hbm).2.1,(f3 b hbm).2.2.2.2.1,(f3 b hbm).2.2.2.2.2⟩
   obtain ⟨m,hn,_⟩:=I6.loc
   exact hRR D _ H5 s6 m J6 qn hn (I3.fpOk (Nat.le_refl _) I6.free)
  ·have:=T.item X' eP eW eK hc' i [] s5 σ5 H5 (fun _ _=>False) I5 (stat fr5) st5 go
   rw [eA] at this
   refine thn this fun r s6 ⟨u,hr,h6⟩=>?_
   subst hr
   refine thn h6 fun _ s7 ⟨x,H7,I7,r7,y7,st7,fr7⟩=>?_
   have I7':=I7.pinned (stat fr7) (T.obj _ _ st7)
   have a1:=hg _ s7 σ5 H7 x u _ I7' r7 (step x H7 y7)
   rw [eP,eW,eA,eE,ex] at a1
   refine thn a1 fun _ s8 ⟨σ8,H8,I8,q8⟩=>?_
   have a2:=hif _ s8 σ8 H8 _ I8 q8
   rw [eP,eW,eA,eE,ex] at a2
   refine thn a2 fun b s9 ⟨H9,I9,q9⟩=>?_
   have again:∀ {s':Shared} {σ':St} {H':Hp},Inv X' ([] ++ pinsAt fp s7.heap) σ' H' s'→N σ' H'→∃ m,m < n∧∃ i σ' H',Inv X' [] σ' H' s'∧tn i s'.heap∧(∀ b ∈ fp,H' b=none)∧W i m σ' H':=fun {s' σ' H'} I' n'=>by
    obtain ⟨m',hm,w'⟩:=hN σ' H' n'
    refine ⟨m',hm,i + 1,σ',H',I'.unpinned,T.keep _ _ _ st7 fun b hbm o e=>(I'.pin (b,o) (List.mem_append_right _ (List.mem_append_right _ (je9 hbm e)))).1,fun b hbm=>?_,w'⟩
    obtain ⟨o,e,d⟩:=T.obj _ _ st7 b hbm
    exact (I'.pin (b,o) (List.mem_append_right _ (List.mem_append_right _ (je9 hbm e)))).2.1
   cases b with
   | false=>exact again I9 q9
   | true =>
    rw [if_pos rfl] at q9 ⊢
    have a3:=he _ s9 σ8 H9 _ I9 q9
    rw [eP,eW,eA,eE,ex] at a3
    refine thn a3 fun yv s10 ⟨y,H10,I10,r10,ys,hys,hz,q10⟩=>?_
    have a4:=mt_append (X:=X') _ s10 σ8 H10 (.ref D) [y] (.ref D) [yv] (fun v H'=>v=.non∧N σ8 H') I10 rfl (.cons r10 .nil) ⟨D,ys,y,rfl,rfl,hys,hz,rfl,q10⟩
    rw [eP,eW,eA,ex] at a4
    refine thn a4 fun _ s11 ⟨_,H11,I11,_,_,q11⟩=>again I11 q11
 exact codeAny_compStart_list (loop _ rfl) (T.self X.A 0 _ _ _ st4 (loop _ rfl))
theorem pe_compR (B:BlkOk X scope own cap ix) (hc:Qt X) (hi:PIR X tg iter wi)
  (hb:∀ C fp s H,PG (cxCR X scope C (own ++ cap) fp s H) tg g∧PIfs (cxCR X scope C (own ++ cap) fp s H) ifs tt∧PE (cxCR X scope C (own ++ cap) fp s H) elt te)
  (hs:∀ x,foldedSetIterable iter X.env x=pure x:=by intro _; rfl):PE X (.ListComp elt [⟨tg,iter,ifs,0⟩] scope pos) (tComp wi g tt te own.length ix):=by
 intro pins s σ H Q I h
 rw [eval_ListComp]
 have has:∀ x ∈ scope.names,x.2=.free→(X.env.cells.lookup x.1).isSome=true:=fun x hx hk=>by
  obtain ⟨c,e⟩:=I.ok.has x.1 (B.frees x hx hk)
  rw [e]; rfl
 refine wpAny_comprehension_free (use:=none) rfl hs (je8 has) B.kind B.names ?_
 show wpAny _ _ (eval iter X.env) _ _ s
 refine thn (hi pins s σ H _ I h) fun v s1 h1=>thn h1 fun itv s2 h2=>?_
 obtain ⟨it,fp,tn,J,H2,e,I2,T,st2,f2,q⟩:=h2
 subst e
 refine comp_coreR (RR:=fun acc C=>compPost (model X.prog X.w) X.A X.xe none (EP X pins σ Q) acc C) B hc hb I2 T st2 f2 q ?_
 intro D C H' s' m I' q' hn fC
 refine ⟨m,hn,fun h' hsb=>⟨.ref D,H',?_,rfl,q'⟩⟩
 exact I'.turned (t':=s'.toks) (it:=C) (fun b o hbC e=>(hsb.2 b hbC).trans e) fC.1 fC.2.1 fC.2.2.2.1 fC.2.2.2.2.1 fC.2.2.2.2.2
end
end L2
namespace EX
open PySem PySem.Spec PyProof.Rows PySem.W
structure ExcK (K:Frag) (D:Addr):Prop where
 ga:findIn K (.ref D) "__getattribute__"=some (some (.builtin "BaseException.__getattribute__"))
 gt:findIn K (.ref D) "__getattr__"=some none
 cl:findIn K (.ref D) "__class__"=some (some (.builtin "object.__class__"))
 get:specialIn K (.builtin "object.__class__") "__get__"=some (some (.builtin "getset_descriptor.__get__"))
 tk:takesIn K (.builtin "object.__class__")=some true
 ob:mroIn K D (.type "object")=some true
 be:mroIn K D (.type "BaseException")=some true
section
variable {prog:Program} {w:World} {A:Around} {E:Value→Shared→Prop} {s:Shared} {K:Frag} {x D t:Addr} {hd:Value}
theorem inst_exc {h:Heap} (hx:h.get? x=some (excO D t hd)):PySem.W.InstAt h x (excO D t hd) D none:=⟨hx,rfl,rfl,trivial⟩
theorem exc_class {Q:Option Value→Shared→Prop} (Z:ExcK K D) (X:K.In s.heap) (hx:s.heap.get? x=some (excO D t hd)) (k:Q (some (.ref D)) { s with toks:=s.toks + 1 }):wpAny (model prog w) A (getAttr? (.ref x) "__class__") Q E s:=by
 have I:=inst_exc hx
 obtain ⟨hh,g,d,tt,os⟩:=s
 have L0:=I.type (M:=model prog w)
 have L1:=looks_findIn (M:=model prog w) X Z.ga
 have L2:=looks_findIn (M:=model prog w) X Z.gt
 have hcls:∃ cd,clsIn K D=some cd:=by
  have:=Z.ob
  unfold mroIn at this
  obtain ⟨cd,q,_⟩:=Option.bind_eq_some_iff.mp this
  exact ⟨cd,q⟩
 have hf:findObj K D none "__class__"=some (.bind (.builtin "getset_descriptor.__get__") (.builtin "object.__class__")):=by
  obtain ⟨cd,hc⟩:=hcls
  unfold findObj
  rw [hc,Option.bind_some,Z.cl,Option.bind_some]
  simp [Z.get,Z.tk]
 have L3:=looks_find (M:=model prog w) X I hf
 have L4:=looks_mroIn (M:=model prog w) X Z.be
 unfold getAttr? getAttrBy? getAttrBy
 refine wpAny_bind (wpAny_mkText (wpAny_bind (wpAny_attempt (wpAny_holding (wpAny_bind (L0.at (wpAny_bind (L1.at ?_))))))))
 show wpAny _ _ (if (onTheHeap (Value.ref D) && Value.builtin "BaseException.__getattribute__" == .builtin "object.__getattribute__")=true then _ else getAttrByItsOwn _ _ _ _ _ _) _ _ _
 rw [if_neg (by rw [show (Value.builtin "BaseException.__getattribute__" == Value.builtin "object.__getattribute__")=false by decide +kernel,Bool.and_false]; exact Bool.false_ne_true)]
 unfold getAttrByItsOwn hookBefore
 refine wpAny_bind (L2.at (wpAny_bind (wpAny_attempt (wpAny_holding ?_))))
 show wpAny _ _ (boundAndCalled _ _ _) _ _ _
 unfold boundAndCalled
 have f3:=F.attr_ValueError.ga.bind (.ref x)
 rw [f3]
 refine wpAny_bind (wpAny_pure (wpAny_call (codeAny_call_builtin F.attr_ValueError.ga.plain F.entry_bexc_ga ?_)))
 have hk:builtinKind "BaseException.__getattribute__"=some .slot:=by decide +kernel
 have hsp:splitId "BaseException.__getattribute__"=some ("BaseException","__getattribute__"):=by decide +kernel
 have har:=F.args_bexc_ga (.ref x) (.str "__class__" tt)
 simp only [checkBuiltinCall,hk,hsp]
 have LI:Looks (model prog w) hh (isInstance (.ref x) (.type "BaseException")) true:=L0.andThen L4
 show wpAny _ _ (isInstance (.ref x) (.type "BaseException") >>= _) _ _ _
 refine wpAny_bind (LI.at ?_)
 simp only [Bool.not_true,Bool.false_eq_true,if_false]
 unfold argsOk at har
 show wpAny _ _ (match Manifest.signature? "BaseException.__getattribute__" with | some sig=>Bind.checkArgs "BaseException.__getattribute__" sig ⟨[.ref x,.str "__class__" tt],[]⟩ | x=>pure ()) _ _ _
 refine wpAny_of_eq har ?_
 unfold Builtin.«object.__getattribute__»
 repeat (any_goals (first | with_reducible refine L0.at ?_ | with_reducible refine L3.at ?_ | wp_step))
 refine class_get (s:=⟨hh,g,d,tt + 1,os⟩) X I Z.ob ?_
 exact wpAny_pure (handed_on rfl (wpAny_pure k))
theorem kitx_exc (Z:ExcK K D):KitX K (.ref x) (.ref D) (fun h=>h.get? x=some (excO D t hd)) where
 ty:=fun _ _ _ hx=>(inst_exc hx).type
 it:=fun M h X _=>by
  have:=Z.ob
  unfold mroIn at this
  obtain ⟨cd,q,_⟩:=Option.bind_eq_some_iff.mp this
  unfold clsIn at q
  split at q
  ·rename_i c' d' cd' sl' ho
   intro A' Q' E' s' k hq
   unfold isType loadHead
   exact wpAny_bind (wpAny_loadPart (k _ _ (X _ _ ho)) (wpAny_pure hq))
  ·cases q
 ne:=fun h tp dd its n sl X htp=>by
  have:=Z.ob
  unfold mroIn at this
  obtain ⟨cd,q,_⟩:=Option.bind_eq_some_iff.mp this
  refine Bool.eq_false_iff.mpr fun z=>?_
  have e:D=tp:=Value.ref.inj (beq_iff_eq.mp z)
  subst e
  unfold clsIn at q
  split at q
  ·rename_i c' d' cd' sl' ho
   have y:=(X _ _ ho).symm.trans htp
   cases y
  ·cases q
 ca:=fun X hx k=>exc_class Z X hx k
end
end EX
namespace L2
open PySem PySem.Spec PyProof.Rows EX
def tIsE (K:PySem.W.Frag) (D:Addr) (c:Value) (ea:Addr) (te:TE):TE:=fun σ H Q=>te σ H fun x H1=>x=.ref ea∧∃ b,PySem.W.kitOne K (.ref D) c=some b∧Q (.bl b) H1
section
variable {X:Cx} {e:Expr} {te:TE} {ea D t:Addr} {hd:Value}
theorem isE_at {pins:List (Addr × Obj)} {s:Shared} {σ:St} {H:Hp} {Q:VK} {c:Value} {b:Bool} (Z:ExcK X.K D) (hp:(ea,excO D t hd) ∈ X.pn) (I:Inv X pins σ H s) (ek:PySem.W.kitOne X.K (.ref D) c=some b) (q:Q (.bl b) H) :
  wpAny (model X.prog X.w) X.A (call (.builtin "isinstance") [.ref ea,c]) (EP X pins σ Q) X.xe s :=
 PySem.W.kia_one (kitx_exc (x:=ea) (t:=t) (hd:=hd) Z) I.kIn (I.pin _ (List.mem_append_left _ hp)).1 ek (fun z=>nomatch z) fun tk=>⟨.bl b,H,I.tok tk,rfl,q⟩
theorem jg0 {T:Str} {C:Addr} {p p2 pos:Pos} (Z:ExcK X.K D) (hp:(ea,excO D t hd) ∈ X.pn) (he:PE X e te) (hg:Gl X "isinstance") (hm:X.mg "isinstance"=none) (hgT:Gl X T) (hmT:X.mg T=some (.ref C))
  (hb:bootBuiltins "isinstance"=some (.builtin "isinstance")) (hdT:(T == ("__debug__" : Str))=false:=by decide)
  (hs:starEach [e,.Name T p2] X.env=[(false,eval e X.env),(false,eval (.Name T p2) X.env)]:=by rfl)
  (hpl:(backTo pos (starEach [.Name T p2] X.env)).any (·.1)=false:=by rfl):PE X (.Call (.Name "isinstance" p) [e,.Name T p2] [] pos) (tIsE X.K D (.ref C) ea te):=by
 intro pins s σ H Q I h
 refine Call_ (ld_blt I hg hm hb (PyProof.Rows.callWith_builtin1 (spl2 (Q:=fun us s1=>wpAny (model X.prog X.w) X.A (call (.builtin "isinstance") us) (EP X pins σ Q) X.xe s1) he I h hs fun u s1 x H1 I1 r q=>?_) ?_ hpl))
 ·refine ld_glob I1 hgT hmT ?_ hdT
  obtain ⟨rfl,b,ek,q⟩:=q
  cases r
  exact isE_at Z hp I1 ek q
 ·rw [hs]; rfl
theorem pe_isEB {T:Str} {n:String} {p p2 pos:Pos} (Z:ExcK X.K D) (hp:(ea,excO D t hd) ∈ X.pn) (he:PE X e te) (hg:Gl X "isinstance") (hm:X.mg "isinstance"=none) (hgT:Gl X T) (hmT:X.mg T=none) (hv:bootBuiltins T=some (.type n))
  (hb:bootBuiltins "isinstance"=some (.builtin "isinstance")) (hnT:T ≠ "__name__":=by decide) (hdT:(T == ("__debug__" : Str))=false:=by decide)
  (hs:starEach [e,.Name T p2] X.env=[(false,eval e X.env),(false,eval (.Name T p2) X.env)]:=by rfl)
  (hpl:(backTo pos (starEach [.Name T p2] X.env)).any (·.1)=false:=by rfl):PE X (.Call (.Name "isinstance" p) [e,.Name T p2] [] pos) (tIsE X.K D (.type n) ea te):=by
 intro pins s σ H Q I h
 refine Call_ (ld_blt I hg hm hb (PyProof.Rows.callWith_builtin1 (spl2 (Q:=fun us s1=>wpAny (model X.prog X.w) X.A (call (.builtin "isinstance") us) (EP X pins σ Q) X.xe s1) he I h hs fun u s1 x H1 I1 r q=>?_) ?_ hpl))
 ·refine ld_blt I1 hgT hmT hv ?_ hnT hdT
  obtain ⟨rfl,b,ek,q⟩:=q
  cases r
  exact isE_at Z hp I1 ek q
 ·rw [hs]; rfl
end
end L2
namespace EX
open PySem PySem.Spec PyProof.Rows PySem.W
section
variable {prog:Program} {w:World} {A:Around} {E:Value→Shared→Prop} {s:Shared} {K:Frag} {e D C t:Addr} {hd:Value}
theorem exc_match {Q:Bool→Shared→Prop} {b:Bool} (X:K.In s.heap) (he:s.heap.get? e=some (excO D t hd)) (hty:typeIn K (.ref C)=some (.type "type")) (hb:mroIn K C (.type "BaseException")=some true) (hs:mroIn K D (.ref C)=some b) (k:Q b s) :
  wpAny (model prog w) A (excMatches (.ref e) (.ref C)) Q E s:=by
 obtain ⟨hh,g,d,tt,os⟩:=s
 have L0:=(inst_exc he).type (M:=model prog w)
 have L1:=looks_typeIn (M:=model prog w) X hty
 have L2:=looks_mroIn (M:=model prog w) X hb
 have L3:=looks_mroIn (M:=model prog w) X hs
 have f:=tc_notTuple
 have hC:∃ o cd,K.lookup C=some o∧o.data=.cls cd:=by
  have:=hb
  unfold mroIn at this
  obtain ⟨cd,q,_⟩:=Option.bind_eq_some_iff.mp this
  unfold clsIn at q
  split at q
  ·rename_i ho; exact ⟨_,_,ho,rfl⟩
  ·cases q
 obtain ⟨oC,cdC,ho,hdC⟩:=hC
 have gC:=X _ _ ho
 unfold excMatches
 repeat (any_goals (first | with_reducible refine L0.at ?_ | with_reducible refine L1.at ?_ | with_reducible refine L2.at ?_ | with_reducible refine L3.at ?_ | wp_step))
 cases b <;> (repeat (any_goals wp_step)) <;> exact k
end
end EX
namespace L2
open PySem PySem.Spec PyProof.Rows EX
def rJoin (K:PySem.W.Frag):V→List V→Hp→VK→Prop:=fun x vs H Q=>∃ (y:Str) (p:Addr) (zs:List Str),x=.str y∧vs=[.ref p]∧SqL K H p (zs.map V.str)∧(∀ z ∈ zs,z.length ≤ 12)∧y.length ≤ 4∧zs.length ≤ 1000∧Q (.str (PySem.Txt.join y zs)) H
theorem carried_strs:∀ {zs:List Str} {us:List Value},Vals (zs.map V.str) us→CarriedAll us (zs.map fun z=>PyData.str z)
 | [],_,r=>by cases r; exact .nil
 | z :: zs,_,r=>by
  rw [List.map_cons] at r
  cases r with
  | cons r1 r2 =>
   obtain ⟨t,rfl⟩:=r1
   exact .cons (.str _ t) (carried_strs r2)
theorem mt_join {X:Cx} (K:PySem.W.Frag) (hK:X.K=K:=by rfl):MtR X "str.join" (rJoin K):=by
 subst hK
 intro pins s σ H x vs v us Q I rx rv h
 obtain ⟨y,p,zs,rfl,rfl,hq,hB,hy,hn,q⟩:=h
 obtain ⟨t,rfl⟩:=rx
 obtain ⟨u,rfl,ru⟩:=rv.one
 cases ru
 obtain ⟨its,r,hl,_⟩:=I.list hq
 refine PySem.W.KT.join_B 12 hl.isList (l:=zs) (g:=fun z=>z) (carried_strs r) hB (by omega) (by omega) fun t' k=>?_
 rw [List.map_id']
 exact ⟨.str _,H,I.tok k,⟨_,rfl⟩,q⟩
end L2
namespace L2
open PySem PySem.Spec PyProof.Rows EX
structure RoomH (k:Nat) (A:Around) (ea:Addr):Prop where
 hd:A.handled=some (.ref ea)
 dp:A.depth + 3 * k + 5 < recursionLimit
 un:A.units + 16 * k + 200 < cLine
theorem RoomH.deeper {k:Nat} {A:Around} {ea:Addr} (r:RoomH (k + 1) A ea) (env:Env):RoomH k (A.deeper env) ea :=
 ⟨r.hd,by have:=r.dp; show A.depth + 1 + 3 * k + 5 < _; omega,by have:=r.un; show A.units + 3 + 16 * k + 200 < _; omega⟩
def cxH (P:Program) (w:World) (K:PySem.W.Frag) (mg:Str→Option Value) (base:Heap) (N:List Str) (qual:Str) (scope:Scope) (f:Addr) (cd:Value) (A:Around) (outer:List Env) (s:Shared) (H:Hp) (ea D t:Addr) (hd:Value):Cx :=
 { cxOf CX0 P w K mg base N qual scope f cd A outer s H E0 with calm:=false,pn:=[(ea,excO D t hd)],xe:=fun _ _=>False }
structure FnH (P:Program) (w:World) (K:PySem.W.Frag) (mg:Str→Option Value) (base:Heap) (k:Nat) (f:Addr) (fd:FuncData) (ps:List Str) (sp:Addr→Addr→Sp):Prop where
 len:∀ ea D vs H Q E,sp ea D vs H Q E→vs.length=ps.length
 run:∀ (A:Around) (outer:List Env) (s:Shared) (H:Hp) (args:Args) (us:List Value) (vs:List V) (Q:VK) (E:XK) (ea D t:Addr) (hd:Value),RoomH k A ea→Env0 P w K mg base A outer s H→s.heap.get? ea=some (excO D t hd)→H ea=none→ea ∉ frs outer →
  BindsTo s fd args (ps.zip us)→Vals vs us→sp ea D vs H Q E→codeAny (model P w) A (.call (.ref f) args) (CR CX0 outer P w H s Q E) s
section
variable {P:Program} {w:World} {K:PySem.W.Frag} {mg:Str→Option Value} {base:Heap}
theorem inv_startH {N ps:List Str} {qual:Str} {scope:Scope} {f:Addr} {cd:Value} {A:Around} {outer:List Env} {s s1:Shared} {H:Hp} {us:List Value} {vs:List V} {ea D t:Addr} {hd:Value}
  (S:FnScope N ps scope) (e0:Env0 P w K mg base A outer s H) (hl:vs.length=ps.length) (r:Vals vs us) (he:s.heap.get? ea=some (excO D t hd)) (hn:H ea=none) (hf:ea ∉ frs outer)
  (x:InCallC s s.heap.objs.size (bindL (envOfC qual scope s.heap.objs.size f cd).kindOf (ps.zip us) fun _=>none) (cellsFrom (s.heap.objs.size + 1) scope.names []) (bindC (envOfC qual scope s.heap.objs.size f cd).kindOf (ps.zip us) fun _=>none) s1) :
  Inv (cxH P w K mg base N qual scope f cd A outer s H ea D t hd) [] (start N vs) H s1:=by
 have e1:Env0 P w K mg base { A with handled:=none } outer s H:=⟨e0.frames,e0.mod,e0.bs,e0.bsz,e0.funs,e0.frf,e0.hok,e0.bare⟩
 have J:=inv_start (CX:=CX0) (E:=E0) (A:={ A with handled:=none }) S rfl e1 hl r x
 have keep:=x.toInCall.keep
 refine ⟨⟨J.ok.mod,J.ok.kind,J.ok.glob,J.ok.blt,J.ok.above,J.ok.inj,J.ok.has,J.ok.cab,fun z=>(nomatch z),Around.frames_deeper e0.frames,J.ok.stk,J.ok.exf,J.ok.bs,J.ok.bsz,J.ok.noex,J.ok.exfs,J.ok.funs,J.ok.frf⟩,J.os,J.bare,J.base,J.loc,J.cell,J.free,J.freeC,fun p hp=>?_,J.hok,J.len⟩
 have hp':p=(ea,excO D t hd):=by simpa using (show p ∈ [(ea,excO D t hd)] ++ [] from hp)
 subst hp'
 exact ⟨keep _ _ he,hn,Nat.ne_of_lt (Heap.lt_size he),hf,fun v z=>by cases z⟩
theorem Fun.okH {x qual:Str} {st:Stmt} {f:Addr} {fd:FuncData} {N ps:List Str} {k:Nat} {sp:Addr→Addr→Sp} (F:Fun K x qual st f fd) (S:FnScope N ps (ja3 st)) (len:∀ ea D vs H Q E,sp ea D vs H Q E→vs.length=ps.length)
  (hbody:∀ (cdv:Value) (A:Around) (outer:List Env) (s:Shared) (H:Hp) (vs:List V) (Q:VK) (E:XK) (ea D t:Addr) (hd:Value),RoomH k (A.deeper (envOfC qual (ja3 st) s.heap.objs.size f cdv)) ea→sp ea D vs H Q E →
   ∃ t',PSs (cxH P w K mg base N qual (ja3 st) f cdv A outer s H ea D t hd) (je2 st) t'∧t' { nx:=fun _ H'=>Q .non H',rt:=Q } (start N vs) H):FnH P w K mg base (k + 1) f fd ps sp:=by
 obtain ⟨oc,od,kV,doc,pm,an,cdv,ct,osl,rfl,lk,hcd⟩:=F.ex
 refine ⟨len,fun A outer s H args us vs Q E ea D t hd hr e0 he hn hf hb r hsp=>?_⟩
 have hl:=len _ _ _ _ _ _ hsp
 have KX:K.In s.heap:=e0.mod.kin.keeps fun b o e=>(e0.bs b o e).1
 have lim:s.heap.NoLimit:=e0.mod.nolimit.keeps fun b o e=>(e0.bs b o e).1
 have hkind:∀ y ∈ ps.zip us,(ja3 st).names.lookup y.1=some .local ∨ ((ja3 st).names.lookup y.1=some .cell∧((cellsFrom (s.heap.objs.size + 1) (ja3 st).names []).lookup y.1).isSome=true):=fun ⟨n,v⟩ hy=>by
  rcases S.par n (List.of_mem_zip hy).1 with q | q
  ·exact .inl q
  ·exact .inr ⟨q,PySem.W.cellsFrom_some _ _ _ (.inl q)⟩
 refine codeAny_call_function (by have:=hr.dp; omega) (KX _ _ lk) rfl S.co S.gen rfl (PySem.W.codeRec_of KX hcd) (hb _ _ _ _ ?_)
 refine wpAny_newFunctionEnv_cells S.kind hkind fun env he' s1 x=>?_
 subst he'
 refine ⟨lim.keeps x.toInCall.keep,codeAny_func ?_⟩
 obtain ⟨t',ht,hq⟩:=hbody cdv A outer s H vs Q E ea D t hd (hr.deeper _) hsp
 have I:=inv_startH (qual:=qual) (f:=f) (cd:=cdv) S e0 hl r he hn hf x
 refine wpAny_mono (ht [] s1 (start N vs) H _ I hq) (fun fl s' hs=>?_) fun e s' hs=>False.elim hs
 have fin:∀ {σ':St} {H':Hp} {v:V} {u:Value},Inv (cxH P w K mg base N qual (ja3 st) f cdv A outer s H ea D t hd) [] σ' H' s'→RelV v u→Q v H'→CE outer P w H s Q u s' :=
  fun {σ' H' v u} J rv q=>⟨v,H',J.os,J.bare,J.base,J.hok,rv,q⟩
 cases fl with
 | ret u =>
  obtain ⟨v,σ',H',J,rv,q⟩:=hs
  exact fin J rv q
 | next =>
  obtain ⟨σ',H',J,q⟩:=hs
  exact fin (v:=V.non) (u:=Value.none) J rfl q
 | brk =>
  obtain ⟨_,_,_,q⟩:=hs
  exact False.elim q
 | cont =>
  obtain ⟨_,_,_,q⟩:=hs
  exact False.elim q
end
end L2
namespace L2
open PySem PySem.Spec PyProof.Rows EX
theorem un_up {l:List Env} {H H':Hp} {h h1 h2 B:Heap} {a C t:Addr} (un:Un (frs l) [] H H' h h1) (third:∀ b o,h.get? b=some o→b ∉ frs l→(∃ o',B.get? b=some o')∧(H b=none→B.get? b=some o))
  (ff:h1.FunFrames B l) (air:Air B l a C t h2) (up:h1.UpToSlots h2):Un (frs l) [] H H' h h2:=by
 refine ⟨fun b o q n nf _=>air.st b o ((third b o q nf).2 n),fun b o q n m _=>?_,un.free,fun b o q _=>?_,un.tups,un.frzs,un.tbls⟩
 ·obtain ⟨sl,q1⟩:=un.slot b o q n m (by simp)
  obtain ⟨_,o3,q3,nf⟩:=ff.mem m
  rw [q1] at q3
  cases q3
  obtain ⟨sl3,q4⟩:=up b _ q1 nf
  exact ⟨sl3,q4⟩
 ·by_cases m:b ∈ frs l
  ·obtain ⟨_,o3,q3,nf⟩:=ff.mem m
   obtain ⟨sl3,q4⟩:=up b _ q3 nf
   exact ⟨_,q4⟩
  ·obtain ⟨o2,q2⟩:=(third b o q m).1
   exact ⟨o2,air.st b o2 q2⟩
section
variable {X:Cx} {pins:List (Addr × Obj)} {σ:St} {H:Hp} {s:Shared}
theorem inv_goes {n:Str} {j:Nat} {m:Str→Option Value} {h':Heap} {v:Option Value} {tk:Nat} (I:Inv X pins σ H s) (hN:X.N.Nodup) (hj:X.N[j]?=some n) (hn:s.heap.Ns X.env.locals m)
  (hl:∀ (i:Nat) (x:Str) (v:V),X.N[i]?=some x→σ[i]?=some (some v)→Vis X.env.scope x→∃ u,RelV v u∧Look X.env s.heap m x u)
  (hn':h'.Ns X.env.locals (fun x=>if x=n then v else m x)) (hs:Heap.SameBut X.env.locals s.heap h'):Inv X pins (σ.set j none) H { s with heap:=h',toks:=tk }:=by
 have cne:=I.cne
 have ltL:∀ b o,X.s₀.heap.get? b=some o→b ≠ X.env.locals:=fun b o e=>Nat.ne_of_lt (Nat.lt_of_lt_of_le (Heap.lt_size e) I.ok.above)
 refine ⟨I.ok,I.os,I.bare,⟨fun b o e n hb hx=>(hs.2 b (ltL b o e)).trans (I.base.keep b o e n hb hx),fun b o e n hb hx=>?_,I.base.free,fun b o e hx=>?_,I.base.tups,I.base.frzs,I.base.tbls⟩,⟨_,hn',fun i x v' e1 e2 e3=>?_⟩,fun y c e=>?_,I.free,I.freeC,fun p hp=>?_,fun b ob e=>?_,by simpa using I.len⟩
 ·obtain ⟨sl,e1⟩:=I.base.slot b o e n hb hx
  exact ⟨sl,(hs.2 b (ltL b o e)).trans e1⟩
 ·obtain ⟨o',e1⟩:=I.base.there b o e hx
  exact ⟨o',(hs.2 b (ltL b o e)).trans e1⟩
 ·by_cases hji:i=j
  ·subst hji
   by_cases hlt:i < σ.length
   ·rw [List.getElem?_set_self hlt] at e2; cases e2
   ·rw [List.getElem?_eq_none (by simpa using hlt)] at e2; cases e2
  ·rw [List.getElem?_set_ne (Ne.symm hji)] at e2
   obtain ⟨u,r,q⟩:=hl i x v' e1 e2 e3
   refine ⟨u,r,?_⟩
   rcases q with ⟨kd,e⟩ | ⟨kd,c,e,z⟩
   ·have:x ≠ n:=fun z=>hji (nodup_ix hN e1 (z ▸ hj))
    exact .inl ⟨kd,by simp [this,e]⟩
   ·exact .inr ⟨kd,c,e,z.sameBut hs (cne x c e)⟩
 ·obtain ⟨w',z⟩:=I.cell y c e
  exact ⟨w',z.sameBut hs (cne y c e)⟩
 ·obtain ⟨e,n,ne,nf,d⟩:=I.pin p hp
  exact ⟨(hs.2 p.1 ne).trans e,n,ne,nf,d⟩
 ·refine (I.hok b ob e).stay (fun c w' hc q=>(hs.2 c ?_).trans q) (fun _ q=>q) fun _ _ q=>q
  rintro rfl
  rcases hc with z | z
  ·rw [← z,I.free] at e; cases e
  ·rw [I.free] at z; cases z
def cxS (X:Cx) (ea D t:Addr) (hd:Value):Cx:={ X with A:=X.A.mark (some (.ref ea)),calm:=false,pn:=(ea,excO D t hd) :: X.pn,xe:=fun _ _=>False }
theorem Inv.suite {ea D t:Addr} {hd:Value} (I:Inv X pins σ H s) (he:s.heap.get? ea=some (excO D t hd)) (hn:H ea=none) (hL:ea ≠ X.env.locals) (hf:ea ∉ X.fs):Inv (cxS X ea D t hd) pins σ H s:=by
 refine ⟨⟨I.ok.mod,I.ok.kind,I.ok.glob,I.ok.blt,I.ok.above,I.ok.inj,I.ok.has,I.ok.cab,fun z=>(nomatch z),I.ok.frames,I.ok.stk,I.ok.exf,I.ok.bs,I.ok.bsz,I.ok.noex,I.ok.exfs,I.ok.funs,I.ok.frf⟩,I.os,I.bare,I.base,I.loc,I.cell,I.free,I.freeC,fun p hp=>?_,I.hok,I.len⟩
 have hp':p=(ea,excO D t hd) ∨ p ∈ X.pn ++ pins:=List.mem_cons.mp (show p ∈ (ea,excO D t hd) :: (X.pn ++ pins) from hp)
 rcases hp' with z | z
 ·subst z; exact ⟨he,hn,hL,hf,fun v z=>by cases z⟩
 ·exact I.pin p z
theorem Inv.unsuite {ea D t:Addr} {hd:Value} (ok:X.Ok) (I:Inv (cxS X ea D t hd) pins σ H s):Inv X pins σ H s :=
 ⟨ok,I.os,I.bare,I.base,I.loc,I.cell,I.free,I.freeC,fun p hp=>I.pin p (show p ∈ (ea,excO D t hd) :: (X.pn ++ pins) from List.mem_cons_of_mem _ hp),I.hok,I.len⟩
end
def tCallH (sp:Addr→Addr→Sp) (ea D:Addr) (t:TA):TE:=fun σ H Q=>t σ H fun vs H1=>sp ea D vs H1 Q E0
theorem pe_callH {X:Cx} {k:Nat} {f ea D t:Addr} {hd:Value} {fd:FuncData} {ps:List Str} {sp:Addr→Addr→Sp} {x:Str} {p pos:Pos} {e:Expr} {es:List Expr} {ta:TA} (F:FnH X.prog X.w X.K X.mg X.base k f fd ps sp) (hr:RoomH k X.A ea) (hp:(ea,excO D t hd) ∈ X.pn)
  (hg:Gl X x) (hm:X.mg x=some (.ref f)) (hk:PySem.W.keepIn X.K (.ref f)=true) (hb:Binds X.K fd ps []) (ha:PA X (e :: es) ta) (hdb:(x == ("__debug__" : Str))=false:=by decide)
  (he:starEach (e :: es) X.env=(false,eval e X.env) :: starEach es X.env:=by rfl) (hpl:(backTo pos (starEach es X.env)).any (·.1)=false:=by rfl):PE X (.Call (.Name x p) (e :: es) [] pos) (tCallH sp ea D ta):=by
 intro pins s σ H Q I h
 refine wpAny_Call_Name_kw (ld_glob I hg hm ?_ hdb)
 refine PySem.W.callWith_K (h₀:=X.base) I.ok.mod.kin hk (thn (ha pos pins s σ H _ I h) fun us s1 ⟨vs,H1,I1,r,q⟩=>⟨I1.kIn,?_⟩) he hpl
 obtain ⟨p1,p2,p3,p4,_⟩:=I1.pin _ (List.mem_append_left _ hp)
 have hl:us.length=ps.length:=by rw [← r.length]; exact F.len _ _ _ _ _ _ q
 have hb':=hb s1 us I1.kIn (by rw [List.append_nil]; exact hl)
 rw [List.append_nil] at hb'
 refine wpAny_call (codeAny_mono (F.run X.A X.stack s1 H1 ⟨us,[]⟩ us vs Q E0 ea D t hd hr I1.env0 p1 p2 (fun z=>?_) hb' r q) fun r s' hq=>?_)
 ·rcases List.mem_cons.mp (I1.stkSub ea z) with e | e
  ·exact p3 e
  ·exact p4 e
 ·cases r with
  | error e=>exact False.elim hq
  | ok fl =>
   cases fl with
   | ret u=>exact I1.after hq
   | next=>exact False.elim hq
   | brk=>exact False.elim hq
   | cont=>exact False.elim hq
end L2
namespace L2
open PySem PySem.Spec PyProof.Rows EX
def tTry (K:PySem.W.Frag) (sp:Sp) (spK:Addr→Addr→Sp) (M:Addr) (i j l:Nat) (ta:TA):TS:=fun D σ H=>ta σ H fun vs H1=>sp vs H1 (fun v H2=>D.nx (σ.set i (some v)) H2)
 (fun c _ H2=>∃ Dc,c=.ref Dc∧PySem.W.mroIn K Dc (.ref M)=some true∧∀ ea,H2 ea=none→spK ea Dc [.ref ea] H2 (fun v H3=>D.nx (((σ.set j (some (.ref ea))).set l (some v)).set j none) H3) E0)
theorem ps_tryCall {X:Cx} {k kk:Nat} {f fK M:Addr} {fd fdK:FuncData} {ps psK:List Str} {sp:Sp} {spK:Addr→Addr→Sp} {x n y fn kf Cl:Str} {i j l:Nat} {e:Expr} {es:List Expr} {ta:TA} {px fp cpos apos np py kp np2 kpos ypos hpos pos:Pos}
  (F:FnOk X.prog X.w X.K X.mg X.base (CXF X.prog X.w) k f fd ps sp) (hr:Room k X.A) (hgf:Gl X fn) (hmf:X.mg fn=some (.ref f)) (hkf:PySem.W.keepIn X.K (.ref f)=true) (hbf:Binds X.K fd ps [])
  (G:FnH X.prog X.w X.K X.mg X.base kk fK fdK psK spK) (hr2:Room kk X.A) (hgk:Gl X kf) (hmk:X.mg kf=some (.ref fK)) (hkk:PySem.W.keepIn X.K (.ref fK)=true) (hbk:Binds X.K fdK psK [])
  (hgC:Gl X Cl) (hmC:X.mg Cl=some (.ref M)) (tyM:PySem.W.typeIn X.K (.ref M)=some (.type "type")) (bM:PySem.W.mroIn X.K M (.type "BaseException")=some true)
  (hst:X.stack=X.env :: X.outer) (hfr:X.env.frame=some X.env.locals) (hN:X.N.Nodup) (hi:X.N[i]?=some x) (hj:X.N[j]?=some n) (hl:X.N[l]?=some y)
  (kx:X.env.scope.names.lookup x=some .local) (kn:X.env.scope.names.lookup n=some .local) (ky:X.env.scope.names.lookup y=some .local)
  (ha:∀ E,PA (X.wish E) (e :: es) ta)
  (hs1:swapsWith (.Call (.Name fn fp) (e :: es) [] cpos) (some (.Name x px)) apos.line X.env=pure false:=by rfl)
  (hs2:swapsWith (.Call (.Name kf kp) [.Name n np2] [] kpos) (some (.Name y py)) ypos.line X.env=pure false:=by rfl)
  (d1:(fn == ("__debug__" : Str))=false:=by decide) (d2:(kf == ("__debug__" : Str))=false:=by decide) (d3:(Cl == ("__debug__" : Str))=false:=by decide) (d4:(n == ("__debug__" : Str))=false:=by decide) (d5:(n == ("__classdict__" : Str))=false:=by decide)
  (he:starEach (e :: es) X.env=(false,eval e X.env) :: starEach es X.env:=by rfl) (hpl:(backTo cpos (starEach es X.env)).any (·.1)=false:=by rfl)
  (he2:starEach [.Name n np2] X.env=[(false,eval (.Name n np2) X.env)]:=by rfl) :
  PS X (.Try [.Assign [.Name x px] (.Call (.Name fn fp) (e :: es) [] cpos) apos] [.ExceptHandler (some (.Name Cl np)) (some n) [.Assign [.Name y py] (.Call (.Name kf kp) [.Name n np2] [] kpos) ypos] hpos] [] [] pos) (tTry X.K sp spK M i j l ta):=by
 intro pins s σ H D I h
 refine wpAny_Try_except (wpAny_execs_cons ?_)
 refine wpAny_Assign_Name ?_ hs1
 refine wpAny_Call_Name_kw (ld_glob I hgf hmf ?_ d1)
 generalize hEE:(fun (e:Value) (s₁:Shared)=>wpAny (model X.prog X.w) X.A (noteFrame e X.env) (fun _ s₂=>wpAny (model X.prog X.w) X.A (setFlight e none) (fun _ s₃=>wpAny (model X.prog X.w) X.A (handleBy e X.env [.ExceptHandler (some (.Name Cl np)) (some n) [.Assign [.Name y py] (.Call (.Name kf kp) [.Name n np2] [] kpos) ypos] hpos]) (SP X pins D) X.xe s₃) X.xe s₂) X.xe s₁)=EE
 refine PySem.W.callWith_K (h₀:=X.base) I.ok.mod.kin hkf (thn (ha EE cpos pins s σ H _ (I.wish EE) h) fun us s1 ⟨vs,H1,I1w,r,q⟩=>?_) he hpl
 have I1:Inv X pins σ H1 s1:=I1w.unwish
 refine ⟨I1.kIn,?_⟩
 have hlen:us.length=ps.length:=by rw [← r.length]; exact F.len _ _ _ _ q
 have hb':=hbf s1 us I1.kIn (by rw [List.append_nil]; exact hlen)
 rw [List.append_nil] at hb'
 refine wpAny_call (codeAny_mono (F.run X.A X.stack s1 H1 ⟨us,[]⟩ us vs _ _ hr I1.env0 hb' r q) fun res s' hq=>?_)
 cases res with
 | ok fl =>
  cases fl with
  | ret u =>
   obtain ⟨v,H2,I2,rv,q2⟩:=I1.after hq
   refine store_ok I2 hN hi (.inl kx) rv (fun s3 I3=>?_) (.inr kx)
   exact wpAny_execs_nil (wpAny_execs_nil ⟨_,H2,I3,q2⟩)
  | next=>exact False.elim hq
  | brk=>exact False.elim hq
  | cont=>exact False.elim hq
 | error ev =>
  obtain ⟨a,C,t,B,H2,rfl,os,bare,un,hok,third,air,na,na',Dc,eC,hsub,hk⟩:=hq
  cases eC
  rw [← hEE]
  have ff:=air.ff
  rw [hst] at air
  refine air_note (L:=X.env.locals) air (by rw [← hst]; exact I.ok.frames) hfr fun h3 air3 up3=>?_
  refine air_land (s:={ s' with heap:=h3 }) air3 fun h4 air4 up4=>?_
  have up34:=up3.trans up4
  have ht:∀ b o,s1.heap.get? b=some o→b ≠ a:=fun b o q z=>by rw [z,na] at q; cases q
  have aL:a ≠ X.env.locals:=by
   obtain ⟨m,⟨oL,_,_,hoL,_⟩,_⟩:=I1.loc
   exact (ht _ _ hoL).symm
  have aF:a ∉ X.fs:=fun z=>by
   obtain ⟨_,o,ho,_⟩:=I1.funs.mem z
   exact ht _ _ ho rfl
  have inv:∀ (h':Heap) (tk:Nat),Air B (X.env :: X.outer) a C t h'→s'.heap.UpToSlots h'→Inv X pins σ H2 { s' with heap:=h' }:=fun h' tk air' up' =>
   I1.call' (s':={ s' with heap:=h' }) (ch:=[]) os (un_up un third ff (by rw [hst]; exact air') up') (hok.kept air'.st) bare (fun b z=>absurd z (by simp))
  obtain ⟨hd4,he4,_⟩:=air4.ob
  have J4:=(inv h4 0 air4 up34).suite he4 na' aL aF
  refine wpAny_handleBy_cons (codeAny_handlers_test (ld_glob J4 hgC hmC ?_ d3)) (by intro z; cases z)
  refine exc_match (K:=X.K) J4.kIn he4 tyM bM hsub ?_
  refine codeAny_handlers_suite_as ?_
  refine air_land (s:={ s' with heap:=h4 }) air4 fun h5 air5 up5=>?_
  obtain ⟨hd5,he5,_⟩:=air5.ob
  have J5:=(inv h5 0 air5 (up34.trans up5)).suite he5 na' aL aF
  refine store_ok (X:=cxS X a C t hd5) J5 hN hj (.inl kn) (v:=.ref a) rfl (fun s6 J6=>?_) (.inr kn)
  have rh:RoomH kk (cxS X a C t hd5).A a:=⟨rfl,hr2.dp,hr2.un⟩
  have body:PSs (cxS X a C t hd5) [.Assign [.Name y py] (.Call (.Name kf kp) [.Name n np2] [] kpos) ypos] _ :=
   jb5 (je4 (i:=l) hN hl (.inl ky) (pe_callH (X:=cxS X a C t hd5) (D:=C) (t:=t) (hd:=hd5) G rh List.mem_cons_self hgk hmk hkk hbk (ja2 (pe_var (i:=j) hj (.inl kn) d4 d5) ja8 he2) d2 he2 rfl) hs2 (.inr ky))
  have hjl:j < σ.length:=by rw [I1.len]; exact (List.getElem?_eq_some_iff.mp hj).1
  have run:=body pins s6 (σ.set j (some (.ref a))) H2 { nx:=fun σ3 H3=>D.nx (σ3.set j none) H3,rt:=fun _ _=>False } J6 ⟨.ref a,by rw [List.getElem?_set_self hjl],hk a na'⟩
  refine wpAny_mono run (fun fl s7 hs7=>?_) fun _ _ z=>False.elim z
  cases fl with
  | ret u=>obtain ⟨_,_,_,_,_,z⟩:=hs7; exact False.elim z
  | brk=>obtain ⟨_,_,_,z⟩:=hs7; exact False.elim z
  | cont=>obtain ⟨_,_,_,z⟩:=hs7; exact False.elim z
  | next =>
   obtain ⟨σ7,H7,J7,q7⟩:=hs7
   have I7:Inv X pins σ7 H7 s7:=Inv.unsuite I.ok J7
   obtain ⟨m,hn,hlk⟩:=id I7.loc
   refine wpAny_nameGoes_keeps kn hn (by rw [I.ok.kind]; rfl) fun h8 v hn8 hs8=>?_
   exact ⟨σ7.set j none,H7,inv_goes I7 hN hj hn hlk hn8 hs8,q7⟩
end L2
namespace KG
open PySem
def Bd (k:Nat) (n:Int):Prop:=n.natAbs < 2 ^ k
theorem Bd.mono {j k:Nat} {n:Int} (h:Bd j n) (hj:j ≤ k):Bd k n:=Nat.lt_of_lt_of_le h (Nat.pow_le_pow_right (by decide) hj)
theorem Bd.le {k:Nat} {a b:Int} (h:Bd k b) (hl:a.natAbs ≤ b.natAbs):Bd k a:=Nat.lt_of_le_of_lt hl h
theorem Bd.log {k:Nat} {n:Int} (h:Bd k n) (hk:k ≤ 8999):n.natAbs.log2 < 9000:=by
 by_cases h0:n.natAbs=0
 ·rw [h0]; decide +kernel
 ·exact (Nat.log2_lt h0).mpr (Nat.lt_of_lt_of_le h (Nat.pow_le_pow_right (by decide) (by omega)))
def sg (t u:Int):Int:=if u < 0 then -(Int.gcd t u:Int) else (Int.gcd t u:Int)
def nx (t u:Int):Int:=t.fdiv (sg t u)
def ny (t u:Int):Int:=u.fdiv (sg t u)
theorem nf_spec {t u:Int} (h:u ≠ 0):nx t u * u=t * ny t u∧0 < ny t u∧Int.gcd (nx t u) (ny t u)=1∧sg t u ≠ 0∧(nx t u).natAbs ≤ t.natAbs∧(ny t u).natAbs ≤ u.natAbs:=by
 have g0:0 < Int.gcd t u:=Int.gcd_pos_of_ne_zero_right t h
 obtain ⟨a,ha⟩:(Int.gcd t u:Int) ∣ t:=Int.gcd_dvd_left ..
 obtain ⟨b,hb⟩:(Int.gcd t u:Int) ∣ u:=Int.gcd_dvd_right ..
 generalize hg:Int.gcd t u=g at *
 have hc:Int.gcd a b=1:=by
  have e:Int.gcd t u=Int.gcd ((g:Int) * a) ((g:Int) * b):=by rw [← ha,← hb]
  rw [hg,Int.gcd_mul_left] at e
  simp at e
  have e2:g * 1=g * Int.gcd a b:=by rw [Nat.mul_one]; exact e
  exact (Nat.eq_of_mul_eq_mul_left g0 e2).symm
 have gp:(0:Int) < g:=by omega
 have la:a.natAbs ≤ t.natAbs:=by
  rw [ha,Int.natAbs_mul]; simp
  exact Nat.le_mul_of_pos_left _ g0
 have lb:b.natAbs ≤ u.natAbs:=by
  rw [hb,Int.natAbs_mul]; simp
  exact Nat.le_mul_of_pos_left _ g0
 unfold nx ny sg
 rw [hg]
 by_cases hu:u < 0
 ·rw [if_pos hu]
  have dn:(-(g:Int)) ≠ 0:=by omega
  have e1:t.fdiv (-(g:Int))=-a:=by
   have:t=(-(g:Int)) * (-a):=by rw [Int.neg_mul_neg]; exact ha
   rw [this,Int.mul_fdiv_cancel_left _ dn]
  have e2:u.fdiv (-(g:Int))=-b:=by
   have:u=(-(g:Int)) * (-b):=by rw [Int.neg_mul_neg]; exact hb
   rw [this,Int.mul_fdiv_cancel_left _ dn]
  rw [e1,e2]
  refine ⟨?_,?_,by rw [Int.neg_gcd,Int.gcd_neg]; exact hc,dn,by rw [Int.natAbs_neg]; exact la,by rw [Int.natAbs_neg]; exact lb⟩
  ·have q:a * u=t * b:=by rw [hb,ha]; rw [Int.mul_left_comm,Int.mul_assoc]
   rw [Int.neg_mul,q,Int.mul_neg]
  ·rcases Int.lt_or_le b 0 with z | z
   ·omega
   ·have:0 ≤ (g:Int) * b:=Int.mul_nonneg (by omega) z
    omega
 ·rw [if_neg hu]
  have dn:(g:Int) ≠ 0:=by omega
  have e1:t.fdiv (g:Int)=a:=by rw [ha,Int.mul_fdiv_cancel_left _ dn]
  have e2:u.fdiv (g:Int)=b:=by rw [hb,Int.mul_fdiv_cancel_left _ dn]
  rw [e1,e2]
  refine ⟨?_,?_,hc,dn,la,lb⟩
  ·rw [hb,ha,Int.mul_left_comm,Int.mul_assoc]
  ·rcases Int.lt_or_le 0 b with z | z
   ·exact z
   ·have:(g:Int) * b ≤ 0:=Int.mul_nonpos_of_nonneg_of_nonpos (by omega) z
    omega
theorem fmod_lt {a c:Int} (h:c ≠ 0):(a.fmod c).natAbs < c.natAbs:=by
 rcases Int.lt_or_gt_of_ne h with z | z
 ·have e:(-a).fmod (-c)=-(a.fmod c):=Int.neg_fmod_neg a c
  have h1:=Int.fmod_nonneg_of_pos (-a) (show 0 < -c by omega)
  have h2:=Int.fmod_lt_of_pos (-a) (show 0 < -c by omega)
  omega
 ·have h1:=Int.fmod_nonneg_of_pos a z
  have h2:=Int.fmod_lt_of_pos a z
  omega
theorem gcd_fmod {a c:Int}:Int.gcd c (a.fmod c)=Int.gcd a c:=by
 rw [Int.gcd_comm a c,Int.fmod_def,Int.gcd_sub_mul_left_right]
end KG
namespace L2
open PySem PySem.Spec PyProof.Rows KG
section
variable {X:Cx}
theorem op_fdivBN:OpR X (binaryOp .FloorDiv) (rI (fun _ j=>j ≠ 0∧Bd 8000 j) fun i j=>.int (i.fdiv j)):=opI fun _ _ _ _ _ _ _ hc q=>floordiv_int hc.1 q (.inl (PyProof.noPylong_of_log2 (hc.2.log (by decide))))
end
end L2
namespace KG
open PySem L2
end KG
namespace L2
open PySem PySem.Spec PyProof.Rows
def gLst (K:PySem.W.Frag) (n:Nat) (t:TGs):TG:=fun v σ H Q=>∃ a xs,v=.ref a∧SqL K H a xs∧xs.length=n∧t xs σ H Q
theorem pg_lst {X:Cx} {es:List Expr} {k:Nat} {t:TGs} {n:Nat} {pos:Pos} (hc:X.calm=true) (h:PGs X es t)
  (hn:(assignEach es X.env).length=n:=by rfl) (hst:(assignEach es X.env).findIdx? (·.1)=none:=by rfl):PG X (.Tuple es k pos) (gLst X.K n t):=by
 intro pins s σ H v u Q I r hw
 obtain ⟨a,xs,e1,hq,hl,hw⟩:=hw
 subst e1
 cases r
 obtain ⟨its,rv,ht,hz⟩:=I.list hq
 rw [assign_Tuple]
 refine wpAny_bind (wpAny_standAt ?_)
 unfold unpack
 rw [hn,hst]
 have hsz:n=its.toArray.size:=by rw [List.size_toArray,← rv.length,hl]
 rw [hsz]
 refine wpAny_bind (wpAny_holding (PySem.W.kun_itemsOf (I.ok.hd hc) ht.isList fun h' hx=>?_))
 have I1:Inv X pins σ H { s with heap:=h' }:=I.kept (t':=s.toks) fun b o e=>hx b o (Nat.ne_of_lt (Heap.lt_size e)) e
 exact h pins _ σ H xs _ Q I1 (by simpa using rv) hw
theorem pIsi {X:Cx} {e:Expr} {te:TE} (K:PySem.W.Frag) {T:Str} {n:String} {p p2 pos:Pos} (he:PE X e te) (hg:Gl X "isinstance") (hm:X.mg "isinstance"=none) (hgT:Gl X T) (hmT:X.mg T=none) (hv:bootBuiltins T=some (.type n))
  (hb:bootBuiltins "isinstance"=some (.builtin "isinstance")) (h:X.K=K:=by rfl) (hnT:T ≠ "__name__":=by decide) (hdT:(T == ("__debug__" : Str))=false:=by decide)
  (hs:starEach [e,.Name T p2] X.env=[(false,eval e X.env),(false,eval (.Name T p2) X.env)]:=by rfl)
  (hpl:(backTo pos (starEach [.Name T p2] X.env)).any (·.1)=false:=by rfl):PE X (.Call (.Name "isinstance" p) [e,.Name T p2] [] pos) (tIsi K (.type n) te):=by
 subst h; exact pe_isiB he hg hm hgT hmT hv hb hnT hdT hs hpl
end L2
namespace L2
open PySem PySem.Spec PyProof.Rows EX
section
variable {X:Cx} {st:Stmt} {sts:List Stmt} {t u:TX}
end
end L2
namespace KM
open PySem L2 KG EX
def tyD:PyData→String
 | .none=>"NoneType"
 | .bool _=>"bool"
 | .int _=>"int"
 | .str _=>"str"
 | .list _=>"list"
 | .tuple _=>"tuple"
 | .dict _=>"dict"
def isI:PyData→Bool
 | .int _=>true
 | .bool _=>true
 | _=>false
def isB:PyData→Bool
 | .bool _=>true
 | _=>false
def isT:PyData→Bool
 | .tuple _=>true
 | _=>false
structure IsK (K:PySem.W.Frag):Prop where
 i1:PySem.W.kitOne K (.type "NoneType") (.type "int")=some false
 i2:PySem.W.kitOne K (.type "bool") (.type "int")=some true
 i3:PySem.W.kitOne K (.type "int") (.type "int")=some true
 i4:PySem.W.kitOne K (.type "str") (.type "int")=some false
 i5:PySem.W.kitOne K (.type "list") (.type "int")=some false
 i6:PySem.W.kitOne K (.type "tuple") (.type "int")=some false
 b1:PySem.W.kitOne K (.type "NoneType") (.type "bool")=some false
 b2:PySem.W.kitOne K (.type "bool") (.type "bool")=some true
 b3:PySem.W.kitOne K (.type "int") (.type "bool")=some false
 b4:PySem.W.kitOne K (.type "str") (.type "bool")=some false
 b5:PySem.W.kitOne K (.type "list") (.type "bool")=some false
 b6:PySem.W.kitOne K (.type "tuple") (.type "bool")=some false
 t1:PySem.W.kitOne K (.type "NoneType") (.type "tuple")=some false
 t2:PySem.W.kitOne K (.type "bool") (.type "tuple")=some false
 t3:PySem.W.kitOne K (.type "int") (.type "tuple")=some false
 t4:PySem.W.kitOne K (.type "str") (.type "tuple")=some false
 t5:PySem.W.kitOne K (.type "list") (.type "tuple")=some false
 t6:PySem.W.kitOne K (.type "tuple") (.type "tuple")=some true
theorem isi {K:PySem.W.Frag} (Z:IsK K) {b:Addr} {H:Hp} {v:V} {d:PyData} (h:TrV b H v d):∃ t,TyOf K H v t∧PySem.W.kitOne K t (.type "int")=some (isI d):=by
 cases h with
 | non=>exact ⟨_,.non,Z.i1⟩
 | bl c=>exact ⟨_,.bl _,Z.i2⟩
 | int c=>exact ⟨_,.int _,Z.i3⟩
 | str x ok=>exact ⟨_,.str _,Z.i4⟩
 | lst n e t=>exact ⟨_,.lst e,Z.i5⟩
 | tup e t=>exact ⟨_,.tup e,Z.i6⟩
theorem isb {K:PySem.W.Frag} (Z:IsK K) {b:Addr} {H:Hp} {v:V} {d:PyData} (h:TrV b H v d):∃ t,TyOf K H v t∧PySem.W.kitOne K t (.type "bool")=some (isB d):=by
 cases h with
 | non=>exact ⟨_,.non,Z.b1⟩
 | bl c=>exact ⟨_,.bl _,Z.b2⟩
 | int c=>exact ⟨_,.int _,Z.b3⟩
 | str x ok=>exact ⟨_,.str _,Z.b4⟩
 | lst n e t=>exact ⟨_,.lst e,Z.b5⟩
 | tup e t=>exact ⟨_,.tup e,Z.b6⟩
theorem ist {K:PySem.W.Frag} (Z:IsK K) {b:Addr} {H:Hp} {v:V} {d:PyData} (h:TrV b H v d):∃ t,TyOf K H v t∧PySem.W.kitOne K t (.type "tuple")=some (isT d):=by
 cases h with
 | non=>exact ⟨_,.non,Z.t1⟩
 | bl c=>exact ⟨_,.bl _,Z.t2⟩
 | int c=>exact ⟨_,.int _,Z.t3⟩
 | str x ok=>exact ⟨_,.str _,Z.t4⟩
 | lst n e t=>exact ⟨_,.lst e,Z.t5⟩
 | tup e t=>exact ⟨_,.tup e,Z.t6⟩
theorem tupCase {b:Addr} {H:Hp} {v:V} {d:PyData} (h:TrV b H v d):isT d=false ∨ ∃ a xs ds,v=.ref a∧d=.tuple ds∧H a=some (.tup xs)∧TrVs b H xs ds:=by
 cases h with
 | non=>exact .inl rfl
 | bl c=>exact .inl rfl
 | int c=>exact .inl rfl
 | str x ok=>exact .inl rfl
 | lst n e t=>exact .inl rfl
 | tup e t=>exact .inr ⟨_,_,_,rfl,rfl,e,t⟩
theorem intCase {b:Addr} {H:Hp} {v:V} {d:PyData} (h:TrV b H v d):isWhole d=false ∨ ∃ i,v=.int i∧d=.int i:=by
 cases h with
 | non=>exact .inl rfl
 | bl c=>exact .inl rfl
 | int c=>exact .inr ⟨_,rfl,rfl⟩
 | str x ok=>exact .inl rfl
 | lst n e t=>exact .inl rfl
 | tup e t=>exact .inl rfl
theorem isWhole_eq (d:PyData):isWhole d=(isI d && !isB d):=by cases d <;> rfl
theorem within_no {lo hi:Int} {d:PyData} (h:isWhole d=false):within lo hi d=false:=by cases d <;> first | rfl | cases h
theorem isFrac_no {d:PyData} (h:isT d=false):isFrac d=false:=by cases d <;> first | rfl | cases h
theorem isRow_no {n:Nat} {lo hi:Int} {d:PyData} (h:isT d=false):isRow n lo hi d=false:=by cases d <;> first | rfl | cases h
theorem isMk_no {d:PyData} (h:isT d=false):isMk d=false:=by cases d <;> first | rfl | cases h
def spT (m:PyData→Bool):Sp:=fun vs H Q _=>∃ (b:Addr) (v:V) (d:PyData),vs=[v]∧TrV b H v d∧∀ H',Stay H H'→Q (.bl (m d)) H'
def spGcd:Sp:=fun vs H Q _=>∃ (t u:Int),vs=[.int t,.int u]∧0 ≤ u∧Q (.int (Int.gcd t u)) H
theorem gcd_emod {a c:Int}:Int.gcd c (a % c)=Int.gcd a c:=by
 rw [Int.gcd_comm a c,Int.emod_def,Int.gcd_sub_mul_left_right]
theorem abs_gcd {a:Int}:(if a < 0 then -a else a)=(Int.gcd a 0:Int):=by
 rw [Int.gcd_zero_right]
 split <;> omega
theorem comp_bools {K:PySem.W.Frag} {te:TE} {σ₀:St} {a acc b:Addr} {H1:Hp} {xs:List V} {ds:List PyData} {Q:VK} (m:PyData→Bool) (hT:TrVs b H1 xs ds) (ha:H1 a=some (.tup xs)) (hacc:H1 acc=none) (hl:xs.length ≤ 1000)
  (ht:∀ (x:V) (d:PyData) (H':Hp),Stay H1 H'→TrV b H' x d→d ∈ ds→∀ Z:V→Hp→Prop,(∀ H5,Stay H' H5→Z (.bl (m d)) H5)→te (σ₀.set 0 (some x)) H' Z)
  (hd:∀ H',Stay H1 H'→H' acc=some (.lst (ds.map fun d=>.bl (m d)))→Q (.ref acc) H'):tCompN (gName 0) tYes te (Itt K a) acc σ₀ H1 Q:=by
 have hlen:=hT.len
 refine comp_tup (xs:=xs) (fun i ys H'=>Stay H1 H'∧ys=(ds.take i).map fun d=>.bl (m d)) ⟨(Stay.refl H1).acc hacc,rfl⟩ (fun i ys H' _ _ q=>SqT.of (q.1 _ _ ha)) ?_ ?_
 ·rintro i x ys H' hx hy ⟨st,rfl⟩
  obtain ⟨d,hdi,hT1⟩:=hT.at hx
  have hi:i < xs.length:=(List.getElem?_eq_some_iff.mp hx).1
  refine yes_i ?_
  refine ht x d H' st (hT1.stay st) (List.mem_of_getElem? hdi) _ fun H5 st5=>?_
  refine ⟨_,st5 _ _ hy,?_,Cn.of jb1 ⟨(st.trans st5).acc hacc,?_⟩⟩
  ·rw [List.length_map,List.length_take,sz]; omega
  ·rw [List.take_add_one,hdi,List.map_append]; rfl
 ·rintro ys H' hy ⟨st,rfl⟩
  rw [hlen,List.take_length] at hy
  exact hd H' st hy
theorem all_bools {ds:List PyData} {m:PyData→Bool}:(ds.map fun d=>V.bl (m d)).all tv=ds.all m:=by
 rw [List.all_map]; rfl
theorem plain_bools {ds:List PyData} {m:PyData→Bool}:(ds.map fun d=>V.bl (m d)).all plainB=true:=by
 rw [List.all_map]; simp [Function.comp_def,plainB]
def spRow (lo hi:Int):Sp:=fun vs H Q _=>∃ (b:Addr) (v:V) (d:PyData) (n:Nat),vs=[v,.int n]∧n ≤ 6∧TrV b H v d∧∀ H',Stay H H'→Q (.bl (isRow n lo hi d)) H'
def isWs (m n:Nat):PyData→Bool
 | .tuple ds=>decide (ds.length=m) && ds.all (isRow n 0 100)
 | _=>false
def isAs (m:PyData→Bool):PyData→Bool
 | .tuple ds=>decide (1 ≤ ds.length) && decide (ds.length ≤ 6) && ds.all m
 | _=>false
theorem isWs_no {m n:Nat} {d:PyData} (h:isT d=false):isWs m n d=false:=by cases d <;> first | rfl | cases h
theorem isAs_no {m:PyData→Bool} {d:PyData} (h:isT d=false):isAs m d=false:=by cases d <;> first | rfl | cases h
def spWs:Sp:=fun vs H Q _=>∃ (b:Addr) (v:V) (d:PyData) (m n:Nat),vs=[v,.int m,.int n]∧m ≤ 6∧n ≤ 6∧TrV b H v d∧∀ H',Stay H H'→Q (.bl (isWs m n d)) H'
theorem isFrac_len {ds:List PyData} (h:ds.length ≠ 2):isFrac (.tuple ds)=false:=by
 unfold isFrac
 split
 ·next heq=>injection heq with heq; subst heq; exact absurd rfl h
 ·rfl
theorem vint_ne {a b:Nat} (h:a ≠ b):(!decide (V.int (a:Int)=V.int (b:Int)))=true:=by
 have:(a:Int) ≠ b:=by omega
 simp [this]
theorem vint_eq (a:Int):(!decide (V.int a=V.int a))=false:=by simp
theorem fracShape {d:PyData} (h:isFrac d=true):∃ t u:Int,d=.tuple [.int t,.int u]∧1 ≤ u∧Int.gcd t u=1:=by
 unfold isFrac at h
 split at h
 ·next t u=>simp at h; exact ⟨t,u,rfl,h.1,h.2⟩
 ·cases h
theorem purse_frac {d:PyData} (h:isFrac d=false):jc0 d=false:=by
 unfold jc0
 split
 ·next t u =>
  have h':(decide (1 ≤ u) && decide (Int.gcd t u=1))=false:=h
  rw [h']; rfl
 ·rfl
theorem isMk_len {ds:List PyData} (h:ds.length ≠ 3):isMk (.tuple ds)=false:=by
 unfold isMk
 split
 ·next heq=>injection heq with heq; subst heq; exact absurd rfl h
 ·rfl
theorem isMk_parts {x y z:PyData}:isMk (.tuple [x,y,z])=(isAs (within 1 60) x && isAs jc0 y && match y,x with | .tuple p,.tuple a=>isWs p.length a.length z | _,_=>false):=by
 cases x <;> first
  | (cases y <;> first
    | (cases z <;> first | rfl | (simp [isMk,isAs,isWs]))
    | (simp [isMk,isAs,isWs]))
  | (simp [isMk,isAs,isWs])
theorem isAs_shape {m:PyData→Bool} {d:PyData} (h:isAs m d=true):∃ ds,d=.tuple ds∧1 ≤ ds.length∧ds.length ≤ 6∧ds.all m=true:=by
 unfold isAs at h
 split at h
 ·next ds=>simp only [Bool.and_eq_true,decide_eq_true_eq] at h; exact ⟨ds,rfl,h.1.1,h.1.2,h.2⟩
 ·cases h
def spFrac:Sp:=fun vs H Q _=>∃ (t u:Int),vs=[.int t,.int u]∧0 < u∧u < 1073741824∧∀ (p:Addr),H p=none→Q (.ref p) (upd H p (.tup [.int (t / (Int.gcd t u:Int)),.int (u / (Int.gcd t u:Int))]))
theorem gcd_pos {t u:Int} (h:0 < u):0 < (Int.gcd t u:Int)∧(Int.gcd t u:Int) ≤ u:=by
 have h1:0 < Int.gcd t u:=Int.gcd_pos_of_ne_zero_right t (by omega)
 have h2:(Int.gcd t u:Int) ∣ u:=Int.gcd_dvd_right ..
 exact ⟨by omega,Int.le_of_dvd h h2⟩
def spPu:Sp:=fun vs H Q _=>∃ (b:Addr),vs=[.ref b]∧Bag H b∧∀ (v:V) (d:PyData) (H':Hp),Bag H' b→Kp b H H'→TrV b H' v d→jc0 d=true→Q v H'
theorem purse_one {t:Int} (h1:1 ≤ t) (h2:t ≤ 1000000):jc0 (.tuple [.int t,.int 1])=true:=by
 show (decide ((1:Int) ≤ 1) && decide (Int.gcd t 1=1) && decide (1 ≤ t) && decide (t ≤ 1000000) && decide ((1:Int) ≤ 1000000))=true
 rw [decide_eq_true h1,decide_eq_true h2,Int.gcd_one_right]; rfl
theorem purse_low {t u:Int} (h1:1 ≤ t) (h2:t ≤ 1000000) (h3:1 ≤ u) (h4:u ≤ 1000000):jc0 (.tuple [.int (t / (Int.gcd t u:Int)),.int (u / (Int.gcd t u:Int))])=true:=by
 obtain ⟨g0,g1⟩:=gcd_pos (t:=t) (u:=u) (by omega)
 have gt:(Int.gcd t u:Int) ∣ t:=Int.gcd_dvd_left ..
 have gu:(Int.gcd t u:Int) ∣ u:=Int.gcd_dvd_right ..
 have e:Int.gcd (t / (Int.gcd t u:Int)) (u / (Int.gcd t u:Int))=1:=Int.gcd_ediv_gcd_ediv_gcd (by omega)
 have lo:∀ n:Int,1 ≤ n→n ≤ 1000000→(Int.gcd t u:Int) ∣ n→1 ≤ n / (Int.gcd t u:Int)∧n / (Int.gcd t u:Int) ≤ 1000000:=fun n n1 n2 hd=>by
  have a1:n / (Int.gcd t u:Int) * (Int.gcd t u:Int)=n:=Int.ediv_mul_cancel hd
  have a2:n / (Int.gcd t u:Int) ≤ n:=Int.ediv_le_self _ (by omega)
  have a3:0 ≤ n / (Int.gcd t u:Int):=Int.ediv_nonneg (by omega) (by omega)
  refine ⟨?_,by omega⟩
  rcases Int.lt_or_le 0 (n / (Int.gcd t u:Int)) with z | z
  ·omega
  ·have:n / (Int.gcd t u:Int)=0:=by omega
   rw [this,Int.zero_mul] at a1; omega
 obtain ⟨t1,t2⟩:=lo t h1 h2 gt
 obtain ⟨u1,u2⟩:=lo u h3 h4 gu
 show (decide _ && decide (Int.gcd _ _=1) && decide _ && decide _ && decide _)=true
 rw [decide_eq_true u1,decide_eq_true e,decide_eq_true t1,decide_eq_true t2,decide_eq_true u2]; rfl
theorem trI2 {b p:Addr} {H:Hp} {x y:Int}:TrV b (upd H p (.tup [.int x,.int y])) (.ref p) (.tuple [.int x,.int y]):=.tup jb1 (.cons (.int x) (.cons (.int y) .nil))
def spWi:Sp:=fun vs H Q _=>∃ (b:Addr) (g:Int),vs=[.ref b,.int g]∧Bag H b∧0 < g∧g ≤ 6 ∧
 ∀ (p:Addr) (ns:List Int) (H':Hp),Bag H' b→Kp b H H'→H' p=some (.tup (ns.map V.int))→(ns.length:Int)=g→(∀ n ∈ ns,0 ≤ n∧n ≤ 100)→(∃ n ∈ ns,1 ≤ n)→Q (.ref p) H'
theorem menu5b {r:Int} (h0:0 ≤ r) (h1:r < 5):∃ m:Int,atI [V.int 3,V.int 101,V.int 2,V.int 10,V.int 101] r=some (.int m)∧0 < m∧m ≤ 101:=by
 have:r=0 ∨ r=1 ∨ r=2 ∨ r=3 ∨ r=4:=by omega
 rcases this with rfl | rfl | rfl | rfl | rfl
 ·exact ⟨3,rfl,by decide,by decide⟩
 ·exact ⟨101,rfl,by decide,by decide⟩
 ·exact ⟨2,rfl,by decide,by decide⟩
 ·exact ⟨10,rfl,by decide,by decide⟩
 ·exact ⟨101,rfl,by decide,by decide⟩
theorem menu3c {r:Int} (h0:0 ≤ r) (h1:r < 3):∃ m:Int,atI [V.int 1,V.int 9,V.int 60] r=some (.int m)∧0 < m∧m ≤ 60:=by
 have:r=0 ∨ r=1 ∨ r=2:=by omega
 rcases this with rfl | rfl | rfl
 ·exact ⟨1,rfl,by decide,by decide⟩
 ·exact ⟨9,rfl,by decide,by decide⟩
 ·exact ⟨60,rfl,by decide,by decide⟩
theorem trAll {b:Addr} {H:Hp} {m:PyData→Bool}:∀ {ys:List V},(∀ y ∈ ys,∃ d,TrV b H y d∧m d=true)→∃ ds,TrVs b H ys ds∧ds.all m=true
 | [],_=>⟨[],.nil,rfl⟩
 | y :: ys,h=>by
  obtain ⟨ds,h1,h2⟩:=trAll (ys:=ys) fun z hz=>h z (List.mem_cons_of_mem _ hz)
  obtain ⟨d,h3,h4⟩:=h y List.mem_cons_self
  exact ⟨d :: ds,.cons h3 h1,by rw [List.all_cons,h4,h2]; rfl⟩
def oneD:PyData→Bool
 | .int n=>decide (1 ≤ n)
 | _=>false
def posD:PyData→Bool
 | .tuple ds=>ds.any oneD
 | _=>false
theorem all_both {α : Type} {f g:α→Bool}:∀ {xs:List α},(xs.all fun x=>f x && g x)=true→xs.all f=true∧xs.all g=true
 | [],_=>⟨rfl,rfl⟩
 | x :: xs,h=>by
  rw [List.all_cons,Bool.and_eq_true,Bool.and_eq_true] at h
  obtain ⟨h1,h2⟩:=all_both h.2
  exact ⟨by rw [List.all_cons,h.1.1,h1]; rfl,by rw [List.all_cons,h.1.2,h2]; rfl⟩
def spMk:Sp:=fun vs H Q _=>∃ (b:Addr),vs=[.ref b]∧Bag H b∧∀ (p:Addr) (am pu wi:List PyData) (H':Hp),Bag H' b→Kp b H H'→TrV b H' (.ref p) (.tuple [.tuple am,.tuple pu,.tuple wi])→isMk (.tuple [.tuple am,.tuple pu,.tuple wi])=true→wi.all posD=true→Q (.ref p) H'
def RA (_:Hp) (v:V):Prop:=∃ n:Int,v=.int n∧1 ≤ n∧n ≤ 60
def RP (H:Hp) (v:V):Prop:=∃ (a:Addr) (t u:Int),v=.ref a∧H a=some (.tup [.int t,.int u])∧jc0 (.tuple [.int t,.int u])=true
def RW (g:Int) (H:Hp) (v:V):Prop:=∃ (a:Addr) (ns:List Int),v=.ref a∧H a=some (.tup (List.map V.int ns))∧(ns.length:Int)=g∧(∀ n ∈ ns,0 ≤ n∧n ≤ 100)∧∃ n ∈ ns,1 ≤ n
theorem purseShape {d:PyData} (h:jc0 d=true):∃ t u:Int,d=.tuple [.int t,.int u]:=by
 unfold jc0 at h
 split at h
 ·exact ⟨_,_,rfl⟩
 ·cases h
theorem RP.of {b:Addr} {H:Hp} {v:V} {d:PyData} (h:TrV b H v d) (hp:jc0 d=true):RP H v:=by
 obtain ⟨t,u,rfl⟩:=purseShape hp
 cases h with
 | tup ha hs =>
 cases hs with
 | cons hx hs =>
 cases hs with
 | cons hy hs =>
 cases hs
 cases hx
 cases hy
 exact ⟨_,t,u,rfl,ha,hp⟩
theorem RA.tr {b:Addr} {H:Hp} {v:V} (h:RA H v):∃ d,TrV b H v d∧within 1 60 d=true:=by
 obtain ⟨n,rfl,h1,h2⟩:=h
 exact ⟨.int n,.int n,by show (decide _ && decide _)=true; rw [decide_eq_true h1,decide_eq_true h2]; rfl⟩
theorem RP.tr {b:Addr} {H:Hp} {v:V} (h:RP H v):∃ d,TrV b H v d∧jc0 d=true:=by
 obtain ⟨a,t,u,rfl,h1,h2⟩:=h
 exact ⟨_,.tup h1 (.cons (.int t) (.cons (.int u) .nil)),h2⟩
theorem trInts {b:Addr} {H:Hp}:∀ ns:List Int,TrVs b H (ns.map V.int) (ns.map PyData.int)
 | []=>.nil
 | n :: ns=>.cons (.int n) (trInts ns)
theorem all_within {lo hi:Int} {ns:List Int} (h:∀ n ∈ ns,lo ≤ n∧n ≤ hi):(ns.map PyData.int).all (within lo hi)=true:=by
 rw [List.all_map,List.all_eq_true]
 intro n hn
 obtain ⟨h1,h2⟩:=h n hn
 show (decide _ && decide _)=true
 rw [decide_eq_true h1,decide_eq_true h2]; rfl
theorem RW.tr {b:Addr} {H:Hp} {v:V} {g:Nat} (h:RW g H v):∃ d,TrV b H v d∧(isRow g 0 100 d && posD d)=true:=by
 obtain ⟨a,ns,rfl,h1,h2,h3,n,hn,hp⟩:=h
 refine ⟨_,.tup h1 (trInts ns),?_⟩
 have e1:isRow g 0 100 (.tuple (ns.map PyData.int))=true:=by
  show (decide _ && _)=true
  rw [decide_eq_true (show (ns.map PyData.int).length=g by rw [List.length_map]; omega),all_within h3]; rfl
 have e2:posD (.tuple (ns.map PyData.int))=true:=List.any_eq_true.mpr ⟨.int n,List.mem_map.mpr ⟨n,hn,rfl⟩,by show decide (1 ≤ n)=true; exact decide_eq_true hp⟩
 rw [e1,e2]; rfl
theorem isMk_of {a p w:List PyData} (h1:1 ≤ a.length) (h2:a.length ≤ 6) (h3:a.all (within 1 60)=true) (h4:1 ≤ p.length) (h5:p.length ≤ 6) (h6:p.all jc0=true) (h7:w.length=p.length) (h8:w.all (isRow a.length 0 100)=true):isMk (.tuple [.tuple a,.tuple p,.tuple w])=true:=by
 show (decide _ && decide _ && _ && (decide _ && decide _ && _) && (decide _ && _))=true
 rw [decide_eq_true h1,decide_eq_true h2,h3,decide_eq_true h4,decide_eq_true h5,h6,decide_eq_true h7,h8]; rfl
theorem isMk_out {a p w:List PyData} (h:isMk (.tuple [.tuple a,.tuple p,.tuple w])=true):1 ≤ a.length∧a.length ≤ 6∧a.all (within 1 60)=true∧1 ≤ p.length∧p.length ≤ 6∧p.all jc0=true∧w.length=p.length∧w.all (isRow a.length 0 100)=true:=by
 have h':(decide (1 ≤ a.length) && decide (a.length ≤ 6) && a.all (within 1 60) && (decide (1 ≤ p.length) && decide (p.length ≤ 6) && p.all jc0) && (decide (w.length=p.length) && w.all (isRow a.length 0 100)))=true:=h
 simp only [Bool.and_eq_true,decide_eq_true_eq] at h'
 obtain ⟨⟨⟨⟨h1,h2⟩,h3⟩,⟨h4,h5⟩,h6⟩,h7,h8⟩:=h'
 exact ⟨h1,h2,h3,h4,h5,h6,h7,h8⟩
theorem Bag.stay {b:Addr} {H H':Hp} (h:Bag H b) (s:Stay H H'):Bag H' b:=by obtain ⟨c,d,e⟩:=h; exact ⟨c,d,s _ _ e⟩
end KM
namespace KM
open PySem L2 KG EX
structure Nm (mg:Str→Option Value):Prop where
 len:mg "len"=none
 range:mg "range"=none
 tuple:mg "tuple"=none
 list:mg "list"=none
 all:mg "all"=none
 any:mg "any"=none
 max:mg "max"=none
 min:mg "min"=none
 sum:mg "sum"=none
 abs:mg "abs"=none
 int:mg "int"=none
 isinstance:mg "isinstance"=none
 bool:mg "bool"=none
 enumerate:mg "enumerate"=none
 valueError:mg "ValueError"=none
theorem boot_value:bootBuiltins "ValueError"=some (.type "ValueError"):=by first | rfl | kernel_rfl | decide +kernel
structure CalX (K:PySem.W.Frag) (mg:Str→Option Value) (P:Program) (w:World) (base:Heap) (x:Str) (k:Nat) (ps:List Str) (sp:Sp) (f:Addr) (fd:FuncData):Prop where
 ok:FnOk P w K mg base (CXF P w) k f fd ps sp
 mg:mg x=some (.ref f)
 kp:PySem.W.keepIn K (.ref f)=true
 bd:Binds K fd ps []
structure CalH (K:PySem.W.Frag) (mg:Str→Option Value) (P:Program) (w:World) (base:Heap) (x:Str) (k:Nat) (ps:List Str) (sp:Addr→Addr→Sp) (f:Addr) (fd:FuncData):Prop where
 ok:FnH P w K mg base k f fd ps sp
 mg:mg x=some (.ref f)
 kp:PySem.W.keepIn K (.ref f)=true
 bd:Binds K fd ps []
end KM
namespace L2
open PySem PySem.Spec PyProof.Rows
section
variable {κ : Type} [DecidableEq κ]
end
section
variable {P:Program} {w:World} {H:Hp} {h:Heap} {a:Addr}
end
section
variable {X:Cx} {pins:List (Addr × Obj)} {σ:St} {H:Hp} {s:Shared} {a:Addr} {y v:V} {u r:Value} {o:Option V} {A:Around} {E:Value→Shared→Prop}
end
section
variable {X:Cx} {pins:List (Addr × Obj)} {σ:St} {H:Hp} {s:Shared} {a:Addr} {kvs:List (Key × V)} {k:Key} {u:Value} {A:Around} {E:Value→Shared→Prop}
end
section
variable {X:Cx} {o i e value:Expr} {pos pos' tpos:Pos} {td ty tv:TE}
end
section
variable {X:Cx} {pos:Pos}
end
section
variable {X:Cx} {pins:List (Addr × Obj)} {σ:St} {H:Hp} {s:Shared} {a:Addr} {y d:V} {u r:Value} {o:Option V} {A:Around} {E:Value→Shared→Prop}
end
section
variable {X:Cx} {o e f:Expr} {apos cpos:Pos} {td ty tx:TE}
end
section
variable {X:Cx} {pins:List (Addr × Obj)} {σ:St} {H:Hp} {s:Shared} {a:Addr} {kvs:List (Key × V)} {A:Around} {E:Value→Shared→Prop}
end
section
variable {X:Cx} {pins:List (Addr × Obj)} {σ:St} {H:Hp} {s:Shared} {a:Addr} {y:V} {u:Value} {A:Around} {E:Value→Shared→Prop}
end
end L2
namespace L2
open PySem PySem.Spec PyProof.Rows
section
variable {X:Cx}
end
section
variable {κ : Type} [DecidableEq κ]
end
end L2
namespace L2
open PySem PySem.Spec PyProof.Rows
section
variable {X:Cx} {scope:Scope} {own cap:List Str} {ix:List Nat} {tg iter kx vx:Expr} {ifs:List Expr} {wi:TI} {g:TG} {tt:TT} {tk tv:TE} {pos:Pos}
end
end L2
namespace L2
open PySem PySem.Spec PyProof.Rows
section
variable {X:Cx}
end
end L2
namespace PySem
theorem upd_pair {prog:Program} {w:World} {A:Around} {E:Value→Shared→Prop} {s:Shared} {T:Addr} {a b x:Value} {k:Nat} {Q:Unit→Shared→Prop} (hT:IsPair s.heap T a b)
  (q:∀ g,g.get? T=some { cls:=.type "tuple",data:=.seq ((#[a,b]:Array Value).setIfInBounds k x) }→Heap.SameBut T s.heap g→Q () { s with heap:=g }):wpAny (model prog w) A (updateSeq T (·.setIfInBounds k x)) Q E s :=
 wpAny_updateSeq_pair hT q
section
variable {prog:Program} {w:World} {A:Around} {E:Value→Shared→Prop} {s:Shared} {z TI TO i1 i2 l1 l2:Addr} {k1 k2:Nat} {xs ys:Array Value} {x y a b:Value}
theorem jf9 {h g:Heap} {it l c:Addr} {i:Nat} (t:h.IsTupleIter it l i) (sb:Heap.ExtBut c h g) (ne:it ≠ c):g.IsTupleIter it l i:=let ⟨o,e,r⟩:=t; ⟨o,sb it o ne e,r⟩
theorem tup_but {h g:Heap} {l c:Addr} {v:Array Value} (t:h.IsTuple l v) (sb:Heap.ExtBut c h g) (ne:l ≠ c):g.IsTuple l v:=let ⟨o,e,r⟩:=t; ⟨o,sb l o ne e,r⟩
theorem zipT_next {Q:Value→Shared→Prop} (D:ZipApart z TI TO i1 i2 l1 l2) (hz:IsZip s.heap z TI TO .none) (pI:IsPair s.heap TI (.ref i1) (.ref i2)) (pO:IsPair s.heap TO a b)
  (t1:s.heap.IsTupleIter i1 l1 k1) (t2:s.heap.IsTupleIter i2 l2 k2) (u1:s.heap.IsTuple l1 xs) (u2:s.heap.IsTuple l2 ys) (hx:xs[k1]?=some x) (hy:ys[k2]?=some y)
  (q:∀ g,IsZip g z TI TO (rawInt s.heap.objs.size)→IsPair g TO x y→g.IsTupleIter i1 l1 (k1 + 1)→g.IsTupleIter i2 l2 (k2 + 1)→IsPair g s.heap.objs.size x y →
   (∀ c o,c ≠ z→c ≠ TO→c ≠ i1→c ≠ i2→s.heap.get? c=some o→g.get? c=some o)→Q (.ref s.heap.objs.size) { s with heap:=g }) :
  wpAny (model prog w) A (Builtin.«zip.__next__» ⟨[.ref z],[]⟩) (fun fin s'=>∃ v,fin=.done (.ret v)∧Q v s') E s:=by
 show wpAny _ _ (field (.ref z) 2 >>= _) _ _ _; refine wpAny_bind (wpAny_field hz rfl (x:=.bool false) rfl ?_)
 show wpAny _ _ (field (.ref z) 3 >>= _) _ _ _; refine wpAny_bind (wpAny_field hz rfl (x:=.ref TI) rfl (wpAny_bind (wpAny_seqItems pI rfl ?_)))
 show wpAny _ _ (Builtin.SmallTypes.ownedTupleIsFree (.ref z) >>= _) _ _ _; refine wpAny_bind ?_; unfold Builtin.SmallTypes.ownedTupleIsFree
 refine wpAny_bind (wpAny_field hz rfl (x:=.none) rfl (wpAny_pure ?_)); simp only [if_true]
 refine wpAny_bind (wpAny_rule (wpAny_bind (wpAny_field hz rfl (x:=.ref TO) rfl ?_)))
 refine wpAny_bind (wpAny_setField_rec hz (by simp) fun g1 z1 b1=>?_); replace z1:IsZip g1 z TI TO .ellipsis:=z1; refine wpAny_bind ?_
 simp only [List.zipIdx_cons,List.zipIdx_nil,List.forIn_cons,List.forIn_nil]; refine wpAny_bind (wpAny_bind (wpAny_onRaise ?_))
 show wpAny _ _ (Builtin.SmallTypes.nextOf (.ref i1) >>= _) _ _ _; refine wpAny_bind (nextOf_tup_item (jf9 t1 b1.extBut D.i1z) (tup_but u1 b1.extBut D.l1z) hx fun g2 n1 b2=>wpAny_pure ?_)
 have o2:IsPair g2 TO a b:=b2.extBut _ _ D.TOi1 (b1.extBut _ _ D.TOz pO)
 refine wpAny_bind (wpAny_seqItems o2 rfl (wpAny_bind (upd_pair o2 fun g3 o3 b3=>wpAny_bind (wpAny_letGo (wpAny_pure ?_)))))
 replace o3:IsPair g3 TO x b:=o3
 refine wpAny_bind (wpAny_bind (wpAny_onRaise ?_)); show wpAny _ _ (Builtin.SmallTypes.nextOf (.ref i2) >>= _) _ _ _
 refine wpAny_bind (nextOf_tup_item (jf9 (jf9 (jf9 t2 b1.extBut D.i2z) b2.extBut D.i12.symm) b3.extBut D.TOi2.symm) (tup_but (tup_but (tup_but u2 b1.extBut D.l2z) b2.extBut D.l2i1) b3.extBut D.l2TO) hy fun g4 n2 b4=>wpAny_pure ?_)
 have o4:IsPair g4 TO x b:=b4.extBut _ _ D.TOi2 o3
 refine wpAny_bind (wpAny_seqItems o4 rfl (wpAny_bind (upd_pair o4 fun g5 o5 b5=>wpAny_bind (wpAny_letGo (wpAny_pure (wpAny_pure ?_))))))
 replace o5:IsPair g5 TO x y:=o5
 refine wpAny_bind (wpAny_seqItems o5 rfl (wpAny_bind (wpAny_newTuple ?_)))
 have sz:g5.objs.size=s.heap.objs.size:=by rw [b5.1,b4.1,b3.1,b2.1,b1.1]
 have z5:IsZip g5 z TI TO .ellipsis:=b5.extBut _ _ D.TOz.symm (b4.extBut _ _ D.i2z.symm (b3.extBut _ _ D.TOz.symm (b2.extBut _ _ D.i1z.symm z1)))
 have k5:∀ c o,c ≠ z→c ≠ TO→c ≠ i1→c ≠ i2→s.heap.get? c=some o→g5.get? c=some o:=fun c o e1 e2 e3 e4 e=>b5.extBut _ _ e2 (b4.extBut _ _ e4 (b3.extBut _ _ e2 (b2.extBut _ _ e3 (b1.extBut _ _ e1 e))))
 have m1:g5.IsTupleIter i1 l1 (k1 + 1):=jf9 (jf9 (jf9 n1 b3.extBut D.TOi1.symm) b4.extBut D.i12) b5.extBut D.TOi1.symm
 have m2:g5.IsTupleIter i2 l2 (k2 + 1):=jf9 n2 b5.extBut D.TOi2.symm
 have zlt:z < g5.objs.size:=Heap.lt_size z5
 show wpAny _ _ (Builtin.SmallTypes.ownedTupleHandOut (.ref z) (.ref g5.objs.size) >>= _) _ _ _; refine wpAny_bind ?_; unfold Builtin.SmallTypes.ownedTupleHandOut
 have z6:IsZip (g5.push { cls:=.type "tuple",data:=.seq #[x,y] }) z TI TO .ellipsis:=Heap.get?_push_of_some _ z5
 refine wpAny_bind (wpAny_setField_rec z6 (by simp) fun g7 z7 b7=>?_); replace z7:IsZip g7 z TI TO (rawInt g5.objs.size):=z7
 refine wpAny_setField_rec z7 (by simp) fun g8 z8 b8=>?_; replace z8:IsZip g8 z TI TO (rawInt g5.objs.size):=z8
 have up:∀ c o,c ≠ z→g5.get? c=some o→g8.get? c=some o:=fun c o e1 e=>b8.extBut _ _ e1 (b7.extBut _ _ e1 (Heap.get?_push_of_some _ e))
 have p8:IsPair g8 g5.objs.size x y:=b8.extBut _ _ (Nat.ne_of_gt zlt) (b7.extBut _ _ (Nat.ne_of_gt zlt) (Heap.get?_push_size _ rfl))
 rw [sz] at z8 p8
 refine wpAny_pure ⟨_,rfl,?_⟩; show Q (.ref g5.objs.size) _; rw [sz]
 exact q g8 z8 (up _ _ D.TOz o5) (let ⟨o,e,r⟩:=m1; ⟨o,up _ o D.i1z e,r⟩) (let ⟨o,e,r⟩:=m2; ⟨o,up _ o D.i2z e,r⟩) p8 fun c o e1 e2 e3 e4 e=>up c o e1 (k5 c o e1 e2 e3 e4 e)
theorem zipT_stop {Q:Fin→Shared→Prop} (hh:A.handled=none) (D:ZipApart z TI TO i1 i2 l1 l2) (hz:IsZip s.heap z TI TO .none) (pI:IsPair s.heap TI (.ref i1) (.ref i2)) (pO:IsPair s.heap TO a b)
  (t1:s.heap.IsTupleIter i1 l1 k1) (t2:s.heap.IsTupleIter i2 l2 k2) (u1:s.heap.IsTuple l1 xs) (u2:s.heap.IsTuple l2 ys) (hx:xs[k1]?=none)
  (q:∀ g e,(∀ c o,c ≠ z→c ≠ TO→c ≠ i1→c ≠ i2→s.heap.get? c=some o→g.get? c=some o)→(∃ o,g.get? e=some o∧o.cls=.type "StopIteration")→E (.ref e) { s with heap:=g }) :
  wpAny (model prog w) A (Builtin.«zip.__next__» ⟨[.ref z],[]⟩) Q E s:=by
 show wpAny _ _ (field (.ref z) 2 >>= _) _ _ _; refine wpAny_bind (wpAny_field hz rfl (x:=.bool false) rfl ?_)
 show wpAny _ _ (field (.ref z) 3 >>= _) _ _ _; refine wpAny_bind (wpAny_field hz rfl (x:=.ref TI) rfl (wpAny_bind (wpAny_seqItems pI rfl ?_)))
 show wpAny _ _ (Builtin.SmallTypes.ownedTupleIsFree (.ref z) >>= _) _ _ _; refine wpAny_bind ?_; unfold Builtin.SmallTypes.ownedTupleIsFree
 refine wpAny_bind (wpAny_field hz rfl (x:=.none) rfl (wpAny_pure ?_)); simp only [if_true]
 refine wpAny_bind (wpAny_rule (wpAny_bind (wpAny_field hz rfl (x:=.ref TO) rfl ?_)))
 refine wpAny_bind (wpAny_setField_rec hz (by simp) fun g1 z1 b1=>?_); replace z1:IsZip g1 z TI TO .ellipsis:=z1; refine wpAny_bind ?_
 simp only [List.zipIdx_cons,List.zipIdx_nil,List.forIn_cons,List.forIn_nil]; refine wpAny_bind (wpAny_bind (wpAny_onRaise ?_))
 show wpAny _ _ (Builtin.SmallTypes.nextOf (.ref i1) >>= _) _ _ _
 refine wpAny_bind (nextOf_tup_end hh (jf9 t1 b1.extBut D.i1z) (tup_but u1 b1.extBut D.l1z) hx fun g2 e b2 ⟨oe,he,ce⟩=>?_)
 have z2:IsZip g2 z TI TO .ellipsis:=b2 _ _ D.i1z.symm z1
 have ez:e ≠ z:=fun h=>by subst h; rw [z2] at he; cases he; simp at ce
 exact wpAny_setField_rec z2 (by simp) fun g3 _ b3=>q g3 e (fun c o e1 _ e3 _ h=>b3.extBut _ _ e1 (b2 _ _ e3 (b1.extBut _ _ e1 h))) ⟨oe,b3.extBut _ _ ez he,ce⟩
theorem pyNext_zipT {Q:Option Value→Shared→Prop} (D:ZipApart z TI TO i1 i2 l1 l2) (hz:IsZip s.heap z TI TO .none) (pI:IsPair s.heap TI (.ref i1) (.ref i2)) (pO:IsPair s.heap TO a b)
  (t1:s.heap.IsTupleIter i1 l1 k1) (t2:s.heap.IsTupleIter i2 l2 k2) (u1:s.heap.IsTuple l1 xs) (u2:s.heap.IsTuple l2 ys) (hx:xs[k1]?=some x) (hy:ys[k2]?=some y)
  (q:∀ g,IsZip g z TI TO (rawInt s.heap.objs.size)→IsPair g TO x y→g.IsTupleIter i1 l1 (k1 + 1)→g.IsTupleIter i2 l2 (k2 + 1)→IsPair g s.heap.objs.size x y →
   (∀ c o,c ≠ z→c ≠ TO→c ≠ i1→c ≠ i2→s.heap.get? c=some o→g.get? c=some o)→Q (some (.ref s.heap.objs.size)) { s with heap:=g }):wpAny (model prog w) A (pyNext (.ref z)) Q E s:=by
 have ty:s.TypeIs (.ref z) "zip":=⟨_,hz,rfl⟩
 unfold pyNext
 exact wpAny_bind (wpAny_attempt (wpAny_callSpecial?_slot (name:=Str.ofString "__next__") ty F.slot_zip_next (wpAny_call_entry F.slot_zip_next ty F.entry_zip_next
  (zipT_next D hz pI pO t1 t2 u1 u2 hx hy fun g a1 a2 a3 a4 a5 a6=>wpAny_pure (q g a1 a2 a3 a4 a5 a6)) (F.args_zip_next_1 _))))
theorem pyNext_zipT_end {Q:Option Value→Shared→Prop} (hh:A.handled=none) (D:ZipApart z TI TO i1 i2 l1 l2) (hz:IsZip s.heap z TI TO .none) (pI:IsPair s.heap TI (.ref i1) (.ref i2)) (pO:IsPair s.heap TO a b)
  (t1:s.heap.IsTupleIter i1 l1 k1) (t2:s.heap.IsTupleIter i2 l2 k2) (u1:s.heap.IsTuple l1 xs) (u2:s.heap.IsTuple l2 ys) (hx:xs[k1]?=none)
  (q:∀ g,(∀ c o,c ≠ z→c ≠ TO→c ≠ i1→c ≠ i2→s.heap.get? c=some o→g.get? c=some o)→Q none { s with heap:=g }):wpAny (model prog w) A (pyNext (.ref z)) Q E s:=by
 have ty:s.TypeIs (.ref z) "zip":=⟨_,hz,rfl⟩
 unfold pyNext
 exact wpAny_bind (wpAny_attempt (wpAny_callSpecial?_slot (name:=Str.ofString "__next__") ty F.slot_zip_next (wpAny_call_entry F.slot_zip_next ty F.entry_zip_next
  (zipT_stop hh D hz pI pO t1 t2 u1 u2 hx fun g e hk ⟨o,ho,hc⟩=>wpAny_bind (wpAny_isInstance (T:="StopIteration") (b:=true) ⟨o,ho,hc⟩ isSubtype_stop (wpAny_pure (q _ hk)))) (F.args_zip_next_1 _))))
end
abbrev zpA (h:Heap) (l1:Addr):Heap:=h.push { cls:=.type "tuple_iterator",data:=.fields #[.ref l1,.int 0 0] }
abbrev zpB (h:Heap) (l1 l2:Addr):Heap:=(zpA h l1).push { cls:=.type "tuple_iterator",data:=.fields #[.ref l2,.int 0 0] }
abbrev zpC (h:Heap) (l1 l2:Addr):Heap:=(zpB h l1 l2).push { cls:=.type "tuple",data:=.seq #[.ref h.objs.size,.ref (zpA h l1).objs.size] }
abbrev zpD (h:Heap) (l1 l2:Addr):Heap:=(zpC h l1 l2).push { cls:=.type "tuple",data:=.seq #[.none,.none] }
abbrev zpE (h:Heap) (l1 l2:Addr):Heap:=(zpD h l1 l2).push { cls:=.type "zip",data:=.fields #[.none,.bool false,.bool false,.ref (zpB h l1 l2).objs.size,.ref (zpC h l1 l2).objs.size] }
theorem meets_zipT (l1 l2:Addr) (xs ys:Array Value):Meets (Builtin.«zip.__new__» ⟨[.type "zip",.ref l1,.ref l2],[]⟩) (fun _ R s=>s.heap.IsTuple l1 xs∧s.heap.IsTuple l2 ys∧R (.ok (.ret (.ref (zpD s.heap l1 l2).objs.size))) { s with heap:=zpE s.heap l1 l2 }) :=
 .of_wp fun prog w A R s h=>by
  obtain ⟨hp,g,d,tk,os⟩:=s; obtain ⟨v1,v2,h⟩:=h
  have hsub:=sub_zip
  have w1:Heap.IsTuple (Shared.heap ⟨hp,g,d,tk,os⟩) l1 xs:=v1
  have w2:Heap.IsTuple (Shared.heap ⟨zpA hp l1,g,d,tk,os⟩) l2 ys:=let ⟨o,e,r⟩:=v2; ⟨o,Heap.get?_push_of_some _ e,r⟩
  wp_walk using wpAny_pyIter_tuple w1,wpAny_pyIter_tuple w2
  exact ⟨_,rfl,h⟩
theorem call_zipT {prog:Program} {w:World} {A:Around} {E:Value→Shared→Prop} {s:Shared} {l1 l2:Addr} {xs ys:Array Value} {Q:Value→Shared→Prop} (v1:s.heap.IsTuple l1 xs) (v2:s.heap.IsTuple l2 ys)
  (q:∀ g,IsZip g (s.heap.objs.size + 4) (s.heap.objs.size + 2) (s.heap.objs.size + 3) .none→IsPair g (s.heap.objs.size + 2) (.ref s.heap.objs.size) (.ref (s.heap.objs.size + 1))→IsPair g (s.heap.objs.size + 3) .none .none →
   g.IsTupleIter s.heap.objs.size l1 0→g.IsTupleIter (s.heap.objs.size + 1) l2 0→(∀ c o,s.heap.get? c=some o→g.get? c=some o)→Q (.ref (s.heap.objs.size + 4)) { s with heap:=g }):wpAny (model prog w) A (call (.type "zip") [.ref l1,.ref l2]) Q E s:=by
 refine callType_new F.called_zip (by decide) (F.typeCall_zip_2 _ _) (F.newCall_zip_2 _ _) (fun obj=>F.args_object_init_3 obj _ _) F.entry_zip_new (meets_zipT l1 l2 xs ys) ⟨v1,v2,?_⟩
 have e1:(zpA s.heap l1).objs.size=s.heap.objs.size + 1:=Heap.size_push ..
 have e2:(zpB s.heap l1 l2).objs.size=s.heap.objs.size + 2:=by rw [Heap.size_push,e1]
 have e3:(zpC s.heap l1 l2).objs.size=s.heap.objs.size + 3:=by rw [Heap.size_push,e2]
 have e4:(zpD s.heap l1 l2).objs.size=s.heap.objs.size + 4:=by rw [Heap.size_push,e3]
 have p5:(zpE s.heap l1 l2).get? (zpD s.heap l1 l2).objs.size=some _:=Heap.get?_push_size _ rfl
 have p4:(zpE s.heap l1 l2).get? (zpC s.heap l1 l2).objs.size=some _:=Heap.get?_push_of_some _ (Heap.get?_push_size _ rfl)
 have p3:(zpE s.heap l1 l2).get? (zpB s.heap l1 l2).objs.size=some _:=Heap.get?_push_of_some _ (Heap.get?_push_of_some _ (Heap.get?_push_size _ rfl))
 have p2:(zpE s.heap l1 l2).get? (zpA s.heap l1).objs.size=some _:=Heap.get?_push_of_some _ (Heap.get?_push_of_some _ (Heap.get?_push_of_some _ (Heap.get?_push_size _ rfl)))
 have p1:(zpE s.heap l1 l2).get? s.heap.objs.size=some _:=Heap.get?_push_of_some _ (Heap.get?_push_of_some _ (Heap.get?_push_of_some _ (Heap.get?_push_of_some _ (Heap.get?_push_size _ rfl))))
 show _∧_; rw [e2,e3,e4] at p5; rw [e1,e2] at p3; rw [e3] at p4; rw [e1] at p2; rw [e4]
 exact ⟨⟨_,p5,rfl⟩,q _ p5 p3 p4 ⟨_,p1,rfl,rfl⟩ ⟨_,p2,rfl,rfl⟩ fun c o h=>Heap.get?_push_of_some _ (Heap.get?_push_of_some _ (Heap.get?_push_of_some _ (Heap.get?_push_of_some _ (Heap.get?_push_of_some _ h))))⟩
end PySem
namespace L2
open PySem PySem.Spec PyProof.Rows
section
variable {X:Cx}
def Itz (K:PySem.W.Frag) (a b:Addr):It :=
 ⟨fun i H=>∃ xs ys x y,SqT K H a xs∧SqT K H b ys∧xs[i]?=some x∧ys[i]?=some y,
  fun i H v H'=>∃ p,H p=none∧v=.ref p∧∀ xs ys,SqT K H a xs→SqT K H b ys→∃ x y,xs[i]?=some x∧ys[i]?=some y∧H'=upd H p (.tup [x,y]),
  fun i H=>∃ xs ys,SqT K H a xs∧SqT K H b ys∧xs.length ≤ i⟩
theorem turn_zip {P:Program} {w:World} {K:PySem.W.Frag} {elts:List Expr} {kk} {pos:Pos} (a b z TI TO i1 i2:Addr) (D:ZipApart z TI TO i1 i2 a b) :
  Turn P w K (.Tuple elts kk pos) (Itz K a b) [z,TI,TO,i1,i2] z (fun i h=>IsZip h z TI TO .none∧IsPair h TI (.ref i1) (.ref i2)∧(∃ u v,IsPair h TO u v)∧h.IsTupleIter i1 a i∧h.IsTupleIter i2 b i) where
 mem:=by simp
 obj:=fun i h st c hc=>by
  obtain ⟨hz,pI,⟨u,v,pO⟩,⟨o1,e1,c1,d1⟩,o2,e2,c2,d2⟩:=st
  simp only [List.mem_cons,List.not_mem_nil,or_false] at hc
  rcases hc with rfl | rfl | rfl | rfl | rfl
  ·exact ⟨_,hz,fun v z=>by cases z⟩
  ·exact ⟨_,pI,fun v z=>by cases z⟩
  ·exact ⟨_,pO,fun v z=>by cases z⟩
  ·exact ⟨o1,e1,fun v z=>by rw [d1] at z; cases z⟩
  ·exact ⟨o2,e2,fun v z=>by rw [d2] at z; cases z⟩
 keep:=fun i h h' st k=>by
  obtain ⟨hz,pI,⟨u,v,pO⟩,⟨o1,e1,r1⟩,o2,e2,r2⟩:=st
  exact ⟨k z (by simp) _ hz,k TI (by simp) _ pI,⟨u,v,k TO (by simp) _ pO⟩,⟨o1,k i1 (by simp) _ e1,r1⟩,o2,k i2 (by simp) _ e2,r2⟩
 item:=by
  intro X hP hw hK hc i pins s σ H E I hf st hg
  subst hP hw hK
  obtain ⟨xs,ys,x,y,hq1,hq2,hx,hy⟩:=hg
  obtain ⟨us,ru,pu,zu⟩:=I.tuple hq1
  obtain ⟨vs,rv,pv,zv⟩:=I.tuple hq2
  obtain ⟨u,hu,rxu⟩:=ru.get hx
  obtain ⟨v,hv,ryv⟩:=rv.get hy
  obtain ⟨hz,pI,⟨u0,v0,pO⟩,t1,t2⟩:=st
  refine pyNext_zipT D hz pI pO t1 t2 (show s.heap.IsTuple a us.toArray from pu) (show s.heap.IsTuple b vs.toArray from pv) (x:=u) (y:=v) (by simpa using hu) (by simpa using hv) fun g z1 o1 n1 n2 p1 hk=>?_
  refine ⟨_,rfl,?_⟩
  refine wpAny_letOwnedTupleGo_zip z1 fun g2 z2 b2=>?_
  replace b2:Heap.SameBut z g g2:=b2
  have lt:∀ {c o},s.heap.get? c=some o→s.heap.objs.size ≠ c:=fun e=>Nat.ne_of_gt (Heap.lt_size e)
  have hne:s.heap.objs.size ≠ z:=lt hz
  have I1:Inv X pins σ H { s with heap:=g2,toks:=s.toks }:=I.turnedL (ch:=[z,TI,TO,i1,i2]) (fun c o hc q=>by
   have c1:c ≠ z:=fun h=>hc (by simp [h])
   exact b2.extBut c o c1 (hk c o c1 (fun h=>hc (by simp [h])) (fun h=>hc (by simp [h])) (fun h=>hc (by simp [h])) q)) hf
  have p2:=b2.extBut _ _ hne p1
  have fp:FpOk X pins H s.heap.objs.size:=I.fpOk (Nat.le_refl _) I.fresh
  have I2:=I1.track (p:=s.heap.objs.size) (o:=.tup [x,y]) fp ⟨by show 2 ≤ sizeLine; decide,[u,v],.cons rxu (.cons ryv .nil),⟨_,p2,rfl,_,rfl⟩⟩
  refine ⟨.ref s.heap.objs.size,_,I2,rfl,⟨_,I.fresh,rfl,fun ys1 ys2 h1 h2=>?_⟩,⟨z2,b2.extBut _ _ D.TIz (hk _ _ D.TIz D.TITO D.TIi1 D.TIi2 pI),⟨_,_,b2.extBut _ _ D.TOz o1⟩,jf9 n1 b2.extBut D.i1z,jf9 n2 b2.extBut D.i2z⟩,fun c hc=>?_⟩
  ·rw [I.tuple_inj h1 hq1,I.tuple_inj h2 hq2]; exact ⟨x,y,hx,hy,rfl⟩
  ·rw [jb3]
   ·exact (hf c hc).1
   ·simp only [List.mem_cons,List.not_mem_nil,or_false] at hc
    rcases hc with rfl | rfl | rfl | rfl | rfl
    ·exact hne.symm
    ·exact (lt pI).symm
    ·exact (lt pO).symm
    ·obtain ⟨_,e,_⟩:=t1; exact (lt e).symm
    ·obtain ⟨_,e,_⟩:=t2; exact (lt e).symm
 done:=by
  intro X hP hw hK hc i pins s σ H E I hf st hg
  subst hP hw hK
  obtain ⟨xs,ys,hq1,hq2,hx⟩:=hg
  obtain ⟨us,ru,pu,zu⟩:=I.tuple hq1
  obtain ⟨vs,rv,pv,zv⟩:=I.tuple hq2
  obtain ⟨hz,pI,⟨u0,v0,pO⟩,t1,t2⟩:=st
  have hl:=ru.length
  exact pyNext_zipT_end (I.ok.hd hc) D hz pI pO t1 t2 (show s.heap.IsTuple a us.toArray from pu) (show s.heap.IsTuple b vs.toArray from pv) (by simp; omega) fun g hk =>
   ⟨rfl,I.turnedL (t':=s.toks) (ch:=[z,TI,TO,i1,i2]) (fun c o hc q=>hk c o (fun h=>hc (by simp [h])) (fun h=>hc (by simp [h])) (fun h=>hc (by simp [h])) (fun h=>hc (by simp [h])) q) hf⟩
 self:=fun A i s Q E st h=>wpAny_pyIter_zip st.1 h
def iZip (K:PySem.W.Frag) (ta:TA):TI:=fun σ H R=>ta σ H fun vs H1=>∃ a b,vs=[.ref a,.ref b]∧(∃ xs,SqT K H1 a xs)∧(∃ ys,SqT K H1 b ys)∧R (Itz K a b) H1
end
end L2
namespace L2
open PySem PySem.Spec PyProof.Rows KG
section
variable {K:PySem.W.Frag} {tt:TT} {te tk tv:TE} {acc a b:Addr} {xs ys:List V} {σ₀:St} {H₀:Hp} {Q:VK} {o:Obj} {kvs:List (Key × V)}
end
section
variable {X:Cx}
end
end L2
namespace L2
open PySem PySem.Spec PyProof.Rows
def K0:PySem.W.Frag:=[]
section
variable {K:PySem.W.Frag} {H:Hp} {a:Addr} {xs:List V}
theorem SqL.k0 (h:SqL K0 H a xs):SqL K H a xs:=by
 rcases h with h | ⟨o,its,n,hk,_⟩
 ·exact .inl h
 ·exact absurd hk (by show ¬ (none=some o); simp)
theorem SqT.k0 (h:SqT K0 H a xs):SqT K H a xs:=by
 rcases h with h | ⟨o,its,n,hk,_⟩
 ·exact .inl h
 ·exact absurd hk (by show ¬ (none=some o); simp)
theorem Sq.k0 (h:SqL K0 H a xs ∨ SqT K0 H a xs):SqL K H a xs ∨ SqT K H a xs:=h.elim (fun z=>.inl z.k0) fun z=>.inr z.k0
mutual
theorem DtV.k0:∀ {v:V} {d:PyData},DtV K0 H v d→DtV K H v d
 | _,_,.non=>.non
 | _,_,.bl b=>.bl b
 | _,_,.int i=>.int i
 | _,_,.str x ok=>.str x ok
 | _,_,.lst h t=>.lst h.k0 (DtVs.k0 t)
 | _,_,.tup h t=>.tup h.k0 (DtVs.k0 t)
theorem DtVs.k0:∀ {vs:List V} {ds:List PyData},DtVs K0 H vs ds→DtVs K H vs ds
 | _,_,.nil=>.nil
 | _,_,.cons h t=>.cons (DtV.k0 h) (DtVs.k0 t)
end
end
section
variable {X:Cx} {tg l:Expr} {tl:TE}
theorem OpR.imp {f:Value→Value→Sem Value} {r r':R2} (h:OpR X f r) (hi:∀ x y H Q,r' x y H Q→r x y H Q):OpR X f r':=fun pins s σ H x y v u Q I rx ry q=>h pins s σ H x y v u Q I rx ry (hi _ _ _ _ q)
theorem CallR.imp {f:Value} {r r':List V→Hp→VK→Prop} (h:CallR X f r) (hi:∀ xs H Q,r' xs H Q→r xs H Q):CallR X f r':=fun pins s σ H xs us Q I rx q=>h pins s σ H xs us Q I rx (hi _ _ _ q)
theorem IxR.imp {r r':R2} (h:IxR X r) (hi:∀ x y H Q,r' x y H Q→r x y H Q):IxR X r':=fun a b pins s σ H x y v u Q I rx ry q=>h a b pins s σ H x y v u Q I rx ry (hi _ _ _ _ q)
theorem ixL0:IxR X (rIxL K0):=ix_list.imp fun _ _ _ _ ⟨p,xs,i,v,e1,e2,h,e3,q⟩=>⟨p,xs,i,v,e1,e2,h.k0,e3,q⟩
theorem ixT0:IxR X (rIxT K0):=ix_tup.imp fun _ _ _ _ ⟨p,xs,i,v,e1,e2,h,e3,q⟩=>⟨p,xs,i,v,e1,e2,h.k0,e3,q⟩
def rLen0:List V→Hp→VK→Prop:=fun xs H Q=>∃ p ys,xs=[.ref p]∧(SqL K0 H p ys ∨ SqT K0 H p ys)∧Q (.int ys.length) H
def rTup0:List V→Hp→VK→Prop:=fun xs H Q=>∃ p ys,xs=[.ref p]∧((SqL K0 H p ys∧∀ l,H l=none→Q (.ref l) (upd H l (.tup ys))) ∨ (SqT K0 H p ys∧Q (.ref p) H))
def rAll0:List V→Hp→VK→Prop:=fun xs H Q=>∃ p ys,xs=[.ref p]∧(SqL K0 H p ys ∨ SqT K0 H p ys)∧ys.all plainB=true∧Q (.bl (ys.all tv)) H
theorem cLen0:CallR X (.builtin "len") rLen0:=call_len_seq.imp fun _ _ _ ⟨p,ys,e,h,q⟩=>⟨p,ys,e,Sq.k0 h,q⟩
theorem cTup0:CallR X (.type "tuple") rTup0:=call_tuple_of.imp fun _ _ _ ⟨p,ys,e,h⟩=>⟨p,ys,e,h.elim (fun z=>.inl ⟨z.1.k0,z.2⟩) fun z=>.inr ⟨z.1.k0,z.2⟩⟩
theorem cAll0 (hc:X.calm=true):CallR X (.builtin "all") rAll0:=(call_all hc).imp fun _ _ _ ⟨p,ys,e,h,q⟩=>⟨p,ys,e,Sq.k0 h,q⟩
theorem opEqD0 (hu:X.A.units + 64 < cLine):OpR X (compareOp .Eq) (rEqD K0):=(op_eqD hu).imp fun _ _ _ _ ⟨dx,dy,h1,h2,q⟩=>⟨dx,dy,h1.k0,h2.k0,q⟩
theorem opNeD0 (hu:X.A.units + 64 < cLine):OpR X (compareOp .NotEq) (rNeD K0):=(op_neD hu).imp fun _ _ _ _ ⟨dx,dy,h1,h2,q⟩=>⟨dx,dy,h1.k0,h2.k0,q⟩
theorem opIn0:OpR X (compareOp .In) (rIn K0 false):=op_in_seq.imp fun _ _ _ _ ⟨p,xs,e,h,q⟩=>⟨p,xs,e,Sq.k0 h,q⟩
theorem slL0:SlR X (rSlL K0):=fun pins s σ H x v vl vu lo hi sl Q I rx hs pl pu ⟨a,xs,e,h,q⟩=>sl_list pins s σ H x v vl vu lo hi sl Q I rx hs pl pu ⟨a,xs,e,h.k0,q⟩
structure It.Le (J J':It):Prop where
 go:∀ i H,J'.go i H→J.go i H
 yld:∀ i H x H',J.yld i H x H'→J'.yld i H x H'
 stop:∀ i H,J'.stop i H→J.stop i H
theorem Turn.le {P:Program} {w:World} {K:PySem.W.Frag} {tg:Expr} {J J':It} {fp:List Addr} {it:Addr} {tn:Nat→Heap→Prop} (T:Turn P w K tg J fp it tn) (l:J.Le J'):Turn P w K tg J' fp it tn where
 mem:=T.mem
 obj:=T.obj
 keep:=T.keep
 item:=fun X hP hw hK hc i pins s σ H E I hf st hg=>thn (T.item X hP hw hK hc i pins s σ H E I hf st (l.go i H hg)) fun r s1 ⟨u,hr,h⟩=>⟨u,hr,thn h fun _ s2 ⟨x,H',a1,a2,a3,a4⟩=>⟨x,H',a1,a2,l.yld _ _ _ _ a3,a4⟩⟩
 done:=fun X hP hw hK hc i pins s σ H E I hf st hg=>T.done X hP hw hK hc i pins s σ H E I hf st (l.stop i H hg)
 self:=T.self
theorem le_list {K:PySem.W.Frag} {a:Addr}:(Itl K a).Le (Itl K0 a):=⟨fun i H ⟨xs,x,h,e⟩=>⟨xs,x,h.k0,e⟩,fun i H x H' ⟨e,h⟩=>⟨e,fun xs hx=>h xs hx.k0⟩,fun i H ⟨xs,h,e⟩=>⟨xs,h.k0,e⟩⟩
theorem le_tup {K:PySem.W.Frag} {a:Addr}:(Itt K a).Le (Itt K0 a):=⟨fun i H ⟨xs,x,h,e⟩=>⟨xs,x,h.k0,e⟩,fun i H x H' ⟨e,h⟩=>⟨e,fun xs hx=>h xs hx.k0⟩,fun i H ⟨xs,h,e⟩=>⟨xs,h.k0,e⟩⟩
theorem le_zip {K:PySem.W.Frag} {a b:Addr}:(Itz K a b).Le (Itz K0 a b):=⟨fun i H ⟨xs,ys,x,y,h1,h2,e⟩=>⟨xs,ys,x,y,h1.k0,h2.k0,e⟩,fun i H x H' ⟨p,e1,e2,h⟩=>⟨p,e1,e2,fun xs ys h1 h2=>h xs ys h1.k0 h2.k0⟩,fun i H ⟨xs,ys,h1,h2,e⟩=>⟨xs,ys,h1.k0,h2.k0,e⟩⟩
theorem piT0 (hl:PE X l tl):PI X tg l (iTup K0 tl):=by
 intro pins s σ H R I h
 refine thn (hl pins s σ H _ I h) fun v s1 ⟨x,H1,I1,r1,a,e,⟨xs,hq⟩,q⟩=>?_
 subst e
 cases r1
 obtain ⟨its,rv,p,hz⟩:=I1.tuple hq.k0
 refine wpAny_pyIter_tuple (show s1.heap.IsTuple a its.toArray from p) ⟨s1.heap.objs.size,[s1.heap.objs.size],_,Itt K0 a,H1,rfl,I1.kept (t':=s1.toks) fun b o e=>Heap.get?_push_of_some _ e,(turn_tuple (K:=X.K) a _).le le_tup,⟨_,Heap.get?_push_size _ rfl,rfl,rfl⟩,fun b hb=>?_,q⟩
 obtain rfl:b=s1.heap.objs.size:=by simpa using hb
 exact I1.fpOk (Nat.le_refl _) (I1.hok.fresh (Nat.le_refl _))
theorem pi_zip0 {a b:Expr} {ta:TA} {p pos:Pos} {elts:List Expr} {kk} {tpos:Pos} (hg:Gl X "zip") (hm:X.mg "zip"=none) (hb:bootBuiltins "zip"=some (.type "zip")) (ha:PA X [a,b] ta)
  (hs:starEach [a,b] X.env=[(false,eval a X.env),(false,eval b X.env)]:=by rfl) (hs2:starEach [b] X.env=[(false,eval b X.env)]:=by rfl):PI X (.Tuple elts kk tpos) (.Call (.Name "zip" p) [a,b] [] pos) (iZip K0 ta):=by
 intro pins s σ H R I h
 refine Call_ (ld_blt I hg hm hb (PyProof.Rows.callWith_type1 (thn (ha pos pins s σ H _ I h) fun us s1 ⟨vs,H1,I1,r1,q1⟩=>?_) (by rw [hs,hs2]) (by rw [hs2]; rfl)))
 obtain ⟨x,y,e,⟨xs,hq1⟩,⟨ys,hq2⟩,q⟩:=q1
 subst e
 cases r1 with
 | cons r rr =>
  cases rr with
  | cons r' rr =>
   cases rr
   cases r
   cases r'
   obtain ⟨us,ru,pu,zu⟩:=I1.tuple hq1.k0
   obtain ⟨vs,rv,pv,zv⟩:=I1.tuple hq2.k0
   have a1:x < s1.heap.objs.size:=by obtain ⟨_,e,_⟩:=(show s1.heap.IsTuple x us.toArray from pu); exact Heap.lt_size e
   have a2:y < s1.heap.objs.size:=by obtain ⟨_,e,_⟩:=(show s1.heap.IsTuple y vs.toArray from pv); exact Heap.lt_size e
   refine call_zipT (show s1.heap.IsTuple x us.toArray from pu) (show s1.heap.IsTuple y vs.toArray from pv) fun g z0 pI pO n1 n2 hk=>wpAny_pyIter_zip z0 ?_
   refine ⟨s1.heap.objs.size + 4,[s1.heap.objs.size + 4,s1.heap.objs.size + 2,s1.heap.objs.size + 3,s1.heap.objs.size,s1.heap.objs.size + 1],_,Itz K0 x y,H1,rfl,I1.kept (t':=s1.toks) hk,(turn_zip (K:=X.K) x y _ _ _ _ _ (zipApart_new a1 a2)).le le_zip,⟨z0,pI,⟨_,_,pO⟩,n1,n2⟩,fun c hc=>?_,q⟩
   have hge:s1.heap.objs.size ≤ c:=by
    simp only [List.mem_cons,List.not_mem_nil,or_false] at hc
    rcases hc with h | h | h | h | h <;> rw [h] <;> first | exact Nat.le_add_right _ _ | exact Nat.le_refl _
   exact I1.fpOk hge (I1.hok.fresh hge)
theorem pgTup0 {es:List Expr} {k:Nat} {t:TGs} {n:Nat} {pos:Pos} (hc:X.calm=true) (h:PGs X es t) (hn:(assignEach es X.env).length=n:=by rfl) (hst:(assignEach es X.env).findIdx? (·.1)=none:=by rfl):PG X (.Tuple es k pos) (gTup K0 n t) :=
 fun pins s σ H v u Q I r ⟨a,xs,e,hq,q⟩=>pg_tup hc h hn hst pins s σ H v u Q I r ⟨a,xs,e,hq.k0,q⟩
theorem pgLst0 {es:List Expr} {k:Nat} {t:TGs} {n:Nat} {pos:Pos} (hc:X.calm=true) (h:PGs X es t) (hn:(assignEach es X.env).length=n:=by rfl) (hst:(assignEach es X.env).findIdx? (·.1)=none:=by rfl):PG X (.Tuple es k pos) (gLst K0 n t) :=
 fun pins s σ H v u Q I r ⟨a,xs,e,hq,q⟩=>pg_lst hc h hn hst pins s σ H v u Q I r ⟨a,xs,e,hq.k0,q⟩
theorem tyV.k0 {K:PySem.W.Frag} {T:String} {x:V} {H:Hp} (h:tyV K0 T x H):tyV K T x H:=by
 cases x with
 | ref p =>
  rcases h with ⟨e,xs,h⟩ | ⟨e,o,hk,_⟩ | h | h
  ·exact .inl ⟨e,xs,h.k0⟩
  ·exact absurd hk (by show ¬ (none=some o); simp)
  ·exact .inr (.inr (.inl h))
  ·exact .inr (.inr (.inr h))
 | _=>exact h
variable {o e:Expr} {es:List Expr} {to:TE} {t:TA} {name:Str} {apos cpos:Pos} {T id:String} {r:V→List V→Hp→VK→Prop}
theorem peBm0 (pa:PlainAttrs T) (slot:Slot T name id) (hty:typeOf (.builtin id)=pure (.type "method_descriptor")) (hm:MtR X id r) (ho:PE X o to) (ha:PA X (e :: es) t)
  (hbase:attributeBase o name X.env (eval o X.env)=eval o X.env:=by rfl)
  (hfew:((backTo cpos (starEach (e :: es) X.env)).all (fun x=>!x.1) && (backToKw cpos (keywordEach [] X.env)).all (fun x=>x.1.isSome)
   && decide ((e :: es).length + ([]:List Keyword).length + (if ([]:List Keyword).isEmpty then 0 else 1) < 30))=true:=by rfl)
  (hline:(apos.endLine == cpos.line)=true:=by rfl) (hs:starEach (e :: es) X.env=(false,eval e X.env) :: starEach es X.env:=by rfl) (hplain:(backTo cpos (starEach es X.env)).any (·.1)=false:=by rfl) :
  PE X (.Call (.Attribute o name apos) (e :: es) [] cpos) (tBM K0 T r to t):=by
 intro pins s σ H Q I h
 refine wpAny_Call_method_late hbase hfew hline rfl (thn (ho pins s σ H _ I h) fun v s1 ⟨x,H1,I1,r1,ty,q1⟩=>?_)
 obtain ⟨h1,h2⟩:=tyV_is I1 r1 ty.k0
 refine ⟨T,id,pa,slot,hty,h1,h2,?_⟩
 have hA:=ha cpos pins s1 σ H1 _ I1 q1
 rw [hs] at hA ⊢
 exact Calls.callWith_builtin (by show (false || (backTo cpos (starEach es X.env)).any (·.1))=false; rw [hplain] <;> rfl) (Calls.evalArgs_plain (thn hA fun us s2 ⟨vs,H2,I2,r2,q2⟩=>hm pins s2 σ H2 x vs v us Q I2 r1 r2 q2))
end
end L2
namespace K33
open PySem L2 KG EX KM
def top (i:Nat):Stmt:=PySem.Challenge.pw_wishmart_k33_markets_as_texts.main.body.getD i (.Pass ⟨0,0,0,0⟩)
section
variable {P:Program} {w:World} {K:PySem.W.Frag} {mg:Str→Option Value} {base:Heap}
theorem scWhole:FnScope ["thing"] ["thing"] (ja3 (top 14)):=⟨rfl,rfl,rfl,by decide +kernel,rfl,by decide +kernel,by decide +kernel⟩
theorem ok_whole {f:Addr} {fd:FuncData} (F:Fun K "is_whole" "is_whole" (top 14) f fd) (N:Nm mg) (Z:IsK K):FnOk P w K mg base CX0 1 f fd ["thing"] (spT isWhole):=by
 refine F.ok scWhole (fun vs H Q E h=>?_) (fun cdv A outer s H vs Q E hr h=>?_)
 ·obtain ⟨b,v,d,rfl,_⟩:=h; rfl
 ·obtain ⟨b,v,d,rfl,hT,k⟩:=h
  refine ⟨_,jb5 (jc9 (pe_and (pIsi K (pv 0) rfl N.isinstance rfl N.int boot_int ja6) (pe_one (pe_not (pIsi K (pv 0) rfl N.isinstance rfl N.bool boot_bool ja6))))),?_⟩
  obtain ⟨t1,ty1,e1⟩:=isi Z hT
  obtain ⟨t2,ty2,e2⟩:=isb Z hT
  refine ⟨_,rfl,t1,_,ty1,e1,_,rfl,?_⟩
  have hk:=k H (Stay.refl H)
  rw [isWhole_eq] at hk
  cases hi:isI d with
  | true =>
   rw [hi] at hk
   refine iteT ⟨_,rfl,t2,_,ty2,e2,_,rfl,hk⟩
  | false =>
   rw [hi] at hk
   exact iteF hk
theorem scGcd:FnScope ["one","other"] ["one","other"] (ja3 (top 16)):=⟨rfl,rfl,rfl,by decide +kernel,rfl,by decide +kernel,by decide +kernel⟩
theorem ok_gcd {f:Addr} {fd:FuncData} (F:Fun K "common_divisor" "common_divisor" (top 16) f fd) (N:Nm mg):FnOk P w K mg base CX0 1 f fd ["one","other"] spGcd:=by
 refine F.ok scGcd (fun vs H Q E h=>?_) (fun cdv A outer s H vs Q E hr h=>?_)
 ·obtain ⟨t,u,rfl,_⟩:=h; rfl
 ·obtain ⟨t,u,rfl,u0,k⟩:=h
  refine ⟨_,jb0 (ps_while PassesOwn.never (jf0 op_ne (pv 1) ja5 (nomark _)) (jb5 (ps_par (i:=0) (j:=1) rfl scGcd.nd rfl rfl (by decide) rfl rfl (ja2 (pv 1) (ja2 (jc6 op_mod (pv 0) (pv 1)) ja8)) (by rfl))))
   (jb5 (jc9 (jd2 call_abs (by rfl) N.abs boot_abs (ja2 (pv 0) ja8)))),?_⟩
  refine while_by (fun σ H'=>H'=H∧∃ a c:Int,σ=[some (.int a),some (.int c)]∧0 ≤ c∧Int.gcd a c=Int.gcd t u)
   (fun σ _=>match σ with | [_,some (.int c)]=>c.toNat | _=>0) ⟨rfl,t,u,rfl,u0,rfl⟩ ?_ ?_
  ·rintro σ H' ⟨rfl,a,c,rfl,c0,e⟩
   refine ⟨_,rfl,rfl,_,rfl,?_⟩
   by_cases hc:c=0
   ·subst hc
    refine iteF ?_
    refine ⟨_,rfl,_,rfl,?_⟩
    rw [abs_gcd,e]
    exact k
   ·have e1:(!decide (V.int c=V.int 0))=true:=by simp [hc]
    rw [e1]
    refine iteT ?_
    have cp:0 < c:=by omega
    refine ⟨_,rfl,_,rfl,_,rfl,_,_,rfl,rfl,cp,_,_,rfl,⟨rfl,c,a % c,rfl,Int.emod_nonneg _ hc,gcd_emod.trans e⟩,?_⟩
    have h1:=Int.emod_lt_of_pos a cp
    have h2:=Int.emod_nonneg a hc
    show (a % c).toNat < c.toNat
    omega
  ·rintro σ H' Q1 Q2 himp ⟨v,e,sc,kk,ek,q⟩
   exact ⟨v,e,sc,kk,ek,himp _ _ q⟩
theorem scFrac:FnScope ["thing","top","bottom"] ["thing"] (ja3 (top 15)):=⟨rfl,rfl,rfl,by decide +kernel,rfl,by decide +kernel,by decide +kernel⟩
theorem ok_isfrac {f fW fG:Addr} {fd dW dG:FuncData} (F:Fun K "is_fraction" "is_fraction" (top 15) f fd) (N:Nm mg) (Z:IsK K) (W:Cal K mg P w base "is_whole" 1 ["thing"] (spT isWhole) fW dW) (G:Cal K mg P w base "common_divisor" 1 ["one","other"] spGcd fG dG):FnOk P w K mg base CX0 2 f fd ["thing"] (spT isFrac):=by
 refine F.ok scFrac (fun vs H Q E h=>?_) (fun cdv A outer s H vs Q E hr h=>?_)
 ·obtain ⟨b,v,d,rfl,_⟩:=h; rfl
 ·obtain ⟨b,v,d,rfl,hT,k⟩:=h
  refine ⟨_,jb0 (ps_if (PW.pt (pw_or (jg7 (jh3 (pIsi K (pv 0) rfl N.isinstance rfl N.tuple jc1 ja6))) (pw_or1 (jf0 op_ne (jd2 cLen0 (by rfl) N.len PySem.boot_len (ja2 (pv 0) ja8)) ja5 (nomark _))))) (jb5 (jc9 pe_bl)) je5)
   (jb0 (ps_asg (pv 0) (pgTup0 rfl (jg8 (jb2 (i:=1) scFrac.nd rfl (Or.inl rfl)) (jg8 (jb2 (i:=2) scFrac.nd rfl (Or.inl rfl)) pgs_nil))))
   (jb0 (ps_if (PW.pt (pw_or (jg7 (jh3 (jb8 W.ok hr rfl W.mg W.kp W.bd .nil pass0 (ja2 (pv 1) ja8)))) (pw_or1 (jg7 (jh3 (jb8 W.ok hr rfl W.mg W.kp W.bd .nil pass0 (ja2 (pv 2) ja8))))))) (jb5 (jc9 pe_bl)) je5)
   (jb5 (jc9 (pe_and (pe_cmpR op_ge (pv 2) ja5 (nomark _)) (pe_one (pe_cmpR op_eq (jb8 G.ok hr rfl G.mg G.kp G.bd .nil pass0 (ja2 (pv 1) (ja2 (pv 2) ja8))) ja5 (nomark _)))))))),?_⟩
  obtain ⟨t1,ty1,e1⟩:=ist Z hT
  refine ⟨_,rfl,t1,_,ty1,e1,_,rfl,?_⟩
  have hk:=k H (Stay.refl H)
  rcases tupCase hT with hn | ⟨a,xs,ds,rfl,rfl,ha,hs⟩
  ·rw [hn]; rw [isFrac_no hn] at hk
   exact iteT (iteT hk)
  refine iteF ?_
  refine ⟨_,rfl,a,xs,rfl,.inr (SqT.of ha),rfl,_,rfl,?_⟩
  by_cases hl:xs.length=2
  case neg =>
   have e2:(!decide (V.int (xs.length:Int)=V.int 2))=true:=vint_ne (b:=2) hl
   rw [e2]
   have hl2:ds.length ≠ 2:=by rw [← hs.len]; exact hl
   have e3:isFrac (.tuple ds)=false:=isFrac_len hl2
   rw [e3] at hk
   exact iteT hk
  have e2:(!decide (V.int (xs.length:Int)=V.int 2))=false:=by rw [hl]; rfl
  rw [e2]
  refine iteF ?_
  match xs,ds,hl,hs with
  | [x,y],_,_,.cons (d:=dx) hx (.cons (d:=dy) hy .nil) =>
  refine ⟨_,rfl,a,_,rfl,SqT.of ha,rfl,_,_,rfl,_,_,rfl,rfl,?_⟩
  refine ⟨_,rfl,b,x,dx,rfl,hx,fun H1 s1=>?_⟩
  refine ⟨_,rfl,?_⟩
  rcases intCase hx with hn | ⟨i,rfl,rfl⟩
  ·rw [hn]
   refine iteT (iteT ?_)
   have e3:isFrac (.tuple [dx,dy])=false:=by cases dx <;> first | rfl | cases hn
   rw [e3] at k
   exact k H1 s1
  refine iteF ?_
  refine ⟨_,rfl,b,y,dy,rfl,hy.stay s1,fun H2 s2=>?_⟩
  refine ⟨_,rfl,?_⟩
  rcases intCase hy with hn | ⟨j,rfl,rfl⟩
  ·rw [hn]
   refine iteT ?_
   have e3:isFrac (.tuple [.int i,dy])=false:=by cases dy <;> first | rfl | cases hn
   rw [e3] at k
   exact k H2 (s1.trans s2)
  refine iteF ?_
  refine ⟨_,rfl,_,_,rfl,rfl,_,rfl,?_⟩
  have hk2:Q (.bl (decide ((1:Int) ≤ j) && decide (Int.gcd i j=1))) H2:=k H2 (s1.trans s2)
  by_cases hj:1 ≤ j
  ·have e4:decide ((1:Int) ≤ j)=true:=by simpa using hj
   rw [e4] at hk2 ⊢
   refine iteT ⟨_,rfl,_,rfl,i,j,rfl,by omega,rfl,?_⟩
   have e5:decide (V.int ((Int.gcd i j:Nat):Int)=V.int 1)=decide (Int.gcd i j=1):=by
    rw [decide_eq_decide]
    constructor
    ·intro h; injection h with h; omega
    ·intro h; rw [h]; rfl
   rw [e5]
   simpa using hk2
  ·have e4:decide ((1:Int) ≤ j)=false:=by simpa using hj
   rw [e4] at hk2 ⊢
   exact iteF hk2
theorem scTake:FnScope ["bag","many","found"] ["bag","many"] (ja3 (top 42)):=⟨rfl,rfl,rfl,by decide +kernel,rfl,by decide +kernel,by decide +kernel⟩
theorem ok_take {f:Addr} {fd:FuncData} (F:Fun K "_law_take" "_law_take" (top 42) f fd):FnOk P w K mg base CX0 1 f fd ["bag","many"] spTake:=by
 refine F.ok scTake (fun vs H Q E h=>?_) (fun cdv A outer s H vs Q E hr h=>?_)
 ·obtain ⟨b,m,rfl,_⟩:=h; rfl
 ·obtain ⟨b,m,rfl,⟨c,d,hb⟩,h0,h1,k⟩:=h
  refine ⟨_,jb0 (ps_if (jf0 op_gt (pe_ix ixL0 (pv 0) ja5 (fun _ _=>rfl)) ja5 (nomark _))
    (jb0 (je4 (i:=2) scTake.nd rfl (Or.inl rfl) (jc6 op_mod (pe_ix ixL0 (pv 0) ja5 (fun _ _=>rfl)) (pv 1)))
     (jb0 (ps_asg (jc6 op_fdiv (pe_ix ixL0 (pv 0) ja5 (fun _ _=>rfl)) (pv 1)) (pg_sub (pv 0) ja5 set_list)) (jb5 (jc9 (pv 2))))) je5)
   (jb0 (ps_asg (jc6 op_mod (jc6 op_mul (pe_ix ixL0 (pv 0) ja5 (fun _ _=>rfl)) ja5) ja5) (pg_sub (pv 0) ja5 set_list))
    (jb5 (jc9 (jc6 op_mod (jc6 op_fdiv (jc6 op_mod (jc6 op_mul (jc6 op_fdiv (pe_ix ixL0 (pv 0) ja5 (fun _ _=>rfl)) ja5) (jc6 op_add (jc6 op_mod (pe_ix ixL0 (pv 0) ja5 (fun _ _=>rfl)) ja5) ja5)) ja5) ja5) (pv 1))))),?_⟩
  refine ⟨_,rfl,b,_,_,_,rfl,rfl,SqL.of hb,rfl,_,_,rfl,rfl,_,rfl,?_⟩
  refine ite2 (fun hc=>?_) (fun hc=>?_)
  ·refine ⟨_,rfl,b,_,_,_,rfl,rfl,SqL.of hb,rfl,_,rfl,_,_,rfl,rfl,h0,?_⟩
   refine ⟨_,rfl,b,_,_,_,rfl,rfl,SqL.of hb,rfl,_,rfl,_,_,rfl,rfl,⟨h0,h1⟩,?_⟩
   refine ⟨_,rfl,b,_,_,0,rfl,rfl,hb,rfl,?_⟩
   refine ⟨_,rfl,k _ _ (Int.emod_nonneg _ (by omega)) (Int.emod_lt_of_pos _ h0) ⟨_,_,jb1⟩ (Kp.refl b H).bag⟩
  ·refine ⟨_,rfl,b,_,_,_,rfl,rfl,SqL.of hb,rfl,_,_,rfl,rfl,.inr ⟨by decide,by decide⟩,_,_,rfl,rfl,(by show (0:Int) < 2147483647; decide),?_⟩
   refine ⟨_,rfl,b,_,_,1,rfl,rfl,hb,rfl,?_⟩
   have hb2:(upd H b (.lst [V.int c,V.int (d * 48271 % 2147483647)])) b=some (.lst [V.int c,V.int (d * 48271 % 2147483647)]):=jb1
   refine ⟨_,rfl,b,_,_,_,rfl,rfl,SqL.of hb2,rfl,_,_,rfl,rfl,⟨by decide,by decide⟩,?_⟩
   refine ⟨_,rfl,b,_,_,_,rfl,rfl,SqL.of hb2,rfl,_,_,rfl,rfl,(by show (0:Int) < 32749; decide),_,_,rfl,rfl,?_⟩
   refine ⟨_,_,rfl,rfl,.inr ⟨?_,?_⟩,?_⟩
   ·have:=Int.emod_nonneg (d * 48271 % 2147483647) (show (32749:Int) ≠ 0 by decide); omega
   ·have:=Int.emod_lt_of_pos (d * 48271 % 2147483647) (show (0:Int) < 32749 by decide); omega
   refine ⟨_,_,rfl,rfl,(by show (0:Int) < 2147483629; decide),_,_,rfl,rfl,⟨by decide,by decide⟩,_,rfl,_,_,rfl,rfl,h0,?_⟩
   exact k _ _ (Int.emod_nonneg _ (by omega)) (Int.emod_lt_of_pos _ h0) ⟨_,_,jb1⟩ (Kp.refl b H).bag
theorem scBag:FnScope ["script","k","cell","seed"] ["script","k"] (ja3 (top 41)):=⟨rfl,rfl,rfl,by decide +kernel,rfl,by decide +kernel,by decide +kernel⟩
theorem ok_bag {f:Addr} {fd:FuncData} (F:Fun K "_law_bag" "_law_bag" (top 41) f fd) (B:Nm mg):FnOk P w K mg base CX0 1 f fd ["script","k"] (spBag K):=by
 refine F.ok scBag (fun vs H Q E h=>?_) (fun cdv A outer s H vs Q E hr h=>?_)
 ·obtain ⟨a,ns,k,rfl,_⟩:=h; rfl
 ·obtain ⟨a,ns,k,rfl,hS,h0,h1,q⟩:=h
  refine ⟨_,jb0 (je4 (i:=2) scBag.nd rfl (Or.inl rfl) ja5)
   (jb0 (ps_if (jf0 op_lt (pv 1) (jd2 call_len_seq (by rfl) B.len PySem.boot_len (ja2 (pv 0) ja8)) (nomark _))
    (jb5 (je4 (i:=2) scBag.nd rfl (Or.inl rfl) (jc6 op_mod (pe_ix ix_list (pv 0) (pv 1) (fun _ _=>rfl)) (jc6 op_pow ja5 ja5)))) je5)
   (jb0 (je4 (i:=3) scBag.nd rfl (Or.inl rfl) (jc6 op_add ja5 (jc6 op_mod (jc6 op_add (jc6 op_add (jc6 op_add (jc6 op_mul (jc6 op_mod (pv 2) ja5) ja5) (jc6 op_mul (jc6 op_mul ja5 (pv 1)) (pv 1))) (jc6 op_mul ja5 (pv 1))) ja5) ja5)))
   (jb0 (ps_if (jf0 op_lt (pv 2) (jc6 op_pow ja5 ja5) (nomark _)) (jb5 (jc9 (pe_lst (ja2 ja5 (ja2 (pv 3) ja8))))) je5)
   (jb5 (jc9 (pe_lst (ja2 (pv 2) (ja2 (pv 3) ja8)))))))),?_⟩
  refine ⟨_,rfl,_,rfl,a,_,rfl,.inl hS,_,_,rfl,rfl,_,rfl,?_⟩
  refine ite2 (fun hc=>?wayA) (fun hc=>?wayB)
  case' wayA =>
   have hk:k < (ns.length:Int):=by simpa using of_decide_eq_true hc
   have hat:atI (ns.map V.int) k=some (V.int (ns.getD k.toNat 0)):=by
    have e:(ns.map V.int)[k.toNat]?=some (V.int (ns.getD k.toNat 0)):=by
     have hl:k.toNat < ns.length:=by omega
     rw [List.getElem?_map,List.getElem?_eq_getElem hl]
     simp [List.getD,List.getElem?_eq_getElem hl]
    have:=jg6 e
    rw [Int.toNat_of_nonneg h0] at this
    exact this
   refine ⟨_,rfl,_,rfl,a,_,_,_,rfl,rfl,hS,hat,_,_,rfl,rfl,⟨by decide,by decide,by decide⟩,_,_,rfl,rfl,(by show (0:Int) < 10 ^ 60; decide),?_⟩
  all_goals
   refine ⟨_,rfl,_,_,rfl,rfl,(by show (0:Int) < 2147483629; decide),_,_,rfl,rfl,.inr ⟨by decide,by decide⟩,?_⟩
   refine ⟨_,rfl,_,_,rfl,rfl,.inl ⟨by decide,by decide⟩,_,rfl,_,_,rfl,rfl,.inr ⟨by omega,by omega⟩,_,_,rfl,rfl,?_⟩
   refine ⟨_,rfl,_,_,rfl,rfl,.inl ⟨by decide,by decide⟩,_,_,rfl,rfl,_,_,rfl,rfl,_,_,rfl,rfl,(by show (0:Int) < 2147483645; decide),_,_,rfl,rfl,?_⟩
   refine ⟨_,rfl,_,_,rfl,rfl,⟨by decide,by decide,by decide⟩,_,_,rfl,rfl,_,rfl,?_⟩
   refine ite2 (fun hc=>?_) (fun hc=>?_)
   ·exact ⟨_,rfl,by show 2 ≤ sizeLine; decide,fun p hp=>q p _ _ hp⟩
   ·exact ⟨_,rfl,_,rfl,by show 2 ≤ sizeLine; decide,fun p hp=>q p _ _ hp⟩
theorem scLFrac:FnScope ["top","bottom","one","other","by"] ["top","bottom"] (ja3 (top 43)):=⟨rfl,rfl,rfl,by decide +kernel,rfl,by decide +kernel,by decide +kernel⟩
theorem ok_frac {f:Addr} {fd:FuncData} (F:Fun K "_law_frac" "_law_frac" (top 43) f fd) (B:Nm mg):FnOk P w K mg base CX0 1 f fd ["top","bottom"] spFrac:=by
 refine F.ok scLFrac (fun vs H Q E h=>?_) (fun cdv A outer s H vs Q E hr h=>?_)
 ·obtain ⟨t,u,rfl,_⟩:=h; rfl
 ·obtain ⟨t,u,rfl,u0,u1,k⟩:=h
  refine ⟨_,jb0 (ps_par (i:=2) (j:=3) rfl scLFrac.nd rfl rfl (by decide) rfl rfl (ja2 (pv 0) (ja2 (pv 1) ja8)) (by rfl))
   (jb0 (ps_while PassesOwn.never (jf0 op_ne (pv 3) ja5 (nomark _)) (jb5 (ps_par (i:=2) (j:=3) rfl scLFrac.nd rfl rfl (by decide) rfl rfl (ja2 (pv 3) (ja2 (jc6 op_mod (pv 2) (pv 3)) ja8)) (by rfl))))
   (jb0 (je4 (i:=4) scLFrac.nd rfl (Or.inl rfl) (jc6 op_mul (jd2 call_abs (by rfl) B.abs boot_abs (ja2 (pv 2) ja8)) (jc6 op_sub ja5 (jc6 op_mul ja5 (jg1 call_int1 (by rfl) B.int boot_int (ja2 (pe_cmpR op_lt (pv 1) ja5 (nomark _)) ja8))))))
   (jb5 (jc9 (pe_tup (ja2 (jc6 op_fdiv (pv 0) (pv 4)) (ja2 (jc6 op_fdiv (pv 1) (pv 4)) ja8))))))),?_⟩
  refine ⟨_,rfl,_,rfl,_,_,rfl,?_⟩
  refine while_by (fun σ H'=>H'=H∧∃ a c:Int,σ=[some (.int t),some (.int u),some (.int a),some (.int c),none]∧0 ≤ c∧Int.gcd a c=Int.gcd t u)
   (fun σ _=>match σ with | [_,_,_,some (.int c),_]=>c.toNat | _=>0) ⟨rfl,t,u,rfl,by omega,rfl⟩ ?_ ?_
  ·rintro σ H' ⟨rfl,a,c,rfl,c0,e⟩
   refine ⟨_,rfl,rfl,_,rfl,?_⟩
   by_cases hc:c=0
   ·subst hc
    refine iteF ?_
    refine ⟨_,rfl,_,rfl,_,rfl,_,_,rfl,rfl,.inr ⟨_,rfl,_,_,rfl,rfl,.inl ⟨by decide,by decide⟩,_,_,rfl,rfl,?_⟩⟩
    have e2:decide (u < 0)=false:=decide_eq_false (by omega)
    rw [abs_gcd,e,e2]
    obtain ⟨g0,g1⟩:=gcd_pos (t:=t) u0
    have e3:(Int.gcd t u:Int) * (1 - 2 * (if false=true then (1:Int) else 0))=(Int.gcd t u:Int):=by simp
    refine ⟨_,_,rfl,rfl,.inl ⟨by omega,by omega⟩,?_⟩
    show gName 4 (V.int ((Int.gcd t u:Int) * (1 - 2 * (if false=true then (1:Int) else 0)))) _ _ _
    rw [e3]
    exact ⟨_,rfl,_,rfl,_,_,rfl,rfl,⟨g0,by omega⟩,_,rfl,_,rfl,_,_,rfl,rfl,⟨g0,by omega⟩,by show 2 ≤ sizeLine; decide,fun p hp=>k p hp⟩
   ·have e1:(!decide (V.int c=V.int 0))=true:=by simp [hc]
    rw [e1]
    refine iteT ?_
    have cp:0 < c:=by omega
    refine ⟨_,rfl,_,rfl,_,rfl,_,_,rfl,rfl,cp,_,_,rfl,⟨rfl,c,a % c,rfl,Int.emod_nonneg _ hc,gcd_emod.trans e⟩,?_⟩
    have h1:=Int.emod_lt_of_pos a cp
    have h2:=Int.emod_nonneg a hc
    show (a % c).toNat < c.toNat
    omega
  ·rintro σ H' Q1 Q2 himp ⟨v,e,sc,kk,ek,q⟩
   exact ⟨v,e,sc,kk,ek,himp _ _ q⟩
theorem scLPurse:FnScope ["bag","way"] ["bag"] (ja3 (top 44)):=⟨rfl,rfl,rfl,by decide +kernel,rfl,by decide +kernel,by decide +kernel⟩
theorem ok_lpurse {f fT fF:Addr} {fd dT dF:FuncData} (F:Fun K "_law_purse" "_law_purse" (top 44) f fd) (T:Cal K mg P w base "_law_take" 1 ["bag","many"] spTake fT dT) (R:Cal K mg P w base "_law_frac" 1 ["top","bottom"] spFrac fF dF):FnOk P w K mg base CX0 2 f fd ["bag"] spPu:=by
 refine F.ok scLPurse (fun vs H Q E h=>?_) (fun cdv A outer s H vs Q E hr h=>?_)
 ·obtain ⟨b,rfl,_⟩:=h; rfl
 ·obtain ⟨b,rfl,hb,k⟩:=h
  refine ⟨_,jb0 (je4 (i:=1) scLPurse.nd rfl (Or.inl rfl) (jb8 T.ok hr rfl T.mg T.kp T.bd .nil pass0 (ja2 (pv 0) (ja2 ja5 ja8))))
   (jb0 (ps_if (jf0 op_eq (pv 1) ja5 (nomark _)) (jb5 (jc9 (pe_tup (ja2 (jc6 op_add ja5 (jb8 T.ok hr rfl T.mg T.kp T.bd .nil pass0 (ja2 (pv 0) (ja2 ja5 ja8)))) (ja2 ja5 ja8))))) je5)
   (jb0 (ps_if (jf0 op_eq (pv 1) ja5 (nomark _)) (jb5 (jc9 (pe_tup (ja2 (jc6 op_add ja5 (jb8 T.ok hr rfl T.mg T.kp T.bd .nil pass0 (ja2 (pv 0) (ja2 (jc6 op_pow ja5 ja5) ja8)))) (ja2 ja5 ja8))))) je5)
   (jb0 (ps_if (jf0 op_eq (pv 1) ja5 (nomark _)) (jb5 (jc9 (jb8 R.ok hr rfl R.mg R.kp R.bd .nil pass0 (ja2 (jc6 op_add ja5 (jb8 T.ok hr rfl T.mg T.kp T.bd .nil pass0 (ja2 (pv 0) (ja2 (jc6 op_pow ja5 ja5) ja8)))) (ja2 (jc6 op_add ja5 (jb8 T.ok hr rfl T.mg T.kp T.bd .nil pass0 (ja2 (pv 0) (ja2 (jc6 op_pow ja5 ja5) ja8)))) ja8))))) je5)
   (jb5 (jc9 (jb8 R.ok hr rfl R.mg R.kp R.bd .nil pass0 (ja2 (jc6 op_add ja5 (jb8 T.ok hr rfl T.mg T.kp T.bd .nil pass0 (ja2 (pv 0) (ja2 ja5 ja8)))) (ja2 (jc6 op_add ja5 (jb8 T.ok hr rfl T.mg T.kp T.bd .nil pass0 (ja2 (pv 0) (ja2 ja5 ja8)))) ja8)))))))),?_⟩
  refine ⟨_,rfl,b,_,rfl,hb,by decide,by decide,fun r H1 r0 r1 hb1 kp1=>?_⟩
  refine ⟨_,rfl,rfl,_,rfl,ite2 (fun _=>?_) (fun _=>?_)⟩
  ·refine ⟨_,rfl,b,_,rfl,hb1,by decide,by decide,fun r2 H2 p0 p1 hb2 kp2=>⟨_,_,rfl,rfl,by show 2 ≤ sizeLine; decide,fun p hp=>k _ _ _ (hb2.new hp) ((kp1.trans kp2).new hp) trI2 (purse_one (by omega) (by omega))⟩⟩
  refine ⟨_,rfl,rfl,_,rfl,ite2 (fun _=>?_) (fun _=>?_)⟩
  ·refine ⟨_,rfl,_,_,rfl,rfl,⟨by decide,by decide,by decide⟩,b,_,rfl,hb1,by decide,by decide,fun r2 H2 p0 p1 hb2 kp2=>⟨_,_,rfl,rfl,by show 2 ≤ sizeLine; decide,fun p hp=>?_⟩⟩
   have p1':r2 < 1000000:=p1
   exact k _ _ _ (hb2.new hp) ((kp1.trans kp2).new hp) trI2 (purse_one (by omega) (by omega))
  refine ⟨_,rfl,rfl,_,rfl,ite2 (fun _=>?_) (fun _=>?_)⟩
  ·refine ⟨_,rfl,_,_,rfl,rfl,⟨by decide,by decide,by decide⟩,b,_,rfl,hb1,by decide,by decide,fun r2 H2 p0 p1 hb2 kp2=>⟨_,_,rfl,rfl,?_⟩⟩
   refine ⟨_,rfl,_,_,rfl,rfl,⟨by decide,by decide,by decide⟩,b,_,rfl,hb2,by decide,by decide,fun r3 H3 q0 q1 hb3 kp3=>⟨_,_,rfl,rfl,?_⟩⟩
   have p1':r2 < 1000000:=p1
   have q1':r3 < 1000000:=q1
   exact ⟨_,_,rfl,by omega,by omega,fun p hp=>k _ _ _ (hb3.new hp) (((kp1.trans kp2).trans kp3).new hp) trI2 (purse_low (by omega) (by omega) (by omega) (by omega))⟩
  ·refine ⟨_,rfl,b,_,rfl,hb1,by decide,by decide,fun r2 H2 p0 p1 hb2 kp2=>⟨_,_,rfl,rfl,?_⟩⟩
   refine ⟨_,rfl,b,_,rfl,hb2,by decide,by decide,fun r3 H3 q0 q1 hb3 kp3=>⟨_,_,rfl,rfl,?_⟩⟩
   exact ⟨_,_,rfl,by omega,by omega,fun p hp=>k _ _ _ (hb3.new hp) (((kp1.trans kp2).trans kp3).new hp) trI2 (purse_low (by omega) (by omega) (by omega) (by omega))⟩
theorem scWishes:FnScope ["bag","goods","most","row","at"] ["bag","goods"] (ja3 (top 45)):=⟨rfl,rfl,rfl,by decide +kernel,rfl,by decide +kernel,by decide +kernel⟩
theorem ok_wishes {f fT:Addr} {fd dT:FuncData} (F:Fun K "_law_wishes" "_law_wishes" (top 45) f fd) (B:Nm mg) (T:Cal K mg P w base "_law_take" 1 ["bag","many"] spTake fT dT):FnOk P w K mg base CX0 2 f fd ["bag","goods"] spWi:=by
 refine F.ok scWishes (fun vs H Q E h=>?_) (fun cdv A outer s H vs Q E hr h=>?_)
 ·obtain ⟨b,g,rfl,_⟩:=h; rfl
 ·obtain ⟨b,g,rfl,hb,g0,g1,k⟩:=h
  refine ⟨_,jb0 (je4 (i:=2) scWishes.nd rfl (Or.inr rfl) (pe_ix ixL0 (pe_lst (ja2 ja5 (ja2 ja5 (ja2 ja5 (ja2 ja5 (ja2 ja5 ja8)))))) (jb8 T.ok hr rfl T.mg T.kp T.bd .nil pass0 (ja2 (pv 0) (ja2 ja5 ja8))) (fun _ _=>rfl)))
   (jb0 (ps_setC (i:=3) (own:=["k"]) (cap:=["bag","most"]) (ix:=[0,2]) scWishes.nd rfl rfl (BlkOk.of (ja3 (top 45)).names ["bag","goods","most","row","at"]) rfl (pi_range1 rfl B.range (ja2 (pv 1) ja8))
    (fun C fp s H=>⟨jb2 (i:=0) (show List.Nodup (["k","bag","most"]:List Str) by decide +kernel) rfl (Or.inl rfl),jf8,jb8 T.ok hr rfl T.mg T.kp T.bd .nil pass0 (ja2 (pv 1) (ja2 (pv 2) ja8))⟩))
   (jb0 (je4 (i:=4) scWishes.nd rfl (Or.inl rfl) (jb8 T.ok hr rfl T.mg T.kp T.bd .nil pass0 (ja2 (pv 0) (ja2 (pv 1) ja8))))
   (jb0 (ps_asg (jd2 (call_max2 rfl) (by rfl) B.max boot_max (ja2 ja5 (ja2 (pe_ix ixL0 (pv 3) (pv 4) (fun _ _=>rfl)) ja8))) (pg_sub (pv 3) (pv 4) set_list))
   (jb5 (jc9 (jg1 cTup0 (by rfl) B.tuple jc1 (ja2 (pv 3) ja8))))))),?_⟩
  refine ⟨by show 5 ≤ sizeLine; decide,fun p hp=>⟨_,rfl,b,_,rfl,hb.new hp,by decide,by decide,fun r H1 r0 r1 hb1 kp1=>?_⟩⟩
  have np:=hb.ne hp
  obtain ⟨m,em,m0,m1⟩:=menu5b r0 r1
  refine ⟨p,_,_,_,rfl,rfl,SqL.of (kp1 p _ np.symm jb1),em,?_⟩
  have kp1':Kp b H H1:=((Kp.refl b H).new hp).trans kp1
  refine ⟨_,rfl,g,rfl,by omega,by omega,fun acc hacc=>?_⟩
  have nacc:=hb1.ne hacc
  refine comp_range (fun i ys H'=>Bag H' b∧Kp b H1 H'∧∃ ns:List Int,ys=ns.map V.int∧ns.length=i∧∀ n ∈ ns,0 ≤ n∧n ≤ 100) ⟨hb1.new hacc,(Kp.refl b H1).new hacc,[],rfl,rfl,fun n hn=>nomatch hn⟩ ?_ ?_
  ·rintro i ys H' hi hy ⟨hb',kp',ns,rfl,hl,hnn⟩
   refine yes_i ?_
   refine ⟨_,rfl,_,rfl,b,m,rfl,hb',m0,by omega,fun r2 H5 p0 p1 hb5 kp5=>⟨_,kp5 acc _ nacc.symm hy,?_,Cn.of jb1 ⟨?_,(kp'.trans kp5).acc hacc,ns ++ [r2],?_,?_,?_⟩⟩⟩
   ·rw [List.length_map,sz]; omega
   ·obtain ⟨c,d,e⟩:=hb5
    exact ⟨c,d,by rw [jb3 nacc]; exact e⟩
   ·rw [List.map_append]; rfl
   ·rw [List.length_append,hl]; rfl
   ·intro n hn
    rcases List.mem_append.mp hn with z | z
    ·exact hnn n z
    ·obtain rfl:n=r2:=by simpa using z
     exact ⟨p0,by omega⟩
  ·rintro ys H' hy ⟨hb',kp',ns,rfl,hl,hnn⟩
   refine ⟨_,rfl,_,rfl,b,g,rfl,hb',g0,by omega,fun r2 H5 p0 p1 hb5 kp5=>?_⟩
   have hy5:=kp5 acc _ nacc.symm hy
   obtain ⟨ea,ex,em2⟩:=atI_ints (ns:=ns) p0 (by omega)
   refine ⟨_,rfl,_,rfl,acc,_,_,_,rfl,rfl,SqL.of hy5,ea,_,_,rfl,?_⟩
   refine ⟨_,rfl,_,rfl,acc,_,_,r2.toNat,rfl,rfl,hy5,ex,?_⟩
   have es:(ns.map V.int).set r2.toNat (V.int (if ns.getD r2.toNat 0 > 1 then ns.getD r2.toNat 0 else 1))=(ns.set r2.toNat (if ns.getD r2.toNat 0 > 1 then ns.getD r2.toNat 0 else 1)).map V.int:=by rw [List.map_set]
   refine ⟨_,rfl,acc,_,rfl,.inl ⟨SqL.of jb1,fun l hl2=>?_⟩⟩
   have kk:Kp b H H5:=(kp1'.trans kp').trans kp5
   have hHacc:H acc=none:=kp1'.free hb hacc hb1
   have hb6:Bag (upd H5 acc (.lst ((ns.map V.int).set r2.toNat (V.int (if ns.getD r2.toNat 0 > 1 then ns.getD r2.toNat 0 else 1))))) b:=by
    obtain ⟨c,d,e⟩:=hb5
    exact ⟨c,d,by rw [jb3 nacc]; exact e⟩
   refine k l (ns.set r2.toNat (if ns.getD r2.toNat 0 > 1 then ns.getD r2.toNat 0 else 1)) _ (hb6.new hl2) ((kk.acc hHacc).new hl2) ?_ ?_ ?_ ⟨(if ns.getD r2.toNat 0 > 1 then ns.getD r2.toNat 0 else 1),List.mem_of_getElem? (i:=r2.toNat) (List.getElem?_set_self (by omega)),by split <;> omega⟩
   ·rw [jb1,es]
   ·rw [List.length_set,hl]; omega
   ·intro n hn
    rcases List.mem_or_eq_of_mem_set hn with z | z
    ·exact hnn n z
    ·rw [z]; have:=hnn _ em2; split <;> omega
theorem scMarket:FnScope ["bag","goods","buyers","most","amounts","purses","wishes"] ["bag"] (ja3 (top 46)):=⟨rfl,rfl,rfl,by decide +kernel,rfl,by decide +kernel,by decide +kernel⟩
theorem ok_market {f fT fP fW:Addr} {fd dT dP dW:FuncData} (F:Fun K "_law_market" "_law_market" (top 46) f fd) (B:Nm mg) (T:Cal K mg P w base "_law_take" 1 ["bag","many"] spTake fT dT)
  (R:Cal K mg P w base "_law_purse" 2 ["bag"] spPu fP dP) (W:Cal K mg P w base "_law_wishes" 2 ["bag","goods"] spWi fW dW):FnOk P w K mg base CX0 3 f fd ["bag"] spMk:=by
 refine F.ok scMarket (fun vs H Q E h=>?_) (fun cdv A outer s H vs Q E hr h=>?_)
 ·obtain ⟨b,rfl,_⟩:=h; rfl
 ·obtain ⟨b,rfl,hb,k⟩:=h
  have hr1:Room 1 _:=hr.mono (by decide)
  refine ⟨_,jb0 (je4 (i:=1) scMarket.nd rfl (Or.inr rfl) (jc6 op_add ja5 (jb8 T.ok hr1 rfl T.mg T.kp T.bd .nil pass0 (ja2 (pv 0) (ja2 (pe_ix ixL0 (pe_lst (ja2 ja5 (ja2 ja5 ja8))) (jb8 T.ok hr1 rfl T.mg T.kp T.bd .nil pass0 (ja2 (pv 0) (ja2 ja5 ja8))) (fun _ _=>rfl)) ja8)))))
   (jb0 (je4 (i:=2) scMarket.nd rfl (Or.inl rfl) (jc6 op_add ja5 (jb8 T.ok hr1 rfl T.mg T.kp T.bd .nil pass0 (ja2 (pv 0) (ja2 (pe_ix ixL0 (pe_lst (ja2 ja5 (ja2 ja5 ja8))) (jb8 T.ok hr1 rfl T.mg T.kp T.bd .nil pass0 (ja2 (pv 0) (ja2 ja5 ja8))) (fun _ _=>rfl)) ja8)))))
   (jb0 (je4 (i:=3) scMarket.nd rfl (Or.inr rfl) (pe_ix ixL0 (pe_lst (ja2 ja5 (ja2 ja5 (ja2 ja5 ja8)))) (jb8 T.ok hr1 rfl T.mg T.kp T.bd .nil pass0 (ja2 (pv 0) (ja2 ja5 ja8))) (fun _ _=>rfl)))
   (jb0 (je4 (i:=4) scMarket.nd rfl (Or.inl rfl) (jg1 cTup0 (by rfl) B.tuple jc1 (ja2 (pe_comp (own:=["k"]) (cap:=["bag","most"]) (ix:=[0,3]) (BlkOk.of (ja3 (top 46)).names ["bag","goods","buyers","most","amounts","purses","wishes"]) rfl (pi_range1 rfl B.range (ja2 (pv 1) ja8))
    (fun C fp s H=>⟨jb2 (i:=0) (show List.Nodup (["k","bag","most"]:List Str) by decide +kernel) rfl (Or.inl rfl),jf8,jc6 op_add ja5 (jb8 T.ok hr1 rfl T.mg T.kp T.bd .nil pass0 (ja2 (pv 1) (ja2 (pv 2) ja8)))⟩)) ja8)))
   (jb0 (je4 (i:=5) scMarket.nd rfl (Or.inl rfl) (jg1 cTup0 (by rfl) B.tuple jc1 (ja2 (pe_comp (own:=["k"]) (cap:=["bag"]) (ix:=[0]) (BlkOk.of (ja3 (top 46)).names ["bag","goods","buyers","most","amounts","purses","wishes"]) rfl (pi_range1 rfl B.range (ja2 (pv 2) ja8))
    (fun C fp s H=>⟨jb2 (i:=0) (show List.Nodup (["k","bag"]:List Str) by decide +kernel) rfl (Or.inl rfl),jf8,jb8 R.ok hr rfl R.mg R.kp R.bd .nil pass0 (ja2 (pv 1) ja8)⟩)) ja8)))
   (jb0 (je4 (i:=6) scMarket.nd rfl (Or.inl rfl) (jg1 cTup0 (by rfl) B.tuple jc1 (ja2 (pe_comp (own:=["k"]) (cap:=["bag","goods"]) (ix:=[0,1]) (BlkOk.of (ja3 (top 46)).names ["bag","goods","buyers","most","amounts","purses","wishes"]) rfl (pi_range1 rfl B.range (ja2 (pv 2) ja8))
    (fun C fp s H=>⟨jb2 (i:=0) (show List.Nodup (["k","bag","goods"]:List Str) by decide +kernel) rfl (Or.inl rfl),jf8,jb8 W.ok hr rfl W.mg W.kp W.bd .nil pass0 (ja2 (pv 1) (ja2 (pv 2) ja8))⟩)) ja8)))
   (jb5 (jc9 (pe_tup (ja2 (pv 4) (ja2 (pv 5) (ja2 (pv 6) ja8))))))))))),?_⟩
  refine ⟨_,rfl,by show 2 ≤ sizeLine; decide,fun p1 hp1=>⟨_,rfl,b,_,rfl,hb.new hp1,by decide,by decide,fun r1 H1 r1a r1b hb1 kp1=>?_⟩⟩
  obtain ⟨m1,em1,m1a,m1b⟩:=menu2 r1a r1b
  refine ⟨p1,_,_,_,rfl,rfl,SqL.of (kp1 p1 _ (hb.ne hp1).symm jb1),em1,b,m1,rfl,hb1,m1a,by omega,fun g H2 g0 g1 hb2 kp2=>⟨_,_,rfl,rfl,?_⟩⟩
  have k2:Kp b H H2:=(((Kp.refl b H).new hp1).trans kp1).trans kp2
  refine ⟨_,rfl,by show 2 ≤ sizeLine; decide,fun p3 hp3=>⟨_,rfl,b,_,rfl,hb2.new hp3,by decide,by decide,fun r3 H3 r3a r3b hb3 kp3=>?_⟩⟩
  obtain ⟨m3,em3,m3a,m3b⟩:=menu2 r3a r3b
  refine ⟨p3,_,_,_,rfl,rfl,SqL.of (kp3 p3 _ (hb2.ne hp3).symm jb1),em3,b,m3,rfl,hb3,m3a,by omega,fun u H4 u0 u1 hb4 kp4=>⟨_,_,rfl,rfl,?_⟩⟩
  have k4:Kp b H H4:=((k2.new hp3).trans kp3).trans kp4
  refine ⟨by show 3 ≤ sizeLine; decide,fun p5 hp5=>⟨_,rfl,b,_,rfl,hb4.new hp5,by decide,by decide,fun r5 H5 r5a r5b hb5 kp5=>?_⟩⟩
  obtain ⟨m5,em5,m5a,m5b⟩:=menu3c r5a r5b
  refine ⟨p5,_,_,_,rfl,rfl,SqL.of (kp5 p5 _ (hb4.ne hp5).symm jb1),em5,?_⟩
  have k5:Kp b H H5:=(k4.new hp5).trans kp5
  refine ⟨_,rfl,1 + g,rfl,by omega,by omega,fun a6 ha6=>?_⟩
  refine comp_bag hb5 ha6 (by omega) RA (fun _ _ _ _ h=>h) (fun i H' hi hb' kp' Z hZ=>?_) (fun am H6 hb6 kp6 hl6 hr6 hy6=>?_)
  ·exact ⟨_,rfl,_,rfl,b,m5,rfl,hb',m5a,by omega,fun r H7 q0 q1 hb7 kp7=>⟨_,_,rfl,rfl,hZ _ _ hb7 kp7 ⟨_,rfl,by omega,by omega⟩⟩⟩
  refine ⟨a6,am,rfl,.inl ⟨SqL.of hy6,fun pa hpa=>?_⟩⟩
  have k6:=(k5.trans kp6).new (o:=.tup am) hpa
  have b6:=hb6.new (o:=.tup am) hpa
  refine ⟨_,rfl,1 + u,rfl,by omega,by omega,fun a7 ha7=>?_⟩
  refine comp_bag b6 ha7 (by omega) RP (fun _ _ _ t h=>by obtain ⟨a,t1,u1,e,h1,h2⟩:=h; exact ⟨a,t1,u1,e,t _ _ h1,h2⟩) (fun i H' hi hb' kp' Z hZ=>?_) (fun pu H7 hb7 kp7 hl7 hr7 hy7=>?_)
  ·exact ⟨_,rfl,b,rfl,hb',fun v d H8 hb8 kp8 tr pu=>hZ _ _ hb8 kp8 (RP.of tr pu)⟩
  refine ⟨a7,pu,rfl,.inl ⟨SqL.of hy7,fun pp hpp=>?_⟩⟩
  have k7:=(k6.trans kp7).new (o:=.tup pu) hpp
  have b7:=hb7.new (o:=.tup pu) hpp
  refine ⟨_,rfl,1 + u,rfl,by omega,by omega,fun a8 ha8=>?_⟩
  refine comp_bag b7 ha8 (by omega) (RW (1 + g)) (fun _ _ _ t h=>by obtain ⟨a,ns,e,h1,h2⟩:=h; exact ⟨a,ns,e,t _ _ h1,h2⟩) (fun i H' hi hb' kp' Z hZ=>?_) (fun ws H8 hb8 kp8 hl8 hw8 hy8=>?_)
  ·exact ⟨_,rfl,_,rfl,b,1 + g,rfl,hb',by omega,by omega,fun q ns H9 hb9 kp9 e1 e2 e3 e4=>hZ _ _ hb9 kp9 ⟨q,ns,rfl,e1,e2,e3,e4⟩⟩
  refine ⟨a8,ws,rfl,.inl ⟨SqL.of hy8,fun pw hpw=>?_⟩⟩
  have k8:=(k7.trans kp8).new (o:=.tup ws) hpw
  have b8:=hb8.new (o:=.tup ws) hpw
  refine ⟨_,rfl,_,rfl,_,rfl,by show 3 ≤ sizeLine; decide,fun p hp=>?_⟩
  have tB:Tm H7 (upd (upd H8 pw (.tup ws)) p (.tup [.ref pa,.ref pp,.ref pw])):=((Tm.new hpp).trans ((kp8.tm b7).trans (Tm.new hpw))).trans (Tm.new hp)
  have tB2:Tm (upd H7 pp (.tup pu)) (upd (upd H8 pw (.tup ws)) p (.tup [.ref pa,.ref pp,.ref pw])):=((kp8.tm b7).trans (Tm.new hpw)).trans (Tm.new hp)
  have tA:Tm (upd H6 pa (.tup am)) (upd (upd H8 pw (.tup ws)) p (.tup [.ref pa,.ref pp,.ref pw])):=(kp7.tm b6).trans tB
  have tC:Tm H8 (upd (upd H8 pw (.tup ws)) p (.tup [.ref pa,.ref pp,.ref pw])):=(Tm.new hpw).trans (Tm.new hp)
  have hpa2:=tA pa _ jb1
  have hpp2:=tB2 pp _ jb1
  have hpw2:=(Tm.new (o:=.tup [.ref pa,.ref pp,.ref pw]) hp) pw _ jb1
  have hgn:((1 + g).toNat:Int)=1 + g:=by omega
  obtain ⟨da,ta,sa⟩:=trAll (b:=b) (ys:=am) fun y hy=>RA.tr (H:=upd (upd H8 pw (.tup ws)) p (.tup [.ref pa,.ref pp,.ref pw])) (hr6 y hy)
  obtain ⟨dp,tp,sp⟩:=trAll (b:=b) (ys:=pu) fun y hy=>RP.tr (H:=upd (upd H8 pw (.tup ws)) p (.tup [.ref pa,.ref pp,.ref pw])) (by obtain ⟨a,t1,u1,e,h1,h2⟩:=hr7 y hy; exact ⟨a,t1,u1,e,tB _ _ h1,h2⟩)
  obtain ⟨dw,tw,sw⟩:=trAll (b:=b) (ys:=ws) fun y hy=>RW.tr (g:=(1 + g).toNat) (H:=upd (upd H8 pw (.tup ws)) p (.tup [.ref pa,.ref pp,.ref pw])) (by obtain ⟨a,ns,e,h1,h2⟩:=hw8 y hy; exact ⟨a,ns,e,tC _ _ h1,by rw [hgn]; exact h2⟩)
  have la:=ta.len
  have lp:=tp.len
  have lw:=tw.len
  have eg:(1 + g).toNat=da.length:=by omega
  rw [eg] at sw
  obtain ⟨sw,spo⟩:=all_both sw
  refine k p da dp dw _ (b8.new hp) (k8.new hp) (.tup jb1 (.cons (.tup hpa2 ta) (.cons (.tup hpp2 tp) (.cons (.tup hpw2 tw) .nil)))) (isMk_of (by omega) (by omega) sa (by omega) (by omega) sp (by omega) sw) spo
end
end K33
namespace KM
open PySem L2 KG EX
def intOf:PyData→Int
 | .int i=>i
 | _=>0
def rowOf:PyData→List Int
 | .tuple rs=>rs.map intOf
 | _=>[]
def rowsOf (wi:List PyData):List (List Int):=wi.map rowOf
end KM
namespace KM
open PySem L2 KG EX
structure Clx (K:PySem.W.Frag) (mg:Str→Option Value) (M De Bu Dl Go Mk Nn Pr Ro Tx No Un:Addr):Prop where
 mgM:mg "MartError"=some (.ref M)
 mgDe:mg "Dear"=some (.ref De)
 mgBu:mg "NoBuyer"=some (.ref Bu)
 mgDl:mg "NoDealing"=some (.ref Dl)
 mgGo:mg "NoGood"=some (.ref Go)
 mgMk:mg "NoMarket"=some (.ref Mk)
 mgNn:mg "NoNumber"=some (.ref Nn)
 mgPr:mg "NoPrices"=some (.ref Pr)
 mgRo:mg "NoRow"=some (.ref Ro)
 mgTx:mg "NoText"=some (.ref Tx)
 mgNo:mg "Nothing"=some (.ref No)
 mgUn:mg "Unwished"=some (.ref Un)
 tyM:PySem.W.typeIn K (.ref M)=some (.type "type")
 bM:PySem.W.mroIn K M (.type "BaseException")=some true
structure ErrOf (K:PySem.W.Frag) (M De Bu Dl Go Mk Nn Pr Ro Tx No Un D:Addr) (i:Nat):Prop where
 kDe:PySem.W.kitOne K (.ref D) (.ref De)=some (decide (i=0))
 kBu:PySem.W.kitOne K (.ref D) (.ref Bu)=some (decide (i=1))
 kDl:PySem.W.kitOne K (.ref D) (.ref Dl)=some (decide (i=2))
 kGo:PySem.W.kitOne K (.ref D) (.ref Go)=some (decide (i=3))
 kMk:PySem.W.kitOne K (.ref D) (.ref Mk)=some (decide (i=4))
 kNn:PySem.W.kitOne K (.ref D) (.ref Nn)=some (decide (i=5))
 kPr:PySem.W.kitOne K (.ref D) (.ref Pr)=some (decide (i=6))
 kRo:PySem.W.kitOne K (.ref D) (.ref Ro)=some (decide (i=7))
 kTx:PySem.W.kitOne K (.ref D) (.ref Tx)=some (decide (i=8))
 kNo:PySem.W.kitOne K (.ref D) (.ref No)=some (decide (i=9))
 kUn:PySem.W.kitOne K (.ref D) (.ref Un)=some (decide (i=10))
 kVa:PySem.W.kitOne K (.ref D) (.type "ValueError")=some true
 ex:PySem.W.excIn K D [.type "ValueError",.type "Exception",.type "BaseException",.type "object"] "ValueError.__new__"=true
 sub:PySem.W.mroIn K D (.ref M)=some true
 ek:ExcK K D
def wordsL:List Str:=["Dear","NoBuyer","NoDealing","NoGood","NoMarket","NoNumber","NoPrices","NoRow","NoText","Nothing","Unwished","+"]
def flagsL (i:Nat):List Bool:=[decide (i=0),decide (i=1),decide (i=2),decide (i=3),decide (i=4),decide (i=5),decide (i=6),decide (i=7),decide (i=8),decide (i=9),decide (i=10),true]
def toldL (i n:Nat):List Str:=((List.range n).filter fun j=>(flagsL i).getD j false).map fun j=>wordsL.getD j ""
theorem toldL_succ (i n:Nat):toldL i (n + 1)=toldL i n ++ if (flagsL i).getD n false=true then [wordsL.getD n ""] else []:=by
 unfold toldL
 rw [filter_succ,List.map_append]
 split <;> simp
theorem toldL_len (i n:Nat):(toldL i n).length ≤ n:=by
 unfold toldL
 rw [List.length_map]
 exact Nat.le_trans (List.length_filter_le _ _) (by simp)
theorem toldL_end:∀ i:Fin 11,toldL i.1 12=[wordsL.getD i.1 "","+"]∧(∀ z ∈ [wordsL.getD i.1 "","+"],z.length ≤ 12):=by decide +kernel
def kindS (i:Nat):Str:=PySem.Txt.join "" [wordsL.getD i "","+"]
theorem strsOf {b:Addr} {H:Hp}:∀ {xs:List V} {zs:List Str},TrVs b H xs (zs.map PyData.str)→xs=zs.map V.str
 | _,[],.nil=>rfl
 | _,_ :: _,.cons h t=>by
  cases h
  rw [List.map_cons,strsOf t]
def spKinds (K:PySem.W.Frag) (M De Bu Dl Go Mk Nn Pr Ro Tx No Un:Addr):Addr→Addr→Sp:=fun ea D vs H Q _=>∃ i,i < 11∧ErrOf K M De Bu Dl Go Mk Nn Pr Ro Tx No Un D i∧vs=[.ref ea]∧∀ H',Stay H H'→Q (.str (kindS i)) H'
end KM
namespace K33
open PySem L2 KG EX KM
section
variable {P:Program} {w:World} {K:PySem.W.Frag} {mg:Str→Option Value} {base:Heap}
theorem scKinds:FnScope ["e","some","words"] ["e"] (ja3 (top 47)):=⟨rfl,rfl,rfl,by decide +kernel,rfl,by decide +kernel,by decide +kernel⟩
theorem ok_kinds {f M De Bu Dl Go Mk Nn Pr Ro Tx No Un:Addr} {fd:FuncData} (F:Fun K "_law_kinds" "_law_kinds" (top 47) f fd) (N:Nm mg) (C:Clx K mg M De Bu Dl Go Mk Nn Pr Ro Tx No Un):FnH P w K mg base 1 f fd ["e"] (spKinds K M De Bu Dl Go Mk Nn Pr Ro Tx No Un):=by
 refine F.okH scKinds (fun ea D vs H Q E h=>?_) (fun cdv A outer s H vs Q E ea D t hd hr h=>?_)
 ·obtain ⟨_,_,_,rfl,_⟩:=h; rfl
 ·obtain ⟨ci,hci,R,rfl,k⟩:=h
  have hp:(ea,excO D t hd) ∈ (cxH P w K mg base ["e","some","words"] "_law_kinds" (ja3 (top 47)) f cdv A outer s H ea D t hd).pn:=List.mem_cons_self
  have qt:Qt (cxH P w K mg base ["e","some","words"] "_law_kinds" (ja3 (top 47)) f cdv A outer s H ea D t hd):=.inr ⟨ea,D,t,hd,hr.hd,hp⟩
  refine ⟨_,jb0 (je4 (i:=1) scKinds.nd rfl (Or.inr rfl) (pe_lst (ja2 (jg0 R.ek hp (pv 0) rfl N.isinstance rfl C.mgDe ja6) (ja2 (jg0 R.ek hp (pv 0) rfl N.isinstance rfl C.mgBu ja6) (ja2 (jg0 R.ek hp (pv 0) rfl N.isinstance rfl C.mgDl ja6) (ja2 (jg0 R.ek hp (pv 0) rfl N.isinstance rfl C.mgGo ja6) ja8))))))
   (jb0 (je4 (i:=1) scKinds.nd rfl (Or.inr rfl) (jc6 op_cat (pv 1) (pe_lst (ja2 (jg0 R.ek hp (pv 0) rfl N.isinstance rfl C.mgMk ja6) (ja2 (jg0 R.ek hp (pv 0) rfl N.isinstance rfl C.mgNn ja6) (ja2 (jg0 R.ek hp (pv 0) rfl N.isinstance rfl C.mgPr ja6) (ja2 (jg0 R.ek hp (pv 0) rfl N.isinstance rfl C.mgRo ja6) ja8)))))))
   (jb0 (je4 (i:=1) scKinds.nd rfl (Or.inr rfl) (jc6 op_cat (pv 1) (pe_lst (ja2 (jg0 R.ek hp (pv 0) rfl N.isinstance rfl C.mgTx ja6) (ja2 (jg0 R.ek hp (pv 0) rfl N.isinstance rfl C.mgNo ja6) (ja2 (jg0 R.ek hp (pv 0) rfl N.isinstance rfl C.mgUn ja6) (ja2 (pe_isEB R.ek hp (pv 0) rfl N.isinstance rfl N.valueError boot_value ja6) ja8)))))))
   (jb0 (je4 (i:=2) scKinds.nd rfl (Or.inr rfl) (pe_lit 3 _ (.list ((wordsL.take 8).map PyData.str)) (by kernel_rfl)))
   (jb0 (je4 (i:=2) scKinds.nd rfl (Or.inr rfl) (jc6 op_cat (pv 2) (pe_lit 3 _ (.list ((wordsL.drop 8).map PyData.str)) (by kernel_rfl))))
   (jb5 (jc9 (peBm0 PySem.F.plainAttrs_str PySem.F.slot_str_join PySem.F.type_str_join (mt_join K) pe_str (ja2 (pe_compR (own:=["k"]) (cap:=["some","words"]) (ix:=[1,2]) (BlkOk.of (ja3 (top 47)).names ["e","some","words"]) qt (piR_range1 rfl N.range (ja2 ja5 ja8))
    (fun C fp s H=>⟨jb2 (i:=0) (show List.Nodup (["k","some","words"]:List Str) by decide +kernel) rfl (Or.inl rfl),pifs_one (jh3 (pe_ix ixL0 (pv 1) (pv 0) (fun _ _=>rfl))),pe_ix ixL0 (pv 2) (pv 0) (fun _ _=>rfl)⟩)) ja8)))))))),?_⟩
  have H0:∃ (L1 L2 L3:List V),L1=[.bl (decide (ci=0)),.bl (decide (ci=1)),.bl (decide (ci=2)),.bl (decide (ci=3))]∧L2=[.bl (decide (ci=4)),.bl (decide (ci=5)),.bl (decide (ci=6)),.bl (decide (ci=7))]∧L3=[.bl (decide (ci=8)),.bl (decide (ci=9)),.bl (decide (ci=10)),.bl true]∧L1 ++ L2 ++ L3=(flagsL ci).map V.bl:=⟨_,_,_,rfl,rfl,rfl,rfl⟩
  obtain ⟨L1,L2,L3,eL1,eL2,eL3,eL⟩:=H0
  refine ⟨_,rfl,rfl,_,R.kDe,_,rfl,rfl,_,R.kBu,_,rfl,rfl,_,R.kDl,_,rfl,rfl,_,R.kGo,by show 4 ≤ sizeLine; decide,fun p1 h1=>?_⟩
  rw [← eL1]
  refine ⟨_,rfl,_,rfl,rfl,_,R.kMk,_,rfl,rfl,_,R.kNn,_,rfl,rfl,_,R.kPr,_,rfl,rfl,_,R.kRo,by show 4 ≤ sizeLine; decide,fun p2 h2=>?_⟩
  rw [← eL2]
  have s12:=(Stay.refl (upd H p1 (.lst L1))).new (o:=.lst L2) h2
  refine ⟨p1,p2,_,_,rfl,rfl,s12 _ _ jb1,jb1,by rw [eL1,eL2,sz]; show 4 + 4 ≤ 16777216; decide,fun p3 h3=>?_⟩
  have s3:Stay H (upd (upd (upd H p1 (.lst L1)) p2 (.lst L2)) p3 (.lst (L1 ++ L2))):=(((Stay.refl H).new h1).new h2).new h3
  have e3:(upd (upd (upd H p1 (.lst L1)) p2 (.lst L2)) p3 (.lst (L1 ++ L2))) p3=some (.lst (L1 ++ L2)):=jb1
  generalize upd (upd (upd H p1 (.lst L1)) p2 (.lst L2)) p3 (.lst (L1 ++ L2))=H3 at s3 e3
  refine ⟨_,rfl,_,rfl,rfl,_,R.kTx,_,rfl,rfl,_,R.kNo,_,rfl,rfl,_,R.kUn,_,rfl,rfl,_,R.kVa,by show 4 ≤ sizeLine; decide,fun p4 h4=>?_⟩
  rw [← eL3]
  refine ⟨p3,p4,_,_,rfl,rfl,((Stay.refl H3).new h4) _ _ e3,jb1,by rw [eL1,eL2,eL3,sz]; show 8 + 4 ≤ 16777216; decide,fun p5 h5=>?_⟩
  rw [eL]
  have s5:Stay H (upd (upd H3 p4 (.lst L3)) p5 (.lst ((flagsL ci).map V.bl))):=(s3.new h4).new h5
  have e5:(upd (upd H3 p4 (.lst L3)) p5 (.lst ((flagsL ci).map V.bl))) p5=some (.lst ((flagsL ci).map V.bl)):=jb1
  generalize upd (upd H3 p4 (.lst L3)) p5 (.lst ((flagsL ci).map V.bl))=H5 at s5 e5
  have nb5:H5 p5 ≠ none:=by rw [e5]; simp
  intro v6 H6 s6 t6 _
  have t6':=t6 p5 nb5
  cases t6' with
  | @lst q6 xs6 _ n6 e6 l6 =>
  refine ⟨_,rfl,?_⟩
  intro v7 H7 s7 t7 _
  cases t7 p5 (ne_stay s6 nb5) with
  | @lst q7 xs7 _ n7 e7 l7 =>
  have z6:=strsOf l6
  have z7:=strsOf l7
  subst z6 z7
  refine ⟨q6,q7,_,_,rfl,rfl,s7 _ _ e6,e7,?_,fun p8 h8=>?_⟩
  ·rw [List.length_map,List.length_map,sz]; decide
  have e8:(upd H7 p8 (.lst ((wordsL.take 8).map V.str ++ (wordsL.drop 8).map V.str))) p8=some (.lst (wordsL.map V.str)):=by
   rw [jb1,← List.map_append,List.take_append_drop]
  have s8:Stay H5 (upd H7 p8 (.lst ((wordsL.take 8).map V.str ++ (wordsL.drop 8).map V.str))):=(s6.trans s7).new h8
  generalize upd H7 p8 (.lst ((wordsL.take 8).map V.str ++ (wordsL.drop 8).map V.str))=H8 at e8 s8
  have e58:=s8 _ _ e5
  refine ⟨rfl,12,rfl,by decide,by decide,fun acc hacc=>?_⟩
  refine comp_range (fun i ys H'=>Stay H8 H'∧ys=(toldL ci i).map V.str) ⟨(Stay.refl H8).acc hacc,rfl⟩ ?_ ?_
  ·rintro i ys H' hi hy ⟨st,rfl⟩
   have hi':i < 12:=hi
   have ef:((flagsL ci).map V.bl)[i]?=some (V.bl ((flagsL ci).getD i false)):=by
    rw [List.getElem?_map]
    have hl:i < (flagsL ci).length:=hi'
    rw [List.getElem?_eq_getElem hl]
    simp [List.getD,List.getElem?_eq_getElem hl]
   have ew:(wordsL.map V.str)[i]?=some (V.str (wordsL.getD i "")):=by
    rw [List.getElem?_map]
    have hl:i < wordsL.length:=hi'
    rw [List.getElem?_eq_getElem hl]
    simp [List.getD,List.getElem?_eq_getElem hl]
   have af:=jg6 ef
   have aw:=jg6 ew
   have e0:(0 + (i:Int))=((i:Nat):Int):=by omega
   rw [← e0] at af aw
   refine ⟨_,rfl,_,rfl,p5,_,_,_,rfl,rfl,SqL.of (st _ _ e58),af,_,rfl,?_⟩
   cases hf:(flagsL ci).getD i false with
   | true =>
    refine iteT ⟨_,rfl,_,rfl,p8,_,_,_,rfl,rfl,SqL.of (st _ _ e8),aw,_,hy,?_,Cn.of jb1 ⟨st.acc hacc,?_⟩⟩
    ·rw [List.length_map,sz]; have:=toldL_len ci i; omega
    ·rw [toldL_succ,hf,List.map_append]; rfl
   | false =>
    refine iteF (Cn.of hy ⟨st,?_⟩)
    rw [toldL_succ,hf]; simp
  ·rintro ys H' hy ⟨st,rfl⟩
   obtain ⟨te,tb⟩:=toldL_end ⟨ci,hci⟩
   dsimp only at te tb
   rw [show (12:Int).toNat=12 from rfl,te] at hy
   exact ⟨"",acc,[wordsL.getD ci "","+"],rfl,rfl,SqL.of hy,tb,by decide,by show 2 ≤ 1000; decide,k _ (s5.trans (s8.trans st))⟩
end
end K33
namespace KM
open PySem L2 KG EX
theorem low_uniq {a b X Y:Int} (hb:0 < b) (hY:0 < Y) (g1:Int.gcd a b=1) (g2:Int.gcd X Y=1) (h:X * b=a * Y):X=a∧Y=b:=by
 have d1:Y ∣ b:=by
  have q:Y ∣ X * b:=⟨a,by rw [h,Int.mul_comm]⟩
  rw [← Int.dvd_gcd_mul_iff_dvd_mul,Int.gcd_comm,g2] at q
  simpa using q
 have d2:b ∣ Y:=by
  have q:b ∣ a * Y:=⟨X,by rw [← h,Int.mul_comm]⟩
  rw [← Int.dvd_gcd_mul_iff_dvd_mul,Int.gcd_comm,g1] at q
  simpa using q
 have e:Y=b:=Int.dvd_antisymm (by omega) (by omega) d1 d2
 subst e
 exact ⟨Int.eq_of_mul_eq_mul_right (by omega) h,rfl⟩
theorem den_pos (q:Rat):(0:Int) < (q.den:Int):=by have:=q.den_nz; omega
theorem rat_gcd (q:Rat):Int.gcd q.num (q.den:Int)=1:=q.reduced
theorem nf_rat {T U:Int} (hU:U ≠ 0):nx T U=(Rat.divInt T U).num∧ny T U=((Rat.divInt T U).den:Int):=by
 obtain ⟨n1,n2,n3,_⟩:=nf_spec (t:=T) hU
 have hd:=den_pos (Rat.divInt T U)
 have h1:T * ((Rat.divInt T U).den:Int)=(Rat.divInt T U).num * U:=by
  rw [← Rat.divInt_eq_divInt_iff hU (by omega),Rat.num_divInt_den]
 refine low_uniq hd n2 (rat_gcd _) n3 ?_
 have e:nx T U * ((Rat.divInt T U).den:Int) * U=(Rat.divInt T U).num * ny T U * U:=by
  calc nx T U * ((Rat.divInt T U).den:Int) * U=nx T U * U * ((Rat.divInt T U).den:Int):=by rw [Int.mul_right_comm]
   _=T * ny T U * ((Rat.divInt T U).den:Int):=by rw [n1]
   _=T * ((Rat.divInt T U).den:Int) * ny T U:=by rw [Int.mul_right_comm]
   _=(Rat.divInt T U).num * U * ny T U:=by rw [h1]
   _=(Rat.divInt T U).num * ny T U * U:=by rw [Int.mul_right_comm]
 exact Int.eq_of_mul_eq_mul_right hU e
abbrev qO (q:Rat):HO:=.tup [.int q.num,.int (q.den:Int)]
def Rb (k:Nat) (q:Rat):Prop:=Bd k q.num∧Bd k (q.den:Int)
theorem rat_pos {q:Rat}:0 < q ↔ 0 < q.num:=by
 rw [Rat.lt_iff]; simp
theorem rat_of {t u:Int} (hu:0 < u) (hg:Int.gcd t u=1):∃ q:Rat,q.num=t∧(q.den:Int)=u:=by
 refine ⟨⟨t,u.toNat,by omega,?_⟩,rfl,by show ((u.toNat:Nat):Int)=u; omega⟩
 show Nat.gcd t.natAbs u.toNat=1
 have:u.toNat=u.natAbs:=by omega
 rw [this]; exact hg
def spLf:Sp:=fun vs H Q _=>∃ (t u:Int),vs=[.int t,.int u]∧0 < u∧Bd 8000 u∧∀ p,H p=none→Q (.ref p) (upd H p (qO (Rat.divInt t u)))
theorem sg_bd {k:Nat} {t u:Int} (h:Bd k u) (hu:u ≠ 0):Bd k (sg t u):=by
 refine h.le ?_
 have g0:0 < Int.gcd t u:=Int.gcd_pos_of_ne_zero_right t hu
 have e:(sg t u).natAbs=Int.gcd t u:=by unfold sg; split <;> omega
 rw [e]
 exact Nat.le_of_dvd (by omega) (Int.gcd_dvd_natAbs_right t u)
theorem abs_gcd0 {a:Int}:(if a < 0 then -a else a)=(Int.gcd a 0:Int):=by
 rw [Int.gcd_zero_right]
 split <;> omega
end KM
namespace K33
open PySem L2 KG EX KM
section
variable {P:Program} {w:World} {K:PySem.W.Frag} {mg:Str→Option Value} {base:Heap}
theorem scLf:FnScope ["top","bottom","one","other","by"] ["top","bottom"] (ja3 (top 43)):=⟨rfl,rfl,rfl,by decide +kernel,rfl,by decide +kernel,by decide +kernel⟩
theorem ok_lf {f:Addr} {fd:FuncData} (F:Fun K "_law_frac" "_law_frac" (top 43) f fd) (B:Nm mg):FnOk P w K mg base CX0 1 f fd ["top","bottom"] spLf:=by
 refine F.ok scLf (fun vs H Q E h=>?_) (fun cdv A outer s H vs Q E hr h=>?_)
 ·obtain ⟨t,u,rfl,_⟩:=h; rfl
 ·obtain ⟨t,u,rfl,u0,u1,k⟩:=h
  refine ⟨_,jb0 (ps_par (i:=2) (j:=3) rfl scLf.nd rfl rfl (by decide) rfl rfl (ja2 (pv 0) (ja2 (pv 1) ja8)) (by rfl))
   (jb0 (ps_while PassesOwn.never (jf0 op_ne (pv 3) ja5 (nomark _)) (jb5 (ps_par (i:=2) (j:=3) rfl scLf.nd rfl rfl (by decide) rfl rfl (ja2 (pv 3) (ja2 (jc6 op_modN (pv 2) (pv 3)) ja8)) (by rfl))))
   (jb0 (je4 (i:=4) scLf.nd rfl (Or.inl rfl) (jc6 op_mul (jd2 call_abs (by rfl) B.abs boot_abs (ja2 (pv 2) ja8)) (jc6 op_sub ja5 (jc6 op_mul ja5 (jg1 call_int1 (by rfl) B.int boot_int (ja2 (pe_cmpR op_lt (pv 1) ja5 (nomark _)) ja8))))))
   (jb5 (jc9 (pe_tup (ja2 (jc6 op_fdivBN (pv 0) (pv 4)) (ja2 (jc6 op_fdivBN (pv 1) (pv 4)) ja8))))))),?_⟩
  have hu:u ≠ 0:=by omega
  obtain ⟨q1,q2⟩:=nf_rat (T:=t) hu
  have k':∀ p,H p=none→Q (.ref p) (upd H p (.tup [.int (nx t u),.int (ny t u)])):=fun p hp=>by rw [q1,q2]; exact k p hp
  have hs:=(nf_spec (t:=t) hu).2.2.2.1
  have hsb:=sg_bd (t:=t) u1 hu
  have esg:(Int.gcd t u:Int)=sg t u:=by unfold sg; rw [if_neg (by omega)]
  refine ⟨_,rfl,_,rfl,_,_,rfl,?_⟩
  refine while_by (fun σ H'=>H'=H∧∃ a c:Int,σ=[some (.int t),some (.int u),some (.int a),some (.int c),none]∧Int.gcd a c=Int.gcd t u)
   (fun σ _=>match σ with | [_,_,_,some (.int c),_]=>c.natAbs | _=>0) ⟨rfl,t,u,rfl,rfl⟩ ?_ ?_
  ·rintro σ H' ⟨rfl,a,c,rfl,e⟩
   refine ⟨_,rfl,rfl,_,rfl,?_⟩
   by_cases hc:c=0
   ·subst hc
    refine iteF ?_
    refine ⟨_,rfl,_,rfl,_,rfl,_,_,rfl,rfl,.inr ⟨_,rfl,_,_,rfl,rfl,.inl ⟨by decide,by decide⟩,_,_,rfl,rfl,?_⟩⟩
    have e2:decide (u < 0)=false:=decide_eq_false (by omega)
    rw [abs_gcd0,e,e2,esg]
    have e3:sg t u * (1 - 2 * (if false=true then (1:Int) else 0))=sg t u:=by simp
    refine ⟨_,_,rfl,rfl,.inr ⟨by decide,by decide⟩,?_⟩
    show gName 4 (V.int (sg t u * (1 - 2 * (if false=true then (1:Int) else 0)))) _ _ _
    rw [e3]
    exact ⟨_,rfl,_,rfl,_,_,rfl,rfl,⟨hs,hsb⟩,_,rfl,_,rfl,_,_,rfl,rfl,⟨hs,hsb⟩,by show 2 ≤ sizeLine; decide,fun p hp=>k' p hp⟩
   ·have e1:(!decide (V.int c=V.int 0))=true:=by simp [hc]
    rw [e1]
    refine iteT ?_
    exact ⟨_,rfl,_,rfl,_,rfl,_,_,rfl,rfl,hc,_,_,rfl,⟨rfl,c,a.fmod c,rfl,gcd_fmod.trans e⟩,fmod_lt hc⟩
  ·rintro σ H' Q1 Q2 himp ⟨v,e,sc,kk,ek,q⟩
   exact ⟨v,e,sc,kk,ek,himp _ _ q⟩
end
end K33
namespace KM
open PySem L2 KG EX
def qD (q:Rat):PyData:=.tuple [.int q.num,.int (q.den:Int)]
end KM
namespace KM
open PySem L2 KG EX
end KM
namespace L2
open PySem PySem.Spec PyProof.Rows
end L2
namespace KM
open PySem L2 KG EX
def rowD (ns:List Int):PyData:=.tuple (ns.map PyData.int)
theorem dep_row (ns:List Int):(rowD ns).depth ≤ 1:=by
 unfold rowD
 simp [PyData.depth,depInts]
theorem dep_rows:∀ M:List (List Int),PyData.depthAll (M.map rowD) ≤ 1
 | []=>by simp [PyData.depthAll]
 | r :: M=>by
  have h1:=dep_row r
  have h2:=dep_rows M
  simp [PyData.depthAll]; omega
theorem dep_mat (M:List (List Int)):(PyData.tuple (M.map rowD)).depth ≤ 2:=by
 have:=dep_rows M
 simp [PyData.depth]; omega
theorem dep_q (q:Rat):(qD q).depth ≤ 1:=by unfold qD; simp [PyData.depth,PyData.depthAll]
end KM
namespace KM
open PySem L2 KG EX
theorem purse_q {d:PyData} (h:jc0 d=true):∃ q:Rat,d=qD q∧0 < q∧Rb 20 q:=by
 obtain ⟨t,u,rfl⟩:=purseShape h
 have h':(decide (1 ≤ u) && decide (Int.gcd t u=1) && decide (1 ≤ t) && decide (t ≤ 1000000) && decide (u ≤ 1000000))=true:=h
 simp only [Bool.and_eq_true,decide_eq_true_eq] at h'
 obtain ⟨⟨⟨⟨h1,h2⟩,h3⟩,h4⟩,h5⟩:=h'
 obtain ⟨q,e1,e2⟩:=rat_of (t:=t) (u:=u) (by omega) h2
 refine ⟨q,by unfold qD; rw [e1,e2],rat_pos.mpr (by omega),?_,?_⟩
 ·unfold Bd; omega
 ·unfold Bd; omega
end KM
namespace KM
open PySem L2 KG EX
theorem boot_zip:bootBuiltins "zip"=some (.type "zip"):=by first | rfl | kernel_rfl | decide +kernel
end KM
namespace KM
open PySem L2 KG EX
end KM
namespace KM
open PySem L2 KG EX
end KM
namespace KM
open PySem L2 KG EX
end KM
namespace KM
open PySem L2 KG EX
end KM
namespace KM
end KM
namespace K33
open PySem L2 KG EX KM
section
variable {P:Program} {w:World} {K:PySem.W.Frag} {mg:Str→Option Value} {base:Heap}
end
end K33
namespace K33
open PySem L2 KG EX KM
section
variable {P:Program} {w:World} {K:PySem.W.Frag} {mg:Str→Option Value} {base:Heap}
theorem scAmount:FnScope ["thing"] ["thing"] (ja3 (top 28)):=⟨rfl,rfl,rfl,by decide +kernel,rfl,by decide +kernel,by decide +kernel⟩
theorem ok_amount {f fW:Addr} {fd dW:FuncData} (F:Fun K "is_amount" "is_amount" (top 28) f fd) {tk:Tok} (N:Nm mg) (hc:mg "MOST_PIECES"=some (.int 60 tk)) (W:Cal K mg P w base "is_whole" 1 ["thing"] (spT isWhole) fW dW):FnOk P w K mg base CX0 2 f fd ["thing"] (spT (within 1 60)):=by
 refine F.ok scAmount (fun vs H Q E h=>?_) (fun cdv A outer s H vs Q E hr h=>?_)
 ·obtain ⟨b,v,d,rfl,_⟩:=h; rfl
 ·obtain ⟨b,v,d,rfl,hT,k⟩:=h
  refine ⟨_,jb5 (jc9 (pe_and (jb8 W.ok hr rfl W.mg W.kp W.bd .nil pass0 (ja2 (pv 0) ja8)) (pe_one (pe_chain op_le op_le ja5 (pv 0) (pe_glob (v:=.int 60) rfl hc ⟨_,rfl⟩))))),?_⟩
  refine ⟨_,rfl,b,v,d,rfl,hT,fun H1 s1=>?_⟩
  refine ⟨_,rfl,?_⟩
  have hk:=k H1 s1
  rcases intCase hT with hn | ⟨i,rfl,rfl⟩
  ·rw [hn]; rw [within_no hn] at hk
   exact iteF hk
  ·refine iteT ⟨_,rfl,_,_,rfl,rfl,_,rfl,?_⟩
   have hk':Q (.bl (decide ((1:Int) ≤ i) && decide (i ≤ 60))) H1:=hk
   cases h1:decide ((1:Int) ≤ i) with
   | true=>rw [h1] at hk'; exact iteT ⟨_,_,rfl,rfl,hk'⟩
   | false=>rw [h1] at hk'; exact iteF hk'
theorem scMwish:FnScope ["thing"] ["thing"] (ja3 (top 30)):=⟨rfl,rfl,rfl,by decide +kernel,rfl,by decide +kernel,by decide +kernel⟩
theorem ok_wish {f fW:Addr} {fd dW:FuncData} (F:Fun K "is_wish" "is_wish" (top 30) f fd) {tk:Tok} (N:Nm mg) (hc:mg "MOST_WISH"=some (.int 100 tk)) (W:Cal K mg P w base "is_whole" 1 ["thing"] (spT isWhole) fW dW):FnOk P w K mg base CX0 2 f fd ["thing"] (spT (within 0 100)):=by
 refine F.ok scMwish (fun vs H Q E h=>?_) (fun cdv A outer s H vs Q E hr h=>?_)
 ·obtain ⟨b,v,d,rfl,_⟩:=h; rfl
 ·obtain ⟨b,v,d,rfl,hT,k⟩:=h
  refine ⟨_,jb5 (jc9 (pe_and (jb8 W.ok hr rfl W.mg W.kp W.bd .nil pass0 (ja2 (pv 0) ja8)) (pe_one (pe_chain op_le op_le ja5 (pv 0) (pe_glob (v:=.int 100) rfl hc ⟨_,rfl⟩))))),?_⟩
  refine ⟨_,rfl,b,v,d,rfl,hT,fun H1 s1=>?_⟩
  refine ⟨_,rfl,?_⟩
  have hk:=k H1 s1
  rcases intCase hT with hn | ⟨i,rfl,rfl⟩
  ·rw [hn]; rw [within_no hn] at hk
   exact iteF hk
  ·refine iteT ⟨_,rfl,_,_,rfl,rfl,_,rfl,?_⟩
   have hk':Q (.bl (decide ((0:Int) ≤ i) && decide (i ≤ 100))) H1:=hk
   cases h1:decide ((0:Int) ≤ i) with
   | true=>rw [h1] at hk'; exact iteT ⟨_,_,rfl,rfl,hk'⟩
   | false=>rw [h1] at hk'; exact iteF hk'
theorem scMpurse:FnScope ["thing","top","bottom"] ["thing"] (ja3 (top 29)):=⟨rfl,rfl,rfl,by decide +kernel,rfl,by decide +kernel,by decide +kernel⟩
theorem ok_ispurse {f fW:Addr} {fd dW:FuncData} (F:Fun K "is_purse" "is_purse" (top 29) f fd) {tk:Tok} (N:Nm mg) (hc:mg "MOST_IN_PURSE"=some (.int 1000000 tk)) (W:Cal K mg P w base "is_fraction" 2 ["thing"] (spT isFrac) fW dW):FnOk P w K mg base CX0 3 f fd ["thing"] (spT jc0):=by
 refine F.ok scMpurse (fun vs H Q E h=>?_) (fun cdv A outer s H vs Q E hr h=>?_)
 ·obtain ⟨b,v,d,rfl,_⟩:=h; rfl
 ·obtain ⟨b,v,d,rfl,hT,k⟩:=h
  refine ⟨_,jb0 (ps_if (jg7 (jh3 (jb8 W.ok hr rfl W.mg W.kp W.bd .nil pass0 (ja2 (pv 0) ja8)))) (jb5 (jc9 pe_bl)) je5)
   (jb0 (ps_asg (pv 0) (pgTup0 rfl (jg8 (jb2 (i:=1) scMpurse.nd rfl (Or.inl rfl)) (jg8 (jb2 (i:=2) scMpurse.nd rfl (Or.inl rfl)) pgs_nil))))
   (jb5 (jc9 (pe_and (pe_chain op_le op_le ja5 (pv 1) (pe_glob (v:=.int 1000000) rfl hc ⟨_,rfl⟩)) (pe_one (pe_cmpR op_le (pv 2) (pe_glob (v:=.int 1000000) rfl hc ⟨_,rfl⟩) (nomark _))))))),?_⟩
  refine ⟨_,rfl,b,v,d,rfl,hT,fun H1 s1=>?_⟩
  refine ⟨_,rfl,?_⟩
  have hk:=k H1 s1
  cases hf:isFrac d with
  | false=>rw [purse_frac hf] at hk; exact iteT hk
  | true =>
   refine iteF ?_
   obtain ⟨t,u,rfl,hu,hg⟩:=fracShape hf
   have hT1:=hT.stay s1
   cases hT1 with
   | tup ha hs =>
   cases hs with
   | cons hx hs =>
   cases hs with
   | cons hy hs =>
   cases hs
   cases hx
   cases hy
   refine ⟨_,rfl,_,_,rfl,SqT.of ha,rfl,_,_,rfl,_,_,rfl,rfl,?_⟩
   have e:jc0 (.tuple [.int t,.int u])=(decide (1 ≤ t) && decide (t ≤ 1000000) && decide (u ≤ 1000000)):=by
    show (decide (1 ≤ u) && decide (Int.gcd t u=1) && decide (1 ≤ t) && decide (t ≤ 1000000) && decide (u ≤ 1000000))=_
    rw [decide_eq_true hu,decide_eq_true hg]; rfl
   rw [e] at hk
   refine ⟨_,rfl,_,_,rfl,rfl,_,rfl,?_⟩
   cases h1:decide (1 ≤ t) with
   | false=>rw [h1] at hk; exact iteF ⟨_,rfl,iteF hk⟩
   | true =>
    rw [h1] at hk
    refine iteT ⟨_,_,rfl,rfl,_,rfl,?_⟩
    cases h2:decide (t ≤ 1000000) with
    | false=>rw [h2] at hk; exact iteF hk
    | true=>rw [h2] at hk; exact iteT ⟨_,rfl,_,_,rfl,rfl,hk⟩
theorem scMrow:FnScope ["thing","goods"] ["thing","goods"] (ja3 (top 27)):=⟨rfl,rfl,rfl,by decide +kernel,rfl,by decide +kernel,by decide +kernel⟩
theorem ok_wishrow {f fW:Addr} {fd dW:FuncData} (F:Fun K "is_wish_row" "is_wish_row" (top 27) f fd) (N:Nm mg) (Z:IsK K) (W:Cal K mg P w base "is_wish" 2 ["thing"] (spT (within 0 100)) fW dW):FnOk P w K mg base CX0 3 f fd ["thing","goods"] (spRow 0 100):=by
 refine F.ok scMrow (fun vs H Q E h=>?_) (fun cdv A outer s H vs Q E hr h=>?_)
 ·obtain ⟨b,v,d,n,rfl,_⟩:=h; rfl
 ·obtain ⟨b,v,d,n,rfl,hn6,hT,k⟩:=h
  refine ⟨_,jb0 (ps_if (PW.pt (pw_or (jg7 (jh3 (pIsi K (pv 0) rfl N.isinstance rfl N.tuple jc1 ja6))) (pw_or1 (jf0 op_ne (jd2 cLen0 (by rfl) N.len PySem.boot_len (ja2 (pv 0) ja8)) (pv 1) (nomark _))))) (jb5 (jc9 pe_bl)) je5)
   (jb5 (jc9 (jd2 (cAll0 rfl) (by rfl) N.all boot_all (ja2 (pe_comp (own:=["part"]) (cap:=[]) (ix:=[]) (BlkOk.of (ja3 (top 27)).names ["thing","goods"]) rfl (piT0 (pv 0))
    (fun C fp s H=>⟨jb2 (i:=0) (show List.Nodup (["part"]:List Str) by decide +kernel) rfl (Or.inl rfl),jf8,jb8 W.ok hr rfl W.mg W.kp W.bd .nil pass0 (ja2 (pv 0) ja8)⟩)) ja8)))),?_⟩
  obtain ⟨t1,ty1,e1⟩:=ist Z hT
  refine ⟨_,rfl,t1,_,ty1,e1,_,rfl,?_⟩
  rcases tupCase hT with hn | ⟨a,xs,ds,rfl,rfl,ha,hs⟩
  ·have hk:=k H (Stay.refl H)
   rw [hn]; rw [isRow_no hn] at hk
   exact iteT (iteT hk)
  refine iteF ?_
  have hlen:=hs.len
  refine ⟨_,rfl,a,xs,rfl,.inr (SqT.of ha),_,rfl,rfl,_,rfl,?_⟩
  by_cases hl:xs.length=n
  case neg =>
   rw [vint_ne hl]
   have e3:isRow n 0 100 (.tuple ds)=false:=by
    show (decide (ds.length=n) && _)=false
    rw [decide_eq_false (by omega)]; rfl
   have hk:=k H (Stay.refl H)
   rw [e3] at hk
   exact iteT hk
  rw [hl,vint_eq]
  refine iteF ?_
  refine ⟨_,rfl,a,rfl,⟨xs,SqT.of ha⟩,fun acc hacc=>?_⟩
  refine comp_bools (within 0 100) hs ha hacc (by omega) (fun x d H' st hx _ Z hZ=>⟨_,rfl,b,x,d,rfl,hx,fun H5 s5=>hZ H5 s5⟩) (fun H' st hy=>?_)
  refine ⟨acc,_,rfl,.inl (SqL.of hy),plain_bools,?_⟩
  rw [all_bools]
  have hk:=k H' st
  have e3:isRow n 0 100 (.tuple ds)=ds.all (within 0 100):=by
   show (decide (ds.length=n) && _)=_
   rw [decide_eq_true (by omega)]; rfl
  rw [e3] at hk
  exact hk
theorem scMas:FnScope ["thing"] ["thing"] (ja3 (top 24)):=⟨rfl,rfl,rfl,by decide +kernel,rfl,by decide +kernel,by decide +kernel⟩
theorem ok_amounts {f fW:Addr} {fd dW:FuncData} (F:Fun K "are_amounts" "are_amounts" (top 24) f fd) {tk:Tok} (N:Nm mg) (hc:mg "MOST_GOODS"=some (.int 6 tk)) (Z:IsK K) (W:Cal K mg P w base "is_amount" 2 ["thing"] (spT (within 1 60)) fW dW):FnOk P w K mg base CX0 3 f fd ["thing"] (spT (isAs (within 1 60))):=by
 refine F.ok scMas (fun vs H Q E h=>?_) (fun cdv A outer s H vs Q E hr h=>?_)
 ·obtain ⟨b,v,d,rfl,_⟩:=h; rfl
 ·obtain ⟨b,v,d,rfl,hT,k⟩:=h
  refine ⟨_,jb0 (ps_if (PW.pt (pw_or (jg7 (jh3 (pIsi K (pv 0) rfl N.isinstance rfl N.tuple jc1 ja6))) (pw_or1 (jg7 (pt_chain op_le op_le ja5 (jd2 cLen0 (by rfl) N.len PySem.boot_len (ja2 (pv 0) ja8)) (pe_glob (v:=.int 6) rfl hc ⟨_,rfl⟩)))))) (jb5 (jc9 pe_bl)) je5)
   (jb5 (jc9 (jd2 (cAll0 rfl) (by rfl) N.all boot_all (ja2 (pe_comp (own:=["part"]) (cap:=[]) (ix:=[]) (BlkOk.of (ja3 (top 24)).names ["thing"]) rfl (piT0 (pv 0))
    (fun C fp s H=>⟨jb2 (i:=0) (show List.Nodup (["part"]:List Str) by decide +kernel) rfl (Or.inl rfl),jf8,jb8 W.ok hr rfl W.mg W.kp W.bd .nil pass0 (ja2 (pv 0) ja8)⟩)) ja8)))),?_⟩
  obtain ⟨t1,ty1,e1⟩:=ist Z hT
  refine ⟨_,rfl,t1,_,ty1,e1,_,rfl,?_⟩
  rcases tupCase hT with hn | ⟨a,xs,ds,rfl,rfl,ha,hs⟩
  ·have hk:=k H (Stay.refl H)
   rw [hn]; rw [isAs_no hn] at hk
   exact iteT (iteT hk)
  refine iteF ?_
  have hlen:=hs.len
  refine ⟨_,rfl,a,xs,rfl,.inr (SqT.of ha),_,_,rfl,rfl,_,rfl,?_⟩
  have no:¬ (1 ≤ ds.length∧ds.length ≤ 6)→Q (.bl false) H:=fun hz=>by
   have hk:=k H (Stay.refl H)
   have e3:isAs (within 1 60) (.tuple ds)=false:=by
    show (decide (1 ≤ ds.length) && decide (ds.length ≤ 6) && _)=false
    cases h1:decide (1 ≤ ds.length) with
    | false=>rfl
    | true =>
     rw [decide_eq_false (fun z=>hz ⟨of_decide_eq_true h1,z⟩)]; rfl
   rw [e3] at hk; exact hk
  by_cases h1:(1:Int) ≤ (xs.length:Int)
  case neg =>
   rw [decide_eq_false h1]
   exact iteF ⟨_,rfl,iteT (no (by omega))⟩
  rw [decide_eq_true h1]
  refine iteT ⟨_,_,rfl,rfl,_,rfl,?_⟩
  by_cases h2:(xs.length:Int) ≤ 6
  case neg =>
   rw [decide_eq_false h2]
   exact iteT (no (by omega))
  rw [decide_eq_true h2]
  refine iteF ?_
  refine ⟨_,rfl,a,rfl,⟨xs,SqT.of ha⟩,fun acc hacc=>?_⟩
  refine comp_bools (within 1 60) hs ha hacc (by omega) (fun x d H' st hx _ Z hZ=>⟨_,rfl,b,x,d,rfl,hx,fun H5 s5=>hZ H5 s5⟩) (fun H' st hy=>?_)
  refine ⟨acc,_,rfl,.inl (SqL.of hy),plain_bools,?_⟩
  rw [all_bools]
  have hk:=k H' st
  have e3:isAs (within 1 60) (.tuple ds)=ds.all (within 1 60):=by
   show (decide (1 ≤ ds.length) && decide (ds.length ≤ 6) && _)=_
   rw [decide_eq_true (show 1 ≤ ds.length by omega),decide_eq_true (show ds.length ≤ 6 by omega)]; rfl
  rw [e3] at hk
  exact hk
theorem scMps:FnScope ["thing"] ["thing"] (ja3 (top 25)):=⟨rfl,rfl,rfl,by decide +kernel,rfl,by decide +kernel,by decide +kernel⟩
theorem ok_purses {f fW:Addr} {fd dW:FuncData} (F:Fun K "are_purses" "are_purses" (top 25) f fd) {tk:Tok} (N:Nm mg) (hc:mg "MOST_BUYERS"=some (.int 6 tk)) (Z:IsK K) (W:Cal K mg P w base "is_purse" 3 ["thing"] (spT jc0) fW dW):FnOk P w K mg base CX0 4 f fd ["thing"] (spT (isAs jc0)):=by
 refine F.ok scMps (fun vs H Q E h=>?_) (fun cdv A outer s H vs Q E hr h=>?_)
 ·obtain ⟨b,v,d,rfl,_⟩:=h; rfl
 ·obtain ⟨b,v,d,rfl,hT,k⟩:=h
  refine ⟨_,jb0 (ps_if (PW.pt (pw_or (jg7 (jh3 (pIsi K (pv 0) rfl N.isinstance rfl N.tuple jc1 ja6))) (pw_or1 (jg7 (pt_chain op_le op_le ja5 (jd2 cLen0 (by rfl) N.len PySem.boot_len (ja2 (pv 0) ja8)) (pe_glob (v:=.int 6) rfl hc ⟨_,rfl⟩)))))) (jb5 (jc9 pe_bl)) je5)
   (jb5 (jc9 (jd2 (cAll0 rfl) (by rfl) N.all boot_all (ja2 (pe_comp (own:=["part"]) (cap:=[]) (ix:=[]) (BlkOk.of (ja3 (top 25)).names ["thing"]) rfl (piT0 (pv 0))
    (fun C fp s H=>⟨jb2 (i:=0) (show List.Nodup (["part"]:List Str) by decide +kernel) rfl (Or.inl rfl),jf8,jb8 W.ok hr rfl W.mg W.kp W.bd .nil pass0 (ja2 (pv 0) ja8)⟩)) ja8)))),?_⟩
  obtain ⟨t1,ty1,e1⟩:=ist Z hT
  refine ⟨_,rfl,t1,_,ty1,e1,_,rfl,?_⟩
  rcases tupCase hT with hn | ⟨a,xs,ds,rfl,rfl,ha,hs⟩
  ·have hk:=k H (Stay.refl H)
   rw [hn]; rw [isAs_no hn] at hk
   exact iteT (iteT hk)
  refine iteF ?_
  have hlen:=hs.len
  refine ⟨_,rfl,a,xs,rfl,.inr (SqT.of ha),_,_,rfl,rfl,_,rfl,?_⟩
  have no:¬ (1 ≤ ds.length∧ds.length ≤ 6)→Q (.bl false) H:=fun hz=>by
   have hk:=k H (Stay.refl H)
   have e3:isAs jc0 (.tuple ds)=false:=by
    show (decide (1 ≤ ds.length) && decide (ds.length ≤ 6) && _)=false
    cases h1:decide (1 ≤ ds.length) with
    | false=>rfl
    | true =>
     rw [decide_eq_false (fun z=>hz ⟨of_decide_eq_true h1,z⟩)]; rfl
   rw [e3] at hk; exact hk
  by_cases h1:(1:Int) ≤ (xs.length:Int)
  case neg =>
   rw [decide_eq_false h1]
   exact iteF ⟨_,rfl,iteT (no (by omega))⟩
  rw [decide_eq_true h1]
  refine iteT ⟨_,_,rfl,rfl,_,rfl,?_⟩
  by_cases h2:(xs.length:Int) ≤ 6
  case neg =>
   rw [decide_eq_false h2]
   exact iteT (no (by omega))
  rw [decide_eq_true h2]
  refine iteF ?_
  refine ⟨_,rfl,a,rfl,⟨xs,SqT.of ha⟩,fun acc hacc=>?_⟩
  refine comp_bools jc0 hs ha hacc (by omega) (fun x d H' st hx _ Z hZ=>⟨_,rfl,b,x,d,rfl,hx,fun H5 s5=>hZ H5 s5⟩) (fun H' st hy=>?_)
  refine ⟨acc,_,rfl,.inl (SqL.of hy),plain_bools,?_⟩
  rw [all_bools]
  have hk:=k H' st
  have e3:isAs jc0 (.tuple ds)=ds.all jc0:=by
   show (decide (1 ≤ ds.length) && decide (ds.length ≤ 6) && _)=_
   rw [decide_eq_true (show 1 ≤ ds.length by omega),decide_eq_true (show ds.length ≤ 6 by omega)]; rfl
  rw [e3] at hk
  exact hk
theorem scMws:FnScope ["thing","buyers","goods"] ["thing","buyers","goods"] (ja3 (top 26)):=⟨rfl,rfl,rfl,by decide +kernel,rfl,by decide +kernel,by decide +kernel⟩
theorem ok_arewishes {f fW:Addr} {fd dW:FuncData} (F:Fun K "are_wishes" "are_wishes" (top 26) f fd) (N:Nm mg) (Z:IsK K) (W:Cal K mg P w base "is_wish_row" 3 ["thing","goods"] (spRow 0 100) fW dW):FnOk P w K mg base CX0 4 f fd ["thing","buyers","goods"] spWs:=by
 refine F.ok scMws (fun vs H Q E h=>?_) (fun cdv A outer s H vs Q E hr h=>?_)
 ·obtain ⟨b,v,d,m,n,rfl,_⟩:=h; rfl
 ·obtain ⟨b,v,d,m,n,rfl,hm6,hn6,hT,k⟩:=h
  refine ⟨_,jb0 (ps_if (PW.pt (pw_or (jg7 (jh3 (pIsi K (pv 0) rfl N.isinstance rfl N.tuple jc1 ja6))) (pw_or1 (jf0 op_ne (jd2 cLen0 (by rfl) N.len PySem.boot_len (ja2 (pv 0) ja8)) (pv 1) (nomark _))))) (jb5 (jc9 pe_bl)) je5)
   (jb5 (jc9 (jd2 (cAll0 rfl) (by rfl) N.all boot_all (ja2 (pe_comp (own:=["row"]) (cap:=["goods"]) (ix:=[2]) (BlkOk.of (ja3 (top 26)).names ["thing","buyers","goods"]) rfl (piT0 (pv 0))
    (fun C fp s H=>⟨jb2 (i:=0) (show List.Nodup (["row","goods"]:List Str) by decide +kernel) rfl (Or.inl rfl),jf8,jb8 W.ok hr rfl W.mg W.kp W.bd .nil pass0 (ja2 (pv 0) (ja2 (pv 1) ja8))⟩)) ja8)))),?_⟩
  obtain ⟨t1,ty1,e1⟩:=ist Z hT
  refine ⟨_,rfl,t1,_,ty1,e1,_,rfl,?_⟩
  rcases tupCase hT with hn | ⟨a,xs,ds,rfl,rfl,ha,hs⟩
  ·have hk:=k H (Stay.refl H)
   rw [hn]; rw [isWs_no hn] at hk
   exact iteT (iteT hk)
  refine iteF ?_
  have hlen:=hs.len
  refine ⟨_,rfl,a,xs,rfl,.inr (SqT.of ha),_,rfl,rfl,_,rfl,?_⟩
  by_cases hl:xs.length=m
  case neg =>
   rw [vint_ne hl]
   have e3:isWs m n (.tuple ds)=false:=by
    show (decide (ds.length=m) && _)=false
    rw [decide_eq_false (by omega)]; rfl
   have hk:=k H (Stay.refl H)
   rw [e3] at hk
   exact iteT hk
  rw [hl,vint_eq]
  refine iteF ?_
  refine ⟨_,rfl,a,rfl,⟨xs,SqT.of ha⟩,fun acc hacc=>?_⟩
  refine comp_bools (isRow n 0 100) hs ha hacc (by omega) (fun x d H' st hx _ Z hZ=>⟨_,rfl,_,rfl,b,x,d,n,rfl,hn6,hx,fun H5 s5=>hZ H5 s5⟩) (fun H' st hy=>?_)
  refine ⟨acc,_,rfl,.inl (SqL.of hy),plain_bools,?_⟩
  rw [all_bools]
  have hk:=k H' st
  have e3:isWs m n (.tuple ds)=ds.all (isRow n 0 100):=by
   show (decide (ds.length=m) && _)=_
   rw [decide_eq_true (by omega)]; rfl
  rw [e3] at hk
  exact hk
theorem scIsMk:FnScope ["thing","amounts","purses","wishes"] ["thing"] (ja3 (top 23)):=⟨rfl,rfl,rfl,by decide +kernel,rfl,by decide +kernel,by decide +kernel⟩
theorem ok_ismarket {f fA fP fW:Addr} {fd dA dP dW:FuncData} (F:Fun K "is_market" "is_market" (top 23) f fd) (N:Nm mg) (Z:IsK K) (A':Cal K mg P w base "are_amounts" 3 ["thing"] (spT (isAs (within 1 60))) fA dA)
  (P':Cal K mg P w base "are_purses" 4 ["thing"] (spT (isAs jc0)) fP dP) (W:Cal K mg P w base "are_wishes" 4 ["thing","buyers","goods"] spWs fW dW):FnOk P w K mg base CX0 5 f fd ["thing"] (spT isMk):=by
 refine F.ok scIsMk (fun vs H Q E h=>?_) (fun cdv A outer s H vs Q E hr h=>?_)
 ·obtain ⟨b,v,d,rfl,_⟩:=h; rfl
 ·obtain ⟨b,v,d,rfl,hT,k⟩:=h
  have hr3:Room 3 _:=hr.mono (by decide)
  refine ⟨_,jb0 (ps_if (PW.pt (pw_or (jg7 (jh3 (pIsi K (pv 0) rfl N.isinstance rfl N.tuple jc1 ja6))) (pw_or1 (jf0 op_ne (jd2 cLen0 (by rfl) N.len PySem.boot_len (ja2 (pv 0) ja8)) ja5 (nomark _))))) (jb5 (jc9 pe_bl)) je5)
   (jb0 (ps_asg (pv 0) (pgTup0 rfl (jg8 (jb2 (i:=1) scIsMk.nd rfl (Or.inl rfl)) (jg8 (jb2 (i:=2) scIsMk.nd rfl (Or.inl rfl)) (jg8 (jb2 (i:=3) scIsMk.nd rfl (Or.inl rfl)) pgs_nil)))))
   (jb0 (ps_if (PW.pt (pw_or (jg7 (jh3 (jb8 A'.ok hr3 rfl A'.mg A'.kp A'.bd .nil pass0 (ja2 (pv 1) ja8)))) (pw_or1 (jg7 (jh3 (jb8 P'.ok hr rfl P'.mg P'.kp P'.bd .nil pass0 (ja2 (pv 2) ja8))))))) (jb5 (jc9 pe_bl)) je5)
   (jb5 (jc9 (jb8 W.ok hr rfl W.mg W.kp W.bd .nil pass0 (ja2 (pv 3) (ja2 (jd2 cLen0 (by rfl) N.len PySem.boot_len (ja2 (pv 2) ja8)) (ja2 (jd2 cLen0 (by rfl) N.len PySem.boot_len (ja2 (pv 1) ja8)) ja8)))))))),?_⟩
  obtain ⟨t1,ty1,e1⟩:=ist Z hT
  refine ⟨_,rfl,t1,_,ty1,e1,_,rfl,?_⟩
  have hk:=k H (Stay.refl H)
  rcases tupCase hT with hn | ⟨a,xs,ds,rfl,rfl,ha,hs⟩
  ·rw [hn]; rw [isMk_no hn] at hk
   exact iteT (iteT hk)
  refine iteF ?_
  refine ⟨_,rfl,a,xs,rfl,.inr (SqT.of ha),rfl,_,rfl,?_⟩
  by_cases hl:xs.length=3
  case neg =>
   have e2:(!decide (V.int (xs.length:Int)=V.int 3))=true:=vint_ne (b:=3) hl
   rw [e2]
   rw [isMk_len (by rw [← hs.len]; exact hl)] at hk
   exact iteT hk
  have e2:(!decide (V.int (xs.length:Int)=V.int 3))=false:=by rw [hl]; rfl
  rw [e2]
  refine iteF ?_
  match xs,ds,hl,hs with
  | [x,y,z],_,_,.cons (d:=dx) hx (.cons (d:=dy) hy (.cons (d:=dz) hz .nil)) =>
  refine ⟨_,rfl,a,_,rfl,SqT.of ha,rfl,_,_,rfl,_,_,rfl,_,_,rfl,rfl,?_⟩
  rw [isMk_parts] at k
  refine ⟨_,rfl,b,x,dx,rfl,hx,fun H1 s1=>?_⟩
  refine ⟨_,rfl,?_⟩
  cases h1:isAs (within 1 60) dx with
  | false =>
   rw [h1] at k
   exact iteT (iteT (k H1 s1))
  | true =>
  refine iteF ?_
  refine ⟨_,rfl,b,y,dy,rfl,hy.stay s1,fun H2 s2=>?_⟩
  refine ⟨_,rfl,?_⟩
  cases h2:isAs jc0 dy with
  | false =>
   rw [h1,h2] at k
   exact iteT (k H2 (s1.trans s2))
  | true =>
  refine iteF ?_
  obtain ⟨la,rfl,la1,la2,la3⟩:=isAs_shape h1
  obtain ⟨lp,rfl,lp1,lp2,lp3⟩:=isAs_shape h2
  have s12:=s1.trans s2
  cases hx.stay s12 with
  | tup hax hxs =>
  cases hy.stay s12 with
  | tup hay hys =>
  rw [h1,h2] at k
  refine ⟨_,rfl,_,rfl,_,_,rfl,.inr (SqT.of hay),_,rfl,_,_,rfl,.inr (SqT.of hax),b,z,dz,lp.length,la.length,?_,by omega,by omega,hz.stay s12,fun H3 s3=>k H3 (s12.trans s3)⟩
  rw [hxs.len,hys.len]; rfl
end
end K33
namespace KM
open PySem L2 KG EX
end KM
namespace KM
open PySem L2 KG EX
end KM
namespace KM
open PySem L2 KG EX
section
variable {am:List Int} {ps qs:List Rat} {M:List (List Int)} {n:Nat}
end
end KM
namespace KM
open PySem L2 KG EX
end KM
namespace KM
open PySem L2 KG EX
theorem dep_qs:∀ qs:List Rat,PyData.depthAll (qs.map qD) ≤ 1
 | []=>by simp [PyData.depthAll]
 | q :: qs=>by
  have h1:=dep_q q
  have h2:=dep_qs qs
  simp [PyData.depthAll]; omega
theorem dep_qt (qs:List Rat):(PyData.tuple (qs.map qD)).depth ≤ 2:=by
 have:=dep_qs qs
 simp [PyData.depth]; omega
end KM
namespace KM
open PySem L2 KG EX
theorem pos_row {am pu wi:List PyData} (hM:isMk (.tuple [.tuple am,.tuple pu,.tuple wi])=true) (h:wi.all posD=true) {r:List Int} (hr:r ∈ rowsOf wi):∃ k ∈ r,1 ≤ k:=by
 unfold rowsOf at hr
 obtain ⟨d,hd,rfl⟩:=List.mem_map.mp hr
 have h1:=List.all_eq_true.mp h d hd
 cases d with
 | tuple ds =>
  obtain ⟨x,hx,h2⟩:=List.any_eq_true.mp (show ds.any oneD=true from h1)
  cases x with
  | int n=>exact ⟨n,List.mem_map.mpr ⟨.int n,hx,rfl⟩,of_decide_eq_true h2⟩
  | _=>cases h2
 | _=>cases h1
end KM
namespace PySem
section
variable {prog:Program} {w:World} {A:Around} {E:Value→Shared→Prop} {s:Shared} {it d:Addr} {i ep:Nat} {es:Array DictEntry}
end
end PySem
namespace L2
open PySem PySem.Spec PyProof.Rows KG
section
variable {X:Cx}
end
end L2
namespace L2
open PySem PySem.Spec PyProof.Rows KG
section
variable {X:Cx}
end
section
variable {K:PySem.W.Frag} {tt:TT} {te tk tv:TE} {acc a b:Addr} {xs ys:List V} {σ₀:St} {H₀:Hp} {Q:VK} {o:Obj} {kvs:List (List Key × V)}
end
end L2
namespace PySem
section
variable {prog:Program} {w:World} {A:Around} {I:Addr} {fp wr:List Addr} {n:Nat} {P:Nat→Value→Prop} {St:Nat→Heap→Prop}
end
end PySem
namespace L2
open PySem PySem.Spec PyProof.Rows
section
variable {X:Cx} {scope:Scope} {own cap:List Str} {ix:List Nat} {tg iter kx vx:Expr} {ifs:List Expr} {wi:TI} {g:TG} {tt:TT} {tk tv:TE} {pos:Pos}
end
section
variable {X:Cx}
end
section
variable {X:Cx}
end
end L2
namespace L2
open PySem PySem.Spec PyProof.Rows KG
section
variable {K:PySem.W.Frag} {tt:TT} {tk tv:TE} {a acc:Addr} {xs:List V} {σ₀:St} {H₀:Hp} {Q:VK}
end
end L2
namespace KM
open PySem L2 KG EX
end KM
namespace KM
open PySem L2 KG EX
end KM
namespace L2
open PySem PySem.Spec PyProof.Rows KG
section
variable {X:Cx}
end
end L2
namespace KM
open PySem L2
end KM
namespace KM
open PySem L2 KG EX
section
variable {K:PySem.W.Frag} {n:Nat} {tt:TT} {te:TE} {acc a b:Addr} {xs ys:List V} {σ₀:St} {H₀:Hp} {Q:VK}
theorem filt_snoc {α : Type} (f:Nat→Bool) (v:Nat→α) (i:Nat):((List.range (i + 1)).filter f).map v=((List.range i).filter f).map v ++ if f i=true then [v i] else []:=by
 rw [filter_succ,List.map_append]
 congr 1
 split <;> simp_all
end
theorem jc8 {α : Type} {ls:List α} {i:Nat} {y d:α} (h:ls[i]?=some y):ls.getD i d=y:=by simp [List.getD,h]
end KM
namespace KM
open PySem L2 KG EX
end KM
namespace KM
open PySem L2 KG EX
end KM
namespace KM
open PySem L2 KG EX
end KM
namespace KM
open PySem L2 KG EX
section
variable {K:PySem.W.Frag} {tt:TT} {te:TE} {acc a:Addr} {s:List Int} {σ₀:St} {H₀:Hp} {Q:VK}
end
end KM
namespace KM
open PySem L2 KG EX
end KM
namespace KM
open PySem L2 KG EX
end KM
namespace L2
open PySem PySem.Spec PyProof.Rows
section
variable {prog:Program} {w:World} {A:Around} {R:Result→Shared→Prop} {s:Shared} {elt t1 i1 t2 i2:Expr} {f1 f2:List Expr} {scope:Scope} {pos:Pos} {it acc:Value} {env:Env}
end
section
variable {X:Cx} {scope:Scope} {own cap:List Str} {ix:List Nat} {t1 i1 t2 i2 elt:Expr} {f1 f2:List Expr} {wi wi2:TI} {g1 g2:TG} {tt1 tt2:TT} {te:TE} {pos:Pos}
end
end L2
namespace L2
open PySem PySem.Spec PyProof.Rows KG
section
variable {te:TE} {acc a:Addr} {xs:List V} {cs:List (Option V)} {H₀:Hp} {Q:VK}
end
end L2
namespace KM
open PySem L2 KG EX
end KM
namespace KM
open PySem L2 KG EX
end KM
namespace KM
open PySem L2 KG EX
end KM
namespace L2
open PySem PySem.Spec PyProof.Rows KG
end L2
namespace KM
open PySem L2 KG EX
end KM
namespace PySem
open AutoSeq1 (wpAny_loadPart')
end PySem
namespace L2
open PySem PySem.Spec PyProof.Rows
section
variable {X:Cx}
end
end L2
namespace KM
open PySem L2 KG EX
end KM
namespace KM
open PySem L2 KG EX
end KM
namespace EX
open PySem PySem.Spec PyProof.Rows
def Tb (e C t:Addr) (h:Heap):Prop:=∃ T,h.get? e=some (excO C t (.ref T))
section
variable {M:Model} {A:Around} {E:Value→Shared→Prop} {s:Shared} {B:Heap} {env:Env} {outer:List Env} {L e C t:Addr} {Q:Unit→Shared→Prop}
theorem air_entryH {head:Value} {hn:Bool} (a:Air B (env :: outer) e C t s.heap) (hfr:A.frames=some (env :: outer)) (hf:env.frame=some L)
  (k:∀ h',Air B (env :: outer) e C t h'→s.heap.UpToSlots h'→Tb e C t h'→Q () { s with heap:=h' }) :
  wpAny M A (do let fr ← frameOf env; let pl ← entryPlaceOf L hn; let x ← EntryCells.newEntry head fr .none (rawInt L) .none pl; setField (.ref e) 1 x) Q E s:=by
 obtain ⟨hd,he,_⟩:=a.ob
 refine wpAny_bind (wpAny_frameOf_fun hfr a.ff hf fun g so=>?_)
 obtain ⟨_,so2,so3⟩:=so
 have nfr:e ∉ (env :: outer).filterMap (·.frame):=fun m=>by
  obtain ⟨_,o,ho,nf⟩:=a.ff.mem m
  rw [he] at ho
  cases ho
  exact nf _ rfl
 have ge:g.get? e=some (excO C t hd):=(so2 e nfr).trans he
 have gB:B.StaysIn g:=fun b o q=>(so2 b fun m=>by rw [(a.ff.mem m).1] at q; cases q).trans (a.st b o q)
 refine wpAny_bind (wpAny_entryPlaceOf fun pl ipl=>?_)
 unfold EntryCells.newEntry newFields
 refine wpAny_bind (wpAny_newObj_type ?_ (ipl.sizeOk5 _ _ _ _ _))
 generalize hN:({ cls:=.type "traceback",dict:=none,data:=.fields ([head,.ref L,.none,rawInt L,.none] ++ (if pl.isEmpty then List.replicate 6 Value.none else pl)).toArray }:Obj)=oN
 have g2:(g.push oN).get? e=some (excO C t hd):=Heap.get?_push_of_some _ ge
 have gT:(g.push oN).get? g.objs.size=some oN:=Heap.get?_push_size g (by rw [← hN]; rfl)
 have Te:g.objs.size ≠ e:=Nat.ne_of_gt (Heap.lt_size ge)
 have nBT:B.get? g.objs.size=none:=by
  cases q:B.get? g.objs.size with
  | none=>rfl
  | some o=>exact absurd (Heap.lt_size (gB _ o q)) (Nat.lt_irrefl _)
 refine wpAny_setField g2 rfl (by show 1 < 6; decide) (k _ ?_ ?_ ⟨_,Heap.get?_update_self _ g2 rfl⟩)
 ·refine ⟨fun b o q=>?_,a.ne,?_,.ref g.objs.size,?_,.inr ⟨g.objs.size,oN,_,rfl,nBT,Te,?_,by rw [← hN],?_⟩⟩
  ·rw [Heap.get?_update_other _ _ (fun z=>by rw [← z,a.ne] at q; cases q)]
   exact Heap.get?_push_of_some _ (gB b o q)
  ·refine a.ff.of_keeps fun b o q nf=>?_
   obtain ⟨sl,q2⟩:=so3 b o q
   refine ⟨{ o with slots:=sl },?_,rfl⟩
   rw [Heap.get?_update_other _ _ (fun z=>by rw [← z,he] at q; cases q; exact nf _ rfl)]
   exact Heap.get?_push_of_some _ q2
  ·exact Heap.get?_update_self _ g2 rfl
  ·rw [Heap.get?_update_other _ _ Te.symm]; exact gT
  ·simp only [List.size_toArray,List.length_append,List.length_cons]; omega
 ·intro b o q nf
  obtain ⟨sl,q2⟩:=so3 b o q
  refine ⟨sl,?_⟩
  rw [Heap.get?_update_other _ _ (fun z=>by rw [← z,he] at q; cases q; exact nf _ rfl)]
  exact Heap.get?_push_of_some _ q2
theorem air_noteH (a:Air B (env :: outer) e C t s.heap) (hfr:A.frames=some (env :: outer)) (hf:env.frame=some L)
  (k:∀ h',Air B (env :: outer) e C t h'→s.heap.UpToSlots h'→Tb e C t h'→Q () { s with heap:=h' }):wpAny M A (noteFrame (.ref e) env) Q E s:=by
 obtain ⟨hd,he,hh⟩:=a.ob
 unfold noteFrame
 simp only [hf]
 refine wpAny_bind (wpAny_field he rfl (x:=hd) rfl ?_)
 rcases hh with rfl | ⟨T,oT,ts,rfl,nT,Te,hT,dT,h3⟩
 ·rw [if_neg (by decide)]
  exact air_entryH a hfr hf k
 ·rw [if_pos (show (Value.ref T != Value.none)=true from by simp)]
  refine wpAny_bind (wpAny_field hT dT (x:=ts[3]) (by rw [Array.getElem?_eq_getElem h3]) ?_)
  by_cases hv:(ts[3] == rawInt L)=true
  ·rw [if_pos hv]
   exact wpAny_pure (k s.heap a (Heap.UpToSlots.refl _) ⟨_,he⟩)
  ·rw [if_neg hv]
   refine wpAny_bind (air_head a nT Te hT dT h3 fun h1 a1 u1=>?_)
   exact air_entryH (s:={ s with heap:=h1 }) a1 hfr hf fun h2 a2 u2 b2=>k h2 a2 (u1.trans u2) b2
theorem air_fly {fr:Option Addr} (a:Air B outer e C t s.heap) (k:∀ h',Air B outer e C t h'→s.heap.UpToSlots h'→Q () { s with heap:=h' }):wpAny M A (setFlight (.ref e) fr) Q E s:=by
 obtain ⟨hd,he,hh⟩:=a.ob
 unfold setFlight
 refine wpAny_bind (wpAny_field he rfl (x:=hd) rfl ?_)
 rcases hh with rfl | ⟨T,oT,ts,rfl,nT,Te,hT,dT,h3⟩
 ·rw [if_neg (by decide)]
  exact wpAny_pure (k s.heap a (Heap.UpToSlots.refl _))
 ·rw [if_pos (show (Value.ref T != Value.none)=true from by simp)]
  exact air_head a nT Te hT dT h3 k
theorem air_pass {α : Type} {what:String} {cenv:Env} {Qa:α→Shared→Prop} (a:Air B outer e C t s.heap) (b:Tb e C t s.heap) (k:∀ h',Air B outer e C t h'→s.heap.UpToSlots h'→E (.ref e) { s with heap:=h' }):wpAny M A (PySem.passOn what (.ref e) cenv:Sem α) Qa E s:=by
 obtain ⟨T,q⟩:=b
 unfold PySem.passOn
 refine wpAny_bind (wpAny_field q rfl (x:=.ref T) rfl ?_)
 rw [if_neg (by simp)]
 exact wpAny_bind (air_fly a fun h1 a1 u1=>wpAny_throw (k h1 a1 u1))
end
end EX
namespace L2
open PySem PySem.Spec PyProof.Rows EX
theorem comp_loopX {prog:Program} {w:World} {A:Around} {R:Result→Shared→Prop} {s:Shared} {elt target iter:Expr} {ifs:List Expr} {scope:Scope} {pos:Pos} {it acc:Value} {env:Env} (I:Nat→Shared→Prop) {XE:Value→Shared→Prop} (hX:∀ x s',XE x s'→notedBy (model prog w) A env (fun x s'=>R (.error x) s') x s')
  (turn:∀ n s,I n s→wpAny (model prog w) A (pyNext it) (fun r s₁=>match r with
   | none=>R (.ok .next) s₁
   | some v=>wpAny (model prog w) A (letOwnedTupleGo target it v) (fun _ s₁'=>wpAny (model prog w) A (assign target env v) (fun _ s₂ =>
     wpAny (model prog w) A (forIn ifs true fun c r=>if r=true then do let ok ← isTrue c env (eval c env); pure (ForInStep.yield ok) else pure (ForInStep.yield r)) (fun ok s₃ =>
      if ok=true then wpAny (model prog w) A (eval elt env) (fun x s₄ =>
       wpAny (model prog w) A (call (.builtin "list.append") [acc,x]) (fun _ s₅=>∃ m,m < n∧I m s₅) XE s₄) XE s₃
      else ∃ m,m < n∧I m s₃) XE s₂) XE s₁') XE s₁) XE s)
  (n:Nat) (h:I n s) :
  codeAny (model prog w) A (.compLoop (.ListComp elt [⟨target,iter,ifs,0⟩] scope pos) 0 it acc env) R s:=by
 refine codeAny_loop rfl I (fun n s hI=>?_) n h
 show wpAny _ A ((compTurn (.ListComp elt [⟨target,iter,ifs,0⟩] scope pos) 0 it acc env).onRaise (fun x=>do noteFrame x env; theTreesLotGoes x)) _ _ s
 refine wpAny_noted ?_
 rw [compTurn_list]
 refine wpAny_bind (wpAny_standAt (wpAny_bind (wpAny_mono (turn n s hI) (fun r s₁ h₁=>?_) hX)))
 cases r with
 | none=>exact wpAny_pure h₁
 | some v =>
  refine wpAny_bind (wpAny_mono h₁ (fun _ s₁' h₁'=>?_) hX)
  refine wpAny_bind (wpAny_mono h₁' (fun _ s₂ h₂=>wpAny_bind (wpAny_mono h₂ (fun ok s₃ h₃=>?_) hX)) hX)
  cases ok with
  | false=>exact wpAny_pure ⟨rfl,h₃⟩
  | true =>
   exact wpAny_bind (wpAny_bind (wpAny_mono h₃ (fun x s₄ h₄=>wpAny_bind (wpAny_mono h₄ (fun _ s₅ h₅=>wpAny_pure (wpAny_pure ⟨rfl,h₅⟩)) hX)) hX))
def XEC (X:Cx) (E0:XK) (C:Addr) (e:Value) (s':Shared):Prop:=∃ pins σ H s m,Inv X pins σ H s∧FpOk X pins H C∧s.heap.Ns C m∧CXF X.prog X.w X.stack H s E0 e s'
def cxCX (X:Cx) (E0:XK) (scope:Scope) (C:Addr) (N:List Str) (fp:List Addr) (s:Shared) (H:Hp):Cx:={ cxC X scope C N fp s H with xe:=XEC X E0 C }
theorem Inv.xeX {X:Cx} {E0:XK} {scope:Scope} {C:Addr} {N:List Str} {fp:List Addr} {s s1:Shared} {H H1:Hp} {pins:List (Addr × Obj)} {σ:St} (I:Inv (cxC X scope C N fp s H) pins σ H1 s1):Inv (cxCX X E0 scope C N fp s H) pins σ H1 s1 :=
 ⟨⟨I.ok.mod,I.ok.kind,I.ok.glob,I.ok.blt,I.ok.above,I.ok.inj,I.ok.has,I.ok.cab,I.ok.hd,I.ok.frames,I.ok.stk,I.ok.exf,I.ok.bs,I.ok.bsz,I.ok.noex,I.ok.exfs,I.ok.funs,I.ok.frf⟩,I.os,I.bare,I.base,I.loc,I.cell,I.free,I.freeC,I.pin,I.hok,I.len⟩
theorem ff_but {h h2 B B2:Heap}:∀ {l:List Env},(∀ b ∈ frs l,B2.get? b=none)→(∀ b ∈ frs l,∀ o,h.get? b=some o→h2.get? b=some o)→h.FunFrames B l→h2.FunFrames B2 l
 | [],_,_,_=>trivial
 | env :: r,hB,k,⟨hk,⟨L,o,hf,hn,ho,hd⟩,hr⟩=>by
  have m:L ∈ frs (env :: r):=by unfold frs; rw [List.filterMap_cons,hf]; exact List.mem_cons_self
  have sub:∀ b ∈ frs r,b ∈ frs (env :: r):=fun b hb=>by unfold frs; rw [List.filterMap_cons,hf]; exact List.mem_cons_of_mem _ hb
  exact ⟨hk,⟨L,o,hf,hB L m,k L m o ho,hd⟩,ff_but (fun b hb=>hB b (sub b hb)) (fun b hb=>k b (sub b hb)) hr⟩
theorem fly_same {P:Program} {w:World} {E0:XK} {l:List Env} {H H':Hp} {s s':Shared} {a C t:Addr} {B h':Heap} (os:s'.os=s.os) (bare:AllBare s'.gens) (un:Un (frs l) [] H H' s.heap s'.heap) (hok:HOk P w H' B)
  (third:∀ b o,s.heap.get? b=some o→b ∉ frs l→(∃ o',B.get? b=some o')∧(H b=none→B.get? b=some o)) (ff:s'.heap.FunFrames B l) (air:Air B l a C t h') (up:s'.heap.UpToSlots h') (na:s.heap.get? a=none) (na':H' a=none) (he:E0 (.ref C) none H'):CXF P w l H s E0 (.ref a) { s' with heap:=h' }:=by
 refine ⟨a,C,t,B,H',rfl,os,bare,⟨fun b o q n nf _=>air.st b o ((third b o q nf).2 n),fun b o q n m _=>?_,un.free,fun b o q _=>?_,un.tups,un.frzs,un.tbls⟩,hok,third,air,na,na',he⟩
 ·obtain ⟨sl2,q2⟩:=un.slot b _ q n m (by simp)
  obtain ⟨_,o3,q3,nf⟩:=ff.mem m
  rw [q2] at q3
  cases q3
  obtain ⟨sl3,q4⟩:=up b _ q2 nf
  exact ⟨sl3,q4⟩
 ·by_cases m:b ∈ frs l
  ·obtain ⟨_,o3,q3,nf⟩:=ff.mem m
   obtain ⟨sl3,q4⟩:=up b _ q3 nf
   exact ⟨_,q4⟩
  ·obtain ⟨o2,q2⟩:=(third b o q m).1
   exact ⟨o2,air.st b o2 q2⟩
theorem xec_out {X:Cx} {E0:XK} {out:List Env} {L C:Addr} {cenv:Env} {e:Value} {s':Shared} (hst:X.stack=X.env :: out) (hf:X.env.frame=some L) (hp:Passes (CXF X.prog X.w) X E0) (hcf:cenv.frame=X.env.frame) (h:XEC X E0 C e s') :
  notedBy (model X.prog X.w) X.A cenv (fun x s''=>∃ m,s''.heap.Ns C m∧∀ h',Heap.SameBut C s''.heap h'→∀ cenv:Env,cenv.locals=C→wpAny (model X.prog X.w) X.A (PySem.passOn "comprehension.variables-let-go" x cenv:Sem Value) (fun _ _=>False) X.xe { s'' with heap:=h' }) e s':=by
 obtain ⟨pins,σ,H,s,m,I,fC,⟨oC,es,ep,hoC,hdC,rC⟩,a,D,t,B,H',rfl,os,bare,un,hok,third,air,na,na',he⟩:=h
 have nC:C ∉ frs X.stack:=fun z=>by
  rcases List.mem_cons.mp (I.stkSub C z) with y | y
  ·exact fC.2.1 y
  ·exact fC.2.2.1 y
 have BC:B.get? C=some oC:=(third C oC hoC nC).2 fC.1
 have eN:noteFrame (.ref a) cenv=noteFrame (.ref a) X.env:=by unfold noteFrame PySem.frameOf; rw [hcf]
 unfold notedBy
 rw [eN]
 rw [hst] at air
 refine air_noteH air (by rw [I.ok.frames,hst]) hf fun h1 a1 u1 b1=>?_
 rw [← hst] at a1 air
 refine ⟨m,⟨oC,es,ep,a1.st C oC BC,hdC,rC⟩,fun h2 sb cenv' _=>?_⟩
 have neB:∀ b,B.get? b=none→b ≠ C:=fun b q z=>by rw [z,BC] at q; cases q
 have HC:H' C=none:=un.free C oC hoC fC.1 (by simp)
 have hidn:∀ {G:Heap} {b:Addr},G.get? b=none→(PySem.W.hideAll G [C]).get? b=none:=fun {G b} q=>by
  cases z:(PySem.W.hideAll G [C]).get? b with
  | none=>rfl
  | some o=>have:=PySem.W.of_hideAll _ z; rw [q] at this; cases this
 have hidC:∀ {G:Heap} {b:Addr} {o:Obj},(PySem.W.hideAll G [C]).get? b=some o→b ≠ C∧G.get? b=some o:=fun {G b o} q=>by
  refine ⟨fun z=>?_,PySem.W.of_hideAll _ q⟩
  rw [z,PySem.W.hideAll_none [C] (by simp)] at q
  cases q
 have a2:Air (PySem.W.hideAll B [C]) X.stack a D t h2:=by
  refine ⟨fun b o q=>(sb.2 b (hidC q).1).trans (a1.st b o (hidC q).2),hidn a1.ne,ff_but (fun b hb=>hidn (a1.ff.mem hb).1) (fun b hb o q=>(sb.2 b (fun z=>nC (z ▸ hb))).trans q) a1.ff,?_⟩
  obtain ⟨hd,q,hh⟩:=a1.ob
  refine ⟨hd,(sb.2 a (neB a a1.ne)).trans q,?_⟩
  rcases hh with z | ⟨T,oT,ts,e1,e2,e3,e4,e5⟩
  ·exact .inl z
  ·exact .inr ⟨T,oT,ts,e1,hidn e2,e3,(sb.2 T (neB T e2)).trans e4,e5⟩
 have b2:Tb a D t h2:=by
  obtain ⟨T,q⟩:=b1
  exact ⟨T,(sb.2 a (neB a a1.ne)).trans q⟩
 have third2:∀ b o,(PySem.W.hideAll s.heap [C]).get? b=some o→b ∉ frs X.stack→(∃ o',(PySem.W.hideAll B [C]).get? b=some o')∧(H b=none→(PySem.W.hideAll B [C]).get? b=some o):=fun b o q nf=>by
  obtain ⟨n,q'⟩:=hidC q
  obtain ⟨⟨o',e1⟩,e2⟩:=third b o q' nf
  exact ⟨⟨o',PySem.W.hideAll_get _ e1 (by simpa using n)⟩,fun z=>PySem.W.hideAll_get _ (e2 z) (by simpa using n)⟩
 have hok2:HOk X.prog X.w H' (PySem.W.hideAll B [C]):=fun b u q =>
  (hok b u q).stay (fun c v hc qc=>PySem.W.hideAll_get _ qc (by
   rcases hc with z | z
   ·rw [z]; intro y; rw [List.mem_singleton.mp y,HC] at q; cases q
   ·intro y; rw [List.mem_singleton.mp y,HC] at z; cases z)) (fun _ z=>z) fun _ _ z=>z
 have I2:Inv X pins σ H { s with heap:=PySem.W.hideAll s.heap [C] }:=I.turned (t':=s.toks) (it:=C) (fun b o n q=>PySem.W.hideAll_get _ q (by simpa using n)) fC.1 fC.2.1 fC.2.2.2.1 fC.2.2.2.2.1 fC.2.2.2.2.2
 have un2:Un (frs X.stack) [] H H' (PySem.W.hideAll s.heap [C]) h2:=by
  refine ⟨fun b o q n nf _=>a2.st b o ((third2 b o q nf).2 n),fun b o q n m' _=>?_,fun b o q n x=>un.free b o (hidC q).2 n x,fun b o q _=>?_,un.tups,un.frzs,un.tbls⟩
  ·obtain ⟨sl2,q2⟩:=un.slot b _ (hidC q).2 n m' (by simp)
   obtain ⟨_,o3,q3,nf⟩:=air.ff.mem m'
   rw [q2] at q3
   cases q3
   obtain ⟨sl3,q4⟩:=u1 b _ q2 nf
   exact ⟨sl3,(sb.2 b (hidC q).1).trans q4⟩
  ·by_cases m':b ∈ frs X.stack
   ·obtain ⟨_,o3,q3,nf⟩:=air.ff.mem m'
    obtain ⟨sl3,q4⟩:=u1 b _ q3 nf
    exact ⟨_,(sb.2 b (hidC q).1).trans q4⟩
   ·obtain ⟨o2,q2⟩:=(third2 b o q m').1
    exact ⟨o2,a2.st b o2 q2⟩
 refine air_pass (s:={ s' with heap:=h2 }) a2 b2 fun h3 a3 u3=>?_
 exact hp pins σ H _ _ _ I2 (fly_same (s':={ s' with heap:=h2 }) os bare un2 hok2 third2 a2.ff a3 u3 (hidn na) na' he)
section
variable {X:Cx} {scope:Scope} {own cap:List Str} {ix:List Nat} {tg iter elt:Expr} {ifs:List Expr} {wi:TI} {g:TG} {tt:TT} {te:TE} {pos:Pos}
theorem comp_coreX {pins:List (Addr × Obj)} {σ:St} {H2:Hp} {s2:Shared} {it:Addr} {fp:List Addr} {tn:Nat→Heap→Prop} {J:It} {Q:VK} {RR:Value→Addr→Result→Shared→Prop} {E:Value→Shared→Prop}
  {E0:XK} (B:BlkOk X scope own cap ix) (hc:X.calm=true)
  (hb:∀ C fp s H,Passes (CXF X.prog X.w) (cxCX X E0 scope C (own ++ cap) fp s H) E0→PG (cxCX X E0 scope C (own ++ cap) fp s H) tg g∧PIfs (cxCX X E0 scope C (own ++ cap) fp s H) ifs tt∧PE (cxCX X E0 scope C (own ++ cap) fp s H) elt te)
  (I2:Inv X pins σ H2 s2) (T:Turn X.prog X.w X.K tg J fp it tn) (st2:tn 0 s2.heap) (f2:∀ b ∈ fp,FpOk X pins H2 b)
  (q:∀ acc,H2 acc=none→tCompN g tt te J acc (blkσ own.length ix σ) H2 Q)
  (hRR:∀ D C H' s' m,Inv X pins σ H' s'→Q (.ref D) H'→s'.heap.Ns C m→FpOk X pins H' C→RR (.ref D) C (.ok .next) s')
  (hRX:∀ D C cenv e s',cenv.frame=X.env.frame→XEC X E0 C e s'→notedBy (model X.prog X.w) X.A cenv (fun x s'=>RR (.ref D) C (.error x) s') e s') :
  wpAny (model X.prog X.w) X.A (newList []) (fun acc s₃=>wpAny (model X.prog X.w) X.A (newFunctionEnv scope X.env.globals (cloF X.env scope.names []) [] X.env.qual none .none (some X.env)) (fun cenv s₄ =>
   codeAny (model X.prog X.w) X.A (.compStart (.ListComp elt [⟨tg,iter,ifs,0⟩] scope pos) 0 (.ref it) acc { cenv with scope:=relabel scope X.env }) (RR acc cenv.locals) s₄) E s₃) E s2:=by
 refine wpAny_newObj_type (newEnv_comp ?_)
 have I3:Inv X pins σ (upd H2 s2.heap.objs.size (.lst [])) { s2 with heap:=s2.heap.push { cls:=.type "list",dict:=none,data:=.seq ([]:List Value).toArray } }:=I2.lnew (its:=[]) (ys:=[]) (t':=s2.toks) .nil (Nat.zero_le _)
 obtain ⟨W,⟨m0,w0⟩,turn⟩:=q s2.heap.objs.size I2.fresh
 generalize hD:s2.heap.objs.size=D at I3 w0 turn ⊢
 have hlt:∀ b ∈ fp,b < D:=fun b hbm=>by
  obtain ⟨o,e,_⟩:=T.obj 0 _ st2 b hbm
  rw [← hD]; exact Heap.lt_size e
 generalize hs3:({ s2 with heap:=s2.heap.push { cls:=.type "list",dict:=none,data:=.seq ([]:List Value).toArray } }:Shared)=s3 at I3 ⊢
 have keep3:∀ b o,s2.heap.get? b=some o→s3.heap.get? b=some o:=fun b o e=>by rw [← hs3]; exact Heap.get?_push_of_some _ e
 have f3:∀ b ∈ fp,FpOk X pins (upd H2 D (.lst [])) b:=fun b hbm=>⟨by rw [jb3 (Nat.ne_of_lt (hlt b hbm))]; exact (f2 b hbm).1,(f2 b hbm).2⟩
 have o3:∀ b ∈ fp,∃ o,s3.heap.get? b=some o:=fun b hbm=>let ⟨o,e,_⟩:=T.obj 0 _ st2 b hbm; ⟨o,keep3 b o e⟩
 have I4:=(I3.block B f3 o3).xeX (E0:=E0)
 have st4:tn 0 (pushCells (s3.heap.push { cls:=.type "dict",data:=.dict #[] }) scope.names):=T.keep 0 _ _ st2 fun b _ o e=>pushCells_keeps _ _ b o (Heap.get?_push_of_some _ (keep3 b o e))
 have pass:Passes (CXF X.prog X.w) (cxCX X E0 scope s3.heap.objs.size (own ++ cap) fp s3 (upd H2 D (.lst []))) E0:=fun pins' σ' H' s' e s'' I' h'=>by
  have J':Inv X pins σ H' s':=I3.call' (ch:=fp) I'.os I'.base I'.hok I'.bare fun b hbm=>⟨(f3 b hbm).2.2.2.1,(f3 b hbm).2.1,(f3 b hbm).2.2.2.2.1,(f3 b hbm).2.2.2.2.2⟩
  obtain ⟨m',hn',_⟩:=I'.loc
  exact ⟨pins,σ,H',s',m',J',I3.fpOk (Nat.le_refl _) I'.free,hn',h'⟩
 obtain ⟨hg,hif,he⟩:=hb s3.heap.objs.size fp s3 (upd H2 D (.lst [])) pass
 generalize hX':cxCX X E0 scope s3.heap.objs.size (own ++ cap) fp s3 (upd H2 D (.lst []))=X' at I4 hg hif he
 have eP:X'.prog=X.prog:=by rw [← hX']; rfl
 have eW:X'.w=X.w:=by rw [← hX']; rfl
 have eK:X'.K=X.K:=by rw [← hX']; rfl
 have eA:X'.A=X.A:=by rw [← hX']; rfl
 have eE:X'.env=compE scope s3.heap.objs.size X.env:=by rw [← hX']; rfl
 have ex:X'.xe=XEC X E0 s3.heap.objs.size:=by rw [← hX']; rfl
 have hc':X'.calm=true:=by rw [← hX']; exact hc
 have stat:∀ {H':Hp},(∀ b ∈ fp,H' b=none)→∀ b ∈ fp,FpOk X' [] H' b:=fun hn b hbm=>by
  subst hX'
  exact ⟨hn b hbm,(I4.ok.exf b hbm).1,I4.ok.exfs b hbm,.inl hbm,(I4.ok.exf b hbm).2,fun p hp=>absurd (show p ∈ ([]:List (Addr × Obj)) from hp) (by simp)⟩
 have loop:∀ s4:Shared,s4={ s3 with heap:=pushCells (s3.heap.push { cls:=.type "dict",data:=.dict #[] }) scope.names } →
   codeAny (model X.prog X.w) X.A (.compLoop (.ListComp elt [⟨tg,iter,ifs,0⟩] scope pos) 0 (.ref it) (.ref D) (compE scope s3.heap.objs.size X.env)) (RR (.ref D) s3.heap.objs.size) s4:=by
  rintro s4 rfl
  refine comp_loopX (XE:=XEC X E0 s3.heap.objs.size) (fun n s'=>∃ i σ' H',Inv X' [] σ' H' s'∧tn i s'.heap∧(∀ b ∈ fp,H' b=none)∧W i n σ' H') (fun x s' h=>hRX D _ (compE scope s3.heap.objs.size X.env) x s' rfl h) ?_ m0 ⟨0,_,_,I4,st4,fun b hbm=>(f3 b hbm).1,w0⟩
  rintro n s5 ⟨i,σ5,H5,I5,st5,fr5,w5⟩
  rcases turn i n σ5 H5 w5 with ⟨stop,qn⟩ | ⟨go,N,hN,step⟩
  ·have:=T.done X' eP eW eK hc' i [] s5 σ5 H5 (XEC X E0 s3.heap.objs.size) I5 (stat fr5) st5 stop
   rw [eA] at this
   refine thn this fun r s6 ⟨hr,I6⟩=>?_
   subst hr
   subst hX'
   have J6:Inv X pins σ H5 s6:=I3.call' (ch:=fp) I6.os I6.base I6.hok I6.bare fun b hbm=>⟨(f3 b hbm).2.2.2.1,(f3 b hbm).2.1,(f3 b hbm).2.2.2.2.1,(f3 b hbm).2.2.2.2.2⟩
   obtain ⟨m,hn,_⟩:=I6.loc
   exact hRR D _ H5 s6 m J6 qn hn (I3.fpOk (Nat.le_refl _) I6.free)
  ·have:=T.item X' eP eW eK hc' i [] s5 σ5 H5 (XEC X E0 s3.heap.objs.size) I5 (stat fr5) st5 go
   rw [eA] at this
   refine thn this fun r s6 ⟨u,hr,h6⟩=>?_
   subst hr
   refine thn h6 fun _ s7 ⟨x,H7,I7,r7,y7,st7,fr7⟩=>?_
   have I7':=I7.pinned (stat fr7) (T.obj _ _ st7)
   have a1:=hg _ s7 σ5 H7 x u _ I7' r7 (step x H7 y7)
   rw [eP,eW,eA,eE,ex] at a1
   refine thn a1 fun _ s8 ⟨σ8,H8,I8,q8⟩=>?_
   have a2:=hif _ s8 σ8 H8 _ I8 q8
   rw [eP,eW,eA,eE,ex] at a2
   refine thn a2 fun b s9 ⟨H9,I9,q9⟩=>?_
   have again:∀ {s':Shared} {σ':St} {H':Hp},Inv X' ([] ++ pinsAt fp s7.heap) σ' H' s'→N σ' H'→∃ m,m < n∧∃ i σ' H',Inv X' [] σ' H' s'∧tn i s'.heap∧(∀ b ∈ fp,H' b=none)∧W i m σ' H':=fun {s' σ' H'} I' n'=>by
    obtain ⟨m',hm,w'⟩:=hN σ' H' n'
    refine ⟨m',hm,i + 1,σ',H',I'.unpinned,T.keep _ _ _ st7 fun b hbm o e=>(I'.pin (b,o) (List.mem_append_right _ (List.mem_append_right _ (je9 hbm e)))).1,fun b hbm=>?_,w'⟩
    obtain ⟨o,e,d⟩:=T.obj _ _ st7 b hbm
    exact (I'.pin (b,o) (List.mem_append_right _ (List.mem_append_right _ (je9 hbm e)))).2.1
   cases b with
   | false=>exact again I9 q9
   | true =>
    rw [if_pos rfl] at q9 ⊢
    have a3:=he _ s9 σ8 H9 _ I9 q9
    rw [eP,eW,eA,eE,ex] at a3
    refine thn a3 fun yv s10 ⟨y,H10,I10,r10,ys,hys,hz,q10⟩=>?_
    have a4:=mt_append (X:=X') _ s10 σ8 H10 (.ref D) [y] (.ref D) [yv] (fun v H'=>v=.non∧N σ8 H') I10 rfl (.cons r10 .nil) ⟨D,ys,y,rfl,rfl,hys,hz,rfl,q10⟩
    rw [eP,eW,eA,ex] at a4
    refine thn a4 fun _ s11 ⟨_,H11,I11,_,_,q11⟩=>again I11 q11
 exact codeAny_compStart_list (loop _ rfl) (T.self X.A 0 _ _ _ st4 (loop _ rfl))
theorem pe_compX {E0:XK} {out:List Env} {L:Addr} (hst:X.stack=X.env :: out) (hfr:X.env.frame=some L) (hpx:Passes (CXF X.prog X.w) X E0) (B:BlkOk X scope own cap ix) (hc:X.calm=true) (hi:PI X tg iter wi)
  (hb:∀ C fp s H,Passes (CXF X.prog X.w) (cxCX X E0 scope C (own ++ cap) fp s H) E0→PG (cxCX X E0 scope C (own ++ cap) fp s H) tg g∧PIfs (cxCX X E0 scope C (own ++ cap) fp s H) ifs tt∧PE (cxCX X E0 scope C (own ++ cap) fp s H) elt te)
  (hs:∀ x,foldedSetIterable iter X.env x=pure x:=by intro _; rfl):PE X (.ListComp elt [⟨tg,iter,ifs,0⟩] scope pos) (tComp wi g tt te own.length ix):=by
 intro pins s σ H Q I h
 rw [eval_ListComp]
 have has:∀ x ∈ scope.names,x.2=.free→(X.env.cells.lookup x.1).isSome=true:=fun x hx hk=>by
  obtain ⟨c,e⟩:=I.ok.has x.1 (B.frees x hx hk)
  rw [e]; rfl
 refine wpAny_comprehension_free (use:=none) rfl hs (je8 has) B.kind B.names ?_
 show wpAny _ _ (eval iter X.env) _ _ s
 refine thn (hi pins s σ H _ I h) fun v s1 h1=>thn h1 fun itv s2 h2=>?_
 obtain ⟨it,fp,tn,J,H2,e,I2,T,st2,f2,q⟩:=h2
 subst e
 refine comp_coreX (RR:=fun acc C=>compPost (model X.prog X.w) X.A X.xe none (EP X pins σ Q) acc C) B hc hb I2 T st2 f2 q ?_ (fun D C cenv e s' hcf h=>xec_out hst hfr hpx hcf h)
 intro D C H' s' m I' q' hn fC
 refine ⟨m,hn,fun h' hsb=>⟨.ref D,H',?_,rfl,q'⟩⟩
 exact I'.turned (t':=s'.toks) (it:=C) (fun b o hbC e=>(hsb.2 b hbC).trans e) fC.1 fC.2.1 fC.2.2.2.1 fC.2.2.2.2.1 fC.2.2.2.2.2
end
end L2
namespace PySem
section
variable {prog:Program} {w:World} {A:Around} {E:Value→Shared→Prop} {s:Shared} {z TI TO i1 i2 i3 l1 l2 l3:Addr} {k1 k2 k3:Nat} {xs ys us:Array Value} {x y u a b c:Value}
end
end PySem
namespace L2
open PySem PySem.Spec PyProof.Rows
section
variable {X:Cx}
end
end L2
namespace L2
open PySem PySem.Spec PyProof.Rows KG
section
variable {X:Cx}
end
end L2
namespace KM
open PySem L2 KG EX
end KM
namespace KM
open PySem L2 KG EX
end KM
namespace KM
open PySem L2 KG EX
end KM
namespace KM
open PySem L2 KG EX
end KM
namespace PySem
section
variable {prog:Program} {w:World} {A:Around} {E:Value→Shared→Prop} {s:Shared} {z TI TO i1 i2 l1 l2:Addr} {k1 k2:Nat} {xs ys:Array Value} {x y a b:Value}
end
end PySem
namespace L2
open PySem PySem.Spec PyProof.Rows
section
variable {X:Cx}
end
end L2
namespace KM
open PySem L2 KG EX
end KM
namespace MI
open PySem L2 KG EX KM
mutual
inductive TrG (H:Hp):V→PyData→Prop
 | non:TrG H .non .none
 | bl (c:Bool):TrG H (.bl c) (.bool c)
 | int (i:Int):TrG H (.int i) (.int i)
 | str (x:Str) (ok:(PyData.str x).canLay0=true):TrG H (.str x) (.str x)
 | lst {a:Addr} {xs:List V} {ds:List PyData}:H a=some (.lst xs)→TrGs H xs ds→TrG H (.ref a) (.list ds)
 | tup {a:Addr} {xs:List V} {ds:List PyData}:H a=some (.tup xs)→TrGs H xs ds→TrG H (.ref a) (.tuple ds)
inductive TrGs (H:Hp):List V→List PyData→Prop
 | nil:TrGs H [] []
 | cons {x:V} {xs:List V} {d:PyData} {ds:List PyData}:TrG H x d→TrGs H xs ds→TrGs H (x :: xs) (d :: ds)
end
mutual
theorem TrG.stay {H H':Hp} (k:Stay H H'):∀ {v:V} {d:PyData},TrG H v d→TrG H' v d
 | _,_,.non=>.non
 | _,_,.bl c=>.bl c
 | _,_,.int i=>.int i
 | _,_,.str x o=>.str x o
 | _,_,.lst h t=>.lst (k _ _ h) (TrGs.stay k t)
 | _,_,.tup h t=>.tup (k _ _ h) (TrGs.stay k t)
theorem TrGs.stay {H H':Hp} (k:Stay H H'):∀ {vs:List V} {ds:List PyData},TrGs H vs ds→TrGs H' vs ds
 | _,_,.nil=>.nil
 | _,_,.cons h t=>.cons (TrG.stay k h) (TrGs.stay k t)
end
mutual
theorem TrG.dt {K:PySem.W.Frag} {H:Hp}:∀ {v:V} {d:PyData},TrG H v d→DtV K H v d
 | _,_,.non=>.non
 | _,_,.bl c=>.bl c
 | _,_,.int i=>.int i
 | _,_,.str x o=>.str x o
 | _,_,.lst h t=>.lst (SqL.of h) (TrGs.dt t)
 | _,_,.tup h t=>.tup (SqT.of h) (TrGs.dt t)
theorem TrGs.dt {K:PySem.W.Frag} {H:Hp}:∀ {vs:List V} {ds:List PyData},TrGs H vs ds→DtVs K H vs ds
 | _,_,.nil=>.nil
 | _,_,.cons h t=>.cons (TrG.dt h) (TrGs.dt t)
end
theorem TrGs.len {H:Hp}:∀ {vs:List V} {ds:List PyData},TrGs H vs ds→vs.length=ds.length
 | _,_,.nil=>rfl
 | _,_,.cons _ t=>by simp [TrGs.len t]
theorem TrGs.app {H:Hp}:∀ {vs ws:List V} {ds es:List PyData},TrGs H vs ds→TrGs H ws es→TrGs H (vs ++ ws) (ds ++ es)
 | _,_,_,_,.nil,g=>g
 | _,_,_,_,.cons h t,g=>.cons h (TrGs.app t g)
theorem TrGs.take {H:Hp}:∀ {vs:List V} {ds:List PyData} (n:Nat),TrGs H vs ds→TrGs H (vs.take n) (ds.take n)
 | _,_,0,_=>by simpa using TrGs.nil
 | _,_,n + 1,.nil=>by simpa using TrGs.nil
 | _,_,n + 1,.cons h t=>.cons h (TrGs.take n t)
theorem TrGs.drop {H:Hp}:∀ {vs:List V} {ds:List PyData} (n:Nat),TrGs H vs ds→TrGs H (vs.drop n) (ds.drop n)
 | _,_,0,h=>h
 | _,_,n + 1,.nil=>by simpa using TrGs.nil
 | _,_,n + 1,.cons h t=>TrGs.drop n t
theorem TrGs.at {H:Hp}:∀ {vs:List V} {ds:List PyData} {i:Nat} {x:V},TrGs H vs ds→vs[i]?=some x→∃ d,ds[i]?=some d∧TrG H x d
 | _,_,0,_,.cons h t,e=>⟨_,rfl,by rw [← Option.some.inj e]; exact h⟩
 | _,_,i + 1,x,.cons h t,e=>by
  obtain ⟨d,h1,h2⟩:=TrGs.at (i:=i) (x:=x) t (by simpa using e)
  exact ⟨d,by simpa using h1,h2⟩
theorem TrGs.get {H:Hp}:∀ {vs:List V} {ds:List PyData} {i:Nat} {d:PyData},TrGs H vs ds→ds[i]?=some d→∃ x,vs[i]?=some x∧TrG H x d
 | _,_,0,_,.cons h t,e=>⟨_,rfl,by rw [← Option.some.inj e]; exact h⟩
 | _,_,i + 1,x,.cons h t,e=>by
  obtain ⟨d,h1,h2⟩:=TrGs.get (i:=i) (d:=x) t (by simpa using e)
  exact ⟨d,by simpa using h1,h2⟩
mutual
def noL:PyData→Bool
 | .list _=>false
 | .dict _=>false
 | .tuple ds=>noLs ds
 | _=>true
def noLs:List PyData→Bool
 | []=>true
 | d :: ds=>noL d && noLs ds
end
mutual
theorem trv_trg {b:Addr} {H g:Hp} (k:∀ a xs,H a=some (.tup xs)→g a=some (.tup xs)):∀ {v:V} {d:PyData},noL d=true→TrV b H v d→TrG g v d
 | _,_,_,.non=>.non
 | _,_,_,.bl c=>.bl c
 | _,_,_,.int i=>.int i
 | _,_,_,.str x o=>.str x o
 | _,_,n,.lst _ h t=>by cases n
 | _,_,n,.tup h t=>.tup (k _ _ h) (trvs_trgs k n t)
theorem trvs_trgs {b:Addr} {H g:Hp} (k:∀ a xs,H a=some (.tup xs)→g a=some (.tup xs)):∀ {vs:List V} {ds:List PyData},noLs ds=true→TrVs b H vs ds→TrGs g vs ds
 | _,_,_,.nil=>.nil
 | _,_,n,.cons h t=>by
  have n':=(Bool.and_eq_true _ _).mp n
  exact .cons (trv_trg k n'.1 h) (trvs_trgs k n'.2 t)
end
inductive AV where
 | im (d:PyData) | own (k:Nat) | bag (j:Nat) | scr (ns:List Int)
abbrev Sto:=List (Option (List AV))
abbrev Slt:=List (Option AV)
structure Wd where
 bags:List Addr
 ads:List Addr
 hid:List (Addr × HO)
def Hid (w:Wd) (O:Sto) (a:Addr):Prop:=a ∈ w.bags ∨ (∃ o,(a,o) ∈ w.hid) ∨ ∃ (k:Nat) (c:List AV),w.ads[k]?=some a∧O[k]?=some (some c)
open Classical in
noncomputable def G (w:Wd) (O:Sto) (H:Hp):Hp:=fun a=>if Hid w O a then none else H a
theorem G_of {w:Wd} {O:Sto} {H:Hp} {a:Addr} (h:¬ Hid w O a):G w O H a=H a:=if_neg h
theorem G_in {w:Wd} {O:Sto} {H:Hp} {a:Addr} {o:HO} (h:G w O H a=some o):H a=some o∧¬ Hid w O a:=by
 unfold G at h
 split at h
 ·cases h
 ·exact ⟨h,by assumption⟩
def AVr (K:PySem.W.Frag) (w:Wd) (g:Hp) (v:V):AV→Prop
 | .im d=>TrG g v d
 | .own k=>∃ a,w.ads[k]?=some a∧v=.ref a
 | .bag j=>∃ a,w.bags[j]?=some a∧v=.ref a
 | .scr ns=>∃ a,v=.ref a∧SqL K g a (ns.map V.int)
def AVrs (K:PySem.W.Frag) (w:Wd) (g:Hp) (vs:List V) (xs:List AV):Prop:=vs.length=xs.length∧∀ (i:Nat) v x,vs[i]?=some v→xs[i]?=some x→AVr K w g v x
structure RelO (K:PySem.W.Frag) (w:Wd) (O:Sto) (H:Hp):Prop where
 len:w.ads.length=O.length
 nd:w.ads.Nodup
 al:∀ a ∈ w.ads,∃ o,H a=some o
 nb:∀ a ∈ w.bags,a ∉ w.ads
 hn:(w.hid.map (·.1)).Nodup
 nh:∀ p ∈ w.hid,p.1 ∉ w.ads∧p.1 ∉ w.bags∧H p.1=some p.2∧∀ xs,p.2 ≠ .tup xs
 bg:∀ a ∈ w.bags,Bag H a
 cel:∀ (k:Nat) c,O[k]?=some (some c)→∃ a vs,w.ads[k]?=some a∧H a=some (.lst vs)∧AVrs K w (G w O H) vs c
structure Ex0 (w:Wd) (O:Sto) (H:Hp) (w':Wd) (O':Sto) (H':Hp):Prop where
 bs:∃ t,w'.bags=w.bags ++ t
 ads:∃ t,w'.ads=w.ads ++ t
 hs:∃ t,w'.hid=t ++ w.hid
 stay:Stay (G w O H) (G w' O' H')
structure Ext (w:Wd) (O:Sto) (H:Hp) (w':Wd) (O':Sto) (H':Hp):Prop where
 ex:Ex0 w O H w' O' H'
 hid:w'.hid=w.hid
theorem Ex0.refl (w:Wd) (O:Sto) (H:Hp):Ex0 w O H w O H:=⟨⟨[],by simp⟩,⟨[],by simp⟩,⟨[],by simp⟩,Stay.refl _⟩
theorem Ex0.trans {w w1 w2:Wd} {O O1 O2:Sto} {H H1 H2:Hp} (a:Ex0 w O H w1 O1 H1) (b:Ex0 w1 O1 H1 w2 O2 H2):Ex0 w O H w2 O2 H2:=by
 obtain ⟨t,ht⟩:=a.ads
 obtain ⟨u,hu⟩:=b.ads
 obtain ⟨t',ht'⟩:=a.hs
 obtain ⟨u',hu'⟩:=b.hs
 obtain ⟨t2,ht2⟩:=a.bs
 obtain ⟨u2,hu2⟩:=b.bs
 exact ⟨⟨t2 ++ u2,by rw [hu2,ht2,List.append_assoc]⟩,⟨t ++ u,by rw [hu,ht,List.append_assoc]⟩,⟨u' ++ t',by rw [hu',ht',List.append_assoc]⟩,a.stay.trans b.stay⟩
theorem Ext.refl (w:Wd) (O:Sto) (H:Hp):Ext w O H w O H:=⟨Ex0.refl _ _ _,rfl⟩
theorem Ext.trans {w w1 w2:Wd} {O O1 O2:Sto} {H H1 H2:Hp} (a:Ext w O H w1 O1 H1) (b:Ext w1 O1 H1 w2 O2 H2):Ext w O H w2 O2 H2:=⟨a.ex.trans b.ex,b.hid.trans a.hid⟩
theorem Ex0.at {w w1:Wd} {O O1:Sto} {H H1:Hp} (e:Ex0 w O H w1 O1 H1) {k:Nat} {a:Addr} (h:w.ads[k]?=some a):w1.ads[k]?=some a:=by
 obtain ⟨t,ht⟩:=e.ads
 rw [ht,List.getElem?_append_left (List.getElem?_eq_some_iff.mp h).1]; exact h
theorem AVr.ex {K:PySem.W.Frag} {w w1:Wd} {O O1:Sto} {H H1:Hp} (e:Ex0 w O H w1 O1 H1) {v:V}:∀ {x:AV},AVr K w (G w O H) v x→AVr K w1 (G w1 O1 H1) v x
 | .im d,h=>by
  exact TrG.stay e.stay h
 | .own k,h=>by
  obtain ⟨a,h1,h2⟩:=h
  exact ⟨a,e.at h1,h2⟩
 | .bag j,h=>by
  obtain ⟨a,h1,h2⟩:=h
  obtain ⟨t,ht⟩:=e.bs
  exact ⟨a,by rw [ht,List.getElem?_append_left (List.getElem?_eq_some_iff.mp h1).1]; exact h1,h2⟩
 | .scr ns,h=>by
  obtain ⟨a,h1,h2⟩:=h
  exact ⟨a,h1,KG.SqL.stay h2 e.stay⟩
theorem AVrs.ex {K:PySem.W.Frag} {w w1:Wd} {O O1:Sto} {H H1:Hp} (e:Ex0 w O H w1 O1 H1) {vs:List V} {xs:List AV} (h:AVrs K w (G w O H) vs xs):AVrs K w1 (G w1 O1 H1) vs xs:=⟨h.1,fun i v x h1 h2=>(h.2 i v x h1 h2).ex e⟩
theorem AVrs.nil {K:PySem.W.Frag} {w:Wd} {g:Hp}:AVrs K w g [] []:=⟨rfl,fun i v x h=>by simp at h⟩
theorem AVrs.cons {K:PySem.W.Frag} {w:Wd} {g:Hp} {v:V} {x:AV} {vs:List V} {xs:List AV} (h:AVr K w g v x) (hs:AVrs K w g vs xs):AVrs K w g (v :: vs) (x :: xs):=by
 refine ⟨by simp [hs.1],fun i u y h1 h2=>?_⟩
 cases i with
 | zero=>simp at h1 h2; rw [← h1,← h2]; exact h
 | succ i=>exact hs.2 i u y (by simpa using h1) (by simpa using h2)
theorem AVrs.uncons {K:PySem.W.Frag} {w:Wd} {g:Hp} {vs:List V} {x:AV} {xs:List AV} (h:AVrs K w g vs (x :: xs)):∃ v us,vs=v :: us∧AVr K w g v x∧AVrs K w g us xs:=by
 cases vs with
 | nil=>exact absurd h.1 (by simp)
 | cons v us =>
  refine ⟨v,us,rfl,h.2 0 v x rfl rfl,by have:=h.1; simp at this; exact this,fun i u y h1 h2=>h.2 (i + 1) u y (by simpa using h1) (by simpa using h2)⟩
theorem AVrs.unnil {K:PySem.W.Frag} {w:Wd} {g:Hp} {vs:List V} (h:AVrs K w g vs []):vs=[]:=List.length_eq_zero_iff.mp h.1
theorem AVrs.app {K:PySem.W.Frag} {w:Wd} {g:Hp} {vs us:List V} {xs ys:List AV} (h:AVrs K w g vs xs) (h':AVrs K w g us ys):AVrs K w g (vs ++ us) (xs ++ ys):=by
 refine ⟨by simp [h.1,h'.1],fun i v x h1 h2=>?_⟩
 rcases Nat.lt_or_ge i vs.length with y | y
 ·rw [List.getElem?_append_left y] at h1
  rw [List.getElem?_append_left (by rw [← h.1]; exact y)] at h2
  exact h.2 i v x h1 h2
 ·rw [List.getElem?_append_right y] at h1
  rw [List.getElem?_append_right (by rw [← h.1]; exact y)] at h2
  rw [← h.1] at h2
  exact h'.2 _ v x h1 h2
theorem AVrs.at {K:PySem.W.Frag} {w:Wd} {g:Hp} {vs:List V} {xs:List AV} {i:Nat} {x:AV} (h:AVrs K w g vs xs) (hx:xs[i]?=some x):∃ v,vs[i]?=some v∧AVr K w g v x:=by
 have hl:=(List.getElem?_eq_some_iff.mp hx).1
 have hv:i < vs.length:=by rw [h.1]; exact hl
 exact ⟨vs[i],List.getElem?_eq_getElem hv,h.2 i _ x (List.getElem?_eq_getElem hv) hx⟩
theorem TrGs.avs {K:PySem.W.Frag} {w:Wd} {g:Hp}:∀ {vs:List V} {ds:List PyData},TrGs g vs ds→AVrs K w g vs (ds.map .im)
 | _,_,.nil=>AVrs.nil
 | _,_,.cons h t=>AVrs.cons h (TrGs.avs t)
theorem AVrs.tr {K:PySem.W.Frag} {w:Wd} {g:Hp}:∀ {ds:List PyData} {vs:List V},AVrs K w g vs (ds.map .im)→TrGs g vs ds
 | [],_,h=>by rw [AVrs.unnil h]; exact .nil
 | d :: ds,_,h=>by
  obtain ⟨v,us,rfl,h1,h2⟩:=AVrs.uncons h
  exact .cons h1 (AVrs.tr h2)
def Slots (K:PySem.W.Frag) (w:Wd) (g:Hp) (σ:St) (sl:Slt):Prop:=σ.length=sl.length∧∀ (i:Nat) x,sl[i]?=some (some x)→∃ v,σ[i]?=some (some v)∧AVr K w g v x
theorem Slots.ex {K:PySem.W.Frag} {w w1:Wd} {O O1:Sto} {H H1:Hp} (e:Ex0 w O H w1 O1 H1) {σ:St} {sl:Slt} (h:Slots K w (G w O H) σ sl):Slots K w1 (G w1 O1 H1) σ sl :=
 ⟨h.1,fun i x hx=>by obtain ⟨v,h1,h2⟩:=h.2 i x hx; exact ⟨v,h1,h2.ex e⟩⟩
theorem Slots.set {K:PySem.W.Frag} {w:Wd} {g:Hp} {σ:St} {sl:Slt} (h:Slots K w g σ sl) {v:V} {x:AV} (hx:AVr K w g v x) (j:Nat):Slots K w g (σ.set j (some v)) (sl.set j (some x)):=by
 refine ⟨by simp [h.1],fun i y h2=>?_⟩
 by_cases e:j=i
 ·subst e
  have hl:=(List.getElem?_eq_some_iff.mp h2).1
  rw [List.length_set] at hl
  rw [List.getElem?_set_self hl] at h2
  have hy:x=y:=by injection (Option.some.inj h2)
  exact ⟨v,by rw [List.getElem?_set_self (by rw [h.1]; exact hl)],hy ▸ hx⟩
 ·rw [List.getElem?_set_ne e] at h2
  rw [List.getElem?_set_ne e]
  exact h.2 i y h2
theorem Slots.forget {K:PySem.W.Frag} {w:Wd} {g:Hp} {σ:St} {sl:Slt} (h:Slots K w g σ sl) {o:Option V} (j:Nat):Slots K w g (σ.set j o) (sl.set j none):=by
 refine ⟨by simp [h.1],fun i y h2=>?_⟩
 by_cases e:j=i
 ·subst e
  have hl:=(List.getElem?_eq_some_iff.mp h2).1
  rw [List.length_set] at hl
  rw [List.getElem?_set_self hl] at h2
  cases Option.some.inj h2
 ·rw [List.getElem?_set_ne e] at h2
  rw [List.getElem?_set_ne e]
  exact h.2 i y h2
def blkS (own:Nat) (ix:List Nat) (sl:Slt):Slt:=List.replicate own none ++ ix.map fun i=>(sl[i]?).getD none
theorem Slots.blk {K:PySem.W.Frag} {w:Wd} {g:Hp} {σ:St} {sl:Slt} (h:Slots K w g σ sl) (own:Nat) (ix:List Nat):Slots K w g (blkσ own ix σ) (blkS own ix sl):=by
 refine ⟨by simp [blkσ,blkS],fun i x hx=>?_⟩
 unfold blkS at hx
 unfold blkσ
 rcases Nat.lt_or_ge i own with y | y
 ·rw [List.getElem?_append_left (by simpa using y)] at hx
  rw [List.getElem?_replicate,if_pos y] at hx
  cases Option.some.inj hx
 ·rw [List.getElem?_append_right (by simpa using y)] at hx ⊢
  rw [List.length_replicate,List.getElem?_map] at hx ⊢
  cases hj:ix[i - own]? with
  | none=>rw [hj] at hx; cases hx
  | some j =>
   rw [hj] at hx
   have hx':(sl[j]?).getD none=some x:=Option.some.inj hx
   have:sl[j]?=some (some x):=by
    cases hs:sl[j]? with
    | none=>rw [hs] at hx'; cases hx'
    | some o=>rw [hs] at hx'; exact congrArg some hx'
   obtain ⟨v,h1,h2⟩:=h.2 j x this
   refine ⟨v,?_,h2⟩
   show some ((σ[j]?).getD none)=_
   rw [h1]; rfl
def Zx (K:PySem.W.Frag) (QX:Addr→Sto→Prop) (E:XK) (w:Wd) (O:Sto) (H:Hp):Prop:=∀ c O' w' H',QX c O'→Ex0 w O H w' O' H'→RelO K w' O' H'→E (.ref c) none H'
structure Cfg (K:PySem.W.Frag) (QX:Addr→Sto→Prop) (E:XK) (w:Wd) (O:Sto) (H:Hp) (σ:St) (sl:Slt):Prop where
 ro:RelO K w O H
 so:Slots K w (G w O H) σ sl
 zx:Zx K QX E w O H
theorem Cfg.ex {K:PySem.W.Frag} {QX:Addr→Sto→Prop} {E:XK} {w w1:Wd} {O O1:Sto} {H H1:Hp} {σ:St} {sl:Slt} (c:Cfg K QX E w O H σ sl) (e:Ex0 w O H w1 O1 H1) (r:RelO K w1 O1 H1):Cfg K QX E w1 O1 H1 σ sl :=
 ⟨r,c.so.ex e,fun k O' w' H' q e' r'=>c.zx k O' w' H' q (e.trans e') r'⟩
abbrev ME:=Slt→Sto→(AV→Sto→Prop)→Prop
abbrev MT:=Slt→Sto→(Bool→Sto→Prop)→Prop
abbrev MA:=Slt→Sto→(List AV→Sto→Prop)→Prop
structure MEnds where
 nx:Slt→Sto→Prop
 rt:AV→Sto→Prop
 bk:Slt→Sto→Prop:=fun _ _=>False
 ct:Slt→Sto→Prop:=fun _ _=>False
abbrev MS:=MEnds→Slt→Sto→Prop
section
variable (K:PySem.W.Frag) (QX:Addr→Sto→Prop) (E:XK)
def teM (M:ME):TE:=fun σ H Q=>∃ w O sl Q0,Cfg K QX E w O H σ sl∧M sl O Q0∧∀ x O' v w' H',Q0 x O'→Ext w O H w' O' H'→RelO K w' O' H'→AVr K w' (G w' O' H') v x→Q v H'
def ttM (M:MT):TT:=fun σ H Q=>∃ w O sl Q0,Cfg K QX E w O H σ sl∧M sl O Q0∧∀ c O' w' H',Q0 c O'→Ext w O H w' O' H'→RelO K w' O' H'→Q c H'
def taM (M:MA):TA:=fun σ H Q=>∃ w O sl Q0,Cfg K QX E w O H σ sl∧M sl O Q0∧∀ xs O' vs w' H',Q0 xs O'→Ext w O H w' O' H'→RelO K w' O' H'→AVrs K w' (G w' O' H') vs xs→Q vs H'
def tsM (M:MS):TS:=fun D σ H=>∃ w O sl D0,Cfg K QX E w O H σ sl∧M D0 sl O ∧
 (∀ sl' O' w' H' σ',D0.nx sl' O'→Cfg K QX E w' O' H' σ' sl'→Ext w O H w' O' H'→D.nx σ' H') ∧
 (∀ sl' O' w' H' σ',D0.bk sl' O'→Cfg K QX E w' O' H' σ' sl'→Ext w O H w' O' H'→D.bk σ' H') ∧
 (∀ sl' O' w' H' σ',D0.ct sl' O'→Cfg K QX E w' O' H' σ' sl'→Ext w O H w' O' H'→D.ct σ' H') ∧
 (∀ x O' w' H' v,D0.rt x O'→Ext w O H w' O' H'→RelO K w' O' H'→AVr K w' (G w' O' H') v x→D.rt v H')
end
end MI
namespace MI
open PySem L2 KG EX KM
section
variable {K:PySem.W.Frag} {w:Wd} {O:Sto} {H H':Hp}
theorem RelO.all (r:RelO K w O H) {a:Addr} (h:Hid w O a):∃ o,H a=some o:=by
 rcases h with h1 | ⟨o,h1⟩ | ⟨k,c,h1,h2⟩
 ·obtain ⟨c,d,e⟩:=r.bg _ h1; exact ⟨_,e⟩
 ·exact ⟨_,(r.nh _ h1).2.2.1⟩
 ·obtain ⟨a',vs,e1,e2,_⟩:=r.cel k c h2
  rw [h1] at e1
  cases Option.some.inj e1
  exact ⟨_,e2⟩
theorem RelO.fresh (r:RelO K w O H) {a:Addr} (h:H a=none):¬ Hid w O a:=fun z=>by obtain ⟨o,e⟩:=r.all z; rw [h] at e; cases e
theorem RelO.stay (r:RelO K w O H) (s:Stay H H'):RelO K w O H'∧Ext w O H w O H'∧∀ a o,H a=none→H' a=some o→G w O H' a=some o:=by
 have sg:Stay (G w O H) (G w O H'):=fun a o h=>by
  obtain ⟨h1,h2⟩:=G_in h
  rw [G_of h2]; exact s _ _ h1
 have e:Ext w O H w O H':=⟨⟨⟨[],by simp⟩,⟨[],by simp⟩,⟨[],by simp⟩,sg⟩,rfl⟩
 refine ⟨⟨r.len,r.nd,fun a ha=>(let ⟨o,h⟩:=r.al a ha; ⟨o,s _ _ h⟩),r.nb,r.hn,fun p hp=>⟨(r.nh p hp).1,(r.nh p hp).2.1,s _ _ (r.nh p hp).2.2.1,(r.nh p hp).2.2.2⟩,fun a ha=>Bag.stay (r.bg a ha) s,fun k c hk=>?_⟩,e,fun a o h1 h2=>?_⟩
 ·obtain ⟨a,vs,h1,h2,h3⟩:=r.cel k c hk
  exact ⟨a,vs,h1,s _ _ h2,h3.ex e.ex⟩
 ·rw [G_of (r.fresh h1)]; exact h2
theorem RelO.draw (r:RelO K w O H) {b:Addr} (hb:b ∈ w.bags) (k:Kp b H H') (hB:Bag H' b):RelO K w O H'∧Ext w O H w O H'∧∀ a o,H a=none→H' a=some o→G w O H' a=some o:=by
 have sg:Stay (G w O H) (G w O H'):=fun a o h=>by
  obtain ⟨h1,h2⟩:=G_in h
  rw [G_of h2]; exact k _ _ (fun z=>h2 (Or.inl (z ▸ hb))) h1
 have e:Ext w O H w O H':=⟨⟨⟨[],by simp⟩,⟨[],by simp⟩,⟨[],by simp⟩,sg⟩,rfl⟩
 refine ⟨⟨r.len,r.nd,fun a ha=>(let ⟨o,h⟩:=r.al a ha; ⟨o,k _ _ (fun z=>r.nb b hb (z ▸ ha)) h⟩),r.nb,r.hn,fun p hp=>⟨(r.nh p hp).1,(r.nh p hp).2.1,k _ _ (fun z=>(r.nh p hp).2.1 (z ▸ hb)) (r.nh p hp).2.2.1,(r.nh p hp).2.2.2⟩,fun a ha=>?_,fun j c hk=>?_⟩,e,fun a o h1 h2=>?_⟩
 ·by_cases z:a=b
  ·rw [z]; exact hB
  ·obtain ⟨x,y,q⟩:=r.bg a ha; exact ⟨x,y,k _ _ z q⟩
 ·obtain ⟨a,vs,h1,h2,h3⟩:=r.cel j c hk
  exact ⟨a,vs,h1,k _ _ (fun z=>r.nb b hb (z ▸ List.mem_of_getElem? h1)) h2,h3.ex e.ex⟩
 ·rw [G_of (r.fresh h1)]; exact h2
theorem RelO.bag (r:RelO K w O H) {p:Addr} {x y:Int} (hp:H p=none):RelO K { w with bags:=w.bags ++ [p] } O (upd H p (.lst [.int x,.int y]))∧Ext w O H { w with bags:=w.bags ++ [p] } O (upd H p (.lst [.int x,.int y])):=by
 have hhid:∀ a,Hid { w with bags:=w.bags ++ [p] } O a→Hid w O a ∨ a=p:=fun a h=>by
  rcases h with h | h
  ·rcases List.mem_append.mp h with h | h
   ·exact .inl (.inl h)
   ·exact .inr (List.mem_singleton.mp h)
  ·exact .inl (.inr h)
 have sg:Stay (G w O H) (G { w with bags:=w.bags ++ [p] } O (upd H p (.lst [.int x,.int y]))):=fun a o h=>by
  obtain ⟨h1,h2⟩:=G_in h
  have hne:a ≠ p:=fun z=>by rw [z,hp] at h1; cases h1
  rw [G_of (fun z=>(hhid a z).elim h2 hne),jb3 hne]; exact h1
 have e:Ext w O H { w with bags:=w.bags ++ [p] } O (upd H p (.lst [.int x,.int y])):=⟨⟨⟨[p],rfl⟩,⟨[],by simp⟩,⟨[],by simp⟩,sg⟩,rfl⟩
 have nal:p ∉ w.ads:=fun z=>by obtain ⟨u,h⟩:=r.al p z; rw [hp] at h; cases h
 refine ⟨⟨r.len,r.nd,fun a ha=>?_,fun a ha=>?_,r.hn,fun q hq=>?_,fun a ha=>?_,fun k c hk=>?_⟩,e⟩
 ·obtain ⟨u,h⟩:=r.al a ha
  have hne:a ≠ p:=fun z=>nal (z ▸ ha)
  exact ⟨u,by rw [jb3 hne]; exact h⟩
 ·rcases List.mem_append.mp ha with h | h
  ·exact r.nb a h
  ·rw [List.mem_singleton.mp h]; exact nal
 ·obtain ⟨h1,h2,h3,h4⟩:=r.nh q hq
  have hne:q.1 ≠ p:=fun z=>by rw [z,hp] at h3; cases h3
  refine ⟨h1,fun z=>?_,by rw [jb3 hne]; exact h3,h4⟩
  rcases List.mem_append.mp z with h | h
  ·exact h2 h
  ·exact hne (List.mem_singleton.mp h)
 ·rcases List.mem_append.mp ha with h | h
  ·exact (r.bg a h).new hp
  ·rw [List.mem_singleton.mp h]; exact ⟨x,y,jb1⟩
 ·obtain ⟨a',vs,h1,h2,h3⟩:=r.cel k c hk
  have hne:a' ≠ p:=fun z=>by rw [z,hp] at h2; cases h2
  exact ⟨a',vs,h1,by rw [jb3 hne]; exact h2,h3.ex e.ex⟩
theorem RelO.new (r:RelO K w O H) {p:Addr} {o:HO} (hp:H p=none):RelO K w O (upd H p o)∧Ext w O H w O (upd H p o)∧G w O (upd H p o) p=some o:=by
 obtain ⟨h1,h2,h3⟩:=r.stay ((Stay.refl H).new (o:=o) hp)
 exact ⟨h1,h2,h3 p o hp jb1⟩
theorem Hid.set {k:Nat} {c c':List AV} {a:Addr} (hk:O[k]?=some (some c)):Hid w (O.set k (some c')) a ↔ Hid w O a:=by
 have hl:=(List.getElem?_eq_some_iff.mp hk).1
 unfold Hid
 constructor
 ·rintro (h | h | ⟨j,d,h1,h2⟩)
  ·exact .inl h
  ·exact .inr (.inl h)
  ·by_cases e:k=j
   ·subst e; exact .inr (.inr ⟨k,c,h1,hk⟩)
   ·rw [List.getElem?_set_ne e] at h2
    exact .inr (.inr ⟨j,d,h1,h2⟩)
 ·rintro (h | h | ⟨j,d,h1,h2⟩)
  ·exact .inl h
  ·exact .inr (.inl h)
  ·by_cases e:k=j
   ·subst e; exact .inr (.inr ⟨k,c',h1,List.getElem?_set_self hl⟩)
   ·exact .inr (.inr ⟨j,d,h1,by rw [List.getElem?_set_ne e]; exact h2⟩)
theorem RelO.put (r:RelO K w O H) {k:Nat} {c c':List AV} {a:Addr} {vs vs':List V} (hk:O[k]?=some (some c)) (ha:w.ads[k]?=some a) (hv:H a=some (.lst vs)) (hc:AVrs K w (G w O H) vs' c') :
  RelO K w (O.set k (some c')) (upd H a (.lst vs'))∧Ext w O H w (O.set k (some c')) (upd H a (.lst vs')):=by
 have hl:=(List.getElem?_eq_some_iff.mp hk).1
 have hida:Hid w O a:=.inr (.inr ⟨k,c,ha,hk⟩)
 have sg:Stay (G w O H) (G w (O.set k (some c')) (upd H a (.lst vs'))):=fun x o h=>by
  obtain ⟨h1,h2⟩:=G_in h
  have hne:x ≠ a:=fun z=>h2 (z ▸ hida)
  rw [G_of (fun z=>h2 ((Hid.set hk).mp z)),jb3 hne]; exact h1
 have e:Ext w O H w (O.set k (some c')) (upd H a (.lst vs')):=⟨⟨⟨[],by simp⟩,⟨[],by simp⟩,⟨[],by simp⟩,sg⟩,rfl⟩
 refine ⟨⟨by rw [List.length_set]; exact r.len,r.nd,fun x hx=>?_,r.nb,r.hn,fun p hp=>?_,fun b hb=>?_,fun j d hj=>?_⟩,e⟩
 ·obtain ⟨o,h⟩:=r.al x hx
  by_cases z:x=a
  ·subst z; exact ⟨_,jb1⟩
  ·exact ⟨o,by rw [jb3 z]; exact h⟩
 ·obtain ⟨h1,h2,h3,h4⟩:=r.nh p hp
  have hne:p.1 ≠ a:=fun z=>h1 (z ▸ List.mem_of_getElem? ha)
  exact ⟨h1,h2,by rw [jb3 hne]; exact h3,h4⟩
 ·exact (r.bg b hb).acc (fun z=>r.nb b hb (z ▸ List.mem_of_getElem? ha))
 ·by_cases ej:k=j
  ·subst ej
   rw [List.getElem?_set_self hl] at hj
   have hd:c'=d:=by injection (Option.some.inj hj)
   subst hd
   exact ⟨a,vs',ha,jb1,hc.ex e.ex⟩
  ·rw [List.getElem?_set_ne ej] at hj
   obtain ⟨a',us,h1,h2,h3⟩:=r.cel j d hj
   have hne:a' ≠ a:=fun z=>by
    subst z
    exact ej ((List.getElem?_inj (List.getElem?_eq_some_iff.mp ha).1 r.nd).mp (ha.trans h1.symm))
   exact ⟨a',us,h1,by rw [jb3 hne]; exact h2,h3.ex e.ex⟩
theorem RelO.own (r:RelO K w O H) {p:Addr} {c:List AV} {vs:List V} (hp:H p=none) (hc:AVrs K w (G w O H) vs c) :
  RelO K { w with ads:=w.ads ++ [p] } (O ++ [some c]) (upd H p (.lst vs))∧Ext w O H { w with ads:=w.ads ++ [p] } (O ++ [some c]) (upd H p (.lst vs))∧({ w with ads:=w.ads ++ [p] }:Wd).ads[O.length]?=some p:=by
 have hhid:∀ x,Hid { w with ads:=w.ads ++ [p] } (O ++ [some c]) x→Hid w O x ∨ x=p:=fun x h=>by
  rcases h with h | h | ⟨j,d,h1,h2⟩
  ·exact .inl (.inl h)
  ·exact .inl (.inr (.inl h))
  ·change (w.ads ++ [p])[j]?=some x at h1
   rcases Nat.lt_or_ge j O.length with y | y
   ·rw [List.getElem?_append_left y] at h2
    rw [List.getElem?_append_left (by rw [r.len]; exact y)] at h1
    exact .inl (.inr (.inr ⟨j,d,h1,h2⟩))
   ·have hj:=(List.getElem?_eq_some_iff.mp h1).1
    rw [List.length_append,r.len] at hj
    have:j=O.length:=by simp at hj; omega
    subst this
    rw [List.getElem?_append_right (by rw [r.len]; exact Nat.le_refl _),r.len,Nat.sub_self] at h1
    exact .inr (by simpa using h1.symm)
 have sg:Stay (G w O H) (G { w with ads:=w.ads ++ [p] } (O ++ [some c]) (upd H p (.lst vs))):=fun x o h=>by
  obtain ⟨h1,h2⟩:=G_in h
  have hne:x ≠ p:=fun z=>by rw [z,hp] at h1; cases h1
  rw [G_of (fun z=>(hhid x z).elim h2 hne),jb3 hne]; exact h1
 have e:Ext w O H { w with ads:=w.ads ++ [p] } (O ++ [some c]) (upd H p (.lst vs)):=⟨⟨⟨[],by simp⟩,⟨[p],rfl⟩,⟨[],by simp⟩,sg⟩,rfl⟩
 have hat:(w.ads ++ [p])[O.length]?=some p:=by rw [← r.len]; simp
 have hna:p ∉ w.ads:=fun z=>by obtain ⟨o,h⟩:=r.al p z; rw [hp] at h; cases h
 refine ⟨⟨by simp [r.len],?_,fun x hx=>?_,fun b hb=>?_,r.hn,fun q hq=>?_,fun b hb=>(r.bg b hb).new hp,fun j d hj=>?_⟩,e,hat⟩
 ·show (w.ads ++ [p]).Nodup
  rw [List.nodup_append]
  exact ⟨r.nd,by simp,fun a ha b hb' e=>by rw [List.mem_singleton] at hb'; rw [e,hb'] at ha; exact hna ha⟩
 ·rcases List.mem_append.mp hx with y | y
  ·obtain ⟨o,h⟩:=r.al x y
   have hne:x ≠ p:=fun z=>by rw [z,hp] at h; cases h
   exact ⟨o,by rw [jb3 hne]; exact h⟩
  ·rw [List.mem_singleton.mp y]; exact ⟨_,jb1⟩
 ·intro z
  rcases List.mem_append.mp z with y | y
  ·exact r.nb b hb y
  ·exact (r.bg b hb).ne hp (List.mem_singleton.mp y)
 ·obtain ⟨h1,h2,h3,h4⟩:=r.nh q hq
  have hne:q.1 ≠ p:=fun z=>by rw [z,hp] at h3; cases h3
  refine ⟨fun z=>?_,h2,by rw [jb3 hne]; exact h3,h4⟩
  rcases List.mem_append.mp z with y | y
  ·exact h1 y
  ·exact hne (List.mem_singleton.mp y)
 ·rcases Nat.lt_or_ge j O.length with y | y
  ·rw [List.getElem?_append_left y] at hj
   obtain ⟨a',us,h1,h2,h3⟩:=r.cel j d hj
   have hne:a' ≠ p:=fun z=>by rw [z,hp] at h2; cases h2
   exact ⟨a',us,e.ex.at h1,by rw [jb3 hne]; exact h2,h3.ex e.ex⟩
  ·have hj':=(List.getElem?_eq_some_iff.mp hj).1
   rw [List.length_append] at hj'
   have:j=O.length:=by simp at hj'; omega
   subst this
   rw [List.getElem?_append_right (Nat.le_refl _),Nat.sub_self] at hj
   have hd:c=d:=by injection (Option.some.inj hj)
   subst hd
   exact ⟨p,vs,hat,jb1,hc.ex e.ex⟩
theorem RelO.hide (r:RelO K w O H) {a:Addr} {o:HO} (ha:H a=none) (ho:∀ xs,o ≠ .tup xs):RelO K { w with hid:=(a,o) :: w.hid } O (upd H a o)∧Ex0 w O H { w with hid:=(a,o) :: w.hid } O (upd H a o):=by
 have hhid:∀ x,Hid { w with hid:=(a,o) :: w.hid } O x→Hid w O x ∨ x=a:=fun x h=>by
  rcases h with h | ⟨u,h⟩ | h
  ·exact .inl (.inl h)
  ·rcases List.mem_cons.mp h with e | e
   ·exact .inr (by injection e)
   ·exact .inl (.inr (.inl ⟨u,e⟩))
  ·exact .inl (.inr (.inr h))
 have sg:Stay (G w O H) (G { w with hid:=(a,o) :: w.hid } O (upd H a o)):=fun x u h=>by
  obtain ⟨h1,h2⟩:=G_in h
  have hne:x ≠ a:=fun z=>by rw [z,ha] at h1; cases h1
  rw [G_of (fun z=>(hhid x z).elim h2 hne),jb3 hne]; exact h1
 have e:Ex0 w O H { w with hid:=(a,o) :: w.hid } O (upd H a o):=⟨⟨[],by simp⟩,⟨[],by simp⟩,⟨[(a,o)],rfl⟩,sg⟩
 have nal:a ∉ w.ads:=fun z=>by obtain ⟨u,h⟩:=r.al a z; rw [ha] at h; cases h
 refine ⟨⟨r.len,r.nd,fun x hx=>?_,r.nb,?_,fun p hp=>?_,fun b hb=>(r.bg b hb).new ha,fun k c hk=>?_⟩,e⟩
 ·obtain ⟨u,h⟩:=r.al x hx
  have hne:x ≠ a:=fun z=>nal (z ▸ hx)
  exact ⟨u,by rw [jb3 hne]; exact h⟩
 ·show (a :: w.hid.map (·.1)).Nodup
  rw [List.nodup_cons]
  refine ⟨fun z=>?_,r.hn⟩
  obtain ⟨p,hp,e⟩:=List.mem_map.mp z
  have:=(r.nh p hp).2.2.1
  rw [e,ha] at this; cases this
 ·rcases List.mem_cons.mp hp with e | e
  ·subst e
   exact ⟨nal,fun hb=>(r.bg a hb).ne ha rfl,jb1,ho⟩
  ·obtain ⟨h1,h2,h3,h4⟩:=r.nh p e
   have hne:p.1 ≠ a:=fun z=>by rw [z,ha] at h3; cases h3
   exact ⟨h1,h2,by rw [jb3 hne]; exact h3,h4⟩
 ·obtain ⟨a',vs,h1,h2,h3⟩:=r.cel k c hk
  have hne:a' ≠ a:=fun z=>by rw [z,ha] at h2; cases h2
  exact ⟨a',vs,h1,by rw [jb3 hne]; exact h2,h3.ex e⟩
theorem Hid.eq {a:Addr} {o o':HO} {h0:List (Addr × HO)} (hh:w.hid=(a,o) :: h0) {x:Addr}:Hid { w with hid:=(a,o') :: h0 } O x ↔ Hid w O x:=by
 unfold Hid
 rw [hh]
 constructor
 ·rintro (h | ⟨u,h⟩ | h)
  ·exact .inl h
  ·rcases List.mem_cons.mp h with e | e
   ·have ea:x=a:=by injection e
    subst ea; exact .inr (.inl ⟨o,List.mem_cons_self⟩)
   ·exact .inr (.inl ⟨u,List.mem_cons_of_mem _ e⟩)
  ·exact .inr (.inr h)
 ·rintro (h | ⟨u,h⟩ | h)
  ·exact .inl h
  ·rcases List.mem_cons.mp h with e | e
   ·have ea:x=a:=by injection e
    subst ea; exact .inr (.inl ⟨o',List.mem_cons_self⟩)
   ·exact .inr (.inl ⟨u,List.mem_cons_of_mem _ e⟩)
  ·exact .inr (.inr h)
theorem RelO.rehide (r:RelO K w O H) {a:Addr} {o o':HO} {h0:List (Addr × HO)} (hh:w.hid=(a,o) :: h0) (ho:∀ xs,o' ≠ .tup xs):RelO K { w with hid:=(a,o') :: h0 } O (upd H a o')∧Stay (G w O H) (G { w with hid:=(a,o') :: h0 } O (upd H a o')):=by
 obtain ⟨n1,n2,n3,n4⟩:=r.nh (a,o) (by rw [hh]; exact List.mem_cons_self)
 have hna:=r.hn
 rw [hh,List.map_cons,List.nodup_cons] at hna
 have sg:Stay (G w O H) (G { w with hid:=(a,o') :: h0 } O (upd H a o')):=fun x u h=>by
  obtain ⟨h1,h2⟩:=G_in h
  have hne:x ≠ a:=fun z=>h2 (.inr (.inl ⟨o,by rw [hh,z]; exact List.mem_cons_self⟩))
  rw [G_of (fun z=>h2 ((Hid.eq hh).mp z)),jb3 hne]; exact h1
 refine ⟨⟨r.len,r.nd,fun x hx=>?_,r.nb,?_,fun p hp=>?_,fun b hb=>(r.bg b hb).acc (fun z=>n2 (z ▸ hb)),fun k c hk=>?_⟩,sg⟩
 ·obtain ⟨u,h⟩:=r.al x hx
  have hne:x ≠ a:=fun z=>n1 (z ▸ hx)
  exact ⟨u,by rw [jb3 hne]; exact h⟩
 ·show (a :: h0.map (·.1)).Nodup
  rw [List.nodup_cons]; exact hna
 ·rcases List.mem_cons.mp hp with e | e
  ·subst e; exact ⟨n1,n2,jb1,ho⟩
  ·obtain ⟨h1,h2,h3,h4⟩:=r.nh p (by rw [hh]; exact List.mem_cons_of_mem _ e)
   have hne:p.1 ≠ a:=fun z=>hna.1 (List.mem_map.mpr ⟨p,e,z⟩)
   exact ⟨h1,h2,by rw [jb3 hne]; exact h3,h4⟩
 ·obtain ⟨a',vs,h1,h2,h3⟩:=r.cel k c hk
  have hne:a' ≠ a:=fun z=>n1 (z ▸ List.mem_of_getElem? h1)
  refine ⟨a',vs,h1,by rw [jb3 hne]; exact h2,h3.1,fun i v x e1 e2=>?_⟩
  have:=h3.2 i v x e1 e2
  cases x with
  | im d=>exact TrG.stay sg this
  | own j=>exact this
  | bag j=>exact this
  | scr ns=>obtain ⟨p,q1,q2⟩:=this; exact ⟨p,q1,KG.SqL.stay q2 sg⟩
theorem AVr.stayG {w w':Wd} {g g':Hp} (hb:w'.bags=w.bags) (ha:w'.ads=w.ads) (s:Stay g g') {v:V}:∀ {x:AV},AVr K w g v x→AVr K w' g' v x
 | .im d,h=>TrG.stay s h
 | .own k,h=>by obtain ⟨a,h1,h2⟩:=h; exact ⟨a,by rw [ha]; exact h1,h2⟩
 | .bag j,h=>by obtain ⟨a,h1,h2⟩:=h; exact ⟨a,by rw [hb]; exact h1,h2⟩
 | .scr ns,h=>by obtain ⟨p,q1,q2⟩:=h; exact ⟨p,q1,KG.SqL.stay q2 s⟩
theorem RelO.unhide (r:RelO K w O H) {a:Addr} {o:HO} {h0:List (Addr × HO)} (hh:w.hid=(a,o) :: h0):RelO K { w with hid:=h0 } O H∧Stay (G w O H) (G { w with hid:=h0 } O H)∧G { w with hid:=h0 } O H a=some o:=by
 obtain ⟨n1,n2,n3,n4⟩:=r.nh (a,o) (by rw [hh]; exact List.mem_cons_self)
 have hna:=r.hn
 rw [hh,List.map_cons,List.nodup_cons] at hna
 have hhid:∀ x,Hid { w with hid:=h0 } O x→Hid w O x:=fun x h=>by
  rcases h with h | ⟨u,h⟩ | h
  ·exact .inl h
  ·exact .inr (.inl ⟨u,by rw [hh]; exact List.mem_cons_of_mem _ h⟩)
  ·exact .inr (.inr h)
 have sg:Stay (G w O H) (G { w with hid:=h0 } O H):=fun x u h=>by
  obtain ⟨h1,h2⟩:=G_in h
  rw [G_of (fun z=>h2 (hhid x z))]; exact h1
 refine ⟨⟨r.len,r.nd,r.al,r.nb,hna.2,fun p hp=>r.nh p (by rw [hh]; exact List.mem_cons_of_mem _ hp),r.bg,fun k c hk=>?_⟩,sg,?_⟩
 ·obtain ⟨a',vs,h1,h2,h3⟩:=r.cel k c hk
  exact ⟨a',vs,h1,h2,h3.1,fun i v x e1 e2=>AVr.stayG rfl rfl sg (h3.2 i v x e1 e2)⟩
 ·rw [G_of]
  ·exact n3
  ·rintro (h1 | ⟨u,h⟩ | ⟨j,d,h1,h2⟩)
   ·exact n2 h1
   ·exact hna.1 (List.mem_map.mpr ⟨_,h,rfl⟩)
   ·exact n1 (List.mem_of_getElem? h1)
theorem RelO.tups (r:RelO K w O H):∀ a xs,H a=some (.tup xs)→G w O H a=some (.tup xs):=by
 intro a xs h
 rw [G_of]
 ·exact h
 ·rintro (h1 | ⟨o,h1⟩ | ⟨j,d,h1,h2⟩)
  ·obtain ⟨c,d,e⟩:=r.bg _ h1; rw [h] at e; cases e
  ·obtain ⟨_,_,h3,h4⟩:=r.nh _ h1
   rw [h] at h3
   exact h4 xs (Option.some.inj h3).symm
  ·obtain ⟨a',vs,e1,e2,_⟩:=r.cel j d h2
   rw [h1] at e1
   cases Option.some.inj e1
   rw [h] at e2; cases e2
end
end MI
namespace MI
open PySem L2 KG EX KM
section
variable {K:PySem.W.Frag} {QX:Addr→Sto→Prop} {E:XK} {X:Cx} {w:Wd} {O:Sto} {H:Hp}
theorem PE.imp {e:Expr} {t t':TE} (h:PE X e t) (i:∀ σ H Q,t' σ H Q→t σ H Q):PE X e t':=fun pins s σ H Q I q=>h pins s σ H Q I (i σ H Q q)
theorem PT.imp {e:Expr} {t t':TT} (h:PT X e t) (i:∀ σ H Q,t' σ H Q→t σ H Q):PT X e t':=fun pins s σ H Q I q=>h pins s σ H Q I (i σ H Q q)
theorem PW.imp {e:Expr} {t t':TT} (h:PW X e t) (i:∀ σ H Q,t' σ H Q→t σ H Q):PW X e t':=fun wh pins s σ H Q I q=>h wh pins s σ H Q I (i σ H Q q)
theorem PA.imp {es:List Expr} {t t':TA} (h:PA X es t) (i:∀ σ H Q,t' σ H Q→t σ H Q):PA X es t':=fun p pins s σ H Q I q=>h p pins s σ H Q I (i σ H Q q)
theorem PS.imp {st:Stmt} {t t':TS} (h:PS X st t) (i:∀ D σ H,t' D σ H→t D σ H):PS X st t':=fun pins s σ H D I q=>h pins s σ H D I (i D σ H q)
theorem PSs.imp {st:List Stmt} {t t':TS} (h:PSs X st t) (i:∀ D σ H,t' D σ H→t D σ H):PSs X st t':=fun pins s σ H D I q=>h pins s σ H D I (i D σ H q)
theorem g_tup {v:V} {ds:List PyData} (h:TrG (G w O H) v (.tuple ds)):∃ a xs,v=.ref a∧H a=some (.tup xs)∧TrGs (G w O H) xs ds:=by
 cases h with | tup h1 h2=>exact ⟨_,_,rfl,(G_in h1).1,h2⟩
theorem g_lst {v:V} {ds:List PyData} (h:TrG (G w O H) v (.list ds)):∃ a xs,v=.ref a∧H a=some (.lst xs)∧TrGs (G w O H) xs ds:=by
 cases h with | lst h1 h2=>exact ⟨_,_,rfl,(G_in h1).1,h2⟩
theorem jg4 {g:Hp} {v:V} {i:Int} (h:TrG g v (.int i)):v=.int i:=by cases h; rfl
theorem g_bl {g:Hp} {v:V} {i:Bool} (h:TrG g v (.bool i)):v=.bl i:=by cases h; rfl
theorem jh5 {g:Hp} {v:V} {i:Str} (h:TrG g v (.str i)):v=.str i:=by cases h; rfl
theorem g_non {g:Hp} {v:V} (h:TrG g v .none):v=.non:=by cases h; rfl
theorem g_bls {g:Hp}:∀ {ns:List Bool} {vs:List V},TrGs g vs (ns.map .bool)→vs=ns.map V.bl
 | [],_,h=>by cases h; rfl
 | n :: ns,_,h=>by
  cases h with | cons h1 h2=>rw [g_bl h1,g_bls h2]; rfl
theorem new_tup (r:RelO K w O H) {p:Addr} {xs:List V} {ds:List PyData} (hp:H p=none) (h:TrGs (G w O H) xs ds) :
  RelO K w O (upd H p (.tup xs))∧Ext w O H w O (upd H p (.tup xs))∧TrG (G w O (upd H p (.tup xs))) (.ref p) (.tuple ds):=by
 obtain ⟨r1,e1,g1⟩:=r.new (o:=.tup xs) hp
 exact ⟨r1,e1,.tup g1 (TrGs.stay e1.ex.stay h)⟩
theorem new_lst (r:RelO K w O H) {p:Addr} {xs:List V} {ds:List PyData} (hp:H p=none) (h:TrGs (G w O H) xs ds) :
  RelO K w O (upd H p (.lst xs))∧Ext w O H w O (upd H p (.lst xs))∧TrG (G w O (upd H p (.lst xs))) (.ref p) (.list ds):=by
 obtain ⟨r1,e1,g1⟩:=r.new (o:=.lst xs) hp
 exact ⟨r1,e1,.lst g1 (TrGs.stay e1.ex.stay h)⟩
theorem grown_tup (r:RelO K w O H) {p:Addr} {xs:List V} {ds:List PyData} {H':Hp} (s:Stay H H') (hp:H' p=some (.tup xs)) (h:TrGs (G w O H) xs ds) :
  RelO K w O H'∧Ext w O H w O H'∧TrG (G w O H') (.ref p) (.tuple ds):=by
 obtain ⟨r1,e1,g1⟩:=r.stay s
 exact ⟨r1,e1,.tup (r1.tups _ _ hp) (TrGs.stay e1.ex.stay h)⟩
def mVar (i:Nat):ME:=fun sl O Q=>match sl[i]? with
 | some (some x)=>Q x O
 | _=>False
theorem ja1 {i:Nat} {e:Expr} (h:PE X e (tVar i)):PE X e (teM K QX E (mVar i)):=PE.imp h fun σ H Q ⟨w,O,sl,Q0,c,m,q⟩=>by
 unfold mVar at m
 split at m
 ·rename_i x hx
  obtain ⟨v,h1,h2⟩:=c.so.2 i x hx
  exact ⟨v,h1,q x O v w H m (Ext.refl _ _ _) c.ro h2⟩
 ·exact m.elim
def mC (d:PyData):ME:=fun _ O Q=>Q (.im d) O
theorem me_c {v:V} {d:PyData} {e:Expr} (h:PE X e (tC v)) (hv:∀ g,TrG g v d):PE X e (teM K QX E (mC d)):=PE.imp h fun σ H Q ⟨w,O,sl,Q0,c,m,q⟩=>q _ O v w H m (Ext.refl _ _ _) c.ro (hv _)
theorem ja9 {i j pos}:PE X (.Constant (.int i) j pos) (teM K QX E (mC (.int i))):=me_c ja5 fun _=>.int _
theorem me_bl {i j pos}:PE X (.Constant (.bool i) j pos) (teM K QX E (mC (.bool i))):=me_c pe_bl fun _=>.bl _
theorem jh1 {j pos}:PE X (.Constant .none j pos) (teM K QX E (mC .none)):=me_c pe_non fun _=>.non
theorem jb6 {x j pos} (h:(PyData.str x).canLay0=true:=by decide +kernel):PE X (.Constant (.str x) j pos) (teM K QX E (mC (.str x))):=me_c pe_str fun _=>.str _ h
def mNil:MA:=fun _ O Q=>Q [] O
def mCons (Me:ME) (Ms:MA):MA:=fun sl O Q=>Me sl O fun x O1=>Ms sl O1 fun xs O2=>Q (x :: xs) O2
theorem ja4:PA X [] (taM K QX E mNil):=PA.imp ja8 fun σ H Q ⟨w,O,sl,Q0,c,m,q⟩=>q [] O [] w H m (Ext.refl _ _ _) c.ro AVrs.nil
theorem ja0 {e:Expr} {es:List Expr} {Me:ME} {Ms:MA} (he:PE X e (teM K QX E Me)) (hr:PA X es (taM K QX E Ms)) (hs:starEach (e :: es) X.env=(false,eval e X.env) :: starEach es X.env:=by rfl):PA X (e :: es) (taM K QX E (mCons Me Ms)) :=
 PA.imp (ja2 he hr hs) fun σ H Q ⟨w,O,sl,Q0,c,m,q⟩=>⟨w,O,sl,_,c,m,fun x O1 v w1 H1 h1 e1 r1 a1=>⟨w1,O1,sl,_,c.ex e1.ex r1,h1,fun xs O2 vs w2 H2 h2 e2 r2 a2=>q _ O2 _ w2 H2 h2 (e1.trans e2) r2 (AVrs.cons (a1.ex e2.ex) a2)⟩⟩
def ims:List AV→Option (List PyData)
 | []=>some []
 | .im d :: xs=>match ims xs with
  | some ds=>some (d :: ds)
  | none=>none
 | _ :: _=>none
theorem ims_eq:∀ {xs:List AV} {ds:List PyData},ims xs=some ds→xs=ds.map .im
 | [],_,h=>by cases h; rfl
 | .im d :: xs,ds,h=>by
  unfold ims at h
  split at h
  ·rename_i es he
   cases h
   rw [ims_eq he]; rfl
  ·cases h
 | .own _ :: _,_,h=>by cases h
 | .bag _ :: _,_,h=>by cases h
 | .scr _ :: _,_,h=>by cases h
def mTup (Ms:MA):ME:=fun sl O Q=>Ms sl O fun xs O1=>match ims xs with
 | some ds=>ds.length ≤ sizeLine∧Q (.im (.tuple ds)) O1
 | none=>False
def mLst (Ms:MA):ME:=fun sl O Q=>Ms sl O fun xs O1=>match ims xs with
 | some ds=>ds.length ≤ sizeLine∧Q (.im (.list ds)) O1
 | none=>False
def mOwn (Ms:MA):ME:=fun sl O Q=>Ms sl O fun xs O1=>xs.length ≤ sizeLine∧Q (.own O1.length) (O1 ++ [some xs])
theorem me_tup {es:List Expr} {Ms:MA} {x1} {pos:Pos} (h:PA X es (taM K QX E Ms)):PE X (.Tuple es x1 pos) (teM K QX E (mTup Ms)):=PE.imp (pe_tup h) fun σ H Q ⟨w,O,sl,Q0,c,m,q⟩=>⟨w,O,sl,_,c,m,fun xs O1 vs w1 H1 h1 e1 r1 a1=>by
 split at h1
 ·rename_i ds hd
  have hx:=ims_eq hd
  subst hx
  refine ⟨by rw [a1.1,List.length_map]; exact h1.1,fun p hp=>?_⟩
  obtain ⟨r2,e2,t2⟩:=new_tup r1 hp (AVrs.tr a1)
  exact q _ O1 _ w1 _ h1.2 (e1.trans e2) r2 t2
 ·exact h1.elim⟩
theorem jf1 {es:List Expr} {Ms:MA} {pos:Pos} (h:PA X es (taM K QX E Ms)):PE X (.List es pos) (teM K QX E (mLst Ms)):=PE.imp (pe_lst h) fun σ H Q ⟨w,O,sl,Q0,c,m,q⟩=>⟨w,O,sl,_,c,m,fun xs O1 vs w1 H1 h1 e1 r1 a1=>by
 split at h1
 ·rename_i ds hd
  have hx:=ims_eq hd
  subst hx
  refine ⟨by rw [a1.1,List.length_map]; exact h1.1,fun p hp=>?_⟩
  obtain ⟨r2,e2,t2⟩:=new_lst r1 hp (AVrs.tr a1)
  exact q _ O1 _ w1 _ h1.2 (e1.trans e2) r2 t2
 ·exact h1.elim⟩
theorem me_own {es:List Expr} {Ms:MA} {pos:Pos} (h:PA X es (taM K QX E Ms)):PE X (.List es pos) (teM K QX E (mOwn Ms)):=PE.imp (pe_lst h) fun σ H Q ⟨w,O,sl,Q0,c,m,q⟩=>⟨w,O,sl,_,c,m,fun xs O1 vs w1 H1 h1 e1 r1 a1=>by
 refine ⟨by rw [a1.1]; exact h1.1,fun p hp=>?_⟩
 obtain ⟨r2,e2,t2⟩:=r1.own hp a1
 exact q _ _ _ _ _ h1.2 (e1.trans e2) r2 ⟨p,t2,rfl⟩⟩
abbrev MF2:=Sto→AV→AV→(AV→Sto→Prop)→Prop
abbrev MFC:=Sto→List AV→(AV→Sto→Prop)→Prop
def Lk2 (K:PySem.W.Frag) (r:R2) (f:MF2):Prop:=∀ (w:Wd) (O:Sto) (H:Hp) (v u:V) (x y:AV) (P:AV→Sto→Prop) (Q:VK),RelO K w O H→AVr K w (G w O H) v x→AVr K w (G w O H) u y→f O x y P →
 (∀ z q O' w' H',P q O'→Ext w O H w' O' H'→RelO K w' O' H'→AVr K w' (G w' O' H') z q→Q z H')→r v u H Q
def LkC (K:PySem.W.Frag) (r:List V→Hp→VK→Prop) (f:MFC):Prop:=∀ (w:Wd) (O:Sto) (H:Hp) (vs:List V) (xs:List AV) (P:AV→Sto→Prop) (Q:VK),RelO K w O H→AVrs K w (G w O H) vs xs→f O xs P →
 (∀ z q O' w' H',P q O'→Ext w O H w' O' H'→RelO K w' O' H'→AVr K w' (G w' O' H') z q→Q z H')→r vs H Q
def mOp (f:MF2) (Ma Mb:ME):ME:=fun sl O Q=>Ma sl O fun x O1=>Mb sl O1 fun y O2=>f O2 x y Q
def mCB (f:MFC) (Ms:MA):ME:=fun sl O Q=>Ms sl O fun xs O1=>f O1 xs Q
theorem lift2 {r:R2} {f:MF2} {Ma Mb:ME} (lk:Lk2 K r f):∀ σ H Q,teM K QX E (mOp f Ma Mb) σ H Q→tOp r (teM K QX E Ma) (teM K QX E Mb) σ H Q :=
 fun σ H Q ⟨w,O,sl,Q0,c,m,q⟩=>⟨w,O,sl,_,c,m,fun x O1 v w1 H1 h1 e1 r1 a1=>⟨w1,O1,sl,_,c.ex e1.ex r1,h1,fun y O2 u w2 H2 h2 e2 r2 a2 =>
  lk w2 O2 H2 v u x y _ Q r2 (a1.ex e2.ex) a2 h2 fun z z' O3 w3 H3 h3 e3 r3 a3=>q _ O3 z w3 H3 h3 ((e1.trans e2).trans e3) r3 a3⟩⟩
theorem me_op {op:Operator} {r:R2} {f:MF2} {Ma Mb:ME} {a b:Expr} {pos:Pos} (ho:OpR X (binaryOp op) r) (lk:Lk2 K r f) (ha:PE X a (teM K QX E Ma)) (hb:PE X b (teM K QX E Mb)):PE X (.BinOp a op b pos) (teM K QX E (mOp f Ma Mb)):=PE.imp (jc6 ho ha hb) (lift2 lk)
theorem me_ix {r:R2} {f:MF2} {Ma Mb:ME} {a b:Expr} {pos:Pos} (ho:IxR X r) (lk:Lk2 K r f) (ha:PE X a (teM K QX E Ma)) (hb:PE X b (teM K QX E Mb)) (hs:PlainIx b:=by exact fun _ _=>rfl):PE X (.Subscript a b pos) (teM K QX E (mOp f Ma Mb)):=PE.imp (pe_ix ho ha hb hs) (lift2 lk)
theorem me_cmp {op:CmpOp} {r:R2} {f:MF2} {Ma Mb:ME} {a b:Expr} {pos:Pos} (ho:OpR X (compareOp op) r) (lk:Lk2 K r f) (ha:PE X a (teM K QX E Ma)) (hb:PE X b (teM K QX E Mb)) (hm:behindInMarks op b=false):PE X (.Compare a [op] [b] pos) (teM K QX E (mOp f Ma Mb)):=PE.imp (pe_cmpR ho ha hb hm) (lift2 lk)
theorem je3 {x:Str} {id:String} {e:Expr} {es:List Expr} {p pos:Pos} {r:List V→Hp→VK→Prop} {f:MFC} {Ms:MA} (hc:CallR X (.builtin id) r) (lk:LkC K r f) (hg:Gl X x) (hm:X.mg x=none) (hv:bootBuiltins x=some (.builtin id)) (ha:PA X (e :: es) (taM K QX E Ms)) (hn:x ≠ "__name__":=by decide) (hdb:(x == ("__debug__" : Str))=false:=by decide)
  (he:starEach (e :: es) X.env=(false,eval e X.env) :: starEach es X.env:=by rfl) (hpl:(backTo pos (starEach es X.env)).any (·.1)=false:=by rfl):PE X (.Call (.Name x p) (e :: es) [] pos) (teM K QX E (mCB f Ms)) :=
 PE.imp (jd2 hc hg hm hv ha hn hdb he hpl) fun σ H Q ⟨w,O,sl,Q0,c,m,q⟩=>⟨w,O,sl,_,c,m,fun xs O1 vs w1 H1 h1 e1 r1 a1=>lk w1 O1 H1 vs xs _ Q r1 a1 h1 fun z z' O3 w3 H3 h3 e3 r3 a3=>q _ O3 z w3 H3 h3 (e1.trans e3) r3 a3⟩
theorem jd0 {x:Str} {T:String} {e:Expr} {es:List Expr} {p pos:Pos} {r:List V→Hp→VK→Prop} {f:MFC} {Ms:MA} (hc:CallR X (.type T) r) (lk:LkC K r f) (hg:Gl X x) (hm:X.mg x=none) (hv:bootBuiltins x=some (.type T)) (ha:PA X (e :: es) (taM K QX E Ms)) (hn:x ≠ "__name__":=by decide) (hdb:(x == ("__debug__" : Str))=false:=by decide)
  (he:starEach (e :: es) X.env=(false,eval e X.env) :: starEach es X.env:=by rfl) (hpl:(backTo pos (starEach es X.env)).any (·.1)=false:=by rfl):PE X (.Call (.Name x p) (e :: es) [] pos) (teM K QX E (mCB f Ms)) :=
 PE.imp (jg1 hc hg hm hv ha hn hdb he hpl) fun σ H Q ⟨w,O,sl,Q0,c,m,q⟩=>⟨w,O,sl,_,c,m,fun xs O1 vs w1 H1 h1 e1 r1 a1=>lk w1 O1 H1 vs xs _ Q r1 a1 h1 fun z z' O3 w3 H3 h3 e3 r3 a3=>q _ O3 z w3 H3 h3 (e1.trans e3) r3 a3⟩
def mTst (M:ME):MT:=fun sl O Q=>M sl O fun x O1=>match x with
 | .im (.bool c)=>Q c O1
 | _=>False
theorem lift_tst {t:TE} {M:ME} (h:∀ σ H Q,teM K QX E M σ H Q→t σ H Q):∀ σ H Q,ttM K QX E (mTst M) σ H Q→tTest t σ H Q:=fun σ H Q ⟨w,O,sl,Q0,c,m,q⟩=>h σ H _ ⟨w,O,sl,_,c,m,fun x O1 v w1 H1 h1 e1 r1 a1=>by
 split at h1
 ·exact ⟨_,g_bl a1,q _ O1 w1 H1 h1 e1 r1⟩
 ·exact h1.elim⟩
theorem jc7 {op:CmpOp} {r:R2} {f:MF2} {Ma Mb:ME} {a b:Expr} {pos:Pos} (ho:OpR X (compareOp op) r) (lk:Lk2 K r f) (ha:PE X a (teM K QX E Ma)) (hb:PE X b (teM K QX E Mb)) (hm:behindInMarks op b=false):PT X (.Compare a [op] [b] pos) (ttM K QX E (mTst (mOp f Ma Mb))):=PT.imp (jf0 ho ha hb hm) (lift_tst (lift2 lk))
theorem mt_val {e:Expr} {M:ME} (h:PE X e (teM K QX E M)) (he:∀ whole,isTrue e X.env whole=(do let v ← whole; standAt e.pos; holding [v] (truthy v)):=by intro _; rfl):PT X e (ttM K QX E (mTst M)):=PT.imp (jh3 h he) (lift_tst fun _ _ _ z=>z)
def mNot (M:MT):MT:=fun sl O Q=>M sl O fun c O1=>Q (!c) O1
theorem mt_not {a:Expr} {M:MT} {pos:Pos} (h:PT X a (ttM K QX E M)):PT X (.UnaryOp .Not a pos) (ttM K QX E (mNot M)):=PT.imp (jg7 h) fun σ H Q ⟨w,O,sl,Q0,c,m,q⟩=>⟨w,O,sl,_,c,m,fun x O1 w1 H1 h1 e1 r1=>q _ O1 w1 H1 h1 e1 r1⟩
def mAndT (M N:MT):MT:=fun sl O Q=>M sl O fun c O1=>(c=true→N sl O1 Q)∧(c=false→Q false O1)
def mOrT (M N:MT):MT:=fun sl O Q=>M sl O fun c O1=>(c=true→Q true O1)∧(c=false→N sl O1 Q)
theorem mw_and1 {a:Expr} {M:MT} {pos:Pos} (h:PT X a (ttM K QX E M)):PW X (.BoolOp .And [a] pos) (ttM K QX E M):=pw_and1 h
theorem mw_or1 {a:Expr} {M:MT} {pos:Pos} (h:PT X a (ttM K QX E M)):PW X (.BoolOp .Or [a] pos) (ttM K QX E M):=pw_or1 h
theorem mw_and {a b:Expr} {rest:List Expr} {M N:MT} {pos:Pos} (ha:PT X a (ttM K QX E M)) (hb:PW X (.BoolOp .And (b :: rest) pos) (ttM K QX E N)):PW X (.BoolOp .And (a :: b :: rest) pos) (ttM K QX E (mAndT M N)):=PW.imp (pw_and ha hb) fun σ H Q ⟨w,O,sl,Q0,c,m,q⟩=>⟨w,O,sl,_,c,m,fun x O1 w1 H1 h1 e1 r1=>by
 cases x with
 | true=>exact iteT ⟨w1,O1,sl,_,c.ex e1.ex r1,h1.1 rfl,fun y O2 w2 H2 h2 e2 r2=>q _ O2 w2 H2 h2 (e1.trans e2) r2⟩
 | false=>exact iteF (q _ O1 w1 H1 (h1.2 rfl) e1 r1)⟩
theorem mw_or {a b:Expr} {rest:List Expr} {M N:MT} {pos:Pos} (ha:PT X a (ttM K QX E M)) (hb:PW X (.BoolOp .Or (b :: rest) pos) (ttM K QX E N)):PW X (.BoolOp .Or (a :: b :: rest) pos) (ttM K QX E (mOrT M N)):=PW.imp (pw_or ha hb) fun σ H Q ⟨w,O,sl,Q0,c,m,q⟩=>⟨w,O,sl,_,c,m,fun x O1 w1 H1 h1 e1 r1=>by
 cases x with
 | true=>exact iteT (q _ O1 w1 H1 (h1.1 rfl) e1 r1)
 | false=>exact iteF ⟨w1,O1,sl,_,c.ex e1.ex r1,h1.2 rfl,fun y O2 w2 H2 h2 e2 r2=>q _ O2 w2 H2 h2 (e1.trans e2) r2⟩⟩
def mAndV (M N:ME):ME:=fun sl O Q=>M sl O fun x O1=>match x with
 | .im (.bool c)=>(c=true→N sl O1 Q)∧(c=false→Q (.im (.bool false)) O1)
 | _=>False
theorem me_one {op} {a:Expr} {M:ME} {pos:Pos} (h:PE X a (teM K QX E M)):PE X (.BoolOp op [a] pos) (teM K QX E M):=pe_one h
theorem me_and {a b:Expr} {rest:List Expr} {M N:ME} {pos:Pos} (ha:PE X a (teM K QX E M)) (hb:PE X (.BoolOp .And (b :: rest) pos) (teM K QX E N)):PE X (.BoolOp .And (a :: b :: rest) pos) (teM K QX E (mAndV M N)):=PE.imp (pe_and ha hb) fun σ H Q ⟨w,O,sl,Q0,c,m,q⟩=>⟨w,O,sl,_,c,m,fun x O1 v w1 H1 h1 e1 r1 a1=>by
 split at h1
 ·rename_i k
  refine ⟨k,g_bl a1,?_⟩
  cases k with
  | true=>exact iteT ⟨w1,O1,sl,_,c.ex e1.ex r1,h1.1 rfl,fun y O2 u w2 H2 h2 e2 r2 a2=>q _ O2 u w2 H2 h2 (e1.trans e2) r2 a2⟩
  | false=>exact iteF (q _ O1 _ w1 H1 (h1.2 rfl) e1 r1 (.bl false))
 ·exact h1.elim⟩
def mIf (C:MT) (M N:ME):ME:=fun sl O Q=>C sl O fun c O1=>(c=true→M sl O1 Q)∧(c=false→N sl O1 Q)
theorem me_if {t a b:Expr} {C:MT} {M N:ME} {pos:Pos} (hc:PT X t (ttM K QX E C)) (ha:PE X a (teM K QX E M)) (hb:PE X b (teM K QX E N)):PE X (.IfExp t a b pos) (teM K QX E (mIf C M N)):=PE.imp (pe_ifExp hc ha hb) fun σ H Q ⟨w,O,sl,Q0,c,m,q⟩=>⟨w,O,sl,_,c,m,fun x O1 w1 H1 h1 e1 r1=>by
 cases x with
 | true=>exact iteT ⟨w1,O1,sl,_,c.ex e1.ex r1,h1.1 rfl,fun y O2 u w2 H2 h2 e2 r2 a2=>q _ O2 u w2 H2 h2 (e1.trans e2) r2 a2⟩
 | false=>exact iteF ⟨w1,O1,sl,_,c.ex e1.ex r1,h1.2 rfl,fun y O2 u w2 H2 h2 e2 r2 a2=>q _ O2 u w2 H2 h2 (e1.trans e2) r2 a2⟩⟩
end
end MI
namespace MI
open PySem L2 KG EX KM
section
variable {K:PySem.W.Frag} {X:Cx}
theorem g_le {w:Wd} {O:Sto} {H:Hp}:Stay (G w O H) H:=fun a o h=>(G_in h).1
def int2 (C:Int→Int→Prop) (g:Int→Int→PyData):MF2:=fun O x y P=>match x,y with
 | .im (.int i),.im (.int j)=>C i j∧P (.im (g i j)) O
 | _,_=>False
def int20 (g:Int→Int→PyData):MF2:=fun O x y P=>match x,y with
 | .im (.int i),.im (.int j)=>P (.im (g i j)) O
 | _,_=>False
theorem lk_int2 {C:Int→Int→Prop} {g:Int→Int→V} {f:Int→Int→PyData} (hg:∀ i j h,TrG h (g i j) (f i j)):Lk2 K (rI C g) (int2 C f):=fun w O H v u x y P Q r a b hf q=>by
 unfold int2 at hf
 split at hf
 ·exact ⟨_,_,jg4 a,jg4 b,hf.1,q _ _ O w H hf.2 (Ext.refl _ _ _) r (hg _ _ _)⟩
 ·exact hf.elim
theorem lk_int20 {g:Int→Int→V} {f:Int→Int→PyData} (hg:∀ i j h,TrG h (g i j) (f i j)):Lk2 K (rI0 g) (int20 f):=fun w O H v u x y P Q r a b hf q=>by
 unfold int20 at hf
 split at hf
 ·exact ⟨_,_,jg4 a,jg4 b,q _ _ O w H hf (Ext.refl _ _ _) r (hg _ _ _)⟩
 ·exact hf.elim
def addF:MF2:=fun O x y P=>match x,y with
 | .im (.int i),.im (.int j)=>P (.im (.int (i + j))) O
 | .im (.tuple xs),.im (.tuple ys)=>xs.length + ys.length ≤ sizeLine∧P (.im (.tuple (xs ++ ys))) O
 | .im (.list xs),.im (.list ys)=>xs.length + ys.length ≤ sizeLine∧P (.im (.list (xs ++ ys))) O
 | _,_=>False
theorem lk_add:Lk2 K (fun x y H Q=>rI0 (fun i j=>.int (i + j)) x y H Q ∨ (rCatA x y H Q ∨ rCat x y H Q)) addF:=fun w O H v u x y P Q r a b hf q=>by
 unfold addF at hf
 split at hf
 ·exact .inl ⟨_,_,jg4 a,jg4 b,q _ _ O w H hf (Ext.refl _ _ _) r (.int _)⟩
 ·obtain ⟨p1,us,rfl,h1,t1⟩:=g_tup a
  obtain ⟨p2,vs,rfl,h2,t2⟩:=g_tup b
  refine .inr (.inl ⟨p1,p2,us,vs,rfl,rfl,h1,h2,by rw [t1.len,t2.len]; exact hf.1,fun p H' s hp=>?_⟩)
  obtain ⟨r1,e1,t⟩:=grown_tup r s hp (t1.app t2)
  exact q _ _ O w H' hf.2 e1 r1 t
 ·obtain ⟨p1,us,rfl,h1,t1⟩:=g_lst a
  obtain ⟨p2,vs,rfl,h2,t2⟩:=g_lst b
  refine .inr (.inr ⟨p1,p2,us,vs,rfl,rfl,h1,h2,by rw [t1.len,t2.len]; exact hf.1,fun p hp=>?_⟩)
  obtain ⟨r1,e1,t⟩:=new_lst r hp (t1.app t2)
  exact q _ _ O w _ hf.2 e1 r1 t
 ·exact hf.elim
theorem jd9 {QX:Addr→Sto→Prop} {E:XK} {Ma Mb:ME} {a b:Expr} {pos:Pos} (ha:PE X a (teM K QX E Ma)) (hb:PE X b (teM K QX E Mb)):PE X (.BinOp a .Add b pos) (teM K QX E (mOp addF Ma Mb)):=me_op (op_add.or (op_catA.or op_cat)) lk_add ha hb
abbrev subF:MF2:=int20 fun i j=>.int (i - j)
theorem mo_sub {QX:Addr→Sto→Prop} {E:XK} {Ma Mb:ME} {a b:Expr} {pos:Pos} (ha:PE X a (teM K QX E Ma)) (hb:PE X b (teM K QX E Mb)):PE X (.BinOp a .Sub b pos) (teM K QX E (mOp subF Ma Mb)):=me_op op_sub (lk_int20 fun _ _ _=>.int _) ha hb
abbrev ltF:MF2:=int20 fun i j=>.bool (decide (i < j))
abbrev gtF:MF2:=int20 fun i j=>.bool (decide (j < i))
theorem lk_lt:Lk2 K (rI0 fun i j=>.bl (decide (i < j))) ltF:=lk_int20 fun _ _ _=>.bl _
theorem lk_gt:Lk2 K (rI0 fun i j=>.bl (decide (j < i))) gtF:=lk_int20 fun _ _ _=>.bl _
def eqq:PyData→PyData→Bool
 | .int i,.int j=>decide (i=j)
 | d,e=>PyData.eqv d e
theorem eqq_eq (d e:PyData):eqq d e=PyData.eqv d e:=by
 cases d <;> cases e <;> first | rfl | (show decide _=_; rw [PyData.eqv]; rfl)
def eqF (neg:Bool):MF2:=fun O x y P=>match x,y with
 | .im d,.im e=>min d.depth e.depth ≤ 60∧P (.im (.bool (if neg then !eqq d e else eqq d e))) O
 | _,_=>False
theorem lk_eq:Lk2 K (rEqD K0) (eqF false):=fun w O H v u x y P Q r a b hf q=>by
 unfold eqF at hf
 split at hf
 ·refine ⟨_,_,(TrG.stay g_le a).dt,(TrG.stay g_le b).dt,hf.1,?_⟩
  rw [← eqq_eq]
  exact q _ _ O w H hf.2 (Ext.refl _ _ _) r (.bl _)
 ·exact hf.elim
theorem lk_ne:Lk2 K (rNeD K0) (eqF true):=fun w O H v u x y P Q r a b hf q=>by
 unfold eqF at hf
 split at hf
 ·refine ⟨_,_,(TrG.stay g_le a).dt,(TrG.stay g_le b).dt,hf.1,?_⟩
  rw [← eqq_eq]
  exact q _ _ O w H hf.2 (Ext.refl _ _ _) r (.bl _)
 ·exact hf.elim
theorem or_eq (hu:X.A.units + 64 < cLine):OpR X (compareOp .Eq) (rEqD K0):=opEqD0 hu
theorem or_ne (hu:X.A.units + 64 < cLine):OpR X (compareOp .NotEq) (rNeD K0):=opNeD0 hu
def jg3:PyData→Bool
 | .none=>true
 | _=>false
def isNoneF (neg:Bool):MF2:=fun O x y P=>match x,y with
 | .im d,.im .none=>P (.im (.bool (if neg then !jg3 d else jg3 d))) O
 | _,_=>False
theorem isN_dec {g:Hp} {v:V} {d:PyData} (h:TrG g v d):decide (v=.non)=jg3 d:=by
 cases h <;> rfl
theorem lk_isN:Lk2 K (fun x y H Q=>y=.non∧Q (.bl (decide (x=.non))) H) (isNoneF false):=fun w O H v u x y P Q r a b hf q=>by
 unfold isNoneF at hf
 split at hf
 ·refine ⟨g_non b,?_⟩
  rw [isN_dec a]
  exact q _ _ O w H hf (Ext.refl _ _ _) r (.bl _)
 ·exact hf.elim
def ixF:MF2:=fun O x y P=>match x,y with
 | .im (.list ds),.im (.int i)=>∃ d,atI ds i=some d∧P (.im d) O
 | .im (.tuple ds),.im (.int i)=>∃ d,atI ds i=some d∧P (.im d) O
 | .own k,.im (.int i)=>∃ c z,O[k]?=some (some c)∧atI c i=some z∧P z O
 | _,_=>False
theorem atI_tr {g:Hp} {xs:List V} {ds:List PyData} {i:Int} {d:PyData} (t:TrGs g xs ds) (h:atI ds i=some d):∃ v,atI xs i=some v∧TrG g v d:=by
 unfold atI at h ⊢
 rw [t.len]
 cases hj:ixN ds.length i with
 | none=>rw [hj] at h; cases h
 | some j =>
  rw [hj] at h
  exact t.get h
theorem atI_av {w:Wd} {g:Hp} {xs:List V} {ds:List AV} {i:Int} {d:AV} (t:AVrs K w g xs ds) (h:atI ds i=some d):∃ v,atI xs i=some v∧AVr K w g v d:=by
 unfold atI at h ⊢
 rw [t.1]
 cases hj:ixN ds.length i with
 | none=>rw [hj] at h; cases h
 | some j =>
  rw [hj] at h
  exact t.at h
theorem lk_ix:Lk2 K (fun x y H Q=>rIxL K0 x y H Q ∨ rIxT K0 x y H Q) ixF:=fun w O H v u x y P Q r a b hf q=>by
 unfold ixF at hf
 split at hf
 ·obtain ⟨d,hd,hf⟩:=hf
  obtain ⟨p1,us,rfl,h1,t1⟩:=g_lst a
  obtain ⟨z,hz,tz⟩:=atI_tr t1 hd
  exact .inl ⟨p1,us,_,z,rfl,jg4 b,SqL.of h1,hz,q _ _ O w H hf (Ext.refl _ _ _) r tz⟩
 ·obtain ⟨d,hd,hf⟩:=hf
  obtain ⟨p1,us,rfl,h1,t1⟩:=g_tup a
  obtain ⟨z,hz,tz⟩:=atI_tr t1 hd
  exact .inr ⟨p1,us,_,z,rfl,jg4 b,SqT.of h1,hz,q _ _ O w H hf (Ext.refl _ _ _) r tz⟩
 ·obtain ⟨c,d,hc,hd,hf⟩:=hf
  obtain ⟨p1,us,h0,h1,t1⟩:=r.cel _ _ hc
  obtain ⟨p2,e1,rfl⟩:=a
  rw [h0] at e1
  cases Option.some.inj e1
  obtain ⟨z,hz,tz⟩:=atI_av t1 hd
  exact .inl ⟨p1,us,_,z,rfl,jg4 b,SqL.of h1,hz,q _ _ O w H hf (Ext.refl _ _ _) r tz⟩
 ·exact hf.elim
theorem je6 {QX:Addr→Sto→Prop} {E:XK} {Ma Mb:ME} {a b:Expr} {pos:Pos} (ha:PE X a (teM K QX E Ma)) (hb:PE X b (teM K QX E Mb)) (hs:PlainIx b:=by exact fun _ _=>rfl):PE X (.Subscript a b pos) (teM K QX E (mOp ixF Ma Mb)):=me_ix (ixL0.or ixT0) lk_ix ha hb hs
abbrev MO:=Slt→Sto→(Option Int→Sto→Prop)→Prop
def toM (K:PySem.W.Frag) (QX:Addr→Sto→Prop) (E:XK) (M:MO):TO:=fun σ H Q=>∃ w O sl Q0,Cfg K QX E w O H σ sl∧M sl O Q0∧∀ c O' w' H',Q0 c O'→Ext w O H w' O' H'→RelO K w' O' H'→Q c H'
def mNoP:MO:=fun _ O Q=>Q none O
def mSoP (M:ME):MO:=fun sl O Q=>M sl O fun x O1=>match x with
 | .im (.int i)=>Q (some i) O1
 | _=>False
theorem PO.imp {e:Option Expr} {t t':TO} (h:PO X e t) (i:∀ σ H Q,t' σ H Q→t σ H Q):PO X e t':=fun pins s σ H Q I q=>h pins s σ H Q I (i σ H Q q)
theorem jc3 {QX:Addr→Sto→Prop} {E:XK}:PO X none (toM K QX E mNoP):=PO.imp po_none fun σ H Q ⟨w,O,sl,Q0,c,m,q⟩=>q none O w H m (Ext.refl _ _ _) c.ro
theorem jb9 {QX:Addr→Sto→Prop} {E:XK} {e:Expr} {M:ME} (h:PE X e (teM K QX E M)):PO X (some e) (toM K QX E (mSoP M)):=PO.imp (po_some h) fun σ H Q ⟨w,O,sl,Q0,c,m,q⟩=>⟨w,O,sl,_,c,m,fun x O1 v w1 H1 h1 e1 r1 a1=>by
 split at h1
 ·exact ⟨_,jg4 a1,q _ O1 w1 H1 h1 e1 r1⟩
 ·exact h1.elim⟩
def cutD (xs:List PyData) (lo hi:Option Int):List PyData:=(xs.drop (HT.sIx xs.length 0 lo)).take (HT.sIx xs.length xs.length hi - HT.sIx xs.length 0 lo)
def slF (O:Sto) (x:AV) (lo hi:Option Int) (P:AV→Sto→Prop):Prop:=match x with
 | .im (.tuple ds)=>P (.im (.tuple (cutD ds lo hi))) O
 | .im (.list ds)=>P (.im (.list (cutD ds lo hi))) O
 | _=>False
def mSl (M:ME) (L U:MO):ME:=fun sl O Q=>M sl O fun x O1=>L sl O1 fun l O2=>U sl O2 fun u O3=>slF O3 x l u Q
theorem cut_tr {g:Hp} {xs:List V} {ds:List PyData} {lo hi:Option Int} (t:TrGs g xs ds):TrGs g (cutV xs lo hi) (cutD ds lo hi):=by
 unfold cutV cutD
 rw [t.len]
 exact (t.drop _).take _
theorem jd3 {QX:Addr→Sto→Prop} {E:XK} {M:ME} {L U:MO} {e:Expr} {lo hi:Option Expr} {p2 pos:Pos} (he:PE X e (teM K QX E M)) (hl:PO X lo (toM K QX E L)) (hu:PO X hi (toM K QX E U)):PE X (.Subscript e (.Slice lo hi none p2) pos) (teM K QX E (mSl M L U)) :=
 PE.imp (pe_slice (sl_tupA.or slL0) he hl hu) fun σ H Q ⟨w,O,sl,Q0,c,m,q⟩=>⟨w,O,sl,_,c,m,fun x O1 v w1 H1 h1 e1 r1 a1=>⟨w1,O1,sl,_,c.ex e1.ex r1,h1,fun l O2 w2 H2 h2 e2 r2=>⟨w2,O2,sl,_,(c.ex e1.ex r1).ex e2.ex r2,h2,fun u O3 w3 H3 h3 e3 r3=>by
  have a3:=(a1.ex e2.ex).ex e3.ex
  have e13:=(e1.trans e2).trans e3
  unfold slF at h3
  split at h3
  ·obtain ⟨p1,us,rfl,g1,t1⟩:=g_tup a3
   refine .inl ⟨p1,us,rfl,g1,fun p H' s hp=>?_⟩
   obtain ⟨r4,e4,t4⟩:=grown_tup r3 s hp (cut_tr t1)
   exact q _ O3 _ w3 H' h3 (e13.trans e4) r4 t4
  ·obtain ⟨p1,us,rfl,g1,t1⟩:=g_lst a3
   refine .inr ⟨p1,us,rfl,SqL.of g1,fun p hp=>?_⟩
   obtain ⟨r4,e4,t4⟩:=new_lst r3 hp (cut_tr t1)
   exact q _ O3 _ w3 _ h3 (e13.trans e4) r4 t4
  ·exact h3.elim⟩⟩⟩
def lenF:MFC:=fun O xs P=>match xs with
 | [.im (.list ds)]=>P (.im (.int ds.length)) O
 | [.im (.tuple ds)]=>P (.im (.int ds.length)) O
 | [.own k]=>∃ c,O[k]?=some (some c)∧P (.im (.int c.length)) O
 | _=>False
theorem lk_len:LkC K rLen0 lenF:=fun w O H vs xs P Q r a hf q=>by
 unfold lenF at hf
 split at hf
 ·obtain ⟨v,us,rfl,h1,h2⟩:=a.uncons
  rw [h2.unnil]
  obtain ⟨p1,us',rfl,g1,t1⟩:=g_lst h1
  exact ⟨p1,us',rfl,.inl (SqL.of g1),by rw [t1.len]; exact q _ _ O w H hf (Ext.refl _ _ _) r (.int _)⟩
 ·obtain ⟨v,us,rfl,h1,h2⟩:=a.uncons
  rw [h2.unnil]
  obtain ⟨p1,us',rfl,g1,t1⟩:=g_tup h1
  exact ⟨p1,us',rfl,.inr (SqT.of g1),by rw [t1.len]; exact q _ _ O w H hf (Ext.refl _ _ _) r (.int _)⟩
 ·obtain ⟨c,hc,hf⟩:=hf
  obtain ⟨v,us,rfl,h1,h2⟩:=a.uncons
  rw [h2.unnil]
  obtain ⟨p2,e1,rfl⟩:=h1
  obtain ⟨p1,us',h0,g1,t1⟩:=r.cel _ _ hc
  rw [h0] at e1
  cases Option.some.inj e1
  exact ⟨_,us',rfl,.inl (SqL.of g1),by rw [t1.1]; exact q _ _ O w H hf (Ext.refl _ _ _) r (.int _)⟩
 ·exact hf.elim
def lenSF:MFC:=fun O xs P=>match xs with
 | [.scr ns]=>P (.im (.int ns.length)) O
 | _=>False
def rLenS (K:PySem.W.Frag):List V→Hp→VK→Prop:=fun xs H Q=>∃ p ys,xs=[.ref p]∧(SqL K H p ys ∨ SqT K H p ys)∧Q (.int ys.length) H
theorem lk_lenS:LkC K (rLenS K) lenSF:=fun w O H vs xs P Q r a hf q=>by
 unfold lenSF at hf
 split at hf
 ·obtain ⟨v,us,rfl,h1,h2⟩:=a.uncons
  rw [h2.unnil]
  obtain ⟨p1,rfl,g1⟩:=h1
  exact ⟨p1,_,rfl,.inl (KG.SqL.stay g1 g_le),by rw [List.length_map]; exact q _ _ O w H hf (Ext.refl _ _ _) r (.int _)⟩
 ·exact hf.elim
def int2C (g:Int→Int→Int):MFC:=fun O xs P=>match xs with
 | [.im (.int i),.im (.int j)]=>P (.im (.int (g i j))) O
 | _=>False
theorem lk_min2:LkC K (fun xs H Q=>∃ i j,xs=[.int i,.int j]∧Q (.int (if j < i then j else i)) H) (int2C fun i j=>if j < i then j else i):=fun w O H vs xs P Q r a hf q=>by
 unfold int2C at hf
 split at hf
 ·obtain ⟨v,us,rfl,h1,h2⟩:=a.uncons
  obtain ⟨v2,us2,rfl,h3,h4⟩:=h2.uncons
  rw [h4.unnil,jg4 h1,jg4 h3]
  exact ⟨_,_,rfl,q _ _ O w H hf (Ext.refl _ _ _) r (.int _)⟩
 ·exact hf.elim
def intF:MFC:=fun O xs P=>match xs with
 | [.im (.int i)]=>P (.im (.int i)) O
 | [.im (.bool c)]=>P (.im (.int (if c then 1 else 0))) O
 | _=>False
theorem lk_intF:LkC K (fun xs H Q=>(∃ i,xs=[.int i]∧Q (.int i) H) ∨ ∃ k,xs=[.bl k]∧Q (.int (if k then 1 else 0)) H) intF:=fun w O H vs xs P Q r a hf q=>by
 unfold intF at hf
 split at hf
 ·obtain ⟨v,us,rfl,h1,h2⟩:=a.uncons
  rw [h2.unnil,jg4 h1]
  exact .inl ⟨_,rfl,q _ _ O w H hf (Ext.refl _ _ _) r (.int _)⟩
 ·obtain ⟨v,us,rfl,h1,h2⟩:=a.uncons
  rw [h2.unnil,g_bl h1]
  exact .inr ⟨_,rfl,q _ _ O w H hf (Ext.refl _ _ _) r (.int _)⟩
 ·exact hf.elim
def seqD:AV→Option (List PyData)
 | .im (.list ds)=>some ds
 | .im (.tuple ds)=>some ds
 | _=>none
theorem seqD_sq {w:Wd} {O:Sto} {H:Hp} {v:V} {x:AV} {ds:List PyData} (h:seqD x=some ds) (a:AVr K w (G w O H) v x):∃ p us,v=.ref p∧(SqL K0 H p us ∨ SqT K0 H p us)∧TrGs (G w O H) us ds:=by
 unfold seqD at h
 split at h
 ·cases h
  obtain ⟨p,us,rfl,g1,t1⟩:=g_lst a
  exact ⟨p,us,rfl,.inl (SqL.of g1),t1⟩
 ·cases h
  obtain ⟨p,us,rfl,g1,t1⟩:=g_tup a
  exact ⟨p,us,rfl,.inr (SqT.of g1),t1⟩
 ·cases h
def seq1 (f:List PyData→(PyData→Prop)→Prop):MFC:=fun O xs P=>match xs with
 | [x]=>match seqD x with
  | some ds=>f ds fun d=>P (.im d) O
  | none=>False
 | _=>False
def allF:MFC:=seq1 fun ds P=>∃ ns:List Bool,ds=ns.map .bool∧P (.bool (ns.all id))
theorem all_id (ns:List Bool):(ns.map V.bl).all tv=ns.all id:=by induction ns with | nil=>rfl | cons n ns ih=>simp only [List.map_cons,List.all_cons,ih]; rfl
theorem plain_id (ns:List Bool):(ns.map V.bl).all plainB=true:=by induction ns with | nil=>rfl | cons n ns ih=>simp only [List.map_cons,List.all_cons,ih]; rfl
theorem lk_all:LkC K rAll0 allF:=fun w O H vs xs P Q r a hf q=>by
 unfold allF seq1 at hf
 split at hf
 ·split at hf
  ·rename_i ds hd
   obtain ⟨v,us,rfl,h1,h2⟩:=a.uncons
   rw [h2.unnil]
   obtain ⟨p,us',rfl,hs,t1⟩:=seqD_sq hd h1
   obtain ⟨ns,rfl,h⟩:=hf
   rw [g_bls t1] at hs
   refine ⟨p,_,rfl,hs,plain_id ns,?_⟩
   rw [all_id]
   exact q _ _ O w H h (Ext.refl _ _ _) r (.bl _)
  ·exact hf.elim
 ·exact hf.elim
def tupF:MFC:=fun O xs P=>match xs with
 | [.own k]=>∃ ds:List PyData,O[k]?=some (some (ds.map .im))∧P (.im (.tuple ds)) O
 | [x]=>match seqD x with
  | some ds=>P (.im (.tuple ds)) O
  | none=>False
 | _=>False
theorem lk_tup:LkC K rTup0 tupF:=fun w O H vs xs P Q r a hf q=>by
 unfold tupF at hf
 split at hf
 ·obtain ⟨ds,hc,hf⟩:=hf
  obtain ⟨v,us,rfl,h1,h2⟩:=a.uncons
  rw [h2.unnil]
  obtain ⟨p2,e1,rfl⟩:=h1
  obtain ⟨p1,us',h0,g1,t1⟩:=r.cel _ _ hc
  rw [h0] at e1
  cases Option.some.inj e1
  refine ⟨_,us',rfl,.inl ⟨SqL.of g1,fun l hl=>?_⟩⟩
  obtain ⟨r1,e1,t2⟩:=new_tup r hl (AVrs.tr t1)
  exact q _ _ O w _ hf e1 r1 t2
 ·rename_i x _
  split at hf
  ·rename_i ds hd
   obtain ⟨v,us,rfl,h1,h2⟩:=a.uncons
   rw [h2.unnil]
   unfold seqD at hd
   split at hd
   ·cases hd
    obtain ⟨p,us',rfl,g1,t1⟩:=g_lst h1
    refine ⟨p,us',rfl,.inl ⟨SqL.of g1,fun l hl=>?_⟩⟩
    obtain ⟨r1,e1,t2⟩:=new_tup r hl t1
    exact q _ _ O w _ hf e1 r1 t2
   ·cases hd
    obtain ⟨p,us',rfl,g1,t1⟩:=g_tup h1
    exact ⟨p,us',rfl,.inr ⟨SqT.of g1,q _ _ O w _ hf (Ext.refl _ _ _) r h1⟩⟩
   ·cases hd
  ·exact hf.elim
 ·exact hf.elim
theorem tyG {w:Wd} {O:Sto} {H:Hp} {v:V} {d:PyData} (h:TrG (G w O H) v d):TyOf K H v (.type (tyD d)):=by
 cases h with
 | non=>exact .non
 | bl c=>exact .bl c
 | int i=>exact .int i
 | str x _=>exact .str x
 | lst h1 _=>exact .lst (G_in h1).1
 | tup h1 _=>exact .tup (G_in h1).1
def mIsi (f:PyData→Bool) (M:ME):ME:=fun sl O Q=>M sl O fun x O1=>match x with
 | .im d=>Q (.im (.bool (f d))) O1
 | _=>False
theorem lift_isi {f:PyData→Bool} {c:Value} {M:ME} {QX:Addr→Sto→Prop} {E:XK} (hk:∀ d,(∀ kvs,d ≠ .dict kvs)→PySem.W.kitOne K (.type (tyD d)) c=some (f d)):∀ σ H Q,teM K QX E (mIsi f M) σ H Q→tIsi K c (teM K QX E M) σ H Q:=fun σ H Q ⟨w,O,sl,Q0,c',m,q⟩=>⟨w,O,sl,_,c',m,fun x O1 v w1 H1 h1 e1 r1 a1=>by
 split at h1
 ·rename_i d
  exact ⟨_,f d,tyG a1,hk d (fun kvs z=>by subst z; cases a1),q _ O1 _ w1 H1 h1 e1 r1 (.bl _)⟩
 ·exact h1.elim⟩
end
end MI
namespace MI
open PySem L2 KG EX KM
section
variable {K:PySem.W.Frag} {QX:Addr→Sto→Prop} {E:XK} {X:Cx} {w:Wd} {O:Sto} {H:Hp}
structure Go (M:MS) (D:MEnds) (sl:Slt) (O:Sto):Prop where
 go:M D sl O
def mSeq (M N:MS):MS:=fun D sl O=>M { D with nx:=fun sl' O'=>Go N D sl' O' } sl O
def mNext:MS:=fun D sl O=>D.nx sl O
theorem jd8:PSs X [] (tsM K QX E mNext):=PSs.imp je5 fun D σ H ⟨w,O,sl,D0,c,m,hn,hb,hc,hr⟩=>hn sl O w H σ m c (Ext.refl _ _ _)
theorem ja7 {st:Stmt} {rest:List Stmt} {M N:MS} (h1:PS X st (tsM K QX E M)) (h2:PSs X rest (tsM K QX E N)):PSs X (st :: rest) (tsM K QX E (mSeq M N)):=PSs.imp (jb0 h1 h2) fun D σ H ⟨w,O,sl,D0,c,m,hn,hb,hc,hr⟩ =>
 ⟨w,O,sl,_,c,m,fun sl1 O1 w1 H1 σ1 h1 c1 e1=>⟨w1,O1,sl1,D0,c1,h1.go,fun sl2 O2 w2 H2 σ2 h2 c2 e2=>hn sl2 O2 w2 H2 σ2 h2 c2 (e1.trans e2),fun sl2 O2 w2 H2 σ2 h2 c2 e2=>hb sl2 O2 w2 H2 σ2 h2 c2 (e1.trans e2),fun sl2 O2 w2 H2 σ2 h2 c2 e2=>hc sl2 O2 w2 H2 σ2 h2 c2 (e1.trans e2),fun x O2 w2 H2 v h2 e2 r2 a2=>hr x O2 w2 H2 v h2 (e1.trans e2) r2 a2⟩,hb,hc,hr⟩
theorem jb7 {st:Stmt} {M:MS} (h1:PS X st (tsM K QX E M)):PSs X [st] (tsM K QX E M):=jb5 h1
def mDrop (M:ME):MS:=fun D sl O=>M sl O fun _ O1=>D.nx sl O1
theorem ms_expr {e:Expr} {M:ME} {pos:Pos} (he:PE X e (teM K QX E M)) (hs:swapsWith e none pos.line X.env=pure false:=by rfl):PS X (.Expr e pos) (tsM K QX E (mDrop M)):=PS.imp (ps_expr he hs) fun D σ H ⟨w,O,sl,D0,c,m,hn,hb,hc,hr⟩=>⟨w,O,sl,_,c,m,fun x O1 v w1 H1 h1 e1 r1 a1=>hn sl O1 w1 H1 σ h1 (c.ex e1.ex r1) e1⟩
def mRet (M:ME):MS:=fun D sl O=>M sl O D.rt
theorem jc5 {e:Expr} {M:ME} {pos:Pos} (he:PE X e (teM K QX E M)):PS X (.Return (some e) pos) (tsM K QX E (mRet M)):=PS.imp (jc9 he) fun D σ H ⟨w,O,sl,D0,c,m,hn,hb,hc,hr⟩=>⟨w,O,sl,_,c,m,fun x O1 v w1 H1 h1 e1 r1 a1=>hr x O1 w1 H1 v h1 e1 r1 a1⟩
def mIfS (C:MT) (M N:MS):MS:=fun D sl O=>C sl O fun c O1=>(c=true→M D sl O1)∧(c=false→N D sl O1)
theorem jf5 {t:Expr} {a b:List Stmt} {C:MT} {M N:MS} {pos:Pos} (hc:PT X t (ttM K QX E C)) (ha:PSs X a (tsM K QX E M)) (hb:PSs X b (tsM K QX E N)):PS X (.If t a b pos) (tsM K QX E (mIfS C M N)):=PS.imp (ps_if hc ha hb) fun D σ H ⟨w,O,sl,D0,c,m,hn,hb,hc,hr⟩=>⟨w,O,sl,_,c,m,fun x O1 w1 H1 h1 e1 r1=>by
 have z:∀ {M:MS},M D0 sl O1→tsM K QX E M D σ H1:=fun h=>⟨w1,O1,sl,D0,c.ex e1.ex r1,h,fun sl2 O2 w2 H2 σ2 h2 c2 e2=>hn sl2 O2 w2 H2 σ2 h2 c2 (e1.trans e2),fun sl2 O2 w2 H2 σ2 h2 c2 e2=>hb sl2 O2 w2 H2 σ2 h2 c2 (e1.trans e2),fun sl2 O2 w2 H2 σ2 h2 c2 e2=>hc sl2 O2 w2 H2 σ2 h2 c2 (e1.trans e2),fun x O2 w2 H2 v h2 e2 r2 a2=>hr x O2 w2 H2 v h2 (e1.trans e2) r2 a2⟩
 cases x with
 | true=>exact iteT (z (h1.1 rfl))
 | false=>exact iteF (z (h1.2 rfl))⟩
abbrev MG:=AV→Slt→Sto→(Slt→Sto→Prop)→Prop
abbrev MGs:=List AV→Slt→Sto→(Slt→Sto→Prop)→Prop
def tgM (K:PySem.W.Frag) (QX:Addr→Sto→Prop) (E:XK) (mg:MG):TG:=fun v σ H Q=>∃ w O sl x Q0,Cfg K QX E w O H σ sl∧AVr K w (G w O H) v x∧mg x sl O Q0∧∀ sl' O' w' H' σ',Q0 sl' O'→Cfg K QX E w' O' H' σ' sl'→Ext w O H w' O' H'→Q σ' H'
def tgsM (K:PySem.W.Frag) (QX:Addr→Sto→Prop) (E:XK) (mg:MGs):TGs:=fun vs σ H Q=>∃ w O sl xs Q0,Cfg K QX E w O H σ sl∧AVrs K w (G w O H) vs xs∧mg xs sl O Q0∧∀ sl' O' w' H' σ',Q0 sl' O'→Cfg K QX E w' O' H' σ' sl'→Ext w O H w' O' H'→Q σ' H'
theorem PG.imp {tg:Expr} {t t':TG} (h:PG X tg t) (i:∀ v σ H Q,t' v σ H Q→t v σ H Q):PG X tg t':=fun pins s σ H v u Q I r q=>h pins s σ H v u Q I r (i v σ H Q q)
theorem PGs.imp {tg:List Expr} {t t':TGs} (h:PGs X tg t) (i:∀ v σ H Q,t' v σ H Q→t v σ H Q):PGs X tg t':=fun pins s σ H v u Q I r q=>h pins s σ H v u Q I r (i v σ H Q q)
def mgN (i:Nat):MG:=fun x sl O Q=>Q (sl.set i (some x)) O
theorem Cfg.put {σ:St} {sl:Slt} (c:Cfg K QX E w O H σ sl) {v:V} {x:AV} (a:AVr K w (G w O H) v x) (i:Nat):Cfg K QX E w O H (σ.set i (some v)) (sl.set i (some x)):=⟨c.ro,c.so.set a i,c.zx⟩
theorem jc2 {i:Nat} {tg:Expr} (h:PG X tg (gName i)):PG X tg (tgM K QX E (mgN i)):=PG.imp h fun v σ H Q ⟨w,O,sl,x,Q0,c,a,m,q⟩=>q _ O w H _ m (c.put a i) (Ext.refl _ _ _)
def mgNil:MGs:=fun xs sl O Q=>match xs with
 | []=>Q sl O
 | _=>False
def mgCons (t:MG) (u:MGs):MGs:=fun xs sl O Q=>match xs with
 | x :: r=>t x sl O fun sl' O'=>u r sl' O' Q
 | _=>False
theorem mgs_nil:PGs X [] (tgsM K QX E mgNil):=PGs.imp pgs_nil fun v σ H Q ⟨w,O,sl,x,Q0,c,a,m,q⟩=>by
 unfold mgNil at m
 split at m
 ·exact ⟨a.unnil,q _ O w H _ m c (Ext.refl _ _ _)⟩
 ·exact m.elim
theorem jg9 {e:Expr} {es:List Expr} {t:MG} {u:MGs} (h1:PG X e (tgM K QX E t)) (h2:PGs X es (tgsM K QX E u)) (hs:(assignEach (e :: es) X.env).map (·.2)=assign e X.env :: (assignEach es X.env).map (·.2):=by rfl):PGs X (e :: es) (tgsM K QX E (mgCons t u)):=PGs.imp (jg8 h1 h2 hs) fun v σ H Q ⟨w,O,sl,x,Q0,c,a,m,q⟩=>by
 unfold mgCons at m
 split at m
 ·obtain ⟨v1,us,rfl,a1,a2⟩:=a.uncons
  exact ⟨v1,us,rfl,w,O,sl,_,_,c,a1,m,fun sl1 O1 w1 H1 σ1 h1 c1 e1=>⟨w1,O1,sl1,_,_,c1,a2.ex e1.ex,h1,fun sl2 O2 w2 H2 σ2 h2 c2 e2=>q sl2 O2 w2 H2 σ2 h2 c2 (e1.trans e2)⟩⟩
 ·exact m.elim
def mgT (n:Nat) (t:MGs):MG:=fun x sl O Q=>match seqD x with
 | some ds=>ds.length=n∧t (ds.map .im) sl O Q
 | none=>False
theorem PG.or {tg:Expr} {t t':TG} (h:PG X tg t) (h':PG X tg t'):PG X tg (fun v σ H Q=>t v σ H Q ∨ t' v σ H Q):=fun pins s σ H v u Q I r q=>q.elim (fun z=>h pins s σ H v u Q I r z) fun z=>h' pins s σ H v u Q I r z
theorem mg_tup {es:List Expr} {k:Nat} {t:MGs} {n:Nat} {pos:Pos} (hc:X.calm=true) (h:PGs X es (tgsM K QX E t)) (hn:(assignEach es X.env).length=n:=by rfl) (hst:(assignEach es X.env).findIdx? (·.1)=none:=by rfl):PG X (.Tuple es k pos) (tgM K QX E (mgT n t)) :=
 PG.imp (PG.or (pgTup0 hc h hn hst) (pgLst0 hc h hn hst)) fun v σ H Q ⟨w,O,sl,x,Q0,c,a,m,q⟩=>by
  unfold mgT at m
  split at m
  ·rename_i ds hd
   obtain ⟨m1,m2⟩:=m
   obtain ⟨p,us,rfl,hs,t1⟩:=seqD_sq hd a
   have hl:us.length=n:=by rw [t1.len]; exact m1
   have hq:tgsM K QX E t us σ H Q:=⟨w,O,sl,_,_,c,TrGs.avs t1,m2,q⟩
   rcases hs with hs | hs
   ·exact .inr ⟨p,us,rfl,hs,hl,hq⟩
   ·exact .inl ⟨p,us,rfl,hs,hl,hq⟩
  ·exact m.elim
def mAsg (M:ME) (mg:MG):MS:=fun D sl O=>M sl O fun x O1=>mg x sl O1 D.nx
theorem lift_asg {t:TE} {g:TG} {M:ME} {mg:MG} (ht:∀ σ H Q,teM K QX E M σ H Q→t σ H Q) (hg:∀ v σ H Q,tgM K QX E mg v σ H Q→g v σ H Q):∀ D σ H,tsM K QX E (mAsg M mg) D σ H→tAsg t g D σ H:=fun D σ H ⟨w,O,sl,D0,c,m,hn,hb,hc,hr⟩ =>
 ht σ H _ ⟨w,O,sl,_,c,m,fun x O1 v w1 H1 h1 e1 r1 a1=>hg v σ H1 _ ⟨w1,O1,sl,x,_,c.ex e1.ex r1,a1,h1,fun sl2 O2 w2 H2 σ2 h2 c2 e2=>hn sl2 O2 w2 H2 σ2 h2 c2 (e1.trans e2)⟩⟩
theorem ms_asg {tg e:Expr} {M:ME} {mg:MG} {pos:Pos} (he:PE X e (teM K QX E M)) (hg:PG X tg (tgM K QX E mg)) (hs:swapsWithSole [tg] e pos.line X.env=pure false:=by rfl) (hw:swappedStores [tg] e X.env=pure none:=by rfl) (h1:(assignEach [tg] X.env).map (·.2)=[assign tg X.env]:=by rfl):PS X (.Assign [tg] e pos) (tsM K QX E (mAsg M mg)):=PS.imp (ps_asg he hg hs hw h1) (lift_asg (fun _ _ _ z=>z) fun _ _ _ _ z=>z)
theorem tgM_name {i:Nat}:∀ v σ H Q,tgM K QX E (mgN i) v σ H Q→gName i v σ H Q:=fun v σ H Q ⟨w,O,sl,x,Q0,c,a,m,q⟩=>q _ O w H _ m (c.put a i) (Ext.refl _ _ _)
theorem jd5 {i:Nat} {x:Str} {e:Expr} {M:ME} {pos pos':Pos} (hN:X.N.Nodup) (hi:X.N[i]?=some x) (hx:Loc X.env.scope x) (he:PE X e (teM K QX E M)) (hs:swapsWith e (some (.Name x pos')) pos.line X.env=pure false:=by rfl) (hf:X.fn x=true ∨ X.env.scope.names.lookup x=some .local:=by first | exact .inl rfl | exact .inr rfl | assumption) :
  PS X (.Assign [.Name x pos'] e pos) (tsM K QX E (mAsg M (mgN i))):=PS.imp (je4 hN hi hx he hs hf) (lift_asg (fun _ _ _ z=>z) tgM_name)
def Items (K:PySem.W.Frag) (J:It) (w:Wd) (O:Sto) (H:Hp) (items:List AV):Prop:=∀ O2 w2 H2,Ex0 w O H w2 O2 H2→RelO K w2 O2 H2→∀ i,(∀ x,items[i]?=some x→J.go i H2∧∀ v H3,J.yld i H2 v H3→Ext w2 O2 H2 w2 O2 H3∧RelO K w2 O2 H3∧AVr K w2 (G w2 O2 H3) v x)∧(items.length ≤ i→J.stop i H2)
def tiM (K:PySem.W.Frag) (QX:Addr→Sto→Prop) (E:XK) (M:MA):TI:=fun σ H R=>∃ w O sl Q0,Cfg K QX E w O H σ sl∧M sl O Q0∧∀ items O' w' H' J,Q0 items O'→Ext w O H w' O' H'→RelO K w' O' H'→Items K J w' O' H' items→R J H'
theorem PI.imp {tg iter:Expr} {t t':TI} (h:PI X tg iter t) (i:∀ σ H R,t' σ H R→t σ H R):PI X tg iter t':=fun pins s σ H R I q=>h pins s σ H R I (i σ H R q)
theorem items_lst {a:Addr} {ds:List PyData} (t:TrG (G w O H) (.ref a) (.list ds)):Items K (Itl K0 a) w O H (ds.map .im):=fun O2 w2 H2 e r i=>by
 cases TrG.stay e.stay t with | lst h1 t1=>?_
 rename_i xs
 have hh:=(G_in h1).1
 refine ⟨fun x hx=>?_,fun hl=>⟨xs,SqL.of hh,by rw [List.length_map] at hl; rw [t1.len]; exact hl⟩⟩
 rw [List.getElem?_map] at hx
 cases hd:ds[i]? with
 | none=>rw [hd] at hx; cases hx
 | some d =>
  rw [hd] at hx
  cases Option.some.inj hx
  obtain ⟨v,hv,tv⟩:=t1.get hd
  refine ⟨⟨xs,v,SqL.of hh,hv⟩,?_⟩
  rintro v' H3 ⟨rfl,hy⟩
  have:=hy xs (SqL.of hh)
  rw [hv] at this
  cases Option.some.inj this
  exact ⟨Ext.refl _ _ _,r,tv⟩
theorem items_tup {a:Addr} {ds:List PyData} (t:TrG (G w O H) (.ref a) (.tuple ds)):Items K (Itt K0 a) w O H (ds.map .im):=fun O2 w2 H2 e r i=>by
 cases TrG.stay e.stay t with | tup h1 t1=>?_
 rename_i xs
 have hh:=(G_in h1).1
 refine ⟨fun x hx=>?_,fun hl=>⟨xs,SqT.of hh,by rw [List.length_map] at hl; rw [t1.len]; exact hl⟩⟩
 rw [List.getElem?_map] at hx
 cases hd:ds[i]? with
 | none=>rw [hd] at hx; cases hx
 | some d =>
  rw [hd] at hx
  cases Option.some.inj hx
  obtain ⟨v,hv,tv⟩:=t1.get hd
  refine ⟨⟨xs,v,SqT.of hh,hv⟩,?_⟩
  rintro v' H3 ⟨rfl,hy⟩
  have:=hy xs (SqT.of hh)
  rw [hv] at this
  cases Option.some.inj this
  exact ⟨Ext.refl _ _ _,r,tv⟩
def miSeq (M:ME):MA:=fun sl O Q=>M sl O fun x O1=>match seqD x with
 | some ds=>Q (ds.map .im) O1
 | none=>False
def iSeq (tl:TE):TI:=fun σ H R=>tl σ H fun x H1=>(∃ a,x=.ref a∧(∃ xs,SqL K0 H1 a xs)∧R (Itl K0 a) H1) ∨ (∃ a,x=.ref a∧(∃ xs,SqT K0 H1 a xs)∧R (Itt K0 a) H1)
theorem pi_seq {tg l:Expr} {tl:TE} (hl:PE X l tl):PI X tg l (iSeq tl):=by
 intro pins s σ H R I h
 refine thn (hl pins s σ H _ I h) fun v s1 ⟨x,H1,I1,r1,q1⟩=>?_
 rcases q1 with ⟨a,e,⟨xs,hq⟩,q⟩ | ⟨a,e,⟨xs,hq⟩,q⟩
 ·subst e
  cases r1
  obtain ⟨its,rv,p,hz⟩:=I1.list hq.k0
  refine wpAny_pyIter_list p.isList ⟨s1.heap.objs.size,[s1.heap.objs.size],_,Itl K0 a,H1,rfl,I1.kept (t':=s1.toks) fun b o e=>Heap.get?_push_of_some _ e,(turn_list (K:=X.K) a _).le le_list,⟨_,Heap.get?_push_size _ rfl,rfl,rfl⟩,fun b hb=>?_,q⟩
  have e:b=s1.heap.objs.size:=by simpa using hb
  subst e
  exact I1.fpOk (Nat.le_refl _) (I1.hok.fresh (Nat.le_refl _))
 ·subst e
  cases r1
  obtain ⟨its,rv,p,hz⟩:=I1.tuple hq.k0
  refine wpAny_pyIter_tuple (show s1.heap.IsTuple a its.toArray from p) ⟨s1.heap.objs.size,[s1.heap.objs.size],_,Itt K0 a,H1,rfl,I1.kept (t':=s1.toks) fun b o e=>Heap.get?_push_of_some _ e,(turn_tuple (K:=X.K) a _).le le_tup,⟨_,Heap.get?_push_size _ rfl,rfl,rfl⟩,fun b hb=>?_,q⟩
  have e:b=s1.heap.objs.size:=by simpa using hb
  subst e
  exact I1.fpOk (Nat.le_refl _) (I1.hok.fresh (Nat.le_refl _))
theorem jf7 {tg e:Expr} {M:ME} (he:PE X e (teM K QX E M)):PI X tg e (tiM K QX E (miSeq M)):=PI.imp (pi_seq he) fun σ H R ⟨w,O,sl,Q0,c,m,q⟩=>⟨w,O,sl,_,c,m,fun x O1 v w1 H1 h1 e1 r1 a1=>by
 split at h1
 ·rename_i ds hd
  unfold seqD at hd
  split at hd
  ·cases hd
   obtain ⟨a,xs,rfl,g1,t1⟩:=g_lst a1
   exact .inl ⟨a,rfl,⟨xs,SqL.of g1⟩,q _ O1 w1 H1 _ h1 e1 r1 (items_lst a1)⟩
  ·cases hd
   obtain ⟨a,xs,rfl,g1,t1⟩:=g_tup a1
   exact .inr ⟨a,rfl,⟨xs,SqT.of g1⟩,q _ O1 w1 H1 _ h1 e1 r1 (items_tup a1)⟩
  ·cases hd
 ·exact h1.elim⟩
def rngI (lo:Int) (n:Nat):List AV:=(List.range n).map fun i:Nat=>.im (.int (lo + (i:Int)))
theorem items_rng {lo:Int} {n:Nat}:Items K (Itr lo n) w O H (rngI lo n):=fun O2 w2 H2 e r i=>by
 unfold rngI
 refine ⟨fun x hx=>?_,fun hl=>by show n ≤ i; simpa using hl⟩
 have hi:i < n:=by have:=(List.getElem?_eq_some_iff.mp hx).1; simpa using this
 rw [List.getElem?_map,List.getElem?_range hi] at hx
 cases Option.some.inj hx
 refine ⟨hi,?_⟩
 rintro v H3 ⟨rfl,rfl⟩
 exact ⟨Ext.refl _ _ _,r,.int _⟩
def miR1 (Ms:MA):MA:=fun sl O Q=>Ms sl O fun xs O1=>match xs with
 | [.im (.int n)]=>(-(2 ^ 62) ≤ n∧n < 2 ^ 62)∧Q (rngI 0 n.toNat) O1
 | _=>False
theorem mi_range1 {tg a:Expr} {Ms:MA} {p pos:Pos} (hg:Gl X "range") (hm:X.mg "range"=none) (ha:PA X [a] (taM K QX E Ms)) (hs:starEach [a] X.env=[(false,eval a X.env)]:=by rfl):PI X tg (.Call (.Name "range" p) [a] [] pos) (tiM K QX E (miR1 Ms)):=PI.imp (pi_range1 hg hm ha hs) fun σ H R ⟨w,O,sl,Q0,c,m,q⟩=>⟨w,O,sl,_,c,m,fun xs O1 vs w1 H1 h1 e1 r1 a1=>by
 split at h1
 ·obtain ⟨v,us,rfl,h3,h4⟩:=a1.uncons
  rw [h4.unnil,jg4 h3]
  exact ⟨_,rfl,h1.1.1,h1.1.2,q _ O1 w1 H1 _ h1.2 e1 r1 items_rng⟩
 ·exact h1.elim⟩
def zipI (ds es:List PyData):List AV:=(List.range ds.length).map fun i:Nat=>.im (.tuple [ds.getD i .none,es.getD i .none])
theorem items_zip {a b:Addr} {ds es:List PyData} (t:TrG (G w O H) (.ref a) (.tuple ds)) (u:TrG (G w O H) (.ref b) (.tuple es)) (hle:ds.length ≤ es.length):Items K (Itz K0 a b) w O H (zipI ds es):=fun O2 w2 H2 e r i=>by
 cases TrG.stay e.stay t with | tup h1 t1=>?_
 rename_i xs
 cases TrG.stay e.stay u with | tup h2 t2=>?_
 rename_i ys
 have hh:=(G_in h1).1
 have hh2:=(G_in h2).1
 unfold zipI
 refine ⟨fun x hx=>?_,fun hl=>⟨xs,ys,SqT.of hh,SqT.of hh2,by rw [t1.len]; simpa using hl⟩⟩
 have hi:i < ds.length:=by have:=(List.getElem?_eq_some_iff.mp hx).1; simpa using this
 rw [List.getElem?_map,List.getElem?_range hi] at hx
 cases Option.some.inj hx
 have hd:ds[i]?=some (ds.getD i .none):=by rw [jc8 (List.getElem?_eq_getElem hi)]; exact List.getElem?_eq_getElem hi
 have he:es[i]?=some (es.getD i .none):=by rw [jc8 (List.getElem?_eq_getElem (show i < es.length by omega))]; exact List.getElem?_eq_getElem (by omega)
 obtain ⟨v,hv,tv⟩:=t1.get hd
 obtain ⟨v2,hv2,tv2⟩:=t2.get he
 refine ⟨⟨xs,ys,v,v2,SqT.of hh,SqT.of hh2,hv,hv2⟩,?_⟩
 rintro v' H3 ⟨p,hp,rfl,hy⟩
 obtain ⟨y,y2,hy1,hy2,rfl⟩:=hy xs ys (SqT.of hh) (SqT.of hh2)
 rw [hv] at hy1
 rw [hv2] at hy2
 cases Option.some.inj hy1
 cases Option.some.inj hy2
 obtain ⟨r4,e4,t4⟩:=new_tup r hp (.cons tv (.cons tv2 .nil))
 exact ⟨e4,r4,t4⟩
def miZ (Ms:MA):MA:=fun sl O Q=>Ms sl O fun xs O1=>match xs with
 | [.im (.tuple ds),.im (.tuple es)]=>ds.length ≤ es.length∧Q (zipI ds es) O1
 | _=>False
theorem mi_zip {a b:Expr} {Ms:MA} {p pos:Pos} {elts:List Expr} {kk} {tpos:Pos} (hg:Gl X "zip") (hm:X.mg "zip"=none) (hb:bootBuiltins "zip"=some (.type "zip")) (ha:PA X [a,b] (taM K QX E Ms)) (hs:starEach [a,b] X.env=[(false,eval a X.env),(false,eval b X.env)]:=by rfl) (hs2:starEach [b] X.env=[(false,eval b X.env)]:=by rfl):PI X (.Tuple elts kk tpos) (.Call (.Name "zip" p) [a,b] [] pos) (tiM K QX E (miZ Ms)):=PI.imp (pi_zip0 hg hm hb ha hs hs2) fun σ H R ⟨w,O,sl,Q0,c,m,q⟩=>⟨w,O,sl,_,c,m,fun xs O1 vs w1 H1 h1 e1 r1 a1=>by
 split at h1
 ·obtain ⟨v,us,rfl,h3,h4⟩:=a1.uncons
  obtain ⟨v2,us2,rfl,h5,h6⟩:=h4.uncons
  rw [h6.unnil]
  obtain ⟨a,xs',rfl,g1,t1⟩:=g_tup h3
  obtain ⟨b,ys',rfl,g2,t2⟩:=g_tup h5
  exact ⟨a,b,rfl,⟨xs',SqT.of g1⟩,⟨ys',SqT.of g2⟩,q _ O1 w1 H1 _ h1.2 e1 r1 (items_zip h3 h5 h1.1)⟩
 ·exact h1.elim⟩
structure FB (tg:MG) (body:MS) (D:MEnds) (sl:Slt) (items:List AV) (O1:Sto):Prop where
 ex:∃ Iv:Nat→Slt→Sto→Prop,Iv 0 sl O1 ∧
 (∀ i x sl' O',items[i]?=some x→Iv i sl' O'→tg x sl' O' fun sl2 O2=>Go body { D with nx:=Iv (i + 1),ct:=Iv (i + 1),bk:=D.nx } sl2 O2)∧∀ sl' O',Iv items.length sl' O'→D.nx sl' O'
def mFor (it:MA) (tg:MG) (body:MS):MS:=fun D sl O=>it sl O (FB tg body D sl)
theorem ms_for {tg iter:Expr} {body:List Stmt} {it:MA} {mg:MG} {M:MS} {pos:Pos} (hp:PassesOwn (model X.prog X.w) X.A X.env X.xe) (hc:X.calm=true) (hi:PI X tg iter (tiM K QX E it)) (hg:PG X tg (tgM K QX E mg)) (hb:PSs X body (tsM K QX E M)) (hs:∀ x,foldedSetIterable iter X.env x=pure x:=by intro _; rfl):PS X (.For tg iter body [] pos) (tsM K QX E (mFor it mg M)):=PS.imp (ps_for hp hc hi hg hb hs) fun D σ H ⟨w,O,sl,D0,c,m,hn,hbk,hct,hr⟩=>⟨w,O,sl,_,c,m,fun items O1 w1 H1 J h1 e1 r1 it1=>by
 obtain ⟨Iv,hI0,hIs,hIe⟩:=h1
 refine ⟨fun i m σ' H'=>m=items.length - i∧i ≤ items.length∧∃ w' O' sl',Cfg K QX E w' O' H' σ' sl'∧Ext w1 O1 H1 w' O' H'∧Iv i sl' O',⟨items.length,by simp,Nat.zero_le _,w1,O1,sl,c.ex e1.ex r1,Ext.refl _ _ _,hI0⟩,?_⟩
 rintro i m σ' H' ⟨rfl,hle,w',O',sl',c',e',hv⟩
 obtain ⟨ig,ie⟩:=it1 O' w' H' e'.ex c'.ro i
 rcases Nat.lt_or_ge i items.length with y | y
 ·obtain ⟨hgo,hyl⟩:=ig _ (List.getElem?_eq_getElem y)
  refine .inr ⟨hgo,fun σ2 H2=>∃ w2 O2 sl2,Cfg K QX E w2 O2 H2 σ2 sl2∧Ext w1 O1 H1 w2 O2 H2∧Iv (i + 1) sl2 O2,fun σ2 H2 ⟨w2,O2,sl2,c2,e2,h2⟩=>⟨items.length - (i + 1),by omega,rfl,y,w2,O2,sl2,c2,e2,h2⟩,fun v H3 hv3=>?_⟩
  obtain ⟨e3,r3,a3⟩:=hyl v H3 hv3
  refine ⟨w',O',sl',_,_,c'.ex e3.ex r3,a3,hIs i _ sl' O' (List.getElem?_eq_getElem y) hv,fun sl4 O4 w4 H4 σ4 h4 c4 e4=>⟨w4,O4,sl4,_,c4,h4.go,fun sl5 O5 w5 H5 σ5 h5 c5 e5=>⟨w5,O5,sl5,c5,(e'.trans e3).trans (e4.trans e5),h5⟩,fun sl5 O5 w5 H5 σ5 h5 c5 e5=>hn sl5 O5 w5 H5 σ5 h5 c5 (((e1.trans e').trans e3).trans (e4.trans e5)),fun sl5 O5 w5 H5 σ5 h5 c5 e5=>⟨w5,O5,sl5,c5,(e'.trans e3).trans (e4.trans e5),h5⟩,fun x5 O5 w5 H5 v5 h5 e5 r5 a5=>hr x5 O5 w5 H5 v5 h5 (((e1.trans e').trans e3).trans (e4.trans e5)) r5 a5⟩⟩
 ·have ei:i=items.length:=by omega
  subst ei
  exact .inl ⟨ie (Nat.le_refl _),hn sl' O' w' H' σ' (hIe sl' O' hv) c' (e1.trans e')⟩⟩
end
end MI
namespace MI
open PySem L2 KG EX KM
section
variable {K:PySem.W.Frag} {QX:Addr→Sto→Prop} {E:XK} {X:Cx} {w:Wd} {O:Sto} {H:Hp}
def Sub (n:Nat) (sl sl2:Slt):Prop:=sl2.length=sl.length∧∀ j,n ≤ j→sl2[j]?=sl[j]?
theorem Slots.sub {n:Nat} {ix:List Nat} {g:Hp} {σ:St} {sl sl2:Slt} (h:Slots K w g σ sl2) (s:Sub n (blkS n ix sl) sl2):Slots K w g σ (blkS n ix sl):=by
 refine ⟨h.1.trans s.1,fun i x hx=>?_⟩
 rcases Nat.lt_or_ge i n with y | y
 ·unfold blkS at hx
  rw [List.getElem?_append_left (by simpa using y),List.getElem?_replicate,if_pos y] at hx
  cases Option.some.inj hx
 ·exact h.2 i x (by rw [s.2 i y]; exact hx)
theorem Slots.stayG {w w':Wd} {g g':Hp} (hb:w'.bags=w.bags) (ha:w'.ads=w.ads) (s:Stay g g') {σ:St} {sl:Slt} (h:Slots K w g σ sl):Slots K w' g' σ sl:=⟨h.1,fun i x h1=>by obtain ⟨v,h2,h3⟩:=h.2 i x h1; exact ⟨v,h2,AVr.stayG hb ha s h3⟩⟩
def Keeps (n:Nat) (mg:MG):Prop:=∀ x sl O Q,mg x sl O Q→mg x sl O fun sl2 O2=>Q sl2 O2∧Sub n sl sl2
theorem jc4 {n i:Nat} (h:i < n):Keeps n (mgN i):=fun x sl O Q q=>⟨q,by simp,fun j hj=>List.getElem?_set_ne (by omega)⟩
structure CB (n:Nat) (ix:List Nat) (mg:MG) (C:MT) (M:ME) (sl:Slt) (Q:AV→Sto→Prop) (items:List AV) (O1:Sto):Prop where
 len:items.length ≤ 1000000
 ex:∃ Iv:Nat→List PyData→Sto→Prop,Iv 0 [] O1 ∧
 (∀ i x ds O',items[i]?=some x→Iv i ds O'→mg x (blkS n ix sl) O' fun sl2 O2=>C sl2 O2 fun c O3=>(c=true→M sl2 O3 fun y O4=>match y with
   | .im d=>Iv (i + 1) (ds ++ [d]) O4
   | _=>False)∧(c=false→Iv (i + 1) ds O3))∧∀ ds O',Iv items.length ds O'→Q (.im (.list ds)) O'
def mComp (n:Nat) (ix:List Nat) (it:MA) (mg:MG) (C:MT) (M:ME):ME:=fun sl O Q=>it sl O (CB n ix mg C M sl Q)
theorem lift_comp {n:Nat} {ix:List Nat} {it:MA} {mg:MG} {C:MT} {M:ME} (hk:Keeps n mg):∀ σ H Q,teM K QX E (mComp n ix it mg C M) σ H Q→tComp (tiM K QX E it) (tgM K QX E mg) (ttM K QX E C) (teM K QX E M) n ix σ H Q :=
 fun σ H Q ⟨w,O,sl,Q0,c,m,q⟩=>⟨w,O,sl,_,c,m,fun items O1 w1 H1 J h1 e1 r1 it1 acc hacc=>by
  obtain ⟨hl,Iv,h0,hs,he⟩:=h1
  have hC:=c.ex e1.ex r1
  obtain ⟨r0,e0⟩:=hC.ro.hide (o:=.lst []) hacc (fun xs z=>by cases z)
  refine ⟨fun i m σ' H'=>m=items.length - i∧i ≤ items.length∧∃ w' O' ys zs,RelO K w' O' H'∧w'.hid=(acc,.lst ys) :: w1.hid∧Ex0 w1 O1 H1 w' O' H'∧Slots K w' (G w' O' H') σ' (blkS n ix sl)∧TrGs (G w' O' H') ys zs∧zs.length ≤ i∧Iv i zs O',
   ⟨items.length,by simp,Nat.zero_le _,_,O1,[],[],r0,rfl,e0,(hC.so.blk n ix).ex e0,.nil,Nat.le_refl _,h0⟩,?_⟩
  rintro i m σ' H' ⟨rfl,hle,w',O',ys,zs,r',hh',e',s',a',hz',hv⟩
  obtain ⟨ig,ie⟩:=it1 O' w' H' e' r' i
  rcases Nat.lt_or_ge i items.length with y | y
  ·obtain ⟨hgo,hyl⟩:=ig _ (List.getElem?_eq_getElem y)
   refine .inr ⟨hgo,fun σ2 H2=>∃ w' O' ys zs,RelO K w' O' H2∧w'.hid=(acc,.lst ys) :: w1.hid∧Ex0 w1 O1 H1 w' O' H2∧Slots K w' (G w' O' H2) σ2 (blkS n ix sl)∧TrGs (G w' O' H2) ys zs∧zs.length ≤ i + 1∧Iv (i + 1) zs O',fun σ2 H2 z=>⟨items.length - (i + 1),by omega,rfl,y,z⟩,fun v H3 hv3=>?_⟩
   obtain ⟨e3,r3,a3⟩:=hyl v H3 hv3
   have cfg:Cfg K QX E w' O' H3 σ' (blkS n ix sl):=⟨r3,s'.ex e3.ex,fun k O'' w'' H'' qx e'' r''=>hC.zx k O'' w'' H'' qx ((e'.trans e3.ex).trans e'') r''⟩
   refine ⟨w',O',_,_,_,cfg,a3,hk _ _ _ _ (hs i _ zs O' (List.getElem?_eq_getElem y) hv),fun sl4 O4 w4 H4 σ4 h4 c4 e4=>⟨w4,O4,sl4,_,c4,h4.1,fun b O5 w5 H5 h5 e5 r5=>?_⟩⟩
   have e35:=e3.trans (e4.trans e5)
   cases b with
   | false=>exact iteF ⟨w5,O5,ys,zs,r5,e35.hid.trans hh',e'.trans e35.ex,Slots.sub (c4.so.ex e5.ex) h4.2,TrGs.stay e35.ex.stay a',by omega,h5.2 rfl⟩
   | true =>
    refine iteT ⟨w5,O5,sl4,_,c4.ex e5.ex r5,h5.1 rfl,fun z O6 v6 w6 H6 h6 e6 r6 a6=>?_⟩
    split at h6
    ·rename_i d
     have e36:=e35.trans e6
     have hh6:w6.hid=(acc,.lst ys) :: w1.hid:=e36.hid.trans hh'
     obtain ⟨n1,n2,n3,n4⟩:=r6.nh (acc,.lst ys) (by rw [hh6]; exact List.mem_cons_self)
     obtain ⟨r7,s7⟩:=r6.rehide (o':=.lst (ys ++ [v6])) hh6 (fun xs z=>by cases z)
     have e16:=e'.trans e36.ex
     refine ⟨ys,n3,by rw [a'.len,sz]; omega,{ w6 with hid:=(acc,.lst (ys ++ [v6])) :: w1.hid },O6,ys ++ [v6],zs ++ [d],r7,rfl,⟨e16.bs,e16.ads,⟨[(acc,.lst (ys ++ [v6]))],rfl⟩,e16.stay.trans s7⟩,?_,?_,by rw [List.length_append]; simp; omega,h6⟩
     ·exact Slots.stayG rfl rfl s7 (Slots.sub ((c4.so.ex e5.ex).ex e6.ex) h4.2)
     ·exact TrGs.stay s7 ((TrGs.stay e36.ex.stay a').app (.cons a6 .nil))
    ·exact h6.elim
  ·have ei:i=items.length:=by omega
   subst ei
   refine .inl ⟨ie (Nat.le_refl _),?_⟩
   obtain ⟨r2,s2,g2⟩:=r'.unhide hh'
   exact q _ _ _ { w' with hid:=w1.hid } _ (he zs O' hv) ⟨e1.ex.trans ⟨e'.bs,e'.ads,⟨[],rfl⟩,e'.stay.trans s2⟩,e1.hid⟩ r2 (.lst g2 (TrGs.stay s2 a'))⟩
theorem PIfs.imp {ifs:List Expr} {t t':TT} (h:PIfs X ifs t) (i:∀ σ H Q,t' σ H Q→t σ H Q):PIfs X ifs t':=fun pins s σ H Q I q=>h pins s σ H Q I (i σ H Q q)
def mYes:MT:=fun _ O Q=>Q true O
theorem jh0:PIfs X [] (ttM K QX E mYes):=PIfs.imp jf8 fun σ H Q ⟨w,O,sl,Q0,c,m,q⟩=>q true O w H m (Ext.refl _ _ _) c.ro
theorem mf_one {e:Expr} {M:MT} (h:PT X e (ttM K QX E M)):PIfs X [e] (ttM K QX E M):=pifs_one h
section
variable {scope:Scope} {own cap:List Str} {ix:List Nat} {tg iter elt:Expr} {ifs:List Expr} {it:MA} {mg:MG} {C:MT} {M:ME} {pos:Pos}
theorem me_comp (B:BlkOk X scope own cap ix) (hc:X.calm=true) (hi:PI X tg iter (tiM K QX E it)) (hk:Keeps own.length mg)
  (hb:∀ C' fp s H,PG (cxC X scope C' (own ++ cap) fp s H) tg (tgM K QX E mg)∧PIfs (cxC X scope C' (own ++ cap) fp s H) ifs (ttM K QX E C)∧PE (cxC X scope C' (own ++ cap) fp s H) elt (teM K QX E M))
  (hs:∀ x,foldedSetIterable iter X.env x=pure x:=by intro _; rfl):PE X (.ListComp elt [⟨tg,iter,ifs,0⟩] scope pos) (teM K QX E (mComp own.length ix it mg C M)):=PE.imp (pe_comp B hc hi hb hs) (lift_comp hk)
theorem ms_setC {i:Nat} {y:Str} {py spos:Pos} (hN:X.N.Nodup) (hiN:X.N[i]?=some y) (hx:X.env.scope.names.lookup y=some .local) (B:BlkOk X scope own cap ix) (hc:X.calm=true) (hi:PI X tg iter (tiM K QX E it)) (hk:Keeps own.length mg)
  (hb:∀ C' fp s H,PG (cxC X scope C' (own ++ cap) fp s H) tg (tgM K QX E mg)∧PIfs (cxC X scope C' (own ++ cap) fp s H) ifs (ttM K QX E C)∧PE (cxC X scope C' (own ++ cap) fp s H) elt (teM K QX E M))
  (hsw:swapsWith (.ListComp elt [⟨tg,iter,ifs,0⟩] scope pos) (some (.Name y py)) spos.line X.env=pure true:=by rfl)
  (hs:∀ x,foldedSetIterable iter X.env x=pure x:=by intro _; rfl):PS X (.Assign [.Name y py] (.ListComp elt [⟨tg,iter,ifs,0⟩] scope pos) spos) (tsM K QX E (mAsg (mComp own.length ix it mg C M) (mgN i))):=PS.imp (ps_setC hN hiN hx B hc hi hb hsw hs) (lift_asg (lift_comp hk) tgM_name)
end
abbrev FM:=Sto→List AV→(AV→Sto→Prop)→(Addr→Sto→Prop)→Prop
def LkS (K:PySem.W.Frag) (sp:Sp) (F:FM):Prop:=∀ (w:Wd) (O:Sto) (H:Hp) (vs:List V) (xs:List AV) (P:AV→Sto→Prop) (PX:Addr→Sto→Prop) (Q:VK) (E:XK),RelO K w O H→AVrs K w (G w O H) vs xs→F O xs P PX →
 (∀ z q O' w' H',P q O'→Ext w O H w' O' H'→RelO K w' O' H'→AVr K w' (G w' O' H') z q→Q z H')→(∀ c O' w' H',PX c O'→Ex0 w O H w' O' H'→RelO K w' O' H'→E (.ref c) none H')→sp vs H Q E
def spM (K:PySem.W.Frag) (F:FM):Sp:=fun vs H Q E=>∃ w O xs P PX,RelO K w O H∧AVrs K w (G w O H) vs xs∧F O xs P PX∧(∀ z q O' w' H',P q O'→Ext w O H w' O' H'→RelO K w' O' H'→AVr K w' (G w' O' H') z q→Q z H')∧∀ c O' w' H',PX c O'→Ex0 w O H w' O' H'→RelO K w' O' H'→E (.ref c) none H'
theorem je0 {F:FM}:LkS K (spM K F) F:=fun w O H vs xs P PX Q E r a f q x=>⟨w,O,xs,P,PX,r,a,f,q,x⟩
def mCall (F:FM) (QX:Addr→Sto→Prop) (Ms:MA):ME:=fun sl O Q=>Ms sl O fun xs O1=>F O1 xs Q QX
theorem me_call {CX:CXT} {k:Nat} {f:Addr} {fd:FuncData} {ps:List Str} {sp:Sp} {F:FM} {x:Str} {e:Expr} {es:List Expr} {p pos:Pos} {Ms:MA} (G':FnOk X.prog X.w X.K X.mg X.base CX k f fd ps sp) (lk:LkS K sp F) (hr:Room k X.A) (hg:Gl X x) (hm:X.mg x=some (.ref f)) (hk:PySem.W.keepIn X.K (.ref f)=true) (hb:Binds X.K fd ps []) (hx:Passes CX X E)
  (ha:PA X (e :: es) (taM K QX E Ms)) (hdb:(x == ("__debug__" : Str))=false:=by decide) (he:starEach (e :: es) X.env=(false,eval e X.env) :: starEach es X.env:=by rfl) (hpl:(backTo pos (starEach es X.env)).any (·.1)=false:=by rfl) :
  PE X (.Call (.Name x p) (e :: es) [] pos) (teM K QX E (mCall F QX Ms)):=PE.imp (jb8 G' hr hg hm hk hb (dvs:=[]) .nil hx ha hdb he hpl) fun σ H Q ⟨w,O,sl,Q0,c,m,q⟩=>⟨w,O,sl,_,c,m,fun xs O1 vs w1 H1 h1 e1 r1 a1=>by
 show sp (vs ++ []) H1 Q E
 rw [List.append_nil]
 exact lk w1 O1 H1 vs xs _ QX Q E r1 a1 h1 (fun z z' O3 w3 H3 h3 e3 r3 a3=>q _ O3 z w3 H3 h3 (e1.trans e3) r3 a3) fun k O' w' H' qx e' r'=>c.zx k O' w' H' qx (e1.ex.trans e') r'⟩
def noX:Addr→Sto→Prop:=fun _ _=>False
theorem jb4 {k:Nat} {f:Addr} {fd:FuncData} {ps:List Str} {sp:Sp} {F:FM} {x:Str} {e:Expr} {es:List Expr} {p pos:Pos} {Ms:MA} (G':FnOk X.prog X.w X.K X.mg X.base CX0 k f fd ps sp) (lk:LkS K sp F) (hr:Room k X.A) (hg:Gl X x) (hm:X.mg x=some (.ref f)) (hk:PySem.W.keepIn X.K (.ref f)=true) (hb:Binds X.K fd ps [])
  (ha:PA X (e :: es) (taM K QX E Ms)) (hdb:(x == ("__debug__" : Str))=false:=by decide) (he:starEach (e :: es) X.env=(false,eval e X.env) :: starEach es X.env:=by rfl) (hpl:(backTo pos (starEach es X.env)).any (·.1)=false:=by rfl) :
  PE X (.Call (.Name x p) (e :: es) [] pos) (teM K QX E (mCall F noX Ms)):=PE.imp (jb8 G' hr hg hm hk hb (dvs:=[]) .nil pass0 ha hdb he hpl) fun σ H Q ⟨w,O,sl,Q0,c,m,q⟩=>⟨w,O,sl,_,c,m,fun xs O1 vs w1 H1 h1 e1 r1 a1=>by
 show sp (vs ++ []) H1 Q E0
 rw [List.append_nil]
 exact lk w1 O1 H1 vs xs _ noX Q E0 r1 a1 h1 (fun z z' O3 w3 H3 h3 e3 r3 a3=>q _ O3 z w3 H3 h3 (e1.trans e3) r3 a3) fun k O' w' H' qx e' r'=>qx.elim⟩
def startS (N:List Str) (xs:List AV):Slt:=xs.map some ++ List.replicate (N.length - xs.length) none
theorem slots_start {N:List Str} {vs:List V} {xs:List AV} {g:Hp} (a:AVrs K w g vs xs):Slots K w g (L2.start N vs) (startS N xs):=by
 unfold L2.start startS
 refine ⟨by simp [a.1],fun i x hx=>?_⟩
 rcases Nat.lt_or_ge i xs.length with y | y
 ·rw [List.getElem?_append_left (by simpa using y),List.getElem?_map,List.getElem?_eq_getElem y] at hx
  have ex:xs[i]=x:=by injection (Option.some.inj hx)
  have yv:i < vs.length:=by rw [a.1]; exact y
  refine ⟨vs[i],?_,a.2 i _ x (List.getElem?_eq_getElem yv) (by rw [List.getElem?_eq_getElem y,ex])⟩
  rw [List.getElem?_append_left (by simpa using yv),List.getElem?_map,List.getElem?_eq_getElem yv]; rfl
 ·rw [List.getElem?_append_right (by simpa using y),List.getElem?_replicate] at hx
  split at hx
  ·cases Option.some.inj hx
  ·cases hx
variable {P:Program} {wo:World} {mg:Str→Option Value} {base:Heap}
theorem okM {x qual:Str} {st:Stmt} {f:Addr} {fd:FuncData} {N ps:List Str} {k:Nat} {F:FM} (U:Fun K x qual st f fd) (S:FnScope N ps (ja3 st)) (hl:∀ O xs P PX,F O xs P PX→xs.length=ps.length)
  (hb:∀ (cdv:Value) (A:Around) (outer:List Env) (s:Shared) (H:Hp) (E:XK) (QX:Addr→Sto→Prop),Room k (A.deeper (PyProof.Rows.envOfC qual (ja3 st) s.heap.objs.size f cdv)) →
   ∃ M,PSs (cxOf CX0 P wo K mg base N qual (ja3 st) f cdv A outer s H E).nox (je2 st) (tsM K QX E M)∧∀ O xs Pq,F O xs Pq QX→M { nx:=fun _ O'=>Pq (.im .none) O',rt:=Pq } (startS N xs) O):FnOk P wo K mg base CX0 (k + 1) f fd ps (spM K F):=by
 refine U.ok S (fun vs H Q E ⟨w,O,xs,P,PX,r,a,h,q⟩=>by rw [a.1]; exact hl O xs P PX h) (fun cdv A outer s H vs Q E hr ⟨w,O,xs,P',PX,r,a,h,q,x⟩=>?_)
 obtain ⟨M,hM,hq⟩:=hb cdv A outer s H E PX hr
 exact ⟨_,hM,w,O,startS N xs,_,⟨r,slots_start a,x⟩,hq O xs P' h,fun sl' O' w' H' σ' h' c' e'=>q _ _ O' w' H' h' e' c'.ro .non,fun sl' O' w' H' σ' h' c' e'=>h'.elim,fun sl' O' w' H' σ' h' c' e'=>h'.elim,fun x' O' w' H' v h' e' r' a'=>q v x' O' w' H' h' e' r' a'⟩
theorem okMX {x qual:Str} {st:Stmt} {f:Addr} {fd:FuncData} {N ps:List Str} {k:Nat} {F:FM} (U:Fun K x qual st f fd) (S:FnScope N ps (ja3 st)) (hl:∀ O xs P PX,F O xs P PX→xs.length=ps.length)
  (hb:∀ (cdv:Value) (A:Around) (outer:List Env) (s:Shared) (H:Hp) (E:XK) (QX:Addr→Sto→Prop),Room k (A.deeper (PyProof.Rows.envOfC qual (ja3 st) s.heap.objs.size f cdv)) →
   ∃ M,PSs (cxOf (CXF P wo) P wo K mg base N qual (ja3 st) f cdv A outer s H E) (je2 st) (tsM K QX E M)∧∀ O xs Pq,F O xs Pq QX→M { nx:=fun _ O'=>Pq (.im .none) O',rt:=Pq } (startS N xs) O):FnOk P wo K mg base (CXF P wo) (k + 1) f fd ps (spM K F):=by
 refine U.okX S (fun vs H Q E ⟨w,O,xs,P,PX,r,a,h,q⟩=>by rw [a.1]; exact hl O xs P PX h) (fun cdv A outer s H vs Q E hr ⟨w,O,xs,P',PX,r,a,h,q,x⟩=>?_)
 obtain ⟨M,hM,hq⟩:=hb cdv A outer s H E PX hr
 exact ⟨_,hM,w,O,startS N xs,_,⟨r,slots_start a,x⟩,hq O xs P' h,fun sl' O' w' H' σ' h' c' e'=>q _ _ O' w' H' h' e' c'.ro .non,fun sl' O' w' H' σ' h' c' e'=>h'.elim,fun sl' O' w' H' σ' h' c' e'=>h'.elim,fun x' O' w' H' v h' e' r' a'=>q v x' O' w' H' h' e' r' a'⟩
def mApp (Mo:ME) (Ms:MA):ME:=fun sl O Q=>Mo sl O fun o O1=>match o with
 | .own k=>(∃ c,O1[k]?=some (some c))∧Ms sl O1 fun xs O2=>match xs with
  | [y]=>∃ c,O2[k]?=some (some c)∧c.length < sizeLine∧Q (.im .none) (O2.set k (some (c ++ [y])))
  | _=>False
 | _=>False
end
end MI
namespace MI
open PySem L2 KG EX KM
section
variable {K:PySem.W.Frag} {QX:Addr→Sto→Prop} {E:XK} {X:Cx} {w:Wd} {O:Sto} {H:Hp}
theorem me_app {o e:Expr} {Mo:ME} {Ms:MA} {apos cpos:Pos} (ho:PE X o (teM K QX E Mo)) (ha:PA X [e] (taM K QX E Ms))
  (hbase:attributeBase o "append" X.env (eval o X.env)=eval o X.env:=by rfl)
  (hfew:((backTo cpos (starEach [e] X.env)).all (fun x=>!x.1) && (backToKw cpos (keywordEach [] X.env)).all (fun x=>x.1.isSome)
   && decide ([e].length + ([]:List Keyword).length + (if ([]:List Keyword).isEmpty then 0 else 1) < 30))=true:=by rfl)
  (hline:(apos.endLine == cpos.line)=true:=by rfl) (hs:starEach [e] X.env=(false,eval e X.env) :: starEach [] X.env:=by rfl) (hplain:(backTo cpos (starEach [] X.env)).any (·.1)=false:=by rfl) :
  PE X (.Call (.Attribute o "append" apos) [e] [] cpos) (teM K QX E (mApp Mo Ms)):=PE.imp (peBm0 PySem.F.plainAttrs_list PySem.F.slot_list_append PySem.F.type_list_append mt_append ho ha hbase hfew hline hs hplain) fun σ H Q ⟨w,O,sl,Q0,c,m,q⟩=>⟨w,O,sl,_,c,m,fun o' O1 v w1 H1 h1 e1 r1 a1=>by
 split at h1
 ·obtain ⟨⟨c0,hc0⟩,h1⟩:=h1
  obtain ⟨p,hp,rfl⟩:=a1
  refine ⟨.inl ⟨rfl,?_⟩,w1,O1,sl,_,c.ex e1.ex r1,h1,fun xs O2 vs w2 H2 h2 e2 r2 a2=>?_⟩
  ·obtain ⟨p1,us',h0,g1,t1⟩:=r1.cel _ _ hc0
   rw [hp] at h0
   cases Option.some.inj h0
   exact ⟨us',SqL.of g1⟩
  ·split at h2
   ·obtain ⟨c',hc',h2⟩:=h2
    obtain ⟨v1,us,rfl,b1,b2⟩:=a2.uncons
    rw [b2.unnil]
    obtain ⟨p1,us',h0,g1,t1⟩:=r2.cel _ _ hc'
    rw [e2.ex.at hp] at h0
    cases Option.some.inj h0
    obtain ⟨r3,e3⟩:=r2.put hc' (e2.ex.at hp) g1 (t1.app (AVrs.cons b1 AVrs.nil))
    exact ⟨_,us',v1,rfl,rfl,g1,by rw [t1.1]; exact h2.1,q _ _ _ _ _ h2.2 ((e1.trans e2).trans e3) r3 .non⟩
   ·exact h2.elim
 ·exact h1.elim⟩
structure Less (O O':Sto):Prop where
 len:O'.length=O.length
 at':∀ j:Nat,O'[j]?=O[j]? ∨ O'[j]?=some none
theorem Less.refl (O:Sto):Less O O:=⟨rfl,fun _=>.inl rfl⟩
theorem Less.set {O O':Sto} (h:Less O O') (k:Nat):Less O (O'.set k none):=⟨by rw [List.length_set]; exact h.len,fun j=>by
 by_cases e:k=j
 ·subst e
  rcases Nat.lt_or_ge k O'.length with y | y
  ·exact .inr (List.getElem?_set_self y)
  ·rw [List.set_eq_of_length_le y]; exact h.at' k
 ·rw [List.getElem?_set_ne e]; exact h.at' j⟩
theorem RelO.less (r:RelO K w O H) {O':Sto} (h:Less O O'):RelO K w O' H∧Ext w O H w O' H∧∀ (j:Nat) a,O'[j]?=some none→w.ads[j]?=some a→G w O' H a=H a:=by
 have back:∀ (j:Nat) c,O'[j]?=some (some c)→O[j]?=some (some c):=fun j c hj=>by
  rcases h.at' j with e | e
  ·rw [← e]; exact hj
  ·rw [e] at hj; cases Option.some.inj hj
 have hhid:∀ x,Hid w O' x→Hid w O x:=fun x h=>by
  rcases h with h | h | ⟨j,d,h1,h2⟩
  ·exact .inl h
  ·exact .inr (.inl h)
  ·exact .inr (.inr ⟨j,d,h1,back j d h2⟩)
 have sg:Stay (G w O H) (G w O' H):=fun x o h=>by
  obtain ⟨h1,h2⟩:=G_in h
  rw [G_of (fun z=>h2 (hhid x z))]; exact h1
 have e:Ext w O H w O' H:=⟨⟨⟨[],by simp⟩,⟨[],by simp⟩,⟨[],by simp⟩,sg⟩,rfl⟩
 refine ⟨⟨by rw [h.len]; exact r.len,r.nd,r.al,r.nb,r.hn,r.nh,r.bg,fun j d hj=>?_⟩,e,fun j a hj ha=>?_⟩
 ·obtain ⟨a',us,h1,h2,h3⟩:=r.cel j d (back j d hj)
  exact ⟨a',us,h1,h2,h3.ex e.ex⟩
 ·rw [G_of]
  rintro (h1 | ⟨o,h1⟩ | ⟨i,d,h1,h2⟩)
  ·exact r.nb _ h1 (List.mem_of_getElem? ha)
  ·exact (r.nh _ h1).1 (List.mem_of_getElem? ha)
  ·have:j=i:=(List.getElem?_inj (List.getElem?_eq_some_iff.mp ha).1 r.nd).mp (ha.trans h1.symm)
   subst this
   rw [hj] at h2; cases Option.some.inj h2
theorem RelO.cellD (r:RelO K w O H) {O':Sto} (h:Less O O') {k:Nat} {ds:List PyData} {a:Addr} (hk:O[k]?=some (some (ds.map .im))) (hk':O'[k]?=some none) (ha:w.ads[k]?=some a):TrG (G w O' H) (.ref a) (.list ds):=by
 obtain ⟨r1,e1,g1⟩:=r.less h
 obtain ⟨a',vs,h1,h2,h3⟩:=r.cel k _ hk
 rw [ha] at h1
 cases Option.some.inj h1
 exact .lst (xs:=vs) (by rw [g1 k a hk' ha]; exact h2) (AVrs.tr (h3.ex e1.ex))
theorem set_self {α : Type} {xs:List α} {i:Nat} {x:α} (h:xs[i]?=some x):xs.set i x=xs:=by
 apply List.ext_getElem?
 intro j
 by_cases e:i=j
 ·subst e; rw [List.getElem?_set_self (List.getElem?_eq_some_iff.mp h).1,h]
 ·rw [List.getElem?_set_ne e]
def mFrz (i:Nat) (M:MS):MS:=fun D sl O=>∃ (k:Nat) (ds:List PyData),sl[i]?=some (some (.own k))∧O[k]?=some (some (ds.map .im))∧M D (sl.set i (some (.im (.list ds)))) (O.set k none)
theorem ms_frz (i:Nat) {sts:List Stmt} {M:MS} (h:PSs X sts (tsM K QX E M)):PSs X sts (tsM K QX E (mFrz i M)):=PSs.imp h fun D σ H ⟨w,O,sl,D0,c,⟨k,ds,h1,h2,m⟩,hn,hb,hc,hr⟩=>by
 have hL:=(Less.refl O).set k
 obtain ⟨r1,e1,_⟩:=c.ro.less hL
 obtain ⟨v,hv,a,ha,rfl⟩:=c.so.2 i _ h1
 have t:=c.ro.cellD hL h2 (List.getElem?_set_self (List.getElem?_eq_some_iff.mp h2).1) ha
 have c2:=(c.ex e1.ex r1).put (x:=.im (.list ds)) t i
 rw [set_self hv] at c2
 exact ⟨w,_,_,D0,c2,m,fun sl2 O2 w2 H2 σ2 h2 c2 e2=>hn sl2 O2 w2 H2 σ2 h2 c2 (e1.trans e2),fun sl2 O2 w2 H2 σ2 h2 c2 e2=>hb sl2 O2 w2 H2 σ2 h2 c2 (e1.trans e2),fun sl2 O2 w2 H2 σ2 h2 c2 e2=>hc sl2 O2 w2 H2 σ2 h2 c2 (e1.trans e2),fun x O2 w2 H2 v h2 e2 r2 a2=>hr x O2 w2 H2 v h2 (e1.trans e2) r2 a2⟩
def mNeg (M:ME):ME:=fun sl O Q=>M sl O fun x O1=>match x with
 | .im (.int i)=>Q (.im (.int (-i))) O1
 | _=>False
theorem me_neg {a:Expr} {M:ME} {pos:Pos} (h:PE X a (teM K QX E M)):PE X (.UnaryOp .USub a pos) (teM K QX E (mNeg M)):=PE.imp (pe_un un_neg h) fun σ H Q ⟨w,O,sl,Q0,c,m,q⟩=>⟨w,O,sl,_,c,m,fun x O1 v w1 H1 h1 e1 r1 a1=>by
 split at h1
 ·exact ⟨_,jg4 a1,q _ O1 _ w1 H1 h1 e1 r1 (.int _)⟩
 ·exact h1.elim⟩
def fTake:FM:=fun O xs P _=>match xs with
 | [.bag _,.im (.int m)]=>(0 < m∧m < 1073741824)∧∀ r:Int,0 ≤ r→r < m→P (.im (.int r)) O
 | _=>False
theorem lk_take:LkS K spTake fTake:=fun w O H vs xs P PX Q E r a hf q x=>by
 unfold fTake at hf
 split at hf
 ·obtain ⟨v,us,rfl,h1,h2⟩:=a.uncons
  obtain ⟨v2,us2,rfl,h3,h4⟩:=h2.uncons
  rw [h4.unnil]
  obtain ⟨b,hb,rfl⟩:=h1
  rw [jg4 h3]
  have hbm:=List.mem_of_getElem? hb
  refine ⟨b,_,rfl,r.bg b hbm,hf.1.1,hf.1.2,fun i H' h0 hm hB hK=>?_⟩
  obtain ⟨r1,e1,_⟩:=r.draw hbm hK hB
  exact q _ _ O w H' (hf.2 i h0 hm) e1 r1 (.int _)
 ·exact hf.elim
def fBag:FM:=fun O xs P _=>match xs with
 | [.scr _,.im (.int k)]=>(0 ≤ k∧k < 100)∧∀ j,P (.bag j) O
 | _=>False
theorem lk_bag:LkS K (spBag K) fBag:=fun w O H vs xs P PX Q E r a hf q x=>by
 unfold fBag at hf
 split at hf
 ·obtain ⟨v,us,rfl,h1,h2⟩:=a.uncons
  obtain ⟨v2,us2,rfl,h3,h4⟩:=h2.uncons
  rw [h4.unnil]
  obtain ⟨b,rfl,hb⟩:=h1
  rw [jg4 h3]
  refine ⟨b,_,_,rfl,KG.SqL.stay hb g_le,hf.1.1,hf.1.2,fun p c d hp=>?_⟩
  obtain ⟨r1,e1⟩:=r.bag (x:=c) (y:=d) hp
  exact q _ _ O _ _ (hf.2 w.bags.length) e1 r1 ⟨p,by simp,rfl⟩
 ·exact hf.elim
theorem new_q (r:RelO K w O H) {p:Addr} {q:Rat} (hp:H p=none):RelO K w O (upd H p (qO q))∧Ext w O H w O (upd H p (qO q))∧TrG (G w O (upd H p (qO q))) (.ref p) (qD q):=new_tup r hp (.cons (.int _) (.cons (.int _) .nil))
def fLf:FM:=fun O xs P _=>match xs with
 | [.im (.int t),.im (.int u)]=>(0 < u∧Bd 8000 u)∧P (.im (qD (Rat.divInt t u))) O
 | _=>False
theorem lk_lf:LkS K spLf fLf:=fun w O H vs xs P PX Q E r a hf q x=>by
 unfold fLf at hf
 split at hf
 ·obtain ⟨v,us,rfl,h1,h2⟩:=a.uncons
  obtain ⟨v2,us2,rfl,h3,h4⟩:=h2.uncons
  rw [h4.unnil,jg4 h1,jg4 h3]
  refine ⟨_,_,rfl,hf.1.1,hf.1.2,fun p hp=>?_⟩
  obtain ⟨r1,e1,t1⟩:=new_q r hp
  exact q _ _ O w _ hf.2 e1 r1 t1
 ·exact hf.elim
end
end MI
namespace MI
open PySem L2 KG EX KM
section
variable {n:Nat} {ix:List Nat} {items:List AV} {M:ME} {C:MT} {sl:Slt} {O:Sto} {Q:AV→Sto→Prop}
theorem comp_all (R:Nat→PyData→Prop) (hl:items.length ≤ 1000000)
  (hs:∀ (i:Nat) x (Z:AV→Sto→Prop),items[i]?=some x→(∀ d,R i d→Z (.im d) O)→M ((blkS n ix sl).set 0 (some x)) O Z)
  (hd:∀ ds:List PyData,ds.length=items.length→(∀ j,j < ds.length→R j (ds.getD j .none))→Q (.im (.list ds)) O):CB n ix (mgN 0) mYes M sl Q items O:=by
 refine ⟨hl,fun i ds O'=>O'=O∧ds.length=i∧∀ j,j < ds.length→R j (ds.getD j .none),⟨rfl,rfl,fun j hj=>absurd hj (by simp)⟩,?_,fun ds O' ⟨e,h1,h2⟩=>e ▸ hd ds h1 h2⟩
 rintro i x ds O' hx ⟨rfl,hli,hR⟩
 refine ⟨fun _=>hs i x _ hx fun d hdR=>⟨rfl,by simp [hli],fun j hj=>?_⟩,fun z=>by cases z⟩
 rcases Nat.lt_or_ge j ds.length with y | y
 ·have:(ds ++ [d]).getD j .none=ds.getD j .none:=by simp [List.getD,List.getElem?_append_left y]
  rw [this]; exact hR j y
 ·have hj':j=ds.length:=by simp at hj; omega
  subst hj'
  have:(ds ++ [d]).getD ds.length .none=d:=by simp [List.getD]
  rw [this,hli]; exact hdR
theorem list_ix {ds:List PyData} {f:Nat→PyData} (h:∀ j,j < ds.length→ds.getD j .none=f j):ds=(List.range ds.length).map f:=by
 apply List.ext_getElem?
 intro j
 rw [List.getElem?_map]
 rcases Nat.lt_or_ge j ds.length with y | y
 ·rw [List.getElem?_range y,Option.map_some,← h j y,jc8 (List.getElem?_eq_getElem y)]; exact List.getElem?_eq_getElem y
 ·rw [List.getElem?_eq_none y,List.getElem?_eq_none (by simpa using y)]; rfl
theorem jf2 (f:Nat→PyData) (hl:items.length ≤ 1000000)
  (hs:∀ (i:Nat) x (Z:AV→Sto→Prop),items[i]?=some x→Z (.im (f i)) O→M ((blkS n ix sl).set 0 (some x)) O Z)
  (hd:Q (.im (.list ((List.range items.length).map f))) O):CB n ix (mgN 0) mYes M sl Q items O :=
 comp_all (fun i d=>d=f i) hl (fun i x Z hx h=>hs i x Z hx (h _ rfl)) fun ds h1 h2=>by rw [list_ix h2,h1]; exact hd
theorem comp_filt (c:Nat→Bool) (f:Nat→PyData) (hl:items.length ≤ 1000000)
  (hc:∀ (i:Nat) x (Z:Bool→Sto→Prop),items[i]?=some x→Z (c i) O→C ((blkS n ix sl).set 0 (some x)) O Z)
  (hs:∀ (i:Nat) x (Z:AV→Sto→Prop),items[i]?=some x→c i=true→Z (.im (f i)) O→M ((blkS n ix sl).set 0 (some x)) O Z)
  (hd:Q (.im (.list (((List.range items.length).filter c).map f))) O):CB n ix (mgN 0) C M sl Q items O:=by
 refine ⟨hl,fun i ds O'=>O'=O∧ds=((List.range i).filter c).map f,⟨rfl,rfl⟩,?_,fun ds O' ⟨e,h1⟩=>by rw [e,h1]; exact hd⟩
 rintro i x ds O' hx ⟨rfl,rfl⟩
 exact hc i x _ hx ⟨fun h=>hs i x _ hx h ⟨rfl,by rw [filt_snoc,h,if_pos rfl]⟩,fun h=>⟨rfl,by rw [filt_snoc,h,if_neg (by decide),List.append_nil]⟩⟩
theorem rng_at {lo:Int} {n i:Nat} {x:AV} (h:(rngI lo n)[i]?=some x):i < n∧x=.im (.int (lo + (i:Int))):=by
 unfold rngI at h
 have hi:i < n:=by have:=(List.getElem?_eq_some_iff.mp h).1; simpa using this
 rw [List.getElem?_map,List.getElem?_range hi] at h
 exact ⟨hi,(Option.some.inj h).symm⟩
theorem rng_at0 {n i:Nat} {x:AV} (h:(rngI 0 n)[i]?=some x):i < n∧x=.im (.int (i:Int)):=by
 obtain ⟨h1,h2⟩:=rng_at h; exact ⟨h1,by rw [h2,Int.zero_add]⟩
theorem dI {i j:Int}:min (PyData.int i).depth (PyData.int j).depth ≤ 60:=by show min 0 0 ≤ 60; decide
theorem len1 {α : Type} {x:α}:[x].length ≤ sizeLine:=by show 1 ≤ sizeLine; decide
theorem len2 {α : Type} {x y:α}:[x,y].length ≤ sizeLine:=by show 2 ≤ sizeLine; decide
theorem len3 {α : Type} {x y z:α}:[x,y,z].length ≤ sizeLine:=by show 3 ≤ sizeLine; decide
def Grew (O O':Sto):Prop:=∃ t,O'=O ++ t
def mkD (A:List Int) (Pu:List Rat) (W:List (List Int)):PyData:=.tuple [.tuple (A.map .int),.tuple (Pu.map qD),.tuple (W.map rowD)]
theorem map_at {α β : Type} {f:α→β} {xs:List α} {j:Nat} {d:α} (h:j < xs.length):(xs.map f)[j]?=some (f (xs.getD j d)):=by
 rw [List.getElem?_map,List.getElem?_eq_getElem h,jc8 (List.getElem?_eq_getElem h)]; rfl
end
end MI
namespace MI
open PySem L2 KG EX KM
section
variable {K:PySem.W.Frag} {QX:Addr→Sto→Prop} {E:XK} {X:Cx} {w:Wd} {O:Sto} {H:Hp}
theorem PE.mimp {e:Expr} {M M':ME} (h:PE X e (teM K QX E M)) (i:∀ sl O Q,M' sl O Q→M sl O Q):PE X e (teM K QX E M'):=PE.imp h fun σ H Q ⟨w,O,sl,Q0,c,m,q⟩=>⟨w,O,sl,Q0,c,i sl O Q0 m,q⟩
theorem PA.mimp {es:List Expr} {M M':MA} (h:PA X es (taM K QX E M)) (i:∀ sl O Q,M' sl O Q→M sl O Q):PA X es (taM K QX E M'):=PA.imp h fun σ H Q ⟨w,O,sl,Q0,c,m,q⟩=>⟨w,O,sl,Q0,c,i sl O Q0 m,q⟩
theorem ims_map:∀ ds:List PyData,ims (ds.map .im)=some ds
 | []=>rfl
 | d :: ds=>by show (match ims (ds.map .im) with | some ds=>some (d :: ds) | none=>none)=_; rw [ims_map ds]
abbrev powF:MF2:=int2 CPow fun i j=>.int (i ^ j.toNat)
theorem mo_pow {Ma Mb:ME} {a b:Expr} {pos:Pos} (ha:PE X a (teM K QX E Ma)) (hb:PE X b (teM K QX E Mb)):PE X (.BinOp a .Pow b pos) (teM K QX E (mOp powF Ma Mb)):=me_op op_pow (lk_int2 fun _ _ _=>.int _) ha hb
def mCs (ds:List PyData):MA:=fun _ O Q=>Q (ds.map .im) O
theorem ma_lits {n:Nat} (ih:∀ (e:Expr) (d:PyData),lit (fun _=>none) n e=some d→PE X e (teM K QX E (mC d))):∀ (es:List Expr) (ds:List PyData),litL (lit (fun _=>none) n) es=some ds→PA X es (taM K QX E (mCs ds))
 | [],ds,h=>by
  simp [litL] at h; subst h
  exact PA.mimp ja4 fun sl O Q q=>q
 | e :: es,ds,h=>by
  unfold litL at h
  split at h
  ·next d ds' h1 h2 =>
   cases h
   exact PA.mimp (ja0 (ih e d h1) (ma_lits ih es ds' h2) (lit_star h1)) fun sl O Q q=>q
  ·cases h
theorem me_lit:∀ (n:Nat) (e:Expr) (d:PyData),lit (fun _=>none) n e=some d→PE X e (teM K QX E (mC d)):=by
 intro n
 induction n with
 | zero=>intro e d h; cases h
 | succ n ih =>
  intro e d h
  have h:litS (fun _=>none) (lit (fun _=>none) n) e=some d:=h
  unfold litS at h
  split at h
  ·cases h
  ·cases h; exact ja9
  ·cases h; exact me_bl
  ·cases h; exact jh1
  ·split at h
   ·next ok=>cases h; exact jb6 ok
   ·cases h
  ·split at h
   ·next i e1=>cases h; exact PE.mimp (me_neg (ih _ _ e1)) fun sl O Q q=>q
   ·cases h
  ·split at h
   ·next i j e1 e2=>cases h; exact PE.mimp (jd9 (ih _ _ e1) (ih _ _ e2)) fun sl O Q q=>q
   ·cases h
  ·split at h
   ·next i j e1 e2=>cases h; exact PE.mimp (mo_sub (ih _ _ e1) (ih _ _ e2)) fun sl O Q q=>q
   ·cases h
  ·split at h
   ·next i j e1 e2 =>
    split at h
    ·next hc=>cases h; exact PE.mimp (mo_pow (ih _ _ e1) (ih _ _ e2)) fun sl O Q q=>⟨hc,q⟩
    ·cases h
   ·cases h
  ·split at h
   ·next hl =>
    obtain ⟨ds,e1,rfl⟩:=Option.map_eq_some_iff.mp h
    refine PE.mimp (me_tup (ma_lits ih _ _ e1)) fun sl O Q q=>?_
    show (match ims (ds.map .im) with | some ds=>ds.length ≤ sizeLine∧Q (.im (.tuple ds)) O | none=>False)
    rw [ims_map]
    exact ⟨by rw [litL_len e1,sz]; omega,q⟩
   ·cases h
  ·split at h
   ·next hl =>
    obtain ⟨ds,e1,rfl⟩:=Option.map_eq_some_iff.mp h
    refine PE.mimp (jf1 (ma_lits ih _ _ e1)) fun sl O Q q=>?_
    show (match ims (ds.map .im) with | some ds=>ds.length ≤ sizeLine∧Q (.im (.list ds)) O | none=>False)
    rw [ims_map]
    exact ⟨by rw [litL_len e1,sz]; omega,q⟩
   ·cases h
  ·cases h
section
variable {e:Expr} {M:ME} {p p2 pos:Pos}
end
theorem cutD_from {xs:List PyData} {r:Int} (h0:0 ≤ r) (h1:r ≤ xs.length):cutD xs (some r) none=xs.drop r.toNat:=by
 have e1:HT.sIx xs.length 0 (some r)=r.toNat:=by
  show (if r < 0 then (r + (xs.length:Int)).toNat else min r.toNat xs.length)=_
  rw [if_neg (by omega)]; omega
 unfold cutD
 rw [HT.sIx_none,e1,List.take_of_length_le]
 rw [List.length_drop]; omega
mutual
theorem TrG.far {g:Hp}:∀ {v:V} {d:PyData},TrG g v d→∃ n:Nat,∀ b,n ≤ b→TrV b g v d
 | _,_,.non=>⟨0,fun b _=>.non⟩
 | _,_,.bl c=>⟨0,fun b _=>.bl c⟩
 | _,_,.int i=>⟨0,fun b _=>.int i⟩
 | _,_,.str x o=>⟨0,fun b _=>.str x o⟩
 | _,_,.lst (a:=a) h t=>by
  obtain ⟨n,hn⟩:=TrGs.far t
  exact ⟨n + a + 1,fun b hb=>.lst (Nat.ne_of_lt (by omega)) h (hn b (by omega))⟩
 | _,_,.tup h t=>by
  obtain ⟨n,hn⟩:=TrGs.far t
  exact ⟨n,fun b hb=>.tup h (hn b hb)⟩
theorem TrGs.far {g:Hp}:∀ {vs:List V} {ds:List PyData},TrGs g vs ds→∃ n:Nat,∀ b,n ≤ b→TrVs b g vs ds
 | _,_,.nil=>⟨0,fun b _=>.nil⟩
 | _,_,.cons h t=>by
  obtain ⟨n,hn⟩:=TrG.far h
  obtain ⟨m,hm⟩:=TrGs.far t
  exact ⟨n + m,fun b hb=>.cons (hn b (by omega)) (hm b (by omega))⟩
end
theorem avs1 {vs:List V} {x:AV} {g:Hp} (a:AVrs K w g vs [x]):∃ v,vs=[v]∧AVr K w g v x:=by
 obtain ⟨v,us,rfl,h1,h2⟩:=a.uncons
 rw [h2.unnil]; exact ⟨v,rfl,h1⟩
def fT (m:PyData→Bool):FM:=fun O xs P _=>match xs with
 | [.im d]=>P (.im (.bool (m d))) O
 | _=>False
theorem lk_T {m:PyData→Bool}:LkS K (spT m) (fT m):=fun w O H vs xs P PX Q E r a hf q x=>by
 unfold fT at hf
 split at hf
 ·obtain ⟨v,rfl,h1⟩:=avs1 a
  obtain ⟨n,hn⟩:=TrG.far (TrG.stay g_le h1)
  refine ⟨n,v,_,rfl,hn n (Nat.le_refl _),fun H' s=>?_⟩
  obtain ⟨r1,e1,_⟩:=r.stay s
  exact q _ _ O w H' hf e1 r1 (.bl _)
 ·exact hf.elim
theorem noLs_map {α : Type} {f:α→PyData} (h:∀ a,noL (f a)=true):∀ xs:List α,noLs (xs.map f)=true
 | []=>rfl
 | a :: xs=>by show (noL (f a) && noLs (xs.map f))=true; rw [h a,noLs_map h xs]; rfl
theorem noL_q (q:Rat):noL (qD q)=true:=rfl
theorem noL_row (r:List Int):noL (rowD r)=true:=noLs_map (f:=PyData.int) (fun _=>rfl) r
theorem noL_mk (A:List Int) (Pu:List Rat) (W:List (List Int)):noL (mkD A Pu W)=true:=by
 show (noLs (A.map .int) && (noLs (Pu.map qD) && (noLs (W.map rowD) && true)))=true
 rw [noLs_map (f:=PyData.int) (fun _=>rfl),noLs_map noL_q,noLs_map noL_row]; rfl
theorem toG {v:V} {d:PyData} {b:Addr} (r:RelO K w O H) (h:TrV b H v d) (n:noL d=true):TrG (G w O H) v d:=trv_trg r.tups n h
end
end MI
namespace MI
open PySem L2 KG EX KM
section
variable {K:PySem.W.Frag} {w:Wd} {O:Sto} {H:Hp}
theorem rowsOf_row (W:List (List Int)):rowsOf (W.map rowD)=W:=by
 unfold rowsOf; rw [List.map_map]
 have:(rowOf ∘ rowD)=id:=funext fun r=>by
  show (r.map PyData.int).map intOf=r
  rw [List.map_map]
  have:(intOf ∘ PyData.int)=id:=rfl
  rw [this,List.map_id]
 rw [this,List.map_id]
def fLaw:FM:=fun O xs P _=>∃ ns:List Int,xs=[.scr ns]∧ns.length ≤ 63∧∀ O',P (.im (.bool true)) O'
theorem law_of {Pg:Program} {wo:World} {mg:Str→Option Value} {base:Heap} {k:Nat} {f:Addr} {fd:FuncData} (F:FnOk Pg wo K mg base CX0 k f fd ["script"] (spM K fLaw)):FnOk Pg wo K mg base CX0 k f fd ["script"] (spLaw K):=F.imp fun vs H Q E ⟨a,ns,e,hS,hl,hq⟩=>by
 subst e
 have hid:∀ x,¬ Hid ⟨[],[],[]⟩ [] x:=fun x h=>by
  rcases h with h | ⟨o,h⟩ | ⟨k,c,h,_⟩
  ·cases h
  ·cases h
  ·simp at h
 have sg:Stay H (G ⟨[],[],[]⟩ [] H):=fun x o h=>by rw [G_of (hid x)]; exact h
 refine ⟨⟨[],[],[]⟩,[],[.scr ns],fun z _=>z=.im (.bool true),fun _ _=>False,⟨rfl,List.nodup_nil,fun a h=>(by cases h),fun a h=>(by cases h),List.nodup_nil,fun p h=>(by cases h),fun a h=>(by cases h),fun k c h=>by simp at h⟩,AVrs.cons ⟨a,rfl,KG.SqL.stay hS sg⟩ AVrs.nil,⟨ns,rfl,hl,fun O'=>rfl⟩,fun z q O' w' H' hz e r av=>?_,fun c O' w' H' h=>h.elim⟩
 subst hz
 rw [g_bl av]
 exact hq H'
end
end MI
namespace MI
open PySem L2 KG EX KM
end MI
namespace MI
open PySem L2 KG EX KM
theorem jd6 {α β : Type} (f:α→β) (xs:List α) (d:α):(List.range xs.length).map (fun i=>f (xs.getD i d))=xs.map f:=by
 apply List.ext_getElem?
 intro j
 rw [List.getElem?_map]
 rcases Nat.lt_or_ge j xs.length with y | y
 ·rw [List.getElem?_range y,map_at (d:=d) y]; rfl
 ·rw [List.getElem?_eq_none (by simpa using y),List.getElem?_eq_none (by simpa using y)]; rfl
end MI
namespace MI
open PySem L2 KG EX KM
section
variable {O O':Sto} {k1 k2 m i:Nat} {ks1 ks2:List Nat} {W D:List (List Int)}
end
end MI
namespace MI
open PySem L2 KG EX KM
end MI
namespace MI
open PySem L2 KG EX KM
section
variable {K:PySem.W.Frag} {QX:Addr→Sto→Prop} {E:XK} {X:Cx}
end
section
variable {n:Nat} {ix:List Nat} {sl:Slt} {O:Sto} {Q:AV→Sto→Prop}
end
end MI
namespace MI
open PySem L2 KG EX KM
end MI
namespace MI
open PySem L2 KG EX KM
end MI
namespace MI
open PySem L2 KG EX KM
section
variable {K:PySem.W.Frag}
end
section
variable {A:List Int} {Pu qs:List Rat} {W:List (List Int)} {D:List (List Rat)} {g:Nat}
end
end MI
namespace MI
open PySem L2 KG EX KM
section
variable {K:PySem.W.Frag} {QX:Addr→Sto→Prop} {E:XK} {X:Cx}
end
section
variable {n:Nat} {ix:List Nat} {items:List AV} {M:ME} {sl:Slt} {O:Sto} {Q:AV→Sto→Prop}
end
end MI
namespace MI
open PySem L2 KG EX KM
def mRaise (QX:Addr→Sto→Prop) (C:Addr) (Ms:MA):MS:=fun D sl O=>Ms sl O fun xs O1=>xs.length ≤ sizeLine∧QX C O1
theorem ms_raise {P:Program} {w:World} {K:PySem.W.Frag} {mg:Str→Option Value} {base:Heap} {N:List Str} {qual:Str} {scope:Scope} {f:Addr} {cd:Value} {A:Around} {outer:List Env} {s₀:Shared} {H₀:Hp} {E:XK} {QX:Addr→Sto→Prop} {K':PySem.W.Frag}
  {x:Str} {C:Addr} {e:Expr} {es:List Expr} {Ms:MA} {np cpos pos:Pos} {bmB:List Value} {B newId initId:String} (FB:ExcBaseFacts B newId initId bmB) (hg:Gl (cxOf (CXF P w) P w K mg base N qual scope f cd A outer s₀ H₀ E) x) (hm:mg x=some (.ref C)) (hx:PySem.W.excIn K C bmB newId=true)
  (ha:PA (cxOf (CXF P w) P w K mg base N qual scope f cd A outer s₀ H₀ E) (e :: es) (taM K' QX E Ms)) (hd:(x == ("__debug__" : Str))=false:=by decide)
  (he:starEach (e :: es) (PyProof.Rows.envOfC qual scope s₀.heap.objs.size f cd)=(false,eval e (PyProof.Rows.envOfC qual scope s₀.heap.objs.size f cd)) :: starEach es (PyProof.Rows.envOfC qual scope s₀.heap.objs.size f cd):=by rfl)
  (hpl:(backTo cpos (starEach es (PyProof.Rows.envOfC qual scope s₀.heap.objs.size f cd))).any (·.1)=false:=by rfl) :
  PS (cxOf (CXF P w) P w K mg base N qual scope f cd A outer s₀ H₀ E) (.Raise (some (.Call (.Name x np) (e :: es) [] cpos)) none pos) (tsM K' QX E (mRaise QX C Ms)) :=
 PS.imp (ps_raise FB hg hm hx ha hd he hpl) fun D σ H ⟨w,O,sl,D0,c,m,hn,hb,hc,hr⟩=>⟨w,O,sl,_,c,m,fun xs O1 vs w1 H1 h1 e1 r1 a1=>⟨by rw [a1.1]; exact h1.1,c.3 C O1 w1 H1 h1.2 e1.ex r1⟩⟩
end MI
namespace L2
open PySem PySem.Spec PyProof.Rows EX
end L2
namespace MI
open PySem L2 KG EX KM
theorem unhide {K:PySem.W.Frag} {w w':Wd} {O O':Sto} {H H':Hp} (e:Ex0 w O H w' O' H') (r:RelO K w' O' H'):RelO K { w' with hid:=w.hid } O' H'∧Ext w O H { w' with hid:=w.hid } O' H':=by
 obtain ⟨t,ht⟩:=e.hs
 have sub:∀ p ∈ w.hid,p ∈ w'.hid:=fun p hp=>by rw [ht]; exact List.mem_append_right _ hp
 have st:Stay (G w' O' H') (G { w' with hid:=w.hid } O' H'):=fun a o h=>by
  obtain ⟨h1,h2⟩:=G_in h
  rw [G_of]
  ·exact h1
  ·rintro (z | ⟨o',z⟩ | z)
   ·exact h2 (.inl z)
   ·exact h2 (.inr (.inl ⟨o',sub _ z⟩))
   ·exact h2 (.inr (.inr z))
 refine ⟨⟨r.len,r.nd,r.al,r.nb,?_,fun p hp=>r.nh p (sub p hp),r.bg,fun k c hk=>?_⟩,⟨⟨e.bs,e.ads,⟨[],rfl⟩,e.stay.trans st⟩,rfl⟩⟩
 ·have:=r.hn
  rw [ht,List.map_append] at this
  exact (List.nodup_append.mp this).2.1
 ·obtain ⟨a,vs,h1,h2,h3⟩:=r.cel k c hk
  refine ⟨a,vs,h1,h2,?_⟩
  refine ⟨h3.1,fun i v x hv hx=>?_⟩
  have q:=h3.2 i v x hv hx
  cases x with
  | im d=>exact TrG.stay st q
  | own k=>exact q
  | bag j=>exact q
  | scr ns =>
   obtain ⟨a,e1,e2⟩:=q
   exact ⟨a,e1,KG.SqL.stay e2 st⟩
end MI
namespace MI
open PySem L2 KG EX KM
def mTryC (F:FM) (i j l:Nat) (nm:Addr→Str→Prop) (Ms:MA):MS:=fun D sl O=>Ms sl O fun xs O1=>F O1 xs (fun x O2=>D.nx (sl.set i (some x)) O2) (fun c O2=>∃ s,nm c s∧D.nx (((sl.set j none).set l (some (.im (.str s)))).set j none) O2)
def Kd (K:PySem.W.Frag) (M De Bu Dl Go Mk Nn Pr Ro Tx No Un c:Addr) (s:Str):Prop:=∃ i,i < 11∧ErrOf K M De Bu Dl Go Mk Nn Pr Ro Tx No Un c i∧s=kindS i
theorem kind_lay:∀ i:Fin 11,(PyData.str (kindS i.1)).canLay0=true:=by decide +kernel
theorem ms_tryC {X:Cx} {K:PySem.W.Frag} {QX:Addr→Sto→Prop} {E:XK} {k kk:Nat} {f fK M De Bu Dl Go Mk Nn Pr Ro Tx No Un:Addr} {fd fdK:FuncData} {ps psK:List Str} {sp:Sp} {F:FM} {x n y fn kf Cl:Str} {i j l:Nat} {e:Expr} {es:List Expr} {Ms:MA} {px fp cpos apos np py kp np2 kpos ypos hpos pos:Pos}
  (F':FnOk X.prog X.w X.K X.mg X.base (CXF X.prog X.w) k f fd ps sp) (lk:LkS K sp F) (hr:Room k X.A) (hgf:Gl X fn) (hmf:X.mg fn=some (.ref f)) (hkf:PySem.W.keepIn X.K (.ref f)=true) (hbf:Binds X.K fd ps [])
  (G:FnH X.prog X.w X.K X.mg X.base kk fK fdK psK (spKinds X.K M De Bu Dl Go Mk Nn Pr Ro Tx No Un)) (hr2:Room kk X.A) (hgk:Gl X kf) (hmk:X.mg kf=some (.ref fK)) (hkk:PySem.W.keepIn X.K (.ref fK)=true) (hbk:Binds X.K fdK psK [])
  (hgC:Gl X Cl) (hmC:X.mg Cl=some (.ref M)) (tyM:PySem.W.typeIn X.K (.ref M)=some (.type "type")) (bM:PySem.W.mroIn X.K M (.type "BaseException")=some true)
  (hst:X.stack=X.env :: X.outer) (hfr:X.env.frame=some X.env.locals) (hN:X.N.Nodup) (hi:X.N[i]?=some x) (hj:X.N[j]?=some n) (hl:X.N[l]?=some y)
  (kx:X.env.scope.names.lookup x=some .local) (kn:X.env.scope.names.lookup n=some .local) (ky:X.env.scope.names.lookup y=some .local)
  (ha:∀ E',PA (X.wish E') (e :: es) (taM K QX E Ms))
  (hs1:swapsWith (.Call (.Name fn fp) (e :: es) [] cpos) (some (.Name x px)) apos.line X.env=pure false:=by rfl)
  (hs2:swapsWith (.Call (.Name kf kp) [.Name n np2] [] kpos) (some (.Name y py)) ypos.line X.env=pure false:=by rfl)
  (d1:(fn == ("__debug__" : Str))=false:=by decide) (d2:(kf == ("__debug__" : Str))=false:=by decide) (d3:(Cl == ("__debug__" : Str))=false:=by decide) (d4:(n == ("__debug__" : Str))=false:=by decide) (d5:(n == ("__classdict__" : Str))=false:=by decide)
  (he:starEach (e :: es) X.env=(false,eval e X.env) :: starEach es X.env:=by rfl) (hpl:(backTo cpos (starEach es X.env)).any (·.1)=false:=by rfl)
  (he2:starEach [.Name n np2] X.env=[(false,eval (.Name n np2) X.env)]:=by rfl) :
  PS X (.Try [.Assign [.Name x px] (.Call (.Name fn fp) (e :: es) [] cpos) apos] [.ExceptHandler (some (.Name Cl np)) (some n) [.Assign [.Name y py] (.Call (.Name kf kp) [.Name n np2] [] kpos) ypos] hpos] [] [] pos) (tsM K QX E (mTryC F i j l (Kd X.K M De Bu Dl Go Mk Nn Pr Ro Tx No Un) Ms)) :=
 PS.imp (ps_tryCall F' hr hgf hmf hkf hbf G hr2 hgk hmk hkk hbk hgC hmC tyM bM hst hfr hN hi hj hl kx kn ky ha hs1 hs2 d1 d2 d3 d4 d5 he hpl he2) fun D σ H ⟨w,O,sl,D0,c,m,hn,hb,hc,hret⟩=>⟨w,O,sl,_,c,m,fun xs O1 vs w1 H1 h1 e1 r1 a1 =>
  lk w1 O1 H1 vs xs _ _ _ _ r1 a1 h1 (fun z x' O3 w3 H3 h3 e3 r3 a3=>hn _ O3 w3 H3 _ h3 ((c.ex (e1.trans e3).ex r3).put a3 i) (e1.trans e3)) fun c' O3 w3 H3 h3 e3 r3=>by
   obtain ⟨r4,e4⟩:=unhide e3 r3
   obtain ⟨s,⟨q,hq,er,rfl⟩,h3⟩:=h3
   refine ⟨c',rfl,er.sub,fun ea hea=>⟨q,hq,er,rfl,fun H5 s5=>?_⟩⟩
   obtain ⟨r5,e5,_⟩:=r4.stay s5
   have e15:=(e1.trans e4).trans e5
   have c5:=c.ex e15.ex r5
   exact hn _ O3 _ H5 _ h3 ⟨c5.ro,((c5.so.forget j).set (x:=.im (.str (kindS q))) (TrG.str _ (kind_lay ⟨q,hq⟩)) l).forget j,c5.zx⟩ e15⟩
mutual
theorem eqv_self:∀ d:PyData,noL d=true→PyData.eqv d d=true
 | .none,_=>by simp [PyData.eqv]
 | .bool b,_=>by simp [PyData.eqv]
 | .int i,_=>by simp [PyData.eqv]
 | .str x,_=>by simp [PyData.eqv]
 | .list ds,h=>by cases h
 | .dict ds,h=>by cases h
 | .tuple ds,h=>by
  rw [PyData.eqv]
  exact eqvs_self ds h
theorem eqvs_self:∀ ds:List PyData,noLs ds=true→PyData.eqvAll ds ds=true
 | [],_=>by simp [PyData.eqvAll]
 | d :: ds,h=>by
  have h':=(Bool.and_eq_true _ _).mp h
  rw [PyData.eqvAll,eqv_self d h'.1,eqvs_self ds h'.2]; rfl
end
theorem dep_mk (A:List Int) (Pu:List Rat) (W:List (List Int)):(mkD A Pu W).depth ≤ 4:=by
 unfold mkD
 have h1:=dep_qt Pu
 have h2:=dep_mat W
 have h3:(PyData.tuple (A.map .int)).depth ≤ 1:=dep_row A
 simp only [PyData.depth,PyData.depthAll] at h1 h2 h3 ⊢
 omega
end MI
namespace MI
open PySem L2 KG EX KM
section
variable {K:PySem.W.Frag} {QX:Addr→Sto→Prop} {E:XK} {X:Cx} {w:Wd} {O:Sto} {H:Hp}
end
end MI
namespace MI
open PySem L2 KG EX KM
section
variable {K:PySem.W.Frag} {QX:Addr→Sto→Prop} {E:XK} {X:Cx} {w:Wd} {O:Sto} {H:Hp}
end
end MI
namespace L2
open PySem PySem.Spec PyProof.Rows
theorem PS.nox1 {X:Cx} {st:Stmt} {t:TS} (h:PS X.nox st t):PS X st t:=fun pins s σ H D I hw =>
 wpAny_mono (h pins s σ H D (I.wish _) hw) (fun _ _ q=>q.unwish) fun _ _ z=>False.elim z
def Its (x:Str):It:=⟨fun i _=>i < x.cps.size,fun i H v H'=>H'=H∧∃ c,x.cps[i]?=some c∧v=.str ⟨#[c]⟩,fun i _=>x.cps.size ≤ i⟩
theorem turn_str {P:Program} {w:World} {K:PySem.W.Frag} {tg:Expr} (it:Addr) (x:Str) (t:Tok):Turn P w K tg (Its x) [it] it (fun i h=>i ≤ x.cps.size∧h.IsStrIter it "str_ascii_iterator" x t i) where
 mem:=by simp
 obj:=fun i h st b hb=>by
  have e:b=it:=by simpa using hb
  subst e
  obtain ⟨_,o,e,c,d⟩:=st
  exact ⟨o,e,fun v z=>by rw [d] at z; cases z⟩
 keep:=fun i h h' st k=>by
  obtain ⟨st,o,e,c,d⟩:=st
  exact ⟨st,o,k it (by simp) o e,c,d⟩
 item:=by
  intro X hP hw hK hc i pins s σ H E I hf st hg
  subst hP hw hK
  obtain ⟨f0,f1,f2,f3,f4,f5⟩:=hf it (by simp)
  have W:=Walks.strAscii (prog:=X.prog) (w:=X.w) (I.ok.hd hc) it x t
  refine W.item i s _ _ hg st.2 fun v h' tk hv st' kk=>?_
  obtain ⟨c,u,hcx,rfl⟩:=hv
  have I1:Inv X pins σ H { s with heap:=h',toks:=tk }:=I.turned (fun b o hb e=>kk b o (by simpa using hb) e) f0 f1 f3 f4 f5
  obtain ⟨o,e,c',d⟩:=id st'
  exact ⟨_,rfl,go_of (s:={ s with heap:=h',toks:=tk }) e c' d (by decide) ⟨.str ⟨#[c]⟩,H,I1,⟨u,rfl⟩,⟨rfl,c,hcx,rfl⟩,⟨hg,st'⟩,fun b hb=>(hf b hb).1⟩⟩
 done:=by
  intro X hP hw hK hc i pins s σ H E I hf st hg
  subst hP hw hK
  obtain ⟨f0,f1,f2,f3,f4,f5⟩:=hf it (by simp)
  have W:=Walks.strAscii (prog:=X.prog) (w:=X.w) (I.ok.hd hc) it x t
  have e:i=x.cps.size:=Nat.le_antisymm st.1 hg
  have st2:=st.2
  rw [e] at st2
  exact W.done s _ _ st2 fun h' tk kk=>⟨rfl,I.turned (t':=tk) (fun b o hb e=>kk b o (by simpa using hb) e) f0 f1 f3 f4 f5⟩
 self:=fun _ _ _ _ _ st h=>wpAny_pyIter_striter_ascii st.2 h
def iStr (tl:TE):TI:=fun σ H R=>tl σ H fun x H1=>∃ z:Str,x=.str z∧(z.cps.all fun c=>decide (c < 128))=true∧R (Its z) H1
theorem pi_str {X:Cx} {tg l:Expr} {tl:TE} (hl:PE X l tl):PI X tg l (iStr tl):=by
 intro pins s σ H R I h
 refine thn (hl pins s σ H _ I h) fun v s1 ⟨x,H1,I1,r1,q1⟩=>?_
 obtain ⟨z,e,ha,q⟩:=q1
 subst e
 obtain ⟨t,rfl⟩:=r1
 refine wpAny_pyIter_strU ?_
 have hT:strIterType z="str_ascii_iterator":=by unfold strIterType; rw [if_pos ha]
 rw [hT]
 refine ⟨s1.heap.objs.size,[s1.heap.objs.size],_,_,H1,rfl,I1.kept (t':=s1.toks) fun b o e=>Heap.get?_push_of_some _ e,turn_str _ z t,⟨Nat.zero_le _,_,Heap.get?_push_size _ rfl,rfl,rfl⟩,fun b hb=>?_,q⟩
 have e:b=s1.heap.objs.size:=by simpa using hb
 subst e
 exact I1.fpOk (Nat.le_refl _) (I1.hok.fresh (Nat.le_refl _))
section
variable {X:Cx}
def rAsc:V→List V→Hp→VK→Prop:=fun x vs H Q=>∃ z:Str,x=.str z∧vs=[]∧Q (.bl (Txt.isascii z)) H
theorem mt_asc:MtR X "str.isascii" rAsc:=by
 intro pins s σ H x vs v us Q I rx rv h
 obtain ⟨z,rfl,rfl,q⟩:=h
 obtain ⟨t,rfl⟩:=rx
 cases rv
 exact PySem.SC.isascii ⟨.bl _,H,I,rfl,q⟩
def rDig:V→List V→Hp→VK→Prop:=fun x vs H Q=>∃ z:Str,x=.str z∧vs=[]∧Q (.bl (Txt.isdigit z)) H
theorem mt_dig:MtR X "str.isdigit" rDig:=by
 intro pins s σ H x vs v us Q I rx rv h
 obtain ⟨z,rfl,rfl,q⟩:=h
 obtain ⟨t,rfl⟩:=rx
 cases rv
 exact PySem.SC.isdigit ⟨.bl _,H,I,rfl,q⟩
def rSpl:V→List V→Hp→VK→Prop:=fun x vs H Q=>∃ z y:Str,x=.str z∧vs=[.str y]∧(y.length == 0)=false∧z.length + 2 ≤ sizeLine∧∀ l,H l=none→Q (.ref l) (upd H l (.lst ((Txt.split z y).map V.str)))
theorem vals_from:∀ (k:Nat) (l:List Str),Vals (l.map V.str) (strsFrom k l)
 | _,[]=>.nil
 | k,x :: l=>.cons ⟨_,rfl⟩ (vals_from (k + 1) l)
theorem mt_spl:MtR X "str.split" rSpl:=by
 intro pins s σ H x vs v us Q I rx rv h
 obtain ⟨z,y,rfl,rfl,hy,hz,q⟩:=h
 obtain ⟨t,rfl⟩:=rx
 obtain ⟨u,rfl,ru⟩:=rv.one
 obtain ⟨t',rfl⟩:=ru
 have hl:=PyProof.Rows.split_le z y
 have q':=q _ I.fresh
 unfold Txt.split at q' hl
 cases h1:(decide (z.length < y.length) || decide (Builtin.Str.strKind z < Builtin.Str.strKind y)) with
 | true =>
  rw [h1,if_pos rfl] at q'
  refine call_meets F.slot_str_split (typeIs_str s z t) F.entry_str_split (F.args_str_split_2 _ _) (meets_str_split_cannot_occur z y t t' h1) ?_
  exact ⟨.ref _,_,I.lnew (its:=[.str z t]) (ys:=[.str z]) (t':=s.toks) (.cons ⟨_,rfl⟩ .nil) (by show 1 ≤ sizeLine; decide),rfl,q'⟩
 | false =>
  rw [h1,if_neg Bool.false_ne_true] at q' hl
  cases h2:(Builtin.Str.occurrences z y 0 z.length (z.length + 1)).isEmpty with
  | true =>
   rw [h2,if_pos rfl] at q'
   refine call_meets F.slot_str_split (typeIs_str s z t) F.entry_str_split (F.args_str_split_2 _ _) (meets_str_split_not_found z y t t' h1 hy h2) ?_
   exact ⟨.ref _,_,I.lnew (its:=[.str z t]) (ys:=[.str z]) (t':=s.toks) (.cons ⟨_,rfl⟩ .nil) (by show 1 ≤ sizeLine; decide),rfl,q'⟩
  | false =>
   rw [h2,if_neg Bool.false_ne_true] at q' hl
   refine call_meets F.slot_str_split (typeIs_str s z t) F.entry_str_split (F.args_str_split_2 _ _) (meets_str_split_sep z y t t' h1 hy h2 (by omega) (by omega)) ?_
   exact ⟨.ref _,_,I.lnew (t':=_) (vals_from _ _) (by rw [List.length_map]; omega),rfl,q'⟩
theorem call_int_txt:CallR X (.type "int") (fun xs H Q=>∃ (z:Str) (n:Int),xs=[.str z]∧intText? z=some n∧z.length ≤ 640∧Q (.int n) H):=by
 intro pins s σ H xs us Q I r h
 obtain ⟨z,n,rfl,h1,h2,q⟩:=h
 obtain ⟨u,rfl,t,rfl⟩:=vals1 r
 exact PySem.W.KIN.call_text h1 h2 ⟨.int n,H,I.tok _,⟨_,rfl⟩,q⟩
theorem op_rep_str:OpR X (binaryOp .Mult) (fun x y H Q=>∃ (z:Str) (b:Bool),x=.str z∧y=.int (if b then 1 else 0)∧Q (.str (if b then z else Str.empty)) H):=by
 intro pins s σ H x y v u Q I rx ry h
 obtain ⟨z,b,rfl,rfl,q⟩:=h
 obtain ⟨t,rfl⟩:=rx
 obtain ⟨t',rfl⟩:=ry
 cases b with
 | false=>exact PySem.P.mul_str (n:=0) (by decide) (fun h=>absurd (by decide) h) (fun h=>absurd (by decide) h) ⟨by decide,.str _,H,I.tok _,⟨_,rfl⟩,q⟩
 | true=>exact PySem.P.mul_str (n:=1) (by decide) (fun _ h=>by cases h) (fun _ h=>by cases h) ⟨.str _,H,I,⟨_,rfl⟩,q⟩
end
end L2
namespace L2
open PySem PySem.Spec PyProof.Rows
section
variable {X:Cx}
def cutS (z:Str) (lo hi st:Option Int):Str:=if (st.getD 1 == 1 && (Builtin.Str.strSliceIndices lo hi (st.getD 1) z.length).length == z.length)=true then z else ⟨((Builtin.Str.strSliceIndices lo hi (st.getD 1) z.length).filterMap (fun i=>z.cps[i]?)).toArray⟩
theorem part_of {v:Value} {o:Option Int} (p:IsPart v o):∃ l:Option (Int × Tok),v=partValue l∧l.map (·.1)=o:=by
 cases p with
 | none=>exact ⟨none,rfl,rfl⟩
 | int i t=>exact ⟨some (i,t),rfl,rfl⟩
theorem cut_str {pins:List (Addr × Obj)} {s:Shared} {σ:St} {H:Hp} {z:Str} {t:Tok} {vl vu vs:Value} {lo hi st:Option Int} {sl:Addr} {Q:VK} (I:Inv X pins σ H s) (hs:s.heap.IsSliceOf sl vl vu vs) (pl:IsPart vl lo) (pu:IsPart vu hi) (ps:IsPart vs st) (h0:(st.getD 1 == 0)=false) (hz:(cutS z lo hi st).length ≤ sizeLine) (q:Q (.str (cutS z lo hi st)) H) :
  wpAny (model X.prog X.w) X.A (getItem (.str z t) (.ref sl)) (EP X pins σ Q) X.xe s:=by
 obtain ⟨l,rfl,hl⟩:=part_of pl
 obtain ⟨u,rfl,hu⟩:=part_of pu
 obtain ⟨k,rfl,hk⟩:=part_of ps
 refine wpAny_getItem_str_slice (l:=l) (u:=u) (st:=k) hs (by rw [hk]; exact h0) ?_
 unfold sliceMade slicePicked
 rw [hl,hu,hk]
 unfold cutS at q hz
 split
 ·rename_i hc
  rw [if_pos hc] at q
  exact ⟨.str z,H,I,⟨_,rfl⟩,q⟩
 ·rename_i hc
  rw [if_neg hc] at q hz
  exact ⟨hz,.str _,H,I.tok _,⟨_,rfl⟩,q⟩
def rSlS:V→Option Int→Option Int→Hp→VK→Prop:=fun x lo hi H Q=>∃ z:Str,x=.str z∧(cutS z lo hi none).length ≤ sizeLine∧Q (.str (cutS z lo hi none)) H
theorem sl_str:SlR X rSlS:=by
 intro pins s σ H x v vl vu lo hi sl Q I rx hs pl pu h
 obtain ⟨z,rfl,hz,q⟩:=h
 obtain ⟨t,rfl⟩:=rx
 exact ⟨"str",_,slot_str_getitem.lookup,typeIs_str s z t,cut_str I hs pl pu .none rfl hz q⟩
def tSl3 (te:TE) (tl th ts:TO):TE:=fun σ H Q=>te σ H fun x H1=>tl σ H1 fun l H2=>th σ H2 fun u H3=>ts σ H3 fun k H4=>∃ z:Str,x=.str z∧(k.getD 1 == 0)=false∧(cutS z l u k).length ≤ sizeLine∧Q (.str (cutS z l u k)) H4
theorem pe_slice3 {e:Expr} {te:TE} {lo hi st:Option Expr} {tl th ts:TO} {pos p2:Pos} (he:PE X e te) (hl:PO X lo tl) (hu:PO X hi th) (hk:PO X st ts) (hq:∀ (z:Str) (t:Tok) (a:Addr),subscripted (.Slice lo hi st p2) false (.str z t) (.ref a)=operate [.ref a,.str z t] (getItem (.str z t) (.ref a)):=by intros; with_unfolding_all rfl):PE X (.Subscript e (.Slice lo hi st p2) pos) (tSl3 te tl th ts):=by
 intro pins s σ H Q I h
 refine Subscript_ (thn (he pins s σ H _ I h) fun v s1 ⟨x,H1,I1,r1,q1⟩=>?_)
 refine wpAny_Slice (thn (hl pins s1 σ H1 _ I1 q1) fun vl s2 ⟨l,H2,I2,pl,q2⟩=>thn (hu pins s2 σ H2 _ I2 q2) fun vu s3 ⟨u,H3,I3,pu,q3⟩=>thn (hk pins s3 σ H3 _ I3 q3) fun vk s4 ⟨k,H4,I4,pk,q4⟩=>?_)
 obtain ⟨z,rfl,h0,hz,q⟩:=q4
 obtain ⟨t,rfl⟩:=r1
 have I5:Inv X pins σ H4 { s4 with heap:=s4.heap.push { cls:=.type "slice",data:=.fields #[vl,vu,vk] } }:=I4.kept (t':=s4.toks) fun b ob q=>Heap.get?_push_of_some _ q
 show wpAny (model X.prog X.w) X.A (subscriptTail e (.Slice lo hi st p2) (.str z t) (.ref s4.heap.objs.size)) (EP X pins σ Q) X.xe { s4 with heap:=s4.heap.push { cls:=.type "slice",data:=.fields #[vl,vu,vk] } }
 exact tail_any (ops:=[.ref s4.heap.objs.size,.str z t]) (typeIs_str _ z t) slot_str_getitem.lookup (cut_str I5 (Heap.IsSliceOf.new ..) pl pu pk h0 hz q) (hq z t _)
def tFld1 (te:TE):TE:=fun σ H Q=>te σ H fun x H1=>∃ i:Int,x=.int i∧i.natAbs.log2 < 1920∧Q (.str (toString i)) H1
theorem pe_fv {e:Expr} {te:TE} {pos:Pos} (he:PE X e te):PE X (.FormattedValue e (-1) none pos) (tFld1 te):=by
 intro pins s σ H Q I h
 refine PySem.wpAny_FormattedValue_plain (thn (he pins s σ H _ I h) fun v s1 ⟨x,H1,I1,r1,q1⟩=>?_)
 obtain ⟨i,rfl,hi,q⟩:=q1
 obtain ⟨t,rfl⟩:=r1
 exact PySem.wpAny_formatField_int hi ⟨.str _,H1,I1.tok _,⟨_,rfl⟩,q⟩
theorem pe_fs1 {e:Expr} {te:TE} {pos:Pos} (he:PE X e te):PE X (.JoinedStr [e] pos) te:=fun pins s σ H Q I h=>JoinedStr_one (he pins s σ H Q I h)
def tFs3 (ta tb tc:TE):TE:=fun σ H Q=>ta σ H fun x H1=>∃ a:Str,x=.str a∧a.length ≤ sizeLine∧tb σ H1 fun y H2=>∃ b:Str,y=.str b∧(a ++ b).length ≤ sizeLine∧tc σ H2 fun z H3=>∃ c:Str,z=.str c∧(a ++ b ++ c).length ≤ sizeLine∧Q (.str (a ++ b ++ c)) H3
theorem empty_app (a:Str):Str.empty ++ a=a:=by
 apply PyProof.Rows.ext_toList
 rw [PySem.W.KT.app_list]; rfl
theorem pe_fs3 {a b c:Expr} {ta tb tc:TE} {pos:Pos} (ha:PE X a ta) (hb:PE X b tb) (hc:PE X c tc):PE X (.JoinedStr [a,b,c] pos) (tFs3 ta tb tc):=by
 intro pins s σ H Q I h
 refine JoinedStr_many (joinParts_cons (thn (ha pins s σ H _ I h) fun v s1 ⟨x,H1,I1,r1,q1⟩=>?_))
 obtain ⟨za,rfl,la,q1⟩:=q1
 obtain ⟨t1,rfl⟩:=r1
 show (Str.empty ++ za).length ≤ sizeLine∧wpAny _ _ (joinParts (Str.empty ++ za) _) _ _ _
 rw [empty_app]
 refine ⟨la,joinParts_cons (thn (hb pins s1 σ H1 _ I1 q1) fun v s2 ⟨y,H2,I2,r2,q2⟩=>?_)⟩
 obtain ⟨zb,rfl,lb,q2⟩:=q2
 obtain ⟨t2,rfl⟩:=r2
 refine ⟨lb,joinParts_consE (joinParts_cons (thn (hc pins s2 σ H2 _ I2 q2) fun v s3 ⟨z,H3,I3,r3,q3⟩=>?_))⟩
 obtain ⟨zc,rfl,lc,q3⟩:=q3
 obtain ⟨t3,rfl⟩:=r3
 exact ⟨lc,joinParts_nilE (joinParts_nil ⟨.str _,H3,I3.tok _,⟨_,rfl⟩,q3⟩ lc)⟩
end
end L2
namespace TX
open PySem L2
def AsB (x:Str):Bool:=x.cps.all fun c=>decide (c < 128)
theorem as_iff {x:Str}:AsB x=true ↔ ∀ c ∈ x.cps.toList,c < 128:=by
 unfold AsB
 rw [← Array.all_toList,List.all_eq_true]
 exact ⟨fun h c hc=>of_decide_eq_true (h c hc),fun h c hc=>decide_eq_true (h c hc)⟩
theorem lay_as {x:Str} (h:AsB x=true):(PyData.str x).canLay0=true:=by
 rw [PyData.canLay0.eq_def]
 show (x.cps.all fun c=>decide (c < 1114112))=true
 rw [← Array.all_toList,List.all_eq_true]
 exact fun c hc=>decide_eq_true (by have:=as_iff.mp h c hc; omega)
theorem jh2 (x:Str):x.cps.toList.length=x.length:=by simp [Str.length]
theorem je7 {a b:Str} (ha:AsB a=true) (hb:AsB b=true):AsB (a ++ b)=true:=as_iff.mpr fun c hc=>by
 rw [PySem.W.KT.app_list] at hc
 rcases List.mem_append.mp hc with h | h
 ·exact as_iff.mp ha c h
 ·exact as_iff.mp hb c h
theorem jd7 (a b:Str):(a ++ b).length=a.length + b.length:=by
 rw [← jh2,← jh2,← jh2,PySem.W.KT.app_list,List.length_append]
theorem as_one {c:Nat} (h:c < 128):AsB ⟨#[c]⟩=true:=as_iff.mpr fun d hd=>by
 have:d=c:=by simpa using hd
 omega
theorem as_sub {x y:Str} (h:AsB x=true) (s:∀ c ∈ y.cps.toList,c ∈ x.cps.toList):AsB y=true:=as_iff.mpr fun c hc=>as_iff.mp h c (s c hc)
theorem as_empty:AsB Str.empty=true:=by decide +kernel
theorem cut_mem {z:Str} {lo hi st:Option Int}:∀ c ∈ (cutS z lo hi st).cps.toList,c ∈ z.cps.toList:=by
 intro c hc
 unfold cutS at hc
 split at hc
 ·exact hc
 ·simp only [List.mem_filterMap] at hc
  obtain ⟨i,_,h⟩:=hc
  rw [← Array.getElem?_toList] at h
  exact List.mem_of_getElem? h
theorem cut_le {z:Str} {lo hi st:Option Int} (h:(Builtin.Str.strSliceIndices lo hi (st.getD 1) z.length).length ≤ z.length):(cutS z lo hi st).length ≤ z.length:=by
 unfold cutS
 split
 ·exact Nat.le_refl _
 ·refine Nat.le_trans ?_ h
  rw [← jh2]
  exact List.length_filterMap_le _ _
theorem ix_le (lo hi:Option Int) (n:Nat):(Builtin.Str.strSliceIndices lo hi 1 n).length ≤ n:=by
 unfold Builtin.Str.strSliceIndices sliceRange
 simp only [List.length_map,List.length_range]
 cases lo <;> cases hi <;> (simp only []; (repeat' split) <;> omega)
theorem ix_rev (n:Nat):(Builtin.Str.strSliceIndices none none (-1) n).length ≤ n:=by
 unfold Builtin.Str.strSliceIndices sliceRange
 simp only [List.length_map,List.length_range]
 have h:¬ ((-1:Int) > 0):=by decide
 simp only [if_neg h,Int.neg_neg,Int.ediv_one]
 split <;> omega
theorem cut_len {z:Str} {lo hi:Option Int}:(cutS z lo hi none).length ≤ z.length:=cut_le (ix_le lo hi z.length)
theorem rev_len {z:Str}:(cutS z none none (some (-1))).length ≤ z.length:=cut_le (ix_rev z.length)
theorem sub_mem {x:Str} {i j c:Nat} (h:c ∈ (Builtin.Str.strSub x i j).cps.toList):c ∈ x.cps.toList:=by
 unfold Builtin.Str.strSub at h
 simp only [Array.toList_extract,List.extract_eq_take_drop] at h
 exact List.mem_of_mem_drop (List.mem_of_mem_take h)
theorem split_mem {x y p:Str} (hp:p ∈ Txt.split x y) {c:Nat} (hc:c ∈ p.cps.toList):c ∈ x.cps.toList:=by
 unfold Txt.split at hp
 split at hp
 ·rw [List.mem_singleton.mp hp] at hc; exact hc
 ·split at hp
  ·rw [List.mem_singleton.mp hp] at hc; exact hc
  ·unfold Builtin.Str.partsBetween at hp
   obtain ⟨⟨i,j⟩,_,rfl⟩:=List.mem_map.mp hp
   exact sub_mem hc
theorem jf4 {x y p:Str} (h:AsB x=true) (hp:p ∈ Txt.split x y):AsB p=true:=as_sub h fun c hc=>split_mem hp hc
def slash:Str:=⟨#[47]⟩
theorem first_cut {c:Nat}:∀ {p q a b:List Nat},c ∉ p→c ∉ a→p ++ c :: q=a ++ c :: b→p=a∧q=b
 | [],q,[],b,_,_,h=>⟨rfl,by injection h⟩
 | [],q,x :: a,b,_,ha,h=>by injection h with h1 _; exact absurd (by rw [h1]; exact List.mem_cons_self) ha
 | x :: p,q,[],b,hp,_,h=>by injection h with h1 _; exact absurd (by rw [h1]; exact List.mem_cons_self) hp
 | x :: p,q,y :: a,b,hp,ha,h=>by
  injection h with h1 h2
  obtain ⟨e1,e2⟩:=first_cut (fun z=>hp (List.mem_cons_of_mem _ z)) (fun z=>ha (List.mem_cons_of_mem _ z)) h2
  exact ⟨by rw [h1,e1],e2⟩
theorem join_two (a b:Str) (l:List Str):(slash.join (a :: b :: l)).cps.toList=a.cps.toList ++ 47 :: (slash.join (b :: l)).cps.toList:=by
 have:slash.join (a :: b :: l)=a ++ slash ++ slash.join (b :: l):=rfl
 rw [this,PySem.W.KT.app_list,PySem.W.KT.app_list]
 simp [slash]
theorem split_one {x:Str} (h:47 ∉ x.cps.toList):Txt.split x slash=[x]:=by
 have hj:=PySem.StrLaws.join_split x slash
 have hn:=PyProof.Rows.split_pos x slash
 match e:Txt.split x slash with
 | []=>rw [e] at hn; simp at hn
 | [p]=>rw [e] at hj; rw [← hj]; rfl
 | p :: q :: l =>
  rw [e] at hj
  have:=congrArg (fun s:Str=>s.cps.toList) hj
  simp only [join_two] at this
  exact absurd (by rw [← this]; simp) h
theorem split_two {a b:Str} (ha:47 ∉ a.cps.toList) (hb:47 ∉ b.cps.toList):Txt.split (a ++ slash ++ b) slash=[a,b]:=by
 have hj:=PySem.StrLaws.join_split (a ++ slash ++ b) slash
 have hn:=PyProof.Rows.split_pos (a ++ slash ++ b) slash
 have hf:=PySem.StrLaws.split_free (a ++ slash ++ b) 47
 have hx:(a ++ slash ++ b).cps.toList=a.cps.toList ++ 47 :: b.cps.toList:=by
  rw [PySem.W.KT.app_list,PySem.W.KT.app_list]; simp [slash]
 match e:Txt.split (a ++ slash ++ b) slash with
 | []=>rw [e] at hn; simp at hn
 | [p] =>
  rw [e] at hj
  have h1:p=a ++ slash ++ b:=hj
  have:=hf p (by show p ∈ Txt.split _ slash; rw [e]; simp)
  rw [h1,hx] at this
  exact absurd (by simp) this
 | [p,q] =>
  rw [e] at hj
  have h1:=congrArg (fun s:Str=>s.cps.toList) hj
  simp only [join_two,hx] at h1
  have hp:=hf p (by show p ∈ Txt.split _ slash; rw [e]; simp)
  obtain ⟨e1,e2⟩:=first_cut hp ha h1
  rw [PyProof.Rows.ext_toList e1,PyProof.Rows.ext_toList (a:=q) (b:=b) e2]
 | p :: q :: r :: l =>
  rw [e] at hj
  have h1:=congrArg (fun s:Str=>s.cps.toList) hj
  simp only [join_two,hx] at h1
  have hp:=hf p (by show p ∈ Txt.split _ slash; rw [e]; simp)
  obtain ⟨e1,e2⟩:=first_cut hp ha h1
  exact absurd (by rw [← e2]; simp) hb
def allD (l:List Nat):Bool:=l.all fun c=>decide (48 ≤ c) && decide (c ≤ 57)
def figL (l:List Nat):Bool:=!l.isEmpty && allD l && (l.head? != some 48 || l == [48])
def fig (x:Str):Bool:=figL x.cps.toList
def dv (x:Str):Int:=(NumText.digitsVal x.cps.toList:Nat)
theorem allD_iff {l:List Nat}:allD l=true ↔ NumText.AllDigits l:=by
 unfold allD NumText.AllDigits
 rw [List.all_eq_true]
 exact ⟨fun h c hc=>by have:=h c hc; simpa using this,fun h c hc=>by have:=h c hc; simpa using this⟩
theorem num_list (n:Nat):(Str.ofString (toString (n:Int))).cps.toList=(Nat.toDigits 10 n).map Char.toNat:=PySem.W.KIN.signs_num n
theorem dig_char {d:Char} (h:d.isDigit=true):48 ≤ d.toNat∧d.toNat ≤ 57:=by
 unfold Char.isDigit at h
 rw [Bool.and_eq_true] at h
 have h1:=of_decide_eq_true h.1
 have h2:=of_decide_eq_true h.2
 exact ⟨UInt32.le_iff_toNat_le.mp h1,UInt32.le_iff_toNat_le.mp h2⟩
theorem num_all (n:Nat):NumText.AllDigits ((Nat.toDigits 10 n).map Char.toNat):=fun c hc=>by
 obtain ⟨d,hd,rfl⟩:=List.mem_map.mp hc
 exact dig_char (Nat.isDigit_of_mem_toDigits (by decide) (by decide) hd)
theorem num_len {n k:Nat} (hk:1 ≤ k) (h:n < 10 ^ k):(Str.ofString (toString (n:Int))).length ≤ k:=by
 rw [← jh2,num_list,List.length_map]
 have:=PyProof.Rows.digitsCore10_len k (n + 1) n [] hk h
 simpa [Nat.toDigits] using this
theorem num_ne (n:Nat):(Nat.toDigits 10 n).map Char.toNat ≠ []:=fun z=>by
 have h:(Nat.toDigits 10 n).length=0:=by rw [List.map_eq_nil_iff.mp z]; rfl
 cases n with
 | zero=>exact absurd h (by decide)
 | succ n=>have:=PyProof.Rows.digits10_ge (k:=0) (n:=n + 1) (by simp); omega
theorem num_fig (n:Nat):fig (Str.ofString (toString (n:Int)))=true:=by
 unfold fig figL
 rw [num_list]
 have h1:=num_all n
 have h2:=num_ne n
 rw [allD_iff.mpr h1]
 generalize hl:(Nat.toDigits 10 n).map Char.toNat=l at h1 h2
 have hv:NumText.digitsVal l=n:=by rw [← hl]; exact PySem.W.KIN.val_back n
 have h3:=NumText.toDigits_all l h1
 rw [hv] at h3
 cases l with
 | nil=>exact absurd rfl h2
 | cons c r =>
  by_cases hc:c=48
  ·subst hc
   have h4:(Nat.toDigits 10 n).length=r.length + 1:=by
    have:=congrArg List.length hl
    simpa using this
   rw [List.dropWhile_cons] at h3
   simp only [beq_self_eq_true,if_true] at h3
   have h5:=NumText.len_dropWhile
   cases hd:r.dropWhile (fun x=>x == 48) with
   | nil =>
    rw [hd] at h3
    have:r.length=0:=by rw [h3] at h4; simpa using h4.symm
    rw [List.length_eq_zero_iff.mp this]; rfl
   | cons c' r' =>
    rw [hd] at h3
    have hs:=(List.dropWhile_sublist (fun x:Nat=>x == 48) (l:=r)).length_le
    rw [hd] at hs
    rw [h3] at h4
    simp at h4 hs
    omega
  ·simp [hc]
theorem num_dv (n:Nat):dv (Str.ofString (toString (n:Int)))=n:=by
 unfold dv
 rw [num_list,PySem.W.KIN.val_back]
theorem num_free (n:Nat):47 ∉ (Str.ofString (toString (n:Int))).cps.toList:=by
 rw [num_list]
 intro h
 have:=num_all n 47 h
 omega
theorem num_as (n:Nat):AsB (Str.ofString (toString (n:Int)))=true:=as_iff.mpr fun c hc=>by
 rw [num_list] at hc
 have:=num_all n c hc
 omega
theorem isdig:∀ c:Fin 128,Unicode.isDigit c.1=(decide (48 ≤ c.1) && decide (c.1 ≤ 57)):=by decide +kernel
theorem dig_as {x:Str} (h:AsB x=true):Txt.isdigit x=(!x.cps.toList.isEmpty && allD x.cps.toList):=by
 unfold Txt.isdigit allD
 rw [← Array.all_toList]
 have e1:decide (x.length > 0)=!x.cps.toList.isEmpty:=by
  rw [← jh2]
  cases x.cps.toList <;> simp
 rw [e1]
 congr 1
 have:∀ l:List Nat,(∀ c ∈ l,c < 128)→l.all Unicode.isDigit=l.all fun c=>decide (48 ≤ c) && decide (c ≤ 57):=by
  intro l
  induction l with
  | nil=>intro _; rfl
  | cons c l ih =>
   intro hc
   rw [List.all_cons,List.all_cons,ih fun d hd=>hc d (List.mem_cons_of_mem _ hd),isdig ⟨c,hc c List.mem_cons_self⟩]
 exact this _ (as_iff.mp h)
theorem asc_as {x:Str} (h:AsB x=true):Txt.isascii x=true:=h
def digs:Str:="0123456789"
theorem in_digs:∀ c:Fin 128,(!(!(Builtin.Str.occurrences digs ⟨#[c.1]⟩ 0 digs.length 1).isEmpty))=!(decide (48 ≤ c.1) && decide (c.1 ≤ 57)):=by decide +kernel
theorem int_fig {x:Str} (h:allD x.cps.toList=true) (hn:x.cps.toList ≠ []) (hl:x.length ≤ 640):intText? x=some (dv x):=intText_digits (allD_iff.mp h) hn (by omega)
end TX
namespace KM
open PySem L2 KG
theorem boot_str:bootBuiltins "str"=some (.type "str"):=by first | rfl | kernel_rfl | decide +kernel
structure IsS (K:PySem.W.Frag):Prop where
 s1:PySem.W.kitOne K (.type "NoneType") (.type "str")=some false
 s2:PySem.W.kitOne K (.type "bool") (.type "str")=some false
 s3:PySem.W.kitOne K (.type "int") (.type "str")=some false
 s4:PySem.W.kitOne K (.type "str") (.type "str")=some true
 s5:PySem.W.kitOne K (.type "list") (.type "str")=some false
 s6:PySem.W.kitOne K (.type "tuple") (.type "str")=some false
end KM
namespace MI
open PySem L2 KG EX KM TX
section
variable {K:PySem.W.Frag} {QX:Addr→Sto→Prop} {E:XK} {X:Cx}
def catF:MF2:=fun O x y P=>match x,y with
 | .im (.str a),.im (.str b)=>(AsB a=true∧AsB b=true∧a.length + b.length ≤ sizeLine)∧P (.im (.str (a ++ b))) O
 | _,_=>False
theorem lk_cat:Lk2 K (fun x y H Q=>∃ i j,x=.str i∧y=.str j∧i.length + j.length ≤ sizeLine∧Q (.str (i ++ j)) H) catF:=fun w O H v u x y P Q r a b hf q=>by
 unfold catF at hf
 split at hf
 ·exact ⟨_,_,jh5 a,jh5 b,hf.1.2.2,q _ _ O w H hf.2 (Ext.refl _ _ _) r (.str _ (lay_as (je7 hf.1.1 hf.1.2.1)))⟩
 ·exact hf.elim
theorem mo_cat {Ma Mb:ME} {a b:Expr} {pos:Pos} (ha:PE X a (teM K QX E Ma)) (hb:PE X b (teM K QX E Mb)):PE X (.BinOp a .Add b pos) (teM K QX E (mOp catF Ma Mb)):=me_op op_add_str lk_cat ha hb
def rpsF:MF2:=fun O x y P=>match x,y with
 | .im (.str a),.im (.int k)=>AsB a=true∧∃ b:Bool,k=(if b then 1 else 0)∧P (.im (.str (if b then a else Str.empty))) O
 | _,_=>False
theorem lk_rps:Lk2 K (fun x y H Q=>∃ (z:Str) (b:Bool),x=.str z∧y=.int (if b then 1 else 0)∧Q (.str (if b then z else Str.empty)) H) rpsF:=fun w O H v u x y P Q r a b hf q=>by
 unfold rpsF at hf
 split at hf
 ·obtain ⟨h1,c,h2,h3⟩:=hf
  refine ⟨_,c,jh5 a,by rw [jg4 b,h2],q _ _ O w H h3 (Ext.refl _ _ _) r (.str _ ?_)⟩
  cases c
  ·exact lay_as as_empty
  ·exact lay_as h1
 ·exact hf.elim
theorem mo_rps {Ma Mb:ME} {a b:Expr} {pos:Pos} (ha:PE X a (teM K QX E Ma)) (hb:PE X b (teM K QX E Mb)):PE X (.BinOp a .Mult b pos) (teM K QX E (mOp rpsF Ma Mb)):=me_op op_rep_str lk_rps ha hb
def ixsF:MF2:=fun O x y P=>match x,y with
 | .im (.str z),.im (.int i)=>AsB z=true∧z.length ≤ sizeLine∧∃ c,atI z.cps.toList i=some c∧P (.im (.str ⟨#[c]⟩)) O
 | _,_=>False
theorem atI_mem {α : Type} {l:List α} {i:Int} {c:α} (h:atI l i=some c):c ∈ l:=by
 unfold atI at h
 cases hj:ixN l.length i with
 | none=>rw [hj] at h; cases h
 | some j=>rw [hj] at h; exact List.mem_of_getElem? h
theorem lk_ixs:Lk2 K rIxS ixsF:=fun w O H v u x y P Q r a b hf q=>by
 unfold ixsF at hf
 split at hf
 ·obtain ⟨h1,h2,c,h3,h4⟩:=hf
  exact ⟨_,_,c,jh5 a,jg4 b,h2,h3,q _ _ O w H h4 (Ext.refl _ _ _) r (.str _ (lay_as (as_one (as_iff.mp h1 c (atI_mem h3)))))⟩
 ·exact hf.elim
theorem mo_ixs {Ma Mb:ME} {a b:Expr} {pos:Pos} (ha:PE X a (teM K QX E Ma)) (hb:PE X b (teM K QX E Mb)) (hs:PlainIx b:=by exact fun _ _=>rfl):PE X (.Subscript a b pos) (teM K QX E (mOp ixsF Ma Mb)):=me_ix ix_str lk_ixs ha hb hs
def ninsF:MF2:=fun O x y P=>match x,y with
 | .im (.str i),.im (.str j)=>P (.im (.bool (!(!(Builtin.Str.occurrences j i 0 j.length 1).isEmpty)))) O
 | _,_=>False
theorem lk_nins:Lk2 K (fun x y H Q=>∃ i j,x=.str i∧y=.str j∧Q (.bl (!(!(Builtin.Str.occurrences j i 0 j.length 1).isEmpty))) H) ninsF:=fun w O H v u x y P Q r a b hf q=>by
 unfold ninsF at hf
 split at hf
 ·exact ⟨_,_,jh5 a,jh5 b,q _ _ O w H hf (Ext.refl _ _ _) r (.bl _)⟩
 ·exact hf.elim
def ninL:PyData→Bool
 | .none=>true
 | .int _=>true
 | _=>false
def nInF:MF2:=fun O x y P=>match x,y with
 | .im .none,.im (.list ds)=>ds.all ninL=true∧P (.im (.bool (ds.any jg3))) O
 | _,_=>False
theorem nin_tr {g:Hp}:∀ {ds:List PyData} {vs:List V},TrGs g vs ds→ds.all ninL=true→vs.all flatV=true∧inV .non vs=ds.any jg3
 | [],_,.nil,_=>⟨rfl,rfl⟩
 | d :: ds,_,.cons h t,n=>by
  rw [List.all_cons,Bool.and_eq_true] at n
  obtain ⟨h1,h2⟩:=nin_tr t n.2
  unfold inV at h2 ⊢
  rw [List.all_cons,List.any_cons,List.any_cons,h1,h2]
  cases h with
  | non=>exact ⟨rfl,rfl⟩
  | int i=>exact ⟨rfl,rfl⟩
  | _=>cases n.1
theorem lk_nIn:Lk2 K (rIn K0 false) nInF:=fun w O H v u x y P Q r a b hf q=>by
 unfold nInF at hf
 split at hf
 ·obtain ⟨p1,us,rfl,h1,t1⟩:=g_lst b
  obtain ⟨h2,h3⟩:=nin_tr t1 hf.1
  refine ⟨p1,us,rfl,.inl (SqL.of h1),by rw [g_non a]; rfl,h2,?_⟩
  rw [g_non a,h3]
  exact q _ _ O w H hf.2 (Ext.refl _ _ _) r (.bl _)
 ·exact hf.elim
def mSlS (M:ME) (L U:MO):ME:=fun sl O Q=>M sl O fun x O1=>L sl O1 fun l O2=>U sl O2 fun u O3=>match x with
 | .im (.str z)=>AsB z=true∧z.length ≤ sizeLine∧Q (.im (.str (cutS z l u none))) O3
 | _=>False
theorem me_slS {M:ME} {L U:MO} {e:Expr} {lo hi:Option Expr} {p2 pos:Pos} (he:PE X e (teM K QX E M)) (hl:PO X lo (toM K QX E L)) (hu:PO X hi (toM K QX E U)):PE X (.Subscript e (.Slice lo hi none p2) pos) (teM K QX E (mSlS M L U)) :=
 PE.imp (pe_slice sl_str he hl hu) fun σ H Q ⟨w,O,sl,Q0,c,m,q⟩=>⟨w,O,sl,_,c,m,fun x O1 v w1 H1 h1 e1 r1 a1=>⟨w1,O1,sl,_,c.ex e1.ex r1,h1,fun l O2 w2 H2 h2 e2 r2=>⟨w2,O2,sl,_,(c.ex e1.ex r1).ex e2.ex r2,h2,fun u O3 w3 H3 h3 e3 r3=>by
  have a3:=(a1.ex e2.ex).ex e3.ex
  have e13:=(e1.trans e2).trans e3
  split at h3
  ·exact ⟨_,jh5 a3,Nat.le_trans cut_len h3.2.1,q _ O3 _ w3 H3 h3.2.2 e13 r3 (.str _ (lay_as (as_sub h3.1 cut_mem)))⟩
  ·exact h3.elim⟩⟩⟩
def mRev (M:ME):ME:=fun sl O Q=>M sl O fun x O1=>match x with
 | .im (.str z)=>AsB z=true∧z.length ≤ sizeLine∧Q (.im (.str (cutS z none none (some (-1))))) O1
 | _=>False
theorem me_rev {M:ME} {e:Expr} {p2 p3 p4 pos:Pos} {j:Nat} (he:PE X e (teM K QX E M)):PE X (.Subscript e (.Slice none none (some (.UnaryOp .USub (.Constant (.int 1) j p3) p4)) p2) pos) (teM K QX E (mRev M)) :=
 PE.imp (pe_slice3 he (jc3 (K:=K) (QX:=QX) (E:=E)) (jc3 (K:=K) (QX:=QX) (E:=E)) (jb9 (K:=K) (QX:=QX) (E:=E) (me_neg ja9))) fun σ H Q ⟨w,O,sl,Q0,c,m,q⟩=>⟨w,O,sl,_,c,m,fun x O1 v w1 H1 h1 e1 r1 a1=>⟨w1,O1,sl,fun l O'=>l=none∧O'=O1,c.ex e1.ex r1,⟨rfl,rfl⟩,fun l O2 w2 H2 h2 e2 r2=>⟨w2,O2,sl,fun l O'=>l=none∧O'=O1,(c.ex e1.ex r1).ex e2.ex r2,by rw [h2.2]; exact ⟨rfl,rfl⟩,fun u O3 w3 H3 h3 e3 r3=>⟨w3,O3,sl,fun l O'=>l=some (-1)∧O'=O1,((c.ex e1.ex r1).ex e2.ex r2).ex e3.ex r3,by rw [h3.2]; exact ⟨rfl,rfl⟩,fun k O4 w4 H4 h4 e4 r4=>by
  have a4:=((a1.ex e2.ex).ex e3.ex).ex e4.ex
  have e14:=((e1.trans e2).trans e3).trans e4
  obtain ⟨rfl,rfl⟩:=h4
  obtain ⟨rfl,_⟩:=h3
  obtain ⟨rfl,_⟩:=h2
  split at h1
  ·exact ⟨_,jh5 a4,rfl,Nat.le_trans rev_len h1.2.1,q _ _ _ w4 H4 h1.2.2 e14 r4 (.str _ (lay_as (as_sub h1.1 cut_mem)))⟩
  ·exact h1.elim⟩⟩⟩⟩
def mM0 (f:Str→Bool) (M:ME):ME:=fun sl O Q=>M sl O fun x O1=>match x with
 | .im (.str z)=>Q (.im (.bool (f z))) O1
 | _=>False
theorem me_asc {o:Expr} {M:ME} {apos cpos:Pos} (ho:PE X o (teM K QX E M)) (hbase:attributeBase o "isascii" X.env (eval o X.env)=eval o X.env:=by rfl) (hline:(apos.endLine == cpos.line)=true:=by rfl):PE X (.Call (.Attribute o "isascii" apos) [] [] cpos) (teM K QX E (mM0 Txt.isascii M)) :=
 PE.imp (pe_bm0 F.plainAttrs_str F.slot_str_isascii F.type_str_isascii mt_asc ho hbase hline) fun σ H Q ⟨w,O,sl,Q0,c,m,q⟩=>⟨w,O,sl,_,c,m,fun x O1 v w1 H1 h1 e1 r1 a1=>by
  split at h1
  ·rw [jh5 a1]
   exact ⟨rfl,_,rfl,rfl,q _ O1 _ w1 H1 h1 e1 r1 (.bl _)⟩
  ·exact h1.elim⟩
theorem me_dig {o:Expr} {M:ME} {apos cpos:Pos} (ho:PE X o (teM K QX E M)) (hbase:attributeBase o "isdigit" X.env (eval o X.env)=eval o X.env:=by rfl) (hline:(apos.endLine == cpos.line)=true:=by rfl):PE X (.Call (.Attribute o "isdigit" apos) [] [] cpos) (teM K QX E (mM0 Txt.isdigit M)) :=
 PE.imp (pe_bm0 F.plainAttrs_str F.slot_str_isdigit F.type_str_isdigit mt_dig ho hbase hline) fun σ H Q ⟨w,O,sl,Q0,c,m,q⟩=>⟨w,O,sl,_,c,m,fun x O1 v w1 H1 h1 e1 r1 a1=>by
  split at h1
  ·rw [jh5 a1]
   exact ⟨rfl,_,rfl,rfl,q _ O1 _ w1 H1 h1 e1 r1 (.bl _)⟩
  ·exact h1.elim⟩
theorem g_strs {g:Hp}:∀ (l:List Str),(∀ p ∈ l,AsB p=true)→TrGs g (l.map V.str) (l.map .str)
 | [],_=>.nil
 | x :: l,h=>.cons (.str x (lay_as (h x List.mem_cons_self))) (g_strs l fun p hp=>h p (List.mem_cons_of_mem _ hp))
def mSpl (M:ME) (Ms:MA):ME:=fun sl O Q=>M sl O fun x O1=>match x with
 | .im (.str z)=>Ms sl O1 fun xs O2=>match xs with
  | [.im (.str y)]=>AsB z=true∧(y.length == 0)=false∧z.length + 2 ≤ sizeLine∧Q (.im (.list ((Txt.split z y).map .str))) O2
  | _=>False
 | _=>False
theorem me_spl {o e:Expr} {M:ME} {Ms:MA} {apos cpos:Pos} (ho:PE X o (teM K QX E M)) (ha:PA X [e] (taM K QX E Ms)) (hbase:attributeBase o "split" X.env (eval o X.env)=eval o X.env:=by rfl)
  (hfew:((backTo cpos (starEach [e] X.env)).all (fun x=>!x.1) && (backToKw cpos (keywordEach [] X.env)).all (fun x=>x.1.isSome) && decide ([e].length + ([]:List Keyword).length + (if ([]:List Keyword).isEmpty then 0 else 1) < 30))=true:=by rfl)
  (hline:(apos.endLine == cpos.line)=true:=by rfl) (hs:starEach [e] X.env=(false,eval e X.env) :: starEach [] X.env:=by rfl):PE X (.Call (.Attribute o "split" apos) [e] [] cpos) (teM K QX E (mSpl M Ms)) :=
 PE.imp (pe_bm F.plainAttrs_str F.slot_str_split F.type_str_split mt_spl ho ha hbase hfew hline hs rfl) fun σ H Q ⟨w,O,sl,Q0,c,m,q⟩=>⟨w,O,sl,_,c,m,fun x O1 v w1 H1 h1 e1 r1 a1=>by
  split at h1
  ·rw [jh5 a1]
   refine ⟨rfl,w1,O1,sl,_,c.ex e1.ex r1,h1,fun xs O2 vs w2 H2 h2 e2 r2 a2=>?_⟩
   split at h2
   ·obtain ⟨v2,us,rfl,h3,h4⟩:=a2.uncons
    rw [h4.unnil,jh5 h3]
    refine ⟨_,_,rfl,rfl,h2.2.1,h2.2.2.1,fun l hl=>?_⟩
    obtain ⟨r4,e4,t4⟩:=new_lst r2 hl (g_strs _ fun p hp=>jf4 h2.1 hp)
    exact q _ O2 _ w2 _ h2.2.2.2 ((e1.trans e2).trans e4) r4 t4
   ·exact h2.elim
  ·exact h1.elim⟩
def strF:MFC:=fun O xs P=>match xs with
 | [.im (.int i)]=>0 ≤ i∧i.natAbs.log2 < 1920∧P (.im (.str (toString i))) O
 | _=>False
theorem as_num {i:Int} (h:0 ≤ i):AsB (toString i)=true:=by
 obtain ⟨n,rfl⟩:=Int.eq_ofNat_of_zero_le h
 exact num_as n
theorem lk_strF:LkC K (fun xs H Q=>∃ i,xs=[.int i]∧i.natAbs.log2 < 1920∧Q (.str (toString i)) H) strF:=fun w O H vs xs P Q r a hf q=>by
 unfold strF at hf
 split at hf
 ·obtain ⟨v,us,rfl,h1,h2⟩:=a.uncons
  rw [h2.unnil,jg4 h1]
  exact ⟨_,rfl,hf.2.1,q _ _ O w H hf.2.2 (Ext.refl _ _ _) r (.str _ (lay_as (as_num hf.1)))⟩
 ·exact hf.elim
def itxF:MFC:=fun O xs P=>match xs with
 | [.im (.str z)]=>∃ n,intText? z=some n∧z.length ≤ 640∧P (.im (.int n)) O
 | _=>False
theorem lk_itx:LkC K (fun xs H Q=>∃ (z:Str) (n:Int),xs=[.str z]∧intText? z=some n∧z.length ≤ 640∧Q (.int n) H) itxF:=fun w O H vs xs P Q r a hf q=>by
 unfold itxF at hf
 split at hf
 ·obtain ⟨v,us,rfl,h1,h2⟩:=a.uncons
  rw [h2.unnil,jh5 h1]
  obtain ⟨n,e1,e2,hf⟩:=hf
  exact ⟨_,n,rfl,e1,e2,q _ _ O w H hf (Ext.refl _ _ _) r (.int _)⟩
 ·exact hf.elim
def lnsF:MFC:=fun O xs P=>match xs with
 | [.im (.str z)]=>z.length ≤ sizeLine∧P (.im (.int z.length)) O
 | _=>False
theorem lk_lns:LkC K (fun xs H Q=>∃ z,xs=[.str z]∧z.length ≤ sizeLine∧Q (.int z.length) H) lnsF:=fun w O H vs xs P Q r a hf q=>by
 unfold lnsF at hf
 split at hf
 ·obtain ⟨v,us,rfl,h1,h2⟩:=a.uncons
  rw [h2.unnil,jh5 h1]
  exact ⟨_,rfl,hf.1,q _ _ O w H hf.2 (Ext.refl _ _ _) r (.int _)⟩
 ·exact hf.elim
def miStr (M:ME):MA:=fun sl O Q=>M sl O fun x O1=>match x with
 | .im (.str z)=>AsB z=true∧Q (z.cps.toList.map fun c=>.im (.str ⟨#[c]⟩)) O1
 | _=>False
theorem items_str {w:Wd} {O:Sto} {H:Hp} {z:Str} (h:AsB z=true):Items K (Its z) w O H (z.cps.toList.map fun c=>.im (.str ⟨#[c]⟩)):=fun O2 w2 H2 e r i=>by
 refine ⟨fun x hx=>?_,fun hl=>by show z.cps.size ≤ i; simpa using hl⟩
 rw [List.getElem?_map] at hx
 cases hd:z.cps.toList[i]? with
 | none=>rw [hd] at hx; cases hx
 | some c =>
  rw [hd] at hx
  cases Option.some.inj hx
  refine ⟨by have:=(List.getElem?_eq_some_iff.mp hd).1; show i < z.cps.size; simpa using this,?_⟩
  rintro v H3 ⟨rfl,c',hc',rfl⟩
  rw [← Array.getElem?_toList,hd] at hc'
  cases Option.some.inj hc'
  exact ⟨Ext.refl _ _ _,r,.str _ (lay_as (as_one (as_iff.mp h c (List.mem_of_getElem? hd))))⟩
theorem mi_str {tg e:Expr} {M:ME} (he:PE X e (teM K QX E M)):PI X tg e (tiM K QX E (miStr M)):=PI.imp (pi_str he) fun σ H R ⟨w,O,sl,Q0,c,m,q⟩=>⟨w,O,sl,_,c,m,fun x O1 v w1 H1 h1 e1 r1 a1=>by
 split at h1
 ·exact ⟨_,jh5 a1,h1.1,q _ O1 w1 H1 _ h1.2 e1 r1 (items_str h1.1)⟩
 ·exact h1.elim⟩
def mFv (M:ME):ME:=fun sl O Q=>M sl O fun x O1=>match x with
 | .im (.int i)=>0 ≤ i∧i.natAbs.log2 < 1920∧Q (.im (.str (toString i))) O1
 | _=>False
theorem me_fv {e:Expr} {M:ME} {pos:Pos} (he:PE X e (teM K QX E M)):PE X (.FormattedValue e (-1) none pos) (teM K QX E (mFv M)):=PE.imp (pe_fv he) fun σ H Q ⟨w,O,sl,Q0,c,m,q⟩=>⟨w,O,sl,_,c,m,fun x O1 v w1 H1 h1 e1 r1 a1=>by
 split at h1
 ·exact ⟨_,jg4 a1,h1.2.1,q _ O1 _ w1 H1 h1.2.2 e1 r1 (.str _ (lay_as (as_num h1.1)))⟩
 ·exact h1.elim⟩
theorem me_fs1 {e:Expr} {M:ME} {pos:Pos} (he:PE X e (teM K QX E M)):PE X (.JoinedStr [e] pos) (teM K QX E M):=pe_fs1 he
def mFs3 (A B C:ME):ME:=fun sl O Q=>A sl O fun x O1=>∃ a:Str,x=.im (.str a)∧AsB a=true∧a.length ≤ sizeLine∧B sl O1 fun y O2=>∃ b:Str,y=.im (.str b)∧AsB b=true∧(a ++ b).length ≤ sizeLine∧C sl O2 fun z O3=>∃ c:Str,z=.im (.str c)∧AsB c=true∧(a ++ b ++ c).length ≤ sizeLine∧Q (.im (.str (a ++ b ++ c))) O3
theorem me_fs3 {a b c:Expr} {A B C:ME} {pos:Pos} (ha:PE X a (teM K QX E A)) (hb:PE X b (teM K QX E B)) (hc:PE X c (teM K QX E C)):PE X (.JoinedStr [a,b,c] pos) (teM K QX E (mFs3 A B C)) :=
 PE.imp (pe_fs3 ha hb hc) fun σ H Q ⟨w,O,sl,Q0,c,m,q⟩=>⟨w,O,sl,_,c,m,fun x O1 v w1 H1 h1 e1 r1 a1=>by
  obtain ⟨a,rfl,sa,la,h1⟩:=h1
  refine ⟨a,jh5 a1,la,w1,O1,sl,_,c.ex e1.ex r1,h1,fun y O2 u w2 H2 h2 e2 r2 a2=>?_⟩
  obtain ⟨b,rfl,sb,lb,h2⟩:=h2
  refine ⟨b,jh5 a2,lb,w2,O2,sl,_,(c.ex e1.ex r1).ex e2.ex r2,h2,fun z O3 u3 w3 H3 h3 e3 r3 a3=>?_⟩
  obtain ⟨d,rfl,sd,ld,h3⟩:=h3
  exact ⟨d,jh5 a3,ld,q _ O3 _ w3 H3 h3 ((e1.trans e2).trans e3) r3 (.str _ (lay_as (je7 (je7 sa sb) sd)))⟩⟩
def isS:PyData→Bool
 | .str _=>true
 | _=>false
theorem me_isistr {e:Expr} {M:ME} {p p2 pos:Pos} (Z:IsS K) (he:PE X e (teM K QX E M)) (hg:Gl X "isinstance") (hm:X.mg "isinstance"=none) (hgT:Gl X "str") (hmT:X.mg "str"=none) (hbT:bootBuiltins "str"=some (.type "str")) (h:X.K=K:=by rfl)
  (hs:starEach [e,.Name "str" p2] X.env=[(false,eval e X.env),(false,eval (.Name "str" p2) X.env)]:=by rfl) (hpl:(backTo pos (starEach [.Name "str" p2] X.env)).any (·.1)=false:=by rfl) :
  PE X (.Call (.Name "isinstance" p) [e,.Name "str" p2] [] pos) (teM K QX E (mIsi isS M)):=PE.imp (pIsi K he hg hm hgT hmT hbT ja6 h (by decide) (by decide) hs hpl) (lift_isi fun d hd=>by
 cases d with
 | none=>exact Z.s1
 | bool b=>exact Z.s2
 | int i=>exact Z.s3
 | str x=>exact Z.s4
 | list x=>exact Z.s5
 | tuple x=>exact Z.s6
 | dict x=>exact absurd rfl (hd x))
theorem me_compX {scope:Scope} {own cap:List Str} {ix:List Nat} {tg iter elt:Expr} {ifs:List Expr} {it:MA} {mg:MG} {C:MT} {M:ME} {pos:Pos} {out:List Env} {L:Addr} (hst:X.stack=X.env :: out) (hfr:X.env.frame=some L) (hpx:Passes (CXF X.prog X.w) X E) (B:BlkOk X scope own cap ix) (hc:X.calm=true) (hi:PI X tg iter (tiM K QX E it)) (hk:Keeps own.length mg)
  (hb:∀ C' fp s H,Passes (CXF X.prog X.w) (cxCX X E scope C' (own ++ cap) fp s H) E→PG (cxCX X E scope C' (own ++ cap) fp s H) tg (tgM K QX E mg)∧PIfs (cxCX X E scope C' (own ++ cap) fp s H) ifs (ttM K QX E C)∧PE (cxCX X E scope C' (own ++ cap) fp s H) elt (teM K QX E M))
  (hs:∀ x,foldedSetIterable iter X.env x=pure x:=by intro _; rfl):PE X (.ListComp elt [⟨tg,iter,ifs,0⟩] scope pos) (teM K QX E (mComp own.length ix it mg C M)):=PE.imp (pe_compX hst hfr hpx B hc hi hb hs) (lift_comp hk)
end
end MI
namespace L2
open PySem PySem.Spec PyProof.Rows
def gStar (t:TGs):TG:=fun v σ H Q=>∃ a x xs,v=.ref a∧SqL K0 H a (x :: xs)∧∀ l,H l=none→t [x,.ref l] σ (upd H l (.lst xs)) Q
theorem pg_star {X:Cx} {es:List Expr} {k:Nat} {t:TGs} {pos:Pos} (hc:X.calm=true) (h:PGs X es t)
  (hn:(assignEach es X.env).length=2:=by rfl) (hst:(assignEach es X.env).findIdx? (·.1)=some 1:=by rfl):PG X (.Tuple es k pos) (gStar t):=by
 intro pins s σ H v u Q I r hw
 obtain ⟨a,x,xs,e1,hq,hw⟩:=hw
 subst e1
 cases r
 obtain ⟨its,rv,ht,hz⟩:=I.list hq.k0
 rw [assign_Tuple]
 refine wpAny_bind (wpAny_standAt ?_)
 unfold unpack
 rw [hn,hst]
 have hp:a < s.heap.objs.size:=by obtain ⟨o,n,e,_⟩:=ht; exact Heap.lt_size e
 cases rv with
 | cons r1 r2=>?_
 rename_i y ys
 have hl2:=r2.length
 have hz':xs.length + 1 ≤ sizeLine:=hz
 refine wpAny_bind (wpAny_holding ?_)
 unfold unpackItems notIterableAtAll
 refine wpAny_bind (wpAny_bind (wpAny_specialOf ht.isList.typeIs F.slot_list_iter.lookup ?_))
 rw [if_pos (by rfl)]
 refine wpAny_pure ?_
 rw [if_neg (by decide)]
 refine wpAny_bind (wpAny_holding (wpAny_pyIter_list ht.isList ?_))
 refine wpAny_bind (wpAny_holding ?_)
 refine PySem.W.kun_draw (it:=s.heap.objs.size) (l:=a) (items:=(y :: ys).toArray) (Nat.ne_of_lt hp) 1 0 _ _ ⟨_,Heap.get?_push_size _ rfl,rfl,rfl⟩ (ht.isList.push _) (by simp) fun h1 st1 sb1=>?_
 show wpAny _ _ (if ([y]:List Value).length < 1 then _ else _) _ _ _
 rw [if_neg (by simp)]
 refine wpAny_bind (wpAny_holding ?_)
 have hA:X.A.in1.handled=none:=I.ok.hd hc
 have W:=Walks.list (prog:=X.prog) (w:=X.w) (A:=X.A.in1) hA s.heap.objs.size a (Nat.ne_of_lt hp) (y :: ys).toArray
 have hI1:h1.IsList a (y :: ys).toArray:=by
  have:=ht.isList.push { cls:=.type "list_iterator",data:=.fields #[.ref a,.int 0 0] }
  obtain ⟨o,e,c,d⟩:=this
  exact ⟨o,(sb1.2 a (Nat.ne_of_lt hp)).trans e,c,d⟩
 have hsz:h1.objs.size=s.heap.objs.size + 1:=by
  have:=sb1.1
  rw [Heap.size_push] at this
  omega
 refine PySem.W.kun_collect (T:="list_iterator") (I:=s.heap.objs.size) (ax:=a) (k:=1) (.inr (.inr (.inl rfl))) W (fun i u st=>?_) (by simp) ⟨st1,hI1⟩ (by show s.heap.objs.size < h1.objs.size; omega) (Nat.lt_of_lt_of_le hp (by show s.heap.objs.size ≤ h1.objs.size; omega)) (fun h2 tk kk=>?_) (by show ys.length + 1 ≤ sizeLine; omega)
 ·obtain ⟨⟨o,e,c,d⟩,_⟩:=st
  exact ⟨o,e,c⟩
 show wpAny _ _ (if ys.length < 2 - 1 - 1 then _ else _) _ _ _
 rw [if_neg (by omega)]
 have ke:∀ b o,s.heap.get? b=some o→h2.get? b=some o:=fun b o e=>by
  have hb:=Nat.ne_of_lt (Heap.lt_size e)
  exact kk b o hb ((sb1.2 b hb).trans (Heap.get?_push_of_some _ e))
 have I2:Inv X pins σ H { s with heap:=h2,toks:=tk }:=I.kept ke
 refine wpAny_bind (wpAny_newList (s:={ s with heap:=h2,toks:=tk }) ?_ (Nat.le_trans (List.length_take_le' _ _) (by show ys.length ≤ sizeLine; omega)))
 refine wpAny_pure ?_
 have hmid:ys.length - (2 - 1 - 1)=ys.length:=by omega
 show wpAny _ _ (assignInOrder _ (List.take 1 (List.drop 0 (y :: ys)) ++ [Value.ref h2.objs.size] ++ List.drop (ys.length - (2 - 1 - 1)) (List.drop 1 (y :: ys)))) _ _ { s with heap:=h2.push { cls:=.type "list",data:=.seq (List.take (ys.length - (2 - 1 - 1)) (List.drop 1 (y :: ys))).toArray },toks:=tk }
 rw [hmid]
 simp only [List.drop_zero,List.take_succ_cons,List.take_zero,List.drop_succ_cons,List.drop_length,List.take_length,List.append_nil]
 have I3:=I2.lnew (its:=ys) (ys:=xs) (t':=tk) r2 (by omega)
 exact h pins _ σ _ [x,.ref h2.objs.size] [y,.ref h2.objs.size] Q I3 (.cons r1 (.cons rfl .nil)) (hw _ I2.fresh)
end L2
namespace L2
open PySem PySem.Spec PyProof.Rows
section
variable {X:Cx}
def totL (l:List Str):Nat:=(l.map fun z=>z.length + 1).sum
theorem strs_are:∀ {zs:List Str} {us:List Value},Vals (zs.map V.str) us→StrsAre us zs
 | [],_,r=>by cases r; exact .nil
 | z :: zs,_,r=>by
  rw [List.map_cons] at r
  cases r with
  | cons r1 r2 =>
   obtain ⟨t,rfl⟩:=r1
   exact .cons _ t (strs_are r2)
theorem tot_sum (l:List Str):(l.map (·.length)).sum + l.length=totL l:=by
 unfold totL
 induction l with
 | nil=>rfl
 | cons z l ih=>simp only [List.map_cons,List.sum_cons,List.length_cons]; omega
def rJoiL:V→List V→Hp→VK→Prop:=fun x vs H Q=>∃ (y:Str) (p:Addr) (zs:List Str),x=.str y∧vs=[.ref p]∧SqL K0 H p (zs.map V.str)∧y.length=1∧totL zs ≤ 1000000∧Q (.str (Txt.join y zs)) H
theorem mt_joiL:MtR X "str.join" rJoiL:=by
 intro pins s σ H x vs v us Q I rx rv h
 obtain ⟨y,p,zs,rfl,rfl,hq,hy,hn,q⟩:=h
 obtain ⟨t,rfl⟩:=rx
 obtain ⟨u,rfl,ru⟩:=rv.one
 cases ru
 obtain ⟨its,r,hl,_⟩:=I.list hq.k0
 have:=tot_sum zs
 refine join_list (ys:=zs) hl.isList (by simpa using strs_are r) (by rw [hy]; omega) fun t' k=>?_
 exact ⟨.str _,H,I.tok k,⟨_,rfl⟩,q⟩
def revX (n:Nat):List Nat:=sliceRange (sliceBounds none none (some (-1)) n).1 (sliceBounds none none (some (-1)) n).2.1 (sliceBounds none none (some (-1)) n).2.2
def pickX {α : Type} (ix:List Nat) (xs:List α):List α:=ix.filterMap fun i=>xs[i]?
theorem pick_vals {xs:List V} {us:List Value} (r:Vals xs us):∀ ix:List Nat,Vals (pickX ix xs) (pickX ix us)
 | []=>.nil
 | i :: ix=>by
  unfold pickX
  rw [List.filterMap_cons,List.filterMap_cons]
  have hl:=r.length
  rcases Nat.lt_or_ge i xs.length with y | y
  ·have hx:=List.getElem?_eq_getElem y
   obtain ⟨u,hu,ru⟩:=r.get hx
   rw [hx,hu]
   exact .cons ru (pick_vals r ix)
  ·rw [List.getElem?_eq_none y,List.getElem?_eq_none (by omega)]
   exact pick_vals r ix
theorem pick_len {α : Type} (ix:List Nat) (xs:List α):(pickX ix xs).length ≤ ix.length:=List.length_filterMap_le _ _
theorem revX_len (n:Nat):(revX n).length ≤ n:=by
 unfold revX sliceBounds sliceRange
 simp only [List.length_map,List.length_range]
 have h:¬ ((-1:Int) > 0):=by decide
 simp only [Option.getD_some,if_neg h,Int.neg_neg,Int.ediv_one]
 split <;> omega
def tRevL (te:TE) (ts:TO):TE:=fun σ H Q=>te σ H fun x H1=>ts σ H1 fun k H2=>k=some (-1)∧∃ a xs,x=.ref a∧SqL K0 H2 a xs∧∀ l,H2 l=none→Q (.ref l) (upd H2 l (.lst (pickX (revX xs.length) xs)))
theorem pe_revL {e:Expr} {te:TE} {st:Option Expr} {ts:TO} {pos p2:Pos} (he:PE X e te) (hk:PO X st ts) (hq:∀ (a b:Addr),subscripted (.Slice none none st p2) false (.ref b) (.ref a)=operate [.ref b,.ref a] (getItem (.ref b) (.ref a)):=by intros; with_unfolding_all rfl):PE X (.Subscript e (.Slice none none st p2) pos) (tRevL te ts):=by
 intro pins s σ H Q I h
 refine Subscript_ (thn (he pins s σ H _ I h) fun v s1 ⟨x,H1,I1,r1,q1⟩=>?_)
 refine wpAny_Slice ?_
 rw [evalPart_none]
 refine wpAny_pure (wpAny_pure (thn (hk pins s1 σ H1 _ I1 q1) fun vk s4 ⟨k,H4,I4,pk,q4⟩=>?_))
 obtain ⟨rfl,a,xs,rfl,hx,q⟩:=q4
 cases r1
 have I5:Inv X pins σ H4 { s4 with heap:=s4.heap.push { cls:=.type "slice",data:=.fields #[.none,.none,vk] } }:=I4.kept (t':=s4.toks) fun b ob q=>Heap.get?_push_of_some _ q
 obtain ⟨its,r,hl,hz⟩:=I5.list hx.k0
 have hlen:=r.length
 show wpAny (model X.prog X.w) X.A (subscriptTail e (.Slice none none st p2) (.ref a) (.ref s4.heap.objs.size)) (EP X pins σ Q) X.xe { s4 with heap:=s4.heap.push { cls:=.type "slice",data:=.fields #[.none,.none,vk] } }
 refine tail_any (ops:=[.ref a,.ref s4.heap.objs.size]) hl.isList.typeIs F.slot_list_getitem.lookup (wpAny_getItem_list_slice hl.isList (Heap.IsSliceOf.new ..) .none .none pk (by decide) ?_ (by rw [List.size_toArray]; omega)) (hq _ _)
 have hpk:slicePick its.toArray none none (some (-1))=(pickX (revX xs.length) its).toArray:=by
  unfold slicePick pickX revX
  rw [List.size_toArray,hlen]
  simp
 rw [hpk]
 exact ⟨.ref _,_,I5.lnew (t':=_) (pick_vals r _) (Nat.le_trans (pick_len _ _) (Nat.le_trans (revX_len _) hz)),rfl,q _ I5.fresh⟩
def rInT:R2:=fun x y H Q=>x=.non∧∃ p xs,y=.ref p∧SqT K0 H p xs∧(∀ z ∈ xs,z=.non ∨ ∃ a ys,z=.ref a∧SqT K0 H a ys)∧Q (.bl (xs.any fun z=>decide (z=.non))) H
theorem op_inT (hu:X.A.units + 2 < cLine):OpR X (compareOp .In) rInT:=by
 intro pins s σ H x y v u Q I rx ry h
 obtain ⟨rfl,p,xs,rfl,hq,hz,q⟩:=h
 cases rx
 cases ry
 obtain ⟨its,r,pl,_⟩:=I.tuple hq.k0
 have key:∀ {xs:List V} {us:List Value},Vals xs us→(∀ z ∈ xs,z=.non ∨ ∃ a ys,z=.ref a∧SqT K0 H a ys)→(∀ y ∈ us,SeqAt.EqAt X.A.in1 s y .none (decide (y=.none)))∧us.any (fun y=>decide (y=.none))=xs.any fun z=>decide (z=.non):=by
  intro xs us r
  induction r with
  | nil=>intro _; exact ⟨fun y hy=>(by cases hy),rfl⟩
  | cons r1 r2 ih =>
   intro hz
   rename_i z u zs us
   obtain ⟨h1,h2⟩:=ih fun z hz'=>hz z (List.mem_cons_of_mem _ hz')
   rcases hz z List.mem_cons_self with rfl | ⟨a,ys,rfl,ha⟩
   ·cases r1
    refine ⟨fun y hy=>?_,by rw [List.any_cons,List.any_cons,h2]; rfl⟩
    rcases List.mem_cons.mp hy with rfl | hy
    ·exact SeqAt.EqAt.same _
    ·exact h1 y hy
   ·cases r1
    obtain ⟨its',_,pl',_⟩:=I.tuple ha.k0
    refine ⟨fun y hy=>?_,by rw [List.any_cons,List.any_cons,h2]; rfl⟩
    rcases List.mem_cons.mp hy with rfl | hy
    ·exact SeqAt.EqAt.tuple_none pl' (by show X.A.in1.units < cLine; show X.A.units + 1 < cLine; omega)
    ·exact h1 y hy
 obtain ⟨k1,k2⟩:=key r hz
 refine SeqAt.in_tupleAt (fun y=>decide (y=.none)) pl (fun w hw=>k1 w (by simpa using hw)) ⟨.bl _,H,I,rfl,?_⟩
 rw [show its.toArray.any (fun y=>decide (y=.none))=its.any fun y=>decide (y=.none) by simp,k2]
 exact q
end
end L2
namespace TX
open PySem L2
def one (c:Nat):Str:=⟨#[c]⟩
theorem txt_join (y:Str) (zs:List Str):Txt.join y zs=y.join zs:=PySem.StrLaws.glued_eq_join y zs
theorem join_cons (y a b:Str) (l:List Str):y.join (a :: b :: l)=a ++ y ++ y.join (b :: l):=rfl
theorem as_join {y:Str} (hy:AsB y=true):∀ {zs:List Str},(∀ z ∈ zs,AsB z=true)→AsB (y.join zs)=true
 | [],_=>as_empty
 | [a],h=>h a List.mem_cons_self
 | a :: b :: l,h=>by
  rw [join_cons]
  exact je7 (je7 (h a List.mem_cons_self) hy) (as_join hy fun z hz=>h z (List.mem_cons_of_mem _ hz))
theorem len_join {y:Str} (hy:y.length=1):∀ {zs:List Str},zs ≠ []→(y.join zs).length + 1=totL zs
 | [],h=>absurd rfl h
 | [a],_=>by
  show a.length + 1=_
  simp [totL]
 | a :: b :: l,_=>by
  have:=len_join hy (zs:=b :: l) (by simp)
  rw [join_cons,jd7,jd7,hy]
  unfold totL at this ⊢
  rw [List.map_cons,List.sum_cons]; omega
theorem jg2 {y:Str} (hy:y.length=1) (zs:List Str):(y.join zs).length ≤ totL zs:=by
 cases zs with
 | nil=>show 0 ≤ _; omega
 | cons a l=>have:=len_join hy (zs:=a :: l) (by simp); omega
theorem join_list1 {c:Nat} (a b:Str) (l:List Str):((one c).join (a :: b :: l)).cps.toList=a.cps.toList ++ c :: ((one c).join (b :: l)).cps.toList:=by
 rw [join_cons,PySem.W.KT.app_list,PySem.W.KT.app_list]
 simp [one]
theorem join_inj {c:Nat}:∀ {ps zs:List Str},ps ≠ []→zs ≠ []→(∀ p ∈ ps,c ∉ p.cps.toList)→(∀ z ∈ zs,c ∉ z.cps.toList)→(one c).join ps=(one c).join zs→ps=zs
 | [],_,h,_,_,_,_=>absurd rfl h
 | _,[],_,h,_,_,_=>absurd rfl h
 | [p],[z],_,_,_,_,h=>by rw [show p=z from h]
 | [p],z :: z2 :: l,_,_,hp,_,h=>by
  have:=congrArg (fun s:Str=>s.cps.toList) h
  simp only [join_list1] at this
  exact absurd (by rw [show p.cps.toList=_ from this]; simp) (hp p List.mem_cons_self)
 | p :: p2 :: l,[z],_,_,_,hz,h=>by
  have:=congrArg (fun s:Str=>s.cps.toList) h
  simp only [join_list1] at this
  exact absurd (by rw [show z.cps.toList=_ from this.symm]; simp) (hz z List.mem_cons_self)
 | p :: p2 :: l,z :: z2 :: m,_,_,hp,hz,h=>by
  have:=congrArg (fun s:Str=>s.cps.toList) h
  simp only [join_list1] at this
  obtain ⟨e1,e2⟩:=first_cut (hp p List.mem_cons_self) (hz z List.mem_cons_self) this
  have:=join_inj (c:=c) (ps:=p2 :: l) (zs:=z2 :: m) (by simp) (by simp) (fun q hq=>hp q (List.mem_cons_of_mem _ hq)) (fun q hq=>hz q (List.mem_cons_of_mem _ hq)) (PyProof.Rows.ext_toList e2)
  rw [PyProof.Rows.ext_toList e1,this]
theorem split_join {c:Nat} {zs:List Str} (h:zs ≠ []) (hz:∀ z ∈ zs,c ∉ z.cps.toList):Txt.split ((one c).join zs) (one c)=zs:=by
 refine join_inj (c:=c) ?_ h (fun p hp=>PySem.StrLaws.split_free _ c p hp) hz (PySem.StrLaws.join_split _ _)
 intro e
 have:=PyProof.Rows.split_pos ((one c).join zs) (one c)
 rw [e] at this; simp at this
theorem tot_split {c:Nat} (x:Str):totL (Txt.split x (one c))=x.length + 1:=by
 have h:=PyProof.Rows.split_pos x (one c)
 have:=len_join (y:=one c) rfl (zs:=Txt.split x (one c)) (fun e=>by rw [e] at h; simp at h)
 rw [PySem.StrLaws.join_split] at this; exact this.symm
theorem tot_app (a b:List Str):totL (a ++ b)=totL a + totL b:=by unfold totL; rw [List.map_append,List.sum_append]
theorem tot_sub {a b:List Str} (h:a.Sublist b):totL a ≤ totL b:=by
 induction h with
 | slnil=>exact Nat.le_refl _
 | cons a h ih=>unfold totL at ih ⊢; rw [List.map_cons,List.sum_cons]; omega
 | cons_cons a h ih=>unfold totL at ih ⊢; rw [List.map_cons,List.sum_cons,List.map_cons,List.sum_cons]; omega
end TX
namespace MI
open PySem L2 KG EX KM TX
section
variable {K:PySem.W.Frag} {QX:Addr→Sto→Prop} {E:XK} {X:Cx}
def mgStar (t:MGs):MG:=fun x sl O Q=>match x with
 | .im (.list (d :: ds))=>t [.im d,.im (.list ds)] sl O Q
 | _=>False
theorem mg_star {es:List Expr} {k:Nat} {t:MGs} {pos:Pos} (hc:X.calm=true) (h:PGs X es (tgsM K QX E t)) (hn:(assignEach es X.env).length=2:=by rfl) (hst:(assignEach es X.env).findIdx? (·.1)=some 1:=by rfl):PG X (.Tuple es k pos) (tgM K QX E (mgStar t)) :=
 PG.imp (pg_star hc h hn hst) fun v σ H Q ⟨w,O,sl,x,Q0,c,a,m,q⟩=>by
  unfold mgStar at m
  split at m
  ·obtain ⟨p,us,rfl,h1,t1⟩:=g_lst a
   cases t1 with
   | cons t1 t2=>?_
   rename_i x xs
   refine ⟨p,x,xs,rfl,SqL.of h1,fun l hl=>?_⟩
   obtain ⟨r1,e1,t3⟩:=new_lst c.ro hl t2
   exact ⟨w,O,sl,_,_,c.ex e1.ex r1,AVrs.cons (x:=.im _) (TrG.stay e1.ex.stay t1) (AVrs.cons (x:=.im _) t3 AVrs.nil),m,fun sl2 O2 w2 H2 σ2 h2 c2 e2=>q sl2 O2 w2 H2 σ2 h2 c2 (e1.trans e2)⟩
  ·exact m.elim
def mJoi (M:ME) (Ms:MA):ME:=fun sl O Q=>M sl O fun x O1=>match x with
 | .im (.str y)=>Ms sl O1 fun xs O2=>∃ zs:List Str,xs=[.im (.list (zs.map .str))]∧AsB y=true∧y.length=1∧(∀ z ∈ zs,AsB z=true)∧totL zs ≤ 1000000∧Q (.im (.str (y.join zs))) O2
 | _=>False
theorem g_vstrs {g:Hp}:∀ {zs:List Str} {vs:List V},TrGs g vs (zs.map .str)→vs=zs.map V.str
 | [],_,h=>by cases h; rfl
 | z :: zs,_,h=>by
  cases h with | cons h1 h2=>rw [jh5 h1,g_vstrs h2]; rfl
theorem me_joi {o e:Expr} {M:ME} {Ms:MA} {apos cpos:Pos} (ho:PE X o (teM K QX E M)) (ha:PA X [e] (taM K QX E Ms)) (hbase:attributeBase o "join" X.env (eval o X.env)=eval o X.env:=by rfl)
  (hfew:((backTo cpos (starEach [e] X.env)).all (fun x=>!x.1) && (backToKw cpos (keywordEach [] X.env)).all (fun x=>x.1.isSome) && decide ([e].length + ([]:List Keyword).length + (if ([]:List Keyword).isEmpty then 0 else 1) < 30))=true:=by rfl)
  (hline:(apos.endLine == cpos.line)=true:=by rfl) (hs:starEach [e] X.env=(false,eval e X.env) :: starEach [] X.env:=by rfl):PE X (.Call (.Attribute o "join" apos) [e] [] cpos) (teM K QX E (mJoi M Ms)) :=
 PE.imp (pe_bm F.plainAttrs_str F.slot_str_join F.type_str_join mt_joiL ho ha hbase hfew hline hs rfl) fun σ H Q ⟨w,O,sl,Q0,c,m,q⟩=>⟨w,O,sl,_,c,m,fun x O1 v w1 H1 h1 e1 r1 a1=>by
  split at h1
  ·rw [jh5 a1]
   refine ⟨rfl,w1,O1,sl,_,c.ex e1.ex r1,h1,fun xs O2 vs w2 H2 h2 e2 r2 a2=>?_⟩
   obtain ⟨zs,rfl,ay,ly,az,tz,h2⟩:=h2
   obtain ⟨v2,us,rfl,h3,h4⟩:=a2.uncons
   obtain ⟨p,us',rfl,g1,t1⟩:=g_lst h3
   rw [g_vstrs t1] at g1
   rw [h4.unnil]
   refine ⟨_,p,zs,rfl,rfl,SqL.of g1,ly,tz,?_⟩
   rw [txt_join]
   exact q _ O2 _ w2 _ h2 (e1.trans e2) r2 (.str _ (lay_as (as_join ay az)))
  ·exact h1.elim⟩
theorem pick_tr {g:Hp} {xs:List V} {ds:List PyData} (t:TrGs g xs ds):∀ ix:List Nat,TrGs g (pickX ix xs) (pickX ix ds)
 | []=>.nil
 | i :: ix=>by
  unfold pickX
  rw [List.filterMap_cons,List.filterMap_cons]
  have hl:=t.len
  rcases Nat.lt_or_ge i xs.length with y | y
  ·have hx:=List.getElem?_eq_getElem y
   obtain ⟨u,hu,ru⟩:=t.at hx
   rw [hx,hu]
   exact .cons ru (pick_tr t ix)
  ·rw [List.getElem?_eq_none y,List.getElem?_eq_none (by omega)]
   exact pick_tr t ix
def mRvL (M:ME):ME:=fun sl O Q=>M sl O fun x O1=>match x with
 | .im (.list ds)=>Q (.im (.list (pickX (revX ds.length) ds))) O1
 | _=>False
theorem me_rvL {M:ME} {e:Expr} {p2 p3 p4 pos:Pos} {j:Nat} (he:PE X e (teM K QX E M)):PE X (.Subscript e (.Slice none none (some (.UnaryOp .USub (.Constant (.int 1) j p3) p4)) p2) pos) (teM K QX E (mRvL M)) :=
 PE.imp (pe_revL he (jb9 (K:=K) (QX:=QX) (E:=E) (me_neg ja9))) fun σ H Q ⟨w,O,sl,Q0,c,m,q⟩=>⟨w,O,sl,_,c,m,fun x O1 v w1 H1 h1 e1 r1 a1=>⟨w1,O1,sl,fun l O'=>l=some (-1)∧O'=O1,c.ex e1.ex r1,⟨rfl,rfl⟩,fun k O4 w4 H4 h4 e4 r4=>by
  have a4:=a1.ex e4.ex
  have e14:=e1.trans e4
  obtain ⟨rfl,rfl⟩:=h4
  refine ⟨rfl,?_⟩
  split at h1
  ·obtain ⟨p,us,rfl,g1,t1⟩:=g_lst a4
   refine ⟨p,us,rfl,SqL.of g1,fun l hl=>?_⟩
   obtain ⟨r5,e5,t5⟩:=new_lst r4 hl (pick_tr t1 (revX us.length))
   rw [t1.len] at t5 e5 r5 ⊢
   exact q _ _ _ w4 _ h1 (e14.trans e5) r5 t5
  ·exact h1.elim⟩⟩
def ninT:PyData→Bool
 | .none=>true
 | .tuple _=>true
 | _=>false
def nInT:MF2:=fun O x y P=>match x,y with
 | .im .none,.im (.tuple ds)=>ds.all ninT=true∧P (.im (.bool (ds.any jg3))) O
 | _,_=>False
theorem ninT_tr {w:Wd} {O:Sto} {H:Hp}:∀ {ds:List PyData} {vs:List V},TrGs (G w O H) vs ds→ds.all ninT=true→(∀ z ∈ vs,z=.non ∨ ∃ a ys,z=.ref a∧SqT K0 H a ys)∧(vs.any fun z=>decide (z=.non))=ds.any jg3
 | [],_,.nil,_=>⟨fun z hz=>(by cases hz),rfl⟩
 | d :: ds,_,.cons h t,n=>by
  rw [List.all_cons,Bool.and_eq_true] at n
  obtain ⟨h1,h2⟩:=ninT_tr t n.2
  rw [List.any_cons,List.any_cons,h2]
  cases h with
  | non =>
   refine ⟨fun z hz=>?_,rfl⟩
   rcases List.mem_cons.mp hz with rfl | hz
   ·exact .inl rfl
   ·exact h1 z hz
  | tup g1 t1 =>
   refine ⟨fun z hz=>?_,rfl⟩
   rcases List.mem_cons.mp hz with rfl | hz
   ·exact .inr ⟨_,_,rfl,SqT.of (G_in g1).1⟩
   ·exact h1 z hz
  | _=>cases n.1
theorem lk_nInT:Lk2 K rInT nInT:=fun w O H v u x y P Q r a b hf q=>by
 unfold nInT at hf
 split at hf
 ·obtain ⟨p1,us,rfl,h1,t1⟩:=g_tup b
  obtain ⟨h2,h3⟩:=ninT_tr t1 hf.1
  refine ⟨g_non a,p1,us,rfl,SqT.of h1,h2,?_⟩
  rw [h3]
  exact q _ _ O w H hf.2 (Ext.refl _ _ _) r (.bl _)
 ·exact hf.elim
abbrev mulW:MF2:=int2 CMul fun i j=>.int (i * j)
theorem mo_mulW {Ma Mb:ME} {a b:Expr} {pos:Pos} (ha:PE X a (teM K QX E Ma)) (hb:PE X b (teM K QX E Mb)):PE X (.BinOp a .Mult b pos) (teM K QX E (mOp mulW Ma Mb)):=me_op op_mul (lk_int2 fun _ _ _=>.int _) ha hb
end
end MI
namespace L2
open PySem PySem.Spec PyProof.Rows
theorem pgs_star {X:Cx} {e:Expr} {es:List Expr} {t:TG} {u:TGs} {p:Pos} (h1:PG X e t) (h2:PGs X es u)
  (hs:(assignEach (.Starred e p :: es) X.env).map (·.2)=assign e X.env :: (assignEach es X.env).map (·.2):=by rfl):PGs X (.Starred e p :: es) (gCons t u):=by
 intro pins s σ H vs us Q I r h
 obtain ⟨v,vr,e1,h⟩:=h
 subst e1
 cases r with
 | cons r1 r2 =>
  rw [hs]
  refine assignInOrder_cons (thn (h1 pins s σ H _ _ _ I r1 h) fun _ s1 ⟨σ1,H1,I1,q1⟩=>?_)
  exact h2 pins s1 σ1 H1 _ _ Q I1 r2 q1
theorem or_inT {X:Cx} (hu:X.A.units + 64 < cLine):OpR X (compareOp .In) rInT:=op_inT (by omega)
end L2
namespace MI
open PySem L2 KG EX KM
theorem mgs_star {K:PySem.W.Frag} {QX:Addr→Sto→Prop} {E:XK} {X:Cx} {e:Expr} {es:List Expr} {t:MG} {u:MGs} {p:Pos} (h1:PG X e (tgM K QX E t)) (h2:PGs X es (tgsM K QX E u)) (hs:(assignEach (.Starred e p :: es) X.env).map (·.2)=assign e X.env :: (assignEach es X.env).map (·.2):=by rfl):PGs X (.Starred e p :: es) (tgsM K QX E (mgCons t u)):=PGs.imp (pgs_star h1 h2 hs) fun v σ H Q ⟨w,O,sl,x,Q0,c,a,m,q⟩=>by
 unfold mgCons at m
 split at m
 ·obtain ⟨v1,us,rfl,a1,a2⟩:=a.uncons
  exact ⟨v1,us,rfl,w,O,sl,_,_,c,a1,m,fun sl1 O1 w1 H1 σ1 h1 c1 e1=>⟨w1,O1,sl1,_,_,c1,a2.ex e1.ex,h1,fun sl2 O2 w2 H2 σ2 h2 c2 e2=>q sl2 O2 w2 H2 σ2 h2 c2 (e1.trans e2)⟩⟩
 ·exact m.elim
end MI
set_option exponentiation.threshold 20000
namespace MI
open PySem L2 KG EX KM TX
abbrev numS (n:Int):Str:=Str.ofString (toString n)
def rdF (x:Str):Option (Int × Int):=if (Txt.split x slash).all fig=true then (match Txt.split x slash with
 | [p]=>some (dv p,1)
 | [p,q]=>if 2 ≤ dv q∧Int.gcd (dv p) (dv q)=1 then some (dv p,dv q) else none
 | _=>none) else none
def rdD:PyData→Option (Int × Int)
 | .str x=>rdF x
 | _=>none
def duD:Option (Int × Int)→PyData
 | some (a,b)=>.tuple [.int a,.int b]
 | none=>.none
theorem jh4 {n:Nat} (h:n < 10 ^ 31):n.log2 < 1920:=by
 by_cases h0:n=0
 ·subst h0; decide
 ·exact (Nat.log2_lt h0).mpr (Nat.lt_of_lt_of_le h (by decide +kernel))
theorem sl_eq:Str.ofString "/"=slash:=by decide +kernel
def ftS (a b:Nat):Str:=if b=1 then numS a else numS a ++ slash ++ numS b
def fFt:FM:=fun O xs P _=>∃ a b:Nat,xs=[.im (.tuple [.int a,.int b])]∧a < 10 ^ 31∧b < 10 ^ 31∧P (.im (.str (ftS a b))) O
abbrev NFt:List Str:=["number","top","bottom"]
def mFt:MS:=(mSeq (mAsg (mVar 0) (mgT 2 (mgCons (mgN 1) (mgCons (mgN 2) mgNil))))
 (mRet (mIf (mTst (mOp (eqF false) (mVar 2) (mC (.int 1)))) (mFv (mVar 1)) (mFs3 (mFv (mVar 1)) (mC (.str "/")) (mFv (mVar 2))))))
theorem num31 {n:Nat} (h:n < 10 ^ 31):(numS n).length ≤ 31:=num_len (by decide) h
theorem rd_ft:∀ O xs Pq QX,fFt O xs Pq QX→mFt { nx:=fun _ O'=>Pq (.im .none) O',rt:=Pq } (startS NFt xs) O:=by
 intro O xs Pq QX h
 obtain ⟨a,b,rfl,ha,hb,h⟩:=h
 have la:=num31 ha
 have lb:=num31 hb
 refine ⟨rfl,⟨?_⟩⟩
 show mRet _ _ [some (.im (.tuple [.int a,.int b])),some (.im (.int a)),some (.im (.int b))] O
 refine ⟨by show min 0 0 ≤ 60; decide,fun hc=>?_,fun hc=>?_⟩
 ·have e:(b:Int)=1:=of_decide_eq_true hc
  refine ⟨Int.natCast_nonneg a,jh4 ha,?_⟩
  have:ftS a b=numS a:=if_pos (by omega)
  rw [this] at h; exact h
 ·have e:(b:Int) ≠ 1:=of_decide_eq_false hc
  have:ftS a b=numS a ++ Str.ofString "/" ++ numS b:=by rw [sl_eq]; exact if_neg (by omega)
  rw [this] at h
  have l1:(Str.ofString "/").length=1:=by decide +kernel
  refine ⟨Int.natCast_nonneg a,jh4 ha,numS a,rfl,num_as a,by rw [sz]; omega,_,rfl,by decide +kernel,by rw [jd7,sz,l1]; omega,Int.natCast_nonneg b,jh4 hb,numS b,rfl,num_as b,by rw [jd7,jd7,sz,l1]; omega,h⟩
def fNeT (Tx:Addr):FM:=fun O xs P PX=>∃ d,xs=[.im d]∧(isS d=true→P (.im .none) O)∧(isS d=false→PX Tx O)
abbrev NNt:List Str:=["thing"]
def mNeT (QX:Addr→Sto→Prop) (Tx:Addr):MS:=(mIfS (mNot (mTst (mIsi isS (mVar 0)))) (mRaise QX Tx (mCons (mC (.str "this is no text")) mNil)) mNext)
theorem rd_net (Tx:Addr):∀ O xs Pq QX,fNeT Tx O xs Pq QX→mNeT QX Tx { nx:=fun _ O'=>Pq (.im .none) O',rt:=Pq } (startS NNt xs) O:=by
 intro O xs Pq QX h
 obtain ⟨d,rfl,h1,h2⟩:=h
 refine ⟨fun hc=>⟨len1,h2 (by simpa using hc)⟩,fun hc=>h1 (by simpa using hc)⟩
theorem dv_lt:∀ (l:List Nat) (a:Nat),NumText.AllDigits l→l.foldl (fun acc c=>acc * 10 + (c - 48)) a < (a + 1) * 10 ^ l.length
 | [],a,_=>by simp
 | c :: l,a,h=>by
  have h1:=h c List.mem_cons_self
  have:=dv_lt l (a * 10 + (c - 48)) fun d hd=>h d (List.mem_cons_of_mem _ hd)
  rw [List.foldl_cons,List.length_cons,Nat.pow_succ]
  refine Nat.lt_of_lt_of_le this ?_
  rw [Nat.mul_comm (10 ^ l.length) 10,← Nat.mul_assoc]
  exact Nat.mul_le_mul_right _ (by omega)
theorem dv_bd {l:List Nat} (h:NumText.AllDigits l) (hl:l.length ≤ 1000):NumText.digitsVal l < 2 ^ 4000:=by
 have:=dv_lt l 0 h
 rw [Nat.zero_add,Nat.one_mul] at this
 refine Nat.lt_of_lt_of_le this ?_
 refine Nat.le_trans (Nat.pow_le_pow_right (by decide) hl) ?_
 decide +kernel
theorem dv_snoc (l:List Nat) (c:Nat):NumText.digitsVal (l ++ [c])=NumText.digitsVal l * 10 + (c - 48):=by
 unfold NumText.digitsVal
 rw [List.foldl_append]; rfl
theorem bd_dv {x:Str} (h:fig x=true) (hl:x.length ≤ 1000):Bd 4000 (dv x):=by
 unfold fig figL at h
 rw [Bool.and_eq_true,Bool.and_eq_true] at h
 exact dv_bd (allD_iff.mp h.1.2) (by rw [jh2]; exact hl)
theorem eqq_s (a b:Str):eqq (.str a) (.str b)=(a == b):=by rw [eqq_eq,PyData.eqv]
theorem str_eq {a b:Str}:(a == b)=true ↔ a.cps.toList=b.cps.toList:=by
 rw [beq_iff_eq]
 exact ⟨fun h=>by rw [h],fun h=>PyProof.Rows.ext_toList h⟩
def AllDigits1 (c:Nat):Prop:=48 ≤ c∧c ≤ 57
theorem int_one {c:Nat} (h:AllDigits1 c):intText? ⟨#[c]⟩=some ((c - 48:Nat):Int):=by
 have e:=int_fig (x:=⟨#[c]⟩) (by simp [allD,h.1,h.2]) (by simp) (by show 1 ≤ 640; decide)
 rw [e]
 simp [dv,NumText.digitsVal]
theorem zero_l:(Str.ofString "0").cps.toList=[48]:=by decide +kernel
theorem str_eqF {a b:Str} (h:a.cps.toList ≠ b.cps.toList):(a == b)=false:=by
 cases e:a == b with
 | true=>exact absurd (str_eq.mp e) h
 | false=>rfl
theorem str_at {ps:List Str} {i:Nat} {x:AV} (h:((ps.map PyData.str).map AV.im)[i]?=some x):i < ps.length∧ps.getD i Str.empty ∈ ps∧x=.im (.str (ps.getD i Str.empty)):=by
 have hi:i < ps.length:=by have:=(List.getElem?_eq_some_iff.mp h).1; simpa using this
 rw [List.getElem?_map,List.getElem?_map,List.getElem?_eq_getElem hi] at h
 have e:ps.getD i Str.empty=ps[i]:=jc8 (List.getElem?_eq_getElem hi)
 rw [e]
 exact ⟨hi,List.getElem_mem _,(Option.some.inj h).symm⟩
theorem all_at {ps:List Str} {f:Str→Bool} (h:∀ j,j < ps.length→f (ps.getD j Str.empty)=true):ps.all f=true:=by
 rw [List.all_eq_true]
 intro p hp
 obtain ⟨j,hj,rfl⟩:=List.getElem_of_mem hp
 have:=h j hj
 rw [jc8 (List.getElem?_eq_getElem hj)] at this; exact this
theorem map_ps (ps:List Str) (g:Str→PyData):(List.range ps.length).map (fun i=>g (ps.getD i Str.empty))=ps.map g:=by
 apply List.ext_getElem?
 intro i
 rw [List.getElem?_map,List.getElem?_map]
 rcases Nat.lt_or_ge i ps.length with y | y
 ·rw [List.getElem?_range y,List.getElem?_eq_getElem y,Option.map_some,Option.map_some,jc8 (List.getElem?_eq_getElem y)]
 ·rw [List.getElem?_eq_none (by simpa using y),List.getElem?_eq_none y]; rfl
def numsD (ps:List Str):List PyData:=ps.map fun p=>.int (dv p)
theorem atI_ex {α : Type} {xs:List α} {r:Int} {Pr:α→Prop} (h0:0 ≤ r) (h1:r < xs.length) (h:∀ v ∈ xs,Pr v):∃ v,atI xs r=some v∧Pr v:=by
 have hl:r.toNat < xs.length:=by omega
 have e:=List.getElem?_eq_getElem hl
 have:=jg6 e
 rw [Int.toNat_of_nonneg h0] at this
 exact ⟨_,this,h _ (List.getElem_mem _)⟩
theorem as_cut {z:Str} {lo hi st:Option Int} (h:AsB z=true):AsB (cutS z lo hi st)=true:=as_sub h cut_mem
theorem sg_mem {l:List Nat} {i:Nat} (h:i < l.length):l.getD i 0 ∈ l:=by
 rw [jc8 (List.getElem?_eq_getElem h)]; exact List.getElem_mem _
theorem sg_lt {x:Str} (h:AsB x=true) {i:Nat} (hi:i < x.cps.toList.length):x.cps.toList.getD i 0 < 128:=as_iff.mp h _ (sg_mem hi)
theorem sg_at {l:List Nat} {i:Nat} {v:AV} (h:(l.map fun c=>AV.im (.str ⟨#[c]⟩))[i]?=some v):i < l.length∧v=.im (.str ⟨#[l.getD i 0]⟩):=by
 have hi:i < l.length:=by have:=(List.getElem?_eq_some_iff.mp h).1; simpa using this
 rw [List.getElem?_map,List.getElem?_eq_getElem hi] at h
 rw [jc8 (List.getElem?_eq_getElem hi)]
 exact ⟨hi,(Option.some.inj h).symm⟩
theorem nil_l:(Str.ofString "").cps.toList=[]:=by decide +kernel
theorem divInt_eq {a b:Int} (hb:0 < b):(PyData.eqv (qD (Rat.divInt a b)) (.tuple [.int a,.int b]))=decide (Int.gcd a b=1):=by
 have e:PyData.eqv (qD (Rat.divInt a b)) (.tuple [.int a,.int b])=(decide ((Rat.divInt a b).num=a) && decide (((Rat.divInt a b).den:Int)=b)):=by
  unfold qD
  simp [PyData.eqv,PyData.eqvAll]
  rfl
 rw [e]
 by_cases hg:Int.gcd a b=1
 ·obtain ⟨q,e1,e2⟩:=rat_of (t:=a) (u:=b) hb hg
  have:Rat.divInt a b=q:=by rw [← e1,← e2,Rat.num_divInt_den]
  rw [this,e1,e2,decide_eq_true hg]; simp
 ·rw [decide_eq_false hg]
  rw [Bool.and_eq_false_iff]
  by_cases h1:(Rat.divInt a b).num=a
  ·right
   refine decide_eq_false fun h2=>hg ?_
   have:=rat_gcd (Rat.divInt a b)
   rw [h1,h2] at this; exact this
  ·left; exact decide_eq_false h1
def sg1:Str:=" !\"#$&'()*+,-./0123456789:;<=>?@ABCDEFGHIJKLMNOPQRSTUVWXYZ[\\]^_`"
def sg2:Str:="abcdefghijklmnopqrstuvwxyz{|}~\n"
theorem sg1_as:AsB sg1=true:=by decide +kernel
theorem sg2_as:AsB sg2=true:=by decide +kernel
theorem sg_len:sg1.length=64∧sg2.length=31:=by decide +kernel
theorem txt_eq (a b:Nat):numS a ++ (if (!decide ((b:Int)=1))=true then Str.ofString "/" ++ numS b else Str.empty)=ftS a b:=by
 unfold ftS
 rw [sl_eq]
 by_cases hb:b=1
 ·rw [if_pos hb,hb]
  apply PyProof.Rows.ext_toList
  rw [PySem.W.KT.app_list]
  show _ ++ []=_
  rw [List.append_nil]
 ·rw [if_neg hb,decide_eq_false (show ¬ (b:Int)=1 by omega)]
  apply PyProof.Rows.ext_toList
  show (numS a ++ (slash ++ numS b)).cps.toList=_
  rw [PySem.W.KT.app_list,PySem.W.KT.app_list,PySem.W.KT.app_list,PySem.W.KT.app_list,List.append_assoc]
theorem ft_as (a b:Nat):AsB (ftS a b)=true:=by
 unfold ftS
 split
 ·exact num_as a
 ·exact je7 (je7 (num_as a) (by decide +kernel)) (num_as b)
theorem ft_len {a b:Nat} (ha:a < 10 ^ 31) (hb:b < 10 ^ 31):(ftS a b).length ≤ 63:=by
 have la:=num31 ha
 have lb:=num31 hb
 have l1:slash.length=1:=by decide +kernel
 unfold ftS
 split
 ·omega
 ·rw [jd7,jd7,l1]; omega
theorem ft_rd {a b:Nat} (hb:1 ≤ b) (hg:Int.gcd a b=1):rdF (ftS a b)=some ((a:Int),(b:Int)):=by
 unfold ftS
 by_cases h1:b=1
 ·rw [if_pos h1]
  unfold rdF
  rw [split_one (num_free a)]
  have:[numS a].all fig=true:=by rw [List.all_cons,num_fig]; rfl
  rw [if_pos this,h1]
  show some (dv (numS a),(1:Int))=_
  rw [num_dv]; rfl
 ·rw [if_neg h1]
  unfold rdF
  rw [split_two (num_free a) (num_free b)]
  have:[numS a,numS b].all fig=true:=by rw [List.all_cons,List.all_cons,num_fig,num_fig]; rfl
  rw [if_pos this]
  show (if 2 ≤ dv (numS b)∧Int.gcd (dv (numS a)) (dv (numS b))=1 then some (dv (numS a),dv (numS b)) else none)=_
  rw [num_dv,num_dv,if_pos ⟨by omega,hg⟩]
theorem eq_rd (s:Str) (m:PyData) (h:noL m=true):eqq (.list [.str s,m]) (.list [.str s,m])=true:=by rw [eqq_eq,PyData.eqv,PyData.eqvAll,PyData.eqvAll,PyData.eqvAll,eqv_self m h]; simp [PyData.eqv]
end MI
namespace MI
open PySem L2 KG EX KM TX
def lnsOf (x:Str):List (List Str):=(Txt.split x (one 10)).map fun l=>Txt.split l (one 32)
def wAt (w:List Str) (i:Nat):Str:=w.getD i Str.empty
def amoS:Str:="amounts"
def buyS:Str:="buyer"
def hdOk (f:List Str) (os:List (List Str)):Bool:=(wAt f 0 == amoS) && os.all fun w=>decide (1 < w.length) && (wAt w 0 == buyS)
def mOf (f:List Str) (os:List (List Str)):PyData:=.tuple [.tuple (numsD (f.drop 1)),.tuple (os.map fun w=>duD (rdF (wAt w 1))),.tuple (os.map fun w=>.tuple (numsD (w.drop 2)))]
def figsOk (f:List Str) (os:List (List Str)):Bool:=(f.drop 1).all fig && os.all fun w=>(rdF (wAt w 1)).isSome && (w.drop 2).all fig
def rmL (f:List Str) (os:List (List Str)):Option PyData:=if (hdOk f os && figsOk f os && isMk (mOf f os))=true then some (mOf f os) else none
def rmF (x:Str):Option PyData:=match lnsOf x with
 | f :: os=>rmL f os
 | []=>none
def rmD:PyData→Option PyData
 | .str x=>rmF x
 | _=>none
def optD:Option PyData→PyData
 | some d=>d
 | none=>.none
def shortB (p:Str):Bool:=fig p && decide (p.length ≤ 9)
def nuD (x:Str):PyData:=if shortB x=true then .int (dv x) else .none
def foD (x:Str):PyData:=if (Txt.split x slash).all shortB=true then duD (rdF x) else .none
def mOfL (f:List Str) (os:List (List Str)):PyData:=.tuple [.tuple ((f.drop 1).map nuD),.tuple (os.map fun w=>foD (wAt w 1)),.tuple (os.map fun w=>.tuple ((w.drop 2).map nuD))]
def duM (f:List Str) (os:List (List Str)):PyData:=if hdOk f os=true then (if ((os.map fun w=>foD (wAt w 1)).any jg3 || !isMk (mOfL f os))=true then .none else mOfL f os) else .none
theorem dv_ge:∀ (l:List Nat) (a:Nat),a * 10 ^ l.length ≤ l.foldl (fun acc c=>acc * 10 + (c - 48)) a
 | [],a=>by simp
 | c :: l,a=>by
  have:=dv_ge l (a * 10 + (c - 48))
  rw [List.foldl_cons,List.length_cons,Nat.pow_succ]
  refine Nat.le_trans ?_ this
  rw [Nat.mul_comm (10 ^ l.length) 10,← Nat.mul_assoc]
  exact Nat.mul_le_mul_right _ (by omega)
theorem fig_short {x:Str} (h:fig x=true) (hv:dv x ≤ 1000000):x.length ≤ 9:=by
 rcases Nat.lt_or_ge 9 x.length with hl | hl
 ·exfalso
  unfold fig figL at h
  rw [Bool.and_eq_true,Bool.and_eq_true] at h
  rw [← jh2] at hl
  unfold dv NumText.digitsVal at hv
  cases hx:x.cps.toList with
  | nil=>rw [hx] at hl; simp at hl
  | cons c r =>
   rw [hx] at h hl hv
   have hc:=allD_iff.mp h.1.2 c List.mem_cons_self
   have hc49:49 ≤ c:=by
    rcases Nat.lt_or_ge c 49 with z | z
    ·have:c=48:=by omega
     subst this
     cases r with
     | nil=>simp at hl
     | cons d r=>simp at h
    ·exact z
   have:=dv_ge r (0 * 10 + (c - 48))
   rw [List.foldl_cons] at hv
   have h9:10 ^ 9 ≤ 10 ^ r.length:=Nat.pow_le_pow_right (by decide) (by simp at hl; omega)
   have:1 * 10 ^ r.length ≤ (0 * 10 + (c - 48)) * 10 ^ r.length:=Nat.mul_le_mul_right _ (by omega)
   omega
 ·exact hl
theorem nu_within {a b:Int} {x:Str} (h:within a b (nuD x)=true):nuD x=.int (dv x)∧fig x=true:=by
 unfold nuD at h ⊢
 cases hs:shortB x with
 | true =>
  unfold shortB at hs
  rw [Bool.and_eq_true] at hs
  exact ⟨if_pos rfl,hs.1⟩
 | false=>rw [hs,if_neg (by decide)] at h; cases h
theorem nu_of {a b:Int} {x:Str} (hf:fig x=true) (hb:b ≤ 1000000) (h:within a b (.int (dv x))=true):nuD x=.int (dv x):=by
 have h1:(decide (a ≤ dv x) && decide (dv x ≤ b))=true:=h
 rw [Bool.and_eq_true] at h1
 have h2:=of_decide_eq_true h1.2
 have hl:=fig_short hf (by omega)
 unfold nuD shortB
 rw [hf,decide_eq_true hl]; rfl
theorem fo_some {x:Str} (h:jc0 (foD x)=true):foD x=duD (rdF x)∧(rdF x).isSome=true:=by
 unfold foD at h ⊢
 cases hs:(Txt.split x slash).all shortB with
 | false=>rw [hs,if_neg (by decide)] at h; cases h
 | true =>
  rw [hs,if_pos rfl] at h
  refine ⟨if_pos rfl,?_⟩
  cases hr:rdF x with
  | some r=>rfl
  | none=>rw [hr] at h; cases h
theorem fo_of {x:Str} (h:jc0 (duD (rdF x))=true):foD x=duD (rdF x):=by
 unfold foD
 rw [if_pos ?_]
 cases hr:rdF x with
 | none=>rw [hr] at h; cases h
 | some r =>
  obtain ⟨a,b⟩:=r
  rw [hr] at h
  have h1:(decide (1 ≤ b) && decide (Int.gcd a b=1) && decide (1 ≤ a) && decide (a ≤ 1000000) && decide (b ≤ 1000000))=true:=h
  simp only [Bool.and_eq_true,decide_eq_true_eq] at h1
  unfold rdF at hr
  split at hr
  ·rename_i ha
   have sh:∀ p ∈ Txt.split x slash,dv p ≤ 1000000→shortB p=true:=fun p hp hv=>by
    have hf:=List.all_eq_true.mp ha p hp
    unfold shortB
    rw [hf,decide_eq_true (fig_short hf hv)]; rfl
   split at hr
   ·rename_i p e
    rw [e] at sh ⊢
    injection hr with hr
    injection hr with e1 e2
    rw [List.all_cons,sh p (by simp) (by omega)]; rfl
   ·rename_i p q e
    rw [e] at sh ⊢
    split at hr
    ·injection hr with hr
     injection hr with e1 e2
     rw [List.all_cons,List.all_cons,sh p (by simp) (by omega),sh q (by simp) (by omega)]; rfl
    ·cases hr
   ·cases hr
  ·cases hr
theorem mk_parts {a p w:List PyData} (h:isMk (.tuple [.tuple a,.tuple p,.tuple w])=true):(∀ d ∈ a,within 1 60 d=true)∧(∀ d ∈ p,jc0 d=true)∧∀ d ∈ w,isRow a.length 0 100 d=true:=by
 have h1:(decide (1 ≤ a.length) && decide (a.length ≤ 6) && a.all (within 1 60) && (decide (1 ≤ p.length) && decide (p.length ≤ 6) && p.all jc0) && (decide (w.length=p.length) && w.all (isRow a.length 0 100)))=true:=h
 simp only [Bool.and_eq_true] at h1
 exact ⟨List.all_eq_true.mp h1.1.1.2,List.all_eq_true.mp h1.1.2.2,List.all_eq_true.mp h1.2.2⟩
theorem row_parts {n:Nat} {a b:Int} {ds:List PyData} (h:isRow n a b (.tuple ds)=true):∀ d ∈ ds,within a b d=true:=by
 have h1:(decide (ds.length=n) && ds.all (within a b))=true:=h
 rw [Bool.and_eq_true] at h1
 exact List.all_eq_true.mp h1.2
theorem m_same {f:List Str} {os:List (List Str)} (h1:∀ x ∈ f.drop 1,nuD x=.int (dv x)) (h2:∀ w ∈ os,foD (wAt w 1)=duD (rdF (wAt w 1))∧∀ x ∈ w.drop 2,nuD x=.int (dv x)):mOfL f os=mOf f os:=by
 unfold mOfL mOf numsD
 rw [List.map_congr_left h1,List.map_congr_left fun w hw=>(h2 w hw).1,List.map_congr_left fun w hw=>congrArg PyData.tuple (List.map_congr_left (h2 w hw).2)]
theorem duM_eq (f:List Str) (os:List (List Str)):duM f os=optD (rmL f os):=by
 unfold duM rmL
 cases hh:hdOk f os with
 | false=>rw [if_neg (by decide)]; rfl
 | true =>
  rw [if_pos rfl,Bool.true_and]
  cases hm:isMk (mOfL f os) with
  | true =>
   obtain ⟨k1,k2,k3⟩:=mk_parts hm
   have g1:∀ x ∈ f.drop 1,nuD x=.int (dv x)∧fig x=true:=fun x hx=>nu_within (k1 _ (List.mem_map_of_mem hx))
   have g2:∀ w ∈ os,foD (wAt w 1)=duD (rdF (wAt w 1))∧(rdF (wAt w 1)).isSome=true:=fun w hw=>fo_some (k2 _ (List.mem_map_of_mem (f:=fun w=>foD (wAt w 1)) hw))
   have g3:∀ w ∈ os,∀ x ∈ w.drop 2,nuD x=.int (dv x)∧fig x=true:=fun w hw x hx=>nu_within (row_parts (k3 _ (List.mem_map_of_mem (f:=fun w=>PyData.tuple ((w.drop 2).map nuD)) hw)) _ (List.mem_map_of_mem hx))
   have e:=m_same (fun x hx=>(g1 x hx).1) fun w hw=>⟨(g2 w hw).1,fun x hx=>(g3 w hw x hx).1⟩
   have hn:((os.map fun w=>foD (wAt w 1)).any jg3)=false:=by
    rw [List.any_eq_false]
    intro d hd
    obtain ⟨w,hw,rfl⟩:=List.mem_map.mp hd
    have:=k2 _ (List.mem_map_of_mem (f:=fun w=>foD (wAt w 1)) hw)
    intro z
    cases hf:foD (wAt w 1) with
    | none=>rw [hf] at this; cases this
    | _=>rw [hf] at z; cases z
   have hf:figsOk f os=true:=by
    unfold figsOk
    rw [List.all_eq_true.mpr fun x hx=>(g1 x hx).2,Bool.true_and,List.all_eq_true]
    intro w hw
    rw [(g2 w hw).2,Bool.true_and,List.all_eq_true]
    exact fun x hx=>(g3 w hw x hx).2
   rw [hn,hf,← e,hm]; rfl
  | false =>
   rw [Bool.not_false,Bool.or_true,if_pos rfl]
   cases hf:figsOk f os with
   | false=>rfl
   | true =>
    cases hm2:isMk (mOf f os) with
    | false=>rfl
    | true =>
     exfalso
     obtain ⟨k1,k2,k3⟩:=mk_parts hm2
     unfold figsOk at hf
     rw [Bool.and_eq_true] at hf
     have f1:=List.all_eq_true.mp hf.1
     have f2:=List.all_eq_true.mp hf.2
     have e:=m_same (f:=f) (os:=os) (fun x hx=>nu_of (f1 x hx) (by decide) (k1 _ (List.mem_map_of_mem (f:=fun p=>PyData.int (dv p)) hx))) fun w hw=>⟨fo_of (k2 _ (List.mem_map_of_mem (f:=fun w=>duD (rdF (wAt w 1))) hw)),fun x hx=>by
      have:=f2 w hw
      rw [Bool.and_eq_true] at this
      exact nu_of (List.all_eq_true.mp this.2 x hx) (by decide) (row_parts (k3 _ (List.mem_map_of_mem (f:=fun w=>PyData.tuple (numsD (w.drop 2))) hw)) _ (List.mem_map_of_mem (f:=fun p=>PyData.int (dv p)) hx))⟩
     rw [e,hm2] at hm; cases hm
end MI
namespace MI
open PySem L2 KG EX KM TX
def ftQ (q:Rat):Str:=ftS q.num.toNat q.den
def aLine (A:List Int):Str:=(one 32).join (amoS :: A.map numS)
def bLine (q:Rat) (r:List Int):Str:=(one 32).join (buyS :: ftQ q :: r.map numS)
def linesM (A:List Int) (Pu:List Rat) (W:List (List Int)):List Str:=aLine A :: (List.range Pu.length).map fun i=>bLine (Pu.getD i 0) (W.getD i [])
def mtS (A:List Int) (Pu:List Rat) (W:List (List Int)):Str:=(one 10).join (linesM A Pu W)
theorem nat_of {a:Int} (h:0 ≤ a):numS a=numS (a.toNat:Int):=by rw [Int.toNat_of_nonneg h]
theorem fig_num {a:Int} (h:0 ≤ a):fig (numS a)=true:=by rw [nat_of h]; exact num_fig _
theorem dv_num {a:Int} (h:0 ≤ a):dv (numS a)=a:=by rw [nat_of h]; exact (num_dv _).trans (Int.toNat_of_nonneg h)
def okW (z:Str):Prop:=∀ c ∈ z.cps.toList,c ≠ 10∧c ≠ 32∧c < 128
theorem okW_num {a:Int} (h:0 ≤ a):okW (numS a):=fun c hc=>by
 rw [nat_of h] at hc
 have:c ∈ (Nat.toDigits 10 a.toNat).map Char.toNat:=by rw [← num_list]; exact hc
 have:=num_all a.toNat c this
 omega
theorem okW_app {a b:Str} (ha:okW a) (hb:okW b):okW (a ++ b):=fun c hc=>by
 rw [PySem.W.KT.app_list] at hc
 rcases List.mem_append.mp hc with h | h
 ·exact ha c h
 ·exact hb c h
theorem okW_ft (q:Rat):okW (ftQ q):=by
 unfold ftQ ftS
 have hs:okW slash:=fun c hc=>by
  have:c=47:=by simpa [slash] using hc
  omega
 split
 ·exact okW_num (Int.natCast_nonneg _)
 ·exact okW_app (okW_app (okW_num (Int.natCast_nonneg _)) hs) (okW_num (Int.natCast_nonneg _))
theorem okW_amo:okW amoS:=by
 have:∀ c ∈ amoS.cps.toList,c ≠ 10∧c ≠ 32∧c < 128:=by decide +kernel
 exact this
theorem okW_buy:okW buyS:=by
 have:∀ c ∈ buyS.cps.toList,c ≠ 10∧c ≠ 32∧c < 128:=by decide +kernel
 exact this
theorem okW.as {z:Str} (h:okW z):AsB z=true:=as_iff.mpr fun c hc=>(h c hc).2.2
theorem mem_join {s c:Nat}:∀ {zs:List Str},c ∈ ((one s).join zs).cps.toList→c=s ∨ ∃ z ∈ zs,c ∈ z.cps.toList
 | [],h=>by cases h
 | [a],h=>.inr ⟨a,List.mem_cons_self,h⟩
 | a :: b :: l,h=>by
  rw [join_list1] at h
  rcases List.mem_append.mp h with h | h
  ·exact .inr ⟨a,List.mem_cons_self,h⟩
  ·rcases List.mem_cons.mp h with h | h
   ·exact .inl h
   ·rcases mem_join (zs:=b :: l) h with h | ⟨z,hz,h⟩
    ·exact .inl h
    ·exact .inr ⟨z,List.mem_cons_of_mem _ hz,h⟩
theorem no10 {ws:List Str} (h:∀ w ∈ ws,okW w):10 ∉ ((one 32).join ws).cps.toList:=fun hc=>by
 rcases mem_join hc with z | ⟨z,hz,hc⟩
 ·cases z
 ·exact (h z hz 10 hc).1 rfl
theorem sp_back {ws:List Str} (hn:ws ≠ []) (h:∀ w ∈ ws,okW w):Txt.split ((one 32).join ws) (one 32)=ws:=split_join hn fun w hw hc=>(h w hw 32 hc).2.1 rfl
structure MkF (A:List Int) (Pu:List Rat) (W:List (List Int)):Prop where
 a1:1 ≤ A.length
 a6:A.length ≤ 6
 av:∀ a ∈ A,1 ≤ a∧a ≤ 60
 p1:1 ≤ Pu.length
 p6:Pu.length ≤ 6
 pv:∀ q ∈ Pu,1 ≤ q.num∧q.num ≤ 1000000∧(q.den:Int) ≤ 1000000
 wl:W.length=Pu.length
 wv:∀ r ∈ W,r.length=A.length∧∀ k ∈ r,0 ≤ k∧k ≤ 100
theorem MkF.of {A:List Int} {Pu:List Rat} {W:List (List Int)} (h:isMk (mkD A Pu W)=true):MkF A Pu W:=by
 unfold mkD at h
 have h1:(decide (1 ≤ (A.map PyData.int).length) && decide ((A.map PyData.int).length ≤ 6) && (A.map PyData.int).all (within 1 60) && (decide (1 ≤ (Pu.map qD).length) && decide ((Pu.map qD).length ≤ 6) && (Pu.map qD).all jc0) && (decide ((W.map rowD).length=(Pu.map qD).length) && (W.map rowD).all (isRow (A.map PyData.int).length 0 100)))=true:=h
 simp only [Bool.and_eq_true,decide_eq_true_eq,List.length_map] at h1
 obtain ⟨⟨⟨⟨h2,h3⟩,h4⟩,⟨h5,h6⟩,h7⟩,h8,h9⟩:=h1
 refine ⟨h2,h3,fun a ha=>?_,h5,h6,fun q hq=>?_,h8,fun r hr=>?_⟩
 ·have:=List.all_eq_true.mp h4 _ (List.mem_map_of_mem ha)
  have:(decide (1 ≤ a) && decide (a ≤ 60))=true:=this
  simpa using this
 ·have:=List.all_eq_true.mp h7 _ (List.mem_map_of_mem hq)
  have:(decide (1 ≤ (q.den:Int)) && decide (Int.gcd q.num q.den=1) && decide (1 ≤ q.num) && decide (q.num ≤ 1000000) && decide ((q.den:Int) ≤ 1000000))=true:=this
  simp only [Bool.and_eq_true,decide_eq_true_eq] at this
  exact ⟨this.1.1.2,this.1.2,this.2⟩
 ·have:=List.all_eq_true.mp h9 _ (List.mem_map_of_mem hr)
  have:(decide ((r.map PyData.int).length=A.length) && (r.map PyData.int).all (within 0 100))=true:=this
  rw [Bool.and_eq_true,List.length_map,decide_eq_true_eq] at this
  refine ⟨this.1,fun k hk=>?_⟩
  have:=List.all_eq_true.mp this.2 _ (List.mem_map_of_mem hk)
  have:(decide (0 ≤ k) && decide (k ≤ 100))=true:=this
  simpa using this
def wordsM (A:List Int) (Pu:List Rat) (W:List (List Int)):List (List Str):=(amoS :: A.map numS) :: (List.range Pu.length).map fun i=>buyS :: ftQ (Pu.getD i 0) :: (W.getD i []).map numS
theorem lines_words (A:List Int) (Pu:List Rat) (W:List (List Int)):linesM A Pu W=(wordsM A Pu W).map (one 32).join:=by
 unfold linesM wordsM
 rw [List.map_cons,List.map_map]; rfl
theorem rd_q {q:Rat} (h:1 ≤ q.num):rdF (ftQ q)=some (q.num,(q.den:Int)):=by
 have hg:=rat_gcd q
 have hd:=den_pos q
 unfold ftQ
 rw [ft_rd (a:=q.num.toNat) (b:=q.den) (by omega) (by rw [Int.toNat_of_nonneg (by omega)]; exact hg),Int.toNat_of_nonneg (by omega)]
section
variable {A:List Int} {Pu:List Rat} {W:List (List Int)} (F:MkF A Pu W)
include F
theorem MkF.row (i:Nat) (hi:i < Pu.length):W.getD i [] ∈ W:=by
 rw [jc8 (List.getElem?_eq_getElem (show i < W.length by rw [F.wl]; exact hi))]; exact List.getElem_mem _
theorem MkF.pur (i:Nat) (hi:i < Pu.length):Pu.getD i 0 ∈ Pu:=by
 rw [jc8 (List.getElem?_eq_getElem hi)]; exact List.getElem_mem _
theorem MkF.ok:∀ ws ∈ wordsM A Pu W,ws ≠ []∧∀ w ∈ ws,okW w:=by
 intro ws hws
 rcases List.mem_cons.mp hws with rfl | hws
 ·refine ⟨by simp,fun w hw=>?_⟩
  rcases List.mem_cons.mp hw with rfl | hw
  ·exact okW_amo
  ·obtain ⟨a,ha,rfl⟩:=List.mem_map.mp hw
   exact okW_num (by have:=F.av a ha; omega)
 ·obtain ⟨i,hi,rfl⟩:=List.mem_map.mp hws
  have hi:=List.mem_range.mp hi
  refine ⟨by simp,fun w hw=>?_⟩
  rcases List.mem_cons.mp hw with rfl | hw
  ·exact okW_buy
  rcases List.mem_cons.mp hw with rfl | hw
  ·exact okW_ft _
  ·obtain ⟨k,hk,rfl⟩:=List.mem_map.mp hw
   exact okW_num ((F.wv _ (F.row i hi)).2 k hk).1
theorem MkF.lns:lnsOf (mtS A Pu W)=wordsM A Pu W:=by
 unfold lnsOf mtS
 rw [split_join (by unfold linesM; simp) fun l hl hc=>?_]
 ·rw [lines_words,List.map_map]
  have:∀ ws ∈ wordsM A Pu W,((fun l=>Txt.split l (one 32)) ∘ (one 32).join) ws=ws:=fun ws hws=>sp_back (F.ok ws hws).1 (F.ok ws hws).2
  rw [List.map_congr_left this,List.map_id']
 ·rw [lines_words] at hl
  obtain ⟨ws,hws,rfl⟩:=List.mem_map.mp hl
  exact no10 (F.ok ws hws).2 hc
theorem MkF.rd (hm:isMk (mkD A Pu W)=true):rmF (mtS A Pu W)=some (mkD A Pu W):=by
 unfold rmF
 rw [F.lns]
 show rmL (amoS :: A.map numS) ((List.range Pu.length).map fun i=>buyS :: ftQ (Pu.getD i 0) :: (W.getD i []).map numS)=_
 have hA:numsD (A.map numS)=A.map PyData.int:=by
  unfold numsD
  rw [List.map_map]
  exact List.map_congr_left fun a ha=>by show PyData.int (dv (numS a))=_; rw [dv_num (by have:=F.av a ha; omega)]
 have hm':mOf (amoS :: A.map numS) ((List.range Pu.length).map fun i=>buyS :: ftQ (Pu.getD i 0) :: (W.getD i []).map numS)=mkD A Pu W:=by
  unfold mOf mkD
  rw [List.map_map,List.map_map]
  have e2:(List.range Pu.length).map ((fun w=>duD (rdF (wAt w 1))) ∘ fun i=>buyS :: ftQ (Pu.getD i 0) :: (W.getD i []).map numS)=Pu.map qD:=by
   rw [← jd6 qD Pu 0]
   refine List.map_congr_left fun i hi=>?_
   show duD (rdF (ftQ (Pu.getD i 0)))=_
   rw [rd_q (F.pv _ (F.pur i (List.mem_range.mp hi))).1]; rfl
  have e3:(List.range Pu.length).map ((fun w:List Str=>PyData.tuple (numsD (w.drop 2))) ∘ fun i=>buyS :: ftQ (Pu.getD i 0) :: (W.getD i []).map numS)=W.map rowD:=by
   rw [← jd6 rowD W [],F.wl]
   refine List.map_congr_left fun i hi=>?_
   show PyData.tuple (numsD ((W.getD i []).map numS))=_
   unfold numsD rowD
   rw [List.map_map]
   congr 1
   exact List.map_congr_left fun k hk=>by show PyData.int (dv (numS k))=_; rw [dv_num ((F.wv _ (F.row i (List.mem_range.mp hi))).2 k hk).1]
  rw [e2,e3]
  show PyData.tuple [.tuple (numsD (A.map numS)),_,_]=_
  rw [hA]
 have hh:hdOk (amoS :: A.map numS) ((List.range Pu.length).map fun i=>buyS :: ftQ (Pu.getD i 0) :: (W.getD i []).map numS)=true:=by
  unfold hdOk
  have:(wAt (amoS :: A.map numS) 0 == amoS)=true:=str_eq.mpr rfl
  rw [this,Bool.true_and,List.all_eq_true]
  intro w hw
  obtain ⟨i,hi,rfl⟩:=List.mem_map.mp hw
  have:(wAt (buyS :: ftQ (Pu.getD i 0) :: (W.getD i []).map numS) 0 == buyS)=true:=str_eq.mpr rfl
  rw [this]
  simp
 have hf:figsOk (amoS :: A.map numS) ((List.range Pu.length).map fun i=>buyS :: ftQ (Pu.getD i 0) :: (W.getD i []).map numS)=true:=by
  unfold figsOk
  rw [Bool.and_eq_true,List.all_eq_true,List.all_eq_true]
  refine ⟨fun x hx=>?_,fun w hw=>?_⟩
  ·obtain ⟨a,ha,rfl⟩:=List.mem_map.mp (show x ∈ A.map numS from hx)
   exact fig_num (by have:=F.av a ha; omega)
  ·obtain ⟨i,hi,rfl⟩:=List.mem_map.mp hw
   have hi:=List.mem_range.mp hi
   rw [Bool.and_eq_true,List.all_eq_true]
   refine ⟨?_,fun x hx=>?_⟩
   ·show (rdF (ftQ (Pu.getD i 0))).isSome=true
    rw [rd_q (F.pv _ (F.pur i hi)).1]; rfl
   ·obtain ⟨k,hk,rfl⟩:=List.mem_map.mp (show x ∈ (W.getD i []).map numS from hx)
    exact fig_num ((F.wv _ (F.row i hi)).2 k hk).1
 unfold rmL
 rw [hh,hf,hm',hm]; rfl
end
theorem sum_le {α : Type} (l:List α) (f:α→Nat) (b:Nat) (h:∀ x ∈ l,f x ≤ b):(l.map f).sum ≤ l.length * b:=by
 induction l with
 | nil=>simp
 | cons a l ih =>
  rw [List.map_cons,List.sum_cons,List.length_cons,Nat.add_mul]
  have:=h a List.mem_cons_self
  have:=ih fun x hx=>h x (List.mem_cons_of_mem _ hx)
  omega
theorem tot_le (l:List Str) (b:Nat) (h:∀ z ∈ l,z.length ≤ b):totL l ≤ l.length * (b + 1):=by
 exact sum_le l _ _ fun z hz=>by have:=h z hz; omega
end MI
set_option exponentiation.threshold 20000
namespace MI
open PySem L2 KG EX KM TX
def fRnW (Tx:Addr):FM:=fun O xs P PX=>∃ x:Str,xs=[.im (.str x)]∧AsB x=true∧x.length ≤ 400000∧(fig x=true→P (.im (.int (dv x))) O)∧(fig x=false→PX Tx O)
abbrev NRnW:List Str:=["word","number","figure"]
def mRnW (QX:Addr→Sto→Prop) (Tx:Addr):MS:=(mSeq (mIfS (mOrT (mNot (mTst (mM0 Txt.isascii (mVar 0)))) (mOrT (mNot (mTst (mM0 Txt.isdigit (mVar 0)))) (mAndT (mTst (mOp (eqF false) (mOp ixsF (mVar 0) (mC (.int 0))) (mC (.str "0")))) (mTst (mOp (eqF true) (mVar 0) (mC (.str "0"))))))) (mRaise QX Tx (mCons (mC (.str "this is not written as a number is")) mNil)) mNext)
 (mSeq (mAsg (mC (.int 0)) (mgN 1))
 (mSeq (mFor (miStr (mVar 0)) (mgN 2) (mAsg (mOp addF (mOp mulW (mVar 1) (mC (.int 10))) (mCB itxF (mCons (mVar 2) mNil))) (mgN 1)))
 (mRet (mVar 1)))))
theorem rd_rnW (Tx:Addr):∀ O xs Pq QX,fRnW Tx O xs Pq QX→mRnW QX Tx { nx:=fun _ O'=>Pq (.im .none) O',rt:=Pq } (startS NRnW xs) O:=by
 intro O xs Pq QX h
 obtain ⟨x,rfl,ha,hl,h1,h2⟩:=h
 have hsz:x.length ≤ sizeLine:=by rw [sz]; omega
 have hdig:=dig_as ha
 refine ⟨fun z=>?_,fun _=>?_⟩
 ·rw [asc_as ha] at z; cases z
 refine ⟨fun z=>⟨fun _=>⟨len1,h2 ?_⟩,fun z=>by cases z⟩,fun z=>?_⟩
 ·rw [hdig] at z
  unfold fig figL
  cases hq:!x.cps.toList.isEmpty && allD x.cps.toList with
  | true=>rw [hq] at z; cases z
  | false=>rfl
 rw [hdig] at z
 have hgd:(!x.cps.toList.isEmpty && allD x.cps.toList)=true:=by simpa using z
 have hd:=allD_iff.mp ((Bool.and_eq_true _ _).mp hgd).2
 have hfig:fig x=(x.cps.toList.head? != some 48 || x.cps.toList == [48]):=by unfold fig figL; rw [hgd]; rfl
 have hgo:fig x=true→Go (mSeq (mAsg (mC (.int 0)) (mgN 1)) (mSeq (mFor (miStr (mVar 0)) (mgN 2) (mAsg (mOp addF (mOp mulW (mVar 1) (mC (.int 10))) (mCB itxF (mCons (mVar 2) mNil))) (mgN 1))) (mRet (mVar 1)))) { nx:=fun _ O'=>Pq (.im .none) O',rt:=Pq } (startS NRnW [.im (.str x)]) O:=fun hf=>by
  refine ⟨⟨⟨ha,?_⟩⟩⟩
  refine ⟨fun i sl O'=>∃ y,sl=[some (.im (.str x)),some (.im (.int (NumText.digitsVal (x.cps.toList.take i):Nat))),y]∧O'=O,⟨_,rfl,rfl⟩,?_,?_⟩
  ·rintro i v sl O' hv ⟨y,rfl,rfl⟩
   rw [List.getElem?_map] at hv
   cases hc:x.cps.toList[i]? with
   | none=>rw [hc] at hv; cases hv
   | some c =>
    rw [hc] at hv
    cases Option.some.inj hv
    have hcd:=hd c (List.mem_of_getElem? hc)
    have ht:x.cps.toList.take (i + 1)=x.cps.toList.take i ++ [c]:=by rw [List.take_succ,hc]; rfl
    refine ⟨⟨.inr ⟨by decide,by decide⟩,(c - 48:Nat),?_,(show 1 ≤ 640 by decide),?_⟩⟩
    ·have h1:AllDigits1 c:=⟨hcd.1,hcd.2⟩
     exact int_one h1
    ·refine ⟨some (.im (.str ⟨#[c]⟩)),?_,rfl⟩
     rw [ht,dv_snoc]
     rfl
  ·rintro sl O' ⟨y,rfl,rfl⟩
   have:=h1 hf
   unfold dv at this
   refine ⟨?_⟩
   show Pq (.im (.int (NumText.digitsVal (x.cps.toList.take (x.cps.toList.map fun c=>AV.im (.str ⟨#[c]⟩)).length):Nat))) O'
   rw [List.length_map,List.take_length]; exact this
 cases hx:x.cps.toList with
 | nil=>rw [hx] at hgd; cases hgd
 | cons c r =>
  have h48:((⟨#[c]⟩:Str) == Str.ofString "0")=decide (c=48):=by
   by_cases hc:c=48
   ·rw [decide_eq_true hc]; exact str_eq.mpr (by rw [zero_l,hc])
   ·rw [decide_eq_false hc]; exact str_eqF (by rw [zero_l]; simpa using hc)
  rw [hx] at hfig
  refine ⟨ha,hsz,c,by rw [hx]; exact jg6 (j:=0) rfl,by show min 0 0 ≤ 60; decide,fun z=>⟨by show min 0 0 ≤ 60; decide,fun z2=>⟨len1,h2 ?_⟩,fun z2=>hgo ?_⟩,fun z=>⟨fun z=>(by cases z),fun _=>hgo ?_⟩⟩
  ·have z1:eqq (.str ⟨#[c]⟩) (.str (Str.ofString "0"))=true:=z
   rw [eqq_s,h48] at z1
   have z3:(!eqq (.str x) (.str (Str.ofString "0")))=true:=z2
   rw [eqq_s] at z3
   rw [hfig]
   have hc:=of_decide_eq_true z1
   subst hc
   cases r with
   | nil=>rw [str_eq.mpr (by rw [hx,zero_l])] at z3; cases z3
   | cons d r=>simp
  ·have z3:(!eqq (.str x) (.str (Str.ofString "0")))=false:=z2
   rw [eqq_s] at z3
   have z4:=str_eq.mp (by simpa using z3)
   rw [hx,zero_l] at z4
   rw [hfig,z4]; rfl
  ·have z1:eqq (.str ⟨#[c]⟩) (.str (Str.ofString "0"))=false:=z
   rw [eqq_s,h48] at z1
   have hc:=of_decide_eq_false z1
   rw [hfig]; simp [hc]
def fRsW (Tx:Addr):FM:=fun O xs P PX=>∃ ps:List Str,xs=[.im (.list (ps.map .str))]∧ps.length ≤ 1000000∧(∀ p ∈ ps,AsB p=true∧p.length ≤ 400000)∧(ps.all fig=true→P (.im (.tuple (numsD ps))) O)∧(ps.all fig=false→PX Tx O)
abbrev NRsW:List Str:=["words"]
def mRsW (QX:Addr→Sto→Prop) (Tx:Addr):MS:=(mRet (mCB tupF (mCons (mComp 1 [] (miSeq (mVar 0)) (mgN 0) mYes (mCall (fRnW Tx) QX (mCons (mVar 0) mNil))) mNil)))
theorem rd_rsW (Tx:Addr):∀ O xs Pq QX,fRsW Tx O xs Pq QX→mRsW QX Tx { nx:=fun _ O'=>Pq (.im .none) O',rt:=Pq } (startS NRsW xs) O:=by
 intro O xs Pq QX h
 obtain ⟨ps,rfl,hl,hp,h1,h2⟩:=h
 refine comp_all (fun i d=>fig (ps.getD i Str.empty)=true∧d=.int (dv (ps.getD i Str.empty))) (by simpa using hl) (fun i x Z hx hZ=>?_) fun ds hd hR=>?_
 ·obtain ⟨hi,hm,rfl⟩:=str_at hx
  refine ⟨_,rfl,(hp _ hm).1,(hp _ hm).2,fun hf=>hZ _ ⟨hf,rfl⟩,fun hf=>h2 ?_⟩
  cases ha:ps.all fig with
  | false=>rfl
  | true=>rw [List.all_eq_true.mp ha _ hm] at hf; cases hf
 ·have hd':ds.length=ps.length:=by simpa using hd
  have e:=list_ix (fun j hj=>(hR j hj).2)
  rw [hd',map_ps ps fun p=>.int (dv p)] at e
  rw [e]
  exact h1 (all_at fun j hj=>(hR j (by omega)).1)
def rdPW (d:PyData):Prop:=∀ x,d=.str x→AsB x=true∧x.length ≤ 400000
def fRfW (Tx:Addr):FM:=fun O xs P PX=>∃ d,xs=[.im d]∧rdPW d∧(∀ r,rdD d=some r→P (.im (duD (some r))) O)∧(rdD d=none→PX Tx O)
abbrev NRfW:List Str:=["text","numbers"]
def mRfW (QX:Addr→Sto→Prop) (Tx:Addr):MS:=(mSeq (mDrop (mCall (fNeT Tx) QX (mCons (mVar 0) mNil)))
 (mSeq (mAsg (mCall (fRsW Tx) QX (mCons (mSpl (mVar 0) (mCons (mC (.str "/")) mNil)) mNil)) (mgN 1))
 (mSeq (mIfS (mTst (mOp (eqF false) (mCB lenF (mCons (mVar 1) mNil)) (mC (.int 1)))) (mRet (mTup (mCons (mOp ixF (mVar 1) (mC (.int 0))) (mCons (mC (.int 1)) mNil)))) mNext)
 (mSeq (mIfS (mOrT (mNot (mTst (mCall (fT isFrac) noX (mCons (mVar 1) mNil)))) (mTst (mOp (eqF false) (mOp ixF (mVar 1) (mC (.int 1))) (mC (.int 1))))) (mRaise QX Tx (mCons (mC (.str "this is not written as a fraction is")) mNil)) mNext)
 (mRet (mVar 1))))))
theorem rd_rfW (Tx:Addr):∀ O xs Pq QX,fRfW Tx O xs Pq QX→mRfW QX Tx { nx:=fun _ O'=>Pq (.im .none) O',rt:=Pq } (startS NRfW xs) O:=by
 intro O xs Pq QX h
 obtain ⟨d,rfl,hp,h1,h2⟩:=h
 refine ⟨d,rfl,fun hs=>⟨?_⟩,fun hs=>h2 ?_⟩
 rotate_left
 ·cases d <;> first | rfl | cases hs
 cases d with
 | str x =>
  obtain ⟨ha,hl⟩:=hp x rfl
  have hrd:rdD (.str x)=rdF x:=rfl
  refine ⟨ha,by decide,by rw [sz]; omega,?_⟩
  have hn:=PyProof.Rows.split_pos x slash
  have hle:=PyProof.Rows.split_le x slash
  have hrf0:(Txt.split x slash).all fig=true→rdF x=(match Txt.split x slash with
   | [p]=>some (dv p,1)
   | [p,q]=>if 2 ≤ dv q∧Int.gcd (dv p) (dv q)=1 then some (dv p,dv q) else none
   | _=>none):=fun hf=>by
   unfold rdF
   refine (if_pos hf).trans ?_
   generalize Txt.split x slash=ps
   rcases ps with _ | ⟨p,_ | ⟨q,_ | ⟨r,l⟩⟩⟩ <;> rfl
  have hrf1:(Txt.split x slash).all fig=false→rdF x=none:=fun hf=>by unfold rdF; rw [hf]; rfl
  rw [← sl_eq] at hn hle hrf0 hrf1
  refine ⟨Txt.split x (Str.ofString "/"),rfl,by omega,fun p hp=>⟨jf4 ha hp,Nat.le_trans (PyProof.Rows.part_short hp) hl⟩,fun hf=>⟨?_⟩,fun hf=>h2 ?_⟩
  rotate_left
  ·rw [hrd]; exact hrf1 hf
  rw [hrd,hrf0 hf] at h1 h2
  clear hrf0 hrf1 hle
  generalize Txt.split x (Str.ofString "/")=ps at *
  match ps,hn with
  | [p],_ =>
   refine ⟨by show min 0 0 ≤ 60; decide,fun _=>?_,fun z=>?_⟩
   ·exact ⟨_,rfl,by show 2 ≤ sizeLine; decide,h1 _ rfl⟩
   ·cases z
  | [p,q],_ =>
   refine ⟨by show min 0 0 ≤ 60; decide,fun z=>(by cases z),fun _=>⟨?_⟩⟩
   have hfr:isFrac (.tuple (numsD [p,q]))=(decide (1 ≤ dv q) && decide (Int.gcd (dv p) (dv q)=1)):=rfl
   refine ⟨fun z=>⟨fun _=>⟨len1,h2 (if_neg fun hh=>?_)⟩,fun z=>by cases z⟩,fun z=>⟨.int (dv q),rfl,by show min 0 0 ≤ 60; decide,fun z2=>⟨len1,h2 (if_neg fun hh=>?_)⟩,fun z2=>⟨h1 _ (if_pos ?_)⟩⟩⟩
   ·rw [hfr,decide_eq_true (show 1 ≤ dv q by omega),decide_eq_true hh.2] at z; cases z
   ·have:dv q=1:=of_decide_eq_true z2
    omega
   ·rw [hfr] at z
    have z3:dv q ≠ 1:=of_decide_eq_false z2
    simp at z
    exact ⟨by omega,z.2⟩
  | p :: q :: r :: l,_ =>
   refine ⟨by show min 0 0 ≤ 60; decide,fun z=>?_,fun _=>⟨⟨fun _=>⟨fun _=>⟨len1,h2 rfl⟩,fun z=>by cases z⟩,fun z=>by cases z⟩⟩⟩
   have z0:decide (((numsD (p :: q :: r :: l)).length:Int)=1)=true:=z
   have z1:=of_decide_eq_true z0
   simp [numsD] at z1
   omega
 | _=>cases hs
theorem nl_eq:Str.ofString "\n"=one 10:=by decide +kernel
theorem sp_eq:Str.ofString " "=one 32:=by decide +kernel
theorem int_at {ns:List Int} {i:Nat} {x:AV} (h:((ns.map PyData.int).map AV.im)[i]?=some x):i < ns.length∧ns.getD i 0 ∈ ns∧x=.im (.int (ns.getD i 0)):=by
 have hi:i < ns.length:=by have:=(List.getElem?_eq_some_iff.mp h).1; simpa using this
 rw [List.getElem?_map,List.getElem?_map,List.getElem?_eq_getElem hi] at h
 have e:ns.getD i 0=ns[i]:=jc8 (List.getElem?_eq_getElem hi)
 rw [e]
 exact ⟨hi,List.getElem_mem _,(Option.some.inj h).symm⟩
def fNt:FM:=fun O xs P _=>∃ (ws:List Str) (ns:List Int),xs=[.im (.list (ws.map .str)),.im (.tuple (ns.map .int))]∧(∀ w ∈ ws,AsB w=true∧w.length ≤ 100)∧ws.length ≤ 10∧ns.length ≤ 10∧(∀ n ∈ ns,0 ≤ n∧n.toNat < 10 ^ 31)∧P (.im (.str ((one 32).join (ws ++ ns.map numS)))) O
abbrev NNs:List Str:=["words","numbers"]
def mNt:MS:=(mRet (mJoi (mC (.str " ")) (mCons (mOp addF (mVar 0) (mComp 1 [] (miSeq (mVar 1)) (mgN 0) mYes (mCB strF (mCons (mVar 0) mNil)))) mNil)))
theorem log_i {a:Int} (h:0 ≤ a) (h31:a.toNat < 10 ^ 31):a.natAbs.log2 < 1920:=by
 have e:a.natAbs=a.toNat:=by omega
 rw [e]; exact jh4 h31
theorem num_l31 {a:Int} (h:0 ≤ a) (h31:a.toNat < 10 ^ 31):(numS a).length ≤ 31:=by rw [nat_of h]; exact num31 h31
theorem nt_tot {ws:List Str} {ns:List Int} (hw:∀ w ∈ ws,w.length ≤ 100) (h10:ws.length ≤ 10) (n10:ns.length ≤ 10) (hn:∀ n ∈ ns,0 ≤ n∧n.toNat < 10 ^ 31):totL (ws ++ ns.map numS) ≤ 2000:=by
 rw [tot_app]
 have h1:=tot_le ws 100 hw
 have h2:=tot_le (ns.map numS) 31 fun z hz=>by
  obtain ⟨n,hm,rfl⟩:=List.mem_map.mp hz
  exact num_l31 (hn n hm).1 (hn n hm).2
 rw [List.length_map] at h2
 have:ws.length * 101 ≤ 10 * 101:=Nat.mul_le_mul_right _ h10
 have:ns.length * 32 ≤ 10 * 32:=Nat.mul_le_mul_right _ n10
 omega
theorem rd_nt:∀ O xs Pq QX,fNt O xs Pq QX→mNt { nx:=fun _ O'=>Pq (.im .none) O',rt:=Pq } (startS NNs xs) O:=by
 intro O xs Pq QX h
 obtain ⟨ws,ns,rfl,hw,w10,n10,hn,h⟩:=h
 unfold mNt
 rw [sp_eq]
 conv=>whnf
 refine jf2 (fun i=>.str (numS (ns.getD i 0))) (by simp; omega) (fun i x Z hx hZ=>?_) ?_
 ·obtain ⟨hi,hm,rfl⟩:=int_at hx
  have:=hn _ hm
  exact ⟨this.1,log_i this.1 this.2,hZ⟩
 have hl:((ns.map PyData.int).map AV.im).length=ns.length:=by simp
 rw [hl,jd6 (fun n=>PyData.str (numS n)) ns 0]
 refine ⟨by rw [List.length_map,List.length_map,sz]; omega,ws ++ ns.map numS,by rw [List.map_append,List.map_map]; rfl,by decide +kernel,rfl,fun z hz=>?_,Nat.le_trans (nt_tot (fun w hh=>(hw w hh).2) w10 n10 hn) (by decide),h⟩
 rcases List.mem_append.mp hz with hz | hz
 ·exact (hw z hz).1
 ·obtain ⟨n,hm,rfl⟩:=List.mem_map.mp hz
  exact as_num (hn n hm).1
def fMt:FM:=fun O xs P _=>∃ (A:List Int) (Pu:List Rat) (W:List (List Int)),xs=[.im (mkD A Pu W)]∧isMk (mkD A Pu W)=true∧∀ O',Grew O O'→P (.im (.str (mtS A Pu W))) O'
abbrev NMt:List Str:=["market","amounts","purses","wishes","lines","purse","row"]
def mMt:MS:=(mSeq (mAsg (mVar 0) (mgT 3 (mgCons (mgN 1) (mgCons (mgN 2) (mgCons (mgN 3) mgNil)))))
 (mSeq (mAsg (mOwn (mCons (mCall fNt noX (mCons (mLst (mCons (mC (.str "amounts")) mNil)) (mCons (mVar 1) mNil))) mNil)) (mgN 4))
 (mSeq (mFor (miZ (mCons (mVar 2) (mCons (mVar 3) mNil))) (mgT 2 (mgCons (mgN 5) (mgCons (mgN 6) mgNil))) (mDrop (mApp (mVar 4) (mCons (mCall fNt noX (mCons (mLst (mCons (mC (.str "buyer")) (mCons (mCall fFt noX (mCons (mVar 5) mNil)) mNil))) (mCons (mVar 6) mNil))) mNil))))
 (mFrz 4 (mRet (mJoi (mC (.str "\n")) (mCons (mVar 4) mNil)))))))
theorem ft_q31 {q:Rat} (h:1 ≤ q.num∧q.num ≤ 1000000∧(q.den:Int) ≤ 1000000):q.num.toNat < 10 ^ 31∧q.den < 10 ^ 31:=by omega
theorem qD_nat {q:Rat} (h:1 ≤ q.num):qD q=.tuple [.int (q.num.toNat:Int),.int (q.den:Int)]:=by
 unfold qD; rw [Int.toNat_of_nonneg (by omega)]
def strsA (l:List Str):List AV:=(l.map PyData.str).map AV.im
theorem strsA_app (l:List Str) (z:Str):strsA l ++ [.im (.str z)]=strsA (l ++ [z]):=by unfold strsA; simp
theorem lines_upto (A:List Int) (Pu:List Rat) (W:List (List Int)) (i:Nat):(aLine A :: (List.range i).map fun i=>bLine (Pu.getD i 0) (W.getD i [])) ++ [bLine (Pu.getD i 0) (W.getD i [])]=aLine A :: (List.range (i + 1)).map fun i=>bLine (Pu.getD i 0) (W.getD i []):=by
 rw [List.range_succ,List.map_append]; rfl
section
variable {A:List Int} {Pu:List Rat} {W:List (List Int)}
theorem MkF.aw (F:MkF A Pu W):∀ n ∈ A,0 ≤ n∧n.toNat < 10 ^ 31:=fun n hn=>by have:=F.av n hn; omega
theorem MkF.ww (F:MkF A Pu W) {i:Nat} (hi:i < Pu.length):(W.getD i []).length ≤ 10∧∀ n ∈ W.getD i [],0 ≤ n∧n.toNat < 10 ^ 31:=by
 have h:=F.wv _ (F.row i hi)
 exact ⟨by rw [h.1]; have:=F.a6; omega,fun n hn=>by have:=h.2 n hn; omega⟩
theorem amo_as:AsB amoS=true∧amoS.length ≤ 100:=by decide +kernel
theorem buy_as:AsB buyS=true∧buyS.length ≤ 100:=by decide +kernel
theorem MkF.ftl (F:MkF A Pu W) {i:Nat} (hi:i < Pu.length):AsB (ftQ (Pu.getD i 0))=true∧(ftQ (Pu.getD i 0)).length ≤ 63:=by
 have h:=ft_q31 (F.pv _ (F.pur i hi))
 exact ⟨ft_as _ _,ft_len h.1 h.2⟩
theorem MkF.bw (F:MkF A Pu W) {i:Nat} (hi:i < Pu.length):∀ w ∈ [buyS,ftQ (Pu.getD i 0)],AsB w=true∧w.length ≤ 100:=by
 intro w hw
 simp only [List.mem_cons,List.not_mem_nil,or_false] at hw
 rcases hw with rfl | rfl
 ·exact buy_as
 ·exact ⟨(F.ftl hi).1,by have:=(F.ftl hi).2; omega⟩
theorem MkF.lineL (F:MkF A Pu W):∀ z ∈ linesM A Pu W,AsB z=true∧z.length ≤ 2000:=by
 intro z hz
 rcases List.mem_cons.mp hz with rfl | hz
 ·refine ⟨as_join (by decide +kernel) fun w hw=>?_,?_⟩
  ·exact ((F.ok _ List.mem_cons_self).2 w hw).as
  ·have:=nt_tot (ws:=[amoS]) (ns:=A) (fun w hw=>by rw [List.mem_singleton.mp hw]; exact amo_as.2) (by simp) (by have:=F.a6; omega) F.aw
   exact Nat.le_trans (jg2 rfl _) this
 ·obtain ⟨i,hi,rfl⟩:=List.mem_map.mp hz
  have hi:=List.mem_range.mp hi
  refine ⟨as_join (by decide +kernel) fun w hw=>?_,?_⟩
  ·exact ((F.ok _ (List.mem_cons_of_mem _ (List.mem_map_of_mem (f:=fun i=>buyS :: ftQ (Pu.getD i 0) :: (W.getD i []).map numS) (List.mem_range.mpr hi)))).2 w hw).as
  ·have:=nt_tot (ws:=[buyS,ftQ (Pu.getD i 0)]) (ns:=W.getD i []) (fun w hw=>(F.bw hi w hw).2) (by simp) (F.ww hi).1 (F.ww hi).2
   exact Nat.le_trans (jg2 rfl _) this
theorem MkF.totM (F:MkF A Pu W):totL (linesM A Pu W) ≤ 14007:=by
 have h:=tot_le (linesM A Pu W) 2000 fun z hz=>(F.lineL z hz).2
 have hl:(linesM A Pu W).length=Pu.length + 1:=by unfold linesM; simp
 rw [hl] at h
 have:(Pu.length + 1) * 2001 ≤ 7 * 2001:=Nat.mul_le_mul_right _ (by have:=F.p6; omega)
 omega
end
theorem rd_mt:∀ O xs Pq QX,fMt O xs Pq QX→mMt { nx:=fun _ O'=>Pq (.im .none) O',rt:=Pq } (startS NMt xs) O:=by
 intro O xs Pq QX h
 obtain ⟨A,Pu,W,rfl,hm,h⟩:=h
 have F:=MkF.of hm
 unfold mMt
 rw [nl_eq]
 refine ⟨rfl,⟨⟨len1,[amoS],A,rfl,fun w hw=>(by rw [List.mem_singleton.mp hw]; exact amo_as),by simp,by have:=F.a6; omega,F.aw,len1,⟨?_⟩⟩⟩⟩
 refine ⟨by rw [List.length_map,List.length_map,F.wl]; exact Nat.le_refl _,fun i sl O'=>∃ y5 y6,sl=[some (.im (mkD A Pu W)),some (.im (.tuple (A.map .int))),some (.im (.tuple (Pu.map qD))),some (.im (.tuple (W.map rowD))),some (.own O.length),y5,y6]∧O'=O ++ [some (strsA (aLine A :: (List.range i).map fun i=>bLine (Pu.getD i 0) (W.getD i [])))],⟨_,_,rfl,rfl⟩,?_,?_⟩
 ·rintro i x sl O' hx ⟨y5,y6,rfl,rfl⟩
  have hi:i < Pu.length:=by have:=(List.getElem?_eq_some_iff.mp hx).1; unfold zipI at this; simpa using this
  unfold zipI at hx
  rw [List.getElem?_map,List.getElem?_range (by simpa using hi)] at hx
  have e1:(Pu.map qD).getD i .none=qD (Pu.getD i 0):=by rw [jc8 (List.getElem?_eq_getElem (by simpa using hi)),jc8 (List.getElem?_eq_getElem hi),List.getElem_map]
  have hiw:i < W.length:=by rw [F.wl]; exact hi
  have e2:(W.map rowD).getD i .none=rowD (W.getD i []):=by rw [jc8 (List.getElem?_eq_getElem (by simpa using hiw)),jc8 (List.getElem?_eq_getElem hiw),List.getElem_map]
  have ex:x=.im (.tuple [qD (Pu.getD i 0),rowD (W.getD i [])]):=(Option.some.inj hx).symm.trans (by show AV.im (.tuple [(Pu.map qD).getD i .none,(W.map rowD).getD i .none])=_; rw [e1,e2])
  subst ex
  have hq:=F.pv _ (F.pur i hi)
  have hk:(O ++ [some (strsA (aLine A :: (List.range i).map fun i=>bLine (Pu.getD i 0) (W.getD i [])))])[O.length]?=some (some (strsA (aLine A :: (List.range i).map fun i=>bLine (Pu.getD i 0) (W.getD i [])))):=by simp
  refine ⟨rfl,⟨⟨⟨_,hk⟩,(Pu.getD i 0).num.toNat,(Pu.getD i 0).den,?_,(ft_q31 hq).1,(ft_q31 hq).2,len2,[buyS,ftQ (Pu.getD i 0)],W.getD i [],rfl,F.bw hi,by simp,(F.ww hi).1,(F.ww hi).2,_,hk,?_,_,_,rfl,?_⟩⟩⟩
  ·rw [← qD_nat hq.1]
  ·unfold strsA
   rw [List.length_map,List.length_map,List.length_cons,List.length_map,List.length_range,sz]
   have:=F.p6
   omega
  ·rw [strsA_app]
   have:=lines_upto A Pu W i
   unfold bLine at this ⊢
   show (O ++ [_]).set O.length (some (strsA ((aLine A :: (List.range i).map fun i=>(one 32).join (buyS :: ftQ (Pu.getD i 0) :: (W.getD i []).map numS)) ++ [(one 32).join (buyS :: ftQ (Pu.getD i 0) :: (W.getD i []).map numS)])))=_
   rw [this]
   simp
 ·rintro sl O' ⟨y5,y6,rfl,rfl⟩
  have hl:(zipI (Pu.map qD) (W.map rowD)).length=Pu.length:=by unfold zipI; simp
  rw [hl]
  refine ⟨O.length,(linesM A Pu W).map .str,rfl,by simp [strsA,linesM],⟨linesM A Pu W,rfl,by decide +kernel,rfl,fun z hz=>(F.lineL z hz).1,Nat.le_trans F.totM (by decide),h _ ?_⟩⟩
  exact ⟨[none],by simp⟩
abbrev NLt:List Str:=["one"]
def mLt:MS:=(mRet (mOp catF (mCB strF (mCons (mOp ixF (mVar 0) (mC (.int 0))) mNil)) (mOp rpsF (mOp catF (mC (.str "/")) (mCB strF (mCons (mOp ixF (mVar 0) (mC (.int 1))) mNil))) (mCB intF (mCons (mOp (eqF true) (mOp ixF (mVar 0) (mC (.int 1))) (mC (.int 1))) mNil)))))
theorem rd_lt:∀ O xs Pq QX,fFt O xs Pq QX→mLt { nx:=fun _ O'=>Pq (.im .none) O',rt:=Pq } (startS NLt xs) O:=by
 intro O xs Pq QX h
 obtain ⟨a',b',rfl,ha,hb,h⟩:=h
 have l1:(Str.ofString "/").length=1:=by decide +kernel
 have la:=num31 ha
 have lb:=num31 hb
 have as1:AsB (Str.ofString "/")=true:=by decide +kernel
 have htx:=txt_eq a' b'
 refine ⟨.int a',rfl,Int.natCast_nonneg _,jh4 ha,.int b',rfl,Int.natCast_nonneg _,jh4 hb,⟨as1,num_as b',by show (Str.ofString "/").length + (numS b').length ≤ sizeLine; rw [l1,sz]; omega⟩,.int b',rfl,dI,je7 as1 (num_as b'),_,rfl,⟨num_as a',?_,?_⟩,?_⟩
 ·show AsB (if (!decide ((b':Int)=1))=true then Str.ofString "/" ++ numS b' else Str.empty)=true
  split
  ·exact je7 as1 (num_as b')
  ·exact as_empty
 ·show (numS a').length + (if (!decide ((b':Int)=1))=true then Str.ofString "/" ++ numS b' else Str.empty).length ≤ sizeLine
  rw [sz]
  split
  ·rw [jd7,l1]
   have:(numS (b':Int)).length ≤ 31:=lb
   omega
  ·show _ + 0 ≤ _
   omega
 show Pq (.im (.str (numS a' ++ (if (!decide ((b':Int)=1))=true then Str.ofString "/" ++ numS b' else Str.empty)))) O
 rw [htx]; exact h
abbrev NLx:List Str:=["market","lines","buyer","words"]
def mLx:MS:=(mSeq (mAsg (mOwn (mCons (mJoi (mC (.str " ")) (mCons (mOp addF (mLst (mCons (mC (.str "amounts")) mNil)) (mComp 1 [] (miSeq (mOp ixF (mVar 0) (mC (.int 0)))) (mgN 0) mYes (mCB strF (mCons (mVar 0) mNil)))) mNil)) mNil)) (mgN 1))
 (mSeq (mFor (miR1 (mCons (mCB lenF (mCons (mOp ixF (mVar 0) (mC (.int 1))) mNil)) mNil)) (mgN 2) (mSeq (mAsg (mOp addF (mLst (mCons (mC (.str "buyer")) (mCons (mCall fFt noX (mCons (mOp ixF (mOp ixF (mVar 0) (mC (.int 1))) (mVar 2)) mNil)) mNil))) (mComp 1 [] (miSeq (mOp ixF (mOp ixF (mVar 0) (mC (.int 2))) (mVar 2))) (mgN 0) mYes (mCB strF (mCons (mVar 0) mNil)))) (mgN 3))
 (mDrop (mApp (mVar 1) (mCons (mJoi (mC (.str " ")) (mCons (mVar 3) mNil)) mNil)))))
 (mFrz 1 (mRet (mJoi (mC (.str "\n")) (mCons (mVar 1) mNil))))))
theorem rd_lx:∀ O xs Pq QX,fMt O xs Pq QX→mLx { nx:=fun _ O'=>Pq (.im .none) O',rt:=Pq } (startS NLx xs) O:=by
 intro O xs Pq QX h
 obtain ⟨A,Pu,W,rfl,hm,h⟩:=h
 have F:=MkF.of hm
 have p6:=F.p6
 unfold mLx
 rw [nl_eq,sp_eq]
 refine ⟨len1,_,rfl,?_⟩
 refine jf2 (fun i=>.str (numS (A.getD i 0))) (by simp; have:=F.a6; omega) (fun i x Z hx hZ=>?_) ?_
 ·obtain ⟨hi,hm,rfl⟩:=int_at hx
  have:=F.aw _ hm
  exact ⟨this.1,log_i this.1 this.2,hZ⟩
 have hl:((A.map PyData.int).map AV.im).length=A.length:=by simp
 rw [hl,jd6 (fun n=>PyData.str (numS n)) A 0]
 refine ⟨by rw [List.length_map,sz]; have:=F.a6; show 1 + _ ≤ _; omega,amoS :: A.map numS,by rw [List.map_cons,List.map_map]; rfl,by decide +kernel,rfl,fun z hz=>((F.ok _ List.mem_cons_self).2 z hz).as,Nat.le_trans (nt_tot (ws:=[amoS]) (ns:=A) (fun w hw=>by rw [List.mem_singleton.mp hw]; exact amo_as.2) (by simp) (by have:=F.a6; omega) F.aw) (by decide),len1,⟨_,rfl,?_⟩⟩
 refine ⟨⟨by rw [List.length_map]; omega,by rw [List.length_map]; omega⟩,fun i sl O'=>∃ y2 y3,sl=[some (.im (mkD A Pu W)),some (.own O.length),y2,y3]∧O'=O ++ [some (strsA (aLine A :: (List.range i).map fun i=>bLine (Pu.getD i 0) (W.getD i [])))],⟨_,_,rfl,rfl⟩,?_,?_⟩
 ·rintro i x sl O' hx ⟨y2,y3,rfl,rfl⟩
  obtain ⟨hi,rfl⟩:=rng_at0 hx
  have hi:i < Pu.length:=by simpa using hi
  have hiw:i < W.length:=by rw [F.wl]; exact hi
  have hq:=F.pv _ (F.pur i hi)
  have e1:atI (Pu.map qD) (i:Int)=some (qD (Pu.getD i 0)):=jg6 (by rw [List.getElem?_map,List.getElem?_eq_getElem hi,jc8 (List.getElem?_eq_getElem hi)]; rfl)
  have e2:atI (W.map rowD) (i:Int)=some (rowD (W.getD i [])):=jg6 (by rw [List.getElem?_map,List.getElem?_eq_getElem hiw,jc8 (List.getElem?_eq_getElem hiw)]; rfl)
  have hk:(O ++ [some (strsA (aLine A :: (List.range i).map fun i=>bLine (Pu.getD i 0) (W.getD i [])))])[O.length]?=some (some (strsA (aLine A :: (List.range i).map fun i=>bLine (Pu.getD i 0) (W.getD i [])))):=by simp
  refine ⟨_,rfl,_,e1,(Pu.getD i 0).num.toNat,(Pu.getD i 0).den,by rw [← qD_nat hq.1],(ft_q31 hq).1,(ft_q31 hq).2,len2,_,rfl,_,e2,?_⟩
  refine jf2 (fun j=>.str (numS ((W.getD i []).getD j 0))) (by rw [List.length_map,List.length_map]; have:=(F.ww hi).1; omega) (fun j x Z hx hZ=>?_) ?_
  ·obtain ⟨hj,hm,rfl⟩:=int_at hx
   have:=(F.ww hi).2 _ hm
   exact ⟨this.1,log_i this.1 this.2,hZ⟩
  have hl2:(((W.getD i []).map PyData.int).map AV.im).length=(W.getD i []).length:=by simp
  rw [hl2,jd6 (fun n=>PyData.str (numS n)) (W.getD i []) 0]
  refine ⟨by rw [List.length_map,sz]; have:=(F.ww hi).1; show 2 + _ ≤ _; omega,⟨⟨_,hk⟩,buyS :: ftQ (Pu.getD i 0) :: (W.getD i []).map numS,by rw [List.map_cons,List.map_cons,List.map_map]; rfl,by decide +kernel,rfl,fun z hz=>((F.ok _ (List.mem_cons_of_mem _ (List.mem_map_of_mem (f:=fun i=>buyS :: ftQ (Pu.getD i 0) :: (W.getD i []).map numS) (List.mem_range.mpr hi)))).2 z hz).as,Nat.le_trans (nt_tot (ws:=[buyS,ftQ (Pu.getD i 0)]) (ns:=W.getD i []) (fun w hw=>(F.bw hi w hw).2) (by simp) (F.ww hi).1 (F.ww hi).2) (by decide),_,hk,?_,_,_,rfl,?_⟩⟩
  ·unfold strsA
   rw [List.length_map,List.length_map,List.length_cons,List.length_map,List.length_range,sz]
   omega
  ·rw [strsA_app]
   have:=lines_upto A Pu W i
   unfold bLine at this ⊢
   show (O ++ [_]).set O.length (some (strsA ((aLine A :: (List.range i).map fun i=>(one 32).join (buyS :: ftQ (Pu.getD i 0) :: (W.getD i []).map numS)) ++ [(one 32).join (buyS :: ftQ (Pu.getD i 0) :: (W.getD i []).map numS)])))=_
   rw [this]
   simp
 ·rintro sl O' ⟨y2,y3,rfl,rfl⟩
  have hl2:(rngI 0 ((Pu.map qD).length:Int).toNat).length=Pu.length:=by unfold rngI; simp
  rw [hl2]
  refine ⟨O.length,(linesM A Pu W).map .str,rfl,by simp [strsA,linesM],⟨linesM A Pu W,rfl,by decide +kernel,rfl,fun z hz=>(F.lineL z hz).1,Nat.le_trans F.totM (by decide),h _ ?_⟩⟩
  exact ⟨[none],by simp⟩
def wsD (w:List Str):PyData:=.list (w.map .str)
theorem ws_at {os:List (List Str)} {i:Nat} {x:AV} (h:((os.map wsD).map AV.im)[i]?=some x):i < os.length∧os.getD i [] ∈ os∧x=.im (wsD (os.getD i [])):=by
 have hi:i < os.length:=by have:=(List.getElem?_eq_some_iff.mp h).1; simpa using this
 rw [List.getElem?_map,List.getElem?_map,List.getElem?_eq_getElem hi] at h
 have e:os.getD i []=os[i]:=jc8 (List.getElem?_eq_getElem hi)
 rw [e]
 exact ⟨hi,List.getElem_mem _,(Option.some.inj h).symm⟩
theorem w_at {w:List Str} {k:Nat} (h:k < w.length):atI (w.map PyData.str) (k:Int)=some (.str (wAt w k))∧wAt w k ∈ w:=by
 have e:wAt w k=w[k]:=jc8 (List.getElem?_eq_getElem h)
 rw [e]
 exact ⟨jg6 (by rw [List.getElem?_map,List.getElem?_eq_getElem h]; rfl),List.getElem_mem _⟩
theorem cut_ws {w:List Str} {k:Nat} (h:k ≤ w.length):cutD (w.map PyData.str) (some (k:Int)) none=(w.drop k).map .str:=by
 rw [cutD_from (by omega) (by rw [List.length_map]; omega),List.map_drop]; rfl
structure LnF (x:Str) (f:List Str) (os:List (List Str)):Prop where
 e:lnsOf x=f :: os
 fl:1 ≤ f.length
 fw:∀ w ∈ f,AsB w=true∧w.length ≤ 400000
 fn:f.length ≤ 500000
 ol:∀ o ∈ os,1 ≤ o.length∧o.length ≤ 500000∧∀ w ∈ o,AsB w=true∧w.length ≤ 400000
 on:os.length ≤ 500000
theorem ln_mem {x:Str} (ha:AsB x=true) (hl:x.length ≤ 400000):∀ o ∈ lnsOf x,1 ≤ o.length∧o.length ≤ 500000∧∀ w ∈ o,AsB w=true∧w.length ≤ 400000:=by
 intro o ho
 obtain ⟨l,hm,rfl⟩:=List.mem_map.mp ho
 have h1:=PyProof.Rows.part_short hm
 have h2:=PyProof.Rows.split_le l (one 32)
 exact ⟨PyProof.Rows.split_pos l (one 32),by omega,fun w hw=>⟨jf4 (jf4 ha hm) hw,by have:=PyProof.Rows.part_short hw; omega⟩⟩
theorem ln_ex {x:Str} (ha:AsB x=true) (hl:x.length ≤ 400000):∃ f os,LnF x f os:=by
 have hm:=ln_mem ha hl
 have h1:=PyProof.Rows.split_pos x (one 10)
 have h2:=PyProof.Rows.split_le x (one 10)
 have hn:(lnsOf x).length=(Txt.split x (one 10)).length:=by unfold lnsOf; rw [List.length_map]
 cases e:lnsOf x with
 | nil=>rw [e] at hn; simp at hn; omega
 | cons f os =>
  rw [e] at hm hn
  have hf:=hm f List.mem_cons_self
  exact ⟨f,os,e,hf.1,hf.2.2,hf.2.1,fun o ho=>hm o (List.mem_cons_of_mem _ ho),by simp at hn; omega⟩
def bOk (w:List Str):Bool:=decide (1 < w.length) && (wAt w 0 == buyS)
theorem all_mapB {α : Type} (l:List α) (g:α→Bool):(l.map g).all id=l.all g:=by rw [List.all_map]; rfl
def fRm (Tx:Addr):FM:=fun O xs P PX=>∃ d,xs=[.im d]∧rdPW d∧(∀ m,rmD d=some m→P (.im m) O)∧(rmD d=none→PX Tx O)
abbrev NRm:List Str:=["text","first","others","purses","market"]
def mRm (QX:Addr→Sto→Prop) (Tx:Addr):MS:=(mSeq (mDrop (mCall (fNeT Tx) QX (mCons (mVar 0) mNil)))
 (mSeq (mAsg (mComp 1 [] (miSeq (mSpl (mVar 0) (mCons (mC (.str "\n")) mNil))) (mgN 0) mYes (mSpl (mVar 0) (mCons (mC (.str " ")) mNil))) (mgStar (mgCons (mgN 1) (mgCons (mgN 2) mgNil))))
 (mSeq (mIfS (mOrT (mTst (mOp (eqF true) (mOp ixF (mVar 1) (mC (.int 0))) (mC (.str "amounts")))) (mNot (mTst (mCB allF (mCons (mComp 1 [] (miSeq (mVar 2)) (mgN 0) mYes (mAndV (mOp gtF (mCB lenF (mCons (mVar 0) mNil)) (mC (.int 1))) (mOp (eqF false) (mOp ixF (mVar 0) (mC (.int 0))) (mC (.str "buyer"))))) mNil))))) (mRaise QX Tx (mCons (mC (.str "this is not written as a market is")) mNil)) mNext)
 (mSeq (mAsg (mCB tupF (mCons (mComp 1 [] (miSeq (mVar 2)) (mgN 0) mYes (mCall (fRfW Tx) QX (mCons (mOp ixF (mVar 0) (mC (.int 1))) mNil))) mNil)) (mgN 3))
 (mSeq (mAsg (mTup (mCons (mCall (fRsW Tx) QX (mCons (mSl (mVar 1) (mSoP (mC (.int 1))) mNoP) mNil)) (mCons (mVar 3) (mCons (mCB tupF (mCons (mComp 1 [] (miSeq (mVar 2)) (mgN 0) mYes (mCall (fRsW Tx) QX (mCons (mSl (mVar 0) (mSoP (mC (.int 2))) mNoP) mNil))) mNil)) mNil)))) (mgN 4))
 (mSeq (mIfS (mNot (mTst (mCall (fT isMk) noX (mCons (mVar 4) mNil)))) (mRaise QX Tx (mCons (mC (.str "there is no such market")) mNil)) mNext)
 (mRet (mVar 4))))))))
theorem rd_rm (Tx:Addr):∀ O xs Pq QX,fRm Tx O xs Pq QX→mRm QX Tx { nx:=fun _ O'=>Pq (.im .none) O',rt:=Pq } (startS NRm xs) O:=by
 intro O xs Pq QX h
 obtain ⟨d,rfl,hp,h1,h2⟩:=h
 unfold mRm
 rw [nl_eq,sp_eq]
 refine ⟨d,rfl,fun hs=>⟨?_⟩,fun hs=>h2 ?_⟩
 rotate_left
 ·cases d <;> first | rfl | cases hs
 cases d with
 | str x =>
  obtain ⟨ha,hl⟩:=hp x rfl
  obtain ⟨f,os,L⟩:=ln_ex ha hl
  have hrm:rmD (.str x)=rmL f os:=by show rmF x=_; unfold rmF; rw [L.e]
  rw [hrm] at h1 h2
  have hle:=PyProof.Rows.split_le x (one 10)
  refine ⟨ha,rfl,by rw [sz]; omega,?_⟩
  refine jf2 (fun i=>wsD (Txt.split ((Txt.split x (one 10)).getD i Str.empty) (one 32))) (by rw [List.length_map,List.length_map]; omega) (fun i v Z hv hZ=>?_) ?_
  ·obtain ⟨hi,hm,rfl⟩:=str_at hv
   exact ⟨jf4 ha hm,rfl,by have:=PyProof.Rows.part_short hm; rw [sz]; omega,hZ⟩
  have hln:(((Txt.split x (one 10)).map PyData.str).map AV.im).length=(Txt.split x (one 10)).length:=by simp
  have e0:(Txt.split x (one 10)).map (fun l=>wsD (Txt.split l (one 32)))=wsD f :: os.map wsD:=by
   have:(lnsOf x).map wsD=wsD f :: os.map wsD:=by rw [L.e]; rfl
   rw [← this]; unfold lnsOf; rw [List.map_map]; rfl
  rw [hln,map_ps (Txt.split x (one 10)) fun l=>wsD (Txt.split l (one 32)),e0]
  refine ⟨?_⟩
  show mSeq _ _ _ [some (.im (.str x)),some (.im (wsD f)),some (.im (.list (os.map wsD))),none,none] O
  have hf0:=w_at (w:=f) (k:=0) (by have:=L.fl; omega)
  have bad:hdOk f os=false→QX Tx O:=fun z=>h2 (by unfold rmL; rw [z]; rfl)
  refine ⟨.str (wAt f 0),hf0.1,by show min 0 0 ≤ 60; decide,fun z=>⟨fun _=>⟨len1,bad ?_⟩,fun z=>by cases z⟩,fun z=>?_⟩
  ·have z1:(!eqq (.str (wAt f 0)) (.str amoS))=true:=z
   rw [eqq_s] at z1
   unfold hdOk
   cases hq:(wAt f 0 == amoS) with
   | true=>rw [hq] at z1; cases z1
   | false=>rfl
  have hamo:(wAt f 0 == amoS)=true:=by
   have z1:(!eqq (.str (wAt f 0)) (.str amoS))=false:=z
   rw [eqq_s] at z1
   simpa using z1
  refine jf2 (fun i=>.bool (bOk (os.getD i []))) (by rw [List.length_map,List.length_map]; have:=L.on; omega) (fun i v Z hv hZ=>?_) ?_
  ·obtain ⟨hi,hm,rfl⟩:=ws_at hv
   have ho:=(L.ol _ hm).1
   have h0:=w_at (w:=os.getD i []) (k:=0) (by omega)
   generalize os.getD i []=w at *
   refine ⟨fun z=>⟨.str (wAt w 0),h0.1,by show min 0 0 ≤ 60; decide,?_⟩,fun z=>?_⟩
   ·have z1:=of_decide_eq_true z
    rw [List.length_map] at z1
    have e:bOk w=eqq (.str (wAt w 0)) (.str buyS):=by
     unfold bOk; rw [eqq_s,decide_eq_true (show 1 < w.length by omega)]; rfl
    rw [e] at hZ; exact hZ
   ·have z1:=of_decide_eq_false z
    rw [List.length_map] at z1
    have e:bOk w=false:=by unfold bOk; rw [decide_eq_false (show ¬ 1 < w.length by omega)]; rfl
    rw [e] at hZ; exact hZ
  have hlo:((os.map wsD).map AV.im).length=os.length:=by simp
  rw [hlo,jd6 (fun w=>PyData.bool (bOk w)) os []]
  refine ⟨os.map bOk,by rw [List.map_map]; rfl,?_⟩
  rw [all_mapB]
  have hh:hdOk f os=os.all bOk:=by unfold hdOk bOk; rw [hamo]; rfl
  rw [← hh]
  refine ⟨fun z=>⟨len1,bad (by simpa using z)⟩,fun z=>⟨?_⟩⟩
  have hd:hdOk f os=true:=by simpa using z
  have hob:∀ o ∈ os,1 < o.length:=fun o ho=>by
   have:=List.all_eq_true.mp (hh.symm.trans hd) o ho
   unfold bOk at this
   rw [Bool.and_eq_true] at this
   exact of_decide_eq_true this.1
  have bad2:figsOk f os=false→QX Tx O:=fun z=>h2 (by unfold rmL; rw [z,Bool.and_false]; rfl)
  have badp:∀ o ∈ os,((rdF (wAt o 1)).isSome && (o.drop 2).all fig)=false→QX Tx O:=fun o ho z=>bad2 (by
   unfold figsOk
   cases hq:os.all fun w=>(rdF (wAt w 1)).isSome && (w.drop 2).all fig with
   | true=>rw [List.all_eq_true.mp hq o ho] at z; cases z
   | false=>rw [Bool.and_false])
  refine comp_all (fun i d=>(rdF (wAt (os.getD i []) 1)).isSome=true∧d=duD (rdF (wAt (os.getD i []) 1))) (by rw [hlo]; have:=L.on; omega) (fun i v Z hv hZ=>?_) fun ds hds hR=>?_
  ·obtain ⟨hi,hm,rfl⟩:=ws_at hv
   have h1':=w_at (w:=os.getD i []) (k:=1) (hob _ hm)
   have hw:=(L.ol _ hm).2.2 _ h1'.2
   refine ⟨_,h1'.1,_,rfl,fun y e=>by injection e with e; rw [← e]; exact hw,fun r hr=>hZ _ ⟨?_,?_⟩,fun hr=>badp _ hm ?_⟩
   ·have hr':rdF (wAt (os.getD i []) 1)=some r:=hr
    rw [hr']; rfl
   ·have hr':rdF (wAt (os.getD i []) 1)=some r:=hr
    rw [hr']
   ·have hr':rdF (wAt (os.getD i []) 1)=none:=hr
    rw [hr']; rfl
  rw [hlo] at hds
  have e1:=list_ix (fun j hj=>(hR j hj).2)
  rw [hds,jd6 (fun w=>duD (rdF (wAt w 1))) os []] at e1
  have hpa:∀ o ∈ os,(rdF (wAt o 1)).isSome=true:=fun o ho=>by
   obtain ⟨j,hj,rfl⟩:=List.getElem_of_mem ho
   have:=(hR j (by omega)).1
   rw [jc8 (List.getElem?_eq_getElem hj)] at this; exact this
  rw [e1]
  refine ⟨?_⟩
  show mSeq _ _ _ [some (.im (.str x)),some (.im (wsD f)),some (.im (.list (os.map wsD))),some (.im (.tuple (os.map fun w=>duD (rdF (wAt w 1))))),none] O
  have hc1:=cut_ws (w:=f) (k:=1) L.fl
  refine ⟨f.drop 1,by show [AV.im (.list (cutD (f.map PyData.str) (some ((1:Nat):Int)) none))]=_; rw [hc1],by have:=L.fn; rw [List.length_drop]; omega,fun p hp=>L.fw p (List.mem_of_mem_drop hp),fun hff=>?_,fun hff=>bad2 (by unfold figsOk; rw [hff]; rfl)⟩
  refine comp_all (fun i d=>((os.getD i []).drop 2).all fig=true∧d=.tuple (numsD ((os.getD i []).drop 2))) (by rw [hlo]; have:=L.on; omega) (fun i v Z hv hZ=>?_) fun ds2 hds2 hR2=>?_
  ·obtain ⟨hi,hm,rfl⟩:=ws_at hv
   have hc2:=cut_ws (w:=os.getD i []) (k:=2) (hob _ hm)
   refine ⟨(os.getD i []).drop 2,by show [AV.im (.list (cutD ((os.getD i []).map PyData.str) (some ((2:Nat):Int)) none))]=_; rw [hc2],by have:=(L.ol _ hm).2.1; rw [List.length_drop]; omega,fun p hp=>(L.ol _ hm).2.2 p (List.mem_of_mem_drop hp),fun hff=>hZ _ ⟨hff,rfl⟩,fun hff=>badp _ hm (by rw [hff,Bool.and_false])⟩
  rw [hlo] at hds2
  have e2:=list_ix (fun j hj=>(hR2 j hj).2)
  rw [hds2,jd6 (fun w:List Str=>PyData.tuple (numsD (w.drop 2))) os []] at e2
  have hpb:∀ o ∈ os,(o.drop 2).all fig=true:=fun o ho=>by
   obtain ⟨j,hj,rfl⟩:=List.getElem_of_mem ho
   have:=(hR2 j (by omega)).1
   rw [jc8 (List.getElem?_eq_getElem hj)] at this; exact this
  have hfo:figsOk f os=true:=by
   unfold figsOk
   rw [hff,Bool.true_and,List.all_eq_true]
   intro o ho
   rw [hpa o ho,hpb o ho]; rfl
  rw [e2]
  refine ⟨len3,⟨?_⟩⟩
  have hrl:rmL f os=if isMk (mOf f os)=true then some (mOf f os) else none:=by unfold rmL; rw [hd,hfo]; rfl
  rw [hrl] at h1 h2
  refine ⟨fun z=>⟨len1,h2 (if_neg ?_)⟩,fun z=>⟨h1 _ (if_pos ?_)⟩⟩
  ·have z1:(!isMk (mOf f os))=true:=z
   simpa using z1
  ·have z1:(!isMk (mOf f os))=false:=z
   simpa using z1
 | _=>cases hs
def fMkt:FM:=fun O xs P _=>∃ j,xs=[.bag j]∧∀ (A:List Int) (Pu:List Rat) (W:List (List Int)),isMk (mkD A Pu W)=true→(∀ r ∈ W,∃ k ∈ r,1 ≤ k)→P (.im (mkD A Pu W)) O
theorem map_of {α : Type} {f:α→PyData}:∀ {ds:List PyData},(∀ d ∈ ds,∃ x,d=f x)→∃ xs:List α,ds=xs.map f
 | [],_=>⟨[],rfl⟩
 | d :: ds,h=>by
  obtain ⟨x,rfl⟩:=h d List.mem_cons_self
  obtain ⟨xs,rfl⟩:=map_of (ds:=ds) fun d hd=>h d (List.mem_cons_of_mem _ hd)
  exact ⟨x :: xs,rfl⟩
theorem within_int {a b:Int} {d:PyData} (h:within a b d=true):∃ x,d=.int x:=by
 cases d with
 | int n=>exact ⟨n,rfl⟩
 | _=>cases h
theorem mk_some {am pu wi:List PyData} (h:isMk (.tuple [.tuple am,.tuple pu,.tuple wi])=true):∃ A Pu W,(PyData.tuple [.tuple am,.tuple pu,.tuple wi])=mkD A Pu W:=by
 obtain ⟨h1,h2,h3,h4,h5,h6,h7,h8⟩:=isMk_out h
 obtain ⟨A,rfl⟩:=map_of (f:=PyData.int) fun d hd=>within_int (List.all_eq_true.mp h3 d hd)
 obtain ⟨Pu,rfl⟩:=map_of (f:=qD) (ds:=pu) fun d hd=>by
  obtain ⟨q,e,_⟩:=purse_q (List.all_eq_true.mp h6 d hd)
  exact ⟨q,e⟩
 obtain ⟨W,rfl⟩:=map_of (f:=rowD) (ds:=wi) fun d hd=>by
  have:=List.all_eq_true.mp h8 d hd
  cases d with
  | tuple ds =>
   have e:(decide (ds.length=(A.map PyData.int).length) && ds.all (within 0 100))=true:=this
   rw [Bool.and_eq_true] at e
   obtain ⟨r,rfl⟩:=map_of (f:=PyData.int) fun d hd=>within_int (List.all_eq_true.mp e.2 d hd)
   exact ⟨r,rfl⟩
  | _=>cases this
 exact ⟨A,Pu,W,rfl⟩
section
variable {K:PySem.W.Frag}
theorem lk_mk:LkS K spMk fMkt:=fun w O H vs xs P PX Q E r a hf q x=>by
 obtain ⟨j,rfl,hf⟩:=hf
 obtain ⟨v,us,rfl,h1,h2⟩:=a.uncons
 rw [h2.unnil]
 obtain ⟨b,hb,rfl⟩:=h1
 have hbm:=List.mem_of_getElem? hb
 refine ⟨b,rfl,r.bg b hbm,fun p am pu wi H' hB hK t m pd=>?_⟩
 obtain ⟨r1,e1,_⟩:=r.draw hbm hK hB
 obtain ⟨A,Pu,W,e⟩:=mk_some m
 have ew:wi=W.map rowD:=by
  have:=congrArg (fun d=>match d with | PyData.tuple [_,_,.tuple x]=>x | _=>[]) e
  exact this
 have hp:∀ r ∈ W,∃ k ∈ r,1 ≤ k:=fun r hr=>pos_row m pd (by rw [ew,rowsOf_row]; exact hr)
 rw [e] at t m
 exact q _ _ O w H' (hf A Pu W m hp) e1 r1 (toG r1 t (noL_mk A Pu W))
end
def fMovT:FM:=fun O xs P _=>∃ (j:Nat) (x y:Str),xs=[.bag j,.im (.str x),.im (.str y)]∧AsB x=true∧AsB y=true∧x.length ≤ 400000∧y.length ≤ 1∧∀ z:Str,AsB z=true→z.length ≤ 3 * x.length + 1→P (.im (.str z)) O
abbrev NMvT:List Str:=["bag","some","new","at","way"]
def mMovT:MS:=(mSeq (mAsg (mCall fTake noX (mCons (mVar 0) (mCons (mOp addF (mCB lnsF (mCons (mVar 1) mNil)) (mC (.int 1))) mNil))) (mgN 3))
 (mSeq (mAsg (mCall fTake noX (mCons (mVar 0) (mCons (mC (.int 5)) mNil))) (mgN 4))
 (mSeq (mIfS (mTst (mOp (eqF false) (mVar 4) (mC (.int 0)))) (mRet (mOp catF (mSlS (mVar 1) mNoP (mSoP (mVar 3))) (mSlS (mVar 1) (mSoP (mOp addF (mVar 3) (mC (.int 1)))) mNoP))) mNext)
 (mSeq (mIfS (mTst (mOp (eqF false) (mVar 4) (mC (.int 1)))) (mRet (mOp catF (mSlS (mVar 1) mNoP (mSoP (mOp addF (mVar 3) (mC (.int 1))))) (mSlS (mVar 1) (mSoP (mVar 3)) mNoP))) mNext)
 (mSeq (mIfS (mTst (mOp (eqF false) (mVar 4) (mC (.int 2)))) (mRet (mOp catF (mOp catF (mSlS (mVar 1) mNoP (mSoP (mVar 3))) (mVar 2)) (mSlS (mVar 1) (mSoP (mVar 3)) mNoP))) mNext)
 (mSeq (mIfS (mTst (mOp (eqF false) (mVar 4) (mC (.int 3)))) (mRet (mOp catF (mOp catF (mSlS (mVar 1) mNoP (mSoP (mVar 3))) (mRev (mSlS (mVar 1) (mSoP (mVar 3)) (mSoP (mOp addF (mVar 3) (mC (.int 2))))))) (mSlS (mVar 1) (mSoP (mOp addF (mVar 3) (mC (.int 2)))) mNoP))) mNext)
 (mRet (mOp catF (mOp catF (mSlS (mVar 1) mNoP (mSoP (mVar 3))) (mVar 2)) (mSlS (mVar 1) (mSoP (mOp addF (mVar 3) (mC (.int 1)))) mNoP)))))))))
theorem rd_movT:∀ O xs Pq QX,fMovT O xs Pq QX→mMovT { nx:=fun _ O'=>Pq (.im .none) O',rt:=Pq } (startS NMvT xs) O:=by
 intro O xs Pq QX h
 obtain ⟨j,x,y,rfl,hx,hy,lx,ly,h⟩:=h
 have hsz:x.length ≤ sizeLine:=by rw [sz]; omega
 have c1:∀ lo hi,(cutS x lo hi none).length ≤ x.length:=fun _ _=>cut_len
 have a1:∀ lo hi,AsB (cutS x lo hi none)=true:=fun _ _=>as_cut hx
 refine ⟨hsz,⟨⟨by omega,by omega⟩,fun r1 a b=>⟨⟨⟨by decide,by decide⟩,fun r2 a2 b2=>⟨?_⟩⟩⟩⟩⟩
 show mSeq _ _ _ [some (.bag j),some (.im (.str x)),some (.im (.str y)),some (.im (.int r1)),some (.im (.int r2))] O
 refine ⟨by show min 0 0 ≤ 60; decide,fun _=>?_,fun _=>⟨by show min 0 0 ≤ 60; decide,fun _=>?_,fun _=>⟨by show min 0 0 ≤ 60; decide,fun _=>?_,fun _=>⟨by show min 0 0 ≤ 60; decide,fun _=>?_,fun _=>?_⟩⟩⟩⟩
 ·exact ⟨hx,hsz,hx,hsz,⟨a1 _ _,a1 _ _,by have:=c1 none (some r1); have:=c1 (some (r1 + 1)) none; rw [sz]; omega⟩,h _ (je7 (a1 _ _) (a1 _ _)) (by rw [jd7]; have:=c1 none (some r1); have:=c1 (some (r1 + 1)) none; omega)⟩
 ·exact ⟨hx,hsz,hx,hsz,⟨a1 _ _,a1 _ _,by have:=c1 none (some (r1 + 1)); have:=c1 (some r1) none; rw [sz]; omega⟩,h _ (je7 (a1 _ _) (a1 _ _)) (by rw [jd7]; have:=c1 none (some (r1 + 1)); have:=c1 (some r1) none; omega)⟩
 ·have l1:=c1 none (some r1)
  have l2:=c1 (some r1) none
  exact ⟨hx,hsz,⟨a1 _ _,hy,by rw [sz]; omega⟩,hx,hsz,⟨je7 (a1 _ _) hy,a1 _ _,by rw [jd7,sz]; omega⟩,h _ (je7 (je7 (a1 _ _) hy) (a1 _ _)) (by rw [jd7,jd7]; omega)⟩
 ·have l1:=c1 none (some r1)
  have l2:=c1 (some r1) (some (r1 + 2))
  have l3:=c1 (some (r1 + 2)) none
  have l4:=rev_len (z:=cutS x (some r1) (some (r1 + 2)) none)
  have a4:AsB (cutS (cutS x (some r1) (some (r1 + 2)) none) none none (some (-1)))=true:=as_cut (a1 _ _)
  exact ⟨hx,hsz,hx,hsz,a1 _ _,by rw [sz]; omega,⟨a1 _ _,a4,by rw [sz]; omega⟩,hx,hsz,⟨je7 (a1 _ _) a4,a1 _ _,by rw [jd7,sz]; omega⟩,h _ (je7 (je7 (a1 _ _) a4) (a1 _ _)) (by rw [jd7,jd7]; omega)⟩
 ·have l1:=c1 none (some r1)
  have l2:=c1 (some (r1 + 1)) none
  exact ⟨hx,hsz,⟨a1 _ _,hy,by rw [sz]; omega⟩,hx,hsz,⟨je7 (a1 _ _) hy,a1 _ _,by rw [jd7,sz]; omega⟩,h _ (je7 (je7 (a1 _ _) hy) (a1 _ _)) (by rw [jd7,jd7]; omega)⟩
def cutW (xs:List Str) (lo hi:Option Int):List Str:=(xs.drop (HT.sIx xs.length 0 lo)).take (HT.sIx xs.length xs.length hi - HT.sIx xs.length 0 lo)
theorem jg5 (ws:List Str) (lo hi:Option Int):cutD (ws.map PyData.str) lo hi=(cutW ws lo hi).map .str:=by
 unfold cutD cutW
 rw [List.length_map,List.map_take,List.map_drop]
theorem cutW_sub (ws:List Str) (lo hi:Option Int):(cutW ws lo hi).Sublist ws:=(List.take_sublist _ _).trans (List.drop_sublist _ _)
theorem pick_map {α β : Type} (f:α→β) (ix:List Nat) (l:List α):pickX ix (l.map f)=(pickX ix l).map f:=by
 unfold pickX
 rw [List.map_filterMap]
 congr 1
 funext i
 rw [List.getElem?_map]
theorem revX_eq (n:Nat):revX n=(List.range n).map fun k=>n - 1 - k:=by
 unfold revX sliceBounds sliceRange
 have h:¬ ((-1:Int) > 0):=by decide
 simp only [Option.getD_some,if_neg h,Int.neg_neg,Int.ediv_one]
 have hc:((if (n:Int) - 1 > -1 then (n:Int) - 1 - -1 - -1 - 1 else 0)).toNat=n:=by split <;> omega
 rw [hc]
 refine List.map_congr_left fun k hk=>?_
 have:=List.mem_range.mp hk
 omega
theorem fm_congr {α β : Type} {f g:α→Option β}:∀ {l:List α},(∀ x ∈ l,f x=g x)→l.filterMap f=l.filterMap g
 | [],_=>rfl
 | a :: l,h=>by rw [List.filterMap_cons,List.filterMap_cons,h a List.mem_cons_self,fm_congr fun x hx=>h x (List.mem_cons_of_mem _ hx)]
theorem pick_rev (l:List Str):pickX (revX l.length) l=l.reverse:=by
 rw [revX_eq]
 unfold pickX
 rw [List.filterMap_map]
 have h:∀ k ∈ List.range l.length,((fun i=>l[i]?) ∘ fun k=>l.length - 1 - k) k=(some ∘ fun k=>l.reverse.getD k Str.empty) k:=fun k hk=>by
  have hk:=List.mem_range.mp hk
  show l[l.length - 1 - k]?=some (l.reverse.getD k Str.empty)
  rw [List.getElem?_eq_getElem (by omega),jc8 (List.getElem?_eq_getElem (by simpa using hk)),List.getElem_reverse]
 rw [fm_congr h,List.filterMap_eq_map]
 have:=jd6 (fun z:Str=>z) l.reverse Str.empty
 rw [List.length_reverse] at this
 rw [this,List.map_id']
theorem tot_rev (l:List Str):totL l.reverse=totL l:=by
 induction l with
 | nil=>rfl
 | cons a l ih =>
  rw [List.reverse_cons,tot_app,ih]
  unfold totL
  rw [List.map_cons,List.sum_cons]
  simp
  omega
def fMovL:FM:=fun O xs P _=>∃ (j:Nat) (ws:List Str) (y:Str),xs=[.bag j,.im (.list (ws.map .str)),.im (.list [.str y])]∧(∀ w ∈ ws,AsB w=true)∧AsB y=true∧ws.length ≤ 400002∧∀ zs:List Str,(∀ z ∈ zs,AsB z=true)→totL zs ≤ 3 * totL ws + y.length + 1→P (.im (.list (zs.map .str))) O
abbrev NMvL:List Str:=["bag","some","new","at","way"]
def mMovL:MS:=(mSeq (mAsg (mCall fTake noX (mCons (mVar 0) (mCons (mOp addF (mCB lenF (mCons (mVar 1) mNil)) (mC (.int 1))) mNil))) (mgN 3))
 (mSeq (mAsg (mCall fTake noX (mCons (mVar 0) (mCons (mC (.int 5)) mNil))) (mgN 4))
 (mSeq (mIfS (mTst (mOp (eqF false) (mVar 4) (mC (.int 0)))) (mRet (mOp addF (mSl (mVar 1) mNoP (mSoP (mVar 3))) (mSl (mVar 1) (mSoP (mOp addF (mVar 3) (mC (.int 1)))) mNoP))) mNext)
 (mSeq (mIfS (mTst (mOp (eqF false) (mVar 4) (mC (.int 1)))) (mRet (mOp addF (mSl (mVar 1) mNoP (mSoP (mOp addF (mVar 3) (mC (.int 1))))) (mSl (mVar 1) (mSoP (mVar 3)) mNoP))) mNext)
 (mSeq (mIfS (mTst (mOp (eqF false) (mVar 4) (mC (.int 2)))) (mRet (mOp addF (mOp addF (mSl (mVar 1) mNoP (mSoP (mVar 3))) (mVar 2)) (mSl (mVar 1) (mSoP (mVar 3)) mNoP))) mNext)
 (mSeq (mIfS (mTst (mOp (eqF false) (mVar 4) (mC (.int 3)))) (mRet (mOp addF (mOp addF (mSl (mVar 1) mNoP (mSoP (mVar 3))) (mRvL (mSl (mVar 1) (mSoP (mVar 3)) (mSoP (mOp addF (mVar 3) (mC (.int 2))))))) (mSl (mVar 1) (mSoP (mOp addF (mVar 3) (mC (.int 2)))) mNoP))) mNext)
 (mRet (mOp addF (mOp addF (mSl (mVar 1) mNoP (mSoP (mVar 3))) (mVar 2)) (mSl (mVar 1) (mSoP (mOp addF (mVar 3) (mC (.int 1)))) mNoP)))))))))
theorem rd_movL:∀ O xs Pq QX,fMovL O xs Pq QX→mMovL { nx:=fun _ O'=>Pq (.im .none) O',rt:=Pq } (startS NMvL xs) O:=by
 intro O xs Pq QX h
 obtain ⟨j,ws,y,rfl,hw,hy,lw,h⟩:=h
 have c1:∀ lo hi,totL (cutW ws lo hi) ≤ totL ws:=fun _ _=>tot_sub (cutW_sub ws _ _)
 have n1:∀ lo hi,(cutW ws lo hi).length ≤ ws.length:=fun _ _=>(cutW_sub ws _ _).length_le
 have a1:∀ lo hi,∀ z ∈ cutW ws lo hi,AsB z=true:=fun _ _ z hz=>hw z ((cutW_sub ws _ _).subset hz)
 have ty:totL [y]=y.length + 1:=by simp [totL]
 have ay:∀ z ∈ [y],AsB z=true:=fun z hz=>by rw [List.mem_singleton.mp hz]; exact hy
 have aa:∀ {a b:List Str},(∀ z ∈ a,AsB z=true)→(∀ z ∈ b,AsB z=true)→∀ z ∈ a ++ b,AsB z=true:=fun ha hb z hz=>(List.mem_append.mp hz).elim (ha z) (hb z)
 refine ⟨⟨by omega,by rw [List.length_map]; omega⟩,fun r1 a b=>⟨⟨⟨by decide,by decide⟩,fun r2 a2 b2=>⟨?_⟩⟩⟩⟩
 show mSeq _ _ _ [some (.bag j),some (.im (.list (ws.map .str))),some (.im (.list [.str y])),some (.im (.int r1)),some (.im (.int r2))] O
 have h2:∀ u v:List Str,(∀ z ∈ u,AsB z=true)→(∀ z ∈ v,AsB z=true)→totL u ≤ totL ws→totL v ≤ totL ws→Pq (.im (.list (u.map .str ++ v.map .str))) O:=fun u v hu hv tu tv=>by
  rw [← List.map_append]; exact h _ (aa hu hv) (by rw [tot_app]; omega)
 have h3:∀ u v x:List Str,(∀ z ∈ u,AsB z=true)→(∀ z ∈ v,AsB z=true)→(∀ z ∈ x,AsB z=true)→totL u ≤ totL ws→totL v ≤ totL ws + y.length + 1→totL x ≤ totL ws→Pq (.im (.list (u.map .str ++ v.map .str ++ x.map .str))) O:=fun u v x hu hv hx tu tv tx=>by
  rw [← List.map_append,← List.map_append]; exact h _ (aa (aa hu hv) hx) (by rw [tot_app,tot_app]; omega)
 refine ⟨dI,fun _=>?_,fun _=>⟨dI,fun _=>?_,fun _=>⟨dI,fun _=>?_,fun _=>⟨dI,fun _=>?_,fun _=>?_⟩⟩⟩⟩
 ·have l1:=n1 none (some r1)
  have l2:=n1 (some (r1 + 1)) none
  show addF O (.im (.list (cutD (ws.map .str) none (some r1)))) (.im (.list (cutD (ws.map .str) (some (r1 + 1)) none))) Pq
  rw [jg5,jg5]
  exact ⟨by rw [List.length_map,List.length_map,sz]; omega,h2 _ _ (a1 _ _) (a1 _ _) (c1 _ _) (c1 _ _)⟩
 ·have l1:=n1 none (some (r1 + 1))
  have l2:=n1 (some r1) none
  show addF O (.im (.list (cutD (ws.map .str) none (some (r1 + 1))))) (.im (.list (cutD (ws.map .str) (some r1) none))) Pq
  rw [jg5,jg5]
  exact ⟨by rw [List.length_map,List.length_map,sz]; omega,h2 _ _ (a1 _ _) (a1 _ _) (c1 _ _) (c1 _ _)⟩
 ·have l1:=n1 none (some r1)
  have l2:=n1 (some r1) none
  show addF O (.im (.list (cutD (ws.map .str) none (some r1)))) (.im (.list [.str y])) fun z O1=>addF O1 z (.im (.list (cutD (ws.map .str) (some r1) none))) Pq
  rw [jg5,jg5]
  exact ⟨by rw [List.length_map,sz]; show _ + 1 ≤ _; omega,by rw [List.length_append,List.length_map,List.length_map,sz]; show _ + 1 + _ ≤ _; omega,h3 _ [y] _ (a1 _ _) ay (a1 _ _) (c1 _ _) (by rw [ty]; omega) (c1 _ _)⟩
 ·have l1:=n1 none (some r1)
  have l2:=n1 (some r1) (some (r1 + 2))
  have l3:=n1 (some (r1 + 2)) none
  show addF O (.im (.list (cutD (ws.map .str) none (some r1)))) (.im (.list (pickX (revX (cutD (ws.map .str) (some r1) (some (r1 + 2))).length) (cutD (ws.map .str) (some r1) (some (r1 + 2)))))) fun z O1=>addF O1 z (.im (.list (cutD (ws.map .str) (some (r1 + 2)) none))) Pq
  rw [jg5,jg5,jg5,List.length_map,pick_map,pick_rev]
  refine ⟨by rw [List.length_map,List.length_map,List.length_reverse,sz]; omega,by rw [List.length_append,List.length_map,List.length_map,List.length_map,List.length_reverse,sz]; omega,h3 _ _ _ (a1 _ _) (fun z hz=>a1 _ _ z (List.mem_reverse.mp hz)) (a1 _ _) (c1 _ _) (by rw [tot_rev]; have:=c1 (some r1) (some (r1 + 2)); omega) (c1 _ _)⟩
 ·have l1:=n1 none (some r1)
  have l2:=n1 (some (r1 + 1)) none
  refine ⟨?_⟩
  show addF O (.im (.list (cutD (ws.map .str) none (some r1)))) (.im (.list [.str y])) fun z O1=>addF O1 z (.im (.list (cutD (ws.map .str) (some (r1 + 1)) none))) Pq
  rw [jg5,jg5]
  exact ⟨by rw [List.length_map,sz]; show _ + 1 ≤ _; omega,by rw [List.length_append,List.length_map,List.length_map,sz]; show _ + 1 + _ ≤ _; omega,h3 _ [y] _ (a1 _ _) ay (a1 _ _) (c1 _ _) (by rw [ty]; omega) (c1 _ _)⟩
def fNum:FM:=fun O xs P _=>∃ x:Str,xs=[.im (.str x)]∧AsB x=true∧x.length ≤ 400000∧P (.im (nuD x)) O
abbrev NNu:List Str:=["word"]
def mNu:MS:=(mSeq (mIfS (mOrT (mTst (mOp (eqF false) (mVar 0) (mC (.str "")))) (mOrT (mTst (mOp gtF (mCB lnsF (mCons (mVar 0) mNil)) (mC (.int 9)))) (mTst (mOp (eqF true) (mComp 1 [] (miStr (mVar 0)) (mgN 0) (mTst (mOp ninsF (mVar 0) (mC (.str "0123456789")))) (mVar 0)) (mLst mNil))))) (mRet (mC .none)) mNext)
 (mSeq (mIfS (mAndT (mTst (mOp (eqF false) (mOp ixsF (mVar 0) (mC (.int 0))) (mC (.str "0")))) (mTst (mOp (eqF true) (mVar 0) (mC (.str "0"))))) (mRet (mC .none)) mNext)
 (mRet (mCB itxF (mCons (mVar 0) mNil)))))
theorem rd_num:∀ O xs Pq QX,fNum O xs Pq QX→mNu { nx:=fun _ O'=>Pq (.im .none) O',rt:=Pq } (startS NNu xs) O:=by
 intro O xs Pq QX h
 obtain ⟨x,rfl,hx,lx,h⟩:=h
 have hsz:x.length ≤ sizeLine:=by rw [sz]; omega
 have bads:shortB x=false→Pq (.im .none) O:=fun z=>by unfold nuD at h; rw [z] at h; exact h
 have bad:fig x=false→Pq (.im .none) O:=fun z=>bads (by unfold shortB; rw [z]; rfl)
 refine ⟨by show min 0 0 ≤ 60; decide,fun z=>⟨fun _=>bad ?_,fun z=>by cases z⟩,fun z=>⟨hsz,fun z9=>⟨fun _=>bads ?_,fun z=>by cases z⟩,fun z9=>⟨hx,?_⟩⟩⟩
 ·have z1:eqq (.str x) (.str (Str.ofString ""))=true:=z
  rw [eqq_s] at z1
  have:=str_eq.mp z1
  rw [nil_l] at this
  unfold fig; rw [this]; rfl
 ·have z1:=of_decide_eq_true z9
  unfold shortB
  rw [decide_eq_false (by omega),Bool.and_false]
 have l9:x.length ≤ 9:=by have:=of_decide_eq_false z9; omega
 have z1:eqq (.str x) (.str (Str.ofString ""))=false:=z
 have hne:x.cps.toList ≠ []:=fun e=>by rw [eqq_s,str_eq.mpr (by rw [e,nil_l])] at z1; cases z1
 refine comp_filt (fun i=>!(decide (48 ≤ x.cps.toList.getD i 0) && decide (x.cps.toList.getD i 0 ≤ 57))) (fun i=>.str ⟨#[x.cps.toList.getD i 0]⟩) (by rw [List.length_map,jh2]; omega) (fun i v Z hv hZ=>?_) (fun i v Z hv _ hZ=>?_) ?_
 ·obtain ⟨hi,rfl⟩:=sg_at hv
  have e:=in_digs ⟨x.cps.toList.getD i 0,sg_lt hx hi⟩
  unfold digs at e
  rw [← e] at hZ; exact hZ
 ·obtain ⟨hi,rfl⟩:=sg_at hv
  exact hZ
 have hlen:(x.cps.toList.map fun c=>AV.im (.str ⟨#[c]⟩)).length=x.cps.toList.length:=List.length_map _
 rw [hlen]
 have hgood:allD x.cps.toList=true→((List.range x.cps.toList.length).filter fun i=>!(decide (48 ≤ x.cps.toList.getD i 0) && decide (x.cps.toList.getD i 0 ≤ 57)))=[]:=fun hd=>by
  rw [List.filter_eq_nil_iff]
  intro i hi
  have hi:=List.mem_range.mp hi
  have:=allD_iff.mp hd (x.cps.toList.getD i 0) (sg_mem hi)
  rw [decide_eq_true this.1,decide_eq_true this.2]; decide
 have hbadD:allD x.cps.toList=false→((List.range x.cps.toList.length).filter fun i=>!(decide (48 ≤ x.cps.toList.getD i 0) && decide (x.cps.toList.getD i 0 ≤ 57))) ≠ []:=fun hd e=>by
  rw [List.filter_eq_nil_iff] at e
  have:allD x.cps.toList=true:=by
   unfold allD
   rw [List.all_eq_true]
   intro c hc
   obtain ⟨i,hi,rfl⟩:=List.getElem_of_mem hc
   have:=e i (List.mem_range.mpr hi)
   rw [jc8 (List.getElem?_eq_getElem hi)] at this
   simpa using this
  rw [this] at hd; cases hd
 generalize ((List.range x.cps.toList.length).filter fun i=>!(decide (48 ≤ x.cps.toList.getD i 0) && decide (x.cps.toList.getD i 0 ≤ 57)))=L at hgood hbadD
 refine ⟨by show 0 ≤ sizeLine; decide,by show min _ 1 ≤ 60; omega,fun z=>bad ?_,fun z=>⟨?_⟩⟩
 ·have z1:(!eqq (.list (L.map fun i=>.str ⟨#[x.cps.toList.getD i 0]⟩)) (.list []))=true:=z
  cases hd:allD x.cps.toList with
  | false=>unfold fig figL; rw [hd]; simp
  | true=>rw [hgood hd,eqq_eq] at z1; simp [PyData.eqv,PyData.eqvAll] at z1
 have hd:allD x.cps.toList=true:=by
  have z1:(!eqq (.list (L.map fun i=>.str ⟨#[x.cps.toList.getD i 0]⟩)) (.list []))=false:=z
  cases hd:allD x.cps.toList with
  | true=>rfl
  | false =>
   cases L with
   | nil=>exact absurd rfl (hbadD hd)
   | cons a l=>rw [eqq_eq] at z1; simp [PyData.eqv,PyData.eqvAll] at z1
 have hgo:fig x=true→Go (mRet (mCB itxF (mCons (mVar 0) mNil))) { nx:=fun _ O'=>Pq (.im .none) O',rt:=Pq } (startS NNu [.im (.str x)]) O:=fun hf=>by
  have:nuD x=.int (dv x):=if_pos (by unfold shortB; rw [hf,decide_eq_true l9]; rfl)
  rw [this] at h
  exact ⟨_,int_fig hd hne (by omega),by omega,h⟩
 cases hxl:x.cps.toList with
 | nil=>exact absurd hxl hne
 | cons c r =>
  have hfig:fig x=((c :: r).head? != some 48 || (c :: r) == [48]):=by unfold fig figL; rw [hd,hxl]; rfl
  have h48:((⟨#[c]⟩:Str) == Str.ofString "0")=decide (c=48):=by
   by_cases hc:c=48
   ·rw [decide_eq_true hc]; exact str_eq.mpr (by rw [zero_l,hc])
   ·rw [decide_eq_false hc]; exact str_eqF (by rw [zero_l]; simpa using hc)
  refine ⟨hx,hsz,c,by rw [hxl]; exact jg6 (j:=0) rfl,by show min 0 0 ≤ 60; decide,fun z=>⟨by show min 0 0 ≤ 60; decide,fun z2=>bad ?_,fun z2=>hgo ?_⟩,fun z=>⟨fun z=>(by cases z),fun _=>hgo ?_⟩⟩
  ·have z1:eqq (.str ⟨#[c]⟩) (.str (Str.ofString "0"))=true:=z
   rw [eqq_s,h48] at z1
   have z3:(!eqq (.str x) (.str (Str.ofString "0")))=true:=z2
   rw [eqq_s] at z3
   rw [hfig]
   have hc:=of_decide_eq_true z1
   subst hc
   cases r with
   | nil=>rw [str_eq.mpr (by rw [hxl,zero_l])] at z3; cases z3
   | cons d r=>simp
  ·have z3:(!eqq (.str x) (.str (Str.ofString "0")))=false:=z2
   rw [eqq_s] at z3
   have z4:=str_eq.mp (by simpa using z3)
   rw [hxl,zero_l] at z4
   rw [hfig,z4]; rfl
  ·have z1:eqq (.str ⟨#[c]⟩) (.str (Str.ofString "0"))=false:=z
   rw [eqq_s,h48] at z1
   have hc:=of_decide_eq_false z1
   rw [hfig]; simp [hc]
def fFof:FM:=fun O xs P _=>∃ x:Str,xs=[.im (.str x)]∧AsB x=true∧x.length ≤ 400000∧P (.im (foD x)) O
abbrev NFo:List Str:=["word","parts"]
def mFo:MS:=(mSeq (mAsg (mComp 1 [] (miSeq (mSpl (mVar 0) (mCons (mC (.str "/")) mNil))) (mgN 0) mYes (mCall fNum noX (mCons (mVar 0) mNil))) (mgN 1))
 (mSeq (mIfS (mOrT (mTst (mOp gtF (mCB lenF (mCons (mVar 1) mNil)) (mC (.int 2)))) (mTst (mOp nInF (mC .none) (mVar 1)))) (mRet (mC .none)) mNext)
 (mSeq (mIfS (mTst (mOp (eqF false) (mCB lenF (mCons (mVar 1) mNil)) (mC (.int 1)))) (mRet (mTup (mCons (mOp ixF (mVar 1) (mC (.int 0))) (mCons (mC (.int 1)) mNil)))) mNext)
 (mSeq (mIfS (mOrT (mTst (mOp ltF (mOp ixF (mVar 1) (mC (.int 1))) (mC (.int 2)))) (mTst (mOp (eqF true) (mCall fLf noX (mCons (mOp ixF (mVar 1) (mC (.int 0))) (mCons (mOp ixF (mVar 1) (mC (.int 1))) mNil))) (mTup (mCons (mOp ixF (mVar 1) (mC (.int 0))) (mCons (mOp ixF (mVar 1) (mC (.int 1))) mNil)))))) (mRet (mC .none)) mNext)
 (mRet (mTup (mCons (mOp ixF (mVar 1) (mC (.int 0))) (mCons (mOp ixF (mVar 1) (mC (.int 1))) mNil))))))))
theorem nu_nin (ps:List Str):(ps.map nuD).all ninL=true:=by
 rw [List.all_eq_true]
 intro d hd
 obtain ⟨p,_,rfl⟩:=List.mem_map.mp hd
 unfold nuD
 split <;> rfl
theorem nu_any (ps:List Str):(ps.map nuD).any jg3=!ps.all shortB:=by
 induction ps with
 | nil=>rfl
 | cons p ps ih =>
  rw [List.map_cons,List.any_cons,List.all_cons,ih]
  cases hf:shortB p with
  | true =>
   have:nuD p=.int (dv p):=if_pos hf
   rw [this]; rfl
  | false =>
   have:nuD p=.none:=if_neg (by rw [hf]; decide)
   rw [this]; rfl
theorem short_fig {p:Str} (h:shortB p=true):fig p=true∧p.length ≤ 9:=by
 unfold shortB at h
 rw [Bool.and_eq_true] at h
 exact ⟨h.1,of_decide_eq_true h.2⟩
theorem rdF_all {x:Str} (h:(Txt.split x slash).all fig=true):rdF x=(match Txt.split x slash with
   | [p]=>some (dv p,1)
   | [p,q]=>if 2 ≤ dv q∧Int.gcd (dv p) (dv q)=1 then some (dv p,dv q) else none
   | _=>none):=by
 unfold rdF
 refine (if_pos h).trans ?_
 generalize Txt.split x slash=ps
 rcases ps with _ | ⟨p,_ | ⟨q,_ | ⟨r,l⟩⟩⟩ <;> rfl
theorem rd_fof:∀ O xs Pq QX,fFof O xs Pq QX→mFo { nx:=fun _ O'=>Pq (.im .none) O',rt:=Pq } (startS NFo xs) O:=by
 intro O xs Pq QX h
 obtain ⟨x,rfl,hx,lx,h⟩:=h
 unfold mFo
 rw [sl_eq]
 have hn:=PyProof.Rows.split_pos x slash
 have hle:=PyProof.Rows.split_le x slash
 have hsp:∀ p ∈ Txt.split x slash,AsB p=true∧p.length ≤ 400000:=fun p hp=>⟨jf4 hx hp,Nat.le_trans (PyProof.Rows.part_short hp) lx⟩
 have hnone:(Txt.split x slash).all shortB=false→Pq (.im .none) O:=fun z=>by unfold foD at h; rw [z] at h; exact h
 have hsome:(Txt.split x slash).all shortB=true→Pq (.im (duD (rdF x))) O:=fun z=>by unfold foD at h; rw [z] at h; exact h
 have hrf:(Txt.split x slash).all shortB=true→rdF x=_:=fun z=>rdF_all (List.all_eq_true.mpr fun p hp=>(short_fig (List.all_eq_true.mp z p hp)).1)
 refine ⟨hx,rfl,by rw [sz]; omega,?_⟩
 generalize Txt.split x slash=ps at *
 refine jf2 (fun i=>nuD (ps.getD i Str.empty)) (by rw [List.length_map,List.length_map]; omega) (fun i v Z hv hZ=>?_) ?_
 ·obtain ⟨hi,hm,rfl⟩:=str_at hv
  exact ⟨_,rfl,(hsp _ hm).1,(hsp _ hm).2,hZ⟩
 have hl:((ps.map PyData.str).map AV.im).length=ps.length:=by simp
 rw [hl,map_ps ps nuD]
 have hany:=nu_any ps
 match ps,hn with
 | [p],_ =>
  refine ⟨⟨fun z=>(by cases z),fun _=>⟨nu_nin _,fun z=>hnone ?_,fun z=>⟨⟨by show min 0 0 ≤ 60; decide,fun _=>⟨_,rfl,by show 2 ≤ sizeLine; decide,?_⟩,fun z=>(by cases z)⟩⟩⟩⟩⟩
  ·rw [hany] at z; exact (Bool.not_eq_true' _).mp z
  ·rw [hany] at z
   have hf:[p].all shortB=true:=by simpa using z
   have hp:shortB p=true:=by simpa using hf
   have h':=hsome hf
   rw [hrf hf] at h'
   have:nuD p=.int (dv p):=if_pos hp
   rw [this]; exact h'
 | [p,q],_ =>
  refine ⟨⟨fun z=>(by cases z),fun _=>⟨nu_nin _,fun z=>hnone ?_,fun z=>⟨⟨by show min 0 0 ≤ 60; decide,fun z=>(by cases z),fun _=>⟨?_⟩⟩⟩⟩⟩⟩
  ·rw [hany] at z; exact (Bool.not_eq_true' _).mp z
  ·rw [hany] at z
   have hf:[p,q].all shortB=true:=by simpa using z
   have hpq:shortB p=true∧shortB q=true:=by simpa using hf
   have h:=hsome hf
   rw [hrf hf] at h
   replace h:Pq (.im (duD (if 2 ≤ dv q∧Int.gcd (dv p) (dv q)=1 then some (dv p,dv q) else none))) O:=h
   have e1:nuD p=.int (dv p):=if_pos hpq.1
   have e2:nuD q=.int (dv q):=if_pos hpq.2
   have hb:=bd_dv (short_fig hpq.2).1 (by have:=(short_fig hpq.2).2; omega)
   show mIfS _ _ _ _ [some (.im (.str x)),some (.im (.list [nuD p,nuD q]))] O
   rw [e1,e2]
   refine ⟨_,rfl,fun z=>⟨fun _=>?_,fun z=>by cases z⟩,fun z=>?_⟩
   ·have z1:=of_decide_eq_true z
    rw [if_neg (by omega)] at h; exact h
   have z1:=of_decide_eq_false z
   refine ⟨_,rfl,_,rfl,⟨by omega,hb.mono (by decide)⟩,_,rfl,_,rfl,by show 2 ≤ sizeLine; decide,by simp [qD,PyData.depth,PyData.depthAll],fun z2=>?_,fun z2=>⟨_,rfl,_,rfl,by show 2 ≤ sizeLine; decide,?_⟩⟩
   ·have z3:(!eqq (qD (Rat.divInt (dv p) (dv q))) (.tuple [.int (dv p),.int (dv q)]))=true:=z2
    rw [eqq_eq,divInt_eq (by omega)] at z3
    rw [if_neg (fun hh=>by rw [decide_eq_true hh.2] at z3; cases z3)] at h; exact h
   ·have z3:(!eqq (qD (Rat.divInt (dv p) (dv q))) (.tuple [.int (dv p),.int (dv q)]))=false:=z2
    rw [eqq_eq,divInt_eq (by omega)] at z3
    rw [if_pos ⟨by omega,by simpa using z3⟩] at h; exact h
 | p :: q :: r :: l,_ =>
  refine ⟨⟨fun z=>⟨fun _=>?_,fun z=>by cases z⟩,fun z=>?_⟩⟩
  ·cases hf:(p :: q :: r :: l).all shortB with
   | false=>exact hnone hf
   | true =>
    have h':=hsome hf
    rw [hrf hf] at h'; exact h'
  ·have z1:=of_decide_eq_false z
   simp at z1
   omega
def fDuM:FM:=fun O xs P _=>∃ x:Str,xs=[.im (.str x)]∧AsB x=true∧x.length ≤ 400000∧P (.im (optD (rmF x))) O
abbrev NDm:List Str:=["text","lines","amounts","purses","wishes","market"]
def mDm:MS:=(mSeq (mAsg (mComp 1 [] (miSeq (mSpl (mVar 0) (mCons (mC (.str "\n")) mNil))) (mgN 0) mYes (mSpl (mVar 0) (mCons (mC (.str " ")) mNil))) (mgN 1))
 (mSeq (mIfS (mOrT (mTst (mOp (eqF true) (mOp ixF (mOp ixF (mVar 1) (mC (.int 0))) (mC (.int 0))) (mC (.str "amounts")))) (mTst (mOp (eqF true) (mComp 1 [] (miSeq (mSl (mVar 1) (mSoP (mC (.int 1))) mNoP)) (mgN 0) (mOrT (mTst (mOp (eqF true) (mOp ixF (mVar 0) (mC (.int 0))) (mC (.str "buyer")))) (mTst (mOp ltF (mCB lenF (mCons (mVar 0) mNil)) (mC (.int 2))))) (mVar 0)) (mLst mNil)))) (mRet (mC .none)) mNext)
 (mSeq (mAsg (mCB tupF (mCons (mComp 1 [] (miSeq (mSl (mOp ixF (mVar 1) (mC (.int 0))) (mSoP (mC (.int 1))) mNoP)) (mgN 0) mYes (mCall fNum noX (mCons (mVar 0) mNil))) mNil)) (mgN 2))
 (mSeq (mAsg (mCB tupF (mCons (mComp 1 [] (miSeq (mSl (mVar 1) (mSoP (mC (.int 1))) mNoP)) (mgN 0) mYes (mCall fFof noX (mCons (mOp ixF (mVar 0) (mC (.int 1))) mNil))) mNil)) (mgN 3))
 (mSeq (mAsg (mCB tupF (mCons (mComp 1 [] (miSeq (mSl (mVar 1) (mSoP (mC (.int 1))) mNoP)) (mgN 0) mYes (mCB tupF (mCons (mComp 1 [] (miSeq (mSl (mVar 0) (mSoP (mC (.int 2))) mNoP)) (mgN 0) mYes (mCall fNum noX (mCons (mVar 0) mNil))) mNil))) mNil)) (mgN 4))
 (mSeq (mAsg (mTup (mCons (mVar 2) (mCons (mVar 3) (mCons (mVar 4) mNil)))) (mgN 5))
 (mSeq (mIfS (mOrT (mTst (mOp nInT (mC .none) (mVar 3))) (mNot (mTst (mCall (fT isMk) noX (mCons (mVar 5) mNil))))) (mRet (mC .none)) mNext)
 (mRet (mVar 5)))))))))
theorem cut_tail {d:PyData} {ds:List PyData}:cutD (d :: ds) (some (1:Int)) none=ds:=by
 rw [cutD_from (by decide) (by rw [List.length_cons]; omega)]; rfl
theorem foD_nin (os:List (List Str)):(os.map fun w=>foD (wAt w 1)).all ninT=true:=by
 rw [List.all_eq_true]
 intro d hd
 obtain ⟨w,_,rfl⟩:=List.mem_map.mp hd
 unfold foD
 split
 ·cases rdF (wAt w 1) <;> rfl
 ·rfl
theorem rd_dum:∀ O xs Pq QX,fDuM O xs Pq QX→mDm { nx:=fun _ O'=>Pq (.im .none) O',rt:=Pq } (startS NDm xs) O:=by
 intro O xs Pq QX h
 obtain ⟨x,rfl,ha,hl,h⟩:=h
 unfold mDm
 rw [nl_eq,sp_eq]
 obtain ⟨f,os,L⟩:=ln_ex ha hl
 have hrm:rmF x=rmL f os:=by unfold rmF; rw [L.e]
 rw [hrm,← duM_eq] at h
 have hle:=PyProof.Rows.split_le x (one 10)
 refine ⟨ha,rfl,by rw [sz]; omega,?_⟩
 refine jf2 (fun i=>wsD (Txt.split ((Txt.split x (one 10)).getD i Str.empty) (one 32))) (by rw [List.length_map,List.length_map]; omega) (fun i v Z hv hZ=>?_) ?_
 ·obtain ⟨hi,hm,rfl⟩:=str_at hv
  exact ⟨jf4 ha hm,rfl,by have:=PyProof.Rows.part_short hm; rw [sz]; omega,hZ⟩
 have hln:(((Txt.split x (one 10)).map PyData.str).map AV.im).length=(Txt.split x (one 10)).length:=by simp
 have e0:(Txt.split x (one 10)).map (fun l=>wsD (Txt.split l (one 32)))=wsD f :: os.map wsD:=by
  have:(lnsOf x).map wsD=wsD f :: os.map wsD:=by rw [L.e]; rfl
  rw [← this]; unfold lnsOf; rw [List.map_map]; rfl
 rw [hln,map_ps (Txt.split x (one 10)) fun l=>wsD (Txt.split l (one 32)),e0]
 refine ⟨?_⟩
 show mSeq _ _ _ [some (.im (.str x)),some (.im (.list (wsD f :: os.map wsD))),none,none,none,none] O
 have hf0:=w_at (w:=f) (k:=0) (by have:=L.fl; omega)
 have bad:hdOk f os=false→Pq (.im .none) O:=fun z=>by unfold duM at h; rw [z] at h; exact h
 have hat0:atI (wsD f :: os.map wsD) 0=some (wsD f):=jg6 (j:=0) rfl
 refine ⟨wsD f,hat0,.str (wAt f 0),hf0.1,by show min 0 0 ≤ 60; decide,fun z=>⟨fun _=>bad ?_,fun z=>by cases z⟩,fun z=>?_⟩
 ·have z1:(!eqq (.str (wAt f 0)) (.str amoS))=true:=z
  rw [eqq_s] at z1
  unfold hdOk
  cases hq:(wAt f 0 == amoS) with
  | true=>rw [hq] at z1; cases z1
  | false=>rfl
 have hamo:(wAt f 0 == amoS)=true:=by
  have z1:(!eqq (.str (wAt f 0)) (.str amoS))=false:=z
  rw [eqq_s] at z1
  simpa using z1
 have hh:hdOk f os=os.all bOk:=by unfold hdOk bOk; rw [hamo]; rfl
 have hlo:((os.map wsD).map AV.im).length=os.length:=by simp
 have oc:=L.on
 conv=>whnf
 rw [cut_tail]
 refine comp_filt (fun i=>!bOk (os.getD i [])) (fun i=>wsD (os.getD i [])) (by rw [hlo]; omega) (fun i v Z hv hZ=>?_) (fun i v Z hv _ hZ=>?_) ?_
 ·obtain ⟨hi,hm,rfl⟩:=ws_at hv
  have ho:=(L.ol _ hm).1
  have h0:=w_at (w:=os.getD i []) (k:=0) (by omega)
  generalize os.getD i []=w at *
  refine ⟨.str (wAt w 0),h0.1,by show min 0 0 ≤ 60; decide,fun z=>?_,fun z=>?_⟩
  ·have z1:(!eqq (.str (wAt w 0)) (.str buyS))=true:=z
   rw [eqq_s] at z1
   have e:(!bOk w)=true:=by
    unfold bOk
    cases hq:(wAt w 0 == buyS) with
    | true=>rw [hq] at z1; cases z1
    | false=>rw [Bool.and_false]; rfl
   rw [e] at hZ; exact hZ
  ·have z1:(!eqq (.str (wAt w 0)) (.str buyS))=false:=z
   rw [eqq_s] at z1
   have e:(!bOk w)=decide (((w.map PyData.str).length:Int) < 2):=by
    unfold bOk
    have:(wAt w 0 == buyS)=true:=by simpa using z1
    rw [this,Bool.and_true,List.length_map]
    by_cases hw:1 < w.length
    ·rw [decide_eq_true hw,decide_eq_false (by omega)]; rfl
    ·rw [decide_eq_false hw,decide_eq_true (by omega)]; rfl
   rw [e] at hZ; exact hZ
 ·obtain ⟨hi,hm,rfl⟩:=ws_at hv
  exact hZ
 rw [hlo]
 have hgood:os.all bOk=true→((List.range os.length).filter fun i=>!bOk (os.getD i []))=[]:=fun hd=>by
  rw [List.filter_eq_nil_iff]
  intro i hi
  have hi:=List.mem_range.mp hi
  have:=List.all_eq_true.mp hd (os.getD i []) (by rw [jc8 (List.getElem?_eq_getElem hi)]; exact List.getElem_mem _)
  rw [this]; decide
 have hbadD:os.all bOk=false→((List.range os.length).filter fun i=>!bOk (os.getD i [])) ≠ []:=fun hd e=>by
  rw [List.filter_eq_nil_iff] at e
  have:os.all bOk=true:=by
   rw [List.all_eq_true]
   intro o ho
   obtain ⟨i,hi,rfl⟩:=List.getElem_of_mem ho
   have:=e i (List.mem_range.mpr hi)
   rw [jc8 (List.getElem?_eq_getElem hi)] at this
   simpa using this
  rw [this] at hd; cases hd
 generalize ((List.range os.length).filter fun i=>!bOk (os.getD i []))=Li at hgood hbadD
 refine ⟨by show 0 ≤ sizeLine; decide,by show min _ 1 ≤ 60; omega,fun z=>bad ?_,fun z=>⟨?_⟩⟩
 ·have z1:(!eqq (.list (Li.map fun i=>wsD (os.getD i []))) (.list []))=true:=z
  rw [hh]
  cases hd:os.all bOk with
  | false=>rfl
  | true=>rw [hgood hd,eqq_eq] at z1; simp [PyData.eqv,PyData.eqvAll] at z1
 have hda:os.all bOk=true:=by
  have z1:(!eqq (.list (Li.map fun i=>wsD (os.getD i []))) (.list []))=false:=z
  cases hd:os.all bOk with
  | true=>rfl
  | false =>
   cases Li with
   | nil=>exact absurd rfl (hbadD hd)
   | cons a l=>rw [eqq_eq] at z1; simp [PyData.eqv,PyData.eqvAll] at z1
 have hd:hdOk f os=true:=hh.trans hda
 have hob:∀ o ∈ os,1 < o.length:=fun o ho=>by
  have:=List.all_eq_true.mp hda o ho
  unfold bOk at this
  rw [Bool.and_eq_true] at this
  exact of_decide_eq_true this.1
 have hc1:cutD (f.map PyData.str) (some 1) none=(f.drop 1).map .str:=cut_ws (w:=f) (k:=1) L.fl
 have fn:=L.fn
 refine ⟨wsD f,hat0,?_⟩
 show CB 1 [] (mgN 0) mYes (mCall fNum noX (mCons (mVar 0) mNil)) _ _ ((cutD (f.map PyData.str) (some 1) none).map AV.im) O
 rw [hc1]
 refine jf2 (fun i=>nuD ((f.drop 1).getD i Str.empty)) (by rw [List.length_map,List.length_map,List.length_drop]; omega) (fun i v Z hv hZ=>?_) ?_
 ·obtain ⟨hi,hm,rfl⟩:=str_at hv
  have hw:=L.fw _ (List.mem_of_mem_drop hm)
  exact ⟨_,rfl,hw.1,hw.2,hZ⟩
 have hl1:(((f.drop 1).map PyData.str).map AV.im).length=(f.drop 1).length:=by simp
 rw [hl1,map_ps (f.drop 1) nuD]
 refine ⟨?_⟩
 show mSeq _ _ _ [some (.im (.str x)),some (.im (.list (wsD f :: os.map wsD))),some (.im (.tuple ((f.drop 1).map nuD))),none,none,none] O
 show CB 1 [] (mgN 0) mYes (mCall fFof noX (mCons (mOp ixF (mVar 0) (mC (.int 1))) mNil)) _ _ ((cutD (wsD f :: os.map wsD) (some 1) none).map AV.im) O
 rw [cut_tail]
 refine jf2 (fun i=>foD (wAt (os.getD i []) 1)) (by rw [hlo]; omega) (fun i v Z hv hZ=>?_) ?_
 ·obtain ⟨hi,hm,rfl⟩:=ws_at hv
  have h1':=w_at (w:=os.getD i []) (k:=1) (hob _ hm)
  have hw:=(L.ol _ hm).2.2 _ h1'.2
  exact ⟨_,h1'.1,_,rfl,hw.1,hw.2,hZ⟩
 rw [hlo,jd6 (fun w=>foD (wAt w 1)) os []]
 refine ⟨?_⟩
 show CB 1 [] (mgN 0) mYes _ _ _ ((cutD (wsD f :: os.map wsD) (some 1) none).map AV.im) O
 rw [cut_tail]
 refine jf2 (fun i=>.tuple (((os.getD i []).drop 2).map nuD)) (by rw [hlo]; omega) (fun i v Z hv hZ=>?_) ?_
 ·obtain ⟨hi,hm,rfl⟩:=ws_at hv
  have ow:=L.ol _ hm
  have hc2:cutD ((os.getD i []).map PyData.str) (some 2) none=((os.getD i []).drop 2).map .str:=cut_ws (w:=os.getD i []) (k:=2) (hob _ hm)
  show CB 1 [] (mgN 0) mYes (mCall fNum noX (mCons (mVar 0) mNil)) _ _ ((cutD ((os.getD i []).map PyData.str) (some 2) none).map AV.im) O
  rw [hc2]
  refine jf2 (fun j=>nuD (((os.getD i []).drop 2).getD j Str.empty)) (by rw [List.length_map,List.length_map,List.length_drop]; omega) (fun j v Z2 hv hZ2=>?_) ?_
  ·obtain ⟨hj,hm2,rfl⟩:=str_at hv
   have hw:=ow.2.2 _ (List.mem_of_mem_drop hm2)
   exact ⟨_,rfl,hw.1,hw.2,hZ2⟩
  have hl2:((((os.getD i []).drop 2).map PyData.str).map AV.im).length=((os.getD i []).drop 2).length:=by simp
  rw [hl2,map_ps ((os.getD i []).drop 2) nuD]
  exact hZ
 rw [hlo,jd6 (fun w:List Str=>PyData.tuple ((w.drop 2).map nuD)) os []]
 refine ⟨⟨len3,⟨?_⟩⟩⟩
 show mIfS _ _ _ _ [some (.im (.str x)),some (.im (.list (wsD f :: os.map wsD))),some (.im (.tuple ((f.drop 1).map nuD))),some (.im (.tuple (os.map fun w=>foD (wAt w 1)))),some (.im (.tuple (os.map fun w=>.tuple ((w.drop 2).map nuD)))),some (.im (mOfL f os))] O
 have hdu:duM f os=if ((os.map fun w=>foD (wAt w 1)).any jg3 || !isMk (mOfL f os))=true then .none else mOfL f os:=by unfold duM; rw [hd]; rfl
 rw [hdu] at h
 refine ⟨foD_nin os,fun z=>⟨fun _=>?_,fun z=>by cases z⟩,fun z=>⟨fun z2=>?_,fun z2=>⟨?_⟩⟩⟩
 ·rw [if_pos (by rw [z]; rfl)] at h; exact h
 ·have z3:(!isMk (mOfL f os))=true:=z2
  rw [if_pos (by rw [z,z3]; rfl)] at h; exact h
 ·have z3:(!isMk (mOfL f os))=false:=z2
  rw [if_neg (by rw [z,z3]; decide)] at h; exact h
def kdM:Option PyData→Str
 | some _=>""
 | none=>"NoText+"
def fRdM:FM:=fun O xs P _=>∃ d,xs=[.im d]∧rdPW d∧P (.im (.list [.str (kdM (rmD d)),optD (rmD d)])) O
abbrev NRdM:List Str:=["text","kind","told","e"]
def mRdM (Tx:Addr) (nm:Addr→Str→Prop):MS:=(mSeq (mAsg (mC (.str "")) (mgN 1))
 (mSeq (mAsg (mC .none) (mgN 2))
 (mSeq (mTryC (fRm Tx) 2 3 1 nm (mCons (mVar 0) mNil))
 (mRet (mLst (mCons (mVar 1) (mCons (mVar 2) mNil)))))))
theorem rd_rdm (Tx:Addr) (nm:Addr→Str→Prop) (hnm:nm Tx "NoText+"):∀ O xs Pq QX,fRdM O xs Pq QX→mRdM Tx nm { nx:=fun _ O'=>Pq (.im .none) O',rt:=Pq } (startS NRdM xs) O:=by
 intro O xs Pq QX h
 obtain ⟨d,rfl,hp,h⟩:=h
 refine ⟨⟨⟨d,rfl,hp,fun r hr=>⟨len2,?_⟩,fun hr=>⟨"NoText+",hnm,⟨len2,?_⟩⟩⟩⟩⟩
 ·rw [hr] at h; exact h
 ·rw [hr] at h; exact h
def fSpM:FM:=fun O xs P _=>∃ (j:Nat) (x:Str),xs=[.bag j,.im (.str x)]∧AsB x=true∧x.length ≤ 60000∧∀ z:Str,AsB z=true→z.length ≤ 4 * x.length + 15→P (.im (.str z)) O
abbrev NSm:List Str:=["bag","text","signs","way","words","some","lines"]
def mSm:MS:=(mSeq (mAsg (mC (.str " !\"#$&'()*+,-./0123456789:;<=>?@ABCDEFGHIJKLMNOPQRSTUVWXYZ[\\]^_`")) (mgN 2))
 (mSeq (mAsg (mOp catF (mVar 2) (mC (.str "abcdefghijklmnopqrstuvwxyz{|}~\n"))) (mgN 2))
 (mSeq (mAsg (mCall fTake noX (mCons (mVar 0) (mCons (mC (.int 3)) mNil))) (mgN 3))
 (mSeq (mIfS (mTst (mOp (eqF false) (mVar 3) (mC (.int 0)))) (mRet (mCall fMovT noX (mCons (mVar 0) (mCons (mVar 1) (mCons (mOp ixF (mLst (mCons (mOp ixsF (mVar 2) (mCall fTake noX (mCons (mVar 0) (mCons (mCB lnsF (mCons (mVar 2) mNil)) mNil)))) (mCons (mC (.str " ")) (mCons (mC (.str "\n")) (mCons (mC (.str "0")) mNil))))) (mCall fTake noX (mCons (mVar 0) (mCons (mC (.int 4)) mNil)))) mNil))))) mNext)
 (mSeq (mIfS (mTst (mOp (eqF false) (mVar 3) (mC (.int 1)))) (mSeq (mAsg (mSpl (mVar 1) (mCons (mC (.str " ")) mNil)) (mgN 4))
 (mSeq (mAsg (mC (.list [.str "",.str "0",.str "1",.str "61",.str "101",.str "1/2",.str "2/4",.str "amounts",.str "buyer",.str "1000001",.str "1/1000001",.str "\nbuyer"])) (mgN 5))
 (mRet (mJoi (mC (.str " ")) (mCons (mCall fMovL noX (mCons (mVar 0) (mCons (mVar 4) (mCons (mLst (mCons (mOp ixF (mVar 5) (mCall fTake noX (mCons (mVar 0) (mCons (mC (.int 12)) mNil)))) mNil)) mNil)))) mNil))))) mNext)
 (mSeq (mAsg (mSpl (mVar 1) (mCons (mC (.str "\n")) mNil)) (mgN 6))
 (mRet (mJoi (mC (.str "\n")) (mCons (mCall fMovL noX (mCons (mVar 0) (mCons (mVar 6) (mCons (mLst (mCons (mOp ixF (mLst (mCons (mC (.str "")) (mCons (mC (.str "buyer 1")) (mCons (mC (.str "amounts 1")) (mCons (mOp ixF (mVar 6) (mNeg (mC (.int 1)))) mNil))))) (mCall fTake noX (mCons (mVar 0) (mCons (mC (.int 4)) mNil)))) mNil)) mNil)))) mNil)))))))))
theorem atI_end {xs:List PyData} (h:xs ≠ []):∃ v ∈ xs,atI xs (-1)=some v:=by
 have hl:0 < xs.length:=List.length_pos_iff.mpr h
 have e:ixN xs.length (-1)=some (xs.length - 1):=by
  unfold ixN
  rw [if_neg (by decide),if_pos (by omega)]
  congr 1
  omega
 unfold atI
 rw [e]
 have hk:xs.length - 1 < xs.length:=by omega
 exact ⟨xs[xs.length - 1],List.getElem_mem _,List.getElem?_eq_getElem hk⟩
theorem rd_spm:∀ O xs Pq QX,fSpM O xs Pq QX→mSm { nx:=fun _ O'=>Pq (.im .none) O',rt:=Pq } (startS NSm xs) O:=by
 intro O xs Pq QX h
 obtain ⟨j,x,rfl,hx,lx,h⟩:=h
 unfold mSm
 rw [nl_eq,sp_eq]
 have hs:AsB (sg1 ++ sg2)=true:=je7 sg1_as sg2_as
 have hl:(sg1 ++ sg2).length=95:=by rw [jd7,sg_len.1,sg_len.2]
 refine ⟨⟨⟨sg1_as,sg2_as,by show sg1.length + sg2.length ≤ sizeLine; rw [sg_len.1,sg_len.2]; decide⟩,⟨⟨by decide,by decide⟩,fun rw_ aw bw=>⟨?_⟩⟩⟩⟩
 show mSeq _ _ _ [some (.bag j),some (.im (.str x)),some (.im (.str (sg1 ++ sg2))),some (.im (.int rw_)),none,none,none] O
 generalize sg1 ++ sg2=sg at hs hl
 refine ⟨dI,fun _=>?_,fun _=>⟨dI,fun _=>?_,fun _=>?_⟩⟩
 ·show mCall fMovT noX (mCons (mVar 0) (mCons (mVar 1) (mCons (mOp ixF (mLst (mCons (mOp ixsF (mVar 2) (mCall fTake noX (mCons (mVar 0) (mCons (mCB lnsF (mCons (mVar 2) mNil)) mNil)))) (mCons (mC (.str (one 32))) (mCons (mC (.str (one 10))) (mCons (mC (.str "0")) mNil))))) (mCall fTake noX (mCons (mVar 0) (mCons (mC (.int 4)) mNil)))) mNil))) [some (.bag j),some (.im (.str x)),some (.im (.str sg)),some (.im (.int rw_)),none,none,none] O Pq
  refine ⟨by rw [hl]; decide,⟨by rw [hl]; decide,by rw [hl]; decide⟩,fun r a b=>?_⟩
  obtain ⟨c,hc,hc'⟩:=atI_ex (xs:=sg.cps.toList) (r:=r) (Pr:=fun c=>c < 128) a (by rw [jh2]; exact b) (as_iff.mp hs)
  refine ⟨hs,by rw [hl]; decide,c,hc,(show 4 ≤ sizeLine by decide),⟨by decide,by decide⟩,fun r2 a2 b2=>?_⟩
  obtain ⟨d,hd,y,rfl,hy,ly⟩:=atI_ex (xs:=[PyData.str ⟨#[c]⟩,.str (one 32),.str (one 10),.str "0"]) (r:=r2) (Pr:=fun d=>∃ y:Str,d=.str y∧AsB y=true∧y.length ≤ 1) a2 b2 (by
   intro d hd
   simp only [List.mem_cons,List.not_mem_nil,or_false] at hd
   rcases hd with rfl | rfl | rfl | rfl
   ·exact ⟨_,rfl,as_one hc',by show 1 ≤ 1; decide⟩
   ·exact ⟨_,rfl,by decide +kernel,by decide +kernel⟩
   ·exact ⟨_,rfl,by decide +kernel,by decide +kernel⟩
   ·exact ⟨_,rfl,by decide +kernel,by decide +kernel⟩)
  exact ⟨_,hd,j,x,y,rfl,hx,hy,by omega,ly,fun z hz lz=>h z hz (by omega)⟩
 ·have hle:=PyProof.Rows.split_le x (one 32)
  have htot:=tot_split (c:=32) x
  refine ⟨hx,rfl,by rw [sz]; omega,⟨⟨⟨by decide,by decide⟩,fun r a b=>?_⟩⟩⟩
  obtain ⟨d,hd,y,rfl,hy,ly⟩:=atI_ex (xs:=[PyData.str "",.str "0",.str "1",.str "61",.str "101",.str "1/2",.str "2/4",.str "amounts",.str "buyer",.str "1000001",.str "1/1000001",.str "\nbuyer"]) (r:=r) (Pr:=fun d=>∃ y:Str,d=.str y∧AsB y=true∧y.length ≤ 11) a b (by
   intro d hd
   simp only [List.mem_cons,List.not_mem_nil,or_false] at hd
   rcases hd with rfl | rfl | rfl | rfl | rfl | rfl | rfl | rfl | rfl | rfl | rfl | rfl <;> exact ⟨_,rfl,by decide +kernel,by decide +kernel⟩)
  refine ⟨_,hd,len1,j,Txt.split x (one 32),y,rfl,fun w hw=>jf4 hx hw,hy,by omega,fun zs hz tz=>⟨zs,rfl,by decide +kernel,rfl,hz,by omega,h _ (as_join (by decide +kernel) hz) ?_⟩⟩
  have:=jg2 (y:=one 32) rfl zs
  omega
 ·have hle:=PyProof.Rows.split_le x (one 10)
  have htot:=tot_split (c:=10) x
  have hne:(Txt.split x (one 10)).map PyData.str ≠ []:=fun e=>by
   have h1:=PyProof.Rows.split_pos x (one 10)
   rw [List.map_eq_nil_iff.mp e] at h1; simp at h1
  obtain ⟨vl,hvl,hlast⟩:=atI_end hne
  obtain ⟨yl,hyl,rfl⟩:=List.mem_map.mp hvl
  have lyl:=PyProof.Rows.part_short hyl
  refine ⟨hx,rfl,by rw [sz]; omega,⟨_,hlast,(show 4 ≤ sizeLine by decide),⟨by decide,by decide⟩,fun r a b=>?_⟩⟩
  obtain ⟨d,hd,y,rfl,hy,ly⟩:=atI_ex (xs:=[PyData.str "",.str "buyer 1",.str "amounts 1",.str yl]) (r:=r) (Pr:=fun d=>∃ y:Str,d=.str y∧AsB y=true∧y.length ≤ x.length + 9) a b (by
   intro d hd
   simp only [List.mem_cons,List.not_mem_nil,or_false] at hd
   rcases hd with rfl | rfl | rfl | rfl
   ·exact ⟨_,rfl,by decide +kernel,by show 0 ≤ _; omega⟩
   ·exact ⟨_,rfl,by decide +kernel,Nat.le_trans (show (Str.ofString "buyer 1").length ≤ 9 by decide +kernel) (by omega)⟩
   ·exact ⟨_,rfl,by decide +kernel,Nat.le_trans (show (Str.ofString "amounts 1").length ≤ 9 by decide +kernel) (by omega)⟩
   ·exact ⟨_,rfl,jf4 hx hyl,by omega⟩)
  refine ⟨_,hd,len1,j,Txt.split x (one 10),y,rfl,fun w hw=>jf4 hx hw,hy,by omega,fun zs hz tz=>⟨zs,rfl,by decide +kernel,rfl,hz,by omega,h _ (as_join (by decide +kernel) hz) ?_⟩⟩
  have:=jg2 (y:=one 10) rfl zs
  omega
theorem rm_some {z:Str} {m:PyData} (h:rmF z=some m):∃ A Pu W,m=mkD A Pu W:=by
 unfold rmF at h
 split at h
 ·unfold rmL at h
  split at h
  ·rename_i f os _ hc
   rw [Bool.and_eq_true] at hc
   obtain ⟨A,Pu,W,e⟩:=mk_some hc.2
   injection h with h
   exact ⟨A,Pu,W,h.symm.trans e⟩
  ·cases h
 ·cases h
theorem dep_two (s:Str) (A:List Int) (Pu:List Rat) (W:List (List Int)):(PyData.list [.str s,mkD A Pu W]).depth ≤ 60:=by
 have hd:=dep_mk A Pu W
 rw [PyData.depth,PyData.depthAll,PyData.depthAll,PyData.depthAll,PyData.depth]; omega
def lbM:Nat→Nat
 | 0=>14007
 | 1=>56043
 | _=>224187
abbrev NL33:List Str:=["script","k","bag","market","text","turn","due","thing"]
def mLaw33:MS:=(mSeq (mFor (miR1 (mCons (mOp addF (mCB (int2C fun i j=>if j < i then j else i) (mCons (mCB lenSF (mCons (mVar 0) mNil)) (mCons (mC (.int 30)) mNil))) (mC (.int 2))) mNil)) (mgN 1) (mSeq (mAsg (mCall fBag noX (mCons (mVar 0) (mCons (mVar 1) mNil))) (mgN 2))
 (mSeq (mAsg (mCall fMkt noX (mCons (mVar 2) mNil)) (mgN 3))
 (mSeq (mAsg (mCall fMt noX (mCons (mVar 3) mNil)) (mgN 4))
 (mSeq (mIfS (mOrT (mTst (mOp (eqF true) (mCall fMt noX (mCons (mVar 3) mNil)) (mVar 4))) (mTst (mOp (eqF true) (mCall fRdM noX (mCons (mVar 4) mNil)) (mLst (mCons (mC (.str "")) (mCons (mVar 3) mNil)))))) (mRet (mC (.bool false))) mNext)
 (mSeq (mFor (miR1 (mCons (mC (.int 2)) mNil)) (mgN 5) (mSeq (mAsg (mCall fSpM noX (mCons (mVar 2) (mCons (mVar 4) mNil))) (mgN 4))
 (mSeq (mAsg (mCall fDuM noX (mCons (mVar 4) mNil)) (mgN 6))
 (mIfS (mTst (mOp (eqF true) (mCall fRdM noX (mCons (mVar 4) mNil)) (mOp ixF (mLst (mCons (mLst (mCons (mC (.str "")) (mCons (mVar 6) mNil))) (mCons (mLst (mCons (mC (.str "NoText+")) (mCons (mC .none) mNil))) mNil))) (mCB intF (mCons (mOp (isNoneF false) (mVar 6) (mC .none)) mNil))))) (mRet (mC (.bool false))) mNext))))
 (mFor (miSeq (mLst (mCons (mC .none) (mCons (mC (.int 5)) (mCons (mVar 3) (mCons (mC (.str "")) (mCons (mLst (mCons (mVar 4) mNil)) mNil))))))) (mgN 7) (mIfS (mTst (mOp (eqF true) (mCall fRdM noX (mCons (mVar 7) mNil)) (mLst (mCons (mC (.str "NoText+")) (mCons (mC .none) mNil))))) (mRet (mC (.bool false))) mNext))))))))
 (mRet (mC (.bool true))))
theorem rd_law33:∀ O xs Pq QX,fLaw O xs Pq QX→mLaw33 { nx:=fun _ O'=>Pq (.im .none) O',rt:=Pq } (startS NL33 xs) O:=by
 intro O xs Pq QX h
 obtain ⟨ns,rfl,hns,h⟩:=h
 have hlen:(if (30:Int) < (ns.length:Int) then (30:Int) else (ns.length:Int)) + 2 ≤ 65:=by split <;> omega
 have hlen0:0 ≤ (if (30:Int) < (ns.length:Int) then (30:Int) else (ns.length:Int)) + 2:=by split <;> omega
 refine ⟨⟨by dsimp only; omega,by dsimp only; omega⟩,fun i sl O'=>∃ y1 y2 y3 y4 y5 y6 y7,sl=[some (.scr ns),y1,y2,y3,y4,y5,y6,y7],⟨_,_,_,_,_,_,_,rfl⟩,?_,?_⟩
 rotate_left
 ·rintro sl O' _
  exact ⟨h O'⟩
 rintro i x sl O' hx ⟨y1,y2,y3,y4,y5,y6,y7,rfl⟩
 obtain ⟨hi,rfl⟩:=rng_at0 hx
 have hi65:i < 65:=by dsimp only at hi; omega
 refine ⟨⟨by omega,by omega⟩,fun bj=>⟨⟨bj,rfl,fun A Pu W hm hpos=>⟨⟨A,Pu,W,rfl,hm,fun O1 hG1=>⟨?_⟩⟩⟩⟩⟩⟩
 have F:=MkF.of hm
 have hrd:rmF (mtS A Pu W)=some (mkD A Pu W):=F.rd hm
 have hS:AsB (mtS A Pu W)=true:=as_join (by decide +kernel) fun z hz=>(F.lineL z hz).1
 have hL:(mtS A Pu W).length ≤ 14007:=Nat.le_trans (jg2 rfl _) F.totM
 refine ⟨A,Pu,W,rfl,hm,fun O2 hG2=>⟨by show min 0 0 ≤ 60; decide,fun z=>?_,fun _=>⟨.str (mtS A Pu W),rfl,?_,len2,?_,fun z=>?_,fun _=>?_⟩⟩⟩
 ·have z1:(!eqq (.str (mtS A Pu W)) (.str (mtS A Pu W)))=true:=z
  rw [eqq_s] at z1
  simp at z1
 ·intro y e
  injection e with e
  rw [← e]; exact ⟨hS,by omega⟩
 ·exact Nat.le_trans (Nat.min_le_right _ _) (dep_two _ A Pu W)
 ·have z1:(!eqq (.list [.str (kdM (rmF (mtS A Pu W))),optD (rmF (mtS A Pu W))]) (.list [.str (Str.ofString ""),mkD A Pu W]))=true:=z
  rw [hrd] at z1
  have z2:(!eqq (.list [.str (Str.ofString ""),mkD A Pu W]) (.list [.str (Str.ofString ""),mkD A Pu W]))=true:=z1
  rw [eq_rd _ _ (noL_mk A Pu W)] at z2; cases z2
 generalize mtS A Pu W=tx at hS hL
 clear hrd
 refine ⟨⟨⟨by decide,by decide⟩,fun j sl O3=>∃ (x:Str) (z5 z6:Option AV),sl=[some (.scr ns),some (.im (.int i)),some (.bag bj),some (.im (mkD A Pu W)),some (.im (.str x)),z5,z6,y7]∧AsB x=true∧x.length ≤ lbM j,⟨tx,_,_,rfl,hS,hL⟩,?_,?_⟩⟩
 ·rintro j v sl O3 hv ⟨x,z5,z6,rfl,hx,lx⟩
  obtain ⟨hj,rfl⟩:=rng_at0 hv
  have hj2:j < 2:=hj
  have hl1:x.length ≤ 60000:=by
   rcases j with _ | _ | j <;> simp [lbM] at lx <;> omega
  have hl2:4 * x.length + 15 ≤ lbM (j + 1)∧lbM (j + 1) ≤ 400000:=by
   rcases j with _ | _ | j
   ·simp [lbM] at lx ⊢; omega
   ·simp [lbM] at lx ⊢; omega
   ·omega
  refine ⟨⟨bj,x,rfl,hx,hl1,fun z hz lz=>⟨⟨z,rfl,hz,by omega,⟨?_⟩⟩⟩⟩⟩
  refine ⟨.str z,rfl,fun y e=>by injection e with e; rw [← e]; exact ⟨hz,by omega⟩,len2,len2,len2,?_⟩
  cases hr:rmF z with
  | some m =>
   obtain ⟨A',Pu',W',rfl⟩:=rm_some hr
   refine ⟨.list [.str (Str.ofString ""),mkD A' Pu' W'],rfl,?_,fun z1=>?_,fun _=>⟨z,_,_,rfl,hz,by omega⟩⟩
   ·exact Nat.le_trans (Nat.min_le_right _ _) (dep_two _ A' Pu' W')
   ·have z2:(!eqq (.list [.str (kdM (rmF z)),optD (rmF z)]) (.list [.str (Str.ofString ""),mkD A' Pu' W']))=true:=z1
    rw [hr] at z2
    have z3:(!eqq (.list [.str (Str.ofString ""),mkD A' Pu' W']) (.list [.str (Str.ofString ""),mkD A' Pu' W']))=true:=z2
    rw [eq_rd _ _ (noL_mk A' Pu' W')] at z3; cases z3
  | none =>
   refine ⟨.list [.str (Str.ofString "NoText+"),.none],rfl,?_,fun z1=>?_,fun _=>⟨z,_,_,rfl,hz,by omega⟩⟩
   ·refine Nat.le_trans (Nat.min_le_right _ _) ?_
    simp [PyData.depth,PyData.depthAll]
   ·have z2:(!eqq (.list [.str (kdM (rmF z)),optD (rmF z)]) (.list [.str (Str.ofString "NoText+"),.none]))=true:=z1
    rw [hr] at z2
    have e:=eq_rd (Str.ofString "NoText+") .none rfl
    have z3:(!eqq (.list [.str (Str.ofString "NoText+"),.none]) (.list [.str (Str.ofString "NoText+"),.none]))=true:=z2
    rw [e] at z3; cases z3
 ·rintro sl O3 ⟨x,z5,z6,rfl,hx,lx⟩
  refine ⟨⟨len1,(show 5 ≤ sizeLine by decide),fun j sl O4=>∃ y7',sl=[some (.scr ns),some (.im (.int i)),some (.bag bj),some (.im (mkD A Pu W)),some (.im (.str x)),z5,z6,y7'],⟨_,rfl⟩,?_,?_⟩⟩
  ·rintro j v sl O4 hv ⟨y7',rfl⟩
   have hm2:v ∈ ([.none,.int 5,mkD A Pu W,.str (Str.ofString ""),.list [.str x]]:List PyData).map AV.im:=List.mem_of_getElem? hv
   obtain ⟨d,hd,rfl⟩:=List.mem_map.mp hm2
   have hdd:rdPW d∧rmD d=none:=by
    simp only [List.mem_cons,List.not_mem_nil,or_false] at hd
    rcases hd with rfl | rfl | rfl | rfl | rfl
    ·exact ⟨fun _ e=>(by cases e),rfl⟩
    ·exact ⟨fun _ e=>(by cases e),rfl⟩
    ·exact ⟨fun _ e=>(by cases e),rfl⟩
    ·refine ⟨fun y e=>?_,?_⟩
     ·injection e with e
      rw [← e]
      exact ⟨by decide +kernel,by show 0 ≤ _; omega⟩
     ·have:(rmF (Str.ofString "")).isNone=true:=by decide +kernel
      exact Option.isNone_iff_eq_none.mp this
    ·exact ⟨fun _ e=>(by cases e),rfl⟩
   refine ⟨⟨d,rfl,hdd.1,len2,?_,fun z1=>?_,fun _=>⟨_,rfl⟩⟩⟩
   ·refine Nat.le_trans (Nat.min_le_right _ _) ?_
    simp [PyData.depth,PyData.depthAll]
   ·have z2:(!eqq (.list [.str (kdM (rmD d)),optD (rmD d)]) (.list [.str (Str.ofString "NoText+"),.none]))=true:=z1
    rw [hdd.2] at z2
    have e:=eq_rd (Str.ofString "NoText+") .none rfl
    have z3:(!eqq (.list [.str (Str.ofString "NoText+"),.none]) (.list [.str (Str.ofString "NoText+"),.none]))=true:=z2
    rw [e] at z3; cases z3
  ·rintro sl O4 ⟨y7',rfl⟩
   exact ⟨_,_,_,_,_,_,_,rfl⟩
end MI
namespace K33
open PySem L2 KG EX KM MI TX
section
variable {P:Program} {w:World} {K:PySem.W.Frag} {mg:Str→Option Value} {base:Heap}
theorem scFt:FnScope NFt ["number"] (ja3 (top 32)):=⟨rfl,rfl,rfl,by decide +kernel,rfl,by decide +kernel,by decide +kernel⟩
theorem ok_ft {f:Addr} {fd:FuncData} (F:Fun K "fraction_text" "fraction_text" (top 32) f fd) (N:Nm mg):FnOk P w K mg base CX0 1 f fd ["number"] (spM K fFt) :=
 okM F scFt (fun O xs P PX h=>by obtain ⟨_,_,rfl,_⟩:=h; rfl) (fun cdv A outer s H E QX hr=>⟨mFt,(ja7 (ms_asg (ja1 (pv 0)) (mg_tup rfl (jg9 (jc2 (jb2 (i:=1) scFt.nd rfl (Or.inl rfl))) (jg9 (jc2 (jb2 (i:=2) scFt.nd rfl (Or.inl rfl))) mgs_nil))))
 (jb7 (jc5 (me_if (jc7 (or_eq hr.units) lk_eq (ja1 (pv 2)) ja9 (nomark _)) (me_fs1 (me_fv (ja1 (pv 1)))) (me_fs3 (me_fv (ja1 (pv 1))) jb6 (me_fv (ja1 (pv 2)))))))),fun O xs Pq h=>rd_ft O xs Pq QX h⟩)
theorem scNt:FnScope NNt ["thing"] (ja3 (top 35)):=⟨rfl,rfl,rfl,by decide +kernel,rfl,by decide +kernel,by decide +kernel⟩
theorem ok_net {f Tx:Addr} {fd:FuncData} (F:Fun K "need_text" "need_text" (top 35) f fd) (N:Nm mg) (ZS:IsS K) (mStr:mg "str"=none) (mTx:mg "NoText"=some (.ref Tx)) (eTx:PySem.W.excIn K Tx [.type "ValueError",.type "Exception",.type "BaseException",.type "object"] "ValueError.__new__"=true):FnOk P w K mg base (CXF P w) 1 f fd ["thing"] (spM K (fNeT Tx)) :=
 okMX F scNt (fun O xs P PX h=>by obtain ⟨_,rfl,_⟩:=h; rfl) (fun cdv A outer s H E QX hr=>⟨mNeT QX Tx,(jb7 (jf5 (mt_not (mt_val (me_isistr ZS (ja1 (pv 0)) rfl N.isinstance rfl mStr boot_str))) (jb7 (ms_raise PySem.F.excBase_ValueError rfl mTx eTx (ja0 jb6 ja4))) jd8)),fun O xs Pq h=>rd_net Tx O xs Pq QX h⟩)
theorem scNt2:FnScope NNs ["words","numbers"] (ja3 (top 34)):=⟨rfl,rfl,rfl,by decide +kernel,rfl,by decide +kernel,by decide +kernel⟩
theorem ok_nt {f:Addr} {fd:FuncData} (F:Fun K "numbers_text" "numbers_text" (top 34) f fd) (N:Nm mg) (mStr:mg "str"=none):FnOk P w K mg base CX0 1 f fd ["words","numbers"] (spM K fNt) :=
 okM F scNt2 (fun O xs P PX h=>by obtain ⟨_,_,rfl,_⟩:=h; rfl) (fun cdv A outer s H E QX hr=>⟨mNt,(jb7 (jc5 (me_joi jb6 (ja0 (jd9 (ja1 (pv 0)) (me_comp (own:=["number"]) (cap:=[]) (ix:=[]) (BlkOk.of (ja3 (top 34)).names NNs) rfl (jf7 (ja1 (pv 1))) (jc4 (by decide))
 (fun C fp s H=>⟨(jc2 (jb2 (i:=0) (show List.Nodup (["number"]:List Str) by decide +kernel) rfl (Or.inl rfl))),jh0,(jd0 jf6 lk_strF (by rfl) mStr boot_str (ja0 (ja1 (pv 0)) ja4))⟩))) ja4)))),fun O xs Pq h=>rd_nt O xs Pq QX h⟩)
theorem scMt:FnScope NMt ["market"] (ja3 (top 33)):=⟨rfl,rfl,rfl,by decide +kernel,rfl,by decide +kernel,by decide +kernel⟩
theorem ok_mt {f fF fN:Addr} {fd dF dN:FuncData} (F:Fun K "market_text" "market_text" (top 33) f fd) (N:Nm mg) (mz:mg "zip"=none) (Ft:Cal K mg P w base "fraction_text" 1 ["number"] (spM K fFt) fF dF) (Nt:Cal K mg P w base "numbers_text" 1 ["words","numbers"] (spM K fNt) fN dN):FnOk P w K mg base CX0 2 f fd ["market"] (spM K fMt) :=
 okM F scMt (fun O xs P PX h=>by obtain ⟨_,_,_,rfl,_⟩:=h; rfl) (fun cdv A outer s H E QX hr=>⟨mMt,(ja7 (ms_asg (ja1 (pv 0)) (mg_tup rfl (jg9 (jc2 (jb2 (i:=1) scMt.nd rfl (Or.inl rfl))) (jg9 (jc2 (jb2 (i:=2) scMt.nd rfl (Or.inl rfl))) (jg9 (jc2 (jb2 (i:=3) scMt.nd rfl (Or.inl rfl))) mgs_nil)))))
 (ja7 (jd5 (i:=4) scMt.nd rfl (Or.inl rfl) (me_own (ja0 (jb4 Nt.ok je0 (hr.mono (by decide)) rfl Nt.mg Nt.kp Nt.bd (ja0 (jf1 (ja0 jb6 ja4)) (ja0 (ja1 (pv 1)) ja4))) ja4)))
 (ja7 (ms_for PassesOwn.never rfl (mi_zip rfl mz boot_zip (ja0 (ja1 (pv 2)) (ja0 (ja1 (pv 3)) ja4))) (mg_tup rfl (jg9 (jc2 (jb2 (i:=5) scMt.nd rfl (Or.inl rfl))) (jg9 (jc2 (jb2 (i:=6) scMt.nd rfl (Or.inl rfl))) mgs_nil))) (jb7 (ms_expr (me_app (ja1 (pv 4)) (ja0 (jb4 Nt.ok je0 (hr.mono (by decide)) rfl Nt.mg Nt.kp Nt.bd (ja0 (jf1 (ja0 jb6 (ja0 (jb4 Ft.ok je0 (hr.mono (by decide)) rfl Ft.mg Ft.kp Ft.bd (ja0 (ja1 (pv 5)) ja4)) ja4))) (ja0 (ja1 (pv 6)) ja4))) ja4)))))
 (ms_frz 4 (jb7 (jc5 (me_joi jb6 (ja0 (ja1 (pv 4)) ja4)))))))),fun O xs Pq h=>rd_mt O xs Pq QX h⟩)
theorem scRn:FnScope NRnW ["word"] (ja3 (top 36)):=⟨rfl,rfl,rfl,by decide +kernel,rfl,by decide +kernel,by decide +kernel⟩
theorem ok_rn {f Tx:Addr} {fd:FuncData} (F:Fun K "read_number" "read_number" (top 36) f fd) (N:Nm mg) (mTx:mg "NoText"=some (.ref Tx)) (eTx:PySem.W.excIn K Tx [.type "ValueError",.type "Exception",.type "BaseException",.type "object"] "ValueError.__new__"=true):FnOk P w K mg base (CXF P w) 1 f fd ["word"] (spM K (fRnW Tx)) :=
 okMX F scRn (fun O xs P PX h=>by obtain ⟨_,rfl,_⟩:=h; rfl) (fun cdv A outer s H E QX hr=>⟨mRnW QX Tx,(ja7 (jf5 (PW.pt (mw_or (mt_not (mt_val (me_asc (ja1 (pv 0))))) (mw_or (mt_not (mt_val (me_dig (ja1 (pv 0))))) (mw_or1 (PW.pt (mw_and (jc7 (or_eq hr.units) lk_eq (mo_ixs (ja1 (pv 0)) ja9) jb6 (nomark _)) (mw_and1 (jc7 (or_ne hr.units) lk_ne (ja1 (pv 0)) jb6 (nomark _))))))))) (jb7 (ms_raise PySem.F.excBase_ValueError rfl mTx eTx (ja0 jb6 ja4))) jd8)
 (ja7 (jd5 (i:=1) scRn.nd rfl (Or.inl rfl) ja9)
 (ja7 (PS.nox1 (ms_for PassesOwn.never rfl (mi_str (ja1 (pv 0))) (jc2 (jb2 (i:=2) scRn.nd rfl (Or.inl rfl))) (jb7 (jd5 (i:=1) scRn.nd rfl (Or.inl rfl) (jd9 (mo_mulW (ja1 (pv 1)) ja9) (jd0 call_int_txt lk_itx (by rfl) N.int boot_int (ja0 (ja1 (pv 2)) ja4)))))))
 (jb7 (jc5 (ja1 (pv 1))))))),fun O xs Pq h=>rd_rnW Tx O xs Pq QX h⟩)
theorem scRns:FnScope NRsW ["words"] (ja3 (top 37)):=⟨rfl,rfl,rfl,by decide +kernel,rfl,by decide +kernel,by decide +kernel⟩
theorem ok_rns {f Tx fN:Addr} {fd dN:FuncData} (F:Fun K "read_numbers" "read_numbers" (top 37) f fd) (N:Nm mg) (Rn:CalX K mg P w base "read_number" 1 ["word"] (spM K (fRnW Tx)) fN dN):FnOk P w K mg base (CXF P w) 2 f fd ["words"] (spM K (fRsW Tx)) :=
 okMX F scRns (fun O xs P PX h=>by obtain ⟨_,rfl,_⟩:=h; rfl) (fun cdv A outer s H E QX hr=>⟨mRsW QX Tx,(jb7 (jc5 (jd0 cTup0 lk_tup (by rfl) N.tuple jc1 (ja0 (me_compX rfl rfl passF (own:=["word"]) (cap:=[]) (ix:=[]) (BlkOk.of (ja3 (top 37)).names NRsW) rfl (jf7 (ja1 (pv 0))) (jc4 (by decide))
 (fun C fp s H hp=>⟨(jc2 (jb2 (i:=0) (show List.Nodup (["word"]:List Str) by decide +kernel) rfl (Or.inl rfl))),jh0,(me_call Rn.ok je0 (hr.mono (by decide)) rfl Rn.mg Rn.kp Rn.bd hp (ja0 (ja1 (pv 0)) ja4))⟩)) ja4)))),fun O xs Pq h=>rd_rsW Tx O xs Pq QX h⟩)
theorem scRf:FnScope NRfW ["text"] (ja3 (top 38)):=⟨rfl,rfl,rfl,by decide +kernel,rfl,by decide +kernel,by decide +kernel⟩
theorem ok_rf {f Tx fN fR fI:Addr} {fd dN dR dI:FuncData} (F:Fun K "read_fraction" "read_fraction" (top 38) f fd) (N:Nm mg) (mTx:mg "NoText"=some (.ref Tx)) (eTx:PySem.W.excIn K Tx [.type "ValueError",.type "Exception",.type "BaseException",.type "object"] "ValueError.__new__"=true) (Ne:CalX K mg P w base "need_text" 1 ["thing"] (spM K (fNeT Tx)) fN dN) (Rs:CalX K mg P w base "read_numbers" 2 ["words"] (spM K (fRsW Tx)) fR dR) (IF:Cal K mg P w base "is_fraction" 2 ["thing"] (spT isFrac) fI dI):FnOk P w K mg base (CXF P w) 3 f fd ["text"] (spM K (fRfW Tx)) :=
 okMX F scRf (fun O xs P PX h=>by obtain ⟨_,rfl,_⟩:=h; rfl) (fun cdv A outer s H E QX hr=>⟨mRfW QX Tx,(ja7 (ms_expr (me_call Ne.ok je0 (hr.mono (by decide)) rfl Ne.mg Ne.kp Ne.bd passF (ja0 (ja1 (pv 0)) ja4)))
 (ja7 (jd5 (i:=1) scRf.nd rfl (Or.inl rfl) (me_call Rs.ok je0 (hr.mono (by decide)) rfl Rs.mg Rs.kp Rs.bd passF (ja0 (me_spl (ja1 (pv 0)) (ja0 jb6 ja4)) ja4)))
 (ja7 (jf5 (jc7 (or_eq hr.units) lk_eq (je3 cLen0 lk_len (by rfl) N.len PySem.boot_len (ja0 (ja1 (pv 1)) ja4)) ja9 (nomark _)) (jb7 (jc5 (me_tup (ja0 (je6 (ja1 (pv 1)) ja9) (ja0 ja9 ja4))))) jd8)
 (ja7 (jf5 (PW.pt (mw_or (mt_not (mt_val (jb4 IF.ok lk_T (hr.mono (by decide)) rfl IF.mg IF.kp IF.bd (ja0 (ja1 (pv 1)) ja4)))) (mw_or1 (jc7 (or_eq hr.units) lk_eq (je6 (ja1 (pv 1)) ja9) ja9 (nomark _))))) (jb7 (ms_raise PySem.F.excBase_ValueError rfl mTx eTx (ja0 jb6 ja4))) jd8)
 (jb7 (jc5 (ja1 (pv 1)))))))),fun O xs Pq h=>rd_rfW Tx O xs Pq QX h⟩)
theorem scRm:FnScope NRm ["text"] (ja3 (top 39)):=⟨rfl,rfl,rfl,by decide +kernel,rfl,by decide +kernel,by decide +kernel⟩
theorem ok_rm {f Tx fN fR fF fI:Addr} {fd dN dR dF dI:FuncData} (F:Fun K "read_market" "read_market" (top 39) f fd) (N:Nm mg) (mTx:mg "NoText"=some (.ref Tx)) (eTx:PySem.W.excIn K Tx [.type "ValueError",.type "Exception",.type "BaseException",.type "object"] "ValueError.__new__"=true) (Ne:CalX K mg P w base "need_text" 1 ["thing"] (spM K (fNeT Tx)) fN dN) (Rs:CalX K mg P w base "read_numbers" 2 ["words"] (spM K (fRsW Tx)) fR dR) (Rf:CalX K mg P w base "read_fraction" 3 ["text"] (spM K (fRfW Tx)) fF dF) (Im:Cal K mg P w base "is_market" 5 ["thing"] (spT isMk) fI dI):FnOk P w K mg base (CXF P w) 6 f fd ["text"] (spM K (fRm Tx)) :=
 okMX F scRm (fun O xs P PX h=>by obtain ⟨_,rfl,_⟩:=h; rfl) (fun cdv A outer s H E QX hr=>⟨mRm QX Tx,(ja7 (ms_expr (me_call Ne.ok je0 (hr.mono (by decide)) rfl Ne.mg Ne.kp Ne.bd passF (ja0 (ja1 (pv 0)) ja4)))
 (ja7 (ms_asg (me_compX rfl rfl passF (own:=["line"]) (cap:=[]) (ix:=[]) (BlkOk.of (ja3 (top 39)).names NRm) rfl (jf7 (me_spl (ja1 (pv 0)) (ja0 jb6 ja4))) (jc4 (by decide))
 (fun C fp s H hp=>⟨(jc2 (jb2 (i:=0) (show List.Nodup (["line"]:List Str) by decide +kernel) rfl (Or.inl rfl))),jh0,(me_spl (ja1 (pv 0)) (ja0 jb6 ja4))⟩)) (mg_star rfl (jg9 (jc2 (jb2 (i:=1) scRm.nd rfl (Or.inl rfl))) (mgs_star (jc2 (jb2 (i:=2) scRm.nd rfl (Or.inl rfl))) mgs_nil))))
 (ja7 (jf5 (PW.pt (mw_or (jc7 (or_ne hr.units) lk_ne (je6 (ja1 (pv 1)) ja9) jb6 (nomark _)) (mw_or1 (mt_not (mt_val (je3 (cAll0 rfl) lk_all (by rfl) N.all boot_all (ja0 (me_compX rfl rfl passF (own:=["words"]) (cap:=[]) (ix:=[]) (BlkOk.of (ja3 (top 39)).names NRm) rfl (jf7 (ja1 (pv 2))) (jc4 (by decide))
 (fun C fp s H hp=>⟨(jc2 (jb2 (i:=0) (show List.Nodup (["words"]:List Str) by decide +kernel) rfl (Or.inl rfl))),jh0,(me_and (me_cmp op_gt lk_gt (je3 cLen0 lk_len (by rfl) N.len PySem.boot_len (ja0 (ja1 (pv 0)) ja4)) ja9 (nomark _)) (me_one (me_cmp (or_eq hr.units) lk_eq (je6 (ja1 (pv 0)) ja9) jb6 (nomark _))))⟩)) ja4))))))) (jb7 (ms_raise PySem.F.excBase_ValueError rfl mTx eTx (ja0 jb6 ja4))) jd8)
 (ja7 (jd5 (i:=3) scRm.nd rfl (Or.inl rfl) (jd0 cTup0 lk_tup (by rfl) N.tuple jc1 (ja0 (me_compX rfl rfl passF (own:=["words"]) (cap:=[]) (ix:=[]) (BlkOk.of (ja3 (top 39)).names NRm) rfl (jf7 (ja1 (pv 2))) (jc4 (by decide))
 (fun C fp s H hp=>⟨(jc2 (jb2 (i:=0) (show List.Nodup (["words"]:List Str) by decide +kernel) rfl (Or.inl rfl))),jh0,(me_call Rf.ok je0 (hr.mono (by decide)) rfl Rf.mg Rf.kp Rf.bd hp (ja0 (je6 (ja1 (pv 0)) ja9) ja4))⟩)) ja4)))
 (ja7 (jd5 (i:=4) scRm.nd rfl (Or.inl rfl) (me_tup (ja0 (me_call Rs.ok je0 (hr.mono (by decide)) rfl Rs.mg Rs.kp Rs.bd passF (ja0 (jd3 (ja1 (pv 1)) (jb9 ja9) jc3) ja4)) (ja0 (ja1 (pv 3)) (ja0 (jd0 cTup0 lk_tup (by rfl) N.tuple jc1 (ja0 (me_compX rfl rfl passF (own:=["words"]) (cap:=[]) (ix:=[]) (BlkOk.of (ja3 (top 39)).names NRm) rfl (jf7 (ja1 (pv 2))) (jc4 (by decide))
 (fun C fp s H hp=>⟨(jc2 (jb2 (i:=0) (show List.Nodup (["words"]:List Str) by decide +kernel) rfl (Or.inl rfl))),jh0,(me_call Rs.ok je0 (hr.mono (by decide)) rfl Rs.mg Rs.kp Rs.bd hp (ja0 (jd3 (ja1 (pv 0)) (jb9 ja9) jc3) ja4))⟩)) ja4)) ja4)))))
 (ja7 (jf5 (mt_not (mt_val (jb4 Im.ok lk_T (hr.mono (by decide)) rfl Im.mg Im.kp Im.bd (ja0 (ja1 (pv 4)) ja4)))) (jb7 (ms_raise PySem.F.excBase_ValueError rfl mTx eTx (ja0 jb6 ja4))) jd8)
 (jb7 (jc5 (ja1 (pv 4)))))))))),fun O xs Pq h=>rd_rm Tx O xs Pq QX h⟩)
theorem scLt:FnScope NLt ["one"] (ja3 (top 48)):=⟨rfl,rfl,rfl,by decide +kernel,rfl,by decide +kernel,by decide +kernel⟩
theorem ok_lt {f:Addr} {fd:FuncData} (F:Fun K "_law_fraction_text" "_law_fraction_text" (top 48) f fd) (N:Nm mg) (mStr:mg "str"=none):FnOk P w K mg base CX0 1 f fd ["one"] (spM K fFt) :=
 okM F scLt (fun O xs P PX h=>by obtain ⟨_,_,rfl,_⟩:=h; rfl) (fun cdv A outer s H E QX hr=>⟨mLt,(jb7 (jc5 (mo_cat (jd0 jf6 lk_strF (by rfl) mStr boot_str (ja0 (je6 (ja1 (pv 0)) ja9) ja4)) (mo_rps (mo_cat jb6 (jd0 jf6 lk_strF (by rfl) mStr boot_str (ja0 (je6 (ja1 (pv 0)) ja9) ja4))) (jd0 call_int1 lk_intF (by rfl) N.int boot_int (ja0 (me_cmp (or_ne hr.units) lk_ne (je6 (ja1 (pv 0)) ja9) ja9 (nomark _)) ja4)))))),fun O xs Pq h=>rd_lt O xs Pq QX h⟩)
theorem scLx:FnScope NLx ["market"] (ja3 (top 49)):=⟨rfl,rfl,rfl,by decide +kernel,rfl,by decide +kernel,by decide +kernel⟩
theorem ok_lx {f fF:Addr} {fd dF:FuncData} (F:Fun K "_law_text" "_law_text" (top 49) f fd) (N:Nm mg) (mStr:mg "str"=none) (Lt:Cal K mg P w base "_law_fraction_text" 1 ["one"] (spM K fFt) fF dF):FnOk P w K mg base CX0 2 f fd ["market"] (spM K fMt) :=
 okM F scLx (fun O xs P PX h=>by obtain ⟨_,_,_,rfl,_⟩:=h; rfl) (fun cdv A outer s H E QX hr=>⟨mLx,(ja7 (jd5 (i:=1) scLx.nd rfl (Or.inl rfl) (me_own (ja0 (me_joi jb6 (ja0 (jd9 (jf1 (ja0 jb6 ja4)) (me_comp (own:=["pieces"]) (cap:=[]) (ix:=[]) (BlkOk.of (ja3 (top 49)).names NLx) rfl (jf7 (je6 (ja1 (pv 0)) ja9)) (jc4 (by decide))
 (fun C fp s H=>⟨(jc2 (jb2 (i:=0) (show List.Nodup (["pieces"]:List Str) by decide +kernel) rfl (Or.inl rfl))),jh0,(jd0 jf6 lk_strF (by rfl) mStr boot_str (ja0 (ja1 (pv 0)) ja4))⟩))) ja4)) ja4)))
 (ja7 (ms_for PassesOwn.never rfl (mi_range1 rfl N.range (ja0 (je3 cLen0 lk_len (by rfl) N.len PySem.boot_len (ja0 (je6 (ja1 (pv 0)) ja9) ja4)) ja4)) (jc2 (jb2 (i:=2) scLx.nd rfl (Or.inl rfl))) (ja7 (jd5 (i:=3) scLx.nd rfl (Or.inl rfl) (jd9 (jf1 (ja0 jb6 (ja0 (jb4 Lt.ok je0 (hr.mono (by decide)) rfl Lt.mg Lt.kp Lt.bd (ja0 (je6 (je6 (ja1 (pv 0)) ja9) (ja1 (pv 2))) ja4)) ja4))) (me_comp (own:=["wish"]) (cap:=[]) (ix:=[]) (BlkOk.of (ja3 (top 49)).names NLx) rfl (jf7 (je6 (je6 (ja1 (pv 0)) ja9) (ja1 (pv 2)))) (jc4 (by decide))
 (fun C fp s H=>⟨(jc2 (jb2 (i:=0) (show List.Nodup (["wish"]:List Str) by decide +kernel) rfl (Or.inl rfl))),jh0,(jd0 jf6 lk_strF (by rfl) mStr boot_str (ja0 (ja1 (pv 0)) ja4))⟩))))
 (jb7 (ms_expr (me_app (ja1 (pv 1)) (ja0 (me_joi jb6 (ja0 (ja1 (pv 3)) ja4)) ja4))))))
 (ms_frz 1 (jb7 (jc5 (me_joi jb6 (ja0 (ja1 (pv 1)) ja4))))))),fun O xs Pq h=>rd_lx O xs Pq QX h⟩)
theorem scNu:FnScope NNu ["word"] (ja3 (top 50)):=⟨rfl,rfl,rfl,by decide +kernel,rfl,by decide +kernel,by decide +kernel⟩
theorem ok_nu {f:Addr} {fd:FuncData} (F:Fun K "_law_number" "_law_number" (top 50) f fd) (N:Nm mg):FnOk P w K mg base CX0 1 f fd ["word"] (spM K fNum) :=
 okM F scNu (fun O xs P PX h=>by obtain ⟨_,rfl,_⟩:=h; rfl) (fun cdv A outer s H E QX hr=>⟨mNu,(ja7 (jf5 (PW.pt (mw_or (jc7 (or_eq hr.units) lk_eq (ja1 (pv 0)) jb6 (nomark _)) (mw_or (jc7 op_gt lk_gt (je3 call_len_str lk_lns (by rfl) N.len PySem.boot_len (ja0 (ja1 (pv 0)) ja4)) ja9 (nomark _)) (mw_or1 (jc7 (or_ne hr.units) lk_ne (me_comp (own:=["sign"]) (cap:=[]) (ix:=[]) (BlkOk.of (ja3 (top 50)).names NNu) rfl (mi_str (ja1 (pv 0))) (jc4 (by decide))
 (fun C fp s H=>⟨(jc2 (jb2 (i:=0) (show List.Nodup (["sign"]:List Str) by decide +kernel) rfl (Or.inl rfl))),(mf_one (jc7 op_notIn_str lk_nins (ja1 (pv 0)) jb6 (by rfl))),(ja1 (pv 0))⟩)) (jf1 ja4) (nomark _)))))) (jb7 (jc5 jh1)) jd8)
 (ja7 (jf5 (PW.pt (mw_and (jc7 (or_eq hr.units) lk_eq (mo_ixs (ja1 (pv 0)) ja9) jb6 (nomark _)) (mw_and1 (jc7 (or_ne hr.units) lk_ne (ja1 (pv 0)) jb6 (nomark _))))) (jb7 (jc5 jh1)) jd8)
 (jb7 (jc5 (jd0 call_int_txt lk_itx (by rfl) N.int boot_int (ja0 (ja1 (pv 0)) ja4)))))),fun O xs Pq h=>rd_num O xs Pq QX h⟩)
theorem scFo:FnScope NFo ["word"] (ja3 (top 51)):=⟨rfl,rfl,rfl,by decide +kernel,rfl,by decide +kernel,by decide +kernel⟩
theorem ok_fo {f fN fL:Addr} {fd dN dL:FuncData} (F:Fun K "_law_fraction_of" "_law_fraction_of" (top 51) f fd) (N:Nm mg) (Nu:Cal K mg P w base "_law_number" 1 ["word"] (spM K fNum) fN dN) (Lf:Cal K mg P w base "_law_frac" 1 ["top","bottom"] spLf fL dL):FnOk P w K mg base CX0 2 f fd ["word"] (spM K fFof) :=
 okM F scFo (fun O xs P PX h=>by obtain ⟨_,rfl,_⟩:=h; rfl) (fun cdv A outer s H E QX hr=>⟨mFo,(ja7 (ms_setC (i:=1) scFo.nd rfl rfl (own:=["part"]) (cap:=[]) (ix:=[]) (BlkOk.of (ja3 (top 51)).names NFo) rfl (jf7 (me_spl (ja1 (pv 0)) (ja0 jb6 ja4))) (jc4 (by decide))
 (fun C fp s H=>⟨(jc2 (jb2 (i:=0) (show List.Nodup (["part"]:List Str) by decide +kernel) rfl (Or.inl rfl))),jh0,(jb4 Nu.ok je0 (hr.mono (by decide)) rfl Nu.mg Nu.kp Nu.bd (ja0 (ja1 (pv 0)) ja4))⟩))
 (ja7 (jf5 (PW.pt (mw_or (jc7 op_gt lk_gt (je3 cLen0 lk_len (by rfl) N.len PySem.boot_len (ja0 (ja1 (pv 1)) ja4)) ja9 (nomark _)) (mw_or1 (jc7 opIn0 lk_nIn jh1 (ja1 (pv 1)) (by rfl))))) (jb7 (jc5 jh1)) jd8)
 (ja7 (jf5 (jc7 (or_eq hr.units) lk_eq (je3 cLen0 lk_len (by rfl) N.len PySem.boot_len (ja0 (ja1 (pv 1)) ja4)) ja9 (nomark _)) (jb7 (jc5 (me_tup (ja0 (je6 (ja1 (pv 1)) ja9) (ja0 ja9 ja4))))) jd8)
 (ja7 (jf5 (PW.pt (mw_or (jc7 op_lt lk_lt (je6 (ja1 (pv 1)) ja9) ja9 (nomark _)) (mw_or1 (jc7 (or_ne hr.units) lk_ne (jb4 Lf.ok lk_lf (hr.mono (by decide)) rfl Lf.mg Lf.kp Lf.bd (ja0 (je6 (ja1 (pv 1)) ja9) (ja0 (je6 (ja1 (pv 1)) ja9) ja4))) (me_tup (ja0 (je6 (ja1 (pv 1)) ja9) (ja0 (je6 (ja1 (pv 1)) ja9) ja4))) (nomark _))))) (jb7 (jc5 jh1)) jd8)
 (jb7 (jc5 (me_tup (ja0 (je6 (ja1 (pv 1)) ja9) (ja0 (je6 (ja1 (pv 1)) ja9) ja4))))))))),fun O xs Pq h=>rd_fof O xs Pq QX h⟩)
theorem scMv:FnScope NMvT ["bag","some","new"] (ja3 (top 52)):=⟨rfl,rfl,rfl,by decide +kernel,rfl,by decide +kernel,by decide +kernel⟩
theorem ok_mvT {f fT:Addr} {fd dT:FuncData} (F:Fun K "_law_moved_about" "_law_moved_about" (top 52) f fd) (N:Nm mg) (T:Cal K mg P w base "_law_take" 1 ["bag","many"] spTake fT dT):FnOk P w K mg base CX0 2 f fd ["bag","some","new"] (spM K fMovT) :=
 okM F scMv (fun O xs P PX h=>by obtain ⟨_,_,_,rfl,_⟩:=h; rfl) (fun cdv A outer s H E QX hr=>⟨mMovT,(ja7 (jd5 (i:=3) scMv.nd rfl (Or.inl rfl) (jb4 T.ok lk_take (hr.mono (by decide)) rfl T.mg T.kp T.bd (ja0 (ja1 (pv 0)) (ja0 (jd9 (je3 call_len_str lk_lns (by rfl) N.len PySem.boot_len (ja0 (ja1 (pv 1)) ja4)) ja9) ja4))))
 (ja7 (jd5 (i:=4) scMv.nd rfl (Or.inl rfl) (jb4 T.ok lk_take (hr.mono (by decide)) rfl T.mg T.kp T.bd (ja0 (ja1 (pv 0)) (ja0 ja9 ja4))))
 (ja7 (jf5 (jc7 (or_eq hr.units) lk_eq (ja1 (pv 4)) ja9 (nomark _)) (jb7 (jc5 (mo_cat (me_slS (ja1 (pv 1)) jc3 (jb9 (ja1 (pv 3)))) (me_slS (ja1 (pv 1)) (jb9 (jd9 (ja1 (pv 3)) ja9)) jc3)))) jd8)
 (ja7 (jf5 (jc7 (or_eq hr.units) lk_eq (ja1 (pv 4)) ja9 (nomark _)) (jb7 (jc5 (mo_cat (me_slS (ja1 (pv 1)) jc3 (jb9 (jd9 (ja1 (pv 3)) ja9))) (me_slS (ja1 (pv 1)) (jb9 (ja1 (pv 3))) jc3)))) jd8)
 (ja7 (jf5 (jc7 (or_eq hr.units) lk_eq (ja1 (pv 4)) ja9 (nomark _)) (jb7 (jc5 (mo_cat (mo_cat (me_slS (ja1 (pv 1)) jc3 (jb9 (ja1 (pv 3)))) (ja1 (pv 2))) (me_slS (ja1 (pv 1)) (jb9 (ja1 (pv 3))) jc3)))) jd8)
 (ja7 (jf5 (jc7 (or_eq hr.units) lk_eq (ja1 (pv 4)) ja9 (nomark _)) (jb7 (jc5 (mo_cat (mo_cat (me_slS (ja1 (pv 1)) jc3 (jb9 (ja1 (pv 3)))) (me_rev (me_slS (ja1 (pv 1)) (jb9 (ja1 (pv 3))) (jb9 (jd9 (ja1 (pv 3)) ja9))))) (me_slS (ja1 (pv 1)) (jb9 (jd9 (ja1 (pv 3)) ja9)) jc3)))) jd8)
 (jb7 (jc5 (mo_cat (mo_cat (me_slS (ja1 (pv 1)) jc3 (jb9 (ja1 (pv 3)))) (ja1 (pv 2))) (me_slS (ja1 (pv 1)) (jb9 (jd9 (ja1 (pv 3)) ja9)) jc3)))))))))),fun O xs Pq h=>rd_movT O xs Pq QX h⟩)
theorem ok_mvL {f fT:Addr} {fd dT:FuncData} (F:Fun K "_law_moved_about" "_law_moved_about" (top 52) f fd) (N:Nm mg) (T:Cal K mg P w base "_law_take" 1 ["bag","many"] spTake fT dT):FnOk P w K mg base CX0 2 f fd ["bag","some","new"] (spM K fMovL) :=
 okM F scMv (fun O xs P PX h=>by obtain ⟨_,_,_,rfl,_⟩:=h; rfl) (fun cdv A outer s H E QX hr=>⟨mMovL,(ja7 (jd5 (i:=3) scMv.nd rfl (Or.inl rfl) (jb4 T.ok lk_take (hr.mono (by decide)) rfl T.mg T.kp T.bd (ja0 (ja1 (pv 0)) (ja0 (jd9 (je3 cLen0 lk_len (by rfl) N.len PySem.boot_len (ja0 (ja1 (pv 1)) ja4)) ja9) ja4))))
 (ja7 (jd5 (i:=4) scMv.nd rfl (Or.inl rfl) (jb4 T.ok lk_take (hr.mono (by decide)) rfl T.mg T.kp T.bd (ja0 (ja1 (pv 0)) (ja0 ja9 ja4))))
 (ja7 (jf5 (jc7 (or_eq hr.units) lk_eq (ja1 (pv 4)) ja9 (nomark _)) (jb7 (jc5 (jd9 (jd3 (ja1 (pv 1)) jc3 (jb9 (ja1 (pv 3)))) (jd3 (ja1 (pv 1)) (jb9 (jd9 (ja1 (pv 3)) ja9)) jc3)))) jd8)
 (ja7 (jf5 (jc7 (or_eq hr.units) lk_eq (ja1 (pv 4)) ja9 (nomark _)) (jb7 (jc5 (jd9 (jd3 (ja1 (pv 1)) jc3 (jb9 (jd9 (ja1 (pv 3)) ja9))) (jd3 (ja1 (pv 1)) (jb9 (ja1 (pv 3))) jc3)))) jd8)
 (ja7 (jf5 (jc7 (or_eq hr.units) lk_eq (ja1 (pv 4)) ja9 (nomark _)) (jb7 (jc5 (jd9 (jd9 (jd3 (ja1 (pv 1)) jc3 (jb9 (ja1 (pv 3)))) (ja1 (pv 2))) (jd3 (ja1 (pv 1)) (jb9 (ja1 (pv 3))) jc3)))) jd8)
 (ja7 (jf5 (jc7 (or_eq hr.units) lk_eq (ja1 (pv 4)) ja9 (nomark _)) (jb7 (jc5 (jd9 (jd9 (jd3 (ja1 (pv 1)) jc3 (jb9 (ja1 (pv 3)))) (me_rvL (jd3 (ja1 (pv 1)) (jb9 (ja1 (pv 3))) (jb9 (jd9 (ja1 (pv 3)) ja9))))) (jd3 (ja1 (pv 1)) (jb9 (jd9 (ja1 (pv 3)) ja9)) jc3)))) jd8)
 (jb7 (jc5 (jd9 (jd9 (jd3 (ja1 (pv 1)) jc3 (jb9 (ja1 (pv 3)))) (ja1 (pv 2))) (jd3 (ja1 (pv 1)) (jb9 (jd9 (ja1 (pv 3)) ja9)) jc3)))))))))),fun O xs Pq h=>rd_movL O xs Pq QX h⟩)
theorem scDm:FnScope NDm ["text"] (ja3 (top 53)):=⟨rfl,rfl,rfl,by decide +kernel,rfl,by decide +kernel,by decide +kernel⟩
theorem ok_dm {f fN fO fI:Addr} {fd dN dO dI:FuncData} (F:Fun K "_law_due" "_law_due" (top 53) f fd) (N:Nm mg) (Nu:Cal K mg P w base "_law_number" 1 ["word"] (spM K fNum) fN dN) (Fo:Cal K mg P w base "_law_fraction_of" 2 ["word"] (spM K fFof) fO dO) (Im:Cal K mg P w base "is_market" 5 ["thing"] (spT isMk) fI dI):FnOk P w K mg base CX0 6 f fd ["text"] (spM K fDuM) :=
 okM F scDm (fun O xs P PX h=>by obtain ⟨_,rfl,_⟩:=h; rfl) (fun cdv A outer s H E QX hr=>⟨mDm,(ja7 (ms_setC (i:=1) scDm.nd rfl rfl (own:=["line"]) (cap:=[]) (ix:=[]) (BlkOk.of (ja3 (top 53)).names NDm) rfl (jf7 (me_spl (ja1 (pv 0)) (ja0 jb6 ja4))) (jc4 (by decide))
 (fun C fp s H=>⟨(jc2 (jb2 (i:=0) (show List.Nodup (["line"]:List Str) by decide +kernel) rfl (Or.inl rfl))),jh0,(me_spl (ja1 (pv 0)) (ja0 jb6 ja4))⟩))
 (ja7 (jf5 (PW.pt (mw_or (jc7 (or_ne hr.units) lk_ne (je6 (je6 (ja1 (pv 1)) ja9) ja9) jb6 (nomark _)) (mw_or1 (jc7 (or_ne hr.units) lk_ne (me_comp (own:=["line"]) (cap:=[]) (ix:=[]) (BlkOk.of (ja3 (top 53)).names NDm) rfl (jf7 (jd3 (ja1 (pv 1)) (jb9 ja9) jc3)) (jc4 (by decide))
 (fun C fp s H=>⟨(jc2 (jb2 (i:=0) (show List.Nodup (["line"]:List Str) by decide +kernel) rfl (Or.inl rfl))),(mf_one (PW.pt (mw_or (jc7 (or_ne hr.units) lk_ne (je6 (ja1 (pv 0)) ja9) jb6 (nomark _)) (mw_or1 (jc7 op_lt lk_lt (je3 cLen0 lk_len (by rfl) N.len PySem.boot_len (ja0 (ja1 (pv 0)) ja4)) ja9 (nomark _)))))),(ja1 (pv 0))⟩)) (jf1 ja4) (nomark _))))) (jb7 (jc5 jh1)) jd8)
 (ja7 (jd5 (i:=2) scDm.nd rfl (Or.inl rfl) (jd0 cTup0 lk_tup (by rfl) N.tuple jc1 (ja0 (me_comp (own:=["word"]) (cap:=[]) (ix:=[]) (BlkOk.of (ja3 (top 53)).names NDm) rfl (jf7 (jd3 (je6 (ja1 (pv 1)) ja9) (jb9 ja9) jc3)) (jc4 (by decide))
 (fun C fp s H=>⟨(jc2 (jb2 (i:=0) (show List.Nodup (["word"]:List Str) by decide +kernel) rfl (Or.inl rfl))),jh0,(jb4 Nu.ok je0 (hr.mono (by decide)) rfl Nu.mg Nu.kp Nu.bd (ja0 (ja1 (pv 0)) ja4))⟩)) ja4)))
 (ja7 (jd5 (i:=3) scDm.nd rfl (Or.inl rfl) (jd0 cTup0 lk_tup (by rfl) N.tuple jc1 (ja0 (me_comp (own:=["line"]) (cap:=[]) (ix:=[]) (BlkOk.of (ja3 (top 53)).names NDm) rfl (jf7 (jd3 (ja1 (pv 1)) (jb9 ja9) jc3)) (jc4 (by decide))
 (fun C fp s H=>⟨(jc2 (jb2 (i:=0) (show List.Nodup (["line"]:List Str) by decide +kernel) rfl (Or.inl rfl))),jh0,(jb4 Fo.ok je0 (hr.mono (by decide)) rfl Fo.mg Fo.kp Fo.bd (ja0 (je6 (ja1 (pv 0)) ja9) ja4))⟩)) ja4)))
 (ja7 (jd5 (i:=4) scDm.nd rfl (Or.inl rfl) (jd0 cTup0 lk_tup (by rfl) N.tuple jc1 (ja0 (me_comp (own:=["line"]) (cap:=[]) (ix:=[]) (BlkOk.of (ja3 (top 53)).names NDm) rfl (jf7 (jd3 (ja1 (pv 1)) (jb9 ja9) jc3)) (jc4 (by decide))
 (fun C fp s H=>⟨(jc2 (jb2 (i:=0) (show List.Nodup (["line"]:List Str) by decide +kernel) rfl (Or.inl rfl))),jh0,(jd0 cTup0 lk_tup (by rfl) N.tuple jc1 (ja0 (me_comp (own:=["word"]) (cap:=[]) (ix:=[]) (BlkOk.of [(".0",.local),("line",.local),("tuple",.globalImplicit)] ["line"]) rfl (jf7 (jd3 (ja1 (pv 0)) (jb9 ja9) jc3)) (jc4 (by decide))
 (fun C fp s H=>⟨(jc2 (jb2 (i:=0) (show List.Nodup (["word"]:List Str) by decide +kernel) rfl (Or.inl rfl))),jh0,(jb4 Nu.ok je0 (hr.mono (by decide)) rfl Nu.mg Nu.kp Nu.bd (ja0 (ja1 (pv 0)) ja4))⟩)) ja4))⟩)) ja4)))
 (ja7 (jd5 (i:=5) scDm.nd rfl (Or.inl rfl) (me_tup (ja0 (ja1 (pv 2)) (ja0 (ja1 (pv 3)) (ja0 (ja1 (pv 4)) ja4)))))
 (ja7 (jf5 (PW.pt (mw_or (jc7 (or_inT hr.units) lk_nInT jh1 (ja1 (pv 3)) (by rfl)) (mw_or1 (mt_not (mt_val (jb4 Im.ok lk_T (hr.mono (by decide)) rfl Im.mg Im.kp Im.bd (ja0 (ja1 (pv 5)) ja4))))))) (jb7 (jc5 jh1)) jd8)
 (jb7 (jc5 (ja1 (pv 5))))))))))),fun O xs Pq h=>rd_dum O xs Pq QX h⟩)
theorem scRd:FnScope NRdM ["text"] (ja3 (top 54)):=⟨rfl,rfl,rfl,by decide +kernel,rfl,by decide +kernel,by decide +kernel⟩
theorem ok_rd {f fR fK M De Bu Dl Go Mk Nn Pr Ro Tx No Un:Addr} {fd dR dK:FuncData} (F:Fun K "_law_read" "_law_read" (top 54) f fd) (R:Clx K mg M De Bu Dl Go Mk Nn Pr Ro Tx No Un) (ET:ErrOf K M De Bu Dl Go Mk Nn Pr Ro Tx No Un Tx 8) (Rm:CalX K mg P w base "read_market" 6 ["text"] (spM K (fRm Tx)) fR dR) (Ki:CalH K mg P w base "_law_kinds" 1 ["e"] (spKinds K M De Bu Dl Go Mk Nn Pr Ro Tx No Un) fK dK):FnOk P w K mg base CX0 7 f fd ["text"] (spM K fRdM) :=
 okM F scRd (fun O xs P PX h=>by obtain ⟨_,rfl,_⟩:=h; rfl) (fun cdv A outer s H E QX hr=>⟨mRdM Tx (Kd K M De Bu Dl Go Mk Nn Pr Ro Tx No Un),(ja7 (jd5 (i:=1) scRd.nd rfl (Or.inl rfl) jb6)
 (ja7 (jd5 (i:=2) scRd.nd rfl (Or.inl rfl) jh1)
 (ja7 (ms_tryC (i:=2) (j:=3) (l:=1) Rm.ok je0 (hr.mono (by decide)) rfl Rm.mg Rm.kp Rm.bd Ki.ok (hr.mono (by decide)) rfl Ki.mg Ki.kp Ki.bd rfl R.mgM R.tyM R.bM rfl rfl scRd.nd rfl rfl rfl rfl rfl rfl (fun E'=>(ja0 (ja1 (pv 0)) ja4)))
 (jb7 (jc5 (jf1 (ja0 (ja1 (pv 1)) (ja0 (ja1 (pv 2)) ja4)))))))),fun O xs Pq h=>rd_rdm Tx _ ⟨8,by decide,ET,by decide +kernel⟩ O xs Pq QX h⟩)
end
end K33
namespace MI
open PySem L2 KG EX KM
structure PSw (X:Cx) (st:Stmt) (t:TS):Prop where
 get:PS X st t
section
variable {K:PySem.W.Frag} {QX:Addr→Sto→Prop} {E:XK} {X:Cx}
theorem ms_lit {n i:Nat} {x:Str} {e:Expr} {d:PyData} {pos pos':Pos} (hN:X.N.Nodup) (hi:X.N[i]?=some x) (hx:Loc X.env.scope x) (hl:lit (fun _=>none) n e=some d) (hs:swapsWith e (some (.Name x pos')) pos.line X.env=pure false:=by rfl) (hf:X.fn x=true ∨ X.env.scope.names.lookup x=some .local:=by first | exact .inl rfl | exact .inr rfl | assumption) :
  PSw X (.Assign [.Name x pos'] e pos) (tsM K QX E (mAsg (mC d) (mgN i))):=⟨jd5 hN hi hx (me_lit n e d hl) hs hf⟩
theorem ms_cc {a st:Stmt} {rest:List Stmt} {M1 M2 M3:MS} (h1:PS X a (tsM K QX E M1)) (h2:PSw X st (tsM K QX E M2)) (h3:PSs X rest (tsM K QX E M3)):PSs X (a :: st :: rest) (tsM K QX E (mSeq M1 (mSeq M2 M3))):=ja7 h1 (ja7 h2.get h3)
end
end MI
namespace K33
open PySem L2 KG EX KM MI TX
section
variable {P:Program} {w:World} {K:PySem.W.Frag} {mg:Str→Option Value} {base:Heap}
theorem scSm:FnScope NSm ["bag","text"] (ja3 (top 55)):=⟨rfl,rfl,rfl,by decide +kernel,rfl,by decide +kernel,by decide +kernel⟩
theorem ok_sm {f fT fV:Addr} {fd dT dV:FuncData} (F:Fun K "_law_spoilt" "_law_spoilt" (top 55) f fd) (N:Nm mg) (T:Cal K mg P w base "_law_take" 1 ["bag","many"] spTake fT dT) (Mv:Cal K mg P w base "_law_moved_about" 2 ["bag","some","new"] (spM K fMovT) fV dV) (MvL:Cal K mg P w base "_law_moved_about" 2 ["bag","some","new"] (spM K fMovL) fV dV):FnOk P w K mg base CX0 3 f fd ["bag","text"] (spM K fSpM) :=
 okM F scSm (fun O xs P PX h=>by obtain ⟨_,_,rfl,_⟩:=h; rfl) (fun cdv A outer s H E QX hr=>⟨mSm,(ja7 (jd5 (i:=2) scSm.nd rfl (Or.inl rfl) jb6)
 (ja7 (jd5 (i:=2) scSm.nd rfl (Or.inl rfl) (mo_cat (ja1 (pv 2)) jb6))
 (ja7 (jd5 (i:=3) scSm.nd rfl (Or.inl rfl) (jb4 T.ok lk_take (hr.mono (by decide)) rfl T.mg T.kp T.bd (ja0 (ja1 (pv 0)) (ja0 ja9 ja4))))
 (ja7 (jf5 (jc7 (or_eq hr.units) lk_eq (ja1 (pv 3)) ja9 (nomark _)) (jb7 (jc5 (jb4 Mv.ok je0 (hr.mono (by decide)) rfl Mv.mg Mv.kp Mv.bd (ja0 (ja1 (pv 0)) (ja0 (ja1 (pv 1)) (ja0 (je6 (jf1 (ja0 (mo_ixs (ja1 (pv 2)) (jb4 T.ok lk_take (hr.mono (by decide)) rfl T.mg T.kp T.bd (ja0 (ja1 (pv 0)) (ja0 (je3 call_len_str lk_lns (by rfl) N.len PySem.boot_len (ja0 (ja1 (pv 2)) ja4)) ja4)))) (ja0 jb6 (ja0 jb6 (ja0 jb6 ja4))))) (jb4 T.ok lk_take (hr.mono (by decide)) rfl T.mg T.kp T.bd (ja0 (ja1 (pv 0)) (ja0 ja9 ja4)))) ja4)))))) jd8)
 (ja7 (jf5 (jc7 (or_eq hr.units) lk_eq (ja1 (pv 3)) ja9 (nomark _)) (ms_cc (jd5 (i:=4) scSm.nd rfl (Or.inl rfl) (me_spl (ja1 (pv 1)) (ja0 jb6 ja4))) (ms_lit (i:=5) (n:=5) (d:=.list [.str "",.str "0",.str "1",.str "61",.str "101",.str "1/2",.str "2/4",.str "amounts",.str "buyer",.str "1000001",.str "1/1000001",.str "\nbuyer"]) scSm.nd rfl (Or.inl rfl) (by kernel_rfl))
 (jb7 (jc5 (me_joi jb6 (ja0 (jb4 MvL.ok je0 (hr.mono (by decide)) rfl MvL.mg MvL.kp MvL.bd (ja0 (ja1 (pv 0)) (ja0 (ja1 (pv 4)) (ja0 (jf1 (ja0 (je6 (ja1 (pv 5)) (jb4 T.ok lk_take (hr.mono (by decide)) rfl T.mg T.kp T.bd (ja0 (ja1 (pv 0)) (ja0 ja9 ja4)))) ja4)) ja4)))) ja4))))) jd8)
 (ja7 (jd5 (i:=6) scSm.nd rfl (Or.inl rfl) (me_spl (ja1 (pv 1)) (ja0 jb6 ja4)))
 (jb7 (jc5 (me_joi jb6 (ja0 (jb4 MvL.ok je0 (hr.mono (by decide)) rfl MvL.mg MvL.kp MvL.bd (ja0 (ja1 (pv 0)) (ja0 (ja1 (pv 6)) (ja0 (jf1 (ja0 (je6 (jf1 (ja0 jb6 (ja0 jb6 (ja0 jb6 (ja0 (je6 (ja1 (pv 6)) (me_neg ja9)) ja4))))) (jb4 T.ok lk_take (hr.mono (by decide)) rfl T.mg T.kp T.bd (ja0 (ja1 (pv 0)) (ja0 ja9 ja4)))) ja4)) ja4)))) ja4)))))))))),fun O xs Pq h=>rd_spm O xs Pq QX h⟩)
theorem scLaw:FnScope NL33 ["script"] (ja3 (top 56)):=⟨rfl,rfl,rfl,by decide +kernel,rfl,by decide +kernel,by decide +kernel⟩
theorem ok_law0 {f fB fM fX fF fR fS fU:Addr} {fd dB dM dX dF dR dS dU:FuncData} (F:Fun K "law" "law" (top 56) f fd) (N:Nm mg) (Bg:Cal K mg P w base "_law_bag" 1 ["script","k"] (spBag K) fB dB) (Mk:Cal K mg P w base "_law_market" 3 ["bag"] spMk fM dM) (Lx:Cal K mg P w base "_law_text" 2 ["market"] (spM K fMt) fX dX) (Mt:Cal K mg P w base "market_text" 2 ["market"] (spM K fMt) fF dF) (Rd:Cal K mg P w base "_law_read" 7 ["text"] (spM K fRdM) fR dR) (Sp:Cal K mg P w base "_law_spoilt" 3 ["bag","text"] (spM K fSpM) fS dS) (Du:Cal K mg P w base "_law_due" 6 ["text"] (spM K fDuM) fU dU):FnOk P w K mg base CX0 8 f fd ["script"] (spM K fLaw) :=
 okM F scLaw (fun O xs P PX h=>by obtain ⟨_,rfl,_⟩:=h; rfl) (fun cdv A outer s H E QX hr=>⟨mLaw33,(ja7 (ms_for PassesOwn.never rfl (mi_range1 rfl N.range (ja0 (jd9 (je3 (call_min2 rfl) lk_min2 (by rfl) N.min boot_min (ja0 (je3 (cLen K) lk_lenS (by rfl) N.len PySem.boot_len (ja0 (ja1 (pv 0)) ja4)) (ja0 ja9 ja4))) ja9) ja4)) (jc2 (jb2 (i:=1) scLaw.nd rfl (Or.inl rfl))) (ja7 (jd5 (i:=2) scLaw.nd rfl (Or.inl rfl) (jb4 Bg.ok lk_bag (hr.mono (by decide)) rfl Bg.mg Bg.kp Bg.bd (ja0 (ja1 (pv 0)) (ja0 (ja1 (pv 1)) ja4))))
 (ja7 (jd5 (i:=3) scLaw.nd rfl (Or.inl rfl) (jb4 Mk.ok lk_mk (hr.mono (by decide)) rfl Mk.mg Mk.kp Mk.bd (ja0 (ja1 (pv 2)) ja4)))
 (ja7 (jd5 (i:=4) scLaw.nd rfl (Or.inl rfl) (jb4 Lx.ok je0 (hr.mono (by decide)) rfl Lx.mg Lx.kp Lx.bd (ja0 (ja1 (pv 3)) ja4)))
 (ja7 (jf5 (PW.pt (mw_or (jc7 (or_ne hr.units) lk_ne (jb4 Mt.ok je0 (hr.mono (by decide)) rfl Mt.mg Mt.kp Mt.bd (ja0 (ja1 (pv 3)) ja4)) (ja1 (pv 4)) (nomark _)) (mw_or1 (jc7 (or_ne hr.units) lk_ne (jb4 Rd.ok je0 (hr.mono (by decide)) rfl Rd.mg Rd.kp Rd.bd (ja0 (ja1 (pv 4)) ja4)) (jf1 (ja0 jb6 (ja0 (ja1 (pv 3)) ja4))) (nomark _))))) (jb7 (jc5 me_bl)) jd8)
 (ja7 (ms_for PassesOwn.never rfl (mi_range1 rfl N.range (ja0 ja9 ja4)) (jc2 (jb2 (i:=5) scLaw.nd rfl (Or.inl rfl))) (ja7 (jd5 (i:=4) scLaw.nd rfl (Or.inl rfl) (jb4 Sp.ok je0 (hr.mono (by decide)) rfl Sp.mg Sp.kp Sp.bd (ja0 (ja1 (pv 2)) (ja0 (ja1 (pv 4)) ja4))))
 (ja7 (jd5 (i:=6) scLaw.nd rfl (Or.inl rfl) (jb4 Du.ok je0 (hr.mono (by decide)) rfl Du.mg Du.kp Du.bd (ja0 (ja1 (pv 4)) ja4)))
 (jb7 (jf5 (jc7 (or_ne hr.units) lk_ne (jb4 Rd.ok je0 (hr.mono (by decide)) rfl Rd.mg Rd.kp Rd.bd (ja0 (ja1 (pv 4)) ja4)) (je6 (jf1 (ja0 (jf1 (ja0 jb6 (ja0 (ja1 (pv 6)) ja4))) (ja0 (jf1 (ja0 jb6 (ja0 jh1 ja4))) ja4))) (jd0 call_int1 lk_intF (by rfl) N.int boot_int (ja0 (me_cmp op_isN lk_isN (ja1 (pv 6)) jh1 (nomark _)) ja4))) (nomark _)) (jb7 (jc5 me_bl)) jd8)))))
 (jb7 (ms_for PassesOwn.never rfl (jf7 (jf1 (ja0 jh1 (ja0 ja9 (ja0 (ja1 (pv 3)) (ja0 jb6 (ja0 (jf1 (ja0 (ja1 (pv 4)) ja4)) ja4))))))) (jc2 (jb2 (i:=7) scLaw.nd rfl (Or.inl rfl))) (jb7 (jf5 (jc7 (or_ne hr.units) lk_ne (jb4 Rd.ok je0 (hr.mono (by decide)) rfl Rd.mg Rd.kp Rd.bd (ja0 (ja1 (pv 7)) ja4)) (jf1 (ja0 jb6 (ja0 jh1 ja4))) (nomark _)) (jb7 (jc5 me_bl)) jd8))))))))))
 (jb7 (jc5 me_bl))),fun O xs Pq h=>rd_law33 O xs Pq QX h⟩)
end
end K33
namespace MI
open PySem L2 KG EX KM
def FnA (K:PySem.W.Frag) (nm:Str) (st:Stmt) (f:Addr):Prop:=∃ (oc:Value) (od:Option Addr) (kV dc pm:Value) (an:Option Addr) (cd ct:Value) (sl:Array (Option Value)),PySem.W.nsIn K mainGlobals nm=some (some (.ref f))∧K.lookup f=some ⟨oc,od,.func (PySem.W.fnOf nm nm (jf3 st) (je2 st) (ja3 st) .none kV dc pm an cd ct),sl⟩∧PySem.W.codeIn K cd nm=true∧PySem.W.keepIn K (.ref f)=true
theorem el1 {P:List Value→Prop} (h:∀ a,P [a]):∀ us:List Value,us.length=1→P us
 | [a],_=>h a
theorem el2 {P:List Value→Prop} (h:∀ a b,P [a,b]):∀ us:List Value,us.length=2→P us
 | [a,b],_=>h a b
theorem el3 {P:List Value→Prop} (h:∀ a b c,P [a,b,c]):∀ us:List Value,us.length=3→P us
 | [a,b,c],_=>h a b c
structure Fg (K:PySem.W.Frag) (mg:Str→Option Value) (nm:Str) (ps:List Str) (st:Stmt) (f:Addr) (fd:FuncData):Prop where
 F:Fun K nm nm st f fd
 mg:mg nm=some (.ref f)
 kp:PySem.W.keepIn K (.ref f)=true
 bd:Binds K fd ps []
section
variable {K:PySem.W.Frag} {hh:Heap} {mg:Str→Option Value} {nm:Str} {ps:List Str} {st:Stmt} {f:Addr} {fd:FuncData} {k:Nat} {sp:Sp}
theorem Fg.c (a:Fg K mg nm ps st f fd) (l:PySem.W.OpenLaw) (w:World) (base:Heap) (o:FnOk l.prog w K mg base CX0 k f fd ps sp):Cal K mg l.prog w base nm k ps sp f fd:=⟨o,a.mg,a.kp,a.bd⟩
theorem Fg.x (a:Fg K mg nm ps st f fd) (l:PySem.W.OpenLaw) (w:World) (base:Heap) (o:FnOk l.prog w K mg base (CXF l.prog w) k f fd ps sp):CalX K mg l.prog w base nm k ps sp f fd:=⟨o,a.mg,a.kp,a.bd⟩
theorem Fg.h {sp:Addr→Addr→Sp} (a:Fg K mg nm ps st f fd) (l:PySem.W.OpenLaw) (w:World) (base:Heap) (o:FnH l.prog w K mg base k f fd ps sp):CalH K mg l.prog w base nm k ps sp f fd:=⟨o,a.mg,a.kp,a.bd⟩
theorem Fg.of (X:K.In hh) (G:hh.Ns mainGlobals mg) (a:FnA K nm st f) (hb:∀ (kV doc pm:Value) (an:Option Addr) (cdv ct:Value) (us:List Value),us.length=ps.length→bindArgs (PySem.W.fnOf nm nm (jf3 st) (je2 st) (ja3 st) .none kV doc pm an cdv ct) ⟨us,[]⟩=pure (ps.zip us)):∃ fd,Fg K mg nm ps st f fd:=by
 obtain ⟨_,_,_,_,_,_,_,_,_,a,l,c,k⟩:=a
 exact ⟨_,fun_mk l c k,PySem.W.mg_of X G a,k,(fun_mk l c k).binds hb⟩
theorem fg1 (ps:List Str) (X:K.In hh) (G:hh.Ns mainGlobals mg) (a:FnA K nm st f) (hb:∀ (kV doc pm:Value) (an:Option Addr) (cdv ct a:Value),bindArgs (PySem.W.fnOf nm nm (jf3 st) (je2 st) (ja3 st) .none kV doc pm an cdv ct) ⟨[a],[]⟩=pure (ps.zip [a]):=by intros; rfl) (hl:ps.length=1:=by rfl):∃ fd,Fg K mg nm ps st f fd:=Fg.of X G a fun kV doc pm an cdv ct us hu=>el1 (P:=fun us=>bindArgs (PySem.W.fnOf nm nm (jf3 st) (je2 st) (ja3 st) .none kV doc pm an cdv ct) ⟨us,[]⟩=pure (ps.zip us)) (hb kV doc pm an cdv ct) us (hu.trans hl)
theorem fg2 (ps:List Str) (X:K.In hh) (G:hh.Ns mainGlobals mg) (a:FnA K nm st f) (hb:∀ (kV doc pm:Value) (an:Option Addr) (cdv ct a b:Value),bindArgs (PySem.W.fnOf nm nm (jf3 st) (je2 st) (ja3 st) .none kV doc pm an cdv ct) ⟨[a,b],[]⟩=pure (ps.zip [a,b]):=by intros; rfl) (hl:ps.length=2:=by rfl):∃ fd,Fg K mg nm ps st f fd:=Fg.of X G a fun kV doc pm an cdv ct us hu=>el2 (P:=fun us=>bindArgs (PySem.W.fnOf nm nm (jf3 st) (je2 st) (ja3 st) .none kV doc pm an cdv ct) ⟨us,[]⟩=pure (ps.zip us)) (hb kV doc pm an cdv ct) us (hu.trans hl)
theorem fg3 (ps:List Str) (X:K.In hh) (G:hh.Ns mainGlobals mg) (a:FnA K nm st f) (hb:∀ (kV doc pm:Value) (an:Option Addr) (cdv ct a b c:Value),bindArgs (PySem.W.fnOf nm nm (jf3 st) (je2 st) (ja3 st) .none kV doc pm an cdv ct) ⟨[a,b,c],[]⟩=pure (ps.zip [a,b,c]):=by intros; rfl) (hl:ps.length=3:=by rfl):∃ fd,Fg K mg nm ps st f fd:=Fg.of X G a fun kV doc pm an cdv ct us hu=>el3 (P:=fun us=>bindArgs (PySem.W.fnOf nm nm (jf3 st) (je2 st) (ja3 st) .none kV doc pm an cdv ct) ⟨us,[]⟩=pure (ps.zip us)) (hb kV doc pm an cdv ct) us (hu.trans hl)
end
end MI
namespace K33
open PySem L2 KG EX KM MI
theorem all_mk {l:PySem.W.OpenLaw} {w:World} {K:PySem.W.Frag} {h:Heap} {mg:Str→Option Value} {fa:Addr} (X:K.In h) (G:h.Ns mainGlobals mg) (hfa:mg "law"=some (.ref fa))
  {f0 f1 f2 f3 f4 f5 f6 f7 f8 f9 f10 f11 f12 f13 f14 f15 f16 f17 f18 f19 f20 f21 f22 f23 f24 f25 f26 f27 f28 f29 f30 f31 f32 f33 f34 M Nn Mk Pr De Un Bu Go No Dl Tx Ro:Addr} {tk0:Tok} {tk1:Tok} {tk2:Tok} {tk3:Tok} {tk4:Tok}
  (a0:FnA K "is_whole" (top 14) f0)
  (a1:FnA K "is_fraction" (top 15) f1)
  (a2:FnA K "common_divisor" (top 16) f2)
  (a3:FnA K "is_market" (top 23) f3)
  (a4:FnA K "are_amounts" (top 24) f4)
  (a5:FnA K "are_purses" (top 25) f5)
  (a6:FnA K "are_wishes" (top 26) f6)
  (a7:FnA K "is_wish_row" (top 27) f7)
  (a8:FnA K "is_amount" (top 28) f8)
  (a9:FnA K "is_purse" (top 29) f9)
  (a10:FnA K "is_wish" (top 30) f10)
  (a11:FnA K "fraction_text" (top 32) f11)
  (a12:FnA K "market_text" (top 33) f12)
  (a13:FnA K "numbers_text" (top 34) f13)
  (a14:FnA K "need_text" (top 35) f14)
  (a15:FnA K "read_number" (top 36) f15)
  (a16:FnA K "read_numbers" (top 37) f16)
  (a17:FnA K "read_fraction" (top 38) f17)
  (a18:FnA K "read_market" (top 39) f18)
  (a19:FnA K "_law_bag" (top 41) f19)
  (a20:FnA K "_law_take" (top 42) f20)
  (a21:FnA K "_law_frac" (top 43) f21)
  (a22:FnA K "_law_purse" (top 44) f22)
  (a23:FnA K "_law_wishes" (top 45) f23)
  (a24:FnA K "_law_market" (top 46) f24)
  (a25:FnA K "_law_kinds" (top 47) f25)
  (a26:FnA K "_law_fraction_text" (top 48) f26)
  (a27:FnA K "_law_text" (top 49) f27)
  (a28:FnA K "_law_number" (top 50) f28)
  (a29:FnA K "_law_fraction_of" (top 51) f29)
  (a30:FnA K "_law_moved_about" (top 52) f30)
  (a31:FnA K "_law_due" (top 53) f31)
  (a32:FnA K "_law_read" (top 54) f32)
  (a33:FnA K "_law_spoilt" (top 55) f33)
  (a34:FnA K "law" (top 56) f34)
  (z0:PySem.W.nsIn K mainGlobals "len"=some none)
  (z1:PySem.W.nsIn K mainGlobals "range"=some none)
  (z2:PySem.W.nsIn K mainGlobals "tuple"=some none)
  (z3:PySem.W.nsIn K mainGlobals "list"=some none)
  (z4:PySem.W.nsIn K mainGlobals "all"=some none)
  (z5:PySem.W.nsIn K mainGlobals "any"=some none)
  (z6:PySem.W.nsIn K mainGlobals "max"=some none)
  (z7:PySem.W.nsIn K mainGlobals "min"=some none)
  (z8:PySem.W.nsIn K mainGlobals "sum"=some none)
  (z9:PySem.W.nsIn K mainGlobals "abs"=some none)
  (z10:PySem.W.nsIn K mainGlobals "int"=some none)
  (z11:PySem.W.nsIn K mainGlobals "isinstance"=some none)
  (z12:PySem.W.nsIn K mainGlobals "bool"=some none)
  (z13:PySem.W.nsIn K mainGlobals "enumerate"=some none)
  (z14:PySem.W.nsIn K mainGlobals "ValueError"=some none)
  (ystr:PySem.W.nsIn K mainGlobals "str"=some none)
  (yzip:PySem.W.nsIn K mainGlobals "zip"=some none)
  (nMOST_GOODS:PySem.W.nsIn K mainGlobals "MOST_GOODS"=some (some (.int 6 tk0)))
  (nMOST_BUYERS:PySem.W.nsIn K mainGlobals "MOST_BUYERS"=some (some (.int 6 tk1)))
  (nMOST_PIECES:PySem.W.nsIn K mainGlobals "MOST_PIECES"=some (some (.int 60 tk2)))
  (nMOST_WISH:PySem.W.nsIn K mainGlobals "MOST_WISH"=some (some (.int 100 tk3)))
  (nMOST_IN_PURSE:PySem.W.nsIn K mainGlobals "MOST_IN_PURSE"=some (some (.int 1000000 tk4)))
  (gM:PySem.W.nsIn K mainGlobals "MartError"=some (some (.ref M)))
  (gNn:PySem.W.nsIn K mainGlobals "NoNumber"=some (some (.ref Nn)))
  (gMk:PySem.W.nsIn K mainGlobals "NoMarket"=some (some (.ref Mk)))
  (gPr:PySem.W.nsIn K mainGlobals "NoPrices"=some (some (.ref Pr)))
  (gDe:PySem.W.nsIn K mainGlobals "Dear"=some (some (.ref De)))
  (gUn:PySem.W.nsIn K mainGlobals "Unwished"=some (some (.ref Un)))
  (gBu:PySem.W.nsIn K mainGlobals "NoBuyer"=some (some (.ref Bu)))
  (gGo:PySem.W.nsIn K mainGlobals "NoGood"=some (some (.ref Go)))
  (gNo:PySem.W.nsIn K mainGlobals "Nothing"=some (some (.ref No)))
  (gDl:PySem.W.nsIn K mainGlobals "NoDealing"=some (some (.ref Dl)))
  (gTx:PySem.W.nsIn K mainGlobals "NoText"=some (some (.ref Tx)))
  (gRo:PySem.W.nsIn K mainGlobals "NoRow"=some (some (.ref Ro)))
  (ti1:PySem.W.kitOne K (.type "NoneType") (.type "int")=some false)
  (ti2:PySem.W.kitOne K (.type "bool") (.type "int")=some true)
  (ti3:PySem.W.kitOne K (.type "int") (.type "int")=some true)
  (ti4:PySem.W.kitOne K (.type "str") (.type "int")=some false)
  (ti5:PySem.W.kitOne K (.type "list") (.type "int")=some false)
  (ti6:PySem.W.kitOne K (.type "tuple") (.type "int")=some false)
  (tb1:PySem.W.kitOne K (.type "NoneType") (.type "bool")=some false)
  (tb2:PySem.W.kitOne K (.type "bool") (.type "bool")=some true)
  (tb3:PySem.W.kitOne K (.type "int") (.type "bool")=some false)
  (tb4:PySem.W.kitOne K (.type "str") (.type "bool")=some false)
  (tb5:PySem.W.kitOne K (.type "list") (.type "bool")=some false)
  (tb6:PySem.W.kitOne K (.type "tuple") (.type "bool")=some false)
  (tt1:PySem.W.kitOne K (.type "NoneType") (.type "tuple")=some false)
  (tt2:PySem.W.kitOne K (.type "bool") (.type "tuple")=some false)
  (tt3:PySem.W.kitOne K (.type "int") (.type "tuple")=some false)
  (tt4:PySem.W.kitOne K (.type "str") (.type "tuple")=some false)
  (tt5:PySem.W.kitOne K (.type "list") (.type "tuple")=some false)
  (tt6:PySem.W.kitOne K (.type "tuple") (.type "tuple")=some true)
  (ks1:PySem.W.kitOne K (.type "NoneType") (.type "str")=some false)
  (ks2:PySem.W.kitOne K (.type "bool") (.type "str")=some false)
  (ks3:PySem.W.kitOne K (.type "int") (.type "str")=some false)
  (ks4:PySem.W.kitOne K (.type "str") (.type "str")=some true)
  (ks5:PySem.W.kitOne K (.type "list") (.type "str")=some false)
  (ks6:PySem.W.kitOne K (.type "tuple") (.type "str")=some false)
  (eXTx:PySem.W.excIn K Tx [.type "ValueError",.type "Exception",.type "BaseException",.type "object"] "ValueError.__new__"=true)
  (eT:PySem.W.typeIn K (.ref M)=some (.type "type")) (eB:PySem.W.mroIn K M (.type "BaseException")=some true)
  (e4:PySem.W.specialIn K (.builtin "object.__class__") "__get__"=some (some (.builtin "getset_descriptor.__get__"))) (e5:PySem.W.takesIn K (.builtin "object.__class__")=some true)
  (qTxDe:PySem.W.kitOne K (.ref Tx) (.ref De)=some false)
  (qTxBu:PySem.W.kitOne K (.ref Tx) (.ref Bu)=some false)
  (qTxDl:PySem.W.kitOne K (.ref Tx) (.ref Dl)=some false)
  (qTxGo:PySem.W.kitOne K (.ref Tx) (.ref Go)=some false)
  (qTxMk:PySem.W.kitOne K (.ref Tx) (.ref Mk)=some false)
  (qTxNn:PySem.W.kitOne K (.ref Tx) (.ref Nn)=some false)
  (qTxPr:PySem.W.kitOne K (.ref Tx) (.ref Pr)=some false)
  (qTxRo:PySem.W.kitOne K (.ref Tx) (.ref Ro)=some false)
  (qTxTx:PySem.W.kitOne K (.ref Tx) (.ref Tx)=some true)
  (qTxNo:PySem.W.kitOne K (.ref Tx) (.ref No)=some false)
  (qTxUn:PySem.W.kitOne K (.ref Tx) (.ref Un)=some false)
  (qTxVa:PySem.W.kitOne K (.ref Tx) (.type "ValueError")=some true)
  (sTx:PySem.W.mroIn K Tx (.ref M)=some true) (uTx1:PySem.W.findIn K (.ref Tx) "__getattribute__"=some (some (.builtin "BaseException.__getattribute__"))) (uTx2:PySem.W.findIn K (.ref Tx) "__getattr__"=some none) (uTx3:PySem.W.findIn K (.ref Tx) "__class__"=some (some (.builtin "object.__class__"))) (uTx6:PySem.W.mroIn K Tx (.type "object")=some true) (uTx7:PySem.W.mroIn K Tx (.type "BaseException")=some true) :
  ∃ fd:FuncData,(∀ (s:Shared) (v:Value),BindsTo s fd ⟨[v],[]⟩ [("script",v)])∧∀ base:Heap,K.In base→base.Ns mainGlobals mg→FnOk l.prog w K mg base CX0 8 fa fd ["script"] (spLaw K):=by
 obtain ⟨_,F0⟩:=fg1 ["thing"] X G a0
 obtain ⟨_,F1⟩:=fg1 ["thing"] X G a1
 obtain ⟨_,F2⟩:=fg2 ["one","other"] X G a2
 obtain ⟨_,F3⟩:=fg1 ["thing"] X G a3
 obtain ⟨_,F4⟩:=fg1 ["thing"] X G a4
 obtain ⟨_,F5⟩:=fg1 ["thing"] X G a5
 obtain ⟨_,F6⟩:=fg3 ["thing","buyers","goods"] X G a6
 obtain ⟨_,F7⟩:=fg2 ["thing","goods"] X G a7
 obtain ⟨_,F8⟩:=fg1 ["thing"] X G a8
 obtain ⟨_,F9⟩:=fg1 ["thing"] X G a9
 obtain ⟨_,F10⟩:=fg1 ["thing"] X G a10
 obtain ⟨_,F11⟩:=fg1 ["number"] X G a11
 obtain ⟨_,F12⟩:=fg1 ["market"] X G a12
 obtain ⟨_,F13⟩:=fg2 ["words","numbers"] X G a13
 obtain ⟨_,F14⟩:=fg1 ["thing"] X G a14
 obtain ⟨_,F15⟩:=fg1 ["word"] X G a15
 obtain ⟨_,F16⟩:=fg1 ["words"] X G a16
 obtain ⟨_,F17⟩:=fg1 ["text"] X G a17
 obtain ⟨_,F18⟩:=fg1 ["text"] X G a18
 obtain ⟨_,F19⟩:=fg2 ["script","k"] X G a19
 obtain ⟨_,F20⟩:=fg2 ["bag","many"] X G a20
 obtain ⟨_,F21⟩:=fg2 ["top","bottom"] X G a21
 obtain ⟨_,F22⟩:=fg1 ["bag"] X G a22
 obtain ⟨_,F23⟩:=fg2 ["bag","goods"] X G a23
 obtain ⟨_,F24⟩:=fg1 ["bag"] X G a24
 obtain ⟨_,F25⟩:=fg1 ["e"] X G a25
 obtain ⟨_,F26⟩:=fg1 ["one"] X G a26
 obtain ⟨_,F27⟩:=fg1 ["market"] X G a27
 obtain ⟨_,F28⟩:=fg1 ["word"] X G a28
 obtain ⟨_,F29⟩:=fg1 ["word"] X G a29
 obtain ⟨_,F30⟩:=fg3 ["bag","some","new"] X G a30
 obtain ⟨_,F31⟩:=fg1 ["text"] X G a31
 obtain ⟨_,F32⟩:=fg1 ["text"] X G a32
 obtain ⟨_,F33⟩:=fg2 ["bag","text"] X G a33
 obtain ⟨oc34,od34,kV34,dc34,pm34,an34,cd34,ct34,sl34,a34,l34,c34,k34⟩:=a34
 have e:=hfa.symm.trans (PySem.W.mg_of X G a34)
 cases e
 have N:Nm mg:=⟨PySem.W.mg_none_of X G z0,PySem.W.mg_none_of X G z1,PySem.W.mg_none_of X G z2,PySem.W.mg_none_of X G z3,PySem.W.mg_none_of X G z4,PySem.W.mg_none_of X G z5,PySem.W.mg_none_of X G z6,PySem.W.mg_none_of X G z7,PySem.W.mg_none_of X G z8,PySem.W.mg_none_of X G z9,PySem.W.mg_none_of X G z10,PySem.W.mg_none_of X G z11,PySem.W.mg_none_of X G z12,PySem.W.mg_none_of X G z13,PySem.W.mg_none_of X G z14⟩
 have mStr:=PySem.W.mg_none_of X G ystr
 have mZip:=PySem.W.mg_none_of X G yzip
 have Z:IsK K:=⟨ti1,ti2,ti3,ti4,ti5,ti6,tb1,tb2,tb3,tb4,tb5,tb6,tt1,tt2,tt3,tt4,tt5,tt6⟩
 have mMOST_GOODS:=PySem.W.mg_of X G nMOST_GOODS
 have mMOST_BUYERS:=PySem.W.mg_of X G nMOST_BUYERS
 have mMOST_PIECES:=PySem.W.mg_of X G nMOST_PIECES
 have mMOST_WISH:=PySem.W.mg_of X G nMOST_WISH
 have mMOST_IN_PURSE:=PySem.W.mg_of X G nMOST_IN_PURSE
 have mgM:=PySem.W.mg_of X G gM
 have mgNn:=PySem.W.mg_of X G gNn
 have mgMk:=PySem.W.mg_of X G gMk
 have mgPr:=PySem.W.mg_of X G gPr
 have mgDe:=PySem.W.mg_of X G gDe
 have mgUn:=PySem.W.mg_of X G gUn
 have mgBu:=PySem.W.mg_of X G gBu
 have mgGo:=PySem.W.mg_of X G gGo
 have mgNo:=PySem.W.mg_of X G gNo
 have mgDl:=PySem.W.mg_of X G gDl
 have mgTx:=PySem.W.mg_of X G gTx
 have mgRo:=PySem.W.mg_of X G gRo
 have R:Clx K mg M De Bu Dl Go Mk Nn Pr Ro Tx No Un:=⟨mgM,mgDe,mgBu,mgDl,mgGo,mgMk,mgNn,mgPr,mgRo,mgTx,mgNo,mgUn,eT,eB⟩
 have ETx:ErrOf K M De Bu Dl Go Mk Nn Pr Ro Tx No Un Tx 8:=⟨qTxDe,qTxBu,qTxDl,qTxGo,qTxMk,qTxNn,qTxPr,qTxRo,qTxTx,qTxNo,qTxUn,qTxVa,eXTx,sTx,⟨uTx1,uTx2,uTx3,e4,e5,uTx6,uTx7⟩⟩
 have F34:=fun_mk (st:=top 56) l34 c34 k34
 refine ⟨PySem.W.fnOf "law" "law" (jf3 (top 56)) (je2 (top 56)) (ja3 (top 56)) .none kV34 dc34 pm34 an34 cd34 ct34,fun s v=>.of_eq rfl,fun base _ _=>?_⟩
 have W:=F0.c l w base (ok_whole F0.F N Z)
 have Gc:=F2.c l w base (ok_gcd F2.F N)
 have IF:=F1.c l w base (ok_isfrac F1.F N Z W Gc)
 have Iam:=F8.c l w base (ok_amount F8.F N mMOST_PIECES W)
 have Iwi:=F10.c l w base (ok_wish F10.F N mMOST_WISH W)
 have Ipu:=F9.c l w base (ok_ispurse F9.F N mMOST_IN_PURSE IF)
 have Iwr:=F7.c l w base (ok_wishrow F7.F N Z Iwi)
 have Iaa:=F4.c l w base (ok_amounts F4.F N mMOST_GOODS Z Iam)
 have Iap:=F5.c l w base (ok_purses F5.F N mMOST_BUYERS Z Ipu)
 have Iaw:=F6.c l w base (ok_arewishes F6.F N Z Iwr)
 have IM:=F3.c l w base (ok_ismarket F3.F N Z Iaa Iap Iaw)
 have Ft:=F11.c l w base (ok_ft F11.F N)
 have NeT:=F14.x l w base (ok_net F14.F N ⟨ks1,ks2,ks3,ks4,ks5,ks6⟩ mStr mgTx eXTx)
 have Nt:=F13.c l w base (ok_nt F13.F N mStr)
 have Mt:=F12.c l w base (ok_mt F12.F N mZip Ft Nt)
 have Rn:=F15.x l w base (ok_rn F15.F N mgTx eXTx)
 have Rs:=F16.x l w base (ok_rns F16.F N Rn)
 have Rf:=F17.x l w base (ok_rf F17.F N mgTx eXTx NeT Rs IF)
 have Rm:=F18.x l w base (ok_rm F18.F N mgTx eXTx NeT Rs Rf IM)
 have Bg:=F19.c l w base (ok_bag F19.F N)
 have T:=F20.c l w base (ok_take F20.F)
 have Lf:=F21.c l w base (ok_frac F21.F N)
 have LfQ:=F21.c l w base (ok_lf F21.F N)
 have Lu:=F22.c l w base (ok_lpurse F22.F T Lf)
 have Lw:=F23.c l w base (ok_wishes F23.F N T)
 have MkL:=F24.c l w base (ok_market F24.F N T Lu Lw)
 have Lt:=F26.c l w base (ok_lt F26.F N mStr)
 have Lx:=F27.c l w base (ok_lx F27.F N mStr Lt)
 have Nu:=F28.c l w base (ok_nu F28.F N)
 have Fo:=F29.c l w base (ok_fo F29.F N Nu LfQ)
 have Mv:=F30.c l w base (ok_mvT F30.F N T)
 have MvL:=F30.c l w base (ok_mvL F30.F N T)
 have Du:=F31.c l w base (ok_dm F31.F N Nu Fo IM)
 have Ki:=F25.h l w base (ok_kinds F25.F N R)
 have Rd:=F32.c l w base (ok_rd F32.F R ETx Rm Ki)
 have Spo:=F33.c l w base (ok_sm F33.F N T Mv MvL)
 exact law_of (ok_law0 F34 N Bg MkL Lx Mt Rd Spo Du)
theorem walk {l:PySem.W.OpenLaw} {q:Program} {loose:List Str} {XP:(Str→Option Value)→Heap→Prop} {YP:World→Heap→Prop} {d:DefRec} {K:Params→PySem.W.Frag} (hn:l.most=some 63) (hdf:d.params.defaults=[])
  (hY:∀ (w:World) (h:Heap),YP w h→(K w.params).In h)
  (F:∀ (w:World) (mg:Str→Option Value) (fa:Addr) (h:Heap),(K w.params).In h→h.Ns mainGlobals mg→mg d.name=some (.ref fa) →
   ∃ fd:FuncData,(∀ (s:Shared) (u:Value),BindsTo s fd ⟨[u],[]⟩ [("script",u)])∧∀ base:Heap,(K w.params).In base→base.Ns mainGlobals mg→FnOk l.prog w (K w.params) mg base CX0 8 fa fd ["script"] (spLaw (K w.params))) :
  PySem.W.WalkO q loose XP YP l.row.toRowW d [] (fun f vs=>PySem.call f vs) :=
 L2.walk_of (n:=63) (k:=8) (x:="script") (CX:=fun _=>CX0) (sp:=fun w=>spLaw (K w.params)) hn (by decide) hdf ⟨rfl,by decide,by decide⟩ hY F (fun _ _ a ns hl _ hS=>⟨a,ns,rfl,hS,hl,fun _=>rfl⟩) fun _ _ _ _ _ z=>z
end K33
open PySem PySem.W PyProof.Rows
def PySem.W.Fast.tw9838129081858819534:Nat:=0
def PySem.W.Fast.tw4644074633399872114:Nat:=0
def PySem.W.Fast.tw12642646462302079835:Nat:=0
def PySem.W.Fast.tw14054791411710085308:Nat:=0
def PySem.W.Fast.tw8543266614323637687:Nat:=0
def PySem.W.Fast.tw15992463190068799621:Nat:=0
def PySem.W.Fast.tw17428916493811816832:Nat:=0
def PySem.W.Fast.tw10679099996231046750:Nat:=0
def PySem.W.Fast.tw47162997762650312:Nat:=0
def PySem.W.Fast.tw4272398060583474598:Nat:=0
def PySem.W.Fast.tw4266109185948557954:Nat:=0
def PySem.W.Fast.tw9567427095354327960:Nat:=0
def PySem.W.Fast.tw670020628152414498:Nat:=0
def PySem.W.Fast.tw2006674394480858985:Nat:=0
def PySem.W.Fast.tw6808130185751786031:Nat:=0
def PySem.W.Fast.tw10473198672217549000:Nat:=0
def PySem.W.Fast.tw8483198553498511026:Nat:=0
def PySem.W.Fast.tw3151814094313809468:Nat:=0
def PySem.W.Fast.tw14296396100269890700:Nat:=0
def PySem.W.Fast.tw5061119591564876580:Nat:=0
def PySem.W.Fast.tw10676108514673120955:Nat:=0
def PySem.W.Fast.tw15066514026369112722:Nat:=0
def PySem.W.Fast.tw13212865619583894301:Nat:=0
def PySem.W.Fast.tw17867611943343099366:Nat:=0
def PySem.W.Fast.tw4122815090350431310:Nat:=0
def PySem.W.Fast.tw13946966527120199233:Nat:=0
def PySem.W.Fast.tw9993449796125932435:Nat:=0
def PySem.W.Fast.tw11265941674359226838:Nat:=0
def PySem.W.Fast.tw3109623588932786496:Nat:=0
def PySem.W.Fast.tw518875314936792050:Nat:=0
def PySem.W.Fast.tw14773229858648079601:Nat:=0
def PySem.W.Fast.tw9641476923359101098:Nat:=0
def PySem.W.Fast.tw6509234513589323729:Nat:=0
def PySem.W.Fast.tw16941599522032888092:Nat:=0
def PySem.W.Fast.tw7571032973029366682:Nat:=0
def PySem.W.Fast.tw15616843785107828195:Nat:=0
def PySem.W.Fast.tw13335688455208849659:Nat:=0
def PySem.W.Fast.tw13756248281353861935:Nat:=0
def PySem.W.Fast.tw5335953259989089488:Nat:=0
def PySem.W.Fast.tw1837871185962115161:Nat:=0
def PySem.W.Fast.tw4711458372547126369:Nat:=0
def PySem.W.Fast.tw14563449011921053114:Nat:=0
def PySem.W.Fast.tw4006157012853774957:Nat:=0
def PySem.W.Fast.tw10868481769764920170:Nat:=0
def PySem.W.Fast.tw8757770803180374215:Nat:=0
def PySem.W.Fast.tw5006308020455960767:Nat:=0
def PySem.W.Fast.tw6708888056630635801:Nat:=0
def PySem.W.Fast.tw185548690061358811:Nat:=0
def PySem.W.Fast.tw1073920227111895983:Nat:=0
def PySem.W.Fast.tw6733105759599252385:Nat:=0
def PySem.W.Fast.tw10133116733562495294:Nat:=0
def PySem.W.Fast.tw16593252464281646597:Nat:=0
def PySem.W.Fast.tw9654679569940290390:Nat:=0
def PySem.W.Fast.tw14059876411340378848:Nat:=0
def PySem.W.Fast.tw4460209229264190034:Nat:=0
def PySem.W.Fast.tw7504974442913539370:Nat:=0
def PySem.W.Fast.tw474718617435952156:Nat:=0
def PySem.W.Fast.tw2105749522666078533:Nat:=0
def PySem.W.Fast.tw3754077474196249640:Nat:=0
def PySem.W.Fast.tw17264330556644565301:Nat:=0
def PySem.W.Fast.tw9479857677377103128:Nat:=0
def PySem.W.Fast.tw8106406096251906173:Nat:=0
def PySem.W.Fast.tw16111893127721893184:Nat:=0
def PySem.W.Fast.tw18110312626814821870:Nat:=0
def PySem.W.Fast.tw14981969325943762305:Nat:=0
def PySem.W.Fast.tw4358197992856981582:Nat:=0
def PySem.W.Fast.tw12986070369875524527:Nat:=0
def PySem.W.Fast.tw2548174055444718567:Nat:=0
def PySem.W.Fast.tw10167453867734336308:Nat:=0
def PySem.W.Fast.tw3123834690233269447:Nat:=0
def PySem.W.Fast.tw8585168355222376405:Nat:=0
def PySem.W.Fast.tw10775783970937429506:Nat:=0
def PySem.W.Fast.tw15207753967066386000:Nat:=0
def PySem.W.Fast.tw5416810574390866407:Nat:=0
def PySem.W.Fast.tw2232756003603595397:Nat:=0
def PySem.W.Fast.tw3630044025148090277:Nat:=0
def PySem.W.Fast.tw13143649614983955371:Nat:=0
def PySem.W.Fast.tw1434120921832038329:Nat:=0
def PySem.W.Fast.tw9571041761394746779:Nat:=0
def PySem.W.Fast.tw17784757456698757855:Nat:=0
def PySem.W.Fast.tw5491324970253785596:Nat:=0
def PySem.W.Fast.tw9237120447136050103:Nat:=0
def PySem.W.Fast.tw13653097218779129793:Nat:=0
def PySem.W.Fast.tw5087870997034719844:Nat:=0
def PySem.W.Fast.tw13279427422227805313:Nat:=0
def PySem.W.Fast.tw3035140249169136961:Nat:=0
def PySem.W.Fast.tw16063614593906568745:Nat:=0
def PySem.W.Fast.tw12281057093130751577:Nat:=0
def PySem.W.Fast.tw18353244053953809814:Nat:=0
def PySem.W.Fast.tw12040942936291088739:Nat:=0
def PySem.W.Fast.tw18144325037470573286:Nat:=0
def PySem.W.Fast.tw12832077255908427952:Nat:=0
def PySem.W.Fast.tw792643666637623706:Nat:=0
def PySem.W.Fast.tw6371663535108864460:Nat:=0
def PySem.W.Fast.tw12146710761229034429:Nat:=0
def PySem.W.Fast.tw8910238570957997211:Nat:=0
def PySem.W.Fast.tw12389740387530300856:Nat:=0
def PySem.W.Fast.tw8277834535373452877:Nat:=0
def PySem.W.Fast.tw1963655139866765622:Nat:=0
def PySem.W.Fast.tw1024432469555778772:Nat:=0
def PySem.W.Fast.tw6610371119637418486:Nat:=0
def PySem.W.Fast.tw2070997767704251681:Nat:=0
def PySem.W.Fast.tw12380594438344625142:Nat:=0
def PySem.W.Fast.tw15144161577475385616:Nat:=0
def PySem.W.Fast.tw9963237176088637597:Nat:=0
def PySem.W.Fast.tw3691755136547928813:Nat:=0
def PySem.W.Fast.tw4413623304618053505:Nat:=0
def PySem.W.Fast.tw14184622266766705424:Nat:=0
def PySem.W.Fast.tw15185243065232146975:Nat:=0
def PySem.W.Fast.tw9404479885777107729:Nat:=0
def PySem.W.Fast.tw3001267966016625290:Nat:=0
def PySem.W.Fast.tw7705043733000738374:Nat:=0
def PySem.W.Fast.tw1808091173985612325:Nat:=0
def PySem.W.Fast.tw7406612202211417141:Nat:=0
def PySem.W.Fast.tw17418374326812279650:Nat:=0
def PySem.W.Fast.tw4247962624436947693:Nat:=0
def PySem.W.Fast.tw778146702802515292:Nat:=0
def PySem.W.Fast.tw7166522697580441295:Nat:=0
def PySem.W.Fast.tw10387219873458497668:Nat:=0
def PySem.W.Fast.tw2285115110467004593:Nat:=0
def PySem.W.Fast.tw14975281683848363382:Nat:=0
def PySem.W.Fast.tw12005917289406950422:Nat:=0
def PySem.W.Fast.tw15852478025586220296:Nat:=0
def PySem.W.Fast.tw16392718505987204871:Nat:=0
def PySem.W.Fast.tw14859260354670935215:Nat:=0
def PySem.W.Fast.tw2476953339049745192:Nat:=0
def PySem.W.Fast.tw8305895999590328286:Nat:=0
def PySem.W.Fast.tw15518613270293231138:Nat:=0
def PySem.W.Fast.tw10374689788096478913:Nat:=0
def PySem.W.Fast.tw2125902835016197901:Nat:=0
def PySem.W.Fast.tw10004417132447417855:Nat:=0
def PySem.W.Fast.tw2816904305838794241:Nat:=0
def PySem.W.Fast.tw17997146235660174328:Nat:=0
def PySem.W.Fast.tw4340151225874951326:Nat:=0
def PySem.W.Fast.tw15080052699473138855:Nat:=0
def PySem.W.Fast.tw10281510312431478544:Nat:=0
def PySem.W.Fast.tw18342642973354574675:Nat:=0
def PySem.W.Fast.tw2876399302531349512:Nat:=0
def PySem.W.Fast.tw3487007938557681073:Nat:=0
def PySem.W.Fast.tw1996565862835168783:Nat:=0
def PySem.W.Fast.tw3378511047382228269:Nat:=0
def PySem.W.Fast.tw3994981862722175425:Nat:=0
def PySem.W.Fast.tw5534024865998022524:Nat:=0
def PySem.W.Fast.tw13612317540824701585:Nat:=0
def PySem.W.Fast.tw17729375581251863603:Nat:=0
def PySem.W.Fast.tw16929535187418535746:Nat:=0
def PySem.W.Fast.tw18359422799765452254:Nat:=0
def PySem.W.Fast.tw1807233314114145703:Nat:=0
def PySem.W.Fast.tw4169958547372763971:Nat:=0
def PySem.W.Fast.tw8469928326341031595:Nat:=0
def PySem.W.Fast.tw3680415114737005364:Nat:=0
def PySem.W.Fast.tw1283925760336153015:Nat:=0
def PySem.W.Fast.tw4715517031607655767:Nat:=0
def PySem.W.Fast.tw11190362088831663058:Nat:=0
def PySem.W.Fast.tw8000024931489767281:Nat:=0
def PySem.W.Fast.tw17694084628988924535:Nat:=0
def PySem.W.Fast.tw13026345761944136347:Nat:=0
def PySem.W.Fast.tw17885182213963500391:Nat:=0
def PySem.W.Fast.tw2844024291023993691:Nat:=0
def PySem.W.Fast.tw9302200578862073788:Nat:=0
def PySem.W.Fast.tw6163596108749105586:Nat:=0
def PySem.W.Fast.tw12343895772080148615:Nat:=0
def PySem.W.Fast.tw1453313473577018631:Nat:=0
def PySem.W.Fast.tw5637255507664073644:Nat:=0
def PySem.W.Fast.tw12429220253934666007:Nat:=0
def PySem.W.Fast.tw8909156064064791326:Nat:=0
def PySem.W.Fast.tw18439889714024342171:Nat:=0
def PySem.W.Fast.tw13958858658298424654:Nat:=0
def PySem.W.Fast.tw15150046411911195769:Nat:=0
def PySem.W.Fast.tw17337058423246189337:Nat:=0
def PySem.W.Fast.tw3746676368051039096:Nat:=0
def PySem.W.Fast.tw17303053945201252914:Nat:=0
def PySem.W.Fast.tw3636946599460853396:Nat:=0
def PySem.W.Fast.tw13870050648079369045:Nat:=0
def PySem.W.Fast.tw17272101159063393537:Nat:=0
def PySem.W.Fast.tw221545435769392548:Nat:=0
def PySem.W.Fast.tw12507944756868633095:Nat:=0
set_option maxRecDepth 100000 in
set_option maxHeartbeats 0 in
theorem PySem.Challenge.cw_wishmart_k33_markets_as_texts_holds : PySem.Challenge.rw_wishmart_k33_markets_as_texts.Holds := by
 w_on; o_law; k_head; (case hw=>w_witness2)
 k_fill
 refine K33.walk (l:=PySem.Challenge.rw_wishmart_k33_markets_as_texts) rfl rfl (fun w h Y=>PySem.W.kIn_of Y) ?F
 case F =>
  intro w mg fa h KX G hmg
  refine' K33.all_mk KX G hmg ?a0 ?a1 ?a2 ?a3 ?a4 ?a5 ?a6 ?a7 ?a8 ?a9 ?a10 ?a11 ?a12 ?a13 ?a14 ?a15 ?a16 ?a17 ?a18 ?a19 ?a20 ?a21 ?a22 ?a23 ?a24 ?a25 ?a26 ?a27 ?a28 ?a29 ?a30 ?a31 ?a32 ?a33 ?a34 ?z0 ?z1 ?z2 ?z3 ?z4 ?z5 ?z6 ?z7 ?z8 ?z9 ?z10 ?z11 ?z12 ?z13 ?z14 ?ystr ?yzip ?nMOST_GOODS ?nMOST_BUYERS ?nMOST_PIECES ?nMOST_WISH ?nMOST_IN_PURSE ?gM ?gNn ?gMk ?gPr ?gDe ?gUn ?gBu ?gGo ?gNo ?gDl ?gTx ?gRo ?ti1 ?ti2 ?ti3 ?ti4 ?ti5 ?ti6 ?tb1 ?tb2 ?tb3 ?tb4 ?tb5 ?tb6 ?tt1 ?tt2 ?tt3 ?tt4 ?tt5 ?tt6 ?ks1 ?ks2 ?ks3 ?ks4 ?ks5 ?ks6 ?eXTx ?eT ?eB ?e4 ?e5 ?qTxDe ?qTxBu ?qTxDl ?qTxGo ?qTxMk ?qTxNn ?qTxPr ?qTxRo ?qTxTx ?qTxNo ?qTxUn ?qTxVa ?sTx ?uTx1 ?uTx2 ?uTx3 ?uTx6 ?uTx7
  (case a0 | a1 | a2 | a3 | a4 | a5 | a6 | a7 | a8 | a9 | a10 | a11 | a12 | a13 | a14 | a15 | a16 | a17 | a18 | a19 | a20 | a21 | a22 | a23 | a24 | a25 | a26 | a27 | a28 | a29 | a30 | a31 | a32 | a33 | a34=>exact ⟨_,_,_,_,_,_,_,_,_,by k_is,by k_is,by k_is,by k_is⟩)
  (case z0 | z1 | z2 | z3 | z4 | z5 | z6 | z7 | z8 | z9 | z10 | z11 | z12 | z13 | z14 | ystr | yzip | nMOST_GOODS | nMOST_BUYERS | nMOST_PIECES | nMOST_WISH | nMOST_IN_PURSE | gM | gNn | gMk | gPr | gDe | gUn | gBu | gGo | gNo | gDl | gTx | gRo=>k_is)
  (case ti1 | ti2 | ti3 | ti4 | ti5 | ti6 | tb1 | tb2 | tb3 | tb4 | tb5 | tb6 | tt1 | tt2 | tt3 | tt4 | tt5 | tt6 | ks1 | ks2 | ks3 | ks4 | ks5 | ks6 | qTxDe | qTxBu | qTxDl | qTxGo | qTxMk | qTxNn | qTxPr | qTxRo | qTxTx | qTxNo | qTxUn | qTxVa=>first | rfl | kit_is | k_is)
  (case eXTx | eT | eB | e4 | e5 | sTx | uTx1 | uTx2 | uTx3 | uTx6 | uTx7=>first | k_is | kit_is | rfl | kernel_rfl | decide +kernel)
