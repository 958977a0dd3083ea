import PyProof.Rows.All
import Wide.All
import OpenK.AllK
import Wide.FinOn
import Lean
import PyProof.EqAt
import PyProof.EqKinds
import PyProof.TupleCall
import KE.KMinKey
import PyProof.Rows.CallKwBuiltin
import PyProof.ListRange
import PyProof.Rows.SortWalk
import PySem.Challenge.RW_wishmart_k15_shown_or_not
set_option Elab.async false
set_option linter.all false
set_option maxRecDepth 100000
set_option maxHeartbeats 8000000
abbrev Za:=@PySem.wpAny_bind
abbrev Zb:=@List.length_map
abbrev Zc:=@List.getElem?_eq_getElem
abbrev Zd:=@Nat.le_refl
abbrev Ze:=@List.getElem?_eq_some_iff
abbrev Zf:=@List.mem_cons
abbrev Zg:=@List.getElem?_map
abbrev Zh:=@List.map_append
abbrev Zi:=@List.mem_of_getElem?
abbrev Zj:=@List.length_append
abbrev Zk:=@List.mem_map
abbrev Zl:=@Nat.le_trans
abbrev Zm:=@Bool.and_eq_true
abbrev Zn:=@List.getElem_mem
abbrev Zo:=@List.size_toArray
abbrev Zp:=@Int.toNat_natCast
abbrev Zq:=@List.mem_append
abbrev Zr:=@List.getElem?_append_left
abbrev Zs:=@List.map_map
abbrev Zt:=@List.all_eq_true
abbrev Zu:=@List.mem_cons_of_mem
abbrev Zv:=@Bool.false_ne_true
abbrev Zw:=@List.mem_append_right
abbrev Zy:=@List.all_map
abbrev Zz:=@List.length_take
abbrev Ya:=@Bool.true_and
abbrev Yb:=@List.mem_cons_self
abbrev Yc:=@List.mem_singleton
abbrev Yd:=@Nat.lt_of_lt_of_le
abbrev Ye:=@List.take_length
abbrev Yf:=@List.range_succ
abbrev Yg:=@List.getElem?_set_ne
abbrev Yh:=@List.getElem?_set_self
abbrev Yi:=@List.getElem?_append_right
abbrev Yj:=@List.getElem?_range
abbrev Yk:=@List.getElem?_eq_none
namespace L2
open PySem PySem.Spec PyProof.Rows
abbrev Key:=Sum Int Str
def keyIs:Key→Value→Bool
 | .inl k,v=>Value.isInt k v
 | .inr x,v=>Value.isStrOf x v
def keyH (w:World):Key→Int
 | .inl k=>hashInt k
 | .inr x=>hashStr w x
theorem je3:∀ {k:Key} {v:Value},keyIs k v=true→(∃ i t,k=Sum.inl i∧v=Value.int i t) ∨ (∃ x t,k=Sum.inr x∧v=Value.str x t)
 | .inl i,v,h=>by
  obtain ⟨t,e⟩:=Value.isInt_shape (k:=i) (v:=v) h
  exact .inl ⟨i,t,rfl,e⟩
 | .inr x,v,h=>by
  obtain ⟨t,e⟩:=Value.isStrOf_shape (x:=x) (v:=v) h
  exact .inr ⟨x,t,rfl,e⟩
theorem keyIs_int (i:Int) (t:Tok):keyIs (.inl i) (.int i t)=true:=by simp [keyIs,Value.isInt]
theorem keyIs_str (x:Str) (t:Tok):keyIs (.inr x) (.str x t)=true:=by simp [keyIs,Value.isStrOf]
theorem key_ll (a b:Int):decide ((Sum.inl a:Key)=Sum.inl b)=(a == b):=by
 by_cases e:a=b
 ·subst e; simp
 ·have h:¬ (Sum.inl a:Key)=Sum.inl b:=fun q=>e (Sum.inl.inj q)
  rw [decide_eq_false h]
  exact (beq_eq_false_iff_ne.mpr e).symm
theorem key_rr (a b:Str):decide ((Sum.inr a:Key)=Sum.inr b)=decide (a=b):=by
 by_cases e:a=b
 ·subst e; simp
 ·have h:¬ (Sum.inr a:Key)=Sum.inr b:=fun q=>e (Sum.inr.inj q)
  rw [decide_eq_false h,decide_eq_false e]
theorem key_lr (a:Int) (b:Str):decide ((Sum.inl a:Key)=Sum.inr b)=false:=decide_eq_false (fun q=>nomatch q)
theorem key_rl (a:Str) (b:Int):decide ((Sum.inr a:Key)=Sum.inl b)=false:=decide_eq_false (fun q=>nomatch q)
def jf4 (prog:Program) (w:World):PySem.KeyKind prog w Key where
 is:=keyIs
 hash:=keyH w
 inj:=fun v a b ha hb=>by
  rcases je3 ha with ⟨i,t,rfl,rfl⟩ | ⟨x,t,rfl,rfl⟩
  ·rcases je3 hb with ⟨j,u,rfl,e⟩ | ⟨y,u,rfl,e⟩
   ·injection e with e1 _; rw [e1]
   ·exact nomatch e
  ·rcases je3 hb with ⟨j,u,rfl,e⟩ | ⟨y,u,rfl,e⟩
   ·exact nomatch e
   ·injection e with e1 _; rw [e1]
 byValue:=fun k v h=>by
  rcases je3 h with ⟨i,t,rfl,rfl⟩ | ⟨x,t,rfl,rfl⟩ <;> rfl
 pyHash:=fun hv h=>by
  rcases je3 hv with ⟨i,t,rfl,rfl⟩ | ⟨x,t,rfl,rfl⟩
  ·exact wpAny_pyHash_int h
  ·exact wpAny_pyHash_str h
 eqBool:=fun hu hv h=>by
  rcases je3 hu with ⟨i,t,rfl,rfl⟩ | ⟨x,t,rfl,rfl⟩
  ·rcases je3 hv with ⟨j,u,rfl,rfl⟩ | ⟨y,u,rfl,rfl⟩
   ·rw [key_ll] at h; exact wpAny_eqBool_int h
   ·rw [key_lr] at h; exact SeqAt.EqAt.int_str i t y u _ _ _ _ h
  ·rcases je3 hv with ⟨j,u,rfl,rfl⟩ | ⟨y,u,rfl,rfl⟩
   ·rw [key_rl] at h; exact SeqAt.EqAt.str_int x t j u _ _ _ _ h
   ·rw [key_rr] at h; exact wpAny_eqBool_str h
 «strs»:=fun k x t v h=>by
  rcases je3 h with ⟨i,u,rfl,e⟩ | ⟨y,u,rfl,e⟩
  ·exact nomatch e
  ·injection e with e1 _
   subst e1
   cases v <;> rfl
theorem mixKind_int (prog:Program) (w:World) (i:Int) (t:Tok):(jf4 prog w).is (.inl i) (.int i t)=true:=keyIs_int i t
theorem mixKind_str (prog:Program) (w:World) (x:Str) (t:Tok):(jf4 prog w).is (.inr x) (.str x t)=true:=keyIs_str x t
inductive V where
 | non | bl (b:Bool) | int (i:Int) | str (x:Str) | byt (b:Array UInt8) | flt (b:UInt64) | ref (a:Addr) | ty (n:String)
 deriving DecidableEq
def RelV:V→Value→Prop
 | .non,u=>u=Value.none
 | .bl b,u=>u=Value.bool b
 | .int i,u=>∃ t,u=Value.int i t
 | .str x,u=>∃ t,u=Value.str x t
 | .byt b,u=>∃ t,u=Value.bytes b t
 | .flt b,u=>∃ t,u=Value.float b t
 | .ref a,u=>u=Value.ref a
 | .ty n,u=>u=Value.type n
abbrev Vals:List V→List Value→Prop:=Paired RelV
theorem Vals.length {xs:List V} {us:List Value} (r:Vals xs us):xs.length=us.length:=Paired.length r
theorem Vals.get:∀ {xs:List V} {us:List Value} {i:Nat} {x:V},Vals xs us→xs[i]?=some x→∃ u,us[i]?=some u∧RelV x u
 | _,_,_,_,.nil,e=>by simp at e
 | _,_,0,_,.cons r _,e=>by simp at e; subst e; exact ⟨_,rfl,r⟩
 | _,_,i + 1,x,.cons _ t,e=>by
  obtain ⟨u,h1,h2⟩:=Vals.get (i:=i) (x:=x) t (by simpa using e)
  exact ⟨u,by simpa using h1,h2⟩
theorem Vals.set {x:V} {u:Value} (r:RelV x u):∀ {xs:List V} {us:List Value} (i:Nat),Vals xs us→Vals (xs.set i x) (us.set i u)
 | _,_,_,.nil=>.nil
 | _,_,0,.cons _ t=>.cons r t
 | _,_,i + 1,.cons q t=>.cons q (Vals.set r i t)
theorem Vals.append:∀ {xs ys:List V} {us ws:List Value},Vals xs us→Vals ys ws→Vals (xs ++ ys) (us ++ ws)
 | _,_,_,_,.nil,s=>s
 | _,_,_,_,.cons r t,s=>.cons r (Vals.append t s)
theorem Vals.take:∀ {xs:List V} {us:List Value} (n:Nat),Vals xs us→Vals (xs.take n) (us.take n)
 | _,_,0,_=>.nil
 | _,_,_ + 1,.nil=>.nil
 | _,_,n + 1,.cons r t=>.cons r (Vals.take n t)
theorem Vals.drop:∀ {xs:List V} {us:List Value} (n:Nat),Vals xs us→Vals (xs.drop n) (us.drop n)
 | _,_,0,r=>r
 | _,_,_ + 1,.nil=>.nil
 | _,_,n + 1,.cons _ t=>Vals.drop n t
def RelO:Option V→Option Value→Prop
 | some v,some u=>RelV v u
 | none,none=>True
 | _,_=>False
def KV {κ : Type}:List (κ × V)→List (κ × Value)→Prop:=Paired fun (p:κ × V) (q:κ × Value)=>p.1=q.1∧RelV p.2 q.2
def kV:Key→V
 | .inl i=>.int i
 | .inr x=>.str x
inductive HO where
 | lst (xs:List V)
 | tup (xs:List V)
 | dK (kvs:List (Key × V)) | dT (kvs:List (List Key × V))
 | set (S:Int→Bool) (n:Nat)
 | ins (C dx:Addr) (fs:List (Str × V))
 | own (x:Addr)
 | xd (fs:List (Str × V))
 | met (f x:Addr)
 | rng (lo hi:Int)
 | frz (o:Obj) (u:HO)
 | tbl (ps:Array Value)
 | ext (φ : Heap→Prop)
abbrev Hp:=Addr→Option HO
def upd (H:Hp) (a:Addr) (o:HO):Hp:=fun b=>if b=a then some o else H b
theorem ja8 {H:Hp} {a:Addr} {o:HO}:upd H a o a=some o:=by unfold upd; rw [if_pos rfl]
theorem jc0 {H:Hp} {a b:Addr} {o:HO} (h:b ≠ a):upd H a o b=H b:=by unfold upd; rw [if_neg h]
theorem ne_of {H:Hp} {a b:Addr} {o u:HO} (h:H a=some o) (h':H b=some u) (d:o ≠ u):a ≠ b:=by
 intro e; subst e; rw [h] at h'; exact d (Option.some.inj h')
theorem jf5 {H:Hp} {a b:Addr} {o:HO} (h:H a=some o) (h':H b=none):a ≠ b:=by
 intro e; subst e; rw [h] at h'; cases h'
section
variable (P:Program) (w:World)
def ObjOk (H:Hp) (h:Heap) (a:Addr):HO→Prop
 | .lst xs=>xs.length ≤ sizeLine∧∃ (its:List Value) (n:Nat),Vals xs its∧h.get? a=some { cls:=.type "list",data:=.seq its.toArray n }
 | .tup xs=>xs.length ≤ sizeLine∧∃ its:List Value,Vals xs its∧IsTup h a its.toArray
 | .dK kvs=>kvs.length ≤ sizeLine∧(a == sysModules)=false∧∃ vs,KV kvs vs∧h.DictOf (jf4 P w) a vs
 | .dT kvs=>kvs.length ≤ sizeLine∧(a == sysModules)=false∧∃ xs:List (List Key × Addr × Value),
   Paired (fun (p:List Key × V) (q:List Key × Addr × Value)=>p.1=q.1∧H q.2.1=some (.tup (p.1.map kV))∧RelV p.2 q.2.2) kvs xs ∧
   ∃ o es ep,h.get? a=some o∧o.ExactDict∧o.data=.dict es ep∧es.toList=xs.map (entryOfKey (tupleKind (jf4 P w)))∧(xs.map (·.1)).Nodup
 | .set S n=>h.SetOf (intKind P w) a S n
 | .ins C dx fs=>H dx=some (.own a)∧fs.length ≤ 1000∧dx ≠ a∧h.get? a=some (PySem.W.instObj C dx) ∧
   ∃ mA,h.Ns1 dx mA∧(∀ f,RelO (fs.lookup f) (mA f))∧PySem.Within mA (fs.map (·.1))
 | .own _=>∃ o,h.get? a=some o
 | .xd fs=>∃ mA,h.Ns1 a mA∧∀ f,RelO (fs.lookup f) (mA f)
 | .rng lo hi=>∃ t u v,h.get? a=some { cls:=.type "range",data:=.fields #[.int lo t,.int hi u,.int 1 v] }
 | .frz o u=>h.get? a=some o∧ObjOk H h a u
 | .tbl ps=>h.get? a=some { cls:=.none,data:=.fields ps }
 | .met f x=>h.get? a=some (PySem.W.methodObj (.ref f) (.ref x))
 | .ext φ=>φ h∧(∃ o,h.get? a=some o)∧∀ h1 h2:Heap,φ h1→(∀ o,h1.get? a=some o→h2.get? a=some o)→φ h2
def HOk (H:Hp) (h:Heap):Prop:=∀ a o,H a=some o→ObjOk P w H h a o
end
section
variable {P:Program} {w:World} {H H':Hp} {h h':Heap} {a:Addr} {o:HO}
theorem ObjOk.lt (x:ObjOk P w H h a o):a < h.objs.size:=by
 cases o with
 | lst xs=>obtain ⟨_,_,_,_,e⟩:=x; exact Heap.lt_size e
 | tup xs=>obtain ⟨_,_,_,p⟩:=x; exact p.lt
 | dK kvs=>obtain ⟨_,_,_,_,o,_,_,e,_⟩:=x; exact Heap.lt_size e
 | dT kvs=>obtain ⟨_,_,_,_,o,_,_,e,_⟩:=x; exact Heap.lt_size e
 | set S n=>obtain ⟨o,_,_,_,e,_⟩:=x; exact Heap.lt_size e
 | ins C dx fs=>obtain ⟨_,_,_,e,_⟩:=x; exact Heap.lt_size e
 | own y=>obtain ⟨_,e⟩:=x; exact Heap.lt_size e
 | xd fs=>obtain ⟨_,⟨_,_,_,e,_⟩,_⟩:=x; exact Heap.lt_size e
 | rng lo hi=>obtain ⟨_,_,_,e⟩:=x; exact Heap.lt_size e
 | frz ob u=>obtain ⟨e,_⟩:=x; exact Heap.lt_size e
 | tbl ps=>exact Heap.lt_size (show h.get? a=some _ from x)
 | met f y=>exact Heap.lt_size (show h.get? a=some _ from x)
 | ext φ=>obtain ⟨_,⟨_,e⟩,_⟩:=x; exact Heap.lt_size e
theorem Paired.mapP {α β : Type} {F G:α→β→Prop}:∀ {l₁:List α} {l₂:List β},Paired F l₁ l₂→(∀ a b,F a b→G a b)→Paired G l₁ l₂
 | _,_,.nil,_=>.nil
 | _,_,.cons r t,f=>.cons (f _ _ r) (Paired.mapP t f)
theorem ObjOk.stay (x:ObjOk P w H h a o) (k:∀ b u,(b=a ∨ H b=some (.own a))→h.get? b=some u→h'.get? b=some u)
  (ho:∀ b,H b=some (.own a)→H' b=some (.own a)) (ht:∀ b xs,H b=some (.tup xs)→H' b=some (.tup xs)):ObjOk P w H' h' a o:=by
 induction o with
 | lst xs=>obtain ⟨z,its,n,r,e⟩:=x; exact ⟨z,its,n,r,k _ _ (.inl rfl) e⟩
 | tup xs=>obtain ⟨z,its,r,ob,e,c⟩:=x; exact ⟨z,its,r,ob,k _ _ (.inl rfl) e,c⟩
 | dK kvs=>obtain ⟨z,y,vs,r,ob,es,ep,e,c⟩:=x; exact ⟨z,y,vs,r,ob,es,ep,k _ _ (.inl rfl) e,c⟩
 | dT kvs =>
  obtain ⟨z,y,xs,r,ob,es,ep,e,c⟩:=x
  exact ⟨z,y,xs,Paired.mapP r fun p q z=>⟨z.1,ht _ _ z.2.1,z.2.2⟩,ob,es,ep,k _ _ (.inl rfl) e,c⟩
 | set S n=>obtain ⟨ob,es,ep,t,e,c⟩:=x; exact ⟨ob,es,ep,t,k _ _ (.inl rfl) e,c⟩
 | ins C dx fs =>
  obtain ⟨d,z,ne,e,mA,⟨od,es,ep,e2,c⟩,r⟩:=x
  exact ⟨ho _ d,z,ne,k _ _ (.inl rfl) e,mA,⟨od,es,ep,k _ _ (.inr d) e2,c⟩,r⟩
 | own y=>obtain ⟨ob,e⟩:=x; exact ⟨ob,k _ _ (.inl rfl) e⟩
 | xd fs=>obtain ⟨mA,⟨od,es,ep,e,c⟩,r⟩:=x; exact ⟨mA,⟨od,es,ep,k _ _ (.inl rfl) e,c⟩,r⟩
 | rng lo hi=>obtain ⟨t,u,v,e⟩:=x; exact ⟨t,u,v,k _ _ (.inl rfl) e⟩
 | frz ob u ih=>obtain ⟨e,q⟩:=x; exact ⟨k _ _ (.inl rfl) e,ih q⟩
 | tbl ps =>
  have e:h.get? a=some { cls:=.none,data:=.fields ps }:=x
  show h'.get? a=some { cls:=.none,data:=.fields ps }
  exact k a _ (.inl rfl) e
 | met f y =>
  have e:h.get? a=some (PySem.W.methodObj (.ref f) (.ref y)):=x
  show h'.get? a=some (PySem.W.methodObj (.ref f) (.ref y))
  exact k a _ (.inl rfl) e
 | ext φ=>obtain ⟨p,⟨o,e⟩,st⟩:=x; exact ⟨st _ _ p fun o q=>k _ _ (.inl rfl) q,⟨o,k _ _ (.inl rfl) e⟩,st⟩
theorem HOk.lt (x:HOk P w H h) (e:H a=some o):a < h.objs.size:=(x a o e).lt
theorem HOk.fresh (x:HOk P w H h) (e:h.objs.size ≤ a):H a=none:=by
 cases q:H a with
 | none=>rfl
 | some u=>exact absurd (Yd (x.lt q) e) (Nat.lt_irrefl _)
theorem HOk.kept (x:HOk P w H h) (k:∀ b u,h.get? b=some u→h'.get? b=some u):HOk P w H h':=fun a o e =>
 (x a o e).stay (fun b u _ q=>k b u q) (fun _ q=>q) fun _ _ q=>q
theorem HOk.laid (x:HOk P w H h) (k:∀ b u,h.get? b=some u→h'.get? b=some u) (hp:h.objs.size ≤ a) (new:ObjOk P w (upd H a o) h' a o):HOk P w (upd H a o) h':=fun b u e=>by
 have hn:=x.fresh hp
 by_cases hb:b=a
 ·subst hb; rw [ja8] at e; cases e; exact new
 ·rw [jc0 hb] at e
  exact (x b u e).stay (fun c v _ q=>k c v q) (fun c q=>by rw [jc0 (jf5 q hn)]; exact q) fun c xs q=>by rw [jc0 (jf5 q hn)]; exact q
end
def Rd (H:Hp) (a:Addr) (u:HO):Prop:=H a=some u ∨ ∃ o,H a=some (.frz o u)
theorem Rd.ok {P:Program} {w:World} {H:Hp} {h:Heap} {a:Addr} {u:HO} (r:Rd H a u) (x:HOk P w H h):ObjOk P w H h a u:=by
 rcases r with r | ⟨o,r⟩
 ·exact x a u r
 ·obtain ⟨_,q⟩:=x a _ r
  exact q
def Mut:Option HO→Prop
 | some (.lst _)=>True
 | some (.dK _)=>True
 | some (.dT _)=>True
 | some (.set _ _)=>True
 | some (.ins _ _ _)=>True
 | some (.ext _)=>True
 | _=>False
section
variable {P:Program} {w:World} {H:Hp} {h h':Heap} {x e:Addr} {o':HO}
theorem HOk.write (ok:HOk P w H h) (mu:Mut (H x)) (he:e=x ∨ H e=some (.own x)) (k:∀ b u,b ≠ e→h.get? b=some u→h'.get? b=some u) (heo:∃ u,h'.get? e=some u)
  (new:ObjOk P w (upd H x o') h' x o'):HOk P w (upd H x o') h':=fun b u q=>by
 have nown:∀ c y,H c=some (.own y)→c ≠ x:=fun c y r z=>by subst z; rw [r] at mu; exact mu
 have ntup:∀ c xs,H c=some (.tup xs)→c ≠ x:=fun c xs r z=>by subst z; rw [r] at mu; exact mu
 by_cases hb:b=x
 ·subst hb; rw [ja8] at q; cases q; exact new
 ·rw [jc0 hb] at q
  by_cases hbe:b=e
  ·have q':H b=some (.own x):=by
    rcases he with z | z
    ·exact absurd (hbe.trans z) hb
    ·rw [hbe]; exact z
   rw [q] at q'; cases q'
   obtain ⟨v,hv⟩:=heo
   exact ⟨v,by rw [hbe]; exact hv⟩
  ·refine (ok b u q).stay (fun c v hc r=>k c v ?_ r) (fun c r=>by rw [jc0 (nown c b r)]; exact r) fun c xs r=>by rw [jc0 (ntup c xs r)]; exact r
   rcases hc with rfl | hc
   ·exact hbe
   ·rintro rfl
    rcases he with z | z
    ·exact nown c b hc z
    ·rw [hc] at z; cases z; exact hb rfl
end
structure Un (fs ex:List Addr) (H H':Hp) (h h':Heap):Prop where
 keep:∀ b o,h.get? b=some o→H b=none→b ∉ fs→b ∉ ex→h'.get? b=some o
 slot:∀ b o,h.get? b=some o→H b=none→b ∈ fs→b ∉ ex→∃ sl,h'.get? b=some { o with slots:=sl }
 free:∀ b o,h.get? b=some o→H b=none→b ∉ ex→H' b=none
 there:∀ b o,h.get? b=some o→b ∉ ex→∃ o',h'.get? b=some o'
 tups:∀ b xs,H b=some (.tup xs)→H' b=some (.tup xs)
 frzs:∀ b o u,H b=some (.frz o u)→H' b=some (.frz o u)
 tbls:∀ b ps,H b=some (.tbl ps)→∃ more,H' b=some (.tbl (ps ++ more))
section
variable {fs fs' ex ex':List Addr} {H H1 H2:Hp} {h h1 h2 h':Heap} {a x e:Addr} {o:HO}
theorem Un.any (u:Un fs ex H H1 h h1) {b:Addr} {ob:Obj} (q:h.get? b=some ob) (n:H b=none) (hx:b ∉ ex):∃ sl,h1.get? b=some { ob with slots:=sl }:=by
 by_cases hb:b ∈ fs
 ·exact u.slot b ob q n hb hx
 ·exact ⟨ob.slots,u.keep b ob q n hb hx⟩
theorem Un.kept (k:∀ b u,h.get? b=some u→h'.get? b=some u):Un fs ex H H h h' :=
 ⟨fun b ob q _ _ _=>k b ob q,fun b ob q _ _ _=>⟨ob.slots,k b ob q⟩,fun _ _ _ n _=>n,fun b ob q _=>⟨ob,k b ob q⟩,fun _ _ q=>q,fun _ _ _ q=>q,fun _ ps q=>⟨#[],by rw [q]; simp⟩⟩
theorem Un.refl:Un fs ex H H h h:=Un.kept fun _ _ q=>q
theorem Un.laid (k:∀ b u,h.get? b=some u→h'.get? b=some u) (hp:h.objs.size ≤ a) (hn:H a=none):Un fs ex H (upd H a o) h h' where
 keep:=fun b u q _ _ _=>k b u q
 slot:=fun b u q _ _ _=>⟨u.slots,k b u q⟩
 free:=fun b u q n _=>by rw [jc0 (Nat.ne_of_lt (Yd (Heap.lt_size q) hp))]; exact n
 there:=fun b u q _=>⟨u,k b u q⟩
 tups:=fun b xs q=>by rw [jc0 (jf5 q hn)]; exact q
 frzs:=fun b u xs q=>by rw [jc0 (jf5 q hn)]; exact q
 tbls:=fun b ps q=>⟨#[],by rw [jc0 (jf5 q hn),q]; simp⟩
theorem Un.write (mu:Mut (H x)) (he:e=x ∨ H e=some (.own x)) (k:∀ b u,b ≠ e→h.get? b=some u→h'.get? b=some u) (heo:∃ u,h'.get? e=some u):Un fs ex H (upd H x o) h h':=by
 have hx:∀ b,H b=none→b ≠ x:=fun b n z=>by subst z; rw [n] at mu; exact mu
 have hb:∀ b,H b=none→b ≠ e:=fun b n z=>by
  subst z
  rcases he with r | r
  ·exact hx b n r
  ·rw [n] at r; cases r
 have hm:∀ b u,H b=some u→¬ Mut (some u)→b ≠ x:=fun b u q nm z=>by subst z; rw [q] at mu; exact nm mu
 refine ⟨fun b u q n _ _=>k b u (hb b n) q,fun b u q n _ _=>⟨u.slots,k b u (hb b n) q⟩,fun b u q n _=>by rw [jc0 (hx b n)]; exact n,fun b u q _=>?_,
  fun b xs q=>by rw [jc0 (hm b _ q fun z=>z)]; exact q,fun b u xs q=>by rw [jc0 (hm b _ q fun z=>z)]; exact q,fun b ps q=>⟨#[],by rw [jc0 (hm b _ q fun z=>z),q]; simp⟩⟩
 by_cases hbe:b=e
 ·subst hbe; exact heo
 ·exact ⟨u,k b u hbe q⟩
end
def trk (h:Heap) (H:Hp):List Addr:=(List.range h.objs.size).filter fun a=>(H a).isSome
def hidT (h:Heap) (H:Hp):Heap:=PySem.W.hideAll h (trk h H)
theorem hidT_size (h:Heap) (H:Hp):(hidT h H).objs.size=h.objs.size:=PySem.W.hideAll_size _ _
theorem hidT_get {h:Heap} {H:Hp} {b:Addr} {o:Obj} (e:h.get? b=some o) (n:H b=none):(hidT h H).get? b=some o :=
 PySem.W.hideAll_get _ e fun hm=>by
  have q:(H b).isSome=true:=(List.mem_filter.mp hm).2
  rw [n] at q; simp at q
theorem of_hidT {h:Heap} {H:Hp} {b:Addr} {o:Obj} (e:(hidT h H).get? b=some o):h.get? b=some o∧H b=none:=by
 have e':h.get? b=some o:=PySem.W.of_hideAll (trk h H) e
 refine ⟨e',?_⟩
 cases q:H b with
 | none=>rfl
 | some x =>
  have hm:b ∈ trk h H:=List.mem_filter.mpr ⟨List.mem_range.mpr (Heap.lt_size e'),by simp [q]⟩
  have z:(hidT h H).get? b=none:=PySem.W.hideAll_none (trk h H) hm
  rw [z] at e; cases e
structure Mod (K:PySem.W.Frag) (mg:Str→Option Value) (base:Heap):Prop where
 kin:K.In base
 glob:base.Ns mainGlobals mg
 blt:∃ mb,base.Ns builtinsNs mb∧∀ x:Str,x ≠ "__name__"→mb x=bootBuiltins x
 nolimit:base.NoLimit
structure Cx where
 prog:Program
 w:World
 K:PySem.W.Frag
 mg:Str→Option Value
 base:Heap
 A:Around
 N:List Str
 s₀:Shared
 H₀:Hp
 env:Env
 outer:List Env
 stack:List Env
 ex:List Addr
 fn:Str→Bool
 calm:Bool
 pn:List (Addr × Obj)
 xe:Value→Shared→Prop
def frs (l:List Env):List Addr:=l.filterMap (·.frame)
abbrev Cx.fs (X:Cx):List Addr:=frs X.outer
def Vis (sc:Scope) (x:Str):Prop:=sc.names.lookup x=some .local ∨ sc.names.lookup x=some .cell ∨ sc.names.lookup x=some .free
def Loc (sc:Scope) (x:Str):Prop:=sc.names.lookup x=some .local ∨ sc.names.lookup x=some .cell
def Look (env:Env) (h:Heap) (m:Str→Option Value) (x:Str) (u:Value):Prop :=
 (env.kindOf x=some .local∧m x=some u) ∨ ((env.kindOf x=some .cell ∨ env.kindOf x=some .free)∧∃ c,env.cells.lookup x=some c∧h.IsCell c (some u))
structure Cx.Ok (X:Cx):Prop where
 mod:Mod X.K X.mg X.base
 kind:X.env.scope.kind=.function
 glob:X.env.globals=mainGlobals
 blt:X.env.builtins=builtinsNs
 above:X.s₀.heap.objs.size ≤ X.env.locals
 inj:∀ x y c,X.env.cells.lookup x=some c→X.env.cells.lookup y=some c→x=y
 has:∀ x,(X.env.kindOf x=some .cell ∨ X.env.kindOf x=some .free)→∃ c,X.env.cells.lookup x=some c
 cab:∀ x c,X.fn x=true→X.env.cells.lookup x=some c→X.s₀.heap.objs.size ≤ c
 hd:X.calm=true→X.A.handled=none
 frames:X.A.frames=some X.stack
 stk:X.stack=X.outer ∨ (X.stack=X.env :: X.outer∧X.env.frame=some X.env.locals)
 exf:∀ b ∈ X.ex,b ≠ X.env.locals∧∀ x c,X.env.cells.lookup x=some c→c ≠ b
 bs:∀ b o,X.base.get? b=some o→X.s₀.heap.get? b=some o∧X.H₀ b=none
 bsz:X.base.objs.size ≤ X.s₀.heap.objs.size
 noex:∀ b o,X.base.get? b=some o→b ∉ X.ex
 exfs:∀ b ∈ X.ex,b ∉ X.fs
 funs:X.s₀.heap.FunFrames X.base X.outer
 frf:∀ b ∈ X.fs,X.H₀ b=none
structure Inv (X:Cx) (pins:List (Addr × Obj)) (σ:List (Option V)) (H:Hp) (s:Shared):Prop where
 ok:X.Ok
 os:s.os=X.s₀.os
 bare:AllBare s.gens
 base:Un X.fs X.ex X.H₀ H X.s₀.heap s.heap
 loc:∃ m,s.heap.Ns X.env.locals m∧∀ (i:Nat) (x:Str) (v:V),X.N[i]?=some x→σ[i]?=some (some v)→Vis X.env.scope x→∃ u,RelV v u∧Look X.env s.heap m x u
 cell:∀ x c,X.env.cells.lookup x=some c→∃ v,s.heap.IsCell c v
 free:H X.env.locals=none
 freeC:∀ x c,X.env.cells.lookup x=some c→H c=none
 pin:∀ p ∈ X.pn ++ pins,s.heap.get? p.1=some p.2∧H p.1=none∧p.1 ≠ X.env.locals∧p.1 ∉ X.fs∧∀ v,p.2.data ≠ .cell v
 hok:HOk X.prog X.w H s.heap
 len:σ.length=X.N.length
section
variable {X:Cx} {pins:List (Addr × Obj)} {σ:List (Option V)} {H H':Hp} {s:Shared} {h':Heap}
theorem Cx.Ok.nofr (ok:X.Ok) {b:Addr} {o:Obj} (e:X.base.get? b=some o):b ∉ X.fs:=fun hb=>by
 have:=(ok.funs.mem hb).1
 rw [e] at this; cases this
theorem Inv.bs (I:Inv X pins σ H s):∀ b o,X.base.get? b=some o→s.heap.get? b=some o∧H b=none:=fun b o e =>
 ⟨I.base.keep b o (I.ok.bs b o e).1 (I.ok.bs b o e).2 (I.ok.nofr e) (I.ok.noex b o e),I.base.free b o (I.ok.bs b o e).1 (I.ok.bs b o e).2 (I.ok.noex b o e)⟩
theorem Inv.bk (I:Inv X pins σ H s):∀ b o,X.base.get? b=some o→s.heap.get? b=some o:=fun b o e=>(I.bs b o e).1
theorem Inv.mod (I:Inv X pins σ H s):Mod X.K X.mg X.base:=I.ok.mod
theorem Inv.kIn (I:Inv X pins σ H s):X.K.In s.heap:=I.ok.mod.kin.keeps I.bk
theorem Inv.lt (I:Inv X pins σ H s):X.env.locals < s.heap.objs.size:=let ⟨_,hn,_⟩:=I.loc; hn.lt
theorem Inv.sz (I:Inv X pins σ H s):X.s₀.heap.objs.size ≤ s.heap.objs.size:=Zl I.ok.above (Nat.le_of_lt I.lt)
theorem Inv.nofs (I:Inv X pins σ H s) {a:Addr} (h:s.heap.objs.size ≤ a):a ∉ X.fs:=fun hb=>by
 obtain ⟨_,o,ho,_⟩:=I.ok.funs.mem hb
 exact absurd (Yd (Heap.lt_size ho) (Zl I.sz h)) (Nat.lt_irrefl _)
theorem Inv.cne (I:Inv X pins σ H s):∀ x c,X.env.cells.lookup x=some c→c ≠ X.env.locals:=fun x c e z=>by
 obtain ⟨v,o,ho,hd⟩:=I.cell x c e
 obtain ⟨m,⟨o',es,ep,ho',hd',_⟩,_⟩:=I.loc
 rw [z,ho'] at ho; cases ho; rw [hd'] at hd; cases hd
theorem Inv.funs (I:Inv X pins σ H s):s.heap.FunFrames X.base X.outer:=by
 have all:∀ (l:List Env),(∀ b ∈ frs l,b ∈ X.fs)→X.s₀.heap.FunFrames X.base l→s.heap.FunFrames X.base l:=by
  intro l
  induction l with
  | nil=>intro _ _; trivial
  | cons env r ih =>
   intro hs hl
   obtain ⟨hk,⟨L,o,hf,hn,ho,hd⟩,hr⟩:=hl
   have hL:L ∈ X.fs:=hs L (by unfold frs; rw [List.filterMap_cons,hf]; exact Yb)
   obtain ⟨sl,e⟩:=I.base.slot L o ho (I.ok.frf L hL) hL fun z=>I.ok.exfs L z hL
   exact ⟨hk,⟨L,_,hf,hn,e,hd⟩,ih (fun b hb=>hs b (by unfold frs; rw [List.filterMap_cons,hf]; exact Zu _ hb)) hr⟩
 exact all X.outer (fun _ hb=>hb) I.ok.funs
theorem Inv.stack (I:Inv X pins σ H s):s.heap.FunFrames X.base X.stack:=by
 rcases I.ok.stk with e | ⟨e,hf⟩
 ·rw [e]; exact I.funs
 ·rw [e]
  obtain ⟨m,hn,_⟩:=I.loc
  refine .cons (by rw [I.ok.kind]; decide) hf hn ?_ I.funs
  exact Heap.get?_none_of_le (Zl I.ok.bsz I.ok.above)
theorem Inv.stkSub (I:Inv X pins σ H s):∀ b ∈ frs X.stack,b ∈ X.env.locals :: X.fs:=fun b hb=>by
 rcases I.ok.stk with e | ⟨e,hf⟩
 ·rw [e] at hb; exact Zu _ hb
 ·rw [e] at hb
  unfold frs at hb
  rw [List.filterMap_cons,hf] at hb
  exact hb
theorem Inv.stkFree (I:Inv X pins σ H s):∀ b ∈ frs X.stack,H b=none:=fun b hb=>by
 rcases Zf.mp (I.stkSub b hb) with e | hb
 ·rw [e]; exact I.free
 ·obtain ⟨_,o,ho,_⟩:=I.ok.funs.mem hb
  exact I.base.free b o ho (I.ok.frf b hb) fun z=>I.ok.exfs b z hb
theorem Inv.step {g':Array GenState} {t':Nat} {d':Drawn} {ch:List Addr} (I:Inv X pins σ H s)
  (hch:∀ b ∈ ch,(b ∈ X.ex ∨ X.s₀.heap.objs.size ≤ b)∧b ≠ X.env.locals∧(∀ x c,X.env.cells.lookup x=some c→c ≠ b)∧∀ p ∈ X.pn ++ pins,p.1 ≠ b)
  (keep:∀ b o,b ≠ X.env.locals→b ∉ X.fs→b ∉ ch→s.heap.get? b=some o→H b=none→h'.get? b=some o)
  (slot:∀ b o,b ≠ X.env.locals→b ∈ X.fs→b ∉ ch→s.heap.get? b=some o→H b=none→∃ sl,h'.get? b=some { o with slots:=sl }) (free:∀ b o,b ∉ ch→s.heap.get? b=some o→H b=none→H' b=none)
  (there:∀ b o,b ∉ ch→s.heap.get? b=some o→∃ o',h'.get? b=some o')
  (tups:∀ b xs,H b=some (.tup xs)→H' b=some (.tup xs)) (frzs:∀ b o u,H b=some (.frz o u)→H' b=some (.frz o u)) (tbls:∀ b ps,H b=some (.tbl ps)→∃ more,H' b=some (.tbl (ps ++ more)))
  (ns:∀ m,s.heap.Ns X.env.locals m→h'.Ns X.env.locals m) (hok:HOk X.prog X.w H' h') (hg:AllBare g') :
  Inv X pins σ H' { s with heap:=h',gens:=g',drawn:=d',toks:=t' }:=by
 have neL:∀ b o,X.s₀.heap.get? b=some o→b ≠ X.env.locals:=fun b o e=>Nat.ne_of_lt (Yd (Heap.lt_size e) I.ok.above)
 have neC:∀ b o,X.s₀.heap.get? b=some o→b ∉ X.ex→b ∉ ch:=fun b o e hx hb=>by
  rcases (hch b hb).1 with z | z
  ·exact hx z
  ·exact absurd (Yd (Heap.lt_size e) z) (Nat.lt_irrefl _)
 have cellK:∀ x c,X.env.cells.lookup x=some c→∀ v,s.heap.IsCell c v→h'.IsCell c v:=fun x c e v ⟨o,ho,hd⟩=>by
  have nch:c ∉ ch:=fun z=>(hch c z).2.2.1 x c e rfl
  by_cases hc:c ∈ X.fs
  ·obtain ⟨sl,q⟩:=slot c o (I.cne x c e) hc nch ho (I.freeC x c e)
   exact ⟨_,q,hd⟩
  ·exact ⟨o,keep c o (I.cne x c e) hc nch ho (I.freeC x c e),hd⟩
 refine ⟨I.ok,I.os,hg,⟨fun b o e n hb hx=>?_,fun b o e n hb hx=>?_,fun b o e n hx=>?_,fun b o e hx=>?_,fun b xs e=>tups b xs (I.base.tups b xs e),fun b o xs e=>frzs b o xs (I.base.frzs b o xs e),fun b ps e=>?_⟩,?_,fun x c e=>?_,?_,fun x c e=>?_,fun p hp=>?_,hok,I.len⟩
 ·exact keep b o (neL b o e) hb (neC b o e hx) (I.base.keep b o e n hb hx) (I.base.free b o e n hx)
 ·obtain ⟨sl,e1⟩:=I.base.slot b o e n hb hx
  obtain ⟨sl',e2⟩:=slot b _ (neL b o e) hb (neC b o e hx) e1 (I.base.free b o e n hx)
  exact ⟨sl',e2⟩
 ·obtain ⟨o',e1⟩:=I.base.there b o e hx
  exact free b o' (neC b o e hx) e1 (I.base.free b o e n hx)
 ·obtain ⟨o',e1⟩:=I.base.there b o e hx
  exact there b o' (neC b o e hx) e1
 ·obtain ⟨m1,e1⟩:=I.base.tbls b ps e
  obtain ⟨m2,e2⟩:=tbls b _ e1
  exact ⟨m1 ++ m2,by rw [e2,Array.append_assoc]⟩
 ·obtain ⟨m,hn,hl⟩:=I.loc
  refine ⟨m,ns m hn,fun i x v e1 e2 e3=>?_⟩
  obtain ⟨u,r,l⟩:=hl i x v e1 e2 e3
  refine ⟨u,r,?_⟩
  rcases l with l | ⟨k,c,e,z⟩
  ·exact .inl l
  ·exact .inr ⟨k,c,e,cellK x c e _ z⟩
 ·obtain ⟨v,z⟩:=I.cell x c e
  exact ⟨v,cellK x c e v z⟩
 ·obtain ⟨m,⟨o,_,_,ho,_⟩,_⟩:=I.loc
  exact free _ o (fun z=>(hch _ z).2.1 rfl) ho I.free
 ·obtain ⟨v,o,ho,hd⟩:=I.cell x c e
  exact free c o (fun z=>(hch c z).2.2.1 x c e rfl) ho (I.freeC x c e)
 ·obtain ⟨e,n,ne,nf,d⟩:=I.pin p hp
  have nch:p.1 ∉ ch:=fun z=>(hch p.1 z).2.2.2 p hp rfl
  exact ⟨keep p.1 p.2 ne nf nch e n,free p.1 p.2 nch e n,ne,nf,d⟩
theorem Inv.un {t':Nat} (I:Inv X pins σ H s) (u:Un X.fs [] H H' s.heap h') (hok:HOk X.prog X.w H' h'):Inv X pins σ H' { s with heap:=h',toks:=t' }:=by
 obtain ⟨m,⟨o,es,ep,ho,r⟩,_⟩:=id I.loc
 obtain ⟨sl,hL⟩:=u.any ho I.free (by simp)
 exact I.step (g':=s.gens) (d':=s.drawn) (ch:=[]) (fun _ z=>nomatch z) (fun b o _ hb _ e n=>u.keep b o e n hb (by simp)) (fun b o _ hb _ e n=>u.slot b o e n hb (by simp)) (fun b o _ e n=>u.free b o e n (by simp)) (fun b o _ e=>u.there b o e (by simp)) u.tups u.frzs u.tbls (fun m' hm=>by
  obtain ⟨o',es',ep',ho',r'⟩:=hm
  rw [ho] at ho'; cases ho'
  exact ⟨_,es',ep',hL,r'⟩) hok I.bare
theorem Inv.call {g':Array GenState} {t':Nat} {d':Drawn} {ch:List Addr} (I:Inv X pins σ H s) (u:Un (frs X.stack) ch H H' s.heap h') (hok:HOk X.prog X.w H' h') (hg:AllBare g')
  (hch:∀ b ∈ ch,(b ∈ X.ex ∨ X.s₀.heap.objs.size ≤ b)∧b ≠ X.env.locals∧(∀ x c,X.env.cells.lookup x=some c→c ≠ b)∧∀ p ∈ X.pn ++ pins,p.1 ≠ b) :
  Inv X pins σ H' { s with heap:=h',gens:=g',drawn:=d',toks:=t' }:=by
 obtain ⟨m,⟨o,es,ep,ho,r⟩,_⟩:=id I.loc
 obtain ⟨sl,hL⟩:=u.any ho I.free fun z=>(hch _ z).2.1 rfl
 exact I.step (ch:=ch) hch (fun b o hL hb hc e n=>u.keep b o e n (fun z=>(Zf.mp (I.stkSub b z)).elim hL hb) hc) (fun b o _ _ hc e n=>u.any e n hc) (fun b o hc e n=>u.free b o e n hc) (fun b o hc e=>u.there b o e hc) u.tups u.frzs u.tbls (fun m' hm=>by
  obtain ⟨o',es',ep',ho',r'⟩:=hm
  rw [ho] at ho'; cases ho'
  exact ⟨_,es',ep',hL,r'⟩) hok hg
theorem Inv.turned {t':Nat} {it:Addr} (I:Inv X pins σ H s) (k:∀ b o,b ≠ it→s.heap.get? b=some o→h'.get? b=some o) (hn:H it=none) (hL:it ≠ X.env.locals)
  (h1:it ∈ X.ex ∨ X.s₀.heap.objs.size ≤ it) (h2:∀ x c,X.env.cells.lookup x=some c→c ≠ it) (h3:∀ p ∈ X.pn ++ pins,p.1 ≠ it):Inv X pins σ H { s with heap:=h',toks:=t' }:=by
 have nit:∀ b u,H b=some u→b ≠ it:=fun b u e z=>by rw [z,hn] at e; cases e
 refine I.step (g':=s.gens) (d':=s.drawn) (ch:=[it]) (fun b hb=>?_) (fun b o _ _ hc e _=>k b o (fun z=>hc (by simp [z])) e) (fun b o _ _ hc e _=>⟨o.slots,k b o (fun z=>hc (by simp [z])) e⟩) (fun _ _ _ _ n=>n)
  (fun b o hc e=>⟨o,k b o (fun z=>hc (by simp [z])) e⟩) (fun _ _ e=>e) (fun _ _ _ e=>e) (fun b ps e=>⟨#[],by rw [e]; simp⟩) (fun m hm=>?_) (fun b u e=>?_) I.bare
 ·have e:b=it:=by simpa using hb
  subst e
  exact ⟨h1,hL,h2,h3⟩
 ·obtain ⟨o,es,ep,ho,r⟩:=hm
  exact ⟨o,es,ep,k _ o (Ne.symm hL) ho,r⟩
 ·refine (I.hok b u e).stay (fun c v hc q=>k c v ?_ q) (fun _ q=>q) fun _ _ q=>q
  rcases hc with z | z
  ·rw [z]; exact nit b u e
  ·exact nit c _ z
theorem Inv.tok (I:Inv X pins σ H s) (t:Nat):Inv X pins σ H { s with toks:=t }:=I.un (h':=s.heap) (t':=t) Un.refl I.hok
theorem Inv.kept {t':Nat} (I:Inv X pins σ H s) (k:∀ b u,s.heap.get? b=some u→h'.get? b=some u):Inv X pins σ H { s with heap:=h',toks:=t' }:=I.un (Un.kept k) (I.hok.kept k)
theorem Inv.laid {a:Addr} {o:HO} {t':Nat} (I:Inv X pins σ H s) (k:∀ b u,s.heap.get? b=some u→h'.get? b=some u) (hp:s.heap.objs.size ≤ a) (new:ObjOk X.prog X.w (upd H a o) h' a o) :
  Inv X pins σ (upd H a o) { s with heap:=h',toks:=t' }:=I.un (Un.laid k hp (I.hok.fresh hp)) (I.hok.laid k hp new)
theorem Inv.write {x e:Addr} {o:HO} {t':Nat} (I:Inv X pins σ H s) (mu:Mut (H x)) (he:e=x ∨ H e=some (.own x)) (k:∀ b u,b ≠ e→s.heap.get? b=some u→h'.get? b=some u) (heo:∃ u,h'.get? e=some u)
  (new:ObjOk X.prog X.w (upd H x o) h' x o):Inv X pins σ (upd H x o) { s with heap:=h',toks:=t' }:=I.un (Un.write mu he k heo) (I.hok.write mu he k heo new)
theorem Inv.pins_of {pins':List (Addr × Obj)} (I:Inv X pins σ H s) (h:∀ p ∈ pins',s.heap.get? p.1=some p.2∧H p.1=none∧p.1 ≠ X.env.locals∧p.1 ∉ X.fs∧∀ v,p.2.data ≠ .cell v):Inv X pins' σ H s :=
 ⟨I.ok,I.os,I.bare,I.base,I.loc,I.cell,I.free,I.freeC,fun p hp=>(Zq.mp hp).elim (fun z=>I.pin p (List.mem_append_left _ z)) (h p),I.hok,I.len⟩
theorem nodup_ix {N:List Str} (hN:N.Nodup) {i j:Nat} {x:Str} (a:N[i]?=some x) (b:N[j]?=some x):i=j:=by
 obtain ⟨h1,e1⟩:=Ze.mp a
 obtain ⟨h2,e2⟩:=Ze.mp b
 exact (List.getElem_inj hN).mp (e1.trans e2.symm)
theorem store_ok2 {M:Model} {A:Around} {E:Value→Shared→Prop} {i:Nat} {x:Str} {v:V} {u:Value} {Q:Unit→Shared→Prop} (I:Inv X pins σ H s) (hN:X.N.Nodup) (hi:X.N[i]?=some x) (hx:Loc X.env.scope x) (r:RelV v u)
  (h:∀ s',Inv X pins (σ.set i (some v)) H s'→(∃ a,Heap.SameBut a s.heap s'.heap∧(a=X.env.locals ∨ X.env.cells.lookup x=some a))→Q () s') (hf:X.fn x=true ∨ X.env.scope.names.lookup x=some .local:=by first | exact .inl rfl | exact .inr rfl | assumption):wpAny M A (storeName X.env x u) Q E s:=by
 obtain ⟨m,hn,hl⟩:=id I.loc
 have hcls:(X.env.scope.kind == .class || (X.env.scope.kind == .module && X.env.locals != X.env.globals))=false:=by rw [I.ok.kind]; rfl
 have hiσ:i < σ.length:=by rw [I.len]; exact (Ze.mp hi).1
 have cne:=I.cne
 have tracked:∀ {a:Addr} {h':Heap},(∃ o,s.heap.get? a=some o∧H a=none)→Heap.SameBut a s.heap h'→HOk X.prog X.w H h':=fun {a h'} ha hs b ob e=>by
  obtain ⟨_,_,hfree⟩:=ha
  refine (I.hok b ob e).stay (fun c w' hc q=>(hs.2 c ?_).trans q) (fun _ q=>q) fun _ _ q=>q
  rintro rfl
  rcases hc with rfl | hc
  ·rw [hfree] at e; cases e
  ·rw [hfree] at hc; cases hc
 rcases hx with hk | hk
 ·refine wpAny_storeName_local hk hn (fun h' hn' hs=>?_) hcls
  obtain ⟨oL,_,_,hoL,_⟩:=id hn
  refine h _ ⟨I.ok,I.os,I.bare,⟨fun b o e n hb hx=>?_,fun b o e n hb hx=>?_,I.base.free,fun b o e hx=>?_,I.base.tups,I.base.frzs,I.base.tbls⟩,⟨_,hn',fun j y v' e1 e2 e3=>?_⟩,fun y c e=>?_,I.free,I.freeC,fun p hp=>?_,tracked ⟨oL,hoL,I.free⟩ hs,by simpa using I.len⟩ ⟨_,hs,.inl rfl⟩
  ·exact (hs.2 b (Nat.ne_of_lt (Yd (Heap.lt_size e) I.ok.above))).trans (I.base.keep b o e n hb hx)
  ·obtain ⟨sl,e1⟩:=I.base.slot b o e n hb hx
   exact ⟨sl,(hs.2 b (Nat.ne_of_lt (Yd (Heap.lt_size e) I.ok.above))).trans e1⟩
  ·obtain ⟨o',e1⟩:=I.base.there b o e hx
   exact ⟨o',(hs.2 b (Nat.ne_of_lt (Yd (Heap.lt_size e) I.ok.above))).trans e1⟩
  ·by_cases hj:j=i
   ·subst hj
    rw [hi] at e1; cases e1
    rw [Yh hiσ] at e2
    cases e2
    exact ⟨u,r,.inl ⟨hk,by simp⟩⟩
   ·rw [Yg (Ne.symm hj)] at e2
    obtain ⟨u',r',q⟩:=hl j y v' e1 e2 e3
    refine ⟨u',r',?_⟩
    rcases q with ⟨k,e⟩ | ⟨k,c,e,z⟩
    ·refine .inl ⟨k,?_⟩
     have:y ≠ x:=fun e=>hj (nodup_ix hN e1 (e ▸ hi))
     simp [this,e]
    ·exact .inr ⟨k,c,e,z.sameBut hs (cne y c e)⟩
  ·obtain ⟨w',z⟩:=I.cell y c e
   exact ⟨w',z.sameBut hs (cne y c e)⟩
  ·obtain ⟨e,n,ne,nf,d⟩:=I.pin p hp
   exact ⟨(hs.2 p.1 ne).trans e,n,ne,nf,d⟩
 ·have hfn:X.fn x=true:=by
   rcases hf with z | z
   ·exact z
   ·rw [z] at hk; cases hk
  obtain ⟨c,hc⟩:=I.ok.has x (.inl hk)
  obtain ⟨w',z⟩:=I.cell x c hc
  refine wpAny_storeName_cell I.ok.kind hk hc z (fun h' hc' hs=>?_)
  obtain ⟨oc,hoc,hocd⟩:=id z
  refine h { s with heap:=h' } ⟨I.ok,I.os,I.bare,⟨fun b o e n hb hx=>?_,fun b o e n hb hx=>?_,I.base.free,fun b o e hx=>?_,I.base.tups,I.base.frzs,I.base.tbls⟩,⟨m,hn.sameBut hs (Ne.symm (cne x c hc)),fun j y v' e1 e2 e3=>?_⟩,fun y c' e=>?_,I.free,I.freeC,fun p hp=>?_,tracked ⟨oc,hoc,I.freeC x c hc⟩ hs,by simpa using I.len⟩ ⟨c,hs,.inr hc⟩
  ·exact (hs.2 b (Nat.ne_of_lt (Yd (Heap.lt_size e) (I.ok.cab x c hfn hc)))).trans (I.base.keep b o e n hb hx)
  ·obtain ⟨sl,e1⟩:=I.base.slot b o e n hb hx
   exact ⟨sl,(hs.2 b (Nat.ne_of_lt (Yd (Heap.lt_size e) (I.ok.cab x c hfn hc)))).trans e1⟩
  ·obtain ⟨o',e1⟩:=I.base.there b o e hx
   exact ⟨o',(hs.2 b (Nat.ne_of_lt (Yd (Heap.lt_size e) (I.ok.cab x c hfn hc)))).trans e1⟩
  ·by_cases hj:j=i
   ·subst hj
    rw [hi] at e1; cases e1
    rw [Yh hiσ] at e2
    cases e2
    exact ⟨u,r,.inr ⟨.inl hk,c,hc,hc'⟩⟩
   ·rw [Yg (Ne.symm hj)] at e2
    obtain ⟨u',r',q⟩:=hl j y v' e1 e2 e3
    refine ⟨u',r',?_⟩
    rcases q with q | ⟨k,c',e,z'⟩
    ·exact .inl q
    ·refine .inr ⟨k,c',e,z'.sameBut hs ?_⟩
     rintro rfl
     exact hj (nodup_ix hN e1 (I.ok.inj _ _ _ e hc ▸ hi))
  ·by_cases hcc:c'=c
   ·subst hcc; exact ⟨_,hc'⟩
   ·obtain ⟨w2,z2⟩:=I.cell y c' e
    exact ⟨w2,z2.sameBut hs hcc⟩
  ·obtain ⟨e,n,ne,nf,d⟩:=I.pin p hp
   refine ⟨(hs.2 p.1 ?_).trans e,n,ne,nf,d⟩
   intro q
   rw [q,hoc] at e
   have q':oc=p.2:=Option.some.inj e
   exact d w' (by rw [← q']; exact hocd)
theorem store_ok {M:Model} {A:Around} {E:Value→Shared→Prop} {i:Nat} {x:Str} {v:V} {u:Value} {Q:Unit→Shared→Prop} (I:Inv X pins σ H s) (hN:X.N.Nodup) (hi:X.N[i]?=some x) (hx:Loc X.env.scope x) (r:RelV v u)
  (h:∀ s',Inv X pins (σ.set i (some v)) H s'→Q () s') (hf:X.fn x=true ∨ X.env.scope.names.lookup x=some .local:=by first | exact .inl rfl | exact .inr rfl | assumption):wpAny M A (storeName X.env x u) Q E s :=
 store_ok2 I hN hi hx r (fun s' I' _=>h s' I') hf
theorem Inv.call' {s':Shared} {ch:List Addr} (I:Inv X pins σ H s) (ho:s'.os=s.os) (u:Un (frs X.stack) ch H H' s.heap s'.heap) (hok:HOk X.prog X.w H' s'.heap) (hg:AllBare s'.gens)
  (hch:∀ b ∈ ch,(b ∈ X.ex ∨ X.s₀.heap.objs.size ≤ b)∧b ≠ X.env.locals∧(∀ x c,X.env.cells.lookup x=some c→c ≠ b)∧∀ p ∈ X.pn ++ pins,p.1 ≠ b):Inv X pins σ H' s':=by
 obtain ⟨h',g',d',t',o'⟩:=s'
 have e:o'=s.os:=ho
 subst e
 exact I.call (g':=g') (t':=t') (d':=d') u hok hg hch
end
abbrev XK:=Value→Option Addr→Hp→Prop
abbrev St:=List (Option V)
abbrev VK:=V→Hp→Prop
abbrev TE:=St→Hp→VK→Prop
abbrev TT:=St→Hp→(Bool→Hp→Prop)→Prop
abbrev TA:=St→Hp→(List V→Hp→Prop)→Prop
structure Ends where
 nx:St→Hp→Prop
 rt:VK
 bk:St→Hp→Prop:=fun _ _=>False
 ct:St→Hp→Prop:=fun _ _=>False
abbrev TS:=Ends→St→Hp→Prop
def EP (X:Cx) (pins:List (Addr × Obj)) (σ:St) (Q:VK) (u:Value) (s':Shared):Prop:=∃ v H',Inv X pins σ H' s'∧RelV v u∧Q v H'
def TP (X:Cx) (pins:List (Addr × Obj)) (σ:St) (Q:Bool→Hp→Prop) (b:Bool) (s':Shared):Prop:=∃ H',Inv X pins σ H' s'∧Q b H'
def AP (X:Cx) (pins:List (Addr × Obj)) (σ:St) (Q:List V→Hp→Prop) (us:List Value) (s':Shared):Prop:=∃ vs H',Inv X pins σ H' s'∧Vals vs us∧Q vs H'
def SP (X:Cx) (pins:List (Addr × Obj)) (D:Ends) (f:Flow) (s':Shared):Prop :=
 match f with
 | .next=>∃ σ' H',Inv X pins σ' H' s'∧D.nx σ' H'
 | .brk=>∃ σ' H',Inv X pins σ' H' s'∧D.bk σ' H'
 | .cont=>∃ σ' H',Inv X pins σ' H' s'∧D.ct σ' H'
 | .ret u=>∃ v σ' H',Inv X pins σ' H' s'∧RelV v u∧D.rt v H'
def PE (X:Cx) (e:Expr) (t:TE):Prop :=
 ∀ (pins:List (Addr × Obj)) (s:Shared) (σ:St) (H:Hp) (Q:VK),Inv X pins σ H s→t σ H Q→wpAny (model X.prog X.w) X.A (eval e X.env) (EP X pins σ Q) X.xe s
def PT (X:Cx) (e:Expr) (t:TT):Prop :=
 ∀ (pins:List (Addr × Obj)) (s:Shared) (σ:St) (H:Hp) (Q:Bool→Hp→Prop),Inv X pins σ H s→t σ H Q→wpAny (model X.prog X.w) X.A (isTrue e X.env (eval e X.env)) (TP X pins σ Q) X.xe s
def PW (X:Cx) (e:Expr) (t:TT):Prop :=
 ∀ (whole:Sem Value) (pins:List (Addr × Obj)) (s:Shared) (σ:St) (H:Hp) (Q:Bool→Hp→Prop),Inv X pins σ H s→t σ H Q→wpAny (model X.prog X.w) X.A (isTrue e X.env whole) (TP X pins σ Q) X.xe s
theorem PW.pt {X:Cx} {e:Expr} {t:TT} (h:PW X e t):PT X e t:=h _
def PA (X:Cx) (es:List Expr) (t:TA):Prop :=
 ∀ (pos:Pos) (pins:List (Addr × Obj)) (s:Shared) (σ:St) (H:Hp) (Q:List V→Hp→Prop),Inv X pins σ H s→t σ H Q→wpAny (model X.prog X.w) X.A (spliced (backTo pos (starEach es X.env))) (AP X pins σ Q) X.xe s
def PS (X:Cx) (st:Stmt) (t:TS):Prop :=
 ∀ (pins:List (Addr × Obj)) (s:Shared) (σ:St) (H:Hp) (D:Ends),Inv X pins σ H s→t D σ H→wpAny (model X.prog X.w) X.A (exec st X.env) (SP X pins D) X.xe s
def PSs (X:Cx) (st:List Stmt) (t:TS):Prop :=
 ∀ (pins:List (Addr × Obj)) (s:Shared) (σ:St) (H:Hp) (D:Ends),Inv X pins σ H s→t D σ H→wpAny (model X.prog X.w) X.A (execs st X.env) (SP X pins D) X.xe s
theorem thn {α : Type} {t:Sem α} {Q Q':α→Shared→Prop} {M:Model} {A:Around} {E:Value→Shared→Prop} {s:Shared} (h:wpAny M A t Q E s) (hQ:∀ a s,Q a s→Q' a s):wpAny M A t Q' E s:=wpAny_mono h hQ fun _ _ x=>x
section
variable {X:Cx}
def tVar (i:Nat):TE:=fun σ H Q=>∃ v,σ[i]?=some (some v)∧Q v H
def tC (v:V):TE:=fun _ H Q=>Q v H
theorem pe_var {i:Nat} {x:Str} {pos:Pos} (hN:X.N[i]?=some x) (hv:Vis X.env.scope x) (hd:(x == ("__debug__" : Str))=false:=by decide) (hcd:(x == ("__classdict__" : Str))=false:=by decide):PE X (.Name x pos) (tVar i):=by
 intro pins s σ H Q I h
 obtain ⟨v,e,h⟩:=h
 obtain ⟨m,hn,hl⟩:=I.loc
 obtain ⟨u,r,l⟩:=hl i x v hN e hv
 have fin:EP X pins σ Q u s:=⟨v,H,I,r,h⟩
 rcases l with ⟨hk,hm⟩ | ⟨hk,c,hc,hcell⟩
 ·exact wpAny_Name (wpAny_loadName_local I.ok.kind hk hn hm fin) hd
 ·rcases hk with hk | hk
  ·exact wpAny_Name (wpAny_loadName_cell I.ok.kind hk hc hcell fin) hd
  ·exact wpAny_Name (wpAny_loadName_free I.ok.kind hk hc hcell fin hcd) hd
theorem ja6 {i j pos}:PE X (.Constant (.int i) j pos) (tC (.int i)):=fun _ _ _ H _ I h=>wpAny_Constant_int ⟨.int i,H,I.tok _,⟨_,rfl⟩,h⟩
theorem jh0 {b j pos}:PE X (.Constant (.bool b) j pos) (tC (.bl b)):=fun _ _ _ H _ I h=>Constant_bool ⟨.bl b,H,I,rfl,h⟩
theorem pe_non {j pos}:PE X (.Constant .none j pos) (tC .non):=fun _ _ _ H _ I h=>Constant_none ⟨.non,H,I,rfl,h⟩
theorem pe_str {x j pos}:PE X (.Constant (.str x) j pos) (tC (.str x)):=fun _ _ _ H _ I h=>Calls.Constant_str ⟨.str x,H,I.tok _,⟨_,rfl⟩,h⟩
def Gl (X:Cx) (x:Str):Prop:=X.env.kindOf x=some .globalImplicit
theorem ld_glob {E:Value→Shared→Prop} {pins:List (Addr × Obj)} {s:Shared} {σ:St} {H:Hp} {x:Str} {u:Value} {pos:Pos} {Q:Value→Shared→Prop} (I:Inv X pins σ H s) (hg:Gl X x) (hm:X.mg x=some u) (h:Q u s)
  (hd:(x == ("__debug__" : Str))=false:=by decide):wpAny (model X.prog X.w) X.A (eval (.Name x pos) X.env) Q E s :=
 Calls.Name_function_global I.ok.kind hg (Calls.loadGlobal_global (by rw [I.ok.glob]; exact I.mod.glob.keeps I.bk) hm h) hd
theorem ld_blt {E:Value→Shared→Prop} {pins:List (Addr × Obj)} {s:Shared} {σ:St} {H:Hp} {x:Str} {u:Value} {pos:Pos} {Q:Value→Shared→Prop} (I:Inv X pins σ H s) (hg:Gl X x) (hm:X.mg x=none) (hv:bootBuiltins x=some u) (h:Q u s)
  (hn:x ≠ "__name__":=by decide) (hd:(x == ("__debug__" : Str))=false:=by decide):wpAny (model X.prog X.w) X.A (eval (.Name x pos) X.env) Q E s:=by
 obtain ⟨mb,h1,h2⟩:=I.mod.blt
 exact Calls.Name_function_global I.ok.kind hg (Calls.loadGlobal_builtin (by rw [I.ok.glob]; exact I.mod.glob.keeps I.bk) hm (by rw [I.ok.blt]; exact h1.keeps I.bk) ((h2 x hn).trans hv) h) hd
theorem pe_glob {x:Str} {v:V} {u:Value} {pos:Pos} (hg:Gl X x) (hm:X.mg x=some u) (r:RelV v u) (hd:(x == ("__debug__" : Str))=false:=by decide):PE X (.Name x pos) (tC v) :=
 fun _ _ _ H _ I h=>ld_glob I hg hm ⟨v,H,I,r,h⟩ hd
variable {a b:Expr} {ta tb:TE} {pos:Pos}
def tB (t:TE):TT:=fun σ H Q=>t σ H fun x H1=>∃ c,x=.bl c∧Q c H1
theorem je7 {e:Expr} {t:TE} (h:PE X e t) (he:∀ whole,isTrue e X.env whole=(do let v ← whole; standAt e.pos; holding [v] (truthy v)):=by intro _; rfl):PT X e (tB t):=by
 intro pins s σ H Q I hw
 refine isTrue_plain (thn (h pins s σ H _ I hw) fun v s1 ⟨x,H1,I1,r1,q1⟩=>?_) (he _)
 obtain ⟨d,rfl,q⟩:=q1
 cases r1
 exact wpAny_truthy_bool ⟨H1,I1,q⟩
variable {tA tB':TT} {rest:List Expr}
def tAnd (t u:TT):TT:=fun σ H Q=>t σ H fun c H1=>if c=true then u σ H1 Q else Q false H1
def tOr (t u:TT):TT:=fun σ H Q=>t σ H fun c H1=>if c=true then Q true H1 else u σ H1 Q
def tNot (t:TT):TT:=fun σ H Q=>t σ H fun c H1=>Q (!c) H1
theorem pw_and1 (ha:PT X a tA):PW X (.BoolOp .And [a] pos) tA:=by
 intro wh pins s σ H Q I h
 refine isTrue_and (thn (ha pins s σ H Q I h) fun c s1 e=>?_)
 cases c with
 | true=>exact isTrue_and_nil e
 | false=>exact e
theorem jg7 (ha:PT X a tA):PW X (.BoolOp .Or [a] pos) tA:=by
 intro wh pins s σ H Q I h
 refine isTrue_or (thn (ha pins s σ H Q I h) fun c s1 e=>?_)
 cases c with
 | false=>exact isTrue_or_nil e
 | true=>exact e
theorem pw_and (ha:PT X a tA) (hb:PW X (.BoolOp .And (b :: rest) pos) tB'):PW X (.BoolOp .And (a :: b :: rest) pos) (tAnd tA tB'):=by
 intro wh pins s σ H Q I h
 refine isTrue_and (thn (ha pins s σ H _ I h) fun c s1 ⟨H1,I1,q1⟩=>?_)
 cases c with
 | true=>exact hb wh pins s1 σ H1 Q I1 q1
 | false=>exact ⟨H1,I1,q1⟩
theorem pw_or (ha:PT X a tA) (hb:PW X (.BoolOp .Or (b :: rest) pos) tB'):PW X (.BoolOp .Or (a :: b :: rest) pos) (tOr tA tB'):=by
 intro wh pins s σ H Q I h
 refine isTrue_or (thn (ha pins s σ H _ I h) fun c s1 ⟨H1,I1,q1⟩=>?_)
 cases c with
 | true=>exact ⟨H1,I1,q1⟩
 | false=>exact hb wh pins s1 σ H1 Q I1 q1
theorem je8 (ha:PT X a tA):PT X (.UnaryOp .Not a pos) (tNot tA):=by
 intro pins s σ H Q I h
 exact isTrue_not (ha pins s σ H (fun c H1=>Q (!c) H1) I h)
def tAndV (ta tb:TE):TE:=fun σ H Q=>ta σ H fun x H1=>∃ c,x=.bl c∧if c=true then tb σ H1 Q else Q (.bl false) H1
def tOrV (ta tb:TE):TE:=fun σ H Q=>ta σ H fun x H1=>∃ c,x=.bl c∧if c=true then Q (.bl true) H1 else tb σ H1 Q
def tNotV (ta:TE):TE:=fun σ H Q=>ta σ H fun x H1=>∃ c,x=.bl c∧Q (.bl (!c)) H1
theorem pe_one {op} {t:TE} (h:PE X a t):PE X (.BoolOp op [a] pos) t:=fun pins s σ H Q I hw=>BoolOp_one (h pins s σ H Q I hw)
theorem pe_and (ha:PE X a ta) (hb:PE X (.BoolOp .And (b :: rest) pos) tb):PE X (.BoolOp .And (a :: b :: rest) pos) (tAndV ta tb):=by
 intro pins s σ H Q I h
 refine BoolOp_and (thn (ha pins s σ H _ I h) fun v s1 ⟨x,H1,I1,r1,q1⟩=>?_)
 obtain ⟨c,rfl,q1⟩:=q1
 cases r1
 refine wpAny_truthy_bool ?_
 cases c with
 | true=>exact hb pins s1 σ H1 Q I1 q1
 | false=>exact ⟨.bl false,H1,I1,rfl,q1⟩
theorem pe_or (ha:PE X a ta) (hb:PE X (.BoolOp .Or (b :: rest) pos) tb):PE X (.BoolOp .Or (a :: b :: rest) pos) (tOrV ta tb):=by
 intro pins s σ H Q I h
 refine BoolOp_or (thn (ha pins s σ H _ I h) fun v s1 ⟨x,H1,I1,r1,q1⟩=>?_)
 obtain ⟨c,rfl,q1⟩:=q1
 cases r1
 refine wpAny_truthy_bool ?_
 cases c with
 | false=>exact hb pins s1 σ H1 Q I1 q1
 | true=>exact ⟨.bl true,H1,I1,rfl,q1⟩
theorem pe_not (ha:PE X a ta):PE X (.UnaryOp .Not a pos) (tNotV ta):=by
 intro pins s σ H Q I h
 refine UnaryOp_ (thn (ha pins s σ H _ I h) fun v s1 ⟨x,H1,I1,r1,q1⟩=>?_)
 obtain ⟨c,rfl,q1⟩:=q1
 cases r1
 exact not_of (wpAny_truthy_bool ⟨.bl (!c),H1,I1,rfl,q1⟩)
def tIf (t:TT) (ta tb:TE):TE:=fun σ H Q=>t σ H fun c H1=>if c=true then ta σ H1 Q else tb σ H1 Q
theorem pe_ifExp {c:Expr} (hc:PT X c tA) (ha:PE X a ta) (hb:PE X b tb):PE X (.IfExp c a b pos) (tIf tA ta tb):=by
 intro pins s σ H Q I h
 refine wpAny_IfExp (thn (hc pins s σ H _ I h) fun d s1 ⟨H1,I1,q1⟩=>?_)
 cases d with
 | true=>exact ha pins s1 σ H1 Q I1 q1
 | false=>exact hb pins s1 σ H1 Q I1 q1
end
def SqL (K:PySem.W.Frag) (H:Hp) (a:Addr) (xs:List V):Prop :=
 Rd H a (.lst xs) ∨
  ∃ (o:Obj) (its:Array Value) (n:Nat),K.lookup a=some o∧o.cls=.type "list"∧o.dict=none∧o.data=.seq its n∧its.size ≤ sizeLine∧Vals xs its.toList
def SqT (K:PySem.W.Frag) (H:Hp) (a:Addr) (xs:List V):Prop :=
 Rd H a (.tup xs) ∨
  ∃ (o:Obj) (its:Array Value) (n:Nat),K.lookup a=some o∧o.cls=.type "tuple"∧o.data=.seq its n∧its.size ≤ sizeLine∧Vals xs its.toList
def absV:Value→Option V
 | .none=>some .non
 | .bool b=>some (.bl b)
 | .int i _=>some (.int i)
 | .str x _=>some (.str x)
 | .bytes b _=>some (.byt b)
 | .float b _=>some (.flt b)
 | .ref a=>some (.ref a)
 | .type n=>some (.ty n)
 | _=>none
theorem RelV.abs {x:V} {u:Value} (r:RelV x u):absV u=some x:=by
 cases x with
 | non=>cases r; rfl
 | bl _=>cases r; rfl
 | int _=>obtain ⟨t,rfl⟩:=r; rfl
 | str _=>obtain ⟨t,rfl⟩:=r; rfl
 | byt _=>obtain ⟨t,rfl⟩:=r; rfl
 | flt _=>obtain ⟨t,rfl⟩:=r; rfl
 | ref _=>cases r; rfl
 | ty _=>cases r; rfl
theorem RelV.inj {x y:V} {u:Value} (r:RelV x u) (q:RelV y u):x=y:=Option.some.inj (r.abs.symm.trans q.abs)
theorem Vals.inj:∀ {xs ys:List V} {us:List Value},Vals xs us→Vals ys us→xs=ys
 | _,_,_,.nil,.nil=>rfl
 | _,_,_,.cons r t,.cons r' t'=>by rw [r.inj r',Vals.inj t t']
section
variable {X:Cx} {pins:List (Addr × Obj)} {σ:St} {H:Hp} {s:Shared} {a:Addr} {xs ys:List V}
theorem SqL.of {K:PySem.W.Frag} (h:H a=some (.lst xs)):SqL K H a xs:=.inl (.inl h)
theorem SqT.of {K:PySem.W.Frag} (h:H a=some (.tup xs)):SqT K H a xs:=.inl (.inl h)
theorem Inv.list (I:Inv X pins σ H s) (h:SqL X.K H a xs):∃ its:List Value,Vals xs its∧PlainL s.heap a its.toArray∧xs.length ≤ sizeLine:=by
 rcases h with h | ⟨o,its,n,hk,hc,hd,hs,hz,r⟩
 ·obtain ⟨z,its,n,r,e⟩:=h.ok I.hok
  exact ⟨its,r,⟨_,n,e,rfl,rfl,rfl⟩,z⟩
 ·refine ⟨its.toList,r,⟨o,n,I.kIn a o hk,hc,hd,by simpa using hs⟩,?_⟩
  have e:=r.length
  simp only [Array.length_toList] at e
  omega
theorem Inv.tuple (I:Inv X pins σ H s) (h:SqT X.K H a xs):∃ its:List Value,Vals xs its∧IsTup s.heap a its.toArray∧xs.length ≤ sizeLine:=by
 rcases h with h | ⟨o,its,n,hk,hc,hs,hz,r⟩
 ·obtain ⟨z,its,r,p⟩:=h.ok I.hok
  exact ⟨its,r,p,z⟩
 ·refine ⟨its.toList,r,⟨o,I.kIn a o hk,hc,n,by simpa using hs⟩,?_⟩
  have e:=r.length
  simp only [Array.length_toList] at e
  omega
theorem Inv.list_inj (I:Inv X pins σ H s) (h:SqL X.K H a xs) (h':SqL X.K H a ys):xs=ys:=by
 obtain ⟨its,r,⟨o,n,e,_,_,d⟩,_⟩:=I.list h
 obtain ⟨its',r',⟨o',n',e',_,_,d'⟩,_⟩:=I.list h'
 rw [e] at e'; cases e'
 rw [d] at d'
 injection d' with d1 _
 have:its=its':=by simpa using congrArg Array.toList d1
 subst this
 exact r.inj r'
theorem Inv.tuple_inj (I:Inv X pins σ H s) (h:SqT X.K H a xs) (h':SqT X.K H a ys):xs=ys:=by
 obtain ⟨its,r,⟨o,e,_,n,d⟩,_⟩:=I.tuple h
 obtain ⟨its',r',⟨o',e',_,n',d'⟩,_⟩:=I.tuple h'
 rw [e] at e'; cases e'
 rw [d] at d'
 injection d' with d1 _
 have:its=its':=by simpa using congrArg Array.toList d1
 subst this
 exact r.inj r'
end
abbrev Cx.wish (X:Cx) (E:Value→Shared→Prop):Cx:={ X with xe:=E }
abbrev Cx.nox (X:Cx):Cx:=X.wish fun _ _=>False
theorem Cx.Ok.wish {X:Cx} (ok:X.Ok) (E:Value→Shared→Prop):(X.wish E).Ok :=
 ⟨ok.mod,ok.kind,ok.glob,ok.blt,ok.above,ok.inj,ok.has,ok.cab,ok.hd,ok.frames,ok.stk,ok.exf,ok.bs,ok.bsz,ok.noex,ok.exfs,ok.funs,ok.frf⟩
theorem Cx.Ok.unwish {X:Cx} {E:Value→Shared→Prop} (ok:(X.wish E).Ok):X.Ok :=
 ⟨ok.mod,ok.kind,ok.glob,ok.blt,ok.above,ok.inj,ok.has,ok.cab,ok.hd,ok.frames,ok.stk,ok.exf,ok.bs,ok.bsz,ok.noex,ok.exfs,ok.funs,ok.frf⟩
section
variable {X:Cx} {pins:List (Addr × Obj)} {σ:St} {H:Hp} {s:Shared} {E:Value→Shared→Prop}
theorem Inv.wish (I:Inv X pins σ H s) (E:Value→Shared→Prop):Inv (X.wish E) pins σ H s:=⟨I.ok.wish E,I.os,I.bare,I.base,I.loc,I.cell,I.free,I.freeC,I.pin,I.hok,I.len⟩
theorem Inv.unwish (I:Inv (X.wish E) pins σ H s):Inv X pins σ H s:=⟨I.ok.unwish,I.os,I.bare,I.base,I.loc,I.cell,I.free,I.freeC,I.pin,I.hok,I.len⟩
theorem SP.unwish {D:Ends} {f:Flow} {s':Shared} (h:SP (X.wish E) pins D f s'):SP X pins D f s':=by
 cases f with
 | next=>obtain ⟨σ',H',I,q⟩:=h; exact ⟨σ',H',I.unwish,q⟩
 | brk=>obtain ⟨σ',H',I,q⟩:=h; exact ⟨σ',H',I.unwish,q⟩
 | cont=>obtain ⟨σ',H',I,q⟩:=h; exact ⟨σ',H',I.unwish,q⟩
 | ret u=>obtain ⟨v,σ',H',I,r,q⟩:=h; exact ⟨v,σ',H',I.unwish,r,q⟩
theorem PSs.nox {st:List Stmt} {t:TS} (h:PSs X.nox st t):PSs X st t:=fun pins s σ H D I hw =>
 wpAny_mono (h pins s σ H D (I.wish _) hw) (fun _ _ q=>q.unwish) fun _ _ z=>False.elim z
end
section
variable {X:Cx} {st:Stmt} {rest:List Stmt} {t u:TS} {e:Expr} {te:TE} {pos:Pos}
def tNext:TS:=fun D σ H=>D.nx σ H
def tSeq (t u:TS):TS:=fun D σ H=>t { D with nx:=u D } σ H
theorem jc6:PSs X [] tNext:=fun _ _ σ H _ I h=>wpAny_execs_nil ⟨σ,H,I,h⟩
theorem ja9 (h1:PS X st t) (h2:PSs X rest u):PSs X (st :: rest) (tSeq t u):=by
 intro pins s σ H D I h
 refine wpAny_execs_cons (thn (h1 pins s σ H { D with nx:=u D } I h) fun f s1 q=>?_)
 cases f with
 | next =>
  obtain ⟨σ',H',I',q⟩:=q
  exact h2 pins s1 σ' H' D I' q
 | ret v=>exact q
 | brk=>exact q
 | cont=>exact q
theorem ja7 (h1:PS X st t):PSs X [st] t:=by
 intro pins s σ H D I h
 refine wpAny_execs_cons (thn (h1 pins s σ H D I h) fun f s1 q=>?_)
 cases f with
 | next=>exact wpAny_execs_nil q
 | ret v=>exact q
 | brk=>exact q
 | cont=>exact q
theorem Inv.quiet {pins:List (Addr × Obj)} {σ:St} {H:Hp} {s:Shared} (I:Inv X pins σ H s):interactive X.env=false:=by simp [interactive,I.ok.kind]
def tDrop (te:TE):TS:=fun D σ H=>te σ H fun _ H1=>D.nx σ H1
theorem ps_expr (he:PE X e te) (hs:swapsWith e none pos.line X.env=pure false:=by rfl):PS X (.Expr e pos) (tDrop te):=by
 intro pins s σ H D I h
 exact wpAny_Expr_any (thn (he pins s σ H _ I h) fun v s1 ⟨x,H1,I1,r1,q1⟩=>⟨σ,H1,I1,q1⟩) I.quiet hs
def tRet (te:TE):TS:=fun D σ H=>te σ H D.rt
theorem jb7 (he:PE X e te):PS X (.Return (some e) pos) (tRet te):=by
 intro pins s σ H D I h
 exact wpAny_Return_some (thn (he pins s σ H _ I h) fun v s1 ⟨x,H1,I1,r1,q1⟩=>⟨x,σ,H1,I1,r1,q1⟩)
def tIfS (c:TT) (t u:TS):TS:=fun D σ H=>c σ H fun b H1=>if b=true then t D σ H1 else u D σ H1
theorem jf6 {c:Expr} {a b:List Stmt} {tc:TT} (hc:PT X c tc) (ha:PSs X a t) (hb:PSs X b u):PS X (.If c a b pos) (tIfS tc t u):=by
 intro pins s σ H D I h
 refine wpAny_If (thn (hc pins s σ H _ I h) fun d s1 ⟨H1,I1,q1⟩=>?_)
 cases d with
 | true=>exact ha pins s1 σ H1 D I1 q1
 | false=>exact hb pins s1 σ H1 D I1 q1
end
abbrev TG:=V→St→Hp→(St→Hp→Prop)→Prop
abbrev TGs:=List V→St→Hp→(St→Hp→Prop)→Prop
def PG (X:Cx) (target:Expr) (t:TG):Prop :=
 ∀ (pins:List (Addr × Obj)) (s:Shared) (σ:St) (H:Hp) (v:V) (u:Value) (Q:St→Hp→Prop),Inv X pins σ H s→RelV v u→t v σ H Q →
  wpAny (model X.prog X.w) X.A (assign target X.env u) (fun _ s'=>∃ σ' H',Inv X pins σ' H' s'∧Q σ' H') X.xe s
def PGs (X:Cx) (ts:List Expr) (t:TGs):Prop :=
 ∀ (pins:List (Addr × Obj)) (s:Shared) (σ:St) (H:Hp) (vs:List V) (us:List Value) (Q:St→Hp→Prop),Inv X pins σ H s→Vals vs us→t vs σ H Q →
  wpAny (model X.prog X.w) X.A (assignInOrder ((assignEach ts X.env).map (·.2)) us) (fun _ s'=>∃ σ' H',Inv X pins σ' H' s'∧Q σ' H') X.xe s
abbrev TSet:=V→V→V→Hp→(Hp→Prop)→Prop
def PSet (X:Cx) (t:TSet):Prop :=
 ∀ (pins:List (Addr × Obj)) (s:Shared) (σ:St) (H:Hp) (o i v:V) (ov iv u:Value) (Q:Hp→Prop),Inv X pins σ H s→RelV o ov→RelV i iv→RelV v u→t o i v H Q →
  wpAny (model X.prog X.w) X.A (setItem ov iv u) (fun _ s'=>∃ H',Inv X pins σ H' s'∧Q H') X.xe s
section
variable {X:Cx} {pos:Pos}
def gName (i:Nat):TG:=fun v σ H Q=>Q (σ.set i (some v)) H
theorem jb0 {i:Nat} {x:Str} (hN:X.N.Nodup) (hi:X.N[i]?=some x) (hx:Loc X.env.scope x) (hf:X.fn x=true ∨ X.env.scope.names.lookup x=some .local:=by first | exact .inl rfl | exact .inr rfl | assumption):PG X (.Name x pos) (gName i):=by
 intro pins s σ H v u Q I r h
 exact wpAny_assign_Name (store_ok I hN hi hx r (fun s' I'=>⟨_,H,I',h⟩) hf)
def gNil:TGs:=fun vs σ H Q=>vs=[]∧Q σ H
def gCons (t:TG) (u:TGs):TGs:=fun vs σ H Q=>∃ v r,vs=v :: r∧t v σ H fun σ' H'=>u r σ' H' Q
theorem jg5:PGs X [] gNil:=by
 intro pins s σ H vs us Q I r h
 obtain ⟨e,h⟩:=h
 subst e
 cases r
 exact assignInOrder_nil ⟨σ,H,I,h⟩
theorem jc5 {e:Expr} {es:List Expr} {t:TG} {u:TGs} (h1:PG X e t) (h2:PGs X es u)
  (hs:(assignEach (e :: es) X.env).map (·.2)=assign e X.env :: (assignEach es X.env).map (·.2):=by rfl):PGs X (e :: es) (gCons t u):=by
 intro pins s σ H vs us Q I r h
 obtain ⟨v,vr,e1,h⟩:=h
 subst e1
 cases r with
 | cons r rr =>
  rw [hs]
  refine assignInOrder_cons (thn (h1 pins s σ H _ _ _ I r h) fun _ s1 ⟨σ1,H1,I1,q1⟩=>?_)
  exact h2 pins s1 σ1 H1 _ _ Q I1 rr q1
def gTup (K:PySem.W.Frag) (n:Nat) (t:TGs):TG:=fun v σ H Q=>∃ a xs,v=.ref a∧SqT K H a xs∧xs.length=n∧t xs σ H Q
theorem pg_tup {es:List Expr} {k:Nat} {t:TGs} {n:Nat} (hc:X.calm=true) (h:PGs X es t)
  (hn:(assignEach es X.env).length=n:=by rfl) (hst:(assignEach es X.env).findIdx? (·.1)=none:=by rfl):PG X (.Tuple es k pos) (gTup X.K n t):=by
 intro pins s σ H v u Q I r hw
 obtain ⟨a,xs,e1,hq,hl,hw⟩:=hw
 subst e1
 cases r
 obtain ⟨its,rv,ht,hz⟩:=I.tuple hq
 refine assign_Tuple_tuple (I.ok.hd hc) ht (by simp [hn,← hl,rv.length]) hst fun h' hx=>?_
 have I1:Inv X pins σ H { s with heap:=h' }:=I.kept (t':=s.toks) fun b o e=>hx b o (Nat.ne_of_lt (Heap.lt_size e)) e
 exact h pins _ σ H xs _ Q I1 (by simpa using rv) hw
def gSub (to ti:TE) (t:TSet):TG:=fun v σ H Q=>to σ H fun o H1=>ti σ H1 fun i H2=>t o i v H2 fun H3=>Q σ H3
theorem pg_sub {o i:Expr} {to ti:TE} {t:TSet} (ho:PE X o to) (hi:PE X i ti) (hs:PSet X t)
  (ha:∀ v,assign (.Subscript o i pos) X.env v=(do
   let ov ← holding [v] (eval o X.env)
   let iv ← holding [v,ov] (eval i X.env)
   standAt pos
   holding [v,ov,iv] (setItem ov iv v)
   release [v,ov,iv] []):=by intro _; rfl):PG X (.Subscript o i pos) (gSub to ti t):=by
 intro pins s σ H v u Q I r h
 rw [ha]
 refine Za (wpAny_holding (thn (ho pins s σ H _ I h) fun ov s1 ⟨x,H1,I1,r1,q1⟩=>?_))
 refine Za (wpAny_holding (thn (hi pins s1 σ H1 _ I1 q1) fun iv s2 ⟨y,H2,I2,r2,q2⟩=>?_))
 refine Za (wpAny_standAt (Za (wpAny_holding (thn (hs pins s2 σ H2 x y v ov iv u _ I2 r1 r2 r q2) fun _ s3 ⟨H3,I3,q3⟩=>?_))))
 exact wpAny_release ⟨σ,H3,I3,q3⟩
def tAsg (te:TE) (g:TG):TS:=fun D σ H=>te σ H fun x H1=>g x σ H1 D.nx
theorem ps_asg {tg e:Expr} {te:TE} {g:TG} (he:PE X e te) (hg:PG X tg g) (hs:swapsWithSole [tg] e pos.line X.env=pure false:=by rfl) (hw:swappedStores [tg] e X.env=pure none:=by rfl)
  (h1:(assignEach [tg] X.env).map (·.2)=[assign tg X.env]:=by rfl):PS X (.Assign [tg] e pos) (tAsg te g):=by
 intro pins s σ H D I h
 refine wpAny_Assign_stores (thn (he pins s σ H _ I h) fun v s1 ⟨x,H1,I1,r1,q1⟩=>?_) hs hw
 rw [h1]
 exact thn (hg pins s1 σ H1 x v _ I1 r1 q1) fun _ s2 q=>q
theorem jd7 {i:Nat} {x:Str} {e:Expr} {te:TE} {pos':Pos} (hN:X.N.Nodup) (hi:X.N[i]?=some x) (hx:Loc X.env.scope x) (he:PE X e te) (hs:swapsWith e (some (.Name x pos')) pos.line X.env=pure false:=by rfl) (hf:X.fn x=true ∨ X.env.scope.names.lookup x=some .local:=by first | exact .inl rfl | exact .inr rfl | assumption) :
  PS X (.Assign [.Name x pos'] e pos) (tAsg te (gName i)):=by
 intro pins s σ H D I h
 refine wpAny_Assign_Name (thn (he pins s σ H _ I h) fun v s1 ⟨y,H1,I1,r1,q1⟩=>?_) hs
 exact store_ok I1 hN hi hx r1 (fun s2 I2=>⟨_,H1,I2,q1⟩) hf
def tPar (i j:Nat) (ta:TA):TS:=fun D σ H=>ta σ H fun vs H1=>∃ v w,vs=[v,w]∧D.nx ((σ.set i (some v)).set j (some w)) H1
theorem ps_par {i j:Nat} {x y:Str} {a b:Expr} {ta:TA} {px py pt:Pos} {kt k2 pt2} (hc:X.calm=true) (hN:X.N.Nodup) (hi:X.N[i]?=some x) (hj:X.N[j]?=some y) (hij:i ≠ j)
  (hx:X.env.scope.names.lookup x=some .local) (hy:X.env.scope.names.lookup y=some .local) (ha:PA X [a,b] ta)
  (hw:swappedStores [.Tuple [.Name x px,.Name y py] kt pt] (.Tuple [a,b] k2 pt2) X.env=pure (some [x,y]))
  (hs:swapsWithSole [.Tuple [.Name x px,.Name y py] kt pt] (.Tuple [a,b] k2 pt2) pos.line X.env=pure false:=by rfl) :
  PS X (.Assign [.Tuple [.Name x px,.Name y py] kt pt] (.Tuple [a,b] k2 pt2) pos) (tPar i j ta):=by
 intro pins s σ H D I h
 rw [exec_Assign_arm]
 refine Za (wpAny_standAt ?_)
 rw [hs]
 refine Za (wpAny_pure ?_)
 rw [if_neg (by decide)]
 refine Za (Tuple_ (thn (ha _ pins s σ H _ I h) fun us s1 ⟨vs,H1,I1,r1,q1⟩=>?_))
 obtain ⟨v,w,e1,q1⟩:=q1
 subst e1
 obtain ⟨u1,u2,rfl,rv,rw'⟩:∃ u1 u2,us=[u1,u2]∧RelV v u1∧RelV w u2:=by
  cases r1 with
  | cons p q =>
   cases q with
   | cons p' q' =>
    cases q'
    exact ⟨_,_,rfl,p,p'⟩
 refine wpAny_newObj_type ?_ (by show 2 ≤ sizeLine; decide)
 have I2:Inv X pins σ H1 { s1 with heap:=s1.heap.push { cls:=.type "tuple",data:=.seq [u1,u2].toArray } }:=I1.kept (t':=s1.toks) fun b o e=>Heap.get?_push_of_some _ e
 rw [hw]
 refine Za (wpAny_pure ?_)
 show wpAny (model X.prog X.w) X.A (do rule "assign.swapped-stores"; let items ← unpackItems (.ref s1.heap.objs.size) 2 none; assignInOrder [fun v=>bindName X.env y v,fun v=>bindName X.env x v] items.reverse; pure Flow.next) _ _ _
 refine Za (wpAny_rule (Za (unpackItems_tuple (items:=#[u1,u2]) (I.ok.hd hc) (IsTup.new s1.heap _) fun h' hx'=>?_)))
 have I3:=I2.kept (h':=h') (t':=s1.toks) fun b o e=>hx' b o (Nat.ne_of_lt (Heap.lt_size e)) e
 show wpAny _ _ (assignInOrder [fun v=>bindName X.env y v,fun v=>bindName X.env x v] [u2,u1] >>= fun _=>pure Flow.next) _ _ _
 refine Za (assignInOrder_cons (wpAny_bindName (store_ok I3 hN hj (.inl hy) rw' (fun s2 I4=>?_) (.inr hy))))
 refine assignInOrder_cons (wpAny_bindName (store_ok I4 hN hi (.inl hx) rv (fun s3 I5=>assignInOrder_nil (wpAny_pure ?_)) (.inr hx)))
 rw [List.set_comm _ _ (Ne.symm hij)] at I5
 exact ⟨_,H1,I5,q1⟩
end
section
variable {X:Cx} {pos:Pos}
def tWhile (c:TT) (tb:TS):TS:=fun D σ H=>∃ W:Nat→St→Hp→Prop,(∃ m,W m σ H)∧∀ m σ H,W m σ H →
 c σ H fun b H1=>if b=true then ∃ N:St→Hp→Prop,(∀ σ' H',N σ' H'→∃ m',m' < m∧W m' σ' H')∧tb { D with nx:=N,ct:=N,bk:=D.nx } σ H1 else D.nx σ H1
theorem ps_while {c:Expr} {body:List Stmt} {tc:TT} {tb:TS} (hp:PassesOwn (model X.prog X.w) X.A X.env X.xe) (hc:PT X c tc) (hb:PSs X body tb):PS X (.While c body [] pos) (tWhile tc tb):=by
 intro pins s σ H D I h
 obtain ⟨W,⟨m0,w0⟩,turn⟩:=h
 refine wpAny_While (codeAny_whileLoop (fun n s'=>∃ σ' H',Inv X pins σ' H' s'∧W n σ' H') ?_ m0 ⟨σ,H,I,w0⟩)
 rintro n s1 ⟨σ1,H1,I1,w1⟩
 refine wpAny_passesOwn hp (thn (hc pins s1 σ1 H1 _ I1 (turn n σ1 H1 w1)) fun b s2 ⟨H2,I2,q2⟩=>?_)
 cases b with
 | true =>
  obtain ⟨N,hN,q2⟩:=q2
  rw [if_pos rfl]
  refine wpAny_passesOwn hp (thn (hb pins s2 σ1 H2 _ I2 q2) fun f s3 q3=>?_)
  cases f with
  | next =>
   obtain ⟨σ3,H3,I3,n3⟩:=q3
   obtain ⟨m',hm,w3⟩:=hN σ3 H3 n3
   exact ⟨m',hm,σ3,H3,I3,w3⟩
  | cont =>
   obtain ⟨σ3,H3,I3,n3⟩:=q3
   obtain ⟨m',hm,w3⟩:=hN σ3 H3 n3
   exact ⟨m',hm,σ3,H3,I3,w3⟩
  | brk=>exact q3
  | ret v=>exact q3
 | false =>
  rw [if_neg Zv]
  exact wpAny_execs_nil ⟨σ1,H2,I2,q2⟩
end
structure It where
 go:Nat→Hp→Prop
 yld:Nat→Hp→V→Hp→Prop
 stop:Nat→Hp→Prop
def FpOk (X:Cx) (pins:List (Addr × Obj)) (H:Hp) (b:Addr):Prop :=
 H b=none∧b ≠ X.env.locals∧b ∉ X.fs∧(b ∈ X.ex ∨ X.s₀.heap.objs.size ≤ b)∧(∀ x c,X.env.cells.lookup x=some c→c ≠ b)∧∀ p ∈ X.pn ++ pins,p.1 ≠ b
theorem Inv.fpOk {X:Cx} {pins:List (Addr × Obj)} {σ:St} {H H':Hp} {s:Shared} {b:Addr} (I:Inv X pins σ H s) (hb:s.heap.objs.size ≤ b) (hn:H' b=none):FpOk X pins H' b:=by
 refine ⟨hn,Nat.ne_of_gt (Yd I.lt hb),I.nofs hb,.inr (Zl I.sz hb),fun x c e z=>?_,fun p hp z=>?_⟩
 ·obtain ⟨v,q⟩:=I.cell x c e
  exact absurd (Yd q.lt (by rw [z]; exact hb)) (Nat.lt_irrefl _)
 ·exact absurd (Yd (Heap.lt_size (I.pin p hp).1) (by rw [z]; exact hb)) (Nat.lt_irrefl _)
structure Turn (P:Program) (w:World) (K:PySem.W.Frag) (tg:Expr) (J:It) (fp:List Addr) (it:Addr) (tn:Nat→Heap→Prop):Prop where
 mem:it ∈ fp
 obj:∀ i h,tn i h→∀ b ∈ fp,∃ o,h.get? b=some o∧∀ v,o.data ≠ .cell v
 keep:∀ i h h',tn i h→(∀ b ∈ fp,∀ o,h.get? b=some o→h'.get? b=some o)→tn i h'
 item:∀ (X:Cx),X.prog=P→X.w=w→X.K=K→X.calm=true→∀ (i:Nat) (pins:List (Addr × Obj)) (s:Shared) (σ:St) (H:Hp) (E:Value→Shared→Prop),Inv X pins σ H s→(∀ b ∈ fp,FpOk X pins H b)→tn i s.heap→J.go i H →
  wpAny (model P w) X.A (pyNext (.ref it)) (fun r s1=>∃ u,r=some u ∧
   wpAny (model P w) X.A (letOwnedTupleGo tg (.ref it) u) (fun _ s2=>∃ x H',Inv X pins σ H' s2∧RelV x u∧J.yld i H x H'∧tn (i + 1) s2.heap∧∀ b ∈ fp,H' b=none) E s1) E s
 done:∀ (X:Cx),X.prog=P→X.w=w→X.K=K→X.calm=true→∀ (i:Nat) (pins:List (Addr × Obj)) (s:Shared) (σ:St) (H:Hp) (E:Value→Shared→Prop),Inv X pins σ H s→(∀ b ∈ fp,FpOk X pins H b)→tn i s.heap→J.stop i H →
  wpAny (model P w) X.A (pyNext (.ref it)) (fun r s1=>r=none∧Inv X pins σ H s1) E s
 self:∀ (A:Around) (i:Nat) (s:Shared) (Q:Value→Shared→Prop) (E:Value→Shared→Prop),tn i s.heap→Q (.ref it) s→wpAny (model P w) A (pyIter (.ref it)) Q E s
abbrev TI:=St→Hp→(It→Hp→Prop)→Prop
def PIE (X:Cx) (pins:List (Addr × Obj)) (σ:St) (tg:Expr) (R:It→Hp→Prop) (itv:Value) (s2:Shared):Prop :=
 ∃ (it:Addr) (fp:List Addr) (tn:Nat→Heap→Prop) (J:It) (H':Hp),itv=.ref it∧Inv X pins σ H' s2∧Turn X.prog X.w X.K tg J fp it tn∧tn 0 s2.heap∧(∀ b ∈ fp,FpOk X pins H' b)∧R J H'
def PI (X:Cx) (tg iter:Expr) (wi:TI):Prop :=
 ∀ (pins:List (Addr × Obj)) (s:Shared) (σ:St) (H:Hp) (R:It→Hp→Prop),Inv X pins σ H s→wi σ H R →
  wpAny (model X.prog X.w) X.A (eval iter X.env) (fun v s1=>wpAny (model X.prog X.w) X.A (pyIter v) (PIE X pins σ tg R) X.xe s1) X.xe s
theorem go_of {M:Model} {A:Around} {E:Value→Shared→Prop} {s:Shared} {tg:Expr} {it:Addr} {u:Value} {o:Obj} {n:String} {vs:Array Value} {Q:Unit→Shared→Prop} (ho:s.heap.get? it=some o) (hc:o.cls=.type n) (hd:o.data=.fields vs)
  (hn:["enumerate","zip","dict_itemiterator","dict_reverseitemiterator","odict_iterator","itertools.zip_longest","itertools.pairwise"].contains n=false) (hQ:Q () s):wpAny M A (letOwnedTupleGo tg (.ref it) u) Q E s:=by
 unfold letOwnedTupleGo
 cases tg <;> first
  | exact wpAny_pure hQ
  | (cases u <;> first
    | exact wpAny_pure hQ
    | (refine Za (wpAny_load ho ?_); rw [hc,hd]; show wpAny M A (if (["enumerate","zip","dict_itemiterator","dict_reverseitemiterator","odict_iterator","itertools.zip_longest","itertools.pairwise"].contains n && vs[0]? == some (rawInt _))=true then _ else _) Q E s; rw [if_neg (by intro h; rw [hn,Bool.false_and] at h; cases h)]; exact wpAny_pure hQ))
def Itl (K:PySem.W.Frag) (a:Addr):It :=
 ⟨fun i H=>∃ xs x,SqL K H a xs∧xs[i]?=some x,fun i H x H'=>H'=H∧∀ xs,SqL K H a xs→xs[i]?=some x,fun i H=>∃ xs,SqL K H a xs∧xs.length ≤ i⟩
def Itt (K:PySem.W.Frag) (a:Addr):It :=
 ⟨fun i H=>∃ xs x,SqT K H a xs∧xs[i]?=some x,fun i H x H'=>H'=H∧∀ xs,SqT K H a xs→xs[i]?=some x,fun i H=>∃ xs,SqT K H a xs∧xs.length ≤ i⟩
def Itr (lo:Int) (n:Nat):It:=⟨fun i _=>i < n,fun i H x H'=>H'=H∧x=.int (lo + i),fun i _=>n ≤ i⟩
theorem turn_list {P:Program} {w:World} {K:PySem.W.Frag} {tg:Expr} (a it:Addr):Turn P w K tg (Itl K a) [it] it (fun i h=>h.IsListIter it a i) where
 mem:=by simp
 obj:=fun i h st b hb=>by
  have e:b=it:=by simpa using hb
  subst e
  obtain ⟨o,e,c,d⟩:=st
  exact ⟨o,e,fun v z=>by rw [d] at z; cases z⟩
 keep:=fun i h h' st k=>st.at fun o e=>k it (by simp) o e
 item:=by
  intro X hP hw hK hc i pins s σ H E I hf st hg
  subst hP hw hK
  obtain ⟨xs,x,hq,hx⟩:=hg
  obtain ⟨its,rv,p,hz⟩:=I.list hq
  obtain ⟨u,hu,ru⟩:=rv.get hx
  obtain ⟨f0,f1,f2,f3,f4,f5⟩:=hf it (by simp)
  refine wpAny_pyNext_list_item st p.isList (x:=u) (by simpa using hu) fun h' st' sb=>?_
  have I1:Inv X pins σ H { s with heap:=h' }:=I.turned (t':=s.toks) (fun b o hb e=>(sb.2 b hb).trans e) f0 f1 f3 f4 f5
  obtain ⟨o,e,c,d⟩:=id st'
  exact ⟨u,rfl,go_of (s:={ s with heap:=h' }) e c d (by decide) ⟨x,H,I1,ru,⟨rfl,fun ys hy=>by rw [I.list_inj hy hq]; exact hx⟩,st',fun b hb=>(hf b hb).1⟩⟩
 done:=by
  intro X hP hw hK hc i pins s σ H E I hf st hg
  subst hP hw hK
  obtain ⟨xs,hq,hx⟩:=hg
  obtain ⟨its,rv,p,hz⟩:=I.list hq
  obtain ⟨f0,f1,f2,f3,f4,f5⟩:=hf it (by simp)
  have hl:=rv.length
  exact wpAny_pyNext_list_end (I.ok.hd hc) st p.isList (by simp; omega) fun h' eb=>⟨rfl,I.turned (t':=s.toks) (fun b o hb e=>eb b o hb e) f0 f1 f3 f4 f5⟩
 self:=fun _ _ _ _ _ st h=>wpAny_pyIter_listiter st h
theorem turn_tuple {P:Program} {w:World} {K:PySem.W.Frag} {tg:Expr} (a it:Addr):Turn P w K tg (Itt K a) [it] it (fun i h=>h.IsTupleIter it a i) where
 mem:=by simp
 obj:=fun i h st b hb=>by
  have e:b=it:=by simpa using hb
  subst e
  obtain ⟨o,e,c,d⟩:=st
  exact ⟨o,e,fun v z=>by rw [d] at z; cases z⟩
 keep:=fun i h h' st k=>st.at fun o e=>k it (by simp) o e
 item:=by
  intro X hP hw hK hc i pins s σ H E I hf st hg
  subst hP hw hK
  obtain ⟨xs,x,hq,hx⟩:=hg
  obtain ⟨its,rv,p,hz⟩:=I.tuple hq
  obtain ⟨u,hu,ru⟩:=rv.get hx
  obtain ⟨f0,f1,f2,f3,f4,f5⟩:=hf it (by simp)
  refine wpAny_pyNext_tuple_item st (show s.heap.IsTuple a its.toArray from p) (x:=u) (by simpa using hu) fun h' st' sb=>?_
  have I1:Inv X pins σ H { s with heap:=h' }:=I.turned (t':=s.toks) (fun b o hb e=>(sb.2 b hb).trans e) f0 f1 f3 f4 f5
  obtain ⟨o,e,c,d⟩:=id st'
  exact ⟨u,rfl,go_of (s:={ s with heap:=h' }) e c d (by decide) ⟨x,H,I1,ru,⟨rfl,fun ys hy=>by rw [I.tuple_inj hy hq]; exact hx⟩,st',fun b hb=>(hf b hb).1⟩⟩
 done:=by
  intro X hP hw hK hc i pins s σ H E I hf st hg
  subst hP hw hK
  obtain ⟨xs,hq,hx⟩:=hg
  obtain ⟨its,rv,p,hz⟩:=I.tuple hq
  obtain ⟨f0,f1,f2,f3,f4,f5⟩:=hf it (by simp)
  have hl:=rv.length
  exact wpAny_pyNext_tuple_end (I.ok.hd hc) st (show s.heap.IsTuple a its.toArray from p) (by simp; omega) fun h' eb=>⟨rfl,I.turned (t':=s.toks) (fun b o hb e=>eb b o hb e) f0 f1 f3 f4 f5⟩
 self:=fun _ _ _ _ _ st h=>wpAny_pyIter_tupleiter st h
theorem turn_range {P:Program} {w:World} {K:PySem.W.Frag} {tg:Expr} (it:Addr) (lo:Int) (n:Nat):Turn P w K tg (Itr lo n) [it] it (fun i h=>IsRangeIter h it (lo + (i:Nat) * 1) ((n:Int) - (i:Nat)) 1) where
 mem:=by simp
 obj:=fun i h st b hb=>by
  have e:b=it:=by simpa using hb
  subst e
  exact ⟨_,st,fun v z=>by
   have z':Data.fields _=Data.cell v:=z
   cases z'⟩
 keep:=fun i h h' st k=>k it (by simp) _ st
 item:=by
  intro X hP hw hK hc i pins s σ H E I hf st hg
  subst hP hw hK
  obtain ⟨f0,f1,f2,f3,f4,f5⟩:=hf it (by simp)
  have W:=Walks.range (prog:=X.prog) (w:=X.w) (I.ok.hd hc) it lo 1 n
  refine W.item i s _ _ hg st fun v h' tk hv st' kk=>?_
  obtain ⟨t,rfl⟩:=hv
  have I1:Inv X pins σ H { s with heap:=h',toks:=tk }:=I.turned (fun b o hb e=>kk b o (by simpa using hb) e) f0 f1 f3 f4 f5
  refine ⟨_,rfl,go_of (s:={ s with heap:=h',toks:=tk }) (n:="range_iterator") st' rfl rfl (by decide) ⟨.int (lo + i),H,I1,⟨t,?_⟩,⟨rfl,rfl⟩,st',fun b hb=>(hf b hb).1⟩⟩
  rw [Int.mul_one]
 done:=by
  intro X hP hw hK hc i pins s σ H E I hf st hg
  subst hP hw hK
  obtain ⟨f0,f1,f2,f3,f4,f5⟩:=hf it (by simp)
  exact wpAny_pyNext_range_end (I.ok.hd hc) st (by have:n ≤ i:=hg; omega) fun h' eb=>⟨rfl,I.turned (t':=s.toks) (fun b o hb e=>eb b o hb e) f0 f1 f3 f4 f5⟩
 self:=fun _ _ _ _ _ st h=>wpAny_pyIter_rangeiter st h
section
variable {X:Cx} {tg:Expr}
def iList (K:PySem.W.Frag) (tl:TE):TI:=fun σ H R=>tl σ H fun x H1=>∃ a,x=.ref a∧(∃ xs,SqL K H1 a xs)∧R (Itl K a) H1
def iTup (K:PySem.W.Frag) (tl:TE):TI:=fun σ H R=>tl σ H fun x H1=>∃ a,x=.ref a∧(∃ xs,SqT K H1 a xs)∧R (Itt K a) H1
theorem range_it {pins:List (Addr × Obj)} {σ:St} {H:Hp} {s:Shared} {R:It→Hp→Prop} {E:Value→Shared→Prop} {lo hi:Int} {t u v:Tok} {tk:Nat} (I:Inv X pins σ H s) (h1:-(2 ^ 62) ≤ lo) (h2:lo < 2 ^ 62) (h3:-(2 ^ 62) ≤ hi) (h4:hi < 2 ^ 62)
  (q:R (Itr lo (hi - lo).toNat) H):wpAny (model X.prog X.w) X.A (pyIter (.ref s.heap.objs.size)) (PIE X pins σ tg R) E { s with heap:=s.heap.push { cls:=.type "range",data:=.fields #[.int lo t,.int hi u,.int 1 v] },toks:=tk }:=by
 refine wpAny_pyIter_range (IsRange.new ..) (small_one h1 h2 h3 h4) ?_
 have I1:Inv X pins σ H { s with heap:=s.heap.push { cls:=.type "range",data:=.fields #[.int lo t,.int hi u,.int 1 v] },toks:=tk }:=I.kept fun b o e=>Heap.get?_push_of_some _ e
 refine ⟨(s.heap.push { cls:=.type "range",data:=.fields #[.int lo t,.int hi u,.int 1 v] }).objs.size,[(s.heap.push { cls:=.type "range",data:=.fields #[.int lo t,.int hi u,.int 1 v] }).objs.size],_,_,H,rfl,
  I1.kept (t':=tk) fun b o e=>Heap.get?_push_of_some _ e,turn_range _ lo (hi - lo).toNat,?_,fun b hb=>?_,q⟩
 ·have e1:lo + ((0:Nat):Int) * 1=lo:=by simp
  have e2:(((hi - lo).toNat:Nat):Int) - ((0:Nat):Int)=Builtin.Range.rangeSize lo hi 1:=by rw [rangeSize_one]; split <;> omega
  show IsRangeIter _ _ (lo + ((0:Nat):Int) * 1) ((((hi - lo).toNat:Nat):Int) - ((0:Nat):Int)) 1
  rw [e1,e2]
  exact Heap.get?_push_size _ rfl
 ·have e:b=(s.heap.push { cls:=.type "range",data:=.fields #[.int lo t,.int hi u,.int 1 v] }).objs.size:=by simpa using hb
  subst e
  exact I1.fpOk (Zd _) (I1.hok.fresh (Zd _))
def iRng1 (ta:TA):TI:=fun σ H R=>ta σ H fun vs H1=>∃ j:Int,vs=[.int j]∧-(2 ^ 62) ≤ j∧j < 2 ^ 62∧R (Itr 0 j.toNat) H1
theorem jg8 {a:Expr} {ta:TA} {p pos:Pos} (hg:Gl X "range") (hm:X.mg "range"=none) (ha:PA X [a] ta) (hs:starEach [a] X.env=[(false,eval a X.env)]:=by rfl):PI X tg (.Call (.Name "range" p) [a] [] pos) (iRng1 ta):=by
 intro pins s σ H R I h
 refine Call_ (ld_blt I hg hm boot_range (PyProof.Rows.callWith_type1 (thn (ha pos pins s σ H _ I h) fun us s1 ⟨vs,H1,I1,r1,q1⟩=>?_) hs rfl))
 obtain ⟨j,e,q1,q2,q⟩:=q1
 subst e
 cases r1 with
 | cons r rr =>
  cases rr
  obtain ⟨t,rfl⟩:=r
  exact call_range_1 (range_it I1 (by omega) (by omega) q1 q2 (by simpa using q))
def tFor (wi:TI) (g:TG) (tb:TS):TS:=fun D σ H=>wi σ H fun J H1=>∃ W:Nat→Nat→St→Hp→Prop,(∃ m,W 0 m σ H1)∧∀ i m σ H,W i m σ H →
 (J.stop i H∧D.nx σ H) ∨ (J.go i H∧∃ N:St→Hp→Prop,(∀ σ' H',N σ' H'→∃ m',m' < m∧W (i + 1) m' σ' H')∧∀ x H',J.yld i H x H'→g x σ H' fun σ2 H2=>tb { D with nx:=N,ct:=N,bk:=D.nx } σ2 H2)
def pinsAt (fp:List Addr) (h:Heap):List (Addr × Obj):=fp.filterMap fun b=>(h.get? b).map fun o=>(b,o)
theorem jf3 {fp:List Addr} {h:Heap} {b:Addr} {o:Obj} (hb:b ∈ fp) (e:h.get? b=some o):(b,o) ∈ pinsAt fp h:=List.mem_filterMap.mpr ⟨b,hb,by rw [e]; rfl⟩
theorem of_pinsAt {fp:List Addr} {h:Heap} {p:Addr × Obj} (hp:p ∈ pinsAt fp h):p.1 ∈ fp∧h.get? p.1=some p.2:=by
 obtain ⟨b,hb,e⟩:=List.mem_filterMap.mp hp
 cases q:h.get? b with
 | none=>rw [q] at e; cases e
 | some o =>
  rw [q] at e
  have e':(b,o)=p:=Option.some.inj e
  subst e'
  exact ⟨hb,q⟩
theorem Inv.pinned {pins:List (Addr × Obj)} {σ:St} {H:Hp} {s:Shared} {fp:List Addr} (I:Inv X pins σ H s) (hf:∀ b ∈ fp,FpOk X pins H b) (ho:∀ b ∈ fp,∃ o,s.heap.get? b=some o∧∀ v,o.data ≠ .cell v):Inv X (pins ++ pinsAt fp s.heap) σ H s :=
 I.pins_of fun p hp=>(Zq.mp hp).elim (fun z=>I.pin p (Zw _ z)) fun z=>by
  obtain ⟨hb,e⟩:=of_pinsAt z
  obtain ⟨f0,f1,f2,_⟩:=hf p.1 hb
  obtain ⟨o,e',d⟩:=ho p.1 hb
  rw [e] at e'; cases e'
  exact ⟨e,f0,f1,f2,d⟩
theorem Inv.unpinned {pins pl:List (Addr × Obj)} {σ:St} {H:Hp} {s:Shared} (I:Inv X (pins ++ pl) σ H s):Inv X pins σ H s:=I.pins_of fun p hp=>I.pin p (Zw _ (List.mem_append_left _ hp))
theorem ps_for {iter:Expr} {body:List Stmt} {wi:TI} {g:TG} {tb:TS} {pos:Pos} (hp:PassesOwn (model X.prog X.w) X.A X.env X.xe) (hc:X.calm=true) (hi:PI X tg iter wi) (hg:PG X tg g) (hb:PSs X body tb)
  (hs:∀ x,foldedSetIterable iter X.env x=pure x:=by intro _; rfl):PS X (.For tg iter body [] pos) (tFor wi g tb):=by
 intro pins s σ H D I h
 refine wpAny_For (thn (hi pins s σ H _ I h) fun v s1 h1=>thn h1 fun itv s2 h2=>?_) hs
 obtain ⟨it,fp,tn,J,H2,e,I2,T,st2,f2,W,⟨m0,w0⟩,turn⟩:=h2
 subst e
 have stat:∀ {H':Hp},(∀ b ∈ fp,H' b=none)→∀ b ∈ fp,FpOk X pins H' b:=fun hn b hb=>⟨hn b hb,(f2 b hb).2⟩
 refine codeAny_forLoop_any (fun n s'=>∃ i σ' H',Inv X pins σ' H' s'∧tn i s'.heap∧(∀ b ∈ fp,H' b=none)∧W i n σ' H') ?_ m0 ⟨0,σ,H2,I2,st2,fun b hb=>(f2 b hb).1,w0⟩
 rintro n s3 ⟨i,σ3,H3,I3,st3,fr3,w3⟩
 rcases turn i n σ3 H3 w3 with ⟨stop,qn⟩ | ⟨go,N,hN,step⟩
 ·refine wpAny_passesOwn hp (thn (T.done X rfl rfl rfl hc i pins s3 σ3 H3 X.xe I3 (stat fr3) st3 stop) fun r s4 ⟨hr,I4⟩=>?_)
  subst hr
  exact wpAny_execs_nil ⟨σ3,H3,I4,qn⟩
 ·refine wpAny_passesOwn hp (thn (T.item X rfl rfl rfl hc i pins s3 σ3 H3 X.xe I3 (stat fr3) st3 go) fun r s4 ⟨u,hr,h4⟩=>?_)
  subst hr
  refine wpAny_passesOwn hp (thn h4 fun _ s5 ⟨x,H5,I5,r5,y5,st5,fr5⟩=>?_)
  have I5':=I5.pinned (stat fr5) (T.obj _ _ st5)
  refine wpAny_passesOwn hp (thn (hg _ s5 σ3 H5 x u _ I5' r5 (step x H5 y5)) fun _ s6 ⟨σ6,H6,I6,q6⟩=>?_)
  refine wpAny_passesOwn hp (thn (hb _ s6 σ6 H6 _ I6 q6) fun f s7 q7=>?_)
  have again:∀ {σ7:St} {H7:Hp},Inv X (pins ++ pinsAt fp s5.heap) σ7 H7 s7→N σ7 H7→∃ m,m < n∧∃ i σ' H',Inv X pins σ' H' s7∧tn i s7.heap∧(∀ b ∈ fp,H' b=none)∧W i m σ' H':=fun {σ7 H7} I7 n7=>by
   obtain ⟨m',hm,w7⟩:=hN σ7 H7 n7
   refine ⟨m',hm,i + 1,σ7,H7,I7.unpinned,T.keep _ _ _ st5 fun b hb o e=>(I7.pin (b,o) (Zw _ (Zw _ (jf3 hb e)))).1,fun b hb=>?_,w7⟩
   obtain ⟨o,e,d⟩:=T.obj _ _ st5 b hb
   exact (I7.pin (b,o) (Zw _ (Zw _ (jf3 hb e)))).2.1
  cases f with
  | next=>obtain ⟨σ7,H7,I7,n7⟩:=q7; exact again I7 n7
  | cont=>obtain ⟨σ7,H7,I7,n7⟩:=q7; exact again I7 n7
  | brk=>obtain ⟨σ7,H7,I7,q7⟩:=q7; exact ⟨σ7,H7,I7.unpinned,q7⟩
  | ret v=>obtain ⟨x7,σ7,H7,I7,r7,q7⟩:=q7; exact ⟨x7,σ7,H7,I7.unpinned,r7,q7⟩
end
theorem for_list {K:PySem.W.Frag} {a:Addr} {xs:List V} {g:TG} {tb:TS} {D:Ends} {σ:St} {H:Hp} (Pv:Nat→St→Hp→Prop) (h0:Pv 0 σ H) (hl:∀ i σ H,i ≤ xs.length→Pv i σ H→SqL K H a xs)
  (hs:∀ i x σ H,xs[i]?=some x→Pv i σ H→g x σ H fun σ2 H2=>tb { D with nx:=Pv (i + 1),ct:=Pv (i + 1),bk:=D.nx } σ2 H2) (hd:∀ σ H,Pv xs.length σ H→D.nx σ H) :
  ∃ W:Nat→Nat→St→Hp→Prop,(∃ m,W 0 m σ H)∧∀ i m σ H,W i m σ H →
   ((Itl K a).stop i H∧D.nx σ H) ∨ ((Itl K a).go i H∧∃ N:St→Hp→Prop,(∀ σ' H',N σ' H'→∃ m',m' < m∧W (i + 1) m' σ' H')∧∀ x H',(Itl K a).yld i H x H'→g x σ H' fun σ2 H2=>tb { D with nx:=N,ct:=N,bk:=D.nx } σ2 H2):=by
 refine ⟨fun i m σ H=>m=xs.length - i∧i ≤ xs.length∧Pv i σ H,⟨xs.length,by simp,Nat.zero_le _,h0⟩,?_⟩
 rintro i m σ H ⟨rfl,hi,p⟩
 have q:=hl i σ H hi p
 by_cases hlt:i < xs.length
 ·refine .inr ⟨⟨xs,xs[i],q,by simp [hlt]⟩,Pv (i + 1),fun σ' H' p'=>⟨xs.length - (i + 1),by omega,rfl,hlt,p'⟩,fun x H' y=>?_⟩
  obtain ⟨e,y⟩:=y
  subst e
  exact hs i x σ _ (y xs q) p
 ·have e:i=xs.length:=by omega
  subst e
  exact .inl ⟨⟨xs,q,Zd _⟩,hd σ H p⟩
theorem for_tup {K:PySem.W.Frag} {a:Addr} {xs:List V} {g:TG} {tb:TS} {D:Ends} {σ:St} {H:Hp} (Pv:Nat→St→Hp→Prop) (h0:Pv 0 σ H) (hl:∀ i σ H,i ≤ xs.length→Pv i σ H→SqT K H a xs)
  (hs:∀ i x σ H,xs[i]?=some x→Pv i σ H→g x σ H fun σ2 H2=>tb { D with nx:=Pv (i + 1),ct:=Pv (i + 1),bk:=D.nx } σ2 H2) (hd:∀ σ H,Pv xs.length σ H→D.nx σ H) :
  ∃ W:Nat→Nat→St→Hp→Prop,(∃ m,W 0 m σ H)∧∀ i m σ H,W i m σ H →
   ((Itt K a).stop i H∧D.nx σ H) ∨ ((Itt K a).go i H∧∃ N:St→Hp→Prop,(∀ σ' H',N σ' H'→∃ m',m' < m∧W (i + 1) m' σ' H')∧∀ x H',(Itt K a).yld i H x H'→g x σ H' fun σ2 H2=>tb { D with nx:=N,ct:=N,bk:=D.nx } σ2 H2):=by
 refine ⟨fun i m σ H=>m=xs.length - i∧i ≤ xs.length∧Pv i σ H,⟨xs.length,by simp,Nat.zero_le _,h0⟩,?_⟩
 rintro i m σ H ⟨rfl,hi,p⟩
 have q:=hl i σ H hi p
 by_cases hlt:i < xs.length
 ·refine .inr ⟨⟨xs,xs[i],q,by simp [hlt]⟩,Pv (i + 1),fun σ' H' p'=>⟨xs.length - (i + 1),by omega,rfl,hlt,p'⟩,fun x H' y=>?_⟩
  obtain ⟨e,y⟩:=y
  subst e
  exact hs i x σ _ (y xs q) p
 ·have e:i=xs.length:=by omega
  subst e
  exact .inl ⟨⟨xs,q,Zd _⟩,hd σ H p⟩
theorem for_range {lo:Int} {n:Nat} {g:TG} {tb:TS} {D:Ends} {σ:St} {H:Hp} (Pv:Nat→St→Hp→Prop) (h0:Pv 0 σ H)
  (hs:∀ i σ H,i < n→Pv i σ H→g (.int (lo + i)) σ H fun σ2 H2=>tb { D with nx:=Pv (i + 1),ct:=Pv (i + 1),bk:=D.nx } σ2 H2) (hd:∀ σ H,Pv n σ H→D.nx σ H) :
  ∃ W:Nat→Nat→St→Hp→Prop,(∃ m,W 0 m σ H)∧∀ i m σ H,W i m σ H →
   ((Itr lo n).stop i H∧D.nx σ H) ∨ ((Itr lo n).go i H∧∃ N:St→Hp→Prop,(∀ σ' H',N σ' H'→∃ m',m' < m∧W (i + 1) m' σ' H')∧∀ x H',(Itr lo n).yld i H x H'→g x σ H' fun σ2 H2=>tb { D with nx:=N,ct:=N,bk:=D.nx } σ2 H2):=by
 refine ⟨fun i m σ H=>m=n - i∧i ≤ n∧Pv i σ H,⟨n,by simp,Nat.zero_le _,h0⟩,?_⟩
 rintro i m σ H ⟨rfl,hi,p⟩
 by_cases hlt:i < n
 ·refine .inr ⟨hlt,Pv (i + 1),fun σ' H' p'=>⟨n - (i + 1),by omega,rfl,hlt,p'⟩,fun x H' y=>?_⟩
  obtain ⟨e,y⟩:=y
  subst e y
  exact hs i σ _ hlt p
 ·have e:i=n:=by omega
  subst e
  exact .inl ⟨Zd _,hd σ H p⟩
theorem while_by {c:TT} {tb:TS} {D:Ends} {σ:St} {H:Hp} (Pv:St→Hp→Prop) (μ : St→Hp→Nat) (h0:Pv σ H)
  (hs:∀ σ H,Pv σ H→c σ H fun b H1=>if b=true then tb { D with nx:=fun σ' H'=>Pv σ' H'∧μ σ' H' < μ σ H,ct:=fun σ' H'=>Pv σ' H'∧μ σ' H' < μ σ H,bk:=D.nx } σ H1 else D.nx σ H1)
  (mono:∀ σ H Q Q',(∀ b H1,Q b H1→Q' b H1)→c σ H Q→c σ H Q'):tWhile c tb D σ H:=by
 refine ⟨fun m σ H=>m=μ σ H∧Pv σ H,⟨_,rfl,h0⟩,?_⟩
 rintro m σ H ⟨rfl,p⟩
 refine mono σ H _ _ (fun b H1 q=>?_) (hs σ H p)
 cases b with
 | true=>exact ⟨_,fun σ' H' ⟨p',l⟩=>⟨_,l,rfl,p'⟩,q⟩
 | false=>exact q
abbrev R2:=V→V→Hp→VK→Prop
def OpR (X:Cx) (f:Value→Value→Sem Value) (r:R2):Prop :=
 ∀ (pins:List (Addr × Obj)) (s:Shared) (σ:St) (H:Hp) (x y:V) (v u:Value) (Q:VK),Inv X pins σ H s→RelV x v→RelV y u→r x y H Q →
  wpAny (model X.prog X.w) X.A (f v u) (EP X pins σ Q) X.xe s
def UnR (X:Cx) (f:Value→Sem Value) (r:V→Hp→VK→Prop):Prop :=
 ∀ (pins:List (Addr × Obj)) (s:Shared) (σ:St) (H:Hp) (x:V) (v:Value) (Q:VK),Inv X pins σ H s→RelV x v→r x H Q →
  wpAny (model X.prog X.w) X.A (f v) (EP X pins σ Q) X.xe s
def CallR (X:Cx) (f:Value) (r:List V→Hp→VK→Prop):Prop :=
 ∀ (pins:List (Addr × Obj)) (s:Shared) (σ:St) (H:Hp) (xs:List V) (us:List Value) (Q:VK),Inv X pins σ H s→Vals xs us→r xs H Q →
  wpAny (model X.prog X.w) X.A (call f us) (EP X pins σ Q) X.xe s
def TruR (X:Cx) (r:V→Hp→(Bool→Hp→Prop)→Prop):Prop :=
 ∀ (pins:List (Addr × Obj)) (s:Shared) (σ:St) (H:Hp) (x:V) (v:Value) (Q:Bool→Hp→Prop),Inv X pins σ H s→RelV x v→r x H Q →
  wpAny (model X.prog X.w) X.A (truthy v) (TP X pins σ Q) X.xe s
def tOp (r:R2) (ta tb:TE):TE:=fun σ H Q=>ta σ H fun x H1=>tb σ H1 fun y H2=>r x y H2 Q
def tUn (r:V→Hp→VK→Prop) (ta:TE):TE:=fun σ H Q=>ta σ H fun x H1=>r x H1 Q
def rI (C:Int→Int→Prop) (g:Int→Int→V):R2:=fun x y H Q=>∃ i j,x=.int i∧y=.int j∧C i j∧Q (g i j) H
def rI0 (g:Int→Int→V):R2:=fun x y H Q=>∃ i j,x=.int i∧y=.int j∧Q (g i j) H
def rU (g:Int→V):V→Hp→VK→Prop:=fun x H Q=>∃ i,x=.int i∧Q (g i) H
section
variable {X:Cx} {a b c:Expr} {ta tb tc:TE} {pos:Pos}
theorem binT (ha:PE X a ta) (hb:PE X b tb) {pins:List (Addr × Obj)} {s:Shared} {σ:St} {H:Hp} {R:V→V→Hp→Prop} (I:Inv X pins σ H s)
  (h:ta σ H fun x H1=>tb σ H1 fun y H2=>R x y H2) {Q:Value→Shared→Prop} {f:Value→Value→Sem Value}
  (hf:∀ v u s2 x y H2,Inv X pins σ H2 s2→RelV x v→RelV y u→R x y H2→wpAny (model X.prog X.w) X.A (f v u) Q X.xe s2) :
  wpAny (model X.prog X.w) X.A (eval a X.env) (fun v s₁=>wpAny (model X.prog X.w) X.A (eval b X.env) (fun u s₂=>wpAny (model X.prog X.w) X.A (f v u) Q X.xe s₂) X.xe s₁) X.xe s:=by
 refine thn (ha pins s σ H _ I h) fun v s1 ⟨x,H1,I1,r1,q1⟩=>?_
 refine thn (hb pins s1 σ H1 _ I1 q1) fun u s2 ⟨y,H2,I2,r2,q2⟩=>?_
 exact hf v u s2 x y H2 I2 r1 r2 q2
theorem jc3 {op:Operator} {r:R2} (ho:OpR X (binaryOp op) r) (ha:PE X a ta) (hb:PE X b tb):PE X (.BinOp a op b pos) (tOp r ta tb):=by
 intro pins s σ H Q I h
 exact wpAny_BinOp (binT ha hb I h fun v u s2 x y H2 I2 rx ry q=>ho pins s2 σ H2 x y v u Q I2 rx ry q)
theorem pe_un {op:UnaryOp} {r:V→Hp→VK→Prop} (ho:UnR X (unaryOp op) r) (ha:PE X a ta):PE X (.UnaryOp op a pos) (tUn r ta):=by
 intro pins s σ H Q I h
 exact UnaryOp_ (thn (ha pins s σ H _ I h) fun v s1 ⟨x,H1,I1,r1,q1⟩=>ho pins s1 σ H1 x v Q I1 r1 q1)
theorem opI {f:Value→Value→Sem Value} {C:Int→Int→Prop} {g:Int→Int→Int}
  (rule:∀ (i j:Int) (t u:Tok) (s:Shared) (Q:Value→Shared→Prop) (E:Value→Shared→Prop),C i j→Q (.int (g i j) s.toks) { s with toks:=s.toks + 1 }→wpAny (model X.prog X.w) X.A (f (.int i t) (.int j u)) Q E s) :
  OpR X f (rI C fun i j=>.int (g i j)):=by
 intro pins s σ H x y v u Q I rx ry h
 obtain ⟨i,j,rfl,rfl,hc,q⟩:=h
 obtain ⟨t,rfl⟩:=rx
 obtain ⟨t',rfl⟩:=ry
 exact rule i j t t' s _ _ hc ⟨.int (g i j),H,I.tok _,⟨_,rfl⟩,q⟩
theorem opI0 {f:Value→Value→Sem Value} {g:Int→Int→Int}
  (rule:∀ (i j:Int) (t u:Tok) (s:Shared) (Q:Value→Shared→Prop) (E:Value→Shared→Prop),Q (.int (g i j) s.toks) { s with toks:=s.toks + 1 }→wpAny (model X.prog X.w) X.A (f (.int i t) (.int j u)) Q E s) :
  OpR X f (rI0 fun i j=>.int (g i j)):=by
 intro pins s σ H x y v u Q I rx ry h
 obtain ⟨i,j,rfl,rfl,q⟩:=h
 obtain ⟨t,rfl⟩:=rx
 obtain ⟨t',rfl⟩:=ry
 exact rule i j t t' s _ _ ⟨.int (g i j),H,I.tok _,⟨_,rfl⟩,q⟩
theorem opB0 {f:Value→Value→Sem Value} {g:Int→Int→Bool}
  (rule:∀ (i j:Int) (t u:Tok) (s:Shared) (Q:Value→Shared→Prop) (E:Value→Shared→Prop),Q (.bool (g i j)) s→wpAny (model X.prog X.w) X.A (f (.int i t) (.int j u)) Q E s) :
  OpR X f (rI0 fun i j=>.bl (g i j)):=by
 intro pins s σ H x y v u Q I rx ry h
 obtain ⟨i,j,rfl,rfl,q⟩:=h
 obtain ⟨t,rfl⟩:=rx
 obtain ⟨t',rfl⟩:=ry
 exact rule i j t t' s _ _ ⟨.bl (g i j),H,I,rfl,q⟩
def CDiv (i j:Int):Prop:=0 < j∧j < 1073741824
def CPow (i j:Int):Prop:=0 ≤ j∧j ≤ 1000000∧i.natAbs < 2 ^ 64
def CMul (i j:Int):Prop:=(-(2 ^ 64) < i∧i < 2 ^ 64) ∨ (-(2 ^ 64) < j∧j < 2 ^ 64)
theorem CMul.ok {i j:Int} (h:CMul i j):IntMulOk i j:=by
 rcases h with ⟨h1,h2⟩ | ⟨h1,h2⟩
 ·exact .of_left (intBits_le_64 h1 h2)
 ·exact .of_right (intBits_le_64 h1 h2)
theorem op_add:OpR X (binaryOp .Add) (rI0 fun i j=>.int (i + j)):=opI0 fun _ _ _ _ _ _ _ q=>add_int q
theorem op_sub:OpR X (binaryOp .Sub) (rI0 fun i j=>.int (i - j)):=opI0 fun _ _ _ _ _ _ _ q=>sub_int q
theorem op_mul:OpR X (binaryOp .Mult) (rI CMul fun i j=>.int (i * j)):=opI fun _ _ _ _ _ _ _ hc q=>mul_int q hc.ok
theorem op_fdiv:OpR X (binaryOp .FloorDiv) (rI CDiv fun i j=>.int (i / j)):=opI fun i j _ _ _ _ _ hc q=>by
 have h1:(0:Int) < j:=hc.1
 have h2:j < 1073741824:=hc.2
 exact floordiv_int (by omega) (by rw [Int.fdiv_eq_ediv_of_nonneg i (by omega)]; exact q) (.inl (PyProof.noPylong_small (by omega)))
theorem op_mod:OpR X (binaryOp .Mod) (rI (fun _ j=>0 < j) fun i j=>.int (i % j)):=opI fun i j _ _ _ _ _ hc q=>by
 have h1:(0:Int) < j:=hc
 exact mod_int' (by omega) (by rw [Int.fmod_eq_emod_of_nonneg i (by omega)]; exact q)
theorem op_modN:OpR X (binaryOp .Mod) (rI (fun _ j=>j ≠ 0) fun i j=>.int (i.fmod j)):=opI fun _ _ _ _ _ _ _ hc q=>mod_int' hc q
theorem op_pow:OpR X (binaryOp .Pow) (rI CPow fun i j=>.int (i ^ j.toNat)):=opI fun _ _ _ _ _ _ _ hc q=>pow_int_small hc.1 hc.2.1 hc.2.2 q
theorem unI {f:Value→Sem Value} {g:Int→Int}
  (rule:∀ (i:Int) (t:Tok) (s:Shared) (Q:Value→Shared→Prop) (E:Value→Shared→Prop),Q (.int (g i) s.toks) { s with toks:=s.toks + 1 }→wpAny (model X.prog X.w) X.A (f (.int i t)) Q E s) :
  UnR X f (rU fun i=>.int (g i)):=by
 intro pins s σ H x v Q I rx h
 obtain ⟨i,rfl,q⟩:=h
 obtain ⟨t,rfl⟩:=rx
 exact rule i t s _ _ ⟨.int (g i),H,I.tok _,⟨_,rfl⟩,q⟩
theorem un_neg:UnR X (unaryOp .USub) (rU fun i=>.int (-i)):=unI fun _ _ _ _ _ q=>neg_int q
end
def scal:V→V→Bool
 | .non,.non=>true | .non,.int _=>true | .int _,.non=>true | .non,.bl _=>true | .bl _,.non=>true | .non,.str _=>true | .str _,.non=>true
 | .int _,.int _=>true | .bl _,.bl _=>true | .str _,.str _=>true | .byt _,.byt _=>true
 | .int _,.str _=>true | .str _,.int _=>true | .bl _,.str _=>true | .str _,.bl _=>true
 | _,_=>false
def rEq:R2:=fun x y H Q=>scal x y=true∧Q (.bl (decide (x=y))) H
def rNe:R2:=fun x y H Q=>scal x y=true∧Q (.bl (!decide (x=y))) H
theorem dec_int {i j:Int}:decide (V.int i=V.int j)=(i == j):=by
 rw [Bool.eq_iff_iff]
 simp
theorem dec_bl {i j:Bool}:decide (V.bl i=V.bl j)=(i == j):=by
 rw [Bool.eq_iff_iff]
 simp
theorem dec_str {i j:Str}:decide (V.str i=V.str j)=(i == j):=by
 rw [Bool.eq_iff_iff]
 simp
theorem dec_byt {i j:Array UInt8}:decide (V.byt i=V.byt j)=(i.toList == j.toList):=by
 rw [Bool.eq_iff_iff]
 cases i
 cases j
 simp
section
variable {X:Cx} {a b c:Expr} {ta tb tc:TE} {pos:Pos}
theorem jd9 {pins:List (Addr × Obj)} {σ:St} {H:Hp} {s:Shared} {Q:VK} {k k':Bool} (I:Inv X pins σ H s) (q:Q (.bl k) H) (e:k=k'):EP X pins σ Q (.bool k') s:=by
 subst e
 exact ⟨.bl k,H,I,rfl,q⟩
theorem op_eq:OpR X (compareOp .Eq) rEq:=by
 intro pins s σ H x y v u Q I rx ry h
 obtain ⟨hs,q⟩:=h
 cases x with
 | non =>
  cases rx
  cases y with
  | non=>cases ry; exact PySem.EqNone.eq_none_none (jd9 I q (by simp))
  | bl j=>cases ry; exact PySem.EqNone.eq_none_bool (jd9 I q (by simp))
  | int j=>obtain ⟨t',rfl⟩:=ry; exact PySem.EqNone.eq_none_int (jd9 I q (by simp))
  | str j=>obtain ⟨t',rfl⟩:=ry; exact PySem.EqNone.eq_none_str (jd9 I q (by simp))
  | _=>exact absurd (show false=true from hs) Zv
 | bl i =>
  cases rx
  cases y with
  | non=>cases ry; exact PySem.EqNone.eq_bool_none (jd9 I q (by simp))
  | bl j=>cases ry; exact eq_bool (jd9 I q dec_bl)
  | str j=>obtain ⟨t',rfl⟩:=ry; exact PySem.EqMixed.eq_bool_str (jd9 I q (by simp))
  | _=>exact absurd (show false=true from hs) Zv
 | int i =>
  obtain ⟨t,rfl⟩:=rx
  cases y with
  | non=>cases ry; exact PySem.EqNone.eq_int_none (jd9 I q (by simp))
  | int j=>obtain ⟨t',rfl⟩:=ry; exact eq_int (jd9 I q dec_int)
  | str j=>obtain ⟨t',rfl⟩:=ry; exact PySem.EqMixed.eq_int_str (jd9 I q (by simp))
  | _=>exact absurd (show false=true from hs) Zv
 | str i =>
  obtain ⟨t,rfl⟩:=rx
  cases y with
  | non=>cases ry; exact PySem.EqNone.eq_str_none (jd9 I q (by simp))
  | bl j=>cases ry; exact PySem.EqMixed.eq_str_bool (jd9 I q (by simp))
  | int j=>obtain ⟨t',rfl⟩:=ry; exact PySem.EqMixed.eq_str_int (jd9 I q (by simp))
  | str j=>obtain ⟨t',rfl⟩:=ry; exact eq_str (jd9 I q dec_str)
  | _=>exact absurd (show false=true from hs) Zv
 | byt i =>
  obtain ⟨t,rfl⟩:=rx
  cases y with
  | byt j=>obtain ⟨t',rfl⟩:=ry; exact PySem.W.eq_bytes (jd9 I q dec_byt)
  | _=>exact absurd (show false=true from hs) Zv
 | _=>cases y <;> exact absurd (show false=true from hs) Zv
theorem op_ne:OpR X (compareOp .NotEq) rNe:=by
 intro pins s σ H x y v u Q I rx ry h
 obtain ⟨hs,q⟩:=h
 cases x with
 | non =>
  cases rx
  cases y with
  | non=>cases ry; exact PySem.EqNone.ne_none_none (jd9 I q (by simp))
  | bl j=>cases ry; exact PySem.EqNone.ne_none_bool (jd9 I q (by simp))
  | int j=>obtain ⟨t',rfl⟩:=ry; exact PySem.EqNone.ne_none_int (jd9 I q (by simp))
  | str j=>obtain ⟨t',rfl⟩:=ry; exact PySem.EqNone.ne_none_str (jd9 I q (by simp))
  | _=>exact absurd (show false=true from hs) Zv
 | bl i =>
  cases rx
  cases y with
  | non=>cases ry; exact PySem.EqNone.ne_bool_none (jd9 I q (by simp))
  | bl j=>cases ry; exact ne_bool (jd9 I q (congrArg not dec_bl))
  | str j=>obtain ⟨t',rfl⟩:=ry; exact PySem.EqMixed.ne_bool_str (jd9 I q (by simp))
  | _=>exact absurd (show false=true from hs) Zv
 | int i =>
  obtain ⟨t,rfl⟩:=rx
  cases y with
  | non=>cases ry; exact PySem.EqNone.ne_int_none (jd9 I q (by simp))
  | int j=>obtain ⟨t',rfl⟩:=ry; exact ne_int (jd9 I q (congrArg not dec_int))
  | str j=>obtain ⟨t',rfl⟩:=ry; exact PySem.EqMixed.ne_int_str (jd9 I q (by simp))
  | _=>exact absurd (show false=true from hs) Zv
 | str i =>
  obtain ⟨t,rfl⟩:=rx
  cases y with
  | non=>cases ry; exact PySem.EqNone.ne_str_none (jd9 I q (by simp))
  | bl j=>cases ry; exact PySem.EqMixed.ne_str_bool (jd9 I q (by simp))
  | int j=>obtain ⟨t',rfl⟩:=ry; exact PySem.EqMixed.ne_str_int (jd9 I q (by simp))
  | str j=>obtain ⟨t',rfl⟩:=ry; exact ne_str (jd9 I q (congrArg not dec_str))
  | _=>exact absurd (show false=true from hs) Zv
 | byt i =>
  obtain ⟨t,rfl⟩:=rx
  cases y with
  | byt j=>obtain ⟨t',rfl⟩:=ry; exact PySem.W.ne_bytes (jd9 I q (congrArg not dec_byt))
  | _=>exact absurd (show false=true from hs) Zv
 | _=>cases y <;> exact absurd (show false=true from hs) Zv
theorem op_lt:OpR X (compareOp .Lt) (rI0 fun i j=>.bl (decide (i < j))):=opB0 fun _ _ _ _ _ _ _ q=>lt_int q
theorem op_le:OpR X (compareOp .LtE) (rI0 fun i j=>.bl (decide (i ≤ j))):=opB0 fun _ _ _ _ _ _ _ q=>le_int q
theorem op_gt:OpR X (compareOp .Gt) (rI0 fun i j=>.bl (decide (j < i))):=opB0 fun _ _ _ _ _ _ _ q=>gt_int q
theorem op_ge:OpR X (compareOp .GtE) (rI0 fun i j=>.bl (decide (j ≤ i))):=opB0 fun _ _ _ _ _ _ _ q=>ge_int q
theorem OpR.or {f:Value→Value→Sem Value} {r r':R2} (h:OpR X f r) (h':OpR X f r'):OpR X f (fun x y H Q=>r x y H Q ∨ r' x y H Q):=by
 intro pins s σ H x y v u Q I rx ry q
 rcases q with q | q
 ·exact h pins s σ H x y v u Q I rx ry q
 ·exact h' pins s σ H x y v u Q I rx ry q
theorem nomark (b:Expr) {op:CmpOp} (h:op ≠ .In:=by decide) (h2:op ≠ .NotIn:=by decide):behindInMarks op b=false:=by
 have e1:(op == CmpOp.In)=false:=by cases op <;> first | rfl | exact absurd rfl h
 have e2:(op == CmpOp.NotIn)=false:=by cases op <;> first | rfl | exact absurd rfl h2
 cases b <;> simp [behindInMarks,e1,e2]
theorem je2 {op:CmpOp} {r:R2} (ho:OpR X (compareOp op) r) (ha:PE X a ta) (hb:PE X b tb) (hm:behindInMarks op b=false):PE X (.Compare a [op] [b] pos) (tOp r ta tb):=by
 intro pins s σ H Q I h
 exact wpAny_Compare1 (binT ha hb I h fun v u s2 x y H2 I2 rx ry q=>ho pins s2 σ H2 x y v u Q I2 rx ry q) hm
def tTest (t:TE):TT:=fun σ H Q=>t σ H fun x H'=>∃ k,x=.bl k∧Q k H'
theorem jc4 {op:CmpOp} {r:R2} (ho:OpR X (compareOp op) r) (ha:PE X a ta) (hb:PE X b tb) (hm:behindInMarks op b=false):PT X (.Compare a [op] [b] pos) (tTest (tOp r ta tb)):=by
 intro pins s σ H Q I h
 refine wpAny_isTrue_Compare1 (thn (ha pins s σ H _ I h) fun v s1 ⟨x,H1,I1,r1,q1⟩=>thn (hb pins s1 σ H1 _ I1 q1) fun u s2 ⟨y,H2,I2,r2,q2⟩ =>
  thn (ho pins s2 σ H2 x y v u _ I2 r1 r2 q2) fun c s3 ⟨z,H3,I3,r3,k,e,q3⟩=>?_) hm
 subst e
 cases r3
 exact wpAny_truthy_bool ⟨H3,I3,q3⟩
def tChain (r r':R2) (ta tb tc:TE):TE:=fun σ H Q=>ta σ H fun x H1=>tb σ H1 fun y H2=>r x y H2 fun z H3=>∃ k,z=.bl k ∧
 (if k=true then tc σ H3 fun w' H4=>r' y w' H4 Q else Q (.bl false) H3)
theorem pe_chain {op op':CmpOp} {r r':R2} (ho:OpR X (compareOp op) r) (ho':OpR X (compareOp op') r') (ha:PE X a ta) (hb:PE X b tb) (hc:PE X c tc)
  (hm:lastMarks [op,op'] [b,c]=false:=by with_unfolding_all rfl):PE X (.Compare a [op,op'] [b,c] pos) (tChain r r' ta tb tc):=by
 intro pins s σ H Q I h
 refine Compare_chain (thn (ha pins s σ H _ I h) fun v s1 ⟨x,H1,I1,r1,q1⟩=>chain_link (thn (hb pins s1 σ H1 _ I1 q1) fun u s2 ⟨y,H2,I2,r2,q2⟩ =>
  thn (ho pins s2 σ H2 x y v u _ I2 r1 r2 q2) fun d s3 ⟨z,H3,I3,r3,k,e,q3⟩=>?_)) hm
 subst e
 cases r3
 refine wpAny_truthy_bool ?_
 cases k with
 | false=>exact ite_ff ⟨.bl false,H3,I3,rfl,q3⟩
 | true=>exact ite_tt (chain_last (thn (hc pins s3 σ H3 _ I3 q3) fun w' s4 ⟨z',H4,I4,r4,q4⟩=>ho' pins s4 σ H4 y z' u w' Q I4 r2 r4 q4))
theorem pt_chain {op op':CmpOp} {r r':R2} (ho:OpR X (compareOp op) r) (ho':OpR X (compareOp op') r') (ha:PE X a ta) (hb:PE X b tb) (hc:PE X c tc)
  (hm:lastMarks [op,op'] [b,c]=false:=by with_unfolding_all rfl):PT X (.Compare a [op,op'] [b,c] pos) (tTest (tChain r r' ta tb tc)):=by
 intro pins s σ H Q I h
 refine isTrue_chain (thn (ha pins s σ H _ I h) fun v s1 ⟨x,H1,I1,r1,q1⟩=>test_link (thn (hb pins s1 σ H1 _ I1 q1) fun u s2 ⟨y,H2,I2,r2,q2⟩ =>
  thn (ho pins s2 σ H2 x y v u _ I2 r1 r2 q2) fun d s3 ⟨z,H3,I3,r3,k,e,q3⟩=>?_)) hm
 subst e
 cases r3
 refine wpAny_truthy_bool ?_
 cases k with
 | false =>
  obtain ⟨k',e',q'⟩:=q3
  cases e'
  exact ite_ff ⟨H3,I3,q'⟩
 | true =>
  refine ite_tt (test_last (thn (hc pins s3 σ H3 _ I3 q3) fun w' s4 ⟨z',H4,I4,r4,q4⟩=>thn (ho' pins s4 σ H4 y z' u w' _ I4 r2 r4 q4) fun d' s5 ⟨z2,H5,I5,r5,k2,e2,q5⟩=>?_))
  subst e2
  cases r5
  exact wpAny_truthy_bool ⟨H5,I5,q5⟩
def TruV (K:PySem.W.Frag) (x:V) (H:Hp) (k:Bool):Prop :=
 match x with
 | .non=>k=false
 | .bl b=>k=b
 | .int i=>k=(i != 0)
 | .str y=>y.length ≤ sizeLine∧k=((y.length:Int) != 0)
 | .byt y=>y.size ≤ sizeLine∧k=((y.size:Int) != 0)
 | .ref p=>(∃ xs,SqL K H p xs∧k=!xs.isEmpty) ∨ (∃ xs,SqT K H p xs∧k=!xs.isEmpty) ∨ ∃ kvs,H p=some (.dK kvs)∧k=!kvs.isEmpty
 | _=>False
theorem isEmpty_kv {κ : Type} {kvs:List (κ × V)} {vs:List (κ × Value)} (r:KV kvs vs):(!vs.isEmpty)=!kvs.isEmpty:=by
 cases r <;> rfl
theorem isEmpty_of {xs:List V} {its:List Value} (r:Vals xs its):(!its.toArray.isEmpty)=!xs.isEmpty:=by
 cases r <;> simp
theorem line63:(sizeLine:Nat) < 2 ^ 63:=by rw [sizeLine_eq]; decide
theorem tru_ok:TruR X (fun x H Q=>∃ k,TruV X.K x H k∧Q k H):=by
 intro pins s σ H x v Q I rx h
 obtain ⟨k,e,q⟩:=h
 have hl:=line63
 have hs:sizeLine=16777216:=sizeLine_eq
 cases x with
 | non =>
  cases rx
  have e':k=false:=e
  subst e'
  exact truthy_none ⟨H,I,q⟩
 | bl b =>
  cases rx
  have e':k=b:=e
  subst e'
  exact wpAny_truthy_bool ⟨H,I,q⟩
 | int i =>
  obtain ⟨t,rfl⟩:=rx
  have e':k=(i != 0):=e
  subst e'
  exact PySem.P.truthy_int ⟨H,I,q⟩
 | str y =>
  obtain ⟨t,rfl⟩:=rx
  obtain ⟨hy,e'⟩:y.length ≤ sizeLine∧k=((y.length:Int) != 0):=e
  subst e'
  exact PySem.P.truthy_str (by omega) ⟨H,I.tok _,q⟩
 | byt y =>
  obtain ⟨t,rfl⟩:=rx
  obtain ⟨hy,e'⟩:y.size ≤ sizeLine∧k=((y.size:Int) != 0):=e
  subst e'
  exact PySem.W.truthy_bytes (by omega) ⟨H,I.tok _,q⟩
 | ref p =>
  cases rx
  have e':(∃ xs,SqL X.K H p xs∧k=!xs.isEmpty) ∨ (∃ xs,SqT X.K H p xs∧k=!xs.isEmpty) ∨ ∃ kvs,H p=some (.dK kvs)∧k=!kvs.isEmpty:=e
  rcases e' with ⟨xs,hx,e'⟩ | ⟨xs,hx,e'⟩ | ⟨kvs,hx,e'⟩
  ·subst e'
   obtain ⟨its,r,pl,hz⟩:=I.list hx
   have hlen:=r.length
   exact wpAny_truthy_list pl.isList (by simp only [Zo]; omega) ⟨H,I.tok _,by rw [isEmpty_of r]; exact q⟩
  ·subst e'
   obtain ⟨its,r,pl,hz⟩:=I.tuple hx
   have hlen:=r.length
   exact truthy_tuple pl (by simp only [Zo]; omega) ⟨H,I.tok _,by rw [isEmpty_of r]; exact q⟩
  ·subst e'
   obtain ⟨hz,hS,vs,r,m⟩:kvs.length ≤ sizeLine∧(p == sysModules)=false∧∃ vs,KV kvs vs∧s.heap.DictOf (jf4 X.prog X.w) p vs:=I.hok p _ hx
   have hlen:kvs.length=vs.length:=Paired.length r
   exact wpAny_truthy_dict hS m (by omega) ⟨H,I.tok _,by rw [isEmpty_kv r]; exact q⟩
 | _=>exact (show False from e).elim
theorem pt_truth (ha:PE X a ta) (he:∀ whole,isTrue a X.env whole=(do let v ← whole; standAt a.pos; holding [v] (truthy v))) :
  PT X a (fun σ H Q=>ta σ H fun x H'=>∃ k,TruV X.K x H' k∧Q k H'):=by
 intro pins s σ H Q I h
 exact isTrue_plain (thn (ha pins s σ H _ I h) fun v s1 ⟨x,H1,I1,r1,q1⟩=>tru_ok pins s1 σ H1 x v Q I1 r1 q1) (he _)
theorem vals1 {x:V} {us:List Value} (r:Vals [x] us):∃ u,us=[u]∧RelV x u:=by
 cases r with
 | cons r1 r2=>cases r2; exact ⟨_,rfl,r1⟩
theorem vals2 {x y:V} {us:List Value} (r:Vals [x,y] us):∃ u w',us=[u,w']∧RelV x u∧RelV y w':=by
 cases r with
 | cons r1 r2 =>
  cases r2 with
  | cons r3 r4=>cases r4; exact ⟨_,_,rfl,r1,r3⟩
theorem call_abs:CallR X (.builtin "abs") (fun xs H Q=>∃ i,xs=[.int i]∧Q (.int (if i < 0 then -i else i)) H):=by
 intro pins s σ H xs us Q I r h
 obtain ⟨i,rfl,q⟩:=h
 obtain ⟨u,rfl,t,rfl⟩:=vals1 r
 exact call_abs_int fun u tk=>⟨.int (if i < 0 then -i else i),H,I.tok _,⟨_,rfl⟩,q⟩
theorem call_max2 (hc:X.calm=true):CallR X (.builtin "max") (fun xs H Q=>∃ i j,xs=[.int i,.int j]∧Q (.int (if j > i then j else i)) H):=by
 intro pins s σ H xs us Q I r h
 obtain ⟨i,j,rfl,q⟩:=h
 obtain ⟨u,w',rfl,⟨t,rfl⟩,⟨t',rfl⟩⟩:=vals2 r
 refine max_two_ints (I.ok.hd hc) fun h' tk k=>⟨_,H,I.kept k,?_,q⟩
 by_cases hj:j > i
 ·rw [if_pos hj,if_pos hj]; exact ⟨_,rfl⟩
 ·rw [if_neg hj,if_neg hj]; exact ⟨_,rfl⟩
theorem call_min2 (hc:X.calm=true):CallR X (.builtin "min") (fun xs H Q=>∃ i j,xs=[.int i,.int j]∧Q (.int (if j < i then j else i)) H):=by
 intro pins s σ H xs us Q I r h
 obtain ⟨i,j,rfl,q⟩:=h
 obtain ⟨u,w',rfl,⟨t,rfl⟩,⟨t',rfl⟩⟩:=vals2 r
 refine min_two_ints (I.ok.hd hc) fun h' tk k=>⟨_,H,I.kept k,?_,q⟩
 by_cases hj:j < i
 ·rw [if_pos hj,if_pos hj]; exact ⟨_,rfl⟩
 ·rw [if_neg hj,if_neg hj]; exact ⟨_,rfl⟩
theorem jj8:CallR X (.type "int") (fun xs H Q=>(∃ i,xs=[.int i]∧Q (.int i) H) ∨ ∃ k,xs=[.bl k]∧Q (.int (if k then 1 else 0)) H):=by
 intro pins s σ H xs us Q I r h
 rcases h with ⟨i,rfl,q⟩ | ⟨k,rfl,q⟩
 ·obtain ⟨u,rfl,t,rfl⟩:=vals1 r
  exact call_int_int ⟨.int i,H,I,⟨_,rfl⟩,q⟩
 ·obtain ⟨u,rfl,r1⟩:=vals1 r
  cases r1
  exact call_int_bool ⟨.int (if k then 1 else 0),H,I.tok _,⟨_,rfl⟩,q⟩
end
structure ObjM (h:Heap) (x dx C:Addr) (mA:Str→Option Value):Prop where
 obj:h.get? x=some (PySem.W.instObj C dx)
 ns:h.Ns1 dx mA
 ne:dx ≠ x
theorem lookIn_ns {h:Heap} {dx:Addr} {mA:Str→Option Value} (n:h.Ns1 dx mA):∃ od,h.get? dx=some od∧∀ name,PySem.W.lookIn name od=some (mA name):=by
 obtain ⟨o,es,ep,ho,hd,hk,_,hm⟩:=n
 refine ⟨o,ho,fun name=>?_⟩
 have e:=hm name
 unfold nsFind findBy at e
 rw [← Array.find?_toList] at e
 unfold PySem.W.lookIn
 rw [hd]
 dsimp only
 split
 ·rename_i y q
  rw [q] at e
  exact congrArg some e
 ·rename_i q
  rw [q] at e
  have a:es.toList.any (·.refKey)=false:=by
   rw [List.any_eq_false]
   intro y hy
   obtain ⟨z,t,hkey⟩:=hk y (Array.mem_toList_iff.mp hy)
   simp [DictEntry.refKey,hkey]
  have a':¬ es.toList.any (·.refKey)=true:=by rw [a]; exact Zv
  rw [if_neg a']
  exact congrArg some e
theorem ObjM.look {h:Heap} {x dx C:Addr} {mA:Str→Option Value} (I:ObjM h x dx C mA):∃ od,PySem.W.InstAt h x (PySem.W.instObj C dx) C (some od)∧∀ name,PySem.W.lookIn name od=some (mA name) :=
 let ⟨od,ho,hl⟩:=lookIn_ns I.ns
 ⟨od,⟨I.obj,rfl,rfl,ho⟩,hl⟩
section
variable {prog:Program} {w:World} {A:Around} {E:Value→Shared→Prop} {s:Shared} {K:PySem.W.Frag} {x dx C f:Addr} {mA:Str→Option Value} {name:Str} {v:Value}
end
theorem RelO.some_of {v:V} {o:Option Value} (r:RelO (some v) o):∃ u,o=some u∧RelV v u:=by
 cases o with
 | none=>exact (show False from r).elim
 | some u=>exact ⟨u,rfl,r⟩
section
variable {P:Program} {w:World} {H H':Hp} {h h':Heap} {a C dx:Addr} {fs fs':List (Str × V)}
theorem ins_get (hok:HOk P w H h) (e:H a=some (.ins C dx fs)):∃ mA,ObjM h a dx C mA∧(∀ f,RelO (fs.lookup f) (mA f))∧PySem.Within mA (fs.map (·.1))∧fs.length ≤ 1000∧H dx=some (.own a):=by
 obtain ⟨d,z,ne,ob,mA,n,r,q⟩:=(show ObjOk P w H h a (.ins C dx fs) from hok a _ e)
 exact ⟨mA,⟨ob,n,ne⟩,r,q,z,d⟩
end
structure Cls (K:PySem.W.Frag) (C:Addr):Prop where
 pg:PySem.W.plainGet K C Str.empty=true
 hd:PySem.W.hasDictIn K C=true
 po:PySem.W.plainOver K C=true
 sa:PySem.W.findIn K (.ref C) "__setattr__"=some (some (.builtin "object.__setattr__"))
theorem Cls.get {K:PySem.W.Frag} {C:Addr} (c:Cls K C) (f:Str):PySem.W.plainGet K C f=true:=c.pg
section
variable {X:Cx} {pins:List (Addr × Obj)} {σ:St} {H:Hp} {s:Shared} {a C dx:Addr} {fs:List (Str × V)} {f:Str} {v:V} {A:Around} {E:Value→Shared→Prop}
end
section
variable {X:Cx} {o e value:Expr} {f:Str} {pos pos' tpos:Pos} {ta tv:TE}
end
section
variable {X:Cx} {pins:List (Addr × Obj)} {σ:St} {H:Hp} {s:Shared} {A:Around} {E:Value→Shared→Prop} {Q:Value→Shared→Prop} {c:Value} {b:Bool}
inductive TyOf (K:PySem.W.Frag) (H:Hp):V→Value→Prop where
 | non:TyOf K H .non (.type "NoneType")
 | bl (x:Bool):TyOf K H (.bl x) (.type "bool")
 | int (i:Int):TyOf K H (.int i) (.type "int")
 | str (x:Str):TyOf K H (.str x) (.type "str")
 | flt (x:UInt64):TyOf K H (.flt x) (.type "float")
 | lst {a:Addr} {xs:List V} (e:H a=some (.lst xs)):TyOf K H (.ref a) (.type "list")
 | frz {a:Addr} {o:Obj} {xs:List V} (e:H a=some (.frz o (.lst xs))):TyOf K H (.ref a) (.type "list")
 | tup {a:Addr} {xs:List V} (e:H a=some (.tup xs)):TyOf K H (.ref a) (.type "tuple")
 | dK {a:Addr} {kvs:List (Key × V)} (e:H a=some (.dK kvs)):TyOf K H (.ref a) (.type "dict")
 | dT {a:Addr} {kvs:List (List Key × V)} (e:H a=some (.dT kvs)):TyOf K H (.ref a) (.type "dict")
 | ins {a C dx:Addr} {fs:List (Str × V)} (e:H a=some (.ins C dx fs)) (cl:Cls K C) (ha:PySem.W.findIn K (.ref C) "__class__"=some (some (.builtin "object.__class__")))
   (hn:PySem.W.specialIn K (.builtin "object.__class__") "__get__"=some (some (.builtin "getset_descriptor.__get__"))) (htk:PySem.W.takesIn K (.builtin "object.__class__")=some true)
   (hm:PySem.W.mroIn K C (.type "object")=some true):TyOf K H (.ref a) (.ref C)
theorem isinst_ok {x:V} {u t:Value} (I:Inv X pins σ H s) (rx:RelV x u) (ty:TyOf X.K H x t) (e:PySem.W.kitOne X.K t c=some b) (h:∀ tk,Q (.bool b) { s with toks:=tk }) :
  wpAny (model X.prog X.w) A (call (.builtin "isinstance") [u,c]) Q E s:=by
 cases ty with
 | non=>cases (show u=Value.none from rx); exact PySem.W.kia_one PySem.W.kitx_none I.kIn True.intro e (fun z=>nomatch z) h
 | bl y=>cases (show u=Value.bool y from rx); exact PySem.W.kia_one PySem.W.kitx_bool I.kIn True.intro e (fun z=>nomatch z) h
 | int i=>obtain ⟨t,q⟩:=(show ∃ t,u=Value.int i t from rx); cases q; exact PySem.W.kia_one PySem.W.kitx_int I.kIn True.intro e (fun z=>nomatch z) h
 | str y=>obtain ⟨t,q⟩:=(show ∃ t,u=Value.str y t from rx); cases q; exact PySem.W.kia_one PySem.W.kitx_str I.kIn True.intro e (fun z=>nomatch z) h
 | flt y=>obtain ⟨t,q⟩:=(show ∃ t,u=Value.float y t from rx); cases q; exact PySem.W.kia_one PySem.W.kitx_float I.kIn True.intro e (fun z=>nomatch z) h
 | @lst a xs ea =>
  cases (show u=Value.ref a from rx)
  obtain ⟨_,_,n,_,h1⟩:=(show ObjOk X.prog X.w H s.heap a (.lst xs) from I.hok a _ ea)
  exact PySem.W.kia_one PySem.W.kitx_list I.kIn ⟨_,h1,rfl⟩ e (fun z=>nomatch z) h
 | @frz a ob xs ea =>
  cases (show u=Value.ref a from rx)
  obtain ⟨_,_,_,n,_,h1⟩:=(show ObjOk X.prog X.w H s.heap a (.frz ob (.lst xs)) from I.hok a _ ea)
  exact PySem.W.kia_one PySem.W.kitx_list I.kIn ⟨_,h1,rfl⟩ e (fun z=>nomatch z) h
 | @tup a xs ea =>
  cases (show u=Value.ref a from rx)
  obtain ⟨_,_,_,p⟩:=(show ObjOk X.prog X.w H s.heap a (.tup xs) from I.hok a _ ea)
  obtain ⟨o,h1,h2,_⟩:=p
  exact PySem.W.kia_one PySem.W.kitx_tuple I.kIn ⟨o,h1,h2⟩ e (fun z=>nomatch z) h
 | @dK a kvs ea =>
  cases (show u=Value.ref a from rx)
  obtain ⟨_,_,vs,_,p⟩:=(show ObjOk X.prog X.w H s.heap a (.dK kvs) from I.hok a _ ea)
  obtain ⟨o,es,ep,h1,h2,_⟩:=p
  exact PySem.W.kia_one PySem.W.kitx_dict I.kIn ⟨o,h1,h2.1⟩ e (fun z=>nomatch z) h
 | @dT a kvs ea =>
  cases (show u=Value.ref a from rx)
  obtain ⟨_,_,xs,_,o,es,ep,h1,h2,_⟩:=(show ObjOk X.prog X.w H s.heap a (.dT kvs) from I.hok a _ ea)
  exact PySem.W.kia_one PySem.W.kitx_dict I.kIn ⟨o,h1,h2.1⟩ e (fun z=>nomatch z) h
 | @ins a C dx fs ea cl ha hn htk hm =>
  cases (show u=Value.ref a from rx)
  obtain ⟨mA,O,_⟩:=ins_get I.hok ea
  obtain ⟨od,J,_⟩:=O.look
  exact PySem.W.kia_one (PySem.W.kitx_own (cl.get _) cl.hd ha hn htk hm) I.kIn J e (fun z=>nomatch z) h
end
structure Room (k:Nat) (A:Around):Prop where
 hd:A.handled=none
 dp:A.depth + 3 * k + 5 < recursionLimit
 un:A.units + 16 * k + 200 < cLine
theorem Room.mono {j k:Nat} {A:Around} (r:Room k A) (h:j ≤ k):Room j A:=⟨r.hd,by have:=r.dp; omega,by have:=r.un; omega⟩
theorem Room.deeper {k:Nat} {A:Around} (r:Room (k + 1) A) (env:Env):Room k (A.deeper env) :=
 ⟨r.hd,by have:=r.dp; show A.depth + 1 + 3 * k + 5 < _; omega,by have:=r.un; show A.units + 3 + 16 * k + 200 < _; omega⟩
theorem Room.depth {k:Nat} {A:Around} (r:Room k A):A.depth < recursionLimit:=by have:=r.dp; omega
theorem Room.units {k:Nat} {A:Around} (r:Room k A):A.units + 64 < cLine:=by have:=r.un; omega
def tNil:TA:=fun _ H Q=>Q [] H
def tCons (ta:TE) (tr:TA):TA:=fun σ H Q=>ta σ H fun x H1=>tr σ H1 fun xs H2=>Q (x :: xs) H2
section
variable {X:Cx} {e:Expr} {es:List Expr} {te:TE} {t:TA} {pos:Pos}
theorem ja5:PA X [] tNil:=fun _ _ _ _ H Q I h=>Calls.spliced_nil ⟨[],H,I,.nil,h⟩
theorem ja1 (ha:PE X e te) (hr:PA X es t) (hs:starEach (e :: es) X.env=(false,eval e X.env) :: starEach es X.env:=by rfl):PA X (e :: es) (tCons te t):=by
 intro pos pins s σ H Q I h
 rw [hs]
 show wpAny _ _ (spliced ((false,eval e X.env) :: backTo pos (starEach es X.env))) _ _ s
 refine Calls.spliced_cons (thn (ha pins s σ H _ I h) fun u s1 ⟨x,H1,I1,r1,q1⟩=>?_)
 exact thn (hr pos pins s1 σ H1 _ I1 q1) fun us s2 ⟨xs,H2,I2,r2,q2⟩=>⟨x :: xs,H2,I2,.cons r1 r2,q2⟩
def tTup (t:TA):TE:=fun σ H Q=>t σ H fun xs H1=>xs.length ≤ sizeLine∧∀ p,H1 p=none→Q (.ref p) (upd H1 p (.tup xs))
def tLst (t:TA):TE:=fun σ H Q=>t σ H fun xs H1=>xs.length ≤ sizeLine∧∀ p,H1 p=none→Q (.ref p) (upd H1 p (.lst xs))
theorem pe_tup {x1} (h:PA X es t):PE X (.Tuple es x1 pos) (tTup t):=by
 intro pins s σ H Q I hq
 refine wpAny_Tuple_spliced (thn (h pos pins s σ H _ I hq) fun us s1 ⟨xs,H1,I1,r,z,q⟩=>⟨by rw [← r.length]; exact z,?_⟩)
 have hf:H1 s1.heap.objs.size=none:=I1.hok.fresh (Zd _)
 refine ⟨.ref s1.heap.objs.size,upd H1 s1.heap.objs.size (.tup xs),I1.laid (t':=s1.toks) (fun b u e=>Heap.get?_push_of_some _ e) (Zd _) ?_,rfl,q _ hf⟩
 exact ⟨z,us,r,⟨_,Heap.get?_push_size _ rfl,rfl,_,rfl⟩⟩
theorem pe_lst (h:PA X es t):PE X (.List es pos) (tLst t):=by
 intro pins s σ H Q I hq
 refine wpAny_List_spliced (thn (h pos pins s σ H _ I hq) fun us s1 ⟨xs,H1,I1,r,z,q⟩=>⟨by rw [← r.length]; exact z,?_⟩)
 have hf:H1 s1.heap.objs.size=none:=I1.hok.fresh (Zd _)
 refine ⟨.ref s1.heap.objs.size,upd H1 s1.heap.objs.size (.lst xs),I1.laid (t':=s1.toks) (fun b u e=>Heap.get?_push_of_some _ e) (Zd _) ?_,rfl,q _ hf⟩
 exact ⟨z,us,0,r,Heap.get?_push_size _ rfl⟩
end
abbrev Sp:=List V→Hp→VK→XK→Prop
abbrev CXT:=List Env→Hp→Shared→XK→Value→Shared→Prop
structure Env0 (P:Program) (w:World) (K:PySem.W.Frag) (mg:Str→Option Value) (base:Heap) (A:Around) (outer:List Env) (s:Shared) (H:Hp):Prop where
 frames:A.frames=some outer
 mod:Mod K mg base
 bs:∀ b o,base.get? b=some o→s.heap.get? b=some o∧H b=none
 bsz:base.objs.size ≤ s.heap.objs.size
 funs:s.heap.FunFrames base outer
 frf:∀ b ∈ frs outer,H b=none
 hok:HOk P w H s.heap
 bare:AllBare s.gens
def CE (outer:List Env) (P:Program) (w:World) (H:Hp) (s:Shared) (Q:VK) (u:Value) (s':Shared):Prop :=
 ∃ v H',s'.os=s.os∧AllBare s'.gens∧Un (frs outer) [] H H' s.heap s'.heap∧HOk P w H' s'.heap∧RelV v u∧Q v H'
def CR (CX:CXT) (outer:List Env) (P:Program) (w:World) (H:Hp) (s:Shared) (Q:VK) (E:XK) (r:Result) (s':Shared):Prop :=
 match r with
 | .ok (.ret u)=>CE outer P w H s Q u s'
 | .ok _=>False
 | .error e=>CX outer H s E e s'
structure FnOk (P:Program) (w:World) (K:PySem.W.Frag) (mg:Str→Option Value) (base:Heap) (CX:CXT) (k:Nat) (f:Addr) (fd:FuncData) (ps:List Str) (sp:Sp):Prop where
 len:∀ vs H Q E,sp vs H Q E→vs.length=ps.length
 run:∀ (A:Around) (outer:List Env) (s:Shared) (H:Hp) (args:Args) (us:List Value) (vs:List V) (Q:VK) (E:XK),Room k A→Env0 P w K mg base A outer s H→BindsTo s fd args (ps.zip us)→Vals vs us→sp vs H Q E →
  codeAny (model P w) A (.call (.ref f) args) (CR CX outer P w H s Q E) s
theorem FnOk.imp {P:Program} {w:World} {K:PySem.W.Frag} {mg:Str→Option Value} {base:Heap} {CX:CXT} {k:Nat} {f:Addr} {fd:FuncData} {ps:List Str} {sp sp':Sp} (F:FnOk P w K mg base CX k f fd ps sp)
  (h:∀ vs H Q E,sp' vs H Q E→sp vs H Q E):FnOk P w K mg base CX k f fd ps sp' :=
 ⟨fun vs H Q E q=>F.len vs H Q E (h _ _ _ _ q),fun A outer s H args us vs Q E hr he hb hv hs=>F.run A outer s H args us vs Q E hr he hb hv (h _ _ _ _ hs)⟩
section
variable {X:Cx} {pins:List (Addr × Obj)} {σ:St} {H:Hp} {s s':Shared}
theorem Inv.env0 (I:Inv X pins σ H s):Env0 X.prog X.w X.K X.mg X.base X.A X.stack s H :=
 ⟨I.ok.frames,I.ok.mod,I.bs,Zl I.ok.bsz I.sz,I.stack,I.stkFree,I.hok,I.bare⟩
theorem Inv.after {Q:VK} {u:Value} (I:Inv X pins σ H s) (h:CE X.stack X.prog X.w H s Q u s'):EP X pins σ Q u s':=by
 obtain ⟨v,H',os,bare,un,hok,r,q⟩:=h
 obtain ⟨hh,g,d,t,os'⟩:=s'
 obtain rfl:os'=s.os:=os
 exact ⟨v,H',I.call (h':=hh) (g':=g) (d':=d) (t':=t) (ch:=[]) un hok bare (fun b z=>absurd z (by simp)),r,q⟩
end
def tCall (sp:Sp) (dvs:List V) (E:XK) (t:TA):TE:=fun σ H Q=>t σ H fun vs H1=>sp (vs ++ dvs) H1 Q E
def Binds (K:PySem.W.Frag) (fd:FuncData) (ps:List Str) (ds:List Value):Prop :=
 ∀ (s:Shared) (us:List Value),K.In s.heap→(us ++ ds).length=ps.length→BindsTo s fd ⟨us,[]⟩ (ps.zip (us ++ ds))
theorem Binds.all {K:PySem.W.Frag} {fd:FuncData} {ps:List Str} (h:∀ us:List Value,us.length=ps.length→bindArgs fd ⟨us,[]⟩=pure (ps.zip us)):Binds K fd ps []:=fun s us _ hl=>by
 rw [List.append_nil] at hl ⊢
 exact .of_eq (h us hl)
def Passes (CX:CXT) (X:Cx) (E:XK):Prop:=∀ (pins:List (Addr × Obj)) (σ:St) (H:Hp) (s:Shared) (e:Value) (s':Shared),Inv X pins σ H s→CX X.stack H s E e s'→X.xe e s'
section
variable {X:Cx} {CX:CXT} {k:Nat} {f C:Addr} {fd:FuncData} {ps:List Str} {sp:Sp} {dvs:List V} {ds:List Value} {E:XK} {x m:Str} {p pos apos:Pos} {e o:Expr} {es:List Expr} {ta:TE} {t:TA}
theorem run_fn {pins:List (Addr × Obj)} {σ:St} {H:Hp} {s:Shared} {Q:VK} {us:List Value} {vs:List V} (F:FnOk X.prog X.w X.K X.mg X.base CX k f fd ps sp) (hr:Room k X.A) (hb:Binds X.K fd ps ds) (hd:Vals dvs ds) (hx:Passes CX X E)
  (I:Inv X pins σ H s) (r:Vals vs us) (h:sp (vs ++ dvs) H Q E):wpAny (model X.prog X.w) X.A (call (.ref f) us) (EP X pins σ Q) X.xe s:=by
 have r2:Vals (vs ++ dvs) (us ++ ds):=r.append hd
 have hl:(us ++ ds).length=ps.length:=by rw [← r2.length]; exact F.len _ _ _ _ h
 refine wpAny_call (codeAny_mono (F.run X.A X.stack s H ⟨us,[]⟩ (us ++ ds) (vs ++ dvs) Q E hr I.env0 (hb s us I.kIn hl) r2 h) fun r s' hq=>?_)
 cases r with
 | error e=>exact hx pins σ H s e s' I hq
 | ok fl =>
  cases fl with
  | ret u=>exact I.after hq
  | next=>exact False.elim hq
  | brk=>exact False.elim hq
  | cont=>exact False.elim hq
theorem jb5 (F:FnOk X.prog X.w X.K X.mg X.base CX k f fd ps sp) (hr:Room k X.A) (hg:Gl X x) (hm:X.mg x=some (.ref f)) (hk:PySem.W.keepIn X.K (.ref f)=true) (hb:Binds X.K fd ps ds) (hd:Vals dvs ds) (hx:Passes CX X E)
  (ha:PA X (e :: es) t) (hdb:(x == ("__debug__" : Str))=false:=by decide) (he:starEach (e :: es) X.env=(false,eval e X.env) :: starEach es X.env:=by rfl) (hpl:(backTo pos (starEach es X.env)).any (·.1)=false:=by rfl) :
  PE X (.Call (.Name x p) (e :: es) [] pos) (tCall sp dvs E t):=by
 intro pins s σ H Q I h
 refine wpAny_Call_Name_kw (ld_glob I hg hm ?_ hdb)
 refine PySem.W.callWith_K (h₀:=X.base) I.ok.mod.kin hk (thn (ha pos pins s σ H _ I h) fun us s1 ⟨vs,H1,I1,r,q⟩=>⟨I1.kIn,?_⟩) he hpl
 exact run_fn F hr hb hd hx I1 r q
end
section
variable {X:Cx} {CX:CXT} {k:Nat} {f C:Addr} {fd:FuncData} {ps ks:List Str} {sp:Sp} {E:XK} {x m:Str} {p pos apos kpos:Pos} {e o:Expr} {es:List Expr} {kws:List Keyword} {te ta:TE} {t tk:TA} {nm:Option Str}
variable {g:List Value→List Value→List Value} {gV:List V→List V→List V}
end
structure FnScope (N P:List Str) (sc:Scope):Prop where
 kind:sc.kind=.function
 co:sc.isCoroutine=false
 gen:sc.isGenerator=false
 nd:N.Nodup
 pre:N.take P.length=P
 par:∀ x ∈ P,sc.names.lookup x=some .local ∨ sc.names.lookup x=some .cell
 nofree:∀ y ∈ sc.names,y.2 ≠ .free
theorem fsc {N P:List Str} {sc:Scope} (a:sc.kind=.function:=by rfl) (b:sc.isCoroutine=false:=by rfl) (c:sc.isGenerator=false:=by rfl) (d:N.Nodup:=by decide +kernel) (e:N.take P.length=P:=by rfl) (f:∀ x ∈ P,sc.names.lookup x=some .local ∨ sc.names.lookup x=some .cell:=by decide +kernel) (g:∀ y ∈ sc.names,y.2 ≠ .free:=by decide +kernel):FnScope N P sc:=⟨a,b,c,d,e,f,g⟩
theorem bindL_out {kindOf:Str→Option NameKind} {x:Str}:∀ {binds:List (Str × Value)} {m:Str→Option Value},(∀ v,(x,v) ∉ binds)→bindL kindOf binds m x=m x
 | [],_,_=>rfl
 | (n,v) :: r,m,h=>by
  unfold bindL
  rw [bindL_out fun w hw=>h w (Zu _ hw)]
  split
  ·have:x ≠ n:=by rintro rfl; exact h v Yb
   simp [this]
  ·rfl
theorem bindC_out {kindOf:Str→Option NameKind} {x:Str}:∀ {binds:List (Str × Value)} {m:Str→Option Value},(∀ v,(x,v) ∉ binds)→bindC kindOf binds m x=m x
 | [],_,_=>rfl
 | (n,v) :: r,m,h=>by
  unfold bindC
  rw [bindC_out fun w hw=>h w (Zu _ hw)]
  split
  ·rfl
  ·have:x ≠ n:=by rintro rfl; exact h v Yb
   simp [this]
theorem bindL_get {kindOf:Str→Option NameKind} {x:Str} {v:Value}:∀ {P:List Str} {vs:List Value} {i:Nat} {m:Str→Option Value},P.Nodup→P[i]?=some x→vs[i]?=some v→kindOf x=some .local →
  bindL kindOf (P.zip vs) m x=some v
 | [],_,_,_,_,h,_,_=>by simp at h
 | _ :: _,[],_,_,_,_,h,_=>by simp at h
 | p :: P,w :: vs,0,m,nd,h1,h2,hk=>by
  simp at h1 h2; subst h1; subst h2
  show bindL kindOf ((p,w) :: P.zip vs) m p=_
  unfold bindL
  rw [bindL_out fun v hv=>(List.nodup_cons.mp nd).1 (List.of_mem_zip hv).1,if_pos hk]
  simp
 | p :: P,w :: vs,i + 1,m,nd,h1,h2,hk=>by
  show bindL kindOf ((p,w) :: P.zip vs) m x=_
  unfold bindL
  exact bindL_get (i:=i) (List.nodup_cons.mp nd).2 (by simpa using h1) (by simpa using h2) hk
theorem bindC_get {kindOf:Str→Option NameKind} {x:Str} {v:Value}:∀ {P:List Str} {vs:List Value} {i:Nat} {m:Str→Option Value},P.Nodup→P[i]?=some x→vs[i]?=some v→kindOf x ≠ some .local →
  bindC kindOf (P.zip vs) m x=some v
 | [],_,_,_,_,h,_,_=>by simp at h
 | _ :: _,[],_,_,_,_,h,_=>by simp at h
 | p :: P,w :: vs,0,m,nd,h1,h2,hk=>by
  simp at h1 h2; subst h1; subst h2
  show bindC kindOf ((p,w) :: P.zip vs) m p=_
  unfold bindC
  rw [bindC_out fun v hv=>(List.nodup_cons.mp nd).1 (List.of_mem_zip hv).1,if_neg hk]
  simp
 | p :: P,w :: vs,i + 1,m,nd,h1,h2,hk=>by
  show bindC kindOf ((p,w) :: P.zip vs) m x=_
  unfold bindC
  exact bindC_get (i:=i) (List.nodup_cons.mp nd).2 (by simpa using h1) (by simpa using h2) hk
def start (N:List Str) (vs:List V):St:=vs.map some ++ List.replicate (N.length - vs.length) none
def cxOf (CX:CXT) (P:Program) (w:World) (K:PySem.W.Frag) (mg:Str→Option Value) (base:Heap) (N:List Str) (qual:Str) (scope:Scope) (f:Addr) (cd:Value) (A:Around) (outer:List Env) (s:Shared) (H:Hp) (E:XK):Cx where
 prog:=P
 w:=w
 K:=K
 mg:=mg
 base:=base
 A:=A.deeper (envOfC qual scope s.heap.objs.size f cd)
 N:=N
 s₀:=s
 H₀:=H
 env:=envOfC qual scope s.heap.objs.size f cd
 outer:=outer
 stack:=envOfC qual scope s.heap.objs.size f cd :: outer
 ex:=[]
 calm:=true
 fn:=fun _=>true
 pn:=[]
 xe:=fun e s'=>wpAny (model P w) (A.deeper (envOfC qual scope s.heap.objs.size f cd)) (leaving (envOfC qual scope s.heap.objs.size f cd) e) (fun _ s''=>CX outer H s E e s'') (fun e' s''=>CX outer H s E e' s'') s'
theorem cell_has {sc:Scope} {n:Nat} {x:Str} (h:sc.names.lookup x=some .cell):∃ c,(cellsFrom n sc.names []).lookup x=some c:=by
 have q:=PySem.W.cellsFrom_some sc.names n [] (.inl h)
 exact Option.isSome_iff_exists.mp q
theorem inv_start {CX:CXT} {P:Program} {w:World} {K:PySem.W.Frag} {mg:Str→Option Value} {base:Heap} {N ps:List Str} {qual:Str} {scope:Scope} {f:Addr} {cd:Value} {A:Around} {outer:List Env} {s s1:Shared} {H:Hp} {E:XK} {us:List Value} {vs:List V}
  (S:FnScope N ps scope) (hd:A.handled=none) (e0:Env0 P w K mg base A outer s H) (hl:vs.length=ps.length) (r:Vals vs us)
  (x:InCallC s s.heap.objs.size (bindL (envOfC qual scope s.heap.objs.size f cd).kindOf (ps.zip us) fun _=>none) (cellsFrom (s.heap.objs.size + 1) scope.names []) (bindC (envOfC qual scope s.heap.objs.size f cd).kindOf (ps.zip us) fun _=>none) s1) :
  Inv (cxOf CX P w K mg base N qual scope f cd A outer s H E) [] (start N vs) H s1:=by
 have hpl:ps.length ≤ N.length:=by have:=congrArg List.length S.pre; rw [Zz] at this; omega
 obtain ⟨h1,tk,rfl,hk⟩:=x.done
 have noA:∀ b:Addr,b ∉ (cxOf CX P w K mg base N qual scope f cd A outer s H E).ex:=fun b z=>absurd (show b ∈ ([]:List Addr) from z) (by simp)
 refine ⟨⟨e0.mod,S.kind,rfl,rfl,Zd _,fun y z c h1 h2=>?_,fun y hy=>?_,fun y c _ h=>?_,fun _=>hd,Around.frames_deeper e0.frames,.inr ⟨rfl,rfl⟩,fun b z=>absurd z (noA b),e0.bs,e0.bsz,fun b _ _=>noA b,fun b z=>absurd z (noA b),e0.funs,e0.frf⟩,
  rfl,e0.bare,Un.kept hk,⟨_,x.toInCall.ns,fun i y v h1 h2 h3=>?_⟩,fun y c h=>⟨_,x.cell y c h⟩,e0.hok.fresh (Zd _),fun y c h=>?_,fun p hp=>absurd (show p ∈ ([]:List (Addr × Obj)) from hp) (by simp),e0.hok.kept hk,?_⟩
 ·exact name_of_addr x.apart (PySem.mem_of_lookup h1) (PySem.mem_of_lookup h2)
 ·have hy:scope.names.lookup y=some .cell ∨ scope.names.lookup y=some .free:=hy
  rcases hy with hy | hy
  ·exact cell_has hy
  ·exact absurd rfl (S.nofree _ (PySem.mem_of_lookup hy))
 ·exact Nat.le_of_lt (x.above y c (PySem.mem_of_lookup h))
 ·have hi:i < vs.length:=by
   unfold start at h2
   by_cases hi:i < vs.length
   ·exact hi
   ·rw [Yi (by simpa using hi)] at h2
    rw [List.getElem?_replicate] at h2
    split at h2 <;> cases h2
  have ha:vs[i]?=some v:=by
   unfold start at h2
   rw [Zr (by simpa using hi),Zg] at h2
   cases e:vs[i]? with
   | none=>rw [e] at h2; cases h2
   | some a=>rw [e] at h2; cases h2; rfl
  obtain ⟨u,hu,rv⟩:=r.get ha
  have hp:ps[i]?=some y:=by
   rw [← S.pre,List.getElem?_take_of_lt (by omega)]; exact h1
  have ndP:ps.Nodup:=by rw [← S.pre]; exact S.nd.sublist (List.take_sublist _ _)
  refine ⟨u,rv,?_⟩
  rcases S.par y (Zi hp) with k | k
  ·exact .inl ⟨k,bindL_get ndP hp hu k⟩
  ·obtain ⟨c,e⟩:=cell_has (n:=s.heap.objs.size + 1) k
   refine .inr ⟨.inl k,c,e,?_⟩
   have q:=x.cell y c e
   rw [bindC_get ndP hp hu (by show scope.names.lookup y ≠ _; rw [k]; decide)] at q
   exact q
 ·exact e0.hok.fresh (Nat.le_of_lt (x.above y c (PySem.mem_of_lookup h)))
 ·unfold start
  show _=N.length
  rw [Zj,Zb,List.length_replicate]
  omega
theorem fn_of {CX:CXT} {P:Program} {w:World} {K:PySem.W.Frag} {mg:Str→Option Value} {base:Heap} {k:Nat} {f:Addr} {name qual:Str} {params:Arguments} {body:List Stmt} {scope:Scope} {dV kV doc pm cdv ct oc:Value} {an od:Option Addr}
  {osl:Array (Option Value)} {N ps:List Str} {sp:Sp} (lk:K.lookup f=some ⟨oc,od,.func (PySem.W.fnOf name qual params body scope dV kV doc pm an cdv ct),osl⟩) (hcd:PySem.W.codeIn K cdv qual=true) (S:FnScope N ps scope)
  (len:∀ vs H Q E,sp vs H Q E→vs.length=ps.length)
  (hbody:∀ (A:Around) (outer:List Env) (s:Shared) (H:Hp) (vs:List V) (Q:VK) (E:XK),Room k (A.deeper (envOfC qual scope s.heap.objs.size f cdv))→sp vs H Q E →
   ∃ t,PSs (cxOf CX P w K mg base N qual scope f cdv A outer s H E) body t∧t { nx:=fun _ H'=>Q .non H',rt:=Q } (start N vs) H) :
  FnOk P w K mg base CX (k + 1) f (PySem.W.fnOf name qual params body scope dV kV doc pm an cdv ct) ps sp:=by
 refine ⟨len,fun A outer s H args us vs Q E hr e0 hb r hsp=>?_⟩
 have hl:=len _ _ _ _ hsp
 have KX:K.In s.heap:=e0.mod.kin.keeps fun b o e=>(e0.bs b o e).1
 have lim:s.heap.NoLimit:=e0.mod.nolimit.keeps fun b o e=>(e0.bs b o e).1
 have hkind:∀ y ∈ ps.zip us,scope.names.lookup y.1=some .local ∨ (scope.names.lookup y.1=some .cell∧((cellsFrom (s.heap.objs.size + 1) scope.names []).lookup y.1).isSome=true):=fun ⟨n,v⟩ hy=>by
  rcases S.par n (List.of_mem_zip hy).1 with q | q
  ·exact .inl q
  ·exact .inr ⟨q,PySem.W.cellsFrom_some _ _ _ (.inl q)⟩
 refine codeAny_call_function hr.depth (KX _ _ lk) rfl S.co S.gen rfl (PySem.W.codeRec_of KX hcd) (hb _ _ _ _ ?_)
 refine wpAny_newFunctionEnv_cells S.kind hkind fun env he s1 x=>?_
 subst he
 refine ⟨lim.keeps x.toInCall.keep,codeAny_func ?_⟩
 obtain ⟨t,ht,hq⟩:=hbody A outer s H vs Q E (hr.deeper _) hsp
 have I:Inv (cxOf CX P w K mg base N qual scope f cdv A outer s H E) [] (start N vs) H s1:=inv_start S hr.hd e0 hl r x
 refine wpAny_mono (ht [] s1 (start N vs) H _ I hq) (fun fl s' hs=>?_) fun e s' hs=>hs
 have fin:∀ {σ':St} {H':Hp} {v:V} {u:Value},Inv (cxOf CX P w K mg base N qual scope f cdv A outer s H E) [] σ' H' s'→RelV v u→Q v H'→CE outer P w H s Q u s' :=
  fun {σ' H' v u} J rv q=>⟨v,H',J.os,J.bare,J.base,J.hok,rv,q⟩
 cases fl with
 | ret u =>
  obtain ⟨v,σ',H',J,rv,q⟩:=hs
  exact fin J rv q
 | next =>
  obtain ⟨σ',H',J,q⟩:=hs
  exact fin (v:=V.non) (u:=Value.none) J rfl q
 | brk =>
  obtain ⟨_,_,_,q⟩:=hs
  exact False.elim q
 | cont =>
  obtain ⟨_,_,_,q⟩:=hs
  exact False.elim q
section
variable {X:Cx} {x:Str} {p pos:Pos} {e:Expr} {es:List Expr} {t:TA} {id T:String} {r:List V→Hp→VK→Prop}
def tCB (r:List V→Hp→VK→Prop) (t:TA):TE:=fun σ H Q=>t σ H fun vs H1=>r vs H1 Q
theorem jb3 (hc:CallR X (.builtin id) r) (hg:Gl X x) (hm:X.mg x=none) (hv:bootBuiltins x=some (.builtin id)) (ha:PA X (e :: es) t) (hn:x ≠ "__name__":=by decide) (hdb:(x == ("__debug__" : Str))=false:=by decide)
  (he:starEach (e :: es) X.env=(false,eval e X.env) :: starEach es X.env:=by rfl) (hpl:(backTo pos (starEach es X.env)).any (·.1)=false:=by rfl):PE X (.Call (.Name x p) (e :: es) [] pos) (tCB r t):=by
 intro pins s σ H Q I h
 refine wpAny_Call_Name_kw (ld_blt I hg hm hv ?_ hn hdb)
 exact PyProof.Rows.callWith_builtin1 (thn (ha pos pins s σ H _ I h) fun us s1 ⟨vs,H1,I1,r1,q1⟩=>hc pins s1 σ H1 vs us Q I1 r1 q1) he hpl
theorem jg9 (hc:CallR X (.type T) r) (hg:Gl X x) (hm:X.mg x=none) (hv:bootBuiltins x=some (.type T)) (ha:PA X (e :: es) t) (hn:x ≠ "__name__":=by decide) (hdb:(x == ("__debug__" : Str))=false:=by decide)
  (he:starEach (e :: es) X.env=(false,eval e X.env) :: starEach es X.env:=by rfl) (hpl:(backTo pos (starEach es X.env)).any (·.1)=false:=by rfl):PE X (.Call (.Name x p) (e :: es) [] pos) (tCB r t):=by
 intro pins s σ H Q I h
 refine wpAny_Call_Name_kw (ld_blt I hg hm hv ?_ hn hdb)
 exact PyProof.Rows.callWith_type1 (thn (ha pos pins s σ H _ I h) fun us s1 ⟨vs,H1,I1,r1,q1⟩=>hc pins s1 σ H1 vs us Q I1 r1 q1) he hpl
end
end L2
namespace HT
open PySem PyProof.Rows
section
open PySem.SeqAt
open PySem.AutoSeq1 (wpAny_loadPart')
open PySem.MeetsSeq PySem.MeetsSeq2 PySem.MeetsSeq3
end
section
variable {prog:Program} {w:World} {A:Around} {E:Value→Shared→Prop} {s:Shared}
theorem cat_tup {t b:Addr} {vs ws:List Value} {Q:Value→Shared→Prop} (ht:IsTup s.heap t vs.toArray) (hb:IsTup s.heap b ws.toArray) (hv:vs ≠ [])
  (h1:ws=[]→Q (.ref t) s) (h2:ws ≠ []→Q (.ref s.heap.objs.size) { s with heap:=s.heap.push { cls:=.type "tuple",data:=.seq (vs ++ ws).toArray } })
  (hsz:vs.length + ws.length ≤ sizeLine):wpAny (model prog w) A (binaryOp .Add (.ref t) (.ref b)) Q E s:=by
 obtain ⟨⟨cls,dd,data,sl⟩,ho,hc,n,hd⟩:=id ht
 obtain ⟨⟨cls2,dd2,data2,sl2⟩,ho2,hc2,n2,hd2⟩:=id hb
 simp only at hc hd hc2 hd2
 subst hc hd hc2 hd2
 have e:vs.toArray ++ ws.toArray=(vs ++ ws).toArray:=by simp
 by_cases hw:ws=[]
 ·exact concat_meets ⟨_,ho,rfl⟩ ⟨_,ho2,rfl⟩ noFill_tuple_add seq_tuple_add PySem.F.slot_tuple_add PySem.F.entry_tuple_add (PySem.F.args_tuple_add_2 _ _)
   (tuple_addW1 t b vs.toArray ws.toArray n n2 dd dd2 sl sl2 (by simpa using hv) (by simp [hw])) ⟨ho,ho2,h1 hw⟩
 ·refine concat_meets ⟨_,ho,rfl⟩ ⟨_,ho2,rfl⟩ noFill_tuple_add seq_tuple_add PySem.F.slot_tuple_add PySem.F.entry_tuple_add (PySem.F.args_tuple_add_2 _ _)
   (tuple_addW2 t b vs.toArray ws.toArray n n2 dd dd2 sl sl2 (by simpa using hv) (by simpa using hw) (by rw [Zo,Zo]; exact hsz)) ⟨ho,ho2,?_⟩
  rw [e]
  exact h2 hw
def sIx (n d:Nat):Option Int→Nat
 | none=>d
 | some v=>if v < 0 then (v + (n:Int)).toNat else min v.toNat n
theorem sIx_none (n d:Nat):sIx n d none=d:=rfl
theorem sIx_le (n d:Nat) (hd:d ≤ n) (o:Option Int):sIx n d o ≤ n:=by
 cases o with
 | none=>exact hd
 | some v =>
  show (if v < 0 then (v + (n:Int)).toNat else min v.toNat n) ≤ n
  by_cases hv:v < 0
  ·rw [if_pos hv]; omega
  ·rw [if_neg hv]; exact Nat.min_le_right _ _
theorem clip_eq (v:Int) (n d:Nat):(if v < 0 then max (v + (n:Int)) 0 else min v (n:Int))=((sIx n d (some v):Nat):Int):=by
 show (if v < 0 then max (v + (n:Int)) 0 else min v (n:Int))=(((if v < 0 then (v + (n:Int)).toNat else min v.toNat n):Nat):Int)
 by_cases hv:v < 0
 ·simp only [if_pos hv]; omega
 ·simp only [if_neg hv]; omega
theorem adjust_gen (lo hi:Option Int) (n:Nat):Builtin.Slice.sliceAdjust lo hi 1 (n:Int)=(((sIx n 0 lo:Nat):Int),((sIx n n hi:Nat):Int)):=by
 have h1:¬ ((1:Int) < 0):=by omega
 unfold Builtin.Slice.sliceAdjust
 simp only [h1,if_false]
 refine Prod.ext ?_ ?_
 ·cases lo with
  | none=>rfl
  | some v=>exact clip_eq v n 0
 ·cases hi with
  | none=>rfl
  | some v=>exact clip_eq v n n
theorem places_gen (i j:Nat):Builtin.Slice.slicePlaces (i:Int) (j:Int) 1=j - i:=by
 unfold Builtin.Slice.slicePlaces
 have h1:(1:Int) > 0:=by omega
 simp only [h1,if_true,Int.ediv_one]
 split <;> omega
theorem slicePart_ {v:Value} {o:Option Int} {Q:Option Int→Shared→Prop} (p:IsPart v o) (h:Q o s):wpAny (model prog w) A (Builtin.Slice.slicePartIndex v) Q E s:=by
 cases p with
 | none=>exact slicePart_none h
 | int i t=>exact slicePart_int h
theorem sliceApplied_gen {sl:Addr} {vl vu:Value} {lo hi:Option Int} {n:Nat} {Q:Int × Int × Nat→Shared→Prop} (hs:s.heap.IsSliceOf sl vl vu .none) (pl:IsPart vl lo) (pu:IsPart vu hi)
  (h:Q (((sIx n 0 lo:Nat):Int),1,sIx n n hi - sIx n 0 lo) s):wpAny (model prog w) A (Builtin.Slice.sliceApplied (.ref sl) (pure (n:Int))) Q E s:=by
 obtain ⟨os,hos,hcs,hds⟩:=id hs
 unfold Builtin.Slice.sliceApplied Builtin.Slice.sliceFields
 refine Za (Za (wpAny_field hos hds (x:=vl) rfl (Za (wpAny_field hos hds (x:=vu) rfl (Za (wpAny_field hos hds (x:=.none) rfl (wpAny_pure ?_)))))))
 refine Za (slicePart_none ?_)
 show wpAny _ _ (if ((1:Int) == 0)=true then _ else _) _ _ s
 rw [if_neg (by decide)]
 refine Za (slicePart_ pl (Za (slicePart_ pu (Za (wpAny_pure ?_)))))
 show wpAny _ _ (match Builtin.Slice.sliceAdjust lo hi 1 (n:Int) with | (lo,hi)=>pure (lo,(1:Int),Builtin.Slice.slicePlaces lo hi 1)) _ _ s
 rw [adjust_gen lo hi n]
 show wpAny _ _ (pure (((sIx n 0 lo:Nat):Int),(1:Int),Builtin.Slice.slicePlaces ((sIx n 0 lo:Nat):Int) ((sIx n n hi:Nat):Int) 1)) _ _ s
 rw [places_gen]
 exact wpAny_pure h
theorem pick_gen (xs:Array Value) (i k:Nat):((List.range k).filterMap fun (m:Nat)=>xs[((i:Int) + (m:Int) * 1).toNat]?).toArray=((xs.toList.drop i).take k).toArray:=by
 have e:(fun (m:Nat)=>xs[((i:Int) + (m:Int) * 1).toNat]?)=fun m=>xs[i + m]?:=by
  funext m
  have:((i:Int) + (m:Int) * 1).toNat=i + m:=by omega
  rw [this]
 rw [e]
 have:=pick_run xs i k
 rw [List.filterMap_map] at this
 have e2:((fun x=>xs[x]?) ∘ fun x=>i + x)=fun m=>xs[i + m]?:=rfl
 rw [e2] at this
 rw [this]
theorem getItem_tuple_cut {t sl:Addr} {items:Array Value} {vl vu:Value} {lo hi:Option Int} {Q:Value→Shared→Prop} (ht:IsTup s.heap t items) (hs:s.heap.IsSliceOf sl vl vu .none) (pl:IsPart vl lo) (pu:IsPart vu hi)
  (hw:¬ (sIx items.size 0 lo=0∧sIx items.size items.size hi=items.size))
  (h:Q (.ref s.heap.objs.size) { s with heap:=s.heap.push { cls:=.type "tuple",data:=.seq ((items.toList.drop (sIx items.size 0 lo)).take (sIx items.size items.size hi - sIx items.size 0 lo)).toArray } })
  (hsz:items.size ≤ sizeLine):wpAny (model prog w) A (getItem (.ref t) (.ref sl)) Q E s:=by
 have htake:sizeOk (.seq ((items.toList.drop (sIx items.size 0 lo)).take (sIx items.size items.size hi - sIx items.size 0 lo)).toArray):=by
  show ((items.toList.drop (sIx items.size 0 lo)).take (sIx items.size items.size hi - sIx items.size 0 lo)).toArray.size ≤ sizeLine
  rw [Zo,Zz,List.length_drop,Array.length_toList]
  omega
 have hj:sIx items.size items.size hi ≤ items.size:=sIx_le _ _ (Zd _) hi
 obtain ⟨os,hos,hcs,hds⟩:=id hs
 have hTs:s.TypeIs (.ref sl) "slice":=⟨os,hos,hcs⟩
 unfold getItem
 try with_reducible refine wpAny_holding ?_
 first | refine Za (wpAny_pure ?_) | skip
 refine Za (wpAny_sequenceKey ht.typeIs (by decide) ?_)
 refine Za (wpAny_callSpecial?_slot (name:=Str.ofString "__getitem__") ht.typeIs PyProof.Rows.slot_tuple_getitem
  (wpAny_call_entry PyProof.Rows.slot_tuple_getitem ht.typeIs entry_tuple_getitem ?_ (args_tuple_getitem _ _)))
 show wpAny _ _ (Builtin.Tuple.tupleItemsOf (.ref t) >>= _) _ _ s
 refine Za (tupleItemsOf_ ht ?_)
 refine Za (wpAny_typeOf hTs ?_)
 rw [if_pos (by decide)]
 refine Za (sliceApplied_gen hs pl pu ?_)
 have hno:¬ ((((sIx items.size 0 lo:Nat):Int) == 0 && (1:Int) == 1 && (sIx items.size items.size hi - sIx items.size 0 lo) == items.size)=true):=by
  intro q
  rw [Zm,Zm] at q
  have q1:((sIx items.size 0 lo:Nat):Int)=0:=eq_of_beq q.1.1
  have q2:sIx items.size items.size hi - sIx items.size 0 lo=items.size:=eq_of_beq q.2
  exact hw ⟨by omega,by omega⟩
 show wpAny _ _ (if (((sIx items.size 0 lo:Nat):Int) == 0 && (1:Int) == 1 && (sIx items.size items.size hi - sIx items.size 0 lo) == items.size)=true then _ else _) _ _ s
 rw [if_neg hno,pick_gen]
 first
  | exact Za (m:=Builtin.Tuple.tupleExact _) (wpAny_newObj_type (wpAny_pure ⟨_,rfl,wpAny_pure h⟩) htake)
  | exact Za (m:=Builtin.Tuple.tupleExact _) (wpAny_newObj_type (Za (wpAny_pure (wpAny_pure ⟨_,rfl,wpAny_pure h⟩))) htake)
  | exact Za (Za (m:=Builtin.Tuple.tupleExact _) (wpAny_newObj_type (wpAny_pure (wpAny_pure ⟨_,rfl,wpAny_pure h⟩)) htake))
  | exact Za (Za (m:=Builtin.Tuple.tupleExact _) (wpAny_newObj_type (wpAny_pure ⟨_,rfl,wpAny_pure h⟩) htake))
end
end HT
namespace L2
open PySem PySem.Spec PyProof.Rows
abbrev TO:=St→Hp→(Option Int→Hp→Prop)→Prop
def PO (X:Cx) (e:Option Expr) (t:TO):Prop :=
 ∀ (pins:List (Addr × Obj)) (s:Shared) (σ:St) (H:Hp) (Q:Option Int→Hp→Prop),Inv X pins σ H s→t σ H Q →
  wpAny (model X.prog X.w) X.A (evalPart e X.env) (fun u s'=>∃ o H',Inv X pins σ H' s'∧IsPart u o∧Q o H') X.xe s
def tNoPart:TO:=fun _ H Q=>Q none H
def tPart (t:TE):TO:=fun σ H Q=>t σ H fun x H1=>∃ i,x=.int i∧Q (some i) H1
section
variable {X:Cx} {e:Expr} {te:TE} {lo hi:Option Expr} {tl th:TO} {pos p2:Pos}
theorem po_none:PO X none tNoPart:=by
 intro pins s σ H Q I h
 rw [evalPart_none]
 exact wpAny_pure ⟨none,H,I,.none,h⟩
theorem po_some (h:PE X e te):PO X (some e) (tPart te):=by
 intro pins s σ H Q I hw
 rw [evalPart_some]
 refine thn (h pins s σ H _ I hw) fun u s1 ⟨x,H1,I1,r1,q1⟩=>?_
 obtain ⟨i,rfl,q⟩:=q1
 obtain ⟨t,rfl⟩:=r1
 exact ⟨some i,H1,I1,.int i t,q⟩
def SlR (X:Cx) (r:V→Option Int→Option Int→Hp→VK→Prop):Prop :=
 ∀ (pins:List (Addr × Obj)) (s:Shared) (σ:St) (H:Hp) (x:V) (v vl vu:Value) (lo hi:Option Int) (sl:Addr) (Q:VK),Inv X pins σ H s→RelV x v→s.heap.IsSliceOf sl vl vu .none→IsPart vl lo→IsPart vu hi→r x lo hi H Q →
  ∃ T id,typeLookup (.type T) "__getitem__"=pure (some (.builtin id))∧s.TypeIs v T∧wpAny (model X.prog X.w) X.A (getItem v (.ref sl)) (EP X pins σ Q) X.xe s
theorem SlR.or {r r':V→Option Int→Option Int→Hp→VK→Prop} (h:SlR X r) (h':SlR X r'):SlR X (fun x lo hi H Q=>r x lo hi H Q ∨ r' x lo hi H Q):=by
 intro pins s σ H x v vl vu lo hi sl Q I rx hs pl pu q
 rcases q with q | q
 ·exact h pins s σ H x v vl vu lo hi sl Q I rx hs pl pu q
 ·exact h' pins s σ H x v vl vu lo hi sl Q I rx hs pl pu q
def tSl (r:V→Option Int→Option Int→Hp→VK→Prop) (te:TE) (tl th:TO):TE:=fun σ H Q=>te σ H fun x H1=>tl σ H1 fun l H2=>th σ H2 fun u H3=>r x l u H3 Q
theorem pe_slice {r:V→Option Int→Option Int→Hp→VK→Prop} (hr:SlR X r) (he:PE X e te) (hl:PO X lo tl) (hu:PO X hi th):PE X (.Subscript e (.Slice lo hi none p2) pos) (tSl r te tl th):=by
 intro pins s σ H Q I h
 refine Subscript_ (thn (he pins s σ H _ I h) fun v s1 ⟨x,H1,I1,r1,q1⟩=>?_)
 refine wpAny_Slice (thn (hl pins s1 σ H1 _ I1 q1) fun vl s2 ⟨l,H2,I2,pl,q2⟩=>thn (hu pins s2 σ H2 _ I2 q2) fun vu s3 ⟨u,H3,I3,pu,q3⟩=>?_)
 rw [evalPart_none]
 refine wpAny_pure ?_
 have I4:Inv X pins σ H3 { s3 with heap:=s3.heap.push { cls:=.type "slice",data:=.fields #[vl,vu,.none] } }:=I3.kept (t':=s3.toks) fun b ob q=>Heap.get?_push_of_some _ q
 obtain ⟨T,id,hT,ht,hg⟩:=hr pins { s3 with heap:=s3.heap.push { cls:=.type "slice",data:=.fields #[vl,vu,.none] } } σ H3 x v vl vu l u s3.heap.objs.size Q I4 r1 (Heap.IsSliceOf.new ..) pl pu q3
 show wpAny (model X.prog X.w) X.A (subscriptTail e (.Slice lo hi none p2) v (.ref s3.heap.objs.size)) (EP X pins σ Q) X.xe { s3 with heap:=s3.heap.push { cls:=.type "slice",data:=.fields #[vl,vu,.none] } }
 exact tail_any (ops:=[.ref s3.heap.objs.size,v]) ht hT hg (by with_unfolding_all rfl)
def cutV (xs:List V) (lo hi:Option Int):List V:=(xs.drop (HT.sIx xs.length 0 lo)).take (HT.sIx xs.length xs.length hi - HT.sIx xs.length 0 lo)
theorem cutV_length (xs:List V) (lo hi:Option Int):(cutV xs lo hi).length ≤ xs.length:=by
 unfold cutV
 rw [Zz,List.length_drop]
 omega
def rSlT (K:PySem.W.Frag):V→Option Int→Option Int→Hp→VK→Prop:=fun x lo hi H Q=>∃ a xs,x=.ref a∧SqT K H a xs ∧
 ¬ (HT.sIx xs.length 0 lo=0∧HT.sIx xs.length xs.length hi=xs.length)∧∀ p,H p=none→Q (.ref p) (upd H p (.tup (cutV xs lo hi)))
theorem sl_tup:SlR X (rSlT X.K):=by
 intro pins s σ H x v vl vu lo hi sl Q I rx hs pl pu h
 obtain ⟨a,xs,rfl,hx,hw,q⟩:=h
 cases rx
 obtain ⟨its,r,ht,hz⟩:=I.tuple hx
 have hlen:its.toArray.size=xs.length:=by rw [Zo]; exact r.length.symm
 refine ⟨"tuple",_,PyProof.Rows.slot_tuple_getitem.lookup,ht.typeIs,?_⟩
 refine HT.getItem_tuple_cut ht hs pl pu (by rw [hlen]; exact hw) ?_ (by rw [hlen]; exact hz)
 rw [hlen]
 refine ⟨.ref s.heap.objs.size,_,I.laid (t':=s.toks) (o:=.tup (cutV xs lo hi)) (fun b ob q=>Heap.get?_push_of_some _ q) (Zd _) ?_,rfl,q _ (I.hok.fresh (Zd _))⟩
 exact ⟨Zl (cutV_length xs lo hi) hz,_,(r.drop (HT.sIx xs.length 0 lo)).take (HT.sIx xs.length xs.length hi - HT.sIx xs.length 0 lo),IsTup.new _ _⟩
def rCatT (K:PySem.W.Frag):R2:=fun x y H Q=>∃ a b xs ys,x=.ref a∧y=.ref b∧SqT K H a xs∧SqT K H b ys∧xs ≠ []∧xs.length + ys.length ≤ sizeLine ∧
 (ys=[]→Q (.ref a) H)∧(ys ≠ []→∀ p,H p=none→Q (.ref p) (upd H p (.tup (xs ++ ys))))
theorem Vals.nil_iff {xs:List V} {us:List Value} (r:Vals xs us):us=[] ↔ xs=[]:=by
 cases r with
 | nil=>simp
 | cons _ _=>simp
theorem op_catT:OpR X (binaryOp .Add) (rCatT X.K):=by
 intro pins s σ H x y v u Q I rx ry h
 obtain ⟨a,b,xs,ys,rfl,rfl,ha,hb,hx,hz,q1,q2⟩:=h
 cases rx
 cases ry
 obtain ⟨its,r1,p1,_⟩:=I.tuple ha
 obtain ⟨its2,r2,p2,_⟩:=I.tuple hb
 refine HT.cat_tup p1 p2 (fun z=>hx (r1.nil_iff.mp z)) (fun z=>⟨.ref a,H,I,rfl,q1 (r2.nil_iff.mp z)⟩) (fun z=>?_) (by rw [← r1.length,← r2.length]; exact hz)
 refine ⟨.ref s.heap.objs.size,_,I.laid (t':=s.toks) (o:=.tup (xs ++ ys)) (fun b ob q=>Heap.get?_push_of_some _ q) (Zd _) ?_,rfl,q2 (fun w=>z (r2.nil_iff.mpr w)) _ (I.hok.fresh (Zd _))⟩
 exact ⟨by rw [Zj]; exact hz,_,r1.append r2,IsTup.new _ _⟩
end
def ixN (n:Nat) (i:Int):Option Nat:=if 0 ≤ i then (if i < n then some i.toNat else none) else if -(n:Int) ≤ i then some (i + n).toNat else none
def atI {α : Type} (xs:List α) (i:Int):Option α:=(ixN xs.length i).bind fun j=>xs[j]?
theorem ixN_seq {n:Nat} {i:Int} {j:Nat} (h:ixN n i=some j):seqIndex? i n=some j∧j < n∧-(n:Int) ≤ i∧i < n:=by
 unfold ixN at h
 by_cases h0:0 ≤ i
 ·rw [if_pos h0] at h
  by_cases h1:i < n
  ·rw [if_pos h1] at h
   have e:i.toNat=j:=Option.some.inj h
   exact ⟨by rw [seqIndex_of h0 h1,e],by omega,by omega,h1⟩
  ·rw [if_neg h1] at h; cases h
 ·rw [if_neg h0] at h
  by_cases h1:-(n:Int) ≤ i
  ·rw [if_pos h1] at h
   have e:(i + n).toNat=j:=Option.some.inj h
   exact ⟨by rw [seqIndex_neg (by omega) h1,e],by omega,h1,by omega⟩
  ·rw [if_neg h1] at h; cases h
theorem atI_get {α : Type} {xs:List α} {i:Int} {v:α} (h:atI xs i=some v):∃ j,seqIndex? i xs.length=some j∧xs[j]?=some v∧j < xs.length∧-(xs.length:Int) ≤ i∧i < xs.length:=by
 unfold atI at h
 cases e:ixN xs.length i with
 | none=>rw [e] at h; cases h
 | some j =>
  rw [e] at h
  obtain ⟨h1,h2,h3,h4⟩:=ixN_seq e
  exact ⟨j,h1,h,h2,h3,h4⟩
theorem atI_nat {α : Type} {xs:List α} {j:Nat} {v:α} (h:xs[j]?=some v):atI xs (j:Int)=some v:=by
 have hj:j < xs.length:=(Ze.mp h).1
 have e:ixN xs.length (j:Int)=some j:=by
  unfold ixN
  rw [if_pos (by omega),if_pos (by omega)]; simp
 unfold atI; rw [e]; exact h
def PlainIx (b:Expr):Prop:=∀ o i,subscripted b false o i=operate [o,i] (getItem o i)
def IxR (X:Cx) (r:R2):Prop :=
 ∀ (value slice:Expr) (pins:List (Addr × Obj)) (s:Shared) (σ:St) (H:Hp) (x y:V) (v u:Value) (Q:VK),Inv X pins σ H s→RelV x v→RelV y u→r x y H Q →
  subscripted slice false v u=operate [v,u] (getItem v u)→wpAny (model X.prog X.w) X.A (subscriptTail value slice v u) (EP X pins σ Q) X.xe s
def MtR (X:Cx) (id:String) (r:V→List V→Hp→VK→Prop):Prop :=
 ∀ (pins:List (Addr × Obj)) (s:Shared) (σ:St) (H:Hp) (x:V) (xs:List V) (v:Value) (us:List Value) (Q:VK),Inv X pins σ H s→RelV x v→Vals xs us→r x xs H Q →
  wpAny (model X.prog X.w) X.A (call (.builtin id) (v :: us)) (EP X pins σ Q) X.xe s
section
variable {X:Cx} {a b:Expr} {ta tb:TE} {pos:Pos}
theorem IxR.or {r r':R2} (h:IxR X r) (h':IxR X r'):IxR X (fun x y H Q=>r x y H Q ∨ r' x y H Q):=by
 intro value slice pins s σ H x y v u Q I rx ry q hs
 rcases q with q | q
 ·exact h value slice pins s σ H x y v u Q I rx ry q hs
 ·exact h' value slice pins s σ H x y v u Q I rx ry q hs
theorem jb9 {r:R2} (hr:IxR X r) (ha:PE X a ta) (hb:PE X b tb) (hs:PlainIx b):PE X (.Subscript a b pos) (tOp r ta tb):=by
 intro pins s σ H Q I h
 exact Subscript_ (binT ha hb I h fun v u s2 x y H2 I2 rx ry q=>hr a b pins s2 σ H2 x y v u Q I2 rx ry q (hs _ _))
def rIxL (K:PySem.W.Frag):R2:=fun x y H Q=>∃ p xs i v,x=.ref p∧y=.int i∧SqL K H p xs∧atI xs i=some v∧Q v H
def rIxT (K:PySem.W.Frag):R2:=fun x y H Q=>∃ p xs i v,x=.ref p∧y=.int i∧SqT K H p xs∧atI xs i=some v∧Q v H
theorem ix_list:IxR X (rIxL X.K):=by
 intro value slice pins s σ H x y v u Q I rx ry h hs
 obtain ⟨p,xs,i,z,rfl,rfl,hq,he,q⟩:=h
 cases rx
 obtain ⟨t,rfl⟩:=ry
 obtain ⟨its,r,pl,hz⟩:=I.list hq
 obtain ⟨j,h1,h2,h3,h4,h5⟩:=atI_get he
 obtain ⟨w,ew,rw'⟩:=r.get h2
 have hl:=r.length
 have hn:=line63
 have fin:EP X pins σ Q w s:=⟨z,H,I,rw',q⟩
 by_cases h0:0 ≤ i
 ·have hj:i.toNat=j:=by
   rw [seqIndex_of h0 h5] at h1
   exact Option.some.inj h1
  exact item_listR pl.isList h0 (by omega) (by rw [hj]; simpa using ew) fin hs
 ·have hj:(i + (its.toArray.size:Int)).toNat=j:=by
   rw [seqIndex_neg (by omega) h4] at h1
   rw [Zo,← hl]
   exact Option.some.inj h1
  exact subscriptTail_builtinR (x:=w) pl.isList.typeIs slot_list_getitem.lookup
   (wpAny_getItem_list_neg (Q:=fun r s'=>r=w∧EP X pins σ Q r s') pl.isList (by omega) (by rw [Zo] <;> omega) (by omega) (by rw [hj]; simpa using ew) ⟨rfl,fin⟩) hs
theorem ix_tup:IxR X (rIxT X.K):=by
 intro value slice pins s σ H x y v u Q I rx ry h hs
 obtain ⟨p,xs,i,z,rfl,rfl,hq,he,q⟩:=h
 cases rx
 obtain ⟨t,rfl⟩:=ry
 obtain ⟨its,r,pl,hz⟩:=I.tuple hq
 obtain ⟨j,h1,h2,h3,h4,h5⟩:=atI_get he
 obtain ⟨w,ew,rw'⟩:=r.get h2
 have hl:=r.length
 have hn:=line63
 have fin:EP X pins σ Q w s:=⟨z,H,I,rw',q⟩
 exact subscriptTail_builtinR (x:=w) pl.typeIs slot_tuple_getitem.lookup
  (getItem_tuple (j:=j) (Q:=fun r s'=>r=w∧EP X pins σ Q r s') pl (by omega) (by omega) (by rw [Zo,← hl]; exact h1) (by simpa using ew) ⟨rfl,fin⟩) hs
theorem mapSeq_set (its:List Value) (n j:Nat) (u:Value):Obj.mapSeq (·.setIfInBounds j u) { cls:=.type "list",data:=.seq its.toArray n }={ cls:=.type "list",data:=.seq (its.set j u).toArray n }:=by
 simp [Obj.mapSeq]
theorem Inv.lst {pins:List (Addr × Obj)} {σ:St} {H:Hp} {s:Shared} {p:Addr} {xs:List V} (I:Inv X pins σ H s) (h:H p=some (.lst xs)) :
  ∃ (its:List Value) (n:Nat),Vals xs its∧s.heap.get? p=some { cls:=.type "list",data:=.seq its.toArray n }∧xs.length ≤ sizeLine:=by
 obtain ⟨z,its,n,r,e⟩:=I.hok p _ h
 exact ⟨its,n,r,e,z⟩
theorem Inv.lstUpd {pins:List (Addr × Obj)} {σ:St} {H:Hp} {s:Shared} {p:Addr} {xs ys:List V} {its its':List Value} {n n':Nat} {f:Obj→Obj} (I:Inv X pins σ H s) (h:H p=some (.lst xs))
  (ho:s.heap.get? p=some { cls:=.type "list",data:=.seq its.toArray n }) (hf:f { cls:=.type "list",data:=.seq its.toArray n }={ cls:=.type "list",data:=.seq its'.toArray n' }) (r:Vals ys its') (hz:ys.length ≤ sizeLine) (t:Nat) :
  Inv X pins σ (upd H p (.lst ys)) { s with heap:=s.heap.update p f,toks:=t }:=by
 have e:(s.heap.update p f).get? p=some { cls:=.type "list",data:=.seq its'.toArray n' }:=by
  rw [Heap.get?_update_self f ho (by rw [hf] <;> rfl),hf]
 refine I.write (x:=p) (e:=p) (by rw [h]; trivial) (.inl rfl) (fun b u hb q=>(Heap.get?_update_other _ _ (Ne.symm hb)).trans q) ⟨_,e⟩ ?_
 exact ⟨hz,its',n',r,e⟩
def rSetL:V→V→V→Hp→(Hp→Prop)→Prop:=fun o i v H Q=>∃ p xs k j,o=.ref p∧i=.int k∧H p=some (.lst xs)∧ixN xs.length k=some j∧Q (upd H p (.lst (xs.set j v)))
theorem set_list:PSet X rSetL:=by
 intro pins s σ H o i v ov iv u Q I ro ri rv h
 obtain ⟨p,xs,k,j,rfl,rfl,hp,hj,q⟩:=h
 cases ro
 obtain ⟨t,rfl⟩:=ri
 obtain ⟨its,n,r,ho,hz⟩:=I.lst hp
 obtain ⟨h1,h2,h3,h4⟩:=ixN_seq hj
 have hl:=r.length
 have hn:=line63
 have I':Inv X pins σ (upd H p (.lst (xs.set j v))) { s with heap:=s.heap.update p (Obj.mapSeq (·.setIfInBounds j u)) } :=
  I.lstUpd hp ho (mapSeq_set its n j u) (r.set rv j) (by rw [List.length_set]; exact hz) s.toks
 by_cases h0:0 ≤ k
 ·have hk:k.toNat=j:=by
   rw [seqIndex_of h0 h4] at h1
   exact Option.some.inj h1
  exact PySem.W.ki_setAt ho h0 (by omega) (by rw [Zo,← hl]; exact h4) (by rw [hk]; exact ⟨_,I',q⟩)
 ·have hk:(k + (its.toArray.size:Int)).toNat=j:=by
   rw [seqIndex_neg (by omega) h3] at h1
   rw [Zo,← hl]
   exact Option.some.inj h1
  exact PySem.W.ki_setBack ho (by omega) (by rw [Zo,← hl]; exact h3) (by omega) (by rw [hk]; exact ⟨_,I',q⟩)
theorem slice_bounds (lo hi:Option Int) (n:Nat):(sliceBounds lo hi none n).1=((HT.sIx n 0 lo:Nat):Int)∧(sliceBounds lo hi none n).2.1=((HT.sIx n n hi:Nat):Int)∧(sliceBounds lo hi none n).2.2=1:=by
 refine ⟨?_,?_,rfl⟩
 ·cases lo with
  | none=>simp [sliceBounds,HT.sIx]
  | some i =>
   simp only [sliceBounds,HT.sIx,Option.getD_none,show (1:Int) > 0 by decide,if_true]
   by_cases h:i < 0
   ·simp only [h,if_true] <;> omega
   ·simp only [h,if_false] <;> omega
 ·cases hi with
  | none=>simp [sliceBounds,HT.sIx]
  | some i =>
   simp only [sliceBounds,HT.sIx,Option.getD_none,show (1:Int) > 0 by decide,if_true]
   by_cases h:i < 0
   ·simp only [h,if_true] <;> omega
   ·simp only [h,if_false] <;> omega
theorem slicePick_cut (its:List Value) (lo hi:Option Int):slicePick its.toArray lo hi none=((its.drop (HT.sIx its.length 0 lo)).take (HT.sIx its.length its.length hi - HT.sIx its.length 0 lo)).toArray:=by
 obtain ⟨h1,h2,h3⟩:=slice_bounds lo hi its.toArray.size
 unfold slicePick
 rw [h1,h2,h3]
 simp only [sliceRange_one,pick_run,Zo] <;> rfl
def rSlL (K:PySem.W.Frag):V→Option Int→Option Int→Hp→VK→Prop:=fun x lo hi H Q=>∃ a xs,x=.ref a∧SqL K H a xs∧∀ p,H p=none→Q (.ref p) (upd H p (.lst (cutV xs lo hi)))
theorem sl_list:SlR X (rSlL X.K):=by
 intro pins s σ H x v vl vu lo hi sl Q I rx hs pl pu h
 obtain ⟨a,xs,rfl,hx,q⟩:=h
 cases rx
 obtain ⟨its,r,ht,hz⟩:=I.list hx
 have hlen:=r.length
 refine ⟨"list",_,slot_list_getitem.lookup,ht.isList.typeIs,?_⟩
 refine wpAny_getItem_list_slice ht.isList hs pl pu .none (by simp) ?_ (by rw [Zo] <;> omega)
 rw [slicePick_cut,← hlen]
 refine ⟨.ref s.heap.objs.size,_,I.laid (t':=s.toks) (o:=.lst (cutV xs lo hi)) (fun b ob q=>Heap.get?_push_of_some _ q) (Zd _) ?_,rfl,q _ (I.hok.fresh (Zd _))⟩
 exact ⟨Zl (cutV_length xs lo hi) hz,_,0,(r.drop (HT.sIx xs.length 0 lo)).take (HT.sIx xs.length xs.length hi - HT.sIx xs.length 0 lo),Heap.get?_push_size _ rfl⟩
def flatV:V→Bool
 | .non=>true
 | .bl _=>true
 | .int _=>true
 | .str _=>true
 | _=>false
def eqV:V→V→Bool
 | .non,.non=>true
 | .bl a,.bl b=>a == b
 | .bl a,.int b=>(if a then 1 else 0) == b
 | .int a,.bl b=>a == (if b then 1 else 0)
 | .int a,.int b=>a == b
 | .str a,.str b=>a == b
 | _,_=>false
theorem eqAt_V {A:Around} {s:Shared} {y x:V} {u v:Value} (ry:RelV y u) (rx:RelV x v) (fy:flatV y=true) (fx:flatV x=true):SeqAt.EqAt A s u v (eqV y x):=by
 cases y with
 | non =>
  cases ry
  cases x with
  | non=>cases rx; exact SeqAt.EqAt.same _
  | bl b=>cases rx; exact SeqAt.EqAt.none_bool b
  | int b=>obtain ⟨t,rfl⟩:=rx; exact SeqAt.EqAt.none_int b t
  | str b=>obtain ⟨t,rfl⟩:=rx; exact SeqAt.EqAt.none_str b t
  | _=>exact absurd (show false=true from fx) Zv
 | bl a =>
  cases ry
  cases x with
  | non=>cases rx; exact SeqAt.EqAt.bool_none a
  | bl b=>cases rx; exact SeqAt.EqAt.bool_bool a b
  | int b=>obtain ⟨t,rfl⟩:=rx; exact SeqAt.EqAt.bool_int a b t
  | str b=>obtain ⟨t,rfl⟩:=rx; exact SeqAt.EqAt.bool_str a b t
  | _=>exact absurd (show false=true from fx) Zv
 | int a =>
  obtain ⟨t',rfl⟩:=ry
  cases x with
  | non=>cases rx; exact SeqAt.EqAt.int_none a t'
  | bl b=>cases rx; exact SeqAt.EqAt.int_bool a t' b
  | int b=>obtain ⟨t,rfl⟩:=rx; exact SeqAt.EqAt.int_int a t' b t
  | str b=>obtain ⟨t,rfl⟩:=rx; exact SeqAt.EqAt.int_str a t' b t
  | _=>exact absurd (show false=true from fx) Zv
 | str a =>
  obtain ⟨t',rfl⟩:=ry
  cases x with
  | non=>cases rx; exact SeqAt.EqAt.str_none a t'
  | bl b=>cases rx; exact SeqAt.EqAt.str_bool a t' b
  | int b=>obtain ⟨t,rfl⟩:=rx; exact SeqAt.EqAt.str_int a t' b t
  | str b=>obtain ⟨t,rfl⟩:=rx; exact SeqAt.EqAt.str_str a t' b t
  | _=>exact absurd (show false=true from fx) Zv
 | _=>exact absurd (show false=true from fy) Zv
def eqU (x:V) (u:Value):Bool:=match u with
 | .none=>eqV .non x
 | .bool b=>eqV (.bl b) x
 | .int i _=>eqV (.int i) x
 | .str z _=>eqV (.str z) x
 | _=>false
theorem eqU_of {x y:V} {u:Value} (r:RelV y u) (f:flatV y=true):eqU x u=eqV y x:=by
 cases y with
 | non=>cases r; rfl
 | bl b=>cases r; rfl
 | int i=>obtain ⟨t,rfl⟩:=r; rfl
 | str z=>obtain ⟨t,rfl⟩:=r; rfl
 | _=>exact absurd (show false=true from f) Zv
theorem any_eqU {x:V}:∀ {xs:List V} {us:List Value},Vals xs us→xs.all flatV=true→us.any (eqU x)=xs.any fun y=>eqV y x
 | _,_,.nil,_=>rfl
 | y :: xs,u :: us,.cons r t,f=>by
  rw [List.all_cons,Zm] at f
  rw [List.any_cons,List.any_cons,eqU_of r f.1,any_eqU t f.2]
theorem mem_eqAt {A:Around} {s:Shared} {x:V} {v:Value} (rx:RelV x v) (fx:flatV x=true):∀ {xs:List V} {us:List Value},Vals xs us→xs.all flatV=true→∀ u ∈ us,SeqAt.EqAt A s u v (eqU x u)
 | _,_,.nil,_=>fun u hu=>by cases hu
 | y :: xs,u :: us,.cons r t,f=>fun u' hu=>by
  rw [List.all_cons,Zm] at f
  rcases Zf.mp hu with rfl | hu
  ·rw [eqU_of r f.1]; exact eqAt_V r rx f.1 fx
  ·exact mem_eqAt rx fx t f.2 u' hu
def inV (x:V) (xs:List V):Bool:=xs.any fun y=>eqV y x
def rIn (K:PySem.W.Frag) (neg:Bool):R2:=fun x y H Q=>∃ p xs,y=.ref p∧(SqL K H p xs ∨ SqT K H p xs)∧flatV x=true∧xs.all flatV=true∧Q (.bl (if neg then !inV x xs else inV x xs)) H
theorem op_in_seq:OpR X (compareOp .In) (rIn X.K false):=by
 intro pins s σ H x y v u Q I rx ry h
 obtain ⟨p,xs,rfl,hq,fx,fs,q⟩:=h
 cases ry
 rcases hq with hq | hq
 ·obtain ⟨its,r,pl,hz⟩:=I.list hq
  refine SeqAt.in_listAt (eqU x) pl.isList (fun w hw=>mem_eqAt rx fx r fs w (by simpa using hw)) ⟨.bl _,H,I,rfl,?_⟩
  rw [show its.toArray.any (eqU x)=its.any (eqU x) by simp,any_eqU r fs]
  exact q
 ·obtain ⟨its,r,pl,hz⟩:=I.tuple hq
  refine SeqAt.in_tupleAt (eqU x) pl (fun w hw=>mem_eqAt rx fx r fs w (by simpa using hw)) ⟨.bl _,H,I,rfl,?_⟩
  rw [show its.toArray.any (eqU x)=its.any (eqU x) by simp,any_eqU r fs]
  exact q
theorem op_notIn_seq:OpR X (compareOp .NotIn) (rIn X.K true):=by
 intro pins s σ H x y v u Q I rx ry h
 obtain ⟨p,xs,rfl,hq,fx,fs,q⟩:=h
 cases ry
 rcases hq with hq | hq
 ·obtain ⟨its,r,pl,hz⟩:=I.list hq
  refine SeqAt.notIn_listAt (eqU x) pl.isList (fun w hw=>mem_eqAt rx fx r fs w (by simpa using hw)) ⟨.bl _,H,I,rfl,?_⟩
  rw [show its.toArray.any (eqU x)=its.any (eqU x) by simp,any_eqU r fs]
  exact q
 ·obtain ⟨its,r,pl,hz⟩:=I.tuple hq
  refine SeqAt.notIn_tupleAt (eqU x) pl (fun w hw=>mem_eqAt rx fx r fs w (by simpa using hw)) ⟨.bl _,H,I,rfl,?_⟩
  rw [show its.toArray.any (eqU x)=its.any (eqU x) by simp,any_eqU r fs]
  exact q
theorem call_len_seq:CallR X (.builtin "len") (fun xs H Q=>∃ p ys,xs=[.ref p]∧(SqL X.K H p ys ∨ SqT X.K H p ys)∧Q (.int ys.length) H):=by
 intro pins s σ H xs us Q I r h
 obtain ⟨p,ys,rfl,hq,q⟩:=h
 obtain ⟨u,rfl,rx⟩:=vals1 r
 cases rx
 have hn:=line63
 rcases hq with hq | hq
 ·obtain ⟨its,r',pl,hz⟩:=I.list hq
  have hlen:=r'.length
  exact Calls.call_len_list pl.isList (by simp only [Zo] <;> omega) ⟨.int ys.length,H,I.tok _,⟨s.toks + 1,by rw [Zo,hlen]⟩,q⟩
 ·obtain ⟨its,r',pl,hz⟩:=I.tuple hq
  have hlen:=r'.length
  exact len_tuple pl (by simp only [Zo] <;> omega) ⟨.int ys.length,H,I.tok _,⟨s.toks + 1,by rw [Zo,hlen]⟩,q⟩
theorem call_list_of:CallR X (.type "list") (fun xs H Q=>∃ p ys,xs=[.ref p]∧(SqL X.K H p ys ∨ SqT X.K H p ys)∧∀ l,H l=none→Q (.ref l) (upd H l (.lst ys))):=by
 intro pins s σ H xs us Q I r h
 obtain ⟨p,ys,rfl,hq,q⟩:=h
 obtain ⟨u,rfl,rx⟩:=vals1 r
 cases rx
 have fin:∀ (its:List Value),Vals ys its→ys.length ≤ sizeLine→∀ (h':Heap) (c':Nat),(∀ b o',s.heap.get? b=some o'→h'.get? b=some o') →
   h'.get? s.heap.objs.size=some { cls:=.type "list",dict:=none,data:=.seq its.toArray c',slots:=#[] }→EP X pins σ Q (.ref s.heap.objs.size) { s with heap:=h' }:=fun its r' hz h' c' kp e =>
  ⟨.ref s.heap.objs.size,_,I.laid (t':=s.toks) kp (Zd _) (show ObjOk X.prog X.w _ h' _ (.lst ys) from ⟨hz,its,c',r',e⟩),rfl,q _ (I.hok.fresh (Zd _))⟩
 rcases hq with hq | hq
 ·obtain ⟨its,r',pl,hz⟩:=I.list hq
  have hlen:=r'.length
  obtain ⟨o,ho,hc,n,hd⟩:=pl.isList
  exact call_list_seq p (.inl rfl) ho hc hd (fun h' c' kp e=>fin its r' hz h' c' kp e) (by simp only [Zo] <;> omega)
 ·obtain ⟨its,r',pl,hz⟩:=I.tuple hq
  have hlen:=r'.length
  obtain ⟨o,ho,hc,n,hd⟩:=pl
  exact call_list_seq p (.inr rfl) ho hc hd (fun h' c' kp e=>fin its r' hz h' c' kp e) (by simp only [Zo] <;> omega)
theorem call_tuple_of:CallR X (.type "tuple") (fun xs H Q=>∃ p ys,xs=[.ref p]∧((SqL X.K H p ys∧∀ l,H l=none→Q (.ref l) (upd H l (.tup ys))) ∨ (SqT X.K H p ys∧Q (.ref p) H))):=by
 intro pins s σ H xs us Q I r h
 obtain ⟨p,ys,rfl,h⟩:=h
 obtain ⟨u,rfl,rx⟩:=vals1 r
 cases rx
 rcases h with ⟨hq,q⟩ | ⟨hq,q⟩
 ·obtain ⟨its,r',pl,hz⟩:=I.list hq
  have hlen:=r'.length
  refine call_tuple_list pl.isList (fun h' kp=>?_) (by simp only [Zo] <;> omega)
  have I1:Inv X pins σ H { s with heap:=h' }:=I.kept (t':=s.toks) kp
  have I2:Inv X pins σ (upd H h'.objs.size (.tup ys)) { s with heap:=h'.push { cls:=.type "tuple",data:=.seq its.toArray } } :=
   I1.laid (t':=s.toks) (fun b o e=>Heap.get?_push_of_some _ e) (Zd _) (show ObjOk X.prog X.w _ _ _ (.tup ys) from ⟨hz,its,r',IsTup.new _ _⟩)
  exact ⟨.ref h'.objs.size,_,I2,rfl,q _ (I1.hok.fresh (Zd _))⟩
 ·obtain ⟨its,r',pl,hz⟩:=I.tuple hq
  exact call_tuple_same pl ⟨.ref p,H,I,rfl,q⟩
def tyV (K:PySem.W.Frag) (T:String) (x:V) (H:Hp):Prop:=match x with
 | .str _=>T="str"
 | .int _=>T="int"
 | .ref p=>(T="list"∧∃ xs,SqL K H p xs) ∨ (T="tuple"∧∃ o,K.lookup p=some o∧o.cls=.type "tuple"∧o.dict=none) ∨
   (T="dict"∧((∃ kvs,H p=some (.dK kvs)) ∨ ∃ kvs,H p=some (.dT kvs))) ∨ (T="set"∧∃ S n,H p=some (.set S n))
 | _=>False
theorem tyV_is {pins:List (Addr × Obj)} {σ:St} {H:Hp} {s:Shared} {T:String} {x:V} {v:Value} (I:Inv X pins σ H s) (r:RelV x v) (ty:tyV X.K T x H) :
  s.TypeIs v T∧∀ a,v=.ref a→∃ ob,s.heap.get? a=some ob∧ob.dict=none:=by
 cases x with
 | str z =>
  obtain ⟨t,rfl⟩:=r
  cases (show T="str" from ty)
  exact ⟨typeIs_str s z t,fun _ e=>nomatch e⟩
 | int i =>
  obtain ⟨t,rfl⟩:=r
  cases (show T="int" from ty)
  exact ⟨typeIs_int s i t,fun _ e=>nomatch e⟩
 | ref p =>
  cases r
  rcases ty with ⟨rfl,xs,hq⟩ | ⟨rfl,o,hk,hc,hd⟩ | ⟨rfl,hk⟩ | ⟨rfl,S,n,hk⟩
  ·obtain ⟨its,_,pl,_⟩:=I.list hq
   refine ⟨pl.isList.typeIs,fun a e=>?_⟩
   cases e
   obtain ⟨o,n,e,c,hd,_⟩:=pl
   exact ⟨o,e,hd⟩
  ·refine ⟨⟨o,I.kIn p o hk,hc⟩,fun a e=>?_⟩
   cases e
   exact ⟨o,I.kIn _ o hk,hd⟩
  ·have z:∃ o,s.heap.get? p=some o∧o.ExactDict:=by
    rcases hk with ⟨kvs,hk⟩ | ⟨kvs,hk⟩
    ·obtain ⟨_,_,_,_,o,_,_,e,ex,_⟩:=I.hok p _ hk
     exact ⟨o,e,ex⟩
    ·obtain ⟨_,_,_,_,o,_,_,e,ex,_⟩:=I.hok p _ hk
     exact ⟨o,e,ex⟩
   obtain ⟨o,e,ex⟩:=z
   refine ⟨⟨o,e,ex.1⟩,fun a e2=>?_⟩
   cases e2
   exact ⟨o,e,ex.2.1⟩
  ·obtain ⟨o,_,_,_,e,ex,_⟩:=I.hok p _ hk
   refine ⟨⟨o,e,ex.1⟩,fun a e2=>?_⟩
   cases e2
   exact ⟨o,e,ex.2.1⟩
 | _=>exact False.elim ty
def tBM0 (K:PySem.W.Frag) (T:String) (r:V→List V→Hp→VK→Prop) (to:TE):TE:=fun σ H Q=>to σ H fun x H1=>tyV K T x H1∧r x [] H1 Q
def tBM (K:PySem.W.Frag) (T:String) (r:V→List V→Hp→VK→Prop) (to:TE) (t:TA):TE:=fun σ H Q=>to σ H fun x H1=>tyV K T x H1∧t σ H1 fun xs H2=>r x xs H2 Q
variable {o e:Expr} {es:List Expr} {to:TE} {t:TA} {name:Str} {apos cpos:Pos} {T id:String} {r:V→List V→Hp→VK→Prop}
theorem pe_bm0 (pa:PlainAttrs T) (slot:Slot T name id) (hty:typeOf (.builtin id)=pure (.type "method_descriptor")) (hm:MtR X id r) (ho:PE X o to)
  (hbase:attributeBase o name X.env (eval o X.env)=eval o X.env:=by rfl) (hline:(apos.endLine == cpos.line)=true:=by rfl):PE X (.Call (.Attribute o name apos) [] [] cpos) (tBM0 X.K T r to):=by
 intro pins s σ H Q I h
 refine wpAny_Call_method0_late hbase hline (thn (ho pins s σ H _ I h) fun v s1 ⟨x,H1,I1,r1,ty,q1⟩=>?_)
 obtain ⟨h1,h2⟩:=tyV_is I1 r1 ty
 exact ⟨T,id,pa,slot,hty,h1,h2,Calls.callWith_builtin rfl (PySem.evalArgs_none (hm pins s1 σ H1 x [] v [] Q I1 r1 .nil q1))⟩
end
def MtM (X:Cx) (id:String) (r:V→List V→Hp→VK→Prop):Prop :=
 ∀ (pins:List (Addr × Obj)) (s:Shared) (σ:St) (H:Hp) (x:V) (xs:List V) (v:Value) (us:List Value) (Q:VK),Inv X pins σ H s→RelV x v→Vals xs us→r x xs H Q →
  wpAny (model X.prog X.w) X.A (call (.builtin id) (v :: us)) (EP X pins σ Q) X.xe s
theorem Vals.one:∀ {x:V} {us:List Value},Vals [x] us→∃ u,us=[u]∧RelV x u
 | _,_,.cons r .nil=>⟨_,rfl,r⟩
theorem Vals.rep {xs:List V} {us:List Value} (h:Vals xs us):∀ k:Nat,Vals (List.replicate k xs).flatten (List.replicate k us).flatten
 | 0=>.nil
 | k + 1=>by
  rw [List.replicate_succ,List.replicate_succ,List.flatten_cons,List.flatten_cons]
  exact Vals.append h (Vals.rep h k)
theorem foldl_rep (its:List Value):∀ (k:Nat) (acc:List Value),
  List.foldl (fun x1 x2=>x1 ++ x2) acc.toArray (List.replicate k its.toArray)=(acc ++ (List.replicate k its).flatten).toArray
 | 0,acc=>by simp
 | k + 1,acc=>by
  have e:acc.toArray ++ its.toArray=(acc ++ its).toArray:=by simp
  have e2:(acc ++ its) ++ (List.replicate k its).flatten=acc ++ (List.replicate (k + 1) its).flatten:=by
   rw [List.replicate_succ,List.flatten_cons,List.append_assoc]
  rw [← e2,← foldl_rep its k (acc ++ its),← e,List.replicate_succ,List.foldl_cons]
section
variable {X:Cx} {pins:List (Addr × Obj)} {σ:St} {H:Hp} {s:Shared} {l b:Addr} {xs ys zs:List V}
theorem Inv.lset {its its':List Value} {n:Nat} {f:Array Value→Array Value} {t':Nat} (I:Inv X pins σ H s) (hH:H l=some (.lst xs))
  (e:s.heap.get? l=some { cls:=.type "list",data:=.seq its.toArray n }) (hf:f its.toArray=its'.toArray) (hv:Vals ys its') (hz:ys.length ≤ sizeLine) :
  Inv X pins σ (upd H l (.lst ys)) { s with heap:=s.heap.update l (Obj.mapSeq f),toks:=t' }:=by
 have q:=PySem.IsL.update e f
 rw [hf] at q
 refine I.write (x:=l) (e:=l) (by rw [hH]; exact trivial) (.inl rfl) (fun b' u hb hu=>(Heap.get?_update_other s.heap (Obj.mapSeq f) (Ne.symm hb)).trans hu) ⟨_,q⟩ ?_
 exact ⟨hz,its',_,hv,q⟩
theorem Inv.lnew {its:List Value} {t':Nat} (I:Inv X pins σ H s) (hv:Vals ys its) (hz:ys.length ≤ sizeLine) :
  Inv X pins σ (upd H s.heap.objs.size (.lst ys)) { s with heap:=s.heap.push { cls:=.type "list",data:=.seq its.toArray },toks:=t' } :=
 I.laid (fun _ _ q=>Heap.get?_push_of_some _ q) (Zd _) ⟨hz,its,0,hv,Heap.get?_push_size _ rfl⟩
theorem Inv.fresh (I:Inv X pins σ H s):H s.heap.objs.size=none:=I.hok.fresh (Zd _)
theorem Inv.lstM (I:Inv X pins σ H s) (hH:H l=some (.lst xs)):xs.length ≤ sizeLine∧∃ (its:List Value) (n:Nat),Vals xs its∧xs.length=its.length∧s.heap.get? l=some { cls:=.type "list",data:=.seq its.toArray n }:=by
 obtain ⟨z,its,n,r,e⟩:=I.hok l _ hH
 exact ⟨z,its,n,r,r.length,e⟩
theorem notLongL {n:Nat} (h:n ≤ sizeLine):Builtin.List.listTooLong n=false:=by
 unfold Builtin.List.listTooLong
 exact decide_eq_false (by omega)
end
section
variable {X:Cx}
def rAppend:V→List V→Hp→VK→Prop:=fun x vs H Q=>∃ l xs y,x=.ref l∧vs=[y]∧H l=some (.lst xs)∧xs.length < sizeLine∧Q .non (upd H l (.lst (xs ++ [y])))
theorem mt_append:MtM X "list.append" rAppend:=by
 intro pins s σ H x vs v us Q I rx rv h
 obtain ⟨l,xs,y,rfl,rfl,hH,hz,q⟩:=h
 cases rx
 obtain ⟨u,rfl,ru⟩:=rv.one
 obtain ⟨z,its,n,r,hl,e⟩:=I.lstM hH
 refine call_meets F.slot_list_append ⟨_,e,rfl⟩ F.entry_list_append (F.args_list_append_2 _ _) (PySem.list_append l its.toArray n u (by rw [Zo]; omega)) ⟨e,?_⟩
 refine ⟨.non,_,I.lset (its':=its ++ [u]) hH e (by simp) (r.append (.cons ru .nil)) ?_,rfl,q⟩
 rw [Zj,List.length_singleton]
 omega
def rCat:R2:=fun x y H Q=>∃ l b xs zs,x=.ref l∧y=.ref b∧H l=some (.lst xs)∧H b=some (.lst zs)∧xs.length + zs.length ≤ sizeLine∧∀ p,H p=none→Q (.ref p) (upd H p (.lst (xs ++ zs)))
theorem op_cat:OpR X (binaryOp .Add) rCat:=by
 intro pins s σ H x y v u Q I rx ry h
 obtain ⟨l,b,xs,zs,rfl,rfl,hH,hB,hz,q⟩:=h
 cases rx
 cases ry
 obtain ⟨z,its,n,r,hl,e⟩:=I.lstM hH
 obtain ⟨z2,its2,n2,r2,hl2,e2⟩:=I.lstM hB
 refine PySem.P.add_list e e2 ?_ (by rw [Zo,Zo]; omega)
 have ea:its.toArray ++ its2.toArray=(its ++ its2).toArray:=by simp
 rw [ea]
 exact ⟨.ref _,_,I.lnew (t':=s.toks) (r.append r2) (by rw [Zj]; omega),rfl,q _ I.fresh⟩
def rRep:R2:=fun x y H Q=>∃ l k xs,x=.ref l∧y=.int k∧H l=some (.lst xs)∧-(2 ^ 63) ≤ k∧k < 2 ^ 63∧xs.length * k.toNat ≤ sizeLine ∧
 ∀ p,H p=none→Q (.ref p) (upd H p (.lst (List.replicate k.toNat xs).flatten))
theorem len_rep {α : Type} (xs:List α) (k:Nat):(List.replicate k xs).flatten.length=k * xs.length:=by
 induction k with
 | zero=>simp
 | succ k ih=>rw [List.replicate_succ,List.flatten_cons,Zj,ih,Nat.succ_mul,Nat.add_comm]
theorem op_rep:OpR X (binaryOp .Mult) rRep:=by
 intro pins s σ H x y v u Q I rx ry h
 obtain ⟨l,k,xs,rfl,rfl,hH,h1,h2,hz,q⟩:=h
 cases rx
 obtain ⟨t,rfl⟩:=ry
 obtain ⟨z,its,n,r,hl,e⟩:=I.lstM hH
 have hlen:its.toArray.size * k.toNat ≤ sizeLine:=by rw [Zo,← hl]; exact hz
 have hcap:¬ its.toArray.size * k.toNat > (2 ^ 63 - 1) / 8:=by
  have:(sizeLine:Nat) ≤ (2 ^ 63 - 1) / 8:=by decide
  omega
 have hfit:¬ (!Builtin.List.listFitsIndex k)=true:=by
  rw [fitsIndex_both h1 h2]
  exact Zv
 have hlong:¬ Builtin.List.listTooLong (its.toArray.size * k.toNat)=true:=by
  rw [notLongL hlen]
  exact Zv
 have hnew:List.foldl (fun x1 x2=>x1 ++ x2) #[] (List.replicate (if its.toArray.isEmpty=true then 0 else k.toNat) its.toArray)=(List.replicate k.toNat its).flatten.toArray:=by
  have f0:∀ m:Nat,List.foldl (fun x1 x2=>x1 ++ x2) #[] (List.replicate m its.toArray)=(List.replicate m its).flatten.toArray:=fun m=>by
   have:=foldl_rep its m []
   rw [List.nil_append] at this
   exact this
  rw [f0]
  cases its with
  | nil=>simp
  | cons a r'=>rw [if_neg (by simp)]
 refine wpAny_binaryOp_repeat_ref (T:="list") (U:="int") (by decide) ⟨_,e,rfl⟩ (fun s'=>typeIs_int s' k t) noFill_list_mul F.fills_int_mul F.slot_int_rmul repeat_list F.slot_int_index.lookup
  (call_meets F.slot_int_rmul (typeIs_int s k t) F.entry_int_rmul (F.args_int_rmul_2 _ _) (int___rmul___int_list k t l its.toArray n)
   ⟨e,rfl,⟨_,e,rfl⟩,call_meets F.slot_list_mul ⟨_,e,rfl⟩ F.entry_list_mul (F.args_list_mul_2 _ _) (AutoListH.list___mul___list_int_3 l its.toArray n k t hfit hcap hlong) ⟨e,?_⟩⟩)
 rw [hnew]
 exact ⟨.ref _,_,I.lnew (t':=s.toks) (r.rep k.toNat) (by rw [len_rep,Nat.mul_comm]; exact hz),rfl,q _ I.fresh⟩
end
section
variable {prog:Program} {w:World} {A:Around} {E:Value→Shared→Prop} {s:Shared}
end
section
variable {X:Cx}
end
end L2
namespace Att
open PySem PySem.W PySem.Calls PyProof.Rows
theorem ints_of_wellAll {P:Params} {h:Heap}:∀ (ns:List Int) (vs:List Value),WellAll P h vs (ns.map WData.int)→IntsAre vs ns:=by
 intro ns
 induction ns with
 | nil =>
  intro vs w
  rw [List.map_nil] at w
  cases w
  exact .nil
 | cons n ns ih =>
  intro vs w
  rw [List.map_cons] at w
  cases w with
  | cons a b =>
   cases a
   exact .cons _ _ (ih _ b)
theorem script_of {l:OpenLaw} {n:Nat} (hn:l.most=some n) {P:Params} {h:Heap} {args:List WData} {vals:List Value}
  (hpre:l.row.toRowW.claim.pre args=true) (hwl:WellAll P h vals args) :
  ∃ a vs ns,vals=[Value.ref a]∧args=[WData.list (ns.map WData.int)]∧h.get? a=some { cls:=.type "list",data:=.seq vs.toArray }∧IntsAre vs ns∧ns.length ≤ n:=by
 have hsh:WShape.hasAll [] args [.list .int]=true:=(pre_splitW hpre).1
 have hc:l.pre.holds [] { args:=args }=true:=(pre_splitW hpre).2
 obtain ⟨d,r,rfl,h1,h2⟩:=hasAllW_cons hsh
 obtain rfl:=hasAllW_nil h2
 obtain ⟨xs,rfl,h3⟩:=hasW_list h1
 obtain ⟨ns,rfl⟩:=items_int h3
 have hlen:ns.length ≤ n:=by
  unfold OpenLaw.pre at hc
  have h4:(WTm.not (.lt (.lit (.int (n:Int))) (.len (.arg 0)))).holds [] { args:=[.list (ns.map .int)] }=true:=by
   have h4:=(holds_andW hc).1
   rw [hn] at h4
   exact h4
  have h5:=condW_of h4 (w_not (w_lt w_lit (w_len_list (w_arg rfl))))
  rw [Zb] at h5
  refine Nat.le_of_not_lt fun q=>?_
  have q':(n:Int) < ((ns.length:Nat):Int):=by omega
  first
   | (rw [decide_eq_true q'] at h5; exact absurd h5 (by decide))
   | (simp at h5; omega)
 cases hwl with
 | cons w1 w2 =>
  cases w2
  cases w1 with
  | list ho hall=>exact ⟨_,_,ns,rfl,rfl,ho,ints_of_wellAll ns _ hall,hlen⟩
theorem post_true (l:OpenLaw) (args:List WData):l.row.toRowW.claim.post args (.bool true) args=true :=
 postW_of (r:=l.row.toRowW) (X:=(true == true))
  (show WShape.has [] (.bool true) .bool=true by first | rfl | decide | simp [WShape.has,WShape.arms,WShape.armsAll])
  (show (WTm.eq .res (.lit (.bool true))).value [] { args:=args,res:=some (.bool true),after:=args }=some (.bool (true == true)) from w_eq_bool (w_res rfl) w_lit) rfl
theorem attach_call {l:OpenLaw} {n:Nat} {q:Program} {loose:List Str} {XP:(Str→Option Value)→Heap→Prop} {YP:World→Heap→Prop} {d:DefRec}
  (hn:l.most=some n) (hdf:d.params.defaults=[])
  (call:∀ (w:World) (s₀ s₁:Shared) (mg mb:Str→Option Value) (fa:Addr) (o:Obj) (pm cd doc:Value) (a:Addr) (vs:List Value) (ns:List Int),
   Ground q loose [] XP w s₀ mg mb s₁.heap→YP w s₁.heap →
   s₁.heap.get? fa=some o→o.data=.func (docDef d.name d.params d.body d.scope pm cd doc)→s₁.heap.CodeRec cd d.name→mg d.name=some (.ref fa) →
   s₁.heap.get? a=some { cls:=.type "list",data:=.seq vs.toArray }→IntsAre vs ns→ns.length ≤ n→s₁.gens=#[] →
   codeAny (model l.prog w) callerA (.call (.ref fa) ⟨[.ref a],[]⟩) (fun r s'=>r=.ok (.ret (.bool true))∧OldK s₁.heap s'.heap∧s'.os=s₁.os∧AllBare s'.gens) s₁) :
  WalkO q loose XP YP l.row.toRowW d [] (fun f vs=>PySem.call f vs):=by
 intro w s₀ s₁ mg mb G Y fa o pm cd doc dV kV ho hd hcd hD hmg hg args vals as hpre hlay hrd hwl hlo
 obtain rfl:dV=.none:=Dflts.none hD hdf
 obtain rfl:kV=.none:=Dflts.noKw hD
 obtain ⟨a,vs,ns,rfl,rfl,hobj,hints,hlen⟩:=script_of hn hpre hwl
 refine enter_call (codeAny_mono (call w s₀ s₁ mg mb fa o pm cd doc a vs ns G Y ho (fd_plain hd) hcd hmg hobj hints hlen hg) fun r s' hq=>?_)
 obtain ⟨rfl,h2,h3,h4⟩:=hq
 exact ⟨.inl ⟨.bool true,.bool true,[],rfl,fun _=>rfl,.bool true,post_true l _,fun _=>⟨List.Pairwise.nil,fun _ hm=>(nomatch hm)⟩⟩,h2,h3,h4⟩
section
variable {prog:Program} {w:World} {A:Around} {E:Value→Shared→Prop} {s:Shared} {K:Frag}
end
end Att
namespace L2
open PySem PySem.Spec PyProof.Rows
theorem vals_ints:∀ {vs:List Value} {ns:List Int},IntsAre vs ns→Vals (ns.map V.int) vs
 | _,_,.nil=>.nil
 | _,_,.cons n t h=>.cons ⟨t,rfl⟩ (vals_ints h)
def Only (H:Hp):Prop:=∀ b,H b=none ∨ ∃ o xs,H b=some (.frz o (.lst xs))
theorem law_call {P:Program} {w:World} {K:PySem.W.Frag} {mg mb:Str→Option Value} {CX:CXT} {k:Nat} {fa a:Addr} {fd:FuncData} {x:Str} {sp:Sp} {s₁:Shared} {vs:List Value} {ns:List Int}
  (KX:K.In s₁.heap) (hns:s₁.heap.Ns mainGlobals mg) (hb:s₁.heap.Ns builtinsNs mb) (hbb:∀ x:Str,x ≠ "__name__"→mb x=bootBuiltins x) (hlim:s₁.heap.NoLimit) (hg:s₁.gens=#[])
  (ha:s₁.heap.get? a=some { cls:=.type "list",data:=.seq vs.toArray }) (hi:IntsAre vs ns) (hl:ns.length ≤ sizeLine) (hr:Room k callerA)
  (F:∀ base:Heap,K.In base→base.Ns mainGlobals mg→FnOk P w K mg base CX k fa fd [x] sp) (hbind:∀ (s:Shared) (u:Value),BindsTo s fd ⟨[u],[]⟩ [(x,u)])
  (hsp:∀ H:Hp,Only H→SqL K H a (ns.map V.int)→sp [.ref a] H (fun v _=>v=.bl true) fun _ _ _=>False)
  (hCX:∀ H e s',CX [] H s₁ (fun _ _ _=>False) e s'→False) :
  codeAny (model P w) callerA (.call (.ref fa) ⟨[.ref a],[]⟩) (fun r s'=>r=.ok (.ret (.bool true))∧OldK s₁.heap s'.heap∧s'.os=s₁.os∧AllBare s'.gens) s₁:=by
 have rv:=vals_ints hi
 have lenV:=hi.length
 have core:∀ H:Hp,Only H→SqL K H a (ns.map V.int)→HOk P w H s₁.heap→(∀ b,H b ≠ none→b=a)→(H a ≠ none→K.lookup a=none) →
   codeAny (model P w) callerA (.call (.ref fa) ⟨[.ref a],[]⟩) (fun r s'=>r=.ok (.ret (.bool true))∧OldK s₁.heap s'.heap∧s'.os=s₁.os∧AllBare s'.gens) s₁:=by
  intro H hO hS hok hA hK
  have base_of:∀ {b:Addr} {o:Obj},s₁.heap.get? b=some o→H b=none→(hidT s₁.heap H).get? b=some o:=fun e n=>hidT_get e n
  have noA:∀ {b:Addr} {o:Obj} {es:Array DictEntry} {ep:Nat},s₁.heap.get? b=some o→o.data=.dict es ep→H b=none:=fun {b o es ep} e d=>by
   cases q:H b with
   | none=>rfl
   | some u =>
    have e':b=a:=hA b (by rw [q]; simp)
    subst e'
    rw [ha] at e; cases e
    have d':Data.seq vs.toArray _=Data.dict es ep:=d
    cases d'
  have nsK:∀ {b:Addr} {m:Str→Option Value},s₁.heap.Ns b m→(hidT s₁.heap H).Ns b m:=fun {b m} ⟨o,es,ep,e,d,r⟩=>⟨o,es,ep,base_of e (noA e d),d,r⟩
  have hKb:K.In (hidT s₁.heap H):=fun b o e=>base_of (KX b o e) (by
   cases q:H b with
   | none=>rfl
   | some u =>
    have e':b=a:=hA b (by rw [q]; simp)
    subst e'
    rw [hK (by rw [q]; simp)] at e; cases e)
  have hM:Mod K mg (hidT s₁.heap H):=⟨hKb,nsK hns,⟨mb,nsK hb,hbb⟩,let ⟨mc,h1,h2⟩:=hlim; ⟨mc,nsK h1,h2⟩⟩
  have e0:Env0 P w K mg (hidT s₁.heap H) callerA [] s₁ H:=⟨rfl,hM,fun b o e=>of_hidT e,Nat.le_of_eq (hidT_size _ _),trivial,fun b hb=>absurd (show b ∈ ([]:List Addr) from hb) (by simp),hok,.of_eq hg⟩
  refine codeAny_mono ((F _ hKb (nsK hns)).run callerA [] s₁ H ⟨[.ref a],[]⟩ [.ref a] [.ref a] _ _ hr e0 (hbind s₁ (.ref a)) (.cons rfl .nil) (hsp H hO hS)) fun r s' h=>?_
  cases r with
  | error e=>exact (hCX H e s' h).elim
  | ok fl =>
   cases fl with
   | next=>exact False.elim h
   | brk=>exact False.elim h
   | cont=>exact False.elim h
   | ret u =>
    obtain ⟨v,H',os,bare,un,hok',r',q⟩:=h
    have q':v=.bl true:=q
    subst q'
    obtain rfl:u=Value.bool true:=r'
    refine ⟨rfl,OldK.of_keep fun b o e=>?_,os,bare⟩
    cases q:H b with
    | none=>exact un.keep b o e q (by intro z; exact absurd (show b ∈ ([]:List Addr) from z) (by simp)) (by simp)
    | some u =>
     rcases hO b with z | ⟨ob,xs,z⟩
     ·rw [q] at z; cases z
     ·have z2:=un.frzs b ob _ z
      obtain ⟨e1,_⟩:=hok b _ z
      obtain ⟨e2,_⟩:=hok' b _ z2
      rw [e] at e1; cases e1
      exact e2
 cases hk:K.lookup a with
 | some o =>
  have e:=KX a o hk
  rw [ha] at e
  cases e
  refine core (fun _=>none) (fun _=>.inl rfl) (.inr ⟨_,vs.toArray,_,hk,rfl,rfl,rfl,by rw [Zo,lenV]; exact hl,by simpa using rv⟩) (fun b u z=>by have z':(none:Option HO)=some u:=z; cases z') (fun b z=>absurd rfl z) fun z=>absurd rfl z
 | none =>
  refine core (fun b=>if b=a then some (.frz { cls:=.type "list",data:=.seq vs.toArray } (.lst (ns.map V.int))) else none) (fun b=>?_) (.inl (.inr ⟨{ cls:=.type "list",data:=.seq vs.toArray },if_pos rfl⟩)) (fun b u z=>?_) (fun b z=>?_) fun _=>hk
  ·by_cases hb:b=a
   ·exact .inr ⟨_,_,if_pos hb⟩
   ·exact .inl (if_neg hb)
  ·by_cases hb:b=a
   ·have z':=(if_pos hb).symm.trans z
    cases z'
    subst hb
    exact ⟨ha,by rw [Zb]; exact hl,vs,_,rv,ha⟩
   ·have z':=(if_neg hb).symm.trans z
    cases z'
  ·by_cases hb:b=a
   ·exact hb
   ·exact absurd (if_neg hb) z
theorem walk_of {l:PySem.W.OpenLaw} {n k:Nat} {q:Program} {loose:List Str} {XP:(Str→Option Value)→Heap→Prop} {YP:World→Heap→Prop} {d:DefRec} {K:Params→PySem.W.Frag} {CX:World→CXT} {sp:World→Sp} {x:Str}
  (hn:l.most=some n) (hn2:n ≤ sizeLine) (hdf:d.params.defaults=[]) (hr:Room k callerA)
  (hY:∀ (w:World) (h:Heap),YP w h→(K w.params).In h)
  (F:∀ (w:World) (mg:Str→Option Value) (fa:Addr) (h:Heap),(K w.params).In h→h.Ns mainGlobals mg→mg d.name=some (.ref fa) →
   ∃ fd:FuncData,(∀ (s:Shared) (u:Value),BindsTo s fd ⟨[u],[]⟩ [(x,u)]) ∧
    ∀ base:Heap,(K w.params).In base→base.Ns mainGlobals mg→FnOk l.prog w (K w.params) mg base (CX w) k fa fd [x] (sp w))
  (hsp:∀ (w:World) (H:Hp) (a:Addr) (ns:List Int),ns.length ≤ n→Only H→SqL (K w.params) H a (ns.map V.int)→sp w [.ref a] H (fun v _=>v=.bl true) fun _ _ _=>False)
  (hCX:∀ (w:World) (H:Hp) (s:Shared) (e:Value) (s':Shared),CX w [] H s (fun _ _ _=>False) e s'→False) :
  PySem.W.WalkO q loose XP YP l.row.toRowW d [] (fun f vs=>PySem.call f vs):=by
 refine Att.attach_call hn hdf fun w s₀ s₁ mg mb fa o pm cd doc a vs ns G Y ho hd hcd hmg hobj hints hlen hg=>?_
 have KX:=hY w _ Y
 obtain ⟨fd,hb,hF⟩:=F w mg fa _ KX G.T.g hmg
 exact law_call KX G.T.g G.T.b G.T.builtins G.T.nolimit hg hobj hints (Zl hlen hn2) hr hF hb (fun H hO hS=>hsp w H a ns hlen hO hS) fun H e s'=>hCX w H s₁ e s'
def defArgs (s:Stmt):Arguments:=match s with
 | .FunctionDef _ a _ _ _ _ _ _ _ _=>a
 | _=>{ posonlyargs:=[],args:=[],vararg:=none,kwonlyargs:=[],kw_defaults:=[],kwarg:=none,defaults:=[] }
def defBody (s:Stmt):List Stmt:=match s with
 | .FunctionDef _ _ b _ _ _ _ _ _ _=>b
 | _=>[]
def ja3 (s:Stmt):Scope:=match s with
 | .FunctionDef _ _ _ _ _ _ sc _ _ _=>sc
 | _=>{ kind:=.function,names:=[],isGenerator:=false,isCoroutine:=false }
abbrev CX0:CXT:=fun _ _ _ _ _ _=>False
abbrev E0:XK:=fun _ _ _=>False
theorem pass0 {X:Cx}:Passes CX0 X E0:=fun _ _ _ _ _ _ _ h=>h.elim
structure Fun (K:PySem.W.Frag) (x qual:Str) (st:Stmt) (f:Addr) (fd:FuncData):Prop where
 ex:∃ (oc:Value) (od:Option Addr) (kV doc pm:Value) (an:Option Addr) (cdv ct:Value) (osl:Array (Option Value)),
  fd=PySem.W.fnOf x qual (defArgs st) (defBody st) (ja3 st) .none kV doc pm an cdv ct∧K.lookup f=some ⟨oc,od,.func fd,osl⟩∧PySem.W.codeIn K cdv qual=true
 kp:PySem.W.keepIn K (.ref f)=true
section
variable {P:Program} {w:World} {K:PySem.W.Frag} {mg:Str→Option Value} {base:Heap}
theorem Fun.ok {x qual:Str} {st:Stmt} {f:Addr} {fd:FuncData} {N ps:List Str} {k:Nat} {sp:Sp} (F:Fun K x qual st f fd) (S:FnScope N ps (ja3 st)) (len:∀ vs H Q E,sp vs H Q E→vs.length=ps.length)
  (hbody:∀ (cdv:Value) (A:Around) (outer:List Env) (s:Shared) (H:Hp) (vs:List V) (Q:VK) (E:XK),Room k (A.deeper (envOfC qual (ja3 st) s.heap.objs.size f cdv))→sp vs H Q E →
   ∃ t,PSs (cxOf CX0 P w K mg base N qual (ja3 st) f cdv A outer s H E).nox (defBody st) t∧t { nx:=fun _ H'=>Q .non H',rt:=Q } (start N vs) H):FnOk P w K mg base CX0 (k + 1) f fd ps sp:=by
 obtain ⟨oc,od,kV,doc,pm,an,cdv,ct,osl,rfl,lk,hcd⟩:=F.ex
 refine fn_of lk hcd S len fun A outer s H vs Q E hr hsp=>?_
 obtain ⟨t,h,q⟩:=hbody cdv A outer s H vs Q E hr hsp
 exact ⟨t,h.nox,q⟩
theorem Fun.binds {x qual:Str} {st:Stmt} {f:Addr} {fd:FuncData} {ps:List Str} (F:Fun K x qual st f fd)
  (h:∀ (kV doc pm:Value) (an:Option Addr) (cdv ct:Value) (us:List Value),us.length=ps.length→bindArgs (PySem.W.fnOf x qual (defArgs st) (defBody st) (ja3 st) .none kV doc pm an cdv ct) ⟨us,[]⟩=pure (ps.zip us)):Binds K fd ps []:=by
 obtain ⟨oc,od,kV,doc,pm,an,cdv,ct,osl,rfl,lk,hcd⟩:=F.ex
 exact .all (h kV doc pm an cdv ct)
theorem jc1 {x qual:Str} {st:Stmt} {f:Addr} {oc:Value} {od an:Option Addr} {osl:Array (Option Value)} {kV doc pm cdv ct:Value} (l:K.lookup f=some ⟨oc,od,.func (PySem.W.fnOf x qual (defArgs st) (defBody st) (ja3 st) .none kV doc pm an cdv ct),osl⟩)
  (c:PySem.W.codeIn K cdv qual=true) (k:PySem.W.keepIn K (.ref f)=true):Fun K x qual st f (PySem.W.fnOf x qual (defArgs st) (defBody st) (ja3 st) .none kV doc pm an cdv ct):=⟨⟨oc,od,kV,doc,pm,an,cdv,ct,osl,rfl,l,c⟩,k⟩
end
theorem hu_of {A:Around} {k:Nat} (hr:Room k A):A.units + 1 < cLine:=Nat.lt_of_le_of_lt (Nat.add_le_add_left (by decide:1 ≤ 64) _) hr.units
section
variable {X:Cx}
theorem pv (i:Nat) {x:Str} {pos:Pos} (hN:X.N[i]?=some x:=by rfl) (hv:Vis X.env.scope x:=by first | exact Or.inl rfl | exact Or.inr (Or.inl rfl) | exact Or.inr (Or.inr rfl)) (hd:(x == ("__debug__" : Str))=false:=by decide)
  (hcd:(x == ("__classdict__" : Str))=false:=by decide):PE X (.Name x pos) (tVar i):=pe_var hN hv hd hcd
end
theorem iteF {A B:Prop} (h:B):if false=true then A else B:=by
 rw [if_neg Zv]
 exact h
theorem iteT {A B:Prop} (h:A):if true=true then A else B:=by
 rw [if_pos rfl]
 exact h
theorem ite2 {c A B:Prop} [Decidable c] (h1:c→A) (h2:¬ c→B):if c then A else B:=by
 by_cases h:c
 ·rw [if_pos h]
  exact h1 h
 ·rw [if_neg h]
  exact h2 h
def cloF (env:Env):List (Str × NameKind)→List (Str × Addr)→List (Str × Addr)
 | [],acc=>acc
 | (n,k) :: r,acc=>if k == .free then cloF env r ((n,(env.cells.lookup n).getD 0) :: acc) else cloF env r acc
theorem clo_forIn {env:Env} (f:Str × NameKind→List (Str × Addr)→Sem (ForInStep (List (Str × Addr))))
  (hf:∀ n k cs,f (n,k) cs=if k == .free then (do let a ← cellOf env n; pure (.yield ((n,a) :: cs))) else pure (.yield cs)) :
  ∀ (names:List (Str × NameKind)) (acc:List (Str × Addr)),(∀ x ∈ names,x.2=.free→(env.cells.lookup x.1).isSome=true)→forIn names acc f=pure (cloF env names acc)
 | [],acc,_=>by rw [List.forIn_nil]; rfl
 | (n,k) :: r,acc,h=>by
  rw [List.forIn_cons,hf]
  unfold cloF
  have hr:∀ x ∈ r,x.2=.free→(env.cells.lookup x.1).isSome=true:=fun x hx=>h x (Zu _ hx)
  by_cases hk:(k == NameKind.free)=true
  ·rw [if_pos hk,if_pos hk]
   have e:=h (n,k) Yb (by simpa using hk)
   obtain ⟨c,hc⟩:=Option.isSome_iff_exists.mp e
   unfold cellOf
   simp only at hc
   rw [hc]
   simp only [pure_bind,Option.getD_some]
   exact clo_forIn f hf r _ hr
  ·rw [if_neg hk,if_neg hk,pure_bind]
   exact clo_forIn f hf r _ hr
theorem jf9 {scope:Scope} {env:Env} (h:∀ x ∈ scope.names,x.2=.free→(env.cells.lookup x.1).isSome=true):closureFor scope env=pure (cloF env scope.names []):=by
 show (forIn scope.names ([]:List (Str × Addr)) _ >>= fun cs=>pure cs)=_
 rw [clo_forIn (env:=env) _ (fun n k cs=>by cases hk:k == NameKind.free <;> simp [hk]) scope.names [] h]
 simp only [pure_bind]
theorem clo_look {env:Env} {x:Str} {c:Addr}:∀ (names:List (Str × NameKind)) (acc:List (Str × Addr)),(∀ x ∈ names,x.2=.free→(env.cells.lookup x.1).isSome=true) →
  (cloF env names acc).lookup x=some c→env.cells.lookup x=some c ∨ acc.lookup x=some c
 | [],_,_,e=>.inr e
 | (n,k) :: r,acc,h,e=>by
  unfold cloF at e
  have hr:∀ x ∈ r,x.2=.free→(env.cells.lookup x.1).isSome=true:=fun x hx=>h x (Zu _ hx)
  by_cases hk:(k == NameKind.free)=true
  ·rw [if_pos hk] at e
   rcases clo_look r _ hr e with q | q
   ·exact .inl q
   ·rw [List.lookup_cons] at q
    cases hb:x == n with
    | true =>
     rw [hb] at q
     have hx:x=n:=by simpa using hb
     obtain ⟨c',hc⟩:=Option.isSome_iff_exists.mp (h (n,k) Yb (by simpa using hk))
     simp only at hc
     rw [hc] at q
     subst hx
     rw [hc]
     exact .inl (by simpa using q)
    | false=>rw [hb] at q; exact .inr q
  ·rw [if_neg hk] at e
   exact clo_look r _ hr e
theorem clo_some {env:Env} {x:Str}:∀ (names:List (Str × NameKind)) (acc:List (Str × Addr)),((x,NameKind.free) ∈ names ∨ (acc.lookup x).isSome=true)→((cloF env names acc).lookup x).isSome=true
 | [],_,h=>h.elim (fun e=>nomatch e) id
 | (n,k) :: r,acc,h=>by
  unfold cloF
  by_cases hk:(k == NameKind.free)=true
  ·rw [if_pos hk]
   refine clo_some r _ ?_
   rcases h with h | h
   ·rcases Zf.mp h with e | h
    ·cases e; exact .inr (by rw [List.lookup_cons]; simp)
    ·exact .inl h
   ·refine .inr ?_
    rw [List.lookup_cons]
    split
    ·rfl
    ·exact h
  ·rw [if_neg hk]
   refine clo_some r _ ?_
   rcases h with h | h
   ·rcases Zf.mp h with e | h
    ·cases e; exact absurd (by decide) hk
    ·exact .inl h
   ·exact .inr h
theorem cf_look {x:Str} {c:Addr}:∀ (names:List (Str × NameKind)) (k:Nat) (acc:List (Str × Addr)),(cellsFrom k names acc).lookup x=some c→k ≤ c ∨ (acc.lookup x=some c∧(x,NameKind.cell) ∉ names)
 | [],_,_,e=>.inr ⟨e,by simp⟩
 | (n,kd) :: r,k,acc,e=>by
  unfold cellsFrom at e
  by_cases hk:(kd == NameKind.cell)=true
  ·rw [if_pos hk] at e
   rcases cf_look r _ _ e with q | ⟨q,nr⟩
   ·exact .inl (by omega)
   ·rw [List.lookup_cons] at q
    cases hb:x == n with
    | true=>rw [hb] at q; cases q; exact .inl (Zd _)
    | false =>
     rw [hb] at q
     refine .inr ⟨q,fun z=>?_⟩
     rcases Zf.mp z with z | z
     ·cases z; simp at hb
     ·exact nr z
  ·rw [if_neg hk] at e
   rcases cf_look r _ _ e with q | ⟨q,nr⟩
   ·exact .inl q
   ·refine .inr ⟨q,fun z=>?_⟩
    rcases Zf.mp z with z | z
    ·cases z; exact hk (by simp)
    ·exact nr z
theorem cf_inj:∀ (names:List (Str × NameKind)) (k:Nat) (acc:List (Str × Addr)),(∀ p ∈ acc,p.2 < k)→(∀ p q,p ∈ acc→q ∈ acc→p.2=q.2→p.1=q.1)→∀ p q,p ∈ cellsFrom k names acc→q ∈ cellsFrom k names acc→p.2=q.2→p.1=q.1
 | [],_,_,_,hi,p,q,hp,hq,e=>hi p q hp hq e
 | (n,kd) :: r,k,acc,hb,hi,p,q,hp,hq,e=>by
  unfold cellsFrom at hp hq
  by_cases hk:(kd == NameKind.cell)=true
  ·rw [if_pos hk] at hp hq
   refine cf_inj r (k + 1) ((n,k) :: acc) (fun z hz=>?_) (fun y z hy hz e=>?_) p q hp hq e
   ·rcases Zf.mp hz with rfl | hz
    ·exact Nat.lt_succ_self _
    ·exact Nat.lt_succ_of_lt (hb z hz)
   ·rcases Zf.mp hy with hy | hy <;> rcases Zf.mp hz with hz | hz
    ·rw [hy,hz]
    ·subst hy; exact absurd (hb z hz) (by rw [← e]; exact Nat.lt_irrefl _)
    ·subst hz; exact absurd (hb y hy) (by rw [e]; exact Nat.lt_irrefl _)
    ·exact hi y z hy hz e
  ·rw [if_neg hk] at hp hq
   exact cf_inj r k acc hb hi p q hp hq e
theorem cf_cell:∀ (names:List (Str × NameKind)) (h:Heap) (acc:List (Str × Addr)) (p:Str × Addr),p ∈ cellsFrom h.objs.size names acc→p ∈ acc ∨ ((pushCells h names).IsCell p.2 none∧h.objs.size ≤ p.2)
 | [],_,_,_,e=>.inl e
 | (n,kd) :: r,h,acc,p,e=>by
  unfold cellsFrom at e
  unfold pushCells
  by_cases hk:(kd == NameKind.cell)=true
  ·rw [if_pos hk] at e ⊢
   have hs:(h.push { cls:=.type "cell",data:=.cell none }).objs.size=h.objs.size + 1:=Heap.size_push ..
   rw [← hs] at e
   rcases cf_cell r _ _ p e with q | ⟨q,l⟩
   ·rcases Zf.mp q with rfl | q
    ·exact .inr ⟨Heap.IsCell.keeps ⟨_,Heap.get?_push_size _ rfl,rfl⟩ (pushCells_keeps _ _),Zd _⟩
    ·exact .inl q
   ·exact .inr ⟨q,by omega⟩
  ·rw [if_neg hk] at e ⊢
   exact cf_cell r h acc p e
theorem newEnv_comp {M:Model} {A:Around} {E:Value→Shared→Prop} {s:Shared} {scope:Scope} {globals:Addr} {cl:List (Str × Addr)} {qual:Str} {outer:Env} {Q:Env→Shared→Prop}
  (hQ:Q (newEnv scope s.heap.objs.size globals (cellsFrom (s.heap.objs.size + 1) scope.names cl) qual none .none (some outer) builtinsNs) { s with heap:=pushCells (s.heap.push { cls:=.type "dict",data:=.dict #[] }) scope.names }) :
  wpAny M A (newFunctionEnv scope globals cl [] qual none .none (some outer)) Q E s:=by
 simp only [newFunctionEnv,Option.isSome_some,if_true]
 refine Za (wpAny_alloc ?_)
 refine Za (wpAny_layCells _ (fun name kind cells=>by cases hkc:kind == NameKind.cell <;> simp [hkc]) _ _ _ _ ?_)
 rw [show ({ s with heap:=s.heap.push { cls:=.type "dict",data:=.dict #[] } }:Shared).heap.objs.size=s.heap.objs.size + 1 from Heap.size_push ..]
 rw [List.forIn_nil]
 exact Za (wpAny_pure (wpAny_pure hQ))
theorem comp_loop {prog:Program} {w:World} {A:Around} {R:Result→Shared→Prop} {s:Shared} {elt target iter:Expr} {ifs:List Expr} {scope:Scope} {pos:Pos} {it acc:Value} {env:Env} (I:Nat→Shared→Prop)
  (turn:∀ n s,I n s→wpAny (model prog w) A (pyNext it) (fun r s₁=>match r with
   | none=>R (.ok .next) s₁
   | some v=>wpAny (model prog w) A (letOwnedTupleGo target it v) (fun _ s₁'=>wpAny (model prog w) A (assign target env v) (fun _ s₂ =>
     wpAny (model prog w) A (forIn ifs true fun c r=>if r=true then do let ok ← isTrue c env (eval c env); pure (ForInStep.yield ok) else pure (ForInStep.yield r)) (fun ok s₃ =>
      if ok=true then wpAny (model prog w) A (eval elt env) (fun x s₄ =>
       wpAny (model prog w) A (call (.builtin "list.append") [acc,x]) (fun _ s₅=>∃ m,m < n∧I m s₅) (fun _ _=>False) s₄) (fun _ _=>False) s₃
      else ∃ m,m < n∧I m s₃) (fun _ _=>False) s₂) (fun _ _=>False) s₁') (fun _ _=>False) s₁) (fun _ _=>False) s)
  (n:Nat) (h:I n s) :
  codeAny (model prog w) A (.compLoop (.ListComp elt [⟨target,iter,ifs,0⟩] scope pos) 0 it acc env) R s:=by
 refine codeAny_loop rfl I (fun n s hI=>?_) n h
 show wpAny _ A ((compTurn (.ListComp elt [⟨target,iter,ifs,0⟩] scope pos) 0 it acc env).onRaise (fun x=>do noteFrame x env; theTreesLotGoes x)) _ _ s
 refine wpAny_noted ?_
 rw [compTurn_list]
 refine Za (wpAny_standAt (Za (wpAny_mono (turn n s hI) (fun r s₁ h₁=>?_) fun _ _ h'=>h'.elim)))
 cases r with
 | none=>exact wpAny_pure h₁
 | some v =>
  refine Za (wpAny_mono h₁ (fun _ s₁' h₁'=>?_) fun _ _ h'=>h'.elim)
  refine Za (wpAny_mono h₁' (fun _ s₂ h₂=>Za (wpAny_mono h₂ (fun ok s₃ h₃=>?_) fun _ _ h'=>h'.elim)) fun _ _ h'=>h'.elim)
  cases ok with
  | false=>exact wpAny_pure ⟨rfl,h₃⟩
  | true =>
   exact Za (Za (wpAny_mono h₃ (fun x s₄ h₄=>Za (wpAny_mono h₄ (fun _ s₅ h₅=>wpAny_pure (wpAny_pure ⟨rfl,h₅⟩)) fun _ _ h'=>h'.elim)) fun _ _ h'=>h'.elim))
def compE (scope:Scope) (C:Addr) (env:Env):Env:=compEnvC scope (cellsFrom (C + 1) scope.names (cloF env scope.names [])) C env
def cxC (X:Cx) (scope:Scope) (C:Addr) (N:List Str) (fp:List Addr) (s:Shared) (H:Hp):Cx where
 prog:=X.prog
 w:=X.w
 K:=X.K
 mg:=X.mg
 base:=X.base
 A:=X.A
 N:=N
 s₀:=s
 H₀:=H
 env:=compE scope C X.env
 outer:=X.stack
 stack:=X.stack
 ex:=fp
 fn:=fun x=>decide ((x,NameKind.cell) ∈ scope.names)
 calm:=X.calm
 pn:=[]
 xe:=fun _ _=>False
def PIfs (X:Cx) (ifs:List Expr) (t:TT):Prop :=
 ∀ (pins:List (Addr × Obj)) (s:Shared) (σ:St) (H:Hp) (Q:Bool→Hp→Prop),Inv X pins σ H s→t σ H Q →
  wpAny (model X.prog X.w) X.A (forIn ifs true fun c r=>if r=true then do let ok ← isTrue c X.env (eval c X.env); pure (ForInStep.yield ok) else pure (ForInStep.yield r)) (TP X pins σ Q) X.xe s
def tYes:TT:=fun _ H Q=>Q true H
theorem jd6 {X:Cx}:PIfs X [] tYes:=fun _ s σ H Q I h=>wpAny_tests_nil ⟨H,I,h⟩
theorem pifs_one {X:Cx} {c:Expr} {t:TT} (h:PT X c t):PIfs X [c] t:=fun pins s σ H Q I q=>wpAny_tests_one (h pins s σ H Q I q)
def blkσ (own:Nat) (cap:List Nat) (σ:St):St:=List.replicate own none ++ cap.map fun i=>(σ[i]?).getD none
structure BlkOk (X:Cx) (scope:Scope) (own:List Str) (cap:List Str) (ix:List Nat):Prop where
 kind:scope.kind=.function
 names:∀ x ∈ scope.names,x.2=.local→scope.names.lookup x.1=some .local
 nd:(scope.names.map (·.1)).Nodup
 frees:∀ x ∈ scope.names,x.2=.free→X.env.kindOf x.1=some .cell ∨ X.env.kindOf x.1=some .free
 caps:∀ (j:Nat) (x:Str),cap[j]?=some x→(x,NameKind.free) ∈ scope.names
 at':∀ (j:Nat) (x:Str),cap[j]?=some x→∃ i,ix[j]?=some i∧X.N[i]?=some x
 len:cap.length=ix.length
theorem relabel_look {env:Env} {scope:Scope} {x:Str} {k:NameKind} (h:(relabel scope env).names.lookup x=some k):(x,k) ∈ scope.names ∨ (k=.cell∧(x,NameKind.free) ∈ scope.names):=by
 have m:=PySem.mem_of_lookup h
 obtain ⟨⟨n,k'⟩,hm,e⟩:=Zk.mp m
 simp only at e
 split at e
 ·rename_i hc
  cases e
  have:k'=NameKind.free:=by simp at hc; exact hc.1.1
  subst this
  exact .inr ⟨rfl,hm⟩
 ·cases e; exact .inl hm
theorem nodup_keys {names:List (Str × NameKind)} (nd:(names.map (·.1)).Nodup) {x:Str} {k k':NameKind} (h:(x,k) ∈ names) (h':(x,k') ∈ names):k=k':=by
 induction names with
 | nil=>cases h
 | cons p r ih =>
  rw [List.map_cons,List.nodup_cons] at nd
  rcases Zf.mp h with e | h <;> rcases Zf.mp h' with e' | h'
  ·rw [← e'] at e; cases e; rfl
  ·exact absurd (Zk.mpr ⟨_,h',by rw [← e]⟩) nd.1
  ·exact absurd (Zk.mpr ⟨_,h,by rw [← e']⟩) nd.1
  ·exact ih nd.2 h h'
section
variable {X:Cx} {pins:List (Addr × Obj)} {σ:St} {H:Hp} {s:Shared} {scope:Scope} {own cap:List Str} {ix:List Nat}
theorem Inv.block (I:Inv X pins σ H s) (B:BlkOk X scope own cap ix) {fp:List Addr} (hf:∀ b ∈ fp,FpOk X pins H b) (ho:∀ b ∈ fp,∃ o,s.heap.get? b=some o) :
  Inv (cxC X scope s.heap.objs.size (own ++ cap) fp s H) [] (blkσ own.length ix σ) H { s with heap:=pushCells (s.heap.push { cls:=.type "dict",data:=.dict #[] }) scope.names }:=by
 have has:∀ x ∈ scope.names,x.2=.free→(X.env.cells.lookup x.1).isSome=true:=fun x hx hk=>by
  obtain ⟨c,e⟩:=I.ok.has x.1 (B.frees x hx hk)
  rw [e]; rfl
 have keep:∀ b o,s.heap.get? b=some o→(pushCells (s.heap.push { cls:=.type "dict",data:=.dict #[] }) scope.names).get? b=some o:=fun b o e=>pushCells_keeps _ _ b o (Heap.get?_push_of_some _ e)
 have old:∀ x c,X.env.cells.lookup x=some c→c < s.heap.objs.size:=fun x c e=>let ⟨v,q⟩:=I.cell x c e; q.lt
 have cs_look:∀ x c,(cellsFrom (s.heap.objs.size + 1) scope.names (cloF X.env scope.names [])).lookup x=some c→s.heap.objs.size + 1 ≤ c ∨ (X.env.cells.lookup x=some c∧(x,NameKind.cell) ∉ scope.names):=fun x c e=>by
  rcases cf_look _ _ _ e with q | ⟨q,nm⟩
  ·exact .inl q
  ·rcases clo_look _ _ has q with q | q
   ·exact .inr ⟨q,nm⟩
   ·cases q
 have clo_mem:∀ p ∈ cloF X.env scope.names [],X.env.cells.lookup p.1=some p.2:=by
  have aux:∀ (names:List (Str × NameKind)) (acc:List (Str × Addr)),(∀ x ∈ names,x.2=.free→(X.env.cells.lookup x.1).isSome=true)→(∀ p ∈ acc,X.env.cells.lookup p.1=some p.2)→∀ p ∈ cloF X.env names acc,X.env.cells.lookup p.1=some p.2:=by
   intro names
   induction names with
   | nil=>intro acc _ h p hp; exact h p hp
   | cons y r ih =>
    intro acc h h2 p hp
    obtain ⟨n,k⟩:=y
    unfold cloF at hp
    by_cases hk:(k == NameKind.free)=true
    ·rw [if_pos hk] at hp
     refine ih _ (fun x hx=>h x (Zu _ hx)) (fun q hq=>?_) p hp
     rcases Zf.mp hq with rfl | hq
     ·obtain ⟨c,e⟩:=Option.isSome_iff_exists.mp (h (n,k) Yb (by simpa using hk))
      simp only at e ⊢
      rw [e]; rfl
     ·exact h2 q hq
    ·rw [if_neg hk] at hp
     exact ih _ (fun x hx=>h x (Zu _ hx)) h2 p hp
  exact aux _ _ has (fun p hp=>nomatch hp)
 have cinj:∀ x y c,(cellsFrom (s.heap.objs.size + 1) scope.names (cloF X.env scope.names [])).lookup x=some c→(cellsFrom (s.heap.objs.size + 1) scope.names (cloF X.env scope.names [])).lookup y=some c→x=y:=fun x y c e1 e2 =>
  cf_inj scope.names (s.heap.objs.size + 1) (cloF X.env scope.names []) (fun p hp=>Nat.lt_succ_of_lt (old p.1 p.2 (clo_mem p hp)))
   (fun p q hp hq e=>I.ok.inj p.1 q.1 p.2 (clo_mem p hp) (by rw [e]; exact clo_mem q hq)) (x,c) (y,c) (PySem.mem_of_lookup e1) (PySem.mem_of_lookup e2) rfl
 have ccell:∀ x c,(cellsFrom (s.heap.objs.size + 1) scope.names (cloF X.env scope.names [])).lookup x=some c→∃ v,(pushCells (s.heap.push { cls:=.type "dict",data:=.dict #[] }) scope.names).IsCell c v:=fun x c e=>by
  have m:=PySem.mem_of_lookup e
  have hs:(s.heap.push { cls:=.type "dict",data:=.dict #[] }).objs.size=s.heap.objs.size + 1:=Heap.size_push ..
  rw [← hs] at m
  rcases cf_cell _ _ _ _ m with q | ⟨q,_⟩
  ·obtain ⟨v,z⟩:=I.cell _ _ (clo_mem _ q)
   exact ⟨v,z.keeps keep⟩
  ·exact ⟨none,q⟩
 have fplt:∀ b ∈ fp,b < s.heap.objs.size:=fun b hb=>let ⟨o,e⟩:=ho b hb; Heap.lt_size e
 refine ⟨⟨I.ok.mod,?_,I.ok.glob,I.ok.blt,Zd _,cinj,fun x hx=>?_,fun x c hfx e=>?_,I.ok.hd,I.ok.frames,.inl rfl,fun b hb=>⟨?_,fun x c e=>?_⟩,I.bs,Zl I.ok.bsz I.sz,fun b o e hb=>?_,fun b hb hz=>?_,I.stack,I.stkFree⟩,
  rfl,I.bare,Un.kept keep,⟨fun _=>none,(Heap.Ns.new s.heap (.type "dict")).keeps (pushCells_keeps _ _),fun i x v h1 h2 h3=>?_⟩,ccell,I.hok.fresh (Zd _),fun x c e=>?_,fun p hp=>absurd (show p ∈ ([]:List (Addr × Obj)) from hp) (by simp),I.hok.kept keep,?_⟩
 ·exact B.kind
 ·have hx':(relabel scope X.env).names.lookup x=some .cell ∨ (relabel scope X.env).names.lookup x=some .free:=hx
  have:((cellsFrom (s.heap.objs.size + 1) scope.names (cloF X.env scope.names [])).lookup x).isSome=true:=by
   have fr:(x,NameKind.free) ∈ scope.names→((cellsFrom (s.heap.objs.size + 1) scope.names (cloF X.env scope.names [])).lookup x).isSome=true:=fun z=>PySem.W.cellsFrom_some _ _ _ (.inr (clo_some _ _ (.inl z)))
   have ce:(x,NameKind.cell) ∈ scope.names→((cellsFrom (s.heap.objs.size + 1) scope.names (cloF X.env scope.names [])).lookup x).isSome=true:=fun z=>by
    have aux:∀ (names:List (Str × NameKind)) (k:Nat) (acc:List (Str × Addr)),(x,NameKind.cell) ∈ names→((cellsFrom k names acc).lookup x).isSome=true:=by
     intro names
     induction names with
     | nil=>intro _ _ z; cases z
     | cons y r ih =>
      intro k acc z
      obtain ⟨n,kd⟩:=y
      unfold cellsFrom
      by_cases hk:(kd == NameKind.cell)=true
      ·rw [if_pos hk]
       rcases Zf.mp z with e | z
       ·cases e
        exact PySem.W.cellsFrom_some _ _ _ (.inr (by rw [List.lookup_cons]; simp))
       ·exact ih _ _ z
      ·rw [if_neg hk]
       rcases Zf.mp z with e | z
       ·cases e; exact absurd (by decide) hk
       ·exact ih _ _ z
    exact aux _ _ _ z
   rcases hx' with q | q
   ·rcases relabel_look q with q | ⟨_,q⟩
    ·exact ce q
    ·exact fr q
   ·rcases relabel_look q with q | ⟨e,_⟩
    ·exact fr q
    ·cases e
  exact Option.isSome_iff_exists.mp this
 ·have hm:(x,NameKind.cell) ∈ scope.names:=of_decide_eq_true hfx
  rcases cs_look x c e with q | ⟨_,nm⟩
  ·exact Zl (Nat.le_succ _) q
  ·exact absurd hm nm
 ·exact Nat.ne_of_lt (fplt b hb)
 ·rcases cs_look x c e with q | ⟨q,_⟩
  ·exact Nat.ne_of_gt (Yd (fplt b hb) (Zl (Nat.le_succ _) q))
  ·exact (hf b hb).2.2.2.2.1 x c q
 ·rcases (hf b hb).2.2.2.1 with z | z
  ·exact I.ok.noex b o e z
  ·exact absurd (Yd (Heap.lt_size e) (Zl I.ok.bsz z)) (Nat.lt_irrefl _)
 ·rcases Zf.mp (I.stkSub b hz) with e | z
  ·exact (hf b hb).2.1 e
  ·exact (hf b hb).2.2.1 z
 ·
  have h1:(own ++ cap)[i]?=some x:=h1
  have hi:own.length ≤ i:=by
   by_cases hi:i < own.length
   ·unfold blkσ at h2
    rw [Zr (by simpa using hi),List.getElem?_replicate,if_pos hi] at h2
    cases h2
   ·omega
  rw [Yi hi] at h1
  unfold blkσ at h2
  rw [Yi (by simpa using hi),List.length_replicate,Zg] at h2
  obtain ⟨j,hj,hN⟩:=B.at' _ _ h1
  rw [hj] at h2
  simp only [Option.map_some,Option.some.injEq] at h2
  have h2':σ[j]?=some (some v):=by
   cases q:σ[j]? with
   | none=>rw [q] at h2; simp at h2
   | some o=>rw [q] at h2; simp at h2; rw [h2]
  have fm:=B.caps _ _ h1
  have kd:=B.frees _ fm rfl
  obtain ⟨m,hn,hl⟩:=I.loc
  obtain ⟨u,r,l⟩:=hl j x v hN h2' (by rcases kd with k | k; exact .inr (.inl k); exact .inr (.inr k))
  refine ⟨u,r,.inr ?_⟩
  have cellx:∃ c,X.env.cells.lookup x=some c∧s.heap.IsCell c (some u):=by
   rcases l with ⟨k,_⟩ | ⟨_,c,e,z⟩
   ·simp only at kd; rw [k] at kd; rcases kd with k | k <;> cases k
   ·exact ⟨c,e,z⟩
  obtain ⟨c,ec,zc⟩:=cellx
  have ncell:(x,NameKind.cell) ∉ scope.names:=fun z=>by have:=nodup_keys B.nd z fm; cases this
  refine ⟨?_,c,?_,zc.keeps keep⟩
  ·have h3':(relabel scope X.env).names.lookup x=some .local ∨ (relabel scope X.env).names.lookup x=some .cell ∨ (relabel scope X.env).names.lookup x=some .free:=h3
   rcases h3' with q | q | q
   ·rcases relabel_look q with q | ⟨e,_⟩
    ·have:=nodup_keys B.nd q fm; cases this
    ·cases e
   ·exact .inl q
   ·exact .inr q
  ·show (cellsFrom (s.heap.objs.size + 1) scope.names (cloF X.env scope.names [])).lookup x=some c
   obtain ⟨c',e'⟩:=Option.isSome_iff_exists.mp (PySem.W.cellsFrom_some (x:=x) scope.names (s.heap.objs.size + 1) (cloF X.env scope.names []) (.inr (clo_some _ _ (.inl fm))))
   rw [e']
   rcases cf_look _ _ _ e' with q | ⟨q,_⟩
   ·exfalso
    have m:=PySem.mem_of_lookup e'
    have aux:∀ (names:List (Str × NameKind)) (k:Nat) (acc:List (Str × Addr)),(x,NameKind.cell) ∉ names→(cellsFrom k names acc).lookup x=acc.lookup x:=by
     intro names
     induction names with
     | nil=>intro _ _ _; rfl
     | cons y r ih =>
      intro k acc nm
      obtain ⟨n,kd⟩:=y
      unfold cellsFrom
      by_cases hk:(kd == NameKind.cell)=true
      ·rw [if_pos hk,ih _ _ (fun z=>nm (Zu _ z)),List.lookup_cons]
       have:(x == n)=false:=by
        simp only [beq_eq_false_iff_ne]
        intro e; subst e
        have:kd=.cell:=by simpa using hk
        subst this
        exact nm Yb
       rw [this]
      ·rw [if_neg hk,ih _ _ (fun z=>nm (Zu _ z))]
    rw [aux _ _ _ ncell] at e'
    rcases clo_look _ _ has e' with z | z
    ·exact absurd (Yd (old _ _ z) (Zl (Nat.le_succ _) q)) (Nat.lt_irrefl _)
    ·cases z
   ·rcases clo_look _ _ has q with z | z
    ·rw [ec] at z; rw [z]
    ·cases z
 ·rcases cs_look x c e with q | ⟨q,_⟩
  ·exact I.hok.fresh (Zl (Nat.le_succ _) q)
  ·exact I.freeC x c q
 ·unfold blkσ
  show _=(own ++ cap).length
  rw [Zj,Zj,List.length_replicate,Zb,B.len]
end
def tCompN (g:TG) (tt:TT) (te:TE) (J:It) (acc:Addr) (σ₀:St) (H₀:Hp) (Q:VK):Prop :=
 ∃ W:Nat→Nat→St→Hp→Prop,(∃ m,W 0 m σ₀ (upd H₀ acc (.lst [])))∧∀ i m σ' H',W i m σ' H' →
  (J.stop i H'∧Q (.ref acc) H') ∨
  (J.go i H'∧∃ N:St→Hp→Prop,(∀ σ2 H2,N σ2 H2→∃ m',m' < m∧W (i + 1) m' σ2 H2)∧∀ x H2,J.yld i H' x H2→g x σ' H2 fun σ3 H3=>tt σ3 H3 fun b H4 =>
   if b=true then te σ3 H4 fun y H5=>∃ ys,H5 acc=some (.lst ys)∧ys.length < sizeLine∧N σ3 (upd H5 acc (.lst (ys ++ [y]))) else N σ3 H4)
def tComp (wi:TI) (g:TG) (tt:TT) (te:TE) (own:Nat) (ix:List Nat):TE:=fun σ H Q=>wi σ H fun J H1=>∀ acc,H1 acc=none→tCompN g tt te J acc (blkσ own ix σ) H1 Q
section
variable {X:Cx} {scope:Scope} {own cap:List Str} {ix:List Nat} {tg iter elt:Expr} {ifs:List Expr} {wi:TI} {g:TG} {tt:TT} {te:TE} {pos:Pos}
theorem comp_core {pins:List (Addr × Obj)} {σ:St} {H2:Hp} {s2:Shared} {it:Addr} {fp:List Addr} {tn:Nat→Heap→Prop} {J:It} {Q:VK} {RR:Value→Addr→Result→Shared→Prop} {E:Value→Shared→Prop}
  (B:BlkOk X scope own cap ix) (hc:X.calm=true)
  (hb:∀ C fp s H,PG (cxC X scope C (own ++ cap) fp s H) tg g∧PIfs (cxC X scope C (own ++ cap) fp s H) ifs tt∧PE (cxC X scope C (own ++ cap) fp s H) elt te)
  (I2:Inv X pins σ H2 s2) (T:Turn X.prog X.w X.K tg J fp it tn) (st2:tn 0 s2.heap) (f2:∀ b ∈ fp,FpOk X pins H2 b)
  (q:∀ acc,H2 acc=none→tCompN g tt te J acc (blkσ own.length ix σ) H2 Q)
  (hRR:∀ D C H' s' m,Inv X pins σ H' s'→Q (.ref D) H'→s'.heap.Ns C m→FpOk X pins H' C→RR (.ref D) C (.ok .next) s') :
  wpAny (model X.prog X.w) X.A (newList []) (fun acc s₃=>wpAny (model X.prog X.w) X.A (newFunctionEnv scope X.env.globals (cloF X.env scope.names []) [] X.env.qual none .none (some X.env)) (fun cenv s₄ =>
   codeAny (model X.prog X.w) X.A (.compStart (.ListComp elt [⟨tg,iter,ifs,0⟩] scope pos) 0 (.ref it) acc { cenv with scope:=relabel scope X.env }) (RR acc cenv.locals) s₄) E s₃) E s2:=by
 refine wpAny_newObj_type (newEnv_comp ?_)
 have I3:Inv X pins σ (upd H2 s2.heap.objs.size (.lst [])) { s2 with heap:=s2.heap.push { cls:=.type "list",dict:=none,data:=.seq ([]:List Value).toArray } }:=I2.lnew (its:=[]) (ys:=[]) (t':=s2.toks) .nil (Nat.zero_le _)
 obtain ⟨W,⟨m0,w0⟩,turn⟩:=q s2.heap.objs.size I2.fresh
 generalize hD:s2.heap.objs.size=D at I3 w0 turn ⊢
 have hlt:∀ b ∈ fp,b < D:=fun b hbm=>by
  obtain ⟨o,e,_⟩:=T.obj 0 _ st2 b hbm
  rw [← hD]; exact Heap.lt_size e
 generalize hs3:({ s2 with heap:=s2.heap.push { cls:=.type "list",dict:=none,data:=.seq ([]:List Value).toArray } }:Shared)=s3 at I3 ⊢
 have keep3:∀ b o,s2.heap.get? b=some o→s3.heap.get? b=some o:=fun b o e=>by rw [← hs3]; exact Heap.get?_push_of_some _ e
 have f3:∀ b ∈ fp,FpOk X pins (upd H2 D (.lst [])) b:=fun b hbm=>⟨by rw [jc0 (Nat.ne_of_lt (hlt b hbm))]; exact (f2 b hbm).1,(f2 b hbm).2⟩
 have o3:∀ b ∈ fp,∃ o,s3.heap.get? b=some o:=fun b hbm=>let ⟨o,e,_⟩:=T.obj 0 _ st2 b hbm; ⟨o,keep3 b o e⟩
 have I4:=I3.block B f3 o3
 have st4:tn 0 (pushCells (s3.heap.push { cls:=.type "dict",data:=.dict #[] }) scope.names):=T.keep 0 _ _ st2 fun b _ o e=>pushCells_keeps _ _ b o (Heap.get?_push_of_some _ (keep3 b o e))
 obtain ⟨hg,hif,he⟩:=hb s3.heap.objs.size fp s3 (upd H2 D (.lst []))
 generalize hX':cxC X scope s3.heap.objs.size (own ++ cap) fp s3 (upd H2 D (.lst []))=X' at I4 hg hif he
 have eP:X'.prog=X.prog:=by rw [← hX']; rfl
 have eW:X'.w=X.w:=by rw [← hX']; rfl
 have eK:X'.K=X.K:=by rw [← hX']; rfl
 have eA:X'.A=X.A:=by rw [← hX']; rfl
 have eE:X'.env=compE scope s3.heap.objs.size X.env:=by rw [← hX']; rfl
 have ex:X'.xe=fun _ _=>False:=by rw [← hX']; rfl
 have hc':X'.calm=true:=by rw [← hX']; exact hc
 have stat:∀ {H':Hp},(∀ b ∈ fp,H' b=none)→∀ b ∈ fp,FpOk X' [] H' b:=fun hn b hbm=>by
  subst hX'
  exact ⟨hn b hbm,(I4.ok.exf b hbm).1,I4.ok.exfs b hbm,.inl hbm,(I4.ok.exf b hbm).2,fun p hp=>absurd (show p ∈ ([]:List (Addr × Obj)) from hp) (by simp)⟩
 have loop:∀ s4:Shared,s4={ s3 with heap:=pushCells (s3.heap.push { cls:=.type "dict",data:=.dict #[] }) scope.names } →
   codeAny (model X.prog X.w) X.A (.compLoop (.ListComp elt [⟨tg,iter,ifs,0⟩] scope pos) 0 (.ref it) (.ref D) (compE scope s3.heap.objs.size X.env)) (RR (.ref D) s3.heap.objs.size) s4:=by
  rintro s4 rfl
  refine comp_loop (fun n s'=>∃ i σ' H',Inv X' [] σ' H' s'∧tn i s'.heap∧(∀ b ∈ fp,H' b=none)∧W i n σ' H') ?_ m0 ⟨0,_,_,I4,st4,fun b hbm=>(f3 b hbm).1,w0⟩
  rintro n s5 ⟨i,σ5,H5,I5,st5,fr5,w5⟩
  rcases turn i n σ5 H5 w5 with ⟨stop,qn⟩ | ⟨go,N,hN,step⟩
  ·have:=T.done X' eP eW eK hc' i [] s5 σ5 H5 (fun _ _=>False) I5 (stat fr5) st5 stop
   rw [eA] at this
   refine thn this fun r s6 ⟨hr,I6⟩=>?_
   subst hr
   subst hX'
   have J6:Inv X pins σ H5 s6:=I3.call' (ch:=fp) I6.os I6.base I6.hok I6.bare fun b hbm=>⟨(f3 b hbm).2.2.2.1,(f3 b hbm).2.1,(f3 b hbm).2.2.2.2.1,(f3 b hbm).2.2.2.2.2⟩
   obtain ⟨m,hn,_⟩:=I6.loc
   exact hRR D _ H5 s6 m J6 qn hn (I3.fpOk (Zd _) I6.free)
  ·have:=T.item X' eP eW eK hc' i [] s5 σ5 H5 (fun _ _=>False) I5 (stat fr5) st5 go
   rw [eA] at this
   refine thn this fun r s6 ⟨u,hr,h6⟩=>?_
   subst hr
   refine thn h6 fun _ s7 ⟨x,H7,I7,r7,y7,st7,fr7⟩=>?_
   have I7':=I7.pinned (stat fr7) (T.obj _ _ st7)
   have a1:=hg _ s7 σ5 H7 x u _ I7' r7 (step x H7 y7)
   rw [eP,eW,eA,eE,ex] at a1
   refine thn a1 fun _ s8 ⟨σ8,H8,I8,q8⟩=>?_
   have a2:=hif _ s8 σ8 H8 _ I8 q8
   rw [eP,eW,eA,eE,ex] at a2
   refine thn a2 fun b s9 ⟨H9,I9,q9⟩=>?_
   have again:∀ {s':Shared} {σ':St} {H':Hp},Inv X' ([] ++ pinsAt fp s7.heap) σ' H' s'→N σ' H'→∃ m,m < n∧∃ i σ' H',Inv X' [] σ' H' s'∧tn i s'.heap∧(∀ b ∈ fp,H' b=none)∧W i m σ' H':=fun {s' σ' H'} I' n'=>by
    obtain ⟨m',hm,w'⟩:=hN σ' H' n'
    refine ⟨m',hm,i + 1,σ',H',I'.unpinned,T.keep _ _ _ st7 fun b hbm o e=>(I'.pin (b,o) (Zw _ (Zw _ (jf3 hbm e)))).1,fun b hbm=>?_,w'⟩
    obtain ⟨o,e,d⟩:=T.obj _ _ st7 b hbm
    exact (I'.pin (b,o) (Zw _ (Zw _ (jf3 hbm e)))).2.1
   cases b with
   | false=>exact again I9 q9
   | true =>
    rw [if_pos rfl] at q9 ⊢
    have a3:=he _ s9 σ8 H9 _ I9 q9
    rw [eP,eW,eA,eE,ex] at a3
    refine thn a3 fun yv s10 ⟨y,H10,I10,r10,ys,hys,hz,q10⟩=>?_
    have a4:=mt_append (X:=X') _ s10 σ8 H10 (.ref D) [y] (.ref D) [yv] (fun v H'=>v=.non∧N σ8 H') I10 rfl (.cons r10 .nil) ⟨D,ys,y,rfl,rfl,hys,hz,rfl,q10⟩
    rw [eP,eW,eA,ex] at a4
    refine thn a4 fun _ s11 ⟨_,H11,I11,_,_,q11⟩=>again I11 q11
 exact codeAny_compStart_list (loop _ rfl) (T.self X.A 0 _ _ _ st4 (loop _ rfl))
theorem je0 (B:BlkOk X scope own cap ix) (hc:X.calm=true) (hi:PI X tg iter wi)
  (hb:∀ C fp s H,PG (cxC X scope C (own ++ cap) fp s H) tg g∧PIfs (cxC X scope C (own ++ cap) fp s H) ifs tt∧PE (cxC X scope C (own ++ cap) fp s H) elt te)
  (hs:∀ x,foldedSetIterable iter X.env x=pure x:=by intro _; rfl):PE X (.ListComp elt [⟨tg,iter,ifs,0⟩] scope pos) (tComp wi g tt te own.length ix):=by
 intro pins s σ H Q I h
 rw [eval_ListComp]
 have has:∀ x ∈ scope.names,x.2=.free→(X.env.cells.lookup x.1).isSome=true:=fun x hx hk=>by
  obtain ⟨c,e⟩:=I.ok.has x.1 (B.frees x hx hk)
  rw [e]; rfl
 refine wpAny_comprehension_free (use:=none) rfl hs (jf9 has) B.kind B.names ?_
 show wpAny _ _ (eval iter X.env) _ _ s
 refine thn (hi pins s σ H _ I h) fun v s1 h1=>thn h1 fun itv s2 h2=>?_
 obtain ⟨it,fp,tn,J,H2,e,I2,T,st2,f2,q⟩:=h2
 subst e
 refine comp_core (RR:=fun acc C=>compPost (model X.prog X.w) X.A X.xe none (EP X pins σ Q) acc C) B hc hb I2 T st2 f2 q ?_
 intro D C H' s' m I' q' hn fC
 refine ⟨m,hn,fun h' hsb=>⟨.ref D,H',?_,rfl,q'⟩⟩
 exact I'.turned (t':=s'.toks) (it:=C) (fun b o hbC e=>(hsb.2 b hbC).trans e) fC.1 fC.2.1 fC.2.2.2.1 fC.2.2.2.2.1 fC.2.2.2.2.2
theorem ps_setC {i:Nat} {y:Str} {py spos:Pos} (hN:X.N.Nodup) (hiN:X.N[i]?=some y) (hx:X.env.scope.names.lookup y=some .local) (B:BlkOk X scope own cap ix) (hc:X.calm=true) (hi:PI X tg iter wi)
  (hb:∀ C fp s H,PG (cxC X scope C (own ++ cap) fp s H) tg g∧PIfs (cxC X scope C (own ++ cap) fp s H) ifs tt∧PE (cxC X scope C (own ++ cap) fp s H) elt te)
  (hsw:swapsWith (.ListComp elt [⟨tg,iter,ifs,0⟩] scope pos) (some (.Name y py)) spos.line X.env=pure true:=by rfl)
  (hs:∀ x,foldedSetIterable iter X.env x=pure x:=by intro _; rfl):PS X (.Assign [.Name y py] (.ListComp elt [⟨tg,iter,ifs,0⟩] scope pos) spos) (tAsg (tComp wi g tt te own.length ix) (gName i)):=by
 intro pins s σ H D I h
 rw [exec_Assign_Name_used _ _ _ _ hsw]
 have has:∀ x ∈ scope.names,x.2=.free→(X.env.cells.lookup x.1).isSome=true:=fun x hx hk=>by
  obtain ⟨c,e⟩:=I.ok.has x.1 (B.frees x hx hk)
  rw [e]; rfl
 refine Za (wpAny_standAt (Za ?_))
 show wpAny _ X.A (do let _ ← comprehension (.ListComp elt [⟨tg,iter,ifs,0⟩] scope pos) scope X.env _ (newList []) false (eval iter X.env) (some (assign (.Name y py) X.env))) _ _ s
 refine Za (wpAny_mono (wpAny_comprehension_free (use:=some (assign (.Name y py) X.env)) (Q:=fun _ s'=>SP X pins D .next s') rfl hs (jf9 has) B.kind B.names ?_) (fun _ s' hq=>wpAny_pure (wpAny_pure hq)) fun _ _ e=>e)
 refine thn (hi pins s σ H _ I h) fun v s1 h1=>thn h1 fun itv s2 h2=>?_
 obtain ⟨it,fp,tn,J,H2,e,I2,T,st2,f2,q⟩:=h2
 subst e
 refine comp_core (RR:=fun acc C=>compPost (model X.prog X.w) X.A X.xe (some (assign (.Name y py) X.env)) (fun _ s'=>SP X pins D .next s') acc C) B hc hb I2 T st2 f2 q ?_
 intro Da C H' s' m I' q' hn fC
 show wpAny _ X.A (assign (.Name y py) X.env (.ref Da)) _ _ s'
 obtain ⟨oC,es,ep,hoC,hdC,r⟩:=id hn
 have Ip:Inv X (pins ++ [(C,oC)]) σ H' s':=I'.pins_of fun p hp=>by
  rcases Zq.mp hp with z | z
  ·exact I'.pin p (Zw _ z)
  ·obtain rfl:p=(C,oC):=by simpa using z
   exact ⟨hoC,fC.1,fC.2.1,fC.2.2.1,fun v e=>by rw [hdC] at e; cases e⟩
 refine wpAny_assign_Name (store_ok Ip hN hiN (.inl hx) (v:=.ref Da) rfl (fun s'' I''=>?_) (.inr hx))
 have pC:=(I''.pin (C,oC) (Zw _ (Zw _ (by simp)))).1
 refine ⟨m,⟨oC,es,ep,pC,hdC,r⟩,fun h' hsb=>⟨_,H',?_,q'⟩⟩
 exact I''.unpinned.turned (t':=s''.toks) (it:=C) (fun b o hbC e=>(hsb.2 b hbC).trans e) fC.1 fC.2.1 fC.2.2.2.1 fC.2.2.2.2.1 fC.2.2.2.2.2
end
def tv:V→Bool
 | .bl b=>b
 | .int i=>i != 0
 | _=>false
def plainB:V→Bool
 | .bl _=>true
 | .int _=>true
 | .non=>true
 | _=>false
theorem truthy_plain {prog:Program} {w:World} {A:Around} {E:Value→Shared→Prop} {s:Shared} {x:V} {v:Value} {Q:Bool→Shared→Prop} (r:RelV x v) (p:plainB x=true) (h:Q (tv x) s):wpAny (model prog w) A (truthy v) Q E s:=by
 cases x with
 | non=>cases r; exact truthy_none h
 | bl b=>cases r; exact wpAny_truthy_bool h
 | int i=>obtain ⟨t,rfl⟩:=r; exact PySem.P.truthy_int h
 | _=>cases p
theorem all_range {xs:List V} {n:Nat} (hn:n=xs.length) (f:V→Bool):(List.range n).all (fun i=>(xs[i]?.map f).getD true)=xs.all f:=by
 subst hn
 rw [Bool.eq_iff_iff]
 simp only [Zt,List.mem_range]
 constructor
 ·intro h x hx
  obtain ⟨i,hi,e⟩:=List.mem_iff_getElem.mp hx
  have:=h i hi
  rw [Zc hi,e] at this
  simpa using this
 ·intro h i hi
  rw [Zc hi]
  simpa using h _ (Zn hi)
theorem any_range {xs:List V} {n:Nat} (hn:n=xs.length) (f:V→Bool):(List.range n).any (fun i=>(xs[i]?.map f).getD false)=xs.any f:=by
 subst hn
 rw [Bool.eq_iff_iff]
 simp only [List.any_eq_true,List.mem_range]
 constructor
 ·rintro ⟨i,hi,h⟩
  rw [Zc hi] at h
  exact ⟨_,Zn hi,by simpa using h⟩
 ·rintro ⟨x,hx,h⟩
  obtain ⟨i,hi,e⟩:=List.mem_iff_getElem.mp hx
  exact ⟨i,hi,by rw [Zc hi,e]; simpa using h⟩
section
variable {X:Cx}
theorem iter_seq {pins:List (Addr × Obj)} {σ:St} {H:Hp} {s:Shared} {p:Addr} {xs:List V} {A:Around} {E:Value→Shared→Prop} {Q:Value→Shared→Prop} (I:Inv X pins σ H s) (hA:A.handled=none) (h:SqL X.K H p xs ∨ SqT X.K H p xs)
  (k:∀ (it:Addr) (fp wr:List Addr) (its:List Value) (St:Nat→Heap→Prop) (s2:Shared),Vals xs its→Walks X.prog X.w A it fp wr its.length (fun i v=>its[i]?=some v) St→St 0 s2.heap→(∀ b ∈ fp,b < s2.heap.objs.size) →
   (∀ h' tk,(∀ b o,b ∉ wr→s2.heap.get? b=some o→h'.get? b=some o)→Inv X pins σ H { s2 with heap:=h',toks:=tk })→Q (.ref it) s2) :
  wpAny (model X.prog X.w) A (pyIter (.ref p)) Q E s:=by
 rcases h with h | h
 ·obtain ⟨its,rv,pl,hz⟩:=I.list h
  have hp:p < s.heap.objs.size:=by obtain ⟨o,n,e,_⟩:=pl; exact Heap.lt_size e
  refine wpAny_pyIter_list pl.isList ?_
  have W:=Walks.list (prog:=X.prog) (w:=X.w) (A:=A) hA s.heap.objs.size p (Nat.ne_of_lt hp) its.toArray
  refine k s.heap.objs.size [s.heap.objs.size,p] [s.heap.objs.size] its (fun i h=>h.IsListIter s.heap.objs.size p i∧h.IsList p its.toArray) _ rv (by simpa using W) ⟨⟨_,Heap.get?_push_size _ rfl,rfl,rfl⟩,pl.isList.push _⟩ (fun b hb=>?_) (fun h' tk hk=>?_)
  ·show b < (s.heap.push _).objs.size
   rw [Heap.size_push]
   rcases Zf.mp hb with rfl | hb
   ·exact Nat.lt_succ_self _
   ·rcases Zf.mp hb with rfl | hb
    ·exact Nat.lt_succ_of_lt hp
    ·cases hb
  ·exact I.kept (t':=tk) fun b o e=>hk b o (fun z=>Nat.lt_irrefl _ (by have:=Heap.lt_size e; simp at z; rw [z] at this; exact this)) (Heap.get?_push_of_some _ e)
 ·obtain ⟨its,rv,pl,hz⟩:=I.tuple h
  have hp:p < s.heap.objs.size:=by obtain ⟨o,e,_⟩:=pl; exact Heap.lt_size e
  have pt:s.heap.IsTuple p its.toArray:=pl
  refine wpAny_pyIter_tuple pt ?_
  have W:=Walks.tuple (prog:=X.prog) (w:=X.w) (A:=A) hA s.heap.objs.size p (Nat.ne_of_lt hp) its.toArray
  refine k s.heap.objs.size [s.heap.objs.size,p] [s.heap.objs.size] its (fun i h=>h.IsTupleIter s.heap.objs.size p i∧h.IsTuple p its.toArray) _ rv (by simpa using W) ⟨⟨_,Heap.get?_push_size _ rfl,rfl,rfl⟩,?_⟩ (fun b hb=>?_) (fun h' tk hk=>?_)
  ·obtain ⟨o,e,r⟩:=pt
   exact ⟨o,Heap.get?_push_of_some _ e,r⟩
  ·show b < (s.heap.push _).objs.size
   rw [Heap.size_push]
   rcases Zf.mp hb with rfl | hb
   ·exact Nat.lt_succ_self _
   ·rcases Zf.mp hb with rfl | hb
    ·exact Nat.lt_succ_of_lt hp
    ·cases hb
  ·exact I.kept (t':=tk) fun b o e=>hk b o (fun z=>Nat.lt_irrefl _ (by have:=Heap.lt_size e; simp at z; rw [z] at this; exact this)) (Heap.get?_push_of_some _ e)
theorem Vals.at {xs:List V} {us:List Value} {i:Nat} {v:Value} (r:Vals xs us) (e:us[i]?=some v):∃ x,xs[i]?=some x∧RelV x v:=by
 have hi:i < us.length:=(Ze.mp e).1
 have hx:i < xs.length:=by rw [r.length]; exact hi
 obtain ⟨u,h1,h2⟩:=r.get (Zc hx)
 rw [e] at h1; cases h1
 exact ⟨_,Zc hx,h2⟩
theorem call_all (hc:X.calm=true):CallR X (.builtin "all") (fun xs H Q=>∃ p ys,xs=[.ref p]∧(SqL X.K H p ys ∨ SqT X.K H p ys)∧ys.all plainB=true∧Q (.bl (ys.all tv)) H):=by
 intro pins s σ H xs us Q I r h
 obtain ⟨p,ys,rfl,hs,hp,q⟩:=h
 obtain ⟨u,rfl,ru⟩:=vals1 r
 cases ru
 refine call_all_walk (iter_seq I (A:=X.A.in1) (I.ok.hd hc) hs fun it fp wr its St s2 rv W st hfp hk=>?_)
 refine ⟨it,fp,wr,its.length,_,St,(fun i=>(ys[i]?.map tv).getD true),rfl,W,st,fun i v s' Q' E' hv hq=>?_,fun h' tk kk=>⟨.bl (ys.all tv),H,hk h' tk kk,?_,q⟩⟩
 ·obtain ⟨x,ex,rx⟩:=rv.at hv
  simp only [ex,Option.map_some,Option.getD_some] at hq
  exact truthy_plain rx (Zt.mp hp x (Zi ex)) hq
 ·rw [all_range rv.length.symm]; rfl
theorem call_any (hc:X.calm=true):CallR X (.builtin "any") (fun xs H Q=>∃ p ys,xs=[.ref p]∧(SqL X.K H p ys ∨ SqT X.K H p ys)∧ys.all plainB=true∧Q (.bl (ys.any tv)) H):=by
 intro pins s σ H xs us Q I r h
 obtain ⟨p,ys,rfl,hs,hp,q⟩:=h
 obtain ⟨u,rfl,ru⟩:=vals1 r
 cases ru
 refine call_any_walk (iter_seq I (A:=X.A.in1) (I.ok.hd hc) hs fun it fp wr its St s2 rv W st hfp hk=>?_)
 refine ⟨it,fp,wr,its.length,_,St,(fun i=>(ys[i]?.map tv).getD false),rfl,W,st,fun i v s' Q' E' hv hq=>?_,fun h' tk kk=>⟨.bl (ys.any tv),H,hk h' tk kk,?_,q⟩⟩
 ·obtain ⟨x,ex,rx⟩:=rv.at hv
  simp only [ex,Option.map_some,Option.getD_some] at hq
  exact truthy_plain rx (Zt.mp hp x (Zi ex)) hq
 ·rw [any_range rv.length.symm]; rfl
theorem preSum_take (ns:List Int):∀ k,k ≤ ns.length→preSum (fun i=>(ns[i]?).getD 0) k=(ns.take k).sum
 | 0,_=>by simp [preSum]
 | k + 1,h=>by
  have hk:k < ns.length:=h
  rw [preSum,preSum_take ns k (Nat.le_of_lt hk),Zc hk]
  have e:ns.take (k + 1)=ns.take k ++ [ns[k]]:=by rw [List.take_add_one,Zc hk]; rfl
  rw [e,List.sum_append]
  simp
theorem call_sum (hc:X.calm=true):CallR X (.builtin "sum") (fun xs H Q=>∃ (p:Addr) (ns:List Int),xs=[.ref p]∧(SqL X.K H p (ns.map V.int) ∨ SqT X.K H p (ns.map V.int))∧Q (.int ns.sum) H):=by
 intro pins s σ H xs us Q I r h
 obtain ⟨p,ns,rfl,hs,q⟩:=h
 obtain ⟨u,rfl,ru⟩:=vals1 r
 cases ru
 refine call_sum_walkG (iter_seq I (A:=X.A.in1) (I.ok.hd hc) hs fun it fp wr its St s2 rv W st hfp hk=>?_)
 refine ⟨it,fp,wr,its.length,_,St,(fun i=>(ns[i]?).getD 0),rfl,W,st,hfp,fun i v hv=>?_,fun h' tk t' kk=>⟨.int ns.sum,H,hk h' tk kk,⟨t',?_⟩,q⟩⟩
 ·obtain ⟨x,ex,rx⟩:=rv.at hv
  rw [Zg] at ex
  cases e:ns[i]? with
  | none=>rw [e] at ex; cases ex
  | some n =>
   rw [e] at ex
   cases ex
   simp only [e,Option.getD_some]
   exact rx
 ·have hl:its.length=ns.length:=by rw [← rv.length,Zb]
  rw [hl,preSum_take ns _ (Zd _),Ye]
theorem call_maxL (hc:X.calm=true):CallR X (.builtin "max") (fun xs H Q=>∃ (p:Addr) (ns:List Int),xs=[.ref p]∧(SqL X.K H p (ns.map V.int) ∨ SqT X.K H p (ns.map V.int))∧ns ≠ []∧∀ m,m ∈ ns→(∀ n ∈ ns,n ≤ m)→Q (.int m) H):=by
 intro pins s σ H xs us Q I r h
 obtain ⟨p,ns,rfl,hs,hne,q⟩:=h
 obtain ⟨u,rfl,ru⟩:=vals1 r
 cases ru
 refine call_max_walk (iter_seq I (A:=X.A.in1) (I.ok.hd hc) hs fun it fp wr its St s2 rv W st hfp hk=>?_)
 have hl:its.length=ns.length:=by rw [← rv.length,Zb]
 have hpos:0 < ns.length:=List.length_pos_iff.mpr hne
 have val:∀ (i:Nat) (v:Value),its[i]?=some v→∃ t,v=Value.int ((ns[i]?).getD 0) t:=fun i v hv=>by
  obtain ⟨x,ex,rx⟩:=rv.at hv
  rw [Zg] at ex
  cases e:ns[i]? with
  | none=>rw [e] at ex; cases ex
  | some n =>
   rw [e] at ex
   cases ex
   exact rx
 refine ⟨it,fp,wr,its.length,_,St,(fun i j=>decide ((ns[i]?).getD 0 > (ns[j]?).getD 0)),rfl,W,st,hfp,by omega,CmpOf.ints_gt (fun i=>(ns[i]?).getD 0) val,fun v h' tk hP kk=>?_⟩
 obtain ⟨t,rfl⟩:=val _ _ hP
 obtain ⟨h1,h2⟩:=argBest_gt (fun i=>(ns[i]?).getD 0) (its.length - 1)
 have hlt:argBest (fun i j=>decide ((ns[i]?).getD 0 > (ns[j]?).getD 0)) (its.length - 1) < ns.length:=by
  omega
 refine ⟨.int _,H,hk h' tk kk,⟨t,rfl⟩,q _ ?_ fun n hn=>?_⟩
 ·rw [Zc hlt]
  exact Zn hlt
 ·obtain ⟨i,hi,e⟩:=List.mem_iff_getElem.mp hn
  have:=h2 i (by omega)
  simp only [Zc hi,Option.getD_some] at this
  rw [← e]; exact this
end
def tIsi (K:PySem.W.Frag) (c:Value) (te:TE):TE:=fun σ H Q=>te σ H fun x H1=>∃ t b,TyOf K H1 x t∧PySem.W.kitOne K t c=some b∧Q (.bl b) H1
section
variable {X:Cx} {e:Expr} {te:TE}
theorem spl2 {a b:Expr} {ta:TE} {pos:Pos} {pins:List (Addr × Obj)} {s:Shared} {σ:St} {H:Hp} {Q:List Value→Shared→Prop} (ha:PE X a ta) (I:Inv X pins σ H s) {R:V→Hp→Prop} (h:ta σ H R)
  (hs:starEach [a,b] X.env=[(false,eval a X.env),(false,eval b X.env)]) (k:∀ u s1 x H1,Inv X pins σ H1 s1→RelV x u→R x H1→wpAny (model X.prog X.w) X.A (eval b X.env) (fun v s2=>Q [u,v] s2) X.xe s1) :
  wpAny (model X.prog X.w) X.A (spliced (backTo pos (starEach [a,b] X.env))) Q X.xe s:=by
 rw [hs]
 refine Calls.spliced_cons (thn (ha pins s σ H _ I h) fun u s1 ⟨x,H1,I1,r,q⟩=>?_)
 exact Calls.spliced_cons (thn (k u s1 x H1 I1 r q) fun v s2 h2=>Calls.spliced_nil h2)
theorem pe_isiB {T:Str} {n:String} {p p2 pos:Pos} (he:PE X e te) (hg:Gl X "isinstance") (hm:X.mg "isinstance"=none) (hgT:Gl X T) (hmT:X.mg T=none) (hv:bootBuiltins T=some (.type n))
  (hb:bootBuiltins "isinstance"=some (.builtin "isinstance")) (hnT:T ≠ "__name__":=by decide) (hdT:(T == ("__debug__" : Str))=false:=by decide)
  (hs:starEach [e,.Name T p2] X.env=[(false,eval e X.env),(false,eval (.Name T p2) X.env)]:=by rfl)
  (hpl:(backTo pos (starEach [.Name T p2] X.env)).any (·.1)=false:=by rfl):PE X (.Call (.Name "isinstance" p) [e,.Name T p2] [] pos) (tIsi X.K (.type n) te):=by
 intro pins s σ H Q I h
 refine Call_ (ld_blt I hg hm hb (PyProof.Rows.callWith_builtin1 (spl2 (Q:=fun us s1=>wpAny (model X.prog X.w) X.A (call (.builtin "isinstance") us) (EP X pins σ Q) X.xe s1) he I h hs fun u s1 x H1 I1 r q=>?_) ?_ hpl))
 ·refine ld_blt I1 hgT hmT hv ?_ hnT hdT
  obtain ⟨t,b,ty,ek,q⟩:=q
  exact isinst_ok I1 r ty ek fun tk=>⟨.bl b,H1,I1.tok tk,rfl,q⟩
 ·rw [hs]; rfl
end
mutual
inductive DtV (K:PySem.W.Frag) (H:Hp):V→PyData→Prop
 | non:DtV K H .non .none
 | bl (b:Bool):DtV K H (.bl b) (.bool b)
 | int (i:Int):DtV K H (.int i) (.int i)
 | str (x:Str) (ok:(PyData.str x).canLay0=true):DtV K H (.str x) (.str x)
 | lst {a:Addr} {xs:List V} {ds:List PyData}:SqL K H a xs→DtVs K H xs ds→DtV K H (.ref a) (.list ds)
 | tup {a:Addr} {xs:List V} {ds:List PyData}:SqT K H a xs→DtVs K H xs ds→DtV K H (.ref a) (.tuple ds)
inductive DtVs (K:PySem.W.Frag) (H:Hp):List V→List PyData→Prop
 | nil:DtVs K H [] []
 | cons {x:V} {xs:List V} {d:PyData} {ds:List PyData}:DtV K H x d→DtVs K H xs ds→DtVs K H (x :: xs) (d :: ds)
end
section
variable {X:Cx} {pins:List (Addr × Obj)} {σ:St} {H:Hp} {s:Shared}
mutual
theorem DtV.reads (I:Inv X pins σ H s):∀ {x:V} {d:PyData} {u:Value},DtV X.K H x d→RelV x u→∃ as,Reads s.heap u d as
 | _,_,_,.non,r=>by cases r; exact ⟨_,.none⟩
 | _,_,_,.bl b,r=>by cases r; exact ⟨_,.bool b⟩
 | _,_,_,.int i,r=>by obtain ⟨t,rfl⟩:=r; exact ⟨_,.int i t⟩
 | _,_,_,.str x _,r=>by obtain ⟨t,rfl⟩:=r; exact ⟨_,.str x t⟩
 | _,_,_,.lst hq h,r=>by
  cases r
  obtain ⟨its,rv,⟨o,n,e,c,_,d⟩,_⟩:=I.list hq
  obtain ⟨as,ra⟩:=DtVs.reads I h rv
  exact ⟨_,.list e c d (by simpa using ra)⟩
 | _,_,_,.tup hq h,r=>by
  cases r
  obtain ⟨its,rv,⟨o,e,c,n,d⟩,_⟩:=I.tuple hq
  obtain ⟨as,ra⟩:=DtVs.reads I h rv
  exact ⟨_,.tuple e c d (by simpa using ra)⟩
theorem DtVs.reads (I:Inv X pins σ H s):∀ {xs:List V} {ds:List PyData} {us:List Value},DtVs X.K H xs ds→Vals xs us→∃ as,ReadsAll s.heap us ds as
 | _,_,_,.nil,r=>by cases r; exact ⟨_,.nil⟩
 | _,_,_,.cons h t,r=>by
  cases r with
  | cons r1 r2 =>
   obtain ⟨as,ra⟩:=DtV.reads I h r1
   obtain ⟨bs,rb⟩:=DtVs.reads I t r2
   exact ⟨_,.cons ra rb⟩
end
mutual
theorem DtV.lay {K:PySem.W.Frag}:∀ {x:V} {d:PyData},DtV K H x d→d.canLay0=true
 | _,_,.non=>rfl
 | _,_,.bl b=>rfl
 | _,_,.int i=>rfl
 | _,_,.str x ok=>ok
 | _,_,.lst hq h=>by have:=DtVs.lay h; simpa [PyData.canLay0] using this
 | _,_,.tup hq h=>by have:=DtVs.lay h; simpa [PyData.canLay0] using this
theorem DtVs.lay {K:PySem.W.Frag}:∀ {xs:List V} {ds:List PyData},DtVs K H xs ds→PyData.canLayAll0 ds=true
 | _,_,.nil=>rfl
 | _,_,.cons h t=>by have h1:=DtV.lay h; have h2:=DtVs.lay t; simp [PyData.canLayAll0,h1,h2]
end
end
section
variable {X:Cx}
def rEqD (K:PySem.W.Frag):R2:=fun x y H Q=>∃ dx dy,DtV K H x dx∧DtV K H y dy∧min dx.depth dy.depth ≤ 60∧Q (.bl (PyData.eqv dx dy)) H
def rNeD (K:PySem.W.Frag):R2:=fun x y H Q=>∃ dx dy,DtV K H x dx∧DtV K H y dy∧min dx.depth dy.depth ≤ 60∧Q (.bl (!PyData.eqv dx dy)) H
theorem op_eqD (hu:X.A.units + 64 < cLine):OpR X (compareOp .Eq) (rEqD X.K):=by
 intro pins s σ H x y v u Q I rx ry h
 obtain ⟨dx,dy,hx,hy,hd,q⟩:=h
 obtain ⟨as,ra⟩:=hx.reads I rx
 obtain ⟨bs,rb⟩:=hy.reads I ry
 exact SeqAt.eqOverData X.prog X.w X.A X.xe s v u dx dy as bs _ ra rb hx.lay hy.lay (by omega) ⟨.bl (PyData.eqv dx dy),H,I,rfl,q⟩
theorem op_neD (hu:X.A.units + 64 < cLine):OpR X (compareOp .NotEq) (rNeD X.K):=by
 intro pins s σ H x y v u Q I rx ry h
 obtain ⟨dx,dy,hx,hy,hd,q⟩:=h
 obtain ⟨as,ra⟩:=hx.reads I rx
 obtain ⟨bs,rb⟩:=hy.reads I ry
 exact SeqAt.neOverData X.prog X.w X.A X.xe s v u dx dy as bs _ ra rb hx.lay hy.lay (by omega) ⟨.bl (!PyData.eqv dx dy),H,I,rfl,q⟩
end
end L2
namespace PySem
open AutoSeq1 (wpAny_loadPart')
theorem ji0 {prog:Program} {w:World} {A:Around} {E:Value→Shared→Prop} {s:Shared} {it l:Addr} {i:Nat} {items} {x:Value} {Q:Value→Shared→Prop} (hit:s.heap.IsTupleIter it l i)
  (hl:s.heap.IsTuple l items) (hx:items[i]?=some x)
  (hQ:∀ h',h'.IsTupleIter it l (i + 1)→Heap.SameBut it s.heap h'→Q x { s with heap:=h' }) :
  wpAny (model prog w) A (Builtin.SmallTypes.nextOf (.ref it)) Q E s:=by
 obtain ⟨o,ho,hc,hd⟩:=id hit
 obtain ⟨ol,hol,_,nl,hdl⟩:=hl
 have hty:s.TypeIs (.ref it) "tuple_iterator":=⟨o,ho,hc⟩
 unfold Builtin.SmallTypes.nextOf
 refine Za (wpAny_callSpecial?_slot (name:=Str.ofString "__next__") hty PyProof.Rows.slot_tupleiter_next
  (wpAny_call_entry PyProof.Rows.slot_tupleiter_next hty PyProof.Rows.entry_tupleiter_next ?_ (PyProof.Rows.args_tupleiter_next _)))
 show wpAny _ _ (field (.ref it) 0 >>= _) _ _ s
 refine Za (wpAny_field ho hd (x:=.ref l) rfl ?_)
 show wpAny _ _ (if (Value.ref l == Value.none)=true then _ else _) _ _ s
 rw [if_neg (show ¬ ((Value.ref l == Value.none)=true) from Zv)]
 show wpAny _ _ (field (.ref it) 1 >>= _) _ _ s
 refine Za (wpAny_field ho hd (x:=.int i 0) rfl ?_)
 show wpAny _ _ (seqItems? (.ref l) >>= _) _ _ s
 refine Za (wpAny_seqItems hol hdl ?_)
 simp only [Zp,hx]
 refine Za (wpAny_setField ho hd (by simp) (wpAny_pure ⟨x,rfl,wpAny_pure (hQ _ ?_ (Heap.SameBut.update ..))⟩))
 exact ⟨_,Heap.get?_update_self _ ho (Obj.isFreed_of_fields (Obj.data_mapFields hd _)),(Obj.cls_mapFields ..).trans hc,by
  rw [Obj.data_mapFields hd]; simp [rawInt]⟩
theorem jj1 {prog:Program} {w:World} {A:Around} {E:Value→Shared→Prop} {s:Shared} {it l:Addr} {i:Nat} {items} {Q:Value→Shared→Prop} (hh:A.handled=none)
  (hit:s.heap.IsTupleIter it l i) (hl:s.heap.IsTuple l items) (hx:items[i]?=none)
  (hE:∀ h' e,Heap.ExtBut it s.heap h'→(∃ o,h'.get? e=some o∧o.cls=.type "StopIteration")→E (.ref e) { s with heap:=h' }) :
  wpAny (model prog w) A (Builtin.SmallTypes.nextOf (.ref it)) Q E s:=by
 obtain ⟨o,ho,hc,hd⟩:=id hit
 obtain ⟨ol,hol,_,nl,hdl⟩:=hl
 have hty:s.TypeIs (.ref it) "tuple_iterator":=⟨o,ho,hc⟩
 unfold Builtin.SmallTypes.nextOf
 refine Za (wpAny_callSpecial?_slot (name:=Str.ofString "__next__") hty PyProof.Rows.slot_tupleiter_next
  (wpAny_call_entry PyProof.Rows.slot_tupleiter_next hty PyProof.Rows.entry_tupleiter_next ?_ (PyProof.Rows.args_tupleiter_next _)))
 show wpAny _ _ (field (.ref it) 0 >>= _) _ _ s
 refine Za (wpAny_field ho hd (x:=.ref l) rfl ?_)
 show wpAny _ _ (if (Value.ref l == Value.none)=true then _ else _) _ _ s
 rw [if_neg (show ¬ ((Value.ref l == Value.none)=true) from Zv)]
 show wpAny _ _ (field (.ref it) 1 >>= _) _ _ s
 refine Za (wpAny_field ho hd (x:=.int i 0) rfl ?_)
 show wpAny _ _ (seqItems? (.ref l) >>= _) _ _ s
 refine Za (wpAny_seqItems hol hdl ?_)
 simp only [Zp,hx]
 refine Za (wpAny_rule (Za (wpAny_setField ho hd (by simp) ?_)))
 show wpAny _ _ (newExc (.type "StopIteration") [] >>= _) _ _ _
 refine Za ?_
 simp only [newExc,newTuple]
 refine Za (wpAny_newObj_type ?_ (by size_fits))
 refine Za (m:=firstArgMember _ _) (wpAny_of_eq (a:=Value.none) (by first | rfl | (simp only [firstArgMember]; rfl)) ?_)
 refine wpAny_newObj_type ?_ (by size_fits)
 simp only [raiseNew]
 refine Za (wpAny_handled ?_)
 first | rw [show A.in1.handled=none from hh] | rw [hh]
 refine Za (wpAny_pure (wpAny_throw ?_))
 exact hE _ _ (((Heap.SameBut.update ..).extBut.push _).push _) ⟨_,Heap.get?_push_size _ rfl,rfl⟩
theorem Draws.tup {prog:Program} {w:World} {A:Around} (hh:A.handled=none) (it l:Addr) (hne:l ≠ it) (items:Array Value) :
  Draws prog w A it [it,l] items.size (fun i v=>items[i]?=some v) (fun i h=>h.IsTupleIter it l i∧h.IsTuple l items) where
 live:=fun _ _ st=>let ⟨o,ho,_⟩:=st.1; ⟨o,ho⟩
 frame:=fun _ _ _ st hk=>⟨let ⟨o,e,r⟩:=st.1; ⟨o,hk it (by simp) o e,r⟩,let ⟨o,e,r⟩:=st.2; ⟨o,hk l (by simp) o e,r⟩⟩
 item:=fun i s Q E hi st hQ=>by
  refine ji0 st.1 st.2 (x:=items[i]) (by simp [hi]) fun h' hit' hs'=>?_
  obtain ⟨o,e,r⟩:=st.2
  exact hQ _ h' s.toks (by simp [hi]) ⟨hit',⟨o,hs'.extBut l o hne e,r⟩⟩ hs'
 done:=fun s Q E st hE=>jj1 hh st.1 st.2 (by simp) hE
set_option maxHeartbeats 1000000 in
theorem meets_enumerate_newT (l:Addr) (items:Array Value) (n:Nat) (dct:Option Addr) (sl:Array (Option Value)) :
  Meets (Builtin.«enumerate.__new__» ⟨[.type "enumerate",.ref l],[]⟩) (fun _ R s=>s.heap.get? l=some { cls:=.type "tuple",dict:=dct,data:=.seq items n,slots:=sl } ∧
   R (.ok (.ret (.ref (s.heap.push { cls:=.type "tuple_iterator",data:=.fields #[.ref l,.int 0 0] }).objs.size)))
    { s with heap:=(s.heap.push { cls:=.type "tuple_iterator",data:=.fields #[.ref l,.int 0 0] }).push { cls:=.type "enumerate",data:=.fields #[.none,.bool false,.ref s.heap.objs.size,rawInt 0,.none,.none] } }) :=
 .of_wp fun prog w A R s h=>by
  obtain ⟨hp,g,d,tk,os⟩:=s; obtain ⟨hl,h⟩:=h
  have hsub:=sub_enumerate
  have hL:Heap.IsTuple (Shared.heap ⟨hp,g,d,tk,os⟩) l items:=⟨_,hl,rfl,n,rfl⟩
  wp_walk using wpAny_loadPart' hl
  refine wpAny_stack_any fun st=>wpAny_pure ?_
  split
  ·rename_i c _ _ _ _ _
   cases (c == Value.type "enumerate")
   ·wp_walk using wpAny_loadPart' hl,wpAny_pyIter_tuple hL
    exact ⟨_,rfl,h⟩
   ·wp_walk using wpAny_loadPart' hl,wpAny_pyIter_tuple hL
    exact ⟨_,rfl,h⟩
  ·wp_walk using wpAny_loadPart' hl,wpAny_pyIter_tuple hL
   exact ⟨_,rfl,h⟩
theorem call_enumerate_tup {prog:Program} {w:World} {A:Around} {E:Value→Shared→Prop} {s:Shared} {l:Addr} {items:Array Value} {Q:Value→Shared→Prop} (hL:s.heap.IsTuple l items)
  (h:∀ h',IsEnum h' (s.heap.objs.size + 1) s.heap.objs.size 0 .none→h'.IsTupleIter s.heap.objs.size l 0→h'.objs.size=s.heap.objs.size + 2 →
   (∀ b o,s.heap.get? b=some o→h'.get? b=some o)→Q (.ref (s.heap.objs.size + 1)) { s with heap:=h' }) :
  wpAny (model prog w) A (call (.type "enumerate") [.ref l]) Q E s:=by
 obtain ⟨⟨c,dct,dt,sl⟩,hl,hc,n,hd⟩:=hL
 replace hc:c=.type "tuple":=hc
 replace hd:dt=.seq items n:=hd
 subst hc hd
 refine callType_new F.called_enumerate (by decide) (F.typeCall_enumerate_1 _) (F.newCall_enumerate_1 _) (fun obj=>F.args_object_init_2 obj _) F.entry_enumerate_new
  (meets_enumerate_newT l items n dct sl) ⟨hl,?_⟩
 have hz:(s.heap.push { cls:=.type "tuple_iterator",data:=.fields #[.ref l,.int 0 0] }).objs.size=s.heap.objs.size + 1:=Heap.size_push ..
 show _∧_
 rw [hz]
 have he:IsEnum ((s.heap.push { cls:=.type "tuple_iterator",data:=.fields #[.ref l,.int 0 0] }).push
   { cls:=.type "enumerate",data:=.fields #[.none,.bool false,.ref s.heap.objs.size,rawInt 0,.none,.none] }) (s.heap.objs.size + 1) s.heap.objs.size 0 .none:=by
  have:=Heap.get?_push_size (s.heap.push { cls:=.type "tuple_iterator",data:=.fields #[.ref l,.int 0 0] })
   (o:={ cls:=.type "enumerate",data:=.fields #[.none,.bool false,.ref s.heap.objs.size,rawInt 0,.none,.none] }) rfl
  rw [hz] at this; exact this
 refine ⟨⟨_,he,rfl⟩,h _ he ⟨_,Heap.get?_push_of_some _ (Heap.get?_push_size _ rfl),rfl,rfl⟩ (by rw [Heap.size_push,hz]) fun b o x=>Heap.get?_push_of_some _ (Heap.get?_push_of_some _ x)⟩
end PySem
namespace PySem
end PySem
namespace PySem
open AutoSeq1 (wpAny_loadPart')
end PySem
namespace L2
open PySem PySem.Spec PyProof.Rows
section
variable {X:Cx}
def Ite (K:PySem.W.Frag) (a:Addr):It :=
 ⟨fun i H=>∃ xs x,SqT K H a xs∧xs[i]?=some x,fun i H x H'=>∃ p,H p=none∧x=.ref p∧∀ xs,SqT K H a xs→∃ y,xs[i]?=some y∧H'=upd H p (.tup [.int i,y]),fun i H=>∃ xs,SqT K H a xs∧xs.length ≤ i⟩
theorem Inv.turnedL {pins:List (Addr × Obj)} {σ:St} {H:Hp} {s:Shared} {h':Heap} {t':Nat} {ch:List Addr} (I:Inv X pins σ H s) (k:∀ b o,b ∉ ch→s.heap.get? b=some o→h'.get? b=some o) (hf:∀ b ∈ ch,FpOk X pins H b) :
  Inv X pins σ H { s with heap:=h',toks:=t' }:=by
 have nit:∀ b u,H b=some u→b ∉ ch:=fun b u e z=>by rw [(hf b z).1] at e; cases e
 refine I.step (g':=s.gens) (d':=s.drawn) (ch:=ch) (fun b hb=>⟨(hf b hb).2.2.2.1,(hf b hb).2.1,(hf b hb).2.2.2.2.1,(hf b hb).2.2.2.2.2⟩) (fun b o _ _ hc e _=>k b o hc e) (fun b o _ _ hc e _=>⟨o.slots,k b o hc e⟩) (fun _ _ _ _ n=>n)
  (fun b o hc e=>⟨o,k b o hc e⟩) (fun _ _ e=>e) (fun _ _ _ e=>e) (fun b ps e=>⟨#[],by rw [e]; simp⟩) (fun m hm=>?_) (fun b u e=>?_) I.bare
 ·obtain ⟨o,es,ep,ho,r⟩:=hm
  exact ⟨o,es,ep,k _ o (fun z=>(hf _ z).2.1 rfl) ho,r⟩
 ·refine (I.hok b u e).stay (fun c v hc q=>k c v ?_ q) (fun _ q=>q) fun _ _ q=>q
  rcases hc with z | z
  ·rw [z]; exact nit b u e
  ·exact nit c _ z
theorem Inv.track {pins:List (Addr × Obj)} {σ:St} {H:Hp} {s:Shared} {p:Addr} {o:HO} (I:Inv X pins σ H s) (f:FpOk X pins H p) (new:ObjOk X.prog X.w (upd H p o) s.heap p o):Inv X pins σ (upd H p o) s:=by
 have ne:∀ b u,H b=some u→b ≠ p:=fun b u e z=>by rw [z,f.1] at e; cases e
 have:=I.step (g':=s.gens) (d':=s.drawn) (t':=s.toks) (h':=s.heap) (H':=upd H p o) (ch:=[p]) (fun b hb=>by
   obtain rfl:b=p:=by simpa using hb
   exact ⟨f.2.2.2.1,f.2.1,f.2.2.2.2.1,f.2.2.2.2.2⟩) (fun b o _ _ _ e _=>e) (fun b o _ _ _ e _=>⟨o.slots,e⟩)
  (fun b o hc _ n=>by rw [jc0 (fun z=>hc (by simp [z]))]; exact n) (fun b o _ e=>⟨o,e⟩) (fun b xs e=>by rw [jc0 (ne b _ e)]; exact e) (fun b o u e=>by rw [jc0 (ne b _ e)]; exact e)
  (fun b ps e=>⟨#[],by rw [jc0 (ne b _ e),e]; simp⟩) (fun m hm=>hm) (fun b u e=>by
   by_cases hb:b=p
   ·subst hb; rw [ja8] at e; cases e; exact new
   ·rw [jc0 hb] at e
    exact (I.hok b u e).stay (fun c v _ q=>q) (fun c q=>by rw [jc0 (ne c _ q)]; exact q) fun c xs q=>by rw [jc0 (ne c _ q)]; exact q) I.bare
 exact this
theorem turn_enum {P:Program} {w:World} {K:PySem.W.Frag} {elts:List Expr} {kk} {pos:Pos} (a e it:Addr) (hei:e ≠ it):Turn P w K (.Tuple elts kk pos) (Ite K a) [e,it] e (fun i h=>(∃ old,IsEnum h e it (i:Nat) old)∧h.IsTupleIter it a i) where
 mem:=by simp
 obj:=fun i h st b hb=>by
  obtain ⟨⟨old,he⟩,o,e1,c,d⟩:=st
  rcases Zf.mp hb with rfl | hb
  ·exact ⟨_,he,fun v z=>by cases z⟩
  ·obtain rfl:b=it:=by simpa using hb
   exact ⟨o,e1,fun v z=>by rw [d] at z; cases z⟩
 keep:=fun i h h' st k=>by
  obtain ⟨⟨old,he⟩,o,e1,c,d⟩:=st
  exact ⟨⟨old,k e (by simp) _ he⟩,o,k it (by simp) _ e1,c,d⟩
 item:=by
  intro X hP hw hK hc i pins s σ H E I hf st hg
  subst hP hw hK
  obtain ⟨xs,x,hq,hx⟩:=hg
  obtain ⟨its,rv,p,hz⟩:=I.tuple hq
  obtain ⟨u,hu,ru⟩:=rv.get hx
  obtain ⟨⟨old,he⟩,st2⟩:=st
  have pt:s.heap.IsTuple a its.toArray:=p
  have hae:e ≠ a:=fun z=>by
   obtain ⟨o,e1,c,_⟩:=pt
   rw [← z,he] at e1; cases e1; exact absurd (show Value.type "enumerate"=Value.type "tuple" from c) (by decide)
  have hai:a ≠ it:=fun z=>by
   obtain ⟨o,e1,c,_⟩:=pt
   obtain ⟨o',e2,c',_⟩:=id st2
   rw [z,e2] at e1; cases e1; rw [c] at c'; exact absurd c' (by decide)
  have hlt:i < its.toArray.size:=by simpa using (Ze.mp hu).1
  have D:=Draws.tup (prog:=X.prog) (w:=X.w) (A:=X.A.in1) (I.ok.hd hc) it a hai its.toArray
  refine wpAny_pyNext_enum_itemD D he ⟨st2,pt⟩ hlt hei (by simp [hei,hae]) fun y h' tk hP heo hst ht hsz hk=>?_
  have hy:y=u:=by
   have hP:its.toArray[i]?=some y:=hP
   rw [List.getElem?_toArray,hu] at hP
   exact (Option.some.inj hP).symm
  subst hy
  refine ⟨_,rfl,?_⟩
  refine wpAny_letOwnedTupleGo_enum heo fun h2 he2 hs2=>?_
  replace hs2:Heap.SameBut e h' h2:=hs2
  have hne:s.heap.objs.size ≠ e:=Nat.ne_of_gt (Heap.lt_size he)
  have I1:Inv X pins σ H { s with heap:=h2,toks:=tk + 1 }:=I.turnedL (ch:=[e,it]) (fun b o hb q=>by
   have b1:b ≠ e:=fun z=>hb (by simp [z])
   have b2:b ≠ it:=fun z=>hb (by simp [z])
   exact hs2.extBut b o b1 (hk b o b1 b2 q)) hf
  have ht2:=hs2.extBut _ _ hne ht
  have fp:FpOk X pins H s.heap.objs.size:=I.fpOk (Zd _) I.fresh
  have I2:=I1.track (p:=s.heap.objs.size) (o:=.tup [.int i,x]) fp ⟨by show 2 ≤ sizeLine; decide,[.int i tk,y],.cons ⟨tk,rfl⟩ (.cons ru .nil),⟨_,ht2,rfl,_,rfl⟩⟩
  refine ⟨.ref s.heap.objs.size,_,I2,rfl,⟨_,I.fresh,rfl,fun ys hy=>by rw [I.tuple_inj hy hq]; exact ⟨x,hx,rfl⟩⟩,⟨⟨_,he2⟩,?_⟩,fun b hb=>?_⟩
  ·obtain ⟨⟨o,e1,c,d⟩,_⟩:=hst
   exact ⟨o,hs2.extBut _ _ (Ne.symm hei) e1,c,d⟩
  ·rw [jc0]
   ·exact (hf b hb).1
   ·rcases Zf.mp hb with rfl | hb
    ·exact hne.symm
    ·obtain rfl:b=it:=by simpa using hb
     obtain ⟨o,e1,_⟩:=st2
     exact Nat.ne_of_lt (Heap.lt_size e1)
 done:=by
  intro X hP hw hK hc i pins s σ H E I hf st hg
  subst hP hw hK
  obtain ⟨xs,hq,hx⟩:=hg
  obtain ⟨its,rv,p,hz⟩:=I.tuple hq
  obtain ⟨⟨old,he⟩,st2⟩:=st
  have pt:s.heap.IsTuple a its.toArray:=p
  have hai:a ≠ it:=fun z=>by
   obtain ⟨o,e1,c,_⟩:=pt
   obtain ⟨o',e2,c',_⟩:=id st2
   rw [z,e2] at e1; cases e1; rw [c] at c'; exact absurd c' (by decide)
  have hl:=rv.length
  have hT:s.TypeIs (.ref e) "enumerate":=⟨_,he,rfl⟩
  unfold pyNext
  refine Za (wpAny_attempt (wpAny_callSpecial?_slot (name:=Str.ofString "__next__") hT F.slot_enumerate_next
   (wpAny_call_entry F.slot_enumerate_next hT F.entry_enumerate_next ?_ (F.args_enumerate_next_1 _))))
  show wpAny _ _ (field (.ref e) 2 >>= _) _ _ _
  refine Za (wpAny_field he rfl (x:=.ref it) rfl ?_)
  refine Za (jj1 (A:=X.A.in1) (I.ok.hd hc) st2 pt (by simp; omega) fun h' ex he' hx'=>?_)
  obtain ⟨o,ho,hc'⟩:=hx'
  refine Za (wpAny_isInstance (T:="StopIteration") (b:=true) ⟨o,ho,hc'⟩ isSubtype_stop ?_)
  exact wpAny_pure ⟨rfl,I.turnedL (t':=s.toks) (ch:=[it]) (fun b o hb q=>he' b o (fun z=>hb (by simp [z])) q) (fun b hb=>hf b (Zu _ hb))⟩
 self:=fun A i s Q E st h=>by
  obtain ⟨⟨old,he⟩,_⟩:=st
  exact wpAny_pyIter_enum he h
def iEnum (K:PySem.W.Frag) (ta:TA):TI:=fun σ H R=>ta σ H fun vs H1=>∃ a,vs=[.ref a]∧(∃ xs,SqT K H1 a xs)∧R (Ite K a) H1
end
def Cn (σ₀:St) (acc:Addr) (P:List V→Hp→Prop) (σ:St) (H:Hp):Prop:=(∀ v,σ.set 0 v=σ₀.set 0 v)∧∃ ys,H acc=some (.lst ys)∧P ys H
theorem Cn.of {σ₀:St} {acc:Addr} {P:List V→Hp→Prop} {w:Option V} {H:Hp} {ys:List V} (h:H acc=some (.lst ys)) (p:P ys H):Cn σ₀ acc P (σ₀.set 0 w) H:=⟨fun v=>by rw [List.set_set],ys,h,p⟩
def capOk (outer:List (Str × NameKind)) (N:List Str) (scope:Scope) (cap:List Str) (ix:List Nat):Bool :=
 (scope.kind == .function) && (scope.names.all fun x=>x.2 != .local || scope.names.lookup x.1 == some .local) && decide (scope.names.map (·.1)).Nodup &&
 (scope.names.all fun x=>x.2 != .free || outer.lookup x.1 == some .cell || outer.lookup x.1 == some .free) && (cap.all fun x=>decide ((x,NameKind.free) ∈ scope.names)) && (cap.zip ix).all (fun p=>N[p.2]? == some p.1) && cap.length == ix.length
theorem BlkOk.of {X:Cx} {scope:Scope} {own cap:List Str} {ix:List Nat} (outer:List (Str × NameKind)) (N:List Str) (hsc:X.env.scope.names=outer:=by rfl) (hN:X.N=N:=by rfl) (h:capOk outer N scope cap ix=true:=by decide +kernel):BlkOk X scope own cap ix:=by
 unfold capOk at h
 simp only [Zm,Zt,beq_iff_eq,decide_eq_true_eq,Bool.or_eq_true,bne_iff_ne,ne_eq] at h
 obtain ⟨⟨⟨⟨⟨⟨h1,h2⟩,h3⟩,h4⟩,h5⟩,h6⟩,h7⟩:=h
 refine ⟨h1,fun x hx hl=>?_,h3,fun x hx hl=>?_,fun j x e=>h5 x (Zi e),fun j x e=>?_,h7⟩
 ·rcases h2 x hx with z | z
  ·exact absurd hl z
  ·exact z
 ·show X.env.scope.names.lookup x.1=_ ∨ X.env.scope.names.lookup x.1=_
  rw [hsc]
  rcases h4 x hx with (z | z) | z
  ·exact absurd hl z
  ·exact .inl z
  ·exact .inr z
 ·have hj:j < cap.length:=(Ze.mp e).1
  have hj':j < ix.length:=by omega
  refine ⟨ix[j],Zc hj',?_⟩
  rw [hN]
  have hz:(cap.zip ix)[j]?=some (x,ix[j]):=by
   rw [List.getElem?_zip_eq_some]
   exact ⟨e,Zc hj'⟩
  exact h6 _ (Zi hz)
section
variable {K:PySem.W.Frag} {lo:Int} {n:Nat} {tt:TT} {te:TE} {acc a:Addr} {xs:List V} {σ₀:St} {H₀:Hp} {Q:VK}
theorem comp_range (Pv:Nat→List V→Hp→Prop) (h0:Pv 0 [] (upd H₀ acc (.lst [])))
  (hs:∀ (i:Nat) ys H,i < n→H acc=some (.lst ys)→Pv i ys H→tt (σ₀.set 0 (some (.int (lo + i)))) H fun b H4 =>
   if b=true then te (σ₀.set 0 (some (.int (lo + i)))) H4 fun y H5=>∃ zs,H5 acc=some (.lst zs)∧zs.length < sizeLine∧Cn σ₀ acc (Pv (i + 1)) (σ₀.set 0 (some (.int (lo + i)))) (upd H5 acc (.lst (zs ++ [y]))) else Cn σ₀ acc (Pv (i + 1)) (σ₀.set 0 (some (.int (lo + i)))) H4)
  (hd:∀ ys H,H acc=some (.lst ys)→Pv n ys H→Q (.ref acc) H):tCompN (gName 0) tt te (Itr lo n) acc σ₀ H₀ Q:=by
 refine ⟨fun i m σ H=>m=n - i∧i ≤ n∧Cn σ₀ acc (Pv i) σ H,⟨n,by simp,Nat.zero_le _,fun _=>rfl,[],ja8,h0⟩,?_⟩
 rintro i m σ H ⟨rfl,hi,hσ,ys,hy,p⟩
 by_cases hlt:i < n
 ·refine .inr ⟨hlt,Cn σ₀ acc (Pv (i + 1)),fun σ' H' c=>⟨n - (i + 1),by omega,rfl,hlt,c⟩,fun x H' y=>?_⟩
  obtain ⟨e,y⟩:=y
  subst e y
  show tt (σ.set 0 _) _ _
  rw [hσ]
  exact hs i ys _ hlt hy p
 ·have e:i=n:=by omega
  subst e
  exact .inl ⟨Zd _,hd ys H hy p⟩
theorem jh5 (Pv:Nat→List V→Hp→Prop) (h0:Pv 0 [] (upd H₀ acc (.lst []))) (hl:∀ (i:Nat) ys H,i ≤ xs.length→H acc=some (.lst ys)→Pv i ys H→SqT K H a xs)
  (hs:∀ (i:Nat) x ys H,xs[i]?=some x→H acc=some (.lst ys)→Pv i ys H→tt (σ₀.set 0 (some x)) H fun b H4 =>
   if b=true then te (σ₀.set 0 (some x)) H4 fun y H5=>∃ zs,H5 acc=some (.lst zs)∧zs.length < sizeLine∧Cn σ₀ acc (Pv (i + 1)) (σ₀.set 0 (some x)) (upd H5 acc (.lst (zs ++ [y]))) else Cn σ₀ acc (Pv (i + 1)) (σ₀.set 0 (some x)) H4)
  (hd:∀ ys H,H acc=some (.lst ys)→Pv xs.length ys H→Q (.ref acc) H):tCompN (gName 0) tt te (Itt K a) acc σ₀ H₀ Q:=by
 refine ⟨fun i m σ H=>m=xs.length - i∧i ≤ xs.length∧Cn σ₀ acc (Pv i) σ H,⟨xs.length,by simp,Nat.zero_le _,fun _=>rfl,[],ja8,h0⟩,?_⟩
 rintro i m σ H ⟨rfl,hi,hσ,ys,hy,p⟩
 have q:=hl i ys H hi hy p
 by_cases hlt:i < xs.length
 ·refine .inr ⟨⟨xs,xs[i],q,by simp [hlt]⟩,Cn σ₀ acc (Pv (i + 1)),fun σ' H' c=>⟨xs.length - (i + 1),by omega,rfl,hlt,c⟩,fun x H' y=>?_⟩
  obtain ⟨e,y⟩:=y
  subst e
  show tt (σ.set 0 _) _ _
  rw [hσ]
  exact hs i x ys _ (y xs q) hy p
 ·have e:i=xs.length:=by omega
  subst e
  exact .inl ⟨⟨xs,q,Zd _⟩,hd ys H hy p⟩
end
section
variable {X:Cx} {tg l:Expr} {tl:TE}
theorem cLen (K:PySem.W.Frag) (h:X.K=K:=by rfl):CallR X (.builtin "len") (fun xs H Q=>∃ p ys,xs=[.ref p]∧(SqL K H p ys ∨ SqT K H p ys)∧Q (.int ys.length) H):=by subst h; exact call_len_seq
end
end L2
namespace KG
open PySem L2
theorem jb8:bootBuiltins "tuple"=some (.type "tuple"):=by first | rfl | kernel_rfl | decide +kernel
theorem ji8:bootBuiltins "int"=some (.type "int"):=by first | rfl | kernel_rfl | decide +kernel
theorem boot_abs:bootBuiltins "abs"=some (.builtin "abs"):=by first | rfl | kernel_rfl | decide +kernel
theorem boot_max:bootBuiltins "max"=some (.builtin "max"):=by first | rfl | kernel_rfl | decide +kernel
theorem boot_min:bootBuiltins "min"=some (.builtin "min"):=by first | rfl | kernel_rfl | decide +kernel
theorem boot_any:bootBuiltins "any"=some (.builtin "any"):=by first | rfl | kernel_rfl | decide +kernel
theorem boot_sum:bootBuiltins "sum"=some (.builtin "sum"):=by first | rfl | kernel_rfl | decide +kernel
theorem jf7:bootBuiltins "enumerate"=some (.type "enumerate"):=by first | rfl | kernel_rfl | decide +kernel
theorem jb4:bootBuiltins "isinstance"=some (.builtin "isinstance"):=by first | rfl | kernel_rfl | decide +kernel
theorem boot_bool:bootBuiltins "bool"=some (.type "bool"):=by first | rfl | kernel_rfl | decide +kernel
def Bag (H:Hp) (b:Addr):Prop:=∃ c d:Int,H b=some (.lst [.int c,.int d])
def Kp (b:Addr) (H H':Hp):Prop:=∀ a o,a ≠ b→H a=some o→H' a=some o
theorem Kp.refl (b:Addr) (H:Hp):Kp b H H:=fun _ _ _ h=>h
theorem Kp.bag {b:Addr} {H H':Hp} {o:HO} (x:Kp b H H'):Kp b H (upd H' b o):=fun a u n h=>by rw [jc0 n]; exact x a u n h
theorem Bag.new {b p:Addr} {H:Hp} {o:HO} (h:Bag H b) (hp:H p=none):Bag (upd H p o) b:=by
 obtain ⟨c,d,e⟩:=h
 exact ⟨c,d,by rw [jc0 (jf5 e hp)]; exact e⟩
theorem Bag.ne {b p:Addr} {H:Hp} (h:Bag H b) (hp:H p=none):b ≠ p:=by
 obtain ⟨c,d,e⟩:=h
 exact jf5 e hp
def spTake:Sp:=fun vs H Q _=>∃ (b:Addr) (m:Int),vs=[.ref b,.int m]∧Bag H b∧0 < m∧m < 1073741824∧∀ (r:Int) (H':Hp),0 ≤ r→r < m→Bag H' b→Kp b H H'→Q (.int r) H'
def spBag (K:PySem.W.Frag):Sp:=fun vs H Q _=>∃ (a:Addr) (ns:List Int) (k:Int),vs=[.ref a,.int k]∧SqL K H a (ns.map V.int)∧0 ≤ k∧k < 100∧∀ (p:Addr) (c d:Int),H p=none→Q (.ref p) (upd H p (.lst [.int c,.int d]))
structure Cal (K:PySem.W.Frag) (mg:Str→Option Value) (P:Program) (w:World) (base:Heap) (x:Str) (k:Nat) (ps:List Str) (sp:Sp) (f:Addr) (fd:FuncData):Prop where
 ok:FnOk P w K mg base CX0 k f fd ps sp
 mg:mg x=some (.ref f)
 kp:PySem.W.keepIn K (.ref f)=true
 bd:Binds K fd ps []
theorem sz:sizeLine=16777216:=PySem.sizeLine_eq
theorem yes_i {σ:St} {H:Hp} {A B:Hp→Prop} (h:A H):tYes σ H (fun b H4=>if b=true then A H4 else B H4):=iteT (B:=B H) h
theorem atI_ints {ns:List Int} {r:Int} (h0:0 ≤ r) (h1:r < ns.length):atI (ns.map V.int) r=some (V.int (ns.getD r.toNat 0))∧ixN (ns.map V.int).length r=some r.toNat∧ns.getD r.toNat 0 ∈ ns:=by
 have hl:r.toNat < ns.length:=by omega
 have e:(ns.map V.int)[r.toNat]?=some (V.int (ns.getD r.toNat 0)):=by
  rw [Zg,Zc hl]
  simp [List.getD,Zc hl]
 refine ⟨?_,?_,?_⟩
 ·have:=atI_nat e
  rw [Int.toNat_of_nonneg h0] at this
  exact this
 ·unfold ixN
  rw [if_pos h0,if_pos (by rw [Zb]; exact h1)]
 ·simp [List.getD,Zc hl]
def Tm (H H':Hp):Prop:=∀ a xs,H a=some (.tup xs)→H' a=some (.tup xs)
theorem Tm.lst {p:Addr} {H:Hp} {xs:List V} {o:HO} (h:H p=some (.lst xs)):Tm H (upd H p o):=fun a ys e=>by
 rw [jc0 (fun z=>by rw [z,h] at e; cases e)]; exact e
theorem Bag.acc {b p:Addr} {H:Hp} {o:HO} (h:Bag H b) (hp:b ≠ p):Bag (upd H p o) b:=by
 obtain ⟨c,d,e⟩:=h
 exact ⟨c,d,by rw [jc0 hp]; exact e⟩
def Rws (H:Hp) (ws:List V) (M:List (List Int)):Prop:=Paired (fun v ns=>∃ a,v=V.ref a∧H a=some (.tup (List.map V.int ns))) ws M
theorem Rws.keep {H H':Hp} {ws:List V} {M:List (List Int)} (h:Rws H ws M) (t:Tm H H'):Rws H' ws M:=Paired.mapP h fun v ns ⟨a,e,q⟩=>⟨a,e,t a _ q⟩
theorem Rws.len {H:Hp} {ws:List V} {M:List (List Int)} (h:Rws H ws M):ws.length=M.length:=Paired.length h
theorem Rws.at:∀ {H:Hp} {ws:List V} {M:List (List Int)} {i:Nat} {x:V},Rws H ws M→ws[i]?=some x→∃ ns a,M[i]?=some ns∧x=V.ref a∧H a=some (.tup (List.map V.int ns))
 | _,_,_,_,_,.nil,e=>by simp at e
 | _,_,_,0,_,.cons ⟨a,h1,h2⟩ _,e=>by simp at e; subst e; exact ⟨_,a,rfl,h1,h2⟩
 | _,_,_,i + 1,_,.cons _ t,e=>by
  obtain ⟨ns,a,h1,h2,h3⟩:=Rws.at (i:=i) t (by simpa using e)
  exact ⟨ns,a,by simpa using h1,h2,h3⟩
def Stay (H H':Hp):Prop:=∀ a o,H a=some o→H' a=some o
theorem Stay.refl (H:Hp):Stay H H:=fun _ _ h=>h
theorem Stay.trans {H H1 H2:Hp} (a:Stay H H1) (b:Stay H1 H2):Stay H H2:=fun x o h=>b x o (a x o h)
theorem Stay.new {H H':Hp} {p:Addr} {o:HO} (a:Stay H H') (hp:H' p=none):Stay H (upd H' p o):=fun x u h=>by rw [jc0 (jf5 (a x u h) hp)]; exact a x u h
theorem Stay.acc {H H':Hp} {p:Addr} {o:HO} (a:Stay H H') (hp:H p=none):Stay H (upd H' p o):=fun x u h=>by rw [jc0 (jf5 h hp)]; exact a x u h
theorem Stay.tm {H H':Hp} (a:Stay H H'):Tm H H':=fun x xs h=>a x _ h
def has (M:List (List Int)) (j:Nat):Bool:=M.any fun r=>decide (0 < r.getD j 0)
def jf1 (g:Nat) (M:List (List Int)):List V:=((List.range g).filter (has M)).map fun (j:Nat)=>V.int (0 + (j:Int))
theorem filter_succ (f:Nat→Bool) (n:Nat):(List.range (n + 1)).filter f=(List.range n).filter f ++ if f n=true then [n] else []:=by
 rw [Yf,List.filter_append]
 congr 1
 by_cases h:f n=true
 ·simp [h]
 ·simp [h]
theorem wishedL_len (g:Nat) (M:List (List Int)):(jf1 g M).length ≤ g:=by
 unfold jf1
 rw [Zb]
 exact Zl (List.length_filter_le _ _) (by simp)
theorem ji4 (i:Nat) (M:List (List Int)):jf1 (i + 1) M=jf1 i M ++ if has M i=true then [V.int (0 + (i:Int))] else []:=by
 unfold jf1
 rw [filter_succ,Zh]
 split <;> simp
theorem ifs_cont {c:TT} {t1 u:TS} {D:Ends} {σ:St} {H:Hp} (G:St→Hp→Prop) (hc:∀ σ' H',G σ' H'→u D σ' H') (h:(∀ σ' H',G σ' H'→u D σ' H')→tIfS c t1 tNext { D with nx:=u D } σ H):tSeq (tIfS c t1 tNext) u D σ H:=h hc
def spLaw (K:PySem.W.Frag):Sp:=fun vs H Q _=>∃ (a:Addr) (ns:List Int),vs=[.ref a]∧SqL K H a (ns.map V.int)∧ns.length ≤ 63∧∀ H',Q (.bl true) H'
theorem SqL.stay {K:PySem.W.Frag} {H H':Hp} {a:Addr} {xs:List V} (h:SqL K H a xs) (s:Stay H H'):SqL K H' a xs:=by
 rcases h with (h | ⟨o,h⟩) | h
 ·exact .inl (.inl (s _ _ h))
 ·exact .inl (.inr ⟨o,s _ _ h⟩)
 ·exact .inr h
theorem boot_list:bootBuiltins "list"=some (.type "list"):=by first | rfl | kernel_rfl | decide +kernel
theorem jg1:bootBuiltins "all"=some (.builtin "all"):=by first | rfl | kernel_rfl | decide +kernel
mutual
inductive TrV (b:Addr) (H:Hp):V→PyData→Prop
 | non:TrV b H .non .none
 | bl (c:Bool):TrV b H (.bl c) (.bool c)
 | int (i:Int):TrV b H (.int i) (.int i)
 | str (x:Str) (ok:(PyData.str x).canLay0=true):TrV b H (.str x) (.str x)
 | lst {a:Addr} {xs:List V} {ds:List PyData}:a ≠ b→H a=some (.lst xs)→TrVs b H xs ds→TrV b H (.ref a) (.list ds)
 | tup {a:Addr} {xs:List V} {ds:List PyData}:H a=some (.tup xs)→TrVs b H xs ds→TrV b H (.ref a) (.tuple ds)
inductive TrVs (b:Addr) (H:Hp):List V→List PyData→Prop
 | nil:TrVs b H [] []
 | cons {x:V} {xs:List V} {d:PyData} {ds:List PyData}:TrV b H x d→TrVs b H xs ds→TrVs b H (x :: xs) (d :: ds)
end
mutual
theorem TrV.stay {b:Addr} {H H':Hp} (k:Stay H H'):∀ {v:V} {d:PyData},TrV b H v d→TrV b H' v d
 | _,_,.non=>.non
 | _,_,.bl c=>.bl c
 | _,_,.int i=>.int i
 | _,_,.str x ok=>.str x ok
 | _,_,.lst n h t=>.lst n (k _ _ h) (TrVs.stay k t)
 | _,_,.tup h t=>.tup (k _ _ h) (TrVs.stay k t)
theorem TrVs.stay {b:Addr} {H H':Hp} (k:Stay H H'):∀ {vs:List V} {ds:List PyData},TrVs b H vs ds→TrVs b H' vs ds
 | _,_,.nil=>.nil
 | _,_,.cons h t=>.cons (TrV.stay k h) (TrVs.stay k t)
end
mutual
theorem TrV.dt {K:PySem.W.Frag} {b:Addr} {H:Hp}:∀ {v:V} {d:PyData},TrV b H v d→DtV K H v d
 | _,_,.non=>.non
 | _,_,.bl c=>.bl c
 | _,_,.int i=>.int i
 | _,_,.str x ok=>.str x ok
 | _,_,.lst n h t=>.lst (SqL.of h) (TrVs.dt t)
 | _,_,.tup h t=>.tup (SqT.of h) (TrVs.dt t)
theorem TrVs.dt {K:PySem.W.Frag} {b:Addr} {H:Hp}:∀ {vs:List V} {ds:List PyData},TrVs b H vs ds→DtVs K H vs ds
 | _,_,.nil=>.nil
 | _,_,.cons h t=>.cons (TrV.dt h) (TrVs.dt t)
end
theorem TrVs.len {b:Addr} {H:Hp}:∀ {vs:List V} {ds:List PyData},TrVs b H vs ds→vs.length=ds.length
 | _,_,.nil=>rfl
 | _,_,.cons _ t=>congrArg (· + 1) (TrVs.len t)
theorem TrVs.at {b:Addr} {H:Hp}:∀ {vs:List V} {ds:List PyData} {i:Nat} {x:V},TrVs b H vs ds→vs[i]?=some x→∃ d,ds[i]?=some d∧TrV b H x d
 | _,_,_,_,.nil,e=>by simp at e
 | _,_,0,_,.cons h _,e=>by simp at e; subst e; exact ⟨_,rfl,h⟩
 | _,_,i + 1,_,.cons _ t,e=>by
  obtain ⟨d,h1,h2⟩:=TrVs.at (i:=i) t (by simpa using e)
  exact ⟨d,by simpa using h1,h2⟩
theorem TrVs.app {b:Addr} {H:Hp}:∀ {vs ws:List V} {ds es:List PyData},TrVs b H vs ds→TrVs b H ws es→TrVs b H (vs ++ ws) (ds ++ es)
 | _,_,_,_,.nil,s=>s
 | _,_,_,_,.cons h t,s=>.cons h (TrVs.app t s)
def ji3:PyData→Bool
 | .int _=>true
 | _=>false
def within (lo hi:Int):PyData→Bool
 | .int i=>decide (lo ≤ i) && decide (i ≤ hi)
 | _=>false
def isFrac:PyData→Bool
 | .tuple [.int t,.int u]=>decide (1 ≤ u) && decide (Int.gcd t u=1)
 | _=>false
def jd4:PyData→Bool
 | .tuple [.int t,.int u]=>decide (1 ≤ u) && decide (Int.gcd t u=1) && decide (1 ≤ t) && decide (t ≤ 1000000) && decide (u ≤ 1000000)
 | _=>false
def isRow (n:Nat) (lo hi:Int):PyData→Bool
 | .tuple ds=>decide (ds.length=n) && ds.all (within lo hi)
 | _=>false
def isMk:PyData→Bool
 | .tuple [.tuple a,.tuple p,.tuple w]=>decide (1 ≤ a.length) && decide (a.length ≤ 6) && a.all (within 1 60) && (decide (1 ≤ p.length) && decide (p.length ≤ 6) && p.all jd4) && (decide (w.length=p.length) && w.all (isRow a.length 0 100))
 | _=>false
mutual
def small:PyData→Bool
 | .int i=>decide (-1073741824 < i) && decide (i < 1073741824)
 | .list ds=>smalls ds
 | .tuple ds=>smalls ds
 | _=>true
def smalls:List PyData→Bool
 | []=>true
 | d :: ds=>small d && smalls ds
end
theorem smalls_mem:∀ {ds:List PyData} {d:PyData},smalls ds=true→d ∈ ds→small d=true
 | d :: ds,e,h,hm=>by
  have h':small d=true∧smalls ds=true:=by simpa [smalls] using h
  rcases Zf.mp hm with rfl | hm
  ·exact h'.1
  ·exact smalls_mem h'.2 hm
theorem smalls_of:∀ {ds:List PyData},(∀ d ∈ ds,small d=true)→smalls ds=true
 | [],_=>rfl
 | d :: ds,h=>by
  have:=smalls_of (ds:=ds) fun e he=>h e (Zu _ he)
  simp [smalls,this,h d Yb]
end KG
namespace HT
open PySem PySem.Spec PyProof.Rows
section
variable {prog:Program} {w:World} {A:Around} {E:Value→Shared→Prop} {s:Shared}
theorem getItem_tuple_all {t sl:Addr} {items:Array Value} {vl vu:Value} {lo hi:Option Int} {Q:Value→Shared→Prop} (ht:IsTup s.heap t items) (hs:s.heap.IsSliceOf sl vl vu .none) (pl:IsPart vl lo) (pu:IsPart vu hi)
  (hw:sIx items.size 0 lo=0∧sIx items.size items.size hi=items.size) (h:Q (.ref t) s):wpAny (model prog w) A (getItem (.ref t) (.ref sl)) Q E s:=by
 obtain ⟨os,hos,hcs,hds⟩:=id hs
 have hTs:s.TypeIs (.ref sl) "slice":=⟨os,hos,hcs⟩
 unfold getItem
 try with_reducible refine wpAny_holding ?_
 first | refine Za (wpAny_pure ?_) | skip
 refine Za (wpAny_sequenceKey ht.typeIs (by decide) ?_)
 refine Za (wpAny_callSpecial?_slot (name:=Str.ofString "__getitem__") ht.typeIs PyProof.Rows.slot_tuple_getitem
  (wpAny_call_entry PyProof.Rows.slot_tuple_getitem ht.typeIs entry_tuple_getitem ?_ (args_tuple_getitem _ _)))
 show wpAny _ _ (Builtin.Tuple.tupleItemsOf (.ref t) >>= _) _ _ s
 refine Za (tupleItemsOf_ ht ?_)
 refine Za (wpAny_typeOf hTs ?_)
 rw [if_pos (by decide)]
 refine Za (sliceApplied_gen hs pl pu ?_)
 have hyes:((((sIx items.size 0 lo:Nat):Int) == 0 && (1:Int) == 1 && (sIx items.size items.size hi - sIx items.size 0 lo) == items.size)=true):=by
  rw [hw.1,hw.2]; simp
 show wpAny _ _ (if (((sIx items.size 0 lo:Nat):Int) == 0 && (1:Int) == 1 && (sIx items.size items.size hi - sIx items.size 0 lo) == items.size)=true then _ else _) _ _ s
 rw [if_pos hyes]
 have htt:s.TypeIs (.ref t) "tuple":=ht.typeIs
 refine Za (m:=Builtin.Tuple.tupleIsExact (.ref t)) (Za (wpAny_typeOf htt (wpAny_pure ?_)))
 rw [if_pos (by decide)]
 first
  | exact wpAny_pure ⟨_,rfl,wpAny_pure h⟩
  | exact Za (wpAny_pure (wpAny_pure ⟨_,rfl,wpAny_pure h⟩))
  | (wp_walk; exact ⟨_,rfl,wpAny_pure h⟩)
  | (wp_walk; exact ⟨_,rfl,h⟩)
end
end HT
namespace L2
open PySem PySem.Spec PyProof.Rows
section
variable {X:Cx}
theorem op_isnotB:OpR X (compareOp .IsNot) (fun x y H Q=>∃ c d:Bool,x=.bl c∧y=.bl d∧Q (.bl (c != d)) H):=by
 intro pins s σ H x y v u Q I rx ry h
 obtain ⟨c,d,rfl,rfl,q⟩:=h
 cases rx
 cases ry
 exact isnot_bool (jd9 I q rfl)
def rSlA:V→Option Int→Option Int→Hp→VK→Prop:=fun x lo hi H Q=>∃ a xs,x=.ref a∧H a=some (.tup xs)∧∀ p H',KG.Stay H H'→H' p=some (.tup (cutV xs lo hi))→Q (.ref p) H'
theorem sl_tupA:SlR X rSlA:=by
 intro pins s σ H x v vl vu lo hi sl Q I rx hs pl pu h
 obtain ⟨a,xs,rfl,hx,q⟩:=h
 by_cases hw:HT.sIx xs.length 0 lo=0∧HT.sIx xs.length xs.length hi=xs.length
 ·cases rx
  obtain ⟨its,r,ht,hz⟩:=I.tuple (SqT.of hx)
  have hlen:its.toArray.size=xs.length:=by rw [Zo]; exact r.length.symm
  refine ⟨"tuple",_,PyProof.Rows.slot_tuple_getitem.lookup,ht.typeIs,?_⟩
  refine HT.getItem_tuple_all ht hs pl pu (by rw [hlen]; exact hw) ⟨.ref a,H,I,rfl,q a H (KG.Stay.refl H) ?_⟩
  have e:cutV xs lo hi=xs:=by unfold cutV; rw [hw.1,hw.2,List.drop_zero,Nat.sub_zero,Ye]
  rw [e]; exact hx
 ·exact sl_tup pins s σ H _ v vl vu lo hi sl Q I rx hs pl pu ⟨a,xs,rfl,SqT.of hx,hw,fun p hp=>q p _ ((KG.Stay.refl H).new hp) ja8⟩
def rCatA:R2:=fun x y H Q=>∃ a b xs ys,x=.ref a∧y=.ref b∧H a=some (.tup xs)∧H b=some (.tup ys)∧xs.length + ys.length ≤ sizeLine∧∀ p H',KG.Stay H H'→H' p=some (.tup (xs ++ ys))→Q (.ref p) H'
theorem op_catA:OpR X (binaryOp .Add) rCatA:=by
 intro pins s σ H x y v u Q I rx ry h
 obtain ⟨a,b,xs,ys,rfl,rfl,ha,hb,hz,q⟩:=h
 by_cases hx:xs=[]
 ·cases rx
  cases ry
  obtain ⟨its,r1,p1,_⟩:=I.tuple (SqT.of ha)
  obtain ⟨its2,r2,p2,_⟩:=I.tuple (SqT.of hb)
  obtain ⟨⟨cls,dd,data,sl⟩,ho,hc,n,hd⟩:=id p1
  obtain ⟨⟨cls2,dd2,data2,sl2⟩,ho2,hc2,n2,hd2⟩:=id p2
  simp only at hc hd hc2 hd2
  subst hc hd hc2 hd2
  have e0:its=[]:=r1.nil_iff.mpr hx
  exact concat_meets ⟨_,ho,rfl⟩ ⟨_,ho2,rfl⟩ noFill_tuple_add seq_tuple_add PySem.F.slot_tuple_add PySem.F.entry_tuple_add (PySem.F.args_tuple_add_2 _ _)
   (tuple_addW0 a b its.toArray its2.toArray n n2 dd dd2 sl sl2 (by simp [e0])) ⟨ho,ho2,⟨.ref b,H,I,rfl,q b H (KG.Stay.refl H) (by rw [hx]; exact hb)⟩⟩
 ·refine op_catT pins s σ H _ _ v u Q I rx ry ⟨a,b,xs,ys,rfl,rfl,SqT.of ha,SqT.of hb,hx,hz,fun e=>q a H (KG.Stay.refl H) (by rw [e,List.append_nil]; exact ha),fun _ p hp=>q p _ ((KG.Stay.refl H).new hp) ja8⟩
end
end L2
namespace L2
open PySem PySem.Spec PyProof.Rows KG
def litL (f:Expr→Option PyData):List Expr→Option (List PyData)
 | []=>some []
 | e :: es=>match f e,litL f es with
  | some d,some ds=>some (d :: ds)
  | _,_=>none
def litS (nm:Str→Option Int) (f:Expr→Option PyData):Expr→Option PyData
 | .Name x _=>(nm x).map .int
 | .Constant (.int i) _ _=>some (.int i)
 | .Constant (.bool c) _ _=>some (.bool c)
 | .Constant .none _ _=>some .none
 | .Constant (.str x) _ _=>if (PyData.str x).canLay0=true then some (.str x) else none
 | .UnaryOp .USub a _=>match f a with
  | some (.int i)=>some (.int (-i))
  | _=>none
 | .BinOp a .Add b _=>match f a,f b with
  | some (.int i),some (.int j)=>some (.int (i + j))
  | _,_=>none
 | .BinOp a .Sub b _=>match f a,f b with
  | some (.int i),some (.int j)=>some (.int (i - j))
  | _,_=>none
 | .BinOp a .Pow b _=>match f a,f b with
  | some (.int i),some (.int j)=>if 0 ≤ j∧j ≤ 1000000∧i.natAbs < 2 ^ 64 then some (.int (i ^ j.toNat)) else none
  | _,_=>none
 | .Tuple es _ _=>if es.length ≤ 1000 then (litL f es).map .tuple else none
 | .List es _=>if es.length ≤ 1000 then (litL f es).map .list else none
 | _=>none
def lit (nm:Str→Option Int):Nat→Expr→Option PyData
 | 0=>fun _=>none
 | n + 1=>litS nm (lit nm n)
theorem lit_star {X:Cx} {nm:Str→Option Int} {n:Nat} {e:Expr} {es:List Expr} {d:PyData} (h:lit nm n e=some d):starEach (e :: es) X.env=(false,eval e X.env) :: starEach es X.env:=by
 cases n with
 | zero=>cases h
 | succ n =>
  have h:litS nm (lit nm n) e=some d:=h
  cases e <;> first | rfl | (unfold litS at h; cases h)
theorem litL_len {f:Expr→Option PyData}:∀ {es:List Expr} {ds:List PyData},litL f es=some ds→ds.length=es.length
 | [],ds,h=>by simp [litL] at h; subst h; rfl
 | e :: es,ds,h=>by
  unfold litL at h
  split at h
  ·next d ds' h1 h2=>cases h; simp [litL_len h2]
  ·cases h
end L2
namespace EX
open PySem PySem.Spec PyProof.Rows
def excO (C t:Addr) (hd:Value):Obj:={ cls:=.ref C,data:=.fields #[.ref t,hd,.none,.none,.bool false,.none] }
def Hd (B:Heap) (e:Addr) (h:Heap) (v:Value):Prop:=v=.none ∨ ∃ T oT ts,v=.ref T∧B.get? T=none∧T ≠ e∧h.get? T=some oT∧oT.data=.fields ts∧3 < ts.size
structure Air (B:Heap) (l:List Env) (e C t:Addr) (h:Heap):Prop where
 st:B.StaysIn h
 ne:B.get? e=none
 ff:h.FunFrames B l
 ob:∃ hd,h.get? e=some (excO C t hd)∧Hd B e h hd
theorem Air.tail {B:Heap} {env:Env} {l:List Env} {e C t:Addr} {h:Heap} (a:Air B (env :: l) e C t h):Air B l e C t h:=⟨a.st,a.ne,a.ff.2.2,a.ob⟩
section
variable {M:Model} {A:Around} {E:Value→Shared→Prop} {s:Shared} {B:Heap} {env:Env} {outer:List Env} {L e C t:Addr} {Q:Unit→Shared→Prop}
theorem air_entry {head:Value} {hn:Bool} (a:Air B (env :: outer) e C t s.heap) (hfr:A.frames=some (env :: outer)) (hf:env.frame=some L)
  (k:∀ h',Air B (env :: outer) e C t h'→s.heap.UpToSlots h'→Q () { s with heap:=h' }) :
  wpAny M A (do let fr ← frameOf env; let pl ← entryPlaceOf L hn; let x ← EntryCells.newEntry head fr .none (rawInt L) .none pl; setField (.ref e) 1 x) Q E s:=by
 obtain ⟨hd,he,_⟩:=a.ob
 refine Za (wpAny_frameOf_fun hfr a.ff hf fun g so=>?_)
 obtain ⟨_,so2,so3⟩:=so
 have nfr:e ∉ (env :: outer).filterMap (·.frame):=fun m=>by
  obtain ⟨_,o,ho,nf⟩:=a.ff.mem m
  rw [he] at ho
  cases ho
  exact nf _ rfl
 have ge:g.get? e=some (excO C t hd):=(so2 e nfr).trans he
 have gB:B.StaysIn g:=fun b o q=>(so2 b fun m=>by rw [(a.ff.mem m).1] at q; cases q).trans (a.st b o q)
 refine Za (wpAny_entryPlaceOf fun pl ipl=>?_)
 unfold EntryCells.newEntry newFields
 refine Za (wpAny_newObj_type ?_ (ipl.sizeOk5 _ _ _ _ _))
 generalize hN:({ cls:=.type "traceback",dict:=none,data:=.fields ([head,.ref L,.none,rawInt L,.none] ++ (if pl.isEmpty then List.replicate 6 Value.none else pl)).toArray }:Obj)=oN
 have g2:(g.push oN).get? e=some (excO C t hd):=Heap.get?_push_of_some _ ge
 have gT:(g.push oN).get? g.objs.size=some oN:=Heap.get?_push_size g (by rw [← hN]; rfl)
 have Te:g.objs.size ≠ e:=Nat.ne_of_gt (Heap.lt_size ge)
 have nBT:B.get? g.objs.size=none:=by
  cases q:B.get? g.objs.size with
  | none=>rfl
  | some o=>exact absurd (Heap.lt_size (gB _ o q)) (Nat.lt_irrefl _)
 refine wpAny_setField g2 rfl (by show 1 < 6; decide) (k _ ?_ ?_)
 ·refine ⟨fun b o q=>?_,a.ne,?_,.ref g.objs.size,?_,.inr ⟨g.objs.size,oN,_,rfl,nBT,Te,?_,by rw [← hN],?_⟩⟩
  ·rw [Heap.get?_update_other _ _ (fun z=>by rw [← z,a.ne] at q; cases q)]
   exact Heap.get?_push_of_some _ (gB b o q)
  ·refine a.ff.of_keeps fun b o q nf=>?_
   obtain ⟨sl,q2⟩:=so3 b o q
   refine ⟨{ o with slots:=sl },?_,rfl⟩
   rw [Heap.get?_update_other _ _ (fun z=>by rw [← z,he] at q; cases q; exact nf _ rfl)]
   exact Heap.get?_push_of_some _ q2
  ·exact Heap.get?_update_self _ g2 rfl
  ·rw [Heap.get?_update_other _ _ Te.symm]; exact gT
  ·simp only [Zo,Zj,List.length_cons]; omega
 ·intro b o q nf
  obtain ⟨sl,q2⟩:=so3 b o q
  refine ⟨sl,?_⟩
  rw [Heap.get?_update_other _ _ (fun z=>by rw [← z,he] at q; cases q; exact nf _ rfl)]
  exact Heap.get?_push_of_some _ q2
theorem air_head {T:Addr} {oT:Obj} {ts:Array Value} {v:Value} (a:Air B outer e C t s.heap) (nT:B.get? T=none) (Te:T ≠ e) (hT:s.heap.get? T=some oT) (dT:oT.data=.fields ts) (h3:3 < ts.size)
  (k:∀ h',Air B outer e C t h'→s.heap.UpToSlots h'→Q () { s with heap:=h' }):wpAny M A (setField (.ref T) 3 v) Q E s:=by
 obtain ⟨hd,he,hh⟩:=a.ob
 refine wpAny_setField hT dT h3 ?_
 have oth:∀ b,b ≠ T→(s.heap.update T (Obj.mapFields (·.setIfInBounds 3 v))).get? b=s.heap.get? b:=fun b n=>Heap.get?_update_other _ _ (Ne.symm n)
 have isf:∀ b o,s.heap.get? b=some o→(∀ vs,o.data ≠ .fields vs)→b ≠ T:=fun b o q nf z=>by
  rw [z,hT] at q; cases q; exact nf _ dT
 refine k _ ⟨fun b o q=>?_,a.ne,a.ff.of_keeps fun b o q nf=>⟨o,(oth b (isf b o q nf)).trans q,rfl⟩,hd,(oth e Te.symm).trans he,?_⟩ fun b o q nf=>⟨o.slots,(oth b (isf b o q nf)).trans q⟩
 ·exact (oth b fun z=>by rw [z,nT] at q; cases q).trans (a.st b o q)
 ·rcases hh with z | ⟨T2,o2,t2,z,n2,e2,h2,d2,s2⟩
  ·exact .inl z
  ·by_cases w:T2=T
   ·subst w
    rw [hT] at h2; cases h2
    have:=Obj.data_mapFields dT (·.setIfInBounds 3 v)
    exact .inr ⟨T2,_,_,z,n2,e2,Heap.get?_update_self _ hT (Obj.isFreed_of_fields this),this,by simpa using h3⟩
   ·exact .inr ⟨T2,o2,t2,z,n2,e2,(oth T2 w).trans h2,d2,s2⟩
theorem air_note (a:Air B (env :: outer) e C t s.heap) (hfr:A.frames=some (env :: outer)) (hf:env.frame=some L)
  (k:∀ h',Air B (env :: outer) e C t h'→s.heap.UpToSlots h'→Q () { s with heap:=h' }):wpAny M A (noteFrame (.ref e) env) Q E s:=by
 obtain ⟨hd,he,hh⟩:=a.ob
 unfold noteFrame
 simp only [hf]
 refine Za (wpAny_field he rfl (x:=hd) rfl ?_)
 rcases hh with rfl | ⟨T,oT,ts,rfl,nT,Te,hT,dT,h3⟩
 ·rw [if_neg (by decide)]
  exact air_entry a hfr hf k
 ·rw [if_pos (show (Value.ref T != Value.none)=true from by simp)]
  refine Za (wpAny_field hT dT (x:=ts[3]) (by rw [Array.getElem?_eq_getElem h3]) ?_)
  by_cases hv:(ts[3] == rawInt L)=true
  ·rw [if_pos hv]
   exact wpAny_pure (k s.heap a (Heap.UpToSlots.refl _))
  ·rw [if_neg hv]
   refine Za (air_head a nT Te hT dT h3 fun h1 a1 u1=>?_)
   exact air_entry (s:={ s with heap:=h1 }) a1 hfr hf fun h2 a2 u2=>k h2 a2 (u1.trans u2)
theorem air_land (a:Air B outer e C t s.heap) (k:∀ h',Air B outer e C t h'→s.heap.UpToSlots h'→Q () { s with heap:=h' }):wpAny M A (setFlight (.ref e) none) Q E s:=by
 obtain ⟨hd,he,hh⟩:=a.ob
 unfold setFlight
 refine Za (wpAny_field he rfl (x:=hd) rfl ?_)
 rcases hh with rfl | ⟨T,oT,ts,rfl,nT,Te,hT,dT,h3⟩
 ·rw [if_neg (by decide)]
  exact wpAny_pure (k s.heap a (Heap.UpToSlots.refl _))
 ·rw [if_pos (show (Value.ref T != Value.none)=true from by simp)]
  exact air_head a nT Te hT dT h3 k
theorem air_leave (a:Air B (env :: outer) e C t s.heap) (hfr:A.frames=some (env :: outer)) (hf:env.frame=some L)
  (k:∀ h',Air B outer e C t h'→s.heap.UpToSlots h'→Q () { s with heap:=h' }):wpAny M A (leaving env (.ref e)) Q E s:=by
 unfold leaving
 refine Za (air_note a hfr hf fun h1 a1 u1=>?_)
 exact air_land (s:={ s with heap:=h1 }) a1.tail fun h2 a2 u2=>k h2 a2 (u1.trans u2)
end
end EX
namespace L2
open PySem PySem.Spec PyProof.Rows EX
theorem obj_is {P:Program} {w:World} {H:Hp} {h:Heap} {a:Addr} {o:HO} (x:ObjOk P w H h a o):∃ u,h.get? a=some u:=by
 cases o with
 | lst xs=>obtain ⟨_,_,_,_,q⟩:=x; exact ⟨_,q⟩
 | tup xs=>obtain ⟨_,_,_,⟨_,q,_⟩⟩:=x; exact ⟨_,q⟩
 | dK kvs=>obtain ⟨_,_,_,_,_,_,_,q,_⟩:=x; exact ⟨_,q⟩
 | dT kvs=>obtain ⟨_,_,_,_,_,_,_,q,_⟩:=x; exact ⟨_,q⟩
 | set S n=>obtain ⟨_,_,_,_,q,_⟩:=x; exact ⟨_,q⟩
 | ins C dx fs=>obtain ⟨_,_,_,q,_⟩:=x; exact ⟨_,q⟩
 | own y=>exact x
 | xd fs=>obtain ⟨_,⟨_,_,_,q,_⟩,_⟩:=x; exact ⟨_,q⟩
 | rng lo hi=>obtain ⟨_,_,_,q⟩:=x; exact ⟨_,q⟩
 | frz ob u=>exact ⟨_,x.1⟩
 | tbl ps=>exact ⟨_,x⟩
 | met f y=>exact ⟨_,x⟩
 | ext φ=>exact x.2.1
theorem ff_base {h base B:Heap}:∀ {l:List Env},(∀ b ∈ frs l,B.get? b=none)→h.FunFrames base l→h.FunFrames B l
 | [],_,_=>trivial
 | env :: r,hB,⟨hk,⟨L,o,hf,hn,ho,hd⟩,hr⟩ =>
  ⟨hk,⟨L,o,hf,hB L (by unfold frs; rw [List.filterMap_cons,hf]; exact Yb),ho,hd⟩,
   ff_base (fun b hb=>hB b (by unfold frs; rw [List.filterMap_cons,hf]; exact Zu _ hb)) hr⟩
def CXF (P:Program) (w:World):CXT:=fun outer H s E e s'=>∃ (a C t:Addr) (B:Heap) (H':Hp),e=.ref a∧s'.os=s.os∧AllBare s'.gens∧Un (frs outer) [] H H' s.heap s'.heap∧HOk P w H' B ∧
 (∀ b o,s.heap.get? b=some o→b ∉ frs outer→(∃ o',B.get? b=some o')∧(H b=none→B.get? b=some o))∧Air B outer a C t s'.heap∧s.heap.get? a=none∧H' a=none∧E (.ref C) none H'
section
variable {P:Program} {w:World} {K:PySem.W.Frag} {mg:Str→Option Value} {base:Heap} {N:List Str} {qual:Str} {scope:Scope} {f:Addr} {cd:Value} {A:Around} {outer:List Env} {s₀:Shared} {H₀:Hp} {E:XK}
theorem fly_out {pins:List (Addr × Obj)} {σ:St} {H H':Hp} {s s':Shared} {a C t:Addr} {B h':Heap} (I:Inv (cxOf (CXF P w) P w K mg base N qual scope f cd A outer s₀ H₀ E) pins σ H s)
  (os:s'.os=s.os) (bare:AllBare s'.gens) (un:Un (envOfC qual scope s₀.heap.objs.size f cd :: outer |> frs) [] H H' s.heap s'.heap) (hok:HOk P w H' B)
  (third:∀ b o,s.heap.get? b=some o→b ∉ frs (envOfC qual scope s₀.heap.objs.size f cd :: outer)→(∃ o',B.get? b=some o')∧(H b=none→B.get? b=some o))
  (ff:s'.heap.FunFrames B (envOfC qual scope s₀.heap.objs.size f cd :: outer)) (air:Air B outer a C t h') (up:s'.heap.UpToSlots h') (na:s.heap.get? a=none) (na':H' a=none) (he:E (.ref C) none H'):CXF P w outer H₀ s₀ E (.ref a) { s' with heap:=h' }:=by
 have stk:∀ b o,s₀.heap.get? b=some o→b ∉ frs outer→b ∉ frs (envOfC qual scope s₀.heap.objs.size f cd :: outer):=fun b o q n m=>by
  rcases Zf.mp (I.stkSub b m) with z | z
  ·have:b < s₀.heap.objs.size:=Heap.lt_size q
   have h2:s₀.heap.objs.size ≤ b:=by rw [z]; exact I.ok.above
   exact absurd (Yd this h2) (Nat.lt_irrefl _)
  ·exact n z
 have infr:∀ b,b ∈ frs outer→b ∈ frs (envOfC qual scope s₀.heap.objs.size f cd :: outer):=fun b m=>by
  unfold frs; rw [List.filterMap_cons]; exact Zu _ m
 have ub:Un (frs outer) [] H₀ H s₀.heap s.heap:=I.base
 refine ⟨a,C,t,B,H',rfl,os.trans I.os,bare,⟨fun b o q n nf _=>?_,fun b o q n m _=>?_,fun b o q n _=>?_,fun b o q _=>?_,fun b xs q=>un.tups b xs (ub.tups b xs q),fun b o u q=>un.frzs b o u (ub.frzs b o u q),fun b ps q=>?_⟩,hok,fun b o q nf=>?_,air,?_,na',he⟩
 ·exact air.st b o ((third b o (ub.keep b o q n nf (by simp)) (stk b o q nf)).2 (ub.free b o q n (by simp)))
 ·obtain ⟨sl,q1⟩:=ub.slot b o q n m (by simp)
  obtain ⟨sl2,q2⟩:=un.slot b _ q1 (ub.free b o q n (by simp)) (infr b m) (by simp)
  obtain ⟨_,o3,q3,nf⟩:=ff.mem (infr b m)
  rw [q2] at q3
  cases q3
  obtain ⟨sl3,q4⟩:=up b _ q2 nf
  exact ⟨sl3,q4⟩
 ·obtain ⟨o',q1⟩:=ub.there b o q (by simp)
  exact un.free b o' q1 (ub.free b o q n (by simp)) (by simp)
 ·obtain ⟨o',q1⟩:=ub.there b o q (by simp)
  by_cases m:b ∈ frs outer
  ·obtain ⟨_,o3,q3,nf⟩:=ff.mem (infr b m)
   obtain ⟨sl3,q4⟩:=up b _ q3 nf
   exact ⟨_,q4⟩
  ·obtain ⟨o2,q2⟩:=(third b o' q1 (stk b o q m)).1
   exact ⟨o2,air.st b o2 q2⟩
 ·obtain ⟨m1,e1⟩:=ub.tbls b ps q
  obtain ⟨m2,e2⟩:=un.tbls b _ e1
  exact ⟨m1 ++ m2,by rw [e2,Array.append_assoc]⟩
 ·obtain ⟨o',q1⟩:=ub.there b o q (by simp)
  refine ⟨(third b o' q1 (stk b o q nf)).1,fun n=>?_⟩
  have q2:=ub.keep b o q n nf (by simp)
  exact (third b o q2 (stk b o q nf)).2 (ub.free b o q n (by simp))
 ·cases q:s₀.heap.get? a with
  | none=>rfl
  | some o =>
   obtain ⟨o',q1⟩:=ub.there a o q (by simp)
   rw [na] at q1; cases q1
theorem passF:Passes (CXF P w) (cxOf (CXF P w) P w K mg base N qual scope f cd A outer s₀ H₀ E) E:=by
 intro pins σ H s e s' I h
 obtain ⟨a,C,t,B,H',rfl,os,bare,un,hok,third,air,na,na',he⟩:=h
 refine air_leave (L:=s₀.heap.objs.size) air I.ok.frames rfl fun h' air' up=>?_
 exact fly_out I os bare un hok third air.ff air' up na na' he
theorem raiseF {pins:List (Addr × Obj)} {σ:St} {H:Hp} {s:Shared} {h1:Heap} {a C:Addr} {args:List Value} (I:Inv (cxOf (CXF P w) P w K mg base N qual scope f cd A outer s₀ H₀ E) pins σ H s) (mk:Heap.MadeExcOf s.heap h1 a (.ref C) args) (he:E (.ref C) none H) :
  (cxOf (CXF P w) P w K mg base N qual scope f cd A outer s₀ H₀ E).xe (.ref a) { s with heap:=h1 }:=by
 obtain ⟨t,ht,htn,_⟩:=mk.there
 have nofr:∀ b u,H b=some u→b ∉ frs (envOfC qual scope s₀.heap.objs.size f cd :: outer):=fun b u q m=>by
  have:=I.stkFree b m
  rw [q] at this; cases this
 have hB:∀ b ∈ frs (envOfC qual scope s₀.heap.objs.size f cd :: outer),(PySem.W.hideAll s.heap (frs (envOfC qual scope s₀.heap.objs.size f cd :: outer))).get? b=none:=fun b m=>PySem.W.hideAll_none _ m
 have hokB:HOk P w H (PySem.W.hideAll s.heap (frs (envOfC qual scope s₀.heap.objs.size f cd :: outer))):=fun b u q =>
  (I.hok b u q).stay (fun c v hc qc=>PySem.W.hideAll_get _ qc (by
   rcases hc with z | z
   ·rw [z]; exact nofr b u q
   ·exact nofr c _ z)) (fun _ z=>z) fun _ _ z=>z
 have na':H a=none:=by
  cases q:H a with
  | none=>rfl
  | some u =>
   obtain ⟨o,ho⟩:=obj_is (I.hok a u q)
   rw [mk.new] at ho; cases ho
 have air0:Air (PySem.W.hideAll s.heap (frs (envOfC qual scope s₀.heap.objs.size f cd :: outer))) (envOfC qual scope s₀.heap.objs.size f cd :: outer) a C t h1:=by
  refine ⟨fun b o q=>mk.keeps b o (PySem.W.of_hideAll _ q),?_,(ff_base hB I.stack).of_keeps fun b o q _=>⟨o,mk.keeps b o q,rfl⟩,.none,ht,.inl rfl⟩
  cases q:(PySem.W.hideAll s.heap (frs (envOfC qual scope s₀.heap.objs.size f cd :: outer))).get? a with
  | none=>rfl
  | some o=>have:=PySem.W.of_hideAll _ q; rw [mk.new] at this; cases this
 refine air_leave (s:={ s with heap:=h1 }) (L:=s₀.heap.objs.size) air0 I.ok.frames rfl fun h' air' up=>?_
 exact fly_out (s':={ s with heap:=h1 }) I rfl I.bare (Un.kept mk.keeps) hokB (fun b o q n=>⟨⟨o,PySem.W.hideAll_get _ q n⟩,fun _=>PySem.W.hideAll_get _ q n⟩) air0.ff air' up mk.new na' he
theorem Fun.okX {x qual:Str} {st:Stmt} {f:Addr} {fd:FuncData} {N ps:List Str} {k:Nat} {sp:Sp} (F:Fun K x qual st f fd) (S:FnScope N ps (ja3 st)) (len:∀ vs H Q E,sp vs H Q E→vs.length=ps.length)
  (hbody:∀ (cdv:Value) (A:Around) (outer:List Env) (s:Shared) (H:Hp) (vs:List V) (Q:VK) (E:XK),Room k (A.deeper (envOfC qual (ja3 st) s.heap.objs.size f cdv))→sp vs H Q E →
   ∃ t,PSs (cxOf (CXF P w) P w K mg base N qual (ja3 st) f cdv A outer s H E) (defBody st) t∧t { nx:=fun _ H'=>Q .non H',rt:=Q } (start N vs) H):FnOk P w K mg base (CXF P w) (k + 1) f fd ps sp:=by
 obtain ⟨oc,od,kV,doc,pm,an,cdv,ct,osl,rfl,lk,hcd⟩:=F.ex
 exact fn_of lk hcd S len fun A outer s H vs Q E hr hsp=>hbody cdv A outer s H vs Q E hr hsp
end
def tRaise (E:XK) (C:Addr) (t:TA):TS:=fun _ σ H=>t σ H fun vs H1=>vs.length ≤ sizeLine∧E (.ref C) none H1
theorem ps_raise {P:Program} {w:World} {K:PySem.W.Frag} {mg:Str→Option Value} {base:Heap} {N:List Str} {qual:Str} {scope:Scope} {f:Addr} {cd:Value} {A:Around} {outer:List Env} {s₀:Shared} {H₀:Hp} {E:XK}
  {x:Str} {C:Addr} {e:Expr} {es:List Expr} {t:TA} {np cpos pos:Pos} {bmB:List Value} {B newId initId:String} (FB:ExcBaseFacts B newId initId bmB) (hg:Gl (cxOf (CXF P w) P w K mg base N qual scope f cd A outer s₀ H₀ E) x) (hm:mg x=some (.ref C)) (hx:PySem.W.excIn K C bmB newId=true)
  (ha:PA (cxOf (CXF P w) P w K mg base N qual scope f cd A outer s₀ H₀ E) (e :: es) t) (hd:(x == ("__debug__" : Str))=false:=by decide)
  (he:starEach (e :: es) (envOfC qual scope s₀.heap.objs.size f cd)=(false,eval e (envOfC qual scope s₀.heap.objs.size f cd)) :: starEach es (envOfC qual scope s₀.heap.objs.size f cd):=by rfl)
  (hpl:(backTo cpos (starEach es (envOfC qual scope s₀.heap.objs.size f cd))).any (·.1)=false:=by rfl) :
  PS (cxOf (CXF P w) P w K mg base N qual scope f cd A outer s₀ H₀ E) (.Raise (some (.Call (.Name x np) (e :: es) [] cpos)) none pos) (tRaise E C t):=by
 intro pins s σ H D I h
 unfold PySem.W.excIn at hx
 split at hx
 ·rename_i dd cdd sl ho
  split at hx
  ·rename_i C' bm k0 k1 k2 k3 n k5 hmro hs
   simp only [Zm,beq_iff_eq,Bool.not_eq_true'] at hx
   obtain ⟨⟨⟨⟨⟨rfl,rfl⟩,hdel⟩,ht⟩,hok⟩,hni⟩:=hx
   obtain ⟨nm,bs,mro,ns,qn,hdd,sn,sub,ab,col,del⟩:=cdd
   dsimp only at hmro hdel hok hni
   subst hmro hdel
   have hsl:sl=#[k0,k1,k2,k3,some (.builtin n),k5]:=by
    obtain ⟨l⟩:=sl
    simp only at hs
    rw [hs]
   subst hsl
   have kb:K.In base:=I.ok.mod.kin
   have nsB:=Heap.Ns.of_isNs (PySem.W.isNs_of_in kb hok)
   refine wpAny_Raise_call_subT FB (C:=C') (nm:=nm) (q:=qn) (N:=ns) (bs:=bs) (bm:=bm) (hdct:=hdd) (sn:=sn) (sub:=sub) (ab:=ab) (col:=col) (dd:=dd) (k0:=k0) (k1:=k1) (k2:=k2) (k3:=k3) (k5:=k5) (mN:=base.nsMap ns)
    ((PySem.W.tail_of_in kb ht).hasType FB.hasBase) (I.ok.hd rfl) ?_ (PySem.W.nsMap_none_of_in kb hok hni) ?_
   ·show (backTo cpos (starEach (e :: es) (envOfC qual scope s₀.heap.objs.size f cd))).any (·.1)=false
    rw [he]
    show (false || (backTo cpos (starEach es (envOfC qual scope s₀.heap.objs.size f cd))).any (·.1))=false
    rw [hpl]; rfl
   ·refine ld_glob I hg hm ⟨rfl,?_⟩ hd
    show wpAny _ _ (evalArgs (.ref C') true (backTo cpos (starEach (e :: es) (envOfC qual scope s₀.heap.objs.size f cd))) []) _ _ s
    have ha':=ha cpos pins s σ H _ I h
    have ha2:wpAny (model P w) (A.deeper (envOfC qual scope s₀.heap.objs.size f cd)) (spliced (backTo cpos (starEach (e :: es) (envOfC qual scope s₀.heap.objs.size f cd)))) _ _ s:=ha'
    rw [he] at ha2 ⊢
    refine Calls.evalArgs_plain (thn ha2 fun us s2 ⟨vs,H2,I2,r,z,q⟩=>?_)
    exact ⟨rfl,by rw [← r.length]; exact z,I2.bk _ _ (kb _ _ ho),nsB.keeps I2.bk,(PySem.W.tail_of_in kb ht).keeps I2.bk,fun h' a mk=>raiseF I2 mk q⟩
  ·cases hx
 ·cases hx
end L2
namespace EX
open PySem PySem.Spec PyProof.Rows
section
variable {prog:Program} {w:World} {A:Around} {E:Value→Shared→Prop} {s:Shared}
end
end EX
namespace L2
open PySem PySem.Spec PyProof.Rows EX
section
variable {X:Cx} {tg:Expr}
end
section
variable {X:Cx} {scope:Scope} {own cap:List Str} {ix:List Nat} {tg iter elt:Expr} {ifs:List Expr} {wi:TI} {g:TG} {tt:TT} {te:TE} {pos:Pos}
end
end L2
namespace EX
open PySem PySem.Spec PyProof.Rows PySem.W
section
variable {prog:Program} {w:World} {A:Around} {E:Value→Shared→Prop} {s:Shared} {K:Frag} {x D t:Addr} {hd:Value}
end
end EX
namespace L2
open PySem PySem.Spec PyProof.Rows EX
section
variable {X:Cx} {e:Expr} {te:TE} {ea D t:Addr} {hd:Value}
end
end L2
namespace EX
open PySem PySem.Spec PyProof.Rows PySem.W
section
variable {prog:Program} {w:World} {A:Around} {E:Value→Shared→Prop} {s:Shared} {K:Frag} {e D C t:Addr} {hd:Value}
end
end EX
namespace L2
open PySem PySem.Spec PyProof.Rows EX
section
variable {P:Program} {w:World} {K:PySem.W.Frag} {mg:Str→Option Value} {base:Heap}
end
section
variable {X:Cx} {pins:List (Addr × Obj)} {σ:St} {H:Hp} {s:Shared}
end
end L2
namespace KG
open PySem
def Bd (k:Nat) (n:Int):Prop:=n.natAbs < 2 ^ k
theorem Bd.mono {j k:Nat} {n:Int} (h:Bd j n) (hj:j ≤ k):Bd k n:=Yd h (Nat.pow_le_pow_right (by decide) hj)
theorem Bd.mul {j k:Nat} {a b:Int} (h:Bd j a) (h':Bd k b):Bd (j + k) (a * b):=by
 unfold Bd at *
 rw [Int.natAbs_mul,Nat.pow_add]
 exact Nat.mul_lt_mul'' h h'
theorem Bd.le {k:Nat} {a b:Int} (h:Bd k b) (hl:a.natAbs ≤ b.natAbs):Bd k a:=Nat.lt_of_le_of_lt hl h
theorem Bd.log {k:Nat} {n:Int} (h:Bd k n) (hk:k ≤ 8999):n.natAbs.log2 < 9000:=by
 by_cases h0:n.natAbs=0
 ·rw [h0]; decide +kernel
 ·exact (Nat.log2_lt h0).mpr (Yd h (Nat.pow_le_pow_right (by decide) (by omega)))
def sg (t u:Int):Int:=if u < 0 then -(Int.gcd t u:Int) else (Int.gcd t u:Int)
def nx (t u:Int):Int:=t.fdiv (sg t u)
def ny (t u:Int):Int:=u.fdiv (sg t u)
theorem nf_spec {t u:Int} (h:u ≠ 0):nx t u * u=t * ny t u∧0 < ny t u∧Int.gcd (nx t u) (ny t u)=1∧sg t u ≠ 0∧(nx t u).natAbs ≤ t.natAbs∧(ny t u).natAbs ≤ u.natAbs:=by
 have g0:0 < Int.gcd t u:=Int.gcd_pos_of_ne_zero_right t h
 obtain ⟨a,ha⟩:(Int.gcd t u:Int) ∣ t:=Int.gcd_dvd_left ..
 obtain ⟨b,hb⟩:(Int.gcd t u:Int) ∣ u:=Int.gcd_dvd_right ..
 generalize hg:Int.gcd t u=g at *
 have hc:Int.gcd a b=1:=by
  have e:Int.gcd t u=Int.gcd ((g:Int) * a) ((g:Int) * b):=by rw [← ha,← hb]
  rw [hg,Int.gcd_mul_left] at e
  simp at e
  have e2:g * 1=g * Int.gcd a b:=by rw [Nat.mul_one]; exact e
  exact (Nat.eq_of_mul_eq_mul_left g0 e2).symm
 have gp:(0:Int) < g:=by omega
 have la:a.natAbs ≤ t.natAbs:=by
  rw [ha,Int.natAbs_mul]; simp
  exact Nat.le_mul_of_pos_left _ g0
 have lb:b.natAbs ≤ u.natAbs:=by
  rw [hb,Int.natAbs_mul]; simp
  exact Nat.le_mul_of_pos_left _ g0
 unfold nx ny sg
 rw [hg]
 by_cases hu:u < 0
 ·rw [if_pos hu]
  have dn:(-(g:Int)) ≠ 0:=by omega
  have e1:t.fdiv (-(g:Int))=-a:=by
   have:t=(-(g:Int)) * (-a):=by rw [Int.neg_mul_neg]; exact ha
   rw [this,Int.mul_fdiv_cancel_left _ dn]
  have e2:u.fdiv (-(g:Int))=-b:=by
   have:u=(-(g:Int)) * (-b):=by rw [Int.neg_mul_neg]; exact hb
   rw [this,Int.mul_fdiv_cancel_left _ dn]
  rw [e1,e2]
  refine ⟨?_,?_,by rw [Int.neg_gcd,Int.gcd_neg]; exact hc,dn,by rw [Int.natAbs_neg]; exact la,by rw [Int.natAbs_neg]; exact lb⟩
  ·have q:a * u=t * b:=by rw [hb,ha]; rw [Int.mul_left_comm,Int.mul_assoc]
   rw [Int.neg_mul,q,Int.mul_neg]
  ·rcases Int.lt_or_le b 0 with z | z
   ·omega
   ·have:0 ≤ (g:Int) * b:=Int.mul_nonneg (by omega) z
    omega
 ·rw [if_neg hu]
  have dn:(g:Int) ≠ 0:=by omega
  have e1:t.fdiv (g:Int)=a:=by rw [ha,Int.mul_fdiv_cancel_left _ dn]
  have e2:u.fdiv (g:Int)=b:=by rw [hb,Int.mul_fdiv_cancel_left _ dn]
  rw [e1,e2]
  refine ⟨?_,?_,hc,dn,la,lb⟩
  ·rw [hb,ha,Int.mul_left_comm,Int.mul_assoc]
  ·rcases Int.lt_or_le 0 b with z | z
   ·exact z
   ·have:(g:Int) * b ≤ 0:=Int.mul_nonpos_of_nonneg_of_nonpos (by omega) z
    omega
theorem fmod_lt {a c:Int} (h:c ≠ 0):(a.fmod c).natAbs < c.natAbs:=by
 rcases Int.lt_or_gt_of_ne h with z | z
 ·have e:(-a).fmod (-c)=-(a.fmod c):=Int.neg_fmod_neg a c
  have h1:=Int.fmod_nonneg_of_pos (-a) (show 0 < -c by omega)
  have h2:=Int.fmod_lt_of_pos (-a) (show 0 < -c by omega)
  omega
 ·have h1:=Int.fmod_nonneg_of_pos a z
  have h2:=Int.fmod_lt_of_pos a z
  omega
theorem gcd_fmod {a c:Int}:Int.gcd c (a.fmod c)=Int.gcd a c:=by
 rw [Int.gcd_comm a c,Int.fmod_def,Int.gcd_sub_mul_left_right]
end KG
namespace L2
open PySem PySem.Spec PyProof.Rows KG
section
variable {X:Cx}
theorem op_fdivBN:OpR X (binaryOp .FloorDiv) (rI (fun _ j=>j ≠ 0∧Bd 8000 j) fun i j=>.int (i.fdiv j)):=opI fun _ _ _ _ _ _ _ hc q=>floordiv_int hc.1 q (.inl (PyProof.noPylong_of_log2 (hc.2.log (by decide))))
theorem jd3:OpR X (binaryOp .Mult) (rI (fun i j=>Bd 8000 i∧Bd 8000 j) fun i j=>.int (i * j)):=opI fun i j _ _ _ _ _ hc q=>mul_int q (IntMulOk.of_bits (Zl (intBits_le hc.1) (by decide)) (Zl (intBits_le hc.2) (by decide)))
end
end L2
namespace KG
open PySem L2
theorem comp_filt {K:PySem.W.Frag} {tt:TT} {σ₀:St} {a acc b:Addr} {H1:Hp} {xs:List V} {ds:List PyData} {Q:VK} (m:PyData→Bool) (hT:TrVs b H1 xs ds) (ha:H1 a=some (.tup xs)) (hacc:H1 acc=none) (hl:xs.length ≤ 1000) (hσ:0 < σ₀.length)
  (ht:∀ (x:V) (d:PyData) (H':Hp),Stay H1 H'→TrV b H' x d→d ∈ ds→∀ Z:Bool→Hp→Prop,(∀ H5,Stay H' H5→Z (!m d) H5)→tt (σ₀.set 0 (some x)) H' Z)
  (hd:∀ ys es H',Stay H1 H'→H' acc=some (.lst ys)→TrVs b H' ys es→es.isEmpty=ds.all m→Q (.ref acc) H'):tCompN (gName 0) tt (tVar 0) (Itt K a) acc σ₀ H1 Q:=by
 have hlen:=hT.len
 refine jh5 (xs:=xs) (fun i ys H'=>Stay H1 H'∧ys.length ≤ i∧∃ es,TrVs b H1 ys es∧es=(ds.take i).filter (fun d=>!m d)) ⟨(Stay.refl H1).acc hacc,Zd _,[],.nil,rfl⟩ (fun i ys H' _ _ q=>SqT.of (q.1 _ _ ha)) ?_ ?_
 ·rintro i x ys H' hx hy ⟨st,hyl,es,tr,rfl⟩
  obtain ⟨d,hdi,hT1⟩:=hT.at hx
  have hi:i < xs.length:=(Ze.mp hx).1
  refine ht x d H' st (hT1.stay st) (Zi hdi) _ fun H5 st5=>?_
  have hes:(ds.take (i + 1)).filter (fun d=>!m d)=(ds.take i).filter (fun d=>!m d) ++ if m d=true then [] else [d]:=by
   rw [List.take_add_one,hdi,List.filter_append]
   congr 1
   cases hm:m d <;> simp [hm]
  cases hm:m d with
  | true =>
   refine iteF (Cn.of (st5 _ _ hy) ⟨st.trans st5,by omega,_,tr,?_⟩)
   rw [hes,hm]; simp
  | false =>
   refine iteT ⟨x,?_,ys,st5 _ _ hy,by rw [sz]; omega,Cn.of ja8 ⟨(st.trans st5).acc hacc,?_,_,?_,rfl⟩⟩
   ·rw [Yh hσ]
   ·rw [Zj]; show ys.length + 1 ≤ i + 1; omega
   ·rw [hes,hm]
    exact TrVs.app tr (.cons hT1 .nil)
 ·rintro ys H' hy ⟨st,hyl,es,tr,rfl⟩
  rw [hlen,Ye] at tr
  refine hd ys _ H' st hy (tr.stay st) ?_
  rw [Bool.eq_iff_iff,List.isEmpty_iff,List.filter_eq_nil_iff,Zt]
  simp
theorem eqv_nil {es:List PyData}:PyData.eqv (.list es) (.list [])=es.isEmpty:=by
 cases es <;> simp [PyData.eqv,PyData.eqvAll]
end KG
namespace L2
open PySem PySem.Spec PyProof.Rows
def gLst (K:PySem.W.Frag) (n:Nat) (t:TGs):TG:=fun v σ H Q=>∃ a xs,v=.ref a∧SqL K H a xs∧xs.length=n∧t xs σ H Q
theorem pg_lst {X:Cx} {es:List Expr} {k:Nat} {t:TGs} {n:Nat} {pos:Pos} (hc:X.calm=true) (h:PGs X es t)
  (hn:(assignEach es X.env).length=n:=by rfl) (hst:(assignEach es X.env).findIdx? (·.1)=none:=by rfl):PG X (.Tuple es k pos) (gLst X.K n t):=by
 intro pins s σ H v u Q I r hw
 obtain ⟨a,xs,e1,hq,hl,hw⟩:=hw
 subst e1
 cases r
 obtain ⟨its,rv,ht,hz⟩:=I.list hq
 rw [assign_Tuple]
 refine Za (wpAny_standAt ?_)
 unfold unpack
 rw [hn,hst]
 have hsz:n=its.toArray.size:=by rw [Zo,← rv.length,hl]
 rw [hsz]
 refine Za (wpAny_holding (PySem.W.kun_itemsOf (I.ok.hd hc) ht.isList fun h' hx=>?_))
 have I1:Inv X pins σ H { s with heap:=h' }:=I.kept (t':=s.toks) fun b o e=>hx b o (Nat.ne_of_lt (Heap.lt_size e)) e
 exact h pins _ σ H xs _ Q I1 (by simpa using rv) hw
theorem pIsi {X:Cx} {e:Expr} {te:TE} (K:PySem.W.Frag) {T:Str} {n:String} {p p2 pos:Pos} (he:PE X e te) (hg:Gl X "isinstance") (hm:X.mg "isinstance"=none) (hgT:Gl X T) (hmT:X.mg T=none) (hv:bootBuiltins T=some (.type n))
  (hb:bootBuiltins "isinstance"=some (.builtin "isinstance")) (h:X.K=K:=by rfl) (hnT:T ≠ "__name__":=by decide) (hdT:(T == ("__debug__" : Str))=false:=by decide)
  (hs:starEach [e,.Name T p2] X.env=[(false,eval e X.env),(false,eval (.Name T p2) X.env)]:=by rfl)
  (hpl:(backTo pos (starEach [.Name T p2] X.env)).any (·.1)=false:=by rfl):PE X (.Call (.Name "isinstance" p) [e,.Name T p2] [] pos) (tIsi K (.type n) te):=by
 subst h; exact pe_isiB he hg hm hgT hmT hv hb hnT hdT hs hpl
end L2
namespace L2
open PySem PySem.Spec PyProof.Rows EX
section
variable {X:Cx} {st:Stmt} {sts:List Stmt} {t u:TX}
end
end L2
namespace KM
open PySem L2 KG EX
def tyD:PyData→String
 | .none=>"NoneType"
 | .bool _=>"bool"
 | .int _=>"int"
 | .str _=>"str"
 | .list _=>"list"
 | .tuple _=>"tuple"
 | .dict _=>"dict"
def isI:PyData→Bool
 | .int _=>true
 | .bool _=>true
 | _=>false
def isB:PyData→Bool
 | .bool _=>true
 | _=>false
def isT:PyData→Bool
 | .tuple _=>true
 | _=>false
structure IsK (K:PySem.W.Frag):Prop where
 i1:PySem.W.kitOne K (.type "NoneType") (.type "int")=some false
 i2:PySem.W.kitOne K (.type "bool") (.type "int")=some true
 i3:PySem.W.kitOne K (.type "int") (.type "int")=some true
 i4:PySem.W.kitOne K (.type "str") (.type "int")=some false
 i5:PySem.W.kitOne K (.type "list") (.type "int")=some false
 i6:PySem.W.kitOne K (.type "tuple") (.type "int")=some false
 b1:PySem.W.kitOne K (.type "NoneType") (.type "bool")=some false
 b2:PySem.W.kitOne K (.type "bool") (.type "bool")=some true
 b3:PySem.W.kitOne K (.type "int") (.type "bool")=some false
 b4:PySem.W.kitOne K (.type "str") (.type "bool")=some false
 b5:PySem.W.kitOne K (.type "list") (.type "bool")=some false
 b6:PySem.W.kitOne K (.type "tuple") (.type "bool")=some false
 t1:PySem.W.kitOne K (.type "NoneType") (.type "tuple")=some false
 t2:PySem.W.kitOne K (.type "bool") (.type "tuple")=some false
 t3:PySem.W.kitOne K (.type "int") (.type "tuple")=some false
 t4:PySem.W.kitOne K (.type "str") (.type "tuple")=some false
 t5:PySem.W.kitOne K (.type "list") (.type "tuple")=some false
 t6:PySem.W.kitOne K (.type "tuple") (.type "tuple")=some true
theorem isi {K:PySem.W.Frag} (Z:IsK K) {b:Addr} {H:Hp} {v:V} {d:PyData} (h:TrV b H v d):∃ t,TyOf K H v t∧PySem.W.kitOne K t (.type "int")=some (isI d):=by
 cases h with
 | non=>exact ⟨_,.non,Z.i1⟩
 | bl c=>exact ⟨_,.bl _,Z.i2⟩
 | int c=>exact ⟨_,.int _,Z.i3⟩
 | str x ok=>exact ⟨_,.str _,Z.i4⟩
 | lst n e t=>exact ⟨_,.lst e,Z.i5⟩
 | tup e t=>exact ⟨_,.tup e,Z.i6⟩
theorem isb {K:PySem.W.Frag} (Z:IsK K) {b:Addr} {H:Hp} {v:V} {d:PyData} (h:TrV b H v d):∃ t,TyOf K H v t∧PySem.W.kitOne K t (.type "bool")=some (isB d):=by
 cases h with
 | non=>exact ⟨_,.non,Z.b1⟩
 | bl c=>exact ⟨_,.bl _,Z.b2⟩
 | int c=>exact ⟨_,.int _,Z.b3⟩
 | str x ok=>exact ⟨_,.str _,Z.b4⟩
 | lst n e t=>exact ⟨_,.lst e,Z.b5⟩
 | tup e t=>exact ⟨_,.tup e,Z.b6⟩
theorem ist {K:PySem.W.Frag} (Z:IsK K) {b:Addr} {H:Hp} {v:V} {d:PyData} (h:TrV b H v d):∃ t,TyOf K H v t∧PySem.W.kitOne K t (.type "tuple")=some (isT d):=by
 cases h with
 | non=>exact ⟨_,.non,Z.t1⟩
 | bl c=>exact ⟨_,.bl _,Z.t2⟩
 | int c=>exact ⟨_,.int _,Z.t3⟩
 | str x ok=>exact ⟨_,.str _,Z.t4⟩
 | lst n e t=>exact ⟨_,.lst e,Z.t5⟩
 | tup e t=>exact ⟨_,.tup e,Z.t6⟩
theorem jh1 {b:Addr} {H:Hp} {v:V} {d:PyData} (h:TrV b H v d):isT d=false ∨ ∃ a xs ds,v=.ref a∧d=.tuple ds∧H a=some (.tup xs)∧TrVs b H xs ds:=by
 cases h with
 | non=>exact .inl rfl
 | bl c=>exact .inl rfl
 | int c=>exact .inl rfl
 | str x ok=>exact .inl rfl
 | lst n e t=>exact .inl rfl
 | tup e t=>exact .inr ⟨_,_,_,rfl,rfl,e,t⟩
theorem intCase {b:Addr} {H:Hp} {v:V} {d:PyData} (h:TrV b H v d):ji3 d=false ∨ ∃ i,v=.int i∧d=.int i:=by
 cases h with
 | non=>exact .inl rfl
 | bl c=>exact .inl rfl
 | int c=>exact .inr ⟨_,rfl,rfl⟩
 | str x ok=>exact .inl rfl
 | lst n e t=>exact .inl rfl
 | tup e t=>exact .inl rfl
theorem isWhole_eq (d:PyData):ji3 d=(isI d && !isB d):=by cases d <;> rfl
theorem within_no {lo hi:Int} {d:PyData} (h:ji3 d=false):within lo hi d=false:=by cases d <;> first | rfl | cases h
theorem isFrac_no {d:PyData} (h:isT d=false):isFrac d=false:=by cases d <;> first | rfl | cases h
theorem isRow_no {n:Nat} {lo hi:Int} {d:PyData} (h:isT d=false):isRow n lo hi d=false:=by cases d <;> first | rfl | cases h
theorem isMk_no {d:PyData} (h:isT d=false):isMk d=false:=by cases d <;> first | rfl | cases h
def spT (m:PyData→Bool):Sp:=fun vs H Q _=>∃ (b:Addr) (v:V) (d:PyData),vs=[v]∧TrV b H v d∧∀ H',Stay H H'→Q (.bl (m d)) H'
def spTs (m:PyData→Bool):Sp:=fun vs H Q _=>∃ (b:Addr) (v:V) (d:PyData),vs=[v]∧TrV b H v d∧small d=true∧∀ H',Stay H H'→Q (.bl (m d)) H'
def spGcd:Sp:=fun vs H Q _=>∃ (t u:Int),vs=[.int t,.int u]∧0 ≤ u∧Q (.int (Int.gcd t u)) H
theorem gcd_emod {a c:Int}:Int.gcd c (a % c)=Int.gcd a c:=by
 rw [Int.gcd_comm a c,Int.emod_def,Int.gcd_sub_mul_left_right]
theorem abs_gcd {a:Int}:(if a < 0 then -a else a)=(Int.gcd a 0:Int):=by
 rw [Int.gcd_zero_right]
 split <;> omega
theorem jh6 {K:PySem.W.Frag} {te:TE} {σ₀:St} {a acc b:Addr} {H1:Hp} {xs:List V} {ds:List PyData} {Q:VK} (m:PyData→Bool) (hT:TrVs b H1 xs ds) (ha:H1 a=some (.tup xs)) (hacc:H1 acc=none) (hl:xs.length ≤ 1000)
  (ht:∀ (x:V) (d:PyData) (H':Hp),Stay H1 H'→TrV b H' x d→d ∈ ds→∀ Z:V→Hp→Prop,(∀ H5,Stay H' H5→Z (.bl (m d)) H5)→te (σ₀.set 0 (some x)) H' Z)
  (hd:∀ H',Stay H1 H'→H' acc=some (.lst (ds.map fun d=>.bl (m d)))→Q (.ref acc) H'):tCompN (gName 0) tYes te (Itt K a) acc σ₀ H1 Q:=by
 have hlen:=hT.len
 refine jh5 (xs:=xs) (fun i ys H'=>Stay H1 H'∧ys=(ds.take i).map fun d=>.bl (m d)) ⟨(Stay.refl H1).acc hacc,rfl⟩ (fun i ys H' _ _ q=>SqT.of (q.1 _ _ ha)) ?_ ?_
 ·rintro i x ys H' hx hy ⟨st,rfl⟩
  obtain ⟨d,hdi,hT1⟩:=hT.at hx
  have hi:i < xs.length:=(Ze.mp hx).1
  refine yes_i ?_
  refine ht x d H' st (hT1.stay st) (Zi hdi) _ fun H5 st5=>?_
  refine ⟨_,st5 _ _ hy,?_,Cn.of ja8 ⟨(st.trans st5).acc hacc,?_⟩⟩
  ·rw [Zb,Zz,sz]; omega
  ·rw [List.take_add_one,hdi,Zh]; rfl
 ·rintro ys H' hy ⟨st,rfl⟩
  rw [hlen,Ye] at hy
  exact hd H' st hy
theorem all_bools {ds:List PyData} {m:PyData→Bool}:(ds.map fun d=>V.bl (m d)).all tv=ds.all m:=by
 rw [Zy]; rfl
theorem plain_bools {ds:List PyData} {m:PyData→Bool}:(ds.map fun d=>V.bl (m d)).all plainB=true:=by
 rw [Zy]; simp [Function.comp_def,plainB]
def spRow (lo hi:Int):Sp:=fun vs H Q _=>∃ (b:Addr) (v:V) (d:PyData) (n:Nat),vs=[v,.int n]∧n ≤ 6∧TrV b H v d∧∀ H',Stay H H'→Q (.bl (isRow n lo hi d)) H'
def isWs (m n:Nat):PyData→Bool
 | .tuple ds=>decide (ds.length=m) && ds.all (isRow n 0 100)
 | _=>false
def isAs (m:PyData→Bool):PyData→Bool
 | .tuple ds=>decide (1 ≤ ds.length) && decide (ds.length ≤ 6) && ds.all m
 | _=>false
theorem isWs_no {m n:Nat} {d:PyData} (h:isT d=false):isWs m n d=false:=by cases d <;> first | rfl | cases h
theorem isAs_no {m:PyData→Bool} {d:PyData} (h:isT d=false):isAs m d=false:=by cases d <;> first | rfl | cases h
def spWs:Sp:=fun vs H Q _=>∃ (b:Addr) (v:V) (d:PyData) (m n:Nat),vs=[v,.int m,.int n]∧m ≤ 6∧n ≤ 6∧TrV b H v d∧∀ H',Stay H H'→Q (.bl (isWs m n d)) H'
theorem isFrac_len {ds:List PyData} (h:ds.length ≠ 2):isFrac (.tuple ds)=false:=by
 unfold isFrac
 split
 ·next heq=>injection heq with heq; subst heq; exact absurd rfl h
 ·rfl
theorem jj0 {a b:Nat} (h:a ≠ b):(!decide (V.int (a:Int)=V.int (b:Int)))=true:=by
 have:(a:Int) ≠ b:=by omega
 simp [this]
theorem vint_eq (a:Int):(!decide (V.int a=V.int a))=false:=by simp
theorem fracShape {d:PyData} (h:isFrac d=true):∃ t u:Int,d=.tuple [.int t,.int u]∧1 ≤ u∧Int.gcd t u=1:=by
 unfold isFrac at h
 split at h
 ·next t u=>simp at h; exact ⟨t,u,rfl,h.1,h.2⟩
 ·cases h
theorem purse_frac {d:PyData} (h:isFrac d=false):jd4 d=false:=by
 unfold jd4
 split
 ·next t u =>
  have h':(decide (1 ≤ u) && decide (Int.gcd t u=1))=false:=h
  rw [h']; rfl
 ·rfl
theorem isMk_len {ds:List PyData} (h:ds.length ≠ 3):isMk (.tuple ds)=false:=by
 unfold isMk
 split
 ·next heq=>injection heq with heq; subst heq; exact absurd rfl h
 ·rfl
theorem isMk_parts {x y z:PyData}:isMk (.tuple [x,y,z])=(isAs (within 1 60) x && isAs jd4 y && match y,x with | .tuple p,.tuple a=>isWs p.length a.length z | _,_=>false):=by
 cases x <;> first
  | (cases y <;> first
    | (cases z <;> first | rfl | (simp [isMk,isAs,isWs]))
    | (simp [isMk,isAs,isWs]))
  | (simp [isMk,isAs,isWs])
theorem isAs_shape {m:PyData→Bool} {d:PyData} (h:isAs m d=true):∃ ds,d=.tuple ds∧1 ≤ ds.length∧ds.length ≤ 6∧ds.all m=true:=by
 unfold isAs at h
 split at h
 ·next ds=>simp only [Zm,decide_eq_true_eq] at h; exact ⟨ds,rfl,h.1.1,h.1.2,h.2⟩
 ·cases h
def spFrac:Sp:=fun vs H Q _=>∃ (t u:Int),vs=[.int t,.int u]∧0 < u∧u < 1073741824∧∀ (p:Addr),H p=none→Q (.ref p) (upd H p (.tup [.int (t / (Int.gcd t u:Int)),.int (u / (Int.gcd t u:Int))]))
theorem gcd_pos {t u:Int} (h:0 < u):0 < (Int.gcd t u:Int)∧(Int.gcd t u:Int) ≤ u:=by
 have h1:0 < Int.gcd t u:=Int.gcd_pos_of_ne_zero_right t (by omega)
 have h2:(Int.gcd t u:Int) ∣ u:=Int.gcd_dvd_right ..
 exact ⟨by omega,Int.le_of_dvd h h2⟩
theorem purseShape {d:PyData} (h:jd4 d=true):∃ t u:Int,d=.tuple [.int t,.int u]:=by
 unfold jd4 at h
 split at h
 ·exact ⟨_,_,rfl⟩
 ·cases h
theorem jh4 {a p w:List PyData} (h:isMk (.tuple [.tuple a,.tuple p,.tuple w])=true):1 ≤ a.length∧a.length ≤ 6∧a.all (within 1 60)=true∧1 ≤ p.length∧p.length ≤ 6∧p.all jd4=true∧w.length=p.length∧w.all (isRow a.length 0 100)=true:=by
 have h':(decide (1 ≤ a.length) && decide (a.length ≤ 6) && a.all (within 1 60) && (decide (1 ≤ p.length) && decide (p.length ≤ 6) && p.all jd4) && (decide (w.length=p.length) && w.all (isRow a.length 0 100)))=true:=h
 simp only [Zm,decide_eq_true_eq] at h'
 obtain ⟨⟨⟨⟨h1,h2⟩,h3⟩,⟨h4,h5⟩,h6⟩,h7,h8⟩:=h'
 exact ⟨h1,h2,h3,h4,h5,h6,h7,h8⟩
theorem frac_low {i j:Int} (h:0 < j):(PyData.eqv (.tuple [.int i,.int j]) (.tuple [.int (i / (Int.gcd i j:Int)),.int (j / (Int.gcd i j:Int))]))=decide (Int.gcd i j=1):=by
 obtain ⟨g0,g1⟩:=gcd_pos (t:=i) h
 have gu:(Int.gcd i j:Int) ∣ j:=Int.gcd_dvd_right ..
 have gt:(Int.gcd i j:Int) ∣ i:=Int.gcd_dvd_left ..
 simp only [PyData.eqv,PyData.eqvAll,Bool.and_true]
 rw [Bool.eq_iff_iff,Zm,beq_iff_eq,beq_iff_eq,decide_eq_true_eq]
 constructor
 ·rintro ⟨_,h2⟩
  have a1:j / (Int.gcd i j:Int) * (Int.gcd i j:Int)=j:=Int.ediv_mul_cancel gu
  rw [← h2] at a1
  have:(Int.gcd i j:Int)=1:=by
   have a2:j * (Int.gcd i j:Int)=j * 1:=by rw [a1,Int.mul_one]
   exact Int.eq_of_mul_eq_mul_left (by omega) a2
  omega
 ·intro e
  rw [e]; simp
theorem smalls_t {ds:List PyData} (h:small (.tuple ds)=true):∀ d ∈ ds,small d=true:=fun d hd=>smalls_mem (ds:=ds) h hd
mutual
def ln (n:Nat):PyData→Bool
 | .list ds=>decide (ds.length ≤ n) && lns n ds
 | .tuple ds=>decide (ds.length ≤ n) && lns n ds
 | _=>true
def lns (n:Nat):List PyData→Bool
 | []=>true
 | d :: ds=>ln n d && lns n ds
end
theorem lns_iff {n:Nat}:∀ {ds:List PyData},lns n ds=true ↔ ∀ d ∈ ds,ln n d=true
 | []=>by simp [lns]
 | d :: ds=>by
  rw [lns,Zm,lns_iff (ds:=ds)]
  simp
theorem ln_t {n:Nat} {ds:List PyData}:ln n (.tuple ds)=true ↔ ds.length ≤ n∧∀ d ∈ ds,ln n d=true:=by
 rw [ln,Zm,decide_eq_true_eq,lns_iff]
theorem ln_l {n:Nat} {ds:List PyData}:ln n (.list ds)=true ↔ ds.length ≤ n∧∀ d ∈ ds,ln n d=true:=by
 rw [ln,Zm,decide_eq_true_eq,lns_iff]
mutual
theorem ln_mono {n m:Nat} (h:n ≤ m):∀ {d:PyData},ln n d=true→ln m d=true
 | .none,_=>rfl
 | .bool _,_=>rfl
 | .int _,_=>rfl
 | .str _,_=>rfl
 | .dict _,_=>rfl
 | .list ds,e=>by
  have e':ds.length ≤ n∧lns n ds=true:=by simpa [ln] using e
  have:=lns_mono h (ds:=ds) e'.2
  simp [ln,this]; omega
 | .tuple ds,e=>by
  have e':ds.length ≤ n∧lns n ds=true:=by simpa [ln] using e
  have:=lns_mono h (ds:=ds) e'.2
  simp [ln,this]; omega
theorem lns_mono {n m:Nat} (h:n ≤ m):∀ {ds:List PyData},lns n ds=true→lns m ds=true
 | [],_=>rfl
 | d :: ds,e=>by
  have e':ln n d=true∧lns n ds=true:=by simpa [lns] using e
  simp [lns,ln_mono h e'.1,lns_mono h e'.2]
end
theorem small_t {ds:List PyData} (h:∀ d ∈ ds,small d=true):small (.tuple ds)=true:=smalls_of h
theorem small_l {ds:List PyData} (h:∀ d ∈ ds,small d=true):small (.list ds)=true:=smalls_of h
def oddL:List PyData:=[.int (-1),.int 0,.int 1,.int 2,.int 61,.int 101,.int 1000001,.bool true,.bool false,.none,.str "",.str "1",.tuple [],.tuple [.int 1],.tuple [.int 0,.int 1],.tuple [.int 1,.int 1],.tuple [.int 2,.int 2],.tuple [.int 1,.int 0],
 .tuple [.int 1,.int (-1)],.tuple [.bool true,.int 1],.list [.int 1,.int 1],.list [],.tuple [.int 1,.int 2,.int 3],.tuple [.tuple [.int 1,.int 1]]]
theorem oddL_ok:∀ d ∈ oddL,isMk d=false∧small d=true∧ln 3 d=true:=by
 have h:oddL.all (fun d=>!isMk d && small d && ln 3 d)=true:=by decide +kernel
 intro d hd
 have:=Zt.mp h d hd
 simp only [Zm,Bool.not_eq_true'] at this
 exact ⟨this.1.1,this.1.2,this.2⟩
theorem Bag.stay {b:Addr} {H H':Hp} (h:Bag H b) (s:Stay H H'):Bag H' b:=by obtain ⟨c,d,e⟩:=h; exact ⟨c,d,s _ _ e⟩
def put {α : Type} (xs:List α) (i:Nat) (x:α):List α:=xs.take i ++ [x] ++ xs.drop (i + 1)
theorem put_len {α : Type} {xs:List α} {i:Nat} {x:α} (h:i < xs.length):(put xs i x).length=xs.length:=by
 unfold put
 rw [Zj,Zj,Zz,List.length_drop]
 show min i xs.length + 1 + _=_
 omega
theorem rowShape {n:Nat} {lo hi:Int} {d:PyData} (h:isRow n lo hi d=true):∃ rs,d=.tuple rs∧rs.length=n∧rs.all (within lo hi)=true:=by
 unfold isRow at h
 split at h
 ·next ds=>simp only [Zm,decide_eq_true_eq] at h; exact ⟨ds,rfl,h.1,h.2⟩
 ·cases h
theorem intsOf {b:Addr} {H:Hp}:∀ {xs:List V} {ds:List PyData},TrVs b H xs ds→ds.all (within 0 100)=true→∃ ns:List Int,xs=ns.map V.int∧∀ n ∈ ns,0 ≤ n∧n ≤ 100
 | _,_,.nil,_=>⟨[],rfl,fun n h=>nomatch h⟩
 | _,_,.cons (x:=x) (d:=d) h t,e=>by
  rw [List.all_cons,Zm] at e
  obtain ⟨ns,rfl,h2⟩:=intsOf t e.2
  rcases intCase h with hn | ⟨i,rfl,rfl⟩
  ·rw [within_no hn] at e; cases e.1
  ·have h1:(decide (0 ≤ i) && decide (i ≤ 100))=true:=e.1
   simp only [Zm,decide_eq_true_eq] at h1
   refine ⟨i :: ns,rfl,fun n hn=>?_⟩
   rcases Zf.mp hn with rfl | hn
   ·exact h1
   ·exact h2 n hn
structure Nm (mg:Str→Option Value):Prop where
 len:mg "len"=none
 range:mg "range"=none
 tuple:mg "tuple"=none
 list:mg "list"=none
 all:mg "all"=none
 any:mg "any"=none
 max:mg "max"=none
 min:mg "min"=none
 sum:mg "sum"=none
 abs:mg "abs"=none
 int:mg "int"=none
 isinstance:mg "isinstance"=none
 bool:mg "bool"=none
 enumerate:mg "enumerate"=none
 valueError:mg "ValueError"=none
structure CalX (K:PySem.W.Frag) (mg:Str→Option Value) (P:Program) (w:World) (base:Heap) (x:Str) (k:Nat) (ps:List Str) (sp:Sp) (f:Addr) (fd:FuncData):Prop where
 ok:FnOk P w K mg base (CXF P w) k f fd ps sp
 mg:mg x=some (.ref f)
 kp:PySem.W.keepIn K (.ref f)=true
 bd:Binds K fd ps []
theorem passE0 {P:Program} {w:World} {X:Cx}:Passes (CXF P w) X E0:=fun _ _ _ _ _ _ _ h=>by
 obtain ⟨_,_,_,_,_,_,_,_,_,_,_,_,_,_,z⟩:=h
 exact z.elim
end KM
namespace L2
open PySem PySem.Spec PyProof.Rows
section
variable {κ : Type} [DecidableEq κ]
def valV (kvs:List (κ × V)) (k:κ):Option V:=(kvs.find? fun kv=>decide (kv.1=k)).map (·.2)
def putK (kvs:List (κ × V)) (k:κ) (v:V):List (κ × V) :=
 if (kvs.any fun kv=>decide (kv.1=k))=true then kvs.map (fun kv=>if kv.1=k then (kv.1,v) else kv) else kvs ++ [(k,v)]
theorem valV_pos {p:κ × V} {r:List (κ × V)} {k:κ} (e:p.1=k):valV (p :: r) k=some p.2:=by simp [valV,List.find?_cons,e]
theorem valV_neg {p:κ × V} {r:List (κ × V)} {k:κ} (e:¬ p.1=k):valV (p :: r) k=valV r k:=by simp [valV,List.find?_cons,e]
theorem valV_any (k:κ):∀ kvs:List (κ × V),(kvs.any fun kv=>decide (kv.1=k))=(valV kvs k).isSome
 | []=>rfl
 | p :: r=>by
  rw [List.any_cons]
  by_cases e:p.1=k
  ·simp only [valV_pos e,decide_eq_true e,Bool.true_or,Option.isSome_some]
  ·rw [valV_neg e,decide_eq_false e,Bool.false_or]; exact valV_any k r
theorem length_putK (kvs:List (κ × V)) (k:κ) (v:V):(putK kvs k v).length ≤ kvs.length + 1:=by
 unfold putK
 split
 ·rw [Zb]; omega
 ·rw [Zj,List.length_cons,List.length_nil]; omega
theorem putK_new {kvs:List (κ × V)} {k:κ} (v:V) (h:valV kvs k=none):putK kvs k v=kvs ++ [(k,v)]:=by
 unfold putK
 rw [valV_any,h]
 exact if_neg (by decide)
theorem KV.val {kvs:List (κ × V)} {vs:List (κ × Value)} (r:KV kvs vs) (k:κ):RelO (valV kvs k) (valueAt vs k):=by
 unfold KV at r
 induction r with
 | nil=>exact True.intro
 | @cons p q ps qs h t ih =>
  obtain ⟨h1,h2⟩:=h
  by_cases e:p.1=k
  ·have e':q.1=k:=h1.symm.trans e
   have b:valueAt (q :: qs) k=some q.2:=by simp [valueAt,List.find?_cons,e']
   rw [valV_pos e,b]; exact h2
  ·have e':¬ q.1=k:=fun z=>e (h1.trans z)
   have b:valueAt (q :: qs) k=valueAt qs k:=by simp [valueAt,List.find?_cons,e']
   rw [valV_neg e,b]; exact ih
theorem KV.any {kvs:List (κ × V)} {vs:List (κ × Value)} (r:KV kvs vs) (k:κ):(kvs.any fun kv=>decide (kv.1=k))=vs.any fun kv=>decide (kv.1=k):=by
 unfold KV at r
 induction r with
 | nil=>rfl
 | cons h t ih=>rw [List.any_cons,List.any_cons,ih,h.1]
theorem KV.repl {kvs:List (κ × V)} {vs:List (κ × Value)} (r:KV kvs vs) (k:κ) {y:V} {u:Value} (ry:RelV y u) :
  KV (kvs.map fun kv=>if kv.1=k then (kv.1,y) else kv) (vs.map fun kv=>if kv.1=k then (kv.1,u) else kv):=by
 unfold KV at r ⊢
 induction r with
 | nil=>exact .nil
 | @cons p q ps qs h t ih =>
  rw [List.map_cons,List.map_cons]
  refine .cons ?_ ih
  obtain ⟨h1,h2⟩:=h
  by_cases e:p.1=k
  ·rw [if_pos e,if_pos (h1.symm.trans e)]; exact ⟨h1,ry⟩
  ·rw [if_neg e,if_neg (fun z=>e (h1.trans z))]; exact ⟨h1,h2⟩
theorem KV.put {kvs:List (κ × V)} {vs:List (κ × Value)} (r:KV kvs vs) (k:κ) {y:V} {u:Value} (ry:RelV y u):KV (putK kvs k y) (stored vs k u):=by
 unfold putK stored
 rw [r.any k]
 by_cases e:(vs.any fun kv=>decide (kv.1=k))=true
 ·rw [if_pos e,if_pos e]; exact r.repl k ry
 ·rw [if_neg e,if_neg e]; exact Paired.snoc r ⟨rfl,ry⟩
theorem KV.keys {kvs:List (κ × V)} {vs:List (κ × Value)} (r:KV kvs vs):kvs.map (·.1)=vs.map (·.1):=by
 unfold KV at r
 induction r with
 | nil=>rfl
 | cons h t ih=>rw [List.map_cons,List.map_cons,ih,h.1]
theorem KV.length {kvs:List (κ × V)} {vs:List (κ × Value)} (r:KV kvs vs):kvs.length=vs.length:=Paired.length r
end
theorem kV_is {P:Program} {w:World} {k:Key} {u:Value} (r:RelV (kV k) u):(jf4 P w).is k u=true:=by
 cases k with
 | inl i=>obtain ⟨t,e⟩:=(show ∃ t,u=Value.int i t from r); subst e; exact mixKind_int P w i t
 | inr x=>obtain ⟨t,e⟩:=(show ∃ t,u=Value.str x t from r); subst e; exact mixKind_str P w x t
theorem items_are {P:Program} {w:World}:∀ {ks:List Key} {us:List Value},Vals (ks.map kV) us→ItemsAre (jf4 P w) ks us
 | [],_,r=>by rw [List.map_nil] at r; cases r; exact .nil
 | k :: ks,_,r=>by
  rw [List.map_cons] at r
  cases r with
  | cons h t=>exact .cons (kV_is h) (items_are t)
abbrev KT (H:Hp):List (List Key × V)→List (List Key × Addr × Value)→Prop:=Paired fun p q=>p.1=q.1∧H q.2.1=some (.tup (p.1.map kV))∧RelV p.2 q.2.2
theorem KT.val {H:Hp} {kvs:List (List Key × V)} {xs:List (List Key × Addr × Value)} (r:KT H kvs xs) (k:List Key):RelO (valV kvs k) ((atKey xs k).map (·.2)):=by
 induction r with
 | nil=>exact True.intro
 | @cons p q ps qs h t ih =>
  obtain ⟨h1,_,h2⟩:=h
  by_cases e:p.1=k
  ·have e':q.1=k:=h1.symm.trans e
   have b:atKey (q :: qs) k=some q.2:=by simp [atKey,List.find?_cons,e']
   rw [valV_pos e,b]; exact h2
  ·have e':¬ q.1=k:=fun z=>e (h1.trans z)
   have b:atKey (q :: qs) k=atKey qs k:=by simp [atKey,List.find?_cons,e']
   rw [valV_neg e,b]; exact ih
section
variable {P:Program} {w:World} {H:Hp} {h:Heap} {a:Addr}
theorem rd_of {u:HO} (ok:HOk P w H h) (e:Rd H a u):ObjOk P w H h a u:=e.ok ok
theorem dk_rd {kvs:List (Key × V)} (ok:HOk P w H h) (e:Rd H a (.dK kvs)):kvs.length ≤ sizeLine∧(a == sysModules)=false∧∃ vs,KV kvs vs∧h.DictOf (jf4 P w) a vs :=
 show ObjOk P w H h a (.dK kvs) from rd_of ok e
theorem dk_of {kvs:List (Key × V)} (ok:HOk P w H h) (e:H a=some (.dK kvs)):kvs.length ≤ sizeLine∧(a == sysModules)=false∧∃ vs,KV kvs vs∧h.DictOf (jf4 P w) a vs:=dk_rd ok (.inl e)
theorem key_of {ks:List Key} (ok:HOk P w H h) (e:H a=some (.tup (ks.map kV))):(tupleKind (jf4 P w)).is h ks a:=by
 obtain ⟨_,its,r,o,h1,h2,n,h3⟩:=(show ObjOk P w H h a (.tup (ks.map kV)) from ok a _ e)
 exact ⟨o,its.toArray,n,h1,h2,h3,by simpa using items_are r⟩
theorem dt_rd {kvs:List (List Key × V)} (ok:HOk P w H h) (e:Rd H a (.dT kvs)):kvs.length ≤ sizeLine∧(a == sysModules)=false ∧
  ∃ xs,KT H kvs xs∧h.DictOfH (tupleKind (jf4 P w)) a xs:=by
 obtain ⟨z,y,xs,r,o,es,ep,h1,h2,h3,h4,h5⟩:=(show ObjOk P w H h a (.dT kvs) from rd_of ok e)
 refine ⟨z,y,xs,r,o,es,ep,h1,h2,h3,h4,fun x hx=>?_,h5⟩
 have all:∀ {l:List (List Key × V)} {m:List (List Key × Addr × Value)},KT H l m→∀ x ∈ m,(tupleKind (jf4 P w)).is h x.1 x.2.1:=by
  intro l m q
  induction q with
  | nil=>intro x hx; exact nomatch hx
  | @cons p q ps qs hq t ih =>
   intro x hx
   rcases Zf.mp hx with e | hx
   ·subst e
    exact key_of ok (by rw [← hq.1]; exact hq.2.1)
   ·exact ih x hx
 exact all r x hx
end
def DGet (H:Hp) (a:Addr) (y:V) (r:Option V):Prop :=
 (∃ kvs k,Rd H a (.dK kvs)∧y=kV k∧r=valV kvs k) ∨ ∃ kvs k b,Rd H a (.dT kvs)∧y=.ref b∧H b=some (.tup (k.map kV))∧r=valV kvs k
section
variable {X:Cx} {pins:List (Addr × Obj)} {σ:St} {H:Hp} {s:Shared} {a:Addr} {y v:V} {u r:Value} {o:Option V} {A:Around} {E:Value→Shared→Prop}
theorem Inv.big (I:Inv X pins σ H s):sysModules < s.heap.objs.size:=by
 have h:mainGlobals < s.heap.objs.size:=(I.mod.glob.keeps I.bk).lt
 exact Nat.lt_trans (by decide) h
theorem d_getItem {Q:Value→Shared→Prop} (hu:A.units + 1 < cLine) (I:Inv X pins σ H s) (g:DGet H a y (some v)) (ry:RelV y u) (h:∀ w' s',Inv X pins σ H s'→RelV v w'→Q w' s') :
  wpAny (model X.prog X.w) A (getItem (.ref a) u) Q E s:=by
 rcases g with ⟨kvs,k,e,ey,l⟩ | ⟨kvs,k,b,e,ey,eb,l⟩
 ·subst ey
  obtain ⟨z,hd,vs,rel,dd⟩:=dk_rd I.hok e
  obtain ⟨w',hw,rw'⟩:=RelO.some_of (v:=v) (o:=valueAt vs k) (by rw [l]; exact rel.val k)
  exact wpAny_getItem_of (kV_is ry) dd.mapOf hw (h w' _ (I.tok _) rw')
 ·subst ey
  cases (show u=Value.ref b from ry)
  obtain ⟨z,hd,xs,rel,dd⟩:=dt_rd I.hok e
  obtain ⟨w',hw,rw'⟩:=RelO.some_of (v:=v) (o:=(atKey xs k).map (·.2)) (by rw [l]; exact rel.val k)
  obtain ⟨p,hp,hp2⟩:=Option.map_eq_some_iff.mp hw
  refine wpAny_getItem_heap (tupleKind_room_in1 hu) (key_of I.hok eb) dd hp ?_
  rw [hp2]
  exact h w' _ (I.tok _) rw'
theorem d_write {h':Heap} {t':Nat} {ob:HO} (I:Inv X pins σ H s) (mu:Mut (H a)) (hs:Heap.SameBut a s.heap h') (he:∃ q,h'.get? a=some q) (new:ObjOk X.prog X.w (upd H a ob) h' a ob) :
  Inv X pins σ (upd H a ob) { s with heap:=h',toks:=t' } :=
 I.write (x:=a) (e:=a) mu (.inl rfl) (fun b q hb z=>(hs.2 b hb).trans z) he new
theorem dk_new {P:Program} {w:World} {H':Hp} {h':Heap} {kvs:List (Key × V)} {vs:List (Key × Value)} (z:kvs.length ≤ sizeLine) (hd:(a == sysModules)=false) (rel:KV kvs vs) (dd:h'.DictOf (jf4 P w) a vs) :
  ObjOk P w H' h' a (.dK kvs):=⟨z,hd,vs,rel,dd⟩
end
section
variable {X:Cx} {pins:List (Addr × Obj)} {σ:St} {H:Hp} {s:Shared} {a:Addr} {kvs:List (Key × V)} {k:Key} {u:Value} {A:Around} {E:Value→Shared→Prop}
end
def NoSl (i:Expr):Prop:=∀ ov iv,subscripted i false ov iv=operate [ov,iv] (getItem ov iv)
theorem subD_of {prog:Program} {w:World} {A:Around} {E:Value→Shared→Prop} {s:Shared} {env:Env} {value slice:Expr} {pos:Pos} {T id:String} {Q:Value→Shared→Prop}
  (hl:typeLookup (.type T) "__getitem__"=pure (some (.builtin id))) (hs:NoSl slice)
  (h:wpAny (model prog w) A (eval value env) (fun o s₁=>wpAny (model prog w) A (eval slice env) (fun i s₂=>s₂.TypeIs o T∧wpAny (model prog w) A (getItem o i) Q E s₂) E s₁) E s) :
  wpAny (model prog w) A (eval (.Subscript value slice pos) env) Q E s:=by
 refine Subscript_ (wpAny_mono h (fun o s₁ h₁=>wpAny_mono h₁ (fun i s₂ h₂=>?_) fun _ _ x=>x) fun _ _ x=>x)
 obtain ⟨hT,h₂⟩:=h₂
 unfold subscriptTail
 refine Za ?_
 rw [getitemInPython_of_ne hT.not_modules]
 refine Za (wpAny_specialOf hT hl ?_)
 have fin:wpAny (model prog w) A (subscripted slice false o i) (fun r s₃=>wpAny (model prog w) A (letTemporaryGo value o r >>= fun _=>pure r) Q E s₃) E s₂:=by
  rw [hs o i]
  exact wpAny_operating (wpAny_mono h₂ (fun r s₃ h₃=>Za (wpAny_letTemporaryGo (wpAny_pure h₃))) fun _ _ x=>x)
 first
  | exact wpAny_pure (Za fin)
  | exact Za (wpAny_pure (Za fin))
  | exact Za fin
theorem dict_typeIs {X:Cx} {pins:List (Addr × Obj)} {σ:St} {H:Hp} {s:Shared} {a:Addr} {y:V} {o:Option V} (I:Inv X pins σ H s) (g:DGet H a y o):s.TypeIs (.ref a) "dict":=by
 rcases g with ⟨kvs,k,e,_,_⟩ | ⟨kvs,k,b,e,_,_,_⟩
 ·obtain ⟨_,_,vs,_,dd⟩:=dk_rd I.hok e
  exact dd.typeIs
 ·obtain ⟨_,_,xs,_,dd⟩:=dt_rd I.hok e
  exact dd.typeIs
def tDGet (td ty:TE):TE:=fun σ H Q=>td σ H fun x H1=>ty σ H1 fun y H2=>∃ a v,x=.ref a∧DGet H2 a y (some v)∧Q v H2
section
variable {X:Cx} {o i e value:Expr} {pos pos' tpos:Pos} {td ty tv:TE}
theorem pe_dget (hu:X.A.units + 1 < cLine) (ho:PE X o td) (hi:PE X i ty) (hs:NoSl i):PE X (.Subscript o i pos) (tDGet td ty):=by
 intro pins s σ H Q I h
 refine subD_of PySem.F.slot_dict_getitem.lookup hs (thn (ho pins s σ H _ I h) fun u s1 ⟨x,H1,I1,rx,q1⟩=>thn (hi pins s1 σ H1 _ I1 q1) fun iv s2 ⟨y,H2,I2,ry,a,v,ex,g,q2⟩=>?_)
 subst ex
 obtain rfl:u=Value.ref a:=rx
 exact ⟨dict_typeIs I2 g,d_getItem hu I2 g ry fun w' s3 I3 rw'=>⟨v,H2,I3,rw',q2⟩⟩
end
theorem dk_empty {P:Program} {w:World} {H:Hp} (h:Heap) (hb:sysModules < h.objs.size):ObjOk P w H (h.push { cls:=.type "dict",data:=.dict #[] }) h.objs.size (.dK []) :=
 ⟨Nat.zero_le _,beq_eq_false_iff_ne.mpr (Ne.symm (Nat.ne_of_lt hb)),[],.nil,Heap.DictOf.new h⟩
section
variable {X:Cx} {pos:Pos}
end
section
variable {X:Cx} {pins:List (Addr × Obj)} {σ:St} {H:Hp} {s:Shared} {a:Addr} {y d:V} {u r:Value} {o:Option V} {A:Around} {E:Value→Shared→Prop}
end
section
variable {X:Cx} {o e f:Expr} {apos cpos:Pos} {td ty tx:TE}
end
section
variable {X:Cx} {pins:List (Addr × Obj)} {σ:St} {H:Hp} {s:Shared} {a:Addr} {kvs:List (Key × V)} {A:Around} {E:Value→Shared→Prop}
end
section
variable {X:Cx} {pins:List (Addr × Obj)} {σ:St} {H:Hp} {s:Shared} {a:Addr} {y:V} {u:Value} {A:Around} {E:Value→Shared→Prop}
end
section
variable {X:Cx}
end
section
variable {κ : Type} [DecidableEq κ]
theorem valV_in {kvs:List (κ × V)} {k:κ} {v:V} (h:valV kvs k=some v):k ∈ kvs.map (·.1):=by
 have q:(kvs.any fun kv=>decide (kv.1=k))=true:=by
  rw [valV_any,h]
  all_goals rfl
 obtain ⟨p,hp,e⟩:=List.any_eq_true.mp q
 exact Zk.mpr ⟨p,hp,of_decide_eq_true e⟩
end
def tDCompN (g:TG) (tt:TT) (tk tv:TE) (J:It) (acc:Addr) (σ₀:St) (H₀:Hp) (Q:VK):Prop :=
 ∃ W:Nat→Nat→St→Hp→Prop,(∃ m,W 0 m σ₀ (upd H₀ acc (.dK [])))∧∀ i m σ' H',W i m σ' H' →
  (J.stop i H'∧Q (.ref acc) H') ∨
  (J.go i H'∧∃ N:St→Hp→Prop,(∀ σ2 H2,N σ2 H2→∃ m',m' < m∧W (i + 1) m' σ2 H2)∧∀ x H2,J.yld i H' x H2→g x σ' H2 fun σ3 H3=>tt σ3 H3 fun b H4 =>
   if b=true then tk σ3 H4 fun kx H5=>tv σ3 H5 fun y H6=>∃ kvs k,H6 acc=some (.dK kvs)∧kx=kV k∧kvs.length < sizeLine∧N σ3 (upd H6 acc (.dK (putK kvs k y))) else N σ3 H4)
def tDComp (wi:TI) (g:TG) (tt:TT) (tk tv:TE) (own:Nat) (ix:List Nat):TE:=fun σ H Q=>wi σ H fun J H1=>∀ acc,H1 acc=none→tDCompN g tt tk tv J acc (blkσ own ix σ) H1 Q
theorem d_dictSet {X:Cx} {pins:List (Addr × Obj)} {σ:St} {H:Hp} {s:Shared} {a:Addr} {v:V} {u r:Value} {A:Around} {E:Value→Shared→Prop} {kvs:List (Key × V)} {k:Key} {Q:Unit→Shared→Prop} (I:Inv X pins σ H s)
  (e:H a=some (.dK kvs)) (ry:RelV (kV k) u) (rv:RelV v r) (l:kvs.length < sizeLine) (h:∀ s',Inv X pins σ (upd H a (.dK (putK kvs k v))) s'→Q () s'):wpAny (model X.prog X.w) A (dictSet a u r) Q E s:=by
 obtain ⟨z,hd,vs,rel,dd⟩:=dk_of I.hok e
 have z1:vs.length ≤ sizeLine:=by rw [← rel.length]; exact z
 have z2:(putK kvs k v).length ≤ sizeLine:=Zl (length_putK kvs k v) l
 refine wpAny_dictSet_pairs (hsz:=z1) (kV_is ry) dd fun h' dd' hs=>h _ ?_
 have he:∃ q,h'.get? a=some q:=let ⟨q,_,_,hq,_⟩:=dd'; ⟨q,hq⟩
 exact d_write I (by rw [e]; exact True.intro) hs he (dk_new z2 hd (rel.put k rv) dd')
theorem dcomp_loop {prog:Program} {w:World} {A:Around} {R:Result→Shared→Prop} {s:Shared} {kx vx target iter:Expr} {ifs:List Expr} {scope:Scope} {pos:Pos} {it:Value} {D:Addr} {env:Env} (I:Nat→Shared→Prop)
  (turn:∀ n s,I n s→wpAny (model prog w) A (pyNext it) (fun r s₁=>match r with
   | none=>R (.ok .next) s₁
   | some v=>wpAny (model prog w) A (letOwnedTupleGo target it v) (fun _ s₁'=>wpAny (model prog w) A (assign target env v) (fun _ s₂ =>
     wpAny (model prog w) A (forIn ifs true fun c r=>if r=true then do let ok ← isTrue c env (eval c env); pure (ForInStep.yield ok) else pure (ForInStep.yield r)) (fun ok s₃ =>
      if ok=true then wpAny (model prog w) A (eval kx env) (fun kv s₄=>wpAny (model prog w) A (eval vx env) (fun vv s₅=>wpAny (model prog w) A (dictSet D kv vv) (fun _ s₆=>∃ m,m < n∧I m s₆) (fun _ _=>False) s₅)
       (fun _ _=>False) s₄) (fun _ _=>False) s₃ else ∃ m,m < n∧I m s₃) (fun _ _=>False) s₂) (fun _ _=>False) s₁') (fun _ _=>False) s₁) (fun _ _=>False) s)
  (n:Nat) (h:I n s):codeAny (model prog w) A (.compLoop (.DictComp kx vx [⟨target,iter,ifs,0⟩] scope pos) 0 it (.ref D) env) R s:=by
 refine codeAny_loop rfl I (fun n s hI=>?_) n h
 show wpAny _ A ((compTurn (.DictComp kx vx [⟨target,iter,ifs,0⟩] scope pos) 0 it (.ref D) env).onRaise (fun x=>do noteFrame x env; theTreesLotGoes x)) _ _ s
 refine wpAny_noted ?_
 rw [compTurn_dict]
 refine Za (wpAny_standAt (Za (wpAny_mono (turn n s hI) (fun r s₁ h₁=>?_) fun _ _ h'=>h'.elim)))
 cases r with
 | none=>exact wpAny_pure h₁
 | some v =>
  refine Za (wpAny_mono h₁ (fun _ s₁' h₁'=>?_) fun _ _ h'=>h'.elim)
  refine Za (wpAny_mono h₁' (fun _ s₂ h₂=>Za (wpAny_mono h₂ (fun ok s₃ h₃=>?_) fun _ _ h'=>h'.elim)) fun _ _ h'=>h'.elim)
  cases ok with
  | false=>exact wpAny_pure ⟨rfl,h₃⟩
  | true =>
   exact Za (Za (wpAny_mono h₃ (fun kv s₄ h₄=>Za (wpAny_holding (wpAny_mono h₄ (fun vv s₅ h₅=>Za (wpAny_standAt (wpAny_holding (wpAny_mono h₅ (fun _ s₆ h₆=>wpAny_pure ⟨rfl,h₆⟩) fun _ _ z=>z.elim)))) fun _ _ z=>z.elim))) fun _ _ z=>z.elim))
section
variable {X:Cx} {scope:Scope} {own cap:List Str} {ix:List Nat} {tg iter kx vx:Expr} {ifs:List Expr} {wi:TI} {g:TG} {tt:TT} {tk tv:TE} {pos:Pos}
theorem dcomp_core {pins:List (Addr × Obj)} {σ:St} {H2:Hp} {s2:Shared} {it:Addr} {fp:List Addr} {tn:Nat→Heap→Prop} {J:It} {Q:VK} {RR:Value→Addr→Result→Shared→Prop} {E:Value→Shared→Prop}
  (B:BlkOk X scope own cap ix) (hc:X.calm=true)
  (hb:∀ C fp s H,PG (cxC X scope C (own ++ cap) fp s H) tg g∧PIfs (cxC X scope C (own ++ cap) fp s H) ifs tt∧PE (cxC X scope C (own ++ cap) fp s H) kx tk∧PE (cxC X scope C (own ++ cap) fp s H) vx tv)
  (I2:Inv X pins σ H2 s2) (T:Turn X.prog X.w X.K tg J fp it tn) (st2:tn 0 s2.heap) (f2:∀ b ∈ fp,FpOk X pins H2 b)
  (q:∀ acc,H2 acc=none→tDCompN g tt tk tv J acc (blkσ own.length ix σ) H2 Q)
  (hRR:∀ D C H' s' m,Inv X pins σ H' s'→Q (.ref D) H'→s'.heap.Ns C m→FpOk X pins H' C→RR (.ref D) C (.ok .next) s') :
  wpAny (model X.prog X.w) X.A newDict (fun acc s₃=>wpAny (model X.prog X.w) X.A (newFunctionEnv scope X.env.globals (cloF X.env scope.names []) [] X.env.qual none .none (some X.env)) (fun cenv s₄ =>
   codeAny (model X.prog X.w) X.A (.compStart (.DictComp kx vx [⟨tg,iter,ifs,0⟩] scope pos) 0 (.ref it) acc { cenv with scope:=relabel scope X.env }) (RR acc cenv.locals) s₄) E s₃) E s2:=by
 refine wpAny_newObj_type (newEnv_comp ?_)
 have I3:Inv X pins σ (upd H2 s2.heap.objs.size (.dK [])) { s2 with heap:=s2.heap.push { cls:=.type "dict",dict:=none,data:=.dict #[] } } :=
  I2.laid (a:=s2.heap.objs.size) (o:=.dK []) (h':=s2.heap.push { cls:=.type "dict",data:=.dict #[] }) (t':=s2.toks) (fun _ _ q=>Heap.get?_push_of_some _ q) (Zd _) (dk_empty s2.heap I2.big)
 obtain ⟨W,⟨m0,w0⟩,turn⟩:=q s2.heap.objs.size I2.fresh
 generalize hD:s2.heap.objs.size=D at I3 w0 turn ⊢
 have hlt:∀ b ∈ fp,b < D:=fun b hbm=>by
  obtain ⟨o,e,_⟩:=T.obj 0 _ st2 b hbm
  rw [← hD]; exact Heap.lt_size e
 generalize hs3:({ s2 with heap:=s2.heap.push { cls:=.type "dict",dict:=none,data:=.dict #[] } }:Shared)=s3 at I3 ⊢
 have keep3:∀ b o,s2.heap.get? b=some o→s3.heap.get? b=some o:=fun b o e=>by rw [← hs3]; exact Heap.get?_push_of_some _ e
 have f3:∀ b ∈ fp,FpOk X pins (upd H2 D (.dK [])) b:=fun b hbm=>⟨by rw [jc0 (Nat.ne_of_lt (hlt b hbm))]; exact (f2 b hbm).1,(f2 b hbm).2⟩
 have o3:∀ b ∈ fp,∃ o,s3.heap.get? b=some o:=fun b hbm=>let ⟨o,e,_⟩:=T.obj 0 _ st2 b hbm; ⟨o,keep3 b o e⟩
 have I4:=I3.block B f3 o3
 have st4:tn 0 (pushCells (s3.heap.push { cls:=.type "dict",data:=.dict #[] }) scope.names):=T.keep 0 _ _ st2 fun b _ o e=>pushCells_keeps _ _ b o (Heap.get?_push_of_some _ (keep3 b o e))
 obtain ⟨hg,hif,hek,hev⟩:=hb s3.heap.objs.size fp s3 (upd H2 D (.dK []))
 generalize hX':cxC X scope s3.heap.objs.size (own ++ cap) fp s3 (upd H2 D (.dK []))=X' at I4 hg hif hek hev
 have eP:X'.prog=X.prog:=by rw [← hX']; rfl
 have eW:X'.w=X.w:=by rw [← hX']; rfl
 have eK:X'.K=X.K:=by rw [← hX']; rfl
 have eA:X'.A=X.A:=by rw [← hX']; rfl
 have eE:X'.env=compE scope s3.heap.objs.size X.env:=by rw [← hX']; rfl
 have ex:X'.xe=fun _ _=>False:=by rw [← hX']; rfl
 have hc':X'.calm=true:=by rw [← hX']; exact hc
 have stat:∀ {H':Hp},(∀ b ∈ fp,H' b=none)→∀ b ∈ fp,FpOk X' [] H' b:=fun hn b hbm=>by
  subst hX'
  exact ⟨hn b hbm,(I4.ok.exf b hbm).1,I4.ok.exfs b hbm,.inl hbm,(I4.ok.exf b hbm).2,fun p hp=>absurd (show p ∈ ([]:List (Addr × Obj)) from hp) (by simp)⟩
 have loop:∀ s4:Shared,s4={ s3 with heap:=pushCells (s3.heap.push { cls:=.type "dict",data:=.dict #[] }) scope.names } →
   codeAny (model X.prog X.w) X.A (.compLoop (.DictComp kx vx [⟨tg,iter,ifs,0⟩] scope pos) 0 (.ref it) (.ref D) (compE scope s3.heap.objs.size X.env)) (RR (.ref D) s3.heap.objs.size) s4:=by
  rintro s4 rfl
  refine dcomp_loop (fun n s'=>∃ i σ' H',Inv X' [] σ' H' s'∧tn i s'.heap∧(∀ b ∈ fp,H' b=none)∧W i n σ' H') ?_ m0 ⟨0,_,_,I4,st4,fun b hbm=>(f3 b hbm).1,w0⟩
  rintro n s5 ⟨i,σ5,H5,I5,st5,fr5,w5⟩
  rcases turn i n σ5 H5 w5 with ⟨stop,qn⟩ | ⟨go,N,hN,step⟩
  ·have:=T.done X' eP eW eK hc' i [] s5 σ5 H5 (fun _ _=>False) I5 (stat fr5) st5 stop
   rw [eA] at this
   refine thn this fun r s6 ⟨hr,I6⟩=>?_
   subst hr
   subst hX'
   have J6:Inv X pins σ H5 s6:=I3.call' (ch:=fp) I6.os I6.base I6.hok I6.bare fun b hbm=>⟨(f3 b hbm).2.2.2.1,(f3 b hbm).2.1,(f3 b hbm).2.2.2.2.1,(f3 b hbm).2.2.2.2.2⟩
   obtain ⟨m,hn,_⟩:=I6.loc
   exact hRR D _ H5 s6 m J6 qn hn (I3.fpOk (Zd _) I6.free)
  ·have:=T.item X' eP eW eK hc' i [] s5 σ5 H5 (fun _ _=>False) I5 (stat fr5) st5 go
   rw [eA] at this
   refine thn this fun r s6 ⟨u,hr,h6⟩=>?_
   subst hr
   refine thn h6 fun _ s7 ⟨x,H7,I7,r7,y7,st7,fr7⟩=>?_
   have I7':=I7.pinned (stat fr7) (T.obj _ _ st7)
   have a1:=hg _ s7 σ5 H7 x u _ I7' r7 (step x H7 y7)
   rw [eP,eW,eA,eE,ex] at a1
   refine thn a1 fun _ s8 ⟨σ8,H8,I8,q8⟩=>?_
   have a2:=hif _ s8 σ8 H8 _ I8 q8
   rw [eP,eW,eA,eE,ex] at a2
   refine thn a2 fun b s9 ⟨H9,I9,q9⟩=>?_
   have again:∀ {s':Shared} {σ':St} {H':Hp},Inv X' ([] ++ pinsAt fp s7.heap) σ' H' s'→N σ' H'→∃ m,m < n∧∃ i σ' H',Inv X' [] σ' H' s'∧tn i s'.heap∧(∀ b ∈ fp,H' b=none)∧W i m σ' H':=fun {s' σ' H'} I' n'=>by
    obtain ⟨m',hm,w'⟩:=hN σ' H' n'
    refine ⟨m',hm,i + 1,σ',H',I'.unpinned,T.keep _ _ _ st7 fun b hbm o e=>(I'.pin (b,o) (Zw _ (Zw _ (jf3 hbm e)))).1,fun b hbm=>?_,w'⟩
    obtain ⟨o,e,d⟩:=T.obj _ _ st7 b hbm
    exact (I'.pin (b,o) (Zw _ (Zw _ (jf3 hbm e)))).2.1
   cases b with
   | false=>exact again I9 q9
   | true =>
    rw [if_pos rfl] at q9 ⊢
    have a3:=hek _ s9 σ8 H9 _ I9 q9
    rw [eP,eW,eA,eE,ex] at a3
    refine thn a3 fun kv s10 ⟨yk,H10,I10,r10,q10⟩=>?_
    have a4:=hev _ s10 σ8 H10 _ I10 q10
    rw [eP,eW,eA,eE,ex] at a4
    refine thn a4 fun vv s11 ⟨yv,H11,I11,r11,kvs,k,hk,ek,hz,q11⟩=>?_
    subst ek
    have a5:=d_dictSet (E:=fun _ _=>False) (A:=X.A) (Q:=fun _ s'=>∃ m,m < n∧∃ i σ' H',Inv X' [] σ' H' s'∧tn i s'.heap∧(∀ b ∈ fp,H' b=none)∧W i m σ' H') I11 hk r10 r11 hz fun s' I'=>again I' q11
    rw [eP,eW] at a5
    exact a5
 exact codeAny_compStart_dict (loop _ rfl) (T.self X.A 0 _ _ _ st4 (loop _ rfl))
theorem pe_dcomp (B:BlkOk X scope own cap ix) (hc:X.calm=true) (hi:PI X tg iter wi)
  (hb:∀ C fp s H,PG (cxC X scope C (own ++ cap) fp s H) tg g∧PIfs (cxC X scope C (own ++ cap) fp s H) ifs tt∧PE (cxC X scope C (own ++ cap) fp s H) kx tk∧PE (cxC X scope C (own ++ cap) fp s H) vx tv)
  (hs:∀ x,foldedSetIterable iter X.env x=pure x:=by intro _; rfl):PE X (.DictComp kx vx [⟨tg,iter,ifs,0⟩] scope pos) (tDComp wi g tt tk tv own.length ix):=by
 intro pins s σ H Q I h
 rw [arm_eval_DictComp]
 have has:∀ x ∈ scope.names,x.2=.free→(X.env.cells.lookup x.1).isSome=true:=fun x hx hk=>by
  obtain ⟨c,e⟩:=I.ok.has x.1 (B.frees x hx hk)
  rw [e]; rfl
 refine wpAny_comprehension_free (use:=none) rfl hs (jf9 has) B.kind B.names ?_
 show wpAny _ _ (eval iter X.env) _ _ s
 refine thn (hi pins s σ H _ I h) fun v s1 h1=>thn h1 fun itv s2 h2=>?_
 obtain ⟨it,fp,tn,J,H2,e,I2,T,st2,f2,q⟩:=h2
 subst e
 refine dcomp_core (RR:=fun acc C=>compPost (model X.prog X.w) X.A X.xe none (EP X pins σ Q) acc C) B hc hb I2 T st2 f2 q ?_
 intro D C H' s' m I' q' hn fC
 refine ⟨m,hn,fun h' hsb=>⟨.ref D,H',?_,rfl,q'⟩⟩
 exact I'.turned (t':=s'.toks) (it:=C) (fun b o hbC e=>(hsb.2 b hbC).trans e) fC.1 fC.2.1 fC.2.2.2.1 fC.2.2.2.2.1 fC.2.2.2.2.2
end
section
variable {X:Cx}
def viewOf (v a:Addr):HO:=.ext fun h=>h.IsValuesView v a
def rValues:V→List V→Hp→VK→Prop:=fun x xs H Q=>∃ a kvs,x=.ref a∧xs=[]∧H a=some (.dK kvs)∧∀ v,H v=none→Q (.ref v) (upd H v (viewOf v a))
theorem mt_values:MtR X "dict.values" rValues:=by
 intro pins s σ H x xs v us Q I r rs h
 obtain ⟨a,kvs,rfl,rfl,ha,q⟩:=h
 cases rs
 cases r
 obtain ⟨z,hd,vs,rel,dd⟩:=dk_of I.hok ha
 refine call_meetsIn PySem.F.slot_dict_values dd.typeIs PySem.F.entry_dict_values (PySem.F.args_dict_values_1 _) (meets_dict_values (jf4 X.prog X.w) a hd) ⟨⟨vs,dd⟩,?_⟩
 have hv:(s.heap.push { cls:=.type "dict_values",data:=.fields #[.ref a] }).IsValuesView s.heap.objs.size a:=⟨_,Heap.get?_push_size _ rfl,rfl,rfl⟩
 refine ⟨.ref s.heap.objs.size,_,I.laid (t':=s.toks) (o:=viewOf s.heap.objs.size a) (fun _ _ q=>Heap.get?_push_of_some _ q) (Zd _) ⟨hv,⟨_,Heap.get?_push_size _ rfl⟩,fun h1 h2 w1 hk=>?_⟩,rfl,q _ I.fresh⟩
 obtain ⟨o,e,c⟩:=w1
 exact ⟨o,hk o e,c⟩
theorem dict_at {pins:List (Addr × Obj)} {σ:St} {H:Hp} {s:Shared} {a:Addr} {kvs:List (Key × V)} (I:Inv X pins σ H s) (ha:Rd H a (.dK kvs)) :
  kvs.length ≤ sizeLine∧(a == sysModules)=false∧∃ vs ep,KV kvs vs∧s.heap.DictAt (jf4 X.prog X.w) a vs ep:=by
 obtain ⟨z,hd,vs,rel,o,es,ep,r⟩:=dk_rd I.hok ha
 exact ⟨z,hd,vs,ep,rel,o,es,r⟩
theorem kv_vals:∀ {kvs:List (Key × V)} {vs:List (Key × Value)} {us:List Value},KV kvs vs→us.length=vs.length→(∀ (j:Nat) (v:Value),us[j]?=some v→∃ k,vs[j]?=some (k,v))→Vals (kvs.map (·.2)) us
 | _,_,us,.nil,hl,_=>by
  cases us with
  | nil=>exact .nil
  | cons _ _=>simp at hl
 | _,_,us,.cons h hs,hl,hu=>by
  cases us with
  | nil=>simp at hl
  | cons u us =>
   refine .cons ?_ (kv_vals hs (by simpa using hl) fun j v hj=>hu (j + 1) v (by simpa using hj))
   obtain ⟨k,e⟩:=hu 0 u rfl
   simp at e
   have:=h.2
   rw [e] at this
   exact this
theorem call_list_values (hc:X.calm=true):CallR X (.type "list") (fun xs H Q=>∃ v a kvs,xs=[.ref v]∧H v=some (viewOf v a)∧Rd H a (.dK kvs)∧∀ l,H l=none→Q (.ref l) (upd H l (.lst (kvs.map (·.2))))):=by
 intro pins s σ H xs us Q I r h
 obtain ⟨v,a,kvs,rfl,hv,ha,q⟩:=h
 obtain ⟨u,rfl,rx⟩:=vals1 r
 cases rx
 obtain ⟨z,hd,vs,ep,rel,at'⟩:=dict_at I ha
 have hview:s.heap.IsValuesView v a:=(I.hok v _ hv).1
 have hl:=rel.length
 refine PySem.W.kdl_call (PySem.W.kdl_values (knd:=jf4 X.prog X.w) (kvs:=vs) (ep:=ep) (r:=v) (d:=a)) (I.ok.hd hc) ⟨hview,at'⟩ (by rw [← hl]; exact z) fun h' tk acc c' hk hD hacc=>?_
 have hvs:Vals (kvs.map (·.2)) acc.toList:=kv_vals rel (by rw [Array.length_toList]; exact hacc.1) fun j x e=>hacc.2 j x (by rw [← Array.getElem?_toList]; exact e)
 refine ⟨.ref s.heap.objs.size,_,I.laid (t':=tk) (o:=.lst (kvs.map (·.2))) hk (Zd _) ⟨by rw [Zb]; exact z,acc.toList,c',hvs,?_⟩,rfl,q _ I.fresh⟩
 simpa using hD
theorem Inv.freeze {pins:List (Addr × Obj)} {σ:St} {H:Hp} {s:Shared} {a:Addr} {kvs:List (Key × V)} {o:Obj} (I:Inv X pins σ H s) (ha:H a=some (.dK kvs)) (ho:s.heap.get? a=some o):Inv X pins σ (upd H a (.frz o (.dK kvs))) s:=by
 refine I.write (x:=a) (e:=a) (t':=s.toks) (h':=s.heap) (by rw [ha]; exact True.intro) (.inl rfl) (fun _ _ _ e=>e) ⟨o,ho⟩ ⟨ho,?_⟩
 obtain ⟨z,hd,vs,rel,dd⟩:=dk_of I.hok ha
 exact ⟨z,hd,vs,rel,dd⟩
theorem kV_rel {k:Key} {v:Value} (h:keyIs k v=true):RelV (kV k) v:=by
 rcases je3 h with ⟨i,t,rfl,rfl⟩ | ⟨x,t,rfl,rfl⟩
 ·exact ⟨t,rfl⟩
 ·exact ⟨t,rfl⟩
def Itd (a:Addr) (o:Obj) (kvs:List (Key × V)):It :=
 ⟨fun i H=>H a=some (.frz o (.dK kvs))∧i < kvs.length,fun i H x H'=>H'=H∧∃ k v,kvs[i]?=some (k,v)∧x=kV k,fun i H=>H a=some (.frz o (.dK kvs))∧kvs.length ≤ i⟩
theorem dict_frz {pins:List (Addr × Obj)} {σ:St} {H:Hp} {s:Shared} {a:Addr} {o:Obj} {es0:Array DictEntry} {ep:Nat} {kvs:List (Key × V)} (I:Inv X pins σ H s) (hg:H a=some (.frz o (.dK kvs))) (hep:o.data=.dict es0 ep) :
  ∃ vs,KV kvs vs∧vs.length=kvs.length∧s.heap.DictAt (jf4 X.prog X.w) a vs ep:=by
 obtain ⟨z,hd,vs,ep',rel,o',es,ho',r⟩:=dict_at I (.inr ⟨o,hg⟩)
 obtain ⟨ho,_⟩:=I.hok a _ hg
 have:o'=o:=by rw [ho] at ho'; exact (Option.some.inj ho').symm
 subst this
 have h2:=r.2.1
 rw [hep] at h2
 injection h2 with _ h2
 subst h2
 exact ⟨vs,rel,rel.length.symm,o',es,ho',r⟩
theorem turn_dict {P:Program} {w:World} {K:PySem.W.Frag} {tg:Expr} (a it:Addr) (o:Obj) (kvs:List (Key × V)) (es0:Array DictEntry) (ep:Nat) (hep:o.data=.dict es0 ep):Turn P w K tg (Itd a o kvs) [it] it (fun i h=>h.IsKeyIter it a i kvs.length ep) where
 mem:=by simp
 obj:=fun i h st b hb=>by
  obtain rfl:b=it:=by simpa using hb
  obtain ⟨o',e,c,d⟩:=st
  exact ⟨o',e,fun v z=>by rw [d] at z; cases z⟩
 keep:=fun i h h' st k=>st.at fun o e=>k it (by simp) o e
 item:=by
  intro X hP hw hK hc i pins s σ H E I hf st hg
  subst hP hw hK
  obtain ⟨hg,hi⟩:=hg
  obtain ⟨vs,rel,hl,at'⟩:=dict_frz I hg hep
  obtain ⟨f0,f1,f2,f3,f4,f5⟩:=hf it (by simp)
  obtain ⟨⟨k,v⟩,hkv⟩:∃ p,vs[i]?=some p:=⟨vs[i],by simp [show i < vs.length by omega]⟩
  refine wpAny_pyNext_dict_item (by rw [hl]; exact st) at' hkv fun key h' hkey st' sb=>?_
  have I1:Inv X pins σ H { s with heap:=h' }:=I.turned (t':=s.toks) (fun b o hb e=>(sb.2 b hb).trans e) f0 f1 f3 f4 f5
  rw [hl] at st'
  obtain ⟨o1,e1,c1,d1⟩:=id st'
  have hkk:∃ v',kvs[i]?=some (k,v'):=by
   have e2:=rel.keys
   have e3:=congrArg (fun l=>l[i]?) e2
   simp only [Zg,hkv,Option.map_some] at e3
   cases e4:kvs[i]? with
   | none=>rw [e4] at e3; cases e3
   | some p =>
    rw [e4] at e3
    simp only [Option.map_some,Option.some.injEq] at e3
    exact ⟨p.2,by rw [← e3]⟩
  obtain ⟨v',hv'⟩:=hkk
  exact ⟨key,rfl,go_of (s:={ s with heap:=h' }) e1 c1 d1 (by decide) ⟨kV k,H,I1,kV_rel hkey,⟨rfl,k,v',hv',rfl⟩,st',fun b hb=>(hf b hb).1⟩⟩
 done:=by
  intro X hP hw hK hc i pins s σ H E I hf st hg
  subst hP hw hK
  obtain ⟨hg,hi⟩:=hg
  obtain ⟨vs,rel,hl,at'⟩:=dict_frz I hg hep
  obtain ⟨f0,f1,f2,f3,f4,f5⟩:=hf it (by simp)
  exact wpAny_pyNext_dict_end (I.ok.hd hc) (by rw [hl]; exact st) at' (by simp; omega) fun h' eb=>⟨rfl,I.turned (t':=s.toks) (fun b o hb e=>eb b o hb e) f0 f1 f3 f4 f5⟩
 self:=fun _ _ _ _ _ st h=>wpAny_pyIter_keyiter st h
def iDict (td:TE):TI:=fun σ H R=>td σ H fun x H1=>∃ a kvs,x=.ref a∧H1 a=some (.dK kvs)∧∀ o,R (Itd a o kvs) (upd H1 a (.frz o (.dK kvs)))
theorem pi_dict {tg l:Expr} {td:TE} (hl:PE X l td):PI X tg l (iDict td):=by
 intro pins s σ H R I h
 refine thn (hl pins s σ H _ I h) fun v s1 ⟨x,H1,I1,r1,q1⟩=>?_
 obtain ⟨a,kvs,e,ha,q⟩:=q1
 subst e
 cases r1
 obtain ⟨z,hd,vs,ep,rel,o,es,ho,r⟩:=dict_at I1 (.inl ha)
 have at':s1.heap.DictAt (jf4 X.prog X.w) a vs ep:=⟨o,es,ho,r⟩
 refine wpAny_pyIter_dict hd at' ?_
 have I2:=I1.freeze ha ho
 have hl2:=rel.length
 refine ⟨s1.heap.objs.size,[s1.heap.objs.size],_,Itd a o kvs,_,rfl,I2.kept (t':=s1.toks) fun b o e=>Heap.get?_push_of_some _ e,turn_dict a _ o kvs es ep r.2.1,⟨_,Heap.get?_push_size _ rfl,rfl,by rw [hl2]; rfl⟩,fun b hb=>?_,q o⟩
 obtain rfl:b=s1.heap.objs.size:=by simpa using hb
 exact I2.fpOk (Zd _) (I2.hok.fresh (Zd _))
end
end L2
namespace PySem
theorem upd_pair {prog:Program} {w:World} {A:Around} {E:Value→Shared→Prop} {s:Shared} {T:Addr} {a b x:Value} {k:Nat} {Q:Unit→Shared→Prop} (hT:IsPair s.heap T a b)
  (q:∀ g,g.get? T=some { cls:=.type "tuple",data:=.seq ((#[a,b]:Array Value).setIfInBounds k x) }→Heap.SameBut T s.heap g→Q () { s with heap:=g }):wpAny (model prog w) A (updateSeq T (·.setIfInBounds k x)) Q E s :=
 wpAny_updateSeq_pair hT q
section
variable {prog:Program} {w:World} {A:Around} {E:Value→Shared→Prop} {s:Shared} {z TI TO i1 i2 l1 l2:Addr} {k1 k2:Nat} {xs ys:Array Value} {x y a b:Value}
theorem jh7 {h g:Heap} {it l c:Addr} {i:Nat} (t:h.IsTupleIter it l i) (sb:Heap.ExtBut c h g) (ne:it ≠ c):g.IsTupleIter it l i:=let ⟨o,e,r⟩:=t; ⟨o,sb it o ne e,r⟩
theorem tup_but {h g:Heap} {l c:Addr} {v:Array Value} (t:h.IsTuple l v) (sb:Heap.ExtBut c h g) (ne:l ≠ c):g.IsTuple l v:=let ⟨o,e,r⟩:=t; ⟨o,sb l o ne e,r⟩
theorem zipT_next {Q:Value→Shared→Prop} (D:ZipApart z TI TO i1 i2 l1 l2) (hz:IsZip s.heap z TI TO .none) (pI:IsPair s.heap TI (.ref i1) (.ref i2)) (pO:IsPair s.heap TO a b)
  (t1:s.heap.IsTupleIter i1 l1 k1) (t2:s.heap.IsTupleIter i2 l2 k2) (u1:s.heap.IsTuple l1 xs) (u2:s.heap.IsTuple l2 ys) (hx:xs[k1]?=some x) (hy:ys[k2]?=some y)
  (q:∀ g,IsZip g z TI TO (rawInt s.heap.objs.size)→IsPair g TO x y→g.IsTupleIter i1 l1 (k1 + 1)→g.IsTupleIter i2 l2 (k2 + 1)→IsPair g s.heap.objs.size x y →
   (∀ c o,c ≠ z→c ≠ TO→c ≠ i1→c ≠ i2→s.heap.get? c=some o→g.get? c=some o)→Q (.ref s.heap.objs.size) { s with heap:=g }) :
  wpAny (model prog w) A (Builtin.«zip.__next__» ⟨[.ref z],[]⟩) (fun fin s'=>∃ v,fin=.done (.ret v)∧Q v s') E s:=by
 show wpAny _ _ (field (.ref z) 2 >>= _) _ _ _; refine Za (wpAny_field hz rfl (x:=.bool false) rfl ?_)
 show wpAny _ _ (field (.ref z) 3 >>= _) _ _ _; refine Za (wpAny_field hz rfl (x:=.ref TI) rfl (Za (wpAny_seqItems pI rfl ?_)))
 show wpAny _ _ (Builtin.SmallTypes.ownedTupleIsFree (.ref z) >>= _) _ _ _; refine Za ?_; unfold Builtin.SmallTypes.ownedTupleIsFree
 refine Za (wpAny_field hz rfl (x:=.none) rfl (wpAny_pure ?_)); simp only [if_true]
 refine Za (wpAny_rule (Za (wpAny_field hz rfl (x:=.ref TO) rfl ?_)))
 refine Za (wpAny_setField_rec hz (by simp) fun g1 z1 b1=>?_); replace z1:IsZip g1 z TI TO .ellipsis:=z1; refine Za ?_
 simp only [List.zipIdx_cons,List.zipIdx_nil,List.forIn_cons,List.forIn_nil]; refine Za (Za (wpAny_onRaise ?_))
 show wpAny _ _ (Builtin.SmallTypes.nextOf (.ref i1) >>= _) _ _ _; refine Za (ji0 (jh7 t1 b1.extBut D.i1z) (tup_but u1 b1.extBut D.l1z) hx fun g2 n1 b2=>wpAny_pure ?_)
 have o2:IsPair g2 TO a b:=b2.extBut _ _ D.TOi1 (b1.extBut _ _ D.TOz pO)
 refine Za (wpAny_seqItems o2 rfl (Za (upd_pair o2 fun g3 o3 b3=>Za (wpAny_letGo (wpAny_pure ?_)))))
 replace o3:IsPair g3 TO x b:=o3
 refine Za (Za (wpAny_onRaise ?_)); show wpAny _ _ (Builtin.SmallTypes.nextOf (.ref i2) >>= _) _ _ _
 refine Za (ji0 (jh7 (jh7 (jh7 t2 b1.extBut D.i2z) b2.extBut D.i12.symm) b3.extBut D.TOi2.symm) (tup_but (tup_but (tup_but u2 b1.extBut D.l2z) b2.extBut D.l2i1) b3.extBut D.l2TO) hy fun g4 n2 b4=>wpAny_pure ?_)
 have o4:IsPair g4 TO x b:=b4.extBut _ _ D.TOi2 o3
 refine Za (wpAny_seqItems o4 rfl (Za (upd_pair o4 fun g5 o5 b5=>Za (wpAny_letGo (wpAny_pure (wpAny_pure ?_))))))
 replace o5:IsPair g5 TO x y:=o5
 refine Za (wpAny_seqItems o5 rfl (Za (wpAny_newTuple ?_)))
 have sz:g5.objs.size=s.heap.objs.size:=by rw [b5.1,b4.1,b3.1,b2.1,b1.1]
 have z5:IsZip g5 z TI TO .ellipsis:=b5.extBut _ _ D.TOz.symm (b4.extBut _ _ D.i2z.symm (b3.extBut _ _ D.TOz.symm (b2.extBut _ _ D.i1z.symm z1)))
 have k5:∀ c o,c ≠ z→c ≠ TO→c ≠ i1→c ≠ i2→s.heap.get? c=some o→g5.get? c=some o:=fun c o e1 e2 e3 e4 e=>b5.extBut _ _ e2 (b4.extBut _ _ e4 (b3.extBut _ _ e2 (b2.extBut _ _ e3 (b1.extBut _ _ e1 e))))
 have m1:g5.IsTupleIter i1 l1 (k1 + 1):=jh7 (jh7 (jh7 n1 b3.extBut D.TOi1.symm) b4.extBut D.i12) b5.extBut D.TOi1.symm
 have m2:g5.IsTupleIter i2 l2 (k2 + 1):=jh7 n2 b5.extBut D.TOi2.symm
 have zlt:z < g5.objs.size:=Heap.lt_size z5
 show wpAny _ _ (Builtin.SmallTypes.ownedTupleHandOut (.ref z) (.ref g5.objs.size) >>= _) _ _ _; refine Za ?_; unfold Builtin.SmallTypes.ownedTupleHandOut
 have z6:IsZip (g5.push { cls:=.type "tuple",data:=.seq #[x,y] }) z TI TO .ellipsis:=Heap.get?_push_of_some _ z5
 refine Za (wpAny_setField_rec z6 (by simp) fun g7 z7 b7=>?_); replace z7:IsZip g7 z TI TO (rawInt g5.objs.size):=z7
 refine wpAny_setField_rec z7 (by simp) fun g8 z8 b8=>?_; replace z8:IsZip g8 z TI TO (rawInt g5.objs.size):=z8
 have up:∀ c o,c ≠ z→g5.get? c=some o→g8.get? c=some o:=fun c o e1 e=>b8.extBut _ _ e1 (b7.extBut _ _ e1 (Heap.get?_push_of_some _ e))
 have p8:IsPair g8 g5.objs.size x y:=b8.extBut _ _ (Nat.ne_of_gt zlt) (b7.extBut _ _ (Nat.ne_of_gt zlt) (Heap.get?_push_size _ rfl))
 rw [sz] at z8 p8
 refine wpAny_pure ⟨_,rfl,?_⟩; show Q (.ref g5.objs.size) _; rw [sz]
 exact q g8 z8 (up _ _ D.TOz o5) (let ⟨o,e,r⟩:=m1; ⟨o,up _ o D.i1z e,r⟩) (let ⟨o,e,r⟩:=m2; ⟨o,up _ o D.i2z e,r⟩) p8 fun c o e1 e2 e3 e4 e=>up c o e1 (k5 c o e1 e2 e3 e4 e)
theorem zipT_stop {Q:Fin→Shared→Prop} (hh:A.handled=none) (D:ZipApart z TI TO i1 i2 l1 l2) (hz:IsZip s.heap z TI TO .none) (pI:IsPair s.heap TI (.ref i1) (.ref i2)) (pO:IsPair s.heap TO a b)
  (t1:s.heap.IsTupleIter i1 l1 k1) (t2:s.heap.IsTupleIter i2 l2 k2) (u1:s.heap.IsTuple l1 xs) (u2:s.heap.IsTuple l2 ys) (hx:xs[k1]?=none)
  (q:∀ g e,(∀ c o,c ≠ z→c ≠ TO→c ≠ i1→c ≠ i2→s.heap.get? c=some o→g.get? c=some o)→(∃ o,g.get? e=some o∧o.cls=.type "StopIteration")→E (.ref e) { s with heap:=g }) :
  wpAny (model prog w) A (Builtin.«zip.__next__» ⟨[.ref z],[]⟩) Q E s:=by
 show wpAny _ _ (field (.ref z) 2 >>= _) _ _ _; refine Za (wpAny_field hz rfl (x:=.bool false) rfl ?_)
 show wpAny _ _ (field (.ref z) 3 >>= _) _ _ _; refine Za (wpAny_field hz rfl (x:=.ref TI) rfl (Za (wpAny_seqItems pI rfl ?_)))
 show wpAny _ _ (Builtin.SmallTypes.ownedTupleIsFree (.ref z) >>= _) _ _ _; refine Za ?_; unfold Builtin.SmallTypes.ownedTupleIsFree
 refine Za (wpAny_field hz rfl (x:=.none) rfl (wpAny_pure ?_)); simp only [if_true]
 refine Za (wpAny_rule (Za (wpAny_field hz rfl (x:=.ref TO) rfl ?_)))
 refine Za (wpAny_setField_rec hz (by simp) fun g1 z1 b1=>?_); replace z1:IsZip g1 z TI TO .ellipsis:=z1; refine Za ?_
 simp only [List.zipIdx_cons,List.zipIdx_nil,List.forIn_cons,List.forIn_nil]; refine Za (Za (wpAny_onRaise ?_))
 show wpAny _ _ (Builtin.SmallTypes.nextOf (.ref i1) >>= _) _ _ _
 refine Za (jj1 hh (jh7 t1 b1.extBut D.i1z) (tup_but u1 b1.extBut D.l1z) hx fun g2 e b2 ⟨oe,he,ce⟩=>?_)
 have z2:IsZip g2 z TI TO .ellipsis:=b2 _ _ D.i1z.symm z1
 have ez:e ≠ z:=fun h=>by subst h; rw [z2] at he; cases he; simp at ce
 exact wpAny_setField_rec z2 (by simp) fun g3 _ b3=>q g3 e (fun c o e1 _ e3 _ h=>b3.extBut _ _ e1 (b2 _ _ e3 (b1.extBut _ _ e1 h))) ⟨oe,b3.extBut _ _ ez he,ce⟩
theorem pyNext_zipT {Q:Option Value→Shared→Prop} (D:ZipApart z TI TO i1 i2 l1 l2) (hz:IsZip s.heap z TI TO .none) (pI:IsPair s.heap TI (.ref i1) (.ref i2)) (pO:IsPair s.heap TO a b)
  (t1:s.heap.IsTupleIter i1 l1 k1) (t2:s.heap.IsTupleIter i2 l2 k2) (u1:s.heap.IsTuple l1 xs) (u2:s.heap.IsTuple l2 ys) (hx:xs[k1]?=some x) (hy:ys[k2]?=some y)
  (q:∀ g,IsZip g z TI TO (rawInt s.heap.objs.size)→IsPair g TO x y→g.IsTupleIter i1 l1 (k1 + 1)→g.IsTupleIter i2 l2 (k2 + 1)→IsPair g s.heap.objs.size x y →
   (∀ c o,c ≠ z→c ≠ TO→c ≠ i1→c ≠ i2→s.heap.get? c=some o→g.get? c=some o)→Q (some (.ref s.heap.objs.size)) { s with heap:=g }):wpAny (model prog w) A (pyNext (.ref z)) Q E s:=by
 have ty:s.TypeIs (.ref z) "zip":=⟨_,hz,rfl⟩
 unfold pyNext
 exact Za (wpAny_attempt (wpAny_callSpecial?_slot (name:=Str.ofString "__next__") ty F.slot_zip_next (wpAny_call_entry F.slot_zip_next ty F.entry_zip_next
  (zipT_next D hz pI pO t1 t2 u1 u2 hx hy fun g a1 a2 a3 a4 a5 a6=>wpAny_pure (q g a1 a2 a3 a4 a5 a6)) (F.args_zip_next_1 _))))
theorem pyNext_zipT_end {Q:Option Value→Shared→Prop} (hh:A.handled=none) (D:ZipApart z TI TO i1 i2 l1 l2) (hz:IsZip s.heap z TI TO .none) (pI:IsPair s.heap TI (.ref i1) (.ref i2)) (pO:IsPair s.heap TO a b)
  (t1:s.heap.IsTupleIter i1 l1 k1) (t2:s.heap.IsTupleIter i2 l2 k2) (u1:s.heap.IsTuple l1 xs) (u2:s.heap.IsTuple l2 ys) (hx:xs[k1]?=none)
  (q:∀ g,(∀ c o,c ≠ z→c ≠ TO→c ≠ i1→c ≠ i2→s.heap.get? c=some o→g.get? c=some o)→Q none { s with heap:=g }):wpAny (model prog w) A (pyNext (.ref z)) Q E s:=by
 have ty:s.TypeIs (.ref z) "zip":=⟨_,hz,rfl⟩
 unfold pyNext
 exact Za (wpAny_attempt (wpAny_callSpecial?_slot (name:=Str.ofString "__next__") ty F.slot_zip_next (wpAny_call_entry F.slot_zip_next ty F.entry_zip_next
  (zipT_stop hh D hz pI pO t1 t2 u1 u2 hx fun g e hk ⟨o,ho,hc⟩=>Za (wpAny_isInstance (T:="StopIteration") (b:=true) ⟨o,ho,hc⟩ isSubtype_stop (wpAny_pure (q _ hk)))) (F.args_zip_next_1 _))))
end
abbrev zpA (h:Heap) (l1:Addr):Heap:=h.push { cls:=.type "tuple_iterator",data:=.fields #[.ref l1,.int 0 0] }
abbrev zpB (h:Heap) (l1 l2:Addr):Heap:=(zpA h l1).push { cls:=.type "tuple_iterator",data:=.fields #[.ref l2,.int 0 0] }
abbrev zpC (h:Heap) (l1 l2:Addr):Heap:=(zpB h l1 l2).push { cls:=.type "tuple",data:=.seq #[.ref h.objs.size,.ref (zpA h l1).objs.size] }
abbrev zpD (h:Heap) (l1 l2:Addr):Heap:=(zpC h l1 l2).push { cls:=.type "tuple",data:=.seq #[.none,.none] }
abbrev zpE (h:Heap) (l1 l2:Addr):Heap:=(zpD h l1 l2).push { cls:=.type "zip",data:=.fields #[.none,.bool false,.bool false,.ref (zpB h l1 l2).objs.size,.ref (zpC h l1 l2).objs.size] }
theorem meets_zipT (l1 l2:Addr) (xs ys:Array Value):Meets (Builtin.«zip.__new__» ⟨[.type "zip",.ref l1,.ref l2],[]⟩) (fun _ R s=>s.heap.IsTuple l1 xs∧s.heap.IsTuple l2 ys∧R (.ok (.ret (.ref (zpD s.heap l1 l2).objs.size))) { s with heap:=zpE s.heap l1 l2 }) :=
 .of_wp fun prog w A R s h=>by
  obtain ⟨hp,g,d,tk,os⟩:=s; obtain ⟨v1,v2,h⟩:=h
  have hsub:=sub_zip
  have w1:Heap.IsTuple (Shared.heap ⟨hp,g,d,tk,os⟩) l1 xs:=v1
  have w2:Heap.IsTuple (Shared.heap ⟨zpA hp l1,g,d,tk,os⟩) l2 ys:=let ⟨o,e,r⟩:=v2; ⟨o,Heap.get?_push_of_some _ e,r⟩
  wp_walk using wpAny_pyIter_tuple w1,wpAny_pyIter_tuple w2
  exact ⟨_,rfl,h⟩
theorem call_zipT {prog:Program} {w:World} {A:Around} {E:Value→Shared→Prop} {s:Shared} {l1 l2:Addr} {xs ys:Array Value} {Q:Value→Shared→Prop} (v1:s.heap.IsTuple l1 xs) (v2:s.heap.IsTuple l2 ys)
  (q:∀ g,IsZip g (s.heap.objs.size + 4) (s.heap.objs.size + 2) (s.heap.objs.size + 3) .none→IsPair g (s.heap.objs.size + 2) (.ref s.heap.objs.size) (.ref (s.heap.objs.size + 1))→IsPair g (s.heap.objs.size + 3) .none .none →
   g.IsTupleIter s.heap.objs.size l1 0→g.IsTupleIter (s.heap.objs.size + 1) l2 0→(∀ c o,s.heap.get? c=some o→g.get? c=some o)→Q (.ref (s.heap.objs.size + 4)) { s with heap:=g }):wpAny (model prog w) A (call (.type "zip") [.ref l1,.ref l2]) Q E s:=by
 refine callType_new F.called_zip (by decide) (F.typeCall_zip_2 _ _) (F.newCall_zip_2 _ _) (fun obj=>F.args_object_init_3 obj _ _) F.entry_zip_new (meets_zipT l1 l2 xs ys) ⟨v1,v2,?_⟩
 have e1:(zpA s.heap l1).objs.size=s.heap.objs.size + 1:=Heap.size_push ..
 have e2:(zpB s.heap l1 l2).objs.size=s.heap.objs.size + 2:=by rw [Heap.size_push,e1]
 have e3:(zpC s.heap l1 l2).objs.size=s.heap.objs.size + 3:=by rw [Heap.size_push,e2]
 have e4:(zpD s.heap l1 l2).objs.size=s.heap.objs.size + 4:=by rw [Heap.size_push,e3]
 have p5:(zpE s.heap l1 l2).get? (zpD s.heap l1 l2).objs.size=some _:=Heap.get?_push_size _ rfl
 have p4:(zpE s.heap l1 l2).get? (zpC s.heap l1 l2).objs.size=some _:=Heap.get?_push_of_some _ (Heap.get?_push_size _ rfl)
 have p3:(zpE s.heap l1 l2).get? (zpB s.heap l1 l2).objs.size=some _:=Heap.get?_push_of_some _ (Heap.get?_push_of_some _ (Heap.get?_push_size _ rfl))
 have p2:(zpE s.heap l1 l2).get? (zpA s.heap l1).objs.size=some _:=Heap.get?_push_of_some _ (Heap.get?_push_of_some _ (Heap.get?_push_of_some _ (Heap.get?_push_size _ rfl)))
 have p1:(zpE s.heap l1 l2).get? s.heap.objs.size=some _:=Heap.get?_push_of_some _ (Heap.get?_push_of_some _ (Heap.get?_push_of_some _ (Heap.get?_push_of_some _ (Heap.get?_push_size _ rfl))))
 show _∧_; rw [e2,e3,e4] at p5; rw [e1,e2] at p3; rw [e3] at p4; rw [e1] at p2; rw [e4]
 exact ⟨⟨_,p5,rfl⟩,q _ p5 p3 p4 ⟨_,p1,rfl,rfl⟩ ⟨_,p2,rfl,rfl⟩ fun c o h=>Heap.get?_push_of_some _ (Heap.get?_push_of_some _ (Heap.get?_push_of_some _ (Heap.get?_push_of_some _ (Heap.get?_push_of_some _ h))))⟩
end PySem
namespace L2
open PySem PySem.Spec PyProof.Rows
section
variable {X:Cx}
def Itz (K:PySem.W.Frag) (a b:Addr):It :=
 ⟨fun i H=>∃ xs ys x y,SqT K H a xs∧SqT K H b ys∧xs[i]?=some x∧ys[i]?=some y,
  fun i H v H'=>∃ p,H p=none∧v=.ref p∧∀ xs ys,SqT K H a xs→SqT K H b ys→∃ x y,xs[i]?=some x∧ys[i]?=some y∧H'=upd H p (.tup [x,y]),
  fun i H=>∃ xs ys,SqT K H a xs∧SqT K H b ys∧xs.length ≤ i⟩
theorem turn_zip {P:Program} {w:World} {K:PySem.W.Frag} {elts:List Expr} {kk} {pos:Pos} (a b z TI TO i1 i2:Addr) (D:ZipApart z TI TO i1 i2 a b) :
  Turn P w K (.Tuple elts kk pos) (Itz K a b) [z,TI,TO,i1,i2] z (fun i h=>IsZip h z TI TO .none∧IsPair h TI (.ref i1) (.ref i2)∧(∃ u v,IsPair h TO u v)∧h.IsTupleIter i1 a i∧h.IsTupleIter i2 b i) where
 mem:=by simp
 obj:=fun i h st c hc=>by
  obtain ⟨hz,pI,⟨u,v,pO⟩,⟨o1,e1,c1,d1⟩,o2,e2,c2,d2⟩:=st
  simp only [Zf,List.not_mem_nil,or_false] at hc
  rcases hc with rfl | rfl | rfl | rfl | rfl
  ·exact ⟨_,hz,fun v z=>by cases z⟩
  ·exact ⟨_,pI,fun v z=>by cases z⟩
  ·exact ⟨_,pO,fun v z=>by cases z⟩
  ·exact ⟨o1,e1,fun v z=>by rw [d1] at z; cases z⟩
  ·exact ⟨o2,e2,fun v z=>by rw [d2] at z; cases z⟩
 keep:=fun i h h' st k=>by
  obtain ⟨hz,pI,⟨u,v,pO⟩,⟨o1,e1,r1⟩,o2,e2,r2⟩:=st
  exact ⟨k z (by simp) _ hz,k TI (by simp) _ pI,⟨u,v,k TO (by simp) _ pO⟩,⟨o1,k i1 (by simp) _ e1,r1⟩,o2,k i2 (by simp) _ e2,r2⟩
 item:=by
  intro X hP hw hK hc i pins s σ H E I hf st hg
  subst hP hw hK
  obtain ⟨xs,ys,x,y,hq1,hq2,hx,hy⟩:=hg
  obtain ⟨us,ru,pu,zu⟩:=I.tuple hq1
  obtain ⟨vs,rv,pv,zv⟩:=I.tuple hq2
  obtain ⟨u,hu,rxu⟩:=ru.get hx
  obtain ⟨v,hv,ryv⟩:=rv.get hy
  obtain ⟨hz,pI,⟨u0,v0,pO⟩,t1,t2⟩:=st
  refine pyNext_zipT D hz pI pO t1 t2 (show s.heap.IsTuple a us.toArray from pu) (show s.heap.IsTuple b vs.toArray from pv) (x:=u) (y:=v) (by simpa using hu) (by simpa using hv) fun g z1 o1 n1 n2 p1 hk=>?_
  refine ⟨_,rfl,?_⟩
  refine wpAny_letOwnedTupleGo_zip z1 fun g2 z2 b2=>?_
  replace b2:Heap.SameBut z g g2:=b2
  have lt:∀ {c o},s.heap.get? c=some o→s.heap.objs.size ≠ c:=fun e=>Nat.ne_of_gt (Heap.lt_size e)
  have hne:s.heap.objs.size ≠ z:=lt hz
  have I1:Inv X pins σ H { s with heap:=g2,toks:=s.toks }:=I.turnedL (ch:=[z,TI,TO,i1,i2]) (fun c o hc q=>by
   have c1:c ≠ z:=fun h=>hc (by simp [h])
   exact b2.extBut c o c1 (hk c o c1 (fun h=>hc (by simp [h])) (fun h=>hc (by simp [h])) (fun h=>hc (by simp [h])) q)) hf
  have p2:=b2.extBut _ _ hne p1
  have fp:FpOk X pins H s.heap.objs.size:=I.fpOk (Zd _) I.fresh
  have I2:=I1.track (p:=s.heap.objs.size) (o:=.tup [x,y]) fp ⟨by show 2 ≤ sizeLine; decide,[u,v],.cons rxu (.cons ryv .nil),⟨_,p2,rfl,_,rfl⟩⟩
  refine ⟨.ref s.heap.objs.size,_,I2,rfl,⟨_,I.fresh,rfl,fun ys1 ys2 h1 h2=>?_⟩,⟨z2,b2.extBut _ _ D.TIz (hk _ _ D.TIz D.TITO D.TIi1 D.TIi2 pI),⟨_,_,b2.extBut _ _ D.TOz o1⟩,jh7 n1 b2.extBut D.i1z,jh7 n2 b2.extBut D.i2z⟩,fun c hc=>?_⟩
  ·rw [I.tuple_inj h1 hq1,I.tuple_inj h2 hq2]; exact ⟨x,y,hx,hy,rfl⟩
  ·rw [jc0]
   ·exact (hf c hc).1
   ·simp only [Zf,List.not_mem_nil,or_false] at hc
    rcases hc with rfl | rfl | rfl | rfl | rfl
    ·exact hne.symm
    ·exact (lt pI).symm
    ·exact (lt pO).symm
    ·obtain ⟨_,e,_⟩:=t1; exact (lt e).symm
    ·obtain ⟨_,e,_⟩:=t2; exact (lt e).symm
 done:=by
  intro X hP hw hK hc i pins s σ H E I hf st hg
  subst hP hw hK
  obtain ⟨xs,ys,hq1,hq2,hx⟩:=hg
  obtain ⟨us,ru,pu,zu⟩:=I.tuple hq1
  obtain ⟨vs,rv,pv,zv⟩:=I.tuple hq2
  obtain ⟨hz,pI,⟨u0,v0,pO⟩,t1,t2⟩:=st
  have hl:=ru.length
  exact pyNext_zipT_end (I.ok.hd hc) D hz pI pO t1 t2 (show s.heap.IsTuple a us.toArray from pu) (show s.heap.IsTuple b vs.toArray from pv) (by simp; omega) fun g hk =>
   ⟨rfl,I.turnedL (t':=s.toks) (ch:=[z,TI,TO,i1,i2]) (fun c o hc q=>hk c o (fun h=>hc (by simp [h])) (fun h=>hc (by simp [h])) (fun h=>hc (by simp [h])) (fun h=>hc (by simp [h])) q) hf⟩
 self:=fun A i s Q E st h=>wpAny_pyIter_zip st.1 h
def iZip (K:PySem.W.Frag) (ta:TA):TI:=fun σ H R=>ta σ H fun vs H1=>∃ a b,vs=[.ref a,.ref b]∧(∃ xs,SqT K H1 a xs)∧(∃ ys,SqT K H1 b ys)∧R (Itz K a b) H1
end
end L2
namespace L2
open PySem PySem.Spec PyProof.Rows KG
abbrev g2 (K:PySem.W.Frag):TG:=gTup K 2 (gCons (gName 0) (gCons (gName 1) gNil))
def S2 (σ₀ σ:St):Prop:=∀ u v,(σ.set 0 u).set 1 v=(σ₀.set 0 u).set 1 v
theorem S2.of {σ₀:St} {u v:Option V}:S2 σ₀ ((σ₀.set 0 u).set 1 v):=fun u' v'=>by
 match σ₀ with
 | []=>rfl
 | [_]=>rfl
 | _ :: _ :: _=>rfl
def Cn2 (σ₀:St) (acc:Addr) (P:List V→Hp→Prop) (σ:St) (H:Hp):Prop:=S2 σ₀ σ∧∃ ys,H acc=some (.lst ys)∧P ys H
theorem Cn2.of {σ₀:St} {acc:Addr} {P:List V→Hp→Prop} {u v:Option V} {H:Hp} {ys:List V} (h:H acc=some (.lst ys)) (p:P ys H):Cn2 σ₀ acc P ((σ₀.set 0 u).set 1 v) H:=⟨S2.of,ys,h,p⟩
def CnD (σ₀:St) (acc:Addr) (P:List (Key × V)→Hp→Prop) (σ:St) (H:Hp):Prop:=S2 σ₀ σ∧∃ ys,H acc=some (.dK ys)∧P ys H
theorem CnD.of {σ₀:St} {acc:Addr} {P:List (Key × V)→Hp→Prop} {u v:Option V} {H:Hp} {ys:List (Key × V)} (h:H acc=some (.dK ys)) (p:P ys H):CnD σ₀ acc P ((σ₀.set 0 u).set 1 v) H:=⟨S2.of,ys,h,p⟩
theorem pair_in {K:PySem.W.Frag} {σ₀ σ:St} {H:Hp} {p:Addr} {x y:V} {Z:St→Hp→Prop} (hσ:S2 σ₀ σ) (hp:H p=none) (h:∀ H1,Stay H H1→Z ((σ₀.set 0 (some x)).set 1 (some y)) H1):g2 K (.ref p) σ (upd H p (.tup [x,y])) Z:=by
 refine ⟨p,_,rfl,SqT.of ja8,rfl,_,_,rfl,_,_,rfl,rfl,?_⟩
 show Z ((σ.set 0 (some x)).set 1 (some y)) _
 rw [hσ]
 exact h _ ((Stay.refl H).new hp)
section
variable {K:PySem.W.Frag} {tt:TT} {te tk tv:TE} {acc a b:Addr} {xs ys:List V} {σ₀:St} {H₀:Hp} {Q:VK} {o:Obj} {kvs:List (Key × V)}
theorem comp_enum (Pv:Nat→List V→Hp→Prop) (h0:Pv 0 [] (upd H₀ acc (.lst []))) (hl:∀ (i:Nat) zs H,i ≤ xs.length→H acc=some (.lst zs)→Pv i zs H→SqT K H a xs)
  (hs:∀ (i:Nat) x zs H H1,xs[i]?=some x→H acc=some (.lst zs)→Pv i zs H→Stay H H1→tt ((σ₀.set 0 (some (.int i))).set 1 (some x)) H1 fun b H4 =>
   if b=true then te ((σ₀.set 0 (some (.int i))).set 1 (some x)) H4 fun y H5=>∃ us,H5 acc=some (.lst us)∧us.length < sizeLine∧Cn2 σ₀ acc (Pv (i + 1)) ((σ₀.set 0 (some (.int i))).set 1 (some x)) (upd H5 acc (.lst (us ++ [y])))
   else Cn2 σ₀ acc (Pv (i + 1)) ((σ₀.set 0 (some (.int i))).set 1 (some x)) H4)
  (hd:∀ zs H,H acc=some (.lst zs)→Pv xs.length zs H→Q (.ref acc) H):tCompN (g2 K) tt te (Ite K a) acc σ₀ H₀ Q:=by
 refine ⟨fun i m σ H=>m=xs.length - i∧i ≤ xs.length∧Cn2 σ₀ acc (Pv i) σ H,⟨xs.length,by simp,Nat.zero_le _,fun _ _=>rfl,[],ja8,h0⟩,?_⟩
 rintro i m σ H ⟨rfl,hi,hσ,zs,hy,p⟩
 have q:=hl i zs H hi hy p
 by_cases hlt:i < xs.length
 ·refine .inr ⟨⟨xs,xs[i],q,by simp [hlt]⟩,Cn2 σ₀ acc (Pv (i + 1)),fun σ' H' c=>⟨xs.length - (i + 1),by omega,rfl,hlt,c⟩,fun x H' y=>?_⟩
  obtain ⟨pp,hp,rfl,hyy⟩:=y
  obtain ⟨z,hz,rfl⟩:=hyy xs q
  exact pair_in hσ hp fun H1 s1=>hs i z zs H H1 hz hy p s1
 ·have e:i=xs.length:=by omega
  subst e
  exact .inl ⟨⟨xs,q,Zd _⟩,hd zs H hy p⟩
theorem comp_zip (Pv:Nat→List V→Hp→Prop) (hlen:xs.length=ys.length) (h0:Pv 0 [] (upd H₀ acc (.lst []))) (hl:∀ (i:Nat) zs H,i ≤ xs.length→H acc=some (.lst zs)→Pv i zs H→SqT K H a xs∧SqT K H b ys)
  (hs:∀ (i:Nat) x y zs H H1,xs[i]?=some x→ys[i]?=some y→H acc=some (.lst zs)→Pv i zs H→Stay H H1→tt ((σ₀.set 0 (some x)).set 1 (some y)) H1 fun b H4 =>
   if b=true then te ((σ₀.set 0 (some x)).set 1 (some y)) H4 fun v H5=>∃ us,H5 acc=some (.lst us)∧us.length < sizeLine∧Cn2 σ₀ acc (Pv (i + 1)) ((σ₀.set 0 (some x)).set 1 (some y)) (upd H5 acc (.lst (us ++ [v])))
   else Cn2 σ₀ acc (Pv (i + 1)) ((σ₀.set 0 (some x)).set 1 (some y)) H4)
  (hd:∀ zs H,H acc=some (.lst zs)→Pv xs.length zs H→Q (.ref acc) H):tCompN (g2 K) tt te (Itz K a b) acc σ₀ H₀ Q:=by
 refine ⟨fun i m σ H=>m=xs.length - i∧i ≤ xs.length∧Cn2 σ₀ acc (Pv i) σ H,⟨xs.length,by simp,Nat.zero_le _,fun _ _=>rfl,[],ja8,h0⟩,?_⟩
 rintro i m σ H ⟨rfl,hi,hσ,zs,hy,p⟩
 obtain ⟨q1,q2⟩:=hl i zs H hi hy p
 by_cases hlt:i < xs.length
 ·refine .inr ⟨⟨xs,ys,xs[i],ys[i]'(by omega),q1,q2,by simp [hlt],by simp⟩,Cn2 σ₀ acc (Pv (i + 1)),fun σ' H' c=>⟨xs.length - (i + 1),by omega,rfl,hlt,c⟩,fun v H' y=>?_⟩
  obtain ⟨pp,hp,rfl,hyy⟩:=y
  obtain ⟨x1,y1,hx1,hy1,rfl⟩:=hyy xs ys q1 q2
  exact pair_in hσ hp fun H1 s1=>hs i x1 y1 zs H H1 hx1 hy1 hy p s1
 ·have e:i=xs.length:=by omega
  subst e
  exact .inl ⟨⟨xs,ys,q1,q2,Zd _⟩,hd zs H hy p⟩
theorem comp_dict (Pv:Nat→List V→Hp→Prop) (h0:Pv 0 [] (upd H₀ acc (.lst []))) (hl:∀ (i:Nat) zs H,i ≤ kvs.length→H acc=some (.lst zs)→Pv i zs H→H a=some (.frz o (.dK kvs)))
  (hs:∀ (i:Nat) k v zs H,kvs[i]?=some (k,v)→H acc=some (.lst zs)→Pv i zs H→tt (σ₀.set 0 (some (kV k))) H fun b H4 =>
   if b=true then te (σ₀.set 0 (some (kV k))) H4 fun y H5=>∃ us,H5 acc=some (.lst us)∧us.length < sizeLine∧Cn σ₀ acc (Pv (i + 1)) (σ₀.set 0 (some (kV k))) (upd H5 acc (.lst (us ++ [y]))) else Cn σ₀ acc (Pv (i + 1)) (σ₀.set 0 (some (kV k))) H4)
  (hd:∀ zs H,H acc=some (.lst zs)→Pv kvs.length zs H→Q (.ref acc) H):tCompN (gName 0) tt te (Itd a o kvs) acc σ₀ H₀ Q:=by
 refine ⟨fun i m σ H=>m=kvs.length - i∧i ≤ kvs.length∧Cn σ₀ acc (Pv i) σ H,⟨kvs.length,by simp,Nat.zero_le _,fun _=>rfl,[],ja8,h0⟩,?_⟩
 rintro i m σ H ⟨rfl,hi,hσ,zs,hy,p⟩
 have q:=hl i zs H hi hy p
 by_cases hlt:i < kvs.length
 ·refine .inr ⟨⟨q,hlt⟩,Cn σ₀ acc (Pv (i + 1)),fun σ' H' c=>⟨kvs.length - (i + 1),by omega,rfl,hlt,c⟩,fun x H' y=>?_⟩
  obtain ⟨e,k,v,hk,ek⟩:=y
  subst e ek
  show tt (σ.set 0 _) _ _
  rw [hσ]
  exact hs i k v zs _ hk hy p
 ·have e:i=kvs.length:=by omega
  subst e
  exact .inl ⟨⟨q,Zd _⟩,hd zs H hy p⟩
theorem dcomp_enum (Pv:Nat→List (Key × V)→Hp→Prop) (h0:Pv 0 [] (upd H₀ acc (.dK []))) (hl:∀ (i:Nat) zs H,i ≤ xs.length→H acc=some (.dK zs)→Pv i zs H→SqT K H a xs)
  (hs:∀ (i:Nat) x zs H H1,xs[i]?=some x→H acc=some (.dK zs)→Pv i zs H→Stay H H1→tt ((σ₀.set 0 (some (.int i))).set 1 (some x)) H1 fun b H4 =>
   if b=true then tk ((σ₀.set 0 (some (.int i))).set 1 (some x)) H4 fun kx H5=>tv ((σ₀.set 0 (some (.int i))).set 1 (some x)) H5 fun y H6=>∃ us k,H6 acc=some (.dK us)∧kx=kV k∧us.length < sizeLine∧CnD σ₀ acc (Pv (i + 1)) ((σ₀.set 0 (some (.int i))).set 1 (some x)) (upd H6 acc (.dK (putK us k y)))
   else CnD σ₀ acc (Pv (i + 1)) ((σ₀.set 0 (some (.int i))).set 1 (some x)) H4)
  (hd:∀ zs H,H acc=some (.dK zs)→Pv xs.length zs H→Q (.ref acc) H):tDCompN (g2 K) tt tk tv (Ite K a) acc σ₀ H₀ Q:=by
 refine ⟨fun i m σ H=>m=xs.length - i∧i ≤ xs.length∧CnD σ₀ acc (Pv i) σ H,⟨xs.length,by simp,Nat.zero_le _,fun _ _=>rfl,[],ja8,h0⟩,?_⟩
 rintro i m σ H ⟨rfl,hi,hσ,zs,hy,p⟩
 have q:=hl i zs H hi hy p
 by_cases hlt:i < xs.length
 ·refine .inr ⟨⟨xs,xs[i],q,by simp [hlt]⟩,CnD σ₀ acc (Pv (i + 1)),fun σ' H' c=>⟨xs.length - (i + 1),by omega,rfl,hlt,c⟩,fun x H' y=>?_⟩
  obtain ⟨pp,hp,rfl,hyy⟩:=y
  obtain ⟨z,hz,rfl⟩:=hyy xs q
  exact pair_in hσ hp fun H1 s1=>hs i z zs H H1 hz hy p s1
 ·have e:i=xs.length:=by omega
  subst e
  exact .inl ⟨⟨xs,q,Zd _⟩,hd zs H hy p⟩
end
section
variable {X:Cx}
end
end L2
namespace L2
open PySem PySem.Spec PyProof.Rows
def K0:PySem.W.Frag:=[]
section
variable {K:PySem.W.Frag} {H:Hp} {a:Addr} {xs:List V}
theorem SqL.k0 (h:SqL K0 H a xs):SqL K H a xs:=by
 rcases h with h | ⟨o,its,n,hk,_⟩
 ·exact .inl h
 ·exact absurd hk (by show ¬ (none=some o); simp)
theorem SqT.k0 (h:SqT K0 H a xs):SqT K H a xs:=by
 rcases h with h | ⟨o,its,n,hk,_⟩
 ·exact .inl h
 ·exact absurd hk (by show ¬ (none=some o); simp)
theorem Sq.k0 (h:SqL K0 H a xs ∨ SqT K0 H a xs):SqL K H a xs ∨ SqT K H a xs:=h.elim (fun z=>.inl z.k0) fun z=>.inr z.k0
mutual
theorem DtV.k0:∀ {v:V} {d:PyData},DtV K0 H v d→DtV K H v d
 | _,_,.non=>.non
 | _,_,.bl b=>.bl b
 | _,_,.int i=>.int i
 | _,_,.str x ok=>.str x ok
 | _,_,.lst h t=>.lst h.k0 (DtVs.k0 t)
 | _,_,.tup h t=>.tup h.k0 (DtVs.k0 t)
theorem DtVs.k0:∀ {vs:List V} {ds:List PyData},DtVs K0 H vs ds→DtVs K H vs ds
 | _,_,.nil=>.nil
 | _,_,.cons h t=>.cons (DtV.k0 h) (DtVs.k0 t)
end
end
section
variable {X:Cx} {tg l:Expr} {tl:TE}
theorem OpR.imp {f:Value→Value→Sem Value} {r r':R2} (h:OpR X f r) (hi:∀ x y H Q,r' x y H Q→r x y H Q):OpR X f r':=fun pins s σ H x y v u Q I rx ry q=>h pins s σ H x y v u Q I rx ry (hi _ _ _ _ q)
theorem CallR.imp {f:Value} {r r':List V→Hp→VK→Prop} (h:CallR X f r) (hi:∀ xs H Q,r' xs H Q→r xs H Q):CallR X f r':=fun pins s σ H xs us Q I rx q=>h pins s σ H xs us Q I rx (hi _ _ _ q)
theorem IxR.imp {r r':R2} (h:IxR X r) (hi:∀ x y H Q,r' x y H Q→r x y H Q):IxR X r':=fun a b pins s σ H x y v u Q I rx ry q=>h a b pins s σ H x y v u Q I rx ry (hi _ _ _ _ q)
theorem ixL0:IxR X (rIxL K0):=ix_list.imp fun _ _ _ _ ⟨p,xs,i,v,e1,e2,h,e3,q⟩=>⟨p,xs,i,v,e1,e2,h.k0,e3,q⟩
theorem ixT0:IxR X (rIxT K0):=ix_tup.imp fun _ _ _ _ ⟨p,xs,i,v,e1,e2,h,e3,q⟩=>⟨p,xs,i,v,e1,e2,h.k0,e3,q⟩
def rLen0:List V→Hp→VK→Prop:=fun xs H Q=>∃ p ys,xs=[.ref p]∧(SqL K0 H p ys ∨ SqT K0 H p ys)∧Q (.int ys.length) H
def rTup0:List V→Hp→VK→Prop:=fun xs H Q=>∃ p ys,xs=[.ref p]∧((SqL K0 H p ys∧∀ l,H l=none→Q (.ref l) (upd H l (.tup ys))) ∨ (SqT K0 H p ys∧Q (.ref p) H))
def rLst0:List V→Hp→VK→Prop:=fun xs H Q=>∃ p ys,xs=[.ref p]∧(SqL K0 H p ys ∨ SqT K0 H p ys)∧∀ l,H l=none→Q (.ref l) (upd H l (.lst ys))
def rAny0:List V→Hp→VK→Prop:=fun xs H Q=>∃ p ys,xs=[.ref p]∧(SqL K0 H p ys ∨ SqT K0 H p ys)∧ys.all plainB=true∧Q (.bl (ys.any tv)) H
def rAll0:List V→Hp→VK→Prop:=fun xs H Q=>∃ p ys,xs=[.ref p]∧(SqL K0 H p ys ∨ SqT K0 H p ys)∧ys.all plainB=true∧Q (.bl (ys.all tv)) H
def rSum0:List V→Hp→VK→Prop:=fun xs H Q=>∃ (p:Addr) (ns:List Int),xs=[.ref p]∧(SqL K0 H p (ns.map V.int) ∨ SqT K0 H p (ns.map V.int))∧Q (.int ns.sum) H
def rMax0:List V→Hp→VK→Prop:=fun xs H Q=>∃ (p:Addr) (ns:List Int),xs=[.ref p]∧(SqL K0 H p (ns.map V.int) ∨ SqT K0 H p (ns.map V.int))∧ns ≠ []∧∀ m,m ∈ ns→(∀ n ∈ ns,n ≤ m)→Q (.int m) H
theorem cLen0:CallR X (.builtin "len") rLen0:=call_len_seq.imp fun _ _ _ ⟨p,ys,e,h,q⟩=>⟨p,ys,e,Sq.k0 h,q⟩
theorem cTup0:CallR X (.type "tuple") rTup0:=call_tuple_of.imp fun _ _ _ ⟨p,ys,e,h⟩=>⟨p,ys,e,h.elim (fun z=>.inl ⟨z.1.k0,z.2⟩) fun z=>.inr ⟨z.1.k0,z.2⟩⟩
theorem cLst0:CallR X (.type "list") rLst0:=call_list_of.imp fun _ _ _ ⟨p,ys,e,h,q⟩=>⟨p,ys,e,Sq.k0 h,q⟩
theorem cAny0 (hc:X.calm=true):CallR X (.builtin "any") rAny0:=(call_any hc).imp fun _ _ _ ⟨p,ys,e,h,q⟩=>⟨p,ys,e,Sq.k0 h,q⟩
theorem cAll0 (hc:X.calm=true):CallR X (.builtin "all") rAll0:=(call_all hc).imp fun _ _ _ ⟨p,ys,e,h,q⟩=>⟨p,ys,e,Sq.k0 h,q⟩
theorem cSum0 (hc:X.calm=true):CallR X (.builtin "sum") rSum0:=(call_sum hc).imp fun _ _ _ ⟨p,ys,e,h,q⟩=>⟨p,ys,e,Sq.k0 h,q⟩
theorem cMax0 (hc:X.calm=true):CallR X (.builtin "max") rMax0:=(call_maxL hc).imp fun _ _ _ ⟨p,ys,e,h,q⟩=>⟨p,ys,e,Sq.k0 h,q⟩
theorem opEqD0 (hu:X.A.units + 64 < cLine):OpR X (compareOp .Eq) (rEqD K0):=(op_eqD hu).imp fun _ _ _ _ ⟨dx,dy,h1,h2,q⟩=>⟨dx,dy,h1.k0,h2.k0,q⟩
theorem opNeD0 (hu:X.A.units + 64 < cLine):OpR X (compareOp .NotEq) (rNeD K0):=(op_neD hu).imp fun _ _ _ _ ⟨dx,dy,h1,h2,q⟩=>⟨dx,dy,h1.k0,h2.k0,q⟩
theorem opIn0:OpR X (compareOp .In) (rIn K0 false):=op_in_seq.imp fun _ _ _ _ ⟨p,xs,e,h,q⟩=>⟨p,xs,e,Sq.k0 h,q⟩
theorem opNin0:OpR X (compareOp .NotIn) (rIn K0 true):=op_notIn_seq.imp fun _ _ _ _ ⟨p,xs,e,h,q⟩=>⟨p,xs,e,Sq.k0 h,q⟩
theorem slL0:SlR X (rSlL K0):=fun pins s σ H x v vl vu lo hi sl Q I rx hs pl pu ⟨a,xs,e,h,q⟩=>sl_list pins s σ H x v vl vu lo hi sl Q I rx hs pl pu ⟨a,xs,e,h.k0,q⟩
structure It.Le (J J':It):Prop where
 go:∀ i H,J'.go i H→J.go i H
 yld:∀ i H x H',J.yld i H x H'→J'.yld i H x H'
 stop:∀ i H,J'.stop i H→J.stop i H
theorem Turn.le {P:Program} {w:World} {K:PySem.W.Frag} {tg:Expr} {J J':It} {fp:List Addr} {it:Addr} {tn:Nat→Heap→Prop} (T:Turn P w K tg J fp it tn) (l:J.Le J'):Turn P w K tg J' fp it tn where
 mem:=T.mem
 obj:=T.obj
 keep:=T.keep
 item:=fun X hP hw hK hc i pins s σ H E I hf st hg=>thn (T.item X hP hw hK hc i pins s σ H E I hf st (l.go i H hg)) fun r s1 ⟨u,hr,h⟩=>⟨u,hr,thn h fun _ s2 ⟨x,H',a1,a2,a3,a4⟩=>⟨x,H',a1,a2,l.yld _ _ _ _ a3,a4⟩⟩
 done:=fun X hP hw hK hc i pins s σ H E I hf st hg=>T.done X hP hw hK hc i pins s σ H E I hf st (l.stop i H hg)
 self:=T.self
theorem le_list {K:PySem.W.Frag} {a:Addr}:(Itl K a).Le (Itl K0 a):=⟨fun i H ⟨xs,x,h,e⟩=>⟨xs,x,h.k0,e⟩,fun i H x H' ⟨e,h⟩=>⟨e,fun xs hx=>h xs hx.k0⟩,fun i H ⟨xs,h,e⟩=>⟨xs,h.k0,e⟩⟩
theorem le_tup {K:PySem.W.Frag} {a:Addr}:(Itt K a).Le (Itt K0 a):=⟨fun i H ⟨xs,x,h,e⟩=>⟨xs,x,h.k0,e⟩,fun i H x H' ⟨e,h⟩=>⟨e,fun xs hx=>h xs hx.k0⟩,fun i H ⟨xs,h,e⟩=>⟨xs,h.k0,e⟩⟩
theorem le_enum {K:PySem.W.Frag} {a:Addr}:(Ite K a).Le (Ite K0 a):=⟨fun i H ⟨xs,x,h,e⟩=>⟨xs,x,h.k0,e⟩,fun i H x H' ⟨p,e1,e2,h⟩=>⟨p,e1,e2,fun xs hx=>h xs hx.k0⟩,fun i H ⟨xs,h,e⟩=>⟨xs,h.k0,e⟩⟩
theorem le_zip {K:PySem.W.Frag} {a b:Addr}:(Itz K a b).Le (Itz K0 a b):=⟨fun i H ⟨xs,ys,x,y,h1,h2,e⟩=>⟨xs,ys,x,y,h1.k0,h2.k0,e⟩,fun i H x H' ⟨p,e1,e2,h⟩=>⟨p,e1,e2,fun xs ys h1 h2=>h xs ys h1.k0 h2.k0⟩,fun i H ⟨xs,ys,h1,h2,e⟩=>⟨xs,ys,h1.k0,h2.k0,e⟩⟩
theorem piL0 (hl:PE X l tl):PI X tg l (iList K0 tl):=by
 intro pins s σ H R I h
 refine thn (hl pins s σ H _ I h) fun v s1 ⟨x,H1,I1,r1,a,e,⟨xs,hq⟩,q⟩=>?_
 subst e
 cases r1
 obtain ⟨its,rv,p,hz⟩:=I1.list hq.k0
 refine wpAny_pyIter_list p.isList ⟨s1.heap.objs.size,[s1.heap.objs.size],_,Itl K0 a,H1,rfl,I1.kept (t':=s1.toks) fun b o e=>Heap.get?_push_of_some _ e,(turn_list (K:=X.K) a _).le le_list,⟨_,Heap.get?_push_size _ rfl,rfl,rfl⟩,fun b hb=>?_,q⟩
 obtain rfl:b=s1.heap.objs.size:=by simpa using hb
 exact I1.fpOk (Zd _) (I1.hok.fresh (Zd _))
theorem piT0 (hl:PE X l tl):PI X tg l (iTup K0 tl):=by
 intro pins s σ H R I h
 refine thn (hl pins s σ H _ I h) fun v s1 ⟨x,H1,I1,r1,a,e,⟨xs,hq⟩,q⟩=>?_
 subst e
 cases r1
 obtain ⟨its,rv,p,hz⟩:=I1.tuple hq.k0
 refine wpAny_pyIter_tuple (show s1.heap.IsTuple a its.toArray from p) ⟨s1.heap.objs.size,[s1.heap.objs.size],_,Itt K0 a,H1,rfl,I1.kept (t':=s1.toks) fun b o e=>Heap.get?_push_of_some _ e,(turn_tuple (K:=X.K) a _).le le_tup,⟨_,Heap.get?_push_size _ rfl,rfl,rfl⟩,fun b hb=>?_,q⟩
 obtain rfl:b=s1.heap.objs.size:=by simpa using hb
 exact I1.fpOk (Zd _) (I1.hok.fresh (Zd _))
theorem piEnum0 {a:Expr} {ta:TA} {p pos:Pos} {elts:List Expr} {kk} {tpos:Pos} (hg:Gl X "enumerate") (hm:X.mg "enumerate"=none) (hb:bootBuiltins "enumerate"=some (.type "enumerate")) (ha:PA X [a] ta) (hs:starEach [a] X.env=[(false,eval a X.env)]:=by rfl) :
  PI X (.Tuple elts kk tpos) (.Call (.Name "enumerate" p) [a] [] pos) (iEnum K0 ta):=by
 intro pins s σ H R I h
 refine Call_ (ld_blt I hg hm hb (PyProof.Rows.callWith_type1 (thn (ha pos pins s σ H _ I h) fun us s1 ⟨vs,H1,I1,r1,t,e,⟨xs,hq⟩,q⟩=>?_) hs rfl))
 subst e
 obtain ⟨u,rfl,ru⟩:=vals1 r1
 cases ru
 obtain ⟨its,rv,pl,hz⟩:=I1.tuple hq.k0
 refine call_enumerate_tup (show s1.heap.IsTuple t its.toArray from pl) fun h' he hit hsz hk=>wpAny_pyIter_enum he ?_
 refine ⟨s1.heap.objs.size + 1,[s1.heap.objs.size + 1,s1.heap.objs.size],_,Ite K0 t,H1,rfl,I1.kept (t':=s1.toks) hk,(turn_enum (K:=X.K) t _ s1.heap.objs.size (Nat.succ_ne_self _)).le le_enum,⟨⟨_,he⟩,hit⟩,fun b hb=>?_,q⟩
 rcases Zf.mp hb with rfl | hb
 ·exact I1.fpOk (Nat.le_succ _) (I1.hok.fresh (Nat.le_succ _))
 ·obtain rfl:b=s1.heap.objs.size:=by simpa using hb
  exact I1.fpOk (Zd _) I1.fresh
theorem pi_zip0 {a b:Expr} {ta:TA} {p pos:Pos} {elts:List Expr} {kk} {tpos:Pos} (hg:Gl X "zip") (hm:X.mg "zip"=none) (hb:bootBuiltins "zip"=some (.type "zip")) (ha:PA X [a,b] ta)
  (hs:starEach [a,b] X.env=[(false,eval a X.env),(false,eval b X.env)]:=by rfl) (hs2:starEach [b] X.env=[(false,eval b X.env)]:=by rfl):PI X (.Tuple elts kk tpos) (.Call (.Name "zip" p) [a,b] [] pos) (iZip K0 ta):=by
 intro pins s σ H R I h
 refine Call_ (ld_blt I hg hm hb (PyProof.Rows.callWith_type1 (thn (ha pos pins s σ H _ I h) fun us s1 ⟨vs,H1,I1,r1,q1⟩=>?_) (by rw [hs,hs2]) (by rw [hs2]; rfl)))
 obtain ⟨x,y,e,⟨xs,hq1⟩,⟨ys,hq2⟩,q⟩:=q1
 subst e
 cases r1 with
 | cons r rr =>
  cases rr with
  | cons r' rr =>
   cases rr
   cases r
   cases r'
   obtain ⟨us,ru,pu,zu⟩:=I1.tuple hq1.k0
   obtain ⟨vs,rv,pv,zv⟩:=I1.tuple hq2.k0
   have a1:x < s1.heap.objs.size:=by obtain ⟨_,e,_⟩:=(show s1.heap.IsTuple x us.toArray from pu); exact Heap.lt_size e
   have a2:y < s1.heap.objs.size:=by obtain ⟨_,e,_⟩:=(show s1.heap.IsTuple y vs.toArray from pv); exact Heap.lt_size e
   refine call_zipT (show s1.heap.IsTuple x us.toArray from pu) (show s1.heap.IsTuple y vs.toArray from pv) fun g z0 pI pO n1 n2 hk=>wpAny_pyIter_zip z0 ?_
   refine ⟨s1.heap.objs.size + 4,[s1.heap.objs.size + 4,s1.heap.objs.size + 2,s1.heap.objs.size + 3,s1.heap.objs.size,s1.heap.objs.size + 1],_,Itz K0 x y,H1,rfl,I1.kept (t':=s1.toks) hk,(turn_zip (K:=X.K) x y _ _ _ _ _ (zipApart_new a1 a2)).le le_zip,⟨z0,pI,⟨_,_,pO⟩,n1,n2⟩,fun c hc=>?_,q⟩
   have hge:s1.heap.objs.size ≤ c:=by
    simp only [Zf,List.not_mem_nil,or_false] at hc
    rcases hc with h | h | h | h | h <;> rw [h] <;> first | exact Nat.le_add_right _ _ | exact Zd _
   exact I1.fpOk hge (I1.hok.fresh hge)
theorem pgTup0 {es:List Expr} {k:Nat} {t:TGs} {n:Nat} {pos:Pos} (hc:X.calm=true) (h:PGs X es t) (hn:(assignEach es X.env).length=n:=by rfl) (hst:(assignEach es X.env).findIdx? (·.1)=none:=by rfl):PG X (.Tuple es k pos) (gTup K0 n t) :=
 fun pins s σ H v u Q I r ⟨a,xs,e,hq,q⟩=>pg_tup hc h hn hst pins s σ H v u Q I r ⟨a,xs,e,hq.k0,q⟩
theorem pgLst0 {es:List Expr} {k:Nat} {t:TGs} {n:Nat} {pos:Pos} (hc:X.calm=true) (h:PGs X es t) (hn:(assignEach es X.env).length=n:=by rfl) (hst:(assignEach es X.env).findIdx? (·.1)=none:=by rfl):PG X (.Tuple es k pos) (gLst K0 n t) :=
 fun pins s σ H v u Q I r ⟨a,xs,e,hq,q⟩=>pg_lst hc h hn hst pins s σ H v u Q I r ⟨a,xs,e,hq.k0,q⟩
theorem tyV.k0 {K:PySem.W.Frag} {T:String} {x:V} {H:Hp} (h:tyV K0 T x H):tyV K T x H:=by
 cases x with
 | ref p =>
  rcases h with ⟨e,xs,h⟩ | ⟨e,o,hk,_⟩ | h | h
  ·exact .inl ⟨e,xs,h.k0⟩
  ·exact absurd hk (by show ¬ (none=some o); simp)
  ·exact .inr (.inr (.inl h))
  ·exact .inr (.inr (.inr h))
 | _=>exact h
variable {o e:Expr} {es:List Expr} {to:TE} {t:TA} {name:Str} {apos cpos:Pos} {T id:String} {r:V→List V→Hp→VK→Prop}
theorem peBm0 (pa:PlainAttrs T) (slot:Slot T name id) (hty:typeOf (.builtin id)=pure (.type "method_descriptor")) (hm:MtR X id r) (ho:PE X o to) (ha:PA X (e :: es) t)
  (hbase:attributeBase o name X.env (eval o X.env)=eval o X.env:=by rfl)
  (hfew:((backTo cpos (starEach (e :: es) X.env)).all (fun x=>!x.1) && (backToKw cpos (keywordEach [] X.env)).all (fun x=>x.1.isSome)
   && decide ((e :: es).length + ([]:List Keyword).length + (if ([]:List Keyword).isEmpty then 0 else 1) < 30))=true:=by rfl)
  (hline:(apos.endLine == cpos.line)=true:=by rfl) (hs:starEach (e :: es) X.env=(false,eval e X.env) :: starEach es X.env:=by rfl) (hplain:(backTo cpos (starEach es X.env)).any (·.1)=false:=by rfl) :
  PE X (.Call (.Attribute o name apos) (e :: es) [] cpos) (tBM K0 T r to t):=by
 intro pins s σ H Q I h
 refine wpAny_Call_method_late hbase hfew hline rfl (thn (ho pins s σ H _ I h) fun v s1 ⟨x,H1,I1,r1,ty,q1⟩=>?_)
 obtain ⟨h1,h2⟩:=tyV_is I1 r1 ty.k0
 refine ⟨T,id,pa,slot,hty,h1,h2,?_⟩
 have hA:=ha cpos pins s1 σ H1 _ I1 q1
 rw [hs] at hA ⊢
 exact Calls.callWith_builtin (by show (false || (backTo cpos (starEach es X.env)).any (·.1))=false; rw [hplain] <;> rfl) (Calls.evalArgs_plain (thn hA fun us s2 ⟨vs,H2,I2,r2,q2⟩=>hm pins s2 σ H2 x vs v us Q I2 r1 r2 q2))
end
end L2
namespace K15
open PySem L2 KG EX KM
def top (i:Nat):Stmt:=PySem.Challenge.pw_wishmart_k15_shown_or_not.main.body.getD i (.Pass ⟨0,0,0,0⟩)
section
variable {P:Program} {w:World} {K:PySem.W.Frag} {mg:Str→Option Value} {base:Heap}
theorem scWhole:FnScope ["thing"] ["thing"] (ja3 (top 5)):=L2.fsc
theorem ok_whole {f:Addr} {fd:FuncData} (F:Fun K "is_whole" "is_whole" (top 5) f fd) (N:Nm mg) (Z:IsK K):FnOk P w K mg base CX0 1 f fd ["thing"] (spT ji3):=by
 refine F.ok scWhole (fun vs H Q E h=>?_) (fun cdv A outer s H vs Q E hr h=>?_)
 ·obtain ⟨b,v,d,rfl,_⟩:=h; rfl
 ·obtain ⟨b,v,d,rfl,hT,k⟩:=h
  refine ⟨_,ja7 (jb7 (pe_and (pIsi K (pv 0) rfl N.isinstance rfl N.int ji8 jb4) (pe_one (pe_not (pIsi K (pv 0) rfl N.isinstance rfl N.bool boot_bool jb4))))),?_⟩
  obtain ⟨t1,ty1,e1⟩:=isi Z hT
  obtain ⟨t2,ty2,e2⟩:=isb Z hT
  refine ⟨_,rfl,t1,_,ty1,e1,_,rfl,?_⟩
  have hk:=k H (Stay.refl H)
  rw [isWhole_eq] at hk
  cases hi:isI d with
  | true =>
   rw [hi] at hk
   refine iteT ⟨_,rfl,t2,_,ty2,e2,_,rfl,hk⟩
  | false =>
   rw [hi] at hk
   exact iteF hk
theorem scGcd:FnScope ["one","other"] ["one","other"] (ja3 (top 7)):=L2.fsc
theorem ok_gcd {f:Addr} {fd:FuncData} (F:Fun K "common_divisor" "common_divisor" (top 7) f fd) (N:Nm mg):FnOk P w K mg base CX0 1 f fd ["one","other"] spGcd:=by
 refine F.ok scGcd (fun vs H Q E h=>?_) (fun cdv A outer s H vs Q E hr h=>?_)
 ·obtain ⟨t,u,rfl,_⟩:=h; rfl
 ·obtain ⟨t,u,rfl,u0,k⟩:=h
  refine ⟨_,ja9 (ps_while PassesOwn.never (jc4 op_ne (pv 1) ja6 (nomark _)) (ja7 (ps_par (i:=0) (j:=1) rfl scGcd.nd rfl rfl (by decide) rfl rfl (ja1 (pv 1) (ja1 (jc3 op_mod (pv 0) (pv 1)) ja5)) (by rfl))))
   (ja7 (jb7 (jb3 call_abs (by rfl) N.abs boot_abs (ja1 (pv 0) ja5)))),?_⟩
  refine while_by (fun σ H'=>H'=H∧∃ a c:Int,σ=[some (.int a),some (.int c)]∧0 ≤ c∧Int.gcd a c=Int.gcd t u)
   (fun σ _=>match σ with | [_,some (.int c)]=>c.toNat | _=>0) ⟨rfl,t,u,rfl,u0,rfl⟩ ?_ ?_
  ·rintro σ H' ⟨rfl,a,c,rfl,c0,e⟩
   refine ⟨_,rfl,rfl,_,rfl,?_⟩
   by_cases hc:c=0
   ·subst hc
    refine iteF ?_
    refine ⟨_,rfl,_,rfl,?_⟩
    rw [abs_gcd,e]
    exact k
   ·have e1:(!decide (V.int c=V.int 0))=true:=by simp [hc]
    rw [e1]
    refine iteT ?_
    have cp:0 < c:=by omega
    refine ⟨_,rfl,_,rfl,_,rfl,_,_,rfl,rfl,cp,_,_,rfl,⟨rfl,c,a % c,rfl,Int.emod_nonneg _ hc,gcd_emod.trans e⟩,?_⟩
    have h1:=Int.emod_lt_of_pos a cp
    have h2:=Int.emod_nonneg a hc
    show (a % c).toNat < c.toNat
    omega
  ·rintro σ H' Q1 Q2 himp ⟨v,e,sc,kk,ek,q⟩
   exact ⟨v,e,sc,kk,ek,himp _ _ q⟩
theorem scFrac:FnScope ["thing","top","bottom"] ["thing"] (ja3 (top 6)):=L2.fsc
theorem ok_isfrac {f fW fG:Addr} {fd dW dG:FuncData} (F:Fun K "is_fraction" "is_fraction" (top 6) f fd) (N:Nm mg) (Z:IsK K) (W:Cal K mg P w base "is_whole" 1 ["thing"] (spT ji3) fW dW) (G:Cal K mg P w base "common_divisor" 1 ["one","other"] spGcd fG dG):FnOk P w K mg base CX0 2 f fd ["thing"] (spT isFrac):=by
 refine F.ok scFrac (fun vs H Q E h=>?_) (fun cdv A outer s H vs Q E hr h=>?_)
 ·obtain ⟨b,v,d,rfl,_⟩:=h; rfl
 ·obtain ⟨b,v,d,rfl,hT,k⟩:=h
  refine ⟨_,ja9 (jf6 (PW.pt (pw_or (je8 (je7 (pIsi K (pv 0) rfl N.isinstance rfl N.tuple jb8 jb4))) (jg7 (jc4 op_ne (jb3 cLen0 (by rfl) N.len PySem.boot_len (ja1 (pv 0) ja5)) ja6 (nomark _))))) (ja7 (jb7 jh0)) jc6)
   (ja9 (ps_asg (pv 0) (pgTup0 rfl (jc5 (jb0 (i:=1) scFrac.nd rfl (Or.inl rfl)) (jc5 (jb0 (i:=2) scFrac.nd rfl (Or.inl rfl)) jg5))))
   (ja9 (jf6 (PW.pt (pw_or (je8 (je7 (jb5 W.ok hr rfl W.mg W.kp W.bd .nil pass0 (ja1 (pv 1) ja5)))) (jg7 (je8 (je7 (jb5 W.ok hr rfl W.mg W.kp W.bd .nil pass0 (ja1 (pv 2) ja5))))))) (ja7 (jb7 jh0)) jc6)
   (ja7 (jb7 (pe_and (je2 op_ge (pv 2) ja6 (nomark _)) (pe_one (je2 op_eq (jb5 G.ok hr rfl G.mg G.kp G.bd .nil pass0 (ja1 (pv 1) (ja1 (pv 2) ja5))) ja6 (nomark _)))))))),?_⟩
  obtain ⟨t1,ty1,e1⟩:=ist Z hT
  refine ⟨_,rfl,t1,_,ty1,e1,_,rfl,?_⟩
  have hk:=k H (Stay.refl H)
  rcases jh1 hT with hn | ⟨a,xs,ds,rfl,rfl,ha,hs⟩
  ·rw [hn]; rw [isFrac_no hn] at hk
   exact iteT (iteT hk)
  refine iteF ?_
  refine ⟨_,rfl,a,xs,rfl,.inr (SqT.of ha),rfl,_,rfl,?_⟩
  by_cases hl:xs.length=2
  case neg =>
   have e2:(!decide (V.int (xs.length:Int)=V.int 2))=true:=jj0 (b:=2) hl
   rw [e2]
   have hl2:ds.length ≠ 2:=by rw [← hs.len]; exact hl
   have e3:isFrac (.tuple ds)=false:=isFrac_len hl2
   rw [e3] at hk
   exact iteT hk
  have e2:(!decide (V.int (xs.length:Int)=V.int 2))=false:=by rw [hl]; rfl
  rw [e2]
  refine iteF ?_
  match xs,ds,hl,hs with
  | [x,y],_,_,.cons (d:=dx) hx (.cons (d:=dy) hy .nil) =>
  refine ⟨_,rfl,a,_,rfl,SqT.of ha,rfl,_,_,rfl,_,_,rfl,rfl,?_⟩
  refine ⟨_,rfl,b,x,dx,rfl,hx,fun H1 s1=>?_⟩
  refine ⟨_,rfl,?_⟩
  rcases intCase hx with hn | ⟨i,rfl,rfl⟩
  ·rw [hn]
   refine iteT (iteT ?_)
   have e3:isFrac (.tuple [dx,dy])=false:=by cases dx <;> first | rfl | cases hn
   rw [e3] at k
   exact k H1 s1
  refine iteF ?_
  refine ⟨_,rfl,b,y,dy,rfl,hy.stay s1,fun H2 s2=>?_⟩
  refine ⟨_,rfl,?_⟩
  rcases intCase hy with hn | ⟨j,rfl,rfl⟩
  ·rw [hn]
   refine iteT ?_
   have e3:isFrac (.tuple [.int i,dy])=false:=by cases dy <;> first | rfl | cases hn
   rw [e3] at k
   exact k H2 (s1.trans s2)
  refine iteF ?_
  refine ⟨_,rfl,_,_,rfl,rfl,_,rfl,?_⟩
  have hk2:Q (.bl (decide ((1:Int) ≤ j) && decide (Int.gcd i j=1))) H2:=k H2 (s1.trans s2)
  by_cases hj:1 ≤ j
  ·have e4:decide ((1:Int) ≤ j)=true:=by simpa using hj
   rw [e4] at hk2 ⊢
   refine iteT ⟨_,rfl,_,rfl,i,j,rfl,by omega,rfl,?_⟩
   have e5:decide (V.int ((Int.gcd i j:Nat):Int)=V.int 1)=decide (Int.gcd i j=1):=by
    rw [decide_eq_decide]
    constructor
    ·intro h; injection h with h; omega
    ·intro h; rw [h]; rfl
   rw [e5]
   simpa using hk2
  ·have e4:decide ((1:Int) ≤ j)=false:=by simpa using hj
   rw [e4] at hk2 ⊢
   exact iteF hk2
theorem scTake:FnScope ["bag","many","found"] ["bag","many"] (ja3 (top 47)):=L2.fsc
theorem ok_take {f:Addr} {fd:FuncData} (F:Fun K "_law_take" "_law_take" (top 47) f fd):FnOk P w K mg base CX0 1 f fd ["bag","many"] spTake:=by
 refine F.ok scTake (fun vs H Q E h=>?_) (fun cdv A outer s H vs Q E hr h=>?_)
 ·obtain ⟨b,m,rfl,_⟩:=h; rfl
 ·obtain ⟨b,m,rfl,⟨c,d,hb⟩,h0,h1,k⟩:=h
  refine ⟨_,ja9 (jf6 (jc4 op_gt (jb9 ixL0 (pv 0) ja6 (fun _ _=>rfl)) ja6 (nomark _))
    (ja9 (jd7 (i:=2) scTake.nd rfl (Or.inl rfl) (jc3 op_mod (jb9 ixL0 (pv 0) ja6 (fun _ _=>rfl)) (pv 1)))
     (ja9 (ps_asg (jc3 op_fdiv (jb9 ixL0 (pv 0) ja6 (fun _ _=>rfl)) (pv 1)) (pg_sub (pv 0) ja6 set_list)) (ja7 (jb7 (pv 2))))) jc6)
   (ja9 (ps_asg (jc3 op_mod (jc3 op_mul (jb9 ixL0 (pv 0) ja6 (fun _ _=>rfl)) ja6) ja6) (pg_sub (pv 0) ja6 set_list))
    (ja7 (jb7 (jc3 op_mod (jc3 op_fdiv (jc3 op_mod (jc3 op_mul (jc3 op_fdiv (jb9 ixL0 (pv 0) ja6 (fun _ _=>rfl)) ja6) (jc3 op_add (jc3 op_mod (jb9 ixL0 (pv 0) ja6 (fun _ _=>rfl)) ja6) ja6)) ja6) ja6) (pv 1))))),?_⟩
  refine ⟨_,rfl,b,_,_,_,rfl,rfl,SqL.of hb,rfl,_,_,rfl,rfl,_,rfl,?_⟩
  refine ite2 (fun hc=>?_) (fun hc=>?_)
  ·refine ⟨_,rfl,b,_,_,_,rfl,rfl,SqL.of hb,rfl,_,rfl,_,_,rfl,rfl,h0,?_⟩
   refine ⟨_,rfl,b,_,_,_,rfl,rfl,SqL.of hb,rfl,_,rfl,_,_,rfl,rfl,⟨h0,h1⟩,?_⟩
   refine ⟨_,rfl,b,_,_,0,rfl,rfl,hb,rfl,?_⟩
   refine ⟨_,rfl,k _ _ (Int.emod_nonneg _ (by omega)) (Int.emod_lt_of_pos _ h0) ⟨_,_,ja8⟩ (Kp.refl b H).bag⟩
  ·refine ⟨_,rfl,b,_,_,_,rfl,rfl,SqL.of hb,rfl,_,_,rfl,rfl,.inr ⟨by decide,by decide⟩,_,_,rfl,rfl,(by show (0:Int) < 2147483647; decide),?_⟩
   refine ⟨_,rfl,b,_,_,1,rfl,rfl,hb,rfl,?_⟩
   have hb2:(upd H b (.lst [V.int c,V.int (d * 48271 % 2147483647)])) b=some (.lst [V.int c,V.int (d * 48271 % 2147483647)]):=ja8
   refine ⟨_,rfl,b,_,_,_,rfl,rfl,SqL.of hb2,rfl,_,_,rfl,rfl,⟨by decide,by decide⟩,?_⟩
   refine ⟨_,rfl,b,_,_,_,rfl,rfl,SqL.of hb2,rfl,_,_,rfl,rfl,(by show (0:Int) < 32749; decide),_,_,rfl,rfl,?_⟩
   refine ⟨_,_,rfl,rfl,.inr ⟨?_,?_⟩,?_⟩
   ·have:=Int.emod_nonneg (d * 48271 % 2147483647) (show (32749:Int) ≠ 0 by decide); omega
   ·have:=Int.emod_lt_of_pos (d * 48271 % 2147483647) (show (0:Int) < 32749 by decide); omega
   refine ⟨_,_,rfl,rfl,(by show (0:Int) < 2147483629; decide),_,_,rfl,rfl,⟨by decide,by decide⟩,_,rfl,_,_,rfl,rfl,h0,?_⟩
   exact k _ _ (Int.emod_nonneg _ (by omega)) (Int.emod_lt_of_pos _ h0) ⟨_,_,ja8⟩ (Kp.refl b H).bag
theorem scBag:FnScope ["script","k","cell","seed"] ["script","k"] (ja3 (top 46)):=L2.fsc
theorem ok_bag {f:Addr} {fd:FuncData} (F:Fun K "_law_bag" "_law_bag" (top 46) f fd) (B:Nm mg):FnOk P w K mg base CX0 1 f fd ["script","k"] (spBag K):=by
 refine F.ok scBag (fun vs H Q E h=>?_) (fun cdv A outer s H vs Q E hr h=>?_)
 ·obtain ⟨a,ns,k,rfl,_⟩:=h; rfl
 ·obtain ⟨a,ns,k,rfl,hS,h0,h1,q⟩:=h
  refine ⟨_,ja9 (jd7 (i:=2) scBag.nd rfl (Or.inl rfl) ja6)
   (ja9 (jf6 (jc4 op_lt (pv 1) (jb3 call_len_seq (by rfl) B.len PySem.boot_len (ja1 (pv 0) ja5)) (nomark _))
    (ja7 (jd7 (i:=2) scBag.nd rfl (Or.inl rfl) (jc3 op_mod (jb9 ix_list (pv 0) (pv 1) (fun _ _=>rfl)) (jc3 op_pow ja6 ja6)))) jc6)
   (ja9 (jd7 (i:=3) scBag.nd rfl (Or.inl rfl) (jc3 op_add ja6 (jc3 op_mod (jc3 op_add (jc3 op_add (jc3 op_add (jc3 op_mul (jc3 op_mod (pv 2) ja6) ja6) (jc3 op_mul (jc3 op_mul ja6 (pv 1)) (pv 1))) (jc3 op_mul ja6 (pv 1))) ja6) ja6)))
   (ja9 (jf6 (jc4 op_lt (pv 2) (jc3 op_pow ja6 ja6) (nomark _)) (ja7 (jb7 (pe_lst (ja1 ja6 (ja1 (pv 3) ja5))))) jc6)
   (ja7 (jb7 (pe_lst (ja1 (pv 2) (ja1 (pv 3) ja5)))))))),?_⟩
  refine ⟨_,rfl,_,rfl,a,_,rfl,.inl hS,_,_,rfl,rfl,_,rfl,?_⟩
  refine ite2 (fun hc=>?wayA) (fun hc=>?wayB)
  case' wayA =>
   have hk:k < (ns.length:Int):=by simpa using of_decide_eq_true hc
   have hat:atI (ns.map V.int) k=some (V.int (ns.getD k.toNat 0)):=by
    have e:(ns.map V.int)[k.toNat]?=some (V.int (ns.getD k.toNat 0)):=by
     have hl:k.toNat < ns.length:=by omega
     rw [Zg,Zc hl]
     simp [List.getD,Zc hl]
    have:=atI_nat e
    rw [Int.toNat_of_nonneg h0] at this
    exact this
   refine ⟨_,rfl,_,rfl,a,_,_,_,rfl,rfl,hS,hat,_,_,rfl,rfl,⟨by decide,by decide,by decide⟩,_,_,rfl,rfl,(by show (0:Int) < 10 ^ 60; decide),?_⟩
  all_goals
   refine ⟨_,rfl,_,_,rfl,rfl,(by show (0:Int) < 2147483629; decide),_,_,rfl,rfl,.inr ⟨by decide,by decide⟩,?_⟩
   refine ⟨_,rfl,_,_,rfl,rfl,.inl ⟨by decide,by decide⟩,_,rfl,_,_,rfl,rfl,.inr ⟨by omega,by omega⟩,_,_,rfl,rfl,?_⟩
   refine ⟨_,rfl,_,_,rfl,rfl,.inl ⟨by decide,by decide⟩,_,_,rfl,rfl,_,_,rfl,rfl,_,_,rfl,rfl,(by show (0:Int) < 2147483645; decide),_,_,rfl,rfl,?_⟩
   refine ⟨_,rfl,_,_,rfl,rfl,⟨by decide,by decide,by decide⟩,_,_,rfl,rfl,_,rfl,?_⟩
   refine ite2 (fun hc=>?_) (fun hc=>?_)
   ·exact ⟨_,rfl,by show 2 ≤ sizeLine; decide,fun p hp=>q p _ _ hp⟩
   ·exact ⟨_,rfl,_,rfl,by show 2 ≤ sizeLine; decide,fun p hp=>q p _ _ hp⟩
theorem scLFrac:FnScope ["top","bottom","one","other","by"] ["top","bottom"] (ja3 (top 48)):=L2.fsc
theorem ok_frac {f:Addr} {fd:FuncData} (F:Fun K "_law_frac" "_law_frac" (top 48) f fd) (B:Nm mg):FnOk P w K mg base CX0 1 f fd ["top","bottom"] spFrac:=by
 refine F.ok scLFrac (fun vs H Q E h=>?_) (fun cdv A outer s H vs Q E hr h=>?_)
 ·obtain ⟨t,u,rfl,_⟩:=h; rfl
 ·obtain ⟨t,u,rfl,u0,u1,k⟩:=h
  refine ⟨_,ja9 (ps_par (i:=2) (j:=3) rfl scLFrac.nd rfl rfl (by decide) rfl rfl (ja1 (pv 0) (ja1 (pv 1) ja5)) (by rfl))
   (ja9 (ps_while PassesOwn.never (jc4 op_ne (pv 3) ja6 (nomark _)) (ja7 (ps_par (i:=2) (j:=3) rfl scLFrac.nd rfl rfl (by decide) rfl rfl (ja1 (pv 3) (ja1 (jc3 op_mod (pv 2) (pv 3)) ja5)) (by rfl))))
   (ja9 (jd7 (i:=4) scLFrac.nd rfl (Or.inl rfl) (jc3 op_mul (jb3 call_abs (by rfl) B.abs boot_abs (ja1 (pv 2) ja5)) (jc3 op_sub ja6 (jc3 op_mul ja6 (jg9 jj8 (by rfl) B.int ji8 (ja1 (je2 op_lt (pv 1) ja6 (nomark _)) ja5))))))
   (ja7 (jb7 (pe_tup (ja1 (jc3 op_fdiv (pv 0) (pv 4)) (ja1 (jc3 op_fdiv (pv 1) (pv 4)) ja5))))))),?_⟩
  refine ⟨_,rfl,_,rfl,_,_,rfl,?_⟩
  refine while_by (fun σ H'=>H'=H∧∃ a c:Int,σ=[some (.int t),some (.int u),some (.int a),some (.int c),none]∧0 ≤ c∧Int.gcd a c=Int.gcd t u)
   (fun σ _=>match σ with | [_,_,_,some (.int c),_]=>c.toNat | _=>0) ⟨rfl,t,u,rfl,by omega,rfl⟩ ?_ ?_
  ·rintro σ H' ⟨rfl,a,c,rfl,c0,e⟩
   refine ⟨_,rfl,rfl,_,rfl,?_⟩
   by_cases hc:c=0
   ·subst hc
    refine iteF ?_
    refine ⟨_,rfl,_,rfl,_,rfl,_,_,rfl,rfl,.inr ⟨_,rfl,_,_,rfl,rfl,.inl ⟨by decide,by decide⟩,_,_,rfl,rfl,?_⟩⟩
    have e2:decide (u < 0)=false:=decide_eq_false (by omega)
    rw [abs_gcd,e,e2]
    obtain ⟨g0,g1⟩:=gcd_pos (t:=t) u0
    have e3:(Int.gcd t u:Int) * (1 - 2 * (if false=true then (1:Int) else 0))=(Int.gcd t u:Int):=by simp
    refine ⟨_,_,rfl,rfl,.inl ⟨by omega,by omega⟩,?_⟩
    show gName 4 (V.int ((Int.gcd t u:Int) * (1 - 2 * (if false=true then (1:Int) else 0)))) _ _ _
    rw [e3]
    exact ⟨_,rfl,_,rfl,_,_,rfl,rfl,⟨g0,by omega⟩,_,rfl,_,rfl,_,_,rfl,rfl,⟨g0,by omega⟩,by show 2 ≤ sizeLine; decide,fun p hp=>k p hp⟩
   ·have e1:(!decide (V.int c=V.int 0))=true:=by simp [hc]
    rw [e1]
    refine iteT ?_
    have cp:0 < c:=by omega
    refine ⟨_,rfl,_,rfl,_,rfl,_,_,rfl,rfl,cp,_,_,rfl,⟨rfl,c,a % c,rfl,Int.emod_nonneg _ hc,gcd_emod.trans e⟩,?_⟩
    have h1:=Int.emod_lt_of_pos a cp
    have h2:=Int.emod_nonneg a hc
    show (a % c).toNat < c.toNat
    omega
  ·rintro σ H' Q1 Q2 himp ⟨v,e,sc,kk,ek,q⟩
   exact ⟨v,e,sc,kk,ek,himp _ _ q⟩
theorem scLFr:FnScope ["thing"] ["thing"] (ja3 (top 55)):=L2.fsc
theorem ok_lisfrac {f fR:Addr} {fd dR:FuncData} (F:Fun K "_law_is_fraction" "_law_is_fraction" (top 55) f fd) (N:Nm mg) (Z:IsK K) (R:Cal K mg P w base "_law_frac" 1 ["top","bottom"] spFrac fR dR):FnOk P w K mg base CX0 2 f fd ["thing"] (spTs isFrac):=by
 refine F.ok scLFr (fun vs H Q E h=>?_) (fun cdv A outer s H vs Q E hr h=>?_)
 ·obtain ⟨b,v,d,rfl,_⟩:=h; rfl
 ·obtain ⟨b,v,d,rfl,hT,hsm,k⟩:=h
  have hu:=hr.units
  refine ⟨_,ja9 (jf6 (PW.pt (pw_or (je8 (je7 (pIsi K (pv 0) rfl N.isinstance rfl N.tuple jb8 jb4))) (jg7 (jc4 op_ne (jb3 cLen0 (by rfl) N.len PySem.boot_len (ja1 (pv 0) ja5)) ja6 (nomark _))))) (ja7 (jb7 jh0)) jc6)
   (ja9 (jf6 (jc4 (opNeD0 hu) (je0 (own:=["one"]) (cap:=[]) (ix:=[]) (BlkOk.of (ja3 (top 55)).names ["thing"]) rfl (piT0 (pv 0))
    (fun C fp s H=>⟨jb0 (i:=0) (show List.Nodup (["one"]:List Str) by decide +kernel) rfl (Or.inl rfl),pifs_one (PW.pt (pw_or (je8 (je7 (pIsi K (pv 0) rfl N.isinstance rfl N.int ji8 jb4))) (jg7 (je7 (pIsi K (pv 0) rfl N.isinstance rfl N.bool boot_bool jb4))))),pv 0⟩)) (pe_lst ja5) (nomark _)) (ja7 (jb7 jh0)) jc6)
   (ja7 (jb7 (pe_and (je2 op_gt (jb9 ixT0 (pv 0) ja6 (fun _ _=>rfl)) ja6 (nomark _)) (pe_one (je2 (opEqD0 hu) (pv 0) (jb5 R.ok hr rfl R.mg R.kp R.bd .nil pass0 (ja1 (jb9 ixT0 (pv 0) ja6 (fun _ _=>rfl)) (ja1 (jb9 ixT0 (pv 0) ja6 (fun _ _=>rfl)) ja5))) (nomark _))))))),?_⟩
  obtain ⟨t1,ty1,e1⟩:=ist Z hT
  refine ⟨_,rfl,t1,_,ty1,e1,_,rfl,?_⟩
  have hk:=k H (Stay.refl H)
  rcases jh1 hT with hn | ⟨a,xs,ds,rfl,rfl,ha,hs⟩
  ·rw [hn]; rw [isFrac_no hn] at hk
   exact iteT (iteT hk)
  refine iteF ?_
  have hlen:=hs.len
  refine ⟨_,rfl,a,xs,rfl,.inr (SqT.of ha),rfl,_,rfl,?_⟩
  by_cases hl:xs.length=2
  case neg =>
   have e2:(!decide (V.int (xs.length:Int)=V.int 2))=true:=jj0 (b:=2) hl
   rw [e2]
   rw [isFrac_len (by omega)] at hk
   exact iteT hk
  have e2:(!decide (V.int (xs.length:Int)=V.int 2))=false:=by rw [hl]; rfl
  rw [e2]
  refine iteF ?_
  refine ⟨_,rfl,a,rfl,⟨xs,SqT.of ha⟩,fun acc hacc=>?_⟩
  refine comp_filt ji3 hs ha hacc (by omega) (Nat.succ_pos _) (fun x d H' st hx _ Z0 hZ=>?_) (fun ys es H' st hy tr he=>?_)
  ·obtain ⟨u1,uy1,ue1⟩:=isi Z hx
   obtain ⟨u2,uy2,ue2⟩:=isb Z hx
   refine ⟨_,rfl,u1,_,uy1,ue1,_,rfl,?_⟩
   have hz:=hZ H' (Stay.refl H')
   rw [isWhole_eq] at hz
   cases hi:isI d with
   | false=>rw [hi] at hz; exact iteT hz
   | true=>rw [hi] at hz; exact iteF ⟨_,rfl,u2,_,uy2,ue2,_,rfl,by simpa using hz⟩
  refine ⟨by show 0 ≤ sizeLine; decide,fun q hq=>?_⟩
  have s2:Stay H' (upd H' q (.lst [])):=(Stay.refl H').new hq
  refine ⟨.list es,.list [],.lst (SqL.of (s2 _ _ hy)) (tr.stay s2).dt,.lst (SqL.of ja8) .nil,by show min _ 1 ≤ 60; omega,_,rfl,?_⟩
  rw [eqv_nil,he]
  have s3:=st.trans s2
  match xs,ds,hl,hs with
  | [x,y],_,_,.cons (d:=dx) hx (.cons (d:=dy) hy2 .nil) =>
  have hk3:=k _ s3
  rcases intCase hx with hn | ⟨i,rfl,rfl⟩
  ·have e3:isFrac (.tuple [dx,dy])=false:=by cases dx <;> first | rfl | cases hn
   rw [e3] at hk3
   have e4:(!List.all [dx,dy] ji3)=true:=by simp [hn]
   rw [e4]
   exact iteT hk3
  rcases intCase hy2 with hn | ⟨j,rfl,rfl⟩
  ·have e3:isFrac (.tuple [.int i,dy])=false:=by cases dy <;> first | rfl | cases hn
   rw [e3] at hk3
   have e4:(!List.all [.int i,dy] ji3)=true:=by simp [hn]
   rw [e4]
   exact iteT hk3
  refine iteF ?_
  have ha3:=s3 _ _ ha
  refine ⟨_,rfl,a,_,_,_,rfl,rfl,SqT.of ha3,rfl,_,_,rfl,rfl,_,rfl,?_⟩
  have hk2:Q (.bl (decide ((1:Int) ≤ j) && decide (Int.gcd i j=1))) _:=hk3
  have hsm':-1073741824 < j∧j < 1073741824:=by
   have:small (.int j)=true:=smalls_mem (ds:=[.int i,.int j]) hsm (by simp)
   have h2:(decide (-1073741824 < j) && decide (j < 1073741824))=true:=this
   simpa using h2
  by_cases hj:0 < j
  ·rw [decide_eq_true (show (1:Int) ≤ j by omega)] at hk2
   rw [decide_eq_true hj]
   refine iteT ⟨_,rfl,_,rfl,a,_,_,_,rfl,rfl,SqT.of ha3,rfl,_,rfl,a,_,_,_,rfl,rfl,SqT.of ha3,rfl,i,j,rfl,hj,hsm'.2,fun p hp=>?_⟩
   have s4:Stay _ (upd (upd H' q (.lst [])) p (.tup [.int (i / (Int.gcd i j:Int)),.int (j / (Int.gcd i j:Int))])):=(Stay.refl (upd H' q (.lst []))).new hp
   refine ⟨.tuple [.int i,.int j],.tuple [.int (i / (Int.gcd i j:Int)),.int (j / (Int.gcd i j:Int))],.tup (SqT.of (s4 _ _ ha3)) (.cons (.int i) (.cons (.int j) .nil)),.tup (SqT.of ja8) (.cons (.int _) (.cons (.int _) .nil)),?_,?_⟩
   ·simp [PyData.depth,PyData.depthAll]
   ·rw [frac_low hj]
    have:=k _ (s3.trans s4)
    have e5:isFrac (.tuple [.int i,.int j])=decide (Int.gcd i j=1):=by
     show (decide ((1:Int) ≤ j) && decide (Int.gcd i j=1))=_
     rw [decide_eq_true (show (1:Int) ≤ j by omega)]; rfl
    rw [e5] at this
    exact this
  ·rw [decide_eq_false (show ¬ (1:Int) ≤ j by omega)] at hk2
   rw [decide_eq_false hj]
   exact iteF hk2
theorem scOdd:FnScope ["bag","some"] ["bag"] (ja3 (top 63)):=L2.fsc
theorem scRep:FnScope ["bag","thing","deep","at","way"] ["bag","thing","deep"] (ja3 (top 64)):=L2.fsc
end
end K15
namespace KM
open PySem L2 KG EX
def intOf:PyData→Int
 | .int i=>i
 | _=>0
def rowOf:PyData→List Int
 | .tuple rs=>rs.map intOf
 | _=>[]
def rowsOf (wi:List PyData):List (List Int):=wi.map rowOf
theorem rows_of {b:Addr} {H:Hp} {n:Nat}:∀ {xw:List V} {wi:List PyData},TrVs b H xw wi→wi.all (isRow n 0 100)=true→Rws H xw (rowsOf wi)∧∀ r ∈ rowsOf wi,r.length=n∧∀ k ∈ r,0 ≤ k∧k ≤ 100
 | _,_,.nil,_=>⟨.nil,fun r h=>nomatch h⟩
 | _,_,.cons (d:=d) h t,e=>by
  rw [List.all_cons,Zm] at e
  obtain ⟨h1,h2⟩:=rows_of t e.2
  obtain ⟨rs,rfl,hl,hr⟩:=rowShape e.1
  cases h with
  | @tup a xs _ ha hs =>
  obtain ⟨ns,rfl,hn⟩:=intsOf hs hr
  have er:rs=ns.map PyData.int:=by
   clear ha hn hr hl e
   induction ns generalizing rs with
   | nil=>cases hs; rfl
   | cons m ns ih =>
    cases hs with
    | cons hx ht=>cases hx; rw [ih _ ht]; rfl
  subst er
  have eo:rowOf (.tuple (ns.map PyData.int))=ns:=by
   show (ns.map PyData.int).map intOf=ns
   rw [Zs]
   have:(intOf ∘ PyData.int)=fun i=>i:=rfl
   rw [this,List.map_id']
  refine ⟨?_,fun r hr'=>?_⟩
  ·show Rws H _ (rowOf (.tuple (ns.map PyData.int)) :: rowsOf _)
   rw [eo]
   exact .cons ⟨a,rfl,ha⟩ h1
  ·have hr2:r=rowOf (.tuple (ns.map PyData.int)) ∨ r ∈ rowsOf _:=Zf.mp hr'
   rcases hr2 with z | z
   ·rw [z,eo]; rw [Zb] at hl; exact ⟨hl,hn⟩
   ·exact h2 r z
structure MkAt (b:Addr) (H:Hp) (p pa pp pw:Addr) (xa xp xw:List V) (am pu wi:List PyData):Prop where
 hp:H p=some (.tup [.ref pa,.ref pp,.ref pw])
 ha:H pa=some (.tup xa)
 hpp:H pp=some (.tup xp)
 hw:H pw=some (.tup xw)
 ta:TrVs b H xa am
 tp:TrVs b H xp pu
 tw:TrVs b H xw wi
 ok:isMk (.tuple [.tuple am,.tuple pu,.tuple wi])=true
theorem MkAt.of {b p:Addr} {H:Hp} {am pu wi:List PyData} (h:TrV b H (.ref p) (.tuple [.tuple am,.tuple pu,.tuple wi])) (m:isMk (.tuple [.tuple am,.tuple pu,.tuple wi])=true):∃ pa pp pw xa xp xw,MkAt b H p pa pp pw xa xp xw am pu wi:=by
 cases h with
 | @tup _ xs0 _ hp hs0 =>
 match xs0,hs0 with
 | _,.cons (.tup (a:=pa) (xs:=xa) ha hsa) (.cons (.tup (a:=pp) (xs:=xp) hpp hsp) (.cons (.tup (a:=pw) (xs:=xw) hpw hsw) .nil))=>exact ⟨pa,pp,pw,xa,xp,xw,hp,ha,hpp,hpw,hsa,hsp,hsw,m⟩
theorem MkAt.stay {b p pa pp pw:Addr} {H H':Hp} {xa xp xw:List V} {am pu wi:List PyData} (m:MkAt b H p pa pp pw xa xp xw am pu wi) (s:Stay H H'):MkAt b H' p pa pp pw xa xp xw am pu wi :=
 ⟨s _ _ m.hp,s _ _ m.ha,s _ _ m.hpp,s _ _ m.hw,m.ta.stay s,m.tp.stay s,m.tw.stay s,m.ok⟩
def spLWished:Sp:=fun vs H Q _=>∃ (p pa pw:Addr) (z:V) (am ws:List V) (M:List (List Int)),vs=[.ref p]∧H p=some (.tup [.ref pa,z,.ref pw])∧H pa=some (.tup am)∧H pw=some (.tup ws)∧Rws H ws M∧M ≠ [] ∧
 (∀ r ∈ M,r.length=am.length)∧am.length ≤ 6∧ws.length ≤ 6∧∀ (q:Addr) (H':Hp),Stay H H'→H q=none→H' q=some (.lst (jf1 am.length M))→Q (.ref q) H'
theorem MkAt.lw {b p pa pp pw:Addr} {H:Hp} {xa xp xw:List V} {am pu wi:List PyData} (m:MkAt b H p pa pp pw xa xp xw am pu wi):Rws H xw (rowsOf wi)∧rowsOf wi ≠ []∧(∀ r ∈ rowsOf wi,r.length=xa.length)∧(∀ r ∈ rowsOf wi,∀ k ∈ r,0 ≤ k∧k ≤ 100)∧1 ≤ xa.length∧xa.length ≤ 6∧1 ≤ xw.length∧xw.length ≤ 6∧xp.length=xw.length:=by
 obtain ⟨h1,h2,h3,h4,h5,h6,h7,h8⟩:=jh4 m.ok
 obtain ⟨r1,r2⟩:=rows_of m.tw h8
 have la:=m.ta.len
 have lp:=m.tp.len
 have lw:=m.tw.len
 refine ⟨r1,?_,fun r hr=>by rw [(r2 r hr).1,la],fun r hr=>(r2 r hr).2,by omega,by omega,by omega,by omega,by omega⟩
 intro z
 have:=congrArg List.length z
 unfold rowsOf at this
 rw [Zb] at this
 simp at this
 rw [this] at h7
 simp at h7
 omega
theorem in_wished {M:List (List Int)} {g j:Nat} (hj:j < g):inV (V.int (0 + (j:Int))) (jf1 g M)=has M j:=by
 unfold inV jf1
 rw [List.any_map,Bool.eq_iff_iff,List.any_eq_true]
 constructor
 ·rintro ⟨k,hk,e⟩
  rw [List.mem_filter] at hk
  have e':(0 + (k:Int))=0 + (j:Int):=by simpa [eqV] using e
  have:k=j:=by omega
  subst this
  exact hk.2
 ·intro h
  refine ⟨j,by rw [List.mem_filter]; exact ⟨by simpa using hj,h⟩,by simp [eqV]⟩
theorem flat_wished (g:Nat) (M:List (List Int)):(jf1 g M).all flatV=true:=by
 unfold jf1
 rw [Zy]; simp [Function.comp_def,flatV]
def jh2 (wd:Bool):PyData→Bool
 | .tuple [.int t,.int u]=>isFrac (.tuple [.int t,.int u]) && (if wd then decide (0 < t) else decide (t=0) && decide (u=1))
 | _=>false
def isPrs (g:Nat) (M:List (List Int)):PyData→Bool
 | .tuple ds=>decide (ds.length=g) && (List.range g).all fun j=>jh2 (has M j) (ds.getD j .none)
 | _=>false
theorem isPrice_no {wd:Bool} {d:PyData} (h:isFrac d=false):jh2 wd d=false:=by
 unfold jh2
 split
 ·rw [h]; rfl
 ·rfl
theorem isPrs_no {g:Nat} {M:List (List Int)} {d:PyData} (h:isT d=false):isPrs g M d=false:=by cases d <;> first | rfl | cases h
theorem low_uniq {a b X Y:Int} (hb:0 < b) (hY:0 < Y) (g1:Int.gcd a b=1) (g2:Int.gcd X Y=1) (h:X * b=a * Y):X=a∧Y=b:=by
 have d1:Y ∣ b:=by
  have q:Y ∣ X * b:=⟨a,by rw [h,Int.mul_comm]⟩
  rw [← Int.dvd_gcd_mul_iff_dvd_mul,Int.gcd_comm,g2] at q
  simpa using q
 have d2:b ∣ Y:=by
  have q:b ∣ a * Y:=⟨X,by rw [← h,Int.mul_comm]⟩
  rw [← Int.dvd_gcd_mul_iff_dvd_mul,Int.gcd_comm,g1] at q
  simpa using q
 have e:Y=b:=Int.dvd_antisymm (by omega) (by omega) d1 d2
 subst e
 exact ⟨Int.eq_of_mul_eq_mul_right (by omega) h,rfl⟩
theorem jc8 (q:Rat):(0:Int) < (q.den:Int):=by have:=q.den_nz; omega
theorem rat_gcd (q:Rat):Int.gcd q.num (q.den:Int)=1:=q.reduced
theorem nf_rat {T U:Int} (hU:U ≠ 0):nx T U=(Rat.divInt T U).num∧ny T U=((Rat.divInt T U).den:Int):=by
 obtain ⟨n1,n2,n3,_⟩:=nf_spec (t:=T) hU
 have hd:=jc8 (Rat.divInt T U)
 have h1:T * ((Rat.divInt T U).den:Int)=(Rat.divInt T U).num * U:=by
  rw [← Rat.divInt_eq_divInt_iff hU (by omega),Rat.num_divInt_den]
 refine low_uniq hd n2 (rat_gcd _) n3 ?_
 have e:nx T U * ((Rat.divInt T U).den:Int) * U=(Rat.divInt T U).num * ny T U * U:=by
  calc nx T U * ((Rat.divInt T U).den:Int) * U=nx T U * U * ((Rat.divInt T U).den:Int):=by rw [Int.mul_right_comm]
   _=T * ny T U * ((Rat.divInt T U).den:Int):=by rw [n1]
   _=T * ((Rat.divInt T U).den:Int) * ny T U:=by rw [Int.mul_right_comm]
   _=(Rat.divInt T U).num * U * ny T U:=by rw [h1]
   _=(Rat.divInt T U).num * ny T U * U:=by rw [Int.mul_right_comm]
 exact Int.eq_of_mul_eq_mul_right hU e
abbrev qO (q:Rat):HO:=.tup [.int q.num,.int (q.den:Int)]
def Rb (k:Nat) (q:Rat):Prop:=Bd k q.num∧Bd k (q.den:Int)
theorem Rb.mono {j k:Nat} {q:Rat} (h:Rb j q) (hk:j ≤ k):Rb k q:=⟨h.1.mono hk,h.2.mono hk⟩
theorem rat_pos {q:Rat}:0 < q ↔ 0 < q.num:=by
 rw [Rat.lt_iff]; simp
theorem rat_of {t u:Int} (hu:0 < u) (hg:Int.gcd t u=1):∃ q:Rat,q.num=t∧(q.den:Int)=u:=by
 refine ⟨⟨t,u.toNat,by omega,?_⟩,rfl,by show ((u.toNat:Nat):Int)=u; omega⟩
 show Nat.gcd t.natAbs u.toNat=1
 have:u.toNat=u.natAbs:=by omega
 rw [this]; exact hg
theorem add_rat (a b:Rat):Rat.divInt (a.num * b.den + b.num * a.den) (a.den * b.den)=a + b:=by
 rw [← Rat.divInt_add_divInt _ _ (by have:=jc8 a; omega) (by have:=jc8 b; omega),Rat.num_divInt_den,Rat.num_divInt_den]
theorem mul_rat (a b:Rat):Rat.divInt (a.num * b.num) (a.den * b.den)=a * b:=by
 rw [← Rat.divInt_mul_divInt,Rat.num_divInt_den,Rat.num_divInt_den]
theorem sub_rat (a b:Rat):Rat.divInt (a.num * b.den - b.num * a.den) (a.den * b.den)=a - b:=by
 have h:=add_rat a (-b)
 rw [Rat.sub_eq_add_neg,← h]
 congr 1
 ·rw [Rat.neg_num,Rat.neg_den]
  rw [Int.neg_mul]; omega
theorem div_rat {a b:Rat} (hb:b.num ≠ 0):Rat.divInt (a.num * b.den) (a.den * b.num)=a / b:=by
 rw [Rat.div_def,Rat.inv_def]
 conv=>rhs; rw [← Rat.num_divInt_den a]
 rw [Rat.divInt_mul_divInt]
theorem lt_rat (a b:Rat):(a.num * b.den < b.num * a.den)=(a < b):=propext (Rat.lt_iff a b).symm
theorem rb_div {k:Nat} {T U:Int} (hU:U ≠ 0) (h1:Bd k T) (h2:Bd k U):Rb k (Rat.divInt T U):=by
 obtain ⟨e1,e2⟩:=nf_rat (T:=T) hU
 obtain ⟨_,_,_,_,n5,n6⟩:=nf_spec (t:=T) hU
 refine ⟨?_,?_⟩
 ·rw [← e1]; exact h1.le n5
 ·rw [← e2]; exact h2.le n6
theorem Bd.add {j:Nat} {a b:Int} (ha:Bd j a) (hb:Bd j b):Bd (j + 1) (a + b):=by
 unfold Bd at *
 rw [Nat.pow_succ]; omega
theorem rb_add {j k:Nat} {a b:Rat} (ha:Rb j a) (hb:Rb k b):Rb (j + k + 1) (a + b):=by
 rw [← add_rat]
 have h2:(a.den:Int) * b.den ≠ 0:=Int.ne_of_gt (Int.mul_pos (jc8 a) (jc8 b))
 refine rb_div h2 (Bd.add (ha.1.mul hb.2) ?_) ((ha.2.mul hb.2).mono (by omega))
 have:=hb.1.mul ha.2
 exact Bd.mono this (by omega)
theorem rb_mul {j k:Nat} {a b:Rat} (ha:Rb j a) (hb:Rb k b):Rb (j + k) (a * b):=by
 rw [← mul_rat]
 have h2:(a.den:Int) * b.den ≠ 0:=Int.ne_of_gt (Int.mul_pos (jc8 a) (jc8 b))
 exact rb_div h2 (ha.1.mul hb.1) (ha.2.mul hb.2)
def spFr (Nn:Addr):Sp:=fun vs H Q E=>∃ (t u:Int),vs=[.int t,.int u]∧Bd 8000 u∧(u=0→E (.ref Nn) none H)∧(u ≠ 0→∀ p,H p=none→Q (.ref p) (upd H p (qO (Rat.divInt t u))))
def spLf:Sp:=fun vs H Q _=>∃ (t u:Int),vs=[.int t,.int u]∧0 < u∧Bd 8000 u∧∀ p,H p=none→Q (.ref p) (upd H p (qO (Rat.divInt t u)))
def sp2 (op:Rat→Rat→Rat):Sp:=fun vs H Q _=>∃ (p q:Addr) (a b:Rat),vs=[.ref p,.ref q]∧H p=some (qO a)∧H q=some (qO b)∧Rb 3000 a∧Rb 3000 b∧∀ r,H r=none→Q (.ref r) (upd H r (qO (op a b)))
def spOver (Nn:Addr):Sp:=fun vs H Q E=>∃ (p q:Addr) (a b:Rat),vs=[.ref p,.ref q]∧H p=some (qO a)∧H q=some (qO b)∧Rb 3000 a∧Rb 3000 b∧(b=0→E (.ref Nn) none H)∧(b ≠ 0→∀ r,H r=none→Q (.ref r) (upd H r (qO (a / b))))
def spLess:Sp:=fun vs H Q _=>∃ (p q:Addr) (a b:Rat),vs=[.ref p,.ref q]∧H p=some (qO a)∧H q=some (qO b)∧Rb 3000 a∧Rb 3000 b∧Q (.bl (decide (a < b))) H
def qPl:Rat→Rat→Rat:=fun a b=>a + b
def qMi:Rat→Rat→Rat:=fun a b=>a - b
def qTi:Rat→Rat→Rat:=fun a b=>a * b
theorem b3 {n:Int} (h:Bd 3000 n):Bd 8000 n:=h.mono (by decide)
theorem b6 {n:Int} (h:Bd (3000 + 3000) n):Bd 8000 n:=h.mono (by decide)
theorem sg_bd {k:Nat} {t u:Int} (h:Bd k u) (hu:u ≠ 0):Bd k (sg t u):=by
 refine h.le ?_
 have g0:0 < Int.gcd t u:=Int.gcd_pos_of_ne_zero_right t hu
 have e:(sg t u).natAbs=Int.gcd t u:=by unfold sg; split <;> omega
 rw [e]
 exact Nat.le_of_dvd (by omega) (Int.gcd_dvd_natAbs_right t u)
theorem abs_gcd0 {a:Int}:(if a < 0 then -a else a)=(Int.gcd a 0:Int):=by
 rw [Int.gcd_zero_right]
 split <;> omega
def spGcdN:Sp:=fun vs H Q _=>∃ (t u:Int),vs=[.int t,.int u]∧Q (.int (Int.gcd t u)) H
theorem prs_iff {g:Nat} {M:List (List Int)} {ds:List PyData}:isPrs g M (.tuple ds)=true ↔ ds.length=g∧∀ j,j < g→jh2 (has M j) (ds.getD j .none)=true:=by
 show (decide (ds.length=g) && (List.range g).all fun j=>jh2 (has M j) (ds.getD j .none))=true ↔ _
 rw [Zm,decide_eq_true_eq,Zt]
 constructor
 ·rintro ⟨h1,h2⟩; exact ⟨h1,fun j hj=>h2 j (by simpa using hj)⟩
 ·rintro ⟨h1,h2⟩; exact ⟨h1,fun j hj=>h2 j (by simpa using hj)⟩
def qD (q:Rat):PyData:=.tuple [.int q.num,.int (q.den:Int)]
theorem isFrac_q (q:Rat):isFrac (qD q)=true:=by
 have h:=jc8 q
 show (decide (1 ≤ (q.den:Int)) && decide (Int.gcd q.num (q.den:Int)=1))=true
 rw [decide_eq_true (show 1 ≤ (q.den:Int) by omega),decide_eq_true (rat_gcd q)]; rfl
theorem frac_q {d:PyData} (h:isFrac d=true):∃ q:Rat,d=qD q:=by
 obtain ⟨t,u,rfl,hu,hg⟩:=fracShape h
 obtain ⟨q,e1,e2⟩:=rat_of (t:=t) (u:=u) (by omega) (by omega)
 exact ⟨q,by unfold qD; rw [e1,e2]⟩
theorem isPrice_q {wd:Bool} {q:Rat}:jh2 wd (qD q)=true ↔ (if wd=true then 0 < q else q=0):=by
 show (isFrac (qD q) && (if wd then decide (0 < q.num) else decide (q.num=0) && decide ((q.den:Int)=1)))=true ↔ _
 rw [isFrac_q]
 cases wd with
 | true=>simp [rat_pos]
 | false =>
  simp
  rintro rfl; rfl
structure Prs (M:List (List Int)) (qs:List Rat):Prop where
 pos:∀ j,j < qs.length→has M j=true→0 < qs.getD j 0
 nil:∀ j,j < qs.length→has M j=false→qs.getD j 0=0
theorem ji6 {α β : Type} {f:α→β} {xs:List α} {j:Nat} {a:α} {b:β} (h:j < xs.length):(xs.map f).getD j b=f (xs.getD j a):=by
 simp [List.getD,Zg,Zc h]
theorem prs_q {g:Nat} {M:List (List Int)} {qs:List Rat}:isPrs g M (.tuple (qs.map qD))=true ↔ qs.length=g∧Prs M qs:=by
 rw [prs_iff,Zb]
 constructor
 ·rintro ⟨h1,h2⟩
  refine ⟨h1,⟨fun j hj hh=>?_,fun j hj hh=>?_⟩⟩
  ·have:=h2 j (by omega)
   rw [ji6 (a:=0) hj,isPrice_q,hh] at this
   exact this
  ·have:=h2 j (by omega)
   rw [ji6 (a:=0) hj,isPrice_q,hh] at this
   exact this
 ·rintro ⟨h1,h2⟩
  refine ⟨h1,fun j hj=>?_⟩
  rw [ji6 (a:=0) (by omega),isPrice_q]
  cases hh:has M j with
  | true=>exact h2.pos j (by omega) hh
  | false=>exact h2.nil j (by omega) hh
theorem prs_some {g:Nat} {M:List (List Int)} {d:PyData} (h:isPrs g M d=true):∃ qs:List Rat,d=.tuple (qs.map qD)∧qs.length=g∧Prs M qs:=by
 cases d with
 | tuple ds =>
  obtain ⟨h1,h2⟩:=prs_iff.mp h
  have:∃ qs:List Rat,ds=qs.map qD:=by
   have hall:∀ d ∈ ds,∃ q:Rat,d=qD q:=fun d hd=>by
    obtain ⟨j,hj,e⟩:=List.getElem_of_mem hd
    have:=h2 j (by omega)
    have e2:ds.getD j .none=d:=by simp [List.getD,Zc hj,e]
    rw [e2] at this
    cases hf:isFrac d with
    | true=>exact frac_q hf
    | false=>rw [isPrice_no hf] at this; cases this
   clear h h1 h2
   induction ds with
   | nil=>exact ⟨[],rfl⟩
   | cons d ds ih =>
    obtain ⟨q,rfl⟩:=hall d (Yb)
    obtain ⟨qs,rfl⟩:=ih fun d hd=>hall d (Zu _ hd)
    exact ⟨q :: qs,rfl⟩
  obtain ⟨qs,rfl⟩:=this
  exact ⟨qs,rfl,prs_q.mp h⟩
 | _=>cases h
def worse (row:List Int) (qs:List Rat) (g o:Nat):Bool:=decide (0 < row.getD o 0) && decide ((row.getD g 0:Rat) * qs.getD o 0 < (row.getD o 0:Rat) * qs.getD g 0)
def bestB (row:List Int) (qs:List Rat) (g:Nat):Bool:=decide (row.getD g 0 ≠ 0) && (List.range row.length).all fun o=>!worse row qs g o
def bestR (row:List Int) (qs:List Rat):List Nat:=(List.range row.length).filter (bestB row qs)
def bestM (M:List (List Int)) (qs:List Rat):List (List Int):=M.map fun row=>(bestR row qs).map fun g:Nat=>(g:Int)
def natsV (gs:List Nat):List V:=gs.map fun g:Nat=>V.int (g:Int)
structure ArgP (b:Addr) (H:Hp) (p pa pp pw:Addr) (xa xp xw:List V) (am pu wi:List PyData) (v:V) (d:PyData):Prop where
 m:MkAt b H p pa pp pw xa xp xw am pu wi
 tr:TrV b H v d
 wd:∀ qs:List Rat,d=.tuple (qs.map qD)→∀ z ∈ qs,Rb 300 z
theorem ArgP.stay {b:Addr} {H H':Hp} {p pa pp pw:Addr} {xa xp xw:List V} {am pu wi:List PyData} {v:V} {d:PyData} (a:ArgP b H p pa pp pw xa xp xw am pu wi v d) (s:Stay H H'):ArgP b H' p pa pp pw xa xp xw am pu wi v d:=⟨a.m.stay s,a.tr.stay s,a.wd⟩
def spAre:Sp:=fun vs H Q _=>∃ (b p pa pp pw:Addr) (xa xp xw:List V) (am pu wi:List PyData) (v:V) (d:PyData),vs=[.ref p,v]∧MkAt b H p pa pp pw xa xp xw am pu wi∧TrV b H v d∧∀ H',Stay H H'→Q (.bl (isPrs xa.length (rowsOf wi) d)) H'
def spBest (Pr:Addr):Sp:=fun vs H Q E=>∃ (b p pa pp pw:Addr) (xa xp xw:List V) (am pu wi:List PyData) (v:V) (d:PyData),vs=[.ref p,v]∧ArgP b H p pa pp pw xa xp xw am pu wi v d ∧
 (isPrs xa.length (rowsOf wi) d=false→∀ H',Stay H H'→E (.ref Pr) none H') ∧
 (∀ qs:List Rat,d=.tuple (qs.map qD)→qs.length=xa.length→Prs (rowsOf wi) qs→∀ (r:Addr) (xs:List V) (H':Hp),Stay H H'→H' r=some (.tup xs)→Rws H' xs (bestM (rowsOf wi) qs)→Q (.ref r) H')
end KM
namespace K15
open PySem L2 KG EX KM
section
variable {P:Program} {w:World} {K:PySem.W.Frag} {mg:Str→Option Value} {base:Heap}
theorem scLWished:FnScope ["market"] ["market"] (ja3 (top 59)):=L2.fsc
theorem ok_lwished {f:Addr} {fd:FuncData} (F:Fun K "_law_wished" "_law_wished" (top 59) f fd) (B:Nm mg):FnOk P w K mg base CX0 1 f fd ["market"] spLWished:=by
 refine F.ok scLWished (fun vs H Q E h=>?_) (fun cdv A outer s H vs Q E hr h=>?_)
 ·obtain ⟨p,pa,pw,z,am,ws,M,rfl,_⟩:=h; rfl
 ·obtain ⟨p,pa,pw,z,am,ws,M,rfl,hp,ha,hw,hR,hne,hlen,l1,l2,k⟩:=h
  refine ⟨_,ja7 (jb7 (je0 (own:=["good"]) (cap:=["market"]) (ix:=[0]) (BlkOk.of (ja3 (top 59)).names ["market"]) rfl
    (jg8 rfl B.range (ja1 (jb3 cLen0 (by rfl) B.len PySem.boot_len (ja1 (jb9 ixT0 (pv 0) ja6 (fun _ _=>rfl)) ja5)) ja5))
    (fun C fp s H=>⟨jb0 (i:=0) (show List.Nodup (["good","market"]:List Str) by decide +kernel) rfl (Or.inr rfl),
     pifs_one (jc4 op_gt (jb3 (cMax0 rfl) (by rfl) B.max boot_max (ja1 (je0 (own:=["row"]) (cap:=["good"]) (ix:=[0]) (BlkOk.of [(".0",.local),("good",.cell),("max",.globalImplicit),("market",.cell)] ["good","market"]) rfl (piT0 (jb9 ixT0 (pv 1) ja6 (fun _ _=>rfl)))
      (fun C fp s H=>⟨jb0 (i:=0) (show List.Nodup (["row","good"]:List Str) by decide +kernel) rfl (Or.inl rfl),jd6,jb9 ixT0 (pv 0) (pv 1) (fun _ _=>rfl)⟩)) ja5)) ja6 (nomark _)),
     pv 0⟩))),?_⟩
  refine ⟨_,rfl,p,_,_,_,rfl,rfl,SqT.of hp,rfl,pa,am,rfl,.inr (SqT.of ha),(am.length:Int),rfl,by omega,by omega,fun acc hacc=>?_⟩
  refine comp_range (fun i ys H'=>Stay H H'∧ys=jf1 i M) ⟨(Stay.refl H).acc hacc,rfl⟩ ?_ ?_
  ·rintro i ys H' hi hy ⟨st,rfl⟩
   have hi':i < am.length:=by simpa using hi
   refine ⟨_,rfl,p,_,_,_,rfl,rfl,SqT.of (st _ _ hp),rfl,pw,rfl,⟨ws,SqT.of (st _ _ hw)⟩,fun acc2 hacc2=>?_⟩
   refine jh5 (xs:=ws) (fun j zs H2=>Stay H' H2∧zs=(M.take j).map fun r=>V.int (r.getD i 0)) ⟨(Stay.refl H').acc hacc2,rfl⟩ (fun j ys H2 _ _ q=>SqT.of (q.1 _ _ (st _ _ hw))) ?_ ?_
   ·rintro j x zs H2 hx hz ⟨st2,rfl⟩
    refine yes_i ?_
    obtain ⟨ns,a,hM,rfl,hA⟩:=hR.at hx
    have hA2:=st2 _ _ (st _ _ hA)
    have hnl:=hlen ns (Zi hM)
    obtain ⟨ea,_,_⟩:=atI_ints (ns:=ns) (r:=0 + (i:Int)) (by omega) (by omega)
    have et:(0 + (i:Int)).toNat=i:=by omega
    rw [et] at ea
    refine ⟨_,rfl,_,rfl,a,_,_,_,rfl,rfl,SqT.of hA2,ea,_,hz,?_,Cn.of ja8 ⟨st2.acc hacc2,?_⟩⟩
    ·rw [Zb,Zz,sz]; have:=hR.len; omega
    ·rw [List.take_add_one,hM,Zh]
     rfl
   ·rintro zs H2 hz ⟨st2,rfl⟩
    have hl:=hR.len
    rw [hl,Ye] at hz
    have e2:(M.map fun r=>V.int (r.getD i 0))=(M.map fun r=>r.getD i 0).map V.int:=by rw [Zs]; rfl
    rw [e2] at hz
    refine ⟨acc2,M.map fun r=>r.getD i 0,rfl,.inl (SqL.of hz),by simpa using hne,fun m hm hmax=>⟨_,_,rfl,rfl,_,rfl,?_⟩⟩
    have e:decide (0 < m)=has M i:=by
     rw [Bool.eq_iff_iff,decide_eq_true_eq]
     unfold has
     simp only [List.any_eq_true,decide_eq_true_eq]
     constructor
     ·intro h
      obtain ⟨r,hr,e⟩:=Zk.mp hm
      exact ⟨r,hr,by rw [e]; exact h⟩
     ·rintro ⟨r,hr,h⟩
      have:=hmax _ (Zk.mpr ⟨r,hr,rfl⟩)
      omega
    rw [e]
    have hy2:=st2 _ _ hy
    cases hh:has M i with
    | true =>
     refine iteT ⟨_,rfl,_,hy2,?_,Cn.of ja8 ⟨(st.trans st2).acc hacc,?_⟩⟩
     ·have:=wishedL_len i M; rw [sz]; omega
     ·rw [ji4,hh]; rfl
    | false =>
     refine iteF (Cn.of hy2 ⟨st.trans st2,?_⟩)
     rw [ji4,hh]; simp
  ·rintro ys H' hy ⟨st,rfl⟩
   have e:((am.length:Int)).toNat=am.length:=by simp
   rw [e] at hy
   exact k acc _ st hacc hy
end
section
variable {P:Program} {w:World} {K:PySem.W.Frag} {mg:Str→Option Value} {base:Heap}
theorem scGcdN:FnScope ["one","other"] ["one","other"] (ja3 (top 7)):=L2.fsc
theorem ok_gcdN {f:Addr} {fd:FuncData} (F:Fun K "common_divisor" "common_divisor" (top 7) f fd) (N:Nm mg):FnOk P w K mg base CX0 1 f fd ["one","other"] spGcdN:=by
 refine F.ok scGcdN (fun vs H Q E h=>?_) (fun cdv A outer s H vs Q E hr h=>?_)
 ·obtain ⟨t,u,rfl,_⟩:=h; rfl
 ·obtain ⟨t,u,rfl,k⟩:=h
  refine ⟨_,ja9 (ps_while PassesOwn.never (jc4 op_ne (pv 1) ja6 (nomark _)) (ja7 (ps_par (i:=0) (j:=1) rfl scGcdN.nd rfl rfl (by decide) rfl rfl (ja1 (pv 1) (ja1 (jc3 op_modN (pv 0) (pv 1)) ja5)) (by rfl))))
   (ja7 (jb7 (jb3 call_abs (by rfl) N.abs boot_abs (ja1 (pv 0) ja5)))),?_⟩
  refine while_by (fun σ H'=>H'=H∧∃ a c:Int,σ=[some (.int a),some (.int c)]∧Int.gcd a c=Int.gcd t u)
   (fun σ _=>match σ with | [_,some (.int c)]=>c.natAbs | _=>0) ⟨rfl,t,u,rfl,rfl⟩ ?_ ?_
  ·rintro σ H' ⟨rfl,a,c,rfl,e⟩
   refine ⟨_,rfl,rfl,_,rfl,?_⟩
   by_cases hc:c=0
   ·subst hc
    refine iteF ?_
    refine ⟨_,rfl,_,rfl,?_⟩
    rw [abs_gcd0,e]
    exact k
   ·have e1:(!decide (V.int c=V.int 0))=true:=by simp [hc]
    rw [e1]
    refine iteT ?_
    exact ⟨_,rfl,_,rfl,_,rfl,_,_,rfl,rfl,hc,_,_,rfl,⟨rfl,c,a.fmod c,rfl,gcd_fmod.trans e⟩,fmod_lt hc⟩
  ·rintro σ H' Q1 Q2 himp ⟨v,e,sc,kk,ek,q⟩
   exact ⟨v,e,sc,kk,ek,himp _ _ q⟩
theorem scFr:FnScope ["top","bottom","divisor"] ["top","bottom"] (ja3 (top 8)):=L2.fsc
theorem ok_fraction {f fG Nn:Addr} {fd dG:FuncData} (F:Fun K "fraction" "fraction" (top 8) f fd) (mgNn:mg "NoNumber"=some (.ref Nn)) (exN:PySem.W.excIn K Nn [.type "ValueError",.type "Exception",.type "BaseException",.type "object"] "ValueError.__new__"=true) (G:Cal K mg P w base "common_divisor" 1 ["one","other"] spGcdN fG dG):FnOk P w K mg base (CXF P w) 2 f fd ["top","bottom"] (spFr Nn):=by
 refine F.okX scFr (fun vs H Q E h=>?_) (fun cdv A outer s H vs Q E hr h=>?_)
 ·obtain ⟨t,u,rfl,_⟩:=h; rfl
 ·obtain ⟨t,u,rfl,hb,k0,k1⟩:=h
  refine ⟨_,ja9 (jf6 (jc4 op_eq (pv 1) ja6 (nomark _)) (ja7 (ps_raise PySem.F.excBase_ValueError rfl mgNn exN (ja1 pe_str ja5))) jc6)
   (ja9 (jd7 (i:=2) scFr.nd rfl (Or.inl rfl) (jb5 G.ok hr rfl G.mg G.kp G.bd .nil pass0 (ja1 (pv 0) (ja1 (pv 1) ja5))))
   (ja9 (jf6 (jc4 op_lt (pv 1) ja6 (nomark _)) (ja7 (jd7 (i:=2) scFr.nd rfl (Or.inl rfl) (pe_un un_neg (pv 2)))) jc6)
   (ja7 (jb7 (pe_tup (ja1 (jc3 op_fdivBN (pv 0) (pv 2)) (ja1 (jc3 op_fdivBN (pv 1) (pv 2)) ja5))))))),?_⟩
  refine ⟨_,rfl,rfl,_,rfl,?_⟩
  by_cases hu:u=0
  ·subst hu
   exact iteT ⟨by show 1 ≤ sizeLine; decide,k0 rfl⟩
  have e1:decide (V.int u=V.int 0)=false:=by simp [hu]
  rw [e1]
  refine iteF ?_
  refine ⟨_,rfl,_,rfl,t,u,rfl,?_⟩
  refine ⟨_,rfl,_,_,rfl,rfl,_,rfl,?_⟩
  have hs:=(nf_spec (t:=t) hu).2.2.2.1
  have hsb:=sg_bd (t:=t) hb hu
  obtain ⟨q1,q2⟩:=nf_rat (T:=t) hu
  have k1':∀ p,H p=none→Q (.ref p) (upd H p (.tup [.int (nx t u),.int (ny t u)])):=fun p hp=>by rw [q1,q2]; exact k1 hu p hp
  have fin:∀ d:Int,d=sg t u→(tRet (tTup (tCons (tOp (rI (fun _ j=>j ≠ 0∧Bd 8000 j) fun i j=>.int (i.fdiv j)) (tVar 0) (tVar 2)) (tCons (tOp (rI (fun _ j=>j ≠ 0∧Bd 8000 j) fun i j=>.int (i.fdiv j)) (tVar 1) (tVar 2)) tNil)))) { nx:=fun _ H'=>Q .non H',rt:=Q } [some (.int t),some (.int u),some (.int d)] H:=fun d hd=>by
   subst hd
   exact ⟨_,rfl,_,rfl,_,_,rfl,rfl,⟨hs,hsb⟩,_,rfl,_,rfl,_,_,rfl,rfl,⟨hs,hsb⟩,by show 2 ≤ sizeLine; decide,fun p hp=>k1' p hp⟩
  by_cases hn:u < 0
  ·rw [decide_eq_true hn]
   exact iteT ⟨_,rfl,_,rfl,fin _ (by unfold sg; rw [if_pos hn])⟩
  ·rw [decide_eq_false hn]
   exact iteF (fin _ (by unfold sg; rw [if_neg hn]))
theorem scLf:FnScope ["top","bottom","one","other","by"] ["top","bottom"] (ja3 (top 48)):=L2.fsc
theorem ok_lf {f:Addr} {fd:FuncData} (F:Fun K "_law_frac" "_law_frac" (top 48) f fd) (B:Nm mg):FnOk P w K mg base CX0 1 f fd ["top","bottom"] spLf:=by
 refine F.ok scLf (fun vs H Q E h=>?_) (fun cdv A outer s H vs Q E hr h=>?_)
 ·obtain ⟨t,u,rfl,_⟩:=h; rfl
 ·obtain ⟨t,u,rfl,u0,u1,k⟩:=h
  refine ⟨_,ja9 (ps_par (i:=2) (j:=3) rfl scLf.nd rfl rfl (by decide) rfl rfl (ja1 (pv 0) (ja1 (pv 1) ja5)) (by rfl))
   (ja9 (ps_while PassesOwn.never (jc4 op_ne (pv 3) ja6 (nomark _)) (ja7 (ps_par (i:=2) (j:=3) rfl scLf.nd rfl rfl (by decide) rfl rfl (ja1 (pv 3) (ja1 (jc3 op_modN (pv 2) (pv 3)) ja5)) (by rfl))))
   (ja9 (jd7 (i:=4) scLf.nd rfl (Or.inl rfl) (jc3 op_mul (jb3 call_abs (by rfl) B.abs boot_abs (ja1 (pv 2) ja5)) (jc3 op_sub ja6 (jc3 op_mul ja6 (jg9 jj8 (by rfl) B.int ji8 (ja1 (je2 op_lt (pv 1) ja6 (nomark _)) ja5))))))
   (ja7 (jb7 (pe_tup (ja1 (jc3 op_fdivBN (pv 0) (pv 4)) (ja1 (jc3 op_fdivBN (pv 1) (pv 4)) ja5))))))),?_⟩
  have hu:u ≠ 0:=by omega
  obtain ⟨q1,q2⟩:=nf_rat (T:=t) hu
  have k':∀ p,H p=none→Q (.ref p) (upd H p (.tup [.int (nx t u),.int (ny t u)])):=fun p hp=>by rw [q1,q2]; exact k p hp
  have hs:=(nf_spec (t:=t) hu).2.2.2.1
  have hsb:=sg_bd (t:=t) u1 hu
  have esg:(Int.gcd t u:Int)=sg t u:=by unfold sg; rw [if_neg (by omega)]
  refine ⟨_,rfl,_,rfl,_,_,rfl,?_⟩
  refine while_by (fun σ H'=>H'=H∧∃ a c:Int,σ=[some (.int t),some (.int u),some (.int a),some (.int c),none]∧Int.gcd a c=Int.gcd t u)
   (fun σ _=>match σ with | [_,_,_,some (.int c),_]=>c.natAbs | _=>0) ⟨rfl,t,u,rfl,rfl⟩ ?_ ?_
  ·rintro σ H' ⟨rfl,a,c,rfl,e⟩
   refine ⟨_,rfl,rfl,_,rfl,?_⟩
   by_cases hc:c=0
   ·subst hc
    refine iteF ?_
    refine ⟨_,rfl,_,rfl,_,rfl,_,_,rfl,rfl,.inr ⟨_,rfl,_,_,rfl,rfl,.inl ⟨by decide,by decide⟩,_,_,rfl,rfl,?_⟩⟩
    have e2:decide (u < 0)=false:=decide_eq_false (by omega)
    rw [abs_gcd0,e,e2,esg]
    have e3:sg t u * (1 - 2 * (if false=true then (1:Int) else 0))=sg t u:=by simp
    refine ⟨_,_,rfl,rfl,.inr ⟨by decide,by decide⟩,?_⟩
    show gName 4 (V.int (sg t u * (1 - 2 * (if false=true then (1:Int) else 0)))) _ _ _
    rw [e3]
    exact ⟨_,rfl,_,rfl,_,_,rfl,rfl,⟨hs,hsb⟩,_,rfl,_,rfl,_,_,rfl,rfl,⟨hs,hsb⟩,by show 2 ≤ sizeLine; decide,fun p hp=>k' p hp⟩
   ·have e1:(!decide (V.int c=V.int 0))=true:=by simp [hc]
    rw [e1]
    refine iteT ?_
    exact ⟨_,rfl,_,rfl,_,rfl,_,_,rfl,rfl,hc,_,_,rfl,⟨rfl,c,a.fmod c,rfl,gcd_fmod.trans e⟩,fmod_lt hc⟩
  ·rintro σ H' Q1 Q2 himp ⟨v,e,sc,kk,ek,q⟩
   exact ⟨v,e,sc,kk,ek,himp _ _ q⟩
theorem sc_plus:FnScope ["one","other"] ["one","other"] (ja3 (top 9)):=L2.fsc
theorem ok_plus {f fF Nn:Addr} {fd dF:FuncData} (F:Fun K "plus" "plus" (top 9) f fd) (G:CalX K mg P w base "fraction" 2 ["top","bottom"] (spFr Nn) fF dF):FnOk P w K mg base (CXF P w) 3 f fd ["one","other"] (sp2 qPl):=by
 refine F.okX sc_plus (fun vs H Q E h=>?_) (fun cdv A outer s H vs Q E hr h=>?_)
 ·obtain ⟨p,q,a,b,rfl,_⟩:=h; rfl
 ·obtain ⟨p,q,a,b,rfl,hp,hq,⟨ba,bb⟩,⟨bc,bd⟩,k⟩:=h
  have hb:=jc8 a
  have hd:=jc8 b
  refine ⟨_,ja7 (jb7 (jb5 G.ok hr rfl G.mg G.kp G.bd .nil passF (ja1 (jc3 op_add (jc3 jd3 (jb9 ixT0 (pv 0) ja6 (fun _ _=>rfl)) (jb9 ixT0 (pv 1) ja6 (fun _ _=>rfl))) (jc3 jd3 (jb9 ixT0 (pv 1) ja6 (fun _ _=>rfl)) (jb9 ixT0 (pv 0) ja6 (fun _ _=>rfl)))) (ja1 (jc3 jd3 (jb9 ixT0 (pv 0) ja6 (fun _ _=>rfl)) (jb9 ixT0 (pv 1) ja6 (fun _ _=>rfl))) ja5)))),?_⟩
  refine ⟨_,rfl,p,_,_,_,rfl,rfl,SqT.of hp,rfl,_,rfl,q,_,_,_,rfl,rfl,SqT.of hq,rfl,_,_,rfl,rfl,⟨b3 ba,b3 bd⟩,_,rfl,q,_,_,_,rfl,rfl,SqT.of hq,rfl,_,rfl,p,_,_,_,rfl,rfl,SqT.of hp,rfl,_,_,rfl,rfl,⟨b3 bc,b3 bb⟩,_,_,rfl,rfl,_,rfl,p,_,_,_,rfl,rfl,SqT.of hp,rfl,_,rfl,q,_,_,_,rfl,rfl,SqT.of hq,rfl,_,_,rfl,rfl,⟨b3 bb,b3 bd⟩,?_⟩
  exact ⟨_,_,rfl,b6 (bb.mul bd),fun h0=>absurd h0 (Int.ne_of_gt (Int.mul_pos hb hd)),fun _ r hr'=>by rw [add_rat]; exact k r hr'⟩
theorem sc_times:FnScope ["one","other"] ["one","other"] (ja3 (top 10)):=L2.fsc
theorem ok_times {f fF Nn:Addr} {fd dF:FuncData} (F:Fun K "times" "times" (top 10) f fd) (G:CalX K mg P w base "fraction" 2 ["top","bottom"] (spFr Nn) fF dF):FnOk P w K mg base (CXF P w) 3 f fd ["one","other"] (sp2 qTi):=by
 refine F.okX sc_times (fun vs H Q E h=>?_) (fun cdv A outer s H vs Q E hr h=>?_)
 ·obtain ⟨p,q,a,b,rfl,_⟩:=h; rfl
 ·obtain ⟨p,q,a,b,rfl,hp,hq,⟨ba,bb⟩,⟨bc,bd⟩,k⟩:=h
  have hb:=jc8 a
  have hd:=jc8 b
  refine ⟨_,ja7 (jb7 (jb5 G.ok hr rfl G.mg G.kp G.bd .nil passF (ja1 (jc3 jd3 (jb9 ixT0 (pv 0) ja6 (fun _ _=>rfl)) (jb9 ixT0 (pv 1) ja6 (fun _ _=>rfl))) (ja1 (jc3 jd3 (jb9 ixT0 (pv 0) ja6 (fun _ _=>rfl)) (jb9 ixT0 (pv 1) ja6 (fun _ _=>rfl))) ja5)))),?_⟩
  refine ⟨_,rfl,p,_,_,_,rfl,rfl,SqT.of hp,rfl,_,rfl,q,_,_,_,rfl,rfl,SqT.of hq,rfl,_,_,rfl,rfl,⟨b3 ba,b3 bc⟩,_,rfl,p,_,_,_,rfl,rfl,SqT.of hp,rfl,_,rfl,q,_,_,_,rfl,rfl,SqT.of hq,rfl,_,_,rfl,rfl,⟨b3 bb,b3 bd⟩,?_⟩
  exact ⟨_,_,rfl,b6 (bb.mul bd),fun h0=>absurd h0 (Int.ne_of_gt (Int.mul_pos hb hd)),fun _ r hr'=>by rw [mul_rat]; exact k r hr'⟩
theorem sc_law_add:FnScope ["one","other"] ["one","other"] (ja3 (top 49)):=L2.fsc
theorem ok_law_add {f fF:Addr} {fd dF:FuncData} (F:Fun K "_law_add" "_law_add" (top 49) f fd) (G:Cal K mg P w base "_law_frac" 1 ["top","bottom"] spLf fF dF):FnOk P w K mg base CX0 2 f fd ["one","other"] (sp2 qPl):=by
 refine F.ok sc_law_add (fun vs H Q E h=>?_) (fun cdv A outer s H vs Q E hr h=>?_)
 ·obtain ⟨p,q,a,b,rfl,_⟩:=h; rfl
 ·obtain ⟨p,q,a,b,rfl,hp,hq,⟨ba,bb⟩,⟨bc,bd⟩,k⟩:=h
  have hb:=jc8 a
  have hd:=jc8 b
  refine ⟨_,ja7 (jb7 (jb5 G.ok hr rfl G.mg G.kp G.bd .nil pass0 (ja1 (jc3 op_add (jc3 jd3 (jb9 ixT0 (pv 0) ja6 (fun _ _=>rfl)) (jb9 ixT0 (pv 1) ja6 (fun _ _=>rfl))) (jc3 jd3 (jb9 ixT0 (pv 1) ja6 (fun _ _=>rfl)) (jb9 ixT0 (pv 0) ja6 (fun _ _=>rfl)))) (ja1 (jc3 jd3 (jb9 ixT0 (pv 0) ja6 (fun _ _=>rfl)) (jb9 ixT0 (pv 1) ja6 (fun _ _=>rfl))) ja5)))),?_⟩
  refine ⟨_,rfl,p,_,_,_,rfl,rfl,SqT.of hp,rfl,_,rfl,q,_,_,_,rfl,rfl,SqT.of hq,rfl,_,_,rfl,rfl,⟨b3 ba,b3 bd⟩,_,rfl,q,_,_,_,rfl,rfl,SqT.of hq,rfl,_,rfl,p,_,_,_,rfl,rfl,SqT.of hp,rfl,_,_,rfl,rfl,⟨b3 bc,b3 bb⟩,_,_,rfl,rfl,_,rfl,p,_,_,_,rfl,rfl,SqT.of hp,rfl,_,rfl,q,_,_,_,rfl,rfl,SqT.of hq,rfl,_,_,rfl,rfl,⟨b3 bb,b3 bd⟩,?_⟩
  exact ⟨_,_,rfl,Int.mul_pos hb hd,b6 (bb.mul bd),fun r hr'=>by rw [add_rat]; exact k r hr'⟩
theorem sc_law_sub:FnScope ["one","other"] ["one","other"] (ja3 (top 50)):=L2.fsc
theorem ok_law_sub {f fF:Addr} {fd dF:FuncData} (F:Fun K "_law_sub" "_law_sub" (top 50) f fd) (G:Cal K mg P w base "_law_frac" 1 ["top","bottom"] spLf fF dF):FnOk P w K mg base CX0 2 f fd ["one","other"] (sp2 qMi):=by
 refine F.ok sc_law_sub (fun vs H Q E h=>?_) (fun cdv A outer s H vs Q E hr h=>?_)
 ·obtain ⟨p,q,a,b,rfl,_⟩:=h; rfl
 ·obtain ⟨p,q,a,b,rfl,hp,hq,⟨ba,bb⟩,⟨bc,bd⟩,k⟩:=h
  have hb:=jc8 a
  have hd:=jc8 b
  refine ⟨_,ja7 (jb7 (jb5 G.ok hr rfl G.mg G.kp G.bd .nil pass0 (ja1 (jc3 op_sub (jc3 jd3 (jb9 ixT0 (pv 0) ja6 (fun _ _=>rfl)) (jb9 ixT0 (pv 1) ja6 (fun _ _=>rfl))) (jc3 jd3 (jb9 ixT0 (pv 1) ja6 (fun _ _=>rfl)) (jb9 ixT0 (pv 0) ja6 (fun _ _=>rfl)))) (ja1 (jc3 jd3 (jb9 ixT0 (pv 0) ja6 (fun _ _=>rfl)) (jb9 ixT0 (pv 1) ja6 (fun _ _=>rfl))) ja5)))),?_⟩
  refine ⟨_,rfl,p,_,_,_,rfl,rfl,SqT.of hp,rfl,_,rfl,q,_,_,_,rfl,rfl,SqT.of hq,rfl,_,_,rfl,rfl,⟨b3 ba,b3 bd⟩,_,rfl,q,_,_,_,rfl,rfl,SqT.of hq,rfl,_,rfl,p,_,_,_,rfl,rfl,SqT.of hp,rfl,_,_,rfl,rfl,⟨b3 bc,b3 bb⟩,_,_,rfl,rfl,_,rfl,p,_,_,_,rfl,rfl,SqT.of hp,rfl,_,rfl,q,_,_,_,rfl,rfl,SqT.of hq,rfl,_,_,rfl,rfl,⟨b3 bb,b3 bd⟩,?_⟩
  exact ⟨_,_,rfl,Int.mul_pos hb hd,b6 (bb.mul bd),fun r hr'=>by rw [sub_rat]; exact k r hr'⟩
theorem sc_law_mul:FnScope ["one","other"] ["one","other"] (ja3 (top 51)):=L2.fsc
theorem ok_law_mul {f fF:Addr} {fd dF:FuncData} (F:Fun K "_law_mul" "_law_mul" (top 51) f fd) (G:Cal K mg P w base "_law_frac" 1 ["top","bottom"] spLf fF dF):FnOk P w K mg base CX0 2 f fd ["one","other"] (sp2 qTi):=by
 refine F.ok sc_law_mul (fun vs H Q E h=>?_) (fun cdv A outer s H vs Q E hr h=>?_)
 ·obtain ⟨p,q,a,b,rfl,_⟩:=h; rfl
 ·obtain ⟨p,q,a,b,rfl,hp,hq,⟨ba,bb⟩,⟨bc,bd⟩,k⟩:=h
  have hb:=jc8 a
  have hd:=jc8 b
  refine ⟨_,ja7 (jb7 (jb5 G.ok hr rfl G.mg G.kp G.bd .nil pass0 (ja1 (jc3 jd3 (jb9 ixT0 (pv 0) ja6 (fun _ _=>rfl)) (jb9 ixT0 (pv 1) ja6 (fun _ _=>rfl))) (ja1 (jc3 jd3 (jb9 ixT0 (pv 0) ja6 (fun _ _=>rfl)) (jb9 ixT0 (pv 1) ja6 (fun _ _=>rfl))) ja5)))),?_⟩
  refine ⟨_,rfl,p,_,_,_,rfl,rfl,SqT.of hp,rfl,_,rfl,q,_,_,_,rfl,rfl,SqT.of hq,rfl,_,_,rfl,rfl,⟨b3 ba,b3 bc⟩,_,rfl,p,_,_,_,rfl,rfl,SqT.of hp,rfl,_,rfl,q,_,_,_,rfl,rfl,SqT.of hq,rfl,_,_,rfl,rfl,⟨b3 bb,b3 bd⟩,?_⟩
  exact ⟨_,_,rfl,Int.mul_pos hb hd,b6 (bb.mul bd),fun r hr'=>by rw [mul_rat]; exact k r hr'⟩
theorem scok_less:FnScope ["one","other"] ["one","other"] (ja3 (top 12)):=L2.fsc
theorem ok_less {f:Addr} {fd:FuncData} (F:Fun K "less" "less" (top 12) f fd):FnOk P w K mg base CX0 1 f fd ["one","other"] spLess:=by
 refine F.ok scok_less (fun vs H Q E h=>?_) (fun cdv A outer s H vs Q E hr h=>?_)
 ·obtain ⟨p,q,a,b,rfl,_⟩:=h; rfl
 ·obtain ⟨p,q,a,b,rfl,hp,hq,⟨ba,bb⟩,⟨bc,bd⟩,k⟩:=h
  have hb:=jc8 a
  have hd:=jc8 b
  refine ⟨_,ja7 (jb7 (je2 op_lt (jc3 jd3 (jb9 ixT0 (pv 0) ja6 (fun _ _=>rfl)) (jb9 ixT0 (pv 1) ja6 (fun _ _=>rfl))) (jc3 jd3 (jb9 ixT0 (pv 1) ja6 (fun _ _=>rfl)) (jb9 ixT0 (pv 0) ja6 (fun _ _=>rfl))) (nomark _))),?_⟩
  exact ⟨_,rfl,p,_,_,_,rfl,rfl,SqT.of hp,rfl,_,rfl,q,_,_,_,rfl,rfl,SqT.of hq,rfl,_,_,rfl,rfl,⟨b3 ba,b3 bd⟩,_,rfl,q,_,_,_,rfl,rfl,SqT.of hq,rfl,_,rfl,p,_,_,_,rfl,rfl,SqT.of hp,rfl,_,_,rfl,rfl,⟨b3 bc,b3 bb⟩,_,_,rfl,rfl,by simp only [lt_rat]; exact k⟩
theorem scok_law_less:FnScope ["one","other"] ["one","other"] (ja3 (top 53)):=L2.fsc
theorem ok_law_less {f:Addr} {fd:FuncData} (F:Fun K "_law_less" "_law_less" (top 53) f fd):FnOk P w K mg base CX0 1 f fd ["one","other"] spLess:=by
 refine F.ok scok_law_less (fun vs H Q E h=>?_) (fun cdv A outer s H vs Q E hr h=>?_)
 ·obtain ⟨p,q,a,b,rfl,_⟩:=h; rfl
 ·obtain ⟨p,q,a,b,rfl,hp,hq,⟨ba,bb⟩,⟨bc,bd⟩,k⟩:=h
  have hb:=jc8 a
  have hd:=jc8 b
  refine ⟨_,ja7 (jb7 (je2 op_lt (jc3 jd3 (jb9 ixT0 (pv 0) ja6 (fun _ _=>rfl)) (jb9 ixT0 (pv 1) ja6 (fun _ _=>rfl))) (jc3 jd3 (jb9 ixT0 (pv 1) ja6 (fun _ _=>rfl)) (jb9 ixT0 (pv 0) ja6 (fun _ _=>rfl))) (nomark _))),?_⟩
  exact ⟨_,rfl,p,_,_,_,rfl,rfl,SqT.of hp,rfl,_,rfl,q,_,_,_,rfl,rfl,SqT.of hq,rfl,_,_,rfl,rfl,⟨b3 ba,b3 bd⟩,_,rfl,q,_,_,_,rfl,rfl,SqT.of hq,rfl,_,rfl,p,_,_,_,rfl,rfl,SqT.of hp,rfl,_,_,rfl,rfl,⟨b3 bc,b3 bb⟩,_,_,rfl,rfl,by simp only [lt_rat]; exact k⟩
theorem scOver:FnScope ["one","other"] ["one","other"] (ja3 (top 11)):=L2.fsc
theorem ok_over {f fF Nn:Addr} {fd dF:FuncData} (F:Fun K "over" "over" (top 11) f fd) (G:CalX K mg P w base "fraction" 2 ["top","bottom"] (spFr Nn) fF dF):FnOk P w K mg base (CXF P w) 3 f fd ["one","other"] (spOver Nn):=by
 refine F.okX scOver (fun vs H Q E h=>?_) (fun cdv A outer s H vs Q E hr h=>?_)
 ·obtain ⟨p,q,a,b,rfl,_⟩:=h; rfl
 ·obtain ⟨p,q,a,b,rfl,hp,hq,⟨ba,bb⟩,⟨bc,bd⟩,k0,k1⟩:=h
  have hb:=jc8 a
  have hd:=jc8 b
  refine ⟨_,ja7 (jb7 (jb5 G.ok hr rfl G.mg G.kp G.bd .nil passF (ja1 (jc3 jd3 (jb9 ixT0 (pv 0) ja6 (fun _ _=>rfl)) (jb9 ixT0 (pv 1) ja6 (fun _ _=>rfl))) (ja1 (jc3 jd3 (jb9 ixT0 (pv 0) ja6 (fun _ _=>rfl)) (jb9 ixT0 (pv 1) ja6 (fun _ _=>rfl))) ja5)))),?_⟩
  refine ⟨_,rfl,p,_,_,_,rfl,rfl,SqT.of hp,rfl,_,rfl,q,_,_,_,rfl,rfl,SqT.of hq,rfl,_,_,rfl,rfl,⟨b3 ba,b3 bd⟩,?_⟩
  refine ⟨_,rfl,p,_,_,_,rfl,rfl,SqT.of hp,rfl,_,rfl,q,_,_,_,rfl,rfl,SqT.of hq,rfl,_,_,rfl,rfl,⟨b3 bb,b3 bc⟩,?_⟩
  refine ⟨_,_,rfl,b6 (bb.mul bc),fun h0=>k0 ?_,fun h0 r hr'=>?_⟩
  ·rcases Int.mul_eq_zero.mp h0 with z | z
   ·omega
   ·exact Rat.num_eq_zero.mp z
  ·have hn:b.num ≠ 0:=fun z=>h0 (by rw [z,Int.mul_zero])
   rw [div_rat hn]
   exact k1 (fun z=>hn (by rw [z]; rfl)) r hr'
end
end K15
namespace KM
open PySem L2 KG EX
theorem mul_den (x:Rat):x * (((x.den:Int):Int):Rat)=(x.num:Rat):=by
 have hd:=jc8 x
 rw [← mul_rat,Rat.num_intCast,Rat.den_intCast,← Rat.num_divInt_den (x.num:Rat),Rat.num_intCast,Rat.den_intCast,Rat.divInt_eq_divInt_iff (by simpa using (by omega:(x.den:Int) ≠ 0)) (by decide)]
 simp
theorem worse_int {a b:Int} {x y:Rat}:((a:Rat) * x < (b:Rat) * y) ↔ (a * x.num * y.den < b * y.num * x.den):=by
 have hx:=jc8 x
 have hy:=jc8 y
 have pc:(0:Rat) < (((x.den:Int) * (y.den:Int):Int):Rat):=by
  have:(0:Rat)=((0:Int):Rat):=rfl
  rw [this,Rat.intCast_lt_intCast]
  exact Int.mul_pos hx hy
 rw [← Rat.mul_lt_mul_left pc,← Rat.intCast_lt_intCast]
 have e1:(((x.den:Int) * (y.den:Int):Int):Rat) * ((a:Rat) * x)=((a * x.num * y.den:Int):Rat):=by
  rw [Rat.intCast_mul,Rat.intCast_mul,Rat.intCast_mul,← mul_den x]
  simp only [Rat.mul_assoc,Rat.mul_comm]
  grind
 have e2:(((x.den:Int) * (y.den:Int):Int):Rat) * ((b:Rat) * y)=((b * y.num * x.den:Int):Rat):=by
  rw [Rat.intCast_mul,Rat.intCast_mul,Rat.intCast_mul,← mul_den y]
  grind
 rw [e1,e2]
theorem rb_int {k:Nat} {n:Int} (h:Bd k n) (hk:1 ≤ k):Rb k (n:Rat):=⟨h,by
 show Bd k ((1:Nat):Int)
 unfold Bd
 exact Nat.one_lt_two_pow (by omega)⟩
def Frs (H:Hp) (ys:List V) (qs:List Rat):Prop:=ys.length=qs.length∧∀ (j:Nat) y,ys[j]?=some y→∃ a,y=.ref a∧H a=some (qO (qs.getD j 0))
theorem Frs.stay {H H':Hp} {ys:List V} {qs:List Rat} (h:Frs H ys qs) (s:Stay H H'):Frs H' ys qs:=⟨h.1,fun j y hy=>by obtain ⟨a,e,z⟩:=h.2 j y hy; exact ⟨a,e,s _ _ z⟩⟩
theorem Frs.of {b:Addr} {H:Hp}:∀ {ys:List V} {qs:List Rat},TrVs b H ys (qs.map qD)→Frs H ys qs
 | [],[],_=>⟨rfl,fun j y h=>by simp at h⟩
 | y :: ys,q :: qs,.cons h t=>by
  have ih:=Frs.of t
  refine ⟨by simp [ih.1],fun j z hz=>?_⟩
  cases j with
  | zero =>
   have e:y=z:=by simpa using hz
   subst e
   unfold qD at h
   cases h with
   | @tup a xs _ ha hs =>
   match xs,hs with
   | _,.cons (.int _) (.cons (.int _) .nil)=>exact ⟨a,rfl,ha⟩
  | succ j=>exact ih.2 j z (by simpa using hz)
theorem Frs.at {H:Hp} {ys:List V} {qs:List Rat} (h:Frs H ys qs) {g:Nat} (hg:g < qs.length):∃ a,atI ys (g:Int)=some (.ref a)∧H a=some (qO (qs.getD g 0)):=by
 have hl:g < ys.length:=by rw [h.1]; exact hg
 have e:=Zc hl
 obtain ⟨a,e2,z⟩:=h.2 g _ e
 rw [e2] at e
 exact ⟨a,atI_nat e,z⟩
theorem Frs.app {H:Hp} {ys:List V} {qs:List Rat} (h:Frs H ys qs) {a:Addr} {q:Rat} (ha:H a=some (qO q)):Frs H (ys ++ [.ref a]) (qs ++ [q]):=by
 refine ⟨by simp [h.1],fun j y hy=>?_⟩
 rcases Nat.lt_or_ge j ys.length with z | z
 ·rw [Zr z] at hy
  obtain ⟨c,e,hc⟩:=h.2 j y hy
  refine ⟨c,e,?_⟩
  have:(qs ++ [q]).getD j 0=qs.getD j 0:=by simp [List.getD,Zr (h.1 ▸ z)]
  rw [this]; exact hc
 ·have:j=ys.length:=by
   have:=(Ze.mp hy).1
   simp at this; omega
  subst this
  simp at hy
  subst hy
  refine ⟨a,rfl,?_⟩
  have:(qs ++ [q]).getD ys.length 0=q:=by rw [h.1]; simp [List.getD]
  rw [this]; exact ha
theorem Frs.tm {H H':Hp} {ys:List V} {qs:List Rat} (h:Frs H ys qs) (s:Tm H H'):Frs H' ys qs:=⟨h.1,fun j y hy=>by obtain ⟨a,e,z⟩:=h.2 j y hy; exact ⟨a,e,s _ _ z⟩⟩
def sumQ (qs:List Rat):Rat:=qs.foldl (fun s q=>s + q) 0
theorem je5 {α : Type} {xs:List α} {i:Nat} {x:α} (h:xs[i]?=some x):xs.take (i + 1)=xs.take i ++ [x]:=by rw [List.take_succ,h]; rfl
theorem sumQ_snoc (qs:List Rat) (q:Rat):sumQ (qs ++ [q])=sumQ qs + q:=by unfold sumQ; rw [List.foldl_append]; rfl
theorem rb_zero:Rb 1 (0:Rat):=by unfold Rb Bd; decide +kernel
theorem sumQ_rb {qs:List Rat} {k:Nat} (h:∀ q ∈ qs,Rb k q):∀ i,Rb (1 + (k + 1) * i) (sumQ (qs.take i))
 | 0=>rb_zero
 | i + 1=>by
  have ih:=sumQ_rb h i
  cases e:qs[i]? with
  | none =>
   have:qs.take (i + 1)=qs.take i:=by rw [List.take_succ,e]; simp
   rw [this]
   exact ih.mono (by rw [Nat.mul_succ]; omega)
  | some q =>
   rw [je5 e,sumQ_snoc]
   refine (rb_add ih (h q (Zi e))).mono ?_
   rw [Nat.mul_succ]; omega
def spSum:Sp:=fun vs H Q _=>∃ (l:Addr) (ys:List V) (qs:List Rat),vs=[.ref l]∧H l=some (.lst ys)∧Frs H ys qs∧(∀ q ∈ qs,Rb 300 q)∧qs.length ≤ 8∧∀ (r:Addr) (H':Hp),Stay H H'→H' r=some (qO (sumQ qs))→Q (.ref r) H'
theorem am_of {b:Addr} {H:Hp}:∀ {xa:List V} {am:List PyData},TrVs b H xa am→am.all (within 1 60)=true→xa=(am.map intOf).map V.int∧∀ n ∈ am.map intOf,1 ≤ n∧n ≤ 60
 | _,_,.nil,_=>⟨rfl,fun n hn=>nomatch hn⟩
 | _,_,.cons (d:=d) h t,h3=>by
  rw [List.all_cons,Zm] at h3
  obtain ⟨e,hb⟩:=am_of t h3.2
  obtain ⟨n,rfl,n1,n2⟩:∃ n:Int,d=.int n∧1 ≤ n∧n ≤ 60:=by
   have:=h3.1
   unfold within at this
   split at this
   ·simp at this; exact ⟨_,rfl,this⟩
   ·cases this
  cases h
  refine ⟨by rw [e]; simp [intOf],fun k hk=>?_⟩
  rcases Zf.mp hk with rfl | hk
  ·exact ⟨n1,n2⟩
  ·exact hb k hk
theorem MkAt.am {b p pa pp pw:Addr} {H:Hp} {xa xp xw:List V} {am pu wi:List PyData} (m:MkAt b H p pa pp pw xa xp xw am pu wi):xa=(am.map intOf).map V.int∧∀ n ∈ am.map intOf,1 ≤ n∧n ≤ 60:=by
 obtain ⟨_,_,h3,_⟩:=jh4 m.ok
 exact am_of m.ta h3
structure PrAt (b:Addr) (H:Hp) (q:Addr) (ys:List V) (qs:List Rat):Prop where
 hq:H q=some (.tup ys)
 tr:TrVs b H ys (qs.map qD)
 bd:∀ z ∈ qs,Rb 293 z
theorem PrAt.stay {b:Addr} {H H':Hp} {q:Addr} {ys:List V} {qs:List Rat} (h:PrAt b H q ys qs) (s:Stay H H'):PrAt b H' q ys qs:=⟨s _ _ h.hq,h.tr.stay s,h.bd⟩
theorem PrAt.rb {b:Addr} {H:Hp} {q:Addr} {ys:List V} {qs:List Rat} (h:PrAt b H q ys qs) (g:Nat):Rb 293 (qs.getD g 0):=by
 by_cases hg:g < qs.length
 ·have:qs.getD g 0 ∈ qs:=by simp [List.getD,Zc hg]
  exact h.bd _ this
 ·have:qs.getD g 0=0:=by simp [List.getD,Yk (Nat.le_of_not_lt hg)]
  rw [this]; exact rb_zero.mono (by decide)
def LsR (H:Hp) (xs:List V) (M:List (List Int)):Prop:=xs.length=M.length∧∀ (j:Nat) x,xs[j]?=some x→∃ a,x=.ref a∧H a=some (.lst ((M.getD j []).map V.int))
theorem LsR.stay {H H':Hp} {xs:List V} {M:List (List Int)} (h:LsR H xs M) (s:Stay H H'):LsR H' xs M:=⟨h.1,fun j x hx=>by obtain ⟨a,e,z⟩:=h.2 j x hx; exact ⟨a,e,s _ _ z⟩⟩
def spLBest:Sp:=fun vs H Q _=>∃ (b p pa pp pw q:Addr) (xa xp xw ys:List V) (am pu wi:List PyData) (qs:List Rat),vs=[.ref p,.ref q]∧MkAt b H p pa pp pw xa xp xw am pu wi∧PrAt b H q ys qs∧qs.length=xa.length ∧
 ∀ (r:Addr) (xs:List V) (H':Hp),Stay H H'→H' r=some (.lst xs)→LsR H' xs (bestM (rowsOf wi) qs)→Q (.ref r) H'
end KM
namespace K15
open PySem L2 KG EX KM
section
variable {P:Program} {w:World} {K:PySem.W.Frag} {mg:Str→Option Value} {base:Heap}
theorem scSum:FnScope ["some","found","one"] ["some"] (ja3 (top 54)):=L2.fsc
theorem ok_sum {f fA:Addr} {fd dA:FuncData} (F:Fun K "_law_sum" "_law_sum" (top 54) f fd) (A:Cal K mg P w base "_law_add" 2 ["one","other"] (sp2 qPl) fA dA):FnOk P w K mg base CX0 3 f fd ["some"] spSum:=by
 refine F.ok scSum (fun vs H Q E h=>?_) (fun cdv A' outer s H vs Q E hr h=>?_)
 ·obtain ⟨l,ys,qs,rfl,_⟩:=h; rfl
 ·obtain ⟨l,ys,qs,rfl,hl,hf,hb,hn,k⟩:=h
  refine ⟨_,ja9 (jd7 (i:=1) scSum.nd rfl (Or.inl rfl) (pe_tup (ja1 ja6 (ja1 ja6 ja5))))
   (ja9 (ps_for PassesOwn.never rfl (piL0 (pv 0)) (jb0 (i:=2) scSum.nd rfl (Or.inl rfl)) (ja7 (jd7 (i:=1) scSum.nd rfl (Or.inl rfl) (jb5 A.ok hr rfl A.mg A.kp A.bd .nil pass0 (ja1 (pv 1) (ja1 (pv 2) ja5))))))
   (ja7 (jb7 (pv 1)))),?_⟩
  refine ⟨by show 2 ≤ sizeLine; decide,fun p0 hp0=>?_⟩
  have s0:=(Stay.refl H).new (o:=.tup [.int 0,.int 1]) hp0
  refine ⟨_,rfl,l,rfl,⟨ys,SqL.of (s0 _ _ hl)⟩,?_⟩
  refine for_list (xs:=ys) (fun i σ H'=>(∃ r y2,σ=[some (.ref l),some (.ref r),y2]∧H' r=some (qO (sumQ (qs.take i))))∧Stay H H') ⟨⟨p0,_,rfl,ja8⟩,s0⟩ (fun j σ H' _ q=>SqL.of (q.2 _ _ hl)) ?_ ?_
  ·rintro i y σ H1 hy ⟨⟨r,y2,rfl,hr1⟩,s1⟩
   obtain ⟨a,rfl,ha⟩:=(hf.stay s1).2 i y hy
   have hi:i < qs.length:=by have:=(Ze.mp hy).1; rw [hf.1] at this; exact this
   have eq:qs[i]?=some (qs.getD i 0):=by simp [List.getD,Zc hi]
   have b1:Rb 3000 (sumQ (qs.take i)):=(sumQ_rb hb i).mono (by omega)
   have b2:Rb 3000 (qs.getD i 0):=(hb _ (Zi eq)).mono (by decide)
   refine ⟨_,rfl,_,rfl,r,a,_,_,rfl,hr1,ha,b1,b2,fun r2 hr2=>?_⟩
   exact ⟨⟨r2,_,rfl,by rw [je5 eq,sumQ_snoc]; exact ja8⟩,s1.new hr2⟩
  ·rintro σ H1 ⟨⟨r,y2,rfl,hr1⟩,s1⟩
   rw [List.take_of_length_le (by rw [hf.1]; exact Zd _)] at hr1
   exact ⟨_,rfl,k r H1 s1 hr1⟩
end
end K15
namespace L2
open PySem PySem.Spec PyProof.Rows
end L2
namespace KM
open PySem L2 KG EX
def rowD (ns:List Int):PyData:=.tuple (ns.map PyData.int)
theorem dep_q (q:Rat):(qD q).depth ≤ 1:=by unfold qD; simp [PyData.depth,PyData.depthAll]
theorem natsV_ints (gs:List Nat):natsV gs=(gs.map fun g:Nat=>(g:Int)).map V.int:=by unfold natsV; rw [Zs]; rfl
theorem purse_q {d:PyData} (h:jd4 d=true):∃ q:Rat,d=qD q∧0 < q∧Rb 20 q:=by
 obtain ⟨t,u,rfl⟩:=purseShape h
 have h':(decide (1 ≤ u) && decide (Int.gcd t u=1) && decide (1 ≤ t) && decide (t ≤ 1000000) && decide (u ≤ 1000000))=true:=h
 simp only [Zm,decide_eq_true_eq] at h'
 obtain ⟨⟨⟨⟨h1,h2⟩,h3⟩,h4⟩,h5⟩:=h'
 obtain ⟨q,e1,e2⟩:=rat_of (t:=t) (u:=u) (by omega) h2
 refine ⟨q,by unfold qD; rw [e1,e2],rat_pos.mpr (by omega),?_,?_⟩
 ·unfold Bd; omega
 ·unfold Bd; omega
theorem purses_q:∀ {pu:List PyData},pu.all jd4=true→∃ ps:List Rat,pu=ps.map qD∧∀ q ∈ ps,0 < q∧Rb 20 q
 | [],_=>⟨[],rfl,fun q h=>nomatch h⟩
 | d :: pu,h=>by
  rw [List.all_cons,Zm] at h
  obtain ⟨q,rfl,h1,h2⟩:=purse_q h.1
  obtain ⟨ps,rfl,hp⟩:=purses_q h.2
  refine ⟨q :: ps,rfl,fun z hz=>?_⟩
  rcases Zf.mp hz with rfl | hz
  ·exact ⟨h1,h2⟩
  ·exact hp z hz
def qOf:PyData→Rat
 | .tuple [.int t,.int u]=>Rat.divInt t u
 | _=>0
theorem qOf_qD (q:Rat):qOf (qD q)=q:=Rat.num_divInt_den q
def jd5 (pu:List PyData):List Rat:=pu.map qOf
theorem MkAt.pu {b p pa pp pw:Addr} {H:Hp} {xa xp xw:List V} {am pu wi:List PyData} (m:MkAt b H p pa pp pw xa xp xw am pu wi):pu=(jd5 pu).map qD∧∀ q ∈ jd5 pu,0 < q∧Rb 20 q:=by
 obtain ⟨_,_,_,_,_,h6,_⟩:=jh4 m.ok
 obtain ⟨ps,e,hp⟩:=purses_q h6
 have:jd5 pu=ps:=by
  rw [e]; unfold jd5
  rw [Zs]
  have:(qOf ∘ qD)=id:=by funext q; exact qOf_qD q
  rw [this,List.map_id]
 rw [this]
 exact ⟨e,hp⟩
theorem MkAt.fp {b p pa pp pw:Addr} {H:Hp} {xa xp xw:List V} {am pu wi:List PyData} (m:MkAt b H p pa pp pw xa xp xw am pu wi):Frs H xp (jd5 pu):=by
 have h:=m.tp
 rw [m.pu.1] at h
 exact Frs.of h
theorem jh8 {k:Nat} {qs:List Rat} (hk:1 ≤ k) (h:∀ q ∈ qs,Rb k q) (g:Nat):Rb k (qs.getD g 0):=by
 by_cases hg:g < qs.length
 ·have:qs.getD g 0 ∈ qs:=by simp [List.getD,Zc hg]
  exact h _ this
 ·have:qs.getD g 0=0:=by simp [List.getD,Yk (Nat.le_of_not_lt hg)]
  rw [this]; exact rb_zero.mono hk
def spDiv:Sp:=fun vs H Q _=>∃ (p q:Addr) (a b:Rat),vs=[.ref p,.ref q]∧H p=some (qO a)∧H q=some (qO b)∧Rb 3000 a∧Rb 3000 b∧0 < b∧∀ r,H r=none→Q (.ref r) (upd H r (qO (a / b)))
theorem rb_divq {j k:Nat} {a b:Rat} (ha:Rb j a) (hb:Rb k b) (h:b ≠ 0):Rb (j + k) (a / b):=by
 have hn:b.num ≠ 0:=fun z=>h (Rat.num_eq_zero.mp z)
 rw [← div_rat hn]
 refine rb_div ?_ (ha.1.mul hb.2) (ha.2.mul hb.1)
 intro z
 rcases Int.mul_eq_zero.mp z with y | y
 ·have:=jc8 a; omega
 ·exact hn y
theorem boot_zip:bootBuiltins "zip"=some (.type "zip"):=by first | rfl | kernel_rfl | decide +kernel
def spWis:Sp:=fun vs H Q _=>∃ (b p pa pp pw:Addr) (xa xp xw:List V) (am pu wi:List PyData),vs=[.ref p]∧MkAt b H p pa pp pw xa xp xw am pu wi∧∀ (q:Addr) (H':Hp),Stay H H'→H' q=some (.tup (jf1 xa.length (rowsOf wi)))→Q (.ref q) H'
def spTot:Sp:=fun vs H Q _=>∃ (l:Addr) (ys:List V) (qs:List Rat),vs=[.ref l]∧H l=some (.lst ys)∧Frs H ys qs∧(∀ q ∈ qs,Rb 400 q)∧qs.length ≤ 7∧∀ (r:Addr) (H':Hp),Stay H H'→H' r=some (qO (sumQ qs))→Q (.ref r) H'
def spGre:Sp:=fun vs H Q _=>∃ (l:Addr) (ys:List V) (qs:List Rat),vs=[.ref l]∧H l=some (.lst ys)∧Frs H ys qs∧qs ≠ []∧(∀ q ∈ qs,Rb 3000 q)∧∀ (a:Addr) (q:Rat),H a=some (qO q)→q ∈ qs→(∀ z ∈ qs,z ≤ q)→Q (.ref a) H
theorem frs_get {H:Hp} {ys:List V} {qs:List Rat} (h:Frs H ys qs) {i:Nat} {y:V} (hy:ys[i]?=some y):∃ (a:Addr) (q:Rat),y=.ref a∧H a=some (qO q)∧qs[i]?=some q:=by
 obtain ⟨a,e,z⟩:=h.2 i y hy
 have hi:i < qs.length:=by rw [← h.1]; exact (Ze.mp hy).1
 refine ⟨a,qs[i],e,?_,Zc hi⟩
 have:qs.getD i 0=qs[i]:=by simp [List.getD,Zc hi]
 rw [this] at z; exact z
def spBB:Sp:=fun vs H Q _=>∃ (r q:Addr) (ns:List Int) (ys:List V) (qs:List Rat),vs=[.ref r,.ref q]∧H r=some (.tup (ns.map V.int))∧H q=some (.tup ys)∧Frs H ys qs∧ns.length=qs.length∧ns.length ≤ 6∧(∀ k ∈ ns,0 ≤ k∧k ≤ 100)∧(∀ z ∈ qs,Rb 300 z) ∧
 (∀ j,0 < ns.getD j 0→0 < qs.getD j 0)∧∀ (t:Addr) (H':Hp),Stay H H'→H' t=some (.tup (natsV (bestR ns qs)))→Q (.ref t) H'
def spRate:Sp:=fun vs H Q _=>∃ (n:Int) (q:Addr) (x:Rat),vs=[.int n,.ref q]∧H q=some (qO x)∧Rb 300 x∧0 < x∧0 ≤ n∧n ≤ 100∧∀ (t:Addr) (H':Hp),Stay H H'→H' t=some (qO ((n:Rat) / x))→Q (.ref t) H'
def spNeed (Pr:Addr):Sp:=fun vs H Q E=>∃ (b p pa pp pw:Addr) (xa xp xw:List V) (am pu wi:List PyData) (v:V) (d:PyData),vs=[.ref p,v]∧MkAt b H p pa pp pw xa xp xw am pu wi∧TrV b H v d ∧
 (isPrs xa.length (rowsOf wi) d=false→∀ H',Stay H H'→E (.ref Pr) none H')∧(isPrs xa.length (rowsOf wi) d=true→∀ H',Stay H H'→Q .non H')
theorem eqv_qq (p q:Rat):PyData.eqv (qD p) (qD q)=decide (p=q):=by
 unfold qD
 simp only [PyData.eqv,PyData.eqvAll]
 rw [Bool.eq_iff_iff]
 simp
 constructor
 ·rintro ⟨h1,h2⟩; exact Rat.ext h1 (by omega)
 ·rintro rfl; exact ⟨rfl,rfl⟩
theorem qO_dt {K:PySem.W.Frag} {H:Hp} {a:Addr} {q:Rat} (h:H a=some (qO q)):DtV K H (.ref a) (qD q):=(TrV.tup (b:=a + 1) h (.cons (.int _) (.cons (.int _) .nil))).dt
def posL (ns:List Int) (i:Nat):List Nat:=(List.range i).filter fun j=>decide (0 < ns.getD j 0)
def rateQ (ns:List Int) (qs:List Rat) (j:Nat):Rat:=((ns.getD j 0:Int):Rat) / qs.getD j 0
theorem posL_succ (ns:List Int) (i:Nat):posL ns (i + 1)=posL ns i ++ if 0 < ns.getD i 0 then [i] else []:=by
 unfold posL
 rw [Yf,List.filter_append]
 congr 1
 by_cases h:0 < ns.getD i 0
 ·rw [if_pos h]; simp only [List.filter,h,decide_true]
 ·rw [if_neg h]; simp only [List.filter,h,decide_false]
theorem posL_lt {ns:List Int} {i j:Nat} (h:j ∈ posL ns i):j < i∧0 < ns.getD j 0:=by
 unfold posL at h
 rw [List.mem_filter] at h
 exact ⟨by simpa using h.1,by simpa using h.2⟩
theorem posL_len (ns:List Int) (i:Nat):(posL ns i).length ≤ i:=by
 unfold posL
 exact Zl (List.length_filter_le _ _) (by simp)
theorem posL_nodup (ns:List Int) (i:Nat):(posL ns i).Nodup:=(List.nodup_range).sublist List.filter_sublist
def keyN (j:Nat):Key:=.inl (j:Int)
theorem keyN_inj {i j:Nat} (h:keyN i=keyN j):i=j:=by unfold keyN at h; injection h with h; omega
structure Rts (ns:List Int) (qs:List Rat) (i:Nat) (kvs:List (Key × V)) (H:Hp):Prop where
 ks:kvs.map (·.1)=(posL ns i).map keyN
 fr:Frs H (kvs.map (·.2)) ((posL ns i).map (rateQ ns qs))
theorem Rts.len {ns:List Int} {qs:List Rat} {i:Nat} {kvs:List (Key × V)} {H:Hp} (h:Rts ns qs i kvs H):kvs.length=(posL ns i).length:=by
 have:=congrArg List.length h.ks
 simpa using this
theorem Rts.stay {ns:List Int} {qs:List Rat} {i:Nat} {kvs:List (Key × V)} {H H':Hp} (h:Rts ns qs i kvs H) (s:Stay H H'):Rts ns qs i kvs H':=⟨h.ks,h.fr.stay s⟩
theorem Rts.tm {ns:List Int} {qs:List Rat} {i:Nat} {kvs:List (Key × V)} {H H':Hp} (h:Rts ns qs i kvs H) (s:Tm H H'):Rts ns qs i kvs H':=⟨h.ks,h.fr.tm s⟩
theorem valV_none {kvs:List (Key × V)} {k:Key} (h:k ∉ kvs.map (·.1)):valV kvs k=none:=by
 cases e:valV kvs k with
 | none=>rfl
 | some v=>exact absurd (valV_in e) h
theorem Rts.put {ns:List Int} {qs:List Rat} {i:Nat} {kvs:List (Key × V)} {H:Hp} (h:Rts ns qs i kvs H) {a:Addr} (hp:0 < ns.getD i 0) (ha:H a=some (qO (rateQ ns qs i))):Rts ns qs (i + 1) (putK kvs (keyN i) (.ref a)) H:=by
 have hn:keyN i ∉ kvs.map (·.1):=by
  rw [h.ks]
  intro z
  obtain ⟨j,hj,e⟩:=Zk.mp z
  have:=(posL_lt hj).1
  have:=keyN_inj e
  omega
 rw [putK_new _ (valV_none hn)]
 refine ⟨?_,?_⟩
 ·rw [Zh,h.ks,posL_succ,if_pos hp,Zh]; rfl
 ·rw [Zh,posL_succ,if_pos hp,Zh]
  exact h.fr.app ha
theorem Rts.skip {ns:List Int} {qs:List Rat} {i:Nat} {kvs:List (Key × V)} {H:Hp} (h:Rts ns qs i kvs H) (hp:¬ 0 < ns.getD i 0):Rts ns qs (i + 1) kvs H:=by
 refine ⟨?_,?_⟩
 ·rw [posL_succ,if_neg hp,List.append_nil]; exact h.ks
 ·rw [posL_succ,if_neg hp,List.append_nil]; exact h.fr
theorem Rts.at {ns:List Int} {qs:List Rat} {n i:Nat} {kvs:List (Key × V)} {H:Hp} (h:Rts ns qs n kvs H) {k:Key} {v:V} (e:kvs[i]?=some (k,v)):∃ (j:Nat) (a:Addr),(posL ns n)[i]?=some j∧k=keyN j∧v=.ref a∧H a=some (qO (rateQ ns qs j))∧valV kvs k=some v:=by
 have e1:=congrArg (fun l=>l[i]?) h.ks
 simp only [Zg,e,Option.map_some] at e1
 cases ej:(posL ns n)[i]? with
 | none=>rw [ej] at e1; cases e1
 | some j =>
  rw [ej] at e1
  simp only [Option.map_some,Option.some.injEq] at e1
  have e2:(kvs.map (·.2))[i]?=some v:=by rw [Zg,e]; rfl
  obtain ⟨a,q,ea,hq,eq⟩:=frs_get h.fr e2
  rw [Zg,ej] at eq
  simp only [Option.map_some,Option.some.injEq] at eq
  refine ⟨j,a,rfl,e1,ea,by rw [eq]; exact hq,?_⟩
  have nd:(kvs.map (·.1)).Nodup:=by
   rw [h.ks]
   exact (posL_nodup ns n).map _ fun _ _ hab z=>hab (keyN_inj z)
  clear e1 ej e2 ea hq eq h
  induction kvs generalizing i with
  | nil=>simp at e
  | cons p r ih =>
   rw [List.map_cons,List.nodup_cons] at nd
   cases i with
   | zero =>
    have e':p=(k,v):=by simpa using e
    rw [e']; exact valV_pos rfl
   | succ i =>
    have e':r[i]?=some (k,v):=by simpa using e
    have hm:k ∈ r.map (·.1):=Zk.mpr ⟨(k,v),Zi e',rfl⟩
    rw [valV_neg (fun z=>nd.1 (by rw [z]; exact hm))]
    exact ih e' nd.2
theorem rate_lt {ns:List Int} {qs:List Rat} {g o:Nat} (hg:0 < qs.getD g 0) (ho:0 < qs.getD o 0):(rateQ ns qs g < rateQ ns qs o) ↔ (((ns.getD g 0:Int):Rat) * qs.getD o 0 < ((ns.getD o 0:Int):Rat) * qs.getD g 0):=by
 unfold rateQ
 generalize ((ns.getD g 0:Int):Rat)=a
 generalize ((ns.getD o 0:Int):Rat)=b
 generalize qs.getD g 0=x at hg ⊢
 generalize qs.getD o 0=y at ho ⊢
 have hxy:(0:Rat) < x * y:=Rat.mul_pos hg ho
 rw [← Rat.mul_lt_mul_left hxy]
 have hx:x ≠ 0:=fun z=>by rw [z] at hg; exact absurd hg (by decide)
 have hy:y ≠ 0:=fun z=>by rw [z] at ho; exact absurd ho (by decide)
 have e1:x * y * (a / x)=a * y:=by grind
 have e2:x * y * (b / y)=b * x:=by grind
 rw [e1,e2]
theorem best_max {ns:List Int} {qs:List Rat} (hpos:∀ j,0 < ns.getD j 0→0 < qs.getD j 0) (hnn:∀ j,0 ≤ ns.getD j 0) {m:Rat} (hm:m ∈ (posL ns ns.length).map (rateQ ns qs)) (hmax:∀ z ∈ (posL ns ns.length).map (rateQ ns qs),z ≤ m) :
  bestR ns qs=(posL ns ns.length).filter fun j=>decide (rateQ ns qs j=m):=by
 unfold bestR posL
 rw [List.filter_filter]
 refine List.filter_congr fun g hg=>?_
 have hgl:g < ns.length:=by simpa using hg
 unfold bestB
 by_cases h0:0 < ns.getD g 0
 ·have h1:ns.getD g 0 ≠ 0:=by omega
  rw [decide_eq_true h1,decide_eq_true h0,Ya,Bool.and_true,Bool.eq_iff_iff,Zt,decide_eq_true_eq]
  constructor
  ·intro h
   obtain ⟨o,ho,eo⟩:=Zk.mp hm
   obtain ⟨ol,op⟩:=posL_lt ho
   have:=h o (by simpa using ol)
   unfold worse at this
   rw [decide_eq_true op,Ya,Bool.not_eq_true',decide_eq_false_iff_not,← rate_lt (hpos g h0) (hpos o op),eo] at this
   have h2:rateQ ns qs g ≤ m:=hmax _ (Zk.mpr ⟨g,List.mem_filter.mpr ⟨hg,by simpa using h0⟩,rfl⟩)
   exact Rat.le_antisymm h2 (Rat.not_lt.mp this)
  ·intro h o ho
   unfold worse
   by_cases op:0 < ns.getD o 0
   ·rw [decide_eq_true op,Ya,Bool.not_eq_true',decide_eq_false_iff_not,← rate_lt (hpos g h0) (hpos o op),h]
    exact Rat.not_lt.mpr (hmax _ (Zk.mpr ⟨o,List.mem_filter.mpr ⟨ho,by simpa using op⟩,rfl⟩))
   ·rw [decide_eq_false op]; rfl
 ·have h1:ns.getD g 0=0:=by have:=hnn g; omega
  rw [decide_eq_false h0,Bool.and_false]
  rw [decide_eq_false (fun z=>z h1)]; rfl
theorem best_none {ns:List Int} {qs:List Rat} (hnn:∀ j,0 ≤ ns.getD j 0) (h:posL ns ns.length=[]):bestR ns qs=[]:=by
 unfold bestR
 rw [List.filter_eq_nil_iff]
 intro g hg
 have hgl:g < ns.length:=by simpa using hg
 unfold bestB
 have h0:¬ 0 < ns.getD g 0:=fun z=>by
  have:g ∈ posL ns ns.length:=List.mem_filter.mpr ⟨hg,by simpa using z⟩
  rw [h] at this; cases this
 have h1:ns.getD g 0=0:=by have:=hnn g; omega
 rw [decide_eq_false (fun z=>z h1)]
 simp
theorem rb_rate {n:Int} {x:Rat} {k j:Nat} (hn:Bd k n) (hx:Rb j x) (h0:0 < x):Rb (k + j) ((n:Rat) / x):=by
 have hp:=rat_pos.mp h0
 have hd:=jc8 x
 have e:=div_rat (a:=(n:Rat)) (b:=x) (by omega)
 have en:((n:Rat)).num=n:=Rat.num_intCast n
 have ed:(((n:Rat)).den:Int)=1:=rfl
 rw [en,ed,Int.one_mul] at e
 rw [← e]
 exact rb_div (by omega) (hn.mul hx.2) (hx.1.mono (by omega))
theorem rws_app {H:Hp}:∀ {ws:List V} {M:List (List Int)} {a:Addr} {ns:List Int},Rws H ws M→H a=some (.tup (ns.map V.int))→Rws H (ws ++ [.ref a]) (M ++ [ns])
 | _,_,a,_,.nil,ha=>.cons ⟨a,rfl,ha⟩ .nil
 | _,_,_,_,.cons h t,ha=>.cons h (rws_app t ha)
theorem flat_ints (ns:List Int):(ns.map V.int).all flatV=true:=by
 rw [Zy]; simp [Function.comp_def,flatV]
theorem inv_ints (ns:List Int) (n:Int):inV (V.int n) (ns.map V.int)=ns.contains n:=by
 unfold inV
 rw [List.any_map,Bool.eq_iff_iff,List.any_eq_true,List.contains_iff_mem]
 constructor
 ·rintro ⟨x,hx,e⟩
  have:x=n:=by simpa [eqV] using e
  rw [← this]; exact hx
 ·intro h
  exact ⟨n,h,by simp [eqV]⟩
theorem filt_all {α : Type} {f:α→Bool}:∀ (xs:List α),(xs.filter fun x=>!f x).isEmpty=xs.all f
 | []=>rfl
 | x :: xs=>by
  cases h:f x with
  | true=>simp only [List.filter,h,Bool.not_true,List.all_cons,Ya]; exact filt_all xs
  | false=>simp [List.filter,h]
end KM
namespace KM
theorem filt1 {α : Type} (f:α→Bool) (x:α):[x].filter f=if f x=true then [x] else []:=by cases h:f x <;> simp [List.filter,h]
end KM
namespace KM
open PySem L2 KG EX
section
variable {am:List Int} {ps qs:List Rat} {M:List (List Int)} {n:Nat}
end
end KM
namespace PySem
section
variable {prog:Program} {w:World} {A:Around} {E:Value→Shared→Prop} {s:Shared} {it d:Addr} {i ep:Nat} {es:Array DictEntry}
end
end PySem
namespace L2
open PySem PySem.Spec PyProof.Rows KG
section
variable {X:Cx}
end
section
variable {X:Cx}
end
section
variable {K:PySem.W.Frag} {tt:TT} {te tk tv:TE} {acc a b:Addr} {xs ys:List V} {σ₀:St} {H₀:Hp} {Q:VK} {o:Obj} {kvs:List (List Key × V)}
end
end L2
namespace PySem
section
variable {prog:Program} {w:World} {A:Around} {I:Addr} {fp wr:List Addr} {n:Nat} {P:Nat→Value→Prop} {St:Nat→Heap→Prop}
end
end PySem
namespace L2
open PySem PySem.Spec PyProof.Rows
section
variable {X:Cx} {scope:Scope} {own cap:List Str} {ix:List Nat} {tg iter kx vx:Expr} {ifs:List Expr} {wi:TI} {g:TG} {tt:TT} {tk tv:TE} {pos:Pos}
end
section
variable {X:Cx}
end
section
variable {X:Cx}
end
end L2
namespace L2
open PySem PySem.Spec PyProof.Rows KG
section
variable {K:PySem.W.Frag} {tt:TT} {tk tv:TE} {a acc:Addr} {xs:List V} {σ₀:St} {H₀:Hp} {Q:VK}
end
end L2
namespace KM
open PySem L2 KG EX
theorem sumQ_cons (q:Rat) (qs:List Rat):sumQ (q :: qs)=q + sumQ qs:=by
 have key:∀ (l:List Rat) (z:Rat),l.foldl (fun s q=>s + q) z=z + sumQ l:=by
  intro l
  induction l with
  | nil=>intro z; unfold sumQ; simp [Rat.add_zero]
  | cons i l ih=>intro z; unfold sumQ; rw [List.foldl_cons,List.foldl_cons,ih,ih,Rat.zero_add,Rat.add_assoc]
 conv=>lhs; unfold sumQ
 rw [List.foldl_cons,key,Rat.zero_add]
end KM
namespace L2
open PySem PySem.Spec PyProof.Rows KG
section
variable {X:Cx}
end
end L2
namespace KM
open PySem L2
end KM
namespace KM
open PySem L2 KG EX
section
variable {K:PySem.W.Frag} {n:Nat} {tt:TT} {te:TE} {acc a b:Addr} {xs ys:List V} {σ₀:St} {H₀:Hp} {Q:VK}
theorem filt_snoc {α : Type} (f:Nat→Bool) (v:Nat→α) (i:Nat):((List.range (i + 1)).filter f).map v=((List.range i).filter f).map v ++ if f i=true then [v i] else []:=by
 rw [filter_succ,Zh]
 congr 1
 split <;> simp_all
end
theorem idx_all {α : Type} (ls:List α) (d:α):(List.range ls.length).map (fun i=>ls.getD i d)=ls:=by
 apply List.ext_getElem?
 intro i
 rw [Zg]
 by_cases h:i < ls.length
 ·rw [Yj h]; simp [List.getD,Zc h]
 ·rw [Yk (by simpa using h),Yk (by omega)]; rfl
theorem jc2 {α : Type} {ls:List α} {i:Nat} {y d:α} (h:ls[i]?=some y):ls.getD i d=y:=by simp [List.getD,h]
theorem in_ints (ns:List Int) (x:Int):inV (V.int x) (ns.map V.int)=ns.contains x:=by
 have h:inV (V.int x) (ns.map V.int)=ns.any fun h=>decide (h=x):=by
  unfold inV
  rw [List.any_map]
  congr 1
 rw [h,List.contains_eq_any_beq]
 congr 1
 funext y
 by_cases z:y=x
 ·subst z; simp
 ·have:¬ x=y:=fun h=>z h.symm
  simp [z,this]
section
variable {K:PySem.W.Frag} {tt:TT} {te:TE} {acc a:Addr} {s:List Int} {σ₀:St} {H₀:Hp} {Q:VK}
end
theorem sumQ_rb' {qs:List Rat} {k n:Nat} (h:∀ q ∈ qs,Rb k q) (hn:qs.length ≤ n):Rb (1 + (k + 1) * n) (sumQ qs):=by
 have:=sumQ_rb h qs.length
 rw [Ye] at this
 exact this.mono (Nat.add_le_add_left (Nat.mul_le_mul_left _ hn) _)
end KM
namespace L2
open PySem PySem.Spec PyProof.Rows
abbrev lc2 (elt t1 i1 t2 i2:Expr) (f1 f2:List Expr) (scope:Scope) (pos:Pos):Expr:=.ListComp elt [⟨t1,i1,f1,0⟩,⟨t2,i2,f2,0⟩] scope pos
theorem compTurn_list2 (elt t1 i1 t2 i2:Expr) (f1 f2:List Expr) (scope:Scope) (pos:Pos) (it acc:Value) (env:Env) :
  compTurn (lc2 elt t1 i1 t2 i2 f1 f2 scope pos) 0 it acc env=(do
   standAt i1.pos
   match ← pyNext it with
   | none=>pure (.done .next)
   | some v =>
    letOwnedTupleGo t1 it v
    assign t1 env v
    let mut ok:=true
    for c in f1 do
     if ok then ok ← isTrue c env (eval c env)
    if ok then
     let x ← eval i2 env
     standAt i2.pos
     let x ← foldedSetIterable i2 env x
     let _ ← runOwn (.compStart (lc2 elt t1 i1 t2 i2 f1 f2 scope pos) 1 (← holding [x] (pyIter x)) acc env) env
    again (.compLoop (lc2 elt t1 i1 t2 i2 f1 f2 scope pos) 0 it acc env)):=by rfl
theorem compTurn_list2i (elt t1 i1 t2 i2:Expr) (f1 f2:List Expr) (scope:Scope) (pos:Pos) (it acc:Value) (env:Env) :
  compTurn (lc2 elt t1 i1 t2 i2 f1 f2 scope pos) 1 it acc env=(do
   standAt i2.pos
   match ← pyNext it with
   | none=>pure (.done .next)
   | some v =>
    letOwnedTupleGo t2 it v
    assign t2 env v
    let mut ok:=true
    for c in f2 do
     if ok then ok ← isTrue c env (eval c env)
    if ok then
     (do let _ ← call (.builtin "list.append") [acc,← eval elt env])
    again (.compLoop (lc2 elt t1 i1 t2 i2 f1 f2 scope pos) 1 it acc env)):=by rfl
section
variable {prog:Program} {w:World} {A:Around} {R:Result→Shared→Prop} {s:Shared} {elt t1 i1 t2 i2:Expr} {f1 f2:List Expr} {scope:Scope} {pos:Pos} {it acc:Value} {env:Env}
theorem comp_loop2i (I:Nat→Shared→Prop)
  (turn:∀ n s,I n s→wpAny (model prog w) A (pyNext it) (fun r s₁=>match r with
   | none=>R (.ok .next) s₁
   | some v=>wpAny (model prog w) A (letOwnedTupleGo t2 it v) (fun _ s₁'=>wpAny (model prog w) A (assign t2 env v) (fun _ s₂ =>
     wpAny (model prog w) A (forIn f2 true fun c r=>if r=true then do let ok ← isTrue c env (eval c env); pure (ForInStep.yield ok) else pure (ForInStep.yield r)) (fun ok s₃ =>
      if ok=true then wpAny (model prog w) A (eval elt env) (fun x s₄ =>
       wpAny (model prog w) A (call (.builtin "list.append") [acc,x]) (fun _ s₅=>∃ m,m < n∧I m s₅) (fun _ _=>False) s₄) (fun _ _=>False) s₃
      else ∃ m,m < n∧I m s₃) (fun _ _=>False) s₂) (fun _ _=>False) s₁') (fun _ _=>False) s₁) (fun _ _=>False) s)
  (n:Nat) (h:I n s) :
  codeAny (model prog w) A (.compLoop (lc2 elt t1 i1 t2 i2 f1 f2 scope pos) 1 it acc env) R s:=by
 refine codeAny_loop rfl I (fun n s hI=>?_) n h
 show wpAny _ A ((compTurn (lc2 elt t1 i1 t2 i2 f1 f2 scope pos) 1 it acc env).onRaise (fun x=>do noteFrame x env; theTreesLotGoes x)) _ _ s
 refine wpAny_noted ?_
 rw [compTurn_list2i]
 refine Za (wpAny_standAt (Za (wpAny_mono (turn n s hI) (fun r s₁ h₁=>?_) fun _ _ h'=>h'.elim)))
 cases r with
 | none=>exact wpAny_pure h₁
 | some v =>
  refine Za (wpAny_mono h₁ (fun _ s₁' h₁'=>?_) fun _ _ h'=>h'.elim)
  refine Za (wpAny_mono h₁' (fun _ s₂ h₂=>Za (wpAny_mono h₂ (fun ok s₃ h₃=>?_) fun _ _ h'=>h'.elim)) fun _ _ h'=>h'.elim)
  cases ok with
  | false=>exact wpAny_pure ⟨rfl,h₃⟩
  | true =>
   exact Za (Za (wpAny_mono h₃ (fun x s₄ h₄=>Za (wpAny_mono h₄ (fun _ s₅ h₅=>wpAny_pure (wpAny_pure ⟨rfl,h₅⟩)) fun _ _ h'=>h'.elim)) fun _ _ h'=>h'.elim))
theorem comp_loop2o (hs:∀ x,foldedSetIterable i2 env x=pure x) (I:Nat→Shared→Prop)
  (turn:∀ n s,I n s→wpAny (model prog w) A (pyNext it) (fun r s₁=>match r with
   | none=>R (.ok .next) s₁
   | some v=>wpAny (model prog w) A (letOwnedTupleGo t1 it v) (fun _ s₁'=>wpAny (model prog w) A (assign t1 env v) (fun _ s₂ =>
     wpAny (model prog w) A (forIn f1 true fun c r=>if r=true then do let ok ← isTrue c env (eval c env); pure (ForInStep.yield ok) else pure (ForInStep.yield r)) (fun ok s₃ =>
      if ok=true then wpAny (model prog w) A (eval i2 env) (fun x s₄=>wpAny (model prog w) A (pyIter x) (fun it2 s₅ =>
       codeAny (model prog w) A (.compStart (lc2 elt t1 i1 t2 i2 f1 f2 scope pos) 1 it2 acc env) (fun r s₆=>r=.ok .next∧∃ m,m < n∧I m s₆) s₅) (fun _ _=>False) s₄) (fun _ _=>False) s₃
      else ∃ m,m < n∧I m s₃) (fun _ _=>False) s₂) (fun _ _=>False) s₁') (fun _ _=>False) s₁) (fun _ _=>False) s)
  (n:Nat) (h:I n s) :
  codeAny (model prog w) A (.compLoop (lc2 elt t1 i1 t2 i2 f1 f2 scope pos) 0 it acc env) R s:=by
 refine codeAny_loop rfl I (fun n s hI=>?_) n h
 show wpAny _ A ((compTurn (lc2 elt t1 i1 t2 i2 f1 f2 scope pos) 0 it acc env).onRaise (fun x=>do noteFrame x env; theTreesLotGoes x)) _ _ s
 refine wpAny_noted ?_
 rw [compTurn_list2]
 refine Za (wpAny_standAt (Za (wpAny_mono (turn n s hI) (fun r s₁ h₁=>?_) fun _ _ h'=>h'.elim)))
 cases r with
 | none=>exact wpAny_pure h₁
 | some v =>
  refine Za (wpAny_mono h₁ (fun _ s₁' h₁'=>?_) fun _ _ h'=>h'.elim)
  refine Za (wpAny_mono h₁' (fun _ s₂ h₂=>Za (wpAny_mono h₂ (fun ok s₃ h₃=>?_) fun _ _ h'=>h'.elim)) fun _ _ h'=>h'.elim)
  cases ok with
  | false=>exact wpAny_pure ⟨rfl,h₃⟩
  | true =>
   refine Za (wpAny_mono h₃ (fun x s₄ h₄=>Za (wpAny_standAt (Za (wpAny_of_eq (hs x) (Za (wpAny_holding (wpAny_mono h₄ (fun it2 s₅ h₅=>?_) fun _ _ h'=>h'.elim))))))) fun _ _ h'=>h'.elim)
   refine Za (wpAny_runOwn (codeAny_mono h₅ fun r s₆ h₆=>?_))
   obtain ⟨rfl,h₆⟩:=h₆
   exact wpAny_pure ⟨rfl,h₆⟩
theorem jj7
  (h0:codeAny (model prog w) A (.compLoop (lc2 elt t1 i1 t2 i2 f1 f2 scope pos) 1 it acc env) R s)
  (h:wpAny (model prog w) A (pyIter it) (fun it' s'=>codeAny (model prog w) A (.compLoop (lc2 elt t1 i1 t2 i2 f1 f2 scope pos) 1 it' acc env) R s')
   (notedBy (model prog w) A env fun x s'=>R (.error x) s') s) :
  codeAny (model prog w) A (.compStart (lc2 elt t1 i1 t2 i2 f1 f2 scope pos) 1 it acc env) R s:=by
 refine codeAny_of_tree ?_
 show wpAny _ _ ((compStart (lc2 elt t1 i1 t2 i2 f1 f2 scope pos) 1 it acc env).onRaise (fun x=>do noteFrame x env; standAt theWindowsPlace)) _ _ s
 refine wpAny_notedAt ?_
 unfold compStart
 show wpAny _ _ (ask >>= _) _ _ s
 refine Za (wpAny_askSetting (wpAny_ite ?_))
 split
 ·first
   | exact Za (wpAny_pure (wpAny_pure (And.intro rfl h0)))
   | exact wpAny_pure (And.intro rfl h0)
 ·first
   | exact Za (wpAny_rule (Za (wpAny_standAt (Za (wpAny_mono h (fun it' s' h'=>wpAny_pure (And.intro rfl h')) fun _ _ x=>x)))))
   | (refine Za (wpAny_rule ?_); show wpAny _ _ (standAt i2.pos >>= _) _ _ s; exact Za (wpAny_standAt (Za (wpAny_mono h (fun it' s' h'=>wpAny_pure (And.intro rfl h')) fun _ _ x=>x))))
end
def tIn2 (g:TG) (tt:TT) (te:TE) (J:It) (acc:Addr) (σ₀:St) (H₀:Hp) (Z:St→Hp→Prop):Prop :=
 ∃ W:Nat→Nat→St→Hp→Prop,(∃ m,W 0 m σ₀ H₀)∧∀ i m σ' H',W i m σ' H' →
  (J.stop i H'∧Z σ' H') ∨
  (J.go i H'∧∃ N:St→Hp→Prop,(∀ σ2 H2,N σ2 H2→∃ m',m' < m∧W (i + 1) m' σ2 H2)∧∀ x H2,J.yld i H' x H2→g x σ' H2 fun σ3 H3=>tt σ3 H3 fun b H4 =>
   if b=true then te σ3 H4 fun y H5=>∃ ys,H5 acc=some (.lst ys)∧ys.length < sizeLine∧N σ3 (upd H5 acc (.lst (ys ++ [y]))) else N σ3 H4)
def tComp2N (g1:TG) (tt1:TT) (wi2:TI) (g2:TG) (tt2:TT) (te:TE) (J:It) (acc:Addr) (σ₀:St) (H₀:Hp) (Q:VK):Prop :=
 ∃ W:Nat→Nat→St→Hp→Prop,(∃ m,W 0 m σ₀ (upd H₀ acc (.lst [])))∧∀ i m σ' H',W i m σ' H' →
  (J.stop i H'∧Q (.ref acc) H') ∨
  (J.go i H'∧∃ N:St→Hp→Prop,(∀ σ2 H2,N σ2 H2→∃ m',m' < m∧W (i + 1) m' σ2 H2)∧∀ x H2,J.yld i H' x H2→g1 x σ' H2 fun σ3 H3=>tt1 σ3 H3 fun b H4 =>
   if b=true then wi2 σ3 H4 fun J2 H5=>tIn2 g2 tt2 te J2 acc σ3 H5 N else N σ3 H4)
def tComp2 (wi:TI) (g1:TG) (tt1:TT) (wi2:TI) (g2:TG) (tt2:TT) (te:TE) (own:Nat) (ix:List Nat):TE:=fun σ H Q=>wi σ H fun J H1=>∀ acc,H1 acc=none→tComp2N g1 tt1 wi2 g2 tt2 te J acc (blkσ own ix σ) H1 Q
section
variable {X:Cx} {scope:Scope} {own cap:List Str} {ix:List Nat} {t1 i1 t2 i2 elt:Expr} {f1 f2:List Expr} {wi wi2:TI} {g1 g2:TG} {tt1 tt2:TT} {te:TE} {pos:Pos}
theorem comp2_core {pins:List (Addr × Obj)} {σ:St} {H2:Hp} {s2:Shared} {it:Addr} {fp:List Addr} {tn:Nat→Heap→Prop} {J:It} {Q:VK} {RR:Value→Addr→Result→Shared→Prop} {E:Value→Shared→Prop}
  (B:BlkOk X scope own cap ix) (hc:X.calm=true)
  (hb:∀ C fp s H,PG (cxC X scope C (own ++ cap) fp s H) t1 g1∧PIfs (cxC X scope C (own ++ cap) fp s H) f1 tt1∧PI (cxC X scope C (own ++ cap) fp s H) t2 i2 wi2∧PG (cxC X scope C (own ++ cap) fp s H) t2 g2∧PIfs (cxC X scope C (own ++ cap) fp s H) f2 tt2∧PE (cxC X scope C (own ++ cap) fp s H) elt te)
  (hs2:∀ (env:Env) x,foldedSetIterable i2 env x=pure x)
  (I2:Inv X pins σ H2 s2) (T:Turn X.prog X.w X.K t1 J fp it tn) (st2:tn 0 s2.heap) (fk2:∀ b ∈ fp,FpOk X pins H2 b)
  (q:∀ acc,H2 acc=none→tComp2N g1 tt1 wi2 g2 tt2 te J acc (blkσ own.length ix σ) H2 Q)
  (hRR:∀ D C H' s' m,Inv X pins σ H' s'→Q (.ref D) H'→s'.heap.Ns C m→FpOk X pins H' C→RR (.ref D) C (.ok .next) s') :
  wpAny (model X.prog X.w) X.A (newList []) (fun acc s₃=>wpAny (model X.prog X.w) X.A (newFunctionEnv scope X.env.globals (cloF X.env scope.names []) [] X.env.qual none .none (some X.env)) (fun cenv s₄ =>
   codeAny (model X.prog X.w) X.A (.compStart (lc2 elt t1 i1 t2 i2 f1 f2 scope pos) 0 (.ref it) acc { cenv with scope:=relabel scope X.env }) (RR acc cenv.locals) s₄) E s₃) E s2:=by
 refine wpAny_newObj_type (newEnv_comp ?_)
 have I3:Inv X pins σ (upd H2 s2.heap.objs.size (.lst [])) { s2 with heap:=s2.heap.push { cls:=.type "list",dict:=none,data:=.seq ([]:List Value).toArray } }:=I2.lnew (its:=[]) (ys:=[]) (t':=s2.toks) .nil (Nat.zero_le _)
 obtain ⟨W,⟨m0,w0⟩,turn⟩:=q s2.heap.objs.size I2.fresh
 generalize hD:s2.heap.objs.size=D at I3 w0 turn ⊢
 have hlt:∀ b ∈ fp,b < D:=fun b hbm=>by
  obtain ⟨o,e,_⟩:=T.obj 0 _ st2 b hbm
  rw [← hD]; exact Heap.lt_size e
 generalize hs3:({ s2 with heap:=s2.heap.push { cls:=.type "list",dict:=none,data:=.seq ([]:List Value).toArray } }:Shared)=s3 at I3 ⊢
 have keep3:∀ b o,s2.heap.get? b=some o→s3.heap.get? b=some o:=fun b o e=>by rw [← hs3]; exact Heap.get?_push_of_some _ e
 have f3:∀ b ∈ fp,FpOk X pins (upd H2 D (.lst [])) b:=fun b hbm=>⟨by rw [jc0 (Nat.ne_of_lt (hlt b hbm))]; exact (fk2 b hbm).1,(fk2 b hbm).2⟩
 have o3:∀ b ∈ fp,∃ o,s3.heap.get? b=some o:=fun b hbm=>let ⟨o,e,_⟩:=T.obj 0 _ st2 b hbm; ⟨o,keep3 b o e⟩
 have I4:=I3.block B f3 o3
 have st4:tn 0 (pushCells (s3.heap.push { cls:=.type "dict",data:=.dict #[] }) scope.names):=T.keep 0 _ _ st2 fun b _ o e=>pushCells_keeps _ _ b o (Heap.get?_push_of_some _ (keep3 b o e))
 obtain ⟨hg,hif,hi2,hg2,hif2,he⟩:=hb s3.heap.objs.size fp s3 (upd H2 D (.lst []))
 generalize hX':cxC X scope s3.heap.objs.size (own ++ cap) fp s3 (upd H2 D (.lst []))=X' at I4 hg hif hi2 hg2 hif2 he
 have eP:X'.prog=X.prog:=by rw [← hX']; rfl
 have eW:X'.w=X.w:=by rw [← hX']; rfl
 have eK:X'.K=X.K:=by rw [← hX']; rfl
 have eA:X'.A=X.A:=by rw [← hX']; rfl
 have eE:X'.env=compE scope s3.heap.objs.size X.env:=by rw [← hX']; rfl
 have ex:X'.xe=fun _ _=>False:=by rw [← hX']; rfl
 have hc':X'.calm=true:=by rw [← hX']; exact hc
 have stat:∀ {H':Hp},(∀ b ∈ fp,H' b=none)→∀ b ∈ fp,FpOk X' [] H' b:=fun hn b hbm=>by
  subst hX'
  exact ⟨hn b hbm,(I4.ok.exf b hbm).1,I4.ok.exfs b hbm,.inl hbm,(I4.ok.exf b hbm).2,fun p hp=>absurd (show p ∈ ([]:List (Addr × Obj)) from hp) (by simp)⟩
 have loop:∀ s4:Shared,s4={ s3 with heap:=pushCells (s3.heap.push { cls:=.type "dict",data:=.dict #[] }) scope.names } →
   codeAny (model X.prog X.w) X.A (.compLoop (lc2 elt t1 i1 t2 i2 f1 f2 scope pos) 0 (.ref it) (.ref D) (compE scope s3.heap.objs.size X.env)) (RR (.ref D) s3.heap.objs.size) s4:=by
  rintro s4 rfl
  refine comp_loop2o (hs2 _) (fun n s'=>∃ i σ' H',Inv X' [] σ' H' s'∧tn i s'.heap∧(∀ b ∈ fp,H' b=none)∧W i n σ' H') ?_ m0 ⟨0,_,_,I4,st4,fun b hbm=>(f3 b hbm).1,w0⟩
  rintro n s5 ⟨i,σ5,H5,I5,st5,fr5,w5⟩
  rcases turn i n σ5 H5 w5 with ⟨stop,qn⟩ | ⟨go,N,hN,step⟩
  ·have:=T.done X' eP eW eK hc' i [] s5 σ5 H5 (fun _ _=>False) I5 (stat fr5) st5 stop
   rw [eA] at this
   refine thn this fun r s6 ⟨hr,I6⟩=>?_
   subst hr
   subst hX'
   have J6:Inv X pins σ H5 s6:=I3.call' (ch:=fp) I6.os I6.base I6.hok I6.bare fun b hbm=>⟨(f3 b hbm).2.2.2.1,(f3 b hbm).2.1,(f3 b hbm).2.2.2.2.1,(f3 b hbm).2.2.2.2.2⟩
   obtain ⟨m,hn,_⟩:=I6.loc
   exact hRR D _ H5 s6 m J6 qn hn (I3.fpOk (Zd _) I6.free)
  ·have:=T.item X' eP eW eK hc' i [] s5 σ5 H5 (fun _ _=>False) I5 (stat fr5) st5 go
   rw [eA] at this
   refine thn this fun r s6 ⟨u,hr,h6⟩=>?_
   subst hr
   refine thn h6 fun _ s7 ⟨x,H7,I7,r7,y7,st7,fr7⟩=>?_
   have I7':=I7.pinned (stat fr7) (T.obj _ _ st7)
   have a1:=hg _ s7 σ5 H7 x u _ I7' r7 (step x H7 y7)
   rw [eP,eW,eA,eE,ex] at a1
   refine thn a1 fun _ s8 ⟨σ8,H8,I8,q8⟩=>?_
   have a2:=hif _ s8 σ8 H8 _ I8 q8
   rw [eP,eW,eA,eE,ex] at a2
   refine thn a2 fun b s9 ⟨H9,I9,q9⟩=>?_
   have again:∀ {s':Shared} {σ':St} {H':Hp},Inv X' ([] ++ pinsAt fp s7.heap) σ' H' s'→N σ' H'→∃ m,m < n∧∃ i σ' H',Inv X' [] σ' H' s'∧tn i s'.heap∧(∀ b ∈ fp,H' b=none)∧W i m σ' H':=fun {s' σ' H'} I' n'=>by
    obtain ⟨m',hm,w'⟩:=hN σ' H' n'
    refine ⟨m',hm,i + 1,σ',H',I'.unpinned,T.keep _ _ _ st7 fun b hbm o e=>(I'.pin (b,o) (Zw _ (Zw _ (jf3 hbm e)))).1,fun b hbm=>?_,w'⟩
    obtain ⟨o,e,d⟩:=T.obj _ _ st7 b hbm
    exact (I'.pin (b,o) (Zw _ (Zw _ (jf3 hbm e)))).2.1
   cases b with
   | false=>exact again I9 q9
   | true =>
    rw [if_pos rfl] at q9 ⊢
    have a3:=hi2 _ s9 σ8 H9 _ I9 q9
    rw [eP,eW,eA,eE,ex] at a3
    refine thn a3 fun v10 s10 h10=>thn h10 fun itv s11 h11=>?_
    obtain ⟨it2,fp2,tn2,J2,H11,e11,I11,T2,st11,fk11,W2,⟨m2,w2⟩,turn2⟩:=h11
    subst e11
    have stat2:∀ {H':Hp},(∀ b ∈ fp2,H' b=none)→∀ b ∈ fp2,FpOk X' ([] ++ pinsAt fp s7.heap) H' b:=fun hn b hbm=>⟨hn b hbm,(fk11 b hbm).2⟩
    have loop2:codeAny (model X.prog X.w) X.A (.compLoop (lc2 elt t1 i1 t2 i2 f1 f2 scope pos) 1 (.ref it2) (.ref D) (compE scope s3.heap.objs.size X.env)) (fun r s₆=>r=.ok .next∧∃ m,m < n∧∃ i σ' H',Inv X' [] σ' H' s₆∧tn i s₆.heap∧(∀ b ∈ fp,H' b=none)∧W i m σ' H') s11:=by
     refine comp_loop2i (fun n s'=>∃ i σ' H',Inv X' ([] ++ pinsAt fp s7.heap) σ' H' s'∧tn2 i s'.heap∧(∀ b ∈ fp2,H' b=none)∧W2 i n σ' H') ?_ m2 ⟨0,_,_,I11,st11,fun b hbm=>(fk11 b hbm).1,w2⟩
     rintro n2 s12 ⟨j,σ12,H12,I12,st12,fr12,w12⟩
     rcases turn2 j n2 σ12 H12 w12 with ⟨stop2,qn2⟩ | ⟨go2,N2,hN2,step2⟩
     ·have:=T2.done X' rfl rfl rfl hc' j _ s12 σ12 H12 (fun _ _=>False) I12 (stat2 fr12) st12 stop2
      rw [eP,eW,eA] at this
      refine thn this fun r s13 ⟨hr,I13⟩=>?_
      subst hr
      exact ⟨rfl,again I13 qn2⟩
     ·have:=T2.item X' rfl rfl rfl hc' j _ s12 σ12 H12 (fun _ _=>False) I12 (stat2 fr12) st12 go2
      rw [eP,eW,eA] at this
      refine thn this fun r s13 ⟨u2,hr,h13⟩=>?_
      subst hr
      refine thn h13 fun _ s14 ⟨x2,H14,I14,r14,y14,st14,fr14⟩=>?_
      have I14':=I14.pinned (stat2 fr14) (T2.obj _ _ st14)
      have b1:=hg2 _ s14 σ12 H14 x2 u2 _ I14' r14 (step2 x2 H14 y14)
      rw [eP,eW,eA,eE,ex] at b1
      refine thn b1 fun _ s15 ⟨σ15,H15,I15,q15⟩=>?_
      have b2:=hif2 _ s15 σ15 H15 _ I15 q15
      rw [eP,eW,eA,eE,ex] at b2
      refine thn b2 fun bb s16 ⟨H16,I16,q16⟩=>?_
      have again2:∀ {s':Shared} {σ':St} {H':Hp},Inv X' (([] ++ pinsAt fp s7.heap) ++ pinsAt fp2 s14.heap) σ' H' s'→N2 σ' H'→∃ m,m < n2∧∃ i σ' H',Inv X' ([] ++ pinsAt fp s7.heap) σ' H' s'∧tn2 i s'.heap∧(∀ b ∈ fp2,H' b=none)∧W2 i m σ' H':=fun {s' σ' H'} I' n'=>by
       obtain ⟨m',hm,w'⟩:=hN2 σ' H' n'
       refine ⟨m',hm,j + 1,σ',H',I'.unpinned,T2.keep _ _ _ st14 fun b hbm o e=>(I'.pin (b,o) (Zw _ (Zw _ (jf3 hbm e)))).1,fun b hbm=>?_,w'⟩
       obtain ⟨o,e,d⟩:=T2.obj _ _ st14 b hbm
       exact (I'.pin (b,o) (Zw _ (Zw _ (jf3 hbm e)))).2.1
      cases bb with
      | false=>exact again2 I16 q16
      | true =>
       rw [if_pos rfl] at q16 ⊢
       have b3:=he _ s16 σ15 H16 _ I16 q16
       rw [eP,eW,eA,eE,ex] at b3
       refine thn b3 fun yv s17 ⟨y,H17,I17,r17,ys,hys,hz,q17⟩=>?_
       have b4:=mt_append (X:=X') _ s17 σ15 H17 (.ref D) [y] (.ref D) [yv] (fun v H'=>v=.non∧N2 σ15 H') I17 rfl (.cons r17 .nil) ⟨D,ys,y,rfl,rfl,hys,hz,rfl,q17⟩
       rw [eP,eW,eA,ex] at b4
       refine thn b4 fun _ s18 ⟨_,H18,I18,_,_,q18⟩=>again2 I18 q18
    have self2:=T2.self X.A 0 s11 (fun it' s'=>codeAny (model X.prog X.w) X.A (.compLoop (lc2 elt t1 i1 t2 i2 f1 f2 scope pos) 1 it' (.ref D) (compE scope s3.heap.objs.size X.env)) (fun r s₆=>r=.ok .next∧∃ m,m < n∧∃ i σ' H',Inv X' [] σ' H' s₆∧tn i s₆.heap∧(∀ b ∈ fp,H' b=none)∧W i m σ' H') s') (notedBy (model X.prog X.w) X.A (compE scope s3.heap.objs.size X.env) fun x s'=>(Except.error x:Result)=.ok .next∧∃ m,m < n∧∃ i σ' H',Inv X' [] σ' H' s'∧tn i s'.heap∧(∀ b ∈ fp,H' b=none)∧W i m σ' H') st11 loop2
    rw [eP,eW] at self2
    exact jj7 loop2 self2
 exact codeAny_compStart_list (loop _ rfl) (T.self X.A 0 _ _ _ st4 (loop _ rfl))
theorem pe_comp2 (B:BlkOk X scope own cap ix) (hc:X.calm=true) (hi:PI X t1 i1 wi)
  (hb:∀ C fp s H,PG (cxC X scope C (own ++ cap) fp s H) t1 g1∧PIfs (cxC X scope C (own ++ cap) fp s H) f1 tt1∧PI (cxC X scope C (own ++ cap) fp s H) t2 i2 wi2∧PG (cxC X scope C (own ++ cap) fp s H) t2 g2∧PIfs (cxC X scope C (own ++ cap) fp s H) f2 tt2∧PE (cxC X scope C (own ++ cap) fp s H) elt te)
  (hs:∀ x,foldedSetIterable i1 X.env x=pure x:=by intro _; rfl) (hs2:∀ (env:Env) x,foldedSetIterable i2 env x=pure x:=by intro _ _; rfl):PE X (.ListComp elt [⟨t1,i1,f1,0⟩,⟨t2,i2,f2,0⟩] scope pos) (tComp2 wi g1 tt1 wi2 g2 tt2 te own.length ix):=by
 intro pins s σ H Q I h
 rw [eval_ListComp]
 have has:∀ x ∈ scope.names,x.2=.free→(X.env.cells.lookup x.1).isSome=true:=fun x hx hk=>by
  obtain ⟨c,e⟩:=I.ok.has x.1 (B.frees x hx hk)
  rw [e]; rfl
 refine wpAny_comprehension_free (use:=none) rfl hs (jf9 has) B.kind B.names ?_
 show wpAny _ _ (eval i1 X.env) _ _ s
 refine thn (hi pins s σ H _ I h) fun v s1 h1=>thn h1 fun itv s2 h2=>?_
 obtain ⟨it,fp,tn,J,H2,e,I2,T,st2,f2,q⟩:=h2
 subst e
 refine comp2_core (RR:=fun acc C=>compPost (model X.prog X.w) X.A X.xe none (EP X pins σ Q) acc C) B hc hb hs2 I2 T st2 f2 q ?_
 intro D C H' s' m I' q' hn fC
 refine ⟨m,hn,fun h' hsb=>⟨.ref D,H',?_,rfl,q'⟩⟩
 exact I'.turned (t':=s'.toks) (it:=C) (fun b o hbC e=>(hsb.2 b hbC).trans e) fC.1 fC.2.1 fC.2.2.2.1 fC.2.2.2.2.1 fC.2.2.2.2.2
end
end L2
namespace L2
open PySem PySem.Spec PyProof.Rows KG
section
variable {te:TE} {acc a:Addr} {xs:List V} {cs:List (Option V)} {H₀:Hp} {Q:VK}
def CnE (p q:Option V) (cs:List (Option V)) (acc:Addr) (P:List V→Hp→Prop) (σ:St) (H:Hp):Prop:=(∃ x2 x3,σ=p :: q :: x2 :: x3 :: cs)∧∃ zs,H acc=some (.lst zs)∧P zs H
theorem CnE.of {p q u v:Option V} {P:List V→Hp→Prop} {H:Hp} {zs:List V} (h:H acc=some (.lst zs)) (r:P zs H):CnE p q cs acc P (p :: q :: u :: v :: cs) H:=⟨⟨_,_,rfl⟩,zs,h,r⟩
theorem comp2_ee (c:Nat→Addr) (ys:Nat→List V) (R:Nat→Nat→List V→Hp→Prop) (hx:∀ i,i < xs.length→xs[i]?=some (.ref (c i))) (h0:R 0 0 [] (upd H₀ acc (.lst [])))
  (hl:∀ i j zs H,i ≤ xs.length→R i j zs H→SqT K0 H a xs∧(i < xs.length→SqT K0 H (c i) (ys i))) (hst:∀ i j zs H H1,R i j zs H→Stay H H1→R i j zs H1)
  (hs:∀ i j y zs H,i < xs.length→(ys i)[j]?=some y→H acc=some (.lst zs)→R i j zs H→te (some (.int (i:Int)) :: some (.ref (c i)) :: some (.int (j:Int)) :: some y :: cs) H fun v H5=>∃ us,H5 acc=some (.lst us)∧us.length < sizeLine∧CnE (some (.int (i:Int))) (some (.ref (c i))) cs acc (R i (j + 1)) (some (.int (i:Int)) :: some (.ref (c i)) :: some (.int (j:Int)) :: some y :: cs) (upd H5 acc (.lst (us ++ [v]))))
  (hn:∀ i zs H,i < xs.length→R i (ys i).length zs H→R (i + 1) 0 zs H) (hd:∀ zs H,H acc=some (.lst zs)→R xs.length 0 zs H→Q (.ref acc) H) {x0 x1 x2 x3:Option V} :
  tComp2N (gTup K0 2 (gCons (gName 0) (gCons (gName 1) gNil))) tYes (iEnum K0 (tCons (tVar 1) tNil)) (gTup K0 2 (gCons (gName 2) (gCons (gName 3) gNil))) tYes te (Ite K0 a) acc (x0 :: x1 :: x2 :: x3 :: cs) H₀ Q:=by
 refine ⟨fun i m σ H=>m=xs.length - i∧i ≤ xs.length∧(∃ x0 x1 x2 x3,σ=x0 :: x1 :: x2 :: x3 :: cs)∧∃ zs,H acc=some (.lst zs)∧R i 0 zs H,⟨xs.length,by simp,Nat.zero_le _,⟨_,_,_,_,rfl⟩,[],ja8,h0⟩,?_⟩
 rintro i m σ H ⟨rfl,hi,⟨x0,x1,x2,x3,rfl⟩,zs,hz,r⟩
 have q:=(hl i 0 zs H hi r).1
 by_cases hlt:i < xs.length
 ·refine .inr ⟨⟨xs,xs[i],q,by simp [hlt]⟩,fun σ H=>(∃ x0 x1 x2 x3,σ=x0 :: x1 :: x2 :: x3 :: cs)∧∃ zs,H acc=some (.lst zs)∧R (i + 1) 0 zs H,fun σ' H' p=>⟨xs.length - (i + 1),by omega,rfl,hlt,p⟩,fun x H' y=>?_⟩
  obtain ⟨pp,hp,rfl,hyy⟩:=y
  obtain ⟨z,hz',rfl⟩:=hyy xs q
  rw [hx i hlt] at hz'
  have ez:z=.ref (c i):=(Option.some.inj hz').symm
  subst ez
  have s1:=(Stay.refl H).new (o:=.tup [.int (i:Int),.ref (c i)]) hp
  refine ⟨pp,_,rfl,SqT.of ja8,rfl,_,_,rfl,_,_,rfl,rfl,?_⟩
  have r1:=hst i 0 zs H _ r s1
  have hz1:=s1 _ _ hz
  generalize upd H pp (.tup [.int (i:Int),.ref (c i)])=H1 at s1 r1 hz1 ⊢
  refine yes_i ?_
  refine ⟨_,rfl,c i,rfl,⟨_,(hl i 0 zs H1 hi r1).2 hlt⟩,?_⟩
  refine ⟨fun j m σ H=>m=(ys i).length - j∧j ≤ (ys i).length∧(∃ x2 x3,σ=some (.int (i:Int)) :: some (.ref (c i)) :: x2 :: x3 :: cs)∧∃ zs,H acc=some (.lst zs)∧R i j zs H,⟨(ys i).length,by simp,Nat.zero_le _,⟨_,_,rfl⟩,zs,hz1,r1⟩,?_⟩
  rintro j m σ H2 ⟨rfl,hj,⟨x2,x3,rfl⟩,zs2,hz2,r2⟩
  have q2:=(hl i j zs2 H2 hi r2).2 hlt
  by_cases hlt2:j < (ys i).length
  ·refine .inr ⟨⟨ys i,(ys i)[j],q2,by simp [hlt2]⟩,CnE (some (.int (i:Int))) (some (.ref (c i))) cs acc (R i (j + 1)),fun σ' H' p=>⟨(ys i).length - (j + 1),by omega,rfl,hlt2,p⟩,fun x H' y=>?_⟩
   obtain ⟨pp2,hp2,rfl,hyy2⟩:=y
   obtain ⟨z2,hz2',rfl⟩:=hyy2 (ys i) q2
   have s2:=(Stay.refl H2).new (o:=.tup [.int (j:Int),z2]) hp2
   refine ⟨pp2,_,rfl,SqT.of ja8,rfl,_,_,rfl,_,_,rfl,rfl,?_⟩
   have r3:=hst i j zs2 H2 _ r2 s2
   have hz3:=s2 _ _ hz2
   generalize upd H2 pp2 (.tup [.int (j:Int),z2])=H3 at s2 r3 hz3 ⊢
   exact yes_i (hs i j z2 zs2 H3 hlt hz2' hz3 r3)
  ·have e:j=(ys i).length:=by omega
   subst e
   exact .inl ⟨⟨ys i,q2,Zd _⟩,⟨_,_,_,_,rfl⟩,zs2,hz2,hn i zs2 H2 hlt r2⟩
 ·have e:i=xs.length:=by omega
  subst e
  exact .inl ⟨⟨xs,q,Zd _⟩,hd zs H hz r⟩
end
end L2
namespace KM
open PySem L2 KG EX
def isPart:PyData→Bool
 | .tuple [.int t,.int u]=>decide (1 ≤ u) && decide (Int.gcd t u=1) && decide (0 ≤ t)
 | _=>false
def isDRow (g:Nat):PyData→Bool
 | .tuple ds=>decide (ds.length=g) && ds.all isPart
 | _=>false
def isDl (n g:Nat):PyData→Bool
 | .tuple ds=>decide (ds.length=n) && ds.all (isDRow g)
 | _=>false
theorem isDRow_no {g:Nat} {d:PyData} (h:isT d=false):isDRow g d=false:=by cases d <;> first | rfl | cases h
theorem isDl_no {n g:Nat} {d:PyData} (h:isT d=false):isDl n g d=false:=by cases d <;> first | rfl | cases h
theorem part_frac {d:PyData} (h:isFrac d=false):isPart d=false:=by
 unfold isPart
 split
 ·have h':(_ && _)=false:=h
  rw [h']; rfl
 ·rfl
theorem frac_shape {d:PyData} (h:isFrac d=true):∃ t u:Int,d=.tuple [.int t,.int u]∧isPart d=decide (0 ≤ t):=by
 unfold isFrac at h
 split at h
 ·rename_i t u
  refine ⟨t,u,rfl,?_⟩
  show (decide (1 ≤ u) && decide (Int.gcd t u=1) && decide (0 ≤ t))=_
  rw [h,Ya]
 ·cases h
def spDRow:Sp:=fun vs H Q _=>∃ (b:Addr) (v:V) (d:PyData) (g:Nat),vs=[v,.int (g:Int)]∧g ≤ 6∧TrV b H v d∧∀ H',Stay H H'→Q (.bl (isDRow g d)) H'
def spIsDl:Sp:=fun vs H Q _=>∃ (b p pa pp pw:Addr) (xa xp xw:List V) (am pu wi:List PyData) (v:V) (d:PyData),vs=[.ref p,v]∧MkAt b H p pa pp pw xa xp xw am pu wi∧TrV b H v d∧∀ H',Stay H H'→Q (.bl (isDl xp.length xa.length d)) H'
def FrM (H:Hp) (zs:List V) (D:List (List Rat)):Prop:=zs.length=D.length∧∀ (j:Nat) x,zs[j]?=some x→∃ (a:Addr) (ys:List V) (qs:List Rat),D[j]?=some qs∧x=.ref a∧H a=some (.tup ys)∧Frs H ys qs
theorem FrM.stay {H H':Hp} {zs:List V} {D:List (List Rat)} (h:FrM H zs D) (s:Stay H H'):FrM H' zs D:=⟨h.1,fun j x hx=>by obtain ⟨a,ys,qs,e1,e2,e3,e4⟩:=h.2 j x hx; exact ⟨a,ys,qs,e1,e2,s _ _ e3,e4.stay s⟩⟩
structure DlAt (H:Hp) (q:Addr) (zs:List V) (D:List (List Rat)) (g:Nat):Prop where
 hq:H q=some (.tup zs)
 fr:FrM H zs D
 len:∀ qs ∈ D,qs.length=g
 bd:∀ qs ∈ D,∀ z ∈ qs,Rb 100 z
 few:D.length ≤ 6
theorem DlAt.stay {H H':Hp} {q:Addr} {zs:List V} {D:List (List Rat)} {g:Nat} (h:DlAt H q zs D g) (s:Stay H H'):DlAt H' q zs D g:=⟨s _ _ h.hq,h.fr.stay s,h.len,h.bd,h.few⟩
def gotQ (D:List (List Rat)) (g:Nat):Rat:=sumQ (D.map fun qs=>qs.getD g 0)
def spGot:Sp:=fun vs H Q _=>∃ (q:Addr) (zs:List V) (D:List (List Rat)) (g n:Nat),vs=[.ref q,.int (g:Int)]∧DlAt H q zs D n∧g < n∧∀ (r:Addr) (H':Hp),Stay H H'→H' r=some (qO (gotQ D g))→Q (.ref r) H'
def sellsB (am:List Int) (M:List (List Int)) (D:List (List Rat)) (n:Nat):Bool:=(List.range n).all fun g=>decide (gotQ D g=if has M g=true then ((am.getD g 0:Int):Rat) else 0)
def spSells:Sp:=fun vs H Q _=>∃ (b p pa pp pw q:Addr) (xa xp xw zs:List V) (am pu wi:List PyData) (D:List (List Rat)),vs=[.ref p,.ref q]∧MkAt b H p pa pp pw xa xp xw am pu wi∧DlAt H q zs D xa.length∧∀ H',Stay H H'→Q (.bl (sellsB (am.map intOf) (rowsOf wi) D xa.length)) H'
def costQ (row qs:List Rat) (n:Nat):Rat:=sumQ ((List.range n).map fun g=>row.getD g 0 * qs.getD g 0)
def spendsB (ps:List Rat) (D:List (List Rat)) (qs:List Rat) (n:Nat):Bool:=(List.range D.length).all fun i=>decide (costQ (D.getD i []) qs n=ps.getD i 0)
def spSpends:Sp:=fun vs H Q _=>∃ (b p pa pp pw qp q:Addr) (xa xp xw yp zs:List V) (am pu wi:List PyData) (qs:List Rat) (D:List (List Rat)),vs=[.ref p,.ref qp,.ref q]∧MkAt b H p pa pp pw xa xp xw am pu wi∧PrAt b H qp yp qs∧qs.length=xa.length∧DlAt H q zs D xa.length∧D.length=xp.length∧∀ H',Stay H H'→Q (.bl (spendsB (jd5 pu) D qs xa.length)) H'
def giveB (B:List (List Int)) (D:List (List Rat)) (i g:Nat):Bool:=decide ((D.getD i []).getD g 0=0) || (B.getD i []).contains (g:Int)
def givesB (B:List (List Int)) (D:List (List Rat)) (n:Nat):Bool:=(List.range D.length).all fun i=>(List.range n).all fun g=>giveB B D i g
def spGives:Sp:=fun vs H Q _=>∃ (pb q:Addr) (xb zs:List V) (B:List (List Int)) (D:List (List Rat)) (n:Nat),vs=[.ref pb,.ref q]∧H pb=some (.tup xb)∧Rws H xb B∧DlAt H q zs D n∧n ≤ 6∧B.length=D.length∧∀ H',Stay H H'→Q (.bl (givesB B D n)) H'
def flatB (B:List (List Int)) (D:List (List Rat)) (n i j:Nat):List V:=((List.range i).flatMap fun i=>(List.range n).map fun g=>V.bl (giveB B D i g)) ++ (List.range j).map fun g=>V.bl (giveB B D i g)
theorem flatB_next (B:List (List Int)) (D:List (List Rat)) (n i:Nat):flatB B D n i n=flatB B D n (i + 1) 0:=by
 unfold flatB
 rw [Yf,List.flatMap_append]
 simp
theorem flatB_succ (B:List (List Int)) (D:List (List Rat)) (n i j:Nat):flatB B D n i (j + 1)=flatB B D n i j ++ [V.bl (giveB B D i j)]:=by
 unfold flatB
 rw [Yf,Zh,List.append_assoc]; rfl
theorem flatB_len (B:List (List Int)) (D:List (List Rat)) (n i j:Nat):(flatB B D n i j).length=i * n + j:=by
 unfold flatB
 rw [Zj,Zb,List.length_range]
 congr 1
 induction i with
 | zero=>simp
 | succ i ih=>rw [Yf,List.flatMap_append,Zj,ih]; simp [Nat.succ_mul]
theorem flatB_all (B:List (List Int)) (D:List (List Rat)) (n:Nat):(flatB B D n D.length 0).all tv=givesB B D n:=by
 unfold flatB givesB
 rw [List.all_append,List.all_flatMap]
 simp only [List.range_zero,List.map_nil,List.all_nil,Bool.and_true,Zy]
 rfl
theorem flatB_plain (B:List (List Int)) (D:List (List Rat)) (n i j:Nat):(flatB B D n i j).all plainB=true:=by
 unfold flatB
 rw [List.all_append,List.all_flatMap]
 simp [Zy,Function.comp_def,plainB]
theorem num_zero {q:Rat}:decide (V.int q.num=V.int 0)=decide (q=0):=by
 rw [decide_eq_decide]
 constructor
 ·intro h; injection h with h; exact Rat.num_eq_zero.mp h
 ·intro h; rw [h]; rfl
def matD (D:List (List Rat)):PyData:=.tuple (D.map fun qs=>.tuple (qs.map qD))
theorem part_q {e:PyData} (h:isPart e=true):∃ q:Rat,e=qD q∧0 ≤ q:=by
 unfold isPart at h
 split at h
 ·rename_i t u
  simp only [Zm,decide_eq_true_eq] at h
  obtain ⟨⟨h1,h2⟩,h3⟩:=h
  obtain ⟨q,e1,e2⟩:=rat_of (t:=t) (u:=u) (by omega) h2
  exact ⟨q,by unfold qD; rw [e1,e2],Rat.num_nonneg.mp (by omega)⟩
 ·cases h
theorem parts_q:∀ {es:List PyData},es.all isPart=true→∃ qs:List Rat,es=qs.map qD∧∀ q ∈ qs,0 ≤ q
 | [],_=>⟨[],rfl,fun q h=>nomatch h⟩
 | e :: es,h=>by
  rw [List.all_cons,Zm] at h
  obtain ⟨q,rfl,h1⟩:=part_q h.1
  obtain ⟨qs,rfl,h2⟩:=parts_q h.2
  refine ⟨q :: qs,rfl,fun z hz=>?_⟩
  rcases Zf.mp hz with rfl | hz
  ·exact h1
  ·exact h2 z hz
theorem drow_q {g:Nat} {r:PyData} (h:isDRow g r=true):∃ qs:List Rat,r=.tuple (qs.map qD)∧qs.length=g∧∀ q ∈ qs,0 ≤ q:=by
 cases r with
 | tuple es =>
  have h':(decide (es.length=g) && es.all isPart)=true:=h
  rw [Zm,decide_eq_true_eq] at h'
  obtain ⟨qs,rfl,h1⟩:=parts_q h'.2
  exact ⟨qs,rfl,by have:=h'.1; rw [Zb] at this; exact this,h1⟩
 | _=>cases h
theorem drows_q {g:Nat}:∀ {ds:List PyData},ds.all (isDRow g)=true→∃ D:List (List Rat),ds=(D.map fun qs=>.tuple (qs.map qD))∧(∀ qs ∈ D,qs.length=g)∧∀ qs ∈ D,∀ q ∈ qs,0 ≤ q
 | [],_=>⟨[],rfl,by simp,by simp⟩
 | d :: ds,h=>by
  rw [List.all_cons,Zm] at h
  obtain ⟨qs,rfl,h1,h2⟩:=drow_q h.1
  obtain ⟨D,rfl,h3,h4⟩:=drows_q h.2
  refine ⟨qs :: D,rfl,fun z hz=>?_,fun z hz=>?_⟩
  ·rcases Zf.mp hz with rfl | hz
   ·exact h1
   ·exact h3 z hz
  ·rcases Zf.mp hz with rfl | hz
   ·exact h2
   ·exact h4 z hz
theorem dl_q {n g:Nat} {d:PyData} (h:isDl n g d=true):∃ D:List (List Rat),d=matD D∧D.length=n∧(∀ qs ∈ D,qs.length=g)∧∀ qs ∈ D,∀ q ∈ qs,0 ≤ q:=by
 cases d with
 | tuple ds =>
  have h':(decide (ds.length=n) && ds.all (isDRow g))=true:=h
  rw [Zm,decide_eq_true_eq] at h'
  obtain ⟨D,rfl,h1,h2⟩:=drows_q h'.2
  exact ⟨D,rfl,by have:=h'.1; rw [Zb] at this; exact this,h1,h2⟩
 | _=>cases h
theorem frm_of {b:Addr} {H:Hp}:∀ {zs:List V} {D:List (List Rat)},TrVs b H zs (D.map fun qs=>.tuple (qs.map qD))→FrM H zs D
 | [],[],_=>⟨rfl,fun j x h=>by simp at h⟩
 | z :: zs,qs :: D,.cons h t=>by
  have ih:=frm_of t
  cases h with
  | @tup a ys _ ha hys =>
  refine ⟨by simp [ih.1],fun j x hx=>?_⟩
  cases j with
  | zero=>simp at hx; subst hx; exact ⟨a,ys,qs,rfl,rfl,ha,Frs.of hys⟩
  | succ j=>exact ih.2 j x (by simpa using hx)
def showsB (am:List Int) (ps qs:List Rat) (M:List (List Int)) (D:List (List Rat)) (n:Nat):Bool:=sellsB am M D n && (givesB (bestM M qs) D n && spendsB ps D qs n)
def spShows:Sp:=fun vs H Q _=>∃ (b p pa pp pw qp:Addr) (xa xp xw yp:List V) (am pu wi:List PyData) (qs:List Rat) (v:V) (d:PyData),vs=[.ref p,.ref qp,v]∧MkAt b H p pa pp pw xa xp xw am pu wi∧PrAt b H qp yp qs∧qs.length=xa.length∧Prs (rowsOf wi) qs∧TrV b H v d∧(∀ D,d=matD D→∀ r ∈ D,∀ z ∈ r,Rb 100 z) ∧
 (isDl xp.length xa.length d=false→∀ H',Stay H H'→Q (.bl false) H')∧(∀ D,d=matD D→D.length=xp.length→(∀ r ∈ D,r.length=xa.length)→(∀ r ∈ D,∀ z ∈ r,0 ≤ z)→∀ H',Stay H H'→Q (.bl (showsB (am.map intOf) (jd5 pu) qs (rowsOf wi) D xa.length)) H')
end KM
namespace L2
open PySem PySem.Spec PyProof.Rows KG
end L2
namespace KM
open PySem L2 KG EX
end KM
namespace PySem
open AutoSeq1 (wpAny_loadPart')
end PySem
namespace L2
open PySem PySem.Spec PyProof.Rows
section
variable {X:Cx}
end
end L2
namespace KM
open PySem L2 KG EX
theorem sumQ_app:∀ (a b:List Rat),sumQ (a ++ b)=sumQ a + sumQ b
 | [],b=>by rw [List.nil_append]; show _=(0:Rat) + _; rw [Rat.zero_add]
 | q :: a,b=>by rw [List.cons_append,sumQ_cons,sumQ_cons,sumQ_app a b,Rat.add_assoc]
def eQ (D:List (List Rat)) (i g:Nat):Rat:=(D.getD i []).getD g 0
theorem gotQ_idx (D:List (List Rat)) (g:Nat):gotQ D g=sumQ ((List.range D.length).map fun i=>eQ D i g):=by
 unfold gotQ eQ
 congr 1
 conv=>lhs; rw [← idx_all D [],Zs]
 rfl
def putQ (D:List (List Rat)) (i g:Nat) (q:Rat):List (List Rat):=D.set i ((D.getD i []).set g q)
theorem eQ_put {D:List (List Rat)} {i g:Nat} {q:Rat} (hi:i < D.length) (hg:g < (D.getD i []).length) (i' g':Nat):eQ (putQ D i g q) i' g'=if i'=i∧g'=g then q else eQ D i' g':=by
 unfold eQ putQ
 by_cases h:i'=i
 ·subst h
  have e:(D.set i' ((D.getD i' []).set g q)).getD i' []=(D.getD i' []).set g q:=by simp [List.getD,hi]
  rw [e]
  generalize D.getD i' []=R at hg ⊢
  by_cases h2:g'=g
  ·subst h2
   rw [if_pos ⟨rfl,rfl⟩]
   simp [List.getD,hg]
  ·rw [if_neg (fun z=>h2 z.2)]
   simp [List.getD,Yg (Ne.symm h2)]
 ·rw [if_neg (fun z=>h z.1)]
  have e:(D.set i ((D.getD i []).set g q)).getD i' []=D.getD i' []:=by simp [List.getD,Yg (Ne.symm h)]
  rw [e]
theorem part_qD {q:Rat} (h:0 ≤ q):isPart (qD q)=true:=by
 show (decide ((1:Int) ≤ (q.den:Int)) && decide (Int.gcd q.num (q.den:Int)=1) && decide (0 ≤ q.num))=true
 have h1:=jc8 q
 have h2:Int.gcd q.num (q.den:Int)=1:=by
  have:=q.reduced
  unfold Nat.Coprime at this
  rw [Int.gcd_eq_natAbs_gcd_natAbs]
  simpa using this
 rw [decide_eq_true (show (1:Int) ≤ (q.den:Int) by omega),decide_eq_true h2,decide_eq_true (Rat.num_nonneg.mpr h)]; rfl
theorem isDl_mat {D:List (List Rat)} {n g:Nat} (h1:D.length=n) (h2:∀ r ∈ D,r.length=g) (h3:∀ r ∈ D,∀ z ∈ r,0 ≤ z):isDl n g (matD D)=true:=by
 show (decide ((D.map fun qs=>PyData.tuple (qs.map qD)).length=n) && (D.map fun qs=>PyData.tuple (qs.map qD)).all (isDRow g))=true
 rw [Zb,decide_eq_true h1,Ya,Zy,Zt]
 intro r hr
 show (decide ((r.map qD).length=g) && (r.map qD).all isPart)=true
 rw [Zb,decide_eq_true (h2 r hr),Ya,Zy,Zt]
 exact fun z hz=>part_qD (h3 r hr z hz)
def halfQ:Rat:=Rat.divInt 1 2
theorem half_nd:halfQ.num=1∧(halfQ.den:Int)=2:=by decide +kernel
theorem half_rb:Rb 3 halfQ:=by
 have:=half_nd
 unfold Rb Bd
 rw [this.1,this.2]; decide
end KM
namespace EX
open PySem PySem.Spec PyProof.Rows
section
variable {M:Model} {A:Around} {E:Value→Shared→Prop} {s:Shared} {B:Heap} {env:Env} {outer:List Env} {L e C t:Addr} {Q:Unit→Shared→Prop}
end
end EX
namespace L2
open PySem PySem.Spec PyProof.Rows EX
section
variable {X:Cx} {scope:Scope} {own cap:List Str} {ix:List Nat} {tg iter elt:Expr} {ifs:List Expr} {wi:TI} {g:TG} {tt:TT} {te:TE} {pos:Pos}
end
end L2
namespace PySem
section
variable {prog:Program} {w:World} {A:Around} {E:Value→Shared→Prop} {s:Shared} {z TI TO i1 i2 i3 l1 l2 l3:Addr} {k1 k2 k3:Nat} {xs ys us:Array Value} {x y u a b c:Value}
end
end PySem
namespace L2
open PySem PySem.Spec PyProof.Rows
section
variable {X:Cx}
end
end L2
namespace L2
open PySem PySem.Spec PyProof.Rows KG
section
variable {X:Cx}
end
end L2
namespace KM
open PySem L2 KG EX
def rowQ:PyData→List Rat
 | .tuple es=>es.map qOf
 | _=>[]
def matOf:PyData→List (List Rat)
 | .tuple ds=>ds.map rowQ
 | _=>[]
theorem rowQ_q (qs:List Rat):rowQ (.tuple (qs.map qD))=qs:=by
 show (qs.map qD).map qOf=qs
 rw [Zs]
 have:(qOf ∘ qD)=id:=by funext q; exact qOf_qD q
 rw [this,List.map_id]
theorem matOf_mat (D:List (List Rat)):matOf (matD D)=D:=by
 show (D.map fun qs=>PyData.tuple (qs.map qD)).map rowQ=D
 rw [Zs]
 have:(rowQ ∘ fun qs=>PyData.tuple (qs.map qD))=id:=by funext q; exact rowQ_q q
 rw [this,List.map_id]
theorem putQ_mem {D:List (List Rat)} {i j:Nat} {z:Rat} {P:Rat→Prop} (h:∀ r ∈ D,∀ y ∈ r,P y) (hz:P z):∀ r ∈ putQ D i j z,∀ y ∈ r,P y:=by
 intro r hr y hy
 unfold putQ at hr
 rcases List.mem_or_eq_of_mem_set hr with q | q
 ·exact h r q y hy
 ·subst q
  rcases List.mem_or_eq_of_mem_set hy with q | q
  ·rcases Nat.lt_or_ge i D.length with a | a
   ·rw [jc2 (Zc a)] at q; exact h _ (Zn a) y q
   ·have:D.getD i []=[]:=by simp [List.getD,a]
    rw [this] at q; cases q
  ·rw [q]; exact hz
theorem putQ_lens {D:List (List Rat)} {i j g:Nat} {z:Rat} (hi:i < D.length) (h:∀ r ∈ D,r.length=g):∀ r ∈ putQ D i j z,r.length=g:=by
 intro r hr
 unfold putQ at hr
 rcases List.mem_or_eq_of_mem_set hr with q | q
 ·exact h r q
 ·subst q
  rw [List.length_set,jc2 (Zc hi)]
  exact h _ (Zn hi)
theorem putQ_len {D:List (List Rat)} {i j:Nat} {z:Rat}:(putQ D i j z).length=D.length:=by unfold putQ; rw [List.length_set]
theorem rb_neg {k:Nat} {b:Rat} (h:Rb k b):Rb k (-b):=by
 obtain ⟨h1,h2⟩:=h
 unfold Bd at h1 h2
 refine ⟨?_,?_⟩
 ·unfold Bd; rw [Rat.neg_num,Int.natAbs_neg]; exact h1
 ·unfold Bd; rw [Rat.neg_den]; exact h2
theorem rb_sub {j k:Nat} {a b:Rat} (ha:Rb j a) (hb:Rb k b):Rb (j + k + 1) (a - b):=by
 rw [Rat.sub_eq_add_neg]; exact rb_add ha (rb_neg hb)
def add0:PyData→PyData
 | .tuple rs=>.tuple (rs ++ [.int 0])
 | d=>d
theorem row_add0 {n:Nat} {d:PyData} (h:isRow n 0 100 d=true):isRow (n + 1) 0 100 (add0 d)=true∧rowOf (add0 d)=rowOf d ++ [0]:=by
 obtain ⟨rs,rfl,h1,h2⟩:=rowShape h
 refine ⟨?_,?_⟩
 ·show (decide ((rs ++ [PyData.int 0]).length=n + 1) && (rs ++ [PyData.int 0]).all (within 0 100))=true
  rw [Zj,List.all_append,h2,decide_eq_true (show rs.length + [PyData.int 0].length=n + 1 by rw [h1]; rfl)]
  rfl
 ·show (rs ++ [PyData.int 0]).map intOf=rs.map intOf ++ [0]
  rw [Zh]; rfl
theorem mk_wide {am pu wi:List PyData} {x:Int} (h:isMk (.tuple [.tuple am,.tuple pu,.tuple wi])=true) (h5:am.length ≤ 5) (hx:1 ≤ x∧x ≤ 60):isMk (.tuple [.tuple (am ++ [.int x]),.tuple pu,.tuple (wi.map add0)])=true:=by
 obtain ⟨h1,h2,h3,h4,h6,h7,h8,h9⟩:=jh4 h
 show (decide (1 ≤ (am ++ [PyData.int x]).length) && decide ((am ++ [PyData.int x]).length ≤ 6) && (am ++ [PyData.int x]).all (within 1 60) && (decide (1 ≤ pu.length) && decide (pu.length ≤ 6) && pu.all jd4) && (decide ((wi.map add0).length=pu.length) && (wi.map add0).all (isRow (am ++ [PyData.int x]).length 0 100)))=true
 have e1:(am ++ [PyData.int x]).length=am.length + 1:=by rw [Zj]; rfl
 have e2:(am ++ [PyData.int x]).all (within 1 60)=true:=by
  rw [List.all_append,h3]
  show (true && ((decide ((1:Int) ≤ x) && decide (x ≤ 60)) && true))=true
  rw [decide_eq_true hx.1,decide_eq_true hx.2]; rfl
 have e3:(wi.map add0).all (isRow (am.length + 1) 0 100)=true:=by
  rw [Zy]
  exact Zt.mpr fun d hd=>(row_add0 (Zt.mp h9 d hd)).1
 rw [e1,e2,e3,Zb,decide_eq_true (show 1 ≤ am.length + 1 by omega),decide_eq_true (show am.length + 1 ≤ 6 by omega),decide_eq_true h4,decide_eq_true h6,h7,decide_eq_true h8]; rfl
theorem has_wide {M:List (List Int)} {n g:Nat} (hl:∀ r ∈ M,r.length=n):has (M.map fun r=>r ++ [0]) g=(decide (g < n) && has M g):=by
 unfold has
 rw [List.any_map]
 rcases Nat.lt_or_ge g n with y | y
 ·rw [decide_eq_true y,Ya,Bool.eq_iff_iff,List.any_eq_true,List.any_eq_true]
  have e:∀ r ∈ M,(r ++ [(0:Int)]).getD g 0=r.getD g 0:=fun r hr=>by simp [List.getD,Zr (show g < r.length by rw [hl r hr]; exact y)]
  constructor
  ·rintro ⟨r,hr,h⟩
   have h':decide (0 < (r ++ [(0:Int)]).getD g 0)=true:=h
   rw [e r hr] at h'
   exact ⟨r,hr,h'⟩
  ·rintro ⟨r,hr,h⟩
   refine ⟨r,hr,?_⟩
   show decide (0 < (r ++ [(0:Int)]).getD g 0)=true
   rw [e r hr]; exact h
 ·rw [decide_eq_false (by omega),Bool.false_and,List.any_eq_false]
  intro r hr
  have:(r ++ [(0:Int)]).getD g 0=0:=by
   rcases Nat.eq_or_lt_of_le y with q | q
   ·have:g=r.length:=by rw [hl r hr]; exact q.symm
    subst this; simp [List.getD]
   ·simp [List.getD,Yk (show (r ++ [(0:Int)]).length ≤ g by rw [Zj,hl r hr]; exact q)]
  show ¬ decide (0 < (r ++ [0]).getD g 0)=true
  rw [this]; decide
theorem prs_wide {M:List (List Int)} {qs:List Rat} (hl:∀ r ∈ M,r.length=qs.length) (h:Prs M qs):Prs (M.map fun r=>r ++ [0]) (qs ++ [0]):=by
 have eg:∀ j,j < qs.length→(qs ++ [(0:Rat)]).getD j 0=qs.getD j 0:=fun j hj=>by simp [List.getD,Zr hj]
 refine ⟨fun j hj hh=>?_,fun j hj hh=>?_⟩
 ·rw [has_wide hl,Zm,decide_eq_true_eq] at hh
  rw [eg j hh.1]; exact h.pos j hh.1 hh.2
 ·rw [has_wide hl] at hh
  rcases Nat.lt_or_ge j qs.length with y | y
  ·rw [decide_eq_true y,Ya] at hh
   rw [eg j y]; exact h.nil j y hh
  ·have:j=qs.length:=by rw [Zj] at hj; simp at hj; omega
   subst this; simp [List.getD]
def gotZ (r:Int):Rat:=Rat.divInt 1 (1 + r)
theorem gotZ_o {r:Int} (h0:0 ≤ r) (h1:r < 3):qO (gotZ r)=.tup [.int 1,.int (1 + r)]∧Rb 4 (gotZ r):=by
 have h:(gotZ r).num=1∧((gotZ r).den:Int)=1 + r:=by
  have:r=0 ∨ r=1 ∨ r=2:=by omega
  rcases this with rfl | rfl | rfl <;> decide +kernel
 refine ⟨?_,?_,?_⟩
 ·show HO.tup [.int (gotZ r).num,.int (gotZ r).den]=_
  rw [h.1,h.2]
 ·unfold Bd; rw [h.1]; decide
 ·unfold Bd; rw [h.2]; omega
structure Known (n g:Nat) (ts:List Int) (A:List Int) (P qs:List Rat) (W:List (List Int)) (D:List (List Rat)):Prop where
 wl:W.length=n
 dl:D.length=n
 ql:qs.length=g
 wr:∀ r ∈ W,r.length=g
 dr:∀ r ∈ D,r.length=g
 q0:∀ j,j < g→0 < qs.getD j 0
 tq:∀ j,j < g→((ts.getD j 0:Int):Rat)=12 * qs.getD j 0
 w0:∀ i j,i < n→j < g→0 ≤ (W.getD i []).getD j 0∧(W.getD i []).getD j 0 ≤ ts.getD j 0
 all:∀ j,j < g→∃ i,i < n∧(W.getD i []).getD j 0=ts.getD j 0
 d0:∀ i j,i < n→j < g→eQ D i j ≠ 0→(W.getD i []).getD j 0=ts.getD j 0
 sum:∀ j,j < g→gotQ D j=((A.getD j 0:Int):Rat)
 pay:∀ i,i < n→P.getD i 0=sumQ ((List.range g).map fun j=>qs.getD j 0 * eQ D i j)
theorem Known.top {n g:Nat} {ts A:List Int} {P qs:List Rat} {W:List (List Int)} {D:List (List Rat)} (k:Known n g ts A P qs W D) {j:Nat} (hj:j < g):0 < ts.getD j 0:=by
 have h1:=k.tq j hj
 have h2:=k.q0 j hj
 have h3:(0:Rat) < ((ts.getD j 0:Int):Rat):=by
  rw [h1]; exact Rat.mul_pos (by decide +kernel) h2
 exact_mod_cast h3
theorem Known.best {n g:Nat} {ts A:List Int} {P qs:List Rat} {W:List (List Int)} {D:List (List Rat)} (k:Known n g ts A P qs W D) {i j:Nat} (hi:i < n) (hj:j < g) (h:(W.getD i []).getD j 0=ts.getD j 0):bestB (W.getD i []) qs j=true:=by
 have hr:(W.getD i []).length=g:=k.wr _ (by rw [jc2 (Zc (show i < W.length by rw [k.wl]; exact hi))]; exact Zn _)
 unfold bestB
 rw [Zm,decide_eq_true_eq,Zt]
 refine ⟨?_,fun o ho=>?_⟩
 ·have:=k.top hj; rw [h]; omega
 ·rw [hr] at ho
  have ho:=List.mem_range.mp ho
  have hw:=(k.w0 i o hi ho).2
  have e1:=k.tq o ho
  have e2:=k.tq j hj
  unfold worse
  rw [Bool.not_eq_true',Bool.and_eq_false_iff]
  right
  rw [decide_eq_false_iff_not,h,e2]
  intro hlt
  have hw':(((W.getD i []).getD o 0:Int):Rat) ≤ 12 * qs.getD o 0:=by rw [← e1]; exact_mod_cast hw
  have hle:(((W.getD i []).getD o 0:Int):Rat) * qs.getD j 0 ≤ 12 * qs.getD o 0 * qs.getD j 0:=Rat.mul_le_mul_of_nonneg_right hw' (Rat.le_of_lt (k.q0 j hj))
  have e3:12 * qs.getD j 0 * qs.getD o 0=12 * qs.getD o 0 * qs.getD j 0:=by
   rw [Rat.mul_assoc,Rat.mul_assoc,Rat.mul_comm (qs.getD j 0)]
  rw [e3] at hlt
  exact (Rat.not_lt.mpr hle) hlt
theorem Known.shows {n g:Nat} {ts A:List Int} {P qs:List Rat} {W:List (List Int)} {D:List (List Rat)} (k:Known n g ts A P qs W D):showsB A P qs W D g=true:=by
 unfold showsB
 rw [Zm,Zm]
 refine ⟨?_,?_,?_⟩
 ·unfold sellsB
  rw [Zt]
  intro j hj
  have hj:=List.mem_range.mp hj
  obtain ⟨i,hi,hw⟩:=k.all j hj
  have hh:has W j=true:=by
   unfold has
   rw [List.any_eq_true]
   refine ⟨W.getD i [],by rw [jc2 (Zc (show i < W.length by rw [k.wl]; exact hi))]; exact Zn _,?_⟩
   rw [hw]; exact decide_eq_true (k.top hj)
  rw [hh,if_pos rfl]
  exact decide_eq_true (k.sum j hj)
 ·unfold givesB
  rw [Zt]
  intro i hi
  have hi:i < n:=by have:=List.mem_range.mp hi; rw [k.dl] at this; exact this
  rw [Zt]
  intro j hj
  have hj:=List.mem_range.mp hj
  unfold giveB
  by_cases h0:(D.getD i []).getD j 0=0
  ·rw [decide_eq_true h0]; rfl
  ·rw [Bool.or_eq_true]
   right
   have hb:=k.best hi hj (k.d0 i j hi hj h0)
   have hr:(W.getD i []).length=g:=k.wr _ (by rw [jc2 (Zc (show i < W.length by rw [k.wl]; exact hi))]; exact Zn _)
   have e:(bestM W qs).getD i []=(bestR (W.getD i []) qs).map fun g:Nat=>(g:Int):=by
    have hi':i < W.length:=by rw [k.wl]; exact hi
    unfold bestM
    simp [List.getD,Zg,Zc hi']
   rw [e,List.contains_iff_mem]
   exact Zk.mpr ⟨j,List.mem_filter.mpr ⟨List.mem_range.mpr (by rw [hr]; exact hj),hb⟩,rfl⟩
 ·unfold spendsB
  rw [Zt]
  intro i hi
  have hi:i < n:=by have:=List.mem_range.mp hi; rw [k.dl] at this; exact this
  rw [decide_eq_true_eq,k.pay i hi]
  unfold costQ eQ
  congr 1
  exact List.map_congr_left fun j _=>Rat.mul_comm _ _
end KM
namespace PySem
section
variable {prog:Program} {w:World} {A:Around} {E:Value→Shared→Prop} {s:Shared} {z TI TO i1 i2 l1 l2:Addr} {k1 k2:Nat} {xs ys:Array Value} {x y a b:Value}
theorem ji2 {h g:Heap} {it l c:Addr} {i:Nat} (t:h.IsListIter it l i) (sb:Heap.ExtBut c h g) (ne:it ≠ c):g.IsListIter it l i:=let ⟨o,e,r⟩:=t; ⟨o,sb it o ne e,r⟩
theorem lst_but {h g:Heap} {l c:Addr} {v:Array Value} (t:h.IsList l v) (sb:Heap.ExtBut c h g) (ne:l ≠ c):g.IsList l v:=let ⟨o,e,r⟩:=t; ⟨o,sb l o ne e,r⟩
theorem zipLL_next {Q:Value→Shared→Prop} (D:ZipApart z TI TO i1 i2 l1 l2) (hz:IsZip s.heap z TI TO .none) (pI:IsPair s.heap TI (.ref i1) (.ref i2)) (pO:IsPair s.heap TO a b)
  (t1:s.heap.IsListIter i1 l1 k1) (t2:s.heap.IsListIter i2 l2 k2) (u1:s.heap.IsList l1 xs) (u2:s.heap.IsList l2 ys) (hx:xs[k1]?=some x) (hy:ys[k2]?=some y)
  (q:∀ g,IsZip g z TI TO (rawInt s.heap.objs.size)→IsPair g TO x y→g.IsListIter i1 l1 (k1 + 1)→g.IsListIter i2 l2 (k2 + 1)→IsPair g s.heap.objs.size x y →
   (∀ c o,c ≠ z→c ≠ TO→c ≠ i1→c ≠ i2→s.heap.get? c=some o→g.get? c=some o)→Q (.ref s.heap.objs.size) { s with heap:=g }) :
  wpAny (model prog w) A (Builtin.«zip.__next__» ⟨[.ref z],[]⟩) (fun fin s'=>∃ v,fin=.done (.ret v)∧Q v s') E s:=by
 show wpAny _ _ (field (.ref z) 2 >>= _) _ _ _; refine Za (wpAny_field hz rfl (x:=.bool false) rfl ?_)
 show wpAny _ _ (field (.ref z) 3 >>= _) _ _ _; refine Za (wpAny_field hz rfl (x:=.ref TI) rfl (Za (wpAny_seqItems pI rfl ?_)))
 show wpAny _ _ (Builtin.SmallTypes.ownedTupleIsFree (.ref z) >>= _) _ _ _; refine Za ?_; unfold Builtin.SmallTypes.ownedTupleIsFree
 refine Za (wpAny_field hz rfl (x:=.none) rfl (wpAny_pure ?_)); simp only [if_true]
 refine Za (wpAny_rule (Za (wpAny_field hz rfl (x:=.ref TO) rfl ?_)))
 refine Za (wpAny_setField_rec hz (by simp) fun g1 z1 b1=>?_); replace z1:IsZip g1 z TI TO .ellipsis:=z1; refine Za ?_
 simp only [List.zipIdx_cons,List.zipIdx_nil,List.forIn_cons,List.forIn_nil]; refine Za (Za (wpAny_onRaise ?_))
 show wpAny _ _ (Builtin.SmallTypes.nextOf (.ref i1) >>= _) _ _ _; refine Za (wpAny_nextOf_list_item (ji2 t1 b1.extBut D.i1z) (lst_but u1 b1.extBut D.l1z) hx fun g2 n1 b2=>wpAny_pure ?_)
 have o2:IsPair g2 TO a b:=b2.extBut _ _ D.TOi1 (b1.extBut _ _ D.TOz pO)
 refine Za (wpAny_seqItems o2 rfl (Za (upd_pair o2 fun g3 o3 b3=>Za (wpAny_letGo (wpAny_pure ?_)))))
 replace o3:IsPair g3 TO x b:=o3
 refine Za (Za (wpAny_onRaise ?_)); show wpAny _ _ (Builtin.SmallTypes.nextOf (.ref i2) >>= _) _ _ _
 refine Za (wpAny_nextOf_list_item (ji2 (ji2 (ji2 t2 b1.extBut D.i2z) b2.extBut D.i12.symm) b3.extBut D.TOi2.symm) (lst_but (lst_but (lst_but u2 b1.extBut D.l2z) b2.extBut D.l2i1) b3.extBut D.l2TO) hy fun g4 n2 b4=>wpAny_pure ?_)
 have o4:IsPair g4 TO x b:=b4.extBut _ _ D.TOi2 o3
 refine Za (wpAny_seqItems o4 rfl (Za (upd_pair o4 fun g5 o5 b5=>Za (wpAny_letGo (wpAny_pure (wpAny_pure ?_))))))
 replace o5:IsPair g5 TO x y:=o5
 refine Za (wpAny_seqItems o5 rfl (Za (wpAny_newTuple ?_)))
 have sz:g5.objs.size=s.heap.objs.size:=by rw [b5.1,b4.1,b3.1,b2.1,b1.1]
 have z5:IsZip g5 z TI TO .ellipsis:=b5.extBut _ _ D.TOz.symm (b4.extBut _ _ D.i2z.symm (b3.extBut _ _ D.TOz.symm (b2.extBut _ _ D.i1z.symm z1)))
 have k5:∀ c o,c ≠ z→c ≠ TO→c ≠ i1→c ≠ i2→s.heap.get? c=some o→g5.get? c=some o:=fun c o e1 e2 e3 e4 e=>b5.extBut _ _ e2 (b4.extBut _ _ e4 (b3.extBut _ _ e2 (b2.extBut _ _ e3 (b1.extBut _ _ e1 e))))
 have m1:g5.IsListIter i1 l1 (k1 + 1):=ji2 (ji2 (ji2 n1 b3.extBut D.TOi1.symm) b4.extBut D.i12) b5.extBut D.TOi1.symm
 have m2:g5.IsListIter i2 l2 (k2 + 1):=ji2 n2 b5.extBut D.TOi2.symm
 have zlt:z < g5.objs.size:=Heap.lt_size z5
 show wpAny _ _ (Builtin.SmallTypes.ownedTupleHandOut (.ref z) (.ref g5.objs.size) >>= _) _ _ _; refine Za ?_; unfold Builtin.SmallTypes.ownedTupleHandOut
 have z6:IsZip (g5.push { cls:=.type "tuple",data:=.seq #[x,y] }) z TI TO .ellipsis:=Heap.get?_push_of_some _ z5
 refine Za (wpAny_setField_rec z6 (by simp) fun g7 z7 b7=>?_); replace z7:IsZip g7 z TI TO (rawInt g5.objs.size):=z7
 refine wpAny_setField_rec z7 (by simp) fun g8 z8 b8=>?_; replace z8:IsZip g8 z TI TO (rawInt g5.objs.size):=z8
 have up:∀ c o,c ≠ z→g5.get? c=some o→g8.get? c=some o:=fun c o e1 e=>b8.extBut _ _ e1 (b7.extBut _ _ e1 (Heap.get?_push_of_some _ e))
 have p8:IsPair g8 g5.objs.size x y:=b8.extBut _ _ (Nat.ne_of_gt zlt) (b7.extBut _ _ (Nat.ne_of_gt zlt) (Heap.get?_push_size _ rfl))
 rw [sz] at z8 p8
 refine wpAny_pure ⟨_,rfl,?_⟩; show Q (.ref g5.objs.size) _; rw [sz]
 exact q g8 z8 (up _ _ D.TOz o5) (let ⟨o,e,r⟩:=m1; ⟨o,up _ o D.i1z e,r⟩) (let ⟨o,e,r⟩:=m2; ⟨o,up _ o D.i2z e,r⟩) p8 fun c o e1 e2 e3 e4 e=>up c o e1 (k5 c o e1 e2 e3 e4 e)
theorem zipLL_stop {Q:Fin→Shared→Prop} (hh:A.handled=none) (D:ZipApart z TI TO i1 i2 l1 l2) (hz:IsZip s.heap z TI TO .none) (pI:IsPair s.heap TI (.ref i1) (.ref i2)) (pO:IsPair s.heap TO a b)
  (t1:s.heap.IsListIter i1 l1 k1) (t2:s.heap.IsListIter i2 l2 k2) (u1:s.heap.IsList l1 xs) (u2:s.heap.IsList l2 ys) (hx:xs[k1]?=none)
  (q:∀ g e,(∀ c o,c ≠ z→c ≠ TO→c ≠ i1→c ≠ i2→s.heap.get? c=some o→g.get? c=some o)→(∃ o,g.get? e=some o∧o.cls=.type "StopIteration")→E (.ref e) { s with heap:=g }) :
  wpAny (model prog w) A (Builtin.«zip.__next__» ⟨[.ref z],[]⟩) Q E s:=by
 show wpAny _ _ (field (.ref z) 2 >>= _) _ _ _; refine Za (wpAny_field hz rfl (x:=.bool false) rfl ?_)
 show wpAny _ _ (field (.ref z) 3 >>= _) _ _ _; refine Za (wpAny_field hz rfl (x:=.ref TI) rfl (Za (wpAny_seqItems pI rfl ?_)))
 show wpAny _ _ (Builtin.SmallTypes.ownedTupleIsFree (.ref z) >>= _) _ _ _; refine Za ?_; unfold Builtin.SmallTypes.ownedTupleIsFree
 refine Za (wpAny_field hz rfl (x:=.none) rfl (wpAny_pure ?_)); simp only [if_true]
 refine Za (wpAny_rule (Za (wpAny_field hz rfl (x:=.ref TO) rfl ?_)))
 refine Za (wpAny_setField_rec hz (by simp) fun g1 z1 b1=>?_); replace z1:IsZip g1 z TI TO .ellipsis:=z1; refine Za ?_
 simp only [List.zipIdx_cons,List.zipIdx_nil,List.forIn_cons,List.forIn_nil]; refine Za (Za (wpAny_onRaise ?_))
 show wpAny _ _ (Builtin.SmallTypes.nextOf (.ref i1) >>= _) _ _ _
 refine Za (wpAny_nextOf_list_end hh (ji2 t1 b1.extBut D.i1z) (lst_but u1 b1.extBut D.l1z) hx fun g2 e b2 ⟨oe,he,ce⟩=>?_)
 have z2:IsZip g2 z TI TO .ellipsis:=b2 _ _ D.i1z.symm z1
 have ez:e ≠ z:=fun h=>by subst h; rw [z2] at he; cases he; simp at ce
 exact wpAny_setField_rec z2 (by simp) fun g3 _ b3=>q g3 e (fun c o e1 _ e3 _ h=>b3.extBut _ _ e1 (b2 _ _ e3 (b1.extBut _ _ e1 h))) ⟨oe,b3.extBut _ _ ez he,ce⟩
theorem pyNext_zipLL {Q:Option Value→Shared→Prop} (D:ZipApart z TI TO i1 i2 l1 l2) (hz:IsZip s.heap z TI TO .none) (pI:IsPair s.heap TI (.ref i1) (.ref i2)) (pO:IsPair s.heap TO a b)
  (t1:s.heap.IsListIter i1 l1 k1) (t2:s.heap.IsListIter i2 l2 k2) (u1:s.heap.IsList l1 xs) (u2:s.heap.IsList l2 ys) (hx:xs[k1]?=some x) (hy:ys[k2]?=some y)
  (q:∀ g,IsZip g z TI TO (rawInt s.heap.objs.size)→IsPair g TO x y→g.IsListIter i1 l1 (k1 + 1)→g.IsListIter i2 l2 (k2 + 1)→IsPair g s.heap.objs.size x y →
   (∀ c o,c ≠ z→c ≠ TO→c ≠ i1→c ≠ i2→s.heap.get? c=some o→g.get? c=some o)→Q (some (.ref s.heap.objs.size)) { s with heap:=g }):wpAny (model prog w) A (pyNext (.ref z)) Q E s:=by
 have ty:s.TypeIs (.ref z) "zip":=⟨_,hz,rfl⟩
 unfold pyNext
 exact Za (wpAny_attempt (wpAny_callSpecial?_slot (name:=Str.ofString "__next__") ty F.slot_zip_next (wpAny_call_entry F.slot_zip_next ty F.entry_zip_next
  (zipLL_next D hz pI pO t1 t2 u1 u2 hx hy fun g a1 a2 a3 a4 a5 a6=>wpAny_pure (q g a1 a2 a3 a4 a5 a6)) (F.args_zip_next_1 _))))
theorem pyNext_zipLL_end {Q:Option Value→Shared→Prop} (hh:A.handled=none) (D:ZipApart z TI TO i1 i2 l1 l2) (hz:IsZip s.heap z TI TO .none) (pI:IsPair s.heap TI (.ref i1) (.ref i2)) (pO:IsPair s.heap TO a b)
  (t1:s.heap.IsListIter i1 l1 k1) (t2:s.heap.IsListIter i2 l2 k2) (u1:s.heap.IsList l1 xs) (u2:s.heap.IsList l2 ys) (hx:xs[k1]?=none)
  (q:∀ g,(∀ c o,c ≠ z→c ≠ TO→c ≠ i1→c ≠ i2→s.heap.get? c=some o→g.get? c=some o)→Q none { s with heap:=g }):wpAny (model prog w) A (pyNext (.ref z)) Q E s:=by
 have ty:s.TypeIs (.ref z) "zip":=⟨_,hz,rfl⟩
 unfold pyNext
 exact Za (wpAny_attempt (wpAny_callSpecial?_slot (name:=Str.ofString "__next__") ty F.slot_zip_next (wpAny_call_entry F.slot_zip_next ty F.entry_zip_next
  (zipLL_stop hh D hz pI pO t1 t2 u1 u2 hx fun g e hk ⟨o,ho,hc⟩=>Za (wpAny_isInstance (T:="StopIteration") (b:=true) ⟨o,ho,hc⟩ isSubtype_stop (wpAny_pure (q _ hk)))) (F.args_zip_next_1 _))))
end
abbrev zlA (h:Heap) (l1:Addr):Heap:=h.push { cls:=.type "list_iterator",data:=.fields #[.ref l1,.int 0 0] }
abbrev zlB (h:Heap) (l1 l2:Addr):Heap:=(zlA h l1).push { cls:=.type "list_iterator",data:=.fields #[.ref l2,.int 0 0] }
abbrev zlC (h:Heap) (l1 l2:Addr):Heap:=(zlB h l1 l2).push { cls:=.type "tuple",data:=.seq #[.ref h.objs.size,.ref (zlA h l1).objs.size] }
abbrev zlD (h:Heap) (l1 l2:Addr):Heap:=(zlC h l1 l2).push { cls:=.type "tuple",data:=.seq #[.none,.none] }
abbrev zlE (h:Heap) (l1 l2:Addr):Heap:=(zlD h l1 l2).push { cls:=.type "zip",data:=.fields #[.none,.bool false,.bool false,.ref (zlB h l1 l2).objs.size,.ref (zlC h l1 l2).objs.size] }
theorem meets_zipLL (l1 l2:Addr) (xs ys:Array Value):Meets (Builtin.«zip.__new__» ⟨[.type "zip",.ref l1,.ref l2],[]⟩) (fun _ R s=>s.heap.IsList l1 xs∧s.heap.IsList l2 ys∧R (.ok (.ret (.ref (zlD s.heap l1 l2).objs.size))) { s with heap:=zlE s.heap l1 l2 }) :=
 .of_wp fun prog w A R s h=>by
  obtain ⟨hp,g,d,tk,os⟩:=s; obtain ⟨v1,v2,h⟩:=h
  have hsub:=sub_zip
  have w1:Heap.IsList (Shared.heap ⟨hp,g,d,tk,os⟩) l1 xs:=v1
  have w2:Heap.IsList (Shared.heap ⟨zlA hp l1,g,d,tk,os⟩) l2 ys:=let ⟨o,e,r⟩:=v2; ⟨o,Heap.get?_push_of_some _ e,r⟩
  wp_walk using wpAny_pyIter_list w1,wpAny_pyIter_list w2
  exact ⟨_,rfl,h⟩
theorem call_zipLL {prog:Program} {w:World} {A:Around} {E:Value→Shared→Prop} {s:Shared} {l1 l2:Addr} {xs ys:Array Value} {Q:Value→Shared→Prop} (v1:s.heap.IsList l1 xs) (v2:s.heap.IsList l2 ys)
  (q:∀ g,IsZip g (s.heap.objs.size + 4) (s.heap.objs.size + 2) (s.heap.objs.size + 3) .none→IsPair g (s.heap.objs.size + 2) (.ref s.heap.objs.size) (.ref (s.heap.objs.size + 1))→IsPair g (s.heap.objs.size + 3) .none .none →
   g.IsListIter s.heap.objs.size l1 0→g.IsListIter (s.heap.objs.size + 1) l2 0→(∀ c o,s.heap.get? c=some o→g.get? c=some o)→Q (.ref (s.heap.objs.size + 4)) { s with heap:=g }):wpAny (model prog w) A (call (.type "zip") [.ref l1,.ref l2]) Q E s:=by
 refine callType_new F.called_zip (by decide) (F.typeCall_zip_2 _ _) (F.newCall_zip_2 _ _) (fun obj=>F.args_object_init_3 obj _ _) F.entry_zip_new (meets_zipLL l1 l2 xs ys) ⟨v1,v2,?_⟩
 have e1:(zlA s.heap l1).objs.size=s.heap.objs.size + 1:=Heap.size_push ..
 have e2:(zlB s.heap l1 l2).objs.size=s.heap.objs.size + 2:=by rw [Heap.size_push,e1]
 have e3:(zlC s.heap l1 l2).objs.size=s.heap.objs.size + 3:=by rw [Heap.size_push,e2]
 have e4:(zlD s.heap l1 l2).objs.size=s.heap.objs.size + 4:=by rw [Heap.size_push,e3]
 have p5:(zlE s.heap l1 l2).get? (zlD s.heap l1 l2).objs.size=some _:=Heap.get?_push_size _ rfl
 have p4:(zlE s.heap l1 l2).get? (zlC s.heap l1 l2).objs.size=some _:=Heap.get?_push_of_some _ (Heap.get?_push_size _ rfl)
 have p3:(zlE s.heap l1 l2).get? (zlB s.heap l1 l2).objs.size=some _:=Heap.get?_push_of_some _ (Heap.get?_push_of_some _ (Heap.get?_push_size _ rfl))
 have p2:(zlE s.heap l1 l2).get? (zlA s.heap l1).objs.size=some _:=Heap.get?_push_of_some _ (Heap.get?_push_of_some _ (Heap.get?_push_of_some _ (Heap.get?_push_size _ rfl)))
 have p1:(zlE s.heap l1 l2).get? s.heap.objs.size=some _:=Heap.get?_push_of_some _ (Heap.get?_push_of_some _ (Heap.get?_push_of_some _ (Heap.get?_push_of_some _ (Heap.get?_push_size _ rfl))))
 show _∧_; rw [e2,e3,e4] at p5; rw [e1,e2] at p3; rw [e3] at p4; rw [e1] at p2; rw [e4]
 exact ⟨⟨_,p5,rfl⟩,q _ p5 p3 p4 ⟨_,p1,rfl,rfl⟩ ⟨_,p2,rfl,rfl⟩ fun c o h=>Heap.get?_push_of_some _ (Heap.get?_push_of_some _ (Heap.get?_push_of_some _ (Heap.get?_push_of_some _ (Heap.get?_push_of_some _ h))))⟩
end PySem
namespace L2
open PySem PySem.Spec PyProof.Rows
section
variable {X:Cx}
def ItzL (K:PySem.W.Frag) (a b:Addr):It :=
 ⟨fun i H=>∃ xs ys x y,SqL K H a xs∧SqL K H b ys∧xs[i]?=some x∧ys[i]?=some y,
  fun i H v H'=>∃ p,H p=none∧v=.ref p∧∀ xs ys,SqL K H a xs→SqL K H b ys→∃ x y,xs[i]?=some x∧ys[i]?=some y∧H'=upd H p (.tup [x,y]),
  fun i H=>∃ xs ys,SqL K H a xs∧SqL K H b ys∧xs.length ≤ i⟩
theorem turn_zipL {P:Program} {w:World} {K:PySem.W.Frag} {elts:List Expr} {kk} {pos:Pos} (a b z TI TO i1 i2:Addr) (D:ZipApart z TI TO i1 i2 a b) :
  Turn P w K (.Tuple elts kk pos) (ItzL K a b) [z,TI,TO,i1,i2] z (fun i h=>IsZip h z TI TO .none∧IsPair h TI (.ref i1) (.ref i2)∧(∃ u v,IsPair h TO u v)∧h.IsListIter i1 a i∧h.IsListIter i2 b i) where
 mem:=by simp
 obj:=fun i h st c hc=>by
  obtain ⟨hz,pI,⟨u,v,pO⟩,⟨o1,e1,c1,d1⟩,o2,e2,c2,d2⟩:=st
  simp only [Zf,List.not_mem_nil,or_false] at hc
  rcases hc with rfl | rfl | rfl | rfl | rfl
  ·exact ⟨_,hz,fun v z=>by cases z⟩
  ·exact ⟨_,pI,fun v z=>by cases z⟩
  ·exact ⟨_,pO,fun v z=>by cases z⟩
  ·exact ⟨o1,e1,fun v z=>by rw [d1] at z; cases z⟩
  ·exact ⟨o2,e2,fun v z=>by rw [d2] at z; cases z⟩
 keep:=fun i h h' st k=>by
  obtain ⟨hz,pI,⟨u,v,pO⟩,⟨o1,e1,r1⟩,o2,e2,r2⟩:=st
  exact ⟨k z (by simp) _ hz,k TI (by simp) _ pI,⟨u,v,k TO (by simp) _ pO⟩,⟨o1,k i1 (by simp) _ e1,r1⟩,o2,k i2 (by simp) _ e2,r2⟩
 item:=by
  intro X hP hw hK hc i pins s σ H E I hf st hg
  subst hP hw hK
  obtain ⟨xs,ys,x,y,hq1,hq2,hx,hy⟩:=hg
  obtain ⟨us,ru,pu,zu⟩:=I.list hq1
  obtain ⟨vs,rv,pv,zv⟩:=I.list hq2
  obtain ⟨u,hu,rxu⟩:=ru.get hx
  obtain ⟨v,hv,ryv⟩:=rv.get hy
  obtain ⟨hz,pI,⟨u0,v0,pO⟩,t1,t2⟩:=st
  refine pyNext_zipLL D hz pI pO t1 t2 (show s.heap.IsList a us.toArray from pu.isList) (show s.heap.IsList b vs.toArray from pv.isList) (x:=u) (y:=v) (by simpa using hu) (by simpa using hv) fun g z1 o1 n1 n2 p1 hk=>?_
  refine ⟨_,rfl,?_⟩
  refine wpAny_letOwnedTupleGo_zip z1 fun g2 z2 b2=>?_
  replace b2:Heap.SameBut z g g2:=b2
  have lt:∀ {c o},s.heap.get? c=some o→s.heap.objs.size ≠ c:=fun e=>Nat.ne_of_gt (Heap.lt_size e)
  have hne:s.heap.objs.size ≠ z:=lt hz
  have I1:Inv X pins σ H { s with heap:=g2,toks:=s.toks }:=I.turnedL (ch:=[z,TI,TO,i1,i2]) (fun c o hc q=>by
   have c1:c ≠ z:=fun h=>hc (by simp [h])
   exact b2.extBut c o c1 (hk c o c1 (fun h=>hc (by simp [h])) (fun h=>hc (by simp [h])) (fun h=>hc (by simp [h])) q)) hf
  have p2:=b2.extBut _ _ hne p1
  have fp:FpOk X pins H s.heap.objs.size:=I.fpOk (Zd _) I.fresh
  have I2:=I1.track (p:=s.heap.objs.size) (o:=.tup [x,y]) fp ⟨by show 2 ≤ sizeLine; decide,[u,v],.cons rxu (.cons ryv .nil),⟨_,p2,rfl,_,rfl⟩⟩
  refine ⟨.ref s.heap.objs.size,_,I2,rfl,⟨_,I.fresh,rfl,fun ys1 ys2 h1 h2=>?_⟩,⟨z2,b2.extBut _ _ D.TIz (hk _ _ D.TIz D.TITO D.TIi1 D.TIi2 pI),⟨_,_,b2.extBut _ _ D.TOz o1⟩,ji2 n1 b2.extBut D.i1z,ji2 n2 b2.extBut D.i2z⟩,fun c hc=>?_⟩
  ·rw [I.list_inj h1 hq1,I.list_inj h2 hq2]; exact ⟨x,y,hx,hy,rfl⟩
  ·rw [jc0]
   ·exact (hf c hc).1
   ·simp only [Zf,List.not_mem_nil,or_false] at hc
    rcases hc with rfl | rfl | rfl | rfl | rfl
    ·exact hne.symm
    ·exact (lt pI).symm
    ·exact (lt pO).symm
    ·obtain ⟨_,e,_⟩:=t1; exact (lt e).symm
    ·obtain ⟨_,e,_⟩:=t2; exact (lt e).symm
 done:=by
  intro X hP hw hK hc i pins s σ H E I hf st hg
  subst hP hw hK
  obtain ⟨xs,ys,hq1,hq2,hx⟩:=hg
  obtain ⟨us,ru,pu,zu⟩:=I.list hq1
  obtain ⟨vs,rv,pv,zv⟩:=I.list hq2
  obtain ⟨hz,pI,⟨u0,v0,pO⟩,t1,t2⟩:=st
  have hl:=ru.length
  exact pyNext_zipLL_end (I.ok.hd hc) D hz pI pO t1 t2 (show s.heap.IsList a us.toArray from pu.isList) (show s.heap.IsList b vs.toArray from pv.isList) (by simp; omega) fun g hk =>
   ⟨rfl,I.turnedL (t':=s.toks) (ch:=[z,TI,TO,i1,i2]) (fun c o hc q=>hk c o (fun h=>hc (by simp [h])) (fun h=>hc (by simp [h])) (fun h=>hc (by simp [h])) (fun h=>hc (by simp [h])) q) hf⟩
 self:=fun A i s Q E st h=>wpAny_pyIter_zip st.1 h
def iZipL (K:PySem.W.Frag) (ta:TA):TI:=fun σ H R=>ta σ H fun vs H1=>∃ a b,vs=[.ref a,.ref b]∧(∃ xs,SqL K H1 a xs)∧(∃ ys,SqL K H1 b ys)∧R (ItzL K a b) H1
theorem le_zipL {K:PySem.W.Frag} {a b:Addr}:(ItzL K a b).Le (ItzL K0 a b):=⟨fun i H ⟨xs,ys,x,y,h1,h2,e⟩=>⟨xs,ys,x,y,h1.k0,h2.k0,e⟩,fun i H x H' ⟨p,e1,e2,h⟩=>⟨p,e1,e2,fun xs ys h1 h2=>h xs ys h1.k0 h2.k0⟩,fun i H ⟨xs,ys,h1,h2,e⟩=>⟨xs,ys,h1.k0,h2.k0,e⟩⟩
theorem pi_zipL0 {a b:Expr} {ta:TA} {p pos:Pos} {elts:List Expr} {kk} {tpos:Pos} (hg:Gl X "zip") (hm:X.mg "zip"=none) (hb:bootBuiltins "zip"=some (.type "zip")) (ha:PA X [a,b] ta)
  (hs:starEach [a,b] X.env=[(false,eval a X.env),(false,eval b X.env)]:=by rfl) (hs2:starEach [b] X.env=[(false,eval b X.env)]:=by rfl) :
  PI X (.Tuple elts kk tpos) (.Call (.Name "zip" p) [a,b] [] pos) (iZipL K0 ta):=by
 intro pins s σ H R I h
 refine Call_ (ld_blt I hg hm hb (PyProof.Rows.callWith_type1 (thn (ha pos pins s σ H _ I h) fun us s1 ⟨vs,H1,I1,r1,q1⟩=>?_) (by rw [hs,hs2]) (by rw [hs2]; rfl)))
 obtain ⟨x,y,e,⟨xs,hq1⟩,⟨ys,hq2⟩,q⟩:=q1
 subst e
 cases r1 with
 | cons r rr =>
  cases rr with
  | cons r' rr =>
   cases rr
   cases r
   cases r'
   obtain ⟨us,ru,pu,zu⟩:=I1.list hq1.k0
   obtain ⟨vs,rv,pv,zv⟩:=I1.list hq2.k0
   have a1:x < s1.heap.objs.size:=by obtain ⟨_,e,_⟩:=(show s1.heap.IsList x us.toArray from pu.isList); exact Heap.lt_size e
   have a2:y < s1.heap.objs.size:=by obtain ⟨_,e,_⟩:=(show s1.heap.IsList y vs.toArray from pv.isList); exact Heap.lt_size e
   refine call_zipLL (show s1.heap.IsList x us.toArray from pu.isList) (show s1.heap.IsList y vs.toArray from pv.isList) fun g z0 pI pO n1 n2 hk=>?_
   refine wpAny_pyIter_zip z0 ?_
   refine ⟨s1.heap.objs.size + 4,[s1.heap.objs.size + 4,s1.heap.objs.size + 2,s1.heap.objs.size + 3,s1.heap.objs.size,s1.heap.objs.size + 1],_,ItzL K0 x y,H1,rfl,I1.kept (t':=s1.toks) hk,(turn_zipL (K:=X.K) x y _ _ _ _ _ (zipApart_new a1 a2)).le le_zipL,⟨z0,pI,⟨_,_,pO⟩,n1,n2⟩,fun c hc=>?_,q⟩
   have hge:s1.heap.objs.size ≤ c:=by
    simp only [Zf,List.not_mem_nil,or_false] at hc
    rcases hc with h | h | h | h | h <;> rw [h] <;> first | exact Nat.le_add_right _ _ | exact Zd _
   exact I1.fpOk hge (I1.hok.fresh hge)
end
end L2
namespace KM
open PySem L2 KG EX
theorem Known.prs {n g:Nat} {ts A:List Int} {P qs:List Rat} {W:List (List Int)} {D:List (List Rat)} (k:Known n g ts A P qs W D):Prs W qs:=by
 refine ⟨fun j hj _=>k.q0 j (by rw [← k.ql]; exact hj),fun j hj hh=>?_⟩
 have hj:j < g:=by rw [← k.ql]; exact hj
 obtain ⟨i,hi,hw⟩:=k.all j hj
 have:has W j=true:=by
  unfold has
  rw [List.any_eq_true]
  refine ⟨W.getD i [],by rw [jc2 (Zc (show i < W.length by rw [k.wl]; exact hi))]; exact Zn _,?_⟩
  rw [hw]; exact decide_eq_true (k.top hj)
 rw [this] at hh; cases hh
theorem Known.prs' {n g:Nat} {ts A:List Int} {P qs qs':List Rat} {W:List (List Int)} {D:List (List Rat)} (k:Known n g ts A P qs W D) (hl:qs'.length=g) (h0:∀ j,j < g→0 < qs'.getD j 0):Prs W qs':=by
 refine ⟨fun j hj _=>h0 j (by rw [← hl]; exact hj),fun j hj hh=>?_⟩
 have hj:j < g:=by rw [← hl]; exact hj
 obtain ⟨i,hi,hw⟩:=k.all j hj
 have:has W j=true:=by
  unfold has
  rw [List.any_eq_true]
  refine ⟨W.getD i [],by rw [jc2 (Zc (show i < W.length by rw [k.wl]; exact hi))]; exact Zn _,?_⟩
  rw [hw]; exact decide_eq_true (k.top hj)
 rw [this] at hh; cases hh
end KM
namespace MI
open PySem L2 KG EX KM
mutual
inductive TrG (H:Hp):V→PyData→Prop
 | non:TrG H .non .none
 | bl (c:Bool):TrG H (.bl c) (.bool c)
 | int (i:Int):TrG H (.int i) (.int i)
 | str (x:Str) (ok:(PyData.str x).canLay0=true):TrG H (.str x) (.str x)
 | lst {a:Addr} {xs:List V} {ds:List PyData}:H a=some (.lst xs)→TrGs H xs ds→TrG H (.ref a) (.list ds)
 | tup {a:Addr} {xs:List V} {ds:List PyData}:H a=some (.tup xs)→TrGs H xs ds→TrG H (.ref a) (.tuple ds)
inductive TrGs (H:Hp):List V→List PyData→Prop
 | nil:TrGs H [] []
 | cons {x:V} {xs:List V} {d:PyData} {ds:List PyData}:TrG H x d→TrGs H xs ds→TrGs H (x :: xs) (d :: ds)
end
mutual
theorem TrG.stay {H H':Hp} (k:Stay H H'):∀ {v:V} {d:PyData},TrG H v d→TrG H' v d
 | _,_,.non=>.non
 | _,_,.bl c=>.bl c
 | _,_,.int i=>.int i
 | _,_,.str x o=>.str x o
 | _,_,.lst h t=>.lst (k _ _ h) (TrGs.stay k t)
 | _,_,.tup h t=>.tup (k _ _ h) (TrGs.stay k t)
theorem TrGs.stay {H H':Hp} (k:Stay H H'):∀ {vs:List V} {ds:List PyData},TrGs H vs ds→TrGs H' vs ds
 | _,_,.nil=>.nil
 | _,_,.cons h t=>.cons (TrG.stay k h) (TrGs.stay k t)
end
mutual
theorem TrG.dt {K:PySem.W.Frag} {H:Hp}:∀ {v:V} {d:PyData},TrG H v d→DtV K H v d
 | _,_,.non=>.non
 | _,_,.bl c=>.bl c
 | _,_,.int i=>.int i
 | _,_,.str x o=>.str x o
 | _,_,.lst h t=>.lst (SqL.of h) (TrGs.dt t)
 | _,_,.tup h t=>.tup (SqT.of h) (TrGs.dt t)
theorem TrGs.dt {K:PySem.W.Frag} {H:Hp}:∀ {vs:List V} {ds:List PyData},TrGs H vs ds→DtVs K H vs ds
 | _,_,.nil=>.nil
 | _,_,.cons h t=>.cons (TrG.dt h) (TrGs.dt t)
end
theorem TrGs.len {H:Hp}:∀ {vs:List V} {ds:List PyData},TrGs H vs ds→vs.length=ds.length
 | _,_,.nil=>rfl
 | _,_,.cons _ t=>by simp [TrGs.len t]
theorem TrGs.app {H:Hp}:∀ {vs ws:List V} {ds es:List PyData},TrGs H vs ds→TrGs H ws es→TrGs H (vs ++ ws) (ds ++ es)
 | _,_,_,_,.nil,g=>g
 | _,_,_,_,.cons h t,g=>.cons h (TrGs.app t g)
theorem TrGs.take {H:Hp}:∀ {vs:List V} {ds:List PyData} (n:Nat),TrGs H vs ds→TrGs H (vs.take n) (ds.take n)
 | _,_,0,_=>by simpa using TrGs.nil
 | _,_,n + 1,.nil=>by simpa using TrGs.nil
 | _,_,n + 1,.cons h t=>.cons h (TrGs.take n t)
theorem TrGs.drop {H:Hp}:∀ {vs:List V} {ds:List PyData} (n:Nat),TrGs H vs ds→TrGs H (vs.drop n) (ds.drop n)
 | _,_,0,h=>h
 | _,_,n + 1,.nil=>by simpa using TrGs.nil
 | _,_,n + 1,.cons h t=>TrGs.drop n t
theorem TrGs.get {H:Hp}:∀ {vs:List V} {ds:List PyData} {i:Nat} {d:PyData},TrGs H vs ds→ds[i]?=some d→∃ x,vs[i]?=some x∧TrG H x d
 | _,_,0,_,.cons h t,e=>⟨_,rfl,by rw [← Option.some.inj e]; exact h⟩
 | _,_,i + 1,x,.cons h t,e=>by
  obtain ⟨d,h1,h2⟩:=TrGs.get (i:=i) (d:=x) t (by simpa using e)
  exact ⟨d,by simpa using h1,h2⟩
mutual
def noL:PyData→Bool
 | .list _=>false
 | .dict _=>false
 | .tuple ds=>noLs ds
 | _=>true
def noLs:List PyData→Bool
 | []=>true
 | d :: ds=>noL d && noLs ds
end
mutual
theorem TrG.trv {b:Addr} {H:Hp}:∀ {v:V} {d:PyData},noL d=true→TrG H v d→TrV b H v d
 | _,_,_,.non=>.non
 | _,_,_,.bl c=>.bl c
 | _,_,_,.int i=>.int i
 | _,_,_,.str x o=>.str x o
 | _,_,n,.lst h t=>by cases n
 | _,_,n,.tup h t=>.tup h (TrGs.trv n t)
theorem TrGs.trv {b:Addr} {H:Hp}:∀ {vs:List V} {ds:List PyData},noLs ds=true→TrGs H vs ds→TrVs b H vs ds
 | _,_,_,.nil=>.nil
 | _,_,n,.cons h t=>by
  have n':=(Zm _ _).mp n
  exact .cons (TrG.trv n'.1 h) (TrGs.trv n'.2 t)
end
inductive AV where
 | im (d:PyData) | own (k:Nat) | bag (j:Nat) | scr (ns:List Int)
abbrev Sto:=List (Option (List AV))
abbrev Slt:=List (Option AV)
structure Wd where
 bags:List Addr
 ads:List Addr
 hid:List (Addr × HO)
def Hid (w:Wd) (O:Sto) (a:Addr):Prop:=a ∈ w.bags ∨ (∃ o,(a,o) ∈ w.hid) ∨ ∃ (k:Nat) (c:List AV),w.ads[k]?=some a∧O[k]?=some (some c)
open Classical in
noncomputable def G (w:Wd) (O:Sto) (H:Hp):Hp:=fun a=>if Hid w O a then none else H a
theorem G_of {w:Wd} {O:Sto} {H:Hp} {a:Addr} (h:¬ Hid w O a):G w O H a=H a:=if_neg h
theorem G_in {w:Wd} {O:Sto} {H:Hp} {a:Addr} {o:HO} (h:G w O H a=some o):H a=some o∧¬ Hid w O a:=by
 unfold G at h
 split at h
 ·cases h
 ·exact ⟨h,by assumption⟩
def AVr (K:PySem.W.Frag) (w:Wd) (g:Hp) (v:V):AV→Prop
 | .im d=>TrG g v d
 | .own k=>∃ a,w.ads[k]?=some a∧v=.ref a
 | .bag j=>∃ a,w.bags[j]?=some a∧v=.ref a
 | .scr ns=>∃ a,v=.ref a∧SqL K g a (ns.map V.int)
def AVrs (K:PySem.W.Frag) (w:Wd) (g:Hp) (vs:List V) (xs:List AV):Prop:=vs.length=xs.length∧∀ (i:Nat) v x,vs[i]?=some v→xs[i]?=some x→AVr K w g v x
structure RelO (K:PySem.W.Frag) (w:Wd) (O:Sto) (H:Hp):Prop where
 len:w.ads.length=O.length
 nd:w.ads.Nodup
 al:∀ a ∈ w.ads,∃ o,H a=some o
 nb:∀ a ∈ w.bags,a ∉ w.ads
 hn:(w.hid.map (·.1)).Nodup
 nh:∀ p ∈ w.hid,p.1 ∉ w.ads∧p.1 ∉ w.bags∧H p.1=some p.2∧∀ xs,p.2 ≠ .tup xs
 bg:∀ a ∈ w.bags,Bag H a
 cel:∀ (k:Nat) c,O[k]?=some (some c)→∃ a vs,w.ads[k]?=some a∧H a=some (.lst vs)∧AVrs K w (G w O H) vs c
structure Ex0 (w:Wd) (O:Sto) (H:Hp) (w':Wd) (O':Sto) (H':Hp):Prop where
 bs:∃ t,w'.bags=w.bags ++ t
 ads:∃ t,w'.ads=w.ads ++ t
 hs:∃ t,w'.hid=t ++ w.hid
 stay:Stay (G w O H) (G w' O' H')
structure Ext (w:Wd) (O:Sto) (H:Hp) (w':Wd) (O':Sto) (H':Hp):Prop where
 ex:Ex0 w O H w' O' H'
 hid:w'.hid=w.hid
theorem Ex0.refl (w:Wd) (O:Sto) (H:Hp):Ex0 w O H w O H:=⟨⟨[],by simp⟩,⟨[],by simp⟩,⟨[],by simp⟩,Stay.refl _⟩
theorem Ex0.trans {w w1 w2:Wd} {O O1 O2:Sto} {H H1 H2:Hp} (a:Ex0 w O H w1 O1 H1) (b:Ex0 w1 O1 H1 w2 O2 H2):Ex0 w O H w2 O2 H2:=by
 obtain ⟨t,ht⟩:=a.ads
 obtain ⟨u,hu⟩:=b.ads
 obtain ⟨t',ht'⟩:=a.hs
 obtain ⟨u',hu'⟩:=b.hs
 obtain ⟨t2,ht2⟩:=a.bs
 obtain ⟨u2,hu2⟩:=b.bs
 exact ⟨⟨t2 ++ u2,by rw [hu2,ht2,List.append_assoc]⟩,⟨t ++ u,by rw [hu,ht,List.append_assoc]⟩,⟨u' ++ t',by rw [hu',ht',List.append_assoc]⟩,a.stay.trans b.stay⟩
theorem Ext.refl (w:Wd) (O:Sto) (H:Hp):Ext w O H w O H:=⟨Ex0.refl _ _ _,rfl⟩
theorem Ext.trans {w w1 w2:Wd} {O O1 O2:Sto} {H H1 H2:Hp} (a:Ext w O H w1 O1 H1) (b:Ext w1 O1 H1 w2 O2 H2):Ext w O H w2 O2 H2:=⟨a.ex.trans b.ex,b.hid.trans a.hid⟩
theorem Ex0.at {w w1:Wd} {O O1:Sto} {H H1:Hp} (e:Ex0 w O H w1 O1 H1) {k:Nat} {a:Addr} (h:w.ads[k]?=some a):w1.ads[k]?=some a:=by
 obtain ⟨t,ht⟩:=e.ads
 rw [ht,Zr (Ze.mp h).1]; exact h
theorem AVr.ex {K:PySem.W.Frag} {w w1:Wd} {O O1:Sto} {H H1:Hp} (e:Ex0 w O H w1 O1 H1) {v:V}:∀ {x:AV},AVr K w (G w O H) v x→AVr K w1 (G w1 O1 H1) v x
 | .im d,h=>by
  exact TrG.stay e.stay h
 | .own k,h=>by
  obtain ⟨a,h1,h2⟩:=h
  exact ⟨a,e.at h1,h2⟩
 | .bag j,h=>by
  obtain ⟨a,h1,h2⟩:=h
  obtain ⟨t,ht⟩:=e.bs
  exact ⟨a,by rw [ht,Zr (Ze.mp h1).1]; exact h1,h2⟩
 | .scr ns,h=>by
  obtain ⟨a,h1,h2⟩:=h
  exact ⟨a,h1,KG.SqL.stay h2 e.stay⟩
theorem AVrs.ex {K:PySem.W.Frag} {w w1:Wd} {O O1:Sto} {H H1:Hp} (e:Ex0 w O H w1 O1 H1) {vs:List V} {xs:List AV} (h:AVrs K w (G w O H) vs xs):AVrs K w1 (G w1 O1 H1) vs xs:=⟨h.1,fun i v x h1 h2=>(h.2 i v x h1 h2).ex e⟩
theorem AVrs.nil {K:PySem.W.Frag} {w:Wd} {g:Hp}:AVrs K w g [] []:=⟨rfl,fun i v x h=>by simp at h⟩
theorem AVrs.cons {K:PySem.W.Frag} {w:Wd} {g:Hp} {v:V} {x:AV} {vs:List V} {xs:List AV} (h:AVr K w g v x) (hs:AVrs K w g vs xs):AVrs K w g (v :: vs) (x :: xs):=by
 refine ⟨by simp [hs.1],fun i u y h1 h2=>?_⟩
 cases i with
 | zero=>simp at h1 h2; rw [← h1,← h2]; exact h
 | succ i=>exact hs.2 i u y (by simpa using h1) (by simpa using h2)
theorem AVrs.uncons {K:PySem.W.Frag} {w:Wd} {g:Hp} {vs:List V} {x:AV} {xs:List AV} (h:AVrs K w g vs (x :: xs)):∃ v us,vs=v :: us∧AVr K w g v x∧AVrs K w g us xs:=by
 cases vs with
 | nil=>exact absurd h.1 (by simp)
 | cons v us =>
  refine ⟨v,us,rfl,h.2 0 v x rfl rfl,by have:=h.1; simp at this; exact this,fun i u y h1 h2=>h.2 (i + 1) u y (by simpa using h1) (by simpa using h2)⟩
theorem AVrs.unnil {K:PySem.W.Frag} {w:Wd} {g:Hp} {vs:List V} (h:AVrs K w g vs []):vs=[]:=List.length_eq_zero_iff.mp h.1
theorem AVrs.app {K:PySem.W.Frag} {w:Wd} {g:Hp} {vs us:List V} {xs ys:List AV} (h:AVrs K w g vs xs) (h':AVrs K w g us ys):AVrs K w g (vs ++ us) (xs ++ ys):=by
 refine ⟨by simp [h.1,h'.1],fun i v x h1 h2=>?_⟩
 rcases Nat.lt_or_ge i vs.length with y | y
 ·rw [Zr y] at h1
  rw [Zr (by rw [← h.1]; exact y)] at h2
  exact h.2 i v x h1 h2
 ·rw [Yi y] at h1
  rw [Yi (by rw [← h.1]; exact y)] at h2
  rw [← h.1] at h2
  exact h'.2 _ v x h1 h2
theorem AVrs.set {K:PySem.W.Frag} {w:Wd} {g:Hp} {vs:List V} {xs:List AV} {v:V} {x:AV} (h:AVrs K w g vs xs) (hx:AVr K w g v x) (j:Nat):AVrs K w g (vs.set j v) (xs.set j x):=by
 refine ⟨by simp [h.1],fun i u y h1 h2=>?_⟩
 by_cases e:j=i
 ·subst e
  have hl:=(Ze.mp h1).1
  rw [List.length_set] at hl
  rw [Yh hl] at h1
  rw [Yh (by rw [← h.1]; exact hl)] at h2
  rw [← Option.some.inj h1,← Option.some.inj h2]; exact hx
 ·rw [Yg e] at h1 h2
  exact h.2 i u y h1 h2
theorem AVrs.at {K:PySem.W.Frag} {w:Wd} {g:Hp} {vs:List V} {xs:List AV} {i:Nat} {x:AV} (h:AVrs K w g vs xs) (hx:xs[i]?=some x):∃ v,vs[i]?=some v∧AVr K w g v x:=by
 have hl:=(Ze.mp hx).1
 have hv:i < vs.length:=by rw [h.1]; exact hl
 exact ⟨vs[i],Zc hv,h.2 i _ x (Zc hv) hx⟩
theorem TrGs.avs {K:PySem.W.Frag} {w:Wd} {g:Hp}:∀ {vs:List V} {ds:List PyData},TrGs g vs ds→AVrs K w g vs (ds.map .im)
 | _,_,.nil=>AVrs.nil
 | _,_,.cons h t=>AVrs.cons h (TrGs.avs t)
theorem AVrs.tr {K:PySem.W.Frag} {w:Wd} {g:Hp}:∀ {ds:List PyData} {vs:List V},AVrs K w g vs (ds.map .im)→TrGs g vs ds
 | [],_,h=>by rw [AVrs.unnil h]; exact .nil
 | d :: ds,_,h=>by
  obtain ⟨v,us,rfl,h1,h2⟩:=AVrs.uncons h
  exact .cons h1 (AVrs.tr h2)
def Slots (K:PySem.W.Frag) (w:Wd) (g:Hp) (σ:St) (sl:Slt):Prop:=σ.length=sl.length∧∀ (i:Nat) x,sl[i]?=some (some x)→∃ v,σ[i]?=some (some v)∧AVr K w g v x
theorem Slots.ex {K:PySem.W.Frag} {w w1:Wd} {O O1:Sto} {H H1:Hp} (e:Ex0 w O H w1 O1 H1) {σ:St} {sl:Slt} (h:Slots K w (G w O H) σ sl):Slots K w1 (G w1 O1 H1) σ sl :=
 ⟨h.1,fun i x hx=>by obtain ⟨v,h1,h2⟩:=h.2 i x hx; exact ⟨v,h1,h2.ex e⟩⟩
theorem Slots.set {K:PySem.W.Frag} {w:Wd} {g:Hp} {σ:St} {sl:Slt} (h:Slots K w g σ sl) {v:V} {x:AV} (hx:AVr K w g v x) (j:Nat):Slots K w g (σ.set j (some v)) (sl.set j (some x)):=by
 refine ⟨by simp [h.1],fun i y h2=>?_⟩
 by_cases e:j=i
 ·subst e
  have hl:=(Ze.mp h2).1
  rw [List.length_set] at hl
  rw [Yh hl] at h2
  have hy:x=y:=by injection (Option.some.inj h2)
  exact ⟨v,by rw [Yh (by rw [h.1]; exact hl)],hy ▸ hx⟩
 ·rw [Yg e] at h2
  rw [Yg e]
  exact h.2 i y h2
def blkS (own:Nat) (ix:List Nat) (sl:Slt):Slt:=List.replicate own none ++ ix.map fun i=>(sl[i]?).getD none
theorem Slots.blk {K:PySem.W.Frag} {w:Wd} {g:Hp} {σ:St} {sl:Slt} (h:Slots K w g σ sl) (own:Nat) (ix:List Nat):Slots K w g (blkσ own ix σ) (blkS own ix sl):=by
 refine ⟨by simp [blkσ,blkS],fun i x hx=>?_⟩
 unfold blkS at hx
 unfold blkσ
 rcases Nat.lt_or_ge i own with y | y
 ·rw [Zr (by simpa using y)] at hx
  rw [List.getElem?_replicate,if_pos y] at hx
  cases Option.some.inj hx
 ·rw [Yi (by simpa using y)] at hx ⊢
  rw [List.length_replicate,Zg] at hx ⊢
  cases hj:ix[i - own]? with
  | none=>rw [hj] at hx; cases hx
  | some j =>
   rw [hj] at hx
   have hx':(sl[j]?).getD none=some x:=Option.some.inj hx
   have:sl[j]?=some (some x):=by
    cases hs:sl[j]? with
    | none=>rw [hs] at hx'; cases hx'
    | some o=>rw [hs] at hx'; exact congrArg some hx'
   obtain ⟨v,h1,h2⟩:=h.2 j x this
   refine ⟨v,?_,h2⟩
   show some ((σ[j]?).getD none)=_
   rw [h1]; rfl
def Zx (K:PySem.W.Frag) (QX:Addr→Sto→Prop) (E:XK) (w:Wd) (O:Sto) (H:Hp):Prop:=∀ c O' w' H',QX c O'→Ex0 w O H w' O' H'→RelO K w' O' H'→E (.ref c) none H'
structure Cfg (K:PySem.W.Frag) (QX:Addr→Sto→Prop) (E:XK) (w:Wd) (O:Sto) (H:Hp) (σ:St) (sl:Slt):Prop where
 ro:RelO K w O H
 so:Slots K w (G w O H) σ sl
 zx:Zx K QX E w O H
theorem Cfg.ex {K:PySem.W.Frag} {QX:Addr→Sto→Prop} {E:XK} {w w1:Wd} {O O1:Sto} {H H1:Hp} {σ:St} {sl:Slt} (c:Cfg K QX E w O H σ sl) (e:Ex0 w O H w1 O1 H1) (r:RelO K w1 O1 H1):Cfg K QX E w1 O1 H1 σ sl :=
 ⟨r,c.so.ex e,fun k O' w' H' q e' r'=>c.zx k O' w' H' q (e.trans e') r'⟩
abbrev ME:=Slt→Sto→(AV→Sto→Prop)→Prop
abbrev MT:=Slt→Sto→(Bool→Sto→Prop)→Prop
abbrev MA:=Slt→Sto→(List AV→Sto→Prop)→Prop
structure MEnds where
 nx:Slt→Sto→Prop
 rt:AV→Sto→Prop
 bk:Slt→Sto→Prop:=fun _ _=>False
 ct:Slt→Sto→Prop:=fun _ _=>False
abbrev MS:=MEnds→Slt→Sto→Prop
section
variable (K:PySem.W.Frag) (QX:Addr→Sto→Prop) (E:XK)
def teM (M:ME):TE:=fun σ H Q=>∃ w O sl Q0,Cfg K QX E w O H σ sl∧M sl O Q0∧∀ x O' v w' H',Q0 x O'→Ext w O H w' O' H'→RelO K w' O' H'→AVr K w' (G w' O' H') v x→Q v H'
def ttM (M:MT):TT:=fun σ H Q=>∃ w O sl Q0,Cfg K QX E w O H σ sl∧M sl O Q0∧∀ c O' w' H',Q0 c O'→Ext w O H w' O' H'→RelO K w' O' H'→Q c H'
def taM (M:MA):TA:=fun σ H Q=>∃ w O sl Q0,Cfg K QX E w O H σ sl∧M sl O Q0∧∀ xs O' vs w' H',Q0 xs O'→Ext w O H w' O' H'→RelO K w' O' H'→AVrs K w' (G w' O' H') vs xs→Q vs H'
def tsM (M:MS):TS:=fun D σ H=>∃ w O sl D0,Cfg K QX E w O H σ sl∧M D0 sl O ∧
 (∀ sl' O' w' H' σ',D0.nx sl' O'→Cfg K QX E w' O' H' σ' sl'→Ext w O H w' O' H'→D.nx σ' H') ∧
 (∀ sl' O' w' H' σ',D0.bk sl' O'→Cfg K QX E w' O' H' σ' sl'→Ext w O H w' O' H'→D.bk σ' H') ∧
 (∀ sl' O' w' H' σ',D0.ct sl' O'→Cfg K QX E w' O' H' σ' sl'→Ext w O H w' O' H'→D.ct σ' H') ∧
 (∀ x O' w' H' v,D0.rt x O'→Ext w O H w' O' H'→RelO K w' O' H'→AVr K w' (G w' O' H') v x→D.rt v H')
end
section
variable {K:PySem.W.Frag} {w:Wd} {O:Sto} {H H':Hp}
theorem RelO.all (r:RelO K w O H) {a:Addr} (h:Hid w O a):∃ o,H a=some o:=by
 rcases h with h1 | ⟨o,h1⟩ | ⟨k,c,h1,h2⟩
 ·obtain ⟨c,d,e⟩:=r.bg _ h1; exact ⟨_,e⟩
 ·exact ⟨_,(r.nh _ h1).2.2.1⟩
 ·obtain ⟨a',vs,e1,e2,_⟩:=r.cel k c h2
  rw [h1] at e1
  cases Option.some.inj e1
  exact ⟨_,e2⟩
theorem RelO.fresh (r:RelO K w O H) {a:Addr} (h:H a=none):¬ Hid w O a:=fun z=>by obtain ⟨o,e⟩:=r.all z; rw [h] at e; cases e
theorem RelO.stay (r:RelO K w O H) (s:Stay H H'):RelO K w O H'∧Ext w O H w O H'∧∀ a o,H a=none→H' a=some o→G w O H' a=some o:=by
 have sg:Stay (G w O H) (G w O H'):=fun a o h=>by
  obtain ⟨h1,h2⟩:=G_in h
  rw [G_of h2]; exact s _ _ h1
 have e:Ext w O H w O H':=⟨⟨⟨[],by simp⟩,⟨[],by simp⟩,⟨[],by simp⟩,sg⟩,rfl⟩
 refine ⟨⟨r.len,r.nd,fun a ha=>(let ⟨o,h⟩:=r.al a ha; ⟨o,s _ _ h⟩),r.nb,r.hn,fun p hp=>⟨(r.nh p hp).1,(r.nh p hp).2.1,s _ _ (r.nh p hp).2.2.1,(r.nh p hp).2.2.2⟩,fun a ha=>Bag.stay (r.bg a ha) s,fun k c hk=>?_⟩,e,fun a o h1 h2=>?_⟩
 ·obtain ⟨a,vs,h1,h2,h3⟩:=r.cel k c hk
  exact ⟨a,vs,h1,s _ _ h2,h3.ex e.ex⟩
 ·rw [G_of (r.fresh h1)]; exact h2
theorem RelO.draw (r:RelO K w O H) {b:Addr} (hb:b ∈ w.bags) (k:Kp b H H') (hB:Bag H' b):RelO K w O H'∧Ext w O H w O H'∧∀ a o,H a=none→H' a=some o→G w O H' a=some o:=by
 have sg:Stay (G w O H) (G w O H'):=fun a o h=>by
  obtain ⟨h1,h2⟩:=G_in h
  rw [G_of h2]; exact k _ _ (fun z=>h2 (Or.inl (z ▸ hb))) h1
 have e:Ext w O H w O H':=⟨⟨⟨[],by simp⟩,⟨[],by simp⟩,⟨[],by simp⟩,sg⟩,rfl⟩
 refine ⟨⟨r.len,r.nd,fun a ha=>(let ⟨o,h⟩:=r.al a ha; ⟨o,k _ _ (fun z=>r.nb b hb (z ▸ ha)) h⟩),r.nb,r.hn,fun p hp=>⟨(r.nh p hp).1,(r.nh p hp).2.1,k _ _ (fun z=>(r.nh p hp).2.1 (z ▸ hb)) (r.nh p hp).2.2.1,(r.nh p hp).2.2.2⟩,fun a ha=>?_,fun j c hk=>?_⟩,e,fun a o h1 h2=>?_⟩
 ·by_cases z:a=b
  ·rw [z]; exact hB
  ·obtain ⟨x,y,q⟩:=r.bg a ha; exact ⟨x,y,k _ _ z q⟩
 ·obtain ⟨a,vs,h1,h2,h3⟩:=r.cel j c hk
  exact ⟨a,vs,h1,k _ _ (fun z=>r.nb b hb (z ▸ Zi h1)) h2,h3.ex e.ex⟩
 ·rw [G_of (r.fresh h1)]; exact h2
theorem RelO.bag (r:RelO K w O H) {p:Addr} {x y:Int} (hp:H p=none):RelO K { w with bags:=w.bags ++ [p] } O (upd H p (.lst [.int x,.int y]))∧Ext w O H { w with bags:=w.bags ++ [p] } O (upd H p (.lst [.int x,.int y])):=by
 have hhid:∀ a,Hid { w with bags:=w.bags ++ [p] } O a→Hid w O a ∨ a=p:=fun a h=>by
  rcases h with h | h
  ·rcases Zq.mp h with h | h
   ·exact .inl (.inl h)
   ·exact .inr (Yc.mp h)
  ·exact .inl (.inr h)
 have sg:Stay (G w O H) (G { w with bags:=w.bags ++ [p] } O (upd H p (.lst [.int x,.int y]))):=fun a o h=>by
  obtain ⟨h1,h2⟩:=G_in h
  have hne:a ≠ p:=fun z=>by rw [z,hp] at h1; cases h1
  rw [G_of (fun z=>(hhid a z).elim h2 hne),jc0 hne]; exact h1
 have e:Ext w O H { w with bags:=w.bags ++ [p] } O (upd H p (.lst [.int x,.int y])):=⟨⟨⟨[p],rfl⟩,⟨[],by simp⟩,⟨[],by simp⟩,sg⟩,rfl⟩
 have nal:p ∉ w.ads:=fun z=>by obtain ⟨u,h⟩:=r.al p z; rw [hp] at h; cases h
 refine ⟨⟨r.len,r.nd,fun a ha=>?_,fun a ha=>?_,r.hn,fun q hq=>?_,fun a ha=>?_,fun k c hk=>?_⟩,e⟩
 ·obtain ⟨u,h⟩:=r.al a ha
  have hne:a ≠ p:=fun z=>nal (z ▸ ha)
  exact ⟨u,by rw [jc0 hne]; exact h⟩
 ·rcases Zq.mp ha with h | h
  ·exact r.nb a h
  ·rw [Yc.mp h]; exact nal
 ·obtain ⟨h1,h2,h3,h4⟩:=r.nh q hq
  have hne:q.1 ≠ p:=fun z=>by rw [z,hp] at h3; cases h3
  refine ⟨h1,fun z=>?_,by rw [jc0 hne]; exact h3,h4⟩
  rcases Zq.mp z with h | h
  ·exact h2 h
  ·exact hne (Yc.mp h)
 ·rcases Zq.mp ha with h | h
  ·exact (r.bg a h).new hp
  ·rw [Yc.mp h]; exact ⟨x,y,ja8⟩
 ·obtain ⟨a',vs,h1,h2,h3⟩:=r.cel k c hk
  have hne:a' ≠ p:=fun z=>by rw [z,hp] at h2; cases h2
  exact ⟨a',vs,h1,by rw [jc0 hne]; exact h2,h3.ex e.ex⟩
theorem RelO.new (r:RelO K w O H) {p:Addr} {o:HO} (hp:H p=none):RelO K w O (upd H p o)∧Ext w O H w O (upd H p o)∧G w O (upd H p o) p=some o:=by
 obtain ⟨h1,h2,h3⟩:=r.stay ((Stay.refl H).new (o:=o) hp)
 exact ⟨h1,h2,h3 p o hp ja8⟩
theorem Hid.set {k:Nat} {c c':List AV} {a:Addr} (hk:O[k]?=some (some c)):Hid w (O.set k (some c')) a ↔ Hid w O a:=by
 have hl:=(Ze.mp hk).1
 unfold Hid
 constructor
 ·rintro (h | h | ⟨j,d,h1,h2⟩)
  ·exact .inl h
  ·exact .inr (.inl h)
  ·by_cases e:k=j
   ·subst e; exact .inr (.inr ⟨k,c,h1,hk⟩)
   ·rw [Yg e] at h2
    exact .inr (.inr ⟨j,d,h1,h2⟩)
 ·rintro (h | h | ⟨j,d,h1,h2⟩)
  ·exact .inl h
  ·exact .inr (.inl h)
  ·by_cases e:k=j
   ·subst e; exact .inr (.inr ⟨k,c',h1,Yh hl⟩)
   ·exact .inr (.inr ⟨j,d,h1,by rw [Yg e]; exact h2⟩)
theorem RelO.put (r:RelO K w O H) {k:Nat} {c c':List AV} {a:Addr} {vs vs':List V} (hk:O[k]?=some (some c)) (ha:w.ads[k]?=some a) (hv:H a=some (.lst vs)) (hc:AVrs K w (G w O H) vs' c') :
  RelO K w (O.set k (some c')) (upd H a (.lst vs'))∧Ext w O H w (O.set k (some c')) (upd H a (.lst vs')):=by
 have hl:=(Ze.mp hk).1
 have hida:Hid w O a:=.inr (.inr ⟨k,c,ha,hk⟩)
 have sg:Stay (G w O H) (G w (O.set k (some c')) (upd H a (.lst vs'))):=fun x o h=>by
  obtain ⟨h1,h2⟩:=G_in h
  have hne:x ≠ a:=fun z=>h2 (z ▸ hida)
  rw [G_of (fun z=>h2 ((Hid.set hk).mp z)),jc0 hne]; exact h1
 have e:Ext w O H w (O.set k (some c')) (upd H a (.lst vs')):=⟨⟨⟨[],by simp⟩,⟨[],by simp⟩,⟨[],by simp⟩,sg⟩,rfl⟩
 refine ⟨⟨by rw [List.length_set]; exact r.len,r.nd,fun x hx=>?_,r.nb,r.hn,fun p hp=>?_,fun b hb=>?_,fun j d hj=>?_⟩,e⟩
 ·obtain ⟨o,h⟩:=r.al x hx
  by_cases z:x=a
  ·subst z; exact ⟨_,ja8⟩
  ·exact ⟨o,by rw [jc0 z]; exact h⟩
 ·obtain ⟨h1,h2,h3,h4⟩:=r.nh p hp
  have hne:p.1 ≠ a:=fun z=>h1 (z ▸ Zi ha)
  exact ⟨h1,h2,by rw [jc0 hne]; exact h3,h4⟩
 ·exact (r.bg b hb).acc (fun z=>r.nb b hb (z ▸ Zi ha))
 ·by_cases ej:k=j
  ·subst ej
   rw [Yh hl] at hj
   have hd:c'=d:=by injection (Option.some.inj hj)
   subst hd
   exact ⟨a,vs',ha,ja8,hc.ex e.ex⟩
  ·rw [Yg ej] at hj
   obtain ⟨a',us,h1,h2,h3⟩:=r.cel j d hj
   have hne:a' ≠ a:=fun z=>by
    subst z
    exact ej ((List.getElem?_inj (Ze.mp ha).1 r.nd).mp (ha.trans h1.symm))
   exact ⟨a',us,h1,by rw [jc0 hne]; exact h2,h3.ex e.ex⟩
theorem RelO.own (r:RelO K w O H) {p:Addr} {c:List AV} {vs:List V} (hp:H p=none) (hc:AVrs K w (G w O H) vs c) :
  RelO K { w with ads:=w.ads ++ [p] } (O ++ [some c]) (upd H p (.lst vs))∧Ext w O H { w with ads:=w.ads ++ [p] } (O ++ [some c]) (upd H p (.lst vs))∧({ w with ads:=w.ads ++ [p] }:Wd).ads[O.length]?=some p:=by
 have hhid:∀ x,Hid { w with ads:=w.ads ++ [p] } (O ++ [some c]) x→Hid w O x ∨ x=p:=fun x h=>by
  rcases h with h | h | ⟨j,d,h1,h2⟩
  ·exact .inl (.inl h)
  ·exact .inl (.inr (.inl h))
  ·change (w.ads ++ [p])[j]?=some x at h1
   rcases Nat.lt_or_ge j O.length with y | y
   ·rw [Zr y] at h2
    rw [Zr (by rw [r.len]; exact y)] at h1
    exact .inl (.inr (.inr ⟨j,d,h1,h2⟩))
   ·have hj:=(Ze.mp h1).1
    rw [Zj,r.len] at hj
    have:j=O.length:=by simp at hj; omega
    subst this
    rw [Yi (by rw [r.len]; exact Zd _),r.len,Nat.sub_self] at h1
    exact .inr (by simpa using h1.symm)
 have sg:Stay (G w O H) (G { w with ads:=w.ads ++ [p] } (O ++ [some c]) (upd H p (.lst vs))):=fun x o h=>by
  obtain ⟨h1,h2⟩:=G_in h
  have hne:x ≠ p:=fun z=>by rw [z,hp] at h1; cases h1
  rw [G_of (fun z=>(hhid x z).elim h2 hne),jc0 hne]; exact h1
 have e:Ext w O H { w with ads:=w.ads ++ [p] } (O ++ [some c]) (upd H p (.lst vs)):=⟨⟨⟨[],by simp⟩,⟨[p],rfl⟩,⟨[],by simp⟩,sg⟩,rfl⟩
 have hat:(w.ads ++ [p])[O.length]?=some p:=by rw [← r.len]; simp
 have hna:p ∉ w.ads:=fun z=>by obtain ⟨o,h⟩:=r.al p z; rw [hp] at h; cases h
 refine ⟨⟨by simp [r.len],?_,fun x hx=>?_,fun b hb=>?_,r.hn,fun q hq=>?_,fun b hb=>(r.bg b hb).new hp,fun j d hj=>?_⟩,e,hat⟩
 ·show (w.ads ++ [p]).Nodup
  rw [List.nodup_append]
  exact ⟨r.nd,by simp,fun a ha b hb' e=>by rw [Yc] at hb'; rw [e,hb'] at ha; exact hna ha⟩
 ·rcases Zq.mp hx with y | y
  ·obtain ⟨o,h⟩:=r.al x y
   have hne:x ≠ p:=fun z=>by rw [z,hp] at h; cases h
   exact ⟨o,by rw [jc0 hne]; exact h⟩
  ·rw [Yc.mp y]; exact ⟨_,ja8⟩
 ·intro z
  rcases Zq.mp z with y | y
  ·exact r.nb b hb y
  ·exact (r.bg b hb).ne hp (Yc.mp y)
 ·obtain ⟨h1,h2,h3,h4⟩:=r.nh q hq
  have hne:q.1 ≠ p:=fun z=>by rw [z,hp] at h3; cases h3
  refine ⟨fun z=>?_,h2,by rw [jc0 hne]; exact h3,h4⟩
  rcases Zq.mp z with y | y
  ·exact h1 y
  ·exact hne (Yc.mp y)
 ·rcases Nat.lt_or_ge j O.length with y | y
  ·rw [Zr y] at hj
   obtain ⟨a',us,h1,h2,h3⟩:=r.cel j d hj
   have hne:a' ≠ p:=fun z=>by rw [z,hp] at h2; cases h2
   exact ⟨a',us,e.ex.at h1,by rw [jc0 hne]; exact h2,h3.ex e.ex⟩
  ·have hj':=(Ze.mp hj).1
   rw [Zj] at hj'
   have:j=O.length:=by simp at hj'; omega
   subst this
   rw [Yi (Zd _),Nat.sub_self] at hj
   have hd:c=d:=by injection (Option.some.inj hj)
   subst hd
   exact ⟨p,vs,hat,ja8,hc.ex e.ex⟩
theorem RelO.hide (r:RelO K w O H) {a:Addr} {o:HO} (ha:H a=none) (ho:∀ xs,o ≠ .tup xs):RelO K { w with hid:=(a,o) :: w.hid } O (upd H a o)∧Ex0 w O H { w with hid:=(a,o) :: w.hid } O (upd H a o):=by
 have hhid:∀ x,Hid { w with hid:=(a,o) :: w.hid } O x→Hid w O x ∨ x=a:=fun x h=>by
  rcases h with h | ⟨u,h⟩ | h
  ·exact .inl (.inl h)
  ·rcases Zf.mp h with e | e
   ·exact .inr (by injection e)
   ·exact .inl (.inr (.inl ⟨u,e⟩))
  ·exact .inl (.inr (.inr h))
 have sg:Stay (G w O H) (G { w with hid:=(a,o) :: w.hid } O (upd H a o)):=fun x u h=>by
  obtain ⟨h1,h2⟩:=G_in h
  have hne:x ≠ a:=fun z=>by rw [z,ha] at h1; cases h1
  rw [G_of (fun z=>(hhid x z).elim h2 hne),jc0 hne]; exact h1
 have e:Ex0 w O H { w with hid:=(a,o) :: w.hid } O (upd H a o):=⟨⟨[],by simp⟩,⟨[],by simp⟩,⟨[(a,o)],rfl⟩,sg⟩
 have nal:a ∉ w.ads:=fun z=>by obtain ⟨u,h⟩:=r.al a z; rw [ha] at h; cases h
 refine ⟨⟨r.len,r.nd,fun x hx=>?_,r.nb,?_,fun p hp=>?_,fun b hb=>(r.bg b hb).new ha,fun k c hk=>?_⟩,e⟩
 ·obtain ⟨u,h⟩:=r.al x hx
  have hne:x ≠ a:=fun z=>nal (z ▸ hx)
  exact ⟨u,by rw [jc0 hne]; exact h⟩
 ·show (a :: w.hid.map (·.1)).Nodup
  rw [List.nodup_cons]
  refine ⟨fun z=>?_,r.hn⟩
  obtain ⟨p,hp,e⟩:=Zk.mp z
  have:=(r.nh p hp).2.2.1
  rw [e,ha] at this; cases this
 ·rcases Zf.mp hp with e | e
  ·subst e
   exact ⟨nal,fun hb=>(r.bg a hb).ne ha rfl,ja8,ho⟩
  ·obtain ⟨h1,h2,h3,h4⟩:=r.nh p e
   have hne:p.1 ≠ a:=fun z=>by rw [z,ha] at h3; cases h3
   exact ⟨h1,h2,by rw [jc0 hne]; exact h3,h4⟩
 ·obtain ⟨a',vs,h1,h2,h3⟩:=r.cel k c hk
  have hne:a' ≠ a:=fun z=>by rw [z,ha] at h2; cases h2
  exact ⟨a',vs,h1,by rw [jc0 hne]; exact h2,h3.ex e⟩
theorem Hid.eq {a:Addr} {o o':HO} {h0:List (Addr × HO)} (hh:w.hid=(a,o) :: h0) {x:Addr}:Hid { w with hid:=(a,o') :: h0 } O x ↔ Hid w O x:=by
 unfold Hid
 rw [hh]
 constructor
 ·rintro (h | ⟨u,h⟩ | h)
  ·exact .inl h
  ·rcases Zf.mp h with e | e
   ·have ea:x=a:=by injection e
    subst ea; exact .inr (.inl ⟨o,Yb⟩)
   ·exact .inr (.inl ⟨u,Zu _ e⟩)
  ·exact .inr (.inr h)
 ·rintro (h | ⟨u,h⟩ | h)
  ·exact .inl h
  ·rcases Zf.mp h with e | e
   ·have ea:x=a:=by injection e
    subst ea; exact .inr (.inl ⟨o',Yb⟩)
   ·exact .inr (.inl ⟨u,Zu _ e⟩)
  ·exact .inr (.inr h)
theorem RelO.rehide (r:RelO K w O H) {a:Addr} {o o':HO} {h0:List (Addr × HO)} (hh:w.hid=(a,o) :: h0) (ho:∀ xs,o' ≠ .tup xs):RelO K { w with hid:=(a,o') :: h0 } O (upd H a o')∧Stay (G w O H) (G { w with hid:=(a,o') :: h0 } O (upd H a o')):=by
 obtain ⟨n1,n2,n3,n4⟩:=r.nh (a,o) (by rw [hh]; exact Yb)
 have hna:=r.hn
 rw [hh,List.map_cons,List.nodup_cons] at hna
 have sg:Stay (G w O H) (G { w with hid:=(a,o') :: h0 } O (upd H a o')):=fun x u h=>by
  obtain ⟨h1,h2⟩:=G_in h
  have hne:x ≠ a:=fun z=>h2 (.inr (.inl ⟨o,by rw [hh,z]; exact Yb⟩))
  rw [G_of (fun z=>h2 ((Hid.eq hh).mp z)),jc0 hne]; exact h1
 refine ⟨⟨r.len,r.nd,fun x hx=>?_,r.nb,?_,fun p hp=>?_,fun b hb=>(r.bg b hb).acc (fun z=>n2 (z ▸ hb)),fun k c hk=>?_⟩,sg⟩
 ·obtain ⟨u,h⟩:=r.al x hx
  have hne:x ≠ a:=fun z=>n1 (z ▸ hx)
  exact ⟨u,by rw [jc0 hne]; exact h⟩
 ·show (a :: h0.map (·.1)).Nodup
  rw [List.nodup_cons]; exact hna
 ·rcases Zf.mp hp with e | e
  ·subst e; exact ⟨n1,n2,ja8,ho⟩
  ·obtain ⟨h1,h2,h3,h4⟩:=r.nh p (by rw [hh]; exact Zu _ e)
   have hne:p.1 ≠ a:=fun z=>hna.1 (Zk.mpr ⟨p,e,z⟩)
   exact ⟨h1,h2,by rw [jc0 hne]; exact h3,h4⟩
 ·obtain ⟨a',vs,h1,h2,h3⟩:=r.cel k c hk
  have hne:a' ≠ a:=fun z=>n1 (z ▸ Zi h1)
  refine ⟨a',vs,h1,by rw [jc0 hne]; exact h2,h3.1,fun i v x e1 e2=>?_⟩
  have:=h3.2 i v x e1 e2
  cases x with
  | im d=>exact TrG.stay sg this
  | own j=>exact this
  | bag j=>exact this
  | scr ns=>obtain ⟨p,q1,q2⟩:=this; exact ⟨p,q1,KG.SqL.stay q2 sg⟩
theorem AVr.stayG {w w':Wd} {g g':Hp} (hb:w'.bags=w.bags) (ha:w'.ads=w.ads) (s:Stay g g') {v:V}:∀ {x:AV},AVr K w g v x→AVr K w' g' v x
 | .im d,h=>TrG.stay s h
 | .own k,h=>by obtain ⟨a,h1,h2⟩:=h; exact ⟨a,by rw [ha]; exact h1,h2⟩
 | .bag j,h=>by obtain ⟨a,h1,h2⟩:=h; exact ⟨a,by rw [hb]; exact h1,h2⟩
 | .scr ns,h=>by obtain ⟨p,q1,q2⟩:=h; exact ⟨p,q1,KG.SqL.stay q2 s⟩
theorem RelO.unhide (r:RelO K w O H) {a:Addr} {o:HO} {h0:List (Addr × HO)} (hh:w.hid=(a,o) :: h0):RelO K { w with hid:=h0 } O H∧Stay (G w O H) (G { w with hid:=h0 } O H)∧G { w with hid:=h0 } O H a=some o:=by
 obtain ⟨n1,n2,n3,n4⟩:=r.nh (a,o) (by rw [hh]; exact Yb)
 have hna:=r.hn
 rw [hh,List.map_cons,List.nodup_cons] at hna
 have hhid:∀ x,Hid { w with hid:=h0 } O x→Hid w O x:=fun x h=>by
  rcases h with h | ⟨u,h⟩ | h
  ·exact .inl h
  ·exact .inr (.inl ⟨u,by rw [hh]; exact Zu _ h⟩)
  ·exact .inr (.inr h)
 have sg:Stay (G w O H) (G { w with hid:=h0 } O H):=fun x u h=>by
  obtain ⟨h1,h2⟩:=G_in h
  rw [G_of (fun z=>h2 (hhid x z))]; exact h1
 refine ⟨⟨r.len,r.nd,r.al,r.nb,hna.2,fun p hp=>r.nh p (by rw [hh]; exact Zu _ hp),r.bg,fun k c hk=>?_⟩,sg,?_⟩
 ·obtain ⟨a',vs,h1,h2,h3⟩:=r.cel k c hk
  exact ⟨a',vs,h1,h2,h3.1,fun i v x e1 e2=>AVr.stayG rfl rfl sg (h3.2 i v x e1 e2)⟩
 ·rw [G_of]
  ·exact n3
  ·rintro (h1 | ⟨u,h⟩ | ⟨j,d,h1,h2⟩)
   ·exact n2 h1
   ·exact hna.1 (Zk.mpr ⟨_,h,rfl⟩)
   ·exact n1 (Zi h1)
theorem RelO.unhideO (r:RelO K w O H) {a:Addr} {ys:List V} {c:List AV} {h0:List (Addr × HO)} (hh:w.hid=(a,.lst ys) :: h0) (hc:AVrs K w (G w O H) ys c) :
  RelO K { w with hid:=h0,ads:=w.ads ++ [a] } (O ++ [some c]) H∧Stay (G w O H) (G { w with hid:=h0,ads:=w.ads ++ [a] } (O ++ [some c]) H)∧(w.ads ++ [a])[O.length]?=some a:=by
 obtain ⟨n1,n2,n3,n4⟩:=r.nh (a,.lst ys) (by rw [hh]; exact Yb)
 have hna:=r.hn
 rw [hh,List.map_cons,List.nodup_cons] at hna
 have hhid:∀ x,Hid { w with hid:=h0,ads:=w.ads ++ [a] } (O ++ [some c]) x→Hid w O x:=fun x h=>by
  rcases h with h | ⟨u,h⟩ | ⟨j,d,h1,h2⟩
  ·exact .inl h
  ·exact .inr (.inl ⟨u,by rw [hh]; exact Zu _ h⟩)
  ·change (w.ads ++ [a])[j]?=some x at h1
   rcases Nat.lt_or_ge j O.length with y | y
   ·rw [Zr y] at h2
    rw [Zr (by rw [r.len]; exact y)] at h1
    exact .inr (.inr ⟨j,d,h1,h2⟩)
   ·have hj:=(Ze.mp h1).1
    rw [Zj,r.len] at hj
    have:j=O.length:=by simp at hj; omega
    subst this
    rw [Yi (by rw [r.len]; exact Zd _),r.len,Nat.sub_self] at h1
    have ex:x=a:=by simpa using h1.symm
    exact .inr (.inl ⟨_,by rw [hh,ex]; exact Yb⟩)
 have sg:Stay (G w O H) (G { w with hid:=h0,ads:=w.ads ++ [a] } (O ++ [some c]) H):=fun x u h=>by
  obtain ⟨h1,h2⟩:=G_in h
  rw [G_of (fun z=>h2 (hhid x z))]; exact h1
 have hat:(w.ads ++ [a])[O.length]?=some a:=by rw [← r.len]; simp
 have av:∀ {vs:List V} {xs:List AV},AVrs K w (G w O H) vs xs→AVrs K { w with hid:=h0,ads:=w.ads ++ [a] } (G { w with hid:=h0,ads:=w.ads ++ [a] } (O ++ [some c]) H) vs xs:=fun h=>⟨h.1,fun i v x e1 e2=>by
  have:=h.2 i v x e1 e2
  cases x with
  | im d=>exact TrG.stay sg this
  | own j=>obtain ⟨p,q1,q2⟩:=this; exact ⟨p,by show (w.ads ++ [a])[j]?=_; rw [Zr (Ze.mp q1).1]; exact q1,q2⟩
  | bag j=>exact this
  | scr ns=>obtain ⟨p,q1,q2⟩:=this; exact ⟨p,q1,KG.SqL.stay q2 sg⟩⟩
 refine ⟨⟨by simp [r.len],?_,fun x hx=>?_,fun b hb z=>?_,hna.2,fun p hp=>?_,r.bg,fun k d hk=>?_⟩,sg,hat⟩
 ·show (w.ads ++ [a]).Nodup
  rw [List.nodup_append]
  exact ⟨r.nd,by simp,fun x hx b hb' e=>by rw [Yc] at hb'; rw [e,hb'] at hx; exact n1 hx⟩
 ·rcases Zq.mp hx with y | y
  ·exact r.al x y
  ·rw [Yc.mp y]; exact ⟨_,n3⟩
 ·rcases Zq.mp z with y | y
  ·exact r.nb b hb y
  ·exact n2 (Yc.mp y ▸ hb)
 ·obtain ⟨h1,h2,h3,h4⟩:=r.nh p (by rw [hh]; exact Zu _ hp)
  refine ⟨fun z=>?_,h2,h3,h4⟩
  rcases Zq.mp z with y | y
  ·exact h1 y
  ·exact hna.1 (Zk.mpr ⟨p,hp,Yc.mp y⟩)
 ·rcases Nat.lt_or_ge k O.length with y | y
  ·rw [Zr y] at hk
   obtain ⟨a',vs,h1,h2,h3⟩:=r.cel k d hk
   exact ⟨a',vs,by show (w.ads ++ [a])[k]?=_; rw [Zr (Ze.mp h1).1]; exact h1,h2,av h3⟩
  ·have hj':=(Ze.mp hk).1
   rw [Zj] at hj'
   have:k=O.length:=by simp at hj'; omega
   subst this
   rw [Yi (Zd _),Nat.sub_self] at hk
   have hd:c=d:=by injection (Option.some.inj hk)
   subst hd
   exact ⟨a,ys,hat,n3,av hc⟩
theorem RelO.tups (r:RelO K w O H):∀ a xs,H a=some (.tup xs)→G w O H a=some (.tup xs):=by
 intro a xs h
 rw [G_of]
 ·exact h
 ·rintro (h1 | ⟨o,h1⟩ | ⟨j,d,h1,h2⟩)
  ·obtain ⟨c,d,e⟩:=r.bg _ h1; rw [h] at e; cases e
  ·obtain ⟨_,_,h3,h4⟩:=r.nh _ h1
   rw [h] at h3
   exact h4 xs (Option.some.inj h3).symm
  ·obtain ⟨a',vs,e1,e2,_⟩:=r.cel j d h2
   rw [h1] at e1
   cases Option.some.inj e1
   rw [h] at e2; cases e2
end
section
variable {K:PySem.W.Frag} {QX:Addr→Sto→Prop} {E:XK} {X:Cx} {w:Wd} {O:Sto} {H:Hp}
theorem PE.imp {e:Expr} {t t':TE} (h:PE X e t) (i:∀ σ H Q,t' σ H Q→t σ H Q):PE X e t':=fun pins s σ H Q I q=>h pins s σ H Q I (i σ H Q q)
theorem PT.imp {e:Expr} {t t':TT} (h:PT X e t) (i:∀ σ H Q,t' σ H Q→t σ H Q):PT X e t':=fun pins s σ H Q I q=>h pins s σ H Q I (i σ H Q q)
theorem PW.imp {e:Expr} {t t':TT} (h:PW X e t) (i:∀ σ H Q,t' σ H Q→t σ H Q):PW X e t':=fun wh pins s σ H Q I q=>h wh pins s σ H Q I (i σ H Q q)
theorem PA.imp {es:List Expr} {t t':TA} (h:PA X es t) (i:∀ σ H Q,t' σ H Q→t σ H Q):PA X es t':=fun p pins s σ H Q I q=>h p pins s σ H Q I (i σ H Q q)
theorem PS.imp {st:Stmt} {t t':TS} (h:PS X st t) (i:∀ D σ H,t' D σ H→t D σ H):PS X st t':=fun pins s σ H D I q=>h pins s σ H D I (i D σ H q)
theorem PSs.imp {st:List Stmt} {t t':TS} (h:PSs X st t) (i:∀ D σ H,t' D σ H→t D σ H):PSs X st t':=fun pins s σ H D I q=>h pins s σ H D I (i D σ H q)
theorem g_tup {v:V} {ds:List PyData} (h:TrG (G w O H) v (.tuple ds)):∃ a xs,v=.ref a∧H a=some (.tup xs)∧TrGs (G w O H) xs ds:=by
 cases h with | tup h1 h2=>exact ⟨_,_,rfl,(G_in h1).1,h2⟩
theorem g_lst {v:V} {ds:List PyData} (h:TrG (G w O H) v (.list ds)):∃ a xs,v=.ref a∧H a=some (.lst xs)∧TrGs (G w O H) xs ds:=by
 cases h with | lst h1 h2=>exact ⟨_,_,rfl,(G_in h1).1,h2⟩
theorem jg2 {g:Hp} {v:V} {i:Int} (h:TrG g v (.int i)):v=.int i:=by cases h; rfl
theorem g_bl {g:Hp} {v:V} {i:Bool} (h:TrG g v (.bool i)):v=.bl i:=by cases h; rfl
theorem g_ints {g:Hp}:∀ {ns:List Int} {vs:List V},TrGs g vs (ns.map .int)→vs=ns.map V.int
 | [],_,h=>by cases h; rfl
 | n :: ns,_,h=>by
  cases h with | cons h1 h2=>rw [jg2 h1,g_ints h2]; rfl
theorem new_tup (r:RelO K w O H) {p:Addr} {xs:List V} {ds:List PyData} (hp:H p=none) (h:TrGs (G w O H) xs ds) :
  RelO K w O (upd H p (.tup xs))∧Ext w O H w O (upd H p (.tup xs))∧TrG (G w O (upd H p (.tup xs))) (.ref p) (.tuple ds):=by
 obtain ⟨r1,e1,g1⟩:=r.new (o:=.tup xs) hp
 exact ⟨r1,e1,.tup g1 (TrGs.stay e1.ex.stay h)⟩
theorem new_lst (r:RelO K w O H) {p:Addr} {xs:List V} {ds:List PyData} (hp:H p=none) (h:TrGs (G w O H) xs ds) :
  RelO K w O (upd H p (.lst xs))∧Ext w O H w O (upd H p (.lst xs))∧TrG (G w O (upd H p (.lst xs))) (.ref p) (.list ds):=by
 obtain ⟨r1,e1,g1⟩:=r.new (o:=.lst xs) hp
 exact ⟨r1,e1,.lst g1 (TrGs.stay e1.ex.stay h)⟩
theorem grown_tup (r:RelO K w O H) {p:Addr} {xs:List V} {ds:List PyData} {H':Hp} (s:Stay H H') (hp:H' p=some (.tup xs)) (h:TrGs (G w O H) xs ds) :
  RelO K w O H'∧Ext w O H w O H'∧TrG (G w O H') (.ref p) (.tuple ds):=by
 obtain ⟨r1,e1,g1⟩:=r.stay s
 exact ⟨r1,e1,.tup (r1.tups _ _ hp) (TrGs.stay e1.ex.stay h)⟩
def mVar (i:Nat):ME:=fun sl O Q=>match sl[i]? with
 | some (some x)=>Q x O
 | _=>False
theorem ja2 {i:Nat} {e:Expr} (h:PE X e (tVar i)):PE X e (teM K QX E (mVar i)):=PE.imp h fun σ H Q ⟨w,O,sl,Q0,c,m,q⟩=>by
 unfold mVar at m
 split at m
 ·rename_i x hx
  obtain ⟨v,h1,h2⟩:=c.so.2 i x hx
  exact ⟨v,h1,q x O v w H m (Ext.refl _ _ _) c.ro h2⟩
 ·exact m.elim
def mC (d:PyData):ME:=fun _ O Q=>Q (.im d) O
theorem me_c {v:V} {d:PyData} {e:Expr} (h:PE X e (tC v)) (hv:∀ g,TrG g v d):PE X e (teM K QX E (mC d)):=PE.imp h fun σ H Q ⟨w,O,sl,Q0,c,m,q⟩=>q _ O v w H m (Ext.refl _ _ _) c.ro (hv _)
theorem jb2 {i j pos}:PE X (.Constant (.int i) j pos) (teM K QX E (mC (.int i))):=me_c ja6 fun _=>.int _
theorem me_bl {i j pos}:PE X (.Constant (.bool i) j pos) (teM K QX E (mC (.bool i))):=me_c jh0 fun _=>.bl _
theorem me_non {j pos}:PE X (.Constant .none j pos) (teM K QX E (mC .none)):=me_c pe_non fun _=>.non
theorem me_str {x j pos} (h:(PyData.str x).canLay0=true:=by decide +kernel):PE X (.Constant (.str x) j pos) (teM K QX E (mC (.str x))):=me_c pe_str fun _=>.str _ h
def mNil:MA:=fun _ O Q=>Q [] O
def mCons (Me:ME) (Ms:MA):MA:=fun sl O Q=>Me sl O fun x O1=>Ms sl O1 fun xs O2=>Q (x :: xs) O2
theorem ja4:PA X [] (taM K QX E mNil):=PA.imp ja5 fun σ H Q ⟨w,O,sl,Q0,c,m,q⟩=>q [] O [] w H m (Ext.refl _ _ _) c.ro AVrs.nil
theorem ja0 {e:Expr} {es:List Expr} {Me:ME} {Ms:MA} (he:PE X e (teM K QX E Me)) (hr:PA X es (taM K QX E Ms)) (hs:starEach (e :: es) X.env=(false,eval e X.env) :: starEach es X.env:=by rfl):PA X (e :: es) (taM K QX E (mCons Me Ms)) :=
 PA.imp (ja1 he hr hs) fun σ H Q ⟨w,O,sl,Q0,c,m,q⟩=>⟨w,O,sl,_,c,m,fun x O1 v w1 H1 h1 e1 r1 a1=>⟨w1,O1,sl,_,c.ex e1.ex r1,h1,fun xs O2 vs w2 H2 h2 e2 r2 a2=>q _ O2 _ w2 H2 h2 (e1.trans e2) r2 (AVrs.cons (a1.ex e2.ex) a2)⟩⟩
def ims:List AV→Option (List PyData)
 | []=>some []
 | .im d :: xs=>match ims xs with
  | some ds=>some (d :: ds)
  | none=>none
 | _ :: _=>none
theorem ims_eq:∀ {xs:List AV} {ds:List PyData},ims xs=some ds→xs=ds.map .im
 | [],_,h=>by cases h; rfl
 | .im d :: xs,ds,h=>by
  unfold ims at h
  split at h
  ·rename_i es he
   cases h
   rw [ims_eq he]; rfl
  ·cases h
 | .own _ :: _,_,h=>by cases h
 | .bag _ :: _,_,h=>by cases h
 | .scr _ :: _,_,h=>by cases h
def mTup (Ms:MA):ME:=fun sl O Q=>Ms sl O fun xs O1=>match ims xs with
 | some ds=>ds.length ≤ sizeLine∧Q (.im (.tuple ds)) O1
 | none=>False
def mLst (Ms:MA):ME:=fun sl O Q=>Ms sl O fun xs O1=>match ims xs with
 | some ds=>ds.length ≤ sizeLine∧Q (.im (.list ds)) O1
 | none=>False
def mOwn (Ms:MA):ME:=fun sl O Q=>Ms sl O fun xs O1=>xs.length ≤ sizeLine∧Q (.own O1.length) (O1 ++ [some xs])
theorem je1 {es:List Expr} {Ms:MA} {x1} {pos:Pos} (h:PA X es (taM K QX E Ms)):PE X (.Tuple es x1 pos) (teM K QX E (mTup Ms)):=PE.imp (pe_tup h) fun σ H Q ⟨w,O,sl,Q0,c,m,q⟩=>⟨w,O,sl,_,c,m,fun xs O1 vs w1 H1 h1 e1 r1 a1=>by
 split at h1
 ·rename_i ds hd
  have hx:=ims_eq hd
  subst hx
  refine ⟨by rw [a1.1,Zb]; exact h1.1,fun p hp=>?_⟩
  obtain ⟨r2,e2,t2⟩:=new_tup r1 hp (AVrs.tr a1)
  exact q _ O1 _ w1 _ h1.2 (e1.trans e2) r2 t2
 ·exact h1.elim⟩
theorem jg3 {es:List Expr} {Ms:MA} {pos:Pos} (h:PA X es (taM K QX E Ms)):PE X (.List es pos) (teM K QX E (mLst Ms)):=PE.imp (pe_lst h) fun σ H Q ⟨w,O,sl,Q0,c,m,q⟩=>⟨w,O,sl,_,c,m,fun xs O1 vs w1 H1 h1 e1 r1 a1=>by
 split at h1
 ·rename_i ds hd
  have hx:=ims_eq hd
  subst hx
  refine ⟨by rw [a1.1,Zb]; exact h1.1,fun p hp=>?_⟩
  obtain ⟨r2,e2,t2⟩:=new_lst r1 hp (AVrs.tr a1)
  exact q _ O1 _ w1 _ h1.2 (e1.trans e2) r2 t2
 ·exact h1.elim⟩
theorem me_own {es:List Expr} {Ms:MA} {pos:Pos} (h:PA X es (taM K QX E Ms)):PE X (.List es pos) (teM K QX E (mOwn Ms)):=PE.imp (pe_lst h) fun σ H Q ⟨w,O,sl,Q0,c,m,q⟩=>⟨w,O,sl,_,c,m,fun xs O1 vs w1 H1 h1 e1 r1 a1=>by
 refine ⟨by rw [a1.1]; exact h1.1,fun p hp=>?_⟩
 obtain ⟨r2,e2,t2⟩:=r1.own hp a1
 exact q _ _ _ _ _ h1.2 (e1.trans e2) r2 ⟨p,t2,rfl⟩⟩
abbrev MF2:=Sto→AV→AV→(AV→Sto→Prop)→Prop
abbrev MFC:=Sto→List AV→(AV→Sto→Prop)→Prop
def Lk2 (K:PySem.W.Frag) (r:R2) (f:MF2):Prop:=∀ (w:Wd) (O:Sto) (H:Hp) (v u:V) (x y:AV) (P:AV→Sto→Prop) (Q:VK),RelO K w O H→AVr K w (G w O H) v x→AVr K w (G w O H) u y→f O x y P →
 (∀ z q O' w' H',P q O'→Ext w O H w' O' H'→RelO K w' O' H'→AVr K w' (G w' O' H') z q→Q z H')→r v u H Q
def LkC (K:PySem.W.Frag) (r:List V→Hp→VK→Prop) (f:MFC):Prop:=∀ (w:Wd) (O:Sto) (H:Hp) (vs:List V) (xs:List AV) (P:AV→Sto→Prop) (Q:VK),RelO K w O H→AVrs K w (G w O H) vs xs→f O xs P →
 (∀ z q O' w' H',P q O'→Ext w O H w' O' H'→RelO K w' O' H'→AVr K w' (G w' O' H') z q→Q z H')→r vs H Q
def mOp (f:MF2) (Ma Mb:ME):ME:=fun sl O Q=>Ma sl O fun x O1=>Mb sl O1 fun y O2=>f O2 x y Q
def mCB (f:MFC) (Ms:MA):ME:=fun sl O Q=>Ms sl O fun xs O1=>f O1 xs Q
theorem lift2 {r:R2} {f:MF2} {Ma Mb:ME} (lk:Lk2 K r f):∀ σ H Q,teM K QX E (mOp f Ma Mb) σ H Q→tOp r (teM K QX E Ma) (teM K QX E Mb) σ H Q :=
 fun σ H Q ⟨w,O,sl,Q0,c,m,q⟩=>⟨w,O,sl,_,c,m,fun x O1 v w1 H1 h1 e1 r1 a1=>⟨w1,O1,sl,_,c.ex e1.ex r1,h1,fun y O2 u w2 H2 h2 e2 r2 a2 =>
  lk w2 O2 H2 v u x y _ Q r2 (a1.ex e2.ex) a2 h2 fun z z' O3 w3 H3 h3 e3 r3 a3=>q _ O3 z w3 H3 h3 ((e1.trans e2).trans e3) r3 a3⟩⟩
theorem me_op {op:Operator} {r:R2} {f:MF2} {Ma Mb:ME} {a b:Expr} {pos:Pos} (ho:OpR X (binaryOp op) r) (lk:Lk2 K r f) (ha:PE X a (teM K QX E Ma)) (hb:PE X b (teM K QX E Mb)):PE X (.BinOp a op b pos) (teM K QX E (mOp f Ma Mb)):=PE.imp (jc3 ho ha hb) (lift2 lk)
theorem me_ix {r:R2} {f:MF2} {Ma Mb:ME} {a b:Expr} {pos:Pos} (ho:IxR X r) (lk:Lk2 K r f) (ha:PE X a (teM K QX E Ma)) (hb:PE X b (teM K QX E Mb)) (hs:PlainIx b:=by exact fun _ _=>rfl):PE X (.Subscript a b pos) (teM K QX E (mOp f Ma Mb)):=PE.imp (jb9 ho ha hb hs) (lift2 lk)
theorem me_cmp {op:CmpOp} {r:R2} {f:MF2} {Ma Mb:ME} {a b:Expr} {pos:Pos} (ho:OpR X (compareOp op) r) (lk:Lk2 K r f) (ha:PE X a (teM K QX E Ma)) (hb:PE X b (teM K QX E Mb)) (hm:behindInMarks op b=false):PE X (.Compare a [op] [b] pos) (teM K QX E (mOp f Ma Mb)):=PE.imp (je2 ho ha hb hm) (lift2 lk)
theorem jf2 {x:Str} {id:String} {e:Expr} {es:List Expr} {p pos:Pos} {r:List V→Hp→VK→Prop} {f:MFC} {Ms:MA} (hc:CallR X (.builtin id) r) (lk:LkC K r f) (hg:Gl X x) (hm:X.mg x=none) (hv:bootBuiltins x=some (.builtin id)) (ha:PA X (e :: es) (taM K QX E Ms)) (hn:x ≠ "__name__":=by decide) (hdb:(x == ("__debug__" : Str))=false:=by decide)
  (he:starEach (e :: es) X.env=(false,eval e X.env) :: starEach es X.env:=by rfl) (hpl:(backTo pos (starEach es X.env)).any (·.1)=false:=by rfl):PE X (.Call (.Name x p) (e :: es) [] pos) (teM K QX E (mCB f Ms)) :=
 PE.imp (jb3 hc hg hm hv ha hn hdb he hpl) fun σ H Q ⟨w,O,sl,Q0,c,m,q⟩=>⟨w,O,sl,_,c,m,fun xs O1 vs w1 H1 h1 e1 r1 a1=>lk w1 O1 H1 vs xs _ Q r1 a1 h1 fun z z' O3 w3 H3 h3 e3 r3 a3=>q _ O3 z w3 H3 h3 (e1.trans e3) r3 a3⟩
theorem jd0 {x:Str} {T:String} {e:Expr} {es:List Expr} {p pos:Pos} {r:List V→Hp→VK→Prop} {f:MFC} {Ms:MA} (hc:CallR X (.type T) r) (lk:LkC K r f) (hg:Gl X x) (hm:X.mg x=none) (hv:bootBuiltins x=some (.type T)) (ha:PA X (e :: es) (taM K QX E Ms)) (hn:x ≠ "__name__":=by decide) (hdb:(x == ("__debug__" : Str))=false:=by decide)
  (he:starEach (e :: es) X.env=(false,eval e X.env) :: starEach es X.env:=by rfl) (hpl:(backTo pos (starEach es X.env)).any (·.1)=false:=by rfl):PE X (.Call (.Name x p) (e :: es) [] pos) (teM K QX E (mCB f Ms)) :=
 PE.imp (jg9 hc hg hm hv ha hn hdb he hpl) fun σ H Q ⟨w,O,sl,Q0,c,m,q⟩=>⟨w,O,sl,_,c,m,fun xs O1 vs w1 H1 h1 e1 r1 a1=>lk w1 O1 H1 vs xs _ Q r1 a1 h1 fun z z' O3 w3 H3 h3 e3 r3 a3=>q _ O3 z w3 H3 h3 (e1.trans e3) r3 a3⟩
def mTst (M:ME):MT:=fun sl O Q=>M sl O fun x O1=>match x with
 | .im (.bool c)=>Q c O1
 | _=>False
theorem lift_tst {t:TE} {M:ME} (h:∀ σ H Q,teM K QX E M σ H Q→t σ H Q):∀ σ H Q,ttM K QX E (mTst M) σ H Q→tTest t σ H Q:=fun σ H Q ⟨w,O,sl,Q0,c,m,q⟩=>h σ H _ ⟨w,O,sl,_,c,m,fun x O1 v w1 H1 h1 e1 r1 a1=>by
 split at h1
 ·exact ⟨_,g_bl a1,q _ O1 w1 H1 h1 e1 r1⟩
 ·exact h1.elim⟩
theorem mt_cmp {op:CmpOp} {r:R2} {f:MF2} {Ma Mb:ME} {a b:Expr} {pos:Pos} (ho:OpR X (compareOp op) r) (lk:Lk2 K r f) (ha:PE X a (teM K QX E Ma)) (hb:PE X b (teM K QX E Mb)) (hm:behindInMarks op b=false):PT X (.Compare a [op] [b] pos) (ttM K QX E (mTst (mOp f Ma Mb))):=PT.imp (jc4 ho ha hb hm) (lift_tst (lift2 lk))
theorem mt_val {e:Expr} {M:ME} (h:PE X e (teM K QX E M)) (he:∀ whole,isTrue e X.env whole=(do let v ← whole; standAt e.pos; holding [v] (truthy v)):=by intro _; rfl):PT X e (ttM K QX E (mTst M)):=PT.imp (je7 h he) (lift_tst fun _ _ _ z=>z)
def mNot (M:MT):MT:=fun sl O Q=>M sl O fun c O1=>Q (!c) O1
theorem mt_not {a:Expr} {M:MT} {pos:Pos} (h:PT X a (ttM K QX E M)):PT X (.UnaryOp .Not a pos) (ttM K QX E (mNot M)):=PT.imp (je8 h) fun σ H Q ⟨w,O,sl,Q0,c,m,q⟩=>⟨w,O,sl,_,c,m,fun x O1 w1 H1 h1 e1 r1=>q _ O1 w1 H1 h1 e1 r1⟩
def mAndT (M N:MT):MT:=fun sl O Q=>M sl O fun c O1=>(c=true→N sl O1 Q)∧(c=false→Q false O1)
def mOrT (M N:MT):MT:=fun sl O Q=>M sl O fun c O1=>(c=true→Q true O1)∧(c=false→N sl O1 Q)
theorem mw_and1 {a:Expr} {M:MT} {pos:Pos} (h:PT X a (ttM K QX E M)):PW X (.BoolOp .And [a] pos) (ttM K QX E M):=pw_and1 h
theorem mw_or1 {a:Expr} {M:MT} {pos:Pos} (h:PT X a (ttM K QX E M)):PW X (.BoolOp .Or [a] pos) (ttM K QX E M):=jg7 h
theorem mw_and {a b:Expr} {rest:List Expr} {M N:MT} {pos:Pos} (ha:PT X a (ttM K QX E M)) (hb:PW X (.BoolOp .And (b :: rest) pos) (ttM K QX E N)):PW X (.BoolOp .And (a :: b :: rest) pos) (ttM K QX E (mAndT M N)):=PW.imp (pw_and ha hb) fun σ H Q ⟨w,O,sl,Q0,c,m,q⟩=>⟨w,O,sl,_,c,m,fun x O1 w1 H1 h1 e1 r1=>by
 cases x with
 | true=>exact iteT ⟨w1,O1,sl,_,c.ex e1.ex r1,h1.1 rfl,fun y O2 w2 H2 h2 e2 r2=>q _ O2 w2 H2 h2 (e1.trans e2) r2⟩
 | false=>exact iteF (q _ O1 w1 H1 (h1.2 rfl) e1 r1)⟩
theorem mw_or {a b:Expr} {rest:List Expr} {M N:MT} {pos:Pos} (ha:PT X a (ttM K QX E M)) (hb:PW X (.BoolOp .Or (b :: rest) pos) (ttM K QX E N)):PW X (.BoolOp .Or (a :: b :: rest) pos) (ttM K QX E (mOrT M N)):=PW.imp (pw_or ha hb) fun σ H Q ⟨w,O,sl,Q0,c,m,q⟩=>⟨w,O,sl,_,c,m,fun x O1 w1 H1 h1 e1 r1=>by
 cases x with
 | true=>exact iteT (q _ O1 w1 H1 (h1.1 rfl) e1 r1)
 | false=>exact iteF ⟨w1,O1,sl,_,c.ex e1.ex r1,h1.2 rfl,fun y O2 w2 H2 h2 e2 r2=>q _ O2 w2 H2 h2 (e1.trans e2) r2⟩⟩
end
section
variable {K:PySem.W.Frag} {X:Cx}
theorem g_le {w:Wd} {O:Sto} {H:Hp}:Stay (G w O H) H:=fun a o h=>(G_in h).1
def int2 (C:Int→Int→Prop) (g:Int→Int→PyData):MF2:=fun O x y P=>match x,y with
 | .im (.int i),.im (.int j)=>C i j∧P (.im (g i j)) O
 | _,_=>False
def int20 (g:Int→Int→PyData):MF2:=fun O x y P=>match x,y with
 | .im (.int i),.im (.int j)=>P (.im (g i j)) O
 | _,_=>False
theorem lk_int2 {C:Int→Int→Prop} {g:Int→Int→V} {f:Int→Int→PyData} (hg:∀ i j h,TrG h (g i j) (f i j)):Lk2 K (rI C g) (int2 C f):=fun w O H v u x y P Q r a b hf q=>by
 unfold int2 at hf
 split at hf
 ·exact ⟨_,_,jg2 a,jg2 b,hf.1,q _ _ O w H hf.2 (Ext.refl _ _ _) r (hg _ _ _)⟩
 ·exact hf.elim
theorem lk_int20 {g:Int→Int→V} {f:Int→Int→PyData} (hg:∀ i j h,TrG h (g i j) (f i j)):Lk2 K (rI0 g) (int20 f):=fun w O H v u x y P Q r a b hf q=>by
 unfold int20 at hf
 split at hf
 ·exact ⟨_,_,jg2 a,jg2 b,q _ _ O w H hf (Ext.refl _ _ _) r (hg _ _ _)⟩
 ·exact hf.elim
def addF:MF2:=fun O x y P=>match x,y with
 | .im (.int i),.im (.int j)=>P (.im (.int (i + j))) O
 | .im (.tuple xs),.im (.tuple ys)=>xs.length + ys.length ≤ sizeLine∧P (.im (.tuple (xs ++ ys))) O
 | .im (.list xs),.im (.list ys)=>xs.length + ys.length ≤ sizeLine∧P (.im (.list (xs ++ ys))) O
 | _,_=>False
theorem lk_add:Lk2 K (fun x y H Q=>rI0 (fun i j=>.int (i + j)) x y H Q ∨ (rCatA x y H Q ∨ rCat x y H Q)) addF:=fun w O H v u x y P Q r a b hf q=>by
 unfold addF at hf
 split at hf
 ·exact .inl ⟨_,_,jg2 a,jg2 b,q _ _ O w H hf (Ext.refl _ _ _) r (.int _)⟩
 ·obtain ⟨p1,us,rfl,h1,t1⟩:=g_tup a
  obtain ⟨p2,vs,rfl,h2,t2⟩:=g_tup b
  refine .inr (.inl ⟨p1,p2,us,vs,rfl,rfl,h1,h2,by rw [t1.len,t2.len]; exact hf.1,fun p H' s hp=>?_⟩)
  obtain ⟨r1,e1,t⟩:=grown_tup r s hp (t1.app t2)
  exact q _ _ O w H' hf.2 e1 r1 t
 ·obtain ⟨p1,us,rfl,h1,t1⟩:=g_lst a
  obtain ⟨p2,vs,rfl,h2,t2⟩:=g_lst b
  refine .inr (.inr ⟨p1,p2,us,vs,rfl,rfl,h1,h2,by rw [t1.len,t2.len]; exact hf.1,fun p hp=>?_⟩)
  obtain ⟨r1,e1,t⟩:=new_lst r hp (t1.app t2)
  exact q _ _ O w _ hf.2 e1 r1 t
 ·exact hf.elim
theorem jd8 {QX:Addr→Sto→Prop} {E:XK} {Ma Mb:ME} {a b:Expr} {pos:Pos} (ha:PE X a (teM K QX E Ma)) (hb:PE X b (teM K QX E Mb)):PE X (.BinOp a .Add b pos) (teM K QX E (mOp addF Ma Mb)):=me_op (op_add.or (op_catA.or op_cat)) lk_add ha hb
abbrev subF:MF2:=int20 fun i j=>.int (i - j)
theorem mo_sub {QX:Addr→Sto→Prop} {E:XK} {Ma Mb:ME} {a b:Expr} {pos:Pos} (ha:PE X a (teM K QX E Ma)) (hb:PE X b (teM K QX E Mb)):PE X (.BinOp a .Sub b pos) (teM K QX E (mOp subF Ma Mb)):=me_op op_sub (lk_int20 fun _ _ _=>.int _) ha hb
abbrev mulF:MF2:=int2 (fun i j=>Bd 8000 i∧Bd 8000 j) fun i j=>.int (i * j)
theorem mo_mul {QX:Addr→Sto→Prop} {E:XK} {Ma Mb:ME} {a b:Expr} {pos:Pos} (ha:PE X a (teM K QX E Ma)) (hb:PE X b (teM K QX E Mb)):PE X (.BinOp a .Mult b pos) (teM K QX E (mOp mulF Ma Mb)):=me_op jd3 (lk_int2 fun _ _ _=>.int _) ha hb
def repO:MF2:=fun O x y P=>match x,y with
 | .im (.list xs),.im (.int k)=>0 ≤ k∧k < 2 ^ 62∧xs.length * k.toNat ≤ sizeLine∧P (.own O.length) (O ++ [some ((List.replicate k.toNat xs).flatten.map .im)])
 | _,_=>False
theorem trgs_rep {g:Hp} {xs:List V} {ds:List PyData} (h:TrGs g xs ds):∀ m:Nat,TrGs g (List.replicate m xs).flatten (List.replicate m ds).flatten
 | 0=>.nil
 | m + 1=>by
  rw [List.replicate_succ,List.replicate_succ,List.flatten_cons,List.flatten_cons]
  exact h.app (trgs_rep h m)
theorem lk_repO:Lk2 K rRep repO:=fun w O H v u x y P Q r a b hf q=>by
 unfold repO at hf
 split at hf
 ·obtain ⟨p1,us,rfl,h1,t1⟩:=g_lst a
  rw [jg2 b]
  refine ⟨p1,_,us,rfl,rfl,h1,by omega,by omega,by rw [t1.len]; exact hf.2.2.1,fun p hp=>?_⟩
  obtain ⟨r1,e1,t⟩:=r.own hp (TrGs.avs (trgs_rep t1 _))
  exact q _ _ _ _ _ hf.2.2.2 e1 r1 ⟨p,t,rfl⟩
 ·exact hf.elim
theorem mo_repO {QX:Addr→Sto→Prop} {E:XK} {Ma Mb:ME} {a b:Expr} {pos:Pos} (ha:PE X a (teM K QX E Ma)) (hb:PE X b (teM K QX E Mb)):PE X (.BinOp a .Mult b pos) (teM K QX E (mOp repO Ma Mb)):=me_op op_rep lk_repO ha hb
abbrev gtF:MF2:=int20 fun i j=>.bool (decide (j < i))
theorem lk_gt:Lk2 K (rI0 fun i j=>.bl (decide (j < i))) gtF:=lk_int20 fun _ _ _=>.bl _
def eqq:PyData→PyData→Bool
 | .int i,.int j=>decide (i=j)
 | d,e=>PyData.eqv d e
theorem eqq_eq (d e:PyData):eqq d e=PyData.eqv d e:=by
 cases d <;> cases e <;> first | rfl | (show decide _=_; rw [PyData.eqv]; rfl)
def eqF (neg:Bool):MF2:=fun O x y P=>match x,y with
 | .im d,.im e=>min d.depth e.depth ≤ 60∧P (.im (.bool (if neg then !eqq d e else eqq d e))) O
 | _,_=>False
theorem lk_eq:Lk2 K (rEqD K0) (eqF false):=fun w O H v u x y P Q r a b hf q=>by
 unfold eqF at hf
 split at hf
 ·refine ⟨_,_,(TrG.stay g_le a).dt,(TrG.stay g_le b).dt,hf.1,?_⟩
  rw [← eqq_eq]
  exact q _ _ O w H hf.2 (Ext.refl _ _ _) r (.bl _)
 ·exact hf.elim
theorem lk_ne:Lk2 K (rNeD K0) (eqF true):=fun w O H v u x y P Q r a b hf q=>by
 unfold eqF at hf
 split at hf
 ·refine ⟨_,_,(TrG.stay g_le a).dt,(TrG.stay g_le b).dt,hf.1,?_⟩
  rw [← eqq_eq]
  exact q _ _ O w H hf.2 (Ext.refl _ _ _) r (.bl _)
 ·exact hf.elim
theorem or_eq (hu:X.A.units + 64 < cLine):OpR X (compareOp .Eq) (rEqD K0):=opEqD0 hu
theorem or_ne (hu:X.A.units + 64 < cLine):OpR X (compareOp .NotEq) (rNeD K0):=opNeD0 hu
def inF (neg:Bool):MF2:=fun O x y P=>match x,y with
 | .im (.int i),.im (.list ds)=>∃ ns:List Int,ds=ns.map .int∧P (.im (.bool (if neg then !ns.contains i else ns.contains i))) O
 | .im (.int i),.im (.tuple ds)=>∃ ns:List Int,ds=ns.map .int∧P (.im (.bool (if neg then !ns.contains i else ns.contains i))) O
 | _,_=>False
theorem flat_ints (ns:List Int):(ns.map V.int).all flatV=true:=by
 rw [Zy]; exact Zt.mpr fun _ _=>rfl
theorem lk_in (neg:Bool):Lk2 K (rIn K0 neg) (inF neg):=fun w O H v u x y P Q r a b hf q=>by
 unfold inF at hf
 split at hf
 ·obtain ⟨ns,rfl,h⟩:=hf
  obtain ⟨p1,us,rfl,h1,t1⟩:=g_lst b
  rw [g_ints t1] at h1
  refine ⟨p1,_,rfl,.inl (SqL.of h1),by rw [jg2 a]; rfl,flat_ints ns,?_⟩
  rw [jg2 a,in_ints]
  exact q _ _ O w H h (Ext.refl _ _ _) r (.bl _)
 ·obtain ⟨ns,rfl,h⟩:=hf
  obtain ⟨p1,us,rfl,h1,t1⟩:=g_tup b
  rw [g_ints t1] at h1
  refine ⟨p1,_,rfl,.inr (SqT.of h1),by rw [jg2 a]; rfl,flat_ints ns,?_⟩
  rw [jg2 a,in_ints]
  exact q _ _ O w H h (Ext.refl _ _ _) r (.bl _)
 ·exact hf.elim
def notBF:MF2:=fun O x y P=>match x,y with
 | .im (.bool c),.im (.bool d)=>P (.im (.bool (c != d))) O
 | _,_=>False
theorem lk_notB:Lk2 K (fun x y H Q=>∃ c d:Bool,x=.bl c∧y=.bl d∧Q (.bl (c != d)) H) notBF:=fun w O H v u x y P Q r a b hf q=>by
 unfold notBF at hf
 split at hf
 ·exact ⟨_,_,g_bl a,g_bl b,q _ _ O w H hf (Ext.refl _ _ _) r (.bl _)⟩
 ·exact hf.elim
def ixF:MF2:=fun O x y P=>match x,y with
 | .im (.list ds),.im (.int i)=>∃ d,atI ds i=some d∧P (.im d) O
 | .im (.tuple ds),.im (.int i)=>∃ d,atI ds i=some d∧P (.im d) O
 | .own k,.im (.int i)=>∃ c z,O[k]?=some (some c)∧atI c i=some z∧P z O
 | _,_=>False
theorem atI_tr {g:Hp} {xs:List V} {ds:List PyData} {i:Int} {d:PyData} (t:TrGs g xs ds) (h:atI ds i=some d):∃ v,atI xs i=some v∧TrG g v d:=by
 unfold atI at h ⊢
 rw [t.len]
 cases hj:ixN ds.length i with
 | none=>rw [hj] at h; cases h
 | some j =>
  rw [hj] at h
  exact t.get h
theorem atI_av {w:Wd} {g:Hp} {xs:List V} {ds:List AV} {i:Int} {d:AV} (t:AVrs K w g xs ds) (h:atI ds i=some d):∃ v,atI xs i=some v∧AVr K w g v d:=by
 unfold atI at h ⊢
 rw [t.1]
 cases hj:ixN ds.length i with
 | none=>rw [hj] at h; cases h
 | some j =>
  rw [hj] at h
  exact t.at h
theorem lk_ix:Lk2 K (fun x y H Q=>rIxL K0 x y H Q ∨ rIxT K0 x y H Q) ixF:=fun w O H v u x y P Q r a b hf q=>by
 unfold ixF at hf
 split at hf
 ·obtain ⟨d,hd,hf⟩:=hf
  obtain ⟨p1,us,rfl,h1,t1⟩:=g_lst a
  obtain ⟨z,hz,tz⟩:=atI_tr t1 hd
  exact .inl ⟨p1,us,_,z,rfl,jg2 b,SqL.of h1,hz,q _ _ O w H hf (Ext.refl _ _ _) r tz⟩
 ·obtain ⟨d,hd,hf⟩:=hf
  obtain ⟨p1,us,rfl,h1,t1⟩:=g_tup a
  obtain ⟨z,hz,tz⟩:=atI_tr t1 hd
  exact .inr ⟨p1,us,_,z,rfl,jg2 b,SqT.of h1,hz,q _ _ O w H hf (Ext.refl _ _ _) r tz⟩
 ·obtain ⟨c,d,hc,hd,hf⟩:=hf
  obtain ⟨p1,us,h0,h1,t1⟩:=r.cel _ _ hc
  obtain ⟨p2,e1,rfl⟩:=a
  rw [h0] at e1
  cases Option.some.inj e1
  obtain ⟨z,hz,tz⟩:=atI_av t1 hd
  exact .inl ⟨p1,us,_,z,rfl,jg2 b,SqL.of h1,hz,q _ _ O w H hf (Ext.refl _ _ _) r tz⟩
 ·exact hf.elim
theorem jd2 {QX:Addr→Sto→Prop} {E:XK} {Ma Mb:ME} {a b:Expr} {pos:Pos} (ha:PE X a (teM K QX E Ma)) (hb:PE X b (teM K QX E Mb)) (hs:PlainIx b:=by exact fun _ _=>rfl):PE X (.Subscript a b pos) (teM K QX E (mOp ixF Ma Mb)):=me_ix (ixL0.or ixT0) lk_ix ha hb hs
abbrev MO:=Slt→Sto→(Option Int→Sto→Prop)→Prop
def toM (K:PySem.W.Frag) (QX:Addr→Sto→Prop) (E:XK) (M:MO):TO:=fun σ H Q=>∃ w O sl Q0,Cfg K QX E w O H σ sl∧M sl O Q0∧∀ c O' w' H',Q0 c O'→Ext w O H w' O' H'→RelO K w' O' H'→Q c H'
def mNoP:MO:=fun _ O Q=>Q none O
def mSoP (M:ME):MO:=fun sl O Q=>M sl O fun x O1=>match x with
 | .im (.int i)=>Q (some i) O1
 | _=>False
theorem PO.imp {e:Option Expr} {t t':TO} (h:PO X e t) (i:∀ σ H Q,t' σ H Q→t σ H Q):PO X e t':=fun pins s σ H Q I q=>h pins s σ H Q I (i σ H Q q)
theorem jj3 {QX:Addr→Sto→Prop} {E:XK}:PO X none (toM K QX E mNoP):=PO.imp po_none fun σ H Q ⟨w,O,sl,Q0,c,m,q⟩=>q none O w H m (Ext.refl _ _ _) c.ro
theorem jj2 {QX:Addr→Sto→Prop} {E:XK} {e:Expr} {M:ME} (h:PE X e (teM K QX E M)):PO X (some e) (toM K QX E (mSoP M)):=PO.imp (po_some h) fun σ H Q ⟨w,O,sl,Q0,c,m,q⟩=>⟨w,O,sl,_,c,m,fun x O1 v w1 H1 h1 e1 r1 a1=>by
 split at h1
 ·exact ⟨_,jg2 a1,q _ O1 w1 H1 h1 e1 r1⟩
 ·exact h1.elim⟩
def cutD (xs:List PyData) (lo hi:Option Int):List PyData:=(xs.drop (HT.sIx xs.length 0 lo)).take (HT.sIx xs.length xs.length hi - HT.sIx xs.length 0 lo)
def slF (O:Sto) (x:AV) (lo hi:Option Int) (P:AV→Sto→Prop):Prop:=match x with
 | .im (.tuple ds)=>P (.im (.tuple (cutD ds lo hi))) O
 | .im (.list ds)=>P (.im (.list (cutD ds lo hi))) O
 | _=>False
def mSl (M:ME) (L U:MO):ME:=fun sl O Q=>M sl O fun x O1=>L sl O1 fun l O2=>U sl O2 fun u O3=>slF O3 x l u Q
theorem cut_tr {g:Hp} {xs:List V} {ds:List PyData} {lo hi:Option Int} (t:TrGs g xs ds):TrGs g (cutV xs lo hi) (cutD ds lo hi):=by
 unfold cutV cutD
 rw [t.len]
 exact (t.drop _).take _
theorem jg6 {QX:Addr→Sto→Prop} {E:XK} {M:ME} {L U:MO} {e:Expr} {lo hi:Option Expr} {p2 pos:Pos} (he:PE X e (teM K QX E M)) (hl:PO X lo (toM K QX E L)) (hu:PO X hi (toM K QX E U)):PE X (.Subscript e (.Slice lo hi none p2) pos) (teM K QX E (mSl M L U)) :=
 PE.imp (pe_slice (sl_tupA.or slL0) he hl hu) fun σ H Q ⟨w,O,sl,Q0,c,m,q⟩=>⟨w,O,sl,_,c,m,fun x O1 v w1 H1 h1 e1 r1 a1=>⟨w1,O1,sl,_,c.ex e1.ex r1,h1,fun l O2 w2 H2 h2 e2 r2=>⟨w2,O2,sl,_,(c.ex e1.ex r1).ex e2.ex r2,h2,fun u O3 w3 H3 h3 e3 r3=>by
  have a3:=(a1.ex e2.ex).ex e3.ex
  have e13:=(e1.trans e2).trans e3
  unfold slF at h3
  split at h3
  ·obtain ⟨p1,us,rfl,g1,t1⟩:=g_tup a3
   refine .inl ⟨p1,us,rfl,g1,fun p H' s hp=>?_⟩
   obtain ⟨r4,e4,t4⟩:=grown_tup r3 s hp (cut_tr t1)
   exact q _ O3 _ w3 H' h3 (e13.trans e4) r4 t4
  ·obtain ⟨p1,us,rfl,g1,t1⟩:=g_lst a3
   refine .inr ⟨p1,us,rfl,SqL.of g1,fun p hp=>?_⟩
   obtain ⟨r4,e4,t4⟩:=new_lst r3 hp (cut_tr t1)
   exact q _ O3 _ w3 _ h3 (e13.trans e4) r4 t4
  ·exact h3.elim⟩⟩⟩
def lenF:MFC:=fun O xs P=>match xs with
 | [.im (.list ds)]=>P (.im (.int ds.length)) O
 | [.im (.tuple ds)]=>P (.im (.int ds.length)) O
 | [.own k]=>∃ c,O[k]?=some (some c)∧P (.im (.int c.length)) O
 | _=>False
theorem lk_len:LkC K rLen0 lenF:=fun w O H vs xs P Q r a hf q=>by
 unfold lenF at hf
 split at hf
 ·obtain ⟨v,us,rfl,h1,h2⟩:=a.uncons
  rw [h2.unnil]
  obtain ⟨p1,us',rfl,g1,t1⟩:=g_lst h1
  exact ⟨p1,us',rfl,.inl (SqL.of g1),by rw [t1.len]; exact q _ _ O w H hf (Ext.refl _ _ _) r (.int _)⟩
 ·obtain ⟨v,us,rfl,h1,h2⟩:=a.uncons
  rw [h2.unnil]
  obtain ⟨p1,us',rfl,g1,t1⟩:=g_tup h1
  exact ⟨p1,us',rfl,.inr (SqT.of g1),by rw [t1.len]; exact q _ _ O w H hf (Ext.refl _ _ _) r (.int _)⟩
 ·obtain ⟨c,hc,hf⟩:=hf
  obtain ⟨v,us,rfl,h1,h2⟩:=a.uncons
  rw [h2.unnil]
  obtain ⟨p2,e1,rfl⟩:=h1
  obtain ⟨p1,us',h0,g1,t1⟩:=r.cel _ _ hc
  rw [h0] at e1
  cases Option.some.inj e1
  exact ⟨_,us',rfl,.inl (SqL.of g1),by rw [t1.1]; exact q _ _ O w H hf (Ext.refl _ _ _) r (.int _)⟩
 ·exact hf.elim
def lenSF:MFC:=fun O xs P=>match xs with
 | [.scr ns]=>P (.im (.int ns.length)) O
 | _=>False
def rLenS (K:PySem.W.Frag):List V→Hp→VK→Prop:=fun xs H Q=>∃ p ys,xs=[.ref p]∧(SqL K H p ys ∨ SqT K H p ys)∧Q (.int ys.length) H
theorem lk_lenS:LkC K (rLenS K) lenSF:=fun w O H vs xs P Q r a hf q=>by
 unfold lenSF at hf
 split at hf
 ·obtain ⟨v,us,rfl,h1,h2⟩:=a.uncons
  rw [h2.unnil]
  obtain ⟨p1,rfl,g1⟩:=h1
  exact ⟨p1,_,rfl,.inl (KG.SqL.stay g1 g_le),by rw [Zb]; exact q _ _ O w H hf (Ext.refl _ _ _) r (.int _)⟩
 ·exact hf.elim
def int2C (g:Int→Int→Int):MFC:=fun O xs P=>match xs with
 | [.im (.int i),.im (.int j)]=>P (.im (.int (g i j))) O
 | _=>False
theorem lk_max2:LkC K (fun xs H Q=>∃ i j,xs=[.int i,.int j]∧Q (.int (if j > i then j else i)) H) (int2C fun i j=>if j > i then j else i):=fun w O H vs xs P Q r a hf q=>by
 unfold int2C at hf
 split at hf
 ·obtain ⟨v,us,rfl,h1,h2⟩:=a.uncons
  obtain ⟨v2,us2,rfl,h3,h4⟩:=h2.uncons
  rw [h4.unnil,jg2 h1,jg2 h3]
  exact ⟨_,_,rfl,q _ _ O w H hf (Ext.refl _ _ _) r (.int _)⟩
 ·exact hf.elim
theorem lk_min2:LkC K (fun xs H Q=>∃ i j,xs=[.int i,.int j]∧Q (.int (if j < i then j else i)) H) (int2C fun i j=>if j < i then j else i):=fun w O H vs xs P Q r a hf q=>by
 unfold int2C at hf
 split at hf
 ·obtain ⟨v,us,rfl,h1,h2⟩:=a.uncons
  obtain ⟨v2,us2,rfl,h3,h4⟩:=h2.uncons
  rw [h4.unnil,jg2 h1,jg2 h3]
  exact ⟨_,_,rfl,q _ _ O w H hf (Ext.refl _ _ _) r (.int _)⟩
 ·exact hf.elim
def intF:MFC:=fun O xs P=>match xs with
 | [.im (.int i)]=>P (.im (.int i)) O
 | [.im (.bool c)]=>P (.im (.int (if c then 1 else 0))) O
 | _=>False
theorem lk_intF:LkC K (fun xs H Q=>(∃ i,xs=[.int i]∧Q (.int i) H) ∨ ∃ k,xs=[.bl k]∧Q (.int (if k then 1 else 0)) H) intF:=fun w O H vs xs P Q r a hf q=>by
 unfold intF at hf
 split at hf
 ·obtain ⟨v,us,rfl,h1,h2⟩:=a.uncons
  rw [h2.unnil,jg2 h1]
  exact .inl ⟨_,rfl,q _ _ O w H hf (Ext.refl _ _ _) r (.int _)⟩
 ·obtain ⟨v,us,rfl,h1,h2⟩:=a.uncons
  rw [h2.unnil,g_bl h1]
  exact .inr ⟨_,rfl,q _ _ O w H hf (Ext.refl _ _ _) r (.int _)⟩
 ·exact hf.elim
def seqD:AV→Option (List PyData)
 | .im (.list ds)=>some ds
 | .im (.tuple ds)=>some ds
 | _=>none
theorem seqD_sq {w:Wd} {O:Sto} {H:Hp} {v:V} {x:AV} {ds:List PyData} (h:seqD x=some ds) (a:AVr K w (G w O H) v x):∃ p us,v=.ref p∧(SqL K0 H p us ∨ SqT K0 H p us)∧TrGs (G w O H) us ds:=by
 unfold seqD at h
 split at h
 ·cases h
  obtain ⟨p,us,rfl,g1,t1⟩:=g_lst a
  exact ⟨p,us,rfl,.inl (SqL.of g1),t1⟩
 ·cases h
  obtain ⟨p,us,rfl,g1,t1⟩:=g_tup a
  exact ⟨p,us,rfl,.inr (SqT.of g1),t1⟩
 ·cases h
def seq1 (f:List PyData→(PyData→Prop)→Prop):MFC:=fun O xs P=>match xs with
 | [x]=>match seqD x with
  | some ds=>f ds fun d=>P (.im d) O
  | none=>False
 | _=>False
def sumF:MFC:=seq1 fun ds P=>∃ ns:List Int,ds=ns.map .int∧P (.int ns.sum)
theorem lk_sum:LkC K rSum0 sumF:=fun w O H vs xs P Q r a hf q=>by
 unfold sumF seq1 at hf
 split at hf
 ·split at hf
  ·rename_i ds hd
   obtain ⟨v,us,rfl,h1,h2⟩:=a.uncons
   rw [h2.unnil]
   obtain ⟨p,us',rfl,hs,t1⟩:=seqD_sq hd h1
   obtain ⟨ns,rfl,h⟩:=hf
   rw [g_ints t1] at hs
   exact ⟨p,ns,rfl,hs,q _ _ O w H h (Ext.refl _ _ _) r (.int _)⟩
  ·exact hf.elim
 ·exact hf.elim
def tupF:MFC:=fun O xs P=>match xs with
 | [.own k]=>∃ ds:List PyData,O[k]?=some (some (ds.map .im))∧P (.im (.tuple ds)) O
 | [x]=>match seqD x with
  | some ds=>P (.im (.tuple ds)) O
  | none=>False
 | _=>False
theorem jj6:LkC K rTup0 tupF:=fun w O H vs xs P Q r a hf q=>by
 unfold tupF at hf
 split at hf
 ·obtain ⟨ds,hc,hf⟩:=hf
  obtain ⟨v,us,rfl,h1,h2⟩:=a.uncons
  rw [h2.unnil]
  obtain ⟨p2,e1,rfl⟩:=h1
  obtain ⟨p1,us',h0,g1,t1⟩:=r.cel _ _ hc
  rw [h0] at e1
  cases Option.some.inj e1
  refine ⟨_,us',rfl,.inl ⟨SqL.of g1,fun l hl=>?_⟩⟩
  obtain ⟨r1,e1,t2⟩:=new_tup r hl (AVrs.tr t1)
  exact q _ _ O w _ hf e1 r1 t2
 ·rename_i x _
  split at hf
  ·rename_i ds hd
   obtain ⟨v,us,rfl,h1,h2⟩:=a.uncons
   rw [h2.unnil]
   unfold seqD at hd
   split at hd
   ·cases hd
    obtain ⟨p,us',rfl,g1,t1⟩:=g_lst h1
    refine ⟨p,us',rfl,.inl ⟨SqL.of g1,fun l hl=>?_⟩⟩
    obtain ⟨r1,e1,t2⟩:=new_tup r hl t1
    exact q _ _ O w _ hf e1 r1 t2
   ·cases hd
    obtain ⟨p,us',rfl,g1,t1⟩:=g_tup h1
    exact ⟨p,us',rfl,.inr ⟨SqT.of g1,q _ _ O w _ hf (Ext.refl _ _ _) r h1⟩⟩
   ·cases hd
  ·exact hf.elim
 ·exact hf.elim
def lstF:MFC:=seq1 fun ds P=>P (.list ds)
theorem lk_lst:LkC K rLst0 lstF:=fun w O H vs xs P Q r a hf q=>by
 unfold lstF seq1 at hf
 split at hf
 ·split at hf
  ·rename_i ds hd
   obtain ⟨v,us,rfl,h1,h2⟩:=a.uncons
   rw [h2.unnil]
   obtain ⟨p,us',rfl,hs,t1⟩:=seqD_sq hd h1
   refine ⟨p,us',rfl,hs,fun l hl=>?_⟩
   obtain ⟨r1,e1,t2⟩:=new_lst r hl t1
   exact q _ _ O w _ hf e1 r1 t2
  ·exact hf.elim
 ·exact hf.elim
def lstO:MFC:=fun O xs P=>match xs with
 | [x]=>match seqD x with
  | some ds=>P (.own O.length) (O ++ [some (ds.map .im)])
  | none=>False
 | _=>False
theorem lk_lstO:LkC K rLst0 lstO:=fun w O H vs xs P Q r a hf q=>by
 unfold lstO at hf
 split at hf
 ·split at hf
  ·rename_i ds hd
   obtain ⟨v,us,rfl,h1,h2⟩:=a.uncons
   rw [h2.unnil]
   obtain ⟨p,us',rfl,hs,t1⟩:=seqD_sq hd h1
   refine ⟨p,us',rfl,hs,fun l hl=>?_⟩
   obtain ⟨r1,e1,t2⟩:=r.own hl (TrGs.avs t1)
   exact q _ _ _ _ _ hf e1 r1 ⟨l,t2,rfl⟩
  ·exact hf.elim
 ·exact hf.elim
theorem tyG {w:Wd} {O:Sto} {H:Hp} {v:V} {d:PyData} (h:TrG (G w O H) v d):TyOf K H v (.type (tyD d)):=by
 cases h with
 | non=>exact .non
 | bl c=>exact .bl c
 | int i=>exact .int i
 | str x _=>exact .str x
 | lst h1 _=>exact .lst (G_in h1).1
 | tup h1 _=>exact .tup (G_in h1).1
def mIsi (f:PyData→Bool) (M:ME):ME:=fun sl O Q=>M sl O fun x O1=>match x with
 | .im d=>Q (.im (.bool (f d))) O1
 | _=>False
theorem lift_isi {f:PyData→Bool} {c:Value} {M:ME} {QX:Addr→Sto→Prop} {E:XK} (hk:∀ d,(∀ kvs,d ≠ .dict kvs)→PySem.W.kitOne K (.type (tyD d)) c=some (f d)):∀ σ H Q,teM K QX E (mIsi f M) σ H Q→tIsi K c (teM K QX E M) σ H Q:=fun σ H Q ⟨w,O,sl,Q0,c',m,q⟩=>⟨w,O,sl,_,c',m,fun x O1 v w1 H1 h1 e1 r1 a1=>by
 split at h1
 ·rename_i d
  exact ⟨_,f d,tyG a1,hk d (fun kvs z=>by subst z; cases a1),q _ O1 _ w1 H1 h1 e1 r1 (.bl _)⟩
 ·exact h1.elim⟩
end
section
variable {K:PySem.W.Frag} {QX:Addr→Sto→Prop} {E:XK} {X:Cx} {w:Wd} {O:Sto} {H:Hp}
structure Go (M:MS) (D:MEnds) (sl:Slt) (O:Sto):Prop where
 go:M D sl O
def mSeq (M N:MS):MS:=fun D sl O=>M { D with nx:=fun sl' O'=>Go N D sl' O' } sl O
def mNext:MS:=fun D sl O=>D.nx sl O
theorem ms_nil:PSs X [] (tsM K QX E mNext):=PSs.imp jc6 fun D σ H ⟨w,O,sl,D0,c,m,hn,hb,hc,hr⟩=>hn sl O w H σ m c (Ext.refl _ _ _)
theorem jb6 {st:Stmt} {rest:List Stmt} {M N:MS} (h1:PS X st (tsM K QX E M)) (h2:PSs X rest (tsM K QX E N)):PSs X (st :: rest) (tsM K QX E (mSeq M N)):=PSs.imp (ja9 h1 h2) fun D σ H ⟨w,O,sl,D0,c,m,hn,hb,hc,hr⟩ =>
 ⟨w,O,sl,_,c,m,fun sl1 O1 w1 H1 σ1 h1 c1 e1=>⟨w1,O1,sl1,D0,c1,h1.go,fun sl2 O2 w2 H2 σ2 h2 c2 e2=>hn sl2 O2 w2 H2 σ2 h2 c2 (e1.trans e2),fun sl2 O2 w2 H2 σ2 h2 c2 e2=>hb sl2 O2 w2 H2 σ2 h2 c2 (e1.trans e2),fun sl2 O2 w2 H2 σ2 h2 c2 e2=>hc sl2 O2 w2 H2 σ2 h2 c2 (e1.trans e2),fun x O2 w2 H2 v h2 e2 r2 a2=>hr x O2 w2 H2 v h2 (e1.trans e2) r2 a2⟩,hb,hc,hr⟩
theorem je9 {st:Stmt} {M:MS} (h1:PS X st (tsM K QX E M)):PSs X [st] (tsM K QX E M):=ja7 h1
def mDrop (M:ME):MS:=fun D sl O=>M sl O fun _ O1=>D.nx sl O1
theorem ms_expr {e:Expr} {M:ME} {pos:Pos} (he:PE X e (teM K QX E M)) (hs:swapsWith e none pos.line X.env=pure false:=by rfl):PS X (.Expr e pos) (tsM K QX E (mDrop M)):=PS.imp (ps_expr he hs) fun D σ H ⟨w,O,sl,D0,c,m,hn,hb,hc,hr⟩=>⟨w,O,sl,_,c,m,fun x O1 v w1 H1 h1 e1 r1 a1=>hn sl O1 w1 H1 σ h1 (c.ex e1.ex r1) e1⟩
def mRet (M:ME):MS:=fun D sl O=>M sl O D.rt
theorem ji1 {e:Expr} {M:ME} {pos:Pos} (he:PE X e (teM K QX E M)):PS X (.Return (some e) pos) (tsM K QX E (mRet M)):=PS.imp (jb7 he) fun D σ H ⟨w,O,sl,D0,c,m,hn,hb,hc,hr⟩=>⟨w,O,sl,_,c,m,fun x O1 v w1 H1 h1 e1 r1 a1=>hr x O1 w1 H1 v h1 e1 r1 a1⟩
def mIfS (C:MT) (M N:MS):MS:=fun D sl O=>C sl O fun c O1=>(c=true→M D sl O1)∧(c=false→N D sl O1)
theorem ms_if {t:Expr} {a b:List Stmt} {C:MT} {M N:MS} {pos:Pos} (hc:PT X t (ttM K QX E C)) (ha:PSs X a (tsM K QX E M)) (hb:PSs X b (tsM K QX E N)):PS X (.If t a b pos) (tsM K QX E (mIfS C M N)):=PS.imp (jf6 hc ha hb) fun D σ H ⟨w,O,sl,D0,c,m,hn,hb,hc,hr⟩=>⟨w,O,sl,_,c,m,fun x O1 w1 H1 h1 e1 r1=>by
 have z:∀ {M:MS},M D0 sl O1→tsM K QX E M D σ H1:=fun h=>⟨w1,O1,sl,D0,c.ex e1.ex r1,h,fun sl2 O2 w2 H2 σ2 h2 c2 e2=>hn sl2 O2 w2 H2 σ2 h2 c2 (e1.trans e2),fun sl2 O2 w2 H2 σ2 h2 c2 e2=>hb sl2 O2 w2 H2 σ2 h2 c2 (e1.trans e2),fun sl2 O2 w2 H2 σ2 h2 c2 e2=>hc sl2 O2 w2 H2 σ2 h2 c2 (e1.trans e2),fun x O2 w2 H2 v h2 e2 r2 a2=>hr x O2 w2 H2 v h2 (e1.trans e2) r2 a2⟩
 cases x with
 | true=>exact iteT (z (h1.1 rfl))
 | false=>exact iteF (z (h1.2 rfl))⟩
abbrev MG:=AV→Slt→Sto→(Slt→Sto→Prop)→Prop
abbrev MGs:=List AV→Slt→Sto→(Slt→Sto→Prop)→Prop
def tgM (K:PySem.W.Frag) (QX:Addr→Sto→Prop) (E:XK) (mg:MG):TG:=fun v σ H Q=>∃ w O sl x Q0,Cfg K QX E w O H σ sl∧AVr K w (G w O H) v x∧mg x sl O Q0∧∀ sl' O' w' H' σ',Q0 sl' O'→Cfg K QX E w' O' H' σ' sl'→Ext w O H w' O' H'→Q σ' H'
def tgsM (K:PySem.W.Frag) (QX:Addr→Sto→Prop) (E:XK) (mg:MGs):TGs:=fun vs σ H Q=>∃ w O sl xs Q0,Cfg K QX E w O H σ sl∧AVrs K w (G w O H) vs xs∧mg xs sl O Q0∧∀ sl' O' w' H' σ',Q0 sl' O'→Cfg K QX E w' O' H' σ' sl'→Ext w O H w' O' H'→Q σ' H'
theorem PG.imp {tg:Expr} {t t':TG} (h:PG X tg t) (i:∀ v σ H Q,t' v σ H Q→t v σ H Q):PG X tg t':=fun pins s σ H v u Q I r q=>h pins s σ H v u Q I r (i v σ H Q q)
theorem PGs.imp {tg:List Expr} {t t':TGs} (h:PGs X tg t) (i:∀ v σ H Q,t' v σ H Q→t v σ H Q):PGs X tg t':=fun pins s σ H v u Q I r q=>h pins s σ H v u Q I r (i v σ H Q q)
def mgN (i:Nat):MG:=fun x sl O Q=>Q (sl.set i (some x)) O
theorem Cfg.put {σ:St} {sl:Slt} (c:Cfg K QX E w O H σ sl) {v:V} {x:AV} (a:AVr K w (G w O H) v x) (i:Nat):Cfg K QX E w O H (σ.set i (some v)) (sl.set i (some x)):=⟨c.ro,c.so.set a i,c.zx⟩
theorem jc7 {i:Nat} {tg:Expr} (h:PG X tg (gName i)):PG X tg (tgM K QX E (mgN i)):=PG.imp h fun v σ H Q ⟨w,O,sl,x,Q0,c,a,m,q⟩=>q _ O w H _ m (c.put a i) (Ext.refl _ _ _)
def mgNil:MGs:=fun xs sl O Q=>match xs with
 | []=>Q sl O
 | _=>False
def mgCons (t:MG) (u:MGs):MGs:=fun xs sl O Q=>match xs with
 | x :: r=>t x sl O fun sl' O'=>u r sl' O' Q
 | _=>False
theorem mgs_nil:PGs X [] (tgsM K QX E mgNil):=PGs.imp jg5 fun v σ H Q ⟨w,O,sl,x,Q0,c,a,m,q⟩=>by
 unfold mgNil at m
 split at m
 ·exact ⟨a.unnil,q _ O w H _ m c (Ext.refl _ _ _)⟩
 ·exact m.elim
theorem ji5 {e:Expr} {es:List Expr} {t:MG} {u:MGs} (h1:PG X e (tgM K QX E t)) (h2:PGs X es (tgsM K QX E u)) (hs:(assignEach (e :: es) X.env).map (·.2)=assign e X.env :: (assignEach es X.env).map (·.2):=by rfl):PGs X (e :: es) (tgsM K QX E (mgCons t u)):=PGs.imp (jc5 h1 h2 hs) fun v σ H Q ⟨w,O,sl,x,Q0,c,a,m,q⟩=>by
 unfold mgCons at m
 split at m
 ·obtain ⟨v1,us,rfl,a1,a2⟩:=a.uncons
  exact ⟨v1,us,rfl,w,O,sl,_,_,c,a1,m,fun sl1 O1 w1 H1 σ1 h1 c1 e1=>⟨w1,O1,sl1,_,_,c1,a2.ex e1.ex,h1,fun sl2 O2 w2 H2 σ2 h2 c2 e2=>q sl2 O2 w2 H2 σ2 h2 c2 (e1.trans e2)⟩⟩
 ·exact m.elim
def mgT (n:Nat) (t:MGs):MG:=fun x sl O Q=>match seqD x with
 | some ds=>ds.length=n∧t (ds.map .im) sl O Q
 | none=>False
theorem PG.or {tg:Expr} {t t':TG} (h:PG X tg t) (h':PG X tg t'):PG X tg (fun v σ H Q=>t v σ H Q ∨ t' v σ H Q):=fun pins s σ H v u Q I r q=>q.elim (fun z=>h pins s σ H v u Q I r z) fun z=>h' pins s σ H v u Q I r z
theorem mg_tup {es:List Expr} {k:Nat} {t:MGs} {n:Nat} {pos:Pos} (hc:X.calm=true) (h:PGs X es (tgsM K QX E t)) (hn:(assignEach es X.env).length=n:=by rfl) (hst:(assignEach es X.env).findIdx? (·.1)=none:=by rfl):PG X (.Tuple es k pos) (tgM K QX E (mgT n t)) :=
 PG.imp (PG.or (pgTup0 hc h hn hst) (pgLst0 hc h hn hst)) fun v σ H Q ⟨w,O,sl,x,Q0,c,a,m,q⟩=>by
  unfold mgT at m
  split at m
  ·rename_i ds hd
   obtain ⟨m1,m2⟩:=m
   obtain ⟨p,us,rfl,hs,t1⟩:=seqD_sq hd a
   have hl:us.length=n:=by rw [t1.len]; exact m1
   have hq:tgsM K QX E t us σ H Q:=⟨w,O,sl,_,_,c,TrGs.avs t1,m2,q⟩
   rcases hs with hs | hs
   ·exact .inr ⟨p,us,rfl,hs,hl,hq⟩
   ·exact .inl ⟨p,us,rfl,hs,hl,hq⟩
  ·exact m.elim
def mgS (Mo Mi:ME):MG:=fun x sl O Q=>Mo sl O fun o O1=>Mi sl O1 fun i O2=>match o,i with
 | .own k,.im (.int i)=>∃ c j,O2[k]?=some (some c)∧ixN c.length i=some j∧Q sl (O2.set k (some (c.set j x)))
 | _,_=>False
theorem mg_sub {o i:Expr} {Mo Mi:ME} {pos:Pos} (ho:PE X o (teM K QX E Mo)) (hi:PE X i (teM K QX E Mi)) (ha:∀ v,assign (.Subscript o i pos) X.env v=(do
  let ov ← holding [v] (eval o X.env)
  let iv ← holding [v,ov] (eval i X.env)
  standAt pos
  holding [v,ov,iv] (setItem ov iv v)
  release [v,ov,iv] []):=by intro _; rfl):PG X (.Subscript o i pos) (tgM K QX E (mgS Mo Mi)):=PG.imp (pg_sub ho hi set_list ha) fun v σ H Q ⟨w,O,sl,x,Q0,c,a,m,q⟩ =>
 ⟨w,O,sl,_,c,m,fun o' O1 v1 w1 H1 h1 e1 r1 a1=>⟨w1,O1,sl,_,c.ex e1.ex r1,h1,fun i' O2 v2 w2 H2 h2 e2 r2 a2=>by
  split at h2
  ·obtain ⟨c',j,hc',hj,h2⟩:=h2
   have e12:=e1.trans e2
   obtain ⟨p2,e3,rfl⟩:=a1.ex e2.ex
   obtain ⟨p1,us,h0,g1,t1⟩:=r2.cel _ _ hc'
   rw [h0] at e3
   cases Option.some.inj e3
   obtain ⟨r3,e3⟩:=r2.put hc' h0 g1 (t1.set (a.ex e12.ex) j)
   exact ⟨_,us,_,j,rfl,jg2 a2,g1,by rw [t1.1]; exact hj,q sl _ w2 _ σ h2 ((c.ex e12.ex r2).ex e3.ex r3) (e12.trans e3)⟩
  ·exact h2.elim⟩⟩
def mAsg (M:ME) (mg:MG):MS:=fun D sl O=>M sl O fun x O1=>mg x sl O1 D.nx
theorem lift_asg {t:TE} {g:TG} {M:ME} {mg:MG} (ht:∀ σ H Q,teM K QX E M σ H Q→t σ H Q) (hg:∀ v σ H Q,tgM K QX E mg v σ H Q→g v σ H Q):∀ D σ H,tsM K QX E (mAsg M mg) D σ H→tAsg t g D σ H:=fun D σ H ⟨w,O,sl,D0,c,m,hn,hb,hc,hr⟩ =>
 ht σ H _ ⟨w,O,sl,_,c,m,fun x O1 v w1 H1 h1 e1 r1 a1=>hg v σ H1 _ ⟨w1,O1,sl,x,_,c.ex e1.ex r1,a1,h1,fun sl2 O2 w2 H2 σ2 h2 c2 e2=>hn sl2 O2 w2 H2 σ2 h2 c2 (e1.trans e2)⟩⟩
theorem ms_asg {tg e:Expr} {M:ME} {mg:MG} {pos:Pos} (he:PE X e (teM K QX E M)) (hg:PG X tg (tgM K QX E mg)) (hs:swapsWithSole [tg] e pos.line X.env=pure false:=by rfl) (hw:swappedStores [tg] e X.env=pure none:=by rfl) (h1:(assignEach [tg] X.env).map (·.2)=[assign tg X.env]:=by rfl):PS X (.Assign [tg] e pos) (tsM K QX E (mAsg M mg)):=PS.imp (ps_asg he hg hs hw h1) (lift_asg (fun _ _ _ z=>z) fun _ _ _ _ z=>z)
theorem tgM_name {i:Nat}:∀ v σ H Q,tgM K QX E (mgN i) v σ H Q→gName i v σ H Q:=fun v σ H Q ⟨w,O,sl,x,Q0,c,a,m,q⟩=>q _ O w H _ m (c.put a i) (Ext.refl _ _ _)
theorem je4 {i:Nat} {x:Str} {e:Expr} {M:ME} {pos pos':Pos} (hN:X.N.Nodup) (hi:X.N[i]?=some x) (hx:Loc X.env.scope x) (he:PE X e (teM K QX E M)) (hs:swapsWith e (some (.Name x pos')) pos.line X.env=pure false:=by rfl) (hf:X.fn x=true ∨ X.env.scope.names.lookup x=some .local:=by first | exact .inl rfl | exact .inr rfl | assumption) :
  PS X (.Assign [.Name x pos'] e pos) (tsM K QX E (mAsg M (mgN i))):=PS.imp (jd7 hN hi hx he hs hf) (lift_asg (fun _ _ _ z=>z) tgM_name)
def Items (K:PySem.W.Frag) (J:It) (w:Wd) (O:Sto) (H:Hp) (items:List AV):Prop:=∀ O2 w2 H2,Ex0 w O H w2 O2 H2→RelO K w2 O2 H2→∀ i,(∀ x,items[i]?=some x→J.go i H2∧∀ v H3,J.yld i H2 v H3→Ext w2 O2 H2 w2 O2 H3∧RelO K w2 O2 H3∧AVr K w2 (G w2 O2 H3) v x)∧(items.length ≤ i→J.stop i H2)
def tiM (K:PySem.W.Frag) (QX:Addr→Sto→Prop) (E:XK) (M:MA):TI:=fun σ H R=>∃ w O sl Q0,Cfg K QX E w O H σ sl∧M sl O Q0∧∀ items O' w' H' J,Q0 items O'→Ext w O H w' O' H'→RelO K w' O' H'→Items K J w' O' H' items→R J H'
theorem PI.imp {tg iter:Expr} {t t':TI} (h:PI X tg iter t) (i:∀ σ H R,t' σ H R→t σ H R):PI X tg iter t':=fun pins s σ H R I q=>h pins s σ H R I (i σ H R q)
theorem items_lst {a:Addr} {ds:List PyData} (t:TrG (G w O H) (.ref a) (.list ds)):Items K (Itl K0 a) w O H (ds.map .im):=fun O2 w2 H2 e r i=>by
 cases TrG.stay e.stay t with | lst h1 t1=>?_
 rename_i xs
 have hh:=(G_in h1).1
 refine ⟨fun x hx=>?_,fun hl=>⟨xs,SqL.of hh,by rw [Zb] at hl; rw [t1.len]; exact hl⟩⟩
 rw [Zg] at hx
 cases hd:ds[i]? with
 | none=>rw [hd] at hx; cases hx
 | some d =>
  rw [hd] at hx
  cases Option.some.inj hx
  obtain ⟨v,hv,tv⟩:=t1.get hd
  refine ⟨⟨xs,v,SqL.of hh,hv⟩,?_⟩
  rintro v' H3 ⟨rfl,hy⟩
  have:=hy xs (SqL.of hh)
  rw [hv] at this
  cases Option.some.inj this
  exact ⟨Ext.refl _ _ _,r,tv⟩
theorem items_tup {a:Addr} {ds:List PyData} (t:TrG (G w O H) (.ref a) (.tuple ds)):Items K (Itt K0 a) w O H (ds.map .im):=fun O2 w2 H2 e r i=>by
 cases TrG.stay e.stay t with | tup h1 t1=>?_
 rename_i xs
 have hh:=(G_in h1).1
 refine ⟨fun x hx=>?_,fun hl=>⟨xs,SqT.of hh,by rw [Zb] at hl; rw [t1.len]; exact hl⟩⟩
 rw [Zg] at hx
 cases hd:ds[i]? with
 | none=>rw [hd] at hx; cases hx
 | some d =>
  rw [hd] at hx
  cases Option.some.inj hx
  obtain ⟨v,hv,tv⟩:=t1.get hd
  refine ⟨⟨xs,v,SqT.of hh,hv⟩,?_⟩
  rintro v' H3 ⟨rfl,hy⟩
  have:=hy xs (SqT.of hh)
  rw [hv] at this
  cases Option.some.inj this
  exact ⟨Ext.refl _ _ _,r,tv⟩
def miSeq (M:ME):MA:=fun sl O Q=>M sl O fun x O1=>match seqD x with
 | some ds=>Q (ds.map .im) O1
 | none=>False
def iSeq (tl:TE):TI:=fun σ H R=>tl σ H fun x H1=>(∃ a,x=.ref a∧(∃ xs,SqL K0 H1 a xs)∧R (Itl K0 a) H1) ∨ (∃ a,x=.ref a∧(∃ xs,SqT K0 H1 a xs)∧R (Itt K0 a) H1)
theorem pi_seq {tg l:Expr} {tl:TE} (hl:PE X l tl):PI X tg l (iSeq tl):=by
 intro pins s σ H R I h
 refine thn (hl pins s σ H _ I h) fun v s1 ⟨x,H1,I1,r1,q1⟩=>?_
 rcases q1 with ⟨a,e,⟨xs,hq⟩,q⟩ | ⟨a,e,⟨xs,hq⟩,q⟩
 ·subst e
  cases r1
  obtain ⟨its,rv,p,hz⟩:=I1.list hq.k0
  refine wpAny_pyIter_list p.isList ⟨s1.heap.objs.size,[s1.heap.objs.size],_,Itl K0 a,H1,rfl,I1.kept (t':=s1.toks) fun b o e=>Heap.get?_push_of_some _ e,(turn_list (K:=X.K) a _).le le_list,⟨_,Heap.get?_push_size _ rfl,rfl,rfl⟩,fun b hb=>?_,q⟩
  have e:b=s1.heap.objs.size:=by simpa using hb
  subst e
  exact I1.fpOk (Zd _) (I1.hok.fresh (Zd _))
 ·subst e
  cases r1
  obtain ⟨its,rv,p,hz⟩:=I1.tuple hq.k0
  refine wpAny_pyIter_tuple (show s1.heap.IsTuple a its.toArray from p) ⟨s1.heap.objs.size,[s1.heap.objs.size],_,Itt K0 a,H1,rfl,I1.kept (t':=s1.toks) fun b o e=>Heap.get?_push_of_some _ e,(turn_tuple (K:=X.K) a _).le le_tup,⟨_,Heap.get?_push_size _ rfl,rfl,rfl⟩,fun b hb=>?_,q⟩
  have e:b=s1.heap.objs.size:=by simpa using hb
  subst e
  exact I1.fpOk (Zd _) (I1.hok.fresh (Zd _))
theorem jj5 {tg e:Expr} {M:ME} (he:PE X e (teM K QX E M)):PI X tg e (tiM K QX E (miSeq M)):=PI.imp (pi_seq he) fun σ H R ⟨w,O,sl,Q0,c,m,q⟩=>⟨w,O,sl,_,c,m,fun x O1 v w1 H1 h1 e1 r1 a1=>by
 split at h1
 ·rename_i ds hd
  unfold seqD at hd
  split at hd
  ·cases hd
   obtain ⟨a,xs,rfl,g1,t1⟩:=g_lst a1
   exact .inl ⟨a,rfl,⟨xs,SqL.of g1⟩,q _ O1 w1 H1 _ h1 e1 r1 (items_lst a1)⟩
  ·cases hd
   obtain ⟨a,xs,rfl,g1,t1⟩:=g_tup a1
   exact .inr ⟨a,rfl,⟨xs,SqT.of g1⟩,q _ O1 w1 H1 _ h1 e1 r1 (items_tup a1)⟩
  ·cases hd
 ·exact h1.elim⟩
def rngI (lo:Int) (n:Nat):List AV:=(List.range n).map fun i:Nat=>.im (.int (lo + (i:Int)))
theorem items_rng {lo:Int} {n:Nat}:Items K (Itr lo n) w O H (rngI lo n):=fun O2 w2 H2 e r i=>by
 unfold rngI
 refine ⟨fun x hx=>?_,fun hl=>by show n ≤ i; simpa using hl⟩
 have hi:i < n:=by have:=(Ze.mp hx).1; simpa using this
 rw [Zg,Yj hi] at hx
 cases Option.some.inj hx
 refine ⟨hi,?_⟩
 rintro v H3 ⟨rfl,rfl⟩
 exact ⟨Ext.refl _ _ _,r,.int _⟩
def miR1 (Ms:MA):MA:=fun sl O Q=>Ms sl O fun xs O1=>match xs with
 | [.im (.int n)]=>(-(2 ^ 62) ≤ n∧n < 2 ^ 62)∧Q (rngI 0 n.toNat) O1
 | _=>False
theorem jf0 {tg a:Expr} {Ms:MA} {p pos:Pos} (hg:Gl X "range") (hm:X.mg "range"=none) (ha:PA X [a] (taM K QX E Ms)) (hs:starEach [a] X.env=[(false,eval a X.env)]:=by rfl):PI X tg (.Call (.Name "range" p) [a] [] pos) (tiM K QX E (miR1 Ms)):=PI.imp (jg8 hg hm ha hs) fun σ H R ⟨w,O,sl,Q0,c,m,q⟩=>⟨w,O,sl,_,c,m,fun xs O1 vs w1 H1 h1 e1 r1 a1=>by
 split at h1
 ·obtain ⟨v,us,rfl,h3,h4⟩:=a1.uncons
  rw [h4.unnil,jg2 h3]
  exact ⟨_,rfl,h1.1.1,h1.1.2,q _ O1 w1 H1 _ h1.2 e1 r1 items_rng⟩
 ·exact h1.elim⟩
def zipI (ds es:List PyData):List AV:=(List.range ds.length).map fun i:Nat=>.im (.tuple [ds.getD i .none,es.getD i .none])
theorem items_zipL {a b:Addr} {ds es:List PyData} (t:TrG (G w O H) (.ref a) (.list ds)) (u:TrG (G w O H) (.ref b) (.list es)) (hle:ds.length ≤ es.length):Items K (ItzL K0 a b) w O H (zipI ds es):=fun O2 w2 H2 e r i=>by
 cases TrG.stay e.stay t with | lst h1 t1=>?_
 rename_i xs
 cases TrG.stay e.stay u with | lst h2 t2=>?_
 rename_i ys
 have hh:=(G_in h1).1
 have hh2:=(G_in h2).1
 unfold zipI
 refine ⟨fun x hx=>?_,fun hl=>⟨xs,ys,SqL.of hh,SqL.of hh2,by rw [t1.len]; simpa using hl⟩⟩
 have hi:i < ds.length:=by have:=(Ze.mp hx).1; simpa using this
 rw [Zg,Yj hi] at hx
 cases Option.some.inj hx
 have hd:ds[i]?=some (ds.getD i .none):=by rw [jc2 (Zc hi)]; exact Zc hi
 have he:es[i]?=some (es.getD i .none):=by rw [jc2 (Zc (show i < es.length by omega))]; exact Zc (by omega)
 obtain ⟨v,hv,tv⟩:=t1.get hd
 obtain ⟨v2,hv2,tv2⟩:=t2.get he
 refine ⟨⟨xs,ys,v,v2,SqL.of hh,SqL.of hh2,hv,hv2⟩,?_⟩
 rintro v' H3 ⟨p,hp,rfl,hy⟩
 obtain ⟨y,y2,hy1,hy2,rfl⟩:=hy xs ys (SqL.of hh) (SqL.of hh2)
 rw [hv] at hy1
 rw [hv2] at hy2
 cases Option.some.inj hy1
 cases Option.some.inj hy2
 obtain ⟨r4,e4,t4⟩:=new_tup r hp (.cons tv (.cons tv2 .nil))
 exact ⟨e4,r4,t4⟩
def miZL (Ms:MA):MA:=fun sl O Q=>Ms sl O fun xs O1=>match xs with
 | [.im (.list ds),.im (.list es)]=>ds.length ≤ es.length∧Q (zipI ds es) O1
 | _=>False
theorem mi_zipL {a b:Expr} {Ms:MA} {p pos:Pos} {elts:List Expr} {kk} {tpos:Pos} (hg:Gl X "zip") (hm:X.mg "zip"=none) (hb:bootBuiltins "zip"=some (.type "zip")) (ha:PA X [a,b] (taM K QX E Ms)) (hs:starEach [a,b] X.env=[(false,eval a X.env),(false,eval b X.env)]:=by rfl) (hs2:starEach [b] X.env=[(false,eval b X.env)]:=by rfl):PI X (.Tuple elts kk tpos) (.Call (.Name "zip" p) [a,b] [] pos) (tiM K QX E (miZL Ms)):=PI.imp (pi_zipL0 hg hm hb ha hs hs2) fun σ H R ⟨w,O,sl,Q0,c,m,q⟩=>⟨w,O,sl,_,c,m,fun xs O1 vs w1 H1 h1 e1 r1 a1=>by
 split at h1
 ·obtain ⟨v,us,rfl,h3,h4⟩:=a1.uncons
  obtain ⟨v2,us2,rfl,h5,h6⟩:=h4.uncons
  rw [h6.unnil]
  obtain ⟨a,xs',rfl,g1,t1⟩:=g_lst h3
  obtain ⟨b,ys',rfl,g2,t2⟩:=g_lst h5
  exact ⟨a,b,rfl,⟨xs',SqL.of g1⟩,⟨ys',SqL.of g2⟩,q _ O1 w1 H1 _ h1.2 e1 r1 (items_zipL h3 h5 h1.1)⟩
 ·exact h1.elim⟩
structure FB (tg:MG) (body:MS) (D:MEnds) (sl:Slt) (items:List AV) (O1:Sto):Prop where
 ex:∃ Iv:Nat→Slt→Sto→Prop,Iv 0 sl O1 ∧
 (∀ i x sl' O',items[i]?=some x→Iv i sl' O'→tg x sl' O' fun sl2 O2=>Go body { D with nx:=Iv (i + 1),ct:=Iv (i + 1),bk:=D.nx } sl2 O2)∧∀ sl' O',Iv items.length sl' O'→D.nx sl' O'
def mFor (it:MA) (tg:MG) (body:MS):MS:=fun D sl O=>it sl O (FB tg body D sl)
theorem ms_for {tg iter:Expr} {body:List Stmt} {it:MA} {mg:MG} {M:MS} {pos:Pos} (hp:PassesOwn (model X.prog X.w) X.A X.env X.xe) (hc:X.calm=true) (hi:PI X tg iter (tiM K QX E it)) (hg:PG X tg (tgM K QX E mg)) (hb:PSs X body (tsM K QX E M)) (hs:∀ x,foldedSetIterable iter X.env x=pure x:=by intro _; rfl):PS X (.For tg iter body [] pos) (tsM K QX E (mFor it mg M)):=PS.imp (ps_for hp hc hi hg hb hs) fun D σ H ⟨w,O,sl,D0,c,m,hn,hbk,hct,hr⟩=>⟨w,O,sl,_,c,m,fun items O1 w1 H1 J h1 e1 r1 it1=>by
 obtain ⟨Iv,hI0,hIs,hIe⟩:=h1
 refine ⟨fun i m σ' H'=>m=items.length - i∧i ≤ items.length∧∃ w' O' sl',Cfg K QX E w' O' H' σ' sl'∧Ext w1 O1 H1 w' O' H'∧Iv i sl' O',⟨items.length,by simp,Nat.zero_le _,w1,O1,sl,c.ex e1.ex r1,Ext.refl _ _ _,hI0⟩,?_⟩
 rintro i m σ' H' ⟨rfl,hle,w',O',sl',c',e',hv⟩
 obtain ⟨ig,ie⟩:=it1 O' w' H' e'.ex c'.ro i
 rcases Nat.lt_or_ge i items.length with y | y
 ·obtain ⟨hgo,hyl⟩:=ig _ (Zc y)
  refine .inr ⟨hgo,fun σ2 H2=>∃ w2 O2 sl2,Cfg K QX E w2 O2 H2 σ2 sl2∧Ext w1 O1 H1 w2 O2 H2∧Iv (i + 1) sl2 O2,fun σ2 H2 ⟨w2,O2,sl2,c2,e2,h2⟩=>⟨items.length - (i + 1),by omega,rfl,y,w2,O2,sl2,c2,e2,h2⟩,fun v H3 hv3=>?_⟩
  obtain ⟨e3,r3,a3⟩:=hyl v H3 hv3
  refine ⟨w',O',sl',_,_,c'.ex e3.ex r3,a3,hIs i _ sl' O' (Zc y) hv,fun sl4 O4 w4 H4 σ4 h4 c4 e4=>⟨w4,O4,sl4,_,c4,h4.go,fun sl5 O5 w5 H5 σ5 h5 c5 e5=>⟨w5,O5,sl5,c5,(e'.trans e3).trans (e4.trans e5),h5⟩,fun sl5 O5 w5 H5 σ5 h5 c5 e5=>hn sl5 O5 w5 H5 σ5 h5 c5 (((e1.trans e').trans e3).trans (e4.trans e5)),fun sl5 O5 w5 H5 σ5 h5 c5 e5=>⟨w5,O5,sl5,c5,(e'.trans e3).trans (e4.trans e5),h5⟩,fun x5 O5 w5 H5 v5 h5 e5 r5 a5=>hr x5 O5 w5 H5 v5 h5 (((e1.trans e').trans e3).trans (e4.trans e5)) r5 a5⟩⟩
 ·have ei:i=items.length:=by omega
  subst ei
  exact .inl ⟨ie (Zd _),hn sl' O' w' H' σ' (hIe sl' O' hv) c' (e1.trans e')⟩⟩
end
section
variable {K:PySem.W.Frag} {QX:Addr→Sto→Prop} {E:XK} {X:Cx} {w:Wd} {O:Sto} {H:Hp}
def Sub (n:Nat) (sl sl2:Slt):Prop:=sl2.length=sl.length∧∀ j,n ≤ j→sl2[j]?=sl[j]?
theorem Slots.sub {n:Nat} {ix:List Nat} {g:Hp} {σ:St} {sl sl2:Slt} (h:Slots K w g σ sl2) (s:Sub n (blkS n ix sl) sl2):Slots K w g σ (blkS n ix sl):=by
 refine ⟨h.1.trans s.1,fun i x hx=>?_⟩
 rcases Nat.lt_or_ge i n with y | y
 ·unfold blkS at hx
  rw [Zr (by simpa using y),List.getElem?_replicate,if_pos y] at hx
  cases Option.some.inj hx
 ·exact h.2 i x (by rw [s.2 i y]; exact hx)
theorem AVrs.stayG {w w':Wd} {g g':Hp} (hb:w'.bags=w.bags) (ha:w'.ads=w.ads) (s:Stay g g') {vs:List V} {xs:List AV} (h:AVrs K w g vs xs):AVrs K w' g' vs xs:=⟨h.1,fun i v x h1 h2=>AVr.stayG hb ha s (h.2 i v x h1 h2)⟩
theorem Slots.stayG {w w':Wd} {g g':Hp} (hb:w'.bags=w.bags) (ha:w'.ads=w.ads) (s:Stay g g') {σ:St} {sl:Slt} (h:Slots K w g σ sl):Slots K w' g' σ sl:=⟨h.1,fun i x h1=>by obtain ⟨v,h2,h3⟩:=h.2 i x h1; exact ⟨v,h2,AVr.stayG hb ha s h3⟩⟩
def Keeps (n:Nat) (mg:MG):Prop:=∀ x sl O Q,mg x sl O Q→mg x sl O fun sl2 O2=>Q sl2 O2∧Sub n sl sl2
theorem jc9 {n i:Nat} (h:i < n):Keeps n (mgN i):=fun x sl O Q q=>⟨q,by simp,fun j hj=>Yg (by omega)⟩
theorem comp_run {n:Nat} {ix:List Nat} {mg:MG} {C:MT} {M:ME} {items:List AV} {J:It} {w1:Wd} {O1:Sto} {H1:Hp} {σ:St} {sl:Slt} (c1:Cfg K QX E w1 O1 H1 σ sl) (it1:Items K J w1 O1 H1 items) (hlen:items.length ≤ 1000000) (Iv:Nat→List AV→Sto→Prop) (h0:Iv 0 [] O1)
  (hs:∀ i x zs O',items[i]?=some x→Iv i zs O'→mg x (blkS n ix sl) O' fun sl2 O2=>C sl2 O2 fun c O3=>(c=true→M sl2 O3 fun y O4=>Iv (i + 1) (zs ++ [y]) O4)∧(c=false→Iv (i + 1) zs O3))
  (hk:Keeps n mg) {Qf:VK} (acc:Addr) (hacc:H1 acc=none)
  (he:∀ zs ys O' w' H',Iv items.length zs O'→RelO K w' O' H'→w'.hid=(acc,.lst ys) :: w1.hid→Ex0 w1 O1 H1 w' O' H'→AVrs K w' (G w' O' H') ys zs→Qf (.ref acc) H') :
  tCompN (tgM K QX E mg) (ttM K QX E C) (teM K QX E M) J acc (blkσ n ix σ) H1 Qf:=by
 obtain ⟨r0,e0⟩:=c1.ro.hide (o:=.lst []) hacc (fun xs z=>by cases z)
 refine ⟨fun i m σ' H'=>m=items.length - i∧i ≤ items.length∧∃ w' O' ys zs,RelO K w' O' H'∧w'.hid=(acc,.lst ys) :: w1.hid∧Ex0 w1 O1 H1 w' O' H'∧Slots K w' (G w' O' H') σ' (blkS n ix sl)∧AVrs K w' (G w' O' H') ys zs∧zs.length ≤ i∧Iv i zs O',
  ⟨items.length,by simp,Nat.zero_le _,_,O1,[],[],r0,rfl,e0,(c1.so.blk n ix).ex e0,AVrs.nil,Zd _,h0⟩,?_⟩
 rintro i m σ' H' ⟨rfl,hle,w',O',ys,zs,r',hh',e',s',a',hz',hv⟩
 obtain ⟨ig,ie⟩:=it1 O' w' H' e' r' i
 rcases Nat.lt_or_ge i items.length with y | y
 ·obtain ⟨hgo,hyl⟩:=ig _ (Zc y)
  refine .inr ⟨hgo,fun σ2 H2=>∃ w' O' ys zs,RelO K w' O' H2∧w'.hid=(acc,.lst ys) :: w1.hid∧Ex0 w1 O1 H1 w' O' H2∧Slots K w' (G w' O' H2) σ2 (blkS n ix sl)∧AVrs K w' (G w' O' H2) ys zs∧zs.length ≤ i + 1∧Iv (i + 1) zs O',fun σ2 H2 z=>⟨items.length - (i + 1),by omega,rfl,y,z⟩,fun v H3 hv3=>?_⟩
  obtain ⟨e3,r3,a3⟩:=hyl v H3 hv3
  have cfg:Cfg K QX E w' O' H3 σ' (blkS n ix sl):=⟨r3,s'.ex e3.ex,fun k O'' w'' H'' qx e'' r''=>c1.zx k O'' w'' H'' qx ((e'.trans e3.ex).trans e'') r''⟩
  refine ⟨w',O',_,_,_,cfg,a3,hk _ _ _ _ (hs i _ zs O' (Zc y) hv),fun sl4 O4 w4 H4 σ4 h4 c4 e4=>⟨w4,O4,sl4,_,c4,h4.1,fun b O5 w5 H5 h5 e5 r5=>?_⟩⟩
  have e35:=e3.trans (e4.trans e5)
  cases b with
  | false=>exact iteF ⟨w5,O5,ys,zs,r5,e35.hid.trans hh',e'.trans e35.ex,Slots.sub (c4.so.ex e5.ex) h4.2,a'.ex e35.ex,by omega,h5.2 rfl⟩
  | true =>
   refine iteT ⟨w5,O5,sl4,_,c4.ex e5.ex r5,h5.1 rfl,fun z O6 v6 w6 H6 h6 e6 r6 a6=>?_⟩
   have e36:=e35.trans e6
   have hh6:w6.hid=(acc,.lst ys) :: w1.hid:=e36.hid.trans hh'
   obtain ⟨n1,n2,n3,n4⟩:=r6.nh (acc,.lst ys) (by rw [hh6]; exact Yb)
   obtain ⟨r7,s7⟩:=r6.rehide (o':=.lst (ys ++ [v6])) hh6 (fun xs z=>by cases z)
   have e16:=e'.trans e36.ex
   refine ⟨ys,n3,by rw [a'.1,sz]; omega,{ w6 with hid:=(acc,.lst (ys ++ [v6])) :: w1.hid },O6,ys ++ [v6],zs ++ [z],r7,rfl,⟨e16.bs,e16.ads,⟨[(acc,.lst (ys ++ [v6]))],rfl⟩,e16.stay.trans s7⟩,?_,?_,by rw [Zj]; simp; omega,h6⟩
   ·exact Slots.stayG rfl rfl s7 (Slots.sub ((c4.so.ex e5.ex).ex e6.ex) h4.2)
   ·exact AVrs.stayG rfl rfl s7 ((a'.ex e36.ex).app (AVrs.cons a6 AVrs.nil))
 ·have ei:i=items.length:=by omega
  subst ei
  exact .inl ⟨ie (Zd _),he zs ys O' w' H' hv r' hh' e' a'⟩
structure CB (n:Nat) (ix:List Nat) (mg:MG) (C:MT) (M:ME) (sl:Slt) (Q:AV→Sto→Prop) (items:List AV) (O1:Sto):Prop where
 len:items.length ≤ 1000000
 ex:∃ Iv:Nat→List PyData→Sto→Prop,Iv 0 [] O1 ∧
 (∀ i x ds O',items[i]?=some x→Iv i ds O'→mg x (blkS n ix sl) O' fun sl2 O2=>C sl2 O2 fun c O3=>(c=true→M sl2 O3 fun y O4=>match y with
   | .im d=>Iv (i + 1) (ds ++ [d]) O4
   | _=>False)∧(c=false→Iv (i + 1) ds O3))∧∀ ds O',Iv items.length ds O'→Q (.im (.list ds)) O'
def mComp (n:Nat) (ix:List Nat) (it:MA) (mg:MG) (C:MT) (M:ME):ME:=fun sl O Q=>it sl O (CB n ix mg C M sl Q)
structure CBO (n:Nat) (ix:List Nat) (mg:MG) (C:MT) (M:ME) (sl:Slt) (Q:AV→Sto→Prop) (items:List AV) (O1:Sto):Prop where
 len:items.length ≤ 1000000
 ex:∃ Iv:Nat→List AV→Sto→Prop,Iv 0 [] O1 ∧
 (∀ i x zs O',items[i]?=some x→Iv i zs O'→mg x (blkS n ix sl) O' fun sl2 O2=>C sl2 O2 fun c O3=>(c=true→M sl2 O3 fun y O4=>Iv (i + 1) (zs ++ [y]) O4)∧(c=false→Iv (i + 1) zs O3))∧∀ zs O',Iv items.length zs O'→Q (.own O'.length) (O' ++ [some zs])
def mCompO (n:Nat) (ix:List Nat) (it:MA) (mg:MG) (C:MT) (M:ME):ME:=fun sl O Q=>it sl O (CBO n ix mg C M sl Q)
theorem lift_compO {n:Nat} {ix:List Nat} {it:MA} {mg:MG} {C:MT} {M:ME} (hk:Keeps n mg):∀ σ H Q,teM K QX E (mCompO n ix it mg C M) σ H Q→tComp (tiM K QX E it) (tgM K QX E mg) (ttM K QX E C) (teM K QX E M) n ix σ H Q :=
 fun σ H Q ⟨w,O,sl,Q0,c,m,q⟩=>⟨w,O,sl,_,c,m,fun items O1 w1 H1 J h1 e1 r1 it1 acc hacc=>by
  obtain ⟨hl,Iv,h0,hs,he⟩:=h1
  refine comp_run (c.ex e1.ex r1) it1 hl Iv h0 hs hk acc hacc fun zs ys O' w' H' hv r' hh' e' a'=>?_
  obtain ⟨r2,s2,hat⟩:=r'.unhideO hh' a'
  refine q _ _ _ { w' with hid:=w1.hid,ads:=w'.ads ++ [acc] } _ (he zs O' hv) ⟨e1.ex.trans ⟨e'.bs,?_,⟨[],rfl⟩,e'.stay.trans s2⟩,e1.hid⟩ r2 ⟨acc,hat,rfl⟩
  obtain ⟨t,ht⟩:=e'.ads
  exact ⟨t ++ [acc],by show w'.ads ++ [acc]=_; rw [ht,List.append_assoc]⟩⟩
theorem lift_comp {n:Nat} {ix:List Nat} {it:MA} {mg:MG} {C:MT} {M:ME} (hk:Keeps n mg):∀ σ H Q,teM K QX E (mComp n ix it mg C M) σ H Q→tComp (tiM K QX E it) (tgM K QX E mg) (ttM K QX E C) (teM K QX E M) n ix σ H Q :=
 fun σ H Q ⟨w,O,sl,Q0,c,m,q⟩=>⟨w,O,sl,_,c,m,fun items O1 w1 H1 J h1 e1 r1 it1 acc hacc=>by
  obtain ⟨hl,Iv,h0,hs,he⟩:=h1
  have hC:=c.ex e1.ex r1
  obtain ⟨r0,e0⟩:=hC.ro.hide (o:=.lst []) hacc (fun xs z=>by cases z)
  refine ⟨fun i m σ' H'=>m=items.length - i∧i ≤ items.length∧∃ w' O' ys zs,RelO K w' O' H'∧w'.hid=(acc,.lst ys) :: w1.hid∧Ex0 w1 O1 H1 w' O' H'∧Slots K w' (G w' O' H') σ' (blkS n ix sl)∧TrGs (G w' O' H') ys zs∧zs.length ≤ i∧Iv i zs O',
   ⟨items.length,by simp,Nat.zero_le _,_,O1,[],[],r0,rfl,e0,(hC.so.blk n ix).ex e0,.nil,Zd _,h0⟩,?_⟩
  rintro i m σ' H' ⟨rfl,hle,w',O',ys,zs,r',hh',e',s',a',hz',hv⟩
  obtain ⟨ig,ie⟩:=it1 O' w' H' e' r' i
  rcases Nat.lt_or_ge i items.length with y | y
  ·obtain ⟨hgo,hyl⟩:=ig _ (Zc y)
   refine .inr ⟨hgo,fun σ2 H2=>∃ w' O' ys zs,RelO K w' O' H2∧w'.hid=(acc,.lst ys) :: w1.hid∧Ex0 w1 O1 H1 w' O' H2∧Slots K w' (G w' O' H2) σ2 (blkS n ix sl)∧TrGs (G w' O' H2) ys zs∧zs.length ≤ i + 1∧Iv (i + 1) zs O',fun σ2 H2 z=>⟨items.length - (i + 1),by omega,rfl,y,z⟩,fun v H3 hv3=>?_⟩
   obtain ⟨e3,r3,a3⟩:=hyl v H3 hv3
   have cfg:Cfg K QX E w' O' H3 σ' (blkS n ix sl):=⟨r3,s'.ex e3.ex,fun k O'' w'' H'' qx e'' r''=>hC.zx k O'' w'' H'' qx ((e'.trans e3.ex).trans e'') r''⟩
   refine ⟨w',O',_,_,_,cfg,a3,hk _ _ _ _ (hs i _ zs O' (Zc y) hv),fun sl4 O4 w4 H4 σ4 h4 c4 e4=>⟨w4,O4,sl4,_,c4,h4.1,fun b O5 w5 H5 h5 e5 r5=>?_⟩⟩
   have e35:=e3.trans (e4.trans e5)
   cases b with
   | false=>exact iteF ⟨w5,O5,ys,zs,r5,e35.hid.trans hh',e'.trans e35.ex,Slots.sub (c4.so.ex e5.ex) h4.2,TrGs.stay e35.ex.stay a',by omega,h5.2 rfl⟩
   | true =>
    refine iteT ⟨w5,O5,sl4,_,c4.ex e5.ex r5,h5.1 rfl,fun z O6 v6 w6 H6 h6 e6 r6 a6=>?_⟩
    split at h6
    ·rename_i d
     have e36:=e35.trans e6
     have hh6:w6.hid=(acc,.lst ys) :: w1.hid:=e36.hid.trans hh'
     obtain ⟨n1,n2,n3,n4⟩:=r6.nh (acc,.lst ys) (by rw [hh6]; exact Yb)
     obtain ⟨r7,s7⟩:=r6.rehide (o':=.lst (ys ++ [v6])) hh6 (fun xs z=>by cases z)
     have e16:=e'.trans e36.ex
     refine ⟨ys,n3,by rw [a'.len,sz]; omega,{ w6 with hid:=(acc,.lst (ys ++ [v6])) :: w1.hid },O6,ys ++ [v6],zs ++ [d],r7,rfl,⟨e16.bs,e16.ads,⟨[(acc,.lst (ys ++ [v6]))],rfl⟩,e16.stay.trans s7⟩,?_,?_,by rw [Zj]; simp; omega,h6⟩
     ·exact Slots.stayG rfl rfl s7 (Slots.sub ((c4.so.ex e5.ex).ex e6.ex) h4.2)
     ·exact TrGs.stay s7 ((TrGs.stay e36.ex.stay a').app (.cons a6 .nil))
    ·exact h6.elim
  ·have ei:i=items.length:=by omega
   subst ei
   refine .inl ⟨ie (Zd _),?_⟩
   obtain ⟨r2,s2,g2⟩:=r'.unhide hh'
   exact q _ _ _ { w' with hid:=w1.hid } _ (he zs O' hv) ⟨e1.ex.trans ⟨e'.bs,e'.ads,⟨[],rfl⟩,e'.stay.trans s2⟩,e1.hid⟩ r2 (.lst g2 (TrGs.stay s2 a'))⟩
theorem PIfs.imp {ifs:List Expr} {t t':TT} (h:PIfs X ifs t) (i:∀ σ H Q,t' σ H Q→t σ H Q):PIfs X ifs t':=fun pins s σ H Q I q=>h pins s σ H Q I (i σ H Q q)
def mYes:MT:=fun _ O Q=>Q true O
theorem jh3:PIfs X [] (ttM K QX E mYes):=PIfs.imp jd6 fun σ H Q ⟨w,O,sl,Q0,c,m,q⟩=>q true O w H m (Ext.refl _ _ _) c.ro
theorem mf_one {e:Expr} {M:MT} (h:PT X e (ttM K QX E M)):PIfs X [e] (ttM K QX E M):=pifs_one h
section
variable {scope:Scope} {own cap:List Str} {ix:List Nat} {tg iter elt:Expr} {ifs:List Expr} {it:MA} {mg:MG} {C:MT} {M:ME} {pos:Pos}
theorem jj4 (B:BlkOk X scope own cap ix) (hc:X.calm=true) (hi:PI X tg iter (tiM K QX E it)) (hk:Keeps own.length mg)
  (hb:∀ C' fp s H,PG (cxC X scope C' (own ++ cap) fp s H) tg (tgM K QX E mg)∧PIfs (cxC X scope C' (own ++ cap) fp s H) ifs (ttM K QX E C)∧PE (cxC X scope C' (own ++ cap) fp s H) elt (teM K QX E M))
  (hs:∀ x,foldedSetIterable iter X.env x=pure x:=by intro _; rfl):PE X (.ListComp elt [⟨tg,iter,ifs,0⟩] scope pos) (teM K QX E (mComp own.length ix it mg C M)):=PE.imp (je0 B hc hi hb hs) (lift_comp hk)
theorem ms_setC {i:Nat} {y:Str} {py spos:Pos} (hN:X.N.Nodup) (hiN:X.N[i]?=some y) (hx:X.env.scope.names.lookup y=some .local) (B:BlkOk X scope own cap ix) (hc:X.calm=true) (hi:PI X tg iter (tiM K QX E it)) (hk:Keeps own.length mg)
  (hb:∀ C' fp s H,PG (cxC X scope C' (own ++ cap) fp s H) tg (tgM K QX E mg)∧PIfs (cxC X scope C' (own ++ cap) fp s H) ifs (ttM K QX E C)∧PE (cxC X scope C' (own ++ cap) fp s H) elt (teM K QX E M))
  (hsw:swapsWith (.ListComp elt [⟨tg,iter,ifs,0⟩] scope pos) (some (.Name y py)) spos.line X.env=pure true:=by rfl)
  (hs:∀ x,foldedSetIterable iter X.env x=pure x:=by intro _; rfl):PS X (.Assign [.Name y py] (.ListComp elt [⟨tg,iter,ifs,0⟩] scope pos) spos) (tsM K QX E (mAsg (mComp own.length ix it mg C M) (mgN i))):=PS.imp (ps_setC hN hiN hx B hc hi hb hsw hs) (lift_asg (lift_comp hk) tgM_name)
theorem ms_setCO {i:Nat} {y:Str} {py spos:Pos} (hN:X.N.Nodup) (hiN:X.N[i]?=some y) (hx:X.env.scope.names.lookup y=some .local) (B:BlkOk X scope own cap ix) (hc:X.calm=true) (hi:PI X tg iter (tiM K QX E it)) (hk:Keeps own.length mg)
  (hb:∀ C' fp s H,PG (cxC X scope C' (own ++ cap) fp s H) tg (tgM K QX E mg)∧PIfs (cxC X scope C' (own ++ cap) fp s H) ifs (ttM K QX E C)∧PE (cxC X scope C' (own ++ cap) fp s H) elt (teM K QX E M))
  (hsw:swapsWith (.ListComp elt [⟨tg,iter,ifs,0⟩] scope pos) (some (.Name y py)) spos.line X.env=pure true:=by rfl)
  (hs:∀ x,foldedSetIterable iter X.env x=pure x:=by intro _; rfl):PS X (.Assign [.Name y py] (.ListComp elt [⟨tg,iter,ifs,0⟩] scope pos) spos) (tsM K QX E (mAsg (mCompO own.length ix it mg C M) (mgN i))):=PS.imp (ps_setC hN hiN hx B hc hi hb hsw hs) (lift_asg (lift_compO hk) tgM_name)
end
abbrev FM:=Sto→List AV→(AV→Sto→Prop)→(Addr→Sto→Prop)→Prop
def LkS (K:PySem.W.Frag) (sp:Sp) (F:FM):Prop:=∀ (w:Wd) (O:Sto) (H:Hp) (vs:List V) (xs:List AV) (P:AV→Sto→Prop) (PX:Addr→Sto→Prop) (Q:VK) (E:XK),RelO K w O H→AVrs K w (G w O H) vs xs→F O xs P PX →
 (∀ z q O' w' H',P q O'→Ext w O H w' O' H'→RelO K w' O' H'→AVr K w' (G w' O' H') z q→Q z H')→(∀ c O' w' H',PX c O'→Ex0 w O H w' O' H'→RelO K w' O' H'→E (.ref c) none H')→sp vs H Q E
def spM (K:PySem.W.Frag) (F:FM):Sp:=fun vs H Q E=>∃ w O xs P PX,RelO K w O H∧AVrs K w (G w O H) vs xs∧F O xs P PX∧(∀ z q O' w' H',P q O'→Ext w O H w' O' H'→RelO K w' O' H'→AVr K w' (G w' O' H') z q→Q z H')∧∀ c O' w' H',PX c O'→Ex0 w O H w' O' H'→RelO K w' O' H'→E (.ref c) none H'
theorem lk_spM {F:FM}:LkS K (spM K F) F:=fun w O H vs xs P PX Q E r a f q x=>⟨w,O,xs,P,PX,r,a,f,q,x⟩
def mCall (F:FM) (QX:Addr→Sto→Prop) (Ms:MA):ME:=fun sl O Q=>Ms sl O fun xs O1=>F O1 xs Q QX
def noX:Addr→Sto→Prop:=fun _ _=>False
theorem jb1 {k:Nat} {f:Addr} {fd:FuncData} {ps:List Str} {sp:Sp} {F:FM} {x:Str} {e:Expr} {es:List Expr} {p pos:Pos} {Ms:MA} (G':FnOk X.prog X.w X.K X.mg X.base CX0 k f fd ps sp) (lk:LkS K sp F) (hr:Room k X.A) (hg:Gl X x) (hm:X.mg x=some (.ref f)) (hk:PySem.W.keepIn X.K (.ref f)=true) (hb:Binds X.K fd ps [])
  (ha:PA X (e :: es) (taM K QX E Ms)) (hdb:(x == ("__debug__" : Str))=false:=by decide) (he:starEach (e :: es) X.env=(false,eval e X.env) :: starEach es X.env:=by rfl) (hpl:(backTo pos (starEach es X.env)).any (·.1)=false:=by rfl) :
  PE X (.Call (.Name x p) (e :: es) [] pos) (teM K QX E (mCall F noX Ms)):=PE.imp (jb5 G' hr hg hm hk hb (dvs:=[]) .nil pass0 ha hdb he hpl) fun σ H Q ⟨w,O,sl,Q0,c,m,q⟩=>⟨w,O,sl,_,c,m,fun xs O1 vs w1 H1 h1 e1 r1 a1=>by
 show sp (vs ++ []) H1 Q E0
 rw [List.append_nil]
 exact lk w1 O1 H1 vs xs _ noX Q E0 r1 a1 h1 (fun z z' O3 w3 H3 h3 e3 r3 a3=>q _ O3 z w3 H3 h3 (e1.trans e3) r3 a3) fun k O' w' H' qx e' r'=>qx.elim⟩
def startS (N:List Str) (xs:List AV):Slt:=xs.map some ++ List.replicate (N.length - xs.length) none
theorem slots_start {N:List Str} {vs:List V} {xs:List AV} {g:Hp} (a:AVrs K w g vs xs):Slots K w g (L2.start N vs) (startS N xs):=by
 unfold L2.start startS
 refine ⟨by simp [a.1],fun i x hx=>?_⟩
 rcases Nat.lt_or_ge i xs.length with y | y
 ·rw [Zr (by simpa using y),Zg,Zc y] at hx
  have ex:xs[i]=x:=by injection (Option.some.inj hx)
  have yv:i < vs.length:=by rw [a.1]; exact y
  refine ⟨vs[i],?_,a.2 i _ x (Zc yv) (by rw [Zc y,ex])⟩
  rw [Zr (by simpa using yv),Zg,Zc yv]; rfl
 ·rw [Yi (by simpa using y),List.getElem?_replicate] at hx
  split at hx
  ·cases Option.some.inj hx
  ·cases hx
variable {P:Program} {wo:World} {mg:Str→Option Value} {base:Heap}
theorem okM {x qual:Str} {st:Stmt} {f:Addr} {fd:FuncData} {N ps:List Str} {k:Nat} {F:FM} (U:Fun K x qual st f fd) (S:FnScope N ps (ja3 st)) (hl:∀ O xs P PX,F O xs P PX→xs.length=ps.length)
  (hb:∀ (cdv:Value) (A:Around) (outer:List Env) (s:Shared) (H:Hp) (E:XK) (QX:Addr→Sto→Prop),Room k (A.deeper (PyProof.Rows.envOfC qual (ja3 st) s.heap.objs.size f cdv)) →
   ∃ M,PSs (cxOf CX0 P wo K mg base N qual (ja3 st) f cdv A outer s H E).nox (defBody st) (tsM K QX E M)∧∀ O xs Pq,F O xs Pq QX→M { nx:=fun _ O'=>Pq (.im .none) O',rt:=Pq } (startS N xs) O):FnOk P wo K mg base CX0 (k + 1) f fd ps (spM K F):=by
 refine U.ok S (fun vs H Q E ⟨w,O,xs,P,PX,r,a,h,q⟩=>by rw [a.1]; exact hl O xs P PX h) (fun cdv A outer s H vs Q E hr ⟨w,O,xs,P',PX,r,a,h,q,x⟩=>?_)
 obtain ⟨M,hM,hq⟩:=hb cdv A outer s H E PX hr
 exact ⟨_,hM,w,O,startS N xs,_,⟨r,slots_start a,x⟩,hq O xs P' h,fun sl' O' w' H' σ' h' c' e'=>q _ _ O' w' H' h' e' c'.ro .non,fun sl' O' w' H' σ' h' c' e'=>h'.elim,fun sl' O' w' H' σ' h' c' e'=>h'.elim,fun x' O' w' H' v h' e' r' a'=>q v x' O' w' H' h' e' r' a'⟩
def mApp (Mo:ME) (Ms:MA):ME:=fun sl O Q=>Mo sl O fun o O1=>match o with
 | .own k=>(∃ c,O1[k]?=some (some c))∧Ms sl O1 fun xs O2=>match xs with
  | [y]=>∃ c,O2[k]?=some (some c)∧c.length < sizeLine∧Q (.im .none) (O2.set k (some (c ++ [y])))
  | _=>False
 | _=>False
end
section
variable {K:PySem.W.Frag} {QX:Addr→Sto→Prop} {E:XK} {X:Cx} {w:Wd} {O:Sto} {H:Hp}
theorem me_app {o e:Expr} {Mo:ME} {Ms:MA} {apos cpos:Pos} (ho:PE X o (teM K QX E Mo)) (ha:PA X [e] (taM K QX E Ms))
  (hbase:attributeBase o "append" X.env (eval o X.env)=eval o X.env:=by rfl)
  (hfew:((backTo cpos (starEach [e] X.env)).all (fun x=>!x.1) && (backToKw cpos (keywordEach [] X.env)).all (fun x=>x.1.isSome)
   && decide ([e].length + ([]:List Keyword).length + (if ([]:List Keyword).isEmpty then 0 else 1) < 30))=true:=by rfl)
  (hline:(apos.endLine == cpos.line)=true:=by rfl) (hs:starEach [e] X.env=(false,eval e X.env) :: starEach [] X.env:=by rfl) (hplain:(backTo cpos (starEach [] X.env)).any (·.1)=false:=by rfl) :
  PE X (.Call (.Attribute o "append" apos) [e] [] cpos) (teM K QX E (mApp Mo Ms)):=PE.imp (peBm0 PySem.F.plainAttrs_list PySem.F.slot_list_append PySem.F.type_list_append mt_append ho ha hbase hfew hline hs hplain) fun σ H Q ⟨w,O,sl,Q0,c,m,q⟩=>⟨w,O,sl,_,c,m,fun o' O1 v w1 H1 h1 e1 r1 a1=>by
 split at h1
 ·obtain ⟨⟨c0,hc0⟩,h1⟩:=h1
  obtain ⟨p,hp,rfl⟩:=a1
  refine ⟨.inl ⟨rfl,?_⟩,w1,O1,sl,_,c.ex e1.ex r1,h1,fun xs O2 vs w2 H2 h2 e2 r2 a2=>?_⟩
  ·obtain ⟨p1,us',h0,g1,t1⟩:=r1.cel _ _ hc0
   rw [hp] at h0
   cases Option.some.inj h0
   exact ⟨us',SqL.of g1⟩
  ·split at h2
   ·obtain ⟨c',hc',h2⟩:=h2
    obtain ⟨v1,us,rfl,b1,b2⟩:=a2.uncons
    rw [b2.unnil]
    obtain ⟨p1,us',h0,g1,t1⟩:=r2.cel _ _ hc'
    rw [e2.ex.at hp] at h0
    cases Option.some.inj h0
    obtain ⟨r3,e3⟩:=r2.put hc' (e2.ex.at hp) g1 (t1.app (AVrs.cons b1 AVrs.nil))
    exact ⟨_,us',v1,rfl,rfl,g1,by rw [t1.1]; exact h2.1,q _ _ _ _ _ h2.2 ((e1.trans e2).trans e3) r3 .non⟩
   ·exact h2.elim
 ·exact h1.elim⟩
structure Less (O O':Sto):Prop where
 len:O'.length=O.length
 at':∀ j:Nat,O'[j]?=O[j]? ∨ O'[j]?=some none
theorem Less.refl (O:Sto):Less O O:=⟨rfl,fun _=>.inl rfl⟩
theorem Less.set {O O':Sto} (h:Less O O') (k:Nat):Less O (O'.set k none):=⟨by rw [List.length_set]; exact h.len,fun j=>by
 by_cases e:k=j
 ·subst e
  rcases Nat.lt_or_ge k O'.length with y | y
  ·exact .inr (Yh y)
  ·rw [List.set_eq_of_length_le y]; exact h.at' k
 ·rw [Yg e]; exact h.at' j⟩
theorem RelO.less (r:RelO K w O H) {O':Sto} (h:Less O O'):RelO K w O' H∧Ext w O H w O' H∧∀ (j:Nat) a,O'[j]?=some none→w.ads[j]?=some a→G w O' H a=H a:=by
 have back:∀ (j:Nat) c,O'[j]?=some (some c)→O[j]?=some (some c):=fun j c hj=>by
  rcases h.at' j with e | e
  ·rw [← e]; exact hj
  ·rw [e] at hj; cases Option.some.inj hj
 have hhid:∀ x,Hid w O' x→Hid w O x:=fun x h=>by
  rcases h with h | h | ⟨j,d,h1,h2⟩
  ·exact .inl h
  ·exact .inr (.inl h)
  ·exact .inr (.inr ⟨j,d,h1,back j d h2⟩)
 have sg:Stay (G w O H) (G w O' H):=fun x o h=>by
  obtain ⟨h1,h2⟩:=G_in h
  rw [G_of (fun z=>h2 (hhid x z))]; exact h1
 have e:Ext w O H w O' H:=⟨⟨⟨[],by simp⟩,⟨[],by simp⟩,⟨[],by simp⟩,sg⟩,rfl⟩
 refine ⟨⟨by rw [h.len]; exact r.len,r.nd,r.al,r.nb,r.hn,r.nh,r.bg,fun j d hj=>?_⟩,e,fun j a hj ha=>?_⟩
 ·obtain ⟨a',us,h1,h2,h3⟩:=r.cel j d (back j d hj)
  exact ⟨a',us,h1,h2,h3.ex e.ex⟩
 ·rw [G_of]
  rintro (h1 | ⟨o,h1⟩ | ⟨i,d,h1,h2⟩)
  ·exact r.nb _ h1 (Zi ha)
  ·exact (r.nh _ h1).1 (Zi ha)
  ·have:j=i:=(List.getElem?_inj (Ze.mp ha).1 r.nd).mp (ha.trans h1.symm)
   subst this
   rw [hj] at h2; cases Option.some.inj h2
theorem RelO.cellD (r:RelO K w O H) {O':Sto} (h:Less O O') {k:Nat} {ds:List PyData} {a:Addr} (hk:O[k]?=some (some (ds.map .im))) (hk':O'[k]?=some none) (ha:w.ads[k]?=some a):TrG (G w O' H) (.ref a) (.list ds):=by
 obtain ⟨r1,e1,g1⟩:=r.less h
 obtain ⟨a',vs,h1,h2,h3⟩:=r.cel k _ hk
 rw [ha] at h1
 cases Option.some.inj h1
 exact .lst (xs:=vs) (by rw [g1 k a hk' ha]; exact h2) (AVrs.tr (h3.ex e1.ex))
theorem set_self {α : Type} {xs:List α} {i:Nat} {x:α} (h:xs[i]?=some x):xs.set i x=xs:=by
 apply List.ext_getElem?
 intro j
 by_cases e:i=j
 ·subst e; rw [Yh (Ze.mp h).1,h]
 ·rw [Yg e]
def jh9 (O:Sto):List Nat→Sto
 | []=>O
 | k :: ks=>jh9 (O.set k none) ks
theorem noneAll_less:∀ (ks:List Nat) {O O':Sto},Less O O'→Less O (jh9 O' ks)
 | [],_,_,h=>h
 | k :: ks,_,_,h=>noneAll_less ks (h.set k)
theorem noneAll_keep:∀ (ks:List Nat) {O:Sto} {j:Nat},O[j]?=some none→(jh9 O ks)[j]?=some none
 | [],_,_,h=>h
 | k :: ks,O,j,h=>noneAll_keep ks (by
  by_cases e:k=j
  ·subst e; exact Yh (Ze.mp h).1
  ·rw [Yg e]; exact h)
theorem noneAll_at:∀ (ks:List Nat) {O:Sto} {j:Nat},j ∈ ks→j < O.length→(jh9 O ks)[j]?=some none
 | k :: ks,O,j,h,hl=>by
  rcases Zf.mp h with e | e
  ·subst e; exact noneAll_keep ks (Yh hl)
  ·exact noneAll_at ks e (by rw [List.length_set]; exact hl)
def mFrz2 (i:Nat) (M:MS):MS:=fun D sl O=>∃ (k:Nat) (ks:List Nat) (dss:List (List PyData)),sl[i]?=some (some (.own k))∧O[k]?=some (some (ks.map .own))∧ks.length=dss.length∧(∀ (j:Nat) kj,ks[j]?=some kj→O[kj]?=some (some ((dss.getD j []).map .im))) ∧
 M D (sl.set i (some (.im (.list (dss.map .list))))) (jh9 O (k :: ks))
theorem trgs_ix {g:Hp}:∀ {vs:List V} {ds:List PyData},vs.length=ds.length→(∀ (j:Nat) v d,vs[j]?=some v→ds[j]?=some d→TrG g v d)→TrGs g vs ds
 | [],[],_,_=>.nil
 | v :: vs,d :: ds,h,f=>.cons (f 0 v d rfl rfl) (trgs_ix (by simpa using h) fun j v' d' h1 h2=>f (j + 1) v' d' (by simpa using h1) (by simpa using h2))
theorem ms_frz2 (i:Nat) {sts:List Stmt} {M:MS} (h:PSs X sts (tsM K QX E M)):PSs X sts (tsM K QX E (mFrz2 i M)):=PSs.imp h fun D σ H ⟨w,O,sl,D0,c,⟨k,ks,dss,h1,h2,hl,h3,m⟩,hn,hb,hc,hr⟩=>by
 have hL:=noneAll_less (k :: ks) (Less.refl O)
 obtain ⟨r1,e1,g1⟩:=c.ro.less hL
 obtain ⟨v,hv,a,ha,rfl⟩:=c.so.2 i _ h1
 have hkl:=(Ze.mp h2).1
 obtain ⟨a',vs,q1,q2,q3⟩:=c.ro.cel k _ h2
 rw [ha] at q1
 cases Option.some.inj q1
 have t:TrG (G w (jh9 O (k :: ks)) H) (.ref a) (.list (dss.map .list)):=by
  refine .lst (xs:=vs) (by rw [g1 k a (noneAll_at _ Yb hkl) ha]; exact q2) (trgs_ix (by rw [q3.1,Zb,Zb,hl]) fun j v d hv hd=>?_)
  have hj:j < dss.length:=by have:=(Ze.mp hd).1; simpa using this
  have hk':ks[j]?=some ks[j]:=Zc (by omega)
  have:=q3.2 j v (.own ks[j]) hv (by rw [Zg,hk']; rfl)
  obtain ⟨p,hp,rfl⟩:=this
  have hO:=h3 j _ hk'
  rw [Zg,Zc hj] at hd
  have hd':d=.list (dss.getD j []):=by rw [jc2 (Zc hj)]; exact (Option.some.inj hd).symm
  rw [hd']
  exact c.ro.cellD hL hO (noneAll_at _ (Zu _ (Zi hk')) (Ze.mp hO).1) hp
 have c2:=(c.ex e1.ex r1).put (x:=.im (.list (dss.map .list))) t i
 rw [set_self hv] at c2
 exact ⟨w,_,_,D0,c2,m,fun sl2 O2 w2 H2 σ2 h2 c2 e2=>hn sl2 O2 w2 H2 σ2 h2 c2 (e1.trans e2),fun sl2 O2 w2 H2 σ2 h2 c2 e2=>hb sl2 O2 w2 H2 σ2 h2 c2 (e1.trans e2),fun sl2 O2 w2 H2 σ2 h2 c2 e2=>hc sl2 O2 w2 H2 σ2 h2 c2 (e1.trans e2),fun x O2 w2 H2 v h2 e2 r2 a2=>hr x O2 w2 H2 v h2 (e1.trans e2) r2 a2⟩
def mNeg (M:ME):ME:=fun sl O Q=>M sl O fun x O1=>match x with
 | .im (.int i)=>Q (.im (.int (-i))) O1
 | _=>False
theorem me_neg {a:Expr} {M:ME} {pos:Pos} (h:PE X a (teM K QX E M)):PE X (.UnaryOp .USub a pos) (teM K QX E (mNeg M)):=PE.imp (pe_un un_neg h) fun σ H Q ⟨w,O,sl,Q0,c,m,q⟩=>⟨w,O,sl,_,c,m,fun x O1 v w1 H1 h1 e1 r1 a1=>by
 split at h1
 ·exact ⟨_,jg2 a1,q _ O1 _ w1 H1 h1 e1 r1 (.int _)⟩
 ·exact h1.elim⟩
def fTake:FM:=fun O xs P _=>match xs with
 | [.bag _,.im (.int m)]=>(0 < m∧m < 1073741824)∧∀ r:Int,0 ≤ r→r < m→P (.im (.int r)) O
 | _=>False
theorem jd1:LkS K spTake fTake:=fun w O H vs xs P PX Q E r a hf q x=>by
 unfold fTake at hf
 split at hf
 ·obtain ⟨v,us,rfl,h1,h2⟩:=a.uncons
  obtain ⟨v2,us2,rfl,h3,h4⟩:=h2.uncons
  rw [h4.unnil]
  obtain ⟨b,hb,rfl⟩:=h1
  rw [jg2 h3]
  have hbm:=Zi hb
  refine ⟨b,_,rfl,r.bg b hbm,hf.1.1,hf.1.2,fun i H' h0 hm hB hK=>?_⟩
  obtain ⟨r1,e1,_⟩:=r.draw hbm hK hB
  exact q _ _ O w H' (hf.2 i h0 hm) e1 r1 (.int _)
 ·exact hf.elim
def fBag:FM:=fun O xs P _=>match xs with
 | [.scr _,.im (.int k)]=>(0 ≤ k∧k < 100)∧∀ j,P (.bag j) O
 | _=>False
theorem lk_bag:LkS K (spBag K) fBag:=fun w O H vs xs P PX Q E r a hf q x=>by
 unfold fBag at hf
 split at hf
 ·obtain ⟨v,us,rfl,h1,h2⟩:=a.uncons
  obtain ⟨v2,us2,rfl,h3,h4⟩:=h2.uncons
  rw [h4.unnil]
  obtain ⟨b,rfl,hb⟩:=h1
  rw [jg2 h3]
  refine ⟨b,_,_,rfl,KG.SqL.stay hb g_le,hf.1.1,hf.1.2,fun p c d hp=>?_⟩
  obtain ⟨r1,e1⟩:=r.bag (x:=c) (y:=d) hp
  exact q _ _ O _ _ (hf.2 w.bags.length) e1 r1 ⟨p,by simp,rfl⟩
 ·exact hf.elim
theorem new_q (r:RelO K w O H) {p:Addr} {q:Rat} (hp:H p=none):RelO K w O (upd H p (qO q))∧Ext w O H w O (upd H p (qO q))∧TrG (G w O (upd H p (qO q))) (.ref p) (qD q):=new_tup r hp (.cons (.int _) (.cons (.int _) .nil))
theorem grown_q (r:RelO K w O H) {p:Addr} {q:Rat} {H':Hp} (s:Stay H H') (hp:H' p=some (qO q)):RelO K w O H'∧Ext w O H w O H'∧TrG (G w O H') (.ref p) (qD q):=grown_tup r s hp (.cons (.int _) (.cons (.int _) .nil))
theorem g_q {v:V} {q:Rat} (h:TrG (G w O H) v (qD q)):∃ p,v=.ref p∧H p=some (qO q):=by
 obtain ⟨a,xs,rfl,h1,t⟩:=g_tup h
 cases t with | cons t1 t2=>cases t2 with | cons t2 t3=>cases t3; cases t1; cases t2; exact ⟨a,rfl,h1⟩
def fLf:FM:=fun O xs P _=>match xs with
 | [.im (.int t),.im (.int u)]=>(0 < u∧Bd 8000 u)∧P (.im (qD (Rat.divInt t u))) O
 | _=>False
theorem lk_lf:LkS K spLf fLf:=fun w O H vs xs P PX Q E r a hf q x=>by
 unfold fLf at hf
 split at hf
 ·obtain ⟨v,us,rfl,h1,h2⟩:=a.uncons
  obtain ⟨v2,us2,rfl,h3,h4⟩:=h2.uncons
  rw [h4.unnil,jg2 h1,jg2 h3]
  refine ⟨_,_,rfl,hf.1.1,hf.1.2,fun p hp=>?_⟩
  obtain ⟨r1,e1,t1⟩:=new_q r hp
  exact q _ _ O w _ hf.2 e1 r1 t1
 ·exact hf.elim
def f2 (op:Rat→Rat→Rat):FM:=fun O xs P _=>∃ a b,xs=[.im (qD a),.im (qD b)]∧(Rb 3000 a∧Rb 3000 b)∧P (.im (qD (op a b))) O
theorem lk_2 {op:Rat→Rat→Rat}:LkS K (sp2 op) (f2 op):=fun w O H vs xs P PX Q E r a hf q x=>by
 obtain ⟨a1,b1,rfl,h0,hf⟩:=hf
 obtain ⟨v,us,rfl,h1,h2⟩:=a.uncons
 obtain ⟨v2,us2,rfl,h3,h4⟩:=h2.uncons
 rw [h4.unnil]
 obtain ⟨p1,rfl,g1⟩:=g_q h1
 obtain ⟨p2,rfl,g2⟩:=g_q h3
 refine ⟨p1,p2,a1,b1,rfl,g1,g2,h0.1,h0.2,fun p hp=>?_⟩
 obtain ⟨r1,e1,t1⟩:=new_q r hp
 exact q _ _ O w _ hf e1 r1 t1
def fLess:FM:=fun O xs P _=>∃ a b,xs=[.im (qD a),.im (qD b)]∧(Rb 3000 a∧Rb 3000 b)∧P (.im (.bool (decide (a < b)))) O
theorem lk_less:LkS K spLess fLess:=fun w O H vs xs P PX Q E r a hf q x=>by
 obtain ⟨a1,b1,rfl,h0,hf⟩:=hf
 obtain ⟨v,us,rfl,h1,h2⟩:=a.uncons
 obtain ⟨v2,us2,rfl,h3,h4⟩:=h2.uncons
 rw [h4.unnil]
 obtain ⟨p1,rfl,g1⟩:=g_q h1
 obtain ⟨p2,rfl,g2⟩:=g_q h3
 exact ⟨p1,p2,a1,b1,rfl,g1,g2,h0.1,h0.2,q _ _ O w H hf (Ext.refl _ _ _) r (.bl _)⟩
theorem g_frs {g:Hp}:∀ {qs:List Rat} {ys:List V},TrGs g ys (qs.map qD)→Frs g ys qs
 | [],_,h=>by cases h; exact ⟨rfl,fun j y h=>by simp at h⟩
 | q :: qs,_,h=>by
  cases h with | cons h1 h2=>?_
  have ih:=g_frs h2
  cases h1 with | tup h3 h4=>?_
  cases h4 with | cons t1 t2=>?_
  cases t2 with | cons t2 t3=>?_
  cases t3
  cases t1
  cases t2
  refine ⟨by simp [ih.1],fun j y hy=>?_⟩
  cases j with
  | zero=>exact ⟨_,(Option.some.inj hy).symm,h3⟩
  | succ j=>exact ih.2 j y (by simpa using hy)
def fSum:FM:=fun O xs P _=>∃ qs:List Rat,xs=[.im (.list (qs.map qD))]∧((∀ q ∈ qs,Rb 300 q)∧qs.length ≤ 8)∧P (.im (qD (sumQ qs))) O
theorem lk_sumQ:LkS K spSum fSum:=fun w O H vs xs P PX Q E r a hf q x=>by
 obtain ⟨qs,rfl,h0,hf⟩:=hf
 obtain ⟨v,us,rfl,h1,h2⟩:=a.uncons
 rw [h2.unnil]
 obtain ⟨p,ys,rfl,g1,t1⟩:=g_lst h1
 refine ⟨p,ys,qs,rfl,g1,(g_frs t1).stay g_le,h0.1,h0.2,fun r' H' s hr'=>?_⟩
 obtain ⟨r1,e1,t2⟩:=grown_q r s hr'
 exact q _ _ O w H' hf e1 r1 t2
end
section
variable {n:Nat} {ix:List Nat} {items:List AV} {M:ME} {C:MT} {sl:Slt} {O:Sto} {Q:AV→Sto→Prop}
theorem comp_all (R:Nat→PyData→Prop) (hl:items.length ≤ 1000000)
  (hs:∀ (i:Nat) x (Z:AV→Sto→Prop),items[i]?=some x→(∀ d,R i d→Z (.im d) O)→M ((blkS n ix sl).set 0 (some x)) O Z)
  (hd:∀ ds:List PyData,ds.length=items.length→(∀ j,j < ds.length→R j (ds.getD j .none))→Q (.im (.list ds)) O):CB n ix (mgN 0) mYes M sl Q items O:=by
 refine ⟨hl,fun i ds O'=>O'=O∧ds.length=i∧∀ j,j < ds.length→R j (ds.getD j .none),⟨rfl,rfl,fun j hj=>absurd hj (by simp)⟩,?_,fun ds O' ⟨e,h1,h2⟩=>e ▸ hd ds h1 h2⟩
 rintro i x ds O' hx ⟨rfl,hli,hR⟩
 refine ⟨fun _=>hs i x _ hx fun d hdR=>⟨rfl,by simp [hli],fun j hj=>?_⟩,fun z=>by cases z⟩
 rcases Nat.lt_or_ge j ds.length with y | y
 ·have:(ds ++ [d]).getD j .none=ds.getD j .none:=by simp [List.getD,Zr y]
  rw [this]; exact hR j y
 ·have hj':j=ds.length:=by simp at hj; omega
  subst hj'
  have:(ds ++ [d]).getD ds.length .none=d:=by simp [List.getD]
  rw [this,hli]; exact hdR
theorem list_ix {ds:List PyData} {f:Nat→PyData} (h:∀ j,j < ds.length→ds.getD j .none=f j):ds=(List.range ds.length).map f:=by
 apply List.ext_getElem?
 intro j
 rw [Zg]
 rcases Nat.lt_or_ge j ds.length with y | y
 ·rw [Yj y,Option.map_some,← h j y,jc2 (Zc y)]; exact Zc y
 ·rw [Yk y,Yk (by simpa using y)]; rfl
theorem ji7 (f:Nat→PyData) (hl:items.length ≤ 1000000)
  (hs:∀ (i:Nat) x (Z:AV→Sto→Prop),items[i]?=some x→Z (.im (f i)) O→M ((blkS n ix sl).set 0 (some x)) O Z)
  (hd:Q (.im (.list ((List.range items.length).map f))) O):CB n ix (mgN 0) mYes M sl Q items O :=
 comp_all (fun i d=>d=f i) hl (fun i x Z hx h=>hs i x Z hx (h _ rfl)) fun ds h1 h2=>by rw [list_ix h2,h1]; exact hd
theorem comp_filt (c:Nat→Bool) (f:Nat→PyData) (hl:items.length ≤ 1000000)
  (hc:∀ (i:Nat) x (Z:Bool→Sto→Prop),items[i]?=some x→Z (c i) O→C ((blkS n ix sl).set 0 (some x)) O Z)
  (hs:∀ (i:Nat) x (Z:AV→Sto→Prop),items[i]?=some x→c i=true→Z (.im (f i)) O→M ((blkS n ix sl).set 0 (some x)) O Z)
  (hd:Q (.im (.list (((List.range items.length).filter c).map f))) O):CB n ix (mgN 0) C M sl Q items O:=by
 refine ⟨hl,fun i ds O'=>O'=O∧ds=((List.range i).filter c).map f,⟨rfl,rfl⟩,?_,fun ds O' ⟨e,h1⟩=>by rw [e,h1]; exact hd⟩
 rintro i x ds O' hx ⟨rfl,rfl⟩
 exact hc i x _ hx ⟨fun h=>hs i x _ hx h ⟨rfl,by rw [filt_snoc,h,if_pos rfl]⟩,fun h=>⟨rfl,by rw [filt_snoc,h,if_neg (by decide),List.append_nil]⟩⟩
theorem compO_all (R:Nat→AV→Prop) (hl:items.length ≤ 1000000)
  (hs:∀ (i:Nat) x (Z:AV→Sto→Prop),items[i]?=some x→(∀ d,R i d→Z d O)→M ((blkS n ix sl).set 0 (some x)) O Z)
  (hd:∀ zs:List AV,zs.length=items.length→(∀ j z,zs[j]?=some z→R j z)→Q (.own O.length) (O ++ [some zs])):CBO n ix (mgN 0) mYes M sl Q items O:=by
 refine ⟨hl,fun i zs O'=>O'=O∧zs.length=i∧∀ (j:Nat) z,zs[j]?=some z→R j z,⟨rfl,rfl,fun j z hj=>by simp at hj⟩,?_,fun zs O' ⟨e,h1,h2⟩=>e ▸ hd zs h1 h2⟩
 rintro i x zs O' hx ⟨rfl,hli,hR⟩
 refine ⟨fun _=>hs i x _ hx fun d hdR=>⟨rfl,by simp [hli],fun j z hj=>?_⟩,fun z=>by cases z⟩
 rcases Nat.lt_or_ge j zs.length with y | y
 ·rw [Zr y] at hj; exact hR j z hj
 ·have hj':=(Ze.mp hj).1
  have:j=zs.length:=by simp at hj'; omega
  subst this
  simp at hj
  rw [← hj,hli]; exact hdR
theorem je6 (lo:Int) (n:Nat):(rngI lo n).length=n:=by unfold rngI; simp
theorem rng_at {lo:Int} {n i:Nat} {x:AV} (h:(rngI lo n)[i]?=some x):i < n∧x=.im (.int (lo + (i:Int))):=by
 unfold rngI at h
 have hi:i < n:=by have:=(Ze.mp h).1; simpa using this
 rw [Zg,Yj hi] at h
 exact ⟨hi,(Option.some.inj h).symm⟩
theorem jg4 {n i:Nat} {x:AV} (h:(rngI 0 n)[i]?=some x):i < n∧x=.im (.int (i:Int)):=by
 obtain ⟨h1,h2⟩:=rng_at h; exact ⟨h1,by rw [h2,Int.zero_add]⟩
theorem dI {i j:Int}:min (PyData.int i).depth (PyData.int j).depth ≤ 60:=by show min 0 0 ≤ 60; decide
theorem len1 {α : Type} {x:α}:[x].length ≤ sizeLine:=by show 1 ≤ sizeLine; decide
theorem len2 {α : Type} {x y:α}:[x,y].length ≤ sizeLine:=by show 2 ≤ sizeLine; decide
theorem len3 {α : Type} {x y z:α}:[x,y,z].length ≤ sizeLine:=by show 3 ≤ sizeLine; decide
theorem bd30 {n:Int} (h:n.natAbs < 2 ^ 40):Bd 8000 n:=Yd h (Nat.pow_le_pow_right (by decide) (by decide))
theorem atI_get {α : Type} {xs:List α} {i:Nat} {x:α} (h:xs[i]?=some x):atI xs (i:Int)=some x:=atI_nat h
def Grew (O O':Sto):Prop:=∃ t,O'=O ++ t
theorem Grew.refl (O:Sto):Grew O O:=⟨[],by simp⟩
theorem Grew.app {O O':Sto} (h:Grew O O') (c:Option (List AV)):Grew O (O' ++ [c]):=by obtain ⟨t,rfl⟩:=h; exact ⟨t ++ [c],by simp⟩
theorem Grew.set {O O':Sto} (h:Grew O O') {k:Nat} (hk:O.length ≤ k) (c:Option (List AV)):Grew O (O'.set k c):=by
 obtain ⟨t,rfl⟩:=h
 exact ⟨t.set (k - O.length) c,by rw [List.set_append,if_neg (by omega)]⟩
theorem Grew.none {O:Sto}:∀ {ks:List Nat} {O':Sto},Grew O O'→(∀ k ∈ ks,O.length ≤ k)→Grew O (jh9 O' ks)
 | [],_,h,_=>h
 | k :: ks,_,h,hk=>Grew.none (ks:=ks) (h.set (hk k Yb) _) fun j hj=>hk j (Zu _ hj)
def mkD (A:List Int) (Pu:List Rat) (W:List (List Int)):PyData:=.tuple [.tuple (A.map .int),.tuple (Pu.map qD),.tuple (W.map rowD)]
theorem choose_q {R:Nat→Rat→Prop}:∀ {ds:List PyData},(∀ j,j < ds.length→∃ q:Rat,ds.getD j .none=qD q∧R j q)→∃ qs:List Rat,ds=qs.map qD∧∀ j,j < qs.length→R j (qs.getD j 0):=by
 intro ds
 induction ds generalizing R with
 | nil=>intro _; exact ⟨[],rfl,fun j hj=>absurd hj (by simp)⟩
 | cons d ds ih =>
  intro h
  obtain ⟨q,e,hq⟩:=h 0 (by simp)
  obtain ⟨qs,e2,h2⟩:=ih (R:=fun j=>R (j + 1)) fun j hj=>by
   obtain ⟨q',e',h'⟩:=h (j + 1) (by simp; omega)
   exact ⟨q',by simpa [List.getD] using e',h'⟩
  refine ⟨q :: qs,?_,fun j hj=>?_⟩
  ·have e':d=qD q:=by simpa [List.getD] using e
   rw [e',e2]; rfl
  ·cases j with
   | zero=>exact hq
   | succ j=>exact h2 j (by simpa using hj)
theorem choose_i {R:Nat→Int→Prop}:∀ {ds:List PyData},(∀ j,j < ds.length→∃ q:Int,ds.getD j .none=.int q∧R j q)→∃ qs:List Int,ds=qs.map .int∧∀ j,j < qs.length→R j (qs.getD j 0):=by
 intro ds
 induction ds generalizing R with
 | nil=>intro _; exact ⟨[],rfl,fun j hj=>absurd hj (by simp)⟩
 | cons d ds ih =>
  intro h
  obtain ⟨q,e,hq⟩:=h 0 (by simp)
  obtain ⟨qs,e2,h2⟩:=ih (R:=fun j=>R (j + 1)) fun j hj=>by
   obtain ⟨q',e',h'⟩:=h (j + 1) (by simp; omega)
   exact ⟨q',by simpa [List.getD] using e',h'⟩
  refine ⟨q :: qs,?_,fun j hj=>?_⟩
  ·have e':d=.int q:=by simpa [List.getD] using e
   rw [e',e2]; rfl
  ·cases j with
   | zero=>exact hq
   | succ j=>exact h2 j (by simpa using hj)
theorem choose_ai {R:Nat→Int→Prop}:∀ {ds:List AV},(∀ (j:Nat) z,ds[j]?=some z→∃ q:Int,z=.im (.int q)∧R j q)→∃ qs:List Int,ds=qs.map (fun i=>AV.im (.int i))∧∀ j,j < qs.length→R j (qs.getD j 0):=by
 intro ds
 induction ds generalizing R with
 | nil=>intro _; exact ⟨[],rfl,fun j hj=>absurd hj (by simp)⟩
 | cons d ds ih =>
  intro h
  obtain ⟨q,e,hq⟩:=h 0 d rfl
  obtain ⟨qs,e2,h2⟩:=ih (R:=fun j=>R (j + 1)) fun j z hj=>h (j + 1) z (by simpa using hj)
  refine ⟨q :: qs,by rw [e,e2]; rfl,fun j hj=>?_⟩
  cases j with
  | zero=>exact hq
  | succ j=>exact h2 j (by simpa using hj)
theorem jg0 {α β : Type} {f:α→β} {xs:List α} {j:Nat} {d:α} (h:j < xs.length):(xs.map f)[j]?=some (f (xs.getD j d)):=by
 rw [Zg,Zc h,jc2 (Zc h)]; rfl
end
section
variable {K:PySem.W.Frag} {QX:Addr→Sto→Prop} {E:XK} {X:Cx} {w:Wd} {O:Sto} {H:Hp}
theorem PE.mimp {e:Expr} {M M':ME} (h:PE X e (teM K QX E M)) (i:∀ sl O Q,M' sl O Q→M sl O Q):PE X e (teM K QX E M'):=PE.imp h fun σ H Q ⟨w,O,sl,Q0,c,m,q⟩=>⟨w,O,sl,Q0,c,i sl O Q0 m,q⟩
theorem PA.mimp {es:List Expr} {M M':MA} (h:PA X es (taM K QX E M)) (i:∀ sl O Q,M' sl O Q→M sl O Q):PA X es (taM K QX E M'):=PA.imp h fun σ H Q ⟨w,O,sl,Q0,c,m,q⟩=>⟨w,O,sl,Q0,c,i sl O Q0 m,q⟩
theorem ims_map:∀ ds:List PyData,ims (ds.map .im)=some ds
 | []=>rfl
 | d :: ds=>by show (match ims (ds.map .im) with | some ds=>some (d :: ds) | none=>none)=_; rw [ims_map ds]
abbrev powF:MF2:=int2 CPow fun i j=>.int (i ^ j.toNat)
theorem mo_pow {Ma Mb:ME} {a b:Expr} {pos:Pos} (ha:PE X a (teM K QX E Ma)) (hb:PE X b (teM K QX E Mb)):PE X (.BinOp a .Pow b pos) (teM K QX E (mOp powF Ma Mb)):=me_op op_pow (lk_int2 fun _ _ _=>.int _) ha hb
def mCs (ds:List PyData):MA:=fun _ O Q=>Q (ds.map .im) O
theorem ma_lits {n:Nat} (ih:∀ (e:Expr) (d:PyData),lit (fun _=>none) n e=some d→PE X e (teM K QX E (mC d))):∀ (es:List Expr) (ds:List PyData),litL (lit (fun _=>none) n) es=some ds→PA X es (taM K QX E (mCs ds))
 | [],ds,h=>by
  simp [litL] at h; subst h
  exact PA.mimp ja4 fun sl O Q q=>q
 | e :: es,ds,h=>by
  unfold litL at h
  split at h
  ·next d ds' h1 h2 =>
   cases h
   exact PA.mimp (ja0 (ih e d h1) (ma_lits ih es ds' h2) (lit_star h1)) fun sl O Q q=>q
  ·cases h
theorem me_lit:∀ (n:Nat) (e:Expr) (d:PyData),lit (fun _=>none) n e=some d→PE X e (teM K QX E (mC d)):=by
 intro n
 induction n with
 | zero=>intro e d h; cases h
 | succ n ih =>
  intro e d h
  have h:litS (fun _=>none) (lit (fun _=>none) n) e=some d:=h
  unfold litS at h
  split at h
  ·cases h
  ·cases h; exact jb2
  ·cases h; exact me_bl
  ·cases h; exact me_non
  ·split at h
   ·next ok=>cases h; exact me_str ok
   ·cases h
  ·split at h
   ·next i e1=>cases h; exact PE.mimp (me_neg (ih _ _ e1)) fun sl O Q q=>q
   ·cases h
  ·split at h
   ·next i j e1 e2=>cases h; exact PE.mimp (jd8 (ih _ _ e1) (ih _ _ e2)) fun sl O Q q=>q
   ·cases h
  ·split at h
   ·next i j e1 e2=>cases h; exact PE.mimp (mo_sub (ih _ _ e1) (ih _ _ e2)) fun sl O Q q=>q
   ·cases h
  ·split at h
   ·next i j e1 e2 =>
    split at h
    ·next hc=>cases h; exact PE.mimp (mo_pow (ih _ _ e1) (ih _ _ e2)) fun sl O Q q=>⟨hc,q⟩
    ·cases h
   ·cases h
  ·split at h
   ·next hl =>
    obtain ⟨ds,e1,rfl⟩:=Option.map_eq_some_iff.mp h
    refine PE.mimp (je1 (ma_lits ih _ _ e1)) fun sl O Q q=>?_
    show (match ims (ds.map .im) with | some ds=>ds.length ≤ sizeLine∧Q (.im (.tuple ds)) O | none=>False)
    rw [ims_map]
    exact ⟨by rw [litL_len e1,sz]; omega,q⟩
   ·cases h
  ·split at h
   ·next hl =>
    obtain ⟨ds,e1,rfl⟩:=Option.map_eq_some_iff.mp h
    refine PE.mimp (jg3 (ma_lits ih _ _ e1)) fun sl O Q q=>?_
    show (match ims (ds.map .im) with | some ds=>ds.length ≤ sizeLine∧Q (.im (.list ds)) O | none=>False)
    rw [ims_map]
    exact ⟨by rw [litL_len e1,sz]; omega,q⟩
   ·cases h
  ·cases h
section
variable {e:Expr} {M:ME} {p p2 pos:Pos}
theorem me_isituple (Z:IsK K) (he:PE X e (teM K QX E M)) (hg:Gl X "isinstance") (hm:X.mg "isinstance"=none) (hgT:Gl X "tuple") (hmT:X.mg "tuple"=none) (h:X.K=K:=by rfl)
  (hs:starEach [e,.Name "tuple" p2] X.env=[(false,eval e X.env),(false,eval (.Name "tuple" p2) X.env)]:=by rfl) (hpl:(backTo pos (starEach [.Name "tuple" p2] X.env)).any (·.1)=false:=by rfl) :
  PE X (.Call (.Name "isinstance" p) [e,.Name "tuple" p2] [] pos) (teM K QX E (mIsi isT M)):=PE.imp (pIsi K he hg hm hgT hmT jb8 jb4 h (by decide) (by decide) hs hpl) (lift_isi fun d hd=>by
 cases d with
 | none=>exact Z.t1
 | bool b=>exact Z.t2
 | int i=>exact Z.t3
 | str x=>exact Z.t4
 | list x=>exact Z.t5
 | tuple x=>exact Z.t6
 | dict x=>exact absurd rfl (hd x))
end
theorem cutD_to {xs:List PyData} {r:Int} (h0:0 ≤ r) (h1:r < xs.length):cutD xs none (some r)=xs.take r.toNat:=by
 have e1:HT.sIx xs.length xs.length (some r)=r.toNat:=by
  show (if r < 0 then (r + (xs.length:Int)).toNat else min r.toNat xs.length)=_
  rw [if_neg (by omega)]; omega
 unfold cutD
 rw [HT.sIx_none,e1]; simp
theorem cutD_from {xs:List PyData} {r:Int} (h0:0 ≤ r) (h1:r ≤ xs.length):cutD xs (some r) none=xs.drop r.toNat:=by
 have e1:HT.sIx xs.length 0 (some r)=r.toNat:=by
  show (if r < 0 then (r + (xs.length:Int)).toNat else min r.toNat xs.length)=_
  rw [if_neg (by omega)]; omega
 unfold cutD
 rw [HT.sIx_none,e1,List.take_of_length_le]
 rw [List.length_drop]; omega
mutual
theorem TrG.far {g:Hp}:∀ {v:V} {d:PyData},TrG g v d→∃ n:Nat,∀ b,n ≤ b→TrV b g v d
 | _,_,.non=>⟨0,fun b _=>.non⟩
 | _,_,.bl c=>⟨0,fun b _=>.bl c⟩
 | _,_,.int i=>⟨0,fun b _=>.int i⟩
 | _,_,.str x o=>⟨0,fun b _=>.str x o⟩
 | _,_,.lst (a:=a) h t=>by
  obtain ⟨n,hn⟩:=TrGs.far t
  exact ⟨n + a + 1,fun b hb=>.lst (Nat.ne_of_lt (by omega)) h (hn b (by omega))⟩
 | _,_,.tup h t=>by
  obtain ⟨n,hn⟩:=TrGs.far t
  exact ⟨n,fun b hb=>.tup h (hn b hb)⟩
theorem TrGs.far {g:Hp}:∀ {vs:List V} {ds:List PyData},TrGs g vs ds→∃ n:Nat,∀ b,n ≤ b→TrVs b g vs ds
 | _,_,.nil=>⟨0,fun b _=>.nil⟩
 | _,_,.cons h t=>by
  obtain ⟨n,hn⟩:=TrG.far h
  obtain ⟨m,hm⟩:=TrGs.far t
  exact ⟨n + m,fun b hb=>.cons (hn b (by omega)) (hm b (by omega))⟩
end
theorem avs1 {vs:List V} {x:AV} {g:Hp} (a:AVrs K w g vs [x]):∃ v,vs=[v]∧AVr K w g v x:=by
 obtain ⟨v,us,rfl,h1,h2⟩:=a.uncons
 rw [h2.unnil]; exact ⟨v,rfl,h1⟩
theorem avs2 {vs:List V} {x y:AV} {g:Hp} (a:AVrs K w g vs [x,y]):∃ v u,vs=[v,u]∧AVr K w g v x∧AVr K w g u y:=by
 obtain ⟨v,us,rfl,h1,h2⟩:=a.uncons
 obtain ⟨u,rfl,h3⟩:=avs1 h2
 exact ⟨v,u,rfl,h1,h3⟩
theorem avs3 {vs:List V} {x y z:AV} {g:Hp} (a:AVrs K w g vs [x,y,z]):∃ v u t,vs=[v,u,t]∧AVr K w g v x∧AVr K w g u y∧AVr K w g t z:=by
 obtain ⟨v,us,rfl,h1,h2⟩:=a.uncons
 obtain ⟨u,t,rfl,h3,h4⟩:=avs2 h2
 exact ⟨v,u,t,rfl,h1,h3,h4⟩
def fT (m:PyData→Bool):FM:=fun O xs P _=>match xs with
 | [.im d]=>P (.im (.bool (m d))) O
 | _=>False
theorem lk_T {m:PyData→Bool}:LkS K (spT m) (fT m):=fun w O H vs xs P PX Q E r a hf q x=>by
 unfold fT at hf
 split at hf
 ·obtain ⟨v,rfl,h1⟩:=avs1 a
  obtain ⟨n,hn⟩:=TrG.far (TrG.stay g_le h1)
  refine ⟨n,v,_,rfl,hn n (Zd _),fun H' s=>?_⟩
  obtain ⟨r1,e1,_⟩:=r.stay s
  exact q _ _ O w H' hf e1 r1 (.bl _)
 ·exact hf.elim
theorem noLs_map {α : Type} {f:α→PyData} (h:∀ a,noL (f a)=true):∀ xs:List α,noLs (xs.map f)=true
 | []=>rfl
 | a :: xs=>by show (noL (f a) && noLs (xs.map f))=true; rw [h a,noLs_map h xs]; rfl
theorem noL_q (q:Rat):noL (qD q)=true:=rfl
theorem noL_qs (qs:List Rat):noL (.tuple (qs.map qD))=true:=noLs_map noL_q qs
theorem noL_row (r:List Int):noL (rowD r)=true:=noLs_map (f:=PyData.int) (fun _=>rfl) r
theorem noL_mat (D:List (List Rat)):noL (matD D)=true:=noLs_map (f:=fun qs:List Rat=>PyData.tuple (qs.map qD)) (fun qs=>noL_qs qs) D
theorem noL_mk (A:List Int) (Pu:List Rat) (W:List (List Int)):noL (mkD A Pu W)=true:=by
 show (noLs (A.map .int) && (noLs (Pu.map qD) && (noLs (W.map rowD) && true)))=true
 rw [noLs_map (f:=PyData.int) (fun _=>rfl),noLs_map noL_q,noLs_map noL_row]; rfl
theorem toV {v:V} {d:PyData} (b:Addr) (h:TrG (G w O H) v d) (n:noL d=true):TrV b H v d:=TrG.trv n (TrG.stay g_le h)
end
section
variable {K:PySem.W.Frag} {w:Wd} {O:Sto} {H:Hp}
theorem pursesQ_q (Pu:List Rat):jd5 (Pu.map qD)=Pu:=by
 unfold jd5; rw [Zs]
 have:(qOf ∘ qD)=id:=funext fun q=>qOf_qD q
 rw [this,List.map_id]
theorem rowsOf_row (W:List (List Int)):rowsOf (W.map rowD)=W:=by
 unfold rowsOf; rw [Zs]
 have:(rowOf ∘ rowD)=id:=funext fun r=>by
  show (r.map PyData.int).map intOf=r
  rw [Zs]
  have:(intOf ∘ PyData.int)=id:=rfl
  rw [this,List.map_id]
 rw [this,List.map_id]
theorem ints_int (A:List Int):(A.map PyData.int).map intOf=A:=by
 rw [Zs]
 have:(intOf ∘ PyData.int)=id:=rfl
 rw [this,List.map_id]
theorem mkAt {v:V} {A:List Int} {Pu:List Rat} {W:List (List Int)} (b:Addr) (h:TrG (G w O H) v (mkD A Pu W)) (m:isMk (mkD A Pu W)=true) :
  ∃ p pa pp pw xa xp xw,v=.ref p∧MkAt b H p pa pp pw xa xp xw (A.map .int) (Pu.map qD) (W.map rowD)∧xa.length=A.length∧xp.length=Pu.length:=by
 have t:=toV b h (noL_mk A Pu W)
 cases v with
 | ref p =>
  obtain ⟨pa,pp,pw,xa,xp,xw,mk⟩:=MkAt.of t m
  exact ⟨p,pa,pp,pw,xa,xp,xw,rfl,mk,by rw [mk.ta.len,Zb],by rw [mk.tp.len,Zb]⟩
 | _=>cases t
theorem prAt {v:V} {qs:List Rat} (b:Addr) (h:TrG (G w O H) v (.tuple (qs.map qD))) (hb:∀ z ∈ qs,Rb 293 z):∃ q ys,v=.ref q∧PrAt b H q ys qs:=by
 cases toV b h (noL_qs qs) with | tup h1 h2=>exact ⟨_,_,rfl,h1,h2,hb⟩
structure Priced (A:List Int) (Pu:List Rat) (W:List (List Int)) (qs:List Rat):Prop where
 ok:isMk (mkD A Pu W)=true
 len:qs.length=A.length
 prs:Prs W qs
 bd:∀ z ∈ qs,Rb 293 z
def fShows:FM:=fun O xs P _=>∃ (A:List Int) (Pu:List Rat) (W:List (List Int)) (qs:List Rat) (D:List (List Rat)),xs=[.im (mkD A Pu W),.im (.tuple (qs.map qD)),.im (matD D)]∧Priced A Pu W qs∧D.length=Pu.length∧(∀ r ∈ D,r.length=A.length)∧(∀ r ∈ D,∀ z ∈ r,0 ≤ z∧Rb 100 z)∧P (.im (.bool (showsB A Pu qs W D A.length))) O
theorem lk_shows:LkS K spShows fShows:=fun w O H vs xs P PX Q E r a hf q x=>by
 obtain ⟨A,Pu,W,qs,D,rfl,pr,hD1,hD2,hD3,hf⟩:=hf
 obtain ⟨v1,v2,v3,rfl,a1,a2,a3⟩:=avs3 a
 obtain ⟨p,pa,pp,pw,xa,xp,xw,rfl,mk,la,lp⟩:=mkAt 0 a1 pr.ok
 obtain ⟨qp,yp,rfl,pa'⟩:=prAt 0 a2 pr.bd
 have inj:∀ D',matD D=matD D'→D=D':=fun D' h=>by rw [← matOf_mat D,h,matOf_mat]
 refine ⟨0,p,pa,pp,pw,qp,xa,xp,xw,yp,_,_,_,qs,v3,matD D,rfl,mk,pa',by rw [pr.len,la],by rw [rowsOf_row]; exact pr.prs,toV 0 a3 (noL_mat D),fun D' h r hr z hz=>(hD3 r (inj D' h ▸ hr) z hz).2,fun h=>?_,fun D' h h1 h2 h3 H' s=>?_⟩
 ·rw [isDl_mat (by rw [hD1,lp]) (fun r hr=>by rw [hD2 r hr,la]) (fun r hr z hz=>(hD3 r hr z hz).1)] at h; cases h
 ·have:=inj D' h
  subst this
  obtain ⟨r1,e1,_⟩:=r.stay s
  rw [ints_int,pursesQ_q,rowsOf_row,la]
  exact q _ _ O w H' hf e1 r1 (.bl _)
def fMoved:FM:=fun O xs P _=>∃ (j g:Nat) (D:List (List Rat)),xs=[.bag j,.im (matD D)]∧(∀ r ∈ D,r.length=g)∧1 ≤ g∧g ≤ 6∧1 ≤ D.length∧D.length ≤ 6∧(∀ r ∈ D,∀ z ∈ r,Rb 6 z)∧∀ D':List (List Rat),D'.length=D.length→(∀ r ∈ D',r.length=g)→(∀ r ∈ D',∀ z ∈ r,Rb 29 z)→∀ O',Grew O O'→P (.im (matD D')) O'
def fFreeR:FM:=fun O xs P _=>∃ (j:Nat) (A:List Int) (Pu:List Rat) (W:List (List Int)) (qs:List Rat) (D:List (List Rat)),xs=[.bag j,.im (mkD A Pu W),.im (.tuple (qs.map qD)),.im (matD D)]∧Priced A Pu W qs∧A.length ≤ 5∧D.length=Pu.length∧D.length ≤ 6∧(∀ r ∈ D,r.length=A.length)∧(∀ r ∈ D,∀ z ∈ r,Rb 29 z)∧∀ O',Grew O O'→P (.im (.bool true)) O'
def fLaw:FM:=fun O xs P _=>∃ ns:List Int,xs=[.scr ns]∧ns.length ≤ 63∧∀ O',P (.im (.bool true)) O'
theorem law_of {Pg:Program} {wo:World} {mg:Str→Option Value} {base:Heap} {k:Nat} {f:Addr} {fd:FuncData} (F:FnOk Pg wo K mg base CX0 k f fd ["script"] (spM K fLaw)):FnOk Pg wo K mg base CX0 k f fd ["script"] (spLaw K):=F.imp fun vs H Q E ⟨a,ns,e,hS,hl,hq⟩=>by
 subst e
 have hid:∀ x,¬ Hid ⟨[],[],[]⟩ [] x:=fun x h=>by
  rcases h with h | ⟨o,h⟩ | ⟨k,c,h,_⟩
  ·cases h
  ·cases h
  ·simp at h
 have sg:Stay H (G ⟨[],[],[]⟩ [] H):=fun x o h=>by rw [G_of (hid x)]; exact h
 refine ⟨⟨[],[],[]⟩,[],[.scr ns],fun z _=>z=.im (.bool true),fun _ _=>False,⟨rfl,List.nodup_nil,fun a h=>(by cases h),fun a h=>(by cases h),List.nodup_nil,fun p h=>(by cases h),fun a h=>(by cases h),fun k c h=>by simp at h⟩,AVrs.cons ⟨a,rfl,KG.SqL.stay hS sg⟩ AVrs.nil,⟨ns,rfl,hl,fun O'=>rfl⟩,fun z q O' w' H' hz e r av=>?_,fun c O' w' H' h=>h.elim⟩
 subst hz
 rw [g_bl av]
 exact hq H'
end
theorem ln_q {n:Nat} (h:2 ≤ n) (q:Rat):ln n (qD q)=true:=ln_t.mpr ⟨h,fun d hd=>by
 simp only [Zf,List.not_mem_nil,or_false] at hd
 rcases hd with rfl | rfl <;> rfl⟩
theorem ln_mat {D:List (List Rat)} {n:Nat} (h2:2 ≤ n) (h1:D.length ≤ n) (hr:∀ r ∈ D,r.length ≤ n):ln n (matD D)=true:=ln_t.mpr ⟨by rw [Zb]; exact h1,fun d hd=>by
 obtain ⟨r,hr',rfl⟩:=Zk.mp hd
 exact ln_t.mpr ⟨by rw [Zb]; exact hr r hr',fun e he=>by obtain ⟨q,_,rfl⟩:=Zk.mp he; exact ln_q h2 q⟩⟩
theorem pick2 (c:Bool):atI [PyData.tuple [.int 1,.int 1],PyData.tuple [.int 2,.int 1]] (if c=true then 1 else 0)=some (qD (if c=true then 2 else 1)):=by cases c <;> rfl
theorem q1312:PyData.tuple [.int 13,.int 12]=qD (Rat.divInt 13 12):=by
 have h:(Rat.divInt 13 12).num=13∧((Rat.divInt 13 12).den:Int)=12:=by decide +kernel
 show _=PyData.tuple [.int (Rat.divInt 13 12).num,.int ((Rat.divInt 13 12).den:Int)]
 rw [h.1,h.2]
theorem rb1312:0 < Rat.divInt 13 12∧Rb 4 (Rat.divInt 13 12):=by
 refine ⟨by decide +kernel,?_,?_⟩ <;> unfold Bd <;> decide +kernel
theorem mk_rich {A:List Int} {Pu:List Rat} {W:List (List Int)} {c:Bool} (h:isMk (mkD A Pu W)=true) (hn:1 ≤ Pu.length):isMk (mkD A ((if c=true then 2 else 1) :: Pu.drop 1) W)=true:=by
 obtain ⟨h1,h2,h3,h4,h5,h6,h7,h8⟩:=jh4 h
 rw [Zb] at h4 h5
 rw [Zb (f:=qD)] at h7
 have e:(if c=true then (2:Rat) else 1) :: Pu.drop 1=(if c=true then (2:Rat) else 1) :: Pu.drop 1:=rfl
 have hp:jd4 (qD (if c=true then 2 else 1))=true:=by cases c <;> decide +kernel
 have hd:((Pu.drop 1).map qD).all jd4=true:=Zt.mpr fun d hd=>by
  obtain ⟨q,hq,rfl⟩:=Zk.mp hd
  exact Zt.mp h6 _ (Zk.mpr ⟨q,List.mem_of_mem_drop hq,rfl⟩)
 have hl:((if c=true then (2:Rat) else 1) :: Pu.drop 1).length=Pu.length:=by simp; omega
 show (decide (1 ≤ (A.map PyData.int).length) && decide ((A.map PyData.int).length ≤ 6) && (A.map PyData.int).all (within 1 60) && (decide (1 ≤ (((if c=true then (2:Rat) else 1) :: Pu.drop 1).map qD).length) && decide ((((if c=true then (2:Rat) else 1) :: Pu.drop 1).map qD).length ≤ 6) && (qD (if c=true then 2 else 1) :: (Pu.drop 1).map qD).all jd4) && (decide ((W.map rowD).length=(((if c=true then (2:Rat) else 1) :: Pu.drop 1).map qD).length) && (W.map rowD).all (isRow (A.map PyData.int).length 0 100)))=true
 rw [Zb (f:=qD),hl,List.all_cons,hp,hd,decide_eq_true h1,decide_eq_true h2,h3,decide_eq_true h4,decide_eq_true h5,decide_eq_true h7,h8]; rfl
theorem cutD_to1 {xs:List PyData} (h:1 ≤ xs.length):cutD xs none (some 1)=xs.take 1:=by
 have e1:HT.sIx xs.length xs.length (some 1)=1:=by
  show (if (1:Int) < 0 then ((1:Int) + (xs.length:Int)).toNat else min ((1:Int)).toNat xs.length)=_
  rw [if_neg (by omega)]; omega
 unfold cutD
 rw [HT.sIx_none,e1]; simp
def cI (r:List Int):Option (List AV):=some (r.map fun x=>AV.im (.int x))
def cQ (r:List Rat):Option (List AV):=some (r.map fun x=>AV.im (qD x))
def owns (k n:Nat):List AV:=(List.range n).map fun t=>AV.own (k + t)
theorem jf8 (k n:Nat):(owns k n).length=n:=by unfold owns; simp
theorem owns_succ (k n:Nat):owns k (n + 1)=owns k n ++ [AV.own (k + n)]:=by unfold owns; rw [Yf,Zh]; rfl
theorem owns_at {k n i:Nat} (h:i < n):(owns k n)[i]?=some (.own (k + i)):=by unfold owns; rw [Zg,Yj h]; rfl
theorem owns_own (k n:Nat):owns k n=((List.range n).map fun t=>k + t).map AV.own:=by unfold owns; rw [Zs]; rfl
theorem set_end {α : Type} (O:List α) (x y:α):(O ++ [x]).set O.length y=O ++ [y]:=by rw [List.set_append,if_neg (by omega),Nat.sub_self]; rfl
theorem set_mid {α : Type} (O:List α) (x y:α) (t:List α):(O ++ x :: t).set O.length y=O ++ y :: t:=by rw [List.set_append,if_neg (by omega),Nat.sub_self]; rfl
theorem at_end {α : Type} (O:List α) (x:α):(O ++ [x])[O.length]?=some x:=by simp
theorem at_mid {α : Type} (O:List α) (x:α) (t:List α):(O ++ x :: t)[O.length]?=some x:=by simp
theorem at_tab {α β : Type} (f:α→β) (O:List β) (x:β) (W:List α) (i:Nat) (d:α) (h:i < W.length):(O ++ x :: W.map f)[O.length + 1 + i]?=some (f (W.getD i d)):=by
 rw [Yi (by omega),show O.length + 1 + i - O.length=i + 1 by omega,List.getElem?_cons_succ]
 exact jg0 h
theorem set_tab {α β : Type} (f:α→β) (O:List β) (x:β) (W:List α) (i:Nat) (r:α):(O ++ x :: W.map f).set (O.length + 1 + i) (f r)=O ++ x :: (W.set i r).map f:=by
 rw [List.set_append,if_neg (by omega),show O.length + 1 + i - O.length=i + 1 by omega,List.set_cons_succ,List.map_set]
theorem at_tab2 {α β : Type} (f:α→β) (O:List β) (x:β) (W:List α) (i:Nat) (d:α) (h:i < W.length):(O ++ (W.map f ++ [x]))[O.length + i]?=some (f (W.getD i d)):=by
 rw [Yi (by omega),Nat.add_sub_cancel_left,Zr (by simpa using h)]
 exact jg0 h
theorem set_tab2 {α β : Type} (f:α→β) (O:List β) (x:β) (W:List α) (i:Nat) (r:α) (h:i < W.length):(O ++ (W.map f ++ [x])).set (O.length + i) (f r)=O ++ ((W.set i r).map f ++ [x]):=by
 rw [List.set_append,if_neg (by omega),Nat.add_sub_cancel_left,List.set_append,if_pos (by simpa using h),List.map_set]
theorem ji9 {α β : Type} (f:α→β) (O:List β) (x:β) (W:List α):(O ++ (W.map f ++ [x]))[O.length + W.length]?=some x:=by
 rw [Yi (by omega),Nat.add_sub_cancel_left,Yi (by simp)]; simp
theorem ix_ok {n:Nat} {i:Nat} (h:i < n):ixN n (i:Int)=some i:=by unfold ixN; rw [if_pos (by omega),if_pos (by omega),Zp]
theorem rd_set (r:List Int) (j:Nat) (x:Int):((r.map fun x=>AV.im (.int x)).set j (.im (.int x)))=(r.set j x).map fun x=>AV.im (.int x):=by rw [List.map_set]
theorem rd_setQ (r:List Rat) (j:Nat) (x:Rat):((r.map fun x=>AV.im (qD x)).set j (.im (qD x)))=(r.set j x).map fun x=>AV.im (qD x):=by rw [List.map_set]
def RowOk (ts r:List Int):Prop:=r.length=ts.length∧∀ j,j < ts.length→0 ≤ r.getD j 0∧r.getD j 0 ≤ ts.getD j 0
theorem RowOk.put {ts r:List Int} (h:RowOk ts r) (h0:∀ j,j < ts.length→0 ≤ ts.getD j 0) (j:Nat):RowOk ts (r.set j (ts.getD j 0)):=by
 refine ⟨by rw [List.length_set]; exact h.1,fun i hi=>?_⟩
 by_cases e:j=i
 ·subst e
  have:(r.set j (ts.getD j 0)).getD j 0=ts.getD j 0:=by simp [List.getD,show j < r.length by rw [h.1]; exact hi]
  rw [this]; exact ⟨h0 j hi,Int.le_refl _⟩
 ·have:(r.set j (ts.getD j 0)).getD i 0=r.getD i 0:=by simp [List.getD,Yg e]
  rw [this]; exact h.2 i hi
theorem sum_upd {n i:Nat} {f f':Nat→Rat} (hi:i < n) (h:∀ k,k ≠ i→f' k=f k):sumQ ((List.range n).map f')=sumQ ((List.range n).map f) - f i + f' i:=by
 induction n with
 | zero=>exact absurd hi (by omega)
 | succ n ih =>
  rw [Yf,Zh,Zh,sumQ_app,sumQ_app]
  have e1:∀ g:Nat→Rat,sumQ ([n].map g)=g n:=fun g=>by show sumQ [g n]=_; rw [sumQ_cons]; show g n + 0=_; rw [Rat.add_zero]
  rw [e1,e1]
  by_cases e:i=n
  ·subst e
   have:(List.range i).map f'=(List.range i).map f:=List.map_congr_left fun k hk=>h k (by have:=List.mem_range.mp hk; omega)
   rw [this]; grind
  ·rw [ih (by omega),h n (fun z=>e z.symm)]; grind
theorem got_put {D:List (List Rat)} {i j:Nat} {z:Rat} (hi:i < D.length) (hj:j < (D.getD i []).length):gotQ (putQ D i j z) j=gotQ D j - eQ D i j + z:=by
 rw [gotQ_idx,gotQ_idx,putQ_len]
 have e:=eQ_put (D:=D) (i:=i) (g:=j) (q:=z) hi hj
 rw [sum_upd (f:=fun k=>eQ D k j) (f':=fun k=>eQ (putQ D i j z) k j) hi (fun k hk=>by show eQ (putQ D i j z) k j=_; rw [e,if_neg (fun h=>hk h.1)])]
 show _ - _ + eQ (putQ D i j z) i j=_
 rw [e,if_pos ⟨rfl,rfl⟩]
theorem got_put_ne {D:List (List Rat)} {i j j':Nat} {z:Rat} (hi:i < D.length) (hj:j < (D.getD i []).length) (h:j' ≠ j):gotQ (putQ D i j z) j'=gotQ D j':=by
 rw [gotQ_idx,gotQ_idx,putQ_len]
 congr 1
 exact List.map_congr_left fun k _=>by show eQ (putQ D i j z) k j'=_; rw [eQ_put hi hj,if_neg (fun z=>h z.2)]
theorem e_zero {n g i j:Nat}:eQ (List.replicate n (List.replicate g (0:Rat))) i j=0:=by
 unfold eQ
 simp only [List.getD,List.getElem?_replicate]
 split
 ·simp only [Option.getD_some,List.getElem?_replicate]; split <;> rfl
 ·rfl
theorem got_none {D:List (List Rat)} {i:Nat} (h:∀ b,eQ D b i=0):gotQ D i=0:=by
 rw [gotQ_idx]
 have:(List.range D.length).map (fun b=>eQ D b i)=(List.range D.length).map fun _=>(0:Rat):=List.map_congr_left fun b _=>h b
 rw [this]
 generalize D.length=m
 induction m with
 | zero=>rfl
 | succ m ih=>rw [Yf,Zh,sumQ_app,ih]; show (0:Rat) + sumQ [0]=0; rw [sumQ_cons]; show (0:Rat) + (0 + 0)=0; grind
theorem not_take {wl:List Nat} (h:wl.Nodup) {m:Nat} (hm:m < wl.length):wl.getD m 0 ∉ wl.take m:=fun z=>by
 rw [jc2 (Zc hm)] at z
 obtain ⟨j,hj,e⟩:=List.getElem_of_mem z
 rw [List.getElem_take] at e
 have:=(List.getElem_inj h).mp e
 rw [Zz] at hj
 omega
theorem range_getD {α β : Type} (f:α→β) (xs:List α) (d:α):(List.range xs.length).map (fun i=>f (xs.getD i d))=xs.map f:=by
 apply List.ext_getElem?
 intro j
 rw [Zg]
 rcases Nat.lt_or_ge j xs.length with y | y
 ·rw [Yj y,jg0 (d:=d) y]; rfl
 ·rw [Yk (by simpa using y),Yk (by simpa using y)]; rfl
theorem zip_at {ds es:List PyData} {i:Nat} {x:AV} (h:(zipI ds es)[i]?=some x):i < ds.length∧x=.im (.tuple [ds.getD i .none,es.getD i .none]):=by
 unfold zipI at h
 have hi:i < ds.length:=by have:=(Ze.mp h).1; simpa using this
 rw [Zg,Yj hi] at h
 exact ⟨hi,(Option.some.inj h).symm⟩
theorem zip_len (ds es:List PyData):(zipI ds es).length=ds.length:=by unfold zipI; simp
theorem sum_take {S:List Int} {m:Nat} (h:m < S.length):(S.take (m + 1)).sum=(S.take m).sum + S.getD m 0:=by
 rw [List.take_add_one,Zc h,jc2 (Zc h),List.sum_append]; simp
theorem sum_ge {S:List Int} (h:∀ x ∈ S,1 ≤ x∧x ≤ 2):(S.length:Int) ≤ S.sum∧S.sum ≤ 2 * S.length:=by
 induction S with
 | nil=>simp
 | cons a S ih =>
  obtain ⟨h1,h2⟩:=ih fun x hx=>h x (Zu _ hx)
  have h3:=h a Yb
  simp only [List.sum_cons,List.length_cons]; omega
theorem part_add {A s T t:Int} (hT:T ≠ 0):((A:Rat) * (s:Rat)) / (T:Rat) - 0 + Rat.divInt (A * t) T=((A:Rat) * ((s + t:Int):Rat)) / (T:Rat):=by
 rw [Rat.divInt_eq_div]
 have e1:((A * t:Int):Rat)=(A:Rat) * (t:Rat):=by push_cast; rfl
 have e2:((s + t:Int):Rat)=(s:Rat) + (t:Rat):=by push_cast; rfl
 rw [e1,e2]
 have hT':(T:Rat) ≠ 0:=by exact_mod_cast hT
 grind
theorem rb_part6 {A s T:Int} (hA:1 ≤ A∧A ≤ 9) (hs:1 ≤ s∧s ≤ 2) (hT:1 ≤ T∧T ≤ 12):0 ≤ Rat.divInt (A * s) T∧Rb 6 (Rat.divInt (A * s) T):=by
 have hm:0 ≤ A * s∧A * s ≤ 18:=by
  have:s=1 ∨ s=2:=by omega
  rcases this with rfl | rfl <;> omega
 refine ⟨?_,rb_div (by omega) (by unfold Bd; omega) (by unfold Bd; omega)⟩
 rw [Rat.divInt_eq_div]
 have h1:(0:Rat) ≤ ((A * s:Int):Rat):=by exact_mod_cast hm.1
 have h2:(0:Rat) < (T:Rat):=by exact_mod_cast (show (0:Int) < T by omega)
 rw [Rat.div_def]
 exact Rat.mul_nonneg h1 (Rat.le_of_lt (Rat.inv_pos.mpr h2))
theorem getD_set_self {r:List Int} {j:Nat} {x:Int} (h:j < r.length):(r.set j x).getD j 0=x:=by rw [List.getD,Yh h]; rfl
theorem zerosC (g:Nat):some ((List.replicate ((g:Int)).toNat [PyData.tuple [.int 0,.int 1]]).flatten.map AV.im)=cQ (List.replicate g 0):=by
 unfold cQ
 rw [Zp,List.map_replicate]
 congr 1
 induction g with
 | zero=>rfl
 | succ g ih=>rw [List.replicate_succ,List.flatten_cons,Zh,ih,List.replicate_succ]; rfl
def fKnown:FM:=fun O xs P _=>(∃ j,xs=[.bag j])∧∀ (n g:Nat) (ts A:List Int) (Pu qs:List Rat) (W:List (List Int)) (D:List (List Rat)) (O':Sto),Grew O O'→1 ≤ g→g ≤ 5→1 ≤ n→n ≤ 6→A.length=g→Pu.length=n→(∀ a ∈ A,1 ≤ a∧a ≤ 9)→(∀ z ∈ qs,0 < z∧Rb 4 z)→(∀ r ∈ D,∀ z ∈ r,0 ≤ z∧Rb 6 z)→Known n g ts A Pu qs W D→P (.im (.list [mkD A Pu W,.tuple (qs.map qD),matD D])) O'
theorem pr_div {a b:Int} (a0:0 ≤ a) (a1:a < 8) (b0:0 ≤ b) (b1:b < 4):0 < Rat.divInt (1 + a) (1 + b)∧Rb 4 (Rat.divInt (1 + a) (1 + b))∧((Rat.divInt ((Rat.divInt (1 + a) (1 + b)).num * 12) ((Rat.divInt (1 + a) (1 + b)).den:Int)).num:Rat)=12 * Rat.divInt (1 + a) (1 + b)∧0 < (Rat.divInt ((Rat.divInt (1 + a) (1 + b)).num * 12) ((Rat.divInt (1 + a) (1 + b)).den:Int)).num∧(Rat.divInt ((Rat.divInt (1 + a) (1 + b)).num * 12) ((Rat.divInt (1 + a) (1 + b)).den:Int)).num ≤ 96:=by
 have ha:a=0 ∨ a=1 ∨ a=2 ∨ a=3 ∨ a=4 ∨ a=5 ∨ a=6 ∨ a=7:=by omega
 have hb:b=0 ∨ b=1 ∨ b=2 ∨ b=3:=by omega
 rcases ha with rfl | rfl | rfl | rfl | rfl | rfl | rfl | rfl <;> rcases hb with rfl | rfl | rfl | rfl <;> (refine ⟨?_,⟨?_,?_⟩,?_,?_,?_⟩ <;> (try unfold Bd) <;> decide +kernel)
def topQ (q:Rat):Int:=(Rat.divInt (q.num * 12) (q.den:Int)).num
def bestD (Ws:List (List Int)) (ts:List Int) (g i:Nat):PyData:=.list (((List.range g).filter fun j=>decide ((Ws.getD i []).getD j 0=ts.getD j 0)).map fun j:Nat=>.int (j:Int))
def takesI (Ws:List (List Int)) (ts:List Int) (g i b:Nat):Bool:=(((List.range g).filter fun j=>decide ((Ws.getD b []).getD j 0=ts.getD j 0)).map fun j:Nat=>(j:Int)).contains (i:Int)
abbrev NKn:List Str:=["bag","goods","buyers","prices","tops","wishes","buyer","row","at","good","best","amounts","dealing","who","shares","share","purses","market"]
def mKnown:MS:=(mSeq (mAsg (mOp addF (mC (.int 1)) (mCall fTake noX (mCons (mVar 0) (mCons (mC (.int 5)) mNil)))) (mgN 1))
 (mSeq (mAsg (mOp addF (mC (.int 1)) (mCall fTake noX (mCons (mVar 0) (mCons (mC (.int 6)) mNil)))) (mgN 2))
 (mSeq (mAsg (mComp 1 [0] (miR1 (mCons (mVar 1) mNil)) (mgN 0) mYes (mCall fLf noX (mCons (mOp addF (mC (.int 1)) (mCall fTake noX (mCons (mVar 1) (mCons (mC (.int 8)) mNil)))) (mCons (mOp addF (mC (.int 1)) (mCall fTake noX (mCons (mVar 1) (mCons (mC (.int 4)) mNil)))) mNil)))) (mgN 3))
 (mSeq (mAsg (mComp 1 [3] (miR1 (mCons (mVar 1) mNil)) (mgN 0) mYes (mOp ixF (mCall fLf noX (mCons (mOp mulF (mOp ixF (mOp ixF (mVar 1) (mVar 0)) (mC (.int 0))) (mC (.int 12))) (mCons (mOp ixF (mOp ixF (mVar 1) (mVar 0)) (mC (.int 1))) mNil))) (mC (.int 0)))) (mgN 4))
 (mSeq (mAsg (mOwn mNil) (mgN 5))
 (mSeq (mFor (miR1 (mCons (mVar 2) mNil)) (mgN 6) (mSeq (mAsg (mCompO 1 [0,4] (miR1 (mCons (mVar 1) mNil)) (mgN 0) mYes (mCB (int2C fun i j=>if j > i then j else i) (mCons (mC (.int 0)) (mCons (mOp subF (mOp ixF (mVar 2) (mVar 0)) (mOp mulF (mCall fTake noX (mCons (mVar 1) (mCons (mC (.int 2)) mNil))) (mOp addF (mC (.int 1)) (mCall fTake noX (mCons (mVar 1) (mCons (mOp ixF (mVar 2) (mVar 0)) mNil)))))) mNil)))) (mgN 7))
 (mSeq (mAsg (mCall fTake noX (mCons (mVar 0) (mCons (mVar 1) mNil))) (mgN 8))
 (mSeq (mAsg (mOp ixF (mVar 4) (mVar 8)) (mgS (mVar 7) (mVar 8)))
 (mDrop (mApp (mVar 5) (mCons (mVar 7) mNil)))))))
 (mSeq (mFor (miR1 (mCons (mVar 1) mNil)) (mgN 9) (mAsg (mOp ixF (mVar 4) (mVar 9)) (mgS (mOp ixF (mVar 5) (mCall fTake noX (mCons (mVar 0) (mCons (mVar 2) mNil)))) (mVar 9))))
 (mFrz2 5 (mSeq (mAsg (mComp 1 [1,4] (miSeq (mVar 5)) (mgN 0) mYes (mComp 1 [0,2] (miR1 (mCons (mVar 1) mNil)) (mgN 0) (mTst (mOp (eqF false) (mOp ixF (mVar 1) (mVar 0)) (mOp ixF (mVar 2) (mVar 0)))) (mVar 0))) (mgN 10))
 (mSeq (mAsg (mComp 1 [0] (miR1 (mCons (mVar 1) mNil)) (mgN 0) mYes (mOp addF (mC (.int 1)) (mCall fTake noX (mCons (mVar 1) (mCons (mC (.int 9)) mNil))))) (mgN 11))
 (mSeq (mAsg (mCompO 1 [1] (miR1 (mCons (mVar 2) mNil)) (mgN 0) mYes (mOp repO (mLst (mCons (mTup (mCons (mC (.int 0)) (mCons (mC (.int 1)) mNil))) mNil)) (mVar 1))) (mgN 12))
 (mSeq (mFor (miR1 (mCons (mVar 1) mNil)) (mgN 9) (mSeq (mAsg (mComp 1 [10,9] (miR1 (mCons (mVar 2) mNil)) (mgN 0) (mTst (mOp (inF false) (mVar 2) (mOp ixF (mVar 1) (mVar 0)))) (mVar 0)) (mgN 13))
 (mSeq (mAsg (mComp 1 [0] (miSeq (mVar 13)) (mgN 0) mYes (mOp addF (mC (.int 1)) (mCall fTake noX (mCons (mVar 1) (mCons (mC (.int 2)) mNil))))) (mgN 14))
 (mFor (miZL (mCons (mVar 13) (mCons (mVar 14) mNil))) (mgT 2 (mgCons (mgN 6) (mgCons (mgN 15) mgNil))) (mAsg (mCall fLf noX (mCons (mOp mulF (mOp ixF (mVar 11) (mVar 9)) (mVar 15)) (mCons (mCB sumF (mCons (mVar 14) mNil)) mNil))) (mgS (mOp ixF (mVar 12) (mVar 6)) (mVar 9)))))))
 (mFrz2 12 (mSeq (mAsg (mComp 1 [1,3] (miSeq (mVar 12)) (mgN 0) mYes (mCall fSum noX (mCons (mComp 1 [2,0] (miR1 (mCons (mVar 1) mNil)) (mgN 0) mYes (mCall (f2 qTi) noX (mCons (mOp ixF (mVar 1) (mVar 0)) (mCons (mOp ixF (mVar 2) (mVar 0)) mNil)))) mNil))) (mgN 16))
 (mSeq (mAsg (mTup (mCons (mCB tupF (mCons (mVar 11) mNil)) (mCons (mCB tupF (mCons (mVar 16) mNil)) (mCons (mCB tupF (mCons (mComp 1 [] (miSeq (mVar 5)) (mgN 0) mYes (mCB tupF (mCons (mVar 0) mNil))) mNil)) mNil)))) (mgN 17))
 (mRet (mLst (mCons (mVar 17) (mCons (mCB tupF (mCons (mVar 3) mNil)) (mCons (mCB tupF (mCons (mComp 1 [] (miSeq (mVar 12)) (mgN 0) mYes (mCB tupF (mCons (mVar 0) mNil))) mNil)) mNil))))))))))))))))))))
theorem rd_known:∀ O xs Pq QX,fKnown O xs Pq QX→mKnown { nx:=fun _ O'=>Pq (.im .none) O',rt:=Pq } (startS NKn xs) O:=by
 intro O xs Pq QX h
 obtain ⟨⟨bj,rfl⟩,h⟩:=h
 refine ⟨⟨by decide,by decide⟩,fun r0 h00 h01=>⟨⟨⟨by decide,by decide⟩,fun r1 h10 h11=>?_⟩⟩⟩
 obtain ⟨g,hg⟩:∃ g:Nat,(1 + r0)=(g:Int):=⟨(1 + r0).toNat,by omega⟩
 obtain ⟨n,hn⟩:∃ n:Nat,(1 + r1)=(n:Int):=⟨(1 + r1).toNat,by omega⟩
 show Go _ _ [some (.bag bj),some (.im (.int (1 + r0))),some (.im (.int (1 + r1))),none,none,none,none,none,none,none,none,none,none,none,none,none,none,none] O
 rw [hg,hn]
 have g1:1 ≤ g:=by omega
 have g5:g ≤ 5:=by omega
 have n1:1 ≤ n:=by omega
 have n6:n ≤ 6:=by omega
 refine ⟨⟨⟨by omega,by omega⟩,comp_all (fun _ d=>∃ q:Rat,d=qD q∧(0 < q∧Rb 4 q∧(topQ q:Rat)=12 * q∧0 < topQ q∧topQ q ≤ 96)) (by rw [je6]; omega) (fun i x Z hx hZ=>⟨⟨by decide,by decide⟩,fun a a0 a1=>⟨⟨by decide,by decide⟩,fun b b0 b1=>⟨⟨by omega,bd30 (by omega)⟩,hZ _ ⟨_,rfl,pr_div a0 a1 b0 b1⟩⟩⟩⟩) (fun ds hl hds=>?_)⟩⟩
 obtain ⟨qs,rfl,hqs⟩:=choose_q (R:=fun _ q=>0 < q∧Rb 4 q∧(topQ q:Rat)=12 * q∧0 < topQ q∧topQ q ≤ 96) hds
 rw [je6,Zb,Zp] at hl
 refine ⟨⟨⟨by omega,by omega⟩,ji7 (fun i=>.int (topQ (qs.getD i 0))) (by rw [je6]; omega) (fun i x Z hx hZ=>?_) ?_⟩⟩
 ·obtain ⟨hi,rfl⟩:=jg4 hx
  rw [Zp] at hi
  have hq:=atI_get (jg0 (f:=qD) (xs:=qs) (j:=i) (d:=0) (by omega))
  obtain ⟨_,⟨b1,b2⟩,_⟩:=hqs i (by omega)
  exact ⟨_,hq,_,rfl,⟨b1.mono (by decide),bd30 (by decide)⟩,_,hq,_,rfl,⟨jc8 _,b2.mono (by decide)⟩,_,rfl,hZ⟩
 obtain ⟨ts,hts,htl,htd⟩:∃ ts:List Int,(List.range (rngI 0 ((g:Int)).toNat).length).map (fun i=>PyData.int (topQ (qs.getD i 0)))=ts.map .int∧ts.length=g∧∀ j,j < g→ts.getD j 0=topQ (qs.getD j 0) :=
  ⟨(List.range g).map fun i=>topQ (qs.getD i 0),by rw [je6,Zs]; rfl,by simp,fun j hj=>by simp [List.getD,Yj hj]⟩
 rw [hts]
 have ht0:∀ j,j < g→0 < ts.getD j 0∧ts.getD j 0 ≤ 96∧((ts.getD j 0:Int):Rat)=12 * qs.getD j 0:=fun j hj=>by
  obtain ⟨_,_,h1,h2,h3⟩:=hqs j (by omega)
  rw [htd j hj]; exact ⟨h2,h3,h1⟩
 have htA:∀ j,j < g→atI (ts.map PyData.int) (j:Int)=some (.int (ts.getD j 0)):=fun j hj=>atI_get (jg0 (by omega))
 refine ⟨by decide,?_⟩
 show Go _ _ [some (.bag bj),some (.im (.int g)),some (.im (.int n)),some (.im (.list (qs.map qD))),some (.im (.list (ts.map .int))),some (.own O.length),none,none,none,none,none,none,none,none,none,none,none,none] (O ++ [some []])
 refine ⟨⟨by omega,by omega⟩,fun i sl O'=>∃ (Ws:List (List Int)) (y6 y7 y8:Option AV),sl=[some (.bag bj),some (.im (.int g)),some (.im (.int n)),some (.im (.list (qs.map qD))),some (.im (.list (ts.map .int))),some (.own O.length),y6,y7,y8,none,none,none,none,none,none,none,none,none]∧O'=O ++ some (owns (O.length + 1) i) :: Ws.map cI∧Ws.length=i∧∀ r ∈ Ws,RowOk ts r,⟨[],none,none,none,rfl,rfl,rfl,fun r hr=>by cases hr⟩,?_,?_⟩
 ·rintro i x sl O' hx ⟨Ws,y6,y7,y8,rfl,rfl,hW,hok⟩
  obtain ⟨hi,rfl⟩:=jg4 hx
  have hBl:(O ++ some (owns (O.length + 1) i) :: Ws.map cI).length=O.length + 1 + i:=by simp [hW]; omega
  have hB0:(O ++ some (owns (O.length + 1) i) :: Ws.map cI)[O.length]?=some (some (owns (O.length + 1) i)):=at_mid _ _ _
  have hBs:∀ c c',(O ++ some (owns (O.length + 1) i) :: Ws.map cI ++ [c]).set O.length c'=O ++ c' :: (Ws.map cI ++ [c]):=fun c c'=>by rw [List.append_assoc,List.cons_append,set_mid]
  generalize O ++ some (owns (O.length + 1) i) :: Ws.map cI=B at hBl hB0 hBs ⊢
  refine ⟨⟨by omega,by omega⟩,compO_all (fun j z=>∃ q:Int,z=.im (.int q)∧(0 ≤ q∧q ≤ ts.getD j 0)) (by rw [je6]; omega) (fun j x Z hx hZ=>?_) (fun zs hzl hz=>?_)⟩
  ·obtain ⟨hj,rfl⟩:=jg4 hx
   rw [Zp] at hj
   obtain ⟨t1,t2,_⟩:=ht0 j hj
   refine ⟨_,htA j hj,⟨by decide,by decide⟩,fun u u0 u1=>⟨_,htA j hj,⟨t1,by omega⟩,fun v v0 v1=>⟨⟨bd30 (by omega),bd30 (by omega)⟩,hZ _ ⟨_,rfl,?_⟩⟩⟩⟩
   have hu:u=0 ∨ u=1:=by omega
   rcases hu with rfl | rfl
   ·rw [Int.zero_mul,Int.sub_zero]; dsimp only; split <;> omega
   ·rw [Int.one_mul]; dsimp only; split <;> omega
  ·obtain ⟨r,rfl,hr⟩:=choose_ai (R:=fun j q=>0 ≤ q∧q ≤ ts.getD j 0) hz
   rw [je6,Zb,Zp] at hzl
   have hro:RowOk ts r:=⟨by omega,fun j hj=>hr j (by omega)⟩
   refine ⟨⟨by omega,by omega⟩,fun a a0 a1=>?_⟩
   obtain ⟨a,rfl⟩:∃ a':Nat,a=(a':Int):=⟨a.toNat,by omega⟩
   refine ⟨_,htA a (by omega),_,a,at_end _ _,ix_ok (by rw [Zb]; omega),?_⟩
   rw [set_end,rd_set]
   have hE0:(B ++ [some ((r.set a (ts.getD a 0)).map fun x=>AV.im (.int x))])[O.length]?=some (some (owns (O.length + 1) i)):=by rw [Zr (by omega)]; exact hB0
   refine ⟨⟨_,hE0⟩,_,hE0,by rw [jf8,sz]; omega,Ws ++ [r.set a (ts.getD a 0)],_,_,_,rfl,?_,by simp [hW],fun r' hr'=>?_⟩
   ·rw [hBs,hBl,Zh,owns_succ]; rfl
   ·rcases Zq.mp hr' with q | q
    ·exact hok r' q
    ·rw [Yc.mp q]; exact hro.put (fun j hj=>by have:=(ht0 j (by omega)).1; omega) a
 ·rintro sl O' ⟨Ws,y6,y7,y8,rfl,rfl,hW,hok⟩
  rw [je6,Zp] at hW
  rw [je6,Zp]
  refine ⟨⟨by omega,by omega⟩,fun i sl O'=>∃ (Ws:List (List Int)) (y9:Option AV),sl=[some (.bag bj),some (.im (.int g)),some (.im (.int n)),some (.im (.list (qs.map qD))),some (.im (.list (ts.map .int))),some (.own O.length),y6,y7,y8,y9,none,none,none,none,none,none,none,none]∧O'=O ++ some (owns (O.length + 1) n) :: Ws.map cI∧Ws.length=n∧(∀ r ∈ Ws,RowOk ts r)∧∀ j,j < i→∃ b,b < n∧(Ws.getD b []).getD j 0=ts.getD j 0,⟨Ws,none,rfl,rfl,hW,hok,fun j hj=>absurd hj (by omega)⟩,?_,?_⟩
  ·rintro i x sl O' hx ⟨Ws,y9,rfl,rfl,hW,hok,hall⟩
   obtain ⟨hi,rfl⟩:=jg4 hx
   rw [Zp] at hi
   refine ⟨_,htA i hi,⟨by omega,by omega⟩,fun b b0 b1=>?_⟩
   obtain ⟨b,rfl⟩:∃ a':Nat,b=(a':Int):=⟨b.toNat,by omega⟩
   have hb:b < n:=by omega
   have hbr:RowOk ts (Ws.getD b []):=hok _ (by rw [jc2 (Zc (show b < Ws.length by omega))]; exact Zn _)
   refine ⟨_,.own (O.length + 1 + b),at_mid _ _ _,atI_get (owns_at hb),_,i,at_tab cI O _ Ws b [] (by omega),ix_ok (by rw [Zb,hbr.1]; omega),?_⟩
   rw [rd_set]
   have e:∀ r',some (List.map (fun x=>AV.im (.int x)) r')=cI r':=fun _=>rfl
   rw [e,set_tab]
   refine ⟨Ws.set b ((Ws.getD b []).set i (ts.getD i 0)),_,rfl,rfl,by rw [List.length_set]; exact hW,fun r hr=>?_,fun j hj=>?_⟩
   ·rcases List.mem_or_eq_of_mem_set hr with q | q
    ·exact hok r q
    ·rw [q]; exact hbr.put (fun j hj=>by have:=(ht0 j (by omega)).1; omega) i
   ·have eb:(Ws.set b ((Ws.getD b []).set i (ts.getD i 0))).getD b []=(Ws.getD b []).set i (ts.getD i 0):=by simp [List.getD,show b < Ws.length by omega]
    rcases Nat.lt_or_ge j i with y | y
    ·obtain ⟨b',hb',hw'⟩:=hall j y
     refine ⟨b',hb',?_⟩
     by_cases z:b=b'
     ·subst z
      rw [eb]
      simp only [List.getD] at hw' ⊢
      rw [Yg (by omega)]; exact hw'
     ·have:(Ws.set b ((Ws.getD b []).set i (ts.getD i 0))).getD b' []=Ws.getD b' []:=by simp [List.getD,Yg z]
      rw [this]; exact hw'
    ·obtain rfl:j=i:=by omega
     exact ⟨b,hb,by rw [eb,getD_set_self (by rw [hbr.1]; omega)]⟩
  ·rintro sl O' ⟨Ws,y9,rfl,rfl,hW,hok,hall⟩
   rw [je6,Zp] at hall
   have hrow:∀ b,b < n→RowOk ts (Ws.getD b []):=fun b hb=>hok _ (by rw [jc2 (Zc (show b < Ws.length by omega))]; exact Zn _)
   refine ⟨O.length,(List.range n).map (fun t=>O.length + 1 + t),Ws.map (fun r=>r.map .int),rfl,by rw [at_mid,owns_own],by simp [hW],fun j kj hj=>?_,?_⟩
   ·have hjn:j < n:=by have:=(Ze.mp hj).1; simpa using this
    rw [Zg,Yj hjn] at hj
    rw [← Option.some.inj hj]
    show (O ++ some (owns (O.length + 1) n) :: Ws.map cI)[O.length + 1 + j]?=_
    rw [at_tab cI O _ Ws j [] (by omega)]
    have:(Ws.map (fun r=>r.map PyData.int)).getD j []=(Ws.getD j []).map .int:=ji6 (by omega)
    rw [this,Zs]; rfl
   have hG7:Grew O (jh9 (O ++ some (owns (O.length + 1) n) :: Ws.map cI) (O.length :: (List.range n).map (fun t=>O.length + 1 + t))):=by
    refine Grew.none ⟨_,rfl⟩ fun k hk=>?_
    rcases Zf.mp hk with rfl | hk
    ·exact Zd _
    ·obtain ⟨t,_,rfl⟩:=Zk.mp hk; omega
   generalize jh9 (O ++ some (owns (O.length + 1) n) :: Ws.map cI) (O.length :: (List.range n).map (fun t=>O.length + 1 + t))=O7 at hG7 ⊢
   rw [Zs]
   have hbe:∀ (i:Nat) x,(((Ws.map (PyData.list ∘ fun r=>r.map .int)).map AV.im))[i]?=some x→i < n∧x=.im (.list ((Ws.getD i []).map .int)):=fun i x hx=>by
    have hi:i < n:=by have:=(Ze.mp hx).1; simpa [hW] using this
    rw [Zg,jg0 (d:=[]) (show i < Ws.length by omega)] at hx
    exact ⟨hi,(Option.some.inj hx).symm⟩
   conv=>whnf
   refine ji7 (bestD Ws ts g) (by simp; omega) (fun i x Z hx hZ=>?_) ?_
   ·obtain ⟨hi,rfl⟩:=hbe i x hx
    have hR:=hrow i hi
    refine ⟨⟨by omega,by omega⟩,comp_filt (fun j=>decide ((Ws.getD i []).getD j 0=ts.getD j 0)) (fun j=>.int (j:Int)) (by rw [je6]; omega) (fun j x Z hx hZ=>?_) (fun j x Z hx _ hZ=>?_) ?_⟩
    ·obtain ⟨hj,rfl⟩:=jg4 hx
     rw [Zp] at hj
     exact ⟨_,atI_get (jg0 (f:=PyData.int) (d:=0) (by rw [hR.1]; omega)),_,htA j hj,dI,hZ⟩
    ·obtain ⟨hj,rfl⟩:=jg4 hx
     exact hZ
    ·rw [je6,Zp]; exact hZ
   rw [Zb,Zb,hW]
   refine ⟨⟨by omega,by omega⟩,comp_all (fun _ d=>∃ q:Int,d=.int q∧(1 ≤ q∧q ≤ 9)) (by rw [je6]; omega) (fun i x Z hx hZ=>⟨⟨by decide,by decide⟩,fun a a0 a1=>hZ _ ⟨_,rfl,by omega⟩⟩) (fun ds hl hds=>?_)⟩
   obtain ⟨A,rfl,hA⟩:=choose_i (R:=fun _ q=>1 ≤ q∧q ≤ 9) hds
   rw [je6,Zb,Zp] at hl
   refine ⟨⟨by omega,by omega⟩,by rw [je6]; omega,fun i zs O'=>zs=owns O7.length i∧O'=O7 ++ (List.replicate i (List.replicate g (0:Rat))).map cQ,⟨rfl,by simp⟩,?_,?_⟩
   ·rintro i x zs O' hx ⟨rfl,rfl⟩
    obtain ⟨hi,rfl⟩:=jg4 hx
    refine ⟨fun _=>⟨by decide,by decide,by omega,by omega,by rw [sz]; simp; omega,?_,?_⟩,fun z=>by cases z⟩
    ·rw [owns_succ]; simp
    ·rw [zerosC,List.replicate_succ',Zh,← List.append_assoc]; rfl
   ·rintro zs O' ⟨rfl,rfl⟩
    rw [je6,Zp,List.append_assoc]
    have hkl:(O7 ++ (List.replicate n (List.replicate g (0:Rat))).map cQ).length=O7.length + n:=by simp
    rw [hkl]
    show Go _ _ [some (.bag bj),some (.im (.int g)),some (.im (.int n)),some (.im (.list (qs.map qD))),some (.im (.list (ts.map .int))),_,y6,y7,y8,y9,some (.im (.list _)),some (.im (.list (A.map .int))),some (.own (O7.length + n)),none,none,none,none,none] _
    refine ⟨⟨by omega,by omega⟩,fun i sl O'=>∃ (D:List (List Rat)) (y6 y9 y13 y14 y15:Option AV),sl=[some (.bag bj),some (.im (.int g)),some (.im (.int n)),some (.im (.list (qs.map qD))),some (.im (.list (ts.map .int))),some (.im (.list (Ws.map (PyData.list ∘ fun r=>r.map .int)))),y6,y7,y8,y9,some (.im (.list ((List.range n).map (bestD Ws ts g)))),some (.im (.list (A.map .int))),some (.own (O7.length + n)),y13,y14,y15,none,none]∧O'=O7 ++ (D.map cQ ++ [some (owns O7.length n)])∧D.length=n∧(∀ r ∈ D,r.length=g)∧(∀ r ∈ D,∀ z ∈ r,0 ≤ z∧Rb 6 z)∧(∀ b j,j < g→i ≤ j→eQ D b j=0)∧(∀ b j,b < n→j < g→eQ D b j ≠ 0→(Ws.getD b []).getD j 0=ts.getD j 0)∧∀ j,j < i→gotQ D j=((A.getD j 0:Int):Rat),
     ⟨List.replicate n (List.replicate g 0),_,_,none,none,none,rfl,rfl,by simp,fun r hr=>by rw [(List.mem_replicate.mp hr).2]; simp,fun r hr z hz=>by rw [(List.mem_replicate.mp hr).2] at hz; rw [(List.mem_replicate.mp hz).2]; exact ⟨by decide,rb_zero.mono (by decide)⟩,fun b j _ _=>e_zero,fun b j _ _ hne=>absurd e_zero hne,fun j hj=>absurd hj (by omega)⟩,?_,?_⟩
    ·rintro i x sl O' hx ⟨D,y6',y9',y13,y14,y15,rfl,rfl,hDn,hDg,hDb,hD0,hDd,hDs⟩
     obtain ⟨hi,rfl⟩:=jg4 hx
     rw [Zp] at hi
     have hAi:=hA i (by omega)
     refine ⟨⟨by omega,by omega⟩,comp_filt (takesI Ws ts g i) (fun b=>.int (b:Int)) (by rw [je6]; omega) (fun b x Z hx hZ=>?_) (fun b x Z hx _ hZ=>?_) ?_⟩
     ·obtain ⟨hb,rfl⟩:=jg4 hx
      rw [Zp] at hb
      exact ⟨bestD Ws ts g b,atI_get (by rw [Zg,Yj hb]; rfl),_,by rw [Zs]; rfl,hZ⟩
     ·obtain ⟨hb,rfl⟩:=jg4 hx
      exact hZ
     rw [je6,Zp]
     have hwl:∀ b,b ∈ (List.range n).filter (takesI Ws ts g i) ↔ b < n∧(Ws.getD b []).getD i 0=ts.getD i 0:=fun b=>by
      rw [List.mem_filter,List.mem_range]
      unfold takesI
      rw [List.contains_iff_mem,Zk]
      constructor
      ·rintro ⟨h1,j,hj,e⟩
       have:j=i:=by omega
       subst this
       exact ⟨h1,of_decide_eq_true (List.mem_filter.mp hj).2⟩
      ·rintro ⟨h1,h2⟩
       exact ⟨h1,i,List.mem_filter.mpr ⟨List.mem_range.mpr hi,decide_eq_true h2⟩,rfl⟩
     have hwn:((List.range n).filter (takesI Ws ts g i)).Nodup:=List.nodup_range.filter _
     have hwlen:((List.range n).filter (takesI Ws ts g i)).length ≤ n:=by have:=List.length_filter_le (takesI Ws ts g i) (List.range n); simpa using this
     generalize (List.range n).filter (takesI Ws ts g i)=wl at hwl hwn hwlen ⊢
     have hwi:∀ m,m < wl.length→wl.getD m 0 < n:=fun m hm=>((hwl _).mp (by rw [jc2 (Zc hm)]; exact Zn hm)).1
     refine ⟨?_⟩
     conv=>whnf
     refine comp_all (fun _ d=>∃ q:Int,d=.int q∧(1 ≤ q∧q ≤ 2)) (by simp; omega) (fun m x Z hx hZ=>?_) (fun ds hl hds=>?_)
     ·exact ⟨⟨by decide,by decide⟩,fun a a0 a1=>hZ _ ⟨_,rfl,by omega⟩⟩
     obtain ⟨S,rfl,hS⟩:=choose_i (R:=fun _ q=>1 ≤ q∧q ≤ 2) hds
     rw [Zb,Zb,Zb] at hl
     have hSm:∀ x ∈ S,1 ≤ x∧x ≤ 2:=fun x hx=>by
      obtain ⟨m,hm,rfl⟩:=List.getElem_of_mem hx
      have:=hS m hm
      rw [jc2 (Zc hm)] at this; exact this
     obtain ⟨hS1,hS2⟩:=sum_ge hSm
     refine ⟨by rw [Zb,Zb,hl]; exact Zd _,fun m sl O'=>∃ (D':List (List Rat)) (y6 y15:Option AV),sl=[some (.bag bj),some (.im (.int g)),some (.im (.int n)),some (.im (.list (qs.map qD))),some (.im (.list (ts.map .int))),some (.im (.list (Ws.map (PyData.list ∘ fun r=>r.map .int)))),y6,y7,y8,some (.im (.int i)),some (.im (.list ((List.range n).map (bestD Ws ts g)))),some (.im (.list (A.map .int))),some (.own (O7.length + n)),some (.im (.list (wl.map fun b:Nat=>.int (b:Int)))),some (.im (.list (S.map .int))),y15,none,none]∧O'=O7 ++ (D'.map cQ ++ [some (owns O7.length n)])∧D'.length=n∧(∀ r ∈ D',r.length=g)∧(∀ r ∈ D',∀ z ∈ r,0 ≤ z∧Rb 6 z)∧(∀ b j,j ≠ i→eQ D' b j=eQ D b j)∧(∀ b,eQ D' b i ≠ 0→b ∈ wl.take m)∧(∀ j,j ≠ i→gotQ D' j=gotQ D j)∧gotQ D' i=((A.getD i 0:Int):Rat) * (((S.take m).sum:Int):Rat) / ((S.sum:Int):Rat),
      ⟨D,_,_,rfl,rfl,hDn,hDg,hDb,fun b j _=>rfl,fun b hne=>absurd (hD0 b i hi (Zd _)) hne,fun j _=>rfl,?_⟩,?_,?_⟩
     ·rw [List.take_zero]
      have hz:gotQ D i=0:=got_none fun b=>hD0 b i hi (Zd _)
      rw [hz]
      show (0:Rat)=_ * 0 / _
      grind
     ·rintro m x sl O' hx ⟨D',y6'',y15',rfl,rfl,hEn,hEg,hEb,hEo,hEt,hEs,hEi⟩
      obtain ⟨hm,rfl⟩:=zip_at hx
      rw [Zb] at hm
      have hmS:m < S.length:=by omega
      have e1:(wl.map fun b:Nat=>PyData.int (b:Int)).getD m .none=.int ((wl.getD m 0:Nat):Int):=ji6 hm
      have e2:(S.map PyData.int).getD m .none=.int (S.getD m 0):=ji6 hmS
      rw [e1,e2]
      have hbn:=hwi m hm
      have hsm:=hS m hmS
      have hT1:1 ≤ S.sum∧S.sum ≤ 12:=by omega
      have hrl:(D'.getD (wl.getD m 0) []).length=g:=hEg _ (by rw [jc2 (Zc (show wl.getD m 0 < D'.length by omega))]; exact Zn _)
      refine ⟨rfl,_,atI_get (jg0 (f:=PyData.int) (d:=0) (by omega)),⟨bd30 (by omega),bd30 (by omega)⟩,S,rfl,⟨by omega,bd30 (by omega)⟩,_,.own (O7.length + wl.getD m 0),by rw [← hEn]; exact ji9 _ _ _ _,atI_get (owns_at hbn),_,i,at_tab2 cQ O7 _ D' (wl.getD m 0) [] (by omega),ix_ok (by rw [Zb,hrl]; exact hi),?_⟩
      rw [rd_setQ]
      have e:∀ r':List Rat,some (List.map (fun x=>AV.im (qD x)) r')=cQ r':=fun _=>rfl
      rw [e,set_tab2 cQ O7 _ D' _ _ (by omega)]
      obtain ⟨p1,p2⟩:=rb_part6 (A:=A.getD i 0) (s:=S.getD m 0) (T:=S.sum) hAi hsm hT1
      have hz:eQ D' (wl.getD m 0) i=0:=by
       apply Classical.byContradiction
       intro hne
       exact not_take hwn hm (hEt _ hne)
      have hbl:wl.getD m 0 < D'.length:=by omega
      have hil:i < (D'.getD (wl.getD m 0) []).length:=by omega
      refine ⟨putQ D' (wl.getD m 0) i (Rat.divInt (A.getD i 0 * S.getD m 0) S.sum),_,_,rfl,rfl,by rw [putQ_len]; exact hEn,putQ_lens hbl hEg,putQ_mem hEb ⟨p1,p2⟩,fun b j hj=>by rw [eQ_put hbl hil,if_neg (fun z=>hj z.2)]; exact hEo b j hj,fun b hne=>?_,fun j hj=>by rw [got_put_ne hbl hil hj]; exact hEs j hj,?_⟩
      ·rw [eQ_put hbl hil] at hne
       rw [List.take_add_one,Zc hm,Zq]
       by_cases z:b=wl.getD m 0
       ·right; rw [z,jc2 (Zc hm)]; exact Yc.mpr rfl
       ·left; rw [if_neg (fun y=>z y.1)] at hne; exact hEt b hne
      ·rw [got_put hbl hil,hz,hEi,sum_take hmS]
       exact part_add (by omega)
     ·rintro sl O' ⟨D',y6'',y15',rfl,rfl,hEn,hEg,hEb,hEo,hEt,hEs,hEi⟩
      rw [zip_len,Zb] at hEt hEi
      refine ⟨D',_,_,_,_,_,rfl,rfl,hEn,hEg,hEb,fun b j hj hij=>by rw [hEo b j (by omega)]; exact hD0 b j hj (by omega),fun b j hb hj hne=>?_,fun j hj=>?_⟩
      ·by_cases z:j=i
       ·subst z; exact ((hwl b).mp (List.mem_of_mem_take (hEt b hne))).2
       ·rw [hEo b j z] at hne; exact hDd b j hb hj hne
      ·by_cases z:j=i
       ·subst z
        obtain ⟨b,hb,hw⟩:=hall j hi
        have hbw:=(hwl b).mpr ⟨hb,hw⟩
        have hpos:0 < wl.length:=List.length_pos_of_mem hbw
        have hT:S.sum ≠ 0:=by omega
        have hT':((S.sum:Int):Rat) ≠ 0:=by exact_mod_cast hT
        rw [hEi,← hl,Ye]
        grind
       ·rw [hEs j z]; exact hDs j (by omega)
    ·rintro sl O' ⟨D,y6',y9',y13,y14,y15,rfl,rfl,hDn,hDg,hDb,hD0,hDd,hDs⟩
     rw [je6,Zp] at hDs
     refine ⟨O7.length + n,(List.range n).map (fun t=>O7.length + t),D.map (fun r=>r.map qD),rfl,by rw [← hDn,ji9,owns_own],by simp [hDn],fun j kj hj=>?_,?_⟩
     ·have hjn:j < n:=by have:=(Ze.mp hj).1; simpa using this
      rw [Zg,Yj hjn] at hj
      rw [← Option.some.inj hj]
      show (O7 ++ (D.map cQ ++ [some (owns O7.length n)]))[O7.length + j]?=_
      rw [at_tab2 cQ O7 _ D j [] (by omega)]
      have:(D.map (fun r=>r.map qD)).getD j []=(D.getD j []).map qD:=ji6 (by omega)
      rw [this,Zs]; rfl
     have hG8:Grew O (jh9 (O7 ++ (D.map cQ ++ [some (owns O7.length n)])) ((O7.length + n) :: (List.range n).map (fun t=>O7.length + t))):=by
      obtain ⟨t7,rfl⟩:=hG7
      refine Grew.none ⟨_,by rw [List.append_assoc]⟩ fun k hk=>?_
      rcases Zf.mp hk with rfl | hk
      ·simp; omega
      ·obtain ⟨t,_,rfl⟩:=Zk.mp hk; simp; omega
     generalize jh9 (O7 ++ (D.map cQ ++ [some (owns O7.length n)])) ((O7.length + n) :: (List.range n).map (fun t=>O7.length + t))=O8 at hG8 ⊢
     rw [Zs]
     have hde:∀ (i:Nat) x,(((D.map (PyData.list ∘ fun r=>r.map qD)).map AV.im))[i]?=some x→i < n∧x=.im (.list ((D.getD i []).map qD)):=fun i x hx=>by
      have hi:i < n:=by have:=(Ze.mp hx).1; simpa [hDn] using this
      rw [Zg,jg0 (d:=[]) (show i < D.length by omega)] at hx
      exact ⟨hi,(Option.some.inj hx).symm⟩
     have hDr:∀ b,b < n→(D.getD b []).length=g∧∀ z ∈ D.getD b [],0 ≤ z∧Rb 6 z:=fun b hb=>by
      have hm:D.getD b [] ∈ D:=by rw [jc2 (Zc (show b < D.length by omega))]; exact Zn _
      exact ⟨hDg _ hm,hDb _ hm⟩
     conv=>whnf
     refine ji7 (fun b=>qD (sumQ ((List.range g).map fun j=>qs.getD j 0 * eQ D b j))) (by simp; omega) (fun b x Z hx hZ=>?_) ?_
     ·obtain ⟨hb,rfl⟩:=hde b x hx
      obtain ⟨hrl,hrb⟩:=hDr b hb
      refine ⟨⟨by omega,by omega⟩,ji7 (fun j=>qD (qs.getD j 0 * eQ D b j)) (by rw [je6]; omega) (fun j x Z hx hZ=>?_) ?_⟩
      ·obtain ⟨hj,rfl⟩:=jg4 hx
       rw [Zp] at hj
       obtain ⟨_,hq4,_⟩:=hqs j (by omega)
       exact ⟨_,atI_get (jg0 (f:=qD) (d:=0) (by omega)),_,atI_get (jg0 (f:=qD) (d:=0) (by omega)),_,_,rfl,⟨hq4.mono (by decide),(jh8 (by decide) (fun z hz=>(hrb z hz).2) j).mono (by decide)⟩,hZ⟩
      ·rw [je6,Zp]
       refine ⟨(List.range g).map fun j=>qs.getD j 0 * eQ D b j,by rw [Zs]; rfl,⟨fun q hq=>?_,by simp; omega⟩,hZ⟩
       obtain ⟨j,hj,rfl⟩:=Zk.mp hq
       obtain ⟨_,hq4,_⟩:=hqs j (by have:=List.mem_range.mp hj; omega)
       exact (rb_mul hq4 (jh8 (by decide) (fun z hz=>(hrb z hz).2) j)).mono (by decide)
     rw [Zb,Zb,hDn]
     refine ⟨?_⟩
     conv=>whnf
     refine ji7 (fun i=>.tuple ((Ws.getD i []).map .int)) (by simp; omega) (fun i x Z hx hZ=>?_) ?_
     ·obtain ⟨hi,rfl⟩:=hbe i x hx
      exact hZ
     rw [Zb,Zb]
     refine ⟨by show 3 ≤ sizeLine; decide,⟨?_⟩⟩
     conv=>whnf
     refine ji7 (fun i=>.tuple ((D.getD i []).map qD)) (by simp; omega) (fun i x Z hx hZ=>?_) ?_
     ·obtain ⟨hi,rfl⟩:=hde i x hx
      exact hZ
     rw [Zb,Zb]
     refine ⟨by show 3 ≤ sizeLine; decide,?_⟩
     have hk:Known n g ts A ((List.range n).map fun b=>sumQ ((List.range g).map fun j=>qs.getD j 0 * eQ D b j)) qs Ws D :=
      ⟨hW,hDn,by omega,fun r hr=>by rw [(hok r hr).1]; exact htl,hDg,fun j hj=>(hqs j (by omega)).1,fun j hj=>(ht0 j hj).2.2,fun i j hi hj=>(hrow i hi).2 j (by omega),hall,hDd,hDs,fun i hi=>by simp [List.getD,Yj hi]⟩
     have:=h n g ts A _ qs Ws D O8 hG8 g1 g5 n1 n6 (by omega) (by simp) (fun a ha=>by
      obtain ⟨m,hm,rfl⟩:=List.getElem_of_mem ha
      have:=hA m hm
      rw [jc2 (Zc hm)] at this; exact this) (fun z hz=>by
      obtain ⟨m,hm,rfl⟩:=List.getElem_of_mem hz
      have:=hqs m hm
      rw [jc2 (Zc hm)] at this; exact ⟨this.1,this.2.1⟩) hDb hk
     unfold mkD matD at this
     rw [Zs] at this
     rw [range_getD (fun r=>PyData.tuple (r.map .int)) Ws [],range_getD (fun r=>PyData.tuple (r.map qD)) D []]
     exact this
end MI
namespace K15
open PySem L2 KG EX KM MI
section
variable {P:Program} {w:World} {K:PySem.W.Frag} {mg:Str→Option Value} {base:Heap}
theorem scKn:FnScope NKn ["bag"] (ja3 (top 65)):=L2.fsc
theorem ok_known {f fT fF fS fM:Addr} {fd dT dF dS dM:FuncData} (F:Fun K "_law_known" "_law_known" (top 65) f fd) (N:Nm mg) (mz:mg "zip"=none) (T:Cal K mg P w base "_law_take" 1 ["bag","many"] spTake fT dT) (Lf:Cal K mg P w base "_law_frac" 1 ["top","bottom"] spLf fF dF) (Su:Cal K mg P w base "_law_sum" 3 ["some"] spSum fS dS) (Mu:Cal K mg P w base "_law_mul" 2 ["one","other"] (sp2 qTi) fM dM):FnOk P w K mg base CX0 4 f fd ["bag"] (spM K fKnown) :=
 okM F scKn (fun O xs P PX h=>by obtain ⟨⟨j,rfl⟩,_⟩:=h; rfl) (fun cdv A outer s H E QX hr=>⟨mKnown,(jb6 (je4 (i:=1) scKn.nd rfl (Or.inr rfl) (jd8 jb2 (jb1 T.ok jd1 (hr.mono (by decide)) rfl T.mg T.kp T.bd (ja0 (ja2 (pv 0)) (ja0 jb2 ja4)))))
 (jb6 (je4 (i:=2) scKn.nd rfl (Or.inl rfl) (jd8 jb2 (jb1 T.ok jd1 (hr.mono (by decide)) rfl T.mg T.kp T.bd (ja0 (ja2 (pv 0)) (ja0 jb2 ja4)))))
 (jb6 (je4 (i:=3) scKn.nd rfl (Or.inr rfl) (jj4 (own:=["good"]) (cap:=["bag"]) (ix:=[0]) (BlkOk.of (ja3 (top 65)).names NKn) rfl (jf0 rfl N.range (ja0 (ja2 (pv 1)) ja4)) (jc9 (by decide))
 (fun C fp s H=>⟨(jc7 (jb0 (i:=0) (show List.Nodup (["good","bag"]:List Str) by decide +kernel) rfl (Or.inl rfl))),jh3,(jb1 Lf.ok lk_lf (hr.mono (by decide)) rfl Lf.mg Lf.kp Lf.bd (ja0 (jd8 jb2 (jb1 T.ok jd1 (hr.mono (by decide)) rfl T.mg T.kp T.bd (ja0 (ja2 (pv 1)) (ja0 jb2 ja4)))) (ja0 (jd8 jb2 (jb1 T.ok jd1 (hr.mono (by decide)) rfl T.mg T.kp T.bd (ja0 (ja2 (pv 1)) (ja0 jb2 ja4)))) ja4)))⟩)))
 (jb6 (je4 (i:=4) scKn.nd rfl (Or.inr rfl) (jj4 (own:=["good"]) (cap:=["prices"]) (ix:=[3]) (BlkOk.of (ja3 (top 65)).names NKn) rfl (jf0 rfl N.range (ja0 (ja2 (pv 1)) ja4)) (jc9 (by decide))
 (fun C fp s H=>⟨(jc7 (jb0 (i:=0) (show List.Nodup (["good","prices"]:List Str) by decide +kernel) rfl (Or.inl rfl))),jh3,(jd2 (jb1 Lf.ok lk_lf (hr.mono (by decide)) rfl Lf.mg Lf.kp Lf.bd (ja0 (mo_mul (jd2 (jd2 (ja2 (pv 1)) (ja2 (pv 0))) jb2) jb2) (ja0 (jd2 (jd2 (ja2 (pv 1)) (ja2 (pv 0))) jb2) ja4))) jb2)⟩)))
 (jb6 (je4 (i:=5) scKn.nd rfl (Or.inl rfl) (me_own ja4))
 (jb6 (ms_for PassesOwn.never rfl (jf0 rfl N.range (ja0 (ja2 (pv 2)) ja4)) (jc7 (jb0 (i:=6) scKn.nd rfl (Or.inl rfl))) (jb6 (ms_setCO (i:=7) scKn.nd rfl rfl (own:=["good"]) (cap:=["bag","tops"]) (ix:=[0,4]) (BlkOk.of (ja3 (top 65)).names NKn) rfl (jf0 rfl N.range (ja0 (ja2 (pv 1)) ja4)) (jc9 (by decide))
 (fun C fp s H=>⟨(jc7 (jb0 (i:=0) (show List.Nodup (["good","bag","tops"]:List Str) by decide +kernel) rfl (Or.inl rfl))),jh3,(jf2 (call_max2 rfl) lk_max2 (by rfl) N.max boot_max (ja0 jb2 (ja0 (mo_sub (jd2 (ja2 (pv 2)) (ja2 (pv 0))) (mo_mul (jb1 T.ok jd1 (hr.mono (by decide)) rfl T.mg T.kp T.bd (ja0 (ja2 (pv 1)) (ja0 jb2 ja4))) (jd8 jb2 (jb1 T.ok jd1 (hr.mono (by decide)) rfl T.mg T.kp T.bd (ja0 (ja2 (pv 1)) (ja0 (jd2 (ja2 (pv 2)) (ja2 (pv 0))) ja4)))))) ja4)))⟩))
 (jb6 (je4 (i:=8) scKn.nd rfl (Or.inl rfl) (jb1 T.ok jd1 (hr.mono (by decide)) rfl T.mg T.kp T.bd (ja0 (ja2 (pv 0)) (ja0 (ja2 (pv 1)) ja4))))
 (jb6 (ms_asg (jd2 (ja2 (pv 4)) (ja2 (pv 8))) (mg_sub (ja2 (pv 7)) (ja2 (pv 8))))
 (je9 (ms_expr (me_app (ja2 (pv 5)) (ja0 (ja2 (pv 7)) ja4))))))))
 (jb6 (ms_for PassesOwn.never rfl (jf0 rfl N.range (ja0 (ja2 (pv 1)) ja4)) (jc7 (jb0 (i:=9) scKn.nd rfl (Or.inr rfl))) (je9 (ms_asg (jd2 (ja2 (pv 4)) (ja2 (pv 9))) (mg_sub (jd2 (ja2 (pv 5)) (jb1 T.ok jd1 (hr.mono (by decide)) rfl T.mg T.kp T.bd (ja0 (ja2 (pv 0)) (ja0 (ja2 (pv 2)) ja4)))) (ja2 (pv 9))))))
 (ms_frz2 5 (jb6 (je4 (i:=10) scKn.nd rfl (Or.inr rfl) (jj4 (own:=["row"]) (cap:=["goods","tops"]) (ix:=[1,4]) (BlkOk.of (ja3 (top 65)).names NKn) rfl (jj5 (ja2 (pv 5))) (jc9 (by decide))
 (fun C fp s H=>⟨(jc7 (jb0 (i:=0) (show List.Nodup (["row","goods","tops"]:List Str) by decide +kernel) rfl (Or.inr rfl))),jh3,(jj4 (own:=["good"]) (cap:=["row","tops"]) (ix:=[0,2]) (BlkOk.of [(".0",.local),("row",.cell),("range",.globalImplicit),("goods",.cell),("tops",.cell)] ["row","goods","tops"]) rfl (jf0 rfl N.range (ja0 (ja2 (pv 1)) ja4)) (jc9 (by decide))
 (fun C fp s H=>⟨(jc7 (jb0 (i:=0) (show List.Nodup (["good","row","tops"]:List Str) by decide +kernel) rfl (Or.inl rfl))),(mf_one (mt_cmp (or_eq hr.units) lk_eq (jd2 (ja2 (pv 1)) (ja2 (pv 0))) (jd2 (ja2 (pv 2)) (ja2 (pv 0))) (nomark _))),(ja2 (pv 0))⟩))⟩)))
 (jb6 (ms_setC (i:=11) scKn.nd rfl rfl (own:=["good"]) (cap:=["bag"]) (ix:=[0]) (BlkOk.of (ja3 (top 65)).names NKn) rfl (jf0 rfl N.range (ja0 (ja2 (pv 1)) ja4)) (jc9 (by decide))
 (fun C fp s H=>⟨(jc7 (jb0 (i:=0) (show List.Nodup (["good","bag"]:List Str) by decide +kernel) rfl (Or.inl rfl))),jh3,(jd8 jb2 (jb1 T.ok jd1 (hr.mono (by decide)) rfl T.mg T.kp T.bd (ja0 (ja2 (pv 1)) (ja0 jb2 ja4))))⟩))
 (jb6 (ms_setCO (i:=12) scKn.nd rfl rfl (own:=["buyer"]) (cap:=["goods"]) (ix:=[1]) (BlkOk.of (ja3 (top 65)).names NKn) rfl (jf0 rfl N.range (ja0 (ja2 (pv 2)) ja4)) (jc9 (by decide))
 (fun C fp s H=>⟨(jc7 (jb0 (i:=0) (show List.Nodup (["buyer","goods"]:List Str) by decide +kernel) rfl (Or.inl rfl))),jh3,(mo_repO (jg3 (ja0 (je1 (ja0 jb2 (ja0 jb2 ja4))) ja4)) (ja2 (pv 1)))⟩))
 (jb6 (ms_for PassesOwn.never rfl (jf0 rfl N.range (ja0 (ja2 (pv 1)) ja4)) (jc7 (jb0 (i:=9) scKn.nd rfl (Or.inr rfl))) (jb6 (ms_setC (i:=13) scKn.nd rfl rfl (own:=["buyer"]) (cap:=["best","good"]) (ix:=[10,9]) (BlkOk.of (ja3 (top 65)).names NKn) rfl (jf0 rfl N.range (ja0 (ja2 (pv 2)) ja4)) (jc9 (by decide))
 (fun C fp s H=>⟨(jc7 (jb0 (i:=0) (show List.Nodup (["buyer","best","good"]:List Str) by decide +kernel) rfl (Or.inl rfl))),(mf_one (mt_cmp opIn0 (lk_in false) (ja2 (pv 2)) (jd2 (ja2 (pv 1)) (ja2 (pv 0))) (by rfl))),(ja2 (pv 0))⟩))
 (jb6 (ms_setC (i:=14) scKn.nd rfl rfl (own:=["buyer"]) (cap:=["bag"]) (ix:=[0]) (BlkOk.of (ja3 (top 65)).names NKn) rfl (jj5 (ja2 (pv 13))) (jc9 (by decide))
 (fun C fp s H=>⟨(jc7 (jb0 (i:=0) (show List.Nodup (["buyer","bag"]:List Str) by decide +kernel) rfl (Or.inl rfl))),jh3,(jd8 jb2 (jb1 T.ok jd1 (hr.mono (by decide)) rfl T.mg T.kp T.bd (ja0 (ja2 (pv 1)) (ja0 jb2 ja4))))⟩))
 (je9 (ms_for PassesOwn.never rfl (mi_zipL rfl mz boot_zip (ja0 (ja2 (pv 13)) (ja0 (ja2 (pv 14)) ja4))) (mg_tup rfl (ji5 (jc7 (jb0 (i:=6) scKn.nd rfl (Or.inl rfl))) (ji5 (jc7 (jb0 (i:=15) scKn.nd rfl (Or.inl rfl))) mgs_nil))) (je9 (ms_asg (jb1 Lf.ok lk_lf (hr.mono (by decide)) rfl Lf.mg Lf.kp Lf.bd (ja0 (mo_mul (jd2 (ja2 (pv 11)) (ja2 (pv 9))) (ja2 (pv 15))) (ja0 (jf2 (cSum0 rfl) lk_sum (by rfl) N.sum boot_sum (ja0 (ja2 (pv 14)) ja4)) ja4))) (mg_sub (jd2 (ja2 (pv 12)) (ja2 (pv 6))) (ja2 (pv 9))))))))))
 (ms_frz2 12 (jb6 (ms_setC (i:=16) scKn.nd rfl rfl (own:=["row"]) (cap:=["goods","prices"]) (ix:=[1,3]) (BlkOk.of (ja3 (top 65)).names NKn) rfl (jj5 (ja2 (pv 12))) (jc9 (by decide))
 (fun C fp s H=>⟨(jc7 (jb0 (i:=0) (show List.Nodup (["row","goods","prices"]:List Str) by decide +kernel) rfl (Or.inr rfl))),jh3,(jb1 Su.ok lk_sumQ (hr.mono (by decide)) rfl Su.mg Su.kp Su.bd (ja0 (jj4 (own:=["good"]) (cap:=["prices","row"]) (ix:=[2,0]) (BlkOk.of [(".0",.local),("row",.cell),("_law_sum",.globalImplicit),("range",.globalImplicit),("goods",.cell),("prices",.cell)] ["row","goods","prices"]) rfl (jf0 rfl N.range (ja0 (ja2 (pv 1)) ja4)) (jc9 (by decide))
 (fun C fp s H=>⟨(jc7 (jb0 (i:=0) (show List.Nodup (["good","prices","row"]:List Str) by decide +kernel) rfl (Or.inl rfl))),jh3,(jb1 Mu.ok lk_2 (hr.mono (by decide)) rfl Mu.mg Mu.kp Mu.bd (ja0 (jd2 (ja2 (pv 1)) (ja2 (pv 0))) (ja0 (jd2 (ja2 (pv 2)) (ja2 (pv 0))) ja4)))⟩)) ja4))⟩))
 (jb6 (je4 (i:=17) scKn.nd rfl (Or.inl rfl) (je1 (ja0 (jd0 cTup0 jj6 (by rfl) N.tuple jb8 (ja0 (ja2 (pv 11)) ja4)) (ja0 (jd0 cTup0 jj6 (by rfl) N.tuple jb8 (ja0 (ja2 (pv 16)) ja4)) (ja0 (jd0 cTup0 jj6 (by rfl) N.tuple jb8 (ja0 (jj4 (own:=["row"]) (cap:=[]) (ix:=[]) (BlkOk.of (ja3 (top 65)).names NKn) rfl (jj5 (ja2 (pv 5))) (jc9 (by decide))
 (fun C fp s H=>⟨(jc7 (jb0 (i:=0) (show List.Nodup (["row"]:List Str) by decide +kernel) rfl (Or.inl rfl))),jh3,(jd0 cTup0 jj6 (by rfl) N.tuple jb8 (ja0 (ja2 (pv 0)) ja4))⟩)) ja4)) ja4)))))
 (je9 (ji1 (jg3 (ja0 (ja2 (pv 17)) (ja0 (jd0 cTup0 jj6 (by rfl) N.tuple jb8 (ja0 (ja2 (pv 3)) ja4)) (ja0 (jd0 cTup0 jj6 (by rfl) N.tuple jb8 (ja0 (jj4 (own:=["row"]) (cap:=[]) (ix:=[]) (BlkOk.of (ja3 (top 65)).names NKn) rfl (jj5 (ja2 (pv 12))) (jc9 (by decide))
 (fun C fp s H=>⟨(jc7 (jb0 (i:=0) (show List.Nodup (["row"]:List Str) by decide +kernel) rfl (Or.inl rfl))),jh3,(jd0 cTup0 jj6 (by rfl) N.tuple jb8 (ja0 (ja2 (pv 0)) ja4))⟩)) ja4)) ja4))))))))))))))))))))),fun O xs Pq h=>rd_known O xs Pq QX h⟩)
end
end K15
namespace MI
open PySem L2 KG EX KM
def fOdd:FM:=fun O xs P _=>(∃ j,xs=[.bag j])∧∀ d ∈ oddL,P (.im d) O
def fRep (m:Nat):FM:=fun O xs P _=>∃ (j deep n:Nat) (d:PyData),xs=[.bag j,.im d,.im (.int deep)]∧deep < m∧small d=true∧ln n d=true∧3 ≤ n∧n ≤ 50∧∀ d',small d'=true→ln (n + 1) d'=true→P (.im d') O
def mOdd:MS:=(mSeq (mAsg (mC (.list (oddL.take 18))) (mgN 1))
 (mRet (mOp ixF (mOp addF (mVar 1) (mC (.list (oddL.drop 18)))) (mCall fTake noX (mCons (mVar 0) (mCons (mC (.int 24)) mNil))))))
theorem rd_odd:∀ O xs Pq QX,fOdd O xs Pq QX→mOdd { nx:=fun _ O'=>Pq (.im .none) O',rt:=Pq } (startS ["bag","some"] xs) O:=by
 intro O xs Pq QX h
 obtain ⟨⟨j,rfl⟩,h⟩:=h
 have hl:(oddL.take 18 ++ oddL.drop 18).length=24:=by decide
 refine ⟨by decide,⟨by decide,by decide⟩,fun r r0 r1=>?_⟩
 obtain ⟨r,rfl⟩:∃ a':Nat,r=(a':Int):=⟨r.toNat,by omega⟩
 refine ⟨_,atI_get (Zc (by omega)),h _ ?_⟩
 have:∀ x,x ∈ oddL.take 18 ++ oddL.drop 18→x ∈ oddL:=fun x hx=>by rwa [List.take_append_drop] at hx
 exact this _ (Zn _)
def mRep (m:Nat):MS:=(mSeq (mIfS (mOrT (mTst (mOp (eqF false) (mVar 2) (mC (.int 0)))) (mOrT (mNot (mTst (mIsi isT (mVar 1)))) (mOrT (mTst (mOp (eqF false) (mVar 1) (mTup mNil))) (mTst (mOp (eqF false) (mCall fTake noX (mCons (mVar 0) (mCons (mC (.int 5)) mNil))) (mC (.int 0))))))) (mRet (mCall fOdd noX (mCons (mVar 0) mNil))) mNext)
 (mSeq (mAsg (mCall fTake noX (mCons (mVar 0) (mCons (mCB lenF (mCons (mVar 1) mNil)) mNil))) (mgN 3))
 (mSeq (mAsg (mCall fTake noX (mCons (mVar 0) (mCons (mC (.int 9)) mNil))) (mgN 4))
 (mSeq (mIfS (mTst (mOp (eqF false) (mVar 4) (mC (.int 0)))) (mRet (mOp addF (mSl (mVar 1) mNoP (mSoP (mVar 3))) (mSl (mVar 1) (mSoP (mOp addF (mVar 3) (mC (.int 1)))) mNoP))) mNext)
 (mSeq (mIfS (mTst (mOp (eqF false) (mVar 4) (mC (.int 1)))) (mRet (mOp addF (mOp addF (mSl (mVar 1) mNoP (mSoP (mVar 3))) (mTup (mCons (mOp ixF (mVar 1) (mVar 3)) mNil))) (mSl (mVar 1) (mSoP (mVar 3)) mNoP))) mNext)
 (mSeq (mIfS (mTst (mOp (eqF false) (mVar 4) (mC (.int 2)))) (mRet (mCB lstF (mCons (mVar 1) mNil))) mNext)
 (mRet (mOp addF (mOp addF (mSl (mVar 1) mNoP (mSoP (mVar 3))) (mTup (mCons (mCall (fRep m) noX (mCons (mVar 0) (mCons (mOp ixF (mVar 1) (mVar 3)) (mCons (mOp subF (mVar 2) (mC (.int 1))) mNil)))) mNil))) (mSl (mVar 1) (mSoP (mOp addF (mVar 3) (mC (.int 1)))) mNoP)))))))))
theorem rd_rep (m:Nat):∀ O xs Pq QX,fRep (m + 1) O xs Pq QX→mRep m { nx:=fun _ O'=>Pq (.im .none) O',rt:=Pq } (startS ["bag","thing","deep","at","way"] xs) O:=by
 intro O xs Pq QX h
 obtain ⟨j,deep,n,d,rfl,hdm,hsm,hln,h3,h50,h⟩:=h
 have hodd:∀ d ∈ oddL,Pq (.im d) O:=fun d hd=>by
  obtain ⟨_,o2,o3⟩:=oddL_ok d hd
  exact h d o2 (ln_mono (by omega) o3)
 have hT:∀ ds:List PyData,ds.length ≤ n + 1→(∀ x ∈ ds,small x=true∧ln (n + 1) x=true)→Pq (.im (.tuple ds)) O:=fun ds h1 h2=>h _ (small_t fun d hd=>(h2 d hd).1) (ln_t.mpr ⟨h1,fun d hd=>(h2 d hd).2⟩)
 refine ⟨dI,⟨fun _=>?_,fun hd0=>⟨fun _=>?_,fun htp=>?_⟩⟩⟩
 ·exact ⟨fun _=>⟨⟨_,rfl⟩,hodd⟩,fun z=>by cases z⟩
 ·exact ⟨fun _=>⟨⟨_,rfl⟩,hodd⟩,fun z=>by cases z⟩
 have htp:isT d=true:=by cases h:isT d with
  | true=>rfl
  | false=>rw [h] at htp; cases htp
 have hd0:deep ≠ 0:=fun z=>by subst z; exact absurd hd0 (by decide)
 obtain ⟨ds,rfl⟩:∃ ds,d=.tuple ds:=by cases d <;> first | exact ⟨_,rfl⟩ | cases htp
 obtain ⟨ln1,ln2⟩:=ln_t.mp hln
 have smd:=smalls_t hsm
 have hmem:∀ x ∈ ds,small x=true∧ln (n + 1) x=true:=fun x hx=>⟨smd x hx,ln_mono (by omega) (ln2 x hx)⟩
 refine ⟨by decide,by show min _ 1 ≤ 60; omega,⟨fun _=>?_,fun hem=>?_⟩⟩
 ·exact ⟨fun _=>⟨⟨_,rfl⟩,hodd⟩,fun z=>by cases z⟩
 have hpos:0 < ds.length:=by
  cases ds with
  | nil=>exact absurd (hem:eqq (.tuple []) (.tuple [])=false) (by decide)
  | cons _ _=>simp
 refine ⟨⟨by decide,by decide⟩,fun r1 _ _=>⟨dI,⟨fun _=>⟨⟨_,rfl⟩,hodd⟩,fun _=>?_⟩⟩⟩
 refine ⟨⟨by omega,by omega⟩,fun r r0 rl=>⟨⟨⟨by decide,by decide⟩,fun wy _ _=>?_⟩⟩⟩
 have hto:=cutD_to (xs:=ds) r0 rl
 have hfr:=cutD_from (xs:=ds) (r:=r + 1) (by omega) (by omega)
 have hfr0:=cutD_from (xs:=ds) r0 (by omega)
 have er1:(r + 1).toNat=r.toNat + 1:=by omega
 rw [er1] at hfr
 have hlt:r.toNat < ds.length:=by omega
 have hat:atI ds r=some ds[r.toNat]:=by
  have:=atI_get (Zc hlt)
  rwa [Int.toNat_of_nonneg r0] at this
 have hmx:=hmem _ (Zn hlt)
 show Go _ _ [some (.bag j),some (.im (.tuple ds)),some (.im (.int deep)),some (.im (.int r)),some (.im (.int wy))] O
 refine ⟨dI,⟨fun _=>?_,fun _=>⟨dI,⟨fun _=>?_,fun _=>⟨dI,⟨fun _=>?_,fun _=>?_⟩⟩⟩⟩⟩⟩
 ·refine ⟨by rw [hto,hfr,Zz,List.length_drop,sz]; omega,?_⟩
  rw [hto,hfr]
  exact hT _ (by rw [Zj,Zz,List.length_drop]; omega) fun x hx=>by
   rcases Zq.mp hx with z | z
   ·exact hmem x (List.mem_of_mem_take z)
   ·exact hmem x (List.mem_of_mem_drop z)
 ·refine ⟨_,hat,len1,by rw [hto,Zz,sz]; simp; omega,?_⟩
  refine ⟨by rw [hto,hfr0,Zj,Zz,List.length_drop,sz]; simp; omega,?_⟩
  rw [hto,hfr0]
  exact hT _ (by rw [Zj,Zj,Zz,List.length_drop]; simp; omega) fun x hx=>by
   rcases Zq.mp hx with z | z
   ·rcases Zq.mp z with z | z
    ·exact hmem x (List.mem_of_mem_take z)
    ·rw [Yc.mp z]; exact hmx
   ·exact hmem x (List.mem_of_mem_drop z)
 ·exact h _ (small_l fun d hd=>(hmem d hd).1) (ln_l.mpr ⟨by omega,fun d hd=>(hmem d hd).2⟩)
 ·refine ⟨_,hat,j,deep - 1,n,ds[r.toNat],?_,by omega,hmx.1,ln2 _ (Zn hlt),h3,h50,fun d' s' l'=>?_⟩
  ·show [AV.bag j,AV.im ds[r.toNat],AV.im (.int ((deep:Int) - 1))]=_
   rw [show ((deep:Int) - 1)=((deep - 1:Nat):Int) by omega]
  refine ⟨len1,by rw [hto,Zz,sz]; simp; omega,?_⟩
  refine ⟨by rw [hto,hfr,Zj,Zz,List.length_drop,sz]; simp; omega,?_⟩
  rw [hto,hfr]
  exact hT _ (by rw [Zj,Zj,Zz,List.length_drop]; simp; omega) fun x hx=>by
   rcases Zq.mp hx with z | z
   ·rcases Zq.mp z with z | z
    ·exact hmem x (List.mem_of_mem_take z)
    ·rw [Yc.mp z]; exact ⟨s',l'⟩
   ·exact hmem x (List.mem_of_mem_drop z)
end MI
namespace K15
open PySem L2 KG EX KM MI
section
variable {P:Program} {w:World} {K:PySem.W.Frag} {mg:Str→Option Value} {base:Heap}
theorem okm_odd {f fT:Addr} {fd dT:FuncData} (F:Fun K "_law_odd" "_law_odd" (top 63) f fd) (T:Cal K mg P w base "_law_take" 1 ["bag","many"] spTake fT dT):FnOk P w K mg base CX0 2 f fd ["bag"] (spM K fOdd):=by
 exact okM F scOdd (fun O xs P PX h=>by obtain ⟨⟨j,rfl⟩,_⟩:=h; rfl) (fun cdv A outer s H E QX hr=>⟨mOdd,(jb6 (je4 (i:=1) scOdd.nd rfl (Or.inl rfl) (me_lit 5 _ (.list (oddL.take 18)) (by kernel_rfl)))
 (je9 (ji1 (jd2 (jd8 (ja2 (pv 1)) (me_lit 5 _ (.list (oddL.drop 18)) (by kernel_rfl))) (jb1 T.ok jd1 (hr.mono (by decide)) rfl T.mg T.kp T.bd (ja0 (ja2 (pv 0)) (ja0 jb2 ja4))))))),fun O xs Pq h=>rd_odd O xs Pq QX h⟩)
theorem okm_rep {f fT fO:Addr} {fd dT dO:FuncData} (F:Fun K "_law_replaced" "_law_replaced" (top 64) f fd) (N:Nm mg) (Z:IsK K) (T:Cal K mg P w base "_law_take" 1 ["bag","many"] spTake fT dT) (Od:Cal K mg P w base "_law_odd" 2 ["bag"] (spM K fOdd) fO dO)
  (hmg:mg "_law_replaced"=some (.ref f)) (hkp:PySem.W.keepIn K (.ref f)=true) (hbd:Binds K fd ["bag","thing","deep"] []):∀ m:Nat,FnOk P w K mg base CX0 (m + 2) f fd ["bag","thing","deep"] (spM K (fRep m))
 | 0=>⟨fun vs H Q E h=>(by obtain ⟨w,O,xs,P,PX,r,a,⟨j,deep,n,d,_,h,_⟩,_⟩:=h; omega),fun A outer s H args us vs Q E hr he hb hv h=>(by obtain ⟨w,O,xs,P,PX,r,a,⟨j,deep,n,d,_,h,_⟩,_⟩:=h; omega)⟩
 | m + 1=>by
  have Rc:=okm_rep F N Z T Od hmg hkp hbd m
  exact okM F scRep (fun O xs P PX h=>by obtain ⟨j,deep,n,d,rfl,_⟩:=h; rfl) (fun cdv A outer s H E QX hr=>⟨mRep m,(jb6 (ms_if (PW.pt (mw_or (mt_cmp (or_eq hr.units) lk_eq (ja2 (pv 2)) jb2 (nomark _)) (mw_or (mt_not (mt_val (me_isituple Z (ja2 (pv 1)) rfl N.isinstance rfl N.tuple))) (mw_or (mt_cmp (or_eq hr.units) lk_eq (ja2 (pv 1)) (je1 ja4) (nomark _)) (mw_or1 (mt_cmp (or_eq hr.units) lk_eq (jb1 T.ok jd1 (hr.mono (by omega)) rfl T.mg T.kp T.bd (ja0 (ja2 (pv 0)) (ja0 jb2 ja4))) jb2 (nomark _))))))) (je9 (ji1 (jb1 Od.ok lk_spM (hr.mono (by omega)) rfl Od.mg Od.kp Od.bd (ja0 (ja2 (pv 0)) ja4)))) ms_nil)
 (jb6 (je4 (i:=3) scRep.nd rfl (Or.inl rfl) (jb1 T.ok jd1 (hr.mono (by omega)) rfl T.mg T.kp T.bd (ja0 (ja2 (pv 0)) (ja0 (jf2 cLen0 lk_len (by rfl) N.len PySem.boot_len (ja0 (ja2 (pv 1)) ja4)) ja4))))
 (jb6 (je4 (i:=4) scRep.nd rfl (Or.inl rfl) (jb1 T.ok jd1 (hr.mono (by omega)) rfl T.mg T.kp T.bd (ja0 (ja2 (pv 0)) (ja0 jb2 ja4))))
 (jb6 (ms_if (mt_cmp (or_eq hr.units) lk_eq (ja2 (pv 4)) jb2 (nomark _)) (je9 (ji1 (jd8 (jg6 (ja2 (pv 1)) jj3 (jj2 (ja2 (pv 3)))) (jg6 (ja2 (pv 1)) (jj2 (jd8 (ja2 (pv 3)) jb2)) jj3)))) ms_nil)
 (jb6 (ms_if (mt_cmp (or_eq hr.units) lk_eq (ja2 (pv 4)) jb2 (nomark _)) (je9 (ji1 (jd8 (jd8 (jg6 (ja2 (pv 1)) jj3 (jj2 (ja2 (pv 3)))) (je1 (ja0 (jd2 (ja2 (pv 1)) (ja2 (pv 3))) ja4))) (jg6 (ja2 (pv 1)) (jj2 (ja2 (pv 3))) jj3)))) ms_nil)
 (jb6 (ms_if (mt_cmp (or_eq hr.units) lk_eq (ja2 (pv 4)) jb2 (nomark _)) (je9 (ji1 (jd0 cLst0 lk_lst (by rfl) N.list boot_list (ja0 (ja2 (pv 1)) ja4)))) ms_nil)
 (je9 (ji1 (jd8 (jd8 (jg6 (ja2 (pv 1)) jj3 (jj2 (ja2 (pv 3)))) (je1 (ja0 (jb1 Rc lk_spM (hr.mono (by omega)) rfl hmg hkp hbd (ja0 (ja2 (pv 0)) (ja0 (jd2 (ja2 (pv 1)) (ja2 (pv 3))) (ja0 (mo_sub (ja2 (pv 2)) jb2) ja4)))) ja4))) (jg6 (ja2 (pv 1)) (jj2 (jd8 (ja2 (pv 3)) jb2)) jj3)))))))))),fun O xs Pq h=>rd_rep m O xs Pq QX h⟩)
end
end K15
namespace K15
open PySem L2 KG EX KM
section
variable {P:Program} {w:World} {K:PySem.W.Frag} {mg:Str→Option Value} {base:Heap}
abbrev NWi:List Str:=["market","amounts","purses","wishes"]
theorem scWished:FnScope NWi ["market"] (ja3 (top 33)):=L2.fsc
theorem ok_wished {f:Addr} {fd:FuncData} (F:Fun K "wished" "wished" (top 33) f fd) (N:Nm mg):FnOk P w K mg base CX0 1 f fd ["market"] spWis:=by
 refine F.ok scWished (fun vs H Q E h=>?_) (fun cdv A outer s H vs Q E hr h=>?_)
 ·obtain ⟨b,p,pa,pp,pw,xa,xp,xw,am,pu,wi,rfl,_⟩:=h; rfl
 ·obtain ⟨b,p,pa,pp,pw,xa,xp,xw,am,pu,wi,rfl,m,k⟩:=h
  obtain ⟨rw0,rne,rlen,rbd,a1,a6,w1,w6,_⟩:=m.lw
  refine ⟨_,ja9 (ps_asg (pv 0) (pgTup0 rfl (jc5 (jb0 (i:=1) scWished.nd rfl (Or.inl rfl)) (jc5 (jb0 (i:=2) scWished.nd rfl (Or.inl rfl)) (jc5 (jb0 (i:=3) scWished.nd rfl (Or.inr rfl)) jg5)))))
   (ja7 (jb7 (jg9 cTup0 (by rfl) N.tuple jb8 (ja1 (je0 (own:=["good"]) (cap:=["wishes"]) (ix:=[3]) (BlkOk.of (ja3 (top 33)).names NWi) rfl
    (jg8 rfl N.range (ja1 (jb3 cLen0 (by rfl) N.len PySem.boot_len (ja1 (pv 1) ja5)) ja5))
    (fun C fp s H=>⟨jb0 (i:=0) (show List.Nodup (["good","wishes"]:List Str) by decide +kernel) rfl (Or.inr rfl),
     pifs_one (je7 (jb3 (cAny0 rfl) (by rfl) N.any boot_any (ja1 (je0 (own:=["row"]) (cap:=["good"]) (ix:=[0]) (BlkOk.of [(".0",.local),("good",.cell),("any",.globalImplicit),("wishes",.cell)] ["good","wishes"]) rfl (piT0 (pv 1))
      (fun C fp s H=>⟨jb0 (i:=0) (show List.Nodup (["row","good"]:List Str) by decide +kernel) rfl (Or.inl rfl),jd6,je2 op_gt (jb9 ixT0 (pv 0) (pv 1) (fun _ _=>rfl)) ja6 (nomark _)⟩)) ja5))),
     pv 0⟩)) ja5)))),?_⟩
  refine ⟨_,rfl,p,_,rfl,SqT.of m.hp,rfl,_,_,rfl,_,_,rfl,_,_,rfl,rfl,?_⟩
  refine ⟨_,rfl,pa,xa,rfl,.inr (SqT.of m.ha),(xa.length:Int),rfl,by omega,by omega,fun acc hacc=>?_⟩
  have exl:((xa.length:Int)).toNat=xa.length:=by simp
  rw [exl]
  refine comp_range (fun i ys H'=>Stay H H'∧ys=jf1 i (rowsOf wi)) ⟨(Stay.refl H).acc hacc,rfl⟩ ?_ ?_
  ·rintro i ys H' hi hy ⟨st,rfl⟩
   refine ⟨_,rfl,pw,rfl,⟨xw,SqT.of (st _ _ m.hw)⟩,fun acc2 hacc2=>?_⟩
   refine jh5 (xs:=xw) (fun j zs H2=>Stay H' H2∧zs=((rowsOf wi).take j).map fun r=>V.bl (decide (0 < r.getD i 0))) ⟨(Stay.refl H').acc hacc2,rfl⟩ (fun j ys H2 _ _ q=>SqT.of (q.1 _ _ (st _ _ m.hw))) ?_ ?_
   ·rintro j x zs H2 hx hz ⟨st2,rfl⟩
    refine yes_i ?_
    obtain ⟨ns,a,hM,rfl,hA⟩:=rw0.at hx
    have hA2:=st2 _ _ (st _ _ hA)
    have hnl:=rlen ns (Zi hM)
    obtain ⟨ea,_,_⟩:=atI_ints (ns:=ns) (r:=0 + (i:Int)) (by omega) (by omega)
    have et:(0 + (i:Int)).toNat=i:=by omega
    rw [et] at ea
    refine ⟨_,rfl,_,rfl,a,_,_,_,rfl,rfl,SqT.of hA2,ea,_,_,rfl,rfl,_,hz,?_,Cn.of ja8 ⟨st2.acc hacc2,?_⟩⟩
    ·rw [Zb,Zz,sz]; have:=rw0.len; omega
    ·rw [List.take_add_one,hM,Zh]
     rfl
   ·rintro zs H2 hz ⟨st2,rfl⟩
    have hl:=rw0.len
    rw [hl,Ye] at hz
    refine ⟨acc2,_,rfl,.inl (SqL.of hz),?_,_,rfl,?_⟩
    ·rw [Zy]; simp [Function.comp_def,plainB]
    ·have e:((rowsOf wi).map fun r=>V.bl (decide (0 < r.getD i 0))).any tv=has (rowsOf wi) i:=by
      rw [List.any_map]; rfl
     rw [e]
     have hy2:=st2 _ _ hy
     cases hh:has (rowsOf wi) i with
     | true =>
      refine iteT ⟨_,rfl,_,hy2,?_,Cn.of ja8 ⟨(st.trans st2).acc hacc,?_⟩⟩
      ·have:=wishedL_len i (rowsOf wi); rw [sz]; omega
      ·rw [ji4,hh]; rfl
     | false =>
      refine iteF (Cn.of hy2 ⟨st.trans st2,?_⟩)
      rw [ji4,hh]; simp
  ·rintro ys H' hy ⟨st,rfl⟩
   refine ⟨acc,_,rfl,.inl ⟨SqL.of hy,fun l hl=>?_⟩⟩
   exact k l _ (st.new hl) ja8
theorem scTot:FnScope ["parts","whole","part"] ["parts"] (ja3 (top 13)):=L2.fsc
theorem ok_total {f fA:Addr} {fd dA:FuncData} (F:Fun K "total" "total" (top 13) f fd) (A:CalX K mg P w base "plus" 3 ["one","other"] (sp2 qPl) fA dA):FnOk P w K mg base CX0 4 f fd ["parts"] spTot:=by
 refine F.ok scTot (fun vs H Q E h=>?_) (fun cdv A' outer s H vs Q E hr h=>?_)
 ·obtain ⟨l,ys,qs,rfl,_⟩:=h; rfl
 ·obtain ⟨l,ys,qs,rfl,hl,hf,hb,h8,k⟩:=h
  refine ⟨_,ja9 (jd7 (i:=1) scTot.nd rfl (Or.inl rfl) (pe_tup (ja1 ja6 (ja1 ja6 ja5))))
   (ja9 (ps_for PassesOwn.never rfl (piL0 (pv 0)) (jb0 (i:=2) scTot.nd rfl (Or.inl rfl))
    (ja7 (jd7 (i:=1) scTot.nd rfl (Or.inl rfl) (jb5 A.ok hr rfl A.mg A.kp A.bd .nil passE0 (ja1 (pv 1) (ja1 (pv 2) ja5))))))
   (ja7 (jb7 (pv 1)))),?_⟩
  refine ⟨by show 2 ≤ sizeLine; decide,fun p0 hp0=>?_⟩
  have s0:=(Stay.refl H).new (o:=.tup [.int 0,.int 1]) hp0
  refine ⟨_,rfl,l,rfl,⟨_,SqL.of (s0 _ _ hl)⟩,?_⟩
  refine for_list (xs:=ys) (fun i σ H'=>(∃ a y2,σ=[some (.ref l),some (.ref a),y2]∧H' a=some (qO (sumQ (qs.take i))))∧Stay H H') ⟨⟨p0,_,rfl,ja8⟩,s0⟩ (fun i σ H' _ z=>SqL.of (z.2 _ _ hl)) ?_ ?_
  ·rintro i x σ H1 hx ⟨⟨a,y2,rfl,ha⟩,s1⟩
   obtain ⟨c,q,rfl,hc,hq⟩:=frs_get (hf.stay s1) hx
   have hi:i < qs.length:=(Ze.mp hq).1
   have b1:Rb 3000 (sumQ (qs.take i)):=(sumQ_rb hb i).mono (by have:401 * i ≤ 401 * 6:=Nat.mul_le_mul_left _ (by omega); omega)
   have b2:Rb 3000 q:=(hb q (Zi hq)).mono (by decide)
   refine ⟨_,rfl,_,rfl,a,c,_,_,rfl,ha,hc,b1,b2,fun r hr'=>?_⟩
   refine ⟨⟨r,_,rfl,?_⟩,s1.new hr'⟩
   rw [je5 hq,sumQ_snoc]
   exact ja8
  ·rintro σ H1 ⟨⟨a,y2,rfl,ha⟩,s1⟩
   rw [hf.1,Ye] at ha
   exact ⟨_,rfl,k a H1 s1 ha⟩
theorem scGre:FnScope ["parts","found","part"] ["parts"] (ja3 (top 14)):=L2.fsc
theorem ok_greatest {f fA:Addr} {fd dA:FuncData} (F:Fun K "greatest" "greatest" (top 14) f fd) (A:Cal K mg P w base "less" 1 ["one","other"] spLess fA dA):FnOk P w K mg base CX0 2 f fd ["parts"] spGre:=by
 refine F.ok scGre (fun vs H Q E h=>?_) (fun cdv A' outer s H vs Q E hr h=>?_)
 ·obtain ⟨l,ys,qs,rfl,_⟩:=h; rfl
 ·obtain ⟨l,ys,qs,rfl,hl,hf,hne,hb,k⟩:=h
  refine ⟨_,ja9 (jd7 (i:=1) scGre.nd rfl (Or.inl rfl) (jb9 ixL0 (pv 0) ja6 (fun _ _=>rfl)))
   (ja9 (ps_for PassesOwn.never rfl (piL0 (pv 0)) (jb0 (i:=2) scGre.nd rfl (Or.inl rfl))
    (ja7 (jf6 (je7 (jb5 A.ok hr rfl A.mg A.kp A.bd .nil pass0 (ja1 (pv 1) (ja1 (pv 2) ja5)))) (ja7 (jd7 (i:=1) scGre.nd rfl (Or.inl rfl) (pv 2))) jc6)))
   (ja7 (jb7 (pv 1)))),?_⟩
  have hpos:0 < qs.length:=List.length_pos_iff.mpr hne
  obtain ⟨a0,ea0,ha0⟩:=hf.at (g:=0) hpos
  have m0:qs.getD 0 0 ∈ qs:=by simp [List.getD,Zc hpos]
  refine ⟨_,rfl,l,_,_,_,rfl,rfl,SqL.of hl,ea0,?_⟩
  refine ⟨_,rfl,l,rfl,⟨_,SqL.of hl⟩,?_⟩
  refine for_list (xs:=ys) (fun i σ H'=>H'=H∧∃ a q y2,σ=[some (.ref l),some (.ref a),y2]∧H a=some (qO q)∧q ∈ qs∧∀ z ∈ qs.take i,z ≤ q) ⟨rfl,a0,_,_,rfl,ha0,m0,fun z hz=>by simp at hz⟩ (fun i σ H' _ z=>by obtain ⟨rfl,_⟩:=z; exact SqL.of hl) ?_ ?_
  ·rintro i x σ H1 hx ⟨rfl,a,q,y2,rfl,ha,hq,hmax⟩
   obtain ⟨c,z,rfl,hc,hz⟩:=frs_get hf hx
   have hzm:=Zi hz
   refine ⟨_,rfl,_,rfl,a,c,q,z,rfl,ha,hc,hb q hq,hb z hzm,_,rfl,?_⟩
   by_cases hlt:q < z
   ·rw [decide_eq_true hlt]
    refine iteT ⟨_,rfl,rfl,c,z,_,rfl,hc,hzm,fun y hy=>?_⟩
    rw [je5 hz] at hy
    rcases Zq.mp hy with h | h
    ·exact Rat.le_trans (hmax y h) (Rat.le_of_lt hlt)
    ·rw [Yc.mp h]; exact Rat.le_refl
   ·rw [decide_eq_false hlt]
    refine iteF ⟨rfl,a,q,_,rfl,ha,hq,fun y hy=>?_⟩
    rw [je5 hz] at hy
    rcases Zq.mp hy with h | h
    ·exact hmax y h
    ·rw [Yc.mp h]; exact Rat.not_lt.mp hlt
  ·rintro σ H1 ⟨rfl,a,q,y2,rfl,ha,hq,hmax⟩
   rw [hf.1,Ye] at hmax
   exact ⟨_,rfl,k a q ha hq hmax⟩
theorem scRate:FnScope ["wish","price"] ["wish","price"] (ja3 (top 39)):=L2.fsc
theorem ok_rate {f fA Nn:Addr} {fd dA:FuncData} (F:Fun K "rate" "rate" (top 39) f fd) (A:CalX K mg P w base "over" 3 ["one","other"] (spOver Nn) fA dA):FnOk P w K mg base CX0 4 f fd ["wish","price"] spRate:=by
 refine F.ok scRate (fun vs H Q E h=>?_) (fun cdv A' outer s H vs Q E hr h=>?_)
 ·obtain ⟨n,q,x,rfl,_⟩:=h; rfl
 ·obtain ⟨n,q,x,rfl,hq,bx,x0,n0,n1,k⟩:=h
  refine ⟨_,ja7 (jb7 (jb5 A.ok hr rfl A.mg A.kp A.bd .nil passE0 (ja1 (pe_tup (ja1 (pv 0) (ja1 ja6 ja5))) (ja1 (pv 1) ja5)))),?_⟩
  refine ⟨_,rfl,by show 2 ≤ sizeLine; decide,fun p hp=>?_⟩
  have s0:=(Stay.refl H).new (o:=.tup [.int n,.int 1]) hp
  have bn:Rb 3000 (n:Rat):=rb_int (Bd.mono (j:=7) (by unfold Bd; omega) (by decide)) (by decide)
  have hx:x ≠ 0:=fun z=>by rw [z] at x0; exact absurd x0 (by decide)
  refine ⟨_,rfl,p,q,(n:Rat),x,rfl,ja8,s0 _ _ hq,bn,bx.mono (by decide),fun z=>absurd z hx,fun _ r hr'=>?_⟩
  exact k r _ (s0.new hr') ja8
end
section
variable {P:Program} {w:World} {K:PySem.W.Frag} {mg:Str→Option Value} {base:Heap}
theorem scAmount:FnScope ["thing"] ["thing"] (ja3 (top 30)):=L2.fsc
theorem ok_amount {f fW:Addr} {fd dW:FuncData} (F:Fun K "is_amount" "is_amount" (top 30) f fd) {tk:Tok} (N:Nm mg) (hc:mg "MOST_PIECES"=some (.int 60 tk)) (W:Cal K mg P w base "is_whole" 1 ["thing"] (spT ji3) fW dW):FnOk P w K mg base CX0 2 f fd ["thing"] (spT (within 1 60)):=by
 refine F.ok scAmount (fun vs H Q E h=>?_) (fun cdv A outer s H vs Q E hr h=>?_)
 ·obtain ⟨b,v,d,rfl,_⟩:=h; rfl
 ·obtain ⟨b,v,d,rfl,hT,k⟩:=h
  refine ⟨_,ja7 (jb7 (pe_and (jb5 W.ok hr rfl W.mg W.kp W.bd .nil pass0 (ja1 (pv 0) ja5)) (pe_one (pe_chain op_le op_le ja6 (pv 0) (pe_glob (v:=.int 60) rfl hc ⟨_,rfl⟩))))),?_⟩
  refine ⟨_,rfl,b,v,d,rfl,hT,fun H1 s1=>?_⟩
  refine ⟨_,rfl,?_⟩
  have hk:=k H1 s1
  rcases intCase hT with hn | ⟨i,rfl,rfl⟩
  ·rw [hn]; rw [within_no hn] at hk
   exact iteF hk
  ·refine iteT ⟨_,rfl,_,_,rfl,rfl,_,rfl,?_⟩
   have hk':Q (.bl (decide ((1:Int) ≤ i) && decide (i ≤ 60))) H1:=hk
   cases h1:decide ((1:Int) ≤ i) with
   | true=>rw [h1] at hk'; exact iteT ⟨_,_,rfl,rfl,hk'⟩
   | false=>rw [h1] at hk'; exact iteF hk'
theorem scMwish:FnScope ["thing"] ["thing"] (ja3 (top 32)):=L2.fsc
theorem ok_wish {f fW:Addr} {fd dW:FuncData} (F:Fun K "is_wish" "is_wish" (top 32) f fd) {tk:Tok} (N:Nm mg) (hc:mg "MOST_WISH"=some (.int 100 tk)) (W:Cal K mg P w base "is_whole" 1 ["thing"] (spT ji3) fW dW):FnOk P w K mg base CX0 2 f fd ["thing"] (spT (within 0 100)):=by
 refine F.ok scMwish (fun vs H Q E h=>?_) (fun cdv A outer s H vs Q E hr h=>?_)
 ·obtain ⟨b,v,d,rfl,_⟩:=h; rfl
 ·obtain ⟨b,v,d,rfl,hT,k⟩:=h
  refine ⟨_,ja7 (jb7 (pe_and (jb5 W.ok hr rfl W.mg W.kp W.bd .nil pass0 (ja1 (pv 0) ja5)) (pe_one (pe_chain op_le op_le ja6 (pv 0) (pe_glob (v:=.int 100) rfl hc ⟨_,rfl⟩))))),?_⟩
  refine ⟨_,rfl,b,v,d,rfl,hT,fun H1 s1=>?_⟩
  refine ⟨_,rfl,?_⟩
  have hk:=k H1 s1
  rcases intCase hT with hn | ⟨i,rfl,rfl⟩
  ·rw [hn]; rw [within_no hn] at hk
   exact iteF hk
  ·refine iteT ⟨_,rfl,_,_,rfl,rfl,_,rfl,?_⟩
   have hk':Q (.bl (decide ((0:Int) ≤ i) && decide (i ≤ 100))) H1:=hk
   cases h1:decide ((0:Int) ≤ i) with
   | true=>rw [h1] at hk'; exact iteT ⟨_,_,rfl,rfl,hk'⟩
   | false=>rw [h1] at hk'; exact iteF hk'
theorem scMpurse:FnScope ["thing","top","bottom"] ["thing"] (ja3 (top 31)):=L2.fsc
theorem ok_ispurse {f fW:Addr} {fd dW:FuncData} (F:Fun K "is_purse" "is_purse" (top 31) f fd) {tk:Tok} (N:Nm mg) (hc:mg "MOST_IN_PURSE"=some (.int 1000000 tk)) (W:Cal K mg P w base "is_fraction" 2 ["thing"] (spT isFrac) fW dW):FnOk P w K mg base CX0 3 f fd ["thing"] (spT jd4):=by
 refine F.ok scMpurse (fun vs H Q E h=>?_) (fun cdv A outer s H vs Q E hr h=>?_)
 ·obtain ⟨b,v,d,rfl,_⟩:=h; rfl
 ·obtain ⟨b,v,d,rfl,hT,k⟩:=h
  refine ⟨_,ja9 (jf6 (je8 (je7 (jb5 W.ok hr rfl W.mg W.kp W.bd .nil pass0 (ja1 (pv 0) ja5)))) (ja7 (jb7 jh0)) jc6)
   (ja9 (ps_asg (pv 0) (pgTup0 rfl (jc5 (jb0 (i:=1) scMpurse.nd rfl (Or.inl rfl)) (jc5 (jb0 (i:=2) scMpurse.nd rfl (Or.inl rfl)) jg5))))
   (ja7 (jb7 (pe_and (pe_chain op_le op_le ja6 (pv 1) (pe_glob (v:=.int 1000000) rfl hc ⟨_,rfl⟩)) (pe_one (je2 op_le (pv 2) (pe_glob (v:=.int 1000000) rfl hc ⟨_,rfl⟩) (nomark _))))))),?_⟩
  refine ⟨_,rfl,b,v,d,rfl,hT,fun H1 s1=>?_⟩
  refine ⟨_,rfl,?_⟩
  have hk:=k H1 s1
  cases hf:isFrac d with
  | false=>rw [purse_frac hf] at hk; exact iteT hk
  | true =>
   refine iteF ?_
   obtain ⟨t,u,rfl,hu,hg⟩:=fracShape hf
   have hT1:=hT.stay s1
   cases hT1 with
   | tup ha hs =>
   cases hs with
   | cons hx hs =>
   cases hs with
   | cons hy hs =>
   cases hs
   cases hx
   cases hy
   refine ⟨_,rfl,_,_,rfl,SqT.of ha,rfl,_,_,rfl,_,_,rfl,rfl,?_⟩
   have e:jd4 (.tuple [.int t,.int u])=(decide (1 ≤ t) && decide (t ≤ 1000000) && decide (u ≤ 1000000)):=by
    show (decide (1 ≤ u) && decide (Int.gcd t u=1) && decide (1 ≤ t) && decide (t ≤ 1000000) && decide (u ≤ 1000000))=_
    rw [decide_eq_true hu,decide_eq_true hg]; rfl
   rw [e] at hk
   refine ⟨_,rfl,_,_,rfl,rfl,_,rfl,?_⟩
   cases h1:decide (1 ≤ t) with
   | false=>rw [h1] at hk; exact iteF ⟨_,rfl,iteF hk⟩
   | true =>
    rw [h1] at hk
    refine iteT ⟨_,_,rfl,rfl,_,rfl,?_⟩
    cases h2:decide (t ≤ 1000000) with
    | false=>rw [h2] at hk; exact iteF hk
    | true=>rw [h2] at hk; exact iteT ⟨_,rfl,_,_,rfl,rfl,hk⟩
theorem scMrow:FnScope ["thing","goods"] ["thing","goods"] (ja3 (top 29)):=L2.fsc
theorem ok_wishrow {f fW:Addr} {fd dW:FuncData} (F:Fun K "is_wish_row" "is_wish_row" (top 29) f fd) (N:Nm mg) (Z:IsK K) (W:Cal K mg P w base "is_wish" 2 ["thing"] (spT (within 0 100)) fW dW):FnOk P w K mg base CX0 3 f fd ["thing","goods"] (spRow 0 100):=by
 refine F.ok scMrow (fun vs H Q E h=>?_) (fun cdv A outer s H vs Q E hr h=>?_)
 ·obtain ⟨b,v,d,n,rfl,_⟩:=h; rfl
 ·obtain ⟨b,v,d,n,rfl,hn6,hT,k⟩:=h
  refine ⟨_,ja9 (jf6 (PW.pt (pw_or (je8 (je7 (pIsi K (pv 0) rfl N.isinstance rfl N.tuple jb8 jb4))) (jg7 (jc4 op_ne (jb3 cLen0 (by rfl) N.len PySem.boot_len (ja1 (pv 0) ja5)) (pv 1) (nomark _))))) (ja7 (jb7 jh0)) jc6)
   (ja7 (jb7 (jb3 (cAll0 rfl) (by rfl) N.all jg1 (ja1 (je0 (own:=["part"]) (cap:=[]) (ix:=[]) (BlkOk.of (ja3 (top 29)).names ["thing","goods"]) rfl (piT0 (pv 0))
    (fun C fp s H=>⟨jb0 (i:=0) (show List.Nodup (["part"]:List Str) by decide +kernel) rfl (Or.inl rfl),jd6,jb5 W.ok hr rfl W.mg W.kp W.bd .nil pass0 (ja1 (pv 0) ja5)⟩)) ja5)))),?_⟩
  obtain ⟨t1,ty1,e1⟩:=ist Z hT
  refine ⟨_,rfl,t1,_,ty1,e1,_,rfl,?_⟩
  rcases jh1 hT with hn | ⟨a,xs,ds,rfl,rfl,ha,hs⟩
  ·have hk:=k H (Stay.refl H)
   rw [hn]; rw [isRow_no hn] at hk
   exact iteT (iteT hk)
  refine iteF ?_
  have hlen:=hs.len
  refine ⟨_,rfl,a,xs,rfl,.inr (SqT.of ha),_,rfl,rfl,_,rfl,?_⟩
  by_cases hl:xs.length=n
  case neg =>
   rw [jj0 hl]
   have e3:isRow n 0 100 (.tuple ds)=false:=by
    show (decide (ds.length=n) && _)=false
    rw [decide_eq_false (by omega)]; rfl
   have hk:=k H (Stay.refl H)
   rw [e3] at hk
   exact iteT hk
  rw [hl,vint_eq]
  refine iteF ?_
  refine ⟨_,rfl,a,rfl,⟨xs,SqT.of ha⟩,fun acc hacc=>?_⟩
  refine jh6 (within 0 100) hs ha hacc (by omega) (fun x d H' st hx _ Z hZ=>⟨_,rfl,b,x,d,rfl,hx,fun H5 s5=>hZ H5 s5⟩) (fun H' st hy=>?_)
  refine ⟨acc,_,rfl,.inl (SqL.of hy),plain_bools,?_⟩
  rw [all_bools]
  have hk:=k H' st
  have e3:isRow n 0 100 (.tuple ds)=ds.all (within 0 100):=by
   show (decide (ds.length=n) && _)=_
   rw [decide_eq_true (by omega)]; rfl
  rw [e3] at hk
  exact hk
theorem scMas:FnScope ["thing"] ["thing"] (ja3 (top 26)):=L2.fsc
theorem ok_amounts {f fW:Addr} {fd dW:FuncData} (F:Fun K "are_amounts" "are_amounts" (top 26) f fd) {tk:Tok} (N:Nm mg) (hc:mg "MOST_GOODS"=some (.int 6 tk)) (Z:IsK K) (W:Cal K mg P w base "is_amount" 2 ["thing"] (spT (within 1 60)) fW dW):FnOk P w K mg base CX0 3 f fd ["thing"] (spT (isAs (within 1 60))):=by
 refine F.ok scMas (fun vs H Q E h=>?_) (fun cdv A outer s H vs Q E hr h=>?_)
 ·obtain ⟨b,v,d,rfl,_⟩:=h; rfl
 ·obtain ⟨b,v,d,rfl,hT,k⟩:=h
  refine ⟨_,ja9 (jf6 (PW.pt (pw_or (je8 (je7 (pIsi K (pv 0) rfl N.isinstance rfl N.tuple jb8 jb4))) (jg7 (je8 (pt_chain op_le op_le ja6 (jb3 cLen0 (by rfl) N.len PySem.boot_len (ja1 (pv 0) ja5)) (pe_glob (v:=.int 6) rfl hc ⟨_,rfl⟩)))))) (ja7 (jb7 jh0)) jc6)
   (ja7 (jb7 (jb3 (cAll0 rfl) (by rfl) N.all jg1 (ja1 (je0 (own:=["part"]) (cap:=[]) (ix:=[]) (BlkOk.of (ja3 (top 26)).names ["thing"]) rfl (piT0 (pv 0))
    (fun C fp s H=>⟨jb0 (i:=0) (show List.Nodup (["part"]:List Str) by decide +kernel) rfl (Or.inl rfl),jd6,jb5 W.ok hr rfl W.mg W.kp W.bd .nil pass0 (ja1 (pv 0) ja5)⟩)) ja5)))),?_⟩
  obtain ⟨t1,ty1,e1⟩:=ist Z hT
  refine ⟨_,rfl,t1,_,ty1,e1,_,rfl,?_⟩
  rcases jh1 hT with hn | ⟨a,xs,ds,rfl,rfl,ha,hs⟩
  ·have hk:=k H (Stay.refl H)
   rw [hn]; rw [isAs_no hn] at hk
   exact iteT (iteT hk)
  refine iteF ?_
  have hlen:=hs.len
  refine ⟨_,rfl,a,xs,rfl,.inr (SqT.of ha),_,_,rfl,rfl,_,rfl,?_⟩
  have no:¬ (1 ≤ ds.length∧ds.length ≤ 6)→Q (.bl false) H:=fun hz=>by
   have hk:=k H (Stay.refl H)
   have e3:isAs (within 1 60) (.tuple ds)=false:=by
    show (decide (1 ≤ ds.length) && decide (ds.length ≤ 6) && _)=false
    cases h1:decide (1 ≤ ds.length) with
    | false=>rfl
    | true =>
     rw [decide_eq_false (fun z=>hz ⟨of_decide_eq_true h1,z⟩)]; rfl
   rw [e3] at hk; exact hk
  by_cases h1:(1:Int) ≤ (xs.length:Int)
  case neg =>
   rw [decide_eq_false h1]
   exact iteF ⟨_,rfl,iteT (no (by omega))⟩
  rw [decide_eq_true h1]
  refine iteT ⟨_,_,rfl,rfl,_,rfl,?_⟩
  by_cases h2:(xs.length:Int) ≤ 6
  case neg =>
   rw [decide_eq_false h2]
   exact iteT (no (by omega))
  rw [decide_eq_true h2]
  refine iteF ?_
  refine ⟨_,rfl,a,rfl,⟨xs,SqT.of ha⟩,fun acc hacc=>?_⟩
  refine jh6 (within 1 60) hs ha hacc (by omega) (fun x d H' st hx _ Z hZ=>⟨_,rfl,b,x,d,rfl,hx,fun H5 s5=>hZ H5 s5⟩) (fun H' st hy=>?_)
  refine ⟨acc,_,rfl,.inl (SqL.of hy),plain_bools,?_⟩
  rw [all_bools]
  have hk:=k H' st
  have e3:isAs (within 1 60) (.tuple ds)=ds.all (within 1 60):=by
   show (decide (1 ≤ ds.length) && decide (ds.length ≤ 6) && _)=_
   rw [decide_eq_true (show 1 ≤ ds.length by omega),decide_eq_true (show ds.length ≤ 6 by omega)]; rfl
  rw [e3] at hk
  exact hk
theorem scMps:FnScope ["thing"] ["thing"] (ja3 (top 27)):=L2.fsc
theorem ok_purses {f fW:Addr} {fd dW:FuncData} (F:Fun K "are_purses" "are_purses" (top 27) f fd) {tk:Tok} (N:Nm mg) (hc:mg "MOST_BUYERS"=some (.int 6 tk)) (Z:IsK K) (W:Cal K mg P w base "is_purse" 3 ["thing"] (spT jd4) fW dW):FnOk P w K mg base CX0 4 f fd ["thing"] (spT (isAs jd4)):=by
 refine F.ok scMps (fun vs H Q E h=>?_) (fun cdv A outer s H vs Q E hr h=>?_)
 ·obtain ⟨b,v,d,rfl,_⟩:=h; rfl
 ·obtain ⟨b,v,d,rfl,hT,k⟩:=h
  refine ⟨_,ja9 (jf6 (PW.pt (pw_or (je8 (je7 (pIsi K (pv 0) rfl N.isinstance rfl N.tuple jb8 jb4))) (jg7 (je8 (pt_chain op_le op_le ja6 (jb3 cLen0 (by rfl) N.len PySem.boot_len (ja1 (pv 0) ja5)) (pe_glob (v:=.int 6) rfl hc ⟨_,rfl⟩)))))) (ja7 (jb7 jh0)) jc6)
   (ja7 (jb7 (jb3 (cAll0 rfl) (by rfl) N.all jg1 (ja1 (je0 (own:=["part"]) (cap:=[]) (ix:=[]) (BlkOk.of (ja3 (top 27)).names ["thing"]) rfl (piT0 (pv 0))
    (fun C fp s H=>⟨jb0 (i:=0) (show List.Nodup (["part"]:List Str) by decide +kernel) rfl (Or.inl rfl),jd6,jb5 W.ok hr rfl W.mg W.kp W.bd .nil pass0 (ja1 (pv 0) ja5)⟩)) ja5)))),?_⟩
  obtain ⟨t1,ty1,e1⟩:=ist Z hT
  refine ⟨_,rfl,t1,_,ty1,e1,_,rfl,?_⟩
  rcases jh1 hT with hn | ⟨a,xs,ds,rfl,rfl,ha,hs⟩
  ·have hk:=k H (Stay.refl H)
   rw [hn]; rw [isAs_no hn] at hk
   exact iteT (iteT hk)
  refine iteF ?_
  have hlen:=hs.len
  refine ⟨_,rfl,a,xs,rfl,.inr (SqT.of ha),_,_,rfl,rfl,_,rfl,?_⟩
  have no:¬ (1 ≤ ds.length∧ds.length ≤ 6)→Q (.bl false) H:=fun hz=>by
   have hk:=k H (Stay.refl H)
   have e3:isAs jd4 (.tuple ds)=false:=by
    show (decide (1 ≤ ds.length) && decide (ds.length ≤ 6) && _)=false
    cases h1:decide (1 ≤ ds.length) with
    | false=>rfl
    | true =>
     rw [decide_eq_false (fun z=>hz ⟨of_decide_eq_true h1,z⟩)]; rfl
   rw [e3] at hk; exact hk
  by_cases h1:(1:Int) ≤ (xs.length:Int)
  case neg =>
   rw [decide_eq_false h1]
   exact iteF ⟨_,rfl,iteT (no (by omega))⟩
  rw [decide_eq_true h1]
  refine iteT ⟨_,_,rfl,rfl,_,rfl,?_⟩
  by_cases h2:(xs.length:Int) ≤ 6
  case neg =>
   rw [decide_eq_false h2]
   exact iteT (no (by omega))
  rw [decide_eq_true h2]
  refine iteF ?_
  refine ⟨_,rfl,a,rfl,⟨xs,SqT.of ha⟩,fun acc hacc=>?_⟩
  refine jh6 jd4 hs ha hacc (by omega) (fun x d H' st hx _ Z hZ=>⟨_,rfl,b,x,d,rfl,hx,fun H5 s5=>hZ H5 s5⟩) (fun H' st hy=>?_)
  refine ⟨acc,_,rfl,.inl (SqL.of hy),plain_bools,?_⟩
  rw [all_bools]
  have hk:=k H' st
  have e3:isAs jd4 (.tuple ds)=ds.all jd4:=by
   show (decide (1 ≤ ds.length) && decide (ds.length ≤ 6) && _)=_
   rw [decide_eq_true (show 1 ≤ ds.length by omega),decide_eq_true (show ds.length ≤ 6 by omega)]; rfl
  rw [e3] at hk
  exact hk
theorem scMws:FnScope ["thing","buyers","goods"] ["thing","buyers","goods"] (ja3 (top 28)):=L2.fsc
theorem ok_arewishes {f fW:Addr} {fd dW:FuncData} (F:Fun K "are_wishes" "are_wishes" (top 28) f fd) (N:Nm mg) (Z:IsK K) (W:Cal K mg P w base "is_wish_row" 3 ["thing","goods"] (spRow 0 100) fW dW):FnOk P w K mg base CX0 4 f fd ["thing","buyers","goods"] spWs:=by
 refine F.ok scMws (fun vs H Q E h=>?_) (fun cdv A outer s H vs Q E hr h=>?_)
 ·obtain ⟨b,v,d,m,n,rfl,_⟩:=h; rfl
 ·obtain ⟨b,v,d,m,n,rfl,hm6,hn6,hT,k⟩:=h
  refine ⟨_,ja9 (jf6 (PW.pt (pw_or (je8 (je7 (pIsi K (pv 0) rfl N.isinstance rfl N.tuple jb8 jb4))) (jg7 (jc4 op_ne (jb3 cLen0 (by rfl) N.len PySem.boot_len (ja1 (pv 0) ja5)) (pv 1) (nomark _))))) (ja7 (jb7 jh0)) jc6)
   (ja7 (jb7 (jb3 (cAll0 rfl) (by rfl) N.all jg1 (ja1 (je0 (own:=["row"]) (cap:=["goods"]) (ix:=[2]) (BlkOk.of (ja3 (top 28)).names ["thing","buyers","goods"]) rfl (piT0 (pv 0))
    (fun C fp s H=>⟨jb0 (i:=0) (show List.Nodup (["row","goods"]:List Str) by decide +kernel) rfl (Or.inl rfl),jd6,jb5 W.ok hr rfl W.mg W.kp W.bd .nil pass0 (ja1 (pv 0) (ja1 (pv 1) ja5))⟩)) ja5)))),?_⟩
  obtain ⟨t1,ty1,e1⟩:=ist Z hT
  refine ⟨_,rfl,t1,_,ty1,e1,_,rfl,?_⟩
  rcases jh1 hT with hn | ⟨a,xs,ds,rfl,rfl,ha,hs⟩
  ·have hk:=k H (Stay.refl H)
   rw [hn]; rw [isWs_no hn] at hk
   exact iteT (iteT hk)
  refine iteF ?_
  have hlen:=hs.len
  refine ⟨_,rfl,a,xs,rfl,.inr (SqT.of ha),_,rfl,rfl,_,rfl,?_⟩
  by_cases hl:xs.length=m
  case neg =>
   rw [jj0 hl]
   have e3:isWs m n (.tuple ds)=false:=by
    show (decide (ds.length=m) && _)=false
    rw [decide_eq_false (by omega)]; rfl
   have hk:=k H (Stay.refl H)
   rw [e3] at hk
   exact iteT hk
  rw [hl,vint_eq]
  refine iteF ?_
  refine ⟨_,rfl,a,rfl,⟨xs,SqT.of ha⟩,fun acc hacc=>?_⟩
  refine jh6 (isRow n 0 100) hs ha hacc (by omega) (fun x d H' st hx _ Z hZ=>⟨_,rfl,_,rfl,b,x,d,n,rfl,hn6,hx,fun H5 s5=>hZ H5 s5⟩) (fun H' st hy=>?_)
  refine ⟨acc,_,rfl,.inl (SqL.of hy),plain_bools,?_⟩
  rw [all_bools]
  have hk:=k H' st
  have e3:isWs m n (.tuple ds)=ds.all (isRow n 0 100):=by
   show (decide (ds.length=m) && _)=_
   rw [decide_eq_true (by omega)]; rfl
  rw [e3] at hk
  exact hk
theorem scIsMk:FnScope ["thing","amounts","purses","wishes"] ["thing"] (ja3 (top 25)):=L2.fsc
theorem ok_ismarket {f fA fP fW:Addr} {fd dA dP dW:FuncData} (F:Fun K "is_market" "is_market" (top 25) f fd) (N:Nm mg) (Z:IsK K) (A':Cal K mg P w base "are_amounts" 3 ["thing"] (spT (isAs (within 1 60))) fA dA)
  (P':Cal K mg P w base "are_purses" 4 ["thing"] (spT (isAs jd4)) fP dP) (W:Cal K mg P w base "are_wishes" 4 ["thing","buyers","goods"] spWs fW dW):FnOk P w K mg base CX0 5 f fd ["thing"] (spT isMk):=by
 refine F.ok scIsMk (fun vs H Q E h=>?_) (fun cdv A outer s H vs Q E hr h=>?_)
 ·obtain ⟨b,v,d,rfl,_⟩:=h; rfl
 ·obtain ⟨b,v,d,rfl,hT,k⟩:=h
  have hr3:Room 3 _:=hr.mono (by decide)
  refine ⟨_,ja9 (jf6 (PW.pt (pw_or (je8 (je7 (pIsi K (pv 0) rfl N.isinstance rfl N.tuple jb8 jb4))) (jg7 (jc4 op_ne (jb3 cLen0 (by rfl) N.len PySem.boot_len (ja1 (pv 0) ja5)) ja6 (nomark _))))) (ja7 (jb7 jh0)) jc6)
   (ja9 (ps_asg (pv 0) (pgTup0 rfl (jc5 (jb0 (i:=1) scIsMk.nd rfl (Or.inl rfl)) (jc5 (jb0 (i:=2) scIsMk.nd rfl (Or.inl rfl)) (jc5 (jb0 (i:=3) scIsMk.nd rfl (Or.inl rfl)) jg5)))))
   (ja9 (jf6 (PW.pt (pw_or (je8 (je7 (jb5 A'.ok hr3 rfl A'.mg A'.kp A'.bd .nil pass0 (ja1 (pv 1) ja5)))) (jg7 (je8 (je7 (jb5 P'.ok hr rfl P'.mg P'.kp P'.bd .nil pass0 (ja1 (pv 2) ja5))))))) (ja7 (jb7 jh0)) jc6)
   (ja7 (jb7 (jb5 W.ok hr rfl W.mg W.kp W.bd .nil pass0 (ja1 (pv 3) (ja1 (jb3 cLen0 (by rfl) N.len PySem.boot_len (ja1 (pv 2) ja5)) (ja1 (jb3 cLen0 (by rfl) N.len PySem.boot_len (ja1 (pv 1) ja5)) ja5)))))))),?_⟩
  obtain ⟨t1,ty1,e1⟩:=ist Z hT
  refine ⟨_,rfl,t1,_,ty1,e1,_,rfl,?_⟩
  have hk:=k H (Stay.refl H)
  rcases jh1 hT with hn | ⟨a,xs,ds,rfl,rfl,ha,hs⟩
  ·rw [hn]; rw [isMk_no hn] at hk
   exact iteT (iteT hk)
  refine iteF ?_
  refine ⟨_,rfl,a,xs,rfl,.inr (SqT.of ha),rfl,_,rfl,?_⟩
  by_cases hl:xs.length=3
  case neg =>
   have e2:(!decide (V.int (xs.length:Int)=V.int 3))=true:=jj0 (b:=3) hl
   rw [e2]
   rw [isMk_len (by rw [← hs.len]; exact hl)] at hk
   exact iteT hk
  have e2:(!decide (V.int (xs.length:Int)=V.int 3))=false:=by rw [hl]; rfl
  rw [e2]
  refine iteF ?_
  match xs,ds,hl,hs with
  | [x,y,z],_,_,.cons (d:=dx) hx (.cons (d:=dy) hy (.cons (d:=dz) hz .nil)) =>
  refine ⟨_,rfl,a,_,rfl,SqT.of ha,rfl,_,_,rfl,_,_,rfl,_,_,rfl,rfl,?_⟩
  rw [isMk_parts] at k
  refine ⟨_,rfl,b,x,dx,rfl,hx,fun H1 s1=>?_⟩
  refine ⟨_,rfl,?_⟩
  cases h1:isAs (within 1 60) dx with
  | false =>
   rw [h1] at k
   exact iteT (iteT (k H1 s1))
  | true =>
  refine iteF ?_
  refine ⟨_,rfl,b,y,dy,rfl,hy.stay s1,fun H2 s2=>?_⟩
  refine ⟨_,rfl,?_⟩
  cases h2:isAs jd4 dy with
  | false =>
   rw [h1,h2] at k
   exact iteT (k H2 (s1.trans s2))
  | true =>
  refine iteF ?_
  obtain ⟨la,rfl,la1,la2,la3⟩:=isAs_shape h1
  obtain ⟨lp,rfl,lp1,lp2,lp3⟩:=isAs_shape h2
  have s12:=s1.trans s2
  cases hx.stay s12 with
  | tup hax hxs =>
  cases hy.stay s12 with
  | tup hay hys =>
  rw [h1,h2] at k
  refine ⟨_,rfl,_,rfl,_,_,rfl,.inr (SqT.of hay),_,rfl,_,_,rfl,.inr (SqT.of hax),b,z,dz,lp.length,la.length,?_,by omega,by omega,hz.stay s12,fun H3 s3=>k H3 (s12.trans s3)⟩
  rw [hxs.len,hys.len]; rfl
end
theorem range_succ_any {f:Nat→Bool} {n:Nat}:(List.range (n + 1)).any f=((List.range n).any f || f n):=by rw [Yf,List.any_append]; simp
theorem natsV_snoc {f:Nat→Bool} {n:Nat}:natsV ((List.range (n + 1)).filter f)=natsV ((List.range n).filter f) ++ (if f n=true then [V.int (n:Int)] else []):=by
 unfold natsV
 rw [filter_succ,Zh]
 split <;> simp
def worstB (row:List Int) (qs:List Rat) (g n:Nat):Bool:=decide (row.getD g 0=0) || (List.range n).any (worse row qs g)
theorem best_worst {row:List Int} {qs:List Rat} {g:Nat}:bestB row qs g=!worstB row qs g row.length:=by
 unfold bestB worstB
 rw [Bool.not_or,List.not_any_eq_all_not]
 simp
theorem worse_b {row:List Int} {qs:List Rat} {g o:Nat}:worse row qs g o=(decide (0 < row.getD o 0) && decide (row.getD g 0 * (qs.getD o 0).num * ((qs.getD g 0).den:Int) < row.getD o 0 * (qs.getD g 0).num * ((qs.getD o 0).den:Int))):=by
 unfold worse
 congr 1
 exact decide_eq_decide.mpr worse_int
section
variable {P:Program} {w:World} {K:PySem.W.Frag} {mg:Str→Option Value} {base:Heap}
abbrev NB:List Str:=["market","prices","found","row","best","good","top","bottom","worse","other","there"]
theorem scBest:FnScope NB ["market","prices"] (ja3 (top 60)):=L2.fsc
theorem ok_lbest {f:Addr} {fd:FuncData} (F:Fun K "_law_best" "_law_best" (top 60) f fd) (N:Nm mg):FnOk P w K mg base CX0 1 f fd ["market","prices"] spLBest:=by
 refine F.ok scBest (fun vs H Q E h=>?_) (fun cdv A' outer s H vs Q E hr h=>?_)
 ·obtain ⟨b,p,pa,pp,pw,q,xa,xp,xw,ys,am,pu,wi,qs,rfl,_⟩:=h; rfl
 ·obtain ⟨b,p,pa,pp,pw,q,xa,xp,xw,ys,am,pu,wi,qs,rfl,m,pr,hql,k⟩:=h
  obtain ⟨rw0,rne,rlen,rbd,a1,a6,w1,w6,_⟩:=m.lw
  have hfr:=Frs.of pr.tr
  refine ⟨_,ja9 (jd7 (i:=2) scBest.nd rfl (Or.inl rfl) (pe_lst ja5))
   (ja9 (ps_for PassesOwn.never rfl (piT0 (jb9 ixT0 (pv 0) ja6 (fun _ _=>rfl))) (jb0 (i:=3) scBest.nd rfl (Or.inl rfl))
    (ja9 (jd7 (i:=4) scBest.nd rfl (Or.inl rfl) (pe_lst ja5))
    (ja9 (ps_for PassesOwn.never rfl (jg8 rfl N.range (ja1 (jb3 cLen0 (by rfl) N.len PySem.boot_len (ja1 (pv 3) ja5)) ja5)) (jb0 (i:=5) scBest.nd rfl (Or.inl rfl))
     (ja9 (ps_asg (jb9 ixT0 (pv 1) (pv 5) (fun _ _=>rfl)) (pgTup0 rfl (jc5 (jb0 (i:=6) scBest.nd rfl (Or.inl rfl)) (jc5 (jb0 (i:=7) scBest.nd rfl (Or.inl rfl)) jg5))))
     (ja9 (jd7 (i:=8) scBest.nd rfl (Or.inl rfl) (je2 op_eq (jb9 ixT0 (pv 3) (pv 5) (fun _ _=>rfl)) ja6 (nomark _)))
     (ja9 (ps_for PassesOwn.never rfl (jg8 rfl N.range (ja1 (jb3 cLen0 (by rfl) N.len PySem.boot_len (ja1 (pv 3) ja5)) ja5)) (jb0 (i:=9) scBest.nd rfl (Or.inl rfl))
      (ja9 (jd7 (i:=10) scBest.nd rfl (Or.inl rfl) (jc3 jd3 (jc3 jd3 (jb9 ixT0 (pv 3) (pv 9) (fun _ _=>rfl)) (pv 6)) (jb9 ixT0 (jb9 ixT0 (pv 1) (pv 9) (fun _ _=>rfl)) ja6 (fun _ _=>rfl))))
      (ja7 (jf6 (PW.pt (pw_and (jc4 op_gt (jb9 ixT0 (pv 3) (pv 9) (fun _ _=>rfl)) ja6 (nomark _)) (pw_and1 (jc4 op_lt (jc3 jd3 (jc3 jd3 (jb9 ixT0 (pv 3) (pv 5) (fun _ _=>rfl)) (jb9 ixT0 (jb9 ixT0 (pv 1) (pv 9) (fun _ _=>rfl)) ja6 (fun _ _=>rfl))) (pv 7)) (pv 10) (nomark _)))))
       (ja7 (jd7 (i:=8) scBest.nd rfl (Or.inl rfl) jh0)) jc6))))
     (ja7 (jf6 (je8 (je7 (pv 8))) (ja7 (ps_expr (peBm0 PySem.F.plainAttrs_list PySem.F.slot_list_append PySem.F.type_list_append mt_append (pv 4) (ja1 (pv 5) ja5)))) jc6))))))
    (ja7 (ps_expr (peBm0 PySem.F.plainAttrs_list PySem.F.slot_list_append PySem.F.type_list_append mt_append (pv 2) (ja1 (pv 4) ja5)))))))
   (ja7 (jb7 (pv 2)))),?_⟩
  refine ⟨by show 0 ≤ sizeLine; decide,fun pf hpf=>?_⟩
  have s0:=(Stay.refl H).new (o:=.lst []) hpf
  have m0:=m.stay s0
  refine ⟨_,rfl,p,_,_,_,rfl,rfl,SqT.of m0.hp,rfl,pw,rfl,⟨xw,SqT.of m0.hw⟩,?_⟩
  refine for_tup (xs:=xw) (fun i σ H'=>(∃ y3 y4 y5 y6 y7 y8 y9 y10,σ=[some (.ref p),some (.ref q),some (.ref pf),y3,y4,y5,y6,y7,y8,y9,y10])∧Stay H H'∧∃ xs,H' pf=some (.lst xs)∧xs.length=i∧∀ (j:Nat) x,xs[j]?=some x→∃ a,x=.ref a∧a ≠ pf∧H' a=some (.lst (((bestM (rowsOf wi) qs).getD j []).map V.int)))
   ⟨⟨_,_,_,_,_,_,_,_,rfl⟩,s0,[],ja8,rfl,fun j x hx=>by simp at hx⟩ (fun j σ H' _ z=>SqT.of (z.2.1 _ _ m.hw)) ?_ ?_
  ·rintro i x σ H1 hx ⟨⟨y3,y4,y5,y6,y7,y8,y9,y10,rfl⟩,s1,xs,hxs,hxl,hxp⟩
   obtain ⟨row,ar,hrow,rfl,har⟩:=rw0.at hx
   have hmr:=Zi hrow
   have rl:=rlen row hmr
   have rb:=rbd row hmr
   refine ⟨by show 0 ≤ sizeLine; decide,fun pb hpb=>?_⟩
   have npf:pf ≠ pb:=fun z=>by rw [z,hpb] at hxs; cases hxs
   have s2:=(Stay.refl H1).new (o:=.lst []) hpb
   have eb2:(upd H1 pb (.lst [])) pb=some (.lst []):=ja8
   generalize upd H1 pb (.lst [])=H2 at s2 eb2 ⊢
   have har2:=s2 _ _ (s1 _ _ har)
   refine ⟨_,rfl,ar,_,rfl,.inr (SqT.of har2),(row.length:Int),by rw [Zb],by omega,by omega,?_⟩
   have exl:((row.length:Int)).toNat=row.length:=by simp
   rw [exl]
   refine for_range (fun g σ H'=>(∃ y5 y6 y7 y8 y9 y10,σ=[some (.ref p),some (.ref q),some (.ref pf),some (.ref ar),some (.ref pb),y5,y6,y7,y8,y9,y10])∧Stay H1 H'∧H' pb=some (.lst (natsV ((List.range g).filter (bestB row qs)))))
    ⟨⟨_,_,_,_,_,_,rfl⟩,s2,eb2⟩ ?_ ?_
   ·rintro g σ H3 hg ⟨⟨y5,y6,y7,y8,y9,y10,rfl⟩,s3,eb3⟩
    have e0:(0 + (g:Int))=(g:Int):=by omega
    have s03:=s1.trans s3
    have hq3:=s03 _ _ pr.hq
    have har3:=s03 _ _ har
    obtain ⟨a,ea,ha⟩:=(hfr.stay s03).at (g:=g) (by omega)
    rw [← e0] at ea
    refine ⟨_,rfl,_,rfl,q,_,_,_,rfl,rfl,SqT.of hq3,ea,a,_,rfl,SqT.of ha,rfl,_,_,rfl,_,_,rfl,rfl,?_⟩
    obtain ⟨er,_,em⟩:=atI_ints (ns:=row) (r:=0 + (g:Int)) (by omega) (by omega)
    have eg:(0 + (g:Int)).toNat=g:=by omega
    rw [eg] at er em
    refine ⟨_,rfl,_,rfl,ar,_,_,_,rfl,rfl,SqT.of har3,er,rfl,?_⟩
    refine ⟨_,rfl,ar,_,rfl,.inr (SqT.of har3),(row.length:Int),by rw [Zb],by omega,by omega,?_⟩
    rw [exl]
    have bW7:∀ o,Bd 7 (row.getD o 0):=fun o=>by
     by_cases ho:o < row.length
     ·have:row.getD o 0 ∈ row:=by simp [List.getD,Zc ho]
      have:=rb _ this
      unfold Bd; omega
     ·have:row.getD o 0=0:=by simp [List.getD,Yk (Nat.le_of_not_lt ho)]
      rw [this]; unfold Bd; decide
    have bW:∀ o,Bd 8000 (row.getD o 0):=fun o=>(bW7 o).mono (by decide)
    have bg:=pr.rb g
    refine for_range (fun o σ H'=>(∃ y9 y10,σ=[some (.ref p),some (.ref q),some (.ref pf),some (.ref ar),some (.ref pb),some (.int (0 + (g:Int))),some (.int (qs.getD g 0).num),some (.int ((qs.getD g 0).den:Int)),some (.bl (worstB row qs g o)),y9,y10])∧H'=H3)
     ⟨⟨_,_,by
      have e1:decide (V.int (row.getD g 0)=V.int 0)=worstB row qs g 0:=by unfold worstB; simp
      rw [e1]; rfl⟩,rfl⟩ ?_ ?_
    ·rintro o σ H4 ho ⟨⟨y9,y10,rfl⟩,rfl⟩
     have e0':(0 + (o:Int))=(o:Int):=by omega
     obtain ⟨ero,_,_⟩:=atI_ints (ns:=row) (r:=0 + (o:Int)) (by omega) (by omega)
     have ego:(0 + (o:Int)).toNat=o:=by omega
     rw [ego] at ero
     obtain ⟨ao,eao,hao⟩:=(hfr.stay s03).at (g:=o) (by omega)
     rw [← e0'] at eao
     have bo:=pr.rb o
     have m1:Bd 8000 (row.getD o 0 * (qs.getD g 0).num):=((bW7 o).mul bg.1).mono (by decide)
     have m2:Bd 8000 (row.getD g 0 * (qs.getD o 0).num):=((bW7 g).mul bo.1).mono (by decide)
     refine ⟨_,rfl,_,rfl,ar,_,_,_,rfl,rfl,SqT.of har3,ero,_,rfl,_,_,rfl,rfl,⟨bW o,bg.1.mono (by decide)⟩,_,rfl,_,rfl,q,_,_,_,rfl,rfl,SqT.of hq3,eao,ao,_,_,_,rfl,rfl,SqT.of hao,rfl,_,_,rfl,rfl,⟨m1,bo.2.mono (by decide)⟩,?_⟩
     refine ⟨_,rfl,_,rfl,ar,_,_,_,rfl,rfl,SqT.of har3,ero,_,_,rfl,rfl,_,rfl,?_⟩
     have ew:worstB row qs g (o + 1)=(worstB row qs g o || worse row qs g o):=by unfold worstB; rw [range_succ_any,Bool.or_assoc]
     by_cases hpos:row.getD o 0 > 0
     ·rw [decide_eq_true hpos]
      refine iteT ⟨_,rfl,_,rfl,ar,_,_,_,rfl,rfl,SqT.of har3,er,_,rfl,_,rfl,q,_,_,_,rfl,rfl,SqT.of hq3,eao,ao,_,_,_,rfl,rfl,SqT.of hao,rfl,_,_,rfl,rfl,⟨bW g,bo.1.mono (by decide)⟩,_,rfl,_,_,rfl,rfl,⟨m2,bg.2.mono (by decide)⟩,_,rfl,_,_,rfl,rfl,_,rfl,?_⟩
      have ewo:=worse_b (row:=row) (qs:=qs) (g:=g) (o:=o)
      rw [decide_eq_true (show 0 < row.getD o 0 from hpos),Ya] at ewo
      rw [← ewo]
      cases hc:worse row qs g o with
      | true =>
       refine iteT ⟨⟨_,_,by rw [ew,hc,Bool.or_true]; rfl⟩,rfl⟩
      | false =>
       refine iteF ⟨⟨_,_,by rw [ew,hc,Bool.or_false]; rfl⟩,rfl⟩
     ·rw [decide_eq_false hpos]
      have hc:worse row qs g o=false:=by rw [worse_b,decide_eq_false (show ¬ 0 < row.getD o 0 from hpos)]; rfl
      refine iteF (iteF ⟨⟨_,_,by rw [ew,hc,Bool.or_false]; rfl⟩,rfl⟩)
    ·rintro σ H4 ⟨⟨y9,y10,rfl⟩,rfl⟩
     have hbw:bestB row qs g=!worstB row qs g row.length:=best_worst
     generalize hwv:worstB row qs g row.length=wv at hbw ⊢
     cases wv with
     | false =>
      have hb:bestB row qs g=true:=hbw
      refine ⟨_,rfl,_,rfl,iteT ⟨_,rfl,.inl ⟨rfl,_,SqL.of eb3⟩,_,rfl,pb,_,_,rfl,rfl,eb3,?_,⟨_,_,_,_,_,_,rfl⟩,s3.acc hpb,?_⟩⟩
      ·unfold natsV; rw [Zb,sz]
       have:=List.length_filter_le (bestB row qs) (List.range g)
       simp at this; omega
      ·rw [natsV_snoc,hb,if_pos rfl,e0]; exact ja8
     | true =>
      have hb:bestB row qs g=false:=hbw
      refine ⟨_,rfl,_,rfl,iteF ⟨⟨_,_,_,_,_,_,rfl⟩,s3,?_⟩⟩
      rw [natsV_snoc,hb,if_neg (by decide),List.append_nil]; exact eb3
   ·rintro σ H3 ⟨⟨y5,y6,y7,y8,y9,y10,rfl⟩,s3,eb3⟩
    have hxs3:=s3 _ _ hxs
    refine ⟨_,rfl,.inl ⟨rfl,_,SqL.of hxs3⟩,_,rfl,pf,xs,.ref pb,rfl,rfl,hxs3,by rw [hxl,sz]; have:=(Ze.mp hx).1; omega,⟨_,_,_,_,_,_,_,_,rfl⟩,(s1.trans s3).acc hpf,xs ++ [.ref pb],ja8,by rw [Zj,hxl]; rfl,fun j y hy=>?_⟩
    rcases Nat.lt_or_ge j xs.length with z | z
    ·rw [Zr z] at hy
     obtain ⟨a,e,na,ha⟩:=hxp j y hy
     exact ⟨a,e,na,by rw [jc0 na]; exact s3 _ _ ha⟩
    ·have ej:j=xs.length:=by
      have:=(Ze.mp hy).1
      simp at this; omega
     subst ej
     simp at hy
     subst hy
     refine ⟨pb,rfl,npf.symm,?_⟩
     rw [jc0 npf.symm,eb3]
     have e1:(bestM (rowsOf wi) qs).getD xs.length []=(bestR row qs).map fun g:Nat=>(g:Int):=by
      unfold bestM
      rw [hxl]
      simp [List.getD,Zg,hrow]
     rw [e1]
     unfold bestR natsV
     rw [Zs]; rfl
  ·rintro σ H1 ⟨⟨y3,y4,y5,y6,y7,y8,y9,y10,rfl⟩,s1,xs,hxs,hxl,hxp⟩
   refine ⟨_,rfl,k pf xs H1 s1 hxs ⟨?_,fun j x hx=>?_⟩⟩
   ·rw [hxl,rw0.len]; unfold bestM; rw [Zb]
   ·obtain ⟨a,e,_,ha⟩:=hxp j x hx
    exact ⟨a,e,ha⟩
end
section
variable {P:Program} {w:World} {K:PySem.W.Frag} {mg:Str→Option Value} {base:Heap}
abbrev NBB:List Str:=["row","prices","rates","most"]
theorem scBB:FnScope NBB ["row","prices"] (ja3 (top 38)):=L2.fsc
theorem ok_bb {f fR fG:Addr} {fd dR dG:FuncData} (F:Fun K "best_by_wishes" "best_by_wishes" (top 38) f fd) (N:Nm mg) (R:Cal K mg P w base "rate" 4 ["wish","price"] spRate fR dR) (G:Cal K mg P w base "greatest" 2 ["parts"] spGre fG dG):FnOk P w K mg base CX0 5 f fd ["row","prices"] spBB:=by
 refine F.ok scBB (fun vs H Q E h=>?_) (fun cdv A' outer s H vs Q E hr h=>?_)
 ·obtain ⟨r,q,ns,ys,qs,rfl,_⟩:=h; rfl
 ·obtain ⟨r,q,ns,ys,qs,rfl,hrw,hq,hf,hlen,h6,hbn,hbq,hpos,k⟩:=h
  have hr2:Room 2 _:=hr.mono (by decide)
  have hu:=hr.units
  have hu1:=hu_of hr
  refine ⟨_,ja9 (jd7 (i:=2) scBB.nd rfl (Or.inr rfl) (pe_dcomp (own:=["good","wish"]) (cap:=["prices"]) (ix:=[1]) (BlkOk.of (ja3 (top 38)).names NBB) rfl (piEnum0 rfl N.enumerate jf7 (ja1 (pv 0) ja5))
    (fun C fp s H=>⟨pgTup0 (n:=2) rfl (jc5 (jb0 (i:=0) (show List.Nodup (["good","wish","prices"]:List Str) by decide +kernel) rfl (Or.inl rfl)) (jc5 (jb0 (i:=1) (show List.Nodup (["good","wish","prices"]:List Str) by decide +kernel) rfl (Or.inl rfl)) jg5)),
     pifs_one (jc4 op_gt (pv 1) ja6 (nomark _)),pv 0,jb5 R.ok hr rfl R.mg R.kp R.bd .nil pass0 (ja1 (pv 1) (ja1 (jb9 ixT0 (pv 2) (pv 0) (fun _ _=>rfl)) ja5))⟩)))
   (ja9 (jf6 (je8 (pt_truth (pv 2) (fun _=>rfl))) (ja7 (jb7 (pe_tup ja5))) jc6)
   (ja9 (jd7 (i:=3) scBB.nd rfl (Or.inr rfl) (jb5 G.ok hr2 rfl G.mg G.kp G.bd .nil pass0 (ja1 (jg9 (call_list_values rfl) (by rfl) N.list boot_list (ja1 (pe_bm0 PySem.F.plainAttrs_dict PySem.F.slot_dict_values PySem.F.type_dict_values mt_values (pv 2)) ja5)) ja5)))
   (ja7 (jb7 (jg9 cTup0 (by rfl) N.tuple jb8 (ja1 (je0 (own:=["good"]) (cap:=["most","rates"]) (ix:=[3,2]) (BlkOk.of (ja3 (top 38)).names NBB) rfl (pi_dict (pv 2))
    (fun C fp s H=>⟨jb0 (i:=0) (show List.Nodup (["good","most","rates"]:List Str) by decide +kernel) rfl (Or.inl rfl),pifs_one (jc4 (opEqD0 hu) (pe_dget hu1 (pv 2) (pv 0) (fun _ _=>rfl)) (pv 1) (nomark _)),pv 0⟩)) ja5)))))),?_⟩
  have hnn:∀ j,0 ≤ ns.getD j 0:=fun j=>by
   by_cases hj:j < ns.length
   ·have:ns.getD j 0 ∈ ns:=by simp [List.getD,Zc hj]
    exact (hbn _ this).1
   ·simp [List.getD,Yk (Nat.le_of_not_lt hj)]
  refine ⟨_,rfl,r,rfl,⟨_,SqT.of hrw⟩,fun acc hacc=>?_⟩
  refine dcomp_enum (xs:=ns.map V.int) (fun i kvs H'=>Stay H H'∧Rts ns qs i kvs H') ⟨(Stay.refl H).acc hacc,⟨rfl,⟨rfl,fun j y z=>by simp at z⟩⟩⟩ (fun i zs H' _ _ z=>SqT.of (z.1 _ _ hrw)) ?_ ?_
  ·rintro i x kvs H1 H2 hx hy ⟨s1,rt⟩ s2
   obtain ⟨n,hn,rfl⟩:∃ n:Int,ns[i]?=some n∧x=V.int n:=by
    rw [Zg] at hx
    cases e:ns[i]? with
    | none=>rw [e] at hx; cases hx
    | some n=>rw [e] at hx; exact ⟨n,rfl,by simpa using hx.symm⟩
   have hi:i < ns.length:=(Ze.mp hn).1
   have egd:ns.getD i 0=n:=by simp [List.getD,hn]
   have s12:=s1.trans s2
   refine ⟨_,rfl,_,_,rfl,rfl,_,rfl,?_⟩
   by_cases h0:0 < n
   ·rw [decide_eq_true h0]
    obtain ⟨aq,eq1,hq1⟩:=hf.at (g:=i) (by omega)
    have bn:=hbn n (Zi hn)
    have x0:=hpos i (by rw [egd]; exact h0)
    have bx:Rb 300 (qs.getD i 0):=by
     have:qs.getD i 0 ∈ qs:=by simp [List.getD,Zc (show i < qs.length by omega)]
     exact hbq _ this
    refine iteT ⟨_,rfl,_,rfl,_,rfl,_,rfl,q,_,_,_,rfl,rfl,SqT.of (s12 _ _ hq),eq1,n,aq,_,rfl,s12 _ _ hq1,bx,x0,bn.1,bn.2,fun t H3 s3 ht=>?_⟩
    have hy3:=s3 _ _ (s2 _ _ hy)
    have ki:(V.int (i:Int))=kV (keyN i):=rfl
    have rt3:=(rt.stay s2).stay s3
    have tm3:Tm H3 (upd H3 acc (.dK (putK kvs (keyN i) (.ref t)))):=fun a xs ha=>by rw [jc0 (ne_of ha hy3 (by intro z; cases z))]; exact ha
    refine ⟨kvs,keyN i,hy3,ki,?_,CnD.of ja8 ⟨(s12.trans s3).acc hacc,(rt3.put (by rw [egd]; exact h0) ?_).tm tm3⟩⟩
    ·have:=rt.len; have:=posL_len ns i; rw [sz]; omega
    ·unfold rateQ; rw [egd]; exact ht
   ·rw [decide_eq_false h0]
    refine iteF (CnD.of (s2 _ _ hy) ⟨s12,(rt.skip (by rw [egd]; exact h0)).stay s2⟩)
  ·rintro kvs H1 hy ⟨s1,rt⟩
   rw [Zb] at rt
   have hkl:=rt.len
   have hpl:=posL_len ns ns.length
   refine ⟨_,rfl,_,.inr (.inr ⟨kvs,hy,rfl⟩),?_⟩
   cases hem:kvs.isEmpty with
   | true =>
    have hnil:kvs=[]:=List.isEmpty_iff.mp hem
    subst hnil
    have hp0:posL ns ns.length=[]:=List.length_eq_zero_iff.mp hkl.symm
    refine iteT ⟨by show 0 ≤ sizeLine; decide,fun t ht=>k t _ (s1.new ht) ?_⟩
    rw [best_none hnn hp0]; exact ja8
   | false =>
   have hnil:kvs ≠ []:=fun z=>by rw [z] at hem; cases hem
   refine iteF ?_
   refine ⟨_,rfl,.inr (.inr (.inl ⟨rfl,.inl ⟨_,hy⟩⟩)),acc,kvs,rfl,rfl,hy,fun v hv=>?_⟩
   have s2:=(Stay.refl H1).new (o:=viewOf v acc) hv
   refine ⟨v,acc,kvs,rfl,ja8,.inl (s2 _ _ hy),fun l hl=>?_⟩
   have s3:=s2.new (o:=.lst (kvs.map (·.2))) hl
   have rt3:=rt.stay s3
   refine ⟨l,_,_,rfl,ja8,rt3.fr,?_,?_,fun a m ha hm hmax=>?_⟩
   ·intro z
    have:=congrArg List.length z
    rw [Zb,← hkl] at this
    exact hnil (List.length_eq_zero_iff.mp this)
   ·intro z hz
    obtain ⟨j,hj,rfl⟩:=Zk.mp hz
    obtain ⟨jl,jp⟩:=posL_lt hj
    unfold rateQ
    have bq:Rb 300 (qs.getD j 0):=by
     have:qs.getD j 0 ∈ qs:=by simp [List.getD,Zc (show j < qs.length by omega)]
     exact hbq _ this
    have bn:Bd 300 (ns.getD j 0):=by
     have:ns.getD j 0 ∈ ns:=by simp [List.getD,Zc jl]
     have:=hbn _ this
     exact Bd.mono (j:=7) (by unfold Bd; omega) (by decide)
    exact (rb_rate bn bq (hpos j jp)).mono (by decide)
   generalize upd (upd H1 v (viewOf v acc)) l (.lst (kvs.map (·.2)))=H3 at s3 rt3 ha ⊢
   have hy3:=s3 _ _ hy
   refine ⟨_,rfl,acc,kvs,rfl,hy3,fun o acc2 hacc2=>?_⟩
   have hHacc:H acc=none:=hacc
   have hne:acc2 ≠ acc:=fun z=>by rw [z,ja8] at hacc2; cases hacc2
   have h3n:H3 acc2=none:=by rw [jc0 hne] at hacc2; exact hacc2
   have s13:=s1.trans s3
   have tm4:Tm H3 (upd H3 acc (.frz o (.dK kvs))):=fun a xs ha=>by rw [jc0 (ne_of ha hy3 (by intro z; cases z))]; exact ha
   have s4:Stay H (upd H3 acc (.frz o (.dK kvs))):=s13.acc hacc
   have rt4:=rt3.tm tm4
   have ha4:=tm4 _ _ ha
   have hfz:(upd H3 acc (.frz o (.dK kvs))) acc=some (.frz o (.dK kvs)):=ja8
   generalize upd H3 acc (.frz o (.dK kvs))=H4 at s4 rt4 ha4 hfz hacc2 ⊢
   refine comp_dict (kvs:=kvs) (fun i zs H'=>Stay H4 H'∧zs=natsV (((posL ns ns.length).take i).filter fun j=>decide (rateQ ns qs j=m))) ⟨(Stay.refl H4).acc hacc2,rfl⟩ (fun i zs H' _ _ z=>z.1 _ _ hfz) ?_ ?_
   ·rintro i kk vv zs H5 hkv hz ⟨s5,rfl⟩
    obtain ⟨j,aj,hj,rfl,rfl,haj,hval⟩:=rt4.at hkv
    have hjm:=Zi hj
    refine ⟨_,rfl,_,rfl,acc,_,rfl,.inl ⟨kvs,keyN j,.inr ⟨o,s5 _ _ hfz⟩,rfl,hval.symm⟩,_,rfl,?_⟩
    refine ⟨qD (rateQ ns qs j),qD m,qO_dt (s5 _ _ haj),qO_dt (s5 _ _ ha4),Zl (Nat.min_le_left _ _) (Zl (dep_q _) (by decide)),_,rfl,?_⟩
    rw [eqv_qq]
    have hil:i < (posL ns ns.length).length:=(Ze.mp hj).1
    cases hd:decide (rateQ ns qs j=m) with
    | true =>
     refine iteT ⟨_,rfl,_,hz,?_,Cn.of ja8 ⟨s5.acc hacc2,?_⟩⟩
     ·unfold natsV
      have:=List.length_filter_le (fun j=>decide (rateQ ns qs j=m)) ((posL ns ns.length).take i)
      have h3:((posL ns ns.length).take i).length ≤ i:=List.length_take_le _ _
      rw [Zb,sz]; omega
     ·rw [je5 hj,List.filter_append]
      have e1:[j].filter (fun j=>decide (rateQ ns qs j=m))=[j]:=by simp only [List.filter,hd]
      rw [e1]; unfold natsV; rw [Zh]; rfl
    | false =>
     refine iteF (Cn.of hz ⟨s5,?_⟩)
     rw [je5 hj,List.filter_append]
     have e1:[j].filter (fun j=>decide (rateQ ns qs j=m))=[]:=by simp only [List.filter,hd]
     rw [e1,List.append_nil]
   ·rintro zs H5 hz ⟨s5,rfl⟩
    rw [hkl,Ye] at hz
    refine ⟨acc2,_,rfl,.inl ⟨SqL.of hz,fun t ht=>?_⟩⟩
    refine k t _ ((s4.trans s5).new ht) ?_
    rw [best_max hpos hnn hm hmax]; exact ja8
end
section
variable {P:Program} {w:World} {K:PySem.W.Frag} {mg:Str→Option Value} {base:Heap}
abbrev NAr:List Str:=["market","thing","goods"]
theorem scAre:FnScope NAr ["market","thing"] (ja3 (top 35)):=L2.fsc
theorem ok_are {f fI fW:Addr} {fd dI dW:FuncData} (F:Fun K "are_prices" "are_prices" (top 35) f fd) (N:Nm mg) (Z:IsK K) (I:Cal K mg P w base "is_fraction" 2 ["thing"] (spT isFrac) fI dI) (W:Cal K mg P w base "wished" 1 ["market"] spWis fW dW):FnOk P w K mg base CX0 3 f fd ["market","thing"] spAre:=by
 refine F.ok scAre (fun vs H Q E h=>?_) (fun cdv A' outer s H vs Q E hr h=>?_)
 ·obtain ⟨b,p,pa,pp,pw,xa,xp,xw,am,pu,wi,v,d,rfl,_⟩:=h; rfl
 ·obtain ⟨b,p,pa,pp,pw,xa,xp,xw,am,pu,wi,v,d,rfl,m,hT,k⟩:=h
  have hr1:Room 1 _:=hr.mono (by decide)
  have hu:=hr.units
  obtain ⟨rw0,rne,rlen,rbd,a1,a6,w1,w6,_⟩:=m.lw
  refine ⟨_,ja9 (jf6 (PW.pt (pw_or (je8 (je7 (pIsi K (pv 1) rfl N.isinstance rfl N.tuple jb8 jb4))) (jg7 (jc4 op_ne (jb3 cLen0 (by rfl) N.len PySem.boot_len (ja1 (pv 1) ja5)) (jb3 cLen0 (by rfl) N.len PySem.boot_len (ja1 (jb9 ixT0 (pv 0) ja6 (fun _ _=>rfl)) ja5)) (nomark _))))) (ja7 (jb7 jh0)) jc6)
   (ja9 (jf6 (je8 (je7 (jb3 (cAll0 rfl) (by rfl) N.all jg1 (ja1 (je0 (own:=["part"]) (cap:=[]) (ix:=[]) (BlkOk.of (ja3 (top 35)).names NAr) rfl (piT0 (pv 1))
     (fun C fp s H=>⟨jb0 (i:=0) (show List.Nodup (["part"]:List Str) by decide +kernel) rfl (Or.inl rfl),jd6,jb5 I.ok hr rfl I.mg I.kp I.bd .nil pass0 (ja1 (pv 0) ja5)⟩)) ja5)))) (ja7 (jb7 jh0)) jc6)
   (ja9 (jd7 (i:=2) scAre.nd rfl (Or.inr rfl) (jb5 W.ok hr1 rfl W.mg W.kp W.bd .nil pass0 (ja1 (pv 0) ja5)))
   (ja7 (jb7 (jb3 (cAll0 rfl) (by rfl) N.all jg1 (ja1 (je0 (own:=["good","price"]) (cap:=["goods"]) (ix:=[2]) (BlkOk.of (ja3 (top 35)).names NAr) rfl (piEnum0 rfl N.enumerate jf7 (ja1 (pv 1) ja5))
     (fun C fp s H=>⟨pgTup0 (n:=2) rfl (jc5 (jb0 (i:=0) (show List.Nodup (["good","price","goods"]:List Str) by decide +kernel) rfl (Or.inl rfl)) (jc5 (jb0 (i:=1) (show List.Nodup (["good","price","goods"]:List Str) by decide +kernel) rfl (Or.inl rfl)) jg5)),
      jd6,pe_ifExp (jc4 opIn0 (pv 0) (pv 2) (by with_unfolding_all rfl)) (je2 op_gt (jb9 ixT0 (pv 1) ja6 (fun _ _=>rfl)) ja6 (nomark _)) (je2 op_eq (jb9 ixT0 (pv 1) ja6 (fun _ _=>rfl)) ja6 (nomark _))⟩)) ja5)))))),?_⟩
  obtain ⟨t1,ty1,e1⟩:=ist Z hT
  refine ⟨_,rfl,t1,_,ty1,e1,_,rfl,?_⟩
  have hk:=k H (Stay.refl H)
  rcases jh1 hT with hn | ⟨a,xs,ds,rfl,rfl,ha,hs⟩
  ·rw [hn]; rw [isPrs_no hn] at hk
   exact iteT (iteT hk)
  refine iteF ?_
  have hlen:=hs.len
  refine ⟨_,rfl,a,xs,rfl,.inr (SqT.of ha),_,rfl,p,_,_,_,rfl,rfl,SqT.of m.hp,rfl,pa,xa,rfl,.inr (SqT.of m.ha),rfl,_,rfl,?_⟩
  by_cases hl:xs.length=xa.length
  case neg =>
   rw [jj0 hl]
   have e3:isPrs xa.length (rowsOf wi) (.tuple ds)=false:=by
    cases e:isPrs xa.length (rowsOf wi) (.tuple ds) with
    | false=>rfl
    | true=>exact absurd (hlen.trans (prs_iff.mp e).1) hl
   rw [e3] at hk
   exact iteT hk
  rw [hl,vint_eq]
  refine iteF ?_
  refine ⟨_,rfl,a,rfl,⟨_,SqT.of ha⟩,fun acc hacc=>?_⟩
  refine jh5 (xs:=xs) (fun j zs H2=>Stay H H2∧zs=(ds.take j).map fun d=>V.bl (isFrac d)) ⟨(Stay.refl H).acc hacc,rfl⟩ (fun j zs H2 _ _ z=>SqT.of (z.1 _ _ ha)) ?_ ?_
  ·rintro j x zs H2 hx hz ⟨s2,rfl⟩
   obtain ⟨dx,hdx,tx⟩:=hs.at hx
   refine yes_i ⟨_,rfl,b,x,dx,rfl,tx.stay s2,fun H3 s3=>?_⟩
   have hj:j < ds.length:=(Ze.mp hdx).1
   refine ⟨_,s3 _ _ hz,?_,Cn.of ja8 ⟨(s2.trans s3).acc hacc,?_⟩⟩
   ·rw [Zb,Zz,sz]; omega
   ·rw [je5 hdx,Zh]; rfl
  rintro zs H2 hz ⟨s2,rfl⟩
  rw [hlen,Ye] at hz
  refine ⟨acc,_,rfl,.inl (SqL.of hz),?_,_,rfl,?_⟩
  ·rw [Zy]; simp [Function.comp_def,plainB]
  have e:(ds.map fun d=>V.bl (isFrac d)).all tv=ds.all isFrac:=by rw [Zy]; rfl
  rw [e]
  have hk2:=k H2 s2
  cases hfr:ds.all isFrac with
  | false =>
   refine iteT ?_
   have e3:isPrs xa.length (rowsOf wi) (.tuple ds)=false:=by
    cases e:isPrs xa.length (rowsOf wi) (.tuple ds) with
    | false=>rfl
    | true =>
     obtain ⟨h1,h2⟩:=prs_iff.mp e
     have:ds.all isFrac=true:=Zt.mpr fun d hd=>by
      obtain ⟨j,hj,ej⟩:=List.getElem_of_mem hd
      have h3:=h2 j (by omega)
      have e2:ds.getD j .none=d:=by simp [List.getD,Zc hj,ej]
      rw [e2] at h3
      cases hf:isFrac d with
      | true=>rfl
      | false=>rw [isPrice_no hf] at h3; cases h3
     rw [this] at hfr; cases hfr
   rw [e3] at hk2
   exact hk2
  | true =>
  refine iteF ?_
  have m2:=m.stay s2
  refine ⟨_,rfl,b,p,pa,pp,pw,xa,xp,xw,am,pu,wi,rfl,m2,fun qg H3 s3 hqg=>?_⟩
  have s23:=s2.trans s3
  refine ⟨_,rfl,a,rfl,⟨_,SqT.of (s23 _ _ ha)⟩,fun acc3 hacc3=>?_⟩
  have price:∀ (i:Nat) (dx:PyData),ds[i]?=some dx→∃ t u:Int,dx=.tuple [.int t,.int u]∧∀ wd,jh2 wd dx=(if wd=true then decide (0 < t) else decide (t=0)):=fun i dx hdx=>by
   have hf:isFrac dx=true:=Zt.mp hfr dx (Zi hdx)
   obtain ⟨t,u,rfl,hu1,hg1⟩:=fracShape hf
   refine ⟨t,u,rfl,fun wd=>?_⟩
   show (isFrac (.tuple [.int t,.int u]) && (if wd then decide (0 < t) else decide (t=0) && decide (u=1)))=_
   rw [hf,Ya]
   cases wd with
   | true=>rfl
   | false =>
    show (decide (t=0) && decide (u=1))=decide (t=0)
    by_cases h0:t=0
    ·have:u=1:=by
      subst h0
      simp at hg1
      omega
     rw [decide_eq_true h0,decide_eq_true this]; rfl
    ·rw [decide_eq_false h0]; rfl
  refine comp_enum (xs:=xs) (fun i ys H'=>Stay H3 H'∧ys=(List.range i).map fun j=>V.bl (jh2 (has (rowsOf wi) j) (ds.getD j .none))) ⟨(Stay.refl H3).acc hacc3,rfl⟩ (fun i ys H' _ _ z=>SqT.of (z.1 _ _ (s23 _ _ ha))) ?_ ?_
  ·rintro i x ys H4 H5 hx hy ⟨s4,rfl⟩ s5
   obtain ⟨dx,hdx,tx⟩:=hs.at hx
   obtain ⟨t,u,rfl,hpr⟩:=price i dx hdx
   have hi:i < xa.length:=by have:=(Ze.mp hx).1; omega
   have s45:=s4.trans s5
   have egd:ds.getD i .none=.tuple [.int t,.int u]:=by simp [List.getD,hdx]
   have tx5:=(tx.stay s23).stay s45
   cases tx5 with
   | @tup ax xs2 _ hax hsx2 =>
   match xs2,hsx2 with
   | _,.cons (.int _) (.cons (.int _) .nil) =>
   refine yes_i ⟨_,rfl,_,rfl,qg,_,rfl,.inr (SqT.of (s45 _ _ hqg)),rfl,flat_wished _ _,_,rfl,?_⟩
   have ein:(if false=true then !inV (V.int (i:Int)) (jf1 xa.length (rowsOf wi)) else inV (V.int (i:Int)) (jf1 xa.length (rowsOf wi)))=has (rowsOf wi) i:=by
    rw [if_neg (by decide)]
    have:=in_wished (M:=rowsOf wi) hi
    rw [show (0 + (i:Int))=(i:Int) by omega] at this
    exact this
   rw [ein]
   have hy5:=s5 _ _ hy
   have fin:∀ c:Bool,c=jh2 (has (rowsOf wi) i) (.tuple [.int t,.int u])→∃ zs,H5 acc3=some (.lst zs)∧zs.length < sizeLine∧Cn2 (blkσ 2 [2] [some (.ref p),some (.ref a),some (.ref qg)]) acc3 (fun ys H'=>Stay H3 H'∧ys=(List.range (i + 1)).map fun j=>V.bl (jh2 (has (rowsOf wi) j) (ds.getD j .none)))
     (((blkσ 2 [2] [some (.ref p),some (.ref a),some (.ref qg)]).set 0 (some (.int i))).set 1 (some (.ref ax))) (upd H5 acc3 (.lst (zs ++ [.bl c]))):=fun c hc=>by
    refine ⟨_,hy5,?_,Cn2.of ja8 ⟨s45.acc hacc3,?_⟩⟩
    ·rw [Zb,List.length_range,sz]; omega
    ·rw [Yf,Zh,hc]
     simp only [List.map_cons,List.map_nil]
     rw [egd]
   cases hh:has (rowsOf wi) i with
   | true =>
    refine iteT ⟨_,rfl,ax,_,_,_,rfl,rfl,SqT.of hax,rfl,_,_,rfl,rfl,?_⟩
    exact fin _ (by rw [hpr,hh]; rfl)
   | false =>
    refine iteF ⟨_,rfl,ax,_,_,_,rfl,rfl,SqT.of hax,rfl,rfl,?_⟩
    refine fin _ ?_
    rw [hpr,hh]
    by_cases h0:t=0
    ·subst h0; rfl
    ·rw [if_neg (by decide),decide_eq_false h0]; simp [h0]
  ·rintro ys H4 hy ⟨s4,rfl⟩
   refine ⟨acc3,_,rfl,.inl (SqL.of hy),?_,?_⟩
   ·rw [Zy]; simp [Function.comp_def,plainB]
   have e4:((List.range xs.length).map fun j=>V.bl (jh2 (has (rowsOf wi) j) (ds.getD j .none))).all tv=isPrs xa.length (rowsOf wi) (.tuple ds):=by
    rw [Zy]
    show _=(decide (ds.length=xa.length) && (List.range xa.length).all fun j=>jh2 (has (rowsOf wi) j) (ds.getD j .none))
    rw [decide_eq_true (by omega),Ya,hl]; rfl
   rw [e4]
   exact k H4 (s23.trans s4)
end
section
variable {P:Program} {w:World} {K:PySem.W.Frag} {mg:Str→Option Value} {base:Heap}
theorem scNeed:FnScope ["market","thing"] ["market","thing"] (ja3 (top 36)):=L2.fsc
theorem ok_need {f fA Pr:Addr} {fd dA:FuncData} (F:Fun K "need_prices" "need_prices" (top 36) f fd) (mgP:mg "NoPrices"=some (.ref Pr)) (exP:PySem.W.excIn K Pr [.type "ValueError",.type "Exception",.type "BaseException",.type "object"] "ValueError.__new__"=true)
  (A:Cal K mg P w base "are_prices" 3 ["market","thing"] spAre fA dA):FnOk P w K mg base (CXF P w) 4 f fd ["market","thing"] (spNeed Pr):=by
 refine F.okX scNeed (fun vs H Q E h=>?_) (fun cdv A' outer s H vs Q E hr h=>?_)
 ·obtain ⟨b,p,pa,pp,pw,xa,xp,xw,am,pu,wi,v,d,rfl,_⟩:=h; rfl
 ·obtain ⟨b,p,pa,pp,pw,xa,xp,xw,am,pu,wi,v,d,rfl,m,hT,k0,k1⟩:=h
  refine ⟨_,ja7 (jf6 (je8 (je7 (jb5 A.ok hr rfl A.mg A.kp A.bd .nil pass0 (ja1 (pv 0) (ja1 (pv 1) ja5))))) (ja7 (ps_raise PySem.F.excBase_ValueError rfl mgP exP (ja1 pe_str ja5))) jc6),?_⟩
  refine ⟨_,rfl,_,rfl,b,p,pa,pp,pw,xa,xp,xw,am,pu,wi,v,d,rfl,m,hT,fun H1 s1=>⟨_,rfl,?_⟩⟩
  cases hp:isPrs xa.length (rowsOf wi) d with
  | false=>exact iteT ⟨by show 1 ≤ sizeLine; decide,k0 hp H1 s1⟩
  | true=>exact iteF (k1 hp H1 s1)
theorem scBG:FnScope ["market","prices"] ["market","prices"] (ja3 (top 37)):=L2.fsc
theorem ok_bg {f fN fB Pr:Addr} {fd dN dB:FuncData} (F:Fun K "best_goods" "best_goods" (top 37) f fd) (N:Nm mg) (Ne:CalX K mg P w base "need_prices" 4 ["market","thing"] (spNeed Pr) fN dN) (B:Cal K mg P w base "best_by_wishes" 5 ["row","prices"] spBB fB dB) :
  FnOk P w K mg base (CXF P w) 6 f fd ["market","prices"] (spBest Pr):=by
 refine F.okX scBG (fun vs H Q E h=>?_) (fun cdv A' outer s H vs Q E hr h=>?_)
 ·obtain ⟨b,p,pa,pp,pw,xa,xp,xw,am,pu,wi,v,d,rfl,_⟩:=h; rfl
 ·obtain ⟨b,p,pa,pp,pw,xa,xp,xw,am,pu,wi,v,d,rfl,ag,k0,k1⟩:=h
  have hr4:Room 4 _:=hr.mono (by decide)
  refine ⟨_,ja9 (ps_expr (jb5 Ne.ok hr4 rfl Ne.mg Ne.kp Ne.bd .nil passF (ja1 (pv 0) (ja1 (pv 1) ja5))))
   (ja7 (jb7 (jg9 cTup0 (by rfl) N.tuple jb8 (ja1 (je0 (own:=["row"]) (cap:=["prices"]) (ix:=[1]) (BlkOk.of (ja3 (top 37)).names ["market","prices"]) rfl (piT0 (jb9 ixT0 (pv 0) ja6 (fun _ _=>rfl)))
    (fun C fp s H=>⟨jb0 (i:=0) (show List.Nodup (["row","prices"]:List Str) by decide +kernel) rfl (Or.inl rfl),jd6,jb5 B.ok hr rfl B.mg B.kp B.bd .nil pass0 (ja1 (pv 0) (ja1 (pv 1) ja5))⟩)) ja5)))),?_⟩
  refine ⟨_,rfl,_,rfl,b,p,pa,pp,pw,xa,xp,xw,am,pu,wi,v,d,rfl,ag.m,ag.tr,k0,fun hp H1 s1=>?_⟩
  obtain ⟨qs,rfl,hql,hpq⟩:=prs_some hp
  have ag1:=ag.stay s1
  have hbq:=ag.wd qs rfl
  have htr:=ag1.tr
  obtain ⟨rw0,rne,rlen,rbd,a1,a6,w1,w6,_⟩:=ag1.m.lw
  cases htr with
  | @tup a ys _ ha hys =>
  have fr:=Frs.of hys
  refine ⟨_,rfl,p,_,_,_,rfl,rfl,SqT.of ag1.m.hp,rfl,pw,rfl,⟨_,SqT.of ag1.m.hw⟩,fun acc hacc=>?_⟩
  refine jh5 (xs:=xw) (fun i ws H'=>Stay H1 H'∧Rws H' ws ((bestM (rowsOf wi) qs).take i)) ⟨(Stay.refl H1).acc hacc,.nil⟩ (fun i ws H' _ _ z=>SqT.of (z.1 _ _ ag1.m.hw)) ?_ ?_
  ·rintro i x ws H2 hx hz ⟨s2,rs⟩
   obtain ⟨ns,c,hMi,rfl,hc⟩:=rw0.at hx
   have hnm:=Zi hMi
   have hnl:=rlen ns hnm
   have hpos:∀ j,0 < ns.getD j 0→0 < qs.getD j 0:=fun j hj=>by
    have hjl:j < ns.length:=by
     rcases Nat.lt_or_ge j ns.length with z | z
     ·exact z
     ·simp [List.getD,Yk z] at hj
    refine hpq.pos j (by omega) ?_
    unfold has
    exact List.any_eq_true.mpr ⟨ns,hnm,by simpa using hj⟩
   refine yes_i ⟨_,rfl,_,rfl,c,a,ns,ys,qs,rfl,s2 _ _ hc,s2 _ _ ha,fr.stay s2,by omega,by omega,rbd ns hnm,hbq,hpos,fun t H3 s3 ht=>?_⟩
   have hz3:=s3 _ _ hz
   have hi:i < (rowsOf wi).length:=(Ze.mp hMi).1
   have eB:(bestM (rowsOf wi) qs)[i]?=some ((bestR ns qs).map fun g:Nat=>(g:Int)):=by
    unfold bestM; rw [Zg,hMi]; rfl
   have tl:Tm H3 (upd H3 acc (.lst (ws ++ [.ref t]))):=Tm.lst hz3
   refine ⟨ws,hz3,?_,Cn.of ja8 ⟨(s2.trans s3).acc hacc,?_⟩⟩
   ·rw [rs.len,Zz,sz]
    have:(rowsOf wi).length=xw.length:=rw0.len.symm
    omega
   ·rw [je5 eB]
    exact rws_app ((rs.keep s3.tm).keep tl) (tl _ _ (by rw [ht,natsV_ints]))
  ·rintro ws H2 hz ⟨s2,rs⟩
   have e:xw.length=(bestM (rowsOf wi) qs).length:=by unfold bestM; rw [Zb,rw0.len]
   rw [e,Ye] at rs
   refine ⟨acc,ws,rfl,.inl ⟨SqL.of hz,fun l hl=>?_⟩⟩
   have s3:=(Stay.refl H2).new (o:=.tup ws) hl
   exact k1 qs rfl hql hpq l ws _ (s1.trans (s2.trans s3)) ja8 (rs.keep s3.tm)
end
section
variable {P:Program} {w:World} {K:PySem.W.Frag} {mg:Str→Option Value} {base:Heap}
theorem scDR:FnScope ["thing","goods"] ["thing","goods"] (ja3 (top 17)):=L2.fsc
theorem ok_dr {f fI:Addr} {fd dI:FuncData} (F:Fun K "is_dealt_row" "is_dealt_row" (top 17) f fd) (N:Nm mg) (Z:IsK K) (I:Cal K mg P w base "is_fraction" 2 ["thing"] (spT isFrac) fI dI):FnOk P w K mg base CX0 3 f fd ["thing","goods"] spDRow:=by
 refine F.ok scDR (fun vs H Q E h=>?_) (fun cdv A' outer s H vs Q E hr h=>?_)
 ·obtain ⟨b,v,d,g,rfl,_⟩:=h; rfl
 ·obtain ⟨b,v,d,g,rfl,hg6,hT,k⟩:=h
  refine ⟨_,ja9 (jf6 (PW.pt (pw_or (je8 (je7 (pIsi K (pv 0) rfl N.isinstance rfl N.tuple jb8 jb4))) (jg7 (jc4 op_ne (jb3 cLen0 (by rfl) N.len PySem.boot_len (ja1 (pv 0) ja5)) (pv 1) (nomark _))))) (ja7 (jb7 jh0)) jc6)
   (ja7 (jb7 (jb3 (cAll0 rfl) (by rfl) N.all jg1 (ja1 (je0 (own:=["part"]) (cap:=[]) (ix:=[]) (BlkOk.of (ja3 (top 17)).names ["thing","goods"]) rfl (piT0 (pv 0))
    (fun C fp s H=>⟨jb0 (i:=0) (show List.Nodup (["part"]:List Str) by decide +kernel) rfl (Or.inl rfl),jd6,pe_and (jb5 I.ok hr rfl I.mg I.kp I.bd .nil pass0 (ja1 (pv 0) ja5)) (pe_one (je2 op_ge (jb9 ixT0 (pv 0) ja6 (fun _ _=>rfl)) ja6 (nomark _)))⟩)) ja5)))),?_⟩
  obtain ⟨t1,ty1,e1⟩:=ist Z hT
  refine ⟨_,rfl,t1,_,ty1,e1,_,rfl,?_⟩
  have hk:=k H (Stay.refl H)
  rcases jh1 hT with hn | ⟨a,xs,ds,rfl,rfl,ha,hs⟩
  ·rw [hn]; rw [isDRow_no hn] at hk
   exact iteT (iteT hk)
  refine iteF ?_
  have hlen:=hs.len
  refine ⟨_,rfl,a,xs,rfl,.inr (SqT.of ha),_,rfl,rfl,_,rfl,?_⟩
  by_cases hl:xs.length=g
  case neg =>
   rw [jj0 hl]
   have e3:isDRow g (.tuple ds)=false:=by
    show (decide (ds.length=g) && _)=false
    rw [decide_eq_false (by rw [← hlen]; exact hl)]; rfl
   rw [e3] at hk
   exact iteT hk
  rw [hl,vint_eq]
  refine iteF ?_
  refine ⟨_,rfl,a,rfl,⟨_,SqT.of ha⟩,fun acc hacc=>?_⟩
  refine jh6 (K:=K0) isPart hs ha hacc (by omega) ?_ ?_
  ·intro x d H1 s1 hx _ Z hZ
   refine ⟨_,rfl,b,x,d,rfl,hx,fun H2 s2=>⟨_,rfl,?_⟩⟩
   have hZ2:=hZ H2 s2
   cases hf:isFrac d with
   | false =>
    rw [part_frac hf] at hZ2
    exact iteF hZ2
   | true =>
    obtain ⟨t,u,rfl,ep⟩:=frac_shape hf
    rw [ep] at hZ2
    have hx2:=hx.stay s2
    cases hx2 with
    | @tup a2 ys _ ha2 hys =>
    match ys,hys with
    | [_,_],.cons (.int _) (.cons (.int _) .nil) =>
    exact iteT ⟨_,rfl,a2,_,_,_,rfl,rfl,SqT.of ha2,rfl,_,_,rfl,rfl,hZ2⟩
  ·intro H1 s1 hz
   refine ⟨acc,_,rfl,.inl (SqL.of hz),?_,?_⟩
   ·rw [Zy]; simp [Function.comp_def,plainB]
   have e:(ds.map fun d=>V.bl (isPart d)).all tv=ds.all isPart:=by rw [Zy]; rfl
   rw [e]
   have e3:isDRow g (.tuple ds)=ds.all isPart:=by
    show (decide (ds.length=g) && _)=_
    rw [decide_eq_true (by rw [← hlen]; exact hl),Ya]
   have:=k H1 s1
   rw [e3] at this
   exact this
theorem scIDl:FnScope ["market","thing"] ["market","thing"] (ja3 (top 16)):=L2.fsc
theorem ok_idl {f fI:Addr} {fd dI:FuncData} (F:Fun K "is_dealing" "is_dealing" (top 16) f fd) (N:Nm mg) (Z:IsK K) (I:Cal K mg P w base "is_dealt_row" 3 ["thing","goods"] spDRow fI dI):FnOk P w K mg base CX0 4 f fd ["market","thing"] spIsDl:=by
 refine F.ok scIDl (fun vs H Q E h=>?_) (fun cdv A' outer s H vs Q E hr h=>?_)
 ·obtain ⟨b,p,pa,pp,pw,xa,xp,xw,am,pu,wi,v,d,rfl,_⟩:=h; rfl
 ·obtain ⟨b,p,pa,pp,pw,xa,xp,xw,am,pu,wi,v,d,rfl,m,hT,k⟩:=h
  obtain ⟨_,_,_,_,a1,a6,w1,w6,wp⟩:=m.lw
  refine ⟨_,ja9 (jf6 (PW.pt (pw_or (je8 (je7 (pIsi K (pv 1) rfl N.isinstance rfl N.tuple jb8 jb4))) (jg7 (jc4 op_ne (jb3 cLen0 (by rfl) N.len PySem.boot_len (ja1 (pv 1) ja5)) (jb3 cLen0 (by rfl) N.len PySem.boot_len (ja1 (jb9 ixT0 (pv 0) ja6 (fun _ _=>rfl)) ja5)) (nomark _))))) (ja7 (jb7 jh0)) jc6)
   (ja7 (jb7 (jb3 (cAll0 rfl) (by rfl) N.all jg1 (ja1 (je0 (own:=["row"]) (cap:=["market"]) (ix:=[0]) (BlkOk.of (ja3 (top 16)).names ["market","thing"]) rfl (piT0 (pv 1))
    (fun C fp s H=>⟨jb0 (i:=0) (show List.Nodup (["row","market"]:List Str) by decide +kernel) rfl (Or.inl rfl),jd6,jb5 I.ok hr rfl I.mg I.kp I.bd .nil pass0 (ja1 (pv 0) (ja1 (jb3 cLen0 (by rfl) N.len PySem.boot_len (ja1 (jb9 ixT0 (pv 1) ja6 (fun _ _=>rfl)) ja5)) ja5))⟩)) ja5)))),?_⟩
  obtain ⟨t1,ty1,e1⟩:=ist Z hT
  refine ⟨_,rfl,t1,_,ty1,e1,_,rfl,?_⟩
  have hk:=k H (Stay.refl H)
  rcases jh1 hT with hn | ⟨a,xs,ds,rfl,rfl,ha,hs⟩
  ·rw [hn]; rw [isDl_no hn] at hk
   exact iteT (iteT hk)
  refine iteF ?_
  have hlen:=hs.len
  refine ⟨_,rfl,a,xs,rfl,.inr (SqT.of ha),_,rfl,p,_,_,_,rfl,rfl,SqT.of m.hp,rfl,pp,xp,rfl,.inr (SqT.of m.hpp),rfl,_,rfl,?_⟩
  by_cases hl:xs.length=xp.length
  case neg =>
   rw [jj0 hl]
   have e3:isDl xp.length xa.length (.tuple ds)=false:=by
    show (decide (ds.length=xp.length) && _)=false
    rw [decide_eq_false (by rw [← hlen]; exact hl)]; rfl
   rw [e3] at hk
   exact iteT hk
  rw [hl,vint_eq]
  refine iteF ?_
  refine ⟨_,rfl,a,rfl,⟨_,SqT.of ha⟩,fun acc hacc=>?_⟩
  refine jh6 (K:=K0) (isDRow xa.length) hs ha hacc (by omega) ?_ ?_
  ·intro x d H1 s1 hx _ Z hZ
   have m1:=m.stay s1
   exact ⟨_,rfl,_,rfl,p,_,_,_,rfl,rfl,SqT.of m1.hp,rfl,pa,xa,rfl,.inr (SqT.of m1.ha),b,x,d,xa.length,rfl,a6,hx,hZ⟩
  ·intro H1 s1 hz
   refine ⟨acc,_,rfl,.inl (SqL.of hz),?_,?_⟩
   ·rw [Zy]; simp [Function.comp_def,plainB]
   have e:(ds.map fun d=>V.bl (isDRow xa.length d)).all tv=ds.all (isDRow xa.length):=by rw [Zy]; rfl
   rw [e]
   have e3:isDl xp.length xa.length (.tuple ds)=ds.all (isDRow xa.length):=by
    show (decide (ds.length=xp.length) && _)=_
    rw [decide_eq_true (by rw [← hlen]; exact hl),Ya]
   have:=k H1 s1
   rw [e3] at this
   exact this
theorem scGot:FnScope ["dealing","good"] ["dealing","good"] (ja3 (top 18)):=L2.fsc
theorem ok_got {f fT:Addr} {fd dT:FuncData} (F:Fun K "got_in_all" "got_in_all" (top 18) f fd) (T:Cal K mg P w base "total" 4 ["parts"] spTot fT dT):FnOk P w K mg base CX0 5 f fd ["dealing","good"] spGot:=by
 refine F.ok scGot (fun vs H Q E h=>?_) (fun cdv A' outer s H vs Q E hr h=>?_)
 ·obtain ⟨q,zs,D,g,n,rfl,_⟩:=h; rfl
 ·obtain ⟨q,zs,D,g,n,rfl,dl,hg,k⟩:=h
  refine ⟨_,ja7 (jb7 (jb5 T.ok hr rfl T.mg T.kp T.bd .nil pass0 (ja1 (je0 (own:=["row"]) (cap:=["good"]) (ix:=[1]) (BlkOk.of (ja3 (top 18)).names ["dealing","good"]) rfl (piT0 (pv 0))
   (fun C fp s H=>⟨jb0 (i:=0) (show List.Nodup (["row","good"]:List Str) by decide +kernel) rfl (Or.inl rfl),jd6,jb9 ixT0 (pv 0) (pv 1) (fun _ _=>rfl)⟩)) ja5))),?_⟩
  refine ⟨_,rfl,q,rfl,⟨_,SqT.of dl.hq⟩,fun acc hacc=>?_⟩
  refine jh5 (xs:=zs) (fun i ws H'=>Stay H H'∧Frs H' ws ((D.take i).map fun qs=>qs.getD g 0)) ⟨(Stay.refl H).acc hacc,rfl,fun j y hy=>by simp at hy⟩ (fun i ws H' _ _ z=>SqT.of (z.1 _ _ dl.hq)) ?_ ?_
  ·rintro i x ws H1 hx hz ⟨s1,fr1⟩
   obtain ⟨a,ys,qs,hD,rfl,ha,fq⟩:=(dl.fr.stay s1).2 i x hx
   have hqn:=dl.len qs (Zi hD)
   obtain ⟨c,ec,hcq⟩:=fq.at (g:=g) (by omega)
   have hi:i < D.length:=(Ze.mp hD).1
   have hfew:=dl.few
   refine yes_i ⟨_,rfl,_,rfl,a,_,_,_,rfl,rfl,SqT.of ha,ec,ws,hz,by rw [fr1.1,Zb,Zz,sz]; omega,Cn.of ja8 ⟨s1.acc hacc,?_⟩⟩
   rw [je5 hD,Zh]
   exact (fr1.app (a:=c) hcq).tm (Tm.lst hz)
  ·rintro ws H1 hz ⟨s1,fr1⟩
   rw [dl.fr.1,Ye] at fr1
   have hfew:=dl.few
   refine ⟨acc,ws,_,rfl,hz,fr1,fun z hz'=>?_,by rw [Zb]; omega,fun r H2 s2 e2=>k r H2 (s1.trans s2) e2⟩
   obtain ⟨qs,hqs,rfl⟩:=Zk.mp hz'
   exact (jh8 (by decide) (dl.bd qs hqs) g).mono (by decide)
abbrev NSA:List Str:=["market","dealing","goods"]
theorem scSA:FnScope NSA ["market","dealing"] (ja3 (top 42)):=L2.fsc
theorem ok_sells {f fW fG:Addr} {fd dW dG:FuncData} (F:Fun K "sells_all" "sells_all" (top 42) f fd) (N:Nm mg) (W:Cal K mg P w base "wished" 1 ["market"] spWis fW dW) (G:Cal K mg P w base "got_in_all" 5 ["dealing","good"] spGot fG dG):FnOk P w K mg base CX0 6 f fd ["market","dealing"] spSells:=by
 refine F.ok scSA (fun vs H Q E h=>?_) (fun cdv A' outer s H vs Q E hr h=>?_)
 ·obtain ⟨b,p,pa,pp,pw,q,xa,xp,xw,zs,am,pu,wi,D,rfl,_⟩:=h; rfl
 ·obtain ⟨b,p,pa,pp,pw,q,xa,xp,xw,zs,am,pu,wi,D,rfl,m,dl,k⟩:=h
  have hr1:Room 1 _:=hr.mono (by decide)
  have hu:=hr.units
  obtain ⟨rw0,rne,rlen,rbd,a1,a6,w1,w6,wp⟩:=m.lw
  obtain ⟨exa,amb⟩:=m.am
  refine ⟨_,ja9 (jd7 (i:=2) scSA.nd rfl (Or.inr rfl) (jb5 W.ok hr1 rfl W.mg W.kp W.bd .nil pass0 (ja1 (pv 0) ja5)))
   (ja7 (jb7 (jb3 (cAll0 rfl) (by rfl) N.all jg1 (ja1 (je0 (own:=["good","amount"]) (cap:=["dealing","goods"]) (ix:=[1,2]) (BlkOk.of (ja3 (top 42)).names NSA) rfl (piEnum0 rfl N.enumerate jf7 (ja1 (jb9 ixT0 (pv 0) ja6 (fun _ _=>rfl)) ja5))
    (fun C fp s H=>⟨pgTup0 (n:=2) rfl (jc5 (jb0 (i:=0) (show List.Nodup (["good","amount","dealing","goods"]:List Str) by decide +kernel) rfl (Or.inl rfl)) (jc5 (jb0 (i:=1) (show List.Nodup (["good","amount","dealing","goods"]:List Str) by decide +kernel) rfl (Or.inl rfl)) jg5)),jd6,
     je2 (opEqD0 hu) (jb5 G.ok hr rfl G.mg G.kp G.bd .nil pass0 (ja1 (pv 2) (ja1 (pv 0) ja5))) (pe_ifExp (jc4 opIn0 (pv 0) (pv 3) (by with_unfolding_all rfl)) (pe_tup (ja1 (pv 1) (ja1 ja6 ja5))) (pe_tup (ja1 ja6 (ja1 ja6 ja5)))) (nomark _)⟩)) ja5)))),?_⟩
  refine ⟨_,rfl,b,p,pa,pp,pw,xa,xp,xw,am,pu,wi,rfl,m,fun qw H1 s1 hw1=>?_⟩
  have m1:=m.stay s1
  have dl1:=dl.stay s1
  refine ⟨_,rfl,p,_,_,_,rfl,rfl,SqT.of m1.hp,rfl,pa,rfl,⟨_,SqT.of m1.ha⟩,fun acc hacc=>?_⟩
  refine comp_enum (xs:=xa) (fun i ws H'=>Stay H1 H'∧ws=(List.range i).map fun g=>V.bl (decide (gotQ D g=if has (rowsOf wi) g=true then (((am.map intOf).getD g 0:Int):Rat) else 0))) ⟨(Stay.refl H1).acc hacc,rfl⟩ (fun i ws H' _ _ z=>SqT.of (z.1 _ _ m1.ha)) ?_ ?_
  ·rintro i x ws H2 H3 hx hz ⟨s2,rfl⟩ s3
   have s23:=s2.trans s3
   have hi:i < xa.length:=(Ze.mp hx).1
   obtain ⟨n,hn,rfl⟩:∃ n:Int,(am.map intOf)[i]?=some n∧x=V.int n:=by
    rw [exa,Zg] at hx
    cases e:(am.map intOf)[i]? with
    | none=>rw [e] at hx; cases hx
    | some n=>rw [e] at hx; exact ⟨n,rfl,by simpa using hx.symm⟩
   have en:(am.map intOf).getD i 0=n:=by simp only [List.getD,hn,Option.getD_some]
   refine yes_i ⟨_,rfl,_,rfl,q,zs,D,i,xa.length,rfl,dl1.stay s23,hi,fun r H4 s4 e4=>?_⟩
   have s24:=s23.trans s4
   refine ⟨_,rfl,_,rfl,qw,_,rfl,.inr (SqT.of (s24 _ _ hw1)),rfl,flat_wished _ _,_,rfl,?_⟩
   have ein:(if false=true then !inV (V.int (i:Int)) (jf1 xa.length (rowsOf wi)) else inV (V.int (i:Int)) (jf1 xa.length (rowsOf wi)))=has (rowsOf wi) i:=by
    rw [if_neg (by decide)]
    have:=in_wished (M:=rowsOf wi) hi
    rw [Int.zero_add] at this
    exact this
   rw [ein]
   cases hh:has (rowsOf wi) i with
   | true =>
    refine iteT ⟨_,rfl,by show 2 ≤ sizeLine; decide,fun t ht=>?_⟩
    have s5:=(Stay.refl H4).new (o:=.tup [.int n,.int 1]) ht
    refine ⟨qD (gotQ D i),qD (n:Rat),qO_dt (s5 _ _ e4),qO_dt ja8,Zl (Nat.min_le_left _ _) (Zl (dep_q _) (by decide)),?_⟩
    rw [eqv_qq]
    have hz5:=s5 _ _ (s4 _ _ (s3 _ _ hz))
    refine ⟨_,hz5,by rw [Zb,List.length_range,sz]; omega,Cn2.of ja8 ⟨((s24.trans s5)).acc hacc,?_⟩⟩
    rw [Yf,Zh,List.map_singleton,hh,if_pos rfl,en]
   | false =>
    refine iteF ⟨by show 2 ≤ sizeLine; decide,fun t ht=>?_⟩
    have s5:=(Stay.refl H4).new (o:=.tup [.int 0,.int 1]) ht
    refine ⟨qD (gotQ D i),qD 0,qO_dt (s5 _ _ e4),qO_dt ja8,Zl (Nat.min_le_left _ _) (Zl (dep_q _) (by decide)),?_⟩
    rw [eqv_qq]
    have hz5:=s5 _ _ (s4 _ _ (s3 _ _ hz))
    refine ⟨_,hz5,by rw [Zb,List.length_range,sz]; omega,Cn2.of ja8 ⟨((s24.trans s5)).acc hacc,?_⟩⟩
    rw [Yf,Zh,List.map_singleton,hh,if_neg (by decide)]
  ·rintro ws H2 hz ⟨s2,rfl⟩
   refine ⟨acc,_,rfl,.inl (SqL.of hz),?_,?_⟩
   ·rw [Zy]; simp [Function.comp_def,plainB]
   have e:((List.range xa.length).map fun g=>V.bl (decide (gotQ D g=if has (rowsOf wi) g=true then (((am.map intOf).getD g 0:Int):Rat) else 0))).all tv=sellsB (am.map intOf) (rowsOf wi) D xa.length:=by rw [Zy]; rfl
   rw [e]
   exact k H2 (s1.trans s2)
theorem scSp:FnScope ["market","prices","dealing"] ["market","prices","dealing"] (ja3 (top 44)):=L2.fsc
theorem ok_spends {f fT fM:Addr} {fd dT dM:FuncData} (F:Fun K "spends_all" "spends_all" (top 44) f fd) (N:Nm mg) (mz:mg "zip"=none) (T:Cal K mg P w base "total" 4 ["parts"] spTot fT dT) (M:CalX K mg P w base "times" 3 ["one","other"] (sp2 qTi) fM dM):FnOk P w K mg base CX0 5 f fd ["market","prices","dealing"] spSpends:=by
 refine F.ok scSp (fun vs H Q E h=>?_) (fun cdv A' outer s H vs Q E hr h=>?_)
 ·obtain ⟨b,p,pa,pp,pw,qp,q,xa,xp,xw,yp,zs,am,pu,wi,qs,D,rfl,_⟩:=h; rfl
 ·obtain ⟨b,p,pa,pp,pw,qp,q,xa,xp,xw,yp,zs,am,pu,wi,qs,D,rfl,m,pr,hql,dl,hDp,k⟩:=h
  have hr3:Room 3 _:=hr.mono (by decide)
  have hu:=hr.units
  obtain ⟨_,_,_,_,a1,a6,w1,w6,wp⟩:=m.lw
  have hpf:=m.fp
  have hqf:=Frs.of pr.tr
  refine ⟨_,ja7 (jb7 (jb3 (cAll0 rfl) (by rfl) N.all jg1 (ja1 (je0 (own:=["row","purse"]) (cap:=["prices"]) (ix:=[1]) (BlkOk.of (ja3 (top 44)).names ["market","prices","dealing"]) rfl (pi_zip0 rfl mz boot_zip (ja1 (pv 2) (ja1 (jb9 ixT0 (pv 0) ja6 (fun _ _=>rfl)) ja5)))
    (fun C fp s H=>⟨pgTup0 (n:=2) rfl (jc5 (jb0 (i:=0) (show List.Nodup (["row","purse","prices"]:List Str) by decide +kernel) rfl (Or.inl rfl)) (jc5 (jb0 (i:=1) (show List.Nodup (["row","purse","prices"]:List Str) by decide +kernel) rfl (Or.inl rfl)) jg5)),jd6,
     je2 (opEqD0 hu) (jb5 T.ok hr rfl T.mg T.kp T.bd .nil pass0 (ja1 (je0 (own:=["part","price"]) (cap:=[]) (ix:=[]) (BlkOk.of [(".0",.local),("row",.local),("purse",.local),("total",.globalImplicit),("zip",.globalImplicit),("prices",.cell)] ["row","purse","prices"]) rfl (pi_zip0 rfl mz boot_zip (ja1 (pv 0) (ja1 (pv 2) ja5)))
      (fun C fp s H=>⟨pgTup0 (n:=2) rfl (jc5 (jb0 (i:=0) (show List.Nodup (["part","price"]:List Str) by decide +kernel) rfl (Or.inl rfl)) (jc5 (jb0 (i:=1) (show List.Nodup (["part","price"]:List Str) by decide +kernel) rfl (Or.inl rfl)) jg5)),jd6,jb5 M.ok hr3 rfl M.mg M.kp M.bd .nil passE0 (ja1 (pv 0) (ja1 (pv 1) ja5))⟩)) ja5)) (pv 1) (nomark _)⟩)) ja5))),?_⟩
  refine ⟨_,rfl,_,rfl,p,_,_,_,rfl,rfl,SqT.of m.hp,rfl,q,pp,rfl,⟨_,SqT.of dl.hq⟩,⟨_,SqT.of m.hpp⟩,fun acc hacc=>?_⟩
  have hzl:zs.length=xp.length:=by rw [dl.fr.1,hDp]
  have hfew:=dl.few
  refine comp_zip (xs:=zs) (ys:=xp) (fun i ws H'=>Stay H H'∧ws=(List.range i).map fun i=>V.bl (decide (costQ (D.getD i []) qs xa.length=(jd5 pu).getD i 0))) hzl ⟨(Stay.refl H).acc hacc,rfl⟩ (fun i ws H' _ _ z=>⟨SqT.of (z.1 _ _ dl.hq),SqT.of (z.1 _ _ m.hpp)⟩) ?_ ?_
  ·rintro i x y ws H1 H2 hx hy hz ⟨s1,rfl⟩ s2
   have s12:=s1.trans s2
   obtain ⟨a,yr,row,hD,rfl,ha,fr⟩:=(dl.fr.stay s12).2 i x hx
   obtain ⟨cp,pq,rfl,hcp,hpq⟩:=frs_get hpf hy
   have hrow:=Zi hD
   have hrl:=dl.len row hrow
   have hqp2:=(s12 _ _ pr.hq)
   have hi:i < D.length:=(Ze.mp hD).1
   have eD:D.getD i []=row:=by simp [List.getD,hD]
   have ep:(jd5 pu).getD i 0=pq:=by simp [List.getD,hpq]
   refine yes_i ⟨_,rfl,_,rfl,a,qp,rfl,⟨_,SqT.of ha⟩,⟨_,SqT.of hqp2⟩,fun acc2 hacc2=>?_⟩
   have fq2:=hqf.stay s12
   have hyl:yr.length=yp.length:=by rw [fr.1,fq2.1,hrl,hql]
   refine comp_zip (xs:=yr) (ys:=yp) (fun j vs H'=>Stay H2 H'∧Frs H' vs ((List.range j).map fun g=>row.getD g 0 * qs.getD g 0)) hyl ⟨(Stay.refl H2).acc hacc2,⟨rfl,fun j y z=>by simp at z⟩⟩ (fun j vs H' _ _ z=>⟨SqT.of (z.1 _ _ ha),SqT.of (z.1 _ _ hqp2)⟩) ?_ ?_
   ·rintro j u v vs H3 H4 hu3 hv3 hz3 ⟨s3,fr3⟩ s4
    have s34:=s3.trans s4
    obtain ⟨c1,z1,rfl,hc1,hz1⟩:=frs_get fr hu3
    obtain ⟨c2,z2,rfl,hc2,hz2⟩:=frs_get fq2 hv3
    have hj:j < row.length:=(Ze.mp hz1).1
    have b1:=dl.bd row hrow z1 (Zi hz1)
    have b2:=pr.bd z2 (Zi hz2)
    refine yes_i ⟨_,rfl,_,rfl,c1,c2,z1,z2,rfl,s34 _ _ hc1,s34 _ _ hc2,b1.mono (by decide),b2.mono (by decide),fun r hr'=>?_⟩
    have s5:=s4.new (o:=qO (qTi z1 z2)) hr'
    have hz5:=s5 _ _ hz3
    refine ⟨vs,hz5,by rw [fr3.1,Zb,List.length_range,sz]; omega,Cn2.of ja8 ⟨(s3.trans s5).acc hacc2,?_⟩⟩
    rw [Yf,Zh,List.map_singleton]
    have e1:row.getD j 0=z1:=by simp [List.getD,hz1]
    have e2:qs.getD j 0=z2:=by simp [List.getD,hz2]
    rw [e1,e2]
    exact ((fr3.stay s5).app (a:=r) ja8).tm (Tm.lst hz5)
   ·rintro vs H3 hz3 ⟨s3,fr3⟩
    have e1:yr.length=xa.length:=by rw [fr.1,hrl]
    rw [e1] at fr3
    refine ⟨acc2,vs,_,rfl,hz3,fr3,fun z hz'=>?_,by rw [Zb,List.length_range]; omega,fun r H5 s5 e5=>?_⟩
    ·obtain ⟨g,hg,rfl⟩:=Zk.mp hz'
     exact (rb_mul (jh8 (by decide) (dl.bd row hrow) g) (pr.rb g)).mono (by decide)
    have s25:=s3.trans s5
    refine ⟨_,rfl,qD (costQ row qs xa.length),qD pq,qO_dt e5,qO_dt (s25 _ _ (s12 _ _ hcp)),Zl (Nat.min_le_left _ _) (Zl (dep_q _) (by decide)),?_⟩
    rw [eqv_qq]
    refine ⟨_,s25 _ _ (s2 _ _ hz),by rw [Zb,List.length_range,sz]; omega,Cn2.of ja8 ⟨(s12.trans s25).acc hacc,?_⟩⟩
    rw [Yf,Zh,List.map_singleton,eD,ep]
  ·rintro ws H1 hz ⟨s1,rfl⟩
   rw [dl.fr.1] at hz
   refine ⟨acc,_,rfl,.inl (SqL.of hz),?_,?_⟩
   ·rw [Zy]; simp [Function.comp_def,plainB]
   have e:((List.range D.length).map fun i=>V.bl (decide (costQ (D.getD i []) qs xa.length=(jd5 pu).getD i 0))).all tv=spendsB (jd5 pu) D qs xa.length:=by rw [Zy]; rfl
   rw [e]
   exact k H1 s1
theorem scGv:FnScope ["best","dealing"] ["best","dealing"] (ja3 (top 43)):=L2.fsc
theorem ok_gives {f:Addr} {fd:FuncData} (F:Fun K "gives_best" "gives_best" (top 43) f fd) (N:Nm mg):FnOk P w K mg base CX0 1 f fd ["best","dealing"] spGives:=by
 refine F.ok scGv (fun vs H Q E h=>?_) (fun cdv A' outer s H vs Q E hr h=>?_)
 ·obtain ⟨pb,q,xb,zs,B,D,n,rfl,_⟩:=h; rfl
 ·obtain ⟨pb,q,xb,zs,B,D,n,rfl,hb,rb,dl,hn6,hBD,k⟩:=h
  have nd:List.Nodup (["buyer","row","good","part","best"]:List Str):=by decide +kernel
  refine ⟨_,ja7 (jb7 (jb3 (cAll0 rfl) (by rfl) N.all jg1 (ja1 (pe_comp2 (own:=["buyer","row","good","part"]) (cap:=["best"]) (ix:=[0]) (BlkOk.of (ja3 (top 43)).names ["best","dealing"]) rfl (piEnum0 rfl N.enumerate jf7 (ja1 (pv 1) ja5))
    (fun C fp s H=>⟨pgTup0 (n:=2) rfl (jc5 (jb0 (i:=0) nd rfl (Or.inl rfl)) (jc5 (jb0 (i:=1) nd rfl (Or.inl rfl)) jg5)),jd6,(piEnum0 rfl N.enumerate jf7 (ja1 (pv 1) ja5)),
     pgTup0 (n:=2) rfl (jc5 (jb0 (i:=2) nd rfl (Or.inl rfl)) (jc5 (jb0 (i:=3) nd rfl (Or.inl rfl)) jg5)),jd6,
     pe_or (je2 op_eq (jb9 ixT0 (pv 3) ja6 (fun _ _=>rfl)) ja6 (nomark _)) (pe_one (je2 opIn0 (pv 2) (jb9 ixT0 (pv 4) (pv 0) (fun _ _=>rfl)) (by with_unfolding_all rfl)))⟩)) ja5))),?_⟩
  have hfew:=dl.few
  have hzl:zs.length=D.length:=dl.fr.1
  refine ⟨_,rfl,q,rfl,⟨_,SqT.of dl.hq⟩,fun acc hacc=>?_⟩
  have hrow:∀ i,i < zs.length→∃ (a:Addr) (ys:List V),zs[i]?=some (.ref a)∧H a=some (.tup ys)∧Frs H ys (D.getD i [])∧ys.length=n:=fun i hi=>by
   obtain ⟨a,ys,qs,hD,e,ha,fr⟩:=dl.fr.2 i zs[i] (Zc hi)
   have eD:D.getD i []=qs:=by simp [List.getD,hD]
   exact ⟨a,ys,by rw [Zc hi,e],ha,by rw [eD]; exact fr,by rw [fr.1]; exact dl.len qs (Zi hD)⟩
  let c:Nat→Addr:=fun i=>if h:i < zs.length then (hrow i h).choose else 0
  let yr:Nat→List V:=fun i=>if h:i < zs.length then (hrow i h).choose_spec.choose else []
  have hc:∀ i,i < zs.length→zs[i]?=some (.ref (c i))∧H (c i)=some (.tup (yr i))∧Frs H (yr i) (D.getD i [])∧(yr i).length=n:=fun i hi=>by
   have:=(hrow i hi).choose_spec.choose_spec
   show zs[i]?=some (.ref (if h:i < zs.length then (hrow i h).choose else 0))∧H (if h:i < zs.length then (hrow i h).choose else 0)=some (.tup (if h:i < zs.length then (hrow i h).choose_spec.choose else []))∧Frs H (if h:i < zs.length then (hrow i h).choose_spec.choose else []) (D.getD i [])∧(if h:i < zs.length then (hrow i h).choose_spec.choose else []).length=n
   simp only [dif_pos hi]
   exact this
  clear_value c yr
  refine comp2_ee (xs:=zs) (cs:=[some (.ref pb)]) (x0:=none) (x1:=none) (x2:=none) (x3:=none) c yr (fun i j ws H'=>Stay H H'∧ws=flatB B D n i j) (fun i hi=>(hc i hi).1) ⟨(Stay.refl H).acc hacc,rfl⟩ (fun i j ws H' _ z=>⟨SqT.of (z.1 _ _ dl.hq),fun hi=>SqT.of (z.1 _ _ (hc i hi).2.1)⟩) (fun i j ws H' H1 z s=>⟨z.1.trans s,z.2⟩) ?_ (fun i ws H' hi z=>⟨z.1,by rw [z.2,(hc i hi).2.2.2]; exact flatB_next B D n i⟩) ?_
  ·rintro i j y ws H1 hi hy hz ⟨s1,rfl⟩
   obtain ⟨_,hci,fri,hyl⟩:=hc i hi
   obtain ⟨cq,qq,rfl,hcq,hqq⟩:=frs_get fri hy
   have hj:j < n:=by rw [← hyl]; exact (Ze.mp hy).1
   have eq:(D.getD i []).getD j 0=qq:=by rw [List.getD_eq_getElem?_getD,hqq]; rfl
   have hfl:=flatB_len B D n i j
   have hsz:(flatB B D n i j).length < sizeLine:=by
    rw [hfl,sz]
    have:i * n ≤ 6 * 6:=Nat.mul_le_mul (by omega) hn6
    omega
   have hbi:i < xb.length:=by rw [rb.len,hBD]; omega
   obtain ⟨row,ar,hBi,er,har⟩:=rb.at (Zc hbi)
   have eB:B.getD i []=row:=by simp [List.getD,hBi]
   refine ⟨_,rfl,cq,_,_,_,rfl,rfl,SqT.of (s1 _ _ hcq),rfl,rfl,_,rfl,?_⟩
   rw [num_zero]
   have fin:∀ v,v=giveB B D i j→∃ us,H1 acc=some (.lst us)∧us.length < sizeLine∧CnE (some (.int (i:Int))) (some (.ref (c i))) [some (.ref pb)] acc (fun ws H'=>Stay H H'∧ws=flatB B D n i (j + 1)) [some (.int (i:Int)),some (.ref (c i)),some (.int (j:Int)),some (.ref cq),some (.ref pb)] (upd H1 acc (.lst (us ++ [V.bl v]))):=fun v ev =>
    ⟨_,hz,hsz,CnE.of ja8 ⟨s1.acc hacc,by rw [flatB_succ,ev]⟩⟩
   by_cases h0:qq=0
   ·rw [decide_eq_true h0]
    exact iteT (fin true (by unfold giveB; rw [eq,decide_eq_true h0]; rfl))
   ·rw [decide_eq_false h0]
    have ea:xb[i]?=some (.ref ar):=by rw [Zc hbi,er]
    refine iteF ⟨_,rfl,_,rfl,_,rfl,pb,_,_,_,rfl,rfl,SqT.of (s1 _ _ hb),atI_nat ea,ar,_,rfl,.inr (SqT.of (s1 _ _ har)),rfl,flat_ints row,?_⟩
    have ein:(if false=true then !inV (V.int (j:Int)) (row.map V.int) else inV (V.int (j:Int)) (row.map V.int))=row.contains (j:Int):=by rw [if_neg (by decide),inv_ints]
    rw [ein]
    exact fin _ (by unfold giveB; rw [eq,decide_eq_false h0,eB]; rfl)
  ·rintro ws H1 hz ⟨s1,rfl⟩
   rw [hzl] at hz
   refine ⟨acc,_,rfl,.inl (SqL.of hz),flatB_plain _ _ _ _ _,?_⟩
   rw [flatB_all]
   exact k H1 s1
abbrev NSh:List Str:=["market","prices","dealing","best"]
theorem scSh:FnScope NSh ["market","prices","dealing"] (ja3 (top 41)):=L2.fsc
theorem ok_shows {f fB fD fS fG fP Pr:Addr} {fd dB dD dS dG dP:FuncData} (F:Fun K "shows" "shows" (top 41) f fd) (B:CalX K mg P w base "best_goods" 6 ["market","prices"] (spBest Pr) fB dB) (I:Cal K mg P w base "is_dealing" 4 ["market","thing"] spIsDl fD dD)
  (Sa:Cal K mg P w base "sells_all" 6 ["market","dealing"] spSells fS dS) (Gv:Cal K mg P w base "gives_best" 1 ["best","dealing"] spGives fG dG) (Sp:Cal K mg P w base "spends_all" 5 ["market","prices","dealing"] spSpends fP dP):FnOk P w K mg base CX0 7 f fd ["market","prices","dealing"] spShows:=by
 refine F.ok scSh (fun vs H Q E h=>?_) (fun cdv A' outer s H vs Q E hr h=>?_)
 ·obtain ⟨b,p,pa,pp,pw,qp,xa,xp,xw,yp,am,pu,wi,qs,v,d,rfl,_⟩:=h; rfl
 ·obtain ⟨b,p,pa,pp,pw,qp,xa,xp,xw,yp,am,pu,wi,qs,v,d,rfl,m,pr,hql,hps,hT,hbd,k0,k1⟩:=h
  have hr1:Room 1 _:=hr.mono (by decide)
  have hr4:Room 4 _:=hr.mono (by decide)
  have hr5:Room 5 _:=hr.mono (by decide)
  obtain ⟨rw0,rne,rlen,rbd,a1,a6,w1,w6,wp⟩:=m.lw
  refine ⟨_,ja9 (jd7 (i:=3) scSh.nd rfl (Or.inl rfl) (jb5 B.ok hr rfl B.mg B.kp B.bd .nil passE0 (ja1 (pv 0) (ja1 (pv 1) ja5))))
   (ja9 (jf6 (je8 (je7 (jb5 I.ok hr4 rfl I.mg I.kp I.bd .nil pass0 (ja1 (pv 0) (ja1 (pv 2) ja5))))) (ja7 (jb7 jh0)) jc6)
   (ja7 (jb7 (pe_and (jb5 Sa.ok hr rfl Sa.mg Sa.kp Sa.bd .nil pass0 (ja1 (pv 0) (ja1 (pv 2) ja5))) (pe_and (jb5 Gv.ok hr1 rfl Gv.mg Gv.kp Gv.bd .nil pass0 (ja1 (pv 3) (ja1 (pv 2) ja5))) (pe_one (jb5 Sp.ok hr5 rfl Sp.mg Sp.kp Sp.bd .nil pass0 (ja1 (pv 0) (ja1 (pv 1) (ja1 (pv 2) ja5)))))))))),?_⟩
  have hPr:isPrs xa.length (rowsOf wi) (.tuple (qs.map qD))=true:=prs_q.mpr ⟨hql,hps⟩
  have qinj:∀ {qs':List Rat},PyData.tuple (qs.map qD)=.tuple (qs'.map qD)→qs=qs':=fun e=>by
   injection e with e
   exact (List.map_inj_right (fun a b h=>by have h1:=congrArg qOf h; rw [qOf_qD,qOf_qD] at h1; exact h1)).mp e
  have ag:ArgP b H p pa pp pw xa xp xw am pu wi (.ref qp) (.tuple (qs.map qD)):=⟨m,.tup pr.hq pr.tr,fun qs' e z hz=>by rw [← qinj e] at hz; exact (pr.bd z hz).mono (by decide)⟩
  refine ⟨_,rfl,_,rfl,b,p,pa,pp,pw,xa,xp,xw,am,pu,wi,.ref qp,_,rfl,ag,fun hn=>by (rw [hPr] at hn; cases hn),fun qs' e _ _ rb xb H1 s1 hb1 ls1=>?_⟩
  have e':=qinj e
  subst e'
  refine ⟨_,rfl,_,rfl,b,p,pa,pp,pw,xa,xp,xw,am,pu,wi,v,d,rfl,m.stay s1,hT.stay s1,fun H2 s2=>⟨_,rfl,?_⟩⟩
  have s12:=s1.trans s2
  cases hdl:isDl xp.length xa.length d with
  | false=>exact iteT (k0 hdl H2 s12)
  | true =>
  refine iteF ?_
  obtain ⟨D,rfl,hDn,hDl,hD0⟩:=dl_q hdl
  have hk:=k1 D rfl hDn hDl hD0
  cases hT with
  | @tup q zs _ hq hzs =>
  have dl:DlAt H q zs D xa.length:=⟨hq,frm_of hzs,hDl,hbd D rfl,by rw [hDn]; omega⟩
  have m2:=m.stay s12
  refine ⟨_,rfl,_,rfl,b,p,pa,pp,pw,q,xa,xp,xw,zs,am,pu,wi,D,rfl,m2,dl.stay s12,fun H3 s3=>⟨_,rfl,?_⟩⟩
  have s13:=s12.trans s3
  unfold showsB at hk
  cases hs:sellsB (am.map intOf) (rowsOf wi) D xa.length with
  | false=>rw [hs] at hk; exact iteF (hk H3 s13)
  | true =>
  rw [hs] at hk
  have hBl:(bestM (rowsOf wi) qs).length=D.length:=by
   unfold bestM
   rw [Zb,hDn]
   have h2:=rw0.len
   omega
  refine iteT ⟨_,rfl,_,rfl,rb,q,xb,zs,bestM (rowsOf wi) qs,D,xa.length,rfl,(s2.trans s3) _ _ hb1,ls1.keep (s2.trans s3).tm,dl.stay s13,a6,hBl,fun H4 s4=>⟨_,rfl,?_⟩⟩
  have s14:=s13.trans s4
  cases hg:givesB (bestM (rowsOf wi) qs) D xa.length with
  | false=>rw [hg] at hk; exact iteF (hk H4 s14)
  | true =>
  rw [hg] at hk
  exact iteT ⟨_,rfl,_,rfl,_,rfl,b,p,pa,pp,pw,qp,q,xa,xp,xw,yp,zs,am,pu,wi,qs,D,rfl,m.stay s14,pr.stay s14,hql,dl.stay s14,hDn,fun H5 s5=>hk H5 (s14.trans s5)⟩
end
def spLIsDl:Sp:=fun vs H Q _=>∃ (b p pa pp pw:Addr) (xa xp xw:List V) (am pu wi:List PyData) (v:V) (d:PyData),vs=[.ref p,v]∧MkAt b H p pa pp pw xa xp xw am pu wi∧TrV b H v d∧small d=true∧∀ H',Stay H H'→Q (.bl (isDl xp.length xa.length d)) H'
theorem smalls_of {ds:List PyData} (h:small (.tuple ds)=true):∀ d ∈ ds,small d=true:=fun d hd=>smalls_mem (by simpa [small] using h) hd
section
variable {P:Program} {w:World} {K:PySem.W.Frag} {mg:Str→Option Value} {base:Heap}
theorem scLDl:FnScope ["market","thing","row"] ["market","thing"] (ja3 (top 61)):=L2.fsc
theorem ok_lidl {f fI:Addr} {fd dI:FuncData} (F:Fun K "_law_is_dealing" "_law_is_dealing" (top 61) f fd) (N:Nm mg) (Z:IsK K) (I:Cal K mg P w base "_law_is_fraction" 2 ["thing"] (spTs isFrac) fI dI):FnOk P w K mg base CX0 3 f fd ["market","thing"] spLIsDl:=by
 refine F.ok scLDl (fun vs H Q E h=>?_) (fun cdv A' outer s H vs Q E hr h=>?_)
 ·obtain ⟨b,p,pa,pp,pw,xa,xp,xw,am,pu,wi,v,d,rfl,_⟩:=h; rfl
 ·obtain ⟨b,p,pa,pp,pw,xa,xp,xw,am,pu,wi,v,d,rfl,m,hT,hsm,k⟩:=h
  have hu:=hr.units
  obtain ⟨_,_,_,_,a1,a6,w1,w6,wp⟩:=m.lw
  refine ⟨_,ja9 (jf6 (PW.pt (pw_or (je8 (je7 (pIsi K (pv 1) rfl N.isinstance rfl N.tuple jb8 jb4))) (jg7 (jc4 op_ne (jb3 cLen0 (by rfl) N.len PySem.boot_len (ja1 (pv 1) ja5)) (jb3 cLen0 (by rfl) N.len PySem.boot_len (ja1 (jb9 ixT0 (pv 0) ja6 (fun _ _=>rfl)) ja5)) (nomark _))))) (ja7 (jb7 jh0)) jc6)
   (ja9 (ps_for PassesOwn.never rfl (piT0 (pv 1)) (jb0 (i:=2) scLDl.nd rfl (Or.inl rfl))
    (ja9 (jf6 (PW.pt (pw_or (je8 (je7 (pIsi K (pv 2) rfl N.isinstance rfl N.tuple jb8 jb4))) (jg7 (jc4 op_ne (jb3 cLen0 (by rfl) N.len PySem.boot_len (ja1 (pv 2) ja5)) (jb3 cLen0 (by rfl) N.len PySem.boot_len (ja1 (jb9 ixT0 (pv 0) ja6 (fun _ _=>rfl)) ja5)) (nomark _))))) (ja7 (jb7 jh0)) jc6)
    (ja7 (jf6 (jc4 (opNeD0 hu) (je0 (own:=["one"]) (cap:=[]) (ix:=[]) (BlkOk.of (ja3 (top 61)).names ["market","thing","row"]) rfl (piT0 (pv 2))
     (fun C fp s H=>⟨jb0 (i:=0) (show List.Nodup (["one"]:List Str) by decide +kernel) rfl (Or.inl rfl),pifs_one (PW.pt (pw_or (je8 (je7 (jb5 I.ok hr rfl I.mg I.kp I.bd .nil pass0 (ja1 (pv 0) ja5)))) (jg7 (jc4 op_lt (jb9 ixT0 (pv 0) ja6 (fun _ _=>rfl)) ja6 (nomark _))))),pv 0⟩)) (pe_lst ja5) (nomark _)) (ja7 (jb7 jh0)) jc6))))
   (ja7 (jb7 jh0))),?_⟩
  obtain ⟨t1,ty1,e1⟩:=ist Z hT
  refine ⟨_,rfl,t1,_,ty1,e1,_,rfl,?_⟩
  have hk:=k H (Stay.refl H)
  rcases jh1 hT with hn | ⟨a,xs,ds,rfl,rfl,ha,hs⟩
  ·rw [hn]; rw [isDl_no hn] at hk
   exact iteT (iteT hk)
  refine iteF ?_
  have hlen:=hs.len
  have hsml:=smalls_of hsm
  refine ⟨_,rfl,a,xs,rfl,.inr (SqT.of ha),_,rfl,p,_,_,_,rfl,rfl,SqT.of m.hp,rfl,pp,xp,rfl,.inr (SqT.of m.hpp),rfl,_,rfl,?_⟩
  by_cases hl:xs.length=xp.length
  case neg =>
   rw [jj0 hl]
   have e3:isDl xp.length xa.length (.tuple ds)=false:=by
    show (decide (ds.length=xp.length) && _)=false
    rw [decide_eq_false (by rw [← hlen]; exact hl)]; rfl
   rw [e3] at hk
   exact iteT hk
  rw [hl,vint_eq]
  refine iteF ?_
  have e3:isDl xp.length xa.length (.tuple ds)=ds.all (isDRow xa.length):=by
   show (decide (ds.length=xp.length) && _)=_
   rw [decide_eq_true (by rw [← hlen]; exact hl),Ya]
  rw [e3] at k
  refine ⟨_,rfl,a,rfl,⟨_,SqT.of ha⟩,?_⟩
  refine for_tup (xs:=xs) (fun i σ H'=>Stay H H'∧(∃ y2,σ=[some (.ref p),some (.ref a),y2])∧(ds.take i).all (isDRow xa.length)=true) ⟨Stay.refl H,⟨_,rfl⟩,rfl⟩ (fun i σ H' _ z=>SqT.of (z.1 _ _ ha)) ?_ ?_
  ·rintro i x σ H1 hx ⟨s1,⟨y2,rfl⟩,hall⟩
   obtain ⟨d,hdi,hT1⟩:=hs.at hx
   have hT1':=hT1.stay s1
   have hds:=hsml d (Zi hdi)
   have no:isDRow xa.length d=false→∀ H',Stay H1 H'→Q (.bl false) H':=fun e H' s'=>by
    have e4:ds.all (isDRow xa.length)=false:=by
     rw [List.all_eq_false]
     exact ⟨d,Zi hdi,by rw [e]; decide⟩
    have:=k H' (s1.trans s')
    rw [e4] at this; exact this
   have m1:=m.stay s1
   obtain ⟨t2,ty2,e2⟩:=ist Z hT1'
   refine ⟨_,rfl,t2,_,ty2,e2,_,rfl,?_⟩
   rcases jh1 hT1' with hn | ⟨c,ys,es,rfl,rfl,hc,hes⟩
   ·rw [hn]
    exact iteT (iteT (no (isDRow_no hn) H1 (Stay.refl H1)))
   refine iteF ?_
   have hel:=hes.len
   refine ⟨_,rfl,c,ys,rfl,.inr (SqT.of hc),_,rfl,p,_,_,_,rfl,rfl,SqT.of m1.hp,rfl,pa,xa,rfl,.inr (SqT.of m1.ha),rfl,_,rfl,?_⟩
   by_cases hyl:ys.length=xa.length
   case neg =>
    rw [jj0 hyl]
    refine iteT (no ?_ H1 (Stay.refl H1))
    show (decide (es.length=xa.length) && _)=false
    rw [decide_eq_false (by rw [← hel]; exact hyl)]; rfl
   rw [hyl,vint_eq]
   refine iteF ?_
   have e4:isDRow xa.length (.tuple es)=es.all isPart:=by
    show (decide (es.length=xa.length) && _)=_
    rw [decide_eq_true (by rw [← hel]; exact hyl),Ya]
   have hsme:=smalls_of hds
   refine ⟨_,rfl,c,rfl,⟨_,SqT.of hc⟩,fun acc hacc=>?_⟩
   refine jh5 (xs:=ys) (fun j zs H'=>Stay H1 H'∧TrVs b H1 zs ((es.take j).filter fun e=>!isPart e)∧zs.length ≤ j) ⟨(Stay.refl H1).acc hacc,.nil,Zd _⟩ (fun j zs H' _ _ z=>SqT.of (z.1 _ _ hc)) ?_ ?_
   ·rintro j y zs H2 hy hz ⟨s2,tz,hzl⟩
    obtain ⟨e,hej,hTe⟩:=hes.at hy
    have hj:j < ys.length:=(Ze.mp hy).1
    have ef:(es.take (j + 1)).filter (fun e=>!isPart e)=(es.take j).filter (fun e=>!isPart e) ++ if (!isPart e)=true then [e] else []:=by
     rw [je5 hej,List.filter_append]
     congr 1
     exact filt1 _ _
    refine ⟨_,rfl,b,y,e,rfl,hTe.stay s2,hsme e (Zi hej),fun H3 s3=>⟨_,rfl,?_⟩⟩
    cases hf:isFrac e with
    | false=>exact iteT (iteT ⟨_,rfl,zs,s3 _ _ hz,by rw [sz]; omega,Cn.of ja8 ⟨(s2.trans s3).acc hacc,by rw [ef,part_frac hf]; exact tz.app (.cons hTe .nil),by rw [Zj]; show zs.length + 1 ≤ j + 1; omega⟩⟩)
    | true =>
     obtain ⟨t,u,rfl,ep⟩:=frac_shape hf
     have hx3:=(hTe.stay s2).stay s3
     cases hx3 with
     | @tup a2 ys2 _ ha2 hys2 =>
     match ys2,hys2 with
     | [_,_],.cons (.int _) (.cons (.int _) .nil) =>
     refine iteF ⟨_,rfl,a2,_,_,_,rfl,rfl,SqT.of ha2,rfl,_,_,rfl,rfl,_,rfl,?_⟩
     by_cases h0:t < 0
     ·rw [decide_eq_true h0]
      exact iteT ⟨_,rfl,zs,s3 _ _ hz,by rw [sz]; omega,Cn.of ja8 ⟨(s2.trans s3).acc hacc,by rw [ef,ep,decide_eq_false (show ¬ 0 ≤ t by omega)]; exact tz.app (.cons hTe .nil),by rw [Zj]; show zs.length + 1 ≤ j + 1; omega⟩⟩
     ·rw [decide_eq_false h0]
      refine iteF (Cn.of (s3 _ _ hz) ⟨s2.trans s3,?_,by omega⟩)
      rw [ef,ep,decide_eq_true (show 0 ≤ t by omega)]
      simpa using tz
   ·rintro zs H2 hz ⟨s2,tz,hzl⟩
    rw [hel,Ye] at tz
    refine ⟨by show 0 ≤ sizeLine; decide,fun q5 hq5=>?_⟩
    have s5:=(Stay.refl H2).new (o:=.lst []) hq5
    refine ⟨.list (es.filter fun e=>!isPart e),.list [],.lst (SqL.of (s5 _ _ hz)) ((tz.stay (s2.trans s5)).dt),.lst (SqL.of ja8) .nil,by show min _ 1 ≤ 60; omega,_,rfl,?_⟩
    rw [eqv_nil,filt_all]
    have s25:=s2.trans s5
    generalize upd H2 q5 (.lst [])=H6 at s5 s25 ⊢
    cases hp:es.all isPart with
    | false=>exact iteT (no (by rw [e4]; exact hp) H6 s25)
    | true =>
     refine iteF ⟨s1.trans s25,⟨_,rfl⟩,?_⟩
     rw [je5 hdi,List.all_append,hall]
     simp [e4,hp]
  ·rintro σ H1 ⟨s1,⟨y2,rfl⟩,hall⟩
   rw [hlen,Ye] at hall
   have:=k H1 s1
   rw [hall] at this
   exact this
abbrev NLS:List Str:=["market","prices","dealing","best","good","row","got","buyer","cost"]
theorem scLS:FnScope NLS ["market","prices","dealing"] (ja3 (top 62)):=L2.fsc
def spLShows:Sp:=fun vs H Q _=>∃ (b p pa pp pw qp q:Addr) (xa xp xw yp zs:List V) (am pu wi:List PyData) (qs:List Rat) (D:List (List Rat)),vs=[.ref p,.ref qp,.ref q]∧MkAt b H p pa pp pw xa xp xw am pu wi∧PrAt b H qp yp qs∧qs.length=xa.length∧DlAt H q zs D xa.length∧D.length=xp.length∧∀ H',Stay H H'→Q (.bl (showsB (am.map intOf) (jd5 pu) qs (rowsOf wi) D xa.length)) H'
theorem ok_lshows {f fB fS fW fA fM:Addr} {fd dB dS dW dA dM:FuncData} (F:Fun K "_law_shows" "_law_shows" (top 62) f fd) (N:Nm mg) (Be:Cal K mg P w base "_law_best" 1 ["market","prices"] spLBest fB dB) (Su:Cal K mg P w base "_law_sum" 3 ["some"] spSum fS dS)
  (Wi:Cal K mg P w base "_law_wished" 1 ["market"] spLWished fW dW) (La:Cal K mg P w base "_law_add" 2 ["one","other"] (sp2 qPl) fA dA) (Lm:Cal K mg P w base "_law_mul" 2 ["one","other"] (sp2 qTi) fM dM):FnOk P w K mg base CX0 4 f fd ["market","prices","dealing"] spLShows:=by
 refine F.ok scLS (fun vs H Q E h=>?_) (fun cdv A' outer s H vs Q E hr h=>?_)
 ·obtain ⟨b,p,pa,pp,pw,qp,q,xa,xp,xw,yp,zs,am,pu,wi,qs,D,rfl,_⟩:=h; rfl
 ·obtain ⟨b,p,pa,pp,pw,qp,q,xa,xp,xw,yp,zs,am,pu,wi,qs,D,rfl,m,pr,hql,dl,hDp,k⟩:=h
  have hr1:Room 1 _:=hr.mono (by decide)
  have hr2:Room 2 _:=hr.mono (by decide)
  have hu:=hr.units
  obtain ⟨rw0,rne,rlen,rbd,a1,a6,w1,w6,wp⟩:=m.lw
  obtain ⟨exa,amb⟩:=m.am
  have hpf:=m.fp
  have hqf:=Frs.of pr.tr
  have hfew:=dl.few
  refine ⟨_,ja9 (jd7 (i:=3) scLS.nd rfl (Or.inl rfl) (jb5 Be.ok hr1 rfl Be.mg Be.kp Be.bd .nil pass0 (ja1 (pv 0) (ja1 (pv 1) ja5))))
   (ja9 (ps_for PassesOwn.never rfl (jg8 rfl N.range (ja1 (jb3 cLen0 (by rfl) N.len PySem.boot_len (ja1 (pv 1) ja5)) ja5)) (jb0 (i:=4) scLS.nd rfl (Or.inr rfl))
    (ja9 (jd7 (i:=6) scLS.nd rfl (Or.inl rfl) (jb5 Su.ok hr rfl Su.mg Su.kp Su.bd .nil pass0 (ja1 (je0 (own:=["row"]) (cap:=["good"]) (ix:=[4]) (BlkOk.of (ja3 (top 62)).names NLS) rfl (piT0 (pv 2))
     (fun C fp s H=>⟨jb0 (i:=0) (show List.Nodup (["row","good"]:List Str) by decide +kernel) rfl (Or.inl rfl),jd6,jb9 ixT0 (pv 0) (pv 1) (fun _ _=>rfl)⟩)) ja5)))
    (ja7 (jf6 (jc4 (opNeD0 hu) (pv 6) (pe_tup (ja1 (jc3 jd3 (jb9 ixT0 (jb9 ixT0 (pv 0) ja6 (fun _ _=>rfl)) (pv 4) (fun _ _=>rfl)) (jg9 jj8 (by rfl) N.int ji8 (ja1 (je2 opIn0 (pv 4) (jb5 Wi.ok hr1 rfl Wi.mg Wi.kp Wi.bd .nil pass0 (ja1 (pv 0) ja5)) (by with_unfolding_all rfl)) ja5))) (ja1 ja6 ja5))) (nomark _)) (ja7 (jb7 jh0)) jc6))))
   (ja9 (ps_for PassesOwn.never rfl (jg8 rfl N.range (ja1 (jb3 cLen0 (by rfl) N.len PySem.boot_len (ja1 (pv 3) ja5)) ja5)) (jb0 (i:=7) scLS.nd rfl (Or.inl rfl))
    (ja9 (jd7 (i:=5) scLS.nd rfl (Or.inl rfl) (jb9 ixT0 (pv 2) (pv 7) (fun _ _=>rfl)))
    (ja9 (jd7 (i:=8) scLS.nd rfl (Or.inl rfl) (pe_tup (ja1 ja6 (ja1 ja6 ja5))))
    (ja9 (ps_for PassesOwn.never rfl (jg8 rfl N.range (ja1 (jb3 cLen0 (by rfl) N.len PySem.boot_len (ja1 (pv 5) ja5)) ja5)) (jb0 (i:=4) scLS.nd rfl (Or.inr rfl))
     (ja9 (jf6 (PW.pt (pw_and (jc4 op_ne (jb9 ixT0 (jb9 ixT0 (pv 5) (pv 4) (fun _ _=>rfl)) ja6 (fun _ _=>rfl)) ja6 (nomark _)) (pw_and1 (jc4 opNin0 (pv 4) (jb9 ixL0 (pv 3) (pv 7) (fun _ _=>rfl)) (by with_unfolding_all rfl))))) (ja7 (jb7 jh0)) jc6)
     (ja7 (jd7 (i:=8) scLS.nd rfl (Or.inl rfl) (jb5 La.ok hr2 rfl La.mg La.kp La.bd .nil pass0 (ja1 (pv 8) (ja1 (jb5 Lm.ok hr2 rfl Lm.mg Lm.kp Lm.bd .nil pass0 (ja1 (jb9 ixT0 (pv 1) (pv 4) (fun _ _=>rfl)) (ja1 (jb9 ixT0 (pv 5) (pv 4) (fun _ _=>rfl)) ja5))) ja5)))))))
    (ja7 (jf6 (jc4 (opNeD0 hu) (pv 8) (jb9 ixT0 (jb9 ixT0 (pv 0) ja6 (fun _ _=>rfl)) (pv 7) (fun _ _=>rfl)) (nomark _)) (ja7 (jb7 jh0)) jc6))))))
   (ja7 (jb7 jh0)))),?_⟩
  have hyl:yp.length=xa.length:=by rw [hqf.1,hql]
  refine ⟨_,rfl,_,rfl,b,p,pa,pp,pw,qp,xa,xp,xw,yp,am,pu,wi,qs,rfl,m,pr,hql,fun rb xb H1 s1 hb1 ls1=>?_⟩
  have m1:=m.stay s1
  have pr1:=pr.stay s1
  have dl1:=dl.stay s1
  have hBl:(bestM (rowsOf wi) qs).length=D.length:=by
   unfold bestM
   rw [Zb,hDp]
   have h2:=rw0.len
   omega
  have hxb:xb.length=D.length:=by rw [ls1.1,hBl]
  unfold showsB at k
  refine ⟨_,rfl,qp,yp,rfl,.inr (SqT.of pr1.hq),(yp.length:Int),rfl,by omega,by omega,?_⟩
  rw [Zp,hyl]
  refine for_range (fun i σ H'=>Stay H1 H'∧(∃ y4 y5 y6 y7 y8,σ=[some (.ref p),some (.ref qp),some (.ref q),some (.ref rb),y4,y5,y6,y7,y8])∧((List.range i).all fun g=>decide (gotQ D g=if has (rowsOf wi) g=true then (((am.map intOf).getD g 0:Int):Rat) else 0))=true) ⟨Stay.refl H1,⟨_,_,_,_,_,rfl⟩,rfl⟩ ?_ ?_
  ·rintro i σ H2 hi ⟨s2,⟨y4,y5,y6,y7,y8,rfl⟩,hall⟩
   have e0:(0 + (i:Int))=(i:Int):=by omega
   rw [e0]
   have m2:=m1.stay s2
   have dl2:=dl1.stay s2
   refine ⟨_,rfl,q,rfl,⟨_,SqT.of dl2.hq⟩,fun acc hacc=>?_⟩
   refine jh5 (xs:=zs) (fun j ws H'=>Stay H2 H'∧Frs H' ws ((D.take j).map fun r=>r.getD i 0)) ⟨(Stay.refl H2).acc hacc,rfl,fun j y hy=>by simp at hy⟩ (fun j ws H' _ _ z=>SqT.of (z.1 _ _ dl2.hq)) ?_ ?_
   ·rintro j x ws H3 hx hz ⟨s3,fr3⟩
    obtain ⟨a,ys,r,hD,rfl,ha,fq⟩:=(dl2.fr.stay s3).2 j x hx
    have hrn:=dl.len r (Zi hD)
    obtain ⟨c,ec,hcq⟩:=fq.at (g:=i) (by omega)
    have hj:j < D.length:=(Ze.mp hD).1
    refine yes_i ⟨_,rfl,_,rfl,a,_,_,_,rfl,rfl,SqT.of ha,ec,ws,hz,by rw [fr3.1,Zb,Zz,sz]; omega,Cn.of ja8 ⟨s3.acc hacc,?_⟩⟩
    rw [je5 hD,Zh]
    exact (fr3.app (a:=c) hcq).tm (Tm.lst hz)
   rintro ws H3 hz ⟨s3,fr3⟩
   rw [dl.fr.1,Ye] at fr3
   refine ⟨acc,ws,_,rfl,hz,fr3,fun z hz'=>?_,by rw [Zb]; omega,fun r H4 s4 e4=>?_⟩
   ·obtain ⟨r,hr',rfl⟩:=Zk.mp hz'
    exact (jh8 (by decide) (dl.bd r hr') i).mono (by decide)
   have s24:=s3.trans s4
   have m4:=m2.stay s24
   have hamg:i < (am.map intOf).length:=by have:=congrArg List.length exa; rw [Zb] at this; omega
   obtain ⟨ea2,_,em2⟩:=atI_ints (ns:=am.map intOf) (r:=(i:Int)) (by omega) (by omega)
   rw [← exa,Zp] at ea2
   rw [Zp] at em2
   have bam:=amb _ em2
   obtain ⟨rw4,_⟩:=m4.lw
   refine ⟨_,rfl,_,rfl,p,_,_,_,rfl,rfl,SqT.of m4.hp,rfl,_,rfl,pa,_,_,_,rfl,rfl,SqT.of m4.ha,ea2,_,rfl,_,rfl,p,pa,pw,_,xa,xw,rowsOf wi,rfl,m4.hp,m4.ha,m4.hw,rw4,rne,rlen,a6,w6,fun q5 H5 s5 _ e5=>?_⟩
   refine ⟨q5,_,rfl,.inl (SqL.of e5),rfl,flat_wished _ _,.inr ⟨_,rfl,?_⟩⟩
   have ein:(if false=true then !inV (V.int (i:Int)) (jf1 xa.length (rowsOf wi)) else inV (V.int (i:Int)) (jf1 xa.length (rowsOf wi)))=has (rowsOf wi) i:=by
    rw [if_neg (by decide)]
    have:=in_wished (M:=rowsOf wi) hi
    rw [Int.zero_add] at this
    exact this
   rw [ein]
   have b01:Bd 8000 (if has (rowsOf wi) i=true then (1:Int) else 0):=by split <;> exact Bd.mono (j:=1) (by unfold Bd; decide) (by decide)
   refine ⟨_,_,rfl,rfl,⟨Bd.mono (j:=7) (by unfold Bd; omega) (by decide),b01⟩,by show 2 ≤ sizeLine; decide,fun t ht=>?_⟩
   have s6:=s5.new (o:=.tup [.int ((am.map intOf).getD i 0 * (if has (rowsOf wi) i=true then (1:Int) else 0)),.int 1]) ht
   refine ⟨qD (gotQ D i),qD (((am.map intOf).getD i 0 * (if has (rowsOf wi) i=true then (1:Int) else 0):Int):Rat),qO_dt (s6 _ _ e4),qO_dt ja8,Zl (Nat.min_le_left _ _) (Zl (dep_q _) (by decide)),_,rfl,?_⟩
   rw [eqv_qq]
   have ez:(((am.map intOf).getD i 0 * (if has (rowsOf wi) i=true then (1:Int) else 0):Int):Rat)=if has (rowsOf wi) i=true then (((am.map intOf).getD i 0:Int):Rat) else 0:=by
    split
    ·rw [Int.mul_one]
    ·rw [Int.mul_zero]; rfl
   rw [ez]
   have sA:=(s2.trans s24).trans s6
   cases hd:decide (gotQ D i=if has (rowsOf wi) i=true then (((am.map intOf).getD i 0:Int):Rat) else 0) with
   | false =>
    refine iteT ?_
    have hF:sellsB (am.map intOf) (rowsOf wi) D xa.length=false:=by
     unfold sellsB
     rw [List.all_eq_false]
     exact ⟨i,by simpa using hi,by rw [hd]; decide⟩
    have:=k _ (s1.trans sA)
    rw [hF] at this
    exact this
   | true =>
    refine iteF ⟨sA,⟨_,_,_,_,_,rfl⟩,?_⟩
    rw [Yf,List.all_append,hall,Ya,List.all_cons,List.all_nil,Bool.and_true]
    exact hd
  rintro σ H2 ⟨s2,⟨y4,y5,y6,y7,y8,rfl⟩,hall⟩
  have hSells:sellsB (am.map intOf) (rowsOf wi) D xa.length=true:=hall
  rw [hSells] at k
  have hb2:=s2 _ _ hb1
  refine ⟨_,rfl,rb,xb,rfl,.inl (SqL.of hb2),(xb.length:Int),rfl,by omega,by omega,?_⟩
  rw [Zp,hxb]
  have hsp:(givesB (bestM (rowsOf wi) qs) D xa.length && spendsB (jd5 pu) D qs xa.length)=(List.range D.length).all fun i=>((List.range xa.length).all fun g=>giveB (bestM (rowsOf wi) qs) D i g) && decide (costQ (D.getD i []) qs xa.length=(jd5 pu).getD i 0):=by
   unfold givesB spendsB
   induction List.range D.length with
   | nil=>rfl
   | cons x l ih =>
    rw [List.all_cons,List.all_cons,List.all_cons,← ih]
    generalize ((List.range xa.length).all fun g=>giveB (bestM (rowsOf wi) qs) D x g)=u
    generalize decide (costQ (D.getD x []) qs xa.length=(jd5 pu).getD x 0)=v
    generalize (l.all fun i=>(List.range xa.length).all fun g=>giveB (bestM (rowsOf wi) qs) D i g)=u'
    generalize (l.all fun i=>decide (costQ (D.getD i []) qs xa.length=(jd5 pu).getD i 0))=v'
    cases u <;> cases v <;> cases u' <;> cases v' <;> rfl
  rw [Ya,hsp] at k
  have noB:∀ i,i < D.length→(((List.range xa.length).all fun g=>giveB (bestM (rowsOf wi) qs) D i g) && decide (costQ (D.getD i []) qs xa.length=(jd5 pu).getD i 0))=false→∀ H',Stay H1 H'→Q (.bl false) H':=fun i hi e H' s'=>by
   have e4:((List.range D.length).all fun i=>((List.range xa.length).all fun g=>giveB (bestM (rowsOf wi) qs) D i g) && decide (costQ (D.getD i []) qs xa.length=(jd5 pu).getD i 0))=false:=by
    rw [List.all_eq_false]
    exact ⟨i,by simpa using hi,by rw [e]; decide⟩
   have:=k H' (s1.trans s')
   rw [e4] at this; exact this
  refine for_range (fun i σ H'=>Stay H1 H'∧(∃ y4 y5 y6 y7 y8,σ=[some (.ref p),some (.ref qp),some (.ref q),some (.ref rb),y4,y5,y6,y7,y8])∧((List.range i).all fun i=>((List.range xa.length).all fun g=>giveB (bestM (rowsOf wi) qs) D i g) && decide (costQ (D.getD i []) qs xa.length=(jd5 pu).getD i 0))=true) ⟨s2,⟨_,_,_,_,_,rfl⟩,rfl⟩ ?_ ?_
  ·rintro i σ H3 hi ⟨s3,⟨z4,z5,z6,z7,z8,rfl⟩,hall3⟩
   have e0:(0 + (i:Int))=(i:Int):=by omega
   rw [e0]
   have dl3:=dl1.stay s3
   have hzi:i < zs.length:=by rw [dl.fr.1]; exact hi
   obtain ⟨a,ys,row,hD,ea,ha,fr⟩:=dl3.fr.2 i zs[i] (Zc hzi)
   have eD:D.getD i []=row:=by simp [List.getD,hD]
   have hrow:=Zi hD
   have hrl:=dl.len row hrow
   have hysl:ys.length=xa.length:=by rw [fr.1,hrl]
   refine ⟨_,rfl,_,rfl,q,_,_,_,rfl,rfl,SqT.of dl3.hq,atI_nat (by rw [Zc hzi,ea]),?_⟩
   refine ⟨by show 2 ≤ sizeLine; decide,fun p0 hp0=>?_⟩
   have s4:=(Stay.refl H3).new (o:=.tup [.int 0,.int 1]) hp0
   have ep0:(upd H3 p0 (.tup [.int 0,.int 1])) p0=some (qO 0):=ja8
   generalize upd H3 p0 (.tup [.int 0,.int 1])=H4 at s4 ep0 ⊢
   refine ⟨_,rfl,a,ys,rfl,.inr (SqT.of (s4 _ _ ha)),(ys.length:Int),rfl,by omega,by omega,?_⟩
   rw [Zp,hysl]
   have ls3:LsR H3 xb (bestM (rowsOf wi) qs):=ls1.stay s3
   have hxi:i < xb.length:=by rw [hxb]; exact hi
   obtain ⟨cb,ecb,hcb⟩:=ls3.2 i xb[i] (Zc hxi)
   refine for_range (fun j σ H'=>Stay H4 H'∧(∃ y4 y6 cst,σ=[some (.ref p),some (.ref qp),some (.ref q),some (.ref rb),y4,some (.ref a),y6,some (.int (i:Int)),some (.ref cst)]∧H' cst=some (qO (sumQ ((List.range j).map fun g=>row.getD g 0 * qs.getD g 0))))∧((List.range j).all fun g=>giveB (bestM (rowsOf wi) qs) D i g)=true) ⟨Stay.refl H4,⟨_,_,p0,rfl,ep0⟩,rfl⟩ ?_ ?_
   ·rintro j σ H5 hj ⟨s5,⟨w4,w6',cst,rfl,hcst⟩,hallj⟩
    have e1:(0 + (j:Int))=(j:Int):=by omega
    rw [e1]
    have s35:=s4.trans s5
    have fr5:=fr.stay s35
    obtain ⟨c1,ec1,hc1⟩:=fr5.at (g:=j) (by omega)
    have ha5:=s35 _ _ ha
    dsimp only [gName]
    refine ifs_cont (fun σ H'=>H'=H5∧σ=[some (.ref p),some (.ref qp),some (.ref q),some (.ref rb),some (.int (j:Int)),some (.ref a),w6',some (.int (i:Int)),some (.ref cst)]∧giveB (bestM (rowsOf wi) qs) D i j=true) ?_ ?_
    ·rintro σ H' ⟨rfl,rfl,hgv⟩
     obtain ⟨c2,ec2,hc2⟩:=((hqf.stay s1).stay (s3.trans s35)).at (g:=j) (by omega)
     have hqp5:=(s3.trans s35) _ _ pr1.hq
     have bsum:Rb 3000 (sumQ ((List.range j).map fun g=>row.getD g 0 * qs.getD g 0)):=by
      refine (sumQ_rb' (k:=400) (n:=6) (fun z hz=>?_) (by rw [Zb,List.length_range]; omega)).mono (by decide)
      obtain ⟨g,hg,rfl⟩:=Zk.mp hz
      exact (rb_mul (jh8 (by decide) (dl.bd row hrow) g) (pr.rb g)).mono (by decide)
     refine ⟨_,rfl,_,rfl,_,rfl,qp,_,_,_,rfl,rfl,SqT.of hqp5,ec2,_,rfl,_,rfl,a,_,_,_,rfl,rfl,SqT.of ha5,ec1,c2,c1,_,_,rfl,hc2,hc1,(pr.rb j).mono (by decide),(jh8 (by decide) (dl.bd row hrow) j).mono (by decide),fun r1 hr1'=>?_⟩
     have s6:=(Stay.refl H').new (o:=qO (qTi (qs.getD j 0) (row.getD j 0))) hr1'
     refine ⟨cst,r1,_,_,rfl,s6 _ _ hcst,ja8,bsum,(rb_mul (pr.rb j) (jh8 (by decide) (dl.bd row hrow) j)).mono (by decide),fun r2 hr2'=>?_⟩
     have s7:=s6.new (o:=qO (qPl (sumQ ((List.range j).map fun g=>row.getD g 0 * qs.getD g 0)) (qTi (qs.getD j 0) (row.getD j 0)))) hr2'
     refine ⟨s5.trans s7,⟨_,_,r2,rfl,?_⟩,?_⟩
     ·rw [Yf,Zh,List.map_singleton,sumQ_snoc,Rat.mul_comm (row.getD j 0)]
      exact ja8
     ·rw [Yf,List.all_append,hallj,Ya,List.all_cons,List.all_nil,Bool.and_true]
      exact hgv
    intro cont
    have s15:=s3.trans s35
    have egv:giveB (bestM (rowsOf wi) qs) D i j=(decide (row.getD j 0=0) || ((bestM (rowsOf wi) qs).getD i []).contains (j:Int)):=by unfold giveB; rw [eD]
    refine ⟨_,rfl,_,rfl,a,_,_,_,rfl,rfl,SqT.of ha5,ec1,c1,_,_,_,rfl,rfl,SqT.of hc1,rfl,rfl,_,rfl,?_⟩
    rw [num_zero]
    by_cases h0:row.getD j 0=0
    ·rw [decide_eq_true h0]
     exact iteF (iteF (cont _ _ ⟨rfl,rfl,by rw [egv,decide_eq_true h0]; rfl⟩))
    rw [decide_eq_false h0]
    refine iteT ⟨_,rfl,_,rfl,_,rfl,rb,_,_,_,rfl,rfl,SqL.of (s15 _ _ hb1),atI_nat (by rw [Zc hxi,ecb]),cb,_,rfl,.inl (SqL.of (s35 _ _ hcb)),rfl,flat_ints _,_,rfl,?_⟩
    have ein:(if true=true then !inV (V.int (j:Int)) (((bestM (rowsOf wi) qs).getD i []).map V.int) else inV (V.int (j:Int)) (((bestM (rowsOf wi) qs).getD i []).map V.int))=!((bestM (rowsOf wi) qs).getD i []).contains (j:Int):=by rw [if_pos rfl,inv_ints]
    rw [ein]
    cases hcn:((bestM (rowsOf wi) qs).getD i []).contains (j:Int) with
    | true=>exact iteF (cont _ _ ⟨rfl,rfl,by rw [egv,hcn,Bool.or_true]⟩)
    | false =>
     refine iteT (noB i hi ?_ H5 s15)
     have:((List.range xa.length).all fun g=>giveB (bestM (rowsOf wi) qs) D i g)=false:=by
      rw [List.all_eq_false]
      exact ⟨j,by simpa using hj,by rw [egv,hcn,decide_eq_false h0]; decide⟩
     rw [this]; rfl
   ·rintro σ H5 ⟨s5,⟨w4,w6',cst,rfl,hcst⟩,hallj⟩
    have s35:=s4.trans s5
    have s15:=s3.trans s35
    have m5:=m1.stay s15
    have hpi:i < xp.length:=by rw [← hDp]; exact hi
    obtain ⟨cp,ecp,hcp⟩:=m5.fp.at (g:=i) (by rw [← m5.fp.1]; exact hpi)
    refine ⟨_,rfl,_,rfl,p,_,_,_,rfl,rfl,SqT.of m5.hp,rfl,_,rfl,pp,_,_,_,rfl,rfl,SqT.of m5.hpp,ecp,qD (costQ row qs xa.length),qD ((jd5 pu).getD i 0),qO_dt hcst,qO_dt hcp,Zl (Nat.min_le_left _ _) (Zl (dep_q _) (by decide)),_,rfl,?_⟩
    rw [eqv_qq]
    cases hd:decide (costQ row qs xa.length=(jd5 pu).getD i 0) with
    | false =>
     refine iteT (noB i hi ?_ H5 s15)
     rw [eD,hd,Bool.and_false]
    | true =>
     refine iteF ⟨s15,⟨_,_,_,_,_,rfl⟩,?_⟩
     rw [Yf,List.all_append,hall3,Ya,List.all_cons,List.all_nil,Bool.and_true,hallj,Ya,eD]
     exact hd
  ·rintro σ H3 ⟨s3,_,hall3⟩
   have:=k H3 (s1.trans s3)
   rw [hall3] at this
   exact this
end
theorem small_mat {D:List (List Rat)} (h:small (matD D)=true):∀ r ∈ D,∀ z ∈ r,Rb 100 z:=fun r hr z hz=>by
 have h1:=smalls_t h (.tuple (r.map qD)) (Zk.mpr ⟨r,hr,rfl⟩)
 have h2:=smalls_t h1 (qD z) (Zk.mpr ⟨z,hz,rfl⟩)
 have h3:=smalls_t h2
 have a1:small (.int z.num)=true:=h3 _ (by simp)
 have a2:small (.int (z.den:Int))=true:=h3 _ (by simp)
 have f:∀ i:Int,small (.int i)=true→Bd 100 i:=fun i hi=>by
  have hi':(decide (-1073741824 < i) && decide (i < 1073741824))=true:=hi
  simp at hi'
  exact Bd.mono (j:=30) (by unfold Bd; omega) (by decide)
 exact ⟨f _ a1,f _ a2⟩
theorem part_qD {q:Rat} (h:0 ≤ q):isPart (qD q)=true:=by
 show (decide (1 ≤ (q.den:Int)) && decide (Int.gcd q.num (q.den:Int)=1) && decide (0 ≤ q.num))=true
 have h1:=jc8 q
 have h2:Int.gcd q.num (q.den:Int)=1:=by
  have:=q.reduced
  unfold Nat.Coprime at this
  show Nat.gcd q.num.natAbs (q.den:Int).natAbs=1
  rw [Int.natAbs_natCast]; exact this
 have h3:=Rat.num_nonneg.mpr h
 rw [decide_eq_true (show 1 ≤ (q.den:Int) by omega),decide_eq_true h2,decide_eq_true h3]; rfl
theorem isDl_mat {n g:Nat} {D:List (List Rat)} (h1:D.length=n) (h2:∀ r ∈ D,r.length=g) (h3:∀ r ∈ D,∀ z ∈ r,0 ≤ z):isDl n g (matD D)=true:=by
 show (decide ((D.map fun qs=>PyData.tuple (qs.map qD)).length=n) && (D.map fun qs=>PyData.tuple (qs.map qD)).all (isDRow g))=true
 rw [Zb,decide_eq_true h1,Ya,Zy,Zt]
 intro r hr
 show (decide ((r.map qD).length=g) && (r.map qD).all isPart)=true
 rw [Zb,decide_eq_true (h2 r hr),Ya,Zy,Zt]
 exact fun z hz=>part_qD (h3 r hr z hz)
theorem matD_inj {D D':List (List Rat)} (h:matD D=matD D'):D=D':=by
 unfold matD at h
 injection h with h
 refine (List.map_inj_right (fun a b e=>?_)).mp h
 injection e with e
 exact (List.map_inj_right (fun a b h=>by have h1:=congrArg qOf h; rw [qOf_qD,qOf_qD] at h1; exact h1)).mp e
def spAllR:Sp:=fun vs H Q _=>∃ (b p pa pp pw qp:Addr) (xa xp xw yp:List V) (am pu wi:List PyData) (qs:List Rat) (v:V) (d:PyData),vs=[.ref p,.ref qp,v]∧MkAt b H p pa pp pw xa xp xw am pu wi∧PrAt b H qp yp qs∧qs.length=xa.length∧Prs (rowsOf wi) qs∧TrV b H v d∧small d=true∧∀ H',Stay H H'→Q (.bl true) H'
section
variable {P:Program} {w:World} {K:PySem.W.Frag} {mg:Str→Option Value} {base:Heap}
abbrev NAR:List Str:=["market","prices","dealing","due","found"]
theorem scAR:FnScope NAR ["market","prices","dealing"] (ja3 (top 69)):=L2.fsc
theorem ok_allr {f fI fL fS:Addr} {fd dI dL dS:FuncData} (F:Fun K "_law_all_right" "_law_all_right" (top 69) f fd) (N:Nm mg) (Z:IsK K) (I:Cal K mg P w base "_law_is_dealing" 3 ["market","thing"] spLIsDl fI dI) (L:Cal K mg P w base "_law_shows" 4 ["market","prices","dealing"] spLShows fL dL)
  (S:Cal K mg P w base "shows" 7 ["market","prices","dealing"] spShows fS dS):FnOk P w K mg base CX0 8 f fd ["market","prices","dealing"] spAllR:=by
 refine F.ok scAR (fun vs H Q E h=>?_) (fun cdv A' outer s H vs Q E hr h=>?_)
 ·obtain ⟨b,p,pa,pp,pw,qp,xa,xp,xw,yp,am,pu,wi,qs,v,d,rfl,_⟩:=h; rfl
 ·obtain ⟨b,p,pa,pp,pw,qp,xa,xp,xw,yp,am,pu,wi,qs,v,d,rfl,m,pr,hql,hps,hT,hsm,k⟩:=h
  have hr3:Room 3 _:=hr.mono (by decide)
  have hr4:Room 4 _:=hr.mono (by decide)
  have hu:=hr.units
  obtain ⟨_,_,_,_,a1,a6,w1,w6,wp⟩:=m.lw
  refine ⟨_,ja9 (jd7 (i:=3) scAR.nd rfl (Or.inl rfl) (pe_and (jb5 I.ok hr3 rfl I.mg I.kp I.bd .nil pass0 (ja1 (pv 0) (ja1 (pv 2) ja5))) (pe_one (jb5 L.ok hr4 rfl L.mg L.kp L.bd .nil pass0 (ja1 (pv 0) (ja1 (pv 1) (ja1 (pv 2) ja5)))))))
   (ja9 (jd7 (i:=4) scAR.nd rfl (Or.inl rfl) (jb5 S.ok hr rfl S.mg S.kp S.bd .nil pass0 (ja1 (pv 0) (ja1 (pv 1) (ja1 (pv 2) ja5)))))
   (ja7 (jb7 (pe_and (pIsi K (pv 4) rfl N.isinstance rfl N.bool boot_bool jb4) (pe_one (je2 (opEqD0 hu) (pv 4) (pv 3) (nomark _))))))),?_⟩
  refine ⟨_,rfl,_,rfl,b,p,pa,pp,pw,xa,xp,xw,am,pu,wi,v,d,rfl,m,hT,hsm,fun H1 s1=>⟨_,rfl,?_⟩⟩
  have bd:∀ D,d=matD D→∀ r ∈ D,∀ z ∈ r,Rb 100 z:=fun D e=>small_mat (by rw [← e]; exact hsm)
  cases hdl:isDl xp.length xa.length d with
  | false =>
   refine iteF ?_
   refine ⟨_,rfl,_,rfl,_,rfl,b,p,pa,pp,pw,qp,xa,xp,xw,yp,am,pu,wi,qs,v,d,rfl,m.stay s1,pr.stay s1,hql,hps,hT.stay s1,bd,fun _ H2 s2=>?_,fun D e hn hl h0 H2 s2=>?_⟩
   ·obtain ⟨t1,ty1,e1⟩:=isb Z (TrV.bl (b:=b) (H:=H2) false)
    exact ⟨_,rfl,t1,_,ty1,e1,_,rfl,iteT ⟨_,rfl,_,rfl,.bool false,.bool false,.bl _,.bl _,by decide,k H2 (s1.trans s2)⟩⟩
   ·rw [e,isDl_mat hn hl h0] at hdl; cases hdl
  | true =>
   obtain ⟨D,rfl,hDn,hDl,hD0⟩:=dl_q hdl
   cases hT with
   | @tup q zs _ hq hzs =>
   have dl:DlAt H q zs D xa.length:=⟨hq,frm_of hzs,hDl,bd D rfl,by rw [hDn]; omega⟩
   refine iteT ⟨_,rfl,_,rfl,_,rfl,b,p,pa,pp,pw,qp,q,xa,xp,xw,yp,zs,am,pu,wi,qs,D,rfl,m.stay s1,pr.stay s1,hql,dl.stay s1,hDn,fun H2 s2=>?_⟩
   have s12:=s1.trans s2
   have hT2:TrV b H2 (.ref q) (matD D):=(TrV.tup hq hzs).stay s12
   refine ⟨_,rfl,_,rfl,_,rfl,b,p,pa,pp,pw,qp,xa,xp,xw,yp,am,pu,wi,qs,.ref q,matD D,rfl,m.stay s12,pr.stay s12,hql,hps,hT2,bd,fun hn H3 s3=>?_,fun D' e _ _ _ H3 s3=>?_⟩
   ·rw [hdl] at hn; cases hn
   ·have eD:=matD_inj e
    subst eD
    obtain ⟨t1,ty1,e1⟩:=isb Z (TrV.bl (b:=b) (H:=H3) (showsB (am.map intOf) (jd5 pu) qs (rowsOf wi) D xa.length))
    refine ⟨_,rfl,t1,_,ty1,e1,_,rfl,iteT ⟨_,rfl,_,rfl,.bool _,.bool _,.bl _,.bl _,by show min 0 0 ≤ 60; decide,?_⟩⟩
    have e2:∀ u:Bool,PyData.eqv (.bool u) (.bool u)=true:=fun u=>by simp [PyData.eqv]
    rw [e2]
    exact k H3 (s12.trans s3)
end
end K15
namespace MI
open PySem L2 KG EX KM
section
variable {K:PySem.W.Frag} {QX:Addr→Sto→Prop} {E:XK} {X:Cx}
def mPar (i j:Nat) (Ms:MA):MS:=fun D sl O=>Ms sl O fun xs O1=>match xs with
 | [x,y]=>D.nx ((sl.set i (some x)).set j (some y)) O1
 | _=>False
theorem ms_par {i j:Nat} {x y:Str} {a b:Expr} {Ms:MA} {px py pt pos:Pos} {kt k2 pt2} (hc:X.calm=true) (hN:X.N.Nodup) (hi:X.N[i]?=some x) (hj:X.N[j]?=some y) (hij:i ≠ j)
  (hx:X.env.scope.names.lookup x=some .local) (hy:X.env.scope.names.lookup y=some .local) (ha:PA X [a,b] (taM K QX E Ms))
  (hw:swappedStores [.Tuple [.Name x px,.Name y py] kt pt] (.Tuple [a,b] k2 pt2) X.env=pure (some [x,y]))
  (hs:swapsWithSole [.Tuple [.Name x px,.Name y py] kt pt] (.Tuple [a,b] k2 pt2) pos.line X.env=pure false:=by rfl) :
  PS X (.Assign [.Tuple [.Name x px,.Name y py] kt pt] (.Tuple [a,b] k2 pt2) pos) (tsM K QX E (mPar i j Ms)):=PS.imp (ps_par hc hN hi hj hij hx hy ha hw hs) fun D σ H ⟨w,O,sl,D0,c,m,hn,hb,hc,hr⟩=>⟨w,O,sl,_,c,m,fun xs O1 vs w1 H1 h1 e1 r1 a1=>by
 split at h1
 ·obtain ⟨v,u,rfl,b1,b2⟩:=avs2 a1
  exact ⟨v,u,rfl,hn _ O1 w1 H1 _ h1 (((c.ex e1.ex r1).put b1 i).put b2 j) e1⟩
 ·exact h1.elim⟩
end
section
variable {n:Nat} {ix:List Nat} {sl:Slt} {O:Sto} {Q:AV→Sto→Prop}
theorem mat_items {D:List (List Rat)} {i:Nat} {x:AV} (h:((D.map fun qs=>PyData.tuple (qs.map qD)).map AV.im)[i]?=some x):i < D.length∧x=.im (.tuple ((D.getD i []).map qD)):=by
 have hi:i < D.length:=by have:=(Ze.mp h).1; simpa using this
 rw [Zg,jg0 (d:=[]) hi] at h
 exact ⟨hi,(Option.some.inj h).symm⟩
theorem rows_of_mat {D:List (List Rat)} (h6:D.length ≤ 1000) (hn:0 < n) (hd:Q (.own (O.length + D.length)) (O ++ (D.map cQ ++ [some (owns O.length D.length)]))):CBO n ix (mgN 0) mYes (mCB lstO (mCons (mVar 0) mNil)) sl Q ((D.map fun qs=>PyData.tuple (qs.map qD)).map AV.im) O:=by
 have hl:((D.map fun qs=>PyData.tuple (qs.map qD)).map AV.im).length=D.length:=by simp
 refine ⟨by omega,fun i zs O'=>zs=owns O.length i∧O'=O ++ (D.take i).map cQ,⟨rfl,by simp⟩,?_,?_⟩
 ·rintro i x zs O' hx ⟨rfl,rfl⟩
  obtain ⟨hi,rfl⟩:=mat_items hx
  refine ⟨fun _=>?_,fun z=>(by cases z)⟩
  have hs:((blkS n ix sl).set 0 (some (AV.im (.tuple ((D.getD i []).map qD)))))[0]?=some (some (AV.im (.tuple ((D.getD i []).map qD)))):=by
   rw [Yh]
   unfold blkS; simp; omega
  show mVar 0 _ _ _
  unfold mVar
  rw [hs]
  refine ⟨?_,?_⟩
  ·rw [owns_succ]; simp [Nat.min_eq_left (Nat.le_of_lt hi)]
  ·rw [List.take_add_one,Zc hi,Zh,← List.append_assoc]
   congr 1
   rw [jc2 (Zc hi),Zs]; rfl
 ·rintro zs O' ⟨rfl,rfl⟩
  rw [hl,Ye,List.append_assoc]
  have e:(O ++ D.map cQ).length=O.length + D.length:=by simp
  rw [e]
  exact hd
theorem tab_get {D:List (List Rat)} {g i j:Nat} (hi:i < D.length) (hj:j < (D.getD i []).length):(O ++ (D.map cQ ++ [some (owns O.length D.length)]))[O.length + D.length]?=some (some (owns O.length D.length))∧atI (owns O.length D.length) (i:Int)=some (.own (O.length + i)) ∧
  (O ++ (D.map cQ ++ [some (owns O.length D.length)]))[O.length + i]?=some (some ((D.getD i []).map fun x=>AV.im (qD x)))∧atI ((D.getD i []).map fun x=>AV.im (qD x)) (j:Int)=some (.im (qD (eQ D i j))) :=
 ⟨ji9 _ _ _ _,atI_get (owns_at hi),at_tab2 cQ O _ D i [] hi,atI_get (jg0 hj)⟩
theorem tab_put {D:List (List Rat)} {i j:Nat} {z:Rat} (hi:i < D.length):(O ++ (D.map cQ ++ [some (owns O.length D.length)])).set (O.length + i) (some (((D.getD i []).map fun x=>AV.im (qD x)).set j (.im (qD z))))=O ++ ((putQ D i j z).map cQ ++ [some (owns O.length (putQ D i j z).length)]):=by
 rw [rd_setQ,putQ_len]
 exact set_tab2 cQ O _ D i _ hi
theorem tab_frz {D:List (List Rat)} {M:MS} {E:MEnds} {i:Nat} (hs:sl[i]?=some (some (.own (O.length + D.length)))) (h:∀ O',Grew O O'→M E (sl.set i (some (.im (.list (D.map fun r=>.list (r.map qD)))))) O'):mFrz2 i M E sl (O ++ (D.map cQ ++ [some (owns O.length D.length)])):=by
 refine ⟨O.length + D.length,(List.range D.length).map (fun t=>O.length + t),D.map (fun r=>r.map qD),hs,by rw [ji9,owns_own],by simp,fun j kj hj=>?_,?_⟩
 ·have hjn:j < D.length:=by have:=(Ze.mp hj).1; simpa using this
  rw [Zg,Yj hjn] at hj
  rw [← Option.some.inj hj]
  show (O ++ (D.map cQ ++ [some (owns O.length D.length)]))[O.length + j]?=_
  rw [at_tab2 cQ O _ D j [] hjn]
  have:(D.map (fun r=>r.map qD)).getD j []=(D.getD j []).map qD:=ji6 hjn
  rw [this,Zs]; rfl
 ·rw [Zs]
  refine h _ (Grew.none ⟨_,rfl⟩ fun k hk=>?_)
  rcases Zf.mp hk with rfl | hk
  ·omega
  ·obtain ⟨t,_,rfl⟩:=Zk.mp hk; omega
theorem mat_of_rows {D:List (List Rat)} (h6:D.length ≤ 1000) (hn:0 < n) (hd:Q (.im (.list (D.map fun qs=>PyData.tuple (qs.map qD)))) O):CB n ix (mgN 0) mYes (mCB tupF (mCons (mVar 0) mNil)) sl Q ((D.map fun r=>PyData.list (r.map qD)).map AV.im) O:=by
 refine ji7 (fun i=>.tuple ((D.getD i []).map qD)) (by simp; omega) (fun i x Z hx hZ=>?_) ?_
 ·have hi:i < D.length:=by have:=(Ze.mp hx).1; simpa using this
  rw [Zg,jg0 (d:=[]) hi] at hx
  have ex:=(Option.some.inj hx).symm
  subst ex
  have hs:((blkS n ix sl).set 0 (some (AV.im (.list ((D.getD i []).map qD)))))[0]?=some (some (AV.im (.list ((D.getD i []).map qD)))):=by
   rw [Yh]
   unfold blkS; simp; omega
  show mVar 0 _ _ _
  unfold mVar
  rw [hs]
  exact hZ
 ·rw [Zb,Zb,range_getD (fun r=>PyData.tuple (r.map qD)) D []]; exact hd
end
def fDiv:FM:=fun O xs P _=>∃ a b,xs=[.im (qD a),.im (qD b)]∧(Rb 3000 a∧Rb 3000 b∧0 < b)∧P (.im (qD (a / b))) O
def fAllR:FM:=fun O xs P _=>∃ (A:List Int) (Pu:List Rat) (W:List (List Int)) (qs:List Rat) (d:PyData),xs=[.im (mkD A Pu W),.im (.tuple (qs.map qD)),.im d]∧Priced A Pu W qs∧small d=true∧P (.im (.bool true)) O
abbrev NMo:List Str:=["bag","dealing","rows","one","other","good","much"]
def mMoved:MS:=(mSeq (mAsg (mCompO 1 [] (miSeq (mVar 1)) (mgN 0) mYes (mCB lstO (mCons (mVar 0) mNil))) (mgN 2))
 (mSeq (mAsg (mCall fTake noX (mCons (mVar 0) (mCons (mCB lenF (mCons (mVar 2) mNil)) mNil))) (mgN 3))
 (mSeq (mAsg (mCall fTake noX (mCons (mVar 0) (mCons (mCB lenF (mCons (mVar 2) mNil)) mNil))) (mgN 4))
 (mSeq (mAsg (mCall fTake noX (mCons (mVar 0) (mCons (mCB lenF (mCons (mOp ixF (mVar 2) (mC (.int 0))) mNil)) mNil))) (mgN 5))
 (mSeq (mAsg (mCall (f2 qTi) noX (mCons (mOp ixF (mOp ixF (mVar 2) (mVar 3)) (mVar 5)) (mCons (mOp ixF (mLst (mCons (mTup (mCons (mC (.int 1)) (mCons (mC (.int 1)) mNil))) (mCons (mTup (mCons (mC (.int 1)) (mCons (mC (.int 2)) mNil))) (mCons (mCall fLf noX (mCons (mC (.int 1)) (mCons (mOp addF (mC (.int 1)) (mCall fTake noX (mCons (mVar 0) (mCons (mC (.int 9)) mNil)))) mNil))) mNil)))) (mCall fTake noX (mCons (mVar 0) (mCons (mC (.int 3)) mNil)))) mNil))) (mgN 6))
 (mSeq (mAsg (mCall (f2 qMi) noX (mCons (mOp ixF (mOp ixF (mVar 2) (mVar 3)) (mVar 5)) (mCons (mVar 6) mNil))) (mgS (mOp ixF (mVar 2) (mVar 3)) (mVar 5)))
 (mSeq (mIfS (mTst (mOp gtF (mCall fTake noX (mCons (mVar 0) (mCons (mC (.int 4)) mNil))) (mC (.int 0)))) (mAsg (mCall (f2 qPl) noX (mCons (mOp ixF (mOp ixF (mVar 2) (mVar 4)) (mVar 5)) (mCons (mVar 6) mNil))) (mgS (mOp ixF (mVar 2) (mVar 4)) (mVar 5))) mNext)
 (mFrz2 2 (mRet (mCB tupF (mCons (mComp 1 [] (miSeq (mVar 2)) (mgN 0) mYes (mCB tupF (mCons (mVar 0) mNil))) mNil)))))))))))
theorem menuM {z:Rat} {p:Int} (h0:0 ≤ p) (h1:p < 3) (hz:Rb 4 z):∃ y:Rat,atI [PyData.tuple [.int 1,.int 1],PyData.tuple [.int 1,.int 2],qD z] p=some (qD y)∧Rb 4 y:=by
 have:p=0 ∨ p=1 ∨ p=2:=by omega
 rcases this with rfl | rfl | rfl
 ·exact ⟨1,rfl,by constructor <;> (unfold Bd; decide)⟩
 ·refine ⟨halfQ,?_,half_rb.mono (by decide)⟩
  show some (PyData.tuple [.int 1,.int 2])=some (.tuple [.int halfQ.num,.int (halfQ.den:Int)])
  rw [half_nd.1,half_nd.2]
 ·exact ⟨z,rfl,hz⟩
theorem rd_moved:∀ O xs Pq QX,fMoved O xs Pq QX→mMoved { nx:=fun _ O'=>Pq (.im .none) O',rt:=Pq } (startS NMo xs) O:=by
 intro O xs Pq QX h
 obtain ⟨bj,g,D,rfl,hr,g1,g6,n1,n6,hb,h⟩:=h
 have hrow:∀ i,i < D.length→(D.getD i []).length=g:=fun i hi=>hr _ (by rw [jc2 (Zc hi)]; exact Zn hi)
 unfold mMoved
 conv=>whnf
 refine rows_of_mat (by omega) (by decide) ?_
 refine ⟨_,ji9 _ _ _ _,⟨by rw [jf8]; omega,by rw [jf8]; omega⟩,fun a a0 a1=>?_⟩
 rw [jf8] at a1
 refine ⟨_,ji9 _ _ _ _,⟨by rw [jf8]; omega,by rw [jf8]; omega⟩,fun o o0 o1=>?_⟩
 rw [jf8] at o1
 obtain ⟨a,rfl⟩:∃ a':Nat,a=(a':Int):=⟨a.toNat,by omega⟩
 obtain ⟨o,rfl⟩:∃ a':Nat,o=(a':Int):=⟨o.toNat,by omega⟩
 have t0:=tab_get (O:=O) (D:=D) (g:=g) (i:=0) (j:=0) (by omega) (by rw [hrow 0 (by omega)]; omega)
 refine ⟨_,_,t0.1,t0.2.1,_,t0.2.2.1,⟨by rw [Zb,hrow 0 (by omega)]; omega,by rw [Zb,hrow 0 (by omega)]; omega⟩,fun j j0 j1=>?_⟩
 rw [Zb,hrow 0 (by omega)] at j1
 obtain ⟨j,rfl⟩:∃ a':Nat,j=(a':Int):=⟨j.toNat,by omega⟩
 have ha:a < D.length:=by omega
 have ho:o < D.length:=by omega
 have hj:j < g:=by omega
 have bD:∀ i,i < D.length→Rb 6 (eQ D i j):=fun i hi=>jh8 (by decide) (hb _ (by rw [jc2 (Zc hi)]; exact Zn hi)) j
 have ta:=tab_get (O:=O) (D:=D) (g:=g) (i:=a) (j:=j) ha (by rw [hrow a ha]; omega)
 refine ⟨_,_,ta.1,ta.2.1,_,_,ta.2.2.1,ta.2.2.2,len2,len2,⟨by decide,by decide⟩,fun t t0 t1=>⟨⟨by omega,bd30 (by omega)⟩,len3,⟨by decide,by decide⟩,fun p p0 p1=>?_⟩⟩
 obtain ⟨y,hy,by4⟩:=menuM p0 p1 (rb_div (T:=1) (U:=1 + t) (by omega) (show Bd 4 1 by unfold Bd; decide) (show Bd 4 (1 + t) by unfold Bd; omega))
 have bm:Rb 10 (qTi (eQ D a j) y):=rb_mul (bD a ha) by4
 refine ⟨_,hy,_,_,rfl,⟨(bD a ha).mono (by decide),by4.mono (by decide)⟩,?_⟩
 generalize qTi (eQ D a j) y=mu at bm ⊢
 refine ⟨_,_,ta.1,ta.2.1,_,_,ta.2.2.1,ta.2.2.2,_,_,rfl,⟨(bD a ha).mono (by decide),bm.mono (by decide)⟩,_,_,ta.1,ta.2.1,_,j,ta.2.2.1,ix_ok (by rw [Zb,hrow a ha]; exact hj),?_⟩
 rw [tab_put ha]
 have bs:Rb 17 (qMi (eQ D a j) mu):=(rb_sub (bD a ha) bm).mono (by decide)
 generalize qMi (eQ D a j) mu=zs at bs ⊢
 have hD1:∀ r ∈ putQ D a j zs,∀ y ∈ r,Rb 17 y:=putQ_mem (fun r hr y hy=>(hb r hr y hy).mono (by decide)) bs
 have hL1:∀ r ∈ putQ D a j zs,r.length=g:=putQ_lens ha hr
 have hn1:(putQ D a j zs).length=D.length:=putQ_len
 rw [← hn1]
 have rest:∀ D':List (List Rat),D'.length=D.length→(∀ r ∈ D',r.length=g)→(∀ r ∈ D',∀ y ∈ r,Rb 29 y)→Go (mFrz2 2 (mRet (mCB tupF (mCons (mComp 1 [] (miSeq (mVar 2)) (mgN 0) mYes (mCB tupF (mCons (mVar 0) mNil))) mNil)))) { nx:=fun _ O'=>Pq (.im .none) O',rt:=Pq } [some (.bag bj),some (.im (matD D)),some (.own (O.length + D'.length)),some (.im (.int a)),some (.im (.int o)),some (.im (.int j)),some (.im (qD mu))] (O ++ (D'.map cQ ++ [some (owns O.length D'.length)])):=fun D' h1 h2 h3=>by
  refine ⟨tab_frz rfl fun O' hG=>?_⟩
  conv=>whnf
  exact mat_of_rows (by omega) (by decide) (h D' h1 h2 h3 O' hG)
 refine ⟨⟨by decide,by decide⟩,fun q _ _=>⟨fun _=>?_,fun _=>rest _ hn1 hL1 (fun r hr y hy=>(hD1 r hr y hy).mono (by decide))⟩⟩
 have hro:((putQ D a j zs).getD o []).length=g:=hL1 _ (by rw [jc2 (Zc (show o < (putQ D a j zs).length by omega))]; exact Zn _)
 have ho1:o < (putQ D a j zs).length:=by omega
 have to:=tab_get (O:=O) (D:=putQ D a j zs) (g:=g) (i:=o) (j:=j) ho1 (by omega)
 have bo:Rb 17 (eQ (putQ D a j zs) o j):=jh8 (by decide) (hD1 _ (by rw [jc2 (Zc ho1)]; exact Zn _)) j
 refine ⟨_,_,to.1,to.2.1,_,_,to.2.2.1,to.2.2.2,_,_,rfl,⟨bo.mono (by decide),bm.mono (by decide)⟩,_,_,to.1,to.2.1,_,j,to.2.2.1,ix_ok (by rw [Zb,hro]; exact hj),?_⟩
 rw [tab_put ho1]
 have e2:(putQ (putQ D a j zs) o j (qPl (eQ (putQ D a j zs) o j) mu)).length=(putQ D a j zs).length:=putQ_len
 have:=rest (putQ (putQ D a j zs) o j (qPl (eQ (putQ D a j zs) o j) mu)) (by rw [e2,hn1]) (putQ_lens ho1 hL1) (putQ_mem (fun r hr y hy=>(hD1 r hr y hy).mono (by decide)) ((rb_add bo bm).mono (by decide)))
 rw [e2] at this
 rw [e2]
 exact this
abbrev NRi:List Str:=["bag","prices","dealing","rows","one","other","mine","yours","money","there","buyer","good","sign"]
def mRing:MS:=(mSeq (mAsg (mCompO 1 [] (miSeq (mVar 2)) (mgN 0) mYes (mCB lstO (mCons (mVar 0) mNil))) (mgN 3))
 (mSeq (mPar 4 5 (mCons (mCall fTake noX (mCons (mVar 0) (mCons (mCB lenF (mCons (mVar 3) mNil)) mNil))) (mCons (mCall fTake noX (mCons (mVar 0) (mCons (mCB lenF (mCons (mVar 3) mNil)) mNil))) mNil)))
 (mSeq (mPar 6 7 (mCons (mCall fTake noX (mCons (mVar 0) (mCons (mCB lenF (mCons (mVar 1) mNil)) mNil))) (mCons (mCall fTake noX (mCons (mVar 0) (mCons (mCB lenF (mCons (mVar 1) mNil)) mNil))) mNil)))
 (mSeq (mAsg (mCall (f2 qTi) noX (mCons (mOp ixF (mVar 1) (mVar 6)) (mCons (mOp ixF (mOp ixF (mVar 3) (mVar 4)) (mVar 6)) mNil))) (mgN 8))
 (mSeq (mAsg (mCall (f2 qTi) noX (mCons (mOp ixF (mVar 1) (mVar 7)) (mCons (mOp ixF (mOp ixF (mVar 3) (mVar 5)) (mVar 7)) mNil))) (mgN 9))
 (mSeq (mAsg (mOp ixF (mLst (mCons (mVar 8) (mCons (mVar 9) mNil))) (mCB intF (mCons (mCall fLess noX (mCons (mVar 9) (mCons (mVar 8) mNil))) mNil))) (mgN 8))
 (mSeq (mIfS (mAndT (mTst (mOp (eqF true) (mVar 4) (mVar 5))) (mTst (mOp (eqF true) (mVar 6) (mVar 7)))) (mFor (miSeq (mLst (mCons (mTup (mCons (mVar 4) (mCons (mVar 6) (mCons (mNeg (mC (.int 1))) mNil)))) (mCons (mTup (mCons (mVar 4) (mCons (mVar 7) (mCons (mC (.int 1)) mNil)))) (mCons (mTup (mCons (mVar 5) (mCons (mVar 7) (mCons (mNeg (mC (.int 1))) mNil)))) (mCons (mTup (mCons (mVar 5) (mCons (mVar 6) (mCons (mC (.int 1)) mNil)))) mNil)))))) (mgT 3 (mgCons (mgN 10) (mgCons (mgN 11) (mgCons (mgN 12) mgNil)))) (mAsg (mCall (f2 qPl) noX (mCons (mOp ixF (mOp ixF (mVar 3) (mVar 10)) (mVar 11)) (mCons (mCall (f2 qTi) noX (mCons (mTup (mCons (mVar 12) (mCons (mC (.int 1)) mNil))) (mCons (mCall fDiv noX (mCons (mVar 8) (mCons (mOp ixF (mVar 1) (mVar 11)) mNil))) mNil))) mNil))) (mgS (mOp ixF (mVar 3) (mVar 10)) (mVar 11)))) mNext)
 (mFrz2 3 (mRet (mCB tupF (mCons (mComp 1 [] (miSeq (mVar 3)) (mgN 0) mYes (mCB tupF (mCons (mVar 0) mNil))) mNil)))))))))))
def fRing:FM:=fun O xs P _=>∃ (j g:Nat) (qs:List Rat) (D:List (List Rat)),xs=[.bag j,.im (.tuple (qs.map qD)),.im (matD D)]∧qs.length=g∧(∀ z ∈ qs,0 < z∧Rb 4 z)∧(∀ r ∈ D,r.length=g)∧1 ≤ g∧g ≤ 6∧1 ≤ D.length∧D.length ≤ 6∧(∀ r ∈ D,∀ z ∈ r,Rb 6 z)∧∀ D':List (List Rat),D'.length=D.length→(∀ r ∈ D',r.length=g)→(∀ r ∈ D',∀ z ∈ r,Rb 29 z)→∀ O',Grew O O'→P (.im (matD D')) O'
theorem pick2q {m t:Rat} (c:Bool):atI [qD m,qD t] (if c=true then 1 else 0)=some (qD (if c=true then t else m)):=by cases c <;> rfl
theorem rd_ring:∀ O xs Pq QX,fRing O xs Pq QX→mRing { nx:=fun _ O'=>Pq (.im .none) O',rt:=Pq } (startS NRi xs) O:=by
 intro O xs Pq QX h
 obtain ⟨bj,g,qs,D,rfl,hql,hq,hr,g1,g6,n1,n6,hb,h⟩:=h
 have hrow:∀ i,i < D.length→(D.getD i []).length=g:=fun i hi=>hr _ (by rw [jc2 (Zc hi)]; exact Zn hi)
 have hqj:∀ j,j < g→0 < qs.getD j 0∧Rb 4 (qs.getD j 0):=fun j hj=>hq _ (by rw [jc2 (Zc (show j < qs.length by omega))]; exact Zn _)
 have hqa:∀ j,j < g→atI (qs.map qD) (j:Int)=some (qD (qs.getD j 0)):=fun j hj=>atI_get (jg0 (by omega))
 have bD:∀ i j,i < D.length→Rb 6 (eQ D i j):=fun i j hi=>jh8 (by decide) (hb _ (by rw [jc2 (Zc hi)]; exact Zn hi)) j
 unfold mRing
 conv=>whnf
 refine rows_of_mat (by omega) (by decide) ?_
 refine ⟨_,ji9 _ _ _ _,⟨by rw [jf8]; omega,by rw [jf8]; omega⟩,fun a a0 a1=>⟨_,ji9 _ _ _ _,⟨by rw [jf8]; omega,by rw [jf8]; omega⟩,fun o o0 o1=>?_⟩⟩
 rw [jf8] at a1 o1
 obtain ⟨a,rfl⟩:∃ a':Nat,a=(a':Int):=⟨a.toNat,by omega⟩
 obtain ⟨o,rfl⟩:∃ a':Nat,o=(a':Int):=⟨o.toNat,by omega⟩
 refine ⟨⟨by rw [Zb]; omega,by rw [Zb]; omega⟩,fun m m0 m1=>⟨⟨by rw [Zb]; omega,by rw [Zb]; omega⟩,fun y y0 y1=>?_⟩⟩
 rw [Zb] at m1 y1
 obtain ⟨m,rfl⟩:∃ a':Nat,m=(a':Int):=⟨m.toNat,by omega⟩
 obtain ⟨y,rfl⟩:∃ a':Nat,y=(a':Int):=⟨y.toNat,by omega⟩
 have ha:a < D.length:=by omega
 have ho:o < D.length:=by omega
 have hm:m < g:=by omega
 have hy:y < g:=by omega
 have t1:=tab_get (O:=O) (D:=D) (g:=g) (i:=a) (j:=m) ha (by rw [hrow a ha]; omega)
 have t2:=tab_get (O:=O) (D:=D) (g:=g) (i:=o) (j:=y) ho (by rw [hrow o ho]; omega)
 refine ⟨_,hqa m hm,_,_,t1.1,t1.2.1,_,_,t1.2.2.1,t1.2.2.2,_,_,rfl,⟨(hqj m hm).2.mono (by decide),(bD a m ha).mono (by decide)⟩,?_⟩
 refine ⟨_,hqa y hy,_,_,t2.1,t2.2.1,_,_,t2.2.2.1,t2.2.2.2,_,_,rfl,⟨(hqj y hy).2.mono (by decide),(bD o y ho).mono (by decide)⟩,?_⟩
 have bm:Rb 10 (qTi (qs.getD m 0) (eQ D a m)):=rb_mul (hqj m hm).2 (bD a m ha)
 have bt:Rb 10 (qTi (qs.getD y 0) (eQ D o y)):=rb_mul (hqj y hy).2 (bD o y ho)
 generalize qTi (qs.getD m 0) (eQ D a m)=mo at bm ⊢
 generalize qTi (qs.getD y 0) (eQ D o y)=th at bt ⊢
 refine ⟨len2,_,_,rfl,⟨bt.mono (by decide),bm.mono (by decide)⟩,_,pick2q _,?_⟩
 have bx:Rb 10 (if decide (th < mo)=true then th else mo):=by split <;> assumption
 generalize (if decide (th < mo)=true then th else mo)=mon at bx ⊢
 have rest:∀ (D':List (List Rat)) (y10 y11 y12:Option AV),D'.length=D.length→(∀ r ∈ D',r.length=g)→(∀ r ∈ D',∀ y ∈ r,Rb 29 y)→Go (mFrz2 3 (mRet (mCB tupF (mCons (mComp 1 [] (miSeq (mVar 3)) (mgN 0) mYes (mCB tupF (mCons (mVar 0) mNil))) mNil)))) { nx:=fun _ O'=>Pq (.im .none) O',rt:=Pq } [some (.bag bj),some (.im (.tuple (qs.map qD))),some (.im (matD D)),some (.own (O.length + D'.length)),some (.im (.int a)),some (.im (.int o)),some (.im (.int m)),some (.im (.int y)),some (.im (qD mon)),some (.im (qD th)),y10,y11,y12] (O ++ (D'.map cQ ++ [some (owns O.length D'.length)])):=fun D' y10 y11 y12 h1 h2 h3=>by
  refine ⟨tab_frz rfl fun O' hG=>?_⟩
  conv=>whnf
  exact mat_of_rows (by omega) (by decide) (h D' h1 h2 h3 O' hG)
 have rest0:=rest D none none none rfl hr (fun r hr y hy=>(hb r hr y hy).mono (by decide))
 refine ⟨dI,⟨fun hao=>⟨dI,⟨fun hmy=>?_,fun _=>rest0⟩⟩,fun _=>⟨fun z=>(by cases z),fun _=>rest0⟩⟩⟩
 have hao:a ≠ o:=fun z=>by subst z; exact absurd hao (by simp [eqq])
 have hmy:m ≠ y:=fun z=>by subst z; exact absurd hmy (by simp [eqq])
 refine ⟨len3,len3,len3,len3,by show 4 ≤ sizeLine; decide,?_⟩
 refine ⟨fun t sl O'=>∃ (D':List (List Rat)) (y10 y11 y12:Option AV),sl=[some (.bag bj),some (.im (.tuple (qs.map qD))),some (.im (matD D)),some (.own (O.length + D'.length)),some (.im (.int a)),some (.im (.int o)),some (.im (.int m)),some (.im (.int y)),some (.im (qD mon)),some (.im (qD th)),y10,y11,y12]∧O'=O ++ (D'.map cQ ++ [some (owns O.length D'.length)])∧D'.length=D.length∧(∀ r ∈ D',r.length=g)∧(∀ r ∈ D',∀ z ∈ r,Rb 22 z)∧(t ≤ 0→Rb 6 (eQ D' a m))∧(t ≤ 1→Rb 6 (eQ D' a y))∧(t ≤ 2→Rb 6 (eQ D' o y))∧(t ≤ 3→Rb 6 (eQ D' o m)),
  ⟨D,none,none,none,rfl,rfl,rfl,hr,fun r hr z hz=>(hb r hr z hz).mono (by decide),fun _=>bD a m ha,fun _=>bD a y ha,fun _=>bD o y ho,fun _=>bD o m ho⟩,?_,?_⟩
 ·have step:∀ (D':List (List Rat)) (i j:Nat) (sg:Int) (Z:Slt→Sto→Prop) (y10 y11 y12:Option AV),(sg=1 ∨ sg=-1)→i < D.length→j < g→D'.length=D.length→(∀ r ∈ D',r.length=g)→(∀ r ∈ D',∀ z ∈ r,Rb 22 z)→Rb 6 (eQ D' i j) →
    (∀ D'':List (List Rat),D''.length=D.length→(∀ r ∈ D'',r.length=g)→(∀ r ∈ D'',∀ z ∈ r,Rb 22 z)→(∀ i' j',¬ (i'=i∧j'=j)→eQ D'' i' j'=eQ D' i' j')→Z [some (.bag bj),some (.im (.tuple (qs.map qD))),some (.im (matD D)),some (.own (O.length + D''.length)),some (.im (.int a)),some (.im (.int o)),some (.im (.int m)),some (.im (.int y)),some (.im (qD mon)),some (.im (qD th)),some (.im (.int i)),some (.im (.int j)),some (.im (.int sg))] (O ++ (D''.map cQ ++ [some (owns O.length D''.length)]))) →
    mgT 3 (mgCons (mgN 10) (mgCons (mgN 11) (mgCons (mgN 12) mgNil))) (.im (.tuple [.int i,.int j,.int sg])) [some (.bag bj),some (.im (.tuple (qs.map qD))),some (.im (matD D)),some (.own (O.length + D'.length)),some (.im (.int a)),some (.im (.int o)),some (.im (.int m)),some (.im (.int y)),some (.im (qD mon)),some (.im (qD th)),y10,y11,y12] (O ++ (D'.map cQ ++ [some (owns O.length D'.length)])) fun sl2 O2=>Go (mAsg (mCall (f2 qPl) noX (mCons (mOp ixF (mOp ixF (mVar 3) (mVar 10)) (mVar 11)) (mCons (mCall (f2 qTi) noX (mCons (mTup (mCons (mVar 12) (mCons (mC (.int 1)) mNil))) (mCons (mCall fDiv noX (mCons (mVar 8) (mCons (mOp ixF (mVar 1) (mVar 11)) mNil))) mNil))) mNil))) (mgS (mOp ixF (mVar 3) (mVar 10)) (mVar 11))) { nx:=Z,ct:=Z,bk:=fun sl' O'=>Go (mFrz2 3 (mRet (mCB tupF (mCons (mComp 1 [] (miSeq (mVar 3)) (mgN 0) mYes (mCB tupF (mCons (mVar 0) mNil))) mNil)))) { nx:=fun _ O'=>Pq (.im .none) O',rt:=Pq } sl' O',rt:=Pq } sl2 O2:=by
   intro D' i j sg Z y10 y11 y12 hsg hi hj h1 h2 h3 h4 hZ
   have hiD:i < D'.length:=by omega
   have hrl:(D'.getD i []).length=g:=h2 _ (by rw [jc2 (Zc hiD)]; exact Zn _)
   have t:=tab_get (O:=O) (D:=D') (g:=g) (i:=i) (j:=j) hiD (by omega)
   have hs:PyData.tuple [.int sg,.int 1]=qD (sg:Rat):=by rcases hsg with rfl | rfl <;> rfl
   have bsg:Rb 1 (sg:Rat):=by rcases hsg with rfl | rfl <;> (constructor <;> (unfold Bd; decide))
   have bq:Rb 14 (mon / qs.getD j 0):=rb_divq bx (hqj j hj).2 (by have:=(hqj j hj).1; intro z; rw [z] at this; exact absurd this (by decide))
   have bpr:Rb 15 (qTi (sg:Rat) (mon / qs.getD j 0)):=(rb_mul bsg bq).mono (by decide)
   refine ⟨rfl,_,_,t.1,t.2.1,_,_,t.2.2.1,t.2.2.2,len2,_,hqa j hj,_,_,rfl,⟨bx.mono (by decide),(hqj j hj).2.mono (by decide),(hqj j hj).1⟩,(sg:Rat),mon / qs.getD j 0,by rw [← hs],⟨bsg.mono (by decide),bq.mono (by decide)⟩,_,_,rfl,⟨h4.mono (by decide),bpr.mono (by decide)⟩,_,_,t.1,t.2.1,_,j,t.2.2.1,ix_ok (by rw [Zb,hrl]; exact hj),?_⟩
   rw [tab_put hiD]
   have e2:(putQ D' i j (qPl (eQ D' i j) (qTi (sg:Rat) (mon / qs.getD j 0)))).length=D'.length:=putQ_len
   have:=hZ (putQ D' i j (qPl (eQ D' i j) (qTi (sg:Rat) (mon / qs.getD j 0)))) (by rw [e2,h1]) (putQ_lens hiD h2) (putQ_mem h3 ((rb_add h4 bpr).mono (by decide))) (fun i' j' hn=>by rw [eQ_put hiD (by omega),if_neg hn])
   rw [e2] at this ⊢
   exact this
  rintro t x sl O' hx ⟨D',y10,y11,y12,rfl,rfl,h1,h2,h3,k0,k1,k2,k3⟩
  match t,hx with
  | 0,hx =>
   cases Option.some.inj hx
   exact step D' a m (-1) _ y10 y11 y12 (Or.inr rfl) ha hm h1 h2 h3 (k0 (by omega)) fun D'' l1 l2 l3 e=>⟨D'',_,_,_,rfl,rfl,l1,l2,l3,fun z=>absurd z (by omega),fun _=>by rw [e a y (fun z=>hmy z.2.symm)]; exact k1 (by omega),fun _=>by rw [e o y (fun z=>hao z.1.symm)]; exact k2 (by omega),fun _=>by rw [e o m (fun z=>hao z.1.symm)]; exact k3 (by omega)⟩
  | 1,hx =>
   cases Option.some.inj hx
   exact step D' a y 1 _ y10 y11 y12 (Or.inl rfl) ha hy h1 h2 h3 (k1 (by omega)) fun D'' l1 l2 l3 e=>⟨D'',_,_,_,rfl,rfl,l1,l2,l3,fun z=>absurd z (by omega),fun z=>absurd z (by omega),fun _=>by rw [e o y (fun z=>hao z.1.symm)]; exact k2 (by omega),fun _=>by rw [e o m (fun z=>hao z.1.symm)]; exact k3 (by omega)⟩
  | 2,hx =>
   cases Option.some.inj hx
   exact step D' o y (-1) _ y10 y11 y12 (Or.inr rfl) ho hy h1 h2 h3 (k2 (by omega)) fun D'' l1 l2 l3 e=>⟨D'',_,_,_,rfl,rfl,l1,l2,l3,fun z=>absurd z (by omega),fun z=>absurd z (by omega),fun z=>absurd z (by omega),fun _=>by rw [e o m (fun z=>hmy z.2)]; exact k3 (by omega)⟩
  | 3,hx =>
   cases Option.some.inj hx
   exact step D' o m 1 _ y10 y11 y12 (Or.inl rfl) ho hm h1 h2 h3 (k3 (by omega)) fun D'' l1 l2 l3 e=>⟨D'',_,_,_,rfl,rfl,l1,l2,l3,fun z=>absurd z (by omega),fun z=>absurd z (by omega),fun z=>absurd z (by omega),fun z=>absurd z (by omega)⟩
  | n + 4,hx=>simp at hx
 ·rintro sl O' ⟨D',y10,y11,y12,rfl,rfl,h1,h2,h3,_⟩
  exact rest D' y10 y11 y12 h1 h2 (fun r hr y hy=>(h3 r hr y hy).mono (by decide))
abbrev NFr:List Str:=["bag","market","prices","dealing","wide","lucky","got","rows","buyer"]
def mFree:MS:=(mSeq (mAsg (mTup (mCons (mOp addF (mOp ixF (mVar 1) (mC (.int 0))) (mTup (mCons (mOp addF (mC (.int 1)) (mCall fTake noX (mCons (mVar 0) (mCons (mC (.int 9)) mNil)))) mNil))) (mCons (mOp ixF (mVar 1) (mC (.int 1))) (mCons (mCB tupF (mCons (mComp 1 [] (miSeq (mOp ixF (mVar 1) (mC (.int 2)))) (mgN 0) mYes (mOp addF (mVar 0) (mTup (mCons (mC (.int 0)) mNil)))) mNil)) mNil)))) (mgN 4))
 (mSeq (mAsg (mCall fTake noX (mCons (mVar 0) (mCons (mCB lenF (mCons (mVar 3) mNil)) mNil))) (mgN 5))
 (mSeq (mFor (miSeq (mLst (mCons (mTup (mCons (mC (.int 0)) (mCons (mC (.int 1)) mNil))) (mCons (mTup (mCons (mC (.int 1)) (mCons (mOp addF (mC (.int 1)) (mCall fTake noX (mCons (mVar 0) (mCons (mC (.int 3)) mNil)))) mNil))) mNil)))) (mgN 6) (mSeq (mAsg (mOwn mNil) (mgN 7))
 (mSeq (mFor (miR1 (mCons (mCB lenF (mCons (mVar 3) mNil)) mNil)) (mgN 8) (mDrop (mApp (mVar 7) (mCons (mOp addF (mOp ixF (mVar 3) (mVar 8)) (mTup (mCons (mOp ixF (mLst (mCons (mTup (mCons (mC (.int 0)) (mCons (mC (.int 1)) mNil))) (mCons (mVar 6) mNil))) (mCB intF (mCons (mOp (eqF false) (mVar 8) (mVar 5)) mNil))) mNil))) mNil))))
 (mIfS (mNot (mTst (mCall fAllR noX (mCons (mVar 4) (mCons (mOp addF (mVar 2) (mTup (mCons (mTup (mCons (mC (.int 0)) (mCons (mC (.int 1)) mNil))) mNil))) (mCons (mCB tupF (mCons (mVar 7) mNil)) mNil)))))) (mRet (mC (.bool false))) mNext))))
 (mRet (mC (.bool true))))))
theorem pick2g {m:Rat} (c:Bool):atI [PyData.tuple [.int 0,.int 1],qD m] (if c=true then 1 else 0)=some (qD (if c=true then m else 0)):=by cases c <;> rfl
theorem got_is {r:Int} (h0:0 ≤ r) (h1:r < 3):PyData.tuple [.int 1,.int (1 + r)]=qD (gotZ r)∧Rb 4 (gotZ r):=by
 obtain ⟨e,b⟩:=gotZ_o h0 h1
 injection e with e
 injection e with e1 e2
 injection e2 with e2 _
 injection e1 with e1
 injection e2 with e2
 exact ⟨by show _=PyData.tuple [.int (gotZ r).num,.int ((gotZ r).den:Int)]; rw [e1,e2],b⟩
theorem wide_mk {A:List Int} {Pu:List Rat} {W:List (List Int)} {qs:List Rat} {x:Int} (p:Priced A Pu W qs) (h5:A.length ≤ 5) (hx:1 ≤ x∧x ≤ 60):Priced (A ++ [x]) Pu (W.map fun r=>r ++ [0]) (qs ++ [0]):=by
 have hm:=mk_wide (x:=x) p.ok (by rw [Zb]; exact h5) hx
 obtain ⟨_,_,_,_,_,_,_,h8⟩:=jh4 p.ok
 have hl:∀ r ∈ W,r.length=qs.length:=fun r hr=>by
  have:=Zt.mp h8 _ (Zk.mpr ⟨r,hr,rfl⟩)
  obtain ⟨rs,e,h1,_⟩:=rowShape this
  injection e with e
  rw [← e,Zb,Zb] at h1
  rw [h1,p.len]
 refine ⟨?_,by rw [Zj,Zj,p.len]; rfl,prs_wide hl p.prs,fun z hz=>?_⟩
 ·rw [show mkD (A ++ [x]) Pu (W.map fun r=>r ++ [0])=.tuple [.tuple (A.map .int ++ [.int x]),.tuple (Pu.map qD),.tuple ((W.map rowD).map add0)] by
   unfold mkD
   rw [Zh,Zs,Zs]
   have:(rowD ∘ fun r=>r ++ [0])=(add0 ∘ rowD):=funext fun r=>by show PyData.tuple ((r ++ [0]).map .int)=PyData.tuple (r.map .int ++ [.int 0]); rw [Zh]; rfl
   rw [this]; rfl]
  exact hm
 ·rcases Zq.mp hz with z' | z'
  ·exact p.bd z z'
  ·rw [Yc.mp z']; exact rb_zero.mono (by decide)
theorem small_q29 {q:Rat} (h:Rb 29 q):small (qD q)=true:=by
 obtain ⟨h1,h2⟩:=h
 unfold Bd at h1 h2
 have sm:∀ z:Int,z.natAbs < 2 ^ 29→small (.int z)=true:=fun z hz=>by
  show (decide (-1073741824 < z) && decide (z < 1073741824))=true
  rw [decide_eq_true (show -1073741824 < z by omega),decide_eq_true (show z < 1073741824 by omega)]; rfl
 refine small_t fun d hd=>?_
 simp only [Zf,List.not_mem_nil,or_false] at hd
 rcases hd with rfl | rfl
 ·exact sm _ h1
 ·exact sm _ h2
theorem small_m29 {D:List (List Rat)} (h:∀ r ∈ D,∀ z ∈ r,Rb 29 z):small (matD D)=true:=by
 refine small_t fun d hd=>?_
 obtain ⟨r,hr,rfl⟩:=Zk.mp hd
 refine small_t fun e he=>?_
 obtain ⟨z,hz,rfl⟩:=Zk.mp he
 exact small_q29 (h r hr z hz)
theorem rd_free:∀ O xs Pq QX,fFreeR O xs Pq QX→mFree { nx:=fun _ O'=>Pq (.im .none) O',rt:=Pq } (startS NFr xs) O:=by
 intro O xs Pq QX h
 obtain ⟨bj,A,Pu,W,qs,D,rfl,pr,h5,hD1,n6,hD2,hD3,h⟩:=h
 have hA:A.length ≤ 5:=h5
 refine ⟨_,rfl,⟨by decide,by decide⟩,fun r r0 r1=>⟨len1,by rw [Zb,sz]; show _ + 1 ≤ _; omega,_,rfl,_,rfl,?_⟩⟩
 conv=>whnf
 have hWn:W.length ≤ 6:=by
  obtain ⟨_,_,_,_,h5',_,h7,_⟩:=jh4 pr.ok
  rw [Zb] at h5' h7
  rw [Zb] at h7; omega
 refine ji7 (fun i=>rowD (W.getD i [] ++ [0])) (by simp; omega) (fun i x Z hx hZ=>?_) ?_
 ·have hi:i < W.length:=by have:=(Ze.mp hx).1; simpa using this
  rw [Zg,jg0 (d:=[]) hi] at hx
  have ex:=(Option.some.inj hx).symm
  subst ex
  have hrl:(W.getD i []).length=A.length:=by
   obtain ⟨_,_,_,_,_,_,_,h8⟩:=jh4 pr.ok
   have:=Zt.mp h8 _ (Zk.mpr ⟨W.getD i [],by rw [jc2 (Zc hi)]; exact Zn hi,rfl⟩)
   obtain ⟨rs,e,h1,_⟩:=rowShape this
   injection e with e
   rw [← e,Zb,Zb] at h1; exact h1
  refine ⟨len1,by rw [Zb,sz]; show _ + 1 ≤ _; omega,?_⟩
  have e:PyData.tuple ((W.getD i []).map .int ++ [.int 0])=rowD (W.getD i [] ++ [0]):=by unfold rowD; rw [Zh]; rfl
  rw [e]; exact hZ
 rw [Zb,Zb,range_getD (fun r=>rowD (r ++ [0])) W []]
 have hw:=wide_mk (x:=1 + r) pr h5 (by omega)
 have hwd:PyData.tuple [.tuple (A.map .int ++ [.int (1 + r)]),.tuple (Pu.map qD),.tuple (W.map fun r=>rowD (r ++ [0]))]=mkD (A ++ [1 + r]) Pu (W.map fun r=>r ++ [0]):=by
  unfold mkD; rw [Zh,Zs]; rfl
 refine ⟨by show 3 ≤ sizeLine; decide,?_⟩
 show Go _ _ [some (.bag bj),some (.im (mkD A Pu W)),some (.im (.tuple (qs.map qD))),some (.im (matD D)),some (.im (.tuple [.tuple (A.map .int ++ [.int (1 + r)]),.tuple (Pu.map qD),.tuple (W.map fun r=>rowD (r ++ [0]))])),none,none,none,none] O
 rw [hwd]
 have hn1:1 ≤ D.length:=by obtain ⟨_,_,_,h4,_⟩:=jh4 pr.ok; rw [Zb] at h4; omega
 refine ⟨⟨by rw [Zb]; omega,by rw [Zb]; omega⟩,fun lu _ _=>?_⟩
 refine ⟨len2,⟨by decide,by decide⟩,fun s s0 s1=>⟨len2,len2,?_⟩⟩
 rw [(got_is s0 s1).1]
 have hgs:=(got_is s0 s1).2
 refine ⟨fun t sl O'=>Grew O O'∧∃ y6 y7 y8,sl=[some (.bag bj),some (.im (mkD A Pu W)),some (.im (.tuple (qs.map qD))),some (.im (matD D)),some (.im (mkD (A ++ [1 + r]) Pu (W.map fun r=>r ++ [0]))),some (.im (.int lu)),y6,y7,y8],⟨Grew.refl O,_,_,_,rfl⟩,?_,?_⟩
 ·rintro t x sl O' hx ⟨hG,y6,y7,y8,rfl⟩
  obtain ⟨z,rfl,bz⟩:∃ z,x=.im (qD z)∧Rb 4 z:=by
   match t,hx with
   | 0,hx=>exact ⟨0,(Option.some.inj hx).symm,rb_zero.mono (by decide)⟩
   | 1,hx=>exact ⟨_,(Option.some.inj hx).symm,hgs⟩
   | n + 2,hx=>simp at hx
  refine ⟨by decide,?_⟩
  show Go _ _ [some (.bag bj),some (.im (mkD A Pu W)),some (.im (.tuple (qs.map qD))),some (.im (matD D)),some (.im (mkD (A ++ [1 + r]) Pu (W.map fun r=>r ++ [0]))),some (.im (.int lu)),some (.im (qD z)),some (.own O'.length),y8] (O' ++ [some []])
  refine ⟨⟨by rw [Zb]; omega,by rw [Zb]; omega⟩,fun m sl O2=>∃ (D':List (List Rat)) (y8:Option AV),sl=[some (.bag bj),some (.im (mkD A Pu W)),some (.im (.tuple (qs.map qD))),some (.im (matD D)),some (.im (mkD (A ++ [1 + r]) Pu (W.map fun r=>r ++ [0]))),some (.im (.int lu)),some (.im (qD z)),some (.own O'.length),y8]∧O2=O' ++ [some ((D'.map fun qs=>PyData.tuple (qs.map qD)).map AV.im)]∧D'.length=m∧∀ r ∈ D',∀ y ∈ r,Rb 29 y,⟨[],_,rfl,rfl,rfl,fun r hr=>by cases hr⟩,?_,?_⟩
  ·rintro m x sl O2 hx ⟨D',y8,rfl,rfl,hm,hb'⟩
   obtain ⟨hi,rfl⟩:=jg4 hx
   rw [Zb,Zp] at hi
   have hrm:D.getD m [] ∈ D:=by rw [jc2 (Zc hi)]; exact Zn hi
   refine ⟨⟨_,at_end _ _⟩,_,atI_get (jg0 (f:=fun qs:List Rat=>PyData.tuple (qs.map qD)) (d:=[]) hi),len2,len2,dI,_,pick2g _,len1,by rw [Zb,hD2 _ hrm,sz]; show _ + 1 ≤ _; omega,_,at_end _ _,by rw [Zb,Zb,sz]; omega,D' ++ [D.getD m [] ++ [if eqq (.int m) (.int lu)=true then z else 0]],_,rfl,?_,by simp [hm],fun r hr y hy=>?_⟩
   ·rw [set_end,Zh,Zh]
    congr 3
    congr 1
    show [AV.im (.tuple ((D.getD m []).map qD ++ [qD _]))]=[AV.im (.tuple ((D.getD m [] ++ [_]).map qD))]
    rw [Zh]; rfl
   ·rcases Zq.mp hr with q | q
    ·exact hb' r q y hy
    ·rw [Yc.mp q] at hy
     rcases Zq.mp hy with q' | q'
     ·exact hD3 _ hrm y q'
     ·rw [Yc.mp q']; split
      ·exact bz.mono (by decide)
      ·exact rb_zero.mono (by decide)
  ·rintro sl O2 ⟨D',y8,rfl,rfl,hm,hb'⟩
   refine ⟨len2,len1,by rw [Zb,pr.len,sz]; show _ + 1 ≤ _; omega,_,at_end _ _,A ++ [1 + r],Pu,W.map (fun r=>r ++ [0]),qs ++ [0],matD D',?_,hw,small_m29 hb',fun z=>(by cases z),fun _=>⟨hG.app _,_,_,_,rfl⟩⟩
   rw [Zh]; rfl
 ·rintro sl O' ⟨hG,y6,y7,y8,rfl⟩
  exact ⟨h O' hG⟩
end MI
namespace K15
open PySem L2 KG EX KM MI
section
variable {P:Program} {w:World} {K:PySem.W.Frag} {mg:Str→Option Value} {base:Heap}
theorem lk_div:LkS K spDiv fDiv:=fun w O H vs xs P PX Q E r a hf q x=>by
 obtain ⟨a1,b1,rfl,h0,hf⟩:=hf
 obtain ⟨v,v2,rfl,h1,h3⟩:=avs2 a
 obtain ⟨p1,rfl,g1⟩:=g_q h1
 obtain ⟨p2,rfl,g2⟩:=g_q h3
 refine ⟨p1,p2,a1,b1,rfl,g1,g2,h0.1,h0.2.1,h0.2.2,fun p hp=>?_⟩
 obtain ⟨r1,e1,t1⟩:=new_q r hp
 exact q _ _ O w _ hf e1 r1 t1
theorem lk_allR:LkS K spAllR fAllR:=fun w O H vs xs P PX Q E r a hf q x=>by
 obtain ⟨A,Pu,W,qs,d,rfl,pr,hs,hf⟩:=hf
 obtain ⟨v1,v2,v3,rfl,a1,a2,a3⟩:=avs3 a
 obtain ⟨b,hb⟩:=TrG.far (TrG.stay g_le a3)
 obtain ⟨p,pa,pp,pw,xa,xp,xw,rfl,mk,la,lp⟩:=mkAt b a1 pr.ok
 obtain ⟨qp,yp,rfl,pa'⟩:=prAt b a2 pr.bd
 refine ⟨b,p,pa,pp,pw,qp,xa,xp,xw,yp,_,_,_,qs,v3,d,rfl,mk,pa',by rw [pr.len,la],by rw [rowsOf_row]; exact pr.prs,hb b (Zd _),hs,fun H' s=>?_⟩
 obtain ⟨r1,e1,_⟩:=r.stay s
 exact q _ _ O w H' hf e1 r1 (.bl _)
theorem scMo:FnScope NMo ["bag","dealing"] (ja3 (top 66)):=L2.fsc
theorem ok_mo {f fT fF fM fS fA:Addr} {fd dT dF dM dS dA:FuncData} (F:Fun K "_law_moved" "_law_moved" (top 66) f fd) (N:Nm mg) (T:Cal K mg P w base "_law_take" 1 ["bag","many"] spTake fT dT) (Lf:Cal K mg P w base "_law_frac" 1 ["top","bottom"] spLf fF dF) (Mu:Cal K mg P w base "_law_mul" 2 ["one","other"] (sp2 qTi) fM dM) (Sb:Cal K mg P w base "_law_sub" 2 ["one","other"] (sp2 qMi) fS dS) (Ad:Cal K mg P w base "_law_add" 2 ["one","other"] (sp2 qPl) fA dA):FnOk P w K mg base CX0 3 f fd ["bag","dealing"] (spM K fMoved) :=
 okM F scMo (fun O xs P PX h=>by obtain ⟨_,_,_,rfl,_⟩:=h; rfl) (fun cdv A outer s H E QX hr=>⟨mMoved,(jb6 (ms_setCO (i:=2) scMo.nd rfl rfl (own:=["row"]) (cap:=[]) (ix:=[]) (BlkOk.of (ja3 (top 66)).names NMo) rfl (jj5 (ja2 (pv 1))) (jc9 (by decide))
 (fun C fp s H=>⟨(jc7 (jb0 (i:=0) (show List.Nodup (["row"]:List Str) by decide +kernel) rfl (Or.inl rfl))),jh3,(jd0 cLst0 lk_lstO (by rfl) N.list boot_list (ja0 (ja2 (pv 0)) ja4))⟩))
 (jb6 (je4 (i:=3) scMo.nd rfl (Or.inl rfl) (jb1 T.ok jd1 (hr.mono (by decide)) rfl T.mg T.kp T.bd (ja0 (ja2 (pv 0)) (ja0 (jf2 cLen0 lk_len (by rfl) N.len PySem.boot_len (ja0 (ja2 (pv 2)) ja4)) ja4))))
 (jb6 (je4 (i:=4) scMo.nd rfl (Or.inl rfl) (jb1 T.ok jd1 (hr.mono (by decide)) rfl T.mg T.kp T.bd (ja0 (ja2 (pv 0)) (ja0 (jf2 cLen0 lk_len (by rfl) N.len PySem.boot_len (ja0 (ja2 (pv 2)) ja4)) ja4))))
 (jb6 (je4 (i:=5) scMo.nd rfl (Or.inl rfl) (jb1 T.ok jd1 (hr.mono (by decide)) rfl T.mg T.kp T.bd (ja0 (ja2 (pv 0)) (ja0 (jf2 cLen0 lk_len (by rfl) N.len PySem.boot_len (ja0 (jd2 (ja2 (pv 2)) jb2) ja4)) ja4))))
 (jb6 (je4 (i:=6) scMo.nd rfl (Or.inl rfl) (jb1 Mu.ok lk_2 (hr.mono (by decide)) rfl Mu.mg Mu.kp Mu.bd (ja0 (jd2 (jd2 (ja2 (pv 2)) (ja2 (pv 3))) (ja2 (pv 5))) (ja0 (jd2 (jg3 (ja0 (je1 (ja0 jb2 (ja0 jb2 ja4))) (ja0 (je1 (ja0 jb2 (ja0 jb2 ja4))) (ja0 (jb1 Lf.ok lk_lf (hr.mono (by decide)) rfl Lf.mg Lf.kp Lf.bd (ja0 jb2 (ja0 (jd8 jb2 (jb1 T.ok jd1 (hr.mono (by decide)) rfl T.mg T.kp T.bd (ja0 (ja2 (pv 0)) (ja0 jb2 ja4)))) ja4))) ja4)))) (jb1 T.ok jd1 (hr.mono (by decide)) rfl T.mg T.kp T.bd (ja0 (ja2 (pv 0)) (ja0 jb2 ja4)))) ja4))))
 (jb6 (ms_asg (jb1 Sb.ok lk_2 (hr.mono (by decide)) rfl Sb.mg Sb.kp Sb.bd (ja0 (jd2 (jd2 (ja2 (pv 2)) (ja2 (pv 3))) (ja2 (pv 5))) (ja0 (ja2 (pv 6)) ja4))) (mg_sub (jd2 (ja2 (pv 2)) (ja2 (pv 3))) (ja2 (pv 5))))
 (jb6 (ms_if (mt_cmp op_gt lk_gt (jb1 T.ok jd1 (hr.mono (by decide)) rfl T.mg T.kp T.bd (ja0 (ja2 (pv 0)) (ja0 jb2 ja4))) jb2 (nomark _)) (je9 (ms_asg (jb1 Ad.ok lk_2 (hr.mono (by decide)) rfl Ad.mg Ad.kp Ad.bd (ja0 (jd2 (jd2 (ja2 (pv 2)) (ja2 (pv 4))) (ja2 (pv 5))) (ja0 (ja2 (pv 6)) ja4))) (mg_sub (jd2 (ja2 (pv 2)) (ja2 (pv 4))) (ja2 (pv 5))))) ms_nil)
 (ms_frz2 2 (je9 (ji1 (jd0 cTup0 jj6 (by rfl) N.tuple jb8 (ja0 (jj4 (own:=["row"]) (cap:=[]) (ix:=[]) (BlkOk.of (ja3 (top 66)).names NMo) rfl (jj5 (ja2 (pv 2))) (jc9 (by decide))
 (fun C fp s H=>⟨(jc7 (jb0 (i:=0) (show List.Nodup (["row"]:List Str) by decide +kernel) rfl (Or.inl rfl))),jh3,(jd0 cTup0 jj6 (by rfl) N.tuple jb8 (ja0 (ja2 (pv 0)) ja4))⟩)) ja4)))))))))))),fun O xs Pq h=>rd_moved O xs Pq QX h⟩)
theorem scRi:FnScope NRi ["bag","prices","dealing"] (ja3 (top 67)):=L2.fsc
theorem ok_ri {f fT fM fD fL fA:Addr} {fd dT dM dD dL dA:FuncData} (F:Fun K "_law_ring" "_law_ring" (top 67) f fd) (N:Nm mg) (T:Cal K mg P w base "_law_take" 1 ["bag","many"] spTake fT dT) (Mu:Cal K mg P w base "_law_mul" 2 ["one","other"] (sp2 qTi) fM dM) (Dv:Cal K mg P w base "_law_div" 2 ["one","other"] spDiv fD dD) (Ll:Cal K mg P w base "_law_less" 1 ["one","other"] spLess fL dL) (Ad:Cal K mg P w base "_law_add" 2 ["one","other"] (sp2 qPl) fA dA):FnOk P w K mg base CX0 3 f fd ["bag","prices","dealing"] (spM K fRing) :=
 okM F scRi (fun O xs P PX h=>by obtain ⟨_,_,_,_,rfl,_⟩:=h; rfl) (fun cdv A outer s H E QX hr=>⟨mRing,(jb6 (ms_setCO (i:=3) scRi.nd rfl rfl (own:=["row"]) (cap:=[]) (ix:=[]) (BlkOk.of (ja3 (top 67)).names NRi) rfl (jj5 (ja2 (pv 2))) (jc9 (by decide))
 (fun C fp s H=>⟨(jc7 (jb0 (i:=0) (show List.Nodup (["row"]:List Str) by decide +kernel) rfl (Or.inl rfl))),jh3,(jd0 cLst0 lk_lstO (by rfl) N.list boot_list (ja0 (ja2 (pv 0)) ja4))⟩))
 (jb6 (ms_par (i:=4) (j:=5) rfl scRi.nd rfl rfl (by decide) rfl rfl (ja0 (jb1 T.ok jd1 (hr.mono (by decide)) rfl T.mg T.kp T.bd (ja0 (ja2 (pv 0)) (ja0 (jf2 cLen0 lk_len (by rfl) N.len PySem.boot_len (ja0 (ja2 (pv 3)) ja4)) ja4))) (ja0 (jb1 T.ok jd1 (hr.mono (by decide)) rfl T.mg T.kp T.bd (ja0 (ja2 (pv 0)) (ja0 (jf2 cLen0 lk_len (by rfl) N.len PySem.boot_len (ja0 (ja2 (pv 3)) ja4)) ja4))) ja4)) rfl)
 (jb6 (ms_par (i:=6) (j:=7) rfl scRi.nd rfl rfl (by decide) rfl rfl (ja0 (jb1 T.ok jd1 (hr.mono (by decide)) rfl T.mg T.kp T.bd (ja0 (ja2 (pv 0)) (ja0 (jf2 cLen0 lk_len (by rfl) N.len PySem.boot_len (ja0 (ja2 (pv 1)) ja4)) ja4))) (ja0 (jb1 T.ok jd1 (hr.mono (by decide)) rfl T.mg T.kp T.bd (ja0 (ja2 (pv 0)) (ja0 (jf2 cLen0 lk_len (by rfl) N.len PySem.boot_len (ja0 (ja2 (pv 1)) ja4)) ja4))) ja4)) rfl)
 (jb6 (je4 (i:=8) scRi.nd rfl (Or.inl rfl) (jb1 Mu.ok lk_2 (hr.mono (by decide)) rfl Mu.mg Mu.kp Mu.bd (ja0 (jd2 (ja2 (pv 1)) (ja2 (pv 6))) (ja0 (jd2 (jd2 (ja2 (pv 3)) (ja2 (pv 4))) (ja2 (pv 6))) ja4))))
 (jb6 (je4 (i:=9) scRi.nd rfl (Or.inl rfl) (jb1 Mu.ok lk_2 (hr.mono (by decide)) rfl Mu.mg Mu.kp Mu.bd (ja0 (jd2 (ja2 (pv 1)) (ja2 (pv 7))) (ja0 (jd2 (jd2 (ja2 (pv 3)) (ja2 (pv 5))) (ja2 (pv 7))) ja4))))
 (jb6 (je4 (i:=8) scRi.nd rfl (Or.inl rfl) (jd2 (jg3 (ja0 (ja2 (pv 8)) (ja0 (ja2 (pv 9)) ja4))) (jd0 jj8 lk_intF (by rfl) N.int ji8 (ja0 (jb1 Ll.ok lk_less (hr.mono (by decide)) rfl Ll.mg Ll.kp Ll.bd (ja0 (ja2 (pv 9)) (ja0 (ja2 (pv 8)) ja4))) ja4))))
 (jb6 (ms_if (PW.pt (mw_and (mt_cmp (or_ne hr.units) lk_ne (ja2 (pv 4)) (ja2 (pv 5)) (nomark _)) (mw_and1 (mt_cmp (or_ne hr.units) lk_ne (ja2 (pv 6)) (ja2 (pv 7)) (nomark _))))) (je9 (ms_for PassesOwn.never rfl (jj5 (jg3 (ja0 (je1 (ja0 (ja2 (pv 4)) (ja0 (ja2 (pv 6)) (ja0 (me_neg jb2) ja4)))) (ja0 (je1 (ja0 (ja2 (pv 4)) (ja0 (ja2 (pv 7)) (ja0 jb2 ja4)))) (ja0 (je1 (ja0 (ja2 (pv 5)) (ja0 (ja2 (pv 7)) (ja0 (me_neg jb2) ja4)))) (ja0 (je1 (ja0 (ja2 (pv 5)) (ja0 (ja2 (pv 6)) (ja0 jb2 ja4)))) ja4)))))) (mg_tup rfl (ji5 (jc7 (jb0 (i:=10) scRi.nd rfl (Or.inl rfl))) (ji5 (jc7 (jb0 (i:=11) scRi.nd rfl (Or.inl rfl))) (ji5 (jc7 (jb0 (i:=12) scRi.nd rfl (Or.inl rfl))) mgs_nil)))) (je9 (ms_asg (jb1 Ad.ok lk_2 (hr.mono (by decide)) rfl Ad.mg Ad.kp Ad.bd (ja0 (jd2 (jd2 (ja2 (pv 3)) (ja2 (pv 10))) (ja2 (pv 11))) (ja0 (jb1 Mu.ok lk_2 (hr.mono (by decide)) rfl Mu.mg Mu.kp Mu.bd (ja0 (je1 (ja0 (ja2 (pv 12)) (ja0 jb2 ja4))) (ja0 (jb1 Dv.ok lk_div (hr.mono (by decide)) rfl Dv.mg Dv.kp Dv.bd (ja0 (ja2 (pv 8)) (ja0 (jd2 (ja2 (pv 1)) (ja2 (pv 11))) ja4))) ja4))) ja4))) (mg_sub (jd2 (ja2 (pv 3)) (ja2 (pv 10))) (ja2 (pv 11))))))) ms_nil)
 (ms_frz2 3 (je9 (ji1 (jd0 cTup0 jj6 (by rfl) N.tuple jb8 (ja0 (jj4 (own:=["row"]) (cap:=[]) (ix:=[]) (BlkOk.of (ja3 (top 67)).names NRi) rfl (jj5 (ja2 (pv 3))) (jc9 (by decide))
 (fun C fp s H=>⟨(jc7 (jb0 (i:=0) (show List.Nodup (["row"]:List Str) by decide +kernel) rfl (Or.inl rfl))),jh3,(jd0 cTup0 jj6 (by rfl) N.tuple jb8 (ja0 (ja2 (pv 0)) ja4))⟩)) ja4)))))))))))),fun O xs Pq h=>rd_ring O xs Pq QX h⟩)
theorem scFri:FnScope NFr ["bag","market","prices","dealing"] (ja3 (top 68)):=L2.fsc
theorem ok_fr {f fT fA:Addr} {fd dT dA:FuncData} (F:Fun K "_law_free_right" "_law_free_right" (top 68) f fd) (N:Nm mg) (T:Cal K mg P w base "_law_take" 1 ["bag","many"] spTake fT dT) (Al:Cal K mg P w base "_law_all_right" 8 ["market","prices","dealing"] spAllR fA dA):FnOk P w K mg base CX0 9 f fd ["bag","market","prices","dealing"] (spM K fFreeR) :=
 okM F scFri (fun O xs P PX h=>by obtain ⟨_,_,_,_,_,_,rfl,_⟩:=h; rfl) (fun cdv A outer s H E QX hr=>⟨mFree,(jb6 (je4 (i:=4) scFri.nd rfl (Or.inl rfl) (je1 (ja0 (jd8 (jd2 (ja2 (pv 1)) jb2) (je1 (ja0 (jd8 jb2 (jb1 T.ok jd1 (hr.mono (by decide)) rfl T.mg T.kp T.bd (ja0 (ja2 (pv 0)) (ja0 jb2 ja4)))) ja4))) (ja0 (jd2 (ja2 (pv 1)) jb2) (ja0 (jd0 cTup0 jj6 (by rfl) N.tuple jb8 (ja0 (jj4 (own:=["row"]) (cap:=[]) (ix:=[]) (BlkOk.of (ja3 (top 68)).names NFr) rfl (jj5 (jd2 (ja2 (pv 1)) jb2)) (jc9 (by decide))
 (fun C fp s H=>⟨(jc7 (jb0 (i:=0) (show List.Nodup (["row"]:List Str) by decide +kernel) rfl (Or.inl rfl))),jh3,(jd8 (ja2 (pv 0)) (je1 (ja0 jb2 ja4)))⟩)) ja4)) ja4)))))
 (jb6 (je4 (i:=5) scFri.nd rfl (Or.inl rfl) (jb1 T.ok jd1 (hr.mono (by decide)) rfl T.mg T.kp T.bd (ja0 (ja2 (pv 0)) (ja0 (jf2 cLen0 lk_len (by rfl) N.len PySem.boot_len (ja0 (ja2 (pv 3)) ja4)) ja4))))
 (jb6 (ms_for PassesOwn.never rfl (jj5 (jg3 (ja0 (je1 (ja0 jb2 (ja0 jb2 ja4))) (ja0 (je1 (ja0 jb2 (ja0 (jd8 jb2 (jb1 T.ok jd1 (hr.mono (by decide)) rfl T.mg T.kp T.bd (ja0 (ja2 (pv 0)) (ja0 jb2 ja4)))) ja4))) ja4)))) (jc7 (jb0 (i:=6) scFri.nd rfl (Or.inl rfl))) (jb6 (je4 (i:=7) scFri.nd rfl (Or.inl rfl) (me_own ja4))
 (jb6 (ms_for PassesOwn.never rfl (jf0 rfl N.range (ja0 (jf2 cLen0 lk_len (by rfl) N.len PySem.boot_len (ja0 (ja2 (pv 3)) ja4)) ja4)) (jc7 (jb0 (i:=8) scFri.nd rfl (Or.inl rfl))) (je9 (ms_expr (me_app (ja2 (pv 7)) (ja0 (jd8 (jd2 (ja2 (pv 3)) (ja2 (pv 8))) (je1 (ja0 (jd2 (jg3 (ja0 (je1 (ja0 jb2 (ja0 jb2 ja4))) (ja0 (ja2 (pv 6)) ja4))) (jd0 jj8 lk_intF (by rfl) N.int ji8 (ja0 (me_cmp (or_eq hr.units) lk_eq (ja2 (pv 8)) (ja2 (pv 5)) (nomark _)) ja4))) ja4))) ja4)))))
 (je9 (ms_if (mt_not (mt_val (jb1 Al.ok lk_allR (hr.mono (by decide)) rfl Al.mg Al.kp Al.bd (ja0 (ja2 (pv 4)) (ja0 (jd8 (ja2 (pv 2)) (je1 (ja0 (je1 (ja0 jb2 (ja0 jb2 ja4))) ja4))) (ja0 (jd0 cTup0 jj6 (by rfl) N.tuple jb8 (ja0 (ja2 (pv 7)) ja4)) ja4)))))) (je9 (ji1 me_bl)) ms_nil)))))
 (je9 (ji1 me_bl))))),fun O xs Pq h=>rd_free O xs Pq QX h⟩)
end
end K15
namespace MI
open PySem L2 KG EX KM
abbrev NLw:List Str:=["script","k","bag","market","prices","dealing","at","higher","richer","some","one"]
def mLaw:MS:=(mSeq (mFor (miR1 (mCons (mOp addF (mCB (int2C fun i j=>if j < i then j else i) (mCons (mCB lenSF (mCons (mVar 0) mNil)) (mCons (mC (.int 20)) mNil))) (mC (.int 2))) mNil)) (mgN 1) (mSeq (mAsg (mCall fBag noX (mCons (mVar 0) (mCons (mVar 1) mNil))) (mgN 2))
 (mSeq (mAsg (mCall fKnown noX (mCons (mVar 2) mNil)) (mgT 3 (mgCons (mgN 3) (mgCons (mgN 4) (mgCons (mgN 5) mgNil)))))
 (mIfS (mTst (mCall (fT isMk) noX (mCons (mVar 3) mNil))) (mSeq (mIfS (mTst (mOp notBF (mCall fShows noX (mCons (mVar 3) (mCons (mVar 4) (mCons (mVar 5) mNil)))) (mC (.bool true)))) (mRet (mC (.bool false))) mNext)
 (mSeq (mAsg (mCall fTake noX (mCons (mVar 2) (mCons (mCB lenF (mCons (mVar 4) mNil)) mNil))) (mgN 6))
 (mSeq (mAsg (mOp addF (mOp addF (mSl (mVar 4) mNoP (mSoP (mVar 6))) (mTup (mCons (mCall (f2 qTi) noX (mCons (mOp ixF (mVar 4) (mVar 6)) (mCons (mTup (mCons (mC (.int 13)) (mCons (mC (.int 12)) mNil))) mNil))) mNil))) (mSl (mVar 4) (mSoP (mOp addF (mVar 6) (mC (.int 1)))) mNoP)) (mgN 7))
 (mSeq (mAsg (mTup (mCons (mOp ixF (mVar 3) (mC (.int 0))) (mCons (mOp addF (mTup (mCons (mOp ixF (mLst (mCons (mTup (mCons (mC (.int 1)) (mCons (mC (.int 1)) mNil))) (mCons (mTup (mCons (mC (.int 2)) (mCons (mC (.int 1)) mNil))) mNil))) (mCB intF (mCons (mOp (eqF false) (mOp ixF (mOp ixF (mVar 3) (mC (.int 1))) (mC (.int 0))) (mTup (mCons (mC (.int 1)) (mCons (mC (.int 1)) mNil)))) mNil))) mNil)) (mSl (mOp ixF (mVar 3) (mC (.int 1))) (mSoP (mC (.int 1))) mNoP)) (mCons (mOp ixF (mVar 3) (mC (.int 2))) mNil)))) (mgN 8))
 (mSeq (mAsg (mLst (mCons (mLst (mCons (mVar 3) (mCons (mVar 4) (mCons (mCall fMoved noX (mCons (mVar 2) (mCons (mVar 5) mNil))) mNil)))) (mCons (mLst (mCons (mVar 3) (mCons (mVar 4) (mCons (mCall fRing noX (mCons (mVar 2) (mCons (mVar 4) (mCons (mVar 5) mNil)))) mNil)))) mNil))) (mgN 9))
 (mSeq (mAsg (mOp addF (mVar 9) (mLst (mCons (mLst (mCons (mVar 3) (mCons (mVar 7) (mCons (mVar 5) mNil)))) (mCons (mLst (mCons (mVar 3) (mCons (mVar 4) (mCons (mOp addF (mVar 5) (mSl (mVar 5) mNoP (mSoP (mC (.int 1))))) mNil)))) mNil)))) (mgN 9))
 (mSeq (mAsg (mOp addF (mVar 9) (mLst (mCons (mLst (mCons (mVar 3) (mCons (mVar 4) (mCons (mCall (fRep 4) noX (mCons (mVar 2) (mCons (mVar 5) (mCons (mC (.int 3)) mNil)))) mNil)))) (mCons (mLst (mCons (mVar 8) (mCons (mVar 4) (mCons (mVar 5) mNil)))) mNil)))) (mgN 9))
 (mSeq (mFor (miSeq (mVar 9)) (mgN 10) (mIfS (mNot (mTst (mCall fAllR noX (mCons (mOp ixF (mVar 10) (mC (.int 0))) (mCons (mOp ixF (mVar 10) (mC (.int 1))) (mCons (mOp ixF (mVar 10) (mC (.int 2))) mNil)))))) (mRet (mC (.bool false))) mNext))
 (mIfS (mNot (mTst (mCall fFreeR noX (mCons (mVar 2) (mCons (mVar 3) (mCons (mVar 4) (mCons (mVar 5) mNil))))))) (mRet (mC (.bool false))) mNext))))))))) mNext))))
 (mRet (mC (.bool true))))
theorem rd_law:∀ O xs Pq QX,fLaw O xs Pq QX→mLaw { nx:=fun _ O'=>Pq (.im .none) O',rt:=Pq } (startS NLw xs) O:=by
 intro O xs Pq QX h
 obtain ⟨ns,rfl,hns,h⟩:=h
 have hlen:(if (20:Int) < (ns.length:Int) then (20:Int) else (ns.length:Int)) + 2 ≤ 22:=by split <;> omega
 have hlen0:0 ≤ (if (20:Int) < (ns.length:Int) then (20:Int) else (ns.length:Int)) + 2:=by split <;> omega
 refine ⟨⟨by dsimp only; omega,by dsimp only; omega⟩,fun i sl O'=>∃ y1 y2 y3 y4 y5 y6 y7 y8 y9 y10,sl=[some (.scr ns),y1,y2,y3,y4,y5,y6,y7,y8,y9,y10],⟨_,_,_,_,_,_,_,_,_,_,rfl⟩,?_,?_⟩
 rotate_left
 ·rintro sl O' _
  exact ⟨h O'⟩
 rintro i x sl O' hx ⟨y1,y2,y3,y4,y5,y6,y7,y8,y9,y10,rfl⟩
 obtain ⟨hi,rfl⟩:=jg4 hx
 have hi22:i < 22:=by dsimp only at hi; omega
 refine ⟨⟨by omega,by omega⟩,fun bj=>⟨⟨bj,rfl⟩,fun n g ts A Pu qs W D O2 hG g1 g5 n1 n6 hA hP hAm hq hD hk=>⟨rfl,?_⟩⟩⟩
 show Go _ _ [some (.scr ns),some (.im (.int i)),some (.bag bj),some (.im (mkD A Pu W)),some (.im (.tuple (qs.map qD))),some (.im (matD D)),y6,y7,y8,y9,y10] O2
 refine ⟨⟨fun hm=>?_,fun _=>⟨_,_,_,_,_,_,_,_,_,_,rfl⟩⟩⟩
 have hql:qs.length=A.length:=by rw [hA,hk.ql]
 have pr:Priced A Pu W qs:=⟨hm,hql,hk.prs,fun z hz=>(hq z hz).2.mono (by decide)⟩
 have hDn:D.length=n:=hk.dl
 refine ⟨A,Pu,W,qs,D,rfl,pr,by omega,fun r hr=>by rw [hk.dr r hr,hA],fun r hr z hz=>⟨(hD r hr z hz).1,(hD r hr z hz).2.mono (by decide)⟩,?_⟩
 rw [hA,hk.shows]
 refine ⟨fun z=>(by cases z),fun _=>?_⟩
 refine ⟨⟨by rw [Zb]; omega,by rw [Zb]; omega⟩,fun a a0 a1=>?_⟩
 rw [Zb] at a1
 obtain ⟨a,rfl⟩:∃ a':Nat,a=(a':Int):=⟨a.toNat,by omega⟩
 have ha:a < qs.length:=by omega
 have hto:=cutD_to (xs:=qs.map qD) (r:=(a:Int)) (by omega) (by rw [Zb]; omega)
 have hfr:=cutD_from (xs:=qs.map qD) (r:=(a:Int) + 1) (by omega) (by rw [Zb]; omega)
 rw [Zp] at hto
 rw [show ((a:Int) + 1).toNat=a + 1 by omega] at hfr
 have hqa:0 < qs.getD a 0∧Rb 4 (qs.getD a 0):=hq _ (by rw [jc2 (Zc ha)]; exact Zn ha)
 refine ⟨_,atI_get (jg0 (f:=qD) (d:=0) ha),len2,qs.getD a 0,Rat.divInt 13 12,by rw [← q1312],⟨hqa.2.mono (by decide),rb1312.2.mono (by decide)⟩,len1,by rw [hto,Zz,sz]; simp; omega,by rw [hto,hfr,Zj,Zz,List.length_drop,Zb,sz]; simp; omega,?_⟩
 rw [hto,hfr]
 have hhi:(qs.map qD).take a ++ [qD (qTi (qs.getD a 0) (Rat.divInt 13 12))] ++ (qs.map qD).drop (a + 1)=(KM.put qs a (qs.getD a 0 * Rat.divInt 13 12)).map qD:=by
  unfold KM.put qTi
  rw [Zh,Zh,List.map_take,List.map_drop]; rfl
 rw [hhi]
 have hpl:(KM.put qs a (qs.getD a 0 * Rat.divInt 13 12)).length=A.length:=by rw [put_len ha]; exact hql
 have hpm:∀ z ∈ KM.put qs a (qs.getD a 0 * Rat.divInt 13 12),0 < z∧Rb 8 z:=fun z hz=>by
  unfold KM.put at hz
  rcases Zq.mp hz with hz | hz
  ·rcases Zq.mp hz with hz | hz
   ·have:=hq z (List.mem_of_mem_take hz); exact ⟨this.1,this.2.mono (by decide)⟩
   ·rw [Yc.mp hz]; exact ⟨Rat.mul_pos hqa.1 rb1312.1,rb_mul hqa.2 rb1312.2⟩
  ·have:=hq z (List.mem_of_mem_drop hz); exact ⟨this.1,this.2.mono (by decide)⟩
 have pr2:Priced A Pu W (KM.put qs a (qs.getD a 0 * Rat.divInt 13 12)):=⟨hm,hpl,hk.prs' (by rw [hpl,hA]) (fun j hj=>(hpm _ (by rw [jc2 (Zc (show j < (KM.put qs a (qs.getD a 0 * Rat.divInt 13 12)).length by omega))]; exact Zn _)).1),fun z hz=>(hpm z hz).2.mono (by decide)⟩
 generalize KM.put qs a (qs.getD a 0 * Rat.divInt 13 12)=qs2 at pr2 ⊢
 have hP0:0 < Pu.length:=by omega
 refine ⟨_,rfl,len2,len2,len2,_,rfl,_,atI_get (i:=0) (jg0 (f:=qD) (d:=0) hP0),len2,by show min 1 1 ≤ 60; decide,_,pick2 _,len1,_,rfl,?_⟩
 have hfr1:=cutD_from (xs:=Pu.map qD) (r:=(1:Int)) (by omega) (by rw [Zb]; omega)
 refine ⟨by rw [hfr1,List.length_drop,Zb,sz]; simp; omega,_,rfl,len3,?_⟩
 rw [hfr1]
 generalize eqq (qD (Pu.getD 0 0)) (PyData.tuple [.int 1,.int 1])=cc
 have hric:PyData.tuple [.tuple (A.map .int),.tuple ([qD (if cc=true then 2 else 1)] ++ (Pu.map qD).drop ((1:Int)).toNat),.tuple (W.map rowD)]=mkD A ((if cc=true then 2 else 1) :: Pu.drop 1) W:=by
  unfold mkD
  rw [List.map_cons,List.map_drop]; rfl
 have pr3:Priced A ((if cc=true then 2 else 1) :: Pu.drop 1) W qs:=⟨mk_rich hm (by omega),pr.len,pr.prs,pr.bd⟩
 show Go _ _ [some (.scr ns),some (.im (.int i)),some (.bag bj),some (.im (mkD A Pu W)),some (.im (.tuple (qs.map qD))),some (.im (matD D)),some (.im (.int a)),some (.im (.tuple (qs2.map qD))),some (.im (.tuple [.tuple (A.map .int),.tuple ([qD (if cc=true then 2 else 1)] ++ (Pu.map qD).drop ((1:Int)).toNat),.tuple (W.map rowD)])),y9,y10] O2
 rw [hric]
 have hD6:∀ r ∈ D,∀ z ∈ r,Rb 6 z:=fun r hr z hz=>(hD r hr z hz).2
 refine ⟨bj,g,D,rfl,hk.dr,g1,by omega,by omega,by omega,hD6,fun D1 hl1 hr1 hb1 O3 hG3=>?_⟩
 refine ⟨len3,bj,g,qs,D,rfl,hk.ql,hq,hk.dr,g1,by omega,by omega,by omega,hD6,fun D2 hl2 hr2 hb2 O4 hG4=>?_⟩
 refine ⟨len3,len2,⟨len3,?_⟩⟩
 have hto1:=cutD_to1 (xs:=D.map fun qs=>PyData.tuple (qs.map qD)) (by rw [Zb]; omega)
 refine ⟨by rw [hto1,Zz,Zb,sz]; omega,len3,len2,by show 2 + 2 ≤ sizeLine; decide,?_⟩
 rw [hto1]
 have hsD:small (matD D)=true:=small_m29 fun r hr z hz=>(hD6 r hr z hz).mono (by decide)
 refine ⟨bj,3,6,matD D,rfl,by decide,hsD,ln_mat (by decide) (by omega) (fun r hr=>by rw [hk.dr r hr]; omega),by decide,by decide,fun d' sd' _=>?_⟩
 refine ⟨len3,len3,len2,by show 4 + 2 ≤ sizeLine; decide,?_⟩
 have good:∀ e ∈ [PyData.list [mkD A Pu W,.tuple (qs.map qD),matD D1],.list [mkD A Pu W,.tuple (qs.map qD),matD D2],.list [mkD A Pu W,.tuple (qs2.map qD),matD D],.list [mkD A Pu W,.tuple (qs.map qD),.tuple ((D.map fun qs=>PyData.tuple (qs.map qD)) ++ (D.map fun qs=>PyData.tuple (qs.map qD)).take 1)],.list [mkD A Pu W,.tuple (qs.map qD),d'],.list [mkD A ((if cc=true then 2 else 1) :: Pu.drop 1) W,.tuple (qs.map qD),matD D]],∃ A Pu W qs d,e=.list [mkD A Pu W,.tuple (qs.map qD),d]∧Priced A Pu W qs∧small d=true:=by
  intro e he
  simp only [Zf,List.not_mem_nil,or_false] at he
  rcases he with rfl | rfl | rfl | rfl | rfl | rfl
  ·exact ⟨A,Pu,W,qs,_,rfl,pr,small_m29 hb1⟩
  ·exact ⟨A,Pu,W,qs,_,rfl,pr,small_m29 hb2⟩
  ·exact ⟨A,Pu,W,qs2,_,rfl,pr2,hsD⟩
  ·refine ⟨A,Pu,W,qs,_,rfl,pr,small_t fun d hd=>?_⟩
   have hm':∀ d ∈ D.map (fun qs=>PyData.tuple (qs.map qD)),small d=true:=smalls_t hsD
   rcases Zq.mp hd with z | z
   ·exact hm' d z
   ·exact hm' d (List.mem_of_mem_take z)
  ·exact ⟨A,Pu,W,qs,_,rfl,pr,sd'⟩
  ·exact ⟨A,_,W,qs,_,rfl,pr3,hsD⟩
 show Go _ _ [some (.scr ns),some (.im (.int i)),some (.bag bj),some (.im (mkD A Pu W)),some (.im (.tuple (qs.map qD))),some (.im (matD D)),some (.im (.int a)),some (.im (.tuple (qs2.map qD))),some (.im (mkD A ((if cc=true then 2 else 1) :: Pu.drop 1) W)),some (.im (.list [PyData.list [mkD A Pu W,.tuple (qs.map qD),matD D1],.list [mkD A Pu W,.tuple (qs.map qD),matD D2],.list [mkD A Pu W,.tuple (qs2.map qD),matD D],.list [mkD A Pu W,.tuple (qs.map qD),.tuple ((D.map fun qs=>PyData.tuple (qs.map qD)) ++ (D.map fun qs=>PyData.tuple (qs.map qD)).take 1)],.list [mkD A Pu W,.tuple (qs.map qD),d'],.list [mkD A ((if cc=true then 2 else 1) :: Pu.drop 1) W,.tuple (qs.map qD),matD D]])),y10] O4
 generalize [PyData.list [mkD A Pu W,.tuple (qs.map qD),matD D1],.list [mkD A Pu W,.tuple (qs.map qD),matD D2],.list [mkD A Pu W,.tuple (qs2.map qD),matD D],.list [mkD A Pu W,.tuple (qs.map qD),.tuple ((D.map fun qs=>PyData.tuple (qs.map qD)) ++ (D.map fun qs=>PyData.tuple (qs.map qD)).take 1)],.list [mkD A Pu W,.tuple (qs.map qD),d'],.list [mkD A ((if cc=true then 2 else 1) :: Pu.drop 1) W,.tuple (qs.map qD),matD D]]=six at good ⊢
 refine ⟨?_⟩
 conv=>whnf
 refine ⟨fun m sl O'=>O'=O4∧∃ y10,sl=[some (.scr ns),some (.im (.int i)),some (.bag bj),some (.im (mkD A Pu W)),some (.im (.tuple (qs.map qD))),some (.im (matD D)),some (.im (.int a)),some (.im (.tuple (qs2.map qD))),some (.im (mkD A ((if cc=true then 2 else 1) :: Pu.drop 1) W)),some (.im (.list six)),y10],⟨rfl,_,rfl⟩,?_,?_⟩
 ·rintro m x sl O' hx ⟨rfl,y10,rfl⟩
  rw [Zg] at hx
  cases he:six[m]? with
  | none=>rw [he] at hx; cases hx
  | some e =>
   rw [he] at hx
   cases Option.some.inj hx
   obtain ⟨A',Pu',W',qs',d,rfl,pr',sd⟩:=good e (Zi he)
   exact ⟨_,rfl,_,rfl,_,rfl,A',Pu',W',qs',d,rfl,pr',sd,fun z=>(by cases z),fun _=>⟨rfl,_,rfl⟩⟩
 ·rintro sl O' ⟨rfl,y10,rfl⟩
  exact ⟨bj,A,Pu,W,qs,D,rfl,pr,by omega,by omega,by omega,fun r hr=>by rw [hk.dr r hr,hA],fun r hr z hz=>(hD6 r hr z hz).mono (by decide),fun O5 _=>⟨fun z=>(by cases z),fun _=>⟨_,_,_,_,_,_,_,_,_,_,rfl⟩⟩⟩
end MI
namespace K15
open PySem L2 KG EX KM MI
section
variable {P:Program} {w:World} {K:PySem.W.Frag} {mg:Str→Option Value} {base:Heap}
theorem scLaw:FnScope NLw ["script"] (ja3 (top 70)):=L2.fsc
theorem ok_law {f fB fT fK fI fS fM fO fR fP fA fF:Addr} {fd dB dT dK dI dS dM dO dR dP dA dF:FuncData} (F:Fun K "law" "law" (top 70) f fd) (N:Nm mg)
  (Bg:Cal K mg P w base "_law_bag" 1 ["script","k"] (spBag K) fB dB) (T:Cal K mg P w base "_law_take" 1 ["bag","many"] spTake fT dT) (Kn:Cal K mg P w base "_law_known" 4 ["bag"] (spM K fKnown) fK dK) (IM:Cal K mg P w base "is_market" 5 ["thing"] (spT isMk) fI dI) (Sh:Cal K mg P w base "shows" 7 ["market","prices","dealing"] spShows fS dS)
  (Mu:Cal K mg P w base "_law_mul" 2 ["one","other"] (sp2 qTi) fM dM) (Mo:Cal K mg P w base "_law_moved" 3 ["bag","dealing"] (spM K fMoved) fO dO) (Ri:Cal K mg P w base "_law_ring" 3 ["bag","prices","dealing"] (spM K fRing) fR dR) (Re:Cal K mg P w base "_law_replaced" 6 ["bag","thing","deep"] (spM K (fRep 4)) fP dP) (Al:Cal K mg P w base "_law_all_right" 8 ["market","prices","dealing"] spAllR fA dA) (Fr:Cal K mg P w base "_law_free_right" 9 ["bag","market","prices","dealing"] (spM K fFreeR) fF dF):FnOk P w K mg base CX0 10 f fd ["script"] (spLaw K):=by
 exact law_of (okM F scLaw (fun O xs P PX h=>by obtain ⟨ns,rfl,_⟩:=h; rfl) (fun cdv A outer s H E QX hr=>⟨mLaw,(jb6 (ms_for PassesOwn.never rfl (jf0 rfl N.range (ja0 (jd8 (jf2 (call_min2 rfl) lk_min2 (by rfl) N.min boot_min (ja0 (jf2 (cLen K) lk_lenS (by rfl) N.len PySem.boot_len (ja0 (ja2 (pv 0)) ja4)) (ja0 jb2 ja4))) jb2) ja4)) (jc7 (jb0 (i:=1) scLaw.nd rfl (Or.inl rfl))) (jb6 (je4 (i:=2) scLaw.nd rfl (Or.inl rfl) (jb1 Bg.ok lk_bag (hr.mono (by decide)) rfl Bg.mg Bg.kp Bg.bd (ja0 (ja2 (pv 0)) (ja0 (ja2 (pv 1)) ja4))))
 (jb6 (ms_asg (jb1 Kn.ok lk_spM (hr.mono (by decide)) rfl Kn.mg Kn.kp Kn.bd (ja0 (ja2 (pv 2)) ja4)) (mg_tup rfl (ji5 (jc7 (jb0 (i:=3) scLaw.nd rfl (Or.inl rfl))) (ji5 (jc7 (jb0 (i:=4) scLaw.nd rfl (Or.inl rfl))) (ji5 (jc7 (jb0 (i:=5) scLaw.nd rfl (Or.inl rfl))) mgs_nil)))))
 (je9 (ms_if (mt_val (jb1 IM.ok lk_T (hr.mono (by decide)) rfl IM.mg IM.kp IM.bd (ja0 (ja2 (pv 3)) ja4))) (jb6 (ms_if (mt_cmp op_isnotB lk_notB (jb1 Sh.ok lk_shows (hr.mono (by decide)) rfl Sh.mg Sh.kp Sh.bd (ja0 (ja2 (pv 3)) (ja0 (ja2 (pv 4)) (ja0 (ja2 (pv 5)) ja4)))) me_bl (nomark _)) (je9 (ji1 me_bl)) ms_nil)
 (jb6 (je4 (i:=6) scLaw.nd rfl (Or.inl rfl) (jb1 T.ok jd1 (hr.mono (by decide)) rfl T.mg T.kp T.bd (ja0 (ja2 (pv 2)) (ja0 (jf2 cLen0 lk_len (by rfl) N.len PySem.boot_len (ja0 (ja2 (pv 4)) ja4)) ja4))))
 (jb6 (je4 (i:=7) scLaw.nd rfl (Or.inl rfl) (jd8 (jd8 (jg6 (ja2 (pv 4)) jj3 (jj2 (ja2 (pv 6)))) (je1 (ja0 (jb1 Mu.ok lk_2 (hr.mono (by decide)) rfl Mu.mg Mu.kp Mu.bd (ja0 (jd2 (ja2 (pv 4)) (ja2 (pv 6))) (ja0 (je1 (ja0 jb2 (ja0 jb2 ja4))) ja4))) ja4))) (jg6 (ja2 (pv 4)) (jj2 (jd8 (ja2 (pv 6)) jb2)) jj3)))
 (jb6 (je4 (i:=8) scLaw.nd rfl (Or.inl rfl) (je1 (ja0 (jd2 (ja2 (pv 3)) jb2) (ja0 (jd8 (je1 (ja0 (jd2 (jg3 (ja0 (je1 (ja0 jb2 (ja0 jb2 ja4))) (ja0 (je1 (ja0 jb2 (ja0 jb2 ja4))) ja4))) (jd0 jj8 lk_intF (by rfl) N.int ji8 (ja0 (me_cmp (or_eq hr.units) lk_eq (jd2 (jd2 (ja2 (pv 3)) jb2) jb2) (je1 (ja0 jb2 (ja0 jb2 ja4))) (nomark _)) ja4))) ja4)) (jg6 (jd2 (ja2 (pv 3)) jb2) (jj2 jb2) jj3)) (ja0 (jd2 (ja2 (pv 3)) jb2) ja4)))))
 (jb6 (je4 (i:=9) scLaw.nd rfl (Or.inl rfl) (jg3 (ja0 (jg3 (ja0 (ja2 (pv 3)) (ja0 (ja2 (pv 4)) (ja0 (jb1 Mo.ok lk_spM (hr.mono (by decide)) rfl Mo.mg Mo.kp Mo.bd (ja0 (ja2 (pv 2)) (ja0 (ja2 (pv 5)) ja4))) ja4)))) (ja0 (jg3 (ja0 (ja2 (pv 3)) (ja0 (ja2 (pv 4)) (ja0 (jb1 Ri.ok lk_spM (hr.mono (by decide)) rfl Ri.mg Ri.kp Ri.bd (ja0 (ja2 (pv 2)) (ja0 (ja2 (pv 4)) (ja0 (ja2 (pv 5)) ja4)))) ja4)))) ja4))))
 (jb6 (je4 (i:=9) scLaw.nd rfl (Or.inl rfl) (jd8 (ja2 (pv 9)) (jg3 (ja0 (jg3 (ja0 (ja2 (pv 3)) (ja0 (ja2 (pv 7)) (ja0 (ja2 (pv 5)) ja4)))) (ja0 (jg3 (ja0 (ja2 (pv 3)) (ja0 (ja2 (pv 4)) (ja0 (jd8 (ja2 (pv 5)) (jg6 (ja2 (pv 5)) jj3 (jj2 jb2))) ja4)))) ja4)))))
 (jb6 (je4 (i:=9) scLaw.nd rfl (Or.inl rfl) (jd8 (ja2 (pv 9)) (jg3 (ja0 (jg3 (ja0 (ja2 (pv 3)) (ja0 (ja2 (pv 4)) (ja0 (jb1 Re.ok lk_spM (hr.mono (by decide)) rfl Re.mg Re.kp Re.bd (ja0 (ja2 (pv 2)) (ja0 (ja2 (pv 5)) (ja0 jb2 ja4)))) ja4)))) (ja0 (jg3 (ja0 (ja2 (pv 8)) (ja0 (ja2 (pv 4)) (ja0 (ja2 (pv 5)) ja4)))) ja4)))))
 (jb6 (ms_for PassesOwn.never rfl (jj5 (ja2 (pv 9))) (jc7 (jb0 (i:=10) scLaw.nd rfl (Or.inl rfl))) (je9 (ms_if (mt_not (mt_val (jb1 Al.ok lk_allR (hr.mono (by decide)) rfl Al.mg Al.kp Al.bd (ja0 (jd2 (ja2 (pv 10)) jb2) (ja0 (jd2 (ja2 (pv 10)) jb2) (ja0 (jd2 (ja2 (pv 10)) jb2) ja4)))))) (je9 (ji1 me_bl)) ms_nil)))
 (je9 (ms_if (mt_not (mt_val (jb1 Fr.ok lk_spM (hr.mono (by decide)) rfl Fr.mg Fr.kp Fr.bd (ja0 (ja2 (pv 2)) (ja0 (ja2 (pv 3)) (ja0 (ja2 (pv 4)) (ja0 (ja2 (pv 5)) ja4))))))) (je9 (ji1 me_bl)) ms_nil)))))))))) ms_nil)))))
 (je9 (ji1 me_bl))),fun O xs Pq h=>rd_law O xs Pq QX h⟩))
end
end K15
namespace K15
open PySem L2 KG EX KM
section
variable {P:Program} {w:World} {K:PySem.W.Frag} {mg:Str→Option Value} {base:Heap}
theorem sc_law_div:FnScope ["one","other"] ["one","other"] (ja3 (top 52)):=L2.fsc
theorem ok_law_div {f fF:Addr} {fd dF:FuncData} (F:Fun K "_law_div" "_law_div" (top 52) f fd) (G:Cal K mg P w base "_law_frac" 1 ["top","bottom"] spLf fF dF):FnOk P w K mg base CX0 2 f fd ["one","other"] spDiv:=by
 refine F.ok sc_law_div (fun vs H Q E h=>?_) (fun cdv A outer s H vs Q E hr h=>?_)
 ·obtain ⟨p,q,a,b,rfl,_⟩:=h; rfl
 ·obtain ⟨p,q,a,b,rfl,hp,hq,⟨ba,bb⟩,⟨bc,bd⟩,hb0,k⟩:=h
  have hb:=jc8 a
  have hn:=rat_pos.mp hb0
  refine ⟨_,ja7 (jb7 (jb5 G.ok hr rfl G.mg G.kp G.bd .nil pass0 (ja1 (jc3 jd3 (jb9 ixT0 (pv 0) ja6 (fun _ _=>rfl)) (jb9 ixT0 (pv 1) ja6 (fun _ _=>rfl))) (ja1 (jc3 jd3 (jb9 ixT0 (pv 0) ja6 (fun _ _=>rfl)) (jb9 ixT0 (pv 1) ja6 (fun _ _=>rfl))) ja5)))),?_⟩
  refine ⟨_,rfl,p,_,_,_,rfl,rfl,SqT.of hp,rfl,_,rfl,q,_,_,_,rfl,rfl,SqT.of hq,rfl,_,_,rfl,rfl,⟨b3 ba,b3 bd⟩,_,rfl,p,_,_,_,rfl,rfl,SqT.of hp,rfl,_,rfl,q,_,_,_,rfl,rfl,SqT.of hq,rfl,_,_,rfl,rfl,⟨b3 bb,b3 bc⟩,?_⟩
  exact ⟨_,_,rfl,Int.mul_pos hb hn,b6 (bb.mul bc),fun r hr'=>by rw [div_rat (by omega)]; exact k r hr'⟩
end
end K15
namespace MI
open PySem L2 KG EX KM
def FnA (K:PySem.W.Frag) (nm:Str) (st:Stmt) (f:Addr):Prop:=∃ (oc:Value) (od:Option Addr) (kV dc pm:Value) (an:Option Addr) (cd ct:Value) (sl:Array (Option Value)),PySem.W.nsIn K mainGlobals nm=some (some (.ref f))∧K.lookup f=some ⟨oc,od,.func (PySem.W.fnOf nm nm (defArgs st) (defBody st) (ja3 st) .none kV dc pm an cd ct),sl⟩∧PySem.W.codeIn K cd nm=true∧PySem.W.keepIn K (.ref f)=true
end MI
namespace K15
open PySem L2 KG EX KM MI
theorem all_mk {l:PySem.W.OpenLaw} {w:World} {K:PySem.W.Frag} {h:Heap} {mg:Str→Option Value} {fa:Addr} (X:K.In h) (G:h.Ns mainGlobals mg) (hfa:mg "law"=some (.ref fa))
  {f0 f1 f2 f3 f4 f5 f6 f7 f8 f9 f10 f11 f12 f13 f14 f15 f16 f17 f18 f19 f20 f21 f22 f23 f24 f25 f26 f27 f28 f29 f30 f31 f32 f33 f34 f35 f36 f37 f38 f39 f40 f41 f42 f43 f44 f45 f46 f47 f48 f49 f50 f51 f52 M Nn Pr:Addr} {tk0:Tok} {tk1:Tok} {tk2:Tok} {tk3:Tok} {tk4:Tok}
  (a0:FnA K "is_whole" (top 5) f0)
  (a1:FnA K "is_fraction" (top 6) f1)
  (a2:FnA K "common_divisor" (top 7) f2)
  (a3:FnA K "fraction" (top 8) f3)
  (a4:FnA K "plus" (top 9) f4)
  (a5:FnA K "times" (top 10) f5)
  (a6:FnA K "over" (top 11) f6)
  (a7:FnA K "less" (top 12) f7)
  (a8:FnA K "total" (top 13) f8)
  (a9:FnA K "greatest" (top 14) f9)
  (a10:FnA K "is_dealing" (top 16) f10)
  (a11:FnA K "is_dealt_row" (top 17) f11)
  (a12:FnA K "got_in_all" (top 18) f12)
  (a13:FnA K "is_market" (top 25) f13)
  (a14:FnA K "are_amounts" (top 26) f14)
  (a15:FnA K "are_purses" (top 27) f15)
  (a16:FnA K "are_wishes" (top 28) f16)
  (a17:FnA K "is_wish_row" (top 29) f17)
  (a18:FnA K "is_amount" (top 30) f18)
  (a19:FnA K "is_purse" (top 31) f19)
  (a20:FnA K "is_wish" (top 32) f20)
  (a21:FnA K "wished" (top 33) f21)
  (a22:FnA K "are_prices" (top 35) f22)
  (a23:FnA K "need_prices" (top 36) f23)
  (a24:FnA K "best_goods" (top 37) f24)
  (a25:FnA K "best_by_wishes" (top 38) f25)
  (a26:FnA K "rate" (top 39) f26)
  (a27:FnA K "shows" (top 41) f27)
  (a28:FnA K "sells_all" (top 42) f28)
  (a29:FnA K "gives_best" (top 43) f29)
  (a30:FnA K "spends_all" (top 44) f30)
  (a31:FnA K "_law_bag" (top 46) f31)
  (a32:FnA K "_law_take" (top 47) f32)
  (a33:FnA K "_law_frac" (top 48) f33)
  (a34:FnA K "_law_add" (top 49) f34)
  (a35:FnA K "_law_sub" (top 50) f35)
  (a36:FnA K "_law_mul" (top 51) f36)
  (a37:FnA K "_law_div" (top 52) f37)
  (a38:FnA K "_law_less" (top 53) f38)
  (a39:FnA K "_law_sum" (top 54) f39)
  (a40:FnA K "_law_is_fraction" (top 55) f40)
  (a41:FnA K "_law_wished" (top 59) f41)
  (a42:FnA K "_law_best" (top 60) f42)
  (a43:FnA K "_law_is_dealing" (top 61) f43)
  (a44:FnA K "_law_shows" (top 62) f44)
  (a45:FnA K "_law_odd" (top 63) f45)
  (a46:FnA K "_law_replaced" (top 64) f46)
  (a47:FnA K "_law_known" (top 65) f47)
  (a48:FnA K "_law_moved" (top 66) f48)
  (a49:FnA K "_law_ring" (top 67) f49)
  (a50:FnA K "_law_free_right" (top 68) f50)
  (a51:FnA K "_law_all_right" (top 69) f51)
  (a52:FnA K "law" (top 70) f52)
  (z0:PySem.W.nsIn K mainGlobals "len"=some none)
  (z1:PySem.W.nsIn K mainGlobals "range"=some none)
  (z2:PySem.W.nsIn K mainGlobals "tuple"=some none)
  (z3:PySem.W.nsIn K mainGlobals "list"=some none)
  (z4:PySem.W.nsIn K mainGlobals "all"=some none)
  (z5:PySem.W.nsIn K mainGlobals "any"=some none)
  (z6:PySem.W.nsIn K mainGlobals "max"=some none)
  (z7:PySem.W.nsIn K mainGlobals "min"=some none)
  (z8:PySem.W.nsIn K mainGlobals "sum"=some none)
  (z9:PySem.W.nsIn K mainGlobals "abs"=some none)
  (z10:PySem.W.nsIn K mainGlobals "int"=some none)
  (z11:PySem.W.nsIn K mainGlobals "isinstance"=some none)
  (z12:PySem.W.nsIn K mainGlobals "bool"=some none)
  (z13:PySem.W.nsIn K mainGlobals "enumerate"=some none)
  (z14:PySem.W.nsIn K mainGlobals "ValueError"=some none)
  (yzip:PySem.W.nsIn K mainGlobals "zip"=some none)
  (nMOST_GOODS:PySem.W.nsIn K mainGlobals "MOST_GOODS"=some (some (.int 6 tk0)))
  (nMOST_BUYERS:PySem.W.nsIn K mainGlobals "MOST_BUYERS"=some (some (.int 6 tk1)))
  (nMOST_PIECES:PySem.W.nsIn K mainGlobals "MOST_PIECES"=some (some (.int 60 tk2)))
  (nMOST_WISH:PySem.W.nsIn K mainGlobals "MOST_WISH"=some (some (.int 100 tk3)))
  (nMOST_IN_PURSE:PySem.W.nsIn K mainGlobals "MOST_IN_PURSE"=some (some (.int 1000000 tk4)))
  (gM:PySem.W.nsIn K mainGlobals "MartError"=some (some (.ref M)))
  (gNn:PySem.W.nsIn K mainGlobals "NoNumber"=some (some (.ref Nn)))
  (gPr:PySem.W.nsIn K mainGlobals "NoPrices"=some (some (.ref Pr)))
  (ti1:PySem.W.kitOne K (.type "NoneType") (.type "int")=some false)
  (ti2:PySem.W.kitOne K (.type "bool") (.type "int")=some true)
  (ti3:PySem.W.kitOne K (.type "int") (.type "int")=some true)
  (ti4:PySem.W.kitOne K (.type "str") (.type "int")=some false)
  (ti5:PySem.W.kitOne K (.type "list") (.type "int")=some false)
  (ti6:PySem.W.kitOne K (.type "tuple") (.type "int")=some false)
  (tb1:PySem.W.kitOne K (.type "NoneType") (.type "bool")=some false)
  (tb2:PySem.W.kitOne K (.type "bool") (.type "bool")=some true)
  (tb3:PySem.W.kitOne K (.type "int") (.type "bool")=some false)
  (tb4:PySem.W.kitOne K (.type "str") (.type "bool")=some false)
  (tb5:PySem.W.kitOne K (.type "list") (.type "bool")=some false)
  (tb6:PySem.W.kitOne K (.type "tuple") (.type "bool")=some false)
  (tt1:PySem.W.kitOne K (.type "NoneType") (.type "tuple")=some false)
  (tt2:PySem.W.kitOne K (.type "bool") (.type "tuple")=some false)
  (tt3:PySem.W.kitOne K (.type "int") (.type "tuple")=some false)
  (tt4:PySem.W.kitOne K (.type "str") (.type "tuple")=some false)
  (tt5:PySem.W.kitOne K (.type "list") (.type "tuple")=some false)
  (tt6:PySem.W.kitOne K (.type "tuple") (.type "tuple")=some true)
  (eXNn:PySem.W.excIn K Nn [.type "ValueError",.type "Exception",.type "BaseException",.type "object"] "ValueError.__new__"=true)
  (eXPr:PySem.W.excIn K Pr [.type "ValueError",.type "Exception",.type "BaseException",.type "object"] "ValueError.__new__"=true) :
  ∃ fd:FuncData,(∀ (s:Shared) (v:Value),BindsTo s fd ⟨[v],[]⟩ [("script",v)])∧∀ base:Heap,K.In base→base.Ns mainGlobals mg→FnOk l.prog w K mg base CX0 10 fa fd ["script"] (spLaw K):=by
 obtain ⟨_,_,_,_,_,_,_,_,_,a0,l0,c0,k0⟩:=a0
 obtain ⟨_,_,_,_,_,_,_,_,_,a1,l1,c1,k1⟩:=a1
 obtain ⟨_,_,_,_,_,_,_,_,_,a2,l2,c2,k2⟩:=a2
 obtain ⟨_,_,_,_,_,_,_,_,_,a3,l3,c3,k3⟩:=a3
 obtain ⟨_,_,_,_,_,_,_,_,_,a4,l4,c4,k4⟩:=a4
 obtain ⟨_,_,_,_,_,_,_,_,_,a5,l5,c5,k5⟩:=a5
 obtain ⟨_,_,_,_,_,_,_,_,_,a6,l6,c6,k6⟩:=a6
 obtain ⟨_,_,_,_,_,_,_,_,_,a7,l7,c7,k7⟩:=a7
 obtain ⟨_,_,_,_,_,_,_,_,_,a8,l8,c8,k8⟩:=a8
 obtain ⟨_,_,_,_,_,_,_,_,_,a9,l9,c9,k9⟩:=a9
 obtain ⟨_,_,_,_,_,_,_,_,_,a10,l10,c10,k10⟩:=a10
 obtain ⟨_,_,_,_,_,_,_,_,_,a11,l11,c11,k11⟩:=a11
 obtain ⟨_,_,_,_,_,_,_,_,_,a12,l12,c12,k12⟩:=a12
 obtain ⟨_,_,_,_,_,_,_,_,_,a13,l13,c13,k13⟩:=a13
 obtain ⟨_,_,_,_,_,_,_,_,_,a14,l14,c14,k14⟩:=a14
 obtain ⟨_,_,_,_,_,_,_,_,_,a15,l15,c15,k15⟩:=a15
 obtain ⟨_,_,_,_,_,_,_,_,_,a16,l16,c16,k16⟩:=a16
 obtain ⟨_,_,_,_,_,_,_,_,_,a17,l17,c17,k17⟩:=a17
 obtain ⟨_,_,_,_,_,_,_,_,_,a18,l18,c18,k18⟩:=a18
 obtain ⟨_,_,_,_,_,_,_,_,_,a19,l19,c19,k19⟩:=a19
 obtain ⟨_,_,_,_,_,_,_,_,_,a20,l20,c20,k20⟩:=a20
 obtain ⟨_,_,_,_,_,_,_,_,_,a21,l21,c21,k21⟩:=a21
 obtain ⟨_,_,_,_,_,_,_,_,_,a22,l22,c22,k22⟩:=a22
 obtain ⟨_,_,_,_,_,_,_,_,_,a23,l23,c23,k23⟩:=a23
 obtain ⟨_,_,_,_,_,_,_,_,_,a24,l24,c24,k24⟩:=a24
 obtain ⟨_,_,_,_,_,_,_,_,_,a25,l25,c25,k25⟩:=a25
 obtain ⟨_,_,_,_,_,_,_,_,_,a26,l26,c26,k26⟩:=a26
 obtain ⟨_,_,_,_,_,_,_,_,_,a27,l27,c27,k27⟩:=a27
 obtain ⟨_,_,_,_,_,_,_,_,_,a28,l28,c28,k28⟩:=a28
 obtain ⟨_,_,_,_,_,_,_,_,_,a29,l29,c29,k29⟩:=a29
 obtain ⟨_,_,_,_,_,_,_,_,_,a30,l30,c30,k30⟩:=a30
 obtain ⟨_,_,_,_,_,_,_,_,_,a31,l31,c31,k31⟩:=a31
 obtain ⟨_,_,_,_,_,_,_,_,_,a32,l32,c32,k32⟩:=a32
 obtain ⟨_,_,_,_,_,_,_,_,_,a33,l33,c33,k33⟩:=a33
 obtain ⟨_,_,_,_,_,_,_,_,_,a34,l34,c34,k34⟩:=a34
 obtain ⟨_,_,_,_,_,_,_,_,_,a35,l35,c35,k35⟩:=a35
 obtain ⟨_,_,_,_,_,_,_,_,_,a36,l36,c36,k36⟩:=a36
 obtain ⟨_,_,_,_,_,_,_,_,_,a37,l37,c37,k37⟩:=a37
 obtain ⟨_,_,_,_,_,_,_,_,_,a38,l38,c38,k38⟩:=a38
 obtain ⟨_,_,_,_,_,_,_,_,_,a39,l39,c39,k39⟩:=a39
 obtain ⟨_,_,_,_,_,_,_,_,_,a40,l40,c40,k40⟩:=a40
 obtain ⟨_,_,_,_,_,_,_,_,_,a41,l41,c41,k41⟩:=a41
 obtain ⟨_,_,_,_,_,_,_,_,_,a42,l42,c42,k42⟩:=a42
 obtain ⟨_,_,_,_,_,_,_,_,_,a43,l43,c43,k43⟩:=a43
 obtain ⟨_,_,_,_,_,_,_,_,_,a44,l44,c44,k44⟩:=a44
 obtain ⟨_,_,_,_,_,_,_,_,_,a45,l45,c45,k45⟩:=a45
 obtain ⟨_,_,_,_,_,_,_,_,_,a46,l46,c46,k46⟩:=a46
 obtain ⟨_,_,_,_,_,_,_,_,_,a47,l47,c47,k47⟩:=a47
 obtain ⟨_,_,_,_,_,_,_,_,_,a48,l48,c48,k48⟩:=a48
 obtain ⟨_,_,_,_,_,_,_,_,_,a49,l49,c49,k49⟩:=a49
 obtain ⟨_,_,_,_,_,_,_,_,_,a50,l50,c50,k50⟩:=a50
 obtain ⟨_,_,_,_,_,_,_,_,_,a51,l51,c51,k51⟩:=a51
 obtain ⟨oc52,od52,kV52,dc52,pm52,an52,cd52,ct52,sl52,a52,l52,c52,k52⟩:=a52
 have e:=hfa.symm.trans (PySem.W.mg_of X G a52)
 cases e
 have N:Nm mg:=⟨PySem.W.mg_none_of X G z0,PySem.W.mg_none_of X G z1,PySem.W.mg_none_of X G z2,PySem.W.mg_none_of X G z3,PySem.W.mg_none_of X G z4,PySem.W.mg_none_of X G z5,PySem.W.mg_none_of X G z6,PySem.W.mg_none_of X G z7,PySem.W.mg_none_of X G z8,PySem.W.mg_none_of X G z9,PySem.W.mg_none_of X G z10,PySem.W.mg_none_of X G z11,PySem.W.mg_none_of X G z12,PySem.W.mg_none_of X G z13,PySem.W.mg_none_of X G z14⟩
 have mZip:=PySem.W.mg_none_of X G yzip
 have Z:IsK K:=⟨ti1,ti2,ti3,ti4,ti5,ti6,tb1,tb2,tb3,tb4,tb5,tb6,tt1,tt2,tt3,tt4,tt5,tt6⟩
 have mMOST_GOODS:=PySem.W.mg_of X G nMOST_GOODS
 have mMOST_BUYERS:=PySem.W.mg_of X G nMOST_BUYERS
 have mMOST_PIECES:=PySem.W.mg_of X G nMOST_PIECES
 have mMOST_WISH:=PySem.W.mg_of X G nMOST_WISH
 have mMOST_IN_PURSE:=PySem.W.mg_of X G nMOST_IN_PURSE
 have mgM:=PySem.W.mg_of X G gM
 have mgNn:=PySem.W.mg_of X G gNn
 have mgPr:=PySem.W.mg_of X G gPr
 have F0:=jc1 (st:=top 5) l0 c0 k0
 have b0:=F0.binds (ps:=["thing"]) fun _ _ _ _ _ _ us hl=>match us,hl with | [_],_=>rfl
 have F1:=jc1 (st:=top 6) l1 c1 k1
 have b1:=F1.binds (ps:=["thing"]) fun _ _ _ _ _ _ us hl=>match us,hl with | [_],_=>rfl
 have F2:=jc1 (st:=top 7) l2 c2 k2
 have b2:=F2.binds (ps:=["one","other"]) fun _ _ _ _ _ _ us hl=>match us,hl with | [_,_],_=>rfl
 have F3:=jc1 (st:=top 8) l3 c3 k3
 have b3:=F3.binds (ps:=["top","bottom"]) fun _ _ _ _ _ _ us hl=>match us,hl with | [_,_],_=>rfl
 have F4:=jc1 (st:=top 9) l4 c4 k4
 have b4:=F4.binds (ps:=["one","other"]) fun _ _ _ _ _ _ us hl=>match us,hl with | [_,_],_=>rfl
 have F5:=jc1 (st:=top 10) l5 c5 k5
 have b5:=F5.binds (ps:=["one","other"]) fun _ _ _ _ _ _ us hl=>match us,hl with | [_,_],_=>rfl
 have F6:=jc1 (st:=top 11) l6 c6 k6
 have b6:=F6.binds (ps:=["one","other"]) fun _ _ _ _ _ _ us hl=>match us,hl with | [_,_],_=>rfl
 have F7:=jc1 (st:=top 12) l7 c7 k7
 have b7:=F7.binds (ps:=["one","other"]) fun _ _ _ _ _ _ us hl=>match us,hl with | [_,_],_=>rfl
 have F8:=jc1 (st:=top 13) l8 c8 k8
 have b8:=F8.binds (ps:=["parts"]) fun _ _ _ _ _ _ us hl=>match us,hl with | [_],_=>rfl
 have F9:=jc1 (st:=top 14) l9 c9 k9
 have b9:=F9.binds (ps:=["parts"]) fun _ _ _ _ _ _ us hl=>match us,hl with | [_],_=>rfl
 have F10:=jc1 (st:=top 16) l10 c10 k10
 have b10:=F10.binds (ps:=["market","thing"]) fun _ _ _ _ _ _ us hl=>match us,hl with | [_,_],_=>rfl
 have F11:=jc1 (st:=top 17) l11 c11 k11
 have b11:=F11.binds (ps:=["thing","goods"]) fun _ _ _ _ _ _ us hl=>match us,hl with | [_,_],_=>rfl
 have F12:=jc1 (st:=top 18) l12 c12 k12
 have b12:=F12.binds (ps:=["dealing","good"]) fun _ _ _ _ _ _ us hl=>match us,hl with | [_,_],_=>rfl
 have F13:=jc1 (st:=top 25) l13 c13 k13
 have b13:=F13.binds (ps:=["thing"]) fun _ _ _ _ _ _ us hl=>match us,hl with | [_],_=>rfl
 have F14:=jc1 (st:=top 26) l14 c14 k14
 have b14:=F14.binds (ps:=["thing"]) fun _ _ _ _ _ _ us hl=>match us,hl with | [_],_=>rfl
 have F15:=jc1 (st:=top 27) l15 c15 k15
 have b15:=F15.binds (ps:=["thing"]) fun _ _ _ _ _ _ us hl=>match us,hl with | [_],_=>rfl
 have F16:=jc1 (st:=top 28) l16 c16 k16
 have b16:=F16.binds (ps:=["thing","buyers","goods"]) fun _ _ _ _ _ _ us hl=>match us,hl with | [_,_,_],_=>rfl
 have F17:=jc1 (st:=top 29) l17 c17 k17
 have b17:=F17.binds (ps:=["thing","goods"]) fun _ _ _ _ _ _ us hl=>match us,hl with | [_,_],_=>rfl
 have F18:=jc1 (st:=top 30) l18 c18 k18
 have b18:=F18.binds (ps:=["thing"]) fun _ _ _ _ _ _ us hl=>match us,hl with | [_],_=>rfl
 have F19:=jc1 (st:=top 31) l19 c19 k19
 have b19:=F19.binds (ps:=["thing"]) fun _ _ _ _ _ _ us hl=>match us,hl with | [_],_=>rfl
 have F20:=jc1 (st:=top 32) l20 c20 k20
 have b20:=F20.binds (ps:=["thing"]) fun _ _ _ _ _ _ us hl=>match us,hl with | [_],_=>rfl
 have F21:=jc1 (st:=top 33) l21 c21 k21
 have b21:=F21.binds (ps:=["market"]) fun _ _ _ _ _ _ us hl=>match us,hl with | [_],_=>rfl
 have F22:=jc1 (st:=top 35) l22 c22 k22
 have b22:=F22.binds (ps:=["market","thing"]) fun _ _ _ _ _ _ us hl=>match us,hl with | [_,_],_=>rfl
 have F23:=jc1 (st:=top 36) l23 c23 k23
 have b23:=F23.binds (ps:=["market","thing"]) fun _ _ _ _ _ _ us hl=>match us,hl with | [_,_],_=>rfl
 have F24:=jc1 (st:=top 37) l24 c24 k24
 have b24:=F24.binds (ps:=["market","prices"]) fun _ _ _ _ _ _ us hl=>match us,hl with | [_,_],_=>rfl
 have F25:=jc1 (st:=top 38) l25 c25 k25
 have b25:=F25.binds (ps:=["row","prices"]) fun _ _ _ _ _ _ us hl=>match us,hl with | [_,_],_=>rfl
 have F26:=jc1 (st:=top 39) l26 c26 k26
 have b26:=F26.binds (ps:=["wish","price"]) fun _ _ _ _ _ _ us hl=>match us,hl with | [_,_],_=>rfl
 have F27:=jc1 (st:=top 41) l27 c27 k27
 have b27:=F27.binds (ps:=["market","prices","dealing"]) fun _ _ _ _ _ _ us hl=>match us,hl with | [_,_,_],_=>rfl
 have F28:=jc1 (st:=top 42) l28 c28 k28
 have b28:=F28.binds (ps:=["market","dealing"]) fun _ _ _ _ _ _ us hl=>match us,hl with | [_,_],_=>rfl
 have F29:=jc1 (st:=top 43) l29 c29 k29
 have b29:=F29.binds (ps:=["best","dealing"]) fun _ _ _ _ _ _ us hl=>match us,hl with | [_,_],_=>rfl
 have F30:=jc1 (st:=top 44) l30 c30 k30
 have b30:=F30.binds (ps:=["market","prices","dealing"]) fun _ _ _ _ _ _ us hl=>match us,hl with | [_,_,_],_=>rfl
 have F31:=jc1 (st:=top 46) l31 c31 k31
 have b31:=F31.binds (ps:=["script","k"]) fun _ _ _ _ _ _ us hl=>match us,hl with | [_,_],_=>rfl
 have F32:=jc1 (st:=top 47) l32 c32 k32
 have b32:=F32.binds (ps:=["bag","many"]) fun _ _ _ _ _ _ us hl=>match us,hl with | [_,_],_=>rfl
 have F33:=jc1 (st:=top 48) l33 c33 k33
 have b33:=F33.binds (ps:=["top","bottom"]) fun _ _ _ _ _ _ us hl=>match us,hl with | [_,_],_=>rfl
 have F34:=jc1 (st:=top 49) l34 c34 k34
 have b34:=F34.binds (ps:=["one","other"]) fun _ _ _ _ _ _ us hl=>match us,hl with | [_,_],_=>rfl
 have F35:=jc1 (st:=top 50) l35 c35 k35
 have b35:=F35.binds (ps:=["one","other"]) fun _ _ _ _ _ _ us hl=>match us,hl with | [_,_],_=>rfl
 have F36:=jc1 (st:=top 51) l36 c36 k36
 have b36:=F36.binds (ps:=["one","other"]) fun _ _ _ _ _ _ us hl=>match us,hl with | [_,_],_=>rfl
 have F37:=jc1 (st:=top 52) l37 c37 k37
 have b37:=F37.binds (ps:=["one","other"]) fun _ _ _ _ _ _ us hl=>match us,hl with | [_,_],_=>rfl
 have F38:=jc1 (st:=top 53) l38 c38 k38
 have b38:=F38.binds (ps:=["one","other"]) fun _ _ _ _ _ _ us hl=>match us,hl with | [_,_],_=>rfl
 have F39:=jc1 (st:=top 54) l39 c39 k39
 have b39:=F39.binds (ps:=["some"]) fun _ _ _ _ _ _ us hl=>match us,hl with | [_],_=>rfl
 have F40:=jc1 (st:=top 55) l40 c40 k40
 have b40:=F40.binds (ps:=["thing"]) fun _ _ _ _ _ _ us hl=>match us,hl with | [_],_=>rfl
 have F41:=jc1 (st:=top 59) l41 c41 k41
 have b41:=F41.binds (ps:=["market"]) fun _ _ _ _ _ _ us hl=>match us,hl with | [_],_=>rfl
 have F42:=jc1 (st:=top 60) l42 c42 k42
 have b42:=F42.binds (ps:=["market","prices"]) fun _ _ _ _ _ _ us hl=>match us,hl with | [_,_],_=>rfl
 have F43:=jc1 (st:=top 61) l43 c43 k43
 have b43:=F43.binds (ps:=["market","thing"]) fun _ _ _ _ _ _ us hl=>match us,hl with | [_,_],_=>rfl
 have F44:=jc1 (st:=top 62) l44 c44 k44
 have b44:=F44.binds (ps:=["market","prices","dealing"]) fun _ _ _ _ _ _ us hl=>match us,hl with | [_,_,_],_=>rfl
 have F45:=jc1 (st:=top 63) l45 c45 k45
 have b45:=F45.binds (ps:=["bag"]) fun _ _ _ _ _ _ us hl=>match us,hl with | [_],_=>rfl
 have F46:=jc1 (st:=top 64) l46 c46 k46
 have b46:=F46.binds (ps:=["bag","thing","deep"]) fun _ _ _ _ _ _ us hl=>match us,hl with | [_,_,_],_=>rfl
 have F47:=jc1 (st:=top 65) l47 c47 k47
 have b47:=F47.binds (ps:=["bag"]) fun _ _ _ _ _ _ us hl=>match us,hl with | [_],_=>rfl
 have F48:=jc1 (st:=top 66) l48 c48 k48
 have b48:=F48.binds (ps:=["bag","dealing"]) fun _ _ _ _ _ _ us hl=>match us,hl with | [_,_],_=>rfl
 have F49:=jc1 (st:=top 67) l49 c49 k49
 have b49:=F49.binds (ps:=["bag","prices","dealing"]) fun _ _ _ _ _ _ us hl=>match us,hl with | [_,_,_],_=>rfl
 have F50:=jc1 (st:=top 68) l50 c50 k50
 have b50:=F50.binds (ps:=["bag","market","prices","dealing"]) fun _ _ _ _ _ _ us hl=>match us,hl with | [_,_,_,_],_=>rfl
 have F51:=jc1 (st:=top 69) l51 c51 k51
 have b51:=F51.binds (ps:=["market","prices","dealing"]) fun _ _ _ _ _ _ us hl=>match us,hl with | [_,_,_],_=>rfl
 have F52:=jc1 (st:=top 70) l52 c52 k52
 refine ⟨PySem.W.fnOf "law" "law" (defArgs (top 70)) (defBody (top 70)) (ja3 (top 70)) .none kV52 dc52 pm52 an52 cd52 ct52,fun s v=>.of_eq rfl,fun base _ _=>?_⟩
 have W:Cal K mg l.prog w base "is_whole" 1 ["thing"] (spT ji3) f0 _:=⟨ok_whole F0 N Z,PySem.W.mg_of X G a0,k0,b0⟩
 have Gc:Cal K mg l.prog w base "common_divisor" 1 ["one","other"] spGcd f2 _:=⟨ok_gcd F2 N,PySem.W.mg_of X G a2,k2,b2⟩
 have Gn:Cal K mg l.prog w base "common_divisor" 1 ["one","other"] spGcdN f2 _:=⟨ok_gcdN F2 N,PySem.W.mg_of X G a2,k2,b2⟩
 have IF:Cal K mg l.prog w base "is_fraction" 2 ["thing"] (spT isFrac) f1 _:=⟨ok_isfrac F1 N Z W Gc,PySem.W.mg_of X G a1,k1,b1⟩
 have Fr:CalX K mg l.prog w base "fraction" 2 ["top","bottom"] (spFr Nn) f3 _:=⟨ok_fraction F3 mgNn eXNn Gn,PySem.W.mg_of X G a3,k3,b3⟩
 have Pl:CalX K mg l.prog w base "plus" 3 ["one","other"] (sp2 qPl) f4 _:=⟨ok_plus F4 Fr,PySem.W.mg_of X G a4,k4,b4⟩
 have Ti:CalX K mg l.prog w base "times" 3 ["one","other"] (sp2 qTi) f5 _:=⟨ok_times F5 Fr,PySem.W.mg_of X G a5,k5,b5⟩
 have Ov:CalX K mg l.prog w base "over" 3 ["one","other"] (spOver Nn) f6 _:=⟨ok_over F6 Fr,PySem.W.mg_of X G a6,k6,b6⟩
 have Ls:Cal K mg l.prog w base "less" 1 ["one","other"] spLess f7 _:=⟨ok_less F7,PySem.W.mg_of X G a7,k7,b7⟩
 have To:Cal K mg l.prog w base "total" 4 ["parts"] spTot f8 _:=⟨ok_total F8 Pl,PySem.W.mg_of X G a8,k8,b8⟩
 have Gr:Cal K mg l.prog w base "greatest" 2 ["parts"] spGre f9 _:=⟨ok_greatest F9 Ls,PySem.W.mg_of X G a9,k9,b9⟩
 have Wi:Cal K mg l.prog w base "wished" 1 ["market"] spWis f21 _:=⟨ok_wished F21 N,PySem.W.mg_of X G a21,k21,b21⟩
 have Ra:Cal K mg l.prog w base "rate" 4 ["wish","price"] spRate f26 _:=⟨ok_rate F26 Ov,PySem.W.mg_of X G a26,k26,b26⟩
 have Ar:Cal K mg l.prog w base "are_prices" 3 ["market","thing"] spAre f22 _:=⟨ok_are F22 N Z IF Wi,PySem.W.mg_of X G a22,k22,b22⟩
 have Ne:CalX K mg l.prog w base "need_prices" 4 ["market","thing"] (spNeed Pr) f23 _:=⟨ok_need F23 mgPr eXPr Ar,PySem.W.mg_of X G a23,k23,b23⟩
 have Bb:Cal K mg l.prog w base "best_by_wishes" 5 ["row","prices"] spBB f25 _:=⟨ok_bb F25 N Ra Gr,PySem.W.mg_of X G a25,k25,b25⟩
 have Be:CalX K mg l.prog w base "best_goods" 6 ["market","prices"] (spBest Pr) f24 _:=⟨ok_bg F24 N Ne Bb,PySem.W.mg_of X G a24,k24,b24⟩
 have Iam:Cal K mg l.prog w base "is_amount" 2 ["thing"] (spT (within 1 60)) f18 _:=⟨ok_amount F18 N mMOST_PIECES W,PySem.W.mg_of X G a18,k18,b18⟩
 have Iwi:Cal K mg l.prog w base "is_wish" 2 ["thing"] (spT (within 0 100)) f20 _:=⟨ok_wish F20 N mMOST_WISH W,PySem.W.mg_of X G a20,k20,b20⟩
 have Ipu:Cal K mg l.prog w base "is_purse" 3 ["thing"] (spT jd4) f19 _:=⟨ok_ispurse F19 N mMOST_IN_PURSE IF,PySem.W.mg_of X G a19,k19,b19⟩
 have Iwr:Cal K mg l.prog w base "is_wish_row" 3 ["thing","goods"] (spRow 0 100) f17 _:=⟨ok_wishrow F17 N Z Iwi,PySem.W.mg_of X G a17,k17,b17⟩
 have Iaa:Cal K mg l.prog w base "are_amounts" 3 ["thing"] (spT (isAs (within 1 60))) f14 _:=⟨ok_amounts F14 N mMOST_GOODS Z Iam,PySem.W.mg_of X G a14,k14,b14⟩
 have Iap:Cal K mg l.prog w base "are_purses" 4 ["thing"] (spT (isAs jd4)) f15 _:=⟨ok_purses F15 N mMOST_BUYERS Z Ipu,PySem.W.mg_of X G a15,k15,b15⟩
 have Iaw:Cal K mg l.prog w base "are_wishes" 4 ["thing","buyers","goods"] spWs f16 _:=⟨ok_arewishes F16 N Z Iwr,PySem.W.mg_of X G a16,k16,b16⟩
 have IM:Cal K mg l.prog w base "is_market" 5 ["thing"] (spT isMk) f13 _:=⟨ok_ismarket F13 N Z Iaa Iap Iaw,PySem.W.mg_of X G a13,k13,b13⟩
 have Dr:Cal K mg l.prog w base "is_dealt_row" 3 ["thing","goods"] spDRow f11 _:=⟨ok_dr F11 N Z IF,PySem.W.mg_of X G a11,k11,b11⟩
 have IDl:Cal K mg l.prog w base "is_dealing" 4 ["market","thing"] spIsDl f10 _:=⟨ok_idl F10 N Z Dr,PySem.W.mg_of X G a10,k10,b10⟩
 have Gia:Cal K mg l.prog w base "got_in_all" 5 ["dealing","good"] spGot f12 _:=⟨ok_got F12 To,PySem.W.mg_of X G a12,k12,b12⟩
 have Sel:Cal K mg l.prog w base "sells_all" 6 ["market","dealing"] spSells f28 _:=⟨ok_sells F28 N Wi Gia,PySem.W.mg_of X G a28,k28,b28⟩
 have Spe:Cal K mg l.prog w base "spends_all" 5 ["market","prices","dealing"] spSpends f30 _:=⟨ok_spends F30 N mZip To Ti,PySem.W.mg_of X G a30,k30,b30⟩
 have Giv:Cal K mg l.prog w base "gives_best" 1 ["best","dealing"] spGives f29 _:=⟨ok_gives F29 N,PySem.W.mg_of X G a29,k29,b29⟩
 have Sh:Cal K mg l.prog w base "shows" 7 ["market","prices","dealing"] spShows f27 _:=⟨ok_shows F27 Be IDl Sel Giv Spe,PySem.W.mg_of X G a27,k27,b27⟩
 have Bg:Cal K mg l.prog w base "_law_bag" 1 ["script","k"] (spBag K) f31 _:=⟨ok_bag F31 N,PySem.W.mg_of X G a31,k31,b31⟩
 have T:Cal K mg l.prog w base "_law_take" 1 ["bag","many"] spTake f32 _:=⟨ok_take F32,PySem.W.mg_of X G a32,k32,b32⟩
 have Lf:Cal K mg l.prog w base "_law_frac" 1 ["top","bottom"] spFrac f33 _:=⟨ok_frac F33 N,PySem.W.mg_of X G a33,k33,b33⟩
 have LfQ:Cal K mg l.prog w base "_law_frac" 1 ["top","bottom"] spLf f33 _:=⟨ok_lf F33 N,PySem.W.mg_of X G a33,k33,b33⟩
 have Lws:Cal K mg l.prog w base "_law_wished" 1 ["market"] spLWished f41 _:=⟨ok_lwished F41 N,PySem.W.mg_of X G a41,k41,b41⟩
 have LmQ:Cal K mg l.prog w base "_law_mul" 2 ["one","other"] (sp2 qTi) f36 _:=⟨ok_law_mul F36 LfQ,PySem.W.mg_of X G a36,k36,b36⟩
 have La:Cal K mg l.prog w base "_law_add" 2 ["one","other"] (sp2 qPl) f34 _:=⟨ok_law_add F34 LfQ,PySem.W.mg_of X G a34,k34,b34⟩
 have Lsu:Cal K mg l.prog w base "_law_sub" 2 ["one","other"] (sp2 qMi) f35 _:=⟨ok_law_sub F35 LfQ,PySem.W.mg_of X G a35,k35,b35⟩
 have Ld:Cal K mg l.prog w base "_law_div" 2 ["one","other"] spDiv f37 _:=⟨ok_law_div F37 LfQ,PySem.W.mg_of X G a37,k37,b37⟩
 have Ll:Cal K mg l.prog w base "_law_less" 1 ["one","other"] spLess f38 _:=⟨ok_law_less F38,PySem.W.mg_of X G a38,k38,b38⟩
 have Su:Cal K mg l.prog w base "_law_sum" 3 ["some"] spSum f39 _:=⟨ok_sum F39 La,PySem.W.mg_of X G a39,k39,b39⟩
 have LB:Cal K mg l.prog w base "_law_best" 1 ["market","prices"] spLBest f42 _:=⟨ok_lbest F42 N,PySem.W.mg_of X G a42,k42,b42⟩
 have Li:Cal K mg l.prog w base "_law_is_fraction" 2 ["thing"] (spTs isFrac) f40 _:=⟨ok_lisfrac F40 N Z Lf,PySem.W.mg_of X G a40,k40,b40⟩
 have LDl:Cal K mg l.prog w base "_law_is_dealing" 3 ["market","thing"] spLIsDl f43 _:=⟨ok_lidl F43 N Z Li,PySem.W.mg_of X G a43,k43,b43⟩
 have LSh:Cal K mg l.prog w base "_law_shows" 4 ["market","prices","dealing"] spLShows f44 _:=⟨ok_lshows F44 N LB Su Lws La LmQ,PySem.W.mg_of X G a44,k44,b44⟩
 have Od:Cal K mg l.prog w base "_law_odd" 2 ["bag"] (MI.spM K MI.fOdd) f45 _:=⟨okm_odd F45 T,PySem.W.mg_of X G a45,k45,b45⟩
 have Re:Cal K mg l.prog w base "_law_replaced" 6 ["bag","thing","deep"] (MI.spM K (MI.fRep 4)) f46 _:=⟨okm_rep F46 N Z T Od (PySem.W.mg_of X G a46) k46 b46 4,PySem.W.mg_of X G a46,k46,b46⟩
 have Kn:Cal K mg l.prog w base "_law_known" 4 ["bag"] (MI.spM K MI.fKnown) f47 _:=⟨ok_known F47 N mZip T LfQ Su LmQ,PySem.W.mg_of X G a47,k47,b47⟩
 have Mv:Cal K mg l.prog w base "_law_moved" 3 ["bag","dealing"] (MI.spM K MI.fMoved) f48 _:=⟨ok_mo F48 N T LfQ LmQ Lsu La,PySem.W.mg_of X G a48,k48,b48⟩
 have Ri:Cal K mg l.prog w base "_law_ring" 3 ["bag","prices","dealing"] (MI.spM K MI.fRing) f49 _:=⟨ok_ri F49 N T LmQ Ld Ll La,PySem.W.mg_of X G a49,k49,b49⟩
 have Al:Cal K mg l.prog w base "_law_all_right" 8 ["market","prices","dealing"] spAllR f51 _:=⟨ok_allr F51 N Z LDl LSh Sh,PySem.W.mg_of X G a51,k51,b51⟩
 have Fe:Cal K mg l.prog w base "_law_free_right" 9 ["bag","market","prices","dealing"] (MI.spM K MI.fFreeR) f50 _:=⟨ok_fr F50 N T Al,PySem.W.mg_of X G a50,k50,b50⟩
 exact ok_law F52 N Bg T Kn IM Sh LmQ Mv Ri Re Al Fe
theorem walk {l:PySem.W.OpenLaw} {q:Program} {loose:List Str} {XP:(Str→Option Value)→Heap→Prop} {YP:World→Heap→Prop} {d:DefRec} {K:Params→PySem.W.Frag} (hn:l.most=some 63) (hdf:d.params.defaults=[])
  (hY:∀ (w:World) (h:Heap),YP w h→(K w.params).In h)
  (F:∀ (w:World) (mg:Str→Option Value) (fa:Addr) (h:Heap),(K w.params).In h→h.Ns mainGlobals mg→mg d.name=some (.ref fa) →
   ∃ fd:FuncData,(∀ (s:Shared) (u:Value),BindsTo s fd ⟨[u],[]⟩ [("script",u)])∧∀ base:Heap,(K w.params).In base→base.Ns mainGlobals mg→FnOk l.prog w (K w.params) mg base CX0 10 fa fd ["script"] (spLaw (K w.params))) :
  PySem.W.WalkO q loose XP YP l.row.toRowW d [] (fun f vs=>PySem.call f vs) :=
 L2.walk_of (n:=63) (k:=10) (x:="script") (CX:=fun _=>CX0) (sp:=fun w=>spLaw (K w.params)) hn (by decide) hdf ⟨rfl,by decide,by decide⟩ hY F (fun _ _ a ns hl _ hS=>⟨a,ns,rfl,hS,hl,fun _=>rfl⟩) fun _ _ _ _ _ z=>z
end K15
open PySem PySem.W PyProof.Rows
def PySem.W.Fast.tw14863858317796735619:Nat:=0
def PySem.W.Fast.tw5851480959810727662:Nat:=0
def PySem.W.Fast.tw10686614182707822995:Nat:=0
def PySem.W.Fast.tw16313868240422730031:Nat:=0
def PySem.W.Fast.tw5619025912886203897:Nat:=0
def PySem.W.Fast.tw18064179764746711666:Nat:=0
def PySem.W.Fast.tw17093280316428319530:Nat:=0
def PySem.W.Fast.tw2685792179996368550:Nat:=0
def PySem.W.Fast.tw13841856947305939761:Nat:=0
def PySem.W.Fast.tw11740213545879635482:Nat:=0
def PySem.W.Fast.tw6950617813644309467:Nat:=0
def PySem.W.Fast.tw12076216171881063517:Nat:=0
def PySem.W.Fast.tw128100880346152768:Nat:=0
def PySem.W.Fast.tw8626004944487969092:Nat:=0
def PySem.W.Fast.tw6162521875235032916:Nat:=0
def PySem.W.Fast.tw2375409397281298029:Nat:=0
def PySem.W.Fast.tw6703058141715768835:Nat:=0
def PySem.W.Fast.tw10771178925386921654:Nat:=0
def PySem.W.Fast.tw7375118306859527747:Nat:=0
def PySem.W.Fast.tw6976592956518371043:Nat:=0
def PySem.W.Fast.tw8427199233016090843:Nat:=0
def PySem.W.Fast.tw599339433738382666:Nat:=0
def PySem.W.Fast.tw2623839161451626077:Nat:=0
def PySem.W.Fast.tw13487776054799031795:Nat:=0
def PySem.W.Fast.tw7751386368586301276:Nat:=0
def PySem.W.Fast.tw17166151719550799592:Nat:=0
def PySem.W.Fast.tw10055645031876922549:Nat:=0
def PySem.W.Fast.tw476232333480708144:Nat:=0
def PySem.W.Fast.tw11092039227852971011:Nat:=0
def PySem.W.Fast.tw7564970130755374575:Nat:=0
def PySem.W.Fast.tw15017314552703471878:Nat:=0
def PySem.W.Fast.tw12335704711638226241:Nat:=0
def PySem.W.Fast.tw13487368658125607202:Nat:=0
def PySem.W.Fast.tw5927214159982055028:Nat:=0
def PySem.W.Fast.tw11868901482475974799:Nat:=0
def PySem.W.Fast.tw264898392872671591:Nat:=0
def PySem.W.Fast.tw4556935215586872979:Nat:=0
def PySem.W.Fast.tw17421079937705230027:Nat:=0
def PySem.W.Fast.tw7610485567736809200:Nat:=0
def PySem.W.Fast.tw9221659211201838972:Nat:=0
def PySem.W.Fast.tw12135226342858844417:Nat:=0
def PySem.W.Fast.tw5179033247952918785:Nat:=0
def PySem.W.Fast.tw11952050650376681987:Nat:=0
def PySem.W.Fast.tw8989084961565537973:Nat:=0
def PySem.W.Fast.tw5050597246147964058:Nat:=0
def PySem.W.Fast.tw16624759452369232451:Nat:=0
def PySem.W.Fast.tw12777644779803302883:Nat:=0
def PySem.W.Fast.tw17083509495725471017:Nat:=0
def PySem.W.Fast.tw4397313584017500477:Nat:=0
def PySem.W.Fast.tw1342675579489286511:Nat:=0
def PySem.W.Fast.tw3475088172082007230:Nat:=0
def PySem.W.Fast.tw10184005389527580785:Nat:=0
def PySem.W.Fast.tw11016772995183902153:Nat:=0
def PySem.W.Fast.tw15039235442454366922:Nat:=0
def PySem.W.Fast.tw810312650481290876:Nat:=0
def PySem.W.Fast.tw6079391843930178465:Nat:=0
def PySem.W.Fast.tw5722696635763019920:Nat:=0
def PySem.W.Fast.tw4509838778208170935:Nat:=0
def PySem.W.Fast.tw9787034031138591861:Nat:=0
def PySem.W.Fast.tw13607008169528719822:Nat:=0
def PySem.W.Fast.tw9452026488085808019:Nat:=0
def PySem.W.Fast.tw14769409508058677359:Nat:=0
def PySem.W.Fast.tw15658792297192155649:Nat:=0
def PySem.W.Fast.tw260960399949473047:Nat:=0
def PySem.W.Fast.tw15950819982408574802:Nat:=0
def PySem.W.Fast.tw4450060304135252213:Nat:=0
def PySem.W.Fast.tw18171706145811591878:Nat:=0
def PySem.W.Fast.tw8170472697266552606:Nat:=0
def PySem.W.Fast.tw13567959040618755151:Nat:=0
def PySem.W.Fast.tw3367286114068550023:Nat:=0
def PySem.W.Fast.tw8968023104004342403:Nat:=0
def PySem.W.Fast.tw17967600179662455218:Nat:=0
def PySem.W.Fast.tw9984979694203178589:Nat:=0
def PySem.W.Fast.tw6847874647671694546:Nat:=0
def PySem.W.Fast.tw4707592755932537680:Nat:=0
def PySem.W.Fast.tw18245009230250832432:Nat:=0
def PySem.W.Fast.tw13407608694471898837:Nat:=0
def PySem.W.Fast.tw13555364377978527065:Nat:=0
def PySem.W.Fast.tw13769609161341506407:Nat:=0
def PySem.W.Fast.tw5254100492807063605:Nat:=0
def PySem.W.Fast.tw5795296642926724428:Nat:=0
def PySem.W.Fast.tw10711082178318642563:Nat:=0
def PySem.W.Fast.tw9056725406774213097:Nat:=0
def PySem.W.Fast.tw4593904486133303892:Nat:=0
def PySem.W.Fast.tw3887975236091379912:Nat:=0
def PySem.W.Fast.tw15246997965719350482:Nat:=0
def PySem.W.Fast.tw17752158996907997579:Nat:=0
def PySem.W.Fast.tw14071505858275621471:Nat:=0
def PySem.W.Fast.tw324269358953294120:Nat:=0
def PySem.W.Fast.tw10947111061450398650:Nat:=0
def PySem.W.Fast.tw18263094181450038243:Nat:=0
def PySem.W.Fast.tw8616096482183161896:Nat:=0
def PySem.W.Fast.tw8463945842413518297:Nat:=0
def PySem.W.Fast.tw7818509729231537013:Nat:=0
def PySem.W.Fast.tw8924784990125705026:Nat:=0
def PySem.W.Fast.tw13859051773503648714:Nat:=0
def PySem.W.Fast.tw12797012578910315050:Nat:=0
set_option maxRecDepth 100000 in
set_option maxHeartbeats 0 in
theorem PySem.Challenge.cw_wishmart_k15_shown_or_not_holds : PySem.Challenge.rw_wishmart_k15_shown_or_not.Holds := by
 w_on; o_law; k_head; (case hw=>w_witness2)
 k_fill
 refine K15.walk (l:=PySem.Challenge.rw_wishmart_k15_shown_or_not) rfl rfl (fun w h Y=>PySem.W.kIn_of Y) ?F
 case F =>
  intro w mg fa h KX G hmg
  refine' K15.all_mk KX G hmg ?a0 ?a1 ?a2 ?a3 ?a4 ?a5 ?a6 ?a7 ?a8 ?a9 ?a10 ?a11 ?a12 ?a13 ?a14 ?a15 ?a16 ?a17 ?a18 ?a19 ?a20 ?a21 ?a22 ?a23 ?a24 ?a25 ?a26 ?a27 ?a28 ?a29 ?a30 ?a31 ?a32 ?a33 ?a34 ?a35 ?a36 ?a37 ?a38 ?a39 ?a40 ?a41 ?a42 ?a43 ?a44 ?a45 ?a46 ?a47 ?a48 ?a49 ?a50 ?a51 ?a52 ?z0 ?z1 ?z2 ?z3 ?z4 ?z5 ?z6 ?z7 ?z8 ?z9 ?z10 ?z11 ?z12 ?z13 ?z14 ?yzip ?nMOST_GOODS ?nMOST_BUYERS ?nMOST_PIECES ?nMOST_WISH ?nMOST_IN_PURSE ?gM ?gNn ?gPr ?ti1 ?ti2 ?ti3 ?ti4 ?ti5 ?ti6 ?tb1 ?tb2 ?tb3 ?tb4 ?tb5 ?tb6 ?tt1 ?tt2 ?tt3 ?tt4 ?tt5 ?tt6 ?eXNn ?eXPr
  (case a0 | a1 | a2 | a3 | a4 | a5 | a6 | a7 | a8 | a9 | a10 | a11 | a12 | a13 | a14 | a15 | a16 | a17 | a18 | a19 | a20 | a21 | a22 | a23 | a24 | a25 | a26 | a27 | a28 | a29 | a30 | a31 | a32 | a33 | a34 | a35 | a36 | a37 | a38 | a39 | a40 | a41 | a42 | a43 | a44 | a45 | a46 | a47 | a48 | a49 | a50 | a51 | a52=>exact ⟨_,_,_,_,_,_,_,_,_,by k_is,by k_is,by k_is,by k_is⟩)
  (case z0 | z1 | z2 | z3 | z4 | z5 | z6 | z7 | z8 | z9 | z10 | z11 | z12 | z13 | z14 | yzip | nMOST_GOODS | nMOST_BUYERS | nMOST_PIECES | nMOST_WISH | nMOST_IN_PURSE | gM | gNn | gPr=>k_is)
  (case ti1 | ti2 | ti3 | ti4 | ti5 | ti6 | tb1 | tb2 | tb3 | tb4 | tb5 | tb6 | tt1 | tt2 | tt3 | tt4 | tt5 | tt6=>first | rfl | kit_is | k_is)
  (case eXNn | eXPr=>first | k_is | kit_is | rfl | kernel_rfl | decide +kernel)
