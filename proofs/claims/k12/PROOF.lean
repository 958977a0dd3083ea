import PyProof.Rows.All
import Wide.All
import OpenK.AllK
import Wide.FinOn
import Lean
import PyProof.EqAt
import PyProof.EqKinds
import PyProof.TupleCall
import KE.KMinKey
import PyProof.Rows.CallKwBuiltin
import PyProof.ListRange
import PyProof.Rows.SortWalk
import PySem.Challenge.RW_wishmart_k12_rises_by_hand
set_option Elab.async false
set_option linter.all false
set_option maxRecDepth 100000
set_option maxHeartbeats 8000000
set_option compiler.extract_closed false
noncomputable section
abbrev Γ1:=List (List Int)
abbrev Γ2:=List (PySem.Addr×PySem.Obj)
abbrev Γ3:=List Int
abbrev Δ1:=List Rat
abbrev Δ2:=List PySem.Str
abbrev Δ3:=List PySem.Value
abbrev Θ1:=PySem.W.Frag
abbrev Θ2:=PySem.Value->PySem.Shared->Prop
abbrev Θ3:=PySem.Str->Option PySem.Value
abbrev Ξ1:=List PySem.PyData
abbrev Ξ2:=List PySem.Expr
abbrev Φ1:=Option PySem.Value
abbrev Ψ8:List PySem.Str:=["market","prices"]
theorem Ψ9(N:List PySem.Str)(h:N.Nodup:=by decide+kernel):N.Nodup:=h
abbrev Za:=@List.length_map
abbrev Zb:=@PySem.wpAny_bind
abbrev Zc:=@List.getElem?_eq_getElem
abbrev Zd:=@List.mem_map
abbrev Ze:=@Nat.le_refl
abbrev Zf:=@List.getElem?_eq_some_iff
abbrev Zg:=@List.getElem_mem
abbrev Zh:=@List.getElem?_map
abbrev Zi:=@PySem.Heap.get?_push_of_some
abbrev Zj:=@List.map_map
abbrev Zk:=@Nat.le_trans
abbrev Zl:=@List.mem_cons
abbrev Zm:=@List.mem_cons_self
abbrev Zn:=@List.mem_filter
abbrev Zo:=@Int.toNat_natCast
abbrev Zp:=@PySem.Heap.lt_size
abbrev Zq:=@List.mem_cons_of_mem
abbrev Zr:=@List.map_append
abbrev Zs:=@List.map_cons
abbrev Zt:=@List.mem_append
abbrev Zu:=@List.mem_of_getElem?
abbrev Zv:=@List.any_eq_true
abbrev Zw:=@PySem.Heap.get?_push_size
abbrev Zy:=@List.mem_range
abbrev Zz:=@List.contains_iff_mem
abbrev Z0:=@Bool.and_eq_true
abbrev Z1:=@List.mem_append_right
abbrev Z2:=@List.mem_singleton
abbrev Z3:=@List.size_toArray
abbrev Z4:=@List.getElem?_append_left
abbrev Z5:=@List.length_append
abbrev Z6:=@Bool.false_ne_true
abbrev Z7:=@Rat.le_of_lt
abbrev Z8:=@PySem.boot_len
abbrev Z9:=@Nat.zero_le
abbrev Ya:=@Bool.eq_iff_iff
abbrev Yb:=@Nat.ne_of_lt
abbrev Yc:=@List.all_eq_true
abbrev Yd:=@List.take_length
abbrev Ye:=@List.append_nil
abbrev Yf:=@Rat.le_refl
abbrev Yg:=@Nat.lt_or_ge
abbrev Yh:=@Rat.not_lt
abbrev Yi:=@Rat.le_trans
abbrev Yj:=@Nat.lt_of_lt_of_le
abbrev Yk:=@List.length_filter_le
abbrev Yl:=@List.nodup_cons
abbrev Ym:=@List.length_take
abbrev Yn:=@List.filter_sublist
abbrev Yo:=@Rat.intCast_pos
abbrev Yp:=@PySem.W.mg_none_of
abbrev Yq:=@Nat.lt_irrefl
abbrev Yr:=@List.getElem?_set_ne
abbrev Ys:=@List.range_succ
abbrev Yt:=@List.getElem_of_mem
abbrev Yu:=@List.getElem?_set_self
abbrev Yv:=@List.getElem?_append_right
abbrev Yw:=@List.getElem?_eq_none
abbrev Yx:=@Rat.zero_add
abbrev Yy:=@List.length_range
abbrev Yz:=@PySem.Heap.get?_update_other
abbrev Y0:=@Option.map_some
abbrev Y1:=@Nat.pow_le_pow_right
abbrev Y2:=@List.map_congr_left
abbrev Y3:=@List.getElem?_range
abbrev Y4:=@Int.mul_pos
abbrev Y5:=@Rat.intCast_mul
abbrev Y6:=@Rat.mul_pos
abbrev Y7:=@List.filter_congr
abbrev Y8:=@PySem.Heap.size_push
abbrev Y9:=@List.all_cons
abbrev Xa:=@Int.toNat_of_nonneg
abbrev Xb:=@List.filter_append
abbrev Xc:=@List.map_id
abbrev Xd:=@Rat.num_divInt_den
abbrev Xe:=@Int.natAbs_mul
abbrev Xf:=@List.all_map
abbrev Xg:=@Bool.true_and
abbrev Xh:=@List.foldl_cons
abbrev Xi:=@Int.natAbs_natCast
abbrev Xj:=@PySem.mem_of_lookup
abbrev Xk:=@List.length_drop
abbrev Xl:=@Nat.le_of_not_lt
abbrev Xm:=@Option.getD_some
abbrev Xn:=@List.length_pos_iff
abbrev Xo:=@Rat.mul_zero
abbrev Xp:=@List.map_eq_nil_iff
abbrev Xq:=@Nat.ne_of_gt
abbrev Xr:=@List.any_cons
abbrev Xs:=@Nat.le_succ
abbrev Xt:=@List.append_assoc
abbrev Xu:=@Nat.mul_le_mul
abbrev Xv:=@PySem.Heap.get?_update_self
abbrev Xw:=@List.mem_append_left
abbrev Xx:=@List.length_set
abbrev Xy:=@List.length_cons
abbrev Xz:=@List.any_map
abbrev X0:=@Rat.divInt_eq_div
abbrev X1:=@Rat.zero_mul
abbrev X2:=@Rat.mul_le_mul_of_nonneg_left
abbrev X3:=@List.filter_cons_of_neg
abbrev X4:=@Int.emod_nonneg
abbrev X5:=@List.isEmpty_map
abbrev X6:=@List.filterMap_cons
abbrev X7:=@Option.isSome_iff_exists
abbrev X8:=@List.map_nil
abbrev X9:=@List.lookup_cons
abbrev Qa:=@Int.gcd_dvd_right
abbrev Qb:=@Int.lt_or_le
abbrev Qc:=@List.take_of_length_le
abbrev Qd:=@List.take_succ
abbrev Qe:=@List.find?_cons
abbrev Qf:=@Bool.and_false
abbrev Qg:=@List.filter_eq_nil_iff
abbrev Qh:=@List.sum_cons
abbrev Qi:=@Rat.mul_le_mul_of_nonneg_right
abbrev Qj:=@Bool.false_eq_true
abbrev Qk:=@List.filter_cons_of_pos
abbrev Ql:=@List.getElem?_replicate
abbrev Qm:=@Nat.lt_succ_of_lt
abbrev Qn:=@List.mem_iff_getElem
abbrev Qo:=@Bool.or_eq_true
abbrev Qp:=@Bool.not_eq_true
abbrev Qq:=@Int.ediv_le_self
abbrev Qr:=@Int.ediv_nonneg
abbrev Qs:=@Rat.intCast_lt_intCast
abbrev Qt:=@List.nodup_nil
abbrev Qu:=@List.not_mem_nil
abbrev Qv:=@List.nodup_append
abbrev Qw:=@List.length_eq_zero_iff
abbrev Qx:=@Int.emod_lt_of_pos
abbrev Qy:=@List.map_drop
abbrev Qz:=@Nat.lt_succ_iff_lt_or_eq
abbrev Q4:=@List.length_replicate
abbrev Q5:=@List.length_singleton
abbrev Q6:=@Nat.lt_succ_self
abbrev Q7:=@Int.gcd_pos_of_ne_zero_right
abbrev Q8:=@Int.gcd_dvd_left
abbrev Q9:=@Int.mul_fdiv_cancel_left
abbrev Ja:=@List.nodup_range
abbrev Jb:=@List.filter_filter
abbrev Jc:=@Rat.add_le_add_left
abbrev Jd:=@Rat.add_le_add_right
abbrev Je:=@Rat.le_of_mul_le_mul_right
abbrev Jf:=@List.mem_of_mem_take
abbrev Jg:=@Int.mul_ediv_cancel_left
abbrev Jh:=@Int.fdiv_eq_ediv_of_nonneg
abbrev Ji:=@Rat.divInt_eq_divInt_iff
abbrev Jj:=@List.exists_mem_of_ne_nil
namespace L2
open PySem PySem.Spec PyProof.Rows
abbrev b9:=Sum Int Str
def nN:b9->Value->Bool
 |.inl k,v=>Value.isInt k v
 |.inr x,v=>Value.isStrOf x v
def ZL (w:World):b9->Int
 |.inl k=>hashInt k
 |.inr x=>hashStr w x
theorem EW:∀{k:b9}{v:Value},nN k v=true->(∃i t,k=Sum.inl i/\v=Value.int i t)\/(∃x t,k=Sum.inr x/\v=Value.str x t)
 |.inl i,v,h=>by
  obtain⟨t,e⟩:=Value.isInt_shape (k:=i) (v:=v) h;exact .inl ⟨i,t,rfl,e⟩
 |.inr x,v,h=>by
  obtain⟨t,e⟩:=Value.isStrOf_shape (x:=x) (v:=v) h;exact .inr ⟨x,t,rfl,e⟩
def A3 (i:Int)(t:Tok):nN (.inl i) (.int i t)=true:=by simp[nN,Value.isInt]
def A2 (x:Str)(t:Tok):nN (.inr x) (.str x t)=true:=by simp[nN,Value.isStrOf]
def N8 (a b:Int):decide ((Sum.inl a:b9)=Sum.inl b)=(a == b):=by
 by_cases e:a=b
 .subst e;simp
 .have h:¬ (Sum.inl a:b9)=Sum.inl b:=λq=>e (Sum.inl.inj q)
  rw[decide_eq_false h];exact(beq_eq_false_iff_ne.mpr e).symm
def N5 (a b:Str):decide ((Sum.inr a:b9)=Sum.inr b)=decide (a=b):=by
 by_cases e:a=b
 .subst e;simp
 .have h:¬ (Sum.inr a:b9)=Sum.inr b:=λq=>e (Sum.inr.inj q)
  rw[decide_eq_false h,decide_eq_false e]
def N7 (a:Int)(b:Str):decide ((Sum.inl a:b9)=Sum.inr b)=false:=decide_eq_false (λq=>nomatch q)
def N6 (a:Str)(b:Int):decide ((Sum.inr a:b9)=Sum.inl b)=false:=decide_eq_false (λq=>nomatch q)
def l4 (prog:Program)(w:World):PySem.KeyKind prog w b9 where
 is:=nN
 hash:=ZL w
 inj:=λv a b ha hb=>by
  rcases EW ha with ⟨i,t,rfl,rfl⟩ |⟨x,t,rfl,rfl⟩
  .rcases EW hb with ⟨j,u,rfl,e⟩ |⟨y,u,rfl,e⟩
   .injection e with e1 _;rw[e1]
   .exact nomatch e
  .rcases EW hb with ⟨j,u,rfl,e⟩ |⟨y,u,rfl,e⟩
   .exact nomatch e
   .injection e with e1 _;rw[e1]
 byValue:=λk v h=>by
  rcases EW h with ⟨i,t,rfl,rfl⟩ |⟨x,t,rfl,rfl⟩<;>rfl
 pyHash:=λhv h=>by
  rcases EW hv with ⟨i,t,rfl,rfl⟩ |⟨x,t,rfl,rfl⟩
  .exact wpAny_pyHash_int h
  .exact wpAny_pyHash_str h
 eqBool:=λhu hv h=>by
  rcases EW hu with ⟨i,t,rfl,rfl⟩ |⟨x,t,rfl,rfl⟩
  .rcases EW hv with ⟨j,u,rfl,rfl⟩ |⟨y,u,rfl,rfl⟩
   .rw[N8] at h;exact wpAny_eqBool_int h
   .rw[N7] at h;exact SeqAt.EqAt.int_str i t y u _ _ _ _ h
  .rcases EW hv with ⟨j,u,rfl,rfl⟩ |⟨y,u,rfl,rfl⟩
   .rw[N6] at h;exact SeqAt.EqAt.str_int x t j u _ _ _ _ h
   .rw[N5] at h;exact wpAny_eqBool_str h
 «strs»:=λk x t v h=>by
  rcases EW h with ⟨i,u,rfl,e⟩ |⟨y,u,rfl,e⟩
  .exact nomatch e
  .injection e with e1 _
   subst e1;cases v<;>rfl
def uT (prog:Program)(w:World)(i:Int)(t:Tok):(l4 prog w).is (.inl i) (.int i t)=true:=A3 i t
def uS (prog:Program)(w:World)(x:Str)(t:Tok):(l4 prog w).is (.inr x) (.str x t)=true:=A2 x t
inductive V where
 |bZ |bl (b:Bool) |int (i:Int) |str (x:Str) |Aa (b:Array UInt8) |Pj (b:UInt64) |ref (a:Addr) |ty (n:String)
 deriving DecidableEq
def RelV:V->Value->Prop
 |.bZ,u=>u=Value.none
 |.bl b,u=>u=Value.bool b
 |.int i,u=>∃t,u=Value.int i t
 |.str x,u=>∃t,u=Value.str x t
 |.Aa b,u=>∃t,u=Value.bytes b t
 |.Pj b,u=>∃t,u=Value.float b t
 |.ref a,u=>u=Value.ref a
 |.ty n,u=>u=Value.type n
abbrev be:List V->Δ3->Prop:=Paired RelV
def be.length {xs:List V}{us:Δ3}(r:be xs us):xs.length=us.length:=Paired.length r
theorem be.get:∀{xs:List V}{us:Δ3}{i:Nat}{x:V},be xs us->xs[i]?=some x->∃u,us[i]?=some u/\RelV x u
 |_,_,_,_,.nil,e=>by simp at e
 |_,_,0,_,.cons r _,e=>by simp at e;subst e;exact⟨_,rfl,r⟩
 |_,_,i+1,x,.cons _ t,e=>by
  obtain⟨u,h1,h2⟩:=be.get (i:=i) (x:=x) t (by simpa using e);exact⟨u,by simpa using h1,h2⟩
theorem be.set {x:V}{u:Value}(r:RelV x u):∀{xs:List V}{us:Δ3}(i:Nat),be xs us->be (xs.set i x) (us.set i u)
 |_,_,_,.nil=>.nil
 |_,_,0,.cons _ t=>.cons r t
 |_,_,i+1,.cons q t=>.cons q (be.set r i t)
theorem be.append:∀{xs ys:List V}{us ws:Δ3},be xs us->be ys ws->be (xs++ys) (us++ws)
 |_,_,_,_,.nil,s=>s
 |_,_,_,_,.cons r t,s=>.cons r (be.append t s)
theorem be.take:∀{xs:List V}{us:Δ3}(n:Nat),be xs us->be (xs.take n) (us.take n)
 |_,_,0,_=>.nil
 |_,_,_+1,.nil=>.nil
 |_,_,n+1,.cons r t=>.cons r (be.take n t)
theorem be.drop:∀{xs:List V}{us:Δ3}(n:Nat),be xs us->be (xs.drop n) (us.drop n)
 |_,_,0,r=>r
 |_,_,_+1,.nil=>.nil
 |_,_,n+1,.cons _ t=>be.drop n t
def aJ:Option V->Φ1->Prop
 |some v,some u=>RelV v u
 |none,none=>True
 |_,_=>False
def KV {κ : Type}:List (κ × V)->List (κ × Value)->Prop:=Paired λ(p:κ × V) (q:κ × Value)=>p.1=q.1/\RelV p.2 q.2
def kV:b9->V
 |.inl i=>.int i
 |.inr x=>.str x
inductive HO where
 |lst (xs:List V)
 |tup (xs:List V)
 |dK (kvs:List (b9×V)) |dT (kvs:List (List b9×V))
 |set (S:Int->Bool) (n:Nat)
 |ins (C dx:Addr) (fs:List (Str×V))
 |own (x:Addr)
 |xd (fs:List (Str×V))
 |met (f x:Addr)
 |Uh (lo hi:Int)
 |iE (o:Obj) (u:HO)
 |IH (ps:Array Value)
 |ext (φ : Heap->Prop)
abbrev Hp:=Addr->Option HO
def aF (H:Hp)(a:Addr)(o:HO):Hp:=λb=>if b=a then some o else H b
def cx {H:Hp}{a:Addr}{o:HO}:aF H a o a=some o:=by unfold aF;rw[if_pos rfl]
def dj {H:Hp}{a b:Addr}{o:HO}(h:b≠a):aF H a o b=H b:=by unfold aF;rw[if_neg h]
def xW {H:Hp}{a b:Addr}{o u:HO}(h:H a=some o)(h':H b=some u)(d:o≠u):a≠b:=by
 intro e;subst e;rw[h] at h';exact d (Option.some.inj h')
def BC {H:Hp}{a b:Addr}{o:HO}(h:H a=some o)(h':H b=none):a≠b:=by
 intro e;subst e;rw[h] at h';cases h'
section
variable (P:Program)(w:World)
def bY (H:Hp)(h:Heap)(a:Addr):HO->Prop
 |.lst xs=>xs.length<=sizeLine/\∃(its:Δ3) (n:Nat),be xs its/\h.get? a=some { cls:=.type "list",data:=.seq its.toArray n }
 |.tup xs=>xs.length<=sizeLine/\∃its:Δ3,be xs its/\IsTup h a its.toArray
 |.dK kvs=>kvs.length<=sizeLine/\(a == sysModules)=false/\∃vs,KV kvs vs/\h.DictOf (l4 P w) a vs
 |.dT kvs=>kvs.length<=sizeLine/\(a == sysModules)=false/\∃xs:List (List b9×Addr×Value),
   Paired (λ(p:List b9×V) (q:List b9×Addr×Value)=>p.1=q.1/\H q.2.1=some (.tup (p.1.map kV))/\RelV p.2 q.2.2) kvs xs /\
   ∃o es ep,h.get? a=some o/\o.ExactDict/\o.data=.dict es ep/\es.toList=xs.map (entryOfKey (tupleKind (l4 P w)))/\(xs.map (·.1)).Nodup
 |.set S n=>h.SetOf (intKind P w) a S n
 |.ins C dx fs=>H dx=some (.own a)/\fs.length<=1000/\dx≠a/\h.get? a=some (PySem.W.instObj C dx) /\
   ∃mA,h.Ns1 dx mA/\(∀f,aJ (fs.lookup f) (mA f))/\PySem.Within mA (fs.map (·.1))
 |.own _=>∃o,h.get? a=some o
 |.xd fs=>∃mA,h.Ns1 a mA/\∀f,aJ (fs.lookup f) (mA f)
 |.Uh lo hi=>∃t u v,h.get? a=some { cls:=.type "range",data:=.fields #[.int lo t,.int hi u,.int 1 v] }
 |.iE o u=>h.get? a=some o/\bY H h a u
 |.IH ps=>h.get? a=some { cls:=.none,data:=.fields ps }
 |.met f x=>h.get? a=some (PySem.W.methodObj (.ref f) (.ref x))
 |.ext φ=>φ h/\(∃o,h.get? a=some o)/\∀h1 h2:Heap,φ h1->(∀o,h1.get? a=some o->h2.get? a=some o)->φ h2
def jP (H:Hp)(h:Heap):Prop:=∀a o,H a=some o->bY P w H h a o
end
section
variable {P:Program}{w:World}{H H':Hp}{h h':Heap}{a:Addr}{o:HO}
def bY.lt (x:bY P w H h a o):a<h.objs.size:=by
 cases o with
 |lst xs=>obtain⟨_,_,_,_,e⟩:=x;exact Zp e
 |tup xs=>obtain⟨_,_,_,p⟩:=x;exact p.lt
 |dK kvs=>obtain⟨_,_,_,_,o,_,_,e,_⟩:=x;exact Zp e
 |dT kvs=>obtain⟨_,_,_,_,o,_,_,e,_⟩:=x;exact Zp e
 |set S n=>obtain⟨o,_,_,_,e,_⟩:=x;exact Zp e
 |ins C dx fs=>obtain⟨_,_,_,e,_⟩:=x;exact Zp e
 |own y=>obtain⟨_,e⟩:=x;exact Zp e
 |xd fs=>obtain⟨_,⟨_,_,_,e,_⟩,_⟩:=x;exact Zp e
 |Uh lo hi=>obtain⟨_,_,_,e⟩:=x;exact Zp e
 |iE ob u=>obtain⟨e,_⟩:=x;exact Zp e
 |IH ps=>exact Zp (show h.get? a=some _ from x)
 |met f y=>exact Zp (show h.get? a=some _ from x)
 |ext φ=>obtain⟨_,⟨_,e⟩,_⟩:=x;exact Zp e
theorem Paired.FZ {α β : Type}{F G:α->β->Prop}:∀{l₁:List α}{l₂:List β},Paired F l₁ l₂->(∀a b,F a b->G a b)->Paired G l₁ l₂
 |_,_,.nil,_=>.nil
 |_,_,.cons r t,f=>.cons (f _ _ r) (Paired.FZ t f)
def bY.aA (x:bY P w H h a o)(k:∀b u,(b=a\/H b=some (.own a))->h.get? b=some u->h'.get? b=some u)
  (ho:∀b,H b=some (.own a)->H' b=some (.own a)) (ht:∀b xs,H b=some (.tup xs)->H' b=some (.tup xs)):bY P w H' h' a o:=by
 induction o with
 |lst xs=>obtain⟨z,its,n,r,e⟩:=x;exact⟨z,its,n,r,k _ _ (.inl rfl) e⟩
 |tup xs=>obtain⟨z,its,r,ob,e,c⟩:=x;exact⟨z,its,r,ob,k _ _ (.inl rfl) e,c⟩
 |dK kvs=>obtain⟨z,y,vs,r,ob,es,ep,e,c⟩:=x;exact⟨z,y,vs,r,ob,es,ep,k _ _ (.inl rfl) e,c⟩
 |dT kvs =>
  obtain⟨z,y,xs,r,ob,es,ep,e,c⟩:=x;exact⟨z,y,xs,Paired.FZ r λp q z=>⟨z.1,ht _ _ z.2.1,z.2.2⟩,ob,es,ep,k _ _ (.inl rfl) e,c⟩
 |set S n=>obtain⟨ob,es,ep,t,e,c⟩:=x;exact⟨ob,es,ep,t,k _ _ (.inl rfl) e,c⟩
 |ins C dx fs =>
  obtain⟨d,z,ne,e,mA,⟨od,es,ep,e2,c⟩,r⟩:=x;exact⟨ho _ d,z,ne,k _ _ (.inl rfl) e,mA,⟨od,es,ep,k _ _ (.inr d) e2,c⟩,r⟩
 |own y=>obtain⟨ob,e⟩:=x;exact⟨ob,k _ _ (.inl rfl) e⟩
 |xd fs=>obtain⟨mA,⟨od,es,ep,e,c⟩,r⟩:=x;exact⟨mA,⟨od,es,ep,k _ _ (.inl rfl) e,c⟩,r⟩
 |Uh lo hi=>obtain⟨t,u,v,e⟩:=x;exact⟨t,u,v,k _ _ (.inl rfl) e⟩
 |iE ob u ih=>obtain⟨e,q⟩:=x;exact⟨k _ _ (.inl rfl) e,ih q⟩
 |IH ps =>
  have e:h.get? a=some { cls:=.none,data:=.fields ps }:=x;show h'.get? a=some { cls:=.none,data:=.fields ps };exact k a _ (.inl rfl) e
 |met f y =>
  have e:h.get? a=some (PySem.W.methodObj (.ref f) (.ref y)):=x;show h'.get? a=some (PySem.W.methodObj (.ref f) (.ref y));exact k a _ (.inl rfl) e
 |ext φ=>obtain⟨p,⟨o,e⟩,st⟩:=x;exact⟨st _ _ p λo q=>k _ _ (.inl rfl) q,⟨o,k _ _ (.inl rfl) e⟩,st⟩
def jP.lt (x:jP P w H h)(e:H a=some o):a<h.objs.size:=(x a o e).lt
def jP.fresh (x:jP P w H h)(e:h.objs.size<=a):H a=none:=by
 cases q:H a with
 |none=>rfl
 |some u=>exact absurd (Yj (x.lt q) e) (Yq _)
def jP.kept (x:jP P w H h)(k:∀b u,h.get? b=some u->h'.get? b=some u):jP P w H h':=λa o e =>
 (x a o e).aA (λb u _ q=>k b u q) (λ_ q=>q) λ_ _ q=>q
def jP.laid (x:jP P w H h)(k:∀b u,h.get? b=some u->h'.get? b=some u)(hp:h.objs.size<=a)(new:bY P w (aF H a o) h' a o):jP P w (aF H a o) h':=λb u e=>by
 have hn:=x.fresh hp;by_cases hb:b=a
 .subst hb;rw[cx] at e;cases e;exact new
 .rw[dj hb] at e;exact(x b u e).aA (λc v _ q=>k c v q) (λc q=>by rw[dj (BC q hn)];exact q) λc xs q=>by rw[dj (BC q hn)];exact q
end
def Rd (H:Hp)(a:Addr)(u:HO):Prop:=H a=some u\/∃o,H a=some (.iE o u)
def Rd.ok {P:Program}{w:World}{H:Hp}{h:Heap}{a:Addr}{u:HO}(r:Rd H a u)(x:jP P w H h):bY P w H h a u:=by
 rcases r with r |⟨o,r⟩
 .exact x a u r
 .obtain⟨_,q⟩:=x a _ r;exact q
def Rp:Option HO->Prop
 |some (.lst _)=>True
 |some (.dK _)=>True
 |some (.dT _)=>True
 |some (.set _ _)=>True
 |some (.ins _ _ _)=>True
 |some (.ext _)=>True
 |_=>False
section
variable {P:Program}{w:World}{H:Hp}{h h':Heap}{x e:Addr}{o':HO}
def jP.write (ok:jP P w H h)(mu:Rp (H x))(he:e=x\/H e=some (.own x))(k:∀b u,b≠e->h.get? b=some u->h'.get? b=some u)(IV:∃u,h'.get? e=some u)
  (new:bY P w (aF H x o') h' x o'):jP P w (aF H x o') h':=λb u q=>by
 have RN:∀c y,H c=some (.own y)->c≠x:=λc y r z=>by subst z;rw[r] at mu;exact mu
 have ZD:∀c xs,H c=some (.tup xs)->c≠x:=λc xs r z=>by subst z;rw[r] at mu;exact mu
 by_cases hb:b=x
 .subst hb;rw[cx] at q;cases q;exact new
 .rw[dj hb] at q;by_cases KO:b=e
  .have q':H b=some (.own x):=by
    rcases he with z |z
    .exact absurd (KO.trans z) hb
    .rw[KO];exact z
   rw[q] at q';cases q';obtain⟨v,hv⟩:=IV;exact⟨v,by rw[KO];exact hv⟩
  .refine(ok b u q).aA (λc v hc r=>k c v ?_ r) (λc r=>by rw[dj (RN c b r)];exact r) λc xs r=>by rw[dj (ZD c xs r)];exact r
   rcases hc with rfl |hc
   .exact KO
   .rintro rfl;rcases he with z |z
    .exact RN c b hc z
    .rw[hc] at z;cases z;exact hb rfl
end
structure Un (fs ex:List Addr)(H H':Hp)(h h':Heap):Prop where
 keep:∀b o,h.get? b=some o->H b=none->b∉fs->b∉ex->h'.get? b=some o
 slot:∀b o,h.get? b=some o->H b=none->b∈fs->b∉ex->∃sl,h'.get? b=some { o with slots:=sl }
 free:∀b o,h.get? b=some o->H b=none->b∉ex->H' b=none
 there:∀b o,h.get? b=some o->b∉ex->∃o',h'.get? b=some o'
 lD:∀b xs,H b=some (.tup xs)->H' b=some (.tup xs)
 nF:∀b o u,H b=some (.iE o u)->H' b=some (.iE o u)
 pj:∀b ps,H b=some (.IH ps)->∃more,H' b=some (.IH (ps++more))
section
variable {fs fs' ex ex':List Addr}{H H1 H2:Hp}{h h1 h2 h':Heap}{a x e:Addr}{o:HO}
def Un.any (u:Un fs ex H H1 h h1){b:Addr}{ob:Obj}(q:h.get? b=some ob)(n:H b=none)(hx:b∉ex):∃sl,h1.get? b=some { ob with slots:=sl }:=by
 by_cases hb:b∈fs
 .exact u.slot b ob q n hb hx
 .exact⟨ob.slots,u.keep b ob q n hb hx⟩
def Un.kept (k:∀b u,h.get? b=some u->h'.get? b=some u):Un fs ex H H h h' :=
 ⟨λb ob q _ _ _=>k b ob q,λb ob q _ _ _=>⟨ob.slots,k b ob q⟩,λ_ _ _ n _=>n,λb ob q _=>⟨ob,k b ob q⟩,λ_ _ q=>q,λ_ _ _ q=>q,λ_ ps q=>⟨#[],by rw[q];simp⟩⟩
def Un.refl:Un fs ex H H h h:=Un.kept λ_ _ q=>q
def Un.laid (k:∀b u,h.get? b=some u->h'.get? b=some u)(hp:h.objs.size<=a)(hn:H a=none):Un fs ex H (aF H a o) h h' where
 keep:=λb u q _ _ _=>k b u q
 slot:=λb u q _ _ _=>⟨u.slots,k b u q⟩
 free:=λb u q n _=>by rw[dj (Yb (Yj (Zp q) hp))];exact n
 there:=λb u q _=>⟨u,k b u q⟩
 lD:=λb xs q=>by rw[dj (BC q hn)];exact q
 nF:=λb u xs q=>by rw[dj (BC q hn)];exact q
 pj:=λb ps q=>⟨#[],by rw[dj (BC q hn),q];simp⟩
def Un.write (mu:Rp (H x))(he:e=x\/H e=some (.own x))(k:∀b u,b≠e->h.get? b=some u->h'.get? b=some u)(IV:∃u,h'.get? e=some u):Un fs ex H (aF H x o) h h':=by
 have hx:∀b,H b=none->b≠x:=λb n z=>by subst z;rw[n] at mu;exact mu
 have hb:∀b,H b=none->b≠e:=λb n z=>by
  subst z;rcases he with r |r
  .exact hx b n r
  .rw[n] at r;cases r
 have hm:∀b u,H b=some u->¬ Rp (some u)->b≠x:=λb u q nm z=>by subst z;rw[q] at mu;exact nm mu
 refine⟨λb u q n _ _=>k b u (hb b n) q,λb u q n _ _=>⟨u.slots,k b u (hb b n) q⟩,λb u q n _=>by rw[dj (hx b n)];exact n,λb u q _=>?_,
  λb xs q=>by rw[dj (hm b _ q λz=>z)];exact q,λb u xs q=>by rw[dj (hm b _ q λz=>z)];exact q,λb ps q=>⟨#[],by rw[dj (hm b _ q λz=>z),q];simp⟩⟩
 by_cases KO:b=e
 .subst KO;exact IV
 .exact⟨u,k b u KO q⟩
end
def Uc (h:Heap)(H:Hp):List Addr:=(List.range h.objs.size).filter λa=>(H a).isSome
def re (h:Heap)(H:Hp):Heap:=PySem.W.hideAll h (Uc h H)
def Bh (h:Heap)(H:Hp):(re h H).objs.size=h.objs.size:=PySem.W.hideAll_size _ _
def Ey {h:Heap}{H:Hp}{b:Addr}{o:Obj}(e:h.get? b=some o)(n:H b=none):(re h H).get? b=some o :=
 PySem.W.hideAll_get _ e λhm=>by
  have q:(H b).isSome=true:=(Zn.mp hm).2;rw[n] at q;simp at q
def HM {h:Heap}{H:Hp}{b:Addr}{o:Obj}(e:(re h H).get? b=some o):h.get? b=some o/\H b=none:=by
 have e':h.get? b=some o:=PySem.W.of_hideAll (Uc h H) e;refine⟨e',?_⟩;cases q:H b with
 |none=>rfl
 |some x =>
  have hm:b∈Uc h H:=Zn.mpr ⟨Zy.mpr (Zp e'),by simp[q]⟩;have z:(re h H).get? b=none:=PySem.W.hideAll_none (Uc h H) hm;rw[z] at e;cases e
structure Mod (K:Θ1)(mg:Θ3)(base:Heap):Prop where
 Um:K.In base
 glob:base.Ns mainGlobals mg
 blt:∃mb,base.Ns builtinsNs mb/\∀x:Str,x ≠ "__name__"->mb x=bootBuiltins x
 nolimit:base.NoLimit
structure Cx where
 prog:Program
 w:World
 K:Θ1
 mg:Str->Φ1
 base:Heap
 A:Around
 N:Δ2
 bp:Shared
 bN:Hp
 env:Env
 outer:List Env
 stack:List Env
 ex:List Addr
 fn:Str->Bool
 calm:Bool
 pn:Γ2
 xe:Value->Shared->Prop
def j7 (l:List Env):List Addr:=l.filterMap (·.frame)
abbrev Cx.fs (X:Cx):List Addr:=j7 X.outer
def UR (sc:Scope)(x:Str):Prop:=sc.names.lookup x=some .local\/sc.names.lookup x=some .cell\/sc.names.lookup x=some .free
def Loc (sc:Scope)(x:Str):Prop:=sc.names.lookup x=some .local\/sc.names.lookup x=some .cell
def Look (env:Env)(h:Heap)(m:Θ3)(x:Str)(u:Value):Prop :=
 (env.kindOf x=some .local/\m x=some u)\/((env.kindOf x=some .cell\/env.kindOf x=some .free)/\∃c,env.cells.lookup x=some c/\h.IsCell c (some u))
structure Cx.Ok (X:Cx):Prop where
 mod:Mod X.K X.mg X.base
 kind:X.env.scope.kind=.function
 glob:X.env.globals=mainGlobals
 blt:X.env.builtins=builtinsNs
 above:X.bp.heap.objs.size<=X.env.locals
 inj:∀x y c,X.env.cells.lookup x=some c->X.env.cells.lookup y=some c->x=y
 has:∀x,(X.env.kindOf x=some .cell\/X.env.kindOf x=some .free)->∃c,X.env.cells.lookup x=some c
 Rh:∀x c,X.fn x=true->X.env.cells.lookup x=some c->X.bp.heap.objs.size<=c
 hd:X.calm=true->X.A.handled=none
 frames:X.A.frames=some X.stack
 Ff:X.stack=X.outer\/(X.stack=X.env::X.outer/\X.env.frame=some X.env.locals)
 E9:∀b∈X.ex,b≠X.env.locals/\∀x c,X.env.cells.lookup x=some c->c≠b
 bs:∀b o,X.base.get? b=some o->X.bp.heap.get? b=some o/\X.bN b=none
 IZ:X.base.objs.size<=X.bp.heap.objs.size
 B6:∀b o,X.base.get? b=some o->b∉X.ex
 tL:∀b∈X.ex,b∉X.fs
 nE:X.bp.heap.FunFrames X.base X.outer
 Ph:∀b∈X.fs,X.bN b=none
structure Inv (X:Cx)(aa:Γ2)(σ:List (Option V))(H:Hp)(s:Shared):Prop where
 ok:X.Ok
 os:s.os=X.bp.os
 bare:AllBare s.gens
 base:Un X.fs X.ex X.bN H X.bp.heap s.heap
 loc:∃m,s.heap.Ns X.env.locals m/\∀(i:Nat) (x:Str) (v:V),X.N[i]?=some x->σ[i]?=some (some v)->UR X.env.scope x->∃u,RelV v u/\Look X.env s.heap m x u
 cell:∀x c,X.env.cells.lookup x=some c->∃v,s.heap.IsCell c v
 free:H X.env.locals=none
 j5:∀x c,X.env.cells.lookup x=some c->H c=none
 pin:∀p∈X.pn++aa,s.heap.get? p.1=some p.2/\H p.1=none/\p.1≠X.env.locals/\p.1∉X.fs/\∀v,p.2.data≠.cell v
 bT:jP X.prog X.w H s.heap
 len:σ.length=X.N.length
section
variable {X:Cx}{aa:Γ2}{σ:List (Option V)}{H H':Hp}{s:Shared}{h':Heap}
def Cx.Ok.FV (ok:X.Ok){b:Addr}{o:Obj}(e:X.base.get? b=some o):b∉X.fs:=λhb=>by
 have:=(ok.nE.mem hb).1;rw[e] at this;cases this
def Inv.bs (I:Inv X aa σ H s):∀b o,X.base.get? b=some o->s.heap.get? b=some o/\H b=none:=λb o e =>
 ⟨I.base.keep b o (I.ok.bs b o e).1 (I.ok.bs b o e).2 (I.ok.FV e) (I.ok.B6 b o e),I.base.free b o (I.ok.bs b o e).1 (I.ok.bs b o e).2 (I.ok.B6 b o e)⟩
def Inv.bk (I:Inv X aa σ H s):∀b o,X.base.get? b=some o->s.heap.get? b=some o:=λb o e=>(I.bs b o e).1
def Inv.mod (I:Inv X aa σ H s):Mod X.K X.mg X.base:=I.ok.mod
def Inv.sU (I:Inv X aa σ H s):X.K.In s.heap:=I.ok.mod.Um.keeps I.bk
def Inv.lt (I:Inv X aa σ H s):X.env.locals<s.heap.objs.size:=let ⟨_,hn,_⟩:=I.loc;hn.lt
def Inv.sz (I:Inv X aa σ H s):X.bp.heap.objs.size<=s.heap.objs.size:=Zk I.ok.above (Nat.le_of_lt I.lt)
def Inv.ZE (I:Inv X aa σ H s){a:Addr}(h:s.heap.objs.size<=a):a∉X.fs:=λhb=>by
 obtain⟨_,o,ho,_⟩:=I.ok.nE.mem hb;exact absurd (Yj (Zp ho) (Zk I.sz h)) (Yq _)
def Inv.K7 (I:Inv X aa σ H s):∀x c,X.env.cells.lookup x=some c->c≠X.env.locals:=λx c e z=>by
 obtain⟨v,o,ho,hd⟩:=I.cell x c e;obtain⟨m,⟨o',es,ep,vH,Wc,_⟩,_⟩:=I.loc;rw[z,vH] at ho;cases ho;rw[Wc] at hd;cases hd
def Inv.nE (I:Inv X aa σ H s):s.heap.FunFrames X.base X.outer:=by
 have all:∀(l:List Env),(∀b∈j7 l,b∈X.fs)->X.bp.heap.FunFrames X.base l->s.heap.FunFrames X.base l:=by
  intro l;induction l with
  |nil=>intro _ _;trivial
  |cons env r ih =>
   intro hs hl;obtain⟨hk,⟨L,o,hf,hn,ho,hd⟩,hr⟩:=hl;have hL:L∈X.fs:=hs L (by unfold j7;rw[X6,hf];exact Zm);obtain⟨sl,e⟩:=I.base.slot L o ho (I.ok.Ph L hL) hL λz=>I.ok.tL L z hL
   exact⟨hk,⟨L,_,hf,hn,e,hd⟩,ih (λb hb=>hs b (by unfold j7;rw[X6,hf];exact Zq _ hb)) hr⟩
 exact all X.outer (λ_ hb=>hb) I.ok.nE
def Inv.stack (I:Inv X aa σ H s):s.heap.FunFrames X.base X.stack:=by
 rcases I.ok.Ff with e |⟨e,hf⟩
 .rw[e];exact I.nE
 .rw[e];obtain⟨m,hn,_⟩:=I.loc;refine .cons (by rw[I.ok.kind];decide) hf hn ?_ I.nE;exact Heap.get?_none_of_le (Zk I.ok.IZ I.ok.above)
def Inv.rj (I:Inv X aa σ H s):∀b∈j7 X.stack,b∈X.env.locals::X.fs:=λb hb=>by
 rcases I.ok.Ff with e |⟨e,hf⟩
 .rw[e] at hb;exact Zq _ hb
 .rw[e] at hb;unfold j7 at hb;rw[X6,hf] at hb;exact hb
def Inv.rL (I:Inv X aa σ H s):∀b∈j7 X.stack,H b=none:=λb hb=>by
 rcases Zl.mp (I.rj b hb) with e |hb
 .rw[e];exact I.free
 .obtain⟨_,o,ho,_⟩:=I.ok.nE.mem hb;exact I.base.free b o ho (I.ok.Ph b hb) λz=>I.ok.tL b z hb
def Inv.step {g':Array GenState}{t':Nat}{d':Drawn}{ch:List Addr}(I:Inv X aa σ H s)
  (E4:∀b∈ch,(b∈X.ex\/X.bp.heap.objs.size<=b)/\b≠X.env.locals/\(∀x c,X.env.cells.lookup x=some c->c≠b)/\∀p∈X.pn++aa,p.1≠b)
  (keep:∀b o,b≠X.env.locals->b∉X.fs->b∉ch->s.heap.get? b=some o->H b=none->h'.get? b=some o)
  (slot:∀b o,b≠X.env.locals->b∈X.fs->b∉ch->s.heap.get? b=some o->H b=none->∃sl,h'.get? b=some { o with slots:=sl }) (free:∀b o,b∉ch->s.heap.get? b=some o->H b=none->H' b=none)
  (there:∀b o,b∉ch->s.heap.get? b=some o->∃o',h'.get? b=some o')
  (lD:∀b xs,H b=some (.tup xs)->H' b=some (.tup xs)) (nF:∀b o u,H b=some (.iE o u)->H' b=some (.iE o u)) (pj:∀b ps,H b=some (.IH ps)->∃more,H' b=some (.IH (ps++more)))
  (ns:∀m,s.heap.Ns X.env.locals m->h'.Ns X.env.locals m) (bT:jP X.prog X.w H' h') (hg:AllBare g') :
  Inv X aa σ H' { s with heap:=h',gens:=g',drawn:=d',toks:=t' }:=by
 have neL:∀b o,X.bp.heap.get? b=some o->b≠X.env.locals:=λb o e=>Yb (Yj (Zp e) I.ok.above)
 have Uk:∀b o,X.bp.heap.get? b=some o->b∉X.ex->b∉ch:=λb o e hx hb=>by
  rcases(E4 b hb).1 with z |z
  .exact hx z
  .exact absurd (Yj (Zp e) z) (Yq _)
 have Ke:∀x c,X.env.cells.lookup x=some c->∀v,s.heap.IsCell c v->h'.IsCell c v:=λx c e v ⟨o,ho,hd⟩=>by
  have PN:c∉ch:=λz=>(E4 c z).2.2.1 x c e rfl
  by_cases hc:c∈X.fs
  .obtain⟨sl,q⟩:=slot c o (I.K7 x c e) hc PN ho (I.j5 x c e);exact⟨_,q,hd⟩
  .exact⟨o,keep c o (I.K7 x c e) hc PN ho (I.j5 x c e),hd⟩
 refine⟨I.ok,I.os,hg,⟨λb o e n hb hx=>?_,λb o e n hb hx=>?_,λb o e n hx=>?_,λb o e hx=>?_,λb xs e=>lD b xs (I.base.lD b xs e),λb o xs e=>nF b o xs (I.base.nF b o xs e),λb ps e=>?_⟩,?_,λx c e=>?_,?_,λx c e=>?_,λp hp=>?_,bT,I.len⟩
 .exact keep b o (neL b o e) hb (Uk b o e hx) (I.base.keep b o e n hb hx) (I.base.free b o e n hx)
 .obtain⟨sl,e1⟩:=I.base.slot b o e n hb hx;obtain⟨iL,e2⟩:=slot b _ (neL b o e) hb (Uk b o e hx) e1 (I.base.free b o e n hx);exact⟨iL,e2⟩
 .obtain⟨o',e1⟩:=I.base.there b o e hx;exact free b o' (Uk b o e hx) e1 (I.base.free b o e n hx)
 .obtain⟨o',e1⟩:=I.base.there b o e hx;exact there b o' (Uk b o e hx) e1
 .obtain⟨m1,e1⟩:=I.base.pj b ps e;obtain⟨m2,e2⟩:=pj b _ e1;exact⟨m1++m2,by rw[e2,Array.append_assoc]⟩
 .obtain⟨m,hn,hl⟩:=I.loc;refine⟨m,ns m hn,λi x v e1 e2 e3=>?_⟩;obtain⟨u,r,l⟩:=hl i x v e1 e2 e3;refine⟨u,r,?_⟩;rcases l with l |⟨k,c,e,z⟩
  .exact .inl l
  .exact .inr ⟨k,c,e,Ke x c e _ z⟩
 .obtain⟨v,z⟩:=I.cell x c e;exact⟨v,Ke x c e v z⟩
 .obtain⟨m,⟨o,_,_,ho,_⟩,_⟩:=I.loc;exact free _ o (λz=>(E4 _ z).2.1 rfl) ho I.free
 .obtain⟨v,o,ho,hd⟩:=I.cell x c e;exact free c o (λz=>(E4 c z).2.2.1 x c e rfl) ho (I.j5 x c e)
 .obtain⟨e,n,ne,nf,d⟩:=I.pin p hp;have PN:p.1∉ch:=λz=>(E4 p.1 z).2.2.2 p hp rfl
  exact⟨keep p.1 p.2 ne nf PN e n,free p.1 p.2 PN e n,ne,nf,d⟩
def Inv.un {t':Nat}(I:Inv X aa σ H s)(u:Un X.fs [] H H' s.heap h')(bT:jP X.prog X.w H' h'):Inv X aa σ H' { s with heap:=h',toks:=t' }:=by
 obtain⟨m,⟨o,es,ep,ho,r⟩,_⟩:=id I.loc;obtain⟨sl,hL⟩:=u.any ho I.free (by simp);exact I.step (g':=s.gens) (d':=s.drawn) (ch:=[]) (λ_ z=>nomatch z) (λb o _ hb _ e n=>u.keep b o e n hb (by simp)) (λb o _ hb _ e n=>u.slot b o e n hb (by simp)) (λb o _ e n=>u.free b o e n (by simp)) (λb o _ e=>u.there b o e (by simp)) u.lD u.nF u.pj (λm' hm=>by
  obtain⟨o',xH,Rc,vH,r'⟩:=hm;rw[ho] at vH;cases vH;exact⟨_,xH,Rc,hL,r'⟩) bT I.bare
def Inv.call {g':Array GenState}{t':Nat}{d':Drawn}{ch:List Addr}(I:Inv X aa σ H s)(u:Un (j7 X.stack) ch H H' s.heap h')(bT:jP X.prog X.w H' h')(hg:AllBare g')
  (E4:∀b∈ch,(b∈X.ex\/X.bp.heap.objs.size<=b)/\b≠X.env.locals/\(∀x c,X.env.cells.lookup x=some c->c≠b)/\∀p∈X.pn++aa,p.1≠b) :
  Inv X aa σ H' { s with heap:=h',gens:=g',drawn:=d',toks:=t' }:=by
 obtain⟨m,⟨o,es,ep,ho,r⟩,_⟩:=id I.loc;obtain⟨sl,hL⟩:=u.any ho I.free λz=>(E4 _ z).2.1 rfl
 exact I.step (ch:=ch) E4 (λb o hL hb hc e n=>u.keep b o e n (λz=>(Zl.mp (I.rj b z)).elim hL hb) hc) (λb o _ _ hc e n=>u.any e n hc) (λb o hc e n=>u.free b o e n hc) (λb o hc e=>u.there b o e hc) u.lD u.nF u.pj (λm' hm=>by
  obtain⟨o',xH,Rc,vH,r'⟩:=hm;rw[ho] at vH;cases vH;exact⟨_,xH,Rc,hL,r'⟩) bT hg
def Inv.turned {t':Nat}{it:Addr}(I:Inv X aa σ H s)(k:∀b o,b≠it->s.heap.get? b=some o->h'.get? b=some o)(hn:H it=none)(hL:it≠X.env.locals)
  (h1:it∈X.ex\/X.bp.heap.objs.size<=it) (h2:∀x c,X.env.cells.lookup x=some c->c≠it) (h3:∀p∈X.pn++aa,p.1≠it):Inv X aa σ H { s with heap:=h',toks:=t' }:=by
 have PM:∀b u,H b=some u->b≠it:=λb u e z=>by rw[z,hn] at e;cases e
 refine I.step (g':=s.gens) (d':=s.drawn) (ch:=[it]) (λb hb=>?_) (λb o _ _ hc e _=>k b o (λz=>hc (by simp[z])) e) (λb o _ _ hc e _=>⟨o.slots,k b o (λz=>hc (by simp[z])) e⟩) (λ_ _ _ _ n=>n)
  (λb o hc e=>⟨o,k b o (λz=>hc (by simp[z])) e⟩) (λ_ _ e=>e) (λ_ _ _ e=>e) (λb ps e=>⟨#[],by rw[e];simp⟩) (λm hm=>?_) (λb u e=>?_) I.bare
 .have e:b=it:=by simpa using hb
  subst e;exact⟨h1,hL,h2,h3⟩
 .obtain⟨o,es,ep,ho,r⟩:=hm;exact⟨o,es,ep,k _ o (Ne.symm hL) ho,r⟩
 .refine(I.bT b u e).aA (λc v hc q=>k c v ?_ q) (λ_ q=>q) λ_ _ q=>q
  rcases hc with z |z
  .rw[z];exact PM b u e
  .exact PM c _ z
def Inv.tok (I:Inv X aa σ H s)(t:Nat):Inv X aa σ H { s with toks:=t }:=I.un (h':=s.heap) (t':=t) Un.refl I.bT
def Inv.kept {t':Nat}(I:Inv X aa σ H s)(k:∀b u,s.heap.get? b=some u->h'.get? b=some u):Inv X aa σ H { s with heap:=h',toks:=t' }:=I.un (Un.kept k) (I.bT.kept k)
def Inv.laid {a:Addr}{o:HO}{t':Nat}(I:Inv X aa σ H s)(k:∀b u,s.heap.get? b=some u->h'.get? b=some u)(hp:s.heap.objs.size<=a)(new:bY X.prog X.w (aF H a o) h' a o) :
  Inv X aa σ (aF H a o) { s with heap:=h',toks:=t' }:=I.un (Un.laid k hp (I.bT.fresh hp)) (I.bT.laid k hp new)
def Inv.write {x e:Addr}{o:HO}{t':Nat}(I:Inv X aa σ H s)(mu:Rp (H x))(he:e=x\/H e=some (.own x))(k:∀b u,b≠e->s.heap.get? b=some u->h'.get? b=some u)(IV:∃u,h'.get? e=some u)
  (new:bY X.prog X.w (aF H x o) h' x o):Inv X aa σ (aF H x o) { s with heap:=h',toks:=t' }:=I.un (Un.write mu he k IV) (I.bT.write mu he k IV new)
def Inv.rS {JI:Γ2}(I:Inv X aa σ H s)(h:∀p∈JI,s.heap.get? p.1=some p.2/\H p.1=none/\p.1≠X.env.locals/\p.1∉X.fs/\∀v,p.2.data≠.cell v):Inv X JI σ H s :=
 ⟨I.ok,I.os,I.bare,I.base,I.loc,I.cell,I.free,I.j5,λp hp=>(Zt.mp hp).elim (λz=>I.pin p (Xw _ z)) (h p),I.bT,I.len⟩
def uq {N:Δ2}(hN:N.Nodup){i j:Nat}{x:Str}(a:N[i]?=some x)(b:N[j]?=some x):i=j:=by
 obtain⟨h1,e1⟩:=Zf.mp a;obtain⟨h2,e2⟩:=Zf.mp b;exact(List.getElem_inj hN).mp (e1.trans e2.symm)
def AB {M:Model}{A:Around}{E:Θ2}{i:Nat}{x:Str}{v:V}{u:Value}{Q:Unit->Shared->Prop}(I:Inv X aa σ H s)(hN:X.N.Nodup)(hi:X.N[i]?=some x)(hx:Loc X.env.scope x)(r:RelV v u)
  (h:∀s',Inv X aa (σ.set i (some v)) H s'->(∃a,Heap.SameBut a s.heap s'.heap/\(a=X.env.locals\/X.env.cells.lookup x=some a))->Q () s') (hf:X.fn x=true\/X.env.scope.names.lookup x=some .local:=by first |exact .inl rfl |exact .inr rfl |assumption):wpAny M A (storeName X.env x u) Q E s:=by
 obtain⟨m,hn,hl⟩:=id I.loc;have T':(X.env.scope.kind == .class||(X.env.scope.kind == .module&&X.env.locals != X.env.globals))=false:=by rw[I.ok.kind];rfl
 have Sd:i < σ.length:=by rw[I.len];exact(Zf.mp hi).1
 have K7:=I.K7;have yB:∀{a:Addr}{h':Heap},(∃o,s.heap.get? a=some o/\H a=none)->Heap.SameBut a s.heap h'->jP X.prog X.w H h':=λ{a h'} ha hs b ob e=>by
  obtain⟨_,_,J7⟩:=ha;refine(I.bT b ob e).aA (λc w' hc q=>(hs.2 c ?_).trans q) (λ_ q=>q) λ_ _ q=>q
  rintro rfl;rcases hc with rfl |hc
  .rw[J7] at e;cases e
  .rw[J7] at hc;cases hc
 rcases hx with hk |hk
 .refine wpAny_storeName_local hk hn (λh' E1 hs=>?_) T';obtain⟨oL,_,_,hoL,_⟩:=id hn;refine h _ ⟨I.ok,I.os,I.bare,⟨λb o e n hb hx=>?_,λb o e n hb hx=>?_,I.base.free,λb o e hx=>?_,I.base.lD,I.base.nF,I.base.pj⟩,⟨_,E1,λj y v' e1 e2 e3=>?_⟩,λy c e=>?_,I.free,I.j5,λp hp=>?_,yB ⟨oL,hoL,I.free⟩ hs,by simpa using I.len⟩ ⟨_,hs,.inl rfl⟩
  .exact(hs.2 b (Yb (Yj (Zp e) I.ok.above))).trans (I.base.keep b o e n hb hx)
  .obtain⟨sl,e1⟩:=I.base.slot b o e n hb hx;exact⟨sl,(hs.2 b (Yb (Yj (Zp e) I.ok.above))).trans e1⟩
  .obtain⟨o',e1⟩:=I.base.there b o e hx;exact⟨o',(hs.2 b (Yb (Yj (Zp e) I.ok.above))).trans e1⟩
  .by_cases hj:j=i
   .subst hj;rw[hi] at e1;cases e1;rw[Yu Sd] at e2;cases e2;exact⟨u,r,.inl ⟨hk,by simp⟩⟩
   .rw[Yr (Ne.symm hj)] at e2;obtain⟨u',r',q⟩:=hl j y v' e1 e2 e3;refine⟨u',r',?_⟩;rcases q with ⟨k,e⟩ |⟨k,c,e,z⟩
    .refine .inl ⟨k,?_⟩;have:y≠x:=λe=>hj (uq hN e1 (e▸hi))
     simp[this,e]
    .exact .inr ⟨k,c,e,z.sameBut hs (K7 y c e)⟩
  .obtain⟨w',z⟩:=I.cell y c e;exact⟨w',z.sameBut hs (K7 y c e)⟩
  .obtain⟨e,n,ne,nf,d⟩:=I.pin p hp;exact⟨(hs.2 p.1 ne).trans e,n,ne,nf,d⟩
 .have IU:X.fn x=true:=by
   rcases hf with z |z
   .exact z
   .rw[z] at hk;cases hk
  obtain⟨c,hc⟩:=I.ok.has x (.inl hk);obtain⟨w',z⟩:=I.cell x c hc;refine wpAny_storeName_cell I.ok.kind hk hc z (λh' mq hs=>?_);obtain⟨oc,hoc,y'⟩:=id z;refine h { s with heap:=h' } ⟨I.ok,I.os,I.bare,⟨λb o e n hb hx=>?_,λb o e n hb hx=>?_,I.base.free,λb o e hx=>?_,I.base.lD,I.base.nF,I.base.pj⟩,⟨m,hn.sameBut hs (Ne.symm (K7 x c hc)),λj y v' e1 e2 e3=>?_⟩,λy c' e=>?_,I.free,I.j5,λp hp=>?_,yB ⟨oc,hoc,I.j5 x c hc⟩ hs,by simpa using I.len⟩ ⟨c,hs,.inr hc⟩
  .exact(hs.2 b (Yb (Yj (Zp e) (I.ok.Rh x c IU hc)))).trans (I.base.keep b o e n hb hx)
  .obtain⟨sl,e1⟩:=I.base.slot b o e n hb hx;exact⟨sl,(hs.2 b (Yb (Yj (Zp e) (I.ok.Rh x c IU hc)))).trans e1⟩
  .obtain⟨o',e1⟩:=I.base.there b o e hx;exact⟨o',(hs.2 b (Yb (Yj (Zp e) (I.ok.Rh x c IU hc)))).trans e1⟩
  .by_cases hj:j=i
   .subst hj;rw[hi] at e1;cases e1;rw[Yu Sd] at e2;cases e2;exact⟨u,r,.inr ⟨.inl hk,c,hc,mq⟩⟩
   .rw[Yr (Ne.symm hj)] at e2;obtain⟨u',r',q⟩:=hl j y v' e1 e2 e3;refine⟨u',r',?_⟩;rcases q with q |⟨k,c',e,z'⟩
    .exact .inl q
    .refine .inr ⟨k,c',e,z'.sameBut hs ?_⟩;rintro rfl;exact hj (uq hN e1 (I.ok.inj _ _ _ e hc▸hi))
  .by_cases hcc:c'=c
   .subst hcc;exact⟨_,mq⟩
   .obtain⟨w2,z2⟩:=I.cell y c' e;exact⟨w2,z2.sameBut hs hcc⟩
  .obtain⟨e,n,ne,nf,d⟩:=I.pin p hp;refine⟨(hs.2 p.1 ?_).trans e,n,ne,nf,d⟩;intro q;rw[q,hoc] at e;have q':oc=p.2:=Option.some.inj e;exact d w' (by rw[<- q'];exact y')
def ji {M:Model}{A:Around}{E:Θ2}{i:Nat}{x:Str}{v:V}{u:Value}{Q:Unit->Shared->Prop}(I:Inv X aa σ H s)(hN:X.N.Nodup)(hi:X.N[i]?=some x)(hx:Loc X.env.scope x)(r:RelV v u)
  (h:∀s',Inv X aa (σ.set i (some v)) H s'->Q () s') (hf:X.fn x=true\/X.env.scope.names.lookup x=some .local:=by first |exact .inl rfl |exact .inr rfl |assumption):wpAny M A (storeName X.env x u) Q E s :=
 AB I hN hi hx r (λs' I' _=>h s' I') hf
def Inv.yq {s':Shared}{ch:List Addr}(I:Inv X aa σ H s)(ho:s'.os=s.os)(u:Un (j7 X.stack) ch H H' s.heap s'.heap)(bT:jP X.prog X.w H' s'.heap)(hg:AllBare s'.gens)
  (E4:∀b∈ch,(b∈X.ex\/X.bp.heap.objs.size<=b)/\b≠X.env.locals/\(∀x c,X.env.cells.lookup x=some c->c≠b)/\∀p∈X.pn++aa,p.1≠b):Inv X aa σ H' s':=by
 obtain⟨h',g',d',t',o'⟩:=s';have e:o'=s.os:=ho;subst e;exact I.call (g':=g') (t':=t') (d':=d') u bT hg E4
end
abbrev XK:=Value->Option Addr->Hp->Prop
abbrev St:=List (Option V)
abbrev VK:=V->Hp->Prop
abbrev TE:=St->Hp->VK->Prop
abbrev TT:=St->Hp->(Bool->Hp->Prop)->Prop
abbrev TA:=St->Hp->(List V->Hp->Prop)->Prop
structure Ends where
 nx:St->Hp->Prop
 rt:VK
 bk:St->Hp->Prop:=λ_ _=>False
 ct:St->Hp->Prop:=λ_ _=>False
abbrev TS:=Ends->St->Hp->Prop
def EP (X:Cx)(aa:Γ2)(σ:St)(Q:VK)(u:Value)(s':Shared):Prop:=∃v H',Inv X aa σ H' s'/\RelV v u/\Q v H'
def TP (X:Cx)(aa:Γ2)(σ:St)(Q:Bool->Hp->Prop)(b:Bool)(s':Shared):Prop:=∃H',Inv X aa σ H' s'/\Q b H'
def AP (X:Cx)(aa:Γ2)(σ:St)(Q:List V->Hp->Prop)(us:Δ3)(s':Shared):Prop:=∃vs H',Inv X aa σ H' s'/\be vs us/\Q vs H'
def SP (X:Cx)(aa:Γ2)(D:Ends)(f:Flow)(s':Shared):Prop :=
 match f with
 |.next=>∃aH H',Inv X aa aH H' s'/\D.nx aH H'
 |.brk=>∃aH H',Inv X aa aH H' s'/\D.bk aH H'
 |.cont=>∃aH H',Inv X aa aH H' s'/\D.ct aH H'
 |.ret u=>∃v aH H',Inv X aa aH H' s'/\RelV v u/\D.rt v H'
def PE (X:Cx)(e:Expr)(t:TE):Prop :=
 ∀(aa:Γ2) (s:Shared) (σ:St) (H:Hp) (Q:VK),Inv X aa σ H s->t σ H Q->wpAny (model X.prog X.w) X.A (eval e X.env) (EP X aa σ Q) X.xe s
def PT (X:Cx)(e:Expr)(t:TT):Prop :=
 ∀(aa:Γ2) (s:Shared) (σ:St) (H:Hp) (Q:Bool->Hp->Prop),Inv X aa σ H s->t σ H Q->wpAny (model X.prog X.w) X.A (isTrue e X.env (eval e X.env)) (TP X aa σ Q) X.xe s
def PW (X:Cx)(e:Expr)(t:TT):Prop :=
 ∀(gG:Sem Value) (aa:Γ2) (s:Shared) (σ:St) (H:Hp) (Q:Bool->Hp->Prop),Inv X aa σ H s->t σ H Q->wpAny (model X.prog X.w) X.A (isTrue e X.env gG) (TP X aa σ Q) X.xe s
def PW.pt {X:Cx}{e:Expr}{t:TT}(h:PW X e t):PT X e t:=h _
def PA (X:Cx)(es:Ξ2)(t:TA):Prop :=
 ∀(pos:Pos) (aa:Γ2) (s:Shared) (σ:St) (H:Hp) (Q:List V->Hp->Prop),Inv X aa σ H s->t σ H Q->wpAny (model X.prog X.w) X.A (spliced (backTo pos (starEach es X.env))) (AP X aa σ Q) X.xe s
def PS (X:Cx)(st:Stmt)(t:TS):Prop :=
 ∀(aa:Γ2) (s:Shared) (σ:St) (H:Hp) (D:Ends),Inv X aa σ H s->t D σ H->wpAny (model X.prog X.w) X.A (exec st X.env) (SP X aa D) X.xe s
def jO (X:Cx)(st:List Stmt)(t:TS):Prop :=
 ∀(aa:Γ2) (s:Shared) (σ:St) (H:Hp) (D:Ends),Inv X aa σ H s->t D σ H->wpAny (model X.prog X.w) X.A (execs st X.env) (SP X aa D) X.xe s
def bB {α : Type}{t:Sem α}{Q Q':α->Shared->Prop}{M:Model}{A:Around}{E:Θ2}{s:Shared}(h:wpAny M A t Q E s)(hQ:∀a s,Q a s->Q' a s):wpAny M A t Q' E s:=wpAny_mono h hQ λ_ _ x=>x
section
variable {X:Cx}
def vU (i:Nat):TE:=λσ H Q=>∃v,σ[i]?=some (some v)/\Q v H
def tC (v:V):TE:=λ_ H Q=>Q v H
def No {i:Nat}{x:Str}{pos:Pos}(hN:X.N[i]?=some x)(hv:UR X.env.scope x)(hd:(x == ("__debug__" : Str))=false:=by decide)(o6:(x == ("__classdict__" : Str))=false:=by decide):PE X (.Name x pos) (vU i):=by
 intro aa s σ H Q I h;obtain⟨v,e,h⟩:=h;obtain⟨m,hn,hl⟩:=I.loc;obtain⟨u,r,l⟩:=hl i x v hN e hv;have gy:EP X aa σ Q u s:=⟨v,H,I,r,h⟩;rcases l with ⟨hk,hm⟩ |⟨hk,c,hc,J8⟩
 .exact wpAny_Name (wpAny_loadName_local I.ok.kind hk hn hm gy) hd
 .rcases hk with hk |hk
  .exact wpAny_Name (wpAny_loadName_cell I.ok.kind hk hc J8 gy) hd
  .exact wpAny_Name (wpAny_loadName_free I.ok.kind hk hc J8 gy o6) hd
def aZ {i j pos}:PE X (.Constant (.int i) j pos) (tC (.int i)):=λ_ _ _ H _ I h=>wpAny_Constant_int ⟨.int i,H,I.tok _,⟨_,rfl⟩,h⟩
def tQ {b j pos}:PE X (.Constant (.bool b) j pos) (tC (.bl b)):=λ_ _ _ H _ I h=>Constant_bool ⟨.bl b,H,I,rfl,h⟩
def Nq {j pos}:PE X (.Constant .none j pos) (tC .bZ):=λ_ _ _ H _ I h=>Constant_none ⟨.bZ,H,I,rfl,h⟩
def wn {x j pos}:PE X (.Constant (.str x) j pos) (tC (.str x)):=λ_ _ _ H _ I h=>Calls.Constant_str ⟨.str x,H,I.tok _,⟨_,rfl⟩,h⟩
def Gl (X:Cx)(x:Str):Prop:=X.env.kindOf x=some .globalImplicit
def zf {E:Θ2}{aa:Γ2}{s:Shared}{σ:St}{H:Hp}{x:Str}{u:Value}{pos:Pos}{Q:Θ2}(I:Inv X aa σ H s)(hg:Gl X x)(hm:X.mg x=some u)(h:Q u s)
  (hd:(x == ("__debug__" : Str))=false:=by decide):wpAny (model X.prog X.w) X.A (eval (.Name x pos) X.env) Q E s :=
 Calls.Name_function_global I.ok.kind hg (Calls.loadGlobal_global (by rw[I.ok.glob];exact I.mod.glob.keeps I.bk) hm h) hd
def ij {E:Θ2}{aa:Γ2}{s:Shared}{σ:St}{H:Hp}{x:Str}{u:Value}{pos:Pos}{Q:Θ2}(I:Inv X aa σ H s)(hg:Gl X x)(hm:X.mg x=none)(hv:bootBuiltins x=some u)(h:Q u s)
  (hn:x ≠ "__name__":=by decide) (hd:(x == ("__debug__" : Str))=false:=by decide):wpAny (model X.prog X.w) X.A (eval (.Name x pos) X.env) Q E s:=by
 obtain⟨mb,h1,h2⟩:=I.mod.blt;exact Calls.Name_function_global I.ok.kind hg (Calls.loadGlobal_builtin (by rw[I.ok.glob];exact I.mod.glob.keeps I.bk) hm (by rw[I.ok.blt];exact h1.keeps I.bk) ((h2 x hn).trans hv) h) hd
variable {a b:Expr}{ta tb:TE}{pos:Pos}
def tB (t:TE):TT:=λσ H Q=>t σ H λx H1=>∃c,x=.bl c/\Q c H1
def gj {e:Expr}{t:TE}(h:PE X e t)(he:∀gG,isTrue e X.env gG=(do let v <- gG;standAt e.pos;holding [v] (truthy v)):=by intro _;rfl):PT X e (tB t):=by
 intro aa s σ H Q I hw;refine isTrue_plain (bB (h aa s σ H _ I hw) λv s1 ⟨x,H1,I1,r1,q1⟩=>?_) (he _);obtain⟨d,rfl,q⟩:=q1;cases r1;exact wpAny_truthy_bool ⟨H1,I1,q⟩
variable {tA Ue:TT}{iQ:Ξ2}
def YO (t u:TT):TT:=λσ H Q=>t σ H λc H1=>if c=true then u σ H1 Q else Q false H1
def tOr (t u:TT):TT:=λσ H Q=>t σ H λc H1=>if c=true then Q true H1 else u σ H1 Q
def YI (t:TT):TT:=λσ H Q=>t σ H λc H1=>Q (!c) H1
def pw_and1 (ha:PT X a tA):PW X (.BoolOp .And [a] pos) tA:=by
 intro wh aa s σ H Q I h;refine isTrue_and (bB (ha aa s σ H Q I h) λc s1 e=>?_);cases c with
 |true=>exact isTrue_and_nil e
 |false=>exact e
def pw_or1 (ha:PT X a tA):PW X (.BoolOp .Or [a] pos) tA:=by
 intro wh aa s σ H Q I h;refine isTrue_or (bB (ha aa s σ H Q I h) λc s1 e=>?_);cases c with
 |false=>exact isTrue_or_nil e
 |true=>exact e
def pw_and (ha:PT X a tA)(hb:PW X (.BoolOp .And (b::iQ) pos) Ue):PW X (.BoolOp .And (a::b::iQ) pos) (YO tA Ue):=by
 intro wh aa s σ H Q I h;refine isTrue_and (bB (ha aa s σ H _ I h) λc s1 ⟨H1,I1,q1⟩=>?_);cases c with
 |true=>exact hb wh aa s1 σ H1 Q I1 q1
 |false=>exact⟨H1,I1,q1⟩
def pw_or (ha:PT X a tA)(hb:PW X (.BoolOp .Or (b::iQ) pos) Ue):PW X (.BoolOp .Or (a::b::iQ) pos) (tOr tA Ue):=by
 intro wh aa s σ H Q I h;refine isTrue_or (bB (ha aa s σ H _ I h) λc s1 ⟨H1,I1,q1⟩=>?_);cases c with
 |true=>exact⟨H1,I1,q1⟩
 |false=>exact hb wh aa s1 σ H1 Q I1 q1
def i9 (ha:PT X a tA):PT X (.UnaryOp .Not a pos) (YI tA):=by
 intro aa s σ H Q I h;exact isTrue_not (ha aa s σ H (λc H1=>Q (!c) H1) I h)
def SV (ta tb:TE):TE:=λσ H Q=>ta σ H λx H1=>∃c,x=.bl c/\if c=true then tb σ H1 Q else Q (.bl false) H1
def SO (ta:TE):TE:=λσ H Q=>ta σ H λx H1=>∃c,x=.bl c/\Q (.bl (!c)) H1
def Db {op}{t:TE}(h:PE X a t):PE X (.BoolOp op [a] pos) t:=λaa s σ H Q I hw=>BoolOp_one (h aa s σ H Q I hw)
def Dd (ha:PE X a ta)(hb:PE X (.BoolOp .And (b::iQ) pos) tb):PE X (.BoolOp .And (a::b::iQ) pos) (SV ta tb):=by
 intro aa s σ H Q I h;refine BoolOp_and (bB (ha aa s σ H _ I h) λv s1 ⟨x,H1,I1,r1,q1⟩=>?_);obtain⟨c,rfl,q1⟩:=q1;cases r1;refine wpAny_truthy_bool ?_;cases c with
 |true=>exact hb aa s1 σ H1 Q I1 q1
 |false=>exact⟨.bl false,H1,I1,rfl,q1⟩
def Np (ha:PE X a ta):PE X (.UnaryOp .Not a pos) (SO ta):=by
 intro aa s σ H Q I h;refine UnaryOp_ (bB (ha aa s σ H _ I h) λv s1 ⟨x,H1,I1,r1,q1⟩=>?_);obtain⟨c,rfl,q1⟩:=q1;cases r1;exact not_of (wpAny_truthy_bool ⟨.bl (!c),H1,I1,rfl,q1⟩)
def tIf (t:TT)(ta tb:TE):TE:=λσ H Q=>t σ H λc H1=>if c=true then ta σ H1 Q else tb σ H1 Q
def ul {c:Expr}(hc:PT X c tA)(ha:PE X a ta)(hb:PE X b tb):PE X (.IfExp c a b pos) (tIf tA ta tb):=by
 intro aa s σ H Q I h;refine wpAny_IfExp (bB (hc aa s σ H _ I h) λd s1 ⟨H1,I1,q1⟩=>?_);cases d with
 |true=>exact ha aa s1 σ H1 Q I1 q1
 |false=>exact hb aa s1 σ H1 Q I1 q1
end
def bi (K:Θ1)(H:Hp)(a:Addr)(xs:List V):Prop :=
 Rd H a (.lst xs) \/
  ∃(o:Obj) (its:Array Value) (n:Nat),K.lookup a=some o/\o.cls=.type "list"/\o.dict=none/\o.data=.seq its n/\its.size<=sizeLine/\be xs its.toList
def aM (K:Θ1)(H:Hp)(a:Addr)(xs:List V):Prop :=
 Rd H a (.tup xs) \/
  ∃(o:Obj) (its:Array Value) (n:Nat),K.lookup a=some o/\o.cls=.type "tuple"/\o.data=.seq its n/\its.size<=sizeLine/\be xs its.toList
def ξ:Value->Option V
 |.none=>some .bZ
 |.bool b=>some (.bl b)
 |.int i _=>some (.int i)
 |.str x _=>some (.str x)
 |.bytes b _=>some (.Aa b)
 |.float b _=>some (.Pj b)
 |.ref a=>some (.ref a)
 |.type n=>some (.ty n)
 |_=>none
def RelV.abs {x:V}{u:Value}(r:RelV x u):ξ u=some x:=by
 cases x with
 |bZ=>cases r;rfl
 |bl _=>cases r;rfl
 |int _=>obtain⟨t,rfl⟩:=r;rfl
 |str _=>obtain⟨t,rfl⟩:=r;rfl
 |Aa _=>obtain⟨t,rfl⟩:=r;rfl
 |Pj _=>obtain⟨t,rfl⟩:=r;rfl
 |ref _=>cases r;rfl
 |ty _=>cases r;rfl
def RelV.inj {x y:V}{u:Value}(r:RelV x u)(q:RelV y u):x=y:=Option.some.inj (r.abs.symm.trans q.abs)
theorem be.inj:∀{xs ys:List V}{us:Δ3},be xs us->be ys us->xs=ys
 |_,_,_,.nil,.nil=>rfl
 |_,_,_,.cons r t,.cons r' t'=>by rw[r.inj r',be.inj t t']
section
variable {X:Cx}{aa:Γ2}{σ:St}{H:Hp}{s:Shared}{a:Addr}{xs ys:List V}
def bi.of {K:Θ1}(h:H a=some (.lst xs)):bi K H a xs:=.inl (.inl h)
def aM.of {K:Θ1}(h:H a=some (.tup xs)):aM K H a xs:=.inl (.inl h)
def Inv.list (I:Inv X aa σ H s)(h:bi X.K H a xs):∃its:Δ3,be xs its/\PlainL s.heap a its.toArray/\xs.length<=sizeLine:=by
 rcases h with h |⟨o,its,n,hk,hc,hd,hs,hz,r⟩
 .obtain⟨z,its,n,r,e⟩:=h.ok I.bT;exact⟨its,r,⟨_,n,e,rfl,rfl,rfl⟩,z⟩
 .refine⟨its.toList,r,⟨o,n,I.sU a o hk,hc,hd,by simpa using hs⟩,?_⟩;have e:=r.length;simp only[Array.length_toList] at e;omega
def Inv.tuple (I:Inv X aa σ H s)(h:aM X.K H a xs):∃its:Δ3,be xs its/\IsTup s.heap a its.toArray/\xs.length<=sizeLine:=by
 rcases h with h |⟨o,its,n,hk,hc,hs,hz,r⟩
 .obtain⟨z,its,r,p⟩:=h.ok I.bT;exact⟨its,r,p,z⟩
 .refine⟨its.toList,r,⟨o,I.sU a o hk,hc,n,by simpa using hs⟩,?_⟩;have e:=r.length;simp only[Array.length_toList] at e;omega
def Inv.Es (I:Inv X aa σ H s)(h:bi X.K H a xs)(h':bi X.K H a ys):xs=ys:=by
 obtain⟨its,r,⟨o,n,e,_,_,d⟩,_⟩:=I.list h;obtain⟨its',r',⟨o',n',e',_,_,d'⟩,_⟩:=I.list h';rw[e] at e';cases e';rw[d] at d';injection d' with d1 _
 have:its=its':=by simpa using congrArg Array.toList d1
 subst this;exact r.inj r'
def Inv.jD (I:Inv X aa σ H s)(h:aM X.K H a xs)(h':aM X.K H a ys):xs=ys:=by
 obtain⟨its,r,⟨o,e,_,n,d⟩,_⟩:=I.tuple h;obtain⟨its',r',⟨o',e',_,n',d'⟩,_⟩:=I.tuple h';rw[e] at e';cases e';rw[d] at d';injection d' with d1 _
 have:its=its':=by simpa using congrArg Array.toList d1
 subst this;exact r.inj r'
end
abbrev Cx.wish (X:Cx)(E:Θ2):Cx:={ X with xe:=E }
abbrev Cx.PK (X:Cx):Cx:=X.wish λ_ _=>False
def Cx.Ok.wish {X:Cx}(ok:X.Ok)(E:Θ2):(X.wish E).Ok :=
 ⟨ok.mod,ok.kind,ok.glob,ok.blt,ok.above,ok.inj,ok.has,ok.Rh,ok.hd,ok.frames,ok.Ff,ok.E9,ok.bs,ok.IZ,ok.B6,ok.tL,ok.nE,ok.Ph⟩
def Cx.Ok.i7 {X:Cx}{E:Θ2}(ok:(X.wish E).Ok):X.Ok :=
 ⟨ok.mod,ok.kind,ok.glob,ok.blt,ok.above,ok.inj,ok.has,ok.Rh,ok.hd,ok.frames,ok.Ff,ok.E9,ok.bs,ok.IZ,ok.B6,ok.tL,ok.nE,ok.Ph⟩
section
variable {X:Cx}{aa:Γ2}{σ:St}{H:Hp}{s:Shared}{E:Θ2}
def Inv.wish (I:Inv X aa σ H s)(E:Θ2):Inv (X.wish E) aa σ H s:=⟨I.ok.wish E,I.os,I.bare,I.base,I.loc,I.cell,I.free,I.j5,I.pin,I.bT,I.len⟩
def Inv.i7 (I:Inv (X.wish E) aa σ H s):Inv X aa σ H s:=⟨I.ok.i7,I.os,I.bare,I.base,I.loc,I.cell,I.free,I.j5,I.pin,I.bT,I.len⟩
def SP.i7 {D:Ends}{f:Flow}{s':Shared}(h:SP (X.wish E) aa D f s'):SP X aa D f s':=by
 cases f with
 |next=>obtain⟨aH,H',I,q⟩:=h;exact⟨aH,H',I.i7,q⟩
 |brk=>obtain⟨aH,H',I,q⟩:=h;exact⟨aH,H',I.i7,q⟩
 |cont=>obtain⟨aH,H',I,q⟩:=h;exact⟨aH,H',I.i7,q⟩
 |ret u=>obtain⟨v,aH,H',I,r,q⟩:=h;exact⟨v,aH,H',I.i7,r,q⟩
def jO.PK {st:List Stmt}{t:TS}(h:jO X.PK st t):jO X st t:=λaa s σ H D I hw =>
 wpAny_mono (h aa s σ H D (I.wish _) hw) (λ_ _ q=>q.i7) λ_ _ z=>False.elim z
end
section
variable {X:Cx}{st:Stmt}{iQ:List Stmt}{t u:TS}{e:Expr}{te:TE}{pos:Pos}
def SQ:TS:=λD σ H=>D.nx σ H
def YG (t u:TS):TS:=λD σ H=>t { D with nx:=u D } σ H
def sX:jO X [] SQ:=λ_ _ σ H _ I h=>wpAny_execs_nil ⟨σ,H,I,h⟩
def dD (h1:PS X st t)(h2:jO X iQ u):jO X (st::iQ) (YG t u):=by
 intro aa s σ H D I h;refine wpAny_execs_cons (bB (h1 aa s σ H { D with nx:=u D } I h) λf s1 q=>?_);cases f with
 |next =>
  obtain⟨aH,H',I',q⟩:=q;exact h2 aa s1 aH H' D I' q
 |ret v=>exact q
 |brk=>exact q
 |cont=>exact q
def dr (h1:PS X st t):jO X [st] t:=by
 intro aa s σ H D I h;refine wpAny_execs_cons (bB (h1 aa s σ H D I h) λf s1 q=>?_);cases f with
 |next=>exact wpAny_execs_nil q
 |ret v=>exact q
 |brk=>exact q
 |cont=>exact q
def Inv.quiet {aa:Γ2}{σ:St}{H:Hp}{s:Shared}(I:Inv X aa σ H s):interactive X.env=false:=by simp[interactive,I.ok.kind]
def SR (te:TE):TS:=λD σ H=>te σ H λ_ H1=>D.nx σ H1
def yP (he:PE X e te)(hs:swapsWith e none pos.line X.env=pure false:=by rfl):PS X (.Expr e pos) (SR te):=by
 intro aa s σ H D I h;exact wpAny_Expr_any (bB (he aa s σ H _ I h) λv s1 ⟨x,H1,I1,r1,q1⟩=>⟨σ,H1,I1,q1⟩) I.quiet hs
def Rt (te:TE):TS:=λD σ H=>te σ H D.rt
def fD (he:PE X e te):PS X (.Return (some e) pos) (Rt te):=by
 intro aa s σ H D I h;exact wpAny_Return_some (bB (he aa s σ H _ I h) λv s1 ⟨x,H1,I1,r1,q1⟩=>⟨x,σ,H1,I1,r1,q1⟩)
def YL (c:TT)(t u:TS):TS:=λD σ H=>c σ H λb H1=>if b=true then t D σ H1 else u D σ H1
def eD {c:Expr}{a b:List Stmt}{tc:TT}(hc:PT X c tc)(ha:jO X a t)(hb:jO X b u):PS X (.If c a b pos) (YL tc t u):=by
 intro aa s σ H D I h;refine wpAny_If (bB (hc aa s σ H _ I h) λd s1 ⟨H1,I1,q1⟩=>?_);cases d with
 |true=>exact ha aa s1 σ H1 D I1 q1
 |false=>exact hb aa s1 σ H1 D I1 q1
end
abbrev TG:=V->St->Hp->(St->Hp->Prop)->Prop
abbrev Ac:=List V->St->Hp->(St->Hp->Prop)->Prop
def PG (X:Cx)(fq:Expr)(t:TG):Prop :=
 ∀(aa:Γ2) (s:Shared) (σ:St) (H:Hp) (v:V) (u:Value) (Q:St->Hp->Prop),Inv X aa σ H s->RelV v u->t v σ H Q ->
  wpAny (model X.prog X.w) X.A (assign fq X.env u) (λ_ s'=>∃aH H',Inv X aa aH H' s'/\Q aH H') X.xe s
def vg (X:Cx)(ts:Ξ2)(t:Ac):Prop :=
 ∀(aa:Γ2) (s:Shared) (σ:St) (H:Hp) (vs:List V) (us:Δ3) (Q:St->Hp->Prop),Inv X aa σ H s->be vs us->t vs σ H Q ->
  wpAny (model X.prog X.w) X.A (assignInOrder ((assignEach ts X.env).map (·.2)) us) (λ_ s'=>∃aH H',Inv X aa aH H' s'/\Q aH H') X.xe s
abbrev Ml:=V->V->V->Hp->(Hp->Prop)->Prop
def SE (X:Cx)(t:Ml):Prop :=
 ∀(aa:Γ2) (s:Shared) (σ:St) (H:Hp) (o i v:V) (ov iv u:Value) (Q:Hp->Prop),Inv X aa σ H s->RelV o ov->RelV i iv->RelV v u->t o i v H Q ->
  wpAny (model X.prog X.w) X.A (setItem ov iv u) (λ_ s'=>∃H',Inv X aa σ H' s'/\Q H') X.xe s
section
variable {X:Cx}{pos:Pos}
def eV (i:Nat):TG:=λv σ H Q=>Q (σ.set i (some v)) H
def fh {i:Nat}{x:Str}(hN:X.N.Nodup)(hi:X.N[i]?=some x)(hx:Loc X.env.scope x)(hf:X.fn x=true\/X.env.scope.names.lookup x=some .local:=by first |exact .inl rfl |exact .inr rfl |assumption):PG X (.Name x pos) (eV i):=by
 intro aa s σ H v u Q I r h;exact wpAny_assign_Name (ji I hN hi hx r (λs' I'=>⟨_,H,I',h⟩) hf)
def Sl:Ac:=λvs σ H Q=>vs=[]/\Q σ H
def CC (t:TG)(u:Ac):Ac:=λvs σ H Q=>∃v r,vs=v::r/\t v σ H λaH H'=>u r aH H' Q
def fV:vg X [] Sl:=by
 intro aa s σ H vs us Q I r h;obtain⟨e,h⟩:=h;subst e;cases r;exact assignInOrder_nil ⟨σ,H,I,h⟩
def va {e:Expr}{es:Ξ2}{t:TG}{u:Ac}(h1:PG X e t)(h2:vg X es u)
  (hs:(assignEach (e::es) X.env).map (·.2)=assign e X.env::(assignEach es X.env).map (·.2):=by rfl):vg X (e::es) (CC t u):=by
 intro aa s σ H vs us Q I r h;obtain⟨v,vr,e1,h⟩:=h;subst e1;cases r with
 |cons r rr =>
  rw[hs];refine assignInOrder_cons (bB (h1 aa s σ H _ _ _ I r h) λ_ s1 ⟨IE,H1,I1,q1⟩=>?_);exact h2 aa s1 IE H1 _ _ Q I1 rr q1
def L3 (K:Θ1)(n:Nat)(t:Ac):TG:=λv σ H Q=>∃a xs,v=.ref a/\aM K H a xs/\xs.length=n/\t xs σ H Q
def Nj {es:Ξ2}{k:Nat}{t:Ac}{n:Nat}(hc:X.calm=true)(h:vg X es t)
  (hn:(assignEach es X.env).length=n:=by rfl) (sQ:(assignEach es X.env).findIdx? (·.1)=none:=by rfl):PG X (.Tuple es k pos) (L3 X.K n t):=by
 intro aa s σ H v u Q I r hw;obtain⟨a,xs,e1,hq,hl,hw⟩:=hw;subst e1;cases r;obtain⟨its,rv,ht,hz⟩:=I.tuple hq;refine assign_Tuple_tuple (I.ok.hd hc) ht (by simp[hn,<- hl,rv.length]) sQ λh' hx=>?_
 have I1:Inv X aa σ H { s with heap:=h' }:=I.kept (t':=s.toks) λb o e=>hx b o (Yb (Zp e)) e
 exact h aa _ σ H xs _ Q I1 (by simpa using rv) hw
def V' (to ti:TE)(t:Ml):TG:=λv σ H Q=>to σ H λo H1=>ti σ H1 λi H2=>t o i v H2 λH3=>Q σ H3
def wk {o i:Expr}{to ti:TE}{t:Ml}(ho:PE X o to)(hi:PE X i ti)(hs:SE X t)
  (ha:∀v,assign (.Subscript o i pos) X.env v=(do
   let ov <- holding [v] (eval o X.env);let iv <- holding [v,ov] (eval i X.env)
   standAt pos
   holding [v,ov,iv] (setItem ov iv v)
   release [v,ov,iv] []):=by intro _;rfl):PG X (.Subscript o i pos) (V' to ti t):=by
 intro aa s σ H v u Q I r h;rw[ha];refine Zb (wpAny_holding (bB (ho aa s σ H _ I h) λov s1 ⟨x,H1,I1,r1,q1⟩=>?_));refine Zb (wpAny_holding (bB (hi aa s1 σ H1 _ I1 q1) λiv s2 ⟨y,H2,I2,r2,q2⟩=>?_));refine Zb (wpAny_standAt (Zb (wpAny_holding (bB (hs aa s2 σ H2 x y v ov iv u _ I2 r1 r2 r q2) λ_ s3 ⟨H3,I3,q3⟩=>?_))));exact wpAny_release ⟨σ,H3,I3,q3⟩
def FK (te:TE)(g:TG):TS:=λD σ H=>te σ H λx H1=>g x σ H1 D.nx
def kg {tg e:Expr}{te:TE}{g:TG}(he:PE X e te)(hg:PG X tg g)(hs:swapsWithSole [tg] e pos.line X.env=pure false:=by rfl)(hw:swappedStores [tg] e X.env=pure none:=by rfl)
  (h1:(assignEach [tg] X.env).map (·.2)=[assign tg X.env]:=by rfl):PS X (.Assign [tg] e pos) (FK te g):=by
 intro aa s σ H D I h;refine wpAny_Assign_stores (bB (he aa s σ H _ I h) λv s1 ⟨x,H1,I1,r1,q1⟩=>?_) hs hw;rw[h1];exact bB (hg aa s1 σ H1 x v _ I1 r1 q1) λ_ s2 q=>q
def jM {i:Nat}{x:Str}{e:Expr}{te:TE}{pk:Pos}(hN:X.N.Nodup)(hi:X.N[i]?=some x)(hx:Loc X.env.scope x)(he:PE X e te)(hs:swapsWith e (some (.Name x pk)) pos.line X.env=pure false:=by rfl)(hf:X.fn x=true\/X.env.scope.names.lookup x=some .local:=by first |exact .inl rfl |exact .inr rfl |assumption) :
  PS X (.Assign [.Name x pk] e pos) (FK te (eV i)):=by
 intro aa s σ H D I h;refine wpAny_Assign_Name (bB (he aa s σ H _ I h) λv s1 ⟨y,H1,I1,r1,q1⟩=>?_) hs;exact ji I1 hN hi hx r1 (λs2 I2=>⟨_,H1,I2,q1⟩) hf
def YH (i j:Nat)(ta:TA):TS:=λD σ H=>ta σ H λvs H1=>∃v w,vs=[v,w]/\D.nx ((σ.set i (some v)).set j (some w)) H1
def lK {i j:Nat}{x y:Str}{a b:Expr}{ta:TA}{px py pt:Pos}{kt k2 Vx}(hc:X.calm=true)(hN:X.N.Nodup)(hi:X.N[i]?=some x)(hj:X.N[j]?=some y)(V0:i≠j)
  (hx:X.env.scope.names.lookup x=some .local) (hy:X.env.scope.names.lookup y=some .local) (ha:PA X [a,b] ta)
  (hw:swappedStores [.Tuple [.Name x px,.Name y py] kt pt] (.Tuple [a,b] k2 Vx) X.env=pure (some [x,y]))
  (hs:swapsWithSole [.Tuple [.Name x px,.Name y py] kt pt] (.Tuple [a,b] k2 Vx) pos.line X.env=pure false:=by rfl) :
  PS X (.Assign [.Tuple [.Name x px,.Name y py] kt pt] (.Tuple [a,b] k2 Vx) pos) (YH i j ta):=by
 intro aa s σ H D I h;rw[exec_Assign_arm];refine Zb (wpAny_standAt ?_);rw[hs];refine Zb (wpAny_pure ?_);rw[if_neg (by decide)];refine Zb (Tuple_ (bB (ha _ aa s σ H _ I h) λus s1 ⟨vs,H1,I1,r1,q1⟩=>?_));obtain⟨v,w,e1,q1⟩:=q1;subst e1;obtain⟨u1,u2,rfl,rv,BL⟩:∃u1 u2,us=[u1,u2]/\RelV v u1/\RelV w u2:=by
  cases r1 with
  |cons p q =>
   cases q with
   |cons p' q' =>
    cases q'
    exact⟨_,_,rfl,p,p'⟩
 refine wpAny_newObj_type ?_ (by show 2<=sizeLine;decide);have I2:Inv X aa σ H1 { s1 with heap:=s1.heap.push { cls:=.type "tuple",data:=.seq [u1,u2].toArray } }:=I1.kept (t':=s1.toks) λb o e=>Zi _ e
 rw[hw];refine Zb (wpAny_pure ?_);show wpAny (model X.prog X.w) X.A (do rule "assign.swapped-stores";let items <- unpackItems (.ref s1.heap.objs.size) 2 none;assignInOrder [λv=>bindName X.env y v,λv=>bindName X.env x v] items.reverse;pure Flow.next) _ _ _;refine Zb (wpAny_rule (Zb (unpackItems_tuple (items:=#[u1,u2]) (I.ok.hd hc) (IsTup.new s1.heap _) λh' xF=>?_)));have I3:=I2.kept (h':=h') (t':=s1.toks) λb o e=>xF b o (Yb (Zp e)) e
 show wpAny _ _ (assignInOrder [λv=>bindName X.env y v,λv=>bindName X.env x v] [u2,u1] >>= λ_=>pure Flow.next) _ _ _;refine Zb (assignInOrder_cons (wpAny_bindName (ji I3 hN hj (.inl hy) BL (λs2 I4=>?_) (.inr hy))));refine assignInOrder_cons (wpAny_bindName (ji I4 hN hi (.inl hx) rv (λs3 I5=>assignInOrder_nil (wpAny_pure ?_)) (.inr hx)));rw[List.set_comm _ _ (Ne.symm V0)] at I5;exact⟨_,H1,I5,q1⟩
def CQ (c:TT)(tb:TS):TS:=λD σ H=>∃W:Nat->St->Hp->Prop,(∃m,W m σ H)/\∀m σ H,W m σ H ->
 c σ H λb H1=>if b=true then ∃N:St->Hp->Prop,(∀aH H',N aH H'->∃m',m'<m/\W m' aH H')/\tb { D with nx:=N,ct:=N,bk:=D.nx } σ H1 else D.nx σ H1
def lc {c:Expr}{body:List Stmt}{tc:TT}{tb:TS}(hp:PassesOwn (model X.prog X.w) X.A X.env X.xe)(hc:PT X c tc)(hb:jO X body tb):PS X (.While c body [] pos) (CQ tc tb):=by
 intro aa s σ H D I h;obtain⟨W,⟨m0,w0⟩,fj⟩:=h;refine wpAny_While (codeAny_whileLoop (λn s'=>∃aH H',Inv X aa aH H' s'/\W n aH H') ?_ m0 ⟨σ,H,I,w0⟩);rintro n s1 ⟨IE,H1,I1,w1⟩;refine wpAny_passesOwn hp (bB (hc aa s1 IE H1 _ I1 (fj n IE H1 w1)) λb s2 ⟨H2,I2,q2⟩=>?_);cases b with
 |true =>
  obtain⟨N,hN,q2⟩:=q2;rw[if_pos rfl];refine wpAny_passesOwn hp (bB (hb aa s2 IE H2 _ I2 q2) λf s3 q3=>?_);cases f with
  |next =>
   obtain⟨iD,H3,I3,n3⟩:=q3;obtain⟨m',hm,w3⟩:=hN iD H3 n3;exact⟨m',hm,iD,H3,I3,w3⟩
  |cont =>
   obtain⟨iD,H3,I3,n3⟩:=q3;obtain⟨m',hm,w3⟩:=hN iD H3 n3;exact⟨m',hm,iD,H3,I3,w3⟩
  |brk=>exact q3
  |ret v=>exact q3
 |false =>
  rw[if_neg Z6];exact wpAny_execs_nil ⟨IE,H2,I2,q2⟩
end
structure It where
 go:Nat->Hp->Prop
 vj:Nat->Hp->V->Hp->Prop
 stop:Nat->Hp->Prop
def dS (X:Cx)(aa:Γ2)(H:Hp)(b:Addr):Prop :=
 H b=none/\b≠X.env.locals/\b∉X.fs/\(b∈X.ex\/X.bp.heap.objs.size<=b)/\(∀x c,X.env.cells.lookup x=some c->c≠b)/\∀p∈X.pn++aa,p.1≠b
def Inv.jR {X:Cx}{aa:Γ2}{σ:St}{H H':Hp}{s:Shared}{b:Addr}(I:Inv X aa σ H s)(hb:s.heap.objs.size<=b)(hn:H' b=none):dS X aa H' b:=by
 refine⟨hn,Xq (Yj I.lt hb),I.ZE hb,.inr (Zk I.sz hb),λx c e z=>?_,λp hp z=>?_⟩
 .obtain⟨v,q⟩:=I.cell x c e;exact absurd (Yj q.lt (by rw[z];exact hb)) (Yq _)
 .exact absurd (Yj (Zp (I.pin p hp).1) (by rw[z];exact hb)) (Yq _)
structure Turn (P:Program)(w:World)(K:Θ1)(tg:Expr)(J:It)(fp:List Addr)(it:Addr)(tn:Nat->Heap->Prop):Prop where
 mem:it∈fp
 obj:∀i h,tn i h->∀b∈fp,∃o,h.get? b=some o/\∀v,o.data≠.cell v
 keep:∀i h h',tn i h->(∀b∈fp,∀o,h.get? b=some o->h'.get? b=some o)->tn i h'
 item:∀(X:Cx),X.prog=P->X.w=w->X.K=K->X.calm=true->∀(i:Nat) (aa:Γ2) (s:Shared) (σ:St) (H:Hp) (E:Θ2),Inv X aa σ H s->(∀b∈fp,dS X aa H b)->tn i s.heap->J.go i H ->
  wpAny (model P w) X.A (pyNext (.ref it)) (λr s1=>∃u,r=some u /\
   wpAny (model P w) X.A (letOwnedTupleGo tg (.ref it) u) (λ_ s2=>∃x H',Inv X aa σ H' s2/\RelV x u/\J.vj i H x H'/\tn (i+1) s2.heap/\∀b∈fp,H' b=none) E s1) E s
 done:∀(X:Cx),X.prog=P->X.w=w->X.K=K->X.calm=true->∀(i:Nat) (aa:Γ2) (s:Shared) (σ:St) (H:Hp) (E:Θ2),Inv X aa σ H s->(∀b∈fp,dS X aa H b)->tn i s.heap->J.stop i H ->
  wpAny (model P w) X.A (pyNext (.ref it)) (λr s1=>r=none/\Inv X aa σ H s1) E s
 self:∀(A:Around) (i:Nat) (s:Shared) (Q:Θ2) (E:Θ2),tn i s.heap->Q (.ref it) s->wpAny (model P w) A (pyIter (.ref it)) Q E s
abbrev TI:=St->Hp->(It->Hp->Prop)->Prop
def PIE (X:Cx)(aa:Γ2)(σ:St)(tg:Expr)(R:It->Hp->Prop)(IM:Value)(s2:Shared):Prop :=
 ∃(it:Addr) (fp:List Addr) (tn:Nat->Heap->Prop) (J:It) (H':Hp),IM=.ref it/\Inv X aa σ H' s2/\Turn X.prog X.w X.K tg J fp it tn/\tn 0 s2.heap/\(∀b∈fp,dS X aa H' b)/\R J H'
def PI (X:Cx)(tg iter:Expr)(wi:TI):Prop :=
 ∀(aa:Γ2) (s:Shared) (σ:St) (H:Hp) (R:It->Hp->Prop),Inv X aa σ H s->wi σ H R ->
  wpAny (model X.prog X.w) X.A (eval iter X.env) (λv s1=>wpAny (model X.prog X.w) X.A (pyIter v) (PIE X aa σ tg R) X.xe s1) X.xe s
def tY {M:Model}{A:Around}{E:Θ2}{s:Shared}{tg:Expr}{it:Addr}{u:Value}{o:Obj}{n:String}{vs:Array Value}{Q:Unit->Shared->Prop}(ho:s.heap.get? it=some o)(hc:o.cls=.type n)(hd:o.data=.fields vs)
  (hn:["enumerate","zip","dict_itemiterator","dict_reverseitemiterator","odict_iterator","itertools.zip_longest","itertools.pairwise"].contains n=false) (hQ:Q () s):wpAny M A (letOwnedTupleGo tg (.ref it) u) Q E s:=by
 unfold letOwnedTupleGo;cases tg<;>first
  |exact wpAny_pure hQ
  |(cases u<;>first
    |exact wpAny_pure hQ
    |(refine Zb (wpAny_load ho ?_);rw[hc,hd];show wpAny M A (if (["enumerate","zip","dict_itemiterator","dict_reverseitemiterator","odict_iterator","itertools.zip_longest","itertools.pairwise"].contains n&&vs[0]? == some (rawInt _))=true then _ else _) Q E s;rw[if_neg (by intro h;rw[hn,Bool.false_and] at h;cases h)];exact wpAny_pure hQ))
def xJ (K:Θ1)(a:Addr):It :=
 ⟨λi H=>∃xs x,bi K H a xs/\xs[i]?=some x,λi H x H'=>H'=H/\∀xs,bi K H a xs->xs[i]?=some x,λi H=>∃xs,bi K H a xs/\xs.length<=i⟩
def Ag (K:Θ1)(a:Addr):It :=
 ⟨λi H=>∃xs x,aM K H a xs/\xs[i]?=some x,λi H x H'=>H'=H/\∀xs,aM K H a xs->xs[i]?=some x,λi H=>∃xs,aM K H a xs/\xs.length<=i⟩
def Pn (lo:Int)(n:Nat):It:=⟨λi _=>i<n,λi H x H'=>H'=H/\x=.int (lo+i),λi _=>n<=i⟩
def qe {P:Program}{w:World}{K:Θ1}{tg:Expr}(a it:Addr):Turn P w K tg (xJ K a) [it] it (λi h=>h.IsListIter it a i) where
 mem:=by simp
 obj:=λi h st b hb=>by
  have e:b=it:=by simpa using hb
  subst e;obtain⟨o,e,c,d⟩:=st;exact⟨o,e,λv z=>by rw[d] at z;cases z⟩
 keep:=λi h h' st k=>st.at λo e=>k it (by simp) o e
 item:=by
  intro X hP hw hK hc i aa s σ H E I hf st hg;subst hP hw hK;obtain⟨xs,x,hq,hx⟩:=hg;obtain⟨its,rv,p,hz⟩:=I.list hq;obtain⟨u,hu,ru⟩:=rv.get hx;obtain⟨f0,f1,f2,f3,f4,f5⟩:=hf it (by simp);refine wpAny_pyNext_list_item st p.isList (x:=u) (by simpa using hu) λh' vo sb=>?_
  have I1:Inv X aa σ H { s with heap:=h' }:=I.turned (t':=s.toks) (λb o hb e=>(sb.2 b hb).trans e) f0 f1 f3 f4 f5;obtain⟨o,e,c,d⟩:=id vo;exact⟨u,rfl,tY (s:={ s with heap:=h' }) e c d (by decide) ⟨x,H,I1,ru,⟨rfl,λys hy=>by rw[I.Es hy hq];exact hx⟩,vo,λb hb=>(hf b hb).1⟩⟩
 done:=by
  intro X hP hw hK hc i aa s σ H E I hf st hg;subst hP hw hK;obtain⟨xs,hq,hx⟩:=hg;obtain⟨its,rv,p,hz⟩:=I.list hq;obtain⟨f0,f1,f2,f3,f4,f5⟩:=hf it (by simp);have hl:=rv.length;exact wpAny_pyNext_list_end (I.ok.hd hc) st p.isList (by simp;omega) λh' eb=>⟨rfl,I.turned (t':=s.toks) (λb o hb e=>eb b o hb e) f0 f1 f3 f4 f5⟩
 self:=λ_ _ _ _ _ st h=>wpAny_pyIter_listiter st h
def oM {P:Program}{w:World}{K:Θ1}{tg:Expr}(a it:Addr):Turn P w K tg (Ag K a) [it] it (λi h=>h.IsTupleIter it a i) where
 mem:=by simp
 obj:=λi h st b hb=>by
  have e:b=it:=by simpa using hb
  subst e;obtain⟨o,e,c,d⟩:=st;exact⟨o,e,λv z=>by rw[d] at z;cases z⟩
 keep:=λi h h' st k=>st.at λo e=>k it (by simp) o e
 item:=by
  intro X hP hw hK hc i aa s σ H E I hf st hg;subst hP hw hK;obtain⟨xs,x,hq,hx⟩:=hg;obtain⟨its,rv,p,hz⟩:=I.tuple hq;obtain⟨u,hu,ru⟩:=rv.get hx;obtain⟨f0,f1,f2,f3,f4,f5⟩:=hf it (by simp);refine wpAny_pyNext_tuple_item st (show s.heap.IsTuple a its.toArray from p) (x:=u) (by simpa using hu) λh' vo sb=>?_
  have I1:Inv X aa σ H { s with heap:=h' }:=I.turned (t':=s.toks) (λb o hb e=>(sb.2 b hb).trans e) f0 f1 f3 f4 f5;obtain⟨o,e,c,d⟩:=id vo;exact⟨u,rfl,tY (s:={ s with heap:=h' }) e c d (by decide) ⟨x,H,I1,ru,⟨rfl,λys hy=>by rw[I.jD hy hq];exact hx⟩,vo,λb hb=>(hf b hb).1⟩⟩
 done:=by
  intro X hP hw hK hc i aa s σ H E I hf st hg;subst hP hw hK;obtain⟨xs,hq,hx⟩:=hg;obtain⟨its,rv,p,hz⟩:=I.tuple hq;obtain⟨f0,f1,f2,f3,f4,f5⟩:=hf it (by simp);have hl:=rv.length;exact wpAny_pyNext_tuple_end (I.ok.hd hc) st (show s.heap.IsTuple a its.toArray from p) (by simp;omega) λh' eb=>⟨rfl,I.turned (t':=s.toks) (λb o hb e=>eb b o hb e) f0 f1 f3 f4 f5⟩
 self:=λ_ _ _ _ _ st h=>wpAny_pyIter_tupleiter st h
def wJ {P:Program}{w:World}{K:Θ1}{tg:Expr}(it:Addr)(lo:Int)(n:Nat):Turn P w K tg (Pn lo n) [it] it (λi h=>IsRangeIter h it (lo+(i:Nat)*1) ((n:Int)-(i:Nat)) 1) where
 mem:=by simp
 obj:=λi h st b hb=>by
  have e:b=it:=by simpa using hb
  subst e;exact⟨_,st,λv z=>by
   have z':Data.fields _=Data.cell v:=z;cases z'⟩
 keep:=λi h h' st k=>k it (by simp) _ st
 item:=by
  intro X hP hw hK hc i aa s σ H E I hf st hg;subst hP hw hK;obtain⟨f0,f1,f2,f3,f4,f5⟩:=hf it (by simp);have W:=Walks.range (prog:=X.prog) (w:=X.w) (I.ok.hd hc) it lo 1 n;refine W.item i s _ _ hg st λv h' tk hv vo kk=>?_
  obtain⟨t,rfl⟩:=hv;have I1:Inv X aa σ H { s with heap:=h',toks:=tk }:=I.turned (λb o hb e=>kk b o (by simpa using hb) e) f0 f1 f3 f4 f5;refine⟨_,rfl,tY (s:={ s with heap:=h',toks:=tk }) (n:="range_iterator") vo rfl rfl (by decide) ⟨.int (lo+i),H,I1,⟨t,?_⟩,⟨rfl,rfl⟩,vo,λb hb=>(hf b hb).1⟩⟩;rw[Int.mul_one]
 done:=by
  intro X hP hw hK hc i aa s σ H E I hf st hg;subst hP hw hK;obtain⟨f0,f1,f2,f3,f4,f5⟩:=hf it (by simp);exact wpAny_pyNext_range_end (I.ok.hd hc) st (by have:n<=i:=hg;omega) λh' eb=>⟨rfl,I.turned (t':=s.toks) (λb o hb e=>eb b o hb e) f0 f1 f3 f4 f5⟩
 self:=λ_ _ _ _ _ st h=>wpAny_pyIter_rangeiter st h
section
variable {X:Cx}{tg:Expr}
def TM (K:Θ1)(tl:TE):TI:=λσ H R=>tl σ H λx H1=>∃a,x=.ref a/\(∃xs,bi K H1 a xs)/\R (xJ K a) H1
def ZQ (K:Θ1)(tl:TE):TI:=λσ H R=>tl σ H λx H1=>∃a,x=.ref a/\(∃xs,aM K H1 a xs)/\R (Ag K a) H1
def DZ {aa:Γ2}{σ:St}{H:Hp}{s:Shared}{R:It->Hp->Prop}{E:Θ2}{lo hi:Int}{t u v:Tok}{tk:Nat}(I:Inv X aa σ H s)(h1:-(2 ^ 62)<=lo)(h2:lo<2 ^ 62)(h3:-(2 ^ 62)<=hi)(h4:hi<2 ^ 62)
  (q:R (Pn lo (hi-lo).toNat) H):wpAny (model X.prog X.w) X.A (pyIter (.ref s.heap.objs.size)) (PIE X aa σ tg R) E { s with heap:=s.heap.push { cls:=.type "range",data:=.fields #[.int lo t,.int hi u,.int 1 v] },toks:=tk }:=by
 refine wpAny_pyIter_range (IsRange.new ..) (small_one h1 h2 h3 h4) ?_;have I1:Inv X aa σ H { s with heap:=s.heap.push { cls:=.type "range",data:=.fields #[.int lo t,.int hi u,.int 1 v] },toks:=tk }:=I.kept λb o e=>Zi _ e
 refine⟨(s.heap.push { cls:=.type "range",data:=.fields #[.int lo t,.int hi u,.int 1 v] }).objs.size,[(s.heap.push { cls:=.type "range",data:=.fields #[.int lo t,.int hi u,.int 1 v] }).objs.size],_,_,H,rfl,
  I1.kept (t':=tk) λb o e=>Zi _ e,wJ _ lo (hi-lo).toNat,?_,λb hb=>?_,q⟩
 .have e1:lo+((0:Nat):Int)*1=lo:=by simp
  have e2:(((hi-lo).toNat:Nat):Int)-((0:Nat):Int)=Builtin.Range.rangeSize lo hi 1:=by rw[rangeSize_one];split<;>omega
  show IsRangeIter _ _ (lo+((0:Nat):Int)*1) ((((hi-lo).toNat:Nat):Int)-((0:Nat):Int)) 1;rw[e1,e2];exact Zw _ rfl
 .have e:b=(s.heap.push { cls:=.type "range",data:=.fields #[.int lo t,.int hi u,.int 1 v] }).objs.size:=by simpa using hb
  subst e;exact I1.jR (Ze _) (I1.bT.fresh (Ze _))
def TL (ta:TA):TI:=λσ H R=>ta σ H λvs H1=>∃j:Int,vs=[.int j]/\-(2 ^ 62)<=j/\j<2 ^ 62/\R (Pn 0 j.toNat) H1
def OJ {a:Expr}{ta:TA}{p pos:Pos}(hg:Gl X "range")(hm:X.mg "range"=none)(ha:PA X [a] ta)(hs:starEach [a] X.env=[(false,eval a X.env)]:=by rfl):PI X tg (.Call (.Name "range" p) [a] [] pos) (TL ta):=by
 intro aa s σ H R I h;refine Call_ (ij I hg hm boot_range (PyProof.Rows.callWith_type1 (bB (ha pos aa s σ H _ I h) λus s1 ⟨vs,H1,I1,r1,q1⟩=>?_) hs rfl));obtain⟨j,e,q1,q2,q⟩:=q1;subst e;cases r1 with
 |cons r rr =>
  cases rr
  obtain⟨t,rfl⟩:=r;exact call_range_1 (DZ I1 (by omega) (by omega) q1 q2 (by simpa using q))
def YM (wi:TI)(g:TG)(tb:TS):TS:=λD σ H=>wi σ H λJ H1=>∃W:Nat->Nat->St->Hp->Prop,(∃m,W 0 m σ H1)/\∀i m σ H,W i m σ H ->
 (J.stop i H/\D.nx σ H)\/(J.go i H/\∃N:St->Hp->Prop,(∀aH H',N aH H'->∃m',m'<m/\W (i+1) m' aH H')/\∀x H',J.vj i H x H'->g x σ H' λc3 H2=>tb { D with nx:=N,ct:=N,bk:=D.nx } c3 H2)
def d0 (fp:List Addr)(h:Heap):Γ2:=fp.filterMap λb=>(h.get? b).map λo=>(b,o)
def BB {fp:List Addr}{h:Heap}{b:Addr}{o:Obj}(hb:b∈fp)(e:h.get? b=some o):(b,o)∈d0 fp h:=List.mem_filterMap.mpr ⟨b,hb,by rw[e];rfl⟩
def AY {fp:List Addr}{h:Heap}{p:Addr×Obj}(hp:p∈d0 fp h):p.1∈fp/\h.get? p.1=some p.2:=by
 obtain⟨b,hb,e⟩:=List.mem_filterMap.mp hp;cases q:h.get? b with
 |none=>rw[q] at e;cases e
 |some o =>
  rw[q] at e;have e':(b,o)=p:=Option.some.inj e;subst e';exact⟨hb,q⟩
def Inv.pinned {aa:Γ2}{σ:St}{H:Hp}{s:Shared}{fp:List Addr}(I:Inv X aa σ H s)(hf:∀b∈fp,dS X aa H b)(ho:∀b∈fp,∃o,s.heap.get? b=some o/\∀v,o.data≠.cell v):Inv X (aa++d0 fp s.heap) σ H s :=
 I.rS λp hp=>(Zt.mp hp).elim (λz=>I.pin p (Z1 _ z)) λz=>by
  obtain⟨hb,e⟩:=AY z;obtain⟨f0,f1,f2,_⟩:=hf p.1 hb;obtain⟨o,e',d⟩:=ho p.1 hb;rw[e] at e';cases e';exact⟨e,f0,f1,f2,d⟩
def Inv.dH {aa pl:Γ2}{σ:St}{H:Hp}{s:Shared}(I:Inv X (aa++pl) σ H s):Inv X aa σ H s:=I.rS λp hp=>I.pin p (Z1 _ (Xw _ hp))
def nV {iter:Expr}{body:List Stmt}{wi:TI}{g:TG}{tb:TS}{pos:Pos}(hp:PassesOwn (model X.prog X.w) X.A X.env X.xe)(hc:X.calm=true)(hi:PI X tg iter wi)(hg:PG X tg g)(hb:jO X body tb)
  (hs:∀x,foldedSetIterable iter X.env x=pure x:=by intro _;rfl):PS X (.For tg iter body [] pos) (YM wi g tb):=by
 intro aa s σ H D I h;refine wpAny_For (bB (hi aa s σ H _ I h) λv s1 h1=>bB h1 λIM s2 h2=>?_) hs;obtain⟨it,fp,tn,J,H2,e,I2,T,gz,f2,W,⟨m0,w0⟩,fj⟩:=h2;subst e;have hV:∀{H':Hp},(∀b∈fp,H' b=none)->∀b∈fp,dS X aa H' b:=λhn b hb=>⟨hn b hb,(f2 b hb).2⟩
 refine codeAny_forLoop_any (λn s'=>∃i aH H',Inv X aa aH H' s'/\tn i s'.heap/\(∀b∈fp,H' b=none)/\W i n aH H') ?_ m0 ⟨0,σ,H2,I2,gz,λb hb=>(f2 b hb).1,w0⟩;rintro n s3 ⟨i,iD,H3,I3,Φ,QU,w3⟩;rcases fj i n iD H3 w3 with ⟨stop,qn⟩ |⟨go,N,hN,step⟩
 .refine wpAny_passesOwn hp (bB (T.done X rfl rfl rfl hc i aa s3 iD H3 X.xe I3 (hV QU) Φ stop) λr s4 ⟨hr,I4⟩=>?_);subst hr;exact wpAny_execs_nil ⟨iD,H3,I4,qn⟩
 .refine wpAny_passesOwn hp (bB (T.item X rfl rfl rfl hc i aa s3 iD H3 X.xe I3 (hV QU) Φ go) λr s4 ⟨u,hr,h4⟩=>?_);subst hr;refine wpAny_passesOwn hp (bB h4 λ_ s5 ⟨x,H5,I5,r5,y5,vn,zW⟩=>?_);have I5':=I5.pinned (hV zW) (T.obj _ _ vn);refine wpAny_passesOwn hp (bB (hg _ s5 iD H5 x u _ I5' r5 (step x H5 y5)) λ_ s6 ⟨σ6,H6,I6,q6⟩=>?_);refine wpAny_passesOwn hp (bB (hb _ s6 σ6 H6 _ I6 q6) λf s7 q7=>?_);have again:∀{zI:St}{H7:Hp},Inv X (aa++d0 fp s5.heap) zI H7 s7->N zI H7->∃m,m<n/\∃i aH H',Inv X aa aH H' s7/\tn i s7.heap/\(∀b∈fp,H' b=none)/\W i m aH H':=λ{zI H7} I7 n7=>by
   obtain⟨m',hm,w7⟩:=hN zI H7 n7;refine⟨m',hm,i+1,zI,H7,I7.dH,T.keep _ _ _ vn λb hb o e=>(I7.pin (b,o) (Z1 _ (Z1 _ (BB hb e)))).1,λb hb=>?_,w7⟩;obtain⟨o,e,d⟩:=T.obj _ _ vn b hb;exact(I7.pin (b,o) (Z1 _ (Z1 _ (BB hb e)))).2.1
  cases f with
  |next=>obtain⟨zI,H7,I7,n7⟩:=q7;exact again I7 n7
  |cont=>obtain⟨zI,H7,I7,n7⟩:=q7;exact again I7 n7
  |brk=>obtain⟨zI,H7,I7,q7⟩:=q7;exact⟨zI,H7,I7.dH,q7⟩
  |ret v=>obtain⟨x7,zI,H7,I7,r7,q7⟩:=q7;exact⟨x7,zI,H7,I7.dH,r7,q7⟩
end
def oF {K:Θ1}{a:Addr}{xs:List V}{g:TG}{tb:TS}{D:Ends}{σ:St}{H:Hp}(Pv:Nat->St->Hp->Prop)(h0:Pv 0 σ H)(hl:∀i σ H,i<=xs.length->Pv i σ H->bi K H a xs)
  (hs:∀i x σ H,xs[i]?=some x->Pv i σ H->g x σ H λc3 H2=>tb { D with nx:=Pv (i+1),ct:=Pv (i+1),bk:=D.nx } c3 H2) (hd:∀σ H,Pv xs.length σ H->D.nx σ H) :
  ∃W:Nat->Nat->St->Hp->Prop,(∃m,W 0 m σ H)/\∀i m σ H,W i m σ H ->
   ((xJ K a).stop i H/\D.nx σ H)\/((xJ K a).go i H/\∃N:St->Hp->Prop,(∀aH H',N aH H'->∃m',m'<m/\W (i+1) m' aH H')/\∀x H',(xJ K a).vj i H x H'->g x σ H' λc3 H2=>tb { D with nx:=N,ct:=N,bk:=D.nx } c3 H2):=by
 refine⟨λi m σ H=>m=xs.length-i/\i<=xs.length/\Pv i σ H,⟨xs.length,by simp,Z9 _,h0⟩,?_⟩;rintro i m σ H ⟨rfl,hi,p⟩;have q:=hl i σ H hi p;by_cases cT:i<xs.length
 .refine .inr ⟨⟨xs,xs[i],q,by simp[cT]⟩,Pv (i+1),λaH H' p'=>⟨xs.length-(i+1),by omega,rfl,cT,p'⟩,λx H' y=>?_⟩;obtain⟨e,y⟩:=y;subst e;exact hs i x σ _ (y xs q) p
 .have e:i=xs.length:=by omega
  subst e;exact .inl ⟨⟨xs,q,Ze _⟩,hd σ H p⟩
def Iu {K:Θ1}{a:Addr}{xs:List V}{g:TG}{tb:TS}{D:Ends}{σ:St}{H:Hp}(Pv:Nat->St->Hp->Prop)(h0:Pv 0 σ H)(hl:∀i σ H,i<=xs.length->Pv i σ H->aM K H a xs)
  (hs:∀i x σ H,xs[i]?=some x->Pv i σ H->g x σ H λc3 H2=>tb { D with nx:=Pv (i+1),ct:=Pv (i+1),bk:=D.nx } c3 H2) (hd:∀σ H,Pv xs.length σ H->D.nx σ H) :
  ∃W:Nat->Nat->St->Hp->Prop,(∃m,W 0 m σ H)/\∀i m σ H,W i m σ H ->
   ((Ag K a).stop i H/\D.nx σ H)\/((Ag K a).go i H/\∃N:St->Hp->Prop,(∀aH H',N aH H'->∃m',m'<m/\W (i+1) m' aH H')/\∀x H',(Ag K a).vj i H x H'->g x σ H' λc3 H2=>tb { D with nx:=N,ct:=N,bk:=D.nx } c3 H2):=by
 refine⟨λi m σ H=>m=xs.length-i/\i<=xs.length/\Pv i σ H,⟨xs.length,by simp,Z9 _,h0⟩,?_⟩;rintro i m σ H ⟨rfl,hi,p⟩;have q:=hl i σ H hi p;by_cases cT:i<xs.length
 .refine .inr ⟨⟨xs,xs[i],q,by simp[cT]⟩,Pv (i+1),λaH H' p'=>⟨xs.length-(i+1),by omega,rfl,cT,p'⟩,λx H' y=>?_⟩;obtain⟨e,y⟩:=y;subst e;exact hs i x σ _ (y xs q) p
 .have e:i=xs.length:=by omega
  subst e;exact .inl ⟨⟨xs,q,Ze _⟩,hd σ H p⟩
def kU {c:TT}{tb:TS}{D:Ends}{σ:St}{H:Hp}(Pv:St->Hp->Prop)(μ : St->Hp->Nat)(h0:Pv σ H)
  (hs:∀σ H,Pv σ H->c σ H λb H1=>if b=true then tb { D with nx:=λaH H'=>Pv aH H'/\μ aH H' < μ σ H,ct:=λaH H'=>Pv aH H'/\μ aH H' < μ σ H,bk:=D.nx } σ H1 else D.nx σ H1)
  (mono:∀σ H Q Q',(∀b H1,Q b H1->Q' b H1)->c σ H Q->c σ H Q'):CQ c tb D σ H:=by
 refine⟨λm σ H=>m=μ σ H/\Pv σ H,⟨_,rfl,h0⟩,?_⟩;rintro m σ H ⟨rfl,p⟩;refine mono σ H _ _ (λb H1 q=>?_) (hs σ H p);cases b with
 |true=>exact⟨_,λaH H' ⟨p',l⟩=>⟨_,l,rfl,p'⟩,q⟩
 |false=>exact q
abbrev R2:=V->V->Hp->VK->Prop
def eY (X:Cx)(f:Value->Value->Sem Value)(r:R2):Prop :=
 ∀(aa:Γ2) (s:Shared) (σ:St) (H:Hp) (x y:V) (v u:Value) (Q:VK),Inv X aa σ H s->RelV x v->RelV y u->r x y H Q ->
  wpAny (model X.prog X.w) X.A (f v u) (EP X aa σ Q) X.xe s
def XU (X:Cx)(f:Value->Sem Value)(r:V->Hp->VK->Prop):Prop :=
 ∀(aa:Γ2) (s:Shared) (σ:St) (H:Hp) (x:V) (v:Value) (Q:VK),Inv X aa σ H s->RelV x v->r x H Q ->
  wpAny (model X.prog X.w) X.A (f v) (EP X aa σ Q) X.xe s
def ck (X:Cx)(f:Value)(r:List V->Hp->VK->Prop):Prop :=
 ∀(aa:Γ2) (s:Shared) (σ:St) (H:Hp) (xs:List V) (us:Δ3) (Q:VK),Inv X aa σ H s->be xs us->r xs H Q ->
  wpAny (model X.prog X.w) X.A (call f us) (EP X aa σ Q) X.xe s
def ο (X:Cx)(r:V->Hp->(Bool->Hp->Prop)->Prop):Prop :=
 ∀(aa:Γ2) (s:Shared) (σ:St) (H:Hp) (x:V) (v:Value) (Q:Bool->Hp->Prop),Inv X aa σ H s->RelV x v->r x H Q ->
  wpAny (model X.prog X.w) X.A (truthy v) (TP X aa σ Q) X.xe s
def Kn (r:R2)(ta tb:TE):TE:=λσ H Q=>ta σ H λx H1=>tb σ H1 λy H2=>r x y H2 Q
def tUn (r:V->Hp->VK->Prop)(ta:TE):TE:=λσ H Q=>ta σ H λx H1=>r x H1 Q
def rI (C:Int->Int->Prop)(g:Int->Int->V):R2:=λx y H Q=>∃i j,x=.int i/\y=.int j/\C i j/\Q (g i j) H
def Bv (g:Int->Int->V):R2:=λx y H Q=>∃i j,x=.int i/\y=.int j/\Q (g i j) H
def rU (g:Int->V):V->Hp->VK->Prop:=λx H Q=>∃i,x=.int i/\Q (g i) H
section
variable {X:Cx}{a b c:Expr}{ta tb tc:TE}{pos:Pos}
def Mh (ha:PE X a ta)(hb:PE X b tb){aa:Γ2}{s:Shared}{σ:St}{H:Hp}{R:V->V->Hp->Prop}(I:Inv X aa σ H s)
  (h:ta σ H λx H1=>tb σ H1 λy H2=>R x y H2) {Q:Θ2}{f:Value->Value->Sem Value}
  (hf:∀v u s2 x y H2,Inv X aa σ H2 s2->RelV x v->RelV y u->R x y H2->wpAny (model X.prog X.w) X.A (f v u) Q X.xe s2) :
  wpAny (model X.prog X.w) X.A (eval a X.env) (λv bt=>wpAny (model X.prog X.w) X.A (eval b X.env) (λu cE=>wpAny (model X.prog X.w) X.A (f v u) Q X.xe cE) X.xe bt) X.xe s:=by
 refine bB (ha aa s σ H _ I h) λv s1 ⟨x,H1,I1,r1,q1⟩=>?_
 refine bB (hb aa s1 σ H1 _ I1 q1) λu s2 ⟨y,H2,I2,r2,q2⟩=>?_
 exact hf v u s2 x y H2 I2 r1 r2 q2
def cB {op:Operator}{r:R2}(ho:eY X (binaryOp op) r)(ha:PE X a ta)(hb:PE X b tb):PE X (.BinOp a op b pos) (Kn r ta tb):=by
 intro aa s σ H Q I h;exact wpAny_BinOp (Mh ha hb I h λv u s2 x y H2 I2 rx ry q=>ho aa s2 σ H2 x y v u Q I2 rx ry q)
def Tn {op:UnaryOp}{r:V->Hp->VK->Prop}(ho:XU X (unaryOp op) r)(ha:PE X a ta):PE X (.UnaryOp op a pos) (tUn r ta):=by
 intro aa s σ H Q I h;exact UnaryOp_ (bB (ha aa s σ H _ I h) λv s1 ⟨x,H1,I1,r1,q1⟩=>ho aa s1 σ H1 x v Q I1 r1 q1)
def EQ {f:Value->Value->Sem Value}{C:Int->Int->Prop}{g:Int->Int->Int}
  (rule:∀(i j:Int) (t u:Tok) (s:Shared) (Q:Θ2) (E:Θ2),C i j->Q (.int (g i j) s.toks) { s with toks:=s.toks+1 }->wpAny (model X.prog X.w) X.A (f (.int i t) (.int j u)) Q E s) :
  eY X f (rI C λi j=>.int (g i j)):=by
 intro aa s σ H x y v u Q I rx ry h;obtain⟨i,j,rfl,rfl,hc,q⟩:=h;obtain⟨t,rfl⟩:=rx;obtain⟨t',rfl⟩:=ry;exact rule i j t t' s _ _ hc ⟨.int (g i j),H,I.tok _,⟨_,rfl⟩,q⟩
def LL {f:Value->Value->Sem Value}{g:Int->Int->Int}
  (rule:∀(i j:Int) (t u:Tok) (s:Shared) (Q:Θ2) (E:Θ2),Q (.int (g i j) s.toks) { s with toks:=s.toks+1 }->wpAny (model X.prog X.w) X.A (f (.int i t) (.int j u)) Q E s) :
  eY X f (Bv λi j=>.int (g i j)):=by
 intro aa s σ H x y v u Q I rx ry h;obtain⟨i,j,rfl,rfl,q⟩:=h;obtain⟨t,rfl⟩:=rx;obtain⟨t',rfl⟩:=ry;exact rule i j t t' s _ _ ⟨.int (g i j),H,I.tok _,⟨_,rfl⟩,q⟩
def LN {f:Value->Value->Sem Value}{g:Int->Int->Bool}
  (rule:∀(i j:Int) (t u:Tok) (s:Shared) (Q:Θ2) (E:Θ2),Q (.bool (g i j)) s->wpAny (model X.prog X.w) X.A (f (.int i t) (.int j u)) Q E s) :
  eY X f (Bv λi j=>.bl (g i j)):=by
 intro aa s σ H x y v u Q I rx ry h;obtain⟨i,j,rfl,rfl,q⟩:=h;obtain⟨t,rfl⟩:=rx;obtain⟨t',rfl⟩:=ry;exact rule i j t t' s _ _ ⟨.bl (g i j),H,I,rfl,q⟩
def ρ (i j:Int):Prop:=0<j/\j<1073741824
def MJ (i j:Int):Prop:=0<=j/\j<=1000000/\i.natAbs<2 ^ 64
def MK (i j:Int):Prop:=(-(2 ^ 64)<i/\i<2 ^ 64)\/(-(2 ^ 64)<j/\j<2 ^ 64)
def MK.ok {i j:Int}(h:MK i j):IntMulOk i j:=by
 rcases h with ⟨h1,h2⟩ |⟨h1,h2⟩
 .exact .of_left (intBits_le_64 h1 h2)
 .exact .of_right (intBits_le_64 h1 h2)
def two_pow_nn (k:Nat):(0:Int)<=2 ^ k:=by
 rw[two_pow_cast];exact Int.natCast_nonneg _
def de:eY X (binaryOp .Add) (Bv λi j=>.int (i+j)):=LL λ_ _ _ _ _ _ _ q=>add_int q
def wq:eY X (binaryOp .Sub) (Bv λi j=>.int (i-j)):=LL λ_ _ _ _ _ _ _ q=>sub_int q
def gm:eY X (binaryOp .Mult) (rI MK λi j=>.int (i*j)):=EQ λ_ _ _ _ _ _ _ hc q=>mul_int q hc.ok
def kK:eY X (binaryOp .FloorDiv) (rI ρ λi j=>.int (i / j)):=EQ λi j _ _ _ _ _ hc q=>by
 have h1:(0:Int)<j:=hc.1;have h2:j<1073741824:=hc.2;exact floordiv_int (by omega) (by rw[Jh i (by omega)];exact q) (.inl (PyProof.noPylong_small (by omega)))
def gn:eY X (binaryOp .Mod) (rI (λ_ j=>0<j) λi j=>.int (i % j)):=EQ λi j _ _ _ _ _ hc q=>by
 have h1:(0:Int)<j:=hc;exact mod_int' (by omega) (by rw[Int.fmod_eq_emod_of_nonneg i (by omega)];exact q)
def yS:eY X (binaryOp .Mod) (rI (λ_ j=>j≠0) λi j=>.int (i.fmod j)):=EQ λ_ _ _ _ _ _ _ hc q=>mod_int' hc q
def nW:eY X (binaryOp .Pow) (rI MJ λi j=>.int (i ^ j.toNat)):=EQ λ_ _ _ _ _ _ _ hc q=>pow_int_small hc.1 hc.2.1 hc.2.2 q
def Nu:eY X (binaryOp .LShift) (rI MJ λi j=>.int (i*2 ^ j.toNat)):=EQ λ_ _ _ _ _ _ _ hc q=>lshift_int_small hc.1 hc.2.1 hc.2.2 q
def Nt:eY X (binaryOp .RShift) (rI (λ_ j=>0<=j) λi j=>.int (i / 2 ^ j.toNat)):=EQ λi j _ _ _ _ _ hc q =>
 rshift_int hc (by rw[Jh i (two_pow_nn _)];exact q)
def Nx:eY X (binaryOp .BitAnd) (Bv λi j=>.int (Builtin.bitAnd i j)):=LL λ_ _ _ _ _ _ _ q=>and_int q
def unI {f:Value->Sem Value}{g:Int->Int}
  (rule:∀(i:Int) (t:Tok) (s:Shared) (Q:Θ2) (E:Θ2),Q (.int (g i) s.toks) { s with toks:=s.toks+1 }->wpAny (model X.prog X.w) X.A (f (.int i t)) Q E s) :
  XU X f (rU λi=>.int (g i)):=by
 intro aa s σ H x v Q I rx h;obtain⟨i,rfl,q⟩:=h;obtain⟨t,rfl⟩:=rx;exact rule i t s _ _ ⟨.int (g i),H,I.tok _,⟨_,rfl⟩,q⟩
def MM:XU X (unaryOp .USub) (rU λi=>.int (-i)):=unI λ_ _ _ _ _ q=>neg_int q
end
def RH:V->V->Bool
 |.bZ,.bZ=>true |.bZ,.int _=>true |.int _,.bZ=>true |.bZ,.bl _=>true |.bl _,.bZ=>true |.bZ,.str _=>true |.str _,.bZ=>true
 |.int _,.int _=>true |.bl _,.bl _=>true |.str _,.str _=>true |.Aa _,.Aa _=>true
 |.int _,.str _=>true |.str _,.int _=>true |.bl _,.str _=>true |.str _,.bl _=>true
 |_,_=>false
def rEq:R2:=λx y H Q=>RH x y=true/\Q (.bl (decide (x=y))) H
def rNe:R2:=λx y H Q=>RH x y=true/\Q (.bl (!decide (x=y))) H
def zy {i j:Int}:decide (V.int i=V.int j)=(i == j):=by
 rw[Ya];simp
def DB {i j:Bool}:decide (V.bl i=V.bl j)=(i == j):=by
 rw[Ya];simp
def zw {i j:Str}:decide (V.str i=V.str j)=(i == j):=by
 rw[Ya];simp
def zz {i j:Array UInt8}:decide (V.Aa i=V.Aa j)=(i.toList == j.toList):=by
 rw[Ya];cases i;cases j;simp
section
variable {X:Cx}{a b c:Expr}{ta tb tc:TE}{pos:Pos}
def jV {aa:Γ2}{σ:St}{H:Hp}{s:Shared}{Q:VK}{k k':Bool}(I:Inv X aa σ H s)(q:Q (.bl k) H)(e:k=k'):EP X aa σ Q (.bool k') s:=by
 subst e;exact⟨.bl k,H,I,rfl,q⟩
def nL:eY X (compareOp .Eq) rEq:=by
 intro aa s σ H x y v u Q I rx ry h;obtain⟨hs,q⟩:=h;cases x with
 |bZ =>
  cases rx
  cases y with
  |bZ=>cases ry;exact PySem.EqNone.eq_none_none (jV I q (by simp))
  |bl j=>cases ry;exact PySem.EqNone.eq_none_bool (jV I q (by simp))
  |int j=>obtain⟨t',rfl⟩:=ry;exact PySem.EqNone.eq_none_int (jV I q (by simp))
  |str j=>obtain⟨t',rfl⟩:=ry;exact PySem.EqNone.eq_none_str (jV I q (by simp))
  |_=>exact absurd (show false=true from hs) Z6
 |bl i =>
  cases rx
  cases y with
  |bZ=>cases ry;exact PySem.EqNone.eq_bool_none (jV I q (by simp))
  |bl j=>cases ry;exact eq_bool (jV I q DB)
  |str j=>obtain⟨t',rfl⟩:=ry;exact PySem.EqMixed.eq_bool_str (jV I q (by simp))
  |_=>exact absurd (show false=true from hs) Z6
 |int i =>
  obtain⟨t,rfl⟩:=rx;cases y with
  |bZ=>cases ry;exact PySem.EqNone.eq_int_none (jV I q (by simp))
  |int j=>obtain⟨t',rfl⟩:=ry;exact eq_int (jV I q zy)
  |str j=>obtain⟨t',rfl⟩:=ry;exact PySem.EqMixed.eq_int_str (jV I q (by simp))
  |_=>exact absurd (show false=true from hs) Z6
 |str i =>
  obtain⟨t,rfl⟩:=rx;cases y with
  |bZ=>cases ry;exact PySem.EqNone.eq_str_none (jV I q (by simp))
  |bl j=>cases ry;exact PySem.EqMixed.eq_str_bool (jV I q (by simp))
  |int j=>obtain⟨t',rfl⟩:=ry;exact PySem.EqMixed.eq_str_int (jV I q (by simp))
  |str j=>obtain⟨t',rfl⟩:=ry;exact eq_str (jV I q zw)
  |_=>exact absurd (show false=true from hs) Z6
 |Aa i =>
  obtain⟨t,rfl⟩:=rx;cases y with
  |Aa j=>obtain⟨t',rfl⟩:=ry;exact PySem.W.eq_bytes (jV I q zz)
  |_=>exact absurd (show false=true from hs) Z6
 |_=>cases y<;>exact absurd (show false=true from hs) Z6
def pW:eY X (compareOp .NotEq) rNe:=by
 intro aa s σ H x y v u Q I rx ry h;obtain⟨hs,q⟩:=h;cases x with
 |bZ =>
  cases rx
  cases y with
  |bZ=>cases ry;exact PySem.EqNone.ne_none_none (jV I q (by simp))
  |bl j=>cases ry;exact PySem.EqNone.ne_none_bool (jV I q (by simp))
  |int j=>obtain⟨t',rfl⟩:=ry;exact PySem.EqNone.ne_none_int (jV I q (by simp))
  |str j=>obtain⟨t',rfl⟩:=ry;exact PySem.EqNone.ne_none_str (jV I q (by simp))
  |_=>exact absurd (show false=true from hs) Z6
 |bl i =>
  cases rx
  cases y with
  |bZ=>cases ry;exact PySem.EqNone.ne_bool_none (jV I q (by simp))
  |bl j=>cases ry;exact ne_bool (jV I q (congrArg not DB))
  |str j=>obtain⟨t',rfl⟩:=ry;exact PySem.EqMixed.ne_bool_str (jV I q (by simp))
  |_=>exact absurd (show false=true from hs) Z6
 |int i =>
  obtain⟨t,rfl⟩:=rx;cases y with
  |bZ=>cases ry;exact PySem.EqNone.ne_int_none (jV I q (by simp))
  |int j=>obtain⟨t',rfl⟩:=ry;exact ne_int (jV I q (congrArg not zy))
  |str j=>obtain⟨t',rfl⟩:=ry;exact PySem.EqMixed.ne_int_str (jV I q (by simp))
  |_=>exact absurd (show false=true from hs) Z6
 |str i =>
  obtain⟨t,rfl⟩:=rx;cases y with
  |bZ=>cases ry;exact PySem.EqNone.ne_str_none (jV I q (by simp))
  |bl j=>cases ry;exact PySem.EqMixed.ne_str_bool (jV I q (by simp))
  |int j=>obtain⟨t',rfl⟩:=ry;exact PySem.EqMixed.ne_str_int (jV I q (by simp))
  |str j=>obtain⟨t',rfl⟩:=ry;exact ne_str (jV I q (congrArg not zw))
  |_=>exact absurd (show false=true from hs) Z6
 |Aa i =>
  obtain⟨t,rfl⟩:=rx;cases y with
  |Aa j=>obtain⟨t',rfl⟩:=ry;exact PySem.W.ne_bytes (jV I q (congrArg not zz))
  |_=>exact absurd (show false=true from hs) Z6
 |_=>cases y<;>exact absurd (show false=true from hs) Z6
def l6:eY X (compareOp .Lt) (Bv λi j=>.bl (decide (i<j))):=LN λ_ _ _ _ _ _ _ q=>lt_int q
def jY:eY X (compareOp .Gt) (Bv λi j=>.bl (decide (j<i))):=LN λ_ _ _ _ _ _ _ q=>gt_int q
def Tp:eY X (compareOp .GtE) (Bv λi j=>.bl (decide (j<=i))):=LN λ_ _ _ _ _ _ _ q=>ge_int q
def Df:eY X (compareOp .Is) (λx y H Q=>y=.bZ/\Q (.bl (decide (x=.bZ))) H):=by
 intro aa s σ H x y v u Q I rx ry h;obtain⟨rfl,q⟩:=h;cases ry;refine is_none_gen (jV I q ?_);cases x<;>first
  |(cases rx;rfl)
  |(obtain⟨t,rfl⟩:=rx;rfl)
def Hl:eY X (compareOp .IsNot) (λx y H Q=>y=.bZ/\Q (.bl (!decide (x=.bZ))) H):=by
 intro aa s σ H x y v u Q I rx ry h;obtain⟨rfl,q⟩:=h;cases ry;refine isnot_none_gen (jV I q ?_);cases x<;>first
  |(cases rx;rfl)
  |(obtain⟨t,rfl⟩:=rx;rfl)
def eY.or {f:Value->Value->Sem Value}{r r':R2}(h:eY X f r)(h':eY X f r'):eY X f (λx y H Q=>r x y H Q\/r' x y H Q):=by
 intro aa s σ H x y v u Q I rx ry q;rcases q with q |q
 .exact h aa s σ H x y v u Q I rx ry q
 .exact h' aa s σ H x y v u Q I rx ry q
def aK (b:Expr){op:CmpOp}(h:op≠.In:=by decide)(h2:op≠.NotIn:=by decide):behindInMarks op b=false:=by
 have e1:(op == CmpOp.In)=false:=by cases op<;>first |rfl |exact absurd rfl h
 have e2:(op == CmpOp.NotIn)=false:=by cases op<;>first |rfl |exact absurd rfl h2
 cases b<;>simp[behindInMarks,e1,e2]
def BO {op:CmpOp}{r:R2}(ho:eY X (compareOp op) r)(ha:PE X a ta)(hb:PE X b tb)(hm:behindInMarks op b=false):PE X (.Compare a [op] [b] pos) (Kn r ta tb):=by
 intro aa s σ H Q I h;exact wpAny_Compare1 (Mh ha hb I h λv u s2 x y H2 I2 rx ry q=>ho aa s2 σ H2 x y v u Q I2 rx ry q) hm
def Jn (t:TE):TT:=λσ H Q=>t σ H λx H'=>∃k,x=.bl k/\Q k H'
def pQ {op:CmpOp}{r:R2}(ho:eY X (compareOp op) r)(ha:PE X a ta)(hb:PE X b tb)(hm:behindInMarks op b=false):PT X (.Compare a [op] [b] pos) (Jn (Kn r ta tb)):=by
 intro aa s σ H Q I h;refine wpAny_isTrue_Compare1 (bB (ha aa s σ H _ I h) λv s1 ⟨x,H1,I1,r1,q1⟩=>bB (hb aa s1 σ H1 _ I1 q1) λu s2 ⟨y,H2,I2,r2,q2⟩ =>
  bB (ho aa s2 σ H2 x y v u _ I2 r1 r2 q2) λc s3 ⟨z,H3,I3,r3,k,e,q3⟩=>?_) hm
 subst e;cases r3;exact wpAny_truthy_bool ⟨H3,I3,q3⟩
def SD (K:Θ1)(x:V)(H:Hp)(k:Bool):Prop :=
 match x with
 |.bZ=>k=false
 |.bl b=>k=b
 |.int i=>k=(i != 0)
 |.str y=>y.length<=sizeLine/\k=((y.length:Int) != 0)
 |.Aa y=>y.size<=sizeLine/\k=((y.size:Int) != 0)
 |.ref p=>(∃xs,bi K H p xs/\k=!xs.isEmpty)\/(∃xs,aM K H p xs/\k=!xs.isEmpty)\/∃kvs,H p=some (.dK kvs)/\k=!kvs.isEmpty
 |_=>False
def xl {κ : Type}{kvs:List (κ × V)}{vs:List (κ × Value)}(r:KV kvs vs):(!vs.isEmpty)=!kvs.isEmpty:=by
 cases r<;>rfl
def oV {xs:List V}{its:Δ3}(r:be xs its):(!its.toArray.isEmpty)=!xs.isEmpty:=by
 cases r<;>simp
def lN:(sizeLine:Nat)<2 ^ 63:=by rw[sizeLine_eq];decide
def MN:ο X (λx H Q=>∃k,SD X.K x H k/\Q k H):=by
 intro aa s σ H x v Q I rx h;obtain⟨k,e,q⟩:=h;have hl:=lN;have hs:sizeLine=16777216:=sizeLine_eq;cases x with
 |bZ =>
  cases rx
  have e':k=false:=e;subst e';exact truthy_none ⟨H,I,q⟩
 |bl b =>
  cases rx
  have e':k=b:=e;subst e';exact wpAny_truthy_bool ⟨H,I,q⟩
 |int i =>
  obtain⟨t,rfl⟩:=rx;have e':k=(i != 0):=e;subst e';exact PySem.P.truthy_int ⟨H,I,q⟩
 |str y =>
  obtain⟨t,rfl⟩:=rx;obtain⟨hy,e'⟩:y.length<=sizeLine/\k=((y.length:Int) != 0):=e;subst e';exact PySem.P.truthy_str (by omega) ⟨H,I.tok _,q⟩
 |Aa y =>
  obtain⟨t,rfl⟩:=rx;obtain⟨hy,e'⟩:y.size<=sizeLine/\k=((y.size:Int) != 0):=e;subst e';exact PySem.W.truthy_bytes (by omega) ⟨H,I.tok _,q⟩
 |ref p =>
  cases rx
  have e':(∃xs,bi X.K H p xs/\k=!xs.isEmpty)\/(∃xs,aM X.K H p xs/\k=!xs.isEmpty)\/∃kvs,H p=some (.dK kvs)/\k=!kvs.isEmpty:=e;rcases e' with ⟨xs,hx,e'⟩ |⟨xs,hx,e'⟩ |⟨kvs,hx,e'⟩
  .subst e';obtain⟨its,r,pl,hz⟩:=I.list hx;have cu:=r.length;exact wpAny_truthy_list pl.isList (by simp only[Z3];omega) ⟨H,I.tok _,by rw[oV r];exact q⟩
  .subst e';obtain⟨its,r,pl,hz⟩:=I.tuple hx;have cu:=r.length;exact truthy_tuple pl (by simp only[Z3];omega) ⟨H,I.tok _,by rw[oV r];exact q⟩
  .subst e';obtain⟨hz,hS,vs,r,m⟩:kvs.length<=sizeLine/\(p == sysModules)=false/\∃vs,KV kvs vs/\s.heap.DictOf (l4 X.prog X.w) p vs:=I.bT p _ hx;have cu:kvs.length=vs.length:=Paired.length r;exact wpAny_truthy_dict hS m (by omega) ⟨H,I.tok _,by rw[xl r];exact q⟩
 |_=>exact(show False from e).elim
def uj (ha:PE X a ta)(he:∀gG,isTrue a X.env gG=(do let v <- gG;standAt a.pos;holding [v] (truthy v))) :
  PT X a (λσ H Q=>ta σ H λx H'=>∃k,SD X.K x H' k/\Q k H'):=by
 intro aa s σ H Q I h;exact isTrue_plain (bB (ha aa s σ H _ I h) λv s1 ⟨x,H1,I1,r1,q1⟩=>MN aa s1 σ H1 x v Q I1 r1 q1) (he _)
def vals1 {x:V}{us:Δ3}(r:be [x] us):∃u,us=[u]/\RelV x u:=by
 cases r with
 |cons r1 r2=>cases r2;exact⟨_,rfl,r1⟩
def vals2 {x y:V}{us:Δ3}(r:be [x,y] us):∃u w',us=[u,w']/\RelV x u/\RelV y w':=by
 cases r with
 |cons r1 r2 =>
  cases r2 with
  |cons r3 r4=>cases r4;exact⟨_,_,rfl,r1,r3⟩
def lj:ck X (.builtin "abs") (λxs H Q=>∃i,xs=[.int i]/\Q (.int (if i<0 then -i else i)) H):=by
 intro aa s σ H xs us Q I r h;obtain⟨i,rfl,q⟩:=h;obtain⟨u,rfl,t,rfl⟩:=vals1 r;exact call_abs_int λu tk=>⟨.int (if i<0 then -i else i),H,I.tok _,⟨_,rfl⟩,q⟩
def qG (hc:X.calm=true):ck X (.builtin "max") (λxs H Q=>∃i j,xs=[.int i,.int j]/\Q (.int (if j>i then j else i)) H):=by
 intro aa s σ H xs us Q I r h;obtain⟨i,j,rfl,q⟩:=h;obtain⟨u,w',rfl,⟨t,rfl⟩,⟨t',rfl⟩⟩:=vals2 r;refine max_two_ints (I.ok.hd hc) λh' tk k=>⟨_,H,I.kept k,?_,q⟩
 by_cases hj:j>i
 .rw[if_pos hj,if_pos hj];exact⟨_,rfl⟩
 .rw[if_neg hj,if_neg hj];exact⟨_,rfl⟩
def Bp (hc:X.calm=true):ck X (.builtin "min") (λxs H Q=>∃i j,xs=[.int i,.int j]/\Q (.int (if j<i then j else i)) H):=by
 intro aa s σ H xs us Q I r h;obtain⟨i,j,rfl,q⟩:=h;obtain⟨u,w',rfl,⟨t,rfl⟩,⟨t',rfl⟩⟩:=vals2 r;refine min_two_ints (I.ok.hd hc) λh' tk k=>⟨_,H,I.kept k,?_,q⟩
 by_cases hj:j<i
 .rw[if_pos hj,if_pos hj];exact⟨_,rfl⟩
 .rw[if_neg hj,if_neg hj];exact⟨_,rfl⟩
def jK:ck X (.type "int") (λxs H Q=>(∃i,xs=[.int i]/\Q (.int i) H)\/∃k,xs=[.bl k]/\Q (.int (if k then 1 else 0)) H):=by
 intro aa s σ H xs us Q I r h;rcases h with ⟨i,rfl,q⟩ |⟨k,rfl,q⟩
 .obtain⟨u,rfl,t,rfl⟩:=vals1 r;exact call_int_int ⟨.int i,H,I,⟨_,rfl⟩,q⟩
 .obtain⟨u,rfl,r1⟩:=vals1 r;cases r1;exact call_int_bool ⟨.int (if k then 1 else 0),H,I.tok _,⟨_,rfl⟩,q⟩
end
structure Mn (h:Heap)(x dx C:Addr)(mA:Θ3):Prop where
 obj:h.get? x=some (PySem.W.instObj C dx)
 ns:h.Ns1 dx mA
 ne:dx≠x
def A1 {h:Heap}{dx:Addr}{mA:Θ3}(n:h.Ns1 dx mA):∃od,h.get? dx=some od/\∀name,PySem.W.lookIn name od=some (mA name):=by
 obtain⟨o,es,ep,ho,hd,hk,_,hm⟩:=n;refine⟨o,ho,λname=>?_⟩;have e:=hm name;unfold nsFind findBy at e;rw[<- Array.find?_toList] at e;unfold PySem.W.lookIn;rw[hd];dsimp only;split
 .rename_i y q;rw[q] at e;exact congrArg some e
 .rename_i q;rw[q] at e;have a:es.toList.any (·.refKey)=false:=by
   rw[List.any_eq_false];intro y hy;obtain⟨z,t,tJ⟩:=hk y (Array.mem_toList_iff.mp hy);simp[DictEntry.refKey,tJ]
  have a':¬ es.toList.any (·.refKey)=true:=by rw[a];exact Z6
  rw[if_neg a'];exact congrArg some e
def Mn.look {h:Heap}{x dx C:Addr}{mA:Θ3}(I:Mn h x dx C mA):∃od,PySem.W.InstAt h x (PySem.W.instObj C dx) C (some od)/\∀name,PySem.W.lookIn name od=some (mA name) :=
 let ⟨od,ho,hl⟩:=A1 I.ns
 ⟨od,⟨I.obj,rfl,rfl,ho⟩,hl⟩
section
variable {prog:Program}{w:World}{A:Around}{E:Θ2}{s:Shared}{K:Θ1}{x dx C f:Addr}{mA:Θ3}{name:Str}{v:Value}
end
def aJ.some_of {v:V}{o:Φ1}(r:aJ (some v) o):∃u,o=some u/\RelV v u:=by
 cases o with
 |none=>exact(show False from r).elim
 |some u=>exact⟨u,rfl,r⟩
section
variable {P:Program}{w:World}{H H':Hp}{h h':Heap}{a C dx:Addr}{fs fs':List (Str×V)}
def Ik (bT:jP P w H h)(e:H a=some (.ins C dx fs)):∃mA,Mn h a dx C mA/\(∀f,aJ (fs.lookup f) (mA f))/\PySem.Within mA (fs.map (·.1))/\fs.length<=1000/\H dx=some (.own a):=by
 obtain⟨d,z,ne,ob,mA,n,r,q⟩:=(show bY P w H h a (.ins C dx fs) from bT a _ e);exact⟨mA,⟨ob,n,ne⟩,r,q,z,d⟩
end
structure YD (K:Θ1)(C:Addr):Prop where
 pg:PySem.W.plainGet K C Str.empty=true
 hd:PySem.W.hasDictIn K C=true
 po:PySem.W.plainOver K C=true
 sa:PySem.W.findIn K (.ref C) "__setattr__"=some (some (.builtin "object.__setattr__"))
def YD.get {K:Θ1}{C:Addr}(c:YD K C)(f:Str):PySem.W.plainGet K C f=true:=c.pg
section
variable {X:Cx}{aa:Γ2}{σ:St}{H:Hp}{s:Shared}{a C dx:Addr}{fs:List (Str×V)}{f:Str}{v:V}{A:Around}{E:Θ2}
end
section
variable {X:Cx}{o e value:Expr}{f:Str}{pos pk qX:Pos}{ta tv:TE}
end
section
variable {X:Cx}{aa:Γ2}{σ:St}{H:Hp}{s:Shared}{A:Around}{E:Θ2}{Q:Θ2}{c:Value}{b:Bool}
inductive jU (K:Θ1) (H:Hp):V->Value->Prop where
 |bZ:jU K H .bZ (.type "NoneType")
 |bl (x:Bool):jU K H (.bl x) (.type "bool")
 |int (i:Int):jU K H (.int i) (.type "int")
 |str (x:Str):jU K H (.str x) (.type "str")
 |Pj (x:UInt64):jU K H (.Pj x) (.type "float")
 |lst {a:Addr}{xs:List V}(e:H a=some (.lst xs)):jU K H (.ref a) (.type "list")
 |iE {a:Addr}{o:Obj}{xs:List V}(e:H a=some (.iE o (.lst xs))):jU K H (.ref a) (.type "list")
 |tup {a:Addr}{xs:List V}(e:H a=some (.tup xs)):jU K H (.ref a) (.type "tuple")
 |dK {a:Addr}{kvs:List (b9×V)}(e:H a=some (.dK kvs)):jU K H (.ref a) (.type "dict")
 |dT {a:Addr}{kvs:List (List b9×V)}(e:H a=some (.dT kvs)):jU K H (.ref a) (.type "dict")
 |ins {a C dx:Addr}{fs:List (Str×V)}(e:H a=some (.ins C dx fs)) (cl:YD K C) (ha:PySem.W.findIn K (.ref C) "__class__"=some (some (.builtin "object.__class__")))
   (hn:PySem.W.specialIn K (.builtin "object.__class__") "__get__"=some (some (.builtin "getset_descriptor.__get__"))) (sY:PySem.W.takesIn K (.builtin "object.__class__")=some true)
   (hm:PySem.W.mroIn K C (.type "object")=some true):jU K H (.ref a) (.ref C)
def A8 {x:V}{u t:Value}(I:Inv X aa σ H s)(rx:RelV x u)(ty:jU X.K H x t)(e:PySem.W.kitOne X.K t c=some b)(h:∀tk,Q (.bool b) { s with toks:=tk }) :
  wpAny (model X.prog X.w) A (call (.builtin "isinstance") [u,c]) Q E s:=by
 cases ty with
 |bZ=>cases (show u=Value.none from rx);exact PySem.W.kia_one PySem.W.kitx_none I.sU True.intro e (λz=>nomatch z) h
 |bl y=>cases (show u=Value.bool y from rx);exact PySem.W.kia_one PySem.W.kitx_bool I.sU True.intro e (λz=>nomatch z) h
 |int i=>obtain⟨t,q⟩:=(show ∃t,u=Value.int i t from rx);cases q;exact PySem.W.kia_one PySem.W.kitx_int I.sU True.intro e (λz=>nomatch z) h
 |str y=>obtain⟨t,q⟩:=(show ∃t,u=Value.str y t from rx);cases q;exact PySem.W.kia_one PySem.W.kitx_str I.sU True.intro e (λz=>nomatch z) h
 |Pj y=>obtain⟨t,q⟩:=(show ∃t,u=Value.float y t from rx);cases q;exact PySem.W.kia_one PySem.W.kitx_float I.sU True.intro e (λz=>nomatch z) h
 |@lst a xs ea =>
  cases (show u=Value.ref a from rx)
  obtain⟨_,_,n,_,h1⟩:=(show bY X.prog X.w H s.heap a (.lst xs) from I.bT a _ ea);exact PySem.W.kia_one PySem.W.kitx_list I.sU ⟨_,h1,rfl⟩ e (λz=>nomatch z) h
 |@iE a ob xs ea =>
  cases (show u=Value.ref a from rx)
  obtain⟨_,_,_,n,_,h1⟩:=(show bY X.prog X.w H s.heap a (.iE ob (.lst xs)) from I.bT a _ ea);exact PySem.W.kia_one PySem.W.kitx_list I.sU ⟨_,h1,rfl⟩ e (λz=>nomatch z) h
 |@tup a xs ea =>
  cases (show u=Value.ref a from rx)
  obtain⟨_,_,_,p⟩:=(show bY X.prog X.w H s.heap a (.tup xs) from I.bT a _ ea);obtain⟨o,h1,h2,_⟩:=p;exact PySem.W.kia_one PySem.W.kitx_tuple I.sU ⟨o,h1,h2⟩ e (λz=>nomatch z) h
 |@dK a kvs ea =>
  cases (show u=Value.ref a from rx)
  obtain⟨_,_,vs,_,p⟩:=(show bY X.prog X.w H s.heap a (.dK kvs) from I.bT a _ ea);obtain⟨o,es,ep,h1,h2,_⟩:=p;exact PySem.W.kia_one PySem.W.kitx_dict I.sU ⟨o,h1,h2.1⟩ e (λz=>nomatch z) h
 |@dT a kvs ea =>
  cases (show u=Value.ref a from rx)
  obtain⟨_,_,xs,_,o,es,ep,h1,h2,_⟩:=(show bY X.prog X.w H s.heap a (.dT kvs) from I.bT a _ ea);exact PySem.W.kia_one PySem.W.kitx_dict I.sU ⟨o,h1,h2.1⟩ e (λz=>nomatch z) h
 |@ins a C dx fs ea cl ha hn sY hm =>
  cases (show u=Value.ref a from rx)
  obtain⟨mA,O,_⟩:=Ik I.bT ea;obtain⟨od,J,_⟩:=O.look;exact PySem.W.kia_one (PySem.W.kitx_own (cl.get _) cl.hd ha hn sY hm) I.sU J e (λz=>nomatch z) h
end
structure db (k:Nat)(A:Around):Prop where
 hd:A.handled=none
 dp:A.depth+3*k+5<recursionLimit
 un:A.units+16*k+200<cLine
def db.mono {j k:Nat}{A:Around}(r:db k A)(h:j<=k):db j A:=⟨r.hd,by have:=r.dp;omega,by have:=r.un;omega⟩
def db.deeper {k:Nat}{A:Around}(r:db (k+1) A)(env:Env):db k (A.deeper env) :=
 ⟨r.hd,by have:=r.dp;show A.depth+1+3*k+5<_;omega,by have:=r.un;show A.units+3+16*k+200<_;omega⟩
def db.depth {k:Nat}{A:Around}(r:db k A):A.depth<recursionLimit:=by have:=r.dp;omega
def db.units {k:Nat}{A:Around}(r:db k A):A.units+64<cLine:=by have:=r.un;omega
def db.ML {k:Nat}{A:Around}(r:db k A):A.units<cLine:=by have:=r.un;omega
def Ru:TA:=λ_ H Q=>Q [] H
def Ce (ta:TE)(tr:TA):TA:=λσ H Q=>ta σ H λx H1=>tr σ H1 λxs H2=>Q (x::xs) H2
section
variable {X:Cx}{e:Expr}{es:Ξ2}{te:TE}{t:TA}{pos:Pos}
def bu:PA X [] Ru:=λ_ _ _ _ H Q I h=>Calls.spliced_nil ⟨[],H,I,.nil,h⟩
def aI (ha:PE X e te)(hr:PA X es t)(hs:starEach (e::es) X.env=(false,eval e X.env)::starEach es X.env:=by rfl):PA X (e::es) (Ce te t):=by
 intro pos aa s σ H Q I h;rw[hs];show wpAny _ _ (spliced ((false,eval e X.env)::backTo pos (starEach es X.env))) _ _ s;refine Calls.spliced_cons (bB (ha aa s σ H _ I h) λu s1 ⟨x,H1,I1,r1,q1⟩=>?_);exact bB (hr pos aa s1 σ H1 _ I1 q1) λus s2 ⟨xs,H2,I2,r2,q2⟩=>⟨x::xs,H2,I2,.cons r1 r2,q2⟩
def Rr (t:TA):TE:=λσ H Q=>t σ H λxs H1=>xs.length<=sizeLine/\∀p,H1 p=none->Q (.ref p) (aF H1 p (.tup xs))
def YJ (t:TA):TE:=λσ H Q=>t σ H λxs H1=>xs.length<=sizeLine/\∀p,H1 p=none->Q (.ref p) (aF H1 p (.lst xs))
def xD {x1}(h:PA X es t):PE X (.Tuple es x1 pos) (Rr t):=by
 intro aa s σ H Q I hq;refine wpAny_Tuple_spliced (bB (h pos aa s σ H _ I hq) λus s1 ⟨xs,H1,I1,r,z,q⟩=>⟨by rw[<- r.length];exact z,?_⟩);have hf:H1 s1.heap.objs.size=none:=I1.bT.fresh (Ze _);refine⟨.ref s1.heap.objs.size,aF H1 s1.heap.objs.size (.tup xs),I1.laid (t':=s1.toks) (λb u e=>Zi _ e) (Ze _) ?_,rfl,q _ hf⟩;exact⟨z,us,r,⟨_,Zw _ rfl,rfl,_,rfl⟩⟩
def ia (h:PA X es t):PE X (.List es pos) (YJ t):=by
 intro aa s σ H Q I hq;refine wpAny_List_spliced (bB (h pos aa s σ H _ I hq) λus s1 ⟨xs,H1,I1,r,z,q⟩=>⟨by rw[<- r.length];exact z,?_⟩);have hf:H1 s1.heap.objs.size=none:=I1.bT.fresh (Ze _);refine⟨.ref s1.heap.objs.size,aF H1 s1.heap.objs.size (.lst xs),I1.laid (t':=s1.toks) (λb u e=>Zi _ e) (Ze _) ?_,rfl,q _ hf⟩;exact⟨z,us,0,r,Zw _ rfl⟩
end
abbrev Sp:=List V->Hp->VK->XK->Prop
abbrev Ah:=List Env->Hp->Shared->XK->Value->Shared->Prop
structure Gz (P:Program)(w:World)(K:Θ1)(mg:Θ3)(base:Heap)(A:Around)(outer:List Env)(s:Shared)(H:Hp):Prop where
 frames:A.frames=some outer
 mod:Mod K mg base
 bs:∀b o,base.get? b=some o->s.heap.get? b=some o/\H b=none
 IZ:base.objs.size<=s.heap.objs.size
 nE:s.heap.FunFrames base outer
 Ph:∀b∈j7 outer,H b=none
 bT:jP P w H s.heap
 bare:AllBare s.gens
def CE (outer:List Env)(P:Program)(w:World)(H:Hp)(s:Shared)(Q:VK)(u:Value)(s':Shared):Prop :=
 ∃v H',s'.os=s.os/\AllBare s'.gens/\Un (j7 outer) [] H H' s.heap s'.heap/\jP P w H' s'.heap/\RelV v u/\Q v H'
def CR (CX:Ah)(outer:List Env)(P:Program)(w:World)(H:Hp)(s:Shared)(Q:VK)(E:XK)(r:Result)(s':Shared):Prop :=
 match r with
 |.ok (.ret u)=>CE outer P w H s Q u s'
 |.ok _=>False
 |.error e=>CX outer H s E e s'
structure aO (P:Program)(w:World)(K:Θ1)(mg:Θ3)(base:Heap)(CX:Ah)(k:Nat)(f:Addr)(fd:FuncData)(ps:Δ2)(sp:Sp):Prop where
 len:∀vs H Q E,sp vs H Q E->vs.length=ps.length
 run:∀(A:Around) (outer:List Env) (s:Shared) (H:Hp) (args:Args) (us:Δ3) (vs:List V) (Q:VK) (E:XK),db k A->Gz P w K mg base A outer s H->BindsTo s fd args (ps.zip us)->be vs us->sp vs H Q E ->
  codeAny (model P w) A (.call (.ref f) args) (CR CX outer P w H s Q E) s
def aO.imp {P:Program}{w:World}{K:Θ1}{mg:Θ3}{base:Heap}{CX:Ah}{k:Nat}{f:Addr}{fd:FuncData}{ps:Δ2}{sp Ω:Sp}(F:aO P w K mg base CX k f fd ps sp)
  (h:∀vs H Q E,Ω vs H Q E->sp vs H Q E):aO P w K mg base CX k f fd ps Ω :=
 ⟨λvs H Q E q=>F.len vs H Q E (h _ _ _ _ q),λA outer s H args us vs Q E hr he hb hv hs=>F.run A outer s H args us vs Q E hr he hb hv (h _ _ _ _ hs)⟩
section
variable {X:Cx}{aa:Γ2}{σ:St}{H:Hp}{s s':Shared}
def Inv.Y' (I:Inv X aa σ H s):Gz X.prog X.w X.K X.mg X.base X.A X.stack s H :=
 ⟨I.ok.frames,I.ok.mod,I.bs,Zk I.ok.IZ I.sz,I.stack,I.rL,I.bT,I.bare⟩
def Inv.after {Q:VK}{u:Value}(I:Inv X aa σ H s)(h:CE X.stack X.prog X.w H s Q u s'):EP X aa σ Q u s':=by
 obtain⟨v,H',os,bare,un,bT,r,q⟩:=h;obtain⟨hh,g,d,t,os'⟩:=s';obtain rfl:os'=s.os:=os;exact⟨v,H',I.call (h':=hh) (g':=g) (d':=d) (t':=t) (ch:=[]) un bT bare (λb z=>absurd z (by simp)),r,q⟩
end
def SU (sp:Sp)(Fc:List V)(E:XK)(t:TA):TE:=λσ H Q=>t σ H λvs H1=>sp (vs++Fc) H1 Q E
def Binds (K:Θ1)(fd:FuncData)(ps:Δ2)(ds:Δ3):Prop :=
 ∀(s:Shared) (us:Δ3),K.In s.heap->(us++ds).length=ps.length->BindsTo s fd ⟨us,[]⟩ (ps.zip (us++ds))
def Binds.all {K:Θ1}{fd:FuncData}{ps:Δ2}(h:∀us:Δ3,us.length=ps.length->bindArgs fd ⟨us,[]⟩=pure (ps.zip us)):Binds K fd ps []:=λs us _ hl=>by
 rw[Ye] at hl ⊢;exact .of_eq (h us hl)
def om (CX:Ah)(X:Cx)(E:XK):Prop:=∀(aa:Γ2) (σ:St) (H:Hp) (s:Shared) (e:Value) (s':Shared),Inv X aa σ H s->CX X.stack H s E e s'->X.xe e s'
section
variable {X:Cx}{CX:Ah}{k:Nat}{f C:Addr}{fd:FuncData}{ps:Δ2}{sp:Sp}{Fc:List V}{ds:Δ3}{E:XK}{x m:Str}{p pos nI:Pos}{e o:Expr}{es:Ξ2}{ta:TE}{t:TA}
def M2 {aa:Γ2}{σ:St}{H:Hp}{s:Shared}{Q:VK}{us:Δ3}{vs:List V}(F:aO X.prog X.w X.K X.mg X.base CX k f fd ps sp)(hr:db k X.A)(hb:Binds X.K fd ps ds)(hd:be Fc ds)(hx:om CX X E)
  (I:Inv X aa σ H s) (r:be vs us) (h:sp (vs++Fc) H Q E):wpAny (model X.prog X.w) X.A (call (.ref f) us) (EP X aa σ Q) X.xe s:=by
 have r2:be (vs++Fc) (us++ds):=r.append hd;have hl:(us++ds).length=ps.length:=by rw[<- r2.length];exact F.len _ _ _ _ h
 refine wpAny_call (codeAny_mono (F.run X.A X.stack s H ⟨us,[]⟩ (us++ds) (vs++Fc) Q E hr I.Y' (hb s us I.sU hl) r2 h) λr s' hq=>?_);cases r with
 |error e=>exact hx aa σ H s e s' I hq
 |ok fl =>
  cases fl with
  |ret u=>exact I.after hq
  |next=>exact False.elim hq
  |brk=>exact False.elim hq
  |cont=>exact False.elim hq
def d8 (F:aO X.prog X.w X.K X.mg X.base CX k f fd ps sp)(hr:db k X.A)(hg:Gl X x)(hm:X.mg x=some (.ref f))(hk:PySem.W.keepIn X.K (.ref f)=true)(hb:Binds X.K fd ps ds)(hd:be Fc ds)(hx:om CX X E)
  (ha:PA X (e::es) t) (tf:(x == ("__debug__" : Str))=false:=by decide) (he:starEach (e::es) X.env=(false,eval e X.env)::starEach es X.env:=by rfl) (kA:(backTo pos (starEach es X.env)).any (·.1)=false:=by rfl) :
  PE X (.Call (.Name x p) (e::es) [] pos) (SU sp Fc E t):=by
 intro aa s σ H Q I h;refine wpAny_Call_Name_kw (zf I hg hm ?_ tf);refine PySem.W.callWith_K (h₀:=X.base) I.ok.mod.Um hk (bB (ha pos aa s σ H _ I h) λus s1 ⟨vs,H1,I1,r,q⟩=>⟨I1.sU,?_⟩) he kA;exact M2 F hr hb hd hx I1 r q
end
section
variable {X:Cx}{CX:Ah}{k:Nat}{f C:Addr}{fd:FuncData}{ps ks:Δ2}{sp:Sp}{E:XK}{x m:Str}{p pos nI ahH:Pos}{e o:Expr}{es:Ξ2}{kws:List Keyword}{te ta:TE}{t tk:TA}{nm:Option Str}
variable {g:Δ3->Δ3->Δ3}{gV:List V->List V->List V}
end
structure ap (N P:Δ2)(sc:Scope):Prop where
 kind:sc.kind=.function
 co:sc.isCoroutine=false
 gen:sc.isGenerator=false
 nd:N.Nodup
 pre:N.take P.length=P
 par:∀x∈P,sc.names.lookup x=some .local\/sc.names.lookup x=some .cell
 NQ:∀y∈sc.names,y.2≠.free
def di {N P:Δ2}{sc:Scope}(a:sc.kind=.function:=by rfl)(b:sc.isCoroutine=false:=by rfl)(c:sc.isGenerator=false:=by rfl)(d:N.Nodup:=by decide+kernel)(e:N.take P.length=P:=by rfl)(f:∀x∈P,sc.names.lookup x=some .local\/sc.names.lookup x=some .cell:=by decide+kernel)(g:∀y∈sc.names,y.2≠.free:=by decide+kernel):ap N P sc:=⟨a,b,c,d,e,f,g⟩
theorem qH {kindOf:Str->Option NameKind}{x:Str}:∀{binds:List (Str×Value)}{m:Θ3},(∀v,(x,v)∉binds)->bindL kindOf binds m x=m x
 |[],_,_=>rfl
 |(n,v)::r,m,h=>by
  unfold bindL;rw[qH λw hw=>h w (Zq _ hw)];split
  .have:x≠n:=by rintro rfl;exact h v Zm
   simp[this]
  .rfl
theorem qJ {kindOf:Str->Option NameKind}{x:Str}:∀{binds:List (Str×Value)}{m:Θ3},(∀v,(x,v)∉binds)->bindC kindOf binds m x=m x
 |[],_,_=>rfl
 |(n,v)::r,m,h=>by
  unfold bindC;rw[qJ λw hw=>h w (Zq _ hw)];split
  .rfl
  .have:x≠n:=by rintro rfl;exact h v Zm
   simp[this]
theorem qI {kindOf:Str->Option NameKind}{x:Str}{v:Value}:∀{P:Δ2}{vs:Δ3}{i:Nat}{m:Θ3},P.Nodup->P[i]?=some x->vs[i]?=some v->kindOf x=some .local ->
  bindL kindOf (P.zip vs) m x=some v
 |[],_,_,_,_,h,_,_=>by simp at h
 |_::_,[],_,_,_,_,h,_=>by simp at h
 |p::P,w::vs,0,m,nd,h1,h2,hk=>by
  simp at h1 h2;subst h1;subst h2;show bindL kindOf ((p,w)::P.zip vs) m p=_;unfold bindL;rw[qH λv hv=>(Yl.mp nd).1 (List.of_mem_zip hv).1,if_pos hk];simp
 |p::P,w::vs,i+1,m,nd,h1,h2,hk=>by
  show bindL kindOf ((p,w)::P.zip vs) m x=_;unfold bindL;exact qI (i:=i) (Yl.mp nd).2 (by simpa using h1) (by simpa using h2) hk
theorem qK {kindOf:Str->Option NameKind}{x:Str}{v:Value}:∀{P:Δ2}{vs:Δ3}{i:Nat}{m:Θ3},P.Nodup->P[i]?=some x->vs[i]?=some v->kindOf x≠some .local ->
  bindC kindOf (P.zip vs) m x=some v
 |[],_,_,_,_,h,_,_=>by simp at h
 |_::_,[],_,_,_,_,h,_=>by simp at h
 |p::P,w::vs,0,m,nd,h1,h2,hk=>by
  simp at h1 h2;subst h1;subst h2;show bindC kindOf ((p,w)::P.zip vs) m p=_;unfold bindC;rw[qJ λv hv=>(Yl.mp nd).1 (List.of_mem_zip hv).1,if_neg hk];simp
 |p::P,w::vs,i+1,m,nd,h1,h2,hk=>by
  show bindC kindOf ((p,w)::P.zip vs) m x=_;unfold bindC;exact qK (i:=i) (Yl.mp nd).2 (by simpa using h1) (by simpa using h2) hk
def start (N:Δ2)(vs:List V):St:=vs.map some++List.replicate (N.length-vs.length) none
def ka (CX:Ah)(P:Program)(w:World)(K:Θ1)(mg:Θ3)(base:Heap)(N:Δ2)(qual:Str)(scope:Scope)(f:Addr)(cd:Value)(A:Around)(outer:List Env)(s:Shared)(H:Hp)(E:XK):Cx where
 prog:=P
 w:=w
 K:=K
 mg:=mg
 base:=base
 A:=A.deeper (envOfC qual scope s.heap.objs.size f cd)
 N:=N
 bp:=s
 bN:=H
 env:=envOfC qual scope s.heap.objs.size f cd
 outer:=outer
 stack:=envOfC qual scope s.heap.objs.size f cd::outer
 ex:=[]
 calm:=true
 fn:=λ_=>true
 pn:=[]
 xe:=λe s'=>wpAny (model P w) (A.deeper (envOfC qual scope s.heap.objs.size f cd)) (leaving (envOfC qual scope s.heap.objs.size f cd) e) (λ_ PC=>CX outer H s E e PC) (λe' PC=>CX outer H s E e' PC) s'
def uD {sc:Scope}{n:Nat}{x:Str}(h:sc.names.lookup x=some .cell):∃c,(cellsFrom n sc.names []).lookup x=some c:=by
 have q:=PySem.W.cellsFrom_some sc.names n [] (.inl h);exact X7.mp q
def Bc {CX:Ah}{P:Program}{w:World}{K:Θ1}{mg:Θ3}{base:Heap}{N ps:Δ2}{qual:Str}{scope:Scope}{f:Addr}{cd:Value}{A:Around}{outer:List Env}{s s1:Shared}{H:Hp}{E:XK}{us:Δ3}{vs:List V}
  (S:ap N ps scope) (hd:A.handled=none) (e0:Gz P w K mg base A outer s H) (hl:vs.length=ps.length) (r:be vs us)
  (x:InCallC s s.heap.objs.size (bindL (envOfC qual scope s.heap.objs.size f cd).kindOf (ps.zip us) λ_=>none) (cellsFrom (s.heap.objs.size+1) scope.names []) (bindC (envOfC qual scope s.heap.objs.size f cd).kindOf (ps.zip us) λ_=>none) s1) :
  Inv (ka CX P w K mg base N qual scope f cd A outer s H E) [] (start N vs) H s1:=by
 have kA:ps.length<=N.length:=by have:=congrArg List.length S.pre;rw[Ym] at this;omega
 obtain⟨h1,tk,rfl,hk⟩:=x.done;have PL:∀b:Addr,b∉(ka CX P w K mg base N qual scope f cd A outer s H E).ex:=λb z=>absurd (show b∈([]:List Addr) from z) (by simp)
 refine⟨⟨e0.mod,S.kind,rfl,rfl,Ze _,λy z c h1 h2=>?_,λy hy=>?_,λy c _ h=>?_,λ_=>hd,Around.frames_deeper e0.frames,.inr ⟨rfl,rfl⟩,λb z=>absurd z (PL b),e0.bs,e0.IZ,λb _ _=>PL b,λb z=>absurd z (PL b),e0.nE,e0.Ph⟩,
  rfl,e0.bare,Un.kept hk,⟨_,x.toInCall.ns,λi y v h1 h2 h3=>?_⟩,λy c h=>⟨_,x.cell y c h⟩,e0.bT.fresh (Ze _),λy c h=>?_,λp hp=>absurd (show p∈([]:Γ2) from hp) (by simp),e0.bT.kept hk,?_⟩
 .exact name_of_addr x.apart (Xj h1) (Xj h2)
 .have hy:scope.names.lookup y=some .cell\/scope.names.lookup y=some .free:=hy;rcases hy with hy |hy
  .exact uD hy
  .exact absurd rfl (S.NQ _ (Xj hy))
 .exact Nat.le_of_lt (x.above y c (Xj h))
 .have hi:i<vs.length:=by
   unfold start at h2;by_cases hi:i<vs.length
   .exact hi
   .rw[Yv (by simpa using hi)] at h2;rw[Ql] at h2;split at h2<;>cases h2
  have ha:vs[i]?=some v:=by
   unfold start at h2;rw[Z4 (by simpa using hi),Zh] at h2;cases e:vs[i]? with
   |none=>rw[e] at h2;cases h2
   |some a=>rw[e] at h2;cases h2;rfl
  obtain⟨u,hu,rv⟩:=r.get ha;have hp:ps[i]?=some y:=by
   rw[<- S.pre,List.getElem?_take_of_lt (by omega)];exact h1
  have ndP:ps.Nodup:=by rw[<- S.pre];exact S.nd.sublist (List.take_sublist _ _)
  refine⟨u,rv,?_⟩;rcases S.par y (Zu hp) with k |k
  .exact .inl ⟨k,qI ndP hp hu k⟩
  .obtain⟨c,e⟩:=uD (n:=s.heap.objs.size+1) k;refine .inr ⟨.inl k,c,e,?_⟩;have q:=x.cell y c e;rw[qK ndP hp hu (by show scope.names.lookup y≠_;rw[k];decide)] at q;exact q
 .exact e0.bT.fresh (Nat.le_of_lt (x.above y c (Xj h)))
 .unfold start;show _=N.length;rw[Z5,Za,Q4];omega
def Kd {CX:Ah}{P:Program}{w:World}{K:Θ1}{mg:Θ3}{base:Heap}{k:Nat}{f:Addr}{name qual:Str}{params:Arguments}{body:List Stmt}{scope:Scope}{dV kV gC pm bv ct oc:Value}{an od:Option Addr}
  {Fh:Array (Φ1)}{N ps:Δ2}{sp:Sp}(lk:K.lookup f=some ⟨oc,od,.func (PySem.W.fnOf name qual params body scope dV kV gC pm an bv ct),Fh⟩) (o6:PySem.W.codeIn K bv qual=true) (S:ap N ps scope)
  (len:∀vs H Q E,sp vs H Q E->vs.length=ps.length)
  (tW:∀(A:Around) (outer:List Env) (s:Shared) (H:Hp) (vs:List V) (Q:VK) (E:XK),db k (A.deeper (envOfC qual scope s.heap.objs.size f bv))->sp vs H Q E ->
   ∃t,jO (ka CX P w K mg base N qual scope f bv A outer s H E) body t/\t { nx:=λ_ H'=>Q .bZ H',rt:=Q } (start N vs) H) :
  aO P w K mg base CX (k+1) f (PySem.W.fnOf name qual params body scope dV kV gC pm an bv ct) ps sp:=by
 refine⟨len,λA outer s H args us vs Q E hr e0 hb r BE=>?_⟩;have hl:=len _ _ _ _ BE;have KX:K.In s.heap:=e0.mod.Um.keeps λb o e=>(e0.bs b o e).1
 have lim:s.heap.NoLimit:=e0.mod.nolimit.keeps λb o e=>(e0.bs b o e).1
 have TU:∀y∈ps.zip us,scope.names.lookup y.1=some .local\/(scope.names.lookup y.1=some .cell/\((cellsFrom (s.heap.objs.size+1) scope.names []).lookup y.1).isSome=true):=λ⟨n,v⟩ hy=>by
  rcases S.par n (List.of_mem_zip hy).1 with q |q
  .exact .inl q
  .exact .inr ⟨q,PySem.W.cellsFrom_some _ _ _ (.inl q)⟩
 refine codeAny_call_function hr.depth (KX _ _ lk) rfl S.co S.gen rfl (PySem.W.codeRec_of KX o6) (hb _ _ _ _ ?_);refine wpAny_newFunctionEnv_cells S.kind TU λenv he s1 x=>?_
 subst he;refine⟨lim.keeps x.toInCall.keep,codeAny_func ?_⟩;obtain⟨t,ht,hq⟩:=tW A outer s H vs Q E (hr.deeper _) BE;have I:Inv (ka CX P w K mg base N qual scope f bv A outer s H E) [] (start N vs) H s1:=Bc S hr.hd e0 hl r x;refine wpAny_mono (ht [] s1 (start N vs) H _ I hq) (λfl s' hs=>?_) λe s' hs=>hs
 have gy:∀{aH:St}{H':Hp}{v:V}{u:Value},Inv (ka CX P w K mg base N qual scope f bv A outer s H E) [] aH H' s'->RelV v u->Q v H'->CE outer P w H s Q u s' :=
  λ{aH H' v u} J rv q=>⟨v,H',J.os,J.bare,J.base,J.bT,rv,q⟩
 cases fl with
 |ret u =>
  obtain⟨v,aH,H',J,rv,q⟩:=hs;exact gy J rv q
 |next =>
  obtain⟨aH,H',J,q⟩:=hs;exact gy (v:=V.bZ) (u:=Value.none) J rfl q
 |brk =>
  obtain⟨_,_,_,q⟩:=hs;exact False.elim q
 |cont =>
  obtain⟨_,_,_,q⟩:=hs;exact False.elim q
section
variable {X:Cx}{x:Str}{p pos:Pos}{e:Expr}{es:Ξ2}{t:TA}{id T:String}{r:List V->Hp->VK->Prop}
def Vq (r:List V->Hp->VK->Prop)(t:TA):TE:=λσ H Q=>t σ H λvs H1=>r vs H1 Q
def sO (hc:ck X (.builtin id) r)(hg:Gl X x)(hm:X.mg x=none)(hv:bootBuiltins x=some (.builtin id))(ha:PA X (e::es) t)(hn:x ≠ "__name__":=by decide)(tf:(x == ("__debug__" : Str))=false:=by decide)
  (he:starEach (e::es) X.env=(false,eval e X.env)::starEach es X.env:=by rfl) (kA:(backTo pos (starEach es X.env)).any (·.1)=false:=by rfl):PE X (.Call (.Name x p) (e::es) [] pos) (Vq r t):=by
 intro aa s σ H Q I h;refine wpAny_Call_Name_kw (ij I hg hm hv ?_ hn tf);exact PyProof.Rows.callWith_builtin1 (bB (ha pos aa s σ H _ I h) λus s1 ⟨vs,H1,I1,r1,q1⟩=>hc aa s1 σ H1 vs us Q I1 r1 q1) he kA
def zP (hc:ck X (.type T) r)(hg:Gl X x)(hm:X.mg x=none)(hv:bootBuiltins x=some (.type T))(ha:PA X (e::es) t)(hn:x ≠ "__name__":=by decide)(tf:(x == ("__debug__" : Str))=false:=by decide)
  (he:starEach (e::es) X.env=(false,eval e X.env)::starEach es X.env:=by rfl) (kA:(backTo pos (starEach es X.env)).any (·.1)=false:=by rfl):PE X (.Call (.Name x p) (e::es) [] pos) (Vq r t):=by
 intro aa s σ H Q I h;refine wpAny_Call_Name_kw (ij I hg hm hv ?_ hn tf);exact PyProof.Rows.callWith_type1 (bB (ha pos aa s σ H _ I h) λus s1 ⟨vs,H1,I1,r1,q1⟩=>hc aa s1 σ H1 vs us Q I1 r1 q1) he kA
end
end L2
namespace HT
open PySem PyProof.Rows
section
open PySem.SeqAt
open PySem.AutoSeq1 (wpAny_loadPart')
open PySem.MeetsSeq PySem.MeetsSeq2 PySem.MeetsSeq3
end
section
variable {prog:Program}{w:World}{A:Around}{E:Θ2}{s:Shared}
def Iy {t b:Addr}{vs ws:Δ3}{Q:Θ2}(ht:IsTup s.heap t vs.toArray)(hb:IsTup s.heap b ws.toArray)(hv:vs≠[])
  (h1:ws=[]->Q (.ref t) s) (h2:ws≠[]->Q (.ref s.heap.objs.size) { s with heap:=s.heap.push { cls:=.type "tuple",data:=.seq (vs++ws).toArray } })
  (hsz:vs.length+ws.length<=sizeLine):wpAny (model prog w) A (binaryOp .Add (.ref t) (.ref b)) Q E s:=by
 obtain⟨⟨cls,dd,data,sl⟩,ho,hc,n,hd⟩:=id ht;obtain⟨⟨δ,UO,data2,cN⟩,KA,E5,n2,Fw⟩:=id hb;simp only at hc hd E5 Fw;subst hc hd E5 Fw;have e:vs.toArray++ws.toArray=(vs++ws).toArray:=by simp
 by_cases hw:ws=[]
 .exact concat_meets ⟨_,ho,rfl⟩ ⟨_,KA,rfl⟩ noFill_tuple_add seq_tuple_add PySem.F.slot_tuple_add PySem.F.entry_tuple_add (PySem.F.args_tuple_add_2 _ _)
   (tuple_addW1 t b vs.toArray ws.toArray n n2 dd UO sl cN (by simpa using hv) (by simp[hw])) ⟨ho,KA,h1 hw⟩
 .refine concat_meets ⟨_,ho,rfl⟩ ⟨_,KA,rfl⟩ noFill_tuple_add seq_tuple_add PySem.F.slot_tuple_add PySem.F.entry_tuple_add (PySem.F.args_tuple_add_2 _ _)
   (tuple_addW2 t b vs.toArray ws.toArray n n2 dd UO sl cN (by simpa using hv) (by simpa using hw) (by rw[Z3,Z3];exact hsz)) ⟨ho,KA,?_⟩
  rw[e];exact h2 hw
def cU (n d:Nat):Option Int->Nat
 |none=>d
 |some v=>if v<0 then (v+(n:Int)).toNat else min v.toNat n
def k9 (n d:Nat):cU n d none=d:=rfl
def M1 (n d:Nat)(hd:d<=n)(o:Option Int):cU n d o<=n:=by
 cases o with
 |none=>exact hd
 |some v =>
  show(if v<0 then (v+(n:Int)).toNat else min v.toNat n)<=n;by_cases hv:v<0
  .rw[if_pos hv];omega
  .rw[if_neg hv];exact Nat.min_le_right _ _
def zC (v:Int)(n d:Nat):(if v<0 then max (v+(n:Int)) 0 else min v (n:Int))=((cU n d (some v):Nat):Int):=by
 show(if v<0 then max (v+(n:Int)) 0 else min v (n:Int))=(((if v<0 then (v+(n:Int)).toNat else min v.toNat n):Nat):Int);by_cases hv:v<0
 .simp only[if_pos hv];omega
 .simp only[if_neg hv];omega
def xA (lo hi:Option Int)(n:Nat):Builtin.Slice.sliceAdjust lo hi 1 (n:Int)=(((cU n 0 lo:Nat):Int),((cU n n hi:Nat):Int)):=by
 have h1:¬ ((1:Int)<0):=by omega
 unfold Builtin.Slice.sliceAdjust;simp only[h1,if_false];refine Prod.ext ?_ ?_
 .cases lo with
  |none=>rfl
  |some v=>exact zC v n 0
 .cases hi with
  |none=>rfl
  |some v=>exact zC v n n
def wQ (i j:Nat):Builtin.Slice.slicePlaces (i:Int) (j:Int) 1=j-i:=by
 unfold Builtin.Slice.slicePlaces;have h1:(1:Int)>0:=by omega
 simp only[h1,if_true,Int.ediv_one];split<;>omega
def oO {v:Value}{o:Option Int}{Q:Option Int->Shared->Prop}(p:IsPart v o)(h:Q o s):wpAny (model prog w) A (Builtin.Slice.slicePartIndex v) Q E s:=by
 cases p with
 |none=>exact slicePart_none h
 |int i t=>exact slicePart_int h
def gX {sl:Addr}{vl vu:Value}{lo hi:Option Int}{n:Nat}{Q:Int×Int×Nat->Shared->Prop}(hs:s.heap.IsSliceOf sl vl vu .none)(pl:IsPart vl lo)(pu:IsPart vu hi)
  (h:Q (((cU n 0 lo:Nat):Int),1,cU n n hi-cU n 0 lo) s):wpAny (model prog w) A (Builtin.Slice.sliceApplied (.ref sl) (pure (n:Int))) Q E s:=by
 obtain⟨os,Kz,UA,QM⟩:=id hs;unfold Builtin.Slice.sliceApplied Builtin.Slice.sliceFields;refine Zb (Zb (wpAny_field Kz QM (x:=vl) rfl (Zb (wpAny_field Kz QM (x:=vu) rfl (Zb (wpAny_field Kz QM (x:=.none) rfl (wpAny_pure ?_)))))));refine Zb (slicePart_none ?_);show wpAny _ _ (if ((1:Int) == 0)=true then _ else _) _ _ s;rw[if_neg (by decide)];refine Zb (oO pl (Zb (oO pu (Zb (wpAny_pure ?_)))));show wpAny _ _ (match Builtin.Slice.sliceAdjust lo hi 1 (n:Int) with |(lo,hi)=>pure (lo,(1:Int),Builtin.Slice.slicePlaces lo hi 1)) _ _ s;rw[xA lo hi n];show wpAny _ _ (pure (((cU n 0 lo:Nat):Int),(1:Int),Builtin.Slice.slicePlaces ((cU n 0 lo:Nat):Int) ((cU n n hi:Nat):Int) 1)) _ _ s;rw[wQ];exact wpAny_pure h
def D5 (xs:Array Value)(i k:Nat):((List.range k).filterMap λ(m:Nat)=>xs[((i:Int)+(m:Int)*1).toNat]?).toArray=((xs.toList.drop i).take k).toArray:=by
 have e:(λ(m:Nat)=>xs[((i:Int)+(m:Int)*1).toNat]?)=λm=>xs[i+m]?:=by
  funext m
  have:((i:Int)+(m:Int)*1).toNat=i+m:=by omega
  rw[this]
 rw[e];have:=pick_run xs i k;rw[List.filterMap_map] at this;have e2:((λx=>xs[x]?) ∘ λx=>i+x)=λm=>xs[i+m]?:=rfl
 rw[e2] at this;rw[this]
def lu {t sl:Addr}{items:Array Value}{vl vu:Value}{lo hi:Option Int}{Q:Θ2}(ht:IsTup s.heap t items)(hs:s.heap.IsSliceOf sl vl vu .none)(pl:IsPart vl lo)(pu:IsPart vu hi)
  (hw:¬ (cU items.size 0 lo=0/\cU items.size items.size hi=items.size))
  (h:Q (.ref s.heap.objs.size) { s with heap:=s.heap.push { cls:=.type "tuple",data:=.seq ((items.toList.drop (cU items.size 0 lo)).take (cU items.size items.size hi-cU items.size 0 lo)).toArray } })
  (hsz:items.size<=sizeLine):wpAny (model prog w) A (getItem (.ref t) (.ref sl)) Q E s:=by
 have ya:sizeOk (.seq ((items.toList.drop (cU items.size 0 lo)).take (cU items.size items.size hi-cU items.size 0 lo)).toArray):=by
  show((items.toList.drop (cU items.size 0 lo)).take (cU items.size items.size hi-cU items.size 0 lo)).toArray.size<=sizeLine;rw[Z3,Ym,Xk,Array.length_toList];omega
 have hj:cU items.size items.size hi<=items.size:=M1 _ _ (Ze _) hi;obtain⟨os,Kz,UA,QM⟩:=id hs;have Wl:s.TypeIs (.ref sl) "slice":=⟨os,Kz,UA⟩;unfold getItem
 try with_reducible refine wpAny_holding ?_
 first |refine Zb (wpAny_pure ?_) |skip
 refine Zb (wpAny_sequenceKey ht.typeIs (by decide) ?_);refine Zb (wpAny_callSpecial?_slot (name:=Str.ofString "__getitem__") ht.typeIs PyProof.Rows.slot_tuple_getitem
  (wpAny_call_entry PyProof.Rows.slot_tuple_getitem ht.typeIs entry_tuple_getitem ?_ (args_tuple_getitem _ _)))
 show wpAny _ _ (Builtin.Tuple.tupleItemsOf (.ref t) >>= _) _ _ s;refine Zb (tupleItemsOf_ ht ?_);refine Zb (wpAny_typeOf Wl ?_);rw[if_pos (by decide)];refine Zb (gX hs pl pu ?_);have hno:¬ ((((cU items.size 0 lo:Nat):Int) == 0&&(1:Int) == 1&&(cU items.size items.size hi-cU items.size 0 lo) == items.size)=true):=by
  intro q;rw[Z0,Z0] at q;have q1:((cU items.size 0 lo:Nat):Int)=0:=eq_of_beq q.1.1;have q2:cU items.size items.size hi-cU items.size 0 lo=items.size:=eq_of_beq q.2;exact hw ⟨by omega,by omega⟩
 show wpAny _ _ (if (((cU items.size 0 lo:Nat):Int) == 0&&(1:Int) == 1&&(cU items.size items.size hi-cU items.size 0 lo) == items.size)=true then _ else _) _ _ s;rw[if_neg hno,D5]
 first
  |exact Zb (m:=Builtin.Tuple.tupleExact _) (wpAny_newObj_type (wpAny_pure ⟨_,rfl,wpAny_pure h⟩) ya)
  |exact Zb (m:=Builtin.Tuple.tupleExact _) (wpAny_newObj_type (Zb (wpAny_pure (wpAny_pure ⟨_,rfl,wpAny_pure h⟩))) ya)
  |exact Zb (Zb (m:=Builtin.Tuple.tupleExact _) (wpAny_newObj_type (wpAny_pure (wpAny_pure ⟨_,rfl,wpAny_pure h⟩)) ya))
  |exact Zb (Zb (m:=Builtin.Tuple.tupleExact _) (wpAny_newObj_type (wpAny_pure ⟨_,rfl,wpAny_pure h⟩) ya))
end
end HT
namespace L2
open PySem PySem.Spec PyProof.Rows
abbrev TO:=St->Hp->(Option Int->Hp->Prop)->Prop
def PO (X:Cx)(e:Option Expr)(t:TO):Prop :=
 ∀(aa:Γ2) (s:Shared) (σ:St) (H:Hp) (Q:Option Int->Hp->Prop),Inv X aa σ H s->t σ H Q ->
  wpAny (model X.prog X.w) X.A (evalPart e X.env) (λu s'=>∃o H',Inv X aa σ H' s'/\IsPart u o/\Q o H') X.xe s
def GH:TO:=λ_ H Q=>Q none H
def SN (t:TE):TO:=λσ H Q=>t σ H λx H1=>∃i,x=.int i/\Q (some i) H1
def intsAre_of {ns:Γ3}:∀{us:Δ3},be (ns.map V.int) us->IntsAre us ns:=by
 induction ns with
 |nil=>intro us r;rw[X8] at r;cases r;exact .nil
 |cons n ns ih =>
  intro us r;rw[Zs] at r;cases r with
  |cons r1 r2 =>
   obtain⟨t,e⟩:=r1;subst e;exact .cons n t (ih r2)
section
variable {X:Cx}{e:Expr}{te:TE}{lo hi:Option Expr}{tl th:TO}{pos p2:Pos}
def rR:PO X none GH:=by
 intro aa s σ H Q I h;rw[evalPart_none];exact wpAny_pure ⟨none,H,I,.none,h⟩
def rQ (h:PE X e te):PO X (some e) (SN te):=by
 intro aa s σ H Q I hw;rw[evalPart_some];refine bB (h aa s σ H _ I hw) λu s1 ⟨x,H1,I1,r1,q1⟩=>?_
 obtain⟨i,rfl,q⟩:=q1;obtain⟨t,rfl⟩:=r1;exact⟨some i,H1,I1,.int i t,q⟩
def FD (X:Cx)(r:V->Option Int->Option Int->Hp->VK->Prop):Prop :=
 ∀(aa:Γ2) (s:Shared) (σ:St) (H:Hp) (x:V) (v vl vu:Value) (lo hi:Option Int) (sl:Addr) (Q:VK),Inv X aa σ H s->RelV x v->s.heap.IsSliceOf sl vl vu .none->IsPart vl lo->IsPart vu hi->r x lo hi H Q ->
  ∃T id,typeLookup (.type T) "__getitem__"=pure (some (.builtin id))/\s.TypeIs v T/\wpAny (model X.prog X.w) X.A (getItem v (.ref sl)) (EP X aa σ Q) X.xe s
def FD.or {r r':V->Option Int->Option Int->Hp->VK->Prop}(h:FD X r)(h':FD X r'):FD X (λx lo hi H Q=>r x lo hi H Q\/r' x lo hi H Q):=by
 intro aa s σ H x v vl vu lo hi sl Q I rx hs pl pu q;rcases q with q |q
 .exact h aa s σ H x v vl vu lo hi sl Q I rx hs pl pu q
 .exact h' aa s σ H x v vl vu lo hi sl Q I rx hs pl pu q
def tSl (r:V->Option Int->Option Int->Hp->VK->Prop)(te:TE)(tl th:TO):TE:=λσ H Q=>te σ H λx H1=>tl σ H1 λl H2=>th σ H2 λu H3=>r x l u H3 Q
def oz {r:V->Option Int->Option Int->Hp->VK->Prop}(hr:FD X r)(he:PE X e te)(hl:PO X lo tl)(hu:PO X hi th):PE X (.Subscript e (.Slice lo hi none p2) pos) (tSl r te tl th):=by
 intro aa s σ H Q I h;refine Subscript_ (bB (he aa s σ H _ I h) λv s1 ⟨x,H1,I1,r1,q1⟩=>?_);refine wpAny_Slice (bB (hl aa s1 σ H1 _ I1 q1) λvl s2 ⟨l,H2,I2,pl,q2⟩=>bB (hu aa s2 σ H2 _ I2 q2) λvu s3 ⟨u,H3,I3,pu,q3⟩=>?_);rw[evalPart_none];refine wpAny_pure ?_;have I4:Inv X aa σ H3 { s3 with heap:=s3.heap.push { cls:=.type "slice",data:=.fields #[vl,vu,.none] } }:=I3.kept (t':=s3.toks) λb ob q=>Zi _ q
 obtain⟨T,id,hT,ht,hg⟩:=hr aa { s3 with heap:=s3.heap.push { cls:=.type "slice",data:=.fields #[vl,vu,.none] } } σ H3 x v vl vu l u s3.heap.objs.size Q I4 r1 (Heap.IsSliceOf.new ..) pl pu q3;show wpAny (model X.prog X.w) X.A (subscriptTail e (.Slice lo hi none p2) v (.ref s3.heap.objs.size)) (EP X aa σ Q) X.xe { s3 with heap:=s3.heap.push { cls:=.type "slice",data:=.fields #[vl,vu,.none] } };exact tail_any (ops:=[.ref s3.heap.objs.size,v]) ht hT hg (by with_unfolding_all rfl)
def fc (xs:List V)(lo hi:Option Int):List V:=(xs.drop (HT.cU xs.length 0 lo)).take (HT.cU xs.length xs.length hi-HT.cU xs.length 0 lo)
def mj (xs:List V)(lo hi:Option Int):(fc xs lo hi).length<=xs.length:=by
 unfold fc;rw[Ym,Xk];omega
def YX (K:Θ1):V->Option Int->Option Int->Hp->VK->Prop:=λx lo hi H Q=>∃a xs,x=.ref a/\aM K H a xs /\
 ¬ (HT.cU xs.length 0 lo=0/\HT.cU xs.length xs.length hi=xs.length)/\∀p,H p=none->Q (.ref p) (aF H p (.tup (fc xs lo hi)))
def MW:FD X (YX X.K):=by
 intro aa s σ H x v vl vu lo hi sl Q I rx hs pl pu h;obtain⟨a,xs,rfl,hx,hw,q⟩:=h;cases rx;obtain⟨its,r,ht,hz⟩:=I.tuple hx;have cu:its.toArray.size=xs.length:=by rw[Z3];exact r.length.symm
 refine⟨"tuple",_,PyProof.Rows.slot_tuple_getitem.lookup,ht.typeIs,?_⟩;refine HT.lu ht hs pl pu (by rw[cu];exact hw) ?_ (by rw[cu];exact hz);rw[cu];refine⟨.ref s.heap.objs.size,_,I.laid (t':=s.toks) (o:=.tup (fc xs lo hi)) (λb ob q=>Zi _ q) (Ze _) ?_,rfl,q _ (I.bT.fresh (Ze _))⟩;exact⟨Zk (mj xs lo hi) hz,_,(r.drop (HT.cU xs.length 0 lo)).take (HT.cU xs.length xs.length hi-HT.cU xs.length 0 lo),IsTup.new _ _⟩
def Tg (K:Θ1):R2:=λx y H Q=>∃a b xs ys,x=.ref a/\y=.ref b/\aM K H a xs/\aM K H b ys/\xs≠[]/\xs.length+ys.length<=sizeLine /\
 (ys=[]->Q (.ref a) H)/\(ys≠[]->∀p,H p=none->Q (.ref p) (aF H p (.tup (xs++ys))))
def be.mW {xs:List V}{us:Δ3}(r:be xs us):us=[]↔xs=[]:=by
 cases r with
 |nil=>simp
 |cons _ _=>simp
def Hm:eY X (binaryOp .Add) (Tg X.K):=by
 intro aa s σ H x y v u Q I rx ry h;obtain⟨a,b,xs,ys,rfl,rfl,ha,hb,hx,hz,q1,q2⟩:=h;cases rx;cases ry;obtain⟨its,r1,p1,_⟩:=I.tuple ha;obtain⟨B8,r2,p2,_⟩:=I.tuple hb;refine HT.Iy p1 p2 (λz=>hx (r1.mW.mp z)) (λz=>⟨.ref a,H,I,rfl,q1 (r2.mW.mp z)⟩) (λz=>?_) (by rw[<- r1.length,<- r2.length];exact hz);refine⟨.ref s.heap.objs.size,_,I.laid (t':=s.toks) (o:=.tup (xs++ys)) (λb ob q=>Zi _ q) (Ze _) ?_,rfl,q2 (λw=>z (r2.mW.mpr w)) _ (I.bT.fresh (Ze _))⟩;exact⟨by rw[Z5];exact hz,_,r1.append r2,IsTup.new _ _⟩
end
def BS (n:Nat)(i:Int):Option Nat:=if 0<=i then (if i<n then some i.toNat else none) else if -(n:Int)<=i then some (i+n).toNat else none
def iF {α : Type}(xs:List α)(i:Int):Option α:=(BS xs.length i).bind λj=>xs[j]?
def zi {n:Nat}{i:Int}{j:Nat}(h:BS n i=some j):seqIndex? i n=some j/\j<n/\-(n:Int)<=i/\i<n:=by
 unfold BS at h;by_cases h0:0<=i
 .rw[if_pos h0] at h;by_cases h1:i<n
  .rw[if_pos h1] at h;have e:i.toNat=j:=Option.some.inj h;exact⟨by rw[seqIndex_of h0 h1,e],by omega,by omega,h1⟩
  .rw[if_neg h1] at h;cases h
 .rw[if_neg h0] at h;by_cases h1:-(n:Int)<=i
  .rw[if_pos h1] at h;have e:(i+n).toNat=j:=Option.some.inj h;exact⟨by rw[seqIndex_neg (by omega) h1,e],by omega,h1,by omega⟩
  .rw[if_neg h1] at h;cases h
def bo {α : Type}{xs:List α}{i:Int}{v:α}(h:iF xs i=some v):∃j,seqIndex? i xs.length=some j/\xs[j]?=some v/\j<xs.length/\-(xs.length:Int)<=i/\i<xs.length:=by
 unfold iF at h;cases e:BS xs.length i with
 |none=>rw[e] at h;cases h
 |some j =>
  rw[e] at h;obtain⟨h1,h2,h3,h4⟩:=zi e;exact⟨j,h1,h,h2,h3,h4⟩
def m9 {α : Type}{xs:List α}{j:Nat}{v:α}(h:xs[j]?=some v):iF xs (j:Int)=some v:=by
 have hj:j<xs.length:=(Zf.mp h).1;have e:BS xs.length (j:Int)=some j:=by
  unfold BS;rw[if_pos (by omega),if_pos (by omega)];simp
 unfold iF;rw[e];exact h
def ss (b:Expr):Prop:=∀o i,subscripted b false o i=operate [o,i] (getItem o i)
def Af (X:Cx)(r:R2):Prop :=
 ∀(value slice:Expr) (aa:Γ2) (s:Shared) (σ:St) (H:Hp) (x y:V) (v u:Value) (Q:VK),Inv X aa σ H s->RelV x v->RelV y u->r x y H Q ->
  subscripted slice false v u=operate [v,u] (getItem v u)->wpAny (model X.prog X.w) X.A (subscriptTail value slice v u) (EP X aa σ Q) X.xe s
def UT (X:Cx)(id:String)(r:V->List V->Hp->VK->Prop):Prop :=
 ∀(aa:Γ2) (s:Shared) (σ:St) (H:Hp) (x:V) (xs:List V) (v:Value) (us:Δ3) (Q:VK),Inv X aa σ H s->RelV x v->be xs us->r x xs H Q ->
  wpAny (model X.prog X.w) X.A (call (.builtin id) (v::us)) (EP X aa σ Q) X.xe s
section
variable {X:Cx}{a b:Expr}{ta tb:TE}{pos:Pos}
def Af.or {r r':R2}(h:Af X r)(h':Af X r'):Af X (λx y H Q=>r x y H Q\/r' x y H Q):=by
 intro value slice aa s σ H x y v u Q I rx ry q hs;rcases q with q |q
 .exact h value slice aa s σ H x y v u Q I rx ry q hs
 .exact h' value slice aa s σ H x y v u Q I rx ry q hs
def dJ {r:R2}(hr:Af X r)(ha:PE X a ta)(hb:PE X b tb)(hs:ss b):PE X (.Subscript a b pos) (Kn r ta tb):=by
 intro aa s σ H Q I h;exact Subscript_ (Mh ha hb I h λv u s2 x y H2 I2 rx ry q=>hr a b aa s2 σ H2 x y v u Q I2 rx ry q (hs _ _))
def LK (K:Θ1):R2:=λx y H Q=>∃p xs i v,x=.ref p/\y=.int i/\bi K H p xs/\iF xs i=some v/\Q v H
def LJ (K:Θ1):R2:=λx y H Q=>∃p xs i v,x=.ref p/\y=.int i/\aM K H p xs/\iF xs i=some v/\Q v H
def zh:Af X (LK X.K):=by
 intro value slice aa s σ H x y v u Q I rx ry h hs;obtain⟨p,xs,i,z,rfl,rfl,hq,he,q⟩:=h;cases rx;obtain⟨t,rfl⟩:=ry;obtain⟨its,r,pl,hz⟩:=I.list hq;obtain⟨j,h1,h2,h3,h4,h5⟩:=bo he;obtain⟨w,ew,BL⟩:=r.get h2;have hl:=r.length;have hn:=lN;have gy:EP X aa σ Q w s:=⟨z,H,I,BL,q⟩;by_cases h0:0<=i
 .have hj:i.toNat=j:=by
   rw[seqIndex_of h0 h5] at h1;exact Option.some.inj h1
  exact item_listR pl.isList h0 (by omega) (by rw[hj];simpa using ew) gy hs
 .have hj:(i+(its.toArray.size:Int)).toNat=j:=by
   rw[seqIndex_neg (by omega) h4] at h1;rw[Z3,<- hl];exact Option.some.inj h1
  exact subscriptTail_builtinR (x:=w) pl.isList.typeIs slot_list_getitem.lookup
   (wpAny_getItem_list_neg (Q:=λr s'=>r=w/\EP X aa σ Q r s') pl.isList (by omega) (by rw[Z3]<;>omega) (by omega) (by rw[hj];simpa using ew) ⟨rfl,gy⟩) hs
def Oa:Af X (LJ X.K):=by
 intro value slice aa s σ H x y v u Q I rx ry h hs;obtain⟨p,xs,i,z,rfl,rfl,hq,he,q⟩:=h;cases rx;obtain⟨t,rfl⟩:=ry;obtain⟨its,r,pl,hz⟩:=I.tuple hq;obtain⟨j,h1,h2,h3,h4,h5⟩:=bo he;obtain⟨w,ew,BL⟩:=r.get h2;have hl:=r.length;have hn:=lN;have gy:EP X aa σ Q w s:=⟨z,H,I,BL,q⟩;exact subscriptTail_builtinR (x:=w) pl.typeIs slot_tuple_getitem.lookup
  (getItem_tuple (j:=j) (Q:=λr s'=>r=w/\EP X aa σ Q r s') pl (by omega) (by omega) (by rw[Z3,<- hl];exact h1) (by simpa using ew) ⟨rfl,gy⟩) hs
def xc (its:Δ3)(n j:Nat)(u:Value):Obj.mapSeq (·.setIfInBounds j u) { cls:=.type "list",data:=.seq its.toArray n }={ cls:=.type "list",data:=.seq (its.set j u).toArray n }:=by
 simp[Obj.mapSeq]
def Inv.lst {aa:Γ2}{σ:St}{H:Hp}{s:Shared}{p:Addr}{xs:List V}(I:Inv X aa σ H s)(h:H p=some (.lst xs)) :
  ∃(its:Δ3) (n:Nat),be xs its/\s.heap.get? p=some { cls:=.type "list",data:=.seq its.toArray n }/\xs.length<=sizeLine:=by
 obtain⟨z,its,n,r,e⟩:=I.bT p _ h;exact⟨its,n,r,e,z⟩
def Inv.NZ {aa:Γ2}{σ:St}{H:Hp}{s:Shared}{p:Addr}{xs ys:List V}{its its':Δ3}{n n':Nat}{f:Obj->Obj}(I:Inv X aa σ H s)(h:H p=some (.lst xs))
  (ho:s.heap.get? p=some { cls:=.type "list",data:=.seq its.toArray n }) (hf:f { cls:=.type "list",data:=.seq its.toArray n }={ cls:=.type "list",data:=.seq its'.toArray n' }) (r:be ys its') (hz:ys.length<=sizeLine) (t:Nat) :
  Inv X aa σ (aF H p (.lst ys)) { s with heap:=s.heap.update p f,toks:=t }:=by
 have e:(s.heap.update p f).get? p=some { cls:=.type "list",data:=.seq its'.toArray n' }:=by
  rw[Xv f ho (by rw[hf]<;>rfl),hf]
 refine I.write (x:=p) (e:=p) (by rw[h];trivial) (.inl rfl) (λb u hb q=>(Yz _ _ (Ne.symm hb)).trans q) ⟨_,e⟩ ?_;exact⟨hz,its',n',r,e⟩
def Tc:V->V->V->Hp->(Hp->Prop)->Prop:=λo i v H Q=>∃p xs k j,o=.ref p/\i=.int k/\H p=some (.lst xs)/\BS xs.length k=some j/\Q (aF H p (.lst (xs.set j v)))
def oq:SE X Tc:=by
 intro aa s σ H o i v ov iv u Q I ro ri rv h;obtain⟨p,xs,k,j,rfl,rfl,hp,hj,q⟩:=h;cases ro;obtain⟨t,rfl⟩:=ri;obtain⟨its,n,r,ho,hz⟩:=I.lst hp;obtain⟨h1,h2,h3,h4⟩:=zi hj;have hl:=r.length;have hn:=lN;have I':Inv X aa σ (aF H p (.lst (xs.set j v))) { s with heap:=s.heap.update p (Obj.mapSeq (·.setIfInBounds j u)) } :=
  I.NZ hp ho (xc its n j u) (r.set rv j) (by rw[Xx];exact hz) s.toks
 by_cases h0:0<=k
 .have hk:k.toNat=j:=by
   rw[seqIndex_of h0 h4] at h1;exact Option.some.inj h1
  exact PySem.W.ki_setAt ho h0 (by omega) (by rw[Z3,<- hl];exact h4) (by rw[hk];exact⟨_,I',q⟩)
 .have hk:(k+(its.toArray.size:Int)).toNat=j:=by
   rw[seqIndex_neg (by omega) h3] at h1;rw[Z3,<- hl];exact Option.some.inj h1
  exact PySem.W.ki_setBack ho (by omega) (by rw[Z3,<- hl];exact h3) (by omega) (by rw[hk];exact⟨_,I',q⟩)
def sx (lo hi:Option Int)(n:Nat):(sliceBounds lo hi none n).1=((HT.cU n 0 lo:Nat):Int)/\(sliceBounds lo hi none n).2.1=((HT.cU n n hi:Nat):Int)/\(sliceBounds lo hi none n).2.2=1:=by
 refine⟨?_,?_,rfl⟩
 .cases lo with
  |none=>simp[sliceBounds,HT.cU]
  |some i =>
   simp only[sliceBounds,HT.cU,Option.getD_none,show(1:Int)>0 by decide,if_true];by_cases h:i<0
   .simp only[h,if_true]<;>omega
   .simp only[h,if_false]<;>omega
 .cases hi with
  |none=>simp[sliceBounds,HT.cU]
  |some i =>
   simp only[sliceBounds,HT.cU,Option.getD_none,show(1:Int)>0 by decide,if_true];by_cases h:i<0
   .simp only[h,if_true]<;>omega
   .simp only[h,if_false]<;>omega
def pD (its:Δ3)(lo hi:Option Int):slicePick its.toArray lo hi none=((its.drop (HT.cU its.length 0 lo)).take (HT.cU its.length its.length hi-HT.cU its.length 0 lo)).toArray:=by
 obtain⟨h1,h2,h3⟩:=sx lo hi its.toArray.size;unfold slicePick;rw[h1,h2,h3];simp only[sliceRange_one,pick_run,Z3]<;>rfl
def RK (K:Θ1):V->Option Int->Option Int->Hp->VK->Prop:=λx lo hi H Q=>∃a xs,x=.ref a/\bi K H a xs/\∀p,H p=none->Q (.ref p) (aF H p (.lst (fc xs lo hi)))
def GN:FD X (RK X.K):=by
 intro aa s σ H x v vl vu lo hi sl Q I rx hs pl pu h;obtain⟨a,xs,rfl,hx,q⟩:=h;cases rx;obtain⟨its,r,ht,hz⟩:=I.list hx;have cu:=r.length;refine⟨"list",_,slot_list_getitem.lookup,ht.isList.typeIs,?_⟩;refine wpAny_getItem_list_slice ht.isList hs pl pu .none (by simp) ?_ (by rw[Z3]<;>omega);rw[pD,<- cu];refine⟨.ref s.heap.objs.size,_,I.laid (t':=s.toks) (o:=.lst (fc xs lo hi)) (λb ob q=>Zi _ q) (Ze _) ?_,rfl,q _ (I.bT.fresh (Ze _))⟩;exact⟨Zk (mj xs lo hi) hz,_,0,(r.drop (HT.cU xs.length 0 lo)).take (HT.cU xs.length xs.length hi-HT.cU xs.length 0 lo),Zw _ rfl⟩
def gI:V->Bool
 |.bZ=>true
 |.bl _=>true
 |.int _=>true
 |.str _=>true
 |_=>false
def Fb:V->V->Bool
 |.bZ,.bZ=>true
 |.bl a,.bl b=>a == b
 |.bl a,.int b=>(if a then 1 else 0) == b
 |.int a,.bl b=>a == (if b then 1 else 0)
 |.int a,.int b=>a == b
 |.str a,.str b=>a == b
 |_,_=>false
def Og {A:Around}{s:Shared}{y x:V}{u v:Value}(ry:RelV y u)(rx:RelV x v)(fy:gI y=true)(fx:gI x=true):SeqAt.EqAt A s u v (Fb y x):=by
 cases y with
 |bZ =>
  cases ry
  cases x with
  |bZ=>cases rx;exact SeqAt.EqAt.same _
  |bl b=>cases rx;exact SeqAt.EqAt.none_bool b
  |int b=>obtain⟨t,rfl⟩:=rx;exact SeqAt.EqAt.none_int b t
  |str b=>obtain⟨t,rfl⟩:=rx;exact SeqAt.EqAt.none_str b t
  |_=>exact absurd (show false=true from fx) Z6
 |bl a =>
  cases ry
  cases x with
  |bZ=>cases rx;exact SeqAt.EqAt.bool_none a
  |bl b=>cases rx;exact SeqAt.EqAt.bool_bool a b
  |int b=>obtain⟨t,rfl⟩:=rx;exact SeqAt.EqAt.bool_int a b t
  |str b=>obtain⟨t,rfl⟩:=rx;exact SeqAt.EqAt.bool_str a b t
  |_=>exact absurd (show false=true from fx) Z6
 |int a =>
  obtain⟨t',rfl⟩:=ry;cases x with
  |bZ=>cases rx;exact SeqAt.EqAt.int_none a t'
  |bl b=>cases rx;exact SeqAt.EqAt.int_bool a t' b
  |int b=>obtain⟨t,rfl⟩:=rx;exact SeqAt.EqAt.int_int a t' b t
  |str b=>obtain⟨t,rfl⟩:=rx;exact SeqAt.EqAt.int_str a t' b t
  |_=>exact absurd (show false=true from fx) Z6
 |str a =>
  obtain⟨t',rfl⟩:=ry;cases x with
  |bZ=>cases rx;exact SeqAt.EqAt.str_none a t'
  |bl b=>cases rx;exact SeqAt.EqAt.str_bool a t' b
  |int b=>obtain⟨t,rfl⟩:=rx;exact SeqAt.EqAt.str_int a t' b t
  |str b=>obtain⟨t,rfl⟩:=rx;exact SeqAt.EqAt.str_str a t' b t
  |_=>exact absurd (show false=true from fx) Z6
 |_=>exact absurd (show false=true from fy) Z6
def vO (x:V)(u:Value):Bool:=match u with
 |.none=>Fb .bZ x
 |.bool b=>Fb (.bl b) x
 |.int i _=>Fb (.int i) x
 |.str z _=>Fb (.str z) x
 |_=>false
def Dz {x y:V}{u:Value}(r:RelV y u)(f:gI y=true):vO x u=Fb y x:=by
 cases y with
 |bZ=>cases r;rfl
 |bl b=>cases r;rfl
 |int i=>obtain⟨t,rfl⟩:=r;rfl
 |str z=>obtain⟨t,rfl⟩:=r;rfl
 |_=>exact absurd (show false=true from f) Z6
theorem kS {x:V}:∀{xs:List V}{us:Δ3},be xs us->xs.all gI=true->us.any (vO x)=xs.any λy=>Fb y x
 |_,_,.nil,_=>rfl
 |y::xs,u::us,.cons r t,f=>by
  rw[Y9,Z0] at f;rw[Xr,Xr,Dz r f.1,kS t f.2]
theorem jj {A:Around}{s:Shared}{x:V}{v:Value}(rx:RelV x v)(fx:gI x=true):∀{xs:List V}{us:Δ3},be xs us->xs.all gI=true->∀u∈us,SeqAt.EqAt A s u v (vO x u)
 |_,_,.nil,_=>λu hu=>by cases hu
 |y::xs,u::us,.cons r t,f=>λu' hu=>by
  rw[Y9,Z0] at f;rcases Zl.mp hu with rfl |hu
  .rw[Dz r f.1];exact Og r rx f.1 fx
  .exact jj rx fx t f.2 u' hu
def vE (x:V)(xs:List V):Bool:=xs.any λy=>Fb y x
def OC (K:Θ1)(neg:Bool):R2:=λx y H Q=>∃p xs,y=.ref p/\(bi K H p xs\/aM K H p xs)/\gI x=true/\xs.all gI=true/\Q (.bl (if neg then !vE x xs else vE x xs)) H
def AR:eY X (compareOp .In) (OC X.K false):=by
 intro aa s σ H x y v u Q I rx ry h;obtain⟨p,xs,rfl,hq,fx,fs,q⟩:=h;cases ry;rcases hq with hq |hq
 .obtain⟨its,r,pl,hz⟩:=I.list hq;refine SeqAt.in_listAt (vO x) pl.isList (λw hw=>jj rx fx r fs w (by simpa using hw)) ⟨.bl _,H,I,rfl,?_⟩;rw[show its.toArray.any (vO x)=its.any (vO x) by simp,kS r fs];exact q
 .obtain⟨its,r,pl,hz⟩:=I.tuple hq;refine SeqAt.in_tupleAt (vO x) pl (λw hw=>jj rx fx r fs w (by simpa using hw)) ⟨.bl _,H,I,rfl,?_⟩;rw[show its.toArray.any (vO x)=its.any (vO x) by simp,kS r fs];exact q
def sy:eY X (compareOp .NotIn) (OC X.K true):=by
 intro aa s σ H x y v u Q I rx ry h;obtain⟨p,xs,rfl,hq,fx,fs,q⟩:=h;cases ry;rcases hq with hq |hq
 .obtain⟨its,r,pl,hz⟩:=I.list hq;refine SeqAt.notIn_listAt (vO x) pl.isList (λw hw=>jj rx fx r fs w (by simpa using hw)) ⟨.bl _,H,I,rfl,?_⟩;rw[show its.toArray.any (vO x)=its.any (vO x) by simp,kS r fs];exact q
 .obtain⟨its,r,pl,hz⟩:=I.tuple hq;refine SeqAt.notIn_tupleAt (vO x) pl (λw hw=>jj rx fx r fs w (by simpa using hw)) ⟨.bl _,H,I,rfl,?_⟩;rw[show its.toArray.any (vO x)=its.any (vO x) by simp,kS r fs];exact q
def iC:ck X (.builtin "len") (λxs H Q=>∃p ys,xs=[.ref p]/\(bi X.K H p ys\/aM X.K H p ys)/\Q (.int ys.length) H):=by
 intro aa s σ H xs us Q I r h;obtain⟨p,ys,rfl,hq,q⟩:=h;obtain⟨u,rfl,rx⟩:=vals1 r;cases rx;have hn:=lN;rcases hq with hq |hq
 .obtain⟨its,r',pl,hz⟩:=I.list hq;have cu:=r'.length;exact Calls.call_len_list pl.isList (by simp only[Z3]<;>omega) ⟨.int ys.length,H,I.tok _,⟨s.toks+1,by rw[Z3,cu]⟩,q⟩
 .obtain⟨its,r',pl,hz⟩:=I.tuple hq;have cu:=r'.length;exact len_tuple pl (by simp only[Z3]<;>omega) ⟨.int ys.length,H,I.tok _,⟨s.toks+1,by rw[Z3,cu]⟩,q⟩
def sE:ck X (.type "list") (λxs H Q=>∃p ys,xs=[.ref p]/\(bi X.K H p ys\/aM X.K H p ys)/\∀l,H l=none->Q (.ref l) (aF H l (.lst ys))):=by
 intro aa s σ H xs us Q I r h;obtain⟨p,ys,rfl,hq,q⟩:=h;obtain⟨u,rfl,rx⟩:=vals1 r;cases rx;have gy:∀(its:Δ3),be ys its->ys.length<=sizeLine->∀(h':Heap) (c':Nat),(∀b o',s.heap.get? b=some o'->h'.get? b=some o') ->
   h'.get? s.heap.objs.size=some { cls:=.type "list",dict:=none,data:=.seq its.toArray c',slots:=#[] }->EP X aa σ Q (.ref s.heap.objs.size) { s with heap:=h' }:=λits r' hz h' c' kp e =>
  ⟨.ref s.heap.objs.size,_,I.laid (t':=s.toks) kp (Ze _) (show bY X.prog X.w _ h' _ (.lst ys) from⟨hz,its,c',r',e⟩),rfl,q _ (I.bT.fresh (Ze _))⟩
 rcases hq with hq |hq
 .obtain⟨its,r',pl,hz⟩:=I.list hq;have cu:=r'.length;obtain⟨o,ho,hc,n,hd⟩:=pl.isList;exact call_list_seq p (.inl rfl) ho hc hd (λh' c' kp e=>gy its r' hz h' c' kp e) (by simp only[Z3]<;>omega)
 .obtain⟨its,r',pl,hz⟩:=I.tuple hq;have cu:=r'.length;obtain⟨o,ho,hc,n,hd⟩:=pl;exact call_list_seq p (.inr rfl) ho hc hd (λh' c' kp e=>gy its r' hz h' c' kp e) (by simp only[Z3]<;>omega)
def pG:ck X (.type "tuple") (λxs H Q=>∃p ys,xs=[.ref p]/\((bi X.K H p ys/\∀l,H l=none->Q (.ref l) (aF H l (.tup ys)))\/(aM X.K H p ys/\Q (.ref p) H))):=by
 intro aa s σ H xs us Q I r h;obtain⟨p,ys,rfl,h⟩:=h;obtain⟨u,rfl,rx⟩:=vals1 r;cases rx;rcases h with ⟨hq,q⟩ |⟨hq,q⟩
 .obtain⟨its,r',pl,hz⟩:=I.list hq;have cu:=r'.length;refine call_tuple_list pl.isList (λh' kp=>?_) (by simp only[Z3]<;>omega);have I1:Inv X aa σ H { s with heap:=h' }:=I.kept (t':=s.toks) kp;have I2:Inv X aa σ (aF H h'.objs.size (.tup ys)) { s with heap:=h'.push { cls:=.type "tuple",data:=.seq its.toArray } } :=
   I1.laid (t':=s.toks) (λb o e=>Zi _ e) (Ze _) (show bY X.prog X.w _ _ _ (.tup ys) from⟨hz,its,r',IsTup.new _ _⟩)
  exact⟨.ref h'.objs.size,_,I2,rfl,q _ (I1.bT.fresh (Ze _))⟩
 .obtain⟨its,r',pl,hz⟩:=I.tuple hq;exact call_tuple_same pl ⟨.ref p,H,I,rfl,q⟩
def Oy (K:Θ1)(T:String)(x:V)(H:Hp):Prop:=match x with
 |.str _=>T="str"
 |.int _=>T="int"
 |.ref p=>(T="list"/\∃xs,bi K H p xs)\/(T="tuple"/\∃o,K.lookup p=some o/\o.cls=.type "tuple"/\o.dict=none) \/
   (T="dict"/\((∃kvs,H p=some (.dK kvs))\/∃kvs,H p=some (.dT kvs)))\/(T="set"/\∃S n,H p=some (.set S n))
 |_=>False
def CN {aa:Γ2}{σ:St}{H:Hp}{s:Shared}{T:String}{x:V}{v:Value}(I:Inv X aa σ H s)(r:RelV x v)(ty:Oy X.K T x H) :
  s.TypeIs v T/\∀a,v=.ref a->∃ob,s.heap.get? a=some ob/\ob.dict=none:=by
 cases x with
 |str z =>
  obtain⟨t,rfl⟩:=r;cases (show T="str" from ty);exact⟨typeIs_str s z t,λ_ e=>nomatch e⟩
 |int i =>
  obtain⟨t,rfl⟩:=r;cases (show T="int" from ty);exact⟨typeIs_int s i t,λ_ e=>nomatch e⟩
 |ref p =>
  cases r
  rcases ty with ⟨rfl,xs,hq⟩ |⟨rfl,o,hk,hc,hd⟩ |⟨rfl,hk⟩ |⟨rfl,S,n,hk⟩
  .obtain⟨its,_,pl,_⟩:=I.list hq;refine⟨pl.isList.typeIs,λa e=>?_⟩;cases e;obtain⟨o,n,e,c,hd,_⟩:=pl;exact⟨o,e,hd⟩
  .refine⟨⟨o,I.sU p o hk,hc⟩,λa e=>?_⟩;cases e;exact⟨o,I.sU _ o hk,hd⟩
  .have z:∃o,s.heap.get? p=some o/\o.ExactDict:=by
    rcases hk with ⟨kvs,hk⟩ |⟨kvs,hk⟩
    .obtain⟨_,_,_,_,o,_,_,e,ex,_⟩:=I.bT p _ hk;exact⟨o,e,ex⟩
    .obtain⟨_,_,_,_,o,_,_,e,ex,_⟩:=I.bT p _ hk;exact⟨o,e,ex⟩
   obtain⟨o,e,ex⟩:=z;refine⟨⟨o,e,ex.1⟩,λa e2=>?_⟩;cases e2;exact⟨o,e,ex.2.1⟩
  .obtain⟨o,_,_,_,e,ex,_⟩:=I.bT p _ hk;refine⟨⟨o,e,ex.1⟩,λa e2=>?_⟩;cases e2;exact⟨o,e,ex.2.1⟩
 |_=>exact False.elim ty
def YN (K:Θ1)(T:String)(r:V->List V->Hp->VK->Prop)(to:TE):TE:=λσ H Q=>to σ H λx H1=>Oy K T x H1/\r x [] H1 Q
def tBM (K:Θ1)(T:String)(r:V->List V->Hp->VK->Prop)(to:TE)(t:TA):TE:=λσ H Q=>to σ H λx H1=>Oy K T x H1/\t σ H1 λxs H2=>r x xs H2 Q
variable {o e:Expr}{es:Ξ2}{to:TE}{t:TA}{name:Str}{nI eL:Pos}{T id:String}{r:V->List V->Hp->VK->Prop}
def Dc (pa:PlainAttrs T)(slot:Slot T name id)(Fn:typeOf (.builtin id)=pure (.type "method_descriptor"))(hm:UT X id r)(ho:PE X o to)
  (tX:attributeBase o name X.env (eval o X.env)=eval o X.env:=by rfl) (tV:(nI.endLine == eL.line)=true:=by rfl):PE X (.Call (.Attribute o name nI) [] [] eL) (YN X.K T r to):=by
 intro aa s σ H Q I h;refine wpAny_Call_method0_late tX tV (bB (ho aa s σ H _ I h) λv s1 ⟨x,H1,I1,r1,ty,q1⟩=>?_);obtain⟨h1,h2⟩:=CN I1 r1 ty;exact⟨T,id,pa,slot,Fn,h1,h2,Calls.callWith_builtin rfl (PySem.evalArgs_none (hm aa s1 σ H1 x [] v [] Q I1 r1 .nil q1))⟩
end
def MtM (X:Cx)(id:String)(r:V->List V->Hp->VK->Prop):Prop :=
 ∀(aa:Γ2) (s:Shared) (σ:St) (H:Hp) (x:V) (xs:List V) (v:Value) (us:Δ3) (Q:VK),Inv X aa σ H s->RelV x v->be xs us->r x xs H Q ->
  wpAny (model X.prog X.w) X.A (call (.builtin id) (v::us)) (EP X aa σ Q) X.xe s
theorem be.one:∀{x:V}{us:Δ3},be [x] us->∃u,us=[u]/\RelV x u
 |_,_,.cons r .nil=>⟨_,rfl,r⟩
section
variable {X:Cx}{aa:Γ2}{σ:St}{H:Hp}{s:Shared}{l b:Addr}{xs ys zs:List V}
def Inv.ZJ {its its':Δ3}{n:Nat}{f:Array Value->Array Value}{t':Nat}(I:Inv X aa σ H s)(hH:H l=some (.lst xs))
  (e:s.heap.get? l=some { cls:=.type "list",data:=.seq its.toArray n }) (hf:f its.toArray=its'.toArray) (hv:be ys its') (hz:ys.length<=sizeLine) :
  Inv X aa σ (aF H l (.lst ys)) { s with heap:=s.heap.update l (Obj.mapSeq f),toks:=t' }:=by
 have q:=PySem.IsL.update e f;rw[hf] at q;refine I.write (x:=l) (e:=l) (by rw[hH];exact trivial) (.inl rfl) (λb' u hb hu=>(Yz s.heap (Obj.mapSeq f) (Ne.symm hb)).trans hu) ⟨_,q⟩ ?_;exact⟨hz,its',_,hv,q⟩
def Inv.LU {its:Δ3}{t':Nat}(I:Inv X aa σ H s)(hv:be ys its)(hz:ys.length<=sizeLine) :
  Inv X aa σ (aF H s.heap.objs.size (.lst ys)) { s with heap:=s.heap.push { cls:=.type "list",data:=.seq its.toArray },toks:=t' } :=
 I.laid (λ_ _ q=>Zi _ q) (Ze _) ⟨hz,its,0,hv,Zw _ rfl⟩
def Inv.fresh (I:Inv X aa σ H s):H s.heap.objs.size=none:=I.bT.fresh (Ze _)
def Inv.LS (I:Inv X aa σ H s)(hH:H l=some (.lst xs)):xs.length<=sizeLine/\∃(its:Δ3) (n:Nat),be xs its/\xs.length=its.length/\s.heap.get? l=some { cls:=.type "list",data:=.seq its.toArray n }:=by
 obtain⟨z,its,n,r,e⟩:=I.bT l _ hH;exact⟨z,its,n,r,r.length,e⟩
end
section
variable {X:Cx}
def Hb:V->List V->Hp->VK->Prop:=λx vs H Q=>∃l xs y,x=.ref l/\vs=[y]/\H l=some (.lst xs)/\xs.length<sizeLine/\Q .bZ (aF H l (.lst (xs++[y])))
def lU:MtM X "list.append" Hb:=by
 intro aa s σ H x vs v us Q I rx rv h;obtain⟨l,xs,y,rfl,rfl,hH,hz,q⟩:=h;cases rx;obtain⟨u,rfl,ru⟩:=rv.one;obtain⟨z,its,n,r,hl,e⟩:=I.LS hH;refine call_meets F.slot_list_append ⟨_,e,rfl⟩ F.entry_list_append (F.args_list_append_2 _ _) (PySem.list_append l its.toArray n u (by rw[Z3];omega)) ⟨e,?_⟩;refine⟨.bZ,_,I.ZJ (its':=its++[u]) hH e (by simp) (r.append (.cons ru .nil)) ?_,rfl,q⟩;rw[Z5,Q5];omega
def RL:R2:=λx y H Q=>∃l b xs zs,x=.ref l/\y=.ref b/\H l=some (.lst xs)/\H b=some (.lst zs)/\xs.length+zs.length<=sizeLine/\∀p,H p=none->Q (.ref p) (aF H p (.lst (xs++zs)))
def wt:eY X (binaryOp .Add) RL:=by
 intro aa s σ H x y v u Q I rx ry h;obtain⟨l,b,xs,zs,rfl,rfl,hH,hB,hz,q⟩:=h;cases rx;cases ry;obtain⟨z,its,n,r,hl,e⟩:=I.LS hH;obtain⟨z2,B8,n2,r2,BX,e2⟩:=I.LS hB;refine PySem.P.add_list e e2 ?_ (by rw[Z3,Z3];omega);have ea:its.toArray++B8.toArray=(its++B8).toArray:=by simp
 rw[ea];exact⟨.ref _,_,I.LU (t':=s.toks) (r.append r2) (by rw[Z5];omega),rfl,q _ I.fresh⟩
end
section
variable {prog:Program}{w:World}{A:Around}{E:Θ2}{s:Shared}
end
section
variable {X:Cx}
end
end L2
namespace Att
open PySem PySem.W PySem.Calls PyProof.Rows
def mF {P:Params}{h:Heap}:∀(ns:Γ3) (vs:Δ3),WellAll P h vs (ns.map WData.int)->IntsAre vs ns:=by
 intro ns;induction ns with
 |nil =>
  intro vs w;rw[X8] at w;cases w;exact .nil
 |cons n ns ih =>
  intro vs w;rw[Zs] at w;cases w with
  |cons a b =>
   cases a
   exact .cons _ _ (ih _ b)
def AG {l:OpenLaw}{n:Nat}(hn:l.most=some n){P:Params}{h:Heap}{args:List WData}{Ln:Δ3}
  (Ge:l.row.toRowW.claim.pre args=true) (Fm:WellAll P h Ln args) :
  ∃a vs ns,Ln=[Value.ref a]/\args=[WData.list (ns.map WData.int)]/\h.get? a=some { cls:=.type "list",data:=.seq vs.toArray }/\IntsAre vs ns/\ns.length<=n:=by
 have zT:WShape.hasAll [] args [.list .int]=true:=(pre_splitW Ge).1;have hc:l.pre.holds [] { args:=args }=true:=(pre_splitW Ge).2;obtain⟨d,r,rfl,h1,h2⟩:=hasAllW_cons zT;obtain rfl:=hasAllW_nil h2;obtain⟨xs,rfl,h3⟩:=hasW_list h1;obtain⟨ns,rfl⟩:=items_int h3;have cu:ns.length<=n:=by
  unfold OpenLaw.pre at hc;have h4:(WTm.not (.lt (.lit (.int (n:Int))) (.len (.arg 0)))).holds [] { args:=[.list (ns.map .int)] }=true:=by
   have h4:=(holds_andW hc).1;rw[hn] at h4;exact h4
  have h5:=condW_of h4 (w_not (w_lt w_lit (w_len_list (w_arg rfl))));rw[Za] at h5;refine Xl λq=>?_
  have q':(n:Int)<((ns.length:Nat):Int):=by omega
  first
   |(rw[decide_eq_true q'] at h5;exact absurd h5 (by decide))
   |(simp at h5;omega)
 cases Fm with
 |cons w1 w2 =>
  cases w2
  cases w1 with
  |list ho Gg=>exact⟨_,_,ns,rfl,rfl,ho,mF ns _ Gg,cu⟩
def AK (l:OpenLaw)(args:List WData):l.row.toRowW.claim.post args (.bool true) args=true :=
 postW_of (r:=l.row.toRowW) (X:=(true == true))
  (show WShape.has [] (.bool true) .bool=true by first |rfl |decide |simp[WShape.has,WShape.arms,WShape.armsAll])
  (show(WTm.eq .res (.lit (.bool true))).value [] { args:=args,res:=some (.bool true),after:=args }=some (.bool (true == true)) from w_eq_bool (w_res rfl) w_lit) rfl
def u4 {l:OpenLaw}{n:Nat}{q:Program}{loose:Δ2}{XP:(Θ3)->Heap->Prop}{YP:World->Heap->Prop}{d:DefRec}
  (hn:l.most=some n) (QN:d.params.defaults=[])
  (call:∀(w:World) (bp bt:Shared) (mg mb:Θ3) (fa:Addr) (o:Obj) (pm cd gC:Value) (a:Addr) (vs:Δ3) (ns:Γ3),
   Ground q loose [] XP w bp mg mb bt.heap->YP w bt.heap ->
   bt.heap.get? fa=some o->o.data=.func (docDef d.name d.params d.body d.scope pm cd gC)->bt.heap.CodeRec cd d.name->mg d.name=some (.ref fa) ->
   bt.heap.get? a=some { cls:=.type "list",data:=.seq vs.toArray }->IntsAre vs ns->ns.length<=n->bt.gens=#[] ->
   codeAny (model l.prog w) callerA (.call (.ref fa) ⟨[.ref a],[]⟩) (λr s'=>r=.ok (.ret (.bool true))/\OldK bt.heap s'.heap/\s'.os=bt.os/\AllBare s'.gens) bt) :
  WalkO q loose XP YP l.row.toRowW d [] (λf vs=>PySem.call f vs):=by
 intro w bp bt mg mb G Y fa o pm cd gC dV kV ho hd o6 hD QG hg args Ln as Ge ahN hrd Fm IT;obtain rfl:dV=.none:=Dflts.none hD QN;obtain rfl:kV=.none:=Dflts.noKw hD;obtain⟨a,vs,ns,rfl,rfl,LW,CA,cu⟩:=AG hn Ge Fm;refine enter_call (codeAny_mono (call w bp bt mg mb fa o pm cd gC a vs ns G Y ho (fd_plain hd) o6 QG LW CA cu hg) λr s' hq=>?_);obtain⟨rfl,h2,h3,h4⟩:=hq;exact⟨.inl ⟨.bool true,.bool true,[],rfl,λ_=>rfl,.bool true,AK l _,λ_=>⟨List.Pairwise.nil,λ_ hm=>(nomatch hm)⟩⟩,h2,h3,h4⟩
section
variable {prog:Program}{w:World}{A:Around}{E:Θ2}{s:Shared}{K:Frag}
end
end Att
namespace L2
open PySem PySem.Spec PyProof.Rows
theorem lQ:∀{vs:Δ3}{ns:Γ3},IntsAre vs ns->be (ns.map V.int) vs
 |_,_,.nil=>.nil
 |_,_,.cons n t h=>.cons ⟨t,rfl⟩ (lQ h)
def Mm (H:Hp):Prop:=∀b,H b=none\/∃o xs,H b=some (.iE o (.lst xs))
def Eu {P:Program}{w:World}{K:Θ1}{mg mb:Θ3}{CX:Ah}{k:Nat}{fa a:Addr}{fd:FuncData}{x:Str}{sp:Sp}{bt:Shared}{vs:Δ3}{ns:Γ3}
  (KX:K.In bt.heap) (OT:bt.heap.Ns mainGlobals mg) (hb:bt.heap.Ns builtinsNs mb) (UD:∀x:Str,x ≠ "__name__"->mb x=bootBuiltins x) (F':bt.heap.NoLimit) (hg:bt.gens=#[])
  (ha:bt.heap.get? a=some { cls:=.type "list",data:=.seq vs.toArray }) (hi:IntsAre vs ns) (hl:ns.length<=sizeLine) (hr:db k callerA)
  (F:∀base:Heap,K.In base->base.Ns mainGlobals mg->aO P w K mg base CX k fa fd [x] sp) (TV:∀(s:Shared) (u:Value),BindsTo s fd ⟨[u],[]⟩ [(x,u)])
  (BE:∀H:Hp,Mm H->bi K H a (ns.map V.int)->sp [.ref a] H (λv _=>v=.bl true) λ_ _ _=>False)
  (Wq:∀H e s',CX [] H bt (λ_ _ _=>False) e s'->False) :
  codeAny (model P w) callerA (.call (.ref fa) ⟨[.ref a],[]⟩) (λr s'=>r=.ok (.ret (.bool true))/\OldK bt.heap s'.heap/\s'.os=bt.os/\AllBare s'.gens) bt:=by
 have rv:=lQ hi;have ZK:=hi.length;have Sx:∀H:Hp,Mm H->bi K H a (ns.map V.int)->jP P w H bt.heap->(∀b,H b≠none->b=a)->(H a≠none->K.lookup a=none) ->
   codeAny (model P w) callerA (.call (.ref fa) ⟨[.ref a],[]⟩) (λr s'=>r=.ok (.ret (.bool true))/\OldK bt.heap s'.heap/\s'.os=bt.os/\AllBare s'.gens) bt:=by
  intro H hO hS bT hA hK;have zD:∀{b:Addr}{o:Obj},bt.heap.get? b=some o->H b=none->(re bt.heap H).get? b=some o:=λe n=>Ey e n
  have PL:∀{b:Addr}{o:Obj}{es:Array DictEntry}{ep:Nat},bt.heap.get? b=some o->o.data=.dict es ep->H b=none:=λ{b o es ep} e d=>by
   cases q:H b with
   |none=>rfl
   |some u =>
    have e':b=a:=hA b (by rw[q];simp);subst e';rw[ha] at e;cases e;have d':Data.seq vs.toArray _=Data.dict es ep:=d;cases d'
  have Uj:∀{b:Addr}{m:Θ3},bt.heap.Ns b m->(re bt.heap H).Ns b m:=λ{b m} ⟨o,es,ep,e,d,r⟩=>⟨o,es,ep,zD e (PL e d),d,r⟩
  have hKb:K.In (re bt.heap H):=λb o e=>zD (KX b o e) (by
   cases q:H b with
   |none=>rfl
   |some u =>
    have e':b=a:=hA b (by rw[q];simp);subst e';rw[hK (by rw[q];simp)] at e;cases e)
  have hM:Mod K mg (re bt.heap H):=⟨hKb,Uj OT,⟨mb,Uj hb,UD⟩,let ⟨mc,h1,h2⟩:=F';⟨mc,Uj h1,h2⟩⟩;have e0:Gz P w K mg (re bt.heap H) callerA [] bt H:=⟨rfl,hM,λb o e=>HM e,Nat.le_of_eq (Bh _ _),trivial,λb hb=>absurd (show b∈([]:List Addr) from hb) (by simp),bT,.of_eq hg⟩;refine codeAny_mono ((F _ hKb (Uj OT)).run callerA [] bt H ⟨[.ref a],[]⟩ [.ref a] [.ref a] _ _ hr e0 (TV bt (.ref a)) (.cons rfl .nil) (BE H hO hS)) λr s' h=>?_
  cases r with
  |error e=>exact(Wq H e s' h).elim
  |ok fl =>
   cases fl with
   |next=>exact False.elim h
   |brk=>exact False.elim h
   |cont=>exact False.elim h
   |ret u =>
    obtain⟨v,H',os,bare,un,l',r',q⟩:=h;have q':v=.bl true:=q;subst q';obtain rfl:u=Value.bool true:=r';refine⟨rfl,OldK.of_keep λb o e=>?_,os,bare⟩;cases q:H b with
    |none=>exact un.keep b o e q (by intro z;exact absurd (show b∈([]:List Addr) from z) (by simp)) (by simp)
    |some u =>
     rcases hO b with z |⟨ob,xs,z⟩
     .rw[q] at z;cases z
     .have z2:=un.nF b ob _ z;obtain⟨e1,_⟩:=bT b _ z;obtain⟨e2,_⟩:=l' b _ z2;rw[e] at e1;cases e1;exact e2
 cases hk:K.lookup a with
 |some o =>
  have e:=KX a o hk;rw[ha] at e;cases e;refine Sx (λ_=>none) (λ_=>.inl rfl) (.inr ⟨_,vs.toArray,_,hk,rfl,rfl,rfl,by rw[Z3,ZK];exact hl,by simpa using rv⟩) (λb u z=>by have z':(none:Option HO)=some u:=z;cases z') (λb z=>absurd rfl z) λz=>absurd rfl z
 |none =>
  refine Sx (λb=>if b=a then some (.iE { cls:=.type "list",data:=.seq vs.toArray } (.lst (ns.map V.int))) else none) (λb=>?_) (.inl (.inr ⟨{ cls:=.type "list",data:=.seq vs.toArray },if_pos rfl⟩)) (λb u z=>?_) (λb z=>?_) λ_=>hk
  .by_cases hb:b=a
   .exact .inr ⟨_,_,if_pos hb⟩
   .exact .inl (if_neg hb)
  .by_cases hb:b=a
   .have z':=(if_pos hb).symm.trans z;cases z';subst hb;exact⟨ha,by rw[Za];exact hl,vs,_,rv,ha⟩
   .have z':=(if_neg hb).symm.trans z;cases z'
  .by_cases hb:b=a
   .exact hb
   .exact absurd (if_neg hb) z
def GD {l:PySem.W.OpenLaw}{n k:Nat}{q:Program}{loose:Δ2}{XP:(Θ3)->Heap->Prop}{YP:World->Heap->Prop}{d:DefRec}{K:Params->Θ1}{CX:World->Ah}{sp:World->Sp}{x:Str}
  (hn:l.most=some n) (hn2:n<=sizeLine) (QN:d.params.defaults=[]) (hr:db k callerA)
  (hY:∀(w:World) (h:Heap),YP w h->(K w.params).In h)
  (F:∀(w:World) (mg:Θ3) (fa:Addr) (h:Heap),(K w.params).In h->h.Ns mainGlobals mg->mg d.name=some (.ref fa) ->
   ∃fd:FuncData,(∀(s:Shared) (u:Value),BindsTo s fd ⟨[u],[]⟩ [(x,u)]) /\
    ∀base:Heap,(K w.params).In base->base.Ns mainGlobals mg->aO l.prog w (K w.params) mg base (CX w) k fa fd [x] (sp w))
  (BE:∀(w:World) (H:Hp) (a:Addr) (ns:Γ3),ns.length<=n->Mm H->bi (K w.params) H a (ns.map V.int)->sp w [.ref a] H (λv _=>v=.bl true) λ_ _ _=>False)
  (Wq:∀(w:World) (H:Hp) (s:Shared) (e:Value) (s':Shared),CX w [] H s (λ_ _ _=>False) e s'->False) :
  PySem.W.WalkO q loose XP YP l.row.toRowW d [] (λf vs=>PySem.call f vs):=by
 refine Att.u4 hn QN λw bp bt mg mb fa o pm cd gC a vs ns G Y ho hd o6 QG LW CA cu hg=>?_
 have KX:=hY w _ Y;obtain⟨fd,hb,hF⟩:=F w mg fa _ KX G.T.g QG;exact Eu KX G.T.g G.T.b G.T.builtins G.T.nolimit hg LW CA (Zk cu hn2) hr hF hb (λH hO hS=>BE w H a ns cu hO hS) λH e s'=>Wq w H bt e s'
def vy (s:Stmt):Arguments:=match s with
 |.FunctionDef _ a _ _ _ _ _ _ _ _=>a
 |_=>{ posonlyargs:=[],args:=[],vararg:=none,kwonlyargs:=[],kw_defaults:=[],kwarg:=none,defaults:=[] }
def sG (s:Stmt):List Stmt:=match s with
 |.FunctionDef _ _ b _ _ _ _ _ _ _=>b
 |_=>[]
def bh (s:Stmt):Scope:=match s with
 |.FunctionDef _ _ _ _ _ _ sc _ _ _=>sc
 |_=>{ kind:=.function,names:=[],isGenerator:=false,isCoroutine:=false }
abbrev cQ:Ah:=λ_ _ _ _ _ _=>False
abbrev E0:XK:=λ_ _ _=>False
def aY {X:Cx}:om cQ X E0:=λ_ _ _ _ _ _ _ h=>h.elim
structure cL (K:Θ1)(x qual:Str)(st:Stmt)(f:Addr)(fd:FuncData):Prop where
 ex:∃(oc:Value) (od:Option Addr) (kV gC pm:Value) (an:Option Addr) (bv ct:Value) (Fh:Array (Φ1)),
  fd=PySem.W.fnOf x qual (vy st) (sG st) (bh st) .none kV gC pm an bv ct/\K.lookup f=some ⟨oc,od,.func fd,Fh⟩/\PySem.W.codeIn K bv qual=true
 kp:PySem.W.keepIn K (.ref f)=true
section
variable {P:Program}{w:World}{K:Θ1}{mg:Θ3}{base:Heap}
def cL.ok {x qual:Str}{st:Stmt}{f:Addr}{fd:FuncData}{N ps:Δ2}{k:Nat}{sp:Sp}(F:cL K x qual st f fd)(S:ap N ps (bh st))(len:∀vs H Q E,sp vs H Q E->vs.length=ps.length)
  (tW:∀(bv:Value) (A:Around) (outer:List Env) (s:Shared) (H:Hp) (vs:List V) (Q:VK) (E:XK),db k (A.deeper (envOfC qual (bh st) s.heap.objs.size f bv))->sp vs H Q E ->
   ∃t,jO (ka cQ P w K mg base N qual (bh st) f bv A outer s H E).PK (sG st) t/\t { nx:=λ_ H'=>Q .bZ H',rt:=Q } (start N vs) H):aO P w K mg base cQ (k+1) f fd ps sp:=by
 obtain⟨oc,od,kV,gC,pm,an,bv,ct,Fh,rfl,lk,o6⟩:=F.ex;refine Kd lk o6 S len λA outer s H vs Q E hr BE=>?_
 obtain⟨t,h,q⟩:=tW bv A outer s H vs Q E hr BE;exact⟨t,h.PK,q⟩
def cL.binds {x qual:Str}{st:Stmt}{f:Addr}{fd:FuncData}{ps:Δ2}(F:cL K x qual st f fd)
  (h:∀(kV gC pm:Value) (an:Option Addr) (bv ct:Value) (us:Δ3),us.length=ps.length->bindArgs (PySem.W.fnOf x qual (vy st) (sG st) (bh st) .none kV gC pm an bv ct) ⟨us,[]⟩=pure (ps.zip us)):Binds K fd ps []:=by
 obtain⟨oc,od,kV,gC,pm,an,bv,ct,Fh,rfl,lk,o6⟩:=F.ex;exact .all (h kV gC pm an bv ct)
def wF {x qual:Str}{st:Stmt}{f:Addr}{oc:Value}{od an:Option Addr}{Fh:Array (Φ1)}{kV gC pm bv ct:Value}(l:K.lookup f=some ⟨oc,od,.func (PySem.W.fnOf x qual (vy st) (sG st) (bh st) .none kV gC pm an bv ct),Fh⟩)
  (c:PySem.W.codeIn K bv qual=true) (k:PySem.W.keepIn K (.ref f)=true):cL K x qual st f (PySem.W.fnOf x qual (vy st) (sG st) (bh st) .none kV gC pm an bv ct):=⟨⟨oc,od,kV,gC,pm,an,bv,ct,Fh,rfl,l,c⟩,k⟩
end
def J3 {A:Around}{k:Nat}(hr:db k A):A.units+1<cLine:=Nat.lt_of_le_of_lt (Nat.add_le_add_left (by decide:1<=64) _) hr.units
section
variable {X:Cx}
def pv (i:Nat){x:Str}{pos:Pos}(hN:X.N[i]?=some x:=by rfl)(hv:UR X.env.scope x:=by first |exact Or.inl rfl |exact Or.inr (Or.inl rfl) |exact Or.inr (Or.inr rfl))(hd:(x == ("__debug__" : Str))=false:=by decide)
  (o6:(x == ("__classdict__" : Str))=false:=by decide):PE X (.Name x pos) (vU i):=No hN hv hd o6
end
def df {A B:Prop}(h:B):if false=true then A else B:=by
 rw[if_neg Z6];exact h
def cM {A B:Prop}(h:A):if true=true then A else B:=by
 rw[if_pos rfl];exact h
def Am {c A B:Prop}[Decidable c](h1:c->A)(h2:¬ c->B):if c then A else B:=by
 by_cases h:c
 .rw[if_pos h];exact h1 h
 .rw[if_neg h];exact h2 h
def dZ (env:Env):List (Str×NameKind)->List (Str×Addr)->List (Str×Addr)
 |[],acc=>acc
 |(n,k)::r,acc=>if k == .free then dZ env r ((n,(env.cells.lookup n).getD 0)::acc) else dZ env r acc
theorem lY {env:Env}(f:Str×NameKind->List (Str×Addr)->Sem (ForInStep (List (Str×Addr))))
  (hf:∀n k cs,f (n,k) cs=if k == .free then (do let a <- cellOf env n;pure (.yield ((n,a)::cs))) else pure (.yield cs)) :
  ∀(names:List (Str×NameKind)) (acc:List (Str×Addr)),(∀x∈names,x.2=.free->(env.cells.lookup x.1).isSome=true)->forIn names acc f=pure (dZ env names acc)
 |[],acc,_=>by rw[List.forIn_nil];rfl
 |(n,k)::r,acc,h=>by
  rw[List.forIn_cons,hf];unfold dZ;have hr:∀x∈r,x.2=.free->(env.cells.lookup x.1).isSome=true:=λx hx=>h x (Zq _ hx)
  by_cases hk:(k == NameKind.free)=true
  .rw[if_pos hk,if_pos hk];have e:=h (n,k) Zm (by simpa using hk);obtain⟨c,hc⟩:=X7.mp e;unfold cellOf;simp only at hc;rw[hc];simp only[pure_bind,Xm];exact lY f hf r _ hr
  .rw[if_neg hk,if_neg hk,pure_bind];exact lY f hf r _ hr
def P1 {scope:Scope}{env:Env}(h:∀x∈scope.names,x.2=.free->(env.cells.lookup x.1).isSome=true):closureFor scope env=pure (dZ env scope.names []):=by
 show(forIn scope.names ([]:List (Str×Addr)) _ >>= λcs=>pure cs)=_;rw[lY (env:=env) _ (λn k cs=>by cases hk:k == NameKind.free<;>simp[hk]) scope.names [] h];simp only[pure_bind]
theorem jo {env:Env}{x:Str}{c:Addr}:∀(names:List (Str×NameKind)) (acc:List (Str×Addr)),(∀x∈names,x.2=.free->(env.cells.lookup x.1).isSome=true) ->
  (dZ env names acc).lookup x=some c->env.cells.lookup x=some c\/acc.lookup x=some c
 |[],_,_,e=>.inr e
 |(n,k)::r,acc,h,e=>by
  unfold dZ at e;have hr:∀x∈r,x.2=.free->(env.cells.lookup x.1).isSome=true:=λx hx=>h x (Zq _ hx)
  by_cases hk:(k == NameKind.free)=true
  .rw[if_pos hk] at e;rcases jo r _ hr e with q |q
   .exact .inl q
   .rw[X9] at q;cases hb:x == n with
    |true =>
     rw[hb] at q;have hx:x=n:=by simpa using hb
     obtain⟨c',hc⟩:=X7.mp (h (n,k) Zm (by simpa using hk));simp only at hc;rw[hc] at q;subst hx;rw[hc];exact .inl (by simpa using q)
    |false=>rw[hb] at q;exact .inr q
  .rw[if_neg hk] at e;exact jo r _ hr e
theorem li {env:Env}{x:Str}:∀(names:List (Str×NameKind)) (acc:List (Str×Addr)),((x,NameKind.free)∈names\/(acc.lookup x).isSome=true)->((dZ env names acc).lookup x).isSome=true
 |[],_,h=>h.elim (λe=>nomatch e) id
 |(n,k)::r,acc,h=>by
  unfold dZ;by_cases hk:(k == NameKind.free)=true
  .rw[if_pos hk];refine li r _ ?_;rcases h with h |h
   .rcases Zl.mp h with e |h
    .cases e;exact .inr (by rw[X9];simp)
    .exact .inl h
   .refine .inr ?_;rw[X9];split
    .rfl
    .exact h
  .rw[if_neg hk];refine li r _ ?_;rcases h with h |h
   .rcases Zl.mp h with e |h
    .cases e;exact absurd (by decide) hk
    .exact .inl h
   .exact .inr h
theorem m8 {x:Str}{c:Addr}:∀(names:List (Str×NameKind)) (k:Nat) (acc:List (Str×Addr)),(cellsFrom k names acc).lookup x=some c->k<=c\/(acc.lookup x=some c/\(x,NameKind.cell)∉names)
 |[],_,_,e=>.inr ⟨e,by simp⟩
 |(n,kd)::r,k,acc,e=>by
  unfold cellsFrom at e;by_cases hk:(kd == NameKind.cell)=true
  .rw[if_pos hk] at e;rcases m8 r _ _ e with q |⟨q,nr⟩
   .exact .inl (by omega)
   .rw[X9] at q;cases hb:x == n with
    |true=>rw[hb] at q;cases q;exact .inl (Ze _)
    |false =>
     rw[hb] at q;refine .inr ⟨q,λz=>?_⟩;rcases Zl.mp z with z |z
     .cases z;simp at hb
     .exact nr z
  .rw[if_neg hk] at e;rcases m8 r _ _ e with q |⟨q,nr⟩
   .exact .inl q
   .refine .inr ⟨q,λz=>?_⟩;rcases Zl.mp z with z |z
    .cases z;exact hk (by simp)
    .exact nr z
theorem wG:∀(names:List (Str×NameKind)) (k:Nat) (acc:List (Str×Addr)),(∀p∈acc,p.2<k)->(∀p q,p∈acc->q∈acc->p.2=q.2->p.1=q.1)->∀p q,p∈cellsFrom k names acc->q∈cellsFrom k names acc->p.2=q.2->p.1=q.1
 |[],_,_,_,hi,p,q,hp,hq,e=>hi p q hp hq e
 |(n,kd)::r,k,acc,hb,hi,p,q,hp,hq,e=>by
  unfold cellsFrom at hp hq;by_cases hk:(kd == NameKind.cell)=true
  .rw[if_pos hk] at hp hq;refine wG r (k+1) ((n,k)::acc) (λz hz=>?_) (λy z hy hz e=>?_) p q hp hq e
   .rcases Zl.mp hz with rfl |hz
    .exact Q6 _
    .exact Qm (hb z hz)
   .rcases Zl.mp hy with hy |hy<;>rcases Zl.mp hz with hz |hz
    .rw[hy,hz]
    .subst hy;exact absurd (hb z hz) (by rw[<- e];exact Yq _)
    .subst hz;exact absurd (hb y hy) (by rw[e];exact Yq _)
    .exact hi y z hy hz e
  .rw[if_neg hk] at hp hq;exact wG r k acc hb hi p q hp hq e
theorem sj:∀(names:List (Str×NameKind)) (h:Heap) (acc:List (Str×Addr)) (p:Str×Addr),p∈cellsFrom h.objs.size names acc->p∈acc\/((pushCells h names).IsCell p.2 none/\h.objs.size<=p.2)
 |[],_,_,_,e=>.inl e
 |(n,kd)::r,h,acc,p,e=>by
  unfold cellsFrom at e;unfold pushCells;by_cases hk:(kd == NameKind.cell)=true
  .rw[if_pos hk] at e ⊢;have hs:(h.push { cls:=.type "cell",data:=.cell none }).objs.size=h.objs.size+1:=Y8 ..;rw[<- hs] at e;rcases sj r _ _ p e with q |⟨q,l⟩
   .rcases Zl.mp q with rfl |q
    .exact .inr ⟨Heap.IsCell.keeps ⟨_,Zw _ rfl,rfl⟩ (pushCells_keeps _ _),Ze _⟩
    .exact .inl q
   .exact .inr ⟨q,by omega⟩
  .rw[if_neg hk] at e ⊢;exact sj r h acc p e
def fY {M:Model}{A:Around}{E:Θ2}{s:Shared}{scope:Scope}{globals:Addr}{cl:List (Str×Addr)}{qual:Str}{outer:Env}{Q:Env->Shared->Prop}
  (hQ:Q (newEnv scope s.heap.objs.size globals (cellsFrom (s.heap.objs.size+1) scope.names cl) qual none .none (some outer) builtinsNs) { s with heap:=pushCells (s.heap.push { cls:=.type "dict",data:=.dict #[] }) scope.names }) :
  wpAny M A (newFunctionEnv scope globals cl [] qual none .none (some outer)) Q E s:=by
 simp only[newFunctionEnv,Option.isSome_some,if_true];refine Zb (wpAny_alloc ?_);refine Zb (wpAny_layCells _ (λname kind cells=>by cases hkc:kind == NameKind.cell<;>simp[hkc]) _ _ _ _ ?_);rw[show({ s with heap:=s.heap.push { cls:=.type "dict",data:=.dict #[] } }:Shared).heap.objs.size=s.heap.objs.size+1 from Y8 ..];rw[List.forIn_nil];exact Zb (wpAny_pure (wpAny_pure hQ))
def Bm {prog:Program}{w:World}{A:Around}{R:Result->Shared->Prop}{s:Shared}{d9 fq iter:Expr}{gx:Ξ2}{scope:Scope}{pos:Pos}{it acc:Value}{env:Env}(I:Nat->Shared->Prop)
  (fj:∀n s,I n s->wpAny (model prog w) A (pyNext it) (λr bt=>match r with
   |none=>R (.ok .next) bt
   |some v=>wpAny (model prog w) A (letOwnedTupleGo fq it v) (λ_ iW=>wpAny (model prog w) A (assign fq env v) (λ_ cE =>
     wpAny (model prog w) A (forIn gx true λc r=>if r=true then do let ok <- isTrue c env (eval c env);pure (ForInStep.yield ok) else pure (ForInStep.yield r)) (λok eh =>
      if ok=true then wpAny (model prog w) A (eval d9 env) (λx g9 =>
       wpAny (model prog w) A (call (.builtin "list.append") [acc,x]) (λ_ nt=>∃m,m<n/\I m nt) (λ_ _=>False) g9) (λ_ _=>False) eh
      else ∃m,m<n/\I m eh) (λ_ _=>False) cE) (λ_ _=>False) iW) (λ_ _=>False) bt) (λ_ _=>False) s)
  (n:Nat) (h:I n s) :
  codeAny (model prog w) A (.compLoop (.ListComp d9 [⟨fq,iter,gx,0⟩] scope pos) 0 it acc env) R s:=by
 refine codeAny_loop rfl I (λn s hI=>?_) n h;show wpAny _ A ((compTurn (.ListComp d9 [⟨fq,iter,gx,0⟩] scope pos) 0 it acc env).onRaise (λx=>do noteFrame x env;theTreesLotGoes x)) _ _ s;refine wpAny_noted ?_;rw[compTurn_list];refine Zb (wpAny_standAt (Zb (wpAny_mono (fj n s hI) (λr bt lI=>?_) λ_ _ h'=>h'.elim)));cases r with
 |none=>exact wpAny_pure lI
 |some v =>
  refine Zb (wpAny_mono lI (λ_ iW nO=>?_) λ_ _ h'=>h'.elim);refine Zb (wpAny_mono nO (λ_ cE lH=>Zb (wpAny_mono lH (λok eh lG=>?_) λ_ _ h'=>h'.elim)) λ_ _ h'=>h'.elim);cases ok with
  |false=>exact wpAny_pure ⟨rfl,lG⟩
  |true =>
   exact Zb (Zb (wpAny_mono lG (λx g9 wa=>Zb (wpAny_mono wa (λ_ nt v9=>wpAny_pure (wpAny_pure ⟨rfl,v9⟩)) λ_ _ h'=>h'.elim)) λ_ _ h'=>h'.elim))
def iJ (scope:Scope)(C:Addr)(env:Env):Env:=compEnvC scope (cellsFrom (C+1) scope.names (dZ env scope.names [])) C env
def d6 (X:Cx)(scope:Scope)(C:Addr)(N:Δ2)(fp:List Addr)(s:Shared)(H:Hp):Cx where
 prog:=X.prog
 w:=X.w
 K:=X.K
 mg:=X.mg
 base:=X.base
 A:=X.A
 N:=N
 bp:=s
 bN:=H
 env:=iJ scope C X.env
 outer:=X.stack
 stack:=X.stack
 ex:=fp
 fn:=λx=>decide ((x,NameKind.cell)∈scope.names)
 calm:=X.calm
 pn:=[]
 xe:=λ_ _=>False
def fk (X:Cx)(gx:Ξ2)(t:TT):Prop :=
 ∀(aa:Γ2) (s:Shared) (σ:St) (H:Hp) (Q:Bool->Hp->Prop),Inv X aa σ H s->t σ H Q ->
  wpAny (model X.prog X.w) X.A (forIn gx true λc r=>if r=true then do let ok <- isTrue c X.env (eval c X.env);pure (ForInStep.yield ok) else pure (ForInStep.yield r)) (TP X aa σ Q) X.xe s
def Lq:TT:=λ_ H Q=>Q true H
def vC {X:Cx}:fk X [] Lq:=λ_ s σ H Q I h=>wpAny_tests_nil ⟨H,I,h⟩
def gN {X:Cx}{c:Expr}{t:TT}(h:PT X c t):fk X [c] t:=λaa s σ H Q I q=>wpAny_tests_one (h aa s σ H Q I q)
def eF (own:Nat)(cap:List Nat)(σ:St):St:=List.replicate own none++cap.map λi=>(σ[i]?).getD none
structure aG (X:Cx)(scope:Scope)(own:Δ2)(cap:Δ2)(ix:List Nat):Prop where
 kind:scope.kind=.function
 names:∀x∈scope.names,x.2=.local->scope.names.lookup x.1=some .local
 nd:(scope.names.map (·.1)).Nodup
 frees:∀x∈scope.names,x.2=.free->X.env.kindOf x.1=some .cell\/X.env.kindOf x.1=some .free
 θ:∀(j:Nat) (x:Str),cap[j]?=some x->(x,NameKind.free)∈scope.names
 at':∀(j:Nat) (x:Str),cap[j]?=some x->∃i,ix[j]?=some i/\X.N[i]?=some x
 len:cap.length=ix.length
def iB {env:Env}{scope:Scope}{x:Str}{k:NameKind}(h:(relabel scope env).names.lookup x=some k):(x,k)∈scope.names\/(k=.cell/\(x,NameKind.free)∈scope.names):=by
 have m:=Xj h;obtain⟨⟨n,k'⟩,hm,e⟩:=Zd.mp m;simp only at e;split at e
 .rename_i hc;cases e;have:k'=NameKind.free:=by simp at hc;exact hc.1.1
  subst this;exact .inr ⟨rfl,hm⟩
 .cases e;exact .inl hm
def oS {names:List (Str×NameKind)}(nd:(names.map (·.1)).Nodup){x:Str}{k k':NameKind}(h:(x,k)∈names)(h':(x,k')∈names):k=k':=by
 induction names with
 |nil=>cases h
 |cons p r ih =>
  rw[Zs,Yl] at nd;rcases Zl.mp h with e |h<;>rcases Zl.mp h' with e' |h'
  .rw[<- e'] at e;cases e;rfl
  .exact absurd (Zd.mpr ⟨_,h',by rw[<- e]⟩) nd.1
  .exact absurd (Zd.mpr ⟨_,h,by rw[<- e']⟩) nd.1
  .exact ih nd.2 h h'
section
variable {X:Cx}{aa:Γ2}{σ:St}{H:Hp}{s:Shared}{scope:Scope}{own cap:Δ2}{ix:List Nat}
def Inv.block (I:Inv X aa σ H s)(B:aG X scope own cap ix){fp:List Addr}(hf:∀b∈fp,dS X aa H b)(ho:∀b∈fp,∃o,s.heap.get? b=some o) :
  Inv (d6 X scope s.heap.objs.size (own++cap) fp s H) [] (eF own.length ix σ) H { s with heap:=pushCells (s.heap.push { cls:=.type "dict",data:=.dict #[] }) scope.names }:=by
 have has:∀x∈scope.names,x.2=.free->(X.env.cells.lookup x.1).isSome=true:=λx hx hk=>by
  obtain⟨c,e⟩:=I.ok.has x.1 (B.frees x hx hk);rw[e];rfl
 have keep:∀b o,s.heap.get? b=some o->(pushCells (s.heap.push { cls:=.type "dict",data:=.dict #[] }) scope.names).get? b=some o:=λb o e=>pushCells_keeps _ _ b o (Zi _ e)
 have zL:∀x c,X.env.cells.lookup x=some c->c<s.heap.objs.size:=λx c e=>let ⟨v,q⟩:=I.cell x c e;q.lt
 have si:∀x c,(cellsFrom (s.heap.objs.size+1) scope.names (dZ X.env scope.names [])).lookup x=some c->s.heap.objs.size+1<=c\/(X.env.cells.lookup x=some c/\(x,NameKind.cell)∉scope.names):=λx c e=>by
  rcases m8 _ _ _ e with q |⟨q,nm⟩
  .exact .inl q
  .rcases jo _ _ has q with q |q
   .exact .inr ⟨q,nm⟩
   .cases q
 have m7:∀p∈dZ X.env scope.names [],X.env.cells.lookup p.1=some p.2:=by
  have Rj:∀(names:List (Str×NameKind)) (acc:List (Str×Addr)),(∀x∈names,x.2=.free->(X.env.cells.lookup x.1).isSome=true)->(∀p∈acc,X.env.cells.lookup p.1=some p.2)->∀p∈dZ X.env names acc,X.env.cells.lookup p.1=some p.2:=by
   intro names;induction names with
   |nil=>intro acc _ h p hp;exact h p hp
   |cons y r ih =>
    intro acc h h2 p hp;obtain⟨n,k⟩:=y;unfold dZ at hp;by_cases hk:(k == NameKind.free)=true
    .rw[if_pos hk] at hp;refine ih _ (λx hx=>h x (Zq _ hx)) (λq hq=>?_) p hp;rcases Zl.mp hq with rfl |hq
     .obtain⟨c,e⟩:=X7.mp (h (n,k) Zm (by simpa using hk));simp only at e ⊢;rw[e];rfl
     .exact h2 q hq
    .rw[if_neg hk] at hp;exact ih _ (λx hx=>h x (Zq _ hx)) h2 p hp
  exact Rj _ _ has (λp hp=>nomatch hp)
 have ε:∀x y c,(cellsFrom (s.heap.objs.size+1) scope.names (dZ X.env scope.names [])).lookup x=some c->(cellsFrom (s.heap.objs.size+1) scope.names (dZ X.env scope.names [])).lookup y=some c->x=y:=λx y c e1 e2 =>
  wG scope.names (s.heap.objs.size+1) (dZ X.env scope.names []) (λp hp=>Qm (zL p.1 p.2 (m7 p hp)))
   (λp q hp hq e=>I.ok.inj p.1 q.1 p.2 (m7 p hp) (by rw[e];exact m7 q hq)) (x,c) (y,c) (Xj e1) (Xj e2) rfl
 have T4:∀x c,(cellsFrom (s.heap.objs.size+1) scope.names (dZ X.env scope.names [])).lookup x=some c->∃v,(pushCells (s.heap.push { cls:=.type "dict",data:=.dict #[] }) scope.names).IsCell c v:=λx c e=>by
  have m:=Xj e;have hs:(s.heap.push { cls:=.type "dict",data:=.dict #[] }).objs.size=s.heap.objs.size+1:=Y8 ..;rw[<- hs] at m;rcases sj _ _ _ _ m with q |⟨q,_⟩
  .obtain⟨v,z⟩:=I.cell _ _ (m7 _ q);exact⟨v,z.keeps keep⟩
  .exact⟨none,q⟩
 have So:∀b∈fp,b<s.heap.objs.size:=λb hb=>let ⟨o,e⟩:=ho b hb;Zp e
 refine⟨⟨I.ok.mod,?_,I.ok.glob,I.ok.blt,Ze _,ε,λx hx=>?_,λx c hfx e=>?_,I.ok.hd,I.ok.frames,.inl rfl,λb hb=>⟨?_,λx c e=>?_⟩,I.bs,Zk I.ok.IZ I.sz,λb o e hb=>?_,λb hb hz=>?_,I.stack,I.rL⟩,
  rfl,I.bare,Un.kept keep,⟨λ_=>none,(Heap.Ns.new s.heap (.type "dict")).keeps (pushCells_keeps _ _),λi x v h1 h2 h3=>?_⟩,T4,I.bT.fresh (Ze _),λx c e=>?_,λp hp=>absurd (show p∈([]:Γ2) from hp) (by simp),I.bT.kept keep,?_⟩
 .exact B.kind
 .have xF:(relabel scope X.env).names.lookup x=some .cell\/(relabel scope X.env).names.lookup x=some .free:=hx;have:((cellsFrom (s.heap.objs.size+1) scope.names (dZ X.env scope.names [])).lookup x).isSome=true:=by
   have fr:(x,NameKind.free)∈scope.names->((cellsFrom (s.heap.objs.size+1) scope.names (dZ X.env scope.names [])).lookup x).isSome=true:=λz=>PySem.W.cellsFrom_some _ _ _ (.inr (li _ _ (.inl z)))
   have ce:(x,NameKind.cell)∈scope.names->((cellsFrom (s.heap.objs.size+1) scope.names (dZ X.env scope.names [])).lookup x).isSome=true:=λz=>by
    have Rj:∀(names:List (Str×NameKind)) (k:Nat) (acc:List (Str×Addr)),(x,NameKind.cell)∈names->((cellsFrom k names acc).lookup x).isSome=true:=by
     intro names;induction names with
     |nil=>intro _ _ z;cases z
     |cons y r ih =>
      intro k acc z;obtain⟨n,kd⟩:=y;unfold cellsFrom;by_cases hk:(kd == NameKind.cell)=true
      .rw[if_pos hk];rcases Zl.mp z with e |z
       .cases e
        exact PySem.W.cellsFrom_some _ _ _ (.inr (by rw[X9];simp))
       .exact ih _ _ z
      .rw[if_neg hk];rcases Zl.mp z with e |z
       .cases e;exact absurd (by decide) hk
       .exact ih _ _ z
    exact Rj _ _ _ z
   rcases xF with q |q
   .rcases iB q with q |⟨_,q⟩
    .exact ce q
    .exact fr q
   .rcases iB q with q |⟨e,_⟩
    .exact fr q
    .cases e
  exact X7.mp this
 .have hm:(x,NameKind.cell)∈scope.names:=of_decide_eq_true hfx;rcases si x c e with q |⟨_,nm⟩
  .exact Zk (Xs _) q
  .exact absurd hm nm
 .exact Yb (So b hb)
 .rcases si x c e with q |⟨q,_⟩
  .exact Xq (Yj (So b hb) (Zk (Xs _) q))
  .exact(hf b hb).2.2.2.2.1 x c q
 .rcases(hf b hb).2.2.2.1 with z |z
  .exact I.ok.B6 b o e z
  .exact absurd (Yj (Zp e) (Zk I.ok.IZ z)) (Yq _)
 .rcases Zl.mp (I.rj b hz) with e |z
  .exact(hf b hb).2.1 e
  .exact(hf b hb).2.2.1 z
 .
  have h1:(own++cap)[i]?=some x:=h1;have hi:own.length<=i:=by
   by_cases hi:i<own.length
   .unfold eF at h2;rw[Z4 (by simpa using hi),Ql,if_pos hi] at h2;cases h2
   .omega
  rw[Yv hi] at h1;unfold eF at h2;rw[Yv (by simpa using hi),Q4,Zh] at h2;obtain⟨j,hj,hN⟩:=B.at' _ _ h1;rw[hj] at h2;simp only[Y0,Option.some.injEq] at h2;have h2':σ[j]?=some (some v):=by
   cases q:σ[j]? with
   |none=>rw[q] at h2;simp at h2
   |some o=>rw[q] at h2;simp at h2;rw[h2]
  have fm:=B.θ _ _ h1;have kd:=B.frees _ fm rfl;obtain⟨m,hn,hl⟩:=I.loc;obtain⟨u,r,l⟩:=hl j x v hN h2' (by rcases kd with k |k;exact .inr (.inl k);exact .inr (.inr k));refine⟨u,r,.inr ?_⟩;have T3:∃c,X.env.cells.lookup x=some c/\s.heap.IsCell c (some u):=by
   rcases l with ⟨k,_⟩ |⟨_,c,e,z⟩
   .simp only at kd;rw[k] at kd;rcases kd with k |k<;>cases k
   .exact⟨c,e,z⟩
  obtain⟨c,ec,zc⟩:=T3;have Tz:(x,NameKind.cell)∉scope.names:=λz=>by have:=oS B.nd z fm;cases this
  refine⟨?_,c,?_,zc.keeps keep⟩
  .have h3':(relabel scope X.env).names.lookup x=some .local\/(relabel scope X.env).names.lookup x=some .cell\/(relabel scope X.env).names.lookup x=some .free:=h3;rcases h3' with q |q |q
   .rcases iB q with q |⟨e,_⟩
    .have:=oS B.nd q fm;cases this
    .cases e
   .exact .inl q
   .exact .inr q
  .show(cellsFrom (s.heap.objs.size+1) scope.names (dZ X.env scope.names [])).lookup x=some c;obtain⟨c',e'⟩:=X7.mp (PySem.W.cellsFrom_some (x:=x) scope.names (s.heap.objs.size+1) (dZ X.env scope.names []) (.inr (li _ _ (.inl fm))));rw[e'];rcases m8 _ _ _ e' with q |⟨q,_⟩
   .exfalso;have m:=Xj e';have Rj:∀(names:List (Str×NameKind)) (k:Nat) (acc:List (Str×Addr)),(x,NameKind.cell)∉names->(cellsFrom k names acc).lookup x=acc.lookup x:=by
     intro names;induction names with
     |nil=>intro _ _ _;rfl
     |cons y r ih =>
      intro k acc nm;obtain⟨n,kd⟩:=y;unfold cellsFrom;by_cases hk:(kd == NameKind.cell)=true
      .rw[if_pos hk,ih _ _ (λz=>nm (Zq _ z)),X9];have:(x == n)=false:=by
        simp only[beq_eq_false_iff_ne];intro e;subst e;have:kd=.cell:=by simpa using hk
        subst this;exact nm Zm
       rw[this]
      .rw[if_neg hk,ih _ _ (λz=>nm (Zq _ z))]
    rw[Rj _ _ _ Tz] at e';rcases jo _ _ has e' with z |z
    .exact absurd (Yj (zL _ _ z) (Zk (Xs _) q)) (Yq _)
    .cases z
   .rcases jo _ _ has q with z |z
    .rw[ec] at z;rw[z]
    .cases z
 .rcases si x c e with q |⟨q,_⟩
  .exact I.bT.fresh (Zk (Xs _) q)
  .exact I.j5 x c q
 .unfold eF;show _=(own++cap).length;rw[Z5,Z5,Q4,Za,B.len]
end
def gf (g:TG)(tt:TT)(te:TE)(J:It)(acc:Addr)(ao:St)(bN:Hp)(Q:VK):Prop :=
 ∃W:Nat->Nat->St->Hp->Prop,(∃m,W 0 m ao (aF bN acc (.lst [])))/\∀i m aH H',W i m aH H' ->
  (J.stop i H'/\Q (.ref acc) H') \/
  (J.go i H'/\∃N:St->Hp->Prop,(∀c3 H2,N c3 H2->∃m',m'<m/\W (i+1) m' c3 H2)/\∀x H2,J.vj i H' x H2->g x aH H2 λiD H3=>tt iD H3 λb H4 =>
   if b=true then te iD H4 λy H5=>∃ys,H5 acc=some (.lst ys)/\ys.length<sizeLine/\N iD (aF H5 acc (.lst (ys++[y]))) else N iD H4)
def Cf (wi:TI)(g:TG)(tt:TT)(te:TE)(own:Nat)(ix:List Nat):TE:=λσ H Q=>wi σ H λJ H1=>∀acc,H1 acc=none->gf g tt te J acc (eF own ix σ) H1 Q
section
variable {X:Cx}{scope:Scope}{own cap:Δ2}{ix:List Nat}{tg iter d9:Expr}{gx:Ξ2}{wi:TI}{g:TG}{tt:TT}{te:TE}{pos:Pos}
def qE {aa:Γ2}{σ:St}{H2:Hp}{s2:Shared}{it:Addr}{fp:List Addr}{tn:Nat->Heap->Prop}{J:It}{Q:VK}{RR:Value->Addr->Result->Shared->Prop}{E:Θ2}
  (B:aG X scope own cap ix) (hc:X.calm=true)
  (hb:∀C fp s H,PG (d6 X scope C (own++cap) fp s H) tg g/\fk (d6 X scope C (own++cap) fp s H) gx tt/\PE (d6 X scope C (own++cap) fp s H) d9 te)
  (I2:Inv X aa σ H2 s2) (T:Turn X.prog X.w X.K tg J fp it tn) (gz:tn 0 s2.heap) (f2:∀b∈fp,dS X aa H2 b)
  (q:∀acc,H2 acc=none->gf g tt te J acc (eF own.length ix σ) H2 Q)
  (KW:∀D C H' s' m,Inv X aa σ H' s'->Q (.ref D) H'->s'.heap.Ns C m->dS X aa H' C->RR (.ref D) C (.ok .next) s') :
  wpAny (model X.prog X.w) X.A (newList []) (λacc eh=>wpAny (model X.prog X.w) X.A (newFunctionEnv scope X.env.globals (dZ X.env scope.names []) [] X.env.qual none .none (some X.env)) (λnH g9 =>
   codeAny (model X.prog X.w) X.A (.compStart (.ListComp d9 [⟨tg,iter,gx,0⟩] scope pos) 0 (.ref it) acc { nH with scope:=relabel scope X.env }) (RR acc nH.locals) g9) E eh) E s2:=by
 refine wpAny_newObj_type (fY ?_);have I3:Inv X aa σ (aF H2 s2.heap.objs.size (.lst [])) { s2 with heap:=s2.heap.push { cls:=.type "list",dict:=none,data:=.seq ([]:Δ3).toArray } }:=I2.LU (its:=[]) (ys:=[]) (t':=s2.toks) .nil (Z9 _);obtain⟨W,⟨m0,w0⟩,fj⟩:=q s2.heap.objs.size I2.fresh;generalize hD:s2.heap.objs.size=D at I3 w0 fj ⊢;have cT:∀b∈fp,b<D:=λb br=>by
  obtain⟨o,e,_⟩:=T.obj 0 _ gz b br;rw[<- hD];exact Zp e
 generalize Kx:({ s2 with heap:=s2.heap.push { cls:=.type "list",dict:=none,data:=.seq ([]:Δ3).toArray } }:Shared)=s3 at I3 ⊢;have iZ:∀b o,s2.heap.get? b=some o->s3.heap.get? b=some o:=λb o e=>by rw[<- Kx];exact Zi _ e
 have f3:∀b∈fp,dS X aa (aF H2 D (.lst [])) b:=λb br=>⟨by rw[dj (Yb (cT b br))];exact(f2 b br).1,(f2 b br).2⟩
 have o3:∀b∈fp,∃o,s3.heap.get? b=some o:=λb br=>let ⟨o,e,_⟩:=T.obj 0 _ gz b br;⟨o,iZ b o e⟩
 have I4:=I3.block B f3 o3;have BJ:tn 0 (pushCells (s3.heap.push { cls:=.type "dict",data:=.dict #[] }) scope.names):=T.keep 0 _ _ gz λb _ o e=>pushCells_keeps _ _ b o (Zi _ (iZ b o e))
 obtain⟨hg,BY,he⟩:=hb s3.heap.objs.size fp s3 (aF H2 D (.lst []));generalize gY:d6 X scope s3.heap.objs.size (own++cap) fp s3 (aF H2 D (.lst []))=X' at I4 hg BY he;have eP:X'.prog=X.prog:=by rw[<- gY];rfl
 have eW:X'.w=X.w:=by rw[<- gY];rfl
 have eK:X'.K=X.K:=by rw[<- gY];rfl
 have eA:X'.A=X.A:=by rw[<- gY];rfl
 have eE:X'.env=iJ scope s3.heap.objs.size X.env:=by rw[<- gY];rfl
 have ex:X'.xe=λ_ _=>False:=by rw[<- gY];rfl
 have mq:X'.calm=true:=by rw[<- gY];exact hc
 have hV:∀{H':Hp},(∀b∈fp,H' b=none)->∀b∈fp,dS X' [] H' b:=λhn b br=>by
  subst gY;exact⟨hn b br,(I4.ok.E9 b br).1,I4.ok.tL b br,.inl br,(I4.ok.E9 b br).2,λp hp=>absurd (show p∈([]:Γ2) from hp) (by simp)⟩
 have loop:∀s4:Shared,s4={ s3 with heap:=pushCells (s3.heap.push { cls:=.type "dict",data:=.dict #[] }) scope.names } ->
   codeAny (model X.prog X.w) X.A (.compLoop (.ListComp d9 [⟨tg,iter,gx,0⟩] scope pos) 0 (.ref it) (.ref D) (iJ scope s3.heap.objs.size X.env)) (RR (.ref D) s3.heap.objs.size) s4:=by
  rintro s4 rfl;refine Bm (λn s'=>∃i aH H',Inv X' [] aH H' s'/\tn i s'.heap/\(∀b∈fp,H' b=none)/\W i n aH H') ?_ m0 ⟨0,_,_,I4,BJ,λb br=>(f3 b br).1,w0⟩;rintro n s5 ⟨i,nj,H5,I5,vn,zW,w5⟩;rcases fj i n nj H5 w5 with ⟨stop,qn⟩ |⟨go,N,hN,step⟩
  .have:=T.done X' eP eW eK mq i [] s5 nj H5 (λ_ _=>False) I5 (hV zW) vn stop;rw[eA] at this;refine bB this λr s6 ⟨hr,I6⟩=>?_
   subst hr;subst gY;have J6:Inv X aa σ H5 s6:=I3.yq (ch:=fp) I6.os I6.base I6.bT I6.bare λb br=>⟨(f3 b br).2.2.2.1,(f3 b br).2.1,(f3 b br).2.2.2.2.1,(f3 b br).2.2.2.2.2⟩
   obtain⟨m,hn,_⟩:=I6.loc;exact KW D _ H5 s6 m J6 qn hn (I3.jR (Ze _) I6.free)
  .have:=T.item X' eP eW eK mq i [] s5 nj H5 (λ_ _=>False) I5 (hV zW) vn go;rw[eA] at this;refine bB this λr s6 ⟨u,hr,h6⟩=>?_
   subst hr;refine bB h6 λ_ s7 ⟨x,H7,I7,r7,y7,vm,KZ⟩=>?_
   have Lh:=I7.pinned (hV KZ) (T.obj _ _ vm);have a1:=hg _ s7 nj H7 x u _ Lh r7 (step x H7 y7);rw[eP,eW,eA,eE,ex] at a1;refine bB a1 λ_ s8 ⟨vi,H8,I8,q8⟩=>?_
   have a2:=BY _ s8 vi H8 _ I8 q8;rw[eP,eW,eA,eE,ex] at a2;refine bB a2 λb s9 ⟨H9,I9,q9⟩=>?_
   have again:∀{s':Shared}{aH:St}{H':Hp},Inv X' ([]++d0 fp s7.heap) aH H' s'->N aH H'->∃m,m<n/\∃i aH H',Inv X' [] aH H' s'/\tn i s'.heap/\(∀b∈fp,H' b=none)/\W i m aH H':=λ{s' aH H'} I' n'=>by
    obtain⟨m',hm,w'⟩:=hN aH H' n';refine⟨m',hm,i+1,aH,H',I'.dH,T.keep _ _ _ vm λb br o e=>(I'.pin (b,o) (Z1 _ (Z1 _ (BB br e)))).1,λb br=>?_,w'⟩;obtain⟨o,e,d⟩:=T.obj _ _ vm b br;exact(I'.pin (b,o) (Z1 _ (Z1 _ (BB br e)))).2.1
   cases b with
   |false=>exact again I9 q9
   |true =>
    rw[if_pos rfl] at q9 ⊢;have a3:=he _ s9 vi H9 _ I9 q9;rw[eP,eW,eA,eE,ex] at a3;refine bB a3 λyv OB ⟨y,Po,Rq,II,ys,P8,hz,PH⟩=>?_
    have a4:=lU (X:=X') _ OB vi Po (.ref D) [y] (.ref D) [yv] (λv H'=>v=.bZ/\N vi H') Rq rfl (.cons II .nil) ⟨D,ys,y,rfl,rfl,P8,hz,rfl,PH⟩;rw[eP,eW,eA,ex] at a4;refine bB a4 λ_ Pz ⟨_,UV,Li,_,_,PF⟩=>again Li PF
 exact codeAny_compStart_list (loop _ rfl) (T.self X.A 0 _ _ _ BJ (loop _ rfl))
def sW (B:aG X scope own cap ix)(hc:X.calm=true)(hi:PI X tg iter wi)
  (hb:∀C fp s H,PG (d6 X scope C (own++cap) fp s H) tg g/\fk (d6 X scope C (own++cap) fp s H) gx tt/\PE (d6 X scope C (own++cap) fp s H) d9 te)
  (hs:∀x,foldedSetIterable iter X.env x=pure x:=by intro _;rfl):PE X (.ListComp d9 [⟨tg,iter,gx,0⟩] scope pos) (Cf wi g tt te own.length ix):=by
 intro aa s σ H Q I h;rw[eval_ListComp];have has:∀x∈scope.names,x.2=.free->(X.env.cells.lookup x.1).isSome=true:=λx hx hk=>by
  obtain⟨c,e⟩:=I.ok.has x.1 (B.frees x hx hk);rw[e];rfl
 refine wpAny_comprehension_free (use:=none) rfl hs (P1 has) B.kind B.names ?_;show wpAny _ _ (eval iter X.env) _ _ s;refine bB (hi aa s σ H _ I h) λv s1 h1=>bB h1 λIM s2 h2=>?_
 obtain⟨it,fp,tn,J,H2,e,I2,T,gz,f2,q⟩:=h2;subst e;refine qE (RR:=λacc C=>compPost (model X.prog X.w) X.A X.xe none (EP X aa σ Q) acc C) B hc hb I2 T gz f2 q ?_;intro D C H' s' m I' q' hn fC;refine⟨m,hn,λh' vG=>⟨.ref D,H',?_,rfl,q'⟩⟩;exact I'.turned (t':=s'.toks) (it:=C) (λb o Fy e=>(vG.2 b Fy).trans e) fC.1 fC.2.1 fC.2.2.2.1 fC.2.2.2.2.1 fC.2.2.2.2.2
def yO {i:Nat}{y:Str}{py B4:Pos}(hN:X.N.Nodup)(V1:X.N[i]?=some y)(hx:X.env.scope.names.lookup y=some .local)(B:aG X scope own cap ix)(hc:X.calm=true)(hi:PI X tg iter wi)
  (hb:∀C fp s H,PG (d6 X scope C (own++cap) fp s H) tg g/\fk (d6 X scope C (own++cap) fp s H) gx tt/\PE (d6 X scope C (own++cap) fp s H) d9 te)
  (QC:swapsWith (.ListComp d9 [⟨tg,iter,gx,0⟩] scope pos) (some (.Name y py)) B4.line X.env=pure true:=by rfl)
  (hs:∀x,foldedSetIterable iter X.env x=pure x:=by intro _;rfl):PS X (.Assign [.Name y py] (.ListComp d9 [⟨tg,iter,gx,0⟩] scope pos) B4) (FK (Cf wi g tt te own.length ix) (eV i)):=by
 intro aa s σ H D I h;rw[exec_Assign_Name_used _ _ _ _ QC];have has:∀x∈scope.names,x.2=.free->(X.env.cells.lookup x.1).isSome=true:=λx hx hk=>by
  obtain⟨c,e⟩:=I.ok.has x.1 (B.frees x hx hk);rw[e];rfl
 refine Zb (wpAny_standAt (Zb ?_));show wpAny _ X.A (do let _ <- comprehension (.ListComp d9 [⟨tg,iter,gx,0⟩] scope pos) scope X.env _ (newList []) false (eval iter X.env) (some (assign (.Name y py) X.env))) _ _ s;refine Zb (wpAny_mono (wpAny_comprehension_free (use:=some (assign (.Name y py) X.env)) (Q:=λ_ s'=>SP X aa D .next s') rfl hs (P1 has) B.kind B.names ?_) (λ_ s' hq=>wpAny_pure (wpAny_pure hq)) λ_ _ e=>e);refine bB (hi aa s σ H _ I h) λv s1 h1=>bB h1 λIM s2 h2=>?_
 obtain⟨it,fp,tn,J,H2,e,I2,T,gz,f2,q⟩:=h2;subst e;refine qE (RR:=λacc C=>compPost (model X.prog X.w) X.A X.xe (some (assign (.Name y py) X.env)) (λ_ s'=>SP X aa D .next s') acc C) B hc hb I2 T gz f2 q ?_;intro Da C H' s' m I' q' hn fC;show wpAny _ X.A (assign (.Name y py) X.env (.ref Da)) _ _ s';obtain⟨oC,es,ep,hoC,hdC,r⟩:=id hn;have Ip:Inv X (aa++[(C,oC)]) σ H' s':=I'.rS λp hp=>by
  rcases Zt.mp hp with z |z
  .exact I'.pin p (Z1 _ z)
  .obtain rfl:p=(C,oC):=by simpa using z
   exact⟨hoC,fC.1,fC.2.1,fC.2.2.1,λv e=>by rw[hdC] at e;cases e⟩
 refine wpAny_assign_Name (ji Ip hN V1 (.inl hx) (v:=.ref Da) rfl (λPC I''=>?_) (.inr hx));have pC:=(I''.pin (C,oC) (Z1 _ (Z1 _ (by simp)))).1;refine⟨m,⟨oC,es,ep,pC,hdC,r⟩,λh' vG=>⟨_,H',?_,q'⟩⟩;exact I''.dH.turned (t':=PC.toks) (it:=C) (λb o Fy e=>(vG.2 b Fy).trans e) fC.1 fC.2.1 fC.2.2.2.1 fC.2.2.2.2.1 fC.2.2.2.2.2
end
def tv:V->Bool
 |.bl b=>b
 |.int i=>i != 0
 |_=>false
def gk:V->Bool
 |.bl _=>true
 |.int _=>true
 |.bZ=>true
 |_=>false
def ln {prog:Program}{w:World}{A:Around}{E:Θ2}{s:Shared}{x:V}{v:Value}{Q:Bool->Shared->Prop}(r:RelV x v)(p:gk x=true)(h:Q (tv x) s):wpAny (model prog w) A (truthy v) Q E s:=by
 cases x with
 |bZ=>cases r;exact truthy_none h
 |bl b=>cases r;exact wpAny_truthy_bool h
 |int i=>obtain⟨t,rfl⟩:=r;exact PySem.P.truthy_int h
 |_=>cases p
def all_range {xs:List V}{n:Nat}(hn:n=xs.length)(f:V->Bool):(List.range n).all (λi=>(xs[i]?.map f).getD true)=xs.all f:=by
 subst hn;rw[Ya];simp only[Yc,Zy];constructor
 .intro h x hx;obtain⟨i,hi,e⟩:=Qn.mp hx;have:=h i hi;rw[Zc hi,e] at this;simpa using this
 .intro h i hi;rw[Zc hi];simpa using h _ (Zg hi)
def any_range {xs:List V}{n:Nat}(hn:n=xs.length)(f:V->Bool):(List.range n).any (λi=>(xs[i]?.map f).getD false)=xs.any f:=by
 subst hn;rw[Ya];simp only[Zv,Zy];constructor
 .rintro⟨i,hi,h⟩;rw[Zc hi] at h;exact⟨_,Zg hi,by simpa using h⟩
 .rintro⟨x,hx,h⟩;obtain⟨i,hi,e⟩:=Qn.mp hx;exact⟨i,hi,by rw[Zc hi,e];simpa using h⟩
section
variable {X:Cx}
def jk {aa:Γ2}{σ:St}{H:Hp}{s:Shared}{p:Addr}{xs:List V}{A:Around}{E:Θ2}{Q:Θ2}(I:Inv X aa σ H s)(hA:A.handled=none)(h:bi X.K H p xs\/aM X.K H p xs)
  (k:∀(it:Addr) (fp wr:List Addr) (its:Δ3) (St:Nat->Heap->Prop) (s2:Shared),be xs its->Walks X.prog X.w A it fp wr its.length (λi v=>its[i]?=some v) St->St 0 s2.heap->(∀b∈fp,b<s2.heap.objs.size) ->
   (∀h' tk,(∀b o,b∉wr->s2.heap.get? b=some o->h'.get? b=some o)->Inv X aa σ H { s2 with heap:=h',toks:=tk })->Q (.ref it) s2) :
  wpAny (model X.prog X.w) A (pyIter (.ref p)) Q E s:=by
 rcases h with h |h
 .obtain⟨its,rv,pl,hz⟩:=I.list h;have hp:p<s.heap.objs.size:=by obtain⟨o,n,e,_⟩:=pl;exact Zp e
  refine wpAny_pyIter_list pl.isList ?_;have W:=Walks.list (prog:=X.prog) (w:=X.w) (A:=A) hA s.heap.objs.size p (Yb hp) its.toArray;refine k s.heap.objs.size [s.heap.objs.size,p] [s.heap.objs.size] its (λi h=>h.IsListIter s.heap.objs.size p i/\h.IsList p its.toArray) _ rv (by simpa using W) ⟨⟨_,Zw _ rfl,rfl,rfl⟩,pl.isList.push _⟩ (λb hb=>?_) (λh' tk hk=>?_)
  .show b<(s.heap.push _).objs.size;rw[Y8];rcases Zl.mp hb with rfl |hb
   .exact Q6 _
   .rcases Zl.mp hb with rfl |hb
    .exact Qm hp
    .cases hb
  .exact I.kept (t':=tk) λb o e=>hk b o (λz=>Yq _ (by have:=Zp e;simp at z;rw[z] at this;exact this)) (Zi _ e)
 .obtain⟨its,rv,pl,hz⟩:=I.tuple h;have hp:p<s.heap.objs.size:=by obtain⟨o,e,_⟩:=pl;exact Zp e
  have pt:s.heap.IsTuple p its.toArray:=pl;refine wpAny_pyIter_tuple pt ?_;have W:=Walks.tuple (prog:=X.prog) (w:=X.w) (A:=A) hA s.heap.objs.size p (Yb hp) its.toArray;refine k s.heap.objs.size [s.heap.objs.size,p] [s.heap.objs.size] its (λi h=>h.IsTupleIter s.heap.objs.size p i/\h.IsTuple p its.toArray) _ rv (by simpa using W) ⟨⟨_,Zw _ rfl,rfl,rfl⟩,?_⟩ (λb hb=>?_) (λh' tk hk=>?_)
  .obtain⟨o,e,r⟩:=pt;exact⟨o,Zi _ e,r⟩
  .show b<(s.heap.push _).objs.size;rw[Y8];rcases Zl.mp hb with rfl |hb
   .exact Q6 _
   .rcases Zl.mp hb with rfl |hb
    .exact Qm hp
    .cases hb
  .exact I.kept (t':=tk) λb o e=>hk b o (λz=>Yq _ (by have:=Zp e;simp at z;rw[z] at this;exact this)) (Zi _ e)
def be.at {xs:List V}{us:Δ3}{i:Nat}{v:Value}(r:be xs us)(e:us[i]?=some v):∃x,xs[i]?=some x/\RelV x v:=by
 have hi:i<us.length:=(Zf.mp e).1;have hx:i<xs.length:=by rw[r.length];exact hi
 obtain⟨u,h1,h2⟩:=r.get (Zc hx);rw[e] at h1;cases h1;exact⟨_,Zc hx,h2⟩
def EJ (hc:X.calm=true):ck X (.builtin "all") (λxs H Q=>∃p ys,xs=[.ref p]/\(bi X.K H p ys\/aM X.K H p ys)/\ys.all gk=true/\Q (.bl (ys.all tv)) H):=by
 intro aa s σ H xs us Q I r h;obtain⟨p,ys,rfl,hs,hp,q⟩:=h;obtain⟨u,rfl,ru⟩:=vals1 r;cases ru;refine call_all_walk (jk I (A:=X.A.in1) (I.ok.hd hc) hs λit fp wr its St s2 rv W st Fu hk=>?_);refine⟨it,fp,wr,its.length,_,St,(λi=>(ys[i]?.map tv).getD true),rfl,W,st,λi v s' Q' E' hv hq=>?_,λh' tk kk=>⟨.bl (ys.all tv),H,hk h' tk kk,?_,q⟩⟩
 .obtain⟨x,ex,rx⟩:=rv.at hv;simp only[ex,Y0,Xm] at hq;exact ln rx (Yc.mp hp x (Zu ex)) hq
 .rw[all_range rv.length.symm];rfl
def EI (hc:X.calm=true):ck X (.builtin "any") (λxs H Q=>∃p ys,xs=[.ref p]/\(bi X.K H p ys\/aM X.K H p ys)/\ys.all gk=true/\Q (.bl (ys.any tv)) H):=by
 intro aa s σ H xs us Q I r h;obtain⟨p,ys,rfl,hs,hp,q⟩:=h;obtain⟨u,rfl,ru⟩:=vals1 r;cases ru;refine call_any_walk (jk I (A:=X.A.in1) (I.ok.hd hc) hs λit fp wr its St s2 rv W st Fu hk=>?_);refine⟨it,fp,wr,its.length,_,St,(λi=>(ys[i]?.map tv).getD false),rfl,W,st,λi v s' Q' E' hv hq=>?_,λh' tk kk=>⟨.bl (ys.any tv),H,hk h' tk kk,?_,q⟩⟩
 .obtain⟨x,ex,rx⟩:=rv.at hv;simp only[ex,Y0,Xm] at hq;exact ln rx (Yc.mp hp x (Zu ex)) hq
 .rw[any_range rv.length.symm];rfl
theorem ma (ns:Γ3):∀k,k<=ns.length->preSum (λi=>(ns[i]?).getD 0) k=(ns.take k).sum
 |0,_=>by simp[preSum]
 |k+1,h=>by
  have hk:k<ns.length:=h;rw[preSum,ma ns k (Nat.le_of_lt hk),Zc hk];have e:ns.take (k+1)=ns.take k++[ns[k]]:=by rw[List.take_add_one,Zc hk];rfl
  rw[e,List.sum_append];simp
def EH (hc:X.calm=true):ck X (.builtin "sum") (λxs H Q=>∃(p:Addr) (ns:Γ3),xs=[.ref p]/\(bi X.K H p (ns.map V.int)\/aM X.K H p (ns.map V.int))/\Q (.int ns.sum) H):=by
 intro aa s σ H xs us Q I r h;obtain⟨p,ns,rfl,hs,q⟩:=h;obtain⟨u,rfl,ru⟩:=vals1 r;cases ru;refine call_sum_walkG (jk I (A:=X.A.in1) (I.ok.hd hc) hs λit fp wr its St s2 rv W st Fu hk=>?_);refine⟨it,fp,wr,its.length,_,St,(λi=>(ns[i]?).getD 0),rfl,W,st,Fu,λi v hv=>?_,λh' tk t' kk=>⟨.int ns.sum,H,hk h' tk kk,⟨t',?_⟩,q⟩⟩
 .obtain⟨x,ex,rx⟩:=rv.at hv;rw[Zh] at ex;cases e:ns[i]? with
  |none=>rw[e] at ex;cases ex
  |some n =>
   rw[e] at ex;cases ex;simp only[e,Xm];exact rx
 .have hl:its.length=ns.length:=by rw[<- rv.length,Za]
  rw[hl,ma ns _ (Ze _),Yd]
def Bq (hc:X.calm=true):ck X (.builtin "max") (λxs H Q=>∃(p:Addr) (ns:Γ3),xs=[.ref p]/\(bi X.K H p (ns.map V.int)\/aM X.K H p (ns.map V.int))/\ns≠[]/\∀m,m∈ns->(∀n∈ns,n<=m)->Q (.int m) H):=by
 intro aa s σ H xs us Q I r h;obtain⟨p,ns,rfl,hs,bJ,q⟩:=h;obtain⟨u,rfl,ru⟩:=vals1 r;cases ru;refine call_max_walk (jk I (A:=X.A.in1) (I.ok.hd hc) hs λit fp wr its St s2 rv W st Fu hk=>?_);have hl:its.length=ns.length:=by rw[<- rv.length,Za]
 have dQ:0<ns.length:=Xn.mpr bJ;have val:∀(i:Nat) (v:Value),its[i]?=some v->∃t,v=Value.int ((ns[i]?).getD 0) t:=λi v hv=>by
  obtain⟨x,ex,rx⟩:=rv.at hv;rw[Zh] at ex;cases e:ns[i]? with
  |none=>rw[e] at ex;cases ex
  |some n =>
   rw[e] at ex;cases ex;exact rx
 refine⟨it,fp,wr,its.length,_,St,(λi j=>decide ((ns[i]?).getD 0>(ns[j]?).getD 0)),rfl,W,st,Fu,by omega,CmpOf.ints_gt (λi=>(ns[i]?).getD 0) val,λv h' tk hP kk=>?_⟩;obtain⟨t,rfl⟩:=val _ _ hP;obtain⟨h1,h2⟩:=argBest_gt (λi=>(ns[i]?).getD 0) (its.length-1);have cT:argBest (λi j=>decide ((ns[i]?).getD 0>(ns[j]?).getD 0)) (its.length-1)<ns.length:=by
  omega
 refine⟨.int _,H,hk h' tk kk,⟨t,rfl⟩,q _ ?_ λn hn=>?_⟩
 .rw[Zc cT];exact Zg cT
 .obtain⟨i,hi,e⟩:=Qn.mp hn;have:=h2 i (by omega);simp only[Zc hi,Xm] at this;rw[<- e];exact this
end
def Rv (K:Θ1)(c:Value)(te:TE):TE:=λσ H Q=>te σ H λx H1=>∃t b,jU K H1 x t/\PySem.W.kitOne K t c=some b/\Q (.bl b) H1
section
variable {X:Cx}{e:Expr}{te:TE}
def YQ {a b:Expr}{ta:TE}{pos:Pos}{aa:Γ2}{s:Shared}{σ:St}{H:Hp}{Q:Δ3->Shared->Prop}(ha:PE X a ta)(I:Inv X aa σ H s){R:V->Hp->Prop}(h:ta σ H R)
  (hs:starEach [a,b] X.env=[(false,eval a X.env),(false,eval b X.env)]) (k:∀u s1 x H1,Inv X aa σ H1 s1->RelV x u->R x H1->wpAny (model X.prog X.w) X.A (eval b X.env) (λv s2=>Q [u,v] s2) X.xe s1) :
  wpAny (model X.prog X.w) X.A (spliced (backTo pos (starEach [a,b] X.env))) Q X.xe s:=by
 rw[hs];refine Calls.spliced_cons (bB (ha aa s σ H _ I h) λu s1 ⟨x,H1,I1,r,q⟩=>?_);exact Calls.spliced_cons (bB (k u s1 x H1 I1 r q) λv s2 h2=>Calls.spliced_nil h2)
def Hj {T:Str}{n:String}{p p2 pos:Pos}(he:PE X e te)(hg:Gl X "isinstance")(hm:X.mg "isinstance"=none)(V5:Gl X T)(VY:X.mg T=none)(hv:bootBuiltins T=some (.type n))
  (hb:bootBuiltins "isinstance"=some (.builtin "isinstance")) (VW:T ≠ "__name__":=by decide) (Wa:(T == ("__debug__" : Str))=false:=by decide)
  (hs:starEach [e,.Name T p2] X.env=[(false,eval e X.env),(false,eval (.Name T p2) X.env)]:=by rfl)
  (kA:(backTo pos (starEach [.Name T p2] X.env)).any (·.1)=false:=by rfl):PE X (.Call (.Name "isinstance" p) [e,.Name T p2] [] pos) (Rv X.K (.type n) te):=by
 intro aa s σ H Q I h;refine Call_ (ij I hg hm hb (PyProof.Rows.callWith_builtin1 (YQ (Q:=λus s1=>wpAny (model X.prog X.w) X.A (call (.builtin "isinstance") us) (EP X aa σ Q) X.xe s1) he I h hs λu s1 x H1 I1 r q=>?_) ?_ kA))
 .refine ij I1 V5 VY hv ?_ VW Wa;obtain⟨t,b,ty,ek,q⟩:=q;exact A8 I1 r ty ek λtk=>⟨.bl b,H1,I1.tok tk,rfl,q⟩
 .rw[hs];rfl
end
mutual
inductive mM (K:Θ1) (H:Hp):V->PyData->Prop
 |bZ:mM K H .bZ .none
 |bl (b:Bool):mM K H (.bl b) (.bool b)
 |int (i:Int):mM K H (.int i) (.int i)
 |str (x:Str) (ok:(PyData.str x).canLay0=true):mM K H (.str x) (.str x)
 |lst {a:Addr}{xs:List V}{ds:Ξ1}:bi K H a xs->fo K H xs ds->mM K H (.ref a) (.list ds)
 |tup {a:Addr}{xs:List V}{ds:Ξ1}:aM K H a xs->fo K H xs ds->mM K H (.ref a) (.tuple ds)
inductive fo (K:Θ1) (H:Hp):List V->Ξ1->Prop
 |nil:fo K H [] []
 |cons {x:V}{xs:List V}{d:PyData}{ds:Ξ1}:mM K H x d->fo K H xs ds->fo K H (x::xs) (d::ds)
end
section
variable {X:Cx}{aa:Γ2}{σ:St}{H:Hp}{s:Shared}
mutual
theorem mM.reads (I:Inv X aa σ H s):∀{x:V}{d:PyData}{u:Value},mM X.K H x d->RelV x u->∃as,Reads s.heap u d as
 |_,_,_,.bZ,r=>by cases r;exact⟨_,.none⟩
 |_,_,_,.bl b,r=>by cases r;exact⟨_,.bool b⟩
 |_,_,_,.int i,r=>by obtain⟨t,rfl⟩:=r;exact⟨_,.int i t⟩
 |_,_,_,.str x _,r=>by obtain⟨t,rfl⟩:=r;exact⟨_,.str x t⟩
 |_,_,_,.lst hq h,r=>by
  cases r
  obtain⟨its,rv,⟨o,n,e,c,_,d⟩,_⟩:=I.list hq;obtain⟨as,ra⟩:=fo.reads I h rv;exact⟨_,.list e c d (by simpa using ra)⟩
 |_,_,_,.tup hq h,r=>by
  cases r
  obtain⟨its,rv,⟨o,e,c,n,d⟩,_⟩:=I.tuple hq;obtain⟨as,ra⟩:=fo.reads I h rv;exact⟨_,.tuple e c d (by simpa using ra)⟩
theorem fo.reads (I:Inv X aa σ H s):∀{xs:List V}{ds:Ξ1}{us:Δ3},fo X.K H xs ds->be xs us->∃as,ReadsAll s.heap us ds as
 |_,_,_,.nil,r=>by cases r;exact⟨_,.nil⟩
 |_,_,_,.cons h t,r=>by
  cases r with
  |cons r1 r2 =>
   obtain⟨as,ra⟩:=mM.reads I h r1;obtain⟨bs,rb⟩:=fo.reads I t r2;exact⟨_,.cons ra rb⟩
end
mutual
theorem mM.lay {K:Θ1}:∀{x:V}{d:PyData},mM K H x d->d.canLay0=true
 |_,_,.bZ=>rfl
 |_,_,.bl b=>rfl
 |_,_,.int i=>rfl
 |_,_,.str x ok=>ok
 |_,_,.lst hq h=>by have:=fo.lay h;simpa[PyData.canLay0] using this
 |_,_,.tup hq h=>by have:=fo.lay h;simpa[PyData.canLay0] using this
theorem fo.lay {K:Θ1}:∀{xs:List V}{ds:Ξ1},fo K H xs ds->PyData.canLayAll0 ds=true
 |_,_,.nil=>rfl
 |_,_,.cons h t=>by have h1:=mM.lay h;have h2:=fo.lay t;simp[PyData.canLayAll0,h1,h2]
end
end
section
variable {X:Cx}
def FS (K:Θ1):R2:=λx y H Q=>∃dx dy,mM K H x dx/\mM K H y dy/\min dx.depth dy.depth<=60/\Q (.bl (PyData.eqv dx dy)) H
def FR (K:Θ1):R2:=λx y H Q=>∃dx dy,mM K H x dx/\mM K H y dy/\min dx.depth dy.depth<=60/\Q (.bl (!PyData.eqv dx dy)) H
def Nw (hu:X.A.units+64<cLine):eY X (compareOp .Eq) (FS X.K):=by
 intro aa s σ H x y v u Q I rx ry h;obtain⟨dx,dy,hx,hy,hd,q⟩:=h;obtain⟨as,ra⟩:=hx.reads I rx;obtain⟨bs,rb⟩:=hy.reads I ry;exact SeqAt.eqOverData X.prog X.w X.A X.xe s v u dx dy as bs _ ra rb hx.lay hy.lay (by omega) ⟨.bl (PyData.eqv dx dy),H,I,rfl,q⟩
def Nv (hu:X.A.units+64<cLine):eY X (compareOp .NotEq) (FR X.K):=by
 intro aa s σ H x y v u Q I rx ry h;obtain⟨dx,dy,hx,hy,hd,q⟩:=h;obtain⟨as,ra⟩:=hx.reads I rx;obtain⟨bs,rb⟩:=hy.reads I ry;exact SeqAt.neOverData X.prog X.w X.A X.xe s v u dx dy as bs _ ra rb hx.lay hy.lay (by omega) ⟨.bl (!PyData.eqv dx dy),H,I,rfl,q⟩
end
end L2
namespace PySem
open AutoSeq1 (wpAny_loadPart')
def VC {prog:Program}{w:World}{A:Around}{E:Θ2}{s:Shared}{it l:Addr}{i:Nat}{items}{x:Value}{Q:Θ2}(QI:s.heap.IsTupleIter it l i)
  (hl:s.heap.IsTuple l items) (hx:items[i]?=some x)
  (hQ:∀h',h'.IsTupleIter it l (i+1)->Heap.SameBut it s.heap h'->Q x { s with heap:=h' }) :
  wpAny (model prog w) A (Builtin.SmallTypes.nextOf (.ref it)) Q E s:=by
 obtain⟨o,ho,hc,hd⟩:=id QI;obtain⟨ol,VU,_,nl,V9⟩:=hl;have Fn:s.TypeIs (.ref it) "tuple_iterator":=⟨o,ho,hc⟩;unfold Builtin.SmallTypes.nextOf;refine Zb (wpAny_callSpecial?_slot (name:=Str.ofString "__next__") Fn PyProof.Rows.slot_tupleiter_next
  (wpAny_call_entry PyProof.Rows.slot_tupleiter_next Fn PyProof.Rows.entry_tupleiter_next ?_ (PyProof.Rows.args_tupleiter_next _)))
 show wpAny _ _ (field (.ref it) 0 >>= _) _ _ s;refine Zb (wpAny_field ho hd (x:=.ref l) rfl ?_);show wpAny _ _ (if (Value.ref l == Value.none)=true then _ else _) _ _ s;rw[if_neg (show ¬ ((Value.ref l == Value.none)=true) from Z6)];show wpAny _ _ (field (.ref it) 1 >>= _) _ _ s;refine Zb (wpAny_field ho hd (x:=.int i 0) rfl ?_);show wpAny _ _ (seqItems? (.ref l) >>= _) _ _ s;refine Zb (wpAny_seqItems VU V9 ?_);simp only[Zo,hx];refine Zb (wpAny_setField ho hd (by simp) (wpAny_pure ⟨x,rfl,wpAny_pure (hQ _ ?_ (Heap.SameBut.update ..))⟩));exact⟨_,Xv _ ho (Obj.isFreed_of_fields (Obj.data_mapFields hd _)),(Obj.cls_mapFields ..).trans hc,by
  rw[Obj.data_mapFields hd];simp[rawInt]⟩
def VB {prog:Program}{w:World}{A:Around}{E:Θ2}{s:Shared}{it l:Addr}{i:Nat}{items}{Q:Θ2}(hh:A.handled=none)
  (QI:s.heap.IsTupleIter it l i) (hl:s.heap.IsTuple l items) (hx:items[i]?=none)
  (hE:∀h' e,Heap.ExtBut it s.heap h'->(∃o,h'.get? e=some o/\o.cls=.type "StopIteration")->E (.ref e) { s with heap:=h' }) :
  wpAny (model prog w) A (Builtin.SmallTypes.nextOf (.ref it)) Q E s:=by
 obtain⟨o,ho,hc,hd⟩:=id QI;obtain⟨ol,VU,_,nl,V9⟩:=hl;have Fn:s.TypeIs (.ref it) "tuple_iterator":=⟨o,ho,hc⟩;unfold Builtin.SmallTypes.nextOf;refine Zb (wpAny_callSpecial?_slot (name:=Str.ofString "__next__") Fn PyProof.Rows.slot_tupleiter_next
  (wpAny_call_entry PyProof.Rows.slot_tupleiter_next Fn PyProof.Rows.entry_tupleiter_next ?_ (PyProof.Rows.args_tupleiter_next _)))
 show wpAny _ _ (field (.ref it) 0 >>= _) _ _ s;refine Zb (wpAny_field ho hd (x:=.ref l) rfl ?_);show wpAny _ _ (if (Value.ref l == Value.none)=true then _ else _) _ _ s;rw[if_neg (show ¬ ((Value.ref l == Value.none)=true) from Z6)];show wpAny _ _ (field (.ref it) 1 >>= _) _ _ s;refine Zb (wpAny_field ho hd (x:=.int i 0) rfl ?_);show wpAny _ _ (seqItems? (.ref l) >>= _) _ _ s;refine Zb (wpAny_seqItems VU V9 ?_);simp only[Zo,hx];refine Zb (wpAny_rule (Zb (wpAny_setField ho hd (by simp) ?_)));show wpAny _ _ (newExc (.type "StopIteration") [] >>= _) _ _ _;refine Zb ?_;simp only[newExc,newTuple];refine Zb (wpAny_newObj_type ?_ (by size_fits));refine Zb (m:=firstArgMember _ _) (wpAny_of_eq (a:=Value.none) (by first |rfl |(simp only[firstArgMember];rfl)) ?_);refine wpAny_newObj_type ?_ (by size_fits);simp only[raiseNew];refine Zb (wpAny_handled ?_)
 first |rw[show A.in1.handled=none from hh] |rw[hh]
 refine Zb (wpAny_pure (wpAny_throw ?_));exact hE _ _ (((Heap.SameBut.update ..).extBut.push _).push _) ⟨_,Zw _ rfl,rfl⟩
def Draws.tup {prog:Program}{w:World}{A:Around}(hh:A.handled=none)(it l:Addr)(bJ:l≠it)(items:Array Value) :
  Draws prog w A it [it,l] items.size (λi v=>items[i]?=some v) (λi h=>h.IsTupleIter it l i/\h.IsTuple l items) where
 live:=λ_ _ st=>let ⟨o,ho,_⟩:=st.1;⟨o,ho⟩
 frame:=λ_ _ _ st hk=>⟨let ⟨o,e,r⟩:=st.1;⟨o,hk it (by simp) o e,r⟩,let ⟨o,e,r⟩:=st.2;⟨o,hk l (by simp) o e,r⟩⟩
 item:=λi s Q E hi st hQ=>by
  refine VC st.1 st.2 (x:=items[i]) (by simp[hi]) λh' K' hs'=>?_
  obtain⟨o,e,r⟩:=st.2;exact hQ _ h' s.toks (by simp[hi]) ⟨K',⟨o,hs'.extBut l o bJ e,r⟩⟩ hs'
 done:=λs Q E st hE=>VB hh st.1 st.2 (by simp) hE
set_option maxHeartbeats 1000000 in
def jt (l:Addr)(items:Array Value)(n:Nat)(WF:Option Addr)(sl:Array (Φ1)) :
  Meets (Builtin.«enumerate.__new__» ⟨[.type "enumerate",.ref l],[]⟩) (λ_ R s=>s.heap.get? l=some { cls:=.type "tuple",dict:=WF,data:=.seq items n,slots:=sl } /\
   R (.ok (.ret (.ref (s.heap.push { cls:=.type "tuple_iterator",data:=.fields #[.ref l,.int 0 0] }).objs.size)))
    { s with heap:=(s.heap.push { cls:=.type "tuple_iterator",data:=.fields #[.ref l,.int 0 0] }).push { cls:=.type "enumerate",data:=.fields #[.none,.bool false,.ref s.heap.objs.size,rawInt 0,.none,.none] } }) :=
 .of_wp λprog w A R s h=>by
  obtain⟨hp,g,d,tk,os⟩:=s;obtain⟨hl,h⟩:=h;have ZV:=sub_enumerate;have hL:Heap.IsTuple (Shared.heap ⟨hp,g,d,tk,os⟩) l items:=⟨_,hl,rfl,n,rfl⟩
  wp_walk using wpAny_loadPart' hl
  refine wpAny_stack_any λst=>wpAny_pure ?_
  split
  .rename_i c _ _ _ _ _;cases (c == Value.type "enumerate")
   .wp_walk using wpAny_loadPart' hl,wpAny_pyIter_tuple hL
    exact⟨_,rfl,h⟩
   .wp_walk using wpAny_loadPart' hl,wpAny_pyIter_tuple hL
    exact⟨_,rfl,h⟩
  .wp_walk using wpAny_loadPart' hl,wpAny_pyIter_tuple hL
   exact⟨_,rfl,h⟩
def kw {prog:Program}{w:World}{A:Around}{E:Θ2}{s:Shared}{l:Addr}{items:Array Value}{Q:Θ2}(hL:s.heap.IsTuple l items)
  (h:∀h',IsEnum h' (s.heap.objs.size+1) s.heap.objs.size 0 .none->h'.IsTupleIter s.heap.objs.size l 0->h'.objs.size=s.heap.objs.size+2 ->
   (∀b o,s.heap.get? b=some o->h'.get? b=some o)->Q (.ref (s.heap.objs.size+1)) { s with heap:=h' }) :
  wpAny (model prog w) A (call (.type "enumerate") [.ref l]) Q E s:=by
 obtain⟨⟨c,WF,dt,sl⟩,hl,hc,n,hd⟩:=hL
 replace hc:c=.type "tuple":=hc
 replace hd:dt=.seq items n:=hd
 subst hc hd;refine callType_new F.called_enumerate (by decide) (F.typeCall_enumerate_1 _) (F.newCall_enumerate_1 _) (λobj=>F.args_object_init_2 obj _) F.entry_enumerate_new
  (jt l items n WF sl) ⟨hl,?_⟩
 have hz:(s.heap.push { cls:=.type "tuple_iterator",data:=.fields #[.ref l,.int 0 0] }).objs.size=s.heap.objs.size+1:=Y8 ..;show _/\_;rw[hz];have he:IsEnum ((s.heap.push { cls:=.type "tuple_iterator",data:=.fields #[.ref l,.int 0 0] }).push
   { cls:=.type "enumerate",data:=.fields #[.none,.bool false,.ref s.heap.objs.size,rawInt 0,.none,.none] }) (s.heap.objs.size+1) s.heap.objs.size 0 .none:=by
  have:=Zw (s.heap.push { cls:=.type "tuple_iterator",data:=.fields #[.ref l,.int 0 0] })
   (o:={ cls:=.type "enumerate",data:=.fields #[.none,.bool false,.ref s.heap.objs.size,rawInt 0,.none,.none] }) rfl
  rw[hz] at this;exact this
 refine⟨⟨_,he,rfl⟩,h _ he ⟨_,Zi _ (Zw _ rfl),rfl,rfl⟩ (by rw[Y8,hz]) λb o x=>Zi _ (Zi _ x)⟩
end PySem
namespace PySem
end PySem
namespace PySem
open AutoSeq1 (wpAny_loadPart')
end PySem
namespace L2
open PySem PySem.Spec PyProof.Rows
section
variable {X:Cx}
def Jk (K:Θ1)(a:Addr):It :=
 ⟨λi H=>∃xs x,aM K H a xs/\xs[i]?=some x,λi H x H'=>∃p,H p=none/\x=.ref p/\∀xs,aM K H a xs->∃y,xs[i]?=some y/\H'=aF H p (.tup [.int i,y]),λi H=>∃xs,aM K H a xs/\xs.length<=i⟩
def Inv.mP {aa:Γ2}{σ:St}{H:Hp}{s:Shared}{h':Heap}{t':Nat}{ch:List Addr}(I:Inv X aa σ H s)(k:∀b o,b∉ch->s.heap.get? b=some o->h'.get? b=some o)(hf:∀b∈ch,dS X aa H b) :
  Inv X aa σ H { s with heap:=h',toks:=t' }:=by
 have PM:∀b u,H b=some u->b∉ch:=λb u e z=>by rw[(hf b z).1] at e;cases e
 refine I.step (g':=s.gens) (d':=s.drawn) (ch:=ch) (λb hb=>⟨(hf b hb).2.2.2.1,(hf b hb).2.1,(hf b hb).2.2.2.2.1,(hf b hb).2.2.2.2.2⟩) (λb o _ _ hc e _=>k b o hc e) (λb o _ _ hc e _=>⟨o.slots,k b o hc e⟩) (λ_ _ _ _ n=>n)
  (λb o hc e=>⟨o,k b o hc e⟩) (λ_ _ e=>e) (λ_ _ _ e=>e) (λb ps e=>⟨#[],by rw[e];simp⟩) (λm hm=>?_) (λb u e=>?_) I.bare
 .obtain⟨o,es,ep,ho,r⟩:=hm;exact⟨o,es,ep,k _ o (λz=>(hf _ z).2.1 rfl) ho,r⟩
 .refine(I.bT b u e).aA (λc v hc q=>k c v ?_ q) (λ_ q=>q) λ_ _ q=>q
  rcases hc with z |z
  .rw[z];exact PM b u e
  .exact PM c _ z
def Inv.Jm {aa:Γ2}{σ:St}{H:Hp}{s:Shared}{p:Addr}{o:HO}(I:Inv X aa σ H s)(f:dS X aa H p)(new:bY X.prog X.w (aF H p o) s.heap p o):Inv X aa σ (aF H p o) s:=by
 have ne:∀b u,H b=some u->b≠p:=λb u e z=>by rw[z,f.1] at e;cases e
 have:=I.step (g':=s.gens) (d':=s.drawn) (t':=s.toks) (h':=s.heap) (H':=aF H p o) (ch:=[p]) (λb hb=>by
   obtain rfl:b=p:=by simpa using hb
   exact⟨f.2.2.2.1,f.2.1,f.2.2.2.2.1,f.2.2.2.2.2⟩) (λb o _ _ _ e _=>e) (λb o _ _ _ e _=>⟨o.slots,e⟩)
  (λb o hc _ n=>by rw[dj (λz=>hc (by simp[z]))];exact n) (λb o _ e=>⟨o,e⟩) (λb xs e=>by rw[dj (ne b _ e)];exact e) (λb o u e=>by rw[dj (ne b _ e)];exact e)
  (λb ps e=>⟨#[],by rw[dj (ne b _ e),e];simp⟩) (λm hm=>hm) (λb u e=>by
   by_cases hb:b=p
   .subst hb;rw[cx] at e;cases e;exact new
   .rw[dj hb] at e;exact(I.bT b u e).aA (λc v _ q=>q) (λc q=>by rw[dj (ne c _ q)];exact q) λc xs q=>by rw[dj (ne c _ q)];exact q) I.bare
 exact this
def Az {P:Program}{w:World}{K:Θ1}{nG:Ξ2}{kk}{pos:Pos}(a e it:Addr)(V8:e≠it):Turn P w K (.Tuple nG kk pos) (Jk K a) [e,it] e (λi h=>(∃zL,IsEnum h e it (i:Nat) zL)/\h.IsTupleIter it a i) where
 mem:=by simp
 obj:=λi h st b hb=>by
  obtain⟨⟨zL,he⟩,o,e1,c,d⟩:=st;rcases Zl.mp hb with rfl |hb
  .exact⟨_,he,λv z=>by cases z⟩
  .obtain rfl:b=it:=by simpa using hb
   exact⟨o,e1,λv z=>by rw[d] at z;cases z⟩
 keep:=λi h h' st k=>by
  obtain⟨⟨zL,he⟩,o,e1,c,d⟩:=st;exact⟨⟨zL,k e (by simp) _ he⟩,o,k it (by simp) _ e1,c,d⟩
 item:=by
  intro X hP hw hK hc i aa s σ H E I hf st hg;subst hP hw hK;obtain⟨xs,x,hq,hx⟩:=hg;obtain⟨its,rv,p,hz⟩:=I.tuple hq;obtain⟨u,hu,ru⟩:=rv.get hx;obtain⟨⟨zL,he⟩,gz⟩:=st;have pt:s.heap.IsTuple a its.toArray:=p;have hae:e≠a:=λz=>by
   obtain⟨o,e1,c,_⟩:=pt;rw[<- z,he] at e1;cases e1;exact absurd (show Value.type "enumerate"=Value.type "tuple" from c) (by decide)
  have hai:a≠it:=λz=>by
   obtain⟨o,e1,c,_⟩:=pt;obtain⟨o',e2,c',_⟩:=id gz;rw[z,e2] at e1;cases e1;rw[c] at c';exact absurd c' (by decide)
  have cT:i<its.toArray.size:=by simpa using(Zf.mp hu).1
  have D:=Draws.tup (prog:=X.prog) (w:=X.w) (A:=X.A.in1) (I.ok.hd hc) it a hai its.toArray;refine wpAny_pyNext_enum_itemD D he ⟨gz,pt⟩ cT V8 (by simp[V8,hae]) λy h' tk hP IV sQ ht hsz hk=>?_
  have hy:y=u:=by
   have hP:its.toArray[i]?=some y:=hP;rw[List.getElem?_toArray,hu] at hP;exact(Option.some.inj hP).symm
  subst hy;refine⟨_,rfl,?_⟩;refine wpAny_letOwnedTupleGo_enum IV λh2 he2 ve=>?_
  replace ve:Heap.SameBut e h' h2:=ve
  have bJ:s.heap.objs.size≠e:=Xq (Zp he);have I1:Inv X aa σ H { s with heap:=h2,toks:=tk+1 }:=I.mP (ch:=[e,it]) (λb o hb q=>by
   have b1:b≠e:=λz=>hb (by simp[z])
   have b2:b≠it:=λz=>hb (by simp[z])
   exact ve.extBut b o b1 (hk b o b1 b2 q)) hf
  have QB:=ve.extBut _ _ bJ ht;have fp:dS X aa H s.heap.objs.size:=I.jR (Ze _) I.fresh;have I2:=I1.Jm (p:=s.heap.objs.size) (o:=.tup [.int i,x]) fp ⟨by show 2<=sizeLine;decide,[.int i tk,y],.cons ⟨tk,rfl⟩ (.cons ru .nil),⟨_,QB,rfl,_,rfl⟩⟩;refine⟨.ref s.heap.objs.size,_,I2,rfl,⟨_,I.fresh,rfl,λys hy=>by rw[I.jD hy hq];exact⟨x,hx,rfl⟩⟩,⟨⟨_,he2⟩,?_⟩,λb hb=>?_⟩
  .obtain⟨⟨o,e1,c,d⟩,_⟩:=sQ;exact⟨o,ve.extBut _ _ (Ne.symm V8) e1,c,d⟩
  .rw[dj]
   .exact(hf b hb).1
   .rcases Zl.mp hb with rfl |hb
    .exact bJ.symm
    .obtain rfl:b=it:=by simpa using hb
     obtain⟨o,e1,_⟩:=gz;exact Yb (Zp e1)
 done:=by
  intro X hP hw hK hc i aa s σ H E I hf st hg;subst hP hw hK;obtain⟨xs,hq,hx⟩:=hg;obtain⟨its,rv,p,hz⟩:=I.tuple hq;obtain⟨⟨zL,he⟩,gz⟩:=st;have pt:s.heap.IsTuple a its.toArray:=p;have hai:a≠it:=λz=>by
   obtain⟨o,e1,c,_⟩:=pt;obtain⟨o',e2,c',_⟩:=id gz;rw[z,e2] at e1;cases e1;rw[c] at c';exact absurd c' (by decide)
  have hl:=rv.length;have hT:s.TypeIs (.ref e) "enumerate":=⟨_,he,rfl⟩;unfold pyNext;refine Zb (wpAny_attempt (wpAny_callSpecial?_slot (name:=Str.ofString "__next__") hT F.slot_enumerate_next
   (wpAny_call_entry F.slot_enumerate_next hT F.entry_enumerate_next ?_ (F.args_enumerate_next_1 _))))
  show wpAny _ _ (field (.ref e) 2 >>= _) _ _ _;refine Zb (wpAny_field he rfl (x:=.ref it) rfl ?_);refine Zb (VB (A:=X.A.in1) (I.ok.hd hc) gz pt (by simp;omega) λh' ex he' xF=>?_);obtain⟨o,ho,mq⟩:=xF;refine Zb (wpAny_isInstance (T:="StopIteration") (b:=true) ⟨o,ho,mq⟩ isSubtype_stop ?_);exact wpAny_pure ⟨rfl,I.mP (t':=s.toks) (ch:=[it]) (λb o hb q=>he' b o (λz=>hb (by simp[z])) q) (λb hb=>hf b (Zq _ hb))⟩
 self:=λA i s Q E st h=>by
  obtain⟨⟨zL,he⟩,_⟩:=st;exact wpAny_pyIter_enum he h
def TN (K:Θ1)(ta:TA):TI:=λσ H R=>ta σ H λvs H1=>∃a,vs=[.ref a]/\(∃xs,aM K H1 a xs)/\R (Jk K a) H1
end
def Cn (ao:St)(acc:Addr)(P:List V->Hp->Prop)(σ:St)(H:Hp):Prop:=(∀v,σ.set 0 v=ao.set 0 v)/\∃ys,H acc=some (.lst ys)/\P ys H
def Cn.of {ao:St}{acc:Addr}{P:List V->Hp->Prop}{w:Option V}{H:Hp}{ys:List V}(h:H acc=some (.lst ys))(p:P ys H):Cn ao acc P (ao.set 0 w) H:=⟨λv=>by rw[List.set_set],ys,h,p⟩
def Kg (outer:List (Str×NameKind))(N:Δ2)(scope:Scope)(cap:Δ2)(ix:List Nat):Bool :=
 (scope.kind == .function)&&(scope.names.all λx=>x.2 != .local||scope.names.lookup x.1 == some .local)&&decide (scope.names.map (·.1)).Nodup &&
 (scope.names.all λx=>x.2 != .free||outer.lookup x.1 == some .cell||outer.lookup x.1 == some .free)&&(cap.all λx=>decide ((x,NameKind.free)∈scope.names))&&(cap.zip ix).all (λp=>N[p.2]? == some p.1)&&cap.length == ix.length
def aG.of {X:Cx}{scope:Scope}{own cap:Δ2}{ix:List Nat}(outer:List (Str×NameKind))(N:Δ2)(hsc:X.env.scope.names=outer:=by rfl)(hN:X.N=N:=by rfl)(h:Kg outer N scope cap ix=true:=by decide+kernel):aG X scope own cap ix:=by
 unfold Kg at h;simp only[Z0,Yc,beq_iff_eq,decide_eq_true_eq,Qo,bne_iff_ne,ne_eq] at h;obtain⟨⟨⟨⟨⟨⟨h1,h2⟩,h3⟩,h4⟩,h5⟩,h6⟩,h7⟩:=h;refine⟨h1,λx hx hl=>?_,h3,λx hx hl=>?_,λj x e=>h5 x (Zu e),λj x e=>?_,h7⟩
 .rcases h2 x hx with z |z
  .exact absurd hl z
  .exact z
 .show X.env.scope.names.lookup x.1=_\/X.env.scope.names.lookup x.1=_;rw[hsc];rcases h4 x hx with (z |z) |z
  .exact absurd hl z
  .exact .inl z
  .exact .inr z
 .have hj:j<cap.length:=(Zf.mp e).1;have sZ:j<ix.length:=by omega
  refine⟨ix[j],Zc sZ,?_⟩;rw[hN];have hz:(cap.zip ix)[j]?=some (x,ix[j]):=by
   rw[List.getElem?_zip_eq_some];exact⟨e,Zc sZ⟩
  exact h6 _ (Zu hz)
section
variable {K:Θ1}{lo:Int}{n:Nat}{tt:TT}{te:TE}{acc a:Addr}{xs:List V}{ao:St}{bN:Hp}{Q:VK}
def ku (Pv:Nat->List V->Hp->Prop)(h0:Pv 0 [] (aF bN acc (.lst [])))
  (hs:∀(i:Nat) ys H,i<n->H acc=some (.lst ys)->Pv i ys H->tt (ao.set 0 (some (.int (lo+i)))) H λb H4 =>
   if b=true then te (ao.set 0 (some (.int (lo+i)))) H4 λy H5=>∃zs,H5 acc=some (.lst zs)/\zs.length<sizeLine/\Cn ao acc (Pv (i+1)) (ao.set 0 (some (.int (lo+i)))) (aF H5 acc (.lst (zs++[y]))) else Cn ao acc (Pv (i+1)) (ao.set 0 (some (.int (lo+i)))) H4)
  (hd:∀ys H,H acc=some (.lst ys)->Pv n ys H->Q (.ref acc) H):gf (eV 0) tt te (Pn lo n) acc ao bN Q:=by
 refine⟨λi m σ H=>m=n-i/\i<=n/\Cn ao acc (Pv i) σ H,⟨n,by simp,Z9 _,λ_=>rfl,[],cx,h0⟩,?_⟩;rintro i m σ H ⟨rfl,hi,qV,ys,hy,p⟩;by_cases cT:i<n
 .refine .inr ⟨cT,Cn ao acc (Pv (i+1)),λaH H' c=>⟨n-(i+1),by omega,rfl,cT,c⟩,λx H' y=>?_⟩;obtain⟨e,y⟩:=y;subst e y;show tt (σ.set 0 _) _ _;rw[qV];exact hs i ys _ cT hy p
 .have e:i=n:=by omega
  subst e;exact .inl ⟨Ze _,hd ys H hy p⟩
def qB (Pv:Nat->List V->Hp->Prop)(h0:Pv 0 [] (aF bN acc (.lst [])))(hl:∀(i:Nat) ys H,i<=xs.length->H acc=some (.lst ys)->Pv i ys H->bi K H a xs)
  (hs:∀(i:Nat) x ys H,xs[i]?=some x->H acc=some (.lst ys)->Pv i ys H->tt (ao.set 0 (some x)) H λb H4 =>
   if b=true then te (ao.set 0 (some x)) H4 λy H5=>∃zs,H5 acc=some (.lst zs)/\zs.length<sizeLine/\Cn ao acc (Pv (i+1)) (ao.set 0 (some x)) (aF H5 acc (.lst (zs++[y]))) else Cn ao acc (Pv (i+1)) (ao.set 0 (some x)) H4)
  (hd:∀ys H,H acc=some (.lst ys)->Pv xs.length ys H->Q (.ref acc) H):gf (eV 0) tt te (xJ K a) acc ao bN Q:=by
 refine⟨λi m σ H=>m=xs.length-i/\i<=xs.length/\Cn ao acc (Pv i) σ H,⟨xs.length,by simp,Z9 _,λ_=>rfl,[],cx,h0⟩,?_⟩;rintro i m σ H ⟨rfl,hi,qV,ys,hy,p⟩;have q:=hl i ys H hi hy p;by_cases cT:i<xs.length
 .refine .inr ⟨⟨xs,xs[i],q,by simp[cT]⟩,Cn ao acc (Pv (i+1)),λaH H' c=>⟨xs.length-(i+1),by omega,rfl,cT,c⟩,λx H' y=>?_⟩;obtain⟨e,y⟩:=y;subst e;show tt (σ.set 0 _) _ _;rw[qV];exact hs i x ys _ (y xs q) hy p
 .have e:i=xs.length:=by omega
  subst e;exact .inl ⟨⟨xs,q,Ze _⟩,hd ys H hy p⟩
def jn (Pv:Nat->List V->Hp->Prop)(h0:Pv 0 [] (aF bN acc (.lst [])))(hl:∀(i:Nat) ys H,i<=xs.length->H acc=some (.lst ys)->Pv i ys H->aM K H a xs)
  (hs:∀(i:Nat) x ys H,xs[i]?=some x->H acc=some (.lst ys)->Pv i ys H->tt (ao.set 0 (some x)) H λb H4 =>
   if b=true then te (ao.set 0 (some x)) H4 λy H5=>∃zs,H5 acc=some (.lst zs)/\zs.length<sizeLine/\Cn ao acc (Pv (i+1)) (ao.set 0 (some x)) (aF H5 acc (.lst (zs++[y]))) else Cn ao acc (Pv (i+1)) (ao.set 0 (some x)) H4)
  (hd:∀ys H,H acc=some (.lst ys)->Pv xs.length ys H->Q (.ref acc) H):gf (eV 0) tt te (Ag K a) acc ao bN Q:=by
 refine⟨λi m σ H=>m=xs.length-i/\i<=xs.length/\Cn ao acc (Pv i) σ H,⟨xs.length,by simp,Z9 _,λ_=>rfl,[],cx,h0⟩,?_⟩;rintro i m σ H ⟨rfl,hi,qV,ys,hy,p⟩;have q:=hl i ys H hi hy p;by_cases cT:i<xs.length
 .refine .inr ⟨⟨xs,xs[i],q,by simp[cT]⟩,Cn ao acc (Pv (i+1)),λaH H' c=>⟨xs.length-(i+1),by omega,rfl,cT,c⟩,λx H' y=>?_⟩;obtain⟨e,y⟩:=y;subst e;show tt (σ.set 0 _) _ _;rw[qV];exact hs i x ys _ (y xs q) hy p
 .have e:i=xs.length:=by omega
  subst e;exact .inl ⟨⟨xs,q,Ze _⟩,hd ys H hy p⟩
end
section
variable {X:Cx}{tg l:Expr}{tl:TE}
def ι (K:Θ1)(h:X.K=K:=by rfl):ck X (.builtin "len") (λxs H Q=>∃p ys,xs=[.ref p]/\(bi K H p ys\/aM K H p ys)/\Q (.int ys.length) H):=by subst h;exact iC
end
end L2
namespace KG
open PySem L2
def pe:bootBuiltins "tuple"=some (.type "tuple"):=by first |rfl |kernel_rfl |decide+kernel
def boot_int:bootBuiltins "int"=some (.type "int"):=by first |rfl |kernel_rfl |decide+kernel
def boot_abs:bootBuiltins "abs"=some (.builtin "abs"):=by first |rfl |kernel_rfl |decide+kernel
def boot_max:bootBuiltins "max"=some (.builtin "max"):=by first |rfl |kernel_rfl |decide+kernel
def boot_min:bootBuiltins "min"=some (.builtin "min"):=by first |rfl |kernel_rfl |decide+kernel
def boot_any:bootBuiltins "any"=some (.builtin "any"):=by first |rfl |kernel_rfl |decide+kernel
def boot_sum:bootBuiltins "sum"=some (.builtin "sum"):=by first |rfl |kernel_rfl |decide+kernel
def P0:bootBuiltins "enumerate"=some (.type "enumerate"):=by first |rfl |kernel_rfl |decide+kernel
def Uo:bootBuiltins "isinstance"=some (.builtin "isinstance"):=by first |rfl |kernel_rfl |decide+kernel
def boot_bool:bootBuiltins "bool"=some (.type "bool"):=by first |rfl |kernel_rfl |decide+kernel
def jX (H:Hp)(b:Addr):Prop:=∃c d:Int,H b=some (.lst [.int c,.int d])
def Kp (b:Addr)(H H':Hp):Prop:=∀a o,a≠b->H a=some o->H' a=some o
def Kp.refl (b:Addr)(H:Hp):Kp b H H:=λ_ _ _ h=>h
def Kp.trans {b:Addr}{H H1 H2:Hp}(x:Kp b H H1)(y:Kp b H1 H2):Kp b H H2:=λa o n h=>y a o n (x a o n h)
def Kp.bag {b:Addr}{H H':Hp}{o:HO}(x:Kp b H H'):Kp b H (aF H' b o):=λa u n h=>by rw[dj n];exact x a u n h
def Kp.new {b p:Addr}{H H':Hp}{o:HO}(x:Kp b H H')(hp:H' p=none):Kp b H (aF H' p o):=λa u n h=>by rw[dj (BC (x a u n h) hp)];exact x a u n h
def Kp.acc {b p:Addr}{H H':Hp}{o:HO}(x:Kp b H H')(hp:H p=none):Kp b H (aF H' p o):=λa u n h=>by rw[dj (BC h hp)];exact x a u n h
def Kp.free {b p:Addr}{H H':Hp}(x:Kp b H H')(hb:jX H b)(hp:H' p=none)(l5:jX H' b):H p=none:=by
 cases q:H p with
 |none=>rfl
 |some o =>
  by_cases e:p=b
  .subst e;obtain⟨c,d,h⟩:=l5;rw[h] at hp;cases hp
  .rw[x p o e q] at hp;cases hp
def jX.new {b p:Addr}{H:Hp}{o:HO}(h:jX H b)(hp:H p=none):jX (aF H p o) b:=by
 obtain⟨c,d,e⟩:=h;exact⟨c,d,by rw[dj (BC e hp)];exact e⟩
def jX.ne {b p:Addr}{H:Hp}(h:jX H b)(hp:H p=none):b≠p:=by
 obtain⟨c,d,e⟩:=h;exact BC e hp
def ke:Sp:=λvs H Q _=>∃(b:Addr) (m:Int),vs=[.ref b,.int m]/\jX H b/\0<m/\m<1073741824/\∀(r:Int) (H':Hp),0<=r->r<m->jX H' b->Kp b H H'->Q (.int r) H'
def Ci (K:Θ1):Sp:=λvs H Q _=>∃(a:Addr) (ns:Γ3) (k:Int),vs=[.ref a,.int k]/\bi K H a (ns.map V.int)/\0<=k/\k<100/\∀(p:Addr) (c d:Int),H p=none->Q (.ref p) (aF H p (.lst [.int c,.int d]))
structure bM (K:Θ1)(mg:Θ3)(P:Program)(w:World)(base:Heap)(x:Str)(k:Nat)(ps:Δ2)(sp:Sp)(f:Addr)(fd:FuncData):Prop where
 ok:aO P w K mg base cQ k f fd ps sp
 mg:mg x=some (.ref f)
 kp:PySem.W.keepIn K (.ref f)=true
 bd:Binds K fd ps []
def sz:sizeLine=16777216:=PySem.sizeLine_eq
def iG {σ:St}{H:Hp}{A B:Hp->Prop}(h:A H):Lq σ H (λb H4=>if b=true then A H4 else B H4):=cM (B:=B H) h
def JM {r:Int}(h0:0<=r)(h1:r<2):∃m:Int,iF [V.int 3,V.int 6] r=some (.int m)/\0<m/\m<=6:=by
 have:r=0\/r=1:=by omega
 rcases this with rfl |rfl
 .exact⟨3,rfl,by decide,by decide⟩
 .exact⟨6,rfl,by decide,by decide⟩
def oI {ns:Γ3}{r:Int}(h0:0<=r)(h1:r<ns.length):iF (ns.map V.int) r=some (V.int (ns.getD r.toNat 0))/\BS (ns.map V.int).length r=some r.toNat/\ns.getD r.toNat 0∈ns:=by
 have hl:r.toNat<ns.length:=by omega
 have e:(ns.map V.int)[r.toNat]?=some (V.int (ns.getD r.toNat 0)):=by
  rw[Zh,Zc hl];simp[List.getD,Zc hl]
 refine⟨?_,?_,?_⟩
 .have:=m9 e;rw[Xa h0] at this;exact this
 .unfold BS;rw[if_pos h0,if_pos (by rw[Za];exact h1)]
 .simp[List.getD,Zc hl]
def Tm (H H':Hp):Prop:=∀a xs,H a=some (.tup xs)->H' a=some (.tup xs)
def Kp.tm {b:Addr}{H H':Hp}(x:Kp b H H')(hb:jX H b):Tm H H':=λa xs h=>x a _ (λz=>by obtain⟨c,d,e⟩:=hb;rw[z,e] at h;cases h) h
def Tm.lst {p:Addr}{H:Hp}{xs:List V}{o:HO}(h:H p=some (.lst xs)):Tm H (aF H p o):=λa ys e=>by
 rw[dj (λz=>by rw[z,h] at e;cases e)];exact e
def Tm.new {p:Addr}{H:Hp}{o:HO}(h:H p=none):Tm H (aF H p o):=λa ys e=>by rw[dj (BC e h)];exact e
def Tm.trans {H H1 H2:Hp}(a:Tm H H1)(b:Tm H1 H2):Tm H H2:=λx xs h=>b x xs (a x xs h)
def jX.acc {b p:Addr}{H:Hp}{o:HO}(h:jX H b)(hp:b≠p):jX (aF H p o) b:=by
 obtain⟨c,d,e⟩:=h;exact⟨c,d,by rw[dj hp];exact e⟩
def oH {te:TE}{ao:St}{acc b:Addr}{H1:Hp}{n:Nat}{Q:VK}(kB:jX H1 b)(bI:H1 acc=none)(hn:n<=100)(R:Hp->V->Prop)(hR:∀H H' v,Tm H H'->R H v->R H' v)
  (ht:∀(i:Nat) H',i<n->jX H' b->Kp b H1 H'->∀(Z:V->Hp->Prop),(∀y H5,jX H5 b->Kp b H' H5->R H5 y->Z y H5)->te (ao.set 0 (some (.int (0+i)))) H' Z)
  (hd:∀ys H',jX H' b->Kp b H1 H'->ys.length=n->(∀y∈ys,R H' y)->H' acc=some (.lst ys)->Q (.ref acc) H'):gf (eV 0) Lq te (Pn 0 n) acc ao H1 Q:=by
 have vZ:=kB.ne bI;refine ku (λi ys H'=>jX H' b/\Kp b H1 H'/\ys.length=i/\∀y∈ys,R H' y) ⟨kB.new bI,(Kp.refl b H1).new bI,rfl,λy hy=>nomatch hy⟩ ?_ ?_
 .rintro i ys H' hi hy ⟨l5,BM,hl,hr⟩;refine iG ?_;refine ht i H' hi l5 BM _ λy H5 KP By r5=>?_
  have EY:=By acc _ vZ.symm hy;refine⟨ys,EY,by rw[hl,sz];omega,Cn.of cx ⟨KP.acc vZ,(BM.trans By).acc bI,by rw[Z5,hl];rfl,λz hz=>?_⟩⟩;have tm:=Tm.lst (o:=.lst (ys++[y])) EY;rcases Zt.mp hz with q |q
  .exact hR _ _ z tm (hR _ _ z (By.tm l5) (hr z q))
  .obtain rfl:z=y:=by simpa using q
   exact hR _ _ z tm r5
 .rintro ys H' hy ⟨l5,BM,hl,hr⟩;exact hd ys H' l5 BM hl hr hy
def tu (H:Hp)(ws:List V)(M:Γ1):Prop:=Paired (λv ns=>∃a,v=V.ref a/\H a=some (.tup (List.map V.int ns))) ws M
def tu.keep {H H':Hp}{ws:List V}{M:Γ1}(h:tu H ws M)(t:Tm H H'):tu H' ws M:=Paired.FZ h λv ns ⟨a,e,q⟩=>⟨a,e,t a _ q⟩
def tu.len {H:Hp}{ws:List V}{M:Γ1}(h:tu H ws M):ws.length=M.length:=Paired.length h
theorem tu.at:∀{H:Hp}{ws:List V}{M:Γ1}{i:Nat}{x:V},tu H ws M->ws[i]?=some x->∃ns a,M[i]?=some ns/\x=V.ref a/\H a=some (.tup (List.map V.int ns))
 |_,_,_,_,_,.nil,e=>by simp at e
 |_,_,_,0,_,.cons ⟨a,h1,h2⟩ _,e=>by simp at e;subst e;exact⟨_,a,rfl,h1,h2⟩
 |_,_,_,i+1,_,.cons _ t,e=>by
  obtain⟨ns,a,h1,h2,h3⟩:=tu.at (i:=i) t (by simpa using e);exact⟨ns,a,by simpa using h1,h2,h3⟩
def az (H H':Hp):Prop:=∀a o,H a=some o->H' a=some o
def az.refl (H:Hp):az H H:=λ_ _ h=>h
def az.trans {H H1 H2:Hp}(a:az H H1)(b:az H1 H2):az H H2:=λx o h=>b x o (a x o h)
def az.new {H H':Hp}{p:Addr}{o:HO}(a:az H H')(hp:H' p=none):az H (aF H' p o):=λx u h=>by rw[dj (BC (a x u h) hp)];exact a x u h
def az.acc {H H':Hp}{p:Addr}{o:HO}(a:az H H')(hp:H p=none):az H (aF H' p o):=λx u h=>by rw[dj (BC h hp)];exact a x u h
def az.tm {H H':Hp}(a:az H H'):Tm H H':=λx xs h=>a x _ h
def has (M:Γ1)(j:Nat):Bool:=M.any λr=>decide (0<r.getD j 0)
def vB (g:Nat)(M:Γ1):List V:=((List.range g).filter (has M)).map λ(j:Nat)=>V.int (0+(j:Int))
def mh (f:Nat->Bool)(n:Nat):(List.range (n+1)).filter f=(List.range n).filter f++if f n=true then [n] else []:=by
 rw[Ys,Xb]
 congr 1
 by_cases h:f n=true
 .simp[h]
 .simp[h]
def uJ (g:Nat)(M:Γ1):(vB g M).length<=g:=by
 unfold vB;rw[Za];exact Zk (Yk _ _) (by simp)
def lm (i:Nat)(M:Γ1):vB (i+1) M=vB i M++if has M i=true then [V.int (0+(i:Int))] else []:=by
 unfold vB;rw[mh,Zr];split<;>simp
def az.free {H0 H:Hp}{p:Addr}(s:az H0 H)(h:H p=none):H0 p=none:=by
 cases q:H0 p with
 |none=>rfl
 |some o=>rw[s p o q] at h;cases h
theorem sf:∀ns:Γ3,PyData.depthAll (ns.map PyData.int)=0
 |[]=>rfl
 |n::ns=>by
  rw[Zs,PyData.depthAll,sf ns];rfl
def xM (K:Θ1):Sp:=λvs H Q _=>∃(a:Addr) (ns:Γ3),vs=[.ref a]/\bi K H a (ns.map V.int)/\ns.length<=63/\∀H',Q (.bl true) H'
def bi.aA {K:Θ1}{H H':Hp}{a:Addr}{xs:List V}(h:bi K H a xs)(s:az H H'):bi K H' a xs:=by
 rcases h with (h |⟨o,h⟩) |h
 .exact .inl (.inl (s _ _ h))
 .exact .inl (.inr ⟨o,s _ _ h⟩)
 .exact .inr h
def boot_list:bootBuiltins "list"=some (.type "list"):=by first |rfl |kernel_rfl |decide+kernel
def boot_all:bootBuiltins "all"=some (.builtin "all"):=by first |rfl |kernel_rfl |decide+kernel
mutual
inductive gZ (b:Addr) (H:Hp):V->PyData->Prop
 |bZ:gZ b H .bZ .none
 |bl (c:Bool):gZ b H (.bl c) (.bool c)
 |int (i:Int):gZ b H (.int i) (.int i)
 |str (x:Str) (ok:(PyData.str x).canLay0=true):gZ b H (.str x) (.str x)
 |lst {a:Addr}{xs:List V}{ds:Ξ1}:a≠b->H a=some (.lst xs)->cC b H xs ds->gZ b H (.ref a) (.list ds)
 |tup {a:Addr}{xs:List V}{ds:Ξ1}:H a=some (.tup xs)->cC b H xs ds->gZ b H (.ref a) (.tuple ds)
inductive cC (b:Addr) (H:Hp):List V->Ξ1->Prop
 |nil:cC b H [] []
 |cons {x:V}{xs:List V}{d:PyData}{ds:Ξ1}:gZ b H x d->cC b H xs ds->cC b H (x::xs) (d::ds)
end
mutual
theorem gZ.aA {b:Addr}{H H':Hp}(k:az H H'):∀{v:V}{d:PyData},gZ b H v d->gZ b H' v d
 |_,_,.bZ=>.bZ
 |_,_,.bl c=>.bl c
 |_,_,.int i=>.int i
 |_,_,.str x ok=>.str x ok
 |_,_,.lst n h t=>.lst n (k _ _ h) (cC.aA k t)
 |_,_,.tup h t=>.tup (k _ _ h) (cC.aA k t)
theorem cC.aA {b:Addr}{H H':Hp}(k:az H H'):∀{vs:List V}{ds:Ξ1},cC b H vs ds->cC b H' vs ds
 |_,_,.nil=>.nil
 |_,_,.cons h t=>.cons (gZ.aA k h) (cC.aA k t)
end
mutual
theorem gZ.dt {K:Θ1}{b:Addr}{H:Hp}:∀{v:V}{d:PyData},gZ b H v d->mM K H v d
 |_,_,.bZ=>.bZ
 |_,_,.bl c=>.bl c
 |_,_,.int i=>.int i
 |_,_,.str x ok=>.str x ok
 |_,_,.lst n h t=>.lst (bi.of h) (cC.dt t)
 |_,_,.tup h t=>.tup (aM.of h) (cC.dt t)
theorem cC.dt {K:Θ1}{b:Addr}{H:Hp}:∀{vs:List V}{ds:Ξ1},cC b H vs ds->fo K H vs ds
 |_,_,.nil=>.nil
 |_,_,.cons h t=>.cons (gZ.dt h) (cC.dt t)
end
theorem cC.len {b:Addr}{H:Hp}:∀{vs:List V}{ds:Ξ1},cC b H vs ds->vs.length=ds.length
 |_,_,.nil=>rfl
 |_,_,.cons _ t=>congrArg (· + 1) (cC.len t)
theorem cC.at {b:Addr}{H:Hp}:∀{vs:List V}{ds:Ξ1}{i:Nat}{x:V},cC b H vs ds->vs[i]?=some x->∃d,ds[i]?=some d/\gZ b H x d
 |_,_,_,_,.nil,e=>by simp at e
 |_,_,0,_,.cons h _,e=>by simp at e;subst e;exact⟨_,rfl,h⟩
 |_,_,i+1,_,.cons _ t,e=>by
  obtain⟨d,h1,h2⟩:=cC.at (i:=i) t (by simpa using e);exact⟨d,by simpa using h1,h2⟩
def kQ:PyData->Bool
 |.int _=>true
 |_=>false
def within (lo hi:Int):PyData->Bool
 |.int i=>decide (lo<=i)&&decide (i<=hi)
 |_=>false
def bV:PyData->Bool
 |.tuple [.int t,.int u]=>decide (1<=u)&&decide (Int.gcd t u=1)
 |_=>false
def vz:PyData->Bool
 |.tuple [.int t,.int u]=>decide (1<=u)&&decide (Int.gcd t u=1)&&decide (1<=t)&&decide (t<=1000000)&&decide (u<=1000000)
 |_=>false
def kH (n:Nat)(lo hi:Int):PyData->Bool
 |.tuple ds=>decide (ds.length=n)&&ds.all (within lo hi)
 |_=>false
def iV:PyData->Bool
 |.tuple [.tuple a,.tuple p,.tuple w]=>decide (1<=a.length)&&decide (a.length<=6)&&a.all (within 1 60)&&(decide (1<=p.length)&&decide (p.length<=6)&&p.all vz)&&(decide (w.length=p.length)&&w.all (kH a.length 0 100))
 |_=>false
end KG
namespace HT
open PySem PySem.Spec PyProof.Rows
section
variable {prog:Program}{w:World}{A:Around}{E:Θ2}{s:Shared}
def lv {t sl:Addr}{items:Array Value}{vl vu:Value}{lo hi:Option Int}{Q:Θ2}(ht:IsTup s.heap t items)(hs:s.heap.IsSliceOf sl vl vu .none)(pl:IsPart vl lo)(pu:IsPart vu hi)
  (hw:cU items.size 0 lo=0/\cU items.size items.size hi=items.size) (h:Q (.ref t) s):wpAny (model prog w) A (getItem (.ref t) (.ref sl)) Q E s:=by
 obtain⟨os,Kz,UA,QM⟩:=id hs;have Wl:s.TypeIs (.ref sl) "slice":=⟨os,Kz,UA⟩;unfold getItem
 try with_reducible refine wpAny_holding ?_
 first |refine Zb (wpAny_pure ?_) |skip
 refine Zb (wpAny_sequenceKey ht.typeIs (by decide) ?_);refine Zb (wpAny_callSpecial?_slot (name:=Str.ofString "__getitem__") ht.typeIs PyProof.Rows.slot_tuple_getitem
  (wpAny_call_entry PyProof.Rows.slot_tuple_getitem ht.typeIs entry_tuple_getitem ?_ (args_tuple_getitem _ _)))
 show wpAny _ _ (Builtin.Tuple.tupleItemsOf (.ref t) >>= _) _ _ s;refine Zb (tupleItemsOf_ ht ?_);refine Zb (wpAny_typeOf Wl ?_);rw[if_pos (by decide)];refine Zb (gX hs pl pu ?_);have ZT:((((cU items.size 0 lo:Nat):Int) == 0&&(1:Int) == 1&&(cU items.size items.size hi-cU items.size 0 lo) == items.size)=true):=by
  rw[hw.1,hw.2];simp
 show wpAny _ _ (if (((cU items.size 0 lo:Nat):Int) == 0&&(1:Int) == 1&&(cU items.size items.size hi-cU items.size 0 lo) == items.size)=true then _ else _) _ _ s;rw[if_pos ZT];have htt:s.TypeIs (.ref t) "tuple":=ht.typeIs;refine Zb (m:=Builtin.Tuple.tupleIsExact (.ref t)) (Zb (wpAny_typeOf htt (wpAny_pure ?_)));rw[if_pos (by decide)]
 first
  |exact wpAny_pure ⟨_,rfl,wpAny_pure h⟩
  |exact Zb (wpAny_pure (wpAny_pure ⟨_,rfl,wpAny_pure h⟩))
  |(wp_walk;exact⟨_,rfl,wpAny_pure h⟩)
  |(wp_walk;exact⟨_,rfl,h⟩)
end
end HT
namespace L2
open PySem PySem.Spec PyProof.Rows
section
variable {X:Cx}
def YY:V->Option Int->Option Int->Hp->VK->Prop:=λx lo hi H Q=>∃a xs,x=.ref a/\H a=some (.tup xs)/\∀p H',KG.az H H'->H' p=some (.tup (fc xs lo hi))->Q (.ref p) H'
def GL:FD X YY:=by
 intro aa s σ H x v vl vu lo hi sl Q I rx hs pl pu h;obtain⟨a,xs,rfl,hx,q⟩:=h;by_cases hw:HT.cU xs.length 0 lo=0/\HT.cU xs.length xs.length hi=xs.length
 .cases rx
  obtain⟨its,r,ht,hz⟩:=I.tuple (aM.of hx);have cu:its.toArray.size=xs.length:=by rw[Z3];exact r.length.symm
  refine⟨"tuple",_,PyProof.Rows.slot_tuple_getitem.lookup,ht.typeIs,?_⟩;refine HT.lv ht hs pl pu (by rw[cu];exact hw) ⟨.ref a,H,I,rfl,q a H (KG.az.refl H) ?_⟩;have e:fc xs lo hi=xs:=by unfold fc;rw[hw.1,hw.2,List.drop_zero,Nat.sub_zero,Yd]
  rw[e];exact hx
 .exact MW aa s σ H _ v vl vu lo hi sl Q I rx hs pl pu ⟨a,xs,rfl,aM.of hx,hw,λp hp=>q p _ ((KG.az.refl H).new hp) cx⟩
def JF:R2:=λx y H Q=>∃a b xs ys,x=.ref a/\y=.ref b/\H a=some (.tup xs)/\H b=some (.tup ys)/\xs.length+ys.length<=sizeLine/\∀p H',KG.az H H'->H' p=some (.tup (xs++ys))->Q (.ref p) H'
def yT:eY X (binaryOp .Add) JF:=by
 intro aa s σ H x y v u Q I rx ry h;obtain⟨a,b,xs,ys,rfl,rfl,ha,hb,hz,q⟩:=h;by_cases hx:xs=[]
 .cases rx
  cases ry
  obtain⟨its,r1,p1,_⟩:=I.tuple (aM.of ha);obtain⟨B8,r2,p2,_⟩:=I.tuple (aM.of hb);obtain⟨⟨cls,dd,data,sl⟩,ho,hc,n,hd⟩:=id p1;obtain⟨⟨δ,UO,data2,cN⟩,KA,E5,n2,Fw⟩:=id p2;simp only at hc hd E5 Fw;subst hc hd E5 Fw;have e0:its=[]:=r1.mW.mpr hx;exact concat_meets ⟨_,ho,rfl⟩ ⟨_,KA,rfl⟩ noFill_tuple_add seq_tuple_add PySem.F.slot_tuple_add PySem.F.entry_tuple_add (PySem.F.args_tuple_add_2 _ _)
   (tuple_addW0 a b its.toArray B8.toArray n n2 dd UO sl cN (by simp[e0])) ⟨ho,KA,⟨.ref b,H,I,rfl,q b H (KG.az.refl H) (by rw[hx];exact hb)⟩⟩
 .refine Hm aa s σ H _ _ v u Q I rx ry ⟨a,b,xs,ys,rfl,rfl,aM.of ha,aM.of hb,hx,hz,λe=>q a H (KG.az.refl H) (by rw[e,Ye];exact ha),λ_ p hp=>q p _ ((KG.az.refl H).new hp) cx⟩
end
end L2
namespace L2
open PySem PySem.Spec PyProof.Rows KG
end L2
namespace EX
open PySem PySem.Spec PyProof.Rows
def L8 (C t:Addr)(hd:Value):Obj:={ cls:=.ref C,data:=.fields #[.ref t,hd,.none,.none,.bool false,.none] }
def Hd (B:Heap)(e:Addr)(h:Heap)(v:Value):Prop:=v=.none\/∃T oT ts,v=.ref T/\B.get? T=none/\T≠e/\h.get? T=some oT/\oT.data=.fields ts/\3<ts.size
structure vh (B:Heap)(l:List Env)(e C t:Addr)(h:Heap):Prop where
 st:B.StaysIn h
 ne:B.get? e=none
 ff:h.FunFrames B l
 ob:∃hd,h.get? e=some (L8 C t hd)/\Hd B e h hd
def vh.tail {B:Heap}{env:Env}{l:List Env}{e C t:Addr}{h:Heap}(a:vh B (env::l) e C t h):vh B l e C t h:=⟨a.st,a.ne,a.ff.2.2,a.ob⟩
section
variable {M:Model}{A:Around}{E:Θ2}{s:Shared}{B:Heap}{env:Env}{outer:List Env}{L e C t:Addr}{Q:Unit->Shared->Prop}
def qM {head:Value}{hn:Bool}(a:vh B (env::outer) e C t s.heap)(oZ:A.frames=some (env::outer))(hf:env.frame=some L)
  (k:∀h',vh B (env::outer) e C t h'->s.heap.UpToSlots h'->Q () { s with heap:=h' }) :
  wpAny M A (do let fr <- frameOf env;let pl <- entryPlaceOf L hn;let x <- EntryCells.newEntry head fr .none (rawInt L) .none pl;setField (.ref e) 1 x) Q E s:=by
 obtain⟨hd,he,_⟩:=a.ob;refine Zb (wpAny_frameOf_fun oZ a.ff hf λg so=>?_);obtain⟨_,so2,so3⟩:=so;have nfr:e∉(env::outer).filterMap (·.frame):=λm=>by
  obtain⟨_,o,ho,nf⟩:=a.ff.mem m;rw[he] at ho;cases ho;exact nf _ rfl
 have ge:g.get? e=some (L8 C t hd):=(so2 e nfr).trans he;have gB:B.StaysIn g:=λb o q=>(so2 b λm=>by rw[(a.ff.mem m).1] at q;cases q).trans (a.st b o q)
 refine Zb (wpAny_entryPlaceOf λpl Uq=>?_);unfold EntryCells.newEntry newFields;refine Zb (wpAny_newObj_type ?_ (Uq.sizeOk5 _ _ _ _ _));generalize hN:({ cls:=.type "traceback",dict:=none,data:=.fields ([head,.ref L,.none,rawInt L,.none]++(if pl.isEmpty then List.replicate 6 Value.none else pl)).toArray }:Obj)=oN;have g2:(g.push oN).get? e=some (L8 C t hd):=Zi _ ge;have gT:(g.push oN).get? g.objs.size=some oN:=Zw g (by rw[<- hN];rfl);have Te:g.objs.size≠e:=Xq (Zp ge);have nBT:B.get? g.objs.size=none:=by
  cases q:B.get? g.objs.size with
  |none=>rfl
  |some o=>exact absurd (Zp (gB _ o q)) (Yq _)
 refine wpAny_setField g2 rfl (by show 1<6;decide) (k _ ?_ ?_)
 .refine⟨λb o q=>?_,a.ne,?_,.ref g.objs.size,?_,.inr ⟨g.objs.size,oN,_,rfl,nBT,Te,?_,by rw[<- hN],?_⟩⟩
  .rw[Yz _ _ (λz=>by rw[<- z,a.ne] at q;cases q)];exact Zi _ (gB b o q)
  .refine a.ff.of_keeps λb o q nf=>?_
   obtain⟨sl,q2⟩:=so3 b o q;refine⟨{ o with slots:=sl },?_,rfl⟩;rw[Yz _ _ (λz=>by rw[<- z,he] at q;cases q;exact nf _ rfl)];exact Zi _ q2
  .exact Xv _ g2 rfl
  .rw[Yz _ _ Te.symm];exact gT
  .simp only[Z3,Z5,Xy];omega
 .intro b o q nf;obtain⟨sl,q2⟩:=so3 b o q;refine⟨sl,?_⟩;rw[Yz _ _ (λz=>by rw[<- z,he] at q;cases q;exact nf _ rfl)];exact Zi _ q2
def uF {T:Addr}{oT:Obj}{ts:Array Value}{v:Value}(a:vh B outer e C t s.heap)(nT:B.get? T=none)(Te:T≠e)(hT:s.heap.get? T=some oT)(dT:oT.data=.fields ts)(h3:3<ts.size)
  (k:∀h',vh B outer e C t h'->s.heap.UpToSlots h'->Q () { s with heap:=h' }):wpAny M A (setField (.ref T) 3 v) Q E s:=by
 obtain⟨hd,he,hh⟩:=a.ob;refine wpAny_setField hT dT h3 ?_;have PJ:∀b,b≠T->(s.heap.update T (Obj.mapFields (·.setIfInBounds 3 v))).get? b=s.heap.get? b:=λb n=>Yz _ _ (Ne.symm n)
 have isf:∀b o,s.heap.get? b=some o->(∀vs,o.data≠.fields vs)->b≠T:=λb o q nf z=>by
  rw[z,hT] at q;cases q;exact nf _ dT
 refine k _ ⟨λb o q=>?_,a.ne,a.ff.of_keeps λb o q nf=>⟨o,(PJ b (isf b o q nf)).trans q,rfl⟩,hd,(PJ e Te.symm).trans he,?_⟩ λb o q nf=>⟨o.slots,(PJ b (isf b o q nf)).trans q⟩
 .exact(PJ b λz=>by rw[z,nT] at q;cases q).trans (a.st b o q)
 .rcases hh with z |⟨T2,o2,t2,z,n2,e2,h2,d2,s2⟩
  .exact .inl z
  .by_cases w:T2=T
   .subst w;rw[hT] at h2;cases h2;have:=Obj.data_mapFields dT (·.setIfInBounds 3 v);exact .inr ⟨T2,_,_,z,n2,e2,Xv _ hT (Obj.isFreed_of_fields this),this,by simpa using h3⟩
   .exact .inr ⟨T2,o2,t2,z,n2,e2,(PJ T2 w).trans h2,d2,s2⟩
def EM (a:vh B (env::outer) e C t s.heap)(oZ:A.frames=some (env::outer))(hf:env.frame=some L)
  (k:∀h',vh B (env::outer) e C t h'->s.heap.UpToSlots h'->Q () { s with heap:=h' }):wpAny M A (noteFrame (.ref e) env) Q E s:=by
 obtain⟨hd,he,hh⟩:=a.ob;unfold noteFrame;simp only[hf];refine Zb (wpAny_field he rfl (x:=hd) rfl ?_);rcases hh with rfl |⟨T,oT,ts,rfl,nT,Te,hT,dT,h3⟩
 .rw[if_neg (by decide)];exact qM a oZ hf k
 .rw[if_pos (show(Value.ref T != Value.none)=true from by simp)];refine Zb (wpAny_field hT dT (x:=ts[3]) (by rw[Array.getElem?_eq_getElem h3]) ?_);by_cases hv:(ts[3] == rawInt L)=true
  .rw[if_pos hv];exact wpAny_pure (k s.heap a (Heap.UpToSlots.refl _))
  .rw[if_neg hv];refine Zb (uF a nT Te hT dT h3 λh1 a1 u1=>?_);exact qM (s:={ s with heap:=h1 }) a1 oZ hf λh2 a2 u2=>k h2 a2 (u1.trans u2)
def EN (a:vh B outer e C t s.heap)(k:∀h',vh B outer e C t h'->s.heap.UpToSlots h'->Q () { s with heap:=h' }):wpAny M A (setFlight (.ref e) none) Q E s:=by
 obtain⟨hd,he,hh⟩:=a.ob;unfold setFlight;refine Zb (wpAny_field he rfl (x:=hd) rfl ?_);rcases hh with rfl |⟨T,oT,ts,rfl,nT,Te,hT,dT,h3⟩
 .rw[if_neg (by decide)];exact wpAny_pure (k s.heap a (Heap.UpToSlots.refl _))
 .rw[if_pos (show(Value.ref T != Value.none)=true from by simp)];exact uF a nT Te hT dT h3 k
def qL (a:vh B (env::outer) e C t s.heap)(oZ:A.frames=some (env::outer))(hf:env.frame=some L)
  (k:∀h',vh B outer e C t h'->s.heap.UpToSlots h'->Q () { s with heap:=h' }):wpAny M A (leaving env (.ref e)) Q E s:=by
 unfold leaving;refine Zb (EM a oZ hf λh1 a1 u1=>?_);exact EN (s:={ s with heap:=h1 }) a1.tail λh2 a2 u2=>k h2 a2 (u1.trans u2)
end
end EX
namespace L2
open PySem PySem.Spec PyProof.Rows EX
def NO {P:Program}{w:World}{H:Hp}{h:Heap}{a:Addr}{o:HO}(x:bY P w H h a o):∃u,h.get? a=some u:=by
 cases o with
 |lst xs=>obtain⟨_,_,_,_,q⟩:=x;exact⟨_,q⟩
 |tup xs=>obtain⟨_,_,_,⟨_,q,_⟩⟩:=x;exact⟨_,q⟩
 |dK kvs=>obtain⟨_,_,_,_,_,_,_,q,_⟩:=x;exact⟨_,q⟩
 |dT kvs=>obtain⟨_,_,_,_,_,_,_,q,_⟩:=x;exact⟨_,q⟩
 |set S n=>obtain⟨_,_,_,_,q,_⟩:=x;exact⟨_,q⟩
 |ins C dx fs=>obtain⟨_,_,_,q,_⟩:=x;exact⟨_,q⟩
 |own y=>exact x
 |xd fs=>obtain⟨_,⟨_,_,_,q,_⟩,_⟩:=x;exact⟨_,q⟩
 |Uh lo hi=>obtain⟨_,_,_,q⟩:=x;exact⟨_,q⟩
 |iE ob u=>exact⟨_,x.1⟩
 |IH ps=>exact⟨_,x⟩
 |met f y=>exact⟨_,x⟩
 |ext φ=>exact x.2.1
theorem zq {h base B:Heap}:∀{l:List Env},(∀b∈j7 l,B.get? b=none)->h.FunFrames base l->h.FunFrames B l
 |[],_,_=>trivial
 |env::r,hB,⟨hk,⟨L,o,hf,hn,ho,hd⟩,hr⟩ =>
  ⟨hk,⟨L,o,hf,hB L (by unfold j7;rw[X6,hf];exact Zm),ho,hd⟩,
   zq (λb hb=>hB b (by unfold j7;rw[X6,hf];exact Zq _ hb)) hr⟩
def pi (P:Program)(w:World):Ah:=λouter H s E e s'=>∃(a C t:Addr) (B:Heap) (H':Hp),e=.ref a/\s'.os=s.os/\AllBare s'.gens/\Un (j7 outer) [] H H' s.heap s'.heap/\jP P w H' B /\
 (∀b o,s.heap.get? b=some o->b∉j7 outer->(∃o',B.get? b=some o')/\(H b=none->B.get? b=some o))/\vh B outer a C t s'.heap/\s.heap.get? a=none/\H' a=none/\E (.ref C) none H'
section
variable {P:Program}{w:World}{K:Θ1}{mg:Θ3}{base:Heap}{N:Δ2}{qual:Str}{scope:Scope}{f:Addr}{cd:Value}{A:Around}{outer:List Env}{bp:Shared}{bN:Hp}{E:XK}
def zp {aa:Γ2}{σ:St}{H H':Hp}{s s':Shared}{a C t:Addr}{B h':Heap}(I:Inv (ka (pi P w) P w K mg base N qual scope f cd A outer bp bN E) aa σ H s)
  (os:s'.os=s.os) (bare:AllBare s'.gens) (un:Un (envOfC qual scope bp.heap.objs.size f cd::outer |> j7) [] H H' s.heap s'.heap) (bT:jP P w H' B)
  (pT:∀b o,s.heap.get? b=some o->b∉j7 (envOfC qual scope bp.heap.objs.size f cd::outer)->(∃o',B.get? b=some o')/\(H b=none->B.get? b=some o))
  (ff:s'.heap.FunFrames B (envOfC qual scope bp.heap.objs.size f cd::outer)) (Pl:vh B outer a C t h') (up:s'.heap.UpToSlots h') (na:s.heap.get? a=none) (PQ:H' a=none) (he:E (.ref C) none H'):pi P w outer bN bp E (.ref a) { s' with heap:=h' }:=by
 have Ff:∀b o,bp.heap.get? b=some o->b∉j7 outer->b∉j7 (envOfC qual scope bp.heap.objs.size f cd::outer):=λb o q n m=>by
  rcases Zl.mp (I.rj b m) with z |z
  .have:b<bp.heap.objs.size:=Zp q;have h2:bp.heap.objs.size<=b:=by rw[z];exact I.ok.above
   exact absurd (Yj this h2) (Yq _)
  .exact n z
 have LV:∀b,b∈j7 outer->b∈j7 (envOfC qual scope bp.heap.objs.size f cd::outer):=λb m=>by
  unfold j7;rw[X6];exact Zq _ m
 have ub:Un (j7 outer) [] bN H bp.heap s.heap:=I.base;refine⟨a,C,t,B,H',rfl,os.trans I.os,bare,⟨λb o q n nf _=>?_,λb o q n m _=>?_,λb o q n _=>?_,λb o q _=>?_,λb xs q=>un.lD b xs (ub.lD b xs q),λb o u q=>un.nF b o u (ub.nF b o u q),λb ps q=>?_⟩,bT,λb o q nf=>?_,Pl,?_,PQ,he⟩
 .exact Pl.st b o ((pT b o (ub.keep b o q n nf (by simp)) (Ff b o q nf)).2 (ub.free b o q n (by simp)))
 .obtain⟨sl,q1⟩:=ub.slot b o q n m (by simp);obtain⟨cN,q2⟩:=un.slot b _ q1 (ub.free b o q n (by simp)) (LV b m) (by simp);obtain⟨_,o3,q3,nf⟩:=ff.mem (LV b m);rw[q2] at q3;cases q3;obtain⟨sl3,q4⟩:=up b _ q2 nf;exact⟨sl3,q4⟩
 .obtain⟨o',q1⟩:=ub.there b o q (by simp);exact un.free b o' q1 (ub.free b o q n (by simp)) (by simp)
 .obtain⟨o',q1⟩:=ub.there b o q (by simp);by_cases m:b∈j7 outer
  .obtain⟨_,o3,q3,nf⟩:=ff.mem (LV b m);obtain⟨sl3,q4⟩:=up b _ q3 nf;exact⟨_,q4⟩
  .obtain⟨o2,q2⟩:=(pT b o' q1 (Ff b o q m)).1;exact⟨o2,Pl.st b o2 q2⟩
 .obtain⟨m1,e1⟩:=ub.pj b ps q;obtain⟨m2,e2⟩:=un.pj b _ e1;exact⟨m1++m2,by rw[e2,Array.append_assoc]⟩
 .obtain⟨o',q1⟩:=ub.there b o q (by simp);refine⟨(pT b o' q1 (Ff b o q nf)).1,λn=>?_⟩;have q2:=ub.keep b o q n nf (by simp);exact(pT b o q2 (Ff b o q nf)).2 (ub.free b o q n (by simp))
 .cases q:bp.heap.get? a with
  |none=>rfl
  |some o =>
   obtain⟨o',q1⟩:=ub.there a o q (by simp);rw[na] at q1;cases q1
def Cr:om (pi P w) (ka (pi P w) P w K mg base N qual scope f cd A outer bp bN E) E:=by
 intro aa σ H s e s' I h;obtain⟨a,C,t,B,H',rfl,os,bare,un,bT,pT,Pl,na,PQ,he⟩:=h;refine qL (L:=bp.heap.objs.size) Pl I.ok.frames rfl λh' Mj up=>?_
 exact zp I os bare un bT pT Pl.ff Mj up na PQ he
def Nh {aa:Γ2}{σ:St}{H:Hp}{s:Shared}{h1:Heap}{a C:Addr}{args:Δ3}(I:Inv (ka (pi P w) P w K mg base N qual scope f cd A outer bp bN E) aa σ H s)(mk:Heap.MadeExcOf s.heap h1 a (.ref C) args)(he:E (.ref C) none H) :
  (ka (pi P w) P w K mg base N qual scope f cd A outer bp bN E).xe (.ref a) { s with heap:=h1 }:=by
 obtain⟨t,ht,htn,_⟩:=mk.there;have FV:∀b u,H b=some u->b∉j7 (envOfC qual scope bp.heap.objs.size f cd::outer):=λb u q m=>by
  have:=I.rL b m;rw[q] at this;cases this
 have hB:∀b∈j7 (envOfC qual scope bp.heap.objs.size f cd::outer),(PySem.W.hideAll s.heap (j7 (envOfC qual scope bp.heap.objs.size f cd::outer))).get? b=none:=λb m=>PySem.W.hideAll_none _ m
 have ZZ:jP P w H (PySem.W.hideAll s.heap (j7 (envOfC qual scope bp.heap.objs.size f cd::outer))):=λb u q =>
  (I.bT b u q).aA (λc v hc qc=>PySem.W.hideAll_get _ qc (by
   rcases hc with z |z
   .rw[z];exact FV b u q
   .exact FV c _ z)) (λ_ z=>z) λ_ _ z=>z
 have PQ:H a=none:=by
  cases q:H a with
  |none=>rfl
  |some u =>
   obtain⟨o,ho⟩:=NO (I.bT a u q);rw[mk.new] at ho;cases ho
 have SA:vh (PySem.W.hideAll s.heap (j7 (envOfC qual scope bp.heap.objs.size f cd::outer))) (envOfC qual scope bp.heap.objs.size f cd::outer) a C t h1:=by
  refine⟨λb o q=>mk.keeps b o (PySem.W.of_hideAll _ q),?_,(zq hB I.stack).of_keeps λb o q _=>⟨o,mk.keeps b o q,rfl⟩,.none,ht,.inl rfl⟩;cases q:(PySem.W.hideAll s.heap (j7 (envOfC qual scope bp.heap.objs.size f cd::outer))).get? a with
  |none=>rfl
  |some o=>have:=PySem.W.of_hideAll _ q;rw[mk.new] at this;cases this
 refine qL (s:={ s with heap:=h1 }) (L:=bp.heap.objs.size) SA I.ok.frames rfl λh' Mj up=>?_
 exact zp (s':={ s with heap:=h1 }) I rfl I.bare (Un.kept mk.keeps) ZZ (λb o q n=>⟨⟨o,PySem.W.hideAll_get _ q n⟩,λ_=>PySem.W.hideAll_get _ q n⟩) SA.ff Mj up mk.new PQ he
def cL.OG {x qual:Str}{st:Stmt}{f:Addr}{fd:FuncData}{N ps:Δ2}{k:Nat}{sp:Sp}(F:cL K x qual st f fd)(S:ap N ps (bh st))(len:∀vs H Q E,sp vs H Q E->vs.length=ps.length)
  (tW:∀(bv:Value) (A:Around) (outer:List Env) (s:Shared) (H:Hp) (vs:List V) (Q:VK) (E:XK),db k (A.deeper (envOfC qual (bh st) s.heap.objs.size f bv))->sp vs H Q E ->
   ∃t,jO (ka (pi P w) P w K mg base N qual (bh st) f bv A outer s H E) (sG st) t/\t { nx:=λ_ H'=>Q .bZ H',rt:=Q } (start N vs) H):aO P w K mg base (pi P w) (k+1) f fd ps sp:=by
 obtain⟨oc,od,kV,gC,pm,an,bv,ct,Fh,rfl,lk,o6⟩:=F.ex;exact Kd lk o6 S len λA outer s H vs Q E hr BE=>tW bv A outer s H vs Q E hr BE
end
def MR (E:XK)(C:Addr)(t:TA):TS:=λ_ σ H=>t σ H λvs H1=>vs.length<=sizeLine/\E (.ref C) none H1
def oy {P:Program}{w:World}{K:Θ1}{mg:Θ3}{base:Heap}{N:Δ2}{qual:Str}{scope:Scope}{f:Addr}{cd:Value}{A:Around}{outer:List Env}{bp:Shared}{bN:Hp}{E:XK}
  {x:Str}{C:Addr}{e:Expr}{es:Ξ2}{t:TA}{np eL pos:Pos}{bmB:Δ3}{B JK Ob:String}(FB:ExcBaseFacts B JK Ob bmB) (hg:Gl (ka (pi P w) P w K mg base N qual scope f cd A outer bp bN E) x) (hm:mg x=some (.ref C)) (hx:PySem.W.excIn K C bmB JK=true)
  (ha:PA (ka (pi P w) P w K mg base N qual scope f cd A outer bp bN E) (e::es) t) (hd:(x == ("__debug__" : Str))=false:=by decide)
  (he:starEach (e::es) (envOfC qual scope bp.heap.objs.size f cd)=(false,eval e (envOfC qual scope bp.heap.objs.size f cd))::starEach es (envOfC qual scope bp.heap.objs.size f cd):=by rfl)
  (kA:(backTo eL (starEach es (envOfC qual scope bp.heap.objs.size f cd))).any (·.1)=false:=by rfl) :
  PS (ka (pi P w) P w K mg base N qual scope f cd A outer bp bN E) (.Raise (some (.Call (.Name x np) (e::es) [] eL)) none pos) (MR E C t):=by
 intro aa s σ H D I h;unfold PySem.W.excIn at hx;split at hx
 .rename_i dd cdd sl ho;split at hx
  .rename_i C' bm k0 k1 k2 k3 n k5 Sc hs;simp only[Z0,beq_iff_eq,Bool.not_eq_true'] at hx;obtain⟨⟨⟨⟨⟨rfl,rfl⟩,Sj⟩,ht⟩,bT⟩,hni⟩:=hx;obtain⟨nm,bs,mro,ns,qn,pR,sn,sub,ab,col,del⟩:=cdd;dsimp only at Sc Sj bT hni;subst Sc Sj;have Kw:sl=#[k0,k1,k2,k3,some (.builtin n),k5]:=by
    obtain⟨l⟩:=sl;simp only at hs;rw[hs]
   subst Kw;have kb:K.In base:=I.ok.mod.Um;have nsB:=Heap.Ns.of_isNs (PySem.W.isNs_of_in kb bT);refine wpAny_Raise_call_subT FB (C:=C') (nm:=nm) (q:=qn) (N:=ns) (bs:=bs) (bm:=bm) (hdct:=pR) (sn:=sn) (sub:=sub) (ab:=ab) (col:=col) (dd:=dd) (k0:=k0) (k1:=k1) (k2:=k2) (k3:=k3) (k5:=k5) (mN:=base.nsMap ns)
    ((PySem.W.tail_of_in kb ht).hasType FB.hasBase) (I.ok.hd rfl) ?_ (PySem.W.nsMap_none_of_in kb bT hni) ?_
   .show(backTo eL (starEach (e::es) (envOfC qual scope bp.heap.objs.size f cd))).any (·.1)=false;rw[he];show(false||(backTo eL (starEach es (envOfC qual scope bp.heap.objs.size f cd))).any (·.1))=false;rw[kA];rfl
   .refine zf I hg hm ⟨rfl,?_⟩ hd;show wpAny _ _ (evalArgs (.ref C') true (backTo eL (starEach (e::es) (envOfC qual scope bp.heap.objs.size f cd))) []) _ _ s;have Wk:=ha eL aa s σ H _ I h;have ha2:wpAny (model P w) (A.deeper (envOfC qual scope bp.heap.objs.size f cd)) (spliced (backTo eL (starEach (e::es) (envOfC qual scope bp.heap.objs.size f cd)))) _ _ s:=Wk;rw[he] at ha2 ⊢;refine Calls.evalArgs_plain (bB ha2 λus s2 ⟨vs,H2,I2,r,z,q⟩=>?_);exact⟨rfl,by rw[<- r.length];exact z,I2.bk _ _ (kb _ _ ho),nsB.keeps I2.bk,(PySem.W.tail_of_in kb ht).keeps I2.bk,λh' a mk=>Nh I2 mk q⟩
  .cases hx
 .cases hx
end L2
namespace EX
open PySem PySem.Spec PyProof.Rows
section
variable {prog:Program}{w:World}{A:Around}{E:Θ2}{s:Shared}
end
end EX
namespace L2
open PySem PySem.Spec PyProof.Rows EX
section
variable {X:Cx}{tg:Expr}
end
section
variable {X:Cx}{scope:Scope}{own cap:Δ2}{ix:List Nat}{tg iter d9:Expr}{gx:Ξ2}{wi:TI}{g:TG}{tt:TT}{te:TE}{pos:Pos}
end
end L2
namespace EX
open PySem PySem.Spec PyProof.Rows PySem.W
section
variable {prog:Program}{w:World}{A:Around}{E:Θ2}{s:Shared}{K:Frag}{x D t:Addr}{hd:Value}
end
end EX
namespace L2
open PySem PySem.Spec PyProof.Rows EX
section
variable {X:Cx}{e:Expr}{te:TE}{ea D t:Addr}{hd:Value}
end
end L2
namespace EX
open PySem PySem.Spec PyProof.Rows PySem.W
section
variable {prog:Program}{w:World}{A:Around}{E:Θ2}{s:Shared}{K:Frag}{e D C t:Addr}{hd:Value}
end
end EX
namespace L2
open PySem PySem.Spec PyProof.Rows EX
section
variable {P:Program}{w:World}{K:Θ1}{mg:Θ3}{base:Heap}
end
section
variable {X:Cx}{aa:Γ2}{σ:St}{H:Hp}{s:Shared}
end
end L2
namespace KG
open PySem
def Bd (k:Nat)(n:Int):Prop:=n.natAbs<2 ^ k
def Bd.mono {j k:Nat}{n:Int}(h:Bd j n)(hj:j<=k):Bd k n:=Yj h (Y1 (by decide) hj)
def Bd.mul {j k:Nat}{a b:Int}(h:Bd j a)(h':Bd k b):Bd (j+k) (a*b):=by
 unfold Bd at *;rw[Xe,Nat.pow_add];exact Nat.mul_lt_mul'' h h'
def Bd.le {k:Nat}{a b:Int}(h:Bd k b)(hl:a.natAbs<=b.natAbs):Bd k a:=Nat.lt_of_le_of_lt hl h
def Bd.log {k:Nat}{n:Int}(h:Bd k n)(hk:k<=8999):n.natAbs.log2<9000:=by
 by_cases h0:n.natAbs=0
 .rw[h0];decide+kernel
 .exact(Nat.log2_lt h0).mpr (Yj h (Y1 (by decide) (by omega)))
def sg (t u:Int):Int:=if u<0 then -(Int.gcd t u:Int) else (Int.gcd t u:Int)
def nx (t u:Int):Int:=t.fdiv (sg t u)
def ny (t u:Int):Int:=u.fdiv (sg t u)
def jA {t u:Int}(h:u≠0):nx t u*u=t*ny t u/\0<ny t u/\Int.gcd (nx t u) (ny t u)=1/\sg t u≠0/\(nx t u).natAbs<=t.natAbs/\(ny t u).natAbs<=u.natAbs:=by
 have g0:0<Int.gcd t u:=Q7 t h;obtain⟨a,ha⟩:(Int.gcd t u:Int)∣t:=Q8 ..;obtain⟨b,hb⟩:(Int.gcd t u:Int)∣u:=Qa ..;generalize hg:Int.gcd t u=g at *;have hc:Int.gcd a b=1:=by
  have e:Int.gcd t u=Int.gcd ((g:Int)*a) ((g:Int)*b):=by rw[<- ha,<- hb]
  rw[hg,Int.gcd_mul_left] at e;simp at e;have e2:g*1=g*Int.gcd a b:=by rw[Nat.mul_one];exact e
  exact(Nat.eq_of_mul_eq_mul_left g0 e2).symm
 have gp:(0:Int)<g:=by omega
 have la:a.natAbs<=t.natAbs:=by
  rw[ha,Xe];simp;exact Nat.le_mul_of_pos_left _ g0
 have lb:b.natAbs<=u.natAbs:=by
  rw[hb,Xe];simp;exact Nat.le_mul_of_pos_left _ g0
 unfold nx ny sg;rw[hg];by_cases hu:u<0
 .rw[if_pos hu];have dn:(-(g:Int))≠0:=by omega
  have e1:t.fdiv (-(g:Int))=-a:=by
   have:t=(-(g:Int))*(-a):=by rw[Int.neg_mul_neg];exact ha
   rw[this,Q9 _ dn]
  have e2:u.fdiv (-(g:Int))=-b:=by
   have:u=(-(g:Int))*(-b):=by rw[Int.neg_mul_neg];exact hb
   rw[this,Q9 _ dn]
  rw[e1,e2];refine⟨?_,?_,by rw[Int.neg_gcd,Int.gcd_neg];exact hc,dn,by rw[Int.natAbs_neg];exact la,by rw[Int.natAbs_neg];exact lb⟩
  .have q:a*u=t*b:=by rw[hb,ha];rw[Int.mul_left_comm,Int.mul_assoc]
   rw[Int.neg_mul,q,Int.mul_neg]
  .rcases Qb b 0 with z |z
   .omega
   .have:0<=(g:Int)*b:=Int.mul_nonneg (by omega) z;omega
 .rw[if_neg hu];have dn:(g:Int)≠0:=by omega
  have e1:t.fdiv (g:Int)=a:=by rw[ha,Q9 _ dn]
  have e2:u.fdiv (g:Int)=b:=by rw[hb,Q9 _ dn]
  rw[e1,e2];refine⟨?_,?_,hc,dn,la,lb⟩
  .rw[hb,ha,Int.mul_left_comm,Int.mul_assoc]
  .rcases Qb 0 b with z |z
   .exact z
   .have:(g:Int)*b<=0:=Int.mul_nonpos_of_nonneg_of_nonpos (by omega) z;omega
def zo {a c:Int}(h:c≠0):(a.fmod c).natAbs<c.natAbs:=by
 rcases Int.lt_or_gt_of_ne h with z |z
 .have e:(-a).fmod (-c)=-(a.fmod c):=Int.neg_fmod_neg a c;have h1:=Int.fmod_nonneg_of_pos (-a) (show 0 < -c by omega);have h2:=Int.fmod_lt_of_pos (-a) (show 0 < -c by omega);omega
 .have h1:=Int.fmod_nonneg_of_pos a z;have h2:=Int.fmod_lt_of_pos a z;omega
def uz {a c:Int}:Int.gcd c (a.fmod c)=Int.gcd a c:=by
 rw[Int.gcd_comm a c,Int.fmod_def,Int.gcd_sub_mul_left_right]
end KG
namespace L2
open PySem PySem.Spec PyProof.Rows KG
section
variable {X:Cx}
def oA:eY X (binaryOp .FloorDiv) (rI (λ_ j=>0<j/\Bd 8000 j) λi j=>.int (i / j)):=EQ λi j _ _ _ _ _ hc q=>by
 have h1:(0:Int)<j:=hc.1;exact floordiv_int (by omega) (by rw[Jh i (by omega)];exact q) (.inl (PyProof.noPylong_of_log2 (hc.2.log (by decide))))
def jG:eY X (binaryOp .FloorDiv) (rI (λ_ j=>j≠0/\Bd 8000 j) λi j=>.int (i.fdiv j)):=EQ λ_ _ _ _ _ _ _ hc q=>floordiv_int hc.1 q (.inl (PyProof.noPylong_of_log2 (hc.2.log (by decide))))
def sH:eY X (binaryOp .Mult) (rI (λi j=>Bd 8000 i/\Bd 8000 j) λi j=>.int (i*j)):=EQ λi j _ _ _ _ _ hc q=>mul_int q (IntMulOk.of_bits (Zk (intBits_le hc.1) (by decide)) (Zk (intBits_le hc.2) (by decide)))
end
end L2
namespace KG
open PySem L2
end KG
namespace L2
open PySem PySem.Spec PyProof.Rows
def Sm (K:Θ1)(n:Nat)(t:Ac):TG:=λv σ H Q=>∃a xs,v=.ref a/\bi K H a xs/\xs.length=n/\t xs σ H Q
def Nk {X:Cx}{es:Ξ2}{k:Nat}{t:Ac}{n:Nat}{pos:Pos}(hc:X.calm=true)(h:vg X es t)
  (hn:(assignEach es X.env).length=n:=by rfl) (sQ:(assignEach es X.env).findIdx? (·.1)=none:=by rfl):PG X (.Tuple es k pos) (Sm X.K n t):=by
 intro aa s σ H v u Q I r hw;obtain⟨a,xs,e1,hq,hl,hw⟩:=hw;subst e1;cases r;obtain⟨its,rv,ht,hz⟩:=I.list hq;rw[assign_Tuple];refine Zb (wpAny_standAt ?_);unfold unpack;rw[hn,sQ];have hsz:n=its.toArray.size:=by rw[Z3,<- rv.length,hl]
 rw[hsz];refine Zb (wpAny_holding (PySem.W.kun_itemsOf (I.ok.hd hc) ht.isList λh' hx=>?_));have I1:Inv X aa σ H { s with heap:=h' }:=I.kept (t':=s.toks) λb o e=>hx b o (Yb (Zp e)) e
 exact h aa _ σ H xs _ Q I1 (by simpa using rv) hw
def FU {X:Cx}{e:Expr}{te:TE}(K:Θ1){T:Str}{n:String}{p p2 pos:Pos}(he:PE X e te)(hg:Gl X "isinstance")(hm:X.mg "isinstance"=none)(V5:Gl X T)(VY:X.mg T=none)(hv:bootBuiltins T=some (.type n))
  (hb:bootBuiltins "isinstance"=some (.builtin "isinstance")) (h:X.K=K:=by rfl) (VW:T ≠ "__name__":=by decide) (Wa:(T == ("__debug__" : Str))=false:=by decide)
  (hs:starEach [e,.Name T p2] X.env=[(false,eval e X.env),(false,eval (.Name T p2) X.env)]:=by rfl)
  (kA:(backTo pos (starEach [.Name T p2] X.env)).any (·.1)=false:=by rfl):PE X (.Call (.Name "isinstance" p) [e,.Name T p2] [] pos) (Rv K (.type n) te):=by
 subst h;exact Hj he hg hm V5 VY hv hb VW Wa hs kA
end L2
namespace KM
open PySem L2 KG EX
def VD:PyData->Bool
 |.int _=>true
 |.bool _=>true
 |_=>false
def isB:PyData->Bool
 |.bool _=>true
 |_=>false
def Up:PyData->Bool
 |.tuple _=>true
 |_=>false
structure Lg (K:Θ1):Prop where
 i1:PySem.W.kitOne K (.type "NoneType") (.type "int")=some false
 i2:PySem.W.kitOne K (.type "bool") (.type "int")=some true
 i3:PySem.W.kitOne K (.type "int") (.type "int")=some true
 i4:PySem.W.kitOne K (.type "str") (.type "int")=some false
 i5:PySem.W.kitOne K (.type "list") (.type "int")=some false
 i6:PySem.W.kitOne K (.type "tuple") (.type "int")=some false
 b1:PySem.W.kitOne K (.type "NoneType") (.type "bool")=some false
 b2:PySem.W.kitOne K (.type "bool") (.type "bool")=some true
 b3:PySem.W.kitOne K (.type "int") (.type "bool")=some false
 b4:PySem.W.kitOne K (.type "str") (.type "bool")=some false
 b5:PySem.W.kitOne K (.type "list") (.type "bool")=some false
 b6:PySem.W.kitOne K (.type "tuple") (.type "bool")=some false
 t1:PySem.W.kitOne K (.type "NoneType") (.type "tuple")=some false
 t2:PySem.W.kitOne K (.type "bool") (.type "tuple")=some false
 t3:PySem.W.kitOne K (.type "int") (.type "tuple")=some false
 t4:PySem.W.kitOne K (.type "str") (.type "tuple")=some false
 t5:PySem.W.kitOne K (.type "list") (.type "tuple")=some false
 t6:PySem.W.kitOne K (.type "tuple") (.type "tuple")=some true
def isi {K:Θ1}(Z:Lg K){b:Addr}{H:Hp}{v:V}{d:PyData}(h:gZ b H v d):∃t,jU K H v t/\PySem.W.kitOne K t (.type "int")=some (VD d):=by
 cases h with
 |bZ=>exact⟨_,.bZ,Z.i1⟩
 |bl c=>exact⟨_,.bl _,Z.i2⟩
 |int c=>exact⟨_,.int _,Z.i3⟩
 |str x ok=>exact⟨_,.str _,Z.i4⟩
 |lst n e t=>exact⟨_,.lst e,Z.i5⟩
 |tup e t=>exact⟨_,.tup e,Z.i6⟩
def isb {K:Θ1}(Z:Lg K){b:Addr}{H:Hp}{v:V}{d:PyData}(h:gZ b H v d):∃t,jU K H v t/\PySem.W.kitOne K t (.type "bool")=some (isB d):=by
 cases h with
 |bZ=>exact⟨_,.bZ,Z.b1⟩
 |bl c=>exact⟨_,.bl _,Z.b2⟩
 |int c=>exact⟨_,.int _,Z.b3⟩
 |str x ok=>exact⟨_,.str _,Z.b4⟩
 |lst n e t=>exact⟨_,.lst e,Z.b5⟩
 |tup e t=>exact⟨_,.tup e,Z.b6⟩
def ist {K:Θ1}(Z:Lg K){b:Addr}{H:Hp}{v:V}{d:PyData}(h:gZ b H v d):∃t,jU K H v t/\PySem.W.kitOne K t (.type "tuple")=some (Up d):=by
 cases h with
 |bZ=>exact⟨_,.bZ,Z.t1⟩
 |bl c=>exact⟨_,.bl _,Z.t2⟩
 |int c=>exact⟨_,.int _,Z.t3⟩
 |str x ok=>exact⟨_,.str _,Z.t4⟩
 |lst n e t=>exact⟨_,.lst e,Z.t5⟩
 |tup e t=>exact⟨_,.tup e,Z.t6⟩
def yy {b:Addr}{H:Hp}{v:V}{d:PyData}(h:gZ b H v d):Up d=false\/∃a xs ds,v=.ref a/\d=.tuple ds/\H a=some (.tup xs)/\cC b H xs ds:=by
 cases h with
 |bZ=>exact .inl rfl
 |bl c=>exact .inl rfl
 |int c=>exact .inl rfl
 |str x ok=>exact .inl rfl
 |lst n e t=>exact .inl rfl
 |tup e t=>exact .inr ⟨_,_,_,rfl,rfl,e,t⟩
def rZ {b:Addr}{H:Hp}{v:V}{d:PyData}(h:gZ b H v d):kQ d=false\/∃i,v=.int i/\d=.int i:=by
 cases h with
 |bZ=>exact .inl rfl
 |bl c=>exact .inl rfl
 |int c=>exact .inr ⟨_,rfl,rfl⟩
 |str x ok=>exact .inl rfl
 |lst n e t=>exact .inl rfl
 |tup e t=>exact .inl rfl
def xj (d:PyData):kQ d=(VD d&&!isB d):=by cases d<;>rfl
def Aw {lo hi:Int}{d:PyData}(h:kQ d=false):within lo hi d=false:=by cases d<;>first |rfl |cases h
def Ba {d:PyData}(h:Up d=false):bV d=false:=by cases d<;>first |rfl |cases h
def spT (m:PyData->Bool):Sp:=λvs H Q _=>∃(b:Addr) (v:V) (d:PyData),vs=[v]/\gZ b H v d/\∀H',az H H'->Q (.bl (m d)) H'
def Jr:Sp:=λvs H Q _=>∃(t u:Int),vs=[.int t,.int u]/\0<=u/\Q (.int (Int.gcd t u)) H
def uA {a c:Int}:Int.gcd c (a % c)=Int.gcd a c:=by
 rw[Int.gcd_comm a c,Int.emod_def,Int.gcd_sub_mul_left_right]
def zE {a:Int}:(if a<0 then -a else a)=(Int.gcd a 0:Int):=by
 rw[Int.gcd_zero_right];split<;>omega
def xk {ds:Ξ1}(h:ds.length≠2):bV (.tuple ds)=false:=by
 unfold bV;split
 .next V6=>injection V6 with V6;subst V6;exact absurd rfl h
 .rfl
def yw {a b:Nat}(h:a≠b):(!decide (V.int (a:Int)=V.int (b:Int)))=true:=by
 have:(a:Int)≠b:=by omega
 simp[this]
def GF (a:Int):(!decide (V.int a=V.int a))=false:=by simp
def qy {d:PyData}(h:bV d=true):∃t u:Int,d=.tuple [.int t,.int u]/\1<=u/\Int.gcd t u=1:=by
 unfold bV at h;split at h
 .next t u=>simp at h;exact⟨t,u,rfl,h.1,h.2⟩
 .cases h
def CW:Sp:=λvs H Q _=>∃(t u:Int),vs=[.int t,.int u]/\0<u/\u<1073741824/\∀(p:Addr),H p=none->Q (.ref p) (aF H p (.tup [.int (t / (Int.gcd t u:Int)),.int (u / (Int.gcd t u:Int))]))
def zn {t u:Int}(h:0<u):0<(Int.gcd t u:Int)/\(Int.gcd t u:Int)<=u:=by
 have h1:0<Int.gcd t u:=Q7 t (by omega);have h2:(Int.gcd t u:Int)∣u:=Qa ..;exact⟨by omega,Int.le_of_dvd h h2⟩
def RB:Sp:=λvs H Q _=>∃(b:Addr),vs=[.ref b]/\jX H b/\∀(v:V) (d:PyData) (H':Hp),jX H' b->Kp b H H'->gZ b H' v d->vz d=true->Q v H'
def qm {t:Int}(h1:1<=t)(h2:t<=1000000):vz (.tuple [.int t,.int 1])=true:=by
 show(decide ((1:Int)<=1)&&decide (Int.gcd t 1=1)&&decide (1<=t)&&decide (t<=1000000)&&decide ((1:Int)<=1000000))=true;rw[decide_eq_true h1,decide_eq_true h2,Int.gcd_one_right];rfl
def qo {t u:Int}(h1:1<=t)(h2:t<=1000000)(h3:1<=u)(h4:u<=1000000):vz (.tuple [.int (t / (Int.gcd t u:Int)),.int (u / (Int.gcd t u:Int))])=true:=by
 obtain⟨g0,g1⟩:=zn (t:=t) (u:=u) (by omega);have gt:(Int.gcd t u:Int)∣t:=Q8 ..;have gu:(Int.gcd t u:Int)∣u:=Qa ..;have e:Int.gcd (t / (Int.gcd t u:Int)) (u / (Int.gcd t u:Int))=1:=Int.gcd_ediv_gcd_ediv_gcd (by omega);have lo:∀n:Int,1<=n->n<=1000000->(Int.gcd t u:Int)∣n->1<=n / (Int.gcd t u:Int)/\n / (Int.gcd t u:Int)<=1000000:=λn n1 n2 hd=>by
  have a1:n / (Int.gcd t u:Int)*(Int.gcd t u:Int)=n:=Int.ediv_mul_cancel hd;have a2:n / (Int.gcd t u:Int)<=n:=Qq _ (by omega);have a3:0<=n / (Int.gcd t u:Int):=Qr (by omega) (by omega);refine⟨?_,by omega⟩;rcases Qb 0 (n / (Int.gcd t u:Int)) with z |z
  .omega
  .have:n / (Int.gcd t u:Int)=0:=by omega
   rw[this,Int.zero_mul] at a1;omega
 obtain⟨t1,t2⟩:=lo t h1 h2 gt;obtain⟨u1,u2⟩:=lo u h3 h4 gu;show(decide _&&decide (Int.gcd _ _=1)&&decide _&&decide _&&decide _)=true;rw[decide_eq_true u1,decide_eq_true e,decide_eq_true t1,decide_eq_true t2,decide_eq_true u2];rfl
def FJ {b p:Addr}{H:Hp}{x y:Int}:gZ b (aF H p (.tup [.int x,.int y])) (.ref p) (.tuple [.int x,.int y]):=.tup cx (.cons (.int x) (.cons (.int y) .nil))
def Ry:Sp:=λvs H Q _=>∃(b:Addr) (g:Int),vs=[.ref b,.int g]/\jX H b/\0<g/\g<=6 /\
 ∀(p:Addr) (ns:Γ3) (H':Hp),jX H' b->Kp b H H'->H' p=some (.tup (ns.map V.int))->(ns.length:Int)=g->(∀n∈ns,0<=n/\n<=100)->(∃n∈ns,1<=n)->Q (.ref p) H'
def NW {r:Int}(h0:0<=r)(h1:r<5):∃m:Int,iF [V.int 3,V.int 101,V.int 2,V.int 10,V.int 101] r=some (.int m)/\0<m/\m<=101:=by
 have:r=0\/r=1\/r=2\/r=3\/r=4:=by omega
 rcases this with rfl |rfl |rfl |rfl |rfl
 .exact⟨3,rfl,by decide,by decide⟩
 .exact⟨101,rfl,by decide,by decide⟩
 .exact⟨2,rfl,by decide,by decide⟩
 .exact⟨10,rfl,by decide,by decide⟩
 .exact⟨101,rfl,by decide,by decide⟩
def NX {r:Int}(h0:0<=r)(h1:r<3):∃m:Int,iF [V.int 1,V.int 9,V.int 60] r=some (.int m)/\0<m/\m<=60:=by
 have:r=0\/r=1\/r=2:=by omega
 rcases this with rfl |rfl |rfl
 .exact⟨1,rfl,by decide,by decide⟩
 .exact⟨9,rfl,by decide,by decide⟩
 .exact⟨60,rfl,by decide,by decide⟩
theorem xK {b:Addr}{H:Hp}{m:PyData->Bool}:∀{ys:List V},(∀y∈ys,∃d,gZ b H y d/\m d=true)->∃ds,cC b H ys ds/\ds.all m=true
 |[],_=>⟨[],.nil,rfl⟩
 |y::ys,h=>by
  obtain⟨ds,h1,h2⟩:=xK (ys:=ys) λz hz=>h z (Zq _ hz)
  obtain⟨d,h3,h4⟩:=h y Zm;exact⟨d::ds,.cons h3 h1,by rw[Y9,h4,h2];rfl⟩
def RM:PyData->Bool
 |.int n=>decide (1<=n)
 |_=>false
def FT:PyData->Bool
 |.tuple ds=>ds.any RM
 |_=>false
theorem uE {α : Type}{f g:α->Bool}:∀{xs:List α},(xs.all λx=>f x&&g x)=true->xs.all f=true/\xs.all g=true
 |[],_=>⟨rfl,rfl⟩
 |x::xs,h=>by
  rw[Y9,Z0,Z0] at h;obtain⟨h1,h2⟩:=uE h.2;exact⟨by rw[Y9,h.1.1,h1];rfl,by rw[Y9,h.1.2,h2];rfl⟩
def Ly:Sp:=λvs H Q _=>∃(b:Addr),vs=[.ref b]/\jX H b/\∀(p:Addr) (am pu wi:Ξ1) (H':Hp),jX H' b->Kp b H H'->gZ b H' (.ref p) (.tuple [.tuple am,.tuple pu,.tuple wi])->iV (.tuple [.tuple am,.tuple pu,.tuple wi])=true->wi.all FT=true->Q (.ref p) H'
def RA (_:Hp)(v:V):Prop:=∃n:Int,v=.int n/\1<=n/\n<=60
def RP (H:Hp)(v:V):Prop:=∃(a:Addr) (t u:Int),v=.ref a/\H a=some (.tup [.int t,.int u])/\vz (.tuple [.int t,.int u])=true
def RW (g:Int)(H:Hp)(v:V):Prop:=∃(a:Addr) (ns:Γ3),v=.ref a/\H a=some (.tup (List.map V.int ns))/\(ns.length:Int)=g/\(∀n∈ns,0<=n/\n<=100)/\∃n∈ns,1<=n
def oP {d:PyData}(h:vz d=true):∃t u:Int,d=.tuple [.int t,.int u]:=by
 unfold vz at h;split at h
 .exact⟨_,_,rfl⟩
 .cases h
def RP.of {b:Addr}{H:Hp}{v:V}{d:PyData}(h:gZ b H v d)(hp:vz d=true):RP H v:=by
 obtain⟨t,u,rfl⟩:=oP hp;cases h with
 |tup ha hs =>
 cases hs with
 |cons hx hs =>
 cases hs with
 |cons hy hs =>
 cases hs
 cases hx
 cases hy
 exact⟨_,t,u,rfl,ha,hp⟩
def RA.tr {b:Addr}{H:Hp}{v:V}(h:RA H v):∃d,gZ b H v d/\within 1 60 d=true:=by
 obtain⟨n,rfl,h1,h2⟩:=h;exact⟨.int n,.int n,by show(decide _&&decide _)=true;rw[decide_eq_true h1,decide_eq_true h2];rfl⟩
def RP.tr {b:Addr}{H:Hp}{v:V}(h:RP H v):∃d,gZ b H v d/\vz d=true:=by
 obtain⟨a,t,u,rfl,h1,h2⟩:=h;exact⟨_,.tup h1 (.cons (.int t) (.cons (.int u) .nil)),h2⟩
theorem CO {b:Addr}{H:Hp}:∀ns:Γ3,cC b H (ns.map V.int) (ns.map PyData.int)
 |[]=>.nil
 |n::ns=>.cons (.int n) (CO ns)
def xz {lo hi:Int}{ns:Γ3}(h:∀n∈ns,lo<=n/\n<=hi):(ns.map PyData.int).all (within lo hi)=true:=by
 rw[Xf,Yc];intro n hn;obtain⟨h1,h2⟩:=h n hn;show(decide _&&decide _)=true;rw[decide_eq_true h1,decide_eq_true h2];rfl
def RW.tr {b:Addr}{H:Hp}{v:V}{g:Nat}(h:RW g H v):∃d,gZ b H v d/\(kH g 0 100 d&&FT d)=true:=by
 obtain⟨a,ns,rfl,h1,h2,h3,n,hn,hp⟩:=h;refine⟨_,.tup h1 (CO ns),?_⟩;have e1:kH g 0 100 (.tuple (ns.map PyData.int))=true:=by
  show(decide _&&_)=true;rw[decide_eq_true (show(ns.map PyData.int).length=g by rw[Za];omega),xz h3];rfl
 have e2:FT (.tuple (ns.map PyData.int))=true:=Zv.mpr ⟨.int n,Zd.mpr ⟨n,hn,rfl⟩,by show decide (1<=n)=true;exact decide_eq_true hp⟩;rw[e1,e2];rfl
def Ij {a p w:Ξ1}(h1:1<=a.length)(h2:a.length<=6)(h3:a.all (within 1 60)=true)(h4:1<=p.length)(h5:p.length<=6)(h6:p.all vz=true)(h7:w.length=p.length)(h8:w.all (kH a.length 0 100)=true):iV (.tuple [.tuple a,.tuple p,.tuple w])=true:=by
 show(decide _&&decide _&&_&&(decide _&&decide _&&_)&&(decide _&&_))=true;rw[decide_eq_true h1,decide_eq_true h2,h3,decide_eq_true h4,decide_eq_true h5,h6,decide_eq_true h7,h8];rfl
def jm {a p w:Ξ1}(h:iV (.tuple [.tuple a,.tuple p,.tuple w])=true):1<=a.length/\a.length<=6/\a.all (within 1 60)=true/\1<=p.length/\p.length<=6/\p.all vz=true/\w.length=p.length/\w.all (kH a.length 0 100)=true:=by
 have h':(decide (1<=a.length)&&decide (a.length<=6)&&a.all (within 1 60)&&(decide (1<=p.length)&&decide (p.length<=6)&&p.all vz)&&(decide (w.length=p.length)&&w.all (kH a.length 0 100)))=true:=h;simp only[Z0,decide_eq_true_eq] at h';obtain⟨⟨⟨⟨h1,h2⟩,h3⟩,⟨h4,h5⟩,h6⟩,h7,h8⟩:=h';exact⟨h1,h2,h3,h4,h5,h6,h7,h8⟩
def jX.aA {b:Addr}{H H':Hp}(h:jX H b)(s:az H H'):jX H' b:=by obtain⟨c,d,e⟩:=h;exact⟨c,d,s _ _ e⟩
def Oj {xs:List V}{r:Int}(h0:0<=r)(h1:r<xs.length):fc xs none (some r)=xs.take r.toNat:=by
 have e1:HT.cU xs.length xs.length (some r)=r.toNat:=by
  show(if r<0 then (r+(xs.length:Int)).toNat else min r.toNat xs.length)=_;rw[if_neg (by omega)];omega
 unfold fc;rw[HT.k9,e1];simp
def EE {xs:List V}{r:Int}(h0:0<=r)(h1:r<=xs.length):fc xs (some r) none=xs.drop r.toNat:=by
 have e1:HT.cU xs.length 0 (some r)=r.toNat:=by
  show(if r<0 then (r+(xs.length:Int)).toNat else min r.toNat xs.length)=_;rw[if_neg (by omega)];omega
 unfold fc;rw[HT.k9,e1,Qc];rw[Xk];omega
def DR {n:Nat}{lo hi:Int}{d:PyData}(h:kH n lo hi d=true):∃rs,d=.tuple rs/\rs.length=n/\rs.all (within lo hi)=true:=by
 unfold kH at h;split at h
 .next ds=>simp only[Z0,decide_eq_true_eq] at h;exact⟨ds,rfl,h.1,h.2⟩
 .cases h
theorem Dx {b:Addr}{H:Hp}:∀{xs:List V}{ds:Ξ1},cC b H xs ds->ds.all (within 0 100)=true->∃ns:Γ3,xs=ns.map V.int/\∀n∈ns,0<=n/\n<=100
 |_,_,.nil,_=>⟨[],rfl,λn h=>nomatch h⟩
 |_,_,.cons (x:=x) (d:=d) h t,e=>by
  rw[Y9,Z0] at e;obtain⟨ns,rfl,h2⟩:=Dx t e.2;rcases rZ h with hn |⟨i,rfl,rfl⟩
  .rw[Aw hn] at e;cases e.1
  .have h1:(decide (0<=i)&&decide (i<=100))=true:=e.1;simp only[Z0,decide_eq_true_eq] at h1;refine⟨i::ns,rfl,λn hn=>?_⟩;rcases Zl.mp hn with rfl |hn
   .exact h1
   .exact h2 n hn
structure Nm (mg:Θ3):Prop where
 len:mg "len"=none
 range:mg "range"=none
 tuple:mg "tuple"=none
 list:mg "list"=none
 all:mg "all"=none
 any:mg "any"=none
 max:mg "max"=none
 min:mg "min"=none
 sum:mg "sum"=none
 abs:mg "abs"=none
 int:mg "int"=none
 isinstance:mg "isinstance"=none
 bool:mg "bool"=none
 enumerate:mg "enumerate"=none
 Oq:mg "ValueError"=none
structure kF (K:Θ1)(mg:Θ3)(P:Program)(w:World)(base:Heap)(x:Str)(k:Nat)(ps:Δ2)(sp:Sp)(f:Addr)(fd:FuncData):Prop where
 ok:aO P w K mg base (pi P w) k f fd ps sp
 mg:mg x=some (.ref f)
 kp:PySem.W.keepIn K (.ref f)=true
 bd:Binds K fd ps []
def rz {P:Program}{w:World}{X:Cx}:om (pi P w) X E0:=λ_ _ _ _ _ _ _ h=>by
 obtain⟨_,_,_,_,_,_,_,_,_,_,_,_,_,_,z⟩:=h;exact z.elim
def bL:PyData->Int
 |.int i=>i
 |_=>0
def tP:PyData->Γ3
 |.tuple rs=>rs.map bL
 |_=>[]
def rowsOf (wi:Ξ1):Γ1:=wi.map tP
theorem yJ {b:Addr}{H:Hp}{n:Nat}:∀{xw:List V}{wi:Ξ1},cC b H xw wi->wi.all (kH n 0 100)=true->tu H xw (rowsOf wi)/\∀r∈rowsOf wi,r.length=n/\∀k∈r,0<=k/\k<=100
 |_,_,.nil,_=>⟨.nil,λr h=>nomatch h⟩
 |_,_,.cons (d:=d) h t,e=>by
  rw[Y9,Z0] at e;obtain⟨h1,h2⟩:=yJ t e.2;obtain⟨rs,rfl,hl,hr⟩:=DR e.1;cases h with
  |@tup a xs _ ha hs =>
  obtain⟨ns,rfl,hn⟩:=Dx hs hr;have er:rs=ns.map PyData.int:=by
   clear ha hn hr hl e
   induction ns generalizing rs with
   |nil=>cases hs;rfl
   |cons m ns ih =>
    cases hs with
    |cons hx ht=>cases hx;rw[ih _ ht];rfl
  subst er;have eo:tP (.tuple (ns.map PyData.int))=ns:=by
   show(ns.map PyData.int).map bL=ns;rw[Zj];have:(bL ∘ PyData.int)=λi=>i:=rfl
   rw[this,List.map_id']
  refine⟨?_,λr jN=>?_⟩
  .show tu H _ (tP (.tuple (ns.map PyData.int))::rowsOf _);rw[eo];exact .cons ⟨a,rfl,ha⟩ h1
  .have zU:r=tP (.tuple (ns.map PyData.int))\/r∈rowsOf _:=Zl.mp jN;rcases zU with z |z
   .rw[z,eo];rw[Za] at hl;exact⟨hl,hn⟩
   .exact h2 r z
structure fH (b:Addr)(H:Hp)(p pa pp pw:Addr)(xa xp xw:List V)(am pu wi:Ξ1):Prop where
 hp:H p=some (.tup [.ref pa,.ref pp,.ref pw])
 ha:H pa=some (.tup xa)
 pf:H pp=some (.tup xp)
 hw:H pw=some (.tup xw)
 ta:cC b H xa am
 tp:cC b H xp pu
 tw:cC b H xw wi
 ok:iV (.tuple [.tuple am,.tuple pu,.tuple wi])=true
def fH.of {b p:Addr}{H:Hp}{am pu wi:Ξ1}(h:gZ b H (.ref p) (.tuple [.tuple am,.tuple pu,.tuple wi]))(m:iV (.tuple [.tuple am,.tuple pu,.tuple wi])=true):∃pa pp pw xa xp xw,fH b H p pa pp pw xa xp xw am pu wi:=by
 cases h with
 |@tup _ xs0 _ hp Uu =>
 match xs0,Uu with
 |_,.cons (.tup (a:=pa) (xs:=xa) ha hsa) (.cons (.tup (a:=pp) (xs:=xp) pf BE) (.cons (.tup (a:=pw) (xs:=xw) Fp QC) .nil))=>exact⟨pa,pp,pw,xa,xp,xw,hp,ha,pf,Fp,hsa,BE,QC,m⟩
def fH.aA {b p pa pp pw:Addr}{H H':Hp}{xa xp xw:List V}{am pu wi:Ξ1}(m:fH b H p pa pp pw xa xp xw am pu wi)(s:az H H'):fH b H' p pa pp pw xa xp xw am pu wi :=
 ⟨s _ _ m.hp,s _ _ m.ha,s _ _ m.pf,s _ _ m.hw,m.ta.aA s,m.tp.aA s,m.tw.aA s,m.ok⟩
def fH.lw {b p pa pp pw:Addr}{H:Hp}{xa xp xw:List V}{am pu wi:Ξ1}(m:fH b H p pa pp pw xa xp xw am pu wi):tu H xw (rowsOf wi)/\rowsOf wi≠[]/\(∀r∈rowsOf wi,r.length=xa.length)/\(∀r∈rowsOf wi,∀k∈r,0<=k/\k<=100)/\1<=xa.length/\xa.length<=6/\1<=xw.length/\xw.length<=6/\xp.length=xw.length:=by
 obtain⟨h1,h2,h3,h4,h5,h6,h7,h8⟩:=jm m.ok;obtain⟨r1,r2⟩:=yJ m.tw h8;have la:=m.ta.len;have lp:=m.tp.len;have lw:=m.tw.len;refine⟨r1,?_,λr hr=>by rw[(r2 r hr).1,la],λr hr=>(r2 r hr).2,by omega,by omega,by omega,by omega,by omega⟩;intro z;have:=congrArg List.length z;unfold rowsOf at this;rw[Za] at this;simp at this;rw[this] at h7;simp at h7;omega
def Bf {M:Γ1}{g j:Nat}(hj:j<g):vE (V.int (0+(j:Int))) (vB g M)=has M j:=by
 unfold vE vB;rw[Xz,Ya,Zv];constructor
 .rintro⟨k,hk,e⟩;rw[Zn] at hk;have e':(0+(k:Int))=0+(j:Int):=by simpa[Fb] using e
  have:k=j:=by omega
  subst this;exact hk.2
 .intro h;refine⟨j,by rw[Zn];exact⟨by simpa using hj,h⟩,by simp[Fb]⟩
def uU (g:Nat)(M:Γ1):(vB g M).all gI=true:=by
 unfold vB;rw[Xf];simp[Function.comp_def,gI]
def Bz (wd:Bool):PyData->Bool
 |.tuple [.int t,.int u]=>bV (.tuple [.int t,.int u])&&(if wd then decide (0<t) else decide (t=0)&&decide (u=1))
 |_=>false
def eS (g:Nat)(M:Γ1):PyData->Bool
 |.tuple ds=>decide (ds.length=g)&&(List.range g).all λj=>Bz (has M j) (ds.getD j .none)
 |_=>false
def oU {wd:Bool}{d:PyData}(h:bV d=false):Bz wd d=false:=by
 unfold Bz;split
 .rw[h];rfl
 .rfl
def Ev {g:Nat}{M:Γ1}{d:PyData}(h:Up d=false):eS g M d=false:=by cases d<;>first |rfl |cases h
def Ep {a b X Y:Int}(hb:0<b)(hY:0<Y)(g1:Int.gcd a b=1)(g2:Int.gcd X Y=1)(h:X*b=a*Y):X=a/\Y=b:=by
 have d1:Y∣b:=by
  have q:Y∣X*b:=⟨a,by rw[h,Int.mul_comm]⟩;rw[<- Int.dvd_gcd_mul_iff_dvd_mul,Int.gcd_comm,g2] at q;simpa using q
 have d2:b∣Y:=by
  have q:b∣a*Y:=⟨X,by rw[<- h,Int.mul_comm]⟩;rw[<- Int.dvd_gcd_mul_iff_dvd_mul,Int.gcd_comm,g1] at q;simpa using q
 have e:Y=b:=Int.dvd_antisymm (by omega) (by omega) d1 d2;subst e;exact⟨Int.eq_of_mul_eq_mul_right (by omega) h,rfl⟩
def den_pos (q:Rat):(0:Int)<(q.den:Int):=by have:=q.den_nz;omega
def yM (q:Rat):Int.gcd q.num (q.den:Int)=1:=q.reduced
def nX {T U:Int}(hU:U≠0):nx T U=(Rat.divInt T U).num/\ny T U=((Rat.divInt T U).den:Int):=by
 obtain⟨n1,n2,n3,_⟩:=jA (t:=T) hU;have hd:=den_pos (Rat.divInt T U);have h1:T*((Rat.divInt T U).den:Int)=(Rat.divInt T U).num*U:=by
  rw[<- Ji hU (by omega),Xd]
 refine Ep hd n2 (yM _) n3 ?_;have e:nx T U*((Rat.divInt T U).den:Int)*U=(Rat.divInt T U).num*ny T U*U:=by
  calc nx T U*((Rat.divInt T U).den:Int)*U=nx T U*U*((Rat.divInt T U).den:Int):=by rw[Int.mul_right_comm]
   _=T*ny T U*((Rat.divInt T U).den:Int):=by rw[n1]
   _=T*((Rat.divInt T U).den:Int)*ny T U:=by rw[Int.mul_right_comm]
   _=(Rat.divInt T U).num*U*ny T U:=by rw[h1]
   _=(Rat.divInt T U).num*ny T U*U:=by rw[Int.mul_right_comm]
 exact Int.eq_of_mul_eq_mul_right hU e
abbrev qO (q:Rat):HO:=.tup [.int q.num,.int (q.den:Int)]
def Rb (k:Nat)(q:Rat):Prop:=Bd k q.num/\Bd k (q.den:Int)
def Rb.mono {j k:Nat}{q:Rat}(h:Rb j q)(hk:j<=k):Rb k q:=⟨h.1.mono hk,h.2.mono hk⟩
def mT {q:Rat}:0<q↔0<q.num:=by
 rw[Rat.lt_iff];simp
def C6 {t u:Int}(hu:0<u)(hg:Int.gcd t u=1):∃q:Rat,q.num=t/\(q.den:Int)=u:=by
 refine⟨⟨t,u.toNat,by omega,?_⟩,rfl,by show((u.toNat:Nat):Int)=u;omega⟩;show Nat.gcd t.natAbs u.toNat=1;have:u.toNat=u.natAbs:=by omega
 rw[this];exact hg
def sq (a b:Rat):Rat.divInt (a.num*b.den+b.num*a.den) (a.den*b.den)=a+b:=by
 rw[<- Rat.divInt_add_divInt _ _ (by have:=den_pos a;omega) (by have:=den_pos b;omega),Xd,Xd]
def kN (a b:Rat):Rat.divInt (a.num*b.num) (a.den*b.den)=a*b:=by
 rw[<- Rat.divInt_mul_divInt,Xd,Xd]
def kR {a b:Rat}(hb:b.num≠0):Rat.divInt (a.num*b.den) (a.den*b.num)=a / b:=by
 rw[Rat.div_def,Rat.inv_def];conv=>rhs;rw[<- Xd a]
 rw[Rat.divInt_mul_divInt]
def Dq (a b:Rat):(a.num*b.den<b.num*a.den)=(a<b):=propext (Rat.lt_iff a b).symm
def nU {k:Nat}{T U:Int}(hU:U≠0)(h1:Bd k T)(h2:Bd k U):Rb k (Rat.divInt T U):=by
 obtain⟨e1,e2⟩:=nX (T:=T) hU;obtain⟨_,_,_,_,n5,n6⟩:=jA (t:=T) hU;refine⟨?_,?_⟩
 .rw[<- e1];exact h1.le n5
 .rw[<- e2];exact h2.le n6
def Bd.add {j:Nat}{a b:Int}(ha:Bd j a)(hb:Bd j b):Bd (j+1) (a+b):=by
 unfold Bd at *;rw[Nat.pow_succ];omega
def C5 {j k:Nat}{a b:Rat}(ha:Rb j a)(hb:Rb k b):Rb (j+k+1) (a+b):=by
 rw[<- sq];have h2:(a.den:Int)*b.den≠0:=Int.ne_of_gt (Y4 (den_pos a) (den_pos b));refine nU h2 (Bd.add (ha.1.mul hb.2) ?_) ((ha.2.mul hb.2).mono (by omega));have:=hb.1.mul ha.2;exact Bd.mono this (by omega)
def ft {j k:Nat}{a b:Rat}(ha:Rb j a)(hb:Rb k b):Rb (j+k) (a*b):=by
 rw[<- kN];have h2:(a.den:Int)*b.den≠0:=Int.ne_of_gt (Y4 (den_pos a) (den_pos b));exact nU h2 (ha.1.mul hb.1) (ha.2.mul hb.2)
def B5 (Nn:Addr):Sp:=λvs H Q E=>∃(t u:Int),vs=[.int t,.int u]/\Bd 8000 u/\(u=0->E (.ref Nn) none H)/\(u≠0->∀p,H p=none->Q (.ref p) (aF H p (qO (Rat.divInt t u))))
def nu:Sp:=λvs H Q _=>∃(t u:Int),vs=[.int t,.int u]/\0<u/\Bd 8000 u/\∀p,H p=none->Q (.ref p) (aF H p (qO (Rat.divInt t u)))
def vp (op:Rat->Rat->Rat):Sp:=λvs H Q _=>∃(p q:Addr) (a b:Rat),vs=[.ref p,.ref q]/\H p=some (qO a)/\H q=some (qO b)/\Rb 3000 a/\Rb 3000 b/\∀r,H r=none->Q (.ref r) (aF H r (qO (op a b)))
def rn (Nn:Addr):Sp:=λvs H Q E=>∃(p q:Addr) (a b:Rat),vs=[.ref p,.ref q]/\H p=some (qO a)/\H q=some (qO b)/\Rb 3000 a/\Rb 3000 b/\(b=0->E (.ref Nn) none H)/\(b≠0->∀r,H r=none->Q (.ref r) (aF H r (qO (a / b))))
def gh:Sp:=λvs H Q _=>∃(p q:Addr) (a b:Rat),vs=[.ref p,.ref q]/\H p=some (qO a)/\H q=some (qO b)/\Rb 3000 a/\Rb 3000 b/\Q (.bl (decide (a<b))) H
def qPl:Rat->Rat->Rat:=λa b=>a+b
def iT:Rat->Rat->Rat:=λa b=>a*b
def b3 {n:Int}(h:Bd 3000 n):Bd 8000 n:=h.mono (by decide)
def b6 {n:Int}(h:Bd (3000+3000) n):Bd 8000 n:=h.mono (by decide)
def Jt {k:Nat}{t u:Int}(h:Bd k u)(hu:u≠0):Bd k (sg t u):=by
 refine h.le ?_;have g0:0<Int.gcd t u:=Q7 t hu;have e:(sg t u).natAbs=Int.gcd t u:=by unfold sg;split<;>omega
 rw[e];exact Nat.le_of_dvd (by omega) (Int.gcd_dvd_natAbs_right t u)
def uG {a:Int}:(if a<0 then -a else a)=(Int.gcd a 0:Int):=by
 rw[Int.gcd_zero_right];split<;>omega
def nR:Sp:=λvs H Q _=>∃(t u:Int),vs=[.int t,.int u]/\Q (.int (Int.gcd t u)) H
def mU {g:Nat}{M:Γ1}{ds:Ξ1}:eS g M (.tuple ds)=true↔ds.length=g/\∀j,j<g->Bz (has M j) (ds.getD j .none)=true:=by
 show(decide (ds.length=g)&&(List.range g).all λj=>Bz (has M j) (ds.getD j .none))=true↔_;rw[Z0,decide_eq_true_eq,Yc];constructor
 .rintro⟨h1,h2⟩;exact⟨h1,λj hj=>h2 j (by simpa using hj)⟩
 .rintro⟨h1,h2⟩;exact⟨h1,λj hj=>h2 j (by simpa using hj)⟩
def qD (q:Rat):PyData:=.tuple [.int q.num,.int (q.den:Int)]
def Ew (q:Rat):bV (qD q)=true:=by
 have h:=den_pos q;show(decide (1<=(q.den:Int))&&decide (Int.gcd q.num (q.den:Int)=1))=true;rw[decide_eq_true (show 1<=(q.den:Int) by omega),decide_eq_true (yM q)];rfl
def Oe {d:PyData}(h:bV d=true):∃q:Rat,d=qD q:=by
 obtain⟨t,u,rfl,hu,hg⟩:=qy h;obtain⟨q,e1,e2⟩:=C6 (t:=t) (u:=u) (by omega) (by omega);exact⟨q,by unfold qD;rw[e1,e2]⟩
def lW {wd:Bool}{q:Rat}:Bz wd (qD q)=true↔(if wd=true then 0<q else q=0):=by
 show(bV (qD q)&&(if wd then decide (0<q.num) else decide (q.num=0)&&decide ((q.den:Int)=1)))=true↔_;rw[Ew];cases wd with
 |true=>simp[mT]
 |false =>
  simp;rintro rfl;rfl
structure sT (M:Γ1)(qs:Δ1):Prop where
 pos:∀j,j<qs.length->has M j=true->0<qs.getD j 0
 nil:∀j,j<qs.length->has M j=false->qs.getD j 0=0
def sN {α β : Type}{f:α->β}{xs:List α}{j:Nat}{a:α}{b:β}(h:j<xs.length):(xs.map f).getD j b=f (xs.getD j a):=by
 simp[List.getD,Zh,Zc h]
def Cq {g:Nat}{M:Γ1}{qs:Δ1}:eS g M (.tuple (qs.map qD))=true↔qs.length=g/\sT M qs:=by
 rw[mU,Za];constructor
 .rintro⟨h1,h2⟩;refine⟨h1,⟨λj hj hh=>?_,λj hj hh=>?_⟩⟩
  .have:=h2 j (by omega);rw[sN (a:=0) hj,lW,hh] at this;exact this
  .have:=h2 j (by omega);rw[sN (a:=0) hj,lW,hh] at this;exact this
 .rintro⟨h1,h2⟩;refine⟨h1,λj hj=>?_⟩;rw[sN (a:=0) (by omega),lW];cases hh:has M j with
  |true=>exact h2.pos j (by omega) hh
  |false=>exact h2.nil j (by omega) hh
def D2 {g:Nat}{M:Γ1}{d:PyData}(h:eS g M d=true):∃qs:Δ1,d=.tuple (qs.map qD)/\qs.length=g/\sT M qs:=by
 cases d with
 |tuple ds =>
  obtain⟨h1,h2⟩:=mU.mp h;have:∃qs:Δ1,ds=qs.map qD:=by
   have Gg:∀d∈ds,∃q:Rat,d=qD q:=λd hd=>by
    obtain⟨j,hj,e⟩:=Yt hd;have:=h2 j (by omega);have e2:ds.getD j .none=d:=by simp[List.getD,Zc hj,e]
    rw[e2] at this;cases hf:bV d with
    |true=>exact Oe hf
    |false=>rw[oU hf] at this;cases this
   clear h h1 h2
   induction ds with
   |nil=>exact⟨[],rfl⟩
   |cons d ds ih =>
    obtain⟨q,rfl⟩:=Gg d (Zm);obtain⟨qs,rfl⟩:=ih λd hd=>Gg d (Zq _ hd)
    exact⟨q::qs,rfl⟩
  obtain⟨qs,rfl⟩:=this;exact⟨qs,rfl,Cq.mp h⟩
 |_=>cases h
def worse (row:Γ3)(qs:Δ1)(g o:Nat):Bool:=decide (0<row.getD o 0)&&decide ((row.getD g 0:Rat)*qs.getD o 0<(row.getD o 0:Rat)*qs.getD g 0)
def cZ (row:Γ3)(qs:Δ1)(g:Nat):Bool:=decide (row.getD g 0≠0)&&(List.range row.length).all λo=>!worse row qs g o
def bE (row:Γ3)(qs:Δ1):List Nat:=(List.range row.length).filter (cZ row qs)
def ah (M:Γ1)(qs:Δ1):Γ1:=M.map λrow=>(bE row qs).map λg:Nat=>(g:Int)
def cz (gs:List Nat)(best:Γ3):Bool:=best.any λg=>gs.any λh=>decide ((h:Int)=g)
def cO (M:Γ1)(qs:Δ1)(gs:List Nat):List Nat:=(List.range M.length).filter λi=>cz gs ((ah M qs).getD i [])
def cj (gs:List Nat):List V:=gs.map λg:Nat=>V.int (g:Int)
structure Cd (b:Addr)(H:Hp)(p pa pp pw:Addr)(xa xp xw:List V)(am pu wi:Ξ1)(v:V)(d:PyData):Prop where
 m:fH b H p pa pp pw xa xp xw am pu wi
 tr:gZ b H v d
 wd:∀qs:Δ1,d=.tuple (qs.map qD)->∀z∈qs,Rb 300 z
def Cd.aA {b:Addr}{H H':Hp}{p pa pp pw:Addr}{xa xp xw:List V}{am pu wi:Ξ1}{v:V}{d:PyData}(a:Cd b H p pa pp pw xa xp xw am pu wi v d)(s:az H H'):Cd b H' p pa pp pw xa xp xw am pu wi v d:=⟨a.m.aA s,a.tr.aA s,a.wd⟩
def Js:Sp:=λvs H Q _=>∃(b p pa pp pw:Addr) (xa xp xw:List V) (am pu wi:Ξ1) (v:V) (d:PyData),vs=[.ref p,v]/\fH b H p pa pp pw xa xp xw am pu wi/\gZ b H v d/\∀H',az H H'->Q (.bl (eS xa.length (rowsOf wi) d)) H'
def rq (Pr:Addr):Sp:=λvs H Q E=>∃(b p pa pp pw:Addr) (xa xp xw:List V) (am pu wi:Ξ1) (v:V) (d:PyData),vs=[.ref p,v]/\Cd b H p pa pp pw xa xp xw am pu wi v d /\
 (eS xa.length (rowsOf wi) d=false->∀H',az H H'->E (.ref Pr) none H') /\
 (∀qs:Δ1,d=.tuple (qs.map qD)->qs.length=xa.length->sT (rowsOf wi) qs->∀(r:Addr) (xs:List V) (H':Hp),az H H'->H' r=some (.tup xs)->tu H' xs (ah (rowsOf wi) qs)->Q (.ref r) H')
def rV (x:Rat):x*(((x.den:Int):Int):Rat)=(x.num:Rat):=by
 have hd:=den_pos x;rw[<- kN,Rat.num_intCast,Rat.den_intCast,<- Xd (x.num:Rat),Rat.num_intCast,Rat.den_intCast,Ji (by simpa using(by omega:(x.den:Int)≠0)) (by decide)];simp
def Av {a b:Int}{x y:Rat}:((a:Rat)*x<(b:Rat)*y)↔(a*x.num*y.den<b*y.num*x.den):=by
 have hx:=den_pos x;have hy:=den_pos y;have pc:(0:Rat)<(((x.den:Int)*(y.den:Int):Int):Rat):=by
  have:(0:Rat)=((0:Int):Rat):=rfl;rw[this,Qs];exact Y4 hx hy
 rw[<- Rat.mul_lt_mul_left pc,<- Qs];have e1:(((x.den:Int)*(y.den:Int):Int):Rat)*((a:Rat)*x)=((a*x.num*y.den:Int):Rat):=by
  rw[Y5,Y5,Y5,<- rV x];simp only[Rat.mul_assoc,Rat.mul_comm]
  grind
 have e2:(((x.den:Int)*(y.den:Int):Int):Rat)*((b:Rat)*y)=((b*y.num*x.den:Int):Rat):=by
  rw[Y5,Y5,Y5,<- rV y]
  grind
 rw[e1,e2]
def u7 {k:Nat}{n:Int}(h:Bd k n)(hk:1<=k):Rb k (n:Rat):=⟨h,by
 show Bd k ((1:Nat):Int);unfold Bd;exact Nat.one_lt_two_pow (by omega)⟩
def jw (H:Hp)(ys:List V)(qs:Δ1):Prop:=ys.length=qs.length/\∀(j:Nat) y,ys[j]?=some y->∃a,y=.ref a/\H a=some (qO (qs.getD j 0))
def jw.aA {H H':Hp}{ys:List V}{qs:Δ1}(h:jw H ys qs)(s:az H H'):jw H' ys qs:=⟨h.1,λj y hy=>by obtain⟨a,e,z⟩:=h.2 j y hy;exact⟨a,e,s _ _ z⟩⟩
def Ir {b:Addr}{H:Hp}{a:Addr}{xs:List V}{x y:Int}(ha:H a=some (.tup xs))(hs:cC b H xs [.int x,.int y]):H a=some (.tup [.int x,.int y]):=by
 cases hs with |cons h1 t1=>?_
 cases h1
 cases t1 with |cons h2 t2=>?_
 cases h2
 cases t2
 exact ha
theorem jw.of {b:Addr}{H:Hp}:∀{ys:List V}{qs:Δ1},cC b H ys (qs.map qD)->jw H ys qs
 |[],[],_=>⟨rfl,λj y h=>by simp at h⟩
 |y::ys,q::qs,.cons h t=>by
  have ih:=jw.of t;refine⟨by simp[ih.1],λj z hz=>?_⟩;cases j with
  |zero =>
   have e:y=z:=by simpa using hz
   subst e;unfold qD at h;cases h with
   |@tup a xs _ ha hs =>
   exact⟨a,rfl,Ir ha hs⟩
  |succ j=>exact ih.2 j z (by simpa using hz)
def jw.at {H:Hp}{ys:List V}{qs:Δ1}(h:jw H ys qs){g:Nat}(hg:g<qs.length):∃a,iF ys (g:Int)=some (.ref a)/\H a=some (qO (qs.getD g 0)):=by
 have hl:g<ys.length:=by rw[h.1];exact hg
 have e:=Zc hl;obtain⟨a,e2,z⟩:=h.2 g _ e;rw[e2] at e;exact⟨a,m9 e,z⟩
def jw.app {H:Hp}{ys:List V}{qs:Δ1}(h:jw H ys qs){a:Addr}{q:Rat}(ha:H a=some (qO q)):jw H (ys++[.ref a]) (qs++[q]):=by
 refine⟨by simp[h.1],λj y hy=>?_⟩;rcases Yg j ys.length with z |z
 .rw[Z4 z] at hy;obtain⟨c,e,hc⟩:=h.2 j y hy;refine⟨c,e,?_⟩;have:(qs++[q]).getD j 0=qs.getD j 0:=by simp[List.getD,Z4 (h.1▸z)]
  rw[this];exact hc
 .have:j=ys.length:=by
   have:=(Zf.mp hy).1;simp at this;omega
  subst this;simp at hy;subst hy;refine⟨a,rfl,?_⟩;have:(qs++[q]).getD ys.length 0=q:=by rw[h.1];simp[List.getD]
  rw[this];exact ha
def jw.tm {H H':Hp}{ys:List V}{qs:Δ1}(h:jw H ys qs)(s:Tm H H'):jw H' ys qs:=⟨h.1,λj y hy=>by obtain⟨a,e,z⟩:=h.2 j y hy;exact⟨a,e,s _ _ z⟩⟩
def bz (qs:Δ1):Rat:=qs.foldl (λs q=>s+q) 0
def vd {α : Type}{xs:List α}{i:Nat}{x:α}(h:xs[i]?=some x):xs.take (i+1)=xs.take i++[x]:=by rw[Qd,h];rfl
def qi (qs:Δ1)(q:Rat):bz (qs++[q])=bz qs+q:=by unfold bz;rw[List.foldl_append];rfl
def jy:Rb 1 (0:Rat):=by unfold Rb Bd;decide+kernel
theorem yG {qs:Δ1}{k:Nat}(h:∀q∈qs,Rb k q):∀i,Rb (1+(k+1)*i) (bz (qs.take i))
 |0=>jy
 |i+1=>by
  have ih:=yG h i;cases e:qs[i]? with
  |none =>
   have:qs.take (i+1)=qs.take i:=by rw[Qd,e];simp
   rw[this];exact ih.mono (by rw[Nat.mul_succ];omega)
  |some q =>
   rw[vd e,qi];refine(C5 ih (h q (Zu e))).mono ?_;rw[Nat.mul_succ];omega
def xL:Sp:=λvs H Q _=>∃(l:Addr) (ys:List V) (qs:Δ1),vs=[.ref l]/\H l=some (.lst ys)/\jw H ys qs/\(∀q∈qs,Rb 300 q)/\qs.length<=8/\∀(r:Addr) (H':Hp),az H H'->H' r=some (qO (bz qs))->Q (.ref r) H'
theorem Kj {b:Addr}{H:Hp}:∀{xa:List V}{am:Ξ1},cC b H xa am->am.all (within 1 60)=true->xa=(am.map bL).map V.int/\∀n∈am.map bL,1<=n/\n<=60
 |_,_,.nil,_=>⟨rfl,λn hn=>nomatch hn⟩
 |_,_,.cons (d:=d) h t,h3=>by
  rw[Y9,Z0] at h3;obtain⟨e,hb⟩:=Kj t h3.2;obtain⟨n,rfl,n1,n2⟩:∃n:Int,d=.int n/\1<=n/\n<=60:=by
   have:=h3.1;unfold within at this;split at this
   .simp at this;exact⟨_,rfl,this⟩
   .cases this
  cases h
  refine⟨by rw[e];simp[bL],λk hk=>?_⟩;rcases Zl.mp hk with rfl |hk
  .exact⟨n1,n2⟩
  .exact hb k hk
theorem fH.am {b p pa pp pw:Addr}{H:Hp}{xa xp xw:List V}{am pu wi:Ξ1}(m:fH b H p pa pp pw xa xp xw am pu wi):xa=(am.map bL).map V.int/\∀n∈am.map bL,1<=n/\n<=60:=by
 obtain⟨_,_,h3,_⟩:=jm m.ok;exact Kj m.ta h3
structure tM (b:Addr)(H:Hp)(q:Addr)(ys:List V)(qs:Δ1):Prop where
 hq:H q=some (.tup ys)
 tr:cC b H ys (qs.map qD)
 bd:∀z∈qs,Rb 293 z
def tM.aA {b:Addr}{H H':Hp}{q:Addr}{ys:List V}{qs:Δ1}(h:tM b H q ys qs)(s:az H H'):tM b H' q ys qs:=⟨s _ _ h.hq,h.tr.aA s,h.bd⟩
def tM.rb {b:Addr}{H:Hp}{q:Addr}{ys:List V}{qs:Δ1}(h:tM b H q ys qs)(g:Nat):Rb 293 (qs.getD g 0):=by
 by_cases hg:g<qs.length
 .have:qs.getD g 0∈qs:=by simp[List.getD,Zc hg]
  exact h.bd _ this
 .have:qs.getD g 0=0:=by simp[List.getD,Yw (Xl hg)]
  rw[this];exact jy.mono (by decide)
end KM
namespace L2
open PySem PySem.Spec PyProof.Rows
end L2
namespace KM
open PySem L2 KG EX
theorem zk {b:Addr}{H:Hp}:∀(ns:Γ3),cC b H (ns.map V.int) (ns.map PyData.int)
 |[]=>.nil
 |n::ns=>.cons (.int n) (zk ns)
def aS (ns:Γ3):PyData:=.tuple (ns.map PyData.int)
theorem C3 {b:Addr}{H:Hp}:∀{xs:List V}{M:Γ1},tu H xs M->cC b H xs (M.map aS)
 |_,_,.nil=>.nil
 |_,_,.cons ⟨a,e,h⟩ t=>by
  subst e;exact .cons (.tup h (zk _)) (C3 t)
def CH (q:Rat):(qD q).depth<=1:=by unfold qD;simp[PyData.depth,PyData.depthAll]
def wX (gs:List Nat):cj gs=(gs.map λg:Nat=>(g:Int)).map V.int:=by unfold cj;rw[Zj];rfl
def P5 (gs:List Nat)(n:Int):Bool:=gs.any λh=>decide ((h:Int)=n)
def Il (gs:List Nat)(n:Int):vE (V.int n) (cj gs)=P5 gs n:=by
 unfold vE cj P5;rw[Xz]
 congr 1
def Bi (gs:List Nat):(cj gs).all gI=true:=by
 unfold cj;rw[Xf];simp[Function.comp_def,gI]
def rO {d:PyData}(h:vz d=true):∃q:Rat,d=qD q/\0<q/\Rb 20 q:=by
 obtain⟨t,u,rfl⟩:=oP h;have h':(decide (1<=u)&&decide (Int.gcd t u=1)&&decide (1<=t)&&decide (t<=1000000)&&decide (u<=1000000))=true:=h;simp only[Z0,decide_eq_true_eq] at h';obtain⟨⟨⟨⟨h1,h2⟩,h3⟩,h4⟩,h5⟩:=h';obtain⟨q,e1,e2⟩:=C6 (t:=t) (u:=u) (by omega) h2;refine⟨q,by unfold qD;rw[e1,e2],mT.mpr (by omega),?_,?_⟩
 .unfold Bd;omega
 .unfold Bd;omega
theorem ui:∀{pu:Ξ1},pu.all vz=true->∃ps:Δ1,pu=ps.map qD/\∀q∈ps,0<q/\Rb 20 q
 |[],_=>⟨[],rfl,λq h=>nomatch h⟩
 |d::pu,h=>by
  rw[Y9,Z0] at h;obtain⟨q,rfl,h1,h2⟩:=rO h.1;obtain⟨ps,rfl,hp⟩:=ui h.2;refine⟨q::ps,rfl,λz hz=>?_⟩;rcases Zl.mp hz with rfl |hz
  .exact⟨h1,h2⟩
  .exact hp z hz
def OE:PyData->Rat
 |.tuple [.int t,.int u]=>Rat.divInt t u
 |_=>0
def i8 (q:Rat):OE (qD q)=q:=Xd q
def qS (pu:Ξ1):Δ1:=pu.map OE
theorem fH.pu {b p pa pp pw:Addr}{H:Hp}{xa xp xw:List V}{am pu wi:Ξ1}(m:fH b H p pa pp pw xa xp xw am pu wi):pu=(qS pu).map qD/\∀q∈qS pu,0<q/\Rb 20 q:=by
 obtain⟨_,_,_,_,_,h6,_⟩:=jm m.ok;obtain⟨ps,e,hp⟩:=ui h6;have:qS pu=ps:=by
  rw[e];unfold qS;rw[Zj];have:(OE ∘ qD)=id:=by funext q;exact i8 q
  rw[this,Xc]
 rw[this];exact⟨e,hp⟩
def fH.fp {b p pa pp pw:Addr}{H:Hp}{xa xp xw:List V}{am pu wi:Ξ1}(m:fH b H p pa pp pw xa xp xw am pu wi):jw H xp (qS pu):=by
 have h:=m.tp;rw[m.pu.1] at h;exact jw.of h
def yK {k:Nat}{qs:Δ1}(hk:1<=k)(h:∀q∈qs,Rb k q)(g:Nat):Rb k (qs.getD g 0):=by
 by_cases hg:g<qs.length
 .have:qs.getD g 0∈qs:=by simp[List.getD,Zc hg]
  exact h _ this
 .have:qs.getD g 0=0:=by simp[List.getD,Yw (Xl hg)]
  rw[this];exact jy.mono hk
def ci (ps:Δ1)(bs:List Nat):Rat:=bz (bs.map λi=>ps.getD i 0)
def tO:Sp:=λvs H Q _=>∃(p q:Addr) (a b:Rat),vs=[.ref p,.ref q]/\H p=some (qO a)/\H q=some (qO b)/\Rb 3000 a/\Rb 3000 b/\0<b/\∀r,H r=none->Q (.ref r) (aF H r (qO (a / b)))
def jz {j k:Nat}{a b:Rat}(ha:Rb j a)(hb:Rb k b)(h:b≠0):Rb (j+k) (a / b):=by
 have hn:b.num≠0:=λz=>h (Rat.num_eq_zero.mp z)
 rw[<- kR hn];refine nU ?_ (ha.1.mul hb.2) (ha.2.mul hb.1);intro z;rcases Int.mul_eq_zero.mp z with y |y
 .have:=den_pos a;omega
 .exact hn y
def cY (ns:Γ3)(mask:Nat):Γ3:=((List.range ns.length).filter λk=>decide (mask / 2 ^ k % 2=1)).map λk=>ns.getD k 0
def aB (ns:Γ3):Γ1:=(List.range (2 ^ ns.length)).map (cY ns)
def dk (c:Int)(ms:Γ3)(qs:Δ1):Prop:=ms.length=qs.length/\∀j,j<qs.length->((ms.getD j 0:Int):Rat)=(c:Rat)*qs.getD j 0
def d7 (am:Γ3)(qs:Δ1):Δ1:=(List.range qs.length).map λg=>qs.getD g 0*((am.getD g 0:Int):Rat)
end KM
namespace L2
open PySem PySem.Spec PyProof.Rows
section
variable {κ : Type}[DecidableEq κ]
def gD (kvs:List (κ × V))(k:κ):Option V:=(kvs.find? λkv=>decide (kv.1=k)).map (·.2)
def iR (kvs:List (κ × V))(k:κ)(v:V):List (κ × V) :=
 if (kvs.any λkv=>decide (kv.1=k))=true then kvs.map (λkv=>if kv.1=k then (kv.1,v) else kv) else kvs++[(k,v)]
def jg {p:κ × V}{r:List (κ × V)}{k:κ}(e:p.1=k):gD (p::r) k=some p.2:=by simp[gD,Qe,e]
def jh {p:κ × V}{r:List (κ × V)}{k:κ}(e:¬ p.1=k):gD (p::r) k=gD r k:=by simp[gD,Qe,e]
theorem kW (k:κ):∀kvs:List (κ × V),(kvs.any λkv=>decide (kv.1=k))=(gD kvs k).isSome
 |[]=>rfl
 |p::r=>by
  rw[Xr];by_cases e:p.1=k
  .simp only[jg e,decide_eq_true e,Bool.true_or,Option.isSome_some]
  .rw[jh e,decide_eq_false e,Bool.false_or];exact kW k r
def md (kvs:List (κ × V))(k:κ)(v:V):(iR kvs k v).length<=kvs.length+1:=by
 unfold iR;split
 .rw[Za];omega
 .rw[Z5,Xy,List.length_nil];omega
def uh {kvs:List (κ × V)}{k:κ}(v:V)(h:gD kvs k=none):iR kvs k v=kvs++[(k,v)]:=by
 unfold iR;rw[kW,h];exact if_neg (by decide)
def aJ.A9 {o:Option V}{u:Φ1}(r:aJ o u):o.isSome=u.isSome:=by
 cases o with
 |none=>cases u with
  |none=>rfl
  |some _=>exact(show False from r).elim
 |some _=>cases u with
  |none=>exact(show False from r).elim
  |some _=>rfl
def KV.val {kvs:List (κ × V)}{vs:List (κ × Value)}(r:KV kvs vs)(k:κ):aJ (gD kvs k) (valueAt vs k):=by
 unfold KV at r;induction r with
 |nil=>exact True.intro
 |@cons p q ps qs h t ih =>
  obtain⟨h1,h2⟩:=h;by_cases e:p.1=k
  .have e':q.1=k:=h1.symm.trans e;have b:valueAt (q::qs) k=some q.2:=by simp[valueAt,Qe,e']
   rw[jg e,b];exact h2
  .have e':¬ q.1=k:=λz=>e (h1.trans z)
   have b:valueAt (q::qs) k=valueAt qs k:=by simp[valueAt,Qe,e']
   rw[jh e,b];exact ih
def KV.any {kvs:List (κ × V)}{vs:List (κ × Value)}(r:KV kvs vs)(k:κ):(kvs.any λkv=>decide (kv.1=k))=vs.any λkv=>decide (kv.1=k):=by
 unfold KV at r;induction r with
 |nil=>rfl
 |cons h t ih=>rw[Xr,Xr,ih,h.1]
def KV.LI {kvs:List (κ × V)}{vs:List (κ × Value)}(r:KV kvs vs)(k:κ){y:V}{u:Value}(ry:RelV y u) :
  KV (kvs.map λkv=>if kv.1=k then (kv.1,y) else kv) (vs.map λkv=>if kv.1=k then (kv.1,u) else kv):=by
 unfold KV at r ⊢;induction r with
 |nil=>exact .nil
 |@cons p q ps qs h t ih =>
  rw[Zs,Zs];refine .cons ?_ ih;obtain⟨h1,h2⟩:=h;by_cases e:p.1=k
  .rw[if_pos e,if_pos (h1.symm.trans e)];exact⟨h1,ry⟩
  .rw[if_neg e,if_neg (λz=>e (h1.trans z))];exact⟨h1,h2⟩
def KV.put {kvs:List (κ × V)}{vs:List (κ × Value)}(r:KV kvs vs)(k:κ){y:V}{u:Value}(ry:RelV y u):KV (iR kvs k y) (stored vs k u):=by
 unfold iR stored;rw[r.any k];by_cases e:(vs.any λkv=>decide (kv.1=k))=true
 .rw[if_pos e,if_pos e];exact r.LI k ry
 .rw[if_neg e,if_neg e];exact Paired.snoc r ⟨rfl,ry⟩
def KV.keys {kvs:List (κ × V)}{vs:List (κ × Value)}(r:KV kvs vs):kvs.map (·.1)=vs.map (·.1):=by
 unfold KV at r;induction r with
 |nil=>rfl
 |cons h t ih=>rw[Zs,Zs,ih,h.1]
def KV.length {kvs:List (κ × V)}{vs:List (κ × Value)}(r:KV kvs vs):kvs.length=vs.length:=Paired.length r
end
def Cy {P:Program}{w:World}{k:b9}{u:Value}(r:RelV (kV k) u):(l4 P w).is k u=true:=by
 cases k with
 |inl i=>obtain⟨t,e⟩:=(show ∃t,u=Value.int i t from r);subst e;exact uT P w i t
 |inr x=>obtain⟨t,e⟩:=(show ∃t,u=Value.str x t from r);subst e;exact uS P w x t
theorem qu {P:Program}{w:World}:∀{ks:List b9}{us:Δ3},be (ks.map kV) us->ItemsAre (l4 P w) ks us
 |[],_,r=>by rw[X8] at r;cases r;exact .nil
 |k::ks,_,r=>by
  rw[Zs] at r;cases r with
  |cons h t=>exact .cons (Cy h) (qu t)
abbrev KT (H:Hp):List (List b9×V)->List (List b9×Addr×Value)->Prop:=Paired λp q=>p.1=q.1/\H q.2.1=some (.tup (p.1.map kV))/\RelV p.2 q.2.2
def KT.val {H:Hp}{kvs:List (List b9×V)}{xs:List (List b9×Addr×Value)}(r:KT H kvs xs)(k:List b9):aJ (gD kvs k) ((atKey xs k).map (·.2)):=by
 induction r with
 |nil=>exact True.intro
 |@cons p q ps qs h t ih =>
  obtain⟨h1,_,h2⟩:=h;by_cases e:p.1=k
  .have e':q.1=k:=h1.symm.trans e;have b:atKey (q::qs) k=some q.2:=by simp[atKey,Qe,e']
   rw[jg e,b];exact h2
  .have e':¬ q.1=k:=λz=>e (h1.trans z)
   have b:atKey (q::qs) k=atKey qs k:=by simp[atKey,Qe,e']
   rw[jh e,b];exact ih
def KT.LI {H:Hp}{kvs:List (List b9×V)}{xs:List (List b9×Addr×Value)}(r:KT H kvs xs)(k:List b9){y:V}{u:Value}(ry:RelV y u) :
  KT H (kvs.map λkv=>if kv.1=k then (kv.1,y) else kv) (xs.map (putAt k u)):=by
 induction r with
 |nil=>exact .nil
 |@cons p q ps qs h t ih =>
  rw[Zs,Zs];refine .cons ?_ ih;obtain⟨h1,h2,h3⟩:=h;unfold putAt;by_cases e:p.1=k
  .rw[if_pos e,if_pos (h1.symm.trans e)];exact⟨h1,h2,ry⟩
  .rw[if_neg e,if_neg (λz=>e (h1.trans z))];exact⟨h1,h2,h3⟩
def KT.put {H:Hp}{kvs:List (List b9×V)}{xs:List (List b9×Addr×Value)}(r:KT H kvs xs)(k:List b9){b:Addr}{y:V}{u:Value}(hb:H b=some (.tup (k.map kV)))(ry:RelV y u) :
  KT H (iR kvs k y) (storedH xs k b u):=by
 have e:(kvs.any λkv=>decide (kv.1=k))=(atKey xs k).isSome:=by
  rw[kW,(r.val k).A9,Option.isSome_map]
 unfold iR storedH;rw[e];by_cases q:(atKey xs k).isSome=true
 .rw[if_pos q,if_pos q];exact r.LI k ry
 .rw[if_neg q,if_neg q];exact Paired.snoc r ⟨rfl,hb,ry⟩
def KT.keeps {H H':Hp}{kvs:List (List b9×V)}{xs:List (List b9×Addr×Value)}(r:KT H kvs xs)(ht:∀b ys,H b=some (.tup ys)->H' b=some (.tup ys)):KT H' kvs xs :=
 Paired.FZ r λ_ _ z=>⟨z.1,ht _ _ z.2.1,z.2.2⟩
section
variable {P:Program}{w:World}{H:Hp}{h:Heap}{a:Addr}
def Jz {u:HO}(ok:jP P w H h)(e:Rd H a u):bY P w H h a u:=e.ok ok
def yo {kvs:List (b9×V)}(ok:jP P w H h)(e:Rd H a (.dK kvs)):kvs.length<=sizeLine/\(a == sysModules)=false/\∃vs,KV kvs vs/\h.DictOf (l4 P w) a vs :=
 show bY P w H h a (.dK kvs) from Jz ok e
def CG {kvs:List (b9×V)}(ok:jP P w H h)(e:H a=some (.dK kvs)):kvs.length<=sizeLine/\(a == sysModules)=false/\∃vs,KV kvs vs/\h.DictOf (l4 P w) a vs:=yo ok (.inl e)
def wB {ks:List b9}(ok:jP P w H h)(e:H a=some (.tup (ks.map kV))):(tupleKind (l4 P w)).is h ks a:=by
 obtain⟨_,its,r,o,h1,h2,n,h3⟩:=(show bY P w H h a (.tup (ks.map kV)) from ok a _ e);exact⟨o,its.toArray,n,h1,h2,h3,by simpa using qu r⟩
def yn {kvs:List (List b9×V)}(ok:jP P w H h)(e:Rd H a (.dT kvs)):kvs.length<=sizeLine/\(a == sysModules)=false /\
  ∃xs,KT H kvs xs/\h.DictOfH (tupleKind (l4 P w)) a xs:=by
 obtain⟨z,y,xs,r,o,es,ep,h1,h2,h3,h4,h5⟩:=(show bY P w H h a (.dT kvs) from Jz ok e);refine⟨z,y,xs,r,o,es,ep,h1,h2,h3,h4,λx hx=>?_,h5⟩;have all:∀{l:List (List b9×V)}{m:List (List b9×Addr×Value)},KT H l m->∀x∈m,(tupleKind (l4 P w)).is h x.1 x.2.1:=by
  intro l m q;induction q with
  |nil=>intro x hx;exact nomatch hx
  |@cons p q ps qs hq t ih =>
   intro x hx;rcases Zl.mp hx with e |hx
   .subst e;exact wB ok (by rw[<- hq.1];exact hq.2.1)
   .exact ih x hx
 exact all r x hx
def T0 {kvs:List (List b9×V)}(ok:jP P w H h)(e:H a=some (.dT kvs)):kvs.length<=sizeLine/\(a == sysModules)=false /\
  ∃xs,KT H kvs xs/\h.DictOfH (tupleKind (l4 P w)) a xs:=yn ok (.inl e)
end
def MH (H:Hp)(a:Addr)(y:V)(r:Option V):Prop :=
 (∃kvs k,Rd H a (.dK kvs)/\y=kV k/\r=gD kvs k)\/∃kvs k b,Rd H a (.dT kvs)/\y=.ref b/\H b=some (.tup (k.map kV))/\r=gD kvs k
section
variable {X:Cx}{aa:Γ2}{σ:St}{H:Hp}{s:Shared}{a:Addr}{y v:V}{u r:Value}{o:Option V}{A:Around}{E:Θ2}
def Inv.big (I:Inv X aa σ H s):sysModules<s.heap.objs.size:=by
 have h:mainGlobals<s.heap.objs.size:=(I.mod.glob.keeps I.bk).lt;exact Nat.lt_trans (by decide) h
def Bk {Q:Θ2}(hu:A.units+1<cLine)(I:Inv X aa σ H s)(g:MH H a y (some v))(ry:RelV y u)(h:∀w' s',Inv X aa σ H s'->RelV v w'->Q w' s') :
  wpAny (model X.prog X.w) A (getItem (.ref a) u) Q E s:=by
 rcases g with ⟨kvs,k,e,ey,l⟩ |⟨kvs,k,b,e,ey,eb,l⟩
 .subst ey;obtain⟨z,hd,vs,dv,dd⟩:=yo I.bT e;obtain⟨w',hw,BL⟩:=aJ.some_of (v:=v) (o:=valueAt vs k) (by rw[l];exact dv.val k);exact wpAny_getItem_of (Cy ry) dd.mapOf hw (h w' _ (I.tok _) BL)
 .subst ey;cases (show u=Value.ref b from ry);obtain⟨z,hd,xs,dv,dd⟩:=yn I.bT e;obtain⟨w',hw,BL⟩:=aJ.some_of (v:=v) (o:=(atKey xs k).map (·.2)) (by rw[l];exact dv.val k);obtain⟨p,hp,hp2⟩:=Option.map_eq_some_iff.mp hw;refine wpAny_getItem_heap (tupleKind_room_in1 hu) (wB I.bT eb) dd hp ?_;rw[hp2];exact h w' _ (I.tok _) BL
def zB {h':Heap}{t':Nat}{ob:HO}(I:Inv X aa σ H s)(mu:Rp (H a))(hs:Heap.SameBut a s.heap h')(he:∃q,h'.get? a=some q)(new:bY X.prog X.w (aF H a ob) h' a ob) :
  Inv X aa σ (aF H a ob) { s with heap:=h',toks:=t' } :=
 I.write (x:=a) (e:=a) mu (.inl rfl) (λb q hb z=>(hs.2 b hb).trans z) he new
def Oh {P:Program}{w:World}{H':Hp}{h':Heap}{kvs:List (b9×V)}{vs:List (b9×Value)}(z:kvs.length<=sizeLine)(hd:(a == sysModules)=false)(dv:KV kvs vs)(dd:h'.DictOf (l4 P w) a vs) :
  bY P w H' h' a (.dK kvs):=⟨z,hd,vs,dv,dd⟩
end
section
variable {X:Cx}{aa:Γ2}{σ:St}{H:Hp}{s:Shared}{a:Addr}{kvs:List (b9×V)}{k:b9}{u:Value}{A:Around}{E:Θ2}
end
def SF (i:Expr):Prop:=∀ov iv,subscripted i false ov iv=operate [ov,iv] (getItem ov iv)
def GK {prog:Program}{w:World}{A:Around}{E:Θ2}{s:Shared}{env:Env}{value slice:Expr}{pos:Pos}{T id:String}{Q:Θ2}
  (hl:typeLookup (.type T) "__getitem__"=pure (some (.builtin id))) (hs:SF slice)
  (h:wpAny (model prog w) A (eval value env) (λo bt=>wpAny (model prog w) A (eval slice env) (λi cE=>cE.TypeIs o T/\wpAny (model prog w) A (getItem o i) Q E cE) E bt) E s) :
  wpAny (model prog w) A (eval (.Subscript value slice pos) env) Q E s:=by
 refine Subscript_ (wpAny_mono h (λo bt lI=>wpAny_mono lI (λi cE lH=>?_) λ_ _ x=>x) λ_ _ x=>x);obtain⟨hT,lH⟩:=lH;unfold subscriptTail;refine Zb ?_;rw[getitemInPython_of_ne hT.not_modules];refine Zb (wpAny_specialOf hT hl ?_);have gy:wpAny (model prog w) A (subscripted slice false o i) (λr eh=>wpAny (model prog w) A (letTemporaryGo value o r >>= λ_=>pure r) Q E eh) E cE:=by
  rw[hs o i];exact wpAny_operating (wpAny_mono lH (λr eh lG=>Zb (wpAny_letTemporaryGo (wpAny_pure lG))) λ_ _ x=>x)
 first
  |exact wpAny_pure (Zb gy)
  |exact Zb (wpAny_pure (Zb gy))
  |exact Zb gy
def uW {X:Cx}{aa:Γ2}{σ:St}{H:Hp}{s:Shared}{a:Addr}{y:V}{o:Option V}(I:Inv X aa σ H s)(g:MH H a y o):s.TypeIs (.ref a) "dict":=by
 rcases g with ⟨kvs,k,e,_,_⟩ |⟨kvs,k,b,e,_,_,_⟩
 .obtain⟨_,_,vs,_,dd⟩:=yo I.bT e;exact dd.typeIs
 .obtain⟨_,_,xs,_,dd⟩:=yn I.bT e;exact dd.typeIs
def SS (td ty:TE):TE:=λσ H Q=>td σ H λx H1=>ty σ H1 λy H2=>∃a v,x=.ref a/\MH H2 a y (some v)/\Q v H2
section
variable {X:Cx}{o i e value:Expr}{pos pk qX:Pos}{td ty tv:TE}
def yR (hu:X.A.units+1<cLine)(ho:PE X o td)(hi:PE X i ty)(hs:SF i):PE X (.Subscript o i pos) (SS td ty):=by
 intro aa s σ H Q I h;refine GK PySem.F.slot_dict_getitem.lookup hs (bB (ho aa s σ H _ I h) λu s1 ⟨x,H1,I1,rx,q1⟩=>bB (hi aa s1 σ H1 _ I1 q1) λiv s2 ⟨y,H2,I2,ry,a,v,ex,g,q2⟩=>?_);subst ex;obtain rfl:u=Value.ref a:=rx;exact⟨uW I2 g,Bk hu I2 g ry λw' s3 I3 BL=>⟨v,H2,I3,BL,q2⟩⟩
end
def EC {P:Program}{w:World}{H:Hp}(h:Heap)(hb:sysModules<h.objs.size):bY P w H (h.push { cls:=.type "dict",data:=.dict #[] }) h.objs.size (.dK []) :=
 ⟨Z9 _,beq_eq_false_iff_ne.mpr (Ne.symm (Yb hb)),[],.nil,Heap.DictOf.new h⟩
def EB {P:Program}{w:World}{H:Hp}(h:Heap)(hb:sysModules<h.objs.size):bY P w H (h.push { cls:=.type "dict",data:=.dict #[] }) h.objs.size (.dT []) :=
 ⟨Z9 _,beq_eq_false_iff_ne.mpr (Ne.symm (Yb hb)),[],.nil,_,#[],0,Zw _ rfl,⟨rfl,rfl,rfl⟩,rfl,rfl,Qt⟩
section
variable {X:Cx}{pos:Pos}
end
section
variable {X:Cx}{aa:Γ2}{σ:St}{H:Hp}{s:Shared}{a:Addr}{y d:V}{u r:Value}{o:Option V}{A:Around}{E:Θ2}
end
section
variable {X:Cx}{o e f:Expr}{nI eL:Pos}{td ty tx:TE}
end
section
variable {X:Cx}{aa:Γ2}{σ:St}{H:Hp}{s:Shared}{a:Addr}{kvs:List (b9×V)}{A:Around}{E:Θ2}
end
section
variable {X:Cx}{aa:Γ2}{σ:St}{H:Hp}{s:Shared}{a:Addr}{y:V}{u:Value}{A:Around}{E:Θ2}
end
section
variable {X:Cx}
end
section
variable {κ : Type}[DecidableEq κ]
def yx {kvs:List (κ × V)}{k:κ}{v:V}(h:gD kvs k=some v):k∈kvs.map (·.1):=by
 have q:(kvs.any λkv=>decide (kv.1=k))=true:=by
  rw[kW,h]
  all_goals rfl
 obtain⟨p,hp,e⟩:=Zv.mp q;exact Zd.mpr ⟨p,hp,of_decide_eq_true e⟩
end
def rH (g:TG)(tt:TT)(tk tv:TE)(J:It)(acc:Addr)(ao:St)(bN:Hp)(Q:VK):Prop :=
 ∃W:Nat->Nat->St->Hp->Prop,(∃m,W 0 m ao (aF bN acc (.dK [])))/\∀i m aH H',W i m aH H' ->
  (J.stop i H'/\Q (.ref acc) H') \/
  (J.go i H'/\∃N:St->Hp->Prop,(∀c3 H2,N c3 H2->∃m',m'<m/\W (i+1) m' c3 H2)/\∀x H2,J.vj i H' x H2->g x aH H2 λiD H3=>tt iD H3 λb H4 =>
   if b=true then tk iD H4 λkx H5=>tv iD H5 λy H6=>∃kvs k,H6 acc=some (.dK kvs)/\kx=kV k/\kvs.length<sizeLine/\N iD (aF H6 acc (.dK (iR kvs k y))) else N iD H4)
def MU (wi:TI)(g:TG)(tt:TT)(tk tv:TE)(own:Nat)(ix:List Nat):TE:=λσ H Q=>wi σ H λJ H1=>∀acc,H1 acc=none->rH g tt tk tv J acc (eF own ix σ) H1 Q
def Bl {X:Cx}{aa:Γ2}{σ:St}{H:Hp}{s:Shared}{a:Addr}{v:V}{u r:Value}{A:Around}{E:Θ2}{kvs:List (b9×V)}{k:b9}{Q:Unit->Shared->Prop}(I:Inv X aa σ H s)
  (e:H a=some (.dK kvs)) (ry:RelV (kV k) u) (rv:RelV v r) (l:kvs.length<sizeLine) (h:∀s',Inv X aa σ (aF H a (.dK (iR kvs k v))) s'->Q () s'):wpAny (model X.prog X.w) A (dictSet a u r) Q E s:=by
 obtain⟨z,hd,vs,dv,dd⟩:=CG I.bT e;have z1:vs.length<=sizeLine:=by rw[<- dv.length];exact z
 have z2:(iR kvs k v).length<=sizeLine:=Zk (md kvs k v) l;refine wpAny_dictSet_pairs (hsz:=z1) (Cy ry) dd λh' UP hs=>h _ ?_
 have he:∃q,h'.get? a=some q:=let ⟨q,_,_,hq,_⟩:=UP;⟨q,hq⟩;exact zB I (by rw[e];exact True.intro) hs he (Oh z2 hd (dv.put k rv) UP)
def oX {prog:Program}{w:World}{A:Around}{R:Result->Shared->Prop}{s:Shared}{kx vx fq iter:Expr}{gx:Ξ2}{scope:Scope}{pos:Pos}{it:Value}{D:Addr}{env:Env}(I:Nat->Shared->Prop)
  (fj:∀n s,I n s->wpAny (model prog w) A (pyNext it) (λr bt=>match r with
   |none=>R (.ok .next) bt
   |some v=>wpAny (model prog w) A (letOwnedTupleGo fq it v) (λ_ iW=>wpAny (model prog w) A (assign fq env v) (λ_ cE =>
     wpAny (model prog w) A (forIn gx true λc r=>if r=true then do let ok <- isTrue c env (eval c env);pure (ForInStep.yield ok) else pure (ForInStep.yield r)) (λok eh =>
      if ok=true then wpAny (model prog w) A (eval kx env) (λkv g9=>wpAny (model prog w) A (eval vx env) (λvv nt=>wpAny (model prog w) A (dictSet D kv vv) (λ_ nq=>∃m,m<n/\I m nq) (λ_ _=>False) nt)
       (λ_ _=>False) g9) (λ_ _=>False) eh else ∃m,m<n/\I m eh) (λ_ _=>False) cE) (λ_ _=>False) iW) (λ_ _=>False) bt) (λ_ _=>False) s)
  (n:Nat) (h:I n s):codeAny (model prog w) A (.compLoop (.DictComp kx vx [⟨fq,iter,gx,0⟩] scope pos) 0 it (.ref D) env) R s:=by
 refine codeAny_loop rfl I (λn s hI=>?_) n h;show wpAny _ A ((compTurn (.DictComp kx vx [⟨fq,iter,gx,0⟩] scope pos) 0 it (.ref D) env).onRaise (λx=>do noteFrame x env;theTreesLotGoes x)) _ _ s;refine wpAny_noted ?_;rw[compTurn_dict];refine Zb (wpAny_standAt (Zb (wpAny_mono (fj n s hI) (λr bt lI=>?_) λ_ _ h'=>h'.elim)));cases r with
 |none=>exact wpAny_pure lI
 |some v =>
  refine Zb (wpAny_mono lI (λ_ iW nO=>?_) λ_ _ h'=>h'.elim);refine Zb (wpAny_mono nO (λ_ cE lH=>Zb (wpAny_mono lH (λok eh lG=>?_) λ_ _ h'=>h'.elim)) λ_ _ h'=>h'.elim);cases ok with
  |false=>exact wpAny_pure ⟨rfl,lG⟩
  |true =>
   exact Zb (Zb (wpAny_mono lG (λkv g9 wa=>Zb (wpAny_holding (wpAny_mono wa (λvv nt v9=>Zb (wpAny_standAt (wpAny_holding (wpAny_mono v9 (λ_ nq B9=>wpAny_pure ⟨rfl,B9⟩) λ_ _ z=>z.elim)))) λ_ _ z=>z.elim))) λ_ _ z=>z.elim))
section
variable {X:Cx}{scope:Scope}{own cap:Δ2}{ix:List Nat}{tg iter kx vx:Expr}{gx:Ξ2}{wi:TI}{g:TG}{tt:TT}{tk tv:TE}{pos:Pos}
def xr {aa:Γ2}{σ:St}{H2:Hp}{s2:Shared}{it:Addr}{fp:List Addr}{tn:Nat->Heap->Prop}{J:It}{Q:VK}{RR:Value->Addr->Result->Shared->Prop}{E:Θ2}
  (B:aG X scope own cap ix) (hc:X.calm=true)
  (hb:∀C fp s H,PG (d6 X scope C (own++cap) fp s H) tg g/\fk (d6 X scope C (own++cap) fp s H) gx tt/\PE (d6 X scope C (own++cap) fp s H) kx tk/\PE (d6 X scope C (own++cap) fp s H) vx tv)
  (I2:Inv X aa σ H2 s2) (T:Turn X.prog X.w X.K tg J fp it tn) (gz:tn 0 s2.heap) (f2:∀b∈fp,dS X aa H2 b)
  (q:∀acc,H2 acc=none->rH g tt tk tv J acc (eF own.length ix σ) H2 Q)
  (KW:∀D C H' s' m,Inv X aa σ H' s'->Q (.ref D) H'->s'.heap.Ns C m->dS X aa H' C->RR (.ref D) C (.ok .next) s') :
  wpAny (model X.prog X.w) X.A newDict (λacc eh=>wpAny (model X.prog X.w) X.A (newFunctionEnv scope X.env.globals (dZ X.env scope.names []) [] X.env.qual none .none (some X.env)) (λnH g9 =>
   codeAny (model X.prog X.w) X.A (.compStart (.DictComp kx vx [⟨tg,iter,gx,0⟩] scope pos) 0 (.ref it) acc { nH with scope:=relabel scope X.env }) (RR acc nH.locals) g9) E eh) E s2:=by
 refine wpAny_newObj_type (fY ?_);have I3:Inv X aa σ (aF H2 s2.heap.objs.size (.dK [])) { s2 with heap:=s2.heap.push { cls:=.type "dict",dict:=none,data:=.dict #[] } } :=
  I2.laid (a:=s2.heap.objs.size) (o:=.dK []) (h':=s2.heap.push { cls:=.type "dict",data:=.dict #[] }) (t':=s2.toks) (λ_ _ q=>Zi _ q) (Ze _) (EC s2.heap I2.big)
 obtain⟨W,⟨m0,w0⟩,fj⟩:=q s2.heap.objs.size I2.fresh;generalize hD:s2.heap.objs.size=D at I3 w0 fj ⊢;have cT:∀b∈fp,b<D:=λb br=>by
  obtain⟨o,e,_⟩:=T.obj 0 _ gz b br;rw[<- hD];exact Zp e
 generalize Kx:({ s2 with heap:=s2.heap.push { cls:=.type "dict",dict:=none,data:=.dict #[] } }:Shared)=s3 at I3 ⊢;have iZ:∀b o,s2.heap.get? b=some o->s3.heap.get? b=some o:=λb o e=>by rw[<- Kx];exact Zi _ e
 have f3:∀b∈fp,dS X aa (aF H2 D (.dK [])) b:=λb br=>⟨by rw[dj (Yb (cT b br))];exact(f2 b br).1,(f2 b br).2⟩
 have o3:∀b∈fp,∃o,s3.heap.get? b=some o:=λb br=>let ⟨o,e,_⟩:=T.obj 0 _ gz b br;⟨o,iZ b o e⟩
 have I4:=I3.block B f3 o3;have BJ:tn 0 (pushCells (s3.heap.push { cls:=.type "dict",data:=.dict #[] }) scope.names):=T.keep 0 _ _ gz λb _ o e=>pushCells_keeps _ _ b o (Zi _ (iZ b o e))
 obtain⟨hg,BY,QL,QK⟩:=hb s3.heap.objs.size fp s3 (aF H2 D (.dK []));generalize gY:d6 X scope s3.heap.objs.size (own++cap) fp s3 (aF H2 D (.dK []))=X' at I4 hg BY QL QK;have eP:X'.prog=X.prog:=by rw[<- gY];rfl
 have eW:X'.w=X.w:=by rw[<- gY];rfl
 have eK:X'.K=X.K:=by rw[<- gY];rfl
 have eA:X'.A=X.A:=by rw[<- gY];rfl
 have eE:X'.env=iJ scope s3.heap.objs.size X.env:=by rw[<- gY];rfl
 have ex:X'.xe=λ_ _=>False:=by rw[<- gY];rfl
 have mq:X'.calm=true:=by rw[<- gY];exact hc
 have hV:∀{H':Hp},(∀b∈fp,H' b=none)->∀b∈fp,dS X' [] H' b:=λhn b br=>by
  subst gY;exact⟨hn b br,(I4.ok.E9 b br).1,I4.ok.tL b br,.inl br,(I4.ok.E9 b br).2,λp hp=>absurd (show p∈([]:Γ2) from hp) (by simp)⟩
 have loop:∀s4:Shared,s4={ s3 with heap:=pushCells (s3.heap.push { cls:=.type "dict",data:=.dict #[] }) scope.names } ->
   codeAny (model X.prog X.w) X.A (.compLoop (.DictComp kx vx [⟨tg,iter,gx,0⟩] scope pos) 0 (.ref it) (.ref D) (iJ scope s3.heap.objs.size X.env)) (RR (.ref D) s3.heap.objs.size) s4:=by
  rintro s4 rfl;refine oX (λn s'=>∃i aH H',Inv X' [] aH H' s'/\tn i s'.heap/\(∀b∈fp,H' b=none)/\W i n aH H') ?_ m0 ⟨0,_,_,I4,BJ,λb br=>(f3 b br).1,w0⟩;rintro n s5 ⟨i,nj,H5,I5,vn,zW,w5⟩;rcases fj i n nj H5 w5 with ⟨stop,qn⟩ |⟨go,N,hN,step⟩
  .have:=T.done X' eP eW eK mq i [] s5 nj H5 (λ_ _=>False) I5 (hV zW) vn stop;rw[eA] at this;refine bB this λr s6 ⟨hr,I6⟩=>?_
   subst hr;subst gY;have J6:Inv X aa σ H5 s6:=I3.yq (ch:=fp) I6.os I6.base I6.bT I6.bare λb br=>⟨(f3 b br).2.2.2.1,(f3 b br).2.1,(f3 b br).2.2.2.2.1,(f3 b br).2.2.2.2.2⟩
   obtain⟨m,hn,_⟩:=I6.loc;exact KW D _ H5 s6 m J6 qn hn (I3.jR (Ze _) I6.free)
  .have:=T.item X' eP eW eK mq i [] s5 nj H5 (λ_ _=>False) I5 (hV zW) vn go;rw[eA] at this;refine bB this λr s6 ⟨u,hr,h6⟩=>?_
   subst hr;refine bB h6 λ_ s7 ⟨x,H7,I7,r7,y7,vm,KZ⟩=>?_
   have Lh:=I7.pinned (hV KZ) (T.obj _ _ vm);have a1:=hg _ s7 nj H7 x u _ Lh r7 (step x H7 y7);rw[eP,eW,eA,eE,ex] at a1;refine bB a1 λ_ s8 ⟨vi,H8,I8,q8⟩=>?_
   have a2:=BY _ s8 vi H8 _ I8 q8;rw[eP,eW,eA,eE,ex] at a2;refine bB a2 λb s9 ⟨H9,I9,q9⟩=>?_
   have again:∀{s':Shared}{aH:St}{H':Hp},Inv X' ([]++d0 fp s7.heap) aH H' s'->N aH H'->∃m,m<n/\∃i aH H',Inv X' [] aH H' s'/\tn i s'.heap/\(∀b∈fp,H' b=none)/\W i m aH H':=λ{s' aH H'} I' n'=>by
    obtain⟨m',hm,w'⟩:=hN aH H' n';refine⟨m',hm,i+1,aH,H',I'.dH,T.keep _ _ _ vm λb br o e=>(I'.pin (b,o) (Z1 _ (Z1 _ (BB br e)))).1,λb br=>?_,w'⟩;obtain⟨o,e,d⟩:=T.obj _ _ vm b br;exact(I'.pin (b,o) (Z1 _ (Z1 _ (BB br e)))).2.1
   cases b with
   |false=>exact again I9 q9
   |true =>
    rw[if_pos rfl] at q9 ⊢;have a3:=QL _ s9 vi H9 _ I9 q9;rw[eP,eW,eA,eE,ex] at a3;refine bB a3 λkv OB ⟨yk,Po,Rq,II,PH⟩=>?_
    have a4:=QK _ OB vi Po _ Rq PH;rw[eP,eW,eA,eE,ex] at a4;refine bB a4 λvv Pz ⟨yv,UV,Li,OD,kvs,k,hk,ek,hz,PF⟩=>?_
    subst ek;have a5:=Bl (E:=λ_ _=>False) (A:=X.A) (Q:=λ_ s'=>∃m,m<n/\∃i aH H',Inv X' [] aH H' s'/\tn i s'.heap/\(∀b∈fp,H' b=none)/\W i m aH H') Li hk II OD hz λs' I'=>again I' PF
    rw[eP,eW] at a5;exact a5
 exact codeAny_compStart_dict (loop _ rfl) (T.self X.A 0 _ _ _ BJ (loop _ rfl))
def D9 (B:aG X scope own cap ix)(hc:X.calm=true)(hi:PI X tg iter wi)
  (hb:∀C fp s H,PG (d6 X scope C (own++cap) fp s H) tg g/\fk (d6 X scope C (own++cap) fp s H) gx tt/\PE (d6 X scope C (own++cap) fp s H) kx tk/\PE (d6 X scope C (own++cap) fp s H) vx tv)
  (hs:∀x,foldedSetIterable iter X.env x=pure x:=by intro _;rfl):PE X (.DictComp kx vx [⟨tg,iter,gx,0⟩] scope pos) (MU wi g tt tk tv own.length ix):=by
 intro aa s σ H Q I h;rw[arm_eval_DictComp];have has:∀x∈scope.names,x.2=.free->(X.env.cells.lookup x.1).isSome=true:=λx hx hk=>by
  obtain⟨c,e⟩:=I.ok.has x.1 (B.frees x hx hk);rw[e];rfl
 refine wpAny_comprehension_free (use:=none) rfl hs (P1 has) B.kind B.names ?_;show wpAny _ _ (eval iter X.env) _ _ s;refine bB (hi aa s σ H _ I h) λv s1 h1=>bB h1 λIM s2 h2=>?_
 obtain⟨it,fp,tn,J,H2,e,I2,T,gz,f2,q⟩:=h2;subst e;refine xr (RR:=λacc C=>compPost (model X.prog X.w) X.A X.xe none (EP X aa σ Q) acc C) B hc hb I2 T gz f2 q ?_;intro D C H' s' m I' q' hn fC;refine⟨m,hn,λh' vG=>⟨.ref D,H',?_,rfl,q'⟩⟩;exact I'.turned (t':=s'.toks) (it:=C) (λb o Fy e=>(vG.2 b Fy).trans e) fC.1 fC.2.1 fC.2.2.2.1 fC.2.2.2.2.1 fC.2.2.2.2.2
end
section
variable {X:Cx}
def gd (v a:Addr):HO:=.ext λh=>h.IsValuesView v a
def G9:V->List V->Hp->VK->Prop:=λx xs H Q=>∃a kvs,x=.ref a/\xs=[]/\H a=some (.dK kvs)/\∀v,H v=none->Q (.ref v) (aF H v (gd v a))
def AZ:UT X "dict.values" G9:=by
 intro aa s σ H x xs v us Q I r rs h;obtain⟨a,kvs,rfl,rfl,ha,q⟩:=h;cases rs;cases r;obtain⟨z,hd,vs,dv,dd⟩:=CG I.bT ha;refine call_meetsIn PySem.F.slot_dict_values dd.typeIs PySem.F.entry_dict_values (PySem.F.args_dict_values_1 _) (meets_dict_values (l4 X.prog X.w) a hd) ⟨⟨vs,dd⟩,?_⟩;have hv:(s.heap.push { cls:=.type "dict_values",data:=.fields #[.ref a] }).IsValuesView s.heap.objs.size a:=⟨_,Zw _ rfl,rfl,rfl⟩;refine⟨.ref s.heap.objs.size,_,I.laid (t':=s.toks) (o:=gd s.heap.objs.size a) (λ_ _ q=>Zi _ q) (Ze _) ⟨hv,⟨_,Zw _ rfl⟩,λh1 h2 w1 hk=>?_⟩,rfl,q _ I.fresh⟩;obtain⟨o,e,c⟩:=w1;exact⟨o,hk o e,c⟩
def se {aa:Γ2}{σ:St}{H:Hp}{s:Shared}{a:Addr}{kvs:List (b9×V)}(I:Inv X aa σ H s)(ha:Rd H a (.dK kvs)) :
  kvs.length<=sizeLine/\(a == sysModules)=false/\∃vs ep,KV kvs vs/\s.heap.DictAt (l4 X.prog X.w) a vs ep:=by
 obtain⟨z,hd,vs,dv,o,es,ep,r⟩:=yo I.bT ha;exact⟨z,hd,vs,ep,dv,o,es,r⟩
theorem zg:∀{kvs:List (b9×V)}{vs:List (b9×Value)}{us:Δ3},KV kvs vs->us.length=vs.length->(∀(j:Nat) (v:Value),us[j]?=some v->∃k,vs[j]?=some (k,v))->be (kvs.map (·.2)) us
 |_,_,us,.nil,hl,_=>by
  cases us with
  |nil=>exact .nil
  |cons _ _=>simp at hl
 |_,_,us,.cons h hs,hl,hu=>by
  cases us with
  |nil=>simp at hl
  |cons u us =>
   refine .cons ?_ (zg hs (by simpa using hl) λj v hj=>hu (j+1) v (by simpa using hj));obtain⟨k,e⟩:=hu 0 u rfl;simp at e;have:=h.2;rw[e] at this;exact this
def l0 (hc:X.calm=true):ck X (.type "list") (λxs H Q=>∃v a kvs,xs=[.ref v]/\H v=some (gd v a)/\Rd H a (.dK kvs)/\∀l,H l=none->Q (.ref l) (aF H l (.lst (kvs.map (·.2))))):=by
 intro aa s σ H xs us Q I r h;obtain⟨v,a,kvs,rfl,hv,ha,q⟩:=h;obtain⟨u,rfl,rx⟩:=vals1 r;cases rx;obtain⟨z,hd,vs,ep,dv,at'⟩:=se I ha;have Cz:s.heap.IsValuesView v a:=(I.bT v _ hv).1;have hl:=dv.length;refine PySem.W.kdl_call (PySem.W.kdl_values (knd:=l4 X.prog X.w) (kvs:=vs) (ep:=ep) (r:=v) (d:=a)) (I.ok.hd hc) ⟨Cz,at'⟩ (by rw[<- hl];exact z) λh' tk acc c' hk hD bI=>?_
 have hvs:be (kvs.map (·.2)) acc.toList:=zg dv (by rw[Array.length_toList];exact bI.1) λj x e=>bI.2 j x (by rw[<- Array.getElem?_toList];exact e)
 refine⟨.ref s.heap.objs.size,_,I.laid (t':=tk) (o:=.lst (kvs.map (·.2))) hk (Ze _) ⟨by rw[Za];exact z,acc.toList,c',hvs,?_⟩,rfl,q _ I.fresh⟩;simpa using hD
def Inv.freeze {aa:Γ2}{σ:St}{H:Hp}{s:Shared}{a:Addr}{kvs:List (b9×V)}{o:Obj}(I:Inv X aa σ H s)(ha:H a=some (.dK kvs))(ho:s.heap.get? a=some o):Inv X aa σ (aF H a (.iE o (.dK kvs))) s:=by
 refine I.write (x:=a) (e:=a) (t':=s.toks) (h':=s.heap) (by rw[ha];exact True.intro) (.inl rfl) (λ_ _ _ e=>e) ⟨o,ho⟩ ⟨ho,?_⟩;obtain⟨z,hd,vs,dv,dd⟩:=CG I.bT ha;exact⟨z,hd,vs,dv,dd⟩
def N9 {k:b9}{v:Value}(h:nN k v=true):RelV (kV k) v:=by
 rcases EW h with ⟨i,t,rfl,rfl⟩ |⟨x,t,rfl,rfl⟩
 .exact⟨t,rfl⟩
 .exact⟨t,rfl⟩
def UU (a:Addr)(o:Obj)(kvs:List (b9×V)):It :=
 ⟨λi H=>H a=some (.iE o (.dK kvs))/\i<kvs.length,λi H x H'=>H'=H/\∃k v,kvs[i]?=some (k,v)/\x=kV k,λi H=>H a=some (.iE o (.dK kvs))/\kvs.length<=i⟩
def uB {aa:Γ2}{σ:St}{H:Hp}{s:Shared}{a:Addr}{o:Obj}{vN:Array DictEntry}{ep:Nat}{kvs:List (b9×V)}(I:Inv X aa σ H s)(hg:H a=some (.iE o (.dK kvs)))(E2:o.data=.dict vN ep) :
  ∃vs,KV kvs vs/\vs.length=kvs.length/\s.heap.DictAt (l4 X.prog X.w) a vs ep:=by
 obtain⟨z,hd,vs,Rc,dv,o',es,vH,r⟩:=se I (.inr ⟨o,hg⟩);obtain⟨ho,_⟩:=I.bT a _ hg;have:o'=o:=by rw[ho] at vH;exact(Option.some.inj vH).symm
 subst this;have h2:=r.2.1;rw[E2] at h2;injection h2 with _ h2
 subst h2;exact⟨vs,dv,dv.length.symm,o',es,vH,r⟩
def AA {P:Program}{w:World}{K:Θ1}{tg:Expr}(a it:Addr)(o:Obj)(kvs:List (b9×V))(vN:Array DictEntry)(ep:Nat)(E2:o.data=.dict vN ep):Turn P w K tg (UU a o kvs) [it] it (λi h=>h.IsKeyIter it a i kvs.length ep) where
 mem:=by simp
 obj:=λi h st b hb=>by
  obtain rfl:b=it:=by simpa using hb
  obtain⟨o',e,c,d⟩:=st;exact⟨o',e,λv z=>by rw[d] at z;cases z⟩
 keep:=λi h h' st k=>st.at λo e=>k it (by simp) o e
 item:=by
  intro X hP hw hK hc i aa s σ H E I hf st hg;subst hP hw hK;obtain⟨hg,hi⟩:=hg;obtain⟨vs,dv,hl,at'⟩:=uB I hg E2;obtain⟨f0,f1,f2,f3,f4,f5⟩:=hf it (by simp);obtain⟨⟨k,v⟩,OU⟩:∃p,vs[i]?=some p:=⟨vs[i],by simp[show i<vs.length by omega]⟩;refine wpAny_pyNext_dict_item (by rw[hl];exact st) at' OU λkey h' tJ vo sb=>?_
  have I1:Inv X aa σ H { s with heap:=h' }:=I.turned (t':=s.toks) (λb o hb e=>(sb.2 b hb).trans e) f0 f1 f3 f4 f5;rw[hl] at vo;obtain⟨o1,e1,c1,d1⟩:=id vo;have hkk:∃v',kvs[i]?=some (k,v'):=by
   have e2:=dv.keys;have e3:=congrArg (λl=>l[i]?) e2;simp only[Zh,OU,Y0] at e3;cases e4:kvs[i]? with
   |none=>rw[e4] at e3;cases e3
   |some p =>
    rw[e4] at e3;simp only[Y0,Option.some.injEq] at e3;exact⟨p.2,by rw[<- e3]⟩
  obtain⟨v',hv'⟩:=hkk;exact⟨key,rfl,tY (s:={ s with heap:=h' }) e1 c1 d1 (by decide) ⟨kV k,H,I1,N9 tJ,⟨rfl,k,v',hv',rfl⟩,vo,λb hb=>(hf b hb).1⟩⟩
 done:=by
  intro X hP hw hK hc i aa s σ H E I hf st hg;subst hP hw hK;obtain⟨hg,hi⟩:=hg;obtain⟨vs,dv,hl,at'⟩:=uB I hg E2;obtain⟨f0,f1,f2,f3,f4,f5⟩:=hf it (by simp);exact wpAny_pyNext_dict_end (I.ok.hd hc) (by rw[hl];exact st) at' (by simp;omega) λh' eb=>⟨rfl,I.turned (t':=s.toks) (λb o hb e=>eb b o hb e) f0 f1 f3 f4 f5⟩
 self:=λ_ _ _ _ _ st h=>wpAny_pyIter_keyiter st h
def TQ (td:TE):TI:=λσ H R=>td σ H λx H1=>∃a kvs,x=.ref a/\H1 a=some (.dK kvs)/\∀o,R (UU a o kvs) (aF H1 a (.iE o (.dK kvs)))
def Hi {tg l:Expr}{td:TE}(hl:PE X l td):PI X tg l (TQ td):=by
 intro aa s σ H R I h;refine bB (hl aa s σ H _ I h) λv s1 ⟨x,H1,I1,r1,q1⟩=>?_
 obtain⟨a,kvs,e,ha,q⟩:=q1;subst e;cases r1;obtain⟨z,hd,vs,ep,dv,o,es,ho,r⟩:=se I1 (.inl ha);have at':s1.heap.DictAt (l4 X.prog X.w) a vs ep:=⟨o,es,ho,r⟩;refine wpAny_pyIter_dict hd at' ?_;have I2:=I1.freeze ha ho;have BX:=dv.length;refine⟨s1.heap.objs.size,[s1.heap.objs.size],_,UU a o kvs,_,rfl,I2.kept (t':=s1.toks) λb o e=>Zi _ e,AA a _ o kvs es ep r.2.1,⟨_,Zw _ rfl,rfl,by rw[BX];rfl⟩,λb hb=>?_,q o⟩;obtain rfl:b=s1.heap.objs.size:=by simpa using hb
 exact I2.jR (Ze _) (I2.bT.fresh (Ze _))
end
end L2
namespace PySem
def t9 {prog:Program}{w:World}{A:Around}{E:Θ2}{s:Shared}{T:Addr}{a b x:Value}{k:Nat}{Q:Unit->Shared->Prop}(hT:IsPair s.heap T a b)
  (q:∀g,g.get? T=some { cls:=.type "tuple",data:=.seq ((#[a,b]:Array Value).setIfInBounds k x) }->Heap.SameBut T s.heap g->Q () { s with heap:=g }):wpAny (model prog w) A (updateSeq T (·.setIfInBounds k x)) Q E s :=
 wpAny_updateSeq_pair hT q
section
variable {prog:Program}{w:World}{A:Around}{E:Θ2}{s:Shared}{z TI TO i1 i2 l1 l2:Addr}{k1 k2:Nat}{xs ys:Array Value}{x y a b:Value}
def BP {h g:Heap}{it l c:Addr}{i:Nat}(t:h.IsTupleIter it l i)(sb:Heap.ExtBut c h g)(ne:it≠c):g.IsTupleIter it l i:=let ⟨o,e,r⟩:=t;⟨o,sb it o ne e,r⟩
def kI {h g:Heap}{l c:Addr}{v:Array Value}(t:h.IsTuple l v)(sb:Heap.ExtBut c h g)(ne:l≠c):g.IsTuple l v:=let ⟨o,e,r⟩:=t;⟨o,sb l o ne e,r⟩
def Au {Q:Θ2}(D:ZipApart z TI TO i1 i2 l1 l2)(hz:IsZip s.heap z TI TO .none)(pI:IsPair s.heap TI (.ref i1) (.ref i2))(pO:IsPair s.heap TO a b)
  (t1:s.heap.IsTupleIter i1 l1 k1) (t2:s.heap.IsTupleIter i2 l2 k2) (u1:s.heap.IsTuple l1 xs) (u2:s.heap.IsTuple l2 ys) (hx:xs[k1]?=some x) (hy:ys[k2]?=some y)
  (q:∀g,IsZip g z TI TO (rawInt s.heap.objs.size)->IsPair g TO x y->g.IsTupleIter i1 l1 (k1+1)->g.IsTupleIter i2 l2 (k2+1)->IsPair g s.heap.objs.size x y ->
   (∀c o,c≠z->c≠TO->c≠i1->c≠i2->s.heap.get? c=some o->g.get? c=some o)->Q (.ref s.heap.objs.size) { s with heap:=g }) :
  wpAny (model prog w) A (Builtin.«zip.__next__» ⟨[.ref z],[]⟩) (λgy s'=>∃v,gy=.done (.ret v)/\Q v s') E s:=by
 show wpAny _ _ (field (.ref z) 2 >>= _) _ _ _;refine Zb (wpAny_field hz rfl (x:=.bool false) rfl ?_);show wpAny _ _ (field (.ref z) 3 >>= _) _ _ _;refine Zb (wpAny_field hz rfl (x:=.ref TI) rfl (Zb (wpAny_seqItems pI rfl ?_)));show wpAny _ _ (Builtin.SmallTypes.ownedTupleIsFree (.ref z) >>= _) _ _ _;refine Zb ?_;unfold Builtin.SmallTypes.ownedTupleIsFree;refine Zb (wpAny_field hz rfl (x:=.none) rfl (wpAny_pure ?_));simp only[if_true];refine Zb (wpAny_rule (Zb (wpAny_field hz rfl (x:=.ref TO) rfl ?_)));refine Zb (wpAny_setField_rec hz (by simp) λg1 z1 b1=>?_);replace z1:IsZip g1 z TI TO .ellipsis:=z1;refine Zb ?_;simp only[List.zipIdx_cons,List.zipIdx_nil,List.forIn_cons,List.forIn_nil];refine Zb (Zb (wpAny_onRaise ?_));show wpAny _ _ (Builtin.SmallTypes.nextOf (.ref i1) >>= _) _ _ _;refine Zb (VC (BP t1 b1.extBut D.i1z) (kI u1 b1.extBut D.l1z) hx λg2 n1 b2=>wpAny_pure ?_);have o2:IsPair g2 TO a b:=b2.extBut _ _ D.TOi1 (b1.extBut _ _ D.TOz pO);refine Zb (wpAny_seqItems o2 rfl (Zb (t9 o2 λg3 o3 b3=>Zb (wpAny_letGo (wpAny_pure ?_)))))
 replace o3:IsPair g3 TO x b:=o3
 refine Zb (Zb (wpAny_onRaise ?_));show wpAny _ _ (Builtin.SmallTypes.nextOf (.ref i2) >>= _) _ _ _;refine Zb (VC (BP (BP (BP t2 b1.extBut D.i2z) b2.extBut D.i12.symm) b3.extBut D.TOi2.symm) (kI (kI (kI u2 b1.extBut D.l2z) b2.extBut D.l2i1) b3.extBut D.l2TO) hy λg4 n2 b4=>wpAny_pure ?_);have o4:IsPair g4 TO x b:=b4.extBut _ _ D.TOi2 o3;refine Zb (wpAny_seqItems o4 rfl (Zb (t9 o4 λg5 o5 b5=>Zb (wpAny_letGo (wpAny_pure (wpAny_pure ?_))))))
 replace o5:IsPair g5 TO x y:=o5
 refine Zb (wpAny_seqItems o5 rfl (Zb (wpAny_newTuple ?_)));have sz:g5.objs.size=s.heap.objs.size:=by rw[b5.1,b4.1,b3.1,b2.1,b1.1]
 have z5:IsZip g5 z TI TO .ellipsis:=b5.extBut _ _ D.TOz.symm (b4.extBut _ _ D.i2z.symm (b3.extBut _ _ D.TOz.symm (b2.extBut _ _ D.i1z.symm z1)));have k5:∀c o,c≠z->c≠TO->c≠i1->c≠i2->s.heap.get? c=some o->g5.get? c=some o:=λc o e1 e2 e3 e4 e=>b5.extBut _ _ e2 (b4.extBut _ _ e4 (b3.extBut _ _ e2 (b2.extBut _ _ e3 (b1.extBut _ _ e1 e))))
 have m1:g5.IsTupleIter i1 l1 (k1+1):=BP (BP (BP n1 b3.extBut D.TOi1.symm) b4.extBut D.i12) b5.extBut D.TOi1.symm;have m2:g5.IsTupleIter i2 l2 (k2+1):=BP n2 b5.extBut D.TOi2.symm;have υ:z<g5.objs.size:=Zp z5;show wpAny _ _ (Builtin.SmallTypes.ownedTupleHandOut (.ref z) (.ref g5.objs.size) >>= _) _ _ _;refine Zb ?_;unfold Builtin.SmallTypes.ownedTupleHandOut;have z6:IsZip (g5.push { cls:=.type "tuple",data:=.seq #[x,y] }) z TI TO .ellipsis:=Zi _ z5;refine Zb (wpAny_setField_rec z6 (by simp) λg7 z7 b7=>?_);replace z7:IsZip g7 z TI TO (rawInt g5.objs.size):=z7;refine wpAny_setField_rec z7 (by simp) λg8 z8 b8=>?_;replace z8:IsZip g8 z TI TO (rawInt g5.objs.size):=z8
 have up:∀c o,c≠z->g5.get? c=some o->g8.get? c=some o:=λc o e1 e=>b8.extBut _ _ e1 (b7.extBut _ _ e1 (Zi _ e))
 have p8:IsPair g8 g5.objs.size x y:=b8.extBut _ _ (Xq υ) (b7.extBut _ _ (Xq υ) (Zw _ rfl));rw[sz] at z8 p8;refine wpAny_pure ⟨_,rfl,?_⟩;show Q (.ref g5.objs.size) _;rw[sz];exact q g8 z8 (up _ _ D.TOz o5) (let ⟨o,e,r⟩:=m1;⟨o,up _ o D.i1z e,r⟩) (let ⟨o,e,r⟩:=m2;⟨o,up _ o D.i2z e,r⟩) p8 λc o e1 e2 e3 e4 e=>up c o e1 (k5 c o e1 e2 e3 e4 e)
def At {Q:Fin->Shared->Prop}(hh:A.handled=none)(D:ZipApart z TI TO i1 i2 l1 l2)(hz:IsZip s.heap z TI TO .none)(pI:IsPair s.heap TI (.ref i1) (.ref i2))(pO:IsPair s.heap TO a b)
  (t1:s.heap.IsTupleIter i1 l1 k1) (t2:s.heap.IsTupleIter i2 l2 k2) (u1:s.heap.IsTuple l1 xs) (u2:s.heap.IsTuple l2 ys) (hx:xs[k1]?=none)
  (q:∀g e,(∀c o,c≠z->c≠TO->c≠i1->c≠i2->s.heap.get? c=some o->g.get? c=some o)->(∃o,g.get? e=some o/\o.cls=.type "StopIteration")->E (.ref e) { s with heap:=g }) :
  wpAny (model prog w) A (Builtin.«zip.__next__» ⟨[.ref z],[]⟩) Q E s:=by
 show wpAny _ _ (field (.ref z) 2 >>= _) _ _ _;refine Zb (wpAny_field hz rfl (x:=.bool false) rfl ?_);show wpAny _ _ (field (.ref z) 3 >>= _) _ _ _;refine Zb (wpAny_field hz rfl (x:=.ref TI) rfl (Zb (wpAny_seqItems pI rfl ?_)));show wpAny _ _ (Builtin.SmallTypes.ownedTupleIsFree (.ref z) >>= _) _ _ _;refine Zb ?_;unfold Builtin.SmallTypes.ownedTupleIsFree;refine Zb (wpAny_field hz rfl (x:=.none) rfl (wpAny_pure ?_));simp only[if_true];refine Zb (wpAny_rule (Zb (wpAny_field hz rfl (x:=.ref TO) rfl ?_)));refine Zb (wpAny_setField_rec hz (by simp) λg1 z1 b1=>?_);replace z1:IsZip g1 z TI TO .ellipsis:=z1;refine Zb ?_;simp only[List.zipIdx_cons,List.zipIdx_nil,List.forIn_cons,List.forIn_nil];refine Zb (Zb (wpAny_onRaise ?_));show wpAny _ _ (Builtin.SmallTypes.nextOf (.ref i1) >>= _) _ _ _;refine Zb (VB hh (BP t1 b1.extBut D.i1z) (kI u1 b1.extBut D.l1z) hx λg2 e b2 ⟨oe,he,ce⟩=>?_);have z2:IsZip g2 z TI TO .ellipsis:=b2 _ _ D.i1z.symm z1;have ez:e≠z:=λh=>by subst h;rw[z2] at he;cases he;simp at ce
 exact wpAny_setField_rec z2 (by simp) λg3 _ b3=>q g3 e (λc o e1 _ e3 _ h=>b3.extBut _ _ e1 (b2 _ _ e3 (b1.extBut _ _ e1 h))) ⟨oe,b3.extBut _ _ ez he,ce⟩
def uN {Q:Φ1->Shared->Prop}(D:ZipApart z TI TO i1 i2 l1 l2)(hz:IsZip s.heap z TI TO .none)(pI:IsPair s.heap TI (.ref i1) (.ref i2))(pO:IsPair s.heap TO a b)
  (t1:s.heap.IsTupleIter i1 l1 k1) (t2:s.heap.IsTupleIter i2 l2 k2) (u1:s.heap.IsTuple l1 xs) (u2:s.heap.IsTuple l2 ys) (hx:xs[k1]?=some x) (hy:ys[k2]?=some y)
  (q:∀g,IsZip g z TI TO (rawInt s.heap.objs.size)->IsPair g TO x y->g.IsTupleIter i1 l1 (k1+1)->g.IsTupleIter i2 l2 (k2+1)->IsPair g s.heap.objs.size x y ->
   (∀c o,c≠z->c≠TO->c≠i1->c≠i2->s.heap.get? c=some o->g.get? c=some o)->Q (some (.ref s.heap.objs.size)) { s with heap:=g }):wpAny (model prog w) A (pyNext (.ref z)) Q E s:=by
 have ty:s.TypeIs (.ref z) "zip":=⟨_,hz,rfl⟩;unfold pyNext;exact Zb (wpAny_attempt (wpAny_callSpecial?_slot (name:=Str.ofString "__next__") ty F.slot_zip_next (wpAny_call_entry F.slot_zip_next ty F.entry_zip_next
  (Au D hz pI pO t1 t2 u1 u2 hx hy λg a1 a2 a3 a4 a5 a6=>wpAny_pure (q g a1 a2 a3 a4 a5 a6)) (F.args_zip_next_1 _))))
def mE {Q:Φ1->Shared->Prop}(hh:A.handled=none)(D:ZipApart z TI TO i1 i2 l1 l2)(hz:IsZip s.heap z TI TO .none)(pI:IsPair s.heap TI (.ref i1) (.ref i2))(pO:IsPair s.heap TO a b)
  (t1:s.heap.IsTupleIter i1 l1 k1) (t2:s.heap.IsTupleIter i2 l2 k2) (u1:s.heap.IsTuple l1 xs) (u2:s.heap.IsTuple l2 ys) (hx:xs[k1]?=none)
  (q:∀g,(∀c o,c≠z->c≠TO->c≠i1->c≠i2->s.heap.get? c=some o->g.get? c=some o)->Q none { s with heap:=g }):wpAny (model prog w) A (pyNext (.ref z)) Q E s:=by
 have ty:s.TypeIs (.ref z) "zip":=⟨_,hz,rfl⟩;unfold pyNext;exact Zb (wpAny_attempt (wpAny_callSpecial?_slot (name:=Str.ofString "__next__") ty F.slot_zip_next (wpAny_call_entry F.slot_zip_next ty F.entry_zip_next
  (At hh D hz pI pO t1 t2 u1 u2 hx λg e hk ⟨o,ho,hc⟩=>Zb (wpAny_isInstance (T:="StopIteration") (b:=true) ⟨o,ho,hc⟩ isSubtype_stop (wpAny_pure (q _ hk)))) (F.args_zip_next_1 _))))
end
abbrev Pp (h:Heap)(l1:Addr):Heap:=h.push { cls:=.type "tuple_iterator",data:=.fields #[.ref l1,.int 0 0] }
abbrev T7 (h:Heap)(l1 l2:Addr):Heap:=(Pp h l1).push { cls:=.type "tuple_iterator",data:=.fields #[.ref l2,.int 0 0] }
abbrev T6 (h:Heap)(l1 l2:Addr):Heap:=(T7 h l1 l2).push { cls:=.type "tuple",data:=.seq #[.ref h.objs.size,.ref (Pp h l1).objs.size] }
abbrev T5 (h:Heap)(l1 l2:Addr):Heap:=(T6 h l1 l2).push { cls:=.type "tuple",data:=.seq #[.none,.none] }
abbrev Ou (h:Heap)(l1 l2:Addr):Heap:=(T5 h l1 l2).push { cls:=.type "zip",data:=.fields #[.none,.bool false,.bool false,.ref (T7 h l1 l2).objs.size,.ref (T6 h l1 l2).objs.size] }
def w8 (l1 l2:Addr)(xs ys:Array Value):Meets (Builtin.«zip.__new__» ⟨[.type "zip",.ref l1,.ref l2],[]⟩) (λ_ R s=>s.heap.IsTuple l1 xs/\s.heap.IsTuple l2 ys/\R (.ok (.ret (.ref (T5 s.heap l1 l2).objs.size))) { s with heap:=Ou s.heap l1 l2 }) :=
 .of_wp λprog w A R s h=>by
  obtain⟨hp,g,d,tk,os⟩:=s;obtain⟨v1,v2,h⟩:=h;have ZV:=sub_zip;have w1:Heap.IsTuple (Shared.heap ⟨hp,g,d,tk,os⟩) l1 xs:=v1;have w2:Heap.IsTuple (Shared.heap ⟨Pp hp l1,g,d,tk,os⟩) l2 ys:=let ⟨o,e,r⟩:=v2;⟨o,Zi _ e,r⟩
  wp_walk using wpAny_pyIter_tuple w1,wpAny_pyIter_tuple w2
  exact⟨_,rfl,h⟩
def Bo {prog:Program}{w:World}{A:Around}{E:Θ2}{s:Shared}{l1 l2:Addr}{xs ys:Array Value}{Q:Θ2}(v1:s.heap.IsTuple l1 xs)(v2:s.heap.IsTuple l2 ys)
  (q:∀g,IsZip g (s.heap.objs.size+4) (s.heap.objs.size+2) (s.heap.objs.size+3) .none->IsPair g (s.heap.objs.size+2) (.ref s.heap.objs.size) (.ref (s.heap.objs.size+1))->IsPair g (s.heap.objs.size+3) .none .none ->
   g.IsTupleIter s.heap.objs.size l1 0->g.IsTupleIter (s.heap.objs.size+1) l2 0->(∀c o,s.heap.get? c=some o->g.get? c=some o)->Q (.ref (s.heap.objs.size+4)) { s with heap:=g }):wpAny (model prog w) A (call (.type "zip") [.ref l1,.ref l2]) Q E s:=by
 refine callType_new F.called_zip (by decide) (F.typeCall_zip_2 _ _) (F.newCall_zip_2 _ _) (λobj=>F.args_object_init_3 obj _ _) F.entry_zip_new (w8 l1 l2 xs ys) ⟨v1,v2,?_⟩;have e1:(Pp s.heap l1).objs.size=s.heap.objs.size+1:=Y8 ..;have e2:(T7 s.heap l1 l2).objs.size=s.heap.objs.size+2:=by rw[Y8,e1]
 have e3:(T6 s.heap l1 l2).objs.size=s.heap.objs.size+3:=by rw[Y8,e2]
 have e4:(T5 s.heap l1 l2).objs.size=s.heap.objs.size+4:=by rw[Y8,e3]
 have p5:(Ou s.heap l1 l2).get? (T5 s.heap l1 l2).objs.size=some _:=Zw _ rfl;have p4:(Ou s.heap l1 l2).get? (T6 s.heap l1 l2).objs.size=some _:=Zi _ (Zw _ rfl);have p3:(Ou s.heap l1 l2).get? (T7 s.heap l1 l2).objs.size=some _:=Zi _ (Zi _ (Zw _ rfl));have p2:(Ou s.heap l1 l2).get? (Pp s.heap l1).objs.size=some _:=Zi _ (Zi _ (Zi _ (Zw _ rfl)));have p1:(Ou s.heap l1 l2).get? s.heap.objs.size=some _:=Zi _ (Zi _ (Zi _ (Zi _ (Zw _ rfl))));show _/\_;rw[e2,e3,e4] at p5;rw[e1,e2] at p3;rw[e3] at p4;rw[e1] at p2;rw[e4];exact⟨⟨_,p5,rfl⟩,q _ p5 p3 p4 ⟨_,p1,rfl,rfl⟩ ⟨_,p2,rfl,rfl⟩ λc o h=>Zi _ (Zi _ (Zi _ (Zi _ (Zi _ h))))⟩
end PySem
namespace L2
open PySem PySem.Spec PyProof.Rows
section
variable {X:Cx}
def Lc (K:Θ1)(a b:Addr):It :=
 ⟨λi H=>∃xs ys x y,aM K H a xs/\aM K H b ys/\xs[i]?=some x/\ys[i]?=some y,
  λi H v H'=>∃p,H p=none/\v=.ref p/\∀xs ys,aM K H a xs->aM K H b ys->∃x y,xs[i]?=some x/\ys[i]?=some y/\H'=aF H p (.tup [x,y]),
  λi H=>∃xs ys,aM K H a xs/\aM K H b ys/\xs.length<=i⟩
def DK {P:Program}{w:World}{K:Θ1}{nG:Ξ2}{kk}{pos:Pos}(a b z TI TO i1 i2:Addr)(D:ZipApart z TI TO i1 i2 a b) :
  Turn P w K (.Tuple nG kk pos) (Lc K a b) [z,TI,TO,i1,i2] z (λi h=>IsZip h z TI TO .none/\IsPair h TI (.ref i1) (.ref i2)/\(∃u v,IsPair h TO u v)/\h.IsTupleIter i1 a i/\h.IsTupleIter i2 b i) where
 mem:=by simp
 obj:=λi h st c hc=>by
  obtain⟨hz,pI,⟨u,v,pO⟩,⟨o1,e1,c1,d1⟩,o2,e2,c2,d2⟩:=st;simp only[Zl,Qu,or_false] at hc;rcases hc with rfl |rfl |rfl |rfl |rfl
  .exact⟨_,hz,λv z=>by cases z⟩
  .exact⟨_,pI,λv z=>by cases z⟩
  .exact⟨_,pO,λv z=>by cases z⟩
  .exact⟨o1,e1,λv z=>by rw[d1] at z;cases z⟩
  .exact⟨o2,e2,λv z=>by rw[d2] at z;cases z⟩
 keep:=λi h h' st k=>by
  obtain⟨hz,pI,⟨u,v,pO⟩,⟨o1,e1,r1⟩,o2,e2,r2⟩:=st;exact⟨k z (by simp) _ hz,k TI (by simp) _ pI,⟨u,v,k TO (by simp) _ pO⟩,⟨o1,k i1 (by simp) _ e1,r1⟩,o2,k i2 (by simp) _ e2,r2⟩
 item:=by
  intro X hP hw hK hc i aa s σ H E I hf st hg;subst hP hw hK;obtain⟨xs,ys,x,y,IQ,OP,hx,hy⟩:=hg;obtain⟨us,ru,pu,zu⟩:=I.tuple IQ;obtain⟨vs,rv,pv,zv⟩:=I.tuple OP;obtain⟨u,hu,rxu⟩:=ru.get hx;obtain⟨v,hv,ryv⟩:=rv.get hy;obtain⟨hz,pI,⟨u0,v0,pO⟩,t1,t2⟩:=st;refine uN D hz pI pO t1 t2 (show s.heap.IsTuple a us.toArray from pu) (show s.heap.IsTuple b vs.toArray from pv) (x:=u) (y:=v) (by simpa using hu) (by simpa using hv) λg z1 o1 n1 n2 p1 hk=>?_
  refine⟨_,rfl,?_⟩;refine wpAny_letOwnedTupleGo_zip z1 λg2 z2 b2=>?_
  replace b2:Heap.SameBut z g g2:=b2
  have lt:∀{c o},s.heap.get? c=some o->s.heap.objs.size≠c:=λe=>Xq (Zp e)
  have bJ:s.heap.objs.size≠z:=lt hz;have I1:Inv X aa σ H { s with heap:=g2,toks:=s.toks }:=I.mP (ch:=[z,TI,TO,i1,i2]) (λc o hc q=>by
   have c1:c≠z:=λh=>hc (by simp[h])
   exact b2.extBut c o c1 (hk c o c1 (λh=>hc (by simp[h])) (λh=>hc (by simp[h])) (λh=>hc (by simp[h])) q)) hf
  have p2:=b2.extBut _ _ bJ p1;have fp:dS X aa H s.heap.objs.size:=I.jR (Ze _) I.fresh;have I2:=I1.Jm (p:=s.heap.objs.size) (o:=.tup [x,y]) fp ⟨by show 2<=sizeLine;decide,[u,v],.cons rxu (.cons ryv .nil),⟨_,p2,rfl,_,rfl⟩⟩;refine⟨.ref s.heap.objs.size,_,I2,rfl,⟨_,I.fresh,rfl,λys1 ys2 h1 h2=>?_⟩,⟨z2,b2.extBut _ _ D.TIz (hk _ _ D.TIz D.TITO D.TIi1 D.TIi2 pI),⟨_,_,b2.extBut _ _ D.TOz o1⟩,BP n1 b2.extBut D.i1z,BP n2 b2.extBut D.i2z⟩,λc hc=>?_⟩
  .rw[I.jD h1 IQ,I.jD h2 OP];exact⟨x,y,hx,hy,rfl⟩
  .rw[dj]
   .exact(hf c hc).1
   .simp only[Zl,Qu,or_false] at hc;rcases hc with rfl |rfl |rfl |rfl |rfl
    .exact bJ.symm
    .exact(lt pI).symm
    .exact(lt pO).symm
    .obtain⟨_,e,_⟩:=t1;exact(lt e).symm
    .obtain⟨_,e,_⟩:=t2;exact(lt e).symm
 done:=by
  intro X hP hw hK hc i aa s σ H E I hf st hg;subst hP hw hK;obtain⟨xs,ys,IQ,OP,hx⟩:=hg;obtain⟨us,ru,pu,zu⟩:=I.tuple IQ;obtain⟨vs,rv,pv,zv⟩:=I.tuple OP;obtain⟨hz,pI,⟨u0,v0,pO⟩,t1,t2⟩:=st;have hl:=ru.length;exact mE (I.ok.hd hc) D hz pI pO t1 t2 (show s.heap.IsTuple a us.toArray from pu) (show s.heap.IsTuple b vs.toArray from pv) (by simp;omega) λg hk =>
   ⟨rfl,I.mP (t':=s.toks) (ch:=[z,TI,TO,i1,i2]) (λc o hc q=>hk c o (λh=>hc (by simp[h])) (λh=>hc (by simp[h])) (λh=>hc (by simp[h])) (λh=>hc (by simp[h])) q) hf⟩
 self:=λA i s Q E st h=>wpAny_pyIter_zip st.1 h
def ZP (K:Θ1)(ta:TA):TI:=λσ H R=>ta σ H λvs H1=>∃a b,vs=[.ref a,.ref b]/\(∃xs,aM K H1 a xs)/\(∃ys,aM K H1 b ys)/\R (Lc K a b) H1
end
end L2
namespace L2
open PySem PySem.Spec PyProof.Rows KG
abbrev g2 (K:Θ1):TG:=L3 K 2 (CC (eV 0) (CC (eV 1) Sl))
def S2 (ao σ:St):Prop:=∀u v,(σ.set 0 u).set 1 v=(ao.set 0 u).set 1 v
def S2.of {ao:St}{u v:Option V}:S2 ao ((ao.set 0 u).set 1 v):=λu' v'=>by
 match ao with
 |[]=>rfl
 |[_]=>rfl
 |_::_::_=>rfl
def vR (ao:St)(acc:Addr)(P:List V->Hp->Prop)(σ:St)(H:Hp):Prop:=S2 ao σ/\∃ys,H acc=some (.lst ys)/\P ys H
def vR.of {ao:St}{acc:Addr}{P:List V->Hp->Prop}{u v:Option V}{H:Hp}{ys:List V}(h:H acc=some (.lst ys))(p:P ys H):vR ao acc P ((ao.set 0 u).set 1 v) H:=⟨S2.of,ys,h,p⟩
def Jl (ao:St)(acc:Addr)(P:List (b9×V)->Hp->Prop)(σ:St)(H:Hp):Prop:=S2 ao σ/\∃ys,H acc=some (.dK ys)/\P ys H
def Jl.of {ao:St}{acc:Addr}{P:List (b9×V)->Hp->Prop}{u v:Option V}{H:Hp}{ys:List (b9×V)}(h:H acc=some (.dK ys))(p:P ys H):Jl ao acc P ((ao.set 0 u).set 1 v) H:=⟨S2.of,ys,h,p⟩
def rT {K:Θ1}{ao σ:St}{H:Hp}{p:Addr}{x y:V}{Z:St->Hp->Prop}(qV:S2 ao σ)(hp:H p=none)(h:∀H1,az H H1->Z ((ao.set 0 (some x)).set 1 (some y)) H1):g2 K (.ref p) σ (aF H p (.tup [x,y])) Z:=by
 refine⟨p,_,rfl,aM.of cx,rfl,_,_,rfl,_,_,rfl,rfl,?_⟩;show Z ((σ.set 0 (some x)).set 1 (some y)) _;rw[qV];exact h _ ((az.refl H).new hp)
section
variable {K:Θ1}{tt:TT}{te tk tv:TE}{acc a b:Addr}{xs ys:List V}{ao:St}{bN:Hp}{Q:VK}{o:Obj}{kvs:List (b9×V)}
def qC (Pv:Nat->List V->Hp->Prop)(h0:Pv 0 [] (aF bN acc (.lst [])))(hl:∀(i:Nat) zs H,i<=xs.length->H acc=some (.lst zs)->Pv i zs H->aM K H a xs)
  (hs:∀(i:Nat) x zs H H1,xs[i]?=some x->H acc=some (.lst zs)->Pv i zs H->az H H1->tt ((ao.set 0 (some (.int i))).set 1 (some x)) H1 λb H4 =>
   if b=true then te ((ao.set 0 (some (.int i))).set 1 (some x)) H4 λy H5=>∃us,H5 acc=some (.lst us)/\us.length<sizeLine/\vR ao acc (Pv (i+1)) ((ao.set 0 (some (.int i))).set 1 (some x)) (aF H5 acc (.lst (us++[y])))
   else vR ao acc (Pv (i+1)) ((ao.set 0 (some (.int i))).set 1 (some x)) H4)
  (hd:∀zs H,H acc=some (.lst zs)->Pv xs.length zs H->Q (.ref acc) H):gf (g2 K) tt te (Jk K a) acc ao bN Q:=by
 refine⟨λi m σ H=>m=xs.length-i/\i<=xs.length/\vR ao acc (Pv i) σ H,⟨xs.length,by simp,Z9 _,λ_ _=>rfl,[],cx,h0⟩,?_⟩;rintro i m σ H ⟨rfl,hi,qV,zs,hy,p⟩;have q:=hl i zs H hi hy p;by_cases cT:i<xs.length
 .refine .inr ⟨⟨xs,xs[i],q,by simp[cT]⟩,vR ao acc (Pv (i+1)),λaH H' c=>⟨xs.length-(i+1),by omega,rfl,cT,c⟩,λx H' y=>?_⟩;obtain⟨pp,hp,rfl,P7⟩:=y;obtain⟨z,hz,rfl⟩:=P7 xs q;exact rT qV hp λH1 s1=>hs i z zs H H1 hz hy p s1
 .have e:i=xs.length:=by omega
  subst e;exact .inl ⟨⟨xs,q,Ze _⟩,hd zs H hy p⟩
def EF (Pv:Nat->List V->Hp->Prop)(cu:xs.length=ys.length)(h0:Pv 0 [] (aF bN acc (.lst [])))(hl:∀(i:Nat) zs H,i<=xs.length->H acc=some (.lst zs)->Pv i zs H->aM K H a xs/\aM K H b ys)
  (hs:∀(i:Nat) x y zs H H1,xs[i]?=some x->ys[i]?=some y->H acc=some (.lst zs)->Pv i zs H->az H H1->tt ((ao.set 0 (some x)).set 1 (some y)) H1 λb H4 =>
   if b=true then te ((ao.set 0 (some x)).set 1 (some y)) H4 λv H5=>∃us,H5 acc=some (.lst us)/\us.length<sizeLine/\vR ao acc (Pv (i+1)) ((ao.set 0 (some x)).set 1 (some y)) (aF H5 acc (.lst (us++[v])))
   else vR ao acc (Pv (i+1)) ((ao.set 0 (some x)).set 1 (some y)) H4)
  (hd:∀zs H,H acc=some (.lst zs)->Pv xs.length zs H->Q (.ref acc) H):gf (g2 K) tt te (Lc K a b) acc ao bN Q:=by
 refine⟨λi m σ H=>m=xs.length-i/\i<=xs.length/\vR ao acc (Pv i) σ H,⟨xs.length,by simp,Z9 _,λ_ _=>rfl,[],cx,h0⟩,?_⟩;rintro i m σ H ⟨rfl,hi,qV,zs,hy,p⟩;obtain⟨q1,q2⟩:=hl i zs H hi hy p;by_cases cT:i<xs.length
 .refine .inr ⟨⟨xs,ys,xs[i],ys[i]'(by omega),q1,q2,by simp[cT],by simp⟩,vR ao acc (Pv (i+1)),λaH H' c=>⟨xs.length-(i+1),by omega,rfl,cT,c⟩,λv H' y=>?_⟩;obtain⟨pp,hp,rfl,P7⟩:=y;obtain⟨x1,y1,OM,Kv,rfl⟩:=P7 xs ys q1 q2;exact rT qV hp λH1 s1=>hs i x1 y1 zs H H1 OM Kv hy p s1
 .have e:i=xs.length:=by omega
  subst e;exact .inl ⟨⟨xs,ys,q1,q2,Ze _⟩,hd zs H hy p⟩
def Bn (Pv:Nat->List V->Hp->Prop)(h0:Pv 0 [] (aF bN acc (.lst [])))(hl:∀(i:Nat) zs H,i<=kvs.length->H acc=some (.lst zs)->Pv i zs H->H a=some (.iE o (.dK kvs)))
  (hs:∀(i:Nat) k v zs H,kvs[i]?=some (k,v)->H acc=some (.lst zs)->Pv i zs H->tt (ao.set 0 (some (kV k))) H λb H4 =>
   if b=true then te (ao.set 0 (some (kV k))) H4 λy H5=>∃us,H5 acc=some (.lst us)/\us.length<sizeLine/\Cn ao acc (Pv (i+1)) (ao.set 0 (some (kV k))) (aF H5 acc (.lst (us++[y]))) else Cn ao acc (Pv (i+1)) (ao.set 0 (some (kV k))) H4)
  (hd:∀zs H,H acc=some (.lst zs)->Pv kvs.length zs H->Q (.ref acc) H):gf (eV 0) tt te (UU a o kvs) acc ao bN Q:=by
 refine⟨λi m σ H=>m=kvs.length-i/\i<=kvs.length/\Cn ao acc (Pv i) σ H,⟨kvs.length,by simp,Z9 _,λ_=>rfl,[],cx,h0⟩,?_⟩;rintro i m σ H ⟨rfl,hi,qV,zs,hy,p⟩;have q:=hl i zs H hi hy p;by_cases cT:i<kvs.length
 .refine .inr ⟨⟨q,cT⟩,Cn ao acc (Pv (i+1)),λaH H' c=>⟨kvs.length-(i+1),by omega,rfl,cT,c⟩,λx H' y=>?_⟩;obtain⟨e,k,v,hk,ek⟩:=y;subst e ek;show tt (σ.set 0 _) _ _;rw[qV];exact hs i k v zs _ hk hy p
 .have e:i=kvs.length:=by omega
  subst e;exact .inl ⟨⟨q,Ze _⟩,hd zs H hy p⟩
def xq (Pv:Nat->List (b9×V)->Hp->Prop)(h0:Pv 0 [] (aF bN acc (.dK [])))(hl:∀(i:Nat) zs H,i<=xs.length->H acc=some (.dK zs)->Pv i zs H->aM K H a xs)
  (hs:∀(i:Nat) x zs H H1,xs[i]?=some x->H acc=some (.dK zs)->Pv i zs H->az H H1->tt ((ao.set 0 (some (.int i))).set 1 (some x)) H1 λb H4 =>
   if b=true then tk ((ao.set 0 (some (.int i))).set 1 (some x)) H4 λkx H5=>tv ((ao.set 0 (some (.int i))).set 1 (some x)) H5 λy H6=>∃us k,H6 acc=some (.dK us)/\kx=kV k/\us.length<sizeLine/\Jl ao acc (Pv (i+1)) ((ao.set 0 (some (.int i))).set 1 (some x)) (aF H6 acc (.dK (iR us k y)))
   else Jl ao acc (Pv (i+1)) ((ao.set 0 (some (.int i))).set 1 (some x)) H4)
  (hd:∀zs H,H acc=some (.dK zs)->Pv xs.length zs H->Q (.ref acc) H):rH (g2 K) tt tk tv (Jk K a) acc ao bN Q:=by
 refine⟨λi m σ H=>m=xs.length-i/\i<=xs.length/\Jl ao acc (Pv i) σ H,⟨xs.length,by simp,Z9 _,λ_ _=>rfl,[],cx,h0⟩,?_⟩;rintro i m σ H ⟨rfl,hi,qV,zs,hy,p⟩;have q:=hl i zs H hi hy p;by_cases cT:i<xs.length
 .refine .inr ⟨⟨xs,xs[i],q,by simp[cT]⟩,Jl ao acc (Pv (i+1)),λaH H' c=>⟨xs.length-(i+1),by omega,rfl,cT,c⟩,λx H' y=>?_⟩;obtain⟨pp,hp,rfl,P7⟩:=y;obtain⟨z,hz,rfl⟩:=P7 xs q;exact rT qV hp λH1 s1=>hs i z zs H H1 hz hy p s1
 .have e:i=xs.length:=by omega
  subst e;exact .inl ⟨⟨xs,q,Ze _⟩,hd zs H hy p⟩
end
section
variable {X:Cx}
end
end L2
namespace KM
open PySem L2 KG EX
def boot_zip:bootBuiltins "zip"=some (.type "zip"):=by first |rfl |kernel_rfl |decide+kernel
def Ch:Sp:=λvs H Q _=>∃(b p pa pp pw:Addr) (xa xp xw:List V) (am pu wi:Ξ1),vs=[.ref p]/\fH b H p pa pp pw xa xp xw am pu wi/\∀(q:Addr) (H':Hp),az H H'->H' q=some (.tup (vB xa.length (rowsOf wi)))->Q (.ref q) H'
def Jq:Sp:=λvs H Q _=>∃(l:Addr) (ys:List V) (qs:Δ1),vs=[.ref l]/\H l=some (.lst ys)/\jw H ys qs/\qs≠[]/\(∀q∈qs,Rb 3000 q)/\∀(a:Addr) (q:Rat),H a=some (qO q)->q∈qs->(∀z∈qs,z<=q)->Q (.ref a) H
def sd {H:Hp}{ys:List V}{qs:Δ1}(h:jw H ys qs){i:Nat}{y:V}(hy:ys[i]?=some y):∃(a:Addr) (q:Rat),y=.ref a/\H a=some (qO q)/\qs[i]?=some q:=by
 obtain⟨a,e,z⟩:=h.2 i y hy;have hi:i<qs.length:=by rw[<- h.1];exact(Zf.mp hy).1
 refine⟨a,qs[i],e,?_,Zc hi⟩;have:qs.getD i 0=qs[i]:=by simp[List.getD,Zc hi]
 rw[this] at z;exact z
def RD:Sp:=λvs H Q _=>∃(r q:Addr) (ns:Γ3) (ys:List V) (qs:Δ1),vs=[.ref r,.ref q]/\H r=some (.tup (ns.map V.int))/\H q=some (.tup ys)/\jw H ys qs/\ns.length=qs.length/\ns.length<=6/\(∀k∈ns,0<=k/\k<=100)/\(∀z∈qs,Rb 300 z) /\
 (∀j,0<ns.getD j 0->0<qs.getD j 0)/\∀(t:Addr) (H':Hp),az H H'->H' t=some (.tup (cj (bE ns qs)))->Q (.ref t) H'
def rk:Sp:=λvs H Q _=>∃(n:Int) (q:Addr) (x:Rat),vs=[.int n,.ref q]/\H q=some (qO x)/\Rb 300 x/\0<x/\0<=n/\n<=100/\∀(t:Addr) (H':Hp),az H H'->H' t=some (qO ((n:Rat) / x))->Q (.ref t) H'
def Rz:Sp:=λvs H Q _=>∃(pb pg:Addr) (xs:List V) (M:Γ1) (gs:List Nat),vs=[.ref pb,.ref pg]/\H pb=some (.tup xs)/\tu H xs M/\H pg=some (.tup (cj gs))/\M.length<=6/\(∀r∈M,r.length<=6) /\
 ∀(r:Addr) (H':Hp),az H H'->H' r=some (.tup (cj ((List.range M.length).filter λi=>cz gs (M.getD i []))))->Q (.ref r) H'
def tI (am:Γ3)(qs:Δ1)(n:Nat):Δ1:=(List.range n).map λg=>((am.getD g 0:Int):Rat)*qs.getD g 0
def Jp:Sp:=λvs H Q _=>∃(b p pa pp pw q:Addr) (xa xp xw ys:List V) (am pu wi:Ξ1) (qs:Δ1),vs=[.ref p,.ref q]/\fH b H p pa pp pw xa xp xw am pu wi/\H q=some (.tup ys)/\jw H ys qs/\qs.length=xa.length/\(∀z∈qs,Rb 300 z) /\
 ∀(r:Addr) (zs:List V) (H':Hp),az H H'->H r=none->H' r=some (.lst zs)->jw H' zs (tI (am.map bL) qs xa.length)->Q (.ref r) H'
def CV (Pr:Addr):Sp:=λvs H Q E=>∃(b p pa pp pw:Addr) (xa xp xw:List V) (am pu wi:Ξ1) (v:V) (d:PyData),vs=[.ref p,v]/\fH b H p pa pp pw xa xp xw am pu wi/\gZ b H v d /\
 (eS xa.length (rowsOf wi) d=false->∀H',az H H'->E (.ref Pr) none H')/\(eS xa.length (rowsOf wi) d=true->∀H',az H H'->Q .bZ H')
def Of (p q:Rat):PyData.eqv (qD p) (qD q)=decide (p=q):=by
 unfold qD;simp only[PyData.eqv,PyData.eqvAll];rw[Ya];simp;constructor
 .rintro⟨h1,h2⟩;exact Rat.ext h1 (by omega)
 .rintro rfl;exact⟨rfl,rfl⟩
def JH {K:Θ1}{H:Hp}{a:Addr}{q:Rat}(h:H a=some (qO q)):mM K H (.ref a) (qD q):=(gZ.tup (b:=a+1) h (.cons (.int _) (.cons (.int _) .nil))).dt
def eZ (ns:Γ3)(i:Nat):List Nat:=(List.range i).filter λj=>decide (0<ns.getD j 0)
def dX (ns:Γ3)(qs:Δ1)(j:Nat):Rat:=((ns.getD j 0:Int):Rat) / qs.getD j 0
def jF (ns:Γ3)(i:Nat):eZ ns (i+1)=eZ ns i++if 0<ns.getD i 0 then [i] else []:=by
 unfold eZ;rw[Ys,Xb]
 congr 1
 by_cases h:0<ns.getD i 0
 .rw[if_pos h];simp only[List.filter,h,decide_true]
 .rw[if_neg h];simp only[List.filter,h,decide_false]
def rP {ns:Γ3}{i j:Nat}(h:j∈eZ ns i):j<i/\0<ns.getD j 0:=by
 unfold eZ at h;rw[Zn] at h;exact⟨by simpa using h.1,by simpa using h.2⟩
def uk (ns:Γ3)(i:Nat):(eZ ns i).length<=i:=by
 unfold eZ;exact Zk (Yk _ _) (by simp)
def wP (ns:Γ3)(i:Nat):(eZ ns i).Nodup:=(Ja).sublist Yn
def nD (j:Nat):b9:=.inl (j:Int)
def ux {i j:Nat}(h:nD i=nD j):i=j:=by unfold nD at h;injection h with h;omega
structure tD (ns:Γ3)(qs:Δ1)(i:Nat)(kvs:List (b9×V))(H:Hp):Prop where
 ks:kvs.map (·.1)=(eZ ns i).map nD
 fr:jw H (kvs.map (·.2)) ((eZ ns i).map (dX ns qs))
def tD.len {ns:Γ3}{qs:Δ1}{i:Nat}{kvs:List (b9×V)}{H:Hp}(h:tD ns qs i kvs H):kvs.length=(eZ ns i).length:=by
 have:=congrArg List.length h.ks;simpa using this
def tD.aA {ns:Γ3}{qs:Δ1}{i:Nat}{kvs:List (b9×V)}{H H':Hp}(h:tD ns qs i kvs H)(s:az H H'):tD ns qs i kvs H':=⟨h.ks,h.fr.aA s⟩
def tD.tm {ns:Γ3}{qs:Δ1}{i:Nat}{kvs:List (b9×V)}{H H':Hp}(h:tD ns qs i kvs H)(s:Tm H H'):tD ns qs i kvs H':=⟨h.ks,h.fr.tm s⟩
def Ay {kvs:List (b9×V)}{k:b9}(h:k∉kvs.map (·.1)):gD kvs k=none:=by
 cases e:gD kvs k with
 |none=>rfl
 |some v=>exact absurd (yx e) h
def tD.put {ns:Γ3}{qs:Δ1}{i:Nat}{kvs:List (b9×V)}{H:Hp}(h:tD ns qs i kvs H){a:Addr}(hp:0<ns.getD i 0)(ha:H a=some (qO (dX ns qs i))):tD ns qs (i+1) (iR kvs (nD i) (.ref a)) H:=by
 have hn:nD i∉kvs.map (·.1):=by
  rw[h.ks];intro z;obtain⟨j,hj,e⟩:=Zd.mp z;have:=(rP hj).1;have:=ux e;omega
 rw[uh _ (Ay hn)];refine⟨?_,?_⟩
 .rw[Zr,h.ks,jF,if_pos hp,Zr];rfl
 .rw[Zr,jF,if_pos hp,Zr];exact h.fr.app ha
def tD.skip {ns:Γ3}{qs:Δ1}{i:Nat}{kvs:List (b9×V)}{H:Hp}(h:tD ns qs i kvs H)(hp:¬ 0<ns.getD i 0):tD ns qs (i+1) kvs H:=by
 refine⟨?_,?_⟩
 .rw[jF,if_neg hp,Ye];exact h.ks
 .rw[jF,if_neg hp,Ye];exact h.fr
theorem tD.at {ns:Γ3}{qs:Δ1}{n i:Nat}{kvs:List (b9×V)}{H:Hp}(h:tD ns qs n kvs H){k:b9}{v:V}(e:kvs[i]?=some (k,v)):∃(j:Nat) (a:Addr),(eZ ns n)[i]?=some j/\k=nD j/\v=.ref a/\H a=some (qO (dX ns qs j))/\gD kvs k=some v:=by
 have e1:=congrArg (λl=>l[i]?) h.ks;simp only[Zh,e,Y0] at e1;cases ej:(eZ ns n)[i]? with
 |none=>rw[ej] at e1;cases e1
 |some j =>
  rw[ej] at e1;simp only[Y0,Option.some.injEq] at e1;have e2:(kvs.map (·.2))[i]?=some v:=by rw[Zh,e];rfl
  obtain⟨a,q,ea,hq,eq⟩:=sd h.fr e2;rw[Zh,ej] at eq;simp only[Y0,Option.some.injEq] at eq;refine⟨j,a,rfl,e1,ea,by rw[eq];exact hq,?_⟩;have nd:(kvs.map (·.1)).Nodup:=by
   rw[h.ks];exact(wP ns n).map _ λ_ _ vK z=>vK (ux z)
  clear e1 ej e2 ea hq eq h
  induction kvs generalizing i with
  |nil=>simp at e
  |cons p r ih =>
   rw[Zs,Yl] at nd;cases i with
   |zero =>
    have e':p=(k,v):=by simpa using e
    rw[e'];exact jg rfl
   |succ i =>
    have e':r[i]?=some (k,v):=by simpa using e
    have hm:k∈r.map (·.1):=Zd.mpr ⟨(k,v),Zu e',rfl⟩;rw[jh (λz=>nd.1 (by rw[z];exact hm))];exact ih e' nd.2
def yL {ns:Γ3}{qs:Δ1}{g o:Nat}(hg:0<qs.getD g 0)(ho:0<qs.getD o 0):(dX ns qs g<dX ns qs o)↔(((ns.getD g 0:Int):Rat)*qs.getD o 0<((ns.getD o 0:Int):Rat)*qs.getD g 0):=by
 unfold dX;generalize ((ns.getD g 0:Int):Rat)=a;generalize ((ns.getD o 0:Int):Rat)=b;generalize qs.getD g 0=x at hg ⊢;generalize qs.getD o 0=y at ho ⊢;have hxy:(0:Rat)<x*y:=Y6 hg ho;rw[<- Rat.mul_lt_mul_left hxy];have hx:x≠0:=λz=>by rw[z] at hg;exact absurd hg (by decide)
 have hy:y≠0:=λz=>by rw[z] at ho;exact absurd ho (by decide)
 have e1:x*y*(a / x)=a*y:=by grind
 have e2:x*y*(b / y)=b*x:=by grind
 rw[e1,e2]
def EK {ns:Γ3}{qs:Δ1}(dQ:∀j,0<ns.getD j 0->0<qs.getD j 0)(vI:∀j,0<=ns.getD j 0){m:Rat}(hm:m∈(eZ ns ns.length).map (dX ns qs))(gF:∀z∈(eZ ns ns.length).map (dX ns qs),z<=m) :
  bE ns qs=(eZ ns ns.length).filter λj=>decide (dX ns qs j=m):=by
 unfold bE eZ;rw[Jb];refine Y7 λg hg=>?_
 have OX:g<ns.length:=by simpa using hg
 unfold cZ;by_cases h0:0<ns.getD g 0
 .have h1:ns.getD g 0≠0:=by omega
  rw[decide_eq_true h1,decide_eq_true h0,Xg,Bool.and_true,Ya,Yc,decide_eq_true_eq];constructor
  .intro h;obtain⟨o,ho,eo⟩:=Zd.mp hm;obtain⟨ol,op⟩:=rP ho;have:=h o (by simpa using ol);unfold worse at this;rw[decide_eq_true op,Xg,Bool.not_eq_true',decide_eq_false_iff_not,<- yL (dQ g h0) (dQ o op),eo] at this;have h2:dX ns qs g<=m:=gF _ (Zd.mpr ⟨g,Zn.mpr ⟨hg,by simpa using h0⟩,rfl⟩);exact Rat.le_antisymm h2 (Yh.mp this)
  .intro h o ho;unfold worse;by_cases op:0<ns.getD o 0
   .rw[decide_eq_true op,Xg,Bool.not_eq_true',decide_eq_false_iff_not,<- yL (dQ g h0) (dQ o op),h];exact Yh.mpr (gF _ (Zd.mpr ⟨o,Zn.mpr ⟨ho,by simpa using op⟩,rfl⟩))
   .rw[decide_eq_false op];rfl
 .have h1:ns.getD g 0=0:=by have:=vI g;omega
  rw[decide_eq_false h0,Qf];rw[decide_eq_false (λz=>z h1)];rfl
def Bs {ns:Γ3}{qs:Δ1}(vI:∀j,0<=ns.getD j 0)(h:eZ ns ns.length=[]):bE ns qs=[]:=by
 unfold bE;rw[Qg];intro g hg;have OX:g<ns.length:=by simpa using hg
 unfold cZ;have h0:¬ 0<ns.getD g 0:=λz=>by
  have:g∈eZ ns ns.length:=Zn.mpr ⟨hg,by simpa using z⟩;rw[h] at this;cases this
 have h1:ns.getD g 0=0:=by have:=vI g;omega
 rw[decide_eq_false (λz=>z h1)];simp
def G5 {n:Int}{x:Rat}{k j:Nat}(hn:Bd k n)(hx:Rb j x)(h0:0<x):Rb (k+j) ((n:Rat) / x):=by
 have hp:=mT.mp h0;have hd:=den_pos x;have e:=kR (a:=(n:Rat)) (b:=x) (by omega);have en:((n:Rat)).num=n:=Rat.num_intCast n;have ed:(((n:Rat)).den:Int)=1:=rfl;rw[en,ed,Int.one_mul] at e;rw[<- e];exact nU (by omega) (hn.mul hx.2) (hx.1.mono (by omega))
def yU (f:Nat->Bool)(i:Nat):cj ((List.range (i+1)).filter f)=cj ((List.range i).filter f)++if f i=true then [V.int (i:Int)] else []:=by
 unfold cj;rw[Ys,Xb,Zr]
 congr 1
 cases h:f i<;>simp[List.filter,h]
theorem yI {H:Hp}:∀{ws:List V}{M:Γ1}{a:Addr}{ns:Γ3},tu H ws M->H a=some (.tup (ns.map V.int))->tu H (ws++[.ref a]) (M++[ns])
 |_,_,a,_,.nil,ha=>.cons ⟨a,rfl,ha⟩ .nil
 |_,_,_,_,.cons h t,ha=>.cons h (yI t ha)
end KM
namespace KM
def TZ {α : Type}(f:α->Bool)(x:α):[x].filter f=if f x=true then [x] else []:=by cases h:f x<;>simp[List.filter,h]
end KM
namespace KM
open PySem L2 KG EX
def aV (g:Nat)(M:Γ1):List Nat:=(List.range g).filter (has M)
def ay (g:Nat)(M:Γ1):Γ3:=(aV g M).map λj:Nat=>(j:Int)
def Ax (g:Nat)(M:Γ1):vB g M=(ay g M).map V.int:=by
 unfold vB ay aV;rw[Zj];refine Y2 λj _=>?_
 show V.int (0+(j:Int))=V.int (j:Int);rw[Int.zero_add]
def jf {g:Nat}{M:Γ1}{j:Nat}(h:j∈aV g M):j<g/\has M j=true:=by
 unfold aV at h;rw[Zn] at h;exact⟨by simpa using h.1,h.2⟩
def lP (g:Nat)(M:Γ1):(aV g M).length<=g:=by
 unfold aV;exact Zk (Yk _ _) (by simp)
def IJ {c:Int}{ms:Γ3}{qs:Δ1}(h:dk c ms qs):∀{ix:List Nat},(∀i∈ix,i<qs.length)->(((ix.map λi=>ms.getD i 0).sum:Int):Rat)=(c:Rat)*bz (ix.map λi=>qs.getD i 0):=by
 intro ix;have key:∀(ix:List Nat) (z:Rat),(∀i∈ix,i<qs.length)->((ix.map λi=>qs.getD i 0).foldl (λs q=>s+q) z)=z+bz (ix.map λi=>qs.getD i 0):=by
  intro ix;induction ix with
  |nil=>intro z _;unfold bz;simp[Rat.add_zero]
  |cons i ix ih =>
   intro z hi;have KD:∀j∈ix,j<qs.length:=λj hj=>hi j (Zq _ hj)
   unfold bz;rw[Zs,Xh,Xh,ih _ KD,ih _ KD,Yx,Rat.add_assoc]
 induction ix with
 |nil=>intro _;unfold bz;simp[Xo]
 |cons i ix ih =>
  intro hi;have KD:∀j∈ix,j<qs.length:=λj hj=>hi j (Zq _ hj)
  rw[Zs,Qh,Rat.intCast_add,ih KD,h.2 i (hi i Zm)];have:bz ((i::ix).map λi=>qs.getD i 0)=qs.getD i 0+bz (ix.map λi=>qs.getD i 0):=by
   conv=>lhs;unfold bz
   rw[Zs,Xh,key ix _ KD,Yx]
  rw[this,Rat.mul_add]
def iN (am:Γ3)(qs:Δ1)(S:List Nat):Rat:=bz (S.map λg=>(d7 am qs).getD g 0)
def aX (am:Γ3)(ps qs:Δ1)(M:Γ1)(S:List Nat):Rat:=iN am qs S-ci ps (cO M qs S)
def aw (S:Γ3):List Nat:=S.map Int.toNat
def NR {S:Γ3}(h:∀x∈S,0<=x):S.map V.int=cj (aw S):=by
 unfold cj aw;rw[Zj];refine Y2 λx hx=>?_
 show V.int x=V.int ((x.toNat:Nat):Int);rw[Xa (h x hx)]
def AM {ns:Γ3}{mask:Nat}{x:Int}(h:x∈cY ns mask):x∈ns:=by
 unfold cY at h;obtain⟨k,hk,rfl⟩:=Zd.mp h;have:k<ns.length:=by simpa using(Zn.mp hk).1
 simp[List.getD,Zc this]
def AN (ns:Γ3)(mask:Nat):(cY ns mask).length<=ns.length:=by
 unfold cY;rw[Za];exact Zk (Yk _ _) (by simp)
def AF {ns S:Γ3}(h:S∈aB ns):(∀x∈S,x∈ns)/\S.length<=ns.length:=by
 unfold aB at h;obtain⟨k,_,rfl⟩:=Zd.mp h;exact⟨λx hx=>AM hx,AN ns k⟩
def IL {M:Γ1}{qs:Δ1}{S:List Nat}{i:Nat}(h:i∈cO M qs S):i<M.length:=by
 unfold cO at h;simpa using(Zn.mp h).1
def PY (M:Γ1)(qs:Δ1)(S:List Nat):(cO M qs S).length<=M.length:=by
 unfold cO;exact Zk (Yk _ _) (by simp)
def NS {gs:List Nat}{i:Nat}{x:V}(h:(cj gs)[i]?=some x):∃g:Nat,gs[i]?=some g/\x=V.int (g:Int):=by
 unfold cj at h;rw[Zh] at h;cases e:gs[i]? with
 |none=>rw[e] at h;cases h
 |some g=>rw[e] at h;exact⟨g,rfl,by simpa using h.symm⟩
def Ek (gs:List Nat):(cj gs).length=gs.length:=by unfold cj;rw[Za]
def t7 (l:Δ1)(q:Rat):Prop:=q∈l/\∀z∈l,z<=q
def gJ (l:Δ1)(q:Rat):Prop:=q∈l/\∀z∈l,q<=z
def gJ.uniq {l:Δ1}{p q:Rat}(h1:gJ l p)(h2:gJ l q):p=q:=Rat.le_antisymm (h1.2 q h2.1) (h2.2 p h1.1)
theorem wx:∀{l:Δ1},l≠[]->∃q,t7 l q
 |[],h=>absurd rfl h
 |[x],_=>⟨x,Zm,λz hz=>by rw[Z2.mp hz];exact Yf⟩
 |x::y::l,_=>by
  obtain⟨q,h1,h2⟩:=wx (l:=y::l) (by simp);by_cases h:q<x
  .exact⟨x,Zm,λz hz=>by
    rcases Zl.mp hz with rfl |hz
    .exact Yf
    .exact Yi (h2 z hz) (Z7 h)⟩
  .exact⟨q,Zq _ h1,λz hz=>by
    rcases Zl.mp hz with rfl |hz
    .exact Yh.mp h
    .exact h2 z hz⟩
def mI (a b:Int):Int:=if a<b then b else a
def ZI (a b:Int):a<=mI a b:=by unfold mI;split<;>omega
def ZH (a b:Int):b<=mI a b:=by unfold mI;split<;>omega
def TC (a b:Int):mI a b=a\/mI a b=b:=by unfold mI;split<;>simp
def mD (row:Γ3):Int:=row.foldl mI 0
theorem lg:∀(row:Γ3) (a:Int),a<=row.foldl mI a/\(∀n∈row,n<=row.foldl mI a)/\(row.foldl mI a=a\/row.foldl mI a∈row)
 |[],a=>⟨Int.le_refl _,(λn h=>by cases h),Or.inl rfl⟩
 |x::row,a=>by
  obtain⟨h1,h2,h3⟩:=lg row (mI a x);rw[Xh];refine⟨Int.le_trans (ZI a x) h1,λn hn=>?_,?_⟩
  .rcases Zl.mp hn with rfl |hn
   .exact Int.le_trans (ZH a n) h1
   .exact h2 n hn
  .rcases h3 with h |h
   .rcases TC a x with e |e
    .rw[h];exact .inl e
    .rw[h,e];exact .inr Zm
   .exact .inr (Zq _ h)
def HU {row:Γ3}{m:Int}(hm:m∈row)(gF:∀n∈row,n<=m)(vI:∀n∈row,0<=n):m=mD row:=by
 obtain⟨h1,h2,h3⟩:=lg row 0;have a1:=h2 m hm;have a2:=vI m hm;show m=row.foldl _ 0;rcases h3 with h |h
 .omega
 .have:=gF _ h;omega
structure cH (n:Nat)(row:Γ3):Prop where
 len:row.length=n
 bd:∀k∈row,0<=k/\k<=100
 pos:∃k∈row,1<=k
def cH.mx {n:Nat}{row:Γ3}(h:cH n row):1<=mD row/\mD row<=100:=by
 obtain⟨h1,h2,h3⟩:=lg row 0;obtain⟨k,hk,k1⟩:=h.pos;have:=h2 k hk;refine⟨by show 1<=row.foldl _ 0;omega,?_⟩;show row.foldl _ 0<=100;rcases h3 with e |e
 .omega
 .exact(h.bd _ e).2
def cH.at {n:Nat}{row:Γ3}(h:cH n row)(g:Nat):0<=row.getD g 0/\row.getD g 0<=mD row:=by
 obtain⟨h1,h2,h3⟩:=lg row 0;by_cases hg:g<row.length
 .have:row.getD g 0∈row:=by simp[List.getD,Zc hg]
  exact⟨(h.bd _ this).1,h2 _ this⟩
 .have:row.getD g 0=0:=by simp[List.getD,Yw (Xl hg)]
  rw[this];exact⟨Int.le_refl _,h1⟩
def bO (g:Nat)(row:Γ3):Rat:=((row.getD g 0:Int):Rat) / ((mD row:Int):Rat)
def qk {g:Nat}{row:Γ3}:Rat.divInt (row.getD g 0) (mD row)=bO g row:=X0 _ _
def EU {z:Int}(h:0<z):(0:Rat)<(z:Rat):=by
 have e:(0:Rat)=((0:Int):Rat):=rfl;rw[e,Qs];exact h
def sk {z:Int}(h:0<=z):(0:Rat)<=(z:Rat):=by
 have e:(0:Rat)=((0:Int):Rat):=rfl;rw[e,Rat.intCast_le_intCast];exact h
def PZ {a b:Rat}(hb:0<b):a / b*b=a:=by
 have:b≠0:=λz=>by rw[z] at hb;exact absurd hb (by decide)
 grind
def Oi {a b:Rat}(ha:0<=a)(hb:0<b):0<=a / b:=by
 rcases Classical.em (0<=a / b) with h |h
 .exact h
 .exfalso;have h1:a / b<0:=Rat.not_le.mp h;have h2:a / b*b<0*b:=(Rat.mul_lt_mul_right hb).mpr h1;rw[PZ hb,X1] at h2;exact absurd h2 (Yh.mpr ha)
def ue {n:Nat}{g:Nat}{row:Γ3}(h:cH n row):0<=bO g row:=Oi (sk (h.at g).1) (EU (by have:=h.mx.1;omega))
def jE {n:Nat}{g:Nat}{row:Γ3}(h:cH n row):bO g row*((mD row:Int):Rat)=((row.getD g 0:Int):Rat):=PZ (EU (by have:=h.mx.1;omega))
def DP {n:Nat}{g:Nat}{row:Γ3}(h:cH n row):bO g row<=1:=by
 have hp:=EU (z:=mD row) (by have:=h.mx.1;omega);refine Yh.mp λz=>?_
 have h2:=(Rat.mul_lt_mul_right hp).mpr z;rw[jE h,Rat.one_mul,Qs] at h2;have:=(h.at g).2;omega
def qj {n:Nat}{g:Nat}{row:Γ3}(h:cH n row):0<bO g row↔0<row.getD g 0:=by
 have hp:=EU (z:=mD row) (by have:=h.mx.1;omega);rw[<- Rat.mul_lt_mul_right hp,jE h,X1];have e:(0:Rat)=((0:Int):Rat):=rfl;rw[e,Qs]
def ou {n:Nat}{g:Nat}{row:Γ3}(h:cH n row):Rb 7 (bO g row):=by
 rw[<- qk];have h1:=h.at g;have h2:=h.mx;exact nU (by omega) (by unfold Bd;omega) (by unfold Bd;omega)
def kz (am:Γ3)(W:List Nat):Int:=(W.map λg=>am.getD g 0).sum
structure yu (am:Γ3)(ps:Δ1)(M:Γ1)(n:Nat)(qs:Δ1):Prop where
 len:qs.length=n
 ex:∃mn,gJ ps mn/\∀g,g<n->∃sh,t7 (M.map (bO g)) sh/\qs.getD g 0=mn / ((kz am (aV n M):Int):Rat)*sh
theorem rK:∀(l:Δ1) (z:Rat),l.foldl (λs q=>s+q) z=z+bz l
 |[],z=>by unfold bz;simp[Rat.add_zero]
 |x::l,z=>by
  have h1:=rK l (z+x);have h2:=rK l (0+x);unfold bz;rw[Xh,Xh,h1,h2,Yx,Rat.add_assoc]
def sum_cons (x:Rat)(l:Δ1):bz (x::l)=x+bz l:=by
 conv=>lhs;unfold bz
 rw[Xh,rK,Yx]
theorem CT:∀{l:Δ1},(∀x∈l,0<=x)->0<=bz l
 |[],_=>Yf
 |x::l,h=>by
  rw[sum_cons];have h1:=h x Zm;have h2:=CT (l:=l) λy hy=>h y (Zq _ hy)
  exact Rat.add_nonneg h1 h2
def MV {l:Δ1}{x:Rat}(h:∀y∈l,0<=y)(hx:x∈l):x<=bz l:=by
 induction l with
 |nil=>cases hx
 |cons y l ih =>
  rw[sum_cons];have hl:=λz hz=>h z (Zq y hz)
  rcases Zl.mp hx with rfl |hx
  .have:=CT hl;have h2:=(Jc (c:=x)).mpr this;rw[Rat.add_zero] at h2;exact h2
  .have h1:=ih hl hx;have h2:=(Jd (c:=bz l)).mpr (h y Zm);rw[Yx] at h2;exact Yi h1 h2
theorem CU {f g:Nat->Rat}:∀{ix:List Nat},(∀i∈ix,f i<=g i)->bz (ix.map f)<=bz (ix.map g)
 |[],_=>Yf
 |i::ix,h=>by
  rw[Zs,Zs,sum_cons,sum_cons];have h1:=h i Zm;have h2:=CU (ix:=ix) λj hj=>h j (Zq _ hj)
  exact Yi ((Jd (c:=bz (ix.map f))).mpr h1) ((Jc (c:=g i)).mpr h2)
theorem rJ {f:Nat->Rat}:∀{xs ys:List Nat},xs.Sublist ys->(∀i∈ys,0<=f i)->bz (xs.map f)<=bz (ys.map f)
 |_,_,.slnil,_=>Yf
 |_,y::ys,.cons _ h,hn=>by
  rw[Zs,sum_cons];have h1:=rJ h λi hi=>hn i (Zq _ hi)
  have h2:=(Jd (c:=bz (ys.map f))).mpr (hn y Zm);rw[Yx] at h2;exact Yi h1 h2
 |x::xs,_::ys,.cons₂ _ h,hn=>by
  rw[Zs,Zs,sum_cons,sum_cons];exact(Jc (c:=f x)).mpr (rJ h λi hi=>hn i (Zq _ hi))
theorem lR {c:Rat}{f:Nat->Rat}:∀(ix:List Nat),bz (ix.map λi=>c*f i)=c*bz (ix.map f)
 |[]=>by unfold bz;simp[Xo]
 |i::ix=>by rw[Zs,Zs,sum_cons,sum_cons,lR ix,Rat.mul_add]
theorem ud {f:Nat->Int}:∀(ix:List Nat),bz (ix.map λi=>((f i:Int):Rat))=(((ix.map f).sum:Int):Rat)
 |[]=>rfl
 |i::ix=>by rw[Zs,Zs,sum_cons,ud ix,Qh,Rat.intCast_add]
def AL (ns:Γ3)(mask:Nat):(cY ns mask).Sublist ns:=by
 have e:ns=(List.range ns.length).map λk=>ns.getD k 0:=by
  refine List.ext_getElem (by simp) λi h1 h2=>?_
  simp[List.getD,Zc h1]
 have h:(cY ns mask).Sublist ((List.range ns.length).map λk=>ns.getD k 0):=by
  unfold cY;exact List.Sublist.map _ Yn
 rw[<- e] at h;exact h
def AE {ns S:Γ3}(h:S∈aB ns):S.Sublist ns:=by
 unfold aB at h;obtain⟨k,_,rfl⟩:=Zd.mp h;exact AL ns k
def wW (g:Nat)(M:Γ1):aw (ay g M)=aV g M:=by
 unfold aw ay;rw[Zj];have:(Int.toNat ∘ λj:Nat=>(j:Int))=id:=by funext j;simp
 rw[this,Xc]
def BN {a b:Rat}(ha:0<a)(hb:0<b):0<a / b:=by
 have h:=(Rat.lt_div_iff (a:=0) (b:=a) (c:=b) hb);rw[h,X1];exact ha
section
variable {am:Γ3}{ps qs:Δ1}{M:Γ1}{n:Nat}
def oQ (hM:∀r∈M,cH n r)(bJ:M≠[])(hal:am.length=n)(E7:∀a∈am,1<=a):1<=kz am (aV n M):=by
 obtain⟨row,M',rfl⟩:=List.exists_cons_of_ne_nil bJ;have hr:=hM row Zm;obtain⟨k,hk,k1⟩:=hr.pos;obtain⟨j,hj,ej⟩:=Yt hk;have hjn:j<n:=by rw[<- hr.len];exact hj
 have hw:j∈aV n (row::M'):=by
  unfold aV;refine Zn.mpr ⟨by simpa using hjn,?_⟩;unfold has;exact Zv.mpr ⟨row,Zm,by simp only[List.getD,Zc hj,Xm,ej];exact decide_eq_true (by omega)⟩
 have key:∀(W:List Nat),(∀g∈W,g<n)->j∈W->1<=kz am W:=by
  intro W;have nn:∀(W:List Nat),(∀g∈W,g<n)->0<=kz am W:=by
   intro W;induction W with
   |nil=>intro _;exact Int.le_refl _
   |cons g W ih =>
    intro h;have hg:=h g Zm;have h1:=ih λx hx=>h x (Zq _ hx)
    have h2:am.getD g 0∈am:=by simp[List.getD,Zc (show g<am.length by omega)]
    have h3:=E7 _ h2;unfold kz at h1 ⊢;rw[Zs,Qh];omega
  induction W with
  |nil=>intro _ h;cases h
  |cons g W ih =>
   intro h hj;have hg:=h g Zm;have h1:=nn W λx hx=>h x (Zq _ hx)
   have h2:am.getD g 0∈am:=by simp[List.getD,Zc (show g<am.length by omega)]
   have h3:=E7 _ h2;unfold kz at h1 ⊢;rw[Zs,Qh];omega
 exact key _ (λg hg=>(jf hg).1) hw
def xo (hM:∀r∈M,cH n r)(hF:yu am ps M n qs)(zV:∀p∈ps,0<p)(OR:1<=kz am (aV n M)){g:Nat}(hg:g∈aV n M):∃(i:Nat) (row:Γ3),M[i]?=some row/\g∈bE row qs:=by
 obtain⟨Uz,hh⟩:=jf hg;obtain⟨mn,BH,hq⟩:=hF.ex;have hb:0<mn / ((kz am (aV n M):Int):Rat):=BN (zV mn BH.1) (EU (by omega));generalize mn / ((kz am (aV n M):Int):Rat)=base at hb hq;obtain⟨sh,⟨zT,gF⟩,eg⟩:=hq g Uz;obtain⟨row,eC,er⟩:=Zd.mp zT;have hr:=hM row eC;have dQ:0<row.getD g 0:=by
  unfold has at hh;obtain⟨r',jN,h1⟩:=Zv.mp hh;have h2:=(qj (hM r' jN) (g:=g)).mpr (by simpa using h1);have h3:=gF _ (Zd.mpr ⟨r',jN,rfl⟩);refine(qj hr).mp ?_;rw[er];refine Rat.not_le.mp λz=>?_
  exact absurd h2 (Yh.mpr (Yi h3 z))
 obtain⟨i,hi,ei⟩:=Yt eC;refine⟨i,row,by rw[Zc hi,ei],?_⟩;unfold bE;refine Zn.mpr ⟨by rw[hr.len];simpa using Uz,?_⟩;unfold cZ;rw[decide_eq_true (show row.getD g 0≠0 by omega),Xg,Yc];intro o ho;have QF:o<n:=by rw[<- hr.len];simpa using ho
 obtain⟨so,⟨_,hmo⟩,eo⟩:=hq o QF;have hso:=hmo _ (Zd.mpr ⟨row,eC,rfl⟩);unfold worse;have:¬ (((row.getD g 0:Int):Rat)*qs.getD o 0<((row.getD o 0:Int):Rat)*qs.getD g 0):=by
  refine Yh.mpr ?_;rw[eo,eg,<- er,<- jE hr (g:=g),<- jE hr (g:=o)];have IS:=sk (z:=mD row) (by have:=hr.mx.1;omega);have Si:=ue hr (g:=g);generalize ((mD row:Int):Rat)=mx at IS;generalize bO g row=sg at Si;generalize bO o row=s1 at hso;have e1:s1*mx*(base*sg)=sg*mx*base*s1:=by grind
  have e2:sg*mx*(base*so)=sg*mx*base*so:=by grind
  rw[e1,e2];exact X2 hso (Rat.mul_nonneg (Rat.mul_nonneg Si IS) (Z7 hb))
 rw[decide_eq_false this,Qf];rfl
def Hh (zV:∀p∈ps,0<p)(i:Nat):0<=ps.getD i 0:=by
 by_cases h:i<ps.length
 .have:ps.getD i 0∈ps:=by simp[List.getD,Zc h]
  exact Z7 (zV _ this)
 .have:ps.getD i 0=0:=by simp[List.getD,Yw (Xl h)]
  rw[this];exact Yf
def uV (hM:∀r∈M,cH n r)(hF:yu am ps M n qs)(zV:∀p∈ps,0<p)(kA:ps.length=M.length)(hal:am.length=n)(E7:∀a∈am,1<=a)(OR:1<=kz am (aV n M)){S:List Nat}(hS:S.Sublist (aV n M)):aX am ps qs M S<=0:=by
 obtain⟨mn,BH,hq⟩:=hF.ex;cases Wm:S with
 |nil =>
  unfold aX iN;have:ci ps (cO M qs [])=0:=by
   have:cO M qs []=[]:=by
    unfold cO;rw[Qg];intro i _;unfold cz;simp
   rw[this];rfl
  rw[this];show(0:Rat)-0<=0;rw[Rat.sub_self];exact Yf
 |cons g S' =>
  rw[Wm] at hS;have hgw:g∈aV n M:=hS.subset Zm;obtain⟨i,row,E8,j4⟩:=xo hM hF zV OR hgw;have hi:i<M.length:=(Zf.mp E8).1;have sY:i∈cO M qs (g::S'):=by
   unfold cO;refine Zn.mpr ⟨by simpa using hi,?_⟩;have e:(ah M qs).getD i []=(bE row qs).map λg:Nat=>(g:Int):=by
    unfold ah;simp[List.getD,Zh,E8]
   rw[e];unfold cz;exact Zv.mpr ⟨(g:Int),Zd.mpr ⟨g,j4,rfl⟩,Zv.mpr ⟨g,Zm,by simp⟩⟩
  have h1:mn<=ci ps (cO M qs (g::S')):=by
   have VZ:ps.getD i 0∈ps:=by simp[List.getD,Zc (show i<ps.length by omega)]
   refine Yi (BH.2 _ VZ) ?_;unfold ci;exact MV (λy hy=>by obtain⟨j,_,rfl⟩:=Zd.mp hy;exact Hh zV j) (Zd.mpr ⟨i,sY,rfl⟩)
  have pf:=EU (z:=kz am (aV n M)) (by omega);have hb:0<mn / ((kz am (aV n M):Int):Rat):=BN (zV mn BH.1) pf;have br:mn / ((kz am (aV n M):Int):Rat)*((kz am (aV n M):Int):Rat)=mn:=PZ pf;have h2:iN am qs (g::S')<=mn:=by
   unfold iN;have cT:∀o∈aV n M,o<n:=λo ho=>(jf ho).1
   have eo:∀o,o<n->(d7 am qs).getD o 0=qs.getD o 0*((am.getD o 0:Int):Rat):=λo ho=>by
    unfold d7;rw[sN (a:=0) (by rw[Yy,hF.len];exact ho)];have:(List.range qs.length).getD o 0=o:=by simp[List.getD,Y3 (show o<qs.length by rw[hF.len];exact ho)]
    rw[this]
   have amn:∀o,o<n->(0:Rat)<=((am.getD o 0:Int):Rat):=λo ho=>by
    have:am.getD o 0∈am:=by simp[List.getD,Zc (show o<am.length by omega)]
    have:=E7 _ this;exact sk (by omega)
   have Ft:∀o∈g::S',(d7 am qs).getD o 0<=mn / ((kz am (aV n M):Int):Rat)*((am.getD o 0:Int):Rat):=λo ho=>by
    have QF:=cT o (hS.subset ho);rw[eo o QF];obtain⟨so,⟨hsm,_⟩,e⟩:=hq o QF;obtain⟨r,hr,er⟩:=Zd.mp hsm;have hs1:so<=1:=by rw[<- er];exact DP (hM r hr)
    rw[e];refine Qi ?_ (amn o QF);have:=X2 hs1 (Z7 hb);rw[Rat.mul_one] at this;exact this
   refine Yi (CU Ft) ?_;rw[lR];have h3:=rJ (f:=λo=>((am.getD o 0:Int):Rat)) hS (λo ho=>amn o (cT o ho));have h4:=X2 h3 (Z7 hb);refine Yi h4 ?_;rw[ud (f:=λo=>am.getD o 0)];show mn / ((kz am (aV n M):Int):Rat)*((kz am (aV n M):Int):Rat)<=mn;rw[br];exact Yf
  unfold aX;have h5:=Yi h2 h1;rw[Rat.sub_right_le_iff_le_add,Yx];exact h5
def qN:aX am ps qs M []=0:=by
 unfold aX iN;have:cO M qs []=[]:=by
  unfold cO;rw[Qg];intro i _;unfold cz;simp
 rw[this];show(0:Rat)-0=0;exact Rat.sub_self
end
def qq {am:Γ3}{M:Γ1}{n:Nat}(hal:am.length=n)(h6:n<=6)(E7:∀a∈am,a<=60):kz am (aV n M)<=360:=by
 have key:∀W:List Nat,(∀g∈W,g<n)->kz am W<=60*(W.length:Int):=by
  intro W;induction W with
  |nil=>intro _;exact Int.le_refl _
  |cons g W ih =>
   intro h;have hg:=h g Zm;have h1:=ih λx hx=>h x (Zq _ hx)
   have h2:am.getD g 0∈am:=by simp[List.getD,Zc (show g<am.length by omega)]
   have h3:=E7 _ h2;unfold kz at h1 ⊢;rw[Zs,Qh,Xy];omega
 have h1:=key (aV n M) λg hg=>(jf hg).1
 have h2:=lP n M;omega
theorem DA:∀qs:Δ1,PyData.depthAll (qs.map qD)<=1
 |[]=>by simp[PyData.depthAll]
 |q::qs=>by
  have h1:=CH q;have h2:=DA qs;simp[PyData.depthAll];omega
def GQ {base z:Rat}{M:Γ1}{n g:Nat}(hb:0<base)(hM:∀r∈M,cH n r)(bJ:M≠[])(hz:z=0\/∃r∈M,z=base*bO g r)(gF:∀r∈M,base*bO g r<=z):∃sh,t7 (M.map (bO g)) sh/\z=base*sh:=by
 obtain⟨sh,hs⟩:=wx (l:=M.map (bO g)) (by simpa using bJ);refine⟨sh,hs,?_⟩;obtain⟨r0,QE,e0⟩:=Zd.mp hs.1;have h1:base*sh<=z:=by rw[<- e0];exact gF r0 QE
 refine Rat.le_antisymm ?_ h1;rcases hz with rfl |⟨r,hr,rfl⟩
 .have:0<=sh:=by rw[<- e0];exact ue (hM r0 QE)
  exact Rat.mul_nonneg (Z7 hb) this
 .exact X2 (hs.2 _ (Zd.mpr ⟨r,hr,rfl⟩)) (Z7 hb)
def Hg {am pu wi:Ξ1}(hM:iV (.tuple [.tuple am,.tuple pu,.tuple wi])=true)(h:wi.all FT=true){r:Γ3}(hr:r∈rowsOf wi):∃k∈r,1<=k:=by
 unfold rowsOf at hr;obtain⟨d,hd,rfl⟩:=Zd.mp hr;have h1:=Yc.mp h d hd;cases d with
 |tuple ds =>
  obtain⟨x,hx,h2⟩:=Zv.mp (show ds.any RM=true from h1);cases x with
  |int n=>exact⟨n,Zd.mpr ⟨.int n,hx,rfl⟩,of_decide_eq_true h2⟩
  |_=>cases h2
 |_=>cases h1
end KM
namespace PySem
def lJ (h:Heap)(d:Addr)(es:Array DictEntry)(ep:Nat):Prop:=∃o,h.get? d=some o/\o.ExactDict/\o.data=.dict es ep
section
variable {prog:Program}{w:World}{A:Around}{E:Θ2}{s:Shared}{it d:Addr}{i ep:Nat}{es:Array DictEntry}
def lJ.at {h g:Heap}(x:lJ h d es ep)(k:∀o,h.get? d=some o->g.get? d=some o):lJ g d es ep:=let ⟨o,e,r⟩:=x;⟨o,k o e,r⟩
def G7 {Q:Φ1->Shared->Prop}(t:s.heap.IsKeyIter it d i es.size ep)(m:lJ s.heap d es ep)(hi:i<es.size)
  (q:∀g,g.IsKeyIter it d (i+1) es.size ep->Heap.SameBut it s.heap g->Q (some es[i].key) { s with heap:=g }):wpAny (model prog w) A (pyNext (.ref it)) Q E s:=by
 obtain⟨o,ho,hc,hd⟩:=id t;obtain⟨od,BV,_,pR⟩:=m;unfold pyNext;refine Zb (wpAny_attempt (wpAny_callSpecial?_slot (name:=Str.ofString "__next__") t.typeIs F.slot_dict_keyiterator_next (wpAny_call_entry F.slot_dict_keyiterator_next t.typeIs F.entry_dict_keyiterator_next ?_ (F.args_dict_keyiterator_next_1 _))));refine Zb (wpAny_pure (Zb (Zb ?_)))
 first |refine Zb (wpAny_typeNameOfWhole_keyiter t.typeIs (wpAny_pure (Zb (wpAny_fieldsOf ho hd ?_)))) |refine Zb (wpAny_typeNameOf_keyiter t.typeIs (wpAny_pure (Zb (wpAny_fieldsOf ho hd ?_))))
 have ow:Builtin.Dict_items.ownsTuple "dict_keyiterator"=false:=by decide
 simp only[ow,Qj,if_false];show wpAny _ _ (if (Value.ref d == Value.none)=true then _ else _) _ _ s;rw[if_neg (show ¬ ((Value.ref d == Value.none)=true) from Z6)];refine Zb (wpAny_pure (Zb (wpAny_dictEntries BV pR ?_)));rw[if_neg (by simp)];refine Zb (wpAny_pure (Zb (wpAny_dictEpoch BV pR ?_)));rw[if_neg (by simp)];refine wpAny_pure ?_;simp only[show ¬ ((i:Int)<0) from by omega,if_false,Zo,Array.getElem?_eq_getElem hi];refine Zb ?_
 first |refine Zb (wpAny_typeNameOfWhole_keyiter t.typeIs (wpAny_pure (Zb (wpAny_isOneOf_keyiter t.typeIs ?_)))) |refine Zb (wpAny_typeNameOf_keyiter t.typeIs (wpAny_pure (Zb (wpAny_isOneOf_keyiter t.typeIs ?_))))
 show wpAny _ _ (setField (.ref it) 1 (rawInt ((i:Int)+1)) >>= _) _ _ s;refine Zb (wpAny_setField ho hd (by simp) ?_);have t':(s.heap.update it (Obj.mapFields (·.setIfInBounds 1 (rawInt ((i:Int)+1))))).IsKeyIter it d (i+1) es.size ep:=⟨_,Xv _ ho (Obj.isFreed_of_fields (Obj.data_mapFields hd _)),(Obj.cls_mapFields ..).trans hc,by rw[Obj.data_mapFields hd];simp[rawInt]⟩;refine Zb (wpAny_holding (Zb (wpAny_isOneOf_keyiter (s:={ s with heap:=s.heap.update it (Obj.mapFields (·.setIfInBounds 1 (rawInt ((i:Int)+1)))) }) t'.typeIs ?_)));show wpAny _ _ (pure es[i].key) _ _ _;exact wpAny_pure (wpAny_pure ⟨_,rfl,wpAny_pure (q _ t' (Heap.SameBut.update ..))⟩)
def uM {Q:Φ1->Shared->Prop}(hh:A.handled=none)(t:s.heap.IsKeyIter it d i es.size ep)(m:lJ s.heap d es ep)(hi:es.size<=i)
  (q:∀g,Heap.ExtBut it s.heap g->Q none { s with heap:=g }):wpAny (model prog w) A (pyNext (.ref it)) Q E s:=by
 obtain⟨o,ho,hc,hd⟩:=id t;obtain⟨od,BV,_,pR⟩:=m;unfold pyNext;refine Zb (wpAny_attempt (wpAny_callSpecial?_slot (name:=Str.ofString "__next__") t.typeIs F.slot_dict_keyiterator_next (wpAny_call_entry F.slot_dict_keyiterator_next t.typeIs F.entry_dict_keyiterator_next ?_ (F.args_dict_keyiterator_next_1 _))));refine Zb (wpAny_pure (Zb (Zb ?_)))
 first |refine Zb (wpAny_typeNameOfWhole_keyiter t.typeIs (wpAny_pure (Zb (wpAny_fieldsOf ho hd ?_)))) |refine Zb (wpAny_typeNameOf_keyiter t.typeIs (wpAny_pure (Zb (wpAny_fieldsOf ho hd ?_))))
 have ow:Builtin.Dict_items.ownsTuple "dict_keyiterator"=false:=by decide
 simp only[ow,Qj,if_false];show wpAny _ _ (if (Value.ref d == Value.none)=true then _ else _) _ _ s;rw[if_neg (show ¬ ((Value.ref d == Value.none)=true) from Z6)];refine Zb (wpAny_pure (Zb (wpAny_dictEntries BV pR ?_)));rw[if_neg (by simp)];refine Zb (wpAny_pure (Zb (wpAny_dictEpoch BV pR ?_)));rw[if_neg (by simp)];refine wpAny_pure ?_;simp only[show ¬ ((i:Int)<0) from by omega,if_false,Zo,Array.getElem?_eq_none hi];refine Zb ?_
 first |refine Zb (wpAny_typeNameOfWhole_keyiter t.typeIs (wpAny_pure ?_)) |refine Zb (wpAny_typeNameOf_keyiter t.typeIs (wpAny_pure ?_))
 show wpAny _ _ (setField (.ref it) 0 .none >>= _) _ _ s;refine Zb (wpAny_setField ho hd (by simp) ?_);show wpAny _ _ (newExc (.type "StopIteration") [] >>= _) _ _ _;refine Zb ?_;simp only[newExc,newTuple];refine Zb (wpAny_newObj_type ?_ (by size_fits));refine Zb (m:=firstArgMember _ _) (wpAny_of_eq (a:=Value.none) (by first |rfl |(simp only[firstArgMember];rfl)) (wpAny_newObj_type ?_ (by size_fits)));simp only[raiseNew];refine Zb (wpAny_handled ?_);rw[show A.in1.handled=none from hh];refine Zb (wpAny_pure (wpAny_throw ?_));exact Zb (wpAny_isInstance (T:="StopIteration") (b:=true) ⟨_,Zw _ rfl,rfl⟩ isSubtype_stop (wpAny_pure (q _ (((Heap.SameBut.update ..).extBut.push _).push _))))
def G6 {Q:Φ1->Shared->Prop}(t:s.heap.IsValIter it d i es.size ep)(m:lJ s.heap d es ep)(hi:i<es.size)
  (q:∀g,g.IsValIter it d (i+1) es.size ep->Heap.SameBut it s.heap g->Q (some es[i].val) { s with heap:=g }):wpAny (model prog w) A (pyNext (.ref it)) Q E s:=by
 obtain⟨o,ho,hc,hd⟩:=id t;obtain⟨od,BV,_,pR⟩:=m;unfold pyNext;refine Zb (wpAny_attempt (wpAny_callSpecial?_slot (name:=Str.ofString "__next__") t.typeIs F.slot_dict_valueiterator_next (wpAny_call_entry F.slot_dict_valueiterator_next t.typeIs F.entry_dict_valueiterator_next ?_ (F.args_dict_valueiterator_next_1 _))));refine Zb (wpAny_pure (Zb (Zb ?_)))
 first |refine Zb (wpAny_typeNameOfWhole_valiter t.typeIs (wpAny_pure (Zb (wpAny_fieldsOf ho hd ?_)))) |refine Zb (wpAny_typeNameOf_valiter t.typeIs (wpAny_pure (Zb (wpAny_fieldsOf ho hd ?_))))
 have ow:Builtin.Dict_items.ownsTuple "dict_valueiterator"=false:=by decide
 simp only[ow,Qj,if_false];show wpAny _ _ (if (Value.ref d == Value.none)=true then _ else _) _ _ s;rw[if_neg (show ¬ ((Value.ref d == Value.none)=true) from Z6)];refine Zb (wpAny_pure (Zb (wpAny_dictEntries BV pR ?_)));rw[if_neg (by simp)];refine Zb (wpAny_pure (Zb (wpAny_dictEpoch BV pR ?_)));rw[if_neg (by simp)];refine wpAny_pure ?_;simp only[show ¬ ((i:Int)<0) from by omega,if_false,Zo,Array.getElem?_eq_getElem hi];refine Zb ?_
 first |refine Zb (wpAny_typeNameOfWhole_valiter t.typeIs (wpAny_pure (Zb (wpAny_isOneOf_valiter t.typeIs ?_)))) |refine Zb (wpAny_typeNameOf_valiter t.typeIs (wpAny_pure (Zb (wpAny_isOneOf_valiter t.typeIs ?_))))
 show wpAny _ _ (setField (.ref it) 1 (rawInt ((i:Int)+1)) >>= _) _ _ s;refine Zb (wpAny_setField ho hd (by simp) ?_);have t':(s.heap.update it (Obj.mapFields (·.setIfInBounds 1 (rawInt ((i:Int)+1))))).IsValIter it d (i+1) es.size ep:=⟨_,Xv _ ho (Obj.isFreed_of_fields (Obj.data_mapFields hd _)),(Obj.cls_mapFields ..).trans hc,by rw[Obj.data_mapFields hd];simp[rawInt]⟩;refine Zb (wpAny_holding (Zb (wpAny_isOneOf_valiter (s:={ s with heap:=s.heap.update it (Obj.mapFields (·.setIfInBounds 1 (rawInt ((i:Int)+1)))) }) t'.typeIs ?_)));refine Zb (wpAny_isOneOf_valiter (s:={ s with heap:=s.heap.update it (Obj.mapFields (·.setIfInBounds 1 (rawInt ((i:Int)+1)))) }) t'.typeIs ?_);show wpAny _ _ (pure es[i].val) _ _ _;exact wpAny_pure (wpAny_pure ⟨_,rfl,wpAny_pure (q _ t' (Heap.SameBut.update ..))⟩)
def uL {Q:Φ1->Shared->Prop}(hh:A.handled=none)(t:s.heap.IsValIter it d i es.size ep)(m:lJ s.heap d es ep)(hi:es.size<=i)
  (q:∀g,Heap.ExtBut it s.heap g->Q none { s with heap:=g }):wpAny (model prog w) A (pyNext (.ref it)) Q E s:=by
 obtain⟨o,ho,hc,hd⟩:=id t;obtain⟨od,BV,_,pR⟩:=m;unfold pyNext;refine Zb (wpAny_attempt (wpAny_callSpecial?_slot (name:=Str.ofString "__next__") t.typeIs F.slot_dict_valueiterator_next (wpAny_call_entry F.slot_dict_valueiterator_next t.typeIs F.entry_dict_valueiterator_next ?_ (F.args_dict_valueiterator_next_1 _))));refine Zb (wpAny_pure (Zb (Zb ?_)))
 first |refine Zb (wpAny_typeNameOfWhole_valiter t.typeIs (wpAny_pure (Zb (wpAny_fieldsOf ho hd ?_)))) |refine Zb (wpAny_typeNameOf_valiter t.typeIs (wpAny_pure (Zb (wpAny_fieldsOf ho hd ?_))))
 have ow:Builtin.Dict_items.ownsTuple "dict_valueiterator"=false:=by decide
 simp only[ow,Qj,if_false];show wpAny _ _ (if (Value.ref d == Value.none)=true then _ else _) _ _ s;rw[if_neg (show ¬ ((Value.ref d == Value.none)=true) from Z6)];refine Zb (wpAny_pure (Zb (wpAny_dictEntries BV pR ?_)));rw[if_neg (by simp)];refine Zb (wpAny_pure (Zb (wpAny_dictEpoch BV pR ?_)));rw[if_neg (by simp)];refine wpAny_pure ?_;simp only[show ¬ ((i:Int)<0) from by omega,if_false,Zo,Array.getElem?_eq_none hi];refine Zb ?_
 first |refine Zb (wpAny_typeNameOfWhole_valiter t.typeIs (wpAny_pure ?_)) |refine Zb (wpAny_typeNameOf_valiter t.typeIs (wpAny_pure ?_))
 show wpAny _ _ (setField (.ref it) 0 .none >>= _) _ _ s;refine Zb (wpAny_setField ho hd (by simp) ?_);show wpAny _ _ (newExc (.type "StopIteration") [] >>= _) _ _ _;refine Zb ?_;simp only[newExc,newTuple];refine Zb (wpAny_newObj_type ?_ (by size_fits));refine Zb (m:=firstArgMember _ _) (wpAny_of_eq (a:=Value.none) (by first |rfl |(simp only[firstArgMember];rfl)) (wpAny_newObj_type ?_ (by size_fits)));simp only[raiseNew];refine Zb (wpAny_handled ?_);rw[show A.in1.handled=none from hh];refine Zb (wpAny_pure (wpAny_throw ?_));exact Zb (wpAny_isInstance (T:="StopIteration") (b:=true) ⟨_,Zw _ rfl,rfl⟩ isSubtype_stop (wpAny_pure (q _ (((Heap.SameBut.update ..).extBut.push _).push _))))
def DY {Q:Θ2}(hd:(d == sysModules)=false)(m:lJ s.heap d es ep)(q:Q (.ref s.heap.objs.size) { s with heap:=s.heap.push { cls:=.type "dict_keyiterator",data:=.fields #[.ref d,.int 0 0,.int es.size 0,.int ep 0] } }) :
  wpAny (model prog w) A (pyIter (.ref d)) Q E s:=by
 obtain⟨o,ho,hx,pR⟩:=m;have ty:s.TypeIs (.ref d) "dict":=⟨o,ho,hx.1⟩;refine wpAny_pyIter_slot ty F.slot_dict_iter (wpAny_call_entry F.slot_dict_iter ty F.entry_dict_iter ?_ (F.args_dict_iter_1 _));unfold Builtin.«dict.__iter__»;refine Zb ?_;unfold Builtin.Dict.dictSlotNone;refine Zb (wpAny_notOrdered_dict ty ?_);show wpAny _ _ (pure (Value.ref d)) _ _ s;refine wpAny_pure ?_;show wpAny _ _ (Builtin.Dict.showsAll d >>= _) _ _ s;unfold Builtin.Dict.showsAll;rw[if_neg (by rw[hd];exact Z6)];refine Zb (wpAny_pure (Zb (wpAny_dictEntries ho pR (Zb (wpAny_dictEpoch ho pR ?_)))));refine Zb (wpAny_newObj_type (wpAny_pure ⟨_,rfl,"dict_keyiterator",_,⟨_,Zw _ rfl,rfl⟩,F.slot_dict_keyiterator_next.lookup,?_⟩));simpa[rawInt] using q
def wO (d:Addr)(hd:(d == sysModules)=false)(es:Array DictEntry)(ep:Nat):MeetsIn prog w (Builtin.«dict.values» ⟨[.ref d],[]⟩) (λ_ R s=>lJ s.heap d es ep/\R (.ok (.ret (.ref s.heap.objs.size))) { s with heap:=s.heap.push { cls:=.type "dict_values",data:=.fields #[.ref d] } }) :=
 .of_wp λA R s ⟨⟨o,ho,hx,pR⟩,h⟩=>by
  have ty:s.TypeIs (.ref d) "dict":=⟨o,ho,hx.1⟩;refine Zb ?_;unfold Builtin.Dict.noArgs;refine Zb (wpAny_notOrdered_dict ty ?_);show wpAny _ _ (pure d) _ _ s;refine wpAny_pure ?_;show wpAny _ _ (Builtin.Dict.showsAll d >>= _) _ _ s;unfold Builtin.Dict.showsAll;rw[if_neg (by rw[hd];exact Z6)];exact Zb (wpAny_pure (Zb (wpAny_newObj_type (wpAny_pure ⟨_,rfl,h⟩))))
def pF {v:Addr}{Q:Θ2}(hv:s.heap.IsValuesView v d)(m:lJ s.heap d es ep)(q:Q (.ref s.heap.objs.size) { s with heap:=s.heap.push { cls:=.type "dict_valueiterator",data:=.fields #[.ref d,.int 0 0,.int es.size 0,.int ep 0] } }) :
  wpAny (model prog w) A (pyIter (.ref v)) Q E s:=by
 obtain⟨ov,hov,hcv,hdv⟩:=id hv;obtain⟨o,ho,hx,pR⟩:=m;refine wpAny_pyIter_slot hv.typeIs F.slot_dict_values_iter (wpAny_call_entry F.slot_dict_values_iter hv.typeIs F.entry_dict_values_iter ?_ (F.args_dict_values_iter_1 _));unfold Builtin.«dict_values.__iter__»;refine Zb (wpAny_pure (Zb ?_));unfold Builtin.Dict_items.dictOf;refine Zb (wpAny_field hov hdv (x:=.ref d) rfl (wpAny_pure (Zb ?_)));unfold Builtin.Dict_items.newIterator;refine Zb (wpAny_dictEntries ho pR (Zb (wpAny_dictEpoch ho pR ?_)));have ow:Builtin.Dict_items.ownsTuple "dict_valueiterator"=false:=by decide
 simp only[ow,Qj,if_false];refine wpAny_newObj_type (wpAny_pure ⟨_,rfl,"dict_valueiterator",_,⟨_,Zw _ rfl,rfl⟩,F.slot_dict_valueiterator_next.lookup,?_⟩);simpa[rawInt] using q
def Walks.G8 (hh:A.handled=none)(I d:Addr)(bJ:d≠I)(es:Array DictEntry)(ep:Nat):Walks prog w A I [I,d] [I] es.size (λi v=>∃h:i<es.size,v=es[i].val) (λi h=>h.IsValIter I d i es.size ep/\lJ h d es ep) where
 sub:=λb hb=>by simp at hb;simp[hb]
 frame:=λ_ _ _ st hk=>⟨let ⟨o,e,r⟩:=st.1;⟨o,hk I (by simp) o e,r⟩,st.2.at λo e=>hk d (by simp) o e⟩
 item:=λi s Q E hi st hQ=>G6 st.1 st.2 hi λg t' sb=>hQ _ g s.toks ⟨hi,rfl⟩ ⟨t',st.2.at λo e=>sb.extBut d o bJ e⟩ λb o hb e=>sb.extBut b o (λh=>hb (by simp[h])) e
 done:=λs Q E st hQ=>uL hh st.1 st.2 (Ze _) λg eb=>hQ g s.toks λb o hb e=>eb b o (λh=>hb (by simp[h])) e
 self:=λ_ s _ _ st hQ=>wpAny_pyIter_valiter (s:=s) st.1 hQ
end
end PySem
namespace L2
open PySem PySem.Spec PyProof.Rows KG
section
variable {X:Cx}
def rC {aa:Γ2}{σ:St}{H:Hp}{s:Shared}{a:Addr}{kvs:List (List b9×V)}(I:Inv X aa σ H s)(ha:Rd H a (.dT kvs)) :
  kvs.length<=sizeLine/\(a == sysModules)=false/\∃xs es ep,KT H kvs xs/\lJ s.heap a es ep/\es.toList=xs.map (entryOfKey (tupleKind (l4 X.prog X.w))):=by
 obtain⟨z,hd,xs,dv,o,es,ep,h1,h2,h3,h4,_⟩:=yn I.bT ha;exact⟨z,hd,xs,es,ep,dv,⟨o,h1,h2,h3⟩,h4⟩
theorem Cw {H:Hp}:∀{kvs:List (List b9×V)}{xs:List (List b9×Addr×Value)}{i:Nat}{x:List b9×Addr×Value},KT H kvs xs->xs[i]?=some x->∃p,kvs[i]?=some p/\p.1=x.1/\H x.2.1=some (.tup (p.1.map kV))/\RelV p.2 x.2.2
 |_,_,_,_,.nil,h=>by simp at h
 |_,_,0,x,.cons (a:=p) hq _,h=>by
  have e:=Option.some.inj (show some _=some x from h);subst e;exact⟨p,rfl,hq⟩
 |_,_,i+1,x,.cons _ t,h=>by
  obtain⟨p,h1,h2⟩:=Cw (i:=i) t (by simpa using h);exact⟨p,by simpa using h1,h2⟩
def kt_len {H:Hp}{kvs:List (List b9×V)}{xs:List (List b9×Addr×Value)}(h:KT H kvs xs):kvs.length=xs.length:=Paired.length h
def D1:V->List V->Hp->VK->Prop:=λx xs H Q=>∃a kvs,x=.ref a/\xs=[]/\H a=some (.dT kvs)/\∀v,H v=none->Q (.ref v) (aF H v (gd v a))
def wZ:UT X "dict.values" D1:=by
 intro aa s σ H x xs v us Q I r rs h;obtain⟨a,kvs,rfl,rfl,ha,q⟩:=h;cases rs;cases r;obtain⟨z,hd,xs,es,ep,dv,zK,_⟩:=rC I (.inl ha);have ty:s.TypeIs (.ref a) "dict":=let ⟨o,ho,hx,_⟩:=zK;⟨o,ho,hx.1⟩;refine call_meetsIn PySem.F.slot_dict_values ty PySem.F.entry_dict_values (PySem.F.args_dict_values_1 _) (wO a hd es ep) ⟨zK,?_⟩;have hv:(s.heap.push { cls:=.type "dict_values",data:=.fields #[.ref a] }).IsValuesView s.heap.objs.size a:=⟨_,Zw _ rfl,rfl,rfl⟩;refine⟨.ref s.heap.objs.size,_,I.laid (t':=s.toks) (o:=gd s.heap.objs.size a) (λ_ _ q=>Zi _ q) (Ze _) ⟨hv,⟨_,Zw _ rfl⟩,λh1 h2 w1 hk=>?_⟩,rfl,q _ I.fresh⟩;obtain⟨o,e,c⟩:=w1;exact⟨o,hk o e,c⟩
def lZ (hc:X.calm=true):ck X (.builtin "max") (λxs H Q=>∃v a kvs ns,xs=[.ref v]/\H v=some (gd v a)/\Rd H a (.dT kvs)/\kvs.map (·.2)=ns.map V.int/\ns≠[]/\∀m,m∈ns->(∀n∈ns,n<=m)->Q (.int m) H):=by
 intro aa s σ H xs us Q I r h;obtain⟨v,a,kvs,ns,rfl,hv,ha,OT,bJ,q⟩:=h;obtain⟨u,rfl,ru⟩:=vals1 r;cases ru;obtain⟨z,hd,xs,es,ep,dv,zK,xG⟩:=rC I ha;have Cz:s.heap.IsValuesView v a:=(I.bT v _ hv).1;have hsz:es.size=xs.length:=by have:=congrArg List.length xG;simpa using this
 have hlk:=kt_len dv;have hln:kvs.length=ns.length:=by have:=congrArg List.length OT;simpa using this
 have dQ:0<ns.length:=Xn.mpr bJ;have hda:a<s.heap.objs.size:=by obtain⟨o,e,_⟩:=zK;exact Zp e
 have val:∀(i:Nat) (x:Value),(∃h:i<es.size,x=es[i].val)->∃t,x=Value.int ((ns[i]?).getD 0) t:=λi x hx=>by
  obtain⟨hi,rfl⟩:=hx;have QH:i<xs.length:=by omega
  obtain⟨p,h1,h2,h3,h4⟩:=Cw dv (Zc QH);have e1:es[i].val=xs[i].2.2:=by
   have h5:es.toList[i]?=some (entryOfKey (tupleKind (l4 X.prog X.w)) xs[i]):=by rw[xG,Zh,Zc QH];rfl
   rw[Array.getElem?_toList,Array.getElem?_eq_getElem hi] at h5;rw[Option.some.inj h5];rfl
  have e2:=congrArg (λl=>l[i]?) OT;simp only[Zh,h1,Y0] at e2;cases e3:ns[i]? with
  |none=>rw[e3] at e2;cases e2
  |some n =>
   rw[e3] at e2;simp only[Y0,Option.some.injEq] at e2;rw[e2] at h4;rw[e1];exact h4
 refine call_max_walk (pF Cz zK ?_);refine⟨s.heap.objs.size,[s.heap.objs.size,a],[s.heap.objs.size],es.size,_,_,(λi j=>decide ((ns[i]?).getD 0>(ns[j]?).getD 0)),rfl,Walks.G8 (A:=X.A.in1) (I.ok.hd hc) s.heap.objs.size a (Yb hda) es ep,
  ⟨⟨_,Zw _ rfl,rfl,rfl⟩,zK.at λo e=>Zi _ e⟩,λb hb=>?_,by omega,CmpOf.ints_gt (λi=>(ns[i]?).getD 0) val,λx h' tk hP kk=>?_⟩
 .rw[Y8];simp only[Zl,Qu,or_false] at hb;rcases hb with rfl |rfl
  .exact Q6 _
  .exact Qm hda
 obtain⟨t,rfl⟩:=val _ _ hP;obtain⟨h1,h2⟩:=argBest_gt (λi=>(ns[i]?).getD 0) (es.size-1);generalize argBest (λi j=>decide ((ns[i]?).getD 0>(ns[j]?).getD 0)) (es.size-1)=ab at h1 h2 ⊢;have cT:ab<ns.length:=by omega
 refine⟨.int ((ns[ab]?).getD 0),H,I.kept (t':=tk) λb o e=>kk b o (λz=>?_) (Zi _ e),⟨t,rfl⟩,q _ ?_ λn hn=>?_⟩
 .have:=Zp e;simp at z;rw[z] at this;exact Yq _ this
 .rw[Zc cT];exact Zg cT
 .obtain⟨j,hj,rfl⟩:=Yt hn;have:=h2 j (by omega);rw[Zc hj] at this;exact this
def Inv.Iq {aa:Γ2}{σ:St}{H:Hp}{s:Shared}{a:Addr}{kvs:List (List b9×V)}{o:Obj}(I:Inv X aa σ H s)(ha:H a=some (.dT kvs))(ho:s.heap.get? a=some o):Inv X aa σ (aF H a (.iE o (.dT kvs))) s:=by
 refine I.write (x:=a) (e:=a) (t':=s.toks) (h':=s.heap) (by rw[ha];exact True.intro) (.inl rfl) (λ_ _ _ e=>e) ⟨o,ho⟩ ⟨ho,?_⟩;obtain⟨z,hd,xs,dv,r⟩:=(show bY X.prog X.w H s.heap a (.dT kvs) from I.bT a _ ha);exact⟨z,hd,xs,KT.keeps dv λb ys e=>by rw[dj (xW e ha (by intro z;cases z))];exact e,r⟩
def Gy (a:Addr)(o:Obj)(kvs:List (List b9×V)):It :=
 ⟨λi H=>H a=some (.iE o (.dT kvs))/\i<kvs.length,λi H x H'=>H'=H/\∃b k v,kvs[i]?=some (k,v)/\x=.ref b/\H b=some (.tup (k.map kV)),λi H=>H a=some (.iE o (.dT kvs))/\kvs.length<=i⟩
def qA {aa:Γ2}{σ:St}{H:Hp}{s:Shared}{a:Addr}{o:Obj}{vN:Array DictEntry}{ep:Nat}{kvs:List (List b9×V)}(I:Inv X aa σ H s)(hg:H a=some (.iE o (.dT kvs)))(E2:o.data=.dict vN ep) :
  ∃xs,KT H kvs xs/\lJ s.heap a vN ep/\vN.toList=xs.map (entryOfKey (tupleKind (l4 X.prog X.w))):=by
 obtain⟨z,hd,xs,es,Rc,dv,⟨o',vH,hx,Gf⟩,xG⟩:=rC I (.inr ⟨o,hg⟩);obtain⟨ho,_⟩:=I.bT a _ hg;have:o'=o:=by rw[ho] at vH;exact(Option.some.inj vH).symm
 subst this;rw[E2] at Gf;injection Gf with h1 h2
 subst h1 h2;exact⟨xs,dv,⟨o',vH,hx,E2⟩,xG⟩
def wK {P:Program}{w:World}{K:Θ1}{tg:Expr}(a it:Addr)(o:Obj)(kvs:List (List b9×V))(vN:Array DictEntry)(ep:Nat)(E2:o.data=.dict vN ep)(hl0:vN.size=kvs.length):Turn P w K tg (Gy a o kvs) [it] it (λi h=>h.IsKeyIter it a i vN.size ep) where
 mem:=by simp
 obj:=λi h st b hb=>by
  obtain rfl:b=it:=by simpa using hb
  obtain⟨o',e,c,d⟩:=st;exact⟨o',e,λv z=>by rw[d] at z;cases z⟩
 keep:=λi h h' st k=>st.at λo e=>k it (by simp) o e
 item:=by
  intro X hP hw hK hc i aa s σ H E I hf st hg;subst hP hw hK;obtain⟨hg,hi⟩:=hg;obtain⟨xs,dv,zK,xG⟩:=qA I hg E2;obtain⟨f0,f1,f2,f3,f4,f5⟩:=hf it (by simp);have hi0:i<vN.size:=by omega
  refine G7 st zK hi0 λh' vo sb=>?_
  have I1:Inv X aa σ H { s with heap:=h' }:=I.turned (t':=s.toks) (λb o hb e=>(sb.2 b hb).trans e) f0 f1 f3 f4 f5;obtain⟨o1,e1,c1,d1⟩:=id vo;have QH:i<xs.length:=by rw[<- kt_len dv];exact hi
  obtain⟨p,h1,h2,h3,h4⟩:=Cw dv (Zc QH);have ek:vN[i].key=.ref xs[i].2.1:=by
   have h5:vN.toList[i]?=some (entryOfKey (tupleKind (l4 X.prog X.w)) xs[i]):=by rw[xG,Zh,Zc QH];rfl
   rw[Array.getElem?_toList,Array.getElem?_eq_getElem hi0] at h5;rw[Option.some.inj h5];rfl
  refine⟨vN[i].key,rfl,tY (s:={ s with heap:=h' }) e1 c1 d1 (by decide) ⟨.ref xs[i].2.1,H,I1,ek,⟨rfl,xs[i].2.1,p.1,p.2,h1,rfl,h3⟩,vo,λb hb=>(hf b hb).1⟩⟩
 done:=by
  intro X hP hw hK hc i aa s σ H E I hf st hg;subst hP hw hK;obtain⟨hg,hi⟩:=hg;obtain⟨xs,dv,zK,xG⟩:=qA I hg E2;obtain⟨f0,f1,f2,f3,f4,f5⟩:=hf it (by simp);exact uM (I.ok.hd hc) st zK (by omega) λh' eb=>⟨rfl,I.turned (t':=s.toks) (λb o hb e=>eb b o hb e) f0 f1 f3 f4 f5⟩
 self:=λ_ _ _ _ _ st h=>wpAny_pyIter_keyiter st h
def Oc (td:TE):TI:=λσ H R=>td σ H λx H1=>∃a kvs,x=.ref a/\H1 a=some (.dT kvs)/\∀o,R (Gy a o kvs) (aF H1 a (.iE o (.dT kvs)))
def D8 {tg l:Expr}{td:TE}(hl:PE X l td):PI X tg l (Oc td):=by
 intro aa s σ H R I h;refine bB (hl aa s σ H _ I h) λv s1 ⟨x,H1,I1,r1,q1⟩=>?_
 obtain⟨a,kvs,e,ha,q⟩:=q1;subst e;cases r1;obtain⟨z,hd,xs,es,ep,dv,zK,xG⟩:=rC I1 (.inl ha);obtain⟨o,ho,hx,Gf⟩:=id zK;refine DY hd zK ?_;have I2:=I1.Iq ha ho;have hsz:es.size=kvs.length:=by have:=congrArg List.length xG;rw[kt_len dv];simpa using this
 refine⟨s1.heap.objs.size,[s1.heap.objs.size],_,Gy a o kvs,_,rfl,I2.kept (t':=s1.toks) λb o e=>Zi _ e,wK a _ o kvs es ep Gf hsz,⟨_,Zw _ rfl,rfl,rfl⟩,λb hb=>?_,q o⟩;obtain rfl:b=s1.heap.objs.size:=by simpa using hb
 exact I2.jR (Ze _) (I2.bT.fresh (Ze _))
end
section
variable {K:Θ1}{tt:TT}{te tk tv:TE}{acc a b:Addr}{xs ys:List V}{ao:St}{bN:Hp}{Q:VK}{o:Obj}{kvs:List (List b9×V)}
def xu (Pv:Nat->List V->Hp->Prop)(h0:Pv 0 [] (aF bN acc (.lst [])))(hl:∀(i:Nat) zs H,i<=kvs.length->H acc=some (.lst zs)->Pv i zs H->H a=some (.iE o (.dT kvs)))
  (hs:∀(i:Nat) k v b zs H,kvs[i]?=some (k,v)->H b=some (.tup (k.map kV))->H acc=some (.lst zs)->Pv i zs H->tt (ao.set 0 (some (.ref b))) H λc H4 =>
   if c=true then te (ao.set 0 (some (.ref b))) H4 λy H5=>∃us,H5 acc=some (.lst us)/\us.length<sizeLine/\Cn ao acc (Pv (i+1)) (ao.set 0 (some (.ref b))) (aF H5 acc (.lst (us++[y]))) else Cn ao acc (Pv (i+1)) (ao.set 0 (some (.ref b))) H4)
  (hd:∀zs H,H acc=some (.lst zs)->Pv kvs.length zs H->Q (.ref acc) H):gf (eV 0) tt te (Gy a o kvs) acc ao bN Q:=by
 refine⟨λi m σ H=>m=kvs.length-i/\i<=kvs.length/\Cn ao acc (Pv i) σ H,⟨kvs.length,by simp,Z9 _,λ_=>rfl,[],cx,h0⟩,?_⟩;rintro i m σ H ⟨rfl,hi,qV,zs,hy,p⟩;have q:=hl i zs H hi hy p;by_cases cT:i<kvs.length
 .refine .inr ⟨⟨q,cT⟩,Cn ao acc (Pv (i+1)),λaH H' c=>⟨kvs.length-(i+1),by omega,rfl,cT,c⟩,λx H' y=>?_⟩;obtain⟨e,b,k,v,hk,ek,hb⟩:=y;subst e ek;show tt (σ.set 0 _) _ _;rw[qV];exact hs i k v b zs _ hk hb hy p
 .have e:i=kvs.length:=by omega
  subst e;exact .inl ⟨⟨q,Ze _⟩,hd zs H hy p⟩
end
end L2
namespace PySem
section
variable {prog:Program}{w:World}{A:Around}{I:Addr}{fp wr:List Addr}{n:Nat}{P:Nat->Value->Prop}{St:Nat->Heap->Prop}
def sB (W:Walks prog w A.in1 I fp wr n P St)(kf:Nat->Int)(S:Addr)(FA:S∉fp)(J:Heap->Prop)
  (hJ:∀h h',J h->(∀b o,b∉wr->b≠S->h.get? b=some o->h'.get? b=some o)->J h')
  (tJ:∀i v (s:Shared) (Q:Θ2) (E:Θ2),P i v->J s.heap->(∀t tk,Q (.int (kf i) t) { s with toks:=tk })->wpAny (model prog w) A.in1 (call (.builtin "len") [v]) Q E s) {R:Result->Shared->Prop} :
  ∀(r j i:Nat) (s:Shared) (vb:Value) (tb:Tok) (c:Nat),n-(j+1)=r->j+1<=n->St (j+1) s.heap->J s.heap->P i vb->i<=j->(∀j',j'<=j->(kf j')<=(kf i)/\(j'<i->(kf j')<(kf i))) ->
   s.heap.get? S=some { cls:=.type "list",data:=.seq #[vb,.int (kf i) tb] c } ->
   (∀i v h' tk,P i v->i<n->(∀j,j<n->(kf j)<=(kf i)/\(j<i->(kf j)<(kf i)))->(∀b o,b∉wr->b≠S->s.heap.get? b=some o->h'.get? b=some o)->R (.ok (.ret v)) { s with heap:=h',toks:=tk }) ->
   codeAny (model prog w) A (.builtin "max.loop" ⟨[.ref I,.builtin "len",.ref S],[]⟩) R s:=by
 have tU:(toString "max" ++ toString ".loop" : String)="max.loop":=by decide
 have Fz:S∉wr:=λh=>FA (W.sub _ h)
 intro r;induction r with
 |zero =>
  intro j i s vb tb c hr hj sQ hJs VJ V0 j4 hS hR;have hin:j+1=n:=by omega
  refine codeAny_builtin F.entry_max_loop ?_;rw[Around.under_plainId F.plain_max_loop _];show wpAny _ A.in1 (seqItems? (.ref S) >>= _) _ _ _;refine Zb (wpAny_seqItems hS rfl ?_);show wpAny _ A.in1 (tryCatch (pyNext (.ref I)) _ >>= _) _ _ _;refine Zb (wpAny_tryCatch (W.done _ _ _ (by rw[<- hin];exact sQ) λh' Ξ vf=>?_));have IW:=vf S _ Fz hS;show wpAny _ A.in1 (updateSeq S (λ_=>#[]) >>= _) _ _ _;refine Zb (wpAny_updateSeq IW rfl (Zb (wpAny_letGo (wpAny_pure ?_))));exact hR i vb _ _ VJ (by omega) (λj' sZ=>j4 j' (by omega)) λb o hb E6 e=>(Yz _ _ (Ne.symm E6)).trans (vf b o hb e)
 |succ r ih =>
  intro j i s vb tb c hr hj sQ hJs VJ V0 j4 hS hR;have cT:j+1<n:=by omega
  refine codeAny_builtin F.entry_max_loop ?_;rw[Around.under_plainId F.plain_max_loop _];show wpAny _ A.in1 (seqItems? (.ref S) >>= _) _ _ _;refine Zb (wpAny_seqItems hS rfl ?_);show wpAny _ A.in1 (tryCatch (pyNext (.ref I)) _ >>= _) _ _ _;refine Zb (wpAny_tryCatch (W.item (j+1) _ _ _ cT sQ λv h' Ξ hP Gd vf=>?_));have IW:=vf S _ Fz hS;have O8:=hJ _ h' hJs λb o hb _ e=>vf b o hb e
  have step:∀(h2:Heap) (Px:Nat) (i2:Nat) (v2:Value) (t2:Tok) (c2:Nat),St (j+1+1) h2->J h2->P i2 v2->i2<=j+1->(∀j',j'<=j+1->(kf j')<=(kf i2)/\(j'<i2->(kf j')<(kf i2))) ->
    h2.get? S=some { cls:=.type "list",data:=.seq #[v2,.int (kf i2) t2] c2 }->(∀b o,b∉wr->b≠S->h'.get? b=some o->h2.get? b=some o) ->
    codeAny (model prog w) A (.builtin "max.loop" ⟨[.ref I,.builtin "len",.ref S],[]⟩) R { s with heap:=h2,toks:=Px }:=λh2 Px i2 v2 t2 c2 a1 a2 a3 a4 a5 a6 a7 =>
   ih (j+1) i2 { s with heap:=h2,toks:=Px } v2 t2 c2 (by omega) cT a1 a2 a3 a4 a5 a6 λi3 v3 h3 Vf b1 b2 b3 b4=>hR i3 v3 h3 Vf b1 b2 b3 λb o hb E6 e=>b4 b o hb E6 (a7 b o hb E6 (vf b o hb e))
  refine Zb (wpAny_tryCatch (wpAny_holding (tJ (j+1) v _ _ _ hP O8 λt2 Px=>?_)));refine Zb (wpAny_tryCatch (wpAny_holding (Zb (CmpOf.ints_gt (prog:=prog) (w:=w) (A:=A.in1) (P:=λi v=>∃t,v=.int (kf i) t) kf (λi v h=>h) (j+1) i _ _ _ _ _ ⟨t2,rfl⟩ ⟨tb,rfl⟩ ?_))));refine Zb (wpAny_holding (wpAny_truthy_bool (Zb (wpAny_letGo (wpAny_pure ?_)))));by_cases l5:(kf i)<(kf (j+1))
  .simp only[gt_iff_lt,l5,decide_true,if_true];refine Zb (wpAny_updateSeq IW rfl (Zb (wpAny_letGo ?_)));rw[tU];refine wpAny_pure ⟨plainId_quiet F.plain_max_loop _,step _ _ (j+1) v t2 _ (W.frame _ _ _ Gd λb Wf o e=>(Yz _ _ (λh:S=b=>FA (by rw[h];exact Wf))).trans e) (hJ _ _ O8 λb o _ E6 e=>(Yz _ _ (Ne.symm E6)).trans e) hP (Ze _) (λj' sZ=>?_) (Xv _ IW rfl) λb o _ E6 e=>(Yz _ _ (Ne.symm E6)).trans e⟩;by_cases e:j'=j+1
   .subst e;exact⟨by omega,λ_=>by omega⟩
   .have kB:=j4 j' (by omega);have mr:=kB.1;exact⟨by omega,λ_=>by omega⟩
  .simp only[gt_iff_lt,l5,decide_false,Qj,if_false];refine Zb (wpAny_letGo ?_);rw[tU];refine wpAny_pure ⟨plainId_quiet F.plain_max_loop _,step _ _ i vb tb c Gd O8 VJ (by omega) (λj' sZ=>?_) IW λb o _ _ e=>e⟩;by_cases e:j'=j+1
   .subst e;exact⟨by omega,λ_=>by omega⟩
   .exact j4 j' (by omega)
def sC {E:Θ2}{s:Shared}{x:Value}{Q:Θ2}
  (h:wpAny (model prog w) A.in1 (pyIter x) (λit cE=>∃(I:Addr) (fp wr:List Addr) (n:Nat) (P:Nat->Value->Prop) (St:Nat->Heap->Prop) (kf:Nat->Int) (J:Heap->Prop),it=.ref I/\Walks prog w A.in1 I fp wr n P St/\St 0 cE.heap/\(∀b∈fp,b<cE.heap.objs.size)/\0<n/\(∀S,cE.heap.get? S=none->∀h h',J h->(∀b o,b∉wr->b≠S->h.get? b=some o->h'.get? b=some o)->J h')/\(∀h',(∀b o,cE.heap.get? b=some o->h'.get? b=some o)->J h') /\
   (∀i v (s:Shared) (Q:Θ2) (E:Θ2),P i v->J s.heap->(∀t tk,Q (.int (kf i) t) { s with toks:=tk })->wpAny (model prog w) A.in1 (call (.builtin "len") [v]) Q E s) /\
   ∀i v h' tk,P i v->i<n->(∀j,j<n->(kf j)<=(kf i)/\(j<i->(kf j)<(kf i)))->(∀b o,b∉wr->cE.heap.get? b=some o->h'.get? b=some o)->Q v { cE with heap:=h',toks:=tk }) E s) :
  wpAny (model prog w) A (call (.builtin "max") [x] [(Str.ofString "key",.builtin "len")]) Q E s:=by
 have tU:(toString "max" ++ toString ".loop" : String)="max.loop":=by decide
 refine PyProof.Rows.kmk_tree F.kind_max F.plain_max F.entry_max (PyProof.Rows.kmk_max_key _ _) ?_;refine Zb (wpAny_of_eq (show Builtin.Builtins.bindParams "max" ["key","default"] 0 ⟨[],[(Str.ofString "key",.builtin "len")]⟩=pure [some (.builtin "len"),none] from rfl) (Zb (wpAny_pure (Zb (wpAny_mono h (λit cE lH=>?_) λ_ _ e=>e)))));obtain⟨I,fp,wr,n,P,St,kf,J,rfl,W,sQ,Fu,hn,hJ,hJ0,tJ,hQ⟩:=lH;refine Zb (wpAny_newObj_type ?_);have FA:cE.heap.objs.size∉fp:=λhm=>Yq _ (Fu _ hm)
 have Fz:cE.heap.objs.size∉wr:=λh=>FA (W.sub _ h)
 have KR:cE.heap.get? cE.heap.objs.size=none:=by
  cases e:cE.heap.get? cE.heap.objs.size with
  |none=>rfl
  |some o=>exact absurd (Zp e) (Yq _)
 rw[tU];refine wpAny_pure ⟨plainId_quiet F.plain_max_loop _,codeAny_builtin F.entry_max_loop ?_⟩;have gS:(cE.heap.push { cls:=.type "list",data:=.seq #[] }).get? cE.heap.objs.size=some { cls:=.type "list",data:=.seq #[] }:=Zw _ rfl;have zL:∀b o,cE.heap.get? b=some o->b≠cE.heap.objs.size:=λb o e=>Yb (Zp e)
 rw[Around.under_plainId F.plain_max_loop _];show wpAny _ A.in1 (seqItems? (.ref _) >>= _) _ _ _;refine Zb (wpAny_seqItems gS rfl ?_);refine Zb (wpAny_tryCatch (W.item 0 _ _ _ hn (W.frame _ _ _ sQ λb _ o e=>Zi _ e) λv h' Ξ hP Gd vf=>?_));have IW:=vf _ _ Fz gS;have O8:J h':=hJ _ KR _ h' (hJ0 _ λb o e=>Zi _ e) λb o hb _ e=>vf b o hb e
 refine Zb (wpAny_tryCatch (wpAny_holding (tJ 0 v _ _ _ hP O8 λt2 Px=>?_)));refine Zb (wpAny_updateSeq IW rfl ?_);rw[tU];refine wpAny_pure ⟨plainId_quiet F.plain_max_loop _,sB W kf _ FA J (hJ _ KR) tJ _ 0 0 _ v t2 _ rfl hn (W.frame _ _ _ Gd λb Wf o e=>(Yz _ _ (λh:cE.heap.objs.size=b=>FA (by rw[h];exact Wf))).trans e) (hJ _ KR _ _ O8 λb o _ E6 e=>(Yz _ _ (Ne.symm E6)).trans e) hP (Ze _) (λj' sZ=>?_) (Xv _ IW rfl) λi3 v3 h3 Vf b1 b2 b3 b4=>?_⟩
 .obtain rfl:j'=0:=by omega
  exact⟨by omega,λh=>absurd h (by omega)⟩
 .exact hQ i3 v3 h3 Vf b1 b2 b3 λb o hb e=>b4 b o hb (zL b o e) ((Yz _ _ (Ne.symm (zL b o e))).trans (vf b o hb (Zi _ e)))
end
end PySem
namespace L2
open PySem PySem.Spec PyProof.Rows
def oo (g:TG)(tt:TT)(tk tv:TE)(J:It)(acc:Addr)(ao:St)(bN:Hp)(Q:VK):Prop :=
 ∃W:Nat->Nat->St->Hp->Prop,(∃m,W 0 m ao (aF bN acc (.dT [])))/\∀i m aH H',W i m aH H' ->
  (J.stop i H'/\Q (.ref acc) H') \/
  (J.go i H'/\∃N:St->Hp->Prop,(∀c3 H2,N c3 H2->∃m',m'<m/\W (i+1) m' c3 H2)/\∀x H2,J.vj i H' x H2->g x aH H2 λiD H3=>tt iD H3 λb H4 =>
   if b=true then tk iD H4 λkx H5=>tv iD H5 λy H6=>∃kvs k b,H6 acc=some (.dT kvs)/\kx=.ref b/\H6 b=some (.tup (k.map kV))/\kvs.length<sizeLine/\N iD (aF H6 acc (.dT (iR kvs k y))) else N iD H4)
def GI (wi:TI)(g:TG)(tt:TT)(tk tv:TE)(own:Nat)(ix:List Nat):TE:=λσ H Q=>wi σ H λJ H1=>∀acc,H1 acc=none->oo g tt tk tv J acc (eF own ix σ) H1 Q
def xt {X:Cx}{aa:Γ2}{σ:St}{H:Hp}{s:Shared}{a b:Addr}{v:V}{r:Value}{A:Around}{E:Θ2}{kvs:List (List b9×V)}{k:List b9}{Q:Unit->Shared->Prop}(hu:(tupleKind (l4 X.prog X.w)).room A)(I:Inv X aa σ H s)
  (e:H a=some (.dT kvs)) (eb:H b=some (.tup (k.map kV))) (rv:RelV v r) (l:kvs.length<sizeLine) (h:∀s',Inv X aa σ (aF H a (.dT (iR kvs k v))) s'->Q () s'):wpAny (model X.prog X.w) A (dictSet a (.ref b) r) Q E s:=by
 obtain⟨z,hd,xs,dv,dd⟩:=T0 I.bT e;have hz:xs.length<=sizeLine:=by rw[<- Paired.length dv];exact z
 have hl:(iR kvs k v).length<=sizeLine:=by have:=md kvs k v;omega
 refine wpAny_dictSet_heap (hsz:=hz) hu (wB I.bT eb) dd λh' UP hs=>h _ ?_
 obtain⟨q,es,ep,hq,h2,h3,h4,_,h5⟩:=UP;refine zB I (by rw[e];exact True.intro) hs ⟨q,hq⟩ ⟨hl,hd,_,(dv.put k eb rv).keeps λc ys ec=>?_,q,es,ep,hq,h2,h3,h4,h5⟩;rw[dj (xW ec e (λz=>nomatch z))];exact ec
section
variable {X:Cx}{scope:Scope}{own cap:Δ2}{ix:List Nat}{tg iter kx vx:Expr}{gx:Ξ2}{wi:TI}{g:TG}{tt:TT}{tk tv:TE}{pos:Pos}
def uY {aa:Γ2}{σ:St}{H2:Hp}{s2:Shared}{it:Addr}{fp:List Addr}{tn:Nat->Heap->Prop}{J:It}{Q:VK}{RR:Value->Addr->Result->Shared->Prop}{E:Θ2}
  (hu:(tupleKind (l4 X.prog X.w)).room X.A) (B:aG X scope own cap ix) (hc:X.calm=true)
  (hb:∀C fp s H,PG (d6 X scope C (own++cap) fp s H) tg g/\fk (d6 X scope C (own++cap) fp s H) gx tt/\PE (d6 X scope C (own++cap) fp s H) kx tk/\PE (d6 X scope C (own++cap) fp s H) vx tv)
  (I2:Inv X aa σ H2 s2) (T:Turn X.prog X.w X.K tg J fp it tn) (gz:tn 0 s2.heap) (f2:∀b∈fp,dS X aa H2 b)
  (q:∀acc,H2 acc=none->oo g tt tk tv J acc (eF own.length ix σ) H2 Q)
  (KW:∀D C H' s' m,Inv X aa σ H' s'->Q (.ref D) H'->s'.heap.Ns C m->dS X aa H' C->RR (.ref D) C (.ok .next) s') :
  wpAny (model X.prog X.w) X.A newDict (λacc eh=>wpAny (model X.prog X.w) X.A (newFunctionEnv scope X.env.globals (dZ X.env scope.names []) [] X.env.qual none .none (some X.env)) (λnH g9 =>
   codeAny (model X.prog X.w) X.A (.compStart (.DictComp kx vx [⟨tg,iter,gx,0⟩] scope pos) 0 (.ref it) acc { nH with scope:=relabel scope X.env }) (RR acc nH.locals) g9) E eh) E s2:=by
 refine wpAny_newObj_type (fY ?_);have I3:Inv X aa σ (aF H2 s2.heap.objs.size (.dT [])) { s2 with heap:=s2.heap.push { cls:=.type "dict",dict:=none,data:=.dict #[] } } :=
  I2.laid (a:=s2.heap.objs.size) (o:=.dT []) (h':=s2.heap.push { cls:=.type "dict",data:=.dict #[] }) (t':=s2.toks) (λ_ _ q=>Zi _ q) (Ze _) (EB s2.heap I2.big)
 obtain⟨W,⟨m0,w0⟩,fj⟩:=q s2.heap.objs.size I2.fresh;generalize hD:s2.heap.objs.size=D at I3 w0 fj ⊢;have cT:∀b∈fp,b<D:=λb br=>by
  obtain⟨o,e,_⟩:=T.obj 0 _ gz b br;rw[<- hD];exact Zp e
 generalize Kx:({ s2 with heap:=s2.heap.push { cls:=.type "dict",dict:=none,data:=.dict #[] } }:Shared)=s3 at I3 ⊢;have iZ:∀b o,s2.heap.get? b=some o->s3.heap.get? b=some o:=λb o e=>by rw[<- Kx];exact Zi _ e
 have f3:∀b∈fp,dS X aa (aF H2 D (.dT [])) b:=λb br=>⟨by rw[dj (Yb (cT b br))];exact(f2 b br).1,(f2 b br).2⟩
 have o3:∀b∈fp,∃o,s3.heap.get? b=some o:=λb br=>let ⟨o,e,_⟩:=T.obj 0 _ gz b br;⟨o,iZ b o e⟩
 have I4:=I3.block B f3 o3;have BJ:tn 0 (pushCells (s3.heap.push { cls:=.type "dict",data:=.dict #[] }) scope.names):=T.keep 0 _ _ gz λb _ o e=>pushCells_keeps _ _ b o (Zi _ (iZ b o e))
 obtain⟨hg,BY,QL,QK⟩:=hb s3.heap.objs.size fp s3 (aF H2 D (.dT []));generalize gY:d6 X scope s3.heap.objs.size (own++cap) fp s3 (aF H2 D (.dT []))=X' at I4 hg BY QL QK;have eP:X'.prog=X.prog:=by rw[<- gY];rfl
 have eW:X'.w=X.w:=by rw[<- gY];rfl
 have eK:X'.K=X.K:=by rw[<- gY];rfl
 have eA:X'.A=X.A:=by rw[<- gY];rfl
 have eE:X'.env=iJ scope s3.heap.objs.size X.env:=by rw[<- gY];rfl
 have ex:X'.xe=λ_ _=>False:=by rw[<- gY];rfl
 have mq:X'.calm=true:=by rw[<- gY];exact hc
 have hV:∀{H':Hp},(∀b∈fp,H' b=none)->∀b∈fp,dS X' [] H' b:=λhn b br=>by
  subst gY;exact⟨hn b br,(I4.ok.E9 b br).1,I4.ok.tL b br,.inl br,(I4.ok.E9 b br).2,λp hp=>absurd (show p∈([]:Γ2) from hp) (by simp)⟩
 have loop:∀s4:Shared,s4={ s3 with heap:=pushCells (s3.heap.push { cls:=.type "dict",data:=.dict #[] }) scope.names } ->
   codeAny (model X.prog X.w) X.A (.compLoop (.DictComp kx vx [⟨tg,iter,gx,0⟩] scope pos) 0 (.ref it) (.ref D) (iJ scope s3.heap.objs.size X.env)) (RR (.ref D) s3.heap.objs.size) s4:=by
  rintro s4 rfl;refine oX (λn s'=>∃i aH H',Inv X' [] aH H' s'/\tn i s'.heap/\(∀b∈fp,H' b=none)/\W i n aH H') ?_ m0 ⟨0,_,_,I4,BJ,λb br=>(f3 b br).1,w0⟩;rintro n s5 ⟨i,nj,H5,I5,vn,zW,w5⟩;rcases fj i n nj H5 w5 with ⟨stop,qn⟩ |⟨go,N,hN,step⟩
  .have:=T.done X' eP eW eK mq i [] s5 nj H5 (λ_ _=>False) I5 (hV zW) vn stop;rw[eA] at this;refine bB this λr s6 ⟨hr,I6⟩=>?_
   subst hr;subst gY;have J6:Inv X aa σ H5 s6:=I3.yq (ch:=fp) I6.os I6.base I6.bT I6.bare λb br=>⟨(f3 b br).2.2.2.1,(f3 b br).2.1,(f3 b br).2.2.2.2.1,(f3 b br).2.2.2.2.2⟩
   obtain⟨m,hn,_⟩:=I6.loc;exact KW D _ H5 s6 m J6 qn hn (I3.jR (Ze _) I6.free)
  .have:=T.item X' eP eW eK mq i [] s5 nj H5 (λ_ _=>False) I5 (hV zW) vn go;rw[eA] at this;refine bB this λr s6 ⟨u,hr,h6⟩=>?_
   subst hr;refine bB h6 λ_ s7 ⟨x,H7,I7,r7,y7,vm,KZ⟩=>?_
   have Lh:=I7.pinned (hV KZ) (T.obj _ _ vm);have a1:=hg _ s7 nj H7 x u _ Lh r7 (step x H7 y7);rw[eP,eW,eA,eE,ex] at a1;refine bB a1 λ_ s8 ⟨vi,H8,I8,q8⟩=>?_
   have a2:=BY _ s8 vi H8 _ I8 q8;rw[eP,eW,eA,eE,ex] at a2;refine bB a2 λb s9 ⟨H9,I9,q9⟩=>?_
   have again:∀{s':Shared}{aH:St}{H':Hp},Inv X' ([]++d0 fp s7.heap) aH H' s'->N aH H'->∃m,m<n/\∃i aH H',Inv X' [] aH H' s'/\tn i s'.heap/\(∀b∈fp,H' b=none)/\W i m aH H':=λ{s' aH H'} I' n'=>by
    obtain⟨m',hm,w'⟩:=hN aH H' n';refine⟨m',hm,i+1,aH,H',I'.dH,T.keep _ _ _ vm λb br o e=>(I'.pin (b,o) (Z1 _ (Z1 _ (BB br e)))).1,λb br=>?_,w'⟩;obtain⟨o,e,d⟩:=T.obj _ _ vm b br;exact(I'.pin (b,o) (Z1 _ (Z1 _ (BB br e)))).2.1
   cases b with
   |false=>exact again I9 q9
   |true =>
    rw[if_pos rfl] at q9 ⊢;have a3:=QL _ s9 vi H9 _ I9 q9;rw[eP,eW,eA,eE,ex] at a3;refine bB a3 λkv OB ⟨yk,Po,Rq,II,PH⟩=>?_
    have a4:=QK _ OB vi Po _ Rq PH;rw[eP,eW,eA,eE,ex] at a4;refine bB a4 λvv Pz ⟨yv,UV,Li,OD,kvs,k,b,hk,ek,U',hz,PF⟩=>?_
    subst ek;cases (show kv=Value.ref b from II);have a5:=xt (E:=λ_ _=>False) (A:=X.A) (Q:=λ_ s'=>∃m,m<n/\∃i aH H',Inv X' [] aH H' s'/\tn i s'.heap/\(∀b∈fp,H' b=none)/\W i m aH H') (by rw[eP,eW];exact hu) Li hk U' OD hz λs' I'=>again I' PF
    rw[eP,eW] at a5;exact a5
 exact codeAny_compStart_dict (loop _ rfl) (T.self X.A 0 _ _ _ BJ (loop _ rfl))
def AQ (hu:(tupleKind (l4 X.prog X.w)).room X.A)(B:aG X scope own cap ix)(hc:X.calm=true)(hi:PI X tg iter wi)
  (hb:∀C fp s H,PG (d6 X scope C (own++cap) fp s H) tg g/\fk (d6 X scope C (own++cap) fp s H) gx tt/\PE (d6 X scope C (own++cap) fp s H) kx tk/\PE (d6 X scope C (own++cap) fp s H) vx tv)
  (hs:∀x,foldedSetIterable iter X.env x=pure x:=by intro _;rfl):PE X (.DictComp kx vx [⟨tg,iter,gx,0⟩] scope pos) (GI wi g tt tk tv own.length ix):=by
 intro aa s σ H Q I h;rw[arm_eval_DictComp];have has:∀x∈scope.names,x.2=.free->(X.env.cells.lookup x.1).isSome=true:=λx hx hk=>by
  obtain⟨c,e⟩:=I.ok.has x.1 (B.frees x hx hk);rw[e];rfl
 refine wpAny_comprehension_free (use:=none) rfl hs (P1 has) B.kind B.names ?_;show wpAny _ _ (eval iter X.env) _ _ s;refine bB (hi aa s σ H _ I h) λv s1 h1=>bB h1 λIM s2 h2=>?_
 obtain⟨it,fp,tn,J,H2,e,I2,T,gz,f2,q⟩:=h2;subst e;refine uY (RR:=λacc C=>compPost (model X.prog X.w) X.A X.xe none (EP X aa σ Q) acc C) hu B hc hb I2 T gz f2 q ?_;intro D C H' s' m I' q' hn fC;refine⟨m,hn,λh' vG=>⟨.ref D,H',?_,rfl,q'⟩⟩;exact I'.turned (t':=s'.toks) (it:=C) (λb o Fy e=>(vG.2 b Fy).trans e) fC.1 fC.2.1 fC.2.2.2.1 fC.2.2.2.2.1 fC.2.2.2.2.2
end
section
variable {X:Cx}
def TsK (K:Θ1)(H:Hp)(ys:List V)(ks:List (List V)):Prop:=ys.length=ks.length/\∀(j:Nat) x,ys[j]?=some x->∃b,x=.ref b/\aM K H b (ks.getD j [])
def Ha (K:Θ1):List V->Hp->VK->Prop:=λxs H Q=>∃(p:Addr) (ys:List V) (ks:List (List V)),xs=[.ref p]/\bi K H p ys/\ks≠[]/\TsK K H ys ks /\
 ∀(i:Nat) (b:Addr),ys[i]?=some (.ref b)->i<ks.length->(∀j,j<ks.length->(ks.getD j []).length<=(ks.getD i []).length/\(j<i->(ks.getD j []).length<(ks.getD i []).length))->Q (.ref b) H
def AO (K:Θ1){e:Expr}{t:TA}{p p2 p3 pos:Pos}(hc:X.calm=true)(hg:Gl X "max")(hm:X.mg "max"=none)(OX:Gl X "len")(BW:X.mg "len"=none)(ha:PA X [e] t)(hK:X.K=K:=by rfl)
  (he:backTo pos (starEach [e] X.env)=[(false,eval e X.env)]:=by rfl):PE X (.Call (.Name "max" p) [e] [⟨some "key",.Name "len" p2,p3⟩] pos) (Vq (Ha K) t):=by
 subst hK;intro aa s σ H Q I h;refine wpAny_Call_Name_kw (ij I hg hm boot_max ?_);refine PyProof.Rows.callWith_kw (bB (ha pos aa s σ H _ I h) λus s1 ⟨vs,H1,I1,r1,q1⟩=>?_) (by rw[he];rfl) (by rw[he];rfl);refine PyProof.Rows.kws_cons (ij I1 OX BW Z8 (PyProof.Rows.kws_nil ?_));obtain⟨pl,ys,ks,rfl,hl,bJ,⟨cu,hts⟩,q⟩:=q1;obtain⟨u,rfl,ru⟩:=vals1 r1;cases ru;show wpAny _ _ (call (.builtin "max") [.ref pl] [(Str.ofString "key",.builtin "len")]) _ _ _;refine sC (jk I1 (I1.ok.hd hc) (.inl hl) λit fp wr its St s2 rv W st0 Fu Sf=>?_);have BX:=rv.length;have OV:its.length=ks.length:=by omega
 have hn:0<ks.length:=Xn.mpr bJ;refine⟨it,fp,wr,its.length,_,St,(λi=>((ks.getD i []).length:Int)),(λh=>∀b o,b∉wr->s2.heap.get? b=some o->h.get? b=some o),rfl,W,st0,Fu,by omega,?_,?_,?_,?_⟩
 .intro S hS h h' J k b o hb e;exact k b o hb (λz=>by rw[z,hS] at e;cases e) (J b o hb e)
 .intro h' k b o _ e;exact k b o e
 .intro i v s3 Q3 E3 hP J hQ;have I3:=Sf s3.heap s3.toks J;obtain⟨x,hx,rx⟩:=be.at rv hP;obtain⟨b,rfl,hb⟩:=hts i x hx;cases rx;obtain⟨ZN,r3,pl3,VG⟩:=I3.tuple hb;have e3:((ZN.toArray.size:Nat):Int)=((ks.getD i []).length:Int):=by rw[Z3,r3.length]
  have hn3:=lN;have hl3:=r3.length;refine len_tuple (s:=s3) pl3 (by simp only[Z3]<;>omega) ?_;rw[e3];exact hQ _ _
 .intro i v h' tk hP hi j4 hk;obtain⟨x,hx,rx⟩:=be.at rv hP;obtain⟨b,rfl,hb⟩:=hts i x hx;cases rx;exact⟨.ref b,H1,Sf h' tk hk,rfl,q i b hx (by omega) λj hj=>by
   have kB:=j4 j (by omega);exact⟨Int.ofNat_le.mp kB.1,λz=>Int.ofNat_lt.mp (kB.2 z)⟩⟩
end
end L2
namespace L2
open PySem PySem.Spec PyProof.Rows KG
section
variable {K:Θ1}{tt:TT}{tk tv:TE}{a acc:Addr}{xs:List V}{ao:St}{bN:Hp}{Q:VK}
def Lj (ao:St)(acc:Addr)(P:List (List b9×V)->Hp->Prop)(σ:St)(H:Hp):Prop:=(∀u,σ.set 0 u=ao.set 0 u)/\∃ys,H acc=some (.dT ys)/\P ys H
def Lj.of {P:List (List b9×V)->Hp->Prop}{u:Option V}{H:Hp}{ys:List (List b9×V)}(h:H acc=some (.dT ys))(p:P ys H):Lj ao acc P (ao.set 0 u) H:=⟨λv=>by cases ao<;>rfl,ys,h,p⟩
def uX (Pv:Nat->List (List b9×V)->Hp->Prop)(h0:Pv 0 [] (aF bN acc (.dT [])))(hl:∀(i:Nat) zs H,i<=xs.length->H acc=some (.dT zs)->Pv i zs H->bi K H a xs)
  (hs:∀(i:Nat) x zs H,xs[i]?=some x->H acc=some (.dT zs)->Pv i zs H->tt (ao.set 0 (some x)) H λb H4 =>
   if b=true then tk (ao.set 0 (some x)) H4 λkx H5=>tv (ao.set 0 (some x)) H5 λy H6=>∃us k b,H6 acc=some (.dT us)/\kx=.ref b/\H6 b=some (.tup (k.map kV))/\us.length<sizeLine/\Lj ao acc (Pv (i+1)) (ao.set 0 (some x)) (aF H6 acc (.dT (iR us k y)))
   else Lj ao acc (Pv (i+1)) (ao.set 0 (some x)) H4)
  (hd:∀zs H,H acc=some (.dT zs)->Pv xs.length zs H->Q (.ref acc) H):oo (eV 0) tt tk tv (xJ K a) acc ao bN Q:=by
 refine⟨λi m σ H=>m=xs.length-i/\i<=xs.length/\Lj ao acc (Pv i) σ H,⟨xs.length,by simp,Z9 _,λ_=>rfl,[],cx,h0⟩,?_⟩;rintro i m σ H ⟨rfl,hi,qV,ys,hy,p⟩;have q:=hl i ys H hi hy p;by_cases cT:i<xs.length
 .refine .inr ⟨⟨xs,xs[i],q,by simp[cT]⟩,Lj ao acc (Pv (i+1)),λaH H' c=>⟨xs.length-(i+1),by omega,rfl,cT,c⟩,λx H' y=>?_⟩;obtain⟨e,y⟩:=y;subst e;show tt (σ.set 0 _) _ _;rw[qV];exact hs i x ys _ (y xs q) hy p
 .have e:i=xs.length:=by omega
  subst e;exact .inl ⟨⟨xs,q,Ze _⟩,hd ys H hy p⟩
end
end L2
namespace KM
open PySem L2 KG EX
def lf (ns:Γ3)(mask:Nat):cY ns mask=((List.range ns.length).filter λk=>Nat.testBit mask k).map λk=>ns.getD k 0:=by
 unfold cY
 congr 1
 refine Y7 λk _=>?_
 rw[Nat.testBit_eq_decide_div_mod_eq]
def D6 {ns:Γ3}{m:Int}{k:Nat}(h:k<2 ^ ns.length):cY (ns++[m]) k=cY ns k:=by
 rw[lf,lf,Z5,Q5,Ys,Xb];have e:[ns.length].filter (λj=>Nat.testBit k j)=[]:=by simp[List.filter,Nat.testBit_lt_two_pow h]
 rw[e,Ye];refine Y2 λj hj=>?_
 have sZ:j<ns.length:=by simpa using(Zn.mp hj).1
 simp[List.getD,Z4 sZ]
def D7 {ns:Γ3}{m:Int}{k:Nat}(h:k<2 ^ ns.length):cY (ns++[m]) (2 ^ ns.length+k)=cY ns k++[m]:=by
 rw[lf,lf,Z5,Q5,Ys,Xb,Zr];have e:[ns.length].filter (λj=>Nat.testBit (2 ^ ns.length+k) j)=[ns.length]:=by
  simp[List.filter,Nat.testBit_two_pow_add_eq,Nat.testBit_lt_two_pow h]
 rw[e];have e2:(List.range ns.length).filter (λj=>Nat.testBit (2 ^ ns.length+k) j)=(List.range ns.length).filter (λj=>Nat.testBit k j):=by
  refine Y7 λj hj=>?_
  exact Nat.testBit_two_pow_add_gt (by simpa using hj) k
 rw[e2]
 congr 1
 .refine Y2 λj hj=>?_
  have sZ:j<ns.length:=by simpa using(Zn.mp hj).1
  simp[List.getD,Z4 sZ]
 .simp[List.getD]
def iz (ns:Γ3)(m:Int):aB (ns++[m])=aB ns++(aB ns).map λs=>s++[m]:=by
 unfold aB;rw[Z5,Q5,Nat.pow_succ,Nat.mul_two,List.range_add,Zr,Zj,Zj]
 congr 1
 .exact Y2 λk hk=>D6 (by simpa using hk)
 .exact Y2 λk hk=>D7 (by simpa using hk)
def BR (ns:Γ3):(aB ns).length=2 ^ ns.length:=by unfold aB;rw[Za,Yy]
def cv {ns S:Γ3}:S∈aB ns↔S.Sublist ns:=by
 constructor
 .exact AE
 .intro h
  revert S
  suffices H:∀(ms S:Γ3),S.Sublist ms.reverse->S∈aB ms.reverse by
   intro S h;have:=H ns.reverse S;rw[List.reverse_reverse] at this;exact this h
  intro ms;induction ms with
  |nil=>intro S h;rw[List.reverse_nil] at h ⊢;rw[List.sublist_nil.mp h];exact Z2.mpr rfl
  |cons m ms ih =>
   intro S h;rw[List.reverse_cons] at h ⊢;rw[iz];obtain⟨a,b,rfl,ha,hb⟩:=List.sublist_append_iff.mp h;rcases List.sublist_cons_iff.mp hb with hb |⟨r,rfl,hr⟩
   .rw[List.sublist_nil.mp hb,Ye];exact Xw _ (ih a ha)
   .rw[List.sublist_nil.mp hr];exact Z1 _ (Zd.mpr ⟨a,ih a ha,rfl⟩)
def jr {ns:Γ3}(h:ns.Nodup):(aB ns).Nodup:=by
 suffices H:∀ms:Γ3,ms.reverse.Nodup->(aB ms.reverse).Nodup by
  have:=H ns.reverse;rw[List.reverse_reverse] at this;exact this h
 intro ms;induction ms with
 |nil=>intro _;rw[List.reverse_nil];exact Yl.mpr ⟨by simp,Qt⟩
 |cons m ms ih =>
  intro hn;rw[List.reverse_cons] at hn ⊢;have E1:=Qv.mp hn;rw[iz];refine Qv.mpr ⟨ih E1.1,(ih E1.1).map _ λa b vK z=>vK (List.append_cancel_right z),λa ha b hb z=>?_⟩;obtain⟨s,hs,rfl⟩:=Zd.mp hb;have h1:=(cv.mp ha).subset (by rw[z];simp:m∈a);exact(E1.2.2 m h1 m (by simp)) rfl
def c8 (L:List Nat)(w:Nat->Rat)(p:Nat->Bool):Rat:=bz ((L.filter p).map w)
def Ks (q:Rat)(qs:Δ1):bz (q::qs)=q+bz qs:=by
 have key:∀(l:Δ1) (z:Rat),l.foldl (λs q=>s+q) z=z+bz l:=by
  intro l;induction l with
  |nil=>intro z;unfold bz;simp[Rat.add_zero]
  |cons i l ih=>intro z;unfold bz;rw[Xh,Xh,ih,ih,Yx,Rat.add_assoc]
 conv=>lhs;unfold bz
 rw[Xh,key,Yx]
def Fl (x:Nat)(L:List Nat)(w:Nat->Rat)(p:Nat->Bool):c8 (x::L) w p=(if p x=true then w x else 0)+c8 L w p:=by
 unfold c8;cases h:p x with
 |true=>rw[Qk h,Zs,Ks,if_pos rfl]
 |false=>rw[X3 (by rw[h];decide),if_neg (by decide),Yx]
def t8 (L:List Nat)(w:Nat->Rat)(p q:Nat->Bool):c8 L w (λx=>p x&&q x)+c8 L w (λx=>p x||q x)=c8 L w p+c8 L w q:=by
 induction L with
 |nil=>rfl
 |cons x L ih =>
  rw[Fl,Fl,Fl,Fl];cases p x<;>cases q x<;>simp<;>grind
def GB {L:List Nat}{w:Nat->Rat}(hw:∀x∈L,0<=w x){p q:Nat->Bool}(h:∀x∈L,p x=true->q x=true):c8 L w p<=c8 L w q:=by
 induction L with
 |nil=>exact Yf
 |cons x L ih =>
  have VE:=ih (λy hy=>hw y (Zq _ hy)) (λy hy=>h y (Zq _ hy));have h0:=hw x Zm;have h1:=h x Zm;rw[Fl,Fl];cases hp:p x with
  |false =>
   cases hq:q x with
   |false=>rw[if_neg (by decide),Yx,Yx];exact VE
   |true =>
    rw[if_neg (by decide),if_pos rfl,Yx];exact Yi VE (by have:=Jd (c:=c8 L w q) |>.mpr h0;rwa [Yx] at this)
  |true =>
   rw[h1 hp,if_pos rfl];exact Jc.mpr VE
def K2 (U:List Nat)(w:Nat->Rat)(L:List Nat)(v:Nat->Rat)(dv:Nat->Nat->Bool)(S:List Nat):Rat:=c8 U w (λx=>S.contains x)-c8 L v (λi=>S.any λg=>dv i g)
def OL {L:List Nat}{w:Nat->Rat}{p q:Nat->Bool}(h:∀x∈L,p x=q x):c8 L w p=c8 L w q:=by
 unfold c8;rw[Y7 h]
def Bj {U L:List Nat}{w v:Nat->Rat}{dv:Nat->Nat->Bool}(hv:∀x∈L,0<=v x){S T I J:List Nat}(hI:∀x,x∈I↔x∈S/\x∈T)(hJ:∀x,x∈J↔x∈S\/x∈T) :
  K2 U w L v dv S+K2 U w L v dv T<=K2 U w L v dv I+K2 U w L v dv J:=by
 unfold K2;have a1:c8 U w (λx=>I.contains x)=c8 U w (λx=>S.contains x&&T.contains x):=OL λx _=>by rw[Ya];simp[hI]
 have a2:c8 U w (λx=>J.contains x)=c8 U w (λx=>S.contains x||T.contains x):=OL λx _=>by rw[Ya];simp[hJ]
 have a3:=t8 U w (λx=>S.contains x) (λx=>T.contains x);have b1:c8 L v (λi=>I.any λg=>dv i g)<=c8 L v (λi=>(S.any λg=>dv i g)&&(T.any λg=>dv i g)):=GB hv λx _ h=>by
  obtain⟨g,hg,hr⟩:=Zv.mp h;have:=(hI g).mp hg;rw[Z0];exact⟨Zv.mpr ⟨g,this.1,hr⟩,Zv.mpr ⟨g,this.2,hr⟩⟩
 have b2:c8 L v (λi=>J.any λg=>dv i g)=c8 L v (λi=>(S.any λg=>dv i g)||(T.any λg=>dv i g)):=OL λx _=>by
  rw[Ya,Qo,Zv,Zv,Zv];constructor
  .rintro⟨g,hg,hr⟩;rcases(hJ g).mp hg with h |h
   .exact .inl ⟨g,h,hr⟩
   .exact .inr ⟨g,h,hr⟩
  .rintro(⟨g,hg,hr⟩ |⟨g,hg,hr⟩)
   .exact⟨g,(hJ g).mpr (.inl hg),hr⟩
   .exact⟨g,(hJ g).mpr (.inr hg),hr⟩
 have b3:=t8 L v (λi=>S.any λg=>dv i g) (λi=>T.any λg=>dv i g);rw[a1,a2,b2];generalize c8 L v (λi=>I.any λg=>dv i g)=z at b1
 grind
theorem sub_eq {α : Type}[BEq α][LawfulBEq α]:∀{S U:List α},S.Sublist U->U.Nodup->U.filter (λx=>S.contains x)=S
 |_,_,.slnil,_=>rfl
 |_,_,.cons a h,nd=>by
  have Fj:=Yl.mp nd;rw[X3 (by rw[Zz];exact λz=>Fj.1 (h.subset z))];exact sub_eq h Fj.2
 |_,_,.cons₂ (l₁:=S) (l₂:=U) a h,nd=>by
  have Fj:=Yl.mp nd;rw[Qk (by rw[Zz];exact Zm)]
  congr 1
  rw[<- sub_eq h Fj.2];refine Y7 λx hx=>?_
  rw[sub_eq h Fj.2,Ya,Zz,Zz,Zl];constructor
  .rintro(rfl |z)
   .exact absurd hx Fj.1
   .exact z
  .exact .inr
def GJ {α : Type}[BEq α][LawfulBEq α]{A B U:List α}(hA:A.Sublist U)(hB:B.Sublist U)(nd:U.Nodup)(h:∀x,x∈A↔x∈B):A=B:=by
 rw[<- sub_eq hA nd,<- sub_eq hB nd];refine Y7 λx _=>?_
 rw[Ya,Zz,Zz,h x]
def Kk (U:Γ3)(f:Γ3->Rat):Prop:=∀S T:Γ3,S.Sublist U->T.Sublist U->f S+f T<=f (S.filter λx=>T.contains x)+f (U.filter λx=>S.contains x||T.contains x)
def ur {U:Γ3}{f:Γ3->Rat}(nd:U.Nodup)(sup:Kk U f){R:Γ3}(hR:R.Sublist U)(hM:∀S:Γ3,S.Sublist U->f S<=f R)(gF:∀S:Γ3,S.Sublist U->f S=f R->S.length<=R.length){T:Γ3}(hT:T.Sublist U)(fT:f T=f R):∀x∈T,x∈R:=by
 have h1:=sup R T hR hT;have sI:(R.filter λx=>T.contains x).Sublist R:=Yn;have sJ:(U.filter λx=>R.contains x||T.contains x).Sublist U:=Yn;have h2:=hM _ sJ;have h3:=hM _ (sI.trans hR);have e:f (U.filter λx=>R.contains x||T.contains x)=f R:=by
  rw[fT] at h1;generalize f (U.filter λx=>R.contains x||T.contains x)=z at h1 h2 ⊢;generalize f (R.filter λx=>T.contains x)=y at h1 h3
  grind
 have h4:=gF _ sJ e;have h5:R.Sublist (U.filter λx=>R.contains x||T.contains x):=by
  have h6:U.filter (λx=>R.contains x)=R:=sub_eq hR nd;have h7:(U.filter λx=>R.contains x||T.contains x).filter (λx=>R.contains x)=R:=by
   rw[Jb];refine Eq.trans (Y7 λx _=>?_) h6;cases R.contains x<;>simp
  have h8:((U.filter λx=>R.contains x||T.contains x).filter (λx=>R.contains x)).Sublist (U.filter λx=>R.contains x||T.contains x):=Yn;rw[h7] at h8;exact h8
 have h9:=h5.eq_of_length_le h4;intro x hx;rw[h9,Zn];exact⟨hT.subset hx,by simp[hx]⟩
def mw (H:Hp)(xs:List V)(M:Γ1):Prop:=xs.length=M.length/\∀(j:Nat) x,xs[j]?=some x->∃(a:Addr) (r:Γ3),M[j]?=some r/\x=.ref a/\H a=some (.tup (r.map V.int))
def mw.nil {H:Hp}:mw H [] []:=⟨rfl,λj x h=>by simp at h⟩
def mw.tm {H H':Hp}{xs:List V}{M:Γ1}(h:mw H xs M)(t:Tm H H'):mw H' xs M:=⟨h.1,λj x hx=>by obtain⟨a,r,e1,e2,e3⟩:=h.2 j x hx;exact⟨a,r,e1,e2,t _ _ e3⟩⟩
def mw.aA {H H':Hp}{xs:List V}{M:Γ1}(h:mw H xs M)(s:az H H'):mw H' xs M:=⟨h.1,λj x hx=>by obtain⟨a,r,e1,e2,e3⟩:=h.2 j x hx;exact⟨a,r,e1,e2,s _ _ e3⟩⟩
def mw.cat {H:Hp}{xs ys:List V}{M N:Γ1}(h1:mw H xs M)(h2:mw H ys N):mw H (xs++ys) (M++N):=by
 refine⟨by simp[h1.1,h2.1],λj y hy=>?_⟩;rcases Yg j xs.length with z |z
 .rw[Z4 z] at hy;obtain⟨a,r,e1,e2,e3⟩:=h1.2 j y hy;exact⟨a,r,by rw[Z4 (h1.1▸z)];exact e1,e2,e3⟩
 .rw[Yv z] at hy;obtain⟨a,r,e1,e2,e3⟩:=h2.2 _ y hy;exact⟨a,r,by rw[Yv (h1.1▸z),<- h1.1];exact e1,e2,e3⟩
def mw.app {H:Hp}{xs:List V}{M:Γ1}(h:mw H xs M){a:Addr}{r:Γ3}(ha:H a=some (.tup (r.map V.int))):mw H (xs++[.ref a]) (M++[r]):=h.cat ⟨rfl,λj x hx=>by
 cases j with
 |zero=>simp at hx;subst hx;exact⟨a,r,rfl,rfl,ha⟩
 |succ j=>simp at hx⟩
def mw.ks {K:Θ1}{H:Hp}{xs:List V}{M:Γ1}(h:mw H xs M):TsK K H xs (M.map λr=>r.map V.int):=⟨by rw[h.1,Za],λj x hx=>by
 obtain⟨a,r,e1,e2,e3⟩:=h.2 j x hx;refine⟨a,e2,aM.of ?_⟩;have:(M.map λr=>r.map V.int).getD j []=r.map V.int:=by simp[List.getD,Zh,e1]
 rw[this];exact e3⟩
def CY:Sp:=λvs H Q _=>∃(l:Addr) (ns:Γ3),vs=[.ref l]/\H l=some (.tup (ns.map V.int))/\ns.length<=6/\∀(r:Addr) (xs:List V) (H':Hp),az H H'->H' r=some (.lst xs)->mw H' xs (aB ns)->Q (.ref r) H'
def Jo:Sp:=λvs H Q _=>∃(l:Addr) (ys:List V) (qs:Δ1),vs=[.ref l]/\H l=some (.lst ys)/\jw H ys qs/\(∀q∈qs,Rb 300 q)/\qs.length<=12/\∀(r:Addr) (c:Int) (ms:Γ3) (H':Hp),az H H'->0<c->dk c ms qs->H' r=some (.lst (ms.map V.int))->Q (.ref r) H'
def yH:Sp:=λvs H Q _=>∃(b p pa pp pw q:Addr) (xa xp xw ys:List V) (am pu wi:Ξ1) (qs:Δ1),vs=[.ref p,.ref q]/\fH b H p pa pp pw xa xp xw am pu wi/\tM b H q ys qs/\qs.length=xa.length /\
 ∀(r r1 r2:Addr) (c:Int) (ms ps:Γ3) (H':Hp),az H H'->0<c->dk c ms (d7 (am.map bL) qs)->dk c ps (qS pu)->H' r=some (.tup [.ref r1,.ref r2])->H' r1=some (.lst (ms.map V.int))->H' r2=some (.lst (ps.map V.int))->Q (.ref r) H'
def RC:Sp:=λvs H Q _=>∃(l t:Addr) (ms:Γ3) (S:List Nat),vs=[.ref l,.ref t]/\H l=some (.lst (ms.map V.int))/\H t=some (.tup (cj S))/\S.length<=6/\(∀i∈S,i<ms.length)/\∀H',az H H'->Q (.int ((S.map λi=>ms.getD i 0).sum)) H'
def nC (n:Int):b9:=.inl n
def mL (aN:List (Int×Γ3)):List (List b9×V):=aN.map λr=>(r.2.map nC,V.int r.1)
def Dw (ns:Γ3):(ns.map nC).map kV=ns.map V.int:=by rw[Zj];rfl
def uw {a b:Γ3}(h:a.map nC=b.map nC):a=b:=by
 induction a generalizing b with
 |nil=>cases b with
  |nil=>rfl
  |cons _ _=>cases h
 |cons x a ih=>cases b with
  |nil=>cases h
  |cons y b =>
   rw[Zs,Zs] at h;injection h with h1 h2
   have:x=y:=by unfold nC at h1;injection h1
   rw[this,ih h2]
def Above (am:Γ3)(ps qs:Δ1)(M:Γ1)(U:Γ3)(c:Int)(aN:List (Int×Γ3)):Prop:=0<c/\aN.map (·.2)=aB U/\∀x∈aN,((x.1:Int):Rat)=(c:Rat)*aX am ps qs M (aw x.2)
structure MP (b:Addr)(H:Hp)(p pa pp pw q:Addr)(xa xp xw ys:List V)(am pu wi:Ξ1)(qs:Δ1):Prop where
 m:fH b H p pa pp pw xa xp xw am pu wi
 pr:tM b H q ys qs
 l:qs.length=xa.length
 ok:sT (rowsOf wi) qs
def RE:Sp:=λvs H Q _=>∃(b p pa pp pw q:Addr) (xa xp xw ys:List V) (am pu wi:Ξ1) (qs:Δ1),vs=[.ref p,.ref q]/\MP b H p pa pp pw q xa xp xw ys am pu wi qs /\
 ∀(d:Addr) (c:Int) (aN:List (Int×Γ3)) (H':Hp),az H H'->H d=none->Above (am.map bL) (qS pu) qs (rowsOf wi) (ay xa.length (rowsOf wi)) c aN->H' d=some (.dT (mL aN))->Q (.ref d) H'
def Lx (De:Addr):Sp:=λvs H Q E=>∃(b p pa pp pw q:Addr) (xa xp xw ys:List V) (am pu wi:Ξ1) (qs:Δ1),vs=[.ref p,.ref q]/\MP b H p pa pp pw q xa xp xw ys am pu wi qs /\
 ∀(c:Int) (aN:List (Int×Γ3)),Above (am.map bL) (qS pu) qs (rowsOf wi) (ay xa.length (rowsOf wi)) c aN ->
  ((∃x∈aN,0<x.1)->∀H',az H H'->E (.ref De) none H') /\
  ((∀x∈aN,x.1<=0)->∀(a:Addr) (row:Int×Γ3) (H':Hp),az H H'->row∈aN->row.1=0->(∀x∈aN,x.1=0->x.2.length<=row.2.length)->H' a=some (.tup (row.2.map V.int))->Q (.ref a) H')
def kr {c:Int}{ms:Γ3}{as bs:Δ1}(h:dk c ms (as++bs)):dk c (ms.take as.length) as/\dk c (ms.drop as.length) bs:=by
 obtain⟨h1,h2⟩:=h;rw[Z5] at h1 h2;refine⟨⟨by rw[Ym];omega,λj hj=>?_⟩,⟨by rw[Xk];omega,λj hj=>?_⟩⟩
 .have h3:=h2 j (by omega);have e1:(ms.take as.length).getD j 0=ms.getD j 0:=by simp[List.getD,List.getElem?_take,hj]
  have e2:(as++bs).getD j 0=as.getD j 0:=by simp[List.getD,Z4 hj]
  rw[e1,<- e2];exact h3
 .have h3:=h2 (as.length+j) (by omega);have e1:(ms.drop as.length).getD j 0=ms.getD (as.length+j) 0:=by simp[List.getD,List.getElem?_drop]
  have e2:(as++bs).getD (as.length+j) 0=bs.getD j 0:=by simp[List.getD,Yv]
  rw[e1,<- e2];exact h3
def HQ (am:Γ3)(qs:Δ1):tI am qs qs.length=d7 am qs:=by
 unfold tI d7;refine Y2 λg _=>Rat.mul_comm _ _
def BD (g:Nat)(M:Γ1):(ay g M).Nodup:=by
 unfold ay aV;refine((Ja).sublist Yn).map _ λa b h z=>h (by omega)
def gR {gs:List Nat}{best:Γ3}:cz gs best=gs.any λg=>best.contains (g:Int):=by
 unfold cz;rw[Ya,Zv,Zv];constructor
 .rintro⟨x,hx,h⟩;obtain⟨g,hg,e⟩:=Zv.mp h;have e':(g:Int)=x:=by simpa using e
  exact⟨g,hg,by rw[Zz,e'];exact hx⟩
 .rintro⟨g,hg,h⟩;rw[Zz] at h;exact⟨_,h,Zv.mpr ⟨g,hg,by simp⟩⟩
def ng {am:Γ3}{ps qs:Δ1}{M:Γ1}{N S:List Nat}(nd:N.Nodup)(h:S.Sublist N) :
  aX am ps qs M S=K2 N (λg=>(d7 am qs).getD g 0) (List.range M.length) (λi=>ps.getD i 0) (λi g=>((ah M qs).getD i []).contains (g:Int)) S:=by
 unfold aX K2 iN ci cO c8;rw[sub_eq h nd]
 congr 3
 refine Y7 λi _=>?_
 exact gR
def Kr {g:Nat}{M:Γ1}{S:Γ3}(h:S.Sublist (ay g M)):(aw S).Sublist (aV g M):=by
 have h1:=List.Sublist.map Int.toNat h;have h2:=wW g M;unfold aw at h2 ⊢;rw[h2] at h1;exact h1
def BQ {g:Nat}{M:Γ1}{S:Γ3}(h:S.Sublist (ay g M))(x:Nat):x∈aw S↔(x:Int)∈S:=by
 unfold aw;constructor
 .intro hx;obtain⟨y,hy,rfl⟩:=Zd.mp hx;have:=h.subset hy;unfold ay at this;obtain⟨j,_,rfl⟩:=Zd.mp this;rw[Zo];exact hy
 .intro hx;exact Zd.mpr ⟨_,hx,Zo x⟩
def mo {am:Γ3}{ps qs:Δ1}{M:Γ1}{g:Nat}(hp:∀q∈ps,0<=q):Kk (ay g M) (λS=>aX am ps qs M (aw S)):=by
 intro S T hS hT;have nd:(aV g M).Nodup:=by unfold aV;exact(Ja).sublist Yn
 have sI:(S.filter λx=>T.contains x).Sublist (ay g M):=Yn.trans hS;have sJ:((ay g M).filter λx=>S.contains x||T.contains x).Sublist (ay g M):=Yn;show aX am ps qs M (aw S)+aX am ps qs M (aw T)<=aX am ps qs M (aw _)+aX am ps qs M (aw _);rw[ng nd (Kr hS),ng nd (Kr hT),ng nd (Kr sI),ng nd (Kr sJ)];refine Bj (λx _=>?_) (λx=>?_) (λx=>?_)
 .by_cases hx:x<ps.length
  .have:ps.getD x 0∈ps:=by simp[List.getD,Zc hx]
   exact hp _ this
  .have:ps.getD x 0=0:=by simp[List.getD,Yw (Xl hx)]
   rw[this];exact Yf
 .rw[BQ sI,BQ hS,BQ hT,Zn];simp
 .rw[BQ sJ,BQ hS,BQ hT,Zn];simp;exact λh=>h.elim (λz=>hS.subset z) (λz=>hT.subset z)
end KM
namespace L2
open PySem PySem.Spec PyProof.Rows EX
section
variable {X:Cx}{st:Stmt}{OA:List Stmt}{t u:TX}
end
end L2
namespace L2
open PySem PySem.Spec PyProof.Rows
def K0:Θ1:=[]
section
variable {K:Θ1}{H:Hp}{a:Addr}{xs:List V}
def bi.k0 (h:bi K0 H a xs):bi K H a xs:=by
 rcases h with h |⟨o,its,n,hk,_⟩
 .exact .inl h
 .exact absurd hk (by show ¬ (none=some o);simp)
def aM.k0 (h:aM K0 H a xs):aM K H a xs:=by
 rcases h with h |⟨o,its,n,hk,_⟩
 .exact .inl h
 .exact absurd hk (by show ¬ (none=some o);simp)
def Sq.k0 (h:bi K0 H a xs\/aM K0 H a xs):bi K H a xs\/aM K H a xs:=h.elim (λz=>.inl z.k0) λz=>.inr z.k0
mutual
theorem mM.k0:∀{v:V}{d:PyData},mM K0 H v d->mM K H v d
 |_,_,.bZ=>.bZ
 |_,_,.bl b=>.bl b
 |_,_,.int i=>.int i
 |_,_,.str x ok=>.str x ok
 |_,_,.lst h t=>.lst h.k0 (fo.k0 t)
 |_,_,.tup h t=>.tup h.k0 (fo.k0 t)
theorem fo.k0:∀{vs:List V}{ds:Ξ1},fo K0 H vs ds->fo K H vs ds
 |_,_,.nil=>.nil
 |_,_,.cons h t=>.cons (mM.k0 h) (fo.k0 t)
end
end
section
variable {X:Cx}{tg l:Expr}{tl:TE}
def eY.imp {f:Value->Value->Sem Value}{r r':R2}(h:eY X f r)(hi:∀x y H Q,r' x y H Q->r x y H Q):eY X f r':=λaa s σ H x y v u Q I rx ry q=>h aa s σ H x y v u Q I rx ry (hi _ _ _ _ q)
def ck.imp {f:Value}{r r':List V->Hp->VK->Prop}(h:ck X f r)(hi:∀xs H Q,r' xs H Q->r xs H Q):ck X f r':=λaa s σ H xs us Q I rx q=>h aa s σ H xs us Q I rx (hi _ _ _ q)
def Af.imp {r r':R2}(h:Af X r)(hi:∀x y H Q,r' x y H Q->r x y H Q):Af X r':=λa b aa s σ H x y v u Q I rx ry q=>h a b aa s σ H x y v u Q I rx ry (hi _ _ _ _ q)
def kE:Af X (LK K0):=zh.imp λ_ _ _ _ ⟨p,xs,i,v,e1,e2,h,e3,q⟩=>⟨p,xs,i,v,e1,e2,h.k0,e3,q⟩
def cg:Af X (LJ K0):=Oa.imp λ_ _ _ _ ⟨p,xs,i,v,e1,e2,h,e3,q⟩=>⟨p,xs,i,v,e1,e2,h.k0,e3,q⟩
def JE:List V->Hp->VK->Prop:=λxs H Q=>∃p ys,xs=[.ref p]/\(bi K0 H p ys\/aM K0 H p ys)/\Q (.int ys.length) H
def JA:List V->Hp->VK->Prop:=λxs H Q=>∃p ys,xs=[.ref p]/\((bi K0 H p ys/\∀l,H l=none->Q (.ref l) (aF H l (.tup ys)))\/(aM K0 H p ys/\Q (.ref p) H))
def JD:List V->Hp->VK->Prop:=λxs H Q=>∃p ys,xs=[.ref p]/\(bi K0 H p ys\/aM K0 H p ys)/\∀l,H l=none->Q (.ref l) (aF H l (.lst ys))
def JG:List V->Hp->VK->Prop:=λxs H Q=>∃p ys,xs=[.ref p]/\(bi K0 H p ys\/aM K0 H p ys)/\ys.all gk=true/\Q (.bl (ys.any tv)) H
def Th:List V->Hp->VK->Prop:=λxs H Q=>∃p ys,xs=[.ref p]/\(bi K0 H p ys\/aM K0 H p ys)/\ys.all gk=true/\Q (.bl (ys.all tv)) H
def JB:List V->Hp->VK->Prop:=λxs H Q=>∃(p:Addr) (ns:Γ3),xs=[.ref p]/\(bi K0 H p (ns.map V.int)\/aM K0 H p (ns.map V.int))/\Q (.int ns.sum) H
def JC:List V->Hp->VK->Prop:=λxs H Q=>∃(p:Addr) (ns:Γ3),xs=[.ref p]/\(bi K0 H p (ns.map V.int)\/aM K0 H p (ns.map V.int))/\ns≠[]/\∀m,m∈ns->(∀n∈ns,n<=m)->Q (.int m) H
def cG:ck X (.builtin "len") JE:=iC.imp λ_ _ _ ⟨p,ys,e,h,q⟩=>⟨p,ys,e,Sq.k0 h,q⟩
def dE:ck X (.type "tuple") JA:=pG.imp λ_ _ _ ⟨p,ys,e,h⟩=>⟨p,ys,e,h.elim (λz=>.inl ⟨z.1.k0,z.2⟩) λz=>.inr ⟨z.1.k0,z.2⟩⟩
def yr:ck X (.type "list") JD:=sE.imp λ_ _ _ ⟨p,ys,e,h,q⟩=>⟨p,ys,e,Sq.k0 h,q⟩
def t0 (hc:X.calm=true):ck X (.builtin "any") JG:=(EI hc).imp λ_ _ _ ⟨p,ys,e,h,q⟩=>⟨p,ys,e,Sq.k0 h,q⟩
def Ki (hc:X.calm=true):ck X (.builtin "all") Th:=(EJ hc).imp λ_ _ _ ⟨p,ys,e,h,q⟩=>⟨p,ys,e,Sq.k0 h,q⟩
def nQ (hc:X.calm=true):ck X (.builtin "sum") JB:=(EH hc).imp λ_ _ _ ⟨p,ys,e,h,q⟩=>⟨p,ys,e,Sq.k0 h,q⟩
def Kh (hc:X.calm=true):ck X (.builtin "max") JC:=(Bq hc).imp λ_ _ _ ⟨p,ys,e,h,q⟩=>⟨p,ys,e,Sq.k0 h,q⟩
def Dg (hu:X.A.units+64<cLine):eY X (compareOp .Eq) (FS K0):=(Nw hu).imp λ_ _ _ _ ⟨dx,dy,h1,h2,q⟩=>⟨dx,dy,h1.k0,h2.k0,q⟩
def Ny (hu:X.A.units+64<cLine):eY X (compareOp .NotEq) (FR K0):=(Nv hu).imp λ_ _ _ _ ⟨dx,dy,h1,h2,q⟩=>⟨dx,dy,h1.k0,h2.k0,q⟩
def jZ:eY X (compareOp .In) (OC K0 false):=AR.imp λ_ _ _ _ ⟨p,xs,e,h,q⟩=>⟨p,xs,e,Sq.k0 h,q⟩
def kh:eY X (compareOp .NotIn) (OC K0 true):=sy.imp λ_ _ _ _ ⟨p,xs,e,h,q⟩=>⟨p,xs,e,Sq.k0 h,q⟩
def Lz:FD X (RK K0):=λaa s σ H x v vl vu lo hi sl Q I rx hs pl pu ⟨a,xs,e,h,q⟩=>GN aa s σ H x v vl vu lo hi sl Q I rx hs pl pu ⟨a,xs,e,h.k0,q⟩
structure It.Le (J J':It):Prop where
 go:∀i H,J'.go i H->J.go i H
 vj:∀i H x H',J.vj i H x H'->J'.vj i H x H'
 stop:∀i H,J'.stop i H->J.stop i H
def Turn.le {P:Program}{w:World}{K:Θ1}{tg:Expr}{J J':It}{fp:List Addr}{it:Addr}{tn:Nat->Heap->Prop}(T:Turn P w K tg J fp it tn)(l:J.Le J'):Turn P w K tg J' fp it tn where
 mem:=T.mem
 obj:=T.obj
 keep:=T.keep
 item:=λX hP hw hK hc i aa s σ H E I hf st hg=>bB (T.item X hP hw hK hc i aa s σ H E I hf st (l.go i H hg)) λr s1 ⟨u,hr,h⟩=>⟨u,hr,bB h λ_ s2 ⟨x,H',a1,a2,a3,a4⟩=>⟨x,H',a1,a2,l.vj _ _ _ _ a3,a4⟩⟩
 done:=λX hP hw hK hc i aa s σ H E I hf st hg=>T.done X hP hw hK hc i aa s σ H E I hf st (l.stop i H hg)
 self:=T.self
def ze {K:Θ1}{a:Addr}:(xJ K a).Le (xJ K0 a):=⟨λi H ⟨xs,x,h,e⟩=>⟨xs,x,h.k0,e⟩,λi H x H' ⟨e,h⟩=>⟨e,λxs hx=>h xs hx.k0⟩,λi H ⟨xs,h,e⟩=>⟨xs,h.k0,e⟩⟩
def Dt {K:Θ1}{a:Addr}:(Ag K a).Le (Ag K0 a):=⟨λi H ⟨xs,x,h,e⟩=>⟨xs,x,h.k0,e⟩,λi H x H' ⟨e,h⟩=>⟨e,λxs hx=>h xs hx.k0⟩,λi H ⟨xs,h,e⟩=>⟨xs,h.k0,e⟩⟩
def Ii {K:Θ1}{a:Addr}:(Jk K a).Le (Jk K0 a):=⟨λi H ⟨xs,x,h,e⟩=>⟨xs,x,h.k0,e⟩,λi H x H' ⟨p,e1,e2,h⟩=>⟨p,e1,e2,λxs hx=>h xs hx.k0⟩,λi H ⟨xs,h,e⟩=>⟨xs,h.k0,e⟩⟩
def N3 {K:Θ1}{a b:Addr}:(Lc K a b).Le (Lc K0 a b):=⟨λi H ⟨xs,ys,x,y,h1,h2,e⟩=>⟨xs,ys,x,y,h1.k0,h2.k0,e⟩,λi H x H' ⟨p,e1,e2,h⟩=>⟨p,e1,e2,λxs ys h1 h2=>h xs ys h1.k0 h2.k0⟩,λi H ⟨xs,ys,h1,h2,e⟩=>⟨xs,ys,h1.k0,h2.k0,e⟩⟩
def Ak (hl:PE X l tl):PI X tg l (TM K0 tl):=by
 intro aa s σ H R I h;refine bB (hl aa s σ H _ I h) λv s1 ⟨x,H1,I1,r1,a,e,⟨xs,hq⟩,q⟩=>?_
 subst e;cases r1;obtain⟨its,rv,p,hz⟩:=I1.list hq.k0;refine wpAny_pyIter_list p.isList ⟨s1.heap.objs.size,[s1.heap.objs.size],_,xJ K0 a,H1,rfl,I1.kept (t':=s1.toks) λb o e=>Zi _ e,(qe (K:=X.K) a _).le ze,⟨_,Zw _ rfl,rfl,rfl⟩,λb hb=>?_,q⟩;obtain rfl:b=s1.heap.objs.size:=by simpa using hb
 exact I1.jR (Ze _) (I1.bT.fresh (Ze _))
def Aj (hl:PE X l tl):PI X tg l (ZQ K0 tl):=by
 intro aa s σ H R I h;refine bB (hl aa s σ H _ I h) λv s1 ⟨x,H1,I1,r1,a,e,⟨xs,hq⟩,q⟩=>?_
 subst e;cases r1;obtain⟨its,rv,p,hz⟩:=I1.tuple hq.k0;refine wpAny_pyIter_tuple (show s1.heap.IsTuple a its.toArray from p) ⟨s1.heap.objs.size,[s1.heap.objs.size],_,Ag K0 a,H1,rfl,I1.kept (t':=s1.toks) λb o e=>Zi _ e,(oM (K:=X.K) a _).le Dt,⟨_,Zw _ rfl,rfl,rfl⟩,λb hb=>?_,q⟩;obtain rfl:b=s1.heap.objs.size:=by simpa using hb
 exact I1.jR (Ze _) (I1.bT.fresh (Ze _))
def mV {a:Expr}{ta:TA}{p pos:Pos}{nG:Ξ2}{kk}{qX:Pos}(hg:Gl X "enumerate")(hm:X.mg "enumerate"=none)(hb:bootBuiltins "enumerate"=some (.type "enumerate"))(ha:PA X [a] ta)(hs:starEach [a] X.env=[(false,eval a X.env)]:=by rfl) :
  PI X (.Tuple nG kk qX) (.Call (.Name "enumerate" p) [a] [] pos) (TN K0 ta):=by
 intro aa s σ H R I h;refine Call_ (ij I hg hm hb (PyProof.Rows.callWith_type1 (bB (ha pos aa s σ H _ I h) λus s1 ⟨vs,H1,I1,r1,t,e,⟨xs,hq⟩,q⟩=>?_) hs rfl));subst e;obtain⟨u,rfl,ru⟩:=vals1 r1;cases ru;obtain⟨its,rv,pl,hz⟩:=I1.tuple hq.k0;refine kw (show s1.heap.IsTuple t its.toArray from pl) λh' he QI hsz hk=>wpAny_pyIter_enum he ?_
 refine⟨s1.heap.objs.size+1,[s1.heap.objs.size+1,s1.heap.objs.size],_,Jk K0 t,H1,rfl,I1.kept (t':=s1.toks) hk,(Az (K:=X.K) t _ s1.heap.objs.size (Nat.succ_ne_self _)).le Ii,⟨⟨_,he⟩,QI⟩,λb hb=>?_,q⟩;rcases Zl.mp hb with rfl |hb
 .exact I1.jR (Xs _) (I1.bT.fresh (Xs _))
 .obtain rfl:b=s1.heap.objs.size:=by simpa using hb
  exact I1.jR (Ze _) I1.fresh
def yQ {a b:Expr}{ta:TA}{p pos:Pos}{nG:Ξ2}{kk}{qX:Pos}(hg:Gl X "zip")(hm:X.mg "zip"=none)(hb:bootBuiltins "zip"=some (.type "zip"))(ha:PA X [a,b] ta)
  (hs:starEach [a,b] X.env=[(false,eval a X.env),(false,eval b X.env)]:=by rfl) (ve:starEach [b] X.env=[(false,eval b X.env)]:=by rfl):PI X (.Tuple nG kk qX) (.Call (.Name "zip" p) [a,b] [] pos) (ZP K0 ta):=by
 intro aa s σ H R I h;refine Call_ (ij I hg hm hb (PyProof.Rows.callWith_type1 (bB (ha pos aa s σ H _ I h) λus s1 ⟨vs,H1,I1,r1,q1⟩=>?_) (by rw[hs,ve]) (by rw[ve];rfl)));obtain⟨x,y,e,⟨xs,IQ⟩,⟨ys,OP⟩,q⟩:=q1;subst e;cases r1 with
 |cons r rr =>
  cases rr with
  |cons r' rr =>
   cases rr
   cases r
   cases r'
   obtain⟨us,ru,pu,zu⟩:=I1.tuple IQ.k0;obtain⟨vs,rv,pv,zv⟩:=I1.tuple OP.k0;have a1:x<s1.heap.objs.size:=by obtain⟨_,e,_⟩:=(show s1.heap.IsTuple x us.toArray from pu);exact Zp e
   have a2:y<s1.heap.objs.size:=by obtain⟨_,e,_⟩:=(show s1.heap.IsTuple y vs.toArray from pv);exact Zp e
   refine Bo (show s1.heap.IsTuple x us.toArray from pu) (show s1.heap.IsTuple y vs.toArray from pv) λg z0 pI pO n1 n2 hk=>wpAny_pyIter_zip z0 ?_
   refine⟨s1.heap.objs.size+4,[s1.heap.objs.size+4,s1.heap.objs.size+2,s1.heap.objs.size+3,s1.heap.objs.size,s1.heap.objs.size+1],_,Lc K0 x y,H1,rfl,I1.kept (t':=s1.toks) hk,(DK (K:=X.K) x y _ _ _ _ _ (zipApart_new a1 a2)).le N3,⟨z0,pI,⟨_,_,pO⟩,n1,n2⟩,λc hc=>?_,q⟩;have hge:s1.heap.objs.size<=c:=by
    simp only[Zl,Qu,or_false] at hc;rcases hc with h |h |h |h |h<;>rw[h]<;>first |exact Nat.le_add_right _ _ |exact Ze _
   exact I1.jR hge (I1.bT.fresh hge)
def ja {es:Ξ2}{k:Nat}{t:Ac}{n:Nat}{pos:Pos}(hc:X.calm=true)(h:vg X es t)(hn:(assignEach es X.env).length=n:=by rfl)(sQ:(assignEach es X.env).findIdx? (·.1)=none:=by rfl):PG X (.Tuple es k pos) (L3 K0 n t) :=
 λaa s σ H v u Q I r ⟨a,xs,e,hq,q⟩=>Nj hc h hn sQ aa s σ H v u Q I r ⟨a,xs,e,hq.k0,q⟩
def Nl {es:Ξ2}{k:Nat}{t:Ac}{n:Nat}{pos:Pos}(hc:X.calm=true)(h:vg X es t)(hn:(assignEach es X.env).length=n:=by rfl)(sQ:(assignEach es X.env).findIdx? (·.1)=none:=by rfl):PG X (.Tuple es k pos) (Sm K0 n t) :=
 λaa s σ H v u Q I r ⟨a,xs,e,hq,q⟩=>Nk hc h hn sQ aa s σ H v u Q I r ⟨a,xs,e,hq.k0,q⟩
def Oy.k0 {K:Θ1}{T:String}{x:V}{H:Hp}(h:Oy K0 T x H):Oy K T x H:=by
 cases x with
 |ref p =>
  rcases h with ⟨e,xs,h⟩ |⟨e,o,hk,_⟩ |h |h
  .exact .inl ⟨e,xs,h.k0⟩
  .exact absurd hk (by show ¬ (none=some o);simp)
  .exact .inr (.inr (.inl h))
  .exact .inr (.inr (.inr h))
 |_=>exact h
variable {o e:Expr}{es:Ξ2}{to:TE}{t:TA}{name:Str}{nI eL:Pos}{T id:String}{r:V->List V->Hp->VK->Prop}
def To (pa:PlainAttrs T)(slot:Slot T name id)(Fn:typeOf (.builtin id)=pure (.type "method_descriptor"))(hm:UT X id r)(ho:PE X o to)(ha:PA X (e::es) t)
  (tX:attributeBase o name X.env (eval o X.env)=eval o X.env:=by rfl)
  (LZ:((backTo eL (starEach (e::es) X.env)).all (λx=>!x.1)&&(backToKw eL (keywordEach [] X.env)).all (λx=>x.1.isSome)
   && decide ((e::es).length+([]:List Keyword).length+(if ([]:List Keyword).isEmpty then 0 else 1)<30))=true:=by rfl)
  (tV:(nI.endLine == eL.line)=true:=by rfl) (hs:starEach (e::es) X.env=(false,eval e X.env)::starEach es X.env:=by rfl) (wD:(backTo eL (starEach es X.env)).any (·.1)=false:=by rfl) :
  PE X (.Call (.Attribute o name nI) (e::es) [] eL) (tBM K0 T r to t):=by
 intro aa s σ H Q I h;refine wpAny_Call_method_late tX LZ tV rfl (bB (ho aa s σ H _ I h) λv s1 ⟨x,H1,I1,r1,ty,q1⟩=>?_);obtain⟨h1,h2⟩:=CN I1 r1 ty.k0;refine⟨T,id,pa,slot,Fn,h1,h2,?_⟩;have hA:=ha eL aa s1 σ H1 _ I1 q1;rw[hs] at hA ⊢;exact Calls.callWith_builtin (by show(false||(backTo eL (starEach es X.env)).any (·.1))=false;rw[wD]<;>rfl) (Calls.evalArgs_plain (bB hA λus s2 ⟨vs,H2,I2,r2,q2⟩=>hm aa s2 σ H2 x vs v us Q I2 r1 r2 q2))
end
end L2
namespace L2
open PySem PySem.Spec PyProof.Rows KG
section
variable {X:Cx}
def C7:List V->Hp->VK->Prop:=λxs H Q=>∃(p:Addr) (ns:Γ3),xs=[.ref p]/\bi K0 H p (ns.map V.int)/\ns.length<64/\∀(u6:Γ3) (l:Addr),u6.Perm ns->u6.Pairwise (λa b=>a<=b)->H l=none->Q (.ref l) (aF H l (.lst (u6.map V.int)))
def sD:ck X (.builtin "sorted") C7:=by
 intro aa s σ H xs us Q I r h;obtain⟨p,ns,rfl,hp,Wr,q⟩:=h;obtain⟨u,rfl,rx⟩:=vals1 r;cases rx;obtain⟨its,rv,pl,hz⟩:=I.list hp.k0;have hl:=rv.length;rw[Za] at hl;refine sorted_ints pl.isList (intsAre_of rv) (by omega) λout u6 hi J4 Fp=>?_
 obtain⟨e,he⟩:=sortedAll_at s.heap its out;have cu:u6.length=ns.length:=J4.length_eq;refine⟨.ref (s.heap.objs.size+1),_,I.laid (t':=s.toks) (o:=.lst (u6.map V.int)) (λ_ _ q=>sortedAll_old q) (Xs _) ⟨by rw[Za,cu];exact Zk (show ns.length<=64 by omega) (by decide),out.toList,e,lQ hi,?_⟩,rfl,q u6 _ J4 Fp (I.bT.fresh (Xs _))⟩;simpa[seqObj] using he
end
end L2
namespace KM
open PySem L2
def boot_sorted:bootBuiltins "sorted"=some (.builtin "sorted"):=by first |rfl |kernel_rfl |decide+kernel
end KM
namespace KM
open PySem L2 KG EX
section
variable {K:Θ1}{n:Nat}{tt:TT}{te:TE}{acc a b:Addr}{xs ys:List V}{ao:St}{bN:Hp}{Q:VK}
def gW {α : Type}(f:Nat->Bool)(v:Nat->α)(i:Nat):((List.range (i+1)).filter f).map v=((List.range i).filter f).map v++if f i=true then [v i] else []:=by
 rw[mh,Zr]
 congr 1
 split<;>simp_all
end
def ak {α : Type}{ls:List α}{i:Nat}{y d:α}(h:ls[i]?=some y):ls.getD i d=y:=by simp[List.getD,h]
def zl (ns:Γ3)(x:Int):vE (V.int x) (ns.map V.int)=ns.contains x:=by
 have h:vE (V.int x) (ns.map V.int)=ns.any λh=>decide (h=x):=by
  unfold vE;rw[Xz]
  congr 1
 rw[h,List.contains_eq_any_beq]
 congr 1
 funext y
 by_cases z:y=x
 .subst z;simp
 .have:¬ x=y:=λh=>z h.symm
  simp[z,this]
section
variable {K:Θ1}{tt:TT}{te:TE}{acc a:Addr}{s:Γ3}{ao:St}{bN:Hp}{Q:VK}
end
def oW {a b:Int}(ha:0<a)(hb:0<b):0<Rat.divInt a b:=by
 have l5:(0:Rat)<(b:Rat):=Yo.mpr hb;have Wk:(0:Rat)<(a:Rat):=Yo.mpr ha;rw[X0];exact BN Wk l5
theorem l9:∀{l:Δ1},(∀q∈l,0<=q)->0<=bz l
 |[],_=>Yf
 |q::l,h=>by
  rw[Ks];have h1:=h q Zm;have h2:=l9 (l:=l) λz hz=>h z (Zq _ hz)
  exact Rat.add_nonneg h1 h2
def DN {l:Δ1}(bJ:l≠[])(h:∀q∈l,0<q):0<bz l:=by
 cases l with
 |nil=>exact absurd rfl bJ
 |cons q l =>
  rw[Ks];have h1:=h q Zm;have h2:=l9 (l:=l) λz hz=>Z7 (h z (Zq _ hz))
  generalize bz l=s at h2
  grind
def TW (d:Nat)(h:d≠0):Rat:={ num:=1,den:=d,den_nz:=h,reduced:=by simp[Nat.Coprime] }
def AJ {M:Γ1}{qs:Δ1}{c:Rat}(h:sT M qs)(hc:0<c):sT M (qs.map λq=>iT q c):=by
 have e:∀j,j<qs.length->(qs.map λq=>iT q c).getD j 0=qs.getD j 0*c:=λj hj=>by simp[List.getD,Zh,Zc hj,iT]
 refine⟨λj hj hw=>?_,λj hj hw=>?_⟩
 .rw[Za] at hj;rw[e j hj];exact Y6 (h.pos j hj hw) hc
 .rw[Za] at hj;rw[e j hj,h.nil j hj hw,X1]
end KM
namespace L2
open PySem PySem.Spec PyProof.Rows
abbrev sF (d9 t1 i1 t2 i2:Expr)(f1 f2:Ξ2)(scope:Scope)(pos:Pos):Expr:=.ListComp d9 [⟨t1,i1,f1,0⟩,⟨t2,i2,f2,0⟩] scope pos
def oY (d9 t1 i1 t2 i2:Expr)(f1 f2:Ξ2)(scope:Scope)(pos:Pos)(it acc:Value)(env:Env) :
  compTurn (sF d9 t1 i1 t2 i2 f1 f2 scope pos) 0 it acc env=(do
   standAt i1.pos
   match <- pyNext it with
   |none=>pure (.done .next)
   |some v =>
    letOwnedTupleGo t1 it v
    assign t1 env v
    let mut ok:=true
    for c in f1 do
     if ok then ok <- isTrue c env (eval c env)
    if ok then
     let x <- eval i2 env
     standAt i2.pos
     let x <- foldedSetIterable i2 env x;let _ <- runOwn (.compStart (sF d9 t1 i1 t2 i2 f1 f2 scope pos) 1 (<- holding [x] (pyIter x)) acc env) env
    again (.compLoop (sF d9 t1 i1 t2 i2 f1 f2 scope pos) 0 it acc env)):=by rfl
def mG (d9 t1 i1 t2 i2:Expr)(f1 f2:Ξ2)(scope:Scope)(pos:Pos)(it acc:Value)(env:Env) :
  compTurn (sF d9 t1 i1 t2 i2 f1 f2 scope pos) 1 it acc env=(do
   standAt i2.pos
   match <- pyNext it with
   |none=>pure (.done .next)
   |some v =>
    letOwnedTupleGo t2 it v
    assign t2 env v
    let mut ok:=true
    for c in f2 do
     if ok then ok <- isTrue c env (eval c env)
    if ok then
     (do let _ <- call (.builtin "list.append") [acc,<- eval d9 env])
    again (.compLoop (sF d9 t1 i1 t2 i2 f1 f2 scope pos) 1 it acc env)):=by rfl
section
variable {prog:Program}{w:World}{A:Around}{R:Result->Shared->Prop}{s:Shared}{d9 t1 i1 t2 i2:Expr}{f1 f2:Ξ2}{scope:Scope}{pos:Pos}{it acc:Value}{env:Env}
def u3 (I:Nat->Shared->Prop)
  (fj:∀n s,I n s->wpAny (model prog w) A (pyNext it) (λr bt=>match r with
   |none=>R (.ok .next) bt
   |some v=>wpAny (model prog w) A (letOwnedTupleGo t2 it v) (λ_ iW=>wpAny (model prog w) A (assign t2 env v) (λ_ cE =>
     wpAny (model prog w) A (forIn f2 true λc r=>if r=true then do let ok <- isTrue c env (eval c env);pure (ForInStep.yield ok) else pure (ForInStep.yield r)) (λok eh =>
      if ok=true then wpAny (model prog w) A (eval d9 env) (λx g9 =>
       wpAny (model prog w) A (call (.builtin "list.append") [acc,x]) (λ_ nt=>∃m,m<n/\I m nt) (λ_ _=>False) g9) (λ_ _=>False) eh
      else ∃m,m<n/\I m eh) (λ_ _=>False) cE) (λ_ _=>False) iW) (λ_ _=>False) bt) (λ_ _=>False) s)
  (n:Nat) (h:I n s) :
  codeAny (model prog w) A (.compLoop (sF d9 t1 i1 t2 i2 f1 f2 scope pos) 1 it acc env) R s:=by
 refine codeAny_loop rfl I (λn s hI=>?_) n h;show wpAny _ A ((compTurn (sF d9 t1 i1 t2 i2 f1 f2 scope pos) 1 it acc env).onRaise (λx=>do noteFrame x env;theTreesLotGoes x)) _ _ s;refine wpAny_noted ?_;rw[mG];refine Zb (wpAny_standAt (Zb (wpAny_mono (fj n s hI) (λr bt lI=>?_) λ_ _ h'=>h'.elim)));cases r with
 |none=>exact wpAny_pure lI
 |some v =>
  refine Zb (wpAny_mono lI (λ_ iW nO=>?_) λ_ _ h'=>h'.elim);refine Zb (wpAny_mono nO (λ_ cE lH=>Zb (wpAny_mono lH (λok eh lG=>?_) λ_ _ h'=>h'.elim)) λ_ _ h'=>h'.elim);cases ok with
  |false=>exact wpAny_pure ⟨rfl,lG⟩
  |true =>
   exact Zb (Zb (wpAny_mono lG (λx g9 wa=>Zb (wpAny_mono wa (λ_ nt v9=>wpAny_pure (wpAny_pure ⟨rfl,v9⟩)) λ_ _ h'=>h'.elim)) λ_ _ h'=>h'.elim))
def uZ (hs:∀x,foldedSetIterable i2 env x=pure x)(I:Nat->Shared->Prop)
  (fj:∀n s,I n s->wpAny (model prog w) A (pyNext it) (λr bt=>match r with
   |none=>R (.ok .next) bt
   |some v=>wpAny (model prog w) A (letOwnedTupleGo t1 it v) (λ_ iW=>wpAny (model prog w) A (assign t1 env v) (λ_ cE =>
     wpAny (model prog w) A (forIn f1 true λc r=>if r=true then do let ok <- isTrue c env (eval c env);pure (ForInStep.yield ok) else pure (ForInStep.yield r)) (λok eh =>
      if ok=true then wpAny (model prog w) A (eval i2 env) (λx g9=>wpAny (model prog w) A (pyIter x) (λxE nt =>
       codeAny (model prog w) A (.compStart (sF d9 t1 i1 t2 i2 f1 f2 scope pos) 1 xE acc env) (λr nq=>r=.ok .next/\∃m,m<n/\I m nq) nt) (λ_ _=>False) g9) (λ_ _=>False) eh
      else ∃m,m<n/\I m eh) (λ_ _=>False) cE) (λ_ _=>False) iW) (λ_ _=>False) bt) (λ_ _=>False) s)
  (n:Nat) (h:I n s) :
  codeAny (model prog w) A (.compLoop (sF d9 t1 i1 t2 i2 f1 f2 scope pos) 0 it acc env) R s:=by
 refine codeAny_loop rfl I (λn s hI=>?_) n h;show wpAny _ A ((compTurn (sF d9 t1 i1 t2 i2 f1 f2 scope pos) 0 it acc env).onRaise (λx=>do noteFrame x env;theTreesLotGoes x)) _ _ s;refine wpAny_noted ?_;rw[oY];refine Zb (wpAny_standAt (Zb (wpAny_mono (fj n s hI) (λr bt lI=>?_) λ_ _ h'=>h'.elim)));cases r with
 |none=>exact wpAny_pure lI
 |some v =>
  refine Zb (wpAny_mono lI (λ_ iW nO=>?_) λ_ _ h'=>h'.elim);refine Zb (wpAny_mono nO (λ_ cE lH=>Zb (wpAny_mono lH (λok eh lG=>?_) λ_ _ h'=>h'.elim)) λ_ _ h'=>h'.elim);cases ok with
  |false=>exact wpAny_pure ⟨rfl,lG⟩
  |true =>
   refine Zb (wpAny_mono lG (λx g9 wa=>Zb (wpAny_standAt (Zb (wpAny_of_eq (hs x) (Zb (wpAny_holding (wpAny_mono wa (λxE nt v9=>?_) λ_ _ h'=>h'.elim))))))) λ_ _ h'=>h'.elim);refine Zb (wpAny_runOwn (codeAny_mono v9 λr nq B9=>?_));obtain⟨rfl,B9⟩:=B9;exact wpAny_pure ⟨rfl,B9⟩
def jl2
  (h0:codeAny (model prog w) A (.compLoop (sF d9 t1 i1 t2 i2 f1 f2 scope pos) 1 it acc env) R s)
  (h:wpAny (model prog w) A (pyIter it) (λP4 s'=>codeAny (model prog w) A (.compLoop (sF d9 t1 i1 t2 i2 f1 f2 scope pos) 1 P4 acc env) R s')
   (notedBy (model prog w) A env λx s'=>R (.error x) s') s) :
  codeAny (model prog w) A (.compStart (sF d9 t1 i1 t2 i2 f1 f2 scope pos) 1 it acc env) R s:=by
 refine codeAny_of_tree ?_;show wpAny _ _ ((compStart (sF d9 t1 i1 t2 i2 f1 f2 scope pos) 1 it acc env).onRaise (λx=>do noteFrame x env;standAt theWindowsPlace)) _ _ s;refine wpAny_notedAt ?_;unfold compStart;show wpAny _ _ (ask >>= _) _ _ s;refine Zb (wpAny_askSetting (wpAny_ite ?_));split
 .first
   |exact Zb (wpAny_pure (wpAny_pure (And.intro rfl h0)))
   |exact wpAny_pure (And.intro rfl h0)
 .first
   |exact Zb (wpAny_rule (Zb (wpAny_standAt (Zb (wpAny_mono h (λP4 s' h'=>wpAny_pure (And.intro rfl h')) λ_ _ x=>x)))))
   |(refine Zb (wpAny_rule ?_);show wpAny _ _ (standAt i2.pos >>= _) _ _ s;exact Zb (wpAny_standAt (Zb (wpAny_mono h (λP4 s' h'=>wpAny_pure (And.intro rfl h')) λ_ _ x=>x))))
end
def YK (g:TG)(tt:TT)(te:TE)(J:It)(acc:Addr)(ao:St)(bN:Hp)(Z:St->Hp->Prop):Prop :=
 ∃W:Nat->Nat->St->Hp->Prop,(∃m,W 0 m ao bN)/\∀i m aH H',W i m aH H' ->
  (J.stop i H'/\Z aH H') \/
  (J.go i H'/\∃N:St->Hp->Prop,(∀c3 H2,N c3 H2->∃m',m'<m/\W (i+1) m' c3 H2)/\∀x H2,J.vj i H' x H2->g x aH H2 λiD H3=>tt iD H3 λb H4 =>
   if b=true then te iD H4 λy H5=>∃ys,H5 acc=some (.lst ys)/\ys.length<sizeLine/\N iD (aF H5 acc (.lst (ys++[y]))) else N iD H4)
def yF (g1:TG)(Bu:TT)(IG:TI)(g2:TG)(Bt:TT)(te:TE)(J:It)(acc:Addr)(ao:St)(bN:Hp)(Q:VK):Prop :=
 ∃W:Nat->Nat->St->Hp->Prop,(∃m,W 0 m ao (aF bN acc (.lst [])))/\∀i m aH H',W i m aH H' ->
  (J.stop i H'/\Q (.ref acc) H') \/
  (J.go i H'/\∃N:St->Hp->Prop,(∀c3 H2,N c3 H2->∃m',m'<m/\W (i+1) m' c3 H2)/\∀x H2,J.vj i H' x H2->g1 x aH H2 λiD H3=>Bu iD H3 λb H4 =>
   if b=true then IG iD H4 λJ2 H5=>YK g2 Bt te J2 acc iD H5 N else N iD H4)
def CS (wi:TI)(g1:TG)(Bu:TT)(IG:TI)(g2:TG)(Bt:TT)(te:TE)(own:Nat)(ix:List Nat):TE:=λσ H Q=>wi σ H λJ H1=>∀acc,H1 acc=none->yF g1 Bu IG g2 Bt te J acc (eF own ix σ) H1 Q
section
variable {X:Cx}{scope:Scope}{own cap:Δ2}{ix:List Nat}{t1 i1 t2 i2 d9:Expr}{f1 f2:Ξ2}{wi IG:TI}{g1 g2:TG}{Bu Bt:TT}{te:TE}{pos:Pos}
def xx {aa:Γ2}{σ:St}{H2:Hp}{s2:Shared}{it:Addr}{fp:List Addr}{tn:Nat->Heap->Prop}{J:It}{Q:VK}{RR:Value->Addr->Result->Shared->Prop}{E:Θ2}
  (B:aG X scope own cap ix) (hc:X.calm=true)
  (hb:∀C fp s H,PG (d6 X scope C (own++cap) fp s H) t1 g1/\fk (d6 X scope C (own++cap) fp s H) f1 Bu/\PI (d6 X scope C (own++cap) fp s H) t2 i2 IG/\PG (d6 X scope C (own++cap) fp s H) t2 g2/\fk (d6 X scope C (own++cap) fp s H) f2 Bt/\PE (d6 X scope C (own++cap) fp s H) d9 te)
  (ve:∀(env:Env) x,foldedSetIterable i2 env x=pure x)
  (I2:Inv X aa σ H2 s2) (T:Turn X.prog X.w X.K t1 J fp it tn) (gz:tn 0 s2.heap) (fk2:∀b∈fp,dS X aa H2 b)
  (q:∀acc,H2 acc=none->yF g1 Bu IG g2 Bt te J acc (eF own.length ix σ) H2 Q)
  (KW:∀D C H' s' m,Inv X aa σ H' s'->Q (.ref D) H'->s'.heap.Ns C m->dS X aa H' C->RR (.ref D) C (.ok .next) s') :
  wpAny (model X.prog X.w) X.A (newList []) (λacc eh=>wpAny (model X.prog X.w) X.A (newFunctionEnv scope X.env.globals (dZ X.env scope.names []) [] X.env.qual none .none (some X.env)) (λnH g9 =>
   codeAny (model X.prog X.w) X.A (.compStart (sF d9 t1 i1 t2 i2 f1 f2 scope pos) 0 (.ref it) acc { nH with scope:=relabel scope X.env }) (RR acc nH.locals) g9) E eh) E s2:=by
 refine wpAny_newObj_type (fY ?_);have I3:Inv X aa σ (aF H2 s2.heap.objs.size (.lst [])) { s2 with heap:=s2.heap.push { cls:=.type "list",dict:=none,data:=.seq ([]:Δ3).toArray } }:=I2.LU (its:=[]) (ys:=[]) (t':=s2.toks) .nil (Z9 _);obtain⟨W,⟨m0,w0⟩,fj⟩:=q s2.heap.objs.size I2.fresh;generalize hD:s2.heap.objs.size=D at I3 w0 fj ⊢;have cT:∀b∈fp,b<D:=λb br=>by
  obtain⟨o,e,_⟩:=T.obj 0 _ gz b br;rw[<- hD];exact Zp e
 generalize Kx:({ s2 with heap:=s2.heap.push { cls:=.type "list",dict:=none,data:=.seq ([]:Δ3).toArray } }:Shared)=s3 at I3 ⊢;have iZ:∀b o,s2.heap.get? b=some o->s3.heap.get? b=some o:=λb o e=>by rw[<- Kx];exact Zi _ e
 have f3:∀b∈fp,dS X aa (aF H2 D (.lst [])) b:=λb br=>⟨by rw[dj (Yb (cT b br))];exact(fk2 b br).1,(fk2 b br).2⟩
 have o3:∀b∈fp,∃o,s3.heap.get? b=some o:=λb br=>let ⟨o,e,_⟩:=T.obj 0 _ gz b br;⟨o,iZ b o e⟩
 have I4:=I3.block B f3 o3;have BJ:tn 0 (pushCells (s3.heap.push { cls:=.type "dict",data:=.dict #[] }) scope.names):=T.keep 0 _ _ gz λb _ o e=>pushCells_keeps _ _ b o (Zi _ (iZ b o e))
 obtain⟨hg,BY,hi2,hg2,Sg,he⟩:=hb s3.heap.objs.size fp s3 (aF H2 D (.lst []));generalize gY:d6 X scope s3.heap.objs.size (own++cap) fp s3 (aF H2 D (.lst []))=X' at I4 hg BY hi2 hg2 Sg he;have eP:X'.prog=X.prog:=by rw[<- gY];rfl
 have eW:X'.w=X.w:=by rw[<- gY];rfl
 have eK:X'.K=X.K:=by rw[<- gY];rfl
 have eA:X'.A=X.A:=by rw[<- gY];rfl
 have eE:X'.env=iJ scope s3.heap.objs.size X.env:=by rw[<- gY];rfl
 have ex:X'.xe=λ_ _=>False:=by rw[<- gY];rfl
 have mq:X'.calm=true:=by rw[<- gY];exact hc
 have hV:∀{H':Hp},(∀b∈fp,H' b=none)->∀b∈fp,dS X' [] H' b:=λhn b br=>by
  subst gY;exact⟨hn b br,(I4.ok.E9 b br).1,I4.ok.tL b br,.inl br,(I4.ok.E9 b br).2,λp hp=>absurd (show p∈([]:Γ2) from hp) (by simp)⟩
 have loop:∀s4:Shared,s4={ s3 with heap:=pushCells (s3.heap.push { cls:=.type "dict",data:=.dict #[] }) scope.names } ->
   codeAny (model X.prog X.w) X.A (.compLoop (sF d9 t1 i1 t2 i2 f1 f2 scope pos) 0 (.ref it) (.ref D) (iJ scope s3.heap.objs.size X.env)) (RR (.ref D) s3.heap.objs.size) s4:=by
  rintro s4 rfl;refine uZ (ve _) (λn s'=>∃i aH H',Inv X' [] aH H' s'/\tn i s'.heap/\(∀b∈fp,H' b=none)/\W i n aH H') ?_ m0 ⟨0,_,_,I4,BJ,λb br=>(f3 b br).1,w0⟩;rintro n s5 ⟨i,nj,H5,I5,vn,zW,w5⟩;rcases fj i n nj H5 w5 with ⟨stop,qn⟩ |⟨go,N,hN,step⟩
  .have:=T.done X' eP eW eK mq i [] s5 nj H5 (λ_ _=>False) I5 (hV zW) vn stop;rw[eA] at this;refine bB this λr s6 ⟨hr,I6⟩=>?_
   subst hr;subst gY;have J6:Inv X aa σ H5 s6:=I3.yq (ch:=fp) I6.os I6.base I6.bT I6.bare λb br=>⟨(f3 b br).2.2.2.1,(f3 b br).2.1,(f3 b br).2.2.2.2.1,(f3 b br).2.2.2.2.2⟩
   obtain⟨m,hn,_⟩:=I6.loc;exact KW D _ H5 s6 m J6 qn hn (I3.jR (Ze _) I6.free)
  .have:=T.item X' eP eW eK mq i [] s5 nj H5 (λ_ _=>False) I5 (hV zW) vn go;rw[eA] at this;refine bB this λr s6 ⟨u,hr,h6⟩=>?_
   subst hr;refine bB h6 λ_ s7 ⟨x,H7,I7,r7,y7,vm,KZ⟩=>?_
   have Lh:=I7.pinned (hV KZ) (T.obj _ _ vm);have a1:=hg _ s7 nj H7 x u _ Lh r7 (step x H7 y7);rw[eP,eW,eA,eE,ex] at a1;refine bB a1 λ_ s8 ⟨vi,H8,I8,q8⟩=>?_
   have a2:=BY _ s8 vi H8 _ I8 q8;rw[eP,eW,eA,eE,ex] at a2;refine bB a2 λb s9 ⟨H9,I9,q9⟩=>?_
   have again:∀{s':Shared}{aH:St}{H':Hp},Inv X' ([]++d0 fp s7.heap) aH H' s'->N aH H'->∃m,m<n/\∃i aH H',Inv X' [] aH H' s'/\tn i s'.heap/\(∀b∈fp,H' b=none)/\W i m aH H':=λ{s' aH H'} I' n'=>by
    obtain⟨m',hm,w'⟩:=hN aH H' n';refine⟨m',hm,i+1,aH,H',I'.dH,T.keep _ _ _ vm λb br o e=>(I'.pin (b,o) (Z1 _ (Z1 _ (BB br e)))).1,λb br=>?_,w'⟩;obtain⟨o,e,d⟩:=T.obj _ _ vm b br;exact(I'.pin (b,o) (Z1 _ (Z1 _ (BB br e)))).2.1
   cases b with
   |false=>exact again I9 q9
   |true =>
    rw[if_pos rfl] at q9 ⊢;have a3:=hi2 _ s9 vi H9 _ I9 q9;rw[eP,eW,eA,eE,ex] at a3;refine bB a3 λv10 OB UI=>bB UI λIM Pz QT=>?_
    obtain⟨xE,QV,Θ,J2,UV,UM,Li,T2,Rx,Sr,W2,⟨m2,w2⟩,SK⟩:=QT;subst UM;have Cg:∀{H':Hp},(∀b∈QV,H' b=none)->∀b∈QV,dS X' ([]++d0 fp s7.heap) H' b:=λhn b br=>⟨hn b br,(Sr b br).2⟩
    have J1:codeAny (model X.prog X.w) X.A (.compLoop (sF d9 t1 i1 t2 i2 f1 f2 scope pos) 1 (.ref xE) (.ref D) (iJ scope s3.heap.objs.size X.env)) (λr nq=>r=.ok .next/\∃m,m<n/\∃i aH H',Inv X' [] aH H' nq/\tn i nq.heap/\(∀b∈fp,H' b=none)/\W i m aH H') Pz:=by
     refine u3 (λn s'=>∃i aH H',Inv X' ([]++d0 fp s7.heap) aH H' s'/\Θ i s'.heap/\(∀b∈QV,H' b=none)/\W2 i n aH H') ?_ m2 ⟨0,_,_,Li,Rx,λb br=>(Sr b br).1,w2⟩;rintro n2 o8 ⟨j,FI,YB,I12,Rw,Sn,w12⟩;rcases SK j n2 FI YB w12 with ⟨SW,qn2⟩ |⟨go2,N2,hN2,SX⟩
     .have:=T2.done X' rfl rfl rfl mq j _ o8 FI YB (λ_ _=>False) I12 (Cg Sn) Rw SW;rw[eP,eW,eA] at this;refine bB this λr zJ ⟨hr,I13⟩=>?_
      subst hr;exact⟨rfl,again I13 qn2⟩
     .have:=T2.item X' rfl rfl rfl mq j _ o8 FI YB (λ_ _=>False) I12 (Cg Sn) Rw go2;rw[eP,eW,eA] at this;refine bB this λr zJ ⟨u2,hr,h13⟩=>?_
      subst hr;refine bB h13 λ_ s14 ⟨x2,H14,I14,r14,y14,Lv,W'⟩=>?_
      have π:=I14.pinned (Cg W') (T2.obj _ _ Lv);have b1:=hg2 _ s14 FI H14 x2 u2 _ π r14 (SX x2 H14 y14);rw[eP,eW,eA,eE,ex] at b1;refine bB b1 λ_ s15 ⟨FH,H15,I15,q15⟩=>?_
      have b2:=Sg _ s15 FH H15 _ I15 q15;rw[eP,eW,eA,eE,ex] at b2;refine bB b2 λbb s16 ⟨H16,I16,Vw⟩=>?_
      have DI:∀{s':Shared}{aH:St}{H':Hp},Inv X' (([]++d0 fp s7.heap)++d0 QV s14.heap) aH H' s'->N2 aH H'->∃m,m<n2/\∃i aH H',Inv X' ([]++d0 fp s7.heap) aH H' s'/\Θ i s'.heap/\(∀b∈QV,H' b=none)/\W2 i m aH H':=λ{s' aH H'} I' n'=>by
       obtain⟨m',hm,w'⟩:=hN2 aH H' n';refine⟨m',hm,j+1,aH,H',I'.dH,T2.keep _ _ _ Lv λb br o e=>(I'.pin (b,o) (Z1 _ (Z1 _ (BB br e)))).1,λb br=>?_,w'⟩;obtain⟨o,e,d⟩:=T2.obj _ _ Lv b br;exact(I'.pin (b,o) (Z1 _ (Z1 _ (BB br e)))).2.1
      cases bb with
      |false=>exact DI I16 Vw
      |true =>
       rw[if_pos rfl] at Vw ⊢;have b3:=he _ s16 FH H16 _ I16 Vw;rw[eP,eW,eA,eE,ex] at b3;refine bB b3 λyv s17 ⟨y,H17,I17,r17,ys,P8,hz,q17⟩=>?_
       have b4:=lU (X:=X') _ s17 FH H17 (.ref D) [y] (.ref D) [yv] (λv H'=>v=.bZ/\N2 FH H') I17 rfl (.cons r17 .nil) ⟨D,ys,y,rfl,rfl,P8,hz,rfl,q17⟩;rw[eP,eW,eA,ex] at b4;refine bB b4 λ_ s18 ⟨_,H18,I18,_,_,q18⟩=>DI I18 q18
    have Ju:=T2.self X.A 0 Pz (λP4 s'=>codeAny (model X.prog X.w) X.A (.compLoop (sF d9 t1 i1 t2 i2 f1 f2 scope pos) 1 P4 (.ref D) (iJ scope s3.heap.objs.size X.env)) (λr nq=>r=.ok .next/\∃m,m<n/\∃i aH H',Inv X' [] aH H' nq/\tn i nq.heap/\(∀b∈fp,H' b=none)/\W i m aH H') s') (notedBy (model X.prog X.w) X.A (iJ scope s3.heap.objs.size X.env) λx s'=>(Except.error x:Result)=.ok .next/\∃m,m<n/\∃i aH H',Inv X' [] aH H' s'/\tn i s'.heap/\(∀b∈fp,H' b=none)/\W i m aH H') Rx J1;rw[eP,eW] at Ju;exact jl2 J1 Ju
 exact codeAny_compStart_list (loop _ rfl) (T.self X.A 0 _ _ _ BJ (loop _ rfl))
def Ea (B:aG X scope own cap ix)(hc:X.calm=true)(hi:PI X t1 i1 wi)
  (hb:∀C fp s H,PG (d6 X scope C (own++cap) fp s H) t1 g1/\fk (d6 X scope C (own++cap) fp s H) f1 Bu/\PI (d6 X scope C (own++cap) fp s H) t2 i2 IG/\PG (d6 X scope C (own++cap) fp s H) t2 g2/\fk (d6 X scope C (own++cap) fp s H) f2 Bt/\PE (d6 X scope C (own++cap) fp s H) d9 te)
  (hs:∀x,foldedSetIterable i1 X.env x=pure x:=by intro _;rfl) (ve:∀(env:Env) x,foldedSetIterable i2 env x=pure x:=by intro _ _;rfl):PE X (.ListComp d9 [⟨t1,i1,f1,0⟩,⟨t2,i2,f2,0⟩] scope pos) (CS wi g1 Bu IG g2 Bt te own.length ix):=by
 intro aa s σ H Q I h;rw[eval_ListComp];have has:∀x∈scope.names,x.2=.free->(X.env.cells.lookup x.1).isSome=true:=λx hx hk=>by
  obtain⟨c,e⟩:=I.ok.has x.1 (B.frees x hx hk);rw[e];rfl
 refine wpAny_comprehension_free (use:=none) rfl hs (P1 has) B.kind B.names ?_;show wpAny _ _ (eval i1 X.env) _ _ s;refine bB (hi aa s σ H _ I h) λv s1 h1=>bB h1 λIM s2 h2=>?_
 obtain⟨it,fp,tn,J,H2,e,I2,T,gz,f2,q⟩:=h2;subst e;refine xx (RR:=λacc C=>compPost (model X.prog X.w) X.A X.xe none (EP X aa σ Q) acc C) B hc hb ve I2 T gz f2 q ?_;intro D C H' s' m I' q' hn fC;refine⟨m,hn,λh' vG=>⟨.ref D,H',?_,rfl,q'⟩⟩;exact I'.turned (t':=s'.toks) (it:=C) (λb o Fy e=>(vG.2 b Fy).trans e) fC.1 fC.2.1 fC.2.2.2.1 fC.2.2.2.2.1 fC.2.2.2.2.2
end
end L2
namespace L2
open PySem PySem.Spec PyProof.Rows KG
section
variable {te:TE}{acc a:Addr}{xs:List V}{cs:List (Option V)}{bN:Hp}{Q:VK}
end
end L2
namespace KM
open PySem L2 KG EX
end KM
namespace L2
open PySem PySem.Spec PyProof.Rows KG
end L2
namespace KM
open PySem L2 KG EX
theorem rN {k:Nat}:∀{qs:Δ1},(∀q∈qs,Rb k q)->Rb (1+(k+1)*qs.length) (bz qs)
 |[],_=>jy
 |q::qs,h=>by
  have ih:=rN (qs:=qs) λz hz=>h z (Zq _ hz)
  rw[Ks];have:=C5 (h q Zm) ih;refine this.mono ?_;rw[Xy,Nat.mul_succ];omega
end KM
namespace PySem
open AutoSeq1 (wpAny_loadPart')
end PySem
namespace L2
open PySem PySem.Spec PyProof.Rows
section
variable {X:Cx}
end
end L2
namespace KM
open PySem L2 KG EX
end KM
namespace EX
open PySem PySem.Spec PyProof.Rows
section
variable {M:Model}{A:Around}{E:Θ2}{s:Shared}{B:Heap}{env:Env}{outer:List Env}{L e C t:Addr}{Q:Unit->Shared->Prop}
end
end EX
namespace L2
open PySem PySem.Spec PyProof.Rows EX
section
variable {X:Cx}{scope:Scope}{own cap:Δ2}{ix:List Nat}{tg iter d9:Expr}{gx:Ξ2}{wi:TI}{g:TG}{tt:TT}{te:TE}{pos:Pos}
end
end L2
namespace PySem
section
variable {prog:Program}{w:World}{A:Around}{E:Θ2}{s:Shared}{z TI TO i1 i2 i3 l1 l2 l3:Addr}{k1 k2 k3:Nat}{xs ys us:Array Value}{x y u a b c:Value}
end
end PySem
namespace L2
open PySem PySem.Spec PyProof.Rows
section
variable {X:Cx}
end
end L2
namespace L2
open PySem PySem.Spec PyProof.Rows KG
section
variable {X:Cx}
end
end L2
namespace KM
open PySem L2 KG EX
end KM
namespace PySem
section
variable {prog:Program}{w:World}{A:Around}{E:Θ2}{s:Shared}{z TI TO i1 i2 l1 l2:Addr}{k1 k2:Nat}{xs ys:Array Value}{x y a b:Value}
end
end PySem
namespace L2
open PySem PySem.Spec PyProof.Rows
section
variable {X:Cx}
end
end L2
namespace KM
open PySem L2 KG EX
end KM
namespace MI
open PySem L2 KG EX KM
mutual
inductive cV (H:Hp):V->PyData->Prop
 |bZ:cV H .bZ .none
 |bl (c:Bool):cV H (.bl c) (.bool c)
 |int (i:Int):cV H (.int i) (.int i)
 |str (x:Str) (ok:(PyData.str x).canLay0=true):cV H (.str x) (.str x)
 |lst {a:Addr}{xs:List V}{ds:Ξ1}:H a=some (.lst xs)->aQ H xs ds->cV H (.ref a) (.list ds)
 |tup {a:Addr}{xs:List V}{ds:Ξ1}:H a=some (.tup xs)->aQ H xs ds->cV H (.ref a) (.tuple ds)
inductive aQ (H:Hp):List V->Ξ1->Prop
 |nil:aQ H [] []
 |cons {x:V}{xs:List V}{d:PyData}{ds:Ξ1}:cV H x d->aQ H xs ds->aQ H (x::xs) (d::ds)
end
mutual
theorem cV.aA {H H':Hp}(k:az H H'):∀{v:V}{d:PyData},cV H v d->cV H' v d
 |_,_,.bZ=>.bZ
 |_,_,.bl c=>.bl c
 |_,_,.int i=>.int i
 |_,_,.str x o=>.str x o
 |_,_,.lst h t=>.lst (k _ _ h) (aQ.aA k t)
 |_,_,.tup h t=>.tup (k _ _ h) (aQ.aA k t)
theorem aQ.aA {H H':Hp}(k:az H H'):∀{vs:List V}{ds:Ξ1},aQ H vs ds->aQ H' vs ds
 |_,_,.nil=>.nil
 |_,_,.cons h t=>.cons (cV.aA k h) (aQ.aA k t)
end
mutual
theorem cV.dt {K:Θ1}{H:Hp}:∀{v:V}{d:PyData},cV H v d->mM K H v d
 |_,_,.bZ=>.bZ
 |_,_,.bl c=>.bl c
 |_,_,.int i=>.int i
 |_,_,.str x o=>.str x o
 |_,_,.lst h t=>.lst (bi.of h) (aQ.dt t)
 |_,_,.tup h t=>.tup (aM.of h) (aQ.dt t)
theorem aQ.dt {K:Θ1}{H:Hp}:∀{vs:List V}{ds:Ξ1},aQ H vs ds->fo K H vs ds
 |_,_,.nil=>.nil
 |_,_,.cons h t=>.cons (cV.dt h) (aQ.dt t)
end
theorem aQ.len {H:Hp}:∀{vs:List V}{ds:Ξ1},aQ H vs ds->vs.length=ds.length
 |_,_,.nil=>rfl
 |_,_,.cons _ t=>by simp[aQ.len t]
theorem aQ.app {H:Hp}:∀{vs ws:List V}{ds es:Ξ1},aQ H vs ds->aQ H ws es->aQ H (vs++ws) (ds++es)
 |_,_,_,_,.nil,g=>g
 |_,_,_,_,.cons h t,g=>.cons h (aQ.app t g)
theorem aQ.take {H:Hp}:∀{vs:List V}{ds:Ξ1}(n:Nat),aQ H vs ds->aQ H (vs.take n) (ds.take n)
 |_,_,0,_=>by simpa using aQ.nil
 |_,_,n+1,.nil=>by simpa using aQ.nil
 |_,_,n+1,.cons h t=>.cons h (aQ.take n t)
theorem aQ.drop {H:Hp}:∀{vs:List V}{ds:Ξ1}(n:Nat),aQ H vs ds->aQ H (vs.drop n) (ds.drop n)
 |_,_,0,h=>h
 |_,_,n+1,.nil=>by simpa using aQ.nil
 |_,_,n+1,.cons h t=>aQ.drop n t
theorem aQ.get {H:Hp}:∀{vs:List V}{ds:Ξ1}{i:Nat}{d:PyData},aQ H vs ds->ds[i]?=some d->∃x,vs[i]?=some x/\cV H x d
 |_,_,0,_,.cons h t,e=>⟨_,rfl,by rw[<- Option.some.inj e];exact h⟩
 |_,_,i+1,x,.cons h t,e=>by
  obtain⟨d,h1,h2⟩:=aQ.get (i:=i) (d:=x) t (by simpa using e);exact⟨d,by simpa using h1,h2⟩
mutual
def Bx:PyData->Bool
 |.list _=>false
 |.dict _=>false
 |.tuple ds=>q5 ds
 |_=>true
def q5:Ξ1->Bool
 |[]=>true
 |d::ds=>Bx d&&q5 ds
end
mutual
theorem yz {b:Addr}{H g:Hp}(k:∀a xs,H a=some (.tup xs)->g a=some (.tup xs)):∀{v:V}{d:PyData},Bx d=true->gZ b H v d->cV g v d
 |_,_,_,.bZ=>.bZ
 |_,_,_,.bl c=>.bl c
 |_,_,_,.int i=>.int i
 |_,_,_,.str x o=>.str x o
 |_,_,n,.lst _ h t=>by cases n
 |_,_,n,.tup h t=>.tup (k _ _ h) (qf k n t)
theorem qf {b:Addr}{H g:Hp}(k:∀a xs,H a=some (.tup xs)->g a=some (.tup xs)):∀{vs:List V}{ds:Ξ1},q5 ds=true->cC b H vs ds->aQ g vs ds
 |_,_,_,.nil=>.nil
 |_,_,n,.cons h t=>by
  have n':=(Z0 _ _).mp n;exact .cons (yz k n'.1 h) (qf k n'.2 t)
end
mutual
theorem cV.Pw {b:Addr}{H:Hp}:∀{v:V}{d:PyData},Bx d=true->cV H v d->gZ b H v d
 |_,_,_,.bZ=>.bZ
 |_,_,_,.bl c=>.bl c
 |_,_,_,.int i=>.int i
 |_,_,_,.str x o=>.str x o
 |_,_,n,.lst h t=>by cases n
 |_,_,n,.tup h t=>.tup h (aQ.Pw n t)
theorem aQ.Pw {b:Addr}{H:Hp}:∀{vs:List V}{ds:Ξ1},q5 ds=true->aQ H vs ds->cC b H vs ds
 |_,_,_,.nil=>.nil
 |_,_,n,.cons h t=>by
  have n':=(Z0 _ _).mp n;exact .cons (cV.Pw n'.1 h) (aQ.Pw n'.2 t)
end
inductive AV where
 |im (d:PyData) |own (k:Nat) |bag (j:Nat) |xC (ns:Γ3)
abbrev Φ9(d:PyData):Option AV:=some (.im d)
abbrev aU:=List (Option (List AV))
abbrev iO:=List (Option AV)
structure Wd where
 eN:List Addr
 eH:List Addr
 c7:List (Addr×HO)
def lC (w:Wd)(O:aU)(a:Addr):Prop:=a∈w.eN\/(∃o,(a,o)∈w.c7)\/∃(k:Nat) (c:List AV),w.eH[k]?=some a/\O[k]?=some (some c)
open Classical in
def G (w:Wd)(O:aU)(H:Hp):Hp:=λa=>if lC w O a then none else H a
def kc {w:Wd}{O:aU}{H:Hp}{a:Addr}(h:¬ lC w O a):G w O H a=H a:=if_neg h
def hW {w:Wd}{O:aU}{H:Hp}{a:Addr}{o:HO}(h:G w O H a=some o):H a=some o/\¬ lC w O a:=by
 unfold G at h;split at h
 .cases h
 .exact⟨h,by assumption⟩
def j8 (K:Θ1)(w:Wd)(g:Hp)(v:V):AV->Prop
 |.im d=>cV g v d
 |.own k=>∃a,w.eH[k]?=some a/\v=.ref a
 |.bag j=>∃a,w.eN[j]?=some a/\v=.ref a
 |.xC ns=>∃a,v=.ref a/\bi K g a (ns.map V.int)
def bU (K:Θ1)(w:Wd)(g:Hp)(vs:List V)(xs:List AV):Prop:=vs.length=xs.length/\∀(i:Nat) v x,vs[i]?=some v->xs[i]?=some x->j8 K w g v x
structure aJ (K:Θ1)(w:Wd)(O:aU)(H:Hp):Prop where
 len:w.eH.length=O.length
 nd:w.eH.Nodup
 al:∀a∈w.eH,∃o,H a=some o
 nb:∀a∈w.eN,a∉w.eH
 hn:(w.c7.map (·.1)).Nodup
 nh:∀p∈w.c7,p.1∉w.eH/\p.1∉w.eN/\H p.1=some p.2/\∀xs,p.2≠.tup xs
 bg:∀a∈w.eN,jX H a
 sS:∀(k:Nat) c,O[k]?=some (some c)->∃a vs,w.eH[k]?=some a/\H a=some (.lst vs)/\bU K w (G w O H) vs c
structure lz (w:Wd)(O:aU)(H:Hp)(w':Wd)(O':aU)(H':Hp):Prop where
 bs:∃t,w'.eN=w.eN++t
 eH:∃t,w'.eH=w.eH++t
 hs:∃t,w'.c7=t++w.c7
 aA:az (G w O H) (G w' O' H')
structure cq (w:Wd)(O:aU)(H:Hp)(w':Wd)(O':aU)(H':Hp):Prop where
 ex:lz w O H w' O' H'
 c7:w'.c7=w.c7
def lz.refl (w:Wd)(O:aU)(H:Hp):lz w O H w O H:=⟨⟨[],by simp⟩,⟨[],by simp⟩,⟨[],by simp⟩,az.refl _⟩
def lz.trans {w w1 w2:Wd}{O O1 O2:aU}{H H1 H2:Hp}(a:lz w O H w1 O1 H1)(b:lz w1 O1 H1 w2 O2 H2):lz w O H w2 O2 H2:=by
 obtain⟨t,ht⟩:=a.eH;obtain⟨u,hu⟩:=b.eH;obtain⟨t',ht'⟩:=a.hs;obtain⟨u',hu'⟩:=b.hs;obtain⟨t2,QB⟩:=a.bs;obtain⟨u2,VM⟩:=b.bs;exact⟨⟨t2++u2,by rw[VM,QB,Xt]⟩,⟨t++u,by rw[hu,ht,Xt]⟩,⟨u'++t',by rw[hu',ht',Xt]⟩,a.aA.trans b.aA⟩
def cq.refl (w:Wd)(O:aU)(H:Hp):cq w O H w O H:=⟨lz.refl _ _ _,rfl⟩
def cq.trans {w w1 w2:Wd}{O O1 O2:aU}{H H1 H2:Hp}(a:cq w O H w1 O1 H1)(b:cq w1 O1 H1 w2 O2 H2):cq w O H w2 O2 H2:=⟨a.ex.trans b.ex,b.c7.trans a.c7⟩
def lz.at {w w1:Wd}{O O1:aU}{H H1:Hp}(e:lz w O H w1 O1 H1){k:Nat}{a:Addr}(h:w.eH[k]?=some a):w1.eH[k]?=some a:=by
 obtain⟨t,ht⟩:=e.eH;rw[ht,Z4 (Zf.mp h).1];exact h
theorem j8.ex {K:Θ1}{w w1:Wd}{O O1:aU}{H H1:Hp}(e:lz w O H w1 O1 H1){v:V}:∀{x:AV},j8 K w (G w O H) v x->j8 K w1 (G w1 O1 H1) v x
 |.im d,h=>by
  exact cV.aA e.aA h
 |.own k,h=>by
  obtain⟨a,h1,h2⟩:=h;exact⟨a,e.at h1,h2⟩
 |.bag j,h=>by
  obtain⟨a,h1,h2⟩:=h;obtain⟨t,ht⟩:=e.bs;exact⟨a,by rw[ht,Z4 (Zf.mp h1).1];exact h1,h2⟩
 |.xC ns,h=>by
  obtain⟨a,h1,h2⟩:=h;exact⟨a,h1,KG.bi.aA h2 e.aA⟩
def bU.ex {K:Θ1}{w w1:Wd}{O O1:aU}{H H1:Hp}(e:lz w O H w1 O1 H1){vs:List V}{xs:List AV}(h:bU K w (G w O H) vs xs):bU K w1 (G w1 O1 H1) vs xs:=⟨h.1,λi v x h1 h2=>(h.2 i v x h1 h2).ex e⟩
def bU.nil {K:Θ1}{w:Wd}{g:Hp}:bU K w g [] []:=⟨rfl,λi v x h=>by simp at h⟩
def bU.cons {K:Θ1}{w:Wd}{g:Hp}{v:V}{x:AV}{vs:List V}{xs:List AV}(h:j8 K w g v x)(hs:bU K w g vs xs):bU K w g (v::vs) (x::xs):=by
 refine⟨by simp[hs.1],λi u y h1 h2=>?_⟩;cases i with
 |zero=>simp at h1 h2;rw[<- h1,<- h2];exact h
 |succ i=>exact hs.2 i u y (by simpa using h1) (by simpa using h2)
def bU.aW {K:Θ1}{w:Wd}{g:Hp}{vs:List V}{x:AV}{xs:List AV}(h:bU K w g vs (x::xs)):∃v us,vs=v::us/\j8 K w g v x/\bU K w g us xs:=by
 cases vs with
 |nil=>exact absurd h.1 (by simp)
 |cons v us =>
  refine⟨v,us,rfl,h.2 0 v x rfl rfl,by have:=h.1;simp at this;exact this,λi u y h1 h2=>h.2 (i+1) u y (by simpa using h1) (by simpa using h2)⟩
def bU.cn {K:Θ1}{w:Wd}{g:Hp}{vs:List V}(h:bU K w g vs []):vs=[]:=Qw.mp h.1
def bU.app {K:Θ1}{w:Wd}{g:Hp}{vs us:List V}{xs ys:List AV}(h:bU K w g vs xs)(h':bU K w g us ys):bU K w g (vs++us) (xs++ys):=by
 refine⟨by simp[h.1,h'.1],λi v x h1 h2=>?_⟩;rcases Yg i vs.length with y |y
 .rw[Z4 y] at h1;rw[Z4 (by rw[<- h.1];exact y)] at h2;exact h.2 i v x h1 h2
 .rw[Yv y] at h1;rw[Yv (by rw[<- h.1];exact y)] at h2;rw[<- h.1] at h2;exact h'.2 _ v x h1 h2
def bU.at {K:Θ1}{w:Wd}{g:Hp}{vs:List V}{xs:List AV}{i:Nat}{x:AV}(h:bU K w g vs xs)(hx:xs[i]?=some x):∃v,vs[i]?=some v/\j8 K w g v x:=by
 have hl:=(Zf.mp hx).1;have hv:i<vs.length:=by rw[h.1];exact hl
 exact⟨vs[i],Zc hv,h.2 i _ x (Zc hv) hx⟩
theorem aQ.avs {K:Θ1}{w:Wd}{g:Hp}:∀{vs:List V}{ds:Ξ1},aQ g vs ds->bU K w g vs (ds.map .im)
 |_,_,.nil=>bU.nil
 |_,_,.cons h t=>bU.cons h (aQ.avs t)
theorem bU.tr {K:Θ1}{w:Wd}{g:Hp}:∀{ds:Ξ1}{vs:List V},bU K w g vs (ds.map .im)->aQ g vs ds
 |[],_,h=>by rw[bU.cn h];exact .nil
 |d::ds,_,h=>by
  obtain⟨v,us,rfl,h1,h2⟩:=bU.aW h;exact .cons h1 (bU.tr h2)
def bX (K:Θ1)(w:Wd)(g:Hp)(σ:St)(sl:iO):Prop:=σ.length=sl.length/\∀(i:Nat) x,sl[i]?=some (some x)->∃v,σ[i]?=some (some v)/\j8 K w g v x
def bX.ex {K:Θ1}{w w1:Wd}{O O1:aU}{H H1:Hp}(e:lz w O H w1 O1 H1){σ:St}{sl:iO}(h:bX K w (G w O H) σ sl):bX K w1 (G w1 O1 H1) σ sl :=
 ⟨h.1,λi x hx=>by obtain⟨v,h1,h2⟩:=h.2 i x hx;exact⟨v,h1,h2.ex e⟩⟩
def bX.set {K:Θ1}{w:Wd}{g:Hp}{σ:St}{sl:iO}(h:bX K w g σ sl){v:V}{x:AV}(hx:j8 K w g v x)(j:Nat):bX K w g (σ.set j (some v)) (sl.set j (some x)):=by
 refine⟨by simp[h.1],λi y h2=>?_⟩;by_cases e:j=i
 .subst e;have hl:=(Zf.mp h2).1;rw[Xx] at hl;rw[Yu hl] at h2;have hy:x=y:=by injection (Option.some.inj h2)
  exact⟨v,by rw[Yu (by rw[h.1];exact hl)],hy▸hx⟩
 .rw[Yr e] at h2;rw[Yr e];exact h.2 i y h2
def fE (own:Nat)(ix:List Nat)(sl:iO):iO:=List.replicate own none++ix.map λi=>(sl[i]?).getD none
def bX.blk {K:Θ1}{w:Wd}{g:Hp}{σ:St}{sl:iO}(h:bX K w g σ sl)(own:Nat)(ix:List Nat):bX K w g (eF own ix σ) (fE own ix sl):=by
 refine⟨by simp[eF,fE],λi x hx=>?_⟩;unfold fE at hx;unfold eF;rcases Yg i own with y |y
 .rw[Z4 (by simpa using y)] at hx;rw[Ql,if_pos y] at hx;cases Option.some.inj hx
 .rw[Yv (by simpa using y)] at hx ⊢;rw[Q4,Zh] at hx ⊢;cases hj:ix[i-own]? with
  |none=>rw[hj] at hx;cases hx
  |some j =>
   rw[hj] at hx;have xF:(sl[j]?).getD none=some x:=Option.some.inj hx;have:sl[j]?=some (some x):=by
    cases hs:sl[j]? with
    |none=>rw[hs] at xF;cases xF
    |some o=>rw[hs] at xF;exact congrArg some xF
   obtain⟨v,h1,h2⟩:=h.2 j x this;refine⟨v,?_,h2⟩;show some ((σ[j]?).getD none)=_;rw[h1];rfl
def Zx (K:Θ1)(QX:Addr->aU->Prop)(E:XK)(w:Wd)(O:aU)(H:Hp):Prop:=∀c O' w' H',QX c O'->lz w O H w' O' H'->aJ K w' O' H'->E (.ref c) none H'
structure my (K:Θ1)(QX:Addr->aU->Prop)(E:XK)(w:Wd)(O:aU)(H:Hp)(σ:St)(sl:iO):Prop where
 ro:aJ K w O H
 so:bX K w (G w O H) σ sl
 zx:Zx K QX E w O H
def my.ex {K:Θ1}{QX:Addr->aU->Prop}{E:XK}{w w1:Wd}{O O1:aU}{H H1:Hp}{σ:St}{sl:iO}(c:my K QX E w O H σ sl)(e:lz w O H w1 O1 H1)(r:aJ K w1 O1 H1):my K QX E w1 O1 H1 σ sl :=
 ⟨r,c.so.ex e,λk O' w' H' q e' r'=>c.zx k O' w' H' q (e.trans e') r'⟩
abbrev ME:=iO->aU->(AV->aU->Prop)->Prop
abbrev MT:=iO->aU->(Bool->aU->Prop)->Prop
abbrev MA:=iO->aU->(List AV->aU->Prop)->Prop
structure yt where
 nx:iO->aU->Prop
 rt:AV->aU->Prop
 bk:iO->aU->Prop:=λ_ _=>False
 ct:iO->aU->Prop:=λ_ _=>False
abbrev MS:=yt->iO->aU->Prop
section
variable (K:Θ1)(QX:Addr->aU->Prop)(E:XK)
def cy (M:ME):TE:=λσ H Q=>∃w O sl Q0,my K QX E w O H σ sl/\M sl O Q0/\∀x O' v w' H',Q0 x O'->cq w O H w' O' H'->aJ K w' O' H'->j8 K w' (G w' O' H') v x->Q v H'
def lx (M:MT):TT:=λσ H Q=>∃w O sl Q0,my K QX E w O H σ sl/\M sl O Q0/\∀c O' w' H',Q0 c O'->cq w O H w' O' H'->aJ K w' O' H'->Q c H'
def u5 (M:MA):TA:=λσ H Q=>∃w O sl Q0,my K QX E w O H σ sl/\M sl O Q0/\∀xs O' vs w' H',Q0 xs O'->cq w O H w' O' H'->aJ K w' O' H'->bU K w' (G w' O' H') vs xs->Q vs H'
def mH (M:MS):TS:=λD σ H=>∃w O sl D0,my K QX E w O H σ sl/\M D0 sl O /\
 (∀iL O' w' H' aH,D0.nx iL O'->my K QX E w' O' H' aH iL->cq w O H w' O' H'->D.nx aH H') /\
 (∀iL O' w' H' aH,D0.bk iL O'->my K QX E w' O' H' aH iL->cq w O H w' O' H'->D.bk aH H') /\
 (∀iL O' w' H' aH,D0.ct iL O'->my K QX E w' O' H' aH iL->cq w O H w' O' H'->D.ct aH H') /\
 (∀x O' w' H' v,D0.rt x O'->cq w O H w' O' H'->aJ K w' O' H'->j8 K w' (G w' O' H') v x->D.rt v H')
end
section
variable {K:Θ1}{w:Wd}{O:aU}{H H':Hp}
def aJ.all (r:aJ K w O H){a:Addr}(h:lC w O a):∃o,H a=some o:=by
 rcases h with h1 |⟨o,h1⟩ |⟨k,c,h1,h2⟩
 .obtain⟨c,d,e⟩:=r.bg _ h1;exact⟨_,e⟩
 .exact⟨_,(r.nh _ h1).2.2.1⟩
 .obtain⟨a',vs,e1,e2,_⟩:=r.sS k c h2;rw[h1] at e1;cases Option.some.inj e1;exact⟨_,e2⟩
def aJ.fresh (r:aJ K w O H){a:Addr}(h:H a=none):¬ lC w O a:=λz=>by obtain⟨o,e⟩:=r.all z;rw[h] at e;cases e
def aJ.aA (r:aJ K w O H)(s:az H H'):aJ K w O H'/\cq w O H w O H'/\∀a o,H a=none->H' a=some o->G w O H' a=some o:=by
 have sg:az (G w O H) (G w O H'):=λa o h=>by
  obtain⟨h1,h2⟩:=hW h;rw[kc h2];exact s _ _ h1
 have e:cq w O H w O H':=⟨⟨⟨[],by simp⟩,⟨[],by simp⟩,⟨[],by simp⟩,sg⟩,rfl⟩;refine⟨⟨r.len,r.nd,λa ha=>(let ⟨o,h⟩:=r.al a ha;⟨o,s _ _ h⟩),r.nb,r.hn,λp hp=>⟨(r.nh p hp).1,(r.nh p hp).2.1,s _ _ (r.nh p hp).2.2.1,(r.nh p hp).2.2.2⟩,λa ha=>jX.aA (r.bg a ha) s,λk c hk=>?_⟩,e,λa o h1 h2=>?_⟩
 .obtain⟨a,vs,h1,h2,h3⟩:=r.sS k c hk;exact⟨a,vs,h1,s _ _ h2,h3.ex e.ex⟩
 .rw[kc (r.fresh h1)];exact h2
def aJ.draw (r:aJ K w O H){b:Addr}(hb:b∈w.eN)(k:Kp b H H')(hB:jX H' b):aJ K w O H'/\cq w O H w O H'/\∀a o,H a=none->H' a=some o->G w O H' a=some o:=by
 have sg:az (G w O H) (G w O H'):=λa o h=>by
  obtain⟨h1,h2⟩:=hW h;rw[kc h2];exact k _ _ (λz=>h2 (Or.inl (z▸hb))) h1
 have e:cq w O H w O H':=⟨⟨⟨[],by simp⟩,⟨[],by simp⟩,⟨[],by simp⟩,sg⟩,rfl⟩;refine⟨⟨r.len,r.nd,λa ha=>(let ⟨o,h⟩:=r.al a ha;⟨o,k _ _ (λz=>r.nb b hb (z▸ha)) h⟩),r.nb,r.hn,λp hp=>⟨(r.nh p hp).1,(r.nh p hp).2.1,k _ _ (λz=>(r.nh p hp).2.1 (z▸hb)) (r.nh p hp).2.2.1,(r.nh p hp).2.2.2⟩,λa ha=>?_,λj c hk=>?_⟩,e,λa o h1 h2=>?_⟩
 .by_cases z:a=b
  .rw[z];exact hB
  .obtain⟨x,y,q⟩:=r.bg a ha;exact⟨x,y,k _ _ z q⟩
 .obtain⟨a,vs,h1,h2,h3⟩:=r.sS j c hk;exact⟨a,vs,h1,k _ _ (λz=>r.nb b hb (z▸Zu h1)) h2,h3.ex e.ex⟩
 .rw[kc (r.fresh h1)];exact h2
def aJ.bag (r:aJ K w O H){p:Addr}{x y:Int}(hp:H p=none):aJ K { w with eN:=w.eN++[p] } O (aF H p (.lst [.int x,.int y]))/\cq w O H { w with eN:=w.eN++[p] } O (aF H p (.lst [.int x,.int y])):=by
 have rf:∀a,lC { w with eN:=w.eN++[p] } O a->lC w O a\/a=p:=λa h=>by
  rcases h with h |h
  .rcases Zt.mp h with h |h
   .exact .inl (.inl h)
   .exact .inr (Z2.mp h)
  .exact .inl (.inr h)
 have sg:az (G w O H) (G { w with eN:=w.eN++[p] } O (aF H p (.lst [.int x,.int y]))):=λa o h=>by
  obtain⟨h1,h2⟩:=hW h;have bJ:a≠p:=λz=>by rw[z,hp] at h1;cases h1
  rw[kc (λz=>(rf a z).elim h2 bJ),dj bJ];exact h1
 have e:cq w O H { w with eN:=w.eN++[p] } O (aF H p (.lst [.int x,.int y])):=⟨⟨⟨[p],rfl⟩,⟨[],by simp⟩,⟨[],by simp⟩,sg⟩,rfl⟩;have PP:p∉w.eH:=λz=>by obtain⟨u,h⟩:=r.al p z;rw[hp] at h;cases h
 refine⟨⟨r.len,r.nd,λa ha=>?_,λa ha=>?_,r.hn,λq hq=>?_,λa ha=>?_,λk c hk=>?_⟩,e⟩
 .obtain⟨u,h⟩:=r.al a ha;have bJ:a≠p:=λz=>PP (z▸ha)
  exact⟨u,by rw[dj bJ];exact h⟩
 .rcases Zt.mp ha with h |h
  .exact r.nb a h
  .rw[Z2.mp h];exact PP
 .obtain⟨h1,h2,h3,h4⟩:=r.nh q hq;have bJ:q.1≠p:=λz=>by rw[z,hp] at h3;cases h3
  refine⟨h1,λz=>?_,by rw[dj bJ];exact h3,h4⟩;rcases Zt.mp z with h |h
  .exact h2 h
  .exact bJ (Z2.mp h)
 .rcases Zt.mp ha with h |h
  .exact(r.bg a h).new hp
  .rw[Z2.mp h];exact⟨x,y,cx⟩
 .obtain⟨a',vs,h1,h2,h3⟩:=r.sS k c hk;have bJ:a'≠p:=λz=>by rw[z,hp] at h2;cases h2
  exact⟨a',vs,h1,by rw[dj bJ];exact h2,h3.ex e.ex⟩
def aJ.new (r:aJ K w O H){p:Addr}{o:HO}(hp:H p=none):aJ K w O (aF H p o)/\cq w O H w O (aF H p o)/\G w O (aF H p o) p=some o:=by
 obtain⟨h1,h2,h3⟩:=r.aA ((az.refl H).new (o:=o) hp);exact⟨h1,h2,h3 p o hp cx⟩
def lC.set {k:Nat}{c c':List AV}{a:Addr}(hk:O[k]?=some (some c)):lC w (O.set k (some c')) a↔lC w O a:=by
 have hl:=(Zf.mp hk).1;unfold lC;constructor
 .rintro(h |h |⟨j,d,h1,h2⟩)
  .exact .inl h
  .exact .inr (.inl h)
  .by_cases e:k=j
   .subst e;exact .inr (.inr ⟨k,c,h1,hk⟩)
   .rw[Yr e] at h2;exact .inr (.inr ⟨j,d,h1,h2⟩)
 .rintro(h |h |⟨j,d,h1,h2⟩)
  .exact .inl h
  .exact .inr (.inl h)
  .by_cases e:k=j
   .subst e;exact .inr (.inr ⟨k,c',h1,Yu hl⟩)
   .exact .inr (.inr ⟨j,d,h1,by rw[Yr e];exact h2⟩)
def aJ.put (r:aJ K w O H){k:Nat}{c c':List AV}{a:Addr}{vs Ox:List V}(hk:O[k]?=some (some c))(ha:w.eH[k]?=some a)(hv:H a=some (.lst vs))(hc:bU K w (G w O H) Ox c') :
  aJ K w (O.set k (some c')) (aF H a (.lst Ox))/\cq w O H w (O.set k (some c')) (aF H a (.lst Ox)):=by
 have hl:=(Zf.mp hk).1;have L':lC w O a:=.inr (.inr ⟨k,c,ha,hk⟩);have sg:az (G w O H) (G w (O.set k (some c')) (aF H a (.lst Ox))):=λx o h=>by
  obtain⟨h1,h2⟩:=hW h;have bJ:x≠a:=λz=>h2 (z▸L')
  rw[kc (λz=>h2 ((lC.set hk).mp z)),dj bJ];exact h1
 have e:cq w O H w (O.set k (some c')) (aF H a (.lst Ox)):=⟨⟨⟨[],by simp⟩,⟨[],by simp⟩,⟨[],by simp⟩,sg⟩,rfl⟩;refine⟨⟨by rw[Xx];exact r.len,r.nd,λx hx=>?_,r.nb,r.hn,λp hp=>?_,λb hb=>?_,λj d hj=>?_⟩,e⟩
 .obtain⟨o,h⟩:=r.al x hx;by_cases z:x=a
  .subst z;exact⟨_,cx⟩
  .exact⟨o,by rw[dj z];exact h⟩
 .obtain⟨h1,h2,h3,h4⟩:=r.nh p hp;have bJ:p.1≠a:=λz=>h1 (z▸Zu ha)
  exact⟨h1,h2,by rw[dj bJ];exact h3,h4⟩
 .exact(r.bg b hb).acc (λz=>r.nb b hb (z▸Zu ha))
 .by_cases ej:k=j
  .subst ej;rw[Yu hl] at hj;have hd:c'=d:=by injection (Option.some.inj hj)
   subst hd;exact⟨a,Ox,ha,cx,hc.ex e.ex⟩
  .rw[Yr ej] at hj;obtain⟨a',us,h1,h2,h3⟩:=r.sS j d hj;have bJ:a'≠a:=λz=>by
    subst z;exact ej ((List.getElem?_inj (Zf.mp ha).1 r.nd).mp (ha.trans h1.symm))
   exact⟨a',us,h1,by rw[dj bJ];exact h2,h3.ex e.ex⟩
def aJ.own (r:aJ K w O H){p:Addr}{c:List AV}{vs:List V}(hp:H p=none)(hc:bU K w (G w O H) vs c) :
  aJ K { w with eH:=w.eH++[p] } (O++[some c]) (aF H p (.lst vs))/\cq w O H { w with eH:=w.eH++[p] } (O++[some c]) (aF H p (.lst vs))/\({ w with eH:=w.eH++[p] }:Wd).eH[O.length]?=some p:=by
 have rf:∀x,lC { w with eH:=w.eH++[p] } (O++[some c]) x->lC w O x\/x=p:=λx h=>by
  rcases h with h |h |⟨j,d,h1,h2⟩
  .exact .inl (.inl h)
  .exact .inl (.inr (.inl h))
  .change (w.eH++[p])[j]?=some x at h1
   rcases Yg j O.length with y |y
   .rw[Z4 y] at h2;rw[Z4 (by rw[r.len];exact y)] at h1;exact .inl (.inr (.inr ⟨j,d,h1,h2⟩))
   .have hj:=(Zf.mp h1).1;rw[Z5,r.len] at hj;have:j=O.length:=by simp at hj;omega
    subst this;rw[Yv (by rw[r.len];exact Ze _),r.len,Nat.sub_self] at h1;exact .inr (by simpa using h1.symm)
 have sg:az (G w O H) (G { w with eH:=w.eH++[p] } (O++[some c]) (aF H p (.lst vs))):=λx o h=>by
  obtain⟨h1,h2⟩:=hW h;have bJ:x≠p:=λz=>by rw[z,hp] at h1;cases h1
  rw[kc (λz=>(rf x z).elim h2 bJ),dj bJ];exact h1
 have e:cq w O H { w with eH:=w.eH++[p] } (O++[some c]) (aF H p (.lst vs)):=⟨⟨⟨[],by simp⟩,⟨[p],rfl⟩,⟨[],by simp⟩,sg⟩,rfl⟩;have UE:(w.eH++[p])[O.length]?=some p:=by rw[<- r.len];simp
 have Fs:p∉w.eH:=λz=>by obtain⟨o,h⟩:=r.al p z;rw[hp] at h;cases h
 refine⟨⟨by simp[r.len],?_,λx hx=>?_,λb hb=>?_,r.hn,λq hq=>?_,λb hb=>(r.bg b hb).new hp,λj d hj=>?_⟩,e,UE⟩
 .show(w.eH++[p]).Nodup;rw[Qv];exact⟨r.nd,by simp,λa ha b l5 e=>by rw[Z2] at l5;rw[e,l5] at ha;exact Fs ha⟩
 .rcases Zt.mp hx with y |y
  .obtain⟨o,h⟩:=r.al x y;have bJ:x≠p:=λz=>by rw[z,hp] at h;cases h
   exact⟨o,by rw[dj bJ];exact h⟩
  .rw[Z2.mp y];exact⟨_,cx⟩
 .intro z;rcases Zt.mp z with y |y
  .exact r.nb b hb y
  .exact(r.bg b hb).ne hp (Z2.mp y)
 .obtain⟨h1,h2,h3,h4⟩:=r.nh q hq;have bJ:q.1≠p:=λz=>by rw[z,hp] at h3;cases h3
  refine⟨λz=>?_,h2,by rw[dj bJ];exact h3,h4⟩;rcases Zt.mp z with y |y
  .exact h1 y
  .exact bJ (Z2.mp y)
 .rcases Yg j O.length with y |y
  .rw[Z4 y] at hj;obtain⟨a',us,h1,h2,h3⟩:=r.sS j d hj;have bJ:a'≠p:=λz=>by rw[z,hp] at h2;cases h2
   exact⟨a',us,e.ex.at h1,by rw[dj bJ];exact h2,h3.ex e.ex⟩
  .have sZ:=(Zf.mp hj).1;rw[Z5] at sZ;have:j=O.length:=by simp at sZ;omega
   subst this;rw[Yv (Ze _),Nat.sub_self] at hj;have hd:c=d:=by injection (Option.some.inj hj)
   subst hd;exact⟨p,vs,UE,cx,hc.ex e.ex⟩
def aJ.hide (r:aJ K w O H){a:Addr}{o:HO}(ha:H a=none)(ho:∀xs,o≠.tup xs):aJ K { w with c7:=(a,o)::w.c7 } O (aF H a o)/\lz w O H { w with c7:=(a,o)::w.c7 } O (aF H a o):=by
 have rf:∀x,lC { w with c7:=(a,o)::w.c7 } O x->lC w O x\/x=a:=λx h=>by
  rcases h with h |⟨u,h⟩ |h
  .exact .inl (.inl h)
  .rcases Zl.mp h with e |e
   .exact .inr (by injection e)
   .exact .inl (.inr (.inl ⟨u,e⟩))
  .exact .inl (.inr (.inr h))
 have sg:az (G w O H) (G { w with c7:=(a,o)::w.c7 } O (aF H a o)):=λx u h=>by
  obtain⟨h1,h2⟩:=hW h;have bJ:x≠a:=λz=>by rw[z,ha] at h1;cases h1
  rw[kc (λz=>(rf x z).elim h2 bJ),dj bJ];exact h1
 have e:lz w O H { w with c7:=(a,o)::w.c7 } O (aF H a o):=⟨⟨[],by simp⟩,⟨[],by simp⟩,⟨[(a,o)],rfl⟩,sg⟩;have PP:a∉w.eH:=λz=>by obtain⟨u,h⟩:=r.al a z;rw[ha] at h;cases h
 refine⟨⟨r.len,r.nd,λx hx=>?_,r.nb,?_,λp hp=>?_,λb hb=>(r.bg b hb).new ha,λk c hk=>?_⟩,e⟩
 .obtain⟨u,h⟩:=r.al x hx;have bJ:x≠a:=λz=>PP (z▸hx)
  exact⟨u,by rw[dj bJ];exact h⟩
 .show(a::w.c7.map (·.1)).Nodup;rw[Yl];refine⟨λz=>?_,r.hn⟩;obtain⟨p,hp,e⟩:=Zd.mp z;have:=(r.nh p hp).2.2.1;rw[e,ha] at this;cases this
 .rcases Zl.mp hp with e |e
  .subst e;exact⟨PP,λhb=>(r.bg a hb).ne ha rfl,cx,ho⟩
  .obtain⟨h1,h2,h3,h4⟩:=r.nh p e;have bJ:p.1≠a:=λz=>by rw[z,ha] at h3;cases h3
   exact⟨h1,h2,by rw[dj bJ];exact h3,h4⟩
 .obtain⟨a',vs,h1,h2,h3⟩:=r.sS k c hk;have bJ:a'≠a:=λz=>by rw[z,ha] at h2;cases h2
  exact⟨a',vs,h1,by rw[dj bJ];exact h2,h3.ex e⟩
def lC.eq {a:Addr}{o o':HO}{h0:List (Addr×HO)}(hh:w.c7=(a,o)::h0){x:Addr}:lC { w with c7:=(a,o')::h0 } O x↔lC w O x:=by
 unfold lC;rw[hh];constructor
 .rintro(h |⟨u,h⟩ |h)
  .exact .inl h
  .rcases Zl.mp h with e |e
   .have ea:x=a:=by injection e
    subst ea;exact .inr (.inl ⟨o,Zm⟩)
   .exact .inr (.inl ⟨u,Zq _ e⟩)
  .exact .inr (.inr h)
 .rintro(h |⟨u,h⟩ |h)
  .exact .inl h
  .rcases Zl.mp h with e |e
   .have ea:x=a:=by injection e
    subst ea;exact .inr (.inl ⟨o',Zm⟩)
   .exact .inr (.inl ⟨u,Zq _ e⟩)
  .exact .inr (.inr h)
def aJ.C4 (r:aJ K w O H){a:Addr}{o o':HO}{h0:List (Addr×HO)}(hh:w.c7=(a,o)::h0)(ho:∀xs,o'≠.tup xs):aJ K { w with c7:=(a,o')::h0 } O (aF H a o')/\az (G w O H) (G { w with c7:=(a,o')::h0 } O (aF H a o')):=by
 obtain⟨n1,n2,n3,n4⟩:=r.nh (a,o) (by rw[hh];exact Zm);have Fs:=r.hn;rw[hh,Zs,Yl] at Fs;have sg:az (G w O H) (G { w with c7:=(a,o')::h0 } O (aF H a o')):=λx u h=>by
  obtain⟨h1,h2⟩:=hW h;have bJ:x≠a:=λz=>h2 (.inr (.inl ⟨o,by rw[hh,z];exact Zm⟩))
  rw[kc (λz=>h2 ((lC.eq hh).mp z)),dj bJ];exact h1
 refine⟨⟨r.len,r.nd,λx hx=>?_,r.nb,?_,λp hp=>?_,λb hb=>(r.bg b hb).acc (λz=>n2 (z▸hb)),λk c hk=>?_⟩,sg⟩
 .obtain⟨u,h⟩:=r.al x hx;have bJ:x≠a:=λz=>n1 (z▸hx)
  exact⟨u,by rw[dj bJ];exact h⟩
 .show(a::h0.map (·.1)).Nodup;rw[Yl];exact Fs
 .rcases Zl.mp hp with e |e
  .subst e;exact⟨n1,n2,cx,ho⟩
  .obtain⟨h1,h2,h3,h4⟩:=r.nh p (by rw[hh];exact Zq _ e);have bJ:p.1≠a:=λz=>Fs.1 (Zd.mpr ⟨p,e,z⟩)
   exact⟨h1,h2,by rw[dj bJ];exact h3,h4⟩
 .obtain⟨a',vs,h1,h2,h3⟩:=r.sS k c hk;have bJ:a'≠a:=λz=>n1 (z▸Zu h1)
  refine⟨a',vs,h1,by rw[dj bJ];exact h2,h3.1,λi v x e1 e2=>?_⟩;have:=h3.2 i v x e1 e2;cases x with
  |im d=>exact cV.aA sg this
  |own j=>exact this
  |bag j=>exact this
  |xC ns=>obtain⟨p,q1,q2⟩:=this;exact⟨p,q1,KG.bi.aA q2 sg⟩
theorem j8.tN {w w':Wd}{g g':Hp}(hb:w'.eN=w.eN)(ha:w'.eH=w.eH)(s:az g g'){v:V}:∀{x:AV},j8 K w g v x->j8 K w' g' v x
 |.im d,h=>cV.aA s h
 |.own k,h=>by obtain⟨a,h1,h2⟩:=h;exact⟨a,by rw[ha];exact h1,h2⟩
 |.bag j,h=>by obtain⟨a,h1,h2⟩:=h;exact⟨a,by rw[hb];exact h1,h2⟩
 |.xC ns,h=>by obtain⟨p,q1,q2⟩:=h;exact⟨p,q1,KG.bi.aA q2 s⟩
def aJ.CM (r:aJ K w O H){a:Addr}{o:HO}{h0:List (Addr×HO)}(hh:w.c7=(a,o)::h0):aJ K { w with c7:=h0 } O H/\az (G w O H) (G { w with c7:=h0 } O H)/\G { w with c7:=h0 } O H a=some o:=by
 obtain⟨n1,n2,n3,n4⟩:=r.nh (a,o) (by rw[hh];exact Zm);have Fs:=r.hn;rw[hh,Zs,Yl] at Fs;have rf:∀x,lC { w with c7:=h0 } O x->lC w O x:=λx h=>by
  rcases h with h |⟨u,h⟩ |h
  .exact .inl h
  .exact .inr (.inl ⟨u,by rw[hh];exact Zq _ h⟩)
  .exact .inr (.inr h)
 have sg:az (G w O H) (G { w with c7:=h0 } O H):=λx u h=>by
  obtain⟨h1,h2⟩:=hW h;rw[kc (λz=>h2 (rf x z))];exact h1
 refine⟨⟨r.len,r.nd,r.al,r.nb,Fs.2,λp hp=>r.nh p (by rw[hh];exact Zq _ hp),r.bg,λk c hk=>?_⟩,sg,?_⟩
 .obtain⟨a',vs,h1,h2,h3⟩:=r.sS k c hk;exact⟨a',vs,h1,h2,h3.1,λi v x e1 e2=>j8.tN rfl rfl sg (h3.2 i v x e1 e2)⟩
 .rw[kc]
  .exact n3
  .rintro(h1 |⟨u,h⟩ |⟨j,d,h1,h2⟩)
   .exact n2 h1
   .exact Fs.1 (Zd.mpr ⟨_,h,rfl⟩)
   .exact n1 (Zu h1)
def aJ.lD (r:aJ K w O H):∀a xs,H a=some (.tup xs)->G w O H a=some (.tup xs):=by
 intro a xs h;rw[kc]
 .exact h
 .rintro(h1 |⟨o,h1⟩ |⟨j,d,h1,h2⟩)
  .obtain⟨c,d,e⟩:=r.bg _ h1;rw[h] at e;cases e
  .obtain⟨_,_,h3,h4⟩:=r.nh _ h1;rw[h] at h3;exact h4 xs (Option.some.inj h3).symm
  .obtain⟨a',vs,e1,e2,_⟩:=r.sS j d h2;rw[h1] at e1;cases Option.some.inj e1;rw[h] at e2;cases e2
end
section
variable {K:Θ1}{QX:Addr->aU->Prop}{E:XK}{X:Cx}{w:Wd}{O:aU}{H:Hp}
def PE.imp {e:Expr}{t t':TE}(h:PE X e t)(i:∀σ H Q,t' σ H Q->t σ H Q):PE X e t':=λaa s σ H Q I q=>h aa s σ H Q I (i σ H Q q)
def PT.imp {e:Expr}{t t':TT}(h:PT X e t)(i:∀σ H Q,t' σ H Q->t σ H Q):PT X e t':=λaa s σ H Q I q=>h aa s σ H Q I (i σ H Q q)
def PW.imp {e:Expr}{t t':TT}(h:PW X e t)(i:∀σ H Q,t' σ H Q->t σ H Q):PW X e t':=λwh aa s σ H Q I q=>h wh aa s σ H Q I (i σ H Q q)
def PA.imp {es:Ξ2}{t t':TA}(h:PA X es t)(i:∀σ H Q,t' σ H Q->t σ H Q):PA X es t':=λp aa s σ H Q I q=>h p aa s σ H Q I (i σ H Q q)
def PS.imp {st:Stmt}{t t':TS}(h:PS X st t)(i:∀D σ H,t' D σ H->t D σ H):PS X st t':=λaa s σ H D I q=>h aa s σ H D I (i D σ H q)
def jO.imp {st:List Stmt}{t t':TS}(h:jO X st t)(i:∀D σ H,t' D σ H->t D σ H):jO X st t':=λaa s σ H D I q=>h aa s σ H D I (i D σ H q)
def eU {v:V}{ds:Ξ1}(h:cV (G w O H) v (.tuple ds)):∃a xs,v=.ref a/\H a=some (.tup xs)/\aQ (G w O H) xs ds:=by
 cases h with |tup h1 h2=>exact⟨_,_,rfl,(hW h1).1,h2⟩
def fK {v:V}{ds:Ξ1}(h:cV (G w O H) v (.list ds)):∃a xs,v=.ref a/\H a=some (.lst xs)/\aQ (G w O H) xs ds:=by
 cases h with |lst h1 h2=>exact⟨_,_,rfl,(hW h1).1,h2⟩
def j6 {g:Hp}{v:V}{i:Int}(h:cV g v (.int i)):v=.int i:=by cases h;rfl
def Cb {g:Hp}{v:V}{i:Bool}(h:cV g v (.bool i)):v=.bl i:=by cases h;rfl
def yb {g:Hp}{v:V}(h:cV g v .none):v=.bZ:=by cases h;rfl
theorem kl {g:Hp}:∀{ns:Γ3}{vs:List V},aQ g vs (ns.map .int)->vs=ns.map V.int
 |[],_,h=>by cases h;rfl
 |n::ns,_,h=>by
  cases h with |cons h1 h2=>rw[j6 h1,kl h2];rfl
theorem Kc {g:Hp}:∀{ns:List Bool}{vs:List V},aQ g vs (ns.map .bool)->vs=ns.map V.bl
 |[],_,h=>by cases h;rfl
 |n::ns,_,h=>by
  cases h with |cons h1 h2=>rw[Cb h1,Kc h2];rfl
theorem L1 {g:Hp}:∀(ns:Γ3),aQ g (ns.map V.int) (ns.map .int)
 |[]=>.nil
 |n::ns=>.cons (.int n) (L1 ns)
def fX (r:aJ K w O H){p:Addr}{xs:List V}{ds:Ξ1}(hp:H p=none)(h:aQ (G w O H) xs ds) :
  aJ K w O (aF H p (.tup xs))/\cq w O H w O (aF H p (.tup xs))/\cV (G w O (aF H p (.tup xs))) (.ref p) (.tuple ds):=by
 obtain⟨r1,e1,g1⟩:=r.new (o:=.tup xs) hp;exact⟨r1,e1,.tup g1 (aQ.aA e1.ex.aA h)⟩
def kL (r:aJ K w O H){p:Addr}{xs:List V}{ds:Ξ1}(hp:H p=none)(h:aQ (G w O H) xs ds) :
  aJ K w O (aF H p (.lst xs))/\cq w O H w O (aF H p (.lst xs))/\cV (G w O (aF H p (.lst xs))) (.ref p) (.list ds):=by
 obtain⟨r1,e1,g1⟩:=r.new (o:=.lst xs) hp;exact⟨r1,e1,.lst g1 (aQ.aA e1.ex.aA h)⟩
def gU (r:aJ K w O H){p:Addr}{xs:List V}{ds:Ξ1}{H':Hp}(s:az H H')(hp:H' p=some (.tup xs))(h:aQ (G w O H) xs ds) :
  aJ K w O H'/\cq w O H w O H'/\cV (G w O H') (.ref p) (.tuple ds):=by
 obtain⟨r1,e1,g1⟩:=r.aA s;exact⟨r1,e1,.tup (r1.lD _ _ hp) (aQ.aA e1.ex.aA h)⟩
def af (i:Nat):ME:=λsl O Q=>match sl[i]? with
 |some (some x)=>Q x O
 |_=>False
def NY {i:Nat}{e:Expr}(h:PE X e (vU i)):PE X e (cy K QX E (af i)):=PE.imp h λσ H Q ⟨w,O,sl,Q0,c,m,q⟩=>by
 unfold af at m;split at m
 .rename_i x hx;obtain⟨v,h1,h2⟩:=c.so.2 i x hx;exact⟨v,h1,q x O v w H m (cq.refl _ _ _) c.ro h2⟩
 .exact m.elim
def mC (d:PyData):ME:=λ_ O Q=>Q (.im d) O
def LP {v:V}{d:PyData}{e:Expr}(h:PE X e (tC v))(hv:∀g,cV g v d):PE X e (cy K QX E (mC d)):=PE.imp h λσ H Q ⟨w,O,sl,Q0,c,m,q⟩=>q _ O v w H m (cq.refl _ _ _) c.ro (hv _)
def cb {i j pos}:PE X (.Constant (.int i) j pos) (cy K QX E (mC (.int i))):=LP aZ λ_=>.int _
def xX {i j pos}:PE X (.Constant (.bool i) j pos) (cy K QX E (mC (.bool i))):=LP tQ λ_=>.bl _
def ii {j pos}:PE X (.Constant .none j pos) (cy K QX E (mC .none)):=LP Nq λ_=>.bZ
def ai:MA:=λ_ O Q=>Q [] O
def ae (Me:ME)(Ms:MA):MA:=λsl O Q=>Me sl O λx O1=>Ms sl O1 λxs O2=>Q (x::xs) O2
def aC:PA X [] (u5 K QX E ai):=PA.imp bu λσ H Q ⟨w,O,sl,Q0,c,m,q⟩=>q [] O [] w H m (cq.refl _ _ _) c.ro bU.nil
def ar {e:Expr}{es:Ξ2}{Me:ME}{Ms:MA}(he:PE X e (cy K QX E Me))(hr:PA X es (u5 K QX E Ms))(hs:starEach (e::es) X.env=(false,eval e X.env)::starEach es X.env:=by rfl):PA X (e::es) (u5 K QX E (ae Me Ms)) :=
 PA.imp (aI he hr hs) λσ H Q ⟨w,O,sl,Q0,c,m,q⟩=>⟨w,O,sl,_,c,m,λx O1 v w1 H1 h1 e1 r1 a1=>⟨w1,O1,sl,_,c.ex e1.ex r1,h1,λxs O2 vs w2 H2 h2 e2 r2 a2=>q _ O2 _ w2 H2 h2 (e1.trans e2) r2 (bU.cons (a1.ex e2.ex) a2)⟩⟩
def P6:List AV->Option (Ξ1)
 |[]=>some []
 |.im d::xs=>match P6 xs with
  |some ds=>some (d::ds)
  |none=>none
 |_::_=>none
theorem wC:∀{xs:List AV}{ds:Ξ1},P6 xs=some ds->xs=ds.map .im
 |[],_,h=>by cases h;rfl
 |.im d::xs,ds,h=>by
  unfold P6 at h;split at h
  .rename_i es he;cases h;rw[wC he];rfl
  .cases h
 |.own _::_,_,h=>by cases h
 |.bag _::_,_,h=>by cases h
 |.xC _::_,_,h=>by cases h
def fZ (Ms:MA):ME:=λsl O Q=>Ms sl O λxs O1=>match P6 xs with
 |some ds=>ds.length<=sizeLine/\Q (.im (.tuple ds)) O1
 |none=>False
def lF (Ms:MA):ME:=λsl O Q=>Ms sl O λxs O1=>match P6 xs with
 |some ds=>ds.length<=sizeLine/\Q (.im (.list ds)) O1
 |none=>False
def nz (Ms:MA):ME:=λsl O Q=>Ms sl O λxs O1=>xs.length<=sizeLine/\Q (.own O1.length) (O1++[some xs])
def pN {es:Ξ2}{Ms:MA}{x1}{pos:Pos}(h:PA X es (u5 K QX E Ms)):PE X (.Tuple es x1 pos) (cy K QX E (fZ Ms)):=PE.imp (xD h) λσ H Q ⟨w,O,sl,Q0,c,m,q⟩=>⟨w,O,sl,_,c,m,λxs O1 vs w1 H1 h1 e1 r1 a1=>by
 split at h1
 .rename_i ds hd;have hx:=wC hd;subst hx;refine⟨by rw[a1.1,Za];exact h1.1,λp hp=>?_⟩;obtain⟨r2,e2,t2⟩:=fX r1 hp (bU.tr a1);exact q _ O1 _ w1 _ h1.2 (e1.trans e2) r2 t2
 .exact h1.elim⟩
def eR {es:Ξ2}{Ms:MA}{pos:Pos}(h:PA X es (u5 K QX E Ms)):PE X (.List es pos) (cy K QX E (lF Ms)):=PE.imp (ia h) λσ H Q ⟨w,O,sl,Q0,c,m,q⟩=>⟨w,O,sl,_,c,m,λxs O1 vs w1 H1 h1 e1 r1 a1=>by
 split at h1
 .rename_i ds hd;have hx:=wC hd;subst hx;refine⟨by rw[a1.1,Za];exact h1.1,λp hp=>?_⟩;obtain⟨r2,e2,t2⟩:=kL r1 hp (bU.tr a1);exact q _ O1 _ w1 _ h1.2 (e1.trans e2) r2 t2
 .exact h1.elim⟩
def gv {es:Ξ2}{Ms:MA}{pos:Pos}(h:PA X es (u5 K QX E Ms)):PE X (.List es pos) (cy K QX E (nz Ms)):=PE.imp (ia h) λσ H Q ⟨w,O,sl,Q0,c,m,q⟩=>⟨w,O,sl,_,c,m,λxs O1 vs w1 H1 h1 e1 r1 a1=>by
 refine⟨by rw[a1.1];exact h1.1,λp hp=>?_⟩;obtain⟨r2,e2,t2⟩:=r1.own hp a1;exact q _ _ _ _ _ h1.2 (e1.trans e2) r2 ⟨p,t2,rfl⟩⟩
abbrev o7:=aU->AV->AV->(AV->aU->Prop)->Prop
abbrev vQ:=aU->List AV->(AV->aU->Prop)->Prop
def tE (K:Θ1)(r:R2)(f:o7):Prop:=∀(w:Wd) (O:aU) (H:Hp) (v u:V) (x y:AV) (P:AV->aU->Prop) (Q:VK),aJ K w O H->j8 K w (G w O H) v x->j8 K w (G w O H) u y->f O x y P ->
 (∀z q O' w' H',P q O'->cq w O H w' O' H'->aJ K w' O' H'->j8 K w' (G w' O' H') z q->Q z H')->r v u H Q
def Ad (K:Θ1)(r:List V->Hp->VK->Prop)(f:vQ):Prop:=∀(w:Wd) (O:aU) (H:Hp) (vs:List V) (xs:List AV) (P:AV->aU->Prop) (Q:VK),aJ K w O H->bU K w (G w O H) vs xs->f O xs P ->
 (∀z q O' w' H',P q O'->cq w O H w' O' H'->aJ K w' O' H'->j8 K w' (G w' O' H') z q->Q z H')->r vs H Q
def aR (f:o7)(Ma Mb:ME):ME:=λsl O Q=>Ma sl O λx O1=>Mb sl O1 λy O2=>f O2 x y Q
def eG (f:vQ)(Ms:MA):ME:=λsl O Q=>Ms sl O λxs O1=>f O1 xs Q
def xZ {r:R2}{f:o7}{Ma Mb:ME}(lk:tE K r f):∀σ H Q,cy K QX E (aR f Ma Mb) σ H Q->Kn r (cy K QX E Ma) (cy K QX E Mb) σ H Q :=
 λσ H Q ⟨w,O,sl,Q0,c,m,q⟩=>⟨w,O,sl,_,c,m,λx O1 v w1 H1 h1 e1 r1 a1=>⟨w1,O1,sl,_,c.ex e1.ex r1,h1,λy O2 u w2 H2 h2 e2 r2 a2 =>
  lk w2 O2 H2 v u x y _ Q r2 (a1.ex e2.ex) a2 h2 λz z' O3 w3 H3 h3 e3 r3 a3=>q _ O3 z w3 H3 h3 ((e1.trans e2).trans e3) r3 a3⟩⟩
def pX {op:Operator}{r:R2}{f:o7}{Ma Mb:ME}{a b:Expr}{pos:Pos}(ho:eY X (binaryOp op) r)(lk:tE K r f)(ha:PE X a (cy K QX E Ma))(hb:PE X b (cy K QX E Mb)):PE X (.BinOp a op b pos) (cy K QX E (aR f Ma Mb)):=PE.imp (cB ho ha hb) (xZ lk)
def TB {r:R2}{f:o7}{Ma Mb:ME}{a b:Expr}{pos:Pos}(ho:Af X r)(lk:tE K r f)(ha:PE X a (cy K QX E Ma))(hb:PE X b (cy K QX E Mb))(hs:ss b:=by exact λ_ _=>rfl):PE X (.Subscript a b pos) (cy K QX E (aR f Ma Mb)):=PE.imp (dJ ho ha hb hs) (xZ lk)
def lL {op:CmpOp}{r:R2}{f:o7}{Ma Mb:ME}{a b:Expr}{pos:Pos}(ho:eY X (compareOp op) r)(lk:tE K r f)(ha:PE X a (cy K QX E Ma))(hb:PE X b (cy K QX E Mb))(hm:behindInMarks op b=false):PE X (.Compare a [op] [b] pos) (cy K QX E (aR f Ma Mb)):=PE.imp (BO ho ha hb hm) (xZ lk)
def ju {x:Str}{id:String}{e:Expr}{es:Ξ2}{p pos:Pos}{r:List V->Hp->VK->Prop}{f:vQ}{Ms:MA}(hc:ck X (.builtin id) r)(lk:Ad K r f)(hg:Gl X x)(hm:X.mg x=none)(hv:bootBuiltins x=some (.builtin id))(ha:PA X (e::es) (u5 K QX E Ms))(hn:x ≠ "__name__":=by decide)(tf:(x == ("__debug__" : Str))=false:=by decide)
  (he:starEach (e::es) X.env=(false,eval e X.env)::starEach es X.env:=by rfl) (kA:(backTo pos (starEach es X.env)).any (·.1)=false:=by rfl):PE X (.Call (.Name x p) (e::es) [] pos) (cy K QX E (eG f Ms)) :=
 PE.imp (sO hc hg hm hv ha hn tf he kA) λσ H Q ⟨w,O,sl,Q0,c,m,q⟩=>⟨w,O,sl,_,c,m,λxs O1 vs w1 H1 h1 e1 r1 a1=>lk w1 O1 H1 vs xs _ Q r1 a1 h1 λz z' O3 w3 H3 h3 e3 r3 a3=>q _ O3 z w3 H3 h3 (e1.trans e3) r3 a3⟩
def vc {x:Str}{T:String}{e:Expr}{es:Ξ2}{p pos:Pos}{r:List V->Hp->VK->Prop}{f:vQ}{Ms:MA}(hc:ck X (.type T) r)(lk:Ad K r f)(hg:Gl X x)(hm:X.mg x=none)(hv:bootBuiltins x=some (.type T))(ha:PA X (e::es) (u5 K QX E Ms))(hn:x ≠ "__name__":=by decide)(tf:(x == ("__debug__" : Str))=false:=by decide)
  (he:starEach (e::es) X.env=(false,eval e X.env)::starEach es X.env:=by rfl) (kA:(backTo pos (starEach es X.env)).any (·.1)=false:=by rfl):PE X (.Call (.Name x p) (e::es) [] pos) (cy K QX E (eG f Ms)) :=
 PE.imp (zP hc hg hm hv ha hn tf he kA) λσ H Q ⟨w,O,sl,Q0,c,m,q⟩=>⟨w,O,sl,_,c,m,λxs O1 vs w1 H1 h1 e1 r1 a1=>lk w1 O1 H1 vs xs _ Q r1 a1 h1 λz z' O3 w3 H3 h3 e3 r3 a3=>q _ O3 z w3 H3 h3 (e1.trans e3) r3 a3⟩
def cw (M:ME):MT:=λsl O Q=>M sl O λx O1=>match x with
 |.im (.bool c)=>Q c O1
 |_=>False
def uu {t:TE}{M:ME}(h:∀σ H Q,cy K QX E M σ H Q->t σ H Q):∀σ H Q,lx K QX E (cw M) σ H Q->Jn t σ H Q:=λσ H Q ⟨w,O,sl,Q0,c,m,q⟩=>h σ H _ ⟨w,O,sl,_,c,m,λx O1 v w1 H1 h1 e1 r1 a1=>by
 split at h1
 .exact⟨_,Cb a1,q _ O1 w1 H1 h1 e1 r1⟩
 .exact h1.elim⟩
def ly {op:CmpOp}{r:R2}{f:o7}{Ma Mb:ME}{a b:Expr}{pos:Pos}(ho:eY X (compareOp op) r)(lk:tE K r f)(ha:PE X a (cy K QX E Ma))(hb:PE X b (cy K QX E Mb))(hm:behindInMarks op b=false):PT X (.Compare a [op] [b] pos) (lx K QX E (cw (aR f Ma Mb))):=PT.imp (pQ ho ha hb hm) (uu (xZ lk))
def ib {e:Expr}{M:ME}(h:PE X e (cy K QX E M))(he:∀gG,isTrue e X.env gG=(do let v <- gG;standAt e.pos;holding [v] (truthy v)):=by intro _;rfl):PT X e (lx K QX E (cw M)):=PT.imp (gj h he) (uu λ_ _ _ z=>z)
def YF:PyData->Bool
 |.none=>false
 |.bool b=>b
 |.int i=>i != 0
 |.str s=>(s.length:Int) != 0
 |.list xs=>!xs.isEmpty
 |.tuple xs=>!xs.isEmpty
 |.dict xs=>!xs.isEmpty
def SM:PyData->Bool
 |.str _=>false
 |_=>true
def Al (M:ME):MT:=λsl O Q=>M sl O λx O1=>match x with
 |.im d=>SM d=true/\Q (YF d) O1
 |_=>False
def me {α β : Type}{xs:List α}{ys:List β}(h:xs.length=ys.length):(!xs.isEmpty)=!ys.isEmpty:=by
 cases xs<;>cases ys<;>simp_all
def nZ {e:Expr}{M:ME}(h:PE X e (cy K QX E M))(he:∀gG,isTrue e X.env gG=(do let v <- gG;standAt e.pos;holding [v] (truthy v)):=by intro _;rfl):PT X e (lx K QX E (Al M)):=PT.imp (uj h he) λσ H Q ⟨w,O,sl,Q0,c,m,q⟩=>⟨w,O,sl,_,c,m,λx O1 v w1 H1 h1 e1 r1 a1=>by
 cases x with
 |im d =>
  cases d with
  |none=>exact⟨false,by rw[yb a1];rfl,q _ O1 w1 H1 h1.2 e1 r1⟩
  |bool b=>exact⟨b,by rw[Cb a1];rfl,q _ O1 w1 H1 h1.2 e1 r1⟩
  |int i=>exact⟨i != 0,by rw[j6 a1];rfl,q _ O1 w1 H1 h1.2 e1 r1⟩
  |str i=>cases h1.1
  |list xs =>
   obtain⟨a,us,rfl,h3,h4⟩:=fK a1;exact⟨!xs.isEmpty,.inl ⟨us,bi.of h3,me h4.len.symm⟩,q _ O1 w1 H1 h1.2 e1 r1⟩
  |tuple xs =>
   obtain⟨a,us,rfl,h3,h4⟩:=eU a1;exact⟨!xs.isEmpty,.inr (.inl ⟨us,aM.of h3,me h4.len.symm⟩),q _ O1 w1 H1 h1.2 e1 r1⟩
  |dict xs=>cases a1
 |own k=>exact h1.elim
 |bag j=>exact h1.elim
 |xC ns=>exact h1.elim⟩
def Ga (M:MT):MT:=λsl O Q=>M sl O λc O1=>Q (!c) O1
def wv {a:Expr}{M:MT}{pos:Pos}(h:PT X a (lx K QX E M)):PT X (.UnaryOp .Not a pos) (lx K QX E (Ga M)):=PT.imp (i9 h) λσ H Q ⟨w,O,sl,Q0,c,m,q⟩=>⟨w,O,sl,_,c,m,λx O1 w1 H1 h1 e1 r1=>q _ O1 w1 H1 h1 e1 r1⟩
def pY (M N:MT):MT:=λsl O Q=>M sl O λc O1=>(c=true->N sl O1 Q)/\(c=false->Q false O1)
def LR (M N:MT):MT:=λsl O Q=>M sl O λc O1=>(c=true->Q true O1)/\(c=false->N sl O1 Q)
def kM {a:Expr}{M:MT}{pos:Pos}(h:PT X a (lx K QX E M)):PW X (.BoolOp .And [a] pos) (lx K QX E M):=pw_and1 h
def Dj {a:Expr}{M:MT}{pos:Pos}(h:PT X a (lx K QX E M)):PW X (.BoolOp .Or [a] pos) (lx K QX E M):=pw_or1 h
def nY {a b:Expr}{iQ:Ξ2}{M N:MT}{pos:Pos}(ha:PT X a (lx K QX E M))(hb:PW X (.BoolOp .And (b::iQ) pos) (lx K QX E N)):PW X (.BoolOp .And (a::b::iQ) pos) (lx K QX E (pY M N)):=PW.imp (pw_and ha hb) λσ H Q ⟨w,O,sl,Q0,c,m,q⟩=>⟨w,O,sl,_,c,m,λx O1 w1 H1 h1 e1 r1=>by
 cases x with
 |true=>exact cM ⟨w1,O1,sl,_,c.ex e1.ex r1,h1.1 rfl,λy O2 w2 H2 h2 e2 r2=>q _ O2 w2 H2 h2 (e1.trans e2) r2⟩
 |false=>exact df (q _ O1 w1 H1 (h1.2 rfl) e1 r1)⟩
def JL {a b:Expr}{iQ:Ξ2}{M N:MT}{pos:Pos}(ha:PT X a (lx K QX E M))(hb:PW X (.BoolOp .Or (b::iQ) pos) (lx K QX E N)):PW X (.BoolOp .Or (a::b::iQ) pos) (lx K QX E (LR M N)):=PW.imp (pw_or ha hb) λσ H Q ⟨w,O,sl,Q0,c,m,q⟩=>⟨w,O,sl,_,c,m,λx O1 w1 H1 h1 e1 r1=>by
 cases x with
 |true=>exact cM (q _ O1 w1 H1 (h1.1 rfl) e1 r1)
 |false=>exact df ⟨w1,O1,sl,_,c.ex e1.ex r1,h1.2 rfl,λy O2 w2 H2 h2 e2 r2=>q _ O2 w2 H2 h2 (e1.trans e2) r2⟩⟩
def VA (C:MT)(M N:ME):ME:=λsl O Q=>C sl O λc O1=>(c=true->M sl O1 Q)/\(c=false->N sl O1 Q)
def JN {t a b:Expr}{C:MT}{M N:ME}{pos:Pos}(hc:PT X t (lx K QX E C))(ha:PE X a (cy K QX E M))(hb:PE X b (cy K QX E N)):PE X (.IfExp t a b pos) (cy K QX E (VA C M N)):=PE.imp (ul hc ha hb) λσ H Q ⟨w,O,sl,Q0,c,m,q⟩=>⟨w,O,sl,_,c,m,λx O1 w1 H1 h1 e1 r1=>by
 cases x with
 |true=>exact cM ⟨w1,O1,sl,_,c.ex e1.ex r1,h1.1 rfl,λy O2 u w2 H2 h2 e2 r2 a2=>q _ O2 u w2 H2 h2 (e1.trans e2) r2 a2⟩
 |false=>exact df ⟨w1,O1,sl,_,c.ex e1.ex r1,h1.2 rfl,λy O2 u w2 H2 h2 e2 r2 a2=>q _ O2 u w2 H2 h2 (e1.trans e2) r2 a2⟩⟩
end
section
variable {K:Θ1}{X:Cx}
def tK {w:Wd}{O:aU}{H:Hp}:az (G w O H) H:=λa o h=>(hW h).1
def An (C:Int->Int->Prop)(g:Int->Int->PyData):o7:=λO x y P=>match x,y with
 |.im (.int i),.im (.int j)=>C i j/\P (.im (g i j)) O
 |_,_=>False
def tT (g:Int->Int->PyData):o7:=λO x y P=>match x,y with
 |.im (.int i),.im (.int j)=>P (.im (g i j)) O
 |_,_=>False
def mY {C:Int->Int->Prop}{g:Int->Int->V}{f:Int->Int->PyData}(hg:∀i j h,cV h (g i j) (f i j)):tE K (rI C g) (An C f):=λw O H v u x y P Q r a b hf q=>by
 unfold An at hf;split at hf
 .exact⟨_,_,j6 a,j6 b,hf.1,q _ _ O w H hf.2 (cq.refl _ _ _) r (hg _ _ _)⟩
 .exact hf.elim
def oB {g:Int->Int->V}{f:Int->Int->PyData}(hg:∀i j h,cV h (g i j) (f i j)):tE K (Bv g) (tT f):=λw O H v u x y P Q r a b hf q=>by
 unfold tT at hf;split at hf
 .exact⟨_,_,j6 a,j6 b,q _ _ O w H hf (cq.refl _ _ _) r (hg _ _ _)⟩
 .exact hf.elim
def jT:o7:=λO x y P=>match x,y with
 |.im (.int i),.im (.int j)=>P (.im (.int (i+j))) O
 |.im (.tuple xs),.im (.tuple ys)=>xs.length+ys.length<=sizeLine/\P (.im (.tuple (xs++ys))) O
 |.im (.list xs),.im (.list ys)=>xs.length+ys.length<=sizeLine/\P (.im (.list (xs++ys))) O
 |_,_=>False
def N1:tE K (λx y H Q=>Bv (λi j=>.int (i+j)) x y H Q\/(JF x y H Q\/RL x y H Q)) jT:=λw O H v u x y P Q r a b hf q=>by
 unfold jT at hf;split at hf
 .exact .inl ⟨_,_,j6 a,j6 b,q _ _ O w H hf (cq.refl _ _ _) r (.int _)⟩
 .obtain⟨p1,us,rfl,h1,t1⟩:=eU a;obtain⟨p2,vs,rfl,h2,t2⟩:=eU b;refine .inr (.inl ⟨p1,p2,us,vs,rfl,rfl,h1,h2,by rw[t1.len,t2.len];exact hf.1,λp H' s hp=>?_⟩);obtain⟨r1,e1,t⟩:=gU r s hp (t1.app t2);exact q _ _ O w H' hf.2 e1 r1 t
 .obtain⟨p1,us,rfl,h1,t1⟩:=fK a;obtain⟨p2,vs,rfl,h2,t2⟩:=fK b;refine .inr (.inr ⟨p1,p2,us,vs,rfl,rfl,h1,h2,by rw[t1.len,t2.len];exact hf.1,λp hp=>?_⟩);obtain⟨r1,e1,t⟩:=kL r hp (t1.app t2);exact q _ _ O w _ hf.2 e1 r1 t
 .exact hf.elim
def zN {QX:Addr->aU->Prop}{E:XK}{Ma Mb:ME}{a b:Expr}{pos:Pos}(ha:PE X a (cy K QX E Ma))(hb:PE X b (cy K QX E Mb)):PE X (.BinOp a .Add b pos) (cy K QX E (aR jT Ma Mb)):=pX (de.or (yT.or wt)) N1 ha hb
abbrev rc:o7:=An (λi j=>Bd 8000 i/\Bd 8000 j) λi j=>.int (i*j)
def jd {QX:Addr->aU->Prop}{E:XK}{Ma Mb:ME}{a b:Expr}{pos:Pos}(ha:PE X a (cy K QX E Ma))(hb:PE X b (cy K QX E Mb)):PE X (.BinOp a .Mult b pos) (cy K QX E (aR rc Ma Mb)):=pX sH (mY λ_ _ _=>.int _) ha hb
abbrev Gw:o7:=An (λ_ j=>0<j/\Bd 8000 j) λi j=>.int (i / j)
def ww {QX:Addr->aU->Prop}{E:XK}{Ma Mb:ME}{a b:Expr}{pos:Pos}(ha:PE X a (cy K QX E Ma))(hb:PE X b (cy K QX E Mb)):PE X (.BinOp a .FloorDiv b pos) (cy K QX E (aR Gw Ma Mb)):=pX oA (mY λ_ _ _=>.int _) ha hb
abbrev ltF:o7:=tT λi j=>.bool (decide (i<j))
abbrev Pb:o7:=tT λi j=>.bool (decide (j<i))
def TH:tE K (Bv λi j=>.bl (decide (i<j))) ltF:=oB λ_ _ _=>.bl _
def tS:tE K (Bv λi j=>.bl (decide (j<i))) Pb:=oB λ_ _ _=>.bl _
def tj:PyData->PyData->Bool
 |.int i,.int j=>decide (i=j)
 |d,e=>PyData.eqv d e
def oh (d e:PyData):tj d e=PyData.eqv d e:=by
 cases d<;>cases e<;>first |rfl |(show decide _=_;rw[PyData.eqv];rfl)
def xI (neg:Bool):o7:=λO x y P=>match x,y with
 |.im d,.im e=>min d.depth e.depth<=60/\P (.im (.bool (if neg then !tj d e else tj d e))) O
 |_,_=>False
def pZ:tE K (FS K0) (xI false):=λw O H v u x y P Q r a b hf q=>by
 unfold xI at hf;split at hf
 .refine⟨_,_,(cV.aA tK a).dt,(cV.aA tK b).dt,hf.1,?_⟩;rw[<- oh];exact q _ _ O w H hf.2 (cq.refl _ _ _) r (.bl _)
 .exact hf.elim
def xY:tE K (FR K0) (xI true):=λw O H v u x y P Q r a b hf q=>by
 unfold xI at hf;split at hf
 .refine⟨_,_,(cV.aA tK a).dt,(cV.aA tK b).dt,hf.1,?_⟩;rw[<- oh];exact q _ _ O w H hf.2 (cq.refl _ _ _) r (.bl _)
 .exact hf.elim
def pV (hu:X.A.units+64<cLine):eY X (compareOp .Eq) (FS K0):=Dg hu
def xV (hu:X.A.units+64<cLine):eY X (compareOp .NotEq) (FR K0):=Ny hu
def vF (neg:Bool):o7:=λO x y P=>match x,y with
 |.im (.int i),.im (.list ds)=>∃ns:Γ3,ds=ns.map .int/\P (.im (.bool (if neg then !ns.contains i else ns.contains i))) O
 |.im (.int i),.im (.tuple ds)=>∃ns:Γ3,ds=ns.map .int/\P (.im (.bool (if neg then !ns.contains i else ns.contains i))) O
 |_,_=>False
def lX (ns:Γ3):(ns.map V.int).all gI=true:=by
 rw[Xf];exact Yc.mpr λ_ _=>rfl
def gH (neg:Bool):tE K (OC K0 neg) (vF neg):=λw O H v u x y P Q r a b hf q=>by
 unfold vF at hf;split at hf
 .obtain⟨ns,rfl,h⟩:=hf;obtain⟨p1,us,rfl,h1,t1⟩:=fK b;rw[kl t1] at h1;refine⟨p1,_,rfl,.inl (bi.of h1),by rw[j6 a];rfl,lX ns,?_⟩;rw[j6 a,zl];exact q _ _ O w H h (cq.refl _ _ _) r (.bl _)
 .obtain⟨ns,rfl,h⟩:=hf;obtain⟨p1,us,rfl,h1,t1⟩:=eU b;rw[kl t1] at h1;refine⟨p1,_,rfl,.inr (aM.of h1),by rw[j6 a];rfl,lX ns,?_⟩;rw[j6 a,zl];exact q _ _ O w H h (cq.refl _ _ _) r (.bl _)
 .exact hf.elim
def rY:PyData->Bool
 |.none=>true
 |_=>false
def iw (neg:Bool):o7:=λO x y P=>match x,y with
 |.im d,.im .none=>P (.im (.bool (if neg then !rY d else rY d))) O
 |_,_=>False
def zj {g:Hp}{v:V}{d:PyData}(h:cV g v d):decide (v=.bZ)=rY d:=by
 cases h<;>rfl
def Ds:tE K (λx y H Q=>y=.bZ/\Q (.bl (decide (x=.bZ))) H) (iw false):=λw O H v u x y P Q r a b hf q=>by
 unfold iw at hf;split at hf
 .refine⟨yb b,?_⟩;rw[zj a];exact q _ _ O w H hf (cq.refl _ _ _) r (.bl _)
 .exact hf.elim
def HZ:tE K (λx y H Q=>y=.bZ/\Q (.bl (!decide (x=.bZ))) H) (iw true):=λw O H v u x y P Q r a b hf q=>by
 unfold iw at hf;split at hf
 .refine⟨yb b,?_⟩;rw[zj a];exact q _ _ O w H hf (cq.refl _ _ _) r (.bl _)
 .exact hf.elim
def bW:o7:=λO x y P=>match x,y with
 |.im (.list ds),.im (.int i)=>∃d,iF ds i=some d/\P (.im d) O
 |.im (.tuple ds),.im (.int i)=>∃d,iF ds i=some d/\P (.im d) O
 |.own k,.im (.int i)=>∃c z,O[k]?=some (some c)/\iF c i=some z/\P z O
 |_,_=>False
def DG {g:Hp}{xs:List V}{ds:Ξ1}{i:Int}{d:PyData}(t:aQ g xs ds)(h:iF ds i=some d):∃v,iF xs i=some v/\cV g v d:=by
 unfold iF at h ⊢;rw[t.len];cases hj:BS ds.length i with
 |none=>rw[hj] at h;cases h
 |some j =>
  rw[hj] at h;exact t.get h
def Ol {w:Wd}{g:Hp}{xs:List V}{ds:List AV}{i:Int}{d:AV}(t:bU K w g xs ds)(h:iF ds i=some d):∃v,iF xs i=some v/\j8 K w g v d:=by
 unfold iF at h ⊢;rw[t.1];cases hj:BS ds.length i with
 |none=>rw[hj] at h;cases h
 |some j =>
  rw[hj] at h;exact t.at h
def TJ:tE K (λx y H Q=>LK K0 x y H Q\/LJ K0 x y H Q) bW:=λw O H v u x y P Q r a b hf q=>by
 unfold bW at hf;split at hf
 .obtain⟨d,hd,hf⟩:=hf;obtain⟨p1,us,rfl,h1,t1⟩:=fK a;obtain⟨z,hz,tz⟩:=DG t1 hd;exact .inl ⟨p1,us,_,z,rfl,j6 b,bi.of h1,hz,q _ _ O w H hf (cq.refl _ _ _) r tz⟩
 .obtain⟨d,hd,hf⟩:=hf;obtain⟨p1,us,rfl,h1,t1⟩:=eU a;obtain⟨z,hz,tz⟩:=DG t1 hd;exact .inr ⟨p1,us,_,z,rfl,j6 b,aM.of h1,hz,q _ _ O w H hf (cq.refl _ _ _) r tz⟩
 .obtain⟨c,d,hc,hd,hf⟩:=hf;obtain⟨p1,us,h0,h1,t1⟩:=r.sS _ _ hc;obtain⟨p2,e1,rfl⟩:=a;rw[h0] at e1;cases Option.some.inj e1;obtain⟨z,hz,tz⟩:=Ol t1 hd;exact .inl ⟨p1,us,_,z,rfl,j6 b,bi.of h1,hz,q _ _ O w H hf (cq.refl _ _ _) r tz⟩
 .exact hf.elim
def ca {QX:Addr->aU->Prop}{E:XK}{Ma Mb:ME}{a b:Expr}{pos:Pos}(ha:PE X a (cy K QX E Ma))(hb:PE X b (cy K QX E Mb))(hs:ss b:=by exact λ_ _=>rfl):PE X (.Subscript a b pos) (cy K QX E (aR bW Ma Mb)):=TB (kE.or cg) TJ ha hb hs
abbrev MO:=iO->aU->(Option Int->aU->Prop)->Prop
def Ud (K:Θ1)(QX:Addr->aU->Prop)(E:XK)(M:MO):TO:=λσ H Q=>∃w O sl Q0,my K QX E w O H σ sl/\M sl O Q0/\∀c O' w' H',Q0 c O'->cq w O H w' O' H'->aJ K w' O' H'->Q c H'
def v7:MO:=λ_ O Q=>Q none O
def v4 (M:ME):MO:=λsl O Q=>M sl O λx O1=>match x with
 |.im (.int i)=>Q (some i) O1
 |_=>False
def PO.imp {e:Option Expr}{t t':TO}(h:PO X e t)(i:∀σ H Q,t' σ H Q->t σ H Q):PO X e t':=λaa s σ H Q I q=>h aa s σ H Q I (i σ H Q q)
def jC {QX:Addr->aU->Prop}{E:XK}:PO X none (Ud K QX E v7):=PO.imp rR λσ H Q ⟨w,O,sl,Q0,c,m,q⟩=>q none O w H m (cq.refl _ _ _) c.ro
def jB {QX:Addr->aU->Prop}{E:XK}{e:Expr}{M:ME}(h:PE X e (cy K QX E M)):PO X (some e) (Ud K QX E (v4 M)):=PO.imp (rQ h) λσ H Q ⟨w,O,sl,Q0,c,m,q⟩=>⟨w,O,sl,_,c,m,λx O1 v w1 H1 h1 e1 r1 a1=>by
 split at h1
 .exact⟨_,j6 a1,q _ O1 w1 H1 h1 e1 r1⟩
 .exact h1.elim⟩
def cutD (xs:Ξ1)(lo hi:Option Int):Ξ1:=(xs.drop (HT.cU xs.length 0 lo)).take (HT.cU xs.length xs.length hi-HT.cU xs.length 0 lo)
def slF (O:aU)(x:AV)(lo hi:Option Int)(P:AV->aU->Prop):Prop:=match x with
 |.im (.tuple ds)=>P (.im (.tuple (cutD ds lo hi))) O
 |.im (.list ds)=>P (.im (.list (cutD ds lo hi))) O
 |_=>False
def Kq (M:ME)(L U:MO):ME:=λsl O Q=>M sl O λx O1=>L sl O1 λl O2=>U sl O2 λu O3=>slF O3 x l u Q
def DC {g:Hp}{xs:List V}{ds:Ξ1}{lo hi:Option Int}(t:aQ g xs ds):aQ g (fc xs lo hi) (cutD ds lo hi):=by
 unfold fc cutD;rw[t.len];exact(t.drop _).take _
def gO {QX:Addr->aU->Prop}{E:XK}{M:ME}{L U:MO}{e:Expr}{lo hi:Option Expr}{p2 pos:Pos}(he:PE X e (cy K QX E M))(hl:PO X lo (Ud K QX E L))(hu:PO X hi (Ud K QX E U)):PE X (.Subscript e (.Slice lo hi none p2) pos) (cy K QX E (Kq M L U)) :=
 PE.imp (oz (GL.or Lz) he hl hu) λσ H Q ⟨w,O,sl,Q0,c,m,q⟩=>⟨w,O,sl,_,c,m,λx O1 v w1 H1 h1 e1 r1 a1=>⟨w1,O1,sl,_,c.ex e1.ex r1,h1,λl O2 w2 H2 h2 e2 r2=>⟨w2,O2,sl,_,(c.ex e1.ex r1).ex e2.ex r2,h2,λu O3 w3 H3 h3 e3 r3=>by
  have a3:=(a1.ex e2.ex).ex e3.ex;have e13:=(e1.trans e2).trans e3;unfold slF at h3;split at h3
  .obtain⟨p1,us,rfl,g1,t1⟩:=eU a3;refine .inl ⟨p1,us,rfl,g1,λp H' s hp=>?_⟩;obtain⟨r4,e4,t4⟩:=gU r3 s hp (DC t1);exact q _ O3 _ w3 H' h3 (e13.trans e4) r4 t4
  .obtain⟨p1,us,rfl,g1,t1⟩:=fK a3;refine .inr ⟨p1,us,rfl,bi.of g1,λp hp=>?_⟩;obtain⟨r4,e4,t4⟩:=kL r3 hp (DC t1);exact q _ O3 _ w3 _ h3 (e13.trans e4) r4 t4
  .exact h3.elim⟩⟩⟩
def gc:vQ:=λO xs P=>match xs with
 |[.im (.list ds)]=>P (.im (.int ds.length)) O
 |[.im (.tuple ds)]=>P (.im (.int ds.length)) O
 |[.own k]=>∃c,O[k]?=some (some c)/\P (.im (.int c.length)) O
 |_=>False
def qP:Ad K JE gc:=λw O H vs xs P Q r a hf q=>by
 unfold gc at hf;split at hf
 .obtain⟨v,us,rfl,h1,h2⟩:=a.aW;rw[h2.cn];obtain⟨p1,pK,rfl,g1,t1⟩:=fK h1;exact⟨p1,pK,rfl,.inl (bi.of g1),by rw[t1.len];exact q _ _ O w H hf (cq.refl _ _ _) r (.int _)⟩
 .obtain⟨v,us,rfl,h1,h2⟩:=a.aW;rw[h2.cn];obtain⟨p1,pK,rfl,g1,t1⟩:=eU h1;exact⟨p1,pK,rfl,.inr (aM.of g1),by rw[t1.len];exact q _ _ O w H hf (cq.refl _ _ _) r (.int _)⟩
 .obtain⟨c,hc,hf⟩:=hf;obtain⟨v,us,rfl,h1,h2⟩:=a.aW;rw[h2.cn];obtain⟨p2,e1,rfl⟩:=h1;obtain⟨p1,pK,h0,g1,t1⟩:=r.sS _ _ hc;rw[h0] at e1;cases Option.some.inj e1;exact⟨_,pK,rfl,.inl (bi.of g1),by rw[t1.1];exact q _ _ O w H hf (cq.refl _ _ _) r (.int _)⟩
 .exact hf.elim
def Cv:vQ:=λO xs P=>match xs with
 |[.xC ns]=>P (.im (.int ns.length)) O
 |_=>False
def Tf (K:Θ1):List V->Hp->VK->Prop:=λxs H Q=>∃p ys,xs=[.ref p]/\(bi K H p ys\/aM K H p ys)/\Q (.int ys.length) H
def Ie:Ad K (Tf K) Cv:=λw O H vs xs P Q r a hf q=>by
 unfold Cv at hf;split at hf
 .obtain⟨v,us,rfl,h1,h2⟩:=a.aW;rw[h2.cn];obtain⟨p1,rfl,g1⟩:=h1;exact⟨p1,_,rfl,.inl (KG.bi.aA g1 tK),by rw[Za];exact q _ _ O w H hf (cq.refl _ _ _) r (.int _)⟩
 .exact hf.elim
def p7 (g:Int->Int->Int):vQ:=λO xs P=>match xs with
 |[.im (.int i),.im (.int j)]=>P (.im (.int (g i j))) O
 |_=>False
def Ib:Ad K (λxs H Q=>∃i j,xs=[.int i,.int j]/\Q (.int (if j>i then j else i)) H) (p7 λi j=>if j>i then j else i):=λw O H vs xs P Q r a hf q=>by
 unfold p7 at hf;split at hf
 .obtain⟨v,us,rfl,h1,h2⟩:=a.aW;obtain⟨v2,Km,rfl,h3,h4⟩:=h2.aW;rw[h4.cn,j6 h1,j6 h3];exact⟨_,_,rfl,q _ _ O w H hf (cq.refl _ _ _) r (.int _)⟩
 .exact hf.elim
def Ia:Ad K (λxs H Q=>∃i j,xs=[.int i,.int j]/\Q (.int (if j<i then j else i)) H) (p7 λi j=>if j<i then j else i):=λw O H vs xs P Q r a hf q=>by
 unfold p7 at hf;split at hf
 .obtain⟨v,us,rfl,h1,h2⟩:=a.aW;obtain⟨v2,Km,rfl,h3,h4⟩:=h2.aW;rw[h4.cn,j6 h1,j6 h3];exact⟨_,_,rfl,q _ _ O w H hf (cq.refl _ _ _) r (.int _)⟩
 .exact hf.elim
def Gb:vQ:=λO xs P=>match xs with
 |[.im (.int i)]=>P (.im (.int i)) O
 |[.im (.bool c)]=>P (.im (.int (if c then 1 else 0))) O
 |_=>False
def zd:Ad K (λxs H Q=>(∃i,xs=[.int i]/\Q (.int i) H)\/∃k,xs=[.bl k]/\Q (.int (if k then 1 else 0)) H) Gb:=λw O H vs xs P Q r a hf q=>by
 unfold Gb at hf;split at hf
 .obtain⟨v,us,rfl,h1,h2⟩:=a.aW;rw[h2.cn,j6 h1];exact .inl ⟨_,rfl,q _ _ O w H hf (cq.refl _ _ _) r (.int _)⟩
 .obtain⟨v,us,rfl,h1,h2⟩:=a.aW;rw[h2.cn,Cb h1];exact .inr ⟨_,rfl,q _ _ O w H hf (cq.refl _ _ _) r (.int _)⟩
 .exact hf.elim
def qY:AV->Option (Ξ1)
 |.im (.list ds)=>some ds
 |.im (.tuple ds)=>some ds
 |_=>none
def kJ {w:Wd}{O:aU}{H:Hp}{v:V}{x:AV}{ds:Ξ1}(h:qY x=some ds)(a:j8 K w (G w O H) v x):∃p us,v=.ref p/\(bi K0 H p us\/aM K0 H p us)/\aQ (G w O H) us ds:=by
 unfold qY at h;split at h
 .cases h
  obtain⟨p,us,rfl,g1,t1⟩:=fK a;exact⟨p,us,rfl,.inl (bi.of g1),t1⟩
 .cases h
  obtain⟨p,us,rfl,g1,t1⟩:=eU a;exact⟨p,us,rfl,.inr (aM.of g1),t1⟩
 .cases h
def tG (f:Ξ1->(PyData->Prop)->Prop):vQ:=λO xs P=>match xs with
 |[x]=>match qY x with
  |some ds=>f ds λd=>P (.im d) O
  |none=>False
 |_=>False
def tF:vQ:=tG λds P=>∃ns:Γ3,ds=ns.map .int/\P (.int ns.sum)
def lM:Ad K JB tF:=λw O H vs xs P Q r a hf q=>by
 unfold tF tG at hf;split at hf
 .split at hf
  .rename_i ds hd;obtain⟨v,us,rfl,h1,h2⟩:=a.aW;rw[h2.cn];obtain⟨p,pK,rfl,hs,t1⟩:=kJ hd h1;obtain⟨ns,rfl,h⟩:=hf;rw[kl t1] at hs;exact⟨p,ns,rfl,hs,q _ _ O w H h (cq.refl _ _ _) r (.int _)⟩
  .exact hf.elim
 .exact hf.elim
def FY:vQ:=tG λds P=>∃ns:Γ3,ds=ns.map .int/\ns≠[]/\∀m,m∈ns->(∀n∈ns,n<=m)->P (.int m)
def Dr:Ad K JC FY:=λw O H vs xs P Q r a hf q=>by
 unfold FY tG at hf;split at hf
 .split at hf
  .rename_i ds hd;obtain⟨v,us,rfl,h1,h2⟩:=a.aW;rw[h2.cn];obtain⟨p,pK,rfl,hs,t1⟩:=kJ hd h1;obtain⟨ns,rfl,bJ,h⟩:=hf;rw[kl t1] at hs;exact⟨p,ns,rfl,hs,bJ,λm h3 h4=>q _ _ O w H (h m h3 h4) (cq.refl _ _ _) r (.int _)⟩
  .exact hf.elim
 .exact hf.elim
def Cc:vQ:=tG λds P=>∃ns:List Bool,ds=ns.map .bool/\P (.bool (ns.any id))
def Om (ns:List Bool):(ns.map V.bl).any tv=ns.any id:=by induction ns with |nil=>rfl |cons n ns ih=>simp only[Zs,Xr,ih];rfl
def D4 (ns:List Bool):(ns.map V.bl).all gk=true:=by induction ns with |nil=>rfl |cons n ns ih=>simp only[Zs,Y9,ih];rfl
def wA:Ad K JG Cc:=λw O H vs xs P Q r a hf q=>by
 unfold Cc tG at hf;split at hf
 .split at hf
  .rename_i ds hd;obtain⟨v,us,rfl,h1,h2⟩:=a.aW;rw[h2.cn];obtain⟨p,pK,rfl,hs,t1⟩:=kJ hd h1;obtain⟨ns,rfl,h⟩:=hf;rw[Kc t1] at hs;refine⟨p,_,rfl,hs,D4 ns,?_⟩;rw[Om];exact q _ _ O w H h (cq.refl _ _ _) r (.bl _)
  .exact hf.elim
 .exact hf.elim
def lE:vQ:=λO xs P=>match xs with
 |[.own k]=>∃ds:Ξ1,O[k]?=some (some (ds.map .im))/\P (.im (.tuple ds)) O
 |[x]=>match qY x with
  |some ds=>P (.im (.tuple ds)) O
  |none=>False
 |_=>False
def fu:Ad K JA lE:=λw O H vs xs P Q r a hf q=>by
 unfold lE at hf;split at hf
 .obtain⟨ds,hc,hf⟩:=hf;obtain⟨v,us,rfl,h1,h2⟩:=a.aW;rw[h2.cn];obtain⟨p2,e1,rfl⟩:=h1;obtain⟨p1,pK,h0,g1,t1⟩:=r.sS _ _ hc;rw[h0] at e1;cases Option.some.inj e1;refine⟨_,pK,rfl,.inl ⟨bi.of g1,λl hl=>?_⟩⟩;obtain⟨r1,e1,t2⟩:=fX r hl (bU.tr t1);exact q _ _ O w _ hf e1 r1 t2
 .rename_i x _;split at hf
  .rename_i ds hd;obtain⟨v,us,rfl,h1,h2⟩:=a.aW;rw[h2.cn];unfold qY at hd;split at hd
   .cases hd
    obtain⟨p,pK,rfl,g1,t1⟩:=fK h1;refine⟨p,pK,rfl,.inl ⟨bi.of g1,λl hl=>?_⟩⟩;obtain⟨r1,e1,t2⟩:=fX r hl t1;exact q _ _ O w _ hf e1 r1 t2
   .cases hd
    obtain⟨p,pK,rfl,g1,t1⟩:=eU h1;exact⟨p,pK,rfl,.inr ⟨aM.of g1,q _ _ O w _ hf (cq.refl _ _ _) r h1⟩⟩
   .cases hd
  .exact hf.elim
 .exact hf.elim
def B7:vQ:=tG λds P=>P (.list ds)
def wz:Ad K JD B7:=λw O H vs xs P Q r a hf q=>by
 unfold B7 tG at hf;split at hf
 .split at hf
  .rename_i ds hd;obtain⟨v,us,rfl,h1,h2⟩:=a.aW;rw[h2.cn];obtain⟨p,pK,rfl,hs,t1⟩:=kJ hd h1;refine⟨p,pK,rfl,hs,λl hl=>?_⟩;obtain⟨r1,e1,t2⟩:=kL r hl t1;exact q _ _ O w _ hf e1 r1 t2
  .exact hf.elim
 .exact hf.elim
end
section
variable {K:Θ1}{QX:Addr->aU->Prop}{E:XK}{X:Cx}{w:Wd}{O:aU}{H:Hp}
structure Go (M:MS)(D:yt)(sl:iO)(O:aU):Prop where
 go:M D sl O
def aE (M N:MS):MS:=λD sl O=>M { D with nx:=λiL O'=>Go N D iL O' } sl O
def dh:MS:=λD sl O=>D.nx sl O
def pP:jO X [] (mH K QX E dh):=jO.imp sX λD σ H ⟨w,O,sl,D0,c,m,hn,hb,hc,hr⟩=>hn sl O w H σ m c (cq.refl _ _ _)
def bS {st:Stmt}{iQ:List Stmt}{M N:MS}(h1:PS X st (mH K QX E M))(h2:jO X iQ (mH K QX E N)):jO X (st::iQ) (mH K QX E (aE M N)):=jO.imp (dD h1 h2) λD σ H ⟨w,O,sl,D0,c,m,hn,hb,hc,hr⟩ =>
 ⟨w,O,sl,_,c,m,λVr O1 w1 H1 IE h1 c1 e1=>⟨w1,O1,Vr,D0,c1,h1.go,λcN O2 w2 H2 c3 h2 c2 e2=>hn cN O2 w2 H2 c3 h2 c2 (e1.trans e2),λcN O2 w2 H2 c3 h2 c2 e2=>hb cN O2 w2 H2 c3 h2 c2 (e1.trans e2),λcN O2 w2 H2 c3 h2 c2 e2=>hc cN O2 w2 H2 c3 h2 c2 (e1.trans e2),λx O2 w2 H2 v h2 e2 r2 a2=>hr x O2 w2 H2 v h2 (e1.trans e2) r2 a2⟩,hb,hc,hr⟩
def cK {st:Stmt}{M:MS}(h1:PS X st (mH K QX E M)):jO X [st] (mH K QX E M):=dr h1
def iY (M:ME):MS:=λD sl O=>M sl O λ_ O1=>D.nx sl O1
def ET {e:Expr}{M:ME}{pos:Pos}(he:PE X e (cy K QX E M))(hs:swapsWith e none pos.line X.env=pure false:=by rfl):PS X (.Expr e pos) (mH K QX E (iY M)):=PS.imp (yP he hs) λD σ H ⟨w,O,sl,D0,c,m,hn,hb,hc,hr⟩=>⟨w,O,sl,_,c,m,λx O1 v w1 H1 h1 e1 r1 a1=>hn sl O1 w1 H1 σ h1 (c.ex e1.ex r1) e1⟩
def cW (M:ME):MS:=λD sl O=>M sl O D.rt
def jL {e:Expr}{M:ME}{pos:Pos}(he:PE X e (cy K QX E M)):PS X (.Return (some e) pos) (mH K QX E (cW M)):=PS.imp (fD he) λD σ H ⟨w,O,sl,D0,c,m,hn,hb,hc,hr⟩=>⟨w,O,sl,_,c,m,λx O1 v w1 H1 h1 e1 r1 a1=>hr x O1 w1 H1 v h1 e1 r1 a1⟩
def ga (C:MT)(M N:MS):MS:=λD sl O=>C sl O λc O1=>(c=true->M D sl O1)/\(c=false->N D sl O1)
def pM {t:Expr}{a b:List Stmt}{C:MT}{M N:MS}{pos:Pos}(hc:PT X t (lx K QX E C))(ha:jO X a (mH K QX E M))(hb:jO X b (mH K QX E N)):PS X (.If t a b pos) (mH K QX E (ga C M N)):=PS.imp (eD hc ha hb) λD σ H ⟨w,O,sl,D0,c,m,hn,hb,hc,hr⟩=>⟨w,O,sl,_,c,m,λx O1 w1 H1 h1 e1 r1=>by
 have z:∀{M:MS},M D0 sl O1->mH K QX E M D σ H1:=λh=>⟨w1,O1,sl,D0,c.ex e1.ex r1,h,λcN O2 w2 H2 c3 h2 c2 e2=>hn cN O2 w2 H2 c3 h2 c2 (e1.trans e2),λcN O2 w2 H2 c3 h2 c2 e2=>hb cN O2 w2 H2 c3 h2 c2 (e1.trans e2),λcN O2 w2 H2 c3 h2 c2 e2=>hc cN O2 w2 H2 c3 h2 c2 (e1.trans e2),λx O2 w2 H2 v h2 e2 r2 a2=>hr x O2 w2 H2 v h2 (e1.trans e2) r2 a2⟩
 cases x with
 |true=>exact cM (z (h1.1 rfl))
 |false=>exact df (z (h1.2 rfl))⟩
abbrev MG:=AV->iO->aU->(iO->aU->Prop)->Prop
abbrev Fd:=List AV->iO->aU->(iO->aU->Prop)->Prop
def vk (K:Θ1)(QX:Addr->aU->Prop)(E:XK)(mg:MG):TG:=λv σ H Q=>∃w O sl x Q0,my K QX E w O H σ sl/\j8 K w (G w O H) v x/\mg x sl O Q0/\∀iL O' w' H' aH,Q0 iL O'->my K QX E w' O' H' aH iL->cq w O H w' O' H'->Q aH H'
def B3 (K:Θ1)(QX:Addr->aU->Prop)(E:XK)(mg:Fd):Ac:=λvs σ H Q=>∃w O sl xs Q0,my K QX E w O H σ sl/\bU K w (G w O H) vs xs/\mg xs sl O Q0/\∀iL O' w' H' aH,Q0 iL O'->my K QX E w' O' H' aH iL->cq w O H w' O' H'->Q aH H'
def PG.imp {tg:Expr}{t t':TG}(h:PG X tg t)(i:∀v σ H Q,t' v σ H Q->t v σ H Q):PG X tg t':=λaa s σ H v u Q I r q=>h aa s σ H v u Q I r (i v σ H Q q)
def vg.imp {tg:Ξ2}{t t':Ac}(h:vg X tg t)(i:∀v σ H Q,t' v σ H Q->t v σ H Q):vg X tg t':=λaa s σ H v u Q I r q=>h aa s σ H v u Q I r (i v σ H Q q)
def aP (i:Nat):MG:=λx sl O Q=>Q (sl.set i (some x)) O
def my.put {σ:St}{sl:iO}(c:my K QX E w O H σ sl){v:V}{x:AV}(a:j8 K w (G w O H) v x)(i:Nat):my K QX E w O H (σ.set i (some v)) (sl.set i (some x)):=⟨c.ro,c.so.set a i,c.zx⟩
def zO {i:Nat}{tg:Expr}(h:PG X tg (eV i)):PG X tg (vk K QX E (aP i)):=PG.imp h λv σ H Q ⟨w,O,sl,x,Q0,c,a,m,q⟩=>q _ O w H _ m (c.put a i) (cq.refl _ _ _)
def fJ:Fd:=λxs sl O Q=>match xs with
 |[]=>Q sl O
 |_=>False
def bG (t:MG)(u:Fd):Fd:=λxs sl O Q=>match xs with
 |x::r=>t x sl O λiL O'=>u r iL O' Q
 |_=>False
def fg:vg X [] (B3 K QX E fJ):=vg.imp fV λv σ H Q ⟨w,O,sl,x,Q0,c,a,m,q⟩=>by
 unfold fJ at m;split at m
 .exact⟨a.cn,q _ O w H _ m c (cq.refl _ _ _)⟩
 .exact m.elim
def qT {e:Expr}{es:Ξ2}{t:MG}{u:Fd}(h1:PG X e (vk K QX E t))(h2:vg X es (B3 K QX E u))(hs:(assignEach (e::es) X.env).map (·.2)=assign e X.env::(assignEach es X.env).map (·.2):=by rfl):vg X (e::es) (B3 K QX E (bG t u)):=vg.imp (va h1 h2 hs) λv σ H Q ⟨w,O,sl,x,Q0,c,a,m,q⟩=>by
 unfold bG at m;split at m
 .obtain⟨v1,us,rfl,a1,a2⟩:=a.aW;exact⟨v1,us,rfl,w,O,sl,_,_,c,a1,m,λVr O1 w1 H1 IE h1 c1 e1=>⟨w1,O1,Vr,_,_,c1,a2.ex e1.ex,h1,λcN O2 w2 H2 c3 h2 c2 e2=>q cN O2 w2 H2 c3 h2 c2 (e1.trans e2)⟩⟩
 .exact m.elim
def vq (n:Nat)(t:Fd):MG:=λx sl O Q=>match qY x with
 |some ds=>ds.length=n/\t (ds.map .im) sl O Q
 |none=>False
def PG.or {tg:Expr}{t t':TG}(h:PG X tg t)(h':PG X tg t'):PG X tg (λv σ H Q=>t v σ H Q\/t' v σ H Q):=λaa s σ H v u Q I r q=>q.elim (λz=>h aa s σ H v u Q I r z) λz=>h' aa s σ H v u Q I r z
def ic {es:Ξ2}{k:Nat}{t:Fd}{n:Nat}{pos:Pos}(hc:X.calm=true)(h:vg X es (B3 K QX E t))(hn:(assignEach es X.env).length=n:=by rfl)(sQ:(assignEach es X.env).findIdx? (·.1)=none:=by rfl):PG X (.Tuple es k pos) (vk K QX E (vq n t)) :=
 PG.imp (PG.or (ja hc h hn sQ) (Nl hc h hn sQ)) λv σ H Q ⟨w,O,sl,x,Q0,c,a,m,q⟩=>by
  unfold vq at m;split at m
  .rename_i ds hd;obtain⟨m1,m2⟩:=m;obtain⟨p,us,rfl,hs,t1⟩:=kJ hd a;have hl:us.length=n:=by rw[t1.len];exact m1
   have hq:B3 K QX E t us σ H Q:=⟨w,O,sl,_,_,c,aQ.avs t1,m2,q⟩;rcases hs with hs |hs
   .exact .inr ⟨p,us,rfl,hs,hl,hq⟩
   .exact .inl ⟨p,us,rfl,hs,hl,hq⟩
  .exact m.elim
def aL (M:ME)(mg:MG):MS:=λD sl O=>M sl O λx O1=>mg x sl O1 D.nx
def oE {t:TE}{g:TG}{M:ME}{mg:MG}(ht:∀σ H Q,cy K QX E M σ H Q->t σ H Q)(hg:∀v σ H Q,vk K QX E mg v σ H Q->g v σ H Q):∀D σ H,mH K QX E (aL M mg) D σ H->FK t g D σ H:=λD σ H ⟨w,O,sl,D0,c,m,hn,hb,hc,hr⟩ =>
 ht σ H _ ⟨w,O,sl,_,c,m,λx O1 v w1 H1 h1 e1 r1 a1=>hg v σ H1 _ ⟨w1,O1,sl,x,_,c.ex e1.ex r1,a1,h1,λcN O2 w2 H2 c3 h2 c2 e2=>hn cN O2 w2 H2 c3 h2 c2 (e1.trans e2)⟩⟩
def n8 {tg e:Expr}{M:ME}{mg:MG}{pos:Pos}(he:PE X e (cy K QX E M))(hg:PG X tg (vk K QX E mg))(hs:swapsWithSole [tg] e pos.line X.env=pure false:=by rfl)(hw:swappedStores [tg] e X.env=pure none:=by rfl)(h1:(assignEach [tg] X.env).map (·.2)=[assign tg X.env]:=by rfl):PS X (.Assign [tg] e pos) (mH K QX E (aL M mg)):=PS.imp (kg he hg hs hw h1) (oE (λ_ _ _ z=>z) λ_ _ _ _ z=>z)
def uc {i:Nat}:∀v σ H Q,vk K QX E (aP i) v σ H Q->eV i v σ H Q:=λv σ H Q ⟨w,O,sl,x,Q0,c,a,m,q⟩=>q _ O w H _ m (c.put a i) (cq.refl _ _ _)
def eQ {i:Nat}{x:Str}{e:Expr}{M:ME}{pos pk:Pos}(hN:X.N.Nodup)(hi:X.N[i]?=some x)(hx:Loc X.env.scope x)(he:PE X e (cy K QX E M))(hs:swapsWith e (some (.Name x pk)) pos.line X.env=pure false:=by rfl)(hf:X.fn x=true\/X.env.scope.names.lookup x=some .local:=by first |exact .inl rfl |exact .inr rfl |assumption) :
  PS X (.Assign [.Name x pk] e pos) (mH K QX E (aL M (aP i))):=PS.imp (jM hN hi hx he hs hf) (oE (λ_ _ _ z=>z) uc)
def qd (K:Θ1)(J:It)(w:Wd)(O:aU)(H:Hp)(items:List AV):Prop:=∀O2 w2 H2,lz w O H w2 O2 H2->aJ K w2 O2 H2->∀i,(∀x,items[i]?=some x->J.go i H2/\∀v H3,J.vj i H2 v H3->cq w2 O2 H2 w2 O2 H3/\aJ K w2 O2 H3/\j8 K w2 (G w2 O2 H3) v x)/\(items.length<=i->J.stop i H2)
def EO (K:Θ1)(QX:Addr->aU->Prop)(E:XK)(M:MA):TI:=λσ H R=>∃w O sl Q0,my K QX E w O H σ sl/\M sl O Q0/\∀items O' w' H' J,Q0 items O'->cq w O H w' O' H'->aJ K w' O' H'->qd K J w' O' H' items->R J H'
def PI.imp {tg iter:Expr}{t t':TI}(h:PI X tg iter t)(i:∀σ H R,t' σ H R->t σ H R):PI X tg iter t':=λaa s σ H R I q=>h aa s σ H R I (i σ H R q)
def A7 {a:Addr}{ds:Ξ1}(t:cV (G w O H) (.ref a) (.list ds)):qd K (xJ K0 a) w O H (ds.map .im):=λO2 w2 H2 e r i=>by
 cases cV.aA e.aA t with |lst h1 t1=>?_
 rename_i xs;have hh:=(hW h1).1;refine⟨λx hx=>?_,λhl=>⟨xs,bi.of hh,by rw[Za] at hl;rw[t1.len];exact hl⟩⟩;rw[Zh] at hx;cases hd:ds[i]? with
 |none=>rw[hd] at hx;cases hx
 |some d =>
  rw[hd] at hx;cases Option.some.inj hx;obtain⟨v,hv,tv⟩:=t1.get hd;refine⟨⟨xs,v,bi.of hh,hv⟩,?_⟩;rintro v' H3 ⟨rfl,hy⟩;have:=hy xs (bi.of hh);rw[hv] at this;cases Option.some.inj this;exact⟨cq.refl _ _ _,r,tv⟩
def A5 {a:Addr}{ds:Ξ1}(t:cV (G w O H) (.ref a) (.tuple ds)):qd K (Ag K0 a) w O H (ds.map .im):=λO2 w2 H2 e r i=>by
 cases cV.aA e.aA t with |tup h1 t1=>?_
 rename_i xs;have hh:=(hW h1).1;refine⟨λx hx=>?_,λhl=>⟨xs,aM.of hh,by rw[Za] at hl;rw[t1.len];exact hl⟩⟩;rw[Zh] at hx;cases hd:ds[i]? with
 |none=>rw[hd] at hx;cases hx
 |some d =>
  rw[hd] at hx;cases Option.some.inj hx;obtain⟨v,hv,tv⟩:=t1.get hd;refine⟨⟨xs,v,aM.of hh,hv⟩,?_⟩;rintro v' H3 ⟨rfl,hy⟩;have:=hy xs (aM.of hh);rw[hv] at this;cases Option.some.inj this;exact⟨cq.refl _ _ _,r,tv⟩
def bw (M:ME):MA:=λsl O Q=>M sl O λx O1=>match qY x with
 |some ds=>Q (ds.map .im) O1
 |none=>False
def ZR (tl:TE):TI:=λσ H R=>tl σ H λx H1=>(∃a,x=.ref a/\(∃xs,bi K0 H1 a xs)/\R (xJ K0 a) H1)\/(∃a,x=.ref a/\(∃xs,aM K0 H1 a xs)/\R (Ag K0 a) H1)
def C9 {tg l:Expr}{tl:TE}(hl:PE X l tl):PI X tg l (ZR tl):=by
 intro aa s σ H R I h;refine bB (hl aa s σ H _ I h) λv s1 ⟨x,H1,I1,r1,q1⟩=>?_
 rcases q1 with ⟨a,e,⟨xs,hq⟩,q⟩ |⟨a,e,⟨xs,hq⟩,q⟩
 .subst e;cases r1;obtain⟨its,rv,p,hz⟩:=I1.list hq.k0;refine wpAny_pyIter_list p.isList ⟨s1.heap.objs.size,[s1.heap.objs.size],_,xJ K0 a,H1,rfl,I1.kept (t':=s1.toks) λb o e=>Zi _ e,(qe (K:=X.K) a _).le ze,⟨_,Zw _ rfl,rfl,rfl⟩,λb hb=>?_,q⟩;have e:b=s1.heap.objs.size:=by simpa using hb
  subst e;exact I1.jR (Ze _) (I1.bT.fresh (Ze _))
 .subst e;cases r1;obtain⟨its,rv,p,hz⟩:=I1.tuple hq.k0;refine wpAny_pyIter_tuple (show s1.heap.IsTuple a its.toArray from p) ⟨s1.heap.objs.size,[s1.heap.objs.size],_,Ag K0 a,H1,rfl,I1.kept (t':=s1.toks) λb o e=>Zi _ e,(oM (K:=X.K) a _).le Dt,⟨_,Zw _ rfl,rfl,rfl⟩,λb hb=>?_,q⟩;have e:b=s1.heap.objs.size:=by simpa using hb
  subst e;exact I1.jR (Ze _) (I1.bT.fresh (Ze _))
def iU {tg e:Expr}{M:ME}(he:PE X e (cy K QX E M)):PI X tg e (EO K QX E (bw M)):=PI.imp (C9 he) λσ H R ⟨w,O,sl,Q0,c,m,q⟩=>⟨w,O,sl,_,c,m,λx O1 v w1 H1 h1 e1 r1 a1=>by
 split at h1
 .rename_i ds hd;unfold qY at hd;split at hd
  .cases hd
   obtain⟨a,xs,rfl,g1,t1⟩:=fK a1;exact .inl ⟨a,rfl,⟨xs,bi.of g1⟩,q _ O1 w1 H1 _ h1 e1 r1 (A7 a1)⟩
  .cases hd
   obtain⟨a,xs,rfl,g1,t1⟩:=eU a1;exact .inr ⟨a,rfl,⟨xs,aM.of g1⟩,q _ O1 w1 H1 _ h1 e1 r1 (A5 a1)⟩
  .cases hd
 .exact h1.elim⟩
def tH (lo:Int)(n:Nat):List AV:=(List.range n).map λi:Nat=>.im (.int (lo+(i:Int)))
def A6 {lo:Int}{n:Nat}:qd K (Pn lo n) w O H (tH lo n):=λO2 w2 H2 e r i=>by
 unfold tH;refine⟨λx hx=>?_,λhl=>by show n<=i;simpa using hl⟩;have hi:i<n:=by have:=(Zf.mp hx).1;simpa using this
 rw[Zh,Y3 hi] at hx;cases Option.some.inj hx;refine⟨hi,?_⟩;rintro v H3 ⟨rfl,rfl⟩;exact⟨cq.refl _ _ _,r,.int _⟩
def jQ (Ms:MA):MA:=λsl O Q=>Ms sl O λxs O1=>match xs with
 |[.im (.int n)]=>(-(2 ^ 62)<=n/\n<2 ^ 62)/\Q (tH 0 n.toNat) O1
 |_=>False
def vD {tg a:Expr}{Ms:MA}{p pos:Pos}(hg:Gl X "range")(hm:X.mg "range"=none)(ha:PA X [a] (u5 K QX E Ms))(hs:starEach [a] X.env=[(false,eval a X.env)]:=by rfl):PI X tg (.Call (.Name "range" p) [a] [] pos) (EO K QX E (jQ Ms)):=PI.imp (OJ hg hm ha hs) λσ H R ⟨w,O,sl,Q0,c,m,q⟩=>⟨w,O,sl,_,c,m,λxs O1 vs w1 H1 h1 e1 r1 a1=>by
 split at h1
 .obtain⟨v,us,rfl,h3,h4⟩:=a1.aW;rw[h4.cn,j6 h3];exact⟨_,rfl,h1.1.1,h1.1.2,q _ O1 w1 H1 _ h1.2 e1 r1 A6⟩
 .exact h1.elim⟩
def i0 (ds:Ξ1):List AV:=(List.range ds.length).map λi:Nat=>.im (.tuple [.int (i:Int),ds.getD i .none])
def xg {a:Addr}{ds:Ξ1}(t:cV (G w O H) (.ref a) (.tuple ds)):qd K (Jk K0 a) w O H (i0 ds):=λO2 w2 H2 e r i=>by
 cases cV.aA e.aA t with |tup h1 t1=>?_
 rename_i xs;have hh:=(hW h1).1;unfold i0;refine⟨λx hx=>?_,λhl=>⟨xs,aM.of hh,by rw[t1.len];simpa using hl⟩⟩;have hi:i<ds.length:=by have:=(Zf.mp hx).1;simpa using this
 rw[Zh,Y3 hi] at hx;cases Option.some.inj hx;have hd:ds[i]?=some (ds.getD i .none):=by rw[ak (Zc hi)];exact Zc hi
 obtain⟨v,hv,tv⟩:=t1.get hd;refine⟨⟨xs,v,aM.of hh,hv⟩,?_⟩;rintro v' H3 ⟨p,hp,rfl,hy⟩;obtain⟨y,Kv,rfl⟩:=hy xs (aM.of hh);rw[hv] at Kv;cases Option.some.inj Kv;obtain⟨r4,e4,t4⟩:=fX r hp (.cons (.int (i:Int)) (.cons tv .nil));exact⟨e4,r4,t4⟩
def Vz (Ms:MA):MA:=λsl O Q=>Ms sl O λxs O1=>match xs with
 |[.im (.tuple ds)]=>Q (i0 ds) O1
 |_=>False
def yX {a:Expr}{Ms:MA}{p pos:Pos}{nG:Ξ2}{kk}{qX:Pos}(hg:Gl X "enumerate")(hm:X.mg "enumerate"=none)(hb:bootBuiltins "enumerate"=some (.type "enumerate"))(ha:PA X [a] (u5 K QX E Ms))(hs:starEach [a] X.env=[(false,eval a X.env)]:=by rfl):PI X (.Tuple nG kk qX) (.Call (.Name "enumerate" p) [a] [] pos) (EO K QX E (Vz Ms)):=PI.imp (mV hg hm hb ha hs) λσ H R ⟨w,O,sl,Q0,c,m,q⟩=>⟨w,O,sl,_,c,m,λxs O1 vs w1 H1 h1 e1 r1 a1=>by
 split at h1
 .obtain⟨v,us,rfl,h3,h4⟩:=a1.aW;rw[h4.cn];obtain⟨a,Ua,rfl,g1,t1⟩:=eU h3;exact⟨a,rfl,⟨Ua,aM.of g1⟩,q _ O1 w1 H1 _ h1 e1 r1 (xg h3)⟩
 .exact h1.elim⟩
def vS (ds es:Ξ1):List AV:=(List.range ds.length).map λi:Nat=>.im (.tuple [ds.getD i .none,es.getD i .none])
def A4 {a b:Addr}{ds es:Ξ1}(t:cV (G w O H) (.ref a) (.tuple ds))(u:cV (G w O H) (.ref b) (.tuple es))(Ft:ds.length<=es.length):qd K (Lc K0 a b) w O H (vS ds es):=λO2 w2 H2 e r i=>by
 cases cV.aA e.aA t with |tup h1 t1=>?_
 rename_i xs;cases cV.aA e.aA u with |tup h2 t2=>?_
 rename_i ys;have hh:=(hW h1).1;have V3:=(hW h2).1;unfold vS;refine⟨λx hx=>?_,λhl=>⟨xs,ys,aM.of hh,aM.of V3,by rw[t1.len];simpa using hl⟩⟩;have hi:i<ds.length:=by have:=(Zf.mp hx).1;simpa using this
 rw[Zh,Y3 hi] at hx;cases Option.some.inj hx;have hd:ds[i]?=some (ds.getD i .none):=by rw[ak (Zc hi)];exact Zc hi
 have he:es[i]?=some (es.getD i .none):=by rw[ak (Zc (show i<es.length by omega))];exact Zc (by omega)
 obtain⟨v,hv,tv⟩:=t1.get hd;obtain⟨v2,hv2,tv2⟩:=t2.get he;refine⟨⟨xs,ys,v,v2,aM.of hh,aM.of V3,hv,hv2⟩,?_⟩;rintro v' H3 ⟨p,hp,rfl,hy⟩;obtain⟨y,y2,Kv,P9,rfl⟩:=hy xs ys (aM.of hh) (aM.of V3);rw[hv] at Kv;rw[hv2] at P9;cases Option.some.inj Kv;cases Option.some.inj P9;obtain⟨r4,e4,t4⟩:=fX r hp (.cons tv (.cons tv2 .nil));exact⟨e4,r4,t4⟩
def Vy (Ms:MA):MA:=λsl O Q=>Ms sl O λxs O1=>match xs with
 |[.im (.tuple ds),.im (.tuple es)]=>ds.length<=es.length/\Q (vS ds es) O1
 |_=>False
def Dk {a b:Expr}{Ms:MA}{p pos:Pos}{nG:Ξ2}{kk}{qX:Pos}(hg:Gl X "zip")(hm:X.mg "zip"=none)(hb:bootBuiltins "zip"=some (.type "zip"))(ha:PA X [a,b] (u5 K QX E Ms))(hs:starEach [a,b] X.env=[(false,eval a X.env),(false,eval b X.env)]:=by rfl)(ve:starEach [b] X.env=[(false,eval b X.env)]:=by rfl):PI X (.Tuple nG kk qX) (.Call (.Name "zip" p) [a,b] [] pos) (EO K QX E (Vy Ms)):=PI.imp (yQ hg hm hb ha hs ve) λσ H R ⟨w,O,sl,Q0,c,m,q⟩=>⟨w,O,sl,_,c,m,λxs O1 vs w1 H1 h1 e1 r1 a1=>by
 split at h1
 .obtain⟨v,us,rfl,h3,h4⟩:=a1.aW;obtain⟨v2,Km,rfl,h5,h6⟩:=h4.aW;rw[h6.cn];obtain⟨a,Ua,rfl,g1,t1⟩:=eU h3;obtain⟨b,ys',rfl,g2,t2⟩:=eU h5;exact⟨a,b,rfl,⟨Ua,aM.of g1⟩,⟨ys',aM.of g2⟩,q _ O1 w1 H1 _ h1.2 e1 r1 (A4 h3 h5 h1.1)⟩
 .exact h1.elim⟩
structure FB (tg:MG)(body:MS)(D:yt)(sl:iO)(items:List AV)(O1:aU):Prop where
 ex:∃Iv:Nat->iO->aU->Prop,Iv 0 sl O1 /\
 (∀i x iL O',items[i]?=some x->Iv i iL O'->tg x iL O' λcN O2=>Go body { D with nx:=Iv (i+1),ct:=Iv (i+1),bk:=D.nx } cN O2)/\∀iL O',Iv items.length iL O'->D.nx iL O'
def eJ (it:MA)(tg:MG)(body:MS):MS:=λD sl O=>it sl O (FB tg body D sl)
def mK {tg iter:Expr}{body:List Stmt}{it:MA}{mg:MG}{M:MS}{pos:Pos}(hp:PassesOwn (model X.prog X.w) X.A X.env X.xe)(hc:X.calm=true)(hi:PI X tg iter (EO K QX E it))(hg:PG X tg (vk K QX E mg))(hb:jO X body (mH K QX E M))(hs:∀x,foldedSetIterable iter X.env x=pure x:=by intro _;rfl):PS X (.For tg iter body [] pos) (mH K QX E (eJ it mg M)):=PS.imp (nV hp hc hi hg hb hs) λD σ H ⟨w,O,sl,D0,c,m,hn,QP,hct,hr⟩=>⟨w,O,sl,_,c,m,λitems O1 w1 H1 J h1 e1 r1 P2=>by
 obtain⟨Iv,hI0,hIs,hIe⟩:=h1;refine⟨λi m aH H'=>m=items.length-i/\i<=items.length/\∃w' O' iL,my K QX E w' O' H' aH iL/\cq w1 O1 H1 w' O' H'/\Iv i iL O',⟨items.length,by simp,Z9 _,w1,O1,sl,c.ex e1.ex r1,cq.refl _ _ _,hI0⟩,?_⟩;rintro i m aH H' ⟨rfl,Ft,w',O',iL,c',e',hv⟩;obtain⟨ig,ie⟩:=P2 O' w' H' e'.ex c'.ro i;rcases Yg i items.length with y |y
 .obtain⟨QJ,BU⟩:=ig _ (Zc y);refine .inr ⟨QJ,λc3 H2=>∃w2 O2 cN,my K QX E w2 O2 H2 c3 cN/\cq w1 O1 H1 w2 O2 H2/\Iv (i+1) cN O2,λc3 H2 ⟨w2,O2,cN,c2,e2,h2⟩=>⟨items.length-(i+1),by omega,rfl,y,w2,O2,cN,c2,e2,h2⟩,λv H3 QA=>?_⟩;obtain⟨e3,r3,a3⟩:=BU v H3 QA;refine⟨w',O',iL,_,_,c'.ex e3.ex r3,a3,hIs i _ iL O' (Zc y) hv,λxB O4 w4 H4 τ h4 c4 e4=>⟨w4,O4,xB,_,c4,h4.go,λKo O5 w5 H5 nj h5 c5 e5=>⟨w5,O5,Ko,c5,(e'.trans e3).trans (e4.trans e5),h5⟩,λKo O5 w5 H5 nj h5 c5 e5=>hn Ko O5 w5 H5 nj h5 c5 (((e1.trans e').trans e3).trans (e4.trans e5)),λKo O5 w5 H5 nj h5 c5 e5=>⟨w5,O5,Ko,c5,(e'.trans e3).trans (e4.trans e5),h5⟩,λx5 O5 w5 H5 v5 h5 e5 r5 a5=>hr x5 O5 w5 H5 v5 h5 (((e1.trans e').trans e3).trans (e4.trans e5)) r5 a5⟩⟩
 .have ei:i=items.length:=by omega
  subst ei;exact .inl ⟨ie (Ze _),hn iL O' w' H' aH (hIe iL O' hv) c' (e1.trans e')⟩⟩
def Sub (n:Nat)(sl cN:iO):Prop:=cN.length=sl.length/\∀j,n<=j->cN[j]?=sl[j]?
def bX.sub {n:Nat}{ix:List Nat}{g:Hp}{σ:St}{sl cN:iO}(h:bX K w g σ cN)(s:Sub n (fE n ix sl) cN):bX K w g σ (fE n ix sl):=by
 refine⟨h.1.trans s.1,λi x hx=>?_⟩;rcases Yg i n with y |y
 .unfold fE at hx;rw[Z4 (by simpa using y),Ql,if_pos y] at hx;cases Option.some.inj hx
 .exact h.2 i x (by rw[s.2 i y];exact hx)
def bX.tN {w w':Wd}{g g':Hp}(hb:w'.eN=w.eN)(ha:w'.eH=w.eH)(s:az g g'){σ:St}{sl:iO}(h:bX K w g σ sl):bX K w' g' σ sl:=⟨h.1,λi x h1=>by obtain⟨v,h2,h3⟩:=h.2 i x h1;exact⟨v,h2,j8.tN hb ha s h3⟩⟩
def Keeps (n:Nat)(mg:MG):Prop:=∀x sl O Q,mg x sl O Q->mg x sl O λcN O2=>Q cN O2/\Sub n sl cN
def lB {n i:Nat}(h:i<n):Keeps n (aP i):=λx sl O Q q=>⟨q,by simp,λj hj=>Yr (by omega)⟩
def rF (n:Nat)(mg:Fd):Prop:=∀x sl O Q,mg x sl O Q->mg x sl O λcN O2=>Q cN O2/\Sub n sl cN
def jI {n:Nat}:rF n fJ:=λx sl O Q q=>by
 cases x with
 |nil=>exact⟨q,rfl,λ_ _=>rfl⟩
 |cons y r=>exact q
def IK {n i:Nat}{u:Fd}(h:i<n)(hu:rF n u):rF n (bG (aP i) u):=λx sl O Q q=>by
 cases x with
 |nil=>exact q
 |cons y r =>
  have q':u r (sl.set i (some y)) O Q:=q;have:=hu r _ O _ q';show u r (sl.set i (some y)) O _;have imp:u r (sl.set i (some y)) O (λcN O2=>Q cN O2/\Sub n (sl.set i (some y)) cN)->u r (sl.set i (some y)) O (λcN O2=>Q cN O2/\Sub n sl cN):=λz=>by
   have e:(λcN (O2:aU)=>Q cN O2/\Sub n (sl.set i (some y)) cN)=λcN (O2:aU)=>Q cN O2/\Sub n sl cN:=by
    funext cN O2
    apply propext;unfold Sub;rw[Xx];constructor
    .rintro⟨h1,h2,h3⟩;exact⟨h1,h2,λj hj=>by rw[h3 j hj,Yr (by omega)]⟩
    .rintro⟨h1,h2,h3⟩;exact⟨h1,h2,λj hj=>by rw[h3 j hj,Yr (by omega)]⟩
   rw[e] at z;exact z
  exact imp this
def jH {n m:Nat}{t:Fd}(h:rF n t):Keeps n (vq m t):=λx sl O Q q=>by
 unfold vq at q ⊢;split
 .rename_i ds hd;rw[hd] at q;exact⟨q.1,h _ sl O Q q.2⟩
 .rename_i hd;rw[hd] at q;exact q
structure CB (n:Nat)(ix:List Nat)(mg:MG)(C:MT)(M:ME)(sl:iO)(Q:AV->aU->Prop)(items:List AV)(O1:aU):Prop where
 len:items.length<=1000000
 ex:∃Iv:Nat->Ξ1->aU->Prop,Iv 0 [] O1 /\
 (∀i x ds O',items[i]?=some x->Iv i ds O'->mg x (fE n ix sl) O' λcN O2=>C cN O2 λc O3=>(c=true->M cN O3 λy O4=>match y with
   |.im d=>Iv (i+1) (ds++[d]) O4
   |_=>False)/\(c=false->Iv (i+1) ds O3))/\∀ds O',Iv items.length ds O'->Q (.im (.list ds)) O'
def bQ (n:Nat)(ix:List Nat)(it:MA)(mg:MG)(C:MT)(M:ME):ME:=λsl O Q=>it sl O (CB n ix mg C M sl Q)
def qt {n:Nat}{ix:List Nat}{it:MA}{mg:MG}{C:MT}{M:ME}(hk:Keeps n mg):∀σ H Q,cy K QX E (bQ n ix it mg C M) σ H Q->Cf (EO K QX E it) (vk K QX E mg) (lx K QX E C) (cy K QX E M) n ix σ H Q :=
 λσ H Q ⟨w,O,sl,Q0,c,m,q⟩=>⟨w,O,sl,_,c,m,λitems O1 w1 H1 J h1 e1 r1 P2 acc bI=>by
  obtain⟨hl,Iv,h0,hs,he⟩:=h1;have hC:=c.ex e1.ex r1;obtain⟨r0,e0⟩:=hC.ro.hide (o:=.lst []) bI (λxs z=>by cases z);refine⟨λi m aH H'=>m=items.length-i/\i<=items.length/\∃w' O' ys zs,aJ K w' O' H'/\w'.c7=(acc,.lst ys)::w1.c7/\lz w1 O1 H1 w' O' H'/\bX K w' (G w' O' H') aH (fE n ix sl)/\aQ (G w' O' H') ys zs/\zs.length<=i/\Iv i zs O',
   ⟨items.length,by simp,Z9 _,_,O1,[],[],r0,rfl,e0,(hC.so.blk n ix).ex e0,.nil,Ze _,h0⟩,?_⟩
  rintro i m aH H' ⟨rfl,Ft,w',O',ys,zs,r',KH,e',s',a',hz',hv⟩;obtain⟨ig,ie⟩:=P2 O' w' H' e' r' i;rcases Yg i items.length with y |y
  .obtain⟨QJ,BU⟩:=ig _ (Zc y);refine .inr ⟨QJ,λc3 H2=>∃w' O' ys zs,aJ K w' O' H2/\w'.c7=(acc,.lst ys)::w1.c7/\lz w1 O1 H1 w' O' H2/\bX K w' (G w' O' H2) c3 (fE n ix sl)/\aQ (G w' O' H2) ys zs/\zs.length<=i+1/\Iv (i+1) zs O',λc3 H2 z=>⟨items.length-(i+1),by omega,rfl,y,z⟩,λv H3 QA=>?_⟩;obtain⟨e3,r3,a3⟩:=BU v H3 QA;have WJ:my K QX E w' O' H3 aH (fE n ix sl):=⟨r3,s'.ex e3.ex,λk pS U8 YC qx WE Vv=>hC.zx k pS U8 YC qx ((e'.trans e3.ex).trans WE) Vv⟩;refine⟨w',O',_,_,_,WJ,a3,hk _ _ _ _ (hs i _ zs O' (Zc y) hv),λxB O4 w4 H4 τ h4 c4 e4=>⟨w4,O4,xB,_,c4,h4.1,λb O5 w5 H5 h5 e5 r5=>?_⟩⟩;have FC:=e3.trans (e4.trans e5);cases b with
   |false=>exact df ⟨w5,O5,ys,zs,r5,FC.c7.trans KH,e'.trans FC.ex,bX.sub (c4.so.ex e5.ex) h4.2,aQ.aA FC.ex.aA a',by omega,h5.2 rfl⟩
   |true =>
    refine cM ⟨w5,O5,xB,_,c4.ex e5.ex r5,h5.1 rfl,λz O6 v6 w6 H6 h6 e6 r6 a6=>?_⟩;split at h6
    .rename_i d;have K4:=FC.trans e6;have hh6:w6.c7=(acc,.lst ys)::w1.c7:=K4.c7.trans KH;obtain⟨n1,n2,n3,n4⟩:=r6.nh (acc,.lst ys) (by rw[hh6];exact Zm);obtain⟨r7,s7⟩:=r6.C4 (o':=.lst (ys++[v6])) hh6 (λxs z=>by cases z);have WD:=e'.trans K4.ex;refine⟨ys,n3,by rw[a'.len,sz];omega,{ w6 with c7:=(acc,.lst (ys++[v6]))::w1.c7 },O6,ys++[v6],zs++[d],r7,rfl,⟨WD.bs,WD.eH,⟨[(acc,.lst (ys++[v6]))],rfl⟩,WD.aA.trans s7⟩,?_,?_,by rw[Z5];simp;omega,h6⟩
     .exact bX.tN rfl rfl s7 (bX.sub ((c4.so.ex e5.ex).ex e6.ex) h4.2)
     .exact aQ.aA s7 ((aQ.aA K4.ex.aA a').app (.cons a6 .nil))
    .exact h6.elim
  .have ei:i=items.length:=by omega
   subst ei;refine .inl ⟨ie (Ze _),?_⟩;obtain⟨r2,s2,g2⟩:=r'.CM KH;exact q _ _ _ { w' with c7:=w1.c7 } _ (he zs O' hv) ⟨e1.ex.trans ⟨e'.bs,e'.eH,⟨[],rfl⟩,e'.aA.trans s2⟩,e1.c7⟩ r2 (.lst g2 (aQ.aA s2 a'))⟩
def fk.imp {gx:Ξ2}{t t':TT}(h:fk X gx t)(i:∀σ H Q,t' σ H Q->t σ H Q):fk X gx t':=λaa s σ H Q I q=>h aa s σ H Q I (i σ H Q q)
def fb:MT:=λ_ O Q=>Q true O
def qQ:fk X [] (lx K QX E fb):=fk.imp vC λσ H Q ⟨w,O,sl,Q0,c,m,q⟩=>q true O w H m (cq.refl _ _ _) c.ro
def zM {e:Expr}{M:MT}(h:PT X e (lx K QX E M)):fk X [e] (lx K QX E M):=gN h
section
variable {scope:Scope}{own cap:Δ2}{ix:List Nat}{tg iter d9:Expr}{gx:Ξ2}{it:MA}{mg:MG}{C:MT}{M:ME}{pos:Pos}
def lA (B:aG X scope own cap ix)(hc:X.calm=true)(hi:PI X tg iter (EO K QX E it))(hk:Keeps own.length mg)
  (hb:∀C' fp s H,PG (d6 X scope C' (own++cap) fp s H) tg (vk K QX E mg)/\fk (d6 X scope C' (own++cap) fp s H) gx (lx K QX E C)/\PE (d6 X scope C' (own++cap) fp s H) d9 (cy K QX E M))
  (hs:∀x,foldedSetIterable iter X.env x=pure x:=by intro _;rfl):PE X (.ListComp d9 [⟨tg,iter,gx,0⟩] scope pos) (cy K QX E (bQ own.length ix it mg C M)):=PE.imp (sW B hc hi hb hs) (qt hk)
def rW {i:Nat}{y:Str}{py B4:Pos}(hN:X.N.Nodup)(V1:X.N[i]?=some y)(hx:X.env.scope.names.lookup y=some .local)(B:aG X scope own cap ix)(hc:X.calm=true)(hi:PI X tg iter (EO K QX E it))(hk:Keeps own.length mg)
  (hb:∀C' fp s H,PG (d6 X scope C' (own++cap) fp s H) tg (vk K QX E mg)/\fk (d6 X scope C' (own++cap) fp s H) gx (lx K QX E C)/\PE (d6 X scope C' (own++cap) fp s H) d9 (cy K QX E M))
  (QC:swapsWith (.ListComp d9 [⟨tg,iter,gx,0⟩] scope pos) (some (.Name y py)) B4.line X.env=pure true:=by rfl)
  (hs:∀x,foldedSetIterable iter X.env x=pure x:=by intro _;rfl):PS X (.Assign [.Name y py] (.ListComp d9 [⟨tg,iter,gx,0⟩] scope pos) B4) (mH K QX E (aL (bQ own.length ix it mg C M) (aP i))):=PS.imp (yO hN V1 hx B hc hi hb QC hs) (oE (qt hk) uc)
end
abbrev FM:=aU->List AV->(AV->aU->Prop)->(Addr->aU->Prop)->Prop
def qW (K:Θ1)(sp:Sp)(F:FM):Prop:=∀(w:Wd) (O:aU) (H:Hp) (vs:List V) (xs:List AV) (P:AV->aU->Prop) (PX:Addr->aU->Prop) (Q:VK) (E:XK),aJ K w O H->bU K w (G w O H) vs xs->F O xs P PX ->
 (∀z q O' w' H',P q O'->cq w O H w' O' H'->aJ K w' O' H'->j8 K w' (G w' O' H') z q->Q z H')->(∀c O' w' H',PX c O'->lz w O H w' O' H'->aJ K w' O' H'->E (.ref c) none H')->sp vs H Q E
def cF (K:Θ1)(F:FM):Sp:=λvs H Q E=>∃w O xs P PX,aJ K w O H/\bU K w (G w O H) vs xs/\F O xs P PX/\(∀z q O' w' H',P q O'->cq w O H w' O' H'->aJ K w' O' H'->j8 K w' (G w' O' H') z q->Q z H')/\∀c O' w' H',PX c O'->lz w O H w' O' H'->aJ K w' O' H'->E (.ref c) none H'
def fz {F:FM}:qW K (cF K F) F:=λw O H vs xs P PX Q E r a f q x=>⟨w,O,xs,P,PX,r,a,f,q,x⟩
def au (F:FM)(QX:Addr->aU->Prop)(Ms:MA):ME:=λsl O Q=>Ms sl O λxs O1=>F O1 xs Q QX
def bP:Addr->aU->Prop:=λ_ _=>False
def Eo {k:Nat}{f:Addr}{fd:FuncData}{ps:Δ2}{sp:Sp}{F:FM}{x:Str}{e:Expr}{es:Ξ2}{p pos:Pos}{Ms:MA}(G':aO X.prog X.w X.K X.mg X.base cQ k f fd ps sp)(lk:qW K sp F)(hr:db k X.A)(hg:Gl X x)(hm:X.mg x=some (.ref f))(hk:PySem.W.keepIn X.K (.ref f)=true)(hb:Binds X.K fd ps [])
  (ha:PA X (e::es) (u5 K QX E Ms)) (tf:(x == ("__debug__" : Str))=false:=by decide) (he:starEach (e::es) X.env=(false,eval e X.env)::starEach es X.env:=by rfl) (kA:(backTo pos (starEach es X.env)).any (·.1)=false:=by rfl) :
  PE X (.Call (.Name x p) (e::es) [] pos) (cy K QX E (au F bP Ms)):=PE.imp (d8 G' hr hg hm hk hb (Fc:=[]) .nil aY ha tf he kA) λσ H Q ⟨w,O,sl,Q0,c,m,q⟩=>⟨w,O,sl,_,c,m,λxs O1 vs w1 H1 h1 e1 r1 a1=>by
 show sp (vs++[]) H1 Q E0;rw[Ye];exact lk w1 O1 H1 vs xs _ bP Q E0 r1 a1 h1 (λz z' O3 w3 H3 h3 e3 r3 a3=>q _ O3 z w3 H3 h3 (e1.trans e3) r3 a3) λk O' w' H' qx e' r'=>qx.elim⟩
def bf (N:Δ2)(xs:List AV):iO:=xs.map some++List.replicate (N.length-xs.length) none
def uK {N:Δ2}{vs:List V}{xs:List AV}{g:Hp}(a:bU K w g vs xs):bX K w g (L2.start N vs) (bf N xs):=by
 unfold L2.start bf;refine⟨by simp[a.1],λi x hx=>?_⟩;rcases Yg i xs.length with y |y
 .rw[Z4 (by simpa using y),Zh,Zc y] at hx;have ex:xs[i]=x:=by injection (Option.some.inj hx)
  have yv:i<vs.length:=by rw[a.1];exact y
  refine⟨vs[i],?_,a.2 i _ x (Zc yv) (by rw[Zc y,ex])⟩;rw[Z4 (by simpa using yv),Zh,Zc yv];rfl
 .rw[Yv (by simpa using y),Ql] at hx;split at hx
  .cases Option.some.inj hx
  .cases hx
variable {P:Program}{wo:World}{mg:Θ3}{base:Heap}
def kC {x qual:Str}{st:Stmt}{f:Addr}{fd:FuncData}{N ps:Δ2}{k:Nat}{F:FM}(U:cL K x qual st f fd)(S:ap N ps (bh st))(hl:∀O xs P PX,F O xs P PX->xs.length=ps.length)
  (hb:∀(bv:Value) (A:Around) (outer:List Env) (s:Shared) (H:Hp) (E:XK) (QX:Addr->aU->Prop),db k (A.deeper (PyProof.Rows.envOfC qual (bh st) s.heap.objs.size f bv)) ->
   ∃M,jO (ka cQ P wo K mg base N qual (bh st) f bv A outer s H E).PK (sG st) (mH K QX E M)/\∀O xs Pq,F O xs Pq QX->M { nx:=λ_ O'=>Pq (.im .none) O',rt:=Pq } (bf N xs) O):aO P wo K mg base cQ (k+1) f fd ps (cF K F):=by
 refine U.ok S (λvs H Q E ⟨w,O,xs,P,PX,r,a,h,q⟩=>by rw[a.1];exact hl O xs P PX h) (λbv A outer s H vs Q E hr ⟨w,O,xs,P',PX,r,a,h,q,x⟩=>?_);obtain⟨M,hM,hq⟩:=hb bv A outer s H E PX hr;exact⟨_,hM,w,O,bf N xs,_,⟨r,uK a,x⟩,hq O xs P' h,λiL O' w' H' aH h' c' e'=>q _ _ O' w' H' h' e' c'.ro .bZ,λiL O' w' H' aH h' c' e'=>h'.elim,λiL O' w' H' aH h' c' e'=>h'.elim,λx' O' w' H' v h' e' r' a'=>q v x' O' w' H' h' e' r' a'⟩
def nA (Mo:ME)(Ms:MA):ME:=λsl O Q=>Mo sl O λo O1=>match o with
 |.own k=>(∃c,O1[k]?=some (some c))/\Ms sl O1 λxs O2=>match xs with
  |[y]=>∃c,O2[k]?=some (some c)/\c.length<sizeLine/\Q (.im .none) (O2.set k (some (c++[y])))
  |_=>False
 |_=>False
end
section
variable {K:Θ1}{QX:Addr->aU->Prop}{E:XK}{X:Cx}{w:Wd}{O:aU}{H:Hp}
def gw {o e:Expr}{Mo:ME}{Ms:MA}{nI eL:Pos}(ho:PE X o (cy K QX E Mo))(ha:PA X [e] (u5 K QX E Ms))
  (tX:attributeBase o "append" X.env (eval o X.env)=eval o X.env:=by rfl)
  (LZ:((backTo eL (starEach [e] X.env)).all (λx=>!x.1)&&(backToKw eL (keywordEach [] X.env)).all (λx=>x.1.isSome)
   && decide ([e].length+([]:List Keyword).length+(if ([]:List Keyword).isEmpty then 0 else 1)<30))=true:=by rfl)
  (tV:(nI.endLine == eL.line)=true:=by rfl) (hs:starEach [e] X.env=(false,eval e X.env)::starEach [] X.env:=by rfl) (wD:(backTo eL (starEach [] X.env)).any (·.1)=false:=by rfl) :
  PE X (.Call (.Attribute o "append" nI) [e] [] eL) (cy K QX E (nA Mo Ms)):=PE.imp (To PySem.F.plainAttrs_list PySem.F.slot_list_append PySem.F.type_list_append lU ho ha tX LZ tV hs wD) λσ H Q ⟨w,O,sl,Q0,c,m,q⟩=>⟨w,O,sl,_,c,m,λo' O1 v w1 H1 h1 e1 r1 a1=>by
 split at h1
 .obtain⟨⟨c0,OZ⟩,h1⟩:=h1;obtain⟨p,hp,rfl⟩:=a1;refine⟨.inl ⟨rfl,?_⟩,w1,O1,sl,_,c.ex e1.ex r1,h1,λxs O2 vs w2 H2 h2 e2 r2 a2=>?_⟩
  .obtain⟨p1,pK,h0,g1,t1⟩:=r1.sS _ _ OZ;rw[hp] at h0;cases Option.some.inj h0;exact⟨pK,bi.of g1⟩
  .split at h2
   .obtain⟨c',mq,h2⟩:=h2;obtain⟨v1,us,rfl,b1,b2⟩:=a2.aW;rw[b2.cn];obtain⟨p1,pK,h0,g1,t1⟩:=r2.sS _ _ mq;rw[e2.ex.at hp] at h0;cases Option.some.inj h0;obtain⟨r3,e3⟩:=r2.put mq (e2.ex.at hp) g1 (t1.app (bU.cons b1 bU.nil));exact⟨_,pK,v1,rfl,rfl,g1,by rw[t1.1];exact h2.1,q _ _ _ _ _ h2.2 ((e1.trans e2).trans e3) r3 .bZ⟩
   .exact h2.elim
 .exact h1.elim⟩
structure nJ (O O':aU):Prop where
 len:O'.length=O.length
 at':∀j:Nat,O'[j]?=O[j]? \/ O'[j]?=some none
def nJ.refl (O:aU):nJ O O:=⟨rfl,λ_=>.inl rfl⟩
def nJ.set {O O':aU}(h:nJ O O')(k:Nat):nJ O (O'.set k none):=⟨by rw[Xx];exact h.len,λj=>by
 by_cases e:k=j
 .subst e;rcases Yg k O'.length with y |y
  .exact .inr (Yu y)
  .rw[List.set_eq_of_length_le y];exact h.at' k
 .rw[Yr e];exact h.at' j⟩
def aJ.less (r:aJ K w O H){O':aU}(h:nJ O O'):aJ K w O' H/\cq w O H w O' H/\∀(j:Nat) a,O'[j]?=some none->w.eH[j]?=some a->G w O' H a=H a:=by
 have back:∀(j:Nat) c,O'[j]?=some (some c)->O[j]?=some (some c):=λj c hj=>by
  rcases h.at' j with e |e
  .rw[<- e];exact hj
  .rw[e] at hj;cases Option.some.inj hj
 have rf:∀x,lC w O' x->lC w O x:=λx h=>by
  rcases h with h |h |⟨j,d,h1,h2⟩
  .exact .inl h
  .exact .inr (.inl h)
  .exact .inr (.inr ⟨j,d,h1,back j d h2⟩)
 have sg:az (G w O H) (G w O' H):=λx o h=>by
  obtain⟨h1,h2⟩:=hW h;rw[kc (λz=>h2 (rf x z))];exact h1
 have e:cq w O H w O' H:=⟨⟨⟨[],by simp⟩,⟨[],by simp⟩,⟨[],by simp⟩,sg⟩,rfl⟩;refine⟨⟨by rw[h.len];exact r.len,r.nd,r.al,r.nb,r.hn,r.nh,r.bg,λj d hj=>?_⟩,e,λj a hj ha=>?_⟩
 .obtain⟨a',us,h1,h2,h3⟩:=r.sS j d (back j d hj);exact⟨a',us,h1,h2,h3.ex e.ex⟩
 .rw[kc];rintro(h1 |⟨o,h1⟩ |⟨i,d,h1,h2⟩)
  .exact r.nb _ h1 (Zu ha)
  .exact(r.nh _ h1).1 (Zu ha)
  .have:j=i:=(List.getElem?_inj (Zf.mp ha).1 r.nd).mp (ha.trans h1.symm);subst this;rw[hj] at h2;cases Option.some.inj h2
def aJ.Kf (r:aJ K w O H){O':aU}(h:nJ O O'){k:Nat}{ds:Ξ1}{a:Addr}(hk:O[k]?=some (some (ds.map .im)))(vf:O'[k]?=some none)(ha:w.eH[k]?=some a):cV (G w O' H) (.ref a) (.list ds):=by
 obtain⟨r1,e1,g1⟩:=r.less h;obtain⟨a',vs,h1,h2,h3⟩:=r.sS k _ hk;rw[ha] at h1;cases Option.some.inj h1;exact .lst (xs:=vs) (by rw[g1 k a vf ha];exact h2) (bU.tr (h3.ex e1.ex))
def uf {α : Type}{xs:List α}{i:Nat}{x:α}(h:xs[i]?=some x):xs.set i x=xs:=by
 apply List.ext_getElem?;intro j;by_cases e:i=j
 .subst e;rw[Yu (Zf.mp h).1,h]
 .rw[Yr e]
def rd (i:Nat)(M:MS):MS:=λD sl O=>∃(k:Nat) (ds:Ξ1),sl[i]?=some (some (.own k))/\O[k]?=some (some (ds.map .im))/\M D (sl.set i (some (.im (.list ds)))) (O.set k none)
def jc (i:Nat){OA:List Stmt}{M:MS}(h:jO X OA (mH K QX E M)):jO X OA (mH K QX E (rd i M)):=jO.imp h λD σ H ⟨w,O,sl,D0,c,⟨k,ds,h1,h2,m⟩,hn,hb,hc,hr⟩=>by
 have hL:=(nJ.refl O).set k;obtain⟨r1,e1,_⟩:=c.ro.less hL;obtain⟨v,hv,a,ha,rfl⟩:=c.so.2 i _ h1;have t:=c.ro.Kf hL h2 (Yu (Zf.mp h2).1) ha;have c2:=(c.ex e1.ex r1).put (x:=.im (.list ds)) t i;rw[uf hv] at c2;exact⟨w,_,_,D0,c2,m,λcN O2 w2 H2 c3 h2 c2 e2=>hn cN O2 w2 H2 c3 h2 c2 (e1.trans e2),λcN O2 w2 H2 c3 h2 c2 e2=>hb cN O2 w2 H2 c3 h2 c2 (e1.trans e2),λcN O2 w2 H2 c3 h2 c2 e2=>hc cN O2 w2 H2 c3 h2 c2 (e1.trans e2),λx O2 w2 H2 v h2 e2 r2 a2=>hr x O2 w2 H2 v h2 (e1.trans e2) r2 a2⟩
def iq (O:aU):List Nat->aU
 |[]=>O
 |k::ks=>iq (O.set k none) ks
theorem lq:∀(ks:List Nat) {O O':aU},nJ O O'->nJ O (iq O' ks)
 |[],_,_,h=>h
 |k::ks,_,_,h=>lq ks (h.set k)
theorem lr:∀(ks:List Nat) {O:aU}{j:Nat},O[j]?=some none->(iq O ks)[j]?=some none
 |[],_,_,h=>h
 |k::ks,O,j,h=>lr ks (by
  by_cases e:k=j
  .subst e;exact Yu (Zf.mp h).1
  .rw[Yr e];exact h)
theorem kq:∀(ks:List Nat) {O:aU}{j:Nat},j∈ks->j<O.length->(iq O ks)[j]?=some none
 |k::ks,O,j,h,hl=>by
  rcases Zl.mp h with e |e
  .subst e;exact lr ks (Yu hl)
  .exact kq ks e (by rw[Xx];exact hl)
def Cu (i:Nat)(M:MS):MS:=λD sl O=>∃(k:Nat) (ks:List Nat) (IY:List (Ξ1)),sl[i]?=some (some (.own k))/\O[k]?=some (some (ks.map .own))/\ks.length=IY.length/\(∀(j:Nat) kj,ks[j]?=some kj->O[kj]?=some (some ((IY.getD j []).map .im))) /\
 M D (sl.set i (some (.im (.list (IY.map .list))))) (iq O (k::ks))
theorem yA {g:Hp}:∀{vs:List V}{ds:Ξ1},vs.length=ds.length->(∀(j:Nat) v d,vs[j]?=some v->ds[j]?=some d->cV g v d)->aQ g vs ds
 |[],[],_,_=>.nil
 |v::vs,d::ds,h,f=>.cons (f 0 v d rfl rfl) (yA (by simpa using h) λj v' d' h1 h2=>f (j+1) v' d' (by simpa using h1) (by simpa using h2))
def HP (i:Nat){OA:List Stmt}{M:MS}(h:jO X OA (mH K QX E M)):jO X OA (mH K QX E (Cu i M)):=jO.imp h λD σ H ⟨w,O,sl,D0,c,⟨k,ks,IY,h1,h2,hl,h3,m⟩,hn,hb,hc,hr⟩=>by
 have hL:=lq (k::ks) (nJ.refl O);obtain⟨r1,e1,g1⟩:=c.ro.less hL;obtain⟨v,hv,a,ha,rfl⟩:=c.so.2 i _ h1;have OV:=(Zf.mp h2).1;obtain⟨a',vs,q1,q2,q3⟩:=c.ro.sS k _ h2;rw[ha] at q1;cases Option.some.inj q1;have t:cV (G w (iq O (k::ks)) H) (.ref a) (.list (IY.map .list)):=by
  refine .lst (xs:=vs) (by rw[g1 k a (kq _ Zm OV) ha];exact q2) (yA (by rw[q3.1,Za,Za,hl]) λj v d hv hd=>?_);have hj:j<IY.length:=by have:=(Zf.mp hd).1;simpa using this
  have vf:ks[j]?=some ks[j]:=Zc (by omega);have:=q3.2 j v (.own ks[j]) hv (by rw[Zh,vf];rfl);obtain⟨p,hp,rfl⟩:=this;have hO:=h3 j _ vf;rw[Zh,Zc hj] at hd;have Wc:d=.list (IY.getD j []):=by rw[ak (Zc hj)];exact(Option.some.inj hd).symm
  rw[Wc];exact c.ro.Kf hL hO (kq _ (Zq _ (Zu vf)) (Zf.mp hO).1) hp
 have c2:=(c.ex e1.ex r1).put (x:=.im (.list (IY.map .list))) t i;rw[uf hv] at c2;exact⟨w,_,_,D0,c2,m,λcN O2 w2 H2 c3 h2 c2 e2=>hn cN O2 w2 H2 c3 h2 c2 (e1.trans e2),λcN O2 w2 H2 c3 h2 c2 e2=>hb cN O2 w2 H2 c3 h2 c2 (e1.trans e2),λcN O2 w2 H2 c3 h2 c2 e2=>hc cN O2 w2 H2 c3 h2 c2 (e1.trans e2),λx O2 w2 H2 v h2 e2 r2 a2=>hr x O2 w2 H2 v h2 (e1.trans e2) r2 a2⟩
def iI:FM:=λO xs P _=>match xs with
 |[.bag _,.im (.int m)]=>(0<m/\m<1073741824)/\∀r:Int,0<=r->r<m->P (.im (.int r)) O
 |_=>False
def ES:qW K ke iI:=λw O H vs xs P PX Q E r a hf q x=>by
 unfold iI at hf;split at hf
 .obtain⟨v,us,rfl,h1,h2⟩:=a.aW;obtain⟨v2,Km,rfl,h3,h4⟩:=h2.aW;rw[h4.cn];obtain⟨b,hb,rfl⟩:=h1;rw[j6 h3];have br:=Zu hb;refine⟨b,_,rfl,r.bg b br,hf.1.1,hf.1.2,λi H' h0 hm hB hK=>?_⟩;obtain⟨r1,e1,_⟩:=r.draw br hK hB;exact q _ _ O w H' (hf.2 i h0 hm) e1 r1 (.int _)
 .exact hf.elim
def L7:FM:=λO xs P _=>match xs with
 |[.xC _,.im (.int k)]=>(0<=k/\k<100)/\∀j,P (.bag j) O
 |_=>False
def N0:qW K (Ci K) L7:=λw O H vs xs P PX Q E r a hf q x=>by
 unfold L7 at hf;split at hf
 .obtain⟨v,us,rfl,h1,h2⟩:=a.aW;obtain⟨v2,Km,rfl,h3,h4⟩:=h2.aW;rw[h4.cn];obtain⟨b,rfl,hb⟩:=h1;rw[j6 h3];refine⟨b,_,_,rfl,KG.bi.aA hb tK,hf.1.1,hf.1.2,λp c d hp=>?_⟩;obtain⟨r1,e1⟩:=r.bag (x:=c) (y:=d) hp;exact q _ _ O _ _ (hf.2 w.eN.length) e1 r1 ⟨p,by simp,rfl⟩
 .exact hf.elim
def Cs (r:aJ K w O H){p:Addr}{q:Rat}(hp:H p=none):aJ K w O (aF H p (qO q))/\cq w O H w O (aF H p (qO q))/\cV (G w O (aF H p (qO q))) (.ref p) (qD q):=fX r hp (.cons (.int _) (.cons (.int _) .nil))
def Io (r:aJ K w O H){p:Addr}{q:Rat}{H':Hp}(s:az H H')(hp:H' p=some (qO q)):aJ K w O H'/\cq w O H w O H'/\cV (G w O H') (.ref p) (qD q):=gU r s hp (.cons (.int _) (.cons (.int _) .nil))
def Pe {v:V}{q:Rat}(h:cV (G w O H) v (qD q)):∃p,v=.ref p/\H p=some (qO q):=by
 obtain⟨a,xs,rfl,h1,t⟩:=eU h;cases t with |cons t1 t2=>cases t2 with |cons t2 t3=>cases t3;cases t1;cases t2;exact⟨a,rfl,h1⟩
def ph:FM:=λO xs P _=>match xs with
 |[.im (.int t),.im (.int u)]=>(0<u/\Bd 8000 u)/\P (.im (qD (Rat.divInt t u))) O
 |_=>False
def nM:qW K nu ph:=λw O H vs xs P PX Q E r a hf q x=>by
 unfold ph at hf;split at hf
 .obtain⟨v,us,rfl,h1,h2⟩:=a.aW;obtain⟨v2,Km,rfl,h3,h4⟩:=h2.aW;rw[h4.cn,j6 h1,j6 h3];refine⟨_,_,rfl,hf.1.1,hf.1.2,λp hp=>?_⟩;obtain⟨r1,e1,t1⟩:=Cs r hp;exact q _ _ O w _ hf.2 e1 r1 t1
 .exact hf.elim
def f2 (op:Rat->Rat->Rat):FM:=λO xs P _=>∃a b,xs=[.im (qD a),.im (qD b)]/\(Rb 3000 a/\Rb 3000 b)/\P (.im (qD (op a b))) O
def nB {op:Rat->Rat->Rat}:qW K (vp op) (f2 op):=λw O H vs xs P PX Q E r a hf q x=>by
 obtain⟨a1,b1,rfl,h0,hf⟩:=hf;obtain⟨v,us,rfl,h1,h2⟩:=a.aW;obtain⟨v2,Km,rfl,h3,h4⟩:=h2.aW;rw[h4.cn];obtain⟨p1,rfl,g1⟩:=Pe h1;obtain⟨p2,rfl,g2⟩:=Pe h3;refine⟨p1,p2,a1,b1,rfl,g1,g2,h0.1,h0.2,λp hp=>?_⟩;obtain⟨r1,e1,t1⟩:=Cs r hp;exact q _ _ O w _ hf e1 r1 t1
def l8:FM:=λO xs P _=>∃a b,xs=[.im (qD a),.im (qD b)]/\(Rb 3000 a/\Rb 3000 b)/\P (.im (.bool (decide (a<b)))) O
def iu:qW K gh l8:=λw O H vs xs P PX Q E r a hf q x=>by
 obtain⟨a1,b1,rfl,h0,hf⟩:=hf;obtain⟨v,us,rfl,h1,h2⟩:=a.aW;obtain⟨v2,Km,rfl,h3,h4⟩:=h2.aW;rw[h4.cn];obtain⟨p1,rfl,g1⟩:=Pe h1;obtain⟨p2,rfl,g2⟩:=Pe h3;exact⟨p1,p2,a1,b1,rfl,g1,g2,h0.1,h0.2,q _ _ O w H hf (cq.refl _ _ _) r (.bl _)⟩
theorem Kb {g:Hp}:∀{qs:Δ1}{ys:List V},aQ g ys (qs.map qD)->jw g ys qs
 |[],_,h=>by cases h;exact⟨rfl,λj y h=>by simp at h⟩
 |q::qs,_,h=>by
  cases h with |cons h1 h2=>?_
  have ih:=Kb h2;cases h1 with |tup h3 h4=>?_
  cases h4 with |cons t1 t2=>?_
  cases t2 with |cons t2 t3=>?_
  cases t3
  cases t1
  cases t2
  refine⟨by simp[ih.1],λj y hy=>?_⟩;cases j with
  |zero=>exact⟨_,(Option.some.inj hy).symm,h3⟩
  |succ j=>exact ih.2 j y (by simpa using hy)
def L4:FM:=λO xs P _=>∃qs:Δ1,xs=[.im (.list (qs.map qD))]/\((∀q∈qs,Rb 300 q)/\qs.length<=8)/\P (.im (qD (bz qs))) O
def yZ:qW K xL L4:=λw O H vs xs P PX Q E r a hf q x=>by
 obtain⟨qs,rfl,h0,hf⟩:=hf;obtain⟨v,us,rfl,h1,h2⟩:=a.aW;rw[h2.cn];obtain⟨p,ys,rfl,g1,t1⟩:=fK h1;refine⟨p,ys,qs,rfl,g1,(Kb t1).aA tK,h0.1,h0.2,λr' H' s jN=>?_⟩;obtain⟨r1,e1,t2⟩:=Io r s jN;exact q _ _ O w H' hf e1 r1 t2
end
section
variable {n:Nat}{ix:List Nat}{items:List AV}{M:ME}{C:MT}{sl:iO}{O:aU}{Q:AV->aU->Prop}
def EG (R:Nat->PyData->Prop)(hl:items.length<=1000000)
  (hs:∀(i:Nat) x (Z:AV->aU->Prop),items[i]?=some x->(∀d,R i d->Z (.im d) O)->M ((fE n ix sl).set 0 (some x)) O Z)
  (hd:∀ds:Ξ1,ds.length=items.length->(∀j,j<ds.length->R j (ds.getD j .none))->Q (.im (.list ds)) O):CB n ix (aP 0) fb M sl Q items O:=by
 refine⟨hl,λi ds O'=>O'=O/\ds.length=i/\∀j,j<ds.length->R j (ds.getD j .none),⟨rfl,rfl,λj hj=>absurd hj (by simp)⟩,?_,λds O' ⟨e,h1,h2⟩=>e▸hd ds h1 h2⟩;rintro i x ds O' hx ⟨rfl,hli,hR⟩;refine⟨λ_=>hs i x _ hx λd hdR=>⟨rfl,by simp[hli],λj hj=>?_⟩,λz=>by cases z⟩;rcases Yg j ds.length with y |y
 .have:(ds++[d]).getD j .none=ds.getD j .none:=by simp[List.getD,Z4 y]
  rw[this];exact hR j y
 .have sZ:j=ds.length:=by simp at hj;omega
  subst sZ;have:(ds++[d]).getD ds.length .none=d:=by simp[List.getD]
  rw[this,hli];exact hdR
def Ih {ds:Ξ1}{f:Nat->PyData}(h:∀j,j<ds.length->ds.getD j .none=f j):ds=(List.range ds.length).map f:=by
 apply List.ext_getElem?;intro j;rw[Zh];rcases Yg j ds.length with y |y
 .rw[Y3 y,Y0,<- h j y,ak (Zc y)];exact Zc y
 .rw[Yw y,Yw (by simpa using y)];rfl
def u8 (f:Nat->PyData)(hl:items.length<=1000000)
  (hs:∀(i:Nat) x (Z:AV->aU->Prop),items[i]?=some x->Z (.im (f i)) O->M ((fE n ix sl).set 0 (some x)) O Z)
  (hd:Q (.im (.list ((List.range items.length).map f))) O):CB n ix (aP 0) fb M sl Q items O :=
 EG (λi d=>d=f i) hl (λi x Z hx h=>hs i x Z hx (h _ rfl)) λds h1 h2=>by rw[Ih h2,h1];exact hd
def EV (c:Nat->Bool)(f:Nat->PyData)(hl:items.length<=1000000)
  (hc:∀(i:Nat) x (Z:Bool->aU->Prop),items[i]?=some x->Z (c i) O->C ((fE n ix sl).set 0 (some x)) O Z)
  (hs:∀(i:Nat) x (Z:AV->aU->Prop),items[i]?=some x->c i=true->Z (.im (f i)) O->M ((fE n ix sl).set 0 (some x)) O Z)
  (hd:Q (.im (.list (((List.range items.length).filter c).map f))) O):CB n ix (aP 0) C M sl Q items O:=by
 refine⟨hl,λi ds O'=>O'=O/\ds=((List.range i).filter c).map f,⟨rfl,rfl⟩,?_,λds O' ⟨e,h1⟩=>by rw[e,h1];exact hd⟩;rintro i x ds O' hx ⟨rfl,rfl⟩;exact hc i x _ hx ⟨λh=>hs i x _ hx h ⟨rfl,by rw[gW,h,if_pos rfl]⟩,λh=>⟨rfl,by rw[gW,h,if_neg (by decide),Ye]⟩⟩
def sL (lo:Int)(n:Nat):(tH lo n).length=n:=by unfold tH;simp
def M3 {lo:Int}{n i:Nat}{x:AV}(h:(tH lo n)[i]?=some x):i<n/\x=.im (.int (lo+(i:Int))):=by
 unfold tH at h;have hi:i<n:=by have:=(Zf.mp h).1;simpa using this
 rw[Zh,Y3 hi] at h;exact⟨hi,(Option.some.inj h).symm⟩
def sK {n i:Nat}{x:AV}(h:(tH 0 n)[i]?=some x):i<n/\x=.im (.int (i:Int)):=by
 obtain⟨h1,h2⟩:=M3 h;exact⟨h1,by rw[h2,Int.zero_add]⟩
def dI {i j:Int}:min (PyData.int i).depth (PyData.int j).depth<=60:=by show min 0 0<=60;decide
def R9 {α : Type}{x:α}:[x].length<=sizeLine:=by show 1<=sizeLine;decide
def gE {α : Type}{x y:α}:[x,y].length<=sizeLine:=by show 2<=sizeLine;decide
def R8 {α : Type}{x y z:α}:[x,y,z].length<=sizeLine:=by show 3<=sizeLine;decide
def bo {α : Type}{xs:List α}{i:Nat}{x:α}(h:xs[i]?=some x):iF xs (i:Int)=some x:=m9 h
def cD (O O':aU):Prop:=∃t,O'=O++t
def cD.app {O O':aU}(h:cD O O')(c:Option (List AV)):cD O (O'++[c]):=by obtain⟨t,rfl⟩:=h;exact⟨t++[c],by simp⟩
def cD.set {O O':aU}(h:cD O O'){k:Nat}(hk:O.length<=k)(c:Option (List AV)):cD O (O'.set k c):=by
 obtain⟨t,rfl⟩:=h;exact⟨t.set (k-O.length) c,by rw[List.set_append,if_neg (by omega)]⟩
theorem cD.none {O:aU}:∀{ks:List Nat}{O':aU},cD O O'->(∀k∈ks,O.length<=k)->cD O (iq O' ks)
 |[],_,h,_=>h
 |k::ks,_,h,hk=>cD.none (ks:=ks) (h.set (hk k Zm) _) λj hj=>hk j (Zq _ hj)
def dm (A:Γ3)(Pu:Δ1)(W:Γ1):PyData:=.tuple [.tuple (A.map .int),.tuple (Pu.map qD),.tuple (W.map aS)]
def iM {α β : Type}{f:α->β}{xs:List α}{j:Nat}{d:α}(h:j<xs.length):(xs.map f)[j]?=some (f (xs.getD j d)):=by
 rw[Zh,Zc h,ak (Zc h)];rfl
end
section
variable {K:Θ1}{QX:Addr->aU->Prop}{E:XK}{X:Cx}{w:Wd}{O:aU}{H:Hp}
section
variable {e:Expr}{M:ME}{p p2 pos:Pos}
end
def jJ {xs:Ξ1}{r:Int}(h0:0<=r)(h1:r<=xs.length):cutD xs (some r) none=xs.drop r.toNat:=by
 have e1:HT.cU xs.length 0 (some r)=r.toNat:=by
  show(if r<0 then (r+(xs.length:Int)).toNat else min r.toNat xs.length)=_;rw[if_neg (by omega)];omega
 unfold cutD;rw[HT.k9,e1,Qc];rw[Xk];omega
def Sy {vs:List V}{x:AV}{g:Hp}(a:bU K w g vs [x]):∃v,vs=[v]/\j8 K w g v x:=by
 obtain⟨v,us,rfl,h1,h2⟩:=a.aW;rw[h2.cn];exact⟨v,rfl,h1⟩
def wf {vs:List V}{x y:AV}{g:Hp}(a:bU K w g vs [x,y]):∃v u,vs=[v,u]/\j8 K w g v x/\j8 K w g u y:=by
 obtain⟨v,us,rfl,h1,h2⟩:=a.aW;obtain⟨u,rfl,h3⟩:=Sy h2;exact⟨v,u,rfl,h1,h3⟩
theorem fw {α : Type}{f:α->PyData}(h:∀a,Bx (f a)=true):∀xs:List α,q5 (xs.map f)=true
 |[]=>rfl
 |a::xs=>by show(Bx (f a)&&q5 (xs.map f))=true;rw[h a,fw h xs];rfl
def JJ (q:Rat):Bx (qD q)=true:=rfl
def Dh (qs:Δ1):Bx (.tuple (qs.map qD))=true:=fw JJ qs
def yV (r:Γ3):Bx (aS r)=true:=fw (f:=PyData.int) (λ_=>rfl) r
def Di (A:Γ3)(Pu:Δ1)(W:Γ1):Bx (dm A Pu W)=true:=by
 show(q5 (A.map .int)&&(q5 (Pu.map qD)&&(q5 (W.map aS)&&true)))=true;rw[fw (f:=PyData.int) (λ_=>rfl),fw JJ,fw yV];rfl
def Vd {v:V}{d:PyData}(b:Addr)(h:cV (G w O H) v d)(n:Bx d=true):gZ b H v d:=cV.Pw n (cV.aA tK h)
def Δ {v:V}{d:PyData}{b:Addr}(r:aJ K w O H)(h:gZ b H v d)(n:Bx d=true):cV (G w O H) v d:=yz r.lD n h
end
section
variable {K:Θ1}{w:Wd}{O:aU}{H:Hp}
def lT (Pu:Δ1):qS (Pu.map qD)=Pu:=by
 unfold qS;rw[Zj];have:(OE ∘ qD)=id:=funext λq=>i8 q
 rw[this,Xc]
def PV (W:Γ1):rowsOf (W.map aS)=W:=by
 unfold rowsOf;rw[Zj];have:(tP ∘ aS)=id:=funext λr=>by
  show(r.map PyData.int).map bL=r;rw[Zj];have:(bL ∘ PyData.int)=id:=rfl;rw[this,Xc]
 rw[this,Xc]
def Ex (A:Γ3):(A.map PyData.int).map bL=A:=by
 rw[Zj];have:(bL ∘ PyData.int)=id:=rfl;rw[this,Xc]
def RO {v:V}{A:Γ3}{Pu:Δ1}{W:Γ1}(b:Addr)(h:cV (G w O H) v (dm A Pu W))(m:iV (dm A Pu W)=true) :
  ∃p pa pp pw xa xp xw,v=.ref p/\fH b H p pa pp pw xa xp xw (A.map .int) (Pu.map qD) (W.map aS)/\xa.length=A.length/\xp.length=Pu.length:=by
 have t:=Vd b h (Di A Pu W);cases v with
 |ref p =>
  obtain⟨pa,pp,pw,xa,xp,xw,mk⟩:=fH.of t m;exact⟨p,pa,pp,pw,xa,xp,xw,rfl,mk,by rw[mk.ta.len,Za],by rw[mk.tp.len,Za]⟩
 |_=>cases t
def YZ {v:V}{qs:Δ1}(b:Addr)(h:cV (G w O H) v (.tuple (qs.map qD)))(hb:∀z∈qs,Rb 293 z):∃q ys,v=.ref q/\tM b H q ys qs:=by
 cases Vd b h (Dh qs) with |tup h1 h2=>exact⟨_,_,rfl,h1,h2,hb⟩
structure oj (A:Γ3)(Pu:Δ1)(W:Γ1)(qs:Δ1):Prop where
 ok:iV (dm A Pu W)=true
 len:qs.length=A.length
 pL:sT W qs
 bd:∀z∈qs,Rb 293 z
def L5:FM:=λO xs P _=>∃ns:Γ3,xs=[.xC ns]/\ns.length<=63/\∀O',P (.im (.bool true)) O'
def N4 {Pg:Program}{wo:World}{mg:Θ3}{base:Heap}{k:Nat}{f:Addr}{fd:FuncData}(F:aO Pg wo K mg base cQ k f fd ["script"] (cF K L5)):aO Pg wo K mg base cQ k f fd ["script"] (xM K):=F.imp λvs H Q E ⟨a,ns,e,hS,hl,hq⟩=>by
 subst e;have c7:∀x,¬ lC ⟨[],[],[]⟩ [] x:=λx h=>by
  rcases h with h |⟨o,h⟩ |⟨k,c,h,_⟩
  .cases h
  .cases h
  .simp at h
 have sg:az H (G ⟨[],[],[]⟩ [] H):=λx o h=>by rw[kc (c7 x)];exact h
 refine⟨⟨[],[],[]⟩,[],[.xC ns],λz _=>z=.im (.bool true),λ_ _=>False,⟨rfl,Qt,λa h=>(by cases h),λa h=>(by cases h),Qt,λp h=>(by cases h),λa h=>(by cases h),λk c h=>by simp at h⟩,bU.cons ⟨a,rfl,KG.bi.aA hS sg⟩ bU.nil,⟨ns,rfl,hl,λO'=>rfl⟩,λz q O' w' H' hz e r av=>?_,λc O' w' H' h=>h.elim⟩;subst hz;rw[Cb av];exact hq H'
end
def cI (r:Γ3):Option (List AV):=some (r.map λx=>AV.im (.int x))
def vA {α : Type}(O:List α)(x y:α):(O++[x]).set O.length y=O++[y]:=by rw[List.set_append,if_neg (by omega),Nat.sub_self];rfl
def ky {α : Type}(O:List α)(x:α):(O++[x])[O.length]?=some x:=by simp
def zS {α β : Type}(f:α->β)(xs:List α)(d:α):(List.range xs.length).map (λi=>f (xs.getD i d))=xs.map f:=by
 apply List.ext_getElem?;intro j;rw[Zh];rcases Yg j xs.length with y |y
 .rw[Y3 y,iM (d:=d) y];rfl
 .rw[Yw (by simpa using y),Yw (by simpa using y)];rfl
def CL {ds es:Ξ1}{i:Nat}{x:AV}(h:(vS ds es)[i]?=some x):i<ds.length/\x=.im (.tuple [ds.getD i .none,es.getD i .none]):=by
 unfold vS at h;have hi:i<ds.length:=by have:=(Zf.mp h).1;simpa using this
 rw[Zh,Y3 hi] at h;exact⟨hi,(Option.some.inj h).symm⟩
def mO (ds es:Ξ1):(vS ds es).length=ds.length:=by unfold vS;simp
structure K8 (O:aU)(k:Nat)(ks:List Nat)(W:Γ1):Prop where
 hd:O[k]?=some (some (ks.map AV.own))
 len:ks.length=W.length
 row:∀i,i<W.length->O[ks.getD i 0]?=some (cI (W.getD i []))
def mem_getD {ks:List Nat}{i:Nat}(h:i<ks.length):ks.getD i 0∈ks:=by
 rw[ak (Zc h)];exact Zg h
def K8.app {O:aU}{k:Nat}{ks:List Nat}{W:Γ1}(t:K8 O k ks W)(c:Option (List AV)):K8 (O++[c]) k ks W:=by
 refine⟨?_,t.len,λi hi=>?_⟩
 .rw[Z4 (Zf.mp t.hd).1];exact t.hd
 .rw[Z4 (Zf.mp (t.row i hi)).1];exact t.row i hi
def K8.push {O:aU}{k m:Nat}{ks:List Nat}{W:Γ1}(t:K8 O k ks W){r:Γ3}(hm:O[m]?=some (cI r))(nd:(k::ks).Nodup)(hk:m≠k):K8 (O.set k (some (ks.map AV.own++[AV.own m]))) k (ks++[m]) (W++[r]):=by
 have hn:=Yl.mp nd;refine⟨?_,by simp[t.len],λi hi=>?_⟩
 .rw[Yu (Zf.mp t.hd).1,Zr];rfl
 .rw[Z5] at hi;by_cases e:i<W.length
  .have e1:(ks++[m]).getD i 0=ks.getD i 0:=by simp only[List.getD];rw[Z4 (by rw[t.len];exact e)]
   have e2:(W++[r]).getD i []=W.getD i []:=by simp only[List.getD];rw[Z4 e]
   rw[e1,e2,Yr (λz=>hn.1 (by rw[z];exact mem_getD (by rw[t.len];exact e)))];exact t.row i e
  .have KD:i=W.length:=by simp at hi;omega
   subst KD;have e1:(ks++[m]).getD W.length 0=m:=by simp[List.getD,<- t.len]
   have e2:(W++[r]).getD W.length []=r:=by simp[List.getD]
   rw[e1,e2,Yr (λz=>hk z.symm)];exact hm
section
variable {O O':aU}{k1 k2 m i:Nat}{ks1 ks2:List Nat}{W D:Γ1}
end
section
variable {K:Θ1}{QX:Addr->aU->Prop}{E:XK}{X:Cx}
end
section
variable {n:Nat}{ix:List Nat}{sl:iO}{O:aU}{Q:AV->aU->Prop}
end
def Aq:FM:=λO xs P _=>∃a b,xs=[.im (qD a),.im (qD b)]/\(Rb 3000 a/\Rb 3000 b/\0<b)/\P (.im (qD (a / b))) O
def C8 {m t:Rat}(c:Bool):iF [qD m,qD t] (if c=true then 1 else 0)=some (qD (if c=true then t else m)):=by cases c<;>rfl
def eI (B:Γ1)(i j:Nat):Int:=(B.getD i []).getD j 0
structure One (O O':aU)(k:Nat)(ks:List Nat)(W:Γ1):Prop where
 Gh:cD O O'
 ge:∀x∈k::ks,O.length<=x
 nd:(k::ks).Nodup
 t:K8 O' k ks W
def One.iE {O O':aU}{k i:Nat}{ks:List Nat}{W:Γ1}{sl:iO}{M:MS}{E:yt}(h:One O O' k ks W)(hs:sl[i]?=some (some (.own k)))(hm:∀O2,cD O O2->M E (sl.set i (some (.im (.list (W.map λr=>.list (r.map .int)))))) O2):Cu i M E sl O':=by
 refine⟨k,ks,W.map (λr=>r.map .int),hs,h.t.hd,by rw[Za];exact h.t.len,λj kj hj=>?_,?_⟩
 .have hjk:=(Zf.mp hj).1;have hjW:j<W.length:=by rw[<- h.t.len];exact hjk
  have:=h.t.row j hjW;rw[ak hj] at this;rw[this,sN (a:=[]) hjW,Zj];rfl
 .rw[Zj];exact hm _ (cD.none h.Gh λx hx=>h.ge x hx)
section
variable {K:Θ1}
end
def mZ (xs:Ξ1):tj (.list xs) (.list [])=xs.isEmpty:=by
 rw[oh];cases xs<;>rfl
def m6 (d:PyData):min d.depth (PyData.list []).depth<=60:=Zk (Nat.min_le_right _ _) (by decide+kernel)
def cm (g:Nat)(W:Γ1):Γ3:=((List.range g).filter (has W)).map λj:Nat=>(j:Int)
def jS:FM:=λO xs P _=>∃(A:Γ3) (Pu:Δ1) (W:Γ1),xs=[.im (dm A Pu W)]/\A.length<=6/\1<=W.length/\W.length<=6/\(∀i,i<W.length->(W.getD i []).length=A.length)/\P (.im (.list ((cm A.length W).map .int))) O
abbrev Pm:Δ2:=["market"]
def RT:MS:=(cW (bQ 1 [0] (jQ (ae (eG gc (ae (aR bW (af 0) (mC (.int 0))) ai)) ai)) (aP 0) (cw (aR Pb (eG FY (ae (bQ 1 [0] (bw (aR bW (af 1) (mC (.int 2)))) (aP 0) fb (aR bW (af 0) (af 1))) ai)) (mC (.int 0)))) (af 0)))
def il {W:Γ1}{i:Nat}{x:AV}(h:((W.map aS).map AV.im)[i]?=some x):i<W.length/\x=.im (.tuple ((W.getD i []).map .int)):=by
 have hi:i<W.length:=by have:=(Zf.mp h).1;simpa using this
 rw[Zh,iM (d:=[]) hi] at h;exact⟨hi,(Option.some.inj h).symm⟩
def Im {W:Γ1}{j:Nat}{m:Int}(h1:m∈W.map λr=>r.getD j 0)(h2:∀n∈W.map λr=>r.getD j 0,n<=m):decide (0<m)=has W j:=by
 unfold has;rw[Ya,decide_eq_true_eq,Zv];constructor
 .intro z;obtain⟨r,hr,rfl⟩:=Zd.mp h1;exact⟨r,hr,decide_eq_true z⟩
 .rintro⟨r,hr,z⟩;have:=h2 _ (Zd.mpr ⟨r,hr,rfl⟩);have:=of_decide_eq_true z;omega
def M5:∀O xs Pq QX,jS O xs Pq QX->RT { nx:=λ_ O'=>Pq (.im .none) O',rt:=Pq } (bf Pm xs) O:=by
 intro O xs Pq QX h;obtain⟨A,Pu,W,rfl,g6,n1,n6,hr,h⟩:=h;refine⟨_,rfl,⟨by rw[Za];omega,by rw[Za];omega⟩,EV (has W) (λj=>.int (j:Int)) (by rw[sL,Za];omega) (λj x Z hx hZ=>?_) (λj x Z hx _ hZ=>?_) ?_⟩
 .obtain⟨hj,rfl⟩:=sK hx;rw[Za,Zo] at hj;refine⟨_,rfl,?_⟩;conv=>whnf
  refine u8 (λi=>.int ((W.getD i []).getD j 0)) (by simp;omega) (λi x Z hx hZ=>?_) ?_
  .obtain⟨hi,rfl⟩:=il hx;exact⟨_,bo (iM (f:=PyData.int) (d:=0) (by rw[hr i hi];omega)),hZ⟩
  .refine⟨W.map λr=>r.getD j 0,?_,λz=>?_,λm m1 m2=>?_⟩
   .rw[Za,Za,zS (λr:Γ3=>PyData.int (r.getD j 0)) W [],Zj];rfl
   .rw[Xp] at z;rw[z] at n1;exact absurd n1 (by decide)
   .show Z (decide (0<m)) O;rw[Im m1 m2];exact hZ
 .obtain⟨hj,rfl⟩:=sK hx;exact hZ
 .rw[sL,Za,Zo];unfold cm at h;rw[Zj] at h;exact h
def One.app {O O':aU}{k:Nat}{ks:List Nat}{W:Γ1}(h:One O O' k ks W)(c:Option (List AV)):One O (O'++[c]) k ks W:=⟨h.Gh.app c,h.ge,h.nd,h.t.app c⟩
def One.lt {O O':aU}{k:Nat}{ks:List Nat}{W:Γ1}(h:One O O' k ks W):∀x∈k::ks,x<O'.length:=λx hx=>by
 rcases Zl.mp hx with rfl |hx
 .exact(Zf.mp h.t.hd).1
 .obtain⟨i,hi,rfl⟩:=Yt hx;have:=h.t.row i (by rw[<- h.t.len];exact hi);rw[ak (Zc hi)] at this;exact(Zf.mp this).1
def One.push {O O':aU}{k m:Nat}{ks:List Nat}{W:Γ1}(h:One O O' k ks W){r:Γ3}(hm:O'[m]?=some (cI r))(hO:O.length<=m)(hn:m∉k::ks):One O (O'.set k (some (ks.map AV.own++[AV.own m]))) k (ks++[m]) (W++[r]):=by
 have E1:=hn;have nd:=Yl.mp h.nd;simp only[Zl,not_or] at E1;refine⟨h.Gh.set (h.ge k Zm) _,λx hx=>?_,?_,h.t.push hm h.nd E1.1⟩
 .simp only[Zl,Zt,Qu,or_false] at hx;rcases hx with e |e |e
  .subst e;exact h.ge _ Zm
  .exact h.ge _ (Zq _ e)
  .subst e;exact hO
 .refine Yl.mpr ⟨λz=>?_,Qv.mpr ⟨nd.2,by simp,λa ha b hb e=>?_⟩⟩
  .rcases Zt.mp z with z |z
   .exact nd.1 z
   .exact E1.1 (Z2.mp z).symm
  .subst e;rw[Z2.mp hb] at ha;exact E1.2 ha
def DJ {row:Γ3}{qs:Δ1}{g o:Nat}:worse row qs g o=(decide (0<row.getD o 0)&&decide (row.getD g 0*(qs.getD o 0).num*((qs.getD g 0).den:Int)<row.getD o 0*(qs.getD g 0).num*((qs.getD o 0).den:Int))):=by
 unfold worse
 congr 1
 exact decide_eq_decide.mpr Av
def hX (row:Γ3)(qs:Δ1)(g n:Nat):Bool:=decide (row.getD g 0=0)||(List.range n).any (worse row qs g)
def pz:FM:=λO xs P _=>∃(A:Γ3) (Pu:Δ1) (W:Γ1) (qs:Δ1),xs=[.im (dm A Pu W),.im (.tuple (qs.map qD))]/\qs.length<=6/\W.length<=6/\(∀i,i<W.length->(W.getD i []).length=qs.length)/\(∀i j,i<W.length->j<qs.length->0<=eI W i j/\eI W i j<=100)/\(∀z∈qs,Rb 280 z)/\∀O',cD O O'->P (.im (.list ((ah W qs).map λr=>.list (r.map .int)))) O'
abbrev NBe:Δ2:=["market","prices","found","row","best","good","top","bottom","worse","other","there"]
def R6:MS:=(aE (aL (nz ai) (aP 2))
 (aE (eJ (bw (aR bW (af 0) (mC (.int 2)))) (aP 3) (aE (aL (nz ai) (aP 4))
 (aE (eJ (jQ (ae (eG gc (ae (af 3) ai)) ai)) (aP 5) (aE (aL (aR bW (af 1) (af 5)) (vq 2 (bG (aP 6) (bG (aP 7) fJ))))
 (aE (aL (aR (xI false) (aR bW (af 3) (af 5)) (mC (.int 0))) (aP 8))
 (aE (eJ (jQ (ae (eG gc (ae (af 3) ai)) ai)) (aP 9) (aE (aL (aR rc (aR rc (aR bW (af 3) (af 9)) (af 6)) (aR bW (aR bW (af 1) (af 9)) (mC (.int 1)))) (aP 10))
 (ga (pY (cw (aR Pb (aR bW (af 3) (af 9)) (mC (.int 0)))) (cw (aR ltF (aR rc (aR rc (aR bW (af 3) (af 5)) (aR bW (aR bW (af 1) (af 9)) (mC (.int 0)))) (af 7)) (af 10)))) (aL (mC (.bool true)) (aP 8)) dh)))
 (ga (Ga (Al (af 8))) (iY (nA (af 4) (ae (af 5) ai))) dh)))))
 (iY (nA (af 2) (ae (af 4) ai))))))
 (Cu 2 (cW (af 2)))))
def DE {a b c:Nat}{x y:Int}(hx:Bd a x)(hy:Bd b y)(h:a+b<=c):Bd c (x*y):=(hx.mul hy).mono h
def bd7 {x:Int}(h0:0<=x)(h1:x<=100):Bd 7 x:=by unfold Bd;omega
def Ng:∀O xs Pq QX,pz O xs Pq QX->R6 { nx:=λ_ O'=>Pq (.im .none) O',rt:=Pq } (bf NBe xs) O:=by
 intro O xs Pq QX h;obtain⟨A,Pu,W,qs,rfl,g6,n6,hr,hw,hz,h⟩:=h;have VQ:∀j,j<qs.length->iF (qs.map qD) (j:Int)=some (qD (qs.getD j 0)):=λj hj=>bo (iM hj)
 have Fo:∀j,j<qs.length->Rb 280 (qs.getD j 0):=λj hj=>hz _ (by rw[ak (Zc hj)];exact Zg _)
 refine⟨by decide,⟨_,rfl,?_⟩⟩;conv=>whnf
 refine⟨λi sl O'=>∃(ks:List Nat) (y3 y4 y5 y6 y7 y8 y9 pH:Option AV),sl=[Φ9 (dm A Pu W),Φ9 (.tuple (qs.map qD)),some (.own O.length),y3,y4,y5,y6,y7,y8,y9,pH]/\One O O' O.length ks ((ah W qs).take i),⟨[],none,none,none,none,none,none,none,none,rfl,⟨⟨_,rfl⟩,λx hx=>by rw[Z2.mp hx];exact Ze _,by simp,⟨ky _ _,rfl,λi hi=>absurd hi (by simp)⟩⟩⟩,?_,?_⟩
 .rintro i x sl O' hx ⟨ks,y3,y4,y5,y6,y7,y8,y9,pH,rfl,T⟩;obtain⟨hi,rfl⟩:=il hx;have EZ:=hr i hi;have Uv:∀j,j<qs.length->iF ((W.getD i []).map PyData.int) (j:Int)=some (.int (eI W i j)):=λj hj=>bo (iM (by rw[EZ];exact hj))
  have hOl:O.length<=O'.length:=by obtain⟨t,rfl⟩:=T.Gh;simp
  refine⟨⟨by decide,?_⟩⟩;refine⟨⟨by rw[Za];omega,by rw[Za];omega⟩,λj sl O2=>∃(y5 y6 y7 y8 y9 pH:Option AV),sl=[Φ9 (dm A Pu W),Φ9 (.tuple (qs.map qD)),some (.own O.length),Φ9 (.tuple ((W.getD i []).map .int)),some (.own O'.length),y5,y6,y7,y8,y9,pH]/\O2=O'++[cI (((List.range j).filter (cZ (W.getD i []) qs)).map λg:Nat=>(g:Int))],⟨_,_,_,_,_,_,rfl,rfl⟩,?_,?_⟩
  .rintro j x sl O2 hx ⟨y5,y6,y7,y8,y9,pH,rfl,rfl⟩;obtain⟨hj,rfl⟩:=sK hx;rw[Za,Zo,EZ] at hj;refine⟨_,VQ j hj,rfl,⟨_,Uv j hj,dI,?_⟩⟩;obtain⟨bw0,bw1⟩:=hw i j hi hj;obtain⟨bn,bd⟩:=Fo j hj;have VI:tj (.int (eI W i j)) (.int 0)=hX (W.getD i []) qs j 0:=by
    unfold hX eI;show decide _=_;simp
   rw[VI];refine⟨⟨by rw[Za];omega,by rw[Za];omega⟩,λo sl O3=>O3=O'++[cI (((List.range j).filter (cZ (W.getD i []) qs)).map λg:Nat=>(g:Int))]/\∃(y9 pH:Option AV),sl=[Φ9 (dm A Pu W),Φ9 (.tuple (qs.map qD)),some (.own O.length),Φ9 (.tuple ((W.getD i []).map .int)),some (.own O'.length),Φ9 (.int j),Φ9 (.int (qs.getD j 0).num),Φ9 (.int ((qs.getD j 0).den:Int)),Φ9 (.bool (hX (W.getD i []) qs j o)),y9,pH],⟨rfl,_,_,rfl⟩,?_,?_⟩
   .rintro o x sl O3 hx ⟨rfl,y9,pH,rfl⟩;obtain⟨ho,rfl⟩:=sK hx;rw[Za,Zo,EZ] at ho;obtain⟨bo0,bo1⟩:=hw i o hi ho;obtain⟨bon,bod⟩:=Fo o ho;have b7:=bd7 bo0 bo1;have b7':=bd7 bw0 bw1;refine⟨_,Uv o ho,⟨b7.mono (by decide),bn.mono (by decide)⟩,_,VQ o ho,_,rfl,⟨DE b7 bn (by decide),bod.mono (by decide)⟩,⟨_,Uv o ho,?_⟩⟩;have ew:hX (W.getD i []) qs j (o+1)=(hX (W.getD i []) qs j o||worse (W.getD i []) qs j o):=by
     unfold hX;rw[Ys,List.any_append,Bool.or_assoc];simp
    rw[DJ] at ew;by_cases dQ:0<eI W i o
    .refine⟨λ_=>?_,λz=>absurd z (by show ¬ decide (0<eI W i o)=false;rw[decide_eq_true dQ];decide)⟩;refine⟨_,Uv j hj,_,VQ o ho,_,rfl,⟨b7'.mono (by decide),bon.mono (by decide)⟩,⟨DE b7' bon (by decide),bd.mono (by decide)⟩,?_⟩;have Uy:decide (0<(W.getD i []).getD o 0)=true:=decide_eq_true dQ;rw[Uy] at ew;cases hc:decide ((W.getD i []).getD j 0*(qs.getD o 0).num*((qs.getD j 0).den:Int)<(W.getD i []).getD o 0*(qs.getD j 0).num*((qs.getD o 0).den:Int)) with
     |true =>
      refine⟨λ_=>?_,λz=>absurd (hc.symm.trans z) (by decide)⟩;rw[hc,Xg,Bool.or_true] at ew;exact⟨rfl,_,_,by rw[ew];rfl⟩
     |false =>
      refine⟨λz=>absurd (hc.symm.trans z) (by decide),λ_=>?_⟩;rw[hc,Qf,Bool.or_false] at ew;exact⟨rfl,_,_,by rw[ew];rfl⟩
    .have Uy:decide (0<(W.getD i []).getD o 0)=false:=decide_eq_false dQ;refine⟨λz=>absurd (Uy.symm.trans z) (by decide),λ_=>⟨λz=>(by cases z),λ_=>?_⟩⟩;rw[Uy,Bool.false_and,Bool.or_false] at ew;exact⟨rfl,_,_,by rw[ew];rfl⟩
   .rintro sl O3 ⟨rfl,y9,pH,rfl⟩;rw[sL,Za,Zo];have hb:cZ (W.getD i []) qs j=!hX (W.getD i []) qs j (W.getD i []).length:=by
     unfold cZ hX;rw[Bool.not_or,List.not_any_eq_all_not];simp
    have VO:((List.range (j+1)).filter (cZ (W.getD i []) qs)).map (λg:Nat=>(g:Int))=((List.range j).filter (cZ (W.getD i []) qs)).map (λg:Nat=>(g:Int))++(if cZ (W.getD i []) qs j=true then [(j:Int)] else []):=by
     exact gW _ _ _
    cases hc:hX (W.getD i []) qs j (W.getD i []).length with
    |true =>
     rw[hc] at hb;refine⟨⟨rfl,⟨λz=>(by cases z),λ_=>?_⟩⟩⟩;rw[if_neg (by rw[hb];decide),Ye] at VO;exact⟨_,_,_,_,_,_,rfl,by rw[VO]⟩
    |false =>
     rw[hc] at hb;refine⟨⟨rfl,⟨λ_=>⟨⟨_,ky _ _⟩,_,ky _ _,?_,_,_,_,_,_,_,rfl,?_⟩,λz=>(by cases z)⟩⟩⟩
     .rw[Za,Za];have:=Yk (cZ (W.getD i []) qs) (List.range j);rw[Yy] at this;rw[sz];omega
     .rw[vA,VO,if_pos (by rw[hb];rfl)];unfold cI;rw[Zr];rfl
  .rintro sl O2 ⟨y5,y6,y7,y8,y9,pH,rfl,rfl⟩;rw[sL,Za,Zo];have T1:=T.app (cI (((List.range (W.getD i []).length).filter (cZ (W.getD i []) qs)).map λg:Nat=>(g:Int)));refine⟨⟨⟨_,T1.t.hd⟩,_,T1.t.hd,?_,ks++[O'.length],_,_,_,_,_,_,_,_,rfl,?_⟩⟩
   .have:=T.t.len;rw[Ym] at this;rw[Za,this,sz];omega
   .have T2:=T1.push (m:=O'.length) (r:=((List.range (W.getD i []).length).filter (cZ (W.getD i []) qs)).map λg:Nat=>(g:Int)) (ky _ _) hOl (λz=>by have:=T.lt _ z;omega);have e:(ah W qs).take (i+1)=(ah W qs).take i++[((List.range (W.getD i []).length).filter (cZ (W.getD i []) qs)).map λg:Nat=>(g:Int)]:=by
     have e0:(ah W qs)[i]?=some (((List.range (W.getD i []).length).filter (cZ (W.getD i []) qs)).map λg:Nat=>(g:Int)):=by
      unfold ah bE;exact iM hi
     rw[List.take_add_one,e0];rfl
    rw[e];exact T2
 .rintro sl O' ⟨ks,y3,y4,y5,y6,y7,y8,y9,pH,rfl,T⟩;have hl:((W.map aS).map AV.im).length=(ah W qs).length:=by unfold ah;simp
  rw[hl,Yd] at T;exact⟨T.iE rfl λO2 hG=>h O2 hG⟩
section
variable {A:Γ3}{Pu qs:Δ1}{W:Γ1}{D:List (Δ1)}{g:Nat}
end
def kT {g j:Nat}{W:Γ1}(hj:j<g):(cm g W).contains (j:Int)=has W j:=by
 unfold cm;rw[Ya,Zz,Zd];constructor
 .rintro⟨k,hk,e⟩;have:k=j:=by omega
  subst this;exact(Zn.mp hk).2
 .intro z;exact⟨j,Zn.mpr ⟨Zy.mpr hj,z⟩,rfl⟩
def zQ {O O1 O2:aU}(h1:cD O O1)(h2:cD O1 O2):cD O O2:=by
 obtain⟨t,rfl⟩:=h1;obtain⟨u,rfl⟩:=h2;exact⟨t++u,by rw[Xt]⟩
def Gi:FM:=λO xs P _=>∃(A:Γ3) (Pu:Δ1) (W:Γ1),xs=[.im (dm A Pu W)]/\A.length<=6/\W.length<=6/\(∀i,i<W.length->(W.getD i []).length=A.length)/\P (.im (.tuple ((cm A.length W).map .int))) O
abbrev XW:Δ2:=["market","amounts","purses","wishes"]
def RS:MS:=(aE (aL (af 0) (vq 3 (bG (aP 1) (bG (aP 2) (bG (aP 3) fJ)))))
 (cW (eG lE (ae (bQ 1 [3] (jQ (ae (eG gc (ae (af 1) ai)) ai)) (aP 0) (cw (eG Cc (ae (bQ 1 [0] (bw (af 1)) (aP 0) fb (aR Pb (aR bW (af 0) (af 1)) (mC (.int 0)))) ai))) (af 0)) ai))))
def IA {W:Γ1}{j:Nat}:(W.map λr:Γ3=>decide (0<r.getD j 0)).any id=has W j:=by
 unfold has;rw[Xz];rfl
def M4:∀O xs Pq QX,Gi O xs Pq QX->RS { nx:=λ_ O'=>Pq (.im .none) O',rt:=Pq } (bf XW xs) O:=by
 intro O xs Pq QX h;obtain⟨A,Pu,W,rfl,g6,n6,hr,h⟩:=h;refine⟨rfl,⟨⟨by rw[Za];omega,by rw[Za];omega⟩,EV (has W) (λj=>.int (j:Int)) (by rw[sL,Za];omega) (λj x Z hx hZ=>?_) (λj x Z hx _ hZ=>?_) ?_⟩⟩
 .obtain⟨hj,rfl⟩:=sK hx;rw[Za,Zo] at hj;conv=>whnf
  refine u8 (λi=>.bool (decide (0<(W.getD i []).getD j 0))) (by simp;omega) (λi x Z hx hZ=>?_) ?_
  .obtain⟨hi,rfl⟩:=il hx;exact⟨_,bo (iM (f:=PyData.int) (d:=0) (by rw[hr i hi];omega)),hZ⟩
  .refine⟨W.map λr=>decide (0<r.getD j 0),?_,?_⟩
   .rw[Za,Za,zS (λr:Γ3=>PyData.bool (decide (0<r.getD j 0))) W [],Zj];rfl
   .rw[IA];exact hZ
 .obtain⟨hj,rfl⟩:=sK hx;exact hZ
 .rw[sL,Za,Zo];unfold cm at h;rw[Zj] at h;exact h
section
variable {K:Θ1}{QX:Addr->aU->Prop}{E:XK}{X:Cx}
def En {P:Program}{w0:World}{k:Nat}{f:Addr}{fd:FuncData}{ps:Δ2}{sp:Sp}{F:FM}{x:Str}{e:Expr}{es:Ξ2}{p pos:Pos}{Ms:MA}(G':aO X.prog X.w X.K X.mg X.base (pi P w0) k f fd ps sp)(lk:qW K sp F)(hr:db k X.A)(hg:Gl X x)(hm:X.mg x=some (.ref f))(hk:PySem.W.keepIn X.K (.ref f)=true)(hb:Binds X.K fd ps [])
  (ha:PA X (e::es) (u5 K QX E Ms)) (tf:(x == ("__debug__" : Str))=false:=by decide) (he:starEach (e::es) X.env=(false,eval e X.env)::starEach es X.env:=by rfl) (kA:(backTo pos (starEach es X.env)).any (·.1)=false:=by rfl) :
  PE X (.Call (.Name x p) (e::es) [] pos) (cy K QX E (au F bP Ms)):=PE.imp (d8 G' hr hg hm hk hb (Fc:=[]) .nil rz ha tf he kA) λσ H Q ⟨w,O,sl,Q0,c,m,q⟩=>⟨w,O,sl,_,c,m,λxs O1 vs w1 H1 h1 e1 r1 a1=>by
 show sp (vs++[]) H1 Q E0;rw[Ye];exact lk w1 O1 H1 vs xs _ bP Q E0 r1 a1 h1 (λz z' O3 w3 H3 h3 e3 r3 a3=>q _ O3 z w3 H3 h3 (e1.trans e3) r3 a3) λk O' w' H' qx e' r'=>qx.elim⟩
end
section
variable {n:Nat}{ix:List Nat}{items:List AV}{M:ME}{sl:iO}{O:aU}{Q:AV->aU->Prop}
def qF (f:Nat->PyData)(a b:Nat->PyData)(hl:items.length<=1000000)(hi:∀(i:Nat) (x:AV),items[i]?=some x->x=.im (.tuple [a i,b i]))
  (hs:∀(i:Nat) (Z:AV->aU->Prop),i<items.length->Z (.im (f i)) O->M (((fE n ix sl).set 0 (some (.im (a i)))).set 1 (some (.im (b i)))) O Z)
  (hd:Q (.im (.list ((List.range items.length).map f))) O):CB n ix (vq 2 (bG (aP 0) (bG (aP 1) fJ))) fb M sl Q items O:=by
 refine⟨hl,λi ds O'=>O'=O/\ds=(List.range i).map f,⟨rfl,rfl⟩,?_,λds O' ⟨e,h1⟩=>by rw[e,h1];exact hd⟩;rintro i x ds O' hx ⟨rfl,rfl⟩;have cT:=(Zf.mp hx).1;rw[hi i x hx];refine⟨rfl,λ_=>hs i _ cT ⟨rfl,by rw[Ys,Zr];rfl⟩,λz=>(by cases z)⟩
end
def zt {ds:Ξ1}{i:Nat}{x:AV}(h:(i0 ds)[i]?=some x):i<ds.length/\x=.im (.tuple [.int (i:Int),ds.getD i .none]):=by
 unfold i0 at h;have hi:i<ds.length:=by have:=(Zf.mp h).1;simpa using this
 rw[Zh,Y3 hi] at h;exact⟨hi,(Option.some.inj h).symm⟩
section
variable {K:Θ1}{QX:Addr->aU->Prop}{E:XK}{X:Cx}
def cc {n k:Nat}{f:Addr}{fd:FuncData}{ps:Δ2}{sp:Sp}{F:FM}{x:Str}{e:Expr}{es:Ξ2}{p pos:Pos}{Ms:MA}(C:bM X.K X.mg X.prog X.w X.base x k ps sp f fd)(lk:qW K sp F)(hr:db n X.A)
  (ha:PA X (e::es) (u5 K QX E Ms)) (hn:k<=n:=by decide) (hg:Gl X x:=by rfl) (tf:(x == ("__debug__" : Str))=false:=by decide) (he:starEach (e::es) X.env=(false,eval e X.env)::starEach es X.env:=by rfl) (kA:(backTo pos (starEach es X.env)).any (·.1)=false:=by rfl) :
  PE X (.Call (.Name x p) (e::es) [] pos) (cy K QX E (au F bP Ms)):=Eo C.ok lk (hr.mono hn) hg C.mg C.kp C.bd ha tf he kA
def OH {n k:Nat}{f:Addr}{fd:FuncData}{ps:Δ2}{sp:Sp}{F:FM}{x:Str}{e:Expr}{es:Ξ2}{p pos:Pos}{Ms:MA}(C:kF X.K X.mg X.prog X.w X.base x k ps sp f fd)(lk:qW K sp F)(hr:db n X.A)
  (ha:PA X (e::es) (u5 K QX E Ms)) (hn:k<=n:=by decide) (hg:Gl X x:=by rfl) (tf:(x == ("__debug__" : Str))=false:=by decide) (he:starEach (e::es) X.env=(false,eval e X.env)::starEach es X.env:=by rfl) (kA:(backTo pos (starEach es X.env)).any (·.1)=false:=by rfl) :
  PE X (.Call (.Name x p) (e::es) [] pos) (cy K QX E (au F bP Ms)):=En C.ok lk (hr.mono hn) hg C.mg C.kp C.bd ha tf he kA
def mv (i:Nat){x:Str}{pos:Pos}(hN:X.N[i]?=some x:=by rfl)(hv:UR X.env.scope x:=by first |exact Or.inl rfl |exact Or.inr (Or.inl rfl) |exact Or.inr (Or.inr rfl))(hd:(x == ("__debug__" : Str))=false:=by decide)
  (o6:(x == ("__classdict__" : Str))=false:=by decide):PE X (.Name x pos) (cy K QX E (af i)):=NY (pv i hN hv hd o6)
def c6 {i:Nat}{x:Str}{e:Expr}{M:ME}{pos pk:Pos}(hN:X.N.Nodup)(he:PE X e (cy K QX E M))(hi:X.N[i]?=some x:=by rfl)(hx:Loc X.env.scope x:=by exact Or.inl rfl)(hs:swapsWith e (some (.Name x pk)) pos.line X.env=pure false:=by rfl)(hf:X.fn x=true\/X.env.scope.names.lookup x=some .local:=by first |exact .inl rfl |exact .inr rfl |assumption) :
  PS X (.Assign [.Name x pk] e pos) (mH K QX E (aL M (aP i))):=eQ hN hi hx he hs hf
def dz {i:Nat}{x:Str}{pos:Pos}(hN:X.N.Nodup)(hi:X.N[i]?=some x:=by rfl)(hx:Loc X.env.scope x:=by exact Or.inl rfl)(hf:X.fn x=true\/X.env.scope.names.lookup x=some .local:=by first |exact .inl rfl |exact .inr rfl |assumption):PG X (.Name x pos) (vk K QX E (aP i)):=zO (fh hN hi hx hf)
end
end MI
namespace Ae
open PySem L2 KG EX KM
def top (i:Nat):Stmt:=PySem.Challenge.pw_wishmart_k12_rises_by_hand.main.body.getD i (.Pass ⟨0,0,0,0⟩)
section
variable {P:Program}{w:World}{K:Θ1}{mg:Θ3}{base:Heap}
def GP:ap ["thing"] ["thing"] (bh (top 6)):=L2.di
def Ec {f:Addr}{fd:FuncData}(F:cL K "is_whole" "is_whole" (top 6) f fd)(N:Nm mg)(Z:Lg K):aO P w K mg base cQ 1 f fd ["thing"] (spT kQ):=by
 refine F.ok GP (λvs H Q E h=>?_) (λbv A outer s H vs Q E hr h=>?_)
 .obtain⟨b,v,d,rfl,_⟩:=h;rfl
 .obtain⟨b,v,d,rfl,hT,k⟩:=h;refine⟨_,dr (fD (Dd (FU K (pv 0) rfl N.isinstance rfl N.int boot_int Uo) (Db (Np (FU K (pv 0) rfl N.isinstance rfl N.bool boot_bool Uo))))),?_⟩;obtain⟨t1,Pt,e1⟩:=isi Z hT;obtain⟨t2,ty2,e2⟩:=isb Z hT;refine⟨_,rfl,t1,_,Pt,e1,_,rfl,?_⟩;have hk:=k H (az.refl H);rw[xj] at hk;cases hi:VD d with
  |true =>
   rw[hi] at hk;refine cM ⟨_,rfl,t2,_,ty2,e2,_,rfl,hk⟩
  |false =>
   rw[hi] at hk;exact df hk
def Jw:ap ["one","other"] ["one","other"] (bh (top 8)):=L2.di
def NK {f:Addr}{fd:FuncData}(F:cL K "common_divisor" "common_divisor" (top 8) f fd)(N:Nm mg):aO P w K mg base cQ 1 f fd ["one","other"] Jr:=by
 refine F.ok Jw (λvs H Q E h=>?_) (λbv A outer s H vs Q E hr h=>?_)
 .obtain⟨t,u,rfl,_⟩:=h;rfl
 .obtain⟨t,u,rfl,u0,k⟩:=h;refine⟨_,dD (lc PassesOwn.never (pQ pW (pv 1) aZ (aK _)) (dr (lK (i:=0) (j:=1) rfl Jw.nd rfl rfl (by decide) rfl rfl (aI (pv 1) (aI (cB gn (pv 0) (pv 1)) bu)) (by rfl))))
   (dr (fD (sO lj (by rfl) N.abs boot_abs (aI (pv 0) bu)))),?_⟩
  refine kU (λσ H'=>H'=H/\∃a c:Int,σ=[some (.int a),some (.int c)]/\0<=c/\Int.gcd a c=Int.gcd t u)
   (λσ _=>match σ with |[_,some (.int c)]=>c.toNat |_=>0) ⟨rfl,t,u,rfl,u0,rfl⟩ ?_ ?_
  .rintro σ H' ⟨rfl,a,c,rfl,c0,e⟩;refine⟨_,rfl,rfl,_,rfl,?_⟩;by_cases hc:c=0
   .subst hc;refine df ?_;refine⟨_,rfl,_,rfl,?_⟩;rw[zE,e];exact k
   .have e1:(!decide (V.int c=V.int 0))=true:=by simp[hc]
    rw[e1];refine cM ?_;have cp:0<c:=by omega
    refine⟨_,rfl,_,rfl,_,rfl,_,_,rfl,rfl,cp,_,_,rfl,⟨rfl,c,a % c,rfl,X4 _ hc,uA.trans e⟩,?_⟩;have h1:=Qx a cp;have h2:=X4 a hc;show(a % c).toNat<c.toNat;omega
  .rintro σ H' Q1 Q2 we ⟨v,e,sc,kk,ek,q⟩;exact⟨v,e,sc,kk,ek,we _ _ q⟩
def wj:ap ["thing","top","bottom"] ["thing"] (bh (top 7)):=L2.di
def AX {f fW fG:Addr}{fd dW dG:FuncData}(F:cL K "is_fraction" "is_fraction" (top 7) f fd)(N:Nm mg)(Z:Lg K)(W:bM K mg P w base "is_whole" 1 ["thing"] (spT kQ) fW dW)(G:bM K mg P w base "common_divisor" 1 ["one","other"] Jr fG dG):aO P w K mg base cQ 2 f fd ["thing"] (spT bV):=by
 refine F.ok wj (λvs H Q E h=>?_) (λbv A outer s H vs Q E hr h=>?_)
 .obtain⟨b,v,d,rfl,_⟩:=h;rfl
 .obtain⟨b,v,d,rfl,hT,k⟩:=h;refine⟨_,dD (eD (PW.pt (pw_or (i9 (gj (FU K (pv 0) rfl N.isinstance rfl N.tuple pe Uo))) (pw_or1 (pQ pW (sO cG (by rfl) N.len Z8 (aI (pv 0) bu)) aZ (aK _))))) (dr (fD tQ)) sX)
   (dD (kg (pv 0) (ja rfl (va (fh (i:=1) wj.nd rfl (Or.inl rfl)) (va (fh (i:=2) wj.nd rfl (Or.inl rfl)) fV))))
   (dD (eD (PW.pt (pw_or (i9 (gj (d8 W.ok hr rfl W.mg W.kp W.bd .nil aY (aI (pv 1) bu)))) (pw_or1 (i9 (gj (d8 W.ok hr rfl W.mg W.kp W.bd .nil aY (aI (pv 2) bu))))))) (dr (fD tQ)) sX)
   (dr (fD (Dd (BO Tp (pv 2) aZ (aK _)) (Db (BO nL (d8 G.ok hr rfl G.mg G.kp G.bd .nil aY (aI (pv 1) (aI (pv 2) bu))) aZ (aK _)))))))),?_⟩
  obtain⟨t1,Pt,e1⟩:=ist Z hT;refine⟨_,rfl,t1,_,Pt,e1,_,rfl,?_⟩;have hk:=k H (az.refl H);rcases yy hT with hn |⟨a,xs,ds,rfl,rfl,ha,hs⟩
  .rw[hn];rw[Ba hn] at hk;exact cM (cM hk)
  refine df ?_;refine⟨_,rfl,a,xs,rfl,.inr (aM.of ha),rfl,_,rfl,?_⟩;by_cases hl:xs.length=2
  case neg =>
   have e2:(!decide (V.int (xs.length:Int)=V.int 2))=true:=yw (b:=2) hl;rw[e2];have BX:ds.length≠2:=by rw[<- hs.len];exact hl
   have e3:bV (.tuple ds)=false:=xk BX;rw[e3] at hk;exact cM hk
  have e2:(!decide (V.int (xs.length:Int)=V.int 2))=false:=by rw[hl];rfl
  rw[e2];refine df ?_
  match xs,ds,hl,hs with
  |[x,y],_,_,.cons (d:=dx) hx (.cons (d:=dy) hy .nil) =>
  refine⟨_,rfl,a,_,rfl,aM.of ha,rfl,_,_,rfl,_,_,rfl,rfl,?_⟩;refine⟨_,rfl,b,x,dx,rfl,hx,λH1 s1=>?_⟩;refine⟨_,rfl,?_⟩;rcases rZ hx with hn |⟨i,rfl,rfl⟩
  .rw[hn];refine cM (cM ?_);have e3:bV (.tuple [dx,dy])=false:=by cases dx<;>first |rfl |cases hn
   rw[e3] at k;exact k H1 s1
  refine df ?_;refine⟨_,rfl,b,y,dy,rfl,hy.aA s1,λH2 s2=>?_⟩;refine⟨_,rfl,?_⟩;rcases rZ hy with hn |⟨j,rfl,rfl⟩
  .rw[hn];refine cM ?_;have e3:bV (.tuple [.int i,dy])=false:=by cases dy<;>first |rfl |cases hn
   rw[e3] at k;exact k H2 (s1.trans s2)
  refine df ?_;refine⟨_,rfl,_,_,rfl,rfl,_,rfl,?_⟩;have KC:Q (.bl (decide ((1:Int)<=j)&&decide (Int.gcd i j=1))) H2:=k H2 (s1.trans s2);by_cases hj:1<=j
  .have e4:decide ((1:Int)<=j)=true:=by simpa using hj
   rw[e4] at KC ⊢;refine cM ⟨_,rfl,_,rfl,i,j,rfl,by omega,rfl,?_⟩;have e5:decide (V.int ((Int.gcd i j:Nat):Int)=V.int 1)=decide (Int.gcd i j=1):=by
    rw[decide_eq_decide];constructor
    .intro h;injection h with h;omega
    .intro h;rw[h];rfl
   rw[e5];simpa using KC
  .have e4:decide ((1:Int)<=j)=false:=by simpa using hj
   rw[e4] at KC ⊢;exact df KC
def CZ:ap ["bag","many","found"] ["bag","many"] (bh (top 40)):=L2.di
def Hq {f:Addr}{fd:FuncData}(F:cL K "_law_take" "_law_take" (top 40) f fd):aO P w K mg base cQ 1 f fd ["bag","many"] ke:=by
 refine F.ok CZ (λvs H Q E h=>?_) (λbv A outer s H vs Q E hr h=>?_)
 .obtain⟨b,m,rfl,_⟩:=h;rfl
 .obtain⟨b,m,rfl,⟨c,d,hb⟩,h0,h1,k⟩:=h;refine⟨_,dD (eD (pQ jY (dJ kE (pv 0) aZ (λ_ _=>rfl)) aZ (aK _))
    (dD (jM (i:=2) CZ.nd rfl (Or.inl rfl) (cB gn (dJ kE (pv 0) aZ (λ_ _=>rfl)) (pv 1)))
     (dD (kg (cB kK (dJ kE (pv 0) aZ (λ_ _=>rfl)) (pv 1)) (wk (pv 0) aZ oq)) (dr (fD (pv 2))))) sX)
   (dD (kg (cB gn (cB gm (dJ kE (pv 0) aZ (λ_ _=>rfl)) aZ) aZ) (wk (pv 0) aZ oq))
    (dr (fD (cB gn (cB kK (cB gn (cB gm (cB kK (dJ kE (pv 0) aZ (λ_ _=>rfl)) aZ) (cB de (cB gn (dJ kE (pv 0) aZ (λ_ _=>rfl)) aZ) aZ)) aZ) aZ) (pv 1))))),?_⟩
  refine⟨_,rfl,b,_,_,_,rfl,rfl,bi.of hb,rfl,_,_,rfl,rfl,_,rfl,?_⟩;refine Am (λhc=>?_) (λhc=>?_)
  .refine⟨_,rfl,b,_,_,_,rfl,rfl,bi.of hb,rfl,_,rfl,_,_,rfl,rfl,h0,?_⟩;refine⟨_,rfl,b,_,_,_,rfl,rfl,bi.of hb,rfl,_,rfl,_,_,rfl,rfl,⟨h0,h1⟩,?_⟩;refine⟨_,rfl,b,_,_,0,rfl,rfl,hb,rfl,?_⟩;refine⟨_,rfl,k _ _ (X4 _ (by omega)) (Qx _ h0) ⟨_,_,cx⟩ (Kp.refl b H).bag⟩
  .refine⟨_,rfl,b,_,_,_,rfl,rfl,bi.of hb,rfl,_,_,rfl,rfl,.inr ⟨by decide,by decide⟩,_,_,rfl,rfl,(by show(0:Int)<2147483647;decide),?_⟩;refine⟨_,rfl,b,_,_,1,rfl,rfl,hb,rfl,?_⟩;have mr:(aF H b (.lst [V.int c,V.int (d*48271 % 2147483647)])) b=some (.lst [V.int c,V.int (d*48271 % 2147483647)]):=cx;refine⟨_,rfl,b,_,_,_,rfl,rfl,bi.of mr,rfl,_,_,rfl,rfl,⟨by decide,by decide⟩,?_⟩;refine⟨_,rfl,b,_,_,_,rfl,rfl,bi.of mr,rfl,_,_,rfl,rfl,(by show(0:Int)<32749;decide),_,_,rfl,rfl,?_⟩;refine⟨_,_,rfl,rfl,.inr ⟨?_,?_⟩,?_⟩
   .have:=X4 (d*48271 % 2147483647) (show(32749:Int)≠0 by decide);omega
   .have:=Qx (d*48271 % 2147483647) (show(0:Int)<32749 by decide);omega
   refine⟨_,_,rfl,rfl,(by show(0:Int)<2147483629;decide),_,_,rfl,rfl,⟨by decide,by decide⟩,_,rfl,_,_,rfl,rfl,h0,?_⟩;exact k _ _ (X4 _ (by omega)) (Qx _ h0) ⟨_,_,cx⟩ (Kp.refl b H).bag
def xS:ap ["script","k","cell","seed"] ["script","k"] (bh (top 39)):=L2.di
def NM {f:Addr}{fd:FuncData}(F:cL K "_law_bag" "_law_bag" (top 39) f fd)(B:Nm mg):aO P w K mg base cQ 1 f fd ["script","k"] (Ci K):=by
 refine F.ok xS (λvs H Q E h=>?_) (λbv A outer s H vs Q E hr h=>?_)
 .obtain⟨a,ns,k,rfl,_⟩:=h;rfl
 .obtain⟨a,ns,k,rfl,hS,h0,h1,q⟩:=h;refine⟨_,dD (jM (i:=2) xS.nd rfl (Or.inl rfl) aZ)
   (dD (eD (pQ l6 (pv 1) (sO iC (by rfl) B.len Z8 (aI (pv 0) bu)) (aK _))
    (dr (jM (i:=2) xS.nd rfl (Or.inl rfl) (cB gn (dJ zh (pv 0) (pv 1) (λ_ _=>rfl)) (cB nW aZ aZ)))) sX)
   (dD (jM (i:=3) xS.nd rfl (Or.inl rfl) (cB de aZ (cB gn (cB de (cB de (cB de (cB gm (cB gn (pv 2) aZ) aZ) (cB gm (cB gm aZ (pv 1)) (pv 1))) (cB gm aZ (pv 1))) aZ) aZ)))
   (dD (eD (pQ l6 (pv 2) (cB nW aZ aZ) (aK _)) (dr (fD (ia (aI aZ (aI (pv 3) bu))))) sX)
   (dr (fD (ia (aI (pv 2) (aI (pv 3) bu)))))))),?_⟩
  refine⟨_,rfl,_,rfl,a,_,rfl,.inl hS,_,_,rfl,rfl,_,rfl,?_⟩;refine Am (λhc=>?YE) (λhc=>?ahC)
  case' YE =>
   have hk:k<(ns.length:Int):=by simpa using of_decide_eq_true hc
   have UE:iF (ns.map V.int) k=some (V.int (ns.getD k.toNat 0)):=by
    have e:(ns.map V.int)[k.toNat]?=some (V.int (ns.getD k.toNat 0)):=by
     have hl:k.toNat<ns.length:=by omega
     rw[Zh,Zc hl];simp[List.getD,Zc hl]
    have:=m9 e;rw[Xa h0] at this;exact this
   refine⟨_,rfl,_,rfl,a,_,_,_,rfl,rfl,hS,UE,_,_,rfl,rfl,⟨by decide,by decide,by decide⟩,_,_,rfl,rfl,(by show(0:Int)<10 ^ 60;decide),?_⟩
  all_goals
   refine⟨_,rfl,_,_,rfl,rfl,(by show(0:Int)<2147483629;decide),_,_,rfl,rfl,.inr ⟨by decide,by decide⟩,?_⟩;refine⟨_,rfl,_,_,rfl,rfl,.inl ⟨by decide,by decide⟩,_,rfl,_,_,rfl,rfl,.inr ⟨by omega,by omega⟩,_,_,rfl,rfl,?_⟩;refine⟨_,rfl,_,_,rfl,rfl,.inl ⟨by decide,by decide⟩,_,_,rfl,rfl,_,_,rfl,rfl,_,_,rfl,rfl,(by show(0:Int)<2147483645;decide),_,_,rfl,rfl,?_⟩;refine⟨_,rfl,_,_,rfl,rfl,⟨by decide,by decide,by decide⟩,_,_,rfl,rfl,_,rfl,?_⟩;refine Am (λhc=>?_) (λhc=>?_)
   .exact⟨_,rfl,by show 2<=sizeLine;decide,λp hp=>q p _ _ hp⟩
   .exact⟨_,rfl,_,rfl,by show 2<=sizeLine;decide,λp hp=>q p _ _ hp⟩
def mQ:ap ["top","bottom","one","other","by"] ["top","bottom"] (bh (top 41)):=L2.di
def HI {f:Addr}{fd:FuncData}(F:cL K "_law_frac" "_law_frac" (top 41) f fd)(B:Nm mg):aO P w K mg base cQ 1 f fd ["top","bottom"] CW:=by
 refine F.ok mQ (λvs H Q E h=>?_) (λbv A outer s H vs Q E hr h=>?_)
 .obtain⟨t,u,rfl,_⟩:=h;rfl
 .obtain⟨t,u,rfl,u0,u1,k⟩:=h;refine⟨_,dD (lK (i:=2) (j:=3) rfl mQ.nd rfl rfl (by decide) rfl rfl (aI (pv 0) (aI (pv 1) bu)) (by rfl))
   (dD (lc PassesOwn.never (pQ pW (pv 3) aZ (aK _)) (dr (lK (i:=2) (j:=3) rfl mQ.nd rfl rfl (by decide) rfl rfl (aI (pv 3) (aI (cB gn (pv 2) (pv 3)) bu)) (by rfl))))
   (dD (jM (i:=4) mQ.nd rfl (Or.inl rfl) (cB gm (sO lj (by rfl) B.abs boot_abs (aI (pv 2) bu)) (cB wq aZ (cB gm aZ (zP jK (by rfl) B.int boot_int (aI (BO l6 (pv 1) aZ (aK _)) bu))))))
   (dr (fD (xD (aI (cB kK (pv 0) (pv 4)) (aI (cB kK (pv 1) (pv 4)) bu))))))),?_⟩
  refine⟨_,rfl,_,rfl,_,_,rfl,?_⟩;refine kU (λσ H'=>H'=H/\∃a c:Int,σ=[some (.int t),some (.int u),some (.int a),some (.int c),none]/\0<=c/\Int.gcd a c=Int.gcd t u)
   (λσ _=>match σ with |[_,_,_,some (.int c),_]=>c.toNat |_=>0) ⟨rfl,t,u,rfl,by omega,rfl⟩ ?_ ?_
  .rintro σ H' ⟨rfl,a,c,rfl,c0,e⟩;refine⟨_,rfl,rfl,_,rfl,?_⟩;by_cases hc:c=0
   .subst hc;refine df ?_;refine⟨_,rfl,_,rfl,_,rfl,_,_,rfl,rfl,.inr ⟨_,rfl,_,_,rfl,rfl,.inl ⟨by decide,by decide⟩,_,_,rfl,rfl,?_⟩⟩;have e2:decide (u<0)=false:=decide_eq_false (by omega);rw[zE,e,e2];obtain⟨g0,g1⟩:=zn (t:=t) u0;have e3:(Int.gcd t u:Int)*(1-2*(if false=true then (1:Int) else 0))=(Int.gcd t u:Int):=by simp
    refine⟨_,_,rfl,rfl,.inl ⟨by omega,by omega⟩,?_⟩;show eV 4 (V.int ((Int.gcd t u:Int)*(1-2*(if false=true then (1:Int) else 0)))) _ _ _;rw[e3];exact⟨_,rfl,_,rfl,_,_,rfl,rfl,⟨g0,by omega⟩,_,rfl,_,rfl,_,_,rfl,rfl,⟨g0,by omega⟩,by show 2<=sizeLine;decide,λp hp=>k p hp⟩
   .have e1:(!decide (V.int c=V.int 0))=true:=by simp[hc]
    rw[e1];refine cM ?_;have cp:0<c:=by omega
    refine⟨_,rfl,_,rfl,_,rfl,_,_,rfl,rfl,cp,_,_,rfl,⟨rfl,c,a % c,rfl,X4 _ hc,uA.trans e⟩,?_⟩;have h1:=Qx a cp;have h2:=X4 a hc;show(a % c).toNat<c.toNat;omega
  .rintro σ H' Q1 Q2 we ⟨v,e,sc,kk,ek,q⟩;exact⟨v,e,sc,kk,ek,we _ _ q⟩
def ug:ap ["bag","way"] ["bag"] (bh (top 48)):=L2.di
def AW {f fT fF:Addr}{fd dT dF:FuncData}(F:cL K "_law_purse" "_law_purse" (top 48) f fd)(T:bM K mg P w base "_law_take" 1 ["bag","many"] ke fT dT)(R:bM K mg P w base "_law_frac" 1 ["top","bottom"] CW fF dF):aO P w K mg base cQ 2 f fd ["bag"] RB:=by
 refine F.ok ug (λvs H Q E h=>?_) (λbv A outer s H vs Q E hr h=>?_)
 .obtain⟨b,rfl,_⟩:=h;rfl
 .obtain⟨b,rfl,hb,k⟩:=h;refine⟨_,dD (jM (i:=1) ug.nd rfl (Or.inl rfl) (d8 T.ok hr rfl T.mg T.kp T.bd .nil aY (aI (pv 0) (aI aZ bu))))
   (dD (eD (pQ nL (pv 1) aZ (aK _)) (dr (fD (xD (aI (cB de aZ (d8 T.ok hr rfl T.mg T.kp T.bd .nil aY (aI (pv 0) (aI aZ bu)))) (aI aZ bu))))) sX)
   (dD (eD (pQ nL (pv 1) aZ (aK _)) (dr (fD (xD (aI (cB de aZ (d8 T.ok hr rfl T.mg T.kp T.bd .nil aY (aI (pv 0) (aI (cB nW aZ aZ) bu)))) (aI aZ bu))))) sX)
   (dD (eD (pQ nL (pv 1) aZ (aK _)) (dr (fD (d8 R.ok hr rfl R.mg R.kp R.bd .nil aY (aI (cB de aZ (d8 T.ok hr rfl T.mg T.kp T.bd .nil aY (aI (pv 0) (aI (cB nW aZ aZ) bu)))) (aI (cB de aZ (d8 T.ok hr rfl T.mg T.kp T.bd .nil aY (aI (pv 0) (aI (cB nW aZ aZ) bu)))) bu))))) sX)
   (dr (fD (d8 R.ok hr rfl R.mg R.kp R.bd .nil aY (aI (cB de aZ (d8 T.ok hr rfl T.mg T.kp T.bd .nil aY (aI (pv 0) (aI aZ bu)))) (aI (cB de aZ (d8 T.ok hr rfl T.mg T.kp T.bd .nil aY (aI (pv 0) (aI aZ bu)))) bu)))))))),?_⟩
  refine⟨_,rfl,b,_,rfl,hb,by decide,by decide,λr H1 r0 r1 kB ER=>?_⟩;refine⟨_,rfl,rfl,_,rfl,Am (λ_=>?_) (λ_=>?_)⟩
  .refine⟨_,rfl,b,_,rfl,kB,by decide,by decide,λr2 H2 p0 p1 mr Fk=>⟨_,_,rfl,rfl,by show 2<=sizeLine;decide,λp hp=>k _ _ _ (mr.new hp) ((ER.trans Fk).new hp) FJ (qm (by omega) (by omega))⟩⟩
  refine⟨_,rfl,rfl,_,rfl,Am (λ_=>?_) (λ_=>?_)⟩
  .refine⟨_,rfl,_,_,rfl,rfl,⟨by decide,by decide,by decide⟩,b,_,rfl,kB,by decide,by decide,λr2 H2 p0 p1 mr Fk=>⟨_,_,rfl,rfl,by show 2<=sizeLine;decide,λp hp=>?_⟩⟩;have p1':r2<1000000:=p1;exact k _ _ _ (mr.new hp) ((ER.trans Fk).new hp) FJ (qm (by omega) (by omega))
  refine⟨_,rfl,rfl,_,rfl,Am (λ_=>?_) (λ_=>?_)⟩
  .refine⟨_,rfl,_,_,rfl,rfl,⟨by decide,by decide,by decide⟩,b,_,rfl,kB,by decide,by decide,λr2 H2 p0 p1 mr Fk=>⟨_,_,rfl,rfl,?_⟩⟩;refine⟨_,rfl,_,_,rfl,rfl,⟨by decide,by decide,by decide⟩,b,_,rfl,mr,by decide,by decide,λr3 H3 q0 q1 QQ OI=>⟨_,_,rfl,rfl,?_⟩⟩;have p1':r2<1000000:=p1;have q1':r3<1000000:=q1;exact⟨_,_,rfl,by omega,by omega,λp hp=>k _ _ _ (QQ.new hp) (((ER.trans Fk).trans OI).new hp) FJ (qo (by omega) (by omega) (by omega) (by omega))⟩
  .refine⟨_,rfl,b,_,rfl,kB,by decide,by decide,λr2 H2 p0 p1 mr Fk=>⟨_,_,rfl,rfl,?_⟩⟩;refine⟨_,rfl,b,_,rfl,mr,by decide,by decide,λr3 H3 q0 q1 QQ OI=>⟨_,_,rfl,rfl,?_⟩⟩;exact⟨_,_,rfl,by omega,by omega,λp hp=>k _ _ _ (QQ.new hp) (((ER.trans Fk).trans OI).new hp) FJ (qo (by omega) (by omega) (by omega) (by omega))⟩
def kY:ap ["bag","goods","most","row","at"] ["bag","goods"] (bh (top 49)):=L2.di
def AS {f fT:Addr}{fd dT:FuncData}(F:cL K "_law_wishes" "_law_wishes" (top 49) f fd)(B:Nm mg)(T:bM K mg P w base "_law_take" 1 ["bag","many"] ke fT dT):aO P w K mg base cQ 2 f fd ["bag","goods"] Ry:=by
 refine F.ok kY (λvs H Q E h=>?_) (λbv A outer s H vs Q E hr h=>?_)
 .obtain⟨b,g,rfl,_⟩:=h;rfl
 .obtain⟨b,g,rfl,hb,g0,g1,k⟩:=h;refine⟨_,dD (jM (i:=2) kY.nd rfl (Or.inr rfl) (dJ kE (ia (aI aZ (aI aZ (aI aZ (aI aZ (aI aZ bu)))))) (d8 T.ok hr rfl T.mg T.kp T.bd .nil aY (aI (pv 0) (aI aZ bu))) (λ_ _=>rfl)))
   (dD (yO (i:=3) (own:=["k"]) (cap:=["bag","most"]) (ix:=[0,2]) kY.nd rfl rfl (aG.of (bh (top 49)).names ["bag","goods","most","row","at"]) rfl (OJ rfl B.range (aI (pv 1) bu))
    (λC fp s H=>⟨fh (i:=0) (Ψ9 ["k","bag","most"]) rfl (Or.inl rfl),vC,d8 T.ok hr rfl T.mg T.kp T.bd .nil aY (aI (pv 1) (aI (pv 2) bu))⟩))
   (dD (jM (i:=4) kY.nd rfl (Or.inl rfl) (d8 T.ok hr rfl T.mg T.kp T.bd .nil aY (aI (pv 0) (aI (pv 1) bu))))
   (dD (kg (sO (qG rfl) (by rfl) B.max boot_max (aI aZ (aI (dJ kE (pv 3) (pv 4) (λ_ _=>rfl)) bu))) (wk (pv 3) (pv 4) oq))
   (dr (fD (zP dE (by rfl) B.tuple pe (aI (pv 3) bu))))))),?_⟩
  refine⟨by show 5<=sizeLine;decide,λp hp=>⟨_,rfl,b,_,rfl,hb.new hp,by decide,by decide,λr H1 r0 r1 kB ER=>?_⟩⟩;have np:=hb.ne hp;obtain⟨m,em,m0,m1⟩:=NW r0 r1;refine⟨p,_,_,_,rfl,rfl,bi.of (ER p _ np.symm cx),em,?_⟩;have Sa:Kp b H H1:=((Kp.refl b H).new hp).trans ER;refine⟨_,rfl,g,rfl,by omega,by omega,λacc bI=>?_⟩;have vZ:=kB.ne bI;refine ku (λi ys H'=>jX H' b/\Kp b H1 H'/\∃ns:Γ3,ys=ns.map V.int/\ns.length=i/\∀n∈ns,0<=n/\n<=100) ⟨kB.new bI,(Kp.refl b H1).new bI,[],rfl,rfl,λn hn=>nomatch hn⟩ ?_ ?_
  .rintro i ys H' hi hy ⟨l5,BM,ns,rfl,hl,vI⟩;refine iG ?_;refine⟨_,rfl,_,rfl,b,m,rfl,l5,m0,by omega,λr2 H5 p0 p1 KP By=>⟨_,By acc _ vZ.symm hy,?_,Cn.of cx ⟨?_,(BM.trans By).acc bI,ns++[r2],?_,?_,?_⟩⟩⟩
   .rw[Za,sz];omega
   .obtain⟨c,d,e⟩:=KP;exact⟨c,d,by rw[dj vZ];exact e⟩
   .rw[Zr];rfl
   .rw[Z5,hl];rfl
   .intro n hn;rcases Zt.mp hn with z |z
    .exact vI n z
    .obtain rfl:n=r2:=by simpa using z
     exact⟨p0,by omega⟩
  .rintro ys H' hy ⟨l5,BM,ns,rfl,hl,vI⟩;refine⟨_,rfl,_,rfl,b,g,rfl,l5,g0,by omega,λr2 H5 p0 p1 KP By=>?_⟩;have EY:=By acc _ vZ.symm hy;obtain⟨ea,ex,em2⟩:=oI (ns:=ns) p0 (by omega);refine⟨_,rfl,_,rfl,acc,_,_,_,rfl,rfl,bi.of EY,ea,_,_,rfl,?_⟩;refine⟨_,rfl,_,rfl,acc,_,_,r2.toNat,rfl,rfl,EY,ex,?_⟩;have es:(ns.map V.int).set r2.toNat (V.int (if ns.getD r2.toNat 0>1 then ns.getD r2.toNat 0 else 1))=(ns.set r2.toNat (if ns.getD r2.toNat 0>1 then ns.getD r2.toNat 0 else 1)).map V.int:=by rw[List.map_set]
   refine⟨_,rfl,acc,_,rfl,.inl ⟨bi.of cx,λl BX=>?_⟩⟩;have kk:Kp b H H5:=(Sa.trans BM).trans By;have Ka:H acc=none:=Sa.free hb bI kB;have Wj:jX (aF H5 acc (.lst ((ns.map V.int).set r2.toNat (V.int (if ns.getD r2.toNat 0>1 then ns.getD r2.toNat 0 else 1))))) b:=by
    obtain⟨c,d,e⟩:=KP;exact⟨c,d,by rw[dj vZ];exact e⟩
   refine k l (ns.set r2.toNat (if ns.getD r2.toNat 0>1 then ns.getD r2.toNat 0 else 1)) _ (Wj.new BX) ((kk.acc Ka).new BX) ?_ ?_ ?_ ⟨(if ns.getD r2.toNat 0>1 then ns.getD r2.toNat 0 else 1),Zu (i:=r2.toNat) (Yu (by omega)),by split<;>omega⟩
   .rw[cx,es]
   .rw[Xx,hl];omega
   .intro n hn;rcases List.mem_or_eq_of_mem_set hn with z |z
    .exact vI n z
    .rw[z];have:=vI _ em2;split<;>omega
def fv:ap ["bag","goods","buyers","most","amounts","purses","wishes"] ["bag"] (bh (top 50)):=L2.di
def AU {f fT fP fW:Addr}{fd dT dP dW:FuncData}(F:cL K "_law_market" "_law_market" (top 50) f fd)(B:Nm mg)(T:bM K mg P w base "_law_take" 1 ["bag","many"] ke fT dT)
  (R:bM K mg P w base "_law_purse" 2 ["bag"] RB fP dP) (W:bM K mg P w base "_law_wishes" 2 ["bag","goods"] Ry fW dW):aO P w K mg base cQ 3 f fd ["bag"] Ly:=by
 refine F.ok fv (λvs H Q E h=>?_) (λbv A outer s H vs Q E hr h=>?_)
 .obtain⟨b,rfl,_⟩:=h;rfl
 .obtain⟨b,rfl,hb,k⟩:=h;have nk:db 1 _:=hr.mono (by decide);refine⟨_,dD (jM (i:=1) fv.nd rfl (Or.inr rfl) (cB de aZ (d8 T.ok nk rfl T.mg T.kp T.bd .nil aY (aI (pv 0) (aI (dJ kE (ia (aI aZ (aI aZ bu))) (d8 T.ok nk rfl T.mg T.kp T.bd .nil aY (aI (pv 0) (aI aZ bu))) (λ_ _=>rfl)) bu)))))
   (dD (jM (i:=2) fv.nd rfl (Or.inl rfl) (cB de aZ (d8 T.ok nk rfl T.mg T.kp T.bd .nil aY (aI (pv 0) (aI (dJ kE (ia (aI aZ (aI aZ bu))) (d8 T.ok nk rfl T.mg T.kp T.bd .nil aY (aI (pv 0) (aI aZ bu))) (λ_ _=>rfl)) bu)))))
   (dD (jM (i:=3) fv.nd rfl (Or.inr rfl) (dJ kE (ia (aI aZ (aI aZ (aI aZ bu)))) (d8 T.ok nk rfl T.mg T.kp T.bd .nil aY (aI (pv 0) (aI aZ bu))) (λ_ _=>rfl)))
   (dD (jM (i:=4) fv.nd rfl (Or.inl rfl) (zP dE (by rfl) B.tuple pe (aI (sW (own:=["k"]) (cap:=["bag","most"]) (ix:=[0,3]) (aG.of (bh (top 50)).names ["bag","goods","buyers","most","amounts","purses","wishes"]) rfl (OJ rfl B.range (aI (pv 1) bu))
    (λC fp s H=>⟨fh (i:=0) (Ψ9 ["k","bag","most"]) rfl (Or.inl rfl),vC,cB de aZ (d8 T.ok nk rfl T.mg T.kp T.bd .nil aY (aI (pv 1) (aI (pv 2) bu)))⟩)) bu)))
   (dD (jM (i:=5) fv.nd rfl (Or.inl rfl) (zP dE (by rfl) B.tuple pe (aI (sW (own:=["k"]) (cap:=["bag"]) (ix:=[0]) (aG.of (bh (top 50)).names ["bag","goods","buyers","most","amounts","purses","wishes"]) rfl (OJ rfl B.range (aI (pv 2) bu))
    (λC fp s H=>⟨fh (i:=0) (Ψ9 ["k","bag"]) rfl (Or.inl rfl),vC,d8 R.ok hr rfl R.mg R.kp R.bd .nil aY (aI (pv 1) bu)⟩)) bu)))
   (dD (jM (i:=6) fv.nd rfl (Or.inl rfl) (zP dE (by rfl) B.tuple pe (aI (sW (own:=["k"]) (cap:=["bag","goods"]) (ix:=[0,1]) (aG.of (bh (top 50)).names ["bag","goods","buyers","most","amounts","purses","wishes"]) rfl (OJ rfl B.range (aI (pv 2) bu))
    (λC fp s H=>⟨fh (i:=0) (Ψ9 ["k","bag","goods"]) rfl (Or.inl rfl),vC,d8 W.ok hr rfl W.mg W.kp W.bd .nil aY (aI (pv 1) (aI (pv 2) bu))⟩)) bu)))
   (dr (fD (xD (aI (pv 4) (aI (pv 5) (aI (pv 6) bu))))))))))),?_⟩
  refine⟨_,rfl,by show 2<=sizeLine;decide,λp1 OS=>⟨_,rfl,b,_,rfl,hb.new OS,by decide,by decide,λr1 H1 r1a r1b kB ER=>?_⟩⟩;obtain⟨m1,em1,m1a,m1b⟩:=JM r1a r1b;refine⟨p1,_,_,_,rfl,rfl,bi.of (ER p1 _ (hb.ne OS).symm cx),em1,b,m1,rfl,kB,m1a,by omega,λg H2 g0 g1 mr Fk=>⟨_,_,rfl,rfl,?_⟩⟩;have k2:Kp b H H2:=(((Kp.refl b H).new OS).trans ER).trans Fk;refine⟨_,rfl,by show 2<=sizeLine;decide,λp3 VT=>⟨_,rfl,b,_,rfl,mr.new VT,by decide,by decide,λr3 H3 r3a r3b QQ OI=>?_⟩⟩;obtain⟨m3,em3,m3a,m3b⟩:=JM r3a r3b;refine⟨p3,_,_,_,rfl,rfl,bi.of (OI p3 _ (mr.ne VT).symm cx),em3,b,m3,rfl,QQ,m3a,by omega,λu H4 u0 u1 hb4 kp4=>⟨_,_,rfl,rfl,?_⟩⟩;have k4:Kp b H H4:=((k2.new VT).trans OI).trans kp4;refine⟨by show 3<=sizeLine;decide,λp5 VS=>⟨_,rfl,b,_,rfl,hb4.new VS,by decide,by decide,λr5 H5 r5a r5b KP By=>?_⟩⟩;obtain⟨m5,em5,m5a,m5b⟩:=NX r5a r5b;refine⟨p5,_,_,_,rfl,rfl,bi.of (By p5 _ (hb4.ne VS).symm cx),em5,?_⟩;have k5:Kp b H H5:=(k4.new VS).trans By;refine⟨_,rfl,1+g,rfl,by omega,by omega,λa6 ha6=>?_⟩;refine oH KP ha6 (by omega) RA (λ_ _ _ _ h=>h) (λi H' hi l5 BM Z hZ=>?_) (λam H6 Wj kp6 hl6 ON hy6=>?_)
  .exact⟨_,rfl,_,rfl,b,m5,rfl,l5,m5a,by omega,λr H7 q0 q1 Wh Ul=>⟨_,_,rfl,rfl,hZ _ _ Wh Ul ⟨_,rfl,by omega,by omega⟩⟩⟩
  refine⟨a6,am,rfl,.inl ⟨bi.of hy6,λpa hpa=>?_⟩⟩;have k6:=(k5.trans kp6).new (o:=.tup am) hpa;have b6:=Wj.new (o:=.tup am) hpa;refine⟨_,rfl,1+u,rfl,by omega,by omega,λa7 ha7=>?_⟩;refine oH b6 ha7 (by omega) RP (λ_ _ _ t h=>by obtain⟨a,t1,u1,e,h1,h2⟩:=h;exact⟨a,t1,u1,e,t _ _ h1,h2⟩) (λi H' hi l5 BM Z hZ=>?_) (λpu H7 Wh Ul hl7 hr7 hy7=>?_)
  .exact⟨_,rfl,b,rfl,l5,λv d H8 Wg PU tr pu=>hZ _ _ Wg PU (RP.of tr pu)⟩
  refine⟨a7,pu,rfl,.inl ⟨bi.of hy7,λpp pf=>?_⟩⟩;have k7:=(k6.trans Ul).new (o:=.tup pu) pf;have b7:=Wh.new (o:=.tup pu) pf;refine⟨_,rfl,1+u,rfl,by omega,by omega,λa8 ha8=>?_⟩;refine oH b7 ha8 (by omega) (RW (1+g)) (λ_ _ _ t h=>by obtain⟨a,ns,e,h1,h2⟩:=h;exact⟨a,ns,e,t _ _ h1,h2⟩) (λi H' hi l5 BM Z hZ=>?_) (λws H8 Wg PU hl8 hw8 hy8=>?_)
  .exact⟨_,rfl,_,rfl,b,1+g,rfl,l5,by omega,by omega,λq ns H9 hb9 kp9 e1 e2 e3 e4=>hZ _ _ hb9 kp9 ⟨q,ns,rfl,e1,e2,e3,e4⟩⟩
  refine⟨a8,ws,rfl,.inl ⟨bi.of hy8,λpw Fp=>?_⟩⟩;have k8:=(k7.trans PU).new (o:=.tup ws) Fp;have b8:=Wg.new (o:=.tup ws) Fp;refine⟨_,rfl,_,rfl,_,rfl,by show 3<=sizeLine;decide,λp hp=>?_⟩;have tB:Tm H7 (aF (aF H8 pw (.tup ws)) p (.tup [.ref pa,.ref pp,.ref pw])):=((Tm.new pf).trans ((PU.tm b7).trans (Tm.new Fp))).trans (Tm.new hp);have tB2:Tm (aF H7 pp (.tup pu)) (aF (aF H8 pw (.tup ws)) p (.tup [.ref pa,.ref pp,.ref pw])):=((PU.tm b7).trans (Tm.new Fp)).trans (Tm.new hp);have tA:Tm (aF H6 pa (.tup am)) (aF (aF H8 pw (.tup ws)) p (.tup [.ref pa,.ref pp,.ref pw])):=(Ul.tm b6).trans tB;have tC:Tm H8 (aF (aF H8 pw (.tup ws)) p (.tup [.ref pa,.ref pp,.ref pw])):=(Tm.new Fp).trans (Tm.new hp);have ZY:=tA pa _ cx;have ZX:=tB2 pp _ cx;have ZW:=(Tm.new (o:=.tup [.ref pa,.ref pp,.ref pw]) hp) pw _ cx;have Uz:((1+g).toNat:Int)=1+g:=by omega
  obtain⟨da,ta,sa⟩:=xK (b:=b) (ys:=am) λy hy=>RA.tr (H:=aF (aF H8 pw (.tup ws)) p (.tup [.ref pa,.ref pp,.ref pw])) (ON y hy)
  obtain⟨dp,tp,sp⟩:=xK (b:=b) (ys:=pu) λy hy=>RP.tr (H:=aF (aF H8 pw (.tup ws)) p (.tup [.ref pa,.ref pp,.ref pw])) (by obtain⟨a,t1,u1,e,h1,h2⟩:=hr7 y hy;exact⟨a,t1,u1,e,tB _ _ h1,h2⟩)
  obtain⟨dw,tw,sw⟩:=xK (b:=b) (ys:=ws) λy hy=>RW.tr (g:=(1+g).toNat) (H:=aF (aF H8 pw (.tup ws)) p (.tup [.ref pa,.ref pp,.ref pw])) (by obtain⟨a,ns,e,h1,h2⟩:=hw8 y hy;exact⟨a,ns,e,tC _ _ h1,by rw[Uz];exact h2⟩)
  have la:=ta.len;have lp:=tp.len;have lw:=tw.len;have eg:(1+g).toNat=da.length:=by omega
  rw[eg] at sw;obtain⟨sw,spo⟩:=uE sw;refine k p da dp dw _ (b8.new hp) (k8.new hp) (.tup cx (.cons (.tup ZY ta) (.cons (.tup ZX tp) (.cons (.tup ZW tw) .nil)))) (Ij (by omega) (by omega) sa (by omega) (by omega) sp (by omega) sw) spo
def C0:ap ["one","other"] ["one","other"] (bh (top 8)):=L2.di
def HH {f:Addr}{fd:FuncData}(F:cL K "common_divisor" "common_divisor" (top 8) f fd)(N:Nm mg):aO P w K mg base cQ 1 f fd ["one","other"] nR:=by
 refine F.ok C0 (λvs H Q E h=>?_) (λbv A outer s H vs Q E hr h=>?_)
 .obtain⟨t,u,rfl,_⟩:=h;rfl
 .obtain⟨t,u,rfl,k⟩:=h;refine⟨_,dD (lc PassesOwn.never (pQ pW (pv 1) aZ (aK _)) (dr (lK (i:=0) (j:=1) rfl C0.nd rfl rfl (by decide) rfl rfl (aI (pv 1) (aI (cB yS (pv 0) (pv 1)) bu)) (by rfl))))
   (dr (fD (sO lj (by rfl) N.abs boot_abs (aI (pv 0) bu)))),?_⟩
  refine kU (λσ H'=>H'=H/\∃a c:Int,σ=[some (.int a),some (.int c)]/\Int.gcd a c=Int.gcd t u)
   (λσ _=>match σ with |[_,some (.int c)]=>c.natAbs |_=>0) ⟨rfl,t,u,rfl,rfl⟩ ?_ ?_
  .rintro σ H' ⟨rfl,a,c,rfl,e⟩;refine⟨_,rfl,rfl,_,rfl,?_⟩;by_cases hc:c=0
   .subst hc;refine df ?_;refine⟨_,rfl,_,rfl,?_⟩;rw[uG,e];exact k
   .have e1:(!decide (V.int c=V.int 0))=true:=by simp[hc]
    rw[e1];refine cM ?_;exact⟨_,rfl,_,rfl,_,rfl,_,_,rfl,rfl,hc,_,_,rfl,⟨rfl,c,a.fmod c,rfl,uz.trans e⟩,zo hc⟩
  .rintro σ H' Q1 Q2 we ⟨v,e,sc,kk,ek,q⟩;exact⟨v,e,sc,kk,ek,we _ _ q⟩
def LG:ap ["top","bottom","divisor"] ["top","bottom"] (bh (top 9)):=L2.di
def uQ {f fG Nn:Addr}{fd dG:FuncData}(F:cL K "fraction" "fraction" (top 9) f fd)(LO:mg "NoNumber"=some (.ref Nn))(exN:PySem.W.excIn K Nn [.type "ValueError",.type "Exception",.type "BaseException",.type "object"] "ValueError.__new__"=true)(G:bM K mg P w base "common_divisor" 1 ["one","other"] nR fG dG):aO P w K mg base (pi P w) 2 f fd ["top","bottom"] (B5 Nn):=by
 refine F.OG LG (λvs H Q E h=>?_) (λbv A outer s H vs Q E hr h=>?_)
 .obtain⟨t,u,rfl,_⟩:=h;rfl
 .obtain⟨t,u,rfl,hb,k0,k1⟩:=h;refine⟨_,dD (eD (pQ nL (pv 1) aZ (aK _)) (dr (oy PySem.F.excBase_ValueError rfl LO exN (aI wn bu))) sX)
   (dD (jM (i:=2) LG.nd rfl (Or.inl rfl) (d8 G.ok hr rfl G.mg G.kp G.bd .nil aY (aI (pv 0) (aI (pv 1) bu))))
   (dD (eD (pQ l6 (pv 1) aZ (aK _)) (dr (jM (i:=2) LG.nd rfl (Or.inl rfl) (Tn MM (pv 2)))) sX)
   (dr (fD (xD (aI (cB jG (pv 0) (pv 2)) (aI (cB jG (pv 1) (pv 2)) bu))))))),?_⟩
  refine⟨_,rfl,rfl,_,rfl,?_⟩;by_cases hu:u=0
  .subst hu;exact cM ⟨by show 1<=sizeLine;decide,k0 rfl⟩
  have e1:decide (V.int u=V.int 0)=false:=by simp[hu]
  rw[e1];refine df ?_;refine⟨_,rfl,_,rfl,t,u,rfl,?_⟩;refine⟨_,rfl,_,_,rfl,rfl,_,rfl,?_⟩;have hs:=(jA (t:=t) hu).2.2.2.1;have vG:=Jt (t:=t) hb hu;obtain⟨q1,q2⟩:=nX (T:=t) hu;have k1':∀p,H p=none->Q (.ref p) (aF H p (.tup [.int (nx t u),.int (ny t u)])):=λp hp=>by rw[q1,q2];exact k1 hu p hp
  have gy:∀d:Int,d=sg t u->(Rt (Rr (Ce (Kn (rI (λ_ j=>j≠0/\Bd 8000 j) λi j=>.int (i.fdiv j)) (vU 0) (vU 2)) (Ce (Kn (rI (λ_ j=>j≠0/\Bd 8000 j) λi j=>.int (i.fdiv j)) (vU 1) (vU 2)) Ru)))) { nx:=λ_ H'=>Q .bZ H',rt:=Q } [some (.int t),some (.int u),some (.int d)] H:=λd hd=>by
   subst hd;exact⟨_,rfl,_,rfl,_,_,rfl,rfl,⟨hs,vG⟩,_,rfl,_,rfl,_,_,rfl,rfl,⟨hs,vG⟩,by show 2<=sizeLine;decide,λp hp=>k1' p hp⟩
  by_cases hn:u<0
  .rw[decide_eq_true hn];exact cM ⟨_,rfl,_,rfl,gy _ (by unfold sg;rw[if_pos hn])⟩
  .rw[decide_eq_false hn];exact df (gy _ (by unfold sg;rw[if_neg hn]))
def FP:ap ["top","bottom","one","other","by"] ["top","bottom"] (bh (top 41)):=L2.di
def Ts {f:Addr}{fd:FuncData}(F:cL K "_law_frac" "_law_frac" (top 41) f fd)(B:Nm mg):aO P w K mg base cQ 1 f fd ["top","bottom"] nu:=by
 refine F.ok FP (λvs H Q E h=>?_) (λbv A outer s H vs Q E hr h=>?_)
 .obtain⟨t,u,rfl,_⟩:=h;rfl
 .obtain⟨t,u,rfl,u0,u1,k⟩:=h;refine⟨_,dD (lK (i:=2) (j:=3) rfl FP.nd rfl rfl (by decide) rfl rfl (aI (pv 0) (aI (pv 1) bu)) (by rfl))
   (dD (lc PassesOwn.never (pQ pW (pv 3) aZ (aK _)) (dr (lK (i:=2) (j:=3) rfl FP.nd rfl rfl (by decide) rfl rfl (aI (pv 3) (aI (cB yS (pv 2) (pv 3)) bu)) (by rfl))))
   (dD (jM (i:=4) FP.nd rfl (Or.inl rfl) (cB gm (sO lj (by rfl) B.abs boot_abs (aI (pv 2) bu)) (cB wq aZ (cB gm aZ (zP jK (by rfl) B.int boot_int (aI (BO l6 (pv 1) aZ (aK _)) bu))))))
   (dr (fD (xD (aI (cB jG (pv 0) (pv 4)) (aI (cB jG (pv 1) (pv 4)) bu))))))),?_⟩
  have hu:u≠0:=by omega
  obtain⟨q1,q2⟩:=nX (T:=t) hu;have k':∀p,H p=none->Q (.ref p) (aF H p (.tup [.int (nx t u),.int (ny t u)])):=λp hp=>by rw[q1,q2];exact k p hp
  have hs:=(jA (t:=t) hu).2.2.2.1;have vG:=Jt (t:=t) u1 hu;have esg:(Int.gcd t u:Int)=sg t u:=by unfold sg;rw[if_neg (by omega)]
  refine⟨_,rfl,_,rfl,_,_,rfl,?_⟩;refine kU (λσ H'=>H'=H/\∃a c:Int,σ=[some (.int t),some (.int u),some (.int a),some (.int c),none]/\Int.gcd a c=Int.gcd t u)
   (λσ _=>match σ with |[_,_,_,some (.int c),_]=>c.natAbs |_=>0) ⟨rfl,t,u,rfl,rfl⟩ ?_ ?_
  .rintro σ H' ⟨rfl,a,c,rfl,e⟩;refine⟨_,rfl,rfl,_,rfl,?_⟩;by_cases hc:c=0
   .subst hc;refine df ?_;refine⟨_,rfl,_,rfl,_,rfl,_,_,rfl,rfl,.inr ⟨_,rfl,_,_,rfl,rfl,.inl ⟨by decide,by decide⟩,_,_,rfl,rfl,?_⟩⟩;have e2:decide (u<0)=false:=decide_eq_false (by omega);rw[uG,e,e2,esg];have e3:sg t u*(1-2*(if false=true then (1:Int) else 0))=sg t u:=by simp
    refine⟨_,_,rfl,rfl,.inr ⟨by decide,by decide⟩,?_⟩;show eV 4 (V.int (sg t u*(1-2*(if false=true then (1:Int) else 0)))) _ _ _;rw[e3];exact⟨_,rfl,_,rfl,_,_,rfl,rfl,⟨hs,vG⟩,_,rfl,_,rfl,_,_,rfl,rfl,⟨hs,vG⟩,by show 2<=sizeLine;decide,λp hp=>k' p hp⟩
   .have e1:(!decide (V.int c=V.int 0))=true:=by simp[hc]
    rw[e1];refine cM ?_;exact⟨_,rfl,_,rfl,_,rfl,_,_,rfl,rfl,hc,_,_,rfl,⟨rfl,c,a.fmod c,rfl,uz.trans e⟩,zo hc⟩
  .rintro σ H' Q1 Q2 we ⟨v,e,sc,kk,ek,q⟩;exact⟨v,e,sc,kk,ek,we _ _ q⟩
def DQ:ap ["one","other"] ["one","other"] (bh (top 10)):=L2.di
def Ed {f fF Nn:Addr}{fd dF:FuncData}(F:cL K "times" "times" (top 10) f fd)(G:kF K mg P w base "fraction" 2 ["top","bottom"] (B5 Nn) fF dF):aO P w K mg base (pi P w) 3 f fd ["one","other"] (vp iT):=by
 refine F.OG DQ (λvs H Q E h=>?_) (λbv A outer s H vs Q E hr h=>?_)
 .obtain⟨p,q,a,b,rfl,_⟩:=h;rfl
 .obtain⟨p,q,a,b,rfl,hp,hq,⟨ba,bb⟩,⟨bc,bd⟩,k⟩:=h;have hb:=den_pos a;have hd:=den_pos b;refine⟨_,dr (fD (d8 G.ok hr rfl G.mg G.kp G.bd .nil Cr (aI (cB sH (dJ cg (pv 0) aZ (λ_ _=>rfl)) (dJ cg (pv 1) aZ (λ_ _=>rfl))) (aI (cB sH (dJ cg (pv 0) aZ (λ_ _=>rfl)) (dJ cg (pv 1) aZ (λ_ _=>rfl))) bu)))),?_⟩;refine⟨_,rfl,p,_,_,_,rfl,rfl,aM.of hp,rfl,_,rfl,q,_,_,_,rfl,rfl,aM.of hq,rfl,_,_,rfl,rfl,⟨b3 ba,b3 bc⟩,_,rfl,p,_,_,_,rfl,rfl,aM.of hp,rfl,_,rfl,q,_,_,_,rfl,rfl,aM.of hq,rfl,_,_,rfl,rfl,⟨b3 bb,b3 bd⟩,?_⟩;exact⟨_,_,rfl,b6 (bb.mul bd),λh0=>absurd h0 (Int.ne_of_gt (Y4 hb hd)),λ_ r jN=>by rw[kN];exact k r jN⟩
def wN:ap ["one","other"] ["one","other"] (bh (top 42)):=L2.di
def wU {f fF:Addr}{fd dF:FuncData}(F:cL K "_law_add" "_law_add" (top 42) f fd)(G:bM K mg P w base "_law_frac" 1 ["top","bottom"] nu fF dF):aO P w K mg base cQ 2 f fd ["one","other"] (vp qPl):=by
 refine F.ok wN (λvs H Q E h=>?_) (λbv A outer s H vs Q E hr h=>?_)
 .obtain⟨p,q,a,b,rfl,_⟩:=h;rfl
 .obtain⟨p,q,a,b,rfl,hp,hq,⟨ba,bb⟩,⟨bc,bd⟩,k⟩:=h;have hb:=den_pos a;have hd:=den_pos b;refine⟨_,dr (fD (d8 G.ok hr rfl G.mg G.kp G.bd .nil aY (aI (cB de (cB sH (dJ cg (pv 0) aZ (λ_ _=>rfl)) (dJ cg (pv 1) aZ (λ_ _=>rfl))) (cB sH (dJ cg (pv 1) aZ (λ_ _=>rfl)) (dJ cg (pv 0) aZ (λ_ _=>rfl)))) (aI (cB sH (dJ cg (pv 0) aZ (λ_ _=>rfl)) (dJ cg (pv 1) aZ (λ_ _=>rfl))) bu)))),?_⟩;refine⟨_,rfl,p,_,_,_,rfl,rfl,aM.of hp,rfl,_,rfl,q,_,_,_,rfl,rfl,aM.of hq,rfl,_,_,rfl,rfl,⟨b3 ba,b3 bd⟩,_,rfl,q,_,_,_,rfl,rfl,aM.of hq,rfl,_,rfl,p,_,_,_,rfl,rfl,aM.of hp,rfl,_,_,rfl,rfl,⟨b3 bc,b3 bb⟩,_,_,rfl,rfl,_,rfl,p,_,_,_,rfl,rfl,aM.of hp,rfl,_,rfl,q,_,_,_,rfl,rfl,aM.of hq,rfl,_,_,rfl,rfl,⟨b3 bb,b3 bd⟩,?_⟩;exact⟨_,_,rfl,Y4 hb hd,b6 (bb.mul bd),λr jN=>by rw[sq];exact k r jN⟩
def wL:ap ["one","other"] ["one","other"] (bh (top 44)):=L2.di
def wS {f fF:Addr}{fd dF:FuncData}(F:cL K "_law_mul" "_law_mul" (top 44) f fd)(G:bM K mg P w base "_law_frac" 1 ["top","bottom"] nu fF dF):aO P w K mg base cQ 2 f fd ["one","other"] (vp iT):=by
 refine F.ok wL (λvs H Q E h=>?_) (λbv A outer s H vs Q E hr h=>?_)
 .obtain⟨p,q,a,b,rfl,_⟩:=h;rfl
 .obtain⟨p,q,a,b,rfl,hp,hq,⟨ba,bb⟩,⟨bc,bd⟩,k⟩:=h;have hb:=den_pos a;have hd:=den_pos b;refine⟨_,dr (fD (d8 G.ok hr rfl G.mg G.kp G.bd .nil aY (aI (cB sH (dJ cg (pv 0) aZ (λ_ _=>rfl)) (dJ cg (pv 1) aZ (λ_ _=>rfl))) (aI (cB sH (dJ cg (pv 0) aZ (λ_ _=>rfl)) (dJ cg (pv 1) aZ (λ_ _=>rfl))) bu)))),?_⟩;refine⟨_,rfl,p,_,_,_,rfl,rfl,aM.of hp,rfl,_,rfl,q,_,_,_,rfl,rfl,aM.of hq,rfl,_,_,rfl,rfl,⟨b3 ba,b3 bc⟩,_,rfl,p,_,_,_,rfl,rfl,aM.of hp,rfl,_,rfl,q,_,_,_,rfl,rfl,aM.of hq,rfl,_,_,rfl,rfl,⟨b3 bb,b3 bd⟩,?_⟩;exact⟨_,_,rfl,Y4 hb hd,b6 (bb.mul bd),λr jN=>by rw[kN];exact k r jN⟩
def AH:ap ["one","other"] ["one","other"] (bh (top 12)):=L2.di
def HD {f:Addr}{fd:FuncData}(F:cL K "less" "less" (top 12) f fd):aO P w K mg base cQ 1 f fd ["one","other"] gh:=by
 refine F.ok AH (λvs H Q E h=>?_) (λbv A outer s H vs Q E hr h=>?_)
 .obtain⟨p,q,a,b,rfl,_⟩:=h;rfl
 .obtain⟨p,q,a,b,rfl,hp,hq,⟨ba,bb⟩,⟨bc,bd⟩,k⟩:=h;have hb:=den_pos a;have hd:=den_pos b;refine⟨_,dr (fD (BO l6 (cB sH (dJ cg (pv 0) aZ (λ_ _=>rfl)) (dJ cg (pv 1) aZ (λ_ _=>rfl))) (cB sH (dJ cg (pv 1) aZ (λ_ _=>rfl)) (dJ cg (pv 0) aZ (λ_ _=>rfl))) (aK _))),?_⟩;exact⟨_,rfl,p,_,_,_,rfl,rfl,aM.of hp,rfl,_,rfl,q,_,_,_,rfl,rfl,aM.of hq,rfl,_,_,rfl,rfl,⟨b3 ba,b3 bd⟩,_,rfl,q,_,_,_,rfl,rfl,aM.of hq,rfl,_,rfl,p,_,_,_,rfl,rfl,aM.of hp,rfl,_,_,rfl,rfl,⟨b3 bc,b3 bb⟩,_,_,rfl,rfl,by simp only[Dq];exact k⟩
def pE:ap ["one","other"] ["one","other"] (bh (top 45)):=L2.di
def uO {f:Addr}{fd:FuncData}(F:cL K "_law_less" "_law_less" (top 45) f fd):aO P w K mg base cQ 1 f fd ["one","other"] gh:=by
 refine F.ok pE (λvs H Q E h=>?_) (λbv A outer s H vs Q E hr h=>?_)
 .obtain⟨p,q,a,b,rfl,_⟩:=h;rfl
 .obtain⟨p,q,a,b,rfl,hp,hq,⟨ba,bb⟩,⟨bc,bd⟩,k⟩:=h;have hb:=den_pos a;have hd:=den_pos b;refine⟨_,dr (fD (BO l6 (cB sH (dJ cg (pv 0) aZ (λ_ _=>rfl)) (dJ cg (pv 1) aZ (λ_ _=>rfl))) (cB sH (dJ cg (pv 1) aZ (λ_ _=>rfl)) (dJ cg (pv 0) aZ (λ_ _=>rfl))) (aK _))),?_⟩;exact⟨_,rfl,p,_,_,_,rfl,rfl,aM.of hp,rfl,_,rfl,q,_,_,_,rfl,rfl,aM.of hq,rfl,_,_,rfl,rfl,⟨b3 ba,b3 bd⟩,_,rfl,q,_,_,_,rfl,rfl,aM.of hq,rfl,_,rfl,p,_,_,_,rfl,rfl,aM.of hp,rfl,_,_,rfl,rfl,⟨b3 bc,b3 bb⟩,_,_,rfl,rfl,by simp only[Dq];exact k⟩
def MZ:ap ["one","other"] ["one","other"] (bh (top 11)):=L2.di
def Hy {f fF Nn:Addr}{fd dF:FuncData}(F:cL K "over" "over" (top 11) f fd)(G:kF K mg P w base "fraction" 2 ["top","bottom"] (B5 Nn) fF dF):aO P w K mg base (pi P w) 3 f fd ["one","other"] (rn Nn):=by
 refine F.OG MZ (λvs H Q E h=>?_) (λbv A outer s H vs Q E hr h=>?_)
 .obtain⟨p,q,a,b,rfl,_⟩:=h;rfl
 .obtain⟨p,q,a,b,rfl,hp,hq,⟨ba,bb⟩,⟨bc,bd⟩,k0,k1⟩:=h;have hb:=den_pos a;have hd:=den_pos b;refine⟨_,dr (fD (d8 G.ok hr rfl G.mg G.kp G.bd .nil Cr (aI (cB sH (dJ cg (pv 0) aZ (λ_ _=>rfl)) (dJ cg (pv 1) aZ (λ_ _=>rfl))) (aI (cB sH (dJ cg (pv 0) aZ (λ_ _=>rfl)) (dJ cg (pv 1) aZ (λ_ _=>rfl))) bu)))),?_⟩;refine⟨_,rfl,p,_,_,_,rfl,rfl,aM.of hp,rfl,_,rfl,q,_,_,_,rfl,rfl,aM.of hq,rfl,_,_,rfl,rfl,⟨b3 ba,b3 bd⟩,?_⟩;refine⟨_,rfl,p,_,_,_,rfl,rfl,aM.of hp,rfl,_,rfl,q,_,_,_,rfl,rfl,aM.of hq,rfl,_,_,rfl,rfl,⟨b3 bb,b3 bc⟩,?_⟩;refine⟨_,_,rfl,b6 (bb.mul bc),λh0=>k0 ?_,λh0 r jN=>?_⟩
  .rcases Int.mul_eq_zero.mp h0 with z |z
   .omega
   .exact Rat.num_eq_zero.mp z
  .have hn:b.num≠0:=λz=>h0 (by rw[z,Int.mul_zero])
   rw[kR hn];exact k1 (λz=>hn (by rw[z];rfl)) r jN
def xN:ap ["some","found","one"] ["some"] (bh (top 46)):=L2.di
def ND {f fA:Addr}{fd dA:FuncData}(F:cL K "_law_sum" "_law_sum" (top 46) f fd)(A:bM K mg P w base "_law_add" 2 ["one","other"] (vp qPl) fA dA):aO P w K mg base cQ 3 f fd ["some"] xL:=by
 refine F.ok xN (λvs H Q E h=>?_) (λbv A' outer s H vs Q E hr h=>?_)
 .obtain⟨l,ys,qs,rfl,_⟩:=h;rfl
 .obtain⟨l,ys,qs,rfl,hl,hf,hb,hn,k⟩:=h;refine⟨_,dD (jM (i:=1) xN.nd rfl (Or.inl rfl) (xD (aI aZ (aI aZ bu))))
   (dD (nV PassesOwn.never rfl (Ak (pv 0)) (fh (i:=2) xN.nd rfl (Or.inl rfl)) (dr (jM (i:=1) xN.nd rfl (Or.inl rfl) (d8 A.ok hr rfl A.mg A.kp A.bd .nil aY (aI (pv 1) (aI (pv 2) bu))))))
   (dr (fD (pv 1)))),?_⟩
  refine⟨by show 2<=sizeLine;decide,λp0 Fq=>?_⟩;have s0:=(az.refl H).new (o:=.tup [.int 0,.int 1]) Fq;refine⟨_,rfl,l,rfl,⟨ys,bi.of (s0 _ _ hl)⟩,?_⟩;refine oF (xs:=ys) (λi σ H'=>(∃r y2,σ=[some (.ref l),some (.ref r),y2]/\H' r=some (qO (bz (qs.take i))))/\az H H') ⟨⟨p0,_,rfl,cx⟩,s0⟩ (λj σ H' _ q=>bi.of (q.2 _ _ hl)) ?_ ?_
  .rintro i y σ H1 hy ⟨⟨r,y2,rfl,nk⟩,s1⟩;obtain⟨a,rfl,ha⟩:=(hf.aA s1).2 i y hy;have hi:i<qs.length:=by have:=(Zf.mp hy).1;rw[hf.1] at this;exact this
   have eq:qs[i]?=some (qs.getD i 0):=by simp[List.getD,Zc hi]
   have b1:Rb 3000 (bz (qs.take i)):=(yG hb i).mono (by omega);have b2:Rb 3000 (qs.getD i 0):=(hb _ (Zu eq)).mono (by decide);refine⟨_,rfl,_,rfl,r,a,_,_,rfl,nk,ha,b1,b2,λr2 zU=>?_⟩;exact⟨⟨r2,_,rfl,by rw[vd eq,qi];exact cx⟩,s1.new zU⟩
  .rintro σ H1 ⟨⟨r,y2,rfl,nk⟩,s1⟩;rw[Qc (by rw[hf.1];exact Ze _)] at nk;exact⟨_,rfl,k r H1 s1 nk⟩
end
end Ae
namespace MI
open PySem L2 KG EX KM
section
variable {K:Θ1}{QX:Addr->aU->Prop}{E:XK}{X:Cx}{w:Wd}{O:aU}{H:Hp}
structure FG (w:Wd)(O:aU)(H:Hp)(w':Wd)(O':aU)(H':Hp):Prop where
 bs:∃t,w'.eN=w.eN++t
 eH:∃t,w'.eH=w.eH++t
 aA:az (G w O H) (G w' O' H')
def FG.refl (w:Wd)(O:aU)(H:Hp):FG w O H w O H:=⟨⟨[],by simp⟩,⟨[],by simp⟩,az.refl _⟩
def FG.ex {w w1 w2:Wd}{O O1 O2:aU}{H H1 H2:Hp}(a:FG w O H w1 O1 H1)(b:lz w1 O1 H1 w2 O2 H2):FG w O H w2 O2 H2:=by
 obtain⟨t,ht⟩:=a.eH;obtain⟨u,hu⟩:=b.eH;obtain⟨t2,QB⟩:=a.bs;obtain⟨u2,VM⟩:=b.bs;exact⟨⟨t2++u2,by rw[VM,QB,Xt]⟩,⟨t++u,by rw[hu,ht,Xt]⟩,a.aA.trans b.aA⟩
def wH (K:Θ1)(J:It)(w:Wd)(O:aU)(H:Hp)(items:List AV):Prop:=∀O2 w2 H2,FG w O H w2 O2 H2->aJ K w2 O2 H2->∀i,(∀x,items[i]?=some x->J.go i H2/\∀v H3,J.vj i H2 v H3->H3=H2/\j8 K w2 (G w2 O2 H2) v x)/\(items.length<=i->J.stop i H2)
def Lp (K:Θ1)(QX:Addr->aU->Prop)(E:XK)(M:MA):TI:=λσ H R=>∃w O sl Q0,my K QX E w O H σ sl/\M sl O Q0/\∀items O' w' H' J,Q0 items O'->cq w O H w' O' H'->aJ K w' O' H'->wH K J w' O' H' items->R J H'
def xi {a:Addr}{ds:Ξ1}(t:cV (G w O H) (.ref a) (.list ds)):wH K (xJ K0 a) w O H (ds.map .im):=λO2 w2 H2 e r i=>by
 cases cV.aA e.aA t with |lst h1 t1=>?_
 rename_i xs;have hh:=(hW h1).1;refine⟨λx hx=>?_,λhl=>⟨xs,bi.of hh,by rw[Za] at hl;rw[t1.len];exact hl⟩⟩;rw[Zh] at hx;cases hd:ds[i]? with
 |none=>rw[hd] at hx;cases hx
 |some d =>
  rw[hd] at hx;cases Option.some.inj hx;obtain⟨v,hv,tv⟩:=t1.get hd;refine⟨⟨xs,v,bi.of hh,hv⟩,?_⟩;rintro v' H3 ⟨rfl,hy⟩;have:=hy xs (bi.of hh);rw[hv] at this;cases Option.some.inj this;exact⟨rfl,tv⟩
def xh {a:Addr}{ds:Ξ1}(t:cV (G w O H) (.ref a) (.tuple ds)):wH K (Ag K0 a) w O H (ds.map .im):=λO2 w2 H2 e r i=>by
 cases cV.aA e.aA t with |tup h1 t1=>?_
 rename_i xs;have hh:=(hW h1).1;refine⟨λx hx=>?_,λhl=>⟨xs,aM.of hh,by rw[Za] at hl;rw[t1.len];exact hl⟩⟩;rw[Zh] at hx;cases hd:ds[i]? with
 |none=>rw[hd] at hx;cases hx
 |some d =>
  rw[hd] at hx;cases Option.some.inj hx;obtain⟨v,hv,tv⟩:=t1.get hd;refine⟨⟨xs,v,aM.of hh,hv⟩,?_⟩;rintro v' H3 ⟨rfl,hy⟩;have:=hy xs (aM.of hh);rw[hv] at this;cases Option.some.inj this;exact⟨rfl,tv⟩
def HS {tg e:Expr}{M:ME}(he:PE X e (cy K QX E M)):PI X tg e (Lp K QX E (bw M)):=PI.imp (C9 he) λσ H R ⟨w,O,sl,Q0,c,m,q⟩=>⟨w,O,sl,_,c,m,λx O1 v w1 H1 h1 e1 r1 a1=>by
 split at h1
 .rename_i ds hd;unfold qY at hd;split at hd
  .cases Option.some.inj hd
   obtain⟨a,xs,rfl,hx,hs⟩:=fK a1;exact .inl ⟨a,rfl,⟨xs,bi.of hx⟩,q _ O1 w1 H1 _ h1 e1 r1 (xi a1)⟩
  .cases Option.some.inj hd
   obtain⟨a,xs,rfl,hx,hs⟩:=eU a1;exact .inr ⟨a,rfl,⟨xs,aM.of hx⟩,q _ O1 w1 H1 _ h1 e1 r1 (xh a1)⟩
  .cases hd
 .exact h1.elim⟩
structure CI (k:Nat)(C:MT)(M:ME)(sl:iO)(ds:Ξ1)(Z:Ξ1->aU->Prop)(items:List AV)(O1:aU):Prop where
 fr:sl[k]?=some none
 ex:∃Jv:Nat->Ξ1->aU->Prop,Jv 0 ds O1/\(∀j es O',Jv j es O'->es.length<1000000) /\
  (∀j y es O',items[j]?=some y->Jv j es O'->C (sl.set k (some y)) O' λc O3=>(c=true->M (sl.set k (some y)) O3 λz O4=>match z with
   |.im d=>Jv (j+1) (es++[d]) O4
   |_=>False)/\(c=false->Jv (j+1) es O3))/\∀es O',Jv items.length es O'->Z es O'
structure CB2 (n:Nat)(ix:List Nat)(mg:MG)(C1:MT)(xE:MA)(k:Nat)(C2:MT)(M:ME)(sl:iO)(Q:AV->aU->Prop)(items:List AV)(O1:aU):Prop where
 ex:∃Iv:Nat->Ξ1->aU->Prop,Iv 0 [] O1 /\
  (∀i x ds O',items[i]?=some x->Iv i ds O'->mg x (fE n ix sl) O' λcN O2=>C1 cN O2 λc O3=>(c=true->xE cN O3 (CI k C2 M cN ds (Iv (i+1))))/\(c=false->Iv (i+1) ds O3))/\∀ds O',Iv items.length ds O'->Q (.im (.list ds)) O'
def wy (n:Nat)(ix:List Nat)(it:MA)(mg:MG)(C1:MT)(xE:MA)(k:Nat)(C2:MT)(M:ME):ME:=λsl O Q=>it sl O (CB2 n ix mg C1 xE k C2 M sl Q)
def xf {n k:Nat}{ix:List Nat}{it xE:MA}{mg:MG}{C1 C2:MT}{M:ME}(hk:Keeps n mg):∀σ H Q,cy K QX E (wy n ix it mg C1 xE k C2 M) σ H Q->CS (EO K QX E it) (vk K QX E mg) (lx K QX E C1) (Lp K QX E xE) (vk K QX E (aP k)) (lx K QX E C2) (cy K QX E M) n ix σ H Q :=
 λσ H Q ⟨w,O,sl,Q0,c,m,q⟩=>⟨w,O,sl,_,c,m,λitems O1 w1 H1 J h1 e1 r1 P2 acc bI=>by
  obtain⟨Iv,h0,hs,he⟩:=h1;have hC:=c.ex e1.ex r1;obtain⟨r0,e0⟩:=hC.ro.hide (o:=.lst []) bI (λxs z=>by cases z);refine⟨λi m aH H'=>m=items.length-i/\i<=items.length/\∃w' O' ys zs,aJ K w' O' H'/\w'.c7=(acc,.lst ys)::w1.c7/\lz w1 O1 H1 w' O' H'/\bX K w' (G w' O' H') aH (fE n ix sl)/\aQ (G w' O' H') ys zs/\Iv i zs O',
   ⟨items.length,by simp,Z9 _,_,O1,[],[],r0,rfl,e0,(hC.so.blk n ix).ex e0,.nil,h0⟩,?_⟩
  rintro i m aH H' ⟨rfl,Ft,w',O',ys,zs,r',KH,e',s',a',hv⟩;obtain⟨ig,ie⟩:=P2 O' w' H' e' r' i;rcases Yg i items.length with y |y
  .obtain⟨QJ,BU⟩:=ig _ (Zc y);refine .inr ⟨QJ,λc3 H2=>∃w' O' ys zs,aJ K w' O' H2/\w'.c7=(acc,.lst ys)::w1.c7/\lz w1 O1 H1 w' O' H2/\bX K w' (G w' O' H2) c3 (fE n ix sl)/\aQ (G w' O' H2) ys zs/\Iv (i+1) zs O',λc3 H2 z=>⟨items.length-(i+1),by omega,rfl,y,z⟩,λv H3 QA=>?_⟩;obtain⟨e3,r3,a3⟩:=BU v H3 QA;have zx:∀{w2:Wd}{O2:aU}{H2:Hp},lz w1 O1 H1 w2 O2 H2->Zx K QX E w2 O2 H2:=λe k pS U8 YC qx WE Vv=>hC.zx k pS U8 YC qx (e.trans WE) Vv
   have WJ:my K QX E w' O' H3 aH (fE n ix sl):=⟨r3,s'.ex e3.ex,zx (e'.trans e3.ex)⟩;refine⟨w',O',_,_,_,WJ,a3,hk _ _ _ _ (hs i _ zs O' (Zc y) hv),λxB O4 w4 H4 τ h4 c4 e4=>⟨w4,O4,xB,_,c4,h4.1,λb O5 w5 H5 h5 e5 r5=>?_⟩⟩;have FC:=e3.trans (e4.trans e5);cases b with
   |false=>exact df ⟨w5,O5,ys,zs,r5,FC.c7.trans KH,e'.trans FC.ex,bX.sub (c4.so.ex e5.ex) h4.2,aQ.aA FC.ex.aA a',h5.2 rfl⟩
   |true =>
    refine cM ⟨w5,O5,xB,_,c4.ex e5.ex r5,h5.1 rfl,λik O6 w6 H6 J2 h6 e6 r6 it6=>?_⟩;obtain⟨oZ,Jv,j0,jl,js,je⟩:=h6;have K4:=FC.trans e6;refine⟨λj m aH H'=>m=ik.length-j/\j<=ik.length/\∃w' O' ys zs,aJ K w' O' H'/\w'.c7=(acc,.lst ys)::w1.c7/\lz w1 O1 H1 w' O' H'/\FG w6 O6 H6 w' O' H'/\bX K w' (G w' O' H') aH xB/\aQ (G w' O' H') ys zs/\Jv j zs O',
     ⟨ik.length,by simp,Z9 _,w6,O6,ys,zs,r6,K4.c7.trans KH,e'.trans K4.ex,FG.refl _ _ _,(c4.so.ex e5.ex).ex e6.ex,aQ.aA K4.ex.aA a',j0⟩,?_⟩
    rintro j m zI H7 ⟨rfl,ahM,w7,O7,Fe,Ot,r7,V2,e7,x7,s7,a7,VL⟩;obtain⟨ig7,ie7⟩:=it6 O7 w7 H7 x7 r7 j;rcases Yg j ik.length with y7 |y7
    .obtain⟨R',ZS⟩:=ig7 _ (Zc y7);refine .inr ⟨R',λc3 H2=>∃w' O' ys zs,aJ K w' O' H2/\w'.c7=(acc,.lst ys)::w1.c7/\lz w1 O1 H1 w' O' H2/\FG w6 O6 H6 w' O' H2/\bX K w' (G w' O' H2) c3 xB/\aQ (G w' O' H2) ys zs/\Jv (j+1) zs O',λc3 H2 z=>⟨ik.length-(j+1),by omega,rfl,y7,z⟩,λv8 H8 hv8=>?_⟩;obtain⟨rfl,a8⟩:=ZS v8 H8 hv8;have ζ:my K QX E w7 O7 H8 zI xB:=⟨r7,s7,zx e7⟩;refine⟨w7,O7,xB,ik[j],λKo O5'=>Ko=xB.set k (some ik[j])/\O5'=O7,ζ,a8,⟨rfl,rfl⟩,λsl9 O9 w9 H9 σ9 h9 c9 e9=>?_⟩;obtain⟨rfl,rfl⟩:=h9;have back:∀{w2:Wd}{g2:Hp}{c3:St},bX K w2 g2 c3 (xB.set k (some ik[j]))->bX K w2 g2 c3 xB:=λh=>by
      refine⟨h.1.trans (by simp),λi' x' xF=>h.2 i' x' ?_⟩;have:k≠i':=λe=>by subst e;rw[oZ] at xF;cases Option.some.inj xF
      rw[Yr this];exact xF
     refine⟨w9,O9,_,_,c9,js j _ Ot O9 (Zc y7) VL,λb O10 ω Po UI UN II=>?_⟩;have e8:=e9.trans UN;cases b with
     |false=>exact df ⟨ω,O10,Fe,Ot,II,e8.c7.trans V2,e7.trans e8.ex,x7.ex e8.ex,back (c9.so.ex UN.ex),aQ.aA e8.ex.aA a7,UI.2 rfl⟩
     |true =>
      refine cM ⟨ω,O10,_,_,c9.ex UN.ex II,UI.1 rfl,λz O11 Ub ψ UV QT UM OD Rm=>?_⟩;split at QT
      .rename_i d;have UL:=e8.trans UM;have Sh:ψ.c7=(acc,.lst Fe)::w1.c7:=UL.c7.trans V2;obtain⟨n1,n2,n3,n4⟩:=OD.nh (acc,.lst Fe) (by rw[Sh];exact Zm);obtain⟨r13,zJ⟩:=OD.C4 (o':=.lst (Fe++[Ub])) Sh (λxs z=>by cases z);have Mg:=e7.trans UL.ex;have Lm:=x7.ex UL.ex;have hl7:=jl j Ot O9 VL;refine⟨Fe,n3,by rw[a7.len,sz];omega,{ ψ with c7:=(acc,.lst (Fe++[Ub]))::w1.c7 },O11,Fe++[Ub],Ot++[d],r13,rfl,⟨Mg.bs,Mg.eH,⟨[(acc,.lst (Fe++[Ub]))],rfl⟩,Mg.aA.trans zJ⟩,⟨Lm.bs,Lm.eH,Lm.aA.trans zJ⟩,?_,?_,QT⟩
       .exact bX.tN rfl rfl zJ (back ((c9.so.ex UN.ex).ex UM.ex))
       .exact aQ.aA zJ ((aQ.aA UL.ex.aA a7).app (.cons Rm .nil))
      .exact QT.elim
    .have ej:j=ik.length:=by omega
     subst ej;exact .inl ⟨ie7 (Ze _),w7,O7,Fe,Ot,r7,V2,e7,bX.sub s7 h4.2,a7,je Ot O7 VL⟩
  .have ei:i=items.length:=by omega
   subst ei;refine .inl ⟨ie (Ze _),?_⟩;obtain⟨r2,s2,g2⟩:=r'.CM KH;exact q _ _ _ { w' with c7:=w1.c7 } _ (he zs O' hv) ⟨e1.ex.trans ⟨e'.bs,e'.eH,⟨[],rfl⟩,e'.aA.trans s2⟩,e1.c7⟩ r2 (.lst g2 (aQ.aA s2 a'))⟩
def Em {scope:Scope}{own cap:Δ2}{ix:List Nat}{t1 i1 t2 i2 d9:Expr}{f1 f2:Ξ2}{it xE:MA}{mg:MG}{C1 C2:MT}{M:ME}{k:Nat}{pos:Pos}(B:aG X scope own cap ix)(hc:X.calm=true)(hi:PI X t1 i1 (EO K QX E it))(hk:Keeps own.length mg)
  (hb:∀C' fp s H,PG (d6 X scope C' (own++cap) fp s H) t1 (vk K QX E mg)/\fk (d6 X scope C' (own++cap) fp s H) f1 (lx K QX E C1)/\PI (d6 X scope C' (own++cap) fp s H) t2 i2 (Lp K QX E xE)/\PG (d6 X scope C' (own++cap) fp s H) t2 (vk K QX E (aP k))/\fk (d6 X scope C' (own++cap) fp s H) f2 (lx K QX E C2)/\PE (d6 X scope C' (own++cap) fp s H) d9 (cy K QX E M))
  (hs:∀x,foldedSetIterable i1 X.env x=pure x:=by intro _;rfl) (ve:∀(env:Env) x,foldedSetIterable i2 env x=pure x:=by intro _ _;rfl):PE X (.ListComp d9 [⟨t1,i1,f1,0⟩,⟨t2,i2,f2,0⟩] scope pos) (cy K QX E (wy own.length ix it mg C1 xE k C2 M)):=PE.imp (Ea B hc hi hb hs ve) (xf hk)
abbrev RG:o7:=An MJ λi j=>.int (i*2 ^ j.toNat)
def NU {Ma Mb:ME}{a b:Expr}{pos:Pos}(ha:PE X a (cy K QX E Ma))(hb:PE X b (cy K QX E Mb)):PE X (.BinOp a .LShift b pos) (cy K QX E (aR RG Ma Mb)):=pX Nu (mY λ_ _ _=>.int _) ha hb
abbrev RF:o7:=An (λ_ j=>0<=j) λi j=>.int (i / 2 ^ j.toNat)
def NT {Ma Mb:ME}{a b:Expr}{pos:Pos}(ha:PE X a (cy K QX E Ma))(hb:PE X b (cy K QX E Mb)):PE X (.BinOp a .RShift b pos) (cy K QX E (aR RF Ma Mb)):=pX Nt (mY λ_ _ _=>.int _) ha hb
abbrev Sz:o7:=tT λi j=>.int (Builtin.bitAnd i j)
def NV {Ma Mb:ME}{a b:Expr}{pos:Pos}(ha:PE X a (cy K QX E Ma))(hb:PE X b (cy K QX E Mb)):PE X (.BinOp a .BitAnd b pos) (cy K QX E (aR Sz Ma Mb)):=pX Nx (oB λ_ _ _=>.int _) ha hb
def IB (m:Nat):Builtin.bitAnd (m:Int) 1=((m % 2:Nat):Int):=by
 unfold Builtin.bitAnd;show((m &&& 1:Nat):Int)=_;rw[Nat.and_one_is_mod]
def Cj:vQ:=λO xs P=>match xs with
 |[.im (.list ds)]=>∃ns:Γ3,ds=ns.map .int/\ns.length<64/\∀u6:Γ3,u6.Perm ns->u6.Pairwise (λa b=>a<=b)->P (.im (.list (u6.map .int))) O
 |_=>False
def HX:Ad K C7 Cj:=λw O H vs xs P Q r a hf q=>by
 unfold Cj at hf;split at hf
 .obtain⟨ns,rfl,hl,hf⟩:=hf;obtain⟨v,rfl,hv⟩:=Sy a;obtain⟨p,us,rfl,h1,t1⟩:=fK hv;rw[kl t1] at h1;refine⟨p,ns,rfl,bi.of h1,hl,λu6 l hp hw hn=>?_⟩;obtain⟨r1,e1,t2⟩:=kL r hn (L1 u6);exact q _ _ O w _ (hf u6 hp hw) e1 r1 t2
 .exact hf.elim
def FW:o7:=λO x y P=>match x,y with
 |.im .none,.im (.list ds)=>∃ns:Γ3,ds=ns.map .int/\P (.im (.bool true)) O
 |_,_=>False
def zb:tE K (OC K0 true) FW:=λw O H v u x y P Q r a b hf q=>by
 unfold FW at hf;split at hf
 .obtain⟨ns,rfl,h⟩:=hf;obtain⟨p1,us,rfl,h1,t1⟩:=fK b;rw[kl t1] at h1;rw[yb a];refine⟨p1,_,rfl,.inl (bi.of h1),rfl,lX ns,?_⟩;have e:vE V.bZ (ns.map V.int)=false:=by
   unfold vE;rw[List.any_eq_false];intro y hy;obtain⟨n,_,rfl⟩:=Zd.mp hy;exact(by decide:¬ false=true)
  rw[e];exact q _ _ O w H h (cq.refl _ _ _) r (.bl _)
 .exact hf.elim
end
def aD (r:Γ3):PyData:=.list (r.map .int)
def ef (M:Γ1)(S:Γ3):List Nat:=(List.range M.length).filter λi=>(M.getD i []).any λg=>S.contains g
def vY (s:List Nat):PyData:=.list (s.map λi:Nat=>.int (i:Int))
end MI
namespace RZ
open PySem L2 KG EX KM
theorem ko:∀{A B:Γ3},A.Pairwise (λa b=>a<b)->B.Pairwise (λa b=>a<b)->(∀x,x∈A↔x∈B)->A=B
 |[],[],_,_,_=>rfl
 |[],b::B,_,_,h=>by have:=(h b).mpr Zm;cases this
 |a::A,[],_,_,h=>by have:=(h a).mp Zm;cases this
 |a::A,b::B,hA,hB,h=>by
  have pA:=List.pairwise_cons.mp hA;have pB:=List.pairwise_cons.mp hB;have e:a=b:=by
   rcases Zl.mp ((h a).mp Zm) with z |z
   .exact z
   .rcases Zl.mp ((h b).mpr Zm) with y |y
    .exact y.symm
    .have h1:=pB.1 a z;have h2:=pA.1 b y;omega
  subst e
  congr 1
  refine ko pA.2 pB.2 λx=>?_
  constructor
  .intro hx;rcases Zl.mp ((h x).mp (Zq _ hx)) with z |z
   .have:=pA.1 x hx;omega
   .exact z
  .intro hx;rcases Zl.mp ((h x).mpr (Zq _ hx)) with z |z
   .have:=pB.1 x hx;omega
   .exact z
def on (g:Nat)(M:Γ1):(ay g M).Pairwise (λa b=>a<b):=by
 unfold ay aV;rw[List.pairwise_map];exact(List.Pairwise.sublist Yn List.pairwise_lt_range).imp λh=>by omega
section
variable {am:Γ3}{ps qs:Δ1}{M:Γ1}{g:Nat}{c:Int}{aN:List (Int×Γ3)}
def rE (ab:Above am ps qs M (ay g M) c aN){S:Γ3}(hS:S.Sublist (ay g M)):∃x∈aN,x.2=S:=by
 have:S∈aN.map (·.2):=by rw[ab.2.1];exact cv.mpr hS
 obtain⟨x,hx,e⟩:=Zd.mp this;exact⟨x,hx,e⟩
def rD (ab:Above am ps qs M (ay g M) c aN){x:Int×Γ3}(hx:x∈aN):x.2.Sublist (ay g M):=cv.mp (by rw[<- ab.2.1];exact Zd.mpr ⟨x,hx,rfl⟩)
def iy (ab:Above am ps qs M (ay g M) c aN){x:Int×Γ3}(hx:x∈aN):x.1=0↔aX am ps qs M (aw x.2)=0:=by
 have hc:(0:Rat)<(c:Rat):=Yo.mpr ab.1;have OZ:(c:Rat)≠0:=λz=>by rw[z] at hc;exact absurd hc (by decide)
 have hv:=ab.2.2 x hx;constructor
 .intro z;rw[z] at hv;have hv':(0:Rat)=(c:Rat)*aX am ps qs M (aw x.2):=hv
  grind
 .intro z;rw[z,Xo] at hv;simpa using hv
def Hk (hp:∀q∈ps,0<=q)(ab:Above am ps qs M (ay g M) c aN){row:Int×Γ3}(eC:row∈aN)(h0:row.1=0)(hM:∀S:Γ3,S.Sublist (ay g M)->aX am ps qs M (aw S)<=0)(cu:∀x∈aN,x.1=0->x.2.length<=row.2.length)
  {c':Int}{Jy:List (Int×Γ3)}(UQ:Above am ps qs M (ay g M) c' Jy) {found:Γ3}(nd:found.Nodup) (pw:found.Pairwise (λa b=>a<=b)) (hf:∀x,x∈found↔∃r∈Jy,r.1=0/\x∈r.2):found=row.2:=by
 have f0:=(iy ab eC).mp h0;have hR:=rD ab eC;refine ko ?_ ((on g M).sublist hR) λx=>?_
 .exact(List.Pairwise.and pw nd).imp λh=>by
   have:=h.1;have:=h.2;omega
 rw[hf];constructor
 .rintro⟨r,hr,r0,hx⟩;refine ur (f:=λS=>aX am ps qs M (aw S)) (BD g M) (mo hp) hR (λS hS=>by show _<=aX am ps qs M (aw row.2);rw[f0];exact hM S hS) (λS hS fS=>?_) (rD UQ hr) ?_ x hx
  .obtain⟨y,hy,rfl⟩:=rE ab hS;exact cu y hy ((iy ab hy).mpr (fS.trans f0))
  .show aX am ps qs M (aw r.2)=aX am ps qs M (aw row.2);rw[f0];exact(iy UQ hr).mp r0
 .intro hx;obtain⟨r,hr,e⟩:=rE UQ hR;exact⟨r,hr,(iy UQ hr).mpr (by rw[e];exact f0),by rw[e];exact hx⟩
end
def vw (am:Γ3)(ps qs:Δ1)(M:Γ1)(g:Nat):Prop:=∀S:Γ3,S.Sublist (ay g M)->aX am ps qs M (aw S)<=0
structure fQ (am:Γ3)(ps qs:Δ1)(M:Γ1)(g:Nat)(Pd:Γ3):Prop where
 sub:Pd.Sublist (ay g M)
 zero:aX am ps qs M (aw Pd)=0
 top:∀T:Γ3,T.Sublist (ay g M)->aX am ps qs M (aw T)=0->∀x∈T,x∈Pd
section
variable {am:Γ3}{ps qs:Δ1}{M:Γ1}{g:Nat}{c:Int}{aN:List (Int×Γ3)}
def fQ.uniq {A B:Γ3}(a:fQ am ps qs M g A)(b:fQ am ps qs M g B):A=B :=
 ko ((on g M).sublist a.sub) ((on g M).sublist b.sub) λx=>⟨λh=>b.top A a.sub a.zero x h,λh=>a.top B b.sub b.zero x h⟩
def uo (hp:∀q∈ps,0<=q)(ab:Above am ps qs M (ay g M) c aN)(hM:vw am ps qs M g){row:Int×Γ3}(eC:row∈aN)(h0:row.1=0)(cu:∀x∈aN,x.1=0->x.2.length<=row.2.length):fQ am ps qs M g row.2:=by
 have f0:=(iy ab eC).mp h0;have hR:=rD ab eC;refine⟨hR,f0,λT hT fT x hx=>?_⟩;refine ur (f:=λS=>aX am ps qs M (aw S)) (BD g M) (mo hp) hR (λS hS=>by show _<=aX am ps qs M (aw row.2);rw[f0];exact hM S hS) (λS hS fS=>?_) hT (by show aX am ps qs M (aw T)=aX am ps qs M (aw row.2);rw[f0,fT]) x hx;obtain⟨y,hy,rfl⟩:=rE ab hS;exact cu y hy ((iy ab hy).mpr (fS.trans f0))
theorem yY:∀{rs:List (Int×Γ3)},(∃x∈rs,x.1=0)->∃row∈rs,row.1=0/\∀x∈rs,x.1=0->x.2.length<=row.2.length
 |[],h=>by obtain⟨x,hx,_⟩:=h;cases hx
 |r::rs,h=>by
  by_cases e:∃x∈rs,x.1=0
  .obtain⟨row,h1,h2,h3⟩:=yY e;by_cases z:r.1=0/\row.2.length<r.2.length
   .refine⟨r,Zm,z.1,λx hx x0=>?_⟩;rcases Zl.mp hx with rfl |hx
    .exact Ze _
    .have:=h3 x hx x0;omega
   .refine⟨row,Zq _ h1,h2,λx hx x0=>?_⟩;rcases Zl.mp hx with rfl |hx
    .rcases Yg row.2.length x.2.length with y |y
     .exact absurd ⟨x0,y⟩ z
     .exact y
    .exact h3 x hx x0
  .obtain⟨x,hx,x0⟩:=h;rcases Zl.mp hx with rfl |hx
   .exact⟨x,Zm,x0,λy hy y0=>by
     rcases Zl.mp hy with rfl |hy
     .exact Ze _
     .exact absurd ⟨y,hy,y0⟩ e⟩
   .exact absurd ⟨x,hx,x0⟩ e
def wR (hp:∀q∈ps,0<=q)(ab:Above am ps qs M (ay g M) c aN)(hM:vw am ps qs M g){found:Γ3}(nd:found.Nodup)(pw:found.Pairwise (λa b=>a<=b))(hf:∀x,x∈found↔∃r∈aN,r.1=0/\x∈r.2):fQ am ps qs M g found:=by
 obtain⟨z,hz,ez⟩:=rE ab (S:=[]) (List.nil_sublist _);obtain⟨row,h1,h2,h3⟩:=yY (rs:=aN) ⟨z,hz,(iy ab hz).mpr (by rw[ez];exact qN)⟩;rw[Hk hp ab h1 h2 hM h3 ab nd pw hf];exact uo hp ab hM h1 h2 h3
end
def loose (M:Γ1)(qs:Δ1)(Pd S:Γ3):List Nat:=(cO M qs (aw S)).filter λi=>!(cO M qs (aw Pd)).contains i
def pq (am:Γ3)(ps qs:Δ1)(M:Γ1)(Pd S:Γ3):Rat:=ci ps (loose M qs Pd S) / iN am qs (aw S)
def bK (row:Γ3)(qs:Δ1)(g:Nat):Rat:=((row.getD g 0:Int):Rat) / qs.getD g 0
def dY (row:Γ3)(qs:Δ1)(Pd:Γ3)(b:Nat):Δ1:=(Pd.filter λg=>decide (0<row.getD g.toNat 0)).map λg=>bK row qs b / bK row qs g.toNat
def dg (M:Γ1)(qs:Δ1)(Pd:Γ3)(n:Nat):Δ1:=(List.range n).flatMap λi=>if !(cO M qs (aw Pd)).contains i&&!((ah M qs).getD i []).isEmpty then dY (M.getD i []) qs Pd (((ah M qs).getD i []).getD 0 0).toNat else []
def aT (g:Nat)(M:Γ1)(Pd:Γ3):Γ3:=(ay g M).filter λx=>!Pd.contains x
def fL (am:Γ3)(ps qs:Δ1)(M:Γ1)(g:Nat)(Pd:Γ3):Δ1:=((aB (aT g M Pd)).drop 1).map (pq am ps qs M Pd)++dg M qs Pd M.length
def oJ (L:List Nat)(w:Nat->Rat)(p q:Nat->Bool):c8 L w (λx=>p x||q x)=c8 L w q+c8 L w (λx=>p x&&!q x):=by
 induction L with
 |nil=>show(0:Rat)=0+0;rw[Rat.add_zero]
 |cons x L ih =>
  rw[Fl,Fl,Fl,ih];cases p x<;>cases q x<;>simp<;>grind
def div_le_div {a b c d:Rat}(hc:0<c)(hd:0<d)(h:a*d<=b*c):a / c<=b / d:=by
 have nc:c≠0:=λz=>by rw[z] at hc;exact absurd hc (by decide)
 have nd:d≠0:=λz=>by rw[z] at hd;exact absurd hd (by decide)
 have e1:a / c*(c*d)=a*d:=by grind
 have e2:b / d*(c*d)=b*c:=by grind
 have o6:=Y6 hc hd;have h3:a / c*(c*d)<=b / d*(c*d):=by rw[e1,e2];exact h
 exact Je h3 o6
section
variable {am:Γ3}{ps qs:Δ1}{M:Γ1}{g:Nat}
def rX {N S:List Nat}(nd:N.Nodup)(h:S.Sublist N):iN am qs S=c8 N (λg=>(d7 am qs).getD g 0) (λx=>S.contains x):=by
 unfold iN c8;rw[sub_eq h nd]
def yN (S:List Nat):ci ps (cO M qs S)=c8 (List.range M.length) (λi=>ps.getD i 0) (λi=>cz S ((ah M qs).getD i [])):=rfl
def iA {S:List Nat}{i:Nat}(hi:i<M.length):(cO M qs S).contains i=cz S ((ah M qs).getD i []):=by
 rw[Ya,Zz];unfold cO;rw[Zn,Zy];exact⟨λh=>h.2,λh=>⟨hi,h⟩⟩
def HW (Pd S:Γ3):ci ps (loose M qs Pd S)=c8 (List.range M.length) (λi=>ps.getD i 0) (λi=>cz (aw S) ((ah M qs).getD i [])&&!cz (aw Pd) ((ah M qs).getD i [])):=by
 unfold loose ci c8
 congr 2
 show(List.filter _ ((List.range M.length).filter _))=_;rw[Jb];refine Y7 λi hi=>?_
 rw[iA (Zy.mp hi),Bool.and_comm]
def qr {S:List Nat}(hl:am.length=qs.length)(E7:∀a∈am,1<=a)(hq:∀g∈S,g<qs.length/\0<qs.getD g 0)(bJ:S≠[]):0<iN am qs S:=by
 have one:∀g∈S,0<(d7 am qs).getD g 0:=λg hg=>by
  obtain⟨h1,h2⟩:=hq g hg;have e:(d7 am qs).getD g 0=qs.getD g 0*((am.getD g 0:Int):Rat):=by
   unfold d7;simp[List.getD,Y3 h1]
  rw[e];have ha:1<=am.getD g 0:=E7 _ (by rw[List.getD,Zc (show g<am.length by omega)];exact Zg _);exact Y6 h2 (by have:(0:Int)<am.getD g 0:=(by omega);exact Yo.mpr this)
 unfold iN;have key:∀T:List Nat,(∀g∈T,0<(d7 am qs).getD g 0)->0<=bz (T.map λg=>(d7 am qs).getD g 0):=by
  intro T;induction T with
  |nil=>intro _;exact Yf
  |cons x T ih =>
   intro h;rw[Zs,Ks];have h1:=h x Zm;have h2:=ih λg hg=>h g (Zq _ hg)
   grind
 cases S with
 |nil=>exact absurd rfl bJ
 |cons x T =>
  rw[Zs,Ks];have h1:=one x Zm;have h2:=key T λg hg=>one g (Zq _ hg)
  grind
def Nr (hp:∀q∈ps,0<=q)(o9:vw am ps qs M g){Pd S:Γ3}(pd:fQ am ps qs M g Pd)(hS:S.Sublist (aT g M Pd))(bJ:S≠[])(hm:0<iN am qs (aw S)):1<pq am ps qs M Pd S:=by
 have Fz:S.Sublist (ay g M):=hS.trans Yn;have dis:∀x∈S,x∉Pd:=λx hx=>by
  have:=(Zn.mp (hS.subset hx)).2;simpa using this
 have nd:(aV g M).Nodup:=by unfold aV;exact(Ja).sublist Yn
 let J:Γ3:=(ay g M).filter λx=>S.contains x||Pd.contains x
 have hJ:J.Sublist (ay g M):=Yn;have RQ:∀x,x∈J↔x∈S\/x∈Pd:=λx=>by
  rw[Zn];constructor
  .rintro⟨_,h⟩;simpa using h
  .intro h;refine⟨?_,by simpa using h⟩;rcases h with h |h
   .exact Fz.subset h
   .exact pd.sub.subset h
 have lt:aX am ps qs M (aw J)<0:=by
  have le:=o9 J hJ;by_cases e:aX am ps qs M (aw J)=0
  .obtain⟨x,hx⟩:=Jj S bJ;exact absurd (pd.top J hJ e x ((RQ x).mpr (.inl hx))) (dis x hx)
  .grind
 have cJ:∀x:Nat,(aw J).contains x=((aw S).contains x||(aw Pd).contains x):=λx=>by
  rw[Ya,Qo,Zz,Zz,Zz,BQ hJ,BQ Fz,BQ pd.sub];exact RQ _
 have mJ:iN am qs (aw J)=iN am qs (aw Pd)+iN am qs (aw S):=by
  rw[rX nd (Kr hJ),rX nd (Kr Fz),rX nd (Kr pd.sub)];rw[OL (q:=λx=>(aw S).contains x||(aw Pd).contains x) λx _=>cJ x,oJ]
  congr 1
  refine OL λx _=>?_
  cases h:(aw S).contains x with
  |false=>rfl
  |true =>
   have h1:=(BQ Fz x).mp (Zz.mp h);have h2:(aw Pd).contains x=false:=by
    rw[Bool.eq_false_iff,Ne,Zz,BQ pd.sub];exact dis _ h1
   rw[h2];rfl
 have pJ:ci ps (cO M qs (aw J))=ci ps (cO M qs (aw Pd))+ci ps (loose M qs Pd S):=by
  rw[yN,yN,HW,<- oJ];refine OL λi _=>?_
  rw[gR,gR,gR,Ya,Qo,Zv,Zv,Zv];constructor
  .rintro⟨x,hx,h⟩;have:=cJ x;rw[Zz.mpr hx] at this;rcases(Qo _ _).mp this.symm with z |z
   .exact .inl ⟨x,Zz.mp z,h⟩
   .exact .inr ⟨x,Zz.mp z,h⟩
  .rintro(⟨x,hx,h⟩ |⟨x,hx,h⟩)
   .refine⟨x,Zz.mp ?_,h⟩;rw[cJ,Zz.mpr hx];rfl
   .refine⟨x,Zz.mp ?_,h⟩;rw[cJ,Zz.mpr hx,Bool.or_true]
 have z:=pd.zero;unfold aX at lt z;rw[mJ,pJ] at lt;have h3:iN am qs (aw S)<ci ps (loose M qs Pd S):=by grind
 unfold pq;rw[Rat.lt_div_iff hm,Rat.one_mul];exact h3
def Br {row:Γ3}{b o:Nat}(eC:∀x∈row,0<=x)(hb:b∈bE row qs)(ho:o<row.length)(hw:0<row.getD o 0)(Fo:0<qs.getD b 0)(Ux:0<qs.getD o 0):bK row qs o<=bK row qs b/\(bK row qs o=bK row qs b->o∈bE row qs):=by
 unfold bE at hb ⊢;obtain⟨h1,h2⟩:=Zn.mp hb;unfold cZ at h2;rw[Z0,Yc] at h2;have nw:∀x:Nat,x<row.length->0<row.getD x 0->((row.getD x 0:Int):Rat)*qs.getD b 0<=((row.getD b 0:Int):Rat)*qs.getD x 0:=λx hx Us=>by
  have:=h2.2 x (Zy.mpr hx);unfold worse at this;rw[decide_eq_true Us,Xg] at this;have:=of_decide_eq_false (by simpa using this:decide _=false);exact Yh.mp this
 have le:bK row qs o<=bK row qs b:=by
  unfold bK;have h3:=nw o ho hw;exact div_le_div Ux Fo h3
 refine⟨le,λe=>Zn.mpr ⟨Zy.mpr ho,?_⟩⟩;unfold cZ;rw[Z0];refine⟨decide_eq_true (by omega),Yc.mpr λx hx=>?_⟩;have hx:=Zy.mp hx;unfold worse;rw[Bool.not_eq_true',Bool.and_eq_false_iff];by_cases Us:0<row.getD x 0
 .right
  rw[decide_eq_false_iff_not,Yh];have h3:=nw x hx Us;unfold bK at e;have nb:qs.getD b 0≠0:=λz=>by rw[z] at Fo;exact absurd Fo (by decide)
  have no:qs.getD o 0≠0:=λz=>by rw[z] at Ux;exact absurd Ux (by decide)
  have e2:((row.getD o 0:Int):Rat)*qs.getD b 0=((row.getD b 0:Int):Rat)*qs.getD o 0:=by grind
  have h4:((row.getD x 0:Int):Rat)*qs.getD o 0*qs.getD b 0<=((row.getD o 0:Int):Rat)*qs.getD x 0*qs.getD b 0:=by
   have h5:=Qi h3 (Z7 Ux);have h6:((row.getD x 0:Int):Rat)*qs.getD o 0*qs.getD b 0=((row.getD x 0:Int):Rat)*qs.getD b 0*qs.getD o 0:=by grind
   have h7:((row.getD o 0:Int):Rat)*qs.getD x 0*qs.getD b 0=((row.getD b 0:Int):Rat)*qs.getD x 0*qs.getD o 0:=by grind
   rw[h6,h7];exact h5
  exact Je h4 Fo
 .left;exact decide_eq_false Us
end
end RZ
namespace MI
open PySem L2 KG EX KM
def kP {M:Γ1}{i:Nat}(h:i<M.length):iF (M.map aD) (i:Int)=some (aD (M.getD i [])):=bo (iM (f:=aD) (d:=[]) h)
def vt {ns:Γ3}{i:Nat}(h:i<ns.length):iF (ns.map PyData.int) (i:Int)=some (.int (ns.getD i 0)):=bo (iM (f:=PyData.int) (d:=0) h)
def sV {ns:Γ3}{i:Nat}{x:AV}(h:((ns.map PyData.int).map AV.im)[i]?=some x):i<ns.length/\x=.im (.int (ns.getD i 0)):=by
 have hi:i<ns.length:=by have:=(Zf.mp h).1;simpa using this
 rw[Zh,iM (f:=PyData.int) (d:=0) hi] at h;exact⟨hi,(Option.some.inj h).symm⟩
def Iw (ns:Γ3)(p:Int->Bool):((List.range ns.length).filter λj=>p (ns.getD j 0)).map (λj=>ns.getD j 0)=ns.filter p:=by
 have:=zS (λx:Int=>x) ns 0;have e:ns.filter p=((List.range ns.length).map λi=>ns.getD i 0).filter p:=by rw[this,List.map_id']
 rw[e,List.filter_map];rfl
def lh (ns:Γ3)(p:Int->Bool):((List.range ns.length).filter λj=>p (ns.getD j 0)).map (λj=>PyData.int (ns.getD j 0))=(ns.filter p).map .int:=by
 rw[<- Iw ns p,Zj];rfl
def oG {α : Type}(s:List α)(d:α)(p:α->Bool)(f:α->PyData):((List.range s.length).filter λj=>p (s.getD j d)).map (λj=>f (s.getD j d))=(s.filter p).map f:=by
 have:=zS (λx:α=>x) s d;have e:s.filter p=((List.range s.length).map λi=>s.getD i d).filter p:=by rw[this,List.map_id']
 rw[e,List.filter_map,Zj];rfl
def EL (ns:Γ3)(p:Int->Bool):(ns.filter p).isEmpty=!ns.any p:=by
 induction ns with
 |nil=>rfl
 |cons n ns ih =>
  cases h:p n with
  |true=>rw[Qk h,Xr,h];rfl
  |false=>rw[X3 (by rw[h];decide),ih,Xr,h];rfl
def j9 {α : Type}:([]:List α).length<=sizeLine:=by show 0<=sizeLine;decide
def rg:FM:=λO xs P _=>∃(M:Γ1) (S:Γ3) (x:AV),xs=[.im (.list (M.map aD)),x]/\(x=.im (.list (S.map .int))\/x=.im (.tuple (S.map .int)))/\M.length<=6/\(∀i,i<M.length->(M.getD i []).length<=6)/\∀O',cD O O'->P (.im (vY (ef M S))) O'
abbrev XX:Δ2:=["best","goods","found","buyer"]
def RU:MS:=(aE (aL (nz ai) (aP 2))
 (aE (eJ (jQ (ae (eG gc (ae (af 0) ai)) ai)) (aP 3) (ga (cw (aR (xI true) (bQ 1 [1] (bw (aR bW (af 0) (af 3))) (aP 0) (cw (aR (vF false) (af 0) (af 1))) (af 0)) (lF ai))) (iY (nA (af 2) (ae (af 3) ai))) dh))
 (rd 2 (cW (af 2)))))
def M6:∀O xs Pq QX,rg O xs Pq QX->RU { nx:=λ_ O'=>Pq (.im .none) O',rt:=Pq } (bf XX xs) O:=by
 intro O xs Pq QX h;obtain⟨M,S,x,rfl,hx,n6,r6,h⟩:=h;refine⟨j9,?_⟩;refine⟨⟨by rw[Za];omega,by rw[Za];omega⟩,λi sl O'=>O'=O++[some (((List.range i).filter λi=>(M.getD i []).any λg=>S.contains g).map λi:Nat=>AV.im (.int (i:Int)))]/\∃y,sl=[Φ9 (.list (M.map aD)),some x,some (.own O.length),y],⟨rfl,_,rfl⟩,?_,?_⟩
 .rintro i z sl O' hz ⟨rfl,y,rfl⟩;obtain⟨hi,rfl⟩:=sK hz;rw[Za,Zo] at hi;refine⟨_,kP hi,?_⟩;conv=>whnf
  refine EV (λj=>S.contains ((M.getD i []).getD j 0)) (λj=>.int ((M.getD i []).getD j 0)) (by rw[Za,Za];have:=r6 i hi;omega) (λj z Z hz hZ=>?_) (λj z Z hz _ hZ=>?_) ?_
  .obtain⟨hj,rfl⟩:=sV hz;rcases hx with rfl |rfl
   .exact⟨S,rfl,hZ⟩
   .exact⟨S,rfl,hZ⟩
  .obtain⟨hj,rfl⟩:=sV hz;exact hZ
  .rw[Za,Za,lh];refine⟨j9,m6 _,?_⟩;show(((!tj (.list (((M.getD i []).filter λg=>S.contains g).map .int)) (.list []))=true)->_)/\(((!tj (.list (((M.getD i []).filter λg=>S.contains g).map .int)) (.list []))=false)->_);rw[mZ,X5,EL,Bool.not_not];have snoc:∀c:Bool,((M.getD i []).any λg=>S.contains g)=c->(((List.range (i+1)).filter λi=>(M.getD i []).any λg=>S.contains g).map λi:Nat=>AV.im (.int (i:Int)))=(((List.range i).filter λi=>(M.getD i []).any λg=>S.contains g).map λi:Nat=>AV.im (.int (i:Int)))++(if c=true then [AV.im (.int (i:Int))] else []):=λc hc=>by
    rw[Ys,Xb,Zr]
    congr 1
    cases c with
    |true=>rw[Qk (by rw[hc]),if_pos rfl];rfl
    |false=>rw[X3 (by rw[hc];decide),if_neg (by decide)];rfl
   refine⟨λhc=>⟨⟨_,ky _ _⟩,_,ky _ _,?_,?_⟩,λhc=>⟨?_,_,rfl⟩⟩
   .rw[Za,sz];have:=Yk (λi=>(M.getD i []).any λg=>S.contains g) (List.range i);rw[Yy] at this;omega
   .refine⟨?_,_,rfl⟩;rw[vA,snoc true hc,if_pos rfl]
   .rw[snoc false hc,if_neg (by decide),Ye]
 .rintro sl O' ⟨rfl,y,rfl⟩;rw[sL,Za,Zo];refine⟨⟨O.length,(ef M S).map λi:Nat=>.int (i:Int),rfl,by rw[ky,Zj];rfl,?_⟩⟩;rw[vA];exact h _ (cD.app ⟨[],by simp⟩ _)
def l7:FM:=λO xs P _=>∃ns:Γ3,xs=[.im (aD ns)]/\ns.length<=6/\∀O',cD O O'->P (.im (.list ((aB ns).map aD))) O'
abbrev XY:Δ2:=["some","found","mask"]
def JQ:MS:=(aE (aL (nz ai) (aP 1))
 (aE (eJ (jQ (ae (aR RG (mC (.int 1)) (eG gc (ae (af 0) ai))) ai)) (aP 2) (iY (nA (af 1) (ae (bQ 1 [2,0] (jQ (ae (eG gc (ae (af 0) ai)) ai)) (aP 0) (cw (aR (xI false) (aR Sz (aR RF (af 1) (af 0)) (mC (.int 1))) (mC (.int 1)))) (aR bW (af 2) (af 0))) ai))))
 (rd 1 (cW (af 1)))))
def GU:∀O xs Pq QX,l7 O xs Pq QX->JQ { nx:=λ_ O'=>Pq (.im .none) O',rt:=Pq } (bf XY xs) O:=by
 intro O xs Pq QX h;obtain⟨ns,rfl,n6,h⟩:=h;have hp:(2:Int) ^ ns.length=((2 ^ ns.length:Nat):Int):=by rw[Int.natCast_pow];rfl
 have Wr:2 ^ ns.length<=64:=Y1 (n:=2) (by decide) n6;refine⟨j9,?_⟩;have hb:((1:Int)*2 ^ ((((ns.map PyData.int).length:Nat):Int)).toNat)=((2 ^ ns.length:Nat):Int):=by rw[Int.one_mul,Zo,Za,hp]
 refine⟨⟨by omega,by rw[Za];omega,by decide⟩,?_⟩;have l5:(AV.im ((λi j:Int=>PyData.int (i*2 ^ j.toNat)) 1 (((ns.map PyData.int).length:Nat):Int)))=AV.im (.int ((2 ^ ns.length:Nat):Int)):=by dsimp only;rw[hb]
 rw[l5];have hs:(aB ns).map aD=((List.range (2 ^ ns.length)).map (cY ns)).map aD:=rfl;rw[hs] at h;generalize 2 ^ ns.length=m at Wr h ⊢;refine⟨⟨by omega,by omega⟩,λi sl O'=>O'=O++[some (((List.range i).map (cY ns)).map λr=>AV.im (aD r))]/\∃y,sl=[Φ9 (aD ns),some (.own O.length),y],⟨rfl,_,rfl⟩,?_,?_⟩
 .rintro i z sl O' hz ⟨rfl,y,rfl⟩;obtain⟨hi,rfl⟩:=sK hz;rw[Zo] at hi;refine⟨⟨_,ky _ _⟩,⟨by rw[Za];omega,by rw[Za];omega⟩,?_⟩;refine EV (λk=>decide (i / 2 ^ k % 2=1)) (λk=>.int (ns.getD k 0)) (by rw[sL,Za,Zo];omega) (λk z Z hz hZ=>?_) (λk z Z hz _ hZ=>?_) ?_
  .obtain⟨hk,rfl⟩:=sK hz;refine⟨by omega,dI,?_⟩;have ev:tj (.int (Builtin.bitAnd ((i:Int) / 2 ^ ((k:Int)).toNat) 1)) (.int 1)=decide (i / 2 ^ k % 2=1):=by
    have e1:((i:Int) / 2 ^ ((k:Int)).toNat)=((i / 2 ^ k:Nat):Int):=by rw[Zo,Int.natCast_ediv,Int.natCast_pow];rfl
    rw[e1,IB];show decide (((i / 2 ^ k % 2:Nat):Int)=1)=_;rw[decide_eq_decide];omega
   show Z (tj (.int (Builtin.bitAnd ((i:Int) / 2 ^ ((k:Int)).toNat) 1)) (.int 1)) _;rw[ev];exact hZ
  .obtain⟨hk,rfl⟩:=sK hz;rw[Za,Zo] at hk;exact⟨_,vt hk,hZ⟩
  .refine⟨_,ky _ _,by rw[Za,Za,Yy,sz];omega,?_,_,rfl⟩;rw[vA,sL,Za,Zo,Ys,Zr,Zr];have ep:aD (cY ns i)=.list (((List.range ns.length).filter λk=>decide (i / 2 ^ k % 2=1)).map λk=>.int (ns.getD k 0)):=by unfold aD cY;rw[Zj];rfl
   show _=O++[some (_++[AV.im (aD (cY ns i))])];rw[ep]
 .rintro sl O' ⟨rfl,y,rfl⟩;rw[sL,Zo];refine⟨⟨O.length,((List.range m).map (cY ns)).map aD,rfl,by rw[ky,Zj (f:=aD)];rfl,?_⟩⟩;rw[vA];exact h _ (cD.app ⟨[],by simp⟩ _)
def xm {t u:Int}(hu:u≠0):(Rat.divInt t u).num*u=t*((Rat.divInt t u).den:Int):=by
 have h:=Xd (Rat.divInt t u);have hd:((Rat.divInt t u).den:Int)≠0:=by have:=(Rat.divInt t u).den_pos;omega
 exact(Ji hd hu).mp h
def uC {xs:Ξ1}{r:Nat}(h1:r<=xs.length):cutD xs none (some (r:Int))=xs.take r:=by
 have e1:HT.cU xs.length xs.length (some (r:Int))=r:=by
  show(if (r:Int)<0 then ((r:Int)+(xs.length:Int)).toNat else min ((r:Int)).toNat xs.length)=_;rw[if_neg (by omega)];omega
 unfold cutD;rw[HT.k9,e1];simp
def p9:FM:=λO xs P _=>∃(A:Γ3) (Pu:Δ1) (W:Γ1) (qs:Δ1),xs=[.im (dm A Pu W),.im (.tuple (qs.map qD))]/\qs.length=A.length/\A.length<=6/\Pu.length<=6/\(∀a∈A,1<=a/\a<=60)/\(∀z∈Pu,Rb 20 z)/\(∀z∈qs,Rb 293 z)/\∀(c:Int) (ms ps:Γ3),0<c->dk c ms (d7 A qs)->dk c ps Pu->(∀m∈ms,Bd 4000 m)->P (.im (.list [aD ms,aD ps])) O
abbrev US:Δ2:=["market","prices","some","by","one","numbers"]
def JY:MS:=(aE (aL (bQ 1 [0,1] (jQ (ae (eG gc (ae (af 1) ai)) ai)) (aP 0) fb (au (f2 iT) bP (ae (aR bW (af 2) (af 0)) (ae (fZ (ae (aR bW (aR bW (af 1) (mC (.int 0))) (af 0)) (ae (mC (.int 1)) ai))) ai)))) (aP 2))
 (aE (aL (aR jT (af 2) (eG B7 (ae (aR bW (af 0) (mC (.int 1))) ai))) (aP 2))
 (aE (aL (mC (.int 1)) (aP 3))
 (aE (eJ (bw (af 2)) (aP 4) (aL (aR rc (af 3) (aR bW (au ph bP (ae (af 3) (ae (aR bW (af 4) (mC (.int 1))) ai))) (mC (.int 1)))) (aP 3)))
 (aE (aL (bQ 1 [3] (bw (af 2)) (aP 0) fb (aR rc (aR bW (af 0) (mC (.int 0))) (aR Gw (af 1) (aR bW (af 0) (mC (.int 1)))))) (aP 5))
 (cW (lF (ae (Kq (af 5) v7 (v4 (eG gc (ae (af 1) ai)))) (ae (Kq (af 5) (v4 (eG gc (ae (af 1) ai))) v7) ai)))))))))
def G2:∀O xs Pq QX,p9 O xs Pq QX->JY { nx:=λ_ O'=>Pq (.im .none) O',rt:=Pq } (bf US xs) O:=by
 intro O xs Pq QX h;obtain⟨A,Pu,W,qs,rfl,hl,g6,n6,hA,hP,hq,h⟩:=h;refine⟨⟨by rw[Za];omega,by rw[Za];omega⟩,?_⟩;have BG:∀j,j<qs.length->Rb 293 (qs.getD j 0):=λj hj=>hq _ (by rw[ak (Zc hj)];exact Zg _)
 have UH:∀j,j<A.length->1<=A.getD j 0/\A.getD j 0<=60:=λj hj=>hA _ (by rw[ak (Zc hj)];exact Zg _)
 refine u8 (λj=>qD (qs.getD j 0*((A.getD j 0:Int):Rat))) (by rw[sL,Za,Zo];omega) (λj x Z hx hZ=>?_) ?_
 .obtain⟨hj,rfl⟩:=sK hx;rw[Za,Zo] at hj;have ha:=UH j (by omega);exact⟨_,bo (iM (f:=qD) (d:=0) hj),_,rfl,_,vt (by omega),gE,qs.getD j 0,((A.getD j 0:Int):Rat),rfl,⟨(BG j hj).mono (by decide),(u7 (k:=6) (by unfold Bd;omega) (by decide)).mono (by decide)⟩,hZ⟩
 rw[sL,Za,Zo];have e1:(List.range qs.length).map (λj=>qD (qs.getD j 0*((A.getD j 0:Int):Rat)))=(d7 A qs).map qD:=by unfold d7;rw[Zj];rfl
 rw[e1];have mb:∀z∈d7 A qs,Rb 299 z:=λz hz=>by
  obtain⟨j,hj,rfl⟩:=Zd.mp hz;have hj:=Zy.mp hj;have ha:=UH j (by omega);exact ft (BG j hj) (u7 (k:=6) (by unfold Bd;omega) (by decide))
 have ml:(d7 A qs).length=qs.length:=by unfold d7;simp
 refine⟨_,rfl,by rw[Za,Za,ml,sz];omega,?_⟩;have e2:(d7 A qs).map qD++Pu.map qD=(d7 A qs++Pu).map qD:=(Zr).symm;rw[e2];have lb:∀z∈d7 A qs++Pu,Rb 300 z:=λz hz=>by
  rcases Zt.mp hz with hz |hz
  .exact(mb z hz).mono (by decide)
  .exact(hP z hz).mono (by decide)
 have ll:(d7 A qs++Pu).length<=12:=by rw[Z5];omega
 have gy:∀c:Int,∀ms:Γ3,0<c->dk c ms (d7 A qs++Pu)->(∀m∈ms,Bd 4000 m)->Pq (.im (.list [aD (ms.take qs.length),aD (ms.drop qs.length)])) O:=λc ms hc hi VX=>by
  obtain⟨i1,i2⟩:=kr hi;rw[ml] at i1 i2;exact h c _ _ hc i1 i2 λm hm=>VX m (Jf hm)
 have hls:qs.length<=(d7 A qs++Pu).length:=by rw[Z5];omega
 generalize d7 A qs++Pu=ls at lb ll gy hls ⊢;refine⟨?_⟩;refine⟨?_⟩;conv=>whnf
 have PR:∀{j:Nat}{x:AV},((ls.map qD).map AV.im)[j]?=some x->j<ls.length/\x=.im (qD (ls.getD j 0))/\Rb 300 (ls.getD j 0):=λ{j x} hx=>by
  have hj:j<ls.length:=by have:=(Zf.mp hx).1;simpa using this
  rw[Zh,iM (f:=qD) (d:=0) hj] at hx;exact⟨hj,(Option.some.inj hx).symm,lb _ (by rw[ak (Zc hj)];exact Zg _)⟩
 refine⟨λi sl O'=>O'=O/\∃(dU:Int) (y4:Option AV),sl=[Φ9 (dm A Pu W),Φ9 (.tuple (qs.map qD)),Φ9 (.list (ls.map qD)),Φ9 (.int dU),y4,none]/\0<dU/\Bd (300*i+1) dU/\∀j,j<i->((ls.getD j 0).den:Int)∣dU,⟨rfl,1,none,rfl,by decide,by unfold Bd;decide,λj hj=>absurd hj (by omega)⟩,?_,?_⟩
 .rintro i x sl O' hx ⟨rfl,dU,y4,rfl,b0,bb,bd⟩;obtain⟨hi,rfl,hb⟩:=PR hx;have dp:(0:Int)<((ls.getD i 0).den:Int):=by have:=(ls.getD i 0).den_pos;omega
  have bb':Bd 8000 dU:=bb.mono (by omega);have cr:=xm (t:=dU) (u:=((ls.getD i 0).den:Int)) (by omega);have YW:(0:Int)<((Rat.divInt dU ((ls.getD i 0).den:Int)).den:Int):=by have:=(Rat.divInt dU ((ls.getD i 0).den:Int)).den_pos;omega
  have rb:Bd 300 ((Rat.divInt dU ((ls.getD i 0).den:Int)).den:Int):=by
   obtain⟨e1,e2⟩:=nX (T:=dU) (U:=((ls.getD i 0).den:Int)) (by omega);obtain⟨_,_,_,_,n5,n6⟩:=jA (t:=dU) (u:=((ls.getD i 0).den:Int)) (by omega);rw[<- e2];exact hb.2.le n6
  refine⟨_,rfl,⟨dp,hb.2.mono (by decide)⟩,_,rfl,⟨bb',rb.mono (by decide)⟩,⟨rfl,_,_,rfl,Y4 b0 YW,?_,λj hj=>?_⟩⟩
  .have:=bb.mul rb;exact this.mono (by omega)
  .rcases Yg j i with y |y
   .exact Int.dvd_trans (bd j y) (Int.dvd_mul_right _ _)
   .obtain rfl:j=i:=by omega
    rw[<- cr];exact Int.dvd_mul_left _ _
 .rintro sl O' ⟨rfl,dU,y4,rfl,b0,bb,bd⟩;rw[Za,Za] at bb bd;refine⟨?_⟩;conv=>whnf
  refine u8 (λj=>.int ((ls.getD j 0).num*(dU / ((ls.getD j 0).den:Int)))) (by rw[Za,Za];omega) (λj x Z hx hZ=>?_) ?_
  .obtain⟨hj,rfl,hb⟩:=PR hx;have dp:(0:Int)<((ls.getD j 0).den:Int):=by have:=(ls.getD j 0).den_pos;omega
   have I0:Bd 8000 (dU / ((ls.getD j 0).den:Int)):=by
    refine(bb.mono (show 300*ls.length+1<=8000 by omega)).le ?_;have h1:=Qr (show 0<=dU by omega) (show(0:Int)<=((ls.getD j 0).den:Int) by omega);have h2:=Qq ((ls.getD j 0).den:Int) (show 0<=dU by omega);omega
   exact⟨_,rfl,_,rfl,⟨dp,hb.2.mono (by decide)⟩,⟨hb.1.mono (by decide),I0⟩,hZ⟩
  rw[Za,Za];have e3:(List.range ls.length).map (λj=>PyData.int ((ls.getD j 0).num*(dU / ((ls.getD j 0).den:Int))))=((ls.map λq:Rat=>q.num*(dU / (q.den:Int)))).map .int:=by
   rw[Zj];exact zS (λq:Rat=>PyData.int (q.num*(dU / (q.den:Int)))) ls 0
  rw[e3];have hi:dk dU (ls.map λq:Rat=>q.num*(dU / (q.den:Int))) ls:=⟨by simp,λj hj=>by
   rw[show(ls.map λq:Rat=>q.num*(dU / (q.den:Int))).getD j 0=(ls.getD j 0).num*(dU / ((ls.getD j 0).den:Int)) from sN hj];have bj:=bd j hj;generalize ls.getD j 0=q at bj ⊢;obtain⟨k,hk⟩:=bj;have dp:(q.den:Int)≠0:=by have:=q.den_pos;omega
   rw[hk,Jg _ dp,Y5,Y5];have e:q=((q.num:Int):Rat) / ((q.den:Int):Rat):=by rw[<- X0];exact(Xd q).symm
   have dq:((q.den:Int):Rat)≠0:=λz=>dp (by exact_mod_cast z)
   have e2:q*((q.den:Int):Rat)=((q.num:Int):Rat):=by
    conv=>lhs;rw[e]
    grind
   rw[<- e2]
   grind⟩
  have ml':(ls.map λq:Rat=>q.num*(dU / (q.den:Int))).length=ls.length:=by simp
  have fi:=gy dU _ b0 hi λm hm=>by
   obtain⟨q,Ky,rfl⟩:=Zd.mp hm;obtain⟨j,hj,rfl⟩:=Yt Ky;have hb:=lb _ Ky;have dp:(0:Int)<((ls[j]).den:Int):=by have:=(ls[j]).den_pos;omega
   have I0:Bd (300*ls.length+1) (dU / ((ls[j]).den:Int)):=by
    refine bb.le ?_;have h1:=Qr (show 0<=dU by omega) (show(0:Int)<=((ls[j]).den:Int) by omega);have h2:=Qq ((ls[j]).den:Int) (show 0<=dU by omega);omega
   exact(hb.1.mul I0).mono (by omega)
  generalize (ls.map λq:Rat=>q.num*(dU / (q.den:Int)))=ms at hi ml' fi ⊢;have BF:qs.length<=ls.length:=hls;have VN:=uC (xs:=ms.map PyData.int) (r:=qs.length) (by rw[Za];omega);have oZ:=jJ (xs:=ms.map PyData.int) (r:=((qs.length:Nat):Int)) (by omega) (by rw[Za];omega);rw[Zo] at oZ;refine⟨?_⟩;have VP:(((qs.map qD).length:Nat):Int)=((qs.length:Nat):Int):=by rw[Za]
  show[PyData.list (cutD (ms.map .int) none (some (((qs.map qD).length:Nat):Int))),PyData.list (cutD (ms.map .int) (some (((qs.map qD).length:Nat):Int)) none)].length<=sizeLine/\Pq (.im (.list [PyData.list (cutD (ms.map .int) none (some (((qs.map qD).length:Nat):Int))),PyData.list (cutD (ms.map .int) (some (((qs.map qD).length:Nat):Int)) none)])) _;rw[VP,VN,oZ];refine⟨gE,?_⟩;unfold aD at fi;rw[List.map_take,Qy] at fi;exact fi
def He {z:Rat}(h:vz (qD z)=true):0<z/\Rb 20 z:=by
 obtain⟨q,e,h1,h2⟩:=rO h;have:z=q:=by rw[<- i8 z,e,i8]
 rw[this];exact⟨h1,h2⟩
structure FE (A:Γ3)(Pu:Δ1)(W:Γ1):Prop where
 g1:1<=A.length
 g6:A.length<=6
 n1:1<=Pu.length
 n6:Pu.length<=6
 wl:W.length=Pu.length
 am:∀a∈A,1<=a/\a<=60
 pu:∀z∈Pu,0<z/\Rb 20 z
 wr:∀i,i<W.length->(W.getD i []).length=A.length
 w0:∀i j,i<W.length->j<A.length->0<=eI W i j/\eI W i j<=100
def u9 {A:Γ3}{Pu:Δ1}{W:Γ1}(h:iV (dm A Pu W)=true):FE A Pu W:=by
 obtain⟨h1,h2,h3,h4,h5,h6,h7,h8⟩:=jm h;rw[Za] at h1 h2 h4 h5;rw[Za,Za] at h7;rw[Za] at h8;have row:∀r∈W,r.length=A.length/\∀x∈r,0<=x/\x<=100:=λr hr=>by
  have:=Yc.mp h8 (aS r) (Zd.mpr ⟨r,hr,rfl⟩);have e:(decide ((r.map PyData.int).length=A.length)&&(r.map PyData.int).all (within 0 100))=true:=this;rw[Z0,decide_eq_true_eq,Za,Yc] at e;refine⟨e.1,λx hx=>?_⟩;have:=e.2 (.int x) (Zd.mpr ⟨x,hx,rfl⟩);have e2:(decide ((0:Int)<=x)&&decide (x<=100))=true:=this;rw[Z0,decide_eq_true_eq,decide_eq_true_eq] at e2;exact e2
 have wm:∀i,i<W.length->W.getD i []∈W:=λi hi=>by rw[ak (Zc hi)];exact Zg _
 refine⟨h1,h2,h4,h5,h7,λa ha=>?_,λz hz=>?_,λi hi=>(row _ (wm i hi)).1,λi j hi hj=>?_⟩
 .have:=Yc.mp h3 (.int a) (Zd.mpr ⟨a,ha,rfl⟩);have e2:(decide ((1:Int)<=a)&&decide (a<=60))=true:=this;rw[Z0,decide_eq_true_eq,decide_eq_true_eq] at e2;exact e2
 .exact He (Yc.mp h6 (qD z) (Zd.mpr ⟨z,hz,rfl⟩))
 .have hr:=row _ (wm i hi);have sZ:j<(W.getD i []).length:=by rw[hr.1];exact hj
  exact hr.2 _ (by show(W.getD i []).getD j 0∈_;rw[ak (Zc sZ)];exact Zg _)
open RZ
def sM {g:Nat}{W:Γ1}{x:Int}(h:x∈ay g W):0<=x/\x.toNat<g/\((x.toNat:Nat):Int)=x/\has W x.toNat=true:=by
 unfold ay at h;obtain⟨j,hj,rfl⟩:=Zd.mp h;have hj:=Zn.mp hj;have h1:=Zy.mp hj.1;rw[Zo];exact⟨by omega,h1,rfl,hj.2⟩
def sP (g:Nat)(W:Γ1):(ay g W).length<=g:=by
 unfold ay aV;rw[Za];exact Zk (Yk _ _) (by simp)
def qU (W:Γ1)(qs:Δ1):(ah W qs).length=W.length:=by unfold ah;simp
def BA {W:Γ1}{qs:Δ1}{i:Nat}(hi:i<W.length):(ah W qs).getD i []=(bE (W.getD i []) qs).map λg:Nat=>(g:Int):=by unfold ah;exact sN hi
def jq {W:Γ1}{qs:Δ1}{i g:Nat}(hi:i<W.length)(hr:(W.getD i []).length=g):((ah W qs).getD i []).length<=g:=by
 rw[BA hi,Za];unfold bE;rw[<- hr];exact Zk (Yk _ _) (by simp)
def jx {W:Γ1}{qs:Δ1}{S:Γ3}(hS:∀x∈S,0<=x):ef (ah W qs) S=cO W qs (aw S):=by
 unfold ef cO;rw[qU];refine Y7 λi _=>?_
 unfold cz aw;rw[Ya,Zv,Zv];constructor
 .rintro⟨x,hx,h⟩;have hm:=Zz.mp h;exact⟨x,hx,Zv.mpr ⟨x.toNat,Zd.mpr ⟨x,hm,rfl⟩,decide_eq_true (Xa (hS x hm))⟩⟩
 .rintro⟨x,hx,h⟩;obtain⟨y,hy,e⟩:=Zv.mp h;obtain⟨z,hz,rfl⟩:=Zd.mp hy;have e:=of_decide_eq_true e;rw[Xa (hS z hz)] at e;exact⟨x,hx,Zz.mpr (e▸hz)⟩
def mX {s:List Nat}{i:Nat}{x:AV}(h:((s.map λk:Nat=>PyData.int (k:Int)).map AV.im)[i]?=some x):i<s.length/\x=.im (.int ((s.getD i 0:Nat):Int))/\s.getD i 0∈s:=by
 have hi:i<s.length:=by have:=(Zf.mp h).1;simpa using this
 rw[Zh,iM (f:=λk:Nat=>PyData.int (k:Int)) (d:=0) hi] at h;exact⟨hi,(Option.some.inj h).symm,by rw[ak (Zc hi)];exact Zg _⟩
def vT {ns:Γ3}{x:Int}(h0:0<=x)(h:x.toNat<ns.length):iF (ns.map PyData.int) x=some (.int (ns.getD x.toNat 0)):=by
 have:=vt h
 rwa [Xa h0] at this
def kO {α : Type}(s:List α)(d:α)(f:α->Int):(List.range s.length).map (λj=>PyData.int (f (s.getD j d)))=(s.map f).map .int:=by
 rw[Zj];exact zS (λx=>PyData.int (f x)) s d
def oD {M:Γ1}{i:Nat}{x:AV}(h:((M.map aD).map AV.im)[i]?=some x):i<M.length/\x=.im (aD (M.getD i [])):=by
 have hi:i<M.length:=by have:=(Zf.mp h).1;simpa using this
 rw[Zh,iM (f:=aD) (d:=[]) hi] at h;exact⟨hi,(Option.some.inj h).symm⟩
theorem wu:∀{A B:Γ3},A.Nodup->(∀x∈A,x∈B)->A.length<=B.length
 |[],_,_,_=>Z9 _
 |a::A,B,nd,h=>by
  have Fj:=Yl.mp nd;have ha:=h a Zm;have ih:=wu (A:=A) (B:=B.erase a) Fj.2 λx hx=>(List.mem_erase_of_ne (λ(e:x=a)=>Fj.1 (e▸hx))).mpr (h x (Zq _ hx))
  have e:=List.length_erase_of_mem ha;have:=List.length_pos_of_mem ha;rw[Xy];omega
def dL (ps:Γ3)(s:List Nat):Int:=(s.map λi=>ps.getD i 0).sum
def yj:FM:=λO xs P _=>∃(A:Γ3) (Pu:Δ1) (W:Γ1) (qs:Δ1),xs=[.im (dm A Pu W),.im (.tuple (qs.map qD)),.im .none]/\oj A Pu W qs/\(∀z∈qs,Rb 280 z)/\vw A Pu qs W A.length/\∀Pd,fQ A Pu qs W A.length Pd->∀O',cD O O'->P (.im (aS Pd)) O'
abbrev Rn:Δ2:=["market","prices","without","best","money","purses","found","goods","who","there"]
def JW:MS:=(aE (aL (au pz bP (ae (af 0) (ae (af 1) ai))) (aP 3))
 (aE (aL (au p9 bP (ae (af 0) (ae (af 1) ai))) (vq 2 (bG (aP 4) (bG (aP 5) fJ))))
 (aE (aL (lF ai) (aP 6))
 (aE (eJ (bw (au l7 bP (ae (au jS bP (ae (af 0) ai)) ai))) (aP 7) (aE (aL (au rg bP (ae (af 3) (ae (af 7) ai))) (aP 8))
 (aE (aL (eG tF (ae (bQ 1 [5] (bw (af 8)) (aP 0) fb (aR bW (af 1) (af 0))) ai)) (aP 9))
 (ga (pY (cw (aR FW (af 2) (af 8))) (cw (aR (xI false) (eG tF (ae (bQ 1 [4] (bw (af 7)) (aP 0) fb (aR bW (af 1) (af 0))) ai)) (af 9)))) (aL (aR jT (af 6) (bQ 1 [6] (bw (af 7)) (aP 0) (cw (aR (vF true) (af 0) (af 1))) (af 0))) (aP 6)) dh))))
 (cW (eG lE (ae (eG Cj (ae (af 6) ai)) ai)))))))
def G0:∀O xs Pq QX,yj O xs Pq QX->JW { nx:=λ_ O'=>Pq (.im .none) O',rt:=Pq } (bf Rn xs) O:=by
 intro O xs Pq QX h;obtain⟨A,Pu,W,qs,rfl,pr,hq,o9,h⟩:=h;have mf:=u9 pr.ok;have hl:=pr.len;have g6:=mf.g6;have n6:=mf.n6;have n1:=mf.n1;have wl:=mf.wl;refine⟨A,Pu,W,qs,rfl,by omega,by omega,λi hi=>by rw[mf.wr i hi,hl],λi j hi hj=>mf.w0 i j hi (by omega),hq,λO1 BZ=>?_⟩;refine⟨⟨A,Pu,W,qs,rfl,hl,g6,n6,mf.am,λz hz=>(mf.pu z hz).2,pr.bd,λc ms ps hc im ip Ur=>?_⟩⟩;refine⟨rfl,⟨j9,?_⟩⟩;have mm:(d7 A qs).length=qs.length:=by unfold d7;simp
 have iml:ms.length=A.length:=by rw[im.1,mm,hl]
 have Uq:ps.length=Pu.length:=ip.1;refine⟨A,Pu,W,rfl,g6,by omega,by omega,mf.wr,ay A.length W,rfl,Zk (sP _ _) g6,λO2 IX=>?_⟩;have hU:=BD A.length W;generalize UF:ay A.length W=U at hU ⊢;have sub:∀S∈aB U,S.Sublist (ay A.length W):=λS hS=>by rw[UF];exact cv.mp hS
 have val:∀S∈aB U,(((dL ms (aw S)-dL ps (ef (ah W qs) S):Int)):Rat)=(c:Rat)*aX A Pu qs W (aw S):=λS hS=>by
  have hs:=sub S hS;rw[jx λx hx=>(sM (hs.subset hx)).1];unfold dL aX;rw[Rat.intCast_sub,IJ im λi hi=>?_,IJ ip λi hi=>?_]
  .unfold iN ci
   grind
  .have:=IL hi;omega
  .obtain⟨x,hx,rfl⟩:=Zd.mp hi;have:=(sM (hs.subset hx)).2.1;omega
 have ab:Above A Pu qs W (ay A.length W) c ((aB U).map λS=>(dL ms (aw S)-dL ps (ef (ah W qs) S),S)):=by
  refine⟨hc,?_,λx hx=>?_⟩
  .rw[Zj,UF];exact Xc _
  .obtain⟨S,hS,rfl⟩:=Zd.mp hx;exact val S hS
 refine⟨λi sl O'=>cD O O'/\∃(found:Γ3) (y7 y8 y9:Option AV),sl=[Φ9 (dm A Pu W),Φ9 (.tuple (qs.map qD)),Φ9 .none,Φ9 (.list ((ah W qs).map aD)),Φ9 (aD ms),Φ9 (aD ps),Φ9 (aD found),y7,y8,y9]/\found.Nodup/\(∀x∈found,x∈U)/\∀x,x∈found↔∃S∈(aB U).take i,dL ms (aw S)-dL ps (ef (ah W qs) S)=0/\x∈S,⟨zQ BZ IX,[],_,_,_,rfl,Qt,λx hx=>(by cases hx),λx=>by simp⟩,?_,?_⟩
 .rintro i z sl O' hz ⟨hG,found,y7,y8,y9,rfl,nd,fU,mem⟩;obtain⟨hi,rfl⟩:=oD hz;have hS:(aB U).getD i []∈aB U:=by rw[ak (Zc hi)];exact Zg _
  have sY:(aB U).take (i+1)=(aB U).take i++[(aB U).getD i []]:=by rw[Qd,Zc hi,ak (Zc hi)];rfl
  generalize Wm:(aB U).getD i []=S at hS sY;have hs:=sub S hS;have hsU:S.Sublist U:=cv.mp hS;have Kw:S.length<=6:=by have:=hs.length_le;have:=sP A.length W;omega
  refine⟨ah W qs,S,.im (aD S),rfl,.inl rfl,by rw[qU];omega,λk hk=>by rw[qU] at hk;exact Zk (jq hk (mf.wr k hk)) g6,λO3 KY=>?_⟩;have hT:∀b∈ef (ah W qs) S,b<ps.length:=λb hb=>by
   have:=Zy.mp (Zn.mp hb).1;rw[qU] at this;omega
  have hTl:(ef (ah W qs) S).length<=6:=by
   unfold ef;refine Zk (Yk _ _) ?_;rw[Yy,qU];omega
  refine⟨?_⟩;conv=>whnf
  refine u8 (λj=>.int (ps.getD ((ef (ah W qs) S).getD j 0) 0)) (by rw[Za,Za];omega) (λj x Z hx hZ=>?_) ?_
  .obtain⟨hj,rfl,hm⟩:=mX hx;exact⟨_,vt (hT _ hm),hZ⟩
  rw[Za,Za,kO (ef (ah W qs) S) 0 (λb=>ps.getD b 0)];refine⟨_,rfl,?_⟩;have El:(ef (ah W qs) S).map (λk:Nat=>PyData.int (k:Int))=((ef (ah W qs) S).map λk:Nat=>(k:Int)).map .int:=by rw[Zj];rfl
  refine⟨⟨_,El,⟨λ_=>?_,λz=>(by cases z)⟩⟩⟩;conv=>whnf
  refine u8 (λj=>.int (ms.getD (S.getD j 0).toNat 0)) (by rw[Za,Za];omega) (λj x Z hx hZ=>?_) ?_
  .obtain⟨hj,rfl⟩:=sV hx;have hw:=sM (hs.subset (show S.getD j 0∈S by rw[ak (Zc hj)];exact Zg _));exact⟨_,vT hw.1 (by omega),hZ⟩
  rw[Za,Za,kO S 0 (λx=>ms.getD x.toNat 0)];refine⟨_,rfl,dI,?_⟩;have es:(S.map λx=>ms.getD x.toNat 0).sum=dL ms (aw S):=by unfold dL aw;rw[Zj];rfl
  rw[es];show((decide (dL ms (aw S)=dL ps (ef (ah W qs) S)))=true->_)/\((decide (dL ms (aw S)=dL ps (ef (ah W qs) S)))=false->_);refine⟨λhe=>?_,λhe=>⟨zQ hG KY,found,_,_,_,rfl,nd,fU,λx=>?_⟩⟩
  .have he:=of_decide_eq_true he;conv=>whnf
   refine EV (λj=>!found.contains (S.getD j 0)) (λj=>.int (S.getD j 0)) (by rw[Za,Za];omega) (λj x Z hx hZ=>?_) (λj x Z hx _ hZ=>?_) ?_
   .obtain⟨hj,rfl⟩:=sV hx;exact⟨found,rfl,hZ⟩
   .obtain⟨hj,rfl⟩:=sV hx;exact hZ
   rw[Za,Za,lh S (λx=>!found.contains x)];have fl:found.length<=U.length:=wu nd fU;have hUl:U.length<=6:=by rw[<- UF];exact Zk (sP _ _) g6
   refine⟨by rw[Za,Za,sz];have:=Yk (λx=>!found.contains x) S;omega,zQ hG KY,found++S.filter (λx=>!found.contains x),Φ9 (aD S),Φ9 (vY (ef (ah W qs) S)),Φ9 (.int (dL ps (ef (ah W qs) S))),?_,?_,?_,λx=>?_⟩
   .unfold aD;rw[Zr];rfl
   .rw[Qv];refine⟨nd,(hU.sublist hsU).sublist Yn,λa ha b hb e=>?_⟩;subst e;have:=(Zn.mp hb).2;rw[Zz.mpr ha] at this;cases this
   .intro x hx;rcases Zt.mp hx with z |z
    .exact fU x z
    .exact hsU.subset ((Zn.mp z).1)
   .rw[sY,Zt,mem x];constructor
    .rintro(⟨T,KQ,h2,h3⟩ |h1)
     .exact⟨T,Xw _ KQ,h2,h3⟩
     .exact⟨S,Z1 _ Zm,by omega,(Zn.mp h1).1⟩
    .rintro⟨T,KQ,h2,h3⟩;rcases Zt.mp KQ with z |z
     .exact .inl ⟨T,z,h2,h3⟩
     .rw[Z2.mp z] at h3;by_cases hf:x∈found
      .exact .inl ((mem x).mp hf)
      .exact .inr (Zn.mpr ⟨h3,by simpa using hf⟩)
  .have he:=of_decide_eq_false he;rw[sY,mem x];constructor
   .rintro⟨T,KQ,h2,h3⟩;exact⟨T,Xw _ KQ,h2,h3⟩
   .rintro⟨T,KQ,h2,h3⟩;rcases Zt.mp KQ with z |z
    .exact⟨T,z,h2,h3⟩
    .rw[Z2.mp z] at h2;exact absurd (by omega) he
 .rintro sl O' ⟨hG,found,y7,y8,y9,rfl,nd,fU,mem⟩;have fl:found.length<=U.length:=wu nd fU;have hUl:U.length<=6:=by rw[<- UF];exact Zk (sP _ _) g6
  refine⟨⟨found,rfl,by omega,λu6 hp hw=>?_⟩⟩;refine h u6 (wR (λq Ky=>Z7 (mf.pu q Ky).1) ab o9 (hp.nodup_iff.mpr nd) hw λx=>?_) O' hG;rw[hp.mem_iff,mem x,Za,Za,Yd];constructor
  .rintro⟨S,h1,h2,h3⟩;exact⟨_,Zd.mpr ⟨S,h1,rfl⟩,h2,h3⟩
  .rintro⟨r,hr,h2,h3⟩;obtain⟨S,h1,rfl⟩:=Zd.mp hr;exact⟨S,h1,h2,h3⟩
def zm {O O':aU}{k:Nat}{c:Option (List AV)}(h:cD O O')(hk:O[k]?=some c):O'[k]?=some c:=by
 obtain⟨t,rfl⟩:=h;rw[Z4 (Zf.mp hk).1];exact hk
def MX {O:aU}{k:Nat}{c d:Option (List AV)}(hk:O[k]?=some c):(O.set k d)[k]?=some d:=Yu (Zf.mp hk).1
def yc:FM:=λO xs P _=>∃(row:Γ3) (qs:Δ1) (Pd:Γ3) (b:Nat),xs=[.im (aS row),.im (.tuple (qs.map qD)),.im (aS Pd),.im (.int (b:Int))]/\row.length=qs.length/\b<qs.length/\(∀j,j<row.length->0<=row.getD j 0/\row.getD j 0<=100)/\(∀z∈qs,Rb 293 z)/\0<qs.getD b 0/\Pd.length<=6/\(∀g∈Pd,0<=g/\g.toNat<qs.length/\0<qs.getD g.toNat 0)/\∀O',cD O O'->P (.im (.list ((dY row qs Pd b).map qD))) O'
abbrev NTs:Δ2:=["row","prices","paid","mine","share","found","good"]
def JO:MS:=(aE (aL (au Aq bP (ae (fZ (ae (aR bW (af 0) (af 3)) (ae (mC (.int 1)) ai))) (ae (aR bW (af 1) (af 3)) ai))) (aP 4))
 (aE (aL (nz ai) (aP 5))
 (aE (eJ (bw (af 2)) (aP 6) (ga (cw (aR Pb (aR bW (af 0) (af 6)) (mC (.int 0)))) (iY (nA (af 5) (ae (au Aq bP (ae (af 4) (ae (au Aq bP (ae (fZ (ae (aR bW (af 0) (af 6)) (ae (mC (.int 1)) ai))) (ae (aR bW (af 1) (af 6)) ai))) ai))) ai))) dh))
 (rd 5 (cW (af 5))))))
def gL {row:Γ3}{qs:Δ1}{g:Nat}(h:0<=row.getD g 0/\row.getD g 0<=100)(hb:Rb 293 (qs.getD g 0))(h0:0<qs.getD g 0):Rb 300 (bK row qs g):=by
 unfold bK;exact jz (j:=7) (k:=293) (u7 (by unfold Bd;omega) (by decide)) hb (λz=>by rw[z] at h0;exact absurd h0 (by decide))
def GR:∀O xs Pq QX,yc O xs Pq QX->JO { nx:=λ_ O'=>Pq (.im .none) O',rt:=Pq } (bf NTs xs) O:=by
 intro O xs Pq QX h;obtain⟨row,qs,Pd,b,rfl,hl,hb,eC,hq,q0,p6,vL,h⟩:=h;have BG:∀j,j<qs.length->Rb 293 (qs.getD j 0):=λj hj=>hq _ (by rw[ak (Zc hj)];exact Zg _)
 have hrb:=eC b (by omega);have zT:=gL hrb (BG b hb) q0;refine⟨_,vt (by omega),gE,_,bo (iM (f:=qD) (d:=0) hb),((row.getD b 0:Int):Rat),qs.getD b 0,rfl,⟨(u7 (k:=7) (by unfold Bd;omega) (by decide)).mono (by decide),(BG b hb).mono (by decide),q0⟩,⟨j9,?_⟩⟩;refine⟨?_⟩;conv=>whnf
 refine⟨λi sl O'=>O'=O++[some (((dY row qs (Pd.take i) b).map λq=>AV.im (qD q)))]/\∃y,sl=[Φ9 (aS row),Φ9 (.tuple (qs.map qD)),Φ9 (aS Pd),Φ9 (.int (b:Int)),Φ9 (qD (bK row qs b)),some (.own O.length),y],⟨rfl,_,rfl⟩,?_,?_⟩
 .rintro i x sl O' hx ⟨rfl,y,rfl⟩;obtain⟨hi,rfl⟩:=sV hx;have hm:Pd.getD i 0∈Pd:=by rw[ak (Zc hi)];exact Zg _
  obtain⟨g0,gl,gq⟩:=vL _ hm;have hrg:=eC (Pd.getD i 0).toNat (by omega);have sY:Pd.take (i+1)=Pd.take i++[Pd.getD i 0]:=by rw[Qd,Zc hi,ak (Zc hi)];rfl
  have Sw:dY row qs (Pd.take (i+1)) b=dY row qs (Pd.take i) b++(if 0<row.getD (Pd.getD i 0).toNat 0 then [bK row qs b / bK row qs (Pd.getD i 0).toNat] else []):=by
   unfold dY;rw[sY,Xb,Zr]
   congr 1
   split
   .rename_i hc;rw[Qk (p:=λg:Int=>decide (0<row.getD g.toNat 0)) (decide_eq_true hc)];rfl
   .rename_i hc;rw[X3 (p:=λg:Int=>decide (0<row.getD g.toNat 0)) (by show ¬ (decide _=true);rw[decide_eq_false hc];decide)];rfl
  refine⟨_,vT g0 (by omega),?_⟩;have tl:(dY row qs (Pd.take i) b).length<=6:=by
   unfold dY;rw[Za];have h1:=Yk (λg:Int=>decide (0<row.getD g.toNat 0)) (Pd.take i);have h2:=List.length_take_le i Pd;omega
  refine⟨λhc=>?_,λhc=>⟨?_,_,rfl⟩⟩
  .have hc:0<row.getD (Pd.getD i 0).toNat 0:=of_decide_eq_true hc;have hrr:=gL hrg (BG _ gl) gq;have rp:0<bK row qs (Pd.getD i 0).toNat:=by
    unfold bK;exact BN (Yo.mpr hc) gq
   have qa:iF (qs.map qD) (Pd.getD i 0)=some (qD (qs.getD (Pd.getD i 0).toNat 0)):=by
    have:=bo (iM (f:=qD) (d:=(0:Rat)) gl)
    rwa [Xa g0] at this
   refine⟨⟨_,ky _ _⟩,_,vT g0 (by omega),gE,_,qa,((row.getD (Pd.getD i 0).toNat 0:Int):Rat),qs.getD (Pd.getD i 0).toNat 0,rfl,⟨(u7 (k:=7) (by unfold Bd;omega) (by decide)).mono (by decide),(BG _ gl).mono (by decide),gq⟩,bK row qs b,bK row qs (Pd.getD i 0).toNat,rfl,⟨zT.mono (by decide),hrr.mono (by decide),rp⟩,_,ky _ _,by rw[Za,sz];omega,?_,_,rfl⟩;rw[vA,Sw,if_pos hc,Zr];rfl
  .have hc:¬ 0<row.getD (Pd.getD i 0).toNat 0:=of_decide_eq_false hc;rw[Sw,if_neg hc,Ye]
 .rintro sl O' ⟨rfl,y,rfl⟩;rw[Za,Za,Yd];refine⟨⟨O.length,(dY row qs Pd b).map qD,rfl,by rw[ky,Zj];rfl,?_⟩⟩;rw[vA];exact h _ (cD.app ⟨[],by simp⟩ _)
def DD {k:Nat}:∀{xs:Γ3},(∀x∈xs,Bd k x)->xs.length<=6->Bd (k+3) xs.sum:=by
 have key:∀{xs:Γ3},(∀x∈xs,Bd k x)->xs.sum.natAbs<=xs.length*2 ^ k:=by
  intro xs;induction xs with
  |nil=>intro _;exact Z9 _
  |cons x xs ih =>
   intro h;have h1:x.natAbs<2 ^ k:=h x Zm;have h2:=ih λy hy=>h y (Zq _ hy)
   have h3:=Int.natAbs_add_le x xs.sum;rw[Qh,Xy,Nat.succ_mul];omega
 intro xs h h6;have h1:=key h;unfold Bd;have h2:xs.length*2 ^ k<=6*2 ^ k:=Nat.mul_le_mul_right _ h6;have h3:0<2 ^ k:=Nat.pow_pos (by decide);rw[Nat.pow_add];show _<2 ^ k*8;omega
def qz {c t u:Int}{x y:Rat}(hc:0<c)(ht:((t:Int):Rat)=(c:Rat)*x)(hu:((u:Int):Rat)=(c:Rat)*y)(hy:0<y):Rat.divInt t u=x / y:=by
 rw[X0,ht,hu];have c0:(c:Rat)≠0:=λz=>by have:(c:Int)=0:=(by exact_mod_cast z);omega
 have y0:y≠0:=λz=>by rw[z] at hy;exact absurd hy (by decide)
 grind
structure eX (A:Γ3)(Pu:Δ1)(W:Γ1)(qs:Δ1):Prop where
 pr:oj A Pu W qs
 bd:∀z∈qs,Rb 280 z
def eX.pos {A:Γ3}{Pu:Δ1}{W:Γ1}{qs:Δ1}(h:eX A Pu W qs){x:Int}(hx:x∈ay A.length W):0<=x/\x.toNat<qs.length/\0<qs.getD x.toNat 0:=by
 obtain⟨h1,h2,h3,h4⟩:=sM hx;have hl:=h.pr.len;exact⟨h1,by omega,h.pr.pL.pos _ (by omega) h4⟩
def eX.money {A:Γ3}{Pu:Δ1}{W:Γ1}{qs:Δ1}(h:eX A Pu W qs){S:Γ3}(hS:S.Sublist (ay A.length W))(bJ:S≠[]):0<iN A qs (aw S):=by
 have mf:=u9 h.pr.ok;refine qr h.pr.len.symm (λa ha=>(mf.am a ha).1) (λg hg=>?_) (λz=>bJ ?_)
 .obtain⟨x,hx,rfl⟩:=Zd.mp hg;exact(h.pos (hS.subset hx)).2
 .exact Xp.mp z
def yl:FM:=λO xs P _=>∃(A:Γ3) (Pu:Δ1) (W:Γ1) (qs:Δ1) (Pd:Γ3),xs=[.im (dm A Pu W),.im (.tuple (qs.map qD)),.im (aS Pd),.im .none]/\eX A Pu W qs/\Pd.Sublist (ay A.length W)/\∀O',cD O O'->P (.im (.list ((fL A Pu qs W A.length Pd).map qD))) O'
abbrev Ro:Δ2:=["market","prices","paid","without","best","money","purses","others","payers","found","goods","who","there","buyer"]
def JZ:MS:=(aE (aL (au pz bP (ae (af 0) (ae (af 1) ai))) (aP 4))
 (aE (aL (au p9 bP (ae (af 0) (ae (af 1) ai))) (vq 2 (bG (aP 5) (bG (aP 6) fJ))))
 (aE (aL (bQ 1 [2] (bw (au jS bP (ae (af 0) ai))) (aP 0) (cw (aR (vF true) (af 0) (af 1))) (af 0)) (aP 7))
 (aE (aL (au rg bP (ae (af 4) (ae (af 2) ai))) (aP 8))
 (aE (aL (nz ai) (aP 9))
 (aE (eJ (bw (Kq (au l7 bP (ae (af 7) ai)) (v4 (mC (.int 1))) v7)) (aP 10) (aE (aL (au rg bP (ae (af 4) (ae (af 10) ai))) (aP 11))
 (ga (cw (aR FW (af 3) (af 11))) (aE (aL (eG tF (ae (bQ 1 [8,6] (bw (af 11)) (aP 0) (cw (aR (vF true) (af 0) (af 1))) (aR bW (af 2) (af 0))) ai)) (aP 12))
 (iY (nA (af 9) (ae (au ph bP (ae (af 12) (ae (eG tF (ae (bQ 1 [5] (bw (af 10)) (aP 0) fb (aR bW (af 1) (af 0))) ai)) ai))) ai)))) dh)))
 (rd 9 (aE (eJ (jQ (ae (eG gc (ae (af 4) ai)) ai)) (aP 13) (ga (pY (cw (aR (vF true) (af 13) (af 8))) (cw (aR (xI true) (aR bW (af 4) (af 13)) (lF ai)))) (aL (aR jT (af 9) (au yc bP (ae (aR bW (aR bW (af 0) (mC (.int 2))) (af 13)) (ae (af 1) (ae (af 2) (ae (aR bW (aR bW (af 4) (af 13)) (mC (.int 0))) ai)))))) (aP 9)) dh))
 (cW (af 9))))))))))
def lS (ns:Γ3):aB ns=[]::(aB ns).drop 1:=by
 obtain⟨m,hm⟩:∃m,2 ^ ns.length=m+1:=⟨2 ^ ns.length-1,by have:0<2 ^ ns.length:=Nat.pow_pos (by decide);omega⟩;have z:cY ns 0=[]:=by
  unfold cY;rw[Qg.mpr λk _=>by rw[Nat.zero_div];decide];rfl
 unfold aB;rw[hm,List.range_succ_eq_map,Zs,z];rfl
def OK {ns S:Γ3}(nd:ns.Nodup)(h:S∈(aB ns).drop 1):S.Sublist ns/\S≠[]:=by
 refine⟨cv.mp (List.mem_of_mem_drop h),λe=>?_⟩;have e0:=lS ns;have:=jr nd;rw[e0,Yl] at this;exact this.1 (e▸h)
def G3:∀O xs Pq QX,yl O xs Pq QX->JZ { nx:=λ_ O'=>Pq (.im .none) O',rt:=Pq } (bf Ro xs) O:=by
 intro O xs Pq QX h;obtain⟨A,Pu,W,qs,Pd,rfl,rp,vL,h⟩:=h;have pr:=rp.pr;have hq:=rp.bd;have mf:=u9 pr.ok;have hl:=pr.len;have g6:=mf.g6;have n6:=mf.n6;have n1:=mf.n1;have wl:=mf.wl;refine⟨A,Pu,W,qs,rfl,by omega,by omega,λi hi=>by rw[mf.wr i hi,hl],λi j hi hj=>mf.w0 i j hi (by omega),hq,λO1 BZ=>?_⟩;refine⟨⟨A,Pu,W,qs,rfl,hl,g6,n6,mf.am,λz hz=>(mf.pu z hz).2,pr.bd,λc ms ps hc im ip Ur=>?_⟩⟩;have mm:(d7 A qs).length=qs.length:=by unfold d7;simp
 have iml:ms.length=A.length:=by rw[im.1,mm,hl]
 have Uq:ps.length=Pu.length:=ip.1;refine⟨rfl,⟨A,Pu,W,rfl,g6,by omega,by omega,mf.wr,?_⟩⟩;conv=>whnf
 refine EV (λj=>!Pd.contains ((cm A.length W).getD j 0)) (λj=>.int ((cm A.length W).getD j 0)) (by rw[Za,Za];have:=sP A.length W;exact Zk this (by omega)) (λj x Z hx hZ=>?_) (λj x Z hx _ hZ=>?_) ?_
 .obtain⟨hj,rfl⟩:=sV hx;exact⟨Pd,rfl,hZ⟩
 .obtain⟨hj,rfl⟩:=sV hx;exact hZ
 rw[Za,Za,lh (cm A.length W) (λx=>!Pd.contains x)];have hR:(aT A.length W Pd).Sublist (ay A.length W):=Yn;have KS:(aT A.length W Pd).Nodup:=(BD A.length W).sublist hR;have KU:(aT A.length W Pd).length<=6:=by have:=hR.length_le;have:=sP A.length W;omega
 have KN:(ah W qs).length<=6:=by rw[qU];omega
 have Fx:∀k,k<(ah W qs).length->((ah W qs).getD k []).length<=6:=λk hk=>by rw[qU] at hk;exact Zk (jq hk (mf.wr k hk)) g6
 have tk:∀S:Γ3,S.Sublist (ay A.length W)->ef (ah W qs) S=cO W qs (aw S):=λS hS=>jx λx hx=>(sM (hS.subset hx)).1
 refine⟨ah W qs,Pd,.im (aS Pd),rfl,.inr rfl,KN,Fx,λO2 IX=>⟨⟨j9,?_⟩⟩⟩;rw[tk Pd vL];have O0:cD O O2:=zQ BZ IX;have hkO:O.length<=O2.length:=by obtain⟨t,rfl⟩:=O0;simp
 refine⟨_,rfl,KU,λO3 KY=>?_⟩;have L0:cutD ((aB (aT A.length W Pd)).map aD) (some (1:Int)) none=((aB (aT A.length W Pd)).drop 1).map aD:=by
  have:=jJ (xs:=(aB (aT A.length W Pd)).map aD) (r:=(1:Int)) (by omega) (by rw[Za,BR];have:0<2 ^ (aT A.length W Pd).length:=Nat.pow_pos (by decide);omega);rw[this,Qy];rfl
 show FB _ _ _ _ ((cutD ((aB (aT A.length W Pd)).map aD) (some (1:Int)) none).map AV.im) O3;rw[L0];have nP:(cO W qs (aw Pd)).map (λk:Nat=>PyData.int (k:Int))=((cO W qs (aw Pd)).map λk:Nat=>(k:Int)).map .int:=by rw[Zj];rfl
 have cP:∀b:Nat,((cO W qs (aw Pd)).map λk:Nat=>(k:Int)).contains (b:Int)=(cO W qs (aw Pd)).contains b:=λb=>by
  rw[Ya,Zz,Zz,Zd];constructor
  .rintro⟨x,hx,e⟩;rw[show b=x by omega];exact hx
  .intro hx;exact⟨b,hx,rfl⟩
 generalize Wo:(aB (aT A.length W Pd)).drop 1=L;have hL:∀S∈L,S.Sublist (aT A.length W Pd)/\S≠[]:=λS hS=>OK KS (Wo▸hS)
 have hLl:L.length<=64:=by
  rw[<- Wo,Xk,BR];have:2 ^ (aT A.length W Pd).length<=64:=Y1 (n:=2) (by decide) KU;omega
 refine⟨λi sl O'=>cD O O'/\O'[O2.length]?=some (some ((L.take i).map λS=>AV.im (qD (pq A Pu qs W Pd S))))/\∃pH T9 T8,sl=[Φ9 (dm A Pu W),Φ9 (.tuple (qs.map qD)),Φ9 (aS Pd),Φ9 .none,Φ9 (.list ((ah W qs).map aD)),Φ9 (aD ms),Φ9 (aD ps),Φ9 (aD (aT A.length W Pd)),Φ9 (vY (cO W qs (aw Pd))),some (.own O2.length),pH,T9,T8,none],⟨zQ O0 (zQ (cD.app ⟨[],by simp⟩ _) KY),zm KY (ky _ _),_,_,_,rfl⟩,?_,?_⟩
 .rintro i z sl O' hz ⟨hG,hk,pH,T9,T8,rfl⟩;obtain⟨hi,rfl⟩:=oD hz;have hS:L.getD i []∈L:=by rw[ak (Zc hi)];exact Zg _
  have sY:L.take (i+1)=L.take i++[L.getD i []]:=by rw[Qd,Zc hi,ak (Zc hi)];rfl
  generalize Wm:L.getD i []=S at hS sY;obtain⟨QR,KR⟩:=hL S hS;have hs:=QR.trans hR;have Kw:S.length<=6:=by have:=QR.length_le;omega
  refine⟨ah W qs,S,.im (aD S),rfl,.inl rfl,KN,Fx,λO4 Pa=>?_⟩;rw[tk S hs];have hT:∀b∈cO W qs (aw S),b<ps.length:=λb hb=>by have:=IL hb;omega
  have hTl:(cO W qs (aw S)).length<=6:=by have:=PY W qs (aw S);omega
  have nS:(cO W qs (aw S)).map (λk:Nat=>PyData.int (k:Int))=((cO W qs (aw S)).map λk:Nat=>(k:Int)).map .int:=by rw[Zj];rfl
  refine⟨⟨_,nS,⟨λ_=>?_,λz=>(by cases z)⟩⟩⟩;conv=>whnf
  refine EV (λj=>!(cO W qs (aw Pd)).contains ((cO W qs (aw S)).getD j 0)) (λj=>.int (ps.getD ((cO W qs (aw S)).getD j 0) 0)) (by rw[Za,Za];omega) (λj x Z hx hZ=>?_) (λj x Z hx _ hZ=>?_) ?_
  .obtain⟨hj,rfl,hm⟩:=mX hx;refine⟨_,nP,?_⟩;show Z (!_) _;rw[cP];exact hZ
  .obtain⟨hj,rfl,hm⟩:=mX hx;exact⟨_,vt (hT _ hm),hZ⟩
  rw[Za,Za,oG (cO W qs (aw S)) 0 (λb=>!(cO W qs (aw Pd)).contains b) (λb=>PyData.int (ps.getD b 0))];have e5:((cO W qs (aw S)).filter λb=>!(cO W qs (aw Pd)).contains b).map (λb=>PyData.int (ps.getD b 0))=((loose W qs Pd S).map λb=>ps.getD b 0).map .int:=by rw[Zj];rfl
  refine⟨_,e5,?_⟩;show Go _ _ [Φ9 (dm A Pu W),Φ9 (.tuple (qs.map qD)),Φ9 (aS Pd),Φ9 .none,Φ9 (.list ((ah W qs).map aD)),Φ9 (aD ms),Φ9 (aD ps),Φ9 (aD (aT A.length W Pd)),Φ9 (vY (cO W qs (aw Pd))),some (.own O2.length),Φ9 (aD S),Φ9 (vY (cO W qs (aw S))),Φ9 (.int (dL ps (loose W qs Pd S))),none] O4;have OW:=zm Pa hk;refine⟨⟨⟨_,OW⟩,?_⟩⟩;conv=>whnf
  refine u8 (λj=>.int (ms.getD (S.getD j 0).toNat 0)) (by rw[Za,Za];omega) (λj x Z hx hZ=>?_) ?_
  .obtain⟨hj,rfl⟩:=sV hx;have hw:=sM (hs.subset (show S.getD j 0∈S by rw[ak (Zc hj)];exact Zg _));exact⟨_,vT hw.1 (by omega),hZ⟩
  rw[Za,Za,kO S 0 (λx=>ms.getD x.toNat 0)];have es:(S.map λx=>ms.getD x.toNat 0).sum=dL ms (aw S):=by unfold dL aw;rw[Zj];rfl
  have mS:=rp.money hs KR;have um:(((dL ms (aw S):Int)):Rat)=(c:Rat)*iN A qs (aw S):=IJ im λi hi=>by
   obtain⟨x,hx,rfl⟩:=Zd.mp hi;have:=(sM (hs.subset hx)).2.1;omega
  have tm:(((dL ps (loose W qs Pd S):Int)):Rat)=(c:Rat)*ci Pu (loose W qs Pd S):=IJ ip λi hi=>by
   have:=IL (Zn.mp hi).1;omega
  have u0:0<dL ms (aw S):=by
   have:(0:Rat)<((dL ms (aw S):Int):Rat):=by rw[um];exact Y6 (Yo.mpr hc) mS
   exact Yo.mp this
  have ub:Bd 8000 (dL ms (aw S)):=by
   refine(DD (k:=4000) (λx hx=>?_) ?_).mono (by decide)
   .obtain⟨i,hi,rfl⟩:=Zd.mp hx;obtain⟨y,hy,rfl⟩:=Zd.mp hi;have:=(sM (hs.subset hy)).2.1;exact Ur _ (by rw[ak (Zc (show y.toNat<ms.length by omega))];exact Zg _)
   .unfold aw;rw[Za,Za];exact Kw
  refine⟨_,rfl,?_⟩;rw[es];refine⟨⟨u0,ub⟩,_,OW,by rw[Za,Ym,sz];omega,(zQ hG Pa).set hkO _,?_,_,_,_,rfl⟩;rw[MX OW,sY,Zr,qz hc tm um mS];rfl
 .rintro sl O' ⟨hG,hk,pH,T9,T8,rfl⟩;rw[Za,Za,Yd] at hk;refine⟨⟨O2.length,(L.map (pq A Pu qs W Pd)).map qD,rfl,by rw[hk,Zj,Zj];rfl,?_⟩⟩;refine⟨⟨by rw[Za];omega,by rw[Za];omega⟩,λi sl pS=>cD O pS/\∃U7,sl=[Φ9 (dm A Pu W),Φ9 (.tuple (qs.map qD)),Φ9 (aS Pd),Φ9 .none,Φ9 (.list ((ah W qs).map aD)),Φ9 (aD ms),Φ9 (aD ps),Φ9 (aD (aT A.length W Pd)),Φ9 (vY (cO W qs (aw Pd))),Φ9 (.list ((L.map (pq A Pu qs W Pd)++dg W qs Pd i).map qD)),pH,T9,T8,U7],⟨hG.set hkO _,none,?_⟩,?_,?_⟩
  .rw[show dg W qs Pd 0=[] from rfl,Ye];rfl
  .rintro i z sl pS hz ⟨QS,U7,rfl⟩;obtain⟨hi,rfl⟩:=sK hz;rw[Za,Zo] at hi;have jW:i<W.length:=by rw[qU] at hi;exact hi
   have Ct:dg W qs Pd (i+1)=dg W qs Pd i++(if !(cO W qs (aw Pd)).contains i&&!((ah W qs).getD i []).isEmpty then dY (W.getD i []) qs Pd (((ah W qs).getD i []).getD 0 0).toNat else []):=by
    unfold dg;rw[Ys,List.flatMap_append,List.flatMap_singleton]
   refine⟨_,nP,?_⟩;show((!_)=true->_)/\((!_)=false->_);rw[cP];refine⟨λh1=>⟨_,kP hi,j9,m6 _,?_⟩,λh1=>⟨λz=>(by cases z),λ_=>⟨QS,Φ9 (.int (i:Int)),?_⟩⟩⟩
   .show((!tj (.list (((ah W qs).getD i []).map .int)) (.list []))=true->_)/\((!tj (.list (((ah W qs).getD i []).map .int)) (.list []))=false->_);rw[mZ,X5];refine⟨λh2=>?_,λh2=>⟨QS,Φ9 (.int (i:Int)),?_⟩⟩
    .have bJ:0<((ah W qs).getD i []).length:=by
      cases hb:(ah W qs).getD i [] with
      |nil=>rw[hb] at h2;cases h2
      |cons _ _=>simp
     have vJ:((ah W qs).getD i []).getD 0 0∈(ah W qs).getD i []:=by rw[ak (Zc bJ)];exact Zg _
     have UD:=vJ;rw[BA jW] at UD;obtain⟨b,hb,eb⟩:=Zd.mp UD;rw[<- BA jW] at eb;have Ca:=Zn.mp hb;have Ap:=Zy.mp Ca.1;rw[mf.wr i jW] at Ap;have hbw:(W.getD i []).getD b 0≠0:=by
      have:=Ca.2;unfold cZ at this;rw[Z0] at this;exact of_decide_eq_true this.1
     have VH:=mf.w0 i b jW Ap;have LY:has W b=true:=by
      unfold has;rw[Zv];exact⟨W.getD i [],by rw[ak (Zc jW)];exact Zg _,decide_eq_true (by unfold eI at VH;omega)⟩
     have Fo:=pr.pL.pos b (by omega) LY;refine⟨_,rfl,_,bo (iM (f:=aS) (d:=[]) jW),_,kP hi,_,vt bJ,W.getD i [],qs,Pd,b,by rw[<- eb],by rw[mf.wr i jW,hl],by omega,λj hj=>?_,pr.bd,Fo,?_,λg hg=>rp.pos (vL.subset hg),λO5 Wp=>?_⟩
     .exact mf.w0 i j jW (by rw[<- mf.wr i jW];exact hj)
     .have:=vL.length_le;have:=sP A.length W;omega
     .have et:(((ah W qs).getD i []).getD 0 0).toNat=b:=by rw[<- eb,Zo]
      have ml:∀m:Nat,m<=6->(dg W qs Pd m).length<=6*m:=λm=>by
       induction m with
       |zero=>intro _;exact Ze _
       |succ m ih =>
        intro hm;have e:dg W qs Pd (m+1)=dg W qs Pd m++(if !(cO W qs (aw Pd)).contains m&&!((ah W qs).getD m []).isEmpty then dY (W.getD m []) qs Pd (((ah W qs).getD m []).getD 0 0).toNat else []):=by
         unfold dg;rw[Ys,List.flatMap_append,List.flatMap_singleton]
        rw[e,Z5];have:=ih (by omega);have h5:(if (!(cO W qs (aw Pd)).contains m&&!((ah W qs).getD m []).isEmpty)=true then dY (W.getD m []) qs Pd (((ah W qs).getD m []).getD 0 0).toNat else []).length<=6:=by
         split
         .unfold dY;rw[Za];have h6:=Yk (λg:Int=>decide (0<(W.getD m []).getD g.toNat 0)) Pd;have:=vL.length_le;have:=sP A.length W;omega
         .exact Z9 _
        omega
      have m1:=ml i (by omega);have tl:(dY (W.getD i []) qs Pd b).length<=6:=by
       unfold dY;rw[Za];have h6:=Yk (λg:Int=>decide (0<(W.getD i []).getD g.toNat 0)) Pd;have:=vL.length_le;have:=sP A.length W;omega
      refine⟨by rw[Za,Za,Z5,Za,sz];omega,zQ QS Wp,Φ9 (.int (i:Int)),?_⟩;rw[Ct,h1,Xg,if_pos h2,et,<- Xt,Zr (l₂:=dY (W.getD i []) qs Pd b)];rfl
    .rw[Ct,h2,Qf,if_neg (by decide),Ye];rfl
   .rw[Ct,h1,Bool.false_and,if_neg (by decide),Ye];rfl
  .rintro sl pS ⟨QS,U7,rfl⟩;rw[sL,Za,Zo,qU];have:=h pS QS;unfold fL at this;rw[Wo] at this;exact⟨this⟩
def sm {A:Γ3}{Pu:Δ1}{W:Γ1}{qs:Δ1}(mf:FE A Pu W)(pL:sT W qs)(hl:qs.length=A.length){i b:Nat}(jW:i<W.length)(hb:b∈bE (W.getD i []) qs):b<A.length/\0<qs.getD b 0:=by
 have Ca:=Zn.mp hb;have Ap:=Zy.mp Ca.1;rw[mf.wr i jW] at Ap;have hbw:(W.getD i []).getD b 0≠0:=by
  have:=Ca.2;unfold cZ at this;rw[Z0] at this;exact of_decide_eq_true this.1
 have VH:=mf.w0 i b jW Ap;have LY:has W b=true:=by
  unfold has;rw[Zv];exact⟨W.getD i [],by rw[ak (Zc jW)];exact Zg _,decide_eq_true (by unfold eI at VH;omega)⟩
 exact⟨Ap,pL.pos b (by omega) LY⟩
def io (qs:Δ1)(Pd:Γ3)(f:Rat):Δ1:=(List.range qs.length).map λg:Nat=>if Pd.contains (g:Int)=true then qs.getD g 0 else qs.getD g 0*f
def EA (a b:Γ3):tj (.list (a.map .int)) (.list (b.map .int))=decide (a=b):=by
 rw[oh,PyData.eqv];induction a generalizing b with
 |nil=>cases b with
  |nil=>simp[PyData.eqvAll]
  |cons y b=>simp[PyData.eqvAll]
 |cons x a ih =>
  cases b with
  |nil=>simp[PyData.eqvAll]
  |cons y b =>
   rw[Zs,Zs,PyData.eqvAll,ih b];simp only[PyData.eqv,List.cons.injEq];by_cases h1:x=y<;>by_cases h2:a=b<;>simp[h1,h2]
def DT {g:Nat}{W:Γ1}{Pd:Γ3}(h:Pd.Sublist (ay g W)):aT g W Pd=[]↔Pd=ay g W:=by
 unfold aT;rw[Qg];constructor
 .intro z;refine GJ h (List.Sublist.refl _) (BD g W) λx=>⟨λhx=>h.subset hx,λhx=>?_⟩
  have:=z x hx;simpa using this
 .intro e x hx;rw[e];simpa using hx
def ox {A:Γ3}{Pu:Δ1}{W:Γ1}{qs:Δ1}{Pd:Γ3}(rp:eX A Pu W qs)(vL:Pd.Sublist (ay A.length W)):∀z∈fL A Pu qs W A.length Pd,Rb 3000 z:=by
 have mf:=u9 rp.pr.ok;have hl:=rp.pr.len;have hR:(aT A.length W Pd).Sublist (ay A.length W):=Yn;have KS:(aT A.length W Pd).Nodup:=(BD A.length W).sublist hR;intro z hz;unfold fL at hz;rcases Zt.mp hz with hz |hz
 .obtain⟨S,hS,rfl⟩:=Zd.mp hz;obtain⟨h1,h2⟩:=OK KS hS;have hs:=h1.trans hR;have mS:=rp.money hs h2;have b1:Rb 127 (ci Pu (loose W qs Pd S)):=by
   unfold ci;have h3:=rN (k:=20) (qs:=(loose W qs Pd S).map λi=>Pu.getD i 0) λq hq=>by
    obtain⟨i,hi,rfl⟩:=Zd.mp hq;exact yK (by decide) (λq hq=>(mf.pu q hq).2) i
   refine h3.mono ?_;rw[Za];have h4:=Yk (λi=>!(cO W qs (aw Pd)).contains i) (cO W qs (aw S));have h5:=PY W qs (aw S);have:=mf.wl;have:=mf.n6;unfold loose;omega
  have b2:Rb 1801 (iN A qs (aw S)):=by
   unfold iN;have h3:=rN (k:=299) (qs:=(aw S).map λg=>(d7 A qs).getD g 0) λq hq=>by
    obtain⟨i,hi,rfl⟩:=Zd.mp hq;refine yK (by decide) (λq hq=>?_) i;obtain⟨j,hj,rfl⟩:=Zd.mp hq;have hj:=Zy.mp hj;have ha:=mf.am (A.getD j 0) (by rw[ak (Zc (show j<A.length by omega))];exact Zg _);exact ft (j:=293) (k:=6) (rp.pr.bd _ (by rw[ak (Zc hj)];exact Zg _)) (u7 (by unfold Bd;omega) (by decide))
   refine h3.mono ?_;unfold aw;rw[Za,Za];have:=hs.length_le;have:=sP A.length W;have:=mf.g6;omega
  unfold pq;exact(jz b1 b2 (λz=>by rw[z] at mS;exact absurd mS (by decide))).mono (by decide)
 .unfold dg at hz;obtain⟨i,hi,hz⟩:=List.mem_flatMap.mp hz;have jW:=Zy.mp hi;split at hz
  .rename_i hc;rw[Z0] at hc;have bJ:0<((ah W qs).getD i []).length:=by
    cases hb:(ah W qs).getD i [] with
    |nil=>rw[hb] at hc;exact absurd hc.2 (by decide)
    |cons _ _=>simp
   have vJ:((ah W qs).getD i []).getD 0 0∈(ah W qs).getD i []:=by rw[ak (Zc bJ)];exact Zg _
   rw[BA jW] at vJ;obtain⟨b,hb,eb⟩:=Zd.mp vJ;rw[<- BA jW] at eb;rw[<- eb,Zo] at hz;unfold dY at hz;obtain⟨x,hx,rfl⟩:=Zd.mp hz;obtain⟨OM,IP⟩:=Zn.mp hx;have IP:=of_decide_eq_true IP;obtain⟨p0,p1,p2⟩:=rp.pos (vL.subset OM);obtain⟨kB,mr⟩:=sm mf rp.pr.pL hl jW hb;have r1:=gL (row:=W.getD i []) (mf.w0 i b jW kB) (rp.pr.bd _ (by rw[ak (Zc (show b<qs.length by omega))];exact Zg _)) mr;have r2:=gL (row:=W.getD i []) (mf.w0 i x.toNat jW (by omega)) (rp.pr.bd _ (by rw[ak (Zc p1)];exact Zg _)) p2;refine(jz r1 r2 λz=>?_).mono (by decide);have:0<bK (W.getD i []) qs x.toNat:=by unfold bK;exact BN (Yo.mpr IP) p2
   rw[z] at this;exact absurd this (by decide)
  .cases hz
def Ix {A:Γ3}{Pu:Δ1}{W:Γ1}{qs:Δ1}{Pd:Γ3}(rp:eX A Pu W qs)(o9:vw A Pu qs W A.length)(pd:fQ A Pu qs W A.length Pd):∀z∈fL A Pu qs W A.length Pd,1<z:=by
 have mf:=u9 rp.pr.ok;have hl:=rp.pr.len;have hR:(aT A.length W Pd).Sublist (ay A.length W):=Yn;have KS:(aT A.length W Pd).Nodup:=(BD A.length W).sublist hR;intro z hz;unfold fL at hz;rcases Zt.mp hz with hz |hz
 .obtain⟨S,hS,rfl⟩:=Zd.mp hz;obtain⟨h1,h2⟩:=OK KS hS;exact Nr (λq hq=>Z7 (mf.pu q hq).1) o9 pd h1 h2 (rp.money (h1.trans hR) h2)
 .unfold dg at hz;obtain⟨i,hi,hz⟩:=List.mem_flatMap.mp hz;have jW:=Zy.mp hi;split at hz
  .rename_i hc;rw[Z0] at hc;have bJ:0<((ah W qs).getD i []).length:=by
    cases hb:(ah W qs).getD i [] with
    |nil=>rw[hb] at hc;exact absurd hc.2 (by decide)
    |cons _ _=>simp
   have vJ:((ah W qs).getD i []).getD 0 0∈(ah W qs).getD i []:=by rw[ak (Zc bJ)];exact Zg _
   rw[BA jW] at vJ;obtain⟨b,hb,eb⟩:=Zd.mp vJ;rw[<- BA jW] at eb;rw[<- eb,Zo] at hz;unfold dY at hz;obtain⟨x,hx,rfl⟩:=Zd.mp hz;obtain⟨OM,IP⟩:=Zn.mp hx;have IP:=of_decide_eq_true IP;obtain⟨p0,p1,p2⟩:=rp.pos (pd.sub.subset OM);obtain⟨kB,mr⟩:=sm mf rp.pr.pL hl jW hb;have hxl:x.toNat<(W.getD i []).length:=by rw[mf.wr i jW];omega
   obtain⟨le,eqv⟩:=Br (qs:=qs) (row:=W.getD i []) (b:=b) (o:=x.toNat) (λy hy=>by
    obtain⟨k,hk,rfl⟩:=Yt hy;have:=mf.w0 i k jW (by rw[<- mf.wr i jW];exact hk);unfold eI at this;rw[ak (Zc hk)] at this;exact this.1) hb hxl IP mr p2
   have np:x.toNat∉bE (W.getD i []) qs:=λz=>by
    have h1:=hc.1;rw[iA jW,BA jW] at h1;have:cz (aw Pd) ((bE (W.getD i []) qs).map λg:Nat=>(g:Int))=true:=by
     rw[gR,Zv];exact⟨x.toNat,Zd.mpr ⟨x,OM,rfl⟩,Zz.mpr (Zd.mpr ⟨_,z,rfl⟩)⟩
    rw[this] at h1;cases h1
   have rp':0<bK (W.getD i []) qs x.toNat:=by unfold bK;exact BN (Yo.mpr IP) p2
   rw[Rat.lt_div_iff rp',Rat.one_mul];by_cases e:bK (W.getD i []) qs x.toNat=bK (W.getD i []) qs b
   .exact absurd (eqv e) np
   .grind
  .cases hz
def ye:FM:=λO xs P _=>∃(A:Γ3) (Pu:Δ1) (W:Γ1) (qs:Δ1),xs=[.im (dm A Pu W),.im (.tuple (qs.map qD))]/\eX A Pu W qs/\vw A Pu qs W A.length/\(∀Pd,fQ A Pu qs W A.length Pd->aT A.length W Pd=[]->∀O',cD O O'->P (.im .none) O') /\
 ∀Pd f,fQ A Pu qs W A.length Pd->aT A.length W Pd≠[]->gJ (fL A Pu qs W A.length Pd) f->∀O',cD O O'->P (.im (.tuple [aS Pd,qD f,.tuple ((io qs Pd f).map qD)])) O'
abbrev NRs:Δ2:=["market","prices","paid","factor","one","made","good"]
def JR:MS:=(aE (aL (au yj bP (ae (af 0) (ae (af 1) (ae (mC .none) ai)))) (aP 2))
 (aE (ga (cw (aR (xI false) (eG B7 (ae (af 2) ai)) (au jS bP (ae (af 0) ai)))) (cW (mC .none)) dh)
 (aE (aL (mC .none) (aP 3))
 (aE (eJ (bw (au yl bP (ae (af 0) (ae (af 1) (ae (af 2) (ae (mC .none) ai)))))) (aP 4) (ga (LR (cw (aR (iw false) (af 3) (mC .none))) (cw (au l8 bP (ae (af 4) (ae (af 3) ai))))) (aL (af 4) (aP 3)) dh))
 (aE (aL (nz ai) (aP 5))
 (aE (eJ (jQ (ae (eG gc (ae (af 1) ai)) ai)) (aP 6) (iY (nA (af 5) (ae (aR bW (lF (ae (au (f2 iT) bP (ae (aR bW (af 1) (af 6)) (ae (af 3) ai))) (ae (aR bW (af 1) (af 6)) ai))) (eG Gb (ae (aR (vF false) (af 6) (af 2)) ai))) ai))))
 (rd 5 (cW (fZ (ae (af 2) (ae (af 3) (ae (eG lE (ae (af 5) ai)) ai))))))))))))
def zr {A:Γ3}{Pu:Δ1}{W:Γ1}{qs:Δ1}{g:Nat}{Pd:Γ3}(h:aT g W Pd≠[]):fL A Pu qs W g Pd≠[]:=by
 unfold fL;intro z;have z1:=(List.append_eq_nil_iff.mp z).1;have z2:=Xp.mp z1;have z3:((aB (aT g W Pd)).drop 1).length=0:=by rw[z2];rfl
 rw[Xk,BR] at z3;have:2 ^ 1<=2 ^ (aT g W Pd).length:=Y1 (by decide) (Xn.mpr h);omega
def Kt {α : Type}{L:List α}{i:Nat}(d:α)(hi:i<L.length):L.take (i+1)=L.take i++[L.getD i d]:=by rw[Qd,Zc hi,ak (Zc hi)];rfl
def GW:∀O xs Pq QX,ye O xs Pq QX->JR { nx:=λ_ O'=>Pq (.im .none) O',rt:=Pq } (bf NRs xs) O:=by
 intro O xs Pq QX h;obtain⟨A,Pu,W,qs,rfl,rp,o9,hn,hf⟩:=h;have pr:=rp.pr;have mf:=u9 pr.ok;have hl:=pr.len;have g6:=mf.g6;have n6:=mf.n6;have n1:=mf.n1;have wl:=mf.wl;refine⟨A,Pu,W,qs,rfl,pr,rp.bd,o9,λPd pd O1 BZ=>?_⟩;refine⟨A,Pu,W,rfl,g6,by omega,by omega,mf.wr,?_,?_⟩
 .refine Zk (Nat.min_le_left _ _) ?_;rw[PyData.depth,sf];decide
 show(tj (.list (Pd.map .int)) (.list ((cm A.length W).map .int))=true->_)/\(tj (.list (Pd.map .int)) (.list ((cm A.length W).map .int))=false->_);rw[EA];have hre:=DT pd.sub;refine⟨λe=>hn Pd pd (hre.mpr (of_decide_eq_true e)) O1 BZ,λe=>?_⟩;have QD:aT A.length W Pd≠[]:=λz=>of_decide_eq_false e (hre.mp z)
 refine⟨?_⟩;refine⟨A,Pu,W,qs,Pd,rfl,rp,pd.sub,λO2 IX=>?_⟩;have IU:=zr (A:=A) (Pu:=Pu) (qs:=qs) QD;have KJ:=ox rp pd.sub;have hf':=hf Pd;generalize fL A Pu qs W A.length Pd=L at IU KJ hf' ⊢;have O0:=zQ BZ IX;conv=>whnf
 refine⟨λi sl O'=>O'=O2/\∃(x3:AV) (y4:Option AV),sl=[Φ9 (dm A Pu W),Φ9 (.tuple (qs.map qD)),Φ9 (aS Pd),some x3,y4,none,none]/\((i=0/\x3=.im .none)\/∃f,gJ (L.take i) f/\x3=.im (qD f)),⟨rfl,_,_,rfl,.inl ⟨rfl,rfl⟩⟩,?_,?_⟩
 .rintro i x sl O' hx ⟨rfl,x3,y4,rfl,hs⟩;have hi:i<L.length:=by have:=(Zf.mp hx).1;simpa using this
  rw[Zh,iM (f:=qD) (d:=(0:Rat)) hi] at hx;cases Option.some.inj hx;have hm:L.getD i 0∈L:=by rw[ak (Zc hi)];exact Zg _
  have ht:=Kt (0:Rat) hi;rcases hs with ⟨rfl,rfl⟩ |⟨f,Fv,rfl⟩
  .refine⟨λ_=>⟨λ_=>⟨rfl,_,_,rfl,.inr ⟨L.getD 0 0,?_,rfl⟩⟩,λz=>(by cases z)⟩,λz=>(by cases z)⟩;rw[ht];exact⟨by simp,λz hz=>by rw[List.take_zero,List.nil_append,Z2] at hz;rw[hz];exact Yf⟩
  .have OY:f∈L:=Jf Fv.1;refine⟨λz=>(by cases z),λ_=>⟨L.getD i 0,f,rfl,⟨KJ _ hm,KJ _ OY⟩,λhc=>⟨rfl,_,_,rfl,.inr ⟨L.getD i 0,?_,rfl⟩⟩,λhc=>⟨rfl,_,_,rfl,.inr ⟨f,?_,rfl⟩⟩⟩⟩
   .have hc:L.getD i 0<f:=of_decide_eq_true hc;rw[ht];refine⟨by simp,λz hz=>?_⟩;rcases Zt.mp hz with hz |hz
    .exact Yi (Z7 hc) (Fv.2 z hz)
    .rw[Z2.mp hz];exact Yf
   .have hc:¬ L.getD i 0<f:=of_decide_eq_false hc;rw[ht];refine⟨Xw _ Fv.1,λz hz=>?_⟩;rcases Zt.mp hz with hz |hz
    .exact Fv.2 z hz
    .rw[Z2.mp hz];exact Yh.mp hc
 .rintro sl O' ⟨rfl,x3,y4,rfl,hs⟩;rw[Za,Za,Yd] at hs;obtain⟨f,iS,rfl⟩:∃f,gJ L f/\x3=.im (qD f):=by
   rcases hs with ⟨z,_⟩ |z
   .exact absurd (Qw.mp z) IU
   .exact z
  have oZ:=KJ f iS.1;refine⟨⟨j9,?_⟩⟩;refine⟨⟨by rw[Za];omega,by rw[Za];omega⟩,λi sl pS=>pS=O'++[some ((List.range i).map λg:Nat=>AV.im (qD (if Pd.contains (g:Int)=true then qs.getD g 0 else qs.getD g 0*f)))]/\∃y6,sl=[Φ9 (dm A Pu W),Φ9 (.tuple (qs.map qD)),Φ9 (aS Pd),Φ9 (qD f),y4,some (.own O'.length),y6],⟨rfl,_,rfl⟩,?_,?_⟩
  .rintro i x sl pS hx ⟨rfl,y6,rfl⟩;obtain⟨hi,rfl⟩:=sK hx;rw[Za,Zo] at hi;have qa:=bo (iM (f:=qD) (d:=(0:Rat)) hi);have qb:=pr.bd (qs.getD i 0) (by rw[ak (Zc hi)];exact Zg _);refine⟨⟨_,ky _ _⟩,_,qa,qs.getD i 0,f,rfl,⟨qb.mono (by decide),oZ⟩,_,qa,gE,Pd,rfl,_,C8 _,_,ky _ _,by rw[Za,Yy,sz];omega,?_,_,rfl⟩;rw[vA,Ys,Zr];rfl
  .rintro sl pS ⟨rfl,y6,rfl⟩;rw[sL,Za,Zo];refine⟨⟨O'.length,(io qs Pd f).map qD,rfl,by rw[ky];unfold io;rw[Zj,Zj];rfl,?_⟩⟩;rw[vA];refine⟨R8,hf' f pd QD iS _ (O0.app _)⟩
def FX (gs:List Nat):PyData:=.tuple (gs.map λg:Nat=>.int (g:Int))
end MI
namespace MI
open PySem L2 KG EX KM RZ
section
variable {n:Nat}{ix:List Nat}{C:MT}{M:ME}{sl:iO}{Q:AV->aU->Prop}{items:List AV}{O:aU}
def xv (c:Nat->Bool)(f a b:Nat->PyData)(hl:items.length<=1000000)(hi:∀(i:Nat) (x:AV),items[i]?=some x->x=.im (.tuple [a i,b i]))
  (hc:∀(i:Nat) (Z:Bool->aU->Prop),i<items.length->Z (c i) O->C (((fE n ix sl).set 0 (some (.im (a i)))).set 1 (some (.im (b i)))) O Z)
  (hs:∀(i:Nat) (Z:AV->aU->Prop),i<items.length->c i=true->Z (.im (f i)) O->M (((fE n ix sl).set 0 (some (.im (a i)))).set 1 (some (.im (b i)))) O Z)
  (hd:Q (.im (.list (((List.range items.length).filter c).map f))) O):CB n ix (vq 2 (bG (aP 0) (bG (aP 1) fJ))) C M sl Q items O:=by
 refine⟨hl,λi ds O'=>O'=O/\ds=((List.range i).filter c).map f,⟨rfl,rfl⟩,?_,λds O' ⟨e,h1⟩=>by rw[e,h1];exact hd⟩;rintro i x ds O' hx ⟨rfl,rfl⟩;have cT:=(Zf.mp hx).1;rw[hi i x hx];exact⟨rfl,hc i _ cT ⟨λh=>hs i _ cT h ⟨rfl,by rw[gW,h,if_pos rfl]⟩,λh=>⟨rfl,by rw[gW,h,if_neg (by decide),Ye]⟩⟩⟩
end
section
variable {K:Θ1}
def wY {c y:Rat}(hc:0<c)(hy:y<=0):c*y<=0:=by
 have h:=X2 hy (Z7 hc)
 rwa [Xo] at h
def Hf {A:Γ3}{Pu:Δ1}{W:Γ1}{qs:Δ1}(pr:oj A Pu W qs):eS A.length W (.tuple (qs.map qD))=true:=Cq.mpr ⟨pr.len,pr.pL⟩
def CF:FM:=λO xs P _=>match xs with
 |[.im (.int t),.im (.int u)]=>P (.im (.int (Int.gcd t u))) O
 |_=>False
def Ig:qW K nR CF:=λw O H vs xs P PX Q E r a hf q x=>by
 unfold CF at hf;split at hf
 .obtain⟨v,u,rfl,h1,h2⟩:=wf a;rw[j6 h1,j6 h2];exact⟨_,_,rfl,q _ _ O w H hf (cq.refl _ _ _) r (.int _)⟩
 .exact hf.elim
def L6:FM:=λO xs P _=>match xs with
 |[.im (.int t),.im (.int u)]=>(u≠0/\Bd 8000 u)/\P (.im (qD (Rat.divInt t u))) O
 |_=>False
def TK {Nn:Addr}:qW K (B5 Nn) L6:=λw O H vs xs P PX Q E r a hf q x=>by
 unfold L6 at hf;split at hf
 .obtain⟨v,u,rfl,h1,h2⟩:=wf a;rw[j6 h1,j6 h2];refine⟨_,_,rfl,hf.1.2,λz=>absurd z hf.1.1,λ_ p hp=>?_⟩;obtain⟨r1,e1,t1⟩:=fX r hp (aQ.cons (.int (Rat.divInt _ _).num) (.cons (.int ((Rat.divInt _ _).den:Int)) .nil));exact q _ _ O w _ hf.2 e1 r1 t1
 .exact hf.elim
def Cp {w:Wd}{O:aU}{H:Hp}{v:V}{a:Rat}(h:cV (G w O H) v (qD a)):∃p,v=.ref p/\H p=some (qO a):=by
 obtain⟨p,xs,rfl,h1,t⟩:=eU h;cases t with |cons t1 t2=>cases t2 with |cons t2 t3=>cases t3;cases t1;cases t2;exact⟨p,rfl,h1⟩
def Tj {w:Wd}{O:aU}{H:Hp}(r:aJ K w O H){p:Addr}(hp:H p=none)(a:Rat):aJ K w O (aF H p (qO a))/\cq w O H w O (aF H p (qO a))/\cV (G w O (aF H p (qO a))) (.ref p) (qD a):=fX r hp (aQ.cons (.int a.num) (.cons (.int (a.den:Int)) .nil))
def Hc {w:Wd}{O:aU}{H H':Hp}(r:aJ K w O H)(s:az H H'){p:Addr}{a:Rat}(hp:H' p=some (qO a)):aJ K w O H'/\cq w O H w O H'/\cV (G w O H') (.ref p) (qD a):=gU r s hp (aQ.cons (.int a.num) (.cons (.int (a.den:Int)) .nil))
def Ss:FM:=λO xs P _=>∃a b,xs=[.im (qD a),.im (qD b)]/\(Rb 3000 a/\Rb 3000 b/\b≠0)/\P (.im (qD (a / b))) O
def HY {Nn:Addr}:qW K (rn Nn) Ss:=λw O H vs xs P PX Q E r a hf q x=>by
 obtain⟨a1,b1,rfl,⟨h1,h2,h3⟩,hf⟩:=hf;obtain⟨v,u,rfl,g1,g2⟩:=wf a;obtain⟨p1,rfl,e1⟩:=Cp g1;obtain⟨p2,rfl,e2⟩:=Cp g2;refine⟨p1,p2,a1,b1,rfl,e1,e2,h1,h2,λz=>absurd z h3,λ_ p hp=>?_⟩;obtain⟨r1,WB,t1⟩:=Tj r hp (a1 / b1);exact q _ _ O w _ hf WB r1 t1
def CD:FM:=λO xs P _=>∃(n:Int) (y:Rat),xs=[.im (.int n),.im (qD y)]/\(Rb 300 y/\0<y/\0<=n/\n<=100)/\P (.im (qD ((n:Rat) / y))) O
def za:qW K rk CD:=λw O H vs xs P PX Q E r a hf q x=>by
 obtain⟨n,y,rfl,⟨h1,h2,h3,h4⟩,hf⟩:=hf;obtain⟨v,u,rfl,g1,g2⟩:=wf a;obtain⟨p2,rfl,e2⟩:=Cp g2;rw[j6 g1];refine⟨n,p2,y,rfl,e2,h1,h2,h3,h4,λt H' s ht=>?_⟩;obtain⟨r1,WB,t1⟩:=Hc r s ht;exact q _ _ O w _ hf WB r1 t1
def Ej (M:Γ1):Bx (.tuple (M.map aS))=true:=fw yV M
def Dy:FM:=λO xs P _=>∃(A:Γ3) (Pu:Δ1) (W:Γ1) (qs:Δ1),xs=[.im (dm A Pu W),.im (.tuple (qs.map qD))]/\oj A Pu W qs/\P (.im (.tuple ((ah W qs).map aS))) O
def Er {Pr:Addr}:qW K (rq Pr) Dy:=λw O H vs xs P PX Q E r a hf q x=>by
 obtain⟨A,Pu,W,qs,rfl,pr,hf⟩:=hf;obtain⟨v1,v2,rfl,a1,a2⟩:=wf a;obtain⟨p,pa,pp,pw,xa,xp,xw,rfl,mk,la,lp⟩:=RO 0 a1 pr.ok;have inj:∀Bw:Δ1,PyData.tuple (qs.map qD)=.tuple (Bw.map qD)->qs=Bw:=λBw h=>by
  have h1:qS (qs.map qD)=qS (Bw.map qD):=by injection h with h;rw[h]
  rwa [lT,lT] at h1
 refine⟨0,p,pa,pp,pw,xa,xp,xw,_,_,_,v2,.tuple (qs.map qD),rfl,⟨mk,Vd 0 a2 (Dh qs),λBw h z hz=>?_⟩,λhn=>?_,λBw h hl hp t Ua H' s ht hr=>?_⟩
 .rw[<- inj Bw h] at hz;exact(pr.bd z hz).mono (by decide)
 .exfalso;rw[PV,la] at hn;rw[Hf pr] at hn;cases hn
 .have e:=inj Bw h;subst e;rw[PV] at hr;obtain⟨r1,e1,_⟩:=r.aA s;have tr:gZ 0 H' (.ref t) (.tuple ((ah W qs).map aS)):=.tup ht (C3 hr);exact q _ _ O w H' hf e1 r1 (Δ r1 tr (Ej _))
def fPG:FM:=λO xs P _=>∃(A:Γ3) (Pu:Δ1) (W:Γ1) (qs:Δ1),xs=[.im (dm A Pu W),.im (.tuple (qs.map qD))]/\oj A Pu W qs/\vw A Pu qs W A.length/\∀Pd,fQ A Pu qs W A.length Pd->P (.im (aS Pd)) O
def TD {De:Addr}:qW K (Lx De) fPG:=λw O H vs xs P PX Q E r a hf q x=>by
 obtain⟨A,Pu,W,qs,rfl,pr,o9,hf⟩:=hf;obtain⟨v1,v2,rfl,a1,a2⟩:=wf a;obtain⟨p,pa,pp,pw,xa,xp,xw,rfl,mk,la,lp⟩:=RO 0 a1 pr.ok;obtain⟨qp,yp,rfl,pa'⟩:=YZ 0 a2 pr.bd;refine⟨0,p,pa,pp,pw,qp,xa,xp,xw,yp,_,_,_,qs,rfl,⟨mk,pa',by rw[pr.len,la],by rw[PV];exact pr.pL⟩,λc aN ab=>?_⟩;rw[Ex,lT,PV,la] at ab;have mf:=u9 pr.ok;have hp:∀q∈Pu,0<=q:=λq hq=>Z7 (mf.pu q hq).1
 have le0:∀y∈aN,y.1<=0:=λy hy=>by
  have h1:=ab.2.2 y hy;have h2:=o9 y.2 (rD ab hy);have hc:(0:Rat)<(c:Rat):=Yo.mpr ab.1;have h3:((y.1:Int):Rat)<=0:=by rw[h1];exact wY hc h2
  exact_mod_cast h3
 refine⟨λ⟨y,hy,h0⟩=>?_,λ_ t row H' s eC h0 cu ht=>?_⟩
 .have:=le0 y hy;omega
 .have pd:=uo hp ab o9 eC h0 cu;obtain⟨r1,e1,t1⟩:=gU r s ht (L1 row.2);exact q _ _ O w H' (hf _ pd) e1 r1 t1
end
def any_map (ns:Γ3)(p:Int->Bool):(ns.map p).any id=ns.any p:=by rw[Xz];rfl
def Gj:FM:=λO xs P _=>∃(M:Γ1) (S:Γ3),xs=[.im (.tuple (M.map aS)),.im (aS S)]/\M.length<=6/\(∀i,i<M.length->(M.getD i []).length<=6)/\P (.im (FX (ef M S))) O
abbrev Mp:Δ2:=["best","goods"]
def RV:MS:=(cW (eG lE (ae (bQ 2 [1] (Vz (ae (af 0) ai)) (vq 2 (bG (aP 0) (bG (aP 1) fJ))) (cw (eG Cc (ae (bQ 1 [2] (bw (af 1)) (aP 0) fb (aR (vF false) (af 0) (af 1))) ai))) (af 0)) ai)))
def DH {S:Γ3}{r:Γ3}(hl:r.length<=6){sl:iO}{O:aU}{n:Nat}{ix:List Nat}{Z:AV->aU->Prop}{M:ME}(hM:∀(i:Nat) (x:AV) (Z:AV->aU->Prop),((r.map PyData.int).map AV.im)[i]?=some x->Z (.im (.bool (S.contains (r.getD i 0)))) O->M ((fE n ix sl).set 0 (some x)) O Z)(hZ:Z (.im (.list ((r.map λg=>S.contains g).map .bool))) O):CB n ix (aP 0) fb M sl Z ((r.map PyData.int).map AV.im) O:=by
 refine u8 (λj=>.bool (S.contains (r.getD j 0))) (by rw[Za,Za];omega) (λj x Z hx hZ=>hM j x Z hx hZ) ?_;rw[Za,Za];have e:(List.range r.length).map (λj=>PyData.bool (S.contains (r.getD j 0)))=(r.map λg=>S.contains g).map .bool:=by
  rw[Zj];exact zS (λg:Int=>PyData.bool (S.contains g)) r 0
 rw[e];exact hZ
def M7:∀O xs Pq QX,Gj O xs Pq QX->RV { nx:=λ_ O'=>Pq (.im .none) O',rt:=Pq } (bf Mp xs) O:=by
 intro O xs Pq QX h;obtain⟨M,S,rfl,n6,r6,h⟩:=h;refine xv (λi=>(M.getD i []).any λg=>S.contains g) (λi=>.int (i:Int)) (λi=>.int (i:Int)) (λi=>aS (M.getD i [])) (by unfold i0;simp;omega) (λi x hx=>?_) (λi Z hi hZ=>?_) (λi Z hi _ hZ=>hZ) ?_
 .obtain⟨hi,rfl⟩:=zt hx;rw[Za] at hi;rw[show(M.map aS).getD i .none=aS (M.getD i []) from sN hi]
 .have hi:i<M.length:=by unfold i0 at hi;simpa using hi
  conv=>whnf
  refine DH (S:=S) (r6 i hi) (λj x Z hx hZ=>?_) ⟨_,rfl,?_⟩
  .obtain⟨hj,rfl⟩:=sV hx;exact⟨S,rfl,hZ⟩
  .show Z (List.any _ id) O;rw[any_map];exact hZ
 .have e:(i0 (M.map aS)).length=M.length:=by unfold i0;simp
  rw[e];exact h
def ym:FM:=λO xs P _=>∃ns:Γ3,xs=[.im (aS ns)]/\ns.length<=6/\P (.im (.list ((aB ns).map aS))) O
abbrev MF:Δ2:=["members","sets","member"]
def J0:MS:=(aE (aL (lF (ae (fZ ai) ai)) (aP 1))
 (aE (eJ (bw (af 0)) (aP 2) (aL (aR jT (af 1) (bQ 1 [2] (bw (af 1)) (aP 0) fb (aR jT (af 0) (fZ (ae (af 1) ai))))) (aP 1)))
 (cW (af 1))))
def G4:∀O xs Pq QX,ym O xs Pq QX->J0 { nx:=λ_ O'=>Pq (.im .none) O',rt:=Pq } (bf MF xs) O:=by
 intro O xs Pq QX h;obtain⟨ns,rfl,n6,h⟩:=h;refine⟨j9,R9,?_⟩;refine⟨?_⟩;conv=>whnf
 refine⟨λi sl O'=>O'=O/\∃y,sl=[Φ9 (aS ns),Φ9 (.list ((aB (ns.take i)).map aS)),y],⟨rfl,_,rfl⟩,?_,?_⟩
 .rintro i x sl O' hx ⟨rfl,y,rfl⟩;obtain⟨hi,rfl⟩:=sV hx;have ht:=Kt (0:Int) hi;have hl:(aB (ns.take i)).length<=64:=by
   rw[BR];exact Y1 (n:=2) (by decide) (show(ns.take i).length<=6 by rw[Ym];omega)
  refine⟨?_⟩;conv=>whnf
  refine u8 (λj=>aS ((aB (ns.take i)).getD j []++[ns.getD i 0])) (by rw[Za,Za];omega) (λj x Z hx hZ=>?_) ?_
  .obtain⟨hj,rfl⟩:=il hx;have hm:=(AF (show(aB (ns.take i)).getD j []∈aB (ns.take i) by rw[ak (Zc hj)];exact Zg _)).2;have hm':((aB (ns.take i)).getD j []).length<=6:=by rw[Ym] at hm;omega
   refine⟨R9,by rw[Za,sz];show _+1<=_;omega,?_⟩;have e:aS ((aB (ns.take i)).getD j []++[ns.getD i 0])=.tuple (((aB (ns.take i)).getD j []).map .int++[.int (ns.getD i 0)]):=by unfold aS;rw[Zr];rfl
   rw[e] at hZ;exact hZ
  .rw[Za,Za,zS (λr:Γ3=>aS (r++[ns.getD i 0])) (aB (ns.take i)) []];refine⟨by rw[Za,Za,sz];omega,rfl,Φ9 (.int (ns.getD i 0)),?_⟩;rw[ht,iz,Zr,Zj];rfl
 .rintro sl O' ⟨rfl,y,rfl⟩;rw[Za,Za,Yd];exact⟨h⟩
def HN {s:List Nat}{i:Nat}{x:AV}(h:((s.map λg:Nat=>PyData.int (g:Int)).map AV.im)[i]?=some x):i<s.length/\x=.im (.int ((s.getD i 0:Nat):Int))/\s.getD i 0∈s:=mX h
def og:FM:=λO xs P _=>∃(cs:Γ3) (s:List Nat),xs=[.im (aD cs),.im (FX s)]/\s.length<=6/\(∀i∈s,i<cs.length)/\P (.im (.int (dL cs s))) O
abbrev MD:Δ2:=["coins","some"]
def Dp:MS:=(cW (eG tF (ae (bQ 1 [0] (bw (af 1)) (aP 0) fb (aR bW (af 1) (af 0))) ai)))
def DX:∀O xs Pq QX,og O xs Pq QX->Dp { nx:=λ_ O'=>Pq (.im .none) O',rt:=Pq } (bf MD xs) O:=by
 intro O xs Pq QX h;obtain⟨cs,s,rfl,s6,hs,h⟩:=h;conv=>whnf
 refine u8 (λj=>.int (cs.getD (s.getD j 0) 0)) (by rw[Za,Za];omega) (λj x Z hx hZ=>?_) ?_
 .obtain⟨hj,rfl,hm⟩:=HN hx;exact⟨_,vt (hs _ hm),hZ⟩
 .rw[Za,Za,kO s 0 (λb=>cs.getD b 0)];exact⟨_,rfl,h⟩
def Gm:FM:=λO xs P _=>∃(A:Γ3) (Pu:Δ1) (W:Γ1) (qs:Δ1),xs=[.im (dm A Pu W),.im (.tuple (qs.map qD))]/\qs.length=A.length/\A.length<=6/\(∀a∈A,1<=a/\a<=60)/\(∀z∈qs,Rb 293 z)/\P (.im (.list ((d7 A qs).map qD))) O
abbrev Mx:Δ2:=Ψ8
def RY:MS:=(cW (bQ 2 [] (Vy (ae (aR bW (af 0) (mC (.int 0))) (ae (af 1) ai))) (vq 2 (bG (aP 0) (bG (aP 1) fJ))) fb (au (f2 iT) bP (ae (fZ (ae (af 0) (ae (mC (.int 1)) ai))) (ae (af 1) ai)))))
def M9:∀O xs Pq QX,Gm O xs Pq QX->RY { nx:=λ_ O'=>Pq (.im .none) O',rt:=Pq } (bf Mx xs) O:=by
 intro O xs Pq QX h;obtain⟨A,Pu,W,qs,rfl,hl,g6,hA,hq,h⟩:=h;refine⟨_,rfl,by rw[Za,Za];omega,?_⟩;refine qF (λj=>qD (((A.getD j 0:Int):Rat)*qs.getD j 0)) (λj=>.int (A.getD j 0)) (λj=>qD (qs.getD j 0)) (by rw[mO,Za];omega) (λi x hx=>?_) (λi Z hi hZ=>?_) ?_
 .obtain⟨hi,rfl⟩:=CL hx;rw[Za] at hi;rw[show(A.map PyData.int).getD i .none=.int (A.getD i 0) from sN hi,show(qs.map qD).getD i .none=qD (qs.getD i 0) from sN (by omega)]
 .rw[mO,Za] at hi;have ha:=hA (A.getD i 0) (by rw[ak (Zc hi)];exact Zg _);have hb:=hq (qs.getD i 0) (by rw[ak (Zc (show i<qs.length by omega))];exact Zg _);exact⟨gE,((A.getD i 0:Int):Rat),qs.getD i 0,rfl,⟨(u7 (k:=6) (by unfold Bd;omega) (by decide)).mono (by decide),hb.mono (by decide)⟩,hZ⟩
 .rw[mO,Za];have e:(List.range A.length).map (λj=>qD (((A.getD j 0:Int):Rat)*qs.getD j 0))=(d7 A qs).map qD:=by
   unfold d7;rw[Zj,hl];exact Y2 λj _=>by show qD _=qD _;rw[Rat.mul_comm]
  rw[e];exact h
def Gk:FM:=λO xs P _=>∃ls:Δ1,xs=[.im (.list (ls.map qD))]/\ls.length<=12/\(∀z∈ls,Rb 300 z)/\∀(c:Int) (ms:Γ3),0<c->dk c ms ls->(∀m∈ms,Bd 4000 m)->P (.im (aD ms)) O
abbrev Mv:Δ2:=["parts","bottom","part"]
def RX:MS:=(aE (aL (mC (.int 1)) (aP 1))
 (aE (eJ (bw (af 0)) (aP 2) (aL (aR rc (aR Gw (af 1) (au CF bP (ae (af 1) (ae (aR bW (af 2) (mC (.int 1))) ai)))) (aR bW (af 2) (mC (.int 1)))) (aP 1)))
 (cW (bQ 1 [1] (bw (af 0)) (aP 0) fb (aR rc (aR bW (af 0) (mC (.int 0))) (aR Gw (af 1) (aR bW (af 0) (mC (.int 1)))))))))
def M8:∀O xs Pq QX,Gk O xs Pq QX->RX { nx:=λ_ O'=>Pq (.im .none) O',rt:=Pq } (bf Mv xs) O:=by
 intro O xs Pq QX h;obtain⟨ls,rfl,ll,lb,gy⟩:=h;refine⟨?_⟩;conv=>whnf
 have PR:∀{j:Nat}{x:AV},((ls.map qD).map AV.im)[j]?=some x->j<ls.length/\x=.im (qD (ls.getD j 0))/\Rb 300 (ls.getD j 0):=λ{j x} hx=>by
  have hj:j<ls.length:=by have:=(Zf.mp hx).1;simpa using this
  rw[Zh,iM (f:=qD) (d:=0) hj] at hx;exact⟨hj,(Option.some.inj hx).symm,lb _ (by rw[ak (Zc hj)];exact Zg _)⟩
 refine⟨λi sl O'=>O'=O/\∃(dU:Int) (y4:Option AV),sl=[Φ9 (.list (ls.map qD)),Φ9 (.int dU),y4]/\0<dU/\Bd (300*i+1) dU/\∀j,j<i->((ls.getD j 0).den:Int)∣dU,⟨rfl,1,none,rfl,by decide,by unfold Bd;decide,λj hj=>absurd hj (by omega)⟩,?_,?_⟩
 .rintro i x sl O' hx ⟨rfl,dU,y4,rfl,b0,bb,bd⟩;obtain⟨hi,rfl,hb⟩:=PR hx;have dp:(0:Int)<((ls.getD i 0).den:Int):=by have:=(ls.getD i 0).den_pos;omega
  have gp:(0:Int)<(Int.gcd dU ((ls.getD i 0).den:Int):Int):=by have:=Q7 dU (show((ls.getD i 0).den:Int)≠0 by omega);omega
  have g1:(Int.gcd dU ((ls.getD i 0).den:Int):Int)∣dU:=Q8 ..;have g2:(Int.gcd dU ((ls.getD i 0).den:Int):Int)∣((ls.getD i 0).den:Int):=Qa ..;generalize V4:(Int.gcd dU ((ls.getD i 0).den:Int):Int)=gg at gp g1 g2;have gb:Bd 8000 gg:=by
   refine(hb.2.mono (show 300<=8000 by decide)).le ?_;have:=Int.le_of_dvd dp g2;omega
  obtain⟨k,hk⟩:=g1;have k0:0<k:=by
   rcases Qb 0 k with z |z
   .exact z
   .have:gg*k<=0:=Int.mul_nonpos_of_nonneg_of_nonpos (by omega) z;omega
  have ek:dU / gg=k:=by rw[hk,Jg _ (by omega)]
  have kb:Bd (300*i+1) k:=bb.le (by
   have:k<=gg*k:=by
    have:=Int.mul_le_mul_of_nonneg_right (show 1<=gg by omega) (show 0<=k by omega)
    rwa [Int.one_mul] at this
   omega)
  refine⟨_,rfl,⟨by rw[V4];exact gp,by rw[V4];exact gb⟩,_,rfl,?_⟩;dsimp only;rw[V4,ek];refine⟨⟨kb.mono (by omega),hb.2.mono (by decide)⟩,rfl,_,_,rfl,Y4 k0 dp,(kb.mul hb.2).mono (by omega),λj hj=>?_⟩;rcases Yg j i with y |y
  .have h1:=bd j y;obtain⟨m,hm⟩:=g2;have:k*((ls.getD i 0).den:Int)=dU*m:=by rw[hm,hk];grind
   rw[this];exact Int.dvd_trans h1 (Int.dvd_mul_right _ _)
  .obtain rfl:j=i:=by omega
   exact Int.dvd_mul_left _ _
 .rintro sl O' ⟨rfl,dU,y4,rfl,b0,bb,bd⟩;rw[Za,Za] at bb bd;have I0:∀j,j<ls.length->Bd (300*ls.length+1) (dU / ((ls.getD j 0).den:Int)):=λj hj=>by
   have dp:(0:Int)<((ls.getD j 0).den:Int):=by have:=(ls.getD j 0).den_pos;omega
   refine bb.le ?_;have h1:=Qr (show 0<=dU by omega) (show(0:Int)<=((ls.getD j 0).den:Int) by omega);have h2:=Qq ((ls.getD j 0).den:Int) (show 0<=dU by omega);omega
  refine⟨?_⟩;conv=>whnf
  refine u8 (λj=>.int ((ls.getD j 0).num*(dU / ((ls.getD j 0).den:Int)))) (by rw[Za,Za];omega) (λj x Z hx hZ=>?_) ?_
  .obtain⟨hj,rfl,hb⟩:=PR hx;have dp:(0:Int)<((ls.getD j 0).den:Int):=by have:=(ls.getD j 0).den_pos;omega
   exact⟨_,rfl,_,rfl,⟨dp,hb.2.mono (by decide)⟩,⟨hb.1.mono (by decide),(I0 j hj).mono (by omega)⟩,hZ⟩
  rw[Za,Za,kO ls 0 (λq:Rat=>q.num*(dU / (q.den:Int)))];refine gy dU _ b0 ⟨by simp,λj hj=>?_⟩ λm hm=>?_
  .rw[show(ls.map λq:Rat=>q.num*(dU / (q.den:Int))).getD j 0=(ls.getD j 0).num*(dU / ((ls.getD j 0).den:Int)) from sN hj];have bj:=bd j hj;generalize ls.getD j 0=q at bj ⊢;obtain⟨k,hk⟩:=bj;have dp:(q.den:Int)≠0:=by have:=q.den_pos;omega
   rw[hk,Jg _ dp,Y5,Y5];have e:q=((q.num:Int):Rat) / ((q.den:Int):Rat):=by rw[<- X0];exact(Xd q).symm
   have dq:((q.den:Int):Rat)≠0:=λz=>dp (by exact_mod_cast z)
   have e2:q*((q.den:Int):Rat)=((q.num:Int):Rat):=by
    conv=>lhs;rw[e]
    grind
   rw[<- e2]
   grind
  .obtain⟨q,Ky,rfl⟩:=Zd.mp hm;obtain⟨j,hj,rfl⟩:=Yt Ky;have hb:=lb _ Ky;have:=I0 j hj;rw[ak (Zc hj)] at this;exact(hb.1.mul this).mono (by omega)
def Gv:FM:=λO xs P _=>∃(A:Γ3) (Pu:Δ1) (W:Γ1) (qs:Δ1),xs=[.im (dm A Pu W),.im (.tuple (qs.map qD))]/\qs.length=A.length/\A.length<=6/\Pu.length<=6/\(∀a∈A,1<=a/\a<=60)/\(∀z∈Pu,Rb 20 z)/\(∀z∈qs,Rb 293 z)/\∀(c:Int) (ms ps:Γ3),0<c->dk c ms (d7 A qs)->dk c ps Pu->(∀m∈ms,Bd 4000 m)->P (.im (.tuple [aD ms,aD ps])) O
abbrev SJ:Δ2:=["market","prices","coins","goods"]
def R5:MS:=(aE (aL (au Gk bP (ae (aR jT (au Gm bP (ae (af 0) (ae (af 1) ai))) (eG B7 (ae (aR bW (af 0) (mC (.int 1))) ai))) ai)) (aP 2))
 (aE (aL (eG gc (ae (aR bW (af 0) (mC (.int 0))) ai)) (aP 3))
 (cW (fZ (ae (Kq (af 2) v7 (v4 (af 3))) (ae (Kq (af 2) (v4 (af 3)) v7) ai))))))
def Nf:∀O xs Pq QX,Gv O xs Pq QX->R5 { nx:=λ_ O'=>Pq (.im .none) O',rt:=Pq } (bf SJ xs) O:=by
 intro O xs Pq QX h;obtain⟨A,Pu,W,qs,rfl,hl,g6,n6,hA,hP,hq,h⟩:=h;have UH:∀j,j<A.length->1<=A.getD j 0/\A.getD j 0<=60:=λj hj=>hA _ (by rw[ak (Zc hj)];exact Zg _)
 have ml:(d7 A qs).length=qs.length:=by unfold d7;simp
 refine⟨A,Pu,W,qs,rfl,hl,g6,hA,hq,_,rfl,by rw[Za,Za,ml,sz];omega,d7 A qs++Pu,by rw[Zr],by rw[Z5];omega,λz hz=>?_,λc ms hc hi VX=>?_⟩
 .rcases Zt.mp hz with hz |hz
  .obtain⟨j,hj,rfl⟩:=Zd.mp hz;have hj:=Zy.mp hj;have ha:=UH j (by omega);exact(ft (j:=293) (k:=6) (hq _ (by rw[ak (Zc hj)];exact Zg _)) (u7 (by unfold Bd;omega) (by decide))).mono (by decide)
  .exact(hP z hz).mono (by decide)
 obtain⟨i1,i2⟩:=kr hi;have BW:ms.length=qs.length+Pu.length:=by rw[hi.1,Z5,ml]
 rw[ml] at i1 i2;have fi:=h c _ _ hc i1 i2 λm hm=>VX m (Jf hm)
 refine⟨⟨_,rfl,⟨?_⟩⟩⟩;have VP:(((A.map PyData.int).length:Nat):Int)=((qs.length:Nat):Int):=by rw[Za,hl]
 have VN:=uC (xs:=ms.map PyData.int) (r:=qs.length) (by rw[Za];omega);have oZ:=jJ (xs:=ms.map PyData.int) (r:=((qs.length:Nat):Int)) (by omega) (by rw[Za];omega);rw[Zo] at oZ;show[PyData.list (cutD (ms.map .int) none (some (((A.map PyData.int).length:Nat):Int))),PyData.list (cutD (ms.map .int) (some (((A.map PyData.int).length:Nat):Int)) none)].length<=sizeLine/\Pq (.im (.tuple [PyData.list (cutD (ms.map .int) none (some (((A.map PyData.int).length:Nat):Int))),PyData.list (cutD (ms.map .int) (some (((A.map PyData.int).length:Nat):Int)) none)])) _;rw[VP,VN,oZ];refine⟨gE,?_⟩;unfold aD at fi;rw[List.map_take,Qy] at fi;exact fi
def bH (M:Γ1)(Pd:Γ3):Γ1:=M.map λr=>if (r.any λg=>Pd.contains g)=true then [] else r
def tZ:FM:=λO xs P _=>∃(M:Γ1) (Pd:Γ3),xs=[.im (.tuple (M.map aS)),.im (aS Pd)]/\M.length<=6/\(∀i,i<M.length->(M.getD i []).length<=6)/\P (.im (.tuple ((bH M Pd).map aS))) O
abbrev My:Δ2:=["best","paid"]
def JX:MS:=(cW (eG lE (ae (bQ 1 [1] (bw (af 0)) (aP 0) fb (VA (cw (eG Cc (ae (bQ 1 [1] (bw (af 0)) (aP 0) fb (aR (vF false) (af 0) (af 1))) ai))) (fZ ai) (af 0))) ai)))
def G1:∀O xs Pq QX,tZ O xs Pq QX->JX { nx:=λ_ O'=>Pq (.im .none) O',rt:=Pq } (bf My xs) O:=by
 intro O xs Pq QX h;obtain⟨M,Pd,rfl,n6,r6,h⟩:=h;conv=>whnf
 refine u8 (λi=>aS (if ((M.getD i []).any λg=>Pd.contains g)=true then [] else M.getD i [])) (by rw[Za,Za];omega) (λi x Z hx hZ=>?_) ?_
 .obtain⟨hi,rfl⟩:=il hx;conv=>whnf
  refine DH (S:=Pd) (r6 i hi) (λj x Z hx hZ=>?_) ⟨_,rfl,?_⟩
  .obtain⟨hj,rfl⟩:=sV hx;exact⟨Pd,rfl,hZ⟩
  .show(List.any _ id=true->_)/\(List.any _ id=false->_);rw[any_map];refine⟨λhc=>⟨j9,?_⟩,λhc=>?_⟩
   .rw[if_pos hc] at hZ;exact hZ
   .rw[if_neg (by rw[hc];decide)] at hZ;exact hZ
 .rw[Za,Za,zS (λr:Γ3=>aS (if (r.any λg=>Pd.contains g)=true then [] else r)) M []];unfold bH at h;rw[Zj] at h;exact h
def A0 {W:Γ1}{qs:Δ1}{Pd S:Γ3}(hP:∀x∈Pd,0<=x)(hS:∀x∈S,0<=x):ef (bH (ah W qs) Pd) S=loose W qs Pd S:=by
 unfold loose;rw[<- jx (W:=W) (qs:=qs) hS,<- jx (W:=W) (qs:=qs) hP];unfold ef;have hl:(bH (ah W qs) Pd).length=(ah W qs).length:=by unfold bH;simp
 rw[hl,Jb];refine Y7 λi hi=>?_
 have hi:=Zy.mp hi;have e:(bH (ah W qs) Pd).getD i []=if (((ah W qs).getD i []).any λg=>Pd.contains g)=true then [] else (ah W qs).getD i []:=by unfold bH;exact sN hi
 rw[e];have ec:((List.range (ah W qs).length).filter λi=>((ah W qs).getD i []).any λg=>Pd.contains g).contains i=((ah W qs).getD i []).any λg=>Pd.contains g:=by
  rw[Ya,Zz,Zn,Zy];exact⟨λh=>h.2,λh=>⟨hi,h⟩⟩
 rw[ec];cases ((ah W qs).getD i []).any λg=>Pd.contains g with
 |true=>rw[if_pos rfl];simp
 |false=>rw[if_neg (by decide)];simp
def yg:FM:=λO xs P _=>∃(qs:Δ1) (R:Γ3) (f:Rat),xs=[.im (.tuple (qs.map qD)),.im (aS R),.im (qD f)]/\qs.length<=6/\(∀z∈qs,Rb 3000 z)/\Rb 3000 f/\P (.im (.tuple (((List.range qs.length).map λg:Nat=>if R.contains (g:Int)=true then qs.getD g 0*f else qs.getD g 0).map qD))) O
abbrev Mr:Δ2:=["prices","rising","factor"]
def JT:MS:=(cW (eG lE (ae (bQ 2 [2,1] (Vz (ae (af 0) ai)) (vq 2 (bG (aP 0) (bG (aP 1) fJ))) fb (VA (cw (aR (vF false) (af 0) (af 3))) (au (f2 iT) bP (ae (af 1) (ae (af 2) ai))) (af 1))) ai)))
def GX:∀O xs Pq QX,yg O xs Pq QX->JT { nx:=λ_ O'=>Pq (.im .none) O',rt:=Pq } (bf Mr xs) O:=by
 intro O xs Pq QX h;obtain⟨qs,R,f,rfl,g6,hq,hf,h⟩:=h;have el:(i0 (qs.map qD)).length=qs.length:=by unfold i0;simp
 refine qF (λi=>qD (if R.contains ((i:Nat):Int)=true then qs.getD i 0*f else qs.getD i 0)) (λi=>.int (i:Int)) (λi=>qD (qs.getD i 0)) (by rw[el];omega) (λi x hx=>?_) (λi Z hi hZ=>?_) ?_
 .obtain⟨hi,rfl⟩:=zt hx;rw[Za] at hi;rw[show(qs.map qD).getD i .none=qD (qs.getD i 0) from sN hi]
 .rw[el] at hi;have hb:=hq (qs.getD i 0) (by rw[ak (Zc hi)];exact Zg _);refine⟨R,rfl,λhc=>⟨qs.getD i 0,f,rfl,⟨hb,hf⟩,?_⟩,λhc=>?_⟩
  .have hc:R.contains ((i:Nat):Int)=true:=hc;rw[if_pos hc] at hZ;exact hZ
  .have hc:R.contains ((i:Nat):Int)=false:=hc;rw[if_neg (by rw[hc];decide)] at hZ;exact hZ
 .rw[el];rw[Zj] at h;exact h
def rB:FM:=λO xs P _=>∃L:Δ1,xs=[.im (.list (L.map qD))]/\L≠[]/\(∀z∈L,Rb 3000 z)/\∀f,gJ L f->P (.im (qD f)) O
abbrev SG:Δ2:=["parts","found","part"]
def Dm:MS:=(aE (aL (aR bW (af 0) (mC (.int 0))) (aP 1))
 (aE (eJ (bw (af 0)) (aP 2) (ga (cw (au l8 bP (ae (af 2) (ae (af 1) ai)))) (aL (af 2) (aP 1)) dh))
 (cW (af 1))))
def DV:∀O xs Pq QX,rB O xs Pq QX->Dm { nx:=λ_ O'=>Pq (.im .none) O',rt:=Pq } (bf SG xs) O:=by
 intro O xs Pq QX h;obtain⟨L,rfl,bJ,hb,h⟩:=h;have h0:0<L.length:=Xn.mpr bJ;have hm:∀i,i<L.length->L.getD i 0∈L:=λi hi=>by rw[ak (Zc hi)];exact Zg _
 refine⟨_,bo (i:=0) (iM (f:=qD) (d:=(0:Rat)) h0),?_⟩;refine⟨?_⟩;conv=>whnf
 refine⟨λi sl O'=>O'=O/\∃(f:Rat) (y:Option AV),sl=[Φ9 (.list (L.map qD)),Φ9 (qD f),y]/\f∈L/\∀z∈L.take i,f<=z,⟨rfl,_,_,rfl,hm 0 h0,λz hz=>(by cases hz)⟩,?_,?_⟩
 .rintro i x sl O' hx ⟨rfl,f,y,rfl,f1,f2⟩;have hi:i<L.length:=by have:=(Zf.mp hx).1;simpa using this
  rw[Zh,iM (f:=qD) (d:=(0:Rat)) hi] at hx;cases Option.some.inj hx;have ht:=Kt (0:Rat) hi;refine⟨L.getD i 0,f,rfl,⟨hb _ (hm i hi),hb _ f1⟩,λhc=>⟨rfl,_,_,rfl,hm i hi,?_⟩,λhc=>⟨rfl,_,_,rfl,f1,?_⟩⟩
  .have hc:L.getD i 0<f:=of_decide_eq_true hc;rw[ht];intro z hz;rcases Zt.mp hz with hz |hz
   .exact Yi (Z7 hc) (f2 z hz)
   .rw[Z2.mp hz];exact Yf
  .have hc:¬ L.getD i 0<f:=of_decide_eq_false hc;rw[ht];intro z hz;rcases Zt.mp hz with hz |hz
   .exact f2 z hz
   .rw[Z2.mp hz];exact Yh.mp hc
 .rintro sl O' ⟨rfl,f,y,rfl,f1,f2⟩;rw[Za,Za,Yd] at f2;exact⟨h f ⟨f1,f2⟩⟩
def DS {S:Γ3}(h:∀x∈S,0<=x):aS S=FX (aw S):=by
 unfold aS FX aw;rw[Zj]
 congr 1
 exact Y2 λx hx=>by show PyData.int x=PyData.int ((x.toNat:Nat):Int);rw[Xa (h x hx)]
def GO {ns:Γ3}(nd:ns.Nodup):(aB ns).filter (λS=>!S.isEmpty)=(aB ns).drop 1:=by
 have e0:aB ns=[]::(aB ns).drop 1:=lS ns;have h:∀S∈(aB ns).drop 1,(!S.isEmpty)=true:=λS hS=>by
  have:=(OK nd hS).2;cases S with
  |nil=>exact absurd rfl this
  |cons _ _=>rfl
 conv=>lhs;rw[e0]
 rw[X3 (by decide),List.filter_eq_self.mpr h]
def yi:FM:=λO xs P _=>∃(A:Γ3) (Pu:Δ1) (W:Γ1) (qs:Δ1) (Pd:Γ3),xs=[.im (dm A Pu W),.im (.tuple (qs.map qD)),.im (.tuple ((bH (ah W qs) Pd).map aS)),.im (aS (aT A.length W Pd))]/\eX A Pu W qs/\Pd.Sublist (ay A.length W)/\P (.im (.list ((((aB (aT A.length W Pd)).drop 1).map (pq A Pu qs W Pd)).map qD))) O
abbrev Mt:Δ2:=["market","prices","loose","rising","money","purses"]
def JV:MS:=(aE (aL (au Gv bP (ae (af 0) (ae (af 1) ai))) (vq 2 (bG (aP 4) (bG (aP 5) fJ))))
 (cW (bQ 1 [2,4,5] (bw (au ym bP (ae (af 3) ai))) (aP 0) (Al (af 0)) (au L6 bP (ae (au og bP (ae (af 3) (ae (au Gj bP (ae (af 1) (ae (af 0) ai))) ai))) (ae (au og bP (ae (af 2) (ae (af 0) ai))) ai))))))
def GY:∀O xs Pq QX,yi O xs Pq QX->JV { nx:=λ_ O'=>Pq (.im .none) O',rt:=Pq } (bf Mt xs) O:=by
 intro O xs Pq QX h;obtain⟨A,Pu,W,qs,Pd,rfl,rp,vL,h⟩:=h;have pr:=rp.pr;have mf:=u9 pr.ok;have hl:=pr.len;have g6:=mf.g6;have n6:=mf.n6;have wl:=mf.wl;have hR:(aT A.length W Pd).Sublist (ay A.length W):=Yn;have KS:(aT A.length W Pd).Nodup:=(BD A.length W).sublist hR;have KU:(aT A.length W Pd).length<=6:=by have:=hR.length_le;have:=sP A.length W;omega
 refine⟨A,Pu,W,qs,rfl,hl,g6,n6,mf.am,λz hz=>(mf.pu z hz).2,pr.bd,λc ms ps hc im ip Ur=>?_⟩;have mm:(d7 A qs).length=qs.length:=by unfold d7;simp
 have iml:ms.length=A.length:=by rw[im.1,mm,hl]
 have Uq:ps.length=Pu.length:=ip.1;refine⟨rfl,⟨_,rfl,KU,?_⟩⟩;conv=>whnf
 have ahP:(aB (aT A.length W Pd)).length<=64:=by rw[BR];exact Y1 (n:=2) (by decide) KU
 refine EV (λj=>!((aB (aT A.length W Pd)).getD j []).isEmpty) (λj=>qD (pq A Pu qs W Pd ((aB (aT A.length W Pd)).getD j []))) (by rw[Za,Za];omega) (λj x Z hx hZ=>?_) (λj x Z hx mq hZ=>?_) ?_
 .obtain⟨hj,rfl⟩:=il hx;refine⟨rfl,?_⟩;show Z (!_) O;rw[X5];exact hZ
 .obtain⟨hj,rfl⟩:=il hx;have hS:(aB (aT A.length W Pd)).getD j []∈aB (aT A.length W Pd):=by rw[ak (Zc hj)];exact Zg _
  generalize (aB (aT A.length W Pd)).getD j []=S at hS hZ mq ⊢;have KR:S≠[]:=λz=>by rw[z] at mq;cases mq
  have QR:=cv.mp hS;have hs:=QR.trans hR;have Kw:S.length<=6:=by have:=QR.length_le;omega
  have Uu:∀x∈S,0<=x:=λx hx=>(sM (hs.subset hx)).1
  have Fq:∀x∈Pd,0<=x:=λx hx=>(sM (vL.subset hx)).1
  have lol:(bH (ah W qs) Pd).length=W.length:=by unfold bH;rw[Za,qU]
  have lor:∀i,i<(bH (ah W qs) Pd).length->((bH (ah W qs) Pd).getD i []).length<=6:=λi hi=>by
   have jW:i<W.length:=by omega
   have e:(bH (ah W qs) Pd).getD i []=if (((ah W qs).getD i []).any λg=>Pd.contains g)=true then [] else (ah W qs).getD i []:=by unfold bH;exact sN (by rw[qU];exact jW)
   rw[e];split
   .exact Z9 _
   .exact Zk (jq jW (mf.wr i jW)) g6
  have mS:=rp.money hs KR;have um:(((dL ms (aw S):Int)):Rat)=(c:Rat)*iN A qs (aw S):=IJ im λi hi=>by
   obtain⟨x,hx,rfl⟩:=Zd.mp hi;have:=(sM (hs.subset hx)).2.1;omega
  have tm:(((dL ps (loose W qs Pd S):Int)):Rat)=(c:Rat)*ci Pu (loose W qs Pd S):=IJ ip λi hi=>by
   have:=IL (Zn.mp hi).1;omega
  have u0:0<dL ms (aw S):=by
   have:(0:Rat)<((dL ms (aw S):Int):Rat):=by rw[um];exact Y6 (Yo.mpr hc) mS
   exact Yo.mp this
  have ub:Bd 8000 (dL ms (aw S)):=by
   refine(DD (k:=4000) (λx hx=>?_) ?_).mono (by decide)
   .obtain⟨i,hi,rfl⟩:=Zd.mp hx;obtain⟨y,hy,rfl⟩:=Zd.mp hi;have:=(sM (hs.subset hy)).2.1;exact Ur _ (by rw[ak (Zc (show y.toNat<ms.length by omega))];exact Zg _)
   .unfold aw;rw[Za,Za];exact Kw
  refine⟨bH (ah W qs) Pd,S,rfl,by omega,lor,ps,ef (bH (ah W qs) Pd) S,rfl,?_,?_,ms,aw S,?_,?_,?_,⟨by omega,ub⟩,?_⟩
  .unfold ef;refine Zk (Yk _ _) ?_;rw[Yy];omega
  .intro i hi;have:=Zy.mp (Zn.mp hi).1;omega
  .rw[<- DS Uu];rfl
  .unfold aw;rw[Za];exact Kw
  .intro i hi;obtain⟨x,hx,rfl⟩:=Zd.mp hi;have:=(sM (hs.subset hx)).2.1;omega
  .rw[A0 Fq Uu,qz hc tm um mS];exact hZ
 .rw[Za,Za,oG (aB (aT A.length W Pd)) [] (λS=>!S.isEmpty) (λS=>qD (pq A Pu qs W Pd S)),GO KS];rw[Zj] at h;exact h
def rA:FM:=λO xs P _=>∃(A:Γ3) (Pu:Δ1) (W:Γ1) (qs:Δ1) (Pd:Γ3),xs=[.im (dm A Pu W),.im (.tuple (qs.map qD)),.im (.tuple ((bH (ah W qs) Pd).map aS)),.im (aS Pd)]/\eX A Pu W qs/\Pd.Sublist (ay A.length W)/\P (.im (.list ((dg W qs Pd W.length).map qD))) O
abbrev Mw:Δ2:=["market","prices","loose","paid"]
def Dl:MS:=(cW (wy 3 [3,1] (Vy (ae (aR bW (af 0) (mC (.int 2))) (ae (af 2) ai))) (vq 2 (bG (aP 0) (bG (aP 1) fJ))) (Al (af 1)) (bw (af 3)) 2 (cw (aR Pb (aR bW (af 0) (af 2)) (mC (.int 0)))) (au Ss bP (ae (au CD bP (ae (aR bW (af 0) (aR bW (af 1) (mC (.int 0)))) (ae (aR bW (af 4) (aR bW (af 1) (mC (.int 0)))) ai))) (ae (au CD bP (ae (aR bW (af 0) (af 2)) (ae (aR bW (af 4) (af 2)) ai))) ai)))))
def lV {W:Γ1}{qs:Δ1}{Pd:Γ3}(i:Nat):dg W qs Pd (i+1)=dg W qs Pd i++(if !(cO W qs (aw Pd)).contains i&&!((ah W qs).getD i []).isEmpty then dY (W.getD i []) qs Pd (((ah W qs).getD i []).getD 0 0).toNat else []):=by
 unfold dg;rw[Ys,List.flatMap_append,List.flatMap_singleton]
def yE {row:Γ3}{qs:Δ1}{Pd:Γ3}{b:Nat}:(dY row qs Pd b).length<=Pd.length:=by
 unfold dY;rw[Za];exact Yk _ _
def ut {W:Γ1}{qs:Δ1}{Pd:Γ3}(h:Pd.length<=6)(m:Nat):(dg W qs Pd m).length<=6*m:=by
 induction m with
 |zero=>exact Ze _
 |succ m ih =>
  rw[lV,Z5];have h5:(if (!(cO W qs (aw Pd)).contains m&&!((ah W qs).getD m []).isEmpty)=true then dY (W.getD m []) qs Pd (((ah W qs).getD m []).getD 0 0).toNat else []).length<=6:=by
   split
   .exact Zk yE h
   .exact Z9 _
  omega
def DM {row:Γ3}{qs:Δ1}{Pd:Γ3}{b j:Nat}(hj:j<Pd.length):dY row qs (Pd.take (j+1)) b=dY row qs (Pd.take j) b++(if 0<row.getD (Pd.getD j 0).toNat 0 then [bK row qs b / bK row qs (Pd.getD j 0).toNat] else []):=by
 unfold dY;rw[Kt (0:Int) hj,Xb,Zr]
 congr 1
 split
 .rename_i hc;rw[Qk (p:=λg:Int=>decide (0<row.getD g.toNat 0)) (decide_eq_true hc)];rfl
 .rename_i hc;rw[X3 (p:=λg:Int=>decide (0<row.getD g.toNat 0)) (by show ¬ (decide _=true);rw[decide_eq_false hc];decide)];rfl
def DU:∀O xs Pq QX,rA O xs Pq QX->Dl { nx:=λ_ O'=>Pq (.im .none) O',rt:=Pq } (bf Mw xs) O:=by
 intro O xs Pq QX h;obtain⟨A,Pu,W,qs,Pd,rfl,rp,vL,h⟩:=h;have pr:=rp.pr;have mf:=u9 pr.ok;have hl:=pr.len;have g6:=mf.g6;have n6:=mf.n6;have wl:=mf.wl;have VR:Pd.length<=6:=by have:=vL.length_le;have:=sP A.length W;omega
 have lol:(bH (ah W qs) Pd).length=W.length:=by unfold bH;rw[Za,qU]
 have BG:∀j,j<qs.length->Rb 293 (qs.getD j 0):=λj hj=>pr.bd _ (by rw[ak (Zc hj)];exact Zg _)
 refine⟨_,rfl,by rw[Za,Za,lol];exact Ze _,?_⟩;refine⟨λi ds O'=>O'=O/\ds=(dg W qs Pd i).map qD,⟨rfl,rfl⟩,?_,?_⟩
 .rintro i x ds Oz hx ⟨rfl,rfl⟩;obtain⟨hi,rfl⟩:=CL hx;rw[Za] at hi;have e1:(W.map aS).getD i .none=aS (W.getD i []):=sN hi;have e2:((bH (ah W qs) Pd).map aS).getD i .none=aS ((bH (ah W qs) Pd).getD i []):=sN (by omega);rw[e1,e2];have elo:(bH (ah W qs) Pd).getD i []=if (((ah W qs).getD i []).any λg=>Pd.contains g)=true then [] else (ah W qs).getD i []:=by unfold bH;exact sN (by rw[qU];exact hi)
  have etk:(cO W qs (aw Pd)).contains i=((ah W qs).getD i []).any λg=>Pd.contains g:=by
   rw[iA hi];have:=jx (W:=W) (qs:=qs) (S:=Pd) λx hx=>(sM (vL.subset hx)).1
   have h2:(ef (ah W qs) Pd).contains i=(cO W qs (aw Pd)).contains i:=by rw[this]
   rw[iA hi] at h2;rw[<- h2,Ya,Zz];unfold ef;rw[Zn,Zy,qU];exact⟨λh=>h.2,λh=>⟨hi,h⟩⟩
  refine⟨rfl,rfl,?_⟩;show((!(((bH (ah W qs) Pd).getD i []).map PyData.int).isEmpty)=true->_)/\((!(((bH (ah W qs) Pd).getD i []).map PyData.int).isEmpty)=false->_);rw[X5];have ec:(!((bH (ah W qs) Pd).getD i []).isEmpty)=(!(cO W qs (aw Pd)).contains i&&!((ah W qs).getD i []).isEmpty):=by
   rw[elo,etk];cases ((ah W qs).getD i []).any λg=>Pd.contains g with
   |true=>rw[if_pos rfl];rfl
   |false=>rw[if_neg (by decide)];rfl
  refine⟨λhc=>?_,λhc=>⟨rfl,?_⟩⟩
  .rw[ec] at hc;have E5:=(Z0 _ _).mp hc;have hnt:(((ah W qs).getD i []).any λg=>Pd.contains g)=false:=by
    rw[<- etk];cases h5:(cO W qs (aw Pd)).contains i with
    |true=>rw[h5] at E5;exact absurd E5.1 (by decide)
    |false=>rfl
   rw[elo,hnt,if_neg (by decide)];have bJ:0<((ah W qs).getD i []).length:=by
    cases hb:(ah W qs).getD i [] with
    |nil=>rw[hb] at E5;exact absurd E5.2 (by decide)
    |cons _ _=>simp
   have vJ:((ah W qs).getD i []).getD 0 0∈(ah W qs).getD i []:=by rw[ak (Zc bJ)];exact Zg _
   rw[BA hi] at vJ;obtain⟨b,hb,eb⟩:=Zd.mp vJ;rw[<- BA hi] at eb;obtain⟨kB,mr⟩:=sm mf pr.pL hl hi hb;have ba:iF (((ah W qs).getD i []).map PyData.int) 0=some (.int (b:Int)):=by
    have:=vt bJ;rw[<- eb] at this;exact this
   have ahE:=mf.wr i hi;have wb:=mf.w0 i b hi kB;have msu:=lV (W:=W) (qs:=qs) (Pd:=Pd) i;rw[hc,if_pos rfl,<- eb,Zo] at msu;have qb:iF (qs.map qD) (b:Int)=some (qD (qs.getD b 0)):=bo (iM (f:=qD) (d:=(0:Rat)) (by omega));refine⟨rfl,λj es O'=>O'=Oz/\es=(dg W qs Pd i++dY (W.getD i []) qs (Pd.take j) b).map qD/\j<=6,⟨rfl,?_,by omega⟩,λj es O' ⟨_,h2,h3⟩=>?_,?_,?_⟩
   .show _=(dg W qs Pd i++[]).map qD;rw[Ye]
   .rw[h2,Za,Z5];have h4:=ut (W:=W) (qs:=qs) VR i;have h5:=yE (row:=W.getD i []) (qs:=qs) (Pd:=Pd.take j) (b:=b);rw[Ym] at h5;omega
   .rintro j y es O' hy ⟨rfl,rfl,hj6⟩;obtain⟨hj,rfl⟩:=sV hy;obtain⟨p0,p1,p2⟩:=rp.pos (vL.subset (show Pd.getD j 0∈Pd by rw[ak (Zc hj)];exact Zg _));have wg:=mf.w0 i (Pd.getD j 0).toNat hi (by omega);have ra:iF ((W.getD i []).map PyData.int) (Pd.getD j 0)=some (.int ((W.getD i []).getD (Pd.getD j 0).toNat 0)):=vT p0 (by omega);have qa:iF (qs.map qD) (Pd.getD j 0)=some (qD (qs.getD (Pd.getD j 0).toNat 0)):=by
     have:=bo (iM (f:=qD) (d:=(0:Rat)) p1)
     rwa [Xa p0] at this
    have ts:=DM (row:=W.getD i []) (qs:=qs) (b:=b) hj;refine⟨_,ra,λhg=>?_,λhg=>⟨rfl,?_,by omega⟩⟩
    .have hg:0<(W.getD i []).getD (Pd.getD j 0).toNat 0:=of_decide_eq_true hg;have r1:=gL (row:=W.getD i []) wb (BG b (by omega)) mr;have r2:=gL (row:=W.getD i []) wg (BG _ p1) p2;have RJ:0<bK (W.getD i []) qs (Pd.getD j 0).toNat:=by unfold bK;exact BN (Yo.mpr hg) p2
     refine⟨_,ba,_,vt (by omega),_,ba,_,qb,_,qs.getD b 0,rfl,⟨(BG b (by omega)).mono (by decide),mr,wb.1,wb.2⟩,_,ra,_,qa,_,qs.getD (Pd.getD j 0).toNat 0,rfl,⟨(BG _ p1).mono (by decide),p2,wg.1,wg.2⟩,bK (W.getD i []) qs b,bK (W.getD i []) qs (Pd.getD j 0).toNat,rfl,⟨r1.mono (by decide),r2.mono (by decide),λz=>by rw[z] at RJ;exact absurd RJ (by decide)⟩,rfl,?_,by omega⟩;rw[ts,if_pos hg,<- Xt,Zr (l₁:=dg W qs Pd i++dY (W.getD i []) qs (Pd.take j) b)];rfl
    .have hg:¬ 0<(W.getD i []).getD (Pd.getD j 0).toNat 0:=of_decide_eq_false hg;rw[ts,if_neg hg,Ye]
   .rintro es O' ⟨rfl,rfl,_⟩;rw[Za,Za,Yd];exact⟨rfl,by rw[msu]⟩
  .rw[ec] at hc;rw[lV,hc,if_neg (by decide),Ye]
 .rintro ds O' ⟨rfl,rfl⟩;rw[mO,Za];exact h
def yf:FM:=λO xs P _=>∃(A:Γ3) (Pu:Δ1) (W:Γ1) (qs:Δ1),xs=[.im (dm A Pu W),.im (.tuple (qs.map qD))]/\eX A Pu W qs/\vw A Pu qs W A.length/\(∀Pd,fQ A Pu qs W A.length Pd->aT A.length W Pd=[]->P (.im .none) O) /\
 ∀Pd f,fQ A Pu qs W A.length Pd->aT A.length W Pd≠[]->gJ (fL A Pu qs W A.length Pd) f->P (.im (.tuple [aS Pd,qD f,.tuple ((io qs Pd f).map qD)])) O
abbrev Mq:Δ2:=["market","prices","paid","rising","best","paying","meeting","factor"]
def JS:MS:=(aE (aL (au fPG bP (ae (af 0) (ae (af 1) ai))) (aP 2))
 (aE (aL (eG lE (ae (bQ 1 [2] (bw (au Gi bP (ae (af 0) ai))) (aP 0) (cw (aR (vF true) (af 0) (af 1))) (af 0)) ai)) (aP 3))
 (aE (ga (Ga (Al (af 3))) (cW (mC .none)) dh)
 (aE (aL (au Dy bP (ae (af 0) (ae (af 1) ai))) (aP 4))
 (aE (aL (au yi bP (ae (af 0) (ae (af 1) (ae (au tZ bP (ae (af 4) (ae (af 2) ai))) (ae (af 3) ai))))) (aP 5))
 (aE (aL (au rA bP (ae (af 0) (ae (af 1) (ae (au tZ bP (ae (af 4) (ae (af 2) ai))) (ae (af 2) ai))))) (aP 6))
 (aE (aL (au rB bP (ae (aR jT (af 5) (af 6)) ai)) (aP 7))
 (cW (fZ (ae (af 2) (ae (af 7) (ae (au yg bP (ae (af 1) (ae (af 3) (ae (af 7) ai)))) ai))))))))))))
def GV:∀O xs Pq QX,yf O xs Pq QX->JS { nx:=λ_ O'=>Pq (.im .none) O',rt:=Pq } (bf Mq xs) O:=by
 intro O xs Pq QX h;obtain⟨A,Pu,W,qs,rfl,rp,o9,hn,hf⟩:=h;have pr:=rp.pr;have mf:=u9 pr.ok;have hl:=pr.len;have g6:=mf.g6;have n6:=mf.n6;have n1:=mf.n1;have wl:=mf.wl;refine⟨A,Pu,W,qs,rfl,pr,o9,λPd pd=>?_⟩;refine⟨A,Pu,W,rfl,g6,by omega,mf.wr,?_⟩;conv=>whnf
 refine EV (λj=>!Pd.contains ((cm A.length W).getD j 0)) (λj=>.int ((cm A.length W).getD j 0)) (by rw[Za,Za];have:=sP A.length W;exact Zk this (by omega)) (λj x Z hx hZ=>?_) (λj x Z hx _ hZ=>?_) ?_
 .obtain⟨hj,rfl⟩:=sV hx;exact⟨Pd,rfl,hZ⟩
 .obtain⟨hj,rfl⟩:=sV hx;exact hZ
 rw[Za,Za,lh (cm A.length W) (λx=>!Pd.contains x)];refine⟨rfl,?_⟩;show((!(!((aT A.length W Pd).map PyData.int).isEmpty))=true->_)/\((!(!((aT A.length W Pd).map PyData.int).isEmpty))=false->_);rw[Bool.not_not,X5];refine⟨λe=>hn Pd pd (List.isEmpty_iff.mp e),λe=>?_⟩;have QD:aT A.length W Pd≠[]:=λz=>by rw[z] at e;cases e
 have KN:(ah W qs).length<=6:=by rw[qU];omega
 have Fx:∀k,k<(ah W qs).length->((ah W qs).getD k []).length<=6:=λk hk=>by rw[qU] at hk;exact Zk (jq hk (mf.wr k hk)) g6
 have VR:Pd.length<=6:=by have:=pd.sub.length_le;have:=sP A.length W;omega
 have hR:(aT A.length W Pd).Sublist (ay A.length W):=Yn;have KU:(aT A.length W Pd).length<=6:=by have:=hR.length_le;have:=sP A.length W;omega
 refine⟨A,Pu,W,qs,rfl,pr,⟨ah W qs,Pd,rfl,KN,Fx,A,Pu,W,qs,Pd,rfl,rp,pd.sub,⟨ah W qs,Pd,rfl,KN,Fx,A,Pu,W,qs,Pd,rfl,rp,pd.sub,?_⟩⟩⟩;have IU:=zr (A:=A) (Pu:=Pu) (qs:=qs) QD;have KJ:=ox rp pd.sub;have BW:=ut (W:=W) (qs:=qs) VR W.length;refine⟨by
  rw[Za,Za,Za,Xk,BR,sz];have:2 ^ (aT A.length W Pd).length<=64:=Y1 (n:=2) (by decide) KU;omega,fL A Pu qs W A.length Pd,by unfold fL;rw[Zr],IU,KJ,λf iS=>?_⟩
 refine⟨qs,aT A.length W Pd,f,rfl,by omega,λz hz=>(pr.bd z hz).mono (by decide),KJ f iS.1,R8,?_⟩;have er:(List.range qs.length).map (λg:Nat=>if (aT A.length W Pd).contains (g:Int)=true then qs.getD g 0*f else qs.getD g 0)=io qs Pd f:=by
  unfold io;refine Y2 λg hg=>?_
  have hg:=Zy.mp hg;have hwm:((g:Int)∈ay A.length W)↔has W g=true:=by
   unfold ay aV;rw[Zd];constructor
   .rintro⟨x,hx,e⟩;have:x=g:=by omega
    rw[<- this];exact(Zn.mp hx).2
   .intro hh;exact⟨g,Zn.mpr ⟨Zy.mpr (by omega),hh⟩,rfl⟩
  by_cases hp:Pd.contains (g:Int)=true
  .have hr:¬ (aT A.length W Pd).contains (g:Int)=true:=λz=>by
    have:=(Zn.mp (Zz.mp z)).2;rw[hp] at this;cases this
   rw[if_pos hp,if_neg hr]
  .rw[if_neg hp];by_cases hh:has W g=true
   .have hr:(aT A.length W Pd).contains (g:Int)=true:=Zz.mpr (Zn.mpr ⟨hwm.mpr hh,by simpa using hp⟩);rw[if_pos hr]
   .have hq0:=pr.pL.nil g hg (by simpa using hh);rw[hq0,X1];split<;>rfl
 rw[er];exact hf Pd f pd QD iS
end MI
namespace RZ
open PySem L2 KG EX KM
def ak {α : Type}{xs:List α}{i:Nat}{x d:α}(h:xs[i]?=some x):xs.getD i d=x:=by rw[List.getD,h];rfl
def gP {row:Γ3}{qs:Δ1}{g:Nat}:g∈bE row qs↔g<row.length/\row.getD g 0≠0/\∀o,o<row.length->0<row.getD o 0->((row.getD o 0:Int):Rat)*qs.getD g 0<=((row.getD g 0:Int):Rat)*qs.getD o 0:=by
 unfold bE;rw[Zn,Zy];unfold cZ;rw[Z0,Yc,decide_eq_true_eq];refine⟨λ⟨h1,h2,h3⟩=>⟨h1,h2,λo ho hw=>?_⟩,λ⟨h1,h2,h3⟩=>⟨h1,h2,λo ho=>?_⟩⟩
 .have:=h3 o (Zy.mpr ho);unfold worse at this;rw[decide_eq_true hw,Xg] at this;exact Yh.mp (of_decide_eq_false (by simpa using this:decide _=false))
 .unfold worse;rw[Bool.not_eq_true',Bool.and_eq_false_iff];by_cases hw:0<row.getD o 0
  .right
   rw[decide_eq_false_iff_not,Yh];exact h3 o (Zy.mp ho) hw
  .left;rw[decide_eq_false hw]
def Iz {row:Γ3}{qs:Δ1}(hw:∃o,o<row.length/\0<row.getD o 0)(hq:∀o,o<row.length->0<row.getD o 0->0<qs.getD o 0):bE row qs≠[]:=by
 obtain⟨o0,h0,w0⟩:=hw;obtain⟨m,hm⟩:=wx (l:=(((List.range row.length).filter λo=>decide (0<row.getD o 0)).map (bK row qs))) (by
  intro z;have:=Xp.mp z;have h1:o0∈(List.range row.length).filter λo=>decide (0<row.getD o 0):=Zn.mpr ⟨Zy.mpr h0,decide_eq_true w0⟩
  rw[this] at h1;cases h1)
 obtain⟨b,hb,rfl⟩:=Zd.mp hm.1;obtain⟨kB,mr⟩:=Zn.mp hb;have kB:=Zy.mp kB;have mr:0<row.getD b 0:=of_decide_eq_true mr;intro z;have:b∈bE row qs:=gP.mpr ⟨kB,by omega,λo ho hw=>?_⟩
 .rw[z] at this;cases this
 .have h1:=hm.2 (bK row qs o) (Zd.mpr ⟨o,Zn.mpr ⟨Zy.mpr ho,decide_eq_true hw⟩,rfl⟩);unfold bK at h1;have q1:=hq o ho hw;have q2:=hq b kB mr;have e1:((row.getD o 0:Int):Rat) / qs.getD o 0*(qs.getD o 0*qs.getD b 0)=((row.getD o 0:Int):Rat)*qs.getD b 0:=by
   have:qs.getD o 0≠0:=λz=>by rw[z] at q1;exact absurd q1 (by decide)
   grind
  have e2:((row.getD b 0:Int):Rat) / qs.getD b 0*(qs.getD o 0*qs.getD b 0)=((row.getD b 0:Int):Rat)*qs.getD o 0:=by
   have:qs.getD b 0≠0:=λz=>by rw[z] at q2;exact absurd q2 (by decide)
   grind
  rw[<- e1,<- e2];exact Qi h1 (Z7 (Y6 q1 q2))
def bD (W:Γ1)(qs:Δ1)(i:Nat):Nat:=(((ah W qs).getD i []).getD 0 0).toNat
def iP (W:Γ1)(qs:Δ1)(g i:Nat):Rat:=qs.getD (bD W qs i) 0*Rat.divInt ((W.getD i []).getD g 0) ((W.getD i []).getD (bD W qs i) 0)
def bF (W:Γ1)(qs:Δ1)(g:Nat):Nat->Rat
 |0=>0
 |k+1=>if (ah W qs).getD k []=[] then bF W qs g k else if bF W qs g k<iP W qs g k then iP W qs g k else bF W qs g k
def ir (W:Γ1)(qs:Δ1)(g:Nat):Bool:=((ah W qs).filter λr=>r.contains (g:Int)).isEmpty
def bC (W:Γ1)(qs:Δ1)(g:Nat):Rat:=if (ir W qs g&&has W g)=true then bF W qs g W.length else qs.getD g 0
def cX (W:Γ1)(qs:Δ1):Δ1:=(List.range qs.length).map (bC W qs)
def gQ (W:Γ1)(qs:Δ1):(cX W qs).length=qs.length:=by unfold cX;simp
def kX {W:Γ1}{qs:Δ1}{g:Nat}(h:g<qs.length):(cX W qs).getD g 0=bC W qs g:=by
 unfold cX;simp[List.getD,Zh,Y3 h]
section
variable {W:Γ1}{qs:Δ1}{g:Nat}
theorem gK:∀k,0<=bF W qs g k/\(∀i,i<k->(ah W qs).getD i []≠[]->iP W qs g i<=bF W qs g k)/\(bF W qs g k=0\/∃i,i<k/\(ah W qs).getD i []≠[]/\bF W qs g k=iP W qs g i)
 |0=>⟨Yf,λi h=>absurd h (Nat.not_lt_zero _),.inl rfl⟩
 |k+1=>by
  obtain⟨h1,h2,h3⟩:=gK k;have R7:bF W qs g k=0\/∃i,i<k+1/\(ah W qs).getD i []≠[]/\bF W qs g k=iP W qs g i:=by
   rcases h3 with z |⟨i,a,b,c⟩
   .exact .inl z
   .exact .inr ⟨i,by omega,b,c⟩
  by_cases e:(ah W qs).getD k []=[]
  .have ee:bF W qs g (k+1)=bF W qs g k:=by show(if _ then _ else _)=_;rw[if_pos e]
   rw[ee];refine⟨h1,λi hi hb=>?_,R7⟩;rcases Qz.mp hi with z |rfl
   .exact h2 i z hb
   .exact absurd e hb
  .by_cases l:bF W qs g k<iP W qs g k
   .have ee:bF W qs g (k+1)=iP W qs g k:=by show(if _ then _ else _)=_;rw[if_neg e,if_pos l]
    rw[ee];refine⟨Yi h1 (Z7 l),λi hi hb=>?_,.inr ⟨k,by omega,e,rfl⟩⟩;rcases Qz.mp hi with z |rfl
    .exact Yi (h2 i z hb) (Z7 l)
    .exact Yf
   .have ee:bF W qs g (k+1)=bF W qs g k:=by show(if _ then _ else _)=_;rw[if_neg e,if_neg l]
    rw[ee];refine⟨h1,λi hi hb=>?_,R7⟩;rcases Qz.mp hi with z |rfl
    .exact h2 i z hb
    .exact Yh.mp l
structure fe (W:Γ1)(qs:Δ1)(n:Nat):Prop where
 len:qs.length=n
 row:∀i,i<W.length->(W.getD i []).length=n
 nn:∀i j,i<W.length->j<n->0<=(W.getD i []).getD j 0
 pos:∀i,i<W.length->∃o,o<n/\0<(W.getD i []).getD o 0
 pL:sT W qs
def wE {i j:Nat}(hi:i<W.length)(h:0<(W.getD i []).getD j 0):has W j=true:=by
 unfold has;refine Zv.mpr ⟨W.getD i [],by rw[ak (Zc hi)];exact Zg _,?_⟩;exact decide_eq_true (by omega)
variable {n:Nat}
def fe.q0 (t:fe W qs n){i j:Nat}(hi:i<W.length)(hj:j<n)(h:0<(W.getD i []).getD j 0):0<qs.getD j 0:=t.pL.pos j (by rw[t.len];exact hj) (wE hi h)
def fe.bne (t:fe W qs n){i:Nat}(hi:i<W.length):bE (W.getD i []) qs≠[]:=by
 obtain⟨o,h1,h2⟩:=t.pos i hi;have hr:=t.row i hi;exact Iz ⟨o,by omega,h2⟩ λo ho hw=>t.q0 hi (by omega) hw
def DF {i:Nat}(hi:i<W.length):(ah W qs).getD i []=(bE (W.getD i []) qs).map λg:Nat=>(g:Int):=by unfold ah;exact sN hi
def fe.mine (t:fe W qs n){i:Nat}(hi:i<W.length):bD W qs i∈bE (W.getD i []) qs:=by
 have h:=t.bne hi;unfold bD;rw[DF hi];cases hb:bE (W.getD i []) qs with
 |nil=>exact absurd hb h
 |cons x xs=>exact Zm
def fe.kG (t:fe W qs n){i:Nat}(hi:i<W.length):bD W qs i<n/\0<(W.getD i []).getD (bD W qs i) 0/\0<qs.getD (bD W qs i) 0:=by
 obtain⟨h1,h2,_⟩:=gP.mp (t.mine hi);have hr:=t.row i hi;have h3:=t.nn i _ hi (show bD W qs i<n by omega);have h4:0<(W.getD i []).getD (bD W qs i) 0:=by omega
 exact⟨by omega,h4,t.q0 hi (by omega) h4⟩
def fe.Mi (t:fe W qs n){i:Nat}(hi:i<W.length):(ah W qs).getD i []≠[]:=by
 rw[DF hi];exact λz=>t.bne hi (Xp.mp z)
def wV (hl:ir W qs g=false):∃i,i<W.length/\g∈bE (W.getD i []) qs:=by
 unfold ir at hl;have:((ah W qs).filter λr=>r.contains (g:Int))≠[]:=λz=>by rw[z] at hl;cases hl
 obtain⟨r,hr⟩:=Jj _ this;obtain⟨h1,h2⟩:=Zn.mp hr;obtain⟨row,h3,rfl⟩:=Zd.mp (show r∈W.map _ from h1);obtain⟨i,hi,rfl⟩:=Yt h3;refine⟨i,hi,?_⟩;rw[ak (Zc hi)];obtain⟨x,hx,e⟩:=Zd.mp (Zz.mp h2);have:x=g:=by omega
 rw[<- this];exact hx
def CP (t:fe W qs n){i:Nat}(hi:i<W.length)(j:Nat):iP W qs j i*(((W.getD i []).getD (bD W qs i) 0:Int):Rat)=(((W.getD i []).getD j 0:Int):Rat)*qs.getD (bD W qs i) 0:=by
 obtain⟨_,h2,_⟩:=t.kG hi;have h3:(0:Rat)<(((W.getD i []).getD (bD W qs i) 0:Int):Rat):=Yo.mpr h2;unfold iP;rw[X0];have:(((W.getD i []).getD (bD W qs i) 0:Int):Rat)≠0:=λz=>by rw[z] at h3;exact absurd h3 (by decide)
 grind
def GG (t:fe W qs n){i o:Nat}(hi:i<W.length)(ho:o<n)(hw:0<(W.getD i []).getD o 0):(((W.getD i []).getD o 0:Int):Rat)*qs.getD (bD W qs i) 0<=bC W qs o*(((W.getD i []).getD (bD W qs i) 0:Int):Rat):=by
 obtain⟨h1,h2,h3⟩:=t.kG hi;have h4:(0:Rat)<(((W.getD i []).getD (bD W qs i) 0:Int):Rat):=Yo.mpr h2;unfold bC;split
 .rw[<- CP t hi o];exact Qi ((gK W.length).2.1 i hi (t.Mi hi)) (Z7 h4)
 .have:=(gP.mp (t.mine hi)).2.2 o (by rw[t.row i hi];exact ho) hw;rw[Rat.mul_comm (qs.getD o 0)];exact this
def qh (t:fe W qs n){i:Nat}(hi:i<W.length)(hg:g<n)(hw:0<(W.getD i []).getD g 0)(e:(((W.getD i []).getD g 0:Int):Rat)*qs.getD (bD W qs i) 0=bC W qs g*(((W.getD i []).getD (bD W qs i) 0:Int):Rat)):g∈bE (W.getD i []) (cX W qs):=by
 have hr:=t.row i hi;have hl:=t.len;obtain⟨h1,h2,h3⟩:=t.kG hi;have h4:(0:Rat)<(((W.getD i []).getD (bD W qs i) 0:Int):Rat):=Yo.mpr h2;refine gP.mpr ⟨by omega,by omega,λo ho hwo=>?_⟩;rw[kX (by omega),kX (by omega)];have h5:=GG t hi (show o<n by omega) hwo;have h6:(0:Rat)<(((W.getD i []).getD g 0:Int):Rat):=Yo.mpr hw;have h7:=X2 h5 (Z7 h6);refine Je ?_ h4;generalize (((W.getD i []).getD (bD W qs i) 0:Int):Rat)=m at *;generalize (((W.getD i []).getD g 0:Int):Rat)=x at *;generalize (((W.getD i []).getD o 0:Int):Rat)=y at *;have e2:y*bC W qs g*m=x*(y*qs.getD (bD W qs i) 0):=by
  have:y*bC W qs g*m=y*(bC W qs g*m):=by grind
  rw[this,<- e];grind
 have e3:x*bC W qs o*m=x*(bC W qs o*m):=by grind
 rw[e2,e3];exact h7
def uy (h:has W g=true):∃i,i<W.length/\0<(W.getD i []).getD g 0:=by
 unfold has at h;obtain⟨r,hr,h⟩:=Zv.mp h;obtain⟨i,hi,rfl⟩:=Yt hr;exact⟨i,hi,by rw[ak (Zc hi)];have:=of_decide_eq_true h;omega⟩
def yD (t:fe W qs n)(hg:g<n)(hh:has W g=true):0<bF W qs g W.length:=by
 obtain⟨i,hi,hw⟩:=uy hh;obtain⟨_,h2,h3⟩:=t.kG hi;have h1:=(gK (W:=W) (qs:=qs) (g:=g) W.length).2.1 i hi (t.Mi hi);have:0<iP W qs g i:=by
  unfold iP;exact Y6 h3 (oW hw h2)
 exact Rat.not_le.mp λz=>absurd this (Yh.mpr (Yi h1 z))
def su (t:fe W qs n)(hg:g<n)(hh:has W g=true):∃i,i<W.length/\g∈bE (W.getD i []) (cX W qs):=by
 cases hl:ir W qs g with
 |true =>
  have ta:bC W qs g=bF W qs g W.length:=by unfold bC;rw[hl,hh];rfl
  have tp:=yD t hg hh;rcases(gK (W:=W) (qs:=qs) (g:=g) W.length).2.2 with z |⟨i,hi,hb,e⟩
  .rw[z] at tp;exact absurd tp (by decide)
  .obtain⟨_,h2,h3⟩:=t.kG hi;have VI:=t.nn i g hi hg;have hw:0<(W.getD i []).getD g 0:=by
    rcases Qb 0 ((W.getD i []).getD g 0) with y |y
    .exact y
    .have z:(W.getD i []).getD g 0=0:=by omega
     rw[e] at tp;unfold iP at tp;rw[z,Rat.zero_divInt,Xo] at tp;exact absurd tp (by decide)
   exact⟨i,hi,qh t hi hg hw (by rw[ta,e,CP t hi g])⟩
 |false =>
  have ta:bC W qs g=qs.getD g 0:=by unfold bC;rw[hl];rfl
  obtain⟨i,hi,hb⟩:=wV hl;obtain⟨h1,h2,h3⟩:=gP.mp hb;obtain⟨m1,m2,m3⟩:=t.kG hi;have hr:=t.row i hi;have VI:=t.nn i g hi hg;have a1:=h3 (bD W qs i) (by omega) m2;have a2:=(gP.mp (t.mine hi)).2.2 g h1 (by omega);refine⟨i,hi,qh t hi hg (by omega) ?_⟩;rw[ta,Rat.mul_comm (qs.getD g 0)];exact Rat.le_antisymm a2 a1
def ua (t:fe W qs n):sT W (cX W qs):=by
 refine⟨λj hj hh=>?_,λj hj hh=>?_⟩
 .rw[gQ] at hj;rw[kX hj];unfold bC;split
  .exact yD t (by rw[<- t.len];exact hj) hh
  .exact t.pL.pos j hj hh
 .rw[gQ] at hj;rw[kX hj];unfold bC;rw[hh,Qf,if_neg (by decide)];exact t.pL.nil j hj hh
end
def Ab (N D:Nat)(z:Rat):Prop:=z.num.natAbs<=N/\z.den<=D
def Ab.mono {N D N' D':Nat}{z:Rat}(h:Ab N D z)(h1:N<=N')(h2:D<=D'):Ab N' D' z:=⟨Zk h.1 h1,Zk h.2 h2⟩
def km {T U:Int}(hU:U≠0):Ab T.natAbs U.natAbs (Rat.divInt T U):=by
 obtain⟨e1,e2⟩:=nX (T:=T) hU;obtain⟨_,_,_,_,n5,n6⟩:=jA (t:=T) hU;rw[e1] at n5;rw[e2] at n6;exact⟨n5,by omega⟩
def lO {a b c d:Nat}{x y:Rat}(hx:Ab a b x)(hy:Ab c d y):Ab (a*c) (b*d) (x*y):=by
 rw[<- kN];have h2:(x.den:Int)*y.den≠0:=Int.ne_of_gt (Y4 (den_pos x) (den_pos y));refine(km h2).mono ?_ ?_
 .rw[Xe];exact Xu hx.1 hy.1
 .rw[Xe,Xi,Xi];exact Xu hx.2 hy.2
def ID {a b c d:Nat}{x y:Rat}(hx:Ab a b x)(hy:Ab c d y)(h:y≠0):Ab (a*d) (b*c) (x / y):=by
 have hn:y.num≠0:=λz=>h (Rat.num_eq_zero.mp z)
 rw[<- kR hn];refine(km ?_).mono ?_ ?_
 .intro z;rcases Int.mul_eq_zero.mp z with y |y
  .have:=den_pos x;omega
  .exact hn y
 .rw[Xe,Xi];exact Xu hx.1 hy.2
 .rw[Xe,Xi];exact Xu hx.2 hy.1
def Op {a b c d:Nat}{x y:Rat}(hx:Ab a b x)(hy:Ab c d y):Ab (a*d+c*b) (b*d) (x+y):=by
 rw[<- sq];have h2:(x.den:Int)*y.den≠0:=Int.ne_of_gt (Y4 (den_pos x) (den_pos y));refine(km h2).mono ?_ ?_
 .refine Zk (Int.natAbs_add_le _ _) ?_;rw[Xe,Xe,Xi,Xi];exact Nat.add_le_add (Xu hx.1 hy.2) (Xu hy.1 hx.2)
 .rw[Xe,Xi,Xi];exact Xu hx.2 hy.2
theorem zF {N D:Nat}:∀{l:Δ1},(∀z∈l,Ab N D z)->(bz l).den<=D ^ l.length/\D*(bz l).num.natAbs<=l.length*N*D ^ l.length
 |[],_=>by
  have:bz []=0:=rfl;rw[this];exact⟨Ze _,by show D*0<=_;omega⟩
 |x::l,h=>by
  obtain⟨i1,i2⟩:=zF (l:=l) λz hz=>h z (Zq _ hz)
  have hx:=h x Zm;rw[Ks,Xy];obtain⟨h1,h2⟩:=Op hx (show Ab (bz l).num.natAbs (D ^ l.length) (bz l) from⟨Ze _,i1⟩);refine⟨by rw[Nat.pow_succ,Nat.mul_comm];exact h2,?_⟩;refine Zk (Nat.mul_le_mul_left D h1) ?_;rw[Nat.mul_add,Nat.pow_succ];have e1:D*((bz l).num.natAbs*D)=(D*(bz l).num.natAbs)*D:=(Nat.mul_assoc _ _ _).symm;rw[e1];have h3:=Nat.mul_le_mul_right D i2;have e2:(l.length+1)*N*(D ^ l.length*D)=D*(N*D ^ l.length)+l.length*N*D ^ l.length*D:=by grind
  rw[e2];exact Nat.add_le_add_left h3 _
def zG {N D:Nat}(hD:1<=D){l:Δ1}(h:∀z∈l,Ab N D z)(hl:l.length<=6):Ab (6*N*D ^ 5) (D ^ 6) (bz l):=by
 obtain⟨h1,h2⟩:=zF h;have hp:D ^ l.length<=D ^ 6:=Y1 hD hl;refine⟨?_,Zk h1 hp⟩;have h3:l.length*N*D ^ l.length<=6*N*D ^ 6:=Xu (Nat.mul_le_mul_right N hl) hp;have e:6*N*D ^ 6=D*(6*N*D ^ 5):=by grind
 have:=Zk h2 h3;rw[e] at this;exact Nat.le_of_mul_le_mul_left this hD
def iK {N D k:Nat}{z:Rat}(h:Ab N D z)(h1:N<2 ^ k)(h2:D<2 ^ k):Rb k z:=⟨by unfold Bd;have:=h.1;omega,by unfold Bd;have:=h.2;rw[Xi];omega⟩
def Ta {k:Nat}{z:Rat}(h:Rb k z):Ab (2 ^ k) (2 ^ k) z:=by
 obtain⟨h1,h2⟩:=h;unfold Bd at h1 h2;rw[Xi] at h2;exact⟨by omega,by omega⟩
def zH (a:Int):Ab a.natAbs 1 (a:Rat):=⟨by show a.natAbs<=_;exact Ze _,Ze _⟩
def ni {qs:Δ1}{N D:Nat}(h:∀z∈qs,Ab N D z)(hD:1<=D)(g:Nat):Ab N D (qs.getD g 0):=by
 by_cases hg:g<qs.length
 .rw[ak (Zc hg)];exact h _ (Zg _)
 .rw[List.getD,Yw (Xl hg)];exact⟨Z9 _,hD⟩
section
variable {W:Γ1}{qs:Δ1}{n:Nat}
def yC (t:fe W qs n)(hq:∀z∈qs,Ab 60000 2000 z)(hw:∀i j,i<W.length->j<n->(W.getD i []).getD j 0<=100):∀z∈cX W qs,Ab 6000000 200000 z:=by
 intro z hz;unfold cX at hz;obtain⟨g,hg,rfl⟩:=Zd.mp hz;have hg:=Zy.mp hg;unfold bC;split
 .rcases(gK (W:=W) (qs:=qs) (g:=g) W.length).2.2 with e |⟨i,hi,hb,e⟩
  .rw[e];exact⟨Z9 _,by show 1<=_;decide⟩
  .rw[e];unfold iP;obtain⟨m1,m2,m3⟩:=t.kG hi;have hl:=t.len;have w1:=t.nn i g hi (by omega);have w2:=hw i g hi (by omega);have w3:=hw i _ hi m1;exact(lO (ni hq (by decide) _) (km (T:=(W.getD i []).getD g 0) (U:=(W.getD i []).getD (bD W qs i) 0) (by omega))).mono (Nat.mul_le_mul_left 60000 (show _<=100 by omega)) (Nat.mul_le_mul_left 2000 (show _<=100 by omega))
 .exact(ni hq (by decide) g).mono (by decide) (by decide)
end
def cS (qs:Δ1)(c:Rat):Δ1:=qs.map λq=>iT q c
section
variable {W:Γ1}{qs:Δ1}{c:Rat}
def ot (g:Nat):(cS qs c).getD g 0=qs.getD g 0*c:=by
 unfold cS;by_cases hg:g<qs.length
 .simp[List.getD,Zh,Zc hg,iT]
 .simp[List.getD,Zh,Yw (Xl hg),X1]
def xy (hc:0<c)(row:Γ3):bE row (cS qs c)=bE row qs:=by
 unfold bE;refine Y7 λg _=>?_
 unfold cZ
 congr 1
 refine List.all_congr rfl λo=>?_
 unfold worse
 congr 2
 rw[decide_eq_decide,ot,ot,<- Rat.mul_assoc,<- Rat.mul_assoc];exact⟨λh=>Rat.not_le.mp λz=>absurd h (Yh.mpr (Qi z (Z7 hc))),λh=>Rat.mul_lt_mul_of_pos_right h hc⟩
def sv (hc:0<c)(S:List Nat):cO W (cS qs c) S=cO W qs S:=by
 have:ah W (cS qs c)=ah W qs:=by
  unfold ah;refine Y2 λr _=>?_
  rw[xy hc]
 unfold cO;rw[this]
def sA (am:Γ3)(g:Nat):(d7 am (cS qs c)).getD g 0=c*(d7 am qs).getD g 0:=by
 unfold d7;have hl:(cS qs c).length=qs.length:=by unfold cS;simp
 rw[hl];by_cases hg:g<qs.length
 .simp only[List.getD,Zh,Y3 hg,Y0,Xm];have:=ot (qs:=qs) (c:=c) g;unfold List.getD at this;rw[this];grind
 .have hn:(List.range qs.length)[g]?=none:=Yw (by rw[Yy];omega);simp[List.getD,Zh,hn,Xo]
def uR (am:Γ3)(S:List Nat):iN am (cS qs c) S=c*iN am qs S:=by
 unfold iN;rw[<- lR]
 congr 1
 refine Y2 λg _=>sA am g
def AI {am:Γ3}{ps:Δ1}{g:Nat}(hc:0<c)(h:∀S:Γ3,S.Sublist (ay g W)->S≠[]->c*iN am qs (aw S)<=ci ps (cO W qs (aw S))):vw am ps (cS qs c) W g:=by
 intro S hS;unfold aX;rw[sv hc,uR];by_cases e:S=[]
 .subst e;have h1:cO W qs (aw [])=[]:=by
   unfold cO;refine Qg.mpr λi _=>?_
   unfold cz aw;simp
  rw[h1];have h2:iN am qs (aw [])=0:=rfl;have h3:ci ps []=0:=rfl;rw[h2,h3,Xo];decide+kernel
 .have:=h S hS e
  grind
end
end RZ
namespace MI
open PySem L2 KG EX KM
open RZ (Ab fe cS cX vw fQ aT fL)
def Sv:FM:=λO xs P _=>∃j,xs=[.bag j]/\∀(A:Γ3) (Pu:Δ1) (W:Γ1),iV (dm A Pu W)=true->(∀r∈W,∃k∈r,1<=k)->P (.im (dm A Pu W)) O
theorem n9 {α : Type}{f:α->PyData}:∀{ds:Ξ1},(∀d∈ds,∃x,d=f x)->∃xs:List α,ds=xs.map f
 |[],_=>⟨[],rfl⟩
 |d::ds,h=>by
  obtain⟨x,rfl⟩:=h d Zm;obtain⟨xs,rfl⟩:=n9 (ds:=ds) λd hd=>h d (Zq _ hd)
  exact⟨x::xs,rfl⟩
def oK {a b:Int}{d:PyData}(h:within a b d=true):∃x,d=.int x:=by
 cases d with
 |int n=>exact⟨n,rfl⟩
 |_=>cases h
def HR {am pu wi:Ξ1}(h:iV (.tuple [.tuple am,.tuple pu,.tuple wi])=true):∃A Pu W,(PyData.tuple [.tuple am,.tuple pu,.tuple wi])=dm A Pu W:=by
 obtain⟨h1,h2,h3,h4,h5,h6,h7,h8⟩:=jm h;obtain⟨A,rfl⟩:=n9 (f:=PyData.int) λd hd=>oK (Yc.mp h3 d hd)
 obtain⟨Pu,rfl⟩:=n9 (f:=qD) (ds:=pu) λd hd=>by
  obtain⟨q,e,_⟩:=rO (Yc.mp h6 d hd);exact⟨q,e⟩
 obtain⟨W,rfl⟩:=n9 (f:=aS) (ds:=wi) λd hd=>by
  have:=Yc.mp h8 d hd;cases d with
  |tuple ds =>
   have e:(decide (ds.length=(A.map PyData.int).length)&&ds.all (within 0 100))=true:=this;rw[Z0] at e;obtain⟨r,rfl⟩:=n9 (f:=PyData.int) λd hd=>oK (Yc.mp e.2 d hd)
   exact⟨r,rfl⟩
  |_=>cases this
 exact⟨A,Pu,W,rfl⟩
section
variable {K:Θ1}
def TF:qW K Ly Sv:=λw O H vs xs P PX Q E r a hf q x=>by
 obtain⟨j,rfl,hf⟩:=hf;obtain⟨v,us,rfl,h1,h2⟩:=a.aW;rw[h2.cn];obtain⟨b,hb,rfl⟩:=h1;have br:=Zu hb;refine⟨b,rfl,r.bg b br,λp am pu wi H' hB hK t m pd=>?_⟩;obtain⟨r1,e1,_⟩:=r.draw br hK hB;obtain⟨A,Pu,W,e⟩:=HR m;have ew:wi=W.map aS:=by
  have:=congrArg (λd=>match d with |PyData.tuple [_,_,.tuple x]=>x |_=>[]) e;exact this
 have hp:∀r∈W,∃k∈r,1<=k:=λr hr=>Hg m pd (by rw[ew,PV];exact hr)
 rw[e] at t m;exact q _ _ O w H' (hf A Pu W m hp) e1 r1 (Δ r1 t (Di A Pu W))
end
def Gs:FM:=λO xs P _=>∃(A:Γ3) (Pu:Δ1) (W:Γ1) (qs:Δ1) (S:Γ3),xs=[.im (dm A Pu W),.im (.tuple (qs.map qD)),.im (aD S)]/\qs.length=A.length/\(∀a∈A,1<=a/\a<=60)/\(∀z∈qs,Rb 280 z)/\S.length<=6/\(∀x∈S,0<=x/\x.toNat<qs.length)/\P (.im (qD (iN A qs (aw S)))) O
abbrev MB:Δ2:=["market","prices","goods"]
def R3:MS:=(cW (au L4 bP (ae (bQ 1 [0,1] (bw (af 2)) (aP 0) fb (au (f2 iT) bP (ae (aR bW (af 2) (af 0)) (ae (fZ (ae (aR bW (aR bW (af 1) (mC (.int 0))) (af 0)) (ae (mC (.int 1)) ai))) ai)))) ai)))
def Nc:∀O xs Pq QX,Gs O xs Pq QX->R3 { nx:=λ_ O'=>Pq (.im .none) O',rt:=Pq } (bf MB xs) O:=by
 intro O xs Pq QX h;obtain⟨A,Pu,W,qs,S,rfl,hl,hA,hq,s6,hS,h⟩:=h;conv=>whnf
 have one:∀x∈S,Rb 280 (qs.getD x.toNat 0)/\1<=A.getD x.toNat 0/\A.getD x.toNat 0<=60:=λx hx=>by
  have:=(hS x hx).2;exact⟨hq _ (by rw[ak (Zc this)];exact Zg _),hA _ (by rw[ak (Zc (show x.toNat<A.length by omega))];exact Zg _)⟩
 refine u8 (λj=>qD (qs.getD (S.getD j 0).toNat 0*((A.getD (S.getD j 0).toNat 0:Int):Rat))) (by rw[Za,Za];omega) (λj x Z hx hZ=>?_) ?_
 .obtain⟨hj,rfl⟩:=sV hx;have hm:S.getD j 0∈S:=by rw[ak (Zc hj)];exact Zg _
  obtain⟨b1,b2,b3⟩:=one _ hm;obtain⟨s1,s2⟩:=hS _ hm;have qa:iF (qs.map qD) (S.getD j 0)=some (qD (qs.getD (S.getD j 0).toNat 0)):=by
   have:=bo (iM (f:=qD) (d:=(0:Rat)) s2)
   rwa [Xa s1] at this
  exact⟨_,qa,_,rfl,_,vT s1 (by omega),gE,qs.getD (S.getD j 0).toNat 0,((A.getD (S.getD j 0).toNat 0:Int):Rat),rfl,⟨b1.mono (by decide),(u7 (k:=6) (by unfold Bd;omega) (by decide)).mono (by decide)⟩,hZ⟩
 rw[Za,Za];have e:(List.range S.length).map (λj=>qD (qs.getD (S.getD j 0).toNat 0*((A.getD (S.getD j 0).toNat 0:Int):Rat)))=(S.map λx=>qs.getD x.toNat 0*((A.getD x.toNat 0:Int):Rat)).map qD:=by
  rw[Zj];exact zS (λx:Int=>qD (qs.getD x.toNat 0*((A.getD x.toNat 0:Int):Rat))) S 0
 rw[e];refine⟨_,rfl,⟨λz hz=>?_,by rw[Za];omega⟩,?_⟩
 .obtain⟨x,hx,rfl⟩:=Zd.mp hz;obtain⟨b1,b2,b3⟩:=one x hx;exact(ft b1 (u7 (k:=6) (by unfold Bd;omega) (by decide))).mono (by decide)
 have e2:bz (S.map λx=>qs.getD x.toNat 0*((A.getD x.toNat 0:Int):Rat))=iN A qs (aw S):=by
  unfold iN aw;rw[Zj]
  congr 1
  refine Y2 λx hx=>?_
  show _=(d7 A qs).getD x.toNat 0;unfold d7;exact(RZ.ak (by rw[Zh,Y3 (hS x hx).2];rfl)).symm
 rw[e2];exact h
def Gp:FM:=λO xs P _=>∃(A:Γ3) (Pu:Δ1) (W:Γ1) (bs:List Nat),xs=[.im (dm A Pu W),.im (vY bs)]/\(∀z∈Pu,Rb 20 z)/\bs.length<=6/\(∀i∈bs,i<Pu.length)/\P (.im (qD (KM.ci Pu bs))) O
abbrev Mz:Δ2:=["market","buyers"]
def R0:MS:=(cW (au L4 bP (ae (bQ 1 [0] (bw (af 1)) (aP 0) fb (aR bW (aR bW (af 1) (mC (.int 1))) (af 0))) ai)))
def Na:∀O xs Pq QX,Gp O xs Pq QX->R0 { nx:=λ_ O'=>Pq (.im .none) O',rt:=Pq } (bf Mz xs) O:=by
 intro O xs Pq QX h;obtain⟨A,Pu,W,bs,rfl,hP,b6,hb,h⟩:=h;conv=>whnf
 refine u8 (λj=>qD (Pu.getD (bs.getD j 0) 0)) (by rw[Za,Za];omega) (λj x Z hx hZ=>?_) ?_
 .have hj:j<bs.length:=by have:=(Zf.mp hx).1;simpa using this
  rw[Zh,iM (f:=λi:Nat=>PyData.int (i:Int)) (d:=0) hj] at hx;cases Option.some.inj hx;have hm:bs.getD j 0∈bs:=by rw[ak (Zc hj)];exact Zg _
  exact⟨_,rfl,_,bo (iM (f:=qD) (d:=(0:Rat)) (hb _ hm)),hZ⟩
 rw[Za,Za];have e:(List.range bs.length).map (λj=>qD (Pu.getD (bs.getD j 0) 0))=(bs.map λi=>Pu.getD i 0).map qD:=by
  rw[Zj];exact zS (λi:Nat=>qD (Pu.getD i 0)) bs 0
 rw[e];refine⟨_,rfl,⟨λz hz=>?_,by rw[Za];omega⟩,h⟩;obtain⟨i,hi,rfl⟩:=Zd.mp hz;exact(hP _ (by rw[ak (Zc (hb i hi))];exact Zg _)).mono (by decide)
def Gq:FM:=λO xs P _=>∃(j:Nat) (A:Γ3) (Pu:Δ1) (W:Γ1),xs=[.bag j,.im (dm A Pu W)]/\iV (dm A Pu W)=true/\∀qs:Δ1,qs.length=A.length->sT W qs->(∀z∈qs,Ab 60000 2000 z)->∀O',cD O O'->P (.im (.tuple (qs.map qD))) O'
abbrev SI:Δ2:=["bag","market","base","row","prices","good","price","other","wish","by"]
def R1:MS:=(aE (aL (au ph bP (ae (aR jT (mC (.int 1)) (au iI bP (ae (af 0) (ae (mC (.int 60)) ai)))) (ae (aR jT (mC (.int 1)) (au iI bP (ae (af 0) (ae (mC (.int 200)) ai)))) ai))) (aP 2))
 (aE (aL (aR bW (aR bW (af 1) (mC (.int 2))) (au iI bP (ae (af 0) (ae (eG gc (ae (aR bW (af 1) (mC (.int 2))) ai)) ai)))) (aP 3))
 (aE (aL (nz ai) (aP 4))
 (aE (eJ (jQ (ae (eG gc (ae (aR bW (af 1) (mC (.int 0))) ai)) ai)) (aP 5) (aE (aL (fZ (ae (mC (.int 0)) (ae (mC (.int 1)) ai))) (aP 6))
 (aE (ga (cw (aR (vF false) (af 5) (au jS bP (ae (af 1) ai)))) (aE (aL (aR bW (aR bW (af 1) (mC (.int 2))) (au iI bP (ae (af 0) (ae (eG gc (ae (aR bW (af 1) (mC (.int 2))) ai)) ai)))) (aP 7))
 (aE (aL (eG (p7 λi j=>if j>i then j else i) (ae (mC (.int 1)) (ae (aR bW (aR bW (lF (ae (af 3) (ae (af 7) ai))) (au iI bP (ae (af 0) (ae (mC (.int 2)) ai)))) (af 5)) ai))) (aP 8))
 (aE (aL (au (f2 iT) bP (ae (af 2) (ae (fZ (ae (af 8) (ae (mC (.int 1)) ai))) ai))) (aP 6))
 (ga (cw (aR (xI false) (au iI bP (ae (af 0) (ae (mC (.int 4)) ai))) (mC (.int 0)))) (aE (aL (au ph bP (ae (aR jT (mC (.int 1)) (au iI bP (ae (af 0) (ae (mC (.int 9)) ai)))) (ae (aR jT (mC (.int 1)) (au iI bP (ae (af 0) (ae (mC (.int 9)) ai)))) ai))) (aP 9))
 (aL (au (f2 iT) bP (ae (af 6) (ae (af 9) ai))) (aP 6))) dh)))) dh)
 (iY (nA (af 4) (ae (af 6) ai))))))
 (rd 4 (cW (eG lE (ae (af 4) ai))))))))
def sr {t u:Int}{N D:Nat}(h0:0<t)(h1:t<=N)(h2:0<u)(h3:u<=D):Ab N D (Rat.divInt t u)/\0<Rat.divInt t u:=⟨(RZ.km (by omega)).mono (by omega) (by omega),oW h0 h2⟩
def D3 {W:Γ1}{qs:Δ1}{p:Rat}(h:sT W qs)(h1:has W qs.length=true->0<p)(h2:has W qs.length=false->p=0):sT W (qs++[p]):=by
 have e:∀j,j<qs.length+1->(j<qs.length/\(qs++[p]).getD j 0=qs.getD j 0)\/(j=qs.length/\(qs++[p]).getD j 0=p):=λj hj=>by
  rcases Qz.mp hj with z |rfl
  .exact .inl ⟨z,by simp[List.getD,Z4 z]⟩
  .exact .inr ⟨rfl,by simp[List.getD]⟩
 have hl:(qs++[p]).length=qs.length+1:=by simp
 refine⟨λj hj hh=>?_,λj hj hh=>?_⟩
 .rcases e j (by omega) with ⟨z,y⟩ |⟨rfl,y⟩
  .rw[y];exact h.pos j z hh
  .rw[y];exact h1 hh
 .rcases e j (by omega) with ⟨z,y⟩ |⟨rfl,y⟩
  .rw[y];exact h.nil j z hh
  .rw[y];exact h2 hh
def Ni {a b:PyData}{r:Int}(h0:0<=r)(h1:r<2):∃z,(z=a\/z=b)/\iF [a,b] r=some z:=by
 have:r=0\/r=1:=by omega
 rcases this with rfl |rfl
 .exact⟨a,.inl rfl,rfl⟩
 .exact⟨b,.inr rfl,rfl⟩
def yW {W:Γ1}{x:Int}(h0:0<=x)(h:x<(W.length:Int)):iF (W.map aS) x=some (aS (W.getD x.toNat [])):=by
 have:=bo (iM (f:=aS) (d:=[]) (show x.toNat<W.length by omega))
 rwa [Xa h0] at this
def Nb:∀O xs Pq QX,Gq O xs Pq QX->R1 { nx:=λ_ O'=>Pq (.im .none) O',rt:=Pq } (bf SI xs) O:=by
 intro O xs Pq QX h;obtain⟨jb,A,Pu,W,rfl,ok,h⟩:=h;have mf:=u9 ok;have g6:=mf.g6;have n6:=mf.n6;have n1:=mf.n1;have wl:=mf.wl;refine⟨⟨by decide,by decide⟩,λr1 a1 b1=>⟨⟨by decide,by decide⟩,λr2 a2 b2=>⟨⟨by omega,by unfold Bd;omega⟩,?_⟩⟩⟩;obtain⟨bA,b0⟩:=sr (t:=1+r1) (u:=1+r2) (N:=60) (D:=200) (by omega) (by omega) (by omega) (by omega);generalize Rat.divInt (1+r1) (1+r2)=base at bA b0 ⊢;have wm:(((W.map aS).length:Nat):Int)=(W.length:Int):=by rw[Za]
 refine⟨_,rfl,_,rfl,⟨by rw[wm];omega,by rw[wm];omega⟩,λr3 a3 b3=>?_⟩;rw[wm] at b3;refine⟨_,yW a3 b3,?_⟩;have hk3:r3.toNat<W.length:=by omega
 generalize r3.toNat=k3 at hk3 ⊢;refine⟨⟨j9,?_⟩⟩;refine⟨_,rfl,⟨by rw[Za];omega,by rw[Za];omega⟩,λi sl O'=>∃es:Δ1,es.length=i/\sT W es/\(∀z∈es,Ab 60000 2000 z)/\O'=O++[some (es.map λz=>AV.im (qD z))]/\∃y5 y6 y7 y8 y9,sl=[some (.bag jb),Φ9 (dm A Pu W),Φ9 (qD base),Φ9 (aS (W.getD k3 [])),some (.own O.length),y5,y6,y7,y8,y9],⟨[],rfl,⟨λj hj=>absurd hj (Nat.not_lt_zero _),λj hj=>absurd hj (Nat.not_lt_zero _)⟩,λz hz=>(by cases hz),rfl,_,_,_,_,_,rfl⟩,?_,?_⟩
 .rintro i x sl O' hx ⟨es,BI,OQ,vK,rfl,y5,y6,y7,y8,y9,rfl⟩;obtain⟨hi,rfl⟩:=sK hx;rw[Za,Zo] at hi;have put:∀p:Rat,(has W i=true->0<p)->(has W i=false->p=0)->Ab 60000 2000 p->∃xH:Δ1,xH.length=i+1/\sT W xH/\(∀z∈xH,Ab 60000 2000 z)/\xH=es++[p]:=λp h1 h2 h3=>⟨es++[p],by simp[BI],D3 OQ (by rw[BI];exact h1) (by rw[BI];exact h2),λz hz=>by
   rcases Zt.mp hz with hz |hz
   .exact vK z hz
   .rw[Z2.mp hz];exact h3,rfl⟩
  have gy:∀(p:Rat) y7 y8 y9,(has W i=true->0<p)->(has W i=false->p=0)->Ab 60000 2000 p->∃c,(O++[some (es.map λz=>AV.im (qD z))])[O.length]?=some (some c)/\c.length<sizeLine/\∃xH:Δ1,xH.length=i+1/\sT W xH/\(∀z∈xH,Ab 60000 2000 z)/\(O++[some (es.map λz=>AV.im (qD z))]).set O.length (some (c++[.im (qD p)]))=O++[some (xH.map λz=>AV.im (qD z))]/\∃a b c d e,[some (.bag jb),Φ9 (dm A Pu W),Φ9 (qD base),Φ9 (aS (W.getD k3 [])),some (.own O.length),some (AV.im (.int (i:Int))),Φ9 (qD p),y7,y8,y9]=[some (.bag jb),Φ9 (dm A Pu W),Φ9 (qD base),Φ9 (aS (W.getD k3 [])),some (.own O.length),a,b,c,d,e]:=λp y7 y8 y9 h1 h2 h3=>by
   obtain⟨xH,e1,e2,e3,rfl⟩:=put p h1 h2 h3;exact⟨_,ky _ _,by rw[Za,sz];omega,_,e1,e2,e3,by rw[vA,Zr];rfl,_,_,_,_,_,rfl⟩
  refine⟨gE,?_⟩;refine⟨A,Pu,W,rfl,g6,by omega,by omega,mf.wr,cm A.length W,rfl,λhc=>?_,λhc=>?_⟩
  .have hc:(cm A.length W).contains (i:Int)=true:=hc;rw[kT hi] at hc;refine⟨_,rfl,_,rfl,⟨by rw[wm];omega,by rw[wm];omega⟩,λr4 a4 b4=>?_⟩;rw[wm] at b4;refine⟨_,yW a4 b4,?_⟩;have OW:r4.toNat<W.length:=by omega
   generalize r4.toNat=k4 at OW ⊢;refine⟨gE,⟨by decide,by decide⟩,λr5 a5 b5=>?_⟩;obtain⟨z,hz,ez⟩:=Ni (a:=aS (W.getD k3 [])) (b:=aS (W.getD k4 [])) a5 b5;refine⟨z,ez,?_⟩;obtain⟨k5,hk5,rfl⟩:∃k5,k5<W.length/\z=aS (W.getD k5 []):=by
    rcases hz with rfl |rfl
    .exact⟨k3,hk3,rfl⟩
    .exact⟨k4,OW,rfl⟩
   have w5:=mf.w0 k5 i hk5 hi;unfold eI at w5;refine⟨_,vt (by rw[mf.wr k5 hk5];exact hi),?_⟩;obtain⟨u1,u2⟩:1<=(if (W.getD k5 []).getD i 0>1 then (W.getD k5 []).getD i 0 else 1)/\(if (W.getD k5 []).getD i 0>1 then (W.getD k5 []).getD i 0 else 1)<=100:=by split<;>omega
   generalize eu:(if (W.getD k5 []).getD i 0>1 then (W.getD k5 []).getD i 0 else 1)=u at u1 u2;show Go _ _ [some (.bag jb),Φ9 (dm A Pu W),Φ9 (qD base),Φ9 (aS (W.getD k3 [])),some (.own O.length),Φ9 (.int (i:Int)),Φ9 (qD 0),Φ9 (aS (W.getD k4 [])),Φ9 (.int (if (W.getD k5 []).getD i 0>1 then (W.getD k5 []).getD i 0 else 1)),y9] (O++[some (es.map λz=>AV.im (qD z))]);rw[eu];have ub:Rb 7 ((u:Int):Rat):=u7 (by unfold Bd;omega) (by decide);have bb:Rb 8 base:=RZ.iK bA (by decide) (by decide);refine⟨gE,base,((u:Int):Rat),rfl,⟨bb.mono (by decide),ub.mono (by decide)⟩,?_⟩;have p1:Ab 6000 200 (base*((u:Int):Rat)):=(RZ.lO bA (RZ.zH u)).mono (show 60*u.natAbs<=6000 by omega) (by decide);have p0:0<base*((u:Int):Rat):=Y6 b0 (Yo.mpr (by omega));show Go _ _ [some (.bag jb),Φ9 (dm A Pu W),Φ9 (qD base),Φ9 (aS (W.getD k3 [])),some (.own O.length),Φ9 (.int (i:Int)),Φ9 (qD (base*((u:Int):Rat))),Φ9 (aS (W.getD k4 [])),Φ9 (.int u),y9] (O++[some (es.map λz=>AV.im (qD z))]);generalize base*((u:Int):Rat)=p at p1 p0 ⊢;refine⟨⟨by decide,by decide⟩,λr6 a6 b6=>⟨by rw[PyData.depth];exact Zk (Nat.min_le_left _ _) (by decide),λ_=>?_,λ_=>?_⟩⟩
   .refine⟨⟨by decide,by decide⟩,λr7 a7 b7=>⟨⟨by decide,by decide⟩,λr8 a8 b8=>⟨⟨by omega,by unfold Bd;omega⟩,?_⟩⟩⟩;obtain⟨cA,c0⟩:=sr (t:=1+r7) (u:=1+r8) (N:=9) (D:=9) (by omega) (by omega) (by omega) (by omega);generalize Rat.divInt (1+r7) (1+r8)=dU at cA c0 ⊢;refine⟨p,dU,rfl,⟨(RZ.iK (k:=13) p1 (by decide) (by decide)).mono (by decide),(RZ.iK (k:=4) cA (by decide) (by decide)).mono (by decide)⟩,⟨_,ky _ _⟩,?_⟩;exact gy (p*dU) _ _ _ (λ_=>Y6 p0 c0) (λz=>by rw[hc] at z;cases z) ((RZ.lO p1 cA).mono (by decide) (by decide))
   .exact⟨⟨_,ky _ _⟩,gy p _ _ _ (λ_=>p0) (λz=>by rw[hc] at z;cases z) (p1.mono (by decide) (by decide))⟩
  .have hc:(cm A.length W).contains (i:Int)=false:=hc;rw[kT hi] at hc;exact⟨⟨_,ky _ _⟩,gy 0 y7 y8 y9 (λz=>by rw[hc] at z;cases z) (λ_=>rfl) ⟨by decide,by decide⟩⟩
 .rintro sl O' ⟨es,BI,OQ,vK,rfl,y5,y6,y7,y8,y9,rfl⟩;rw[sL,Za,Zo] at BI;refine⟨⟨O.length,es.map qD,rfl,by rw[ky,Zj];rfl,?_⟩⟩;rw[vA];exact h es BI OQ vK _ ⟨_,rfl⟩
def yd:FM:=λO xs P _=>∃(A:Γ3) (Pu:Δ1) (W:Γ1) (qs:Δ1),xs=[.im (dm A Pu W),.im (.tuple (qs.map qD))]/\iV (dm A Pu W)=true/\fe W qs A.length/\(∀z∈qs,Ab 60000 2000 z)/\∀O',cD O O'->P (.im (.tuple ((cX W qs).map qD))) O'
abbrev CJ:Δ2:=["market","prices","best","made","good","price","lonely","buyer","row","mine","tie"]
def JP:MS:=(aE (aL (au pz bP (ae (af 0) (ae (af 1) ai))) (aP 2))
 (aE (aL (nz ai) (aP 3))
 (aE (eJ (jQ (ae (eG gc (ae (af 1) ai)) ai)) (aP 4) (aE (aL (aR bW (af 1) (af 4)) (aP 5))
 (aE (aL (aR (xI false) (bQ 1 [4] (bw (af 2)) (aP 0) (cw (aR (vF false) (af 1) (af 0))) (af 0)) (lF ai)) (aP 6))
 (aE (ga (pY (Al (af 6)) (cw (aR (vF false) (af 4) (au jS bP (ae (af 0) ai))))) (aE (aL (fZ (ae (mC (.int 0)) (ae (mC (.int 1)) ai))) (aP 5))
 (eJ (jQ (ae (eG gc (ae (af 2) ai)) ai)) (aP 7) (ga (cw (aR (xI true) (aR bW (af 2) (af 7)) (lF ai))) (aE (aL (aR bW (aR bW (af 0) (mC (.int 2))) (af 7)) (aP 8))
 (aE (aL (aR bW (aR bW (af 2) (af 7)) (mC (.int 0))) (aP 9))
 (aE (aL (au (f2 iT) bP (ae (aR bW (af 1) (af 9)) (ae (au ph bP (ae (aR bW (af 8) (af 4)) (ae (aR bW (af 8) (af 9)) ai))) ai))) (aP 10))
 (aL (aR bW (lF (ae (af 5) (ae (af 10) ai))) (eG Gb (ae (au l8 bP (ae (af 5) (ae (af 10) ai))) ai))) (aP 5))))) dh))) dh)
 (iY (nA (af 3) (ae (af 5) ai)))))))
 (rd 3 (cW (eG lE (ae (af 3) ai)))))))
def GS:∀O xs Pq QX,yd O xs Pq QX->JP { nx:=λ_ O'=>Pq (.im .none) O',rt:=Pq } (bf CJ xs) O:=by
 intro O xs Pq QX h;obtain⟨A,Pu,W,qs,rfl,ok,tp,vK,h⟩:=h;have mf:=u9 ok;have g6:=mf.g6;have n6:=mf.n6;have n1:=mf.n1;have wl:=mf.wl;have hl:=tp.len;have hq:∀z∈qs,Rb 16 z:=λz hz=>RZ.iK (vK z hz) (by decide) (by decide)
 refine⟨A,Pu,W,qs,rfl,by omega,by omega,λi hi=>by rw[mf.wr i hi,hl],λi j hi hj=>mf.w0 i j hi (by omega),λz hz=>(hq z hz).mono (by decide),λO1 BZ=>?_⟩;refine⟨⟨j9,?_⟩⟩;have bl:(ah W qs).length=W.length:=qU W qs;refine⟨⟨by rw[Za];omega,by rw[Za];omega⟩,λi sl O'=>O'=O1++[some ((List.range i).map λg:Nat=>AV.im (qD (RZ.bC W qs g)))]/\∃y4 y5 y6 y7 y8 y9 pH,sl=[Φ9 (dm A Pu W),Φ9 (.tuple (qs.map qD)),Φ9 (.list ((ah W qs).map aD)),some (.own O1.length),y4,y5,y6,y7,y8,y9,pH],⟨rfl,_,_,_,_,_,_,_,rfl⟩,?_,?_⟩
 .rintro i x sl O' hx ⟨rfl,y4,y5,y6,y7,y8,y9,pH,rfl⟩;obtain⟨hi,rfl⟩:=sK hx;rw[Za,Zo] at hi;have qa:=bo (iM (f:=qD) (d:=(0:Rat)) hi);have gy:∀(p:Rat) (x4 x6 x7 x8 x9 χ:Option AV),RZ.bC W qs i=p->∃c,(O1++[some ((List.range i).map λg:Nat=>AV.im (qD (RZ.bC W qs g)))])[O1.length]?=some (some c)/\c.length<sizeLine/\(O1++[some ((List.range i).map λg:Nat=>AV.im (qD (RZ.bC W qs g)))]).set O1.length (some (c++[.im (qD p)]))=O1++[some ((List.range (i+1)).map λg:Nat=>AV.im (qD (RZ.bC W qs g)))]/\∃a b c d e f g,[Φ9 (dm A Pu W),Φ9 (.tuple (qs.map qD)),Φ9 (.list ((ah W qs).map aD)),some (.own O1.length),x4,Φ9 (qD p),x6,x7,x8,x9,χ]=[Φ9 (dm A Pu W),Φ9 (.tuple (qs.map qD)),Φ9 (.list ((ah W qs).map aD)),some (.own O1.length),a,b,c,d,e,f,g]:=λp x4 x6 x7 x8 x9 χ e=>⟨_,ky _ _,by rw[Za,Yy,sz];omega,by rw[vA,Ys,Zr,<- e];rfl,_,_,_,_,_,_,_,rfl⟩
  refine⟨_,qa,⟨?_⟩⟩;conv=>whnf
  refine EV (λj=>((ah W qs).getD j []).contains (i:Int)) (λj=>aD ((ah W qs).getD j [])) ?_ (λj x Z hx hZ=>?_) (λj x Z hx _ hZ=>?_) ?_
  .rw[Za,Za];omega
  .have hj:j<(ah W qs).length:=by have:=(Zf.mp hx).1;simpa using this
   rw[Zh,iM (f:=aD) (d:=[]) hj] at hx;cases Option.some.inj hx;exact⟨_,rfl,hZ⟩
  .have hj:j<(ah W qs).length:=by have:=(Zf.mp hx).1;simpa using this
   rw[Zh,iM (f:=aD) (d:=[]) hj] at hx;cases Option.some.inj hx;exact hZ
  rw[Za,Za,oG (ah W qs) [] (λr=>r.contains (i:Int)) aD];refine⟨j9,m6 _,?_⟩;rw[mZ,X5];refine⟨rfl,λIT=>⟨A,Pu,W,rfl,g6,by omega,by omega,mf.wr,cm A.length W,rfl,λhc=>?_,λhc=>?_⟩,λIT=>⟨λz=>(by cases z),λ_=>⟨⟨_,ky _ _⟩,gy _ _ _ _ _ _ _ ?_⟩⟩⟩
  .have IT:RZ.ir W qs i=true:=IT;have hc:(cm A.length W).contains (i:Int)=true:=hc;rw[kT (by omega)] at hc;have ta:RZ.bC W qs i=RZ.bF W qs i W.length:=by unfold RZ.bC;rw[IT,hc];rfl
   refine⟨gE,?_⟩;refine⟨⟨by rw[Za];omega,by rw[Za];omega⟩,λk sl O'=>O'=O1++[some ((List.range i).map λg:Nat=>AV.im (qD (RZ.bC W qs g)))]/\∃z7 z8 z9 Kl,sl=[Φ9 (dm A Pu W),Φ9 (.tuple (qs.map qD)),Φ9 (.list ((ah W qs).map aD)),some (.own O1.length),Φ9 (.int (i:Int)),Φ9 (qD (RZ.bF W qs i k)),Φ9 (.bool (RZ.ir W qs i)),z7,z8,z9,Kl],⟨rfl,_,_,_,_,rfl⟩,?_,?_⟩
   .rintro k x sl O' hx ⟨rfl,z7,z8,z9,Kl,rfl⟩;obtain⟨hk,rfl⟩:=sK hx;rw[Za,Zo,bl] at hk;have QP:=tp.Mi hk;obtain⟨m1,m2,m3⟩:=tp.kG hk;have ms:RZ.bF W qs i (k+1)=if decide (RZ.bF W qs i k<RZ.iP W qs i k)=true then RZ.iP W qs i k else RZ.bF W qs i k:=by
     show(if (ah W qs).getD k []=[] then _ else _)=_;rw[if_neg QP];by_cases cT:RZ.bF W qs i k<RZ.iP W qs i k
     .rw[if_pos cT,decide_eq_true cT];rfl
     .rw[if_neg cT,decide_eq_false cT];rfl
    refine⟨_,kP (by omega),j9,m6 _,λ_=>?_,λz=>?_⟩
    .refine⟨_,rfl,_,bo (iM (f:=aS) (d:=[]) hk),?_⟩;have mi:(((ah W qs).getD k []).getD 0 0)=((RZ.bD W qs k:Nat):Int):=by
      unfold RZ.bD;have vJ:((ah W qs).getD k []).getD 0 0∈(ah W qs).getD k []:=by rw[ak (Zc (Xn.mpr QP))];exact Zg _
      rw[BA hk] at vJ ⊢;obtain⟨b,hb,eb⟩:=Zd.mp vJ;rw[<- eb];rfl
     have ba:iF (((ah W qs).getD k []).map PyData.int) 0=some (.int ((RZ.bD W qs k:Nat):Int)):=by
      have:=vt (Xn.mpr QP);rw[mi] at this;exact this
     refine⟨_,kP (by omega),_,ba,?_⟩;have eC:=mf.wr k hk;have w1:=mf.w0 k i hk (by omega);have w2:=mf.w0 k _ hk m1;unfold eI at w1 w2;have fA:Ab 100 100 (Rat.divInt ((W.getD k []).getD i 0) ((W.getD k []).getD (RZ.bD W qs k) 0)):=(RZ.km (by omega)).mono (by omega) (by omega);have fR:Rb 7 (Rat.divInt ((W.getD k []).getD i 0) ((W.getD k []).getD (RZ.bD W qs k) 0)):=RZ.iK fA (by decide) (by decide);have qR:Rb 16 (qs.getD (RZ.bD W qs k) 0):=hq _ (by rw[ak (Zc (show RZ.bD W qs k<qs.length by omega))];exact Zg _);have tR:Rb 23 (RZ.iP W qs i k):=ft qR fR;have mR:Rb 23 (RZ.bF W qs i k):=by
      rcases(RZ.gK (W:=W) (qs:=qs) (g:=i) k).2.2 with e |⟨j,hj,_,e⟩
      .rw[e];exact jy.mono (by decide)
      .rw[e];obtain⟨j1,j2,j3⟩:=tp.kG (show j<W.length by omega);have v1:=mf.w0 j i (by omega) (by omega);have v2:=mf.w0 j _ (by omega) j1;unfold eI at v1 v2;have gA:Ab 100 100 (Rat.divInt ((W.getD j []).getD i 0) ((W.getD j []).getD (RZ.bD W qs j) 0)):=(RZ.km (by omega)).mono (by omega) (by omega);have q1:Rb 16 (qs.getD (RZ.bD W qs j) 0):=hq _ (by rw[ak (Zc (show RZ.bD W qs j<qs.length by omega))];exact Zg _);have q2:Rb 7 _:=RZ.iK gA (by decide) (by decide);exact ft q1 q2
     refine⟨_,bo (iM (f:=qD) (d:=(0:Rat)) (show RZ.bD W qs k<qs.length by omega)),_,vt (by omega),_,vt (by omega),⟨m2,by unfold Bd;omega⟩,qs.getD (RZ.bD W qs k) 0,Rat.divInt ((W.getD k []).getD i 0) ((W.getD k []).getD (RZ.bD W qs k) 0),rfl,⟨qR.mono (by decide),fR.mono (by decide)⟩,?_⟩;refine⟨gE,RZ.bF W qs i k,RZ.iP W qs i k,rfl,⟨mR.mono (by decide),tR.mono (by decide)⟩,_,C8 _,rfl,?_⟩;rw[ms];exact⟨_,_,_,_,rfl⟩
    .have z:(!tj (.list (((ah W qs).getD k []).map .int)) (.list []))=false:=z;rw[mZ,X5] at z;exact absurd (List.isEmpty_iff.mp (by simpa using z)) QP
   .rintro sl O' ⟨rfl,z7,z8,z9,Kl,rfl⟩;rw[sL,Za,Zo,bl];exact⟨⟨_,ky _ _⟩,gy _ _ _ _ _ _ _ ta⟩
  .have hc:(cm A.length W).contains (i:Int)=false:=hc;rw[kT (by omega)] at hc;exact⟨⟨_,ky _ _⟩,gy _ _ _ _ _ _ _ (by unfold RZ.bC;rw[hc,Qf,if_neg (by decide)])⟩
  .have IT:RZ.ir W qs i=false:=IT;unfold RZ.bC;rw[IT,Bool.false_and,if_neg (by decide)]
 .rintro sl O' ⟨rfl,y4,y5,y6,y7,y8,y9,pH,rfl⟩;rw[sL,Za,Zo];refine⟨⟨O1.length,(cX W qs).map qD,rfl,by rw[ky];unfold cX;rw[Zj,Zj];rfl,?_⟩⟩;rw[vA];exact h _ (BZ.app _)
def kD (A:Γ3)(Pu:Δ1)(W:Γ1)(qs:Δ1)(S:Γ3):Rat:=KM.ci Pu (cO W qs (aw S)) / iN A qs (aw S)
def yh:FM:=λO xs P _=>∃(j:Nat) (A:Γ3) (Pu:Δ1) (W:Γ1),xs=[.bag j,.im (dm A Pu W)]/\iV (dm A Pu W)=true/\(∀r∈W,∃k∈r,1<=k)/\∀qs:Δ1,eX A Pu W qs->vw A Pu qs W A.length->∀O',cD O O'->P (.im (.tuple (qs.map qD))) O'
abbrev CK:Δ2:=["bag","market","prices","best","by","goods","spare","one","more"]
def JU:MS:=(aE (aL (au yd bP (ae (af 1) (ae (au Gq bP (ae (af 0) (ae (af 1) ai))) ai))) (aP 2))
 (aE (aL (au pz bP (ae (af 1) (ae (af 2) ai))) (aP 3))
 (aE (aL (mC .none) (aP 4))
 (aE (eJ (bw (Kq (au l7 bP (ae (au jS bP (ae (af 1) ai)) ai)) (v4 (mC (.int 1))) v7)) (aP 5) (aE (aL (au Gp bP (ae (af 1) (ae (au rg bP (ae (af 3) (ae (af 5) ai))) ai))) (aP 6))
 (aE (aL (au Aq bP (ae (af 6) (ae (au Gs bP (ae (af 1) (ae (af 2) (ae (af 5) ai)))) ai))) (aP 7))
 (ga (LR (cw (aR (iw false) (af 4) (mC .none))) (cw (au l8 bP (ae (af 7) (ae (af 4) ai))))) (aL (af 7) (aP 4)) dh))))
 (aE (aL (au ph bP (ae (aR jT (mC (.int 1)) (au iI bP (ae (af 0) (ae (mC (.int 9)) ai)))) (ae (mC (.int 10)) ai))) (aP 8))
 (aE (aL (au (f2 iT) bP (ae (af 4) (ae (aR bW (lF (ae (fZ (ae (mC (.int 1)) (ae (mC (.int 1)) ai))) (ae (fZ (ae (mC (.int 1)) (ae (mC (.int 1)) ai))) (ae (fZ (ae (mC (.int 1)) (ae (mC (.int 2)) ai))) (ae (af 8) ai))))) (au iI bP (ae (af 0) (ae (mC (.int 4)) ai)))) ai))) (aP 4))
 (cW (eG lE (ae (bQ 1 [4] (bw (af 2)) (aP 0) fb (au (f2 iT) bP (ae (af 0) (ae (af 1) ai)))) ai)))))))))
def MQ {A:Γ3}{Pu:Δ1}{W:Γ1}{qs:Δ1}(mf:FE A Pu W)(hp:∀r∈W,∃k∈r,1<=k)(hl:qs.length=A.length)(pL:sT W qs):fe W qs A.length:=by
 refine⟨hl,mf.wr,λi j hi hj=>(mf.w0 i j hi hj).1,λi hi=>?_,pL⟩;obtain⟨k,hk,h1⟩:=hp (W.getD i []) (by rw[ak (Zc hi)];exact Zg _);obtain⟨o,ho,e⟩:=Yt hk;refine⟨o,by rw[<- mf.wr i hi];exact ho,?_⟩;rw[ak (Zc ho),e];omega
section
variable {A:Γ3}{Pu:Δ1}{W:Γ1}{qs:Δ1}
def AD (mf:FE A Pu W)(tp:fe W qs A.length){S:Γ3}(hS:S.Sublist (ay A.length W))(bJ:S≠[]):0<KM.ci Pu (cO W (cX W qs) (aw S)):=by
 obtain⟨x,hx⟩:=Jj _ bJ;obtain⟨x0,x1,_,x3⟩:=sM (hS.subset hx);obtain⟨i,hi,hb⟩:=RZ.su tp (show x.toNat<A.length by omega) x3;have hm:i∈cO W (cX W qs) (aw S):=by
  unfold cO;refine Zn.mpr ⟨Zy.mpr hi,?_⟩;unfold cz;refine Zv.mpr ⟨(x.toNat:Int),?_,Zv.mpr ⟨x.toNat,Zd.mpr ⟨x,hx,rfl⟩,decide_eq_true rfl⟩⟩;rw[BA hi];exact Zd.mpr ⟨_,hb,rfl⟩
 unfold KM.ci;refine DN (λz=>?_) λq hq=>?_
 .rw[Xp.mp z] at hm;cases hm
 .obtain⟨b,hb,rfl⟩:=Zd.mp hq;have:=IL hb;have wl:=mf.wl;exact(mf.pu _ (by rw[ak (Zc (show b<Pu.length by omega))];exact Zg _)).1
def uH (mf:FE A Pu W)(S:List Nat):Ab (6*2 ^ 20*(2 ^ 20) ^ 5) ((2 ^ 20) ^ 6) (KM.ci Pu (cO W qs S)):=by
 unfold KM.ci;refine RZ.zG (by decide) (λz hz=>?_) ?_
 .obtain⟨b,hb,rfl⟩:=Zd.mp hz;have:=IL hb;have wl:=mf.wl;exact RZ.Ta (mf.pu _ (by rw[ak (Zc (show b<Pu.length by omega))];exact Zg _)).2
 .rw[Za];have:=PY W qs S;have wl:=mf.wl;have:=mf.n6;omega
def uI (mf:FE A Pu W)(hl:qs.length=A.length)(hq:∀z∈qs,Ab 6000000 200000 z){S:Γ3}(hS:S.length<=6):Ab (6*360000000*200000 ^ 5) (200000 ^ 6) (iN A qs (aw S)):=by
 unfold iN;refine RZ.zG (by decide) (λz hz=>?_) (by rw[Za];unfold aw;rw[Za];exact hS);obtain⟨g,_,rfl⟩:=Zd.mp hz;refine RZ.ni (λz hz=>?_) (by decide) g;obtain⟨j,hj,rfl⟩:=Zd.mp hz;have hj:=Zy.mp hj;have ha:=mf.am (A.getD j 0) (by rw[ak (Zc (show j<A.length by omega))];exact Zg _);exact(RZ.lO (RZ.ni hq (by decide) j) (RZ.zH (A.getD j 0))).mono (show 6000000*_<=_ by omega) (by decide)
def kn (mf:FE A Pu W)(tp:fe W qs A.length){S:Γ3}(hS:S.Sublist (ay A.length W))(bJ:S≠[]):0<iN A (cX W qs) (aw S):=by
 have hl:=tp.len;have BX:=RZ.gQ W qs;refine RZ.qr (by omega) (λa ha=>(mf.am a ha).1) (λg hg=>?_) (λz=>bJ (Xp.mp z));obtain⟨x,hx,rfl⟩:=Zd.mp hg;obtain⟨x0,x1,_,x3⟩:=sM (hS.subset hx);exact⟨by omega,(RZ.ua tp).pos _ (by omega) x3⟩
def Eb (ok:iV (dm A Pu W)=true)(tp:fe W qs A.length)(vK:∀z∈qs,Ab 60000 2000 z){f m:Rat}(hf:gJ (((aB (ay A.length W)).drop 1).map (kD A Pu W (cX W qs))) f)(m0:0<m)(m1:m<=1)(mA:Ab 9 10 m):eX A Pu W (cS (cX W qs) (f*m))/\vw A Pu (cS (cX W qs) (f*m)) W A.length:=by
 have mf:=u9 ok;have nd:=BD A.length W;have tl:=RZ.gQ W qs;have hl:=tp.len;have tA:=RZ.yC tp vK (λi j hi hj=>(mf.w0 i j hi hj).2);obtain⟨S0,hS0,e0⟩:=Zd.mp hf.1;obtain⟨s1,s2⟩:=OK nd hS0;have sl:S0.length<=6:=by have:=s1.length_le;have:=sP A.length W;have:=mf.g6;unfold ay aV at *;simp at *;omega
 have mp:=kn mf tp s1 s2;have f0:0<f:=by rw[<- e0];exact BN (AD mf tp s1 s2) mp
 have c0:0<f*m:=Y6 f0 m0;have cf:f*m<=f:=by
  have:=X2 m1 (Z7 f0);rw[Rat.mul_one] at this;exact this
 have fA:Ab ((6*2 ^ 20*(2 ^ 20) ^ 5)*(200000 ^ 6)) (((2 ^ 20) ^ 6)*(6*360000000*200000 ^ 5)) f:=by
  rw[<- e0];exact RZ.ID (uH mf _) (uI mf (by omega) tA sl) (λz=>by rw[z] at mp;exact absurd mp (by decide))
 have sb:∀z∈cS (cX W qs) (f*m),Rb 280 z:=λz hz=>by
  obtain⟨q,hq,rfl⟩:=Zd.mp (show z∈List.map _ _ from hz);exact RZ.iK (RZ.lO (tA q hq) (RZ.lO fA mA)) (by decide+kernel) (by decide+kernel)
 refine⟨⟨⟨ok,by unfold cS;rw[Za];omega,AJ (RZ.ua tp) c0,λz hz=>(sb z hz).mono (by decide)⟩,sb⟩,RZ.AI c0 λS hS bJ=>?_⟩;have hm:S∈(aB (ay A.length W)).drop 1:=by
  have h1:S∈aB (ay A.length W):=cv.mpr hS;rw[lS] at h1;rcases Zl.mp h1 with z |z
  .exact absurd z bJ
  .exact z
 have h2:=hf.2 _ (Zd.mpr ⟨S,hm,rfl⟩);have mpS:=kn mf tp hS bJ;have h3:f*m<=kD A Pu W (cX W qs) S:=Yi cf h2;have h4:=Qi h3 (Z7 mpS);unfold kD at h4;rw[PZ mpS] at h4;exact h4
end
def Tl {m:Rat}(m0:0<m)(m1:m<=1)(mA:Ab 9 10 m){r:Int}(h0:0<=r)(h1:r<4):∃z:Rat,0<z/\z<=1/\Ab 9 10 z/\iF [.tuple [.int 1,.int 1],.tuple [.int 1,.int 1],.tuple [.int 1,.int 2],qD m] r=some (qD z):=by
 have:r=0\/r=1\/r=2\/r=3:=by omega
 rcases this with rfl |rfl |rfl |rfl
 .exact⟨1,by decide,by decide,⟨by decide,by decide⟩,rfl⟩
 .exact⟨1,by decide,by decide,⟨by decide,by decide⟩,rfl⟩
 .exact⟨TW 2 (by decide),by decide,by decide,⟨by decide,by decide⟩,rfl⟩
 .exact⟨m,m0,m1,mA,rfl⟩
def GC {A:Γ3}{Pu:Δ1}{W:Γ1}{qs:Δ1}(mf:FE A Pu W)(tp:fe W qs A.length):ay A.length W≠[]:=by
 have wl:=mf.wl;have n1:=mf.n1;obtain⟨o,ho,hw⟩:=tp.pos 0 (by omega);have:(o:Int)∈ay A.length W:=Zd.mpr ⟨o,Zn.mpr ⟨Zy.mpr ho,RZ.wE (show 0<W.length by omega) hw⟩,rfl⟩;intro z;rw[z] at this;cases this
def GZ:∀O xs Pq QX,yh O xs Pq QX->JU { nx:=λ_ O'=>Pq (.im .none) O',rt:=Pq } (bf CK xs) O:=by
 intro O xs Pq QX h;obtain⟨jb,A,Pu,W,rfl,ok,dQ,h⟩:=h;have mf:=u9 ok;have g6:=mf.g6;have n6:=mf.n6;have n1:=mf.n1;have wl:=mf.wl;refine⟨jb,A,Pu,W,rfl,ok,λqs hl pL vK O1 BZ=>?_⟩;have tp:=MQ mf dQ hl pL;refine⟨A,Pu,W,qs,rfl,ok,tp,vK,λO2 IX=>?_⟩;have O0:=zQ BZ IX;have tl:=RZ.gQ W qs;have tA:=RZ.yC tp vK (λi j hi hj=>(mf.w0 i j hi hj).2);have pr:=λ(f m:Rat) hf m0 m1 mA=>Eb (f:=f) (m:=m) ok tp vK hf m0 m1 mA
 have tm:=λ(S:Γ3) hS bJ=>kn (S:=S) mf tp hS bJ
 have Ow:=GC mf tp;generalize cX W qs=tq at tl tA pr tm ⊢;have tR:∀z∈tq,Rb 23 z:=λz hz=>RZ.iK (tA z hz) (by decide) (by decide)
 have Ve:tq.length=A.length:=by omega
 refine⟨A,Pu,W,tq,rfl,by omega,by omega,λi hi=>by rw[mf.wr i hi,Ve],λi j hi hj=>mf.w0 i j hi (by omega),λz hz=>(tR z hz).mono (by decide),λO3 KY=>?_⟩;have hO3:=zQ O0 KY;refine⟨?_⟩;have nd:=BD A.length W;have ahB:=sP A.length W;refine⟨A,Pu,W,rfl,g6,by omega,by omega,mf.wr,ay A.length W,rfl,by omega,λO4 Pa=>?_⟩;have hO4:=zQ hO3 Pa;have L0:cutD ((aB (ay A.length W)).map aD) (some (1:Int)) none=((aB (ay A.length W)).drop 1).map aD:=by
  have:=jJ (xs:=(aB (ay A.length W)).map aD) (r:=(1:Int)) (by omega) (by rw[Za,BR];have:0<2 ^ (ay A.length W).length:=Nat.pow_pos (by decide);omega);rw[this,Qy];rfl
 show FB _ _ _ _ ((cutD ((aB (ay A.length W)).map aD) (some (1:Int)) none).map AV.im) O4;rw[L0];have lne:(aB (ay A.length W)).drop 1≠[]:=λz=>by
  have z3:((aB (ay A.length W)).drop 1).length=0:=by rw[z];rfl
  rw[Xk,BR] at z3;have:2 ^ 1<=2 ^ (ay A.length W).length:=Y1 (by decide) (Xn.mpr Ow);omega
 have hL:∀S∈(aB (ay A.length W)).drop 1,S.Sublist (ay A.length W)/\S≠[]:=λS hS=>OK nd hS
 generalize (aB (ay A.length W)).drop 1=L at lne hL pr ⊢;have KN:(ah W tq).length<=6:=by rw[qU];omega
 have Fx:∀k,k<(ah W tq).length->((ah W tq).getD k []).length<=6:=λk hk=>by rw[qU] at hk;exact Zk (jq hk (mf.wr k hk)) g6
 have FA:∀S:Γ3,S.Sublist (ay A.length W)->S.length<=6/\(∀x∈S,0<=x/\x.toNat<tq.length):=λS hS=>⟨by have:=hS.length_le;omega,λx hx=>by obtain⟨a,b,_⟩:=sM (hS.subset hx);exact⟨a,by omega⟩⟩
 have Ψ:∀S:List Nat,Rb 200 (KM.ci Pu (cO W tq S)):=λS=>RZ.iK (uH mf S) (by decide+kernel) (by decide+kernel)
 have moR:∀S:Γ3,S.length<=6->Rb 200 (iN A tq (aw S)):=λS hS=>RZ.iK (uI mf Ve tA hS) (by decide+kernel) (by decide+kernel)
 have oR:∀S∈L,Rb 400 (kD A Pu W tq S):=λS hS=>by
  obtain⟨h1,h2⟩:=hL S hS;have m0:=tm S h1 h2;exact jz (Ψ _) (moR S (FA S h1).1) (λz=>by rw[z] at m0;exact absurd m0 (by decide))
 refine⟨λi sl O'=>cD O O'/\∃(x4:AV) (y5 y6 y7:Option AV),sl=[some (.bag jb),Φ9 (dm A Pu W),Φ9 (.tuple (tq.map qD)),Φ9 (.list ((ah W tq).map aD)),some x4,y5,y6,y7,none]/\((i=0/\x4=.im .none)\/∃f,gJ ((L.take i).map (kD A Pu W tq)) f/\x4=.im (qD f)),⟨hO4,_,_,_,_,rfl,.inl ⟨rfl,rfl⟩⟩,?_,?_⟩
 .rintro i x sl O' hx ⟨hG,x4,y5,y6,y7,rfl,hs⟩;obtain⟨hi,rfl⟩:=oD hx;have hm:L.getD i []∈L:=by rw[ak (Zc hi)];exact Zg _
  have ht:(L.take (i+1)).map (kD A Pu W tq)=(L.take i).map (kD A Pu W tq)++[kD A Pu W tq (L.getD i [])]:=by rw[Kt ([]:Γ3) hi,Zr];rfl
  have oi:=oR _ hm;generalize L.getD i []=S at hm ht oi ⊢;obtain⟨s1,s2⟩:=hL S hm;obtain⟨s3,s4⟩:=FA S s1;have m0:=tm S s1 s2;refine⟨ah W tq,S,.im (aD S),rfl,.inl rfl,KN,Fx,λO5 Wp=>?_⟩;rw[jx λx hx=>(s4 x hx).1];have Wn:=zQ hG Wp;refine⟨A,Pu,W,cO W tq (aw S),rfl,λz hz=>(mf.pu z hz).2,by have:=PY W tq (aw S);omega,λb hb=>by have:=IL hb;omega,?_⟩;refine⟨A,Pu,W,tq,S,rfl,Ve,mf.am,λz hz=>(tR z hz).mono (by decide),s3,s4,KM.ci Pu (cO W tq (aw S)),iN A tq (aw S),rfl,⟨(Ψ _).mono (by decide),(moR S s3).mono (by decide),m0⟩,?_⟩;rcases hs with ⟨rfl,rfl⟩ |⟨f,Fv,rfl⟩
  .refine⟨λ_=>⟨λ_=>⟨Wn,_,_,_,_,rfl,.inr ⟨kD A Pu W tq S,?_,rfl⟩⟩,λz=>(by cases z)⟩,λz=>(by cases z)⟩;rw[ht];exact⟨by simp,λz hz=>by rw[List.take_zero,X8,List.nil_append,Z2] at hz;rw[hz];exact Yf⟩
  .have OY:Rb 400 f:=by
    obtain⟨T,hT,rfl⟩:=Zd.mp Fv.1;exact oR T (Jf hT)
   refine⟨λz=>(by cases z),λ_=>⟨kD A Pu W tq S,f,rfl,⟨oi.mono (by decide),OY.mono (by decide)⟩,λhc=>⟨Wn,_,_,_,_,rfl,.inr ⟨kD A Pu W tq S,?_,rfl⟩⟩,λhc=>⟨Wn,_,_,_,_,rfl,.inr ⟨f,?_,rfl⟩⟩⟩⟩
   .have hc:kD A Pu W tq S<f:=of_decide_eq_true hc;rw[ht];refine⟨by simp,λz hz=>?_⟩;rcases Zt.mp hz with hz |hz
    .exact Yi (Z7 hc) (Fv.2 z hz)
    .rw[Z2.mp hz];exact Yf
   .have hc:¬ kD A Pu W tq S<f:=of_decide_eq_false hc;rw[ht];refine⟨Xw _ Fv.1,λz hz=>?_⟩;rcases Zt.mp hz with hz |hz
    .exact Fv.2 z hz
    .rw[Z2.mp hz];exact Yh.mp hc
 .rintro sl O' ⟨hG,x4,y5,y6,y7,rfl,hs⟩;rw[Za,Za,Yd] at hs;obtain⟨f,iS,rfl⟩:∃f,gJ (L.map (kD A Pu W tq)) f/\x4=.im (qD f):=by
   rcases hs with ⟨z,_⟩ |z
   .exact absurd (Qw.mp z) lne
   .exact z
  have OY:Rb 400 f:=by
   obtain⟨T,hT,rfl⟩:=Zd.mp iS.1;exact oR T hT
  refine⟨⟨by decide,by decide⟩,λr1 a1 b1=>⟨⟨by decide,Bd.mono (show Bd 4 10 by unfold Bd;decide) (by decide)⟩,?_⟩⟩;obtain⟨mA,m0⟩:=sr (t:=1+r1) (u:=10) (N:=9) (D:=10) (by omega) (by omega) (by omega) (by omega);have m1:Rat.divInt (1+r1) 10<=1:=by
   rw[X0];have h1:((1+r1:Int):Rat)<=((10:Int):Rat):=Rat.intCast_le_intCast.mpr (by omega);have h2:(0:Rat)<((10:Int):Rat):=by decide
   exact Je (by rw[PZ h2,Rat.one_mul];exact h1) h2
  generalize Rat.divInt (1+r1) 10=m at mA m0 m1 ⊢;refine⟨gE,gE,gE,by show 4<=sizeLine;decide,⟨by decide,by decide⟩,λr2 a2 b2=>?_⟩;obtain⟨z,z0,z1,zA,ez⟩:=Tl m0 m1 mA a2 b2;refine⟨_,ez,f,z,rfl,⟨OY.mono (by decide),(RZ.iK (k:=4) zA (by decide) (by decide)).mono (by decide)⟩,?_⟩;obtain⟨rp,o9⟩:=pr f z iS z0 z1 zA;have cR:Rb 404 (f*z):=ft OY (RZ.iK (k:=4) zA (by decide) (by decide));refine⟨?_⟩;conv=>whnf
  refine u8 (λj=>qD (iT (tq.getD j 0) (f*z))) ?_ (λj x Z hx hZ=>?_) ?_
  .rw[Za,Za];omega
  .have hj:j<tq.length:=by have:=(Zf.mp hx).1;simpa using this
   rw[Zh,iM (f:=qD) (d:=(0:Rat)) hj] at hx;cases Option.some.inj hx;exact⟨tq.getD j 0,f*z,rfl,⟨(tR _ (by rw[ak (Zc hj)];exact Zg _)).mono (by decide),cR.mono (by decide)⟩,hZ⟩
  rw[Za,Za];have e:(List.range tq.length).map (λj=>qD (iT (tq.getD j 0) (f*z)))=(cS tq (f*z)).map qD:=by
   unfold cS;rw[Zj];exact zS (λq:Rat=>qD (iT q (f*z))) tq 0
  rw[e];exact h _ rp o9 _ hG
def Gu:FM:=λO xs P _=>∃(A:Γ3) (Pu:Δ1) (W:Γ1),xs=[.im (dm A Pu W)]/\iV (dm A Pu W)=true/\(∀r∈W,∃k∈r,1<=k)/\∀qs:Δ1,eX A Pu W qs->vw A Pu qs W A.length->∀O',cD O O'->P (.im (.tuple (qs.map qD))) O'
abbrev MC:Δ2:=["market","least_v","purse","many","base","made","good","price","row","mine"]
def R4:MS:=(aE (aL (aR bW (aR bW (af 0) (mC (.int 1))) (mC (.int 0))) (aP 1))
 (aE (eJ (bw (aR bW (af 0) (mC (.int 1)))) (aP 2) (ga (cw (au l8 bP (ae (af 2) (ae (af 1) ai)))) (aL (af 2) (aP 1)) dh))
 (aE (aL (eG tF (ae (bQ 1 [0] (bw (au jS bP (ae (af 0) ai))) (aP 0) fb (aR bW (aR bW (af 1) (mC (.int 0))) (af 0))) ai)) (aP 3))
 (aE (aL (au Aq bP (ae (af 1) (ae (fZ (ae (af 3) (ae (mC (.int 1)) ai))) ai))) (aP 4))
 (aE (aL (nz ai) (aP 5))
 (aE (eJ (jQ (ae (eG gc (ae (aR bW (af 0) (mC (.int 0))) ai)) ai)) (aP 6) (aE (aL (fZ (ae (mC (.int 0)) (ae (mC (.int 1)) ai))) (aP 7))
 (aE (eJ (bw (aR bW (af 0) (mC (.int 2)))) (aP 8) (aE (aL (au (f2 iT) bP (ae (af 4) (ae (au ph bP (ae (aR bW (af 8) (af 6)) (ae (eG FY (ae (af 8) ai)) ai))) ai))) (aP 9))
 (ga (cw (au l8 bP (ae (af 7) (ae (af 9) ai)))) (aL (af 9) (aP 7)) dh)))
 (iY (nA (af 5) (ae (af 7) ai))))))
 (rd 5 (cW (eG lE (ae (af 5) ai))))))))))
def qv {A:Γ3}{Pu:Δ1}{W:Γ1}(mf:FE A Pu W)(hp:∀r∈W,∃k∈r,1<=k):∀r∈W,cH A.length r:=λr hr=>by
 obtain⟨i,hi,e⟩:=Yt hr;have er:W.getD i []=r:=by rw[ak (Zc hi)];exact e
 have hl:=mf.wr i hi;rw[er] at hl;refine⟨hl,λk hk=>?_,hp r hr⟩;obtain⟨o,ho,rfl⟩:=Yt hk;have:=mf.w0 i o hi (by omega);unfold eI at this;rw[er,ak (Zc ho)] at this;exact this
def xn {A:Γ3}{Pu:Δ1}{W:Γ1}{qs:Δ1}(ok:iV (dm A Pu W)=true)(hp:∀r∈W,∃k∈r,1<=k)(hF:yu A Pu W A.length qs):eX A Pu W qs/\vw A Pu qs W A.length:=by
 have mf:=u9 ok;have hM:=qv mf hp;have wl:=mf.wl;have n1:=mf.n1;have Ow:W≠[]:=λz=>by rw[z] at wl;simp at wl;omega
 have OR:=oQ (am:=A) hM Ow rfl (λa ha=>(mf.am a ha).1);have hpu:=qq (am:=A) (M:=W) rfl mf.g6 (λa ha=>(mf.am a ha).2);have zV:∀p∈Pu,0<p:=λp h=>(mf.pu p h).1
 have pf:=EU (z:=kz A (aV A.length W)) (by omega);have bJ:((kz A (aV A.length W):Int):Rat)≠0:=λz=>by rw[z] at pf;exact absurd pf (by decide)
 have b1:Rb 9 ((kz A (aV A.length W):Int):Rat):=u7 (by unfold Bd;omega) (by decide);obtain⟨mn,BH,hq⟩:=hF.ex;have hb:0<mn / ((kz A (aV A.length W):Int):Rat):=BN (zV mn BH.1) pf;have bd:∀z∈qs,Rb 280 z:=λz hz=>by
  obtain⟨g,hg,rfl⟩:=Yt hz;obtain⟨sh,zT,e⟩:=hq g (by rw[<- hF.len];exact hg);rw[ak (Zc hg)] at e;rw[e];obtain⟨r,hr,rfl⟩:=Zd.mp zT.1;exact(ft (jz (mf.pu mn BH.1).2 b1 bJ) (ou (hM r hr))).mono (by decide)
 have QE:∀{i:Nat},i<W.length->W.getD i []∈W:=λhi=>by rw[ak (Zc hi)];exact Zg _
 have pL:sT W qs:=by
  refine⟨λj hj hh=>?_,λj hj hh=>?_⟩
  .obtain⟨sh,zT,e⟩:=hq j (by rw[<- hF.len];exact hj);rw[e];obtain⟨i,hi,hw⟩:=RZ.uy hh;have h1:=zT.2 _ (Zd.mpr ⟨_,QE hi,rfl⟩);have h2:0<bO j (W.getD i []):=BN (EU hw) (EU (by have:=(hM _ (QE hi)).mx.1;omega));exact Y6 hb (Rat.not_le.mp λz=>absurd h2 (Yh.mpr (Yi h1 z)))
  .obtain⟨sh,zT,e⟩:=hq j (by rw[<- hF.len];exact hj);rw[e];obtain⟨r,hr,rfl⟩:=Zd.mp zT.1;obtain⟨i,hi,e2⟩:=Yt hr;have er:W.getD i []=r:=by rw[ak (Zc hi)];exact e2
   have h0:=(hM r hr).at j;have:r.getD j 0=0:=by
    rcases Qb 0 (r.getD j 0) with y |y
    .rw[RZ.wE hi (by rw[er];exact y)] at hh;cases hh
    .omega
   have hz:bO j r=0:=by unfold bO;rw[this];show(0:Rat) / _=0;rw[Rat.div_def,X1]
   rw[hz,Xo]
 refine⟨⟨⟨ok,hF.len,pL,λz hz=>(bd z hz).mono (by decide)⟩,bd⟩,λS hS=>?_⟩;refine uV hM hF zV (by omega) rfl (λa ha=>(mf.am a ha).1) OR ?_;have:=hS.map Int.toNat;unfold ay at this;rw[Zj] at this;have e:(aV A.length W).map (Int.toNat ∘ λj:Nat=>(j:Int))=aV A.length W:=by
  have:(Int.toNat ∘ λj:Nat=>(j:Int))=id:=funext λj=>Zo j
  rw[this,Xc]
 rw[e] at this;exact this
def Nd:∀O xs Pq QX,Gu O xs Pq QX->R4 { nx:=λ_ O'=>Pq (.im .none) O',rt:=Pq } (bf MC xs) O:=by
 intro O xs Pq QX h;obtain⟨A,Pu,W,rfl,ok,dQ,h⟩:=h;have mf:=u9 ok;have g6:=mf.g6;have n6:=mf.n6;have n1:=mf.n1;have wl:=mf.wl;have hM:=qv mf dQ;have Ow:W≠[]:=λz=>by rw[z] at wl;simp at wl;omega
 have OR:=oQ (am:=A) hM Ow rfl (λa ha=>(mf.am a ha).1);have hpu:=qq (am:=A) (M:=W) rfl g6 (λa ha=>(mf.am a ha).2);have pf:=EU (z:=kz A (aV A.length W)) (by omega);have bJ:((kz A (aV A.length W):Int):Rat)≠0:=λz=>by rw[z] at pf;exact absurd pf (by decide)
 have b1:Rb 9 ((kz A (aV A.length W):Int):Rat):=u7 (by unfold Bd;omega) (by decide);refine⟨_,rfl,_,bo (iM (f:=qD) (d:=(0:Rat)) (show 0<Pu.length by omega)),?_⟩;have p0:Pu.getD 0 0∈Pu:=by rw[ak (Zc (show 0<Pu.length by omega))];exact Zg _
 refine⟨_,rfl,?_⟩;conv=>whnf
 refine⟨λi sl O'=>O'=O/\∃(f:Rat) (y2:Option AV),sl=[Φ9 (dm A Pu W),Φ9 (qD f),y2,none,none,none,none,none,none,none]/\f∈Pu/\∀z∈Pu.take i,f<=z,⟨rfl,_,_,rfl,p0,λz hz=>(by cases hz)⟩,?_,?_⟩
 .rintro i x sl O' hx ⟨rfl,f,y2,rfl,hf,iS⟩;have hi:i<Pu.length:=by have:=(Zf.mp hx).1;simpa using this
  rw[Zh,iM (f:=qD) (d:=(0:Rat)) hi] at hx;cases Option.some.inj hx;have hm:Pu.getD i 0∈Pu:=by rw[ak (Zc hi)];exact Zg _
  have ht:=Kt (0:Rat) hi;refine⟨Pu.getD i 0,f,rfl,⟨(mf.pu _ hm).2.mono (by decide),(mf.pu _ hf).2.mono (by decide)⟩,λhc=>⟨rfl,_,_,rfl,hm,λz hz=>?_⟩,λhc=>⟨rfl,_,_,rfl,hf,λz hz=>?_⟩⟩
  .have hc:Pu.getD i 0<f:=of_decide_eq_true hc;rw[ht] at hz;rcases Zt.mp hz with hz |hz
   .exact Yi (Z7 hc) (iS z hz)
   .rw[Z2.mp hz];exact Yf
  .have hc:¬ Pu.getD i 0<f:=of_decide_eq_false hc;rw[ht] at hz;rcases Zt.mp hz with hz |hz
   .exact iS z hz
   .rw[Z2.mp hz];exact Yh.mp hc
 rintro sl O' ⟨rfl,mn,y2,rfl,BH,iS⟩;rw[Za,Za,Yd] at iS;have ZO:gJ Pu mn:=⟨BH,iS⟩;refine⟨A,Pu,W,rfl,g6,by omega,by omega,mf.wr,?_⟩;conv=>whnf
 refine u8 (λj=>.int (A.getD ((cm A.length W).getD j 0).toNat 0)) ?_ (λj x Z hx hZ=>?_) ?_
 .rw[Za,Za];have:=sP A.length W;exact Zk this (by omega)
 .obtain⟨hj,rfl⟩:=sV hx;have hm:(cm A.length W).getD j 0∈ay A.length W:=by rw[ak (Zc hj)];exact Zg _
  obtain⟨w0,w1,_⟩:=sM hm;exact⟨_,rfl,_,vT w0 w1,hZ⟩
 rw[Za,Za];have es:(List.range (cm A.length W).length).map (λj=>PyData.int (A.getD ((cm A.length W).getD j 0).toNat 0))=((cm A.length W).map λx=>A.getD x.toNat 0).map .int:=by
  rw[Zj];exact zS (λx:Int=>PyData.int (A.getD x.toNat 0)) (cm A.length W) 0
 rw[es];refine⟨_,rfl,?_⟩;have ep:((cm A.length W).map λx=>A.getD x.toNat 0).sum=kz A (aV A.length W):=by
  unfold kz cm aV;rw[Zj];rfl
 rw[ep];generalize hpi:kz A (aV A.length W)=pc at OR hpu pf bJ b1;refine⟨gE,mn,((pc:Int):Rat),rfl,⟨(mf.pu mn BH).2.mono (by decide),b1.mono (by decide),pf⟩,?_⟩;have bR:Rb 29 (mn / ((pc:Int):Rat)):=jz (mf.pu mn BH).2 b1 bJ;have b0:0<mn / ((pc:Int):Rat):=BN (mf.pu mn BH).1 pf;have gy:∀es:Δ1,es.length=A.length->(∀g,g<A.length->∃sh,t7 (W.map (bO g)) sh/\es.getD g 0=mn / ((pc:Int):Rat)*sh)->yu A Pu W A.length es:=λes hl he=>⟨hl,mn,ZO,by rw[hpi];exact he⟩
 generalize mn / ((pc:Int):Rat)=base at bR b0 gy ⊢;refine⟨⟨j9,?_⟩⟩;refine⟨_,rfl,⟨by rw[Za];omega,by rw[Za];omega⟩,λi sl pS=>∃es:Δ1,es.length=i/\(∀g,g<i->∃sh,t7 (W.map (bO g)) sh/\es.getD g 0=base*sh)/\pS=O'++[some (es.map λz=>AV.im (qD z))]/\∃y6 y7 y8 y9,sl=[Φ9 (dm A Pu W),Φ9 (qD mn),y2,Φ9 (.int pc),Φ9 (qD base),some (.own O'.length),y6,y7,y8,y9],⟨[],rfl,λg hg=>absurd hg (Nat.not_lt_zero _),rfl,_,_,_,_,rfl⟩,?_,?_⟩
 .rintro i x sl pS hx ⟨es,BI,xG,rfl,y6,y7,y8,y9,rfl⟩;obtain⟨hi,rfl⟩:=sK hx;rw[Za,Zo] at hi;refine⟨gE,?_⟩;refine⟨_,rfl,?_⟩;conv=>whnf
  refine⟨λk sl pS=>pS=O'++[some (es.map λz=>AV.im (qD z))]/\∃(z:Rat) (z8 z9:Option AV),sl=[Φ9 (dm A Pu W),Φ9 (qD mn),y2,Φ9 (.int pc),Φ9 (qD base),some (.own O'.length),Φ9 (.int (i:Int)),Φ9 (qD z),z8,z9]/\(z=0\/∃r∈W,z=base*bO i r)/\∀r∈W.take k,base*bO i r<=z,⟨rfl,_,_,_,rfl,.inl rfl,λr hr=>(by cases hr)⟩,?_,?_⟩
  .rintro k x sl pS hx ⟨rfl,z,z8,z9,rfl,hz,IS⟩;have hk:k<W.length:=by have:=(Zf.mp hx).1;simpa using this
   rw[Zh,iM (f:=aS) (d:=[]) hk] at hx;cases Option.some.inj hx;have hm:W.getD k []∈W:=by rw[ak (Zc hk)];exact Zg _
   have ht:=Kt ([]:Γ3) hk;have gr:=hM _ hm;generalize W.getD k []=r at hm ht gr ⊢;have rl:=gr.len;have mx:=gr.mx;have sR:=ou (g:=i) gr;have zR:Rb 36 z:=by
    rcases hz with rfl |⟨r',jN,rfl⟩
    .exact jy.mono (by decide)
    .exact ft bR (ou (hM r' jN))
   refine⟨_,vt (by omega),r,rfl,λe=>by rw[e] at rl;simp at rl;omega,λm VZ hm2=>?_⟩;have em:m=mD r:=HU VZ hm2 (λn hn=>(gr.bd n hn).1);subst em;refine⟨⟨by omega,by unfold Bd;omega⟩,base,bO i r,by rw[qk],⟨bR.mono (by decide),sR.mono (by decide)⟩,?_⟩;have mR:Rb 36 (base*bO i r):=ft bR sR;refine⟨z,base*bO i r,rfl,⟨zR.mono (by decide),mR.mono (by decide)⟩,λhc=>⟨rfl,_,_,_,rfl,.inr ⟨r,hm,rfl⟩,λq hq=>?_⟩,λhc=>⟨rfl,_,_,_,rfl,hz,λq hq=>?_⟩⟩
   .have hc:z<base*bO i r:=of_decide_eq_true hc;rw[ht] at hq;rcases Zt.mp hq with hq |hq
    .exact Yi (IS q hq) (Z7 hc)
    .rw[Z2.mp hq];exact Yf
   .have hc:¬ z<base*bO i r:=of_decide_eq_false hc;rw[ht] at hq;rcases Zt.mp hq with hq |hq
    .exact IS q hq
    .rw[Z2.mp hq];exact Yh.mp hc
  .rintro sl pS ⟨rfl,z,z8,z9,rfl,hz,IS⟩;rw[Za,Za,Yd] at IS;obtain⟨sh,zT,e⟩:=GQ b0 hM Ow hz IS;refine⟨⟨_,ky _ _⟩,_,ky _ _,by rw[Za,sz];omega,es++[z],by simp[BI],λg hg=>?_,by rw[vA,Zr];rfl,_,_,_,_,rfl⟩;rcases Qz.mp hg with y |rfl
   .obtain⟨s,h1,h2⟩:=xG g y;exact⟨s,h1,by rw[<- h2];simp[List.getD,Z4 (show g<es.length by omega)]⟩
   .exact⟨sh,zT,by rw[<- e];simp[List.getD,<- BI]⟩
 .rintro sl pS ⟨es,BI,xG,rfl,y6,y7,y8,y9,rfl⟩;rw[sL,Za,Zo] at BI xG;refine⟨⟨O'.length,es.map qD,rfl,by rw[ky,Zj];rfl,?_⟩⟩;rw[vA];obtain⟨rp,o9⟩:=xn ok dQ (gy es BI xG);exact h es rp o9 _ ⟨_,rfl⟩
abbrev SH:Δ2:=["script","k","bag","market","prices","found"]
def Dn:MS:=(aE (eJ (jQ (ae (aR jT (eG (p7 λi j=>if j<i then j else i) (ae (eG Cv (ae (af 0) ai)) (ae (mC (.int 12)) ai))) (mC (.int 2))) ai)) (aP 1) (aE (aL (au L7 bP (ae (af 0) (ae (af 1) ai))) (aP 2))
 (aE (aL (au Sv bP (ae (af 2) ai)) (aP 3))
 (eJ (bw (lF (ae (au yh bP (ae (af 2) (ae (af 3) ai))) (ae (au Gu bP (ae (af 3) ai)) ai)))) (aP 4) (aE (aL (au yf bP (ae (af 3) (ae (af 4) ai))) (aP 5))
 (aE (ga (cw (aR (xI true) (af 5) (au ye bP (ae (af 3) (ae (af 4) ai))))) (cW (mC (.bool false))) dh)
 (ga (pY (cw (aR (iw true) (af 5) (mC .none))) (Ga (cw (au l8 bP (ae (fZ (ae (mC (.int 1)) (ae (mC (.int 1)) ai))) (ae (aR bW (af 5) (mC (.int 1))) ai)))))) (cW (mC (.bool false))) dh)))))))
 (cW (mC (.bool true))))
theorem uv:∀ns:Γ3,PyData.canLayAll0 (ns.map .int)=true
 |[]=>rfl
 |n::ns=>by rw[Zs,PyData.canLayAll0,uv ns];rfl
theorem Du:∀qs:Δ1,PyData.canLayAll0 (qs.map qD)=true
 |[]=>rfl
 |q::qs=>by rw[Zs,PyData.canLayAll0,Du qs];rfl
def Et (Pd:Γ3)(f:Rat)(qs:Δ1):(PyData.tuple [aS Pd,qD f,.tuple (qs.map qD)]).canLay0=true:=by
 have h1:(aS Pd).canLay0=true:=by show(PyData.tuple _).canLay0=true;rw[PyData.canLay0];exact uv Pd
 have h2:(PyData.tuple (qs.map qD)).canLay0=true:=by rw[PyData.canLay0];exact Du qs
 rw[PyData.canLay0,PyData.canLayAll0,PyData.canLayAll0,PyData.canLayAll0,h1,h2];rfl
def ED (Pd:Γ3)(f:Rat)(qs:Δ1):(PyData.tuple [aS Pd,qD f,.tuple (qs.map qD)]).depth<=60:=by
 have h1:(aS Pd).depth<=10:=by show(PyData.tuple _).depth<=10;rw[PyData.depth,sf];decide
 have h2:=DA qs;have h3:=CH f;simp[PyData.depth,PyData.depthAll];omega
def DW:∀O xs Pq QX,L5 O xs Pq QX->Dn { nx:=λ_ O'=>Pq (.im .none) O',rt:=Pq } (bf SH xs) O:=by
 intro O xs Pq QX h;obtain⟨ns,rfl,OT,h⟩:=h;have cu:(if (12:Int)<(ns.length:Int) then (12:Int) else (ns.length:Int))+2<=14:=by split<;>omega
 have acv:0<=(if (12:Int)<(ns.length:Int) then (12:Int) else (ns.length:Int))+2:=by split<;>omega
 refine⟨⟨by dsimp only;omega,by dsimp only;omega⟩,λi sl O'=>∃y1 y2 y3 y4 y5,sl=[some (.xC ns),y1,y2,y3,y4,y5],⟨_,_,_,_,_,rfl⟩,?_,?_⟩
 rotate_left
 .rintro sl O' _;exact⟨h O'⟩
 rintro i x sl O' hx ⟨y1,y2,y3,y4,y5,rfl⟩;obtain⟨hi,rfl⟩:=sK hx;have ahO:i<14:=by dsimp only at hi;omega
 refine⟨⟨by omega,by omega⟩,λbj=>⟨⟨bj,rfl,λA Pu W ok dQ=>?_⟩⟩⟩;refine⟨bj,A,Pu,W,rfl,ok,dQ,λq1 rp1 ZC O1 BZ=>⟨A,Pu,W,rfl,ok,dQ,λq2 rp2 ZB O2 IX=>⟨gE,?_⟩⟩⟩;conv=>whnf
 refine⟨λj sl O'=>∃y4 y5,sl=[some (.xC ns),Φ9 (.int i),some (.bag bj),Φ9 (dm A Pu W),y4,y5],⟨_,_,rfl⟩,?_,?_⟩
 rotate_left
 .rintro sl O' ⟨y4,y5,rfl⟩;exact⟨_,_,_,_,_,rfl⟩
 rintro j x sl O3 hx ⟨z4,z5,rfl⟩;obtain⟨qs,rfl,rp,o9⟩:∃qs,x=.im (.tuple (qs.map qD))/\eX A Pu W qs/\vw A Pu qs W A.length:=by
  rcases Zl.mp (Zu hx) with e |e
  .exact⟨q1,e,rp1,ZC⟩
  .rcases Zl.mp e with e |e
   .exact⟨q2,e,rp2,ZB⟩
   .cases e
 refine⟨A,Pu,W,qs,rfl,rp,o9,λPd pd hr=>?_,λPd f pd hr iS=>?_⟩
 .show Go _ _ [some (.xC ns),Φ9 (.int i),some (.bag bj),Φ9 (dm A Pu W),Φ9 (.tuple (qs.map qD)),Φ9 .none] O3;refine⟨A,Pu,W,qs,rfl,rp,o9,λXV OF jN O4 Pa=>?_,λXV f' OF jN J5=>?_⟩
  .refine⟨by decide,λz=>(by cases z),λ_=>?_⟩;exact⟨λz=>(by cases z),λ_=>⟨λz=>(by cases z),λ_=>⟨_,_,rfl⟩⟩⟩
  .rw[OF.uniq pd] at jN;exact absurd hr jN
 .show Go _ _ [some (.xC ns),Φ9 (.int i),some (.bag bj),Φ9 (dm A Pu W),Φ9 (.tuple (qs.map qD)),Φ9 (.tuple [aS Pd,qD f,.tuple ((io qs Pd f).map qD)])] O3;refine⟨A,Pu,W,qs,rfl,rp,o9,λXV OF jN=>?_,λXV f' OF jN J5 O4 Pa=>?_⟩
  .rw[OF.uniq pd] at jN;exact absurd jN hr
  .have e1:=OF.uniq pd;subst e1;have e2:=J5.uniq iS;subst e2;refine⟨Zk (Nat.min_le_left _ _) (ED _ _ _),?_⟩;show((!tj _ _)=true->_)/\((!tj _ _)=false->_);rw[oh,SeqAt.eqv_refl _ (Et _ _ _)];refine⟨λz=>(by cases z),λ_=>?_⟩;have gt:=Ix rp o9 pd _ iS.1;have fR:=ox rp pd.sub _ iS.1;refine⟨λ_=>⟨gE,_,rfl,1,f',rfl,⟨(show Rb 1 (1:Rat) by unfold Rb Bd;decide+kernel).mono (by decide),fR⟩,?_⟩,λz=>(by cases z)⟩;show((!decide ((1:Rat)<f'))=true->_)/\((!decide ((1:Rat)<f'))=false->_);rw[decide_eq_true gt];exact⟨λz=>(by cases z),λ_=>⟨_,_,rfl⟩⟩
end MI
namespace Ae
open PySem L2 KG EX KM MI
section
variable {P:Program}{w:World}{K:Θ1}{mg:Θ3}{base:Heap}
def oa:qW K tO Aq:=λw O H vs xs P PX Q E r a hf q x=>by
 obtain⟨a1,b1,rfl,h0,hf⟩:=hf;obtain⟨v,v2,rfl,h1,h3⟩:=wf a;obtain⟨p1,rfl,g1⟩:=Pe h1;obtain⟨p2,rfl,g2⟩:=Pe h3;refine⟨p1,p2,a1,b1,rfl,g1,g2,h0.1,h0.2.1,h0.2.2,λp hp=>?_⟩;obtain⟨r1,e1,t1⟩:=Cs r hp;exact q _ _ O w _ hf e1 r1 t1
def YR:ap Pm ["market"] (bh (top 51)):=L2.di
def NA {f   : Addr}{fd  : FuncData}(F:cL K "_law_wished" "_law_wished" (top 51) f fd)(N:Nm mg)  : aO P w K mg base cQ 1 f fd ["market"] (cF K jS) :=
 kC F YR (λO xs P PX h=>by obtain⟨_,_,_,rfl,_⟩:=h;rfl) (λbv A outer s H E QX hr=>⟨RT,(cK (jL (lA (own:=["good"]) (cap:=["market"]) (ix:=[0]) (aG.of (bh (top 51)).names Pm) rfl (vD rfl N.range (ar (ju cG qP (by rfl) N.len Z8 (ar (ca (mv 0) cb) aC)) aC)) (lB (by decide))
 (λC fp s H=>⟨(zO (fh (i:=0) (Ψ9 ["good","market"]) rfl (Or.inr rfl))),(zM (ly jY tS (ju (Kh rfl) Dr (by rfl) N.max boot_max (ar (lA (own:=["row"]) (cap:=["good"]) (ix:=[0]) (aG.of [(".0",.local),("good",.cell),("max",.globalImplicit),("market",.cell)] ["good","market"]) rfl (iU (ca (mv 1) cb)) (lB (by decide))
 (λC fp s H=>⟨(dz (i:=0) (Ψ9 ["row","good"])),qQ,(ca (mv 0) (mv 1))⟩)) aC)) cb (aK _))),(mv 0)⟩)))),λO xs Pq h=>M5 O xs Pq QX h⟩)
def nv:ap NBe Ψ8 (bh (top 52)):=L2.di
def NL {f   : Addr}{fd  : FuncData}(F:cL K "_law_best" "_law_best" (top 52) f fd)(N:Nm mg)  : aO P w K mg base cQ 1 f fd Ψ8 (cF K pz) :=
 kC F nv (λO xs P PX h=>by obtain⟨_,_,_,_,rfl,_⟩:=h;rfl) (λbv A outer s H E QX hr=>⟨R6,(bS (c6 (i:=2) nv.nd (gv aC))
 (bS (mK PassesOwn.never rfl (iU (ca (mv 0) cb)) (dz (i:=3) nv.nd) (bS (c6 (i:=4) nv.nd (gv aC))
 (bS (mK PassesOwn.never rfl (vD rfl N.range (ar (ju cG qP (by rfl) N.len Z8 (ar (mv 3) aC)) aC)) (dz (i:=5) nv.nd) (bS (n8 (ca (mv 1) (mv 5)) (ic rfl (qT (dz (i:=6) nv.nd) (qT (dz (i:=7) nv.nd) fg))))
 (bS (c6 (i:=8) nv.nd (lL (pV hr.units) pZ (ca (mv 3) (mv 5)) cb (aK _)))
 (bS (mK PassesOwn.never rfl (vD rfl N.range (ar (ju cG qP (by rfl) N.len Z8 (ar (mv 3) aC)) aC)) (dz (i:=9) nv.nd) (bS (c6 (i:=10) nv.nd (jd (jd (ca (mv 3) (mv 9)) (mv 6)) (ca (ca (mv 1) (mv 9)) cb)))
 (cK (pM (PW.pt (nY (ly jY tS (ca (mv 3) (mv 9)) cb (aK _)) (kM (ly l6 TH (jd (jd (ca (mv 3) (mv 5)) (ca (ca (mv 1) (mv 9)) cb)) (mv 7)) (mv 10) (aK _))))) (cK (c6 (i:=8) nv.nd xX)) pP))))
 (cK (pM (wv (nZ (mv 8))) (cK (ET (gw (mv 4) (ar (mv 5) aC)))) pP))))))
 (cK (ET (gw (mv 2) (ar (mv 4) aC)))))))
 (HP 2 (cK (jL (mv 2)))))),λO xs Pq h=>Ng O xs Pq QX h⟩)
def LA:ap XX ["best","goods"] (bh (top 54)):=L2.di
def NB {f   : Addr}{fd  : FuncData}(F:cL K "_law_takers" "_law_takers" (top 54) f fd)(N:Nm mg)  : aO P w K mg base cQ 1 f fd ["best","goods"] (cF K rg) :=
 kC F LA (λO xs P PX h=>by obtain⟨_,_,_,rfl,_⟩:=h;rfl) (λbv A outer s H E QX hr=>⟨RU,(bS (c6 (i:=2) LA.nd (gv aC))
 (bS (mK PassesOwn.never rfl (vD rfl N.range (ar (ju cG qP (by rfl) N.len Z8 (ar (mv 0) aC)) aC)) (dz (i:=3) LA.nd) (cK (pM (ly (xV hr.units) xY (lA (own:=["good"]) (cap:=["goods"]) (ix:=[1]) (aG.of (bh (top 54)).names XX) rfl (iU (ca (mv 0) (mv 3))) (lB (by decide))
 (λC fp s H=>⟨(dz (i:=0) (Ψ9 ["good","goods"])),(zM (ly jZ (gH false) (mv 0) (mv 1) (by rfl))),(mv 0)⟩)) (eR aC) (aK _)) (cK (ET (gw (mv 2) (ar (mv 3) aC)))) pP)))
 (jc 2 (cK (jL (mv 2)))))),λO xs Pq h=>M6 O xs Pq QX h⟩)
def LC:ap XY ["some"] (bh (top 56)):=L2.di
def Hr {f   : Addr}{fd  : FuncData}(F:cL K "_law_sets" "_law_sets" (top 56) f fd)(N:Nm mg)  : aO P w K mg base cQ 1 f fd ["some"] (cF K l7) :=
 kC F LC (λO xs P PX h=>by obtain⟨_,rfl,_⟩:=h;rfl) (λbv A outer s H E QX hr=>⟨JQ,(bS (c6 (i:=1) LC.nd (gv aC))
 (bS (mK PassesOwn.never rfl (vD rfl N.range (ar (NU cb (ju cG qP (by rfl) N.len Z8 (ar (mv 0) aC))) aC)) (zO (fh (i:=2) LC.nd rfl (Or.inr rfl))) (cK (ET (gw (mv 1) (ar (lA (own:=["k"]) (cap:=["mask","some"]) (ix:=[2,0]) (aG.of (bh (top 56)).names XY) rfl (vD rfl N.range (ar (ju cG qP (by rfl) N.len Z8 (ar (mv 0) aC)) aC)) (lB (by decide))
 (λC fp s H=>⟨(dz (i:=0) (Ψ9 ["k","mask","some"])),(zM (ly (pV hr.units) pZ (NV (NT (mv 1) (mv 0)) cb) cb (aK _))),(ca (mv 2) (mv 0))⟩)) aC)))))
 (jc 1 (cK (jL (mv 1)))))),λO xs Pq h=>GU O xs Pq QX h⟩)
def vX:ap US Ψ8 (bh (top 57)):=L2.di
def HF {f zY ph  : Addr}{fd zZ B2:FuncData}(F:cL K "_law_ints" "_law_ints" (top 57) f fd)(N:Nm mg)(Mu:bM K mg P w base "_law_mul" 2 ["one","other"] (vp iT) zY zZ)(Lf:bM K mg P w base "_law_frac" 1 ["top","bottom"] nu ph B2):aO P w K mg base cQ 3 f fd Ψ8 (cF K p9) :=
 kC F vX (λO xs P PX h=>by obtain⟨_,_,_,_,rfl,_⟩:=h;rfl) (λbv A outer s H E QX hr=>⟨JY,(bS (rW (i:=2) vX.nd rfl rfl (own:=["good"]) (cap:=Ψ8) (ix:=[0,1]) (aG.of (bh (top 57)).names US) rfl (vD rfl N.range (ar (ju cG qP (by rfl) N.len Z8 (ar (mv 1) aC)) aC)) (lB (by decide))
 (λC fp s H=>⟨(dz (i:=0) (Ψ9 ["good","market","prices"])),qQ,(cc Mu nB hr (ar (ca (mv 2) (mv 0)) (ar (pN (ar (ca (ca (mv 1) cb) (mv 0)) (ar cb aC))) aC)))⟩))
 (bS (c6 (i:=2) vX.nd (zN (mv 2) (vc yr wz (by rfl) N.list boot_list (ar (ca (mv 0) cb) aC))))
 (bS (eQ (i:=3) vX.nd rfl (Or.inr rfl) cb)
 (bS (mK PassesOwn.never rfl (iU (mv 2)) (dz (i:=4) vX.nd) (cK (eQ (i:=3) vX.nd rfl (Or.inr rfl) (jd (mv 3) (ca (cc Lf nM hr (ar (mv 3) (ar (ca (mv 4) cb) aC))) cb)))))
 (bS (rW (i:=5) vX.nd rfl rfl (own:=["one"]) (cap:=["by"]) (ix:=[3]) (aG.of (bh (top 57)).names US) rfl (iU (mv 2)) (lB (by decide))
 (λC fp s H=>⟨(dz (i:=0) (Ψ9 ["one","by"])),qQ,(jd (ca (mv 0) cb) (ww (mv 1) (ca (mv 0) cb)))⟩))
 (cK (jL (eR (ar (gO (mv 5) jC (jB (ju cG qP (by rfl) N.len Z8 (ar (mv 1) aC)))) (ar (gO (mv 5) (jB (ju cG qP (by rfl) N.len Z8 (ar (mv 1) aC))) jC) aC)))))))))),λO xs Pq h=>G2 O xs Pq QX h⟩)
def qZ:ap Rn ["market","prices","without"] (bh (top 59)):=L2.di
def Hx {f K3 Wy QY vM QW  : Addr}{fd K6 WH Rf vP Re:FuncData}(F:cL K "_law_paid" "_law_paid" (top 59) f fd)(N:Nm mg)(mS:mg "sorted"=none)(Be:bM K mg P w base "_law_best" 1 Ψ8 (cF K pz) K3 K6)(In:bM K mg P w base "_law_ints" 3 Ψ8 (cF K p9) Wy WH)(Se:bM K mg P w base "_law_sets" 1 ["some"] (cF K l7) QY Rf)(Wi:bM K mg P w base "_law_wished" 1 ["market"] (cF K jS) vM vP)(Tk:bM K mg P w base "_law_takers" 1 ["best","goods"] (cF K rg) QW Re):aO P w K mg base cQ 4 f fd ["market","prices","without"] (cF K yj) :=
 kC F qZ (λO xs P PX h=>by obtain⟨_,_,_,_,rfl,_⟩:=h;rfl) (λbv A outer s H E QX hr=>⟨JW,(bS (c6 (i:=3) qZ.nd (cc Be fz hr (ar (mv 0) (ar (mv 1) aC))))
 (bS (n8 (cc In fz hr (ar (mv 0) (ar (mv 1) aC))) (ic rfl (qT (zO (fh (i:=4) qZ.nd rfl (Or.inr rfl))) (qT (zO (fh (i:=5) qZ.nd rfl (Or.inr rfl))) fg))))
 (bS (eQ (i:=6) qZ.nd rfl (Or.inr rfl) (eR aC))
 (bS (mK PassesOwn.never rfl (iU (cc Se fz hr (ar (cc Wi fz hr (ar (mv 0) aC)) aC))) (dz (i:=7) qZ.nd) (bS (c6 (i:=8) qZ.nd (cc Tk fz hr (ar (mv 3) (ar (mv 7) aC))))
 (bS (c6 (i:=9) qZ.nd (ju (nQ rfl) lM (by rfl) N.sum boot_sum (ar (lA (own:=["buyer"]) (cap:=["purses"]) (ix:=[5]) (aG.of (bh (top 59)).names Rn) rfl (iU (mv 8)) (lB (by decide))
 (λC fp s H=>⟨(dz (i:=0) (Ψ9 ["buyer","purses"])),qQ,(ca (mv 1) (mv 0))⟩)) aC)))
 (cK (pM (PW.pt (nY (ly kh zb (mv 2) (mv 8) (by rfl)) (kM (ly (pV hr.units) pZ (ju (nQ rfl) lM (by rfl) N.sum boot_sum (ar (lA (own:=["good"]) (cap:=["money"]) (ix:=[4]) (aG.of (bh (top 59)).names Rn) rfl (iU (mv 7)) (lB (by decide))
 (λC fp s H=>⟨(dz (i:=0) (Ψ9 ["good","money"])),qQ,(ca (mv 1) (mv 0))⟩)) aC)) (mv 9) (aK _))))) (cK (eQ (i:=6) qZ.nd rfl (Or.inr rfl) (zN (mv 6) (lA (own:=["good"]) (cap:=["found"]) (ix:=[6]) (aG.of (bh (top 59)).names Rn) rfl (iU (mv 7)) (lB (by decide))
 (λC fp s H=>⟨(dz (i:=0) (Ψ9 ["good","found"])),(zM (ly kh (gH true) (mv 0) (mv 1) (by rfl))),(mv 0)⟩))))) pP)))))
 (cK (jL (vc dE fu (by rfl) N.tuple pe (ar (ju sD HX (by rfl) mS boot_sorted (ar (mv 6) aC)) aC)))))))),λO xs Pq h=>G0 O xs Pq QX h⟩)
def FO:ap NTs ["row","prices","paid","mine"] (bh (top 61)):=L2.di
def Hn {f QZ  : Addr}{fd Rg:FuncData}(F:cL K "_law_ties" "_law_ties" (top 61) f fd)(N:Nm mg)(Dv:bM K mg P w base "_law_div" 2 ["one","other"] tO QZ Rg):aO P w K mg base cQ 3 f fd ["row","prices","paid","mine"] (cF K yc) :=
 kC F FO (λO xs P PX h=>by obtain⟨_,_,_,_,rfl,_⟩:=h;rfl) (λbv A outer s H E QX hr=>⟨JO,(bS (c6 (i:=4) FO.nd (cc Dv oa hr (ar (pN (ar (ca (mv 0) (mv 3)) (ar cb aC))) (ar (ca (mv 1) (mv 3)) aC))))
 (bS (c6 (i:=5) FO.nd (gv aC))
 (bS (mK PassesOwn.never rfl (iU (mv 2)) (dz (i:=6) FO.nd) (cK (pM (ly jY tS (ca (mv 0) (mv 6)) cb (aK _)) (cK (ET (gw (mv 5) (ar (cc Dv oa hr (ar (mv 4) (ar (cc Dv oa hr (ar (pN (ar (ca (mv 0) (mv 6)) (ar cb aC))) (ar (ca (mv 1) (mv 6)) aC))) aC))) aC)))) pP)))
 (jc 5 (cK (jL (mv 5))))))),λO xs Pq h=>GR O xs Pq QX h⟩)
def mB:ap Ro ["market","prices","paid","without"] (bh (top 60)):=L2.di
def HJ {f K3 Wy vM QW QY ph K1  : Addr}{fd K6 WH vP Re Rf B2 K5:FuncData}(F:cL K "_law_factors" "_law_factors" (top 60) f fd)(N:Nm mg)(Be:bM K mg P w base "_law_best" 1 Ψ8 (cF K pz) K3 K6)(In:bM K mg P w base "_law_ints" 3 Ψ8 (cF K p9) Wy WH)(Wi:bM K mg P w base "_law_wished" 1 ["market"] (cF K jS) vM vP)(Tk:bM K mg P w base "_law_takers" 1 ["best","goods"] (cF K rg) QW Re)(Se:bM K mg P w base "_law_sets" 1 ["some"] (cF K l7) QY Rf)(Lf:bM K mg P w base "_law_frac" 1 ["top","bottom"] nu ph B2)(Ti:bM K mg P w base "_law_ties" 3 ["row","prices","paid","mine"] (cF K yc) K1 K5):aO P w K mg base cQ 4 f fd ["market","prices","paid","without"] (cF K yl) :=
 kC F mB (λO xs P PX h=>by obtain⟨_,_,_,_,_,rfl,_⟩:=h;rfl) (λbv A outer s H E QX hr=>⟨JZ,(bS (c6 (i:=4) mB.nd (cc Be fz hr (ar (mv 0) (ar (mv 1) aC))))
 (bS (n8 (cc In fz hr (ar (mv 0) (ar (mv 1) aC))) (ic rfl (qT (zO (fh (i:=5) mB.nd rfl (Or.inr rfl))) (qT (zO (fh (i:=6) mB.nd rfl (Or.inr rfl))) fg))))
 (bS (rW (i:=7) mB.nd rfl rfl (own:=["good"]) (cap:=["paid"]) (ix:=[2]) (aG.of (bh (top 60)).names Ro) rfl (iU (cc Wi fz hr (ar (mv 0) aC))) (lB (by decide))
 (λC fp s H=>⟨(dz (i:=0) (Ψ9 ["good","paid"])),(zM (ly kh (gH true) (mv 0) (mv 1) (by rfl))),(mv 0)⟩))
 (bS (eQ (i:=8) mB.nd rfl (Or.inr rfl) (cc Tk fz hr (ar (mv 4) (ar (mv 2) aC))))
 (bS (c6 (i:=9) mB.nd (gv aC))
 (bS (mK PassesOwn.never rfl (iU (gO (cc Se fz hr (ar (mv 7) aC)) (jB cb) jC)) (dz (i:=10) mB.nd) (bS (c6 (i:=11) mB.nd (cc Tk fz hr (ar (mv 4) (ar (mv 10) aC))))
 (cK (pM (ly kh zb (mv 3) (mv 11) (by rfl)) (bS (c6 (i:=12) mB.nd (ju (nQ rfl) lM (by rfl) N.sum boot_sum (ar (lA (own:=["buyer"]) (cap:=["payers","purses"]) (ix:=[8,6]) (aG.of (bh (top 60)).names Ro) rfl (iU (mv 11)) (lB (by decide))
 (λC fp s H=>⟨(dz (i:=0) (Ψ9 ["buyer","payers","purses"])),(zM (ly kh (gH true) (mv 0) (mv 1) (by rfl))),(ca (mv 2) (mv 0))⟩)) aC)))
 (cK (ET (gw (mv 9) (ar (cc Lf nM hr (ar (mv 12) (ar (ju (nQ rfl) lM (by rfl) N.sum boot_sum (ar (lA (own:=["good"]) (cap:=["money"]) (ix:=[5]) (aG.of (bh (top 60)).names Ro) rfl (iU (mv 10)) (lB (by decide))
 (λC fp s H=>⟨(dz (i:=0) (Ψ9 ["good","money"])),qQ,(ca (mv 1) (mv 0))⟩)) aC)) aC))) aC))))) pP))))
 (jc 9 (bS (mK PassesOwn.never rfl (vD rfl N.range (ar (ju cG qP (by rfl) N.len Z8 (ar (mv 4) aC)) aC)) (dz (i:=13) mB.nd) (cK (pM (PW.pt (nY (ly kh (gH true) (mv 13) (mv 8) (by rfl)) (kM (ly (xV hr.units) xY (ca (mv 4) (mv 13)) (eR aC) (aK _))))) (cK (c6 (i:=9) mB.nd (zN (mv 9) (cc Ti fz hr (ar (ca (ca (mv 0) cb) (mv 13)) (ar (mv 1) (ar (mv 2) (ar (ca (ca (mv 4) (mv 13)) cb) aC)))))))) pP)))
 (cK (jL (mv 9))))))))))),λO xs Pq h=>G3 O xs Pq QX h⟩)
def vW:ap NRs Ψ8 (bh (top 62)):=L2.di
def Ef {f fPd vM fFa B0 zY  : Addr}{fd dPd vP dFa B1 zZ:FuncData}(F:cL K "_law_rise" "_law_rise" (top 62) f fd)(N:Nm mg)(Pd:bM K mg P w base "_law_paid" 4 ["market","prices","without"] (cF K yj) fPd dPd)(Wi:bM K mg P w base "_law_wished" 1 ["market"] (cF K jS) vM vP)(Fa:bM K mg P w base "_law_factors" 4 ["market","prices","paid","without"] (cF K yl) fFa dFa)(Ls:bM K mg P w base "_law_less" 1 ["one","other"] gh B0 B1)(Mu:bM K mg P w base "_law_mul" 2 ["one","other"] (vp iT) zY zZ):aO P w K mg base cQ 5 f fd Ψ8 (cF K ye) :=
 kC F vW (λO xs P PX h=>by obtain⟨_,_,_,_,rfl,_⟩:=h;rfl) (λbv A outer s H E QX hr=>⟨JR,(bS (c6 (i:=2) vW.nd (cc Pd fz hr (ar (mv 0) (ar (mv 1) (ar ii aC)))))
 (bS (pM (ly (pV hr.units) pZ (vc yr wz (by rfl) N.list boot_list (ar (mv 2) aC)) (cc Wi fz hr (ar (mv 0) aC)) (aK _)) (cK (jL ii)) pP)
 (bS (c6 (i:=3) vW.nd ii)
 (bS (mK PassesOwn.never rfl (iU (cc Fa fz hr (ar (mv 0) (ar (mv 1) (ar (mv 2) (ar ii aC)))))) (dz (i:=4) vW.nd) (cK (pM (PW.pt (JL (ly Df Ds (mv 3) ii (aK _)) (Dj (ib (cc Ls iu hr (ar (mv 4) (ar (mv 3) aC))))))) (cK (c6 (i:=3) vW.nd (mv 4))) pP)))
 (bS (c6 (i:=5) vW.nd (gv aC))
 (bS (mK PassesOwn.never rfl (vD rfl N.range (ar (ju cG qP (by rfl) N.len Z8 (ar (mv 1) aC)) aC)) (dz (i:=6) vW.nd) (cK (ET (gw (mv 5) (ar (ca (eR (ar (cc Mu nB hr (ar (ca (mv 1) (mv 6)) (ar (mv 3) aC))) (ar (ca (mv 1) (mv 6)) aC))) (vc jK zd (by rfl) N.int boot_int (ar (lL jZ (gH false) (mv 6) (mv 2) (by rfl)) aC))) aC)))))
 (jc 5 (cK (jL (pN (ar (mv 2) (ar (mv 3) (ar (vc dE fu (by rfl) N.tuple pe (ar (mv 5) aC)) aC))))))))))))),λO xs Pq h=>GW O xs Pq QX h⟩)
end
end Ae
namespace Ae
open PySem L2 KG EX KM
section
variable {P:Program}{w:World}{K:Θ1}{mg:Θ3}{base:Heap}
abbrev Pm:Δ2:=["market","amounts","purses","wishes"]
def kZ:ap Pm ["market"] (bh (top 17)):=L2.di
def AT {f:Addr}{fd:FuncData}(F:cL K "wished" "wished" (top 17) f fd)(N:Nm mg):aO P w K mg base cQ 1 f fd ["market"] Ch:=by
 refine F.ok kZ (λvs H Q E h=>?_) (λbv A outer s H vs Q E hr h=>?_)
 .obtain⟨b,p,pa,pp,pw,xa,xp,xw,am,pu,wi,rfl,_⟩:=h;rfl
 .obtain⟨b,p,pa,pp,pw,xa,xp,xw,am,pu,wi,rfl,m,k⟩:=h;obtain⟨BK,Vu,Ai,Ui,a1,a6,w1,w6,_⟩:=m.lw;refine⟨_,dD (kg (pv 0) (ja rfl (va (fh (i:=1) kZ.nd rfl (Or.inl rfl)) (va (fh (i:=2) kZ.nd rfl (Or.inl rfl)) (va (fh (i:=3) kZ.nd rfl (Or.inr rfl)) fV)))))
   (dr (fD (zP dE (by rfl) N.tuple pe (aI (sW (own:=["good"]) (cap:=["wishes"]) (ix:=[3]) (aG.of (bh (top 17)).names Pm) rfl
    (OJ rfl N.range (aI (sO cG (by rfl) N.len Z8 (aI (pv 1) bu)) bu))
    (λC fp s H=>⟨fh (i:=0) (Ψ9 ["good","wishes"]) rfl (Or.inr rfl),
     gN (gj (sO (t0 rfl) (by rfl) N.any boot_any (aI (sW (own:=["row"]) (cap:=["good"]) (ix:=[0]) (aG.of [(".0",.local),("good",.cell),("any",.globalImplicit),("wishes",.cell)] ["good","wishes"]) rfl (Aj (pv 1))
      (λC fp s H=>⟨fh (i:=0) (Ψ9 ["row","good"]) rfl (Or.inl rfl),vC,BO jY (dJ cg (pv 0) (pv 1) (λ_ _=>rfl)) aZ (aK _)⟩)) bu))),
     pv 0⟩)) bu)))),?_⟩
  refine⟨_,rfl,p,_,rfl,aM.of m.hp,rfl,_,_,rfl,_,_,rfl,_,_,rfl,rfl,?_⟩;refine⟨_,rfl,pa,xa,rfl,.inr (aM.of m.ha),(xa.length:Int),rfl,by omega,by omega,λacc bI=>?_⟩;have exl:((xa.length:Int)).toNat=xa.length:=by simp
  rw[exl];refine ku (λi ys H'=>az H H'/\ys=vB i (rowsOf wi)) ⟨(az.refl H).acc bI,rfl⟩ ?_ ?_
  .rintro i ys H' hi hy ⟨st,rfl⟩;refine⟨_,rfl,pw,rfl,⟨xw,aM.of (st _ _ m.hw)⟩,λrh eT=>?_⟩;refine jn (xs:=xw) (λj zs H2=>az H' H2/\zs=((rowsOf wi).take j).map λr=>V.bl (decide (0<r.getD i 0))) ⟨(az.refl H').acc eT,rfl⟩ (λj ys H2 _ _ q=>aM.of (q.1 _ _ (st _ _ m.hw))) ?_ ?_
   .rintro j x zs H2 hx hz ⟨gz,rfl⟩;refine iG ?_;obtain⟨ns,a,hM,rfl,hA⟩:=BK.at hx;have hA2:=gz _ _ (st _ _ hA);have hnl:=Ai ns (Zu hM);obtain⟨ea,_,_⟩:=oI (ns:=ns) (r:=0+(i:Int)) (by omega) (by omega);have et:(0+(i:Int)).toNat=i:=by omega
    rw[et] at ea;refine⟨_,rfl,_,rfl,a,_,_,_,rfl,rfl,aM.of hA2,ea,_,_,rfl,rfl,_,hz,?_,Cn.of cx ⟨gz.acc eT,?_⟩⟩
    .rw[Za,Ym,sz];have:=BK.len;omega
    .rw[List.take_add_one,hM,Zr];rfl
   .rintro zs H2 hz ⟨gz,rfl⟩;have hl:=BK.len;rw[hl,Yd] at hz;refine⟨rh,_,rfl,.inl (bi.of hz),?_,_,rfl,?_⟩
    .rw[Xf];simp[Function.comp_def,gk]
    .have e:((rowsOf wi).map λr=>V.bl (decide (0<r.getD i 0))).any tv=has (rowsOf wi) i:=by
      rw[Xz];rfl
     rw[e];have P9:=gz _ _ hy;cases hh:has (rowsOf wi) i with
     |true =>
      refine cM ⟨_,rfl,_,P9,?_,Cn.of cx ⟨(st.trans gz).acc bI,?_⟩⟩
      .have:=uJ i (rowsOf wi);rw[sz];omega
      .rw[lm,hh];rfl
     |false =>
      refine df (Cn.of P9 ⟨st.trans gz,?_⟩);rw[lm,hh];simp
  .rintro ys H' hy ⟨st,rfl⟩;refine⟨acc,_,rfl,.inl ⟨bi.of hy,λl hl=>?_⟩⟩;exact k l _ (st.new hl) cx
def xR:ap ["parts","found","part"] ["parts"] (bh (top 14)):=L2.di
def uP {f fA:Addr}{fd dA:FuncData}(F:cL K "greatest" "greatest" (top 14) f fd)(A:bM K mg P w base "less" 1 ["one","other"] gh fA dA):aO P w K mg base cQ 2 f fd ["parts"] Jq:=by
 refine F.ok xR (λvs H Q E h=>?_) (λbv A' outer s H vs Q E hr h=>?_)
 .obtain⟨l,ys,qs,rfl,_⟩:=h;rfl
 .obtain⟨l,ys,qs,rfl,hl,hf,bJ,hb,k⟩:=h;refine⟨_,dD (jM (i:=1) xR.nd rfl (Or.inl rfl) (dJ kE (pv 0) aZ (λ_ _=>rfl)))
   (dD (nV PassesOwn.never rfl (Ak (pv 0)) (fh (i:=2) xR.nd rfl (Or.inl rfl))
    (dr (eD (gj (d8 A.ok hr rfl A.mg A.kp A.bd .nil aY (aI (pv 1) (aI (pv 2) bu)))) (dr (jM (i:=1) xR.nd rfl (Or.inl rfl) (pv 2))) sX)))
   (dr (fD (pv 1)))),?_⟩
  have dQ:0<qs.length:=Xn.mpr bJ;obtain⟨a0,ea0,ha0⟩:=hf.at (g:=0) dQ;have m0:qs.getD 0 0∈qs:=by simp[List.getD,Zc dQ]
  refine⟨_,rfl,l,_,_,_,rfl,rfl,bi.of hl,ea0,?_⟩;refine⟨_,rfl,l,rfl,⟨_,bi.of hl⟩,?_⟩;refine oF (xs:=ys) (λi σ H'=>H'=H/\∃a q y2,σ=[some (.ref l),some (.ref a),y2]/\H a=some (qO q)/\q∈qs/\∀z∈qs.take i,z<=q) ⟨rfl,a0,_,_,rfl,ha0,m0,λz hz=>by simp at hz⟩ (λi σ H' _ z=>by obtain⟨rfl,_⟩:=z;exact bi.of hl) ?_ ?_
  .rintro i x σ H1 hx ⟨rfl,a,q,y2,rfl,ha,hq,gF⟩;obtain⟨c,z,rfl,hc,hz⟩:=sd hf hx;have hzm:=Zu hz;refine⟨_,rfl,_,rfl,a,c,q,z,rfl,ha,hc,hb q hq,hb z hzm,_,rfl,?_⟩;by_cases cT:q<z
   .rw[decide_eq_true cT];refine cM ⟨_,rfl,rfl,c,z,_,rfl,hc,hzm,λy hy=>?_⟩;rw[vd hz] at hy;rcases Zt.mp hy with h |h
    .exact Yi (gF y h) (Z7 cT)
    .rw[Z2.mp h];exact Yf
   .rw[decide_eq_false cT];refine df ⟨rfl,a,q,_,rfl,ha,hq,λy hy=>?_⟩;rw[vd hz] at hy;rcases Zt.mp hy with h |h
    .exact gF y h
    .rw[Z2.mp h];exact Yh.mp cT
  .rintro σ H1 ⟨rfl,a,q,y2,rfl,ha,hq,gF⟩;rw[hf.1,Yd] at gF;exact⟨_,rfl,k a q ha hq gF⟩
def MY:ap ["wish","price"] ["wish","price"] (bh (top 24)):=L2.di
def Ht {f fA Nn:Addr}{fd dA:FuncData}(F:cL K "rate" "rate" (top 24) f fd)(A:kF K mg P w base "over" 3 ["one","other"] (rn Nn) fA dA):aO P w K mg base cQ 4 f fd ["wish","price"] rk:=by
 refine F.ok MY (λvs H Q E h=>?_) (λbv A' outer s H vs Q E hr h=>?_)
 .obtain⟨n,q,x,rfl,_⟩:=h;rfl
 .obtain⟨n,q,x,rfl,hq,bx,x0,n0,n1,k⟩:=h;refine⟨_,dr (fD (d8 A.ok hr rfl A.mg A.kp A.bd .nil rz (aI (xD (aI (pv 0) (aI aZ bu))) (aI (pv 1) bu)))),?_⟩;refine⟨_,rfl,by show 2<=sizeLine;decide,λp hp=>?_⟩;have s0:=(az.refl H).new (o:=.tup [.int n,.int 1]) hp;have bn:Rb 3000 (n:Rat):=u7 (Bd.mono (j:=7) (by unfold Bd;omega) (by decide)) (by decide);have hx:x≠0:=λz=>by rw[z] at x0;exact absurd x0 (by decide)
  refine⟨_,rfl,p,q,(n:Rat),x,rfl,cx,s0 _ _ hq,bn,bx.mono (by decide),λz=>absurd z hx,λ_ r jN=>?_⟩;exact k r _ (s0.new jN) cx
abbrev XZ:Δ2:=["row","prices","rates","most"]
def LH:ap XZ ["row","prices"] (bh (top 23)):=L2.di
def Tx {f fR fG:Addr}{fd dR dG:FuncData}(F:cL K "best_by_wishes" "best_by_wishes" (top 23) f fd)(N:Nm mg)(R:bM K mg P w base "rate" 4 ["wish","price"] rk fR dR)(G:bM K mg P w base "greatest" 2 ["parts"] Jq fG dG):aO P w K mg base cQ 5 f fd ["row","prices"] RD:=by
 refine F.ok LH (λvs H Q E h=>?_) (λbv A' outer s H vs Q E hr h=>?_)
 .obtain⟨r,q,ns,ys,qs,rfl,_⟩:=h;rfl
 .obtain⟨r,q,ns,ys,qs,rfl,hrw,hq,hf,cu,h6,We,UB,dQ,k⟩:=h;have zU:db 2 _:=hr.mono (by decide);have hu:=hr.units;have Ut:=J3 hr;refine⟨_,dD (jM (i:=2) LH.nd rfl (Or.inr rfl) (D9 (own:=["good","wish"]) (cap:=["prices"]) (ix:=[1]) (aG.of (bh (top 23)).names XZ) rfl (mV rfl N.enumerate P0 (aI (pv 0) bu))
    (λC fp s H=>⟨ja (n:=2) rfl (va (fh (i:=0) (Ψ9 ["good","wish","prices"]) rfl (Or.inl rfl)) (va (fh (i:=1) (Ψ9 ["good","wish","prices"]) rfl (Or.inl rfl)) fV)),
     gN (pQ jY (pv 1) aZ (aK _)),pv 0,d8 R.ok hr rfl R.mg R.kp R.bd .nil aY (aI (pv 1) (aI (dJ cg (pv 2) (pv 0) (λ_ _=>rfl)) bu))⟩)))
   (dD (eD (i9 (uj (pv 2) (λ_=>rfl))) (dr (fD (xD bu))) sX)
   (dD (jM (i:=3) LH.nd rfl (Or.inr rfl) (d8 G.ok zU rfl G.mg G.kp G.bd .nil aY (aI (zP (l0 rfl) (by rfl) N.list boot_list (aI (Dc PySem.F.plainAttrs_dict PySem.F.slot_dict_values PySem.F.type_dict_values AZ (pv 2)) bu)) bu)))
   (dr (fD (zP dE (by rfl) N.tuple pe (aI (sW (own:=["good"]) (cap:=["most","rates"]) (ix:=[3,2]) (aG.of (bh (top 23)).names XZ) rfl (Hi (pv 2))
    (λC fp s H=>⟨fh (i:=0) (Ψ9 ["good","most","rates"]) rfl (Or.inl rfl),gN (pQ (Dg hu) (yR Ut (pv 2) (pv 0) (λ_ _=>rfl)) (pv 1) (aK _)),pv 0⟩)) bu)))))),?_⟩
  have vI:∀j,0<=ns.getD j 0:=λj=>by
   by_cases hj:j<ns.length
   .have:ns.getD j 0∈ns:=by simp[List.getD,Zc hj]
    exact(We _ this).1
   .simp[List.getD,Yw (Xl hj)]
  refine⟨_,rfl,r,rfl,⟨_,aM.of hrw⟩,λacc bI=>?_⟩;refine xq (xs:=ns.map V.int) (λi kvs H'=>az H H'/\tD ns qs i kvs H') ⟨(az.refl H).acc bI,⟨rfl,⟨rfl,λj y z=>by simp at z⟩⟩⟩ (λi zs H' _ _ z=>aM.of (z.1 _ _ hrw)) ?_ ?_
  .rintro i x kvs H1 H2 hx hy ⟨s1,rt⟩ s2;obtain⟨n,hn,rfl⟩:∃n:Int,ns[i]?=some n/\x=V.int n:=by
    rw[Zh] at hx;cases e:ns[i]? with
    |none=>rw[e] at hx;cases hx
    |some n=>rw[e] at hx;exact⟨n,rfl,by simpa using hx.symm⟩
   have hi:i<ns.length:=(Zf.mp hn).1;have Pk:ns.getD i 0=n:=by simp[List.getD,hn]
   have o8:=s1.trans s2;refine⟨_,rfl,_,_,rfl,rfl,_,rfl,?_⟩;by_cases h0:0<n
   .rw[decide_eq_true h0];obtain⟨aq,eq1,IQ⟩:=hf.at (g:=i) (by omega);have bn:=We n (Zu hn);have x0:=dQ i (by rw[Pk];exact h0);have bx:Rb 300 (qs.getD i 0):=by
     have:qs.getD i 0∈qs:=by simp[List.getD,Zc (show i<qs.length by omega)]
     exact UB _ this
    refine cM ⟨_,rfl,_,rfl,_,rfl,_,rfl,q,_,_,_,rfl,rfl,aM.of (o8 _ _ hq),eq1,n,aq,_,rfl,o8 _ _ IQ,bx,x0,bn.1,bn.2,λt H3 s3 ht=>?_⟩;have IN:=s3 _ _ (s2 _ _ hy);have ki:(V.int (i:Int))=kV (nD i):=rfl;have PD:=(rt.aA s2).aA s3;have tm3:Tm H3 (aF H3 acc (.dK (iR kvs (nD i) (.ref t)))):=λa xs ha=>by rw[dj (xW ha IN (by intro z;cases z))];exact ha
    refine⟨kvs,nD i,IN,ki,?_,Jl.of cx ⟨(o8.trans s3).acc bI,(PD.put (by rw[Pk];exact h0) ?_).tm tm3⟩⟩
    .have:=rt.len;have:=uk ns i;rw[sz];omega
    .unfold dX;rw[Pk];exact ht
   .rw[decide_eq_false h0];refine df (Jl.of (s2 _ _ hy) ⟨o8,(rt.skip (by rw[Pk];exact h0)).aA s2⟩)
  .rintro kvs H1 hy ⟨s1,rt⟩;rw[Za] at rt;have OV:=rt.len;have kA:=uk ns ns.length;refine⟨_,rfl,_,.inr (.inr ⟨kvs,hy,rfl⟩),?_⟩;cases V7:kvs.isEmpty with
   |true =>
    have LX:kvs=[]:=List.isEmpty_iff.mp V7;subst LX;have Fq:eZ ns ns.length=[]:=Qw.mp OV.symm;refine cM ⟨by show 0<=sizeLine;decide,λt ht=>k t _ (s1.new ht) ?_⟩;rw[Bs vI Fq];exact cx
   |false =>
   have LX:kvs≠[]:=λz=>by rw[z] at V7;cases V7
   refine df ?_;refine⟨_,rfl,.inr (.inr (.inl ⟨rfl,.inl ⟨_,hy⟩⟩)),acc,kvs,rfl,rfl,hy,λv hv=>?_⟩;have s2:=(az.refl H1).new (o:=gd v acc) hv;refine⟨v,acc,kvs,rfl,cx,.inl (s2 _ _ hy),λl hl=>?_⟩;have s3:=s2.new (o:=.lst (kvs.map (·.2))) hl;have PD:=rt.aA s3;refine⟨l,_,_,rfl,cx,PD.fr,?_,?_,λa m ha hm gF=>?_⟩
   .intro z;have:=congrArg List.length z;rw[Za,<- OV] at this;exact LX (Qw.mp this)
   .intro z hz;obtain⟨j,hj,rfl⟩:=Zd.mp hz;obtain⟨jl,jp⟩:=rP hj;unfold dX;have bq:Rb 300 (qs.getD j 0):=by
     have:qs.getD j 0∈qs:=by simp[List.getD,Zc (show j<qs.length by omega)]
     exact UB _ this
    have bn:Bd 300 (ns.getD j 0):=by
     have:ns.getD j 0∈ns:=by simp[List.getD,Zc jl]
     have:=We _ this;exact Bd.mono (j:=7) (by unfold Bd;omega) (by decide)
    exact(G5 bn bq (dQ j jp)).mono (by decide)
   generalize aF (aF H1 v (gd v acc)) l (.lst (kvs.map (·.2)))=H3 at s3 PD ha ⊢;have IN:=s3 _ _ hy;refine⟨_,rfl,acc,kvs,rfl,IN,λo rh eT=>?_⟩;have Ka:H acc=none:=bI;have bJ:rh≠acc:=λz=>by rw[z,cx] at eT;cases eT
   have h3n:H3 rh=none:=by rw[dj bJ] at eT;exact eT
   have zJ:=s1.trans s3;have Λ:Tm H3 (aF H3 acc (.iE o (.dK kvs))):=λa xs ha=>by rw[dj (xW ha IN (by intro z;cases z))];exact ha
   have s4:az H (aF H3 acc (.iE o (.dK kvs))):=zJ.acc bI;have rt4:=PD.tm Λ;have ha4:=Λ _ _ ha;have KI:(aF H3 acc (.iE o (.dK kvs))) acc=some (.iE o (.dK kvs)):=cx;generalize aF H3 acc (.iE o (.dK kvs))=H4 at s4 rt4 ha4 KI eT ⊢;refine Bn (kvs:=kvs) (λi zs H'=>az H4 H'/\zs=cj (((eZ ns ns.length).take i).filter λj=>decide (dX ns qs j=m))) ⟨(az.refl H4).acc eT,rfl⟩ (λi zs H' _ _ z=>z.1 _ _ KI) ?_ ?_
   .rintro i kk vv zs H5 OU hz ⟨s5,rfl⟩;obtain⟨j,aj,hj,rfl,rfl,haj,wc⟩:=rt4.at OU;have hjm:=Zu hj;refine⟨_,rfl,_,rfl,acc,_,rfl,.inl ⟨kvs,nD j,.inr ⟨o,s5 _ _ KI⟩,rfl,wc.symm⟩,_,rfl,?_⟩;refine⟨qD (dX ns qs j),qD m,JH (s5 _ _ haj),JH (s5 _ _ ha4),Zk (Nat.min_le_left _ _) (Zk (CH _) (by decide)),_,rfl,?_⟩;rw[Of];have hil:i<(eZ ns ns.length).length:=(Zf.mp hj).1;cases hd:decide (dX ns qs j=m) with
    |true =>
     refine cM ⟨_,rfl,_,hz,?_,Cn.of cx ⟨s5.acc eT,?_⟩⟩
     .unfold cj;have:=Yk (λj=>decide (dX ns qs j=m)) ((eZ ns ns.length).take i);have h3:((eZ ns ns.length).take i).length<=i:=List.length_take_le _ _;rw[Za,sz];omega
     .rw[vd hj,Xb];have e1:[j].filter (λj=>decide (dX ns qs j=m))=[j]:=by simp only[List.filter,hd]
      rw[e1];unfold cj;rw[Zr];rfl
    |false =>
     refine df (Cn.of hz ⟨s5,?_⟩);rw[vd hj,Xb];have e1:[j].filter (λj=>decide (dX ns qs j=m))=[]:=by simp only[List.filter,hd]
     rw[e1,Ye]
   .rintro zs H5 hz ⟨s5,rfl⟩;rw[OV,Yd] at hz;refine⟨rh,_,rfl,.inl ⟨bi.of hz,λt ht=>?_⟩⟩;refine k t _ ((s4.trans s5).new ht) ?_;rw[EK dQ vI hm gF];exact cx
def YS:ap ["best","goods"] ["best","goods"] (bh (top 25)):=L2.di
def Tq {f:Addr}{fd:FuncData}(F:cL K "takers_by_best" "takers_by_best" (top 25) f fd)(N:Nm mg):aO P w K mg base cQ 1 f fd ["best","goods"] Rz:=by
 refine F.ok YS (λvs H Q E h=>?_) (λbv A' outer s H vs Q E hr h=>?_)
 .obtain⟨pb,pg,xs,M,gs,rfl,_⟩:=h;rfl
 .obtain⟨pb,pg,xs,M,gs,rfl,hb,hR,hg,hM,ON,k⟩:=h;refine⟨_,dr (fD (zP dE (by rfl) N.tuple pe (aI (sW (own:=["buyer","row"]) (cap:=["goods"]) (ix:=[1]) (aG.of (bh (top 25)).names ["best","goods"]) rfl (mV rfl N.enumerate P0 (aI (pv 0) bu))
    (λC fp s H=>⟨ja (n:=2) rfl (va (fh (i:=0) (Ψ9 ["buyer","row","goods"]) rfl (Or.inl rfl)) (va (fh (i:=1) (Ψ9 ["buyer","row","goods"]) rfl (Or.inl rfl)) fV)),
     gN (gj (sO (t0 rfl) (by rfl) N.any boot_any (aI (sW (own:=["good"]) (cap:=["goods"]) (ix:=[2]) (aG.of [(".0",.local),("buyer",.local),("row",.local),("any",.globalImplicit),("goods",.cell)] ["buyer","row","goods"]) rfl (Aj (pv 1))
      (λC fp s H=>⟨fh (i:=0) (Ψ9 ["good","goods"]) rfl (Or.inl rfl),vC,BO jZ (pv 0) (pv 1) (by with_unfolding_all rfl)⟩)) bu))),
     pv 0⟩)) bu))),?_⟩
  refine⟨_,rfl,pb,rfl,⟨_,aM.of hb⟩,λacc bI=>?_⟩;refine qC (xs:=xs) (λi ys H'=>az H H'/\ys=cj ((List.range i).filter λi=>cz gs (M.getD i []))) ⟨(az.refl H).acc bI,rfl⟩ (λi ys H' _ _ z=>aM.of (z.1 _ _ hb)) ?_ ?_
  .rintro i x ys H1 H2 hx hy ⟨s1,rfl⟩ s2;obtain⟨row,a,E8,rfl,ha⟩:=hR.at hx;have o8:=s1.trans s2;have eM:M.getD i []=row:=by simp[List.getD,E8]
   have ahK:=ON row (Zu E8);refine⟨_,rfl,a,rfl,⟨_,aM.of (o8 _ _ ha)⟩,λrh eT=>?_⟩;refine jn (xs:=row.map V.int) (λj zs H3=>az H2 H3/\zs=(row.take j).map λn=>V.bl (P5 gs n)) ⟨(az.refl H2).acc eT,rfl⟩ (λj zs H3 _ _ z=>aM.of (z.1 _ _ (o8 _ _ ha))) ?_ ?_
   .rintro j x zs H3 hx hz ⟨s3,rfl⟩;obtain⟨n,hn,rfl⟩:∃n:Int,row[j]?=some n/\x=V.int n:=by
     rw[Zh] at hx;cases e:row[j]? with
     |none=>rw[e] at hx;cases hx
     |some n=>rw[e] at hx;exact⟨n,rfl,by simpa using hx.symm⟩
    refine iG ⟨_,rfl,_,rfl,pg,_,rfl,.inr (aM.of (s3 _ _ (o8 _ _ hg))),rfl,Bi gs,?_⟩;have WC:(if false=true then !vE (V.int n) (cj gs) else vE (V.int n) (cj gs))=P5 gs n:=by rw[if_neg (by decide)];exact Il gs n
    rw[WC];refine⟨_,hz,?_,Cn.of cx ⟨s3.acc eT,?_⟩⟩
    .rw[Za,Ym,sz];omega
    .rw[vd hn,Zr];rfl
   .rintro zs H3 hz ⟨s3,rfl⟩;rw[Za,Qc (Ze _)] at hz;refine⟨rh,_,rfl,.inl (bi.of hz),?_,_,rfl,?_⟩
    .rw[Xf];simp[Function.comp_def,gk]
    have e:(row.map λn=>V.bl (P5 gs n)).any tv=cz gs (M.getD i []):=by
     rw[Xz,eM];rfl
    rw[e];have IN:=s3 _ _ (s2 _ _ hy);have st:=o8.trans s3;cases hh:cz gs (M.getD i []) with
    |true =>
     refine cM ⟨_,rfl,_,IN,?_,vR.of cx ⟨st.acc bI,?_⟩⟩
     .unfold cj;have h1:=Yk (λi=>cz gs (M.getD i [])) (List.range i);have hi:i<M.length:=(Zf.mp E8).1;rw[Yy] at h1;rw[Za,sz];omega
     .rw[yU,hh,if_pos rfl]
    |false =>
     refine df (vR.of IN ⟨st,?_⟩);rw[yU,hh,if_neg (by decide),Ye]
  .rintro ys H1 hy ⟨s1,rfl⟩;refine⟨acc,_,rfl,.inl ⟨bi.of hy,λl hl=>?_⟩⟩;refine k l _ (s1.new hl) ?_;rw[<- hR.len];exact cx
def S5:ap Ψ8 Ψ8 (bh (top 21)):=L2.di
def NF {f fT:Addr}{fd dT:FuncData}(F:cL K "money_by_good" "money_by_good" (top 21) f fd)(mz:mg "zip"=none)(T:kF K mg P w base "times" 3 ["one","other"] (vp iT) fT dT):aO P w K mg base cQ 4 f fd Ψ8 Jp:=by
 refine F.ok S5 (λvs H Q E h=>?_) (λbv A' outer s H vs Q E hr h=>?_)
 .obtain⟨b,p,pa,pp,pw,q,xa,xp,xw,ys,am,pu,wi,qs,rfl,_⟩:=h;rfl
 .obtain⟨b,p,pa,pp,pw,q,xa,xp,xw,ys,am,pu,wi,qs,rfl,m,hq,hf,cu,hb,k⟩:=h;obtain⟨_,_,_,_,a1,a6,_⟩:=m.lw;obtain⟨WA,amb⟩:=m.am;refine⟨_,dr (fD (sW (own:=["amount","price"]) (cap:=[]) (ix:=[]) (aG.of (bh (top 21)).names Ψ8) rfl (yQ rfl mz boot_zip (aI (dJ cg (pv 0) aZ (λ_ _=>rfl)) (aI (pv 1) bu)))
    (λC fp s H=>⟨ja (n:=2) rfl (va (fh (i:=0) (Ψ9 ["amount","price"]) rfl (Or.inl rfl)) (va (fh (i:=1) (Ψ9 ["amount","price"]) rfl (Or.inl rfl)) fV)),
     vC,d8 T.ok hr rfl T.mg T.kp T.bd .nil rz (aI (xD (aI (pv 0) (aI aZ bu))) (aI (pv 1) bu))⟩))),?_⟩
  refine⟨_,rfl,p,_,_,_,rfl,rfl,aM.of m.hp,rfl,_,rfl,pa,q,rfl,⟨_,aM.of m.ha⟩,⟨_,aM.of hq⟩,λacc bI=>?_⟩;have BU:xa.length=ys.length:=by rw[hf.1,cu]
  refine EF (xs:=xa) (ys:=ys) (λi zs H'=>az H H'/\jw H' zs (tI (am.map bL) qs i)) BU ⟨(az.refl H).acc bI,⟨rfl,λj y z=>by simp at z⟩⟩ (λi zs H' _ _ z=>⟨aM.of (z.1 _ _ m.ha),aM.of (z.1 _ _ hq)⟩) ?_ ?_
  .rintro i x y zs H1 H2 hx hy hz ⟨s1,fr⟩ s2;have o8:=s1.trans s2;obtain⟨c,z,rfl,hc,hqi⟩:=sd hf hy;have hi:i<xa.length:=(Zf.mp hx).1;obtain⟨n,hn,rfl⟩:∃n:Int,(am.map bL)[i]?=some n/\x=V.int n:=by
    rw[WA,Zh] at hx;cases e:(am.map bL)[i]? with
    |none=>rw[e] at hx;cases hx
    |some n=>rw[e] at hx;exact⟨n,rfl,by simpa using hx.symm⟩
   have bn:=amb n (Zu hn);refine iG ⟨_,rfl,by show 2<=sizeLine;decide,λp0 Fq=>?_⟩;have s3:=(az.refl H2).new (o:=.tup [.int n,.int 1]) Fq;have b1:Rb 3000 (n:Rat):=u7 (Bd.mono (j:=7) (by unfold Bd;omega) (by decide)) (by decide);have b2:Rb 3000 z:=(hb z (Zu hqi)).mono (by decide);refine⟨_,rfl,p0,c,(n:Rat),z,rfl,cx,s3 _ _ (o8 _ _ hc),b1,b2,λr jN=>?_⟩;have s4:=s3.new (o:=qO (iT (n:Rat) z)) jN;have VF:=s4 _ _ (s2 _ _ hz);have e1:tI (am.map bL) qs (i+1)=tI (am.map bL) qs i++[iT (n:Rat) z]:=by
    unfold tI;rw[Ys,Zr];have e2:(am.map bL).getD i 0=n:=by simp only[List.getD,hn,Xm]
    have e3:qs.getD i 0=z:=by simp[List.getD,hqi]
    simp only[Zs,X8];rw[e2,e3];rfl
   have fr4:=(fr.aA s2).aA s4;have er:(aF (aF H2 p0 (.tup [.int n,.int 1])) r (qO (iT (n:Rat) z))) r=some (qO (iT (n:Rat) z)):=cx;generalize aF (aF H2 p0 (.tup [.int n,.int 1])) r (qO (iT (n:Rat) z))=H4 at s4 VF fr4 er ⊢;have tl:Tm H4 (aF H4 acc (.lst (zs++[.ref r]))):=Tm.lst VF;refine⟨zs,VF,?_,vR.of cx ⟨(o8.trans s4).acc bI,?_⟩⟩
   .rw[fr.1];unfold tI;rw[Za,Yy,sz];omega
   .rw[e1];exact(fr4.app er).tm tl
  .rintro zs H1 hz ⟨s1,fr⟩;exact k acc zs H1 s1 bI hz fr
abbrev YA:Δ2:=["market","thing","goods"]
def Jx:ap YA ["market","thing"] (bh (top 19)):=L2.di
def NN {f fI fW:Addr}{fd dI dW:FuncData}(F:cL K "are_prices" "are_prices" (top 19) f fd)(N:Nm mg)(Z:Lg K)(I:bM K mg P w base "is_fraction" 2 ["thing"] (spT bV) fI dI)(W:bM K mg P w base "wished" 1 ["market"] Ch fW dW):aO P w K mg base cQ 3 f fd ["market","thing"] Js:=by
 refine F.ok Jx (λvs H Q E h=>?_) (λbv A' outer s H vs Q E hr h=>?_)
 .obtain⟨b,p,pa,pp,pw,xa,xp,xw,am,pu,wi,v,d,rfl,_⟩:=h;rfl
 .obtain⟨b,p,pa,pp,pw,xa,xp,xw,am,pu,wi,v,d,rfl,m,hT,k⟩:=h;have nk:db 1 _:=hr.mono (by decide);have hu:=hr.units;obtain⟨BK,Vu,Ai,Ui,a1,a6,w1,w6,_⟩:=m.lw;refine⟨_,dD (eD (PW.pt (pw_or (i9 (gj (FU K (pv 1) rfl N.isinstance rfl N.tuple pe Uo))) (pw_or1 (pQ pW (sO cG (by rfl) N.len Z8 (aI (pv 1) bu)) (sO cG (by rfl) N.len Z8 (aI (dJ cg (pv 0) aZ (λ_ _=>rfl)) bu)) (aK _))))) (dr (fD tQ)) sX)
   (dD (eD (i9 (gj (sO (Ki rfl) (by rfl) N.all boot_all (aI (sW (own:=["part"]) (cap:=[]) (ix:=[]) (aG.of (bh (top 19)).names YA) rfl (Aj (pv 1))
     (λC fp s H=>⟨fh (i:=0) (Ψ9 ["part"]) rfl (Or.inl rfl),vC,d8 I.ok hr rfl I.mg I.kp I.bd .nil aY (aI (pv 0) bu)⟩)) bu)))) (dr (fD tQ)) sX)
   (dD (jM (i:=2) Jx.nd rfl (Or.inr rfl) (d8 W.ok nk rfl W.mg W.kp W.bd .nil aY (aI (pv 0) bu)))
   (dr (fD (sO (Ki rfl) (by rfl) N.all boot_all (aI (sW (own:=["good","price"]) (cap:=["goods"]) (ix:=[2]) (aG.of (bh (top 19)).names YA) rfl (mV rfl N.enumerate P0 (aI (pv 1) bu))
     (λC fp s H=>⟨ja (n:=2) rfl (va (fh (i:=0) (Ψ9 ["good","price","goods"]) rfl (Or.inl rfl)) (va (fh (i:=1) (Ψ9 ["good","price","goods"]) rfl (Or.inl rfl)) fV)),
      vC,ul (pQ jZ (pv 0) (pv 2) (by with_unfolding_all rfl)) (BO jY (dJ cg (pv 1) aZ (λ_ _=>rfl)) aZ (aK _)) (BO nL (dJ cg (pv 1) aZ (λ_ _=>rfl)) aZ (aK _))⟩)) bu)))))),?_⟩
  obtain⟨t1,Pt,e1⟩:=ist Z hT;refine⟨_,rfl,t1,_,Pt,e1,_,rfl,?_⟩;have hk:=k H (az.refl H);rcases yy hT with hn |⟨a,xs,ds,rfl,rfl,ha,hs⟩
  .rw[hn];rw[Ev hn] at hk;exact cM (cM hk)
  refine df ?_;have cu:=hs.len;refine⟨_,rfl,a,xs,rfl,.inr (aM.of ha),_,rfl,p,_,_,_,rfl,rfl,aM.of m.hp,rfl,pa,xa,rfl,.inr (aM.of m.ha),rfl,_,rfl,?_⟩;by_cases hl:xs.length=xa.length
  case neg =>
   rw[yw hl];have e3:eS xa.length (rowsOf wi) (.tuple ds)=false:=by
    cases e:eS xa.length (rowsOf wi) (.tuple ds) with
    |false=>rfl
    |true=>exact absurd (cu.trans (mU.mp e).1) hl
   rw[e3] at hk;exact cM hk
  rw[hl,GF];refine df ?_;refine⟨_,rfl,a,rfl,⟨_,aM.of ha⟩,λacc bI=>?_⟩;refine jn (xs:=xs) (λj zs H2=>az H H2/\zs=(ds.take j).map λd=>V.bl (bV d)) ⟨(az.refl H).acc bI,rfl⟩ (λj zs H2 _ _ z=>aM.of (z.1 _ _ ha)) ?_ ?_
  .rintro j x zs H2 hx hz ⟨s2,rfl⟩;obtain⟨dx,KL,tx⟩:=hs.at hx;refine iG ⟨_,rfl,b,x,dx,rfl,tx.aA s2,λH3 s3=>?_⟩;have hj:j<ds.length:=(Zf.mp KL).1;refine⟨_,s3 _ _ hz,?_,Cn.of cx ⟨(s2.trans s3).acc bI,?_⟩⟩
   .rw[Za,Ym,sz];omega
   .rw[vd KL,Zr];rfl
  rintro zs H2 hz ⟨s2,rfl⟩;rw[cu,Yd] at hz;refine⟨acc,_,rfl,.inl (bi.of hz),?_,_,rfl,?_⟩
  .rw[Xf];simp[Function.comp_def,gk]
  have e:(ds.map λd=>V.bl (bV d)).all tv=ds.all bV:=by rw[Xf];rfl
  rw[e];have KC:=k H2 s2;cases oZ:ds.all bV with
  |false =>
   refine cM ?_;have e3:eS xa.length (rowsOf wi) (.tuple ds)=false:=by
    cases e:eS xa.length (rowsOf wi) (.tuple ds) with
    |false=>rfl
    |true =>
     obtain⟨h1,h2⟩:=mU.mp e;have:ds.all bV=true:=Yc.mpr λd hd=>by
      obtain⟨j,hj,ej⟩:=Yt hd;have h3:=h2 j (by omega);have e2:ds.getD j .none=d:=by simp[List.getD,Zc hj,ej]
      rw[e2] at h3;cases hf:bV d with
      |true=>rfl
      |false=>rw[oU hf] at h3;cases h3
     rw[this] at oZ;cases oZ
   rw[e3] at KC;exact KC
  |true =>
  refine df ?_;have m2:=m.aA s2;refine⟨_,rfl,b,p,pa,pp,pw,xa,xp,xw,am,pu,wi,rfl,m2,λqg H3 s3 hqg=>?_⟩;have Ug:=s2.trans s3;refine⟨_,rfl,a,rfl,⟨_,aM.of (Ug _ _ ha)⟩,λGx J9=>?_⟩;have price:∀(i:Nat) (dx:PyData),ds[i]?=some dx->∃t u:Int,dx=.tuple [.int t,.int u]/\∀wd,Bz wd dx=(if wd=true then decide (0<t) else decide (t=0)):=λi dx KL=>by
   have hf:bV dx=true:=Yc.mp oZ dx (Zu KL);obtain⟨t,u,rfl,Ut,hg1⟩:=qy hf;refine⟨t,u,rfl,λwd=>?_⟩;show(bV (.tuple [.int t,.int u])&&(if wd then decide (0<t) else decide (t=0)&&decide (u=1)))=_;rw[hf,Xg];cases wd with
   |true=>rfl
   |false =>
    by_cases h0:t=0
    .have:u=1:=by
      subst h0;simp at hg1;omega
     rw[decide_eq_true h0,decide_eq_true this];rfl
    .rw[decide_eq_false h0];rfl
  refine qC (xs:=xs) (λi ys H'=>az H3 H'/\ys=(List.range i).map λj=>V.bl (Bz (has (rowsOf wi) j) (ds.getD j .none))) ⟨(az.refl H3).acc J9,rfl⟩ (λi ys H' _ _ z=>aM.of (z.1 _ _ (Ug _ _ ha))) ?_ ?_
  .rintro i x ys H4 H5 hx hy ⟨s4,rfl⟩ s5;obtain⟨dx,KL,tx⟩:=hs.at hx;obtain⟨t,u,rfl,OQ⟩:=price i dx KL;have hi:i<xa.length:=by have:=(Zf.mp hx).1;omega
   have Uf:=s4.trans s5;have Pk:ds.getD i .none=.tuple [.int t,.int u]:=by simp[List.getD,KL]
   have tx5:=(tx.aA Ug).aA Uf;cases tx5 with
   |@tup ax xs2 _ hax ZU =>
   match xs2,ZU with
   |_,.cons (.int _) (.cons (.int _) .nil) =>
   refine iG ⟨_,rfl,_,rfl,qg,_,rfl,.inr (aM.of (Uf _ _ hqg)),rfl,uU _ _,_,rfl,?_⟩;have WC:(if false=true then !vE (V.int (i:Int)) (vB xa.length (rowsOf wi)) else vE (V.int (i:Int)) (vB xa.length (rowsOf wi)))=has (rowsOf wi) i:=by
    rw[if_neg (by decide)];have:=Bf (M:=rowsOf wi) hi;rw[show(0+(i:Int))=(i:Int) by omega] at this;exact this
   rw[WC];have EY:=s5 _ _ hy;have gy:∀c:Bool,c=Bz (has (rowsOf wi) i) (.tuple [.int t,.int u])->∃zs,H5 Gx=some (.lst zs)/\zs.length<sizeLine/\vR (eF 2 [2] [some (.ref p),some (.ref a),some (.ref qg)]) Gx (λys H'=>az H3 H'/\ys=(List.range (i+1)).map λj=>V.bl (Bz (has (rowsOf wi) j) (ds.getD j .none)))
     (((eF 2 [2] [some (.ref p),some (.ref a),some (.ref qg)]).set 0 (some (.int i))).set 1 (some (.ref ax))) (aF H5 Gx (.lst (zs++[.bl c]))):=λc hc=>by
    refine⟨_,EY,?_,vR.of cx ⟨Uf.acc J9,?_⟩⟩
    .rw[Za,Yy,sz];omega
    .rw[Ys,Zr,hc];simp only[Zs,X8];rw[Pk]
   cases hh:has (rowsOf wi) i with
   |true =>
    refine cM ⟨_,rfl,ax,_,_,_,rfl,rfl,aM.of hax,rfl,_,_,rfl,rfl,?_⟩;exact gy _ (by rw[OQ,hh];rfl)
   |false =>
    refine df ⟨_,rfl,ax,_,_,_,rfl,rfl,aM.of hax,rfl,rfl,?_⟩;refine gy _ ?_;rw[OQ,hh];by_cases h0:t=0
    .subst h0;rfl
    .rw[if_neg (by decide),decide_eq_false h0];simp[h0]
  .rintro ys H4 hy ⟨s4,rfl⟩;refine⟨Gx,_,rfl,.inl (bi.of hy),?_,?_⟩
   .rw[Xf];simp[Function.comp_def,gk]
   have e4:((List.range xs.length).map λj=>V.bl (Bz (has (rowsOf wi) j) (ds.getD j .none))).all tv=eS xa.length (rowsOf wi) (.tuple ds):=by
    rw[Xf];show _=(decide (ds.length=xa.length)&&(List.range xa.length).all λj=>Bz (has (rowsOf wi) j) (ds.getD j .none));rw[decide_eq_true (by omega),Xg,hl];rfl
   rw[e4];exact k H4 (Ug.trans s4)
def M0:ap ["market","thing"] ["market","thing"] (bh (top 20)):=L2.di
def HA {f fA Pr:Addr}{fd dA:FuncData}(F:cL K "need_prices" "need_prices" (top 20) f fd)(mgP:mg "NoPrices"=some (.ref Pr))(exP:PySem.W.excIn K Pr [.type "ValueError",.type "Exception",.type "BaseException",.type "object"] "ValueError.__new__"=true)
  (A:bM K mg P w base "are_prices" 3 ["market","thing"] Js fA dA):aO P w K mg base (pi P w) 4 f fd ["market","thing"] (CV Pr):=by
 refine F.OG M0 (λvs H Q E h=>?_) (λbv A' outer s H vs Q E hr h=>?_)
 .obtain⟨b,p,pa,pp,pw,xa,xp,xw,am,pu,wi,v,d,rfl,_⟩:=h;rfl
 .obtain⟨b,p,pa,pp,pw,xa,xp,xw,am,pu,wi,v,d,rfl,m,hT,k0,k1⟩:=h;refine⟨_,dr (eD (i9 (gj (d8 A.ok hr rfl A.mg A.kp A.bd .nil aY (aI (pv 0) (aI (pv 1) bu))))) (dr (oy PySem.F.excBase_ValueError rfl mgP exP (aI wn bu))) sX),?_⟩;refine⟨_,rfl,_,rfl,b,p,pa,pp,pw,xa,xp,xw,am,pu,wi,v,d,rfl,m,hT,λH1 s1=>⟨_,rfl,?_⟩⟩;cases hp:eS xa.length (rowsOf wi) d with
  |false=>exact cM ⟨by show 1<=sizeLine;decide,k0 hp H1 s1⟩
  |true=>exact df (k1 hp H1 s1)
def YU:ap Ψ8 Ψ8 (bh (top 22)):=L2.di
def Tw {f fN fB Pr:Addr}{fd dN dB:FuncData}(F:cL K "best_goods" "best_goods" (top 22) f fd)(N:Nm mg)(Ne:kF K mg P w base "need_prices" 4 ["market","thing"] (CV Pr) fN dN)(B:bM K mg P w base "best_by_wishes" 5 ["row","prices"] RD fB dB) :
  aO P w K mg base (pi P w) 6 f fd Ψ8 (rq Pr):=by
 refine F.OG YU (λvs H Q E h=>?_) (λbv A' outer s H vs Q E hr h=>?_)
 .obtain⟨b,p,pa,pp,pw,xa,xp,xw,am,pu,wi,v,d,rfl,_⟩:=h;rfl
 .obtain⟨b,p,pa,pp,pw,xa,xp,xw,am,pu,wi,v,d,rfl,ag,k0,k1⟩:=h;have Uw:db 4 _:=hr.mono (by decide);refine⟨_,dD (yP (d8 Ne.ok Uw rfl Ne.mg Ne.kp Ne.bd .nil Cr (aI (pv 0) (aI (pv 1) bu))))
   (dr (fD (zP dE (by rfl) N.tuple pe (aI (sW (own:=["row"]) (cap:=["prices"]) (ix:=[1]) (aG.of (bh (top 22)).names Ψ8) rfl (Aj (dJ cg (pv 0) aZ (λ_ _=>rfl)))
    (λC fp s H=>⟨fh (i:=0) (Ψ9 ["row","prices"]) rfl (Or.inl rfl),vC,d8 B.ok hr rfl B.mg B.kp B.bd .nil aY (aI (pv 0) (aI (pv 1) bu))⟩)) bu)))),?_⟩
  refine⟨_,rfl,_,rfl,b,p,pa,pp,pw,xa,xp,xw,am,pu,wi,v,d,rfl,ag.m,ag.tr,k0,λhp H1 s1=>?_⟩;obtain⟨qs,rfl,BF,hpq⟩:=D2 hp;have Rk:=ag.aA s1;have UB:=ag.wd qs rfl;have htr:=Rk.tr;obtain⟨BK,Vu,Ai,Ui,a1,a6,w1,w6,_⟩:=Rk.m.lw;cases htr with
  |@tup a ys _ ha P8 =>
  have fr:=jw.of P8;refine⟨_,rfl,p,_,_,_,rfl,rfl,aM.of Rk.m.hp,rfl,pw,rfl,⟨_,aM.of Rk.m.hw⟩,λacc bI=>?_⟩;refine jn (xs:=xw) (λi ws H'=>az H1 H'/\tu H' ws ((ah (rowsOf wi) qs).take i)) ⟨(az.refl H1).acc bI,.nil⟩ (λi ws H' _ _ z=>aM.of (z.1 _ _ Rk.m.hw)) ?_ ?_
  .rintro i x ws H2 hx hz ⟨s2,rs⟩;obtain⟨ns,c,E8,rfl,hc⟩:=BK.at hx;have VV:=Zu E8;have hnl:=Ai ns VV;have dQ:∀j,0<ns.getD j 0->0<qs.getD j 0:=λj hj=>by
    have hjl:j<ns.length:=by
     rcases Yg j ns.length with z |z
     .exact z
     .simp[List.getD,Yw z] at hj
    refine hpq.pos j (by omega) ?_;unfold has;exact Zv.mpr ⟨ns,VV,by simpa using hj⟩
   refine iG ⟨_,rfl,_,rfl,c,a,ns,ys,qs,rfl,s2 _ _ hc,s2 _ _ ha,fr.aA s2,by omega,by omega,Ui ns VV,UB,dQ,λt H3 s3 ht=>?_⟩;have VG:=s3 _ _ hz;have hi:i<(rowsOf wi).length:=(Zf.mp E8).1;have eB:(ah (rowsOf wi) qs)[i]?=some ((bE ns qs).map λg:Nat=>(g:Int)):=by
    unfold ah;rw[Zh,E8];rfl
   have tl:Tm H3 (aF H3 acc (.lst (ws++[.ref t]))):=Tm.lst VG;refine⟨ws,VG,?_,Cn.of cx ⟨(s2.trans s3).acc bI,?_⟩⟩
   .rw[rs.len,Ym,sz];have:(rowsOf wi).length=xw.length:=BK.len.symm;omega
   .rw[vd eB];exact yI ((rs.keep s3.tm).keep tl) (tl _ _ (by rw[ht,wX]))
  .rintro ws H2 hz ⟨s2,rs⟩;have e:xw.length=(ah (rowsOf wi) qs).length:=by unfold ah;rw[Za,BK.len]
   rw[e,Yd] at rs;refine⟨acc,ws,rfl,.inl ⟨bi.of hz,λl hl=>?_⟩⟩;have s3:=(az.refl H2).new (o:=.tup ws) hl;exact k1 qs rfl BF hpq l ws _ (s1.trans (s2.trans s3)) cx (rs.keep s3.tm)
end
def jw.cat {H:Hp}{xs ys:List V}{ps qs:Δ1}(h1:jw H xs ps)(h2:jw H ys qs):jw H (xs++ys) (ps++qs):=by
 refine⟨by simp[h1.1,h2.1],λj y hy=>?_⟩;rcases Yg j xs.length with z |z
 .rw[Z4 z] at hy;obtain⟨c,e,hc⟩:=h1.2 j y hy;refine⟨c,e,?_⟩;have:(ps++qs).getD j 0=ps.getD j 0:=by simp[List.getD,Z4 (h1.1▸z)]
  rw[this];exact hc
 .rw[Yv z] at hy;obtain⟨c,e,hc⟩:=h2.2 _ y hy;refine⟨c,e,?_⟩;have:(ps++qs).getD j 0=qs.getD (j-xs.length) 0:=by
   rw[h1.1] at z ⊢;simp[List.getD,Yv z]
  rw[this];exact hc
def numOf (c:Int)(q:Rat):Int:=q.num*(c / (q.den:Int))
def NP {c:Int}{q:Rat}(h:(q.den:Int)∣c):((numOf c q:Int):Rat)=(c:Rat)*q:=by
 obtain⟨x,rfl⟩:=h;have hd:=den_pos q;unfold numOf;rw[Jg _ (by omega),Y5,Y5,<- rV q]
 grind
def ints_of {c:Int}{qs:Δ1}(h:∀q∈qs,(q.den:Int)∣c):dk c (qs.map (numOf c)) qs:=by
 refine⟨Za _,λj hj=>?_⟩;have e1:(qs.map (numOf c)).getD j 0=numOf c (qs.getD j 0):=by simp[List.getD,Zh,Zc hj]
 have e2:qs.getD j 0∈qs:=by simp[List.getD,Zc hj]
 rw[e1];exact NP (h _ e2)
def DO {c d:Int}(hc:0<c)(hd:0<d):0<(Int.gcd c d:Int)/\0<c / (Int.gcd c d:Int)*d/\d∣c / (Int.gcd c d:Int)*d/\c∣c / (Int.gcd c d:Int)*d/\(c / (Int.gcd c d:Int)).natAbs<=c.natAbs/\((Int.gcd c d:Int)).natAbs<=d.natAbs:=by
 obtain⟨x,hx⟩:=Q8 (a:=c) (b:=d);obtain⟨y,hy⟩:=Qa (a:=c) (b:=d);have hg:0<(Int.gcd c d:Int):=by
  have:0<Int.gcd c d:=Int.gcd_pos_of_ne_zero_left _ (by omega);omega
 have Ft:(Int.gcd c d:Int)<=d:=Int.le_of_dvd hd (Qa _ _);have ex:c / (Int.gcd c d:Int)=x:=Int.ediv_eq_of_eq_mul_right (by omega) hx;generalize (Int.gcd c d:Int)=g at hx hy hg Ft ex ⊢;rw[ex];have x0:0<x:=by
  rcases Int.lt_trichotomy x 0 with z |z |z
  .have:=Int.mul_neg_of_pos_of_neg hg z;omega
  .rw[z] at hx;omega
  .exact z
 refine⟨hg,Y4 x0 hd,⟨x,Int.mul_comm _ _⟩,⟨y,by rw[hx,hy];grind⟩,?_,by omega⟩;have h1:x<=c:=by
  rw[hx];have:=Int.mul_le_mul_of_nonneg_right (show 1<=g by omega) (show 0<=x by omega);omega
 omega
section
variable {P:Program}{w:World}{K:Θ1}{mg:Θ3}{base:Heap}
abbrev NOB:Δ2:=["parts","bottom","part"]
def xP:ap NOB ["parts"] (bh (top 15)):=L2.di
def NE {f fG:Addr}{fd dG:FuncData}(F:cL K "on_one_bottom" "on_one_bottom" (top 15) f fd)(G:bM K mg P w base "common_divisor" 1 ["one","other"] nR fG dG):aO P w K mg base cQ 2 f fd ["parts"] Jo:=by
 refine F.ok xP (λvs H Q E h=>?_) (λbv A' outer s H vs Q E hr h=>?_)
 .obtain⟨l,ys,qs,rfl,_⟩:=h;rfl
 .obtain⟨l,ys,all,rfl,hl,fr,UC,h12,k⟩:=h;refine⟨_,dD (jM (i:=1) xP.nd rfl (Or.inr rfl) aZ)
   (dD (nV PassesOwn.never rfl (Ak (pv 0)) (fh (i:=2) xP.nd rfl (Or.inl rfl))
    (dr (jM (i:=1) xP.nd rfl (Or.inr rfl) (cB sH (cB oA (pv 1) (d8 G.ok hr rfl G.mg G.kp G.bd .nil aY (aI (pv 1) (aI (dJ cg (pv 2) aZ (λ_ _=>rfl)) bu)))) (dJ cg (pv 2) aZ (λ_ _=>rfl))))))
   (dr (fD (sW (own:=["part"]) (cap:=["bottom"]) (ix:=[1]) (aG.of (bh (top 15)).names NOB) rfl (Ak (pv 0))
    (λC fp s H=>⟨fh (i:=0) (Ψ9 ["part","bottom"]) rfl (Or.inl rfl),vC,cB sH (dJ cg (pv 0) aZ (λ_ _=>rfl)) (cB oA (pv 1) (dJ cg (pv 0) aZ (λ_ _=>rfl)))⟩))))),?_⟩
  have BU:ys.length=all.length:=fr.1;refine⟨_,rfl,l,rfl,⟨_,bi.of hl⟩,?_⟩;refine oF (xs:=ys) (λi σ H'=>(∃c y2,σ=[some (.ref l),some (.int c),y2]/\0<c/\Bd (1+300*i) c/\∀z∈all.take i,(z.den:Int)∣c)/\H'=H) ⟨⟨1,_,rfl,by decide,by unfold Bd;decide,λz hz=>by simp at hz⟩,rfl⟩ (λj σ H' _ z=>by rw[z.2];exact bi.of hl) ?_ ?_
  .rintro i y σ H4 hy ⟨⟨c,y2,rfl,OZ,QO,o6⟩,rfl⟩;obtain⟨a,rfl,ha⟩:=fr.2 i y hy;have hi:i<all.length:=by have:=(Zf.mp hy).1;omega
   have eq:all[i]?=some (all.getD i 0):=by simp[List.getD,Zc hi]
   have bq:=UC _ (Zu eq);obtain⟨g0,d1,d2,d3,d4,d5⟩:=DO OZ (den_pos (all.getD i 0));refine⟨_,rfl,_,rfl,_,rfl,a,_,_,_,rfl,rfl,aM.of ha,rfl,c,_,rfl,_,_,rfl,rfl,⟨g0,(bq.2.le d5).mono (by decide)⟩,_,rfl,a,_,_,_,rfl,rfl,aM.of ha,rfl,_,_,rfl,rfl,⟨(QO.le d4).mono (by omega),bq.2.mono (by decide)⟩,?_⟩;refine⟨⟨_,_,rfl,d1,((QO.le d4).mul bq.2).mono (by omega),λz hz=>?_⟩,rfl⟩;rw[vd eq] at hz;rcases Zt.mp hz with y |y
   .exact Int.dvd_trans (o6 z y) d3
   .have:z=all.getD i 0:=by simpa using y
    rw[this];exact d2
  rintro σ H4 ⟨⟨c,y2,rfl,OZ,QO,o6⟩,rfl⟩;rw[BU,Qc (Ze _)] at o6;rw[BU] at QO;refine⟨_,rfl,l,rfl,⟨_,bi.of hl⟩,λrh eT=>?_⟩;refine qB (xs:=ys) (λi vs H'=>az H4 H'/\vs=((all.take i).map (numOf c)).map V.int) ⟨(az.refl H4).acc eT,rfl⟩ (λj vs H' _ _ z=>bi.of (z.1 _ _ hl)) ?_ ?_
  .rintro i x vs H' hx hy ⟨st,rfl⟩;obtain⟨a,rfl,ha⟩:=(fr.aA st).2 i x hx;have hi:i<all.length:=by have:=(Zf.mp hx).1;omega
   have eq:all[i]?=some (all.getD i 0):=by simp[List.getD,Zc hi]
   have bq:=UC _ (Zu eq);have hd:=den_pos (all.getD i 0);have I0:Bd 8000 (c / ((all.getD i 0).den:Int)):=(QO.le (by
    have h1:0<=c / ((all.getD i 0).den:Int):=Qr (by omega) (by omega);have h2:c / ((all.getD i 0).den:Int)<=c:=Qq _ (by omega);omega)).mono (by omega)
   refine iG ⟨_,rfl,a,_,_,_,rfl,rfl,aM.of ha,rfl,_,rfl,_,rfl,a,_,_,_,rfl,rfl,aM.of ha,rfl,_,_,rfl,rfl,⟨hd,bq.2.mono (by decide)⟩,_,_,rfl,rfl,⟨bq.1.mono (by decide),I0⟩,_,hy,?_,Cn.of cx ⟨st.acc eT,?_⟩⟩
   .rw[Za,Za,Ym,sz];omega
   .rw[vd eq,Zr,Zr];rfl
  rintro vs H5 EY ⟨s5,rfl⟩;rw[BU,Qc (Ze _)] at EY;exact k rh c _ H5 s5 OZ (ints_of o6) EY
def xU:ap ["members","sets","member"] ["members"] (bh (top 27)):=L2.di
def HL {f:Addr}{fd:FuncData}(F:cL K "all_sets" "all_sets" (top 27) f fd):aO P w K mg base cQ 1 f fd ["members"] CY:=by
 refine F.ok xU (λvs H Q E h=>?_) (λbv A' outer s H vs Q E hr h=>?_)
 .obtain⟨l,ns,rfl,_⟩:=h;rfl
 .obtain⟨l,ns,rfl,hl,h6,k⟩:=h;refine⟨_,dD (jM (i:=1) xU.nd rfl (Or.inl rfl) (ia (aI (xD bu) bu)))
   (dD (nV PassesOwn.never rfl (Aj (pv 0)) (fh (i:=2) xU.nd rfl (Or.inr rfl))
    (dr (jM (i:=1) xU.nd rfl (Or.inl rfl) (cB wt (pv 1) (sW (own:=["some"]) (cap:=["member"]) (ix:=[2]) (aG.of (bh (top 27)).names ["members","sets","member"]) rfl (Ak (pv 1))
     (λC fp s H=>⟨fh (i:=0) (Ψ9 ["some","member"]) rfl (Or.inl rfl),vC,cB yT (pv 0) (xD (aI (pv 1) bu))⟩))))))
   (dr (fD (pv 1)))),?_⟩
  refine⟨by show 0<=sizeLine;decide,λp0 Fq=>⟨by show 1<=sizeLine;decide,λp1 OS=>?_⟩⟩;have s0:=(az.refl H).new (o:=.tup []) Fq;have s1:=s0.new (o:=.lst [.ref p0]) OS;have e0:(aF (aF H p0 (.tup [])) p1 (.lst [.ref p0])) p0=some (.tup []):=(az.refl _).new OS _ _ cx;have e1:(aF (aF H p0 (.tup [])) p1 (.lst [.ref p0])) p1=some (.lst [.ref p0]):=cx;generalize aF (aF H p0 (.tup [])) p1 (.lst [.ref p0])=H1 at s1 e0 e1 ⊢;refine⟨_,rfl,l,rfl,⟨_,aM.of (s1 _ _ hl)⟩,?_⟩;refine Iu (xs:=ns.map V.int) (λi σ H'=>(∃a xs y2,σ=[some (.ref l),some (.ref a),y2]/\H' a=some (.lst xs)/\mw H' xs (aB (ns.take i)))/\az H H') ⟨⟨p1,_,_,rfl,e1,mw.nil.app (r:=[]) e0⟩,s1⟩ (λi σ H' _ z=>aM.of (z.2 _ _ hl)) ?_ ?_
  .rintro i x σ H2 hx ⟨⟨a,xs,y2,rfl,ha,ts⟩,s2⟩;obtain⟨n,hn,rfl⟩:∃n:Int,ns[i]?=some n/\x=V.int n:=by
    rw[Zh] at hx;cases e:ns[i]? with
    |none=>rw[e] at hx;cases hx
    |some n=>rw[e] at hx;exact⟨n,rfl,by simpa using hx.symm⟩
   have hi:i<ns.length:=(Zf.mp hn).1;have ahI:xs.length<=32:=by
    rw[ts.1,BR,Ym];exact Zk (Y1 (by decide) (show min i ns.length<=5 by omega)) (by decide)
   refine⟨_,rfl,_,rfl,a,rfl,⟨_,bi.of ha⟩,λacc bI=>?_⟩;refine qB (xs:=xs) (λj zs H'=>az H2 H'/\mw H' zs (((aB (ns.take i)).take j).map λs=>s++[n])/\zs.length=j) ⟨(az.refl H2).acc bI,mw.nil,rfl⟩ (λj zs H' _ _ z=>bi.of (z.1 _ _ ha)) ?_ ?_
   .rintro j x zs H3 hx3 hz ⟨s3,tz,Ku⟩;obtain⟨c,r,hr3,rfl,hc⟩:=ts.2 j x hx3;have ON:r.length<=6:=by
     have h1:=(cv.mp (Zu hr3)).length_le;rw[Ym] at h1;omega
    have hj:j<xs.length:=(Zf.mp hx3).1;refine iG ⟨_,rfl,_,rfl,by show 1<=sizeLine;decide,λq hq=>?_⟩;have s4:=(az.refl H3).new (o:=.tup [.int n]) hq;refine⟨c,q,_,_,rfl,rfl,s4 _ _ (s3 _ _ hc),cx,by rw[Za,sz];show _+1<=_;omega,λt H5 s5 ht=>?_⟩;have hz5:=s5 _ _ (s4 _ _ hz);have s35:=s4.trans s5;refine⟨zs,hz5,by rw[Ku,sz];omega,Cn.of cx ⟨(s3.trans s35).acc bI,?_,by rw[Z5,Ku];rfl⟩⟩;rw[vd hr3,Zr];refine((tz.aA s35).app (r:=r++[n]) (a:=t) ?_).tm (Tm.lst hz5);rw[ht,Zr];rfl
   .rintro zs H3 hz ⟨s3,tz,Ku⟩;rw[ts.1,Yd] at tz;have ha3:=s3 _ _ ha;refine⟨a,acc,xs,zs,rfl,rfl,ha3,hz,by rw[Ku,sz];omega,λp hp=>?_⟩;have s4:=(az.refl H3).new (o:=.lst (xs++zs)) hp;refine⟨⟨p,_,_,rfl,cx,?_⟩,s2.trans (s3.trans s4)⟩;rw[vd hn,iz];exact((ts.aA s3).cat tz).aA s4
  .rintro σ H2 ⟨⟨a,xs,y2,rfl,ha,ts⟩,s2⟩;rw[Za,Yd] at ts;exact⟨_,rfl,k a xs H2 s2 ha ts⟩
def YT:ap ["coins","some"] ["coins","some"] (bh (top 29)):=L2.di
def Tv {f:Addr}{fd:FuncData}(F:cL K "coins_of" "coins_of" (top 29) f fd)(N:Nm mg):aO P w K mg base cQ 1 f fd ["coins","some"] RC:=by
 refine F.ok YT (λvs H Q E h=>?_) (λbv A' outer s H vs Q E hr h=>?_)
 .obtain⟨l,t,ms,S,rfl,_⟩:=h;rfl
 .obtain⟨l,t,ms,S,rfl,hl,ht,h6,hS,k⟩:=h;refine⟨_,dr (fD (sO (nQ rfl) (by rfl) N.sum boot_sum (aI (sW (own:=["number"]) (cap:=["coins"]) (ix:=[0]) (aG.of (bh (top 29)).names ["coins","some"]) rfl (Aj (pv 1))
   (λC fp s H=>⟨fh (i:=0) (Ψ9 ["number","coins"]) rfl (Or.inl rfl),vC,dJ kE (pv 1) (pv 0) (λ_ _=>rfl)⟩)) bu))),?_⟩
  refine⟨_,rfl,t,rfl,⟨_,aM.of ht⟩,λacc bI=>?_⟩;refine jn (xs:=cj S) (λj zs H'=>az H H'/\zs=((S.take j).map λi=>ms.getD i 0).map V.int) ⟨(az.refl H).acc bI,rfl⟩ (λj zs H' _ _ z=>aM.of (z.1 _ _ ht)) ?_ ?_
  .rintro j x zs H1 hx hz ⟨s1,rfl⟩;obtain⟨g,hg,rfl⟩:=NS hx;have OX:=hS g (Zu hg);obtain⟨ea,_,_⟩:=oI (ns:=ms) (r:=(g:Int)) (by omega) (by omega);rw[Zo] at ea;have hj:j<S.length:=(Zf.mp hg).1;refine iG ⟨_,rfl,_,rfl,l,_,_,_,rfl,rfl,bi.of (s1 _ _ hl),ea,_,hz,?_,Cn.of cx ⟨s1.acc bI,?_⟩⟩
   .rw[Za,Za,Ym,sz];omega
   .rw[vd hg,Zr,Zr];rfl
  .rintro zs H1 hz ⟨s1,rfl⟩;rw[Ek,Yd] at hz;exact⟨acc,_,rfl,.inl (bi.of hz),k H1 s1⟩
abbrev NIC:Δ2:=["market","prices","coins","goods"]
def LD:ap NIC Ψ8 (bh (top 28)):=L2.di
def Tt {f fO fM:Addr}{fd dO dM:FuncData}(F:cL K "in_coins" "in_coins" (top 28) f fd)(N:Nm mg)(O:bM K mg P w base "on_one_bottom" 2 ["parts"] Jo fO dO)(M:bM K mg P w base "money_by_good" 4 Ψ8 Jp fM dM):aO P w K mg base cQ 5 f fd Ψ8 yH:=by
 refine F.ok LD (λvs H Q E h=>?_) (λbv A' outer s H vs Q E hr h=>?_)
 .obtain⟨b,p,pa,pp,pw,q,xa,xp,xw,ys,am,pu,wi,qs,rfl,_⟩:=h;rfl
 .obtain⟨b,p,pa,pp,pw,q,xa,xp,xw,ys,am,pu,wi,qs,rfl,m,pr,BF,k⟩:=h;have zU:db 2 _:=hr.mono (by decide);refine⟨_,dD (jM (i:=2) LD.nd rfl (Or.inl rfl) (d8 O.ok zU rfl O.mg O.kp O.bd .nil aY (aI (cB wt (d8 M.ok hr rfl M.mg M.kp M.bd .nil aY (aI (pv 0) (aI (pv 1) bu))) (zP yr (by rfl) N.list boot_list (aI (dJ cg (pv 0) aZ (λ_ _=>rfl)) bu))) bu)))
   (dD (jM (i:=3) LD.nd rfl (Or.inl rfl) (sO cG (by rfl) N.len Z8 (aI (dJ cg (pv 0) aZ (λ_ _=>rfl)) bu)))
   (dr (fD (xD (aI (oz Lz (pv 2) rR (rQ (pv 3))) (aI (oz Lz (pv 2) (rQ (pv 3)) rR) bu)))))),?_⟩
  obtain⟨WA,E7⟩:=m.am;obtain⟨_,_,_,_,a1,a6,w1,w6,wp⟩:=m.lw;have oZ:=jw.of pr.tr;refine⟨_,rfl,_,rfl,b,p,pa,pp,pw,q,xa,xp,xw,ys,am,pu,wi,qs,rfl,m,pr.hq,oZ,BF,λz hz=>(pr.bd z hz).mono (by decide),λr0 zs H1 s1 _ hz0 Wv=>?_⟩;rw[<- BF,HQ] at Wv;have m1:=m.aA s1;have BW:(d7 (am.map bL) qs).length=qs.length:=by unfold d7;simp
  have Ku:zs.length=qs.length:=by rw[Wv.1,BW]
  have kA:xp.length=(qS pu).length:=m.fp.1;refine⟨_,rfl,p,_,_,_,rfl,rfl,aM.of m1.hp,rfl,pp,xp,rfl,.inr (aM.of m1.pf),λl1 hl1=>?_⟩;have o8:=(az.refl H1).new (o:=.lst xp) hl1;refine⟨r0,l1,zs,xp,rfl,rfl,o8 _ _ hz0,cx,by rw[sz];omega,λl2 BX=>?_⟩;have zJ:=o8.new (o:=.lst (zs++xp)) BX;have UK:(aF (aF H1 l1 (.lst xp)) l2 (.lst (zs++xp))) l2=some (.lst (zs++xp)):=cx;have QU:jw (aF (aF H1 l1 (.lst xp)) l2 (.lst (zs++xp))) (zs++xp) (d7 (am.map bL) qs++qS pu):=jw.cat (Wv.aA zJ) ((m1.aA zJ).fp);have s03:=s1.trans zJ;generalize aF (aF H1 l1 (.lst xp)) l2 (.lst (zs++xp))=H3 at zJ UK QU s03 ⊢;have UC:∀z∈d7 (am.map bL) qs++qS pu,Rb 300 z:=λz hz=>by
   rcases Zt.mp hz with y |y
   .unfold d7 at y;obtain⟨g,hg,rfl⟩:=Zd.mp y;have hgx:g<qs.length:=by simpa using hg
    have Sk:g<(am.map bL).length:=by have:=congrArg List.length WA;rw[Za] at this;omega
    have em:(am.map bL).getD g 0∈am.map bL:=by
     have e3:=Zc Sk;have:(am.map bL).getD g 0=(am.map bL)[g]:=by simp only[List.getD,e3,Xm]
     rw[this];exact Zg Sk
    have bam:Rb 7 (((am.map bL).getD g 0:Int):Rat):=u7 (by have:=E7 _ em;unfold Bd;omega) (by decide);exact(ft (pr.rb g) bam).mono (by decide)
   .exact((m.pu.2 z y).2).mono (by decide)
  refine⟨l2,_,_,rfl,UK,QU,UC,by rw[Z5,BW];omega,λr c ms H4 s4 hc him Uw=>?_⟩;have PB:=s03.trans s4;have m4:=m.aA PB;obtain⟨i1,i2⟩:=kr him;rw[BW] at i1 i2;refine⟨_,rfl,p,_,_,_,rfl,rfl,aM.of m4.hp,rfl,pa,xa,rfl,.inr (aM.of m4.ha),?_⟩;refine⟨_,rfl,_,rfl,_,rfl,r,_,rfl,bi.of Uw,λr1 nk=>?_⟩;have s6:=(az.refl H4).new (o:=.lst (fc (ms.map V.int) none (some (xa.length:Int)))) nk;refine⟨_,rfl,_,rfl,_,rfl,r,_,rfl,bi.of (s6 _ _ Uw),λr2 zU=>?_⟩;have ahL:ms.length=qs.length+(qS pu).length:=by rw[him.1,Z5,BW]
  have hxl:(ms.map V.int).length=ms.length:=Za _;have c1:=Oj (xs:=ms.map V.int) (r:=(xa.length:Int)) (by omega) (by omega);have c2:=EE (xs:=ms.map V.int) (r:=(xa.length:Int)) (by omega) (by omega);rw[Zo,<- BF,<- List.map_take] at c1;rw[Zo,<- BF,<- Qy] at c2;rw[<- BF] at s6 zU ⊢;have s7:=s6.new (o:=.lst (fc (ms.map V.int) (some (qs.length:Int)) none)) zU;have e1:(aF H4 r1 (.lst (fc (ms.map V.int) none (some (qs.length:Int))))) r1=some (.lst ((ms.take qs.length).map V.int)):=by rw[cx,c1]
  have e1':=(az.refl (aF H4 r1 (.lst (fc (ms.map V.int) none (some (qs.length:Int)))))).new (o:=.lst (fc (ms.map V.int) (some (qs.length:Int)) none)) zU _ _ e1;have e2:(aF (aF H4 r1 (.lst (fc (ms.map V.int) none (some (qs.length:Int))))) r2 (.lst (fc (ms.map V.int) (some (qs.length:Int)) none))) r2=some (.lst ((ms.drop qs.length).map V.int)):=by rw[cx,c2]
  generalize aF (aF H4 r1 (.lst (fc (ms.map V.int) none (some (qs.length:Int))))) r2 (.lst (fc (ms.map V.int) (some (qs.length:Int)) none))=H7 at s7 e1' e2 ⊢;refine⟨by show 2<=sizeLine;decide,λr9 hr9=>?_⟩;have s8:=(az.refl H7).new (o:=.tup [.ref r1,.ref r2]) hr9;exact k r9 r1 r2 c _ _ _ (PB.trans (s7.trans s8)) hc i1 i2 cx (s8 _ _ e1') (s8 _ _ e2)
end
def Ei {α : Type}{L:List α}(nd:L.Nodup){i:Nat}{r:α}(h:L[i]?=some r):r∉L.take i:=by
 intro z;obtain⟨j,hj,e⟩:=Qn.mp z;rw[Ym] at hj;obtain⟨hi,ei⟩:=Zf.mp h;rw[List.getElem_take,<- ei] at e;have:=(List.getElem_inj nd).mp e;omega
def wI {kvs:List (List b9×V)}{k:List b9}(h:k∉kvs.map (·.1)):gD kvs k=none:=by
 cases e:gD kvs k with
 |none=>rfl
 |some v=>exact absurd (yx e) h
def TY:∀{aN:List (Int×Γ3)},(aN.map (·.2)).Nodup->∀{i:Nat}{k:List b9}{v:V},(mL aN)[i]?=some (k,v)->∃row,aN[i]?=some row/\k=row.2.map nC/\v=.int row.1/\gD (mL aN) k=some v:=by
 intro aN nd i k v h;have h1:∃row,aN[i]?=some row/\k=row.2.map nC/\v=.int row.1:=by
  unfold mL at h;rw[Zh] at h;cases e:aN[i]? with
  |none=>rw[e] at h;cases h
  |some row =>
   rw[e] at h;simp only[Y0,Option.some.injEq,Prod.mk.injEq] at h;exact⟨row,rfl,h.1.symm,h.2.symm⟩
 obtain⟨row,e1,e2,e3⟩:=h1;refine⟨row,e1,e2,e3,?_⟩
 clear h
 induction aN generalizing i with
 |nil=>simp at e1
 |cons p r ih =>
  rw[Zs,Yl] at nd;cases i with
  |zero =>
   have e':p=row:=by simpa using e1
   subst e';show gD ((p.2.map nC,V.int p.1)::mL r) k=some v;rw[e3];exact jg e2.symm
  |succ i =>
   have e':r[i]?=some row:=by simpa using e1
   have hm:row.2∈r.map (·.2):=Zd.mpr ⟨row,Zu e',rfl⟩;show gD ((p.2.map nC,V.int p.1)::mL r) k=some v;rw[jh (λz=>nd.1 (by rw[e2] at z;rw[uw z];exact hm))];exact ih nd.2 e'
def vV (aN:List (Int×Γ3))(m:Int):Γ1:=(aN.filter λx=>decide (x.1=m)).map (·.2)
def rM {aN:List (Int×Γ3)}{m:Int}{r:Γ3}:r∈vV aN m↔∃row∈aN,row.1=m/\row.2=r:=by
 unfold vV;rw[Zd];constructor
 .rintro⟨row,h,rfl⟩;obtain⟨h1,h2⟩:=Zn.mp h;exact⟨row,h1,by simpa using h2,rfl⟩
 .rintro⟨row,h1,h2,rfl⟩;exact⟨row,Zn.mpr ⟨h1,by simpa using h2⟩,rfl⟩
def ql {aN:List (Int×Γ3)}{m:Int}{i:Nat}{row:Int×Γ3}(h:aN[i]?=some row):vV (aN.take (i+1)) m=vV (aN.take i) m++if decide (row.1=m)=true then [row.2] else []:=by
 unfold vV;rw[vd h,Xb,TZ,Zr]
 congr 1
 split<;>simp_all
def DL {H:Hp}{zs:List V}{M:Γ1}(h:mw H zs M){i:Nat}{b:Addr}(e:zs[i]?=some (.ref b)):∃r,M[i]?=some r/\H b=some (.tup (r.map V.int))/\((M.map λr=>r.map V.int).getD i []).length=r.length:=by
 obtain⟨a,r,e1,e2,e3⟩:=h.2 i _ e;injection e2 with e2
 subst e2;refine⟨r,e1,e3,?_⟩;simp[List.getD,Zh,e1]
def Ez {M:Γ1}{r:Γ3}(h:r∈M):∃j,j<M.length/\((M.map λr=>r.map V.int).getD j []).length=r.length:=by
 obtain⟨j,hj,rfl⟩:=Qn.mp h;exact⟨j,hj,by simp[List.getD,Zh,Zc hj]⟩
section
variable {P:Program}{w:World}{K:Θ1}{mg:Θ3}{base:Heap}
abbrev NGA:Δ2:=["market","prices","best","money","purses"]
def FQ:ap NGA Ψ8 (bh (top 30)):=L2.di
def Tu {f fB fI fC fT fA fW Pr:Addr}{fd dB dI dC dT dA dW:FuncData}(F:cL K "goods_above" "goods_above" (top 30) f fd)(B:kF K mg P w base "best_goods" 6 Ψ8 (rq Pr) fB dB)(I:bM K mg P w base "in_coins" 5 Ψ8 yH fI dI)
  (Co:bM K mg P w base "coins_of" 1 ["coins","some"] RC fC dC) (T:bM K mg P w base "takers_by_best" 1 ["best","goods"] Rz fT dT) (A:bM K mg P w base "all_sets" 1 ["members"] CY fA dA) (W:bM K mg P w base "wished" 1 ["market"] Ch fW dW):aO P w K mg base cQ 7 f fd Ψ8 RE:=by
 refine F.ok FQ (λvs H Q E h=>?_) (λbv A' outer s H vs Q E hr h=>?_)
 .obtain⟨b,p,pa,pp,pw,q,xa,xp,xw,ys,am,pu,wi,qs,rfl,_⟩:=h;rfl
 .obtain⟨b,p,pa,pp,pw,q,xa,xp,xw,ys,am,pu,wi,qs,rfl,mp,k⟩:=h;have m:=mp.m;have pr:=mp.pr;have BF:=mp.l;have nk:db 1 _:=hr.mono (by decide);have hr5:db 5 _:=hr.mono (by decide);obtain⟨BK,Vu,Ai,Ui,a1,a6,w1,w6,wp⟩:=m.lw;refine⟨_,dD (jM (i:=2) FQ.nd rfl (Or.inr rfl) (d8 B.ok hr rfl B.mg B.kp B.bd .nil rz (aI (pv 0) (aI (pv 1) bu))))
   (dD (kg (d8 I.ok hr5 rfl I.mg I.kp I.bd .nil aY (aI (pv 0) (aI (pv 1) bu))) (ja rfl (va (fh (i:=3) FQ.nd rfl (Or.inr rfl)) (va (fh (i:=4) FQ.nd rfl (Or.inr rfl)) fV))))
   (dr (fD (AQ (own:=["some"]) (cap:=["best","money","purses"]) (ix:=[2,3,4]) hr.ML (aG.of (bh (top 30)).names NGA) rfl (Ak (d8 A.ok nk rfl A.mg A.kp A.bd .nil aY (aI (d8 W.ok nk rfl W.mg W.kp W.bd .nil aY (aI (pv 0) bu)) bu)))
    (λC fp s H=>⟨fh (i:=0) (Ψ9 ["some","best","money","purses"]) rfl (Or.inl rfl),vC,pv 0,
     cB wq (d8 Co.ok nk rfl Co.mg Co.kp Co.bd .nil aY (aI (pv 2) (aI (pv 0) bu))) (d8 Co.ok nk rfl Co.mg Co.kp Co.bd .nil aY (aI (pv 3) (aI (d8 T.ok nk rfl T.mg T.kp T.bd .nil aY (aI (pv 1) (aI (pv 0) bu))) bu)))⟩))))),?_⟩
  have hM6:(rowsOf wi).length<=6:=by rw[<- BK.len];exact w6
  have ON:∀r∈ah (rowsOf wi) qs,r.length<=6:=λr jN=>by
   unfold ah at jN;obtain⟨row,eC,rfl⟩:=Zd.mp jN;rw[Za];have h1:=Ai row eC;have h2:(bE row qs).length<=row.length:=by unfold bE;exact Zk (Yk _ _) (by simp)
   omega
  have hPr:eS xa.length (rowsOf wi) (.tuple (qs.map qD))=true:=Cq.mpr ⟨BF,mp.ok⟩;have ag:Cd b H p pa pp pw xa xp xw am pu wi (.ref q) (.tuple (qs.map qD)):=⟨m,.tup pr.hq pr.tr,λBw e z hz=>by
   injection e with e
   have:Bw=qs:=(List.map_inj_right (λa b h=>by have h1:=congrArg OE h;rw[i8,i8] at h1;exact h1)).mp e.symm;rw[this] at hz;exact(pr.bd z hz).mono (by decide)⟩
  refine⟨_,rfl,_,rfl,b,p,pa,pp,pw,xa,xp,xw,am,pu,wi,.ref q,_,rfl,ag,λhn=>by(rw[hPr] at hn;cases hn),λBw e _ _ rb xb H1 s1 kB ls1=>?_⟩;injection e with e
  have e':qs=Bw:=(List.map_inj_right (λa b h=>by have h1:=congrArg OE h;rw[i8,i8] at h1;exact h1)).mp e;subst e';refine⟨_,rfl,_,rfl,b,p,pa,pp,pw,q,xa,xp,xw,ys,am,pu,wi,qs,rfl,m.aA s1,pr.aA s1,BF,λr2 rm rp c ms ps H2 s2 hc hms zV zU hrm hrp=>?_⟩;refine⟨r2,_,rfl,aM.of zU,rfl,_,_,rfl,_,_,rfl,rfl,?_⟩;have o8:=s1.trans s2;refine⟨_,rfl,b,p,pa,pp,pw,xa,xp,xw,am,pu,wi,rfl,m.aA o8,λqw H3 s3 hw3=>?_⟩;rw[Ax] at hw3;have Fm:(ay xa.length (rowsOf wi)).length<=6:=by
   unfold ay;rw[Za];exact Zk (lP _ _) a6
  have hwz:∀x∈ay xa.length (rowsOf wi),0<=x/\x.toNat<xa.length:=λx hx=>by
   unfold ay at hx;obtain⟨j,hj,rfl⟩:=Zd.mp hx;have:=(jf hj).1;exact⟨by omega,by omega⟩
  refine⟨qw,ay xa.length (rowsOf wi),rfl,hw3,Fm,λqse xs H4 s4 e4 Γ=>?_⟩;have s24:=s3.trans s4;have PB:=o8.trans s24;have hnd:=jr (BD xa.length (rowsOf wi));have ahJ:(aB (ay xa.length (rowsOf wi))).length<=64:=by
   rw[BR];exact Zk (Y1 (by decide) Fm) (by decide)
  have hMl:(ah (rowsOf wi) qs).length=(rowsOf wi).length:=by unfold ah;rw[Za]
  have kA:(qS pu).length=(rowsOf wi).length:=by
   have h1:=(m.fp).1;have h2:=BK.len;omega
  have BW:(d7 (am.map bL) qs).length=xa.length:=by unfold d7;rw[Za,Yy,BF]
  refine⟨qse,rfl,⟨_,bi.of e4⟩,λacc bI=>?_⟩;refine uX (xs:=xs) (λi kvs H'=>az H4 H'/\∃aN:List (Int×Γ3),kvs=mL aN/\aN.map (·.2)=(aB (ay xa.length (rowsOf wi))).take i/\∀x∈aN,((x.1:Int):Rat)=(c:Rat)*aX (am.map bL) (qS pu) qs (rowsOf wi) (aw x.2))
   ⟨(az.refl H4).acc bI,[],rfl,rfl,λx hx=>nomatch hx⟩ (λi zs H' _ _ z=>bi.of (z.1 _ _ e4)) ?_ ?_
  .rintro i x kvs H5 hx hy ⟨s5,aN,rfl,Ao,wc⟩;obtain⟨a,S,UG,rfl,ha⟩:=Γ.2 i x hx;have hSm:=Zu UG;have hSs:=cv.mp hSm;have hS1:∀x∈S,0<=x/\x.toNat<xa.length:=λx hx=>hwz x (hSs.subset hx)
   have hS6:(aw S).length<=6:=by unfold aw;rw[Za];exact Zk hSs.length_le Fm
   have vI:∀x∈S,0<=x:=λx hx=>(hS1 x hx).1
   have hSx:∀g∈aw S,g<xa.length:=λg hg=>by
    unfold aw at hg;obtain⟨x,hx,rfl⟩:=Zd.mp hg;exact(hS1 x hx).2
   have Uf:=s5;have FL:az H2 H5:=s24.trans s5;have ha5:H5 a=some (.tup (cj (aw S))):=by rw[<- NR vI];exact s5 _ _ ha
   refine iG ⟨_,rfl,_,rfl,_,rfl,rm,a,ms,aw S,rfl,FL _ _ hrm,ha5,hS6,λg hg=>by rw[hms.1,BW];exact hSx g hg,λH6 s6=>?_⟩;refine⟨_,rfl,_,rfl,_,rfl,rb,a,xb,ah (rowsOf wi) qs,aw S,rfl,s6 _ _ (FL _ _ (s2 _ _ kB)),ls1.keep ((s2.trans FL).trans s6).tm,s6 _ _ ha5,by rw[hMl];exact hM6,ON,λrt H7 s7 ht7=>?_⟩;rw[hMl] at ht7;have Sb:H7 rt=some (.tup (cj (cO (rowsOf wi) qs (aw S)))):=ht7;generalize sY:cO (rowsOf wi) qs (aw S)=tk at Sb;have htl:∀i∈tk,i<(rowsOf wi).length:=λi hi=>by rw[<- sY] at hi;exact IL hi
   have htn:tk.length<=6:=by rw[<- sY];exact Zk (PY _ _ _) hM6
   refine⟨rp,rt,ps,tk,rfl,s7 _ _ (s6 _ _ (FL _ _ hrp)),Sb,htn,λg hg=>by rw[zV.1,kA];exact htl g hg,λH8 s8=>?_⟩;have Vs:=(s6.trans s7).trans s8;have B':S.map nC∉(mL aN).map (·.1):=λz=>by
    unfold mL at z;rw[Zj] at z;obtain⟨row,eC,e⟩:=Zd.mp z;have e2:row.2=S:=uw e;have:row.2∈aN.map (·.2):=Zd.mpr ⟨row,eC,rfl⟩;rw[Ao,e2] at this;exact Ei hnd UG this
   have hi:i<(aB (ay xa.length (rowsOf wi))).length:=(Zf.mp UG).1;have EZ:aN.length=i:=by
    have:=congrArg List.length Ao;rw[Za,Ym] at this;omega
   refine⟨_,_,rfl,rfl,mL aN,S.map nC,a,Vs _ _ hy,rfl,?_,?_,Lj.of cx ⟨(s5.trans Vs).acc bI,aN++[(((aw S).map λg=>ms.getD g 0).sum-(tk.map λi=>ps.getD i 0).sum,S)],?_,?_,?_⟩⟩
   .rw[Dw];exact Vs _ _ (s5 _ _ ha)
   .unfold mL;rw[Za,EZ,sz];omega
   .rw[uh _ (wI B')];unfold mL;rw[Zr];rfl
   .rw[Zr,Ao,vd UG];rfl
   .intro x hx;rcases Zt.mp hx with h |h
    .exact wc x h
    .rw[Z2.mp h];have h1:=IJ hms (ix:=aw S) (λg hg=>by rw[BW];exact hSx g hg);have h2:=IJ zV (ix:=tk) (λi hi=>by rw[kA];exact htl i hi);rw[Rat.intCast_sub,h1,h2];unfold aX iN ci;rw[sY,Rat.sub_eq_add_neg,Rat.sub_eq_add_neg,Rat.mul_add,Rat.mul_neg]
  .rintro kvs H5 hy ⟨s5,aN,rfl,Ao,wc⟩;rw[Γ.1,Yd] at Ao;exact k acc c aN H5 (PB.trans s5) (PB.free bI) ⟨hc,Ao,wc⟩ hy
abbrev NPG:Δ2:=["market","prices","above"]
def RI:ap NPG Ψ8 (bh (top 31)):=L2.di
def Tr {f fA De:Addr}{fd dA:FuncData}(F:cL K "paid_goods" "paid_goods" (top 31) f fd)(N:Nm mg)(mgD:mg "Dear"=some (.ref De))(exD:PySem.W.excIn K De [.type "ValueError",.type "Exception",.type "BaseException",.type "object"] "ValueError.__new__"=true)
  (A:bM K mg P w base "goods_above" 7 Ψ8 RE fA dA):aO P w K mg base (pi P w) 8 f fd Ψ8 (Lx De):=by
 refine F.OG RI (λvs H Q E h=>?_) (λbv A' outer s H vs Q E hr h=>?_)
 .obtain⟨b,p,pa,pp,pw,q,xa,xp,xw,ys,am,pu,wi,qs,rfl,_⟩:=h;rfl
 .obtain⟨b,p,pa,pp,pw,q,xa,xp,xw,ys,am,pu,wi,qs,rfl,mp,k⟩:=h;have Ut:=J3 hr;refine⟨_,dD (jM (i:=2) RI.nd rfl (Or.inr rfl) (d8 A.ok hr rfl A.mg A.kp A.bd .nil aY (aI (pv 0) (aI (pv 1) bu))))
   (dD (eD (pQ jY (sO (lZ rfl) (by rfl) N.max boot_max (aI (Dc PySem.F.plainAttrs_dict PySem.F.slot_dict_values PySem.F.type_dict_values wZ (pv 2)) bu)) aZ (aK _)) (dr (oy PySem.F.excBase_ValueError rfl mgD exD (aI wn bu))) sX)
   (dr (fD (AO K rfl (by rfl) N.max (by rfl) N.len (aI (sW (own:=["some"]) (cap:=["above"]) (ix:=[2]) (aG.of (bh (top 31)).names NPG) rfl (D8 (pv 2))
    (λC fp s H=>⟨fh (i:=0) (Ψ9 ["some","above"]) rfl (Or.inl rfl),gN (pQ nL (yR Ut (pv 1) (pv 0) (λ_ _=>rfl)) aZ (aK _)),pv 0⟩)) bu))))),?_⟩
  refine⟨_,rfl,_,rfl,b,p,pa,pp,pw,q,xa,xp,xw,ys,am,pu,wi,qs,rfl,mp,λd c aN H1 s1 hd0 ab Wb=>?_⟩;obtain⟨k0,k1⟩:=k c aN ab;have nd:(aN.map (·.2)).Nodup:=by rw[ab.2.1];exact jr (BD xa.length (rowsOf wi))
  have EZ:aN.length=(aB (ay xa.length (rowsOf wi))).length:=by rw[<- ab.2.1,Za]
  have Fm:(ay xa.length (rowsOf wi)).length<=6:=by
   unfold ay;rw[Za];exact Zk (lP _ _) mp.m.lw.2.2.2.2.2.1
  rw[BR] at EZ;have Wr:aN.length<=64:=by rw[EZ];exact Zk (Y1 (by decide) Fm) (by decide)
  have bJ:aN≠[]:=λz=>by
   rw[z] at EZ;exact absurd EZ.symm (Xq (Nat.pow_pos (by decide)))
  refine⟨_,rfl,.inr (.inr (.inl ⟨rfl,.inr ⟨_,Wb⟩⟩)),d,mL aN,rfl,rfl,Wb,λv hv=>?_⟩;have s2:=(az.refl H1).new (o:=gd v d) hv;have Fw:=s2 _ _ Wb;have Vt:=s1.trans s2;refine⟨v,d,mL aN,aN.map (·.1),rfl,cx,.inl Fw,by unfold mL;rw[Zj,Zj];rfl,λz=>bJ (Xp.mp z),λmx hm gF=>?_⟩;generalize aF H1 v (gd v d)=H2 at s2 Vt Fw ⊢;refine⟨_,_,rfl,rfl,_,rfl,?_⟩;obtain⟨YV,TR,er0⟩:=Zd.mp hm;by_cases h0:0<mx
  .rw[decide_eq_true h0];exact cM ⟨by show 1<=sizeLine;decide,k0 ⟨YV,TR,by rw[er0];exact h0⟩ H2 Vt⟩
  rw[decide_eq_false h0];refine df ?_;have Ft:∀x∈aN,x.1<=0:=λx hx=>by have:=gF _ (Zd.mpr ⟨x,hx,rfl⟩);omega
  refine⟨_,rfl,d,mL aN,rfl,Fw,λo acc bI=>?_⟩;have KI:(aF H2 d (.iE o (.dT (mL aN)))) d=some (.iE o (.dT (mL aN))):=cx;have s4:az H (aF H2 d (.iE o (.dT (mL aN)))):=Vt.acc hd0;generalize aF H2 d (.iE o (.dT (mL aN)))=H4 at KI s4 bI ⊢;have OX:(mL aN).length=aN.length:=by unfold mL;rw[Za]
  refine xu (kvs:=mL aN) (λi zs H'=>az H4 H'/\mw H' zs (vV (aN.take i) 0)/\zs.length<=i) ⟨(az.refl H4).acc bI,mw.nil,Ze _⟩ (λi zs H' _ _ z=>z.1 _ _ KI) ?_ ?_
  .rintro i kk vv b zs H5 OU hb hz ⟨s5,tz,Ku⟩;obtain⟨row,eC,rfl,rfl,wc⟩:=TY nd OU;have hi:i<aN.length:=(Zf.mp eC).1;refine⟨_,rfl,_,rfl,d,_,rfl,.inr ⟨mL aN,_,b,.inr ⟨o,s5 _ _ KI⟩,rfl,hb,wc.symm⟩,rfl,_,rfl,?_⟩;have ev:decide (V.int row.1=V.int 0)=decide (row.1=0):=by rw[Ya];simp
   rw[ev];rw[Dw] at hb;cases hc:decide (row.1=0) with
   |true =>
    refine cM ⟨_,rfl,zs,hz,by rw[sz];omega,Cn.of cx ⟨s5.acc bI,?_,by rw[Z5];show zs.length+1<=i+1;omega⟩⟩;rw[ql eC,hc,if_pos rfl];exact(tz.app hb).tm (Tm.lst hz)
   |false =>
    refine df (Cn.of hz ⟨s5,?_,by omega⟩);rw[ql eC,hc,if_neg (by decide),Ye];exact tz
  .rintro zs H5 hz ⟨s5,tz,Ku⟩;rw[OX,Yd] at tz;have Od:vV aN 0≠[]:=λz=>by
    have hn:([]:Γ3)∈aN.map (·.2):=by rw[ab.2.1];exact cv.mpr (List.nil_sublist _)
    obtain⟨x,hx,ex⟩:=Zd.mp hn;have hv:=ab.2.2 x hx;rw[ex] at hv;have:aX (am.map bL) (qS pu) qs (rowsOf wi) (aw [])=0:=qN;rw[this,Xo] at hv;have h00:x.1=0:=by simpa using hv
    have:=rM.mpr ⟨x,hx,h00,rfl⟩;rw[z] at this;cases this
   refine⟨acc,zs,_,rfl,bi.of hz,λz=>Od (Xp.mp z),tz.ks,λi b hb hi j4=>?_⟩;obtain⟨r,nk,Fx,cu⟩:=DL tz hb;obtain⟨row,eC,e1,e2⟩:=rM.mp (Zu nk);subst e2;refine k1 Ft b row H5 (s4.trans s5) eC e1 (λx hx ex=>?_) Fx;obtain⟨j,hj,hjl⟩:=Ez (rM.mpr ⟨x,hx,ex,rfl⟩);have:=(j4 j (by rw[Za];exact hj)).1;omega
end
end Ae
namespace Ae
open PySem L2 KG EX KM MI
section
variable {P:Program}{w:World}{K:Θ1}{mg:Θ3}{base:Heap}
def FN:ap XW ["market"] (bh (top 17)):=L2.di
def Nz {f   : Addr}{fd  : FuncData}(F:cL K "wished" "wished" (top 17) f fd)(N:Nm mg)  : aO P w K mg base cQ 1 f fd ["market"] (cF K Gi) :=
 kC F FN (λO xs P PX h=>by obtain⟨_,_,_,rfl,_⟩:=h;rfl) (λbv A outer s H E QX hr=>⟨RS,(bS (n8 (mv 0) (ic rfl (qT (dz (i:=1) FN.nd) (qT (dz (i:=2) FN.nd) (qT (zO (fh (i:=3) FN.nd rfl (Or.inr rfl))) fg)))))
 (cK (jL (vc dE fu (by rfl) N.tuple pe (ar (lA (own:=["good"]) (cap:=["wishes"]) (ix:=[3]) (aG.of (bh (top 17)).names XW) rfl (vD rfl N.range (ar (ju cG qP (by rfl) N.len Z8 (ar (mv 1) aC)) aC)) (lB (by decide))
 (λC fp s H=>⟨(zO (fh (i:=0) (Ψ9 ["good","wishes"]) rfl (Or.inr rfl))),(zM (ib (ju (t0 rfl) wA (by rfl) N.any boot_any (ar (lA (own:=["row"]) (cap:=["good"]) (ix:=[0]) (aG.of [(".0",.local),("good",.cell),("any",.globalImplicit),("wishes",.cell)] ["good","wishes"]) rfl (iU (mv 1)) (lB (by decide))
 (λC fp s H=>⟨(dz (i:=0) (Ψ9 ["row","good"])),qQ,(lL jY tS (ca (mv 0) (mv 1)) cb (aK _))⟩)) aC)))),(mv 0)⟩)) aC))))),λO xs Pq h=>M4 O xs Pq QX h⟩)
def SY:ap Mp ["best","goods"] (bh (top 25)):=L2.di
def NC {f   : Addr}{fd  : FuncData}(F:cL K "takers_by_best" "takers_by_best" (top 25) f fd)(N:Nm mg)  : aO P w K mg base cQ 1 f fd ["best","goods"] (cF K Gj) :=
 kC F SY (λO xs P PX h=>by obtain⟨_,_,rfl,_⟩:=h;rfl) (λbv A outer s H E QX hr=>⟨RV,(cK (jL (vc dE fu (by rfl) N.tuple pe (ar (lA (own:=["buyer","row"]) (cap:=["goods"]) (ix:=[1]) (aG.of (bh (top 25)).names Mp) rfl (yX rfl N.enumerate P0 (ar (mv 0) aC)) (jH (IK (by decide) (IK (by decide) jI)))
 (λC fp s H=>⟨(ic rfl (qT (dz (i:=0) (Ψ9 ["buyer","row","goods"])) (qT (dz (i:=1) (Ψ9 ["buyer","row","goods"])) fg))),(zM (ib (ju (t0 rfl) wA (by rfl) N.any boot_any (ar (lA (own:=["good"]) (cap:=["goods"]) (ix:=[2]) (aG.of [(".0",.local),("buyer",.local),("row",.local),("any",.globalImplicit),("goods",.cell)] ["buyer","row","goods"]) rfl (iU (mv 1)) (lB (by decide))
 (λC fp s H=>⟨(dz (i:=0) (Ψ9 ["good","goods"])),qQ,(lL jZ (gH false) (mv 0) (mv 1) (by rfl))⟩)) aC)))),(mv 0)⟩)) aC)))),λO xs Pq h=>M7 O xs Pq QX h⟩)
def xT:ap MF ["members"] (bh (top 27)):=L2.di
def HK {f   : Addr}{fd  : FuncData}(F:cL K "all_sets" "all_sets" (top 27) f fd)(N:Nm mg)  : aO P w K mg base cQ 1 f fd ["members"] (cF K ym) :=
 kC F xT (λO xs P PX h=>by obtain⟨_,rfl,_⟩:=h;rfl) (λbv A outer s H E QX hr=>⟨J0,(bS (c6 (i:=1) xT.nd (eR (ar (pN aC) aC)))
 (bS (mK PassesOwn.never rfl (iU (mv 0)) (zO (fh (i:=2) xT.nd rfl (Or.inr rfl))) (cK (c6 (i:=1) xT.nd (zN (mv 1) (lA (own:=["some"]) (cap:=["member"]) (ix:=[2]) (aG.of (bh (top 27)).names MF) rfl (iU (mv 1)) (lB (by decide))
 (λC fp s H=>⟨(dz (i:=0) (Ψ9 ["some","member"])),qQ,(zN (mv 0) (pN (ar (mv 1) aC)))⟩))))))
 (cK (jL (mv 1))))),λO xs Pq h=>G4 O xs Pq QX h⟩)
def S9:ap MD ["coins","some"] (bh (top 29)):=L2.di
def Eh {f   : Addr}{fd  : FuncData}(F:cL K "coins_of" "coins_of" (top 29) f fd)(N:Nm mg)  : aO P w K mg base cQ 1 f fd ["coins","some"] (cF K og) :=
 kC F S9 (λO xs P PX h=>by obtain⟨_,_,rfl,_⟩:=h;rfl) (λbv A outer s H E QX hr=>⟨Dp,(cK (jL (ju (nQ rfl) lM (by rfl) N.sum boot_sum (ar (lA (own:=["number"]) (cap:=["coins"]) (ix:=[0]) (aG.of (bh (top 29)).names MD) rfl (iU (mv 1)) (lB (by decide))
 (λC fp s H=>⟨(dz (i:=0) (Ψ9 ["number","coins"])),qQ,(ca (mv 1) (mv 0))⟩)) aC)))),λO xs Pq h=>DX O xs Pq QX h⟩)
def S4:ap Mx Ψ8 (bh (top 21)):=L2.di
def HB {f K1  : Addr}{fd K5:FuncData}(F:cL K "money_by_good" "money_by_good" (top 21) f fd)(N:Nm mg)(mz:mg "zip"=none)(Ti:kF K mg P w base "times" 3 ["one","other"] (vp iT) K1 K5):aO P w K mg base cQ 4 f fd Ψ8 (cF K Gm) :=
 kC F S4 (λO xs P PX h=>by obtain⟨_,_,_,_,rfl,_⟩:=h;rfl) (λbv A outer s H E QX hr=>⟨RY,(cK (jL (lA (own:=["amount","price"]) (cap:=[]) (ix:=[]) (aG.of (bh (top 21)).names Mx) rfl (Dk rfl mz boot_zip (ar (ca (mv 0) cb) (ar (mv 1) aC))) (jH (IK (by decide) (IK (by decide) jI)))
 (λC fp s H=>⟨(ic rfl (qT (dz (i:=0) (Ψ9 ["amount","price"])) (qT (dz (i:=1) (Ψ9 ["amount","price"])) fg))),qQ,(OH Ti nB hr (ar (pN (ar (mv 0) (ar cb aC))) (ar (mv 1) aC)))⟩)))),λO xs Pq h=>M9 O xs Pq QX h⟩)
def xO:ap Mv ["parts"] (bh (top 15)):=L2.di
def Hz {f fGn  : Addr}{fd dGn:FuncData}(F:cL K "on_one_bottom" "on_one_bottom" (top 15) f fd)(N:Nm mg)(Gn:bM K mg P w base "common_divisor" 1 ["one","other"] nR fGn dGn):aO P w K mg base cQ 2 f fd ["parts"] (cF K Gk) :=
 kC F xO (λO xs P PX h=>by obtain⟨_,rfl,_⟩:=h;rfl) (λbv A outer s H E QX hr=>⟨RX,(bS (eQ (i:=1) xO.nd rfl (Or.inr rfl) cb)
 (bS (mK PassesOwn.never rfl (iU (mv 0)) (dz (i:=2) xO.nd) (cK (eQ (i:=1) xO.nd rfl (Or.inr rfl) (jd (ww (mv 1) (cc Gn Ig hr (ar (mv 1) (ar (ca (mv 2) cb) aC)))) (ca (mv 2) cb)))))
 (cK (jL (lA (own:=["part"]) (cap:=["bottom"]) (ix:=[1]) (aG.of (bh (top 15)).names Mv) rfl (iU (mv 0)) (lB (by decide))
 (λC fp s H=>⟨(dz (i:=0) (Ψ9 ["part","bottom"])),qQ,(jd (ca (mv 0) cb) (ww (mv 1) (ca (mv 0) cb)))⟩)))))),λO xs Pq h=>M8 O xs Pq QX h⟩)
def Cm:ap SJ Ψ8 (bh (top 28)):=L2.di
def HG {f fOo fMb  : Addr}{fd dOo dMb:FuncData}(F:cL K "in_coins" "in_coins" (top 28) f fd)(N:Nm mg)(Oo:bM K mg P w base "on_one_bottom" 2 ["parts"] (cF K Gk) fOo dOo)(Mb:bM K mg P w base "money_by_good" 4 Ψ8 (cF K Gm) fMb dMb):aO P w K mg base cQ 5 f fd Ψ8 (cF K Gv) :=
 kC F Cm (λO xs P PX h=>by obtain⟨_,_,_,_,rfl,_⟩:=h;rfl) (λbv A outer s H E QX hr=>⟨R5,(bS (c6 (i:=2) Cm.nd (cc Oo fz hr (ar (zN (cc Mb fz hr (ar (mv 0) (ar (mv 1) aC))) (vc yr wz (by rfl) N.list boot_list (ar (ca (mv 0) cb) aC))) aC)))
 (bS (c6 (i:=3) Cm.nd (ju cG qP (by rfl) N.len Z8 (ar (ca (mv 0) cb) aC)))
 (cK (jL (pN (ar (gO (mv 2) jC (jB (mv 3))) (ar (gO (mv 2) (jB (mv 3)) jC) aC))))))),λO xs Pq h=>Nf O xs Pq QX h⟩)
def S6:ap My ["best","paid"] (bh (top 34)):=L2.di
def HC {f   : Addr}{fd  : FuncData}(F:cL K "loosened" "loosened" (top 34) f fd)(N:Nm mg)  : aO P w K mg base cQ 1 f fd ["best","paid"] (cF K tZ) :=
 kC F S6 (λO xs P PX h=>by obtain⟨_,_,rfl,_⟩:=h;rfl) (λbv A outer s H E QX hr=>⟨JX,(cK (jL (vc dE fu (by rfl) N.tuple pe (ar (lA (own:=["row"]) (cap:=["paid"]) (ix:=[1]) (aG.of (bh (top 34)).names My) rfl (iU (mv 0)) (lB (by decide))
 (λC fp s H=>⟨(dz (i:=0) (Ψ9 ["row","paid"])),qQ,(JN (ib (ju (t0 rfl) wA (by rfl) N.any boot_any (ar (lA (own:=["good"]) (cap:=["paid"]) (ix:=[1]) (aG.of [(".0",.local),("row",.local),("any",.globalImplicit),("paid",.cell)] ["row","paid"]) rfl (iU (mv 0)) (lB (by decide))
 (λC fp s H=>⟨(dz (i:=0) (Ψ9 ["good","paid"])),qQ,(lL jZ (gH false) (mv 0) (mv 1) (by rfl))⟩)) aC))) (pN aC) (mv 0))⟩)) aC)))),λO xs Pq h=>G1 O xs Pq QX h⟩)
def S1:ap Mr ["prices","rising","factor"] (bh (top 37)):=L2.di
def Hu {f K1  : Addr}{fd K5:FuncData}(F:cL K "raised" "raised" (top 37) f fd)(N:Nm mg)(Ti:kF K mg P w base "times" 3 ["one","other"] (vp iT) K1 K5):aO P w K mg base cQ 4 f fd ["prices","rising","factor"] (cF K yg) :=
 kC F S1 (λO xs P PX h=>by obtain⟨_,_,_,rfl,_⟩:=h;rfl) (λbv A outer s H E QX hr=>⟨JT,(cK (jL (vc dE fu (by rfl) N.tuple pe (ar (lA (own:=["good","price"]) (cap:=["factor","rising"]) (ix:=[2,1]) (aG.of (bh (top 37)).names Mr) rfl (yX rfl N.enumerate P0 (ar (mv 0) aC)) (jH (IK (by decide) (IK (by decide) jI)))
 (λC fp s H=>⟨(ic rfl (qT (dz (i:=0) (Ψ9 ["good","price","factor","rising"])) (qT (dz (i:=1) (Ψ9 ["good","price","factor","rising"])) fg))),qQ,(JN (ly jZ (gH false) (mv 0) (mv 3) (by rfl)) (OH Ti nB hr (ar (mv 1) (ar (mv 2) aC))) (mv 1))⟩)) aC)))),λO xs Pq h=>GX O xs Pq QX h⟩)
def xQ:ap SG ["parts"] (bh (top 13)):=L2.di
def Eg {f B0  : Addr}{fd B1:FuncData}(F:cL K "least" "least" (top 13) f fd)(N:Nm mg)(Ls:bM K mg P w base "less" 1 ["one","other"] gh B0 B1):aO P w K mg base cQ 2 f fd ["parts"] (cF K rB) :=
 kC F xQ (λO xs P PX h=>by obtain⟨_,rfl,_⟩:=h;rfl) (λbv A outer s H E QX hr=>⟨Dm,(bS (c6 (i:=1) xQ.nd (ca (mv 0) cb))
 (bS (mK PassesOwn.never rfl (iU (mv 0)) (dz (i:=2) xQ.nd) (cK (pM (ib (cc Ls iu hr (ar (mv 2) (ar (mv 1) aC)))) (cK (c6 (i:=1) xQ.nd (mv 2))) pP)))
 (cK (jL (mv 1))))),λO xs Pq h=>DV O xs Pq QX h⟩)
def Ck:ap Mt ["market","prices","loose","rising"] (bh (top 35)):=L2.di
def Hv {f fIc fFr fCo fTb fAs Nn:Addr}{fd dIc dFr dCo dTb dAs:FuncData}(F:cL K "paying_factors" "paying_factors" (top 35) f fd)(N:Nm mg)(Ic:bM K mg P w base "in_coins" 5 Ψ8 (cF K Gv) fIc dIc)(Fr:kF K mg P w base "fraction" 2 ["top","bottom"] (B5 Nn) fFr dFr)(Co:bM K mg P w base "coins_of" 1 ["coins","some"] (cF K og) fCo dCo)(Tb:bM K mg P w base "takers_by_best" 1 ["best","goods"] (cF K Gj) fTb dTb)(As:bM K mg P w base "all_sets" 1 ["members"] (cF K ym) fAs dAs):aO P w K mg base cQ 6 f fd ["market","prices","loose","rising"] (cF K yi) :=
 kC F Ck (λO xs P PX h=>by obtain⟨_,_,_,_,_,rfl,_⟩:=h;rfl) (λbv A outer s H E QX hr=>⟨JV,(bS (n8 (cc Ic fz hr (ar (mv 0) (ar (mv 1) aC))) (ic rfl (qT (zO (fh (i:=4) Ck.nd rfl (Or.inr rfl))) (qT (zO (fh (i:=5) Ck.nd rfl (Or.inr rfl))) fg))))
 (cK (jL (lA (own:=["some"]) (cap:=["loose","money","purses"]) (ix:=[2,4,5]) (aG.of (bh (top 35)).names Mt) rfl (iU (cc As fz hr (ar (mv 3) aC))) (lB (by decide))
 (λC fp s H=>⟨(dz (i:=0) (Ψ9 ["some","loose","money","purses"])),(zM (nZ (mv 0))),(OH Fr TK hr (ar (cc Co fz hr (ar (mv 3) (ar (cc Tb fz hr (ar (mv 1) (ar (mv 0) aC))) aC))) (ar (cc Co fz hr (ar (mv 2) (ar (mv 0) aC))) aC)))⟩))))),λO xs Pq h=>GY O xs Pq QX h⟩)
def S3:ap Mw ["market","prices","loose","paid"] (bh (top 36)):=L2.di
def Ee {f fOv fRa Nn:Addr}{fd dOv dRa:FuncData}(F:cL K "meeting_factors" "meeting_factors" (top 36) f fd)(N:Nm mg)(mz:mg "zip"=none)(Ov:kF K mg P w base "over" 3 ["one","other"] (rn Nn) fOv dOv)(Ra:bM K mg P w base "rate" 4 ["wish","price"] rk fRa dRa):aO P w K mg base cQ 5 f fd ["market","prices","loose","paid"] (cF K rA) :=
 kC F S3 (λO xs P PX h=>by obtain⟨_,_,_,_,_,rfl,_⟩:=h;rfl) (λbv A outer s H E QX hr=>⟨Dl,(cK (jL (Em (own:=["row","best","good"]) (cap:=["paid","prices"]) (ix:=[3,1]) (aG.of (bh (top 36)).names Mw) rfl (Dk rfl mz boot_zip (ar (ca (mv 0) cb) (ar (mv 2) aC))) (jH (IK (by decide) (IK (by decide) jI)))
 (λC fp s H=>⟨(ic rfl (qT (dz (i:=0) (Ψ9 ["row","best","good","paid","prices"])) (qT (dz (i:=1) (Ψ9 ["row","best","good","paid","prices"])) fg))),(zM (nZ (mv 1))),(HS (mv 3)),(dz (i:=2) (Ψ9 ["row","best","good","paid","prices"])),(zM (ly jY tS (ca (mv 0) (mv 2)) cb (aK _))),(OH Ov HY hr (ar (cc Ra za hr (ar (ca (mv 0) (ca (mv 1) cb)) (ar (ca (mv 4) (ca (mv 1) cb)) aC))) (ar (cc Ra za hr (ar (ca (mv 0) (mv 2)) (ar (ca (mv 4) (mv 2)) aC))) aC)))⟩)))),λO xs Pq h=>DU O xs Pq QX h⟩)
def nK:ap Mq Ψ8 (bh (top 33)):=L2.di
def Hs {f fPg vM Wz fLo fPf fMf fLe fRs Pr De:Addr}{fd dPg vP WI dLo dPf dMf dLe dRs:FuncData}(F:cL K "rise" "rise" (top 33) f fd)(N:Nm mg)(Pg:kF K mg P w base "paid_goods" 8 Ψ8 (Lx De) fPg dPg)(Wi:bM K mg P w base "wished" 1 ["market"] (cF K Gi) vM vP)(Bg:kF K mg P w base "best_goods" 6 Ψ8 (rq Pr) Wz WI)(Lo:bM K mg P w base "loosened" 1 ["best","paid"] (cF K tZ) fLo dLo)(Pf:bM K mg P w base "paying_factors" 6 ["market","prices","loose","rising"] (cF K yi) fPf dPf)(Mf:bM K mg P w base "meeting_factors" 5 ["market","prices","loose","paid"] (cF K rA) fMf dMf)(Le:bM K mg P w base "least" 2 ["parts"] (cF K rB) fLe dLe)(Rs:bM K mg P w base "raised" 4 ["prices","rising","factor"] (cF K yg) fRs dRs):aO P w K mg base cQ 9 f fd Ψ8 (cF K yf) :=
 kC F nK (λO xs P PX h=>by obtain⟨_,_,_,_,rfl,_⟩:=h;rfl) (λbv A outer s H E QX hr=>⟨JS,(bS (eQ (i:=2) nK.nd rfl (Or.inr rfl) (OH Pg TD hr (ar (mv 0) (ar (mv 1) aC))))
 (bS (c6 (i:=3) nK.nd (vc dE fu (by rfl) N.tuple pe (ar (lA (own:=["good"]) (cap:=["paid"]) (ix:=[2]) (aG.of (bh (top 33)).names Mq) rfl (iU (cc Wi fz hr (ar (mv 0) aC))) (lB (by decide))
 (λC fp s H=>⟨(dz (i:=0) (Ψ9 ["good","paid"])),(zM (ly kh (gH true) (mv 0) (mv 1) (by rfl))),(mv 0)⟩)) aC)))
 (bS (pM (wv (nZ (mv 3))) (cK (jL ii)) pP)
 (bS (c6 (i:=4) nK.nd (OH Bg Er hr (ar (mv 0) (ar (mv 1) aC))))
 (bS (c6 (i:=5) nK.nd (cc Pf fz hr (ar (mv 0) (ar (mv 1) (ar (cc Lo fz hr (ar (mv 4) (ar (mv 2) aC))) (ar (mv 3) aC))))))
 (bS (c6 (i:=6) nK.nd (cc Mf fz hr (ar (mv 0) (ar (mv 1) (ar (cc Lo fz hr (ar (mv 4) (ar (mv 2) aC))) (ar (mv 2) aC))))))
 (bS (c6 (i:=7) nK.nd (cc Le fz hr (ar (zN (mv 5) (mv 6)) aC)))
 (cK (jL (pN (ar (mv 2) (ar (mv 7) (ar (cc Rs fz hr (ar (mv 1) (ar (mv 3) (ar (mv 7) aC)))) aC))))))))))))),λO xs Pq h=>GV O xs Pq QX h⟩)
def S8:ap MB ["market","prices","goods"] (bh (top 53)):=L2.di
def NI {f Wx zY  : Addr}{fd WG zZ:FuncData}(F:cL K "_law_money" "_law_money" (top 53) f fd)(N:Nm mg)(Su:bM K mg P w base "_law_sum" 3 ["some"] xL Wx WG)(Mu:bM K mg P w base "_law_mul" 2 ["one","other"] (vp iT) zY zZ):aO P w K mg base cQ 4 f fd ["market","prices","goods"] (cF K Gs) :=
 kC F S8 (λO xs P PX h=>by obtain⟨_,_,_,_,_,rfl,_⟩:=h;rfl) (λbv A outer s H E QX hr=>⟨R3,(cK (jL (cc Su yZ hr (ar (lA (own:=["good"]) (cap:=Ψ8) (ix:=[0,1]) (aG.of (bh (top 53)).names MB) rfl (iU (mv 2)) (lB (by decide))
 (λC fp s H=>⟨(dz (i:=0) (Ψ9 ["good","market","prices"])),qQ,(cc Mu nB hr (ar (ca (mv 2) (mv 0)) (ar (pN (ar (ca (ca (mv 1) cb) (mv 0)) (ar cb aC))) aC)))⟩)) aC)))),λO xs Pq h=>Nc O xs Pq QX h⟩)
def S7:ap Mz ["market","buyers"] (bh (top 55)):=L2.di
def NG {f Wx  : Addr}{fd WG:FuncData}(F:cL K "_law_purses" "_law_purses" (top 55) f fd)(N:Nm mg)(Su:bM K mg P w base "_law_sum" 3 ["some"] xL Wx WG):aO P w K mg base cQ 4 f fd ["market","buyers"] (cF K Gp) :=
 kC F S7 (λO xs P PX h=>by obtain⟨_,_,_,_,rfl,_⟩:=h;rfl) (λbv A outer s H E QX hr=>⟨R0,(cK (jL (cc Su yZ hr (ar (lA (own:=["buyer"]) (cap:=["market"]) (ix:=[0]) (aG.of (bh (top 55)).names Mz) rfl (iU (mv 1)) (lB (by decide))
 (λC fp s H=>⟨(dz (i:=0) (Ψ9 ["buyer","market"])),qQ,(ca (ca (mv 1) cb) (mv 0))⟩)) aC)))),λO xs Pq h=>Na O xs Pq QX h⟩)
def iX:ap SI ["bag","market"] (bh (top 63)):=L2.di
def NH {f fT ph zY vM  : Addr}{fd dT B2 zZ vP:FuncData}(F:cL K "_law_prices" "_law_prices" (top 63) f fd)(N:Nm mg)(T:bM K mg P w base "_law_take" 1 ["bag","many"] ke fT dT)(Lf:bM K mg P w base "_law_frac" 1 ["top","bottom"] nu ph B2)(Mu:bM K mg P w base "_law_mul" 2 ["one","other"] (vp iT) zY zZ)(Wi:bM K mg P w base "_law_wished" 1 ["market"] (cF K jS) vM vP):aO P w K mg base cQ 3 f fd ["bag","market"] (cF K Gq) :=
 kC F iX (λO xs P PX h=>by obtain⟨_,_,_,_,rfl,_⟩:=h;rfl) (λbv A outer s H E QX hr=>⟨R1,(bS (c6 (i:=2) iX.nd (cc Lf nM hr (ar (zN cb (cc T ES hr (ar (mv 0) (ar cb aC)))) (ar (zN cb (cc T ES hr (ar (mv 0) (ar cb aC)))) aC))))
 (bS (c6 (i:=3) iX.nd (ca (ca (mv 1) cb) (cc T ES hr (ar (mv 0) (ar (ju cG qP (by rfl) N.len Z8 (ar (ca (mv 1) cb) aC)) aC)))))
 (bS (c6 (i:=4) iX.nd (gv aC))
 (bS (mK PassesOwn.never rfl (vD rfl N.range (ar (ju cG qP (by rfl) N.len Z8 (ar (ca (mv 1) cb) aC)) aC)) (dz (i:=5) iX.nd) (bS (c6 (i:=6) iX.nd (pN (ar cb (ar cb aC))))
 (bS (pM (ly jZ (gH false) (mv 5) (cc Wi fz hr (ar (mv 1) aC)) (by rfl)) (bS (c6 (i:=7) iX.nd (ca (ca (mv 1) cb) (cc T ES hr (ar (mv 0) (ar (ju cG qP (by rfl) N.len Z8 (ar (ca (mv 1) cb) aC)) aC)))))
 (bS (c6 (i:=8) iX.nd (ju (qG rfl) Ib (by rfl) N.max boot_max (ar cb (ar (ca (ca (eR (ar (mv 3) (ar (mv 7) aC))) (cc T ES hr (ar (mv 0) (ar cb aC)))) (mv 5)) aC))))
 (bS (c6 (i:=6) iX.nd (cc Mu nB hr (ar (mv 2) (ar (pN (ar (mv 8) (ar cb aC))) aC))))
 (cK (pM (ly (pV hr.units) pZ (cc T ES hr (ar (mv 0) (ar cb aC))) cb (aK _)) (bS (c6 (i:=9) iX.nd (cc Lf nM hr (ar (zN cb (cc T ES hr (ar (mv 0) (ar cb aC)))) (ar (zN cb (cc T ES hr (ar (mv 0) (ar cb aC)))) aC))))
 (cK (c6 (i:=6) iX.nd (cc Mu nB hr (ar (mv 6) (ar (mv 9) aC)))))) pP))))) pP)
 (cK (ET (gw (mv 4) (ar (mv 6) aC)))))))
 (jc 4 (cK (jL (vc dE fu (by rfl) N.tuple pe (ar (mv 4) aC))))))))),λO xs Pq h=>Nb O xs Pq QX h⟩)
def eO:ap CJ Ψ8 (bh (top 64)):=L2.di
def Ho {f K3 vM zY ph B0  : Addr}{fd K6 vP zZ B2 B1:FuncData}(F:cL K "_law_tied" "_law_tied" (top 64) f fd)(N:Nm mg)(Be:bM K mg P w base "_law_best" 1 Ψ8 (cF K pz) K3 K6)(Wi:bM K mg P w base "_law_wished" 1 ["market"] (cF K jS) vM vP)(Mu:bM K mg P w base "_law_mul" 2 ["one","other"] (vp iT) zY zZ)(Lf:bM K mg P w base "_law_frac" 1 ["top","bottom"] nu ph B2)(Ls:bM K mg P w base "_law_less" 1 ["one","other"] gh B0 B1):aO P w K mg base cQ 3 f fd Ψ8 (cF K yd) :=
 kC F eO (λO xs P PX h=>by obtain⟨_,_,_,_,rfl,_⟩:=h;rfl) (λbv A outer s H E QX hr=>⟨JP,(bS (c6 (i:=2) eO.nd (cc Be fz hr (ar (mv 0) (ar (mv 1) aC))))
 (bS (c6 (i:=3) eO.nd (gv aC))
 (bS (mK PassesOwn.never rfl (vD rfl N.range (ar (ju cG qP (by rfl) N.len Z8 (ar (mv 1) aC)) aC)) (zO (fh (i:=4) eO.nd rfl (Or.inr rfl))) (bS (c6 (i:=5) eO.nd (ca (mv 1) (mv 4)))
 (bS (c6 (i:=6) eO.nd (lL (pV hr.units) pZ (lA (own:=["row"]) (cap:=["good"]) (ix:=[4]) (aG.of (bh (top 64)).names CJ) rfl (iU (mv 2)) (lB (by decide))
 (λC fp s H=>⟨(dz (i:=0) (Ψ9 ["row","good"])),(zM (ly jZ (gH false) (mv 1) (mv 0) (by rfl))),(mv 0)⟩)) (eR aC) (aK _)))
 (bS (pM (PW.pt (nY (nZ (mv 6)) (kM (ly jZ (gH false) (mv 4) (cc Wi fz hr (ar (mv 0) aC)) (by rfl))))) (bS (c6 (i:=5) eO.nd (pN (ar cb (ar cb aC))))
 (cK (mK PassesOwn.never rfl (vD rfl N.range (ar (ju cG qP (by rfl) N.len Z8 (ar (mv 2) aC)) aC)) (dz (i:=7) eO.nd) (cK (pM (ly (xV hr.units) xY (ca (mv 2) (mv 7)) (eR aC) (aK _)) (bS (c6 (i:=8) eO.nd (ca (ca (mv 0) cb) (mv 7)))
 (bS (c6 (i:=9) eO.nd (ca (ca (mv 2) (mv 7)) cb))
 (bS (c6 (i:=10) eO.nd (cc Mu nB hr (ar (ca (mv 1) (mv 9)) (ar (cc Lf nM hr (ar (ca (mv 8) (mv 4)) (ar (ca (mv 8) (mv 9)) aC))) aC))))
 (cK (c6 (i:=5) eO.nd (ca (eR (ar (mv 5) (ar (mv 10) aC))) (vc jK zd (by rfl) N.int boot_int (ar (cc Ls iu hr (ar (mv 5) (ar (mv 10) aC))) aC)))))))) pP))))) pP)
 (cK (ET (gw (mv 3) (ar (mv 5) aC))))))))
 (jc 3 (cK (jL (vc dE fu (by rfl) N.tuple pe (ar (mv 3) aC)))))))),λO xs Pq h=>GS O xs Pq QX h⟩)
def gi:ap CK ["bag","market"] (bh (top 65)):=L2.di
def Hw {f K1 fPr K3 QY vM fPs QW QZ fMo B0 ph fT zY  : Addr}{fd K5 dPr K6 Rf vP dPs Re Rg dMo B1 B2 dT zZ:FuncData}(F:cL K "_law_payable" "_law_payable" (top 65) f fd)(N:Nm mg)(Ti:bM K mg P w base "_law_tied" 3 Ψ8 (cF K yd) K1 K5)(Pr:bM K mg P w base "_law_prices" 3 ["bag","market"] (cF K Gq) fPr dPr)(Be:bM K mg P w base "_law_best" 1 Ψ8 (cF K pz) K3 K6)(Se:bM K mg P w base "_law_sets" 1 ["some"] (cF K l7) QY Rf)(Wi:bM K mg P w base "_law_wished" 1 ["market"] (cF K jS) vM vP)(Ps:bM K mg P w base "_law_purses" 4 ["market","buyers"] (cF K Gp) fPs dPs)(Tk:bM K mg P w base "_law_takers" 1 ["best","goods"] (cF K rg) QW Re)(Dv:bM K mg P w base "_law_div" 2 ["one","other"] tO QZ Rg)(Mo:bM K mg P w base "_law_money" 4 ["market","prices","goods"] (cF K Gs) fMo dMo)(Ls:bM K mg P w base "_law_less" 1 ["one","other"] gh B0 B1)(Lf:bM K mg P w base "_law_frac" 1 ["top","bottom"] nu ph B2)(T:bM K mg P w base "_law_take" 1 ["bag","many"] ke fT dT)(Mu:bM K mg P w base "_law_mul" 2 ["one","other"] (vp iT) zY zZ):aO P w K mg base cQ 5 f fd ["bag","market"] (cF K yh) :=
 kC F gi (λO xs P PX h=>by obtain⟨_,_,_,_,rfl,_⟩:=h;rfl) (λbv A outer s H E QX hr=>⟨JU,(bS (c6 (i:=2) gi.nd (cc Ti fz hr (ar (mv 1) (ar (cc Pr fz hr (ar (mv 0) (ar (mv 1) aC))) aC))))
 (bS (c6 (i:=3) gi.nd (cc Be fz hr (ar (mv 1) (ar (mv 2) aC))))
 (bS (eQ (i:=4) gi.nd rfl (Or.inr rfl) ii)
 (bS (mK PassesOwn.never rfl (iU (gO (cc Se fz hr (ar (cc Wi fz hr (ar (mv 1) aC)) aC)) (jB cb) jC)) (dz (i:=5) gi.nd) (bS (c6 (i:=6) gi.nd (cc Ps fz hr (ar (mv 1) (ar (cc Tk fz hr (ar (mv 3) (ar (mv 5) aC))) aC))))
 (bS (c6 (i:=7) gi.nd (cc Dv oa hr (ar (mv 6) (ar (cc Mo fz hr (ar (mv 1) (ar (mv 2) (ar (mv 5) aC)))) aC))))
 (cK (pM (PW.pt (JL (ly Df Ds (mv 4) ii (aK _)) (Dj (ib (cc Ls iu hr (ar (mv 7) (ar (mv 4) aC))))))) (cK (eQ (i:=4) gi.nd rfl (Or.inr rfl) (mv 7))) pP)))))
 (bS (c6 (i:=8) gi.nd (cc Lf nM hr (ar (zN cb (cc T ES hr (ar (mv 0) (ar cb aC)))) (ar cb aC))))
 (bS (eQ (i:=4) gi.nd rfl (Or.inr rfl) (cc Mu nB hr (ar (mv 4) (ar (ca (eR (ar (pN (ar cb (ar cb aC))) (ar (pN (ar cb (ar cb aC))) (ar (pN (ar cb (ar cb aC))) (ar (mv 8) aC))))) (cc T ES hr (ar (mv 0) (ar cb aC)))) aC))))
 (cK (jL (vc dE fu (by rfl) N.tuple pe (ar (lA (own:=["price"]) (cap:=["by"]) (ix:=[4]) (aG.of (bh (top 65)).names CK) rfl (iU (mv 2)) (lB (by decide))
 (λC fp s H=>⟨(dz (i:=0) (Ψ9 ["price","by"])),qQ,(cc Mu nB hr (ar (mv 0) (ar (mv 1) aC)))⟩)) aC)))))))))),λO xs Pq h=>GZ O xs Pq QX h⟩)
def iH:ap MC ["market"] (bh (top 66)):=L2.di
def NJ {f B0 vM QZ zY ph  : Addr}{fd B1 vP Rg zZ B2:FuncData}(F:cL K "_law_first" "_law_first" (top 66) f fd)(N:Nm mg)(Ls:bM K mg P w base "_law_less" 1 ["one","other"] gh B0 B1)(Wi:bM K mg P w base "_law_wished" 1 ["market"] (cF K jS) vM vP)(Dv:bM K mg P w base "_law_div" 2 ["one","other"] tO QZ Rg)(Mu:bM K mg P w base "_law_mul" 2 ["one","other"] (vp iT) zY zZ)(Lf:bM K mg P w base "_law_frac" 1 ["top","bottom"] nu ph B2):aO P w K mg base cQ 3 f fd ["market"] (cF K Gu) :=
 kC F iH (λO xs P PX h=>by obtain⟨_,_,_,rfl,_⟩:=h;rfl) (λbv A outer s H E QX hr=>⟨R4,(bS (c6 (i:=1) iH.nd (ca (ca (mv 0) cb) cb))
 (bS (mK PassesOwn.never rfl (iU (ca (mv 0) cb)) (dz (i:=2) iH.nd) (cK (pM (ib (cc Ls iu hr (ar (mv 2) (ar (mv 1) aC)))) (cK (c6 (i:=1) iH.nd (mv 2))) pP)))
 (bS (c6 (i:=3) iH.nd (ju (nQ rfl) lM (by rfl) N.sum boot_sum (ar (lA (own:=["good"]) (cap:=["market"]) (ix:=[0]) (aG.of (bh (top 66)).names MC) rfl (iU (cc Wi fz hr (ar (mv 0) aC))) (lB (by decide))
 (λC fp s H=>⟨(dz (i:=0) (Ψ9 ["good","market"])),qQ,(ca (ca (mv 1) cb) (mv 0))⟩)) aC)))
 (bS (c6 (i:=4) iH.nd (cc Dv oa hr (ar (mv 1) (ar (pN (ar (mv 3) (ar cb aC))) aC))))
 (bS (c6 (i:=5) iH.nd (gv aC))
 (bS (mK PassesOwn.never rfl (vD rfl N.range (ar (ju cG qP (by rfl) N.len Z8 (ar (ca (mv 0) cb) aC)) aC)) (dz (i:=6) iH.nd) (bS (c6 (i:=7) iH.nd (pN (ar cb (ar cb aC))))
 (bS (mK PassesOwn.never rfl (iU (ca (mv 0) cb)) (dz (i:=8) iH.nd) (bS (c6 (i:=9) iH.nd (cc Mu nB hr (ar (mv 4) (ar (cc Lf nM hr (ar (ca (mv 8) (mv 6)) (ar (ju (Kh rfl) Dr (by rfl) N.max boot_max (ar (mv 8) aC)) aC))) aC))))
 (cK (pM (ib (cc Ls iu hr (ar (mv 7) (ar (mv 9) aC)))) (cK (c6 (i:=7) iH.nd (mv 9))) pP))))
 (cK (ET (gw (mv 5) (ar (mv 7) aC)))))))
 (jc 5 (cK (jL (vc dE fu (by rfl) N.tuple pe (ar (mv 5) aC))))))))))),λO xs Pq h=>Nd O xs Pq QX h⟩)
def pU:ap SH ["script"] (bh (top 67)):=L2.di
def HE {f Wz fMk fPy fFi fRi fLr B0  : Addr}{fd WI dMk dPy dFi dRi dLr B1:FuncData}(F:cL K "law" "law" (top 67) f fd)(N:Nm mg)(Bg:bM K mg P w base "_law_bag" 1 ["script","k"] (Ci K) Wz WI)(Mk:bM K mg P w base "_law_market" 3 ["bag"] Ly fMk dMk)(Py:bM K mg P w base "_law_payable" 5 ["bag","market"] (cF K yh) fPy dPy)(Fi:bM K mg P w base "_law_first" 3 ["market"] (cF K Gu) fFi dFi)(Ri:bM K mg P w base "rise" 9 Ψ8 (cF K yf) fRi dRi)(Lr:bM K mg P w base "_law_rise" 5 Ψ8 (cF K ye) fLr dLr)(Ls:bM K mg P w base "_law_less" 1 ["one","other"] gh B0 B1):aO P w K mg base cQ 10 f fd ["script"] (cF K L5) :=
 kC F pU (λO xs P PX h=>by obtain⟨_,rfl,_⟩:=h;rfl) (λbv A outer s H E QX hr=>⟨Dn,(bS (mK PassesOwn.never rfl (vD rfl N.range (ar (zN (ju (Bp rfl) Ia (by rfl) N.min boot_min (ar (ju (ι K) Ie (by rfl) N.len Z8 (ar (mv 0) aC)) (ar cb aC))) cb) aC)) (dz (i:=1) pU.nd) (bS (c6 (i:=2) pU.nd (cc Bg N0 hr (ar (mv 0) (ar (mv 1) aC))))
 (bS (c6 (i:=3) pU.nd (cc Mk TF hr (ar (mv 2) aC)))
 (cK (mK PassesOwn.never rfl (iU (eR (ar (cc Py fz hr (ar (mv 2) (ar (mv 3) aC))) (ar (cc Fi fz hr (ar (mv 3) aC)) aC)))) (dz (i:=4) pU.nd) (bS (c6 (i:=5) pU.nd (cc Ri fz hr (ar (mv 3) (ar (mv 4) aC))))
 (bS (pM (ly (xV hr.units) xY (mv 5) (cc Lr fz hr (ar (mv 3) (ar (mv 4) aC))) (aK _)) (cK (jL xX)) pP)
 (cK (pM (PW.pt (nY (ly Hl HZ (mv 5) ii (aK _)) (kM (wv (ib (cc Ls iu hr (ar (pN (ar cb (ar cb aC))) (ar (ca (mv 5) cb) aC)))))))) (cK (jL xX)) pP)))))))))
 (cK (jL xX))),λO xs Pq h=>DW O xs Pq QX h⟩)
end
end Ae
namespace Ae
open PySem L2 KG EX KM
section
variable {P:Program}{w:World}{K:Θ1}{mg:Θ3}{base:Heap}
def wM:ap ["one","other"] ["one","other"] (bh (top 47)):=L2.di
def wT {f fF:Addr}{fd dF:FuncData}(F:cL K "_law_div" "_law_div" (top 47) f fd)(G:bM K mg P w base "_law_frac" 1 ["top","bottom"] nu fF dF):aO P w K mg base cQ 2 f fd ["one","other"] tO:=by
 refine F.ok wM (λvs H Q E h=>?_) (λbv A outer s H vs Q E hr h=>?_)
 .obtain⟨p,q,a,b,rfl,_⟩:=h;rfl
 .obtain⟨p,q,a,b,rfl,hp,hq,⟨ba,bb⟩,⟨bc,bd⟩,vJ,k⟩:=h;have hb:=den_pos a;have hn:=mT.mp vJ;refine⟨_,dr (fD (d8 G.ok hr rfl G.mg G.kp G.bd .nil aY (aI (cB sH (dJ cg (pv 0) aZ (λ_ _=>rfl)) (dJ cg (pv 1) aZ (λ_ _=>rfl))) (aI (cB sH (dJ cg (pv 0) aZ (λ_ _=>rfl)) (dJ cg (pv 1) aZ (λ_ _=>rfl))) bu)))),?_⟩;refine⟨_,rfl,p,_,_,_,rfl,rfl,aM.of hp,rfl,_,rfl,q,_,_,_,rfl,rfl,aM.of hq,rfl,_,_,rfl,rfl,⟨b3 ba,b3 bd⟩,_,rfl,p,_,_,_,rfl,rfl,aM.of hp,rfl,_,rfl,q,_,_,_,rfl,rfl,aM.of hq,rfl,_,_,rfl,rfl,⟨b3 bb,b3 bc⟩,?_⟩;exact⟨_,_,rfl,Y4 hb hn,b6 (bb.mul bc),λr jN=>by rw[kR (by omega)];exact k r jN⟩
end
end Ae
namespace MI
open PySem L2 KG EX KM
def du (K:Θ1)(nm:Str)(st:Stmt)(f:Addr):Prop:=∃(oc:Value) (od:Option Addr) (kV dc pm:Value) (an:Option Addr) (cd ct:Value) (sl:Array (Φ1)),PySem.W.nsIn K mainGlobals nm=some (some (.ref f))/\K.lookup f=some ⟨oc,od,.func (PySem.W.fnOf nm nm (vy st) (sG st) (bh st) .none kV dc pm an cd ct),sl⟩/\PySem.W.codeIn K cd nm=true/\PySem.W.keepIn K (.ref f)=true
theorem el1 {P:Δ3->Prop}(h:∀a,P [a]):∀us:Δ3,us.length=1->P us
 |[a],_=>h a
theorem UK {P:Δ3->Prop}(h:∀a b,P [a,b]):∀us:Δ3,us.length=2->P us
 |[a,b],_=>h a b
theorem el3 {P:Δ3->Prop}(h:∀a b c,P [a,b,c]):∀us:Δ3,us.length=3->P us
 |[a,b,c],_=>h a b c
theorem el4 {P:Δ3->Prop}(h:∀a b c d,P [a,b,c,d]):∀us:Δ3,us.length=4->P us
 |[a,b,c,d],_=>h a b c d
structure Fg (K:Θ1)(mg:Θ3)(nm:Str)(ps:Δ2)(st:Stmt)(f:Addr)(fd:FuncData):Prop where
 F:cL K nm nm st f fd
 mg:mg nm=some (.ref f)
 kp:PySem.W.keepIn K (.ref f)=true
 bd:Binds K fd ps []
section
variable {K:Θ1}{hh:Heap}{mg:Θ3}{nm:Str}{ps:Δ2}{st:Stmt}{f:Addr}{fd:FuncData}{k:Nat}{sp:Sp}
def Fg.c (a:Fg K mg nm ps st f fd)(l:PySem.W.OpenLaw)(w:World)(base:Heap)(o:aO l.prog w K mg base cQ k f fd ps sp):bM K mg l.prog w base nm k ps sp f fd:=⟨o,a.mg,a.kp,a.bd⟩
def Fg.x (a:Fg K mg nm ps st f fd)(l:PySem.W.OpenLaw)(w:World)(base:Heap)(o:aO l.prog w K mg base (pi l.prog w) k f fd ps sp):kF K mg l.prog w base nm k ps sp f fd:=⟨o,a.mg,a.kp,a.bd⟩
def Fg.of (X:K.In hh)(G:hh.Ns mainGlobals mg)(a:du K nm st f)(hb:∀(kV gC pm:Value) (an:Option Addr) (bv ct:Value) (us:Δ3),us.length=ps.length->bindArgs (PySem.W.fnOf nm nm (vy st) (sG st) (bh st) .none kV gC pm an bv ct) ⟨us,[]⟩=pure (ps.zip us)):∃fd,Fg K mg nm ps st f fd:=by
 obtain⟨_,_,_,_,_,_,_,_,_,a,l,c,k⟩:=a;exact⟨_,wF l c k,PySem.W.mg_of X G a,k,(wF l c k).binds hb⟩
def zX (ps:Δ2)(X:K.In hh)(G:hh.Ns mainGlobals mg)(a:du K nm st f)(hb:∀(kV gC pm:Value) (an:Option Addr) (bv ct a:Value),bindArgs (PySem.W.fnOf nm nm (vy st) (sG st) (bh st) .none kV gC pm an bv ct) ⟨[a],[]⟩=pure (ps.zip [a]):=by intros;rfl)(hl:ps.length=1:=by rfl):∃fd,Fg K mg nm ps st f fd:=Fg.of X G a λkV gC pm an bv ct us hu=>el1 (P:=λus=>bindArgs (PySem.W.fnOf nm nm (vy st) (sG st) (bh st) .none kV gC pm an bv ct) ⟨us,[]⟩=pure (ps.zip us)) (hb kV gC pm an bv ct) us (hu.trans hl)
def jv (ps:Δ2)(X:K.In hh)(G:hh.Ns mainGlobals mg)(a:du K nm st f)(hb:∀(kV gC pm:Value) (an:Option Addr) (bv ct a b:Value),bindArgs (PySem.W.fnOf nm nm (vy st) (sG st) (bh st) .none kV gC pm an bv ct) ⟨[a,b],[]⟩=pure (ps.zip [a,b]):=by intros;rfl)(hl:ps.length=2:=by rfl):∃fd,Fg K mg nm ps st f fd:=Fg.of X G a λkV gC pm an bv ct us hu=>UK (P:=λus=>bindArgs (PySem.W.fnOf nm nm (vy st) (sG st) (bh st) .none kV gC pm an bv ct) ⟨us,[]⟩=pure (ps.zip us)) (hb kV gC pm an bv ct) us (hu.trans hl)
def Ww (ps:Δ2)(X:K.In hh)(G:hh.Ns mainGlobals mg)(a:du K nm st f)(hb:∀(kV gC pm:Value) (an:Option Addr) (bv ct a b c:Value),bindArgs (PySem.W.fnOf nm nm (vy st) (sG st) (bh st) .none kV gC pm an bv ct) ⟨[a,b,c],[]⟩=pure (ps.zip [a,b,c]):=by intros;rfl)(hl:ps.length=3:=by rfl):∃fd,Fg K mg nm ps st f fd:=Fg.of X G a λkV gC pm an bv ct us hu=>el3 (P:=λus=>bindArgs (PySem.W.fnOf nm nm (vy st) (sG st) (bh st) .none kV gC pm an bv ct) ⟨us,[]⟩=pure (ps.zip us)) (hb kV gC pm an bv ct) us (hu.trans hl)
def UJ (ps:Δ2)(X:K.In hh)(G:hh.Ns mainGlobals mg)(a:du K nm st f)(hb:∀(kV gC pm:Value) (an:Option Addr) (bv ct a b c d:Value),bindArgs (PySem.W.fnOf nm nm (vy st) (sG st) (bh st) .none kV gC pm an bv ct) ⟨[a,b,c,d],[]⟩=pure (ps.zip [a,b,c,d]):=by intros;rfl)(hl:ps.length=4:=by rfl):∃fd,Fg K mg nm ps st f fd:=Fg.of X G a λkV gC pm an bv ct us hu=>el4 (P:=λus=>bindArgs (PySem.W.fnOf nm nm (vy st) (sG st) (bh st) .none kV gC pm an bv ct) ⟨us,[]⟩=pure (ps.zip us)) (hb kV gC pm an bv ct) us (hu.trans hl)
end
end MI
namespace Ae
open PySem L2 KG EX KM MI
def all_mk {l:PySem.W.OpenLaw}{w:World}{K:Θ1}{h:Heap}{mg:Θ3}{fa:Addr}(X:K.In h)(G:h.Ns mainGlobals mg)(hfa:mg "law"=some (.ref fa))
  {f0 f1 f2 f3 f4 f5 f6 f7 f8 f9 f10 f11 f12 f13 f14 f15 f16 f17 f18 f19 f20 f21 f22 f23 f24 f25 f26 f27 f28 f29 f30 f31 f32 f33 f34 f35 f36 f37 f38 f39 f40 f41 f42 f43 f44 f45 f46 f47 f48 f49 f50 f51 f52 f53 f54 M Nn Pr De:Addr}
  (a0:du K "is_whole" (top 6) f0)
  (a1:du K "is_fraction" (top 7) f1)
  (a2:du K "common_divisor" (top 8) f2)
  (a3:du K "fraction" (top 9) f3)
  (a4:du K "times" (top 10) f4)
  (a5:du K "over" (top 11) f5)
  (a6:du K "less" (top 12) f6)
  (a7:du K "least" (top 13) f7)
  (a8:du K "greatest" (top 14) f8)
  (a9:du K "on_one_bottom" (top 15) f9)
  (XT:du K "wished" (top 17) f10)
  (Rm:du K "are_prices" (top 19) f11)
  (XS:du K "need_prices" (top 20) f12)
  (XR:du K "money_by_good" (top 21) f13)
  (XQ:du K "best_goods" (top 22) f14)
  (XO:du K "best_by_wishes" (top 23) f15)
  (XN:du K "rate" (top 24) f16)
  (XM:du K "takers_by_best" (top 25) f17)
  (XJ:du K "all_sets" (top 27) f18)
  (XI:du K "in_coins" (top 28) f19)
  (XH:du K "coins_of" (top 29) f20)
  (XG:du K "goods_above" (top 30) f21)
  (XF:du K "paid_goods" (top 31) f22)
  (XE:du K "rise" (top 33) f23)
  (XD:du K "loosened" (top 34) f24)
  (XC:du K "paying_factors" (top 35) f25)
  (XB:du K "meeting_factors" (top 36) f26)
  (XA:du K "raised" (top 37) f27)
  (W9:du K "_law_bag" (top 39) f28)
  (W8:du K "_law_take" (top 40) f29)
  (W7:du K "_law_frac" (top 41) f30)
  (W6:du K "_law_add" (top 42) f31)
  (a32:du K "_law_mul" (top 44) f32)
  (W5:du K "_law_less" (top 45) f33)
  (W4:du K "_law_sum" (top 46) f34)
  (W3:du K "_law_div" (top 47) f35)
  (W1:du K "_law_purse" (top 48) f36)
  (W0:du K "_law_wishes" (top 49) f37)
  (WZ:du K "_law_market" (top 50) f38)
  (WY:du K "_law_wished" (top 51) f39)
  (WX:du K "_law_best" (top 52) f40)
  (WW:du K "_law_money" (top 53) f41)
  (WV:du K "_law_takers" (top 54) f42)
  (WU:du K "_law_purses" (top 55) f43)
  (WT:du K "_law_sets" (top 56) f44)
  (WS:du K "_law_ints" (top 57) f45)
  (WR:du K "_law_paid" (top 59) f46)
  (WQ:du K "_law_factors" (top 60) f47)
  (WP:du K "_law_ties" (top 61) f48)
  (WO:du K "_law_rise" (top 62) f49)
  (WN:du K "_law_prices" (top 63) f50)
  (WM:du K "_law_tied" (top 64) f51)
  (WL:du K "_law_payable" (top 65) f52)
  (WK:du K "_law_first" (top 66) f53)
  (Rl:du K "law" (top 67) f54)
  (z0:PySem.W.nsIn K mainGlobals "len"=some none)
  (z1:PySem.W.nsIn K mainGlobals "range"=some none)
  (z2:PySem.W.nsIn K mainGlobals "tuple"=some none)
  (z3:PySem.W.nsIn K mainGlobals "list"=some none)
  (z4:PySem.W.nsIn K mainGlobals "all"=some none)
  (z5:PySem.W.nsIn K mainGlobals "any"=some none)
  (z6:PySem.W.nsIn K mainGlobals "max"=some none)
  (z7:PySem.W.nsIn K mainGlobals "min"=some none)
  (z8:PySem.W.nsIn K mainGlobals "sum"=some none)
  (z9:PySem.W.nsIn K mainGlobals "abs"=some none)
  (Kl:PySem.W.nsIn K mainGlobals "int"=some none)
  (U6:PySem.W.nsIn K mainGlobals "isinstance"=some none)
  (U5:PySem.W.nsIn K mainGlobals "bool"=some none)
  (U4:PySem.W.nsIn K mainGlobals "enumerate"=some none)
  (U3:PySem.W.nsIn K mainGlobals "ValueError"=some none)
  (Lk:PySem.W.nsIn K mainGlobals "zip"=some none)
  (rG:PySem.W.nsIn K mainGlobals "sorted"=some none)
  (gM:PySem.W.nsIn K mainGlobals "MartError"=some (some (.ref M)))
  (Wt:PySem.W.nsIn K mainGlobals "NoNumber"=some (some (.ref Nn)))
  (Ws:PySem.W.nsIn K mainGlobals "NoPrices"=some (some (.ref Pr)))
  (Wu:PySem.W.nsIn K mainGlobals "Dear"=some (some (.ref De)))
  (ti1:PySem.W.kitOne K (.type "NoneType") (.type "int")=some false)
  (ti2:PySem.W.kitOne K (.type "bool") (.type "int")=some true)
  (Vj:PySem.W.kitOne K (.type "int") (.type "int")=some true)
  (Vi:PySem.W.kitOne K (.type "str") (.type "int")=some false)
  (Vh:PySem.W.kitOne K (.type "list") (.type "int")=some false)
  (Vg:PySem.W.kitOne K (.type "tuple") (.type "int")=some false)
  (Vp:PySem.W.kitOne K (.type "NoneType") (.type "bool")=some false)
  (Vo:PySem.W.kitOne K (.type "bool") (.type "bool")=some true)
  (Vn:PySem.W.kitOne K (.type "int") (.type "bool")=some false)
  (Vm:PySem.W.kitOne K (.type "str") (.type "bool")=some false)
  (Vl:PySem.W.kitOne K (.type "list") (.type "bool")=some false)
  (Vk:PySem.W.kitOne K (.type "tuple") (.type "bool")=some false)
  (Bu:PySem.W.kitOne K (.type "NoneType") (.type "tuple")=some false)
  (Bt:PySem.W.kitOne K (.type "bool") (.type "tuple")=some false)
  (Vc:PySem.W.kitOne K (.type "int") (.type "tuple")=some false)
  (Vb:PySem.W.kitOne K (.type "str") (.type "tuple")=some false)
  (Va:PySem.W.kitOne K (.type "list") (.type "tuple")=some false)
  (U9:PySem.W.kitOne K (.type "tuple") (.type "tuple")=some true)
  (Mc:PySem.W.excIn K Nn [.type "ValueError",.type "Exception",.type "BaseException",.type "object"] "ValueError.__new__"=true)
  (L9:PySem.W.excIn K Pr [.type "ValueError",.type "Exception",.type "BaseException",.type "object"] "ValueError.__new__"=true)
  (Md:PySem.W.excIn K De [.type "ValueError",.type "Exception",.type "BaseException",.type "object"] "ValueError.__new__"=true) :
  ∃fd:FuncData,(∀(s:Shared) (v:Value),BindsTo s fd ⟨[v],[]⟩ [("script",v)])/\∀base:Heap,K.In base->base.Ns mainGlobals mg->aO l.prog w K mg base cQ 10 fa fd ["script"] (xM K):=by
 obtain⟨_,F0⟩:=zX ["thing"] X G a0;obtain⟨_,F1⟩:=zX ["thing"] X G a1;obtain⟨_,F2⟩:=jv ["one","other"] X G a2;obtain⟨_,F3⟩:=jv ["top","bottom"] X G a3;obtain⟨_,F4⟩:=jv ["one","other"] X G a4;obtain⟨_,F5⟩:=jv ["one","other"] X G a5;obtain⟨_,F6⟩:=jv ["one","other"] X G a6;obtain⟨_,F7⟩:=zX ["parts"] X G a7;obtain⟨_,F8⟩:=zX ["parts"] X G a8;obtain⟨_,F9⟩:=zX ["parts"] X G a9;obtain⟨_,U2⟩:=zX ["market"] X G XT;obtain⟨_,F11⟩:=jv ["market","thing"] X G Rm;obtain⟨_,F12⟩:=jv ["market","thing"] X G XS;obtain⟨_,U1⟩:=jv Ψ8 X G XR;obtain⟨_,F14⟩:=jv Ψ8 X G XQ;obtain⟨_,F15⟩:=jv ["row","prices"] X G XO;obtain⟨_,F16⟩:=jv ["wish","price"] X G XN;obtain⟨_,U0⟩:=jv ["best","goods"] X G XM;obtain⟨_,UZ⟩:=zX ["members"] X G XJ;obtain⟨_,UY⟩:=jv Ψ8 X G XI;obtain⟨_,UX⟩:=jv ["coins","some"] X G XH;obtain⟨_,F21⟩:=jv Ψ8 X G XG;obtain⟨_,F22⟩:=jv Ψ8 X G XF;obtain⟨_,F23⟩:=jv Ψ8 X G XE;obtain⟨_,F24⟩:=jv ["best","paid"] X G XD;obtain⟨_,F25⟩:=UJ ["market","prices","loose","rising"] X G XC;obtain⟨_,F26⟩:=UJ ["market","prices","loose","paid"] X G XB;obtain⟨_,F27⟩:=Ww ["prices","rising","factor"] X G XA;obtain⟨_,F28⟩:=jv ["script","k"] X G W9;obtain⟨_,F29⟩:=jv ["bag","many"] X G W8;obtain⟨_,UW⟩:=jv ["top","bottom"] X G W7;obtain⟨_,F31⟩:=jv ["one","other"] X G W6;obtain⟨_,F32⟩:=jv ["one","other"] X G a32;obtain⟨_,F33⟩:=jv ["one","other"] X G W5;obtain⟨_,F34⟩:=zX ["some"] X G W4;obtain⟨_,F35⟩:=jv ["one","other"] X G W3;obtain⟨_,F36⟩:=zX ["bag"] X G W1;obtain⟨_,F37⟩:=jv ["bag","goods"] X G W0;obtain⟨_,F38⟩:=zX ["bag"] X G WZ;obtain⟨_,F39⟩:=zX ["market"] X G WY;obtain⟨_,F40⟩:=jv Ψ8 X G WX;obtain⟨_,F41⟩:=Ww ["market","prices","goods"] X G WW;obtain⟨_,F42⟩:=jv ["best","goods"] X G WV;obtain⟨_,F43⟩:=jv ["market","buyers"] X G WU;obtain⟨_,F44⟩:=zX ["some"] X G WT;obtain⟨_,F45⟩:=jv Ψ8 X G WS;obtain⟨_,F46⟩:=Ww ["market","prices","without"] X G WR;obtain⟨_,F47⟩:=UJ ["market","prices","paid","without"] X G WQ;obtain⟨_,F48⟩:=UJ ["row","prices","paid","mine"] X G WP;obtain⟨_,F49⟩:=jv Ψ8 X G WO;obtain⟨_,F50⟩:=jv ["bag","market"] X G WN;obtain⟨_,F51⟩:=jv Ψ8 X G WM;obtain⟨_,F52⟩:=jv ["bag","market"] X G WL;obtain⟨_,F53⟩:=zX ["market"] X G WK;obtain⟨ahG,ahF,ZM,Z',ZA,ν,η,γ,ahD,Rl,l54,c54,k54⟩:=Rl;have e:=hfa.symm.trans (PySem.W.mg_of X G Rl);cases e;have N:Nm mg:=⟨Yp X G z0,Yp X G z1,Yp X G z2,Yp X G z3,Yp X G z4,Yp X G z5,Yp X G z6,Yp X G z7,Yp X G z8,Yp X G z9,Yp X G Kl,Yp X G U6,Yp X G U5,Yp X G U4,Yp X G U3⟩;have LQ:=Yp X G Lk;have HV:=Yp X G rG;have Z:Lg K:=⟨ti1,ti2,Vj,Vi,Vh,Vg,Vp,Vo,Vn,Vm,Vl,Vk,Bu,Bt,Vc,Vb,Va,U9⟩;have mgM:=PySem.W.mg_of X G gM;have LO:=PySem.W.mg_of X G Wt;have ZF:=PySem.W.mg_of X G Ws;have ZG:=PySem.W.mg_of X G Wu;have F54:=wF (st:=top 67) l54 c54 k54;refine⟨PySem.W.fnOf "law" "law" (vy (top 67)) (sG (top 67)) (bh (top 67)) .none ZM Z' ZA ν η γ,λs v=>.of_eq rfl,λbase _ _=>?_⟩;have W:=F0.c l w base (Ec F0.F N Z);have Gc:=F2.c l w base (NK F2.F N);have Gn:=F2.c l w base (HH F2.F N);have IF:=F1.c l w base (AX F1.F N Z W Gc);have Fr:=F3.x l w base (uQ F3.F LO Mc Gn);have Ti:=F4.x l w base (Ed F4.F Fr);have Ov:=F5.x l w base (Hy F5.F Fr);have Ls:=F6.c l w base (HD F6.F);have Gr:=F8.c l w base (uP F8.F Ls);have Wi:=U2.c l w base (AT U2.F N);have Ra:=F16.c l w base (Ht F16.F Ov);have Ar:=F11.c l w base (NN F11.F N Z IF Wi);have Ne:=F12.x l w base (HA F12.F ZF L9 Ar);have Mb:=U1.c l w base (NF U1.F LQ Ti);have Bb:=F15.c l w base (Tx F15.F N Ra Gr);have Be:=F14.x l w base (Tw F14.F N Ne Bb);have Tb:=U0.c l w base (Tq U0.F N);have OO:=F9.c l w base (NE F9.F Gn);have As:=UZ.c l w base (HL UZ.F);have IC:=UY.c l w base (Tt UY.F N OO Mb);have Co:=UX.c l w base (Tv UX.F N);have GA:=F21.c l w base (Tu F21.F Be IC Co Tb As Wi);have PG:=F22.x l w base (Tr F22.F N ZG Md GA);have WiM:=U2.c l w base (Nz U2.F N);have TbM:=U0.c l w base (NC U0.F N);have AsM:=UZ.c l w base (HK UZ.F N);have CoM:=UX.c l w base (Eh UX.F N);have MbM:=U1.c l w base (HB U1.F N LQ Ti);have OOM:=F9.c l w base (Hz F9.F N Gn);have ICM:=UY.c l w base (HG UY.F N OOM MbM);have LoM:=F24.c l w base (HC F24.F N);have RsM:=F27.c l w base (Hu F27.F N Ti);have LeM:=F7.c l w base (Eg F7.F N Ls);have PfM:=F25.c l w base (Hv F25.F N ICM Fr CoM TbM AsM);have MfM:=F26.c l w base (Ee F26.F N LQ Ov Ra);have Ri:=F23.c l w base (Hs F23.F N PG WiM Be LoM PfM MfM LeM RsM);have Bg:=F28.c l w base (NM F28.F N);have T:=F29.c l w base (Hq F29.F);have Lf:=UW.c l w base (HI UW.F N);have FF:=UW.c l w base (Ts UW.F N);have Lu:=F36.c l w base (AW F36.F T Lf);have Lw:=F37.c l w base (AS F37.F N T);have MkL:=F38.c l w base (AU F38.F N T Lu Lw);have Lb:=F32.c l w base (wS F32.F FF);have La:=F31.c l w base (wU F31.F FF);have Ll:=F33.c l w base (uO F33.F);have Su:=F34.c l w base (ND F34.F La);have Ld:=F35.c l w base (wT F35.F FF);have LB:=F40.c l w base (NL F40.F N);have K9:=F39.c l w base (NA F39.F N);have LT:=F42.c l w base (NB F42.F N);have Se:=F44.c l w base (Hr F44.F N);have In:=F45.c l w base (HF F45.F N Lb FF);have Pd:=F46.c l w base (Hx F46.F N HV LB In Se K9 LT);have Tis:=F48.c l w base (Hn F48.F N Ld);have Fa:=F47.c l w base (HJ F47.F N LB In K9 LT Se FF Tis);have Lr:=F49.c l w base (Ef F49.F N Pd K9 Fa Ll Lb);have LM:=F41.c l w base (NI F41.F N Su Lb);have Lpu:=F43.c l w base (NG F43.F N Su);have Pc:=F50.c l w base (NH F50.F N T FF Lb K9);have Td:=F51.c l w base (Ho F51.F N LB K9 Lb FF Ll);have Py:=F52.c l w base (Hw F52.F N Td Pc LB Se K9 Lpu LT Ld LM Ll FF T Lb);have LF:=F53.c l w base (NJ F53.F N Ll K9 Ld Lb FF);exact N4 (HE F54 N Bg MkL Py LF Ri Lr Ll)
def walk {l:PySem.W.OpenLaw}{q:Program}{loose:Δ2}{XP:(Θ3)->Heap->Prop}{YP:World->Heap->Prop}{d:DefRec}{K:Params->Θ1}(hn:l.most=some 63)(QN:d.params.defaults=[])
  (hY:∀(w:World) (h:Heap),YP w h->(K w.params).In h)
  (F:∀(w:World) (mg:Θ3) (fa:Addr) (h:Heap),(K w.params).In h->h.Ns mainGlobals mg->mg d.name=some (.ref fa) ->
   ∃fd:FuncData,(∀(s:Shared) (u:Value),BindsTo s fd ⟨[u],[]⟩ [("script",u)])/\∀base:Heap,(K w.params).In base->base.Ns mainGlobals mg->aO l.prog w (K w.params) mg base cQ 10 fa fd ["script"] (xM (K w.params))) :
  PySem.W.WalkO q loose XP YP l.row.toRowW d [] (λf vs=>PySem.call f vs) :=
 L2.GD (n:=63) (k:=10) (x:="script") (CX:=λ_=>cQ) (sp:=λw=>xM (K w.params)) hn (by decide) QN ⟨rfl,by decide,by decide⟩ hY F (λ_ _ a ns hl _ hS=>⟨a,ns,rfl,hS,hl,λ_=>rfl⟩) λ_ _ _ _ _ z=>z
end Ae
open PySem PySem.W PyProof.Rows
namespace PySem.W.Fast
def tw5733970812405028951:=0
def tw16624122494719381646:=0
def tw3424366034894457459:=0
def tw17394608879745598777:=0
def tw2824028971407978635:=0
def tw6301226602205706986:=0
def tw1092454580254405218:=0
def tw14582633747958748760:=0
def tw5854618192100140910:=0
def tw7770723596493861866:=0
def tw5615893741669721135:=0
def tw4383929470446542164:=0
def tw8847144926714860985:=0
def tw4665677835679158820:=0
def tw632713918121401972:=0
def tw11715811709706554953:=0
def tw17244861587367924372:=0
def tw14140594956924548628:=0
def tw5631831970982758152:=0
def tw10450073258103629367:=0
def tw5227259956864467953:=0
def tw8463860857723419683:=0
def tw17730541010081660012:=0
def tw13709813791984400878:=0
def tw16568273715934533068:=0
def tw9783364297736391114:=0
def tw3318556918343095397:=0
def tw5581425428640214631:=0
def tw6110131085913047078:=0
def tw9488522325830882357:=0
def tw15890521456520009137:=0
def tw15191338486980916694:=0
def tw16601695349878934344:=0
def tw18267415264023641155:=0
def tw17883117188971982099:=0
def tw13114396942654581875:=0
def tw11353982402972944413:=0
def tw9435908428862698383:=0
def tw9795745383194670832:=0
def tw12620977106865369173:=0
def tw7524661822187516802:=0
def tw10314840749020297780:=0
def tw4629754038977990415:=0
def tw4433616162068595364:=0
def tw1936700847630256171:=0
def tw3553600268247175874:=0
def tw5498843668992457592:=0
def tw7760670491344583469:=0
def tw15388346031201976494:=0
def tw10370009141692531756:=0
def tw17178358352631847514:=0
def tw7268548180178313428:=0
def tw6307679409934566261:=0
def tw8365857024266124745:=0
def tw491252078955938514:=0
def tw2182417101899362638:=0
def tw14512761203928577823:=0
def tw15295893259925604786:=0
def tw18286665045841566101:=0
def tw3430842827479556610:=0
def tw13443091678518455160:=0
def tw12909327187371185908:=0
def tw12619710664040293707:=0
def tw15740316421386798151:=0
def tw16345187751311348375:=0
def tw1363794337003238571:=0
def tw2115207605704254971:=0
def tw14765020987518648833:=0
def tw1800413024450816347:=0
def tw12821820020969698100:=0
def tw2430441574234493713:=0
def tw868696818396591633:=0
def tw2957522779671921557:=0
def tw11537492018008144273:=0
def tw7819337762305216924:=0
def tw13525300538701660698:=0
def tw12541526771114469396:=0
def tw15398361837883700496:=0
def tw1146470328936600354:=0
def tw13413504244871014979:=0
def tw16317312266991903317:=0
def tw2492971531715764138:=0
def tw13407901009844145008:=0
def tw10246942212991325183:=0
def tw6683836958907179951:=0
def tw16473420109858040185:=0
def tw17829384822183676047:=0
def tw16071778239307070763:=0
def tw15536712776452793885:=0
def tw13958230972561729560:=0
def tw14439027754606943724:=0
def tw5019983314289674883:=0
def tw13846079572087278937:=0
def tw882869855852795901:=0
def tw16850226634513154069:=0
def tw17254896761267599550:=0
def tw1590767901790079039:=0
def tw4701249671176766688:=0
def tw8634066247442121035:=0
def tw15947382527550774270:=0
def tw12180678718104446101:=0
def tw15818863092001270343:=0
def tw16382139446354152882:=0
def tw269585632650229610:=0
def tw10442166895098216681:=0
def tw166009802921526842:=0
def tw15375941745226861939:=0
def tw1895440613477477065:=0
def tw16126571260676736893:=0
def tw16201604850044684646:=0
end PySem.W.Fast
set_option maxRecDepth 100000 in
set_option maxHeartbeats 0 in
theorem PySem.Challenge.cw_wishmart_k12_rises_by_hand_holds : PySem.Challenge.rw_wishmart_k12_rises_by_hand.Holds := by
 w_on;o_law;k_head;(case hw=>w_witness2)
 k_fill
 refine Ae.walk (l:=PySem.Challenge.rw_wishmart_k12_rises_by_hand) rfl rfl (λw h Y=>PySem.W.kIn_of Y) ?F
 case F =>
  intro w mg fa h KX G QG;refine' Ae.all_mk KX G QG ?a0 ?a1 ?a2 ?a3 ?a4 ?a5 ?a6 ?a7 ?a8 ?a9 ?XT ?Rm ?XS ?XR ?XQ ?XO ?XN ?XM ?XJ ?XI ?XH ?XG ?XF ?XE ?XD ?XC ?XB ?XA ?W9 ?W8 ?W7 ?W6 ?a32 ?W5 ?W4 ?W3 ?W1 ?W0 ?WZ ?WY ?WX ?WW ?WV ?WU ?WT ?WS ?WR ?WQ ?WP ?WO ?WN ?WM ?WL ?WK ?Rl ?z0 ?z1 ?z2 ?z3 ?z4 ?z5 ?z6 ?z7 ?z8 ?z9 ?Kl ?U6 ?U5 ?U4 ?U3 ?Lk ?rG ?gM ?Wt ?Ws ?Wu ?ti1 ?ti2 ?Vj ?Vi ?Vh ?Vg ?Vp ?Vo ?Vn ?Vm ?Vl ?Vk ?Bu ?Bt ?Vc ?Vb ?Va ?U9 ?Mc ?L9 ?Md
  (case a0 |a1 |a2 |a3 |a4 |a5 |a6 |a7 |a8 |a9 |XT |Rm |XS |XR |XQ |XO |XN |XM |XJ |XI |XH |XG |XF |XE |XD |XC |XB |XA |W9 |W8 |W7 |W6 |a32 |W5 |W4 |W3 |W1 |W0 |WZ |WY |WX |WW |WV |WU |WT |WS |WR |WQ |WP |WO |WN |WM |WL |WK |Rl=>exact⟨_,_,_,_,_,_,_,_,_,by k_is,by k_is,by k_is,by k_is⟩)
  (case z0 |z1 |z2 |z3 |z4 |z5 |z6 |z7 |z8 |z9 |Kl |U6 |U5 |U4 |U3 |Lk |rG |gM |Wt |Ws |Wu=>k_is)
  (case ti1 |ti2 |Vj |Vi |Vh |Vg |Vp |Vo |Vn |Vm |Vl |Vk |Bu |Bt |Vc |Vb |Va |U9=>first |rfl |kit_is |k_is)
  (case Mc |L9 |Md=>first |k_is |kit_is |rfl |kernel_rfl |decide+kernel)
