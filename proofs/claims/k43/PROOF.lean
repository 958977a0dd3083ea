import PyProof.Rows.All
import Wide.All
import OpenK.AllK
import Wide.FinOn
import Lean
import PyProof.EqAt
import PyProof.EqKinds
import PyProof.TupleCall
import KE.KMinKey
import PyProof.Rows.CallKwBuiltin
import PyProof.ListRange
import PyProof.Rows.SortWalk
import PySem.Challenge.RW_wishmart_k43_whole_one_buyer_or_one_good
set_option Elab.async false
set_option linter.all false
set_option maxRecDepth 100000
set_option maxHeartbeats 8000000
set_option compiler.extract_closed false
noncomputable section
abbrev Γ1:=List (List Int)
abbrev Γ2:=List (PySem.Addr×PySem.Obj)
abbrev Γ3:=List Int
abbrev Δ1:=List Rat
abbrev Δ2:=List PySem.Str
abbrev Δ3:=List PySem.Value
abbrev Θ1:=PySem.W.Frag
abbrev Θ2:=PySem.Value->PySem.Shared->Prop
abbrev Θ3:=PySem.Str->Option PySem.Value
abbrev Ξ1:=List PySem.PyData
abbrev Ξ2:=List PySem.Expr
abbrev Φ1:=Option PySem.Value
abbrev Ψ8:List PySem.Str:=["market","prices"]
theorem Ψ9(N:List PySem.Str)(h:N.Nodup:=by decide+kernel):N.Nodup:=h
abbrev Za:=@PySem.wpAny_bind
abbrev Zb:=@List.length_map
abbrev Zc:=@List.getElem?_eq_getElem
abbrev Zd:=@List.mem_map
abbrev Ze:=@Nat.le_refl
abbrev Zf:=@List.getElem?_eq_some_iff
abbrev Zg:=@List.mem_cons_self
abbrev Zh:=@List.mem_cons_of_mem
abbrev Zi:=@List.map_cons
abbrev Zj:=@PySem.Heap.get?_push_of_some
abbrev Zk:=@List.mem_cons
abbrev Zl:=@List.getElem?_map
abbrev Zm:=@List.map_map
abbrev Zn:=@PySem.Heap.lt_size
abbrev Zo:=@List.mem_filter
abbrev Zp:=@List.getElem?_append_left
abbrev Zq:=@List.mem_range
abbrev Zr:=@Nat.le_trans
abbrev Zs:=@List.map_append
abbrev Zt:=@List.mem_append_right
abbrev Zu:=@List.length_append
abbrev Zv:=@List.getElem_mem
abbrev Zw:=@List.any_eq_true
abbrev Zy:=@PySem.Heap.get?_push_size
abbrev Zz:=@List.mem_of_getElem?
abbrev Z0:=@List.mem_append
abbrev Z1:=@List.size_toArray
abbrev Z2:=@List.mem_singleton
abbrev Z3:=@Int.toNat_natCast
abbrev Z4:=@Bool.false_ne_true
abbrev Z5:=@Nat.lt_or_ge
abbrev Z6:=@List.getElem?_set_ne
abbrev Z7:=@Nat.zero_le
abbrev Z8:=@Bool.and_eq_true
abbrev Z9:=@Nat.ne_of_lt
abbrev Ya:=@List.all_eq_true
abbrev Yb:=@Rat.le_of_lt
abbrev Yc:=@Bool.eq_iff_iff
abbrev Yd:=@List.nodup_cons
abbrev Ye:=@List.getElem_of_mem
abbrev Yf:=@Nat.lt_of_lt_of_le
abbrev Yg:=@List.append_nil
abbrev Yh:=@List.getElem?_append_right
abbrev Yi:=@Nat.lt_irrefl
abbrev Yj:=@List.take_length
abbrev Yk:=@Rat.le_refl
abbrev Yl:=@List.getElem?_set_self
abbrev Ym:=@List.getElem?_eq_none
abbrev Yn:=@List.getElem?_range
abbrev Yo:=@List.length_set
abbrev Yp:=@List.filter_sublist
abbrev Yq:=@Rat.not_lt
abbrev Yr:=@List.sum_cons
abbrev Ys:=@List.append_assoc
abbrev Yt:=@Rat.zero_add
abbrev Yu:=@PySem.W.mg_none_of
abbrev Yv:=@Rat.le_trans
abbrev Yw:=@Int.le_refl
abbrev Yx:=@Rat.intCast_pos
abbrev Yy:=@List.map_congr_left
abbrev Yz:=@List.contains_iff_mem
abbrev Y0:=@List.length_take
abbrev Y1:=@List.map_id
abbrev Y2:=@List.filter_congr
abbrev Y3:=@List.length_range
abbrev Y4:=@Nat.le_of_not_lt
abbrev Y5:=@Option.map_some
abbrev Y6:=@List.range_succ
abbrev Y7:=@Int.mul_pos
abbrev Y8:=@List.length_filter_le
abbrev Y9:=@List.foldl_cons
abbrev Xa:=@PySem.Heap.size_push
abbrev Xb:=@List.mem_append_left
abbrev Xc:=@List.getElem?_replicate
abbrev Xd:=@List.length_pos_iff
abbrev Xe:=@Int.toNat_of_nonneg
abbrev Xf:=@List.all_map
abbrev Xg:=@Rat.mul_zero
abbrev Xh:=@Option.getD_some
abbrev Xi:=@Rat.mul_le_mul_of_nonneg_left
abbrev Xj:=@Rat.intCast_mul
abbrev Xk:=@PySem.boot_len
abbrev Xl:=@PySem.mem_of_lookup
abbrev Xm:=@List.filter_append
abbrev Xn:=@Nat.pow_le_pow_right
abbrev Xo:=@List.length_cons
abbrev Xp:=@Rat.mul_pos
abbrev Xq:=@Bool.true_and
abbrev Xr:=@Rat.zero_mul
abbrev Xs:=@PySem.Heap.get?_update_other
abbrev Xt:=@Nat.ne_of_gt
abbrev Xu:=@List.any_cons
abbrev Xv:=@Nat.le_succ
abbrev Xw:=@Rat.num_divInt_den
abbrev Xx:=@Rat.add_zero
abbrev Xy:=@List.map_eq_nil_iff
abbrev Xz:=@List.length_drop
abbrev X0:=@List.all_cons
abbrev X1:=@List.any_map
abbrev X2:=@List.find?_cons
abbrev X3:=@List.nodup_nil
abbrev X4:=@List.nodup_append
abbrev X5:=@List.filter_cons_of_neg
abbrev X6:=@Nat.sub_self
abbrev X7:=@List.ext_getElem?
abbrev X8:=@List.filter_eq_self
abbrev X9:=@Option.isSome_iff_exists
abbrev Qa:=@List.lookup_cons
abbrev Qb:=@List.mem_iff_getElem
abbrev Qc:=@List.nodup_range
abbrev Qd:=@List.filter_eq_nil_iff
abbrev Qe:=@Rat.divInt_eq_div
abbrev Qg:=@Bool.false_eq_true
abbrev Qh:=@List.filter_cons_of_pos
abbrev Qi:=@PySem.Heap.get?_update_self
abbrev Qj:=@List.length_replicate
abbrev Qk:=@Nat.lt_succ_of_lt
abbrev Ql:=@Rat.intCast_add
abbrev Qm:=@Rat.intCast_le_intCast
abbrev Qn:=@Int.emod_nonneg
abbrev Qo:=@Int.fdiv_eq_ediv_of_nonneg
abbrev Qp:=@List.length_singleton
abbrev Qq:=@Nat.lt_succ_self
abbrev Qr:=@Int.gcd_pos_of_ne_zero_right
abbrev Qs:=@Int.gcd_dvd_right
abbrev Qt:=@Int.mul_fdiv_cancel_left
abbrev Qu:=@List.not_mem_nil
abbrev Qv:=@List.filter_filter
abbrev Qw:=@Rat.mul_lt_mul_right
abbrev Qx:=@Rat.add_le_add_left
abbrev Qy:=@Rat.add_le_add_right
abbrev Qz:=@Int.emod_lt_of_pos
abbrev Q4:=@List.isEmpty_map
abbrev Q5:=@Rat.mul_le_mul_of_nonneg_right
abbrev Q6:=@List.length_eq_zero_iff
namespace L2
open PySem PySem.Spec PyProof.Rows
abbrev bJ:=Sum Int Str
def mN:bJ->Value->Bool
 |.inl k,v=>Value.isInt k v
 |.inr x,v=>Value.isStrOf x v
def ZQ (w:World):bJ->Int
 |.inl k=>hashInt k
 |.inr x=>hashStr w x
theorem E9:∀{k:bJ}{v:Value},mN k v=true->(∃i t,k=Sum.inl i/\v=Value.int i t)\/(∃x t,k=Sum.inr x/\v=Value.str x t)
 |.inl i,v,h=>by
  obtain⟨t,e⟩:=Value.isInt_shape (k:=i) (v:=v) h;exact .inl ⟨i,t,rfl,e⟩
 |.inr x,v,h=>by
  obtain⟨t,e⟩:=Value.isStrOf_shape (x:=x) (v:=v) h;exact .inr ⟨x,t,rfl,e⟩
def Av (i:Int)(t:Tok):mN (.inl i) (.int i t)=true:=by simp[mN,Value.isInt]
def Au (x:Str)(t:Tok):mN (.inr x) (.str x t)=true:=by simp[mN,Value.isStrOf]
def NW (a b:Int):decide ((Sum.inl a:bJ)=Sum.inl b)=(a == b):=by
 by_cases e:a=b
 .subst e;simp
 .have h:¬ (Sum.inl a:bJ)=Sum.inl b:=λq=>e (Sum.inl.inj q)
  rw[decide_eq_false h];exact(beq_eq_false_iff_ne.mpr e).symm
def NT (a b:Str):decide ((Sum.inr a:bJ)=Sum.inr b)=decide (a=b):=by
 by_cases e:a=b
 .subst e;simp
 .have h:¬ (Sum.inr a:bJ)=Sum.inr b:=λq=>e (Sum.inr.inj q)
  rw[decide_eq_false h,decide_eq_false e]
def NV (a:Int)(b:Str):decide ((Sum.inl a:bJ)=Sum.inr b)=false:=decide_eq_false (λq=>nomatch q)
def NU (a:Str)(b:Int):decide ((Sum.inr a:bJ)=Sum.inl b)=false:=decide_eq_false (λq=>nomatch q)
def lq (prog:Program)(w:World):PySem.KeyKind prog w bJ where
 is:=mN
 hash:=ZQ w
 inj:=λv a b ha hb=>by
  rcases E9 ha with ⟨i,t,rfl,rfl⟩ |⟨x,t,rfl,rfl⟩
  .rcases E9 hb with ⟨j,u,rfl,e⟩ |⟨y,u,rfl,e⟩
   .injection e with e1 _;rw[e1]
   .exact nomatch e
  .rcases E9 hb with ⟨j,u,rfl,e⟩ |⟨y,u,rfl,e⟩
   .exact nomatch e
   .injection e with e1 _;rw[e1]
 byValue:=λk v h=>by
  rcases E9 h with ⟨i,t,rfl,rfl⟩ |⟨x,t,rfl,rfl⟩<;>rfl
 pyHash:=λhv h=>by
  rcases E9 hv with ⟨i,t,rfl,rfl⟩ |⟨x,t,rfl,rfl⟩
  .exact wpAny_pyHash_int h
  .exact wpAny_pyHash_str h
 eqBool:=λhu hv h=>by
  rcases E9 hu with ⟨i,t,rfl,rfl⟩ |⟨x,t,rfl,rfl⟩
  .rcases E9 hv with ⟨j,u,rfl,rfl⟩ |⟨y,u,rfl,rfl⟩
   .rw[NW] at h;exact wpAny_eqBool_int h
   .rw[NV] at h;exact SeqAt.EqAt.int_str i t y u _ _ _ _ h
  .rcases E9 hv with ⟨j,u,rfl,rfl⟩ |⟨y,u,rfl,rfl⟩
   .rw[NU] at h;exact SeqAt.EqAt.str_int x t j u _ _ _ _ h
   .rw[NT] at h;exact wpAny_eqBool_str h
 «strs»:=λk x t v h=>by
  rcases E9 h with ⟨i,u,rfl,e⟩ |⟨y,u,rfl,e⟩
  .exact nomatch e
  .injection e with e1 _
   subst e1;cases v<;>rfl
def ui (prog:Program)(w:World)(i:Int)(t:Tok):(lq prog w).is (.inl i) (.int i t)=true:=Av i t
def uh (prog:Program)(w:World)(x:Str)(t:Tok):(lq prog w).is (.inr x) (.str x t)=true:=Au x t
inductive V where
 |bV |bl (b:Bool) |int (i:Int) |str (x:Str) |zf (b:Array UInt8) |OK (b:UInt64) |ref (a:Addr) |ty (n:String)
 deriving DecidableEq
def RelV:V->Value->Prop
 |.bV,u=>u=Value.none
 |.bl b,u=>u=Value.bool b
 |.int i,u=>∃t,u=Value.int i t
 |.str x,u=>∃t,u=Value.str x t
 |.zf b,u=>∃t,u=Value.bytes b t
 |.OK b,u=>∃t,u=Value.float b t
 |.ref a,u=>u=Value.ref a
 |.ty n,u=>u=Value.type n
abbrev aY:List V->Δ3->Prop:=Paired RelV
def aY.length {xs:List V}{us:Δ3}(r:aY xs us):xs.length=us.length:=Paired.length r
theorem aY.get:∀{xs:List V}{us:Δ3}{i:Nat}{x:V},aY xs us->xs[i]?=some x->∃u,us[i]?=some u/\RelV x u
 |_,_,_,_,.nil,e=>by simp at e
 |_,_,0,_,.cons r _,e=>by simp at e;subst e;exact⟨_,rfl,r⟩
 |_,_,i+1,x,.cons _ t,e=>by
  obtain⟨u,h1,h2⟩:=aY.get (i:=i) (x:=x) t (by simpa using e);exact⟨u,by simpa using h1,h2⟩
theorem aY.set {x:V}{u:Value}(r:RelV x u):∀{xs:List V}{us:Δ3}(i:Nat),aY xs us->aY (xs.set i x) (us.set i u)
 |_,_,_,.nil=>.nil
 |_,_,0,.cons _ t=>.cons r t
 |_,_,i+1,.cons q t=>.cons q (aY.set r i t)
theorem aY.append:∀{xs ys:List V}{us ws:Δ3},aY xs us->aY ys ws->aY (xs++ys) (us++ws)
 |_,_,_,_,.nil,s=>s
 |_,_,_,_,.cons r t,s=>.cons r (aY.append t s)
theorem aY.take:∀{xs:List V}{us:Δ3}(n:Nat),aY xs us->aY (xs.take n) (us.take n)
 |_,_,0,_=>.nil
 |_,_,_+1,.nil=>.nil
 |_,_,n+1,.cons r t=>.cons r (aY.take n t)
theorem aY.drop:∀{xs:List V}{us:Δ3}(n:Nat),aY xs us->aY (xs.drop n) (us.drop n)
 |_,_,0,r=>r
 |_,_,_+1,.nil=>.nil
 |_,_,n+1,.cons _ t=>aY.drop n t
def az:Option V->Φ1->Prop
 |some v,some u=>RelV v u
 |none,none=>True
 |_,_=>False
def KV {κ : Type}:List (κ × V)->List (κ × Value)->Prop:=Paired λ(p:κ × V) (q:κ × Value)=>p.1=q.1/\RelV p.2 q.2
def kV:bJ->V
 |.inl i=>.int i
 |.inr x=>.str x
inductive HO where
 |lst (xs:List V)
 |tup (xs:List V)
 |dK (kvs:List (bJ×V)) |dT (kvs:List (List bJ×V))
 |set (S:Int->Bool) (n:Nat)
 |ins (C dx:Addr) (fs:List (Str×V))
 |own (x:Addr)
 |xd (fs:List (Str×V))
 |met (f x:Addr)
 |Vn (lo hi:Int)
 |hX (o:Obj) (u:HO)
 |Ko (ps:Array Value)
 |ext (φ : Heap->Prop)
abbrev Hp:=Addr->Option HO
def aL (H:Hp)(a:Addr)(o:HO):Hp:=λb=>if b=a then some o else H b
def dM {H:Hp}{a:Addr}{o:HO}:aL H a o a=some o:=by unfold aL;rw[if_pos rfl]
def cS {H:Hp}{a b:Addr}{o:HO}(h:b≠a):aL H a o b=H b:=by unfold aL;rw[if_neg h]
def sC {H:Hp}{a b:Addr}{o u:HO}(h:H a=some o)(h':H b=some u)(d:o≠u):a≠b:=by
 intro e;subst e;rw[h] at h';exact d (Option.some.inj h')
def E8 {H:Hp}{a b:Addr}{o:HO}(h:H a=some o)(h':H b=none):a≠b:=by
 intro e;subst e;rw[h] at h';cases h'
section
variable (P:Program)(w:World)
def bS (H:Hp)(h:Heap)(a:Addr):HO->Prop
 |.lst xs=>xs.length<=sizeLine/\∃(its:Δ3) (n:Nat),aY xs its/\h.get? a=some { cls:=.type "list",data:=.seq its.toArray n }
 |.tup xs=>xs.length<=sizeLine/\∃its:Δ3,aY xs its/\IsTup h a its.toArray
 |.dK kvs=>kvs.length<=sizeLine/\(a == sysModules)=false/\∃vs,KV kvs vs/\h.DictOf (lq P w) a vs
 |.dT kvs=>kvs.length<=sizeLine/\(a == sysModules)=false/\∃xs:List (List bJ×Addr×Value),
   Paired (λ(p:List bJ×V) (q:List bJ×Addr×Value)=>p.1=q.1/\H q.2.1=some (.tup (p.1.map kV))/\RelV p.2 q.2.2) kvs xs /\
   ∃o es ep,h.get? a=some o/\o.ExactDict/\o.data=.dict es ep/\es.toList=xs.map (entryOfKey (tupleKind (lq P w)))/\(xs.map (·.1)).Nodup
 |.set S n=>h.SetOf (intKind P w) a S n
 |.ins C dx fs=>H dx=some (.own a)/\fs.length<=1000/\dx≠a/\h.get? a=some (PySem.W.instObj C dx) /\
   ∃mA,h.Ns1 dx mA/\(∀f,az (fs.lookup f) (mA f))/\PySem.Within mA (fs.map (·.1))
 |.own _=>∃o,h.get? a=some o
 |.xd fs=>∃mA,h.Ns1 a mA/\∀f,az (fs.lookup f) (mA f)
 |.Vn lo hi=>∃t u v,h.get? a=some { cls:=.type "range",data:=.fields #[.int lo t,.int hi u,.int 1 v] }
 |.hX o u=>h.get? a=some o/\bS H h a u
 |.Ko ps=>h.get? a=some { cls:=.none,data:=.fields ps }
 |.met f x=>h.get? a=some (PySem.W.methodObj (.ref f) (.ref x))
 |.ext φ=>φ h/\(∃o,h.get? a=some o)/\∀h1 h2:Heap,φ h1->(∀o,h1.get? a=some o->h2.get? a=some o)->φ h2
def jN (H:Hp)(h:Heap):Prop:=∀a o,H a=some o->bS P w H h a o
end
section
variable {P:Program}{w:World}{H H':Hp}{h h':Heap}{a:Addr}{o:HO}
def bS.lt (x:bS P w H h a o):a<h.objs.size:=by
 cases o with
 |lst xs=>obtain⟨_,_,_,_,e⟩:=x;exact Zn e
 |tup xs=>obtain⟨_,_,_,p⟩:=x;exact p.lt
 |dK kvs=>obtain⟨_,_,_,_,o,_,_,e,_⟩:=x;exact Zn e
 |dT kvs=>obtain⟨_,_,_,_,o,_,_,e,_⟩:=x;exact Zn e
 |set S n=>obtain⟨o,_,_,_,e,_⟩:=x;exact Zn e
 |ins C dx fs=>obtain⟨_,_,_,e,_⟩:=x;exact Zn e
 |own y=>obtain⟨_,e⟩:=x;exact Zn e
 |xd fs=>obtain⟨_,⟨_,_,_,e,_⟩,_⟩:=x;exact Zn e
 |Vn lo hi=>obtain⟨_,_,_,e⟩:=x;exact Zn e
 |hX ob u=>obtain⟨e,_⟩:=x;exact Zn e
 |Ko ps=>exact Zn (show h.get? a=some _ from x)
 |met f y=>exact Zn (show h.get? a=some _ from x)
 |ext φ=>obtain⟨_,⟨_,e⟩,_⟩:=x;exact Zn e
theorem Paired.Gj {α β : Type}{F G:α->β->Prop}:∀{l₁:List α}{l₂:List β},Paired F l₁ l₂->(∀a b,F a b->G a b)->Paired G l₁ l₂
 |_,_,.nil,_=>.nil
 |_,_,.cons r t,f=>.cons (f _ _ r) (Paired.Gj t f)
def bS.ap (x:bS P w H h a o)(k:∀b u,(b=a\/H b=some (.own a))->h.get? b=some u->h'.get? b=some u)
  (ho:∀b,H b=some (.own a)->H' b=some (.own a)) (ht:∀b xs,H b=some (.tup xs)->H' b=some (.tup xs)):bS P w H' h' a o:=by
 induction o with
 |lst xs=>obtain⟨z,its,n,r,e⟩:=x;exact⟨z,its,n,r,k _ _ (.inl rfl) e⟩
 |tup xs=>obtain⟨z,its,r,ob,e,c⟩:=x;exact⟨z,its,r,ob,k _ _ (.inl rfl) e,c⟩
 |dK kvs=>obtain⟨z,y,vs,r,ob,es,ep,e,c⟩:=x;exact⟨z,y,vs,r,ob,es,ep,k _ _ (.inl rfl) e,c⟩
 |dT kvs =>
  obtain⟨z,y,xs,r,ob,es,ep,e,c⟩:=x;exact⟨z,y,xs,Paired.Gj r λp q z=>⟨z.1,ht _ _ z.2.1,z.2.2⟩,ob,es,ep,k _ _ (.inl rfl) e,c⟩
 |set S n=>obtain⟨ob,es,ep,t,e,c⟩:=x;exact⟨ob,es,ep,t,k _ _ (.inl rfl) e,c⟩
 |ins C dx fs =>
  obtain⟨d,z,ne,e,mA,⟨od,es,ep,e2,c⟩,r⟩:=x;exact⟨ho _ d,z,ne,k _ _ (.inl rfl) e,mA,⟨od,es,ep,k _ _ (.inr d) e2,c⟩,r⟩
 |own y=>obtain⟨ob,e⟩:=x;exact⟨ob,k _ _ (.inl rfl) e⟩
 |xd fs=>obtain⟨mA,⟨od,es,ep,e,c⟩,r⟩:=x;exact⟨mA,⟨od,es,ep,k _ _ (.inl rfl) e,c⟩,r⟩
 |Vn lo hi=>obtain⟨t,u,v,e⟩:=x;exact⟨t,u,v,k _ _ (.inl rfl) e⟩
 |hX ob u ih=>obtain⟨e,q⟩:=x;exact⟨k _ _ (.inl rfl) e,ih q⟩
 |Ko ps =>
  have e:h.get? a=some { cls:=.none,data:=.fields ps }:=x;show h'.get? a=some { cls:=.none,data:=.fields ps };exact k a _ (.inl rfl) e
 |met f y =>
  have e:h.get? a=some (PySem.W.methodObj (.ref f) (.ref y)):=x;show h'.get? a=some (PySem.W.methodObj (.ref f) (.ref y));exact k a _ (.inl rfl) e
 |ext φ=>obtain⟨p,⟨o,e⟩,st⟩:=x;exact⟨st _ _ p λo q=>k _ _ (.inl rfl) q,⟨o,k _ _ (.inl rfl) e⟩,st⟩
def jN.lt (x:jN P w H h)(e:H a=some o):a<h.objs.size:=(x a o e).lt
def jN.fresh (x:jN P w H h)(e:h.objs.size<=a):H a=none:=by
 cases q:H a with
 |none=>rfl
 |some u=>exact absurd (Yf (x.lt q) e) (Yi _)
def jN.kept (x:jN P w H h)(k:∀b u,h.get? b=some u->h'.get? b=some u):jN P w H h':=λa o e =>
 (x a o e).ap (λb u _ q=>k b u q) (λ_ q=>q) λ_ _ q=>q
def jN.laid (x:jN P w H h)(k:∀b u,h.get? b=some u->h'.get? b=some u)(hp:h.objs.size<=a)(new:bS P w (aL H a o) h' a o):jN P w (aL H a o) h':=λb u e=>by
 have hn:=x.fresh hp;by_cases hb:b=a
 .subst hb;rw[dM] at e;cases e;exact new
 .rw[cS hb] at e;exact(x b u e).ap (λc v _ q=>k c v q) (λc q=>by rw[cS (E8 q hn)];exact q) λc xs q=>by rw[cS (E8 q hn)];exact q
end
def Rd (H:Hp)(a:Addr)(u:HO):Prop:=H a=some u\/∃o,H a=some (.hX o u)
def Rd.ok {P:Program}{w:World}{H:Hp}{h:Heap}{a:Addr}{u:HO}(r:Rd H a u)(x:jN P w H h):bS P w H h a u:=by
 rcases r with r |⟨o,r⟩
 .exact x a u r
 .obtain⟨_,q⟩:=x a _ r;exact q
def QQ:Option HO->Prop
 |some (.lst _)=>True
 |some (.dK _)=>True
 |some (.dT _)=>True
 |some (.set _ _)=>True
 |some (.ins _ _ _)=>True
 |some (.ext _)=>True
 |_=>False
section
variable {P:Program}{w:World}{H:Hp}{h h':Heap}{x e:Addr}{o':HO}
def jN.write (ok:jN P w H h)(mu:QQ (H x))(he:e=x\/H e=some (.own x))(k:∀b u,b≠e->h.get? b=some u->h'.get? b=some u)(Fh:∃u,h'.get? e=some u)
  (new:bS P w (aL H x o') h' x o'):jN P w (aL H x o') h':=λb u q=>by
 have Rz:∀c y,H c=some (.own y)->c≠x:=λc y r z=>by subst z;rw[r] at mu;exact mu
 have ZH:∀c xs,H c=some (.tup xs)->c≠x:=λc xs r z=>by subst z;rw[r] at mu;exact mu
 by_cases hb:b=x
 .subst hb;rw[dM] at q;cases q;exact new
 .rw[cS hb] at q;by_cases KQ:b=e
  .have q':H b=some (.own x):=by
    rcases he with z |z
    .exact absurd (KQ.trans z) hb
    .rw[KQ];exact z
   rw[q] at q';cases q';obtain⟨v,hv⟩:=Fh;exact⟨v,by rw[KQ];exact hv⟩
  .refine(ok b u q).ap (λc v hc r=>k c v ?_ r) (λc r=>by rw[cS (Rz c b r)];exact r) λc xs r=>by rw[cS (ZH c xs r)];exact r
   rcases hc with rfl |hc
   .exact KQ
   .rintro rfl;rcases he with z |z
    .exact Rz c b hc z
    .rw[hc] at z;cases z;exact hb rfl
end
structure Un (fs ex:List Addr)(H H':Hp)(h h':Heap):Prop where
 keep:∀b o,h.get? b=some o->H b=none->b∉fs->b∉ex->h'.get? b=some o
 slot:∀b o,h.get? b=some o->H b=none->b∈fs->b∉ex->∃sl,h'.get? b=some { o with slots:=sl }
 free:∀b o,h.get? b=some o->H b=none->b∉ex->H' b=none
 there:∀b o,h.get? b=some o->b∉ex->∃o',h'.get? b=some o'
 mj:∀b xs,H b=some (.tup xs)->H' b=some (.tup xs)
 p7:∀b o u,H b=some (.hX o u)->H' b=some (.hX o u)
 rZ:∀b ps,H b=some (.Ko ps)->∃Lz,H' b=some (.Ko (ps++Lz))
section
variable {fs fs' ex ex':List Addr}{H H1 H2:Hp}{h h1 h2 h':Heap}{a x e:Addr}{o:HO}
def Un.any (u:Un fs ex H H1 h h1){b:Addr}{ob:Obj}(q:h.get? b=some ob)(n:H b=none)(hx:b∉ex):∃sl,h1.get? b=some { ob with slots:=sl }:=by
 by_cases hb:b∈fs
 .exact u.slot b ob q n hb hx
 .exact⟨ob.slots,u.keep b ob q n hb hx⟩
def Un.kept (k:∀b u,h.get? b=some u->h'.get? b=some u):Un fs ex H H h h' :=
 ⟨λb ob q _ _ _=>k b ob q,λb ob q _ _ _=>⟨ob.slots,k b ob q⟩,λ_ _ _ n _=>n,λb ob q _=>⟨ob,k b ob q⟩,λ_ _ q=>q,λ_ _ _ q=>q,λ_ ps q=>⟨#[],by rw[q];simp⟩⟩
def Un.refl:Un fs ex H H h h:=Un.kept λ_ _ q=>q
def Un.laid (k:∀b u,h.get? b=some u->h'.get? b=some u)(hp:h.objs.size<=a)(hn:H a=none):Un fs ex H (aL H a o) h h' where
 keep:=λb u q _ _ _=>k b u q
 slot:=λb u q _ _ _=>⟨u.slots,k b u q⟩
 free:=λb u q n _=>by rw[cS (Z9 (Yf (Zn q) hp))];exact n
 there:=λb u q _=>⟨u,k b u q⟩
 mj:=λb xs q=>by rw[cS (E8 q hn)];exact q
 p7:=λb u xs q=>by rw[cS (E8 q hn)];exact q
 rZ:=λb ps q=>⟨#[],by rw[cS (E8 q hn),q];simp⟩
def Un.write (mu:QQ (H x))(he:e=x\/H e=some (.own x))(k:∀b u,b≠e->h.get? b=some u->h'.get? b=some u)(Fh:∃u,h'.get? e=some u):Un fs ex H (aL H x o) h h':=by
 have hx:∀b,H b=none->b≠x:=λb n z=>by subst z;rw[n] at mu;exact mu
 have hb:∀b,H b=none->b≠e:=λb n z=>by
  subst z;rcases he with r |r
  .exact hx b n r
  .rw[n] at r;cases r
 have hm:∀b u,H b=some u->¬ QQ (some u)->b≠x:=λb u q nm z=>by subst z;rw[q] at mu;exact nm mu
 refine⟨λb u q n _ _=>k b u (hb b n) q,λb u q n _ _=>⟨u.slots,k b u (hb b n) q⟩,λb u q n _=>by rw[cS (hx b n)];exact n,λb u q _=>?_,
  λb xs q=>by rw[cS (hm b _ q λz=>z)];exact q,λb u xs q=>by rw[cS (hm b _ q λz=>z)];exact q,λb ps q=>⟨#[],by rw[cS (hm b _ q λz=>z),q];simp⟩⟩
 by_cases KQ:b=e
 .subst KQ;exact Fh
 .exact⟨u,k b u KQ q⟩
end
def T9 (h:Heap)(H:Hp):List Addr:=(List.range h.objs.size).filter λa=>(H a).isSome
def p6 (h:Heap)(H:Hp):Heap:=PySem.W.hideAll h (T9 h H)
def AF (h:Heap)(H:Hp):(p6 h H).objs.size=h.objs.size:=PySem.W.hideAll_size _ _
def Ez {h:Heap}{H:Hp}{b:Addr}{o:Obj}(e:h.get? b=some o)(n:H b=none):(p6 h H).get? b=some o :=
 PySem.W.hideAll_get _ e λhm=>by
  have q:(H b).isSome=true:=(Zo.mp hm).2;rw[n] at q;simp at q
def Ia {h:Heap}{H:Hp}{b:Addr}{o:Obj}(e:(p6 h H).get? b=some o):h.get? b=some o/\H b=none:=by
 have e':h.get? b=some o:=PySem.W.of_hideAll (T9 h H) e;refine⟨e',?_⟩;cases q:H b with
 |none=>rfl
 |some x =>
  have hm:b∈T9 h H:=Zo.mpr ⟨Zq.mpr (Zn e'),by simp[q]⟩;have z:(p6 h H).get? b=none:=PySem.W.hideAll_none (T9 h H) hm;rw[z] at e;cases e
structure Mod (K:Θ1)(mg:Θ3)(base:Heap):Prop where
 Vv:K.In base
 glob:base.Ns mainGlobals mg
 blt:∃mb,base.Ns builtinsNs mb/\∀x:Str,x ≠ "__name__"->mb x=bootBuiltins x
 nolimit:base.NoLimit
structure Cx where
 prog:Program
 w:World
 K:Θ1
 mg:Str->Φ1
 base:Heap
 A:Around
 N:Δ2
 eG:Shared
 cC:Hp
 env:Env
 outer:List Env
 stack:List Env
 ex:List Addr
 fn:Str->Bool
 calm:Bool
 pn:Γ2
 xe:Value->Shared->Prop
def Bx (l:List Env):List Addr:=l.filterMap (·.frame)
abbrev Cx.fs (X:Cx):List Addr:=Bx X.outer
def QP (sc:Scope)(x:Str):Prop:=sc.names.lookup x=some .local\/sc.names.lookup x=some .cell\/sc.names.lookup x=some .free
def Loc (sc:Scope)(x:Str):Prop:=sc.names.lookup x=some .local\/sc.names.lookup x=some .cell
def Look (env:Env)(h:Heap)(m:Θ3)(x:Str)(u:Value):Prop :=
 (env.kindOf x=some .local/\m x=some u)\/((env.kindOf x=some .cell\/env.kindOf x=some .free)/\∃c,env.cells.lookup x=some c/\h.IsCell c (some u))
structure Cx.Ok (X:Cx):Prop where
 mod:Mod X.K X.mg X.base
 kind:X.env.scope.kind=.function
 glob:X.env.globals=mainGlobals
 blt:X.env.builtins=builtinsNs
 above:X.eG.heap.objs.size<=X.env.locals
 inj:∀x y c,X.env.cells.lookup x=some c->X.env.cells.lookup y=some c->x=y
 has:∀x,(X.env.kindOf x=some .cell\/X.env.kindOf x=some .free)->∃c,X.env.cells.lookup x=some c
 QK:∀x c,X.fn x=true->X.env.cells.lookup x=some c->X.eG.heap.objs.size<=c
 hd:X.calm=true->X.A.handled=none
 frames:X.A.frames=some X.stack
 Uc:X.stack=X.outer\/(X.stack=X.env::X.outer/\X.env.frame=some X.env.locals)
 Fl:∀b∈X.ex,b≠X.env.locals/\∀x c,X.env.cells.lookup x=some c->c≠b
 bs:∀b o,X.base.get? b=some o->X.eG.heap.get? b=some o/\X.cC b=none
 Jk:X.base.objs.size<=X.eG.heap.objs.size
 BH:∀b o,X.base.get? b=some o->b∉X.ex
 ss:∀b∈X.ex,b∉X.fs
 mD:X.eG.heap.FunFrames X.base X.outer
 OJ:∀b∈X.fs,X.cC b=none
structure Inv (X:Cx)(ae:Γ2)(σ:List (Option V))(H:Hp)(s:Shared):Prop where
 ok:X.Ok
 os:s.os=X.eG.os
 bare:AllBare s.gens
 base:Un X.fs X.ex X.cC H X.eG.heap s.heap
 loc:∃m,s.heap.Ns X.env.locals m/\∀(i:Nat) (x:Str) (v:V),X.N[i]?=some x->σ[i]?=some (some v)->QP X.env.scope x->∃u,RelV v u/\Look X.env s.heap m x u
 cell:∀x c,X.env.cells.lookup x=some c->∃v,s.heap.IsCell c v
 free:H X.env.locals=none
 jo:∀x c,X.env.cells.lookup x=some c->H c=none
 pin:∀p∈X.pn++ae,s.heap.get? p.1=some p.2/\H p.1=none/\p.1≠X.env.locals/\p.1∉X.fs/\∀v,p.2.data≠.cell v
 bP:jN X.prog X.w H s.heap
 len:σ.length=X.N.length
section
variable {X:Cx}{ae:Γ2}{σ:List (Option V)}{H H':Hp}{s:Shared}{h':Heap}
def Cx.Ok.ZJ (ok:X.Ok){b:Addr}{o:Obj}(e:X.base.get? b=some o):b∉X.fs:=λhb=>by
 have:=(ok.mD.mem hb).1;rw[e] at this;cases this
def Inv.bs (I:Inv X ae σ H s):∀b o,X.base.get? b=some o->s.heap.get? b=some o/\H b=none:=λb o e =>
 ⟨I.base.keep b o (I.ok.bs b o e).1 (I.ok.bs b o e).2 (I.ok.ZJ e) (I.ok.BH b o e),I.base.free b o (I.ok.bs b o e).1 (I.ok.bs b o e).2 (I.ok.BH b o e)⟩
def Inv.bk (I:Inv X ae σ H s):∀b o,X.base.get? b=some o->s.heap.get? b=some o:=λb o e=>(I.bs b o e).1
def Inv.mod (I:Inv X ae σ H s):Mod X.K X.mg X.base:=I.ok.mod
def Inv.rN (I:Inv X ae σ H s):X.K.In s.heap:=I.ok.mod.Vv.keeps I.bk
def Inv.lt (I:Inv X ae σ H s):X.env.locals<s.heap.objs.size:=let ⟨_,hn,_⟩:=I.loc;hn.lt
def Inv.sz (I:Inv X ae σ H s):X.eG.heap.objs.size<=s.heap.objs.size:=Zr I.ok.above (Nat.le_of_lt I.lt)
def Inv.ZI (I:Inv X ae σ H s){a:Addr}(h:s.heap.objs.size<=a):a∉X.fs:=λhb=>by
 obtain⟨_,o,ho,_⟩:=I.ok.mD.mem hb;exact absurd (Yf (Zn ho) (Zr I.sz h)) (Yi _)
def Inv.K2 (I:Inv X ae σ H s):∀x c,X.env.cells.lookup x=some c->c≠X.env.locals:=λx c e z=>by
 obtain⟨v,o,ho,hd⟩:=I.cell x c e;obtain⟨m,⟨o',es,ep,uS,V8,_⟩,_⟩:=I.loc;rw[z,uS] at ho;cases ho;rw[V8] at hd;cases hd
def Inv.mD (I:Inv X ae σ H s):s.heap.FunFrames X.base X.outer:=by
 have all:∀(l:List Env),(∀b∈Bx l,b∈X.fs)->X.eG.heap.FunFrames X.base l->s.heap.FunFrames X.base l:=by
  intro l;induction l with
  |nil=>intro _ _;trivial
  |cons env r ih =>
   intro hs hl;obtain⟨hk,⟨L,o,hf,hn,ho,hd⟩,hr⟩:=hl;have hL:L∈X.fs:=hs L (by unfold Bx;rw[List.filterMap_cons,hf];exact Zg);obtain⟨sl,e⟩:=I.base.slot L o ho (I.ok.OJ L hL) hL λz=>I.ok.ss L z hL
   exact⟨hk,⟨L,_,hf,hn,e,hd⟩,ih (λb hb=>hs b (by unfold Bx;rw[List.filterMap_cons,hf];exact Zh _ hb)) hr⟩
 exact all X.outer (λ_ hb=>hb) I.ok.mD
def Inv.stack (I:Inv X ae σ H s):s.heap.FunFrames X.base X.stack:=by
 rcases I.ok.Uc with e |⟨e,hf⟩
 .rw[e];exact I.mD
 .rw[e];obtain⟨m,hn,_⟩:=I.loc;refine .cons (by rw[I.ok.kind];decide) hf hn ?_ I.mD;exact Heap.get?_none_of_le (Zr I.ok.Jk I.ok.above)
def Inv.vh (I:Inv X ae σ H s):∀b∈Bx X.stack,b∈X.env.locals::X.fs:=λb hb=>by
 rcases I.ok.Uc with e |⟨e,hf⟩
 .rw[e] at hb;exact Zh _ hb
 .rw[e] at hb;unfold Bx at hb;rw[List.filterMap_cons,hf] at hb;exact hb
def Inv.xS (I:Inv X ae σ H s):∀b∈Bx X.stack,H b=none:=λb hb=>by
 rcases Zk.mp (I.vh b hb) with e |hb
 .rw[e];exact I.free
 .obtain⟨_,o,ho,_⟩:=I.ok.mD.mem hb;exact I.base.free b o ho (I.ok.OJ b hb) λz=>I.ok.ss b z hb
def Inv.step {g':Array GenState}{t':Nat}{d':Drawn}{ch:List Addr}(I:Inv X ae σ H s)
  (Fi:∀b∈ch,(b∈X.ex\/X.eG.heap.objs.size<=b)/\b≠X.env.locals/\(∀x c,X.env.cells.lookup x=some c->c≠b)/\∀p∈X.pn++ae,p.1≠b)
  (keep:∀b o,b≠X.env.locals->b∉X.fs->b∉ch->s.heap.get? b=some o->H b=none->h'.get? b=some o)
  (slot:∀b o,b≠X.env.locals->b∈X.fs->b∉ch->s.heap.get? b=some o->H b=none->∃sl,h'.get? b=some { o with slots:=sl }) (free:∀b o,b∉ch->s.heap.get? b=some o->H b=none->H' b=none)
  (there:∀b o,b∉ch->s.heap.get? b=some o->∃o',h'.get? b=some o')
  (mj:∀b xs,H b=some (.tup xs)->H' b=some (.tup xs)) (p7:∀b o u,H b=some (.hX o u)->H' b=some (.hX o u)) (rZ:∀b ps,H b=some (.Ko ps)->∃Lz,H' b=some (.Ko (ps++Lz)))
  (ns:∀m,s.heap.Ns X.env.locals m->h'.Ns X.env.locals m) (bP:jN X.prog X.w H' h') (hg:AllBare g') :
  Inv X ae σ H' { s with heap:=h',gens:=g',drawn:=d',toks:=t' }:=by
 have neL:∀b o,X.eG.heap.get? b=some o->b≠X.env.locals:=λb o e=>Z9 (Yf (Zn e) I.ok.above)
 have Uh:∀b o,X.eG.heap.get? b=some o->b∉X.ex->b∉ch:=λb o e hx hb=>by
  rcases(Fi b hb).1 with z |z
  .exact hx z
  .exact absurd (Yf (Zn e) z) (Yi _)
 have Kg:∀x c,X.env.cells.lookup x=some c->∀v,s.heap.IsCell c v->h'.IsCell c v:=λx c e v ⟨o,ho,hd⟩=>by
  have Pt:c∉ch:=λz=>(Fi c z).2.2.1 x c e rfl
  by_cases hc:c∈X.fs
  .obtain⟨sl,q⟩:=slot c o (I.K2 x c e) hc Pt ho (I.jo x c e);exact⟨_,q,hd⟩
  .exact⟨o,keep c o (I.K2 x c e) hc Pt ho (I.jo x c e),hd⟩
 refine⟨I.ok,I.os,hg,⟨λb o e n hb hx=>?_,λb o e n hb hx=>?_,λb o e n hx=>?_,λb o e hx=>?_,λb xs e=>mj b xs (I.base.mj b xs e),λb o xs e=>p7 b o xs (I.base.p7 b o xs e),λb ps e=>?_⟩,?_,λx c e=>?_,?_,λx c e=>?_,λp hp=>?_,bP,I.len⟩
 .exact keep b o (neL b o e) hb (Uh b o e hx) (I.base.keep b o e n hb hx) (I.base.free b o e n hx)
 .obtain⟨sl,e1⟩:=I.base.slot b o e n hb hx;obtain⟨dH,e2⟩:=slot b _ (neL b o e) hb (Uh b o e hx) e1 (I.base.free b o e n hx);exact⟨dH,e2⟩
 .obtain⟨o',e1⟩:=I.base.there b o e hx;exact free b o' (Uh b o e hx) e1 (I.base.free b o e n hx)
 .obtain⟨o',e1⟩:=I.base.there b o e hx;exact there b o' (Uh b o e hx) e1
 .obtain⟨m1,e1⟩:=I.base.rZ b ps e;obtain⟨m2,e2⟩:=rZ b _ e1;exact⟨m1++m2,by rw[e2,Array.append_assoc]⟩
 .obtain⟨m,hn,hl⟩:=I.loc;refine⟨m,ns m hn,λi x v e1 e2 e3=>?_⟩;obtain⟨u,r,l⟩:=hl i x v e1 e2 e3;refine⟨u,r,?_⟩;rcases l with l |⟨k,c,e,z⟩
  .exact .inl l
  .exact .inr ⟨k,c,e,Kg x c e _ z⟩
 .obtain⟨v,z⟩:=I.cell x c e;exact⟨v,Kg x c e v z⟩
 .obtain⟨m,⟨o,_,_,ho,_⟩,_⟩:=I.loc;exact free _ o (λz=>(Fi _ z).2.1 rfl) ho I.free
 .obtain⟨v,o,ho,hd⟩:=I.cell x c e;exact free c o (λz=>(Fi c z).2.2.1 x c e rfl) ho (I.jo x c e)
 .obtain⟨e,n,ne,nf,d⟩:=I.pin p hp;have Pt:p.1∉ch:=λz=>(Fi p.1 z).2.2.2 p hp rfl
  exact⟨keep p.1 p.2 ne nf Pt e n,free p.1 p.2 Pt e n,ne,nf,d⟩
def Inv.un {t':Nat}(I:Inv X ae σ H s)(u:Un X.fs [] H H' s.heap h')(bP:jN X.prog X.w H' h'):Inv X ae σ H' { s with heap:=h',toks:=t' }:=by
 obtain⟨m,⟨o,es,ep,ho,r⟩,_⟩:=id I.loc;obtain⟨sl,hL⟩:=u.any ho I.free (by simp);exact I.step (g':=s.gens) (d':=s.drawn) (ch:=[]) (λ_ z=>nomatch z) (λb o _ hb _ e n=>u.keep b o e n hb (by simp)) (λb o _ hb _ e n=>u.slot b o e n hb (by simp)) (λb o _ e n=>u.free b o e n (by simp)) (λb o _ e=>u.there b o e (by simp)) u.mj u.p7 u.rZ (λm' hm=>by
  obtain⟨o',Wx,QG,uS,r'⟩:=hm;rw[ho] at uS;cases uS;exact⟨_,Wx,QG,hL,r'⟩) bP I.bare
def Inv.call {g':Array GenState}{t':Nat}{d':Drawn}{ch:List Addr}(I:Inv X ae σ H s)(u:Un (Bx X.stack) ch H H' s.heap h')(bP:jN X.prog X.w H' h')(hg:AllBare g')
  (Fi:∀b∈ch,(b∈X.ex\/X.eG.heap.objs.size<=b)/\b≠X.env.locals/\(∀x c,X.env.cells.lookup x=some c->c≠b)/\∀p∈X.pn++ae,p.1≠b) :
  Inv X ae σ H' { s with heap:=h',gens:=g',drawn:=d',toks:=t' }:=by
 obtain⟨m,⟨o,es,ep,ho,r⟩,_⟩:=id I.loc;obtain⟨sl,hL⟩:=u.any ho I.free λz=>(Fi _ z).2.1 rfl
 exact I.step (ch:=ch) Fi (λb o hL hb hc e n=>u.keep b o e n (λz=>(Zk.mp (I.vh b z)).elim hL hb) hc) (λb o _ _ hc e n=>u.any e n hc) (λb o hc e n=>u.free b o e n hc) (λb o hc e=>u.there b o e hc) u.mj u.p7 u.rZ (λm' hm=>by
  obtain⟨o',Wx,QG,uS,r'⟩:=hm;rw[ho] at uS;cases uS;exact⟨_,Wx,QG,hL,r'⟩) bP hg
def Inv.turned {t':Nat}{it:Addr}(I:Inv X ae σ H s)(k:∀b o,b≠it->s.heap.get? b=some o->h'.get? b=some o)(hn:H it=none)(hL:it≠X.env.locals)
  (h1:it∈X.ex\/X.eG.heap.objs.size<=it) (h2:∀x c,X.env.cells.lookup x=some c->c≠it) (h3:∀p∈X.pn++ae,p.1≠it):Inv X ae σ H { s with heap:=h',toks:=t' }:=by
 have Ps:∀b u,H b=some u->b≠it:=λb u e z=>by rw[z,hn] at e;cases e
 refine I.step (g':=s.gens) (d':=s.drawn) (ch:=[it]) (λb hb=>?_) (λb o _ _ hc e _=>k b o (λz=>hc (by simp[z])) e) (λb o _ _ hc e _=>⟨o.slots,k b o (λz=>hc (by simp[z])) e⟩) (λ_ _ _ _ n=>n)
  (λb o hc e=>⟨o,k b o (λz=>hc (by simp[z])) e⟩) (λ_ _ e=>e) (λ_ _ _ e=>e) (λb ps e=>⟨#[],by rw[e];simp⟩) (λm hm=>?_) (λb u e=>?_) I.bare
 .have e:b=it:=by simpa using hb
  subst e;exact⟨h1,hL,h2,h3⟩
 .obtain⟨o,es,ep,ho,r⟩:=hm;exact⟨o,es,ep,k _ o (Ne.symm hL) ho,r⟩
 .refine(I.bP b u e).ap (λc v hc q=>k c v ?_ q) (λ_ q=>q) λ_ _ q=>q
  rcases hc with z |z
  .rw[z];exact Ps b u e
  .exact Ps c _ z
def Inv.tok (I:Inv X ae σ H s)(t:Nat):Inv X ae σ H { s with toks:=t }:=I.un (h':=s.heap) (t':=t) Un.refl I.bP
def Inv.kept {t':Nat}(I:Inv X ae σ H s)(k:∀b u,s.heap.get? b=some u->h'.get? b=some u):Inv X ae σ H { s with heap:=h',toks:=t' }:=I.un (Un.kept k) (I.bP.kept k)
def Inv.laid {a:Addr}{o:HO}{t':Nat}(I:Inv X ae σ H s)(k:∀b u,s.heap.get? b=some u->h'.get? b=some u)(hp:s.heap.objs.size<=a)(new:bS X.prog X.w (aL H a o) h' a o) :
  Inv X ae σ (aL H a o) { s with heap:=h',toks:=t' }:=I.un (Un.laid k hp (I.bP.fresh hp)) (I.bP.laid k hp new)
def Inv.write {x e:Addr}{o:HO}{t':Nat}(I:Inv X ae σ H s)(mu:QQ (H x))(he:e=x\/H e=some (.own x))(k:∀b u,b≠e->s.heap.get? b=some u->h'.get? b=some u)(Fh:∃u,h'.get? e=some u)
  (new:bS X.prog X.w (aL H x o) h' x o):Inv X ae σ (aL H x o) { s with heap:=h',toks:=t' }:=I.un (Un.write mu he k Fh) (I.bP.write mu he k Fh new)
def Inv.lU {JL:Γ2}(I:Inv X ae σ H s)(h:∀p∈JL,s.heap.get? p.1=some p.2/\H p.1=none/\p.1≠X.env.locals/\p.1∉X.fs/\∀v,p.2.data≠.cell v):Inv X JL σ H s :=
 ⟨I.ok,I.os,I.bare,I.base,I.loc,I.cell,I.free,I.jo,λp hp=>(Z0.mp hp).elim (λz=>I.pin p (Xb _ z)) (h p),I.bP,I.len⟩
def tG {N:Δ2}(hN:N.Nodup){i j:Nat}{x:Str}(a:N[i]?=some x)(b:N[j]?=some x):i=j:=by
 obtain⟨h1,e1⟩:=Zf.mp a;obtain⟨h2,e2⟩:=Zf.mp b;exact(List.getElem_inj hN).mp (e1.trans e2.symm)
def zM {M:Model}{A:Around}{E:Θ2}{i:Nat}{x:Str}{v:V}{u:Value}{Q:Unit->Shared->Prop}(I:Inv X ae σ H s)(hN:X.N.Nodup)(hi:X.N[i]?=some x)(hx:Loc X.env.scope x)(r:RelV v u)
  (h:∀s',Inv X ae (σ.set i (some v)) H s'->(∃a,Heap.SameBut a s.heap s'.heap/\(a=X.env.locals\/X.env.cells.lookup x=some a))->Q () s') (hf:X.fn x=true\/X.env.scope.names.lookup x=some .local:=by first |exact .inl rfl |exact .inr rfl |assumption):wpAny M A (storeName X.env x u) Q E s:=by
 obtain⟨m,hn,hl⟩:=id I.loc;have U':(X.env.scope.kind == .class||(X.env.scope.kind == .module&&X.env.locals != X.env.globals))=false:=by rw[I.ok.kind];rfl
 have R0:i < σ.length:=by rw[I.len];exact(Zf.mp hi).1
 have K2:=I.K2;have xP:∀{a:Addr}{h':Heap},(∃o,s.heap.get? a=some o/\H a=none)->Heap.SameBut a s.heap h'->jN X.prog X.w H h':=λ{a h'} ha hs b ob e=>by
  obtain⟨_,_,J5⟩:=ha;refine(I.bP b ob e).ap (λc w' hc q=>(hs.2 c ?_).trans q) (λ_ q=>q) λ_ _ q=>q
  rintro rfl;rcases hc with rfl |hc
  .rw[J5] at e;cases e
  .rw[J5] at hc;cases hc
 rcases hx with hk |hk
 .refine wpAny_storeName_local hk hn (λh' KH hs=>?_) U';obtain⟨oL,_,_,hoL,_⟩:=id hn;refine h _ ⟨I.ok,I.os,I.bare,⟨λb o e n hb hx=>?_,λb o e n hb hx=>?_,I.base.free,λb o e hx=>?_,I.base.mj,I.base.p7,I.base.rZ⟩,⟨_,KH,λj y v' e1 e2 e3=>?_⟩,λy c e=>?_,I.free,I.jo,λp hp=>?_,xP ⟨oL,hoL,I.free⟩ hs,by simpa using I.len⟩ ⟨_,hs,.inl rfl⟩
  .exact(hs.2 b (Z9 (Yf (Zn e) I.ok.above))).trans (I.base.keep b o e n hb hx)
  .obtain⟨sl,e1⟩:=I.base.slot b o e n hb hx;exact⟨sl,(hs.2 b (Z9 (Yf (Zn e) I.ok.above))).trans e1⟩
  .obtain⟨o',e1⟩:=I.base.there b o e hx;exact⟨o',(hs.2 b (Z9 (Yf (Zn e) I.ok.above))).trans e1⟩
  .by_cases hj:j=i
   .subst hj;rw[hi] at e1;cases e1;rw[Yl R0] at e2;cases e2;exact⟨u,r,.inl ⟨hk,by simp⟩⟩
   .rw[Z6 (Ne.symm hj)] at e2;obtain⟨u',r',q⟩:=hl j y v' e1 e2 e3;refine⟨u',r',?_⟩;rcases q with ⟨k,e⟩ |⟨k,c,e,z⟩
    .refine .inl ⟨k,?_⟩;have:y≠x:=λe=>hj (tG hN e1 (e▸hi))
     simp[this,e]
    .exact .inr ⟨k,c,e,z.sameBut hs (K2 y c e)⟩
  .obtain⟨w',z⟩:=I.cell y c e;exact⟨w',z.sameBut hs (K2 y c e)⟩
  .obtain⟨e,n,ne,nf,d⟩:=I.pin p hp;exact⟨(hs.2 p.1 ne).trans e,n,ne,nf,d⟩
 .have P1:X.fn x=true:=by
   rcases hf with z |z
   .exact z
   .rw[z] at hk;cases hk
  obtain⟨c,hc⟩:=I.ok.has x (.inl hk);obtain⟨w',z⟩:=I.cell x c hc;refine wpAny_storeName_cell I.ok.kind hk hc z (λh' ja hs=>?_);obtain⟨oc,hoc,y'⟩:=id z;refine h { s with heap:=h' } ⟨I.ok,I.os,I.bare,⟨λb o e n hb hx=>?_,λb o e n hb hx=>?_,I.base.free,λb o e hx=>?_,I.base.mj,I.base.p7,I.base.rZ⟩,⟨m,hn.sameBut hs (Ne.symm (K2 x c hc)),λj y v' e1 e2 e3=>?_⟩,λy c' e=>?_,I.free,I.jo,λp hp=>?_,xP ⟨oc,hoc,I.jo x c hc⟩ hs,by simpa using I.len⟩ ⟨c,hs,.inr hc⟩
  .exact(hs.2 b (Z9 (Yf (Zn e) (I.ok.QK x c P1 hc)))).trans (I.base.keep b o e n hb hx)
  .obtain⟨sl,e1⟩:=I.base.slot b o e n hb hx;exact⟨sl,(hs.2 b (Z9 (Yf (Zn e) (I.ok.QK x c P1 hc)))).trans e1⟩
  .obtain⟨o',e1⟩:=I.base.there b o e hx;exact⟨o',(hs.2 b (Z9 (Yf (Zn e) (I.ok.QK x c P1 hc)))).trans e1⟩
  .by_cases hj:j=i
   .subst hj;rw[hi] at e1;cases e1;rw[Yl R0] at e2;cases e2;exact⟨u,r,.inr ⟨.inl hk,c,hc,ja⟩⟩
   .rw[Z6 (Ne.symm hj)] at e2;obtain⟨u',r',q⟩:=hl j y v' e1 e2 e3;refine⟨u',r',?_⟩;rcases q with q |⟨k,c',e,z'⟩
    .exact .inl q
    .refine .inr ⟨k,c',e,z'.sameBut hs ?_⟩;rintro rfl;exact hj (tG hN e1 (I.ok.inj _ _ _ e hc▸hi))
  .by_cases hcc:c'=c
   .subst hcc;exact⟨_,ja⟩
   .obtain⟨w2,z2⟩:=I.cell y c' e;exact⟨w2,z2.sameBut hs hcc⟩
  .obtain⟨e,n,ne,nf,d⟩:=I.pin p hp;refine⟨(hs.2 p.1 ?_).trans e,n,ne,nf,d⟩;intro q;rw[q,hoc] at e;have q':oc=p.2:=Option.some.inj e;exact d w' (by rw[<- q'];exact y')
def fe {M:Model}{A:Around}{E:Θ2}{i:Nat}{x:Str}{v:V}{u:Value}{Q:Unit->Shared->Prop}(I:Inv X ae σ H s)(hN:X.N.Nodup)(hi:X.N[i]?=some x)(hx:Loc X.env.scope x)(r:RelV v u)
  (h:∀s',Inv X ae (σ.set i (some v)) H s'->Q () s') (hf:X.fn x=true\/X.env.scope.names.lookup x=some .local:=by first |exact .inl rfl |exact .inr rfl |assumption):wpAny M A (storeName X.env x u) Q E s :=
 zM I hN hi hx r (λs' I' _=>h s' I') hf
def Inv.xF {s':Shared}{ch:List Addr}(I:Inv X ae σ H s)(ho:s'.os=s.os)(u:Un (Bx X.stack) ch H H' s.heap s'.heap)(bP:jN X.prog X.w H' s'.heap)(hg:AllBare s'.gens)
  (Fi:∀b∈ch,(b∈X.ex\/X.eG.heap.objs.size<=b)/\b≠X.env.locals/\(∀x c,X.env.cells.lookup x=some c->c≠b)/\∀p∈X.pn++ae,p.1≠b):Inv X ae σ H' s':=by
 obtain⟨h',g',d',t',o'⟩:=s';have e:o'=s.os:=ho;subst e;exact I.call (g':=g') (t':=t') (d':=d') u bP hg Fi
end
abbrev XK:=Value->Option Addr->Hp->Prop
abbrev St:=List (Option V)
abbrev VK:=V->Hp->Prop
abbrev TE:=St->Hp->VK->Prop
abbrev TT:=St->Hp->(Bool->Hp->Prop)->Prop
abbrev TA:=St->Hp->(List V->Hp->Prop)->Prop
structure Ends where
 nx:St->Hp->Prop
 rt:VK
 bk:St->Hp->Prop:=λ_ _=>False
 ct:St->Hp->Prop:=λ_ _=>False
abbrev TS:=Ends->St->Hp->Prop
def EP (X:Cx)(ae:Γ2)(σ:St)(Q:VK)(u:Value)(s':Shared):Prop:=∃v H',Inv X ae σ H' s'/\RelV v u/\Q v H'
def TP (X:Cx)(ae:Γ2)(σ:St)(Q:Bool->Hp->Prop)(b:Bool)(s':Shared):Prop:=∃H',Inv X ae σ H' s'/\Q b H'
def AP (X:Cx)(ae:Γ2)(σ:St)(Q:List V->Hp->Prop)(us:Δ3)(s':Shared):Prop:=∃vs H',Inv X ae σ H' s'/\aY vs us/\Q vs H'
def SP (X:Cx)(ae:Γ2)(D:Ends)(f:Flow)(s':Shared):Prop :=
 match f with
 |.next=>∃aB H',Inv X ae aB H' s'/\D.nx aB H'
 |.brk=>∃aB H',Inv X ae aB H' s'/\D.bk aB H'
 |.cont=>∃aB H',Inv X ae aB H' s'/\D.ct aB H'
 |.ret u=>∃v aB H',Inv X ae aB H' s'/\RelV v u/\D.rt v H'
def PE (X:Cx)(e:Expr)(t:TE):Prop :=
 ∀(ae:Γ2) (s:Shared) (σ:St) (H:Hp) (Q:VK),Inv X ae σ H s->t σ H Q->wpAny (model X.prog X.w) X.A (eval e X.env) (EP X ae σ Q) X.xe s
def PT (X:Cx)(e:Expr)(t:TT):Prop :=
 ∀(ae:Γ2) (s:Shared) (σ:St) (H:Hp) (Q:Bool->Hp->Prop),Inv X ae σ H s->t σ H Q->wpAny (model X.prog X.w) X.A (isTrue e X.env (eval e X.env)) (TP X ae σ Q) X.xe s
def PW (X:Cx)(e:Expr)(t:TT):Prop :=
 ∀(whole:Sem Value) (ae:Γ2) (s:Shared) (σ:St) (H:Hp) (Q:Bool->Hp->Prop),Inv X ae σ H s->t σ H Q->wpAny (model X.prog X.w) X.A (isTrue e X.env whole) (TP X ae σ Q) X.xe s
def PW.pt {X:Cx}{e:Expr}{t:TT}(h:PW X e t):PT X e t:=h _
def PA (X:Cx)(es:Ξ2)(t:TA):Prop :=
 ∀(pos:Pos) (ae:Γ2) (s:Shared) (σ:St) (H:Hp) (Q:List V->Hp->Prop),Inv X ae σ H s->t σ H Q->wpAny (model X.prog X.w) X.A (spliced (backTo pos (starEach es X.env))) (AP X ae σ Q) X.xe s
def PS (X:Cx)(st:Stmt)(t:TS):Prop :=
 ∀(ae:Γ2) (s:Shared) (σ:St) (H:Hp) (D:Ends),Inv X ae σ H s->t D σ H->wpAny (model X.prog X.w) X.A (exec st X.env) (SP X ae D) X.xe s
def jb (X:Cx)(st:List Stmt)(t:TS):Prop :=
 ∀(ae:Γ2) (s:Shared) (σ:St) (H:Hp) (D:Ends),Inv X ae σ H s->t D σ H->wpAny (model X.prog X.w) X.A (execs st X.env) (SP X ae D) X.xe s
def bp {α : Type}{t:Sem α}{Q Q':α->Shared->Prop}{M:Model}{A:Around}{E:Θ2}{s:Shared}(h:wpAny M A t Q E s)(hQ:∀a s,Q a s->Q' a s):wpAny M A t Q' E s:=wpAny_mono h hQ λ_ _ x=>x
section
variable {X:Cx}
def u3 (i:Nat):TE:=λσ H Q=>∃v,σ[i]?=some (some v)/\Q v H
def tC (v:V):TE:=λ_ H Q=>Q v H
def Nb {i:Nat}{x:Str}{pos:Pos}(hN:X.N[i]?=some x)(hv:QP X.env.scope x)(hd:(x == ("__debug__" : Str))=false:=by decide)(zb:(x == ("__classdict__" : Str))=false:=by decide):PE X (.Name x pos) (u3 i):=by
 intro ae s σ H Q I h;obtain⟨v,e,h⟩:=h;obtain⟨m,hn,hl⟩:=I.loc;obtain⟨u,r,l⟩:=hl i x v hN e hv;have jz:EP X ae σ Q u s:=⟨v,H,I,r,h⟩;rcases l with ⟨hk,hm⟩ |⟨hk,c,hc,xx⟩
 .exact wpAny_Name (wpAny_loadName_local I.ok.kind hk hn hm jz) hd
 .rcases hk with hk |hk
  .exact wpAny_Name (wpAny_loadName_cell I.ok.kind hk hc xx jz) hd
  .exact wpAny_Name (wpAny_loadName_free I.ok.kind hk hc xx jz zb) hd
def bF {i j pos}:PE X (.Constant (.int i) j pos) (tC (.int i)):=λ_ _ _ H _ I h=>wpAny_Constant_int ⟨.int i,H,I.tok _,⟨_,rfl⟩,h⟩
def sy {b j pos}:PE X (.Constant (.bool b) j pos) (tC (.bl b)):=λ_ _ _ H _ I h=>Constant_bool ⟨.bl b,H,I,rfl,h⟩
def vk {j pos}:PE X (.Constant .none j pos) (tC .bV):=λ_ _ _ H _ I h=>Constant_none ⟨.bV,H,I,rfl,h⟩
def Gl (X:Cx)(x:Str):Prop:=X.env.kindOf x=some .globalImplicit
def IA {E:Θ2}{ae:Γ2}{s:Shared}{σ:St}{H:Hp}{x:Str}{u:Value}{pos:Pos}{Q:Θ2}(I:Inv X ae σ H s)(hg:Gl X x)(hm:X.mg x=some u)(h:Q u s)
  (hd:(x == ("__debug__" : Str))=false:=by decide):wpAny (model X.prog X.w) X.A (eval (.Name x pos) X.env) Q E s :=
 Calls.Name_function_global I.ok.kind hg (Calls.loadGlobal_global (by rw[I.ok.glob];exact I.mod.glob.keeps I.bk) hm h) hd
def fH {E:Θ2}{ae:Γ2}{s:Shared}{σ:St}{H:Hp}{x:Str}{u:Value}{pos:Pos}{Q:Θ2}(I:Inv X ae σ H s)(hg:Gl X x)(hm:X.mg x=none)(hv:bootBuiltins x=some u)(h:Q u s)
  (hn:x ≠ "__name__":=by decide) (hd:(x == ("__debug__" : Str))=false:=by decide):wpAny (model X.prog X.w) X.A (eval (.Name x pos) X.env) Q E s:=by
 obtain⟨mb,h1,h2⟩:=I.mod.blt;exact Calls.Name_function_global I.ok.kind hg (Calls.loadGlobal_builtin (by rw[I.ok.glob];exact I.mod.glob.keeps I.bk) hm (by rw[I.ok.blt];exact h1.keeps I.bk) ((h2 x hn).trans hv) h) hd
variable {a b:Expr}{ta tb:TE}{pos:Pos}
def PC (X:Cx)(op:CmpOp)(a b:Expr)(t:TE):Prop :=
 ∀(ae:Γ2) (s:Shared) (σ:St) (H:Hp) (Q:VK),Inv X ae σ H s->t σ H Q ->
  wpAny (model X.prog X.w) X.A (eval a X.env) (λv br=>wpAny (model X.prog X.w) X.A (eval b X.env) (λu cr=>wpAny (model X.prog X.w) X.A (compareOp op v u) (EP X ae σ Q) X.xe cr) X.xe br) X.xe s
def tB (t:TE):TT:=λσ H Q=>t σ H λx H1=>∃c,x=.bl c/\Q c H1
def M6 {op:CmpOp}{t:TE}(h:PC X op a b t)(h1:behindInMarks op b=false:=by first |exact T1 _ (by decide) (by decide) |rfl):PT X (.Compare a [op] [b] pos) (tB t):=by
 intro ae s σ H Q I hw;refine wpAny_isTrue_Compare1 (bp (h ae s σ H _ I hw) λv s1 h1=>bp h1 λu s2 h2=>bp h2 λc s3 ⟨x,H1,I1,r1,q1⟩=>?_) h1;obtain⟨d,rfl,q⟩:=q1;cases r1;exact wpAny_truthy_bool ⟨H1,I1,q⟩
def fD {e:Expr}{t:TE}(h:PE X e t)(he:∀whole,isTrue e X.env whole=(do let v <- whole;standAt e.pos;holding [v] (truthy v)):=by intro _;rfl):PT X e (tB t):=by
 intro ae s σ H Q I hw;refine isTrue_plain (bp (h ae s σ H _ I hw) λv s1 ⟨x,H1,I1,r1,q1⟩=>?_) (he _);obtain⟨d,rfl,q⟩:=q1;cases r1;exact wpAny_truthy_bool ⟨H1,I1,q⟩
variable {tA tB':TT}{kG:Ξ2}
def tOr (t u:TT):TT:=λσ H Q=>t σ H λc H1=>if c=true then Q true H1 else u σ H1 Q
def YI (t:TT):TT:=λσ H Q=>t σ H λc H1=>Q (!c) H1
def pw_or1 (ha:PT X a tA):PW X (.BoolOp .Or [a] pos) tA:=by
 intro wh ae s σ H Q I h;refine isTrue_or (bp (ha ae s σ H Q I h) λc s1 e=>?_);cases c with
 |false=>exact isTrue_or_nil e
 |true=>exact e
def pw_or (ha:PT X a tA)(hb:PW X (.BoolOp .Or (b::kG) pos) tB'):PW X (.BoolOp .Or (a::b::kG) pos) (tOr tA tB'):=by
 intro wh ae s σ H Q I h;refine isTrue_or (bp (ha ae s σ H _ I h) λc s1 ⟨H1,I1,q1⟩=>?_);cases c with
 |true=>exact⟨H1,I1,q1⟩
 |false=>exact hb wh ae s1 σ H1 Q I1 q1
def gD (ha:PT X a tA):PT X (.UnaryOp .Not a pos) (YI tA):=by
 intro ae s σ H Q I h;exact isTrue_not (ha ae s σ H (λc H1=>Q (!c) H1) I h)
def SW (ta tb:TE):TE:=λσ H Q=>ta σ H λx H1=>∃c,x=.bl c/\if c=true then tb σ H1 Q else Q (.bl false) H1
def SO (ta:TE):TE:=λσ H Q=>ta σ H λx H1=>∃c,x=.bl c/\Q (.bl (!c)) H1
def CS {op}{t:TE}(h:PE X a t):PE X (.BoolOp op [a] pos) t:=λae s σ H Q I hw=>BoolOp_one (h ae s σ H Q I hw)
def CU (ha:PE X a ta)(hb:PE X (.BoolOp .And (b::kG) pos) tb):PE X (.BoolOp .And (a::b::kG) pos) (SW ta tb):=by
 intro ae s σ H Q I h;refine BoolOp_and (bp (ha ae s σ H _ I h) λv s1 ⟨x,H1,I1,r1,q1⟩=>?_);obtain⟨c,rfl,q1⟩:=q1;cases r1;refine wpAny_truthy_bool ?_;cases c with
 |true=>exact hb ae s1 σ H1 Q I1 q1
 |false=>exact⟨.bl false,H1,I1,rfl,q1⟩
def Nc (ha:PE X a ta):PE X (.UnaryOp .Not a pos) (SO ta):=by
 intro ae s σ H Q I h;refine UnaryOp_ (bp (ha ae s σ H _ I h) λv s1 ⟨x,H1,I1,r1,q1⟩=>?_);obtain⟨c,rfl,q1⟩:=q1;cases r1;exact not_of (wpAny_truthy_bool ⟨.bl (!c),H1,I1,rfl,q1⟩)
def tIf (t:TT)(ta tb:TE):TE:=λσ H Q=>t σ H λc H1=>if c=true then ta σ H1 Q else tb σ H1 Q
def tE {c:Expr}(hc:PT X c tA)(ha:PE X a ta)(hb:PE X b tb):PE X (.IfExp c a b pos) (tIf tA ta tb):=by
 intro ae s σ H Q I h;refine wpAny_IfExp (bp (hc ae s σ H _ I h) λd s1 ⟨H1,I1,q1⟩=>?_);cases d with
 |true=>exact ha ae s1 σ H1 Q I1 q1
 |false=>exact hb ae s1 σ H1 Q I1 q1
end
def bD (K:Θ1)(H:Hp)(a:Addr)(xs:List V):Prop :=
 Rd H a (.lst xs) \/
  ∃(o:Obj) (its:Array Value) (n:Nat),K.lookup a=some o/\o.cls=.type "list"/\o.dict=none/\o.data=.seq its n/\its.size<=sizeLine/\aY xs its.toList
def aM (K:Θ1)(H:Hp)(a:Addr)(xs:List V):Prop :=
 Rd H a (.tup xs) \/
  ∃(o:Obj) (its:Array Value) (n:Nat),K.lookup a=some o/\o.cls=.type "tuple"/\o.data=.seq its n/\its.size<=sizeLine/\aY xs its.toList
def τ:Value->Option V
 |.none=>some .bV
 |.bool b=>some (.bl b)
 |.int i _=>some (.int i)
 |.str x _=>some (.str x)
 |.bytes b _=>some (.zf b)
 |.float b _=>some (.OK b)
 |.ref a=>some (.ref a)
 |.type n=>some (.ty n)
 |_=>none
def RelV.abs {x:V}{u:Value}(r:RelV x u):τ u=some x:=by
 cases x with
 |bV=>cases r;rfl
 |bl _=>cases r;rfl
 |int _=>obtain⟨t,rfl⟩:=r;rfl
 |str _=>obtain⟨t,rfl⟩:=r;rfl
 |zf _=>obtain⟨t,rfl⟩:=r;rfl
 |OK _=>obtain⟨t,rfl⟩:=r;rfl
 |ref _=>cases r;rfl
 |ty _=>cases r;rfl
def RelV.inj {x y:V}{u:Value}(r:RelV x u)(q:RelV y u):x=y:=Option.some.inj (r.abs.symm.trans q.abs)
theorem aY.inj:∀{xs ys:List V}{us:Δ3},aY xs us->aY ys us->xs=ys
 |_,_,_,.nil,.nil=>rfl
 |_,_,_,.cons r t,.cons r' t'=>by rw[r.inj r',aY.inj t t']
section
variable {X:Cx}{ae:Γ2}{σ:St}{H:Hp}{s:Shared}{a:Addr}{xs ys:List V}
def bD.of {K:Θ1}(h:H a=some (.lst xs)):bD K H a xs:=.inl (.inl h)
def aM.of {K:Θ1}(h:H a=some (.tup xs)):aM K H a xs:=.inl (.inl h)
def Inv.list (I:Inv X ae σ H s)(h:bD X.K H a xs):∃its:Δ3,aY xs its/\PlainL s.heap a its.toArray/\xs.length<=sizeLine:=by
 rcases h with h |⟨o,its,n,hk,hc,hd,hs,hz,r⟩
 .obtain⟨z,its,n,r,e⟩:=h.ok I.bP;exact⟨its,r,⟨_,n,e,rfl,rfl,rfl⟩,z⟩
 .refine⟨its.toList,r,⟨o,n,I.rN a o hk,hc,hd,by simpa using hs⟩,?_⟩;have e:=r.length;simp only[Array.length_toList] at e;omega
def Inv.tuple (I:Inv X ae σ H s)(h:aM X.K H a xs):∃its:Δ3,aY xs its/\IsTup s.heap a its.toArray/\xs.length<=sizeLine:=by
 rcases h with h |⟨o,its,n,hk,hc,hs,hz,r⟩
 .obtain⟨z,its,r,p⟩:=h.ok I.bP;exact⟨its,r,p,z⟩
 .refine⟨its.toList,r,⟨o,I.rN a o hk,hc,n,by simpa using hs⟩,?_⟩;have e:=r.length;simp only[Array.length_toList] at e;omega
def Inv.tN (I:Inv X ae σ H s)(h:bD X.K H a xs)(h':bD X.K H a ys):xs=ys:=by
 obtain⟨its,r,⟨o,n,e,_,_,d⟩,_⟩:=I.list h;obtain⟨its',r',⟨o',n',e',_,_,d'⟩,_⟩:=I.list h';rw[e] at e';cases e';rw[d] at d';injection d' with d1 _
 have:its=its':=by simpa using congrArg Array.toList d1
 subst this;exact r.inj r'
def Inv.iW (I:Inv X ae σ H s)(h:aM X.K H a xs)(h':aM X.K H a ys):xs=ys:=by
 obtain⟨its,r,⟨o,e,_,n,d⟩,_⟩:=I.tuple h;obtain⟨its',r',⟨o',e',_,n',d'⟩,_⟩:=I.tuple h';rw[e] at e';cases e';rw[d] at d';injection d' with d1 _
 have:its=its':=by simpa using congrArg Array.toList d1
 subst this;exact r.inj r'
end
abbrev Cx.wish (X:Cx)(E:Θ2):Cx:={ X with xe:=E }
abbrev Cx.Po (X:Cx):Cx:=X.wish λ_ _=>False
def Cx.Ok.wish {X:Cx}(ok:X.Ok)(E:Θ2):(X.wish E).Ok :=
 ⟨ok.mod,ok.kind,ok.glob,ok.blt,ok.above,ok.inj,ok.has,ok.QK,ok.hd,ok.frames,ok.Uc,ok.Fl,ok.bs,ok.Jk,ok.BH,ok.ss,ok.mD,ok.OJ⟩
def Cx.Ok.iy {X:Cx}{E:Θ2}(ok:(X.wish E).Ok):X.Ok :=
 ⟨ok.mod,ok.kind,ok.glob,ok.blt,ok.above,ok.inj,ok.has,ok.QK,ok.hd,ok.frames,ok.Uc,ok.Fl,ok.bs,ok.Jk,ok.BH,ok.ss,ok.mD,ok.OJ⟩
section
variable {X:Cx}{ae:Γ2}{σ:St}{H:Hp}{s:Shared}{E:Θ2}
def Inv.wish (I:Inv X ae σ H s)(E:Θ2):Inv (X.wish E) ae σ H s:=⟨I.ok.wish E,I.os,I.bare,I.base,I.loc,I.cell,I.free,I.jo,I.pin,I.bP,I.len⟩
def Inv.iy (I:Inv (X.wish E) ae σ H s):Inv X ae σ H s:=⟨I.ok.iy,I.os,I.bare,I.base,I.loc,I.cell,I.free,I.jo,I.pin,I.bP,I.len⟩
def SP.iy {D:Ends}{f:Flow}{s':Shared}(h:SP (X.wish E) ae D f s'):SP X ae D f s':=by
 cases f with
 |next=>obtain⟨aB,H',I,q⟩:=h;exact⟨aB,H',I.iy,q⟩
 |brk=>obtain⟨aB,H',I,q⟩:=h;exact⟨aB,H',I.iy,q⟩
 |cont=>obtain⟨aB,H',I,q⟩:=h;exact⟨aB,H',I.iy,q⟩
 |ret u=>obtain⟨v,aB,H',I,r,q⟩:=h;exact⟨v,aB,H',I.iy,r,q⟩
def jb.Po {st:List Stmt}{t:TS}(h:jb X.Po st t):jb X st t:=λae s σ H D I hw =>
 wpAny_mono (h ae s σ H D (I.wish _) hw) (λ_ _ q=>q.iy) λ_ _ z=>False.elim z
end
section
variable {X:Cx}{st:Stmt}{kG:List Stmt}{t u:TS}{e:Expr}{te:TE}{pos:Pos}
def SQ:TS:=λD σ H=>D.nx σ H
def YG (t u:TS):TS:=λD σ H=>t { D with nx:=u D } σ H
def oI:jb X [] SQ:=λ_ _ σ H _ I h=>wpAny_execs_nil ⟨σ,H,I,h⟩
def fh (h1:PS X st t)(h2:jb X kG u):jb X (st::kG) (YG t u):=by
 intro ae s σ H D I h;refine wpAny_execs_cons (bp (h1 ae s σ H { D with nx:=u D } I h) λf s1 q=>?_);cases f with
 |next =>
  obtain⟨aB,H',I',q⟩:=q;exact h2 ae s1 aB H' D I' q
 |ret v=>exact q
 |brk=>exact q
 |cont=>exact q
def dJ (h1:PS X st t):jb X [st] t:=by
 intro ae s σ H D I h;refine wpAny_execs_cons (bp (h1 ae s σ H D I h) λf s1 q=>?_);cases f with
 |next=>exact wpAny_execs_nil q
 |ret v=>exact q
 |brk=>exact q
 |cont=>exact q
def Inv.quiet {ae:Γ2}{σ:St}{H:Hp}{s:Shared}(I:Inv X ae σ H s):interactive X.env=false:=by simp[interactive,I.ok.kind]
def SR (te:TE):TS:=λD σ H=>te σ H λ_ H1=>D.nx σ H1
def yb (he:PE X e te)(hs:swapsWith e none pos.line X.env=pure false:=by rfl):PS X (.Expr e pos) (SR te):=by
 intro ae s σ H D I h;exact wpAny_Expr_any (bp (he ae s σ H _ I h) λv s1 ⟨x,H1,I1,r1,q1⟩=>⟨σ,H1,I1,q1⟩) I.quiet hs
def Q7 (te:TE):TS:=λD σ H=>te σ H D.rt
def gm (he:PE X e te):PS X (.Return (some e) pos) (Q7 te):=by
 intro ae s σ H D I h;exact wpAny_Return_some (bp (he ae s σ H _ I h) λv s1 ⟨x,H1,I1,r1,q1⟩=>⟨x,σ,H1,I1,r1,q1⟩)
def YL (c:TT)(t u:TS):TS:=λD σ H=>c σ H λb H1=>if b=true then t D σ H1 else u D σ H1
def oH {c:Expr}{a b:List Stmt}{tc:TT}(hc:PT X c tc)(ha:jb X a t)(hb:jb X b u):PS X (.If c a b pos) (YL tc t u):=by
 intro ae s σ H D I h;refine wpAny_If (bp (hc ae s σ H _ I h) λd s1 ⟨H1,I1,q1⟩=>?_);cases d with
 |true=>exact ha ae s1 σ H1 D I1 q1
 |false=>exact hb ae s1 σ H1 D I1 q1
end
abbrev TG:=V->St->Hp->(St->Hp->Prop)->Prop
abbrev zg:=List V->St->Hp->(St->Hp->Prop)->Prop
def PG (X:Cx)(fb:Expr)(t:TG):Prop :=
 ∀(ae:Γ2) (s:Shared) (σ:St) (H:Hp) (v:V) (u:Value) (Q:St->Hp->Prop),Inv X ae σ H s->RelV v u->t v σ H Q ->
  wpAny (model X.prog X.w) X.A (assign fb X.env u) (λ_ s'=>∃aB H',Inv X ae aB H' s'/\Q aB H') X.xe s
def uH (X:Cx)(ts:Ξ2)(t:zg):Prop :=
 ∀(ae:Γ2) (s:Shared) (σ:St) (H:Hp) (vs:List V) (us:Δ3) (Q:St->Hp->Prop),Inv X ae σ H s->aY vs us->t vs σ H Q ->
  wpAny (model X.prog X.w) X.A (assignInOrder ((assignEach ts X.env).map (·.2)) us) (λ_ s'=>∃aB H',Inv X ae aB H' s'/\Q aB H') X.xe s
abbrev BS:=V->V->V->Hp->(Hp->Prop)->Prop
def L6 (X:Cx)(t:BS):Prop :=
 ∀(ae:Γ2) (s:Shared) (σ:St) (H:Hp) (o i v:V) (ov iv u:Value) (Q:Hp->Prop),Inv X ae σ H s->RelV o ov->RelV i iv->RelV v u->t o i v H Q ->
  wpAny (model X.prog X.w) X.A (setItem ov iv u) (λ_ s'=>∃H',Inv X ae σ H' s'/\Q H') X.xe s
abbrev Jm:=V->V->Hp->VK->Prop
def OO (X:Cx)(op:Operator)(t:Jm):Prop :=
 ∀(ae:Γ2) (s:Shared) (σ:St) (H:Hp) (x y:V) (v u:Value) (Q:VK),Inv X ae σ H s->RelV x v->RelV y u->t x y H Q ->
  wpAny (model X.prog X.w) X.A (inplaceOp op v u) (EP X ae σ Q) X.xe s
section
variable {X:Cx}{pos:Pos}
def fk (i:Nat):TG:=λv σ H Q=>Q (σ.set i (some v)) H
def jk {i:Nat}{x:Str}(hN:X.N.Nodup)(hi:X.N[i]?=some x)(hx:Loc X.env.scope x)(hf:X.fn x=true\/X.env.scope.names.lookup x=some .local:=by first |exact .inl rfl |exact .inr rfl |assumption):PG X (.Name x pos) (fk i):=by
 intro ae s σ H v u Q I r h;exact wpAny_assign_Name (fe I hN hi hx r (λs' I'=>⟨_,H,I',h⟩) hf)
def R9:zg:=λvs σ H Q=>vs=[]/\Q σ H
def Ck (t:TG)(u:zg):zg:=λvs σ H Q=>∃v r,vs=v::r/\t v σ H λaB H'=>u r aB H' Q
def gJ:uH X [] R9:=by
 intro ae s σ H vs us Q I r h;obtain⟨e,h⟩:=h;subst e;cases r;exact assignInOrder_nil ⟨σ,H,I,h⟩
def wQ {e:Expr}{es:Ξ2}{t:TG}{u:zg}(h1:PG X e t)(h2:uH X es u)
  (hs:(assignEach (e::es) X.env).map (·.2)=assign e X.env::(assignEach es X.env).map (·.2):=by rfl):uH X (e::es) (Ck t u):=by
 intro ae s σ H vs us Q I r h;obtain⟨v,vr,e1,h⟩:=h;subst e1;cases r with
 |cons r rr =>
  rw[hs];refine assignInOrder_cons (bp (h1 ae s σ H _ _ _ I r h) λ_ s1 ⟨IU,H1,I1,q1⟩=>?_);exact h2 ae s1 IU H1 _ _ Q I1 rr q1
def LQ (K:Θ1)(n:Nat)(t:zg):TG:=λv σ H Q=>∃a xs,v=.ref a/\aM K H a xs/\xs.length=n/\t xs σ H Q
def M8 {es:Ξ2}{k:Nat}{t:zg}{n:Nat}(hc:X.calm=true)(h:uH X es t)
  (hn:(assignEach es X.env).length=n:=by rfl) (ot:(assignEach es X.env).findIdx? (·.1)=none:=by rfl):PG X (.Tuple es k pos) (LQ X.K n t):=by
 intro ae s σ H v u Q I r hw;obtain⟨a,xs,e1,hq,hl,hw⟩:=hw;subst e1;cases r;obtain⟨its,rv,ht,hz⟩:=I.tuple hq;refine assign_Tuple_tuple (I.ok.hd hc) ht (by simp[hn,<- hl,rv.length]) ot λh' hx=>?_
 have I1:Inv X ae σ H { s with heap:=h' }:=I.kept (t':=s.toks) λb o e=>hx b o (Z9 (Zn e)) e
 exact h ae _ σ H xs _ Q I1 (by simpa using rv) hw
def Y' (to ti:TE)(t:BS):TG:=λv σ H Q=>to σ H λo H1=>ti σ H1 λi H2=>t o i v H2 λH3=>Q σ H3
def vj {o i:Expr}{to ti:TE}{t:BS}(ho:PE X o to)(hi:PE X i ti)(hs:L6 X t)
  (ha:∀v,assign (.Subscript o i pos) X.env v=(do
   let ov <- holding [v] (eval o X.env);let iv <- holding [v,ov] (eval i X.env)
   standAt pos
   holding [v,ov,iv] (setItem ov iv v)
   release [v,ov,iv] []):=by intro _;rfl):PG X (.Subscript o i pos) (Y' to ti t):=by
 intro ae s σ H v u Q I r h;rw[ha];refine Za (wpAny_holding (bp (ho ae s σ H _ I h) λov s1 ⟨x,H1,I1,r1,q1⟩=>?_));refine Za (wpAny_holding (bp (hi ae s1 σ H1 _ I1 q1) λiv s2 ⟨y,H2,I2,r2,q2⟩=>?_));refine Za (wpAny_standAt (Za (wpAny_holding (bp (hs ae s2 σ H2 x y v ov iv u _ I2 r1 r2 r q2) λ_ s3 ⟨H3,I3,q3⟩=>?_))));exact wpAny_release ⟨σ,H3,I3,q3⟩
def BD (te:TE)(g:TG):TS:=λD σ H=>te σ H λx H1=>g x σ H1 D.nx
def kO {tg e:Expr}{te:TE}{g:TG}(he:PE X e te)(hg:PG X tg g)(hs:swapsWithSole [tg] e pos.line X.env=pure false:=by rfl)(hw:swappedStores [tg] e X.env=pure none:=by rfl)
  (h1:(assignEach [tg] X.env).map (·.2)=[assign tg X.env]:=by rfl):PS X (.Assign [tg] e pos) (BD te g):=by
 intro ae s σ H D I h;refine wpAny_Assign_stores (bp (he ae s σ H _ I h) λv s1 ⟨x,H1,I1,r1,q1⟩=>?_) hs hw;rw[h1];exact bp (hg ae s1 σ H1 x v _ I1 r1 q1) λ_ s2 q=>q
def oa {i:Nat}{x:Str}{e:Expr}{te:TE}{gz:Pos}(hN:X.N.Nodup)(hi:X.N[i]?=some x)(hx:Loc X.env.scope x)(he:PE X e te)(hs:swapsWith e (some (.Name x gz)) pos.line X.env=pure false:=by rfl)(hf:X.fn x=true\/X.env.scope.names.lookup x=some .local:=by first |exact .inl rfl |exact .inr rfl |assumption) :
  PS X (.Assign [.Name x gz] e pos) (BD te (fk i)):=by
 intro ae s σ H D I h;refine wpAny_Assign_Name (bp (he ae s σ H _ I h) λv s1 ⟨y,H1,I1,r1,q1⟩=>?_) hs;exact fe I1 hN hi hx r1 (λs2 I2=>⟨_,H1,I2,q1⟩) hf
def YH (i j:Nat)(ta:TA):TS:=λD σ H=>ta σ H λvs H1=>∃v w,vs=[v,w]/\D.nx ((σ.set i (some v)).set j (some w)) H1
def ql {i j:Nat}{x y:Str}{a b:Expr}{ta:TA}{px py pt:Pos}{kt k2 Vq}(hc:X.calm=true)(hN:X.N.Nodup)(hi:X.N[i]?=some x)(hj:X.N[j]?=some y)(VW:i≠j)
  (hx:X.env.scope.names.lookup x=some .local) (hy:X.env.scope.names.lookup y=some .local) (ha:PA X [a,b] ta)
  (hw:swappedStores [.Tuple [.Name x px,.Name y py] kt pt] (.Tuple [a,b] k2 Vq) X.env=pure (some [x,y]))
  (hs:swapsWithSole [.Tuple [.Name x px,.Name y py] kt pt] (.Tuple [a,b] k2 Vq) pos.line X.env=pure false:=by rfl) :
  PS X (.Assign [.Tuple [.Name x px,.Name y py] kt pt] (.Tuple [a,b] k2 Vq) pos) (YH i j ta):=by
 intro ae s σ H D I h;rw[exec_Assign_arm];refine Za (wpAny_standAt ?_);rw[hs];refine Za (wpAny_pure ?_);rw[if_neg (by decide)];refine Za (Tuple_ (bp (ha _ ae s σ H _ I h) λus s1 ⟨vs,H1,I1,r1,q1⟩=>?_));obtain⟨v,w,e1,q1⟩:=q1;subst e1;obtain⟨u1,u2,rfl,rv,yX⟩:∃u1 u2,us=[u1,u2]/\RelV v u1/\RelV w u2:=by
  cases r1 with
  |cons p q =>
   cases q with
   |cons p' q' =>
    cases q'
    exact⟨_,_,rfl,p,p'⟩
 refine wpAny_newObj_type ?_ (by show 2<=sizeLine;decide);have I2:Inv X ae σ H1 { s1 with heap:=s1.heap.push { cls:=.type "tuple",data:=.seq [u1,u2].toArray } }:=I1.kept (t':=s1.toks) λb o e=>Zj _ e
 rw[hw];refine Za (wpAny_pure ?_);show wpAny (model X.prog X.w) X.A (do rule "assign.swapped-stores";let items <- unpackItems (.ref s1.heap.objs.size) 2 none;assignInOrder [λv=>bindName X.env y v,λv=>bindName X.env x v] items.reverse;pure Flow.next) _ _ _;refine Za (wpAny_rule (Za (unpackItems_tuple (items:=#[u1,u2]) (I.ok.hd hc) (IsTup.new s1.heap _) λh' uF=>?_)));have I3:=I2.kept (h':=h') (t':=s1.toks) λb o e=>uF b o (Z9 (Zn e)) e
 show wpAny _ _ (assignInOrder [λv=>bindName X.env y v,λv=>bindName X.env x v] [u2,u1] >>= λ_=>pure Flow.next) _ _ _;refine Za (assignInOrder_cons (wpAny_bindName (fe I3 hN hj (.inl hy) yX (λs2 I4=>?_) (.inr hy))));refine assignInOrder_cons (wpAny_bindName (fe I4 hN hi (.inl hx) rv (λs3 I5=>assignInOrder_nil (wpAny_pure ?_)) (.inr hx)));rw[List.set_comm _ _ (Ne.symm VW)] at I5;exact⟨_,H1,I5,q1⟩
def YO (i:Nat)(te:TE)(ti:Jm):TS:=λD σ H=>∃x,σ[i]?=some (some x)/\te σ H λy H1=>ti x y H1 λz H2=>D.nx (σ.set i (some z)) H2
def M7 {i:Nat}{x:Str}{e:Expr}{te:TE}{op:Operator}{ti:Jm}{gz:Pos}(hN:X.N.Nodup)(hi:X.N[i]?=some x)(hx:Loc X.env.scope x)(he:PE X e te)(ho:OO X op ti)(hf:X.fn x=true\/X.env.scope.names.lookup x=some .local:=by first |exact .inl rfl |exact .inr rfl |assumption) :
  PS X (.AugAssign (.Name x gz) op e pos) (YO i te ti):=by
 intro ae s σ H D I h;obtain⟨v,e1,h⟩:=h;obtain⟨m,hn,hl⟩:=I.loc;have vis:QP X.env.scope x:=by rcases hx with k |k;exact .inl k;exact .inr (.inl k)
 obtain⟨u,r,l⟩:=hl i x v hi e1 vis;refine wpAny_AugAssign_Name ?_;have go:wpAny (model X.prog X.w) X.A (eval e X.env) (λw cr=>wpAny (model X.prog X.w) X.A (inplaceOp op u w) (λr dv=>wpAny (model X.prog X.w) X.A (storeName X.env x r) (λ_=>SP X ae D .next) X.xe dv) X.xe cr) X.xe s:=by
  refine bp (he ae s σ H _ I h) λw s1 ⟨y,H1,I1,r1,q1⟩=>?_
  refine bp (ho ae s1 σ H1 v y u w _ I1 r r1 q1) λz s2 ⟨zv,H2,I2,r2,q2⟩=>?_
  exact fe I2 hN hi hx r2 (λs3 I3=>⟨_,H2,I3,q2⟩) hf
 rcases l with ⟨hk,hm⟩ |⟨hk,c,hc,xx⟩
 .exact wpAny_loadName_local I.ok.kind hk hn hm go
 .rcases hk with hk |hk
  .exact wpAny_loadName_cell I.ok.kind hk hc xx go
  .rcases hx with k |k
   .have:X.env.scope.names.lookup x=some .free:=hk;rw[k] at this;cases this
   .have:X.env.scope.names.lookup x=some .free:=hk;rw[k] at this;cases this
def SV (to ti te:TE)(FU:V->V->Hp->VK->Prop)(Ub:Jm)(FS:BS):TS:=λD σ H=>to σ H λo H1=>ti σ H1 λi H2=>FU o i H2 λx H3=>te σ H3 λy H4=>Ub x y H4 λz H5=>FS o i z H5 λH6=>D.nx σ H6
def Ss (X:Cx)(t:V->V->Hp->VK->Prop):Prop :=
 ∀(ae:Γ2) (s:Shared) (σ:St) (H:Hp) (o i:V) (ov iv:Value) (Q:VK),Inv X ae σ H s->RelV o ov->RelV i iv->t o i H Q ->
  wpAny (model X.prog X.w) X.A (getItem ov iv) (EP X ae σ Q) X.xe s
def Hu {o i e:Expr}{to ti te:TE}{FU:V->V->Hp->VK->Prop}{Ub:Jm}{FS:BS}{op:Operator}{ic:Pos}(ho:PE X o to)(hi:PE X i ti)(hg:Ss X FU)(he:PE X e te)(hp:OO X op Ub)(hs:L6 X FS)
  (ha:∀ov iv new,augStore i ov iv new=(do holding [new,ov,iv] (setItem ov iv new);release [new,ov,iv] [];pure .next):=by intros;rfl):PS X (.AugAssign (.Subscript o i ic) op e pos) (SV to ti te FU Ub FS):=by
 intro ae s σ H D I h;refine wpAny_AugAssign_SubscriptAny (bp (ho ae s σ H _ I h) λov s1 ⟨x1,H1,I1,r1,q1⟩=>?_) ha;refine bp (hi ae s1 σ H1 _ I1 q1) λiv s2 ⟨x2,H2,I2,r2,q2⟩=>?_
 refine bp (hg ae s2 σ H2 x1 x2 ov iv _ I2 r1 r2 q2) λold s3 ⟨x3,H3,I3,r3,q3⟩=>?_
 refine bp (he ae s3 σ H3 _ I3 q3) λv s4 ⟨x4,H4,I4,r4,q4⟩=>?_
 refine bp (hp ae s4 σ H4 x3 x4 old v _ I4 r3 r4 q4) λnew s5 ⟨x5,H5,I5,r5,q5⟩=>?_
 exact bp (hs ae s5 σ H5 x1 x2 x5 ov iv new _ I5 r1 r2 r5 q5) λ_ s6 ⟨H6,I6,q6⟩=>⟨σ,H6,I6,q6⟩
def Vz (f:Int->Int->Int):Jm:=λx y H Q=>∃i j,x=.int i/\y=.int j/\Q (.int (f i j)) H
def Dm:OO X .Add (Vz λi j=>i+j):=by
 intro ae s σ H x y v u Q I r1 r2 h;obtain⟨i,j,e1,e2,q⟩:=h;subst e1;subst e2;obtain⟨t,rfl⟩:=r1;obtain⟨t',rfl⟩:=r2;exact iadd_int ⟨.int _,H,I.tok _,⟨_,rfl⟩,q⟩
def vt:OO X .Sub (Vz λi j=>i-j):=by
 intro ae s σ H x y v u Q I r1 r2 h;obtain⟨i,j,e1,e2,q⟩:=h;subst e1;subst e2;obtain⟨t,rfl⟩:=r1;obtain⟨t',rfl⟩:=r2;exact isub_int ⟨.int _,H,I.tok _,⟨_,rfl⟩,q⟩
def Cz (c:TT)(tb:TS):TS:=λD σ H=>∃W:Nat->St->Hp->Prop,(∃m,W m σ H)/\∀m σ H,W m σ H ->
 c σ H λb H1=>if b=true then ∃N:St->Hp->Prop,(∀aB H',N aB H'->∃m',m'<m/\W m' aB H')/\tb { D with nx:=N,ct:=N,bk:=D.nx } σ H1 else D.nx σ H1
def j8 {c:Expr}{body:List Stmt}{tc:TT}{tb:TS}(hp:PassesOwn (model X.prog X.w) X.A X.env X.xe)(hc:PT X c tc)(hb:jb X body tb):PS X (.While c body [] pos) (Cz tc tb):=by
 intro ae s σ H D I h;obtain⟨W,⟨m0,w0⟩,eS⟩:=h;refine wpAny_While (codeAny_whileLoop (λn s'=>∃aB H',Inv X ae aB H' s'/\W n aB H') ?_ m0 ⟨σ,H,I,w0⟩);rintro n s1 ⟨IU,H1,I1,w1⟩;refine wpAny_passesOwn hp (bp (hc ae s1 IU H1 _ I1 (eS n IU H1 w1)) λb s2 ⟨H2,I2,q2⟩=>?_);cases b with
 |true =>
  obtain⟨N,hN,q2⟩:=q2;rw[if_pos rfl];refine wpAny_passesOwn hp (bp (hb ae s2 IU H2 _ I2 q2) λf s3 q3=>?_);cases f with
  |next =>
   obtain⟨gQ,H3,I3,n3⟩:=q3;obtain⟨m',hm,w3⟩:=hN gQ H3 n3;exact⟨m',hm,gQ,H3,I3,w3⟩
  |cont =>
   obtain⟨gQ,H3,I3,n3⟩:=q3;obtain⟨m',hm,w3⟩:=hN gQ H3 n3;exact⟨m',hm,gQ,H3,I3,w3⟩
  |brk=>exact q3
  |ret v=>exact q3
 |false =>
  rw[if_neg Z4];exact wpAny_execs_nil ⟨IU,H2,I2,q2⟩
end
structure It where
 go:Nat->Hp->Prop
 uA:Nat->Hp->V->Hp->Prop
 stop:Nat->Hp->Prop
def dh (X:Cx)(ae:Γ2)(H:Hp)(b:Addr):Prop :=
 H b=none/\b≠X.env.locals/\b∉X.fs/\(b∈X.ex\/X.eG.heap.objs.size<=b)/\(∀x c,X.env.cells.lookup x=some c->c≠b)/\∀p∈X.pn++ae,p.1≠b
def Inv.gB {X:Cx}{ae:Γ2}{σ:St}{H H':Hp}{s:Shared}{b:Addr}(I:Inv X ae σ H s)(hb:s.heap.objs.size<=b)(hn:H' b=none):dh X ae H' b:=by
 refine⟨hn,Xt (Yf I.lt hb),I.ZI hb,.inr (Zr I.sz hb),λx c e z=>?_,λp hp z=>?_⟩
 .obtain⟨v,q⟩:=I.cell x c e;exact absurd (Yf q.lt (by rw[z];exact hb)) (Yi _)
 .exact absurd (Yf (Zn (I.pin p hp).1) (by rw[z];exact hb)) (Yi _)
structure Turn (P:Program)(w:World)(K:Θ1)(tg:Expr)(J:It)(fp:List Addr)(it:Addr)(tn:Nat->Heap->Prop):Prop where
 mem:it∈fp
 obj:∀i h,tn i h->∀b∈fp,∃o,h.get? b=some o/\∀v,o.data≠.cell v
 keep:∀i h h',tn i h->(∀b∈fp,∀o,h.get? b=some o->h'.get? b=some o)->tn i h'
 item:∀(X:Cx),X.prog=P->X.w=w->X.K=K->X.calm=true->∀(i:Nat) (ae:Γ2) (s:Shared) (σ:St) (H:Hp) (E:Θ2),Inv X ae σ H s->(∀b∈fp,dh X ae H b)->tn i s.heap->J.go i H ->
  wpAny (model P w) X.A (pyNext (.ref it)) (λr s1=>∃u,r=some u /\
   wpAny (model P w) X.A (letOwnedTupleGo tg (.ref it) u) (λ_ s2=>∃x H',Inv X ae σ H' s2/\RelV x u/\J.uA i H x H'/\tn (i+1) s2.heap/\∀b∈fp,H' b=none) E s1) E s
 done:∀(X:Cx),X.prog=P->X.w=w->X.K=K->X.calm=true->∀(i:Nat) (ae:Γ2) (s:Shared) (σ:St) (H:Hp) (E:Θ2),Inv X ae σ H s->(∀b∈fp,dh X ae H b)->tn i s.heap->J.stop i H ->
  wpAny (model P w) X.A (pyNext (.ref it)) (λr s1=>r=none/\Inv X ae σ H s1) E s
 self:∀(A:Around) (i:Nat) (s:Shared) (Q:Θ2) (E:Θ2),tn i s.heap->Q (.ref it) s->wpAny (model P w) A (pyIter (.ref it)) Q E s
abbrev TI:=St->Hp->(It->Hp->Prop)->Prop
def PIE (X:Cx)(ae:Γ2)(σ:St)(tg:Expr)(R:It->Hp->Prop)(Fw:Value)(s2:Shared):Prop :=
 ∃(it:Addr) (fp:List Addr) (tn:Nat->Heap->Prop) (J:It) (H':Hp),Fw=.ref it/\Inv X ae σ H' s2/\Turn X.prog X.w X.K tg J fp it tn/\tn 0 s2.heap/\(∀b∈fp,dh X ae H' b)/\R J H'
def PI (X:Cx)(tg iter:Expr)(wi:TI):Prop :=
 ∀(ae:Γ2) (s:Shared) (σ:St) (H:Hp) (R:It->Hp->Prop),Inv X ae σ H s->wi σ H R ->
  wpAny (model X.prog X.w) X.A (eval iter X.env) (λv s1=>wpAny (model X.prog X.w) X.A (pyIter v) (PIE X ae σ tg R) X.xe s1) X.xe s
def sK {M:Model}{A:Around}{E:Θ2}{s:Shared}{tg:Expr}{it:Addr}{u:Value}{o:Obj}{n:String}{vs:Array Value}{Q:Unit->Shared->Prop}(ho:s.heap.get? it=some o)(hc:o.cls=.type n)(hd:o.data=.fields vs)
  (hn:["enumerate","zip","dict_itemiterator","dict_reverseitemiterator","odict_iterator","itertools.zip_longest","itertools.pairwise"].contains n=false) (hQ:Q () s):wpAny M A (letOwnedTupleGo tg (.ref it) u) Q E s:=by
 unfold letOwnedTupleGo;cases tg<;>first
  |exact wpAny_pure hQ
  |(cases u<;>first
    |exact wpAny_pure hQ
    |(refine Za (wpAny_load ho ?_);rw[hc,hd];show wpAny M A (if (["enumerate","zip","dict_itemiterator","dict_reverseitemiterator","odict_iterator","itertools.zip_longest","itertools.pairwise"].contains n&&vs[0]? == some (rawInt _))=true then _ else _) Q E s;rw[if_neg (by intro h;rw[hn,Bool.false_and] at h;cases h)];exact wpAny_pure hQ))
def zk (K:Θ1)(a:Addr):It :=
 ⟨λi H=>∃xs x,bD K H a xs/\xs[i]?=some x,λi H x H'=>H'=H/\∀xs,bD K H a xs->xs[i]?=some x,λi H=>∃xs,bD K H a xs/\xs.length<=i⟩
def zj (K:Θ1)(a:Addr):It :=
 ⟨λi H=>∃xs x,aM K H a xs/\xs[i]?=some x,λi H x H'=>H'=H/\∀xs,aM K H a xs->xs[i]?=some x,λi H=>∃xs,aM K H a xs/\xs.length<=i⟩
def QR (lo:Int)(n:Nat):It:=⟨λi _=>i<n,λi H x H'=>H'=H/\x=.int (lo+i),λi _=>n<=i⟩
def oU {P:Program}{w:World}{K:Θ1}{tg:Expr}(a it:Addr):Turn P w K tg (zk K a) [it] it (λi h=>h.IsListIter it a i) where
 mem:=by simp
 obj:=λi h st b hb=>by
  have e:b=it:=by simpa using hb
  subst e;obtain⟨o,e,c,d⟩:=st;exact⟨o,e,λv z=>by rw[d] at z;cases z⟩
 keep:=λi h h' st k=>st.at λo e=>k it (by simp) o e
 item:=by
  intro X hP hw hK hc i ae s σ H E I hf st hg;subst hP hw hK;obtain⟨xs,x,hq,hx⟩:=hg;obtain⟨its,rv,p,hz⟩:=I.list hq;obtain⟨u,hu,ru⟩:=rv.get hx;obtain⟨f0,f1,f2,f3,f4,f5⟩:=hf it (by simp);refine wpAny_pyNext_list_item st p.isList (x:=u) (by simpa using hu) λh' rL sb=>?_
  have I1:Inv X ae σ H { s with heap:=h' }:=I.turned (t':=s.toks) (λb o hb e=>(sb.2 b hb).trans e) f0 f1 f3 f4 f5;obtain⟨o,e,c,d⟩:=id rL;exact⟨u,rfl,sK (s:={ s with heap:=h' }) e c d (by decide) ⟨x,H,I1,ru,⟨rfl,λys hy=>by rw[I.tN hy hq];exact hx⟩,rL,λb hb=>(hf b hb).1⟩⟩
 done:=by
  intro X hP hw hK hc i ae s σ H E I hf st hg;subst hP hw hK;obtain⟨xs,hq,hx⟩:=hg;obtain⟨its,rv,p,hz⟩:=I.list hq;obtain⟨f0,f1,f2,f3,f4,f5⟩:=hf it (by simp);have hl:=rv.length;exact wpAny_pyNext_list_end (I.ok.hd hc) st p.isList (by simp;omega) λh' eb=>⟨rfl,I.turned (t':=s.toks) (λb o hb e=>eb b o hb e) f0 f1 f3 f4 f5⟩
 self:=λ_ _ _ _ _ st h=>wpAny_pyIter_listiter st h
def nL {P:Program}{w:World}{K:Θ1}{tg:Expr}(a it:Addr):Turn P w K tg (zj K a) [it] it (λi h=>h.IsTupleIter it a i) where
 mem:=by simp
 obj:=λi h st b hb=>by
  have e:b=it:=by simpa using hb
  subst e;obtain⟨o,e,c,d⟩:=st;exact⟨o,e,λv z=>by rw[d] at z;cases z⟩
 keep:=λi h h' st k=>st.at λo e=>k it (by simp) o e
 item:=by
  intro X hP hw hK hc i ae s σ H E I hf st hg;subst hP hw hK;obtain⟨xs,x,hq,hx⟩:=hg;obtain⟨its,rv,p,hz⟩:=I.tuple hq;obtain⟨u,hu,ru⟩:=rv.get hx;obtain⟨f0,f1,f2,f3,f4,f5⟩:=hf it (by simp);refine wpAny_pyNext_tuple_item st (show s.heap.IsTuple a its.toArray from p) (x:=u) (by simpa using hu) λh' rL sb=>?_
  have I1:Inv X ae σ H { s with heap:=h' }:=I.turned (t':=s.toks) (λb o hb e=>(sb.2 b hb).trans e) f0 f1 f3 f4 f5;obtain⟨o,e,c,d⟩:=id rL;exact⟨u,rfl,sK (s:={ s with heap:=h' }) e c d (by decide) ⟨x,H,I1,ru,⟨rfl,λys hy=>by rw[I.iW hy hq];exact hx⟩,rL,λb hb=>(hf b hb).1⟩⟩
 done:=by
  intro X hP hw hK hc i ae s σ H E I hf st hg;subst hP hw hK;obtain⟨xs,hq,hx⟩:=hg;obtain⟨its,rv,p,hz⟩:=I.tuple hq;obtain⟨f0,f1,f2,f3,f4,f5⟩:=hf it (by simp);have hl:=rv.length;exact wpAny_pyNext_tuple_end (I.ok.hd hc) st (show s.heap.IsTuple a its.toArray from p) (by simp;omega) λh' eb=>⟨rfl,I.turned (t':=s.toks) (λb o hb e=>eb b o hb e) f0 f1 f3 f4 f5⟩
 self:=λ_ _ _ _ _ st h=>wpAny_pyIter_tupleiter st h
def vI {P:Program}{w:World}{K:Θ1}{tg:Expr}(it:Addr)(lo:Int)(n:Nat):Turn P w K tg (QR lo n) [it] it (λi h=>IsRangeIter h it (lo+(i:Nat)*1) ((n:Int)-(i:Nat)) 1) where
 mem:=by simp
 obj:=λi h st b hb=>by
  have e:b=it:=by simpa using hb
  subst e;exact⟨_,st,λv z=>by
   have z':Data.fields _=Data.cell v:=z;cases z'⟩
 keep:=λi h h' st k=>k it (by simp) _ st
 item:=by
  intro X hP hw hK hc i ae s σ H E I hf st hg;subst hP hw hK;obtain⟨f0,f1,f2,f3,f4,f5⟩:=hf it (by simp);have W:=Walks.range (prog:=X.prog) (w:=X.w) (I.ok.hd hc) it lo 1 n;refine W.item i s _ _ hg st λv h' tk hv rL kk=>?_
  obtain⟨t,rfl⟩:=hv;have I1:Inv X ae σ H { s with heap:=h',toks:=tk }:=I.turned (λb o hb e=>kk b o (by simpa using hb) e) f0 f1 f3 f4 f5;refine⟨_,rfl,sK (s:={ s with heap:=h',toks:=tk }) (n:="range_iterator") rL rfl rfl (by decide) ⟨.int (lo+i),H,I1,⟨t,?_⟩,⟨rfl,rfl⟩,rL,λb hb=>(hf b hb).1⟩⟩;rw[Int.mul_one]
 done:=by
  intro X hP hw hK hc i ae s σ H E I hf st hg;subst hP hw hK;obtain⟨f0,f1,f2,f3,f4,f5⟩:=hf it (by simp);exact wpAny_pyNext_range_end (I.ok.hd hc) st (by have:n<=i:=hg;omega) λh' eb=>⟨rfl,I.turned (t':=s.toks) (λb o hb e=>eb b o hb e) f0 f1 f3 f4 f5⟩
 self:=λ_ _ _ _ _ st h=>wpAny_pyIter_rangeiter st h
section
variable {X:Cx}{tg:Expr}
def TF (K:Θ1)(tl:TE):TI:=λσ H R=>tl σ H λx H1=>∃a,x=.ref a/\(∃xs,bD K H1 a xs)/\R (zk K a) H1
def ZU (K:Θ1)(tl:TE):TI:=λσ H R=>tl σ H λx H1=>∃a,x=.ref a/\(∃xs,aM K H1 a xs)/\R (zj K a) H1
def DV {ae:Γ2}{σ:St}{H:Hp}{s:Shared}{R:It->Hp->Prop}{E:Θ2}{lo hi:Int}{t u v:Tok}{tk:Nat}(I:Inv X ae σ H s)(h1:-(2 ^ 62)<=lo)(h2:lo<2 ^ 62)(h3:-(2 ^ 62)<=hi)(h4:hi<2 ^ 62)
  (q:R (QR lo (hi-lo).toNat) H):wpAny (model X.prog X.w) X.A (pyIter (.ref s.heap.objs.size)) (PIE X ae σ tg R) E { s with heap:=s.heap.push { cls:=.type "range",data:=.fields #[.int lo t,.int hi u,.int 1 v] },toks:=tk }:=by
 refine wpAny_pyIter_range (IsRange.new ..) (small_one h1 h2 h3 h4) ?_;have I1:Inv X ae σ H { s with heap:=s.heap.push { cls:=.type "range",data:=.fields #[.int lo t,.int hi u,.int 1 v] },toks:=tk }:=I.kept λb o e=>Zj _ e
 refine⟨(s.heap.push { cls:=.type "range",data:=.fields #[.int lo t,.int hi u,.int 1 v] }).objs.size,[(s.heap.push { cls:=.type "range",data:=.fields #[.int lo t,.int hi u,.int 1 v] }).objs.size],_,_,H,rfl,
  I1.kept (t':=tk) λb o e=>Zj _ e,vI _ lo (hi-lo).toNat,?_,λb hb=>?_,q⟩
 .have e1:lo+((0:Nat):Int)*1=lo:=by simp
  have e2:(((hi-lo).toNat:Nat):Int)-((0:Nat):Int)=Builtin.Range.rangeSize lo hi 1:=by rw[rangeSize_one];split<;>omega
  show IsRangeIter _ _ (lo+((0:Nat):Int)*1) ((((hi-lo).toNat:Nat):Int)-((0:Nat):Int)) 1;rw[e1,e2];exact Zy _ rfl
 .have e:b=(s.heap.push { cls:=.type "range",data:=.fields #[.int lo t,.int hi u,.int 1 v] }).objs.size:=by simpa using hb
  subst e;exact I1.gB (Ze _) (I1.bP.fresh (Ze _))
def TD (ta:TA):TI:=λσ H R=>ta σ H λvs H1=>∃j:Int,vs=[.int j]/\-(2 ^ 62)<=j/\j<2 ^ 62/\R (QR 0 j.toNat) H1
def ph {a:Expr}{ta:TA}{p pos:Pos}(hg:Gl X "range")(hm:X.mg "range"=none)(ha:PA X [a] ta)(hs:starEach [a] X.env=[(false,eval a X.env)]:=by rfl):PI X tg (.Call (.Name "range" p) [a] [] pos) (TD ta):=by
 intro ae s σ H R I h;refine Call_ (fH I hg hm boot_range (PyProof.Rows.callWith_type1 (bp (ha pos ae s σ H _ I h) λus s1 ⟨vs,H1,I1,r1,q1⟩=>?_) hs rfl));obtain⟨j,e,q1,q2,q⟩:=q1;subst e;cases r1 with
 |cons r rr =>
  cases rr
  obtain⟨t,rfl⟩:=r;exact call_range_1 (DV I1 (by omega) (by omega) q1 q2 (by simpa using q))
def YM (wi:TI)(g:TG)(tb:TS):TS:=λD σ H=>wi σ H λJ H1=>∃W:Nat->Nat->St->Hp->Prop,(∃m,W 0 m σ H1)/\∀i m σ H,W i m σ H ->
 (J.stop i H/\D.nx σ H)\/(J.go i H/\∃N:St->Hp->Prop,(∀aB H',N aB H'->∃m',m'<m/\W (i+1) m' aB H')/\∀x H',J.uA i H x H'->g x σ H' λcv H2=>tb { D with nx:=N,ct:=N,bk:=D.nx } cv H2)
def dY (fp:List Addr)(h:Heap):Γ2:=fp.filterMap λb=>(h.get? b).map λo=>(b,o)
def A9 {fp:List Addr}{h:Heap}{b:Addr}{o:Obj}(hb:b∈fp)(e:h.get? b=some o):(b,o)∈dY fp h:=List.mem_filterMap.mpr ⟨b,hb,by rw[e];rfl⟩
def Aj {fp:List Addr}{h:Heap}{p:Addr×Obj}(hp:p∈dY fp h):p.1∈fp/\h.get? p.1=some p.2:=by
 obtain⟨b,hb,e⟩:=List.mem_filterMap.mp hp;cases q:h.get? b with
 |none=>rw[q] at e;cases e
 |some o =>
  rw[q] at e;have e':(b,o)=p:=Option.some.inj e;subst e';exact⟨hb,q⟩
def Inv.pinned {ae:Γ2}{σ:St}{H:Hp}{s:Shared}{fp:List Addr}(I:Inv X ae σ H s)(hf:∀b∈fp,dh X ae H b)(ho:∀b∈fp,∃o,s.heap.get? b=some o/\∀v,o.data≠.cell v):Inv X (ae++dY fp s.heap) σ H s :=
 I.lU λp hp=>(Z0.mp hp).elim (λz=>I.pin p (Zt _ z)) λz=>by
  obtain⟨hb,e⟩:=Aj z;obtain⟨f0,f1,f2,_⟩:=hf p.1 hb;obtain⟨o,e',d⟩:=ho p.1 hb;rw[e] at e';cases e';exact⟨e,f0,f1,f2,d⟩
def Inv.cX {ae pl:Γ2}{σ:St}{H:Hp}{s:Shared}(I:Inv X (ae++pl) σ H s):Inv X ae σ H s:=I.lU λp hp=>I.pin p (Zt _ (Xb _ hp))
def mY {iter:Expr}{body:List Stmt}{wi:TI}{g:TG}{tb:TS}{pos:Pos}(hp:PassesOwn (model X.prog X.w) X.A X.env X.xe)(hc:X.calm=true)(hi:PI X tg iter wi)(hg:PG X tg g)(hb:jb X body tb)
  (hs:∀x,foldedSetIterable iter X.env x=pure x:=by intro _;rfl):PS X (.For tg iter body [] pos) (YM wi g tb):=by
 intro ae s σ H D I h;refine wpAny_For (bp (hi ae s σ H _ I h) λv s1 h1=>bp h1 λFw s2 h2=>?_) hs;obtain⟨it,fp,tn,J,H2,e,I2,T,eO,f2,W,⟨m0,w0⟩,eS⟩:=h2;subst e;have gy:∀{H':Hp},(∀b∈fp,H' b=none)->∀b∈fp,dh X ae H' b:=λhn b hb=>⟨hn b hb,(f2 b hb).2⟩
 refine codeAny_forLoop_any (λn s'=>∃i aB H',Inv X ae aB H' s'/\tn i s'.heap/\(∀b∈fp,H' b=none)/\W i n aB H') ?_ m0 ⟨0,σ,H2,I2,eO,λb hb=>(f2 b hb).1,w0⟩;rintro n s3 ⟨i,gQ,H3,I3,OZ,fr3,w3⟩;rcases eS i n gQ H3 w3 with ⟨stop,qn⟩ |⟨go,N,hN,step⟩
 .refine wpAny_passesOwn hp (bp (T.done X rfl rfl rfl hc i ae s3 gQ H3 X.xe I3 (gy fr3) OZ stop) λr s4 ⟨hr,I4⟩=>?_);subst hr;exact wpAny_execs_nil ⟨gQ,H3,I4,qn⟩
 .refine wpAny_passesOwn hp (bp (T.item X rfl rfl rfl hc i ae s3 gQ H3 X.xe I3 (gy fr3) OZ go) λr s4 ⟨u,hr,h4⟩=>?_);subst hr;refine wpAny_passesOwn hp (bp h4 λ_ s5 ⟨x,H5,I5,r5,y5,kE,zd⟩=>?_);have I5':=I5.pinned (gy zd) (T.obj _ _ kE);refine wpAny_passesOwn hp (bp (hg _ s5 gQ H5 x u _ I5' r5 (step x H5 y5)) λ_ s6 ⟨σ6,H6,I6,q6⟩=>?_);refine wpAny_passesOwn hp (bp (hb _ s6 σ6 H6 _ I6 q6) λf s7 q7=>?_);have again:∀{yU:St}{H7:Hp},Inv X (ae++dY fp s5.heap) yU H7 s7->N yU H7->∃m,m<n/\∃i aB H',Inv X ae aB H' s7/\tn i s7.heap/\(∀b∈fp,H' b=none)/\W i m aB H':=λ{yU H7} I7 n7=>by
   obtain⟨m',hm,w7⟩:=hN yU H7 n7;refine⟨m',hm,i+1,yU,H7,I7.cX,T.keep _ _ _ kE λb hb o e=>(I7.pin (b,o) (Zt _ (Zt _ (A9 hb e)))).1,λb hb=>?_,w7⟩;obtain⟨o,e,d⟩:=T.obj _ _ kE b hb;exact(I7.pin (b,o) (Zt _ (Zt _ (A9 hb e)))).2.1
  cases f with
  |next=>obtain⟨yU,H7,I7,n7⟩:=q7;exact again I7 n7
  |cont=>obtain⟨yU,H7,I7,n7⟩:=q7;exact again I7 n7
  |brk=>obtain⟨yU,H7,I7,q7⟩:=q7;exact⟨yU,H7,I7.cX,q7⟩
  |ret v=>obtain⟨x7,yU,H7,I7,r7,q7⟩:=q7;exact⟨x7,yU,H7,I7.cX,r7,q7⟩
end
def tS {K:Θ1}{a:Addr}{xs:List V}{g:TG}{tb:TS}{D:Ends}{σ:St}{H:Hp}(Pv:Nat->St->Hp->Prop)(h0:Pv 0 σ H)(hl:∀i σ H,i<=xs.length->Pv i σ H->bD K H a xs)
  (hs:∀i x σ H,xs[i]?=some x->Pv i σ H->g x σ H λcv H2=>tb { D with nx:=Pv (i+1),ct:=Pv (i+1),bk:=D.nx } cv H2) (hd:∀σ H,Pv xs.length σ H->D.nx σ H) :
  ∃W:Nat->Nat->St->Hp->Prop,(∃m,W 0 m σ H)/\∀i m σ H,W i m σ H ->
   ((zk K a).stop i H/\D.nx σ H)\/((zk K a).go i H/\∃N:St->Hp->Prop,(∀aB H',N aB H'->∃m',m'<m/\W (i+1) m' aB H')/\∀x H',(zk K a).uA i H x H'->g x σ H' λcv H2=>tb { D with nx:=N,ct:=N,bk:=D.nx } cv H2):=by
 refine⟨λi m σ H=>m=xs.length-i/\i<=xs.length/\Pv i σ H,⟨xs.length,by simp,Z7 _,h0⟩,?_⟩;rintro i m σ H ⟨rfl,hi,p⟩;have q:=hl i σ H hi p;by_cases cg:i<xs.length
 .refine .inr ⟨⟨xs,xs[i],q,by simp[cg]⟩,Pv (i+1),λaB H' p'=>⟨xs.length-(i+1),by omega,rfl,cg,p'⟩,λx H' y=>?_⟩;obtain⟨e,y⟩:=y;subst e;exact hs i x σ _ (y xs q) p
 .have e:i=xs.length:=by omega
  subst e;exact .inl ⟨⟨xs,q,Ze _⟩,hd σ H p⟩
def IJ {K:Θ1}{a:Addr}{xs:List V}{g:TG}{tb:TS}{D:Ends}{σ:St}{H:Hp}(Pv:Nat->St->Hp->Prop)(h0:Pv 0 σ H)(hl:∀i σ H,i<=xs.length->Pv i σ H->aM K H a xs)
  (hs:∀i x σ H,xs[i]?=some x->Pv i σ H->g x σ H λcv H2=>tb { D with nx:=Pv (i+1),ct:=Pv (i+1),bk:=D.nx } cv H2) (hd:∀σ H,Pv xs.length σ H->D.nx σ H) :
  ∃W:Nat->Nat->St->Hp->Prop,(∃m,W 0 m σ H)/\∀i m σ H,W i m σ H ->
   ((zj K a).stop i H/\D.nx σ H)\/((zj K a).go i H/\∃N:St->Hp->Prop,(∀aB H',N aB H'->∃m',m'<m/\W (i+1) m' aB H')/\∀x H',(zj K a).uA i H x H'->g x σ H' λcv H2=>tb { D with nx:=N,ct:=N,bk:=D.nx } cv H2):=by
 refine⟨λi m σ H=>m=xs.length-i/\i<=xs.length/\Pv i σ H,⟨xs.length,by simp,Z7 _,h0⟩,?_⟩;rintro i m σ H ⟨rfl,hi,p⟩;have q:=hl i σ H hi p;by_cases cg:i<xs.length
 .refine .inr ⟨⟨xs,xs[i],q,by simp[cg]⟩,Pv (i+1),λaB H' p'=>⟨xs.length-(i+1),by omega,rfl,cg,p'⟩,λx H' y=>?_⟩;obtain⟨e,y⟩:=y;subst e;exact hs i x σ _ (y xs q) p
 .have e:i=xs.length:=by omega
  subst e;exact .inl ⟨⟨xs,q,Ze _⟩,hd σ H p⟩
def nq {c:TT}{tb:TS}{D:Ends}{σ:St}{H:Hp}(Pv:St->Hp->Prop)(μ : St->Hp->Nat)(h0:Pv σ H)
  (hs:∀σ H,Pv σ H->c σ H λb H1=>if b=true then tb { D with nx:=λaB H'=>Pv aB H'/\μ aB H' < μ σ H,ct:=λaB H'=>Pv aB H'/\μ aB H' < μ σ H,bk:=D.nx } σ H1 else D.nx σ H1)
  (mono:∀σ H Q Q',(∀b H1,Q b H1->Q' b H1)->c σ H Q->c σ H Q'):Cz c tb D σ H:=by
 refine⟨λm σ H=>m=μ σ H/\Pv σ H,⟨_,rfl,h0⟩,?_⟩;rintro m σ H ⟨rfl,p⟩;refine mono σ H _ _ (λb H1 q=>?_) (hs σ H p);cases b with
 |true=>exact⟨_,λaB H' ⟨p',l⟩=>⟨_,l,rfl,p'⟩,q⟩
 |false=>exact q
abbrev R2:=V->V->Hp->VK->Prop
def fj (X:Cx)(f:Value->Value->Sem Value)(r:R2):Prop :=
 ∀(ae:Γ2) (s:Shared) (σ:St) (H:Hp) (x y:V) (v u:Value) (Q:VK),Inv X ae σ H s->RelV x v->RelV y u->r x y H Q ->
  wpAny (model X.prog X.w) X.A (f v u) (EP X ae σ Q) X.xe s
def XU (X:Cx)(f:Value->Sem Value)(r:V->Hp->VK->Prop):Prop :=
 ∀(ae:Γ2) (s:Shared) (σ:St) (H:Hp) (x:V) (v:Value) (Q:VK),Inv X ae σ H s->RelV x v->r x H Q ->
  wpAny (model X.prog X.w) X.A (f v) (EP X ae σ Q) X.xe s
def bZ (X:Cx)(f:Value)(r:List V->Hp->VK->Prop):Prop :=
 ∀(ae:Γ2) (s:Shared) (σ:St) (H:Hp) (xs:List V) (us:Δ3) (Q:VK),Inv X ae σ H s->aY xs us->r xs H Q ->
  wpAny (model X.prog X.w) X.A (call f us) (EP X ae σ Q) X.xe s
def υ (X:Cx)(r:V->Hp->(Bool->Hp->Prop)->Prop):Prop :=
 ∀(ae:Γ2) (s:Shared) (σ:St) (H:Hp) (x:V) (v:Value) (Q:Bool->Hp->Prop),Inv X ae σ H s->RelV x v->r x H Q ->
  wpAny (model X.prog X.w) X.A (truthy v) (TP X ae σ Q) X.xe s
def Kq (r:R2)(ta tb:TE):TE:=λσ H Q=>ta σ H λx H1=>tb σ H1 λy H2=>r x y H2 Q
def tUn (r:V->Hp->VK->Prop)(ta:TE):TE:=λσ H Q=>ta σ H λx H1=>r x H1 Q
def rI (C:Int->Int->Prop)(g:Int->Int->V):R2:=λx y H Q=>∃i j,x=.int i/\y=.int j/\C i j/\Q (g i j) H
def EV (g:Int->Int->V):R2:=λx y H Q=>∃i j,x=.int i/\y=.int j/\Q (g i j) H
def rU (g:Int->V):V->Hp->VK->Prop:=λx H Q=>∃i,x=.int i/\Q (g i) H
section
variable {X:Cx}{a b c:Expr}{ta tb tc:TE}{pos:Pos}
def LZ (ha:PE X a ta)(hb:PE X b tb){ae:Γ2}{s:Shared}{σ:St}{H:Hp}{R:V->V->Hp->Prop}(I:Inv X ae σ H s)
  (h:ta σ H λx H1=>tb σ H1 λy H2=>R x y H2) {Q:Θ2}{f:Value->Value->Sem Value}
  (hf:∀v u s2 x y H2,Inv X ae σ H2 s2->RelV x v->RelV y u->R x y H2->wpAny (model X.prog X.w) X.A (f v u) Q X.xe s2) :
  wpAny (model X.prog X.w) X.A (eval a X.env) (λv br=>wpAny (model X.prog X.w) X.A (eval b X.env) (λu cr=>wpAny (model X.prog X.w) X.A (f v u) Q X.xe cr) X.xe br) X.xe s:=by
 refine bp (ha ae s σ H _ I h) λv s1 ⟨x,H1,I1,r1,q1⟩=>?_
 refine bp (hb ae s1 σ H1 _ I1 q1) λu s2 ⟨y,H2,I2,r2,q2⟩=>?_
 exact hf v u s2 x y H2 I2 r1 r2 q2
def cY {op:Operator}{r:R2}(ho:fj X (binaryOp op) r)(ha:PE X a ta)(hb:PE X b tb):PE X (.BinOp a op b pos) (Kq r ta tb):=by
 intro ae s σ H Q I h;exact wpAny_BinOp (LZ ha hb I h λv u s2 x y H2 I2 rx ry q=>ho ae s2 σ H2 x y v u Q I2 rx ry q)
def JM {op:UnaryOp}{r:V->Hp->VK->Prop}(ho:XU X (unaryOp op) r)(ha:PE X a ta):PE X (.UnaryOp op a pos) (tUn r ta):=by
 intro ae s σ H Q I h;exact UnaryOp_ (bp (ha ae s σ H _ I h) λv s1 ⟨x,H1,I1,r1,q1⟩=>ho ae s1 σ H1 x v Q I1 r1 q1)
def IZ {f:Value->Value->Sem Value}{C:Int->Int->Prop}{g:Int->Int->Int}
  (rule:∀(i j:Int) (t u:Tok) (s:Shared) (Q:Θ2) (E:Θ2),C i j->Q (.int (g i j) s.toks) { s with toks:=s.toks+1 }->wpAny (model X.prog X.w) X.A (f (.int i t) (.int j u)) Q E s) :
  fj X f (rI C λi j=>.int (g i j)):=by
 intro ae s σ H x y v u Q I rx ry h;obtain⟨i,j,rfl,rfl,hc,q⟩:=h;obtain⟨t,rfl⟩:=rx;obtain⟨t',rfl⟩:=ry;exact rule i j t t' s _ _ hc ⟨.int (g i j),H,I.tok _,⟨_,rfl⟩,q⟩
def Ry {f:Value->Value->Sem Value}{g:Int->Int->Int}
  (rule:∀(i j:Int) (t u:Tok) (s:Shared) (Q:Θ2) (E:Θ2),Q (.int (g i j) s.toks) { s with toks:=s.toks+1 }->wpAny (model X.prog X.w) X.A (f (.int i t) (.int j u)) Q E s) :
  fj X f (EV λi j=>.int (g i j)):=by
 intro ae s σ H x y v u Q I rx ry h;obtain⟨i,j,rfl,rfl,q⟩:=h;obtain⟨t,rfl⟩:=rx;obtain⟨t',rfl⟩:=ry;exact rule i j t t' s _ _ ⟨.int (g i j),H,I.tok _,⟨_,rfl⟩,q⟩
def Ly {f:Value->Value->Sem Value}{g:Int->Int->Bool}
  (rule:∀(i j:Int) (t u:Tok) (s:Shared) (Q:Θ2) (E:Θ2),Q (.bool (g i j)) s->wpAny (model X.prog X.w) X.A (f (.int i t) (.int j u)) Q E s) :
  fj X f (EV λi j=>.bl (g i j)):=by
 intro ae s σ H x y v u Q I rx ry h;obtain⟨i,j,rfl,rfl,q⟩:=h;obtain⟨t,rfl⟩:=rx;obtain⟨t',rfl⟩:=ry;exact rule i j t t' s _ _ ⟨.bl (g i j),H,I,rfl,q⟩
def Γ (i j:Int):Prop:=0<j/\j<1073741824
def ω (i j:Int):Prop:=0<=j/\j<=1000000/\i.natAbs<2 ^ 64
def MC (i j:Int):Prop:=(-(2 ^ 64)<i/\i<2 ^ 64)\/(-(2 ^ 64)<j/\j<2 ^ 64)
def MC.ok {i j:Int}(h:MC i j):IntMulOk i j:=by
 rcases h with ⟨h1,h2⟩ |⟨h1,h2⟩
 .exact .of_left (intBits_le_64 h1 h2)
 .exact .of_right (intBits_le_64 h1 h2)
def dj:fj X (binaryOp .Add) (EV λi j=>.int (i+j)):=Ry λ_ _ _ _ _ _ _ q=>add_int q
def vm:fj X (binaryOp .Sub) (EV λi j=>.int (i-j)):=Ry λ_ _ _ _ _ _ _ q=>sub_int q
def iC:fj X (binaryOp .Mult) (rI MC λi j=>.int (i*j)):=IZ λ_ _ _ _ _ _ _ hc q=>mul_int q hc.ok
def qR:fj X (binaryOp .FloorDiv) (rI Γ λi j=>.int (i / j)):=IZ λi j _ _ _ _ _ hc q=>by
 have h1:(0:Int)<j:=hc.1;have h2:j<1073741824:=hc.2;exact floordiv_int (by omega) (by rw[Qo i (by omega)];exact q) (.inl (PyProof.noPylong_small (by omega)))
def gG:fj X (binaryOp .Mod) (rI (λ_ j=>0<j) λi j=>.int (i % j)):=IZ λi j _ _ _ _ _ hc q=>by
 have h1:(0:Int)<j:=hc;exact mod_int' (by omega) (by rw[Int.fmod_eq_emod_of_nonneg i (by omega)];exact q)
def yi:fj X (binaryOp .Mod) (rI (λ_ j=>j≠0) λi j=>.int (i.fmod j)):=IZ λ_ _ _ _ _ _ _ hc q=>mod_int' hc q
def mZ:fj X (binaryOp .Pow) (rI ω λi j=>.int (i ^ j.toNat)):=IZ λ_ _ _ _ _ _ _ hc q=>pow_int_small hc.1 hc.2.1 hc.2.2 q
def unI {f:Value->Sem Value}{g:Int->Int}
  (rule:∀(i:Int) (t:Tok) (s:Shared) (Q:Θ2) (E:Θ2),Q (.int (g i) s.toks) { s with toks:=s.toks+1 }->wpAny (model X.prog X.w) X.A (f (.int i t)) Q E s) :
  XU X f (rU λi=>.int (g i)):=by
 intro ae s σ H x v Q I rx h;obtain⟨i,rfl,q⟩:=h;obtain⟨t,rfl⟩:=rx;exact rule i t s _ _ ⟨.int (g i),H,I.tok _,⟨_,rfl⟩,q⟩
def Cv:XU X (unaryOp .USub) (rU λi=>.int (-i)):=unI λ_ _ _ _ _ q=>neg_int q
end
def Ro:V->V->Bool
 |.bV,.bV=>true |.bV,.int _=>true |.int _,.bV=>true |.bV,.bl _=>true |.bl _,.bV=>true |.bV,.str _=>true |.str _,.bV=>true
 |.int _,.int _=>true |.bl _,.bl _=>true |.str _,.str _=>true |.zf _,.zf _=>true
 |.int _,.str _=>true |.str _,.int _=>true |.bl _,.str _=>true |.str _,.bl _=>true
 |_,_=>false
def rEq:R2:=λx y H Q=>Ro x y=true/\Q (.bl (decide (x=y))) H
def rNe:R2:=λx y H Q=>Ro x y=true/\Q (.bl (!decide (x=y))) H
def yN {i j:Int}:decide (V.int i=V.int j)=(i == j):=by
 rw[Yc];simp
def Du {i j:Bool}:decide (V.bl i=V.bl j)=(i == j):=by
 rw[Yc];simp
def yM {i j:Str}:decide (V.str i=V.str j)=(i == j):=by
 rw[Yc];simp
def yO {i j:Array UInt8}:decide (V.zf i=V.zf j)=(i.toList == j.toList):=by
 rw[Yc];cases i;cases j;simp
section
variable {X:Cx}{a b c:Expr}{ta tb tc:TE}{pos:Pos}
def ju {ae:Γ2}{σ:St}{H:Hp}{s:Shared}{Q:VK}{k k':Bool}(I:Inv X ae σ H s)(q:Q (.bl k) H)(e:k=k'):EP X ae σ Q (.bool k') s:=by
 subst e;exact⟨.bl k,H,I,rfl,q⟩
def mL:fj X (compareOp .Eq) rEq:=by
 intro ae s σ H x y v u Q I rx ry h;obtain⟨hs,q⟩:=h;cases x with
 |bV =>
  cases rx
  cases y with
  |bV=>cases ry;exact PySem.EqNone.eq_none_none (ju I q (by simp))
  |bl j=>cases ry;exact PySem.EqNone.eq_none_bool (ju I q (by simp))
  |int j=>obtain⟨t',rfl⟩:=ry;exact PySem.EqNone.eq_none_int (ju I q (by simp))
  |str j=>obtain⟨t',rfl⟩:=ry;exact PySem.EqNone.eq_none_str (ju I q (by simp))
  |_=>exact absurd (show false=true from hs) Z4
 |bl i =>
  cases rx
  cases y with
  |bV=>cases ry;exact PySem.EqNone.eq_bool_none (ju I q (by simp))
  |bl j=>cases ry;exact eq_bool (ju I q Du)
  |str j=>obtain⟨t',rfl⟩:=ry;exact PySem.EqMixed.eq_bool_str (ju I q (by simp))
  |_=>exact absurd (show false=true from hs) Z4
 |int i =>
  obtain⟨t,rfl⟩:=rx;cases y with
  |bV=>cases ry;exact PySem.EqNone.eq_int_none (ju I q (by simp))
  |int j=>obtain⟨t',rfl⟩:=ry;exact eq_int (ju I q yN)
  |str j=>obtain⟨t',rfl⟩:=ry;exact PySem.EqMixed.eq_int_str (ju I q (by simp))
  |_=>exact absurd (show false=true from hs) Z4
 |str i =>
  obtain⟨t,rfl⟩:=rx;cases y with
  |bV=>cases ry;exact PySem.EqNone.eq_str_none (ju I q (by simp))
  |bl j=>cases ry;exact PySem.EqMixed.eq_str_bool (ju I q (by simp))
  |int j=>obtain⟨t',rfl⟩:=ry;exact PySem.EqMixed.eq_str_int (ju I q (by simp))
  |str j=>obtain⟨t',rfl⟩:=ry;exact eq_str (ju I q yM)
  |_=>exact absurd (show false=true from hs) Z4
 |zf i =>
  obtain⟨t,rfl⟩:=rx;cases y with
  |zf j=>obtain⟨t',rfl⟩:=ry;exact PySem.W.eq_bytes (ju I q yO)
  |_=>exact absurd (show false=true from hs) Z4
 |_=>cases y<;>exact absurd (show false=true from hs) Z4
def sA:fj X (compareOp .NotEq) rNe:=by
 intro ae s σ H x y v u Q I rx ry h;obtain⟨hs,q⟩:=h;cases x with
 |bV =>
  cases rx
  cases y with
  |bV=>cases ry;exact PySem.EqNone.ne_none_none (ju I q (by simp))
  |bl j=>cases ry;exact PySem.EqNone.ne_none_bool (ju I q (by simp))
  |int j=>obtain⟨t',rfl⟩:=ry;exact PySem.EqNone.ne_none_int (ju I q (by simp))
  |str j=>obtain⟨t',rfl⟩:=ry;exact PySem.EqNone.ne_none_str (ju I q (by simp))
  |_=>exact absurd (show false=true from hs) Z4
 |bl i =>
  cases rx
  cases y with
  |bV=>cases ry;exact PySem.EqNone.ne_bool_none (ju I q (by simp))
  |bl j=>cases ry;exact ne_bool (ju I q (congrArg not Du))
  |str j=>obtain⟨t',rfl⟩:=ry;exact PySem.EqMixed.ne_bool_str (ju I q (by simp))
  |_=>exact absurd (show false=true from hs) Z4
 |int i =>
  obtain⟨t,rfl⟩:=rx;cases y with
  |bV=>cases ry;exact PySem.EqNone.ne_int_none (ju I q (by simp))
  |int j=>obtain⟨t',rfl⟩:=ry;exact ne_int (ju I q (congrArg not yN))
  |str j=>obtain⟨t',rfl⟩:=ry;exact PySem.EqMixed.ne_int_str (ju I q (by simp))
  |_=>exact absurd (show false=true from hs) Z4
 |str i =>
  obtain⟨t,rfl⟩:=rx;cases y with
  |bV=>cases ry;exact PySem.EqNone.ne_str_none (ju I q (by simp))
  |bl j=>cases ry;exact PySem.EqMixed.ne_str_bool (ju I q (by simp))
  |int j=>obtain⟨t',rfl⟩:=ry;exact PySem.EqMixed.ne_str_int (ju I q (by simp))
  |str j=>obtain⟨t',rfl⟩:=ry;exact ne_str (ju I q (congrArg not yM))
  |_=>exact absurd (show false=true from hs) Z4
 |zf i =>
  obtain⟨t,rfl⟩:=rx;cases y with
  |zf j=>obtain⟨t',rfl⟩:=ry;exact PySem.W.ne_bytes (ju I q (congrArg not yO))
  |_=>exact absurd (show false=true from hs) Z4
 |_=>cases y<;>exact absurd (show false=true from hs) Z4
def sB:fj X (compareOp .Lt) (EV λi j=>.bl (decide (i<j))):=Ly λ_ _ _ _ _ _ _ q=>lt_int q
def jm:fj X (compareOp .Gt) (EV λi j=>.bl (decide (j<i))):=Ly λ_ _ _ _ _ _ _ q=>gt_int q
def Tl:fj X (compareOp .GtE) (EV λi j=>.bl (decide (j<=i))):=Ly λ_ _ _ _ _ _ _ q=>ge_int q
def yh:fj X (compareOp .IsNot) (λx y H Q=>y=.bV/\Q (.bl (!decide (x=.bV))) H):=by
 intro ae s σ H x y v u Q I rx ry h;obtain⟨rfl,q⟩:=h;cases ry;refine isnot_none_gen (ju I q ?_);cases x<;>first
  |(cases rx;rfl)
  |(obtain⟨t,rfl⟩:=rx;rfl)
def fj.or {f:Value->Value->Sem Value}{r r':R2}(h:fj X f r)(h':fj X f r'):fj X f (λx y H Q=>r x y H Q\/r' x y H Q):=by
 intro ae s σ H x y v u Q I rx ry q;rcases q with q |q
 .exact h ae s σ H x y v u Q I rx ry q
 .exact h' ae s σ H x y v u Q I rx ry q
def aQ (b:Expr){op:CmpOp}(h:op≠.In:=by decide)(h2:op≠.NotIn:=by decide):behindInMarks op b=false:=by
 have e1:(op == CmpOp.In)=false:=by cases op<;>first |rfl |exact absurd rfl h
 have e2:(op == CmpOp.NotIn)=false:=by cases op<;>first |rfl |exact absurd rfl h2
 cases b<;>simp[behindInMarks,e1,e2]
def gK {op:CmpOp}{r:R2}(ho:fj X (compareOp op) r)(ha:PE X a ta)(hb:PE X b tb)(hm:behindInMarks op b=false):PE X (.Compare a [op] [b] pos) (Kq r ta tb):=by
 intro ae s σ H Q I h;exact wpAny_Compare1 (LZ ha hb I h λv u s2 x y H2 I2 rx ry q=>ho ae s2 σ H2 x y v u Q I2 rx ry q) hm
def Js (t:TE):TT:=λσ H Q=>t σ H λx H'=>∃k,x=.bl k/\Q k H'
def oJ {op:CmpOp}{r:R2}(ho:fj X (compareOp op) r)(ha:PE X a ta)(hb:PE X b tb)(hm:behindInMarks op b=false):PT X (.Compare a [op] [b] pos) (Js (Kq r ta tb)):=by
 intro ae s σ H Q I h;refine wpAny_isTrue_Compare1 (bp (ha ae s σ H _ I h) λv s1 ⟨x,H1,I1,r1,q1⟩=>bp (hb ae s1 σ H1 _ I1 q1) λu s2 ⟨y,H2,I2,r2,q2⟩ =>
  bp (ho ae s2 σ H2 x y v u _ I2 r1 r2 q2) λc s3 ⟨z,H3,I3,r3,k,e,q3⟩=>?_) hm
 subst e;cases r3;exact wpAny_truthy_bool ⟨H3,I3,q3⟩
def Sr (K:Θ1)(x:V)(H:Hp)(k:Bool):Prop :=
 match x with
 |.bV=>k=false
 |.bl b=>k=b
 |.int i=>k=(i != 0)
 |.str y=>y.length<=sizeLine/\k=((y.length:Int) != 0)
 |.zf y=>y.size<=sizeLine/\k=((y.size:Int) != 0)
 |.ref p=>(∃xs,bD K H p xs/\k=!xs.isEmpty)\/(∃xs,aM K H p xs/\k=!xs.isEmpty)\/∃kvs,H p=some (.dK kvs)/\k=!kvs.isEmpty
 |_=>False
def wz {κ : Type}{kvs:List (κ × V)}{vs:List (κ × Value)}(r:KV kvs vs):(!vs.isEmpty)=!kvs.isEmpty:=by
 cases r<;>rfl
def nV {xs:List V}{its:Δ3}(r:aY xs its):(!its.toArray.isEmpty)=!xs.isEmpty:=by
 cases r<;>simp
def jF:(sizeLine:Nat)<2 ^ 63:=by rw[sizeLine_eq];decide
def MF:υ X (λx H Q=>∃k,Sr X.K x H k/\Q k H):=by
 intro ae s σ H x v Q I rx h;obtain⟨k,e,q⟩:=h;have hl:=jF;have hs:sizeLine=16777216:=sizeLine_eq;cases x with
 |bV =>
  cases rx
  have e':k=false:=e;subst e';exact truthy_none ⟨H,I,q⟩
 |bl b =>
  cases rx
  have e':k=b:=e;subst e';exact wpAny_truthy_bool ⟨H,I,q⟩
 |int i =>
  obtain⟨t,rfl⟩:=rx;have e':k=(i != 0):=e;subst e';exact PySem.P.truthy_int ⟨H,I,q⟩
 |str y =>
  obtain⟨t,rfl⟩:=rx;obtain⟨hy,e'⟩:y.length<=sizeLine/\k=((y.length:Int) != 0):=e;subst e';exact PySem.P.truthy_str (by omega) ⟨H,I.tok _,q⟩
 |zf y =>
  obtain⟨t,rfl⟩:=rx;obtain⟨hy,e'⟩:y.size<=sizeLine/\k=((y.size:Int) != 0):=e;subst e';exact PySem.W.truthy_bytes (by omega) ⟨H,I.tok _,q⟩
 |ref p =>
  cases rx
  have e':(∃xs,bD X.K H p xs/\k=!xs.isEmpty)\/(∃xs,aM X.K H p xs/\k=!xs.isEmpty)\/∃kvs,H p=some (.dK kvs)/\k=!kvs.isEmpty:=e;rcases e' with ⟨xs,hx,e'⟩ |⟨xs,hx,e'⟩ |⟨kvs,hx,e'⟩
  .subst e';obtain⟨its,r,pl,hz⟩:=I.list hx;have cy:=r.length;exact wpAny_truthy_list pl.isList (by simp only[Z1];omega) ⟨H,I.tok _,by rw[nV r];exact q⟩
  .subst e';obtain⟨its,r,pl,hz⟩:=I.tuple hx;have cy:=r.length;exact truthy_tuple pl (by simp only[Z1];omega) ⟨H,I.tok _,by rw[nV r];exact q⟩
  .subst e';obtain⟨hz,hS,vs,r,m⟩:kvs.length<=sizeLine/\(p == sysModules)=false/\∃vs,KV kvs vs/\s.heap.DictOf (lq X.prog X.w) p vs:=I.bP p _ hx;have cy:kvs.length=vs.length:=Paired.length r;exact wpAny_truthy_dict hS m (by omega) ⟨H,I.tok _,by rw[wz r];exact q⟩
 |_=>exact(show False from e).elim
def tu (ha:PE X a ta)(he:∀whole,isTrue a X.env whole=(do let v <- whole;standAt a.pos;holding [v] (truthy v))) :
  PT X a (λσ H Q=>ta σ H λx H'=>∃k,Sr X.K x H' k/\Q k H'):=by
 intro ae s σ H Q I h;exact isTrue_plain (bp (ha ae s σ H _ I h) λv s1 ⟨x,H1,I1,r1,q1⟩=>MF ae s1 σ H1 x v Q I1 r1 q1) (he _)
def vals1 {x:V}{us:Δ3}(r:aY [x] us):∃u,us=[u]/\RelV x u:=by
 cases r with
 |cons r1 r2=>cases r2;exact⟨_,rfl,r1⟩
def vals2 {x y:V}{us:Δ3}(r:aY [x,y] us):∃u w',us=[u,w']/\RelV x u/\RelV y w':=by
 cases r with
 |cons r1 r2 =>
  cases r2 with
  |cons r3 r4=>cases r4;exact⟨_,_,rfl,r1,r3⟩
def nG:bZ X (.builtin "abs") (λxs H Q=>∃i,xs=[.int i]/\Q (.int (if i<0 then -i else i)) H):=by
 intro ae s σ H xs us Q I r h;obtain⟨i,rfl,q⟩:=h;obtain⟨u,rfl,t,rfl⟩:=vals1 r;exact call_abs_int λu tk=>⟨.int (if i<0 then -i else i),H,I.tok _,⟨_,rfl⟩,q⟩
def AW (hc:X.calm=true):bZ X (.builtin "min") (λxs H Q=>∃i j,xs=[.int i,.int j]/\Q (.int (if j<i then j else i)) H):=by
 intro ae s σ H xs us Q I r h;obtain⟨i,j,rfl,q⟩:=h;obtain⟨u,w',rfl,⟨t,rfl⟩,⟨t',rfl⟩⟩:=vals2 r;refine min_two_ints (I.ok.hd hc) λh' tk k=>⟨_,H,I.kept k,?_,q⟩
 by_cases hj:j<i
 .rw[if_pos hj,if_pos hj];exact⟨_,rfl⟩
 .rw[if_neg hj,if_neg hj];exact⟨_,rfl⟩
def lf:bZ X (.type "int") (λxs H Q=>(∃i,xs=[.int i]/\Q (.int i) H)\/∃k,xs=[.bl k]/\Q (.int (if k then 1 else 0)) H):=by
 intro ae s σ H xs us Q I r h;rcases h with ⟨i,rfl,q⟩ |⟨k,rfl,q⟩
 .obtain⟨u,rfl,t,rfl⟩:=vals1 r;exact call_int_int ⟨.int i,H,I,⟨_,rfl⟩,q⟩
 .obtain⟨u,rfl,r1⟩:=vals1 r;cases r1;exact call_int_bool ⟨.int (if k then 1 else 0),H,I.tok _,⟨_,rfl⟩,q⟩
end
structure L8 (h:Heap)(x dx C:Addr)(mA:Θ3):Prop where
 obj:h.get? x=some (PySem.W.instObj C dx)
 ns:h.Ns1 dx mA
 ne:dx≠x
def At {h:Heap}{dx:Addr}{mA:Θ3}(n:h.Ns1 dx mA):∃od,h.get? dx=some od/\∀name,PySem.W.lookIn name od=some (mA name):=by
 obtain⟨o,es,ep,ho,hd,hk,_,hm⟩:=n;refine⟨o,ho,λname=>?_⟩;have e:=hm name;unfold nsFind findBy at e;rw[<- Array.find?_toList] at e;unfold PySem.W.lookIn;rw[hd];dsimp only;split
 .rename_i y q;rw[q] at e;exact congrArg some e
 .rename_i q;rw[q] at e;have a:es.toList.any (·.refKey)=false:=by
   rw[List.any_eq_false];intro y hy;obtain⟨z,t,sr⟩:=hk y (Array.mem_toList_iff.mp hy);simp[DictEntry.refKey,sr]
  have a':¬ es.toList.any (·.refKey)=true:=by rw[a];exact Z4
  rw[if_neg a'];exact congrArg some e
def L8.look {h:Heap}{x dx C:Addr}{mA:Θ3}(I:L8 h x dx C mA):∃od,PySem.W.InstAt h x (PySem.W.instObj C dx) C (some od)/\∀name,PySem.W.lookIn name od=some (mA name) :=
 let ⟨od,ho,hl⟩:=At I.ns
 ⟨od,⟨I.obj,rfl,rfl,ho⟩,hl⟩
section
variable {prog:Program}{w:World}{A:Around}{E:Θ2}{s:Shared}{K:Θ1}{x dx C f:Addr}{mA:Θ3}{name:Str}{v:Value}
end
def az.some_of {v:V}{o:Φ1}(r:az (some v) o):∃u,o=some u/\RelV v u:=by
 cases o with
 |none=>exact(show False from r).elim
 |some u=>exact⟨u,rfl,r⟩
section
variable {P:Program}{w:World}{H H':Hp}{h h':Heap}{a C dx:Addr}{fs fs':List (Str×V)}
def IE (bP:jN P w H h)(e:H a=some (.ins C dx fs)):∃mA,L8 h a dx C mA/\(∀f,az (fs.lookup f) (mA f))/\PySem.Within mA (fs.map (·.1))/\fs.length<=1000/\H dx=some (.own a):=by
 obtain⟨d,z,ne,ob,mA,n,r,q⟩:=(show bS P w H h a (.ins C dx fs) from bP a _ e);exact⟨mA,⟨ob,n,ne⟩,r,q,z,d⟩
end
structure YC (K:Θ1)(C:Addr):Prop where
 pg:PySem.W.plainGet K C Str.empty=true
 hd:PySem.W.hasDictIn K C=true
 po:PySem.W.plainOver K C=true
 sa:PySem.W.findIn K (.ref C) "__setattr__"=some (some (.builtin "object.__setattr__"))
def YC.get {K:Θ1}{C:Addr}(c:YC K C)(f:Str):PySem.W.plainGet K C f=true:=c.pg
section
variable {X:Cx}{ae:Γ2}{σ:St}{H:Hp}{s:Shared}{a C dx:Addr}{fs:List (Str×V)}{f:Str}{v:V}{A:Around}{E:Θ2}
end
section
variable {X:Cx}{o e value:Expr}{f:Str}{pos gz ic:Pos}{ta tv:TE}
end
section
variable {X:Cx}{ae:Γ2}{σ:St}{H:Hp}{s:Shared}{A:Around}{E:Θ2}{Q:Θ2}{c:Value}{b:Bool}
inductive ji (K:Θ1) (H:Hp):V->Value->Prop where
 |bV:ji K H .bV (.type "NoneType")
 |bl (x:Bool):ji K H (.bl x) (.type "bool")
 |int (i:Int):ji K H (.int i) (.type "int")
 |str (x:Str):ji K H (.str x) (.type "str")
 |OK (x:UInt64):ji K H (.OK x) (.type "float")
 |lst {a:Addr}{xs:List V}(e:H a=some (.lst xs)):ji K H (.ref a) (.type "list")
 |hX {a:Addr}{o:Obj}{xs:List V}(e:H a=some (.hX o (.lst xs))):ji K H (.ref a) (.type "list")
 |tup {a:Addr}{xs:List V}(e:H a=some (.tup xs)):ji K H (.ref a) (.type "tuple")
 |dK {a:Addr}{kvs:List (bJ×V)}(e:H a=some (.dK kvs)):ji K H (.ref a) (.type "dict")
 |dT {a:Addr}{kvs:List (List bJ×V)}(e:H a=some (.dT kvs)):ji K H (.ref a) (.type "dict")
 |ins {a C dx:Addr}{fs:List (Str×V)}(e:H a=some (.ins C dx fs)) (cl:YC K C) (ha:PySem.W.findIn K (.ref C) "__class__"=some (some (.builtin "object.__class__")))
   (hn:PySem.W.specialIn K (.builtin "object.__class__") "__get__"=some (some (.builtin "getset_descriptor.__get__"))) (Jd:PySem.W.takesIn K (.builtin "object.__class__")=some true)
   (hm:PySem.W.mroIn K C (.type "object")=some true):ji K H (.ref a) (.ref C)
def AA {x:V}{u t:Value}(I:Inv X ae σ H s)(rx:RelV x u)(ty:ji X.K H x t)(e:PySem.W.kitOne X.K t c=some b)(h:∀tk,Q (.bool b) { s with toks:=tk }) :
  wpAny (model X.prog X.w) A (call (.builtin "isinstance") [u,c]) Q E s:=by
 cases ty with
 |bV=>cases (show u=Value.none from rx);exact PySem.W.kia_one PySem.W.kitx_none I.rN True.intro e (λz=>nomatch z) h
 |bl y=>cases (show u=Value.bool y from rx);exact PySem.W.kia_one PySem.W.kitx_bool I.rN True.intro e (λz=>nomatch z) h
 |int i=>obtain⟨t,q⟩:=(show ∃t,u=Value.int i t from rx);cases q;exact PySem.W.kia_one PySem.W.kitx_int I.rN True.intro e (λz=>nomatch z) h
 |str y=>obtain⟨t,q⟩:=(show ∃t,u=Value.str y t from rx);cases q;exact PySem.W.kia_one PySem.W.kitx_str I.rN True.intro e (λz=>nomatch z) h
 |OK y=>obtain⟨t,q⟩:=(show ∃t,u=Value.float y t from rx);cases q;exact PySem.W.kia_one PySem.W.kitx_float I.rN True.intro e (λz=>nomatch z) h
 |@lst a xs ea =>
  cases (show u=Value.ref a from rx)
  obtain⟨_,_,n,_,h1⟩:=(show bS X.prog X.w H s.heap a (.lst xs) from I.bP a _ ea);exact PySem.W.kia_one PySem.W.kitx_list I.rN ⟨_,h1,rfl⟩ e (λz=>nomatch z) h
 |@hX a ob xs ea =>
  cases (show u=Value.ref a from rx)
  obtain⟨_,_,_,n,_,h1⟩:=(show bS X.prog X.w H s.heap a (.hX ob (.lst xs)) from I.bP a _ ea);exact PySem.W.kia_one PySem.W.kitx_list I.rN ⟨_,h1,rfl⟩ e (λz=>nomatch z) h
 |@tup a xs ea =>
  cases (show u=Value.ref a from rx)
  obtain⟨_,_,_,p⟩:=(show bS X.prog X.w H s.heap a (.tup xs) from I.bP a _ ea);obtain⟨o,h1,h2,_⟩:=p;exact PySem.W.kia_one PySem.W.kitx_tuple I.rN ⟨o,h1,h2⟩ e (λz=>nomatch z) h
 |@dK a kvs ea =>
  cases (show u=Value.ref a from rx)
  obtain⟨_,_,vs,_,p⟩:=(show bS X.prog X.w H s.heap a (.dK kvs) from I.bP a _ ea);obtain⟨o,es,ep,h1,h2,_⟩:=p;exact PySem.W.kia_one PySem.W.kitx_dict I.rN ⟨o,h1,h2.1⟩ e (λz=>nomatch z) h
 |@dT a kvs ea =>
  cases (show u=Value.ref a from rx)
  obtain⟨_,_,xs,_,o,es,ep,h1,h2,_⟩:=(show bS X.prog X.w H s.heap a (.dT kvs) from I.bP a _ ea);exact PySem.W.kia_one PySem.W.kitx_dict I.rN ⟨o,h1,h2.1⟩ e (λz=>nomatch z) h
 |@ins a C dx fs ea cl ha hn Jd hm =>
  cases (show u=Value.ref a from rx)
  obtain⟨mA,O,_⟩:=IE I.bP ea;obtain⟨od,J,_⟩:=O.look;exact PySem.W.kia_one (PySem.W.kitx_own (cl.get _) cl.hd ha hn Jd hm) I.rN J e (λz=>nomatch z) h
end
structure c3 (k:Nat)(A:Around):Prop where
 hd:A.handled=none
 dp:A.depth+3*k+5<recursionLimit
 un:A.units+16*k+200<cLine
def c3.mono {j k:Nat}{A:Around}(r:c3 k A)(h:j<=k):c3 j A:=⟨r.hd,by have:=r.dp;omega,by have:=r.un;omega⟩
def c3.deeper {k:Nat}{A:Around}(r:c3 (k+1) A)(env:Env):c3 k (A.deeper env) :=
 ⟨r.hd,by have:=r.dp;show A.depth+1+3*k+5<_;omega,by have:=r.un;show A.units+3+16*k+200<_;omega⟩
def c3.depth {k:Nat}{A:Around}(r:c3 k A):A.depth<recursionLimit:=by have:=r.dp;omega
def c3.units {k:Nat}{A:Around}(r:c3 k A):A.units+64<cLine:=by have:=r.un;omega
def c3.MD {k:Nat}{A:Around}(r:c3 k A):A.units<cLine:=by have:=r.un;omega
def Q8:TA:=λ_ H Q=>Q [] H
def BY (ta:TE)(tr:TA):TA:=λσ H Q=>ta σ H λx H1=>tr σ H1 λxs H2=>Q (x::xs) H2
section
variable {X:Cx}{e:Expr}{es:Ξ2}{te:TE}{t:TA}{pos:Pos}
def cf:PA X [] Q8:=λ_ _ _ _ H Q I h=>Calls.spliced_nil ⟨[],H,I,.nil,h⟩
def bm (ha:PE X e te)(hr:PA X es t)(hs:starEach (e::es) X.env=(false,eval e X.env)::starEach es X.env:=by rfl):PA X (e::es) (BY te t):=by
 intro pos ae s σ H Q I h;rw[hs];show wpAny _ _ (spliced ((false,eval e X.env)::backTo pos (starEach es X.env))) _ _ s;refine Calls.spliced_cons (bp (ha ae s σ H _ I h) λu s1 ⟨x,H1,I1,r1,q1⟩=>?_);exact bp (hr pos ae s1 σ H1 _ I1 q1) λus s2 ⟨xs,H2,I2,r2,q2⟩=>⟨x::xs,H2,I2,.cons r1 r2,q2⟩
def QZ (t:TA):TE:=λσ H Q=>t σ H λxs H1=>xs.length<=sizeLine/\∀p,H1 p=none->Q (.ref p) (aL H1 p (.tup xs))
def YJ (t:TA):TE:=λσ H Q=>t σ H λxs H1=>xs.length<=sizeLine/\∀p,H1 p=none->Q (.ref p) (aL H1 p (.lst xs))
def gF {x1}(h:PA X es t):PE X (.Tuple es x1 pos) (QZ t):=by
 intro ae s σ H Q I hq;refine wpAny_Tuple_spliced (bp (h pos ae s σ H _ I hq) λus s1 ⟨xs,H1,I1,r,z,q⟩=>⟨by rw[<- r.length];exact z,?_⟩);have hf:H1 s1.heap.objs.size=none:=I1.bP.fresh (Ze _);refine⟨.ref s1.heap.objs.size,aL H1 s1.heap.objs.size (.tup xs),I1.laid (t':=s1.toks) (λb u e=>Zj _ e) (Ze _) ?_,rfl,q _ hf⟩;exact⟨z,us,r,⟨_,Zy _ rfl,rfl,_,rfl⟩⟩
def qo (h:PA X es t):PE X (.List es pos) (YJ t):=by
 intro ae s σ H Q I hq;refine wpAny_List_spliced (bp (h pos ae s σ H _ I hq) λus s1 ⟨xs,H1,I1,r,z,q⟩=>⟨by rw[<- r.length];exact z,?_⟩);have hf:H1 s1.heap.objs.size=none:=I1.bP.fresh (Ze _);refine⟨.ref s1.heap.objs.size,aL H1 s1.heap.objs.size (.lst xs),I1.laid (t':=s1.toks) (λb u e=>Zj _ e) (Ze _) ?_,rfl,q _ hf⟩;exact⟨z,us,0,r,Zy _ rfl⟩
end
abbrev Sp:=List V->Hp->VK->XK->Prop
abbrev Bi:=List Env->Hp->Shared->XK->Value->Shared->Prop
structure GU (P:Program)(w:World)(K:Θ1)(mg:Θ3)(base:Heap)(A:Around)(outer:List Env)(s:Shared)(H:Hp):Prop where
 frames:A.frames=some outer
 mod:Mod K mg base
 bs:∀b o,base.get? b=some o->s.heap.get? b=some o/\H b=none
 Jk:base.objs.size<=s.heap.objs.size
 mD:s.heap.FunFrames base outer
 OJ:∀b∈Bx outer,H b=none
 bP:jN P w H s.heap
 bare:AllBare s.gens
def CE (outer:List Env)(P:Program)(w:World)(H:Hp)(s:Shared)(Q:VK)(u:Value)(s':Shared):Prop :=
 ∃v H',s'.os=s.os/\AllBare s'.gens/\Un (Bx outer) [] H H' s.heap s'.heap/\jN P w H' s'.heap/\RelV v u/\Q v H'
def CR (CX:Bi)(outer:List Env)(P:Program)(w:World)(H:Hp)(s:Shared)(Q:VK)(E:XK)(r:Result)(s':Shared):Prop :=
 match r with
 |.ok (.ret u)=>CE outer P w H s Q u s'
 |.ok _=>False
 |.error e=>CX outer H s E e s'
structure aK (P:Program)(w:World)(K:Θ1)(mg:Θ3)(base:Heap)(CX:Bi)(k:Nat)(f:Addr)(fd:FuncData)(ps:Δ2)(sp:Sp):Prop where
 len:∀vs H Q E,sp vs H Q E->vs.length=ps.length
 run:∀(A:Around) (outer:List Env) (s:Shared) (H:Hp) (args:Args) (us:Δ3) (vs:List V) (Q:VK) (E:XK),c3 k A->GU P w K mg base A outer s H->BindsTo s fd args (ps.zip us)->aY vs us->sp vs H Q E ->
  codeAny (model P w) A (.call (.ref f) args) (CR CX outer P w H s Q E) s
def aK.imp {P:Program}{w:World}{K:Θ1}{mg:Θ3}{base:Heap}{CX:Bi}{k:Nat}{f:Addr}{fd:FuncData}{ps:Δ2}{sp sp':Sp}(F:aK P w K mg base CX k f fd ps sp)
  (h:∀vs H Q E,sp' vs H Q E->sp vs H Q E):aK P w K mg base CX k f fd ps sp' :=
 ⟨λvs H Q E q=>F.len vs H Q E (h _ _ _ _ q),λA outer s H args us vs Q E hr he hb hv hs=>F.run A outer s H args us vs Q E hr he hb hv (h _ _ _ _ hs)⟩
section
variable {X:Cx}{ae:Γ2}{σ:St}{H:Hp}{s s':Shared}
def Inv.γ (I:Inv X ae σ H s):GU X.prog X.w X.K X.mg X.base X.A X.stack s H :=
 ⟨I.ok.frames,I.ok.mod,I.bs,Zr I.ok.Jk I.sz,I.stack,I.xS,I.bP,I.bare⟩
def Inv.after {Q:VK}{u:Value}(I:Inv X ae σ H s)(h:CE X.stack X.prog X.w H s Q u s'):EP X ae σ Q u s':=by
 obtain⟨v,H',os,bare,un,bP,r,q⟩:=h;obtain⟨hh,g,d,t,os'⟩:=s';obtain rfl:os'=s.os:=os;exact⟨v,H',I.call (h':=hh) (g':=g) (d':=d) (t':=t) (ch:=[]) un bP bare (λb z=>absurd z (by simp)),r,q⟩
end
def SU (sp:Sp)(Fn:List V)(E:XK)(t:TA):TE:=λσ H Q=>t σ H λvs H1=>sp (vs++Fn) H1 Q E
def Binds (K:Θ1)(fd:FuncData)(ps:Δ2)(ds:Δ3):Prop :=
 ∀(s:Shared) (us:Δ3),K.In s.heap->(us++ds).length=ps.length->BindsTo s fd ⟨us,[]⟩ (ps.zip (us++ds))
def Binds.all {K:Θ1}{fd:FuncData}{ps:Δ2}(h:∀us:Δ3,us.length=ps.length->bindArgs fd ⟨us,[]⟩=pure (ps.zip us)):Binds K fd ps []:=λs us _ hl=>by
 rw[Yg] at hl ⊢;exact .of_eq (h us hl)
def vE (CX:Bi)(X:Cx)(E:XK):Prop:=∀(ae:Γ2) (σ:St) (H:Hp) (s:Shared) (e:Value) (s':Shared),Inv X ae σ H s->CX X.stack H s E e s'->X.xe e s'
section
variable {X:Cx}{CX:Bi}{k:Nat}{f C:Addr}{fd:FuncData}{ps:Δ2}{sp:Sp}{Fn:List V}{ds:Δ3}{E:XK}{x m:Str}{p pos mG:Pos}{e o:Expr}{es:Ξ2}{ta:TE}{t:TA}
def MQ {ae:Γ2}{σ:St}{H:Hp}{s:Shared}{Q:VK}{us:Δ3}{vs:List V}(F:aK X.prog X.w X.K X.mg X.base CX k f fd ps sp)(hr:c3 k X.A)(hb:Binds X.K fd ps ds)(hd:aY Fn ds)(hx:vE CX X E)
  (I:Inv X ae σ H s) (r:aY vs us) (h:sp (vs++Fn) H Q E):wpAny (model X.prog X.w) X.A (call (.ref f) us) (EP X ae σ Q) X.xe s:=by
 have r2:aY (vs++Fn) (us++ds):=r.append hd;have hl:(us++ds).length=ps.length:=by rw[<- r2.length];exact F.len _ _ _ _ h
 refine wpAny_call (codeAny_mono (F.run X.A X.stack s H ⟨us,[]⟩ (us++ds) (vs++Fn) Q E hr I.γ (hb s us I.rN hl) r2 h) λr s' hq=>?_);cases r with
 |error e=>exact hx ae σ H s e s' I hq
 |ok fl =>
  cases fl with
  |ret u=>exact I.after hq
  |next=>exact False.elim hq
  |brk=>exact False.elim hq
  |cont=>exact False.elim hq
def eR (F:aK X.prog X.w X.K X.mg X.base CX k f fd ps sp)(hr:c3 k X.A)(hg:Gl X x)(hm:X.mg x=some (.ref f))(hk:PySem.W.keepIn X.K (.ref f)=true)(hb:Binds X.K fd ps ds)(hd:aY Fn ds)(hx:vE CX X E)
  (ha:PA X (e::es) t) (uT:(x == ("__debug__" : Str))=false:=by decide) (he:starEach (e::es) X.env=(false,eval e X.env)::starEach es X.env:=by rfl) (lC:(backTo pos (starEach es X.env)).any (·.1)=false:=by rfl) :
  PE X (.Call (.Name x p) (e::es) [] pos) (SU sp Fn E t):=by
 intro ae s σ H Q I h;refine wpAny_Call_Name_kw (IA I hg hm ?_ uT);refine PySem.W.callWith_K (h₀:=X.base) I.ok.mod.Vv hk (bp (ha pos ae s σ H _ I h) λus s1 ⟨vs,H1,I1,r,q⟩=>⟨I1.rN,?_⟩) he lC;exact MQ F hr hb hd hx I1 r q
end
section
variable {X:Cx}{CX:Bi}{k:Nat}{f C:Addr}{fd:FuncData}{ps ks:Δ2}{sp:Sp}{E:XK}{x m:Str}{p pos mG ahD:Pos}{e o:Expr}{es:Ξ2}{kws:List Keyword}{te ta:TE}{t tk:TA}{nm:Option Str}
variable {g:Δ3->Δ3->Δ3}{gV:List V->List V->List V}
end
structure ak (N P:Δ2)(sc:Scope):Prop where
 kind:sc.kind=.function
 co:sc.isCoroutine=false
 gen:sc.isGenerator=false
 nd:N.Nodup
 pre:N.take P.length=P
 par:∀x∈P,sc.names.lookup x=some .local\/sc.names.lookup x=some .cell
 NB:∀y∈sc.names,y.2≠.free
def dm {N P:Δ2}{sc:Scope}(a:sc.kind=.function:=by rfl)(b:sc.isCoroutine=false:=by rfl)(c:sc.isGenerator=false:=by rfl)(d:N.Nodup:=by decide+kernel)(e:N.take P.length=P:=by rfl)(f:∀x∈P,sc.names.lookup x=some .local\/sc.names.lookup x=some .cell:=by decide+kernel)(g:∀y∈sc.names,y.2≠.free:=by decide+kernel):ak N P sc:=⟨a,b,c,d,e,f,g⟩
theorem pK {kindOf:Str->Option NameKind}{x:Str}:∀{binds:List (Str×Value)}{m:Θ3},(∀v,(x,v)∉binds)->bindL kindOf binds m x=m x
 |[],_,_=>rfl
 |(n,v)::r,m,h=>by
  unfold bindL;rw[pK λw hw=>h w (Zh _ hw)];split
  .have:x≠n:=by rintro rfl;exact h v Zg
   simp[this]
  .rfl
theorem pM {kindOf:Str->Option NameKind}{x:Str}:∀{binds:List (Str×Value)}{m:Θ3},(∀v,(x,v)∉binds)->bindC kindOf binds m x=m x
 |[],_,_=>rfl
 |(n,v)::r,m,h=>by
  unfold bindC;rw[pM λw hw=>h w (Zh _ hw)];split
  .rfl
  .have:x≠n:=by rintro rfl;exact h v Zg
   simp[this]
theorem pL {kindOf:Str->Option NameKind}{x:Str}{v:Value}:∀{P:Δ2}{vs:Δ3}{i:Nat}{m:Θ3},P.Nodup->P[i]?=some x->vs[i]?=some v->kindOf x=some .local ->
  bindL kindOf (P.zip vs) m x=some v
 |[],_,_,_,_,h,_,_=>by simp at h
 |_::_,[],_,_,_,_,h,_=>by simp at h
 |p::P,w::vs,0,m,nd,h1,h2,hk=>by
  simp at h1 h2;subst h1;subst h2;show bindL kindOf ((p,w)::P.zip vs) m p=_;unfold bindL;rw[pK λv hv=>(Yd.mp nd).1 (List.of_mem_zip hv).1,if_pos hk];simp
 |p::P,w::vs,i+1,m,nd,h1,h2,hk=>by
  show bindL kindOf ((p,w)::P.zip vs) m x=_;unfold bindL;exact pL (i:=i) (Yd.mp nd).2 (by simpa using h1) (by simpa using h2) hk
theorem pN {kindOf:Str->Option NameKind}{x:Str}{v:Value}:∀{P:Δ2}{vs:Δ3}{i:Nat}{m:Θ3},P.Nodup->P[i]?=some x->vs[i]?=some v->kindOf x≠some .local ->
  bindC kindOf (P.zip vs) m x=some v
 |[],_,_,_,_,h,_,_=>by simp at h
 |_::_,[],_,_,_,_,h,_=>by simp at h
 |p::P,w::vs,0,m,nd,h1,h2,hk=>by
  simp at h1 h2;subst h1;subst h2;show bindC kindOf ((p,w)::P.zip vs) m p=_;unfold bindC;rw[pM λv hv=>(Yd.mp nd).1 (List.of_mem_zip hv).1,if_neg hk];simp
 |p::P,w::vs,i+1,m,nd,h1,h2,hk=>by
  show bindC kindOf ((p,w)::P.zip vs) m x=_;unfold bindC;exact pN (i:=i) (Yd.mp nd).2 (by simpa using h1) (by simpa using h2) hk
def start (N:Δ2)(vs:List V):St:=vs.map some++List.replicate (N.length-vs.length) none
def vd (CX:Bi)(P:Program)(w:World)(K:Θ1)(mg:Θ3)(base:Heap)(N:Δ2)(qual:Str)(scope:Scope)(f:Addr)(cd:Value)(A:Around)(outer:List Env)(s:Shared)(H:Hp)(E:XK):Cx where
 prog:=P
 w:=w
 K:=K
 mg:=mg
 base:=base
 A:=A.deeper (envOfC qual scope s.heap.objs.size f cd)
 N:=N
 eG:=s
 cC:=H
 env:=envOfC qual scope s.heap.objs.size f cd
 outer:=outer
 stack:=envOfC qual scope s.heap.objs.size f cd::outer
 ex:=[]
 calm:=true
 fn:=λ_=>true
 pn:=[]
 xe:=λe s'=>wpAny (model P w) (A.deeper (envOfC qual scope s.heap.objs.size f cd)) (leaving (envOfC qual scope s.heap.objs.size f cd) e) (λ_ Kr=>CX outer H s E e Kr) (λe' Kr=>CX outer H s E e' Kr) s'
def tV {sc:Scope}{n:Nat}{x:Str}(h:sc.names.lookup x=some .cell):∃c,(cellsFrom n sc.names []).lookup x=some c:=by
 have q:=PySem.W.cellsFrom_some sc.names n [] (.inl h);exact X9.mp q
def AD {CX:Bi}{P:Program}{w:World}{K:Θ1}{mg:Θ3}{base:Heap}{N ps:Δ2}{qual:Str}{scope:Scope}{f:Addr}{cd:Value}{A:Around}{outer:List Env}{s s1:Shared}{H:Hp}{E:XK}{us:Δ3}{vs:List V}
  (S:ak N ps scope) (hd:A.handled=none) (e0:GU P w K mg base A outer s H) (hl:vs.length=ps.length) (r:aY vs us)
  (x:InCallC s s.heap.objs.size (bindL (envOfC qual scope s.heap.objs.size f cd).kindOf (ps.zip us) λ_=>none) (cellsFrom (s.heap.objs.size+1) scope.names []) (bindC (envOfC qual scope s.heap.objs.size f cd).kindOf (ps.zip us) λ_=>none) s1) :
  Inv (vd CX P w K mg base N qual scope f cd A outer s H E) [] (start N vs) H s1:=by
 have lC:ps.length<=N.length:=by have:=congrArg List.length S.pre;rw[Y0] at this;omega
 obtain⟨h1,tk,rfl,hk⟩:=x.done;have Pp:∀b:Addr,b∉(vd CX P w K mg base N qual scope f cd A outer s H E).ex:=λb z=>absurd (show b∈([]:List Addr) from z) (by simp)
 refine⟨⟨e0.mod,S.kind,rfl,rfl,Ze _,λy z c h1 h2=>?_,λy hy=>?_,λy c _ h=>?_,λ_=>hd,Around.frames_deeper e0.frames,.inr ⟨rfl,rfl⟩,λb z=>absurd z (Pp b),e0.bs,e0.Jk,λb _ _=>Pp b,λb z=>absurd z (Pp b),e0.mD,e0.OJ⟩,
  rfl,e0.bare,Un.kept hk,⟨_,x.toInCall.ns,λi y v h1 h2 h3=>?_⟩,λy c h=>⟨_,x.cell y c h⟩,e0.bP.fresh (Ze _),λy c h=>?_,λp hp=>absurd (show p∈([]:Γ2) from hp) (by simp),e0.bP.kept hk,?_⟩
 .exact name_of_addr x.apart (Xl h1) (Xl h2)
 .have hy:scope.names.lookup y=some .cell\/scope.names.lookup y=some .free:=hy;rcases hy with hy |hy
  .exact tV hy
  .exact absurd rfl (S.NB _ (Xl hy))
 .exact Nat.le_of_lt (x.above y c (Xl h))
 .have hi:i<vs.length:=by
   unfold start at h2;by_cases hi:i<vs.length
   .exact hi
   .rw[Yh (by simpa using hi)] at h2;rw[Xc] at h2;split at h2<;>cases h2
  have ha:vs[i]?=some v:=by
   unfold start at h2;rw[Zp (by simpa using hi),Zl] at h2;cases e:vs[i]? with
   |none=>rw[e] at h2;cases h2
   |some a=>rw[e] at h2;cases h2;rfl
  obtain⟨u,hu,rv⟩:=r.get ha;have hp:ps[i]?=some y:=by
   rw[<- S.pre,List.getElem?_take_of_lt (by omega)];exact h1
  have ndP:ps.Nodup:=by rw[<- S.pre];exact S.nd.sublist (List.take_sublist _ _)
  refine⟨u,rv,?_⟩;rcases S.par y (Zz hp) with k |k
  .exact .inl ⟨k,pL ndP hp hu k⟩
  .obtain⟨c,e⟩:=tV (n:=s.heap.objs.size+1) k;refine .inr ⟨.inl k,c,e,?_⟩;have q:=x.cell y c e;rw[pN ndP hp hu (by show scope.names.lookup y≠_;rw[k];decide)] at q;exact q
 .exact e0.bP.fresh (Nat.le_of_lt (x.above y c (Xl h)))
 .unfold start;show _=N.length;rw[Zu,Zb,Qj];omega
def TQ {CX:Bi}{P:Program}{w:World}{K:Θ1}{mg:Θ3}{base:Heap}{k:Nat}{f:Addr}{name qual:Str}{params:Arguments}{body:List Stmt}{scope:Scope}{dV kV gq pm bH ct oc:Value}{an od:Option Addr}
  {IY:Array (Φ1)}{N ps:Δ2}{sp:Sp}(lk:K.lookup f=some ⟨oc,od,.func (PySem.W.fnOf name qual params body scope dV kV gq pm an bH ct),IY⟩) (zb:PySem.W.codeIn K bH qual=true) (S:ak N ps scope)
  (len:∀vs H Q E,sp vs H Q E->vs.length=ps.length)
  (Cj:∀(A:Around) (outer:List Env) (s:Shared) (H:Hp) (vs:List V) (Q:VK) (E:XK),c3 k (A.deeper (envOfC qual scope s.heap.objs.size f bH))->sp vs H Q E ->
   ∃t,jb (vd CX P w K mg base N qual scope f bH A outer s H E) body t/\t { nx:=λ_ H'=>Q .bV H',rt:=Q } (start N vs) H) :
  aK P w K mg base CX (k+1) f (PySem.W.fnOf name qual params body scope dV kV gq pm an bH ct) ps sp:=by
 refine⟨len,λA outer s H args us vs Q E hr e0 hb r Fb=>?_⟩;have hl:=len _ _ _ _ Fb;have KX:K.In s.heap:=e0.mod.Vv.keeps λb o e=>(e0.bs b o e).1
 have lim:s.heap.NoLimit:=e0.mod.nolimit.keeps λb o e=>(e0.bs b o e).1
 have TL:∀y∈ps.zip us,scope.names.lookup y.1=some .local\/(scope.names.lookup y.1=some .cell/\((cellsFrom (s.heap.objs.size+1) scope.names []).lookup y.1).isSome=true):=λ⟨n,v⟩ hy=>by
  rcases S.par n (List.of_mem_zip hy).1 with q |q
  .exact .inl q
  .exact .inr ⟨q,PySem.W.cellsFrom_some _ _ _ (.inl q)⟩
 refine codeAny_call_function hr.depth (KX _ _ lk) rfl S.co S.gen rfl (PySem.W.codeRec_of KX zb) (hb _ _ _ _ ?_);refine wpAny_newFunctionEnv_cells S.kind TL λenv he s1 x=>?_
 subst he;refine⟨lim.keeps x.toInCall.keep,codeAny_func ?_⟩;obtain⟨t,ht,hq⟩:=Cj A outer s H vs Q E (hr.deeper _) Fb;have I:Inv (vd CX P w K mg base N qual scope f bH A outer s H E) [] (start N vs) H s1:=AD S hr.hd e0 hl r x;refine wpAny_mono (ht [] s1 (start N vs) H _ I hq) (λfl s' hs=>?_) λe s' hs=>hs
 have jz:∀{aB:St}{H':Hp}{v:V}{u:Value},Inv (vd CX P w K mg base N qual scope f bH A outer s H E) [] aB H' s'->RelV v u->Q v H'->CE outer P w H s Q u s' :=
  λ{aB H' v u} J rv q=>⟨v,H',J.os,J.bare,J.base,J.bP,rv,q⟩
 cases fl with
 |ret u =>
  obtain⟨v,aB,H',J,rv,q⟩:=hs;exact jz J rv q
 |next =>
  obtain⟨aB,H',J,q⟩:=hs;exact jz (v:=V.bV) (u:=Value.none) J rfl q
 |brk =>
  obtain⟨_,_,_,q⟩:=hs;exact False.elim q
 |cont =>
  obtain⟨_,_,_,q⟩:=hs;exact False.elim q
section
variable {X:Cx}{x:Str}{p pos:Pos}{e:Expr}{es:Ξ2}{t:TA}{id T:String}{r:List V->Hp->VK->Prop}
def Vj (r:List V->Hp->VK->Prop)(t:TA):TE:=λσ H Q=>t σ H λvs H1=>r vs H1 Q
def uQ (hc:bZ X (.builtin id) r)(hg:Gl X x)(hm:X.mg x=none)(hv:bootBuiltins x=some (.builtin id))(ha:PA X (e::es) t)(hn:x ≠ "__name__":=by decide)(uT:(x == ("__debug__" : Str))=false:=by decide)
  (he:starEach (e::es) X.env=(false,eval e X.env)::starEach es X.env:=by rfl) (lC:(backTo pos (starEach es X.env)).any (·.1)=false:=by rfl):PE X (.Call (.Name x p) (e::es) [] pos) (Vj r t):=by
 intro ae s σ H Q I h;refine wpAny_Call_Name_kw (fH I hg hm hv ?_ hn uT);exact PyProof.Rows.callWith_builtin1 (bp (ha pos ae s σ H _ I h) λus s1 ⟨vs,H1,I1,r1,q1⟩=>hc ae s1 σ H1 vs us Q I1 r1 q1) he lC
def Ol (hc:bZ X (.type T) r)(hg:Gl X x)(hm:X.mg x=none)(hv:bootBuiltins x=some (.type T))(ha:PA X (e::es) t)(hn:x ≠ "__name__":=by decide)(uT:(x == ("__debug__" : Str))=false:=by decide)
  (he:starEach (e::es) X.env=(false,eval e X.env)::starEach es X.env:=by rfl) (lC:(backTo pos (starEach es X.env)).any (·.1)=false:=by rfl):PE X (.Call (.Name x p) (e::es) [] pos) (Vj r t):=by
 intro ae s σ H Q I h;refine wpAny_Call_Name_kw (fH I hg hm hv ?_ hn uT);exact PyProof.Rows.callWith_type1 (bp (ha pos ae s σ H _ I h) λus s1 ⟨vs,H1,I1,r1,q1⟩=>hc ae s1 σ H1 vs us Q I1 r1 q1) he lC
end
end L2
namespace HT
open PySem PyProof.Rows
section
open PySem.SeqAt
open PySem.AutoSeq1 (wpAny_loadPart')
open PySem.MeetsSeq PySem.MeetsSeq2 PySem.MeetsSeq3
end
section
variable {prog:Program}{w:World}{A:Around}{E:Θ2}{s:Shared}
def IN {t b:Addr}{vs ws:Δ3}{Q:Θ2}(ht:IsTup s.heap t vs.toArray)(hb:IsTup s.heap b ws.toArray)(hv:vs≠[])
  (h1:ws=[]->Q (.ref t) s) (h2:ws≠[]->Q (.ref s.heap.objs.size) { s with heap:=s.heap.push { cls:=.type "tuple",data:=.seq (vs++ws).toArray } })
  (hsz:vs.length+ws.length<=sizeLine):wpAny (model prog w) A (binaryOp .Add (.ref t) (.ref b)) Q E s:=by
 obtain⟨⟨cls,dd,data,sl⟩,ho,hc,n,hd⟩:=id ht;obtain⟨⟨ζ,UJ,data2,b9⟩,KD,Fj,n2,FG⟩:=id hb;simp only at hc hd Fj FG;subst hc hd Fj FG;have e:vs.toArray++ws.toArray=(vs++ws).toArray:=by simp
 by_cases hw:ws=[]
 .exact concat_meets ⟨_,ho,rfl⟩ ⟨_,KD,rfl⟩ noFill_tuple_add seq_tuple_add PySem.F.slot_tuple_add PySem.F.entry_tuple_add (PySem.F.args_tuple_add_2 _ _)
   (tuple_addW1 t b vs.toArray ws.toArray n n2 dd UJ sl b9 (by simpa using hv) (by simp[hw])) ⟨ho,KD,h1 hw⟩
 .refine concat_meets ⟨_,ho,rfl⟩ ⟨_,KD,rfl⟩ noFill_tuple_add seq_tuple_add PySem.F.slot_tuple_add PySem.F.entry_tuple_add (PySem.F.args_tuple_add_2 _ _)
   (tuple_addW2 t b vs.toArray ws.toArray n n2 dd UJ sl b9 (by simpa using hv) (by simpa using hw) (by rw[Z1,Z1];exact hsz)) ⟨ho,KD,?_⟩
  rw[e];exact h2 hw
def cP (n d:Nat):Option Int->Nat
 |none=>d
 |some v=>if v<0 then (v+(n:Int)).toNat else min v.toNat n
def tj (n d:Nat):cP n d none=d:=rfl
def MN (n d:Nat)(hd:d<=n)(o:Option Int):cP n d o<=n:=by
 cases o with
 |none=>exact hd
 |some v =>
  show(if v<0 then (v+(n:Int)).toNat else min v.toNat n)<=n;by_cases hv:v<0
  .rw[if_pos hv];omega
  .rw[if_neg hv];exact Nat.min_le_right _ _
def yQ (v:Int)(n d:Nat):(if v<0 then max (v+(n:Int)) 0 else min v (n:Int))=((cP n d (some v):Nat):Int):=by
 show(if v<0 then max (v+(n:Int)) 0 else min v (n:Int))=(((if v<0 then (v+(n:Int)).toNat else min v.toNat n):Nat):Int);by_cases hv:v<0
 .simp only[if_pos hv];omega
 .simp only[if_neg hv];omega
def wN (lo hi:Option Int)(n:Nat):Builtin.Slice.sliceAdjust lo hi 1 (n:Int)=(((cP n 0 lo:Nat):Int),((cP n n hi:Nat):Int)):=by
 have h1:¬ ((1:Int)<0):=by omega
 unfold Builtin.Slice.sliceAdjust;simp only[h1,if_false];refine Prod.ext ?_ ?_
 .cases lo with
  |none=>rfl
  |some v=>exact yQ v n 0
 .cases hi with
  |none=>rfl
  |some v=>exact yQ v n n
def vU (i j:Nat):Builtin.Slice.slicePlaces (i:Int) (j:Int) 1=j-i:=by
 unfold Builtin.Slice.slicePlaces;have h1:(1:Int)>0:=by omega
 simp only[h1,if_true,Int.ediv_one];split<;>omega
def nO {v:Value}{o:Option Int}{Q:Option Int->Shared->Prop}(p:IsPart v o)(h:Q o s):wpAny (model prog w) A (Builtin.Slice.slicePartIndex v) Q E s:=by
 cases p with
 |none=>exact slicePart_none h
 |int i t=>exact slicePart_int h
def gl {sl:Addr}{vl vu:Value}{lo hi:Option Int}{n:Nat}{Q:Int×Int×Nat->Shared->Prop}(hs:s.heap.IsSliceOf sl vl vu .none)(pl:IsPart vl lo)(pu:IsPart vu hi)
  (h:Q (((cP n 0 lo:Nat):Int),1,cP n n hi-cP n 0 lo) s):wpAny (model prog w) A (Builtin.Slice.sliceApplied (.ref sl) (pure (n:Int))) Q E s:=by
 obtain⟨os,KC,Ux,P5⟩:=id hs;unfold Builtin.Slice.sliceApplied Builtin.Slice.sliceFields;refine Za (Za (wpAny_field KC P5 (x:=vl) rfl (Za (wpAny_field KC P5 (x:=vu) rfl (Za (wpAny_field KC P5 (x:=.none) rfl (wpAny_pure ?_)))))));refine Za (slicePart_none ?_);show wpAny _ _ (if ((1:Int) == 0)=true then _ else _) _ _ s;rw[if_neg (by decide)];refine Za (nO pl (Za (nO pu (Za (wpAny_pure ?_)))));show wpAny _ _ (match Builtin.Slice.sliceAdjust lo hi 1 (n:Int) with |(lo,hi)=>pure (lo,(1:Int),Builtin.Slice.slicePlaces lo hi 1)) _ _ s;rw[wN lo hi n];show wpAny _ _ (pure (((cP n 0 lo:Nat):Int),(1:Int),Builtin.Slice.slicePlaces ((cP n 0 lo:Nat):Int) ((cP n n hi:Nat):Int) 1)) _ _ s;rw[vU];exact wpAny_pure h
def D2 (xs:Array Value)(i k:Nat):((List.range k).filterMap λ(m:Nat)=>xs[((i:Int)+(m:Int)*1).toNat]?).toArray=((xs.toList.drop i).take k).toArray:=by
 have e:(λ(m:Nat)=>xs[((i:Int)+(m:Int)*1).toNat]?)=λm=>xs[i+m]?:=by
  funext m
  have:((i:Int)+(m:Int)*1).toNat=i+m:=by omega
  rw[this]
 rw[e];have:=pick_run xs i k;rw[List.filterMap_map] at this;have e2:((λx=>xs[x]?) ∘ λx=>i+x)=λm=>xs[i+m]?:=rfl
 rw[e2] at this;rw[this]
def kz {t sl:Addr}{items:Array Value}{vl vu:Value}{lo hi:Option Int}{Q:Θ2}(ht:IsTup s.heap t items)(hs:s.heap.IsSliceOf sl vl vu .none)(pl:IsPart vl lo)(pu:IsPart vu hi)
  (hw:¬ (cP items.size 0 lo=0/\cP items.size items.size hi=items.size))
  (h:Q (.ref s.heap.objs.size) { s with heap:=s.heap.push { cls:=.type "tuple",data:=.seq ((items.toList.drop (cP items.size 0 lo)).take (cP items.size items.size hi-cP items.size 0 lo)).toArray } })
  (hsz:items.size<=sizeLine):wpAny (model prog w) A (getItem (.ref t) (.ref sl)) Q E s:=by
 have xv:sizeOk (.seq ((items.toList.drop (cP items.size 0 lo)).take (cP items.size items.size hi-cP items.size 0 lo)).toArray):=by
  show((items.toList.drop (cP items.size 0 lo)).take (cP items.size items.size hi-cP items.size 0 lo)).toArray.size<=sizeLine;rw[Z1,Y0,Xz,Array.length_toList];omega
 have hj:cP items.size items.size hi<=items.size:=MN _ _ (Ze _) hi;obtain⟨os,KC,Ux,P5⟩:=id hs;have Wf:s.TypeIs (.ref sl) "slice":=⟨os,KC,Ux⟩;unfold getItem
 try with_reducible refine wpAny_holding ?_
 first |refine Za (wpAny_pure ?_) |skip
 refine Za (wpAny_sequenceKey ht.typeIs (by decide) ?_);refine Za (wpAny_callSpecial?_slot (name:=Str.ofString "__getitem__") ht.typeIs PyProof.Rows.slot_tuple_getitem
  (wpAny_call_entry PyProof.Rows.slot_tuple_getitem ht.typeIs entry_tuple_getitem ?_ (args_tuple_getitem _ _)))
 show wpAny _ _ (Builtin.Tuple.tupleItemsOf (.ref t) >>= _) _ _ s;refine Za (tupleItemsOf_ ht ?_);refine Za (wpAny_typeOf Wf ?_);rw[if_pos (by decide)];refine Za (gl hs pl pu ?_);have hno:¬ ((((cP items.size 0 lo:Nat):Int) == 0&&(1:Int) == 1&&(cP items.size items.size hi-cP items.size 0 lo) == items.size)=true):=by
  intro q;rw[Z8,Z8] at q;have q1:((cP items.size 0 lo:Nat):Int)=0:=eq_of_beq q.1.1;have q2:cP items.size items.size hi-cP items.size 0 lo=items.size:=eq_of_beq q.2;exact hw ⟨by omega,by omega⟩
 show wpAny _ _ (if (((cP items.size 0 lo:Nat):Int) == 0&&(1:Int) == 1&&(cP items.size items.size hi-cP items.size 0 lo) == items.size)=true then _ else _) _ _ s;rw[if_neg hno,D2]
 first
  |exact Za (m:=Builtin.Tuple.tupleExact _) (wpAny_newObj_type (wpAny_pure ⟨_,rfl,wpAny_pure h⟩) xv)
  |exact Za (m:=Builtin.Tuple.tupleExact _) (wpAny_newObj_type (Za (wpAny_pure (wpAny_pure ⟨_,rfl,wpAny_pure h⟩))) xv)
  |exact Za (Za (m:=Builtin.Tuple.tupleExact _) (wpAny_newObj_type (wpAny_pure (wpAny_pure ⟨_,rfl,wpAny_pure h⟩)) xv))
  |exact Za (Za (m:=Builtin.Tuple.tupleExact _) (wpAny_newObj_type (wpAny_pure ⟨_,rfl,wpAny_pure h⟩) xv))
end
end HT
namespace L2
open PySem PySem.Spec PyProof.Rows
abbrev TO:=St->Hp->(Option Int->Hp->Prop)->Prop
def PO (X:Cx)(e:Option Expr)(t:TO):Prop :=
 ∀(ae:Γ2) (s:Shared) (σ:St) (H:Hp) (Q:Option Int->Hp->Prop),Inv X ae σ H s->t σ H Q ->
  wpAny (model X.prog X.w) X.A (evalPart e X.env) (λu s'=>∃o H',Inv X ae σ H' s'/\IsPart u o/\Q o H') X.xe s
def G1:TO:=λ_ H Q=>Q none H
def SN (t:TE):TO:=λσ H Q=>t σ H λx H1=>∃i,x=.int i/\Q (some i) H1
section
variable {X:Cx}{e:Expr}{te:TE}{lo hi:Option Expr}{tl th:TO}{pos p2:Pos}
def Hx:PO X none G1:=by
 intro ae s σ H Q I h;rw[evalPart_none];exact wpAny_pure ⟨none,H,I,.none,h⟩
def Hw (h:PE X e te):PO X (some e) (SN te):=by
 intro ae s σ H Q I hw;rw[evalPart_some];refine bp (h ae s σ H _ I hw) λu s1 ⟨x,H1,I1,r1,q1⟩=>?_
 obtain⟨i,rfl,q⟩:=q1;obtain⟨t,rfl⟩:=r1;exact⟨some i,H1,I1,.int i t,q⟩
def FK (X:Cx)(r:V->Option Int->Option Int->Hp->VK->Prop):Prop :=
 ∀(ae:Γ2) (s:Shared) (σ:St) (H:Hp) (x:V) (v vl vu:Value) (lo hi:Option Int) (sl:Addr) (Q:VK),Inv X ae σ H s->RelV x v->s.heap.IsSliceOf sl vl vu .none->IsPart vl lo->IsPart vu hi->r x lo hi H Q ->
  ∃T id,typeLookup (.type T) "__getitem__"=pure (some (.builtin id))/\s.TypeIs v T/\wpAny (model X.prog X.w) X.A (getItem v (.ref sl)) (EP X ae σ Q) X.xe s
def FK.or {r r':V->Option Int->Option Int->Hp->VK->Prop}(h:FK X r)(h':FK X r'):FK X (λx lo hi H Q=>r x lo hi H Q\/r' x lo hi H Q):=by
 intro ae s σ H x v vl vu lo hi sl Q I rx hs pl pu q;rcases q with q |q
 .exact h ae s σ H x v vl vu lo hi sl Q I rx hs pl pu q
 .exact h' ae s σ H x v vl vu lo hi sl Q I rx hs pl pu q
def tSl (r:V->Option Int->Option Int->Hp->VK->Prop)(te:TE)(tl th:TO):TE:=λσ H Q=>te σ H λx H1=>tl σ H1 λl H2=>th σ H2 λu H3=>r x l u H3 Q
def D7 {r:V->Option Int->Option Int->Hp->VK->Prop}(hr:FK X r)(he:PE X e te)(hl:PO X lo tl)(hu:PO X hi th):PE X (.Subscript e (.Slice lo hi none p2) pos) (tSl r te tl th):=by
 intro ae s σ H Q I h;refine Subscript_ (bp (he ae s σ H _ I h) λv s1 ⟨x,H1,I1,r1,q1⟩=>?_);refine wpAny_Slice (bp (hl ae s1 σ H1 _ I1 q1) λvl s2 ⟨l,H2,I2,pl,q2⟩=>bp (hu ae s2 σ H2 _ I2 q2) λvu s3 ⟨u,H3,I3,pu,q3⟩=>?_);rw[evalPart_none];refine wpAny_pure ?_;have I4:Inv X ae σ H3 { s3 with heap:=s3.heap.push { cls:=.type "slice",data:=.fields #[vl,vu,.none] } }:=I3.kept (t':=s3.toks) λb ob q=>Zj _ q
 obtain⟨T,id,hT,ht,hg⟩:=hr ae { s3 with heap:=s3.heap.push { cls:=.type "slice",data:=.fields #[vl,vu,.none] } } σ H3 x v vl vu l u s3.heap.objs.size Q I4 r1 (Heap.IsSliceOf.new ..) pl pu q3;show wpAny (model X.prog X.w) X.A (subscriptTail e (.Slice lo hi none p2) v (.ref s3.heap.objs.size)) (EP X ae σ Q) X.xe { s3 with heap:=s3.heap.push { cls:=.type "slice",data:=.fields #[vl,vu,.none] } };exact tail_any (ops:=[.ref s3.heap.objs.size,v]) ht hT hg (by with_unfolding_all rfl)
def mE (xs:List V)(lo hi:Option Int):List V:=(xs.drop (HT.cP xs.length 0 lo)).take (HT.cP xs.length xs.length hi-HT.cP xs.length 0 lo)
def lA (xs:List V)(lo hi:Option Int):(mE xs lo hi).length<=xs.length:=by
 unfold mE;rw[Y0,Xz];omega
def ZD (K:Θ1):V->Option Int->Option Int->Hp->VK->Prop:=λx lo hi H Q=>∃a xs,x=.ref a/\aM K H a xs /\
 ¬ (HT.cP xs.length 0 lo=0/\HT.cP xs.length xs.length hi=xs.length)/\∀p,H p=none->Q (.ref p) (aL H p (.tup (mE xs lo hi)))
def MJ:FK X (ZD X.K):=by
 intro ae s σ H x v vl vu lo hi sl Q I rx hs pl pu h;obtain⟨a,xs,rfl,hx,hw,q⟩:=h;cases rx;obtain⟨its,r,ht,hz⟩:=I.tuple hx;have cy:its.toArray.size=xs.length:=by rw[Z1];exact r.length.symm
 refine⟨"tuple",_,PyProof.Rows.slot_tuple_getitem.lookup,ht.typeIs,?_⟩;refine HT.kz ht hs pl pu (by rw[cy];exact hw) ?_ (by rw[cy];exact hz);rw[cy];refine⟨.ref s.heap.objs.size,_,I.laid (t':=s.toks) (o:=.tup (mE xs lo hi)) (λb ob q=>Zj _ q) (Ze _) ?_,rfl,q _ (I.bP.fresh (Ze _))⟩;exact⟨Zr (lA xs lo hi) hz,_,(r.drop (HT.cP xs.length 0 lo)).take (HT.cP xs.length xs.length hi-HT.cP xs.length 0 lo),IsTup.new _ _⟩
def Tg (K:Θ1):R2:=λx y H Q=>∃a b xs ys,x=.ref a/\y=.ref b/\aM K H a xs/\aM K H b ys/\xs≠[]/\xs.length+ys.length<=sizeLine /\
 (ys=[]->Q (.ref a) H)/\(ys≠[]->∀p,H p=none->Q (.ref p) (aL H p (.tup (xs++ys))))
def aY.lW {xs:List V}{us:Δ3}(r:aY xs us):us=[]↔xs=[]:=by
 cases r with
 |nil=>simp
 |cons _ _=>simp
def HC:fj X (binaryOp .Add) (Tg X.K):=by
 intro ae s σ H x y v u Q I rx ry h;obtain⟨a,b,xs,ys,rfl,rfl,ha,hb,hx,hz,q1,q2⟩:=h;cases rx;cases ry;obtain⟨its,r1,p1,_⟩:=I.tuple ha;obtain⟨BL,r2,p2,_⟩:=I.tuple hb;refine HT.IN p1 p2 (λz=>hx (r1.lW.mp z)) (λz=>⟨.ref a,H,I,rfl,q1 (r2.lW.mp z)⟩) (λz=>?_) (by rw[<- r1.length,<- r2.length];exact hz);refine⟨.ref s.heap.objs.size,_,I.laid (t':=s.toks) (o:=.tup (xs++ys)) (λb ob q=>Zj _ q) (Ze _) ?_,rfl,q2 (λw=>z (r2.lW.mpr w)) _ (I.bP.fresh (Ze _))⟩;exact⟨by rw[Zu];exact hz,_,r1.append r2,IsTup.new _ _⟩
end
def rQ (n:Nat)(i:Int):Option Nat:=if 0<=i then (if i<n then some i.toNat else none) else if -(n:Int)<=i then some (i+n).toNat else none
def gv {α : Type}(xs:List α)(i:Int):Option α:=(rQ xs.length i).bind λj=>xs[j]?
def yD {n:Nat}{i:Int}{j:Nat}(h:rQ n i=some j):seqIndex? i n=some j/\j<n/\-(n:Int)<=i/\i<n:=by
 unfold rQ at h;by_cases h0:0<=i
 .rw[if_pos h0] at h;by_cases h1:i<n
  .rw[if_pos h1] at h;have e:i.toNat=j:=Option.some.inj h;exact⟨by rw[seqIndex_of h0 h1,e],by omega,by omega,h1⟩
  .rw[if_neg h1] at h;cases h
 .rw[if_neg h0] at h;by_cases h1:-(n:Int)<=i
  .rw[if_pos h1] at h;have e:(i+n).toNat=j:=Option.some.inj h;exact⟨by rw[seqIndex_neg (by omega) h1,e],by omega,h1,by omega⟩
  .rw[if_neg h1] at h;cases h
def bR {α : Type}{xs:List α}{i:Int}{v:α}(h:gv xs i=some v):∃j,seqIndex? i xs.length=some j/\xs[j]?=some v/\j<xs.length/\-(xs.length:Int)<=i/\i<xs.length:=by
 unfold gv at h;cases e:rQ xs.length i with
 |none=>rw[e] at h;cases h
 |some j =>
  rw[e] at h;obtain⟨h1,h2,h3,h4⟩:=yD e;exact⟨j,h1,h,h2,h3,h4⟩
def md {α : Type}{xs:List α}{j:Nat}{v:α}(h:xs[j]?=some v):gv xs (j:Int)=some v:=by
 have hj:j<xs.length:=(Zf.mp h).1;have e:rQ xs.length (j:Int)=some j:=by
  unfold rQ;rw[if_pos (by omega),if_pos (by omega)];simp
 unfold gv;rw[e];exact h
def rk (b:Expr):Prop:=∀o i,subscripted b false o i=operate [o,i] (getItem o i)
def zi (X:Cx)(r:R2):Prop :=
 ∀(value slice:Expr) (ae:Γ2) (s:Shared) (σ:St) (H:Hp) (x y:V) (v u:Value) (Q:VK),Inv X ae σ H s->RelV x v->RelV y u->r x y H Q ->
  subscripted slice false v u=operate [v,u] (getItem v u)->wpAny (model X.prog X.w) X.A (subscriptTail value slice v u) (EP X ae σ Q) X.xe s
def UM (X:Cx)(id:String)(r:V->List V->Hp->VK->Prop):Prop :=
 ∀(ae:Γ2) (s:Shared) (σ:St) (H:Hp) (x:V) (xs:List V) (v:Value) (us:Δ3) (Q:VK),Inv X ae σ H s->RelV x v->aY xs us->r x xs H Q ->
  wpAny (model X.prog X.w) X.A (call (.builtin id) (v::us)) (EP X ae σ Q) X.xe s
section
variable {X:Cx}{a b:Expr}{ta tb:TE}{pos:Pos}
def zi.or {r r':R2}(h:zi X r)(h':zi X r'):zi X (λx y H Q=>r x y H Q\/r' x y H Q):=by
 intro value slice ae s σ H x y v u Q I rx ry q hs;rcases q with q |q
 .exact h value slice ae s σ H x y v u Q I rx ry q hs
 .exact h' value slice ae s σ H x y v u Q I rx ry q hs
def d9 {r:R2}(hr:zi X r)(ha:PE X a ta)(hb:PE X b tb)(hs:rk b):PE X (.Subscript a b pos) (Kq r ta tb):=by
 intro ae s σ H Q I h;exact Subscript_ (LZ ha hb I h λv u s2 x y H2 I2 rx ry q=>hr a b ae s2 σ H2 x y v u Q I2 rx ry q (hs _ _))
def Gf (K:Θ1):R2:=λx y H Q=>∃p xs i v,x=.ref p/\y=.int i/\bD K H p xs/\gv xs i=some v/\Q v H
def Lw (K:Θ1):R2:=λx y H Q=>∃p xs i v,x=.ref p/\y=.int i/\aM K H p xs/\gv xs i=some v/\Q v H
def yC:zi X (Gf X.K):=by
 intro value slice ae s σ H x y v u Q I rx ry h hs;obtain⟨p,xs,i,z,rfl,rfl,hq,he,q⟩:=h;cases rx;obtain⟨t,rfl⟩:=ry;obtain⟨its,r,pl,hz⟩:=I.list hq;obtain⟨j,h1,h2,h3,h4,h5⟩:=bR he;obtain⟨w,ew,yX⟩:=r.get h2;have hl:=r.length;have hn:=jF;have jz:EP X ae σ Q w s:=⟨z,H,I,yX,q⟩;by_cases h0:0<=i
 .have hj:i.toNat=j:=by
   rw[seqIndex_of h0 h5] at h1;exact Option.some.inj h1
  exact item_listR pl.isList h0 (by omega) (by rw[hj];simpa using ew) jz hs
 .have hj:(i+(its.toArray.size:Int)).toNat=j:=by
   rw[seqIndex_neg (by omega) h4] at h1;rw[Z1,<- hl];exact Option.some.inj h1
  exact subscriptTail_builtinR (x:=w) pl.isList.typeIs slot_list_getitem.lookup
   (wpAny_getItem_list_neg (Q:=λr s'=>r=w/\EP X ae σ Q r s') pl.isList (by omega) (by rw[Z1]<;>omega) (by omega) (by rw[hj];simpa using ew) ⟨rfl,jz⟩) hs
def NY:zi X (Lw X.K):=by
 intro value slice ae s σ H x y v u Q I rx ry h hs;obtain⟨p,xs,i,z,rfl,rfl,hq,he,q⟩:=h;cases rx;obtain⟨t,rfl⟩:=ry;obtain⟨its,r,pl,hz⟩:=I.tuple hq;obtain⟨j,h1,h2,h3,h4,h5⟩:=bR he;obtain⟨w,ew,yX⟩:=r.get h2;have hl:=r.length;have hn:=jF;have jz:EP X ae σ Q w s:=⟨z,H,I,yX,q⟩;exact subscriptTail_builtinR (x:=w) pl.typeIs slot_tuple_getitem.lookup
  (getItem_tuple (j:=j) (Q:=λr s'=>r=w/\EP X ae σ Q r s') pl (by omega) (by omega) (by rw[Z1,<- hl];exact h1) (by simpa using ew) ⟨rfl,jz⟩) hs
def we (its:Δ3)(n j:Nat)(u:Value):Obj.mapSeq (·.setIfInBounds j u) { cls:=.type "list",data:=.seq its.toArray n }={ cls:=.type "list",data:=.seq (its.set j u).toArray n }:=by
 simp[Obj.mapSeq]
def Inv.lst {ae:Γ2}{σ:St}{H:Hp}{s:Shared}{p:Addr}{xs:List V}(I:Inv X ae σ H s)(h:H p=some (.lst xs)) :
  ∃(its:Δ3) (n:Nat),aY xs its/\s.heap.get? p=some { cls:=.type "list",data:=.seq its.toArray n }/\xs.length<=sizeLine:=by
 obtain⟨z,its,n,r,e⟩:=I.bP p _ h;exact⟨its,n,r,e,z⟩
def Inv.NK {ae:Γ2}{σ:St}{H:Hp}{s:Shared}{p:Addr}{xs ys:List V}{its its':Δ3}{n n':Nat}{f:Obj->Obj}(I:Inv X ae σ H s)(h:H p=some (.lst xs))
  (ho:s.heap.get? p=some { cls:=.type "list",data:=.seq its.toArray n }) (hf:f { cls:=.type "list",data:=.seq its.toArray n }={ cls:=.type "list",data:=.seq its'.toArray n' }) (r:aY ys its') (hz:ys.length<=sizeLine) (t:Nat) :
  Inv X ae σ (aL H p (.lst ys)) { s with heap:=s.heap.update p f,toks:=t }:=by
 have e:(s.heap.update p f).get? p=some { cls:=.type "list",data:=.seq its'.toArray n' }:=by
  rw[Qi f ho (by rw[hf]<;>rfl),hf]
 refine I.write (x:=p) (e:=p) (by rw[h];trivial) (.inl rfl) (λb u hb q=>(Xs _ _ (Ne.symm hb)).trans q) ⟨_,e⟩ ?_;exact⟨hz,its',n',r,e⟩
def Td:V->V->V->Hp->(Hp->Prop)->Prop:=λo i v H Q=>∃p xs k j,o=.ref p/\i=.int k/\H p=some (.lst xs)/\rQ xs.length k=some j/\Q (aL H p (.lst (xs.set j v)))
def j6:L6 X Td:=by
 intro ae s σ H o i v ov iv u Q I ro ri rv h;obtain⟨p,xs,k,j,rfl,rfl,hp,hj,q⟩:=h;cases ro;obtain⟨t,rfl⟩:=ri;obtain⟨its,n,r,ho,hz⟩:=I.lst hp;obtain⟨h1,h2,h3,h4⟩:=yD hj;have hl:=r.length;have hn:=jF;have I':Inv X ae σ (aL H p (.lst (xs.set j v))) { s with heap:=s.heap.update p (Obj.mapSeq (·.setIfInBounds j u)) } :=
  I.NK hp ho (we its n j u) (r.set rv j) (by rw[Yo];exact hz) s.toks
 by_cases h0:0<=k
 .have hk:k.toNat=j:=by
   rw[seqIndex_of h0 h4] at h1;exact Option.some.inj h1
  exact PySem.W.ki_setAt ho h0 (by omega) (by rw[Z1,<- hl];exact h4) (by rw[hk];exact⟨_,I',q⟩)
 .have hk:(k+(its.toArray.size:Int)).toNat=j:=by
   rw[seqIndex_neg (by omega) h3] at h1;rw[Z1,<- hl];exact Option.some.inj h1
  exact PySem.W.ki_setBack ho (by omega) (by rw[Z1,<- hl];exact h3) (by omega) (by rw[hk];exact⟨_,I',q⟩)
def rn (lo hi:Option Int)(n:Nat):(sliceBounds lo hi none n).1=((HT.cP n 0 lo:Nat):Int)/\(sliceBounds lo hi none n).2.1=((HT.cP n n hi:Nat):Int)/\(sliceBounds lo hi none n).2.2=1:=by
 refine⟨?_,?_,rfl⟩
 .cases lo with
  |none=>simp[sliceBounds,HT.cP]
  |some i =>
   simp only[sliceBounds,HT.cP,Option.getD_none,show(1:Int)>0 by decide,if_true];by_cases h:i<0
   .simp only[h,if_true]<;>omega
   .simp only[h,if_false]<;>omega
 .cases hi with
  |none=>simp[sliceBounds,HT.cP]
  |some i =>
   simp only[sliceBounds,HT.cP,Option.getD_none,show(1:Int)>0 by decide,if_true];by_cases h:i<0
   .simp only[h,if_true]<;>omega
   .simp only[h,if_false]<;>omega
def oE (its:Δ3)(lo hi:Option Int):slicePick its.toArray lo hi none=((its.drop (HT.cP its.length 0 lo)).take (HT.cP its.length its.length hi-HT.cP its.length 0 lo)).toArray:=by
 obtain⟨h1,h2,h3⟩:=rn lo hi its.toArray.size;unfold slicePick;rw[h1,h2,h3];simp only[sliceRange_one,pick_run,Z1]<;>rfl
def Rv (K:Θ1):V->Option Int->Option Int->Hp->VK->Prop:=λx lo hi H Q=>∃a xs,x=.ref a/\bD K H a xs/\∀p,H p=none->Q (.ref p) (aL H p (.lst (mE xs lo hi)))
def G7:FK X (Rv X.K):=by
 intro ae s σ H x v vl vu lo hi sl Q I rx hs pl pu h;obtain⟨a,xs,rfl,hx,q⟩:=h;cases rx;obtain⟨its,r,ht,hz⟩:=I.list hx;have cy:=r.length;refine⟨"list",_,slot_list_getitem.lookup,ht.isList.typeIs,?_⟩;refine wpAny_getItem_list_slice ht.isList hs pl pu .none (by simp) ?_ (by rw[Z1]<;>omega);rw[oE,<- cy];refine⟨.ref s.heap.objs.size,_,I.laid (t':=s.toks) (o:=.lst (mE xs lo hi)) (λb ob q=>Zj _ q) (Ze _) ?_,rfl,q _ (I.bP.fresh (Ze _))⟩;exact⟨Zr (lA xs lo hi) hz,_,0,(r.drop (HT.cP xs.length 0 lo)).take (HT.cP xs.length xs.length hi-HT.cP xs.length 0 lo),Zy _ rfl⟩
def iu:V->Bool
 |.bV=>true
 |.bl _=>true
 |.int _=>true
 |.str _=>true
 |_=>false
def Fm:V->V->Bool
 |.bV,.bV=>true
 |.bl a,.bl b=>a == b
 |.bl a,.int b=>(if a then 1 else 0) == b
 |.int a,.bl b=>a == (if b then 1 else 0)
 |.int a,.int b=>a == b
 |.str a,.str b=>a == b
 |_,_=>false
def N5 {A:Around}{s:Shared}{y x:V}{u v:Value}(ry:RelV y u)(rx:RelV x v)(fy:iu y=true)(fx:iu x=true):SeqAt.EqAt A s u v (Fm y x):=by
 cases y with
 |bV =>
  cases ry
  cases x with
  |bV=>cases rx;exact SeqAt.EqAt.same _
  |bl b=>cases rx;exact SeqAt.EqAt.none_bool b
  |int b=>obtain⟨t,rfl⟩:=rx;exact SeqAt.EqAt.none_int b t
  |str b=>obtain⟨t,rfl⟩:=rx;exact SeqAt.EqAt.none_str b t
  |_=>exact absurd (show false=true from fx) Z4
 |bl a =>
  cases ry
  cases x with
  |bV=>cases rx;exact SeqAt.EqAt.bool_none a
  |bl b=>cases rx;exact SeqAt.EqAt.bool_bool a b
  |int b=>obtain⟨t,rfl⟩:=rx;exact SeqAt.EqAt.bool_int a b t
  |str b=>obtain⟨t,rfl⟩:=rx;exact SeqAt.EqAt.bool_str a b t
  |_=>exact absurd (show false=true from fx) Z4
 |int a =>
  obtain⟨t',rfl⟩:=ry;cases x with
  |bV=>cases rx;exact SeqAt.EqAt.int_none a t'
  |bl b=>cases rx;exact SeqAt.EqAt.int_bool a t' b
  |int b=>obtain⟨t,rfl⟩:=rx;exact SeqAt.EqAt.int_int a t' b t
  |str b=>obtain⟨t,rfl⟩:=rx;exact SeqAt.EqAt.int_str a t' b t
  |_=>exact absurd (show false=true from fx) Z4
 |str a =>
  obtain⟨t',rfl⟩:=ry;cases x with
  |bV=>cases rx;exact SeqAt.EqAt.str_none a t'
  |bl b=>cases rx;exact SeqAt.EqAt.str_bool a t' b
  |int b=>obtain⟨t,rfl⟩:=rx;exact SeqAt.EqAt.str_int a t' b t
  |str b=>obtain⟨t,rfl⟩:=rx;exact SeqAt.EqAt.str_str a t' b t
  |_=>exact absurd (show false=true from fx) Z4
 |_=>exact absurd (show false=true from fy) Z4
def uW (x:V)(u:Value):Bool:=match u with
 |.none=>Fm .bV x
 |.bool b=>Fm (.bl b) x
 |.int i _=>Fm (.int i) x
 |.str z _=>Fm (.str z) x
 |_=>false
def Dq {x y:V}{u:Value}(r:RelV y u)(f:iu y=true):uW x u=Fm y x:=by
 cases y with
 |bV=>cases r;rfl
 |bl b=>cases r;rfl
 |int i=>obtain⟨t,rfl⟩:=r;rfl
 |str z=>obtain⟨t,rfl⟩:=r;rfl
 |_=>exact absurd (show false=true from f) Z4
theorem j3 {x:V}:∀{xs:List V}{us:Δ3},aY xs us->xs.all iu=true->us.any (uW x)=xs.any λy=>Fm y x
 |_,_,.nil,_=>rfl
 |y::xs,u::us,.cons r t,f=>by
  rw[X0,Z8] at f;rw[Xu,Xu,Dq r f.1,j3 t f.2]
theorem iF {A:Around}{s:Shared}{x:V}{v:Value}(rx:RelV x v)(fx:iu x=true):∀{xs:List V}{us:Δ3},aY xs us->xs.all iu=true->∀u∈us,SeqAt.EqAt A s u v (uW x u)
 |_,_,.nil,_=>λu hu=>by cases hu
 |y::xs,u::us,.cons r t,f=>λu' hu=>by
  rw[X0,Z8] at f;rcases Zk.mp hu with rfl |hu
  .rw[Dq r f.1];exact N5 r rx f.1 fx
  .exact iF rx fx t f.2 u' hu
def Fx (x:V)(xs:List V):Bool:=xs.any λy=>Fm y x
def Pe (K:Θ1)(neg:Bool):R2:=λx y H Q=>∃p xs,y=.ref p/\(bD K H p xs\/aM K H p xs)/\iu x=true/\xs.all iu=true/\Q (.bl (if neg then !Fx x xs else Fx x xs)) H
def Af:fj X (compareOp .In) (Pe X.K false):=by
 intro ae s σ H x y v u Q I rx ry h;obtain⟨p,xs,rfl,hq,fx,fs,q⟩:=h;cases ry;rcases hq with hq |hq
 .obtain⟨its,r,pl,hz⟩:=I.list hq;refine SeqAt.in_listAt (uW x) pl.isList (λw hw=>iF rx fx r fs w (by simpa using hw)) ⟨.bl _,H,I,rfl,?_⟩;rw[show its.toArray.any (uW x)=its.any (uW x) by simp,j3 r fs];exact q
 .obtain⟨its,r,pl,hz⟩:=I.tuple hq;refine SeqAt.in_tupleAt (uW x) pl (λw hw=>iF rx fx r fs w (by simpa using hw)) ⟨.bl _,H,I,rfl,?_⟩;rw[show its.toArray.any (uW x)=its.any (uW x) by simp,j3 r fs];exact q
def rq:fj X (compareOp .NotIn) (Pe X.K true):=by
 intro ae s σ H x y v u Q I rx ry h;obtain⟨p,xs,rfl,hq,fx,fs,q⟩:=h;cases ry;rcases hq with hq |hq
 .obtain⟨its,r,pl,hz⟩:=I.list hq;refine SeqAt.notIn_listAt (uW x) pl.isList (λw hw=>iF rx fx r fs w (by simpa using hw)) ⟨.bl _,H,I,rfl,?_⟩;rw[show its.toArray.any (uW x)=its.any (uW x) by simp,j3 r fs];exact q
 .obtain⟨its,r,pl,hz⟩:=I.tuple hq;refine SeqAt.notIn_tupleAt (uW x) pl (λw hw=>iF rx fx r fs w (by simpa using hw)) ⟨.bl _,H,I,rfl,?_⟩;rw[show its.toArray.any (uW x)=its.any (uW x) by simp,j3 r fs];exact q
def gP:bZ X (.builtin "len") (λxs H Q=>∃p ys,xs=[.ref p]/\(bD X.K H p ys\/aM X.K H p ys)/\Q (.int ys.length) H):=by
 intro ae s σ H xs us Q I r h;obtain⟨p,ys,rfl,hq,q⟩:=h;obtain⟨u,rfl,rx⟩:=vals1 r;cases rx;have hn:=jF;rcases hq with hq |hq
 .obtain⟨its,r',pl,hz⟩:=I.list hq;have cy:=r'.length;exact Calls.call_len_list pl.isList (by simp only[Z1]<;>omega) ⟨.int ys.length,H,I.tok _,⟨s.toks+1,by rw[Z1,cy]⟩,q⟩
 .obtain⟨its,r',pl,hz⟩:=I.tuple hq;have cy:=r'.length;exact len_tuple pl (by simp only[Z1]<;>omega) ⟨.int ys.length,H,I.tok _,⟨s.toks+1,by rw[Z1,cy]⟩,q⟩
def rB:bZ X (.type "list") (λxs H Q=>∃p ys,xs=[.ref p]/\(bD X.K H p ys\/aM X.K H p ys)/\∀l,H l=none->Q (.ref l) (aL H l (.lst ys))):=by
 intro ae s σ H xs us Q I r h;obtain⟨p,ys,rfl,hq,q⟩:=h;obtain⟨u,rfl,rx⟩:=vals1 r;cases rx;have jz:∀(its:Δ3),aY ys its->ys.length<=sizeLine->∀(h':Heap) (c':Nat),(∀b o',s.heap.get? b=some o'->h'.get? b=some o') ->
   h'.get? s.heap.objs.size=some { cls:=.type "list",dict:=none,data:=.seq its.toArray c',slots:=#[] }->EP X ae σ Q (.ref s.heap.objs.size) { s with heap:=h' }:=λits r' hz h' c' kp e =>
  ⟨.ref s.heap.objs.size,_,I.laid (t':=s.toks) kp (Ze _) (show bS X.prog X.w _ h' _ (.lst ys) from⟨hz,its,c',r',e⟩),rfl,q _ (I.bP.fresh (Ze _))⟩
 rcases hq with hq |hq
 .obtain⟨its,r',pl,hz⟩:=I.list hq;have cy:=r'.length;obtain⟨o,ho,hc,n,hd⟩:=pl.isList;exact call_list_seq p (.inl rfl) ho hc hd (λh' c' kp e=>jz its r' hz h' c' kp e) (by simp only[Z1]<;>omega)
 .obtain⟨its,r',pl,hz⟩:=I.tuple hq;have cy:=r'.length;obtain⟨o,ho,hc,n,hd⟩:=pl;exact call_list_seq p (.inr rfl) ho hc hd (λh' c' kp e=>jz its r' hz h' c' kp e) (by simp only[Z1]<;>omega)
def oG:bZ X (.type "tuple") (λxs H Q=>∃p ys,xs=[.ref p]/\((bD X.K H p ys/\∀l,H l=none->Q (.ref l) (aL H l (.tup ys)))\/(aM X.K H p ys/\Q (.ref p) H))):=by
 intro ae s σ H xs us Q I r h;obtain⟨p,ys,rfl,h⟩:=h;obtain⟨u,rfl,rx⟩:=vals1 r;cases rx;rcases h with ⟨hq,q⟩ |⟨hq,q⟩
 .obtain⟨its,r',pl,hz⟩:=I.list hq;have cy:=r'.length;refine call_tuple_list pl.isList (λh' kp=>?_) (by simp only[Z1]<;>omega);have I1:Inv X ae σ H { s with heap:=h' }:=I.kept (t':=s.toks) kp;have I2:Inv X ae σ (aL H h'.objs.size (.tup ys)) { s with heap:=h'.push { cls:=.type "tuple",data:=.seq its.toArray } } :=
   I1.laid (t':=s.toks) (λb o e=>Zj _ e) (Ze _) (show bS X.prog X.w _ _ _ (.tup ys) from⟨hz,its,r',IsTup.new _ _⟩)
  exact⟨.ref h'.objs.size,_,I2,rfl,q _ (I1.bP.fresh (Ze _))⟩
 .obtain⟨its,r',pl,hz⟩:=I.tuple hq;exact call_tuple_same pl ⟨.ref p,H,I,rfl,q⟩
def Of (K:Θ1)(T:String)(x:V)(H:Hp):Prop:=match x with
 |.str _=>T="str"
 |.int _=>T="int"
 |.ref p=>(T="list"/\∃xs,bD K H p xs)\/(T="tuple"/\∃o,K.lookup p=some o/\o.cls=.type "tuple"/\o.dict=none) \/
   (T="dict"/\((∃kvs,H p=some (.dK kvs))\/∃kvs,H p=some (.dT kvs)))\/(T="set"/\∃S n,H p=some (.set S n))
 |_=>False
def Cw {ae:Γ2}{σ:St}{H:Hp}{s:Shared}{T:String}{x:V}{v:Value}(I:Inv X ae σ H s)(r:RelV x v)(ty:Of X.K T x H) :
  s.TypeIs v T/\∀a,v=.ref a->∃ob,s.heap.get? a=some ob/\ob.dict=none:=by
 cases x with
 |str z =>
  obtain⟨t,rfl⟩:=r;cases (show T="str" from ty);exact⟨typeIs_str s z t,λ_ e=>nomatch e⟩
 |int i =>
  obtain⟨t,rfl⟩:=r;cases (show T="int" from ty);exact⟨typeIs_int s i t,λ_ e=>nomatch e⟩
 |ref p =>
  cases r
  rcases ty with ⟨rfl,xs,hq⟩ |⟨rfl,o,hk,hc,hd⟩ |⟨rfl,hk⟩ |⟨rfl,S,n,hk⟩
  .obtain⟨its,_,pl,_⟩:=I.list hq;refine⟨pl.isList.typeIs,λa e=>?_⟩;cases e;obtain⟨o,n,e,c,hd,_⟩:=pl;exact⟨o,e,hd⟩
  .refine⟨⟨o,I.rN p o hk,hc⟩,λa e=>?_⟩;cases e;exact⟨o,I.rN _ o hk,hd⟩
  .have z:∃o,s.heap.get? p=some o/\o.ExactDict:=by
    rcases hk with ⟨kvs,hk⟩ |⟨kvs,hk⟩
    .obtain⟨_,_,_,_,o,_,_,e,ex,_⟩:=I.bP p _ hk;exact⟨o,e,ex⟩
    .obtain⟨_,_,_,_,o,_,_,e,ex,_⟩:=I.bP p _ hk;exact⟨o,e,ex⟩
   obtain⟨o,e,ex⟩:=z;refine⟨⟨o,e,ex.1⟩,λa e2=>?_⟩;cases e2;exact⟨o,e,ex.2.1⟩
  .obtain⟨o,_,_,_,e,ex,_⟩:=I.bP p _ hk;refine⟨⟨o,e,ex.1⟩,λa e2=>?_⟩;cases e2;exact⟨o,e,ex.2.1⟩
 |_=>exact False.elim ty
def YN (K:Θ1)(T:String)(r:V->List V->Hp->VK->Prop)(to:TE):TE:=λσ H Q=>to σ H λx H1=>Of K T x H1/\r x [] H1 Q
def tBM (K:Θ1)(T:String)(r:V->List V->Hp->VK->Prop)(to:TE)(t:TA):TE:=λσ H Q=>to σ H λx H1=>Of K T x H1/\t σ H1 λxs H2=>r x xs H2 Q
variable {o e:Expr}{es:Ξ2}{to:TE}{t:TA}{name:Str}{mG il:Pos}{T id:String}{r:V->List V->Hp->VK->Prop}
def CT (pa:PlainAttrs T)(slot:Slot T name id)(FA:typeOf (.builtin id)=pure (.type "method_descriptor"))(hm:UM X id r)(ho:PE X o to)
  (sH:attributeBase o name X.env (eval o X.env)=eval o X.env:=by rfl) (sG:(mG.endLine == il.line)=true:=by rfl):PE X (.Call (.Attribute o name mG) [] [] il) (YN X.K T r to):=by
 intro ae s σ H Q I h;refine wpAny_Call_method0_late sH sG (bp (ho ae s σ H _ I h) λv s1 ⟨x,H1,I1,r1,ty,q1⟩=>?_);obtain⟨h1,h2⟩:=Cw I1 r1 ty;exact⟨T,id,pa,slot,FA,h1,h2,Calls.callWith_builtin rfl (PySem.evalArgs_none (hm ae s1 σ H1 x [] v [] Q I1 r1 .nil q1))⟩
end
def MtM (X:Cx)(id:String)(r:V->List V->Hp->VK->Prop):Prop :=
 ∀(ae:Γ2) (s:Shared) (σ:St) (H:Hp) (x:V) (xs:List V) (v:Value) (us:Δ3) (Q:VK),Inv X ae σ H s->RelV x v->aY xs us->r x xs H Q ->
  wpAny (model X.prog X.w) X.A (call (.builtin id) (v::us)) (EP X ae σ Q) X.xe s
theorem aY.one:∀{x:V}{us:Δ3},aY [x] us->∃u,us=[u]/\RelV x u
 |_,_,.cons r .nil=>⟨_,rfl,r⟩
section
variable {X:Cx}{ae:Γ2}{σ:St}{H:Hp}{s:Shared}{l b:Addr}{xs ys zs:List V}
def Inv.ZP {its its':Δ3}{n:Nat}{f:Array Value->Array Value}{t':Nat}(I:Inv X ae σ H s)(hH:H l=some (.lst xs))
  (e:s.heap.get? l=some { cls:=.type "list",data:=.seq its.toArray n }) (hf:f its.toArray=its'.toArray) (hv:aY ys its') (hz:ys.length<=sizeLine) :
  Inv X ae σ (aL H l (.lst ys)) { s with heap:=s.heap.update l (Obj.mapSeq f),toks:=t' }:=by
 have q:=PySem.IsL.update e f;rw[hf] at q;refine I.write (x:=l) (e:=l) (by rw[hH];exact trivial) (.inl rfl) (λb' u hb hu=>(Xs s.heap (Obj.mapSeq f) (Ne.symm hb)).trans hu) ⟨_,q⟩ ?_;exact⟨hz,its',_,hv,q⟩
def Inv.LI {its:Δ3}{t':Nat}(I:Inv X ae σ H s)(hv:aY ys its)(hz:ys.length<=sizeLine) :
  Inv X ae σ (aL H s.heap.objs.size (.lst ys)) { s with heap:=s.heap.push { cls:=.type "list",data:=.seq its.toArray },toks:=t' } :=
 I.laid (λ_ _ q=>Zj _ q) (Ze _) ⟨hz,its,0,hv,Zy _ rfl⟩
def Inv.fresh (I:Inv X ae σ H s):H s.heap.objs.size=none:=I.bP.fresh (Ze _)
def Inv.LH (I:Inv X ae σ H s)(hH:H l=some (.lst xs)):xs.length<=sizeLine/\∃(its:Δ3) (n:Nat),aY xs its/\xs.length=its.length/\s.heap.get? l=some { cls:=.type "list",data:=.seq its.toArray n }:=by
 obtain⟨z,its,n,r,e⟩:=I.bP l _ hH;exact⟨z,its,n,r,r.length,e⟩
end
section
variable {X:Cx}
def Hr:V->List V->Hp->VK->Prop:=λx vs H Q=>∃l xs y,x=.ref l/\vs=[y]/\H l=some (.lst xs)/\xs.length<sizeLine/\Q .bV (aL H l (.lst (xs++[y])))
def k4:MtM X "list.append" Hr:=by
 intro ae s σ H x vs v us Q I rx rv h;obtain⟨l,xs,y,rfl,rfl,hH,hz,q⟩:=h;cases rx;obtain⟨u,rfl,ru⟩:=rv.one;obtain⟨z,its,n,r,hl,e⟩:=I.LH hH;refine call_meets F.slot_list_append ⟨_,e,rfl⟩ F.entry_list_append (F.args_list_append_2 _ _) (PySem.list_append l its.toArray n u (by rw[Z1];omega)) ⟨e,?_⟩;refine⟨.bV,_,I.ZP (its':=its++[u]) hH e (by simp) (r.append (.cons ru .nil)) ?_,rfl,q⟩;rw[Zu,Qp];omega
def Rw:R2:=λx y H Q=>∃l b xs zs,x=.ref l/\y=.ref b/\H l=some (.lst xs)/\H b=some (.lst zs)/\xs.length+zs.length<=sizeLine/\∀p,H p=none->Q (.ref p) (aL H p (.lst (xs++zs)))
def Ng:fj X (binaryOp .Add) Rw:=by
 intro ae s σ H x y v u Q I rx ry h;obtain⟨l,b,xs,zs,rfl,rfl,hH,hB,hz,q⟩:=h;cases rx;cases ry;obtain⟨z,its,n,r,hl,e⟩:=I.LH hH;obtain⟨z2,BL,n2,r2,PV,e2⟩:=I.LH hB;refine PySem.P.add_list e e2 ?_ (by rw[Z1,Z1];omega);have ea:its.toArray++BL.toArray=(its++BL).toArray:=by simp
 rw[ea];exact⟨.ref _,_,I.LI (t':=s.toks) (r.append r2) (by rw[Zu];omega),rfl,q _ I.fresh⟩
end
section
variable {prog:Program}{w:World}{A:Around}{E:Θ2}{s:Shared}
end
section
variable {X:Cx}
end
end L2
namespace Att
open PySem PySem.W PySem.Calls PyProof.Rows
def lG {P:Params}{h:Heap}:∀(ns:Γ3) (vs:Δ3),WellAll P h vs (ns.map WData.int)->IntsAre vs ns:=by
 intro ns;induction ns with
 |nil =>
  intro vs w;rw[List.map_nil] at w;cases w;exact .nil
 |cons n ns ih =>
  intro vs w;rw[Zi] at w;cases w with
  |cons a b =>
   cases a
   exact .cons _ _ (ih _ b)
def zQ {l:OpenLaw}{n:Nat}(hn:l.most=some n){P:Params}{h:Heap}{args:List WData}{Lg:Δ3}
  (Gx:l.row.toRowW.claim.pre args=true) (Fa:WellAll P h Lg args) :
  ∃a vs ns,Lg=[Value.ref a]/\args=[WData.list (ns.map WData.int)]/\h.get? a=some { cls:=.type "list",data:=.seq vs.toArray }/\IntsAre vs ns/\ns.length<=n:=by
 have Bc:WShape.hasAll [] args [.list .int]=true:=(pre_splitW Gx).1;have hc:l.pre.holds [] { args:=args }=true:=(pre_splitW Gx).2;obtain⟨d,r,rfl,h1,h2⟩:=hasAllW_cons Bc;obtain rfl:=hasAllW_nil h2;obtain⟨xs,rfl,h3⟩:=hasW_list h1;obtain⟨ns,rfl⟩:=items_int h3;have cy:ns.length<=n:=by
  unfold OpenLaw.pre at hc;have h4:(WTm.not (.lt (.lit (.int (n:Int))) (.len (.arg 0)))).holds [] { args:=[.list (ns.map .int)] }=true:=by
   have h4:=(holds_andW hc).1;rw[hn] at h4;exact h4
  have h5:=condW_of h4 (w_not (w_lt w_lit (w_len_list (w_arg rfl))));rw[Zb] at h5;refine Y4 λq=>?_
  have q':(n:Int)<((ns.length:Nat):Int):=by omega
  first
   |(rw[decide_eq_true q'] at h5;exact absurd h5 (by decide))
   |(simp at h5;omega)
 cases Fa with
 |cons w1 w2 =>
  cases w2
  cases w1 with
  |list ho oA=>exact⟨_,_,ns,rfl,rfl,ho,lG ns _ oA,cy⟩
def zW (l:OpenLaw)(args:List WData):l.row.toRowW.claim.post args (.bool true) args=true :=
 postW_of (r:=l.row.toRowW) (X:=(true == true))
  (show WShape.has [] (.bool true) .bool=true by first |rfl |decide |simp[WShape.has,WShape.arms,WShape.armsAll])
  (show(WTm.eq .res (.lit (.bool true))).value [] { args:=args,res:=some (.bool true),after:=args }=some (.bool (true == true)) from w_eq_bool (w_res rfl) w_lit) rfl
def uy {l:OpenLaw}{n:Nat}{q:Program}{loose:Δ2}{XP:(Θ3)->Heap->Prop}{YP:World->Heap->Prop}{d:DefRec}
  (hn:l.most=some n) (P6:d.params.defaults=[])
  (call:∀(w:World) (eG br:Shared) (mg mb:Θ3) (fa:Addr) (o:Obj) (pm cd gq:Value) (a:Addr) (vs:Δ3) (ns:Γ3),
   Ground q loose [] XP w eG mg mb br.heap->YP w br.heap ->
   br.heap.get? fa=some o->o.data=.func (docDef d.name d.params d.body d.scope pm cd gq)->br.heap.CodeRec cd d.name->mg d.name=some (.ref fa) ->
   br.heap.get? a=some { cls:=.type "list",data:=.seq vs.toArray }->IntsAre vs ns->ns.length<=n->br.gens=#[] ->
   codeAny (model l.prog w) callerA (.call (.ref fa) ⟨[.ref a],[]⟩) (λr s'=>r=.ok (.ret (.bool true))/\OldK br.heap s'.heap/\s'.os=br.os/\AllBare s'.gens) br) :
  WalkO q loose XP YP l.row.toRowW d [] (λf vs=>PySem.call f vs):=by
 intro w eG br mg mb G Y fa o pm cd gq dV kV ho hd zb hD PQ hg args Lg as Gx ahH hrd Fa hlo;obtain rfl:dV=.none:=Dflts.none hD P6;obtain rfl:kV=.none:=Dflts.noKw hD;obtain⟨a,vs,ns,rfl,rfl,LL,Ci,cy⟩:=zQ hn Gx Fa;refine enter_call (codeAny_mono (call w eG br mg mb fa o pm cd gq a vs ns G Y ho (fd_plain hd) zb PQ LL Ci cy hg) λr s' hq=>?_);obtain⟨rfl,h2,h3,h4⟩:=hq;exact⟨.inl ⟨.bool true,.bool true,[],rfl,λ_=>rfl,.bool true,zW l _,λ_=>⟨List.Pairwise.nil,λ_ hm=>(nomatch hm)⟩⟩,h2,h3,h4⟩
section
variable {prog:Program}{w:World}{A:Around}{E:Θ2}{s:Shared}{K:Frag}
end
end Att
namespace L2
open PySem PySem.Spec PyProof.Rows
theorem oT:∀{vs:Δ3}{ns:Γ3},IntsAre vs ns->aY (ns.map V.int) vs
 |_,_,.nil=>.nil
 |_,_,.cons n t h=>.cons ⟨t,rfl⟩ (oT h)
def L7 (H:Hp):Prop:=∀b,H b=none\/∃o xs,H b=some (.hX o (.lst xs))
def Ew {P:Program}{w:World}{K:Θ1}{mg mb:Θ3}{CX:Bi}{k:Nat}{fa a:Addr}{fd:FuncData}{x:Str}{sp:Sp}{br:Shared}{vs:Δ3}{ns:Γ3}
  (KX:K.In br.heap) (Oy:br.heap.Ns mainGlobals mg) (hb:br.heap.Ns builtinsNs mb) (hbb:∀x:Str,x ≠ "__name__"->mb x=bootBuiltins x) (F':br.heap.NoLimit) (hg:br.gens=#[])
  (ha:br.heap.get? a=some { cls:=.type "list",data:=.seq vs.toArray }) (hi:IntsAre vs ns) (hl:ns.length<=sizeLine) (hr:c3 k callerA)
  (F:∀base:Heap,K.In base->base.Ns mainGlobals mg->aK P w K mg base CX k fa fd [x] sp) (TM:∀(s:Shared) (u:Value),BindsTo s fd ⟨[u],[]⟩ [(x,u)])
  (Fb:∀H:Hp,L7 H->bD K H a (ns.map V.int)->sp [.ref a] H (λv _=>v=.bl true) λ_ _ _=>False)
  (Wh:∀H e s',CX [] H br (λ_ _ _=>False) e s'->False) :
  codeAny (model P w) callerA (.call (.ref fa) ⟨[.ref a],[]⟩) (λr s'=>r=.ok (.ret (.bool true))/\OldK br.heap s'.heap/\s'.os=br.os/\AllBare s'.gens) br:=by
 have rv:=oT hi;have RS:=hi.length;have Sj:∀H:Hp,L7 H->bD K H a (ns.map V.int)->jN P w H br.heap->(∀b,H b≠none->b=a)->(H a≠none->K.lookup a=none) ->
   codeAny (model P w) callerA (.call (.ref fa) ⟨[.ref a],[]⟩) (λr s'=>r=.ok (.ret (.bool true))/\OldK br.heap s'.heap/\s'.os=br.os/\AllBare s'.gens) br:=by
  intro H hO hS bP hA hK;have yS:∀{b:Addr}{o:Obj},br.heap.get? b=some o->H b=none->(p6 br.heap H).get? b=some o:=λe n=>Ez e n
  have Pp:∀{b:Addr}{o:Obj}{es:Array DictEntry}{ep:Nat},br.heap.get? b=some o->o.data=.dict es ep->H b=none:=λ{b o es ep} e d=>by
   cases q:H b with
   |none=>rfl
   |some u =>
    have e':b=a:=hA b (by rw[q];simp);subst e';rw[ha] at e;cases e;have d':Data.seq vs.toArray _=Data.dict es ep:=d;cases d'
  have Ug:∀{b:Addr}{m:Θ3},br.heap.Ns b m->(p6 br.heap H).Ns b m:=λ{b m} ⟨o,es,ep,e,d,r⟩=>⟨o,es,ep,yS e (Pp e d),d,r⟩
  have hKb:K.In (p6 br.heap H):=λb o e=>yS (KX b o e) (by
   cases q:H b with
   |none=>rfl
   |some u =>
    have e':b=a:=hA b (by rw[q];simp);subst e';rw[hK (by rw[q];simp)] at e;cases e)
  have hM:Mod K mg (p6 br.heap H):=⟨hKb,Ug Oy,⟨mb,Ug hb,hbb⟩,let ⟨mc,h1,h2⟩:=F';⟨mc,Ug h1,h2⟩⟩;have e0:GU P w K mg (p6 br.heap H) callerA [] br H:=⟨rfl,hM,λb o e=>Ia e,Nat.le_of_eq (AF _ _),trivial,λb hb=>absurd (show b∈([]:List Addr) from hb) (by simp),bP,.of_eq hg⟩;refine codeAny_mono ((F _ hKb (Ug Oy)).run callerA [] br H ⟨[.ref a],[]⟩ [.ref a] [.ref a] _ _ hr e0 (TM br (.ref a)) (.cons rfl .nil) (Fb H hO hS)) λr s' h=>?_
  cases r with
  |error e=>exact(Wh H e s' h).elim
  |ok fl =>
   cases fl with
   |next=>exact False.elim h
   |brk=>exact False.elim h
   |cont=>exact False.elim h
   |ret u =>
    obtain⟨v,H',os,bare,un,l',r',q⟩:=h;have q':v=.bl true:=q;subst q';obtain rfl:u=Value.bool true:=r';refine⟨rfl,OldK.of_keep λb o e=>?_,os,bare⟩;cases q:H b with
    |none=>exact un.keep b o e q (by intro z;exact absurd (show b∈([]:List Addr) from z) (by simp)) (by simp)
    |some u =>
     rcases hO b with z |⟨ob,xs,z⟩
     .rw[q] at z;cases z
     .have z2:=un.p7 b ob _ z;obtain⟨e1,_⟩:=bP b _ z;obtain⟨e2,_⟩:=l' b _ z2;rw[e] at e1;cases e1;exact e2
 cases hk:K.lookup a with
 |some o =>
  have e:=KX a o hk;rw[ha] at e;cases e;refine Sj (λ_=>none) (λ_=>.inl rfl) (.inr ⟨_,vs.toArray,_,hk,rfl,rfl,rfl,by rw[Z1,RS];exact hl,by simpa using rv⟩) (λb u z=>by have z':(none:Option HO)=some u:=z;cases z') (λb z=>absurd rfl z) λz=>absurd rfl z
 |none =>
  refine Sj (λb=>if b=a then some (.hX { cls:=.type "list",data:=.seq vs.toArray } (.lst (ns.map V.int))) else none) (λb=>?_) (.inl (.inr ⟨{ cls:=.type "list",data:=.seq vs.toArray },if_pos rfl⟩)) (λb u z=>?_) (λb z=>?_) λ_=>hk
  .by_cases hb:b=a
   .exact .inr ⟨_,_,if_pos hb⟩
   .exact .inl (if_neg hb)
  .by_cases hb:b=a
   .have z':=(if_pos hb).symm.trans z;cases z';subst hb;exact⟨ha,by rw[Zb];exact hl,vs,_,rv,ha⟩
   .have z':=(if_neg hb).symm.trans z;cases z'
  .by_cases hb:b=a
   .exact hb
   .exact absurd (if_neg hb) z
def GW {l:PySem.W.OpenLaw}{n k:Nat}{q:Program}{loose:Δ2}{XP:(Θ3)->Heap->Prop}{YP:World->Heap->Prop}{d:DefRec}{K:Params->Θ1}{CX:World->Bi}{sp:World->Sp}{x:Str}
  (hn:l.most=some n) (hn2:n<=sizeLine) (P6:d.params.defaults=[]) (hr:c3 k callerA)
  (hY:∀(w:World) (h:Heap),YP w h->(K w.params).In h)
  (F:∀(w:World) (mg:Θ3) (fa:Addr) (h:Heap),(K w.params).In h->h.Ns mainGlobals mg->mg d.name=some (.ref fa) ->
   ∃fd:FuncData,(∀(s:Shared) (u:Value),BindsTo s fd ⟨[u],[]⟩ [(x,u)]) /\
    ∀base:Heap,(K w.params).In base->base.Ns mainGlobals mg->aK l.prog w (K w.params) mg base (CX w) k fa fd [x] (sp w))
  (Fb:∀(w:World) (H:Hp) (a:Addr) (ns:Γ3),ns.length<=n->L7 H->bD (K w.params) H a (ns.map V.int)->sp w [.ref a] H (λv _=>v=.bl true) λ_ _ _=>False)
  (Wh:∀(w:World) (H:Hp) (s:Shared) (e:Value) (s':Shared),CX w [] H s (λ_ _ _=>False) e s'->False) :
  PySem.W.WalkO q loose XP YP l.row.toRowW d [] (λf vs=>PySem.call f vs):=by
 refine Att.uy hn P6 λw eG br mg mb fa o pm cd gq a vs ns G Y ho hd zb PQ LL Ci cy hg=>?_
 have KX:=hY w _ Y;obtain⟨fd,hb,hF⟩:=F w mg fa _ KX G.T.g PQ;exact Ew KX G.T.g G.T.b G.T.builtins G.T.nolimit hg LL Ci (Zr cy hn2) hr hF hb (λH hO hS=>Fb w H a ns cy hO hS) λH e s'=>Wh w H br e s'
def uL (s:Stmt):Arguments:=match s with
 |.FunctionDef _ a _ _ _ _ _ _ _ _=>a
 |_=>{ posonlyargs:=[],args:=[],vararg:=none,kwonlyargs:=[],kw_defaults:=[],kwarg:=none,defaults:=[] }
def rO (s:Stmt):List Stmt:=match s with
 |.FunctionDef _ _ b _ _ _ _ _ _ _=>b
 |_=>[]
def bz (s:Stmt):Scope:=match s with
 |.FunctionDef _ _ _ _ _ _ sc _ _ _=>sc
 |_=>{ kind:=.function,names:=[],isGenerator:=false,isCoroutine:=false }
abbrev ci:Bi:=λ_ _ _ _ _ _=>False
abbrev E0:XK:=λ_ _ _=>False
def aS {X:Cx}:vE ci X E0:=λ_ _ _ _ _ _ _ h=>h.elim
structure cT (K:Θ1)(x qual:Str)(st:Stmt)(f:Addr)(fd:FuncData):Prop where
 ex:∃(oc:Value) (od:Option Addr) (kV gq pm:Value) (an:Option Addr) (bH ct:Value) (IY:Array (Φ1)),
  fd=PySem.W.fnOf x qual (uL st) (rO st) (bz st) .none kV gq pm an bH ct/\K.lookup f=some ⟨oc,od,.func fd,IY⟩/\PySem.W.codeIn K bH qual=true
 kp:PySem.W.keepIn K (.ref f)=true
section
variable {P:Program}{w:World}{K:Θ1}{mg:Θ3}{base:Heap}
def cT.ok {x qual:Str}{st:Stmt}{f:Addr}{fd:FuncData}{N ps:Δ2}{k:Nat}{sp:Sp}(F:cT K x qual st f fd)(S:ak N ps (bz st))(len:∀vs H Q E,sp vs H Q E->vs.length=ps.length)
  (Cj:∀(bH:Value) (A:Around) (outer:List Env) (s:Shared) (H:Hp) (vs:List V) (Q:VK) (E:XK),c3 k (A.deeper (envOfC qual (bz st) s.heap.objs.size f bH))->sp vs H Q E ->
   ∃t,jb (vd ci P w K mg base N qual (bz st) f bH A outer s H E).Po (rO st) t/\t { nx:=λ_ H'=>Q .bV H',rt:=Q } (start N vs) H):aK P w K mg base ci (k+1) f fd ps sp:=by
 obtain⟨oc,od,kV,gq,pm,an,bH,ct,IY,rfl,lk,zb⟩:=F.ex;refine TQ lk zb S len λA outer s H vs Q E hr Fb=>?_
 obtain⟨t,h,q⟩:=Cj bH A outer s H vs Q E hr Fb;exact⟨t,h.Po,q⟩
def cT.binds {x qual:Str}{st:Stmt}{f:Addr}{fd:FuncData}{ps:Δ2}(F:cT K x qual st f fd)
  (h:∀(kV gq pm:Value) (an:Option Addr) (bH ct:Value) (us:Δ3),us.length=ps.length->bindArgs (PySem.W.fnOf x qual (uL st) (rO st) (bz st) .none kV gq pm an bH ct) ⟨us,[]⟩=pure (ps.zip us)):Binds K fd ps []:=by
 obtain⟨oc,od,kV,gq,pm,an,bH,ct,IY,rfl,lk,zb⟩:=F.ex;exact .all (h kV gq pm an bH ct)
def vA {x qual:Str}{st:Stmt}{f:Addr}{oc:Value}{od an:Option Addr}{IY:Array (Φ1)}{kV gq pm bH ct:Value}(l:K.lookup f=some ⟨oc,od,.func (PySem.W.fnOf x qual (uL st) (rO st) (bz st) .none kV gq pm an bH ct),IY⟩)
  (c:PySem.W.codeIn K bH qual=true) (k:PySem.W.keepIn K (.ref f)=true):cT K x qual st f (PySem.W.fnOf x qual (uL st) (rO st) (bz st) .none kV gq pm an bH ct):=⟨⟨oc,od,kV,gq,pm,an,bH,ct,IY,rfl,l,c⟩,k⟩
end
def xu {A:Around}{k:Nat}(hr:c3 k A):A.units+1<cLine:=Nat.lt_of_le_of_lt (Nat.add_le_add_left (by decide:1<=64) _) hr.units
section
variable {X:Cx}
def pv (i:Nat){x:Str}{pos:Pos}(hN:X.N[i]?=some x:=by rfl)(hv:QP X.env.scope x:=by first |exact Or.inl rfl |exact Or.inr (Or.inl rfl) |exact Or.inr (Or.inr rfl))(hd:(x == ("__debug__" : Str))=false:=by decide)
  (zb:(x == ("__classdict__" : Str))=false:=by decide):PE X (.Name x pos) (u3 i):=Nb hN hv hd zb
end
def cR {A B:Prop}(h:B):if false=true then A else B:=by
 rw[if_neg Z4];exact h
def cE {A B:Prop}(h:A):if true=true then A else B:=by
 rw[if_pos rfl];exact h
def zq {c A B:Prop}[Decidable c](h1:c->A)(h2:¬ c->B):if c then A else B:=by
 by_cases h:c
 .rw[if_pos h];exact h1 h
 .rw[if_neg h];exact h2 h
def dU (env:Env):List (Str×NameKind)->List (Str×Addr)->List (Str×Addr)
 |[],acc=>acc
 |(n,k)::r,acc=>if k == .free then dU env r ((n,(env.cells.lookup n).getD 0)::acc) else dU env r acc
theorem lc {env:Env}(f:Str×NameKind->List (Str×Addr)->Sem (ForInStep (List (Str×Addr))))
  (hf:∀n k cs,f (n,k) cs=if k == .free then (do let a <- cellOf env n;pure (.yield ((n,a)::cs))) else pure (.yield cs)) :
  ∀(names:List (Str×NameKind)) (acc:List (Str×Addr)),(∀x∈names,x.2=.free->(env.cells.lookup x.1).isSome=true)->forIn names acc f=pure (dU env names acc)
 |[],acc,_=>by rw[List.forIn_nil];rfl
 |(n,k)::r,acc,h=>by
  rw[List.forIn_cons,hf];unfold dU;have hr:∀x∈r,x.2=.free->(env.cells.lookup x.1).isSome=true:=λx hx=>h x (Zh _ hx)
  by_cases hk:(k == NameKind.free)=true
  .rw[if_pos hk,if_pos hk];have e:=h (n,k) Zg (by simpa using hk);obtain⟨c,hc⟩:=X9.mp e;unfold cellOf;simp only at hc;rw[hc];simp only[pure_bind,Xh];exact lc f hf r _ hr
  .rw[if_neg hk,if_neg hk,pure_bind];exact lc f hf r _ hr
def Ot {scope:Scope}{env:Env}(h:∀x∈scope.names,x.2=.free->(env.cells.lookup x.1).isSome=true):closureFor scope env=pure (dU env scope.names []):=by
 show(forIn scope.names ([]:List (Str×Addr)) _ >>= λcs=>pure cs)=_;rw[lc (env:=env) _ (λn k cs=>by cases hk:k == NameKind.free<;>simp[hk]) scope.names [] h];simp only[pure_bind]
theorem iJ {env:Env}{x:Str}{c:Addr}:∀(names:List (Str×NameKind)) (acc:List (Str×Addr)),(∀x∈names,x.2=.free->(env.cells.lookup x.1).isSome=true) ->
  (dU env names acc).lookup x=some c->env.cells.lookup x=some c\/acc.lookup x=some c
 |[],_,_,e=>.inr e
 |(n,k)::r,acc,h,e=>by
  unfold dU at e;have hr:∀x∈r,x.2=.free->(env.cells.lookup x.1).isSome=true:=λx hx=>h x (Zh _ hx)
  by_cases hk:(k == NameKind.free)=true
  .rw[if_pos hk] at e;rcases iJ r _ hr e with q |q
   .exact .inl q
   .rw[Qa] at q;cases hb:x == n with
    |true =>
     rw[hb] at q;have hx:x=n:=by simpa using hb
     obtain⟨c',hc⟩:=X9.mp (h (n,k) Zg (by simpa using hk));simp only at hc;rw[hc] at q;subst hx;rw[hc];exact .inl (by simpa using q)
    |false=>rw[hb] at q;exact .inr q
  .rw[if_neg hk] at e;exact iJ r _ hr e
theorem ko {env:Env}{x:Str}:∀(names:List (Str×NameKind)) (acc:List (Str×Addr)),((x,NameKind.free)∈names\/(acc.lookup x).isSome=true)->((dU env names acc).lookup x).isSome=true
 |[],_,h=>h.elim (λe=>nomatch e) id
 |(n,k)::r,acc,h=>by
  unfold dU;by_cases hk:(k == NameKind.free)=true
  .rw[if_pos hk];refine ko r _ ?_;rcases h with h |h
   .rcases Zk.mp h with e |h
    .cases e;exact .inr (by rw[Qa];simp)
    .exact .inl h
   .refine .inr ?_;rw[Qa];split
    .rfl
    .exact h
  .rw[if_neg hk];refine ko r _ ?_;rcases h with h |h
   .rcases Zk.mp h with e |h
    .cases e;exact absurd (by decide) hk
    .exact .inl h
   .exact .inr h
theorem l9 {x:Str}{c:Addr}:∀(names:List (Str×NameKind)) (k:Nat) (acc:List (Str×Addr)),(cellsFrom k names acc).lookup x=some c->k<=c\/(acc.lookup x=some c/\(x,NameKind.cell)∉names)
 |[],_,_,e=>.inr ⟨e,by simp⟩
 |(n,kd)::r,k,acc,e=>by
  unfold cellsFrom at e;by_cases hk:(kd == NameKind.cell)=true
  .rw[if_pos hk] at e;rcases l9 r _ _ e with q |⟨q,nr⟩
   .exact .inl (by omega)
   .rw[Qa] at q;cases hb:x == n with
    |true=>rw[hb] at q;cases q;exact .inl (Ze _)
    |false =>
     rw[hb] at q;refine .inr ⟨q,λz=>?_⟩;rcases Zk.mp z with z |z
     .cases z;simp at hb
     .exact nr z
  .rw[if_neg hk] at e;rcases l9 r _ _ e with q |⟨q,nr⟩
   .exact .inl q
   .refine .inr ⟨q,λz=>?_⟩;rcases Zk.mp z with z |z
    .cases z;exact hk (by simp)
    .exact nr z
theorem vD:∀(names:List (Str×NameKind)) (k:Nat) (acc:List (Str×Addr)),(∀p∈acc,p.2<k)->(∀p q,p∈acc->q∈acc->p.2=q.2->p.1=q.1)->∀p q,p∈cellsFrom k names acc->q∈cellsFrom k names acc->p.2=q.2->p.1=q.1
 |[],_,_,_,hi,p,q,hp,hq,e=>hi p q hp hq e
 |(n,kd)::r,k,acc,hb,hi,p,q,hp,hq,e=>by
  unfold cellsFrom at hp hq;by_cases hk:(kd == NameKind.cell)=true
  .rw[if_pos hk] at hp hq;refine vD r (k+1) ((n,k)::acc) (λz hz=>?_) (λy z hy hz e=>?_) p q hp hq e
   .rcases Zk.mp hz with rfl |hz
    .exact Qq _
    .exact Qk (hb z hz)
   .rcases Zk.mp hy with hy |hy<;>rcases Zk.mp hz with hz |hz
    .rw[hy,hz]
    .subst hy;exact absurd (hb z hz) (by rw[<- e];exact Yi _)
    .subst hz;exact absurd (hb y hy) (by rw[e];exact Yi _)
    .exact hi y z hy hz e
  .rw[if_neg hk] at hp hq;exact vD r k acc hb hi p q hp hq e
theorem rh:∀(names:List (Str×NameKind)) (h:Heap) (acc:List (Str×Addr)) (p:Str×Addr),p∈cellsFrom h.objs.size names acc->p∈acc\/((pushCells h names).IsCell p.2 none/\h.objs.size<=p.2)
 |[],_,_,_,e=>.inl e
 |(n,kd)::r,h,acc,p,e=>by
  unfold cellsFrom at e;unfold pushCells;by_cases hk:(kd == NameKind.cell)=true
  .rw[if_pos hk] at e ⊢;have hs:(h.push { cls:=.type "cell",data:=.cell none }).objs.size=h.objs.size+1:=Xa ..;rw[<- hs] at e;rcases rh r _ _ p e with q |⟨q,l⟩
   .rcases Zk.mp q with rfl |q
    .exact .inr ⟨Heap.IsCell.keeps ⟨_,Zy _ rfl,rfl⟩ (pushCells_keeps _ _),Ze _⟩
    .exact .inl q
   .exact .inr ⟨q,by omega⟩
  .rw[if_neg hk] at e ⊢;exact rh r h acc p e
def fu {M:Model}{A:Around}{E:Θ2}{s:Shared}{scope:Scope}{globals:Addr}{cl:List (Str×Addr)}{qual:Str}{outer:Env}{Q:Env->Shared->Prop}
  (hQ:Q (newEnv scope s.heap.objs.size globals (cellsFrom (s.heap.objs.size+1) scope.names cl) qual none .none (some outer) builtinsNs) { s with heap:=pushCells (s.heap.push { cls:=.type "dict",data:=.dict #[] }) scope.names }) :
  wpAny M A (newFunctionEnv scope globals cl [] qual none .none (some outer)) Q E s:=by
 simp only[newFunctionEnv,Option.isSome_some,if_true];refine Za (wpAny_alloc ?_);refine Za (wpAny_layCells _ (λname kind cells=>by cases hkc:kind == NameKind.cell<;>simp[hkc]) _ _ _ _ ?_);rw[show({ s with heap:=s.heap.push { cls:=.type "dict",data:=.dict #[] } }:Shared).heap.objs.size=s.heap.objs.size+1 from Xa ..];rw[List.forIn_nil];exact Za (wpAny_pure (wpAny_pure hQ))
def AO {prog:Program}{w:World}{A:Around}{R:Result->Shared->Prop}{s:Shared}{dr fb iter:Expr}{du:Ξ2}{scope:Scope}{pos:Pos}{it acc:Value}{env:Env}(I:Nat->Shared->Prop)
  (eS:∀n s,I n s->wpAny (model prog w) A (pyNext it) (λr br=>match r with
   |none=>R (.ok .next) br
   |some v=>wpAny (model prog w) A (letOwnedTupleGo fb it v) (λ_ io=>wpAny (model prog w) A (assign fb env v) (λ_ cr =>
     wpAny (model prog w) A (forIn du true λc r=>if r=true then do let ok <- isTrue c env (eval c env);pure (ForInStep.yield ok) else pure (ForInStep.yield r)) (λok dv =>
      if ok=true then wpAny (model prog w) A (eval dr env) (λx gx =>
       wpAny (model prog w) A (call (.builtin "list.append") [acc,x]) (λ_ mr=>∃m,m<n/\I m mr) (λ_ _=>False) gx) (λ_ _=>False) dv
      else ∃m,m<n/\I m dv) (λ_ _=>False) cr) (λ_ _=>False) io) (λ_ _=>False) br) (λ_ _=>False) s)
  (n:Nat) (h:I n s) :
  codeAny (model prog w) A (.compLoop (.ListComp dr [⟨fb,iter,du,0⟩] scope pos) 0 it acc env) R s:=by
 refine codeAny_loop rfl I (λn s hI=>?_) n h;show wpAny _ A ((compTurn (.ListComp dr [⟨fb,iter,du,0⟩] scope pos) 0 it acc env).onRaise (λx=>do noteFrame x env;theTreesLotGoes x)) _ _ s;refine wpAny_noted ?_;rw[compTurn_list];refine Za (wpAny_standAt (Za (wpAny_mono (eS n s hI) (λr br kJ=>?_) λ_ _ h'=>h'.elim)));cases r with
 |none=>exact wpAny_pure kJ
 |some v =>
  refine Za (wpAny_mono kJ (λ_ io mP=>?_) λ_ _ h'=>h'.elim);refine Za (wpAny_mono mP (λ_ cr kI=>Za (wpAny_mono kI (λok dv kH=>?_) λ_ _ h'=>h'.elim)) λ_ _ h'=>h'.elim);cases ok with
  |false=>exact wpAny_pure ⟨rfl,kH⟩
  |true =>
   exact Za (Za (wpAny_mono kH (λx gx u8=>Za (wpAny_mono u8 (λ_ mr u7=>wpAny_pure (wpAny_pure ⟨rfl,u7⟩)) λ_ _ h'=>h'.elim)) λ_ _ h'=>h'.elim))
def gX (scope:Scope)(C:Addr)(env:Env):Env:=compEnvC scope (cellsFrom (C+1) scope.names (dU env scope.names [])) C env
def cN (X:Cx)(scope:Scope)(C:Addr)(N:Δ2)(fp:List Addr)(s:Shared)(H:Hp):Cx where
 prog:=X.prog
 w:=X.w
 K:=X.K
 mg:=X.mg
 base:=X.base
 A:=X.A
 N:=N
 eG:=s
 cC:=H
 env:=gX scope C X.env
 outer:=X.stack
 stack:=X.stack
 ex:=fp
 fn:=λx=>decide ((x,NameKind.cell)∈scope.names)
 calm:=X.calm
 pn:=[]
 xe:=λ_ _=>False
def dX (X:Cx)(du:Ξ2)(t:TT):Prop :=
 ∀(ae:Γ2) (s:Shared) (σ:St) (H:Hp) (Q:Bool->Hp->Prop),Inv X ae σ H s->t σ H Q ->
  wpAny (model X.prog X.w) X.A (forIn du true λc r=>if r=true then do let ok <- isTrue c X.env (eval c X.env);pure (ForInStep.yield ok) else pure (ForInStep.yield r)) (TP X ae σ Q) X.xe s
def QY:TT:=λ_ H Q=>Q true H
def I0 {X:Cx}:dX X [] QY:=λ_ s σ H Q I h=>wpAny_tests_nil ⟨H,I,h⟩
def j9 {X:Cx}{c:Expr}{t:TT}(h:PT X c t):dX X [c] t:=λae s σ H Q I q=>wpAny_tests_one (h ae s σ H Q I q)
def dQ (own:Nat)(cap:List Nat)(σ:St):St:=List.replicate own none++cap.map λi=>(σ[i]?).getD none
structure aJ (X:Cx)(scope:Scope)(own:Δ2)(cap:Δ2)(ix:List Nat):Prop where
 kind:scope.kind=.function
 names:∀x∈scope.names,x.2=.local->scope.names.lookup x.1=some .local
 nd:(scope.names.map (·.1)).Nodup
 frees:∀x∈scope.names,x.2=.free->X.env.kindOf x.1=some .cell\/X.env.kindOf x.1=some .free
 ν:∀(j:Nat) (x:Str),cap[j]?=some x->(x,NameKind.free)∈scope.names
 at':∀(j:Nat) (x:Str),cap[j]?=some x->∃i,ix[j]?=some i/\X.N[i]?=some x
 len:cap.length=ix.length
def gO {env:Env}{scope:Scope}{x:Str}{k:NameKind}(h:(relabel scope env).names.lookup x=some k):(x,k)∈scope.names\/(k=.cell/\(x,NameKind.free)∈scope.names):=by
 have m:=Xl h;obtain⟨⟨n,k'⟩,hm,e⟩:=Zd.mp m;simp only at e;split at e
 .rename_i hc;cases e;have:k'=NameKind.free:=by simp at hc;exact hc.1.1
  subst this;exact .inr ⟨rfl,hm⟩
 .cases e;exact .inl hm
def nQ {names:List (Str×NameKind)}(nd:(names.map (·.1)).Nodup){x:Str}{k k':NameKind}(h:(x,k)∈names)(h':(x,k')∈names):k=k':=by
 induction names with
 |nil=>cases h
 |cons p r ih =>
  rw[Zi,Yd] at nd;rcases Zk.mp h with e |h<;>rcases Zk.mp h' with e' |h'
  .rw[<- e'] at e;cases e;rfl
  .exact absurd (Zd.mpr ⟨_,h',by rw[<- e]⟩) nd.1
  .exact absurd (Zd.mpr ⟨_,h,by rw[<- e']⟩) nd.1
  .exact ih nd.2 h h'
section
variable {X:Cx}{ae:Γ2}{σ:St}{H:Hp}{s:Shared}{scope:Scope}{own cap:Δ2}{ix:List Nat}
def Inv.block (I:Inv X ae σ H s)(B:aJ X scope own cap ix){fp:List Addr}(hf:∀b∈fp,dh X ae H b)(ho:∀b∈fp,∃o,s.heap.get? b=some o) :
  Inv (cN X scope s.heap.objs.size (own++cap) fp s H) [] (dQ own.length ix σ) H { s with heap:=pushCells (s.heap.push { cls:=.type "dict",data:=.dict #[] }) scope.names }:=by
 have has:∀x∈scope.names,x.2=.free->(X.env.cells.lookup x.1).isSome=true:=λx hx hk=>by
  obtain⟨c,e⟩:=I.ok.has x.1 (B.frees x hx hk);rw[e];rfl
 have keep:∀b o,s.heap.get? b=some o->(pushCells (s.heap.push { cls:=.type "dict",data:=.dict #[] }) scope.names).get? b=some o:=λb o e=>pushCells_keeps _ _ b o (Zj _ e)
 have old:∀x c,X.env.cells.lookup x=some c->c<s.heap.objs.size:=λx c e=>let ⟨v,q⟩:=I.cell x c e;q.lt
 have rg:∀x c,(cellsFrom (s.heap.objs.size+1) scope.names (dU X.env scope.names [])).lookup x=some c->s.heap.objs.size+1<=c\/(X.env.cells.lookup x=some c/\(x,NameKind.cell)∉scope.names):=λx c e=>by
  rcases l9 _ _ _ e with q |⟨q,nm⟩
  .exact .inl q
  .rcases iJ _ _ has q with q |q
   .exact .inr ⟨q,nm⟩
   .cases q
 have l8:∀p∈dU X.env scope.names [],X.env.cells.lookup p.1=some p.2:=by
  have QL:∀(names:List (Str×NameKind)) (acc:List (Str×Addr)),(∀x∈names,x.2=.free->(X.env.cells.lookup x.1).isSome=true)->(∀p∈acc,X.env.cells.lookup p.1=some p.2)->∀p∈dU X.env names acc,X.env.cells.lookup p.1=some p.2:=by
   intro names;induction names with
   |nil=>intro acc _ h p hp;exact h p hp
   |cons y r ih =>
    intro acc h h2 p hp;obtain⟨n,k⟩:=y;unfold dU at hp;by_cases hk:(k == NameKind.free)=true
    .rw[if_pos hk] at hp;refine ih _ (λx hx=>h x (Zh _ hx)) (λq hq=>?_) p hp;rcases Zk.mp hq with rfl |hq
     .obtain⟨c,e⟩:=X9.mp (h (n,k) Zg (by simpa using hk));simp only at e ⊢;rw[e];rfl
     .exact h2 q hq
    .rw[if_neg hk] at hp;exact ih _ (λx hx=>h x (Zh _ hx)) h2 p hp
  exact QL _ _ has (λp hp=>nomatch hp)
 have η:∀x y c,(cellsFrom (s.heap.objs.size+1) scope.names (dU X.env scope.names [])).lookup x=some c->(cellsFrom (s.heap.objs.size+1) scope.names (dU X.env scope.names [])).lookup y=some c->x=y:=λx y c e1 e2 =>
  vD scope.names (s.heap.objs.size+1) (dU X.env scope.names []) (λp hp=>Qk (old p.1 p.2 (l8 p hp)))
   (λp q hp hq e=>I.ok.inj p.1 q.1 p.2 (l8 p hp) (by rw[e];exact l8 q hq)) (x,c) (y,c) (Xl e1) (Xl e2) rfl
 have TV:∀x c,(cellsFrom (s.heap.objs.size+1) scope.names (dU X.env scope.names [])).lookup x=some c->∃v,(pushCells (s.heap.push { cls:=.type "dict",data:=.dict #[] }) scope.names).IsCell c v:=λx c e=>by
  have m:=Xl e;have hs:(s.heap.push { cls:=.type "dict",data:=.dict #[] }).objs.size=s.heap.objs.size+1:=Xa ..;rw[<- hs] at m;rcases rh _ _ _ _ m with q |⟨q,_⟩
  .obtain⟨v,z⟩:=I.cell _ _ (l8 _ q);exact⟨v,z.keeps keep⟩
  .exact⟨none,q⟩
 have Sc:∀b∈fp,b<s.heap.objs.size:=λb hb=>let ⟨o,e⟩:=ho b hb;Zn e
 refine⟨⟨I.ok.mod,?_,I.ok.glob,I.ok.blt,Ze _,η,λx hx=>?_,λx c hfx e=>?_,I.ok.hd,I.ok.frames,.inl rfl,λb hb=>⟨?_,λx c e=>?_⟩,I.bs,Zr I.ok.Jk I.sz,λb o e hb=>?_,λb hb hz=>?_,I.stack,I.xS⟩,
  rfl,I.bare,Un.kept keep,⟨λ_=>none,(Heap.Ns.new s.heap (.type "dict")).keeps (pushCells_keeps _ _),λi x v h1 h2 h3=>?_⟩,TV,I.bP.fresh (Ze _),λx c e=>?_,λp hp=>absurd (show p∈([]:Γ2) from hp) (by simp),I.bP.kept keep,?_⟩
 .exact B.kind
 .have uF:(relabel scope X.env).names.lookup x=some .cell\/(relabel scope X.env).names.lookup x=some .free:=hx;have:((cellsFrom (s.heap.objs.size+1) scope.names (dU X.env scope.names [])).lookup x).isSome=true:=by
   have fr:(x,NameKind.free)∈scope.names->((cellsFrom (s.heap.objs.size+1) scope.names (dU X.env scope.names [])).lookup x).isSome=true:=λz=>PySem.W.cellsFrom_some _ _ _ (.inr (ko _ _ (.inl z)))
   have ce:(x,NameKind.cell)∈scope.names->((cellsFrom (s.heap.objs.size+1) scope.names (dU X.env scope.names [])).lookup x).isSome=true:=λz=>by
    have QL:∀(names:List (Str×NameKind)) (k:Nat) (acc:List (Str×Addr)),(x,NameKind.cell)∈names->((cellsFrom k names acc).lookup x).isSome=true:=by
     intro names;induction names with
     |nil=>intro _ _ z;cases z
     |cons y r ih =>
      intro k acc z;obtain⟨n,kd⟩:=y;unfold cellsFrom;by_cases hk:(kd == NameKind.cell)=true
      .rw[if_pos hk];rcases Zk.mp z with e |z
       .cases e
        exact PySem.W.cellsFrom_some _ _ _ (.inr (by rw[Qa];simp))
       .exact ih _ _ z
      .rw[if_neg hk];rcases Zk.mp z with e |z
       .cases e;exact absurd (by decide) hk
       .exact ih _ _ z
    exact QL _ _ _ z
   rcases uF with q |q
   .rcases gO q with q |⟨_,q⟩
    .exact ce q
    .exact fr q
   .rcases gO q with q |⟨e,_⟩
    .exact fr q
    .cases e
  exact X9.mp this
 .have hm:(x,NameKind.cell)∈scope.names:=of_decide_eq_true hfx;rcases rg x c e with q |⟨_,nm⟩
  .exact Zr (Xv _) q
  .exact absurd hm nm
 .exact Z9 (Sc b hb)
 .rcases rg x c e with q |⟨q,_⟩
  .exact Xt (Yf (Sc b hb) (Zr (Xv _) q))
  .exact(hf b hb).2.2.2.2.1 x c q
 .rcases(hf b hb).2.2.2.1 with z |z
  .exact I.ok.BH b o e z
  .exact absurd (Yf (Zn e) (Zr I.ok.Jk z)) (Yi _)
 .rcases Zk.mp (I.vh b hz) with e |z
  .exact(hf b hb).2.1 e
  .exact(hf b hb).2.2.1 z
 .
  have h1:(own++cap)[i]?=some x:=h1;have hi:own.length<=i:=by
   by_cases hi:i<own.length
   .unfold dQ at h2;rw[Zp (by simpa using hi),Xc,if_pos hi] at h2;cases h2
   .omega
  rw[Yh hi] at h1;unfold dQ at h2;rw[Yh (by simpa using hi),Qj,Zl] at h2;obtain⟨j,hj,hN⟩:=B.at' _ _ h1;rw[hj] at h2;simp only[Y5,Option.some.injEq] at h2;have h2':σ[j]?=some (some v):=by
   cases q:σ[j]? with
   |none=>rw[q] at h2;simp at h2
   |some o=>rw[q] at h2;simp at h2;rw[h2]
  have fm:=B.ν _ _ h1;have kd:=B.frees _ fm rfl;obtain⟨m,hn,hl⟩:=I.loc;obtain⟨u,r,l⟩:=hl j x v hN h2' (by rcases kd with k |k;exact .inr (.inl k);exact .inr (.inr k));refine⟨u,r,.inr ?_⟩;have TU:∃c,X.env.cells.lookup x=some c/\s.heap.IsCell c (some u):=by
   rcases l with ⟨k,_⟩ |⟨_,c,e,z⟩
   .simp only at kd;rw[k] at kd;rcases kd with k |k<;>cases k
   .exact⟨c,e,z⟩
  obtain⟨c,ec,zc⟩:=TU;have Tv:(x,NameKind.cell)∉scope.names:=λz=>by have:=nQ B.nd z fm;cases this
  refine⟨?_,c,?_,zc.keeps keep⟩
  .have h3':(relabel scope X.env).names.lookup x=some .local\/(relabel scope X.env).names.lookup x=some .cell\/(relabel scope X.env).names.lookup x=some .free:=h3;rcases h3' with q |q |q
   .rcases gO q with q |⟨e,_⟩
    .have:=nQ B.nd q fm;cases this
    .cases e
   .exact .inl q
   .exact .inr q
  .show(cellsFrom (s.heap.objs.size+1) scope.names (dU X.env scope.names [])).lookup x=some c;obtain⟨c',e'⟩:=X9.mp (PySem.W.cellsFrom_some (x:=x) scope.names (s.heap.objs.size+1) (dU X.env scope.names []) (.inr (ko _ _ (.inl fm))));rw[e'];rcases l9 _ _ _ e' with q |⟨q,_⟩
   .exfalso;have m:=Xl e';have QL:∀(names:List (Str×NameKind)) (k:Nat) (acc:List (Str×Addr)),(x,NameKind.cell)∉names->(cellsFrom k names acc).lookup x=acc.lookup x:=by
     intro names;induction names with
     |nil=>intro _ _ _;rfl
     |cons y r ih =>
      intro k acc nm;obtain⟨n,kd⟩:=y;unfold cellsFrom;by_cases hk:(kd == NameKind.cell)=true
      .rw[if_pos hk,ih _ _ (λz=>nm (Zh _ z)),Qa];have:(x == n)=false:=by
        simp only[beq_eq_false_iff_ne];intro e;subst e;have:kd=.cell:=by simpa using hk
        subst this;exact nm Zg
       rw[this]
      .rw[if_neg hk,ih _ _ (λz=>nm (Zh _ z))]
    rw[QL _ _ _ Tv] at e';rcases iJ _ _ has e' with z |z
    .exact absurd (Yf (old _ _ z) (Zr (Xv _) q)) (Yi _)
    .cases z
   .rcases iJ _ _ has q with z |z
    .rw[ec] at z;rw[z]
    .cases z
 .rcases rg x c e with q |⟨q,_⟩
  .exact I.bP.fresh (Zr (Xv _) q)
  .exact I.jo x c q
 .unfold dQ;show _=(own++cap).length;rw[Zu,Zu,Qj,Zb,B.len]
end
def iz (g:TG)(tt:TT)(te:TE)(J:It)(acc:Addr)(ai:St)(cC:Hp)(Q:VK):Prop :=
 ∃W:Nat->Nat->St->Hp->Prop,(∃m,W 0 m ai (aL cC acc (.lst [])))/\∀i m aB H',W i m aB H' ->
  (J.stop i H'/\Q (.ref acc) H') \/
  (J.go i H'/\∃N:St->Hp->Prop,(∀cv H2,N cv H2->∃m',m'<m/\W (i+1) m' cv H2)/\∀x H2,J.uA i H' x H2->g x aB H2 λgQ H3=>tt gQ H3 λb H4 =>
   if b=true then te gQ H4 λy H5=>∃ys,H5 acc=some (.lst ys)/\ys.length<sizeLine/\N gQ (aL H5 acc (.lst (ys++[y]))) else N gQ H4)
def wV (wi:TI)(g:TG)(tt:TT)(te:TE)(own:Nat)(ix:List Nat):TE:=λσ H Q=>wi σ H λJ H1=>∀acc,H1 acc=none->iz g tt te J acc (dQ own ix σ) H1 Q
section
variable {X:Cx}{scope:Scope}{own cap:Δ2}{ix:List Nat}{tg iter dr:Expr}{du:Ξ2}{wi:TI}{g:TG}{tt:TT}{te:TE}{pos:Pos}
def pJ {ae:Γ2}{σ:St}{H2:Hp}{s2:Shared}{it:Addr}{fp:List Addr}{tn:Nat->Heap->Prop}{J:It}{Q:VK}{RR:Value->Addr->Result->Shared->Prop}{E:Θ2}
  (B:aJ X scope own cap ix) (hc:X.calm=true)
  (hb:∀C fp s H,PG (cN X scope C (own++cap) fp s H) tg g/\dX (cN X scope C (own++cap) fp s H) du tt/\PE (cN X scope C (own++cap) fp s H) dr te)
  (I2:Inv X ae σ H2 s2) (T:Turn X.prog X.w X.K tg J fp it tn) (eO:tn 0 s2.heap) (f2:∀b∈fp,dh X ae H2 b)
  (q:∀acc,H2 acc=none->iz g tt te J acc (dQ own.length ix σ) H2 Q)
  (KS:∀D C H' s' m,Inv X ae σ H' s'->Q (.ref D) H'->s'.heap.Ns C m->dh X ae H' C->RR (.ref D) C (.ok .next) s') :
  wpAny (model X.prog X.w) X.A (newList []) (λacc dv=>wpAny (model X.prog X.w) X.A (newFunctionEnv scope X.env.globals (dU X.env scope.names []) [] X.env.qual none .none (some X.env)) (λmF gx =>
   codeAny (model X.prog X.w) X.A (.compStart (.ListComp dr [⟨tg,iter,du,0⟩] scope pos) 0 (.ref it) acc { mF with scope:=relabel scope X.env }) (RR acc mF.locals) gx) E dv) E s2:=by
 refine wpAny_newObj_type (fu ?_);have I3:Inv X ae σ (aL H2 s2.heap.objs.size (.lst [])) { s2 with heap:=s2.heap.push { cls:=.type "list",dict:=none,data:=.seq ([]:Δ3).toArray } }:=I2.LI (its:=[]) (ys:=[]) (t':=s2.toks) .nil (Z7 _);obtain⟨W,⟨m0,w0⟩,eS⟩:=q s2.heap.objs.size I2.fresh;generalize hD:s2.heap.objs.size=D at I3 w0 eS ⊢;have cg:∀b∈fp,b<D:=λb bu=>by
  obtain⟨o,e,_⟩:=T.obj 0 _ eO b bu;rw[<- hD];exact Zn e
 generalize Kz:({ s2 with heap:=s2.heap.push { cls:=.type "list",dict:=none,data:=.seq ([]:Δ3).toArray } }:Shared)=s3 at I3 ⊢;have ir:∀b o,s2.heap.get? b=some o->s3.heap.get? b=some o:=λb o e=>by rw[<- Kz];exact Zj _ e
 have f3:∀b∈fp,dh X ae (aL H2 D (.lst [])) b:=λb bu=>⟨by rw[cS (Z9 (cg b bu))];exact(f2 b bu).1,(f2 b bu).2⟩
 have o3:∀b∈fp,∃o,s3.heap.get? b=some o:=λb bu=>let ⟨o,e,_⟩:=T.obj 0 _ eO b bu;⟨o,ir b o e⟩
 have I4:=I3.block B f3 o3;have lJ:tn 0 (pushCells (s3.heap.push { cls:=.type "dict",data:=.dict #[] }) scope.names):=T.keep 0 _ _ eO λb _ o e=>pushCells_keeps _ _ b o (Zj _ (ir b o e))
 obtain⟨hg,Bt,he⟩:=hb s3.heap.objs.size fp s3 (aL H2 D (.lst []));generalize gw:cN X scope s3.heap.objs.size (own++cap) fp s3 (aL H2 D (.lst []))=X' at I4 hg Bt he;have eP:X'.prog=X.prog:=by rw[<- gw];rfl
 have eW:X'.w=X.w:=by rw[<- gw];rfl
 have eK:X'.K=X.K:=by rw[<- gw];rfl
 have eA:X'.A=X.A:=by rw[<- gw];rfl
 have eE:X'.env=gX scope s3.heap.objs.size X.env:=by rw[<- gw];rfl
 have ex:X'.xe=λ_ _=>False:=by rw[<- gw];rfl
 have ja:X'.calm=true:=by rw[<- gw];exact hc
 have gy:∀{H':Hp},(∀b∈fp,H' b=none)->∀b∈fp,dh X' [] H' b:=λhn b bu=>by
  subst gw;exact⟨hn b bu,(I4.ok.Fl b bu).1,I4.ok.ss b bu,.inl bu,(I4.ok.Fl b bu).2,λp hp=>absurd (show p∈([]:Γ2) from hp) (by simp)⟩
 have loop:∀s4:Shared,s4={ s3 with heap:=pushCells (s3.heap.push { cls:=.type "dict",data:=.dict #[] }) scope.names } ->
   codeAny (model X.prog X.w) X.A (.compLoop (.ListComp dr [⟨tg,iter,du,0⟩] scope pos) 0 (.ref it) (.ref D) (gX scope s3.heap.objs.size X.env)) (RR (.ref D) s3.heap.objs.size) s4:=by
  rintro s4 rfl;refine AO (λn s'=>∃i aB H',Inv X' [] aB H' s'/\tn i s'.heap/\(∀b∈fp,H' b=none)/\W i n aB H') ?_ m0 ⟨0,_,_,I4,lJ,λb bu=>(f3 b bu).1,w0⟩;rintro n s5 ⟨i,kD,H5,I5,kE,zd,w5⟩;rcases eS i n kD H5 w5 with ⟨stop,qn⟩ |⟨go,N,hN,step⟩
  .have:=T.done X' eP eW eK ja i [] s5 kD H5 (λ_ _=>False) I5 (gy zd) kE stop;rw[eA] at this;refine bp this λr s6 ⟨hr,I6⟩=>?_
   subst hr;subst gw;have J6:Inv X ae σ H5 s6:=I3.xF (ch:=fp) I6.os I6.base I6.bP I6.bare λb bu=>⟨(f3 b bu).2.2.2.1,(f3 b bu).2.1,(f3 b bu).2.2.2.2.1,(f3 b bu).2.2.2.2.2⟩
   obtain⟨m,hn,_⟩:=I6.loc;exact KS D _ H5 s6 m J6 qn hn (I3.gB (Ze _) I6.free)
  .have:=T.item X' eP eW eK ja i [] s5 kD H5 (λ_ _=>False) I5 (gy zd) kE go;rw[eA] at this;refine bp this λr s6 ⟨u,hr,h6⟩=>?_
   subst hr;refine bp h6 λ_ s7 ⟨x,H7,I7,r7,y7,uJ,KY⟩=>?_
   have K6:=I7.pinned (gy KY) (T.obj _ _ uJ);have a1:=hg _ s7 kD H7 x u _ K6 r7 (step x H7 y7);rw[eP,eW,eA,eE,ex] at a1;refine bp a1 λ_ s8 ⟨uI,H8,I8,q8⟩=>?_
   have a2:=Bt _ s8 uI H8 _ I8 q8;rw[eP,eW,eA,eE,ex] at a2;refine bp a2 λb s9 ⟨H9,I9,q9⟩=>?_
   have again:∀{s':Shared}{aB:St}{H':Hp},Inv X' ([]++dY fp s7.heap) aB H' s'->N aB H'->∃m,m<n/\∃i aB H',Inv X' [] aB H' s'/\tn i s'.heap/\(∀b∈fp,H' b=none)/\W i m aB H':=λ{s' aB H'} I' n'=>by
    obtain⟨m',hm,w'⟩:=hN aB H' n';refine⟨m',hm,i+1,aB,H',I'.cX,T.keep _ _ _ uJ λb bu o e=>(I'.pin (b,o) (Zt _ (Zt _ (A9 bu e)))).1,λb bu=>?_,w'⟩;obtain⟨o,e,d⟩:=T.obj _ _ uJ b bu;exact(I'.pin (b,o) (Zt _ (Zt _ (A9 bu e)))).2.1
   cases b with
   |false=>exact again I9 q9
   |true =>
    rw[if_pos rfl] at q9 ⊢;have a3:=he _ s9 uI H9 _ I9 q9;rw[eP,eW,eA,eE,ex] at a3;refine bp a3 λyv Oh ⟨y,OQ,QS,IX,ys,PJ,hz,Pk⟩=>?_
    have a4:=k4 (X:=X') _ Oh uI OQ (.ref D) [y] (.ref D) [yv] (λv H'=>v=.bV/\N uI H') QS rfl (.cons IX .nil) ⟨D,ys,y,rfl,rfl,PJ,hz,rfl,Pk⟩;rw[eP,eW,eA,ex] at a4;refine bp a4 λ_ O0 ⟨_,UO,K7,_,_,Pj⟩=>again K7 Pj
 exact codeAny_compStart_list (loop _ rfl) (T.self X.A 0 _ _ _ lJ (loop _ rfl))
def E1 (B:aJ X scope own cap ix)(hc:X.calm=true)(hi:PI X tg iter wi)
  (hb:∀C fp s H,PG (cN X scope C (own++cap) fp s H) tg g/\dX (cN X scope C (own++cap) fp s H) du tt/\PE (cN X scope C (own++cap) fp s H) dr te)
  (hs:∀x,foldedSetIterable iter X.env x=pure x:=by intro _;rfl):PE X (.ListComp dr [⟨tg,iter,du,0⟩] scope pos) (wV wi g tt te own.length ix):=by
 intro ae s σ H Q I h;rw[eval_ListComp];have has:∀x∈scope.names,x.2=.free->(X.env.cells.lookup x.1).isSome=true:=λx hx hk=>by
  obtain⟨c,e⟩:=I.ok.has x.1 (B.frees x hx hk);rw[e];rfl
 refine wpAny_comprehension_free (use:=none) rfl hs (Ot has) B.kind B.names ?_;show wpAny _ _ (eval iter X.env) _ _ s;refine bp (hi ae s σ H _ I h) λv s1 h1=>bp h1 λFw s2 h2=>?_
 obtain⟨it,fp,tn,J,H2,e,I2,T,eO,f2,q⟩:=h2;subst e;refine pJ (RR:=λacc C=>compPost (model X.prog X.w) X.A X.xe none (EP X ae σ Q) acc C) B hc hb I2 T eO f2 q ?_;intro D C H' s' m I' q' hn fC;refine⟨m,hn,λh' rR=>⟨.ref D,H',?_,rfl,q'⟩⟩;exact I'.turned (t':=s'.toks) (it:=C) (λb o Bv e=>(rR.2 b Bv).trans e) fC.1 fC.2.1 fC.2.2.2.1 fC.2.2.2.2.1 fC.2.2.2.2.2
def ya {i:Nat}{y:Str}{py jR:Pos}(hN:X.N.Nodup)(FD:X.N[i]?=some y)(hx:X.env.scope.names.lookup y=some .local)(B:aJ X scope own cap ix)(hc:X.calm=true)(hi:PI X tg iter wi)
  (hb:∀C fp s H,PG (cN X scope C (own++cap) fp s H) tg g/\dX (cN X scope C (own++cap) fp s H) du tt/\PE (cN X scope C (own++cap) fp s H) dr te)
  (Bq:swapsWith (.ListComp dr [⟨tg,iter,du,0⟩] scope pos) (some (.Name y py)) jR.line X.env=pure true:=by rfl)
  (hs:∀x,foldedSetIterable iter X.env x=pure x:=by intro _;rfl):PS X (.Assign [.Name y py] (.ListComp dr [⟨tg,iter,du,0⟩] scope pos) jR) (BD (wV wi g tt te own.length ix) (fk i)):=by
 intro ae s σ H D I h;rw[exec_Assign_Name_used _ _ _ _ Bq];have has:∀x∈scope.names,x.2=.free->(X.env.cells.lookup x.1).isSome=true:=λx hx hk=>by
  obtain⟨c,e⟩:=I.ok.has x.1 (B.frees x hx hk);rw[e];rfl
 refine Za (wpAny_standAt (Za ?_));show wpAny _ X.A (do let _ <- comprehension (.ListComp dr [⟨tg,iter,du,0⟩] scope pos) scope X.env _ (newList []) false (eval iter X.env) (some (assign (.Name y py) X.env))) _ _ s;refine Za (wpAny_mono (wpAny_comprehension_free (use:=some (assign (.Name y py) X.env)) (Q:=λ_ s'=>SP X ae D .next s') rfl hs (Ot has) B.kind B.names ?_) (λ_ s' hq=>wpAny_pure (wpAny_pure hq)) λ_ _ e=>e);refine bp (hi ae s σ H _ I h) λv s1 h1=>bp h1 λFw s2 h2=>?_
 obtain⟨it,fp,tn,J,H2,e,I2,T,eO,f2,q⟩:=h2;subst e;refine pJ (RR:=λacc C=>compPost (model X.prog X.w) X.A X.xe (some (assign (.Name y py) X.env)) (λ_ s'=>SP X ae D .next s') acc C) B hc hb I2 T eO f2 q ?_;intro Da C H' s' m I' q' hn fC;show wpAny _ X.A (assign (.Name y py) X.env (.ref Da)) _ _ s';obtain⟨oC,es,ep,VP,P7,r⟩:=id hn;have Ip:Inv X (ae++[(C,oC)]) σ H' s':=I'.lU λp hp=>by
  rcases Z0.mp hp with z |z
  .exact I'.pin p (Zt _ z)
  .obtain rfl:p=(C,oC):=by simpa using z
   exact⟨VP,fC.1,fC.2.1,fC.2.2.1,λv e=>by rw[P7] at e;cases e⟩
 refine wpAny_assign_Name (fe Ip hN FD (.inl hx) (v:=.ref Da) rfl (λKr QT=>?_) (.inr hx));have pC:=(QT.pin (C,oC) (Zt _ (Zt _ (by simp)))).1;refine⟨m,⟨oC,es,ep,pC,P7,r⟩,λh' rR=>⟨_,H',?_,q'⟩⟩;exact QT.cX.turned (t':=Kr.toks) (it:=C) (λb o Bv e=>(rR.2 b Bv).trans e) fC.1 fC.2.1 fC.2.2.2.1 fC.2.2.2.2.1 fC.2.2.2.2.2
end
def tv:V->Bool
 |.bl b=>b
 |.int i=>i != 0
 |_=>false
def gE:V->Bool
 |.bl _=>true
 |.int _=>true
 |.bV=>true
 |_=>false
def kq {prog:Program}{w:World}{A:Around}{E:Θ2}{s:Shared}{x:V}{v:Value}{Q:Bool->Shared->Prop}(r:RelV x v)(p:gE x=true)(h:Q (tv x) s):wpAny (model prog w) A (truthy v) Q E s:=by
 cases x with
 |bV=>cases r;exact truthy_none h
 |bl b=>cases r;exact wpAny_truthy_bool h
 |int i=>obtain⟨t,rfl⟩:=r;exact PySem.P.truthy_int h
 |_=>cases p
def all_range {xs:List V}{n:Nat}(hn:n=xs.length)(f:V->Bool):(List.range n).all (λi=>(xs[i]?.map f).getD true)=xs.all f:=by
 subst hn;rw[Yc];simp only[Ya,Zq];constructor
 .intro h x hx;obtain⟨i,hi,e⟩:=Qb.mp hx;have:=h i hi;rw[Zc hi,e] at this;simpa using this
 .intro h i hi;rw[Zc hi];simpa using h _ (Zv hi)
def any_range {xs:List V}{n:Nat}(hn:n=xs.length)(f:V->Bool):(List.range n).any (λi=>(xs[i]?.map f).getD false)=xs.any f:=by
 subst hn;rw[Yc];simp only[Zw,Zq];constructor
 .rintro⟨i,hi,h⟩;rw[Zc hi] at h;exact⟨_,Zv hi,by simpa using h⟩
 .rintro⟨x,hx,h⟩;obtain⟨i,hi,e⟩:=Qb.mp hx;exact⟨i,hi,by rw[Zc hi,e];simpa using h⟩
section
variable {X:Cx}
def gf {ae:Γ2}{σ:St}{H:Hp}{s:Shared}{p:Addr}{xs:List V}{A:Around}{E:Θ2}{Q:Θ2}(I:Inv X ae σ H s)(hA:A.handled=none)(h:bD X.K H p xs\/aM X.K H p xs)
  (k:∀(it:Addr) (fp wr:List Addr) (its:Δ3) (St:Nat->Heap->Prop) (s2:Shared),aY xs its->Walks X.prog X.w A it fp wr its.length (λi v=>its[i]?=some v) St->St 0 s2.heap->(∀b∈fp,b<s2.heap.objs.size) ->
   (∀h' tk,(∀b o,b∉wr->s2.heap.get? b=some o->h'.get? b=some o)->Inv X ae σ H { s2 with heap:=h',toks:=tk })->Q (.ref it) s2) :
  wpAny (model X.prog X.w) A (pyIter (.ref p)) Q E s:=by
 rcases h with h |h
 .obtain⟨its,rv,pl,hz⟩:=I.list h;have hp:p<s.heap.objs.size:=by obtain⟨o,n,e,_⟩:=pl;exact Zn e
  refine wpAny_pyIter_list pl.isList ?_;have W:=Walks.list (prog:=X.prog) (w:=X.w) (A:=A) hA s.heap.objs.size p (Z9 hp) its.toArray;refine k s.heap.objs.size [s.heap.objs.size,p] [s.heap.objs.size] its (λi h=>h.IsListIter s.heap.objs.size p i/\h.IsList p its.toArray) _ rv (by simpa using W) ⟨⟨_,Zy _ rfl,rfl,rfl⟩,pl.isList.push _⟩ (λb hb=>?_) (λh' tk hk=>?_)
  .show b<(s.heap.push _).objs.size;rw[Xa];rcases Zk.mp hb with rfl |hb
   .exact Qq _
   .rcases Zk.mp hb with rfl |hb
    .exact Qk hp
    .cases hb
  .exact I.kept (t':=tk) λb o e=>hk b o (λz=>Yi _ (by have:=Zn e;simp at z;rw[z] at this;exact this)) (Zj _ e)
 .obtain⟨its,rv,pl,hz⟩:=I.tuple h;have hp:p<s.heap.objs.size:=by obtain⟨o,e,_⟩:=pl;exact Zn e
  have pt:s.heap.IsTuple p its.toArray:=pl;refine wpAny_pyIter_tuple pt ?_;have W:=Walks.tuple (prog:=X.prog) (w:=X.w) (A:=A) hA s.heap.objs.size p (Z9 hp) its.toArray;refine k s.heap.objs.size [s.heap.objs.size,p] [s.heap.objs.size] its (λi h=>h.IsTupleIter s.heap.objs.size p i/\h.IsTuple p its.toArray) _ rv (by simpa using W) ⟨⟨_,Zy _ rfl,rfl,rfl⟩,?_⟩ (λb hb=>?_) (λh' tk hk=>?_)
  .obtain⟨o,e,r⟩:=pt;exact⟨o,Zj _ e,r⟩
  .show b<(s.heap.push _).objs.size;rw[Xa];rcases Zk.mp hb with rfl |hb
   .exact Qq _
   .rcases Zk.mp hb with rfl |hb
    .exact Qk hp
    .cases hb
  .exact I.kept (t':=tk) λb o e=>hk b o (λz=>Yi _ (by have:=Zn e;simp at z;rw[z] at this;exact this)) (Zj _ e)
def aY.at {xs:List V}{us:Δ3}{i:Nat}{v:Value}(r:aY xs us)(e:us[i]?=some v):∃x,xs[i]?=some x/\RelV x v:=by
 have hi:i<us.length:=(Zf.mp e).1;have hx:i<xs.length:=by rw[r.length];exact hi
 obtain⟨u,h1,h2⟩:=r.get (Zc hx);rw[e] at h1;cases h1;exact⟨_,Zc hx,h2⟩
def ER (hc:X.calm=true):bZ X (.builtin "all") (λxs H Q=>∃p ys,xs=[.ref p]/\(bD X.K H p ys\/aM X.K H p ys)/\ys.all gE=true/\Q (.bl (ys.all tv)) H):=by
 intro ae s σ H xs us Q I r h;obtain⟨p,ys,rfl,hs,hp,q⟩:=h;obtain⟨u,rfl,ru⟩:=vals1 r;cases ru;refine call_all_walk (gf I (A:=X.A.in1) (I.ok.hd hc) hs λit fp wr its St s2 rv W st Bu hk=>?_);refine⟨it,fp,wr,its.length,_,St,(λi=>(ys[i]?.map tv).getD true),rfl,W,st,λi v s' Q' E' hv hq=>?_,λh' tk kk=>⟨.bl (ys.all tv),H,hk h' tk kk,?_,q⟩⟩
 .obtain⟨x,ex,rx⟩:=rv.at hv;simp only[ex,Y5,Xh] at hq;exact kq rx (Ya.mp hp x (Zz ex)) hq
 .rw[all_range rv.length.symm];rfl
def EQ (hc:X.calm=true):bZ X (.builtin "any") (λxs H Q=>∃p ys,xs=[.ref p]/\(bD X.K H p ys\/aM X.K H p ys)/\ys.all gE=true/\Q (.bl (ys.any tv)) H):=by
 intro ae s σ H xs us Q I r h;obtain⟨p,ys,rfl,hs,hp,q⟩:=h;obtain⟨u,rfl,ru⟩:=vals1 r;cases ru;refine call_any_walk (gf I (A:=X.A.in1) (I.ok.hd hc) hs λit fp wr its St s2 rv W st Bu hk=>?_);refine⟨it,fp,wr,its.length,_,St,(λi=>(ys[i]?.map tv).getD false),rfl,W,st,λi v s' Q' E' hv hq=>?_,λh' tk kk=>⟨.bl (ys.any tv),H,hk h' tk kk,?_,q⟩⟩
 .obtain⟨x,ex,rx⟩:=rv.at hv;simp only[ex,Y5,Xh] at hq;exact kq rx (Ya.mp hp x (Zz ex)) hq
 .rw[any_range rv.length.symm];rfl
theorem ly (ns:Γ3):∀k,k<=ns.length->preSum (λi=>(ns[i]?).getD 0) k=(ns.take k).sum
 |0,_=>by simp[preSum]
 |k+1,h=>by
  have hk:k<ns.length:=h;rw[preSum,ly ns k (Nat.le_of_lt hk),Zc hk];have e:ns.take (k+1)=ns.take k++[ns[k]]:=by rw[List.take_add_one,Zc hk];rfl
  rw[e,List.sum_append];simp
def EO (hc:X.calm=true):bZ X (.builtin "sum") (λxs H Q=>∃(p:Addr) (ns:Γ3),xs=[.ref p]/\(bD X.K H p (ns.map V.int)\/aM X.K H p (ns.map V.int))/\Q (.int ns.sum) H):=by
 intro ae s σ H xs us Q I r h;obtain⟨p,ns,rfl,hs,q⟩:=h;obtain⟨u,rfl,ru⟩:=vals1 r;cases ru;refine call_sum_walkG (gf I (A:=X.A.in1) (I.ok.hd hc) hs λit fp wr its St s2 rv W st Bu hk=>?_);refine⟨it,fp,wr,its.length,_,St,(λi=>(ns[i]?).getD 0),rfl,W,st,Bu,λi v hv=>?_,λh' tk t' kk=>⟨.int ns.sum,H,hk h' tk kk,⟨t',?_⟩,q⟩⟩
 .obtain⟨x,ex,rx⟩:=rv.at hv;rw[Zl] at ex;cases e:ns[i]? with
  |none=>rw[e] at ex;cases ex
  |some n =>
   rw[e] at ex;cases ex;simp only[e,Xh];exact rx
 .have hl:its.length=ns.length:=by rw[<- rv.length,Zb]
  rw[hl,ly ns _ (Ze _),Yj]
def AX (hc:X.calm=true):bZ X (.builtin "max") (λxs H Q=>∃(p:Addr) (ns:Γ3),xs=[.ref p]/\(bD X.K H p (ns.map V.int)\/aM X.K H p (ns.map V.int))/\ns≠[]/\∀m,m∈ns->(∀n∈ns,n<=m)->Q (.int m) H):=by
 intro ae s σ H xs us Q I r h;obtain⟨p,ns,rfl,hs,bo,q⟩:=h;obtain⟨u,rfl,ru⟩:=vals1 r;cases ru;refine call_max_walk (gf I (A:=X.A.in1) (I.ok.hd hc) hs λit fp wr its St s2 rv W st Bu hk=>?_);have hl:its.length=ns.length:=by rw[<- rv.length,Zb]
 have dz:0<ns.length:=Xd.mpr bo;have val:∀(i:Nat) (v:Value),its[i]?=some v->∃t,v=Value.int ((ns[i]?).getD 0) t:=λi v hv=>by
  obtain⟨x,ex,rx⟩:=rv.at hv;rw[Zl] at ex;cases e:ns[i]? with
  |none=>rw[e] at ex;cases ex
  |some n =>
   rw[e] at ex;cases ex;exact rx
 refine⟨it,fp,wr,its.length,_,St,(λi j=>decide ((ns[i]?).getD 0>(ns[j]?).getD 0)),rfl,W,st,Bu,by omega,CmpOf.ints_gt (λi=>(ns[i]?).getD 0) val,λv h' tk hP kk=>?_⟩;obtain⟨t,rfl⟩:=val _ _ hP;obtain⟨h1,h2⟩:=argBest_gt (λi=>(ns[i]?).getD 0) (its.length-1);have cg:argBest (λi j=>decide ((ns[i]?).getD 0>(ns[j]?).getD 0)) (its.length-1)<ns.length:=by
  omega
 refine⟨.int _,H,hk h' tk kk,⟨t,rfl⟩,q _ ?_ λn hn=>?_⟩
 .rw[Zc cg];exact Zv cg
 .obtain⟨i,hi,e⟩:=Qb.mp hn;have:=h2 i (by omega);simp only[Zc hi,Xh] at this;rw[<- e];exact this
end
def Q9 (K:Θ1)(c:Value)(te:TE):TE:=λσ H Q=>te σ H λx H1=>∃t b,ji K H1 x t/\PySem.W.kitOne K t c=some b/\Q (.bl b) H1
section
variable {X:Cx}{e:Expr}{te:TE}
def YQ {a b:Expr}{ta:TE}{pos:Pos}{ae:Γ2}{s:Shared}{σ:St}{H:Hp}{Q:Δ3->Shared->Prop}(ha:PE X a ta)(I:Inv X ae σ H s){R:V->Hp->Prop}(h:ta σ H R)
  (hs:starEach [a,b] X.env=[(false,eval a X.env),(false,eval b X.env)]) (k:∀u s1 x H1,Inv X ae σ H1 s1->RelV x u->R x H1->wpAny (model X.prog X.w) X.A (eval b X.env) (λv s2=>Q [u,v] s2) X.xe s1) :
  wpAny (model X.prog X.w) X.A (spliced (backTo pos (starEach [a,b] X.env))) Q X.xe s:=by
 rw[hs];refine Calls.spliced_cons (bp (ha ae s σ H _ I h) λu s1 ⟨x,H1,I1,r,q⟩=>?_);exact Calls.spliced_cons (bp (k u s1 x H1 I1 r q) λv s2 h2=>Calls.spliced_nil h2)
def HB {T:Str}{n:String}{p p2 pos:Pos}(he:PE X e te)(hg:Gl X "isinstance")(hm:X.mg "isinstance"=none)(V0:Gl X T)(VS:X.mg T=none)(hv:bootBuiltins T=some (.type n))
  (hb:bootBuiltins "isinstance"=some (.builtin "isinstance")) (VR:T ≠ "__name__":=by decide) (V5:(T == ("__debug__" : Str))=false:=by decide)
  (hs:starEach [e,.Name T p2] X.env=[(false,eval e X.env),(false,eval (.Name T p2) X.env)]:=by rfl)
  (lC:(backTo pos (starEach [.Name T p2] X.env)).any (·.1)=false:=by rfl):PE X (.Call (.Name "isinstance" p) [e,.Name T p2] [] pos) (Q9 X.K (.type n) te):=by
 intro ae s σ H Q I h;refine Call_ (fH I hg hm hb (PyProof.Rows.callWith_builtin1 (YQ (Q:=λus s1=>wpAny (model X.prog X.w) X.A (call (.builtin "isinstance") us) (EP X ae σ Q) X.xe s1) he I h hs λu s1 x H1 I1 r q=>?_) ?_ lC))
 .refine fH I1 V0 VS hv ?_ VR V5;obtain⟨t,b,ty,ek,q⟩:=q;exact AA I1 r ty ek λtk=>⟨.bl b,H1,I1.tok tk,rfl,q⟩
 .rw[hs];rfl
end
mutual
inductive lN (K:Θ1) (H:Hp):V->PyData->Prop
 |bV:lN K H .bV .none
 |bl (b:Bool):lN K H (.bl b) (.bool b)
 |int (i:Int):lN K H (.int i) (.int i)
 |str (x:Str) (ok:(PyData.str x).canLay0=true):lN K H (.str x) (.str x)
 |lst {a:Addr}{xs:List V}{ds:Ξ1}:bD K H a xs->eV K H xs ds->lN K H (.ref a) (.list ds)
 |tup {a:Addr}{xs:List V}{ds:Ξ1}:aM K H a xs->eV K H xs ds->lN K H (.ref a) (.tuple ds)
inductive eV (K:Θ1) (H:Hp):List V->Ξ1->Prop
 |nil:eV K H [] []
 |cons {x:V}{xs:List V}{d:PyData}{ds:Ξ1}:lN K H x d->eV K H xs ds->eV K H (x::xs) (d::ds)
end
section
variable {X:Cx}{ae:Γ2}{σ:St}{H:Hp}{s:Shared}
mutual
theorem lN.reads (I:Inv X ae σ H s):∀{x:V}{d:PyData}{u:Value},lN X.K H x d->RelV x u->∃as,Reads s.heap u d as
 |_,_,_,.bV,r=>by cases r;exact⟨_,.none⟩
 |_,_,_,.bl b,r=>by cases r;exact⟨_,.bool b⟩
 |_,_,_,.int i,r=>by obtain⟨t,rfl⟩:=r;exact⟨_,.int i t⟩
 |_,_,_,.str x _,r=>by obtain⟨t,rfl⟩:=r;exact⟨_,.str x t⟩
 |_,_,_,.lst hq h,r=>by
  cases r
  obtain⟨its,rv,⟨o,n,e,c,_,d⟩,_⟩:=I.list hq;obtain⟨as,ra⟩:=eV.reads I h rv;exact⟨_,.list e c d (by simpa using ra)⟩
 |_,_,_,.tup hq h,r=>by
  cases r
  obtain⟨its,rv,⟨o,e,c,n,d⟩,_⟩:=I.tuple hq;obtain⟨as,ra⟩:=eV.reads I h rv;exact⟨_,.tuple e c d (by simpa using ra)⟩
theorem eV.reads (I:Inv X ae σ H s):∀{xs:List V}{ds:Ξ1}{us:Δ3},eV X.K H xs ds->aY xs us->∃as,ReadsAll s.heap us ds as
 |_,_,_,.nil,r=>by cases r;exact⟨_,.nil⟩
 |_,_,_,.cons h t,r=>by
  cases r with
  |cons r1 r2 =>
   obtain⟨as,ra⟩:=lN.reads I h r1;obtain⟨bs,rb⟩:=eV.reads I t r2;exact⟨_,.cons ra rb⟩
end
mutual
theorem lN.lay {K:Θ1}:∀{x:V}{d:PyData},lN K H x d->d.canLay0=true
 |_,_,.bV=>rfl
 |_,_,.bl b=>rfl
 |_,_,.int i=>rfl
 |_,_,.str x ok=>ok
 |_,_,.lst hq h=>by have:=eV.lay h;simpa[PyData.canLay0] using this
 |_,_,.tup hq h=>by have:=eV.lay h;simpa[PyData.canLay0] using this
theorem eV.lay {K:Θ1}:∀{xs:List V}{ds:Ξ1},eV K H xs ds->PyData.canLayAll0 ds=true
 |_,_,.nil=>rfl
 |_,_,.cons h t=>by have h1:=lN.lay h;have h2:=eV.lay t;simp[PyData.canLayAll0,h1,h2]
end
end
section
variable {X:Cx}
def Gg (K:Θ1):R2:=λx y H Q=>∃dx dy,lN K H x dx/\lN K H y dy/\min dx.depth dy.depth<=60/\Q (.bl (PyData.eqv dx dy)) H
def Ge (K:Θ1):R2:=λx y H Q=>∃dx dy,lN K H x dx/\lN K H y dy/\min dx.depth dy.depth<=60/\Q (.bl (!PyData.eqv dx dy)) H
def Nf (hu:X.A.units+64<cLine):fj X (compareOp .Eq) (Gg X.K):=by
 intro ae s σ H x y v u Q I rx ry h;obtain⟨dx,dy,hx,hy,hd,q⟩:=h;obtain⟨as,ra⟩:=hx.reads I rx;obtain⟨bs,rb⟩:=hy.reads I ry;exact SeqAt.eqOverData X.prog X.w X.A X.xe s v u dx dy as bs _ ra rb hx.lay hy.lay (by omega) ⟨.bl (PyData.eqv dx dy),H,I,rfl,q⟩
def Nd (hu:X.A.units+64<cLine):fj X (compareOp .NotEq) (Ge X.K):=by
 intro ae s σ H x y v u Q I rx ry h;obtain⟨dx,dy,hx,hy,hd,q⟩:=h;obtain⟨as,ra⟩:=hx.reads I rx;obtain⟨bs,rb⟩:=hy.reads I ry;exact SeqAt.neOverData X.prog X.w X.A X.xe s v u dx dy as bs _ ra rb hx.lay hy.lay (by omega) ⟨.bl (!PyData.eqv dx dy),H,I,rfl,q⟩
end
end L2
namespace PySem
open AutoSeq1 (wpAny_loadPart')
def Vx {prog:Program}{w:World}{A:Around}{E:Θ2}{s:Shared}{it l:Addr}{i:Nat}{items}{x:Value}{Q:Θ2}(KL:s.heap.IsTupleIter it l i)
  (hl:s.heap.IsTuple l items) (hx:items[i]?=some x)
  (hQ:∀h',h'.IsTupleIter it l (i+1)->Heap.SameBut it s.heap h'->Q x { s with heap:=h' }) :
  wpAny (model prog w) A (Builtin.SmallTypes.nextOf (.ref it)) Q E s:=by
 obtain⟨o,ho,hc,hd⟩:=id KL;obtain⟨ol,VO,_,nl,OE⟩:=hl;have FA:s.TypeIs (.ref it) "tuple_iterator":=⟨o,ho,hc⟩;unfold Builtin.SmallTypes.nextOf;refine Za (wpAny_callSpecial?_slot (name:=Str.ofString "__next__") FA PyProof.Rows.slot_tupleiter_next
  (wpAny_call_entry PyProof.Rows.slot_tupleiter_next FA PyProof.Rows.entry_tupleiter_next ?_ (PyProof.Rows.args_tupleiter_next _)))
 show wpAny _ _ (field (.ref it) 0 >>= _) _ _ s;refine Za (wpAny_field ho hd (x:=.ref l) rfl ?_);show wpAny _ _ (if (Value.ref l == Value.none)=true then _ else _) _ _ s;rw[if_neg (show ¬ ((Value.ref l == Value.none)=true) from Z4)];show wpAny _ _ (field (.ref it) 1 >>= _) _ _ s;refine Za (wpAny_field ho hd (x:=.int i 0) rfl ?_);show wpAny _ _ (seqItems? (.ref l) >>= _) _ _ s;refine Za (wpAny_seqItems VO OE ?_);simp only[Z3,hx];refine Za (wpAny_setField ho hd (by simp) (wpAny_pure ⟨x,rfl,wpAny_pure (hQ _ ?_ (Heap.SameBut.update ..))⟩));exact⟨_,Qi _ ho (Obj.isFreed_of_fields (Obj.data_mapFields hd _)),(Obj.cls_mapFields ..).trans hc,by
  rw[Obj.data_mapFields hd];simp[rawInt]⟩
def Vw {prog:Program}{w:World}{A:Around}{E:Θ2}{s:Shared}{it l:Addr}{i:Nat}{items}{Q:Θ2}(hh:A.handled=none)
  (KL:s.heap.IsTupleIter it l i) (hl:s.heap.IsTuple l items) (hx:items[i]?=none)
  (hE:∀h' e,Heap.ExtBut it s.heap h'->(∃o,h'.get? e=some o/\o.cls=.type "StopIteration")->E (.ref e) { s with heap:=h' }) :
  wpAny (model prog w) A (Builtin.SmallTypes.nextOf (.ref it)) Q E s:=by
 obtain⟨o,ho,hc,hd⟩:=id KL;obtain⟨ol,VO,_,nl,OE⟩:=hl;have FA:s.TypeIs (.ref it) "tuple_iterator":=⟨o,ho,hc⟩;unfold Builtin.SmallTypes.nextOf;refine Za (wpAny_callSpecial?_slot (name:=Str.ofString "__next__") FA PyProof.Rows.slot_tupleiter_next
  (wpAny_call_entry PyProof.Rows.slot_tupleiter_next FA PyProof.Rows.entry_tupleiter_next ?_ (PyProof.Rows.args_tupleiter_next _)))
 show wpAny _ _ (field (.ref it) 0 >>= _) _ _ s;refine Za (wpAny_field ho hd (x:=.ref l) rfl ?_);show wpAny _ _ (if (Value.ref l == Value.none)=true then _ else _) _ _ s;rw[if_neg (show ¬ ((Value.ref l == Value.none)=true) from Z4)];show wpAny _ _ (field (.ref it) 1 >>= _) _ _ s;refine Za (wpAny_field ho hd (x:=.int i 0) rfl ?_);show wpAny _ _ (seqItems? (.ref l) >>= _) _ _ s;refine Za (wpAny_seqItems VO OE ?_);simp only[Z3,hx];refine Za (wpAny_rule (Za (wpAny_setField ho hd (by simp) ?_)));show wpAny _ _ (newExc (.type "StopIteration") [] >>= _) _ _ _;refine Za ?_;simp only[newExc,newTuple];refine Za (wpAny_newObj_type ?_ (by size_fits));refine Za (m:=firstArgMember _ _) (wpAny_of_eq (a:=Value.none) (by first |rfl |(simp only[firstArgMember];rfl)) ?_);refine wpAny_newObj_type ?_ (by size_fits);simp only[raiseNew];refine Za (wpAny_handled ?_)
 first |rw[show A.in1.handled=none from hh] |rw[hh]
 refine Za (wpAny_pure (wpAny_throw ?_));exact hE _ _ (((Heap.SameBut.update ..).extBut.push _).push _) ⟨_,Zy _ rfl,rfl⟩
def Draws.tup {prog:Program}{w:World}{A:Around}(hh:A.handled=none)(it l:Addr)(bo:l≠it)(items:Array Value) :
  Draws prog w A it [it,l] items.size (λi v=>items[i]?=some v) (λi h=>h.IsTupleIter it l i/\h.IsTuple l items) where
 live:=λ_ _ st=>let ⟨o,ho,_⟩:=st.1;⟨o,ho⟩
 frame:=λ_ _ _ st hk=>⟨let ⟨o,e,r⟩:=st.1;⟨o,hk it (by simp) o e,r⟩,let ⟨o,e,r⟩:=st.2;⟨o,hk l (by simp) o e,r⟩⟩
 item:=λi s Q E hi st hQ=>by
  refine Vx st.1 st.2 (x:=items[i]) (by simp[hi]) λh' K' Us=>?_
  obtain⟨o,e,r⟩:=st.2;exact hQ _ h' s.toks (by simp[hi]) ⟨K',⟨o,Us.extBut l o bo e,r⟩⟩ Us
 done:=λs Q E st hE=>Vw hh st.1 st.2 (by simp) hE
set_option maxHeartbeats 1000000 in
def iM (l:Addr)(items:Array Value)(n:Nat)(WD:Option Addr)(sl:Array (Φ1)) :
  Meets (Builtin.«enumerate.__new__» ⟨[.type "enumerate",.ref l],[]⟩) (λ_ R s=>s.heap.get? l=some { cls:=.type "tuple",dict:=WD,data:=.seq items n,slots:=sl } /\
   R (.ok (.ret (.ref (s.heap.push { cls:=.type "tuple_iterator",data:=.fields #[.ref l,.int 0 0] }).objs.size)))
    { s with heap:=(s.heap.push { cls:=.type "tuple_iterator",data:=.fields #[.ref l,.int 0 0] }).push { cls:=.type "enumerate",data:=.fields #[.none,.bool false,.ref s.heap.objs.size,rawInt 0,.none,.none] } }) :=
 .of_wp λprog w A R s h=>by
  obtain⟨hp,g,d,tk,os⟩:=s;obtain⟨hl,h⟩:=h;have ZZ:=sub_enumerate;have hL:Heap.IsTuple (Shared.heap ⟨hp,g,d,tk,os⟩) l items:=⟨_,hl,rfl,n,rfl⟩
  wp_walk using wpAny_loadPart' hl
  refine wpAny_stack_any λst=>wpAny_pure ?_
  split
  .rename_i c _ _ _ _ _;cases (c == Value.type "enumerate")
   .wp_walk using wpAny_loadPart' hl,wpAny_pyIter_tuple hL
    exact⟨_,rfl,h⟩
   .wp_walk using wpAny_loadPart' hl,wpAny_pyIter_tuple hL
    exact⟨_,rfl,h⟩
  .wp_walk using wpAny_loadPart' hl,wpAny_pyIter_tuple hL
   exact⟨_,rfl,h⟩
def jL {prog:Program}{w:World}{A:Around}{E:Θ2}{s:Shared}{l:Addr}{items:Array Value}{Q:Θ2}(hL:s.heap.IsTuple l items)
  (h:∀h',IsEnum h' (s.heap.objs.size+1) s.heap.objs.size 0 .none->h'.IsTupleIter s.heap.objs.size l 0->h'.objs.size=s.heap.objs.size+2 ->
   (∀b o,s.heap.get? b=some o->h'.get? b=some o)->Q (.ref (s.heap.objs.size+1)) { s with heap:=h' }) :
  wpAny (model prog w) A (call (.type "enumerate") [.ref l]) Q E s:=by
 obtain⟨⟨c,WD,dt,sl⟩,hl,hc,n,hd⟩:=hL
 replace hc:c=.type "tuple":=hc
 replace hd:dt=.seq items n:=hd
 subst hc hd;refine callType_new F.called_enumerate (by decide) (F.typeCall_enumerate_1 _) (F.newCall_enumerate_1 _) (λobj=>F.args_object_init_2 obj _) F.entry_enumerate_new
  (iM l items n WD sl) ⟨hl,?_⟩
 have hz:(s.heap.push { cls:=.type "tuple_iterator",data:=.fields #[.ref l,.int 0 0] }).objs.size=s.heap.objs.size+1:=Xa ..;show _/\_;rw[hz];have he:IsEnum ((s.heap.push { cls:=.type "tuple_iterator",data:=.fields #[.ref l,.int 0 0] }).push
   { cls:=.type "enumerate",data:=.fields #[.none,.bool false,.ref s.heap.objs.size,rawInt 0,.none,.none] }) (s.heap.objs.size+1) s.heap.objs.size 0 .none:=by
  have:=Zy (s.heap.push { cls:=.type "tuple_iterator",data:=.fields #[.ref l,.int 0 0] })
   (o:={ cls:=.type "enumerate",data:=.fields #[.none,.bool false,.ref s.heap.objs.size,rawInt 0,.none,.none] }) rfl
  rw[hz] at this;exact this
 refine⟨⟨_,he,rfl⟩,h _ he ⟨_,Zj _ (Zy _ rfl),rfl,rfl⟩ (by rw[Xa,hz]) λb o x=>Zj _ (Zj _ x)⟩
end PySem
namespace PySem
end PySem
namespace PySem
open AutoSeq1 (wpAny_loadPart')
end PySem
namespace L2
open PySem PySem.Spec PyProof.Rows
section
variable {X:Cx}
def BB (K:Θ1)(a:Addr):It :=
 ⟨λi H=>∃xs x,aM K H a xs/\xs[i]?=some x,λi H x H'=>∃p,H p=none/\x=.ref p/\∀xs,aM K H a xs->∃y,xs[i]?=some y/\H'=aL H p (.tup [.int i,y]),λi H=>∃xs,aM K H a xs/\xs.length<=i⟩
def Inv.iP {ae:Γ2}{σ:St}{H:Hp}{s:Shared}{h':Heap}{t':Nat}{ch:List Addr}(I:Inv X ae σ H s)(k:∀b o,b∉ch->s.heap.get? b=some o->h'.get? b=some o)(hf:∀b∈ch,dh X ae H b) :
  Inv X ae σ H { s with heap:=h',toks:=t' }:=by
 have Ps:∀b u,H b=some u->b∉ch:=λb u e z=>by rw[(hf b z).1] at e;cases e
 refine I.step (g':=s.gens) (d':=s.drawn) (ch:=ch) (λb hb=>⟨(hf b hb).2.2.2.1,(hf b hb).2.1,(hf b hb).2.2.2.2.1,(hf b hb).2.2.2.2.2⟩) (λb o _ _ hc e _=>k b o hc e) (λb o _ _ hc e _=>⟨o.slots,k b o hc e⟩) (λ_ _ _ _ n=>n)
  (λb o hc e=>⟨o,k b o hc e⟩) (λ_ _ e=>e) (λ_ _ _ e=>e) (λb ps e=>⟨#[],by rw[e];simp⟩) (λm hm=>?_) (λb u e=>?_) I.bare
 .obtain⟨o,es,ep,ho,r⟩:=hm;exact⟨o,es,ep,k _ o (λz=>(hf _ z).2.1 rfl) ho,r⟩
 .refine(I.bP b u e).ap (λc v hc q=>k c v ?_ q) (λ_ q=>q) λ_ _ q=>q
  rcases hc with z |z
  .rw[z];exact Ps b u e
  .exact Ps c _ z
def Inv.BX {ae:Γ2}{σ:St}{H:Hp}{s:Shared}{p:Addr}{o:HO}(I:Inv X ae σ H s)(f:dh X ae H p)(new:bS X.prog X.w (aL H p o) s.heap p o):Inv X ae σ (aL H p o) s:=by
 have ne:∀b u,H b=some u->b≠p:=λb u e z=>by rw[z,f.1] at e;cases e
 have:=I.step (g':=s.gens) (d':=s.drawn) (t':=s.toks) (h':=s.heap) (H':=aL H p o) (ch:=[p]) (λb hb=>by
   obtain rfl:b=p:=by simpa using hb
   exact⟨f.2.2.2.1,f.2.1,f.2.2.2.2.1,f.2.2.2.2.2⟩) (λb o _ _ _ e _=>e) (λb o _ _ _ e _=>⟨o.slots,e⟩)
  (λb o hc _ n=>by rw[cS (λz=>hc (by simp[z]))];exact n) (λb o _ e=>⟨o,e⟩) (λb xs e=>by rw[cS (ne b _ e)];exact e) (λb o u e=>by rw[cS (ne b _ e)];exact e)
  (λb ps e=>⟨#[],by rw[cS (ne b _ e),e];simp⟩) (λm hm=>hm) (λb u e=>by
   by_cases hb:b=p
   .subst hb;rw[dM] at e;cases e;exact new
   .rw[cS hb] at e;exact(I.bP b u e).ap (λc v _ q=>q) (λc q=>by rw[cS (ne c _ q)];exact q) λc xs q=>by rw[cS (ne c _ q)];exact q) I.bare
 exact this
def zJ {P:Program}{w:World}{K:Θ1}{ik:Ξ2}{kk}{pos:Pos}(a e it:Addr)(KO:e≠it):Turn P w K (.Tuple ik kk pos) (BB K a) [e,it] e (λi h=>(∃old,IsEnum h e it (i:Nat) old)/\h.IsTupleIter it a i) where
 mem:=by simp
 obj:=λi h st b hb=>by
  obtain⟨⟨old,he⟩,o,e1,c,d⟩:=st;rcases Zk.mp hb with rfl |hb
  .exact⟨_,he,λv z=>by cases z⟩
  .obtain rfl:b=it:=by simpa using hb
   exact⟨o,e1,λv z=>by rw[d] at z;cases z⟩
 keep:=λi h h' st k=>by
  obtain⟨⟨old,he⟩,o,e1,c,d⟩:=st;exact⟨⟨old,k e (by simp) _ he⟩,o,k it (by simp) _ e1,c,d⟩
 item:=by
  intro X hP hw hK hc i ae s σ H E I hf st hg;subst hP hw hK;obtain⟨xs,x,hq,hx⟩:=hg;obtain⟨its,rv,p,hz⟩:=I.tuple hq;obtain⟨u,hu,ru⟩:=rv.get hx;obtain⟨⟨old,he⟩,eO⟩:=st;have pt:s.heap.IsTuple a its.toArray:=p;have Wc:e≠a:=λz=>by
   obtain⟨o,e1,c,_⟩:=pt;rw[<- z,he] at e1;cases e1;exact absurd (show Value.type "enumerate"=Value.type "tuple" from c) (by decide)
  have P9:a≠it:=λz=>by
   obtain⟨o,e1,c,_⟩:=pt;obtain⟨o',e2,c',_⟩:=id eO;rw[z,e2] at e1;cases e1;rw[c] at c';exact absurd c' (by decide)
  have cg:i<its.toArray.size:=by simpa using(Zf.mp hu).1
  have D:=Draws.tup (prog:=X.prog) (w:=X.w) (A:=X.A.in1) (I.ok.hd hc) it a P9 its.toArray;refine wpAny_pyNext_enum_itemD D he ⟨eO,pt⟩ cg KO (by simp[KO,Wc]) λy h' tk hP Fh ot ht hsz hk=>?_
  have hy:y=u:=by
   have hP:its.toArray[i]?=some y:=hP;rw[List.getElem?_toArray,hu] at hP;exact(Option.some.inj hP).symm
  subst hy;refine⟨_,rfl,?_⟩;refine wpAny_letOwnedTupleGo_enum Fh λh2 V3 og=>?_
  replace og:Heap.SameBut e h' h2:=og
  have bo:s.heap.objs.size≠e:=Xt (Zn he);have I1:Inv X ae σ H { s with heap:=h2,toks:=tk+1 }:=I.iP (ch:=[e,it]) (λb o hb q=>by
   have b1:b≠e:=λz=>hb (by simp[z])
   have b2:b≠it:=λz=>hb (by simp[z])
   exact og.extBut b o b1 (hk b o b1 b2 q)) hf
  have Ky:=og.extBut _ _ bo ht;have fp:dh X ae H s.heap.objs.size:=I.gB (Ze _) I.fresh;have I2:=I1.BX (p:=s.heap.objs.size) (o:=.tup [.int i,x]) fp ⟨by show 2<=sizeLine;decide,[.int i tk,y],.cons ⟨tk,rfl⟩ (.cons ru .nil),⟨_,Ky,rfl,_,rfl⟩⟩;refine⟨.ref s.heap.objs.size,_,I2,rfl,⟨_,I.fresh,rfl,λys hy=>by rw[I.iW hy hq];exact⟨x,hx,rfl⟩⟩,⟨⟨_,V3⟩,?_⟩,λb hb=>?_⟩
  .obtain⟨⟨o,e1,c,d⟩,_⟩:=ot;exact⟨o,og.extBut _ _ (Ne.symm KO) e1,c,d⟩
  .rw[cS]
   .exact(hf b hb).1
   .rcases Zk.mp hb with rfl |hb
    .exact bo.symm
    .obtain rfl:b=it:=by simpa using hb
     obtain⟨o,e1,_⟩:=eO;exact Z9 (Zn e1)
 done:=by
  intro X hP hw hK hc i ae s σ H E I hf st hg;subst hP hw hK;obtain⟨xs,hq,hx⟩:=hg;obtain⟨its,rv,p,hz⟩:=I.tuple hq;obtain⟨⟨old,he⟩,eO⟩:=st;have pt:s.heap.IsTuple a its.toArray:=p;have P9:a≠it:=λz=>by
   obtain⟨o,e1,c,_⟩:=pt;obtain⟨o',e2,c',_⟩:=id eO;rw[z,e2] at e1;cases e1;rw[c] at c';exact absurd c' (by decide)
  have hl:=rv.length;have hT:s.TypeIs (.ref e) "enumerate":=⟨_,he,rfl⟩;unfold pyNext;refine Za (wpAny_attempt (wpAny_callSpecial?_slot (name:=Str.ofString "__next__") hT F.slot_enumerate_next
   (wpAny_call_entry F.slot_enumerate_next hT F.entry_enumerate_next ?_ (F.args_enumerate_next_1 _))))
  show wpAny _ _ (field (.ref e) 2 >>= _) _ _ _;refine Za (wpAny_field he rfl (x:=.ref it) rfl ?_);refine Za (Vw (A:=X.A.in1) (I.ok.hd hc) eO pt (by simp;omega) λh' ex V4 uF=>?_);obtain⟨o,ho,ja⟩:=uF;refine Za (wpAny_isInstance (T:="StopIteration") (b:=true) ⟨o,ho,ja⟩ isSubtype_stop ?_);exact wpAny_pure ⟨rfl,I.iP (t':=s.toks) (ch:=[it]) (λb o hb q=>V4 b o (λz=>hb (by simp[z])) q) (λb hb=>hf b (Zh _ hb))⟩
 self:=λA i s Q E st h=>by
  obtain⟨⟨old,he⟩,_⟩:=st;exact wpAny_pyIter_enum he h
def TH (K:Θ1)(ta:TA):TI:=λσ H R=>ta σ H λvs H1=>∃a,vs=[.ref a]/\(∃xs,aM K H1 a xs)/\R (BB K a) H1
end
def Cn (ai:St)(acc:Addr)(P:List V->Hp->Prop)(σ:St)(H:Hp):Prop:=(∀v,σ.set 0 v=ai.set 0 v)/\∃ys,H acc=some (.lst ys)/\P ys H
def Cn.of {ai:St}{acc:Addr}{P:List V->Hp->Prop}{w:Option V}{H:Hp}{ys:List V}(h:H acc=some (.lst ys))(p:P ys H):Cn ai acc P (ai.set 0 w) H:=⟨λv=>by rw[List.set_set],ys,h,p⟩
def Ki (outer:List (Str×NameKind))(N:Δ2)(scope:Scope)(cap:Δ2)(ix:List Nat):Bool :=
 (scope.kind == .function)&&(scope.names.all λx=>x.2 != .local||scope.names.lookup x.1 == some .local)&&decide (scope.names.map (·.1)).Nodup &&
 (scope.names.all λx=>x.2 != .free||outer.lookup x.1 == some .cell||outer.lookup x.1 == some .free)&&(cap.all λx=>decide ((x,NameKind.free)∈scope.names))&&(cap.zip ix).all (λp=>N[p.2]? == some p.1)&&cap.length == ix.length
def aJ.of {X:Cx}{scope:Scope}{own cap:Δ2}{ix:List Nat}(outer:List (Str×NameKind))(N:Δ2)(hsc:X.env.scope.names=outer:=by rfl)(hN:X.N=N:=by rfl)(h:Ki outer N scope cap ix=true:=by decide+kernel):aJ X scope own cap ix:=by
 unfold Ki at h;simp only[Z8,Ya,beq_iff_eq,decide_eq_true_eq,Bool.or_eq_true,bne_iff_ne,ne_eq] at h;obtain⟨⟨⟨⟨⟨⟨h1,h2⟩,h3⟩,h4⟩,h5⟩,h6⟩,h7⟩:=h;refine⟨h1,λx hx hl=>?_,h3,λx hx hl=>?_,λj x e=>h5 x (Zz e),λj x e=>?_,h7⟩
 .rcases h2 x hx with z |z
  .exact absurd hl z
  .exact z
 .show X.env.scope.names.lookup x.1=_\/X.env.scope.names.lookup x.1=_;rw[hsc];rcases h4 x hx with (z |z) |z
  .exact absurd hl z
  .exact .inl z
  .exact .inr z
 .have hj:j<cap.length:=(Zf.mp e).1;have kB:j<ix.length:=by omega
  refine⟨ix[j],Zc kB,?_⟩;rw[hN];have hz:(cap.zip ix)[j]?=some (x,ix[j]):=by
   rw[List.getElem?_zip_eq_some];exact⟨e,Zc kB⟩
  exact h6 _ (Zz hz)
section
variable {K:Θ1}{lo:Int}{n:Nat}{tt:TT}{te:TE}{acc a:Addr}{xs:List V}{ai:St}{cC:Hp}{Q:VK}
def wH (Pv:Nat->List V->Hp->Prop)(h0:Pv 0 [] (aL cC acc (.lst [])))
  (hs:∀(i:Nat) ys H,i<n->H acc=some (.lst ys)->Pv i ys H->tt (ai.set 0 (some (.int (lo+i)))) H λb H4 =>
   if b=true then te (ai.set 0 (some (.int (lo+i)))) H4 λy H5=>∃zs,H5 acc=some (.lst zs)/\zs.length<sizeLine/\Cn ai acc (Pv (i+1)) (ai.set 0 (some (.int (lo+i)))) (aL H5 acc (.lst (zs++[y]))) else Cn ai acc (Pv (i+1)) (ai.set 0 (some (.int (lo+i)))) H4)
  (hd:∀ys H,H acc=some (.lst ys)->Pv n ys H->Q (.ref acc) H):iz (fk 0) tt te (QR lo n) acc ai cC Q:=by
 refine⟨λi m σ H=>m=n-i/\i<=n/\Cn ai acc (Pv i) σ H,⟨n,by simp,Z7 _,λ_=>rfl,[],dM,h0⟩,?_⟩;rintro i m σ H ⟨rfl,hi,uR,ys,hy,p⟩;by_cases cg:i<n
 .refine .inr ⟨cg,Cn ai acc (Pv (i+1)),λaB H' c=>⟨n-(i+1),by omega,rfl,cg,c⟩,λx H' y=>?_⟩;obtain⟨e,y⟩:=y;subst e y;show tt (σ.set 0 _) _ _;rw[uR];exact hs i ys _ cg hy p
 .have e:i=n:=by omega
  subst e;exact .inl ⟨Ze _,hd ys H hy p⟩
def kh (Pv:Nat->List V->Hp->Prop)(h0:Pv 0 [] (aL cC acc (.lst [])))(hl:∀(i:Nat) ys H,i<=xs.length->H acc=some (.lst ys)->Pv i ys H->aM K H a xs)
  (hs:∀(i:Nat) x ys H,xs[i]?=some x->H acc=some (.lst ys)->Pv i ys H->tt (ai.set 0 (some x)) H λb H4 =>
   if b=true then te (ai.set 0 (some x)) H4 λy H5=>∃zs,H5 acc=some (.lst zs)/\zs.length<sizeLine/\Cn ai acc (Pv (i+1)) (ai.set 0 (some x)) (aL H5 acc (.lst (zs++[y]))) else Cn ai acc (Pv (i+1)) (ai.set 0 (some x)) H4)
  (hd:∀ys H,H acc=some (.lst ys)->Pv xs.length ys H->Q (.ref acc) H):iz (fk 0) tt te (zj K a) acc ai cC Q:=by
 refine⟨λi m σ H=>m=xs.length-i/\i<=xs.length/\Cn ai acc (Pv i) σ H,⟨xs.length,by simp,Z7 _,λ_=>rfl,[],dM,h0⟩,?_⟩;rintro i m σ H ⟨rfl,hi,uR,ys,hy,p⟩;have q:=hl i ys H hi hy p;by_cases cg:i<xs.length
 .refine .inr ⟨⟨xs,xs[i],q,by simp[cg]⟩,Cn ai acc (Pv (i+1)),λaB H' c=>⟨xs.length-(i+1),by omega,rfl,cg,c⟩,λx H' y=>?_⟩;obtain⟨e,y⟩:=y;subst e;show tt (σ.set 0 _) _ _;rw[uR];exact hs i x ys _ (y xs q) hy p
 .have e:i=xs.length:=by omega
  subst e;exact .inl ⟨⟨xs,q,Ze _⟩,hd ys H hy p⟩
def EE {g:TG}{tb:TS}{D:Ends}{σ:St}{H:Hp}(Pv:Nat->St->Hp->Prop)(h0:Pv 0 σ H)(hl:∀i σ H,i<=xs.length->Pv i σ H->H a=some (.tup xs))
  (hs:∀(i:Nat) x p σ H,xs[i]?=some x->H p=none->Pv i σ H->g (.ref p) σ (aL H p (.tup [.int i,x])) λcv H2=>tb { D with nx:=Pv (i+1),ct:=Pv (i+1),bk:=D.nx } cv H2) (hd:∀σ H,Pv xs.length σ H->D.nx σ H) :
  ∃W:Nat->Nat->St->Hp->Prop,(∃m,W 0 m σ H)/\∀i m σ H,W i m σ H ->
   ((BB K a).stop i H/\D.nx σ H)\/((BB K a).go i H/\∃N:St->Hp->Prop,(∀aB H',N aB H'->∃m',m'<m/\W (i+1) m' aB H')/\∀x H',(BB K a).uA i H x H'->g x σ H' λcv H2=>tb { D with nx:=N,ct:=N,bk:=D.nx } cv H2):=by
 refine⟨λi m σ H=>m=xs.length-i/\i<=xs.length/\Pv i σ H,⟨xs.length,by simp,Z7 _,h0⟩,?_⟩;rintro i m σ H ⟨rfl,hi,p⟩;have q:=hl i σ H hi p;by_cases cg:i<xs.length
 .refine .inr ⟨⟨xs,xs[i],aM.of q,by simp[cg]⟩,Pv (i+1),λaB H' p'=>⟨xs.length-(i+1),by omega,rfl,cg,p'⟩,λx H' y=>?_⟩;obtain⟨pp,hp,e,PH⟩:=y;obtain⟨z,hy,e2⟩:=PH xs (aM.of q);subst e e2;exact hs i z pp σ H hy hp p
 .have e:i=xs.length:=by omega
  subst e;exact .inl ⟨⟨xs,aM.of q,Ze _⟩,hd σ H p⟩
end
section
variable {X:Cx}{tg l:Expr}{tl:TE}
def ξ (K:Θ1)(h:X.K=K:=by rfl):bZ X (.builtin "len") (λxs H Q=>∃p ys,xs=[.ref p]/\(bD K H p ys\/aM K H p ys)/\Q (.int ys.length) H):=by subst h;exact gP
end
end L2
namespace KG
open PySem L2
def pS:bootBuiltins "tuple"=some (.type "tuple"):=by first |rfl |kernel_rfl |decide+kernel
def boot_int:bootBuiltins "int"=some (.type "int"):=by first |rfl |kernel_rfl |decide+kernel
def boot_abs:bootBuiltins "abs"=some (.builtin "abs"):=by first |rfl |kernel_rfl |decide+kernel
def boot_max:bootBuiltins "max"=some (.builtin "max"):=by first |rfl |kernel_rfl |decide+kernel
def boot_min:bootBuiltins "min"=some (.builtin "min"):=by first |rfl |kernel_rfl |decide+kernel
def boot_any:bootBuiltins "any"=some (.builtin "any"):=by first |rfl |kernel_rfl |decide+kernel
def boot_sum:bootBuiltins "sum"=some (.builtin "sum"):=by first |rfl |kernel_rfl |decide+kernel
def Fv:bootBuiltins "enumerate"=some (.type "enumerate"):=by first |rfl |kernel_rfl |decide+kernel
def Ul:bootBuiltins "isinstance"=some (.builtin "isinstance"):=by first |rfl |kernel_rfl |decide+kernel
def boot_bool:bootBuiltins "bool"=some (.type "bool"):=by first |rfl |kernel_rfl |decide+kernel
def rJ (H:Hp)(b:Addr):Prop:=∃c d:Int,H b=some (.lst [.int c,.int d])
def Kp (b:Addr)(H H':Hp):Prop:=∀a o,a≠b->H a=some o->H' a=some o
def Kp.refl (b:Addr)(H:Hp):Kp b H H:=λ_ _ _ h=>h
def Kp.trans {b:Addr}{H H1 H2:Hp}(x:Kp b H H1)(y:Kp b H1 H2):Kp b H H2:=λa o n h=>y a o n (x a o n h)
def Kp.bag {b:Addr}{H H':Hp}{o:HO}(x:Kp b H H'):Kp b H (aL H' b o):=λa u n h=>by rw[cS n];exact x a u n h
def Kp.new {b p:Addr}{H H':Hp}{o:HO}(x:Kp b H H')(hp:H' p=none):Kp b H (aL H' p o):=λa u n h=>by rw[cS (E8 (x a u n h) hp)];exact x a u n h
def rJ.new {b p:Addr}{H:Hp}{o:HO}(h:rJ H b)(hp:H p=none):rJ (aL H p o) b:=by
 obtain⟨c,d,e⟩:=h;exact⟨c,d,by rw[cS (E8 e hp)];exact e⟩
def rJ.ne {b p:Addr}{H:Hp}(h:rJ H b)(hp:H p=none):b≠p:=by
 obtain⟨c,d,e⟩:=h;exact E8 e hp
def qd:Sp:=λvs H Q _=>∃(b:Addr) (m:Int),vs=[.ref b,.int m]/\rJ H b/\0<m/\m<1073741824/\∀(r:Int) (H':Hp),0<=r->r<m->rJ H' b->Kp b H H'->Q (.int r) H'
def B3 (K:Θ1):Sp:=λvs H Q _=>∃(a:Addr) (ns:Γ3) (k:Int),vs=[.ref a,.int k]/\bD K H a (ns.map V.int)/\0<=k/\k<100/\∀(p:Addr) (c d:Int),H p=none->Q (.ref p) (aL H p (.lst [.int c,.int d]))
structure bU (K:Θ1)(mg:Θ3)(P:Program)(w:World)(base:Heap)(x:Str)(k:Nat)(ps:Δ2)(sp:Sp)(f:Addr)(fd:FuncData):Prop where
 ok:aK P w K mg base ci k f fd ps sp
 mg:mg x=some (.ref f)
 kp:PySem.W.keepIn K (.ref f)=true
 bd:Binds K fd ps []
def sz:sizeLine=16777216:=PySem.sizeLine_eq
def mJ {σ:St}{H:Hp}{A B:Hp->Prop}(h:A H):QY σ H (λb H4=>if b=true then A H4 else B H4):=cE (B:=B H) h
def tY {ns:Γ3}{r:Int}(h0:0<=r)(h1:r<ns.length):gv (ns.map V.int) r=some (V.int (ns.getD r.toNat 0))/\rQ (ns.map V.int).length r=some r.toNat/\ns.getD r.toNat 0∈ns:=by
 have hl:r.toNat<ns.length:=by omega
 have e:(ns.map V.int)[r.toNat]?=some (V.int (ns.getD r.toNat 0)):=by
  rw[Zl,Zc hl];simp[List.getD,Zc hl]
 refine⟨?_,?_,?_⟩
 .have:=md e;rw[Xe h0] at this;exact this
 .unfold rQ;rw[if_pos h0,if_pos (by rw[Zb];exact h1)]
 .simp[List.getD,Zc hl]
def Tm (H H':Hp):Prop:=∀a xs,H a=some (.tup xs)->H' a=some (.tup xs)
def Tm.lst {p:Addr}{H:Hp}{xs:List V}{o:HO}(h:H p=some (.lst xs)):Tm H (aL H p o):=λa ys e=>by
 rw[cS (λz=>by rw[z,h] at e;cases e)];exact e
def rJ.acc {b p:Addr}{H:Hp}{o:HO}(h:rJ H b)(hp:b≠p):rJ (aL H p o) b:=by
 obtain⟨c,d,e⟩:=h;exact⟨c,d,by rw[cS hp];exact e⟩
def pV (H:Hp)(ws:List V)(M:Γ1):Prop:=Paired (λv ns=>∃a,v=V.ref a/\H a=some (.tup (List.map V.int ns))) ws M
def pV.keep {H H':Hp}{ws:List V}{M:Γ1}(h:pV H ws M)(t:Tm H H'):pV H' ws M:=Paired.Gj h λv ns ⟨a,e,q⟩=>⟨a,e,t a _ q⟩
def pV.len {H:Hp}{ws:List V}{M:Γ1}(h:pV H ws M):ws.length=M.length:=Paired.length h
theorem pV.at:∀{H:Hp}{ws:List V}{M:Γ1}{i:Nat}{x:V},pV H ws M->ws[i]?=some x->∃ns a,M[i]?=some ns/\x=V.ref a/\H a=some (.tup (List.map V.int ns))
 |_,_,_,_,_,.nil,e=>by simp at e
 |_,_,_,0,_,.cons ⟨a,h1,h2⟩ _,e=>by simp at e;subst e;exact⟨_,a,rfl,h1,h2⟩
 |_,_,_,i+1,_,.cons _ t,e=>by
  obtain⟨ns,a,h1,h2,h3⟩:=pV.at (i:=i) t (by simpa using e);exact⟨ns,a,by simpa using h1,h2,h3⟩
def ay (H H':Hp):Prop:=∀a o,H a=some o->H' a=some o
def ay.refl (H:Hp):ay H H:=λ_ _ h=>h
def ay.trans {H H1 H2:Hp}(a:ay H H1)(b:ay H1 H2):ay H H2:=λx o h=>b x o (a x o h)
def ay.new {H H':Hp}{p:Addr}{o:HO}(a:ay H H')(hp:H' p=none):ay H (aL H' p o):=λx u h=>by rw[cS (E8 (a x u h) hp)];exact a x u h
def ay.acc {H H':Hp}{p:Addr}{o:HO}(a:ay H H')(hp:H p=none):ay H (aL H' p o):=λx u h=>by rw[cS (E8 h hp)];exact a x u h
def ay.tm {H H':Hp}(a:ay H H'):Tm H H':=λx xs h=>a x _ h
def has (M:Γ1)(j:Nat):Bool:=M.any λr=>decide (0<r.getD j 0)
def E5 (g:Nat)(M:Γ1):List V:=((List.range g).filter (has M)).map λ(j:Nat)=>V.int (0+(j:Int))
def uq (f:Nat->Bool)(n:Nat):(List.range (n+1)).filter f=(List.range n).filter f++if f n=true then [n] else []:=by
 rw[Y6,Xm]
 congr 1
 by_cases h:f n=true
 .simp[h]
 .simp[h]
def ay.free {H0 H:Hp}{p:Addr}(s:ay H0 H)(h:H p=none):H0 p=none:=by
 cases q:H0 p with
 |none=>rfl
 |some o=>rw[s p o q] at h;cases h
def wX (K:Θ1):Sp:=λvs H Q _=>∃(a:Addr) (ns:Γ3),vs=[.ref a]/\bD K H a (ns.map V.int)/\ns.length<=63/\∀H',Q (.bl true) H'
def bD.ap {K:Θ1}{H H':Hp}{a:Addr}{xs:List V}(h:bD K H a xs)(s:ay H H'):bD K H' a xs:=by
 rcases h with (h |⟨o,h⟩) |h
 .exact .inl (.inl (s _ _ h))
 .exact .inl (.inr ⟨o,s _ _ h⟩)
 .exact .inr h
def boot_list:bootBuiltins "list"=some (.type "list"):=by first |rfl |kernel_rfl |decide+kernel
def boot_all:bootBuiltins "all"=some (.builtin "all"):=by first |rfl |kernel_rfl |decide+kernel
mutual
inductive iN (b:Addr) (H:Hp):V->PyData->Prop
 |bV:iN b H .bV .none
 |bl (c:Bool):iN b H (.bl c) (.bool c)
 |int (i:Int):iN b H (.int i) (.int i)
 |str (x:Str) (ok:(PyData.str x).canLay0=true):iN b H (.str x) (.str x)
 |lst {a:Addr}{xs:List V}{ds:Ξ1}:a≠b->H a=some (.lst xs)->cB b H xs ds->iN b H (.ref a) (.list ds)
 |tup {a:Addr}{xs:List V}{ds:Ξ1}:H a=some (.tup xs)->cB b H xs ds->iN b H (.ref a) (.tuple ds)
inductive cB (b:Addr) (H:Hp):List V->Ξ1->Prop
 |nil:cB b H [] []
 |cons {x:V}{xs:List V}{d:PyData}{ds:Ξ1}:iN b H x d->cB b H xs ds->cB b H (x::xs) (d::ds)
end
mutual
theorem iN.ap {b:Addr}{H H':Hp}(k:ay H H'):∀{v:V}{d:PyData},iN b H v d->iN b H' v d
 |_,_,.bV=>.bV
 |_,_,.bl c=>.bl c
 |_,_,.int i=>.int i
 |_,_,.str x ok=>.str x ok
 |_,_,.lst n h t=>.lst n (k _ _ h) (cB.ap k t)
 |_,_,.tup h t=>.tup (k _ _ h) (cB.ap k t)
theorem cB.ap {b:Addr}{H H':Hp}(k:ay H H'):∀{vs:List V}{ds:Ξ1},cB b H vs ds->cB b H' vs ds
 |_,_,.nil=>.nil
 |_,_,.cons h t=>.cons (iN.ap k h) (cB.ap k t)
end
mutual
theorem iN.dt {K:Θ1}{b:Addr}{H:Hp}:∀{v:V}{d:PyData},iN b H v d->lN K H v d
 |_,_,.bV=>.bV
 |_,_,.bl c=>.bl c
 |_,_,.int i=>.int i
 |_,_,.str x ok=>.str x ok
 |_,_,.lst n h t=>.lst (bD.of h) (cB.dt t)
 |_,_,.tup h t=>.tup (aM.of h) (cB.dt t)
theorem cB.dt {K:Θ1}{b:Addr}{H:Hp}:∀{vs:List V}{ds:Ξ1},cB b H vs ds->eV K H vs ds
 |_,_,.nil=>.nil
 |_,_,.cons h t=>.cons (iN.dt h) (cB.dt t)
end
theorem cB.len {b:Addr}{H:Hp}:∀{vs:List V}{ds:Ξ1},cB b H vs ds->vs.length=ds.length
 |_,_,.nil=>rfl
 |_,_,.cons _ t=>congrArg (· + 1) (cB.len t)
theorem cB.at {b:Addr}{H:Hp}:∀{vs:List V}{ds:Ξ1}{i:Nat}{x:V},cB b H vs ds->vs[i]?=some x->∃d,ds[i]?=some d/\iN b H x d
 |_,_,_,_,.nil,e=>by simp at e
 |_,_,0,_,.cons h _,e=>by simp at e;subst e;exact⟨_,rfl,h⟩
 |_,_,i+1,_,.cons _ t,e=>by
  obtain⟨d,h1,h2⟩:=cB.at (i:=i) t (by simpa using e);exact⟨d,by simpa using h1,h2⟩
def j2:PyData->Bool
 |.int _=>true
 |_=>false
def within (lo hi:Int):PyData->Bool
 |.int i=>decide (lo<=i)&&decide (i<=hi)
 |_=>false
def bN:PyData->Bool
 |.tuple [.int t,.int u]=>decide (1<=u)&&decide (Int.gcd t u=1)
 |_=>false
def uM:PyData->Bool
 |.tuple [.int t,.int u]=>decide (1<=u)&&decide (Int.gcd t u=1)&&decide (1<=t)&&decide (t<=1000000)&&decide (u<=1000000)
 |_=>false
def mO (n:Nat)(lo hi:Int):PyData->Bool
 |.tuple ds=>decide (ds.length=n)&&ds.all (within lo hi)
 |_=>false
def gA:PyData->Bool
 |.tuple [.tuple a,.tuple p,.tuple w]=>decide (1<=a.length)&&decide (a.length<=6)&&a.all (within 1 60)&&(decide (1<=p.length)&&decide (p.length<=6)&&p.all uM)&&(decide (w.length=p.length)&&w.all (mO a.length 0 100))
 |_=>false
end KG
namespace HT
open PySem PySem.Spec PyProof.Rows
section
variable {prog:Program}{w:World}{A:Around}{E:Θ2}{s:Shared}
def kA {t sl:Addr}{items:Array Value}{vl vu:Value}{lo hi:Option Int}{Q:Θ2}(ht:IsTup s.heap t items)(hs:s.heap.IsSliceOf sl vl vu .none)(pl:IsPart vl lo)(pu:IsPart vu hi)
  (hw:cP items.size 0 lo=0/\cP items.size items.size hi=items.size) (h:Q (.ref t) s):wpAny (model prog w) A (getItem (.ref t) (.ref sl)) Q E s:=by
 obtain⟨os,KC,Ux,P5⟩:=id hs;have Wf:s.TypeIs (.ref sl) "slice":=⟨os,KC,Ux⟩;unfold getItem
 try with_reducible refine wpAny_holding ?_
 first |refine Za (wpAny_pure ?_) |skip
 refine Za (wpAny_sequenceKey ht.typeIs (by decide) ?_);refine Za (wpAny_callSpecial?_slot (name:=Str.ofString "__getitem__") ht.typeIs PyProof.Rows.slot_tuple_getitem
  (wpAny_call_entry PyProof.Rows.slot_tuple_getitem ht.typeIs entry_tuple_getitem ?_ (args_tuple_getitem _ _)))
 show wpAny _ _ (Builtin.Tuple.tupleItemsOf (.ref t) >>= _) _ _ s;refine Za (tupleItemsOf_ ht ?_);refine Za (wpAny_typeOf Wf ?_);rw[if_pos (by decide)];refine Za (gl hs pl pu ?_);have ZX:((((cP items.size 0 lo:Nat):Int) == 0&&(1:Int) == 1&&(cP items.size items.size hi-cP items.size 0 lo) == items.size)=true):=by
  rw[hw.1,hw.2];simp
 show wpAny _ _ (if (((cP items.size 0 lo:Nat):Int) == 0&&(1:Int) == 1&&(cP items.size items.size hi-cP items.size 0 lo) == items.size)=true then _ else _) _ _ s;rw[if_pos ZX];have htt:s.TypeIs (.ref t) "tuple":=ht.typeIs;refine Za (m:=Builtin.Tuple.tupleIsExact (.ref t)) (Za (wpAny_typeOf htt (wpAny_pure ?_)));rw[if_pos (by decide)]
 first
  |exact wpAny_pure ⟨_,rfl,wpAny_pure h⟩
  |exact Za (wpAny_pure (wpAny_pure ⟨_,rfl,wpAny_pure h⟩))
  |(wp_walk;exact⟨_,rfl,wpAny_pure h⟩)
  |(wp_walk;exact⟨_,rfl,h⟩)
end
end HT
namespace L2
open PySem PySem.Spec PyProof.Rows
section
variable {X:Cx}
def ZE:V->Option Int->Option Int->Hp->VK->Prop:=λx lo hi H Q=>∃a xs,x=.ref a/\H a=some (.tup xs)/\∀p H',KG.ay H H'->H' p=some (.tup (mE xs lo hi))->Q (.ref p) H'
def G6:FK X ZE:=by
 intro ae s σ H x v vl vu lo hi sl Q I rx hs pl pu h;obtain⟨a,xs,rfl,hx,q⟩:=h;by_cases hw:HT.cP xs.length 0 lo=0/\HT.cP xs.length xs.length hi=xs.length
 .cases rx
  obtain⟨its,r,ht,hz⟩:=I.tuple (aM.of hx);have cy:its.toArray.size=xs.length:=by rw[Z1];exact r.length.symm
  refine⟨"tuple",_,PyProof.Rows.slot_tuple_getitem.lookup,ht.typeIs,?_⟩;refine HT.kA ht hs pl pu (by rw[cy];exact hw) ⟨.ref a,H,I,rfl,q a H (KG.ay.refl H) ?_⟩;have e:mE xs lo hi=xs:=by unfold mE;rw[hw.1,hw.2,List.drop_zero,Nat.sub_zero,Yj]
  rw[e];exact hx
 .exact MJ ae s σ H _ v vl vu lo hi sl Q I rx hs pl pu ⟨a,xs,rfl,aM.of hx,hw,λp hp=>q p _ ((KG.ay.refl H).new hp) dM⟩
def JH:R2:=λx y H Q=>∃a b xs ys,x=.ref a/\y=.ref b/\H a=some (.tup xs)/\H b=some (.tup ys)/\xs.length+ys.length<=sizeLine/\∀p H',KG.ay H H'->H' p=some (.tup (xs++ys))->Q (.ref p) H'
def HD:fj X (binaryOp .Add) JH:=by
 intro ae s σ H x y v u Q I rx ry h;obtain⟨a,b,xs,ys,rfl,rfl,ha,hb,hz,q⟩:=h;by_cases hx:xs=[]
 .cases rx
  cases ry
  obtain⟨its,r1,p1,_⟩:=I.tuple (aM.of ha);obtain⟨BL,r2,p2,_⟩:=I.tuple (aM.of hb);obtain⟨⟨cls,dd,data,sl⟩,ho,hc,n,hd⟩:=id p1;obtain⟨⟨ζ,UJ,data2,b9⟩,KD,Fj,n2,FG⟩:=id p2;simp only at hc hd Fj FG;subst hc hd Fj FG;have e0:its=[]:=r1.lW.mpr hx;exact concat_meets ⟨_,ho,rfl⟩ ⟨_,KD,rfl⟩ noFill_tuple_add seq_tuple_add PySem.F.slot_tuple_add PySem.F.entry_tuple_add (PySem.F.args_tuple_add_2 _ _)
   (tuple_addW0 a b its.toArray BL.toArray n n2 dd UJ sl b9 (by simp[e0])) ⟨ho,KD,⟨.ref b,H,I,rfl,q b H (KG.ay.refl H) (by rw[hx];exact hb)⟩⟩
 .refine HC ae s σ H _ _ v u Q I rx ry ⟨a,b,xs,ys,rfl,rfl,aM.of ha,aM.of hb,hx,hz,λe=>q a H (KG.ay.refl H) (by rw[e,Yg];exact ha),λ_ p hp=>q p _ ((KG.ay.refl H).new hp) dM⟩
end
end L2
namespace L2
open PySem PySem.Spec PyProof.Rows KG
end L2
namespace EX
open PySem PySem.Spec PyProof.Rows
section
variable {M:Model}{A:Around}{E:Θ2}{s:Shared}{B:Heap}{env:Env}{outer:List Env}{L e C t:Addr}{Q:Unit->Shared->Prop}
end
end EX
namespace L2
open PySem PySem.Spec PyProof.Rows EX
section
variable {P:Program}{w:World}{K:Θ1}{mg:Θ3}{base:Heap}{N:Δ2}{qual:Str}{scope:Scope}{f:Addr}{cd:Value}{A:Around}{outer:List Env}{eG:Shared}{cC:Hp}{E:XK}
end
end L2
namespace EX
open PySem PySem.Spec PyProof.Rows
section
variable {prog:Program}{w:World}{A:Around}{E:Θ2}{s:Shared}
end
end EX
namespace L2
open PySem PySem.Spec PyProof.Rows EX
section
variable {X:Cx}{tg:Expr}
end
section
variable {X:Cx}{scope:Scope}{own cap:Δ2}{ix:List Nat}{tg iter dr:Expr}{du:Ξ2}{wi:TI}{g:TG}{tt:TT}{te:TE}{pos:Pos}
end
end L2
namespace EX
open PySem PySem.Spec PyProof.Rows PySem.W
section
variable {prog:Program}{w:World}{A:Around}{E:Θ2}{s:Shared}{K:Frag}{x D t:Addr}{hd:Value}
end
end EX
namespace L2
open PySem PySem.Spec PyProof.Rows EX
section
variable {X:Cx}{e:Expr}{te:TE}{ea D t:Addr}{hd:Value}
end
end L2
namespace EX
open PySem PySem.Spec PyProof.Rows PySem.W
section
variable {prog:Program}{w:World}{A:Around}{E:Θ2}{s:Shared}{K:Frag}{e D C t:Addr}{hd:Value}
end
end EX
namespace L2
open PySem PySem.Spec PyProof.Rows EX
section
variable {P:Program}{w:World}{K:Θ1}{mg:Θ3}{base:Heap}
end
section
variable {X:Cx}{ae:Γ2}{σ:St}{H:Hp}{s:Shared}
end
end L2
namespace KG
open PySem
def Bd (k:Nat)(n:Int):Prop:=n.natAbs<2 ^ k
def Bd.mono {j k:Nat}{n:Int}(h:Bd j n)(hj:j<=k):Bd k n:=Yf h (Xn (by decide) hj)
def Bd.mul {j k:Nat}{a b:Int}(h:Bd j a)(h':Bd k b):Bd (j+k) (a*b):=by
 unfold Bd at *;rw[Int.natAbs_mul,Nat.pow_add];exact Nat.mul_lt_mul'' h h'
def Bd.le {k:Nat}{a b:Int}(h:Bd k b)(hl:a.natAbs<=b.natAbs):Bd k a:=Nat.lt_of_le_of_lt hl h
def Bd.log {k:Nat}{n:Int}(h:Bd k n)(hk:k<=8999):n.natAbs.log2<9000:=by
 by_cases h0:n.natAbs=0
 .rw[h0];decide+kernel
 .exact(Nat.log2_lt h0).mpr (Yf h (Xn (by decide) (by omega)))
def sg (t u:Int):Int:=if u<0 then -(Int.gcd t u:Int) else (Int.gcd t u:Int)
def nx (t u:Int):Int:=t.fdiv (sg t u)
def ny (t u:Int):Int:=u.fdiv (sg t u)
def lX {t u:Int}(h:u≠0):nx t u*u=t*ny t u/\0<ny t u/\Int.gcd (nx t u) (ny t u)=1/\sg t u≠0/\(nx t u).natAbs<=t.natAbs/\(ny t u).natAbs<=u.natAbs:=by
 have g0:0<Int.gcd t u:=Qr t h;obtain⟨a,ha⟩:(Int.gcd t u:Int)∣t:=Int.gcd_dvd_left ..;obtain⟨b,hb⟩:(Int.gcd t u:Int)∣u:=Qs ..;generalize hg:Int.gcd t u=g at *;have hc:Int.gcd a b=1:=by
  have e:Int.gcd t u=Int.gcd ((g:Int)*a) ((g:Int)*b):=by rw[<- ha,<- hb]
  rw[hg,Int.gcd_mul_left] at e;simp at e;have e2:g*1=g*Int.gcd a b:=by rw[Nat.mul_one];exact e
  exact(Nat.eq_of_mul_eq_mul_left g0 e2).symm
 have gp:(0:Int)<g:=by omega
 have la:a.natAbs<=t.natAbs:=by
  rw[ha,Int.natAbs_mul];simp;exact Nat.le_mul_of_pos_left _ g0
 have lb:b.natAbs<=u.natAbs:=by
  rw[hb,Int.natAbs_mul];simp;exact Nat.le_mul_of_pos_left _ g0
 unfold nx ny sg;rw[hg];by_cases hu:u<0
 .rw[if_pos hu];have dn:(-(g:Int))≠0:=by omega
  have e1:t.fdiv (-(g:Int))=-a:=by
   have:t=(-(g:Int))*(-a):=by rw[Int.neg_mul_neg];exact ha
   rw[this,Qt _ dn]
  have e2:u.fdiv (-(g:Int))=-b:=by
   have:u=(-(g:Int))*(-b):=by rw[Int.neg_mul_neg];exact hb
   rw[this,Qt _ dn]
  rw[e1,e2];refine⟨?_,?_,by rw[Int.neg_gcd,Int.gcd_neg];exact hc,dn,by rw[Int.natAbs_neg];exact la,by rw[Int.natAbs_neg];exact lb⟩
  .have q:a*u=t*b:=by rw[hb,ha];rw[Int.mul_left_comm,Int.mul_assoc]
   rw[Int.neg_mul,q,Int.mul_neg]
  .rcases Int.lt_or_le b 0 with z |z
   .omega
   .have:0<=(g:Int)*b:=Int.mul_nonneg (by omega) z;omega
 .rw[if_neg hu];have dn:(g:Int)≠0:=by omega
  have e1:t.fdiv (g:Int)=a:=by rw[ha,Qt _ dn]
  have e2:u.fdiv (g:Int)=b:=by rw[hb,Qt _ dn]
  rw[e1,e2];refine⟨?_,?_,hc,dn,la,lb⟩
  .rw[hb,ha,Int.mul_left_comm,Int.mul_assoc]
  .rcases Int.lt_or_le 0 b with z |z
   .exact z
   .have:(g:Int)*b<=0:=Int.mul_nonpos_of_nonneg_of_nonpos (by omega) z;omega
def yH {a c:Int}(h:c≠0):(a.fmod c).natAbs<c.natAbs:=by
 rcases Int.lt_or_gt_of_ne h with z |z
 .have e:(-a).fmod (-c)=-(a.fmod c):=Int.neg_fmod_neg a c;have h1:=Int.fmod_nonneg_of_pos (-a) (show 0 < -c by omega);have h2:=Int.fmod_lt_of_pos (-a) (show 0 < -c by omega);omega
 .have h1:=Int.fmod_nonneg_of_pos a z;have h2:=Int.fmod_lt_of_pos a z;omega
def tR {a c:Int}:Int.gcd c (a.fmod c)=Int.gcd a c:=by
 rw[Int.gcd_comm a c,Int.fmod_def,Int.gcd_sub_mul_left_right]
end KG
namespace L2
open PySem PySem.Spec PyProof.Rows KG
section
variable {X:Cx}
def Ec:fj X (binaryOp .FloorDiv) (rI (λ_ j=>0<j/\Bd 8000 j) λi j=>.int (i / j)):=IZ λi j _ _ _ _ _ hc q=>by
 have h1:(0:Int)<j:=hc.1;exact floordiv_int (by omega) (by rw[Qo i (by omega)];exact q) (.inl (PyProof.noPylong_of_log2 (hc.2.log (by decide))))
def iZ:fj X (binaryOp .FloorDiv) (rI (λ_ j=>j≠0/\Bd 8000 j) λi j=>.int (i.fdiv j)):=IZ λ_ _ _ _ _ _ _ hc q=>floordiv_int hc.1 q (.inl (PyProof.noPylong_of_log2 (hc.2.log (by decide))))
def rP:fj X (binaryOp .Mult) (rI (λi j=>Bd 8000 i/\Bd 8000 j) λi j=>.int (i*j)):=IZ λi j _ _ _ _ _ hc q=>mul_int q (IntMulOk.of_bits (Zr (intBits_le hc.1) (by decide)) (Zr (intBits_le hc.2) (by decide)))
end
end L2
namespace KG
open PySem L2
end KG
namespace L2
open PySem PySem.Spec PyProof.Rows
def Sa (K:Θ1)(n:Nat)(t:zg):TG:=λv σ H Q=>∃a xs,v=.ref a/\bD K H a xs/\xs.length=n/\t xs σ H Q
def M9 {X:Cx}{es:Ξ2}{k:Nat}{t:zg}{n:Nat}{pos:Pos}(hc:X.calm=true)(h:uH X es t)
  (hn:(assignEach es X.env).length=n:=by rfl) (ot:(assignEach es X.env).findIdx? (·.1)=none:=by rfl):PG X (.Tuple es k pos) (Sa X.K n t):=by
 intro ae s σ H v u Q I r hw;obtain⟨a,xs,e1,hq,hl,hw⟩:=hw;subst e1;cases r;obtain⟨its,rv,ht,hz⟩:=I.list hq;rw[assign_Tuple];refine Za (wpAny_standAt ?_);unfold unpack;rw[hn,ot];have hsz:n=its.toArray.size:=by rw[Z1,<- rv.length,hl]
 rw[hsz];refine Za (wpAny_holding (PySem.W.kun_itemsOf (I.ok.hd hc) ht.isList λh' hx=>?_));have I1:Inv X ae σ H { s with heap:=h' }:=I.kept (t':=s.toks) λb o e=>hx b o (Z9 (Zn e)) e
 exact h ae _ σ H xs _ Q I1 (by simpa using rv) hw
def Gh {X:Cx}{e:Expr}{te:TE}(K:Θ1){T:Str}{n:String}{p p2 pos:Pos}(he:PE X e te)(hg:Gl X "isinstance")(hm:X.mg "isinstance"=none)(V0:Gl X T)(VS:X.mg T=none)(hv:bootBuiltins T=some (.type n))
  (hb:bootBuiltins "isinstance"=some (.builtin "isinstance")) (h:X.K=K:=by rfl) (VR:T ≠ "__name__":=by decide) (V5:(T == ("__debug__" : Str))=false:=by decide)
  (hs:starEach [e,.Name T p2] X.env=[(false,eval e X.env),(false,eval (.Name T p2) X.env)]:=by rfl)
  (lC:(backTo pos (starEach [.Name T p2] X.env)).any (·.1)=false:=by rfl):PE X (.Call (.Name "isinstance" p) [e,.Name T p2] [] pos) (Q9 K (.type n) te):=by
 subst h;exact HB he hg hm V0 VS hv hb VR V5 hs lC
end L2
namespace KM
open PySem L2 KG EX
def Vy:PyData->Bool
 |.int _=>true
 |.bool _=>true
 |_=>false
def isB:PyData->Bool
 |.bool _=>true
 |_=>false
def Um:PyData->Bool
 |.tuple _=>true
 |_=>false
structure K5 (K:Θ1):Prop where
 i1:PySem.W.kitOne K (.type "NoneType") (.type "int")=some false
 i2:PySem.W.kitOne K (.type "bool") (.type "int")=some true
 i3:PySem.W.kitOne K (.type "int") (.type "int")=some true
 i4:PySem.W.kitOne K (.type "str") (.type "int")=some false
 i5:PySem.W.kitOne K (.type "list") (.type "int")=some false
 i6:PySem.W.kitOne K (.type "tuple") (.type "int")=some false
 b1:PySem.W.kitOne K (.type "NoneType") (.type "bool")=some false
 b2:PySem.W.kitOne K (.type "bool") (.type "bool")=some true
 b3:PySem.W.kitOne K (.type "int") (.type "bool")=some false
 b4:PySem.W.kitOne K (.type "str") (.type "bool")=some false
 b5:PySem.W.kitOne K (.type "list") (.type "bool")=some false
 b6:PySem.W.kitOne K (.type "tuple") (.type "bool")=some false
 t1:PySem.W.kitOne K (.type "NoneType") (.type "tuple")=some false
 t2:PySem.W.kitOne K (.type "bool") (.type "tuple")=some false
 t3:PySem.W.kitOne K (.type "int") (.type "tuple")=some false
 t4:PySem.W.kitOne K (.type "str") (.type "tuple")=some false
 t5:PySem.W.kitOne K (.type "list") (.type "tuple")=some false
 t6:PySem.W.kitOne K (.type "tuple") (.type "tuple")=some true
def isi {K:Θ1}(Z:K5 K){b:Addr}{H:Hp}{v:V}{d:PyData}(h:iN b H v d):∃t,ji K H v t/\PySem.W.kitOne K t (.type "int")=some (Vy d):=by
 cases h with
 |bV=>exact⟨_,.bV,Z.i1⟩
 |bl c=>exact⟨_,.bl _,Z.i2⟩
 |int c=>exact⟨_,.int _,Z.i3⟩
 |str x ok=>exact⟨_,.str _,Z.i4⟩
 |lst n e t=>exact⟨_,.lst e,Z.i5⟩
 |tup e t=>exact⟨_,.tup e,Z.i6⟩
def isb {K:Θ1}(Z:K5 K){b:Addr}{H:Hp}{v:V}{d:PyData}(h:iN b H v d):∃t,ji K H v t/\PySem.W.kitOne K t (.type "bool")=some (isB d):=by
 cases h with
 |bV=>exact⟨_,.bV,Z.b1⟩
 |bl c=>exact⟨_,.bl _,Z.b2⟩
 |int c=>exact⟨_,.int _,Z.b3⟩
 |str x ok=>exact⟨_,.str _,Z.b4⟩
 |lst n e t=>exact⟨_,.lst e,Z.b5⟩
 |tup e t=>exact⟨_,.tup e,Z.b6⟩
def ist {K:Θ1}(Z:K5 K){b:Addr}{H:Hp}{v:V}{d:PyData}(h:iN b H v d):∃t,ji K H v t/\PySem.W.kitOne K t (.type "tuple")=some (Um d):=by
 cases h with
 |bV=>exact⟨_,.bV,Z.t1⟩
 |bl c=>exact⟨_,.bl _,Z.t2⟩
 |int c=>exact⟨_,.int _,Z.t3⟩
 |str x ok=>exact⟨_,.str _,Z.t4⟩
 |lst n e t=>exact⟨_,.lst e,Z.t5⟩
 |tup e t=>exact⟨_,.tup e,Z.t6⟩
def xM {b:Addr}{H:Hp}{v:V}{d:PyData}(h:iN b H v d):Um d=false\/∃a xs ds,v=.ref a/\d=.tuple ds/\H a=some (.tup xs)/\cB b H xs ds:=by
 cases h with
 |bV=>exact .inl rfl
 |bl c=>exact .inl rfl
 |int c=>exact .inl rfl
 |str x ok=>exact .inl rfl
 |lst n e t=>exact .inl rfl
 |tup e t=>exact .inr ⟨_,_,_,rfl,rfl,e,t⟩
def rd {b:Addr}{H:Hp}{v:V}{d:PyData}(h:iN b H v d):j2 d=false\/∃i,v=.int i/\d=.int i:=by
 cases h with
 |bV=>exact .inl rfl
 |bl c=>exact .inl rfl
 |int c=>exact .inr ⟨_,rfl,rfl⟩
 |str x ok=>exact .inl rfl
 |lst n e t=>exact .inl rfl
 |tup e t=>exact .inl rfl
def ww (d:PyData):j2 d=(Vy d&&!isB d):=by cases d<;>rfl
def zG {lo hi:Int}{d:PyData}(h:j2 d=false):within lo hi d=false:=by cases d<;>first |rfl |cases h
def AB {d:PyData}(h:Um d=false):bN d=false:=by cases d<;>first |rfl |cases h
def spT (m:PyData->Bool):Sp:=λvs H Q _=>∃(b:Addr) (v:V) (d:PyData),vs=[v]/\iN b H v d/\∀H',ay H H'->Q (.bl (m d)) H'
def Jt:Sp:=λvs H Q _=>∃(t u:Int),vs=[.int t,.int u]/\0<=u/\Q (.int (Int.gcd t u)) H
def ED {a c:Int}:Int.gcd c (a % c)=Int.gcd a c:=by
 rw[Int.gcd_comm a c,Int.emod_def,Int.gcd_sub_mul_left_right]
def IT {a:Int}:(if a<0 then -a else a)=(Int.gcd a 0:Int):=by
 rw[Int.gcd_zero_right];split<;>omega
def wx {ds:Ξ1}(h:ds.length≠2):bN (.tuple ds)=false:=by
 unfold bN;split
 .next V1=>injection V1 with V1;subst V1;exact absurd rfl h
 .rfl
def xK {a b:Nat}(h:a≠b):(!decide (V.int (a:Int)=V.int (b:Int)))=true:=by
 have:(a:Int)≠b:=by omega
 simp[this]
def GX (a:Int):(!decide (V.int a=V.int a))=false:=by simp
def pE {d:PyData}(h:bN d=true):∃t u:Int,d=.tuple [.int t,.int u]/\1<=u/\Int.gcd t u=1:=by
 unfold bN at h;split at h
 .next t u=>simp at h;exact⟨t,u,rfl,h.1,h.2⟩
 .cases h
def CH:Sp:=λvs H Q _=>∃(t u:Int),vs=[.int t,.int u]/\0<u/\u<1073741824/\∀(p:Addr),H p=none->Q (.ref p) (aL H p (.tup [.int (t / (Int.gcd t u:Int)),.int (u / (Int.gcd t u:Int))]))
def yG {t u:Int}(h:0<u):0<(Int.gcd t u:Int)/\(Int.gcd t u:Int)<=u:=by
 have h1:0<Int.gcd t u:=Qr t (by omega);have h2:(Int.gcd t u:Int)∣u:=Qs ..;exact⟨by omega,Int.le_of_dvd h h2⟩
def Lj:Sp:=λvs H Q _=>∃(b:Addr),vs=[.ref b]/\rJ H b/\∀(v:V) (d:PyData) (H':Hp),rJ H' b->Kp b H H'->iN b H' v d->uM d=true->Q v H'
def pc {t:Int}(h1:1<=t)(h2:t<=1000000):uM (.tuple [.int t,.int 1])=true:=by
 show(decide ((1:Int)<=1)&&decide (Int.gcd t 1=1)&&decide (1<=t)&&decide (t<=1000000)&&decide ((1:Int)<=1000000))=true;rw[decide_eq_true h1,decide_eq_true h2,Int.gcd_one_right];rfl
def pe {t u:Int}(h1:1<=t)(h2:t<=1000000)(h3:1<=u)(h4:u<=1000000):uM (.tuple [.int (t / (Int.gcd t u:Int)),.int (u / (Int.gcd t u:Int))])=true:=by
 obtain⟨g0,g1⟩:=yG (t:=t) (u:=u) (by omega);have gt:(Int.gcd t u:Int)∣t:=Int.gcd_dvd_left ..;have gu:(Int.gcd t u:Int)∣u:=Qs ..;have e:Int.gcd (t / (Int.gcd t u:Int)) (u / (Int.gcd t u:Int))=1:=Int.gcd_ediv_gcd_ediv_gcd (by omega);have lo:∀n:Int,1<=n->n<=1000000->(Int.gcd t u:Int)∣n->1<=n / (Int.gcd t u:Int)/\n / (Int.gcd t u:Int)<=1000000:=λn n1 n2 hd=>by
  have a1:n / (Int.gcd t u:Int)*(Int.gcd t u:Int)=n:=Int.ediv_mul_cancel hd;have a2:n / (Int.gcd t u:Int)<=n:=Int.ediv_le_self _ (by omega);have a3:0<=n / (Int.gcd t u:Int):=Int.ediv_nonneg (by omega) (by omega);refine⟨?_,by omega⟩;rcases Int.lt_or_le 0 (n / (Int.gcd t u:Int)) with z |z
  .omega
  .have:n / (Int.gcd t u:Int)=0:=by omega
   rw[this,Int.zero_mul] at a1;omega
 obtain⟨t1,t2⟩:=lo t h1 h2 gt;obtain⟨u1,u2⟩:=lo u h3 h4 gu;show(decide _&&decide (Int.gcd _ _=1)&&decide _&&decide _&&decide _)=true;rw[decide_eq_true u1,decide_eq_true e,decide_eq_true t1,decide_eq_true t2,decide_eq_true u2];rfl
def FT {b p:Addr}{H:Hp}{x y:Int}:iN b (aL H p (.tup [.int x,.int y])) (.ref p) (.tuple [.int x,.int y]):=.tup dM (.cons (.int x) (.cons (.int y) .nil))
def vS {d:PyData}(h:uM d=true):∃t u:Int,d=.tuple [.int t,.int u]:=by
 unfold uM at h;split at h
 .exact⟨_,_,rfl⟩
 .cases h
def ID {a p w:Ξ1}(h1:1<=a.length)(h2:a.length<=6)(h3:a.all (within 1 60)=true)(h4:1<=p.length)(h5:p.length<=6)(h6:p.all uM=true)(h7:w.length=p.length)(h8:w.all (mO a.length 0 100)=true):gA (.tuple [.tuple a,.tuple p,.tuple w])=true:=by
 show(decide _&&decide _&&_&&(decide _&&decide _&&_)&&(decide _&&_))=true;rw[decide_eq_true h1,decide_eq_true h2,h3,decide_eq_true h4,decide_eq_true h5,h6,decide_eq_true h7,h8];rfl
def iH {a p w:Ξ1}(h:gA (.tuple [.tuple a,.tuple p,.tuple w])=true):1<=a.length/\a.length<=6/\a.all (within 1 60)=true/\1<=p.length/\p.length<=6/\p.all uM=true/\w.length=p.length/\w.all (mO a.length 0 100)=true:=by
 have h':(decide (1<=a.length)&&decide (a.length<=6)&&a.all (within 1 60)&&(decide (1<=p.length)&&decide (p.length<=6)&&p.all uM)&&(decide (w.length=p.length)&&w.all (mO a.length 0 100)))=true:=h;simp only[Z8,decide_eq_true_eq] at h';obtain⟨⟨⟨⟨h1,h2⟩,h3⟩,⟨h4,h5⟩,h6⟩,h7,h8⟩:=h';exact⟨h1,h2,h3,h4,h5,h6,h7,h8⟩
def rJ.ap {b:Addr}{H H':Hp}(h:rJ H b)(s:ay H H'):rJ H' b:=by obtain⟨c,d,e⟩:=h;exact⟨c,d,s _ _ e⟩
def DK {n:Nat}{lo hi:Int}{d:PyData}(h:mO n lo hi d=true):∃rs,d=.tuple rs/\rs.length=n/\rs.all (within lo hi)=true:=by
 unfold mO at h;split at h
 .next ds=>simp only[Z8,decide_eq_true_eq] at h;exact⟨ds,rfl,h.1,h.2⟩
 .cases h
theorem Dn {b:Addr}{H:Hp}:∀{xs:List V}{ds:Ξ1},cB b H xs ds->ds.all (within 0 100)=true->∃ns:Γ3,xs=ns.map V.int/\∀n∈ns,0<=n/\n<=100
 |_,_,.nil,_=>⟨[],rfl,λn h=>nomatch h⟩
 |_,_,.cons (x:=x) (d:=d) h t,e=>by
  rw[X0,Z8] at e;obtain⟨ns,rfl,h2⟩:=Dn t e.2;rcases rd h with hn |⟨i,rfl,rfl⟩
  .rw[zG hn] at e;cases e.1
  .have h1:(decide (0<=i)&&decide (i<=100))=true:=e.1;simp only[Z8,decide_eq_true_eq] at h1;refine⟨i::ns,rfl,λn hn=>?_⟩;rcases Zk.mp hn with rfl |hn
   .exact h1
   .exact h2 n hn
structure Nm (mg:Θ3):Prop where
 len:mg "len"=none
 range:mg "range"=none
 tuple:mg "tuple"=none
 list:mg "list"=none
 all:mg "all"=none
 any:mg "any"=none
 max:mg "max"=none
 min:mg "min"=none
 sum:mg "sum"=none
 abs:mg "abs"=none
 int:mg "int"=none
 isinstance:mg "isinstance"=none
 bool:mg "bool"=none
 enumerate:mg "enumerate"=none
 Oa:mg "ValueError"=none
def aU:PyData->Int
 |.int i=>i
 |_=>0
def sx:PyData->Γ3
 |.tuple rs=>rs.map aU
 |_=>[]
def rowsOf (wi:Ξ1):Γ1:=wi.map sx
theorem xX {b:Addr}{H:Hp}{n:Nat}:∀{xw:List V}{wi:Ξ1},cB b H xw wi->wi.all (mO n 0 100)=true->pV H xw (rowsOf wi)/\∀r∈rowsOf wi,r.length=n/\∀k∈r,0<=k/\k<=100
 |_,_,.nil,_=>⟨.nil,λr h=>nomatch h⟩
 |_,_,.cons (d:=d) h t,e=>by
  rw[X0,Z8] at e;obtain⟨h1,h2⟩:=xX t e.2;obtain⟨rs,rfl,hl,hr⟩:=DK e.1;cases h with
  |@tup a xs _ ha hs =>
  obtain⟨ns,rfl,hn⟩:=Dn hs hr;have er:rs=ns.map PyData.int:=by
   clear ha hn hr hl e
   induction ns generalizing rs with
   |nil=>cases hs;rfl
   |cons m ns ih =>
    cases hs with
    |cons hx ht=>cases hx;rw[ih _ ht];rfl
  subst er;have eo:sx (.tuple (ns.map PyData.int))=ns:=by
   show(ns.map PyData.int).map aU=ns;rw[Zm];have:(aU ∘ PyData.int)=λi=>i:=rfl
   rw[this,List.map_id']
  refine⟨?_,λr jy=>?_⟩
  .show pV H _ (sx (.tuple (ns.map PyData.int))::rowsOf _);rw[eo];exact .cons ⟨a,rfl,ha⟩ h1
  .have FC:r=sx (.tuple (ns.map PyData.int))\/r∈rowsOf _:=Zk.mp jy;rcases FC with z |z
   .rw[z,eo];rw[Zb] at hl;exact⟨hl,hn⟩
   .exact h2 r z
structure d5 (b:Addr)(H:Hp)(p pa pp pw:Addr)(xa xp xw:List V)(am pu wi:Ξ1):Prop where
 hp:H p=some (.tup [.ref pa,.ref pp,.ref pw])
 ha:H pa=some (.tup xa)
 Bf:H pp=some (.tup xp)
 hw:H pw=some (.tup xw)
 ta:cB b H xa am
 tp:cB b H xp pu
 tw:cB b H xw wi
 ok:gA (.tuple [.tuple am,.tuple pu,.tuple wi])=true
def d5.of {b p:Addr}{H:Hp}{am pu wi:Ξ1}(h:iN b H (.ref p) (.tuple [.tuple am,.tuple pu,.tuple wi]))(m:gA (.tuple [.tuple am,.tuple pu,.tuple wi])=true):∃pa pp pw xa xp xw,d5 b H p pa pp pw xa xp xw am pu wi:=by
 cases h with
 |@tup _ xs0 _ hp Ur =>
 match xs0,Ur with
 |_,.cons (.tup (a:=pa) (xs:=xa) ha hsa) (.cons (.tup (a:=pp) (xs:=xp) Bf Fb) (.cons (.tup (a:=pw) (xs:=xw) hpw Bq) .nil))=>exact⟨pa,pp,pw,xa,xp,xw,hp,ha,Bf,hpw,hsa,Fb,Bq,m⟩
def d5.ap {b p pa pp pw:Addr}{H H':Hp}{xa xp xw:List V}{am pu wi:Ξ1}(m:d5 b H p pa pp pw xa xp xw am pu wi)(s:ay H H'):d5 b H' p pa pp pw xa xp xw am pu wi :=
 ⟨s _ _ m.hp,s _ _ m.ha,s _ _ m.Bf,s _ _ m.hw,m.ta.ap s,m.tp.ap s,m.tw.ap s,m.ok⟩
def d5.tr {b p pa pp pw:Addr}{H:Hp}{xa xp xw:List V}{am pu wi:Ξ1}(m:d5 b H p pa pp pw xa xp xw am pu wi):iN b H (.ref p) (.tuple [.tuple am,.tuple pu,.tuple wi]) :=
 .tup m.hp (.cons (.tup m.ha m.ta) (.cons (.tup m.Bf m.tp) (.cons (.tup m.hw m.tw) .nil)))
def d5.lw {b p pa pp pw:Addr}{H:Hp}{xa xp xw:List V}{am pu wi:Ξ1}(m:d5 b H p pa pp pw xa xp xw am pu wi):pV H xw (rowsOf wi)/\rowsOf wi≠[]/\(∀r∈rowsOf wi,r.length=xa.length)/\(∀r∈rowsOf wi,∀k∈r,0<=k/\k<=100)/\1<=xa.length/\xa.length<=6/\1<=xw.length/\xw.length<=6/\xp.length=xw.length:=by
 obtain⟨h1,h2,h3,h4,h5,h6,h7,h8⟩:=iH m.ok;obtain⟨r1,r2⟩:=xX m.tw h8;have la:=m.ta.len;have lp:=m.tp.len;have lw:=m.tw.len;refine⟨r1,?_,λr hr=>by rw[(r2 r hr).1,la],λr hr=>(r2 r hr).2,by omega,by omega,by omega,by omega,by omega⟩;intro z;have:=congrArg List.length z;unfold rowsOf at this;rw[Zb] at this;simp at this;rw[this] at h7;simp at h7;omega
def AE {M:Γ1}{g j:Nat}(hj:j<g):Fx (V.int (0+(j:Int))) (E5 g M)=has M j:=by
 unfold Fx E5;rw[X1,Yc,Zw];constructor
 .rintro⟨k,hk,e⟩;rw[Zo] at hk;have e':(0+(k:Int))=0+(j:Int):=by simpa[Fm] using e
  have:k=j:=by omega
  subst this;exact hk.2
 .intro h;refine⟨j,by rw[Zo];exact⟨by simpa using hj,h⟩,by simp[Fm]⟩
def uk (g:Nat)(M:Γ1):(E5 g M).all iu=true:=by
 unfold E5;rw[Xf];simp[Function.comp_def,iu]
def A6 (wd:Bool):PyData->Bool
 |.tuple [.int t,.int u]=>bN (.tuple [.int t,.int u])&&(if wd then decide (0<t) else decide (t=0)&&decide (u=1))
 |_=>false
def eC (g:Nat)(M:Γ1):PyData->Bool
 |.tuple ds=>decide (ds.length=g)&&(List.range g).all λj=>A6 (has M j) (ds.getD j .none)
 |_=>false
def nU {wd:Bool}{d:PyData}(h:bN d=false):A6 wd d=false:=by
 unfold A6;split
 .rw[h];rfl
 .rfl
def Ex {g:Nat}{M:Γ1}{d:PyData}(h:Um d=false):eC g M d=false:=by cases d<;>first |rfl |cases h
def Eu {a b X Y:Int}(hb:0<b)(hY:0<Y)(g1:Int.gcd a b=1)(g2:Int.gcd X Y=1)(h:X*b=a*Y):X=a/\Y=b:=by
 have d1:Y∣b:=by
  have q:Y∣X*b:=⟨a,by rw[h,Int.mul_comm]⟩;rw[<- Int.dvd_gcd_mul_iff_dvd_mul,Int.gcd_comm,g2] at q;simpa using q
 have d2:b∣Y:=by
  have q:b∣a*Y:=⟨X,by rw[<- h,Int.mul_comm]⟩;rw[<- Int.dvd_gcd_mul_iff_dvd_mul,Int.gcd_comm,g1] at q;simpa using q
 have e:Y=b:=Int.dvd_antisymm (by omega) (by omega) d1 d2;subst e;exact⟨Int.eq_of_mul_eq_mul_right (by omega) h,rfl⟩
def den_pos (q:Rat):(0:Int)<(q.den:Int):=by have:=q.den_nz;omega
def x8 (q:Rat):Int.gcd q.num (q.den:Int)=1:=q.reduced
def m5 {T U:Int}(hU:U≠0):nx T U=(Rat.divInt T U).num/\ny T U=((Rat.divInt T U).den:Int):=by
 obtain⟨n1,n2,n3,_⟩:=lX (t:=T) hU;have hd:=den_pos (Rat.divInt T U);have h1:T*((Rat.divInt T U).den:Int)=(Rat.divInt T U).num*U:=by
  rw[<- Rat.divInt_eq_divInt_iff hU (by omega),Xw]
 refine Eu hd n2 (x8 _) n3 ?_;have e:nx T U*((Rat.divInt T U).den:Int)*U=(Rat.divInt T U).num*ny T U*U:=by
  calc nx T U*((Rat.divInt T U).den:Int)*U=nx T U*U*((Rat.divInt T U).den:Int):=by rw[Int.mul_right_comm]
   _=T*ny T U*((Rat.divInt T U).den:Int):=by rw[n1]
   _=T*((Rat.divInt T U).den:Int)*ny T U:=by rw[Int.mul_right_comm]
   _=(Rat.divInt T U).num*U*ny T U:=by rw[h1]
   _=(Rat.divInt T U).num*ny T U*U:=by rw[Int.mul_right_comm]
 exact Int.eq_of_mul_eq_mul_right hU e
abbrev qO (q:Rat):HO:=.tup [.int q.num,.int (q.den:Int)]
def Rb (k:Nat)(q:Rat):Prop:=Bd k q.num/\Bd k (q.den:Int)
def Rb.mono {j k:Nat}{q:Rat}(h:Rb j q)(hk:j<=k):Rb k q:=⟨h.1.mono hk,h.2.mono hk⟩
def lR {q:Rat}:0<q↔0<q.num:=by
 rw[Rat.lt_iff];simp
def CO {t u:Int}(hu:0<u)(hg:Int.gcd t u=1):∃q:Rat,q.num=t/\(q.den:Int)=u:=by
 refine⟨⟨t,u.toNat,by omega,?_⟩,rfl,by show((u.toNat:Nat):Int)=u;omega⟩;show Nat.gcd t.natAbs u.toNat=1;have:u.toNat=u.natAbs:=by omega
 rw[this];exact hg
def rj (a b:Rat):Rat.divInt (a.num*b.den+b.num*a.den) (a.den*b.den)=a+b:=by
 rw[<- Rat.divInt_add_divInt _ _ (by have:=den_pos a;omega) (by have:=den_pos b;omega),Xw,Xw]
def qS (a b:Rat):Rat.divInt (a.num*b.num) (a.den*b.den)=a*b:=by
 rw[<- Rat.divInt_mul_divInt,Xw,Xw]
def l6 {a b:Rat}(hb:b.num≠0):Rat.divInt (a.num*b.den) (a.den*b.num)=a / b:=by
 rw[Rat.div_def,Rat.inv_def];conv=>rhs;rw[<- Xw a]
 rw[Rat.divInt_mul_divInt]
def NJ (a b:Rat):(a.num*b.den<b.num*a.den)=(a<b):=propext (Rat.lt_iff a b).symm
def iA {k:Nat}{T U:Int}(hU:U≠0)(h1:Bd k T)(h2:Bd k U):Rb k (Rat.divInt T U):=by
 obtain⟨e1,e2⟩:=m5 (T:=T) hU;obtain⟨_,_,_,_,n5,n6⟩:=lX (t:=T) hU;refine⟨?_,?_⟩
 .rw[<- e1];exact h1.le n5
 .rw[<- e2];exact h2.le n6
def Bd.add {j:Nat}{a b:Int}(ha:Bd j a)(hb:Bd j b):Bd (j+1) (a+b):=by
 unfold Bd at *;rw[Nat.pow_succ];omega
def CN {j k:Nat}{a b:Rat}(ha:Rb j a)(hb:Rb k b):Rb (j+k+1) (a+b):=by
 rw[<- rj];have h2:(a.den:Int)*b.den≠0:=Int.ne_of_gt (Y7 (den_pos a) (den_pos b));refine iA h2 (Bd.add (ha.1.mul hb.2) ?_) ((ha.2.mul hb.2).mono (by omega));have:=hb.1.mul ha.2;exact Bd.mono this (by omega)
def kN {j k:Nat}{a b:Rat}(ha:Rb j a)(hb:Rb k b):Rb (j+k) (a*b):=by
 rw[<- qS];have h2:(a.den:Int)*b.den≠0:=Int.ne_of_gt (Y7 (den_pos a) (den_pos b));exact iA h2 (ha.1.mul hb.1) (ha.2.mul hb.2)
def r9 (Nn:Addr):Sp:=λvs H Q E=>∃(t u:Int),vs=[.int t,.int u]/\Bd 8000 u/\(u=0->E (.ref Nn) none H)/\(u≠0->∀p,H p=none->Q (.ref p) (aL H p (qO (Rat.divInt t u))))
def BE:Sp:=λvs H Q _=>∃(t u:Int),vs=[.int t,.int u]/\0<u/\Bd 8000 u/\∀p,H p=none->Q (.ref p) (aL H p (qO (Rat.divInt t u)))
def A1 (op:Rat->Rat->Rat):Sp:=λvs H Q _=>∃(p q:Addr) (a b:Rat),vs=[.ref p,.ref q]/\H p=some (qO a)/\H q=some (qO b)/\Rb 3000 a/\Rb 3000 b/\∀r,H r=none->Q (.ref r) (aL H r (qO (op a b)))
def mU (Nn:Addr):Sp:=λvs H Q E=>∃(p q:Addr) (a b:Rat),vs=[.ref p,.ref q]/\H p=some (qO a)/\H q=some (qO b)/\Rb 3000 a/\Rb 3000 b/\(b=0->E (.ref Nn) none H)/\(b≠0->∀r,H r=none->Q (.ref r) (aL H r (qO (a / b))))
def mV:Sp:=λvs H Q _=>∃(p q:Addr) (a b:Rat),vs=[.ref p,.ref q]/\H p=some (qO a)/\H q=some (qO b)/\Rb 3000 a/\Rb 3000 b/\Q (.bl (decide (a<b))) H
def Ph:Rat->Rat->Rat:=λa b=>a+b
def on:Rat->Rat->Rat:=λa b=>a*b
def b3 {n:Int}(h:Bd 3000 n):Bd 8000 n:=h.mono (by decide)
def b6 {n:Int}(h:Bd (3000+3000) n):Bd 8000 n:=h.mono (by decide)
def Jx {k:Nat}{t u:Int}(h:Bd k u)(hu:u≠0):Bd k (sg t u):=by
 refine h.le ?_;have g0:0<Int.gcd t u:=Qr t hu;have e:(sg t u).natAbs=Int.gcd t u:=by unfold sg;split<;>omega
 rw[e];exact Nat.le_of_dvd (by omega) (Int.gcd_dvd_natAbs_right t u)
def tZ {a:Int}:(if a<0 then -a else a)=(Int.gcd a 0:Int):=by
 rw[Int.gcd_zero_right];split<;>omega
def qf:Sp:=λvs H Q _=>∃(t u:Int),vs=[.int t,.int u]/\Q (.int (Int.gcd t u)) H
def lT {g:Nat}{M:Γ1}{ds:Ξ1}:eC g M (.tuple ds)=true↔ds.length=g/\∀j,j<g->A6 (has M j) (ds.getD j .none)=true:=by
 show(decide (ds.length=g)&&(List.range g).all λj=>A6 (has M j) (ds.getD j .none))=true↔_;rw[Z8,decide_eq_true_eq,Ya];constructor
 .rintro⟨h1,h2⟩;exact⟨h1,λj hj=>h2 j (by simpa using hj)⟩
 .rintro⟨h1,h2⟩;exact⟨h1,λj hj=>h2 j (by simpa using hj)⟩
def qD (q:Rat):PyData:=.tuple [.int q.num,.int (q.den:Int)]
def Ey (q:Rat):bN (qD q)=true:=by
 have h:=den_pos q;show(decide (1<=(q.den:Int))&&decide (Int.gcd q.num (q.den:Int)=1))=true;rw[decide_eq_true (show 1<=(q.den:Int) by omega),decide_eq_true (x8 q)];rfl
def N3 {d:PyData}(h:bN d=true):∃q:Rat,d=qD q:=by
 obtain⟨t,u,rfl,hu,hg⟩:=pE h;obtain⟨q,e1,e2⟩:=CO (t:=t) (u:=u) (by omega) (by omega);exact⟨q,by unfold qD;rw[e1,e2]⟩
def k7 {wd:Bool}{q:Rat}:A6 wd (qD q)=true↔(if wd=true then 0<q else q=0):=by
 show(bN (qD q)&&(if wd then decide (0<q.num) else decide (q.num=0)&&decide ((q.den:Int)=1)))=true↔_;rw[Ey];cases wd with
 |true=>simp[lR]
 |false =>
  simp;rintro rfl;rfl
structure Fp (M:Γ1)(qs:Δ1):Prop where
 pos:∀j,j<qs.length->has M j=true->0<qs.getD j 0
 nil:∀j,j<qs.length->has M j=false->qs.getD j 0=0
def jw {α β : Type}{f:α->β}{xs:List α}{j:Nat}{a:α}{b:β}(h:j<xs.length):(xs.map f).getD j b=f (xs.getD j a):=by
 simp[List.getD,Zl,Zc h]
def B9 {g:Nat}{M:Γ1}{qs:Δ1}:eC g M (.tuple (qs.map qD))=true↔qs.length=g/\Fp M qs:=by
 rw[lT,Zb];constructor
 .rintro⟨h1,h2⟩;refine⟨h1,⟨λj hj hh=>?_,λj hj hh=>?_⟩⟩
  .have:=h2 j (by omega);rw[jw (a:=0) hj,k7,hh] at this;exact this
  .have:=h2 j (by omega);rw[jw (a:=0) hj,k7,hh] at this;exact this
 .rintro⟨h1,h2⟩;refine⟨h1,λj hj=>?_⟩;rw[jw (a:=0) (by omega),k7];cases hh:has M j with
  |true=>exact h2.pos j (by omega) hh
  |false=>exact h2.nil j (by omega) hh
def DZ {g:Nat}{M:Γ1}{d:PyData}(h:eC g M d=true):∃qs:Δ1,d=.tuple (qs.map qD)/\qs.length=g/\Fp M qs:=by
 cases d with
 |tuple ds =>
  obtain⟨h1,h2⟩:=lT.mp h;have:∃qs:Δ1,ds=qs.map qD:=by
   have oA:∀d∈ds,∃q:Rat,d=qD q:=λd hd=>by
    obtain⟨j,hj,e⟩:=Ye hd;have:=h2 j (by omega);have e2:ds.getD j .none=d:=by simp[List.getD,Zc hj,e]
    rw[e2] at this;cases hf:bN d with
    |true=>exact N3 hf
    |false=>rw[nU hf] at this;cases this
   clear h h1 h2
   induction ds with
   |nil=>exact⟨[],rfl⟩
   |cons d ds ih =>
    obtain⟨q,rfl⟩:=oA d (Zg);obtain⟨qs,rfl⟩:=ih λd hd=>oA d (Zh _ hd)
    exact⟨q::qs,rfl⟩
  obtain⟨qs,rfl⟩:=this;exact⟨qs,rfl,B9.mp h⟩
 |_=>cases h
def jT (row:Γ3)(qs:Δ1)(g o:Nat):Bool:=decide (0<row.getD o 0)&&decide ((row.getD g 0:Rat)*qs.getD o 0<(row.getD o 0:Rat)*qs.getD g 0)
def mT (row:Γ3)(qs:Δ1)(g:Nat):Bool:=decide (row.getD g 0≠0)&&(List.range row.length).all λo=>!jT row qs g o
def cx (row:Γ3)(qs:Δ1):List Nat:=(List.range row.length).filter (mT row qs)
def aw (M:Γ1)(qs:Δ1):Γ1:=M.map λrow=>(cx row qs).map λg:Nat=>(g:Int)
def cD (gs:List Nat)(best:Γ3):Bool:=best.any λg=>gs.any λh=>decide ((h:Int)=g)
def hV (M:Γ1)(qs:Δ1)(gs:List Nat):List Nat:=(List.range M.length).filter λi=>cD gs ((aw M qs).getD i [])
def cO (gs:List Nat):List V:=gs.map λg:Nat=>V.int (g:Int)
structure BW (b:Addr)(H:Hp)(p pa pp pw:Addr)(xa xp xw:List V)(am pu wi:Ξ1)(v:V)(d:PyData):Prop where
 m:d5 b H p pa pp pw xa xp xw am pu wi
 tr:iN b H v d
 wd:∀qs:Δ1,d=.tuple (qs.map qD)->∀z∈qs,Rb 300 z
def BW.ap {b:Addr}{H H':Hp}{p pa pp pw:Addr}{xa xp xw:List V}{am pu wi:Ξ1}{v:V}{d:PyData}(a:BW b H p pa pp pw xa xp xw am pu wi v d)(s:ay H H'):BW b H' p pa pp pw xa xp xw am pu wi v d:=⟨a.m.ap s,a.tr.ap s,a.wd⟩
def Ju:Sp:=λvs H Q _=>∃(b p pa pp pw:Addr) (xa xp xw:List V) (am pu wi:Ξ1) (v:V) (d:PyData),vs=[.ref p,v]/\d5 b H p pa pp pw xa xp xw am pu wi/\iN b H v d/\∀H',ay H H'->Q (.bl (eC xa.length (rowsOf wi) d)) H'
def mW (Pr:Addr):Sp:=λvs H Q E=>∃(b p pa pp pw:Addr) (xa xp xw:List V) (am pu wi:Ξ1) (v:V) (d:PyData),vs=[.ref p,v]/\BW b H p pa pp pw xa xp xw am pu wi v d /\
 (eC xa.length (rowsOf wi) d=false->∀H',ay H H'->E (.ref Pr) none H') /\
 (∀qs:Δ1,d=.tuple (qs.map qD)->qs.length=xa.length->Fp (rowsOf wi) qs->∀(r:Addr) (xs:List V) (H':Hp),ay H H'->H' r=some (.tup xs)->pV H' xs (aw (rowsOf wi) qs)->Q (.ref r) H')
def yZ {k:Nat}{n:Int}(h:Bd k n)(hk:1<=k):Rb k (n:Rat):=⟨h,by
 show Bd k ((1:Nat):Int);unfold Bd;exact Nat.one_lt_two_pow (by omega)⟩
def kC (H:Hp)(ys:List V)(qs:Δ1):Prop:=ys.length=qs.length/\∀(j:Nat) y,ys[j]?=some y->∃a,y=.ref a/\H a=some (qO (qs.getD j 0))
def kC.ap {H H':Hp}{ys:List V}{qs:Δ1}(h:kC H ys qs)(s:ay H H'):kC H' ys qs:=⟨h.1,λj y hy=>by obtain⟨a,e,z⟩:=h.2 j y hy;exact⟨a,e,s _ _ z⟩⟩
def II {b:Addr}{H:Hp}{a:Addr}{xs:List V}{x y:Int}(ha:H a=some (.tup xs))(hs:cB b H xs [.int x,.int y]):H a=some (.tup [.int x,.int y]):=by
 cases hs with |cons h1 t1=>?_
 cases h1
 cases t1 with |cons h2 t2=>?_
 cases h2
 cases t2
 exact ha
theorem kC.of {b:Addr}{H:Hp}:∀{ys:List V}{qs:Δ1},cB b H ys (qs.map qD)->kC H ys qs
 |[],[],_=>⟨rfl,λj y h=>by simp at h⟩
 |y::ys,q::qs,.cons h t=>by
  have ih:=kC.of t;refine⟨by simp[ih.1],λj z hz=>?_⟩;cases j with
  |zero =>
   have e:y=z:=by simpa using hz
   subst e;unfold qD at h;cases h with
   |@tup a xs _ ha hs =>
   exact⟨a,rfl,II ha hs⟩
  |succ j=>exact ih.2 j z (by simpa using hz)
def kC.at {H:Hp}{ys:List V}{qs:Δ1}(h:kC H ys qs){g:Nat}(hg:g<qs.length):∃a,gv ys (g:Int)=some (.ref a)/\H a=some (qO (qs.getD g 0)):=by
 have hl:g<ys.length:=by rw[h.1];exact hg
 have e:=Zc hl;obtain⟨a,e2,z⟩:=h.2 g _ e;rw[e2] at e;exact⟨a,md e,z⟩
def kC.app {H:Hp}{ys:List V}{qs:Δ1}(h:kC H ys qs){a:Addr}{q:Rat}(ha:H a=some (qO q)):kC H (ys++[.ref a]) (qs++[q]):=by
 refine⟨by simp[h.1],λj y hy=>?_⟩;rcases Z5 j ys.length with z |z
 .rw[Zp z] at hy;obtain⟨c,e,hc⟩:=h.2 j y hy;refine⟨c,e,?_⟩;have:(qs++[q]).getD j 0=qs.getD j 0:=by simp[List.getD,Zp (h.1▸z)]
  rw[this];exact hc
 .have:j=ys.length:=by
   have:=(Zf.mp hy).1;simp at this;omega
  subst this;simp at hy;subst hy;refine⟨a,rfl,?_⟩;have:(qs++[q]).getD ys.length 0=q:=by rw[h.1];simp[List.getD]
  rw[this];exact ha
def kC.tm {H H':Hp}{ys:List V}{qs:Δ1}(h:kC H ys qs)(s:Tm H H'):kC H' ys qs:=⟨h.1,λj y hy=>by obtain⟨a,e,z⟩:=h.2 j y hy;exact⟨a,e,s _ _ z⟩⟩
def aH (qs:Δ1):Rat:=qs.foldl (λs q=>s+q) 0
def wR {α : Type}{xs:List α}{i:Nat}{x:α}(h:xs[i]?=some x):xs.take (i+1)=xs.take i++[x]:=by rw[List.take_succ,h];rfl
def kX (qs:Δ1)(q:Rat):aH (qs++[q])=aH qs+q:=by unfold aH;rw[List.foldl_append];rfl
def lQ:Rb 1 (0:Rat):=by unfold Rb Bd;decide+kernel
theorem qK {qs:Δ1}{k:Nat}(h:∀q∈qs,Rb k q):∀i,Rb (1+(k+1)*i) (aH (qs.take i))
 |0=>lQ
 |i+1=>by
  have ih:=qK h i;cases e:qs[i]? with
  |none =>
   have:qs.take (i+1)=qs.take i:=by rw[List.take_succ,e];simp
   rw[this];exact ih.mono (by rw[Nat.mul_succ];omega)
  |some q =>
   rw[wR e,kX];refine(CN ih (h q (Zz e))).mono ?_;rw[Nat.mul_succ];omega
def B0:Sp:=λvs H Q _=>∃(l:Addr) (ys:List V) (qs:Δ1),vs=[.ref l]/\H l=some (.lst ys)/\kC H ys qs/\(∀q∈qs,Rb 300 q)/\qs.length<=8/\∀(r:Addr) (H':Hp),ay H H'->H' r=some (qO (aH qs))->Q (.ref r) H'
theorem Kk {b:Addr}{H:Hp}:∀{xa:List V}{am:Ξ1},cB b H xa am->am.all (within 1 60)=true->xa=(am.map aU).map V.int/\∀n∈am.map aU,1<=n/\n<=60
 |_,_,.nil,_=>⟨rfl,λn hn=>nomatch hn⟩
 |_,_,.cons (d:=d) h t,h3=>by
  rw[X0,Z8] at h3;obtain⟨e,hb⟩:=Kk t h3.2;obtain⟨n,rfl,n1,n2⟩:∃n:Int,d=.int n/\1<=n/\n<=60:=by
   have:=h3.1;unfold within at this;split at this
   .simp at this;exact⟨_,rfl,this⟩
   .cases this
  cases h
  refine⟨by rw[e];simp[aU],λk hk=>?_⟩;rcases Zk.mp hk with rfl |hk
  .exact⟨n1,n2⟩
  .exact hb k hk
theorem d5.am {b p pa pp pw:Addr}{H:Hp}{xa xp xw:List V}{am pu wi:Ξ1}(m:d5 b H p pa pp pw xa xp xw am pu wi):xa=(am.map aU).map V.int/\∀n∈am.map aU,1<=n/\n<=60:=by
 obtain⟨_,_,h3,_⟩:=iH m.ok;exact Kk m.ta h3
structure zA (b:Addr)(H:Hp)(q:Addr)(ys:List V)(qs:Δ1):Prop where
 hq:H q=some (.tup ys)
 tr:cB b H ys (qs.map qD)
 bd:∀z∈qs,Rb 293 z
def zA.ap {b:Addr}{H H':Hp}{q:Addr}{ys:List V}{qs:Δ1}(h:zA b H q ys qs)(s:ay H H'):zA b H' q ys qs:=⟨s _ _ h.hq,h.tr.ap s,h.bd⟩
end KM
namespace L2
open PySem PySem.Spec PyProof.Rows
end L2
namespace KM
open PySem L2 KG EX
theorem yE {b:Addr}{H:Hp}:∀(ns:Γ3),cB b H (ns.map V.int) (ns.map PyData.int)
 |[]=>.nil
 |n::ns=>.cons (.int n) (yE ns)
def aT (ns:Γ3):PyData:=.tuple (ns.map PyData.int)
theorem CM {b:Addr}{H:Hp}:∀{xs:List V}{M:Γ1},pV H xs M->cB b H xs (M.map aT)
 |_,_,.nil=>.nil
 |_,_,.cons ⟨a,e,h⟩ t=>by
  subst e;exact .cons (.tup h (yE _)) (CM t)
def Kf (q:Rat):(qD q).depth<=1:=by unfold qD;simp[PyData.depth,PyData.depthAll]
def vY (gs:List Nat):cO gs=(gs.map λg:Nat=>(g:Int)).map V.int:=by unfold cO;rw[Zm];rfl
def lS {d:PyData}(h:uM d=true):∃q:Rat,d=qD q/\0<q/\Rb 20 q:=by
 obtain⟨t,u,rfl⟩:=vS h;have h':(decide (1<=u)&&decide (Int.gcd t u=1)&&decide (1<=t)&&decide (t<=1000000)&&decide (u<=1000000))=true:=h;simp only[Z8,decide_eq_true_eq] at h';obtain⟨⟨⟨⟨h1,h2⟩,h3⟩,h4⟩,h5⟩:=h';obtain⟨q,e1,e2⟩:=CO (t:=t) (u:=u) (by omega) h2;refine⟨q,by unfold qD;rw[e1,e2],lR.mpr (by omega),?_,?_⟩
 .unfold Bd;omega
 .unfold Bd;omega
theorem tq:∀{pu:Ξ1},pu.all uM=true->∃ps:Δ1,pu=ps.map qD/\∀q∈ps,0<q/\Rb 20 q
 |[],_=>⟨[],rfl,λq h=>nomatch h⟩
 |d::pu,h=>by
  rw[X0,Z8] at h;obtain⟨q,rfl,h1,h2⟩:=lS h.1;obtain⟨ps,rfl,hp⟩:=tq h.2;refine⟨q::ps,rfl,λz hz=>?_⟩;rcases Zk.mp hz with rfl |hz
  .exact⟨h1,h2⟩
  .exact hp z hz
def Oj:PyData->Rat
 |.tuple [.int t,.int u]=>Rat.divInt t u
 |_=>0
def iB (q:Rat):Oj (qD q)=q:=Xw q
def pP (pu:Ξ1):Δ1:=pu.map Oj
theorem d5.pu {b p pa pp pw:Addr}{H:Hp}{xa xp xw:List V}{am pu wi:Ξ1}(m:d5 b H p pa pp pw xa xp xw am pu wi):pu=(pP pu).map qD/\∀q∈pP pu,0<q/\Rb 20 q:=by
 obtain⟨_,_,_,_,_,h6,_⟩:=iH m.ok;obtain⟨ps,e,hp⟩:=tq h6;have:pP pu=ps:=by
  rw[e];unfold pP;rw[Zm];have:(Oj ∘ qD)=id:=by funext q;exact iB q
  rw[this,Y1]
 rw[this];exact⟨e,hp⟩
def d5.fp {b p pa pp pw:Addr}{H:Hp}{xa xp xw:List V}{am pu wi:Ξ1}(m:d5 b H p pa pp pw xa xp xw am pu wi):kC H xp (pP pu):=by
 have h:=m.tp;rw[m.pu.1] at h;exact kC.of h
def xZ {k:Nat}{qs:Δ1}(hk:1<=k)(h:∀q∈qs,Rb k q)(g:Nat):Rb k (qs.getD g 0):=by
 by_cases hg:g<qs.length
 .have:qs.getD g 0∈qs:=by simp[List.getD,Zc hg]
  exact h _ this
 .have:qs.getD g 0=0:=by simp[List.getD,Ym (Y4 hg)]
  rw[this];exact lQ.mono hk
def fQ (ps:Δ1)(bs:List Nat):Rat:=aH (bs.map λi=>ps.getD i 0)
def B2:Sp:=λvs H Q _=>∃(p q:Addr) (a b:Rat),vs=[.ref p,.ref q]/\H p=some (qO a)/\H q=some (qO b)/\Rb 3000 a/\Rb 3000 b/\0<b/\∀r,H r=none->Q (.ref r) (aL H r (qO (a / b)))
def fo {j k:Nat}{a b:Rat}(ha:Rb j a)(hb:Rb k b)(h:b≠0):Rb (j+k) (a / b):=by
 have hn:b.num≠0:=λz=>h (Rat.num_eq_zero.mp z)
 rw[<- l6 hn];refine iA ?_ (ha.1.mul hb.2) (ha.2.mul hb.1);intro z;rcases Int.mul_eq_zero.mp z with y |y
 .have:=den_pos a;omega
 .exact hn y
def eh (ns:Γ3)(mw:Nat):Γ3:=((List.range ns.length).filter λk=>decide (mw / 2 ^ k % 2=1)).map λk=>ns.getD k 0
def aO (ns:Γ3):Γ1:=(List.range (2 ^ ns.length)).map (eh ns)
def cG (c:Int)(ms:Γ3)(qs:Δ1):Prop:=ms.length=qs.length/\∀j,j<qs.length->((ms.getD j 0:Int):Rat)=(c:Rat)*qs.getD j 0
def gn (am:Γ3)(qs:Δ1):Δ1:=(List.range qs.length).map λg=>qs.getD g 0*((am.getD g 0:Int):Rat)
end KM
namespace L2
open PySem PySem.Spec PyProof.Rows
section
variable {κ : Type}[DecidableEq κ]
def d4 (kvs:List (κ × V))(k:κ):Option V:=(kvs.find? λkv=>decide (kv.1=k)).map (·.2)
def dw (kvs:List (κ × V))(k:κ)(v:V):List (κ × V) :=
 if (kvs.any λkv=>decide (kv.1=k))=true then kvs.map (λkv=>if kv.1=k then (kv.1,v) else kv) else kvs++[(k,v)]
def fZ {p:κ × V}{r:List (κ × V)}{k:κ}(e:p.1=k):d4 (p::r) k=some p.2:=by simp[d4,X2,e]
def ga {p:κ × V}{r:List (κ × V)}{k:κ}(e:¬ p.1=k):d4 (p::r) k=d4 r k:=by simp[d4,X2,e]
theorem iE (k:κ):∀kvs:List (κ × V),(kvs.any λkv=>decide (kv.1=k))=(d4 kvs k).isSome
 |[]=>rfl
 |p::r=>by
  rw[Xu];by_cases e:p.1=k
  .simp only[fZ e,decide_eq_true e,Bool.true_or,Option.isSome_some]
  .rw[ga e,decide_eq_false e,Bool.false_or];exact iE k r
def fv (kvs:List (κ × V))(k:κ)(v:V):(dw kvs k v).length<=kvs.length+1:=by
 unfold dw;split
 .rw[Zb];omega
 .rw[Zu,Xo,List.length_nil];omega
def nw {kvs:List (κ × V)}{k:κ}(v:V)(h:d4 kvs k=none):dw kvs k v=kvs++[(k,v)]:=by
 unfold dw;rw[iE,h];exact if_neg (by decide)
def az.k6 {o:Option V}{u:Φ1}(r:az o u):o.isSome=u.isSome:=by
 cases o with
 |none=>cases u with
  |none=>rfl
  |some _=>exact(show False from r).elim
 |some _=>cases u with
  |none=>exact(show False from r).elim
  |some _=>rfl
def KV.val {kvs:List (κ × V)}{vs:List (κ × Value)}(r:KV kvs vs)(k:κ):az (d4 kvs k) (valueAt vs k):=by
 unfold KV at r;induction r with
 |nil=>exact True.intro
 |@cons p q ps qs h t ih =>
  obtain⟨h1,h2⟩:=h;by_cases e:p.1=k
  .have e':q.1=k:=h1.symm.trans e;have b:valueAt (q::qs) k=some q.2:=by simp[valueAt,X2,e']
   rw[fZ e,b];exact h2
  .have e':¬ q.1=k:=λz=>e (h1.trans z)
   have b:valueAt (q::qs) k=valueAt qs k:=by simp[valueAt,X2,e']
   rw[ga e,b];exact ih
def KV.any {kvs:List (κ × V)}{vs:List (κ × Value)}(r:KV kvs vs)(k:κ):(kvs.any λkv=>decide (kv.1=k))=vs.any λkv=>decide (kv.1=k):=by
 unfold KV at r;induction r with
 |nil=>rfl
 |cons h t ih=>rw[Xu,Xu,ih,h.1]
def KV.Lv {kvs:List (κ × V)}{vs:List (κ × Value)}(r:KV kvs vs)(k:κ){y:V}{u:Value}(ry:RelV y u) :
  KV (kvs.map λkv=>if kv.1=k then (kv.1,y) else kv) (vs.map λkv=>if kv.1=k then (kv.1,u) else kv):=by
 unfold KV at r ⊢;induction r with
 |nil=>exact .nil
 |@cons p q ps qs h t ih =>
  rw[Zi,Zi];refine .cons ?_ ih;obtain⟨h1,h2⟩:=h;by_cases e:p.1=k
  .rw[if_pos e,if_pos (h1.symm.trans e)];exact⟨h1,ry⟩
  .rw[if_neg e,if_neg (λz=>e (h1.trans z))];exact⟨h1,h2⟩
def KV.put {kvs:List (κ × V)}{vs:List (κ × Value)}(r:KV kvs vs)(k:κ){y:V}{u:Value}(ry:RelV y u):KV (dw kvs k y) (stored vs k u):=by
 unfold dw stored;rw[r.any k];by_cases e:(vs.any λkv=>decide (kv.1=k))=true
 .rw[if_pos e,if_pos e];exact r.Lv k ry
 .rw[if_neg e,if_neg e];exact Paired.snoc r ⟨rfl,ry⟩
def KV.keys {kvs:List (κ × V)}{vs:List (κ × Value)}(r:KV kvs vs):kvs.map (·.1)=vs.map (·.1):=by
 unfold KV at r;induction r with
 |nil=>rfl
 |cons h t ih=>rw[Zi,Zi,ih,h.1]
def KV.length {kvs:List (κ × V)}{vs:List (κ × Value)}(r:KV kvs vs):kvs.length=vs.length:=Paired.length r
end
def sE {P:Program}{w:World}{k:bJ}{u:Value}(r:RelV (kV k) u):(lq P w).is k u=true:=by
 cases k with
 |inl i=>obtain⟨t,e⟩:=(show ∃t,u=Value.int i t from r);subst e;exact ui P w i t
 |inr x=>obtain⟨t,e⟩:=(show ∃t,u=Value.str x t from r);subst e;exact uh P w x t
theorem pD {P:Program}{w:World}:∀{ks:List bJ}{us:Δ3},aY (ks.map kV) us->ItemsAre (lq P w) ks us
 |[],_,r=>by rw[List.map_nil] at r;cases r;exact .nil
 |k::ks,_,r=>by
  rw[Zi] at r;cases r with
  |cons h t=>exact .cons (sE h) (pD t)
abbrev KT (H:Hp):List (List bJ×V)->List (List bJ×Addr×Value)->Prop:=Paired λp q=>p.1=q.1/\H q.2.1=some (.tup (p.1.map kV))/\RelV p.2 q.2.2
def KT.val {H:Hp}{kvs:List (List bJ×V)}{xs:List (List bJ×Addr×Value)}(r:KT H kvs xs)(k:List bJ):az (d4 kvs k) ((atKey xs k).map (·.2)):=by
 induction r with
 |nil=>exact True.intro
 |@cons p q ps qs h t ih =>
  obtain⟨h1,_,h2⟩:=h;by_cases e:p.1=k
  .have e':q.1=k:=h1.symm.trans e;have b:atKey (q::qs) k=some q.2:=by simp[atKey,X2,e']
   rw[fZ e,b];exact h2
  .have e':¬ q.1=k:=λz=>e (h1.trans z)
   have b:atKey (q::qs) k=atKey qs k:=by simp[atKey,X2,e']
   rw[ga e,b];exact ih
def KT.Lv {H:Hp}{kvs:List (List bJ×V)}{xs:List (List bJ×Addr×Value)}(r:KT H kvs xs)(k:List bJ){y:V}{u:Value}(ry:RelV y u) :
  KT H (kvs.map λkv=>if kv.1=k then (kv.1,y) else kv) (xs.map (putAt k u)):=by
 induction r with
 |nil=>exact .nil
 |@cons p q ps qs h t ih =>
  rw[Zi,Zi];refine .cons ?_ ih;obtain⟨h1,h2,h3⟩:=h;unfold putAt;by_cases e:p.1=k
  .rw[if_pos e,if_pos (h1.symm.trans e)];exact⟨h1,h2,ry⟩
  .rw[if_neg e,if_neg (λz=>e (h1.trans z))];exact⟨h1,h2,h3⟩
def KT.put {H:Hp}{kvs:List (List bJ×V)}{xs:List (List bJ×Addr×Value)}(r:KT H kvs xs)(k:List bJ){b:Addr}{y:V}{u:Value}(hb:H b=some (.tup (k.map kV)))(ry:RelV y u) :
  KT H (dw kvs k y) (storedH xs k b u):=by
 have e:(kvs.any λkv=>decide (kv.1=k))=(atKey xs k).isSome:=by
  rw[iE,(r.val k).k6,Option.isSome_map]
 unfold dw storedH;rw[e];by_cases q:(atKey xs k).isSome=true
 .rw[if_pos q,if_pos q];exact r.Lv k ry
 .rw[if_neg q,if_neg q];exact Paired.snoc r ⟨rfl,hb,ry⟩
def KT.keeps {H H':Hp}{kvs:List (List bJ×V)}{xs:List (List bJ×Addr×Value)}(r:KT H kvs xs)(ht:∀b ys,H b=some (.tup ys)->H' b=some (.tup ys)):KT H' kvs xs :=
 Paired.Gj r λ_ _ z=>⟨z.1,ht _ _ z.2.1,z.2.2⟩
section
variable {P:Program}{w:World}{H:Hp}{h:Heap}{a:Addr}
def JC {u:HO}(ok:jN P w H h)(e:Rd H a u):bS P w H h a u:=e.ok ok
def sO {kvs:List (bJ×V)}(ok:jN P w H h)(e:Rd H a (.dK kvs)):kvs.length<=sizeLine/\(a == sysModules)=false/\∃vs,KV kvs vs/\h.DictOf (lq P w) a vs :=
 show bS P w H h a (.dK kvs) from JC ok e
def xE {kvs:List (bJ×V)}(ok:jN P w H h)(e:H a=some (.dK kvs)):kvs.length<=sizeLine/\(a == sysModules)=false/\∃vs,KV kvs vs/\h.DictOf (lq P w) a vs:=sO ok (.inl e)
def ng {ks:List bJ}(ok:jN P w H h)(e:H a=some (.tup (ks.map kV))):(tupleKind (lq P w)).is h ks a:=by
 obtain⟨_,its,r,o,h1,h2,n,h3⟩:=(show bS P w H h a (.tup (ks.map kV)) from ok a _ e);exact⟨o,its.toArray,n,h1,h2,h3,by simpa using pD r⟩
def sN {kvs:List (List bJ×V)}(ok:jN P w H h)(e:Rd H a (.dT kvs)):kvs.length<=sizeLine/\(a == sysModules)=false /\
  ∃xs,KT H kvs xs/\h.DictOfH (tupleKind (lq P w)) a xs:=by
 obtain⟨z,y,xs,r,o,es,ep,h1,h2,h3,h4,h5⟩:=(show bS P w H h a (.dT kvs) from JC ok e);refine⟨z,y,xs,r,o,es,ep,h1,h2,h3,h4,λx hx=>?_,h5⟩;have all:∀{l:List (List bJ×V)}{m:List (List bJ×Addr×Value)},KT H l m->∀x∈m,(tupleKind (lq P w)).is h x.1 x.2.1:=by
  intro l m q;induction q with
  |nil=>intro x hx;exact nomatch hx
  |@cons p q ps qs hq t ih =>
   intro x hx;rcases Zk.mp hx with e |hx
   .subst e;exact ng ok (by rw[<- hq.1];exact hq.2.1)
   .exact ih x hx
 exact all r x hx
def Ke {kvs:List (List bJ×V)}(ok:jN P w H h)(e:H a=some (.dT kvs)):kvs.length<=sizeLine/\(a == sysModules)=false /\
  ∃xs,KT H kvs xs/\h.DictOfH (tupleKind (lq P w)) a xs:=sN ok (.inl e)
end
def sv (H:Hp)(a:Addr)(y:V)(r:Option V):Prop :=
 (∃kvs k,Rd H a (.dK kvs)/\y=kV k/\r=d4 kvs k)\/∃kvs k b,Rd H a (.dT kvs)/\y=.ref b/\H b=some (.tup (k.map kV))/\r=d4 kvs k
def BV (H:Hp)(a:Addr)(y v:V)(H':Hp):Prop :=
 (∃kvs k,H a=some (.dK kvs)/\y=kV k/\kvs.length<sizeLine/\H'=aL H a (.dK (dw kvs k v))) \/
 ∃kvs k b,H a=some (.dT kvs)/\y=.ref b/\H b=some (.tup (k.map kV))/\kvs.length<sizeLine/\H'=aL H a (.dT (dw kvs k v))
theorem sv.k {H:Hp}{a:Addr}{kvs:List (bJ×V)}{k:bJ}(e:H a=some (.dK kvs)):sv H a (kV k) (d4 kvs k):=.inl ⟨kvs,k,.inl e,rfl,rfl⟩
theorem BV.k {H:Hp}{a:Addr}{kvs:List (bJ×V)}{k:bJ}{v:V}(e:H a=some (.dK kvs))(hl:kvs.length<sizeLine):BV H a (kV k) v (aL H a (.dK (dw kvs k v))):=.inl ⟨kvs,k,e,rfl,hl,rfl⟩
section
variable {X:Cx}{ae:Γ2}{σ:St}{H:Hp}{s:Shared}{a:Addr}{y v:V}{u r:Value}{o:Option V}{A:Around}{E:Θ2}
def Inv.big (I:Inv X ae σ H s):sysModules<s.heap.objs.size:=by
 have h:mainGlobals<s.heap.objs.size:=(I.mod.glob.keeps I.bk).lt;exact Nat.lt_trans (by decide) h
def AM {Q:Θ2}(hu:A.units+1<cLine)(I:Inv X ae σ H s)(g:sv H a y (some v))(ry:RelV y u)(h:∀w' s',Inv X ae σ H s'->RelV v w'->Q w' s') :
  wpAny (model X.prog X.w) A (getItem (.ref a) u) Q E s:=by
 rcases g with ⟨kvs,k,e,ey,l⟩ |⟨kvs,k,b,e,ey,eb,l⟩
 .subst ey;obtain⟨z,hd,vs,cJ,dd⟩:=sO I.bP e;obtain⟨w',hw,yX⟩:=az.some_of (v:=v) (o:=valueAt vs k) (by rw[l];exact cJ.val k);exact wpAny_getItem_of (sE ry) dd.mapOf hw (h w' _ (I.tok _) yX)
 .subst ey;cases (show u=Value.ref b from ry);obtain⟨z,hd,xs,cJ,dd⟩:=sN I.bP e;obtain⟨w',hw,yX⟩:=az.some_of (v:=v) (o:=(atKey xs k).map (·.2)) (by rw[l];exact cJ.val k);obtain⟨p,hp,VM⟩:=Option.map_eq_some_iff.mp hw;refine wpAny_getItem_heap (tupleKind_room_in1 hu) (ng I.bP eb) dd hp ?_;rw[VM];exact h w' _ (I.tok _) yX
def IM {Q:Θ2}(hu:A.units+1<cLine)(I:Inv X ae σ H s)(g:sv H a y o)(ry:RelV y u)(h:∀s',Inv X ae σ H s'->Q (.bool (!o.isSome)) s') :
  wpAny (model X.prog X.w) A (compareOp .NotIn u (.ref a)) Q E s:=by
 rcases g with ⟨kvs,k,e,ey,l⟩ |⟨kvs,k,b,e,ey,eb,l⟩
 .subst ey;obtain⟨z,hd,vs,cJ,dd⟩:=sO I.bP e;refine wpAny_notIn_of (sE ry) hd dd.mapOf ?_;rw[<- (cJ.val k).k6,<- l];exact h _ (I.tok _)
 .subst ey;cases (show u=Value.ref b from ry);obtain⟨z,hd,xs,cJ,dd⟩:=sN I.bP e;refine wpAny_notIn_heap (tupleKind_room_in1 hu) (ng I.bP eb) hd dd ?_;have q:=(cJ.val k).k6;rw[Option.isSome_map] at q;rw[<- q,<- l];exact h _ (I.tok _)
def l7 {h':Heap}{t':Nat}{ob:HO}(I:Inv X ae σ H s)(mu:QQ (H a))(hs:Heap.SameBut a s.heap h')(he:∃q,h'.get? a=some q)(new:bS X.prog X.w (aL H a ob) h' a ob) :
  Inv X ae σ (aL H a ob) { s with heap:=h',toks:=t' } :=
 I.write (x:=a) (e:=a) mu (.inl rfl) (λb q hb z=>(hs.2 b hb).trans z) he new
def Dr {P:Program}{w:World}{H':Hp}{h':Heap}{kvs:List (bJ×V)}{vs:List (bJ×Value)}(z:kvs.length<=sizeLine)(hd:(a == sysModules)=false)(cJ:KV kvs vs)(dd:h'.DictOf (lq P w) a vs) :
  bS P w H' h' a (.dK kvs):=⟨z,hd,vs,cJ,dd⟩
def AL {H':Hp}{Q:Unit->Shared->Prop}(hu:A.units+1<cLine)(I:Inv X ae σ H s)(g:BV H a y v H')(ry:RelV y u)(rv:RelV v r)(h:∀s',Inv X ae σ H' s'->Q () s') :
  wpAny (model X.prog X.w) A (setItem (.ref a) u r) Q E s:=by
 rcases g with ⟨kvs,k,e,ey,l,eH⟩ |⟨kvs,k,b,e,ey,eb,l,eH⟩
 .subst ey eH;obtain⟨z,hd,vs,cJ,dd⟩:=xE I.bP e;have hz:vs.length<=sizeLine:=by rw[<- cJ.length];exact z
  have hl:(dw kvs k v).length<=sizeLine:=by have:=fv kvs k v;omega
  refine wpAny_setItem_pairs (hsz:=hz) (sE ry) dd λh' FJ hs=>h _ ?_
  have he:∃q,h'.get? a=some q:=let ⟨q,_,_,hq,_⟩:=FJ;⟨q,hq⟩;exact l7 I (by rw[e];exact True.intro) hs he (Dr hl hd (cJ.put k rv) FJ)
 .subst ey eH;cases (show u=Value.ref b from ry);obtain⟨z,hd,xs,cJ,dd⟩:=Ke I.bP e;have hz:xs.length<=sizeLine:=by rw[<- Paired.length cJ];exact z
  have hl:(dw kvs k v).length<=sizeLine:=by have:=fv kvs k v;omega
  refine wpAny_setItem_heap (hsz:=hz) (tupleKind_room_in1 hu) (ng I.bP eb) dd λh' FJ hs=>h _ ?_
  obtain⟨q,es,ep,hq,h2,h3,h4,_,h5⟩:=FJ;refine l7 I (by rw[e];exact True.intro) hs ⟨q,hq⟩ ⟨hl,hd,_,(cJ.put k eb rv).keeps λc ys ec=>?_,q,es,ep,hq,h2,h3,h4,h5⟩;rw[cS (sC ec e (λz=>nomatch z))];exact ec
end
section
variable {X:Cx}{ae:Γ2}{σ:St}{H:Hp}{s:Shared}{a:Addr}{kvs:List (bJ×V)}{k:bJ}{u:Value}{A:Around}{E:Θ2}
end
def Sv (i:Expr):Prop:=∀ov iv,subscripted i false ov iv=operate [ov,iv] (getItem ov iv)
def G4 {prog:Program}{w:World}{A:Around}{E:Θ2}{s:Shared}{env:Env}{value slice:Expr}{pos:Pos}{T id:String}{Q:Θ2}
  (hl:typeLookup (.type T) "__getitem__"=pure (some (.builtin id))) (hs:Sv slice)
  (h:wpAny (model prog w) A (eval value env) (λo br=>wpAny (model prog w) A (eval slice env) (λi cr=>cr.TypeIs o T/\wpAny (model prog w) A (getItem o i) Q E cr) E br) E s) :
  wpAny (model prog w) A (eval (.Subscript value slice pos) env) Q E s:=by
 refine Subscript_ (wpAny_mono h (λo br kJ=>wpAny_mono kJ (λi cr kI=>?_) λ_ _ x=>x) λ_ _ x=>x);obtain⟨hT,kI⟩:=kI;unfold subscriptTail;refine Za ?_;rw[getitemInPython_of_ne hT.not_modules];refine Za (wpAny_specialOf hT hl ?_);have jz:wpAny (model prog w) A (subscripted slice false o i) (λr dv=>wpAny (model prog w) A (letTemporaryGo value o r >>= λ_=>pure r) Q E dv) E cr:=by
  rw[hs o i];exact wpAny_operating (wpAny_mono kI (λr dv kH=>Za (wpAny_letTemporaryGo (wpAny_pure kH))) λ_ _ x=>x)
 first
  |exact wpAny_pure (Za jz)
  |exact Za (wpAny_pure (Za jz))
  |exact Za jz
def ur {X:Cx}{ae:Γ2}{σ:St}{H:Hp}{s:Shared}{a:Addr}{y:V}{o:Option V}(I:Inv X ae σ H s)(g:sv H a y o):s.TypeIs (.ref a) "dict":=by
 rcases g with ⟨kvs,k,e,_,_⟩ |⟨kvs,k,b,e,_,_,_⟩
 .obtain⟨_,_,vs,_,dd⟩:=sO I.bP e;exact dd.typeIs
 .obtain⟨_,_,xs,_,dd⟩:=sN I.bP e;exact dd.typeIs
def SS (td ty:TE):TE:=λσ H Q=>td σ H λx H1=>ty σ H1 λy H2=>∃a v,x=.ref a/\sv H2 a y (some v)/\Q v H2
def G2 (ty td:TE):TE:=λσ H Q=>ty σ H λy H1=>td σ H1 λx H2=>∃a o,x=.ref a/\sv H2 a y o/\Q (.bl (!o.isSome)) H2
def Tc (td ty tv:TE):TS:=λD σ H=>tv σ H λv H1=>td σ H1 λx H2=>ty σ H2 λy H3=>∃a H4,x=.ref a/\BV H3 a y v H4/\D.nx σ H4
section
variable {X:Cx}{o i e value:Expr}{pos gz ic:Pos}{td ty tv:TE}
def yd (hu:X.A.units+1<cLine)(ho:PE X o td)(hi:PE X i ty)(hs:Sv i):PE X (.Subscript o i pos) (SS td ty):=by
 intro ae s σ H Q I h;refine G4 PySem.F.slot_dict_getitem.lookup hs (bp (ho ae s σ H _ I h) λu s1 ⟨x,H1,I1,rx,q1⟩=>bp (hi ae s1 σ H1 _ I1 q1) λiv s2 ⟨y,H2,I2,ry,a,v,ex,g,q2⟩=>?_);subst ex;obtain rfl:u=Value.ref a:=rx;exact⟨ur I2 g,AM hu I2 g ry λw' s3 I3 yX=>⟨v,H2,I3,yX,q2⟩⟩
def Ac (hu:X.A.units+1<cLine)(hi:PE X i ty)(ho:PE X o td):PC X .NotIn i o (G2 ty td):=by
 intro ae s σ H Q I h;refine bp (hi ae s σ H _ I h) λiv s1 ⟨y,H1,I1,ry,q1⟩=>bp (ho ae s1 σ H1 _ I1 q1) λu s2 ⟨x,H2,I2,rx,a,ov,ex,g,q2⟩=>?_
 subst ex;obtain rfl:u=Value.ref a:=rx;exact IM hu I2 g ry λs3 I3=>⟨.bl (!ov.isSome),H2,I3,rfl,q2⟩
def Ht (hu:X.A.units+1<cLine)(ho:PE X o td)(hi:PE X i ty)(hv:PE X value tv)(hs:swapsWith value (some (.Subscript o i gz)) pos.line X.env=pure false) :
  PS X (.Assign [.Subscript o i gz] value pos) (Tc td ty tv):=by
 intro ae s σ H D I h;refine wpAny_Assign_Subscript (bp (hv ae s σ H _ I h) λr s1 ⟨v,H1,I1,rv,q1⟩=>bp (ho ae s1 σ H1 _ I1 q1) λu s2 ⟨x,H2,I2,rx,q2⟩=>bp (hi ae s2 σ H2 _ I2 q2) λiv s3 ⟨y,H3,I3,ry,a,H4,ex,g,q3⟩=>?_) hs;subst ex;obtain rfl:u=Value.ref a:=rx;exact AL hu I3 g ry rv λs4 I4=>⟨σ,H4,I4,q3⟩
end
def EK {P:Program}{w:World}{H:Hp}(h:Heap)(hb:sysModules<h.objs.size):bS P w H (h.push { cls:=.type "dict",data:=.dict #[] }) h.objs.size (.dK []) :=
 ⟨Z7 _,beq_eq_false_iff_ne.mpr (Ne.symm (Z9 hb)),[],.nil,Heap.DictOf.new h⟩
def EI {P:Program}{w:World}{H:Hp}(h:Heap)(hb:sysModules<h.objs.size):bS P w H (h.push { cls:=.type "dict",data:=.dict #[] }) h.objs.size (.dT []) :=
 ⟨Z7 _,beq_eq_false_iff_ne.mpr (Ne.symm (Z9 hb)),[],.nil,_,#[],0,Zy _ rfl,⟨rfl,rfl,rfl⟩,rfl,rfl,X3⟩
section
variable {X:Cx}{pos:Pos}
end
section
variable {X:Cx}{ae:Γ2}{σ:St}{H:Hp}{s:Shared}{a:Addr}{y d:V}{u r:Value}{o:Option V}{A:Around}{E:Θ2}
end
section
variable {X:Cx}{o e f:Expr}{mG il:Pos}{td ty tx:TE}
end
section
variable {X:Cx}{ae:Γ2}{σ:St}{H:Hp}{s:Shared}{a:Addr}{kvs:List (bJ×V)}{A:Around}{E:Θ2}
end
section
variable {X:Cx}{ae:Γ2}{σ:St}{H:Hp}{s:Shared}{a:Addr}{y:V}{u:Value}{A:Around}{E:Θ2}
end
section
variable {X:Cx}
end
section
variable {κ : Type}[DecidableEq κ]
def xL {kvs:List (κ × V)}{k:κ}{v:V}(h:d4 kvs k=some v):k∈kvs.map (·.1):=by
 have q:(kvs.any λkv=>decide (kv.1=k))=true:=by
  rw[iE,h]
  all_goals rfl
 obtain⟨p,hp,e⟩:=Zw.mp q;exact Zd.mpr ⟨p,hp,of_decide_eq_true e⟩
end
def qH (g:TG)(tt:TT)(tk tv:TE)(J:It)(acc:Addr)(ai:St)(cC:Hp)(Q:VK):Prop :=
 ∃W:Nat->Nat->St->Hp->Prop,(∃m,W 0 m ai (aL cC acc (.dK [])))/\∀i m aB H',W i m aB H' ->
  (J.stop i H'/\Q (.ref acc) H') \/
  (J.go i H'/\∃N:St->Hp->Prop,(∀cv H2,N cv H2->∃m',m'<m/\W (i+1) m' cv H2)/\∀x H2,J.uA i H' x H2->g x aB H2 λgQ H3=>tt gQ H3 λb H4 =>
   if b=true then tk gQ H4 λkx H5=>tv gQ H5 λy H6=>∃kvs k,H6 acc=some (.dK kvs)/\kx=kV k/\kvs.length<sizeLine/\N gQ (aL H6 acc (.dK (dw kvs k y))) else N gQ H4)
def vg (wi:TI)(g:TG)(tt:TT)(tk tv:TE)(own:Nat)(ix:List Nat):TE:=λσ H Q=>wi σ H λJ H1=>∀acc,H1 acc=none->qH g tt tk tv J acc (dQ own ix σ) H1 Q
def AN {X:Cx}{ae:Γ2}{σ:St}{H:Hp}{s:Shared}{a:Addr}{v:V}{u r:Value}{A:Around}{E:Θ2}{kvs:List (bJ×V)}{k:bJ}{Q:Unit->Shared->Prop}(I:Inv X ae σ H s)
  (e:H a=some (.dK kvs)) (ry:RelV (kV k) u) (rv:RelV v r) (l:kvs.length<sizeLine) (h:∀s',Inv X ae σ (aL H a (.dK (dw kvs k v))) s'->Q () s'):wpAny (model X.prog X.w) A (dictSet a u r) Q E s:=by
 obtain⟨z,hd,vs,cJ,dd⟩:=xE I.bP e;have z1:vs.length<=sizeLine:=by rw[<- cJ.length];exact z
 have z2:(dw kvs k v).length<=sizeLine:=Zr (fv kvs k v) l;refine wpAny_dictSet_pairs (hsz:=z1) (sE ry) dd λh' FJ hs=>h _ ?_
 have he:∃q,h'.get? a=some q:=let ⟨q,_,_,hq,_⟩:=FJ;⟨q,hq⟩;exact l7 I (by rw[e];exact True.intro) hs he (Dr z2 hd (cJ.put k rv) FJ)
def nX {prog:Program}{w:World}{A:Around}{R:Result->Shared->Prop}{s:Shared}{kx vx fb iter:Expr}{du:Ξ2}{scope:Scope}{pos:Pos}{it:Value}{D:Addr}{env:Env}(I:Nat->Shared->Prop)
  (eS:∀n s,I n s->wpAny (model prog w) A (pyNext it) (λr br=>match r with
   |none=>R (.ok .next) br
   |some v=>wpAny (model prog w) A (letOwnedTupleGo fb it v) (λ_ io=>wpAny (model prog w) A (assign fb env v) (λ_ cr =>
     wpAny (model prog w) A (forIn du true λc r=>if r=true then do let ok <- isTrue c env (eval c env);pure (ForInStep.yield ok) else pure (ForInStep.yield r)) (λok dv =>
      if ok=true then wpAny (model prog w) A (eval kx env) (λkv gx=>wpAny (model prog w) A (eval vx env) (λvv mr=>wpAny (model prog w) A (dictSet D kv vv) (λ_ mq=>∃m,m<n/\I m mq) (λ_ _=>False) mr)
       (λ_ _=>False) gx) (λ_ _=>False) dv else ∃m,m<n/\I m dv) (λ_ _=>False) cr) (λ_ _=>False) io) (λ_ _=>False) br) (λ_ _=>False) s)
  (n:Nat) (h:I n s):codeAny (model prog w) A (.compLoop (.DictComp kx vx [⟨fb,iter,du,0⟩] scope pos) 0 it (.ref D) env) R s:=by
 refine codeAny_loop rfl I (λn s hI=>?_) n h;show wpAny _ A ((compTurn (.DictComp kx vx [⟨fb,iter,du,0⟩] scope pos) 0 it (.ref D) env).onRaise (λx=>do noteFrame x env;theTreesLotGoes x)) _ _ s;refine wpAny_noted ?_;rw[compTurn_dict];refine Za (wpAny_standAt (Za (wpAny_mono (eS n s hI) (λr br kJ=>?_) λ_ _ h'=>h'.elim)));cases r with
 |none=>exact wpAny_pure kJ
 |some v =>
  refine Za (wpAny_mono kJ (λ_ io mP=>?_) λ_ _ h'=>h'.elim);refine Za (wpAny_mono mP (λ_ cr kI=>Za (wpAny_mono kI (λok dv kH=>?_) λ_ _ h'=>h'.elim)) λ_ _ h'=>h'.elim);cases ok with
  |false=>exact wpAny_pure ⟨rfl,kH⟩
  |true =>
   exact Za (Za (wpAny_mono kH (λkv gx u8=>Za (wpAny_holding (wpAny_mono u8 (λvv mr u7=>Za (wpAny_standAt (wpAny_holding (wpAny_mono u7 (λ_ mq BM=>wpAny_pure ⟨rfl,BM⟩) λ_ _ z=>z.elim)))) λ_ _ z=>z.elim))) λ_ _ z=>z.elim))
section
variable {X:Cx}{scope:Scope}{own cap:Δ2}{ix:List Nat}{tg iter kx vx:Expr}{du:Ξ2}{wi:TI}{g:TG}{tt:TT}{tk tv:TE}{pos:Pos}
def nY {ae:Γ2}{σ:St}{H2:Hp}{s2:Shared}{it:Addr}{fp:List Addr}{tn:Nat->Heap->Prop}{J:It}{Q:VK}{RR:Value->Addr->Result->Shared->Prop}{E:Θ2}
  (B:aJ X scope own cap ix) (hc:X.calm=true)
  (hb:∀C fp s H,PG (cN X scope C (own++cap) fp s H) tg g/\dX (cN X scope C (own++cap) fp s H) du tt/\PE (cN X scope C (own++cap) fp s H) kx tk/\PE (cN X scope C (own++cap) fp s H) vx tv)
  (I2:Inv X ae σ H2 s2) (T:Turn X.prog X.w X.K tg J fp it tn) (eO:tn 0 s2.heap) (f2:∀b∈fp,dh X ae H2 b)
  (q:∀acc,H2 acc=none->qH g tt tk tv J acc (dQ own.length ix σ) H2 Q)
  (KS:∀D C H' s' m,Inv X ae σ H' s'->Q (.ref D) H'->s'.heap.Ns C m->dh X ae H' C->RR (.ref D) C (.ok .next) s') :
  wpAny (model X.prog X.w) X.A newDict (λacc dv=>wpAny (model X.prog X.w) X.A (newFunctionEnv scope X.env.globals (dU X.env scope.names []) [] X.env.qual none .none (some X.env)) (λmF gx =>
   codeAny (model X.prog X.w) X.A (.compStart (.DictComp kx vx [⟨tg,iter,du,0⟩] scope pos) 0 (.ref it) acc { mF with scope:=relabel scope X.env }) (RR acc mF.locals) gx) E dv) E s2:=by
 refine wpAny_newObj_type (fu ?_);have I3:Inv X ae σ (aL H2 s2.heap.objs.size (.dK [])) { s2 with heap:=s2.heap.push { cls:=.type "dict",dict:=none,data:=.dict #[] } } :=
  I2.laid (a:=s2.heap.objs.size) (o:=.dK []) (h':=s2.heap.push { cls:=.type "dict",data:=.dict #[] }) (t':=s2.toks) (λ_ _ q=>Zj _ q) (Ze _) (EK s2.heap I2.big)
 obtain⟨W,⟨m0,w0⟩,eS⟩:=q s2.heap.objs.size I2.fresh;generalize hD:s2.heap.objs.size=D at I3 w0 eS ⊢;have cg:∀b∈fp,b<D:=λb bu=>by
  obtain⟨o,e,_⟩:=T.obj 0 _ eO b bu;rw[<- hD];exact Zn e
 generalize Kz:({ s2 with heap:=s2.heap.push { cls:=.type "dict",dict:=none,data:=.dict #[] } }:Shared)=s3 at I3 ⊢;have ir:∀b o,s2.heap.get? b=some o->s3.heap.get? b=some o:=λb o e=>by rw[<- Kz];exact Zj _ e
 have f3:∀b∈fp,dh X ae (aL H2 D (.dK [])) b:=λb bu=>⟨by rw[cS (Z9 (cg b bu))];exact(f2 b bu).1,(f2 b bu).2⟩
 have o3:∀b∈fp,∃o,s3.heap.get? b=some o:=λb bu=>let ⟨o,e,_⟩:=T.obj 0 _ eO b bu;⟨o,ir b o e⟩
 have I4:=I3.block B f3 o3;have lJ:tn 0 (pushCells (s3.heap.push { cls:=.type "dict",data:=.dict #[] }) scope.names):=T.keep 0 _ _ eO λb _ o e=>pushCells_keeps _ _ b o (Zj _ (ir b o e))
 obtain⟨hg,Bt,P4,P2⟩:=hb s3.heap.objs.size fp s3 (aL H2 D (.dK []));generalize gw:cN X scope s3.heap.objs.size (own++cap) fp s3 (aL H2 D (.dK []))=X' at I4 hg Bt P4 P2;have eP:X'.prog=X.prog:=by rw[<- gw];rfl
 have eW:X'.w=X.w:=by rw[<- gw];rfl
 have eK:X'.K=X.K:=by rw[<- gw];rfl
 have eA:X'.A=X.A:=by rw[<- gw];rfl
 have eE:X'.env=gX scope s3.heap.objs.size X.env:=by rw[<- gw];rfl
 have ex:X'.xe=λ_ _=>False:=by rw[<- gw];rfl
 have ja:X'.calm=true:=by rw[<- gw];exact hc
 have gy:∀{H':Hp},(∀b∈fp,H' b=none)->∀b∈fp,dh X' [] H' b:=λhn b bu=>by
  subst gw;exact⟨hn b bu,(I4.ok.Fl b bu).1,I4.ok.ss b bu,.inl bu,(I4.ok.Fl b bu).2,λp hp=>absurd (show p∈([]:Γ2) from hp) (by simp)⟩
 have loop:∀s4:Shared,s4={ s3 with heap:=pushCells (s3.heap.push { cls:=.type "dict",data:=.dict #[] }) scope.names } ->
   codeAny (model X.prog X.w) X.A (.compLoop (.DictComp kx vx [⟨tg,iter,du,0⟩] scope pos) 0 (.ref it) (.ref D) (gX scope s3.heap.objs.size X.env)) (RR (.ref D) s3.heap.objs.size) s4:=by
  rintro s4 rfl;refine nX (λn s'=>∃i aB H',Inv X' [] aB H' s'/\tn i s'.heap/\(∀b∈fp,H' b=none)/\W i n aB H') ?_ m0 ⟨0,_,_,I4,lJ,λb bu=>(f3 b bu).1,w0⟩;rintro n s5 ⟨i,kD,H5,I5,kE,zd,w5⟩;rcases eS i n kD H5 w5 with ⟨stop,qn⟩ |⟨go,N,hN,step⟩
  .have:=T.done X' eP eW eK ja i [] s5 kD H5 (λ_ _=>False) I5 (gy zd) kE stop;rw[eA] at this;refine bp this λr s6 ⟨hr,I6⟩=>?_
   subst hr;subst gw;have J6:Inv X ae σ H5 s6:=I3.xF (ch:=fp) I6.os I6.base I6.bP I6.bare λb bu=>⟨(f3 b bu).2.2.2.1,(f3 b bu).2.1,(f3 b bu).2.2.2.2.1,(f3 b bu).2.2.2.2.2⟩
   obtain⟨m,hn,_⟩:=I6.loc;exact KS D _ H5 s6 m J6 qn hn (I3.gB (Ze _) I6.free)
  .have:=T.item X' eP eW eK ja i [] s5 kD H5 (λ_ _=>False) I5 (gy zd) kE go;rw[eA] at this;refine bp this λr s6 ⟨u,hr,h6⟩=>?_
   subst hr;refine bp h6 λ_ s7 ⟨x,H7,I7,r7,y7,uJ,KY⟩=>?_
   have K6:=I7.pinned (gy KY) (T.obj _ _ uJ);have a1:=hg _ s7 kD H7 x u _ K6 r7 (step x H7 y7);rw[eP,eW,eA,eE,ex] at a1;refine bp a1 λ_ s8 ⟨uI,H8,I8,q8⟩=>?_
   have a2:=Bt _ s8 uI H8 _ I8 q8;rw[eP,eW,eA,eE,ex] at a2;refine bp a2 λb s9 ⟨H9,I9,q9⟩=>?_
   have again:∀{s':Shared}{aB:St}{H':Hp},Inv X' ([]++dY fp s7.heap) aB H' s'->N aB H'->∃m,m<n/\∃i aB H',Inv X' [] aB H' s'/\tn i s'.heap/\(∀b∈fp,H' b=none)/\W i m aB H':=λ{s' aB H'} I' n'=>by
    obtain⟨m',hm,w'⟩:=hN aB H' n';refine⟨m',hm,i+1,aB,H',I'.cX,T.keep _ _ _ uJ λb bu o e=>(I'.pin (b,o) (Zt _ (Zt _ (A9 bu e)))).1,λb bu=>?_,w'⟩;obtain⟨o,e,d⟩:=T.obj _ _ uJ b bu;exact(I'.pin (b,o) (Zt _ (Zt _ (A9 bu e)))).2.1
   cases b with
   |false=>exact again I9 q9
   |true =>
    rw[if_pos rfl] at q9 ⊢;have a3:=P4 _ s9 uI H9 _ I9 q9;rw[eP,eW,eA,eE,ex] at a3;refine bp a3 λkv Oh ⟨yk,OQ,QS,IX,Pk⟩=>?_
    have a4:=P2 _ Oh uI OQ _ QS Pk;rw[eP,eW,eA,eE,ex] at a4;refine bp a4 λvv O0 ⟨yv,UO,K7,Oi,kvs,k,hk,ek,hz,Pj⟩=>?_
    subst ek;have a5:=AN (E:=λ_ _=>False) (A:=X.A) (Q:=λ_ s'=>∃m,m<n/\∃i aB H',Inv X' [] aB H' s'/\tn i s'.heap/\(∀b∈fp,H' b=none)/\W i m aB H') K7 hk IX Oi hz λs' I'=>again I' Pj
    rw[eP,eW] at a5;exact a5
 exact codeAny_compStart_dict (loop _ rfl) (T.self X.A 0 _ _ _ lJ (loop _ rfl))
def D8 (B:aJ X scope own cap ix)(hc:X.calm=true)(hi:PI X tg iter wi)
  (hb:∀C fp s H,PG (cN X scope C (own++cap) fp s H) tg g/\dX (cN X scope C (own++cap) fp s H) du tt/\PE (cN X scope C (own++cap) fp s H) kx tk/\PE (cN X scope C (own++cap) fp s H) vx tv)
  (hs:∀x,foldedSetIterable iter X.env x=pure x:=by intro _;rfl):PE X (.DictComp kx vx [⟨tg,iter,du,0⟩] scope pos) (vg wi g tt tk tv own.length ix):=by
 intro ae s σ H Q I h;rw[arm_eval_DictComp];have has:∀x∈scope.names,x.2=.free->(X.env.cells.lookup x.1).isSome=true:=λx hx hk=>by
  obtain⟨c,e⟩:=I.ok.has x.1 (B.frees x hx hk);rw[e];rfl
 refine wpAny_comprehension_free (use:=none) rfl hs (Ot has) B.kind B.names ?_;show wpAny _ _ (eval iter X.env) _ _ s;refine bp (hi ae s σ H _ I h) λv s1 h1=>bp h1 λFw s2 h2=>?_
 obtain⟨it,fp,tn,J,H2,e,I2,T,eO,f2,q⟩:=h2;subst e;refine nY (RR:=λacc C=>compPost (model X.prog X.w) X.A X.xe none (EP X ae σ Q) acc C) B hc hb I2 T eO f2 q ?_;intro D C H' s' m I' q' hn fC;refine⟨m,hn,λh' rR=>⟨.ref D,H',?_,rfl,q'⟩⟩;exact I'.turned (t':=s'.toks) (it:=C) (λb o Bv e=>(rR.2 b Bv).trans e) fC.1 fC.2.1 fC.2.2.2.1 fC.2.2.2.2.1 fC.2.2.2.2.2
end
section
variable {X:Cx}
def fz (v a:Addr):HO:=.ext λh=>h.IsValuesView v a
def Ho:V->List V->Hp->VK->Prop:=λx xs H Q=>∃a kvs,x=.ref a/\xs=[]/\H a=some (.dK kvs)/\∀v,H v=none->Q (.ref v) (aL H v (fz v a))
def Al:UM X "dict.values" Ho:=by
 intro ae s σ H x xs v us Q I r rs h;obtain⟨a,kvs,rfl,rfl,ha,q⟩:=h;cases rs;cases r;obtain⟨z,hd,vs,cJ,dd⟩:=xE I.bP ha;refine call_meetsIn PySem.F.slot_dict_values dd.typeIs PySem.F.entry_dict_values (PySem.F.args_dict_values_1 _) (meets_dict_values (lq X.prog X.w) a hd) ⟨⟨vs,dd⟩,?_⟩;have hv:(s.heap.push { cls:=.type "dict_values",data:=.fields #[.ref a] }).IsValuesView s.heap.objs.size a:=⟨_,Zy _ rfl,rfl,rfl⟩;refine⟨.ref s.heap.objs.size,_,I.laid (t':=s.toks) (o:=fz s.heap.objs.size a) (λ_ _ q=>Zj _ q) (Ze _) ⟨hv,⟨_,Zy _ rfl⟩,λh1 h2 w1 hk=>?_⟩,rfl,q _ I.fresh⟩;obtain⟨o,e,c⟩:=w1;exact⟨o,hk o e,c⟩
def rf {ae:Γ2}{σ:St}{H:Hp}{s:Shared}{a:Addr}{kvs:List (bJ×V)}(I:Inv X ae σ H s)(ha:Rd H a (.dK kvs)) :
  kvs.length<=sizeLine/\(a == sysModules)=false/\∃vs ep,KV kvs vs/\s.heap.DictAt (lq X.prog X.w) a vs ep:=by
 obtain⟨z,hd,vs,cJ,o,es,ep,r⟩:=sO I.bP ha;exact⟨z,hd,vs,ep,cJ,o,es,r⟩
theorem yB:∀{kvs:List (bJ×V)}{vs:List (bJ×Value)}{us:Δ3},KV kvs vs->us.length=vs.length->(∀(j:Nat) (v:Value),us[j]?=some v->∃k,vs[j]?=some (k,v))->aY (kvs.map (·.2)) us
 |_,_,us,.nil,hl,_=>by
  cases us with
  |nil=>exact .nil
  |cons _ _=>simp at hl
 |_,_,us,.cons h hs,hl,hu=>by
  cases us with
  |nil=>simp at hl
  |cons u us =>
   refine .cons ?_ (yB hs (by simpa using hl) λj v hj=>hu (j+1) v (by simpa using hj));obtain⟨k,e⟩:=hu 0 u rfl;simp at e;have:=h.2;rw[e] at this;exact this
def lj (hc:X.calm=true):bZ X (.type "list") (λxs H Q=>∃v a kvs,xs=[.ref v]/\H v=some (fz v a)/\Rd H a (.dK kvs)/\∀l,H l=none->Q (.ref l) (aL H l (.lst (kvs.map (·.2))))):=by
 intro ae s σ H xs us Q I r h;obtain⟨v,a,kvs,rfl,hv,ha,q⟩:=h;obtain⟨u,rfl,rx⟩:=vals1 r;cases rx;obtain⟨z,hd,vs,ep,cJ,at'⟩:=rf I ha;have Ch:s.heap.IsValuesView v a:=(I.bP v _ hv).1;have hl:=cJ.length;refine PySem.W.kdl_call (PySem.W.kdl_values (knd:=lq X.prog X.w) (kvs:=vs) (ep:=ep) (r:=v) (d:=a)) (I.ok.hd hc) ⟨Ch,at'⟩ (by rw[<- hl];exact z) λh' tk acc c' hk hD cA=>?_
 have hvs:aY (kvs.map (·.2)) acc.toList:=yB cJ (by rw[Array.length_toList];exact cA.1) λj x e=>cA.2 j x (by rw[<- Array.getElem?_toList];exact e)
 refine⟨.ref s.heap.objs.size,_,I.laid (t':=tk) (o:=.lst (kvs.map (·.2))) hk (Ze _) ⟨by rw[Zb];exact z,acc.toList,c',hvs,?_⟩,rfl,q _ I.fresh⟩;simpa using hD
def Inv.freeze {ae:Γ2}{σ:St}{H:Hp}{s:Shared}{a:Addr}{kvs:List (bJ×V)}{o:Obj}(I:Inv X ae σ H s)(ha:H a=some (.dK kvs))(ho:s.heap.get? a=some o):Inv X ae σ (aL H a (.hX o (.dK kvs))) s:=by
 refine I.write (x:=a) (e:=a) (t':=s.toks) (h':=s.heap) (by rw[ha];exact True.intro) (.inl rfl) (λ_ _ _ e=>e) ⟨o,ho⟩ ⟨ho,?_⟩;obtain⟨z,hd,vs,cJ,dd⟩:=xE I.bP ha;exact⟨z,hd,vs,cJ,dd⟩
def NX {k:bJ}{v:Value}(h:mN k v=true):RelV (kV k) v:=by
 rcases E9 h with ⟨i,t,rfl,rfl⟩ |⟨x,t,rfl,rfl⟩
 .exact⟨t,rfl⟩
 .exact⟨t,rfl⟩
def UN (a:Addr)(o:Obj)(kvs:List (bJ×V)):It :=
 ⟨λi H=>H a=some (.hX o (.dK kvs))/\i<kvs.length,λi H x H'=>H'=H/\∃k v,kvs[i]?=some (k,v)/\x=kV k,λi H=>H a=some (.hX o (.dK kvs))/\kvs.length<=i⟩
def tT {ae:Γ2}{σ:St}{H:Hp}{s:Shared}{a:Addr}{o:Obj}{uV:Array DictEntry}{ep:Nat}{kvs:List (bJ×V)}(I:Inv X ae σ H s)(hg:H a=some (.hX o (.dK kvs)))(Ff:o.data=.dict uV ep) :
  ∃vs,KV kvs vs/\vs.length=kvs.length/\s.heap.DictAt (lq X.prog X.w) a vs ep:=by
 obtain⟨z,hd,vs,QG,cJ,o',es,uS,r⟩:=rf I (.inr ⟨o,hg⟩);obtain⟨ho,_⟩:=I.bP a _ hg;have:o'=o:=by rw[ho] at uS;exact(Option.some.inj uS).symm
 subst this;have h2:=r.2.1;rw[Ff] at h2;injection h2 with _ h2
 subst h2;exact⟨vs,cJ,cJ.length.symm,o',es,uS,r⟩
def zK {P:Program}{w:World}{K:Θ1}{tg:Expr}(a it:Addr)(o:Obj)(kvs:List (bJ×V))(uV:Array DictEntry)(ep:Nat)(Ff:o.data=.dict uV ep):Turn P w K tg (UN a o kvs) [it] it (λi h=>h.IsKeyIter it a i kvs.length ep) where
 mem:=by simp
 obj:=λi h st b hb=>by
  obtain rfl:b=it:=by simpa using hb
  obtain⟨o',e,c,d⟩:=st;exact⟨o',e,λv z=>by rw[d] at z;cases z⟩
 keep:=λi h h' st k=>st.at λo e=>k it (by simp) o e
 item:=by
  intro X hP hw hK hc i ae s σ H E I hf st hg;subst hP hw hK;obtain⟨hg,hi⟩:=hg;obtain⟨vs,cJ,hl,at'⟩:=tT I hg Ff;obtain⟨f0,f1,f2,f3,f4,f5⟩:=hf it (by simp);obtain⟨⟨k,v⟩,OB⟩:∃p,vs[i]?=some p:=⟨vs[i],by simp[show i<vs.length by omega]⟩;refine wpAny_pyNext_dict_item (by rw[hl];exact st) at' OB λkey h' sr rL sb=>?_
  have I1:Inv X ae σ H { s with heap:=h' }:=I.turned (t':=s.toks) (λb o hb e=>(sb.2 b hb).trans e) f0 f1 f3 f4 f5;rw[hl] at rL;obtain⟨o1,e1,c1,d1⟩:=id rL;have hkk:∃v',kvs[i]?=some (k,v'):=by
   have e2:=cJ.keys;have e3:=congrArg (λl=>l[i]?) e2;simp only[Zl,OB,Y5] at e3;cases e4:kvs[i]? with
   |none=>rw[e4] at e3;cases e3
   |some p =>
    rw[e4] at e3;simp only[Y5,Option.some.injEq] at e3;exact⟨p.2,by rw[<- e3]⟩
  obtain⟨v',hv'⟩:=hkk;exact⟨key,rfl,sK (s:={ s with heap:=h' }) e1 c1 d1 (by decide) ⟨kV k,H,I1,NX sr,⟨rfl,k,v',hv',rfl⟩,rL,λb hb=>(hf b hb).1⟩⟩
 done:=by
  intro X hP hw hK hc i ae s σ H E I hf st hg;subst hP hw hK;obtain⟨hg,hi⟩:=hg;obtain⟨vs,cJ,hl,at'⟩:=tT I hg Ff;obtain⟨f0,f1,f2,f3,f4,f5⟩:=hf it (by simp);exact wpAny_pyNext_dict_end (I.ok.hd hc) (by rw[hl];exact st) at' (by simp;omega) λh' eb=>⟨rfl,I.turned (t':=s.toks) (λb o hb e=>eb b o hb e) f0 f1 f3 f4 f5⟩
 self:=λ_ _ _ _ _ st h=>wpAny_pyIter_keyiter st h
def TJ (td:TE):TI:=λσ H R=>td σ H λx H1=>∃a kvs,x=.ref a/\H1 a=some (.dK kvs)/\∀o,R (UN a o kvs) (aL H1 a (.hX o (.dK kvs)))
def HA {tg l:Expr}{td:TE}(hl:PE X l td):PI X tg l (TJ td):=by
 intro ae s σ H R I h;refine bp (hl ae s σ H _ I h) λv s1 ⟨x,H1,I1,r1,q1⟩=>?_
 obtain⟨a,kvs,e,ha,q⟩:=q1;subst e;cases r1;obtain⟨z,hd,vs,ep,cJ,o,es,ho,r⟩:=rf I1 (.inl ha);have at':s1.heap.DictAt (lq X.prog X.w) a vs ep:=⟨o,es,ho,r⟩;refine wpAny_pyIter_dict hd at' ?_;have I2:=I1.freeze ha ho;have PV:=cJ.length;refine⟨s1.heap.objs.size,[s1.heap.objs.size],_,UN a o kvs,_,rfl,I2.kept (t':=s1.toks) λb o e=>Zj _ e,zK a _ o kvs es ep r.2.1,⟨_,Zy _ rfl,rfl,by rw[PV];rfl⟩,λb hb=>?_,q o⟩;obtain rfl:b=s1.heap.objs.size:=by simpa using hb
 exact I2.gB (Ze _) (I2.bP.fresh (Ze _))
end
end L2
namespace PySem
def sS {prog:Program}{w:World}{A:Around}{E:Θ2}{s:Shared}{T:Addr}{a b x:Value}{k:Nat}{Q:Unit->Shared->Prop}(hT:IsPair s.heap T a b)
  (q:∀g,g.get? T=some { cls:=.type "tuple",data:=.seq ((#[a,b]:Array Value).setIfInBounds k x) }->Heap.SameBut T s.heap g->Q () { s with heap:=g }):wpAny (model prog w) A (updateSeq T (·.setIfInBounds k x)) Q E s :=
 wpAny_updateSeq_pair hT q
section
variable {prog:Program}{w:World}{A:Around}{E:Θ2}{s:Shared}{z TI TO i1 i2 l1 l2:Addr}{k1 k2:Nat}{xs ys:Array Value}{x y a b:Value}
def Bl {h g:Heap}{it l c:Addr}{i:Nat}(t:h.IsTupleIter it l i)(sb:Heap.ExtBut c h g)(ne:it≠c):g.IsTupleIter it l i:=let ⟨o,e,r⟩:=t;⟨o,sb it o ne e,r⟩
def jY {h g:Heap}{l c:Addr}{v:Array Value}(t:h.IsTuple l v)(sb:Heap.ExtBut c h g)(ne:l≠c):g.IsTuple l v:=let ⟨o,e,r⟩:=t;⟨o,sb l o ne e,r⟩
def zD {Q:Θ2}(D:ZipApart z TI TO i1 i2 l1 l2)(hz:IsZip s.heap z TI TO .none)(pI:IsPair s.heap TI (.ref i1) (.ref i2))(pO:IsPair s.heap TO a b)
  (t1:s.heap.IsTupleIter i1 l1 k1) (t2:s.heap.IsTupleIter i2 l2 k2) (u1:s.heap.IsTuple l1 xs) (u2:s.heap.IsTuple l2 ys) (hx:xs[k1]?=some x) (hy:ys[k2]?=some y)
  (q:∀g,IsZip g z TI TO (rawInt s.heap.objs.size)->IsPair g TO x y->g.IsTupleIter i1 l1 (k1+1)->g.IsTupleIter i2 l2 (k2+1)->IsPair g s.heap.objs.size x y ->
   (∀c o,c≠z->c≠TO->c≠i1->c≠i2->s.heap.get? c=some o->g.get? c=some o)->Q (.ref s.heap.objs.size) { s with heap:=g }) :
  wpAny (model prog w) A (Builtin.«zip.__next__» ⟨[.ref z],[]⟩) (λjz s'=>∃v,jz=.done (.ret v)/\Q v s') E s:=by
 show wpAny _ _ (field (.ref z) 2 >>= _) _ _ _;refine Za (wpAny_field hz rfl (x:=.bool false) rfl ?_);show wpAny _ _ (field (.ref z) 3 >>= _) _ _ _;refine Za (wpAny_field hz rfl (x:=.ref TI) rfl (Za (wpAny_seqItems pI rfl ?_)));show wpAny _ _ (Builtin.SmallTypes.ownedTupleIsFree (.ref z) >>= _) _ _ _;refine Za ?_;unfold Builtin.SmallTypes.ownedTupleIsFree;refine Za (wpAny_field hz rfl (x:=.none) rfl (wpAny_pure ?_));simp only[if_true];refine Za (wpAny_rule (Za (wpAny_field hz rfl (x:=.ref TO) rfl ?_)));refine Za (wpAny_setField_rec hz (by simp) λg1 z1 b1=>?_);replace z1:IsZip g1 z TI TO .ellipsis:=z1;refine Za ?_;simp only[List.zipIdx_cons,List.zipIdx_nil,List.forIn_cons,List.forIn_nil];refine Za (Za (wpAny_onRaise ?_));show wpAny _ _ (Builtin.SmallTypes.nextOf (.ref i1) >>= _) _ _ _;refine Za (Vx (Bl t1 b1.extBut D.i1z) (jY u1 b1.extBut D.l1z) hx λg2 n1 b2=>wpAny_pure ?_);have o2:IsPair g2 TO a b:=b2.extBut _ _ D.TOi1 (b1.extBut _ _ D.TOz pO);refine Za (wpAny_seqItems o2 rfl (Za (sS o2 λg3 o3 b3=>Za (wpAny_letGo (wpAny_pure ?_)))))
 replace o3:IsPair g3 TO x b:=o3
 refine Za (Za (wpAny_onRaise ?_));show wpAny _ _ (Builtin.SmallTypes.nextOf (.ref i2) >>= _) _ _ _;refine Za (Vx (Bl (Bl (Bl t2 b1.extBut D.i2z) b2.extBut D.i12.symm) b3.extBut D.TOi2.symm) (jY (jY (jY u2 b1.extBut D.l2z) b2.extBut D.l2i1) b3.extBut D.l2TO) hy λg4 n2 b4=>wpAny_pure ?_);have o4:IsPair g4 TO x b:=b4.extBut _ _ D.TOi2 o3;refine Za (wpAny_seqItems o4 rfl (Za (sS o4 λg5 o5 b5=>Za (wpAny_letGo (wpAny_pure (wpAny_pure ?_))))))
 replace o5:IsPair g5 TO x y:=o5
 refine Za (wpAny_seqItems o5 rfl (Za (wpAny_newTuple ?_)));have sz:g5.objs.size=s.heap.objs.size:=by rw[b5.1,b4.1,b3.1,b2.1,b1.1]
 have z5:IsZip g5 z TI TO .ellipsis:=b5.extBut _ _ D.TOz.symm (b4.extBut _ _ D.i2z.symm (b3.extBut _ _ D.TOz.symm (b2.extBut _ _ D.i1z.symm z1)));have k5:∀c o,c≠z->c≠TO->c≠i1->c≠i2->s.heap.get? c=some o->g5.get? c=some o:=λc o e1 e2 e3 e4 e=>b5.extBut _ _ e2 (b4.extBut _ _ e4 (b3.extBut _ _ e2 (b2.extBut _ _ e3 (b1.extBut _ _ e1 e))))
 have m1:g5.IsTupleIter i1 l1 (k1+1):=Bl (Bl (Bl n1 b3.extBut D.TOi1.symm) b4.extBut D.i12) b5.extBut D.TOi1.symm;have m2:g5.IsTupleIter i2 l2 (k2+1):=Bl n2 b5.extBut D.TOi2.symm;have Δ:z<g5.objs.size:=Zn z5;show wpAny _ _ (Builtin.SmallTypes.ownedTupleHandOut (.ref z) (.ref g5.objs.size) >>= _) _ _ _;refine Za ?_;unfold Builtin.SmallTypes.ownedTupleHandOut;have z6:IsZip (g5.push { cls:=.type "tuple",data:=.seq #[x,y] }) z TI TO .ellipsis:=Zj _ z5;refine Za (wpAny_setField_rec z6 (by simp) λg7 z7 b7=>?_);replace z7:IsZip g7 z TI TO (rawInt g5.objs.size):=z7;refine wpAny_setField_rec z7 (by simp) λg8 z8 b8=>?_;replace z8:IsZip g8 z TI TO (rawInt g5.objs.size):=z8
 have up:∀c o,c≠z->g5.get? c=some o->g8.get? c=some o:=λc o e1 e=>b8.extBut _ _ e1 (b7.extBut _ _ e1 (Zj _ e))
 have p8:IsPair g8 g5.objs.size x y:=b8.extBut _ _ (Xt Δ) (b7.extBut _ _ (Xt Δ) (Zy _ rfl));rw[sz] at z8 p8;refine wpAny_pure ⟨_,rfl,?_⟩;show Q (.ref g5.objs.size) _;rw[sz];exact q g8 z8 (up _ _ D.TOz o5) (let ⟨o,e,r⟩:=m1;⟨o,up _ o D.i1z e,r⟩) (let ⟨o,e,r⟩:=m2;⟨o,up _ o D.i2z e,r⟩) p8 λc o e1 e2 e3 e4 e=>up c o e1 (k5 c o e1 e2 e3 e4 e)
def zC {Q:Fin->Shared->Prop}(hh:A.handled=none)(D:ZipApart z TI TO i1 i2 l1 l2)(hz:IsZip s.heap z TI TO .none)(pI:IsPair s.heap TI (.ref i1) (.ref i2))(pO:IsPair s.heap TO a b)
  (t1:s.heap.IsTupleIter i1 l1 k1) (t2:s.heap.IsTupleIter i2 l2 k2) (u1:s.heap.IsTuple l1 xs) (u2:s.heap.IsTuple l2 ys) (hx:xs[k1]?=none)
  (q:∀g e,(∀c o,c≠z->c≠TO->c≠i1->c≠i2->s.heap.get? c=some o->g.get? c=some o)->(∃o,g.get? e=some o/\o.cls=.type "StopIteration")->E (.ref e) { s with heap:=g }) :
  wpAny (model prog w) A (Builtin.«zip.__next__» ⟨[.ref z],[]⟩) Q E s:=by
 show wpAny _ _ (field (.ref z) 2 >>= _) _ _ _;refine Za (wpAny_field hz rfl (x:=.bool false) rfl ?_);show wpAny _ _ (field (.ref z) 3 >>= _) _ _ _;refine Za (wpAny_field hz rfl (x:=.ref TI) rfl (Za (wpAny_seqItems pI rfl ?_)));show wpAny _ _ (Builtin.SmallTypes.ownedTupleIsFree (.ref z) >>= _) _ _ _;refine Za ?_;unfold Builtin.SmallTypes.ownedTupleIsFree;refine Za (wpAny_field hz rfl (x:=.none) rfl (wpAny_pure ?_));simp only[if_true];refine Za (wpAny_rule (Za (wpAny_field hz rfl (x:=.ref TO) rfl ?_)));refine Za (wpAny_setField_rec hz (by simp) λg1 z1 b1=>?_);replace z1:IsZip g1 z TI TO .ellipsis:=z1;refine Za ?_;simp only[List.zipIdx_cons,List.zipIdx_nil,List.forIn_cons,List.forIn_nil];refine Za (Za (wpAny_onRaise ?_));show wpAny _ _ (Builtin.SmallTypes.nextOf (.ref i1) >>= _) _ _ _;refine Za (Vw hh (Bl t1 b1.extBut D.i1z) (jY u1 b1.extBut D.l1z) hx λg2 e b2 ⟨oe,he,ce⟩=>?_);have z2:IsZip g2 z TI TO .ellipsis:=b2 _ _ D.i1z.symm z1;have ez:e≠z:=λh=>by subst h;rw[z2] at he;cases he;simp at ce
 exact wpAny_setField_rec z2 (by simp) λg3 _ b3=>q g3 e (λc o e1 _ e3 _ h=>b3.extBut _ _ e1 (b2 _ _ e3 (b1.extBut _ _ e1 h))) ⟨oe,b3.extBut _ _ ez he,ce⟩
def uc {Q:Φ1->Shared->Prop}(D:ZipApart z TI TO i1 i2 l1 l2)(hz:IsZip s.heap z TI TO .none)(pI:IsPair s.heap TI (.ref i1) (.ref i2))(pO:IsPair s.heap TO a b)
  (t1:s.heap.IsTupleIter i1 l1 k1) (t2:s.heap.IsTupleIter i2 l2 k2) (u1:s.heap.IsTuple l1 xs) (u2:s.heap.IsTuple l2 ys) (hx:xs[k1]?=some x) (hy:ys[k2]?=some y)
  (q:∀g,IsZip g z TI TO (rawInt s.heap.objs.size)->IsPair g TO x y->g.IsTupleIter i1 l1 (k1+1)->g.IsTupleIter i2 l2 (k2+1)->IsPair g s.heap.objs.size x y ->
   (∀c o,c≠z->c≠TO->c≠i1->c≠i2->s.heap.get? c=some o->g.get? c=some o)->Q (some (.ref s.heap.objs.size)) { s with heap:=g }):wpAny (model prog w) A (pyNext (.ref z)) Q E s:=by
 have ty:s.TypeIs (.ref z) "zip":=⟨_,hz,rfl⟩;unfold pyNext;exact Za (wpAny_attempt (wpAny_callSpecial?_slot (name:=Str.ofString "__next__") ty F.slot_zip_next (wpAny_call_entry F.slot_zip_next ty F.entry_zip_next
  (zD D hz pI pO t1 t2 u1 u2 hx hy λg a1 a2 a3 a4 a5 a6=>wpAny_pure (q g a1 a2 a3 a4 a5 a6)) (F.args_zip_next_1 _))))
def lF {Q:Φ1->Shared->Prop}(hh:A.handled=none)(D:ZipApart z TI TO i1 i2 l1 l2)(hz:IsZip s.heap z TI TO .none)(pI:IsPair s.heap TI (.ref i1) (.ref i2))(pO:IsPair s.heap TO a b)
  (t1:s.heap.IsTupleIter i1 l1 k1) (t2:s.heap.IsTupleIter i2 l2 k2) (u1:s.heap.IsTuple l1 xs) (u2:s.heap.IsTuple l2 ys) (hx:xs[k1]?=none)
  (q:∀g,(∀c o,c≠z->c≠TO->c≠i1->c≠i2->s.heap.get? c=some o->g.get? c=some o)->Q none { s with heap:=g }):wpAny (model prog w) A (pyNext (.ref z)) Q E s:=by
 have ty:s.TypeIs (.ref z) "zip":=⟨_,hz,rfl⟩;unfold pyNext;exact Za (wpAny_attempt (wpAny_callSpecial?_slot (name:=Str.ofString "__next__") ty F.slot_zip_next (wpAny_call_entry F.slot_zip_next ty F.entry_zip_next
  (zC hh D hz pI pO t1 t2 u1 u2 hx λg e hk ⟨o,ho,hc⟩=>Za (wpAny_isInstance (T:="StopIteration") (b:=true) ⟨o,ho,hc⟩ isSubtype_stop (wpAny_pure (q _ hk)))) (F.args_zip_next_1 _))))
end
abbrev OR (h:Heap)(l1:Addr):Heap:=h.push { cls:=.type "tuple_iterator",data:=.fields #[.ref l1,.int 0 0] }
abbrev T6 (h:Heap)(l1 l2:Addr):Heap:=(OR h l1).push { cls:=.type "tuple_iterator",data:=.fields #[.ref l2,.int 0 0] }
abbrev T5 (h:Heap)(l1 l2:Addr):Heap:=(T6 h l1 l2).push { cls:=.type "tuple",data:=.seq #[.ref h.objs.size,.ref (OR h l1).objs.size] }
abbrev T4 (h:Heap)(l1 l2:Addr):Heap:=(T5 h l1 l2).push { cls:=.type "tuple",data:=.seq #[.none,.none] }
abbrev Oc (h:Heap)(l1 l2:Addr):Heap:=(T4 h l1 l2).push { cls:=.type "zip",data:=.fields #[.none,.bool false,.bool false,.ref (T6 h l1 l2).objs.size,.ref (T5 h l1 l2).objs.size] }
def v9 (l1 l2:Addr)(xs ys:Array Value):Meets (Builtin.«zip.__new__» ⟨[.type "zip",.ref l1,.ref l2],[]⟩) (λ_ R s=>s.heap.IsTuple l1 xs/\s.heap.IsTuple l2 ys/\R (.ok (.ret (.ref (T4 s.heap l1 l2).objs.size))) { s with heap:=Oc s.heap l1 l2 }) :=
 .of_wp λprog w A R s h=>by
  obtain⟨hp,g,d,tk,os⟩:=s;obtain⟨v1,v2,h⟩:=h;have ZZ:=sub_zip;have w1:Heap.IsTuple (Shared.heap ⟨hp,g,d,tk,os⟩) l1 xs:=v1;have w2:Heap.IsTuple (Shared.heap ⟨OR hp l1,g,d,tk,os⟩) l2 ys:=let ⟨o,e,r⟩:=v2;⟨o,Zj _ e,r⟩
  wp_walk using wpAny_pyIter_tuple w1,wpAny_pyIter_tuple w2
  exact⟨_,rfl,h⟩
def AT {prog:Program}{w:World}{A:Around}{E:Θ2}{s:Shared}{l1 l2:Addr}{xs ys:Array Value}{Q:Θ2}(v1:s.heap.IsTuple l1 xs)(v2:s.heap.IsTuple l2 ys)
  (q:∀g,IsZip g (s.heap.objs.size+4) (s.heap.objs.size+2) (s.heap.objs.size+3) .none->IsPair g (s.heap.objs.size+2) (.ref s.heap.objs.size) (.ref (s.heap.objs.size+1))->IsPair g (s.heap.objs.size+3) .none .none ->
   g.IsTupleIter s.heap.objs.size l1 0->g.IsTupleIter (s.heap.objs.size+1) l2 0->(∀c o,s.heap.get? c=some o->g.get? c=some o)->Q (.ref (s.heap.objs.size+4)) { s with heap:=g }):wpAny (model prog w) A (call (.type "zip") [.ref l1,.ref l2]) Q E s:=by
 refine callType_new F.called_zip (by decide) (F.typeCall_zip_2 _ _) (F.newCall_zip_2 _ _) (λobj=>F.args_object_init_3 obj _ _) F.entry_zip_new (v9 l1 l2 xs ys) ⟨v1,v2,?_⟩;have e1:(OR s.heap l1).objs.size=s.heap.objs.size+1:=Xa ..;have e2:(T6 s.heap l1 l2).objs.size=s.heap.objs.size+2:=by rw[Xa,e1]
 have e3:(T5 s.heap l1 l2).objs.size=s.heap.objs.size+3:=by rw[Xa,e2]
 have e4:(T4 s.heap l1 l2).objs.size=s.heap.objs.size+4:=by rw[Xa,e3]
 have p5:(Oc s.heap l1 l2).get? (T4 s.heap l1 l2).objs.size=some _:=Zy _ rfl;have p4:(Oc s.heap l1 l2).get? (T5 s.heap l1 l2).objs.size=some _:=Zj _ (Zy _ rfl);have p3:(Oc s.heap l1 l2).get? (T6 s.heap l1 l2).objs.size=some _:=Zj _ (Zj _ (Zy _ rfl));have p2:(Oc s.heap l1 l2).get? (OR s.heap l1).objs.size=some _:=Zj _ (Zj _ (Zj _ (Zy _ rfl)));have p1:(Oc s.heap l1 l2).get? s.heap.objs.size=some _:=Zj _ (Zj _ (Zj _ (Zj _ (Zy _ rfl))));show _/\_;rw[e2,e3,e4] at p5;rw[e1,e2] at p3;rw[e3] at p4;rw[e1] at p2;rw[e4];exact⟨⟨_,p5,rfl⟩,q _ p5 p3 p4 ⟨_,p1,rfl,rfl⟩ ⟨_,p2,rfl,rfl⟩ λc o h=>Zj _ (Zj _ (Zj _ (Zj _ (Zj _ h))))⟩
end PySem
namespace L2
open PySem PySem.Spec PyProof.Rows
section
variable {X:Cx}
def OP (K:Θ1)(a b:Addr):It :=
 ⟨λi H=>∃xs ys x y,aM K H a xs/\aM K H b ys/\xs[i]?=some x/\ys[i]?=some y,
  λi H v H'=>∃p,H p=none/\v=.ref p/\∀xs ys,aM K H a xs->aM K H b ys->∃x y,xs[i]?=some x/\ys[i]?=some y/\H'=aL H p (.tup [x,y]),
  λi H=>∃xs ys,aM K H a xs/\aM K H b ys/\xs.length<=i⟩
def DD {P:Program}{w:World}{K:Θ1}{ik:Ξ2}{kk}{pos:Pos}(a b z TI TO i1 i2:Addr)(D:ZipApart z TI TO i1 i2 a b) :
  Turn P w K (.Tuple ik kk pos) (OP K a b) [z,TI,TO,i1,i2] z (λi h=>IsZip h z TI TO .none/\IsPair h TI (.ref i1) (.ref i2)/\(∃u v,IsPair h TO u v)/\h.IsTupleIter i1 a i/\h.IsTupleIter i2 b i) where
 mem:=by simp
 obj:=λi h st c hc=>by
  obtain⟨hz,pI,⟨u,v,pO⟩,⟨o1,e1,c1,d1⟩,o2,e2,c2,d2⟩:=st;simp only[Zk,Qu,or_false] at hc;rcases hc with rfl |rfl |rfl |rfl |rfl
  .exact⟨_,hz,λv z=>by cases z⟩
  .exact⟨_,pI,λv z=>by cases z⟩
  .exact⟨_,pO,λv z=>by cases z⟩
  .exact⟨o1,e1,λv z=>by rw[d1] at z;cases z⟩
  .exact⟨o2,e2,λv z=>by rw[d2] at z;cases z⟩
 keep:=λi h h' st k=>by
  obtain⟨hz,pI,⟨u,v,pO⟩,⟨o1,e1,r1⟩,o2,e2,r2⟩:=st;exact⟨k z (by simp) _ hz,k TI (by simp) _ pI,⟨u,v,k TO (by simp) _ pO⟩,⟨o1,k i1 (by simp) _ e1,r1⟩,o2,k i2 (by simp) _ e2,r2⟩
 item:=by
  intro X hP hw hK hc i ae s σ H E I hf st hg;subst hP hw hK;obtain⟨xs,ys,x,y,Je,Ox,hx,hy⟩:=hg;obtain⟨us,ru,pu,zu⟩:=I.tuple Je;obtain⟨vs,rv,pv,zv⟩:=I.tuple Ox;obtain⟨u,hu,rxu⟩:=ru.get hx;obtain⟨v,hv,ryv⟩:=rv.get hy;obtain⟨hz,pI,⟨u0,v0,pO⟩,t1,t2⟩:=st;refine uc D hz pI pO t1 t2 (show s.heap.IsTuple a us.toArray from pu) (show s.heap.IsTuple b vs.toArray from pv) (x:=u) (y:=v) (by simpa using hu) (by simpa using hv) λg z1 o1 n1 n2 p1 hk=>?_
  refine⟨_,rfl,?_⟩;refine wpAny_letOwnedTupleGo_zip z1 λg2 z2 b2=>?_
  replace b2:Heap.SameBut z g g2:=b2
  have lt:∀{c o},s.heap.get? c=some o->s.heap.objs.size≠c:=λe=>Xt (Zn e)
  have bo:s.heap.objs.size≠z:=lt hz;have I1:Inv X ae σ H { s with heap:=g2,toks:=s.toks }:=I.iP (ch:=[z,TI,TO,i1,i2]) (λc o hc q=>by
   have c1:c≠z:=λh=>hc (by simp[h])
   exact b2.extBut c o c1 (hk c o c1 (λh=>hc (by simp[h])) (λh=>hc (by simp[h])) (λh=>hc (by simp[h])) q)) hf
  have p2:=b2.extBut _ _ bo p1;have fp:dh X ae H s.heap.objs.size:=I.gB (Ze _) I.fresh;have I2:=I1.BX (p:=s.heap.objs.size) (o:=.tup [x,y]) fp ⟨by show 2<=sizeLine;decide,[u,v],.cons rxu (.cons ryv .nil),⟨_,p2,rfl,_,rfl⟩⟩;refine⟨.ref s.heap.objs.size,_,I2,rfl,⟨_,I.fresh,rfl,λys1 ys2 h1 h2=>?_⟩,⟨z2,b2.extBut _ _ D.TIz (hk _ _ D.TIz D.TITO D.TIi1 D.TIi2 pI),⟨_,_,b2.extBut _ _ D.TOz o1⟩,Bl n1 b2.extBut D.i1z,Bl n2 b2.extBut D.i2z⟩,λc hc=>?_⟩
  .rw[I.iW h1 Je,I.iW h2 Ox];exact⟨x,y,hx,hy,rfl⟩
  .rw[cS]
   .exact(hf c hc).1
   .simp only[Zk,Qu,or_false] at hc;rcases hc with rfl |rfl |rfl |rfl |rfl
    .exact bo.symm
    .exact(lt pI).symm
    .exact(lt pO).symm
    .obtain⟨_,e,_⟩:=t1;exact(lt e).symm
    .obtain⟨_,e,_⟩:=t2;exact(lt e).symm
 done:=by
  intro X hP hw hK hc i ae s σ H E I hf st hg;subst hP hw hK;obtain⟨xs,ys,Je,Ox,hx⟩:=hg;obtain⟨us,ru,pu,zu⟩:=I.tuple Je;obtain⟨vs,rv,pv,zv⟩:=I.tuple Ox;obtain⟨hz,pI,⟨u0,v0,pO⟩,t1,t2⟩:=st;have hl:=ru.length;exact lF (I.ok.hd hc) D hz pI pO t1 t2 (show s.heap.IsTuple a us.toArray from pu) (show s.heap.IsTuple b vs.toArray from pv) (by simp;omega) λg hk =>
   ⟨rfl,I.iP (t':=s.toks) (ch:=[z,TI,TO,i1,i2]) (λc o hc q=>hk c o (λh=>hc (by simp[h])) (λh=>hc (by simp[h])) (λh=>hc (by simp[h])) (λh=>hc (by simp[h])) q) hf⟩
 self:=λA i s Q E st h=>wpAny_pyIter_zip st.1 h
def ZT (K:Θ1)(ta:TA):TI:=λσ H R=>ta σ H λvs H1=>∃a b,vs=[.ref a,.ref b]/\(∃xs,aM K H1 a xs)/\(∃ys,aM K H1 b ys)/\R (OP K a b) H1
end
end L2
namespace L2
open PySem PySem.Spec PyProof.Rows KG
abbrev g2 (K:Θ1):TG:=LQ K 2 (Ck (fk 0) (Ck (fk 1) R9))
def S2 (ai σ:St):Prop:=∀u v,(σ.set 0 u).set 1 v=(ai.set 0 u).set 1 v
def S2.of {ai:St}{u v:Option V}:S2 ai ((ai.set 0 u).set 1 v):=λu' v'=>by
 match ai with
 |[]=>rfl
 |[_]=>rfl
 |_::_::_=>rfl
def Jq (ai:St)(acc:Addr)(P:List V->Hp->Prop)(σ:St)(H:Hp):Prop:=S2 ai σ/\∃ys,H acc=some (.lst ys)/\P ys H
def Jq.of {ai:St}{acc:Addr}{P:List V->Hp->Prop}{u v:Option V}{H:Hp}{ys:List V}(h:H acc=some (.lst ys))(p:P ys H):Jq ai acc P ((ai.set 0 u).set 1 v) H:=⟨S2.of,ys,h,p⟩
def Jp (ai:St)(acc:Addr)(P:List (bJ×V)->Hp->Prop)(σ:St)(H:Hp):Prop:=S2 ai σ/\∃ys,H acc=some (.dK ys)/\P ys H
def Jp.of {ai:St}{acc:Addr}{P:List (bJ×V)->Hp->Prop}{u v:Option V}{H:Hp}{ys:List (bJ×V)}(h:H acc=some (.dK ys))(p:P ys H):Jp ai acc P ((ai.set 0 u).set 1 v) H:=⟨S2.of,ys,h,p⟩
def yf {K:Θ1}{ai σ:St}{H:Hp}{p:Addr}{x y:V}{Z:St->Hp->Prop}(uR:S2 ai σ)(hp:H p=none)(h:∀H1,ay H H1->Z ((ai.set 0 (some x)).set 1 (some y)) H1):g2 K (.ref p) σ (aL H p (.tup [x,y])) Z:=by
 refine⟨p,_,rfl,aM.of dM,rfl,_,_,rfl,_,_,rfl,rfl,?_⟩;show Z ((σ.set 0 (some x)).set 1 (some y)) _;rw[uR];exact h _ ((ay.refl H).new hp)
section
variable {K:Θ1}{tt:TT}{te tk tv:TE}{acc a b:Addr}{xs ys:List V}{ai:St}{cC:Hp}{Q:VK}{o:Obj}{kvs:List (bJ×V)}
def AQ (Pv:Nat->List V->Hp->Prop)(h0:Pv 0 [] (aL cC acc (.lst [])))(hl:∀(i:Nat) zs H,i<=xs.length->H acc=some (.lst zs)->Pv i zs H->aM K H a xs)
  (hs:∀(i:Nat) x zs H H1,xs[i]?=some x->H acc=some (.lst zs)->Pv i zs H->ay H H1->tt ((ai.set 0 (some (.int i))).set 1 (some x)) H1 λb H4 =>
   if b=true then te ((ai.set 0 (some (.int i))).set 1 (some x)) H4 λy H5=>∃us,H5 acc=some (.lst us)/\us.length<sizeLine/\Jq ai acc (Pv (i+1)) ((ai.set 0 (some (.int i))).set 1 (some x)) (aL H5 acc (.lst (us++[y])))
   else Jq ai acc (Pv (i+1)) ((ai.set 0 (some (.int i))).set 1 (some x)) H4)
  (hd:∀zs H,H acc=some (.lst zs)->Pv xs.length zs H->Q (.ref acc) H):iz (g2 K) tt te (BB K a) acc ai cC Q:=by
 refine⟨λi m σ H=>m=xs.length-i/\i<=xs.length/\Jq ai acc (Pv i) σ H,⟨xs.length,by simp,Z7 _,λ_ _=>rfl,[],dM,h0⟩,?_⟩;rintro i m σ H ⟨rfl,hi,uR,zs,hy,p⟩;have q:=hl i zs H hi hy p;by_cases cg:i<xs.length
 .refine .inr ⟨⟨xs,xs[i],q,by simp[cg]⟩,Jq ai acc (Pv (i+1)),λaB H' c=>⟨xs.length-(i+1),by omega,rfl,cg,c⟩,λx H' y=>?_⟩;obtain⟨pp,hp,rfl,PH⟩:=y;obtain⟨z,hz,rfl⟩:=PH xs q;exact yf uR hp λH1 s1=>hs i z zs H H1 hz hy p s1
 .have e:i=xs.length:=by omega
  subst e;exact .inl ⟨⟨xs,q,Ze _⟩,hd zs H hy p⟩
def AR (Pv:Nat->List V->Hp->Prop)(h0:Pv 0 [] (aL cC acc (.lst [])))(hl:∀(i:Nat) zs H,i<=kvs.length->H acc=some (.lst zs)->Pv i zs H->H a=some (.hX o (.dK kvs)))
  (hs:∀(i:Nat) k v zs H,kvs[i]?=some (k,v)->H acc=some (.lst zs)->Pv i zs H->tt (ai.set 0 (some (kV k))) H λb H4 =>
   if b=true then te (ai.set 0 (some (kV k))) H4 λy H5=>∃us,H5 acc=some (.lst us)/\us.length<sizeLine/\Cn ai acc (Pv (i+1)) (ai.set 0 (some (kV k))) (aL H5 acc (.lst (us++[y]))) else Cn ai acc (Pv (i+1)) (ai.set 0 (some (kV k))) H4)
  (hd:∀zs H,H acc=some (.lst zs)->Pv kvs.length zs H->Q (.ref acc) H):iz (fk 0) tt te (UN a o kvs) acc ai cC Q:=by
 refine⟨λi m σ H=>m=kvs.length-i/\i<=kvs.length/\Cn ai acc (Pv i) σ H,⟨kvs.length,by simp,Z7 _,λ_=>rfl,[],dM,h0⟩,?_⟩;rintro i m σ H ⟨rfl,hi,uR,zs,hy,p⟩;have q:=hl i zs H hi hy p;by_cases cg:i<kvs.length
 .refine .inr ⟨⟨q,cg⟩,Cn ai acc (Pv (i+1)),λaB H' c=>⟨kvs.length-(i+1),by omega,rfl,cg,c⟩,λx H' y=>?_⟩;obtain⟨e,k,v,hk,ek⟩:=y;subst e ek;show tt (σ.set 0 _) _ _;rw[uR];exact hs i k v zs _ hk hy p
 .have e:i=kvs.length:=by omega
  subst e;exact .inl ⟨⟨q,Ze _⟩,hd zs H hy p⟩
def wF (Pv:Nat->List (bJ×V)->Hp->Prop)(h0:Pv 0 [] (aL cC acc (.dK [])))(hl:∀(i:Nat) zs H,i<=xs.length->H acc=some (.dK zs)->Pv i zs H->aM K H a xs)
  (hs:∀(i:Nat) x zs H H1,xs[i]?=some x->H acc=some (.dK zs)->Pv i zs H->ay H H1->tt ((ai.set 0 (some (.int i))).set 1 (some x)) H1 λb H4 =>
   if b=true then tk ((ai.set 0 (some (.int i))).set 1 (some x)) H4 λkx H5=>tv ((ai.set 0 (some (.int i))).set 1 (some x)) H5 λy H6=>∃us k,H6 acc=some (.dK us)/\kx=kV k/\us.length<sizeLine/\Jp ai acc (Pv (i+1)) ((ai.set 0 (some (.int i))).set 1 (some x)) (aL H6 acc (.dK (dw us k y)))
   else Jp ai acc (Pv (i+1)) ((ai.set 0 (some (.int i))).set 1 (some x)) H4)
  (hd:∀zs H,H acc=some (.dK zs)->Pv xs.length zs H->Q (.ref acc) H):qH (g2 K) tt tk tv (BB K a) acc ai cC Q:=by
 refine⟨λi m σ H=>m=xs.length-i/\i<=xs.length/\Jp ai acc (Pv i) σ H,⟨xs.length,by simp,Z7 _,λ_ _=>rfl,[],dM,h0⟩,?_⟩;rintro i m σ H ⟨rfl,hi,uR,zs,hy,p⟩;have q:=hl i zs H hi hy p;by_cases cg:i<xs.length
 .refine .inr ⟨⟨xs,xs[i],q,by simp[cg]⟩,Jp ai acc (Pv (i+1)),λaB H' c=>⟨xs.length-(i+1),by omega,rfl,cg,c⟩,λx H' y=>?_⟩;obtain⟨pp,hp,rfl,PH⟩:=y;obtain⟨z,hz,rfl⟩:=PH xs q;exact yf uR hp λH1 s1=>hs i z zs H H1 hz hy p s1
 .have e:i=xs.length:=by omega
  subst e;exact .inl ⟨⟨xs,q,Ze _⟩,hd zs H hy p⟩
end
section
variable {X:Cx}
end
end L2
namespace KM
open PySem L2 KG EX
def boot_zip:bootBuiltins "zip"=some (.type "zip"):=by first |rfl |kernel_rfl |decide+kernel
def wW:Sp:=λvs H Q _=>∃(b p pa pp pw:Addr) (xa xp xw:List V) (am pu wi:Ξ1),vs=[.ref p]/\d5 b H p pa pp pw xa xp xw am pu wi/\∀(q:Addr) (H':Hp),ay H H'->H' q=some (.tup (E5 xa.length (rowsOf wi)))->Q (.ref q) H'
def B1:Sp:=λvs H Q _=>∃(l:Addr) (ys:List V) (qs:Δ1),vs=[.ref l]/\H l=some (.lst ys)/\kC H ys qs/\qs≠[]/\(∀q∈qs,Rb 3000 q)/\∀(a:Addr) (q:Rat),H a=some (qO q)->q∈qs->(∀z∈qs,z<=q)->Q (.ref a) H
def re {H:Hp}{ys:List V}{qs:Δ1}(h:kC H ys qs){i:Nat}{y:V}(hy:ys[i]?=some y):∃(a:Addr) (q:Rat),y=.ref a/\H a=some (qO q)/\qs[i]?=some q:=by
 obtain⟨a,e,z⟩:=h.2 i y hy;have hi:i<qs.length:=by rw[<- h.1];exact(Zf.mp hy).1
 refine⟨a,qs[i],e,?_,Zc hi⟩;have:qs.getD i 0=qs[i]:=by simp[List.getD,Zc hi]
 rw[this] at z;exact z
def Rl:Sp:=λvs H Q _=>∃(r q:Addr) (ns:Γ3) (ys:List V) (qs:Δ1),vs=[.ref r,.ref q]/\H r=some (.tup (ns.map V.int))/\H q=some (.tup ys)/\kC H ys qs/\ns.length=qs.length/\ns.length<=6/\(∀k∈ns,0<=k/\k<=100)/\(∀z∈qs,Rb 300 z) /\
 (∀j,0<ns.getD j 0->0<qs.getD j 0)/\∀(t:Addr) (H':Hp),ay H H'->H' t=some (.tup (cO (cx ns qs)))->Q (.ref t) H'
def qe:Sp:=λvs H Q _=>∃(n:Int) (q:Addr) (x:Rat),vs=[.int n,.ref q]/\H q=some (qO x)/\Rb 300 x/\0<x/\0<=n/\n<=100/\∀(t:Addr) (H':Hp),ay H H'->H' t=some (qO ((n:Rat) / x))->Q (.ref t) H'
def Rh:Sp:=λvs H Q _=>∃(pb pg:Addr) (xs:List V) (M:Γ1) (gs:List Nat),vs=[.ref pb,.ref pg]/\H pb=some (.tup xs)/\pV H xs M/\H pg=some (.tup (cO gs))/\M.length<=6/\(∀r∈M,r.length<=6) /\
 ∀(r:Addr) (H':Hp),ay H H'->H' r=some (.tup (cO ((List.range M.length).filter λi=>cD gs (M.getD i []))))->Q (.ref r) H'
def CF (Pr:Addr):Sp:=λvs H Q E=>∃(b p pa pp pw:Addr) (xa xp xw:List V) (am pu wi:Ξ1) (v:V) (d:PyData),vs=[.ref p,v]/\d5 b H p pa pp pw xa xp xw am pu wi/\iN b H v d /\
 (eC xa.length (rowsOf wi) d=false->∀H',ay H H'->E (.ref Pr) none H')/\(eC xa.length (rowsOf wi) d=true->∀H',ay H H'->Q .bV H')
def N4 (p q:Rat):PyData.eqv (qD p) (qD q)=decide (p=q):=by
 unfold qD;simp only[PyData.eqv,PyData.eqvAll];rw[Yc];simp;constructor
 .rintro⟨h1,h2⟩;exact Rat.ext h1 (by omega)
 .rintro rfl;exact⟨rfl,rfl⟩
def JJ {K:Θ1}{H:Hp}{a:Addr}{q:Rat}(h:H a=some (qO q)):lN K H (.ref a) (qD q):=(iN.tup (b:=a+1) h (.cons (.int _) (.cons (.int _) .nil))).dt
def eJ (ns:Γ3)(i:Nat):List Nat:=(List.range i).filter λj=>decide (0<ns.getD j 0)
def dP (ns:Γ3)(qs:Δ1)(j:Nat):Rat:=((ns.getD j 0:Int):Rat) / qs.getD j 0
def iY (ns:Γ3)(i:Nat):eJ ns (i+1)=eJ ns i++if 0<ns.getD i 0 then [i] else []:=by
 unfold eJ;rw[Y6,Xm]
 congr 1
 by_cases h:0<ns.getD i 0
 .rw[if_pos h];simp only[List.filter,h,decide_true]
 .rw[if_neg h];simp only[List.filter,h,decide_false]
def qQ {ns:Γ3}{i j:Nat}(h:j∈eJ ns i):j<i/\0<ns.getD j 0:=by
 unfold eJ at h;rw[Zo] at h;exact⟨by simpa using h.1,by simpa using h.2⟩
def tD (ns:Γ3)(i:Nat):(eJ ns i).length<=i:=by
 unfold eJ;exact Zr (Y8 _ _) (by simp)
def vT (ns:Γ3)(i:Nat):(eJ ns i).Nodup:=(Qc).sublist Yp
def mB (j:Nat):bJ:=.inl (j:Int)
def tQ {i j:Nat}(h:mB i=mB j):i=j:=by unfold mB at h;injection h with h;omega
structure rX (ns:Γ3)(qs:Δ1)(i:Nat)(kvs:List (bJ×V))(H:Hp):Prop where
 ks:kvs.map (·.1)=(eJ ns i).map mB
 fr:kC H (kvs.map (·.2)) ((eJ ns i).map (dP ns qs))
def rX.len {ns:Γ3}{qs:Δ1}{i:Nat}{kvs:List (bJ×V)}{H:Hp}(h:rX ns qs i kvs H):kvs.length=(eJ ns i).length:=by
 have:=congrArg List.length h.ks;simpa using this
def rX.ap {ns:Γ3}{qs:Δ1}{i:Nat}{kvs:List (bJ×V)}{H H':Hp}(h:rX ns qs i kvs H)(s:ay H H'):rX ns qs i kvs H':=⟨h.ks,h.fr.ap s⟩
def rX.tm {ns:Γ3}{qs:Δ1}{i:Nat}{kvs:List (bJ×V)}{H H':Hp}(h:rX ns qs i kvs H)(s:Tm H H'):rX ns qs i kvs H':=⟨h.ks,h.fr.tm s⟩
def zI {kvs:List (bJ×V)}{k:bJ}(h:k∉kvs.map (·.1)):d4 kvs k=none:=by
 cases e:d4 kvs k with
 |none=>rfl
 |some v=>exact absurd (xL e) h
def rX.put {ns:Γ3}{qs:Δ1}{i:Nat}{kvs:List (bJ×V)}{H:Hp}(h:rX ns qs i kvs H){a:Addr}(hp:0<ns.getD i 0)(ha:H a=some (qO (dP ns qs i))):rX ns qs (i+1) (dw kvs (mB i) (.ref a)) H:=by
 have hn:mB i∉kvs.map (·.1):=by
  rw[h.ks];intro z;obtain⟨j,hj,e⟩:=Zd.mp z;have:=(qQ hj).1;have:=tQ e;omega
 rw[nw _ (zI hn)];refine⟨?_,?_⟩
 .rw[Zs,h.ks,iY,if_pos hp,Zs];rfl
 .rw[Zs,iY,if_pos hp,Zs];exact h.fr.app ha
def rX.skip {ns:Γ3}{qs:Δ1}{i:Nat}{kvs:List (bJ×V)}{H:Hp}(h:rX ns qs i kvs H)(hp:¬ 0<ns.getD i 0):rX ns qs (i+1) kvs H:=by
 refine⟨?_,?_⟩
 .rw[iY,if_neg hp,Yg];exact h.ks
 .rw[iY,if_neg hp,Yg];exact h.fr
theorem rX.at {ns:Γ3}{qs:Δ1}{n i:Nat}{kvs:List (bJ×V)}{H:Hp}(h:rX ns qs n kvs H){k:bJ}{v:V}(e:kvs[i]?=some (k,v)):∃(j:Nat) (a:Addr),(eJ ns n)[i]?=some j/\k=mB j/\v=.ref a/\H a=some (qO (dP ns qs j))/\d4 kvs k=some v:=by
 have e1:=congrArg (λl=>l[i]?) h.ks;simp only[Zl,e,Y5] at e1;cases ej:(eJ ns n)[i]? with
 |none=>rw[ej] at e1;cases e1
 |some j =>
  rw[ej] at e1;simp only[Y5,Option.some.injEq] at e1;have e2:(kvs.map (·.2))[i]?=some v:=by rw[Zl,e];rfl
  obtain⟨a,q,ea,hq,eq⟩:=re h.fr e2;rw[Zl,ej] at eq;simp only[Y5,Option.some.injEq] at eq;refine⟨j,a,rfl,e1,ea,by rw[eq];exact hq,?_⟩;have nd:(kvs.map (·.1)).Nodup:=by
   rw[h.ks];exact(vT ns n).map _ λ_ _ Jh z=>Jh (tQ z)
  clear e1 ej e2 ea hq eq h
  induction kvs generalizing i with
  |nil=>simp at e
  |cons p r ih =>
   rw[Zi,Yd] at nd;cases i with
   |zero =>
    have e':p=(k,v):=by simpa using e
    rw[e'];exact fZ rfl
   |succ i =>
    have e':r[i]?=some (k,v):=by simpa using e
    have hm:k∈r.map (·.1):=Zd.mpr ⟨(k,v),Zz e',rfl⟩;rw[ga (λz=>nd.1 (by rw[z];exact hm))];exact ih e' nd.2
def x6 {ns:Γ3}{qs:Δ1}{g o:Nat}(hg:0<qs.getD g 0)(ho:0<qs.getD o 0):(dP ns qs g<dP ns qs o)↔(((ns.getD g 0:Int):Rat)*qs.getD o 0<((ns.getD o 0:Int):Rat)*qs.getD g 0):=by
 unfold dP;generalize ((ns.getD g 0:Int):Rat)=a;generalize ((ns.getD o 0:Int):Rat)=b;generalize qs.getD g 0=x at hg ⊢;generalize qs.getD o 0=y at ho ⊢;have hxy:(0:Rat)<x*y:=Xp hg ho;rw[<- Rat.mul_lt_mul_left hxy];have hx:x≠0:=λz=>by rw[z] at hg;exact absurd hg (by decide)
 have hy:y≠0:=λz=>by rw[z] at ho;exact absurd ho (by decide)
 have e1:x*y*(a / x)=a*y:=by grind
 have e2:x*y*(b / y)=b*x:=by grind
 rw[e1,e2]
def ES {ns:Γ3}{qs:Δ1}(dz:∀j,0<ns.getD j 0->0<qs.getD j 0)(Fd:∀j,0<=ns.getD j 0){m:Rat}(hm:m∈(eJ ns ns.length).map (dP ns qs))(dD:∀z∈(eJ ns ns.length).map (dP ns qs),z<=m) :
  cx ns qs=(eJ ns ns.length).filter λj=>decide (dP ns qs j=m):=by
 unfold cx eJ;rw[Qv];refine Y2 λg hg=>?_
 have P0:g<ns.length:=by simpa using hg
 unfold mT;by_cases h0:0<ns.getD g 0
 .have h1:ns.getD g 0≠0:=by omega
  rw[decide_eq_true h1,decide_eq_true h0,Xq,Bool.and_true,Yc,Ya,decide_eq_true_eq];constructor
  .intro h;obtain⟨o,ho,eo⟩:=Zd.mp hm;obtain⟨ol,op⟩:=qQ ho;have:=h o (by simpa using ol);unfold jT at this;rw[decide_eq_true op,Xq,Bool.not_eq_true',decide_eq_false_iff_not,<- x6 (dz g h0) (dz o op),eo] at this;have h2:dP ns qs g<=m:=dD _ (Zd.mpr ⟨g,Zo.mpr ⟨hg,by simpa using h0⟩,rfl⟩);exact Rat.le_antisymm h2 (Yq.mp this)
  .intro h o ho;unfold jT;by_cases op:0<ns.getD o 0
   .rw[decide_eq_true op,Xq,Bool.not_eq_true',decide_eq_false_iff_not,<- x6 (dz g h0) (dz o op),h];exact Yq.mpr (dD _ (Zd.mpr ⟨o,Zo.mpr ⟨ho,by simpa using op⟩,rfl⟩))
   .rw[decide_eq_false op];rfl
 .have h1:ns.getD g 0=0:=by have:=Fd g;omega
  rw[decide_eq_false h0,Bool.and_false];rw[decide_eq_false (λz=>z h1)];rfl
def AY {ns:Γ3}{qs:Δ1}(Fd:∀j,0<=ns.getD j 0)(h:eJ ns ns.length=[]):cx ns qs=[]:=by
 unfold cx;rw[Qd];intro g hg;have P0:g<ns.length:=by simpa using hg
 unfold mT;have h0:¬ 0<ns.getD g 0:=λz=>by
  have:g∈eJ ns ns.length:=Zo.mpr ⟨hg,by simpa using z⟩;rw[h] at this;cases this
 have h1:ns.getD g 0=0:=by have:=Fd g;omega
 rw[decide_eq_false (λz=>z h1)];simp
def Hk {n:Int}{x:Rat}{k j:Nat}(hn:Bd k n)(hx:Rb j x)(h0:0<x):Rb (k+j) ((n:Rat) / x):=by
 have hp:=lR.mp h0;have hd:=den_pos x;have e:=l6 (a:=(n:Rat)) (b:=x) (by omega);have en:((n:Rat)).num=n:=Rat.num_intCast n;have ed:(((n:Rat)).den:Int)=1:=rfl;rw[en,ed,Int.one_mul] at e;rw[<- e];exact iA (by omega) (hn.mul hx.2) (hx.1.mono (by omega))
theorem xW {H:Hp}:∀{ws:List V}{M:Γ1}{a:Addr}{ns:Γ3},pV H ws M->H a=some (.tup (ns.map V.int))->pV H (ws++[.ref a]) (M++[ns])
 |_,_,a,_,.nil,ha=>.cons ⟨a,rfl,ha⟩ .nil
 |_,_,_,_,.cons h t,ha=>.cons h (xW t ha)
end KM
namespace KM
def TR {α : Type}(f:α->Bool)(x:α):[x].filter f=if f x=true then [x] else []:=by cases h:f x<;>simp[List.filter,h]
end KM
namespace KM
open PySem L2 KG EX
def au (g:Nat)(M:Γ1):List Nat:=(List.range g).filter (has M)
def aD (g:Nat)(M:Γ1):Γ3:=(au g M).map λj:Nat=>(j:Int)
def kW (g:Nat)(M:Γ1):E5 g M=(aD g M).map V.int:=by
 unfold E5 aD au;rw[Zm];refine Yy λj _=>?_
 show V.int (0+(j:Int))=V.int (j:Int);rw[Int.zero_add]
def zH (g:Nat)(M:Γ1):E5 g M=cO (au g M):=by rw[kW];unfold aD cO;rw[Zm];rfl
def fX {g:Nat}{M:Γ1}{j:Nat}(h:j∈au g M):j<g/\has M j=true:=by
 unfold au at h;rw[Zo] at h;exact⟨by simpa using h.1,h.2⟩
def iV (g:Nat)(M:Γ1):(au g M).length<=g:=by
 unfold au;exact Zr (Y8 _ _) (by simp)
def kg {c:Int}{ms:Γ3}{qs:Δ1}(h:cG c ms qs):∀{ix:List Nat},(∀i∈ix,i<qs.length)->(((ix.map λi=>ms.getD i 0).sum:Int):Rat)=(c:Rat)*aH (ix.map λi=>qs.getD i 0):=by
 intro ix;have key:∀(ix:List Nat) (z:Rat),(∀i∈ix,i<qs.length)->((ix.map λi=>qs.getD i 0).foldl (λs q=>s+q) z)=z+aH (ix.map λi=>qs.getD i 0):=by
  intro ix;induction ix with
  |nil=>intro z _;unfold aH;simp[Xx]
  |cons i ix ih =>
   intro z hi;have PY:∀j∈ix,j<qs.length:=λj hj=>hi j (Zh _ hj)
   unfold aH;rw[Zi,Y9,Y9,ih _ PY,ih _ PY,Yt,Rat.add_assoc]
 induction ix with
 |nil=>intro _;unfold aH;simp[Xg]
 |cons i ix ih =>
  intro hi;have PY:∀j∈ix,j<qs.length:=λj hj=>hi j (Zh _ hj)
  rw[Zi,Yr,Ql,ih PY,h.2 i (hi i Zg)];have:aH ((i::ix).map λi=>qs.getD i 0)=qs.getD i 0+aH (ix.map λi=>qs.getD i 0):=by
   conv=>lhs;unfold aH
   rw[Zi,Y9,key ix _ PY,Yt]
  rw[this,Rat.mul_add]
def rD (am:Γ3)(qs:Δ1)(S:List Nat):Rat:=aH (S.map λg=>(gn am qs).getD g 0)
def aV (am:Γ3)(ps qs:Δ1)(M:Γ1)(S:List Nat):Rat:=rD am qs S-fQ ps (hV M qs S)
def aN (S:Γ3):List Nat:=S.map Int.toNat
def NC {S:Γ3}(h:∀x∈S,0<=x):S.map V.int=cO (aN S):=by
 unfold cO aN;rw[Zm];refine Yy λx hx=>?_
 show V.int x=V.int ((x.toNat:Nat):Int);rw[Xe (h x hx)]
def zY {ns:Γ3}{mw:Nat}{x:Int}(h:x∈eh ns mw):x∈ns:=by
 unfold eh at h;obtain⟨k,hk,rfl⟩:=Zd.mp h;have:k<ns.length:=by simpa using(Zo.mp hk).1
 simp[List.getD,Zc this]
def zZ (ns:Γ3)(mw:Nat):(eh ns mw).length<=ns.length:=by
 unfold eh;rw[Zb];exact Zr (Y8 _ _) (by simp)
def zP {ns S:Γ3}(h:S∈aO ns):(∀x∈S,x∈ns)/\S.length<=ns.length:=by
 unfold aO at h;obtain⟨k,_,rfl⟩:=Zd.mp h;exact⟨λx hx=>zY hx,zZ ns k⟩
def nM {M:Γ1}{qs:Δ1}{S:List Nat}{i:Nat}(h:i∈hV M qs S):i<M.length:=by
 unfold hV at h;simpa using(Zo.mp h).1
def lv (M:Γ1)(qs:Δ1)(S:List Nat):(hV M qs S).length<=M.length:=by
 unfold hV;exact Zr (Y8 _ _) (by simp)
def ND {gs:List Nat}{i:Nat}{x:V}(h:(cO gs)[i]?=some x):∃g:Nat,gs[i]?=some g/\x=V.int (g:Int):=by
 unfold cO at h;rw[Zl] at h;cases e:gs[i]? with
 |none=>rw[e] at h;cases h
 |some g=>rw[e] at h;exact⟨g,rfl,by simpa using h.symm⟩
def Eo (gs:List Nat):(cO gs).length=gs.length:=by unfold cO;rw[Zb]
def xJ (l:Δ1)(q:Rat):Prop:=q∈l/\∀z∈l,z<=q
def jr (l:Δ1)(q:Rat):Prop:=q∈l/\∀z∈l,q<=z
def jr.uniq {l:Δ1}{p q:Rat}(h1:jr l p)(h2:jr l q):p=q:=Rat.le_antisymm (h1.2 q h2.1) (h2.2 p h1.1)
theorem C6:∀{l:Δ1},l≠[]->∃q,xJ l q
 |[],h=>absurd rfl h
 |[x],_=>⟨x,Zg,λz hz=>by rw[Z2.mp hz];exact Yk⟩
 |x::y::l,_=>by
  obtain⟨q,h1,h2⟩:=C6 (l:=y::l) (by simp);by_cases h:q<x
  .exact⟨x,Zg,λz hz=>by
    rcases Zk.mp hz with rfl |hz
    .exact Yk
    .exact Yv (h2 z hz) (Yb h)⟩
  .exact⟨q,Zh _ h1,λz hz=>by
    rcases Zk.mp hz with rfl |hz
    .exact Yq.mp h
    .exact h2 z hz⟩
def mI (a b:Int):Int:=if a<b then b else a
def ZO (a b:Int):a<=mI a b:=by unfold mI;split<;>omega
def ZN (a b:Int):b<=mI a b:=by unfold mI;split<;>omega
def Tx (a b:Int):mI a b=a\/mI a b=b:=by unfold mI;split<;>simp
def c8 (row:Γ3):Int:=row.foldl mI 0
theorem gd:∀(row:Γ3) (a:Int),a<=row.foldl mI a/\(∀n∈row,n<=row.foldl mI a)/\(row.foldl mI a=a\/row.foldl mI a∈row)
 |[],a=>⟨Yw _,(λn h=>by cases h),Or.inl rfl⟩
 |x::row,a=>by
  obtain⟨h1,h2,h3⟩:=gd row (mI a x);rw[Y9];refine⟨Int.le_trans (ZO a x) h1,λn hn=>?_,?_⟩
  .rcases Zk.mp hn with rfl |hn
   .exact Int.le_trans (ZN a n) h1
   .exact h2 n hn
  .rcases h3 with h |h
   .rcases Tx a x with e |e
    .rw[h];exact .inl e
    .rw[h,e];exact .inr Zg
   .exact .inr (Zh _ h)
def Il {row:Γ3}{m:Int}(hm:m∈row)(dD:∀n∈row,n<=m)(Fd:∀n∈row,0<=n):m=c8 row:=by
 obtain⟨h1,h2,h3⟩:=gd row 0;have a1:=h2 m hm;have a2:=Fd m hm;show m=row.foldl _ 0;rcases h3 with h |h
 .omega
 .have:=dD _ h;omega
structure bB (n:Nat)(row:Γ3):Prop where
 len:row.length=n
 bd:∀k∈row,0<=k/\k<=100
 pos:∃k∈row,1<=k
def bB.mx {n:Nat}{row:Γ3}(h:bB n row):1<=c8 row/\c8 row<=100:=by
 obtain⟨h1,h2,h3⟩:=gd row 0;obtain⟨k,hk,k1⟩:=h.pos;have:=h2 k hk;refine⟨by show 1<=row.foldl _ 0;omega,?_⟩;show row.foldl _ 0<=100;rcases h3 with e |e
 .omega
 .exact(h.bd _ e).2
def bB.at {n:Nat}{row:Γ3}(h:bB n row)(g:Nat):0<=row.getD g 0/\row.getD g 0<=c8 row:=by
 obtain⟨h1,h2,h3⟩:=gd row 0;by_cases hg:g<row.length
 .have:row.getD g 0∈row:=by simp[List.getD,Zc hg]
  exact⟨(h.bd _ this).1,h2 _ this⟩
 .have:row.getD g 0=0:=by simp[List.getD,Ym (Y4 hg)]
  rw[this];exact⟨Yw _,h1⟩
def bM (g:Nat)(row:Γ3):Rat:=((row.getD g 0:Int):Rat) / ((c8 row:Int):Rat)
def oZ {g:Nat}{row:Γ3}:Rat.divInt (row.getD g 0) (c8 row)=bM g row:=Qe _ _
def uP {z:Int}(h:0<z):(0:Rat)<(z:Rat):=by
 have e:(0:Rat)=((0:Int):Rat):=rfl;rw[e,Rat.intCast_lt_intCast];exact h
def ma {z:Int}(h:0<=z):(0:Rat)<=(z:Rat):=by
 have e:(0:Rat)=((0:Int):Rat):=rfl;rw[e,Qm];exact h
def Oq {a b:Rat}(hb:0<b):a / b*b=a:=by
 have:b≠0:=λz=>by rw[z] at hb;exact absurd hb (by decide)
 grind
def Ds {a b:Rat}(ha:0<=a)(hb:0<b):0<=a / b:=by
 rcases Classical.em (0<=a / b) with h |h
 .exact h
 .exfalso;have h1:a / b<0:=Rat.not_le.mp h;have h2:a / b*b<0*b:=(Qw hb).mpr h1;rw[Oq hb,Xr] at h2;exact absurd h2 (Yq.mpr ha)
def DH {n:Nat}{g:Nat}{row:Γ3}(h:bB n row):0<=bM g row:=Ds (ma (h.at g).1) (uP (by have:=h.mx.1;omega))
def iX {n:Nat}{g:Nat}{row:Γ3}(h:bB n row):bM g row*((c8 row:Int):Rat)=((row.getD g 0:Int):Rat):=Oq (uP (by have:=h.mx.1;omega))
def DI {n:Nat}{g:Nat}{row:Γ3}(h:bB n row):bM g row<=1:=by
 have hp:=uP (z:=c8 row) (by have:=h.mx.1;omega);refine Yq.mp λz=>?_
 have h2:=(Qw hp).mpr z;rw[iX h,Rat.one_mul,Rat.intCast_lt_intCast] at h2;have:=(h.at g).2;omega
def oY {n:Nat}{g:Nat}{row:Γ3}(h:bB n row):0<bM g row↔0<row.getD g 0:=by
 have hp:=uP (z:=c8 row) (by have:=h.mx.1;omega);rw[<- Qw hp,iX h,Xr];have e:(0:Rat)=((0:Int):Rat):=rfl;rw[e,Rat.intCast_lt_intCast]
def nv {n:Nat}{g:Nat}{row:Γ3}(h:bB n row):Rb 7 (bM g row):=by
 rw[<- oZ];have h1:=h.at g;have h2:=h.mx;exact iA (by omega) (by unfold Bd;omega) (by unfold Bd;omega)
def de (am:Γ3)(W:List Nat):Int:=(W.map λg=>am.getD g 0).sum
structure iw (am:Γ3)(ps:Δ1)(M:Γ1)(n:Nat)(qs:Δ1):Prop where
 len:qs.length=n
 ex:∃mn,jr ps mn/\∀g,g<n->∃sh,xJ (M.map (bM g)) sh/\qs.getD g 0=mn / ((de am (au n M):Int):Rat)*sh
theorem qJ:∀(l:Δ1) (z:Rat),l.foldl (λs q=>s+q) z=z+aH l
 |[],z=>by unfold aH;simp[Xx]
 |x::l,z=>by
  have h1:=qJ l (z+x);have h2:=qJ l (0+x);unfold aH;rw[Y9,Y9,h1,h2,Yt,Rat.add_assoc]
def sum_cons (x:Rat)(l:Δ1):aH (x::l)=x+aH l:=by
 conv=>lhs;unfold aH
 rw[Y9,qJ,Yt]
theorem CC:∀{l:Δ1},(∀x∈l,0<=x)->0<=aH l
 |[],_=>Yk
 |x::l,h=>by
  rw[sum_cons];have h1:=h x Zg;have h2:=CC (l:=l) λy hy=>h y (Zh _ hy)
  exact Rat.add_nonneg h1 h2
def MH {l:Δ1}{x:Rat}(h:∀y∈l,0<=y)(hx:x∈l):x<=aH l:=by
 induction l with
 |nil=>cases hx
 |cons y l ih =>
  rw[sum_cons];have hl:=λz hz=>h z (Zh y hz)
  rcases Zk.mp hx with rfl |hx
  .have:=CC hl;have h2:=(Qx (c:=x)).mpr this;rw[Xx] at h2;exact h2
  .have h1:=ih hl hx;have h2:=(Qy (c:=aH l)).mpr (h y Zg);rw[Yt] at h2;exact Yv h1 h2
theorem CD {f g:Nat->Rat}:∀{ix:List Nat},(∀i∈ix,f i<=g i)->aH (ix.map f)<=aH (ix.map g)
 |[],_=>Yk
 |i::ix,h=>by
  rw[Zi,Zi,sum_cons,sum_cons];have h1:=h i Zg;have h2:=CD (ix:=ix) λj hj=>h j (Zh _ hj)
  exact Yv ((Qy (c:=aH (ix.map f))).mpr h1) ((Qx (c:=g i)).mpr h2)
theorem qI {f:Nat->Rat}:∀{xs ys:List Nat},xs.Sublist ys->(∀i∈ys,0<=f i)->aH (xs.map f)<=aH (ys.map f)
 |_,_,.slnil,_=>Yk
 |_,y::ys,.cons _ h,hn=>by
  rw[Zi,sum_cons];have h1:=qI h λi hi=>hn i (Zh _ hi)
  have h2:=(Qy (c:=aH (ys.map f))).mpr (hn y Zg);rw[Yt] at h2;exact Yv h1 h2
 |x::xs,_::ys,.cons₂ _ h,hn=>by
  rw[Zi,Zi,sum_cons,sum_cons];exact(Qx (c:=f x)).mpr (qI h λi hi=>hn i (Zh _ hi))
theorem oX {c:Rat}{f:Nat->Rat}:∀(ix:List Nat),aH (ix.map λi=>c*f i)=c*aH (ix.map f)
 |[]=>by unfold aH;simp[Xg]
 |i::ix=>by rw[Zi,Zi,sum_cons,sum_cons,oX ix,Rat.mul_add]
theorem sV {f:Nat->Int}:∀(ix:List Nat),aH (ix.map λi=>((f i:Int):Rat))=(((ix.map f).sum:Int):Rat)
 |[]=>rfl
 |i::ix=>by rw[Zi,Zi,sum_cons,sV ix,Yr,Ql]
def zX (ns:Γ3)(mw:Nat):(eh ns mw).Sublist ns:=by
 have e:ns=(List.range ns.length).map λk=>ns.getD k 0:=by
  refine List.ext_getElem (by simp) λi h1 h2=>?_
  simp[List.getD,Zc h1]
 have h:(eh ns mw).Sublist ((List.range ns.length).map λk=>ns.getD k 0):=by
  unfold eh;exact List.Sublist.map _ Yp
 rw[<- e] at h;exact h
def zO {ns S:Γ3}(h:S∈aO ns):S.Sublist ns:=by
 unfold aO at h;obtain⟨k,_,rfl⟩:=Zd.mp h;exact zX ns k
def jJ (g:Nat)(M:Γ1):aN (aD g M)=au g M:=by
 unfold aN aD;rw[Zm];have:(Int.toNat ∘ λj:Nat=>(j:Int))=id:=by funext j;simp
 rw[this,Y1]
def div_pos {a b:Rat}(ha:0<a)(hb:0<b):0<a / b:=by
 have h:=(Rat.lt_div_iff (a:=0) (b:=a) (c:=b) hb);rw[h,Xr];exact ha
section
variable {am:Γ3}{ps qs:Δ1}{M:Γ1}{n:Nat}
def nP (hM:∀r∈M,bB n r)(bo:M≠[])(P8:am.length=n)(Jg:∀a∈am,1<=a):1<=de am (au n M):=by
 obtain⟨row,M',rfl⟩:=List.exists_cons_of_ne_nil bo;have hr:=hM row Zg;obtain⟨k,hk,k1⟩:=hr.pos;obtain⟨j,hj,ej⟩:=Ye hk;have hjn:j<n:=by rw[<- hr.len];exact hj
 have hw:j∈au n (row::M'):=by
  unfold au;refine Zo.mpr ⟨by simpa using hjn,?_⟩;unfold has;exact Zw.mpr ⟨row,Zg,by simp only[List.getD,Zc hj,Xh,ej];exact decide_eq_true (by omega)⟩
 have key:∀(W:List Nat),(∀g∈W,g<n)->j∈W->1<=de am W:=by
  intro W;have nn:∀(W:List Nat),(∀g∈W,g<n)->0<=de am W:=by
   intro W;induction W with
   |nil=>intro _;exact Yw _
   |cons g W ih =>
    intro h;have hg:=h g Zg;have h1:=ih λx hx=>h x (Zh _ hx)
    have h2:am.getD g 0∈am:=by simp[List.getD,Zc (show g<am.length by omega)]
    have h3:=Jg _ h2;unfold de at h1 ⊢;rw[Zi,Yr];omega
  induction W with
  |nil=>intro _ h;cases h
  |cons g W ih =>
   intro h hj;have hg:=h g Zg;have h1:=nn W λx hx=>h x (Zh _ hx)
   have h2:am.getD g 0∈am:=by simp[List.getD,Zc (show g<am.length by omega)]
   have h3:=Jg _ h2;unfold de at h1 ⊢;rw[Zi,Yr];omega
 exact key _ (λg hg=>(fX hg).1) hw
def wE (hM:∀r∈M,bB n r)(hF:iw am ps M n qs)(za:∀p∈ps,0<p)(PL:1<=de am (au n M)){g:Nat}(hg:g∈au n M):∃(i:Nat) (row:Γ3),M[i]?=some row/\g∈cx row qs:=by
 obtain⟨VY,hh⟩:=fX hg;obtain⟨mn,Fe,hq⟩:=hF.ex;have hb:0<mn / ((de am (au n M):Int):Rat):=div_pos (za mn Fe.1) (uP (by omega));generalize mn / ((de am (au n M):Int):Rat)=base at hb hq;obtain⟨sh,⟨Bc,dD⟩,eg⟩:=hq g VY;obtain⟨row,fM,er⟩:=Zd.mp Bc;have hr:=hM row fM;have dz:0<row.getD g 0:=by
  unfold has at hh;obtain⟨r',jy,h1⟩:=Zw.mp hh;have h2:=(oY (hM r' jy) (g:=g)).mpr (by simpa using h1);have h3:=dD _ (Zd.mpr ⟨r',jy,rfl⟩);refine(oY hr).mp ?_;rw[er];refine Rat.not_le.mp λz=>?_
  exact absurd h2 (Yq.mpr (Yv h3 z))
 obtain⟨i,hi,ei⟩:=Ye fM;refine⟨i,row,by rw[Zc hi,ei],?_⟩;unfold cx;refine Zo.mpr ⟨by rw[hr.len];simpa using VY,?_⟩;unfold mT;rw[decide_eq_true (show row.getD g 0≠0 by omega),Xq,Ya];intro o ho;have PP:o<n:=by rw[<- hr.len];simpa using ho
 obtain⟨so,⟨_,hmo⟩,eo⟩:=hq o PP;have hso:=hmo _ (Zd.mpr ⟨row,fM,rfl⟩);unfold jT;have:¬ (((row.getD g 0:Int):Rat)*qs.getD o 0<((row.getD o 0:Int):Rat)*qs.getD g 0):=by
  refine Yq.mpr ?_;rw[eo,eg,<- er,<- iX hr (g:=g),<- iX hr (g:=o)];have hmx:=ma (z:=c8 row) (by have:=hr.mx.1;omega);have R6:=DH hr (g:=g);generalize ((c8 row:Int):Rat)=mx at hmx;generalize bM g row=sg at R6;generalize bM o row=s1 at hso;have e1:s1*mx*(base*sg)=sg*mx*base*s1:=by grind
  have e2:sg*mx*(base*so)=sg*mx*base*so:=by grind
  rw[e1,e2];exact Xi hso (Rat.mul_nonneg (Rat.mul_nonneg R6 hmx) (Yb hb))
 rw[decide_eq_false this,Bool.and_false];rfl
def Hy (za:∀p∈ps,0<p)(i:Nat):0<=ps.getD i 0:=by
 by_cases h:i<ps.length
 .have:ps.getD i 0∈ps:=by simp[List.getD,Zc h]
  exact Yb (za _ this)
 .have:ps.getD i 0=0:=by simp[List.getD,Ym (Y4 h)]
  rw[this];exact Yk
def uo (hM:∀r∈M,bB n r)(hF:iw am ps M n qs)(za:∀p∈ps,0<p)(lC:ps.length=M.length)(P8:am.length=n)(Jg:∀a∈am,1<=a)(PL:1<=de am (au n M)){S:List Nat}(hS:S.Sublist (au n M)):aV am ps qs M S<=0:=by
 obtain⟨mn,Fe,hq⟩:=hF.ex;cases hSe:S with
 |nil =>
  unfold aV rD;have:fQ ps (hV M qs [])=0:=by
   have:hV M qs []=[]:=by
    unfold hV;rw[Qd];intro i _;unfold cD;simp
   rw[this];rfl
  rw[this];show(0:Rat)-0<=0;rw[Rat.sub_self];exact Yk
 |cons g S' =>
  rw[hSe] at hS;have hgw:g∈au n M:=hS.subset Zg;obtain⟨i,row,OG,jn⟩:=wE hM hF za PL hgw;have hi:i<M.length:=(Zf.mp OG).1;have Jd:i∈hV M qs (g::S'):=by
   unfold hV;refine Zo.mpr ⟨by simpa using hi,?_⟩;have e:(aw M qs).getD i []=(cx row qs).map λg:Nat=>(g:Int):=by
    unfold aw;simp[List.getD,Zl,OG]
   rw[e];unfold cD;exact Zw.mpr ⟨(g:Int),Zd.mpr ⟨g,jn,rfl⟩,Zw.mpr ⟨g,Zg,by simp⟩⟩
  have h1:mn<=fQ ps (hV M qs (g::S')):=by
   have hm1:ps.getD i 0∈ps:=by simp[List.getD,Zc (show i<ps.length by omega)]
   refine Yv (Fe.2 _ hm1) ?_;unfold fQ;exact MH (λy hy=>by obtain⟨j,_,rfl⟩:=Zd.mp hy;exact Hy za j) (Zd.mpr ⟨i,Jd,rfl⟩)
  have Bf:=uP (z:=de am (au n M)) (by omega);have hb:0<mn / ((de am (au n M):Int):Rat):=div_pos (za mn Fe.1) Bf;have bu:mn / ((de am (au n M):Int):Rat)*((de am (au n M):Int):Rat)=mn:=Oq Bf;have h2:rD am qs (g::S')<=mn:=by
   unfold rD;have cg:∀o∈au n M,o<n:=λo ho=>(fX ho).1
   have eo:∀o,o<n->(gn am qs).getD o 0=qs.getD o 0*((am.getD o 0:Int):Rat):=λo ho=>by
    unfold gn;rw[jw (a:=0) (by rw[Y3,hF.len];exact ho)];have:(List.range qs.length).getD o 0=o:=by simp[List.getD,Yn (show o<qs.length by rw[hF.len];exact ho)]
    rw[this]
   have amn:∀o,o<n->(0:Rat)<=((am.getD o 0:Int):Rat):=λo ho=>by
    have:am.getD o 0∈am:=by simp[List.getD,Zc (show o<am.length by omega)]
    have:=Jg _ this;exact ma (by omega)
   have Bs:∀o∈g::S',(gn am qs).getD o 0<=mn / ((de am (au n M):Int):Rat)*((am.getD o 0:Int):Rat):=λo ho=>by
    have PP:=cg o (hS.subset ho);rw[eo o PP];obtain⟨so,⟨hsm,_⟩,e⟩:=hq o PP;obtain⟨r,hr,er⟩:=Zd.mp hsm;have hs1:so<=1:=by rw[<- er];exact DI (hM r hr)
    rw[e];refine Q5 ?_ (amn o PP);have:=Xi hs1 (Yb hb);rw[Rat.mul_one] at this;exact this
   refine Yv (CD Bs) ?_;rw[oX];have h3:=qI (f:=λo=>((am.getD o 0:Int):Rat)) hS (λo ho=>amn o (cg o ho));have h4:=Xi h3 (Yb hb);refine Yv h4 ?_;rw[sV (f:=λo=>am.getD o 0)];show mn / ((de am (au n M):Int):Rat)*((de am (au n M):Int):Rat)<=mn;rw[bu];exact Yk
  unfold aV;have h5:=Yv h2 h1;rw[Rat.sub_right_le_iff_le_add,Yt];exact h5
def lh:aV am ps qs M []=0:=by
 unfold aV rD;have:hV M qs []=[]:=by
  unfold hV;rw[Qd];intro i _;unfold cD;simp
 rw[this];show(0:Rat)-0=0;exact Rat.sub_self
end
def Rg:Sp:=λvs H Q _=>∃(b p pa pp pw:Addr) (xa xp xw:List V) (am pu wi:Ξ1),vs=[.ref p]/\d5 b H p pa pp pw xa xp xw am pu wi/\(∀r∈rowsOf wi,bB xa.length r)/\∀H',ay H H'->Q .bV H'
def CG:Sp:=λvs H Q _=>∃(l:Addr) (ys:List V) (qs:Δ1),vs=[.ref l]/\H l=some (.tup ys)/\kC H ys qs/\qs≠[]/\(∀q∈qs,Rb 3000 q)/\∀(a:Addr) (q:Rat),H a=some (qO q)->jr qs q->Q (.ref a) H
def Rj:Sp:=λvs H Q _=>∃(pw:Addr) (xw:List V) (M:Γ1) (n g:Nat),vs=[.ref pw,.int (g:Int)]/\H pw=some (.tup xw)/\pV H xw M/\g<n/\(∀r∈M,bB n r)/\M≠[]/\M.length<=6/\∀(a:Addr) (q:Rat) (H':Hp),ay H H'->H' a=some (qO q)->xJ (M.map (bM g)) q->Q (.ref a) H'
def Ll:Sp:=λvs H Q _=>∃(b p pa pp pw:Addr) (xa xp xw:List V) (am pu wi:Ξ1),vs=[.ref p]/\d5 b H p pa pp pw xa xp xw am pu wi/\(∀r∈rowsOf wi,bB xa.length r) /\
 ∀(r:Addr) (xs:List V) (qs:Δ1) (H':Hp),ay H H'->H' r=some (.tup xs)->kC H' xs qs->iw (am.map aU) (pP pu) (rowsOf wi) xa.length qs->Q (.ref r) H'
def pf {am:Γ3}{M:Γ1}{n:Nat}(P8:am.length=n)(h6:n<=6)(Jg:∀a∈am,a<=60):de am (au n M)<=360:=by
 have key:∀W:List Nat,(∀g∈W,g<n)->de am W<=60*(W.length:Int):=by
  intro W;induction W with
  |nil=>intro _;exact Yw _
  |cons g W ih =>
   intro h;have hg:=h g Zg;have h1:=ih λx hx=>h x (Zh _ hx)
   have h2:am.getD g 0∈am:=by simp[List.getD,Zc (show g<am.length by omega)]
   have h3:=Jg _ h2;unfold de at h1 ⊢;rw[Zi,Yr,Xo];omega
 have h1:=key (au n M) λg hg=>(fX hg).1
 have h2:=iV n M;omega
theorem Dp {b:Addr}{H:Hp}:∀{ys:List V}{qs:Δ1},kC H ys qs->cB b H ys (qs.map qD)
 |[],[],_=>.nil
 |[],_::_,h=>by have:=h.1;simp at this
 |_::_,[],h=>by have:=h.1;simp at this
 |y::ys,q::qs,h=>by
  obtain⟨a,e,ha⟩:=h.2 0 y rfl;subst e;have hr:(q::qs).getD 0 0=q:=rfl;rw[hr] at ha;refine .cons (.tup ha (.cons (.int _) (.cons (.int _) .nil))) (Dp (ys:=ys) (qs:=qs) ⟨by simpa using h.1,λj x hx=>?_⟩);obtain⟨c,e,hc⟩:=h.2 (j+1) x (by simpa using hx);exact⟨c,e,by simpa[List.getD] using hc⟩
theorem Dt:∀qs:Δ1,PyData.depthAll (qs.map qD)<=1
 |[]=>by simp[PyData.depthAll]
 |q::qs=>by
  have h1:=Kf q;have h2:=Dt qs;simp[PyData.depthAll];omega
def N6 (qs:Δ1):(PyData.tuple (qs.map qD)).depth<=2:=by
 have:=Dt qs;simp[PyData.depth];omega
end KM
namespace PySem
def kM (h:Heap)(d:Addr)(es:Array DictEntry)(ep:Nat):Prop:=∃o,h.get? d=some o/\o.ExactDict/\o.data=.dict es ep
section
variable {prog:Program}{w:World}{A:Around}{E:Θ2}{s:Shared}{it d:Addr}{i ep:Nat}{es:Array DictEntry}
def kM.at {h g:Heap}(x:kM h d es ep)(k:∀o,h.get? d=some o->g.get? d=some o):kM g d es ep:=let ⟨o,e,r⟩:=x;⟨o,k o e,r⟩
def Hm {Q:Φ1->Shared->Prop}(t:s.heap.IsKeyIter it d i es.size ep)(m:kM s.heap d es ep)(hi:i<es.size)
  (q:∀g,g.IsKeyIter it d (i+1) es.size ep->Heap.SameBut it s.heap g->Q (some es[i].key) { s with heap:=g }):wpAny (model prog w) A (pyNext (.ref it)) Q E s:=by
 obtain⟨o,ho,hc,hd⟩:=id t;obtain⟨od,Br,_,rF⟩:=m;unfold pyNext;refine Za (wpAny_attempt (wpAny_callSpecial?_slot (name:=Str.ofString "__next__") t.typeIs F.slot_dict_keyiterator_next (wpAny_call_entry F.slot_dict_keyiterator_next t.typeIs F.entry_dict_keyiterator_next ?_ (F.args_dict_keyiterator_next_1 _))));refine Za (wpAny_pure (Za (Za ?_)))
 first |refine Za (wpAny_typeNameOfWhole_keyiter t.typeIs (wpAny_pure (Za (wpAny_fieldsOf ho hd ?_)))) |refine Za (wpAny_typeNameOf_keyiter t.typeIs (wpAny_pure (Za (wpAny_fieldsOf ho hd ?_))))
 have ow:Builtin.Dict_items.ownsTuple "dict_keyiterator"=false:=by decide
 simp only[ow,Qg,if_false];show wpAny _ _ (if (Value.ref d == Value.none)=true then _ else _) _ _ s;rw[if_neg (show ¬ ((Value.ref d == Value.none)=true) from Z4)];refine Za (wpAny_pure (Za (wpAny_dictEntries Br rF ?_)));rw[if_neg (by simp)];refine Za (wpAny_pure (Za (wpAny_dictEpoch Br rF ?_)));rw[if_neg (by simp)];refine wpAny_pure ?_;simp only[show ¬ ((i:Int)<0) from by omega,if_false,Z3,Array.getElem?_eq_getElem hi];refine Za ?_
 first |refine Za (wpAny_typeNameOfWhole_keyiter t.typeIs (wpAny_pure (Za (wpAny_isOneOf_keyiter t.typeIs ?_)))) |refine Za (wpAny_typeNameOf_keyiter t.typeIs (wpAny_pure (Za (wpAny_isOneOf_keyiter t.typeIs ?_))))
 show wpAny _ _ (setField (.ref it) 1 (rawInt ((i:Int)+1)) >>= _) _ _ s;refine Za (wpAny_setField ho hd (by simp) ?_);have t':(s.heap.update it (Obj.mapFields (·.setIfInBounds 1 (rawInt ((i:Int)+1))))).IsKeyIter it d (i+1) es.size ep:=⟨_,Qi _ ho (Obj.isFreed_of_fields (Obj.data_mapFields hd _)),(Obj.cls_mapFields ..).trans hc,by rw[Obj.data_mapFields hd];simp[rawInt]⟩;refine Za (wpAny_holding (Za (wpAny_isOneOf_keyiter (s:={ s with heap:=s.heap.update it (Obj.mapFields (·.setIfInBounds 1 (rawInt ((i:Int)+1)))) }) t'.typeIs ?_)));show wpAny _ _ (pure es[i].key) _ _ _;exact wpAny_pure (wpAny_pure ⟨_,rfl,wpAny_pure (q _ t' (Heap.SameBut.update ..))⟩)
def ua {Q:Φ1->Shared->Prop}(hh:A.handled=none)(t:s.heap.IsKeyIter it d i es.size ep)(m:kM s.heap d es ep)(hi:es.size<=i)
  (q:∀g,Heap.ExtBut it s.heap g->Q none { s with heap:=g }):wpAny (model prog w) A (pyNext (.ref it)) Q E s:=by
 obtain⟨o,ho,hc,hd⟩:=id t;obtain⟨od,Br,_,rF⟩:=m;unfold pyNext;refine Za (wpAny_attempt (wpAny_callSpecial?_slot (name:=Str.ofString "__next__") t.typeIs F.slot_dict_keyiterator_next (wpAny_call_entry F.slot_dict_keyiterator_next t.typeIs F.entry_dict_keyiterator_next ?_ (F.args_dict_keyiterator_next_1 _))));refine Za (wpAny_pure (Za (Za ?_)))
 first |refine Za (wpAny_typeNameOfWhole_keyiter t.typeIs (wpAny_pure (Za (wpAny_fieldsOf ho hd ?_)))) |refine Za (wpAny_typeNameOf_keyiter t.typeIs (wpAny_pure (Za (wpAny_fieldsOf ho hd ?_))))
 have ow:Builtin.Dict_items.ownsTuple "dict_keyiterator"=false:=by decide
 simp only[ow,Qg,if_false];show wpAny _ _ (if (Value.ref d == Value.none)=true then _ else _) _ _ s;rw[if_neg (show ¬ ((Value.ref d == Value.none)=true) from Z4)];refine Za (wpAny_pure (Za (wpAny_dictEntries Br rF ?_)));rw[if_neg (by simp)];refine Za (wpAny_pure (Za (wpAny_dictEpoch Br rF ?_)));rw[if_neg (by simp)];refine wpAny_pure ?_;simp only[show ¬ ((i:Int)<0) from by omega,if_false,Z3,Array.getElem?_eq_none hi];refine Za ?_
 first |refine Za (wpAny_typeNameOfWhole_keyiter t.typeIs (wpAny_pure ?_)) |refine Za (wpAny_typeNameOf_keyiter t.typeIs (wpAny_pure ?_))
 show wpAny _ _ (setField (.ref it) 0 .none >>= _) _ _ s;refine Za (wpAny_setField ho hd (by simp) ?_);show wpAny _ _ (newExc (.type "StopIteration") [] >>= _) _ _ _;refine Za ?_;simp only[newExc,newTuple];refine Za (wpAny_newObj_type ?_ (by size_fits));refine Za (m:=firstArgMember _ _) (wpAny_of_eq (a:=Value.none) (by first |rfl |(simp only[firstArgMember];rfl)) (wpAny_newObj_type ?_ (by size_fits)));simp only[raiseNew];refine Za (wpAny_handled ?_);rw[show A.in1.handled=none from hh];refine Za (wpAny_pure (wpAny_throw ?_));exact Za (wpAny_isInstance (T:="StopIteration") (b:=true) ⟨_,Zy _ rfl,rfl⟩ isSubtype_stop (wpAny_pure (q _ (((Heap.SameBut.update ..).extBut.push _).push _))))
def Hl {Q:Φ1->Shared->Prop}(t:s.heap.IsValIter it d i es.size ep)(m:kM s.heap d es ep)(hi:i<es.size)
  (q:∀g,g.IsValIter it d (i+1) es.size ep->Heap.SameBut it s.heap g->Q (some es[i].val) { s with heap:=g }):wpAny (model prog w) A (pyNext (.ref it)) Q E s:=by
 obtain⟨o,ho,hc,hd⟩:=id t;obtain⟨od,Br,_,rF⟩:=m;unfold pyNext;refine Za (wpAny_attempt (wpAny_callSpecial?_slot (name:=Str.ofString "__next__") t.typeIs F.slot_dict_valueiterator_next (wpAny_call_entry F.slot_dict_valueiterator_next t.typeIs F.entry_dict_valueiterator_next ?_ (F.args_dict_valueiterator_next_1 _))));refine Za (wpAny_pure (Za (Za ?_)))
 first |refine Za (wpAny_typeNameOfWhole_valiter t.typeIs (wpAny_pure (Za (wpAny_fieldsOf ho hd ?_)))) |refine Za (wpAny_typeNameOf_valiter t.typeIs (wpAny_pure (Za (wpAny_fieldsOf ho hd ?_))))
 have ow:Builtin.Dict_items.ownsTuple "dict_valueiterator"=false:=by decide
 simp only[ow,Qg,if_false];show wpAny _ _ (if (Value.ref d == Value.none)=true then _ else _) _ _ s;rw[if_neg (show ¬ ((Value.ref d == Value.none)=true) from Z4)];refine Za (wpAny_pure (Za (wpAny_dictEntries Br rF ?_)));rw[if_neg (by simp)];refine Za (wpAny_pure (Za (wpAny_dictEpoch Br rF ?_)));rw[if_neg (by simp)];refine wpAny_pure ?_;simp only[show ¬ ((i:Int)<0) from by omega,if_false,Z3,Array.getElem?_eq_getElem hi];refine Za ?_
 first |refine Za (wpAny_typeNameOfWhole_valiter t.typeIs (wpAny_pure (Za (wpAny_isOneOf_valiter t.typeIs ?_)))) |refine Za (wpAny_typeNameOf_valiter t.typeIs (wpAny_pure (Za (wpAny_isOneOf_valiter t.typeIs ?_))))
 show wpAny _ _ (setField (.ref it) 1 (rawInt ((i:Int)+1)) >>= _) _ _ s;refine Za (wpAny_setField ho hd (by simp) ?_);have t':(s.heap.update it (Obj.mapFields (·.setIfInBounds 1 (rawInt ((i:Int)+1))))).IsValIter it d (i+1) es.size ep:=⟨_,Qi _ ho (Obj.isFreed_of_fields (Obj.data_mapFields hd _)),(Obj.cls_mapFields ..).trans hc,by rw[Obj.data_mapFields hd];simp[rawInt]⟩;refine Za (wpAny_holding (Za (wpAny_isOneOf_valiter (s:={ s with heap:=s.heap.update it (Obj.mapFields (·.setIfInBounds 1 (rawInt ((i:Int)+1)))) }) t'.typeIs ?_)));refine Za (wpAny_isOneOf_valiter (s:={ s with heap:=s.heap.update it (Obj.mapFields (·.setIfInBounds 1 (rawInt ((i:Int)+1)))) }) t'.typeIs ?_);show wpAny _ _ (pure es[i].val) _ _ _;exact wpAny_pure (wpAny_pure ⟨_,rfl,wpAny_pure (q _ t' (Heap.SameBut.update ..))⟩)
def t9 {Q:Φ1->Shared->Prop}(hh:A.handled=none)(t:s.heap.IsValIter it d i es.size ep)(m:kM s.heap d es ep)(hi:es.size<=i)
  (q:∀g,Heap.ExtBut it s.heap g->Q none { s with heap:=g }):wpAny (model prog w) A (pyNext (.ref it)) Q E s:=by
 obtain⟨o,ho,hc,hd⟩:=id t;obtain⟨od,Br,_,rF⟩:=m;unfold pyNext;refine Za (wpAny_attempt (wpAny_callSpecial?_slot (name:=Str.ofString "__next__") t.typeIs F.slot_dict_valueiterator_next (wpAny_call_entry F.slot_dict_valueiterator_next t.typeIs F.entry_dict_valueiterator_next ?_ (F.args_dict_valueiterator_next_1 _))));refine Za (wpAny_pure (Za (Za ?_)))
 first |refine Za (wpAny_typeNameOfWhole_valiter t.typeIs (wpAny_pure (Za (wpAny_fieldsOf ho hd ?_)))) |refine Za (wpAny_typeNameOf_valiter t.typeIs (wpAny_pure (Za (wpAny_fieldsOf ho hd ?_))))
 have ow:Builtin.Dict_items.ownsTuple "dict_valueiterator"=false:=by decide
 simp only[ow,Qg,if_false];show wpAny _ _ (if (Value.ref d == Value.none)=true then _ else _) _ _ s;rw[if_neg (show ¬ ((Value.ref d == Value.none)=true) from Z4)];refine Za (wpAny_pure (Za (wpAny_dictEntries Br rF ?_)));rw[if_neg (by simp)];refine Za (wpAny_pure (Za (wpAny_dictEpoch Br rF ?_)));rw[if_neg (by simp)];refine wpAny_pure ?_;simp only[show ¬ ((i:Int)<0) from by omega,if_false,Z3,Array.getElem?_eq_none hi];refine Za ?_
 first |refine Za (wpAny_typeNameOfWhole_valiter t.typeIs (wpAny_pure ?_)) |refine Za (wpAny_typeNameOf_valiter t.typeIs (wpAny_pure ?_))
 show wpAny _ _ (setField (.ref it) 0 .none >>= _) _ _ s;refine Za (wpAny_setField ho hd (by simp) ?_);show wpAny _ _ (newExc (.type "StopIteration") [] >>= _) _ _ _;refine Za ?_;simp only[newExc,newTuple];refine Za (wpAny_newObj_type ?_ (by size_fits));refine Za (m:=firstArgMember _ _) (wpAny_of_eq (a:=Value.none) (by first |rfl |(simp only[firstArgMember];rfl)) (wpAny_newObj_type ?_ (by size_fits)));simp only[raiseNew];refine Za (wpAny_handled ?_);rw[show A.in1.handled=none from hh];refine Za (wpAny_pure (wpAny_throw ?_));exact Za (wpAny_isInstance (T:="StopIteration") (b:=true) ⟨_,Zy _ rfl,rfl⟩ isSubtype_stop (wpAny_pure (q _ (((Heap.SameBut.update ..).extBut.push _).push _))))
def DU {Q:Θ2}(hd:(d == sysModules)=false)(m:kM s.heap d es ep)(q:Q (.ref s.heap.objs.size) { s with heap:=s.heap.push { cls:=.type "dict_keyiterator",data:=.fields #[.ref d,.int 0 0,.int es.size 0,.int ep 0] } }) :
  wpAny (model prog w) A (pyIter (.ref d)) Q E s:=by
 obtain⟨o,ho,hx,rF⟩:=m;have ty:s.TypeIs (.ref d) "dict":=⟨o,ho,hx.1⟩;refine wpAny_pyIter_slot ty F.slot_dict_iter (wpAny_call_entry F.slot_dict_iter ty F.entry_dict_iter ?_ (F.args_dict_iter_1 _));unfold Builtin.«dict.__iter__»;refine Za ?_;unfold Builtin.Dict.dictSlotNone;refine Za (wpAny_notOrdered_dict ty ?_);show wpAny _ _ (pure (Value.ref d)) _ _ s;refine wpAny_pure ?_;show wpAny _ _ (Builtin.Dict.showsAll d >>= _) _ _ s;unfold Builtin.Dict.showsAll;rw[if_neg (by rw[hd];exact Z4)];refine Za (wpAny_pure (Za (wpAny_dictEntries ho rF (Za (wpAny_dictEpoch ho rF ?_)))));refine Za (wpAny_newObj_type (wpAny_pure ⟨_,rfl,"dict_keyiterator",_,⟨_,Zy _ rfl,rfl⟩,F.slot_dict_keyiterator_next.lookup,?_⟩));simpa[rawInt] using q
def vQ (d:Addr)(hd:(d == sysModules)=false)(es:Array DictEntry)(ep:Nat):MeetsIn prog w (Builtin.«dict.values» ⟨[.ref d],[]⟩) (λ_ R s=>kM s.heap d es ep/\R (.ok (.ret (.ref s.heap.objs.size))) { s with heap:=s.heap.push { cls:=.type "dict_values",data:=.fields #[.ref d] } }) :=
 .of_wp λA R s ⟨⟨o,ho,hx,rF⟩,h⟩=>by
  have ty:s.TypeIs (.ref d) "dict":=⟨o,ho,hx.1⟩;refine Za ?_;unfold Builtin.Dict.noArgs;refine Za (wpAny_notOrdered_dict ty ?_);show wpAny _ _ (pure d) _ _ s;refine wpAny_pure ?_;show wpAny _ _ (Builtin.Dict.showsAll d >>= _) _ _ s;unfold Builtin.Dict.showsAll;rw[if_neg (by rw[hd];exact Z4)];exact Za (wpAny_pure (Za (wpAny_newObj_type (wpAny_pure ⟨_,rfl,h⟩))))
def oF {v:Addr}{Q:Θ2}(hv:s.heap.IsValuesView v d)(m:kM s.heap d es ep)(q:Q (.ref s.heap.objs.size) { s with heap:=s.heap.push { cls:=.type "dict_valueiterator",data:=.fields #[.ref d,.int 0 0,.int es.size 0,.int ep 0] } }) :
  wpAny (model prog w) A (pyIter (.ref v)) Q E s:=by
 obtain⟨ov,hov,hcv,hdv⟩:=id hv;obtain⟨o,ho,hx,rF⟩:=m;refine wpAny_pyIter_slot hv.typeIs F.slot_dict_values_iter (wpAny_call_entry F.slot_dict_values_iter hv.typeIs F.entry_dict_values_iter ?_ (F.args_dict_values_iter_1 _));unfold Builtin.«dict_values.__iter__»;refine Za (wpAny_pure (Za ?_));unfold Builtin.Dict_items.dictOf;refine Za (wpAny_field hov hdv (x:=.ref d) rfl (wpAny_pure (Za ?_)));unfold Builtin.Dict_items.newIterator;refine Za (wpAny_dictEntries ho rF (Za (wpAny_dictEpoch ho rF ?_)));have ow:Builtin.Dict_items.ownsTuple "dict_valueiterator"=false:=by decide
 simp only[ow,Qg,if_false];refine wpAny_newObj_type (wpAny_pure ⟨_,rfl,"dict_valueiterator",_,⟨_,Zy _ rfl,rfl⟩,F.slot_dict_valueiterator_next.lookup,?_⟩);simpa[rawInt] using q
def Walks.Hn (hh:A.handled=none)(I d:Addr)(bo:d≠I)(es:Array DictEntry)(ep:Nat):Walks prog w A I [I,d] [I] es.size (λi v=>∃h:i<es.size,v=es[i].val) (λi h=>h.IsValIter I d i es.size ep/\kM h d es ep) where
 sub:=λb hb=>by simp at hb;simp[hb]
 frame:=λ_ _ _ st hk=>⟨let ⟨o,e,r⟩:=st.1;⟨o,hk I (by simp) o e,r⟩,st.2.at λo e=>hk d (by simp) o e⟩
 item:=λi s Q E hi st hQ=>Hl st.1 st.2 hi λg t' sb=>hQ _ g s.toks ⟨hi,rfl⟩ ⟨t',st.2.at λo e=>sb.extBut d o bo e⟩ λb o hb e=>sb.extBut b o (λh=>hb (by simp[h])) e
 done:=λs Q E st hQ=>t9 hh st.1 st.2 (Ze _) λg eb=>hQ g s.toks λb o hb e=>eb b o (λh=>hb (by simp[h])) e
 self:=λ_ s _ _ st hQ=>wpAny_pyIter_valiter (s:=s) st.1 hQ
end
end PySem
namespace L2
open PySem PySem.Spec PyProof.Rows KG
section
variable {X:Cx}
def qE {ae:Γ2}{σ:St}{H:Hp}{s:Shared}{a:Addr}{kvs:List (List bJ×V)}(I:Inv X ae σ H s)(ha:Rd H a (.dT kvs)) :
  kvs.length<=sizeLine/\(a == sysModules)=false/\∃xs es ep,KT H kvs xs/\kM s.heap a es ep/\es.toList=xs.map (entryOfKey (tupleKind (lq X.prog X.w))):=by
 obtain⟨z,hd,xs,cJ,o,es,ep,h1,h2,h3,h4,_⟩:=sN I.bP ha;exact⟨z,hd,xs,es,ep,cJ,⟨o,h1,h2,h3⟩,h4⟩
theorem Cf {H:Hp}:∀{kvs:List (List bJ×V)}{xs:List (List bJ×Addr×Value)}{i:Nat}{x:List bJ×Addr×Value},KT H kvs xs->xs[i]?=some x->∃p,kvs[i]?=some p/\p.1=x.1/\H x.2.1=some (.tup (p.1.map kV))/\RelV p.2 x.2.2
 |_,_,_,_,.nil,h=>by simp at h
 |_,_,0,x,.cons (a:=p) hq _,h=>by
  have e:=Option.some.inj (show some _=some x from h);subst e;exact⟨p,rfl,hq⟩
 |_,_,i+1,x,.cons _ t,h=>by
  obtain⟨p,h1,h2⟩:=Cf (i:=i) t (by simpa using h);exact⟨p,by simpa using h1,h2⟩
def kt_len {H:Hp}{kvs:List (List bJ×V)}{xs:List (List bJ×Addr×Value)}(h:KT H kvs xs):kvs.length=xs.length:=Paired.length h
def DW:V->List V->Hp->VK->Prop:=λx xs H Q=>∃a kvs,x=.ref a/\xs=[]/\H a=some (.dT kvs)/\∀v,H v=none->Q (.ref v) (aL H v (fz v a))
def v4:UM X "dict.values" DW:=by
 intro ae s σ H x xs v us Q I r rs h;obtain⟨a,kvs,rfl,rfl,ha,q⟩:=h;cases rs;cases r;obtain⟨z,hd,xs,es,ep,cJ,yY,_⟩:=qE I (.inl ha);have ty:s.TypeIs (.ref a) "dict":=let ⟨o,ho,hx,_⟩:=yY;⟨o,ho,hx.1⟩;refine call_meetsIn PySem.F.slot_dict_values ty PySem.F.entry_dict_values (PySem.F.args_dict_values_1 _) (vQ a hd es ep) ⟨yY,?_⟩;have hv:(s.heap.push { cls:=.type "dict_values",data:=.fields #[.ref a] }).IsValuesView s.heap.objs.size a:=⟨_,Zy _ rfl,rfl,rfl⟩;refine⟨.ref s.heap.objs.size,_,I.laid (t':=s.toks) (o:=fz s.heap.objs.size a) (λ_ _ q=>Zj _ q) (Ze _) ⟨hv,⟨_,Zy _ rfl⟩,λh1 h2 w1 hk=>?_⟩,rfl,q _ I.fresh⟩;obtain⟨o,e,c⟩:=w1;exact⟨o,hk o e,c⟩
def li (hc:X.calm=true):bZ X (.builtin "max") (λxs H Q=>∃v a kvs ns,xs=[.ref v]/\H v=some (fz v a)/\Rd H a (.dT kvs)/\kvs.map (·.2)=ns.map V.int/\ns≠[]/\∀m,m∈ns->(∀n∈ns,n<=m)->Q (.int m) H):=by
 intro ae s σ H xs us Q I r h;obtain⟨v,a,kvs,ns,rfl,hv,ha,Oy,bo,q⟩:=h;obtain⟨u,rfl,ru⟩:=vals1 r;cases ru;obtain⟨z,hd,xs,es,ep,cJ,yY,FF⟩:=qE I ha;have Ch:s.heap.IsValuesView v a:=(I.bP v _ hv).1;have hsz:es.size=xs.length:=by have:=congrArg List.length FF;simpa using this
 have VU:=kt_len cJ;have hln:kvs.length=ns.length:=by have:=congrArg List.length Oy;simpa using this
 have dz:0<ns.length:=Xd.mpr bo;have hda:a<s.heap.objs.size:=by obtain⟨o,e,_⟩:=yY;exact Zn e
 have val:∀(i:Nat) (x:Value),(∃h:i<es.size,x=es[i].val)->∃t,x=Value.int ((ns[i]?).getD 0) t:=λi x hx=>by
  obtain⟨hi,rfl⟩:=hx;have KJ:i<xs.length:=by omega
  obtain⟨p,h1,h2,h3,h4⟩:=Cf cJ (Zc KJ);have e1:es[i].val=xs[i].2.2:=by
   have h5:es.toList[i]?=some (entryOfKey (tupleKind (lq X.prog X.w)) xs[i]):=by rw[FF,Zl,Zc KJ];rfl
   rw[Array.getElem?_toList,Array.getElem?_eq_getElem hi] at h5;rw[Option.some.inj h5];rfl
  have e2:=congrArg (λl=>l[i]?) Oy;simp only[Zl,h1,Y5] at e2;cases e3:ns[i]? with
  |none=>rw[e3] at e2;cases e2
  |some n =>
   rw[e3] at e2;simp only[Y5,Option.some.injEq] at e2;rw[e2] at h4;rw[e1];exact h4
 refine call_max_walk (oF Ch yY ?_);refine⟨s.heap.objs.size,[s.heap.objs.size,a],[s.heap.objs.size],es.size,_,_,(λi j=>decide ((ns[i]?).getD 0>(ns[j]?).getD 0)),rfl,Walks.Hn (A:=X.A.in1) (I.ok.hd hc) s.heap.objs.size a (Z9 hda) es ep,
  ⟨⟨_,Zy _ rfl,rfl,rfl⟩,yY.at λo e=>Zj _ e⟩,λb hb=>?_,by omega,CmpOf.ints_gt (λi=>(ns[i]?).getD 0) val,λx h' tk hP kk=>?_⟩
 .rw[Xa];simp only[Zk,Qu,or_false] at hb;rcases hb with rfl |rfl
  .exact Qq _
  .exact Qk hda
 obtain⟨t,rfl⟩:=val _ _ hP;obtain⟨h1,h2⟩:=argBest_gt (λi=>(ns[i]?).getD 0) (es.size-1);generalize argBest (λi j=>decide ((ns[i]?).getD 0>(ns[j]?).getD 0)) (es.size-1)=ab at h1 h2 ⊢;have cg:ab<ns.length:=by omega
 refine⟨.int ((ns[ab]?).getD 0),H,I.kept (t':=tk) λb o e=>kk b o (λz=>?_) (Zj _ e),⟨t,rfl⟩,q _ ?_ λn hn=>?_⟩
 .have:=Zn e;simp at z;rw[z] at this;exact Yi _ this
 .rw[Zc cg];exact Zv cg
 .obtain⟨j,hj,rfl⟩:=Ye hn;have:=h2 j (by omega);rw[Zc hj] at this;exact this
def Inv.IH {ae:Γ2}{σ:St}{H:Hp}{s:Shared}{a:Addr}{kvs:List (List bJ×V)}{o:Obj}(I:Inv X ae σ H s)(ha:H a=some (.dT kvs))(ho:s.heap.get? a=some o):Inv X ae σ (aL H a (.hX o (.dT kvs))) s:=by
 refine I.write (x:=a) (e:=a) (t':=s.toks) (h':=s.heap) (by rw[ha];exact True.intro) (.inl rfl) (λ_ _ _ e=>e) ⟨o,ho⟩ ⟨ho,?_⟩;obtain⟨z,hd,xs,cJ,r⟩:=(show bS X.prog X.w H s.heap a (.dT kvs) from I.bP a _ ha);exact⟨z,hd,xs,KT.keeps cJ λb ys e=>by rw[cS (sC e ha (by intro z;cases z))];exact e,r⟩
def GR (a:Addr)(o:Obj)(kvs:List (List bJ×V)):It :=
 ⟨λi H=>H a=some (.hX o (.dT kvs))/\i<kvs.length,λi H x H'=>H'=H/\∃b k v,kvs[i]?=some (k,v)/\x=.ref b/\H b=some (.tup (k.map kV)),λi H=>H a=some (.hX o (.dT kvs))/\kvs.length<=i⟩
def pG {ae:Γ2}{σ:St}{H:Hp}{s:Shared}{a:Addr}{o:Obj}{uV:Array DictEntry}{ep:Nat}{kvs:List (List bJ×V)}(I:Inv X ae σ H s)(hg:H a=some (.hX o (.dT kvs)))(Ff:o.data=.dict uV ep) :
  ∃xs,KT H kvs xs/\kM s.heap a uV ep/\uV.toList=xs.map (entryOfKey (tupleKind (lq X.prog X.w))):=by
 obtain⟨z,hd,xs,es,QG,cJ,⟨o',uS,hx,GB⟩,FF⟩:=qE I (.inr ⟨o,hg⟩);obtain⟨ho,_⟩:=I.bP a _ hg;have:o'=o:=by rw[ho] at uS;exact(Option.some.inj uS).symm
 subst this;rw[Ff] at GB;injection GB with h1 h2
 subst h1 h2;exact⟨xs,cJ,⟨o',uS,hx,Ff⟩,FF⟩
def vK {P:Program}{w:World}{K:Θ1}{tg:Expr}(a it:Addr)(o:Obj)(kvs:List (List bJ×V))(uV:Array DictEntry)(ep:Nat)(Ff:o.data=.dict uV ep)(hl0:uV.size=kvs.length):Turn P w K tg (GR a o kvs) [it] it (λi h=>h.IsKeyIter it a i uV.size ep) where
 mem:=by simp
 obj:=λi h st b hb=>by
  obtain rfl:b=it:=by simpa using hb
  obtain⟨o',e,c,d⟩:=st;exact⟨o',e,λv z=>by rw[d] at z;cases z⟩
 keep:=λi h h' st k=>st.at λo e=>k it (by simp) o e
 item:=by
  intro X hP hw hK hc i ae s σ H E I hf st hg;subst hP hw hK;obtain⟨hg,hi⟩:=hg;obtain⟨xs,cJ,yY,FF⟩:=pG I hg Ff;obtain⟨f0,f1,f2,f3,f4,f5⟩:=hf it (by simp);have hi0:i<uV.size:=by omega
  refine Hm st yY hi0 λh' rL sb=>?_
  have I1:Inv X ae σ H { s with heap:=h' }:=I.turned (t':=s.toks) (λb o hb e=>(sb.2 b hb).trans e) f0 f1 f3 f4 f5;obtain⟨o1,e1,c1,d1⟩:=id rL;have KJ:i<xs.length:=by rw[<- kt_len cJ];exact hi
  obtain⟨p,h1,h2,h3,h4⟩:=Cf cJ (Zc KJ);have ek:uV[i].key=.ref xs[i].2.1:=by
   have h5:uV.toList[i]?=some (entryOfKey (tupleKind (lq X.prog X.w)) xs[i]):=by rw[FF,Zl,Zc KJ];rfl
   rw[Array.getElem?_toList,Array.getElem?_eq_getElem hi0] at h5;rw[Option.some.inj h5];rfl
  refine⟨uV[i].key,rfl,sK (s:={ s with heap:=h' }) e1 c1 d1 (by decide) ⟨.ref xs[i].2.1,H,I1,ek,⟨rfl,xs[i].2.1,p.1,p.2,h1,rfl,h3⟩,rL,λb hb=>(hf b hb).1⟩⟩
 done:=by
  intro X hP hw hK hc i ae s σ H E I hf st hg;subst hP hw hK;obtain⟨hg,hi⟩:=hg;obtain⟨xs,cJ,yY,FF⟩:=pG I hg Ff;obtain⟨f0,f1,f2,f3,f4,f5⟩:=hf it (by simp);exact ua (I.ok.hd hc) st yY (by omega) λh' eb=>⟨rfl,I.turned (t':=s.toks) (λb o hb e=>eb b o hb e) f0 f1 f3 f4 f5⟩
 self:=λ_ _ _ _ _ st h=>wpAny_pyIter_keyiter st h
def N0 (td:TE):TI:=λσ H R=>td σ H λx H1=>∃a kvs,x=.ref a/\H1 a=some (.dT kvs)/\∀o,R (GR a o kvs) (aL H1 a (.hX o (.dT kvs)))
def D5 {tg l:Expr}{td:TE}(hl:PE X l td):PI X tg l (N0 td):=by
 intro ae s σ H R I h;refine bp (hl ae s σ H _ I h) λv s1 ⟨x,H1,I1,r1,q1⟩=>?_
 obtain⟨a,kvs,e,ha,q⟩:=q1;subst e;cases r1;obtain⟨z,hd,xs,es,ep,cJ,yY,FF⟩:=qE I1 (.inl ha);obtain⟨o,ho,hx,GB⟩:=id yY;refine DU hd yY ?_;have I2:=I1.IH ha ho;have hsz:es.size=kvs.length:=by have:=congrArg List.length FF;rw[kt_len cJ];simpa using this
 refine⟨s1.heap.objs.size,[s1.heap.objs.size],_,GR a o kvs,_,rfl,I2.kept (t':=s1.toks) λb o e=>Zj _ e,vK a _ o kvs es ep GB hsz,⟨_,Zy _ rfl,rfl,rfl⟩,λb hb=>?_,q o⟩;obtain rfl:b=s1.heap.objs.size:=by simpa using hb
 exact I2.gB (Ze _) (I2.bP.fresh (Ze _))
end
section
variable {K:Θ1}{tt:TT}{te tk tv:TE}{acc a b:Addr}{xs ys:List V}{ai:St}{cC:Hp}{Q:VK}{o:Obj}{kvs:List (List bJ×V)}
def wI (Pv:Nat->List V->Hp->Prop)(h0:Pv 0 [] (aL cC acc (.lst [])))(hl:∀(i:Nat) zs H,i<=kvs.length->H acc=some (.lst zs)->Pv i zs H->H a=some (.hX o (.dT kvs)))
  (hs:∀(i:Nat) k v b zs H,kvs[i]?=some (k,v)->H b=some (.tup (k.map kV))->H acc=some (.lst zs)->Pv i zs H->tt (ai.set 0 (some (.ref b))) H λc H4 =>
   if c=true then te (ai.set 0 (some (.ref b))) H4 λy H5=>∃us,H5 acc=some (.lst us)/\us.length<sizeLine/\Cn ai acc (Pv (i+1)) (ai.set 0 (some (.ref b))) (aL H5 acc (.lst (us++[y]))) else Cn ai acc (Pv (i+1)) (ai.set 0 (some (.ref b))) H4)
  (hd:∀zs H,H acc=some (.lst zs)->Pv kvs.length zs H->Q (.ref acc) H):iz (fk 0) tt te (GR a o kvs) acc ai cC Q:=by
 refine⟨λi m σ H=>m=kvs.length-i/\i<=kvs.length/\Cn ai acc (Pv i) σ H,⟨kvs.length,by simp,Z7 _,λ_=>rfl,[],dM,h0⟩,?_⟩;rintro i m σ H ⟨rfl,hi,uR,zs,hy,p⟩;have q:=hl i zs H hi hy p;by_cases cg:i<kvs.length
 .refine .inr ⟨⟨q,cg⟩,Cn ai acc (Pv (i+1)),λaB H' c=>⟨kvs.length-(i+1),by omega,rfl,cg,c⟩,λx H' y=>?_⟩;obtain⟨e,b,k,v,hk,ek,hb⟩:=y;subst e ek;show tt (σ.set 0 _) _ _;rw[uR];exact hs i k v b zs _ hk hb hy p
 .have e:i=kvs.length:=by omega
  subst e;exact .inl ⟨⟨q,Ze _⟩,hd zs H hy p⟩
end
end L2
namespace PySem
section
variable {prog:Program}{w:World}{A:Around}{I:Addr}{fp wr:List Addr}{n:Nat}{P:Nat->Value->Prop}{St:Nat->Heap->Prop}
def rz (W:Walks prog w A.in1 I fp wr n P St)(kf:Nat->Int)(S:Addr)(OF:S∉fp)(J:Heap->Prop)
  (hJ:∀h h',J h->(∀b o,b∉wr->b≠S->h.get? b=some o->h'.get? b=some o)->J h')
  (sr:∀i v (s:Shared) (Q:Θ2) (E:Θ2),P i v->J s.heap->(∀t tk,Q (.int (kf i) t) { s with toks:=tk })->wpAny (model prog w) A.in1 (call (.builtin "len") [v]) Q E s) {R:Result->Shared->Prop} :
  ∀(r j i:Nat) (s:Shared) (vb:Value) (tb:Tok) (c:Nat),n-(j+1)=r->j+1<=n->St (j+1) s.heap->J s.heap->P i vb->i<=j->(∀j',j'<=j->(kf j')<=(kf i)/\(j'<i->(kf j')<(kf i))) ->
   s.heap.get? S=some { cls:=.type "list",data:=.seq #[vb,.int (kf i) tb] c } ->
   (∀i v h' tk,P i v->i<n->(∀j,j<n->(kf j)<=(kf i)/\(j<i->(kf j)<(kf i)))->(∀b o,b∉wr->b≠S->s.heap.get? b=some o->h'.get? b=some o)->R (.ok (.ret v)) { s with heap:=h',toks:=tk }) ->
   codeAny (model prog w) A (.builtin "max.loop" ⟨[.ref I,.builtin "len",.ref S],[]⟩) R s:=by
 have sF:(toString "max" ++ toString ".loop" : String)="max.loop":=by decide
 have UB:S∉wr:=λh=>OF (W.sub _ h)
 intro r;induction r with
 |zero =>
  intro j i s vb tb c hr hj ot hJs VF VW jn hS hR;have Uw:j+1=n:=by omega
  refine codeAny_builtin F.entry_max_loop ?_;rw[Around.under_plainId F.plain_max_loop _];show wpAny _ A.in1 (seqItems? (.ref S) >>= _) _ _ _;refine Za (wpAny_seqItems hS rfl ?_);show wpAny _ A.in1 (tryCatch (pyNext (.ref I)) _ >>= _) _ _ _;refine Za (wpAny_tryCatch (W.done _ _ _ (by rw[<- Uw];exact ot) λh' tk' rE=>?_));have Ji:=rE S _ UB hS;show wpAny _ A.in1 (updateSeq S (λ_=>#[]) >>= _) _ _ _;refine Za (wpAny_updateSeq Ji rfl (Za (wpAny_letGo (wpAny_pure ?_))));exact hR i vb _ _ VF (by omega) (λj' kB=>jn j' (by omega)) λb o hb Fk e=>(Xs _ _ (Ne.symm Fk)).trans (rE b o hb e)
 |succ r ih =>
  intro j i s vb tb c hr hj ot hJs VF VW jn hS hR;have cg:j+1<n:=by omega
  refine codeAny_builtin F.entry_max_loop ?_;rw[Around.under_plainId F.plain_max_loop _];show wpAny _ A.in1 (seqItems? (.ref S) >>= _) _ _ _;refine Za (wpAny_seqItems hS rfl ?_);show wpAny _ A.in1 (tryCatch (pyNext (.ref I)) _ >>= _) _ _ _;refine Za (wpAny_tryCatch (W.item (j+1) _ _ _ cg ot λv h' tk' hP Gw rE=>?_));have Ji:=rE S _ UB hS;have OH:=hJ _ h' hJs λb o hb _ e=>rE b o hb e
  have step:∀(h2:Heap) (OY:Nat) (i2:Nat) (v2:Value) (t2:Tok) (c2:Nat),St (j+1+1) h2->J h2->P i2 v2->i2<=j+1->(∀j',j'<=j+1->(kf j')<=(kf i2)/\(j'<i2->(kf j')<(kf i2))) ->
    h2.get? S=some { cls:=.type "list",data:=.seq #[v2,.int (kf i2) t2] c2 }->(∀b o,b∉wr->b≠S->h'.get? b=some o->h2.get? b=some o) ->
    codeAny (model prog w) A (.builtin "max.loop" ⟨[.ref I,.builtin "len",.ref S],[]⟩) R { s with heap:=h2,toks:=OY }:=λh2 OY i2 v2 t2 c2 a1 a2 a3 a4 a5 a6 a7 =>
   ih (j+1) i2 { s with heap:=h2,toks:=OY } v2 t2 c2 (by omega) cg a1 a2 a3 a4 a5 a6 λi3 v3 h3 U8 b1 b2 b3 b4=>hR i3 v3 h3 U8 b1 b2 b3 λb o hb Fk e=>b4 b o hb Fk (a7 b o hb Fk (rE b o hb e))
  refine Za (wpAny_tryCatch (wpAny_holding (sr (j+1) v _ _ _ hP OH λt2 OY=>?_)));refine Za (wpAny_tryCatch (wpAny_holding (Za (CmpOf.ints_gt (prog:=prog) (w:=w) (A:=A.in1) (P:=λi v=>∃t,v=.int (kf i) t) kf (λi v h=>h) (j+1) i _ _ _ _ _ ⟨t2,rfl⟩ ⟨tb,rfl⟩ ?_))));refine Za (wpAny_holding (wpAny_truthy_bool (Za (wpAny_letGo (wpAny_pure ?_)))));by_cases Bw:(kf i)<(kf (j+1))
  .simp only[gt_iff_lt,Bw,decide_true,if_true];refine Za (wpAny_updateSeq Ji rfl (Za (wpAny_letGo ?_)));rw[sF];refine wpAny_pure ⟨plainId_quiet F.plain_max_loop _,step _ _ (j+1) v t2 _ (W.frame _ _ _ Gw λb Wa o e=>(Xs _ _ (λh:S=b=>OF (by rw[h];exact Wa))).trans e) (hJ _ _ OH λb o _ Fk e=>(Xs _ _ (Ne.symm Fk)).trans e) hP (Ze _) (λj' kB=>?_) (Qi _ Ji rfl) λb o _ Fk e=>(Xs _ _ (Ne.symm Fk)).trans e⟩;by_cases e:j'=j+1
   .subst e;exact⟨by omega,λ_=>by omega⟩
   .have oN:=jn j' (by omega);have oM:=oN.1;exact⟨by omega,λ_=>by omega⟩
  .simp only[gt_iff_lt,Bw,decide_false,Qg,if_false];refine Za (wpAny_letGo ?_);rw[sF];refine wpAny_pure ⟨plainId_quiet F.plain_max_loop _,step _ _ i vb tb c Gw OH VF (by omega) (λj' kB=>?_) Ji λb o _ _ e=>e⟩;by_cases e:j'=j+1
   .subst e;exact⟨by omega,λ_=>by omega⟩
   .exact jn j' (by omega)
def rA {E:Θ2}{s:Shared}{x:Value}{Q:Θ2}
  (h:wpAny (model prog w) A.in1 (pyIter x) (λit cr=>∃(I:Addr) (fp wr:List Addr) (n:Nat) (P:Nat->Value->Prop) (St:Nat->Heap->Prop) (kf:Nat->Int) (J:Heap->Prop),it=.ref I/\Walks prog w A.in1 I fp wr n P St/\St 0 cr.heap/\(∀b∈fp,b<cr.heap.objs.size)/\0<n/\(∀S,cr.heap.get? S=none->∀h h',J h->(∀b o,b∉wr->b≠S->h.get? b=some o->h'.get? b=some o)->J h')/\(∀h',(∀b o,cr.heap.get? b=some o->h'.get? b=some o)->J h') /\
   (∀i v (s:Shared) (Q:Θ2) (E:Θ2),P i v->J s.heap->(∀t tk,Q (.int (kf i) t) { s with toks:=tk })->wpAny (model prog w) A.in1 (call (.builtin "len") [v]) Q E s) /\
   ∀i v h' tk,P i v->i<n->(∀j,j<n->(kf j)<=(kf i)/\(j<i->(kf j)<(kf i)))->(∀b o,b∉wr->cr.heap.get? b=some o->h'.get? b=some o)->Q v { cr with heap:=h',toks:=tk }) E s) :
  wpAny (model prog w) A (call (.builtin "max") [x] [(Str.ofString "key",.builtin "len")]) Q E s:=by
 have sF:(toString "max" ++ toString ".loop" : String)="max.loop":=by decide
 refine PyProof.Rows.kmk_tree F.kind_max F.plain_max F.entry_max (PyProof.Rows.kmk_max_key _ _) ?_;refine Za (wpAny_of_eq (show Builtin.Builtins.bindParams "max" ["key","default"] 0 ⟨[],[(Str.ofString "key",.builtin "len")]⟩=pure [some (.builtin "len"),none] from rfl) (Za (wpAny_pure (Za (wpAny_mono h (λit cr kI=>?_) λ_ _ e=>e)))));obtain⟨I,fp,wr,n,P,St,kf,J,rfl,W,ot,Bu,hn,hJ,hJ0,sr,hQ⟩:=kI;refine Za (wpAny_newObj_type ?_);have OF:cr.heap.objs.size∉fp:=λhm=>Yi _ (Bu _ hm)
 have UB:cr.heap.objs.size∉wr:=λh=>OF (W.sub _ h)
 have QA:cr.heap.get? cr.heap.objs.size=none:=by
  cases e:cr.heap.get? cr.heap.objs.size with
  |none=>rfl
  |some o=>exact absurd (Zn e) (Yi _)
 rw[sF];refine wpAny_pure ⟨plainId_quiet F.plain_max_loop _,codeAny_builtin F.entry_max_loop ?_⟩;have gS:(cr.heap.push { cls:=.type "list",data:=.seq #[] }).get? cr.heap.objs.size=some { cls:=.type "list",data:=.seq #[] }:=Zy _ rfl;have old:∀b o,cr.heap.get? b=some o->b≠cr.heap.objs.size:=λb o e=>Z9 (Zn e)
 rw[Around.under_plainId F.plain_max_loop _];show wpAny _ A.in1 (seqItems? (.ref _) >>= _) _ _ _;refine Za (wpAny_seqItems gS rfl ?_);refine Za (wpAny_tryCatch (W.item 0 _ _ _ hn (W.frame _ _ _ ot λb _ o e=>Zj _ e) λv h' tk' hP Gw rE=>?_));have Ji:=rE _ _ UB gS;have OH:J h':=hJ _ QA _ h' (hJ0 _ λb o e=>Zj _ e) λb o hb _ e=>rE b o hb e
 refine Za (wpAny_tryCatch (wpAny_holding (sr 0 v _ _ _ hP OH λt2 OY=>?_)));refine Za (wpAny_updateSeq Ji rfl ?_);rw[sF];refine wpAny_pure ⟨plainId_quiet F.plain_max_loop _,rz W kf _ OF J (hJ _ QA) sr _ 0 0 _ v t2 _ rfl hn (W.frame _ _ _ Gw λb Wa o e=>(Xs _ _ (λh:cr.heap.objs.size=b=>OF (by rw[h];exact Wa))).trans e) (hJ _ QA _ _ OH λb o _ Fk e=>(Xs _ _ (Ne.symm Fk)).trans e) hP (Ze _) (λj' kB=>?_) (Qi _ Ji rfl) λi3 v3 h3 U8 b1 b2 b3 b4=>?_⟩
 .obtain rfl:j'=0:=by omega
  exact⟨by omega,λh=>absurd h (by omega)⟩
 .exact hQ i3 v3 h3 U8 b1 b2 b3 λb o hb e=>b4 b o hb (old b o e) ((Xs _ _ (Ne.symm (old b o e))).trans (rE b o hb (Zj _ e)))
end
end PySem
namespace L2
open PySem PySem.Spec PyProof.Rows
def nt (g:TG)(tt:TT)(tk tv:TE)(J:It)(acc:Addr)(ai:St)(cC:Hp)(Q:VK):Prop :=
 ∃W:Nat->Nat->St->Hp->Prop,(∃m,W 0 m ai (aL cC acc (.dT [])))/\∀i m aB H',W i m aB H' ->
  (J.stop i H'/\Q (.ref acc) H') \/
  (J.go i H'/\∃N:St->Hp->Prop,(∀cv H2,N cv H2->∃m',m'<m/\W (i+1) m' cv H2)/\∀x H2,J.uA i H' x H2->g x aB H2 λgQ H3=>tt gQ H3 λb H4 =>
   if b=true then tk gQ H4 λkx H5=>tv gQ H5 λy H6=>∃kvs k b,H6 acc=some (.dT kvs)/\kx=.ref b/\H6 b=some (.tup (k.map kV))/\kvs.length<sizeLine/\N gQ (aL H6 acc (.dT (dw kvs k y))) else N gQ H4)
def G3 (wi:TI)(g:TG)(tt:TT)(tk tv:TE)(own:Nat)(ix:List Nat):TE:=λσ H Q=>wi σ H λJ H1=>∀acc,H1 acc=none->nt g tt tk tv J acc (dQ own ix σ) H1 Q
def wG {X:Cx}{ae:Γ2}{σ:St}{H:Hp}{s:Shared}{a b:Addr}{v:V}{r:Value}{A:Around}{E:Θ2}{kvs:List (List bJ×V)}{k:List bJ}{Q:Unit->Shared->Prop}(hu:(tupleKind (lq X.prog X.w)).room A)(I:Inv X ae σ H s)
  (e:H a=some (.dT kvs)) (eb:H b=some (.tup (k.map kV))) (rv:RelV v r) (l:kvs.length<sizeLine) (h:∀s',Inv X ae σ (aL H a (.dT (dw kvs k v))) s'->Q () s'):wpAny (model X.prog X.w) A (dictSet a (.ref b) r) Q E s:=by
 obtain⟨z,hd,xs,cJ,dd⟩:=Ke I.bP e;have hz:xs.length<=sizeLine:=by rw[<- Paired.length cJ];exact z
 have hl:(dw kvs k v).length<=sizeLine:=by have:=fv kvs k v;omega
 refine wpAny_dictSet_heap (hsz:=hz) hu (ng I.bP eb) dd λh' FJ hs=>h _ ?_
 obtain⟨q,es,ep,hq,h2,h3,h4,_,h5⟩:=FJ;refine l7 I (by rw[e];exact True.intro) hs ⟨q,hq⟩ ⟨hl,hd,_,(cJ.put k eb rv).keeps λc ys ec=>?_,q,es,ep,hq,h2,h3,h4,h5⟩;rw[cS (sC ec e (λz=>nomatch z))];exact ec
section
variable {X:Cx}{scope:Scope}{own cap:Δ2}{ix:List Nat}{tg iter kx vx:Expr}{du:Ξ2}{wi:TI}{g:TG}{tt:TT}{tk tv:TE}{pos:Pos}
def uu {ae:Γ2}{σ:St}{H2:Hp}{s2:Shared}{it:Addr}{fp:List Addr}{tn:Nat->Heap->Prop}{J:It}{Q:VK}{RR:Value->Addr->Result->Shared->Prop}{E:Θ2}
  (hu:(tupleKind (lq X.prog X.w)).room X.A) (B:aJ X scope own cap ix) (hc:X.calm=true)
  (hb:∀C fp s H,PG (cN X scope C (own++cap) fp s H) tg g/\dX (cN X scope C (own++cap) fp s H) du tt/\PE (cN X scope C (own++cap) fp s H) kx tk/\PE (cN X scope C (own++cap) fp s H) vx tv)
  (I2:Inv X ae σ H2 s2) (T:Turn X.prog X.w X.K tg J fp it tn) (eO:tn 0 s2.heap) (f2:∀b∈fp,dh X ae H2 b)
  (q:∀acc,H2 acc=none->nt g tt tk tv J acc (dQ own.length ix σ) H2 Q)
  (KS:∀D C H' s' m,Inv X ae σ H' s'->Q (.ref D) H'->s'.heap.Ns C m->dh X ae H' C->RR (.ref D) C (.ok .next) s') :
  wpAny (model X.prog X.w) X.A newDict (λacc dv=>wpAny (model X.prog X.w) X.A (newFunctionEnv scope X.env.globals (dU X.env scope.names []) [] X.env.qual none .none (some X.env)) (λmF gx =>
   codeAny (model X.prog X.w) X.A (.compStart (.DictComp kx vx [⟨tg,iter,du,0⟩] scope pos) 0 (.ref it) acc { mF with scope:=relabel scope X.env }) (RR acc mF.locals) gx) E dv) E s2:=by
 refine wpAny_newObj_type (fu ?_);have I3:Inv X ae σ (aL H2 s2.heap.objs.size (.dT [])) { s2 with heap:=s2.heap.push { cls:=.type "dict",dict:=none,data:=.dict #[] } } :=
  I2.laid (a:=s2.heap.objs.size) (o:=.dT []) (h':=s2.heap.push { cls:=.type "dict",data:=.dict #[] }) (t':=s2.toks) (λ_ _ q=>Zj _ q) (Ze _) (EI s2.heap I2.big)
 obtain⟨W,⟨m0,w0⟩,eS⟩:=q s2.heap.objs.size I2.fresh;generalize hD:s2.heap.objs.size=D at I3 w0 eS ⊢;have cg:∀b∈fp,b<D:=λb bu=>by
  obtain⟨o,e,_⟩:=T.obj 0 _ eO b bu;rw[<- hD];exact Zn e
 generalize Kz:({ s2 with heap:=s2.heap.push { cls:=.type "dict",dict:=none,data:=.dict #[] } }:Shared)=s3 at I3 ⊢;have ir:∀b o,s2.heap.get? b=some o->s3.heap.get? b=some o:=λb o e=>by rw[<- Kz];exact Zj _ e
 have f3:∀b∈fp,dh X ae (aL H2 D (.dT [])) b:=λb bu=>⟨by rw[cS (Z9 (cg b bu))];exact(f2 b bu).1,(f2 b bu).2⟩
 have o3:∀b∈fp,∃o,s3.heap.get? b=some o:=λb bu=>let ⟨o,e,_⟩:=T.obj 0 _ eO b bu;⟨o,ir b o e⟩
 have I4:=I3.block B f3 o3;have lJ:tn 0 (pushCells (s3.heap.push { cls:=.type "dict",data:=.dict #[] }) scope.names):=T.keep 0 _ _ eO λb _ o e=>pushCells_keeps _ _ b o (Zj _ (ir b o e))
 obtain⟨hg,Bt,P4,P2⟩:=hb s3.heap.objs.size fp s3 (aL H2 D (.dT []));generalize gw:cN X scope s3.heap.objs.size (own++cap) fp s3 (aL H2 D (.dT []))=X' at I4 hg Bt P4 P2;have eP:X'.prog=X.prog:=by rw[<- gw];rfl
 have eW:X'.w=X.w:=by rw[<- gw];rfl
 have eK:X'.K=X.K:=by rw[<- gw];rfl
 have eA:X'.A=X.A:=by rw[<- gw];rfl
 have eE:X'.env=gX scope s3.heap.objs.size X.env:=by rw[<- gw];rfl
 have ex:X'.xe=λ_ _=>False:=by rw[<- gw];rfl
 have ja:X'.calm=true:=by rw[<- gw];exact hc
 have gy:∀{H':Hp},(∀b∈fp,H' b=none)->∀b∈fp,dh X' [] H' b:=λhn b bu=>by
  subst gw;exact⟨hn b bu,(I4.ok.Fl b bu).1,I4.ok.ss b bu,.inl bu,(I4.ok.Fl b bu).2,λp hp=>absurd (show p∈([]:Γ2) from hp) (by simp)⟩
 have loop:∀s4:Shared,s4={ s3 with heap:=pushCells (s3.heap.push { cls:=.type "dict",data:=.dict #[] }) scope.names } ->
   codeAny (model X.prog X.w) X.A (.compLoop (.DictComp kx vx [⟨tg,iter,du,0⟩] scope pos) 0 (.ref it) (.ref D) (gX scope s3.heap.objs.size X.env)) (RR (.ref D) s3.heap.objs.size) s4:=by
  rintro s4 rfl;refine nX (λn s'=>∃i aB H',Inv X' [] aB H' s'/\tn i s'.heap/\(∀b∈fp,H' b=none)/\W i n aB H') ?_ m0 ⟨0,_,_,I4,lJ,λb bu=>(f3 b bu).1,w0⟩;rintro n s5 ⟨i,kD,H5,I5,kE,zd,w5⟩;rcases eS i n kD H5 w5 with ⟨stop,qn⟩ |⟨go,N,hN,step⟩
  .have:=T.done X' eP eW eK ja i [] s5 kD H5 (λ_ _=>False) I5 (gy zd) kE stop;rw[eA] at this;refine bp this λr s6 ⟨hr,I6⟩=>?_
   subst hr;subst gw;have J6:Inv X ae σ H5 s6:=I3.xF (ch:=fp) I6.os I6.base I6.bP I6.bare λb bu=>⟨(f3 b bu).2.2.2.1,(f3 b bu).2.1,(f3 b bu).2.2.2.2.1,(f3 b bu).2.2.2.2.2⟩
   obtain⟨m,hn,_⟩:=I6.loc;exact KS D _ H5 s6 m J6 qn hn (I3.gB (Ze _) I6.free)
  .have:=T.item X' eP eW eK ja i [] s5 kD H5 (λ_ _=>False) I5 (gy zd) kE go;rw[eA] at this;refine bp this λr s6 ⟨u,hr,h6⟩=>?_
   subst hr;refine bp h6 λ_ s7 ⟨x,H7,I7,r7,y7,uJ,KY⟩=>?_
   have K6:=I7.pinned (gy KY) (T.obj _ _ uJ);have a1:=hg _ s7 kD H7 x u _ K6 r7 (step x H7 y7);rw[eP,eW,eA,eE,ex] at a1;refine bp a1 λ_ s8 ⟨uI,H8,I8,q8⟩=>?_
   have a2:=Bt _ s8 uI H8 _ I8 q8;rw[eP,eW,eA,eE,ex] at a2;refine bp a2 λb s9 ⟨H9,I9,q9⟩=>?_
   have again:∀{s':Shared}{aB:St}{H':Hp},Inv X' ([]++dY fp s7.heap) aB H' s'->N aB H'->∃m,m<n/\∃i aB H',Inv X' [] aB H' s'/\tn i s'.heap/\(∀b∈fp,H' b=none)/\W i m aB H':=λ{s' aB H'} I' n'=>by
    obtain⟨m',hm,w'⟩:=hN aB H' n';refine⟨m',hm,i+1,aB,H',I'.cX,T.keep _ _ _ uJ λb bu o e=>(I'.pin (b,o) (Zt _ (Zt _ (A9 bu e)))).1,λb bu=>?_,w'⟩;obtain⟨o,e,d⟩:=T.obj _ _ uJ b bu;exact(I'.pin (b,o) (Zt _ (Zt _ (A9 bu e)))).2.1
   cases b with
   |false=>exact again I9 q9
   |true =>
    rw[if_pos rfl] at q9 ⊢;have a3:=P4 _ s9 uI H9 _ I9 q9;rw[eP,eW,eA,eE,ex] at a3;refine bp a3 λkv Oh ⟨yk,OQ,QS,IX,Pk⟩=>?_
    have a4:=P2 _ Oh uI OQ _ QS Pk;rw[eP,eW,eA,eE,ex] at a4;refine bp a4 λvv O0 ⟨yv,UO,K7,Oi,kvs,k,b,hk,ek,V',hz,Pj⟩=>?_
    subst ek;cases (show kv=Value.ref b from IX);have a5:=wG (E:=λ_ _=>False) (A:=X.A) (Q:=λ_ s'=>∃m,m<n/\∃i aB H',Inv X' [] aB H' s'/\tn i s'.heap/\(∀b∈fp,H' b=none)/\W i m aB H') (by rw[eP,eW];exact hu) K7 hk V' Oi hz λs' I'=>again I' Pj
    rw[eP,eW] at a5;exact a5
 exact codeAny_compStart_dict (loop _ rfl) (T.self X.A 0 _ _ _ lJ (loop _ rfl))
def Ab (hu:(tupleKind (lq X.prog X.w)).room X.A)(B:aJ X scope own cap ix)(hc:X.calm=true)(hi:PI X tg iter wi)
  (hb:∀C fp s H,PG (cN X scope C (own++cap) fp s H) tg g/\dX (cN X scope C (own++cap) fp s H) du tt/\PE (cN X scope C (own++cap) fp s H) kx tk/\PE (cN X scope C (own++cap) fp s H) vx tv)
  (hs:∀x,foldedSetIterable iter X.env x=pure x:=by intro _;rfl):PE X (.DictComp kx vx [⟨tg,iter,du,0⟩] scope pos) (G3 wi g tt tk tv own.length ix):=by
 intro ae s σ H Q I h;rw[arm_eval_DictComp];have has:∀x∈scope.names,x.2=.free->(X.env.cells.lookup x.1).isSome=true:=λx hx hk=>by
  obtain⟨c,e⟩:=I.ok.has x.1 (B.frees x hx hk);rw[e];rfl
 refine wpAny_comprehension_free (use:=none) rfl hs (Ot has) B.kind B.names ?_;show wpAny _ _ (eval iter X.env) _ _ s;refine bp (hi ae s σ H _ I h) λv s1 h1=>bp h1 λFw s2 h2=>?_
 obtain⟨it,fp,tn,J,H2,e,I2,T,eO,f2,q⟩:=h2;subst e;refine uu (RR:=λacc C=>compPost (model X.prog X.w) X.A X.xe none (EP X ae σ Q) acc C) hu B hc hb I2 T eO f2 q ?_;intro D C H' s' m I' q' hn fC;refine⟨m,hn,λh' rR=>⟨.ref D,H',?_,rfl,q'⟩⟩;exact I'.turned (t':=s'.toks) (it:=C) (λb o Bv e=>(rR.2 b Bv).trans e) fC.1 fC.2.1 fC.2.2.2.1 fC.2.2.2.2.1 fC.2.2.2.2.2
end
section
variable {X:Cx}
def TsK (K:Θ1)(H:Hp)(ys:List V)(ks:List (List V)):Prop:=ys.length=ks.length/\∀(j:Nat) x,ys[j]?=some x->∃b,x=.ref b/\aM K H b (ks.getD j [])
def Hq (K:Θ1):List V->Hp->VK->Prop:=λxs H Q=>∃(p:Addr) (ys:List V) (ks:List (List V)),xs=[.ref p]/\bD K H p ys/\ks≠[]/\TsK K H ys ks /\
 ∀(i:Nat) (b:Addr),ys[i]?=some (.ref b)->i<ks.length->(∀j,j<ks.length->(ks.getD j []).length<=(ks.getD i []).length/\(j<i->(ks.getD j []).length<(ks.getD i []).length))->Q (.ref b) H
def Aa (K:Θ1){e:Expr}{t:TA}{p p2 p3 pos:Pos}(hc:X.calm=true)(hg:Gl X "max")(hm:X.mg "max"=none)(P0:Gl X "len")(OA:X.mg "len"=none)(ha:PA X [e] t)(hK:X.K=K:=by rfl)
  (he:backTo pos (starEach [e] X.env)=[(false,eval e X.env)]:=by rfl):PE X (.Call (.Name "max" p) [e] [⟨some "key",.Name "len" p2,p3⟩] pos) (Vj (Hq K) t):=by
 subst hK;intro ae s σ H Q I h;refine wpAny_Call_Name_kw (fH I hg hm boot_max ?_);refine PyProof.Rows.callWith_kw (bp (ha pos ae s σ H _ I h) λus s1 ⟨vs,H1,I1,r1,q1⟩=>?_) (by rw[he];rfl) (by rw[he];rfl);refine PyProof.Rows.kws_cons (fH I1 P0 OA Xk (PyProof.Rows.kws_nil ?_));obtain⟨pl,ys,ks,rfl,hl,bo,⟨cy,hts⟩,q⟩:=q1;obtain⟨u,rfl,ru⟩:=vals1 r1;cases ru;show wpAny _ _ (call (.builtin "max") [.ref pl] [(Str.ofString "key",.builtin "len")]) _ _ _;refine rA (gf I1 (I1.ok.hd hc) (.inl hl) λit fp wr its St s2 rv W EU Bu R1=>?_);have PV:=rv.length;have OC:its.length=ks.length:=by omega
 have hn:0<ks.length:=Xd.mpr bo;refine⟨it,fp,wr,its.length,_,St,(λi=>((ks.getD i []).length:Int)),(λh=>∀b o,b∉wr->s2.heap.get? b=some o->h.get? b=some o),rfl,W,EU,Bu,by omega,?_,?_,?_,?_⟩
 .intro S hS h h' J k b o hb e;exact k b o hb (λz=>by rw[z,hS] at e;cases e) (J b o hb e)
 .intro h' k b o _ e;exact k b o e
 .intro i v s3 Q3 E3 hP J hQ;have I3:=R1 s3.heap s3.toks J;obtain⟨x,hx,rx⟩:=aY.at rv hP;obtain⟨b,rfl,hb⟩:=hts i x hx;cases rx;obtain⟨ZS,r3,pl3,VD⟩:=I3.tuple hb;have e3:((ZS.toArray.size:Nat):Int)=((ks.getD i []).length:Int):=by rw[Z1,r3.length]
  have hn3:=jF;have hl3:=r3.length;refine len_tuple (s:=s3) pl3 (by simp only[Z1]<;>omega) ?_;rw[e3];exact hQ _ _
 .intro i v h' tk hP hi jn hk;obtain⟨x,hx,rx⟩:=aY.at rv hP;obtain⟨b,rfl,hb⟩:=hts i x hx;cases rx;exact⟨.ref b,H1,R1 h' tk hk,rfl,q i b hx (by omega) λj hj=>by
   have oN:=jn j (by omega);exact⟨Int.ofNat_le.mp oN.1,λz=>Int.ofNat_lt.mp (oN.2 z)⟩⟩
end
end L2
namespace L2
open PySem PySem.Spec PyProof.Rows KG
section
variable {K:Θ1}{tt:TT}{tk tv:TE}{a acc:Addr}{xs:List V}{ai:St}{cC:Hp}{Q:VK}
def K9 (ai:St)(acc:Addr)(P:List (List bJ×V)->Hp->Prop)(σ:St)(H:Hp):Prop:=(∀u,σ.set 0 u=ai.set 0 u)/\∃ys,H acc=some (.dT ys)/\P ys H
def K9.of {P:List (List bJ×V)->Hp->Prop}{u:Option V}{H:Hp}{ys:List (List bJ×V)}(h:H acc=some (.dT ys))(p:P ys H):K9 ai acc P (ai.set 0 u) H:=⟨λv=>by cases ai<;>rfl,ys,h,p⟩
def ut (Pv:Nat->List (List bJ×V)->Hp->Prop)(h0:Pv 0 [] (aL cC acc (.dT [])))(hl:∀(i:Nat) zs H,i<=xs.length->H acc=some (.dT zs)->Pv i zs H->bD K H a xs)
  (hs:∀(i:Nat) x zs H,xs[i]?=some x->H acc=some (.dT zs)->Pv i zs H->tt (ai.set 0 (some x)) H λb H4 =>
   if b=true then tk (ai.set 0 (some x)) H4 λkx H5=>tv (ai.set 0 (some x)) H5 λy H6=>∃us k b,H6 acc=some (.dT us)/\kx=.ref b/\H6 b=some (.tup (k.map kV))/\us.length<sizeLine/\K9 ai acc (Pv (i+1)) (ai.set 0 (some x)) (aL H6 acc (.dT (dw us k y)))
   else K9 ai acc (Pv (i+1)) (ai.set 0 (some x)) H4)
  (hd:∀zs H,H acc=some (.dT zs)->Pv xs.length zs H->Q (.ref acc) H):nt (fk 0) tt tk tv (zk K a) acc ai cC Q:=by
 refine⟨λi m σ H=>m=xs.length-i/\i<=xs.length/\K9 ai acc (Pv i) σ H,⟨xs.length,by simp,Z7 _,λ_=>rfl,[],dM,h0⟩,?_⟩;rintro i m σ H ⟨rfl,hi,uR,ys,hy,p⟩;have q:=hl i ys H hi hy p;by_cases cg:i<xs.length
 .refine .inr ⟨⟨xs,xs[i],q,by simp[cg]⟩,K9 ai acc (Pv (i+1)),λaB H' c=>⟨xs.length-(i+1),by omega,rfl,cg,c⟩,λx H' y=>?_⟩;obtain⟨e,y⟩:=y;subst e;show tt (σ.set 0 _) _ _;rw[uR];exact hs i x ys _ (y xs q) hy p
 .have e:i=xs.length:=by omega
  subst e;exact .inl ⟨⟨xs,q,Ze _⟩,hd ys H hy p⟩
end
end L2
namespace KM
open PySem L2 KG EX
def ka (ns:Γ3)(mw:Nat):eh ns mw=((List.range ns.length).filter λk=>Nat.testBit mw k).map λk=>ns.getD k 0:=by
 unfold eh
 congr 1
 refine Y2 λk _=>?_
 rw[Nat.testBit_eq_decide_div_mod_eq]
def D3 {ns:Γ3}{m:Int}{k:Nat}(h:k<2 ^ ns.length):eh (ns++[m]) k=eh ns k:=by
 rw[ka,ka,Zu,Qp,Y6,Xm];have e:[ns.length].filter (λj=>Nat.testBit k j)=[]:=by simp[List.filter,Nat.testBit_lt_two_pow h]
 rw[e,Yg];refine Yy λj hj=>?_
 have kB:j<ns.length:=by simpa using(Zo.mp hj).1
 simp[List.getD,Zp kB]
def D4 {ns:Γ3}{m:Int}{k:Nat}(h:k<2 ^ ns.length):eh (ns++[m]) (2 ^ ns.length+k)=eh ns k++[m]:=by
 rw[ka,ka,Zu,Qp,Y6,Xm,Zs];have e:[ns.length].filter (λj=>Nat.testBit (2 ^ ns.length+k) j)=[ns.length]:=by
  simp[List.filter,Nat.testBit_two_pow_add_eq,Nat.testBit_lt_two_pow h]
 rw[e];have e2:(List.range ns.length).filter (λj=>Nat.testBit (2 ^ ns.length+k) j)=(List.range ns.length).filter (λj=>Nat.testBit k j):=by
  refine Y2 λj hj=>?_
  exact Nat.testBit_two_pow_add_gt (by simpa using hj) k
 rw[e2]
 congr 1
 .refine Yy λj hj=>?_
  have kB:j<ns.length:=by simpa using(Zo.mp hj).1
  simp[List.getD,Zp kB]
 .simp[List.getD]
def jH (ns:Γ3)(m:Int):aO (ns++[m])=aO ns++(aO ns).map λs=>s++[m]:=by
 unfold aO;rw[Zu,Qp,Nat.pow_succ,Nat.mul_two,List.range_add,Zs,Zm,Zm]
 congr 1
 .exact Yy λk hk=>D3 (by simpa using hk)
 .exact Yy λk hk=>D4 (by simpa using hk)
def Om (ns:Γ3):(aO ns).length=2 ^ ns.length:=by unfold aO;rw[Zb,Y3]
def cK {ns S:Γ3}:S∈aO ns↔S.Sublist ns:=by
 constructor
 .exact zO
 .intro h
  revert S
  suffices H:∀(ms S:Γ3),S.Sublist ms.reverse->S∈aO ms.reverse by
   intro S h;have:=H ns.reverse S;rw[List.reverse_reverse] at this;exact this h
  intro ms;induction ms with
  |nil=>intro S h;rw[List.reverse_nil] at h ⊢;rw[List.sublist_nil.mp h];exact Z2.mpr rfl
  |cons m ms ih =>
   intro S h;rw[List.reverse_cons] at h ⊢;rw[jH];obtain⟨a,b,rfl,ha,hb⟩:=List.sublist_append_iff.mp h;rcases List.sublist_cons_iff.mp hb with hb |⟨r,rfl,hr⟩
   .rw[List.sublist_nil.mp hb,Yg];exact Xb _ (ih a ha)
   .rw[List.sublist_nil.mp hr];exact Zt _ (Zd.mpr ⟨a,ih a ha,rfl⟩)
def iK {ns:Γ3}(h:ns.Nodup):(aO ns).Nodup:=by
 suffices H:∀ms:Γ3,ms.reverse.Nodup->(aO ms.reverse).Nodup by
  have:=H ns.reverse;rw[List.reverse_reverse] at this;exact this h
 intro ms;induction ms with
 |nil=>intro _;rw[List.reverse_nil];exact Yd.mpr ⟨by simp,X3⟩
 |cons m ms ih =>
  intro hn;rw[List.reverse_cons] at hn ⊢;have KH:=X4.mp hn;rw[jH];refine X4.mpr ⟨ih KH.1,(ih KH.1).map _ λa b Jh z=>Jh (List.append_cancel_right z),λa ha b hb z=>?_⟩;obtain⟨s,hs,rfl⟩:=Zd.mp hb;have h1:=(cK.mp ha).subset (by rw[z];simp:m∈a);exact(KH.2.2 m h1 m (by simp)) rfl
def wsum (L:List Nat)(w:Nat->Rat)(p:Nat->Bool):Rat:=aH ((L.filter p).map w)
def Bn (q:Rat)(qs:Δ1):aH (q::qs)=q+aH qs:=by
 have key:∀(l:Δ1) (z:Rat),l.foldl (λs q=>s+q) z=z+aH l:=by
  intro l;induction l with
  |nil=>intro z;unfold aH;simp[Xx]
  |cons i l ih=>intro z;unfold aH;rw[Y9,Y9,ih,ih,Yt,Rat.add_assoc]
 conv=>lhs;unfold aH
 rw[Y9,key,Yt]
def Bo (x:Nat)(L:List Nat)(w:Nat->Rat)(p:Nat->Bool):wsum (x::L) w p=(if p x=true then w x else 0)+wsum L w p:=by
 unfold wsum;cases h:p x with
 |true=>rw[Qh h,Zi,Bn,if_pos rfl]
 |false=>rw[X5 (by rw[h];decide),if_neg (by decide),Yt]
def sP (L:List Nat)(w:Nat->Rat)(p q:Nat->Bool):wsum L w (λx=>p x&&q x)+wsum L w (λx=>p x||q x)=wsum L w p+wsum L w q:=by
 induction L with
 |nil=>rfl
 |cons x L ih =>
  rw[Bo,Bo,Bo,Bo];cases p x<;>cases q x<;>simp<;>grind
def qF {L:List Nat}{w:Nat->Rat}(hw:∀x∈L,0<=w x){p q:Nat->Bool}(h:∀x∈L,p x=true->q x=true):wsum L w p<=wsum L w q:=by
 induction L with
 |nil=>exact Yk
 |cons x L ih =>
  have Kx:=ih (λy hy=>hw y (Zh _ hy)) (λy hy=>h y (Zh _ hy));have h0:=hw x Zg;have h1:=h x Zg;rw[Bo,Bo];cases hp:p x with
  |false =>
   cases hq:q x with
   |false=>rw[if_neg (by decide),Yt,Yt];exact Kx
   |true =>
    rw[if_neg (by decide),if_pos rfl,Yt];exact Yv Kx (by have:=Qy (c:=wsum L w q) |>.mpr h0;rwa [Yt] at this)
  |true =>
   rw[h1 hp,if_pos rfl];exact Qx.mpr Kx
def KZ (U:List Nat)(w:Nat->Rat)(L:List Nat)(v:Nat->Rat)(cJ:Nat->Nat->Bool)(S:List Nat):Rat:=wsum U w (λx=>S.contains x)-wsum L v (λi=>S.any λg=>cJ i g)
def gN {L:List Nat}{w:Nat->Rat}{p q:Nat->Bool}(h:∀x∈L,p x=q x):wsum L w p=wsum L w q:=by
 unfold wsum;rw[Y2 h]
def AJ {U L:List Nat}{w v:Nat->Rat}{cJ:Nat->Nat->Bool}(hv:∀x∈L,0<=v x){S T I J:List Nat}(hI:∀x,x∈I↔x∈S/\x∈T)(hJ:∀x,x∈J↔x∈S\/x∈T) :
  KZ U w L v cJ S+KZ U w L v cJ T<=KZ U w L v cJ I+KZ U w L v cJ J:=by
 unfold KZ;have a1:wsum U w (λx=>I.contains x)=wsum U w (λx=>S.contains x&&T.contains x):=gN λx _=>by rw[Yc];simp[hI]
 have a2:wsum U w (λx=>J.contains x)=wsum U w (λx=>S.contains x||T.contains x):=gN λx _=>by rw[Yc];simp[hJ]
 have a3:=sP U w (λx=>S.contains x) (λx=>T.contains x);have b1:wsum L v (λi=>I.any λg=>cJ i g)<=wsum L v (λi=>(S.any λg=>cJ i g)&&(T.any λg=>cJ i g)):=qF hv λx _ h=>by
  obtain⟨g,hg,hr⟩:=Zw.mp h;have:=(hI g).mp hg;rw[Z8];exact⟨Zw.mpr ⟨g,this.1,hr⟩,Zw.mpr ⟨g,this.2,hr⟩⟩
 have b2:wsum L v (λi=>J.any λg=>cJ i g)=wsum L v (λi=>(S.any λg=>cJ i g)||(T.any λg=>cJ i g)):=gN λx _=>by
  rw[Yc,Bool.or_eq_true,Zw,Zw,Zw];constructor
  .rintro⟨g,hg,hr⟩;rcases(hJ g).mp hg with h |h
   .exact .inl ⟨g,h,hr⟩
   .exact .inr ⟨g,h,hr⟩
  .rintro(⟨g,hg,hr⟩ |⟨g,hg,hr⟩)
   .exact⟨g,(hJ g).mpr (.inl hg),hr⟩
   .exact⟨g,(hJ g).mpr (.inr hg),hr⟩
 have b3:=sP L v (λi=>S.any λg=>cJ i g) (λi=>T.any λg=>cJ i g);rw[a1,a2,b2];generalize wsum L v (λi=>I.any λg=>cJ i g)=z at b1
 grind
theorem sub_eq {α : Type}[BEq α][LawfulBEq α]:∀{S U:List α},S.Sublist U->U.Nodup->U.filter (λx=>S.contains x)=S
 |_,_,.slnil,_=>rfl
 |_,_,.cons a h,nd=>by
  have A4:=Yd.mp nd;rw[X5 (by rw[Yz];exact λz=>A4.1 (h.subset z))];exact sub_eq h A4.2
 |_,_,.cons₂ (l₁:=S) (l₂:=U) a h,nd=>by
  have A4:=Yd.mp nd;rw[Qh (by rw[Yz];exact Zg)]
  congr 1
  rw[<- sub_eq h A4.2];refine Y2 λx hx=>?_
  rw[sub_eq h A4.2,Yc,Yz,Yz,Zk];constructor
  .rintro(rfl |z)
   .exact absurd hx A4.1
   .exact z
  .exact .inr
def Kl (U:Γ3)(f:Γ3->Rat):Prop:=∀S T:Γ3,S.Sublist U->T.Sublist U->f S+f T<=f (S.filter λx=>T.contains x)+f (U.filter λx=>S.contains x||T.contains x)
def Er {U:Γ3}{f:Γ3->Rat}(nd:U.Nodup)(sup:Kl U f){R:Γ3}(hR:R.Sublist U)(hM:∀S:Γ3,S.Sublist U->f S<=f R)(dD:∀S:Γ3,S.Sublist U->f S=f R->S.length<=R.length){T:Γ3}(hT:T.Sublist U)(fT:f T=f R):∀x∈T,x∈R:=by
 have h1:=sup R T hR hT;have sI:(R.filter λx=>T.contains x).Sublist R:=Yp;have sJ:(U.filter λx=>R.contains x||T.contains x).Sublist U:=Yp;have h2:=hM _ sJ;have h3:=hM _ (sI.trans hR);have e:f (U.filter λx=>R.contains x||T.contains x)=f R:=by
  rw[fT] at h1;generalize f (U.filter λx=>R.contains x||T.contains x)=z at h1 h2 ⊢;generalize f (R.filter λx=>T.contains x)=y at h1 h3
  grind
 have h4:=dD _ sJ e;have h5:R.Sublist (U.filter λx=>R.contains x||T.contains x):=by
  have h6:U.filter (λx=>R.contains x)=R:=sub_eq hR nd;have h7:(U.filter λx=>R.contains x||T.contains x).filter (λx=>R.contains x)=R:=by
   rw[Qv];refine Eq.trans (Y2 λx _=>?_) h6;cases R.contains x<;>simp
  have h8:((U.filter λx=>R.contains x||T.contains x).filter (λx=>R.contains x)).Sublist (U.filter λx=>R.contains x||T.contains x):=Yp;rw[h7] at h8;exact h8
 have h9:=h5.eq_of_length_le h4;intro x hx;rw[h9,Zo];exact⟨hT.subset hx,by simp[hx]⟩
def pU (H:Hp)(xs:List V)(M:Γ1):Prop:=xs.length=M.length/\∀(j:Nat) x,xs[j]?=some x->∃(a:Addr) (r:Γ3),M[j]?=some r/\x=.ref a/\H a=some (.tup (r.map V.int))
def pU.nil {H:Hp}:pU H [] []:=⟨rfl,λj x h=>by simp at h⟩
def pU.tm {H H':Hp}{xs:List V}{M:Γ1}(h:pU H xs M)(t:Tm H H'):pU H' xs M:=⟨h.1,λj x hx=>by obtain⟨a,r,e1,e2,e3⟩:=h.2 j x hx;exact⟨a,r,e1,e2,t _ _ e3⟩⟩
def pU.cat {H:Hp}{xs ys:List V}{M N:Γ1}(h1:pU H xs M)(h2:pU H ys N):pU H (xs++ys) (M++N):=by
 refine⟨by simp[h1.1,h2.1],λj y hy=>?_⟩;rcases Z5 j xs.length with z |z
 .rw[Zp z] at hy;obtain⟨a,r,e1,e2,e3⟩:=h1.2 j y hy;exact⟨a,r,by rw[Zp (h1.1▸z)];exact e1,e2,e3⟩
 .rw[Yh z] at hy;obtain⟨a,r,e1,e2,e3⟩:=h2.2 _ y hy;exact⟨a,r,by rw[Yh (h1.1▸z),<- h1.1];exact e1,e2,e3⟩
def pU.app {H:Hp}{xs:List V}{M:Γ1}(h:pU H xs M){a:Addr}{r:Γ3}(ha:H a=some (.tup (r.map V.int))):pU H (xs++[.ref a]) (M++[r]):=h.cat ⟨rfl,λj x hx=>by
 cases j with
 |zero=>simp at hx;subst hx;exact⟨a,r,rfl,rfl,ha⟩
 |succ j=>simp at hx⟩
def pU.ks {K:Θ1}{H:Hp}{xs:List V}{M:Γ1}(h:pU H xs M):TsK K H xs (M.map λr=>r.map V.int):=⟨by rw[h.1,Zb],λj x hx=>by
 obtain⟨a,r,e1,e2,e3⟩:=h.2 j x hx;refine⟨a,e2,aM.of ?_⟩;have:(M.map λr=>r.map V.int).getD j []=r.map V.int:=by simp[List.getD,Zl,e1]
 rw[this];exact e3⟩
def CJ:Sp:=λvs H Q _=>∃(l:Addr) (ns:Γ3),vs=[.ref l]/\H l=some (.tup (ns.map V.int))/\ns.length<=6/\∀(r:Addr) (xs:List V) (H':Hp),ay H H'->H' r=some (.lst xs)->pU H' xs (aO ns)->Q (.ref r) H'
def xT:Sp:=λvs H Q _=>∃(b p pa pp pw q:Addr) (xa xp xw ys:List V) (am pu wi:Ξ1) (qs:Δ1),vs=[.ref p,.ref q]/\d5 b H p pa pp pw xa xp xw am pu wi/\zA b H q ys qs/\qs.length=xa.length /\
 ∀(r r1 r2:Addr) (c:Int) (ms ps:Γ3) (H':Hp),ay H H'->0<c->cG c ms (gn (am.map aU) qs)->cG c ps (pP pu)->H' r=some (.tup [.ref r1,.ref r2])->H' r1=some (.lst (ms.map V.int))->H' r2=some (.lst (ps.map V.int))->Q (.ref r) H'
def Rk:Sp:=λvs H Q _=>∃(l t:Addr) (ms:Γ3) (S:List Nat),vs=[.ref l,.ref t]/\H l=some (.lst (ms.map V.int))/\H t=some (.tup (cO S))/\S.length<=6/\(∀i∈S,i<ms.length)/\∀H',ay H H'->Q (.int ((S.map λi=>ms.getD i 0).sum)) H'
def my (n:Int):bJ:=.inl n
def lM (rows:List (Int×Γ3)):List (List bJ×V):=rows.map λr=>(r.2.map my,V.int r.1)
def Dl (ns:Γ3):(ns.map my).map kV=ns.map V.int:=by rw[Zm];rfl
def tP {a b:Γ3}(h:a.map my=b.map my):a=b:=by
 induction a generalizing b with
 |nil=>cases b with
  |nil=>rfl
  |cons _ _=>cases h
 |cons x a ih=>cases b with
  |nil=>cases h
  |cons y b =>
   rw[Zi,Zi] at h;injection h with h1 h2
   have:x=y:=by unfold my at h1;injection h1
   rw[this,ih h2]
def Above (am:Γ3)(ps qs:Δ1)(M:Γ1)(U:Γ3)(c:Int)(rows:List (Int×Γ3)):Prop:=0<c/\rows.map (·.2)=aO U/\∀x∈rows,((x.1:Int):Rat)=(c:Rat)*aV am ps qs M (aN x.2)
structure MP (b:Addr)(H:Hp)(p pa pp pw q:Addr)(xa xp xw ys:List V)(am pu wi:Ξ1)(qs:Δ1):Prop where
 m:d5 b H p pa pp pw xa xp xw am pu wi
 pr:zA b H q ys qs
 l:qs.length=xa.length
 ok:Fp (rowsOf wi) qs
def Rm:Sp:=λvs H Q _=>∃(b p pa pp pw q:Addr) (xa xp xw ys:List V) (am pu wi:Ξ1) (qs:Δ1),vs=[.ref p,.ref q]/\MP b H p pa pp pw q xa xp xw ys am pu wi qs /\
 ∀(d:Addr) (c:Int) (rows:List (Int×Γ3)) (H':Hp),ay H H'->H d=none->Above (am.map aU) (pP pu) qs (rowsOf wi) (aD xa.length (rowsOf wi)) c rows->H' d=some (.dT (lM rows))->Q (.ref d) H'
def Lk (De:Addr):Sp:=λvs H Q E=>∃(b p pa pp pw q:Addr) (xa xp xw ys:List V) (am pu wi:Ξ1) (qs:Δ1),vs=[.ref p,.ref q]/\MP b H p pa pp pw q xa xp xw ys am pu wi qs /\
 ∀(c:Int) (rows:List (Int×Γ3)),Above (am.map aU) (pP pu) qs (rowsOf wi) (aD xa.length (rowsOf wi)) c rows ->
  ((∃x∈rows,0<x.1)->∀H',ay H H'->E (.ref De) none H') /\
  ((∀x∈rows,x.1<=0)->∀(a:Addr) (row:Int×Γ3) (H':Hp),ay H H'->row∈rows->row.1=0->(∀x∈rows,x.1=0->x.2.length<=row.2.length)->H' a=some (.tup (row.2.map V.int))->Q (.ref a) H')
def wA {c:Int}{ms:Γ3}{as bs:Δ1}(h:cG c ms (as++bs)):cG c (ms.take as.length) as/\cG c (ms.drop as.length) bs:=by
 obtain⟨h1,h2⟩:=h;rw[Zu] at h1 h2;refine⟨⟨by rw[Y0];omega,λj hj=>?_⟩,⟨by rw[Xz];omega,λj hj=>?_⟩⟩
 .have h3:=h2 j (by omega);have e1:(ms.take as.length).getD j 0=ms.getD j 0:=by simp[List.getD,List.getElem?_take,hj]
  have e2:(as++bs).getD j 0=as.getD j 0:=by simp[List.getD,Zp hj]
  rw[e1,<- e2];exact h3
 .have h3:=h2 (as.length+j) (by omega);have e1:(ms.drop as.length).getD j 0=ms.getD (as.length+j) 0:=by simp[List.getD,List.getElem?_drop]
  have e2:(as++bs).getD (as.length+j) 0=bs.getD j 0:=by simp[List.getD,Yh]
  rw[e1,<- e2];exact h3
def Op (g:Nat)(M:Γ1):(aD g M).Nodup:=by
 unfold aD au;refine((Qc).sublist Yp).map _ λa b h z=>h (by omega)
def zL {gs:List Nat}{best:Γ3}:cD gs best=gs.any λg=>best.contains (g:Int):=by
 unfold cD;rw[Yc,Zw,Zw];constructor
 .rintro⟨x,hx,h⟩;obtain⟨g,hg,e⟩:=Zw.mp h;have e':(g:Int)=x:=by simpa using e
  exact⟨g,hg,by rw[Yz,e'];exact hx⟩
 .rintro⟨g,hg,h⟩;rw[Yz] at h;exact⟨_,h,Zw.mpr ⟨g,hg,by simp⟩⟩
def me {am:Γ3}{ps qs:Δ1}{M:Γ1}{N S:List Nat}(nd:N.Nodup)(h:S.Sublist N) :
  aV am ps qs M S=KZ N (λg=>(gn am qs).getD g 0) (List.range M.length) (λi=>ps.getD i 0) (λi g=>((aw M qs).getD i []).contains (g:Int)) S:=by
 unfold aV KZ rD fQ hV wsum;rw[sub_eq h nd]
 congr 3
 refine Y2 λi _=>?_
 exact zL
def gi {g:Nat}{M:Γ1}{S:Γ3}(h:S.Sublist (aD g M)):(aN S).Sublist (au g M):=by
 have h1:=List.Sublist.map Int.toNat h;have h2:=jJ g M;unfold aN at h2 ⊢;rw[h2] at h1;exact h1
def gc {g:Nat}{M:Γ1}{S:Γ3}(h:S.Sublist (aD g M))(x:Nat):x∈aN S↔(x:Int)∈S:=by
 unfold aN;constructor
 .intro hx;obtain⟨y,hy,rfl⟩:=Zd.mp hx;have:=h.subset hy;unfold aD at this;obtain⟨j,_,rfl⟩:=Zd.mp this;rw[Z3];exact hy
 .intro hx;exact Zd.mpr ⟨_,hx,Z3 x⟩
def uz {am:Γ3}{ps qs:Δ1}{M:Γ1}{g:Nat}(hp:∀q∈ps,0<=q):Kl (aD g M) (λS=>aV am ps qs M (aN S)):=by
 intro S T hS hT;have nd:(au g M).Nodup:=by unfold au;exact(Qc).sublist Yp
 have sI:(S.filter λx=>T.contains x).Sublist (aD g M):=Yp.trans hS;have sJ:((aD g M).filter λx=>S.contains x||T.contains x).Sublist (aD g M):=Yp;show aV am ps qs M (aN S)+aV am ps qs M (aN T)<=aV am ps qs M (aN _)+aV am ps qs M (aN _);rw[me nd (gi hS),me nd (gi hT),me nd (gi sI),me nd (gi sJ)];refine AJ (λx _=>?_) (λx=>?_) (λx=>?_)
 .by_cases hx:x<ps.length
  .have:ps.getD x 0∈ps:=by simp[List.getD,Zc hx]
   exact hp _ this
  .have:ps.getD x 0=0:=by simp[List.getD,Ym (Y4 hx)]
   rw[this];exact Yk
 .rw[gc sI,gc hS,gc hT,Zo];simp
 .rw[gc sJ,gc hS,gc hT,Zo];simp;exact λh=>h.elim (λz=>hS.subset z) (λz=>hT.subset z)
end KM
namespace L2
open PySem PySem.Spec PyProof.Rows EX
section
variable {X:Cx}{st:Stmt}{Og:List Stmt}{t u:TX}
end
end L2
namespace L2
open PySem PySem.Spec PyProof.Rows
def K0:Θ1:=[]
section
variable {K:Θ1}{H:Hp}{a:Addr}{xs:List V}
def bD.k0 (h:bD K0 H a xs):bD K H a xs:=by
 rcases h with h |⟨o,its,n,hk,_⟩
 .exact .inl h
 .exact absurd hk (by show ¬ (none=some o);simp)
def aM.k0 (h:aM K0 H a xs):aM K H a xs:=by
 rcases h with h |⟨o,its,n,hk,_⟩
 .exact .inl h
 .exact absurd hk (by show ¬ (none=some o);simp)
def Sq.k0 (h:bD K0 H a xs\/aM K0 H a xs):bD K H a xs\/aM K H a xs:=h.elim (λz=>.inl z.k0) λz=>.inr z.k0
mutual
theorem lN.k0:∀{v:V}{d:PyData},lN K0 H v d->lN K H v d
 |_,_,.bV=>.bV
 |_,_,.bl b=>.bl b
 |_,_,.int i=>.int i
 |_,_,.str x ok=>.str x ok
 |_,_,.lst h t=>.lst h.k0 (eV.k0 t)
 |_,_,.tup h t=>.tup h.k0 (eV.k0 t)
theorem eV.k0:∀{vs:List V}{ds:Ξ1},eV K0 H vs ds->eV K H vs ds
 |_,_,.nil=>.nil
 |_,_,.cons h t=>.cons (lN.k0 h) (eV.k0 t)
end
end
section
variable {X:Cx}{tg l:Expr}{tl:TE}
def fj.imp {f:Value->Value->Sem Value}{r r':R2}(h:fj X f r)(hi:∀x y H Q,r' x y H Q->r x y H Q):fj X f r':=λae s σ H x y v u Q I rx ry q=>h ae s σ H x y v u Q I rx ry (hi _ _ _ _ q)
def bZ.imp {f:Value}{r r':List V->Hp->VK->Prop}(h:bZ X f r)(hi:∀xs H Q,r' xs H Q->r xs H Q):bZ X f r':=λae s σ H xs us Q I rx q=>h ae s σ H xs us Q I rx (hi _ _ _ q)
def zi.imp {r r':R2}(h:zi X r)(hi:∀x y H Q,r' x y H Q->r x y H Q):zi X r':=λa b ae s σ H x y v u Q I rx ry q=>h a b ae s σ H x y v u Q I rx ry (hi _ _ _ _ q)
def sq:zi X (Gf K0):=yC.imp λ_ _ _ _ ⟨p,xs,i,v,e1,e2,h,e3,q⟩=>⟨p,xs,i,v,e1,e2,h.k0,e3,q⟩
def cj:zi X (Lw K0):=NY.imp λ_ _ _ _ ⟨p,xs,i,v,e1,e2,h,e3,q⟩=>⟨p,xs,i,v,e1,e2,h.k0,e3,q⟩
def JG:List V->Hp->VK->Prop:=λxs H Q=>∃p ys,xs=[.ref p]/\(bD K0 H p ys\/aM K0 H p ys)/\Q (.int ys.length) H
def JD:List V->Hp->VK->Prop:=λxs H Q=>∃p ys,xs=[.ref p]/\((bD K0 H p ys/\∀l,H l=none->Q (.ref l) (aL H l (.tup ys)))\/(aM K0 H p ys/\Q (.ref p) H))
def B7:List V->Hp->VK->Prop:=λxs H Q=>∃p ys,xs=[.ref p]/\(bD K0 H p ys\/aM K0 H p ys)/\∀l,H l=none->Q (.ref l) (aL H l (.lst ys))
def JI:List V->Hp->VK->Prop:=λxs H Q=>∃p ys,xs=[.ref p]/\(bD K0 H p ys\/aM K0 H p ys)/\ys.all gE=true/\Q (.bl (ys.any tv)) H
def Th:List V->Hp->VK->Prop:=λxs H Q=>∃p ys,xs=[.ref p]/\(bD K0 H p ys\/aM K0 H p ys)/\ys.all gE=true/\Q (.bl (ys.all tv)) H
def JE:List V->Hp->VK->Prop:=λxs H Q=>∃(p:Addr) (ns:Γ3),xs=[.ref p]/\(bD K0 H p (ns.map V.int)\/aM K0 H p (ns.map V.int))/\Q (.int ns.sum) H
def Te:List V->Hp->VK->Prop:=λxs H Q=>∃(p:Addr) (ns:Γ3),xs=[.ref p]/\(bD K0 H p (ns.map V.int)\/aM K0 H p (ns.map V.int))/\ns≠[]/\∀m,m∈ns->(∀n∈ns,n<=m)->Q (.int m) H
def mR:bZ X (.builtin "len") JG:=gP.imp λ_ _ _ ⟨p,ys,e,h,q⟩=>⟨p,ys,e,Sq.k0 h,q⟩
def d6:bZ X (.type "tuple") JD:=oG.imp λ_ _ _ ⟨p,ys,e,h⟩=>⟨p,ys,e,h.elim (λz=>.inl ⟨z.1.k0,z.2⟩) λz=>.inr ⟨z.1.k0,z.2⟩⟩
def Cs:bZ X (.type "list") B7:=rB.imp λ_ _ _ ⟨p,ys,e,h,q⟩=>⟨p,ys,e,Sq.k0 h,q⟩
def xG (hc:X.calm=true):bZ X (.builtin "any") JI:=(EQ hc).imp λ_ _ _ ⟨p,ys,e,h,q⟩=>⟨p,ys,e,Sq.k0 h,q⟩
def Kj (hc:X.calm=true):bZ X (.builtin "all") Th:=(ER hc).imp λ_ _ _ ⟨p,ys,e,h,q⟩=>⟨p,ys,e,Sq.k0 h,q⟩
def Cr (hc:X.calm=true):bZ X (.builtin "sum") JE:=(EO hc).imp λ_ _ _ ⟨p,ys,e,h,q⟩=>⟨p,ys,e,Sq.k0 h,q⟩
def TY (hc:X.calm=true):bZ X (.builtin "max") Te:=(AX hc).imp λ_ _ _ ⟨p,ys,e,h,q⟩=>⟨p,ys,e,Sq.k0 h,q⟩
def CV (hu:X.A.units+64<cLine):fj X (compareOp .Eq) (Gg K0):=(Nf hu).imp λ_ _ _ _ ⟨dx,dy,h1,h2,q⟩=>⟨dx,dy,h1.k0,h2.k0,q⟩
def Ni (hu:X.A.units+64<cLine):fj X (compareOp .NotEq) (Ge K0):=(Nd hu).imp λ_ _ _ _ ⟨dx,dy,h1,h2,q⟩=>⟨dx,dy,h1.k0,h2.k0,q⟩
def xi:fj X (compareOp .In) (Pe K0 false):=Af.imp λ_ _ _ _ ⟨p,xs,e,h,q⟩=>⟨p,xs,e,Sq.k0 h,q⟩
def Nh:fj X (compareOp .NotIn) (Pe K0 true):=rq.imp λ_ _ _ _ ⟨p,xs,e,h,q⟩=>⟨p,xs,e,Sq.k0 h,q⟩
def YR:FK X (Rv K0):=λae s σ H x v vl vu lo hi sl Q I rx hs pl pu ⟨a,xs,e,h,q⟩=>G7 ae s σ H x v vl vu lo hi sl Q I rx hs pl pu ⟨a,xs,e,h.k0,q⟩
structure It.Le (J J':It):Prop where
 go:∀i H,J'.go i H->J.go i H
 uA:∀i H x H',J.uA i H x H'->J'.uA i H x H'
 stop:∀i H,J'.stop i H->J.stop i H
def Turn.le {P:Program}{w:World}{K:Θ1}{tg:Expr}{J J':It}{fp:List Addr}{it:Addr}{tn:Nat->Heap->Prop}(T:Turn P w K tg J fp it tn)(l:J.Le J'):Turn P w K tg J' fp it tn where
 mem:=T.mem
 obj:=T.obj
 keep:=T.keep
 item:=λX hP hw hK hc i ae s σ H E I hf st hg=>bp (T.item X hP hw hK hc i ae s σ H E I hf st (l.go i H hg)) λr s1 ⟨u,hr,h⟩=>⟨u,hr,bp h λ_ s2 ⟨x,H',a1,a2,a3,a4⟩=>⟨x,H',a1,a2,l.uA _ _ _ _ a3,a4⟩⟩
 done:=λX hP hw hK hc i ae s σ H E I hf st hg=>T.done X hP hw hK hc i ae s σ H E I hf st (l.stop i H hg)
 self:=T.self
def yA {K:Θ1}{a:Addr}:(zk K a).Le (zk K0 a):=⟨λi H ⟨xs,x,h,e⟩=>⟨xs,x,h.k0,e⟩,λi H x H' ⟨e,h⟩=>⟨e,λxs hx=>h xs hx.k0⟩,λi H ⟨xs,h,e⟩=>⟨xs,h.k0,e⟩⟩
def Dj {K:Θ1}{a:Addr}:(zj K a).Le (zj K0 a):=⟨λi H ⟨xs,x,h,e⟩=>⟨xs,x,h.k0,e⟩,λi H x H' ⟨e,h⟩=>⟨e,λxs hx=>h xs hx.k0⟩,λi H ⟨xs,h,e⟩=>⟨xs,h.k0,e⟩⟩
def Iz {K:Θ1}{a:Addr}:(BB K a).Le (BB K0 a):=⟨λi H ⟨xs,x,h,e⟩=>⟨xs,x,h.k0,e⟩,λi H x H' ⟨p,e1,e2,h⟩=>⟨p,e1,e2,λxs hx=>h xs hx.k0⟩,λi H ⟨xs,h,e⟩=>⟨xs,h.k0,e⟩⟩
def NQ {K:Θ1}{a b:Addr}:(OP K a b).Le (OP K0 a b):=⟨λi H ⟨xs,ys,x,y,h1,h2,e⟩=>⟨xs,ys,x,y,h1.k0,h2.k0,e⟩,λi H x H' ⟨p,e1,e2,h⟩=>⟨p,e1,e2,λxs ys h1 h2=>h xs ys h1.k0 h2.k0⟩,λi H ⟨xs,ys,h1,h2,e⟩=>⟨xs,ys,h1.k0,h2.k0,e⟩⟩
def Lx (hl:PE X l tl):PI X tg l (TF K0 tl):=by
 intro ae s σ H R I h;refine bp (hl ae s σ H _ I h) λv s1 ⟨x,H1,I1,r1,a,e,⟨xs,hq⟩,q⟩=>?_
 subst e;cases r1;obtain⟨its,rv,p,hz⟩:=I1.list hq.k0;refine wpAny_pyIter_list p.isList ⟨s1.heap.objs.size,[s1.heap.objs.size],_,zk K0 a,H1,rfl,I1.kept (t':=s1.toks) λb o e=>Zj _ e,(oU (K:=X.K) a _).le yA,⟨_,Zy _ rfl,rfl,rfl⟩,λb hb=>?_,q⟩;obtain rfl:b=s1.heap.objs.size:=by simpa using hb
 exact I1.gB (Ze _) (I1.bP.fresh (Ze _))
def BG (hl:PE X l tl):PI X tg l (ZU K0 tl):=by
 intro ae s σ H R I h;refine bp (hl ae s σ H _ I h) λv s1 ⟨x,H1,I1,r1,a,e,⟨xs,hq⟩,q⟩=>?_
 subst e;cases r1;obtain⟨its,rv,p,hz⟩:=I1.tuple hq.k0;refine wpAny_pyIter_tuple (show s1.heap.IsTuple a its.toArray from p) ⟨s1.heap.objs.size,[s1.heap.objs.size],_,zj K0 a,H1,rfl,I1.kept (t':=s1.toks) λb o e=>Zj _ e,(nL (K:=X.K) a _).le Dj,⟨_,Zy _ rfl,rfl,rfl⟩,λb hb=>?_,q⟩;obtain rfl:b=s1.heap.objs.size:=by simpa using hb
 exact I1.gB (Ze _) (I1.bP.fresh (Ze _))
def lV {a:Expr}{ta:TA}{p pos:Pos}{ik:Ξ2}{kk}{ic:Pos}(hg:Gl X "enumerate")(hm:X.mg "enumerate"=none)(hb:bootBuiltins "enumerate"=some (.type "enumerate"))(ha:PA X [a] ta)(hs:starEach [a] X.env=[(false,eval a X.env)]:=by rfl) :
  PI X (.Tuple ik kk ic) (.Call (.Name "enumerate" p) [a] [] pos) (TH K0 ta):=by
 intro ae s σ H R I h;refine Call_ (fH I hg hm hb (PyProof.Rows.callWith_type1 (bp (ha pos ae s σ H _ I h) λus s1 ⟨vs,H1,I1,r1,t,e,⟨xs,hq⟩,q⟩=>?_) hs rfl));subst e;obtain⟨u,rfl,ru⟩:=vals1 r1;cases ru;obtain⟨its,rv,pl,hz⟩:=I1.tuple hq.k0;refine jL (show s1.heap.IsTuple t its.toArray from pl) λh' he KL hsz hk=>wpAny_pyIter_enum he ?_
 refine⟨s1.heap.objs.size+1,[s1.heap.objs.size+1,s1.heap.objs.size],_,BB K0 t,H1,rfl,I1.kept (t':=s1.toks) hk,(zJ (K:=X.K) t _ s1.heap.objs.size (Nat.succ_ne_self _)).le Iz,⟨⟨_,he⟩,KL⟩,λb hb=>?_,q⟩;rcases Zk.mp hb with rfl |hb
 .exact I1.gB (Xv _) (I1.bP.fresh (Xv _))
 .obtain rfl:b=s1.heap.objs.size:=by simpa using hb
  exact I1.gB (Ze _) I1.fresh
def Hz {a b:Expr}{ta:TA}{p pos:Pos}{ik:Ξ2}{kk}{ic:Pos}(hg:Gl X "zip")(hm:X.mg "zip"=none)(hb:bootBuiltins "zip"=some (.type "zip"))(ha:PA X [a,b] ta)
  (hs:starEach [a,b] X.env=[(false,eval a X.env),(false,eval b X.env)]:=by rfl) (og:starEach [b] X.env=[(false,eval b X.env)]:=by rfl):PI X (.Tuple ik kk ic) (.Call (.Name "zip" p) [a,b] [] pos) (ZT K0 ta):=by
 intro ae s σ H R I h;refine Call_ (fH I hg hm hb (PyProof.Rows.callWith_type1 (bp (ha pos ae s σ H _ I h) λus s1 ⟨vs,H1,I1,r1,q1⟩=>?_) (by rw[hs,og]) (by rw[og];rfl)));obtain⟨x,y,e,⟨xs,Je⟩,⟨ys,Ox⟩,q⟩:=q1;subst e;cases r1 with
 |cons r rr =>
  cases rr with
  |cons r' rr =>
   cases rr
   cases r
   cases r'
   obtain⟨us,ru,pu,zu⟩:=I1.tuple Je.k0;obtain⟨vs,rv,pv,zv⟩:=I1.tuple Ox.k0;have a1:x<s1.heap.objs.size:=by obtain⟨_,e,_⟩:=(show s1.heap.IsTuple x us.toArray from pu);exact Zn e
   have a2:y<s1.heap.objs.size:=by obtain⟨_,e,_⟩:=(show s1.heap.IsTuple y vs.toArray from pv);exact Zn e
   refine AT (show s1.heap.IsTuple x us.toArray from pu) (show s1.heap.IsTuple y vs.toArray from pv) λg z0 pI pO n1 n2 hk=>wpAny_pyIter_zip z0 ?_
   refine⟨s1.heap.objs.size+4,[s1.heap.objs.size+4,s1.heap.objs.size+2,s1.heap.objs.size+3,s1.heap.objs.size,s1.heap.objs.size+1],_,OP K0 x y,H1,rfl,I1.kept (t':=s1.toks) hk,(DD (K:=X.K) x y _ _ _ _ _ (zipApart_new a1 a2)).le NQ,⟨z0,pI,⟨_,_,pO⟩,n1,n2⟩,λc hc=>?_,q⟩;have hge:s1.heap.objs.size<=c:=by
    simp only[Zk,Qu,or_false] at hc;rcases hc with h |h |h |h |h<;>rw[h]<;>first |exact Nat.le_add_right _ _ |exact Ze _
   exact I1.gB hge (I1.bP.fresh hge)
def jC {es:Ξ2}{k:Nat}{t:zg}{n:Nat}{pos:Pos}(hc:X.calm=true)(h:uH X es t)(hn:(assignEach es X.env).length=n:=by rfl)(ot:(assignEach es X.env).findIdx? (·.1)=none:=by rfl):PG X (.Tuple es k pos) (LQ K0 n t) :=
 λae s σ H v u Q I r ⟨a,xs,e,hq,q⟩=>M8 hc h hn ot ae s σ H v u Q I r ⟨a,xs,e,hq.k0,q⟩
def Na {es:Ξ2}{k:Nat}{t:zg}{n:Nat}{pos:Pos}(hc:X.calm=true)(h:uH X es t)(hn:(assignEach es X.env).length=n:=by rfl)(ot:(assignEach es X.env).findIdx? (·.1)=none:=by rfl):PG X (.Tuple es k pos) (Sa K0 n t) :=
 λae s σ H v u Q I r ⟨a,xs,e,hq,q⟩=>M9 hc h hn ot ae s σ H v u Q I r ⟨a,xs,e,hq.k0,q⟩
def Of.k0 {K:Θ1}{T:String}{x:V}{H:Hp}(h:Of K0 T x H):Of K T x H:=by
 cases x with
 |ref p =>
  rcases h with ⟨e,xs,h⟩ |⟨e,o,hk,_⟩ |h |h
  .exact .inl ⟨e,xs,h.k0⟩
  .exact absurd hk (by show ¬ (none=some o);simp)
  .exact .inr (.inr (.inl h))
  .exact .inr (.inr (.inr h))
 |_=>exact h
variable {o e:Expr}{es:Ξ2}{to:TE}{t:TA}{name:Str}{mG il:Pos}{T id:String}{r:V->List V->Hp->VK->Prop}
def Tk (pa:PlainAttrs T)(slot:Slot T name id)(FA:typeOf (.builtin id)=pure (.type "method_descriptor"))(hm:UM X id r)(ho:PE X o to)(ha:PA X (e::es) t)
  (sH:attributeBase o name X.env (eval o X.env)=eval o X.env:=by rfl)
  (LO:((backTo il (starEach (e::es) X.env)).all (λx=>!x.1)&&(backToKw il (keywordEach [] X.env)).all (λx=>x.1.isSome)
   && decide ((e::es).length+([]:List Keyword).length+(if ([]:List Keyword).isEmpty then 0 else 1)<30))=true:=by rfl)
  (sG:(mG.endLine == il.line)=true:=by rfl) (hs:starEach (e::es) X.env=(false,eval e X.env)::starEach es X.env:=by rfl) (vy:(backTo il (starEach es X.env)).any (·.1)=false:=by rfl) :
  PE X (.Call (.Attribute o name mG) (e::es) [] il) (tBM K0 T r to t):=by
 intro ae s σ H Q I h;refine wpAny_Call_method_late sH LO sG rfl (bp (ho ae s σ H _ I h) λv s1 ⟨x,H1,I1,r1,ty,q1⟩=>?_);obtain⟨h1,h2⟩:=Cw I1 r1 ty.k0;refine⟨T,id,pa,slot,FA,h1,h2,?_⟩;have hA:=ha il ae s1 σ H1 _ I1 q1;rw[hs] at hA ⊢;exact Calls.callWith_builtin (by show(false||(backTo il (starEach es X.env)).any (·.1))=false;rw[vy]<;>rfl) (Calls.evalArgs_plain (bp hA λus s2 ⟨vs,H2,I2,r2,q2⟩=>hm ae s2 σ H2 x vs v us Q I2 r1 r2 q2))
end
end L2
namespace L2
open PySem PySem.Spec PyProof.Rows KG
section
variable {X:Cx}
end
end L2
namespace KM
open PySem L2
end KM
namespace KM
open PySem L2 KG EX
section
variable {K:Θ1}{n:Nat}{tt:TT}{te:TE}{acc a b:Addr}{xs ys:List V}{ai:St}{cC:Hp}{Q:VK}
def i7 {α : Type}(f:Nat->Bool)(v:Nat->α)(i:Nat):((List.range (i+1)).filter f).map v=((List.range i).filter f).map v++if f i=true then [v i] else []:=by
 rw[uq,Zs]
 congr 1
 split<;>simp_all
end
def ao {α : Type}{ls:List α}{i:Nat}{y d:α}(h:ls[i]?=some y):ls.getD i d=y:=by simp[List.getD,h]
def yF (ns:Γ3)(x:Int):Fx (V.int x) (ns.map V.int)=ns.contains x:=by
 have h:Fx (V.int x) (ns.map V.int)=ns.any λh=>decide (h=x):=by
  unfold Fx;rw[X1]
  congr 1
 rw[h,List.contains_eq_any_beq]
 congr 1
 funext y
 by_cases z:y=x
 .subst z;simp
 .have:¬ x=y:=λh=>z h.symm
  simp[z,this]
section
variable {K:Θ1}{tt:TT}{te:TE}{acc a:Addr}{s:Γ3}{ai:St}{cC:Hp}{Q:VK}
end
theorem lx:∀{l:Δ1},(∀q∈l,0<=q)->0<=aH l
 |[],_=>Yk
 |q::l,h=>by
  rw[Bn];have h1:=h q Zg;have h2:=lx (l:=l) λz hz=>h z (Zh _ hz)
  exact Rat.add_nonneg h1 h2
def DG {l:Δ1}(bo:l≠[])(h:∀q∈l,0<q):0<aH l:=by
 cases l with
 |nil=>exact absurd rfl bo
 |cons q l =>
  rw[Bn];have h1:=h q Zg;have h2:=lx (l:=l) λz hz=>Yb (h z (Zh _ hz))
  generalize aH l=s at h2
  grind
def sW {qs:Δ1}{k n:Nat}(h:∀q∈qs,Rb k q)(hn:qs.length<=n):Rb (1+(k+1)*n) (aH qs):=by
 have:=qK h qs.length;rw[Yj] at this;exact this.mono (Nat.add_le_add_left (Nat.mul_le_mul_left _ hn) _)
end KM
namespace L2
open PySem PySem.Spec PyProof.Rows
abbrev rC (dr t1 i1 t2 i2:Expr)(f1 f2:Ξ2)(scope:Scope)(pos:Pos):Expr:=.ListComp dr [⟨t1,i1,f1,0⟩,⟨t2,i2,f2,0⟩] scope pos
def nZ (dr t1 i1 t2 i2:Expr)(f1 f2:Ξ2)(scope:Scope)(pos:Pos)(it acc:Value)(env:Env) :
  compTurn (rC dr t1 i1 t2 i2 f1 f2 scope pos) 0 it acc env=(do
   standAt i1.pos
   match <- pyNext it with
   |none=>pure (.done .next)
   |some v =>
    letOwnedTupleGo t1 it v
    assign t1 env v
    let mut ok:=true
    for c in f1 do
     if ok then ok <- isTrue c env (eval c env)
    if ok then
     let x <- eval i2 env
     standAt i2.pos
     let x <- foldedSetIterable i2 env x;let _ <- runOwn (.compStart (rC dr t1 i1 t2 i2 f1 f2 scope pos) 1 (<- holding [x] (pyIter x)) acc env) env
    again (.compLoop (rC dr t1 i1 t2 i2 f1 f2 scope pos) 0 it acc env)):=by rfl
def lH (dr t1 i1 t2 i2:Expr)(f1 f2:Ξ2)(scope:Scope)(pos:Pos)(it acc:Value)(env:Env) :
  compTurn (rC dr t1 i1 t2 i2 f1 f2 scope pos) 1 it acc env=(do
   standAt i2.pos
   match <- pyNext it with
   |none=>pure (.done .next)
   |some v =>
    letOwnedTupleGo t2 it v
    assign t2 env v
    let mut ok:=true
    for c in f2 do
     if ok then ok <- isTrue c env (eval c env)
    if ok then
     (do let _ <- call (.builtin "list.append") [acc,<- eval dr env])
    again (.compLoop (rC dr t1 i1 t2 i2 f1 f2 scope pos) 1 it acc env)):=by rfl
section
variable {prog:Program}{w:World}{A:Around}{R:Result->Shared->Prop}{s:Shared}{dr t1 i1 t2 i2:Expr}{f1 f2:Ξ2}{scope:Scope}{pos:Pos}{it acc:Value}{env:Env}
def uw (I:Nat->Shared->Prop)
  (eS:∀n s,I n s->wpAny (model prog w) A (pyNext it) (λr br=>match r with
   |none=>R (.ok .next) br
   |some v=>wpAny (model prog w) A (letOwnedTupleGo t2 it v) (λ_ io=>wpAny (model prog w) A (assign t2 env v) (λ_ cr =>
     wpAny (model prog w) A (forIn f2 true λc r=>if r=true then do let ok <- isTrue c env (eval c env);pure (ForInStep.yield ok) else pure (ForInStep.yield r)) (λok dv =>
      if ok=true then wpAny (model prog w) A (eval dr env) (λx gx =>
       wpAny (model prog w) A (call (.builtin "list.append") [acc,x]) (λ_ mr=>∃m,m<n/\I m mr) (λ_ _=>False) gx) (λ_ _=>False) dv
      else ∃m,m<n/\I m dv) (λ_ _=>False) cr) (λ_ _=>False) io) (λ_ _=>False) br) (λ_ _=>False) s)
  (n:Nat) (h:I n s) :
  codeAny (model prog w) A (.compLoop (rC dr t1 i1 t2 i2 f1 f2 scope pos) 1 it acc env) R s:=by
 refine codeAny_loop rfl I (λn s hI=>?_) n h;show wpAny _ A ((compTurn (rC dr t1 i1 t2 i2 f1 f2 scope pos) 1 it acc env).onRaise (λx=>do noteFrame x env;theTreesLotGoes x)) _ _ s;refine wpAny_noted ?_;rw[lH];refine Za (wpAny_standAt (Za (wpAny_mono (eS n s hI) (λr br kJ=>?_) λ_ _ h'=>h'.elim)));cases r with
 |none=>exact wpAny_pure kJ
 |some v =>
  refine Za (wpAny_mono kJ (λ_ io mP=>?_) λ_ _ h'=>h'.elim);refine Za (wpAny_mono mP (λ_ cr kI=>Za (wpAny_mono kI (λok dv kH=>?_) λ_ _ h'=>h'.elim)) λ_ _ h'=>h'.elim);cases ok with
  |false=>exact wpAny_pure ⟨rfl,kH⟩
  |true =>
   exact Za (Za (wpAny_mono kH (λx gx u8=>Za (wpAny_mono u8 (λ_ mr u7=>wpAny_pure (wpAny_pure ⟨rfl,u7⟩)) λ_ _ h'=>h'.elim)) λ_ _ h'=>h'.elim))
def uv (hs:∀x,foldedSetIterable i2 env x=pure x)(I:Nat->Shared->Prop)
  (eS:∀n s,I n s->wpAny (model prog w) A (pyNext it) (λr br=>match r with
   |none=>R (.ok .next) br
   |some v=>wpAny (model prog w) A (letOwnedTupleGo t1 it v) (λ_ io=>wpAny (model prog w) A (assign t1 env v) (λ_ cr =>
     wpAny (model prog w) A (forIn f1 true λc r=>if r=true then do let ok <- isTrue c env (eval c env);pure (ForInStep.yield ok) else pure (ForInStep.yield r)) (λok dv =>
      if ok=true then wpAny (model prog w) A (eval i2 env) (λx gx=>wpAny (model prog w) A (pyIter x) (λwT mr =>
       codeAny (model prog w) A (.compStart (rC dr t1 i1 t2 i2 f1 f2 scope pos) 1 wT acc env) (λr mq=>r=.ok .next/\∃m,m<n/\I m mq) mr) (λ_ _=>False) gx) (λ_ _=>False) dv
      else ∃m,m<n/\I m dv) (λ_ _=>False) cr) (λ_ _=>False) io) (λ_ _=>False) br) (λ_ _=>False) s)
  (n:Nat) (h:I n s) :
  codeAny (model prog w) A (.compLoop (rC dr t1 i1 t2 i2 f1 f2 scope pos) 0 it acc env) R s:=by
 refine codeAny_loop rfl I (λn s hI=>?_) n h;show wpAny _ A ((compTurn (rC dr t1 i1 t2 i2 f1 f2 scope pos) 0 it acc env).onRaise (λx=>do noteFrame x env;theTreesLotGoes x)) _ _ s;refine wpAny_noted ?_;rw[nZ];refine Za (wpAny_standAt (Za (wpAny_mono (eS n s hI) (λr br kJ=>?_) λ_ _ h'=>h'.elim)));cases r with
 |none=>exact wpAny_pure kJ
 |some v =>
  refine Za (wpAny_mono kJ (λ_ io mP=>?_) λ_ _ h'=>h'.elim);refine Za (wpAny_mono mP (λ_ cr kI=>Za (wpAny_mono kI (λok dv kH=>?_) λ_ _ h'=>h'.elim)) λ_ _ h'=>h'.elim);cases ok with
  |false=>exact wpAny_pure ⟨rfl,kH⟩
  |true =>
   refine Za (wpAny_mono kH (λx gx u8=>Za (wpAny_standAt (Za (wpAny_of_eq (hs x) (Za (wpAny_holding (wpAny_mono u8 (λwT mr u7=>?_) λ_ _ h'=>h'.elim))))))) λ_ _ h'=>h'.elim);refine Za (wpAny_runOwn (codeAny_mono u7 λr mq BM=>?_));obtain⟨rfl,BM⟩:=BM;exact wpAny_pure ⟨rfl,BM⟩
def jj5
  (h0:codeAny (model prog w) A (.compLoop (rC dr t1 i1 t2 i2 f1 f2 scope pos) 1 it acc env) R s)
  (h:wpAny (model prog w) A (pyIter it) (λPB s'=>codeAny (model prog w) A (.compLoop (rC dr t1 i1 t2 i2 f1 f2 scope pos) 1 PB acc env) R s')
   (notedBy (model prog w) A env λx s'=>R (.error x) s') s) :
  codeAny (model prog w) A (.compStart (rC dr t1 i1 t2 i2 f1 f2 scope pos) 1 it acc env) R s:=by
 refine codeAny_of_tree ?_;show wpAny _ _ ((compStart (rC dr t1 i1 t2 i2 f1 f2 scope pos) 1 it acc env).onRaise (λx=>do noteFrame x env;standAt theWindowsPlace)) _ _ s;refine wpAny_notedAt ?_;unfold compStart;show wpAny _ _ (ask >>= _) _ _ s;refine Za (wpAny_askSetting (wpAny_ite ?_));split
 .first
   |exact Za (wpAny_pure (wpAny_pure (And.intro rfl h0)))
   |exact wpAny_pure (And.intro rfl h0)
 .first
   |exact Za (wpAny_rule (Za (wpAny_standAt (Za (wpAny_mono h (λPB s' h'=>wpAny_pure (And.intro rfl h')) λ_ _ x=>x)))))
   |(refine Za (wpAny_rule ?_);show wpAny _ _ (standAt i2.pos >>= _) _ _ s;exact Za (wpAny_standAt (Za (wpAny_mono h (λPB s' h'=>wpAny_pure (And.intro rfl h')) λ_ _ x=>x))))
end
def YK (g:TG)(tt:TT)(te:TE)(J:It)(acc:Addr)(ai:St)(cC:Hp)(Z:St->Hp->Prop):Prop :=
 ∃W:Nat->Nat->St->Hp->Prop,(∃m,W 0 m ai cC)/\∀i m aB H',W i m aB H' ->
  (J.stop i H'/\Z aB H') \/
  (J.go i H'/\∃N:St->Hp->Prop,(∀cv H2,N cv H2->∃m',m'<m/\W (i+1) m' cv H2)/\∀x H2,J.uA i H' x H2->g x aB H2 λgQ H3=>tt gQ H3 λb H4 =>
   if b=true then te gQ H4 λy H5=>∃ys,H5 acc=some (.lst ys)/\ys.length<sizeLine/\N gQ (aL H5 acc (.lst (ys++[y]))) else N gQ H4)
def xR (g1:TG)(A0:TT)(IV:TI)(g2:TG)(AZ:TT)(te:TE)(J:It)(acc:Addr)(ai:St)(cC:Hp)(Q:VK):Prop :=
 ∃W:Nat->Nat->St->Hp->Prop,(∃m,W 0 m ai (aL cC acc (.lst [])))/\∀i m aB H',W i m aB H' ->
  (J.stop i H'/\Q (.ref acc) H') \/
  (J.go i H'/\∃N:St->Hp->Prop,(∀cv H2,N cv H2->∃m',m'<m/\W (i+1) m' cv H2)/\∀x H2,J.uA i H' x H2->g1 x aB H2 λgQ H3=>A0 gQ H3 λb H4 =>
   if b=true then IV gQ H4 λJ2 H5=>YK g2 AZ te J2 acc gQ H5 N else N gQ H4)
def CA (wi:TI)(g1:TG)(A0:TT)(IV:TI)(g2:TG)(AZ:TT)(te:TE)(own:Nat)(ix:List Nat):TE:=λσ H Q=>wi σ H λJ H1=>∀acc,H1 acc=none->xR g1 A0 IV g2 AZ te J acc (dQ own ix σ) H1 Q
section
variable {X:Cx}{scope:Scope}{own cap:Δ2}{ix:List Nat}{t1 i1 t2 i2 dr:Expr}{f1 f2:Ξ2}{wi IV:TI}{g1 g2:TG}{A0 AZ:TT}{te:TE}{pos:Pos}
def wK {ae:Γ2}{σ:St}{H2:Hp}{s2:Shared}{it:Addr}{fp:List Addr}{tn:Nat->Heap->Prop}{J:It}{Q:VK}{RR:Value->Addr->Result->Shared->Prop}{E:Θ2}
  (B:aJ X scope own cap ix) (hc:X.calm=true)
  (hb:∀C fp s H,PG (cN X scope C (own++cap) fp s H) t1 g1/\dX (cN X scope C (own++cap) fp s H) f1 A0/\PI (cN X scope C (own++cap) fp s H) t2 i2 IV/\PG (cN X scope C (own++cap) fp s H) t2 g2/\dX (cN X scope C (own++cap) fp s H) f2 AZ/\PE (cN X scope C (own++cap) fp s H) dr te)
  (og:∀(env:Env) x,foldedSetIterable i2 env x=pure x)
  (I2:Inv X ae σ H2 s2) (T:Turn X.prog X.w X.K t1 J fp it tn) (eO:tn 0 s2.heap) (fk2:∀b∈fp,dh X ae H2 b)
  (q:∀acc,H2 acc=none->xR g1 A0 IV g2 AZ te J acc (dQ own.length ix σ) H2 Q)
  (KS:∀D C H' s' m,Inv X ae σ H' s'->Q (.ref D) H'->s'.heap.Ns C m->dh X ae H' C->RR (.ref D) C (.ok .next) s') :
  wpAny (model X.prog X.w) X.A (newList []) (λacc dv=>wpAny (model X.prog X.w) X.A (newFunctionEnv scope X.env.globals (dU X.env scope.names []) [] X.env.qual none .none (some X.env)) (λmF gx =>
   codeAny (model X.prog X.w) X.A (.compStart (rC dr t1 i1 t2 i2 f1 f2 scope pos) 0 (.ref it) acc { mF with scope:=relabel scope X.env }) (RR acc mF.locals) gx) E dv) E s2:=by
 refine wpAny_newObj_type (fu ?_);have I3:Inv X ae σ (aL H2 s2.heap.objs.size (.lst [])) { s2 with heap:=s2.heap.push { cls:=.type "list",dict:=none,data:=.seq ([]:Δ3).toArray } }:=I2.LI (its:=[]) (ys:=[]) (t':=s2.toks) .nil (Z7 _);obtain⟨W,⟨m0,w0⟩,eS⟩:=q s2.heap.objs.size I2.fresh;generalize hD:s2.heap.objs.size=D at I3 w0 eS ⊢;have cg:∀b∈fp,b<D:=λb bu=>by
  obtain⟨o,e,_⟩:=T.obj 0 _ eO b bu;rw[<- hD];exact Zn e
 generalize Kz:({ s2 with heap:=s2.heap.push { cls:=.type "list",dict:=none,data:=.seq ([]:Δ3).toArray } }:Shared)=s3 at I3 ⊢;have ir:∀b o,s2.heap.get? b=some o->s3.heap.get? b=some o:=λb o e=>by rw[<- Kz];exact Zj _ e
 have f3:∀b∈fp,dh X ae (aL H2 D (.lst [])) b:=λb bu=>⟨by rw[cS (Z9 (cg b bu))];exact(fk2 b bu).1,(fk2 b bu).2⟩
 have o3:∀b∈fp,∃o,s3.heap.get? b=some o:=λb bu=>let ⟨o,e,_⟩:=T.obj 0 _ eO b bu;⟨o,ir b o e⟩
 have I4:=I3.block B f3 o3;have lJ:tn 0 (pushCells (s3.heap.push { cls:=.type "dict",data:=.dict #[] }) scope.names):=T.keep 0 _ _ eO λb _ o e=>pushCells_keeps _ _ b o (Zj _ (ir b o e))
 obtain⟨hg,Bt,hi2,hg2,R3,he⟩:=hb s3.heap.objs.size fp s3 (aL H2 D (.lst []));generalize gw:cN X scope s3.heap.objs.size (own++cap) fp s3 (aL H2 D (.lst []))=X' at I4 hg Bt hi2 hg2 R3 he;have eP:X'.prog=X.prog:=by rw[<- gw];rfl
 have eW:X'.w=X.w:=by rw[<- gw];rfl
 have eK:X'.K=X.K:=by rw[<- gw];rfl
 have eA:X'.A=X.A:=by rw[<- gw];rfl
 have eE:X'.env=gX scope s3.heap.objs.size X.env:=by rw[<- gw];rfl
 have ex:X'.xe=λ_ _=>False:=by rw[<- gw];rfl
 have ja:X'.calm=true:=by rw[<- gw];exact hc
 have gy:∀{H':Hp},(∀b∈fp,H' b=none)->∀b∈fp,dh X' [] H' b:=λhn b bu=>by
  subst gw;exact⟨hn b bu,(I4.ok.Fl b bu).1,I4.ok.ss b bu,.inl bu,(I4.ok.Fl b bu).2,λp hp=>absurd (show p∈([]:Γ2) from hp) (by simp)⟩
 have loop:∀s4:Shared,s4={ s3 with heap:=pushCells (s3.heap.push { cls:=.type "dict",data:=.dict #[] }) scope.names } ->
   codeAny (model X.prog X.w) X.A (.compLoop (rC dr t1 i1 t2 i2 f1 f2 scope pos) 0 (.ref it) (.ref D) (gX scope s3.heap.objs.size X.env)) (RR (.ref D) s3.heap.objs.size) s4:=by
  rintro s4 rfl;refine uv (og _) (λn s'=>∃i aB H',Inv X' [] aB H' s'/\tn i s'.heap/\(∀b∈fp,H' b=none)/\W i n aB H') ?_ m0 ⟨0,_,_,I4,lJ,λb bu=>(f3 b bu).1,w0⟩;rintro n s5 ⟨i,kD,H5,I5,kE,zd,w5⟩;rcases eS i n kD H5 w5 with ⟨stop,qn⟩ |⟨go,N,hN,step⟩
  .have:=T.done X' eP eW eK ja i [] s5 kD H5 (λ_ _=>False) I5 (gy zd) kE stop;rw[eA] at this;refine bp this λr s6 ⟨hr,I6⟩=>?_
   subst hr;subst gw;have J6:Inv X ae σ H5 s6:=I3.xF (ch:=fp) I6.os I6.base I6.bP I6.bare λb bu=>⟨(f3 b bu).2.2.2.1,(f3 b bu).2.1,(f3 b bu).2.2.2.2.1,(f3 b bu).2.2.2.2.2⟩
   obtain⟨m,hn,_⟩:=I6.loc;exact KS D _ H5 s6 m J6 qn hn (I3.gB (Ze _) I6.free)
  .have:=T.item X' eP eW eK ja i [] s5 kD H5 (λ_ _=>False) I5 (gy zd) kE go;rw[eA] at this;refine bp this λr s6 ⟨u,hr,h6⟩=>?_
   subst hr;refine bp h6 λ_ s7 ⟨x,H7,I7,r7,y7,uJ,KY⟩=>?_
   have K6:=I7.pinned (gy KY) (T.obj _ _ uJ);have a1:=hg _ s7 kD H7 x u _ K6 r7 (step x H7 y7);rw[eP,eW,eA,eE,ex] at a1;refine bp a1 λ_ s8 ⟨uI,H8,I8,q8⟩=>?_
   have a2:=Bt _ s8 uI H8 _ I8 q8;rw[eP,eW,eA,eE,ex] at a2;refine bp a2 λb s9 ⟨H9,I9,q9⟩=>?_
   have again:∀{s':Shared}{aB:St}{H':Hp},Inv X' ([]++dY fp s7.heap) aB H' s'->N aB H'->∃m,m<n/\∃i aB H',Inv X' [] aB H' s'/\tn i s'.heap/\(∀b∈fp,H' b=none)/\W i m aB H':=λ{s' aB H'} I' n'=>by
    obtain⟨m',hm,w'⟩:=hN aB H' n';refine⟨m',hm,i+1,aB,H',I'.cX,T.keep _ _ _ uJ λb bu o e=>(I'.pin (b,o) (Zt _ (Zt _ (A9 bu e)))).1,λb bu=>?_,w'⟩;obtain⟨o,e,d⟩:=T.obj _ _ uJ b bu;exact(I'.pin (b,o) (Zt _ (Zt _ (A9 bu e)))).2.1
   cases b with
   |false=>exact again I9 q9
   |true =>
    rw[if_pos rfl] at q9 ⊢;have a3:=hi2 _ s9 uI H9 _ I9 q9;rw[eP,eW,eA,eE,ex] at a3;refine bp a3 λv10 Oh UE=>bp UE λFw O0 QB=>?_
    obtain⟨wT,QC,tn2,J2,UO,UH,K7,T2,Rf,Sd,W2,⟨m2,w2⟩,SK⟩:=QB;subst UH;have BZ:∀{H':Hp},(∀b∈QC,H' b=none)->∀b∈QC,dh X' ([]++dY fp s7.heap) H' b:=λhn b bu=>⟨hn b bu,(Sd b bu).2⟩
    have J1:codeAny (model X.prog X.w) X.A (.compLoop (rC dr t1 i1 t2 i2 f1 f2 scope pos) 1 (.ref wT) (.ref D) (gX scope s3.heap.objs.size X.env)) (λr mq=>r=.ok .next/\∃m,m<n/\∃i aB H',Inv X' [] aB H' mq/\tn i mq.heap/\(∀b∈fp,H' b=none)/\W i m aB H') O0:=by
     refine uw (λn s'=>∃i aB H',Inv X' ([]++dY fp s7.heap) aB H' s'/\tn2 i s'.heap/\(∀b∈QC,H' b=none)/\W2 i n aB H') ?_ m2 ⟨0,_,_,K7,Rf,λb bu=>(Sd b bu).1,w2⟩;rintro n2 yW ⟨j,FQ,YB,I12,Re,Sb,w12⟩;rcases SK j n2 FQ YB w12 with ⟨SX,qn2⟩ |⟨go2,N2,hN2,SY⟩
     .have:=T2.done X' rfl rfl rfl ja j _ yW FQ YB (λ_ _=>False) I12 (BZ Sb) Re SX;rw[eP,eW,eA] at this;refine bp this λr Bj ⟨hr,I13⟩=>?_
      subst hr;exact⟨rfl,again I13 qn2⟩
     .have:=T2.item X' rfl rfl rfl ja j _ yW FQ YB (λ_ _=>False) I12 (BZ Sb) Re go2;rw[eP,eW,eA] at this;refine bp this λr Bj ⟨u2,hr,h13⟩=>?_
      subst hr;refine bp h13 λ_ s14 ⟨x2,H14,I14,r14,Od,Li,Z'⟩=>?_
      have ψ:=I14.pinned (BZ Z') (T2.obj _ _ Li);have b1:=hg2 _ s14 FQ H14 x2 u2 _ ψ r14 (SY x2 H14 Od);rw[eP,eW,eA,eE,ex] at b1;refine bp b1 λ_ s15 ⟨FO,H15,I15,q15⟩=>?_
      have b2:=R3 _ s15 FO H15 _ I15 q15;rw[eP,eW,eA,eE,ex] at b2;refine bp b2 λbb s16 ⟨H16,I16,Vo⟩=>?_
      have DA:∀{s':Shared}{aB:St}{H':Hp},Inv X' (([]++dY fp s7.heap)++dY QC s14.heap) aB H' s'->N2 aB H'->∃m,m<n2/\∃i aB H',Inv X' ([]++dY fp s7.heap) aB H' s'/\tn2 i s'.heap/\(∀b∈QC,H' b=none)/\W2 i m aB H':=λ{s' aB H'} I' n'=>by
       obtain⟨m',hm,w'⟩:=hN2 aB H' n';refine⟨m',hm,j+1,aB,H',I'.cX,T2.keep _ _ _ Li λb bu o e=>(I'.pin (b,o) (Zt _ (Zt _ (A9 bu e)))).1,λb bu=>?_,w'⟩;obtain⟨o,e,d⟩:=T2.obj _ _ Li b bu;exact(I'.pin (b,o) (Zt _ (Zt _ (A9 bu e)))).2.1
      cases bb with
      |false=>exact DA I16 Vo
      |true =>
       rw[if_pos rfl] at Vo ⊢;have b3:=he _ s16 FO H16 _ I16 Vo;rw[eP,eW,eA,eE,ex] at b3;refine bp b3 λyv s17 ⟨y,H17,I17,r17,ys,PJ,hz,q17⟩=>?_
       have b4:=k4 (X:=X') _ s17 FO H17 (.ref D) [y] (.ref D) [yv] (λv H'=>v=.bV/\N2 FO H') I17 rfl (.cons r17 .nil) ⟨D,ys,y,rfl,rfl,PJ,hz,rfl,q17⟩;rw[eP,eW,eA,ex] at b4;refine bp b4 λ_ s18 ⟨_,H18,I18,_,_,q18⟩=>DA I18 q18
    have Jy:=T2.self X.A 0 O0 (λPB s'=>codeAny (model X.prog X.w) X.A (.compLoop (rC dr t1 i1 t2 i2 f1 f2 scope pos) 1 PB (.ref D) (gX scope s3.heap.objs.size X.env)) (λr mq=>r=.ok .next/\∃m,m<n/\∃i aB H',Inv X' [] aB H' mq/\tn i mq.heap/\(∀b∈fp,H' b=none)/\W i m aB H') s') (notedBy (model X.prog X.w) X.A (gX scope s3.heap.objs.size X.env) λx s'=>(Except.error x:Result)=.ok .next/\∃m,m<n/\∃i aB H',Inv X' [] aB H' s'/\tn i s'.heap/\(∀b∈fp,H' b=none)/\W i m aB H') Rf J1;rw[eP,eW] at Jy;exact jj5 J1 Jy
 exact codeAny_compStart_list (loop _ rfl) (T.self X.A 0 _ _ _ lJ (loop _ rfl))
def D9 (B:aJ X scope own cap ix)(hc:X.calm=true)(hi:PI X t1 i1 wi)
  (hb:∀C fp s H,PG (cN X scope C (own++cap) fp s H) t1 g1/\dX (cN X scope C (own++cap) fp s H) f1 A0/\PI (cN X scope C (own++cap) fp s H) t2 i2 IV/\PG (cN X scope C (own++cap) fp s H) t2 g2/\dX (cN X scope C (own++cap) fp s H) f2 AZ/\PE (cN X scope C (own++cap) fp s H) dr te)
  (hs:∀x,foldedSetIterable i1 X.env x=pure x:=by intro _;rfl) (og:∀(env:Env) x,foldedSetIterable i2 env x=pure x:=by intro _ _;rfl):PE X (.ListComp dr [⟨t1,i1,f1,0⟩,⟨t2,i2,f2,0⟩] scope pos) (CA wi g1 A0 IV g2 AZ te own.length ix):=by
 intro ae s σ H Q I h;rw[eval_ListComp];have has:∀x∈scope.names,x.2=.free->(X.env.cells.lookup x.1).isSome=true:=λx hx hk=>by
  obtain⟨c,e⟩:=I.ok.has x.1 (B.frees x hx hk);rw[e];rfl
 refine wpAny_comprehension_free (use:=none) rfl hs (Ot has) B.kind B.names ?_;show wpAny _ _ (eval i1 X.env) _ _ s;refine bp (hi ae s σ H _ I h) λv s1 h1=>bp h1 λFw s2 h2=>?_
 obtain⟨it,fp,tn,J,H2,e,I2,T,eO,f2,q⟩:=h2;subst e;refine wK (RR:=λacc C=>compPost (model X.prog X.w) X.A X.xe none (EP X ae σ Q) acc C) B hc hb og I2 T eO f2 q ?_;intro D C H' s' m I' q' hn fC;refine⟨m,hn,λh' rR=>⟨.ref D,H',?_,rfl,q'⟩⟩;exact I'.turned (t':=s'.toks) (it:=C) (λb o Bv e=>(rR.2 b Bv).trans e) fC.1 fC.2.1 fC.2.2.2.1 fC.2.2.2.2.1 fC.2.2.2.2.2
end
end L2
namespace L2
open PySem PySem.Spec PyProof.Rows KG
section
variable {te:TE}{acc a:Addr}{xs:List V}{cs:List (Option V)}{cC:Hp}{Q:VK}
end
end L2
namespace KM
open PySem L2 KG EX
def BI (D:List (Δ1)):PyData:=.tuple (D.map λqs=>.tuple (qs.map qD))
end KM
namespace L2
open PySem PySem.Spec PyProof.Rows KG
end L2
namespace KM
open PySem L2 KG EX
theorem qP {k:Nat}:∀{qs:Δ1},(∀q∈qs,Rb k q)->Rb (1+(k+1)*qs.length) (aH qs)
 |[],_=>lQ
 |q::qs,h=>by
  have ih:=qP (qs:=qs) λz hz=>h z (Zh _ hz)
  rw[Bn];have:=CN (h q Zg) ih;refine this.mono ?_;rw[Xo,Nat.mul_succ];omega
end KM
namespace PySem
open AutoSeq1 (wpAny_loadPart')
end PySem
namespace L2
open PySem PySem.Spec PyProof.Rows
section
variable {X:Cx}
end
end L2
namespace KM
open PySem L2 KG EX
theorem nu:∀(a b:Δ1),aH (a++b)=aH a+aH b
 |[],b=>by rw[List.nil_append];show _=(0:Rat)+_;rw[Yt]
 |q::a,b=>by rw[List.cons_append,Bn,Bn,nu a b,Rat.add_assoc]
end KM
namespace EX
open PySem PySem.Spec PyProof.Rows
section
variable {M:Model}{A:Around}{E:Θ2}{s:Shared}{B:Heap}{env:Env}{outer:List Env}{L e C t:Addr}{Q:Unit->Shared->Prop}
end
end EX
namespace L2
open PySem PySem.Spec PyProof.Rows EX
section
variable {X:Cx}{scope:Scope}{own cap:Δ2}{ix:List Nat}{tg iter dr:Expr}{du:Ξ2}{wi:TI}{g:TG}{tt:TT}{te:TE}{pos:Pos}
end
end L2
namespace PySem
section
variable {prog:Program}{w:World}{A:Around}{E:Θ2}{s:Shared}{z TI TO i1 i2 i3 l1 l2 l3:Addr}{k1 k2 k3:Nat}{xs ys us:Array Value}{x y u a b c:Value}
end
end PySem
namespace L2
open PySem PySem.Spec PyProof.Rows
section
variable {X:Cx}
end
end L2
namespace L2
open PySem PySem.Spec PyProof.Rows KG
section
variable {X:Cx}
end
end L2
namespace KM
open PySem L2 KG EX
end KM
namespace PySem
section
variable {prog:Program}{w:World}{A:Around}{E:Θ2}{s:Shared}{z TI TO i1 i2 l1 l2:Addr}{k1 k2:Nat}{xs ys:Array Value}{x y a b:Value}
end
end PySem
namespace L2
open PySem PySem.Spec PyProof.Rows
section
variable {X:Cx}
end
end L2
namespace KM
open PySem L2 KG EX
end KM
namespace MI
open PySem L2 KG EX KM
mutual
inductive ck (H:Hp):V->PyData->Prop
 |bV:ck H .bV .none
 |bl (c:Bool):ck H (.bl c) (.bool c)
 |int (i:Int):ck H (.int i) (.int i)
 |str (x:Str) (ok:(PyData.str x).canLay0=true):ck H (.str x) (.str x)
 |lst {a:Addr}{xs:List V}{ds:Ξ1}:H a=some (.lst xs)->aI H xs ds->ck H (.ref a) (.list ds)
 |tup {a:Addr}{xs:List V}{ds:Ξ1}:H a=some (.tup xs)->aI H xs ds->ck H (.ref a) (.tuple ds)
inductive aI (H:Hp):List V->Ξ1->Prop
 |nil:aI H [] []
 |cons {x:V}{xs:List V}{d:PyData}{ds:Ξ1}:ck H x d->aI H xs ds->aI H (x::xs) (d::ds)
end
mutual
theorem ck.ap {H H':Hp}(k:ay H H'):∀{v:V}{d:PyData},ck H v d->ck H' v d
 |_,_,.bV=>.bV
 |_,_,.bl c=>.bl c
 |_,_,.int i=>.int i
 |_,_,.str x o=>.str x o
 |_,_,.lst h t=>.lst (k _ _ h) (aI.ap k t)
 |_,_,.tup h t=>.tup (k _ _ h) (aI.ap k t)
theorem aI.ap {H H':Hp}(k:ay H H'):∀{vs:List V}{ds:Ξ1},aI H vs ds->aI H' vs ds
 |_,_,.nil=>.nil
 |_,_,.cons h t=>.cons (ck.ap k h) (aI.ap k t)
end
mutual
theorem ck.dt {K:Θ1}{H:Hp}:∀{v:V}{d:PyData},ck H v d->lN K H v d
 |_,_,.bV=>.bV
 |_,_,.bl c=>.bl c
 |_,_,.int i=>.int i
 |_,_,.str x o=>.str x o
 |_,_,.lst h t=>.lst (bD.of h) (aI.dt t)
 |_,_,.tup h t=>.tup (aM.of h) (aI.dt t)
theorem aI.dt {K:Θ1}{H:Hp}:∀{vs:List V}{ds:Ξ1},aI H vs ds->eV K H vs ds
 |_,_,.nil=>.nil
 |_,_,.cons h t=>.cons (ck.dt h) (aI.dt t)
end
theorem aI.len {H:Hp}:∀{vs:List V}{ds:Ξ1},aI H vs ds->vs.length=ds.length
 |_,_,.nil=>rfl
 |_,_,.cons _ t=>by simp[aI.len t]
theorem aI.app {H:Hp}:∀{vs ws:List V}{ds es:Ξ1},aI H vs ds->aI H ws es->aI H (vs++ws) (ds++es)
 |_,_,_,_,.nil,g=>g
 |_,_,_,_,.cons h t,g=>.cons h (aI.app t g)
theorem aI.take {H:Hp}:∀{vs:List V}{ds:Ξ1}(n:Nat),aI H vs ds->aI H (vs.take n) (ds.take n)
 |_,_,0,_=>by simpa using aI.nil
 |_,_,n+1,.nil=>by simpa using aI.nil
 |_,_,n+1,.cons h t=>.cons h (aI.take n t)
theorem aI.drop {H:Hp}:∀{vs:List V}{ds:Ξ1}(n:Nat),aI H vs ds->aI H (vs.drop n) (ds.drop n)
 |_,_,0,h=>h
 |_,_,n+1,.nil=>by simpa using aI.nil
 |_,_,n+1,.cons h t=>aI.drop n t
theorem aI.at {H:Hp}:∀{vs:List V}{ds:Ξ1}{i:Nat}{x:V},aI H vs ds->vs[i]?=some x->∃d,ds[i]?=some d/\ck H x d
 |_,_,0,_,.cons h t,e=>⟨_,rfl,by rw[<- Option.some.inj e];exact h⟩
 |_,_,i+1,x,.cons h t,e=>by
  obtain⟨d,h1,h2⟩:=aI.at (i:=i) (x:=x) t (by simpa using e);exact⟨d,by simpa using h1,h2⟩
theorem aI.get {H:Hp}:∀{vs:List V}{ds:Ξ1}{i:Nat}{d:PyData},aI H vs ds->ds[i]?=some d->∃x,vs[i]?=some x/\ck H x d
 |_,_,0,_,.cons h t,e=>⟨_,rfl,by rw[<- Option.some.inj e];exact h⟩
 |_,_,i+1,x,.cons h t,e=>by
  obtain⟨d,h1,h2⟩:=aI.get (i:=i) (d:=x) t (by simpa using e);exact⟨d,by simpa using h1,h2⟩
mutual
def A3:PyData->Bool
 |.list _=>false
 |.dict _=>false
 |.tuple ds=>pZ ds
 |_=>true
def pZ:Ξ1->Bool
 |[]=>true
 |d::ds=>A3 d&&pZ ds
end
mutual
theorem lO {b:Addr}{H g:Hp}(k:∀a xs,H a=some (.tup xs)->g a=some (.tup xs)):∀{v:V}{d:PyData},A3 d=true->iN b H v d->ck g v d
 |_,_,_,.bV=>.bV
 |_,_,_,.bl c=>.bl c
 |_,_,_,.int i=>.int i
 |_,_,_,.str x o=>.str x o
 |_,_,n,.lst _ h t=>by cases n
 |_,_,n,.tup h t=>.tup (k _ _ h) (oV k n t)
theorem oV {b:Addr}{H g:Hp}(k:∀a xs,H a=some (.tup xs)->g a=some (.tup xs)):∀{vs:List V}{ds:Ξ1},pZ ds=true->cB b H vs ds->aI g vs ds
 |_,_,_,.nil=>.nil
 |_,_,n,.cons h t=>by
  have n':=(Z8 _ _).mp n;exact .cons (lO k n'.1 h) (oV k n'.2 t)
end
mutual
theorem ck.OX {b:Addr}{H:Hp}:∀{v:V}{d:PyData},A3 d=true->ck H v d->iN b H v d
 |_,_,_,.bV=>.bV
 |_,_,_,.bl c=>.bl c
 |_,_,_,.int i=>.int i
 |_,_,_,.str x o=>.str x o
 |_,_,n,.lst h t=>by cases n
 |_,_,n,.tup h t=>.tup h (aI.OX n t)
theorem aI.OX {b:Addr}{H:Hp}:∀{vs:List V}{ds:Ξ1},pZ ds=true->aI H vs ds->cB b H vs ds
 |_,_,_,.nil=>.nil
 |_,_,n,.cons h t=>by
  have n':=(Z8 _ _).mp n;exact .cons (ck.OX n'.1 h) (aI.OX n'.2 t)
end
inductive AV where
 |im (d:PyData) |own (k:Nat) |bag (j:Nat) |wO (ns:Γ3) |ze (k:Nat)
abbrev Φ9(d:PyData):Option AV:=some (.im d)
abbrev aF:=List (Option (List AV))
abbrev fK:=List (Option AV)
structure Wd where
 dg:List Addr
 bA:List Addr
 bG:List (Addr×HO)
 ib:List Nat
def jc (w:Wd)(O:aF)(a:Addr):Prop:=a∈w.dg\/(∃o,(a,o)∈w.bG)\/∃(k:Nat) (c:List AV),w.bA[k]?=some a/\O[k]?=some (some c)
open Classical in
def G (w:Wd)(O:aF)(H:Hp):Hp:=λa=>if jc w O a then none else H a
def gC {w:Wd}{O:aF}{H:Hp}{a:Addr}(h:¬ jc w O a):G w O H a=H a:=if_neg h
def eU {w:Wd}{O:aF}{H:Hp}{a:Addr}{o:HO}(h:G w O H a=some o):H a=some o/\¬ jc w O a:=by
 unfold G at h;split at h
 .cases h
 .exact⟨h,by assumption⟩
def jd (K:Θ1)(w:Wd)(g:Hp)(v:V):AV->Prop
 |.im d=>ck g v d
 |.own k=>∃a,w.bA[k]?=some a/\k∉w.ib/\v=.ref a
 |.ze k=>∃a,w.bA[k]?=some a/\k∈w.ib/\v=.ref a
 |.bag j=>∃a,w.dg[j]?=some a/\v=.ref a
 |.wO ns=>∃a,v=.ref a/\bD K g a (ns.map V.int)
def aZ (K:Θ1)(w:Wd)(g:Hp)(vs:List V)(xs:List AV):Prop:=vs.length=xs.length/\∀(i:Nat) v x,vs[i]?=some v->xs[i]?=some x->jd K w g v x
def pairD (p:Int×PyData):AV:=.im (.tuple [.int p.1,p.2])
inductive rH (g:Hp):List (bJ×V)->List AV->Prop
 |nil:rH g [] []
 |cons {n:Int}{v:V}{d:PyData}{kvs:List (bJ×V)}{c:List AV}:ck g v d->rH g kvs c->rH g ((Sum.inl n,v)::kvs) (pairD (n,d)::c)
def p9 (K:Θ1)(w:Wd)(g:Hp)(k:Nat)(o:HO)(c:List AV):Prop:=k<w.bA.length/\((k∉w.ib/\∃vs,o=.lst vs/\aZ K w g vs c)\/(k∈w.ib/\∃kvs,o=.dK kvs/\rH g kvs c))
structure az (K:Θ1)(w:Wd)(O:aF)(H:Hp):Prop where
 len:w.bA.length=O.length
 nd:w.bA.Nodup
 al:∀a∈w.bA,∃o,H a=some o
 nb:∀a∈w.dg,a∉w.bA
 hn:(w.bG.map (·.1)).Nodup
 nh:∀p∈w.bG,p.1∉w.bA/\p.1∉w.dg/\H p.1=some p.2/\∀xs,p.2≠.tup xs
 bg:∀a∈w.dg,rJ H a
 uG:∀(k:Nat) c,O[k]?=some (some c)->∃a o,w.bA[k]?=some a/\H a=some o/\p9 K w (G w O H) k o c
 dl:∀k∈w.ib,k<O.length
structure iO (w:Wd)(O:aF)(H:Hp)(w':Wd)(O':aF)(H':Hp):Prop where
 bs:∃t,w'.dg=w.dg++t
 bA:∃t,w'.bA=w.bA++t
 hs:∃t,w'.bG=t++w.bG
 ap:ay (G w O H) (G w' O' H')
 dk:∀k,k<w.bA.length->(k∈w'.ib↔k∈w.ib)
structure bW (w:Wd)(O:aF)(H:Hp)(w':Wd)(O':aF)(H':Hp):Prop where
 ex:iO w O H w' O' H'
 bG:w'.bG=w.bG
def iO.refl (w:Wd)(O:aF)(H:Hp):iO w O H w O H:=⟨⟨[],by simp⟩,⟨[],by simp⟩,⟨[],by simp⟩,ay.refl _,λ_ _=>Iff.rfl⟩
def iO.trans {w w1 w2:Wd}{O O1 O2:aF}{H H1 H2:Hp}(a:iO w O H w1 O1 H1)(b:iO w1 O1 H1 w2 O2 H2):iO w O H w2 O2 H2:=by
 obtain⟨t,ht⟩:=a.bA;obtain⟨u,hu⟩:=b.bA;obtain⟨t',ht'⟩:=a.hs;obtain⟨u',hu'⟩:=b.hs;obtain⟨t2,Ky⟩:=a.bs;obtain⟨u2,VH⟩:=b.bs;exact⟨⟨t2++u2,by rw[VH,Ky,Ys]⟩,⟨t++u,by rw[hu,ht,Ys]⟩,⟨u'++t',by rw[hu',ht',Ys]⟩,a.ap.trans b.ap,λk hk=>(b.dk k (by rw[ht,Zu];omega)).trans (a.dk k hk)⟩
def bW.refl (w:Wd)(O:aF)(H:Hp):bW w O H w O H:=⟨iO.refl _ _ _,rfl⟩
def bW.trans {w w1 w2:Wd}{O O1 O2:aF}{H H1 H2:Hp}(a:bW w O H w1 O1 H1)(b:bW w1 O1 H1 w2 O2 H2):bW w O H w2 O2 H2:=⟨a.ex.trans b.ex,b.bG.trans a.bG⟩
def iO.at {w w1:Wd}{O O1:aF}{H H1:Hp}(e:iO w O H w1 O1 H1){k:Nat}{a:Addr}(h:w.bA[k]?=some a):w1.bA[k]?=some a:=by
 obtain⟨t,ht⟩:=e.bA;rw[ht,Zp (Zf.mp h).1];exact h
theorem jd.ex {K:Θ1}{w w1:Wd}{O O1:aF}{H H1:Hp}(e:iO w O H w1 O1 H1){v:V}:∀{x:AV},jd K w (G w O H) v x->jd K w1 (G w1 O1 H1) v x
 |.im d,h=>by
  exact ck.ap e.ap h
 |.own k,h=>by
  obtain⟨a,h1,h2,h3⟩:=h;exact⟨a,e.at h1,λz=>h2 ((e.dk k (Zf.mp h1).1).mp z),h3⟩
 |.ze k,h=>by
  obtain⟨a,h1,h2,h3⟩:=h;exact⟨a,e.at h1,(e.dk k (Zf.mp h1).1).mpr h2,h3⟩
 |.bag j,h=>by
  obtain⟨a,h1,h2⟩:=h;obtain⟨t,ht⟩:=e.bs;exact⟨a,by rw[ht,Zp (Zf.mp h1).1];exact h1,h2⟩
 |.wO ns,h=>by
  obtain⟨a,h1,h2⟩:=h;exact⟨a,h1,KG.bD.ap h2 e.ap⟩
def aZ.ex {K:Θ1}{w w1:Wd}{O O1:aF}{H H1:Hp}(e:iO w O H w1 O1 H1){vs:List V}{xs:List AV}(h:aZ K w (G w O H) vs xs):aZ K w1 (G w1 O1 H1) vs xs:=⟨h.1,λi v x h1 h2=>(h.2 i v x h1 h2).ex e⟩
def rH.ap {g g':Hp}(s:ay g g'){kvs:List (bJ×V)}{c:List AV}(h:rH g kvs c):rH g' kvs c:=by
 induction h with
 |nil=>exact .nil
 |cons t _ ih=>exact .cons (ck.ap s t) ih
def p9.ex {K:Θ1}{w w1:Wd}{O O1:aF}{H H1:Hp}(e:iO w O H w1 O1 H1){k:Nat}{o:HO}{c:List AV}(h:p9 K w (G w O H) k o c):p9 K w1 (G w1 O1 H1) k o c:=by
 obtain⟨hk,h⟩:=h;refine⟨by obtain⟨t,ht⟩:=e.bA;rw[ht,Zu];omega,?_⟩;rcases h with ⟨h1,vs,h2,h3⟩ |⟨h1,kvs,h2,h3⟩
 .exact .inl ⟨λz=>h1 ((e.dk k hk).mp z),vs,h2,h3.ex e⟩
 .exact .inr ⟨(e.dk k hk).mpr h1,kvs,h2,h3.ap e.ap⟩
def az.oD {K:Θ1}{w:Wd}{O:aF}{H:Hp}(r:az K w O H){k:Nat}{c:List AV}(hn:k∉w.ib)(h:O[k]?=some (some c)):∃a vs,w.bA[k]?=some a/\H a=some (.lst vs)/\aZ K w (G w O H) vs c:=by
 obtain⟨a,o,h1,h2,_,h3⟩:=r.uG k c h;rcases h3 with ⟨_,vs,rfl,h4⟩ |⟨h4,_⟩
 .exact⟨a,vs,h1,h2,h4⟩
 .exact absurd h4 hn
def az.Sk {K:Θ1}{w:Wd}{O:aF}{H:Hp}(r:az K w O H){k:Nat}{c:List AV}(hn:k∈w.ib)(h:O[k]?=some (some c)):∃a kvs,w.bA[k]?=some a/\H a=some (.dK kvs)/\rH (G w O H) kvs c:=by
 obtain⟨a,o,h1,h2,_,h3⟩:=r.uG k c h;rcases h3 with ⟨h4,_⟩ |⟨_,kvs,rfl,h4⟩
 .exact absurd hn h4
 .exact⟨a,kvs,h1,h2,h4⟩
def aZ.nil {K:Θ1}{w:Wd}{g:Hp}:aZ K w g [] []:=⟨rfl,λi v x h=>by simp at h⟩
def aZ.cons {K:Θ1}{w:Wd}{g:Hp}{v:V}{x:AV}{vs:List V}{xs:List AV}(h:jd K w g v x)(hs:aZ K w g vs xs):aZ K w g (v::vs) (x::xs):=by
 refine⟨by simp[hs.1],λi u y h1 h2=>?_⟩;cases i with
 |zero=>simp at h1 h2;rw[<- h1,<- h2];exact h
 |succ i=>exact hs.2 i u y (by simpa using h1) (by simpa using h2)
def aZ.aP {K:Θ1}{w:Wd}{g:Hp}{vs:List V}{x:AV}{xs:List AV}(h:aZ K w g vs (x::xs)):∃v us,vs=v::us/\jd K w g v x/\aZ K w g us xs:=by
 cases vs with
 |nil=>exact absurd h.1 (by simp)
 |cons v us =>
  refine⟨v,us,rfl,h.2 0 v x rfl rfl,by have:=h.1;simp at this;exact this,λi u y h1 h2=>h.2 (i+1) u y (by simpa using h1) (by simpa using h2)⟩
def aZ.bX {K:Θ1}{w:Wd}{g:Hp}{vs:List V}(h:aZ K w g vs []):vs=[]:=Q6.mp h.1
def aZ.app {K:Θ1}{w:Wd}{g:Hp}{vs us:List V}{xs ys:List AV}(h:aZ K w g vs xs)(h':aZ K w g us ys):aZ K w g (vs++us) (xs++ys):=by
 refine⟨by simp[h.1,h'.1],λi v x h1 h2=>?_⟩;rcases Z5 i vs.length with y |y
 .rw[Zp y] at h1;rw[Zp (by rw[<- h.1];exact y)] at h2;exact h.2 i v x h1 h2
 .rw[Yh y] at h1;rw[Yh (by rw[<- h.1];exact y)] at h2;rw[<- h.1] at h2;exact h'.2 _ v x h1 h2
def aZ.set {K:Θ1}{w:Wd}{g:Hp}{vs:List V}{xs:List AV}{v:V}{x:AV}(h:aZ K w g vs xs)(hx:jd K w g v x)(j:Nat):aZ K w g (vs.set j v) (xs.set j x):=by
 refine⟨by simp[h.1],λi u y h1 h2=>?_⟩;by_cases e:j=i
 .subst e;have hl:=(Zf.mp h1).1;rw[Yo] at hl;rw[Yl hl] at h1;rw[Yl (by rw[<- h.1];exact hl)] at h2;rw[<- Option.some.inj h1,<- Option.some.inj h2];exact hx
 .rw[Z6 e] at h1 h2;exact h.2 i u y h1 h2
def aZ.at {K:Θ1}{w:Wd}{g:Hp}{vs:List V}{xs:List AV}{i:Nat}{x:AV}(h:aZ K w g vs xs)(hx:xs[i]?=some x):∃v,vs[i]?=some v/\jd K w g v x:=by
 have hl:=(Zf.mp hx).1;have hv:i<vs.length:=by rw[h.1];exact hl
 exact⟨vs[i],Zc hv,h.2 i _ x (Zc hv) hx⟩
theorem aI.UL {K:Θ1}{w:Wd}{g:Hp}:∀{vs:List V}{ds:Ξ1},aI g vs ds->aZ K w g vs (ds.map .im)
 |_,_,.nil=>aZ.nil
 |_,_,.cons h t=>aZ.cons h (aI.UL t)
theorem aZ.tr {K:Θ1}{w:Wd}{g:Hp}:∀{ds:Ξ1}{vs:List V},aZ K w g vs (ds.map .im)->aI g vs ds
 |[],_,h=>by rw[aZ.bX h];exact .nil
 |d::ds,_,h=>by
  obtain⟨v,us,rfl,h1,h2⟩:=aZ.aP h;exact .cons h1 (aZ.tr h2)
def bt (K:Θ1)(w:Wd)(g:Hp)(σ:St)(sl:fK):Prop:=σ.length=sl.length/\∀(i:Nat) x,sl[i]?=some (some x)->∃v,σ[i]?=some (some v)/\jd K w g v x
def bt.ex {K:Θ1}{w w1:Wd}{O O1:aF}{H H1:Hp}(e:iO w O H w1 O1 H1){σ:St}{sl:fK}(h:bt K w (G w O H) σ sl):bt K w1 (G w1 O1 H1) σ sl :=
 ⟨h.1,λi x hx=>by obtain⟨v,h1,h2⟩:=h.2 i x hx;exact⟨v,h1,h2.ex e⟩⟩
def bt.set {K:Θ1}{w:Wd}{g:Hp}{σ:St}{sl:fK}(h:bt K w g σ sl){v:V}{x:AV}(hx:jd K w g v x)(j:Nat):bt K w g (σ.set j (some v)) (sl.set j (some x)):=by
 refine⟨by simp[h.1],λi y h2=>?_⟩;by_cases e:j=i
 .subst e;have hl:=(Zf.mp h2).1;rw[Yo] at hl;rw[Yl hl] at h2;have hy:x=y:=by injection (Option.some.inj h2)
  exact⟨v,by rw[Yl (by rw[h.1];exact hl)],hy▸hx⟩
 .rw[Z6 e] at h2;rw[Z6 e];exact h.2 i y h2
def cV (own:Nat)(ix:List Nat)(sl:fK):fK:=List.replicate own none++ix.map λi=>(sl[i]?).getD none
def bt.UK {K:Θ1}{w:Wd}{g:Hp}{σ:St}{sl:fK}(h:bt K w g σ sl)(own:Nat)(ix:List Nat):bt K w g (dQ own ix σ) (cV own ix sl):=by
 refine⟨by simp[dQ,cV],λi x hx=>?_⟩;unfold cV at hx;unfold dQ;rcases Z5 i own with y |y
 .rw[Zp (by simpa using y)] at hx;rw[Xc,if_pos y] at hx;cases Option.some.inj hx
 .rw[Yh (by simpa using y)] at hx ⊢;rw[Qj,Zl] at hx ⊢;cases hj:ix[i-own]? with
  |none=>rw[hj] at hx;cases hx
  |some j =>
   rw[hj] at hx;have uF:(sl[j]?).getD none=some x:=Option.some.inj hx;have:sl[j]?=some (some x):=by
    cases hs:sl[j]? with
    |none=>rw[hs] at uF;cases uF
    |some o=>rw[hs] at uF;exact congrArg some uF
   obtain⟨v,h1,h2⟩:=h.2 j x this;refine⟨v,?_,h2⟩;show some ((σ[j]?).getD none)=_;rw[h1];rfl
def Zx (K:Θ1)(QX:Addr->aF->Prop)(E:XK)(w:Wd)(O:aF)(H:Hp):Prop:=∀c O' w' H',QX c O'->iO w O H w' O' H'->az K w' O' H'->E (.ref c) none H'
structure jO (K:Θ1)(QX:Addr->aF->Prop)(E:XK)(w:Wd)(O:aF)(H:Hp)(σ:St)(sl:fK):Prop where
 ro:az K w O H
 so:bt K w (G w O H) σ sl
 zx:Zx K QX E w O H
def jO.ex {K:Θ1}{QX:Addr->aF->Prop}{E:XK}{w w1:Wd}{O O1:aF}{H H1:Hp}{σ:St}{sl:fK}(c:jO K QX E w O H σ sl)(e:iO w O H w1 O1 H1)(r:az K w1 O1 H1):jO K QX E w1 O1 H1 σ sl :=
 ⟨r,c.so.ex e,λk O' w' H' q e' r'=>c.zx k O' w' H' q (e.trans e') r'⟩
abbrev ME:=fK->aF->(AV->aF->Prop)->Prop
abbrev MT:=fK->aF->(Bool->aF->Prop)->Prop
abbrev MA:=fK->aF->(List AV->aF->Prop)->Prop
structure xI where
 nx:fK->aF->Prop
 rt:AV->aF->Prop
 bk:fK->aF->Prop:=λ_ _=>False
 ct:fK->aF->Prop:=λ_ _=>False
abbrev MS:=xI->fK->aF->Prop
section
variable (K:Θ1)(QX:Addr->aF->Prop)(E:XK)
def bO (M:ME):TE:=λσ H Q=>∃w O sl Q0,jO K QX E w O H σ sl/\M sl O Q0/\∀x O' v w' H',Q0 x O'->bW w O H w' O' H'->az K w' O' H'->jd K w' (G w' O' H') v x->Q v H'
def lm (M:MT):TT:=λσ H Q=>∃w O sl Q0,jO K QX E w O H σ sl/\M sl O Q0/\∀c O' w' H',Q0 c O'->bW w O H w' O' H'->az K w' O' H'->Q c H'
def uC (M:MA):TA:=λσ H Q=>∃w O sl Q0,jO K QX E w O H σ sl/\M sl O Q0/\∀xs O' vs w' H',Q0 xs O'->bW w O H w' O' H'->az K w' O' H'->aZ K w' (G w' O' H') vs xs->Q vs H'
def jt (M:MS):TS:=λD σ H=>∃w O sl D0,jO K QX E w O H σ sl/\M D0 sl O /\
 (∀dH O' w' H' aB,D0.nx dH O'->jO K QX E w' O' H' aB dH->bW w O H w' O' H'->D.nx aB H') /\
 (∀dH O' w' H' aB,D0.bk dH O'->jO K QX E w' O' H' aB dH->bW w O H w' O' H'->D.bk aB H') /\
 (∀dH O' w' H' aB,D0.ct dH O'->jO K QX E w' O' H' aB dH->bW w O H w' O' H'->D.ct aB H') /\
 (∀x O' w' H' v,D0.rt x O'->bW w O H w' O' H'->az K w' O' H'->jd K w' (G w' O' H') v x->D.rt v H')
end
section
variable {K:Θ1}{w:Wd}{O:aF}{H H':Hp}
def az.all (r:az K w O H){a:Addr}(h:jc w O a):∃o,H a=some o:=by
 rcases h with h1 |⟨o,h1⟩ |⟨k,c,h1,h2⟩
 .obtain⟨c,d,e⟩:=r.bg _ h1;exact⟨_,e⟩
 .exact⟨_,(r.nh _ h1).2.2.1⟩
 .obtain⟨a',vs,e1,e2,_⟩:=r.uG k c h2;rw[h1] at e1;cases Option.some.inj e1;exact⟨_,e2⟩
def az.fresh (r:az K w O H){a:Addr}(h:H a=none):¬ jc w O a:=λz=>by obtain⟨o,e⟩:=r.all z;rw[h] at e;cases e
def az.ap (r:az K w O H)(s:ay H H'):az K w O H'/\bW w O H w O H'/\∀a o,H a=none->H' a=some o->G w O H' a=some o:=by
 have sg:ay (G w O H) (G w O H'):=λa o h=>by
  obtain⟨h1,h2⟩:=eU h;rw[gC h2];exact s _ _ h1
 have e:bW w O H w O H':=⟨⟨⟨[],by simp⟩,⟨[],by simp⟩,⟨[],by simp⟩,sg,λ_ _=>Iff.rfl⟩,rfl⟩;refine⟨⟨r.len,r.nd,λa ha=>(let ⟨o,h⟩:=r.al a ha;⟨o,s _ _ h⟩),r.nb,r.hn,λp hp=>⟨(r.nh p hp).1,(r.nh p hp).2.1,s _ _ (r.nh p hp).2.2.1,(r.nh p hp).2.2.2⟩,λa ha=>rJ.ap (r.bg a ha) s,λk c hk=>?_,r.dl⟩,e,λa o h1 h2=>?_⟩
 .obtain⟨a,vs,h1,h2,h3⟩:=r.uG k c hk;exact⟨a,vs,h1,s _ _ h2,h3.ex e.ex⟩
 .rw[gC (r.fresh h1)];exact h2
def az.draw (r:az K w O H){b:Addr}(hb:b∈w.dg)(k:Kp b H H')(hB:rJ H' b):az K w O H'/\bW w O H w O H'/\∀a o,H a=none->H' a=some o->G w O H' a=some o:=by
 have sg:ay (G w O H) (G w O H'):=λa o h=>by
  obtain⟨h1,h2⟩:=eU h;rw[gC h2];exact k _ _ (λz=>h2 (Or.inl (z▸hb))) h1
 have e:bW w O H w O H':=⟨⟨⟨[],by simp⟩,⟨[],by simp⟩,⟨[],by simp⟩,sg,λ_ _=>Iff.rfl⟩,rfl⟩;refine⟨⟨r.len,r.nd,λa ha=>(let ⟨o,h⟩:=r.al a ha;⟨o,k _ _ (λz=>r.nb b hb (z▸ha)) h⟩),r.nb,r.hn,λp hp=>⟨(r.nh p hp).1,(r.nh p hp).2.1,k _ _ (λz=>(r.nh p hp).2.1 (z▸hb)) (r.nh p hp).2.2.1,(r.nh p hp).2.2.2⟩,λa ha=>?_,λj c hk=>?_,r.dl⟩,e,λa o h1 h2=>?_⟩
 .by_cases z:a=b
  .rw[z];exact hB
  .obtain⟨x,y,q⟩:=r.bg a ha;exact⟨x,y,k _ _ z q⟩
 .obtain⟨a,vs,h1,h2,h3⟩:=r.uG j c hk;exact⟨a,vs,h1,k _ _ (λz=>r.nb b hb (z▸Zz h1)) h2,h3.ex e.ex⟩
 .rw[gC (r.fresh h1)];exact h2
def az.bag (r:az K w O H){p:Addr}{x y:Int}(hp:H p=none):az K { w with dg:=w.dg++[p] } O (aL H p (.lst [.int x,.int y]))/\bW w O H { w with dg:=w.dg++[p] } O (aL H p (.lst [.int x,.int y])):=by
 have kK:∀a,jc { w with dg:=w.dg++[p] } O a->jc w O a\/a=p:=λa h=>by
  rcases h with h |h
  .rcases Z0.mp h with h |h
   .exact .inl (.inl h)
   .exact .inr (Z2.mp h)
  .exact .inl (.inr h)
 have sg:ay (G w O H) (G { w with dg:=w.dg++[p] } O (aL H p (.lst [.int x,.int y]))):=λa o h=>by
  obtain⟨h1,h2⟩:=eU h;have bo:a≠p:=λz=>by rw[z,hp] at h1;cases h1
  rw[gC (λz=>(kK a z).elim h2 bo),cS bo];exact h1
 have e:bW w O H { w with dg:=w.dg++[p] } O (aL H p (.lst [.int x,.int y])):=⟨⟨⟨[p],rfl⟩,⟨[],by simp⟩,⟨[],by simp⟩,sg,λ_ _=>Iff.rfl⟩,rfl⟩;have Pw:p∉w.bA:=λz=>by obtain⟨u,h⟩:=r.al p z;rw[hp] at h;cases h
 refine⟨⟨r.len,r.nd,λa ha=>?_,λa ha=>?_,r.hn,λq hq=>?_,λa ha=>?_,λk c hk=>?_,r.dl⟩,e⟩
 .obtain⟨u,h⟩:=r.al a ha;have bo:a≠p:=λz=>Pw (z▸ha)
  exact⟨u,by rw[cS bo];exact h⟩
 .rcases Z0.mp ha with h |h
  .exact r.nb a h
  .rw[Z2.mp h];exact Pw
 .obtain⟨h1,h2,h3,h4⟩:=r.nh q hq;have bo:q.1≠p:=λz=>by rw[z,hp] at h3;cases h3
  refine⟨h1,λz=>?_,by rw[cS bo];exact h3,h4⟩;rcases Z0.mp z with h |h
  .exact h2 h
  .exact bo (Z2.mp h)
 .rcases Z0.mp ha with h |h
  .exact(r.bg a h).new hp
  .rw[Z2.mp h];exact⟨x,y,dM⟩
 .obtain⟨a',vs,h1,h2,h3⟩:=r.uG k c hk;have bo:a'≠p:=λz=>by rw[z,hp] at h2;cases h2
  exact⟨a',vs,h1,by rw[cS bo];exact h2,h3.ex e.ex⟩
def az.new (r:az K w O H){p:Addr}{o:HO}(hp:H p=none):az K w O (aL H p o)/\bW w O H w O (aL H p o)/\G w O (aL H p o) p=some o:=by
 obtain⟨h1,h2,h3⟩:=r.ap ((ay.refl H).new (o:=o) hp);exact⟨h1,h2,h3 p o hp dM⟩
def jc.set {k:Nat}{c c':List AV}{a:Addr}(hk:O[k]?=some (some c)):jc w (O.set k (some c')) a↔jc w O a:=by
 have hl:=(Zf.mp hk).1;unfold jc;constructor
 .rintro(h |h |⟨j,d,h1,h2⟩)
  .exact .inl h
  .exact .inr (.inl h)
  .by_cases e:k=j
   .subst e;exact .inr (.inr ⟨k,c,h1,hk⟩)
   .rw[Z6 e] at h2;exact .inr (.inr ⟨j,d,h1,h2⟩)
 .rintro(h |h |⟨j,d,h1,h2⟩)
  .exact .inl h
  .exact .inr (.inl h)
  .by_cases e:k=j
   .subst e;exact .inr (.inr ⟨k,c',h1,Yl hl⟩)
   .exact .inr (.inr ⟨j,d,h1,by rw[Z6 e];exact h2⟩)
def az.put (r:az K w O H){k:Nat}{c c':List AV}{a:Addr}{vs rK:List V}(hk:O[k]?=some (some c))(hn:k∉w.ib)(ha:w.bA[k]?=some a)(hv:H a=some (.lst vs))(hc:aZ K w (G w O H) rK c') :
  az K w (O.set k (some c')) (aL H a (.lst rK))/\bW w O H w (O.set k (some c')) (aL H a (.lst rK)):=by
 have hl:=(Zf.mp hk).1;have LN:jc w O a:=.inr (.inr ⟨k,c,ha,hk⟩);have sg:ay (G w O H) (G w (O.set k (some c')) (aL H a (.lst rK))):=λx o h=>by
  obtain⟨h1,h2⟩:=eU h;have bo:x≠a:=λz=>h2 (z▸LN)
  rw[gC (λz=>h2 ((jc.set hk).mp z)),cS bo];exact h1
 have e:bW w O H w (O.set k (some c')) (aL H a (.lst rK)):=⟨⟨⟨[],by simp⟩,⟨[],by simp⟩,⟨[],by simp⟩,sg,λ_ _=>Iff.rfl⟩,rfl⟩;refine⟨⟨by rw[Yo];exact r.len,r.nd,λx hx=>?_,r.nb,r.hn,λp hp=>?_,λb hb=>?_,λj d hj=>?_,λj hj=>by rw[Yo];exact r.dl j hj⟩,e⟩
 .obtain⟨o,h⟩:=r.al x hx;by_cases z:x=a
  .subst z;exact⟨_,dM⟩
  .exact⟨o,by rw[cS z];exact h⟩
 .obtain⟨h1,h2,h3,h4⟩:=r.nh p hp;have bo:p.1≠a:=λz=>h1 (z▸Zz ha)
  exact⟨h1,h2,by rw[cS bo];exact h3,h4⟩
 .exact(r.bg b hb).acc (λz=>r.nb b hb (z▸Zz ha))
 .by_cases ej:k=j
  .subst ej;rw[Yl hl] at hj;have hd:c'=d:=by injection (Option.some.inj hj)
   subst hd;exact⟨a,_,ha,dM,(Zf.mp ha).1,.inl ⟨hn,rK,rfl,hc.ex e.ex⟩⟩
  .rw[Z6 ej] at hj;obtain⟨a',us,h1,h2,h3⟩:=r.uG j d hj;have bo:a'≠a:=λz=>by
    subst z;exact ej ((List.getElem?_inj (Zf.mp ha).1 r.nd).mp (ha.trans h1.symm))
   exact⟨a',us,h1,by rw[cS bo];exact h2,h3.ex e.ex⟩
def az.putD (r:az K w O H){k:Nat}{c c':List AV}{a:Addr}{vs rK:List (bJ×V)}(hk:O[k]?=some (some c))(hn:k∈w.ib)(ha:w.bA[k]?=some a)(hv:H a=some (.dK vs))(hc:rH (G w O H) rK c') :
  az K w (O.set k (some c')) (aL H a (.dK rK))/\bW w O H w (O.set k (some c')) (aL H a (.dK rK)):=by
 have hl:=(Zf.mp hk).1;have LN:jc w O a:=.inr (.inr ⟨k,c,ha,hk⟩);have sg:ay (G w O H) (G w (O.set k (some c')) (aL H a (.dK rK))):=λx o h=>by
  obtain⟨h1,h2⟩:=eU h;have bo:x≠a:=λz=>h2 (z▸LN)
  rw[gC (λz=>h2 ((jc.set hk).mp z)),cS bo];exact h1
 have e:bW w O H w (O.set k (some c')) (aL H a (.dK rK)):=⟨⟨⟨[],by simp⟩,⟨[],by simp⟩,⟨[],by simp⟩,sg,λ_ _=>Iff.rfl⟩,rfl⟩;refine⟨⟨by rw[Yo];exact r.len,r.nd,λx hx=>?_,r.nb,r.hn,λp hp=>?_,λb hb=>?_,λj d hj=>?_,λj hj=>by rw[Yo];exact r.dl j hj⟩,e⟩
 .obtain⟨o,h⟩:=r.al x hx;by_cases z:x=a
  .subst z;exact⟨_,dM⟩
  .exact⟨o,by rw[cS z];exact h⟩
 .obtain⟨h1,h2,h3,h4⟩:=r.nh p hp;have bo:p.1≠a:=λz=>h1 (z▸Zz ha)
  exact⟨h1,h2,by rw[cS bo];exact h3,h4⟩
 .exact(r.bg b hb).acc (λz=>r.nb b hb (z▸Zz ha))
 .by_cases ej:k=j
  .subst ej;rw[Yl hl] at hj;have hd:c'=d:=by injection (Option.some.inj hj)
   subst hd;exact⟨a,_,ha,dM,(Zf.mp ha).1,.inr ⟨hn,rK,rfl,hc.ap e.ex.ap⟩⟩
  .rw[Z6 ej] at hj;obtain⟨a',us,h1,h2,h3⟩:=r.uG j d hj;have bo:a'≠a:=λz=>by
    subst z;exact ej ((List.getElem?_inj (Zf.mp ha).1 r.nd).mp (ha.trans h1.symm))
   exact⟨a',us,h1,by rw[cS bo];exact h2,h3.ex e.ex⟩
def az.own (r:az K w O H){p:Addr}{c:List AV}{vs:List V}(hp:H p=none)(hc:aZ K w (G w O H) vs c) :
  az K { w with bA:=w.bA++[p] } (O++[some c]) (aL H p (.lst vs))/\bW w O H { w with bA:=w.bA++[p] } (O++[some c]) (aL H p (.lst vs))/\({ w with bA:=w.bA++[p] }:Wd).bA[O.length]?=some p:=by
 have kK:∀x,jc { w with bA:=w.bA++[p] } (O++[some c]) x->jc w O x\/x=p:=λx h=>by
  rcases h with h |h |⟨j,d,h1,h2⟩
  .exact .inl (.inl h)
  .exact .inl (.inr (.inl h))
  .change (w.bA++[p])[j]?=some x at h1
   rcases Z5 j O.length with y |y
   .rw[Zp y] at h2;rw[Zp (by rw[r.len];exact y)] at h1;exact .inl (.inr (.inr ⟨j,d,h1,h2⟩))
   .have hj:=(Zf.mp h1).1;rw[Zu,r.len] at hj;have:j=O.length:=by simp at hj;omega
    subst this;rw[Yh (by rw[r.len];exact Ze _),r.len,X6] at h1;exact .inr (by simpa using h1.symm)
 have sg:ay (G w O H) (G { w with bA:=w.bA++[p] } (O++[some c]) (aL H p (.lst vs))):=λx o h=>by
  obtain⟨h1,h2⟩:=eU h;have bo:x≠p:=λz=>by rw[z,hp] at h1;cases h1
  rw[gC (λz=>(kK x z).elim h2 bo),cS bo];exact h1
 have e:bW w O H { w with bA:=w.bA++[p] } (O++[some c]) (aL H p (.lst vs)):=⟨⟨⟨[],by simp⟩,⟨[p],rfl⟩,⟨[],by simp⟩,sg,λ_ _=>Iff.rfl⟩,rfl⟩;have rW:(w.bA++[p])[O.length]?=some p:=by rw[<- r.len];simp
 have rT:p∉w.bA:=λz=>by obtain⟨o,h⟩:=r.al p z;rw[hp] at h;cases h
 refine⟨⟨by simp[r.len],?_,λx hx=>?_,λb hb=>?_,r.hn,λq hq=>?_,λb hb=>(r.bg b hb).new hp,λj d hj=>?_,λj hj=>by have:=r.dl j hj;rw[Zu];omega⟩,e,rW⟩
 .show(w.bA++[p]).Nodup;rw[X4];exact⟨r.nd,by simp,λa ha b Bw e=>by rw[Z2] at Bw;rw[e,Bw] at ha;exact rT ha⟩
 .rcases Z0.mp hx with y |y
  .obtain⟨o,h⟩:=r.al x y;have bo:x≠p:=λz=>by rw[z,hp] at h;cases h
   exact⟨o,by rw[cS bo];exact h⟩
  .rw[Z2.mp y];exact⟨_,dM⟩
 .intro z;rcases Z0.mp z with y |y
  .exact r.nb b hb y
  .exact(r.bg b hb).ne hp (Z2.mp y)
 .obtain⟨h1,h2,h3,h4⟩:=r.nh q hq;have bo:q.1≠p:=λz=>by rw[z,hp] at h3;cases h3
  refine⟨λz=>?_,h2,by rw[cS bo];exact h3,h4⟩;rcases Z0.mp z with y |y
  .exact h1 y
  .exact bo (Z2.mp y)
 .rcases Z5 j O.length with y |y
  .rw[Zp y] at hj;obtain⟨a',us,h1,h2,h3⟩:=r.uG j d hj;have bo:a'≠p:=λz=>by rw[z,hp] at h2;cases h2
   exact⟨a',us,e.ex.at h1,by rw[cS bo];exact h2,h3.ex e.ex⟩
  .have kB:=(Zf.mp hj).1;rw[Zu] at kB;have:j=O.length:=by simp at kB;omega
   subst this;rw[Yh (Ze _),X6] at hj;have hd:c=d:=by injection (Option.some.inj hj)
   subst hd;exact⟨p,_,rW,dM,(Zf.mp rW).1,.inl ⟨λz=>absurd (r.dl _ z) (Yi _),vs,rfl,hc.ex e.ex⟩⟩
def az.hide (r:az K w O H){a:Addr}{o:HO}(ha:H a=none)(ho:∀xs,o≠.tup xs):az K { w with bG:=(a,o)::w.bG } O (aL H a o)/\iO w O H { w with bG:=(a,o)::w.bG } O (aL H a o):=by
 have kK:∀x,jc { w with bG:=(a,o)::w.bG } O x->jc w O x\/x=a:=λx h=>by
  rcases h with h |⟨u,h⟩ |h
  .exact .inl (.inl h)
  .rcases Zk.mp h with e |e
   .exact .inr (by injection e)
   .exact .inl (.inr (.inl ⟨u,e⟩))
  .exact .inl (.inr (.inr h))
 have sg:ay (G w O H) (G { w with bG:=(a,o)::w.bG } O (aL H a o)):=λx u h=>by
  obtain⟨h1,h2⟩:=eU h;have bo:x≠a:=λz=>by rw[z,ha] at h1;cases h1
  rw[gC (λz=>(kK x z).elim h2 bo),cS bo];exact h1
 have e:iO w O H { w with bG:=(a,o)::w.bG } O (aL H a o):=⟨⟨[],by simp⟩,⟨[],by simp⟩,⟨[(a,o)],rfl⟩,sg,λ_ _=>Iff.rfl⟩;have Pw:a∉w.bA:=λz=>by obtain⟨u,h⟩:=r.al a z;rw[ha] at h;cases h
 refine⟨⟨r.len,r.nd,λx hx=>?_,r.nb,?_,λp hp=>?_,λb hb=>(r.bg b hb).new ha,λk c hk=>?_,r.dl⟩,e⟩
 .obtain⟨u,h⟩:=r.al x hx;have bo:x≠a:=λz=>Pw (z▸hx)
  exact⟨u,by rw[cS bo];exact h⟩
 .show(a::w.bG.map (·.1)).Nodup;rw[Yd];refine⟨λz=>?_,r.hn⟩;obtain⟨p,hp,e⟩:=Zd.mp z;have:=(r.nh p hp).2.2.1;rw[e,ha] at this;cases this
 .rcases Zk.mp hp with e |e
  .subst e;exact⟨Pw,λhb=>(r.bg a hb).ne ha rfl,dM,ho⟩
  .obtain⟨h1,h2,h3,h4⟩:=r.nh p e;have bo:p.1≠a:=λz=>by rw[z,ha] at h3;cases h3
   exact⟨h1,h2,by rw[cS bo];exact h3,h4⟩
 .obtain⟨a',vs,h1,h2,h3⟩:=r.uG k c hk;have bo:a'≠a:=λz=>by rw[z,ha] at h2;cases h2
  exact⟨a',vs,h1,by rw[cS bo];exact h2,h3.ex e⟩
def jc.eq {a:Addr}{o o':HO}{h0:List (Addr×HO)}(hh:w.bG=(a,o)::h0){x:Addr}:jc { w with bG:=(a,o')::h0 } O x↔jc w O x:=by
 unfold jc;rw[hh];constructor
 .rintro(h |⟨u,h⟩ |h)
  .exact .inl h
  .rcases Zk.mp h with e |e
   .have ea:x=a:=by injection e
    subst ea;exact .inr (.inl ⟨o,Zg⟩)
   .exact .inr (.inl ⟨u,Zh _ e⟩)
  .exact .inr (.inr h)
 .rintro(h |⟨u,h⟩ |h)
  .exact .inl h
  .rcases Zk.mp h with e |e
   .have ea:x=a:=by injection e
    subst ea;exact .inr (.inl ⟨o',Zg⟩)
   .exact .inr (.inl ⟨u,Zh _ e⟩)
  .exact .inr (.inr h)
theorem jd.fP {K:Θ1}{w w':Wd}{g g':Hp}(hb:(w'.dg,w'.ib)=(w.dg,w.ib))(ha:w'.bA=w.bA)(s:ay g g'){v:V}:∀{x:AV},jd K w g v x->jd K w' g' v x
 |.im d,h=>ck.ap s h
 |.own k,h=>by obtain⟨a,h1,h2,h3⟩:=h;exact⟨a,by rw[ha];exact h1,by rw[(Prod.mk.inj hb).2];exact h2,h3⟩
 |.ze k,h=>by obtain⟨a,h1,h2,h3⟩:=h;exact⟨a,by rw[ha];exact h1,by rw[(Prod.mk.inj hb).2];exact h2,h3⟩
 |.bag j,h=>by obtain⟨a,h1,h2⟩:=h;exact⟨a,by rw[(Prod.mk.inj hb).1];exact h1,h2⟩
 |.wO ns,h=>by obtain⟨p,q1,q2⟩:=h;exact⟨p,q1,KG.bD.ap q2 s⟩
def p9.fP {K:Θ1}{w w':Wd}{g g':Hp}(hb:(w'.dg,w'.ib)=(w.dg,w.ib))(ha:w'.bA=w.bA)(s:ay g g'){k:Nat}{o:HO}{c:List AV}(h:p9 K w g k o c):p9 K w' g' k o c:=by
 obtain⟨hk,h⟩:=h;refine⟨by rw[ha];exact hk,?_⟩;rw[(Prod.mk.inj hb).2];rcases h with ⟨h1,vs,h2,h3⟩ |⟨h1,kvs,h2,h3⟩
 .exact .inl ⟨h1,vs,h2,h3.1,λi v x e1 e2=>jd.fP hb ha s (h3.2 i v x e1 e2)⟩
 .exact .inr ⟨h1,kvs,h2,h3.ap s⟩
def az.qj (r:az K w O H){a:Addr}{o o':HO}{h0:List (Addr×HO)}(hh:w.bG=(a,o)::h0)(ho:∀xs,o'≠.tup xs):az K { w with bG:=(a,o')::h0 } O (aL H a o')/\ay (G w O H) (G { w with bG:=(a,o')::h0 } O (aL H a o')):=by
 obtain⟨n1,n2,n3,n4⟩:=r.nh (a,o) (by rw[hh];exact Zg);have rT:=r.hn;rw[hh,Zi,Yd] at rT;have sg:ay (G w O H) (G { w with bG:=(a,o')::h0 } O (aL H a o')):=λx u h=>by
  obtain⟨h1,h2⟩:=eU h;have bo:x≠a:=λz=>h2 (.inr (.inl ⟨o,by rw[hh,z];exact Zg⟩))
  rw[gC (λz=>h2 ((jc.eq hh).mp z)),cS bo];exact h1
 refine⟨⟨r.len,r.nd,λx hx=>?_,r.nb,?_,λp hp=>?_,λb hb=>(r.bg b hb).acc (λz=>n2 (z▸hb)),λk c hk=>?_,r.dl⟩,sg⟩
 .obtain⟨u,h⟩:=r.al x hx;have bo:x≠a:=λz=>n1 (z▸hx)
  exact⟨u,by rw[cS bo];exact h⟩
 .show(a::h0.map (·.1)).Nodup;rw[Yd];exact rT
 .rcases Zk.mp hp with e |e
  .subst e;exact⟨n1,n2,dM,ho⟩
  .obtain⟨h1,h2,h3,h4⟩:=r.nh p (by rw[hh];exact Zh _ e);have bo:p.1≠a:=λz=>rT.1 (Zd.mpr ⟨p,e,z⟩)
   exact⟨h1,h2,by rw[cS bo];exact h3,h4⟩
 .obtain⟨a',vs,h1,h2,h3⟩:=r.uG k c hk;have bo:a'≠a:=λz=>n1 (z▸Zz h1)
  exact⟨a',vs,h1,by rw[cS bo];exact h2,p9.fP rfl rfl sg h3⟩
def az.Cu (r:az K w O H){a:Addr}{o:HO}{h0:List (Addr×HO)}(hh:w.bG=(a,o)::h0):az K { w with bG:=h0 } O H/\ay (G w O H) (G { w with bG:=h0 } O H)/\G { w with bG:=h0 } O H a=some o:=by
 obtain⟨n1,n2,n3,n4⟩:=r.nh (a,o) (by rw[hh];exact Zg);have rT:=r.hn;rw[hh,Zi,Yd] at rT;have kK:∀x,jc { w with bG:=h0 } O x->jc w O x:=λx h=>by
  rcases h with h |⟨u,h⟩ |h
  .exact .inl h
  .exact .inr (.inl ⟨u,by rw[hh];exact Zh _ h⟩)
  .exact .inr (.inr h)
 have sg:ay (G w O H) (G { w with bG:=h0 } O H):=λx u h=>by
  obtain⟨h1,h2⟩:=eU h;rw[gC (λz=>h2 (kK x z))];exact h1
 refine⟨⟨r.len,r.nd,r.al,r.nb,rT.2,λp hp=>r.nh p (by rw[hh];exact Zh _ hp),r.bg,λk c hk=>?_,r.dl⟩,sg,?_⟩
 .obtain⟨a',vs,h1,h2,h3⟩:=r.uG k c hk;exact⟨a',vs,h1,h2,p9.fP rfl rfl sg h3⟩
 .rw[gC]
  .exact n3
  .rintro(h1 |⟨u,h⟩ |⟨j,d,h1,h2⟩)
   .exact n2 h1
   .exact rT.1 (Zd.mpr ⟨_,h,rfl⟩)
   .exact n1 (Zz h1)
def az.GY (r:az K w O H){a:Addr}{ys:List V}{c:List AV}{h0:List (Addr×HO)}(hh:w.bG=(a,.lst ys)::h0)(hc:aZ K w (G w O H) ys c) :
  az K { w with bG:=h0,bA:=w.bA++[a] } (O++[some c]) H/\ay (G w O H) (G { w with bG:=h0,bA:=w.bA++[a] } (O++[some c]) H)/\(w.bA++[a])[O.length]?=some a:=by
 obtain⟨n1,n2,n3,n4⟩:=r.nh (a,.lst ys) (by rw[hh];exact Zg);have rT:=r.hn;rw[hh,Zi,Yd] at rT;have kK:∀x,jc { w with bG:=h0,bA:=w.bA++[a] } (O++[some c]) x->jc w O x:=λx h=>by
  rcases h with h |⟨u,h⟩ |⟨j,d,h1,h2⟩
  .exact .inl h
  .exact .inr (.inl ⟨u,by rw[hh];exact Zh _ h⟩)
  .change (w.bA++[a])[j]?=some x at h1
   rcases Z5 j O.length with y |y
   .rw[Zp y] at h2;rw[Zp (by rw[r.len];exact y)] at h1;exact .inr (.inr ⟨j,d,h1,h2⟩)
   .have hj:=(Zf.mp h1).1;rw[Zu,r.len] at hj;have:j=O.length:=by simp at hj;omega
    subst this;rw[Yh (by rw[r.len];exact Ze _),r.len,X6] at h1;have ex:x=a:=by simpa using h1.symm
    exact .inr (.inl ⟨_,by rw[hh,ex];exact Zg⟩)
 have sg:ay (G w O H) (G { w with bG:=h0,bA:=w.bA++[a] } (O++[some c]) H):=λx u h=>by
  obtain⟨h1,h2⟩:=eU h;rw[gC (λz=>h2 (kK x z))];exact h1
 have rW:(w.bA++[a])[O.length]?=some a:=by rw[<- r.len];simp
 have av:∀{vs:List V}{xs:List AV},aZ K w (G w O H) vs xs->aZ K { w with bG:=h0,bA:=w.bA++[a] } (G { w with bG:=h0,bA:=w.bA++[a] } (O++[some c]) H) vs xs:=λh=>⟨h.1,λi v x e1 e2=>by
  have:=h.2 i v x e1 e2;cases x with
  |im d=>exact ck.ap sg this
  |own j=>obtain⟨p,q1,q2⟩:=this;exact⟨p,by show(w.bA++[a])[j]?=_;rw[Zp (Zf.mp q1).1];exact q1,q2⟩
  |ze j=>obtain⟨p,q1,q2⟩:=this;exact⟨p,by show(w.bA++[a])[j]?=_;rw[Zp (Zf.mp q1).1];exact q1,q2⟩
  |bag j=>exact this
  |wO ns=>obtain⟨p,q1,q2⟩:=this;exact⟨p,q1,KG.bD.ap q2 sg⟩⟩
 refine⟨⟨by simp[r.len],?_,λx hx=>?_,λb hb z=>?_,rT.2,λp hp=>?_,r.bg,λk d hk=>?_,λj hj=>by have:=r.dl j hj;rw[Zu];omega⟩,sg,rW⟩
 .show(w.bA++[a]).Nodup;rw[X4];exact⟨r.nd,by simp,λx hx b Bw e=>by rw[Z2] at Bw;rw[e,Bw] at hx;exact n1 hx⟩
 .rcases Z0.mp hx with y |y
  .exact r.al x y
  .rw[Z2.mp y];exact⟨_,n3⟩
 .rcases Z0.mp z with y |y
  .exact r.nb b hb y
  .exact n2 (Z2.mp y▸hb)
 .obtain⟨h1,h2,h3,h4⟩:=r.nh p (by rw[hh];exact Zh _ hp);refine⟨λz=>?_,h2,h3,h4⟩;rcases Z0.mp z with y |y
  .exact h1 y
  .exact rT.1 (Zd.mpr ⟨p,hp,Z2.mp y⟩)
 .rcases Z5 k O.length with y |y
  .rw[Zp y] at hk;obtain⟨a',vs,h1,h2,h3⟩:=r.uG k d hk;exact⟨a',vs,by show(w.bA++[a])[k]?=_;rw[Zp (Zf.mp h1).1];exact h1,h2,by
    obtain⟨hk0,h3⟩:=h3;refine⟨by show k<(w.bA++[a]).length;rw[Zu];omega,?_⟩;rcases h3 with ⟨z1,rK,z2,z3⟩ |⟨z1,kvs,z2,z3⟩
    .exact .inl ⟨z1,rK,z2,av z3⟩
    .exact .inr ⟨z1,kvs,z2,z3.ap sg⟩⟩
  .have kB:=(Zf.mp hk).1;rw[Zu] at kB;have:k=O.length:=by simp at kB;omega
   subst this;rw[Yh (Ze _),X6] at hk;have hd:c=d:=by injection (Option.some.inj hk)
   subst hd;exact⟨a,_,rW,n3,(Zf.mp rW).1,.inl ⟨λz=>absurd (r.dl _ z) (Yi _),ys,rfl,av hc⟩⟩
def az.GZ (r:az K w O H){a:Addr}{ys:List (bJ×V)}{c:List AV}{h0:List (Addr×HO)}(hh:w.bG=(a,.dK ys)::h0)(hc:rH (G w O H) ys c) :
  az K { w with bG:=h0,bA:=w.bA++[a],ib:=O.length::w.ib } (O++[some c]) H/\ay (G w O H) (G { w with bG:=h0,bA:=w.bA++[a],ib:=O.length::w.ib } (O++[some c]) H)/\(w.bA++[a])[O.length]?=some a:=by
 obtain⟨n1,n2,n3,n4⟩:=r.nh (a,.dK ys) (by rw[hh];exact Zg);have rT:=r.hn;rw[hh,Zi,Yd] at rT;have kK:∀x,jc { w with bG:=h0,bA:=w.bA++[a],ib:=O.length::w.ib } (O++[some c]) x->jc w O x:=λx h=>by
  rcases h with h |⟨u,h⟩ |⟨j,d,h1,h2⟩
  .exact .inl h
  .exact .inr (.inl ⟨u,by rw[hh];exact Zh _ h⟩)
  .change (w.bA++[a])[j]?=some x at h1
   rcases Z5 j O.length with y |y
   .rw[Zp y] at h2;rw[Zp (by rw[r.len];exact y)] at h1;exact .inr (.inr ⟨j,d,h1,h2⟩)
   .have hj:=(Zf.mp h1).1;rw[Zu,r.len] at hj;have:j=O.length:=by simp at hj;omega
    subst this;rw[Yh (by rw[r.len];exact Ze _),r.len,X6] at h1;have ex:x=a:=by simpa using h1.symm
    exact .inr (.inl ⟨_,by rw[hh,ex];exact Zg⟩)
 have sg:ay (G w O H) (G { w with bG:=h0,bA:=w.bA++[a],ib:=O.length::w.ib } (O++[some c]) H):=λx u h=>by
  obtain⟨h1,h2⟩:=eU h;rw[gC (λz=>h2 (kK x z))];exact h1
 have rW:(w.bA++[a])[O.length]?=some a:=by rw[<- r.len];simp
 have av:∀{vs:List V}{xs:List AV},aZ K w (G w O H) vs xs->aZ K { w with bG:=h0,bA:=w.bA++[a],ib:=O.length::w.ib } (G { w with bG:=h0,bA:=w.bA++[a],ib:=O.length::w.ib } (O++[some c]) H) vs xs:=λh=>⟨h.1,λi v x e1 e2=>by
  have:=h.2 i v x e1 e2;cases x with
  |im d=>exact ck.ap sg this
  |own j=>obtain⟨p,q1,q2⟩:=this;exact⟨p,by show(w.bA++[a])[j]?=_;rw[Zp (Zf.mp q1).1];exact q1,λz=>(Zk.mp z).elim (λe=>by have:=(Zf.mp q1).1;rw[r.len] at this;omega) q2.1,q2.2⟩
  |ze j=>obtain⟨p,q1,q2⟩:=this;exact⟨p,by show(w.bA++[a])[j]?=_;rw[Zp (Zf.mp q1).1];exact q1,Zh _ q2.1,q2.2⟩
  |bag j=>exact this
  |wO ns=>obtain⟨p,q1,q2⟩:=this;exact⟨p,q1,KG.bD.ap q2 sg⟩⟩
 refine⟨⟨by simp[r.len],?_,λx hx=>?_,λb hb z=>?_,rT.2,λp hp=>?_,r.bg,λk d hk=>?_,λj hj=>by
  rw[Zu];rcases Zk.mp hj with z |z
  .subst z;simp
  .have:=r.dl j z;omega⟩,sg,rW⟩
 .show(w.bA++[a]).Nodup;rw[X4];exact⟨r.nd,by simp,λx hx b Bw e=>by rw[Z2] at Bw;rw[e,Bw] at hx;exact n1 hx⟩
 .rcases Z0.mp hx with y |y
  .exact r.al x y
  .rw[Z2.mp y];exact⟨_,n3⟩
 .rcases Z0.mp z with y |y
  .exact r.nb b hb y
  .exact n2 (Z2.mp y▸hb)
 .obtain⟨h1,h2,h3,h4⟩:=r.nh p (by rw[hh];exact Zh _ hp);refine⟨λz=>?_,h2,h3,h4⟩;rcases Z0.mp z with y |y
  .exact h1 y
  .exact rT.1 (Zd.mpr ⟨p,hp,Z2.mp y⟩)
 .rcases Z5 k O.length with y |y
  .rw[Zp y] at hk;obtain⟨a',vs,h1,h2,h3⟩:=r.uG k d hk;exact⟨a',vs,by show(w.bA++[a])[k]?=_;rw[Zp (Zf.mp h1).1];exact h1,h2,by
    obtain⟨hk0,h3⟩:=h3;refine⟨by show k<(w.bA++[a]).length;rw[Zu];omega,?_⟩;rcases h3 with ⟨z1,rK,z2,z3⟩ |⟨z1,kvs,z2,z3⟩
    .exact .inl ⟨λz=>(Zk.mp z).elim (λe=>by omega) z1,rK,z2,av z3⟩
    .exact .inr ⟨Zh _ z1,kvs,z2,z3.ap sg⟩⟩
  .have kB:=(Zf.mp hk).1;rw[Zu] at kB;have:k=O.length:=by simp at kB;omega
   subst this;rw[Yh (Ze _),X6] at hk;have hd:c=d:=by injection (Option.some.inj hk)
   subst hd;exact⟨a,_,rW,n3,(Zf.mp rW).1,.inr ⟨Zg,ys,rfl,hc.ap sg⟩⟩
def az.mj (r:az K w O H):∀a xs,H a=some (.tup xs)->G w O H a=some (.tup xs):=by
 intro a xs h;rw[gC]
 .exact h
 .rintro(h1 |⟨o,h1⟩ |⟨j,d,h1,h2⟩)
  .obtain⟨c,d,e⟩:=r.bg _ h1;rw[h] at e;cases e
  .obtain⟨_,_,h3,h4⟩:=r.nh _ h1;rw[h] at h3;exact h4 xs (Option.some.inj h3).symm
  .obtain⟨a',vs,e1,e2,_⟩:=r.uG j d h2;rw[h1] at e1;cases Option.some.inj e1;rw[h] at e2;cases Option.some.inj e2;rename_i hce;rcases hce.2 with ⟨_,vs,z,_⟩ |⟨_,kvs,z,_⟩<;>cases z
end
section
variable {K:Θ1}{QX:Addr->aF->Prop}{E:XK}{X:Cx}{w:Wd}{O:aF}{H:Hp}
def PE.imp {e:Expr}{t t':TE}(h:PE X e t)(i:∀σ H Q,t' σ H Q->t σ H Q):PE X e t':=λae s σ H Q I q=>h ae s σ H Q I (i σ H Q q)
def PT.imp {e:Expr}{t t':TT}(h:PT X e t)(i:∀σ H Q,t' σ H Q->t σ H Q):PT X e t':=λae s σ H Q I q=>h ae s σ H Q I (i σ H Q q)
def PA.imp {es:Ξ2}{t t':TA}(h:PA X es t)(i:∀σ H Q,t' σ H Q->t σ H Q):PA X es t':=λp ae s σ H Q I q=>h p ae s σ H Q I (i σ H Q q)
def PS.imp {st:Stmt}{t t':TS}(h:PS X st t)(i:∀D σ H,t' D σ H->t D σ H):PS X st t':=λae s σ H D I q=>h ae s σ H D I (i D σ H q)
def jb.imp {st:List Stmt}{t t':TS}(h:jb X st t)(i:∀D σ H,t' D σ H->t D σ H):jb X st t':=λae s σ H D I q=>h ae s σ H D I (i D σ H q)
def eF {v:V}{ds:Ξ1}(h:ck (G w O H) v (.tuple ds)):∃a xs,v=.ref a/\H a=some (.tup xs)/\aI (G w O H) xs ds:=by
 cases h with |tup h1 h2=>exact⟨_,_,rfl,(eU h1).1,h2⟩
def fU {v:V}{ds:Ξ1}(h:ck (G w O H) v (.list ds)):∃a xs,v=.ref a/\H a=some (.lst xs)/\aI (G w O H) xs ds:=by
 cases h with |lst h1 h2=>exact⟨_,_,rfl,(eU h1).1,h2⟩
def hG {g:Hp}{v:V}{i:Int}(h:ck g v (.int i)):v=.int i:=by cases h;rfl
def BO {g:Hp}{v:V}{i:Bool}(h:ck g v (.bool i)):v=.bl i:=by cases h;rfl
def J9 {g:Hp}{v:V}(h:ck g v .none):v=.bV:=by cases h;rfl
theorem iD {g:Hp}:∀{ns:Γ3}{vs:List V},aI g vs (ns.map .int)->vs=ns.map V.int
 |[],_,h=>by cases h;rfl
 |n::ns,_,h=>by
  cases h with |cons h1 h2=>rw[hG h1,iD h2];rfl
theorem Kb {g:Hp}:∀{ns:List Bool}{vs:List V},aI g vs (ns.map .bool)->vs=ns.map V.bl
 |[],_,h=>by cases h;rfl
 |n::ns,_,h=>by
  cases h with |cons h1 h2=>rw[BO h1,Kb h2];rfl
theorem va {g:Hp}:∀(ns:Γ3),aI g (ns.map V.int) (ns.map .int)
 |[]=>.nil
 |n::ns=>.cons (.int n) (va ns)
def eN (r:az K w O H){p:Addr}{xs:List V}{ds:Ξ1}(hp:H p=none)(h:aI (G w O H) xs ds) :
  az K w O (aL H p (.tup xs))/\bW w O H w O (aL H p (.tup xs))/\ck (G w O (aL H p (.tup xs))) (.ref p) (.tuple ds):=by
 obtain⟨r1,e1,g1⟩:=r.new (o:=.tup xs) hp;exact⟨r1,e1,.tup g1 (aI.ap e1.ex.ap h)⟩
def lY (r:az K w O H){p:Addr}{xs:List V}{ds:Ξ1}(hp:H p=none)(h:aI (G w O H) xs ds) :
  az K w O (aL H p (.lst xs))/\bW w O H w O (aL H p (.lst xs))/\ck (G w O (aL H p (.lst xs))) (.ref p) (.list ds):=by
 obtain⟨r1,e1,g1⟩:=r.new (o:=.lst xs) hp;exact⟨r1,e1,.lst g1 (aI.ap e1.ex.ap h)⟩
def gj (r:az K w O H){p:Addr}{xs:List V}{ds:Ξ1}{H':Hp}(s:ay H H')(hp:H' p=some (.tup xs))(h:aI (G w O H) xs ds) :
  az K w O H'/\bW w O H w O H'/\ck (G w O H') (.ref p) (.tuple ds):=by
 obtain⟨r1,e1,g1⟩:=r.ap s;exact⟨r1,e1,.tup (r1.mj _ _ hp) (aI.ap e1.ex.ap h)⟩
def ah (i:Nat):ME:=λsl O Q=>match sl[i]? with
 |some (some x)=>Q x O
 |_=>False
def NH {i:Nat}{e:Expr}(h:PE X e (u3 i)):PE X e (bO K QX E (ah i)):=PE.imp h λσ H Q ⟨w,O,sl,Q0,c,m,q⟩=>by
 unfold ah at m;split at m
 .rename_i x hx;obtain⟨v,h1,h2⟩:=c.so.2 i x hx;exact⟨v,h1,q x O v w H m (bW.refl _ _ _) c.ro h2⟩
 .exact m.elim
def mC (d:PyData):ME:=λ_ O Q=>Q (.im d) O
def LC {v:V}{d:PyData}{e:Expr}(h:PE X e (tC v))(hv:∀g,ck g v d):PE X e (bO K QX E (mC d)):=PE.imp h λσ H Q ⟨w,O,sl,Q0,c,m,q⟩=>q _ O v w H m (bW.refl _ _ _) c.ro (hv _)
def cM {i j pos}:PE X (.Constant (.int i) j pos) (bO K QX E (mC (.int i))):=LC bF λ_=>.int _
def sD {i j pos}:PE X (.Constant (.bool i) j pos) (bO K QX E (mC (.bool i))):=LC sy λ_=>.bl _
def C4 {j pos}:PE X (.Constant .none j pos) (bO K QX E (mC .none)):=LC vk λ_=>.bV
def ar:MA:=λ_ O Q=>Q [] O
def af (Me:ME)(Ms:MA):MA:=λsl O Q=>Me sl O λx O1=>Ms sl O1 λxs O2=>Q (x::xs) O2
def aX:PA X [] (uC K QX E ar):=PA.imp cf λσ H Q ⟨w,O,sl,Q0,c,m,q⟩=>q [] O [] w H m (bW.refl _ _ _) c.ro aZ.nil
def aA {e:Expr}{es:Ξ2}{Me:ME}{Ms:MA}(he:PE X e (bO K QX E Me))(hr:PA X es (uC K QX E Ms))(hs:starEach (e::es) X.env=(false,eval e X.env)::starEach es X.env:=by rfl):PA X (e::es) (uC K QX E (af Me Ms)) :=
 PA.imp (bm he hr hs) λσ H Q ⟨w,O,sl,Q0,c,m,q⟩=>⟨w,O,sl,_,c,m,λx O1 v w1 H1 h1 e1 r1 a1=>⟨w1,O1,sl,_,c.ex e1.ex r1,h1,λxs O2 vs w2 H2 h2 e2 r2 a2=>q _ O2 _ w2 H2 h2 (e1.trans e2) r2 (aZ.cons (a1.ex e2.ex) a2)⟩⟩
def PD:List AV->Option (Ξ1)
 |[]=>some []
 |.im d::xs=>match PD xs with
  |some ds=>some (d::ds)
  |none=>none
 |_::_=>none
theorem vw:∀{xs:List AV}{ds:Ξ1},PD xs=some ds->xs=ds.map .im
 |[],_,h=>by cases h;rfl
 |.im d::xs,ds,h=>by
  unfold PD at h;split at h
  .rename_i es he;cases h;rw[vw he];rfl
  .cases h
 |.own _::_,_,h=>by cases h
 |.bag _::_,_,h=>by cases h
 |.wO _::_,_,h=>by cases h
 |.ze _::_,_,h=>by cases h
def ij (Ms:MA):ME:=λsl O Q=>Ms sl O λxs O1=>match PD xs with
 |some ds=>ds.length<=sizeLine/\Q (.im (.tuple ds)) O1
 |none=>False
def u5 (Ms:MA):ME:=λsl O Q=>Ms sl O λxs O1=>match PD xs with
 |some ds=>ds.length<=sizeLine/\Q (.im (.list ds)) O1
 |none=>False
def RJ (Ms:MA):ME:=λsl O Q=>Ms sl O λxs O1=>xs.length<=sizeLine/\Q (.own O1.length) (O1++[some xs])
def uE {es:Ξ2}{Ms:MA}{x1}{pos:Pos}(h:PA X es (uC K QX E Ms)):PE X (.Tuple es x1 pos) (bO K QX E (ij Ms)):=PE.imp (gF h) λσ H Q ⟨w,O,sl,Q0,c,m,q⟩=>⟨w,O,sl,_,c,m,λxs O1 vs w1 H1 h1 e1 r1 a1=>by
 split at h1
 .rename_i ds hd;have hx:=vw hd;subst hx;refine⟨by rw[a1.1,Zb];exact h1.1,λp hp=>?_⟩;obtain⟨r2,e2,t2⟩:=eN r1 hp (aZ.tr a1);exact q _ O1 _ w1 _ h1.2 (e1.trans e2) r2 t2
 .exact h1.elim⟩
def kQ {es:Ξ2}{Ms:MA}{pos:Pos}(h:PA X es (uC K QX E Ms)):PE X (.List es pos) (bO K QX E (u5 Ms)):=PE.imp (qo h) λσ H Q ⟨w,O,sl,Q0,c,m,q⟩=>⟨w,O,sl,_,c,m,λxs O1 vs w1 H1 h1 e1 r1 a1=>by
 split at h1
 .rename_i ds hd;have hx:=vw hd;subst hx;refine⟨by rw[a1.1,Zb];exact h1.1,λp hp=>?_⟩;obtain⟨r2,e2,t2⟩:=lY r1 hp (aZ.tr a1);exact q _ O1 _ w1 _ h1.2 (e1.trans e2) r2 t2
 .exact h1.elim⟩
def NI {es:Ξ2}{Ms:MA}{pos:Pos}(h:PA X es (uC K QX E Ms)):PE X (.List es pos) (bO K QX E (RJ Ms)):=PE.imp (qo h) λσ H Q ⟨w,O,sl,Q0,c,m,q⟩=>⟨w,O,sl,_,c,m,λxs O1 vs w1 H1 h1 e1 r1 a1=>by
 refine⟨by rw[a1.1];exact h1.1,λp hp=>?_⟩;obtain⟨r2,e2,t2⟩:=r1.own hp a1;exact q _ _ _ _ _ h1.2 (e1.trans e2) r2 ⟨p,t2,λz=>absurd (r1.dl _ z) (Yi _),rfl⟩⟩
abbrev mi:=aF->AV->AV->(AV->aF->Prop)->Prop
abbrev uY:=aF->List AV->(AV->aF->Prop)->Prop
def rY (K:Θ1)(r:R2)(f:mi):Prop:=∀(w:Wd) (O:aF) (H:Hp) (v u:V) (x y:AV) (P:AV->aF->Prop) (Q:VK),az K w O H->jd K w (G w O H) v x->jd K w (G w O H) u y->f O x y P ->
 (∀z q O' w' H',P q O'->bW w O H w' O' H'->az K w' O' H'->jd K w' (G w' O' H') z q->Q z H')->r v u H Q
def Bh (K:Θ1)(r:List V->Hp->VK->Prop)(f:uY):Prop:=∀(w:Wd) (O:aF) (H:Hp) (vs:List V) (xs:List AV) (P:AV->aF->Prop) (Q:VK),az K w O H->aZ K w (G w O H) vs xs->f O xs P ->
 (∀z q O' w' H',P q O'->bW w O H w' O' H'->az K w' O' H'->jd K w' (G w' O' H') z q->Q z H')->r vs H Q
def bL (f:mi)(Ma Mb:ME):ME:=λsl O Q=>Ma sl O λx O1=>Mb sl O1 λy O2=>f O2 x y Q
def jj (f:uY)(Ms:MA):ME:=λsl O Q=>Ms sl O λxs O1=>f O1 xs Q
def xq {r:R2}{f:mi}{Ma Mb:ME}(lk:rY K r f):∀σ H Q,bO K QX E (bL f Ma Mb) σ H Q->Kq r (bO K QX E Ma) (bO K QX E Mb) σ H Q :=
 λσ H Q ⟨w,O,sl,Q0,c,m,q⟩=>⟨w,O,sl,_,c,m,λx O1 v w1 H1 h1 e1 r1 a1=>⟨w1,O1,sl,_,c.ex e1.ex r1,h1,λy O2 u w2 H2 h2 e2 r2 a2 =>
  lk w2 O2 H2 v u x y _ Q r2 (a1.ex e2.ex) a2 h2 λz z' O3 w3 H3 h3 e3 r3 a3=>q _ O3 z w3 H3 h3 ((e1.trans e2).trans e3) r3 a3⟩⟩
def xj {op:Operator}{r:R2}{f:mi}{Ma Mb:ME}{a b:Expr}{pos:Pos}(ho:fj X (binaryOp op) r)(lk:rY K r f)(ha:PE X a (bO K QX E Ma))(hb:PE X b (bO K QX E Mb)):PE X (.BinOp a op b pos) (bO K QX E (bL f Ma Mb)):=PE.imp (cY ho ha hb) (xq lk)
def Tw {r:R2}{f:mi}{Ma Mb:ME}{a b:Expr}{pos:Pos}(ho:zi X r)(lk:rY K r f)(ha:PE X a (bO K QX E Ma))(hb:PE X b (bO K QX E Mb))(hs:rk b:=by exact λ_ _=>rfl):PE X (.Subscript a b pos) (bO K QX E (bL f Ma Mb)):=PE.imp (d9 ho ha hb hs) (xq lk)
def m9 {op:CmpOp}{r:R2}{f:mi}{Ma Mb:ME}{a b:Expr}{pos:Pos}(ho:fj X (compareOp op) r)(lk:rY K r f)(ha:PE X a (bO K QX E Ma))(hb:PE X b (bO K QX E Mb))(hm:behindInMarks op b=false):PE X (.Compare a [op] [b] pos) (bO K QX E (bL f Ma Mb)):=PE.imp (gK ho ha hb hm) (xq lk)
def Bm {x:Str}{id:String}{e:Expr}{es:Ξ2}{p pos:Pos}{r:List V->Hp->VK->Prop}{f:uY}{Ms:MA}(hc:bZ X (.builtin id) r)(lk:Bh K r f)(hg:Gl X x)(hm:X.mg x=none)(hv:bootBuiltins x=some (.builtin id))(ha:PA X (e::es) (uC K QX E Ms))(hn:x ≠ "__name__":=by decide)(uT:(x == ("__debug__" : Str))=false:=by decide)
  (he:starEach (e::es) X.env=(false,eval e X.env)::starEach es X.env:=by rfl) (lC:(backTo pos (starEach es X.env)).any (·.1)=false:=by rfl):PE X (.Call (.Name x p) (e::es) [] pos) (bO K QX E (jj f Ms)) :=
 PE.imp (uQ hc hg hm hv ha hn uT he lC) λσ H Q ⟨w,O,sl,Q0,c,m,q⟩=>⟨w,O,sl,_,c,m,λxs O1 vs w1 H1 h1 e1 r1 a1=>lk w1 O1 H1 vs xs _ Q r1 a1 h1 λz z' O3 w3 H3 h3 e3 r3 a3=>q _ O3 z w3 H3 h3 (e1.trans e3) r3 a3⟩
def pQ {x:Str}{T:String}{e:Expr}{es:Ξ2}{p pos:Pos}{r:List V->Hp->VK->Prop}{f:uY}{Ms:MA}(hc:bZ X (.type T) r)(lk:Bh K r f)(hg:Gl X x)(hm:X.mg x=none)(hv:bootBuiltins x=some (.type T))(ha:PA X (e::es) (uC K QX E Ms))(hn:x ≠ "__name__":=by decide)(uT:(x == ("__debug__" : Str))=false:=by decide)
  (he:starEach (e::es) X.env=(false,eval e X.env)::starEach es X.env:=by rfl) (lC:(backTo pos (starEach es X.env)).any (·.1)=false:=by rfl):PE X (.Call (.Name x p) (e::es) [] pos) (bO K QX E (jj f Ms)) :=
 PE.imp (Ol hc hg hm hv ha hn uT he lC) λσ H Q ⟨w,O,sl,Q0,c,m,q⟩=>⟨w,O,sl,_,c,m,λxs O1 vs w1 H1 h1 e1 r1 a1=>lk w1 O1 H1 vs xs _ Q r1 a1 h1 λz z' O3 w3 H3 h3 e3 r3 a3=>q _ O3 z w3 H3 h3 (e1.trans e3) r3 a3⟩
def ia (M:ME):MT:=λsl O Q=>M sl O λx O1=>match x with
 |.im (.bool c)=>Q c O1
 |_=>False
def tO {t:TE}{M:ME}(h:∀σ H Q,bO K QX E M σ H Q->t σ H Q):∀σ H Q,lm K QX E (ia M) σ H Q->Js t σ H Q:=λσ H Q ⟨w,O,sl,Q0,c,m,q⟩=>h σ H _ ⟨w,O,sl,_,c,m,λx O1 v w1 H1 h1 e1 r1 a1=>by
 split at h1
 .exact⟨_,BO a1,q _ O1 w1 H1 h1 e1 r1⟩
 .exact h1.elim⟩
def fc {op:CmpOp}{r:R2}{f:mi}{Ma Mb:ME}{a b:Expr}{pos:Pos}(ho:fj X (compareOp op) r)(lk:rY K r f)(ha:PE X a (bO K QX E Ma))(hb:PE X b (bO K QX E Mb))(hm:behindInMarks op b=false):PT X (.Compare a [op] [b] pos) (lm K QX E (ia (bL f Ma Mb))):=PT.imp (oJ ho ha hb hm) (tO (xq lk))
def qt {e:Expr}{M:ME}(h:PE X e (bO K QX E M))(he:∀whole,isTrue e X.env whole=(do let v <- whole;standAt e.pos;holding [v] (truthy v)):=by intro _;rfl):PT X e (lm K QX E (ia M)):=PT.imp (fD h he) (tO λ_ _ _ z=>z)
def YF:PyData->Bool
 |.none=>false
 |.bool b=>b
 |.int i=>i != 0
 |.str s=>(s.length:Int) != 0
 |.list xs=>!xs.isEmpty
 |.tuple xs=>!xs.isEmpty
 |.dict xs=>!xs.isEmpty
def SM:PyData->Bool
 |.str _=>false
 |_=>true
def BJ (M:ME):MT:=λsl O Q=>M sl O λx O1=>match x with
 |.im d=>SM d=true/\Q (YF d) O1
 |_=>False
def lz {α β : Type}{xs:List α}{ys:List β}(h:xs.length=ys.length):(!xs.isEmpty)=!ys.isEmpty:=by
 cases xs<;>cases ys<;>simp_all
def qu {e:Expr}{M:ME}(h:PE X e (bO K QX E M))(he:∀whole,isTrue e X.env whole=(do let v <- whole;standAt e.pos;holding [v] (truthy v)):=by intro _;rfl):PT X e (lm K QX E (BJ M)):=PT.imp (tu h he) λσ H Q ⟨w,O,sl,Q0,c,m,q⟩=>⟨w,O,sl,_,c,m,λx O1 v w1 H1 h1 e1 r1 a1=>by
 cases x with
 |im d =>
  cases d with
  |none=>exact⟨false,by rw[J9 a1];rfl,q _ O1 w1 H1 h1.2 e1 r1⟩
  |bool b=>exact⟨b,by rw[BO a1];rfl,q _ O1 w1 H1 h1.2 e1 r1⟩
  |int i=>exact⟨i != 0,by rw[hG a1];rfl,q _ O1 w1 H1 h1.2 e1 r1⟩
  |str i=>cases h1.1
  |list xs =>
   obtain⟨a,us,rfl,h3,h4⟩:=fU a1;exact⟨!xs.isEmpty,.inl ⟨us,bD.of h3,lz h4.len.symm⟩,q _ O1 w1 H1 h1.2 e1 r1⟩
  |tuple xs =>
   obtain⟨a,us,rfl,h3,h4⟩:=eF a1;exact⟨!xs.isEmpty,.inr (.inl ⟨us,aM.of h3,lz h4.len.symm⟩),q _ O1 w1 H1 h1.2 e1 r1⟩
  |dict xs=>cases a1
 |own k=>exact h1.elim
 |ze k=>exact h1.elim
 |bag j=>exact h1.elim
 |wO ns=>exact h1.elim⟩
def RL (M:MT):MT:=λsl O Q=>M sl O λc O1=>Q (!c) O1
def NE {a:Expr}{M:MT}{pos:Pos}(h:PT X a (lm K QX E M)):PT X (.UnaryOp .Not a pos) (lm K QX E (RL M)):=PT.imp (gD h) λσ H Q ⟨w,O,sl,Q0,c,m,q⟩=>⟨w,O,sl,_,c,m,λx O1 w1 H1 h1 e1 r1=>q _ O1 w1 H1 h1 e1 r1⟩
def Py (C:MT)(M N:ME):ME:=λsl O Q=>C sl O λc O1=>(c=true->M sl O1 Q)/\(c=false->N sl O1 Q)
def xk {t a b:Expr}{C:MT}{M N:ME}{pos:Pos}(hc:PT X t (lm K QX E C))(ha:PE X a (bO K QX E M))(hb:PE X b (bO K QX E N)):PE X (.IfExp t a b pos) (bO K QX E (Py C M N)):=PE.imp (tE hc ha hb) λσ H Q ⟨w,O,sl,Q0,c,m,q⟩=>⟨w,O,sl,_,c,m,λx O1 w1 H1 h1 e1 r1=>by
 cases x with
 |true=>exact cE ⟨w1,O1,sl,_,c.ex e1.ex r1,h1.1 rfl,λy O2 u w2 H2 h2 e2 r2 a2=>q _ O2 u w2 H2 h2 (e1.trans e2) r2 a2⟩
 |false=>exact cR ⟨w1,O1,sl,_,c.ex e1.ex r1,h1.2 rfl,λy O2 u w2 H2 h2 e2 r2 a2=>q _ O2 u w2 H2 h2 (e1.trans e2) r2 a2⟩⟩
end
section
variable {K:Θ1}{X:Cx}
def oB {w:Wd}{O:aF}{H:Hp}:ay (G w O H) H:=λa o h=>(eU h).1
def Gv (C:Int->Int->Prop)(g:Int->Int->PyData):mi:=λO x y P=>match x,y with
 |.im (.int i),.im (.int j)=>C i j/\P (.im (g i j)) O
 |_,_=>False
def xt (g:Int->Int->PyData):mi:=λO x y P=>match x,y with
 |.im (.int i),.im (.int j)=>P (.im (g i j)) O
 |_,_=>False
def yz {C:Int->Int->Prop}{g:Int->Int->V}{f:Int->Int->PyData}(hg:∀i j h,ck h (g i j) (f i j)):rY K (rI C g) (Gv C f):=λw O H v u x y P Q r a b hf q=>by
 unfold Gv at hf;split at hf
 .exact⟨_,_,hG a,hG b,hf.1,q _ _ O w H hf.2 (bW.refl _ _ _) r (hg _ _ _)⟩
 .exact hf.elim
def tL {g:Int->Int->V}{f:Int->Int->PyData}(hg:∀i j h,ck h (g i j) (f i j)):rY K (EV g) (xt f):=λw O H v u x y P Q r a b hf q=>by
 unfold xt at hf;split at hf
 .exact⟨_,_,hG a,hG b,q _ _ O w H hf (bW.refl _ _ _) r (hg _ _ _)⟩
 .exact hf.elim
def jB:mi:=λO x y P=>match x,y with
 |.im (.int i),.im (.int j)=>P (.im (.int (i+j))) O
 |.im (.tuple xs),.im (.tuple ys)=>xs.length+ys.length<=sizeLine/\P (.im (.tuple (xs++ys))) O
 |.im (.list xs),.im (.list ys)=>xs.length+ys.length<=sizeLine/\P (.im (.list (xs++ys))) O
 |_,_=>False
def NP:rY K (λx y H Q=>EV (λi j=>.int (i+j)) x y H Q\/(JH x y H Q\/Rw x y H Q)) jB:=λw O H v u x y P Q r a b hf q=>by
 unfold jB at hf;split at hf
 .exact .inl ⟨_,_,hG a,hG b,q _ _ O w H hf (bW.refl _ _ _) r (.int _)⟩
 .obtain⟨p1,us,rfl,h1,t1⟩:=eF a;obtain⟨p2,vs,rfl,h2,t2⟩:=eF b;refine .inr (.inl ⟨p1,p2,us,vs,rfl,rfl,h1,h2,by rw[t1.len,t2.len];exact hf.1,λp H' s hp=>?_⟩);obtain⟨r1,e1,t⟩:=gj r s hp (t1.app t2);exact q _ _ O w H' hf.2 e1 r1 t
 .obtain⟨p1,us,rfl,h1,t1⟩:=fU a;obtain⟨p2,vs,rfl,h2,t2⟩:=fU b;refine .inr (.inr ⟨p1,p2,us,vs,rfl,rfl,h1,h2,by rw[t1.len,t2.len];exact hf.1,λp hp=>?_⟩);obtain⟨r1,e1,t⟩:=lY r hp (t1.app t2);exact q _ _ O w _ hf.2 e1 r1 t
 .exact hf.elim
def d8 {QX:Addr->aF->Prop}{E:XK}{Ma Mb:ME}{a b:Expr}{pos:Pos}(ha:PE X a (bO K QX E Ma))(hb:PE X b (bO K QX E Mb)):PE X (.BinOp a .Add b pos) (bO K QX E (bL jB Ma Mb)):=xj (dj.or (HD.or Ng)) NP ha hb
abbrev Rc:mi:=xt λi j=>.int (i-j)
def NF {QX:Addr->aF->Prop}{E:XK}{Ma Mb:ME}{a b:Expr}{pos:Pos}(ha:PE X a (bO K QX E Ma))(hb:PE X b (bO K QX E Mb)):PE X (.BinOp a .Sub b pos) (bO K QX E (bL Rc Ma Mb)):=xj vm (tL λ_ _ _=>.int _) ha hb
abbrev zo:mi:=Gv (λi j=>Bd 8000 i/\Bd 8000 j) λi j=>.int (i*j)
def m7 {QX:Addr->aF->Prop}{E:XK}{Ma Mb:ME}{a b:Expr}{pos:Pos}(ha:PE X a (bO K QX E Ma))(hb:PE X b (bO K QX E Mb)):PE X (.BinOp a .Mult b pos) (bO K QX E (bL zo Ma Mb)):=xj rP (yz λ_ _ _=>.int _) ha hb
abbrev LY:mi:=Gv (λ_ j=>0<j/\Bd 8000 j) λi j=>.int (i / j)
def C3 {QX:Addr->aF->Prop}{E:XK}{Ma Mb:ME}{a b:Expr}{pos:Pos}(ha:PE X a (bO K QX E Ma))(hb:PE X b (bO K QX E Mb)):PE X (.BinOp a .FloorDiv b pos) (bO K QX E (bL LY Ma Mb)):=xj Ec (yz λ_ _ _=>.int _) ha hb
abbrev KW:mi:=xt λi j=>.bool (decide (j<i))
def oQ:rY K (EV λi j=>.bl (decide (j<i))) KW:=tL λ_ _ _=>.bl _
def OL:PyData->PyData->Bool
 |.int i,.int j=>decide (i=j)
 |d,e=>PyData.eqv d e
def vC (d e:PyData):OL d e=PyData.eqv d e:=by
 cases d<;>cases e<;>first |rfl |(show decide _=_;rw[PyData.eqv];rfl)
def FH (neg:Bool):mi:=λO x y P=>match x,y with
 |.im d,.im e=>min d.depth e.depth<=60/\P (.im (.bool (if neg then !OL d e else OL d e))) O
 |_,_=>False
def Cd:rY K (Gg K0) (FH false):=λw O H v u x y P Q r a b hf q=>by
 unfold FH at hf;split at hf
 .refine⟨_,_,(ck.ap oB a).dt,(ck.ap oB b).dt,hf.1,?_⟩;rw[<- vC];exact q _ _ O w H hf.2 (bW.refl _ _ _) r (.bl _)
 .exact hf.elim
def J3:rY K (Ge K0) (FH true):=λw O H v u x y P Q r a b hf q=>by
 unfold FH at hf;split at hf
 .refine⟨_,_,(ck.ap oB a).dt,(ck.ap oB b).dt,hf.1,?_⟩;rw[<- vC];exact q _ _ O w H hf.2 (bW.refl _ _ _) r (.bl _)
 .exact hf.elim
def Ca (hu:X.A.units+64<cLine):fj X (compareOp .Eq) (Gg K0):=CV hu
def JN (hu:X.A.units+64<cLine):fj X (compareOp .NotEq) (Ge K0):=Ni hu
def Ou (neg:Bool):mi:=λO x y P=>match x,y with
 |.im (.int i),.im (.list ds)=>∃ns:Γ3,ds=ns.map .int/\P (.im (.bool (if neg then !ns.contains i else ns.contains i))) O
 |.im (.int i),.im (.tuple ds)=>∃ns:Γ3,ds=ns.map .int/\P (.im (.bool (if neg then !ns.contains i else ns.contains i))) O
 |_,_=>False
def pF (ns:Γ3):(ns.map V.int).all iu=true:=by
 rw[Xf];exact Ya.mpr λ_ _=>rfl
def xo (neg:Bool):rY K (Pe K0 neg) (Ou neg):=λw O H v u x y P Q r a b hf q=>by
 unfold Ou at hf;split at hf
 .obtain⟨ns,rfl,h⟩:=hf;obtain⟨p1,us,rfl,h1,t1⟩:=fU b;rw[iD t1] at h1;refine⟨p1,_,rfl,.inl (bD.of h1),by rw[hG a];rfl,pF ns,?_⟩;rw[hG a,yF];exact q _ _ O w H h (bW.refl _ _ _) r (.bl _)
 .obtain⟨ns,rfl,h⟩:=hf;obtain⟨p1,us,rfl,h1,t1⟩:=eF b;rw[iD t1] at h1;refine⟨p1,_,rfl,.inr (aM.of h1),by rw[hG a];rfl,pF ns,?_⟩;rw[hG a,yF];exact q _ _ O w H h (bW.refl _ _ _) r (.bl _)
 .exact hf.elim
def rc:PyData->Bool
 |.none=>true
 |_=>false
def qZ (neg:Bool):mi:=λO x y P=>match x,y with
 |.im d,.im .none=>P (.im (.bool (if neg then !rc d else rc d))) O
 |_,_=>False
def IB {g:Hp}{v:V}{d:PyData}(h:ck g v d):decide (v=.bV)=rc d:=by
 cases h<;>rfl
def Iq:rY K (λx y H Q=>y=.bV/\Q (.bl (!decide (x=.bV))) H) (qZ true):=λw O H v u x y P Q r a b hf q=>by
 unfold qZ at hf;split at hf
 .refine⟨J9 b,?_⟩;rw[IB a];exact q _ _ O w H hf (bW.refl _ _ _) r (.bl _)
 .exact hf.elim
def cZ:mi:=λO x y P=>match x,y with
 |.im (.list ds),.im (.int i)=>∃d,gv ds i=some d/\P (.im d) O
 |.im (.tuple ds),.im (.int i)=>∃d,gv ds i=some d/\P (.im d) O
 |.own k,.im (.int i)=>∃c z,O[k]?=some (some c)/\gv c i=some z/\P z O
 |_,_=>False
def Dw {g:Hp}{xs:List V}{ds:Ξ1}{i:Int}{d:PyData}(t:aI g xs ds)(h:gv ds i=some d):∃v,gv xs i=some v/\ck g v d:=by
 unfold gv at h ⊢;rw[t.len];cases hj:rQ ds.length i with
 |none=>rw[hj] at h;cases h
 |some j =>
  rw[hj] at h;exact t.get h
def Dy {w:Wd}{g:Hp}{xs:List V}{ds:List AV}{i:Int}{d:AV}(t:aZ K w g xs ds)(h:gv ds i=some d):∃v,gv xs i=some v/\jd K w g v d:=by
 unfold gv at h ⊢;rw[t.1];cases hj:rQ ds.length i with
 |none=>rw[hj] at h;cases h
 |some j =>
  rw[hj] at h;exact t.at h
def TB:rY K (λx y H Q=>Gf K0 x y H Q\/Lw K0 x y H Q) cZ:=λw O H v u x y P Q r a b hf q=>by
 unfold cZ at hf;split at hf
 .obtain⟨d,hd,hf⟩:=hf;obtain⟨p1,us,rfl,h1,t1⟩:=fU a;obtain⟨z,hz,tz⟩:=Dw t1 hd;exact .inl ⟨p1,us,_,z,rfl,hG b,bD.of h1,hz,q _ _ O w H hf (bW.refl _ _ _) r tz⟩
 .obtain⟨d,hd,hf⟩:=hf;obtain⟨p1,us,rfl,h1,t1⟩:=eF a;obtain⟨z,hz,tz⟩:=Dw t1 hd;exact .inr ⟨p1,us,_,z,rfl,hG b,aM.of h1,hz,q _ _ O w H hf (bW.refl _ _ _) r tz⟩
 .obtain⟨c,d,hc,hd,hf⟩:=hf;obtain⟨p2,e1,oK,rfl⟩:=a;obtain⟨p1,us,h0,h1,t1⟩:=r.oD oK hc;rw[h0] at e1;cases Option.some.inj e1;obtain⟨z,hz,tz⟩:=Dy t1 hd;exact .inl ⟨_,us,_,z,rfl,hG b,bD.of h1,hz,q _ _ O w H hf (bW.refl _ _ _) r tz⟩
 .exact hf.elim
def db {QX:Addr->aF->Prop}{E:XK}{Ma Mb:ME}{a b:Expr}{pos:Pos}(ha:PE X a (bO K QX E Ma))(hb:PE X b (bO K QX E Mb))(hs:rk b:=by exact λ_ _=>rfl):PE X (.Subscript a b pos) (bO K QX E (bL cZ Ma Mb)):=Tw (sq.or cj) TB ha hb hs
abbrev MO:=fK->aF->(Option Int->aF->Prop)->Prop
def Ua (K:Θ1)(QX:Addr->aF->Prop)(E:XK)(M:MO):TO:=λσ H Q=>∃w O sl Q0,jO K QX E w O H σ sl/\M sl O Q0/\∀c O' w' H',Q0 c O'->bW w O H w' O' H'->az K w' O' H'->Q c H'
def Gp:MO:=λ_ O Q=>Q none O
def Gm (M:ME):MO:=λsl O Q=>M sl O λx O1=>match x with
 |.im (.int i)=>Q (some i) O1
 |_=>False
def PO.imp {e:Option Expr}{t t':TO}(h:PO X e t)(i:∀σ H Q,t' σ H Q->t σ H Q):PO X e t':=λae s σ H Q I q=>h ae s σ H Q I (i σ H Q q)
def qW {QX:Addr->aF->Prop}{E:XK}:PO X none (Ua K QX E Gp):=PO.imp Hx λσ H Q ⟨w,O,sl,Q0,c,m,q⟩=>q none O w H m (bW.refl _ _ _) c.ro
def qV {QX:Addr->aF->Prop}{E:XK}{e:Expr}{M:ME}(h:PE X e (bO K QX E M)):PO X (some e) (Ua K QX E (Gm M)):=PO.imp (Hw h) λσ H Q ⟨w,O,sl,Q0,c,m,q⟩=>⟨w,O,sl,_,c,m,λx O1 v w1 H1 h1 e1 r1 a1=>by
 split at h1
 .exact⟨_,hG a1,q _ O1 w1 H1 h1 e1 r1⟩
 .exact h1.elim⟩
def cutD (xs:Ξ1)(lo hi:Option Int):Ξ1:=(xs.drop (HT.cP xs.length 0 lo)).take (HT.cP xs.length xs.length hi-HT.cP xs.length 0 lo)
def slF (O:aF)(x:AV)(lo hi:Option Int)(P:AV->aF->Prop):Prop:=match x with
 |.im (.tuple ds)=>P (.im (.tuple (cutD ds lo hi))) O
 |.im (.list ds)=>P (.im (.list (cutD ds lo hi))) O
 |_=>False
def Uj (M:ME)(L U:MO):ME:=λsl O Q=>M sl O λx O1=>L sl O1 λl O2=>U sl O2 λu O3=>slF O3 x l u Q
def Dv {g:Hp}{xs:List V}{ds:Ξ1}{lo hi:Option Int}(t:aI g xs ds):aI g (mE xs lo hi) (cutD ds lo hi):=by
 unfold mE cutD;rw[t.len];exact(t.drop _).take _
def nD {QX:Addr->aF->Prop}{E:XK}{M:ME}{L U:MO}{e:Expr}{lo hi:Option Expr}{p2 pos:Pos}(he:PE X e (bO K QX E M))(hl:PO X lo (Ua K QX E L))(hu:PO X hi (Ua K QX E U)):PE X (.Subscript e (.Slice lo hi none p2) pos) (bO K QX E (Uj M L U)) :=
 PE.imp (D7 (G6.or YR) he hl hu) λσ H Q ⟨w,O,sl,Q0,c,m,q⟩=>⟨w,O,sl,_,c,m,λx O1 v w1 H1 h1 e1 r1 a1=>⟨w1,O1,sl,_,c.ex e1.ex r1,h1,λl O2 w2 H2 h2 e2 r2=>⟨w2,O2,sl,_,(c.ex e1.ex r1).ex e2.ex r2,h2,λu O3 w3 H3 h3 e3 r3=>by
  have a3:=(a1.ex e2.ex).ex e3.ex;have e13:=(e1.trans e2).trans e3;unfold slF at h3;split at h3
  .obtain⟨p1,us,rfl,g1,t1⟩:=eF a3;refine .inl ⟨p1,us,rfl,g1,λp H' s hp=>?_⟩;obtain⟨r4,e4,t4⟩:=gj r3 s hp (Dv t1);exact q _ O3 _ w3 H' h3 (e13.trans e4) r4 t4
  .obtain⟨p1,us,rfl,g1,t1⟩:=fU a3;refine .inr ⟨p1,us,rfl,bD.of g1,λp hp=>?_⟩;obtain⟨r4,e4,t4⟩:=lY r3 hp (Dv t1);exact q _ O3 _ w3 _ h3 (e13.trans e4) r4 t4
  .exact h3.elim⟩⟩⟩
def BK:uY:=λO xs P=>match xs with
 |[.im (.list ds)]=>P (.im (.int ds.length)) O
 |[.im (.tuple ds)]=>P (.im (.int ds.length)) O
 |[.own k]=>∃c,O[k]?=some (some c)/\P (.im (.int c.length)) O
 |_=>False
def vp:Bh K JG BK:=λw O H vs xs P Q r a hf q=>by
 unfold BK at hf;split at hf
 .obtain⟨v,us,rfl,h1,h2⟩:=a.aP;rw[h2.bX];obtain⟨p1,lI,rfl,g1,t1⟩:=fU h1;exact⟨p1,lI,rfl,.inl (bD.of g1),by rw[t1.len];exact q _ _ O w H hf (bW.refl _ _ _) r (.int _)⟩
 .obtain⟨v,us,rfl,h1,h2⟩:=a.aP;rw[h2.bX];obtain⟨p1,lI,rfl,g1,t1⟩:=eF h1;exact⟨p1,lI,rfl,.inr (aM.of g1),by rw[t1.len];exact q _ _ O w H hf (bW.refl _ _ _) r (.int _)⟩
 .obtain⟨c,hc,hf⟩:=hf;obtain⟨v,us,rfl,h1,h2⟩:=a.aP;rw[h2.bX];obtain⟨p2,e1,oK,rfl⟩:=h1;obtain⟨p1,lI,h0,g1,t1⟩:=r.oD oK hc;rw[h0] at e1;cases Option.some.inj e1;exact⟨_,lI,rfl,.inl (bD.of g1),by rw[t1.1];exact q _ _ O w H hf (bW.refl _ _ _) r (.int _)⟩
 .exact hf.elim
def Ce:uY:=λO xs P=>match xs with
 |[.wO ns]=>P (.im (.int ns.length)) O
 |_=>False
def Tf (K:Θ1):List V->Hp->VK->Prop:=λxs H Q=>∃p ys,xs=[.ref p]/\(bD K H p ys\/aM K H p ys)/\Q (.int ys.length) H
def Iw:Bh K (Tf K) Ce:=λw O H vs xs P Q r a hf q=>by
 unfold Ce at hf;split at hf
 .obtain⟨v,us,rfl,h1,h2⟩:=a.aP;rw[h2.bX];obtain⟨p1,rfl,g1⟩:=h1;exact⟨p1,_,rfl,.inl (KG.bD.ap g1 oB),by rw[Zb];exact q _ _ O w H hf (bW.refl _ _ _) r (.int _)⟩
 .exact hf.elim
def Cg (g:Int->Int->Int):uY:=λO xs P=>match xs with
 |[.im (.int i),.im (.int j)]=>P (.im (.int (g i j))) O
 |_=>False
def Ir:Bh K (λxs H Q=>∃i j,xs=[.int i,.int j]/\Q (.int (if j<i then j else i)) H) (Cg λi j=>if j<i then j else i):=λw O H vs xs P Q r a hf q=>by
 unfold Cg at hf;split at hf
 .obtain⟨v,us,rfl,h1,h2⟩:=a.aP;obtain⟨v2,OT,rfl,h3,h4⟩:=h2.aP;rw[h4.bX,hG h1,hG h3];exact⟨_,_,rfl,q _ _ O w H hf (bW.refl _ _ _) r (.int _)⟩
 .exact hf.elim
def Gu:uY:=λO xs P=>match xs with
 |[.im (.int i)]=>P (.im (.int i)) O
 |[.im (.bool c)]=>P (.im (.int (if c then 1 else 0))) O
 |_=>False
def yy:Bh K (λxs H Q=>(∃i,xs=[.int i]/\Q (.int i) H)\/∃k,xs=[.bl k]/\Q (.int (if k then 1 else 0)) H) Gu:=λw O H vs xs P Q r a hf q=>by
 unfold Gu at hf;split at hf
 .obtain⟨v,us,rfl,h1,h2⟩:=a.aP;rw[h2.bX,hG h1];exact .inl ⟨_,rfl,q _ _ O w H hf (bW.refl _ _ _) r (.int _)⟩
 .obtain⟨v,us,rfl,h1,h2⟩:=a.aP;rw[h2.bX,BO h1];exact .inr ⟨_,rfl,q _ _ O w H hf (bW.refl _ _ _) r (.int _)⟩
 .exact hf.elim
def ox:AV->Option (Ξ1)
 |.im (.list ds)=>some ds
 |.im (.tuple ds)=>some ds
 |_=>none
def iR {w:Wd}{O:aF}{H:Hp}{v:V}{x:AV}{ds:Ξ1}(h:ox x=some ds)(a:jd K w (G w O H) v x):∃p us,v=.ref p/\(bD K0 H p us\/aM K0 H p us)/\aI (G w O H) us ds:=by
 unfold ox at h;split at h
 .cases h
  obtain⟨p,us,rfl,g1,t1⟩:=fU a;exact⟨p,us,rfl,.inl (bD.of g1),t1⟩
 .cases h
  obtain⟨p,us,rfl,g1,t1⟩:=eF a;exact⟨p,us,rfl,.inr (aM.of g1),t1⟩
 .cases h
def sd (f:Ξ1->(PyData->Prop)->Prop):uY:=λO xs P=>match xs with
 |[x]=>match ox x with
  |some ds=>f ds λd=>P (.im d) O
  |none=>False
 |_=>False
def FV:uY:=sd λds P=>∃ns:Γ3,ds=ns.map .int/\P (.int ns.sum)
def Dg:Bh K JE FV:=λw O H vs xs P Q r a hf q=>by
 unfold FV sd at hf;split at hf
 .split at hf
  .rename_i ds hd;obtain⟨v,us,rfl,h1,h2⟩:=a.aP;rw[h2.bX];obtain⟨p,lI,rfl,hs,t1⟩:=iR hd h1;obtain⟨ns,rfl,h⟩:=hf;rw[iD t1] at hs;exact⟨p,ns,rfl,hs,q _ _ O w H h (bW.refl _ _ _) r (.int _)⟩
  .exact hf.elim
 .exact hf.elim
def BR:uY:=sd λds P=>∃ns:List Bool,ds=ns.map .bool/\P (.bool (ns.any id))
def N8 (ns:List Bool):(ns.map V.bl).any tv=ns.any id:=by induction ns with |nil=>rfl |cons n ns ih=>simp only[Zi,Xu,ih];rfl
def D1 (ns:List Bool):(ns.map V.bl).all gE=true:=by induction ns with |nil=>rfl |cons n ns ih=>simp only[Zi,X0,ih];rfl
def vq:Bh K JI BR:=λw O H vs xs P Q r a hf q=>by
 unfold BR sd at hf;split at hf
 .split at hf
  .rename_i ds hd;obtain⟨v,us,rfl,h1,h2⟩:=a.aP;rw[h2.bX];obtain⟨p,lI,rfl,hs,t1⟩:=iR hd h1;obtain⟨ns,rfl,h⟩:=hf;rw[Kb t1] at hs;refine⟨p,_,rfl,hs,D1 ns,?_⟩;rw[N8];exact q _ _ O w H h (bW.refl _ _ _) r (.bl _)
  .exact hf.elim
 .exact hf.elim
def jg:uY:=λO xs P=>match xs with
 |[.own k]=>∃ds:Ξ1,O[k]?=some (some (ds.map .im))/\P (.im (.tuple ds)) O
 |[x]=>match ox x with
  |some ds=>P (.im (.tuple ds)) O
  |none=>False
 |_=>False
def wP:Bh K JD jg:=λw O H vs xs P Q r a hf q=>by
 unfold jg at hf;split at hf
 .obtain⟨ds,hc,hf⟩:=hf;obtain⟨v,us,rfl,h1,h2⟩:=a.aP;rw[h2.bX];obtain⟨p2,e1,oK,rfl⟩:=h1;obtain⟨p1,lI,h0,g1,t1⟩:=r.oD oK hc;rw[h0] at e1;cases Option.some.inj e1;refine⟨_,lI,rfl,.inl ⟨bD.of g1,λl hl=>?_⟩⟩;obtain⟨r1,e1,t2⟩:=eN r hl (aZ.tr t1);exact q _ _ O w _ hf e1 r1 t2
 .rename_i x _;split at hf
  .rename_i ds hd;obtain⟨v,us,rfl,h1,h2⟩:=a.aP;rw[h2.bX];unfold ox at hd;split at hd
   .cases hd
    obtain⟨p,lI,rfl,g1,t1⟩:=fU h1;refine⟨p,lI,rfl,.inl ⟨bD.of g1,λl hl=>?_⟩⟩;obtain⟨r1,e1,t2⟩:=eN r hl t1;exact q _ _ O w _ hf e1 r1 t2
   .cases hd
    obtain⟨p,lI,rfl,g1,t1⟩:=eF h1;exact⟨p,lI,rfl,.inr ⟨aM.of g1,q _ _ O w _ hf (bW.refl _ _ _) r h1⟩⟩
   .cases hd
  .exact hf.elim
 .exact hf.elim
def Gq:uY:=sd λds P=>P (.list ds)
def Dh:Bh K B7 Gq:=λw O H vs xs P Q r a hf q=>by
 unfold Gq sd at hf;split at hf
 .split at hf
  .rename_i ds hd;obtain⟨v,us,rfl,h1,h2⟩:=a.aP;rw[h2.bX];obtain⟨p,lI,rfl,hs,t1⟩:=iR hd h1;refine⟨p,lI,rfl,hs,λl hl=>?_⟩;obtain⟨r1,e1,t2⟩:=lY r hl t1;exact q _ _ O w _ hf e1 r1 t2
  .exact hf.elim
 .exact hf.elim
def LG:uY:=λO xs P=>match xs with
 |[x]=>match ox x with
  |some ds=>P (.own O.length) (O++[some (ds.map .im)])
  |none=>False
 |_=>False
def Is:Bh K B7 LG:=λw O H vs xs P Q r a hf q=>by
 unfold LG at hf;split at hf
 .split at hf
  .rename_i ds hd;obtain⟨v,us,rfl,h1,h2⟩:=a.aP;rw[h2.bX];obtain⟨p,lI,rfl,hs,t1⟩:=iR hd h1;refine⟨p,lI,rfl,hs,λl hl=>?_⟩;obtain⟨r1,e1,t2⟩:=r.own hl (aI.UL t1);exact q _ _ _ _ _ hf e1 r1 ⟨l,t2,λz=>absurd (r.dl _ z) (Yi _),rfl⟩
  .exact hf.elim
 .exact hf.elim
end
section
variable {K:Θ1}{QX:Addr->aF->Prop}{E:XK}{X:Cx}{w:Wd}{O:aF}{H:Hp}
structure Go (M:MS)(D:xI)(sl:fK)(O:aF):Prop where
 go:M D sl O
def bv (M N:MS):MS:=λD sl O=>M { D with nx:=λdH O'=>Go N D dH O' } sl O
def lr:MS:=λD sl O=>D.nx sl O
def jD:jb X [] (jt K QX E lr):=jb.imp oI λD σ H ⟨w,O,sl,D0,c,m,hn,hb,hc,hr⟩=>hn sl O w H σ m c (bW.refl _ _ _)
def df {st:Stmt}{kG:List Stmt}{M N:MS}(h1:PS X st (jt K QX E M))(h2:jb X kG (jt K QX E N)):jb X (st::kG) (jt K QX E (bv M N)):=jb.imp (fh h1 h2) λD σ H ⟨w,O,sl,D0,c,m,hn,hb,hc,hr⟩ =>
 ⟨w,O,sl,_,c,m,λVk O1 w1 H1 IU h1 c1 e1=>⟨w1,O1,Vk,D0,c1,h1.go,λb9 O2 w2 H2 cv h2 c2 e2=>hn b9 O2 w2 H2 cv h2 c2 (e1.trans e2),λb9 O2 w2 H2 cv h2 c2 e2=>hb b9 O2 w2 H2 cv h2 c2 (e1.trans e2),λb9 O2 w2 H2 cv h2 c2 e2=>hc b9 O2 w2 H2 cv h2 c2 (e1.trans e2),λx O2 w2 H2 v h2 e2 r2 a2=>hr x O2 w2 H2 v h2 (e1.trans e2) r2 a2⟩,hb,hc,hr⟩
def eQ {st:Stmt}{M:MS}(h1:PS X st (jt K QX E M)):jb X [st] (jt K QX E M):=dJ h1
def xl (M:ME):MS:=λD sl O=>M sl O λ_ O1=>D.nx sl O1
def qT {e:Expr}{M:ME}{pos:Pos}(he:PE X e (bO K QX E M))(hs:swapsWith e none pos.line X.env=pure false:=by rfl):PS X (.Expr e pos) (jt K QX E (xl M)):=PS.imp (yb he hs) λD σ H ⟨w,O,sl,D0,c,m,hn,hb,hc,hr⟩=>⟨w,O,sl,_,c,m,λx O1 v w1 H1 h1 e1 r1 a1=>hn sl O1 w1 H1 σ h1 (c.ex e1.ex r1) e1⟩
def cU (M:ME):MS:=λD sl O=>M sl O D.rt
def jv {e:Expr}{M:ME}{pos:Pos}(he:PE X e (bO K QX E M)):PS X (.Return (some e) pos) (jt K QX E (cU M)):=PS.imp (gm he) λD σ H ⟨w,O,sl,D0,c,m,hn,hb,hc,hr⟩=>⟨w,O,sl,_,c,m,λx O1 v w1 H1 h1 e1 r1 a1=>hr x O1 w1 H1 v h1 e1 r1 a1⟩
def sn (C:MT)(M N:MS):MS:=λD sl O=>C sl O λc O1=>(c=true->M D sl O1)/\(c=false->N D sl O1)
def mM {t:Expr}{a b:List Stmt}{C:MT}{M N:MS}{pos:Pos}(hc:PT X t (lm K QX E C))(ha:jb X a (jt K QX E M))(hb:jb X b (jt K QX E N)):PS X (.If t a b pos) (jt K QX E (sn C M N)):=PS.imp (oH hc ha hb) λD σ H ⟨w,O,sl,D0,c,m,hn,hb,hc,hr⟩=>⟨w,O,sl,_,c,m,λx O1 w1 H1 h1 e1 r1=>by
 have z:∀{M:MS},M D0 sl O1->jt K QX E M D σ H1:=λh=>⟨w1,O1,sl,D0,c.ex e1.ex r1,h,λb9 O2 w2 H2 cv h2 c2 e2=>hn b9 O2 w2 H2 cv h2 c2 (e1.trans e2),λb9 O2 w2 H2 cv h2 c2 e2=>hb b9 O2 w2 H2 cv h2 c2 (e1.trans e2),λb9 O2 w2 H2 cv h2 c2 e2=>hc b9 O2 w2 H2 cv h2 c2 (e1.trans e2),λx O2 w2 H2 v h2 e2 r2 a2=>hr x O2 w2 H2 v h2 (e1.trans e2) r2 a2⟩
 cases x with
 |true=>exact cE (z (h1.1 rfl))
 |false=>exact cR (z (h1.2 rfl))⟩
abbrev MG:=AV->fK->aF->(fK->aF->Prop)->Prop
abbrev Fq:=List AV->fK->aF->(fK->aF->Prop)->Prop
def n8 (K:Θ1)(QX:Addr->aF->Prop)(E:XK)(mg:MG):TG:=λv σ H Q=>∃w O sl x Q0,jO K QX E w O H σ sl/\jd K w (G w O H) v x/\mg x sl O Q0/\∀dH O' w' H' aB,Q0 dH O'->jO K QX E w' O' H' aB dH->bW w O H w' O' H'->Q aB H'
def BC (K:Θ1)(QX:Addr->aF->Prop)(E:XK)(mg:Fq):zg:=λvs σ H Q=>∃w O sl xs Q0,jO K QX E w O H σ sl/\aZ K w (G w O H) vs xs/\mg xs sl O Q0/\∀dH O' w' H' aB,Q0 dH O'->jO K QX E w' O' H' aB dH->bW w O H w' O' H'->Q aB H'
def PG.imp {tg:Expr}{t t':TG}(h:PG X tg t)(i:∀v σ H Q,t' v σ H Q->t v σ H Q):PG X tg t':=λae s σ H v u Q I r q=>h ae s σ H v u Q I r (i v σ H Q q)
def uH.imp {tg:Ξ2}{t t':zg}(h:uH X tg t)(i:∀v σ H Q,t' v σ H Q->t v σ H Q):uH X tg t':=λae s σ H v u Q I r q=>h ae s σ H v u Q I r (i v σ H Q q)
def bi (i:Nat):MG:=λx sl O Q=>Q (sl.set i (some x)) O
def jO.put {σ:St}{sl:fK}(c:jO K QX E w O H σ sl){v:V}{x:AV}(a:jd K w (G w O H) v x)(i:Nat):jO K QX E w O H (σ.set i (some v)) (sl.set i (some x)):=⟨c.ro,c.so.set a i,c.zx⟩
def fq {i:Nat}{tg:Expr}(h:PG X tg (fk i)):PG X tg (n8 K QX E (bi i)):=PG.imp h λv σ H Q ⟨w,O,sl,x,Q0,c,a,m,q⟩=>q _ O w H _ m (c.put a i) (bW.refl _ _ _)
def cc:Fq:=λxs sl O Q=>match xs with
 |[]=>Q sl O
 |_=>False
def aG (t:MG)(u:Fq):Fq:=λxs sl O Q=>match xs with
 |x::r=>t x sl O λdH O'=>u r dH O' Q
 |_=>False
def uN:uH X [] (BC K QX E cc):=uH.imp gJ λv σ H Q ⟨w,O,sl,x,Q0,c,a,m,q⟩=>by
 unfold cc at m;split at m
 .exact⟨a.bX,q _ O w H _ m c (bW.refl _ _ _)⟩
 .exact m.elim
def jx {e:Expr}{es:Ξ2}{t:MG}{u:Fq}(h1:PG X e (n8 K QX E t))(h2:uH X es (BC K QX E u))(hs:(assignEach (e::es) X.env).map (·.2)=assign e X.env::(assignEach es X.env).map (·.2):=by rfl):uH X (e::es) (BC K QX E (aG t u)):=uH.imp (wQ h1 h2 hs) λv σ H Q ⟨w,O,sl,x,Q0,c,a,m,q⟩=>by
 unfold aG at m;split at m
 .obtain⟨v1,us,rfl,a1,a2⟩:=a.aP;exact⟨v1,us,rfl,w,O,sl,_,_,c,a1,m,λVk O1 w1 H1 IU h1 c1 e1=>⟨w1,O1,Vk,_,_,c1,a2.ex e1.ex,h1,λb9 O2 w2 H2 cv h2 c2 e2=>q b9 O2 w2 H2 cv h2 c2 (e1.trans e2)⟩⟩
 .exact m.elim
def ln (n:Nat)(t:Fq):MG:=λx sl O Q=>match ox x with
 |some ds=>ds.length=n/\t (ds.map .im) sl O Q
 |none=>False
def PG.or {tg:Expr}{t t':TG}(h:PG X tg t)(h':PG X tg t'):PG X tg (λv σ H Q=>t v σ H Q\/t' v σ H Q):=λae s σ H v u Q I r q=>q.elim (λz=>h ae s σ H v u Q I r z) λz=>h' ae s σ H v u Q I r z
def uK {es:Ξ2}{k:Nat}{t:Fq}{n:Nat}{pos:Pos}(hc:X.calm=true)(h:uH X es (BC K QX E t))(hn:(assignEach es X.env).length=n:=by rfl)(ot:(assignEach es X.env).findIdx? (·.1)=none:=by rfl):PG X (.Tuple es k pos) (n8 K QX E (ln n t)) :=
 PG.imp (PG.or (jC hc h hn ot) (Na hc h hn ot)) λv σ H Q ⟨w,O,sl,x,Q0,c,a,m,q⟩=>by
  unfold ln at m;split at m
  .rename_i ds hd;obtain⟨m1,m2⟩:=m;obtain⟨p,us,rfl,hs,t1⟩:=iR hd a;have hl:us.length=n:=by rw[t1.len];exact m1
   have hq:BC K QX E t us σ H Q:=⟨w,O,sl,_,_,c,aI.UL t1,m2,q⟩;rcases hs with hs |hs
   .exact .inr ⟨p,us,rfl,hs,hl,hq⟩
   .exact .inl ⟨p,us,rfl,hs,hl,hq⟩
  .exact m.elim
def mgS (Mo Mi:ME):MG:=λx sl O Q=>Mo sl O λo O1=>Mi sl O1 λi O2=>match o,i with
 |.own k,.im (.int i)=>∃c j,O2[k]?=some (some c)/\rQ c.length i=some j/\Q sl (O2.set k (some (c.set j x)))
 |_,_=>False
def NG {o i:Expr}{Mo Mi:ME}{pos:Pos}(ho:PE X o (bO K QX E Mo))(hi:PE X i (bO K QX E Mi))(ha:∀v,assign (.Subscript o i pos) X.env v=(do
  let ov <- holding [v] (eval o X.env);let iv <- holding [v,ov] (eval i X.env)
  standAt pos
  holding [v,ov,iv] (setItem ov iv v)
  release [v,ov,iv] []):=by intro _;rfl):PG X (.Subscript o i pos) (n8 K QX E (mgS Mo Mi)):=PG.imp (vj ho hi j6 ha) λv σ H Q ⟨w,O,sl,x,Q0,c,a,m,q⟩ =>
 ⟨w,O,sl,_,c,m,λo' O1 v1 w1 H1 h1 e1 r1 a1=>⟨w1,O1,sl,_,c.ex e1.ex r1,h1,λi' O2 v2 w2 H2 h2 e2 r2 a2=>by
  split at h2
  .obtain⟨c',j,ja,hj,h2⟩:=h2;have Bz:=e1.trans e2;obtain⟨p2,e3,oK,rfl⟩:=a1.ex e2.ex;obtain⟨p1,us,h0,g1,t1⟩:=r2.oD oK ja;rw[h0] at e3;cases Option.some.inj e3;obtain⟨r3,e3⟩:=r2.put ja oK h0 g1 (t1.set (a.ex Bz.ex) j);exact⟨_,us,_,j,rfl,hG a2,g1,by rw[t1.1];exact hj,q sl _ w2 _ σ h2 ((c.ex Bz.ex r2).ex e3.ex r3) (Bz.trans e3)⟩
  .exact h2.elim⟩⟩
def bE (M:ME)(mg:MG):MS:=λD sl O=>M sl O λx O1=>mg x sl O1 D.nx
def iG {t:TE}{g:TG}{M:ME}{mg:MG}(ht:∀σ H Q,bO K QX E M σ H Q->t σ H Q)(hg:∀v σ H Q,n8 K QX E mg v σ H Q->g v σ H Q):∀D σ H,jt K QX E (bE M mg) D σ H->BD t g D σ H:=λD σ H ⟨w,O,sl,D0,c,m,hn,hb,hc,hr⟩ =>
 ht σ H _ ⟨w,O,sl,_,c,m,λx O1 v w1 H1 h1 e1 r1 a1=>hg v σ H1 _ ⟨w1,O1,sl,x,_,c.ex e1.ex r1,a1,h1,λb9 O2 w2 H2 cv h2 c2 e2=>hn b9 O2 w2 H2 cv h2 c2 (e1.trans e2)⟩⟩
def qv {tg e:Expr}{M:ME}{mg:MG}{pos:Pos}(he:PE X e (bO K QX E M))(hg:PG X tg (n8 K QX E mg))(hs:swapsWithSole [tg] e pos.line X.env=pure false:=by rfl)(hw:swappedStores [tg] e X.env=pure none:=by rfl)(h1:(assignEach [tg] X.env).map (·.2)=[assign tg X.env]:=by rfl):PS X (.Assign [tg] e pos) (jt K QX E (bE M mg)):=PS.imp (kO he hg hs hw h1) (iG (λ_ _ _ z=>z) λ_ _ _ _ z=>z)
def j5 {i:Nat}:∀v σ H Q,n8 K QX E (bi i) v σ H Q->fk i v σ H Q:=λv σ H Q ⟨w,O,sl,x,Q0,c,a,m,q⟩=>q _ O w H _ m (c.put a i) (bW.refl _ _ _)
def fE {i:Nat}{x:Str}{e:Expr}{M:ME}{pos gz:Pos}(hN:X.N.Nodup)(hi:X.N[i]?=some x)(hx:Loc X.env.scope x)(he:PE X e (bO K QX E M))(hs:swapsWith e (some (.Name x gz)) pos.line X.env=pure false:=by rfl)(hf:X.fn x=true\/X.env.scope.names.lookup x=some .local:=by first |exact .inl rfl |exact .inr rfl |assumption) :
  PS X (.Assign [.Name x gz] e pos) (jt K QX E (bE M (bi i))):=PS.imp (oa hN hi hx he hs hf) (iG (λ_ _ _ z=>z) j5)
def lu (K:Θ1)(J:It)(w:Wd)(O:aF)(H:Hp)(items:List AV):Prop:=∀O2 w2 H2,iO w O H w2 O2 H2->az K w2 O2 H2->∀i,(∀x,items[i]?=some x->J.go i H2/\∀v H3,J.uA i H2 v H3->bW w2 O2 H2 w2 O2 H3/\az K w2 O2 H3/\jd K w2 (G w2 O2 H3) v x)/\(items.length<=i->J.stop i H2)
def uB (K:Θ1)(QX:Addr->aF->Prop)(E:XK)(M:MA):TI:=λσ H R=>∃w O sl Q0,jO K QX E w O H σ sl/\M sl O Q0/\∀items O' w' H' J,Q0 items O'->bW w O H w' O' H'->az K w' O' H'->lu K J w' O' H' items->R J H'
def PI.imp {tg iter:Expr}{t t':TI}(h:PI X tg iter t)(i:∀σ H R,t' σ H R->t σ H R):PI X tg iter t':=λae s σ H R I q=>h ae s σ H R I (i σ H R q)
def Az {a:Addr}{ds:Ξ1}(t:ck (G w O H) (.ref a) (.list ds)):lu K (zk K0 a) w O H (ds.map .im):=λO2 w2 H2 e r i=>by
 cases ck.ap e.ap t with |lst h1 t1=>?_
 rename_i xs;have hh:=(eU h1).1;refine⟨λx hx=>?_,λhl=>⟨xs,bD.of hh,by rw[Zb] at hl;rw[t1.len];exact hl⟩⟩;rw[Zl] at hx;cases hd:ds[i]? with
 |none=>rw[hd] at hx;cases hx
 |some d =>
  rw[hd] at hx;cases Option.some.inj hx;obtain⟨v,hv,tv⟩:=t1.get hd;refine⟨⟨xs,v,bD.of hh,hv⟩,?_⟩;rintro v' H3 ⟨rfl,hy⟩;have:=hy xs (bD.of hh);rw[hv] at this;cases Option.some.inj this;exact⟨bW.refl _ _ _,r,tv⟩
def Ax {a:Addr}{ds:Ξ1}(t:ck (G w O H) (.ref a) (.tuple ds)):lu K (zj K0 a) w O H (ds.map .im):=λO2 w2 H2 e r i=>by
 cases ck.ap e.ap t with |tup h1 t1=>?_
 rename_i xs;have hh:=(eU h1).1;refine⟨λx hx=>?_,λhl=>⟨xs,aM.of hh,by rw[Zb] at hl;rw[t1.len];exact hl⟩⟩;rw[Zl] at hx;cases hd:ds[i]? with
 |none=>rw[hd] at hx;cases hx
 |some d =>
  rw[hd] at hx;cases Option.some.inj hx;obtain⟨v,hv,tv⟩:=t1.get hd;refine⟨⟨xs,v,aM.of hh,hv⟩,?_⟩;rintro v' H3 ⟨rfl,hy⟩;have:=hy xs (aM.of hh);rw[hv] at this;cases Option.some.inj this;exact⟨bW.refl _ _ _,r,tv⟩
def cz (M:ME):MA:=λsl O Q=>M sl O λx O1=>match ox x with
 |some ds=>Q (ds.map .im) O1
 |none=>False
def ZV (tl:TE):TI:=λσ H R=>tl σ H λx H1=>(∃a,x=.ref a/\(∃xs,bD K0 H1 a xs)/\R (zk K0 a) H1)\/(∃a,x=.ref a/\(∃xs,aM K0 H1 a xs)/\R (zj K0 a) H1)
def CQ {tg l:Expr}{tl:TE}(hl:PE X l tl):PI X tg l (ZV tl):=by
 intro ae s σ H R I h;refine bp (hl ae s σ H _ I h) λv s1 ⟨x,H1,I1,r1,q1⟩=>?_
 rcases q1 with ⟨a,e,⟨xs,hq⟩,q⟩ |⟨a,e,⟨xs,hq⟩,q⟩
 .subst e;cases r1;obtain⟨its,rv,p,hz⟩:=I1.list hq.k0;refine wpAny_pyIter_list p.isList ⟨s1.heap.objs.size,[s1.heap.objs.size],_,zk K0 a,H1,rfl,I1.kept (t':=s1.toks) λb o e=>Zj _ e,(oU (K:=X.K) a _).le yA,⟨_,Zy _ rfl,rfl,rfl⟩,λb hb=>?_,q⟩;have e:b=s1.heap.objs.size:=by simpa using hb
  subst e;exact I1.gB (Ze _) (I1.bP.fresh (Ze _))
 .subst e;cases r1;obtain⟨its,rv,p,hz⟩:=I1.tuple hq.k0;refine wpAny_pyIter_tuple (show s1.heap.IsTuple a its.toArray from p) ⟨s1.heap.objs.size,[s1.heap.objs.size],_,zj K0 a,H1,rfl,I1.kept (t':=s1.toks) λb o e=>Zj _ e,(nL (K:=X.K) a _).le Dj,⟨_,Zy _ rfl,rfl,rfl⟩,λb hb=>?_,q⟩;have e:b=s1.heap.objs.size:=by simpa using hb
  subst e;exact I1.gB (Ze _) (I1.bP.fresh (Ze _))
def n9 {tg e:Expr}{M:ME}(he:PE X e (bO K QX E M)):PI X tg e (uB K QX E (cz M)):=PI.imp (CQ he) λσ H R ⟨w,O,sl,Q0,c,m,q⟩=>⟨w,O,sl,_,c,m,λx O1 v w1 H1 h1 e1 r1 a1=>by
 split at h1
 .rename_i ds hd;unfold ox at hd;split at hd
  .cases hd
   obtain⟨a,xs,rfl,g1,t1⟩:=fU a1;exact .inl ⟨a,rfl,⟨xs,bD.of g1⟩,q _ O1 w1 H1 _ h1 e1 r1 (Az a1)⟩
  .cases hd
   obtain⟨a,xs,rfl,g1,t1⟩:=eF a1;exact .inr ⟨a,rfl,⟨xs,aM.of g1⟩,q _ O1 w1 H1 _ h1 e1 r1 (Ax a1)⟩
  .cases hd
 .exact h1.elim⟩
def sf (lo:Int)(n:Nat):List AV:=(List.range n).map λi:Nat=>.im (.int (lo+(i:Int)))
def Ay {lo:Int}{n:Nat}:lu K (QR lo n) w O H (sf lo n):=λO2 w2 H2 e r i=>by
 unfold sf;refine⟨λx hx=>?_,λhl=>by show n<=i;simpa using hl⟩;have hi:i<n:=by have:=(Zf.mp hx).1;simpa using this
 rw[Zl,Yn hi] at hx;cases Option.some.inj hx;refine⟨hi,?_⟩;rintro v H3 ⟨rfl,rfl⟩;exact⟨bW.refl _ _ _,r,.int _⟩
def oy (Ms:MA):MA:=λsl O Q=>Ms sl O λxs O1=>match xs with
 |[.im (.int n)]=>(-(2 ^ 62)<=n/\n<2 ^ 62)/\Q (sf 0 n.toNat) O1
 |_=>False
def Fu {tg a:Expr}{Ms:MA}{p pos:Pos}(hg:Gl X "range")(hm:X.mg "range"=none)(ha:PA X [a] (uC K QX E Ms))(hs:starEach [a] X.env=[(false,eval a X.env)]:=by rfl):PI X tg (.Call (.Name "range" p) [a] [] pos) (uB K QX E (oy Ms)):=PI.imp (ph hg hm ha hs) λσ H R ⟨w,O,sl,Q0,c,m,q⟩=>⟨w,O,sl,_,c,m,λxs O1 vs w1 H1 h1 e1 r1 a1=>by
 split at h1
 .obtain⟨v,us,rfl,h3,h4⟩:=a1.aP;rw[h4.bX,hG h3];exact⟨_,rfl,h1.1.1,h1.1.2,q _ O1 w1 H1 _ h1.2 e1 r1 Ay⟩
 .exact h1.elim⟩
def cF (ds:Ξ1):List AV:=(List.range ds.length).map λi:Nat=>.im (.tuple [.int (i:Int),ds.getD i .none])
def wt {a:Addr}{ds:Ξ1}(t:ck (G w O H) (.ref a) (.tuple ds)):lu K (BB K0 a) w O H (cF ds):=λO2 w2 H2 e r i=>by
 cases ck.ap e.ap t with |tup h1 t1=>?_
 rename_i xs;have hh:=(eU h1).1;unfold cF;refine⟨λx hx=>?_,λhl=>⟨xs,aM.of hh,by rw[t1.len];simpa using hl⟩⟩;have hi:i<ds.length:=by have:=(Zf.mp hx).1;simpa using this
 rw[Zl,Yn hi] at hx;cases Option.some.inj hx;have hd:ds[i]?=some (ds.getD i .none):=by rw[ao (Zc hi)];exact Zc hi
 obtain⟨v,hv,tv⟩:=t1.get hd;refine⟨⟨xs,v,aM.of hh,hv⟩,?_⟩;rintro v' H3 ⟨p,hp,rfl,hy⟩;obtain⟨y,Jc,rfl⟩:=hy xs (aM.of hh);rw[hv] at Jc;cases Option.some.inj Jc;obtain⟨r4,e4,t4⟩:=eN r hp (.cons (.int (i:Int)) (.cons tv .nil));exact⟨e4,r4,t4⟩
def Ui (Ms:MA):MA:=λsl O Q=>Ms sl O λxs O1=>match xs with
 |[.im (.tuple ds)]=>Q (cF ds) O1
 |_=>False
def qX {a:Expr}{Ms:MA}{p pos:Pos}{ik:Ξ2}{kk}{ic:Pos}(hg:Gl X "enumerate")(hm:X.mg "enumerate"=none)(hb:bootBuiltins "enumerate"=some (.type "enumerate"))(ha:PA X [a] (uC K QX E Ms))(hs:starEach [a] X.env=[(false,eval a X.env)]:=by rfl):PI X (.Tuple ik kk ic) (.Call (.Name "enumerate" p) [a] [] pos) (uB K QX E (Ui Ms)):=PI.imp (lV hg hm hb ha hs) λσ H R ⟨w,O,sl,Q0,c,m,q⟩=>⟨w,O,sl,_,c,m,λxs O1 vs w1 H1 h1 e1 r1 a1=>by
 split at h1
 .obtain⟨v,us,rfl,h3,h4⟩:=a1.aP;rw[h4.bX];obtain⟨a,Oe,rfl,g1,t1⟩:=eF h3;exact⟨a,rfl,⟨Oe,aM.of g1⟩,q _ O1 w1 H1 _ h1 e1 r1 (wt h3)⟩
 .exact h1.elim⟩
def uZ (ds es:Ξ1):List AV:=(List.range ds.length).map λi:Nat=>.im (.tuple [ds.getD i .none,es.getD i .none])
def Aw {a b:Addr}{ds es:Ξ1}(t:ck (G w O H) (.ref a) (.tuple ds))(u:ck (G w O H) (.ref b) (.tuple es))(Bs:ds.length<=es.length):lu K (OP K0 a b) w O H (uZ ds es):=λO2 w2 H2 e r i=>by
 cases ck.ap e.ap t with |tup h1 t1=>?_
 rename_i xs;cases ck.ap e.ap u with |tup h2 t2=>?_
 rename_i ys;have hh:=(eU h1).1;have VX:=(eU h2).1;unfold uZ;refine⟨λx hx=>?_,λhl=>⟨xs,ys,aM.of hh,aM.of VX,by rw[t1.len];simpa using hl⟩⟩;have hi:i<ds.length:=by have:=(Zf.mp hx).1;simpa using this
 rw[Zl,Yn hi] at hx;cases Option.some.inj hx;have hd:ds[i]?=some (ds.getD i .none):=by rw[ao (Zc hi)];exact Zc hi
 have he:es[i]?=some (es.getD i .none):=by rw[ao (Zc (show i<es.length by omega))];exact Zc (by omega)
 obtain⟨v,hv,tv⟩:=t1.get hd;obtain⟨v2,hv2,tv2⟩:=t2.get he;refine⟨⟨xs,ys,v,v2,aM.of hh,aM.of VX,hv,hv2⟩,?_⟩;rintro v' H3 ⟨p,hp,rfl,hy⟩;obtain⟨y,y2,Jc,hy2,rfl⟩:=hy xs ys (aM.of hh) (aM.of VX);rw[hv] at Jc;rw[hv2] at hy2;cases Option.some.inj Jc;cases Option.some.inj hy2;obtain⟨r4,e4,t4⟩:=eN r hp (.cons tv (.cons tv2 .nil));exact⟨e4,r4,t4⟩
def Px (Ms:MA):MA:=λsl O Q=>Ms sl O λxs O1=>match xs with
 |[.im (.tuple ds),.im (.tuple es)]=>ds.length<=es.length/\Q (uZ ds es) O1
 |_=>False
def qy {a b:Expr}{Ms:MA}{p pos:Pos}{ik:Ξ2}{kk}{ic:Pos}(hg:Gl X "zip")(hm:X.mg "zip"=none)(hb:bootBuiltins "zip"=some (.type "zip"))(ha:PA X [a,b] (uC K QX E Ms))(hs:starEach [a,b] X.env=[(false,eval a X.env),(false,eval b X.env)]:=by rfl)(og:starEach [b] X.env=[(false,eval b X.env)]:=by rfl):PI X (.Tuple ik kk ic) (.Call (.Name "zip" p) [a,b] [] pos) (uB K QX E (Px Ms)):=PI.imp (Hz hg hm hb ha hs og) λσ H R ⟨w,O,sl,Q0,c,m,q⟩=>⟨w,O,sl,_,c,m,λxs O1 vs w1 H1 h1 e1 r1 a1=>by
 split at h1
 .obtain⟨v,us,rfl,h3,h4⟩:=a1.aP;obtain⟨v2,OT,rfl,h5,h6⟩:=h4.aP;rw[h6.bX];obtain⟨a,Oe,rfl,g1,t1⟩:=eF h3;obtain⟨b,ys',rfl,g2,t2⟩:=eF h5;exact⟨a,b,rfl,⟨Oe,aM.of g1⟩,⟨ys',aM.of g2⟩,q _ O1 w1 H1 _ h1.2 e1 r1 (Aw h3 h5 h1.1)⟩
 .exact h1.elim⟩
structure FB (tg:MG)(body:MS)(D:xI)(sl:fK)(items:List AV)(O1:aF):Prop where
 ex:∃Iv:Nat->fK->aF->Prop,Iv 0 sl O1 /\
 (∀i x dH O',items[i]?=some x->Iv i dH O'->tg x dH O' λb9 O2=>Go body { D with nx:=Iv (i+1),ct:=Iv (i+1),bk:=D.nx } b9 O2)/\∀dH O',Iv items.length dH O'->D.nx dH O'
def oz (it:MA)(tg:MG)(body:MS):MS:=λD sl O=>it sl O (FB tg body D sl)
def gH {tg iter:Expr}{body:List Stmt}{it:MA}{mg:MG}{M:MS}{pos:Pos}(hp:PassesOwn (model X.prog X.w) X.A X.env X.xe)(hc:X.calm=true)(hi:PI X tg iter (uB K QX E it))(hg:PG X tg (n8 K QX E mg))(hb:jb X body (jt K QX E M))(hs:∀x,foldedSetIterable iter X.env x=pure x:=by intro _;rfl):PS X (.For tg iter body [] pos) (jt K QX E (oz it mg M)):=PS.imp (mY hp hc hi hg hb hs) λD σ H ⟨w,O,sl,D0,c,m,hn,hbk,hct,hr⟩=>⟨w,O,sl,_,c,m,λitems O1 w1 H1 J h1 e1 r1 Bp=>by
 obtain⟨Iv,hI0,hIs,hIe⟩:=h1;refine⟨λi m aB H'=>m=items.length-i/\i<=items.length/\∃w' O' dH,jO K QX E w' O' H' aB dH/\bW w1 O1 H1 w' O' H'/\Iv i dH O',⟨items.length,by simp,Z7 _,w1,O1,sl,c.ex e1.ex r1,bW.refl _ _ _,hI0⟩,?_⟩;rintro i m aB H' ⟨rfl,Bs,w',O',dH,c',e',hv⟩;obtain⟨ig,ie⟩:=Bp O' w' H' e'.ex c'.ro i;rcases Z5 i items.length with y |y
 .obtain⟨FE,Fy⟩:=ig _ (Zc y);refine .inr ⟨FE,λcv H2=>∃w2 O2 b9,jO K QX E w2 O2 H2 cv b9/\bW w1 O1 H1 w2 O2 H2/\Iv (i+1) b9 O2,λcv H2 ⟨w2,O2,b9,c2,e2,h2⟩=>⟨items.length-(i+1),by omega,rfl,y,w2,O2,b9,c2,e2,h2⟩,λv H3 Fz=>?_⟩;obtain⟨e3,r3,a3⟩:=Fy v H3 Fz;refine⟨w',O',dH,_,_,c'.ex e3.ex r3,a3,hIs i _ dH O' (Zc y) hv,λom O4 w4 H4 T3 h4 c4 e4=>⟨w4,O4,om,_,c4,h4.go,λyV O5 w5 H5 kD h5 c5 e5=>⟨w5,O5,yV,c5,(e'.trans e3).trans (e4.trans e5),h5⟩,λyV O5 w5 H5 kD h5 c5 e5=>hn yV O5 w5 H5 kD h5 c5 (((e1.trans e').trans e3).trans (e4.trans e5)),λyV O5 w5 H5 kD h5 c5 e5=>⟨w5,O5,yV,c5,(e'.trans e3).trans (e4.trans e5),h5⟩,λx5 O5 w5 H5 v5 h5 e5 r5 a5=>hr x5 O5 w5 H5 v5 h5 (((e1.trans e').trans e3).trans (e4.trans e5)) r5 a5⟩⟩
 .have ei:i=items.length:=by omega
  subst ei;exact .inl ⟨ie (Ze _),hn dH O' w' H' aB (hIe dH O' hv) c' (e1.trans e')⟩⟩
def qz (C:MT)(M:MS):MS:=λD sl O=>∃Iv:Nat->fK->aF->Prop,(∃m,Iv m sl O)/\∀m dH O',Iv m dH O'->C dH O' λc O1=>(c=true->M { D with nx:=λs o=>∃m',m'<m/\Iv m' s o,ct:=λs o=>∃m',m'<m/\Iv m' s o,bk:=D.nx } dH O1)/\(c=false->D.nx dH O1)
def nA {t:Expr}{body:List Stmt}{C:MT}{M:MS}{pos:Pos}(hp:PassesOwn (model X.prog X.w) X.A X.env X.xe)(hc:PT X t (lm K QX E C))(hb:jb X body (jt K QX E M)):PS X (.While t body [] pos) (jt K QX E (qz C M)):=PS.imp (j8 hp hc hb) λD σ H ⟨w,O,sl,D0,c,⟨Iv,⟨m0,hm0⟩,hs⟩,hn,hbk,hct,hr⟩=>by
 refine⟨λm aB H'=>∃w' O' dH,jO K QX E w' O' H' aB dH/\bW w O H w' O' H'/\Iv m dH O',⟨m0,w,O,sl,c,bW.refl _ _ _,hm0⟩,?_⟩;rintro m aB H' ⟨w',O',dH,c',e',hv⟩;refine⟨w',O',dH,_,c',hs m dH O' hv,λb O1 w1 H1 h1 e1 r1=>?_⟩;cases b with
 |true =>
  refine cE ⟨λcv H2=>∃m',m'<m/\∃w2 O2 b9,jO K QX E w2 O2 H2 cv b9/\bW w O H w2 O2 H2/\Iv m' b9 O2,λcv H2 ⟨m',cg,z⟩=>⟨m',cg,z⟩,w1,O1,dH,_,c'.ex e1.ex r1,h1.1 rfl,?_,?_,?_,?_⟩
  .rintro yV O5 w5 H5 kD ⟨m',cg,h5⟩ c5 e5;exact⟨m',cg,w5,O5,yV,c5,(e'.trans e1).trans e5,h5⟩
  .intro yV O5 w5 H5 kD h5 c5 e5;exact hn yV O5 w5 H5 kD h5 c5 ((e'.trans e1).trans e5)
  .rintro yV O5 w5 H5 kD ⟨m',cg,h5⟩ c5 e5;exact⟨m',cg,w5,O5,yV,c5,(e'.trans e1).trans e5,h5⟩
  .intro x5 O5 w5 H5 v5 h5 e5 r5 a5;exact hr x5 O5 w5 H5 v5 h5 ((e'.trans e1).trans e5) r5 a5
 |false=>exact cR (hn dH O1 w1 H1 aB (h1.2 rfl) (c'.ex e1.ex r1) (e'.trans e1))
def Sub (n:Nat)(sl b9:fK):Prop:=b9.length=sl.length/\∀j,n<=j->b9[j]?=sl[j]?
def bt.sub {n:Nat}{ix:List Nat}{g:Hp}{σ:St}{sl b9:fK}(h:bt K w g σ b9)(s:Sub n (cV n ix sl) b9):bt K w g σ (cV n ix sl):=by
 refine⟨h.1.trans s.1,λi x hx=>?_⟩;rcases Z5 i n with y |y
 .unfold cV at hx;rw[Zp (by simpa using y),Xc,if_pos y] at hx;cases Option.some.inj hx
 .exact h.2 i x (by rw[s.2 i y];exact hx)
def aZ.fP {w w':Wd}{g g':Hp}(hb:(w'.dg,w'.ib)=(w.dg,w.ib))(ha:w'.bA=w.bA)(s:ay g g'){vs:List V}{xs:List AV}(h:aZ K w g vs xs):aZ K w' g' vs xs:=⟨h.1,λi v x h1 h2=>jd.fP hb ha s (h.2 i v x h1 h2)⟩
def bt.fP {w w':Wd}{g g':Hp}(hb:(w'.dg,w'.ib)=(w.dg,w.ib))(ha:w'.bA=w.bA)(s:ay g g'){σ:St}{sl:fK}(h:bt K w g σ sl):bt K w' g' σ sl:=⟨h.1,λi x h1=>by obtain⟨v,h2,h3⟩:=h.2 i x h1;exact⟨v,h2,jd.fP hb ha s h3⟩⟩
def Keeps (n:Nat)(mg:MG):Prop:=∀x sl O Q,mg x sl O Q->mg x sl O λb9 O2=>Q b9 O2/\Sub n sl b9
def lL {n i:Nat}(h:i<n):Keeps n (bi i):=λx sl O Q q=>⟨q,by simp,λj hj=>Z6 (by omega)⟩
def nk (n:Nat)(mg:Fq):Prop:=∀x sl O Q,mg x sl O Q->mg x sl O λb9 O2=>Q b9 O2/\Sub n sl b9
def Ku {n:Nat}:nk n cc:=λx sl O Q q=>by
 cases x with
 |nil=>exact⟨q,rfl,λ_ _=>rfl⟩
 |cons y r=>exact q
def wS {n i:Nat}{u:Fq}(h:i<n)(hu:nk n u):nk n (aG (bi i) u):=λx sl O Q q=>by
 cases x with
 |nil=>exact q
 |cons y r =>
  have q':u r (sl.set i (some y)) O Q:=q;have:=hu r _ O _ q';show u r (sl.set i (some y)) O _;have imp:u r (sl.set i (some y)) O (λb9 O2=>Q b9 O2/\Sub n (sl.set i (some y)) b9)->u r (sl.set i (some y)) O (λb9 O2=>Q b9 O2/\Sub n sl b9):=λz=>by
   have e:(λb9 (O2:aF)=>Q b9 O2/\Sub n (sl.set i (some y)) b9)=λb9 (O2:aF)=>Q b9 O2/\Sub n sl b9:=by
    funext b9 O2
    apply propext;unfold Sub;rw[Yo];constructor
    .rintro⟨h1,h2,h3⟩;exact⟨h1,h2,λj hj=>by rw[h3 j hj,Z6 (by omega)]⟩
    .rintro⟨h1,h2,h3⟩;exact⟨h1,h2,λj hj=>by rw[h3 j hj,Z6 (by omega)]⟩
   rw[e] at z;exact z
  exact imp this
def Jb {n m:Nat}{t:Fq}(h:nk n t):Keeps n (ln m t):=λx sl O Q q=>by
 unfold ln at q ⊢;split
 .rename_i ds hd;rw[hd] at q;exact⟨q.1,h _ sl O Q q.2⟩
 .rename_i hd;rw[hd] at q;exact q
def EM {n:Nat}{ix:List Nat}{mg:MG}{C:MT}{M:ME}{items:List AV}{J:It}{w1:Wd}{O1:aF}{H1:Hp}{σ:St}{sl:fK}(c1:jO K QX E w1 O1 H1 σ sl)(Bp:lu K J w1 O1 H1 items)(cy:items.length<=1000000)(Iv:Nat->List AV->aF->Prop)(h0:Iv 0 [] O1)
  (hs:∀i x zs O',items[i]?=some x->Iv i zs O'->mg x (cV n ix sl) O' λb9 O2=>C b9 O2 λc O3=>(c=true->M b9 O3 λy O4=>Iv (i+1) (zs++[y]) O4)/\(c=false->Iv (i+1) zs O3))
  (hk:Keeps n mg) {Qf:VK}(acc:Addr) (cA:H1 acc=none)
  (he:∀zs ys O' w' H',Iv items.length zs O'->az K w' O' H'->w'.bG=(acc,.lst ys)::w1.bG->iO w1 O1 H1 w' O' H'->aZ K w' (G w' O' H') ys zs->Qf (.ref acc) H') :
  iz (n8 K QX E mg) (lm K QX E C) (bO K QX E M) J acc (dQ n ix σ) H1 Qf:=by
 obtain⟨r0,e0⟩:=c1.ro.hide (o:=.lst []) cA (λxs z=>by cases z);refine⟨λi m aB H'=>m=items.length-i/\i<=items.length/\∃w' O' ys zs,az K w' O' H'/\w'.bG=(acc,.lst ys)::w1.bG/\iO w1 O1 H1 w' O' H'/\bt K w' (G w' O' H') aB (cV n ix sl)/\aZ K w' (G w' O' H') ys zs/\zs.length<=i/\Iv i zs O',
  ⟨items.length,by simp,Z7 _,_,O1,[],[],r0,rfl,e0,(c1.so.UK n ix).ex e0,aZ.nil,Ze _,h0⟩,?_⟩
 rintro i m aB H' ⟨rfl,Bs,w',O',ys,zs,r',rV,e',s',a',hz',hv⟩;obtain⟨ig,ie⟩:=Bp O' w' H' e' r' i;rcases Z5 i items.length with y |y
 .obtain⟨FE,Fy⟩:=ig _ (Zc y);refine .inr ⟨FE,λcv H2=>∃w' O' ys zs,az K w' O' H2/\w'.bG=(acc,.lst ys)::w1.bG/\iO w1 O1 H1 w' O' H2/\bt K w' (G w' O' H2) cv (cV n ix sl)/\aZ K w' (G w' O' H2) ys zs/\zs.length<=i+1/\Iv (i+1) zs O',λcv H2 z=>⟨items.length-(i+1),by omega,rfl,y,z⟩,λv H3 Fz=>?_⟩;obtain⟨e3,r3,a3⟩:=Fy v H3 Fz;have K3:jO K QX E w' O' H3 aB (cV n ix sl):=⟨r3,s'.ex e3.ex,λk K4 Km K8 qx K1 Ks=>c1.zx k K4 Km K8 qx ((e'.trans e3.ex).trans K1) Ks⟩;refine⟨w',O',_,_,_,K3,a3,hk _ _ _ _ (hs i _ zs O' (Zc y) hv),λom O4 w4 H4 T3 h4 c4 e4=>⟨w4,O4,om,_,c4,h4.1,λb O5 w5 H5 h5 e5 r5=>?_⟩⟩;have pT:=e3.trans (e4.trans e5);cases b with
  |false=>exact cR ⟨w5,O5,ys,zs,r5,pT.bG.trans rV,e'.trans pT.ex,bt.sub (c4.so.ex e5.ex) h4.2,a'.ex pT.ex,by omega,h5.2 rfl⟩
  |true =>
   refine cE ⟨w5,O5,om,_,c4.ex e5.ex r5,h5.1 rfl,λz O6 v6 w6 H6 h6 e6 r6 a6=>?_⟩;have By:=pT.trans e6;have PZ:w6.bG=(acc,.lst ys)::w1.bG:=By.bG.trans rV;obtain⟨n1,n2,n3,n4⟩:=r6.nh (acc,.lst ys) (by rw[PZ];exact Zg);obtain⟨r7,s7⟩:=r6.qj (o':=.lst (ys++[v6])) PZ (λxs z=>by cases z);have FI:=e'.trans By.ex;refine⟨ys,n3,by rw[a'.1,sz];omega,{ w6 with bG:=(acc,.lst (ys++[v6]))::w1.bG },O6,ys++[v6],zs++[z],r7,rfl,⟨FI.bs,FI.bA,⟨[(acc,.lst (ys++[v6]))],rfl⟩,FI.ap.trans s7,FI.dk⟩,?_,?_,by rw[Zu];simp;omega,h6⟩
   .exact bt.fP rfl rfl s7 (bt.sub ((c4.so.ex e5.ex).ex e6.ex) h4.2)
   .exact aZ.fP rfl rfl s7 ((a'.ex By.ex).app (aZ.cons a6 aZ.nil))
 .have ei:i=items.length:=by omega
  subst ei;exact .inl ⟨ie (Ze _),he zs ys O' w' H' hv r' rV e' a'⟩
structure CB (n:Nat)(ix:List Nat)(mg:MG)(C:MT)(M:ME)(sl:fK)(Q:AV->aF->Prop)(items:List AV)(O1:aF):Prop where
 len:items.length<=1000000
 ex:∃Iv:Nat->Ξ1->aF->Prop,Iv 0 [] O1 /\
 (∀i x ds O',items[i]?=some x->Iv i ds O'->mg x (cV n ix sl) O' λb9 O2=>C b9 O2 λc O3=>(c=true->M b9 O3 λy O4=>match y with
   |.im d=>Iv (i+1) (ds++[d]) O4
   |_=>False)/\(c=false->Iv (i+1) ds O3))/\∀ds O',Iv items.length ds O'->Q (.im (.list ds)) O'
def bY (n:Nat)(ix:List Nat)(it:MA)(mg:MG)(C:MT)(M:ME):ME:=λsl O Q=>it sl O (CB n ix mg C M sl Q)
structure CBO (n:Nat)(ix:List Nat)(mg:MG)(C:MT)(M:ME)(sl:fK)(Q:AV->aF->Prop)(items:List AV)(O1:aF):Prop where
 len:items.length<=1000000
 ex:∃Iv:Nat->List AV->aF->Prop,Iv 0 [] O1 /\
 (∀i x zs O',items[i]?=some x->Iv i zs O'->mg x (cV n ix sl) O' λb9 O2=>C b9 O2 λc O3=>(c=true->M b9 O3 λy O4=>Iv (i+1) (zs++[y]) O4)/\(c=false->Iv (i+1) zs O3))/\∀zs O',Iv items.length zs O'->Q (.own O'.length) (O'++[some zs])
def jE (n:Nat)(ix:List Nat)(it:MA)(mg:MG)(C:MT)(M:ME):ME:=λsl O Q=>it sl O (CBO n ix mg C M sl Q)
def nT {n:Nat}{ix:List Nat}{it:MA}{mg:MG}{C:MT}{M:ME}(hk:Keeps n mg):∀σ H Q,bO K QX E (jE n ix it mg C M) σ H Q->wV (uB K QX E it) (n8 K QX E mg) (lm K QX E C) (bO K QX E M) n ix σ H Q :=
 λσ H Q ⟨w,O,sl,Q0,c,m,q⟩=>⟨w,O,sl,_,c,m,λitems O1 w1 H1 J h1 e1 r1 Bp acc cA=>by
  obtain⟨hl,Iv,h0,hs,he⟩:=h1;refine EM (c.ex e1.ex r1) Bp hl Iv h0 hs hk acc cA λzs ys O' w' H' hv r' rV e' a'=>?_
  obtain⟨r2,s2,rW⟩:=r'.GY rV a';refine q _ _ _ { w' with bG:=w1.bG,bA:=w'.bA++[acc] } _ (he zs O' hv) ⟨e1.ex.trans ⟨e'.bs,?_,⟨[],rfl⟩,e'.ap.trans s2,e'.dk⟩,e1.bG⟩ r2 ⟨acc,rW,λz=>absurd (r'.dl _ z) (Yi _),rfl⟩;obtain⟨t,ht⟩:=e'.bA;exact⟨t++[acc],by show w'.bA++[acc]=_;rw[ht,Ys]⟩⟩
def pq {n:Nat}{ix:List Nat}{it:MA}{mg:MG}{C:MT}{M:ME}(hk:Keeps n mg):∀σ H Q,bO K QX E (bY n ix it mg C M) σ H Q->wV (uB K QX E it) (n8 K QX E mg) (lm K QX E C) (bO K QX E M) n ix σ H Q :=
 λσ H Q ⟨w,O,sl,Q0,c,m,q⟩=>⟨w,O,sl,_,c,m,λitems O1 w1 H1 J h1 e1 r1 Bp acc cA=>by
  obtain⟨hl,Iv,h0,hs,he⟩:=h1;have hC:=c.ex e1.ex r1;obtain⟨r0,e0⟩:=hC.ro.hide (o:=.lst []) cA (λxs z=>by cases z);refine⟨λi m aB H'=>m=items.length-i/\i<=items.length/\∃w' O' ys zs,az K w' O' H'/\w'.bG=(acc,.lst ys)::w1.bG/\iO w1 O1 H1 w' O' H'/\bt K w' (G w' O' H') aB (cV n ix sl)/\aI (G w' O' H') ys zs/\zs.length<=i/\Iv i zs O',
   ⟨items.length,by simp,Z7 _,_,O1,[],[],r0,rfl,e0,(hC.so.UK n ix).ex e0,.nil,Ze _,h0⟩,?_⟩
  rintro i m aB H' ⟨rfl,Bs,w',O',ys,zs,r',rV,e',s',a',hz',hv⟩;obtain⟨ig,ie⟩:=Bp O' w' H' e' r' i;rcases Z5 i items.length with y |y
  .obtain⟨FE,Fy⟩:=ig _ (Zc y);refine .inr ⟨FE,λcv H2=>∃w' O' ys zs,az K w' O' H2/\w'.bG=(acc,.lst ys)::w1.bG/\iO w1 O1 H1 w' O' H2/\bt K w' (G w' O' H2) cv (cV n ix sl)/\aI (G w' O' H2) ys zs/\zs.length<=i+1/\Iv (i+1) zs O',λcv H2 z=>⟨items.length-(i+1),by omega,rfl,y,z⟩,λv H3 Fz=>?_⟩;obtain⟨e3,r3,a3⟩:=Fy v H3 Fz;have K3:jO K QX E w' O' H3 aB (cV n ix sl):=⟨r3,s'.ex e3.ex,λk K4 Km K8 qx K1 Ks=>hC.zx k K4 Km K8 qx ((e'.trans e3.ex).trans K1) Ks⟩;refine⟨w',O',_,_,_,K3,a3,hk _ _ _ _ (hs i _ zs O' (Zc y) hv),λom O4 w4 H4 T3 h4 c4 e4=>⟨w4,O4,om,_,c4,h4.1,λb O5 w5 H5 h5 e5 r5=>?_⟩⟩;have pT:=e3.trans (e4.trans e5);cases b with
   |false=>exact cR ⟨w5,O5,ys,zs,r5,pT.bG.trans rV,e'.trans pT.ex,bt.sub (c4.so.ex e5.ex) h4.2,aI.ap pT.ex.ap a',by omega,h5.2 rfl⟩
   |true =>
    refine cE ⟨w5,O5,om,_,c4.ex e5.ex r5,h5.1 rfl,λz O6 v6 w6 H6 h6 e6 r6 a6=>?_⟩;split at h6
    .rename_i d;have By:=pT.trans e6;have PZ:w6.bG=(acc,.lst ys)::w1.bG:=By.bG.trans rV;obtain⟨n1,n2,n3,n4⟩:=r6.nh (acc,.lst ys) (by rw[PZ];exact Zg);obtain⟨r7,s7⟩:=r6.qj (o':=.lst (ys++[v6])) PZ (λxs z=>by cases z);have FI:=e'.trans By.ex;refine⟨ys,n3,by rw[a'.len,sz];omega,{ w6 with bG:=(acc,.lst (ys++[v6]))::w1.bG },O6,ys++[v6],zs++[d],r7,rfl,⟨FI.bs,FI.bA,⟨[(acc,.lst (ys++[v6]))],rfl⟩,FI.ap.trans s7,FI.dk⟩,?_,?_,by rw[Zu];simp;omega,h6⟩
     .exact bt.fP rfl rfl s7 (bt.sub ((c4.so.ex e5.ex).ex e6.ex) h4.2)
     .exact aI.ap s7 ((aI.ap By.ex.ap a').app (.cons a6 .nil))
    .exact h6.elim
  .have ei:i=items.length:=by omega
   subst ei;refine .inl ⟨ie (Ze _),?_⟩;obtain⟨r2,s2,g2⟩:=r'.Cu rV;exact q _ _ _ { w' with bG:=w1.bG } _ (he zs O' hv) ⟨e1.ex.trans ⟨e'.bs,e'.bA,⟨[],rfl⟩,e'.ap.trans s2,e'.dk⟩,e1.bG⟩ r2 (.lst g2 (aI.ap s2 a'))⟩
def dX.imp {du:Ξ2}{t t':TT}(h:dX X du t)(i:∀σ H Q,t' σ H Q->t σ H Q):dX X du t':=λae s σ H Q I q=>h ae s σ H Q I (i σ H Q q)
def cQ:MT:=λ_ O Q=>Q true O
def kF:dX X [] (lm K QX E cQ):=dX.imp I0 λσ H Q ⟨w,O,sl,Q0,c,m,q⟩=>q true O w H m (bW.refl _ _ _) c.ro
def kP {e:Expr}{M:MT}(h:PT X e (lm K QX E M)):dX X [e] (lm K QX E M):=j9 h
section
variable {scope:Scope}{own cap:Δ2}{ix:List Nat}{tg iter dr:Expr}{du:Ξ2}{it:MA}{mg:MG}{C:MT}{M:ME}{pos:Pos}
def lK (B:aJ X scope own cap ix)(hc:X.calm=true)(hi:PI X tg iter (uB K QX E it))(hk:Keeps own.length mg)
  (hb:∀C' fp s H,PG (cN X scope C' (own++cap) fp s H) tg (n8 K QX E mg)/\dX (cN X scope C' (own++cap) fp s H) du (lm K QX E C)/\PE (cN X scope C' (own++cap) fp s H) dr (bO K QX E M))
  (hs:∀x,foldedSetIterable iter X.env x=pure x:=by intro _;rfl):PE X (.ListComp dr [⟨tg,iter,du,0⟩] scope pos) (bO K QX E (bY own.length ix it mg C M)):=PE.imp (E1 B hc hi hb hs) (pq hk)
def tK (B:aJ X scope own cap ix)(hc:X.calm=true)(hi:PI X tg iter (uB K QX E it))(hk:Keeps own.length mg)
  (hb:∀C' fp s H,PG (cN X scope C' (own++cap) fp s H) tg (n8 K QX E mg)/\dX (cN X scope C' (own++cap) fp s H) du (lm K QX E C)/\PE (cN X scope C' (own++cap) fp s H) dr (bO K QX E M))
  (hs:∀x,foldedSetIterable iter X.env x=pure x:=by intro _;rfl):PE X (.ListComp dr [⟨tg,iter,du,0⟩] scope pos) (bO K QX E (jE own.length ix it mg C M)):=PE.imp (E1 B hc hi hb hs) (nT hk)
def yn {i:Nat}{y:Str}{py jR:Pos}(hN:X.N.Nodup)(FD:X.N[i]?=some y)(hx:X.env.scope.names.lookup y=some .local)(B:aJ X scope own cap ix)(hc:X.calm=true)(hi:PI X tg iter (uB K QX E it))(hk:Keeps own.length mg)
  (hb:∀C' fp s H,PG (cN X scope C' (own++cap) fp s H) tg (n8 K QX E mg)/\dX (cN X scope C' (own++cap) fp s H) du (lm K QX E C)/\PE (cN X scope C' (own++cap) fp s H) dr (bO K QX E M))
  (Bq:swapsWith (.ListComp dr [⟨tg,iter,du,0⟩] scope pos) (some (.Name y py)) jR.line X.env=pure true:=by rfl)
  (hs:∀x,foldedSetIterable iter X.env x=pure x:=by intro _;rfl):PS X (.Assign [.Name y py] (.ListComp dr [⟨tg,iter,du,0⟩] scope pos) jR) (jt K QX E (bE (bY own.length ix it mg C M) (bi i))):=PS.imp (ya hN FD hx B hc hi hb Bq hs) (iG (pq hk) j5)
def tH {i:Nat}{y:Str}{py jR:Pos}(hN:X.N.Nodup)(FD:X.N[i]?=some y)(hx:X.env.scope.names.lookup y=some .local)(B:aJ X scope own cap ix)(hc:X.calm=true)(hi:PI X tg iter (uB K QX E it))(hk:Keeps own.length mg)
  (hb:∀C' fp s H,PG (cN X scope C' (own++cap) fp s H) tg (n8 K QX E mg)/\dX (cN X scope C' (own++cap) fp s H) du (lm K QX E C)/\PE (cN X scope C' (own++cap) fp s H) dr (bO K QX E M))
  (Bq:swapsWith (.ListComp dr [⟨tg,iter,du,0⟩] scope pos) (some (.Name y py)) jR.line X.env=pure true:=by rfl)
  (hs:∀x,foldedSetIterable iter X.env x=pure x:=by intro _;rfl):PS X (.Assign [.Name y py] (.ListComp dr [⟨tg,iter,du,0⟩] scope pos) jR) (jt K QX E (bE (jE own.length ix it mg C M) (bi i))):=PS.imp (ya hN FD hx B hc hi hb Bq hs) (iG (nT hk) j5)
end
abbrev FM:=aF->List AV->(AV->aF->Prop)->(Addr->aF->Prop)->Prop
def rG (K:Θ1)(sp:Sp)(F:FM):Prop:=∀(w:Wd) (O:aF) (H:Hp) (vs:List V) (xs:List AV) (P:AV->aF->Prop) (PX:Addr->aF->Prop) (Q:VK) (E:XK),az K w O H->aZ K w (G w O H) vs xs->F O xs P PX ->
 (∀z q O' w' H',P q O'->bW w O H w' O' H'->az K w' O' H'->jd K w' (G w' O' H') z q->Q z H')->(∀c O' w' H',PX c O'->iO w O H w' O' H'->az K w' O' H'->E (.ref c) none H')->sp vs H Q E
def cL (K:Θ1)(F:FM):Sp:=λvs H Q E=>∃w O xs P PX,az K w O H/\aZ K w (G w O H) vs xs/\F O xs P PX/\(∀z q O' w' H',P q O'->bW w O H w' O' H'->az K w' O' H'->jd K w' (G w' O' H') z q->Q z H')/\∀c O' w' H',PX c O'->iO w O H w' O' H'->az K w' O' H'->E (.ref c) none H'
def i8 {F:FM}:rG K (cL K F) F:=λw O H vs xs P PX Q E r a f q x=>⟨w,O,xs,P,PX,r,a,f,q,x⟩
def aE (F:FM)(QX:Addr->aF->Prop)(Ms:MA):ME:=λsl O Q=>Ms sl O λxs O1=>F O1 xs Q QX
def cH:Addr->aF->Prop:=λ_ _=>False
def Et {k:Nat}{f:Addr}{fd:FuncData}{ps:Δ2}{sp:Sp}{F:FM}{x:Str}{e:Expr}{es:Ξ2}{p pos:Pos}{Ms:MA}(G':aK X.prog X.w X.K X.mg X.base ci k f fd ps sp)(lk:rG K sp F)(hr:c3 k X.A)(hg:Gl X x)(hm:X.mg x=some (.ref f))(hk:PySem.W.keepIn X.K (.ref f)=true)(hb:Binds X.K fd ps [])
  (ha:PA X (e::es) (uC K QX E Ms)) (uT:(x == ("__debug__" : Str))=false:=by decide) (he:starEach (e::es) X.env=(false,eval e X.env)::starEach es X.env:=by rfl) (lC:(backTo pos (starEach es X.env)).any (·.1)=false:=by rfl) :
  PE X (.Call (.Name x p) (e::es) [] pos) (bO K QX E (aE F cH Ms)):=PE.imp (eR G' hr hg hm hk hb (Fn:=[]) .nil aS ha uT he lC) λσ H Q ⟨w,O,sl,Q0,c,m,q⟩=>⟨w,O,sl,_,c,m,λxs O1 vs w1 H1 h1 e1 r1 a1=>by
 show sp (vs++[]) H1 Q E0;rw[Yg];exact lk w1 O1 H1 vs xs _ cH Q E0 r1 a1 h1 (λz z' O3 w3 H3 h3 e3 r3 a3=>q _ O3 z w3 H3 h3 (e1.trans e3) r3 a3) λk O' w' H' qx e' r'=>qx.elim⟩
def bh (N:Δ2)(xs:List AV):fK:=xs.map some++List.replicate (N.length-xs.length) none
def t7 {N:Δ2}{vs:List V}{xs:List AV}{g:Hp}(a:aZ K w g vs xs):bt K w g (L2.start N vs) (bh N xs):=by
 unfold L2.start bh;refine⟨by simp[a.1],λi x hx=>?_⟩;rcases Z5 i xs.length with y |y
 .rw[Zp (by simpa using y),Zl,Zc y] at hx;have ex:xs[i]=x:=by injection (Option.some.inj hx)
  have yv:i<vs.length:=by rw[a.1];exact y
  refine⟨vs[i],?_,a.2 i _ x (Zc yv) (by rw[Zc y,ex])⟩;rw[Zp (by simpa using yv),Zl,Zc yv];rfl
 .rw[Yh (by simpa using y),Xc] at hx;split at hx
  .cases Option.some.inj hx
  .cases hx
variable {P:Program}{wo:World}{mg:Θ3}{base:Heap}
def jP {x qual:Str}{st:Stmt}{f:Addr}{fd:FuncData}{N ps:Δ2}{k:Nat}{F:FM}(U:cT K x qual st f fd)(S:ak N ps (bz st))(hl:∀O xs P PX,F O xs P PX->xs.length=ps.length)
  (hb:∀(bH:Value) (A:Around) (outer:List Env) (s:Shared) (H:Hp) (E:XK) (QX:Addr->aF->Prop),c3 k (A.deeper (PyProof.Rows.envOfC qual (bz st) s.heap.objs.size f bH)) ->
   ∃M,jb (vd ci P wo K mg base N qual (bz st) f bH A outer s H E).Po (rO st) (jt K QX E M)/\∀O xs Pq,F O xs Pq QX->M { nx:=λ_ O'=>Pq (.im .none) O',rt:=Pq } (bh N xs) O):aK P wo K mg base ci (k+1) f fd ps (cL K F):=by
 refine U.ok S (λvs H Q E ⟨w,O,xs,P,PX,r,a,h,q⟩=>by rw[a.1];exact hl O xs P PX h) (λbH A outer s H vs Q E hr ⟨w,O,xs,P',PX,r,a,h,q,x⟩=>?_);obtain⟨M,hM,hq⟩:=hb bH A outer s H E PX hr;exact⟨_,hM,w,O,bh N xs,_,⟨r,t7 a,x⟩,hq O xs P' h,λdH O' w' H' aB h' c' e'=>q _ _ O' w' H' h' e' c'.ro .bV,λdH O' w' H' aB h' c' e'=>h'.elim,λdH O' w' H' aB h' c' e'=>h'.elim,λx' O' w' H' v h' e' r' a'=>q v x' O' w' H' h' e' r' a'⟩
def LF (Mo:ME)(Ms:MA):ME:=λsl O Q=>Mo sl O λo O1=>match o with
 |.own k=>(∃c,O1[k]?=some (some c))/\Ms sl O1 λxs O2=>match xs with
  |[y]=>∃c,O2[k]?=some (some c)/\c.length<sizeLine/\Q (.im .none) (O2.set k (some (c++[y])))
  |_=>False
 |_=>False
end
section
variable {K:Θ1}{QX:Addr->aF->Prop}{E:XK}{X:Cx}{w:Wd}{O:aF}{H:Hp}
def C5 {o e:Expr}{Mo:ME}{Ms:MA}{mG il:Pos}(ho:PE X o (bO K QX E Mo))(ha:PA X [e] (uC K QX E Ms))
  (sH:attributeBase o "append" X.env (eval o X.env)=eval o X.env:=by rfl)
  (LO:((backTo il (starEach [e] X.env)).all (λx=>!x.1)&&(backToKw il (keywordEach [] X.env)).all (λx=>x.1.isSome)
   && decide ([e].length+([]:List Keyword).length+(if ([]:List Keyword).isEmpty then 0 else 1)<30))=true:=by rfl)
  (sG:(mG.endLine == il.line)=true:=by rfl) (hs:starEach [e] X.env=(false,eval e X.env)::starEach [] X.env:=by rfl) (vy:(backTo il (starEach [] X.env)).any (·.1)=false:=by rfl) :
  PE X (.Call (.Attribute o "append" mG) [e] [] il) (bO K QX E (LF Mo Ms)):=PE.imp (Tk PySem.F.plainAttrs_list PySem.F.slot_list_append PySem.F.type_list_append k4 ho ha sH LO sG hs vy) λσ H Q ⟨w,O,sl,Q0,c,m,q⟩=>⟨w,O,sl,_,c,m,λo' O1 v w1 H1 h1 e1 r1 a1=>by
 split at h1
 .obtain⟨⟨c0,Uy⟩,h1⟩:=h1;obtain⟨p,hp,oK,rfl⟩:=a1;have Gz:∀{w2:Wd}{O2:aF}{H2:Hp},bW w1 O1 H1 w2 O2 H2->_∉w2.ib:=λe z=>oK ((e.ex.dk _ (Zf.mp hp).1).mp z)
  refine⟨.inl ⟨rfl,?_⟩,w1,O1,sl,_,c.ex e1.ex r1,h1,λxs O2 vs w2 H2 h2 e2 r2 a2=>?_⟩
  .obtain⟨p1,lI,h0,g1,t1⟩:=r1.oD oK Uy;rw[hp] at h0;cases Option.some.inj h0;exact⟨lI,bD.of g1⟩
  .split at h2
   .obtain⟨c',ja,h2⟩:=h2;obtain⟨v1,us,rfl,b1,b2⟩:=a2.aP;rw[b2.bX];obtain⟨p1,lI,h0,g1,t1⟩:=r2.oD (Gz e2) ja;rw[e2.ex.at hp] at h0;cases Option.some.inj h0;obtain⟨r3,e3⟩:=r2.put ja (Gz e2) (e2.ex.at hp) g1 (t1.app (aZ.cons b1 aZ.nil));exact⟨_,lI,v1,rfl,rfl,g1,by rw[t1.1];exact h2.1,q _ _ _ _ _ h2.2 ((e1.trans e2).trans e3) r3 .bV⟩
   .exact h2.elim
 .exact h1.elim⟩
structure mH (O O':aF):Prop where
 len:O'.length=O.length
 at':∀j:Nat,O'[j]?=O[j]? \/ O'[j]?=some none
def mH.refl (O:aF):mH O O:=⟨rfl,λ_=>.inl rfl⟩
def mH.set {O O':aF}(h:mH O O')(k:Nat):mH O (O'.set k none):=⟨by rw[Yo];exact h.len,λj=>by
 by_cases e:k=j
 .subst e;rcases Z5 k O'.length with y |y
  .exact .inr (Yl y)
  .rw[List.set_eq_of_length_le y];exact h.at' k
 .rw[Z6 e];exact h.at' j⟩
def az.less (r:az K w O H){O':aF}(h:mH O O'):az K w O' H/\bW w O H w O' H/\∀(j:Nat) a,O'[j]?=some none->w.bA[j]?=some a->G w O' H a=H a:=by
 have back:∀(j:Nat) c,O'[j]?=some (some c)->O[j]?=some (some c):=λj c hj=>by
  rcases h.at' j with e |e
  .rw[<- e];exact hj
  .rw[e] at hj;cases Option.some.inj hj
 have kK:∀x,jc w O' x->jc w O x:=λx h=>by
  rcases h with h |h |⟨j,d,h1,h2⟩
  .exact .inl h
  .exact .inr (.inl h)
  .exact .inr (.inr ⟨j,d,h1,back j d h2⟩)
 have sg:ay (G w O H) (G w O' H):=λx o h=>by
  obtain⟨h1,h2⟩:=eU h;rw[gC (λz=>h2 (kK x z))];exact h1
 have e:bW w O H w O' H:=⟨⟨⟨[],by simp⟩,⟨[],by simp⟩,⟨[],by simp⟩,sg,λ_ _=>Iff.rfl⟩,rfl⟩;refine⟨⟨by rw[h.len];exact r.len,r.nd,r.al,r.nb,r.hn,r.nh,r.bg,λj d hj=>?_,λj hj=>by rw[h.len];exact r.dl j hj⟩,e,λj a hj ha=>?_⟩
 .obtain⟨a',us,h1,h2,h3⟩:=r.uG j d (back j d hj);exact⟨a',us,h1,h2,h3.ex e.ex⟩
 .rw[gC];rintro(h1 |⟨o,h1⟩ |⟨i,d,h1,h2⟩)
  .exact r.nb _ h1 (Zz ha)
  .exact(r.nh _ h1).1 (Zz ha)
  .have:j=i:=(List.getElem?_inj (Zf.mp ha).1 r.nd).mp (ha.trans h1.symm);subst this;rw[hj] at h2;cases Option.some.inj h2
def az.Kh (r:az K w O H){O':aF}(h:mH O O'){k:Nat}{ds:Ξ1}{a:Addr}(hk:O[k]?=some (some (ds.map .im)))(rE:O'[k]?=some none)(oK:k∉w.ib)(ha:w.bA[k]?=some a):ck (G w O' H) (.ref a) (.list ds):=by
 obtain⟨r1,e1,g1⟩:=r.less h;obtain⟨a',vs,h1,h2,h3⟩:=r.oD oK hk;rw[ha] at h1;cases Option.some.inj h1;exact .lst (xs:=vs) (by rw[g1 k a rE ha];exact h2) (aZ.tr (h3.ex e1.ex))
def sZ {α : Type}{xs:List α}{i:Nat}{x:α}(h:xs[i]?=some x):xs.set i x=xs:=by
 apply X7;intro j;by_cases e:i=j
 .subst e;rw[Yl (Zf.mp h).1,h]
 .rw[Z6 e]
def LD (i:Nat)(M:MS):MS:=λD sl O=>∃(k:Nat) (ds:Ξ1),sl[i]?=some (some (.own k))/\O[k]?=some (some (ds.map .im))/\M D (sl.set i (some (.im (.list ds)))) (O.set k none)
def C0 (i:Nat){Og:List Stmt}{M:MS}(h:jb X Og (jt K QX E M)):jb X Og (jt K QX E (LD i M)):=jb.imp h λD σ H ⟨w,O,sl,D0,c,⟨k,ds,h1,h2,m⟩,hn,hb,hc,hr⟩=>by
 have hL:=(mH.refl O).set k;obtain⟨r1,e1,_⟩:=c.ro.less hL;obtain⟨v,hv,a,ha,oK,rfl⟩:=c.so.2 i _ h1;have t:=c.ro.Kh hL h2 (Yl (Zf.mp h2).1) oK ha;have c2:=(c.ex e1.ex r1).put (x:=.im (.list ds)) t i;rw[sZ hv] at c2;exact⟨w,_,_,D0,c2,m,λb9 O2 w2 H2 cv h2 c2 e2=>hn b9 O2 w2 H2 cv h2 c2 (e1.trans e2),λb9 O2 w2 H2 cv h2 c2 e2=>hb b9 O2 w2 H2 cv h2 c2 (e1.trans e2),λb9 O2 w2 H2 cv h2 c2 e2=>hc b9 O2 w2 H2 cv h2 c2 (e1.trans e2),λx O2 w2 H2 v h2 e2 r2 a2=>hr x O2 w2 H2 v h2 (e1.trans e2) r2 a2⟩
def gL (O:aF):List Nat->aF
 |[]=>O
 |k::ks=>gL (O.set k none) ks
theorem kw:∀(ks:List Nat) {O O':aF},mH O O'->mH O (gL O' ks)
 |[],_,_,h=>h
 |k::ks,_,_,h=>kw ks (h.set k)
theorem ky:∀(ks:List Nat) {O:aF}{j:Nat},O[j]?=some none->(gL O ks)[j]?=some none
 |[],_,_,h=>h
 |k::ks,O,j,h=>ky ks (by
  by_cases e:k=j
  .subst e;exact Yl (Zf.mp h).1
  .rw[Z6 e];exact h)
theorem jI:∀(ks:List Nat) {O:aF}{j:Nat},j∈ks->j<O.length->(gL O ks)[j]?=some none
 |k::ks,O,j,h,hl=>by
  rcases Zk.mp h with e |e
  .subst e;exact ky ks (Yl hl)
  .exact jI ks e (by rw[Yo];exact hl)
def Cb (i:Nat)(M:MS):MS:=λD sl O=>∃(k:Nat) (ks:List Nat) (Jj:List (Ξ1)),sl[i]?=some (some (.own k))/\O[k]?=some (some (ks.map .own))/\ks.length=Jj.length/\(∀(j:Nat) kj,ks[j]?=some kj->O[kj]?=some (some ((Jj.getD j []).map .im))) /\
 M D (sl.set i (some (.im (.list (Jj.map .list))))) (gL O (k::ks))
theorem xN {g:Hp}:∀{vs:List V}{ds:Ξ1},vs.length=ds.length->(∀(j:Nat) v d,vs[j]?=some v->ds[j]?=some d->ck g v d)->aI g vs ds
 |[],[],_,_=>.nil
 |v::vs,d::ds,h,f=>.cons (f 0 v d rfl rfl) (xN (by simpa using h) λj v' d' h1 h2=>f (j+1) v' d' (by simpa using h1) (by simpa using h2))
def Ig (i:Nat){Og:List Stmt}{M:MS}(h:jb X Og (jt K QX E M)):jb X Og (jt K QX E (Cb i M)):=jb.imp h λD σ H ⟨w,O,sl,D0,c,⟨k,ks,Jj,h1,h2,hl,h3,m⟩,hn,hb,hc,hr⟩=>by
 have hL:=kw (k::ks) (mH.refl O);obtain⟨r1,e1,g1⟩:=c.ro.less hL;obtain⟨v,hv,a,ha,oK,rfl⟩:=c.so.2 i _ h1;have OC:=(Zf.mp h2).1;obtain⟨a',vs,q1,q2,q3⟩:=c.ro.oD oK h2;rw[ha] at q1;cases Option.some.inj q1;have t:ck (G w (gL O (k::ks)) H) (.ref a) (.list (Jj.map .list)):=by
  refine .lst (xs:=vs) (by rw[g1 k a (jI _ Zg OC) ha];exact q2) (xN (by rw[q3.1,Zb,Zb,hl]) λj v d hv hd=>?_);have hj:j<Jj.length:=by have:=(Zf.mp hd).1;simpa using this
  have rE:ks[j]?=some ks[j]:=Zc (by omega);have:=q3.2 j v (.own ks[j]) hv (by rw[Zl,rE];rfl);obtain⟨p,hp,Gz,rfl⟩:=this;have hO:=h3 j _ rE;rw[Zl,Zc hj] at hd;have V8:d=.list (Jj.getD j []):=by rw[ao (Zc hj)];exact(Option.some.inj hd).symm
  rw[V8];exact c.ro.Kh hL hO (jI _ (Zh _ (Zz rE)) (Zf.mp hO).1) Gz hp
 have c2:=(c.ex e1.ex r1).put (x:=.im (.list (Jj.map .list))) t i;rw[sZ hv] at c2;exact⟨w,_,_,D0,c2,m,λb9 O2 w2 H2 cv h2 c2 e2=>hn b9 O2 w2 H2 cv h2 c2 (e1.trans e2),λb9 O2 w2 H2 cv h2 c2 e2=>hb b9 O2 w2 H2 cv h2 c2 (e1.trans e2),λb9 O2 w2 H2 cv h2 c2 e2=>hc b9 O2 w2 H2 cv h2 c2 (e1.trans e2),λx O2 w2 H2 v h2 e2 r2 a2=>hr x O2 w2 H2 v h2 (e1.trans e2) r2 a2⟩
def zp (M:ME):ME:=λsl O Q=>M sl O λx O1=>match x with
 |.im (.int i)=>Q (.im (.int (-i))) O1
 |_=>False
def m8 {a:Expr}{M:ME}{pos:Pos}(h:PE X a (bO K QX E M)):PE X (.UnaryOp .USub a pos) (bO K QX E (zp M)):=PE.imp (JM Cv h) λσ H Q ⟨w,O,sl,Q0,c,m,q⟩=>⟨w,O,sl,_,c,m,λx O1 v w1 H1 h1 e1 r1 a1=>by
 split at h1
 .exact⟨_,hG a1,q _ O1 _ w1 H1 h1 e1 r1 (.int _)⟩
 .exact h1.elim⟩
def jq:FM:=λO xs P _=>match xs with
 |[.bag _,.im (.int m)]=>(0<m/\m<1073741824)/\∀r:Int,0<=r->r<m->P (.im (.int r)) O
 |_=>False
def ft:rG K qd jq:=λw O H vs xs P PX Q E r a hf q x=>by
 unfold jq at hf;split at hf
 .obtain⟨v,us,rfl,h1,h2⟩:=a.aP;obtain⟨v2,OT,rfl,h3,h4⟩:=h2.aP;rw[h4.bX];obtain⟨b,hb,rfl⟩:=h1;rw[hG h3];have bu:=Zz hb;refine⟨b,_,rfl,r.bg b bu,hf.1.1,hf.1.2,λi H' h0 hm hB hK=>?_⟩;obtain⟨r1,e1,_⟩:=r.draw bu hK hB;exact q _ _ O w H' (hf.2 i h0 hm) e1 r1 (.int _)
 .exact hf.elim
def LS:FM:=λO xs P _=>match xs with
 |[.wO _,.im (.int k)]=>(0<=k/\k<100)/\∀j,P (.bag j) O
 |_=>False
def NO:rG K (B3 K) LS:=λw O H vs xs P PX Q E r a hf q x=>by
 unfold LS at hf;split at hf
 .obtain⟨v,us,rfl,h1,h2⟩:=a.aP;obtain⟨v2,OT,rfl,h3,h4⟩:=h2.aP;rw[h4.bX];obtain⟨b,rfl,hb⟩:=h1;rw[hG h3];refine⟨b,_,_,rfl,KG.bD.ap hb oB,hf.1.1,hf.1.2,λp c d hp=>?_⟩;obtain⟨r1,e1⟩:=r.bag (x:=c) (y:=d) hp;exact q _ _ O _ _ (hf.2 w.dg.length) e1 r1 ⟨p,by simp,rfl⟩
 .exact hf.elim
def JQ (r:az K w O H){p:Addr}{q:Rat}(hp:H p=none):az K w O (aL H p (qO q))/\bW w O H w O (aL H p (qO q))/\ck (G w O (aL H p (qO q))) (.ref p) (qD q):=eN r hp (.cons (.int _) (.cons (.int _) .nil))
def IG (r:az K w O H){p:Addr}{q:Rat}{H':Hp}(s:ay H H')(hp:H' p=some (qO q)):az K w O H'/\bW w O H w O H'/\ck (G w O H') (.ref p) (qD q):=gj r s hp (.cons (.int _) (.cons (.int _) .nil))
def OI {v:V}{q:Rat}(h:ck (G w O H) v (qD q)):∃p,v=.ref p/\H p=some (qO q):=by
 obtain⟨a,xs,rfl,h1,t⟩:=eF h;cases t with |cons t1 t2=>cases t2 with |cons t2 t3=>cases t3;cases t1;cases t2;exact⟨a,rfl,h1⟩
def f2 (op:Rat->Rat->Rat):FM:=λO xs P _=>∃a b,xs=[.im (qD a),.im (qD b)]/\(Rb 3000 a/\Rb 3000 b)/\P (.im (qD (op a b))) O
def u6 {op:Rat->Rat->Rat}:rG K (A1 op) (f2 op):=λw O H vs xs P PX Q E r a hf q x=>by
 obtain⟨a1,b1,rfl,h0,hf⟩:=hf;obtain⟨v,us,rfl,h1,h2⟩:=a.aP;obtain⟨v2,OT,rfl,h3,h4⟩:=h2.aP;rw[h4.bX];obtain⟨p1,rfl,g1⟩:=OI h1;obtain⟨p2,rfl,g2⟩:=OI h3;refine⟨p1,p2,a1,b1,rfl,g1,g2,h0.1,h0.2,λp hp=>?_⟩;obtain⟨r1,e1,t1⟩:=JQ r hp;exact q _ _ O w _ hf e1 r1 t1
def Kc:FM:=λO xs P _=>∃a b,xs=[.im (qD a),.im (qD b)]/\(Rb 3000 a/\Rb 3000 b)/\P (.im (.bool (decide (a<b)))) O
def Iu:rG K mV Kc:=λw O H vs xs P PX Q E r a hf q x=>by
 obtain⟨a1,b1,rfl,h0,hf⟩:=hf;obtain⟨v,us,rfl,h1,h2⟩:=a.aP;obtain⟨v2,OT,rfl,h3,h4⟩:=h2.aP;rw[h4.bX];obtain⟨p1,rfl,g1⟩:=OI h1;obtain⟨p2,rfl,g2⟩:=OI h3;exact⟨p1,p2,a1,b1,rfl,g1,g2,h0.1,h0.2,q _ _ O w H hf (bW.refl _ _ _) r (.bl _)⟩
theorem Ka {g:Hp}:∀{qs:Δ1}{ys:List V},aI g ys (qs.map qD)->kC g ys qs
 |[],_,h=>by cases h;exact⟨rfl,λj y h=>by simp at h⟩
 |q::qs,_,h=>by
  cases h with |cons h1 h2=>?_
  have ih:=Ka h2;cases h1 with |tup h3 h4=>?_
  cases h4 with |cons t1 t2=>?_
  cases t2 with |cons t2 t3=>?_
  cases t3
  cases t1
  cases t2
  refine⟨by simp[ih.1],λj y hy=>?_⟩;cases j with
  |zero=>exact⟨_,(Option.some.inj hy).symm,h3⟩
  |succ j=>exact ih.2 j y (by simpa using hy)
def Sf:FM:=λO xs P _=>∃qs:Δ1,xs=[.im (.list (qs.map qD))]/\((∀q∈qs,Rb 300 q)/\qs.length<=8)/\P (.im (qD (aH qs))) O
def Im:rG K B0 Sf:=λw O H vs xs P PX Q E r a hf q x=>by
 obtain⟨qs,rfl,h0,hf⟩:=hf;obtain⟨v,us,rfl,h1,h2⟩:=a.aP;rw[h2.bX];obtain⟨p,ys,rfl,g1,t1⟩:=fU h1;refine⟨p,ys,qs,rfl,g1,(Ka t1).ap oB,h0.1,h0.2,λr' H' s jy=>?_⟩;obtain⟨r1,e1,t2⟩:=IG r s jy;exact q _ _ O w H' hf e1 r1 t2
end
section
variable {n:Nat}{ix:List Nat}{items:List AV}{M:ME}{C:MT}{sl:fK}{O:aF}{Q:AV->aF->Prop}
def km (R:Nat->PyData->Prop)(hl:items.length<=1000000)
  (hs:∀(i:Nat) x (Z:AV->aF->Prop),items[i]?=some x->(∀d,R i d->Z (.im d) O)->M ((cV n ix sl).set 0 (some x)) O Z)
  (hd:∀ds:Ξ1,ds.length=items.length->(∀j,j<ds.length->R j (ds.getD j .none))->Q (.im (.list ds)) O):CB n ix (bi 0) cQ M sl Q items O:=by
 refine⟨hl,λi ds O'=>O'=O/\ds.length=i/\∀j,j<ds.length->R j (ds.getD j .none),⟨rfl,rfl,λj hj=>absurd hj (by simp)⟩,?_,λds O' ⟨e,h1,h2⟩=>e▸hd ds h1 h2⟩;rintro i x ds O' hx ⟨rfl,PR,hR⟩;refine⟨λ_=>hs i x _ hx λd V6=>⟨rfl,by simp[PR],λj hj=>?_⟩,λz=>by cases z⟩;rcases Z5 j ds.length with y |y
 .have:(ds++[d]).getD j .none=ds.getD j .none:=by simp[List.getD,Zp y]
  rw[this];exact hR j y
 .have kB:j=ds.length:=by simp at hj;omega
  subst kB;have:(ds++[d]).getD ds.length .none=d:=by simp[List.getD]
  rw[this,PR];exact V6
def Iy {ds:Ξ1}{f:Nat->PyData}(h:∀j,j<ds.length->ds.getD j .none=f j):ds=(List.range ds.length).map f:=by
 apply X7;intro j;rw[Zl];rcases Z5 j ds.length with y |y
 .rw[Yn y,Y5,<- h j y,ao (Zc y)];exact Zc y
 .rw[Ym y,Ym (by simpa using y)];rfl
def A7 (f:Nat->PyData)(hl:items.length<=1000000)
  (hs:∀(i:Nat) x (Z:AV->aF->Prop),items[i]?=some x->Z (.im (f i)) O->M ((cV n ix sl).set 0 (some x)) O Z)
  (hd:Q (.im (.list ((List.range items.length).map f))) O):CB n ix (bi 0) cQ M sl Q items O :=
 km (λi d=>d=f i) hl (λi x Z hx h=>hs i x Z hx (h _ rfl)) λds h1 h2=>by rw[Iy h2,h1];exact hd
def k8 (c:Nat->Bool)(f:Nat->PyData)(hl:items.length<=1000000)
  (hc:∀(i:Nat) x (Z:Bool->aF->Prop),items[i]?=some x->Z (c i) O->C ((cV n ix sl).set 0 (some x)) O Z)
  (hs:∀(i:Nat) x (Z:AV->aF->Prop),items[i]?=some x->c i=true->Z (.im (f i)) O->M ((cV n ix sl).set 0 (some x)) O Z)
  (hd:Q (.im (.list (((List.range items.length).filter c).map f))) O):CB n ix (bi 0) C M sl Q items O:=by
 refine⟨hl,λi ds O'=>O'=O/\ds=((List.range i).filter c).map f,⟨rfl,rfl⟩,?_,λds O' ⟨e,h1⟩=>by rw[e,h1];exact hd⟩;rintro i x ds O' hx ⟨rfl,rfl⟩;exact hc i x _ hx ⟨λh=>hs i x _ hx h ⟨rfl,by rw[i7,h,if_pos rfl]⟩,λh=>⟨rfl,by rw[i7,h,if_neg (by decide),Yg]⟩⟩
def k9 (R:Nat->AV->Prop)(hl:items.length<=1000000)
  (hs:∀(i:Nat) x (Z:AV->aF->Prop),items[i]?=some x->(∀d,R i d->Z d O)->M ((cV n ix sl).set 0 (some x)) O Z)
  (hd:∀zs:List AV,zs.length=items.length->(∀j z,zs[j]?=some z->R j z)->Q (.own O.length) (O++[some zs])):CBO n ix (bi 0) cQ M sl Q items O:=by
 refine⟨hl,λi zs O'=>O'=O/\zs.length=i/\∀(j:Nat) z,zs[j]?=some z->R j z,⟨rfl,rfl,λj z hj=>by simp at hj⟩,?_,λzs O' ⟨e,h1,h2⟩=>e▸hd zs h1 h2⟩;rintro i x zs O' hx ⟨rfl,PR,hR⟩;refine⟨λ_=>hs i x _ hx λd V6=>⟨rfl,by simp[PR],λj z hj=>?_⟩,λz=>by cases z⟩;rcases Z5 j zs.length with y |y
 .rw[Zp y] at hj;exact hR j z hj
 .have kB:=(Zf.mp hj).1;have:j=zs.length:=by simp at kB;omega
  subst this;simp at hj;rw[<- hj,PR];exact V6
def uO (lo:Int)(n:Nat):(sf lo n).length=n:=by unfold sf;simp
def MR {lo:Int}{n i:Nat}{x:AV}(h:(sf lo n)[i]?=some x):i<n/\x=.im (.int (lo+(i:Int))):=by
 unfold sf at h;have hi:i<n:=by have:=(Zf.mp h).1;simpa using this
 rw[Zl,Yn hi] at h;exact⟨hi,(Option.some.inj h).symm⟩
def iS {n i:Nat}{x:AV}(h:(sf 0 n)[i]?=some x):i<n/\x=.im (.int (i:Int)):=by
 obtain⟨h1,h2⟩:=MR h;exact⟨h1,by rw[h2,Int.zero_add]⟩
def dI {i j:Int}:min (PyData.int i).depth (PyData.int j).depth<=60:=by show min 0 0<=60;decide
def Gs {α : Type}{x:α}:[x].length<=sizeLine:=by show 1<=sizeLine;decide
def jS {α : Type}{x y:α}:[x,y].length<=sizeLine:=by show 2<=sizeLine;decide
def RT {α : Type}{x y z:α}:[x,y,z].length<=sizeLine:=by show 3<=sizeLine;decide
def zw {n:Int}(h:n.natAbs<2 ^ 40):Bd 8000 n:=Yf h (Xn (by decide) (by decide))
def bR {α : Type}{xs:List α}{i:Nat}{x:α}(h:xs[i]?=some x):gv xs (i:Int)=some x:=md h
def dE (O O':aF):Prop:=∃t,O'=O++t
def dE.app {O O':aF}(h:dE O O')(c:Option (List AV)):dE O (O'++[c]):=by obtain⟨t,rfl⟩:=h;exact⟨t++[c],by simp⟩
def dE.set {O O':aF}(h:dE O O'){k:Nat}(hk:O.length<=k)(c:Option (List AV)):dE O (O'.set k c):=by
 obtain⟨t,rfl⟩:=h;exact⟨t.set (k-O.length) c,by rw[List.set_append,if_neg (by omega)]⟩
theorem dE.none {O:aF}:∀{ks:List Nat}{O':aF},dE O O'->(∀k∈ks,O.length<=k)->dE O (gL O' ks)
 |[],_,h,_=>h
 |k::ks,_,h,hk=>dE.none (ks:=ks) (h.set (hk k Zg) _) λj hj=>hk j (Zh _ hj)
def g9 (A:Γ3)(Pu:Δ1)(W:Γ1):PyData:=.tuple [.tuple (A.map .int),.tuple (Pu.map qD),.tuple (W.map aT)]
def EN {R:Nat->Rat->Prop}:∀{ds:Ξ1},(∀j,j<ds.length->∃q:Rat,ds.getD j .none=qD q/\R j q)->∃qs:Δ1,ds=qs.map qD/\∀j,j<qs.length->R j (qs.getD j 0):=by
 intro ds;induction ds generalizing R with
 |nil=>intro _;exact⟨[],rfl,λj hj=>absurd hj (by simp)⟩
 |cons d ds ih =>
  intro h;obtain⟨q,e,hq⟩:=h 0 (by simp);obtain⟨qs,e2,h2⟩:=ih (R:=λj=>R (j+1)) λj hj=>by
   obtain⟨q',e',h'⟩:=h (j+1) (by simp;omega);exact⟨q',by simpa[List.getD] using e',h'⟩
  refine⟨q::qs,?_,λj hj=>?_⟩
  .have e':d=qD q:=by simpa[List.getD] using e
   rw[e',e2];rfl
  .cases j with
   |zero=>exact hq
   |succ j=>exact h2 j (by simpa using hj)
def tU {R:Nat->Int->Prop}:∀{ds:Ξ1},(∀j,j<ds.length->∃q:Int,ds.getD j .none=.int q/\R j q)->∃qs:Γ3,ds=qs.map .int/\∀j,j<qs.length->R j (qs.getD j 0):=by
 intro ds;induction ds generalizing R with
 |nil=>intro _;exact⟨[],rfl,λj hj=>absurd hj (by simp)⟩
 |cons d ds ih =>
  intro h;obtain⟨q,e,hq⟩:=h 0 (by simp);obtain⟨qs,e2,h2⟩:=ih (R:=λj=>R (j+1)) λj hj=>by
   obtain⟨q',e',h'⟩:=h (j+1) (by simp;omega);exact⟨q',by simpa[List.getD] using e',h'⟩
  refine⟨q::qs,?_,λj hj=>?_⟩
  .have e':d=.int q:=by simpa[List.getD] using e
   rw[e',e2];rfl
  .cases j with
   |zero=>exact hq
   |succ j=>exact h2 j (by simpa using hj)
def AS {R:Nat->Int->Prop}:∀{ds:List AV},(∀(j:Nat) z,ds[j]?=some z->∃q:Int,z=.im (.int q)/\R j q)->∃qs:Γ3,ds=qs.map (λi=>AV.im (.int i))/\∀j,j<qs.length->R j (qs.getD j 0):=by
 intro ds;induction ds generalizing R with
 |nil=>intro _;exact⟨[],rfl,λj hj=>absurd hj (by simp)⟩
 |cons d ds ih =>
  intro h;obtain⟨q,e,hq⟩:=h 0 d rfl;obtain⟨qs,e2,h2⟩:=ih (R:=λj=>R (j+1)) λj z hj=>h (j+1) z (by simpa using hj)
  refine⟨q::qs,by rw[e,e2];rfl,λj hj=>?_⟩;cases j with
  |zero=>exact hq
  |succ j=>exact h2 j (by simpa using hj)
def mh {α β : Type}{f:α->β}{xs:List α}{j:Nat}{d:α}(h:j<xs.length):(xs.map f)[j]?=some (f (xs.getD j d)):=by
 rw[Zl,Zc h,ao (Zc h)];rfl
end
section
variable {K:Θ1}{QX:Addr->aF->Prop}{E:XK}{X:Cx}{w:Wd}{O:aF}{H:Hp}
section
variable {e:Expr}{M:ME}{p p2 pos:Pos}
end
def pH {xs:Ξ1}{r:Int}(h0:0<=r)(h1:r<=xs.length):cutD xs (some r) none=xs.drop r.toNat:=by
 have e1:HT.cP xs.length 0 (some r)=r.toNat:=by
  show(if r<0 then (r+(xs.length:Int)).toNat else min r.toNat xs.length)=_;rw[if_neg (by omega)];omega
 unfold cutD;rw[HT.tj,e1,List.take_of_length_le];rw[Xz];omega
def ο {vs:List V}{x:AV}{g:Hp}(a:aZ K w g vs [x]):∃v,vs=[v]/\jd K w g v x:=by
 obtain⟨v,us,rfl,h1,h2⟩:=a.aP;rw[h2.bX];exact⟨v,rfl,h1⟩
def ve {vs:List V}{x y:AV}{g:Hp}(a:aZ K w g vs [x,y]):∃v u,vs=[v,u]/\jd K w g v x/\jd K w g u y:=by
 obtain⟨v,us,rfl,h1,h2⟩:=a.aP;obtain⟨u,rfl,h3⟩:=ο h2;exact⟨v,u,rfl,h1,h3⟩
theorem ff {α : Type}{f:α->PyData}(h:∀a,A3 (f a)=true):∀xs:List α,pZ (xs.map f)=true
 |[]=>rfl
 |a::xs=>by show(A3 (f a)&&pZ (xs.map f))=true;rw[h a,ff h xs];rfl
def JP (q:Rat):A3 (qD q)=true:=rfl
def qq (qs:Δ1):A3 (.tuple (qs.map qD))=true:=ff JP qs
def ym (r:Γ3):A3 (aT r)=true:=ff (f:=PyData.int) (λ_=>rfl) r
def CZ (A:Γ3)(Pu:Δ1)(W:Γ1):A3 (g9 A Pu W)=true:=by
 show(pZ (A.map .int)&&(pZ (Pu.map qD)&&(pZ (W.map aT)&&true)))=true;rw[ff (f:=PyData.int) (λ_=>rfl),ff JP,ff ym];rfl
def U6 {v:V}{d:PyData}(b:Addr)(h:ck (G w O H) v d)(n:A3 d=true):iN b H v d:=ck.OX n (ck.ap oB h)
def U7 {v:V}{d:PyData}{b:Addr}(r:az K w O H)(h:iN b H v d)(n:A3 d=true):ck (G w O H) v d:=lO r.mj n h
end
section
variable {K:Θ1}{w:Wd}{O:aF}{H:Hp}
def gh (Pu:Δ1):pP (Pu.map qD)=Pu:=by
 unfold pP;rw[Zm];have:(Oj ∘ qD)=id:=funext λq=>iB q
 rw[this,Y1]
def Kv (W:Γ1):rowsOf (W.map aT)=W:=by
 unfold rowsOf;rw[Zm];have:(sx ∘ aT)=id:=funext λr=>by
  show(r.map PyData.int).map aU=r;rw[Zm];have:(aU ∘ PyData.int)=id:=rfl;rw[this,Y1]
 rw[this,Y1]
def nE (A:Γ3):(A.map PyData.int).map aU=A:=by
 rw[Zm];have:(aU ∘ PyData.int)=id:=rfl;rw[this,Y1]
def LA {v:V}{A:Γ3}{Pu:Δ1}{W:Γ1}(b:Addr)(h:ck (G w O H) v (g9 A Pu W))(m:gA (g9 A Pu W)=true) :
  ∃p pa pp pw xa xp xw,v=.ref p/\d5 b H p pa pp pw xa xp xw (A.map .int) (Pu.map qD) (W.map aT)/\xa.length=A.length/\xp.length=Pu.length:=by
 have t:=U6 b h (CZ A Pu W);cases v with
 |ref p =>
  obtain⟨pa,pp,pw,xa,xp,xw,mk⟩:=d5.of t m;exact⟨p,pa,pp,pw,xa,xp,xw,rfl,mk,by rw[mk.ta.len,Zb],by rw[mk.tp.len,Zb]⟩
 |_=>cases t
def ZF {v:V}{qs:Δ1}(b:Addr)(h:ck (G w O H) v (.tuple (qs.map qD)))(hb:∀z∈qs,Rb 293 z):∃q ys,v=.ref q/\zA b H q ys qs:=by
 cases U6 b h (qq qs) with |tup h1 h2=>exact⟨_,_,rfl,h1,h2,hb⟩
structure nj (A:Γ3)(Pu:Δ1)(W:Γ1)(qs:Δ1):Prop where
 ok:gA (g9 A Pu W)=true
 len:qs.length=A.length
 oo:Fp W qs
 bd:∀z∈qs,Rb 293 z
def LR:FM:=λO xs P _=>∃ns:Γ3,xs=[.wO ns]/\ns.length<=63/\∀O',P (.im (.bool true)) O'
def NS {Pg:Program}{wo:World}{mg:Θ3}{base:Heap}{k:Nat}{f:Addr}{fd:FuncData}(F:aK Pg wo K mg base ci k f fd ["script"] (cL K LR)):aK Pg wo K mg base ci k f fd ["script"] (wX K):=F.imp λvs H Q E ⟨a,ns,e,hS,hl,hq⟩=>by
 subst e;have bG:∀x,¬ jc ⟨[],[],[],[]⟩ [] x:=λx h=>by
  rcases h with h |⟨o,h⟩ |⟨k,c,h,_⟩
  .cases h
  .cases h
  .simp at h
 have sg:ay H (G ⟨[],[],[],[]⟩ [] H):=λx o h=>by rw[gC (bG x)];exact h
 refine⟨⟨[],[],[],[]⟩,[],[.wO ns],λz _=>z=.im (.bool true),λ_ _=>False,⟨rfl,X3,λa h=>(by cases h),λa h=>(by cases h),X3,λp h=>(by cases h),λa h=>(by cases h),λk c h=>(by simp at h),λk h=>(by cases h)⟩,aZ.cons ⟨a,rfl,KG.bD.ap hS sg⟩ aZ.nil,⟨ns,rfl,hl,λO'=>rfl⟩,λz q O' w' H' hz e r av=>?_,λc O' w' H' h=>h.elim⟩;subst hz;rw[BO av];exact hq H'
end
def cI (r:Γ3):Option (List AV):=some (r.map λx=>AV.im (.int x))
def pX (k n:Nat):List AV:=(List.range n).map λt=>AV.own (k+t)
def Ae (k n:Nat):pX k (n+1)=pX k n++[AV.own (k+n)]:=by unfold pX;rw[Y6,Zs];rfl
def Eb (k n:Nat):pX k n=((List.range n).map λt=>k+t).map AV.own:=by unfold pX;rw[Zm];rfl
def lP {α : Type}(O:List α)(x y:α):(O++[x]).set O.length y=O++[y]:=by rw[List.set_append,if_neg (by omega),X6];rfl
def ni {α : Type}(O:List α)(x:α):(O++[x])[O.length]?=some x:=by simp
def IQ {α β : Type}(f:α->β)(O:List β)(x:β)(W:List α)(i:Nat)(d:α)(h:i<W.length):(O++(W.map f++[x]))[O.length+i]?=some (f (W.getD i d)):=by
 rw[Yh (by omega),Nat.add_sub_cancel_left,Zp (by simpa using h)];exact mh h
def ET {α β : Type}(f:α->β)(O:List β)(x:β)(W:List α):(O++(W.map f++[x]))[O.length+W.length]?=some x:=by
 rw[Yh (by omega),Nat.add_sub_cancel_left,Yh (by simp)];simp
def xr {n:Nat}{i:Nat}(h:i<n):rQ n (i:Int)=some i:=by unfold rQ;rw[if_pos (by omega),if_pos (by omega),Z3]
def qk (r:Γ3)(j:Nat)(x:Int):((r.map λx=>AV.im (.int x)).set j (.im (.int x)))=(r.set j x).map λx=>AV.im (.int x):=by rw[List.map_set]
def Ba {α β : Type}(f:α->β)(xs:List α)(d:α):(List.range xs.length).map (λi=>f (xs.getD i d))=xs.map f:=by
 apply X7;intro j;rw[Zl];rcases Z5 j xs.length with y |y
 .rw[Yn y,mh (d:=d) y];rfl
 .rw[Ym (by simpa using y),Ym (by simpa using y)];rfl
def qc {ds es:Ξ1}{i:Nat}{x:AV}(h:(uZ ds es)[i]?=some x):i<ds.length/\x=.im (.tuple [ds.getD i .none,es.getD i .none]):=by
 unfold uZ at h;have hi:i<ds.length:=by have:=(Zf.mp h).1;simpa using this
 rw[Zl,Yn hi] at h;exact⟨hi,(Option.some.inj h).symm⟩
def E6 (ds es:Ξ1):(uZ ds es).length=ds.length:=by unfold uZ;simp
structure oj (O:aF)(k:Nat)(ks:List Nat)(W:Γ1):Prop where
 hd:O[k]?=some (some (ks.map AV.own))
 len:ks.length=W.length
 row:∀i,i<W.length->O[ks.getD i 0]?=some (cI (W.getD i []))
def mem_getD {ks:List Nat}{i:Nat}(h:i<ks.length):ks.getD i 0∈ks:=by
 rw[ao (Zc h)];exact Zv h
def oj.app {O:aF}{k:Nat}{ks:List Nat}{W:Γ1}(t:oj O k ks W)(c:Option (List AV)):oj (O++[c]) k ks W:=by
 refine⟨?_,t.len,λi hi=>?_⟩
 .rw[Zp (Zf.mp t.hd).1];exact t.hd
 .rw[Zp (Zf.mp (t.row i hi)).1];exact t.row i hi
def oj.other {O:aF}{k m:Nat}{ks:List Nat}{W:Γ1}(t:oj O k ks W)(c:Option (List AV))(h:m∉k::ks):oj (O.set m c) k ks W:=by
 refine⟨?_,t.len,λi hi=>?_⟩
 .rw[Z6 (λe=>h (by rw[e];exact Zg))];exact t.hd
 .rw[Z6 (λe=>h (by rw[e];exact Zh _ (mem_getD (by rw[t.len];exact hi))))];exact t.row i hi
def oj.put {O:aF}{k i:Nat}{ks:List Nat}{W:Γ1}(t:oj O k ks W)(r:Γ3)(hi:i<W.length)(nd:(k::ks).Nodup):oj (O.set (ks.getD i 0) (cI r)) k ks (W.set i r):=by
 have hn:=Yd.mp nd;have hik:i<ks.length:=by rw[t.len];exact hi
 refine⟨?_,by rw[Yo];exact t.len,λj hj=>?_⟩
 .rw[Z6 (λe=>hn.1 (by rw[<- e];exact mem_getD hik))];exact t.hd
 .rw[Yo] at hj;have VV:j<ks.length:=by rw[t.len];exact hj
  by_cases e:i=j
  .subst e;rw[Yl (Zf.mp (t.row i hi)).1];have:(W.set i r).getD i []=r:=by rw[List.getD,Yl hi];rfl
   rw[this]
  .have:(W.set i r).getD j []=W.getD j []:=by rw[List.getD,Z6 e];rfl
   rw[this,Z6 (λz=>e ?_)]
   .exact t.row j hj
   .rw[ao (Zc hik),ao (Zc VV)] at z;exact(List.getElem_inj hn.2).mp z
section
variable {O O':aF}{k1 k2 m i:Nat}{ks1 ks2:List Nat}{W D:Γ1}
end
section
variable {K:Θ1}{QX:Addr->aF->Prop}{E:XK}{X:Cx}
end
section
variable {n:Nat}{ix:List Nat}{sl:fK}{O:aF}{Q:AV->aF->Prop}
end
def Si:FM:=λO xs P _=>∃a b,xs=[.im (qD a),.im (qD b)]/\(Rb 3000 a/\Rb 3000 b/\0<b)/\P (.im (qD (a / b))) O
def eI (B:Γ1)(i j:Nat):Int:=(B.getD i []).getD j 0
structure One (O O':aF)(k:Nat)(ks:List Nat)(W:Γ1):Prop where
 kL:dE O O'
 ge:∀x∈k::ks,O.length<=x
 nd:(k::ks).Nodup
 t:oj O' k ks W
def One.hX {O O':aF}{k i:Nat}{ks:List Nat}{W:Γ1}{sl:fK}{M:MS}{E:xI}(h:One O O' k ks W)(hs:sl[i]?=some (some (.own k)))(hm:∀O2,dE O O2->M E (sl.set i (some (.im (.list (W.map λr=>.list (r.map .int)))))) O2):Cb i M E sl O':=by
 refine⟨k,ks,W.map (λr=>r.map .int),hs,h.t.hd,by rw[Zb];exact h.t.len,λj kj hj=>?_,?_⟩
 .have VV:=(Zf.mp hj).1;have hjW:j<W.length:=by rw[<- h.t.len];exact VV
  have:=h.t.row j hjW;rw[ao hj] at this;rw[this,jw (a:=[]) hjW,Zm];rfl
 .rw[Zm];exact hm _ (dE.none h.kL λx hx=>h.ge x hx)
section
variable {K:Θ1}
end
def sw (g:Nat)(W:Γ1):Γ3:=((List.range g).filter (has W)).map λj:Nat=>(j:Int)
def j1 {W:Γ1}{i:Nat}{x:AV}(h:((W.map aT).map AV.im)[i]?=some x):i<W.length/\x=.im (.tuple ((W.getD i []).map .int)):=by
 have hi:i<W.length:=by have:=(Zf.mp h).1;simpa using this
 rw[Zl,mh (d:=[]) hi] at h;exact⟨hi,(Option.some.inj h).symm⟩
section
variable {A:Γ3}{Pu qs:Δ1}{W:Γ1}{D:List (Δ1)}{g:Nat}
end
def wB {O O1 O2:aF}(h1:dE O O1)(h2:dE O1 O2):dE O O2:=by
 obtain⟨t,rfl⟩:=h1;obtain⟨u,rfl⟩:=h2;exact⟨t++u,by rw[Ys]⟩
def BP:FM:=λO xs P _=>∃(A:Γ3) (Pu:Δ1) (W:Γ1),xs=[.im (g9 A Pu W)]/\A.length<=6/\W.length<=6/\(∀i,i<W.length->(W.getD i []).length=A.length)/\P (.im (.tuple ((sw A.length W).map .int))) O
abbrev XW:Δ2:=["market","amounts","purses","wishes"]
def RE:MS:=(bv (bE (ah 0) (ln 3 (aG (bi 1) (aG (bi 2) (aG (bi 3) cc)))))
 (cU (jj jg (af (bY 1 [3] (oy (af (jj BK (af (ah 1) ar)) ar)) (bi 0) (ia (jj BR (af (bY 1 [0] (cz (ah 1)) (bi 0) cQ (bL KW (bL cZ (ah 0) (ah 1)) (mC (.int 0)))) ar))) (ah 0)) ar))))
def IS {W:Γ1}{j:Nat}:(W.map λr:Γ3=>decide (0<r.getD j 0)).any id=has W j:=by
 unfold has;rw[X1];rfl
def MW:∀O xs Pq QX,BP O xs Pq QX->RE { nx:=λ_ O'=>Pq (.im .none) O',rt:=Pq } (bh XW xs) O:=by
 intro O xs Pq QX h;obtain⟨A,Pu,W,rfl,g6,n6,hr,h⟩:=h;refine⟨rfl,⟨⟨by rw[Zb];omega,by rw[Zb];omega⟩,k8 (has W) (λj=>.int (j:Int)) (by rw[uO,Zb];omega) (λj x Z hx hZ=>?_) (λj x Z hx _ hZ=>?_) ?_⟩⟩
 .obtain⟨hj,rfl⟩:=iS hx;rw[Zb,Z3] at hj;conv=>whnf
  refine A7 (λi=>.bool (decide (0<(W.getD i []).getD j 0))) (by simp;omega) (λi x Z hx hZ=>?_) ?_
  .obtain⟨hi,rfl⟩:=j1 hx;exact⟨_,bR (mh (f:=PyData.int) (d:=0) (by rw[hr i hi];omega)),hZ⟩
  .refine⟨W.map λr=>decide (0<r.getD j 0),?_,?_⟩
   .rw[Zb,Zb,Ba (λr:Γ3=>PyData.bool (decide (0<r.getD j 0))) W [],Zm];rfl
   .rw[IS];exact hZ
 .obtain⟨hj,rfl⟩:=iS hx;exact hZ
 .rw[uO,Zb,Z3];unfold sw at h;rw[Zm] at h;exact h
section
variable {K:Θ1}{QX:Addr->aF->Prop}{E:XK}{X:Cx}
end
section
variable {n:Nat}{ix:List Nat}{items:List AV}{M:ME}{sl:fK}{O:aF}{Q:AV->aF->Prop}
def gk (f:Nat->PyData)(a b:Nat->PyData)(hl:items.length<=1000000)(hi:∀(i:Nat) (x:AV),items[i]?=some x->x=.im (.tuple [a i,b i]))
  (hs:∀(i:Nat) (Z:AV->aF->Prop),i<items.length->Z (.im (f i)) O->M (((cV n ix sl).set 0 (some (.im (a i)))).set 1 (some (.im (b i)))) O Z)
  (hd:Q (.im (.list ((List.range items.length).map f))) O):CB n ix (ln 2 (aG (bi 0) (aG (bi 1) cc))) cQ M sl Q items O:=by
 refine⟨hl,λi ds O'=>O'=O/\ds=(List.range i).map f,⟨rfl,rfl⟩,?_,λds O' ⟨e,h1⟩=>by rw[e,h1];exact hd⟩;rintro i x ds O' hx ⟨rfl,rfl⟩;have cg:=(Zf.mp hx).1;rw[hi i x hx];refine⟨rfl,λ_=>hs i _ cg ⟨rfl,by rw[Y6,Zs];rfl⟩,λz=>(by cases z)⟩
end
def iT {ds:Ξ1}{i:Nat}{x:AV}(h:(cF ds)[i]?=some x):i<ds.length/\x=.im (.tuple [.int (i:Int),ds.getD i .none]):=by
 unfold cF at h;have hi:i<ds.length:=by have:=(Zf.mp h).1;simpa using this
 rw[Zl,Yn hi] at h;exact⟨hi,(Option.some.inj h).symm⟩
section
variable {K:Θ1}{QX:Addr->aF->Prop}{E:XK}{X:Cx}
def d7 {n k:Nat}{f:Addr}{fd:FuncData}{ps:Δ2}{sp:Sp}{F:FM}{x:Str}{e:Expr}{es:Ξ2}{p pos:Pos}{Ms:MA}(C:bU X.K X.mg X.prog X.w X.base x k ps sp f fd)(lk:rG K sp F)(hr:c3 n X.A)
  (ha:PA X (e::es) (uC K QX E Ms)) (hn:k<=n:=by decide) (hg:Gl X x:=by rfl) (uT:(x == ("__debug__" : Str))=false:=by decide) (he:starEach (e::es) X.env=(false,eval e X.env)::starEach es X.env:=by rfl) (lC:(backTo pos (starEach es X.env)).any (·.1)=false:=by rfl) :
  PE X (.Call (.Name x p) (e::es) [] pos) (bO K QX E (aE F cH Ms)):=Et C.ok lk (hr.mono hn) hg C.mg C.kp C.bd ha uT he lC
def mv (i:Nat){x:Str}{pos:Pos}(hN:X.N[i]?=some x:=by rfl)(hv:QP X.env.scope x:=by first |exact Or.inl rfl |exact Or.inr (Or.inl rfl) |exact Or.inr (Or.inr rfl))(hd:(x == ("__debug__" : Str))=false:=by decide)
  (zb:(x == ("__classdict__" : Str))=false:=by decide):PE X (.Name x pos) (bO K QX E (ah i)):=NH (pv i hN hv hd zb)
def jM {i:Nat}{x:Str}{e:Expr}{M:ME}{pos gz:Pos}(hN:X.N.Nodup)(he:PE X e (bO K QX E M))(hi:X.N[i]?=some x:=by rfl)(hx:Loc X.env.scope x:=by exact Or.inl rfl)(hs:swapsWith e (some (.Name x gz)) pos.line X.env=pure false:=by rfl)(hf:X.fn x=true\/X.env.scope.names.lookup x=some .local:=by first |exact .inl rfl |exact .inr rfl |assumption) :
  PS X (.Assign [.Name x gz] e pos) (jt K QX E (bE M (bi i))):=fE hN hi hx he hs hf
def dZ {i:Nat}{x:Str}{pos:Pos}(hN:X.N.Nodup)(hi:X.N[i]?=some x:=by rfl)(hx:Loc X.env.scope x:=by exact Or.inl rfl)(hf:X.fn x=true\/X.env.scope.names.lookup x=some .local:=by first |exact .inl rfl |exact .inr rfl |assumption):PG X (.Name x pos) (n8 K QX E (bi i)):=fq (jk hN hi hx hf)
end
end MI
namespace L2
open PySem
def jQ (sp:Sp):Sp:=λvs H Q _=>sp vs H Q E0
def qm {X:Cx}{st:Stmt}:PS X st (λ_ _ _=>False):=λae s σ H D I h=>h.elim
end L2
namespace MI
open PySem L2 KG EX KM
section
variable {K:Θ1}{QX:Addr->aF->Prop}{E:XK}{X:Cx}
def Bk {n k:Nat}{f:Addr}{fd:FuncData}{ps:Δ2}{sp:Sp}{F:FM}{x:Str}{e:Expr}{es:Ξ2}{p pos:Pos}{Ms:MA}(C:bU X.K X.mg X.prog X.w X.base x k ps (jQ sp) f fd)(lk:rG K sp F)(hr:c3 n X.A)
  (ha:PA X (e::es) (uC K QX E Ms)) (hn:k<=n:=by decide) (hg:Gl X x:=by rfl) (uT:(x == ("__debug__" : Str))=false:=by decide) (he:starEach (e::es) X.env=(false,eval e X.env)::starEach es X.env:=by rfl) (lC:(backTo pos (starEach es X.env)).any (·.1)=false:=by rfl) :
  PE X (.Call (.Name x p) (e::es) [] pos) (bO K QX E (aE F cH Ms)):=PE.imp (eR C.ok (hr.mono hn) hg C.mg C.kp C.bd (Fn:=[]) .nil aS ha uT he lC) λσ H Q ⟨w,O,sl,Q0,c,m,q⟩=>⟨w,O,sl,_,c,m,λxs O1 vs w1 H1 h1 e1 r1 a1=>by
 show sp (vs++[]) H1 Q E0;rw[Yg];exact lk w1 O1 H1 vs xs _ cH Q E0 r1 a1 h1 (λz z' O3 w3 H3 h3 e3 r3 a3=>q _ O3 z w3 H3 h3 (e1.trans e3) r3 a3) λk O' w' H' qx e' r'=>qx.elim⟩
end
end MI
namespace BA
open PySem L2 KG EX KM
def top (i:Nat):Stmt:=PySem.Challenge.pw_wishmart_k43_whole_one_buyer_or_one_good.main.body.getD i (.Pass ⟨0,0,0,0⟩)
section
variable {P:Program}{w:World}{K:Θ1}{mg:Θ3}{base:Heap}
def Ha:ak ["thing"] ["thing"] (bz (top 7)):=L2.dm
def Ef {f:Addr}{fd:FuncData}(F:cT K "is_whole" "is_whole" (top 7) f fd)(N:Nm mg)(Z:K5 K):aK P w K mg base ci 1 f fd ["thing"] (spT j2):=by
 refine F.ok Ha (λvs H Q E h=>?_) (λbH A outer s H vs Q E hr h=>?_)
 .obtain⟨b,v,d,rfl,_⟩:=h;rfl
 .obtain⟨b,v,d,rfl,hT,k⟩:=h;refine⟨_,dJ (gm (CU (Gh K (pv 0) rfl N.isinstance rfl N.int boot_int Ul) (CS (Nc (Gh K (pv 0) rfl N.isinstance rfl N.bool boot_bool Ul))))),?_⟩;obtain⟨t1,OW,e1⟩:=isi Z hT;obtain⟨t2,ty2,e2⟩:=isb Z hT;refine⟨_,rfl,t1,_,OW,e1,_,rfl,?_⟩;have hk:=k H (ay.refl H);rw[ww] at hk;cases hi:Vy d with
  |true =>
   rw[hi] at hk;refine cE ⟨_,rfl,t2,_,ty2,e2,_,rfl,hk⟩
  |false =>
   rw[hi] at hk;exact cR hk
def Jz:ak ["one","other"] ["one","other"] (bz (top 9)):=L2.dm
def Nw {f:Addr}{fd:FuncData}(F:cT K "common_divisor" "common_divisor" (top 9) f fd)(N:Nm mg):aK P w K mg base ci 1 f fd ["one","other"] Jt:=by
 refine F.ok Jz (λvs H Q E h=>?_) (λbH A outer s H vs Q E hr h=>?_)
 .obtain⟨t,u,rfl,_⟩:=h;rfl
 .obtain⟨t,u,rfl,u0,k⟩:=h;refine⟨_,fh (j8 PassesOwn.never (oJ sA (pv 1) bF (aQ _)) (dJ (ql (i:=0) (j:=1) rfl Jz.nd rfl rfl (by decide) rfl rfl (bm (pv 1) (bm (cY gG (pv 0) (pv 1)) cf)) (by rfl))))
   (dJ (gm (uQ nG (by rfl) N.abs boot_abs (bm (pv 0) cf)))),?_⟩
  refine nq (λσ H'=>H'=H/\∃a c:Int,σ=[some (.int a),some (.int c)]/\0<=c/\Int.gcd a c=Int.gcd t u)
   (λσ _=>match σ with |[_,some (.int c)]=>c.toNat |_=>0) ⟨rfl,t,u,rfl,u0,rfl⟩ ?_ ?_
  .rintro σ H' ⟨rfl,a,c,rfl,c0,e⟩;refine⟨_,rfl,rfl,_,rfl,?_⟩;by_cases hc:c=0
   .subst hc;refine cR ?_;refine⟨_,rfl,_,rfl,?_⟩;rw[IT,e];exact k
   .have e1:(!decide (V.int c=V.int 0))=true:=by simp[hc]
    rw[e1];refine cE ?_;have cp:0<c:=by omega
    refine⟨_,rfl,_,rfl,_,rfl,_,_,rfl,rfl,cp,_,_,rfl,⟨rfl,c,a % c,rfl,Qn _ hc,ED.trans e⟩,?_⟩;have h1:=Qz a cp;have h2:=Qn a hc;show(a % c).toNat<c.toNat;omega
  .rintro σ H' Q1 Q2 BN ⟨v,e,sc,kk,ek,q⟩;exact⟨v,e,sc,kk,ek,BN _ _ q⟩
def vi:ak ["thing","top","bottom"] ["thing"] (bz (top 8)):=L2.dm
def Ai {f fW fG:Addr}{fd dW dG:FuncData}(F:cT K "is_fraction" "is_fraction" (top 8) f fd)(N:Nm mg)(Z:K5 K)(W:bU K mg P w base "is_whole" 1 ["thing"] (spT j2) fW dW)(G:bU K mg P w base "common_divisor" 1 ["one","other"] Jt fG dG):aK P w K mg base ci 2 f fd ["thing"] (spT bN):=by
 refine F.ok vi (λvs H Q E h=>?_) (λbH A outer s H vs Q E hr h=>?_)
 .obtain⟨b,v,d,rfl,_⟩:=h;rfl
 .obtain⟨b,v,d,rfl,hT,k⟩:=h;refine⟨_,fh (oH (PW.pt (pw_or (gD (fD (Gh K (pv 0) rfl N.isinstance rfl N.tuple pS Ul))) (pw_or1 (oJ sA (uQ mR (by rfl) N.len Xk (bm (pv 0) cf)) bF (aQ _))))) (dJ (gm sy)) oI)
   (fh (kO (pv 0) (jC rfl (wQ (jk (i:=1) vi.nd rfl (Or.inl rfl)) (wQ (jk (i:=2) vi.nd rfl (Or.inl rfl)) gJ))))
   (fh (oH (PW.pt (pw_or (gD (fD (eR W.ok hr rfl W.mg W.kp W.bd .nil aS (bm (pv 1) cf)))) (pw_or1 (gD (fD (eR W.ok hr rfl W.mg W.kp W.bd .nil aS (bm (pv 2) cf))))))) (dJ (gm sy)) oI)
   (dJ (gm (CU (gK Tl (pv 2) bF (aQ _)) (CS (gK mL (eR G.ok hr rfl G.mg G.kp G.bd .nil aS (bm (pv 1) (bm (pv 2) cf))) bF (aQ _)))))))),?_⟩
  obtain⟨t1,OW,e1⟩:=ist Z hT;refine⟨_,rfl,t1,_,OW,e1,_,rfl,?_⟩;have hk:=k H (ay.refl H);rcases xM hT with hn |⟨a,xs,ds,rfl,rfl,ha,hs⟩
  .rw[hn];rw[AB hn] at hk;exact cE (cE hk)
  refine cR ?_;refine⟨_,rfl,a,xs,rfl,.inr (aM.of ha),rfl,_,rfl,?_⟩;by_cases hl:xs.length=2
  case neg =>
   have e2:(!decide (V.int (xs.length:Int)=V.int 2))=true:=xK (b:=2) hl;rw[e2];have PV:ds.length≠2:=by rw[<- hs.len];exact hl
   have e3:bN (.tuple ds)=false:=wx PV;rw[e3] at hk;exact cE hk
  have e2:(!decide (V.int (xs.length:Int)=V.int 2))=false:=by rw[hl];rfl
  rw[e2];refine cR ?_
  match xs,ds,hl,hs with
  |[x,y],_,_,.cons (d:=dx) hx (.cons (d:=dy) hy .nil) =>
  refine⟨_,rfl,a,_,rfl,aM.of ha,rfl,_,_,rfl,_,_,rfl,rfl,?_⟩;refine⟨_,rfl,b,x,dx,rfl,hx,λH1 s1=>?_⟩;refine⟨_,rfl,?_⟩;rcases rd hx with hn |⟨i,rfl,rfl⟩
  .rw[hn];refine cE (cE ?_);have e3:bN (.tuple [dx,dy])=false:=by cases dx<;>first |rfl |cases hn
   rw[e3] at k;exact k H1 s1
  refine cR ?_;refine⟨_,rfl,b,y,dy,rfl,hy.ap s1,λH2 s2=>?_⟩;refine⟨_,rfl,?_⟩;rcases rd hy with hn |⟨j,rfl,rfl⟩
  .rw[hn];refine cE ?_;have e3:bN (.tuple [.int i,dy])=false:=by cases dy<;>first |rfl |cases hn
   rw[e3] at k;exact k H2 (s1.trans s2)
  refine cR ?_;refine⟨_,rfl,_,_,rfl,rfl,_,rfl,?_⟩;have KI:Q (.bl (decide ((1:Int)<=j)&&decide (Int.gcd i j=1))) H2:=k H2 (s1.trans s2);by_cases hj:1<=j
  .have e4:decide ((1:Int)<=j)=true:=by simpa using hj
   rw[e4] at KI ⊢;refine cE ⟨_,rfl,_,rfl,i,j,rfl,by omega,rfl,?_⟩;have e5:decide (V.int ((Int.gcd i j:Nat):Int)=V.int 1)=decide (Int.gcd i j=1):=by
    rw[decide_eq_decide];constructor
    .intro h;injection h with h;omega
    .intro h;rw[h];rfl
   rw[e5];simpa using KI
  .have e4:decide ((1:Int)<=j)=false:=by simpa using hj
   rw[e4] at KI ⊢;exact cR KI
def CK:ak ["bag","many","found"] ["bag","many"] (bz (top 62)):=L2.dm
def HH {f:Addr}{fd:FuncData}(F:cT K "_law_take" "_law_take" (top 62) f fd):aK P w K mg base ci 1 f fd ["bag","many"] qd:=by
 refine F.ok CK (λvs H Q E h=>?_) (λbH A outer s H vs Q E hr h=>?_)
 .obtain⟨b,m,rfl,_⟩:=h;rfl
 .obtain⟨b,m,rfl,⟨c,d,hb⟩,h0,h1,k⟩:=h;refine⟨_,fh (oH (oJ jm (d9 sq (pv 0) bF (λ_ _=>rfl)) bF (aQ _))
    (fh (oa (i:=2) CK.nd rfl (Or.inl rfl) (cY gG (d9 sq (pv 0) bF (λ_ _=>rfl)) (pv 1)))
     (fh (kO (cY qR (d9 sq (pv 0) bF (λ_ _=>rfl)) (pv 1)) (vj (pv 0) bF j6)) (dJ (gm (pv 2))))) oI)
   (fh (kO (cY gG (cY iC (d9 sq (pv 0) bF (λ_ _=>rfl)) bF) bF) (vj (pv 0) bF j6))
    (dJ (gm (cY gG (cY qR (cY gG (cY iC (cY qR (d9 sq (pv 0) bF (λ_ _=>rfl)) bF) (cY dj (cY gG (d9 sq (pv 0) bF (λ_ _=>rfl)) bF) bF)) bF) bF) (pv 1))))),?_⟩
  refine⟨_,rfl,b,_,_,_,rfl,rfl,bD.of hb,rfl,_,_,rfl,rfl,_,rfl,?_⟩;refine zq (λhc=>?_) (λhc=>?_)
  .refine⟨_,rfl,b,_,_,_,rfl,rfl,bD.of hb,rfl,_,rfl,_,_,rfl,rfl,h0,?_⟩;refine⟨_,rfl,b,_,_,_,rfl,rfl,bD.of hb,rfl,_,rfl,_,_,rfl,rfl,⟨h0,h1⟩,?_⟩;refine⟨_,rfl,b,_,_,0,rfl,rfl,hb,rfl,?_⟩;refine⟨_,rfl,k _ _ (Qn _ (by omega)) (Qz _ h0) ⟨_,_,dM⟩ (Kp.refl b H).bag⟩
  .refine⟨_,rfl,b,_,_,_,rfl,rfl,bD.of hb,rfl,_,_,rfl,rfl,.inr ⟨by decide,by decide⟩,_,_,rfl,rfl,(by show(0:Int)<2147483647;decide),?_⟩;refine⟨_,rfl,b,_,_,1,rfl,rfl,hb,rfl,?_⟩;have oM:(aL H b (.lst [V.int c,V.int (d*48271 % 2147483647)])) b=some (.lst [V.int c,V.int (d*48271 % 2147483647)]):=dM;refine⟨_,rfl,b,_,_,_,rfl,rfl,bD.of oM,rfl,_,_,rfl,rfl,⟨by decide,by decide⟩,?_⟩;refine⟨_,rfl,b,_,_,_,rfl,rfl,bD.of oM,rfl,_,_,rfl,rfl,(by show(0:Int)<32749;decide),_,_,rfl,rfl,?_⟩;refine⟨_,_,rfl,rfl,.inr ⟨?_,?_⟩,?_⟩
   .have:=Qn (d*48271 % 2147483647) (show(32749:Int)≠0 by decide);omega
   .have:=Qz (d*48271 % 2147483647) (show(0:Int)<32749 by decide);omega
   refine⟨_,_,rfl,rfl,(by show(0:Int)<2147483629;decide),_,_,rfl,rfl,⟨by decide,by decide⟩,_,rfl,_,_,rfl,rfl,h0,?_⟩;exact k _ _ (Qn _ (by omega)) (Qz _ h0) ⟨_,_,dM⟩ (Kp.refl b H).bag
def xf:ak ["script","k","cell","seed"] ["script","k"] (bz (top 61)):=L2.dm
def Nz {f:Addr}{fd:FuncData}(F:cT K "_law_bag" "_law_bag" (top 61) f fd)(B:Nm mg):aK P w K mg base ci 1 f fd ["script","k"] (B3 K):=by
 refine F.ok xf (λvs H Q E h=>?_) (λbH A outer s H vs Q E hr h=>?_)
 .obtain⟨a,ns,k,rfl,_⟩:=h;rfl
 .obtain⟨a,ns,k,rfl,hS,h0,h1,q⟩:=h;refine⟨_,fh (oa (i:=2) xf.nd rfl (Or.inl rfl) bF)
   (fh (oH (oJ sB (pv 1) (uQ gP (by rfl) B.len Xk (bm (pv 0) cf)) (aQ _))
    (dJ (oa (i:=2) xf.nd rfl (Or.inl rfl) (cY gG (d9 yC (pv 0) (pv 1) (λ_ _=>rfl)) (cY mZ bF bF)))) oI)
   (fh (oa (i:=3) xf.nd rfl (Or.inl rfl) (cY dj bF (cY gG (cY dj (cY dj (cY dj (cY iC (cY gG (pv 2) bF) bF) (cY iC (cY iC bF (pv 1)) (pv 1))) (cY iC bF (pv 1))) bF) bF)))
   (fh (oH (oJ sB (pv 2) (cY mZ bF bF) (aQ _)) (dJ (gm (qo (bm bF (bm (pv 3) cf))))) oI)
   (dJ (gm (qo (bm (pv 2) (bm (pv 3) cf)))))))),?_⟩
  refine⟨_,rfl,_,rfl,a,_,rfl,.inl hS,_,_,rfl,rfl,_,rfl,?_⟩;refine zq (λhc=>?YE) (λhc=>?ahx)
  case' YE =>
   have hk:k<(ns.length:Int):=by simpa using of_decide_eq_true hc
   have rW:gv (ns.map V.int) k=some (V.int (ns.getD k.toNat 0)):=by
    have e:(ns.map V.int)[k.toNat]?=some (V.int (ns.getD k.toNat 0)):=by
     have hl:k.toNat<ns.length:=by omega
     rw[Zl,Zc hl];simp[List.getD,Zc hl]
    have:=md e;rw[Xe h0] at this;exact this
   refine⟨_,rfl,_,rfl,a,_,_,_,rfl,rfl,hS,rW,_,_,rfl,rfl,⟨by decide,by decide,by decide⟩,_,_,rfl,rfl,(by show(0:Int)<10 ^ 60;decide),?_⟩
  all_goals
   refine⟨_,rfl,_,_,rfl,rfl,(by show(0:Int)<2147483629;decide),_,_,rfl,rfl,.inr ⟨by decide,by decide⟩,?_⟩;refine⟨_,rfl,_,_,rfl,rfl,.inl ⟨by decide,by decide⟩,_,rfl,_,_,rfl,rfl,.inr ⟨by omega,by omega⟩,_,_,rfl,rfl,?_⟩;refine⟨_,rfl,_,_,rfl,rfl,.inl ⟨by decide,by decide⟩,_,_,rfl,rfl,_,_,rfl,rfl,_,_,rfl,rfl,(by show(0:Int)<2147483645;decide),_,_,rfl,rfl,?_⟩;refine⟨_,rfl,_,_,rfl,rfl,⟨by decide,by decide,by decide⟩,_,_,rfl,rfl,_,rfl,?_⟩;refine zq (λhc=>?_) (λhc=>?_)
   .exact⟨_,rfl,by show 2<=sizeLine;decide,λp hp=>q p _ _ hp⟩
   .exact⟨_,rfl,_,rfl,by show 2<=sizeLine;decide,λp hp=>q p _ _ hp⟩
def tf:ak ["bag","way"] ["bag"] (bz (top 71)):=L2.dm
def Ah {f fT fF:Addr}{fd dT dF:FuncData}(F:cT K "_law_purse" "_law_purse" (top 71) f fd)(T:bU K mg P w base "_law_take" 1 ["bag","many"] qd fT dT)(R:bU K mg P w base "_law_frac" 1 ["top","bottom"] CH fF dF):aK P w K mg base ci 2 f fd ["bag"] Lj:=by
 refine F.ok tf (λvs H Q E h=>?_) (λbH A outer s H vs Q E hr h=>?_)
 .obtain⟨b,rfl,_⟩:=h;rfl
 .obtain⟨b,rfl,hb,k⟩:=h;refine⟨_,fh (oa (i:=1) tf.nd rfl (Or.inl rfl) (eR T.ok hr rfl T.mg T.kp T.bd .nil aS (bm (pv 0) (bm bF cf))))
   (fh (oH (oJ mL (pv 1) bF (aQ _)) (dJ (gm (gF (bm (cY dj bF (eR T.ok hr rfl T.mg T.kp T.bd .nil aS (bm (pv 0) (bm bF cf)))) (bm bF cf))))) oI)
   (fh (oH (oJ mL (pv 1) bF (aQ _)) (dJ (gm (gF (bm (cY dj bF (eR T.ok hr rfl T.mg T.kp T.bd .nil aS (bm (pv 0) (bm (cY mZ bF bF) cf)))) (bm bF cf))))) oI)
   (fh (oH (oJ mL (pv 1) bF (aQ _)) (dJ (gm (eR R.ok hr rfl R.mg R.kp R.bd .nil aS (bm (cY dj bF (eR T.ok hr rfl T.mg T.kp T.bd .nil aS (bm (pv 0) (bm (cY mZ bF bF) cf)))) (bm (cY dj bF (eR T.ok hr rfl T.mg T.kp T.bd .nil aS (bm (pv 0) (bm (cY mZ bF bF) cf)))) cf))))) oI)
   (dJ (gm (eR R.ok hr rfl R.mg R.kp R.bd .nil aS (bm (cY dj bF (eR T.ok hr rfl T.mg T.kp T.bd .nil aS (bm (pv 0) (bm bF cf)))) (bm (cY dj bF (eR T.ok hr rfl T.mg T.kp T.bd .nil aS (bm (pv 0) (bm bF cf)))) cf)))))))),?_⟩
  refine⟨_,rfl,b,_,rfl,hb,by decide,by decide,λr H1 r0 r1 oN Uk=>?_⟩;refine⟨_,rfl,rfl,_,rfl,zq (λ_=>?_) (λ_=>?_)⟩
  .refine⟨_,rfl,b,_,rfl,oN,by decide,by decide,λr2 H2 p0 p1 oM Kt=>⟨_,_,rfl,rfl,by show 2<=sizeLine;decide,λp hp=>k _ _ _ (oM.new hp) ((Uk.trans Kt).new hp) FT (pc (by omega) (by omega))⟩⟩
  refine⟨_,rfl,rfl,_,rfl,zq (λ_=>?_) (λ_=>?_)⟩
  .refine⟨_,rfl,_,_,rfl,rfl,⟨by decide,by decide,by decide⟩,b,_,rfl,oN,by decide,by decide,λr2 H2 p0 p1 oM Kt=>⟨_,_,rfl,rfl,by show 2<=sizeLine;decide,λp hp=>?_⟩⟩;have p1':r2<1000000:=p1;exact k _ _ _ (oM.new hp) ((Uk.trans Kt).new hp) FT (pc (by omega) (by omega))
  refine⟨_,rfl,rfl,_,rfl,zq (λ_=>?_) (λ_=>?_)⟩
  .refine⟨_,rfl,_,_,rfl,rfl,⟨by decide,by decide,by decide⟩,b,_,rfl,oN,by decide,by decide,λr2 H2 p0 p1 oM Kt=>⟨_,_,rfl,rfl,?_⟩⟩;refine⟨_,rfl,_,_,rfl,rfl,⟨by decide,by decide,by decide⟩,b,_,rfl,oM,by decide,by decide,λr3 H3 q0 q1 Wb Vu=>⟨_,_,rfl,rfl,?_⟩⟩;have p1':r2<1000000:=p1;have q1':r3<1000000:=q1;exact⟨_,_,rfl,by omega,by omega,λp hp=>k _ _ _ (Wb.new hp) (((Uk.trans Kt).trans Vu).new hp) FT (pe (by omega) (by omega) (by omega) (by omega))⟩
  .refine⟨_,rfl,b,_,rfl,oN,by decide,by decide,λr2 H2 p0 p1 oM Kt=>⟨_,_,rfl,rfl,?_⟩⟩;refine⟨_,rfl,b,_,rfl,oM,by decide,by decide,λr3 H3 q0 q1 Wb Vu=>⟨_,_,rfl,rfl,?_⟩⟩;exact⟨_,_,rfl,by omega,by omega,λp hp=>k _ _ _ (Wb.new hp) (((Uk.trans Kt).trans Vu).new hp) FT (pe (by omega) (by omega) (by omega) (by omega))⟩
def CL:ak ["one","other"] ["one","other"] (bz (top 9)):=L2.dm
def HZ {f:Addr}{fd:FuncData}(F:cT K "common_divisor" "common_divisor" (top 9) f fd)(N:Nm mg):aK P w K mg base ci 1 f fd ["one","other"] qf:=by
 refine F.ok CL (λvs H Q E h=>?_) (λbH A outer s H vs Q E hr h=>?_)
 .obtain⟨t,u,rfl,_⟩:=h;rfl
 .obtain⟨t,u,rfl,k⟩:=h;refine⟨_,fh (j8 PassesOwn.never (oJ sA (pv 1) bF (aQ _)) (dJ (ql (i:=0) (j:=1) rfl CL.nd rfl rfl (by decide) rfl rfl (bm (pv 1) (bm (cY yi (pv 0) (pv 1)) cf)) (by rfl))))
   (dJ (gm (uQ nG (by rfl) N.abs boot_abs (bm (pv 0) cf)))),?_⟩
  refine nq (λσ H'=>H'=H/\∃a c:Int,σ=[some (.int a),some (.int c)]/\Int.gcd a c=Int.gcd t u)
   (λσ _=>match σ with |[_,some (.int c)]=>c.natAbs |_=>0) ⟨rfl,t,u,rfl,rfl⟩ ?_ ?_
  .rintro σ H' ⟨rfl,a,c,rfl,e⟩;refine⟨_,rfl,rfl,_,rfl,?_⟩;by_cases hc:c=0
   .subst hc;refine cR ?_;refine⟨_,rfl,_,rfl,?_⟩;rw[tZ,e];exact k
   .have e1:(!decide (V.int c=V.int 0))=true:=by simp[hc]
    rw[e1];refine cE ?_;exact⟨_,rfl,_,rfl,_,rfl,_,_,rfl,rfl,hc,_,_,rfl,⟨rfl,c,a.fmod c,rfl,tR.trans e⟩,yH hc⟩
  .rintro σ H' Q1 Q2 BN ⟨v,e,sc,kk,ek,q⟩;exact⟨v,e,sc,kk,ek,BN _ _ q⟩
def Ln:ak ["top","bottom","divisor"] ["top","bottom"] (bz (top 10)):=L2.dm
def ug {f fG Nn:Addr}{fd dG:FuncData}(F:cT K "fraction" "fraction" (top 10) f fd)(RA:mg "NoNumber"=some (.ref Nn))(exN:PySem.W.excIn K Nn [.type "ValueError",.type "Exception",.type "BaseException",.type "object"] "ValueError.__new__"=true)(G:bU K mg P w base "common_divisor" 1 ["one","other"] qf fG dG):aK P w K mg base ci 2 f fd ["top","bottom"] (jQ (r9 Nn)):=by
 refine F.ok Ln (λvs H Q E h=>?_) (λbH A outer s H vs Q E hr h=>?_)
 .obtain⟨t,u,rfl,_⟩:=h;rfl
 .obtain⟨t,u,rfl,hb,k0,k1⟩:=h;refine⟨_,fh (oH (oJ mL (pv 1) bF (aQ _)) (dJ (qm)) oI)
   (fh (oa (i:=2) Ln.nd rfl (Or.inl rfl) (eR G.ok hr rfl G.mg G.kp G.bd .nil aS (bm (pv 0) (bm (pv 1) cf))))
   (fh (oH (oJ sB (pv 1) bF (aQ _)) (dJ (oa (i:=2) Ln.nd rfl (Or.inl rfl) (JM Cv (pv 2)))) oI)
   (dJ (gm (gF (bm (cY iZ (pv 0) (pv 2)) (bm (cY iZ (pv 1) (pv 2)) cf))))))),?_⟩
  refine⟨_,rfl,rfl,_,rfl,?_⟩;by_cases hu:u=0
  .subst hu;exact cE (k0 rfl)
  have e1:decide (V.int u=V.int 0)=false:=by simp[hu]
  rw[e1];refine cR ?_;refine⟨_,rfl,_,rfl,t,u,rfl,?_⟩;refine⟨_,rfl,_,_,rfl,rfl,_,rfl,?_⟩;have hs:=(lX (t:=t) hu).2.2.2.1;have rR:=Jx (t:=t) hb hu;obtain⟨q1,q2⟩:=m5 (T:=t) hu;have k1':∀p,H p=none->Q (.ref p) (aL H p (.tup [.int (nx t u),.int (ny t u)])):=λp hp=>by rw[q1,q2];exact k1 hu p hp
  have jz:∀d:Int,d=sg t u->(Q7 (QZ (BY (Kq (rI (λ_ j=>j≠0/\Bd 8000 j) λi j=>.int (i.fdiv j)) (u3 0) (u3 2)) (BY (Kq (rI (λ_ j=>j≠0/\Bd 8000 j) λi j=>.int (i.fdiv j)) (u3 1) (u3 2)) Q8)))) { nx:=λ_ H'=>Q .bV H',rt:=Q } [some (.int t),some (.int u),some (.int d)] H:=λd hd=>by
   subst hd;exact⟨_,rfl,_,rfl,_,_,rfl,rfl,⟨hs,rR⟩,_,rfl,_,rfl,_,_,rfl,rfl,⟨hs,rR⟩,by show 2<=sizeLine;decide,λp hp=>k1' p hp⟩
  by_cases hn:u<0
  .rw[decide_eq_true hn];exact cE ⟨_,rfl,_,rfl,jz _ (by unfold sg;rw[if_pos hn])⟩
  .rw[decide_eq_false hn];exact cR (jz _ (by unfold sg;rw[if_neg hn]))
def Gb:ak ["top","bottom","one","other","by"] ["top","bottom"] (bz (top 63)):=L2.dm
def JO {f:Addr}{fd:FuncData}(F:cT K "_law_frac" "_law_frac" (top 63) f fd)(B:Nm mg):aK P w K mg base ci 1 f fd ["top","bottom"] BE:=by
 refine F.ok Gb (λvs H Q E h=>?_) (λbH A outer s H vs Q E hr h=>?_)
 .obtain⟨t,u,rfl,_⟩:=h;rfl
 .obtain⟨t,u,rfl,u0,u1,k⟩:=h;refine⟨_,fh (ql (i:=2) (j:=3) rfl Gb.nd rfl rfl (by decide) rfl rfl (bm (pv 0) (bm (pv 1) cf)) (by rfl))
   (fh (j8 PassesOwn.never (oJ sA (pv 3) bF (aQ _)) (dJ (ql (i:=2) (j:=3) rfl Gb.nd rfl rfl (by decide) rfl rfl (bm (pv 3) (bm (cY yi (pv 2) (pv 3)) cf)) (by rfl))))
   (fh (oa (i:=4) Gb.nd rfl (Or.inl rfl) (cY iC (uQ nG (by rfl) B.abs boot_abs (bm (pv 2) cf)) (cY vm bF (cY iC bF (Ol lf (by rfl) B.int boot_int (bm (gK sB (pv 1) bF (aQ _)) cf))))))
   (dJ (gm (gF (bm (cY iZ (pv 0) (pv 4)) (bm (cY iZ (pv 1) (pv 4)) cf))))))),?_⟩
  have hu:u≠0:=by omega
  obtain⟨q1,q2⟩:=m5 (T:=t) hu;have k':∀p,H p=none->Q (.ref p) (aL H p (.tup [.int (nx t u),.int (ny t u)])):=λp hp=>by rw[q1,q2];exact k p hp
  have hs:=(lX (t:=t) hu).2.2.2.1;have rR:=Jx (t:=t) u1 hu;have esg:(Int.gcd t u:Int)=sg t u:=by unfold sg;rw[if_neg (by omega)]
  refine⟨_,rfl,_,rfl,_,_,rfl,?_⟩;refine nq (λσ H'=>H'=H/\∃a c:Int,σ=[some (.int t),some (.int u),some (.int a),some (.int c),none]/\Int.gcd a c=Int.gcd t u)
   (λσ _=>match σ with |[_,_,_,some (.int c),_]=>c.natAbs |_=>0) ⟨rfl,t,u,rfl,rfl⟩ ?_ ?_
  .rintro σ H' ⟨rfl,a,c,rfl,e⟩;refine⟨_,rfl,rfl,_,rfl,?_⟩;by_cases hc:c=0
   .subst hc;refine cR ?_;refine⟨_,rfl,_,rfl,_,rfl,_,_,rfl,rfl,.inr ⟨_,rfl,_,_,rfl,rfl,.inl ⟨by decide,by decide⟩,_,_,rfl,rfl,?_⟩⟩;have e2:decide (u<0)=false:=decide_eq_false (by omega);rw[tZ,e,e2,esg];have e3:sg t u*(1-2*(if false=true then (1:Int) else 0))=sg t u:=by simp
    refine⟨_,_,rfl,rfl,.inr ⟨by decide,by decide⟩,?_⟩;show fk 4 (V.int (sg t u*(1-2*(if false=true then (1:Int) else 0)))) _ _ _;rw[e3];exact⟨_,rfl,_,rfl,_,_,rfl,rfl,⟨hs,rR⟩,_,rfl,_,rfl,_,_,rfl,rfl,⟨hs,rR⟩,by show 2<=sizeLine;decide,λp hp=>k' p hp⟩
   .have e1:(!decide (V.int c=V.int 0))=true:=by simp[hc]
    rw[e1];refine cE ?_;exact⟨_,rfl,_,rfl,_,rfl,_,_,rfl,rfl,hc,_,_,rfl,⟨rfl,c,a.fmod c,rfl,tR.trans e⟩,yH hc⟩
  .rintro σ H' Q1 Q2 BN ⟨v,e,sc,kk,ek,q⟩;exact⟨v,e,sc,kk,ek,BN _ _ q⟩
def G9:ak ["one","other"] ["one","other"] (bz (top 11)):=L2.dm
def HM {f fF Nn:Addr}{fd dF:FuncData}(F:cT K "plus" "plus" (top 11) f fd)(G:bU K mg P w base "fraction" 2 ["top","bottom"] (jQ (r9 Nn)) fF dF):aK P w K mg base ci 3 f fd ["one","other"] (jQ (A1 Ph)):=by
 refine F.ok G9 (λvs H Q E h=>?_) (λbH A outer s H vs Q E hr h=>?_)
 .obtain⟨p,q,a,b,rfl,_⟩:=h;rfl
 .obtain⟨p,q,a,b,rfl,hp,hq,⟨ba,bb⟩,⟨bc,bd⟩,k⟩:=h;have hb:=den_pos a;have hd:=den_pos b;refine⟨_,dJ (gm (eR G.ok hr rfl G.mg G.kp G.bd .nil aS (bm (cY dj (cY rP (d9 cj (pv 0) bF (λ_ _=>rfl)) (d9 cj (pv 1) bF (λ_ _=>rfl))) (cY rP (d9 cj (pv 1) bF (λ_ _=>rfl)) (d9 cj (pv 0) bF (λ_ _=>rfl)))) (bm (cY rP (d9 cj (pv 0) bF (λ_ _=>rfl)) (d9 cj (pv 1) bF (λ_ _=>rfl))) cf)))),?_⟩;refine⟨_,rfl,p,_,_,_,rfl,rfl,aM.of hp,rfl,_,rfl,q,_,_,_,rfl,rfl,aM.of hq,rfl,_,_,rfl,rfl,⟨b3 ba,b3 bd⟩,_,rfl,q,_,_,_,rfl,rfl,aM.of hq,rfl,_,rfl,p,_,_,_,rfl,rfl,aM.of hp,rfl,_,_,rfl,rfl,⟨b3 bc,b3 bb⟩,_,_,rfl,rfl,_,rfl,p,_,_,_,rfl,rfl,aM.of hp,rfl,_,rfl,q,_,_,_,rfl,rfl,aM.of hq,rfl,_,_,rfl,rfl,⟨b3 bb,b3 bd⟩,?_⟩;exact⟨_,_,rfl,b6 (bb.mul bd),λh0=>absurd h0 (Int.ne_of_gt (Y7 hb hd)),λ_ r jy=>by rw[rj];exact k r jy⟩
def DJ:ak ["one","other"] ["one","other"] (bz (top 12)):=L2.dm
def Eg {f fF Nn:Addr}{fd dF:FuncData}(F:cT K "times" "times" (top 12) f fd)(G:bU K mg P w base "fraction" 2 ["top","bottom"] (jQ (r9 Nn)) fF dF):aK P w K mg base ci 3 f fd ["one","other"] (jQ (A1 on)):=by
 refine F.ok DJ (λvs H Q E h=>?_) (λbH A outer s H vs Q E hr h=>?_)
 .obtain⟨p,q,a,b,rfl,_⟩:=h;rfl
 .obtain⟨p,q,a,b,rfl,hp,hq,⟨ba,bb⟩,⟨bc,bd⟩,k⟩:=h;have hb:=den_pos a;have hd:=den_pos b;refine⟨_,dJ (gm (eR G.ok hr rfl G.mg G.kp G.bd .nil aS (bm (cY rP (d9 cj (pv 0) bF (λ_ _=>rfl)) (d9 cj (pv 1) bF (λ_ _=>rfl))) (bm (cY rP (d9 cj (pv 0) bF (λ_ _=>rfl)) (d9 cj (pv 1) bF (λ_ _=>rfl))) cf)))),?_⟩;refine⟨_,rfl,p,_,_,_,rfl,rfl,aM.of hp,rfl,_,rfl,q,_,_,_,rfl,rfl,aM.of hq,rfl,_,_,rfl,rfl,⟨b3 ba,b3 bc⟩,_,rfl,p,_,_,_,rfl,rfl,aM.of hp,rfl,_,rfl,q,_,_,_,rfl,rfl,aM.of hq,rfl,_,_,rfl,rfl,⟨b3 bb,b3 bd⟩,?_⟩;exact⟨_,_,rfl,b6 (bb.mul bd),λh0=>absurd h0 (Int.ne_of_gt (Y7 hb hd)),λ_ r jy=>by rw[qS];exact k r jy⟩
def vP:ak ["one","other"] ["one","other"] (bz (top 64)):=L2.dm
def vX {f fF:Addr}{fd dF:FuncData}(F:cT K "_law_add" "_law_add" (top 64) f fd)(G:bU K mg P w base "_law_frac" 1 ["top","bottom"] BE fF dF):aK P w K mg base ci 2 f fd ["one","other"] (A1 Ph):=by
 refine F.ok vP (λvs H Q E h=>?_) (λbH A outer s H vs Q E hr h=>?_)
 .obtain⟨p,q,a,b,rfl,_⟩:=h;rfl
 .obtain⟨p,q,a,b,rfl,hp,hq,⟨ba,bb⟩,⟨bc,bd⟩,k⟩:=h;have hb:=den_pos a;have hd:=den_pos b;refine⟨_,dJ (gm (eR G.ok hr rfl G.mg G.kp G.bd .nil aS (bm (cY dj (cY rP (d9 cj (pv 0) bF (λ_ _=>rfl)) (d9 cj (pv 1) bF (λ_ _=>rfl))) (cY rP (d9 cj (pv 1) bF (λ_ _=>rfl)) (d9 cj (pv 0) bF (λ_ _=>rfl)))) (bm (cY rP (d9 cj (pv 0) bF (λ_ _=>rfl)) (d9 cj (pv 1) bF (λ_ _=>rfl))) cf)))),?_⟩;refine⟨_,rfl,p,_,_,_,rfl,rfl,aM.of hp,rfl,_,rfl,q,_,_,_,rfl,rfl,aM.of hq,rfl,_,_,rfl,rfl,⟨b3 ba,b3 bd⟩,_,rfl,q,_,_,_,rfl,rfl,aM.of hq,rfl,_,rfl,p,_,_,_,rfl,rfl,aM.of hp,rfl,_,_,rfl,rfl,⟨b3 bc,b3 bb⟩,_,_,rfl,rfl,_,rfl,p,_,_,_,rfl,rfl,aM.of hp,rfl,_,rfl,q,_,_,_,rfl,rfl,aM.of hq,rfl,_,_,rfl,rfl,⟨b3 bb,b3 bd⟩,?_⟩;exact⟨_,_,rfl,Y7 hb hd,b6 (bb.mul bd),λr jy=>by rw[rj];exact k r jy⟩
def vN:ak ["one","other"] ["one","other"] (bz (top 66)):=L2.dm
def vV {f fF:Addr}{fd dF:FuncData}(F:cT K "_law_mul" "_law_mul" (top 66) f fd)(G:bU K mg P w base "_law_frac" 1 ["top","bottom"] BE fF dF):aK P w K mg base ci 2 f fd ["one","other"] (A1 on):=by
 refine F.ok vN (λvs H Q E h=>?_) (λbH A outer s H vs Q E hr h=>?_)
 .obtain⟨p,q,a,b,rfl,_⟩:=h;rfl
 .obtain⟨p,q,a,b,rfl,hp,hq,⟨ba,bb⟩,⟨bc,bd⟩,k⟩:=h;have hb:=den_pos a;have hd:=den_pos b;refine⟨_,dJ (gm (eR G.ok hr rfl G.mg G.kp G.bd .nil aS (bm (cY rP (d9 cj (pv 0) bF (λ_ _=>rfl)) (d9 cj (pv 1) bF (λ_ _=>rfl))) (bm (cY rP (d9 cj (pv 0) bF (λ_ _=>rfl)) (d9 cj (pv 1) bF (λ_ _=>rfl))) cf)))),?_⟩;refine⟨_,rfl,p,_,_,_,rfl,rfl,aM.of hp,rfl,_,rfl,q,_,_,_,rfl,rfl,aM.of hq,rfl,_,_,rfl,rfl,⟨b3 ba,b3 bc⟩,_,rfl,p,_,_,_,rfl,rfl,aM.of hp,rfl,_,rfl,q,_,_,_,rfl,rfl,aM.of hq,rfl,_,_,rfl,rfl,⟨b3 bb,b3 bd⟩,?_⟩;exact⟨_,_,rfl,Y7 hb hd,b6 (bb.mul bd),λr jy=>by rw[qS];exact k r jy⟩
def zS:ak ["one","other"] ["one","other"] (bz (top 14)):=L2.dm
def HW {f:Addr}{fd:FuncData}(F:cT K "less" "less" (top 14) f fd):aK P w K mg base ci 1 f fd ["one","other"] mV:=by
 refine F.ok zS (λvs H Q E h=>?_) (λbH A outer s H vs Q E hr h=>?_)
 .obtain⟨p,q,a,b,rfl,_⟩:=h;rfl
 .obtain⟨p,q,a,b,rfl,hp,hq,⟨ba,bb⟩,⟨bc,bd⟩,k⟩:=h;have hb:=den_pos a;have hd:=den_pos b;refine⟨_,dJ (gm (gK sB (cY rP (d9 cj (pv 0) bF (λ_ _=>rfl)) (d9 cj (pv 1) bF (λ_ _=>rfl))) (cY rP (d9 cj (pv 1) bF (λ_ _=>rfl)) (d9 cj (pv 0) bF (λ_ _=>rfl))) (aQ _))),?_⟩;exact⟨_,rfl,p,_,_,_,rfl,rfl,aM.of hp,rfl,_,rfl,q,_,_,_,rfl,rfl,aM.of hq,rfl,_,_,rfl,rfl,⟨b3 ba,b3 bd⟩,_,rfl,q,_,_,_,rfl,rfl,aM.of hq,rfl,_,rfl,p,_,_,_,rfl,rfl,aM.of hp,rfl,_,_,rfl,rfl,⟨b3 bc,b3 bb⟩,_,_,rfl,rfl,by simp only[NJ];exact k⟩
def ML:ak ["one","other"] ["one","other"] (bz (top 13)):=L2.dm
def HP {f fF Nn:Addr}{fd dF:FuncData}(F:cT K "over" "over" (top 13) f fd)(G:bU K mg P w base "fraction" 2 ["top","bottom"] (jQ (r9 Nn)) fF dF):aK P w K mg base ci 3 f fd ["one","other"] (jQ (mU Nn)):=by
 refine F.ok ML (λvs H Q E h=>?_) (λbH A outer s H vs Q E hr h=>?_)
 .obtain⟨p,q,a,b,rfl,_⟩:=h;rfl
 .obtain⟨p,q,a,b,rfl,hp,hq,⟨ba,bb⟩,⟨bc,bd⟩,k0,k1⟩:=h;have hb:=den_pos a;have hd:=den_pos b;refine⟨_,dJ (gm (eR G.ok hr rfl G.mg G.kp G.bd .nil aS (bm (cY rP (d9 cj (pv 0) bF (λ_ _=>rfl)) (d9 cj (pv 1) bF (λ_ _=>rfl))) (bm (cY rP (d9 cj (pv 0) bF (λ_ _=>rfl)) (d9 cj (pv 1) bF (λ_ _=>rfl))) cf)))),?_⟩;refine⟨_,rfl,p,_,_,_,rfl,rfl,aM.of hp,rfl,_,rfl,q,_,_,_,rfl,rfl,aM.of hq,rfl,_,_,rfl,rfl,⟨b3 ba,b3 bd⟩,?_⟩;refine⟨_,rfl,p,_,_,_,rfl,rfl,aM.of hp,rfl,_,rfl,q,_,_,_,rfl,rfl,aM.of hq,rfl,_,_,rfl,rfl,⟨b3 bb,b3 bc⟩,?_⟩;refine⟨_,_,rfl,b6 (bb.mul bc),λh0=>k0 ?_,λh0 r jy=>?_⟩
  .rcases Int.mul_eq_zero.mp h0 with z |z
   .omega
   .exact Rat.num_eq_zero.mp z
  .have hn:b.num≠0:=λz=>h0 (by rw[z,Int.mul_zero])
   rw[l6 hn];exact k1 (λz=>hn (by rw[z];rfl)) r jy
def xc:ak ["parts","found","part"] ["parts"] (bz (top 17)):=L2.dm
def uf {f fA:Addr}{fd dA:FuncData}(F:cT K "greatest" "greatest" (top 17) f fd)(A:bU K mg P w base "less" 1 ["one","other"] mV fA dA):aK P w K mg base ci 2 f fd ["parts"] B1:=by
 refine F.ok xc (λvs H Q E h=>?_) (λbH A' outer s H vs Q E hr h=>?_)
 .obtain⟨l,ys,qs,rfl,_⟩:=h;rfl
 .obtain⟨l,ys,qs,rfl,hl,hf,bo,hb,k⟩:=h;refine⟨_,fh (oa (i:=1) xc.nd rfl (Or.inl rfl) (d9 sq (pv 0) bF (λ_ _=>rfl)))
   (fh (mY PassesOwn.never rfl (Lx (pv 0)) (jk (i:=2) xc.nd rfl (Or.inl rfl))
    (dJ (oH (fD (eR A.ok hr rfl A.mg A.kp A.bd .nil aS (bm (pv 1) (bm (pv 2) cf)))) (dJ (oa (i:=1) xc.nd rfl (Or.inl rfl) (pv 2))) oI)))
   (dJ (gm (pv 1)))),?_⟩
  have dz:0<qs.length:=Xd.mpr bo;obtain⟨a0,WA,We⟩:=hf.at (g:=0) dz;have m0:qs.getD 0 0∈qs:=by simp[List.getD,Zc dz]
  refine⟨_,rfl,l,_,_,_,rfl,rfl,bD.of hl,WA,?_⟩;refine⟨_,rfl,l,rfl,⟨_,bD.of hl⟩,?_⟩;refine tS (xs:=ys) (λi σ H'=>H'=H/\∃a q y2,σ=[some (.ref l),some (.ref a),y2]/\H a=some (qO q)/\q∈qs/\∀z∈qs.take i,z<=q) ⟨rfl,a0,_,_,rfl,We,m0,λz hz=>by simp at hz⟩ (λi σ H' _ z=>by obtain⟨rfl,_⟩:=z;exact bD.of hl) ?_ ?_
  .rintro i x σ H1 hx ⟨rfl,a,q,y2,rfl,ha,hq,dD⟩;obtain⟨c,z,rfl,hc,hz⟩:=re hf hx;have PF:=Zz hz;refine⟨_,rfl,_,rfl,a,c,q,z,rfl,ha,hc,hb q hq,hb z PF,_,rfl,?_⟩;by_cases cg:q<z
   .rw[decide_eq_true cg];refine cE ⟨_,rfl,rfl,c,z,_,rfl,hc,PF,λy hy=>?_⟩;rw[wR hz] at hy;rcases Z0.mp hy with h |h
    .exact Yv (dD y h) (Yb cg)
    .rw[Z2.mp h];exact Yk
   .rw[decide_eq_false cg];refine cR ⟨rfl,a,q,_,rfl,ha,hq,λy hy=>?_⟩;rw[wR hz] at hy;rcases Z0.mp hy with h |h
    .exact dD y h
    .rw[Z2.mp h];exact Yq.mp cg
  .rintro σ H1 ⟨rfl,a,q,y2,rfl,ha,hq,dD⟩;rw[hf.1,Yj] at dD;exact⟨_,rfl,k a q ha hq dD⟩
def MK:ak ["wish","price"] ["wish","price"] (bz (top 31)):=L2.dm
def HK {f fA Nn:Addr}{fd dA:FuncData}(F:cT K "rate" "rate" (top 31) f fd)(A:bU K mg P w base "over" 3 ["one","other"] (jQ (mU Nn)) fA dA):aK P w K mg base ci 4 f fd ["wish","price"] qe:=by
 refine F.ok MK (λvs H Q E h=>?_) (λbH A' outer s H vs Q E hr h=>?_)
 .obtain⟨n,q,x,rfl,_⟩:=h;rfl
 .obtain⟨n,q,x,rfl,hq,bx,x0,n0,n1,k⟩:=h;refine⟨_,dJ (gm (eR A.ok hr rfl A.mg A.kp A.bd .nil aS (bm (gF (bm (pv 0) (bm bF cf))) (bm (pv 1) cf)))),?_⟩;refine⟨_,rfl,by show 2<=sizeLine;decide,λp hp=>?_⟩;have s0:=(ay.refl H).new (o:=.tup [.int n,.int 1]) hp;have bn:Rb 3000 (n:Rat):=yZ (Bd.mono (j:=7) (by unfold Bd;omega) (by decide)) (by decide);have hx:x≠0:=λz=>by rw[z] at x0;exact absurd x0 (by decide)
  refine⟨_,rfl,p,q,(n:Rat),x,rfl,dM,s0 _ _ hq,bn,bx.mono (by decide),λz=>absurd z hx,λ_ r jy=>?_⟩;exact k r _ (s0.new jy) dM
abbrev XY:Δ2:=["row","prices","rates","most"]
def Lq:ak XY ["row","prices"] (bz (top 30)):=L2.dm
def Tu {f fR fG:Addr}{fd dR dG:FuncData}(F:cT K "best_by_wishes" "best_by_wishes" (top 30) f fd)(N:Nm mg)(R:bU K mg P w base "rate" 4 ["wish","price"] qe fR dR)(G:bU K mg P w base "greatest" 2 ["parts"] B1 fG dG):aK P w K mg base ci 5 f fd ["row","prices"] Rl:=by
 refine F.ok Lq (λvs H Q E h=>?_) (λbH A' outer s H vs Q E hr h=>?_)
 .obtain⟨r,q,ns,ys,qs,rfl,_⟩:=h;rfl
 .obtain⟨r,q,ns,ys,qs,rfl,Ow,hq,hf,cy,h6,V9,UA,dz,k⟩:=h;have FC:c3 2 _:=hr.mono (by decide);have hu:=hr.units;have Up:=xu hr;refine⟨_,fh (oa (i:=2) Lq.nd rfl (Or.inr rfl) (D8 (own:=["good","wish"]) (cap:=["prices"]) (ix:=[1]) (aJ.of (bz (top 30)).names XY) rfl (lV rfl N.enumerate Fv (bm (pv 0) cf))
    (λC fp s H=>⟨jC (n:=2) rfl (wQ (jk (i:=0) (Ψ9 ["good","wish","prices"]) rfl (Or.inl rfl)) (wQ (jk (i:=1) (Ψ9 ["good","wish","prices"]) rfl (Or.inl rfl)) gJ)),
     j9 (oJ jm (pv 1) bF (aQ _)),pv 0,eR R.ok hr rfl R.mg R.kp R.bd .nil aS (bm (pv 1) (bm (d9 cj (pv 2) (pv 0) (λ_ _=>rfl)) cf))⟩)))
   (fh (oH (gD (tu (pv 2) (λ_=>rfl))) (dJ (gm (gF cf))) oI)
   (fh (oa (i:=3) Lq.nd rfl (Or.inr rfl) (eR G.ok FC rfl G.mg G.kp G.bd .nil aS (bm (Ol (lj rfl) (by rfl) N.list boot_list (bm (CT PySem.F.plainAttrs_dict PySem.F.slot_dict_values PySem.F.type_dict_values Al (pv 2)) cf)) cf)))
   (dJ (gm (Ol d6 (by rfl) N.tuple pS (bm (E1 (own:=["good"]) (cap:=["most","rates"]) (ix:=[3,2]) (aJ.of (bz (top 30)).names XY) rfl (HA (pv 2))
    (λC fp s H=>⟨jk (i:=0) (Ψ9 ["good","most","rates"]) rfl (Or.inl rfl),j9 (oJ (CV hu) (yd Up (pv 2) (pv 0) (λ_ _=>rfl)) (pv 1) (aQ _)),pv 0⟩)) cf)))))),?_⟩
  have Fd:∀j,0<=ns.getD j 0:=λj=>by
   by_cases hj:j<ns.length
   .have:ns.getD j 0∈ns:=by simp[List.getD,Zc hj]
    exact(V9 _ this).1
   .simp[List.getD,Ym (Y4 hj)]
  refine⟨_,rfl,r,rfl,⟨_,aM.of Ow⟩,λacc cA=>?_⟩;refine wF (xs:=ns.map V.int) (λi kvs H'=>ay H H'/\rX ns qs i kvs H') ⟨(ay.refl H).acc cA,⟨rfl,⟨rfl,λj y z=>by simp at z⟩⟩⟩ (λi zs H' _ _ z=>aM.of (z.1 _ _ Ow)) ?_ ?_
  .rintro i x kvs H1 H2 hx hy ⟨s1,rt⟩ s2;obtain⟨n,hn,rfl⟩:∃n:Int,ns[i]?=some n/\x=V.int n:=by
    rw[Zl] at hx;cases e:ns[i]? with
    |none=>rw[e] at hx;cases hx
    |some n=>rw[e] at hx;exact⟨n,rfl,by simpa using hx.symm⟩
   have hi:i<ns.length:=(Zf.mp hn).1;have OM:ns.getD i 0=n:=by simp[List.getD,hn]
   have yW:=s1.trans s2;refine⟨_,rfl,_,_,rfl,rfl,_,rfl,?_⟩;by_cases h0:0<n
   .rw[decide_eq_true h0];obtain⟨aq,eq1,Je⟩:=hf.at (g:=i) (by omega);have bn:=V9 n (Zz hn);have x0:=dz i (by rw[OM];exact h0);have bx:Rb 300 (qs.getD i 0):=by
     have:qs.getD i 0∈qs:=by simp[List.getD,Zc (show i<qs.length by omega)]
     exact UA _ this
    refine cE ⟨_,rfl,_,rfl,_,rfl,_,rfl,q,_,_,_,rfl,rfl,aM.of (yW _ _ hq),eq1,n,aq,_,rfl,yW _ _ Je,bx,x0,bn.1,bn.2,λt H3 s3 ht=>?_⟩;have PK:=s3 _ _ (s2 _ _ hy);have ki:(V.int (i:Int))=kV (mB i):=rfl;have O8:=(rt.ap s2).ap s3;have tm3:Tm H3 (aL H3 acc (.dK (dw kvs (mB i) (.ref t)))):=λa xs ha=>by rw[cS (sC ha PK (by intro z;cases z))];exact ha
    refine⟨kvs,mB i,PK,ki,?_,Jp.of dM ⟨(yW.trans s3).acc cA,(O8.put (by rw[OM];exact h0) ?_).tm tm3⟩⟩
    .have:=rt.len;have:=tD ns i;rw[sz];omega
    .unfold dP;rw[OM];exact ht
   .rw[decide_eq_false h0];refine cR (Jp.of (s2 _ _ hy) ⟨yW,(rt.skip (by rw[OM];exact h0)).ap s2⟩)
  .rintro kvs H1 hy ⟨s1,rt⟩;rw[Zb] at rt;have OC:=rt.len;have lC:=tD ns ns.length;refine⟨_,rfl,_,.inr (.inr ⟨kvs,hy,rfl⟩),?_⟩;cases V2:kvs.isEmpty with
   |true =>
    have LM:kvs=[]:=List.isEmpty_iff.mp V2;subst LM;have PN:eJ ns ns.length=[]:=Q6.mp OC.symm;refine cE ⟨by show 0<=sizeLine;decide,λt ht=>k t _ (s1.new ht) ?_⟩;rw[AY Fd PN];exact dM
   |false =>
   have LM:kvs≠[]:=λz=>by rw[z] at V2;cases V2
   refine cR ?_;refine⟨_,rfl,.inr (.inr (.inl ⟨rfl,.inl ⟨_,hy⟩⟩)),acc,kvs,rfl,rfl,hy,λv hv=>?_⟩;have s2:=(ay.refl H1).new (o:=fz v acc) hv;refine⟨v,acc,kvs,rfl,dM,.inl (s2 _ _ hy),λl hl=>?_⟩;have s3:=s2.new (o:=.lst (kvs.map (·.2))) hl;have O8:=rt.ap s3;refine⟨l,_,_,rfl,dM,O8.fr,?_,?_,λa m ha hm dD=>?_⟩
   .intro z;have:=congrArg List.length z;rw[Zb,<- OC] at this;exact LM (Q6.mp this)
   .intro z hz;obtain⟨j,hj,rfl⟩:=Zd.mp hz;obtain⟨jl,jp⟩:=qQ hj;unfold dP;have bq:Rb 300 (qs.getD j 0):=by
     have:qs.getD j 0∈qs:=by simp[List.getD,Zc (show j<qs.length by omega)]
     exact UA _ this
    have bn:Bd 300 (ns.getD j 0):=by
     have:ns.getD j 0∈ns:=by simp[List.getD,Zc jl]
     have:=V9 _ this;exact Bd.mono (j:=7) (by unfold Bd;omega) (by decide)
    exact(Hk bn bq (dz j jp)).mono (by decide)
   generalize aL (aL H1 v (fz v acc)) l (.lst (kvs.map (·.2)))=H3 at s3 O8 ha ⊢;have PK:=s3 _ _ hy;refine⟨_,rfl,acc,kvs,rfl,PK,λo L4 mQ=>?_⟩;have acs:H acc=none:=cA;have bo:L4≠acc:=λz=>by rw[z,dM] at mQ;cases mQ
   have h3n:H3 L4=none:=by rw[cS bo] at mQ;exact mQ
   have Bj:=s1.trans s3;have tm4:Tm H3 (aL H3 acc (.hX o (.dK kvs))):=λa xs ha=>by rw[cS (sC ha PK (by intro z;cases z))];exact ha
   have s4:ay H (aL H3 acc (.hX o (.dK kvs))):=Bj.acc cA;have rt4:=O8.tm tm4;have ha4:=tm4 _ _ ha;have KN:(aL H3 acc (.hX o (.dK kvs))) acc=some (.hX o (.dK kvs)):=dM;generalize aL H3 acc (.hX o (.dK kvs))=H4 at s4 rt4 ha4 KN mQ ⊢;refine AR (kvs:=kvs) (λi zs H'=>ay H4 H'/\zs=cO (((eJ ns ns.length).take i).filter λj=>decide (dP ns qs j=m))) ⟨(ay.refl H4).acc mQ,rfl⟩ (λi zs H' _ _ z=>z.1 _ _ KN) ?_ ?_
   .rintro i kk vv zs H5 OB hz ⟨s5,rfl⟩;obtain⟨j,aj,hj,rfl,rfl,haj,u9⟩:=rt4.at OB;have hjm:=Zz hj;refine⟨_,rfl,_,rfl,acc,_,rfl,.inl ⟨kvs,mB j,.inr ⟨o,s5 _ _ KN⟩,rfl,u9.symm⟩,_,rfl,?_⟩;refine⟨qD (dP ns qs j),qD m,JJ (s5 _ _ haj),JJ (s5 _ _ ha4),Zr (Nat.min_le_left _ _) (Zr (Kf _) (by decide)),_,rfl,?_⟩;rw[N4];have hil:i<(eJ ns ns.length).length:=(Zf.mp hj).1;cases hd:decide (dP ns qs j=m) with
    |true =>
     refine cE ⟨_,rfl,_,hz,?_,Cn.of dM ⟨s5.acc mQ,?_⟩⟩
     .unfold cO;have:=Y8 (λj=>decide (dP ns qs j=m)) ((eJ ns ns.length).take i);have h3:((eJ ns ns.length).take i).length<=i:=List.length_take_le _ _;rw[Zb,sz];omega
     .rw[wR hj,Xm];have e1:[j].filter (λj=>decide (dP ns qs j=m))=[j]:=by simp only[List.filter,hd]
      rw[e1];unfold cO;rw[Zs];rfl
    |false =>
     refine cR (Cn.of hz ⟨s5,?_⟩);rw[wR hj,Xm];have e1:[j].filter (λj=>decide (dP ns qs j=m))=[]:=by simp only[List.filter,hd]
     rw[e1,Yg]
   .rintro zs H5 hz ⟨s5,rfl⟩;rw[OC,Yj] at hz;refine⟨L4,_,rfl,.inl ⟨bD.of hz,λt ht=>?_⟩⟩;refine k t _ ((s4.trans s5).new ht) ?_;rw[ES dz Fd hm dD];exact dM
abbrev XZ:Δ2:=["market","thing","goods"]
def JA:ak XZ ["market","thing"] (bz (top 26)):=L2.dm
def NA {f fI fW:Addr}{fd dI dW:FuncData}(F:cT K "are_prices" "are_prices" (top 26) f fd)(N:Nm mg)(Z:K5 K)(I:bU K mg P w base "is_fraction" 2 ["thing"] (spT bN) fI dI)(W:bU K mg P w base "wished" 1 ["market"] wW fW dW):aK P w K mg base ci 3 f fd ["market","thing"] Ju:=by
 refine F.ok JA (λvs H Q E h=>?_) (λbH A' outer s H vs Q E hr h=>?_)
 .obtain⟨b,p,pa,pp,pw,xa,xp,xw,am,pu,wi,v,d,rfl,_⟩:=h;rfl
 .obtain⟨b,p,pa,pp,pw,xa,xp,xw,am,pu,wi,v,d,rfl,m,hT,k⟩:=h;have rS:c3 1 _:=hr.mono (by decide);have hu:=hr.units;obtain⟨uD,Pa,si,Uf,a1,a6,w1,w6,_⟩:=m.lw;refine⟨_,fh (oH (PW.pt (pw_or (gD (fD (Gh K (pv 1) rfl N.isinstance rfl N.tuple pS Ul))) (pw_or1 (oJ sA (uQ mR (by rfl) N.len Xk (bm (pv 1) cf)) (uQ mR (by rfl) N.len Xk (bm (d9 cj (pv 0) bF (λ_ _=>rfl)) cf)) (aQ _))))) (dJ (gm sy)) oI)
   (fh (oH (gD (fD (uQ (Kj rfl) (by rfl) N.all boot_all (bm (E1 (own:=["part"]) (cap:=[]) (ix:=[]) (aJ.of (bz (top 26)).names XZ) rfl (BG (pv 1))
     (λC fp s H=>⟨jk (i:=0) (Ψ9 ["part"]) rfl (Or.inl rfl),I0,eR I.ok hr rfl I.mg I.kp I.bd .nil aS (bm (pv 0) cf)⟩)) cf)))) (dJ (gm sy)) oI)
   (fh (oa (i:=2) JA.nd rfl (Or.inr rfl) (eR W.ok rS rfl W.mg W.kp W.bd .nil aS (bm (pv 0) cf)))
   (dJ (gm (uQ (Kj rfl) (by rfl) N.all boot_all (bm (E1 (own:=["good","price"]) (cap:=["goods"]) (ix:=[2]) (aJ.of (bz (top 26)).names XZ) rfl (lV rfl N.enumerate Fv (bm (pv 1) cf))
     (λC fp s H=>⟨jC (n:=2) rfl (wQ (jk (i:=0) (Ψ9 ["good","price","goods"]) rfl (Or.inl rfl)) (wQ (jk (i:=1) (Ψ9 ["good","price","goods"]) rfl (Or.inl rfl)) gJ)),
      I0,tE (oJ xi (pv 0) (pv 2) (by with_unfolding_all rfl)) (gK jm (d9 cj (pv 1) bF (λ_ _=>rfl)) bF (aQ _)) (gK mL (d9 cj (pv 1) bF (λ_ _=>rfl)) bF (aQ _))⟩)) cf)))))),?_⟩
  obtain⟨t1,OW,e1⟩:=ist Z hT;refine⟨_,rfl,t1,_,OW,e1,_,rfl,?_⟩;have hk:=k H (ay.refl H);rcases xM hT with hn |⟨a,xs,ds,rfl,rfl,ha,hs⟩
  .rw[hn];rw[Ex hn] at hk;exact cE (cE hk)
  refine cR ?_;have cy:=hs.len;refine⟨_,rfl,a,xs,rfl,.inr (aM.of ha),_,rfl,p,_,_,_,rfl,rfl,aM.of m.hp,rfl,pa,xa,rfl,.inr (aM.of m.ha),rfl,_,rfl,?_⟩;by_cases hl:xs.length=xa.length
  case neg =>
   rw[xK hl];have e3:eC xa.length (rowsOf wi) (.tuple ds)=false:=by
    cases e:eC xa.length (rowsOf wi) (.tuple ds) with
    |false=>rfl
    |true=>exact absurd (cy.trans (lT.mp e).1) hl
   rw[e3] at hk;exact cE hk
  rw[hl,GX];refine cR ?_;refine⟨_,rfl,a,rfl,⟨_,aM.of ha⟩,λacc cA=>?_⟩;refine kh (xs:=xs) (λj zs H2=>ay H H2/\zs=(ds.take j).map λd=>V.bl (bN d)) ⟨(ay.refl H).acc cA,rfl⟩ (λj zs H2 _ _ z=>aM.of (z.1 _ _ ha)) ?_ ?_
  .rintro j x zs H2 hx hz ⟨s2,rfl⟩;obtain⟨dx,KP,tx⟩:=hs.at hx;refine mJ ⟨_,rfl,b,x,dx,rfl,tx.ap s2,λH3 s3=>?_⟩;have hj:j<ds.length:=(Zf.mp KP).1;refine⟨_,s3 _ _ hz,?_,Cn.of dM ⟨(s2.trans s3).acc cA,?_⟩⟩
   .rw[Zb,Y0,sz];omega
   .rw[wR KP,Zs];rfl
  rintro zs H2 hz ⟨s2,rfl⟩;rw[cy,Yj] at hz;refine⟨acc,_,rfl,.inl (bD.of hz),?_,_,rfl,?_⟩
  .rw[Xf];simp[Function.comp_def,gE]
  have e:(ds.map λd=>V.bl (bN d)).all tv=ds.all bN:=by rw[Xf];rfl
  rw[e];have KI:=k H2 s2;cases Jf:ds.all bN with
  |false =>
   refine cE ?_;have e3:eC xa.length (rowsOf wi) (.tuple ds)=false:=by
    cases e:eC xa.length (rowsOf wi) (.tuple ds) with
    |false=>rfl
    |true =>
     obtain⟨h1,h2⟩:=lT.mp e;have:ds.all bN=true:=Ya.mpr λd hd=>by
      obtain⟨j,hj,ej⟩:=Ye hd;have h3:=h2 j (by omega);have e2:ds.getD j .none=d:=by simp[List.getD,Zc hj,ej]
      rw[e2] at h3;cases hf:bN d with
      |true=>rfl
      |false=>rw[nU hf] at h3;cases h3
     rw[this] at Jf;cases Jf
   rw[e3] at KI;exact KI
  |true =>
  refine cR ?_;have m2:=m.ap s2;refine⟨_,rfl,b,p,pa,pp,pw,xa,xp,xw,am,pu,wi,rfl,m2,λqg H3 s3 hqg=>?_⟩;have Ue:=s2.trans s3;refine⟨_,rfl,a,rfl,⟨_,aM.of (Ue _ _ ha)⟩,λGP J8=>?_⟩;have price:∀(i:Nat) (dx:PyData),ds[i]?=some dx->∃t u:Int,dx=.tuple [.int t,.int u]/\∀wd,A6 wd dx=(if wd=true then decide (0<t) else decide (t=0)):=λi dx KP=>by
   have hf:bN dx=true:=Ya.mp Jf dx (Zz KP);obtain⟨t,u,rfl,Up,hg1⟩:=pE hf;refine⟨t,u,rfl,λwd=>?_⟩;show(bN (.tuple [.int t,.int u])&&(if wd then decide (0<t) else decide (t=0)&&decide (u=1)))=_;rw[hf,Xq];cases wd with
   |true=>rfl
   |false =>
    show(decide (t=0)&&decide (u=1))=decide (t=0);by_cases h0:t=0
    .have:u=1:=by
      subst h0;simp at hg1;omega
     rw[decide_eq_true h0,decide_eq_true this];rfl
    .rw[decide_eq_false h0];rfl
  refine AQ (xs:=xs) (λi ys H'=>ay H3 H'/\ys=(List.range i).map λj=>V.bl (A6 (has (rowsOf wi) j) (ds.getD j .none))) ⟨(ay.refl H3).acc J8,rfl⟩ (λi ys H' _ _ z=>aM.of (z.1 _ _ (Ue _ _ ha))) ?_ ?_
  .rintro i x ys H4 H5 hx hy ⟨s4,rfl⟩ s5;obtain⟨dx,KP,tx⟩:=hs.at hx;obtain⟨t,u,rfl,hpr⟩:=price i dx KP;have hi:i<xa.length:=by have:=(Zf.mp hx).1;omega
   have Ud:=s4.trans s5;have OM:ds.getD i .none=.tuple [.int t,.int u]:=by simp[List.getD,KP]
   have tx5:=(tx.ap Ue).ap Ud;cases tx5 with
   |@tup ax xs2 _ hax ZY =>
   match xs2,ZY with
   |_,.cons (.int _) (.cons (.int _) .nil) =>
   refine mJ ⟨_,rfl,_,rfl,qg,_,rfl,.inr (aM.of (Ud _ _ hqg)),rfl,uk _ _,_,rfl,?_⟩;have ein:(if false=true then !Fx (V.int (i:Int)) (E5 xa.length (rowsOf wi)) else Fx (V.int (i:Int)) (E5 xa.length (rowsOf wi)))=has (rowsOf wi) i:=by
    rw[if_neg (by decide)];have:=AE (M:=rowsOf wi) hi;rw[show(0+(i:Int))=(i:Int) by omega] at this;exact this
   rw[ein];have hy5:=s5 _ _ hy;have jz:∀c:Bool,c=A6 (has (rowsOf wi) i) (.tuple [.int t,.int u])->∃zs,H5 GP=some (.lst zs)/\zs.length<sizeLine/\Jq (dQ 2 [2] [some (.ref p),some (.ref a),some (.ref qg)]) GP (λys H'=>ay H3 H'/\ys=(List.range (i+1)).map λj=>V.bl (A6 (has (rowsOf wi) j) (ds.getD j .none)))
     (((dQ 2 [2] [some (.ref p),some (.ref a),some (.ref qg)]).set 0 (some (.int i))).set 1 (some (.ref ax))) (aL H5 GP (.lst (zs++[.bl c]))):=λc hc=>by
    refine⟨_,hy5,?_,Jq.of dM ⟨Ud.acc J8,?_⟩⟩
    .rw[Zb,Y3,sz];omega
    .rw[Y6,Zs,hc];simp only[Zi,List.map_nil];rw[OM]
   cases hh:has (rowsOf wi) i with
   |true =>
    refine cE ⟨_,rfl,ax,_,_,_,rfl,rfl,aM.of hax,rfl,_,_,rfl,rfl,?_⟩;exact jz _ (by rw[hpr,hh];rfl)
   |false =>
    refine cR ⟨_,rfl,ax,_,_,_,rfl,rfl,aM.of hax,rfl,rfl,?_⟩;refine jz _ ?_;rw[hpr,hh];by_cases h0:t=0
    .subst h0;rfl
    .rw[if_neg (by decide),decide_eq_false h0];simp[h0]
  .rintro ys H4 hy ⟨s4,rfl⟩;refine⟨GP,_,rfl,.inl (bD.of hy),?_,?_⟩
   .rw[Xf];simp[Function.comp_def,gE]
   have e4:((List.range xs.length).map λj=>V.bl (A6 (has (rowsOf wi) j) (ds.getD j .none))).all tv=eC xa.length (rowsOf wi) (.tuple ds):=by
    rw[Xf];show _=(decide (ds.length=xa.length)&&(List.range xa.length).all λj=>A6 (has (rowsOf wi) j) (ds.getD j .none));rw[decide_eq_true (by omega),Xq,hl];rfl
   rw[e4];exact k H4 (Ue.trans s4)
def MM:ak ["market","thing"] ["market","thing"] (bz (top 27)):=L2.dm
def HR {f fA Pr:Addr}{fd dA:FuncData}(F:cT K "need_prices" "need_prices" (top 27) f fd)(mgP:mg "NoPrices"=some (.ref Pr))(exP:PySem.W.excIn K Pr [.type "ValueError",.type "Exception",.type "BaseException",.type "object"] "ValueError.__new__"=true)
  (A:bU K mg P w base "are_prices" 3 ["market","thing"] Ju fA dA):aK P w K mg base ci 4 f fd ["market","thing"] (jQ (CF Pr)):=by
 refine F.ok MM (λvs H Q E h=>?_) (λbH A' outer s H vs Q E hr h=>?_)
 .obtain⟨b,p,pa,pp,pw,xa,xp,xw,am,pu,wi,v,d,rfl,_⟩:=h;rfl
 .obtain⟨b,p,pa,pp,pw,xa,xp,xw,am,pu,wi,v,d,rfl,m,hT,k0,k1⟩:=h;refine⟨_,dJ (oH (gD (fD (eR A.ok hr rfl A.mg A.kp A.bd .nil aS (bm (pv 0) (bm (pv 1) cf))))) (dJ (qm)) oI),?_⟩;refine⟨_,rfl,_,rfl,b,p,pa,pp,pw,xa,xp,xw,am,pu,wi,v,d,rfl,m,hT,λH1 s1=>⟨_,rfl,?_⟩⟩;cases hp:eC xa.length (rowsOf wi) d with
  |false=>exact cE (k0 hp H1 s1)
  |true=>exact cR (k1 hp H1 s1)
def YZ:ak Ψ8 Ψ8 (bz (top 29)):=L2.dm
def Tt {f fN fB Pr:Addr}{fd dN dB:FuncData}(F:cT K "best_goods" "best_goods" (top 29) f fd)(N:Nm mg)(Ne:bU K mg P w base "need_prices" 4 ["market","thing"] (jQ (CF Pr)) fN dN)(B:bU K mg P w base "best_by_wishes" 5 ["row","prices"] Rl fB dB) :
  aK P w K mg base ci 6 f fd Ψ8 (jQ (mW Pr)):=by
 refine F.ok YZ (λvs H Q E h=>?_) (λbH A' outer s H vs Q E hr h=>?_)
 .obtain⟨b,p,pa,pp,pw,xa,xp,xw,am,pu,wi,v,d,rfl,_⟩:=h;rfl
 .obtain⟨b,p,pa,pp,pw,xa,xp,xw,am,pu,wi,v,d,rfl,ag,k0,k1⟩:=h;have hr4:c3 4 _:=hr.mono (by decide);refine⟨_,fh (yb (eR Ne.ok hr4 rfl Ne.mg Ne.kp Ne.bd .nil aS (bm (pv 0) (bm (pv 1) cf))))
   (dJ (gm (Ol d6 (by rfl) N.tuple pS (bm (E1 (own:=["row"]) (cap:=["prices"]) (ix:=[1]) (aJ.of (bz (top 29)).names Ψ8) rfl (BG (d9 cj (pv 0) bF (λ_ _=>rfl)))
    (λC fp s H=>⟨jk (i:=0) (Ψ9 ["row","prices"]) rfl (Or.inl rfl),I0,eR B.ok hr rfl B.mg B.kp B.bd .nil aS (bm (pv 0) (bm (pv 1) cf))⟩)) cf)))),?_⟩
  refine⟨_,rfl,_,rfl,b,p,pa,pp,pw,xa,xp,xw,am,pu,wi,v,d,rfl,ag.m,ag.tr,k0,λhp H1 s1=>?_⟩;obtain⟨qs,rfl,Fc,hpq⟩:=DZ hp;have QM:=ag.ap s1;have UA:=ag.wd qs rfl;have htr:=QM.tr;obtain⟨uD,Pa,si,Uf,a1,a6,w1,w6,_⟩:=QM.m.lw;cases htr with
  |@tup a ys _ ha PJ =>
  have fr:=kC.of PJ;refine⟨_,rfl,p,_,_,_,rfl,rfl,aM.of QM.m.hp,rfl,pw,rfl,⟨_,aM.of QM.m.hw⟩,λacc cA=>?_⟩;refine kh (xs:=xw) (λi ws H'=>ay H1 H'/\pV H' ws ((aw (rowsOf wi) qs).take i)) ⟨(ay.refl H1).acc cA,.nil⟩ (λi ws H' _ _ z=>aM.of (z.1 _ _ QM.m.hw)) ?_ ?_
  .rintro i x ws H2 hx hz ⟨s2,rs⟩;obtain⟨ns,c,OG,rfl,hc⟩:=uD.at hx;have VQ:=Zz OG;have hnl:=si ns VQ;have dz:∀j,0<ns.getD j 0->0<qs.getD j 0:=λj hj=>by
    have hjl:j<ns.length:=by
     rcases Z5 j ns.length with z |z
     .exact z
     .simp[List.getD,Ym z] at hj
    refine hpq.pos j (by omega) ?_;unfold has;exact Zw.mpr ⟨ns,VQ,by simpa using hj⟩
   refine mJ ⟨_,rfl,_,rfl,c,a,ns,ys,qs,rfl,s2 _ _ hc,s2 _ _ ha,fr.ap s2,by omega,by omega,Uf ns VQ,UA,dz,λt H3 s3 ht=>?_⟩;have VD:=s3 _ _ hz;have hi:i<(rowsOf wi).length:=(Zf.mp OG).1;have eB:(aw (rowsOf wi) qs)[i]?=some ((cx ns qs).map λg:Nat=>(g:Int)):=by
    unfold aw;rw[Zl,OG];rfl
   have tl:Tm H3 (aL H3 acc (.lst (ws++[.ref t]))):=Tm.lst VD;refine⟨ws,VD,?_,Cn.of dM ⟨(s2.trans s3).acc cA,?_⟩⟩
   .rw[rs.len,Y0,sz];have:(rowsOf wi).length=xw.length:=uD.len.symm;omega
   .rw[wR eB];exact xW ((rs.keep s3.tm).keep tl) (tl _ _ (by rw[ht,vY]))
  .rintro ws H2 hz ⟨s2,rs⟩;have e:xw.length=(aw (rowsOf wi) qs).length:=by unfold aw;rw[Zb,uD.len]
   rw[e,Yj] at rs;refine⟨acc,ws,rfl,.inl ⟨bD.of hz,λl hl=>?_⟩⟩;have s3:=(ay.refl H2).new (o:=.tup ws) hl;exact k1 qs rfl Fc hpq l ws _ (s1.trans (s2.trans s3)) dM (rs.keep s3.tm)
def wY:ak ["some","found","one"] ["some"] (bz (top 69)):=L2.dm
def Nr {f fA:Addr}{fd dA:FuncData}(F:cT K "_law_sum" "_law_sum" (top 69) f fd)(A:bU K mg P w base "_law_add" 2 ["one","other"] (A1 Ph) fA dA):aK P w K mg base ci 3 f fd ["some"] B0:=by
 refine F.ok wY (λvs H Q E h=>?_) (λbH A' outer s H vs Q E hr h=>?_)
 .obtain⟨l,ys,qs,rfl,_⟩:=h;rfl
 .obtain⟨l,ys,qs,rfl,hl,hf,hb,hn,k⟩:=h;refine⟨_,fh (oa (i:=1) wY.nd rfl (Or.inl rfl) (gF (bm bF (bm bF cf))))
   (fh (mY PassesOwn.never rfl (Lx (pv 0)) (jk (i:=2) wY.nd rfl (Or.inl rfl)) (dJ (oa (i:=1) wY.nd rfl (Or.inl rfl) (eR A.ok hr rfl A.mg A.kp A.bd .nil aS (bm (pv 1) (bm (pv 2) cf))))))
   (dJ (gm (pv 1)))),?_⟩
  refine⟨by show 2<=sizeLine;decide,λp0 PN=>?_⟩;have s0:=(ay.refl H).new (o:=.tup [.int 0,.int 1]) PN;refine⟨_,rfl,l,rfl,⟨ys,bD.of (s0 _ _ hl)⟩,?_⟩;refine tS (xs:=ys) (λi σ H'=>(∃r y2,σ=[some (.ref l),some (.ref r),y2]/\H' r=some (qO (aH (qs.take i))))/\ay H H') ⟨⟨p0,_,rfl,dM⟩,s0⟩ (λj σ H' _ q=>bD.of (q.2 _ _ hl)) ?_ ?_
  .rintro i y σ H1 hy ⟨⟨r,y2,rfl,rS⟩,s1⟩;obtain⟨a,rfl,ha⟩:=(hf.ap s1).2 i y hy;have hi:i<qs.length:=by have:=(Zf.mp hy).1;rw[hf.1] at this;exact this
   have eq:qs[i]?=some (qs.getD i 0):=by simp[List.getD,Zc hi]
   have b1:Rb 3000 (aH (qs.take i)):=(qK hb i).mono (by omega);have b2:Rb 3000 (qs.getD i 0):=(hb _ (Zz eq)).mono (by decide);refine⟨_,rfl,_,rfl,r,a,_,_,rfl,rS,ha,b1,b2,λr2 FC=>?_⟩;exact⟨⟨r2,_,rfl,by rw[wR eq,kX];exact dM⟩,s1.new FC⟩
  .rintro σ H1 ⟨⟨r,y2,rfl,rS⟩,s1⟩;rw[List.take_of_length_le (by rw[hf.1];exact Ze _)] at rS;exact⟨_,rfl,k r H1 s1 rS⟩
end
def Em {α : Type}{L:List α}(nd:L.Nodup){i:Nat}{r:α}(h:L[i]?=some r):r∉L.take i:=by
 intro z;obtain⟨j,hj,e⟩:=Qb.mp z;rw[Y0] at hj;obtain⟨hi,ei⟩:=Zf.mp h;rw[List.getElem_take,<- ei] at e;have:=(List.getElem_inj nd).mp e;omega
def vH {kvs:List (List bJ×V)}{k:List bJ}(h:k∉kvs.map (·.1)):d4 kvs k=none:=by
 cases e:d4 kvs k with
 |none=>rfl
 |some v=>exact absurd (xL e) h
def TN:∀{rows:List (Int×Γ3)},(rows.map (·.2)).Nodup->∀{i:Nat}{k:List bJ}{v:V},(lM rows)[i]?=some (k,v)->∃row,rows[i]?=some row/\k=row.2.map my/\v=.int row.1/\d4 (lM rows) k=some v:=by
 intro rows nd i k v h;have h1:∃row,rows[i]?=some row/\k=row.2.map my/\v=.int row.1:=by
  unfold lM at h;rw[Zl] at h;cases e:rows[i]? with
  |none=>rw[e] at h;cases h
  |some row =>
   rw[e] at h;simp only[Y5,Option.some.injEq,Prod.mk.injEq] at h;exact⟨row,rfl,h.1.symm,h.2.symm⟩
 obtain⟨row,e1,e2,e3⟩:=h1;refine⟨row,e1,e2,e3,?_⟩
 clear h
 induction rows generalizing i with
 |nil=>simp at e1
 |cons p r ih =>
  rw[Zi,Yd] at nd;cases i with
  |zero =>
   have e':p=row:=by simpa using e1
   subst e';show d4 ((p.2.map my,V.int p.1)::lM r) k=some v;rw[e3];exact fZ e2.symm
  |succ i =>
   have e':r[i]?=some row:=by simpa using e1
   have hm:row.2∈r.map (·.2):=Zd.mpr ⟨row,Zz e',rfl⟩;show d4 ((p.2.map my,V.int p.1)::lM r) k=some v;rw[ga (λz=>nd.1 (by rw[e2] at z;rw[tP z];exact hm))];exact ih nd.2 e'
def u4 (rows:List (Int×Γ3))(m:Int):Γ1:=(rows.filter λx=>decide (x.1=m)).map (·.2)
def qN {rows:List (Int×Γ3)}{m:Int}{r:Γ3}:r∈u4 rows m↔∃row∈rows,row.1=m/\row.2=r:=by
 unfold u4;rw[Zd];constructor
 .rintro⟨row,h,rfl⟩;obtain⟨h1,h2⟩:=Zo.mp h;exact⟨row,h1,by simpa using h2,rfl⟩
 .rintro⟨row,h1,h2,rfl⟩;exact⟨row,Zo.mpr ⟨h1,by simpa using h2⟩,rfl⟩
def o8 {rows:List (Int×Γ3)}{m:Int}{i:Nat}{row:Int×Γ3}(h:rows[i]?=some row):u4 (rows.take (i+1)) m=u4 (rows.take i) m++if decide (row.1=m)=true then [row.2] else []:=by
 unfold u4;rw[wR h,Xm,TR,Zs]
 congr 1
 split<;>simp_all
def DE {H:Hp}{zs:List V}{M:Γ1}(h:pU H zs M){i:Nat}{b:Addr}(e:zs[i]?=some (.ref b)):∃r,M[i]?=some r/\H b=some (.tup (r.map V.int))/\((M.map λr=>r.map V.int).getD i []).length=r.length:=by
 obtain⟨a,r,e1,e2,e3⟩:=h.2 i _ e;injection e2 with e2
 subst e2;refine⟨r,e1,e3,?_⟩;simp[List.getD,Zl,e1]
def EC {M:Γ1}{r:Γ3}(h:r∈M):∃j,j<M.length/\((M.map λr=>r.map V.int).getD j []).length=r.length:=by
 obtain⟨j,hj,rfl⟩:=Qb.mp h;exact⟨j,hj,by simp[List.getD,Zl,Zc hj]⟩
section
variable {P:Program}{w:World}{K:Θ1}{mg:Θ3}{base:Heap}
abbrev NGA:Δ2:=["market","prices","best","money","purses"]
def Gd:ak NGA Ψ8 (bz (top 37)):=L2.dm
def Tr {f fB fI fC fT fA fW Pr:Addr}{fd dB dI dC dT dA dW:FuncData}(F:cT K "goods_above" "goods_above" (top 37) f fd)(B:bU K mg P w base "best_goods" 6 Ψ8 (jQ (mW Pr)) fB dB)(I:bU K mg P w base "in_coins" 5 Ψ8 xT fI dI)
  (Co:bU K mg P w base "coins_of" 1 ["coins","some"] Rk fC dC) (T:bU K mg P w base "takers_by_best" 1 ["best","goods"] Rh fT dT) (A:bU K mg P w base "all_sets" 1 ["members"] CJ fA dA) (W:bU K mg P w base "wished" 1 ["market"] wW fW dW):aK P w K mg base ci 7 f fd Ψ8 Rm:=by
 refine F.ok Gd (λvs H Q E h=>?_) (λbH A' outer s H vs Q E hr h=>?_)
 .obtain⟨b,p,pa,pp,pw,q,xa,xp,xw,ys,am,pu,wi,qs,rfl,_⟩:=h;rfl
 .obtain⟨b,p,pa,pp,pw,q,xa,xp,xw,ys,am,pu,wi,qs,rfl,mp,k⟩:=h;have m:=mp.m;have pr:=mp.pr;have Fc:=mp.l;have rS:c3 1 _:=hr.mono (by decide);have VI:c3 5 _:=hr.mono (by decide);obtain⟨uD,Pa,si,Uf,a1,a6,w1,w6,wp⟩:=m.lw;refine⟨_,fh (oa (i:=2) Gd.nd rfl (Or.inr rfl) (eR B.ok hr rfl B.mg B.kp B.bd .nil aS (bm (pv 0) (bm (pv 1) cf))))
   (fh (kO (eR I.ok VI rfl I.mg I.kp I.bd .nil aS (bm (pv 0) (bm (pv 1) cf))) (jC rfl (wQ (jk (i:=3) Gd.nd rfl (Or.inr rfl)) (wQ (jk (i:=4) Gd.nd rfl (Or.inr rfl)) gJ))))
   (dJ (gm (Ab (own:=["some"]) (cap:=["best","money","purses"]) (ix:=[2,3,4]) hr.MD (aJ.of (bz (top 37)).names NGA) rfl (Lx (eR A.ok rS rfl A.mg A.kp A.bd .nil aS (bm (eR W.ok rS rfl W.mg W.kp W.bd .nil aS (bm (pv 0) cf)) cf)))
    (λC fp s H=>⟨jk (i:=0) (Ψ9 ["some","best","money","purses"]) rfl (Or.inl rfl),I0,pv 0,
     cY vm (eR Co.ok rS rfl Co.mg Co.kp Co.bd .nil aS (bm (pv 2) (bm (pv 0) cf))) (eR Co.ok rS rfl Co.mg Co.kp Co.bd .nil aS (bm (pv 3) (bm (eR T.ok rS rfl T.mg T.kp T.bd .nil aS (bm (pv 1) (bm (pv 0) cf))) cf)))⟩))))),?_⟩
  have hM6:(rowsOf wi).length<=6:=by rw[<- uD.len];exact w6
  have hr6:∀r∈aw (rowsOf wi) qs,r.length<=6:=λr jy=>by
   unfold aw at jy;obtain⟨row,fM,rfl⟩:=Zd.mp jy;rw[Zb];have h1:=si row fM;have h2:(cx row qs).length<=row.length:=by unfold cx;exact Zr (Y8 _ _) (by simp)
   omega
  have hPr:eC xa.length (rowsOf wi) (.tuple (qs.map qD))=true:=B9.mpr ⟨Fc,mp.ok⟩;have ag:BW b H p pa pp pw xa xp xw am pu wi (.ref q) (.tuple (qs.map qD)):=⟨m,.tup pr.hq pr.tr,λA2 e z hz=>by
   injection e with e
   have:A2=qs:=(List.map_inj_right (λa b h=>by have h1:=congrArg Oj h;rw[iB,iB] at h1;exact h1)).mp e.symm;rw[this] at hz;exact(pr.bd z hz).mono (by decide)⟩
  refine⟨_,rfl,_,rfl,b,p,pa,pp,pw,xa,xp,xw,am,pu,wi,.ref q,_,rfl,ag,λhn=>by(rw[hPr] at hn;cases hn),λA2 e _ _ rb xb H1 s1 oN ls1=>?_⟩;injection e with e
  have e':qs=A2:=(List.map_inj_right (λa b h=>by have h1:=congrArg Oj h;rw[iB,iB] at h1;exact h1)).mp e;subst e';refine⟨_,rfl,_,rfl,b,p,pa,pp,pw,q,xa,xp,xw,ys,am,pu,wi,qs,rfl,m.ap s1,pr.ap s1,Fc,λr2 rm rp c ms ps H2 s2 hc hms za FC hrm hrp=>?_⟩;refine⟨r2,_,rfl,aM.of FC,rfl,_,_,rfl,_,_,rfl,rfl,?_⟩;have yW:=s1.trans s2;refine⟨_,rfl,b,p,pa,pp,pw,xa,xp,xw,am,pu,wi,rfl,m.ap yW,λqw H3 s3 hw3=>?_⟩;rw[kW] at hw3;have Fa:(aD xa.length (rowsOf wi)).length<=6:=by
   unfold aD;rw[Zb];exact Zr (iV _ _) a6
  have hwz:∀x∈aD xa.length (rowsOf wi),0<=x/\x.toNat<xa.length:=λx hx=>by
   unfold aD at hx;obtain⟨j,hj,rfl⟩:=Zd.mp hx;have:=(fX hj).1;exact⟨by omega,by omega⟩
  refine⟨qw,aD xa.length (rowsOf wi),rfl,hw3,Fa,λqse xs H4 s4 e4 Ω=>?_⟩;have s24:=s3.trans s4;have s04:=yW.trans s24;have hnd:=iK (Op xa.length (rowsOf wi));have ahE:(aO (aD xa.length (rowsOf wi))).length<=64:=by
   rw[Om];exact Zr (Xn (by decide) Fa) (by decide)
  have hMl:(aw (rowsOf wi) qs).length=(rowsOf wi).length:=by unfold aw;rw[Zb]
  have lC:(pP pu).length=(rowsOf wi).length:=by
   have h1:=(m.fp).1;have h2:=uD.len;omega
  have OA:(gn (am.map aU) qs).length=xa.length:=by unfold gn;rw[Zb,Y3,Fc]
  refine⟨qse,rfl,⟨_,bD.of e4⟩,λacc cA=>?_⟩;refine ut (xs:=xs) (λi kvs H'=>ay H4 H'/\∃rows:List (Int×Γ3),kvs=lM rows/\rows.map (·.2)=(aO (aD xa.length (rowsOf wi))).take i/\∀x∈rows,((x.1:Int):Rat)=(c:Rat)*aV (am.map aU) (pP pu) qs (rowsOf wi) (aN x.2))
   ⟨(ay.refl H4).acc cA,[],rfl,rfl,λx hx=>nomatch hx⟩ (λi zs H' _ _ z=>bD.of (z.1 _ _ e4)) ?_ ?_
  .rintro i x kvs H5 hx hy ⟨s5,rows,rfl,zt,u9⟩;obtain⟨a,S,UC,rfl,ha⟩:=Ω.2 i x hx;have hSm:=Zz UC;have hSs:=cK.mp hSm;have hS1:∀x∈S,0<=x/\x.toNat<xa.length:=λx hx=>hwz x (hSs.subset hx)
   have hS6:(aN S).length<=6:=by unfold aN;rw[Zb];exact Zr hSs.length_le Fa
   have Fd:∀x∈S,0<=x:=λx hx=>(hS1 x hx).1
   have hSx:∀g∈aN S,g<xa.length:=λg hg=>by
    unfold aN at hg;obtain⟨x,hx,rfl⟩:=Zd.mp hg;exact(hS1 x hx).2
   have Ud:=s5;have FW:ay H2 H5:=s24.trans s5;have ha5:H5 a=some (.tup (cO (aN S))):=by rw[<- NC Fd];exact s5 _ _ ha
   refine mJ ⟨_,rfl,_,rfl,_,rfl,rm,a,ms,aN S,rfl,FW _ _ hrm,ha5,hS6,λg hg=>by rw[hms.1,OA];exact hSx g hg,λH6 s6=>?_⟩;refine⟨_,rfl,_,rfl,_,rfl,rb,a,xb,aw (rowsOf wi) qs,aN S,rfl,s6 _ _ (FW _ _ (s2 _ _ oN)),ls1.keep ((s2.trans FW).trans s6).tm,s6 _ _ ha5,by rw[hMl];exact hM6,hr6,λrt H7 s7 ht7=>?_⟩;rw[hMl] at ht7;have RV:H7 rt=some (.tup (cO (hV (rowsOf wi) qs (aN S)))):=ht7;generalize Jd:hV (rowsOf wi) qs (aN S)=tk at RV;have htl:∀i∈tk,i<(rowsOf wi).length:=λi hi=>by rw[<- Jd] at hi;exact nM hi
   have htn:tk.length<=6:=by rw[<- Jd];exact Zr (lv _ _ _) hM6
   refine⟨rp,rt,ps,tk,rfl,s7 _ _ (s6 _ _ (FW _ _ hrp)),RV,htn,λg hg=>by rw[za.1,lC];exact htl g hg,λH8 s8=>?_⟩;have Vl:=(s6.trans s7).trans s8;have D':S.map my∉(lM rows).map (·.1):=λz=>by
    unfold lM at z;rw[Zm] at z;obtain⟨row,fM,e⟩:=Zd.mp z;have e2:row.2=S:=tP e;have:row.2∈rows.map (·.2):=Zd.mpr ⟨row,fM,rfl⟩;rw[zt,e2] at this;exact Em hnd UC this
   have hi:i<(aO (aD xa.length (rowsOf wi))).length:=(Zf.mp UC).1;have KA:rows.length=i:=by
    have:=congrArg List.length zt;rw[Zb,Y0] at this;omega
   refine⟨_,_,rfl,rfl,lM rows,S.map my,a,Vl _ _ hy,rfl,?_,?_,K9.of dM ⟨(s5.trans Vl).acc cA,rows++[(((aN S).map λg=>ms.getD g 0).sum-(tk.map λi=>ps.getD i 0).sum,S)],?_,?_,?_⟩⟩
   .rw[Dl];exact Vl _ _ (s5 _ _ ha)
   .unfold lM;rw[Zb,KA,sz];omega
   .rw[nw _ (vH D')];unfold lM;rw[Zs];rfl
   .rw[Zs,zt,wR UC];rfl
   .intro x hx;rcases Z0.mp hx with h |h
    .exact u9 x h
    .rw[Z2.mp h];show(((((aN S).map λg=>ms.getD g 0).sum-(tk.map λi=>ps.getD i 0).sum:Int)):Rat)=_;have h1:=kg hms (ix:=aN S) (λg hg=>by rw[OA];exact hSx g hg);have h2:=kg za (ix:=tk) (λi hi=>by rw[lC];exact htl i hi);rw[Rat.intCast_sub,h1,h2];unfold aV rD fQ;rw[Jd,Rat.sub_eq_add_neg,Rat.sub_eq_add_neg,Rat.mul_add,Rat.mul_neg]
  .rintro kvs H5 hy ⟨s5,rows,rfl,zt,u9⟩;rw[Ω.1,Yj] at zt;exact k acc c rows H5 (s04.trans s5) (s04.free cA) ⟨hc,zt,u9⟩ hy
abbrev NPG:Δ2:=["market","prices","above"]
def Rq:ak NPG Ψ8 (bz (top 38)):=L2.dm
def Tp {f fA De:Addr}{fd dA:FuncData}(F:cT K "paid_goods" "paid_goods" (top 38) f fd)(N:Nm mg)(mgD:mg "Dear"=some (.ref De))(exD:PySem.W.excIn K De [.type "ValueError",.type "Exception",.type "BaseException",.type "object"] "ValueError.__new__"=true)
  (A:bU K mg P w base "goods_above" 7 Ψ8 Rm fA dA):aK P w K mg base ci 8 f fd Ψ8 (jQ (Lk De)):=by
 refine F.ok Rq (λvs H Q E h=>?_) (λbH A' outer s H vs Q E hr h=>?_)
 .obtain⟨b,p,pa,pp,pw,q,xa,xp,xw,ys,am,pu,wi,qs,rfl,_⟩:=h;rfl
 .obtain⟨b,p,pa,pp,pw,q,xa,xp,xw,ys,am,pu,wi,qs,rfl,mp,k⟩:=h;have Up:=xu hr;refine⟨_,fh (oa (i:=2) Rq.nd rfl (Or.inr rfl) (eR A.ok hr rfl A.mg A.kp A.bd .nil aS (bm (pv 0) (bm (pv 1) cf))))
   (fh (oH (oJ jm (uQ (li rfl) (by rfl) N.max boot_max (bm (CT PySem.F.plainAttrs_dict PySem.F.slot_dict_values PySem.F.type_dict_values v4 (pv 2)) cf)) bF (aQ _)) (dJ (qm)) oI)
   (dJ (gm (Aa K rfl (by rfl) N.max (by rfl) N.len (bm (E1 (own:=["some"]) (cap:=["above"]) (ix:=[2]) (aJ.of (bz (top 38)).names NPG) rfl (D5 (pv 2))
    (λC fp s H=>⟨jk (i:=0) (Ψ9 ["some","above"]) rfl (Or.inl rfl),j9 (oJ mL (yd Up (pv 1) (pv 0) (λ_ _=>rfl)) bF (aQ _)),pv 0⟩)) cf))))),?_⟩
  refine⟨_,rfl,_,rfl,b,p,pa,pp,pw,q,xa,xp,xw,ys,am,pu,wi,qs,rfl,mp,λd c rows H1 s1 hd0 ab V7=>?_⟩;obtain⟨k0,k1⟩:=k c rows ab;have nd:(rows.map (·.2)).Nodup:=by rw[ab.2.1];exact iK (Op xa.length (rowsOf wi))
  have KA:rows.length=(aO (aD xa.length (rowsOf wi))).length:=by rw[<- ab.2.1,Zb]
  have Fa:(aD xa.length (rowsOf wi)).length<=6:=by
   unfold aD;rw[Zb];exact Zr (iV _ _) mp.m.lw.2.2.2.2.2.1
  rw[Om] at KA;have h64:rows.length<=64:=by rw[KA];exact Zr (Xn (by decide) Fa) (by decide)
  have bo:rows≠[]:=λz=>by
   rw[z] at KA;exact absurd KA.symm (Xt (Nat.pow_pos (by decide)))
  refine⟨_,rfl,.inr (.inr (.inl ⟨rfl,.inr ⟨_,V7⟩⟩)),d,lM rows,rfl,rfl,V7,λv hv=>?_⟩;have s2:=(ay.refl H1).new (o:=fz v d) hv;have FG:=s2 _ _ V7;have Vm:=s1.trans s2;refine⟨v,d,lM rows,rows.map (·.1),rfl,dM,.inl FG,by unfold lM;rw[Zm,Zm];rfl,λz=>bo (Xy.mp z),λmx hm dD=>?_⟩;generalize aL H1 v (fz v d)=H2 at s2 Vm FG ⊢;refine⟨_,_,rfl,rfl,_,rfl,?_⟩;obtain⟨Lr,TK,er0⟩:=Zd.mp hm;by_cases h0:0<mx
  .rw[decide_eq_true h0];exact cE (k0 ⟨Lr,TK,by rw[er0];exact h0⟩ H2 Vm)
  rw[decide_eq_false h0];refine cR ?_;have Bs:∀x∈rows,x.1<=0:=λx hx=>by have:=dD _ (Zd.mpr ⟨x,hx,rfl⟩);omega
  refine⟨_,rfl,d,lM rows,rfl,FG,λo acc cA=>?_⟩;have KN:(aL H2 d (.hX o (.dT (lM rows)))) d=some (.hX o (.dT (lM rows))):=dM;have s4:ay H (aL H2 d (.hX o (.dT (lM rows)))):=Vm.acc hd0;generalize aL H2 d (.hX o (.dT (lM rows)))=H4 at KN s4 cA ⊢;have P0:(lM rows).length=rows.length:=by unfold lM;rw[Zb]
  refine wI (kvs:=lM rows) (λi zs H'=>ay H4 H'/\pU H' zs (u4 (rows.take i) 0)/\zs.length<=i) ⟨(ay.refl H4).acc cA,pU.nil,Ze _⟩ (λi zs H' _ _ z=>z.1 _ _ KN) ?_ ?_
  .rintro i kk vv b zs H5 OB hb hz ⟨s5,tz,VA⟩;obtain⟨row,fM,rfl,rfl,u9⟩:=TN nd OB;have hi:i<rows.length:=(Zf.mp fM).1;refine⟨_,rfl,_,rfl,d,_,rfl,.inr ⟨lM rows,_,b,.inr ⟨o,s5 _ _ KN⟩,rfl,hb,u9.symm⟩,rfl,_,rfl,?_⟩;have ev:decide (V.int row.1=V.int 0)=decide (row.1=0):=by rw[Yc];simp
   rw[ev];rw[Dl] at hb;cases hc:decide (row.1=0) with
   |true =>
    refine cE ⟨_,rfl,zs,hz,by rw[sz];omega,Cn.of dM ⟨s5.acc cA,?_,by rw[Zu];show zs.length+1<=i+1;omega⟩⟩;rw[o8 fM,hc,if_pos rfl];exact(tz.app hb).tm (Tm.lst hz)
   |false =>
    refine cR (Cn.of hz ⟨s5,?_,by omega⟩);rw[o8 fM,hc,if_neg (by decide),Yg];exact tz
  .rintro zs H5 hz ⟨s5,tz,VA⟩;rw[P0,Yj] at tz;have N1:u4 rows 0≠[]:=λz=>by
    have hn:([]:Γ3)∈rows.map (·.2):=by rw[ab.2.1];exact cK.mpr (List.nil_sublist _)
    obtain⟨x,hx,ex⟩:=Zd.mp hn;have hv:=ab.2.2 x hx;rw[ex] at hv;have:aV (am.map aU) (pP pu) qs (rowsOf wi) (aN [])=0:=lh;rw[this,Xg] at hv;have h00:x.1=0:=by simpa using hv
    have:=qN.mpr ⟨x,hx,h00,rfl⟩;rw[z] at this;cases this
   refine⟨acc,zs,_,rfl,bD.of hz,λz=>N1 (Xy.mp z),tz.ks,λi b hb hi jn=>?_⟩;obtain⟨r,rS,Uz,cy⟩:=DE tz hb;obtain⟨row,fM,e1,e2⟩:=qN.mp (Zz rS);subst e2;refine k1 Bs b row H5 (s4.trans s5) fM e1 (λx hx ex=>?_) Uz;obtain⟨j,hj,hjl⟩:=EC (qN.mpr ⟨x,hx,ex,rfl⟩);have:=(jn j (by rw[Zb];exact hj)).1;omega
end
end BA
namespace MI
open PySem L2 KG EX KM
section
variable {K:Θ1}{QX:Addr->aF->Prop}{E:XK}{X:Cx}{w:Wd}{O:aF}{H:Hp}
structure FN (w:Wd)(O:aF)(H:Hp)(w':Wd)(O':aF)(H':Hp):Prop where
 bs:∃t,w'.dg=w.dg++t
 bA:∃t,w'.bA=w.bA++t
 ap:ay (G w O H) (G w' O' H')
def FN.refl (w:Wd)(O:aF)(H:Hp):FN w O H w O H:=⟨⟨[],by simp⟩,⟨[],by simp⟩,ay.refl _⟩
def FN.ex {w w1 w2:Wd}{O O1 O2:aF}{H H1 H2:Hp}(a:FN w O H w1 O1 H1)(b:iO w1 O1 H1 w2 O2 H2):FN w O H w2 O2 H2:=by
 obtain⟨t,ht⟩:=a.bA;obtain⟨u,hu⟩:=b.bA;obtain⟨t2,Ky⟩:=a.bs;obtain⟨u2,VH⟩:=b.bs;exact⟨⟨t2++u2,by rw[VH,Ky,Ys]⟩,⟨t++u,by rw[hu,ht,Ys]⟩,a.ap.trans b.ap⟩
def vF (K:Θ1)(J:It)(w:Wd)(O:aF)(H:Hp)(items:List AV):Prop:=∀O2 w2 H2,FN w O H w2 O2 H2->az K w2 O2 H2->∀i,(∀x,items[i]?=some x->J.go i H2/\∀v H3,J.uA i H2 v H3->H3=H2/\jd K w2 (G w2 O2 H2) v x)/\(items.length<=i->J.stop i H2)
def Lh (K:Θ1)(QX:Addr->aF->Prop)(E:XK)(M:MA):TI:=λσ H R=>∃w O sl Q0,jO K QX E w O H σ sl/\M sl O Q0/\∀items O' w' H' J,Q0 items O'->bW w O H w' O' H'->az K w' O' H'->vF K J w' O' H' items->R J H'
def wv {a:Addr}{ds:Ξ1}(t:ck (G w O H) (.ref a) (.list ds)):vF K (zk K0 a) w O H (ds.map .im):=λO2 w2 H2 e r i=>by
 cases ck.ap e.ap t with |lst h1 t1=>?_
 rename_i xs;have hh:=(eU h1).1;refine⟨λx hx=>?_,λhl=>⟨xs,bD.of hh,by rw[Zb] at hl;rw[t1.len];exact hl⟩⟩;rw[Zl] at hx;cases hd:ds[i]? with
 |none=>rw[hd] at hx;cases hx
 |some d =>
  rw[hd] at hx;cases Option.some.inj hx;obtain⟨v,hv,tv⟩:=t1.get hd;refine⟨⟨xs,v,bD.of hh,hv⟩,?_⟩;rintro v' H3 ⟨rfl,hy⟩;have:=hy xs (bD.of hh);rw[hv] at this;cases Option.some.inj this;exact⟨rfl,tv⟩
def wu {a:Addr}{ds:Ξ1}(t:ck (G w O H) (.ref a) (.tuple ds)):vF K (zj K0 a) w O H (ds.map .im):=λO2 w2 H2 e r i=>by
 cases ck.ap e.ap t with |tup h1 t1=>?_
 rename_i xs;have hh:=(eU h1).1;refine⟨λx hx=>?_,λhl=>⟨xs,aM.of hh,by rw[Zb] at hl;rw[t1.len];exact hl⟩⟩;rw[Zl] at hx;cases hd:ds[i]? with
 |none=>rw[hd] at hx;cases hx
 |some d =>
  rw[hd] at hx;cases Option.some.inj hx;obtain⟨v,hv,tv⟩:=t1.get hd;refine⟨⟨xs,v,aM.of hh,hv⟩,?_⟩;rintro v' H3 ⟨rfl,hy⟩;have:=hy xs (aM.of hh);rw[hv] at this;cases Option.some.inj this;exact⟨rfl,tv⟩
def Ij {tg e:Expr}{M:ME}(he:PE X e (bO K QX E M)):PI X tg e (Lh K QX E (cz M)):=PI.imp (CQ he) λσ H R ⟨w,O,sl,Q0,c,m,q⟩=>⟨w,O,sl,_,c,m,λx O1 v w1 H1 h1 e1 r1 a1=>by
 split at h1
 .rename_i ds hd;unfold ox at hd;split at hd
  .cases Option.some.inj hd
   obtain⟨a,xs,rfl,hx,hs⟩:=fU a1;exact .inl ⟨a,rfl,⟨xs,bD.of hx⟩,q _ O1 w1 H1 _ h1 e1 r1 (wv a1)⟩
  .cases Option.some.inj hd
   obtain⟨a,xs,rfl,hx,hs⟩:=eF a1;exact .inr ⟨a,rfl,⟨xs,aM.of hx⟩,q _ O1 w1 H1 _ h1 e1 r1 (wu a1)⟩
  .cases hd
 .exact h1.elim⟩
structure CI (k:Nat)(C:MT)(M:ME)(sl:fK)(ds:Ξ1)(Z:Ξ1->aF->Prop)(items:List AV)(O1:aF):Prop where
 fr:sl[k]?=some none
 ex:∃Jv:Nat->Ξ1->aF->Prop,Jv 0 ds O1/\(∀j es O',Jv j es O'->es.length<1000000) /\
  (∀j y es O',items[j]?=some y->Jv j es O'->C (sl.set k (some y)) O' λc O3=>(c=true->M (sl.set k (some y)) O3 λz O4=>match z with
   |.im d=>Jv (j+1) (es++[d]) O4
   |_=>False)/\(c=false->Jv (j+1) es O3))/\∀es O',Jv items.length es O'->Z es O'
structure CB2 (n:Nat)(ix:List Nat)(mg:MG)(C1:MT)(wT:MA)(k:Nat)(C2:MT)(M:ME)(sl:fK)(Q:AV->aF->Prop)(items:List AV)(O1:aF):Prop where
 ex:∃Iv:Nat->Ξ1->aF->Prop,Iv 0 [] O1 /\
  (∀i x ds O',items[i]?=some x->Iv i ds O'->mg x (cV n ix sl) O' λb9 O2=>C1 b9 O2 λc O3=>(c=true->wT b9 O3 (CI k C2 M b9 ds (Iv (i+1))))/\(c=false->Iv (i+1) ds O3))/\∀ds O',Iv items.length ds O'->Q (.im (.list ds)) O'
def vo (n:Nat)(ix:List Nat)(it:MA)(mg:MG)(C1:MT)(wT:MA)(k:Nat)(C2:MT)(M:ME):ME:=λsl O Q=>it sl O (CB2 n ix mg C1 wT k C2 M sl Q)
def wj {n k:Nat}{ix:List Nat}{it wT:MA}{mg:MG}{C1 C2:MT}{M:ME}(hk:Keeps n mg):∀σ H Q,bO K QX E (vo n ix it mg C1 wT k C2 M) σ H Q->CA (uB K QX E it) (n8 K QX E mg) (lm K QX E C1) (Lh K QX E wT) (n8 K QX E (bi k)) (lm K QX E C2) (bO K QX E M) n ix σ H Q :=
 λσ H Q ⟨w,O,sl,Q0,c,m,q⟩=>⟨w,O,sl,_,c,m,λitems O1 w1 H1 J h1 e1 r1 Bp acc cA=>by
  obtain⟨Iv,h0,hs,he⟩:=h1;have hC:=c.ex e1.ex r1;obtain⟨r0,e0⟩:=hC.ro.hide (o:=.lst []) cA (λxs z=>by cases z);refine⟨λi m aB H'=>m=items.length-i/\i<=items.length/\∃w' O' ys zs,az K w' O' H'/\w'.bG=(acc,.lst ys)::w1.bG/\iO w1 O1 H1 w' O' H'/\bt K w' (G w' O' H') aB (cV n ix sl)/\aI (G w' O' H') ys zs/\Iv i zs O',
   ⟨items.length,by simp,Z7 _,_,O1,[],[],r0,rfl,e0,(hC.so.UK n ix).ex e0,.nil,h0⟩,?_⟩
  rintro i m aB H' ⟨rfl,Bs,w',O',ys,zs,r',rV,e',s',a',hv⟩;obtain⟨ig,ie⟩:=Bp O' w' H' e' r' i;rcases Z5 i items.length with y |y
  .obtain⟨FE,Fy⟩:=ig _ (Zc y);refine .inr ⟨FE,λcv H2=>∃w' O' ys zs,az K w' O' H2/\w'.bG=(acc,.lst ys)::w1.bG/\iO w1 O1 H1 w' O' H2/\bt K w' (G w' O' H2) cv (cV n ix sl)/\aI (G w' O' H2) ys zs/\Iv (i+1) zs O',λcv H2 z=>⟨items.length-(i+1),by omega,rfl,y,z⟩,λv H3 Fz=>?_⟩;obtain⟨e3,r3,a3⟩:=Fy v H3 Fz;have zx:∀{w2:Wd}{O2:aF}{H2:Hp},iO w1 O1 H1 w2 O2 H2->Zx K QX E w2 O2 H2:=λe k K4 Km K8 qx K1 Ks=>hC.zx k K4 Km K8 qx (e.trans K1) Ks
   have K3:jO K QX E w' O' H3 aB (cV n ix sl):=⟨r3,s'.ex e3.ex,zx (e'.trans e3.ex)⟩;refine⟨w',O',_,_,_,K3,a3,hk _ _ _ _ (hs i _ zs O' (Zc y) hv),λom O4 w4 H4 T3 h4 c4 e4=>⟨w4,O4,om,_,c4,h4.1,λb O5 w5 H5 h5 e5 r5=>?_⟩⟩;have pT:=e3.trans (e4.trans e5);cases b with
   |false=>exact cR ⟨w5,O5,ys,zs,r5,pT.bG.trans rV,e'.trans pT.ex,bt.sub (c4.so.ex e5.ex) h4.2,aI.ap pT.ex.ap a',h5.2 rfl⟩
   |true =>
    refine cE ⟨w5,O5,om,_,c4.ex e5.ex r5,h5.1 rfl,λgI O6 w6 H6 J2 h6 e6 r6 it6=>?_⟩;obtain⟨Jf,Jv,j0,jl,js,je⟩:=h6;have By:=pT.trans e6;refine⟨λj m aB H'=>m=gI.length-j/\j<=gI.length/\∃w' O' ys zs,az K w' O' H'/\w'.bG=(acc,.lst ys)::w1.bG/\iO w1 O1 H1 w' O' H'/\FN w6 O6 H6 w' O' H'/\bt K w' (G w' O' H') aB om/\aI (G w' O' H') ys zs/\Jv j zs O',
     ⟨gI.length,by simp,Z7 _,w6,O6,ys,zs,r6,By.bG.trans rV,e'.trans By.ex,FN.refl _ _ _,(c4.so.ex e5.ex).ex e6.ex,aI.ap By.ex.ap a',j0⟩,?_⟩
    rintro j m yU H7 ⟨rfl,ahG,w7,O7,Fs,Ob,r7,OD,e7,x7,s7,a7,VG⟩;obtain⟨ig7,ie7⟩:=it6 O7 w7 H7 x7 r7 j;rcases Z5 j gI.length with y7 |y7
    .obtain⟨R',ZW⟩:=ig7 _ (Zc y7);refine .inr ⟨R',λcv H2=>∃w' O' ys zs,az K w' O' H2/\w'.bG=(acc,.lst ys)::w1.bG/\iO w1 O1 H1 w' O' H2/\FN w6 O6 H6 w' O' H2/\bt K w' (G w' O' H2) cv om/\aI (G w' O' H2) ys zs/\Jv (j+1) zs O',λcv H2 z=>⟨gI.length-(j+1),by omega,rfl,y7,z⟩,λv8 H8 hv8=>?_⟩;obtain⟨rfl,a8⟩:=ZW v8 H8 hv8;have θ:jO K QX E w7 O7 H8 yU om:=⟨r7,s7,zx e7⟩;refine⟨w7,O7,om,gI[j],λyV O5'=>yV=om.set k (some gI[j])/\O5'=O7,θ,a8,⟨rfl,rfl⟩,λsl9 O9 w9 H9 σ9 h9 c9 e9=>?_⟩;obtain⟨rfl,rfl⟩:=h9;have back:∀{w2:Wd}{g2:Hp}{cv:St},bt K w2 g2 cv (om.set k (some gI[j]))->bt K w2 g2 cv om:=λh=>by
      refine⟨h.1.trans (by simp),λi' x' uF=>h.2 i' x' ?_⟩;have:k≠i':=λe=>by subst e;rw[Jf] at uF;cases Option.some.inj uF
      rw[Z6 this];exact uF
     refine⟨w9,O9,_,_,c9,js j _ Ob O9 (Zc y7) VG,λb O10 Φ OQ UE UI IX=>?_⟩;have e8:=e9.trans UI;cases b with
     |false=>exact cR ⟨Φ,O10,Fs,Ob,IX,e8.bG.trans OD,e7.trans e8.ex,x7.ex e8.ex,back (c9.so.ex UI.ex),aI.ap e8.ex.ap a7,UE.2 rfl⟩
     |true =>
      refine cE ⟨Φ,O10,_,_,c9.ex UI.ex IX,UE.1 rfl,λz O11 T7 Ξ UO QB UH Oi QO=>?_⟩;split at QB
      .rename_i d;have Bz:=e8.trans UH;have R5:Ξ.bG=(acc,.lst Fs)::w1.bG:=Bz.bG.trans OD;obtain⟨n1,n2,n3,n4⟩:=Oi.nh (acc,.lst Fs) (by rw[R5];exact Zg);obtain⟨r13,Bj⟩:=Oi.qj (o':=.lst (Fs++[T7])) R5 (λxs z=>by cases z);have GO:=e7.trans Bz.ex;have Lc:=x7.ex Bz.ex;have hl7:=jl j Ob O9 VG;refine⟨Fs,n3,by rw[a7.len,sz];omega,{ Ξ with bG:=(acc,.lst (Fs++[T7]))::w1.bG },O11,Fs++[T7],Ob++[d],r13,rfl,⟨GO.bs,GO.bA,⟨[(acc,.lst (Fs++[T7]))],rfl⟩,GO.ap.trans Bj,GO.dk⟩,⟨Lc.bs,Lc.bA,Lc.ap.trans Bj⟩,?_,?_,QB⟩
       .exact bt.fP rfl rfl Bj (back ((c9.so.ex UI.ex).ex UH.ex))
       .exact aI.ap Bj ((aI.ap Bz.ex.ap a7).app (.cons QO .nil))
      .exact QB.elim
    .have ej:j=gI.length:=by omega
     subst ej;exact .inl ⟨ie7 (Ze _),w7,O7,Fs,Ob,r7,OD,e7,bt.sub s7 h4.2,a7,je Ob O7 VG⟩
  .have ei:i=items.length:=by omega
   subst ei;refine .inl ⟨ie (Ze _),?_⟩;obtain⟨r2,s2,g2⟩:=r'.Cu rV;exact q _ _ _ { w' with bG:=w1.bG } _ (he zs O' hv) ⟨e1.ex.trans ⟨e'.bs,e'.bA,⟨[],rfl⟩,e'.ap.trans s2,e'.dk⟩,e1.bG⟩ r2 (.lst g2 (aI.ap s2 a'))⟩
def Es {scope:Scope}{own cap:Δ2}{ix:List Nat}{t1 i1 t2 i2 dr:Expr}{f1 f2:Ξ2}{it wT:MA}{mg:MG}{C1 C2:MT}{M:ME}{k:Nat}{pos:Pos}(B:aJ X scope own cap ix)(hc:X.calm=true)(hi:PI X t1 i1 (uB K QX E it))(hk:Keeps own.length mg)
  (hb:∀C' fp s H,PG (cN X scope C' (own++cap) fp s H) t1 (n8 K QX E mg)/\dX (cN X scope C' (own++cap) fp s H) f1 (lm K QX E C1)/\PI (cN X scope C' (own++cap) fp s H) t2 i2 (Lh K QX E wT)/\PG (cN X scope C' (own++cap) fp s H) t2 (n8 K QX E (bi k))/\dX (cN X scope C' (own++cap) fp s H) f2 (lm K QX E C2)/\PE (cN X scope C' (own++cap) fp s H) dr (bO K QX E M))
  (hs:∀x,foldedSetIterable i1 X.env x=pure x:=by intro _;rfl) (og:∀(env:Env) x,foldedSetIterable i2 env x=pure x:=by intro _ _;rfl):PE X (.ListComp dr [⟨t1,i1,f1,0⟩,⟨t2,i2,f2,0⟩] scope pos) (bO K QX E (vo own.length ix it mg C1 wT k C2 M)):=PE.imp (D9 B hc hi hb hs og) (wj hk)
end
def et (r:Γ3):PyData:=.list (r.map .int)
def ou (M:Γ1)(S:Γ3):List Nat:=(List.range M.length).filter λi=>(M.getD i []).any λg=>S.contains g
end MI
namespace RZ
open PySem L2 KG EX KM
theorem nN:∀{A B:Γ3},A.Pairwise (λa b=>a<b)->B.Pairwise (λa b=>a<b)->(∀x,x∈A↔x∈B)->A=B
 |[],[],_,_,_=>rfl
 |[],b::B,_,_,h=>by have:=(h b).mpr Zg;cases this
 |a::A,[],_,_,h=>by have:=(h a).mp Zg;cases this
 |a::A,b::B,hA,hB,h=>by
  have pA:=List.pairwise_cons.mp hA;have pB:=List.pairwise_cons.mp hB;have e:a=b:=by
   rcases Zk.mp ((h a).mp Zg) with z |z
   .exact z
   .rcases Zk.mp ((h b).mpr Zg) with y |y
    .exact y.symm
    .have h1:=pB.1 a z;have h2:=pA.1 b y;omega
  subst e
  congr 1
  refine nN pA.2 pB.2 λx=>?_
  constructor
  .intro hx;rcases Zk.mp ((h x).mp (Zh _ hx)) with z |z
   .have:=pA.1 x hx;omega
   .exact z
  .intro hx;rcases Zk.mp ((h x).mpr (Zh _ hx)) with z |z
   .have:=pB.1 x hx;omega
   .exact z
def sR (g:Nat)(M:Γ1):(aD g M).Pairwise (λa b=>a<b):=by
 unfold aD au;rw[List.pairwise_map];exact(List.Pairwise.sublist Yp List.pairwise_lt_range).imp λh=>by omega
section
variable {am:Γ3}{ps qs:Δ1}{M:Γ1}{g:Nat}{c:Int}{rows:List (Int×Γ3)}
def N9 (ab:Above am ps qs M (aD g M) c rows){S:Γ3}(hS:S.Sublist (aD g M)):∃x∈rows,x.2=S:=by
 have:S∈rows.map (·.2):=by rw[ab.2.1];exact cK.mpr hS
 obtain⟨x,hx,e⟩:=Zd.mp this;exact⟨x,hx,e⟩
def DB (ab:Above am ps qs M (aD g M) c rows){x:Int×Γ3}(hx:x∈rows):x.2.Sublist (aD g M):=cK.mp (by rw[<- ab.2.1];exact Zd.mpr ⟨x,hx,rfl⟩)
def yT (ab:Above am ps qs M (aD g M) c rows){x:Int×Γ3}(hx:x∈rows):x.1=0↔aV am ps qs M (aN x.2)=0:=by
 have hc:(0:Rat)<(c:Rat):=Yx.mpr ab.1;have Uy:(c:Rat)≠0:=λz=>by rw[z] at hc;exact absurd hc (by decide)
 have hv:=ab.2.2 x hx;constructor
 .intro z;rw[z] at hv;have hv':(0:Rat)=(c:Rat)*aV am ps qs M (aN x.2):=hv
  grind
 .intro z;rw[z,Xg] at hv;simpa using hv
end
def EZ (am:Γ3)(ps qs:Δ1)(M:Γ1)(g:Nat):Prop:=∀S:Γ3,S.Sublist (aD g M)->aV am ps qs M (aN S)<=0
structure gZ (am:Γ3)(ps qs:Δ1)(M:Γ1)(g:Nat)(Pd:Γ3):Prop where
 sub:Pd.Sublist (aD g M)
 zero:aV am ps qs M (aN Pd)=0
 top:∀T:Γ3,T.Sublist (aD g M)->aV am ps qs M (aN T)=0->∀x∈T,x∈Pd
section
variable {am:Γ3}{ps qs:Δ1}{M:Γ1}{g:Nat}{c:Int}{rows:List (Int×Γ3)}
def gZ.uniq {A B:Γ3}(a:gZ am ps qs M g A)(b:gZ am ps qs M g B):A=B :=
 nN ((sR g M).sublist a.sub) ((sR g M).sublist b.sub) λx=>⟨λh=>b.top A a.sub a.zero x h,λh=>a.top B b.sub b.zero x h⟩
def Ea (hp:∀q∈ps,0<=q)(ab:Above am ps qs M (aD g M) c rows)(hM:EZ am ps qs M g){row:Int×Γ3}(fM:row∈rows)(h0:row.1=0)(cy:∀x∈rows,x.1=0->x.2.length<=row.2.length):gZ am ps qs M g row.2:=by
 have f0:=(yT ab fM).mp h0;have hR:=DB ab fM;refine⟨hR,f0,λT hT fT x hx=>?_⟩;refine Er (f:=λS=>aV am ps qs M (aN S)) (Op g M) (uz hp) hR (λS hS=>by show _<=aV am ps qs M (aN row.2);rw[f0];exact hM S hS) (λS hS fS=>?_) hT (by show aV am ps qs M (aN T)=aV am ps qs M (aN row.2);rw[f0,fT]) x hx;obtain⟨y,hy,rfl⟩:=N9 ab hS;exact cy y hy ((yT ab hy).mpr (fS.trans f0))
end
def loose (M:Γ1)(qs:Δ1)(Pd S:Γ3):List Nat:=(hV M qs (aN S)).filter λi=>!(hV M qs (aN Pd)).contains i
def sj (am:Γ3)(ps qs:Δ1)(M:Γ1)(Pd S:Γ3):Rat:=fQ ps (loose M qs Pd S) / rD am qs (aN S)
def eY (row:Γ3)(qs:Δ1)(g:Nat):Rat:=((row.getD g 0:Int):Rat) / qs.getD g 0
def mo (row:Γ3)(qs:Δ1)(Pd:Γ3)(b:Nat):Δ1:=(Pd.filter λg=>decide (0<row.getD g.toNat 0)).map λg=>eY row qs b / eY row qs g.toNat
def gU (M:Γ1)(qs:Δ1)(Pd:Γ3)(n:Nat):Δ1:=(List.range n).flatMap λi=>if !(hV M qs (aN Pd)).contains i&&!((aw M qs).getD i []).isEmpty then mo (M.getD i []) qs Pd (((aw M qs).getD i []).getD 0 0).toNat else []
def bC (g:Nat)(M:Γ1)(Pd:Γ3):Γ3:=(aD g M).filter λx=>!Pd.contains x
def gW (am:Γ3)(ps qs:Δ1)(M:Γ1)(g:Nat)(Pd:Γ3):Δ1:=((aO (bC g M Pd)).drop 1).map (sj am ps qs M Pd)++gU M qs Pd M.length
def vG (L:List Nat)(w:Nat->Rat)(p q:Nat->Bool):wsum L w (λx=>p x||q x)=wsum L w q+wsum L w (λx=>p x&&!q x):=by
 induction L with
 |nil=>show(0:Rat)=0+0;rw[Xx]
 |cons x L ih =>
  rw[Bo,Bo,Bo,ih];cases p x<;>cases q x<;>simp<;>grind
section
variable {am:Γ3}{ps qs:Δ1}{M:Γ1}{g:Nat}
def nS {S:List Nat}{i:Nat}(hi:i<M.length):(hV M qs S).contains i=cD S ((aw M qs).getD i []):=by
 rw[Yc,Yz];unfold hV;rw[Zo,Zq];exact⟨λh=>h.2,λh=>⟨hi,h⟩⟩
def Ao {S:List Nat}(hl:am.length=qs.length)(Jg:∀a∈am,1<=a)(hq:∀g∈S,g<qs.length/\0<qs.getD g 0)(bo:S≠[]):0<rD am qs S:=by
 have one:∀g∈S,0<(gn am qs).getD g 0:=λg hg=>by
  obtain⟨h1,h2⟩:=hq g hg;have e:(gn am qs).getD g 0=qs.getD g 0*((am.getD g 0:Int):Rat):=by
   unfold gn;simp[List.getD,Yn h1]
  rw[e];have ha:1<=am.getD g 0:=Jg _ (by rw[List.getD,Zc (show g<am.length by omega)];exact Zv _);exact Xp h2 (by have:(0:Int)<am.getD g 0:=(by omega);exact Yx.mpr this)
 unfold rD;have key:∀T:List Nat,(∀g∈T,0<(gn am qs).getD g 0)->0<=aH (T.map λg=>(gn am qs).getD g 0):=by
  intro T;induction T with
  |nil=>intro _;exact Yk
  |cons x T ih =>
   intro h;rw[Zi,Bn];have h1:=h x Zg;have h2:=ih λg hg=>h g (Zh _ hg)
   grind
 cases S with
 |nil=>exact absurd rfl bo
 |cons x T =>
  rw[Zi,Bn];have h1:=one x Zg;have h2:=key T λg hg=>one g (Zh _ hg)
  grind
end
end RZ
namespace MI
open PySem L2 KG EX KM
def int_at {ns:Γ3}{i:Nat}(h:i<ns.length):gv (ns.map PyData.int) (i:Int)=some (.int (ns.getD i 0)):=bR (mh (f:=PyData.int) (d:=0) h)
def A5 {ns:Γ3}{i:Nat}{x:AV}(h:((ns.map PyData.int).map AV.im)[i]?=some x):i<ns.length/\x=.im (.int (ns.getD i 0)):=by
 have hi:i<ns.length:=by have:=(Zf.mp h).1;simpa using this
 rw[Zl,mh (f:=PyData.int) (d:=0) hi] at h;exact⟨hi,(Option.some.inj h).symm⟩
def IK (ns:Γ3)(p:Int->Bool):((List.range ns.length).filter λj=>p (ns.getD j 0)).map (λj=>ns.getD j 0)=ns.filter p:=by
 have:=Ba (λx:Int=>x) ns 0;have e:ns.filter p=((List.range ns.length).map λi=>ns.getD i 0).filter p:=by rw[this,List.map_id']
 rw[e,List.filter_map];rfl
def EG (ns:Γ3)(p:Int->Bool):((List.range ns.length).filter λj=>p (ns.getD j 0)).map (λj=>PyData.int (ns.getD j 0))=(ns.filter p).map .int:=by
 rw[<- IK ns p,Zm];rfl
def EH {α : Type}(s:List α)(d:α)(p:α->Bool)(f:α->PyData):((List.range s.length).filter λj=>p (s.getD j d)).map (λj=>f (s.getD j d))=(s.filter p).map f:=by
 have:=Ba (λx:α=>x) s d;have e:s.filter p=((List.range s.length).map λi=>s.getD i d).filter p:=by rw[this,List.map_id']
 rw[e,List.filter_map,Zm];rfl
def LJ {α : Type}:([]:List α).length<=sizeLine:=by show 0<=sizeLine;decide
def EL {xs:Ξ1}{r:Nat}(h1:r<=xs.length):cutD xs none (some (r:Int))=xs.take r:=by
 have e1:HT.cP xs.length xs.length (some (r:Int))=r:=by
  show(if (r:Int)<0 then ((r:Int)+(xs.length:Int)).toNat else min ((r:Int)).toNat xs.length)=_;rw[if_neg (by omega)];omega
 unfold cutD;rw[HT.tj,e1];simp
def x9 {z:Rat}(h:uM (qD z)=true):0<z/\Rb 20 z:=by
 obtain⟨q,e,h1,h2⟩:=lS h;have:z=q:=by rw[<- iB z,e,iB]
 rw[this];exact⟨h1,h2⟩
structure Jo (A:Γ3)(Pu:Δ1)(W:Γ1):Prop where
 g1:1<=A.length
 g6:A.length<=6
 n1:1<=Pu.length
 n6:Pu.length<=6
 wl:W.length=Pu.length
 am:∀a∈A,1<=a/\a<=60
 pu:∀z∈Pu,0<z/\Rb 20 z
 wr:∀i,i<W.length->(W.getD i []).length=A.length
 w0:∀i j,i<W.length->j<A.length->0<=eI W i j/\eI W i j<=100
def A8 {A:Γ3}{Pu:Δ1}{W:Γ1}(h:gA (g9 A Pu W)=true):Jo A Pu W:=by
 obtain⟨h1,h2,h3,h4,h5,h6,h7,h8⟩:=iH h;rw[Zb] at h1 h2 h4 h5;rw[Zb,Zb] at h7;rw[Zb] at h8;have row:∀r∈W,r.length=A.length/\∀x∈r,0<=x/\x<=100:=λr hr=>by
  have:=Ya.mp h8 (aT r) (Zd.mpr ⟨r,hr,rfl⟩);have e:(decide ((r.map PyData.int).length=A.length)&&(r.map PyData.int).all (within 0 100))=true:=this;rw[Z8,decide_eq_true_eq,Zb,Ya] at e;refine⟨e.1,λx hx=>?_⟩;have:=e.2 (.int x) (Zd.mpr ⟨x,hx,rfl⟩);have e2:(decide ((0:Int)<=x)&&decide (x<=100))=true:=this;rw[Z8,decide_eq_true_eq,decide_eq_true_eq] at e2;exact e2
 have wm:∀i,i<W.length->W.getD i []∈W:=λi hi=>by rw[ao (Zc hi)];exact Zv _
 refine⟨h1,h2,h4,h5,h7,λa ha=>?_,λz hz=>?_,λi hi=>(row _ (wm i hi)).1,λi j hi hj=>?_⟩
 .have:=Ya.mp h3 (.int a) (Zd.mpr ⟨a,ha,rfl⟩);have e2:(decide ((1:Int)<=a)&&decide (a<=60))=true:=this;rw[Z8,decide_eq_true_eq,decide_eq_true_eq] at e2;exact e2
 .exact x9 (Ya.mp h6 (qD z) (Zd.mpr ⟨z,hz,rfl⟩))
 .have hr:=row _ (wm i hi);have kB:j<(W.getD i []).length:=by rw[hr.1];exact hj
  exact hr.2 _ (by show(W.getD i []).getD j 0∈_;rw[ao (Zc kB)];exact Zv _)
open RZ
def cm {g:Nat}{W:Γ1}{x:Int}(h:x∈aD g W):0<=x/\x.toNat<g/\((x.toNat:Nat):Int)=x/\has W x.toNat=true:=by
 unfold aD at h;obtain⟨j,hj,rfl⟩:=Zd.mp h;have hj:=Zo.mp hj;have h1:=Zq.mp hj.1;rw[Z3];exact⟨by omega,h1,rfl,hj.2⟩
def fV (g:Nat)(W:Γ1):(aD g W).length<=g:=by
 unfold aD au;rw[Zb];exact Zr (Y8 _ _) (by simp)
def Ft (W:Γ1)(qs:Δ1):(aw W qs).length=W.length:=by unfold aw;simp
def Ja {W:Γ1}{qs:Δ1}{i:Nat}(hi:i<W.length):(aw W qs).getD i []=(cx (W.getD i []) qs).map λg:Nat=>(g:Int):=by unfold aw;exact jw hi
def nI {W:Γ1}{qs:Δ1}{i g:Nat}(hi:i<W.length)(hr:(W.getD i []).length=g):((aw W qs).getD i []).length<=g:=by
 rw[Ja hi,Zb];unfold cx;rw[<- hr];exact Zr (Y8 _ _) (by simp)
def qG {W:Γ1}{qs:Δ1}{S:Γ3}(hS:∀x∈S,0<=x):ou (aw W qs) S=hV W qs (aN S):=by
 unfold ou hV;rw[Ft];refine Y2 λi _=>?_
 unfold cD aN;rw[Yc,Zw,Zw];constructor
 .rintro⟨x,hx,h⟩;have hm:=Yz.mp h;exact⟨x,hx,Zw.mpr ⟨x.toNat,Zd.mpr ⟨x,hm,rfl⟩,decide_eq_true (Xe (hS x hm))⟩⟩
 .rintro⟨x,hx,h⟩;obtain⟨y,hy,e⟩:=Zw.mp h;obtain⟨z,hz,rfl⟩:=Zd.mp hy;have e:=of_decide_eq_true e;rw[Xe (hS z hz)] at e;exact⟨x,hx,Yz.mpr (e▸hz)⟩
def Ib {s:List Nat}{i:Nat}{x:AV}(h:((s.map λk:Nat=>PyData.int (k:Int)).map AV.im)[i]?=some x):i<s.length/\x=.im (.int ((s.getD i 0:Nat):Int))/\s.getD i 0∈s:=by
 have hi:i<s.length:=by have:=(Zf.mp h).1;simpa using this
 rw[Zl,mh (f:=λk:Nat=>PyData.int (k:Int)) (d:=0) hi] at h;exact⟨hi,(Option.some.inj h).symm,by rw[ao (Zc hi)];exact Zv _⟩
def YD {ns:Γ3}{x:Int}(h0:0<=x)(h:x.toNat<ns.length):gv (ns.map PyData.int) x=some (.int (ns.getD x.toNat 0)):=by
 have:=int_at h
 rwa [Xe h0] at this
def yq {α : Type}(s:List α)(d:α)(f:α->Int):(List.range s.length).map (λj=>PyData.int (f (s.getD j d)))=(s.map f).map .int:=by
 rw[Zm];exact Ba (λx=>PyData.int (f x)) s d
def zm (ps:Γ3)(s:List Nat):Int:=(s.map λi=>ps.getD i 0).sum
def j7 {row:Γ3}{qs:Δ1}{g:Nat}(h:0<=row.getD g 0/\row.getD g 0<=100)(hb:Rb 293 (qs.getD g 0))(h0:0<qs.getD g 0):Rb 300 (eY row qs g):=by
 unfold eY;exact fo (j:=7) (k:=293) (yZ (by unfold Bd;omega) (by decide)) hb (λz=>by rw[z] at h0;exact absurd h0 (by decide))
def N7 {k:Nat}:∀{xs:Γ3},(∀x∈xs,Bd k x)->xs.length<=6->Bd (k+3) xs.sum:=by
 have key:∀{xs:Γ3},(∀x∈xs,Bd k x)->xs.sum.natAbs<=xs.length*2 ^ k:=by
  intro xs;induction xs with
  |nil=>intro _;exact Z7 _
  |cons x xs ih =>
   intro h;have h1:x.natAbs<2 ^ k:=h x Zg;have h2:=ih λy hy=>h y (Zh _ hy)
   have h3:=Int.natAbs_add_le x xs.sum;rw[Yr,Xo,Nat.succ_mul];omega
 intro xs h h6;have h1:=key h;unfold Bd;have h2:xs.length*2 ^ k<=6*2 ^ k:=Nat.mul_le_mul_right _ h6;have h3:0<2 ^ k:=Nat.pow_pos (by decide);rw[Nat.pow_add];show _<2 ^ k*8;omega
def AK {c t u:Int}{x y:Rat}(hc:0<c)(ht:((t:Int):Rat)=(c:Rat)*x)(hu:((u:Int):Rat)=(c:Rat)*y)(hy:0<y):Rat.divInt t u=x / y:=by
 rw[Qe,ht,hu];have c0:(c:Rat)≠0:=λz=>by have:(c:Int)=0:=(by exact_mod_cast z);omega
 have y0:y≠0:=λz=>by rw[z] at hy;exact absurd hy (by decide)
 grind
structure gY (A:Γ3)(Pu:Δ1)(W:Γ1)(qs:Δ1):Prop where
 pr:nj A Pu W qs
 bd:∀z∈qs,Rb 280 z
def gY.pos {A:Γ3}{Pu:Δ1}{W:Γ1}{qs:Δ1}(h:gY A Pu W qs){x:Int}(hx:x∈aD A.length W):0<=x/\x.toNat<qs.length/\0<qs.getD x.toNat 0:=by
 obtain⟨h1,h2,h3,h4⟩:=cm hx;have hl:=h.pr.len;exact⟨h1,by omega,h.pr.oo.pos _ (by omega) h4⟩
def gY.money {A:Γ3}{Pu:Δ1}{W:Γ1}{qs:Δ1}(h:gY A Pu W qs){S:Γ3}(hS:S.Sublist (aD A.length W))(bo:S≠[]):0<rD A qs (aN S):=by
 have mf:=A8 h.pr.ok;refine Ao h.pr.len.symm (λa ha=>(mf.am a ha).1) (λg hg=>?_) (λz=>bo ?_)
 .obtain⟨x,hx,rfl⟩:=Zd.mp hg;exact(h.pos (hS.subset hx)).2
 .exact Xy.mp z
def o6 (ns:Γ3):aO ns=[]::(aO ns).drop 1:=by
 obtain⟨m,hm⟩:∃m,2 ^ ns.length=m+1:=⟨2 ^ ns.length-1,by have:0<2 ^ ns.length:=Nat.pow_pos (by decide);omega⟩;have z:eh ns 0=[]:=by
  unfold eh;rw[Qd.mpr λk _=>by rw[Nat.zero_div];decide];rfl
 unfold aO;rw[hm,List.range_succ_eq_map,Zi,z];rfl
def o7 {ns S:Γ3}(nd:ns.Nodup)(h:S∈(aO ns).drop 1):S.Sublist ns/\S≠[]:=by
 refine⟨cK.mp (List.mem_of_mem_drop h),λe=>?_⟩;have e0:=o6 ns;have:=iK nd;rw[e0,Yd] at this;exact this.1 (e▸h)
def yR {A:Γ3}{Pu:Δ1}{W:Γ1}{qs:Δ1}(mf:Jo A Pu W)(oo:Fp W qs)(hl:qs.length=A.length){i b:Nat}(oh:i<W.length)(hb:b∈cx (W.getD i []) qs):b<A.length/\0<qs.getD b 0:=by
 have R8:=Zo.mp hb;have LP:=Zq.mp R8.1;rw[mf.wr i oh] at LP;have hbw:(W.getD i []).getD b 0≠0:=by
  have:=R8.2;unfold mT at this;rw[Z8] at this;exact of_decide_eq_true this.1
 have hwb:=mf.w0 i b oh LP;have N':has W b=true:=by
  unfold has;rw[Zw];exact⟨W.getD i [],by rw[ao (Zc oh)];exact Zv _,decide_eq_true (by unfold eI at hwb;omega)⟩
 exact⟨LP,oo.pos b (by omega) N'⟩
def E2 (qs:Δ1)(Pd:Γ3)(f:Rat):Δ1:=(List.range qs.length).map λg:Nat=>if Pd.contains (g:Int)=true then qs.getD g 0 else qs.getD g 0*f
def DT {A:Γ3}{Pu:Δ1}{W:Γ1}{qs:Δ1}{Pd:Γ3}(rp:gY A Pu W qs)(KU:Pd.Sublist (aD A.length W)):∀z∈gW A Pu qs W A.length Pd,Rb 3000 z:=by
 have mf:=A8 rp.pr.ok;have hl:=rp.pr.len;have hR:(bC A.length W Pd).Sublist (aD A.length W):=Yp;have Wg:(bC A.length W Pd).Nodup:=(Op A.length W).sublist hR;intro z hz;unfold gW at hz;rcases Z0.mp hz with hz |hz
 .obtain⟨S,hS,rfl⟩:=Zd.mp hz;obtain⟨h1,h2⟩:=o7 Wg hS;have hs:=h1.trans hR;have mS:=rp.money hs h2;have b1:Rb 127 (fQ Pu (loose W qs Pd S)):=by
   unfold fQ;have h3:=qP (k:=20) (qs:=(loose W qs Pd S).map λi=>Pu.getD i 0) λq hq=>by
    obtain⟨i,hi,rfl⟩:=Zd.mp hq;exact xZ (by decide) (λq hq=>(mf.pu q hq).2) i
   refine h3.mono ?_;rw[Zb];have h4:=Y8 (λi=>!(hV W qs (aN Pd)).contains i) (hV W qs (aN S));have h5:=lv W qs (aN S);have:=mf.wl;have:=mf.n6;unfold loose;omega
  have b2:Rb 1801 (rD A qs (aN S)):=by
   unfold rD;have h3:=qP (k:=299) (qs:=(aN S).map λg=>(gn A qs).getD g 0) λq hq=>by
    obtain⟨i,hi,rfl⟩:=Zd.mp hq;refine xZ (by decide) (λq hq=>?_) i;obtain⟨j,hj,rfl⟩:=Zd.mp hq;have hj:=Zq.mp hj;have ha:=mf.am (A.getD j 0) (by rw[ao (Zc (show j<A.length by omega))];exact Zv _);exact kN (j:=293) (k:=6) (rp.pr.bd _ (by rw[ao (Zc hj)];exact Zv _)) (yZ (by unfold Bd;omega) (by decide))
   refine h3.mono ?_;unfold aN;rw[Zb,Zb];have:=hs.length_le;have:=fV A.length W;have:=mf.g6;omega
  unfold sj;exact(fo b1 b2 (λz=>by rw[z] at mS;exact absurd mS (by decide))).mono (by decide)
 .unfold gU at hz;obtain⟨i,hi,hz⟩:=List.mem_flatMap.mp hz;have oh:=Zq.mp hi;split at hz
  .rename_i hc;rw[Z8] at hc;have bo:0<((aw W qs).getD i []).length:=by
    cases hb:(aw W qs).getD i [] with
    |nil=>rw[hb] at hc;exact absurd hc.2 (by decide)
    |cons _ _=>simp
   have KR:((aw W qs).getD i []).getD 0 0∈(aw W qs).getD i []:=by rw[ao (Zc bo)];exact Zv _
   rw[Ja oh] at KR;obtain⟨b,hb,eb⟩:=Zd.mp KR;rw[<- Ja oh] at eb;rw[<- eb,Z3] at hz;unfold mo at hz;obtain⟨x,hx,rfl⟩:=Zd.mp hz;obtain⟨hx1,VE⟩:=Zo.mp hx;have VE:=of_decide_eq_true VE;obtain⟨p0,p1,p2⟩:=rp.pos (KU.subset hx1);obtain⟨oN,oM⟩:=yR mf rp.pr.oo hl oh hb;have r1:=j7 (row:=W.getD i []) (mf.w0 i b oh oN) (rp.pr.bd _ (by rw[ao (Zc (show b<qs.length by omega))];exact Zv _)) oM;have r2:=j7 (row:=W.getD i []) (mf.w0 i x.toNat oh (by omega)) (rp.pr.bd _ (by rw[ao (Zc p1)];exact Zv _)) p2;refine(fo r1 r2 λz=>?_).mono (by decide);have:0<eY (W.getD i []) qs x.toNat:=by unfold eY;exact div_pos (Yx.mpr VE) p2
   rw[z] at this;exact absurd this (by decide)
  .cases hz
def IL {A:Γ3}{Pu:Δ1}{W:Γ1}{qs:Δ1}{g:Nat}{Pd:Γ3}(h:bC g W Pd≠[]):gW A Pu qs W g Pd≠[]:=by
 unfold gW;intro z;have z1:=(List.append_eq_nil_iff.mp z).1;have z2:=Xy.mp z1;have z3:((aO (bC g W Pd)).drop 1).length=0:=by rw[z2];rfl
 rw[Xz,Om] at z3;have:2 ^ 1<=2 ^ (bC g W Pd).length:=Xn (by decide) (Xd.mpr h);omega
def Kw {α : Type}{L:List α}{i:Nat}(d:α)(hi:i<L.length):L.take (i+1)=L.take i++[L.getD i d]:=by rw[List.take_succ,Zc hi,ao (Zc hi)];rfl
def sk (gs:List Nat):PyData:=.tuple (gs.map λg:Nat=>.int (g:Int))
end MI
namespace MI
open PySem L2 KG EX KM RZ
section
variable {n:Nat}{ix:List Nat}{C:MT}{M:ME}{sl:fK}{Q:AV->aF->Prop}{items:List AV}{O:aF}
def wJ (c:Nat->Bool)(f a b:Nat->PyData)(hl:items.length<=1000000)(hi:∀(i:Nat) (x:AV),items[i]?=some x->x=.im (.tuple [a i,b i]))
  (hc:∀(i:Nat) (Z:Bool->aF->Prop),i<items.length->Z (c i) O->C (((cV n ix sl).set 0 (some (.im (a i)))).set 1 (some (.im (b i)))) O Z)
  (hs:∀(i:Nat) (Z:AV->aF->Prop),i<items.length->c i=true->Z (.im (f i)) O->M (((cV n ix sl).set 0 (some (.im (a i)))).set 1 (some (.im (b i)))) O Z)
  (hd:Q (.im (.list (((List.range items.length).filter c).map f))) O):CB n ix (ln 2 (aG (bi 0) (aG (bi 1) cc))) C M sl Q items O:=by
 refine⟨hl,λi ds O'=>O'=O/\ds=((List.range i).filter c).map f,⟨rfl,rfl⟩,?_,λds O' ⟨e,h1⟩=>by rw[e,h1];exact hd⟩;rintro i x ds O' hx ⟨rfl,rfl⟩;have cg:=(Zf.mp hx).1;rw[hi i x hx];exact⟨rfl,hc i _ cg ⟨λh=>hs i _ cg h ⟨rfl,by rw[i7,h,if_pos rfl]⟩,λh=>⟨rfl,by rw[i7,h,if_neg (by decide),Yg]⟩⟩⟩
end
section
variable {K:Θ1}
def vZ {c y:Rat}(hc:0<c)(hy:y<=0):c*y<=0:=by
 have h:=Xi hy (Yb hc)
 rwa [Xg] at h
def Hv {A:Γ3}{Pu:Δ1}{W:Γ1}{qs:Δ1}(pr:nj A Pu W qs):eC A.length W (.tuple (qs.map qD))=true:=B9.mpr ⟨pr.len,pr.oo⟩
def Cp:FM:=λO xs P _=>match xs with
 |[.im (.int t),.im (.int u)]=>P (.im (.int (Int.gcd t u))) O
 |_=>False
def Ix:rG K qf Cp:=λw O H vs xs P PX Q E r a hf q x=>by
 unfold Cp at hf;split at hf
 .obtain⟨v,u,rfl,h1,h2⟩:=ve a;rw[hG h1,hG h2];exact⟨_,_,rfl,q _ _ O w H hf (bW.refl _ _ _) r (.int _)⟩
 .exact hf.elim
def GK:FM:=λO xs P _=>match xs with
 |[.im (.int t),.im (.int u)]=>(u≠0/\Bd 8000 u)/\P (.im (qD (Rat.divInt t u))) O
 |_=>False
def J4 {Nn:Addr}:rG K (r9 Nn) GK:=λw O H vs xs P PX Q E r a hf q x=>by
 unfold GK at hf;split at hf
 .obtain⟨v,u,rfl,h1,h2⟩:=ve a;rw[hG h1,hG h2];refine⟨_,_,rfl,hf.1.2,λz=>absurd z hf.1.1,λ_ p hp=>?_⟩;obtain⟨r1,e1,t1⟩:=eN r hp (aI.cons (.int (Rat.divInt _ _).num) (.cons (.int ((Rat.divInt _ _).den:Int)) .nil));exact q _ _ O w _ hf.2 e1 r1 t1
 .exact hf.elim
def B8 {w:Wd}{O:aF}{H:Hp}{v:V}{a:Rat}(h:ck (G w O H) v (qD a)):∃p,v=.ref p/\H p=some (qO a):=by
 obtain⟨p,xs,rfl,h1,t⟩:=eF h;cases t with |cons t1 t2=>cases t2 with |cons t2 t3=>cases t3;cases t1;cases t2;exact⟨p,rfl,h1⟩
def Tj {w:Wd}{O:aF}{H:Hp}(r:az K w O H){p:Addr}(hp:H p=none)(a:Rat):az K w O (aL H p (qO a))/\bW w O H w O (aL H p (qO a))/\ck (G w O (aL H p (qO a))) (.ref p) (qD a):=eN r hp (aI.cons (.int a.num) (.cons (.int (a.den:Int)) .nil))
def Hs {w:Wd}{O:aF}{H H':Hp}(r:az K w O H)(s:ay H H'){p:Addr}{a:Rat}(hp:H' p=some (qO a)):az K w O H'/\bW w O H w O H'/\ck (G w O H') (.ref p) (qD a):=gj r s hp (aI.cons (.int a.num) (.cons (.int (a.den:Int)) .nil))
def Sh:FM:=λO xs P _=>∃a b,xs=[.im (qD a),.im (qD b)]/\(Rb 3000 a/\Rb 3000 b/\b≠0)/\P (.im (qD (a / b))) O
def Io {Nn:Addr}:rG K (mU Nn) Sh:=λw O H vs xs P PX Q E r a hf q x=>by
 obtain⟨a1,b1,rfl,⟨h1,h2,h3⟩,hf⟩:=hf;obtain⟨v,u,rfl,g1,g2⟩:=ve a;obtain⟨p1,rfl,e1⟩:=B8 g1;obtain⟨p2,rfl,e2⟩:=B8 g2;refine⟨p1,p2,a1,b1,rfl,e1,e2,h1,h2,λz=>absurd z h3,λ_ p hp=>?_⟩;obtain⟨r1,Ww,t1⟩:=Tj r hp (a1 / b1);exact q _ _ O w _ hf Ww r1 t1
def Cm:FM:=λO xs P _=>∃(n:Int) (y:Rat),xs=[.im (.int n),.im (qD y)]/\(Rb 300 y/\0<y/\0<=n/\n<=100)/\P (.im (qD ((n:Rat) / y))) O
def yx:rG K qe Cm:=λw O H vs xs P PX Q E r a hf q x=>by
 obtain⟨n,y,rfl,⟨h1,h2,h3,h4⟩,hf⟩:=hf;obtain⟨v,u,rfl,g1,g2⟩:=ve a;obtain⟨p2,rfl,e2⟩:=B8 g2;rw[hG g1];refine⟨n,p2,y,rfl,e2,h1,h2,h3,h4,λt H' s ht=>?_⟩;obtain⟨r1,Ww,t1⟩:=Hs r s ht;exact q _ _ O w _ hf Ww r1 t1
def En (M:Γ1):A3 (.tuple (M.map aT))=true:=ff ym M
def vB:FM:=λO xs P _=>∃(A:Γ3) (Pu:Δ1) (W:Γ1) (qs:Δ1),xs=[.im (g9 A Pu W),.im (.tuple (qs.map qD))]/\nj A Pu W qs/\P (.im (.tuple ((aw W qs).map aT))) O
def tM {Pr:Addr}:rG K (mW Pr) vB:=λw O H vs xs P PX Q E r a hf q x=>by
 obtain⟨A,Pu,W,qs,rfl,pr,hf⟩:=hf;obtain⟨v1,v2,rfl,a1,a2⟩:=ve a;obtain⟨p,pa,pp,pw,xa,xp,xw,rfl,mk,la,lp⟩:=LA 0 a1 pr.ok;have inj:∀A2:Δ1,PyData.tuple (qs.map qD)=.tuple (A2.map qD)->qs=A2:=λA2 h=>by
  have h1:pP (qs.map qD)=pP (A2.map qD):=by injection h with h;rw[h]
  rwa [gh,gh] at h1
 refine⟨0,p,pa,pp,pw,xa,xp,xw,_,_,_,v2,.tuple (qs.map qD),rfl,⟨mk,U6 0 a2 (qq qs),λA2 h z hz=>?_⟩,λhn=>?_,λA2 h hl hp t Oe H' s ht hr=>?_⟩
 .rw[<- inj A2 h] at hz;exact(pr.bd z hz).mono (by decide)
 .exfalso;rw[Kv,la] at hn;rw[Hv pr] at hn;cases hn
 .have e:=inj A2 h;subst e;rw[Kv] at hr;obtain⟨r1,e1,_⟩:=r.ap s;have tr:iN 0 H' (.ref t) (.tuple ((aw W qs).map aT)):=.tup ht (CM hr);exact q _ _ O w H' hf e1 r1 (U7 r1 tr (En _))
def fPG:FM:=λO xs P _=>∃(A:Γ3) (Pu:Δ1) (W:Γ1) (qs:Δ1),xs=[.im (g9 A Pu W),.im (.tuple (qs.map qD))]/\nj A Pu W qs/\EZ A Pu qs W A.length/\∀Pd,gZ A Pu qs W A.length Pd->P (.im (aT Pd)) O
def Tz {De:Addr}:rG K (Lk De) fPG:=λw O H vs xs P PX Q E r a hf q x=>by
 obtain⟨A,Pu,W,qs,rfl,pr,oq,hf⟩:=hf;obtain⟨v1,v2,rfl,a1,a2⟩:=ve a;obtain⟨p,pa,pp,pw,xa,xp,xw,rfl,mk,la,lp⟩:=LA 0 a1 pr.ok;obtain⟨qp,yp,rfl,pa'⟩:=ZF 0 a2 pr.bd;refine⟨0,p,pa,pp,pw,qp,xa,xp,xw,yp,_,_,_,qs,rfl,⟨mk,pa',by rw[pr.len,la],by rw[Kv];exact pr.oo⟩,λc rows ab=>?_⟩;rw[nE,gh,Kv,la] at ab;have mf:=A8 pr.ok;have hp:∀q∈Pu,0<=q:=λq hq=>Yb (mf.pu q hq).1
 have le0:∀y∈rows,y.1<=0:=λy hy=>by
  have h1:=ab.2.2 y hy;have h2:=oq y.2 (DB ab hy);have hc:(0:Rat)<(c:Rat):=Yx.mpr ab.1;have h3:((y.1:Int):Rat)<=0:=by rw[h1];exact vZ hc h2
  exact_mod_cast h3
 refine⟨λ⟨y,hy,h0⟩=>?_,λ_ t row H' s fM h0 cy ht=>?_⟩
 .have:=le0 y hy;omega
 .have pd:=Ea hp ab oq fM h0 cy;obtain⟨r1,e1,t1⟩:=gj r s ht (va row.2);exact q _ _ O w H' (hf _ pd) e1 r1 t1
end
def any_map (ns:Γ3)(p:Int->Bool):(ns.map p).any id=ns.any p:=by rw[X1];rfl
def BQ:FM:=λO xs P _=>∃(M:Γ1) (S:Γ3),xs=[.im (.tuple (M.map aT)),.im (aT S)]/\M.length<=6/\(∀i,i<M.length->(M.getD i []).length<=6)/\P (.im (sk (ou M S))) O
abbrev L9:Δ2:=["best","goods"]
def RG:MS:=(cU (jj jg (af (bY 2 [1] (Ui (af (ah 0) ar)) (ln 2 (aG (bi 0) (aG (bi 1) cc))) (ia (jj BR (af (bY 1 [2] (cz (ah 1)) (bi 0) cQ (bL (Ou false) (ah 0) (ah 1))) ar))) (ah 0)) ar)))
def Dz {S:Γ3}{r:Γ3}(hl:r.length<=6){sl:fK}{O:aF}{n:Nat}{ix:List Nat}{Z:AV->aF->Prop}{M:ME}(hM:∀(i:Nat) (x:AV) (Z:AV->aF->Prop),((r.map PyData.int).map AV.im)[i]?=some x->Z (.im (.bool (S.contains (r.getD i 0)))) O->M ((cV n ix sl).set 0 (some x)) O Z)(hZ:Z (.im (.list ((r.map λg=>S.contains g).map .bool))) O):CB n ix (bi 0) cQ M sl Z ((r.map PyData.int).map AV.im) O:=by
 refine A7 (λj=>.bool (S.contains (r.getD j 0))) (by rw[Zb,Zb];omega) (λj x Z hx hZ=>hM j x Z hx hZ) ?_;rw[Zb,Zb];have e:(List.range r.length).map (λj=>PyData.bool (S.contains (r.getD j 0)))=(r.map λg=>S.contains g).map .bool:=by
  rw[Zm];exact Ba (λg:Int=>PyData.bool (S.contains g)) r 0
 rw[e];exact hZ
def MY:∀O xs Pq QX,BQ O xs Pq QX->RG { nx:=λ_ O'=>Pq (.im .none) O',rt:=Pq } (bh L9 xs) O:=by
 intro O xs Pq QX h;obtain⟨M,S,rfl,n6,r6,h⟩:=h;refine wJ (λi=>(M.getD i []).any λg=>S.contains g) (λi=>.int (i:Int)) (λi=>.int (i:Int)) (λi=>aT (M.getD i [])) (by unfold cF;simp;omega) (λi x hx=>?_) (λi Z hi hZ=>?_) (λi Z hi _ hZ=>hZ) ?_
 .obtain⟨hi,rfl⟩:=iT hx;rw[Zb] at hi;rw[show(M.map aT).getD i .none=aT (M.getD i []) from jw hi]
 .have hi:i<M.length:=by unfold cF at hi;simpa using hi
  conv=>whnf
  refine Dz (S:=S) (r6 i hi) (λj x Z hx hZ=>?_) ⟨_,rfl,?_⟩
  .obtain⟨hj,rfl⟩:=A5 hx;exact⟨S,rfl,hZ⟩
  .show Z (List.any _ id) O;rw[any_map];exact hZ
 .have e:(cF (M.map aT)).length=M.length:=by unfold cF;simp
  rw[e];exact h
def sM:FM:=λO xs P _=>∃ns:Γ3,xs=[.im (aT ns)]/\ns.length<=6/\P (.im (.list ((aO ns).map aT))) O
abbrev My:Δ2:=["members","sets","member"]
def J0:MS:=(bv (bE (u5 (af (ij ar) ar)) (bi 1))
 (bv (oz (cz (ah 0)) (bi 2) (bE (bL jB (ah 1) (bY 1 [2] (cz (ah 1)) (bi 0) cQ (bL jB (ah 0) (ij (af (ah 1) ar))))) (bi 1)))
 (cU (ah 1))))
def Hj:∀O xs Pq QX,sM O xs Pq QX->J0 { nx:=λ_ O'=>Pq (.im .none) O',rt:=Pq } (bh My xs) O:=by
 intro O xs Pq QX h;obtain⟨ns,rfl,n6,h⟩:=h;refine⟨LJ,Gs,?_⟩;refine⟨?_⟩;conv=>whnf
 refine⟨λi sl O'=>O'=O/\∃y,sl=[Φ9 (aT ns),Φ9 (.list ((aO (ns.take i)).map aT)),y],⟨rfl,_,rfl⟩,?_,?_⟩
 .rintro i x sl O' hx ⟨rfl,y,rfl⟩;obtain⟨hi,rfl⟩:=A5 hx;have ht:=Kw (0:Int) hi;have hl:(aO (ns.take i)).length<=64:=by
   rw[Om];exact Xn (n:=2) (by decide) (show(ns.take i).length<=6 by rw[Y0];omega)
  refine⟨?_⟩;conv=>whnf
  refine A7 (λj=>aT ((aO (ns.take i)).getD j []++[ns.getD i 0])) (by rw[Zb,Zb];omega) (λj x Z hx hZ=>?_) ?_
  .obtain⟨hj,rfl⟩:=j1 hx;have hm:=(zP (show(aO (ns.take i)).getD j []∈aO (ns.take i) by rw[ao (Zc hj)];exact Zv _)).2;have Uu:((aO (ns.take i)).getD j []).length<=6:=by rw[Y0] at hm;omega
   refine⟨Gs,by rw[Zb,sz];show _+1<=_;omega,?_⟩;have e:aT ((aO (ns.take i)).getD j []++[ns.getD i 0])=.tuple (((aO (ns.take i)).getD j []).map .int++[.int (ns.getD i 0)]):=by unfold aT;rw[Zs];rfl
   rw[e] at hZ;exact hZ
  .rw[Zb,Zb,Ba (λr:Γ3=>aT (r++[ns.getD i 0])) (aO (ns.take i)) []];refine⟨by rw[Zb,Zb,sz];omega,rfl,Φ9 (.int (ns.getD i 0)),?_⟩;rw[ht,jH,Zs,Zm];rfl
 .rintro sl O' ⟨rfl,y,rfl⟩;rw[Zb,Zb,Yj];exact⟨h⟩
def Ie {s:List Nat}{i:Nat}{x:AV}(h:((s.map λg:Nat=>PyData.int (g:Int)).map AV.im)[i]?=some x):i<s.length/\x=.im (.int ((s.getD i 0:Nat):Int))/\s.getD i 0∈s:=Ib h
def kR:FM:=λO xs P _=>∃(cs:Γ3) (s:List Nat),xs=[.im (et cs),.im (sk s)]/\s.length<=6/\(∀i∈s,i<cs.length)/\P (.im (.int (zm cs s))) O
abbrev Mp:Δ2:=["coins","some"]
def Dd:MS:=(cU (jj FV (af (bY 1 [0] (cz (ah 1)) (bi 0) cQ (bL cZ (ah 1) (ah 0))) ar)))
def DR:∀O xs Pq QX,kR O xs Pq QX->Dd { nx:=λ_ O'=>Pq (.im .none) O',rt:=Pq } (bh Mp xs) O:=by
 intro O xs Pq QX h;obtain⟨cs,s,rfl,s6,hs,h⟩:=h;conv=>whnf
 refine A7 (λj=>.int (cs.getD (s.getD j 0) 0)) (by rw[Zb,Zb];omega) (λj x Z hx hZ=>?_) ?_
 .obtain⟨hj,rfl,hm⟩:=Ie hx;exact⟨_,int_at (hs _ hm),hZ⟩
 .rw[Zb,Zb,yq s 0 (λb=>cs.getD b 0)];exact⟨_,rfl,h⟩
def GJ:FM:=λO xs P _=>∃(A:Γ3) (Pu:Δ1) (W:Γ1) (qs:Δ1),xs=[.im (g9 A Pu W),.im (.tuple (qs.map qD))]/\qs.length=A.length/\A.length<=6/\(∀a∈A,1<=a/\a<=60)/\(∀z∈qs,Rb 293 z)/\P (.im (.list ((gn A qs).map qD))) O
abbrev Mm:Δ2:=Ψ8
def RM:MS:=(cU (bY 2 [] (Px (af (bL cZ (ah 0) (mC (.int 0))) (af (ah 1) ar))) (ln 2 (aG (bi 0) (aG (bi 1) cc))) cQ (aE (f2 on) cH (af (ij (af (ah 0) (af (mC (.int 1)) ar))) (af (ah 1) ar)))))
def M2:∀O xs Pq QX,GJ O xs Pq QX->RM { nx:=λ_ O'=>Pq (.im .none) O',rt:=Pq } (bh Mm xs) O:=by
 intro O xs Pq QX h;obtain⟨A,Pu,W,qs,rfl,hl,g6,hA,hq,h⟩:=h;refine⟨_,rfl,by rw[Zb,Zb];omega,?_⟩;refine gk (λj=>qD (((A.getD j 0:Int):Rat)*qs.getD j 0)) (λj=>.int (A.getD j 0)) (λj=>qD (qs.getD j 0)) (by rw[E6,Zb];omega) (λi x hx=>?_) (λi Z hi hZ=>?_) ?_
 .obtain⟨hi,rfl⟩:=qc hx;rw[Zb] at hi;rw[show(A.map PyData.int).getD i .none=.int (A.getD i 0) from jw hi,show(qs.map qD).getD i .none=qD (qs.getD i 0) from jw (by omega)]
 .rw[E6,Zb] at hi;have ha:=hA (A.getD i 0) (by rw[ao (Zc hi)];exact Zv _);have hb:=hq (qs.getD i 0) (by rw[ao (Zc (show i<qs.length by omega))];exact Zv _);exact⟨jS,((A.getD i 0:Int):Rat),qs.getD i 0,rfl,⟨(yZ (k:=6) (by unfold Bd;omega) (by decide)).mono (by decide),hb.mono (by decide)⟩,hZ⟩
 .rw[E6,Zb];have e:(List.range A.length).map (λj=>qD (((A.getD j 0:Int):Rat)*qs.getD j 0))=(gn A qs).map qD:=by
   unfold gn;rw[Zm,hl];exact Yy λj _=>by show qD _=qD _;rw[Rat.mul_comm]
  rw[e];exact h
def GI:FM:=λO xs P _=>∃(ls:Δ1) (kb:Nat),xs=[.im (.list (ls.map qD))]/\ls.length<=12/\kb<=300/\(∀z∈ls,Rb kb z)/\∀(c:Int) (ms:Γ3),0<c->cG c ms ls->(∀m∈ms,Bd (13*kb+1) m)->P (.im (et ms)) O
abbrev Mj:Δ2:=["parts","bottom","part"]
def RK:MS:=(bv (bE (mC (.int 1)) (bi 1))
 (bv (oz (cz (ah 0)) (bi 2) (bE (bL zo (bL LY (ah 1) (aE Cp cH (af (ah 1) (af (bL cZ (ah 2) (mC (.int 1))) ar)))) (bL cZ (ah 2) (mC (.int 1)))) (bi 1)))
 (cU (bY 1 [1] (cz (ah 0)) (bi 0) cQ (bL zo (bL cZ (ah 0) (mC (.int 0))) (bL LY (ah 1) (bL cZ (ah 0) (mC (.int 1)))))))))
def M1:∀O xs Pq QX,GI O xs Pq QX->RK { nx:=λ_ O'=>Pq (.im .none) O',rt:=Pq } (bh Mj xs) O:=by
 intro O xs Pq QX h;obtain⟨ls,kn,rfl,ll,k3,lb,jz⟩:=h;refine⟨?_⟩;conv=>whnf
 have lat:∀{j:Nat}{x:AV},((ls.map qD).map AV.im)[j]?=some x->j<ls.length/\x=.im (qD (ls.getD j 0))/\Rb kn (ls.getD j 0):=λ{j x} hx=>by
  have hj:j<ls.length:=by have:=(Zf.mp hx).1;simpa using this
  rw[Zl,mh (f:=qD) (d:=0) hj] at hx;exact⟨hj,(Option.some.inj hx).symm,lb _ (by rw[ao (Zc hj)];exact Zv _)⟩
 refine⟨λi sl O'=>O'=O/\∃(oi:Int) (y4:Option AV),sl=[Φ9 (.list (ls.map qD)),Φ9 (.int oi),y4]/\0<oi/\Bd (kn*i+1) oi/\∀j,j<i->((ls.getD j 0).den:Int)∣oi,⟨rfl,1,none,rfl,by decide,by rw[Nat.mul_zero];unfold Bd;decide,λj hj=>absurd hj (by omega)⟩,?_,?_⟩
 .rintro i x sl O' hx ⟨rfl,oi,y4,rfl,b0,bb,bd⟩;obtain⟨hi,rfl,hb⟩:=lat hx;have dp:(0:Int)<((ls.getD i 0).den:Int):=by have:=(ls.getD i 0).den_pos;omega
  have gp:(0:Int)<(Int.gcd oi ((ls.getD i 0).den:Int):Int):=by have:=Qr oi (show((ls.getD i 0).den:Int)≠0 by omega);omega
  have g1:(Int.gcd oi ((ls.getD i 0).den:Int):Int)∣oi:=Int.gcd_dvd_left ..;have g2:(Int.gcd oi ((ls.getD i 0).den:Int):Int)∣((ls.getD i 0).den:Int):=Qs ..;generalize VZ:(Int.gcd oi ((ls.getD i 0).den:Int):Int)=gg at gp g1 g2;have gb:Bd 8000 gg:=by
   refine(hb.2.mono (show kn<=8000 by omega)).le ?_;have:=Int.le_of_dvd dp g2;omega
  obtain⟨k,hk⟩:=g1;have k0:0<k:=by
   rcases Int.lt_or_le 0 k with z |z
   .exact z
   .have:gg*k<=0:=Int.mul_nonpos_of_nonneg_of_nonpos (by omega) z;omega
  have ek:oi / gg=k:=by rw[hk,Int.mul_ediv_cancel_left _ (by omega)]
  have kl:kn*i<=3600:=Nat.mul_le_mul k3 (show i<=12 by omega);have kb:Bd (kn*i+1) k:=bb.le (by
   have:k<=gg*k:=by
    have:=Int.mul_le_mul_of_nonneg_right (show 1<=gg by omega) (show 0<=k by omega)
    rwa [Int.one_mul] at this
   omega)
  refine⟨_,rfl,⟨by rw[VZ];exact gp,by rw[VZ];exact gb⟩,_,rfl,?_⟩;dsimp only;rw[VZ,ek];refine⟨⟨kb.mono (by omega),hb.2.mono (by omega)⟩,rfl,_,_,rfl,Y7 k0 dp,(kb.mul hb.2).mono (by rw[Nat.mul_succ];omega),λj hj=>?_⟩;rcases Z5 j i with y |y
  .have h1:=bd j y;obtain⟨m,hm⟩:=g2;have:k*((ls.getD i 0).den:Int)=oi*m:=by rw[hm,hk];grind
   rw[this];exact Int.dvd_trans h1 (Int.dvd_mul_right _ _)
  .obtain rfl:j=i:=by omega
   exact Int.dvd_mul_left _ _
 .rintro sl O' ⟨rfl,oi,y4,rfl,b0,bb,bd⟩;rw[Zb,Zb] at bb bd;have kl:kn*ls.length<=kn*12:=Nat.mul_le_mul_left kn ll;have bdv:∀j,j<ls.length->Bd (kn*ls.length+1) (oi / ((ls.getD j 0).den:Int)):=λj hj=>by
   have dp:(0:Int)<((ls.getD j 0).den:Int):=by have:=(ls.getD j 0).den_pos;omega
   refine bb.le ?_;have h1:=Int.ediv_nonneg (show 0<=oi by omega) (show(0:Int)<=((ls.getD j 0).den:Int) by omega);have h2:=Int.ediv_le_self ((ls.getD j 0).den:Int) (show 0<=oi by omega);omega
  refine⟨?_⟩;conv=>whnf
  refine A7 (λj=>.int ((ls.getD j 0).num*(oi / ((ls.getD j 0).den:Int)))) (by rw[Zb,Zb];omega) (λj x Z hx hZ=>?_) ?_
  .obtain⟨hj,rfl,hb⟩:=lat hx;have dp:(0:Int)<((ls.getD j 0).den:Int):=by have:=(ls.getD j 0).den_pos;omega
   exact⟨_,rfl,_,rfl,⟨dp,hb.2.mono (by omega)⟩,⟨hb.1.mono (by omega),(bdv j hj).mono (by omega)⟩,hZ⟩
  rw[Zb,Zb,yq ls 0 (λq:Rat=>q.num*(oi / (q.den:Int)))];refine jz oi _ b0 ⟨by simp,λj hj=>?_⟩ λm hm=>?_
  .rw[show(ls.map λq:Rat=>q.num*(oi / (q.den:Int))).getD j 0=(ls.getD j 0).num*(oi / ((ls.getD j 0).den:Int)) from jw hj];have bj:=bd j hj;generalize ls.getD j 0=q at bj ⊢;obtain⟨k,hk⟩:=bj;have dp:(q.den:Int)≠0:=by have:=q.den_pos;omega
   rw[hk,Int.mul_ediv_cancel_left _ dp,Xj,Xj];have e:q=((q.num:Int):Rat) / ((q.den:Int):Rat):=by rw[<- Qe];exact(Xw q).symm
   have dq:((q.den:Int):Rat)≠0:=λz=>dp (by exact_mod_cast z)
   have e2:q*((q.den:Int):Rat)=((q.num:Int):Rat):=by
    conv=>lhs;rw[e]
    grind
   rw[<- e2]
   grind
  .obtain⟨q,hq',rfl⟩:=Zd.mp hm;obtain⟨j,hj,rfl⟩:=Ye hq';have hb:=lb _ hq';have:=bdv j hj;rw[ao (Zc hj)] at this;exact(hb.1.mul this).mono (by omega)
def vc:FM:=λO xs P _=>∃(A:Γ3) (Pu:Δ1) (W:Γ1) (qs:Δ1) (kb:Nat),xs=[.im (g9 A Pu W),.im (.tuple (qs.map qD))]/\qs.length=A.length/\A.length<=6/\Pu.length<=6/\(∀a∈A,1<=a/\a<=60)/\(∀z∈Pu,Rb 20 z)/\kb<=293/\20<=kb/\(∀z∈qs,Rb kb z)/\∀(c:Int) (ms ps:Γ3),0<c->cG c ms (gn A qs)->cG c ps Pu->(∀m∈ms,Bd (13*kb+79) m)->(∀m∈ps,Bd (13*kb+79) m)->P (.im (.tuple [et ms,et ps])) O
abbrev Sx:Δ2:=["market","prices","coins","goods"]
def RN:MS:=(bv (bE (aE GI cH (af (bL jB (aE GJ cH (af (ah 0) (af (ah 1) ar))) (jj Gq (af (bL cZ (ah 0) (mC (.int 1))) ar))) ar)) (bi 2))
 (bv (bE (jj BK (af (bL cZ (ah 0) (mC (.int 0))) ar)) (bi 3))
 (cU (ij (af (Uj (ah 2) Gp (Gm (ah 3))) (af (Uj (ah 2) (Gm (ah 3)) Gp) ar))))))
def M3:∀O xs Pq QX,vc O xs Pq QX->RN { nx:=λ_ O'=>Pq (.im .none) O',rt:=Pq } (bh Sx xs) O:=by
 intro O xs Pq QX h;obtain⟨A,Pu,W,qs,kn,rfl,hl,g6,n6,hA,hP,k3,k2,hq,h⟩:=h;have hAa:∀j,j<A.length->1<=A.getD j 0/\A.getD j 0<=60:=λj hj=>hA _ (by rw[ao (Zc hj)];exact Zv _)
 have ml:(gn A qs).length=qs.length:=by unfold gn;simp
 refine⟨A,Pu,W,qs,rfl,hl,g6,hA,λz hz=>(hq z hz).mono k3,_,rfl,by rw[Zb,Zb,ml,sz];omega,gn A qs++Pu,kn+6,by rw[Zs],by rw[Zu];omega,by omega,λz hz=>?_,λc ms hc hi hmb=>?_⟩
 .rcases Z0.mp hz with hz |hz
  .obtain⟨j,hj,rfl⟩:=Zd.mp hz;have hj:=Zq.mp hj;have ha:=hAa j (by omega);exact(kN (j:=kn) (k:=6) (hq _ (by rw[ao (Zc hj)];exact Zv _)) (yZ (by unfold Bd;omega) (by decide))).mono (Ze _)
  .exact(hP z hz).mono (by omega)
 obtain⟨i1,i2⟩:=wA hi;have OA:ms.length=qs.length+Pu.length:=by rw[hi.1,Zu,ml]
 rw[ml] at i1 i2;have fi:=h c _ _ hc i1 i2 (λm hm=>(hmb m (List.mem_of_mem_take hm)).mono (by omega)) λm hm=>(hmb m (List.mem_of_mem_drop hm)).mono (by omega)
 refine⟨⟨_,rfl,⟨?_⟩⟩⟩;have hqm:(((A.map PyData.int).length:Nat):Int)=((qs.length:Nat):Int):=by rw[Zb,hl]
 have hto:=EL (xs:=ms.map PyData.int) (r:=qs.length) (by rw[Zb];omega);have Jf:=pH (xs:=ms.map PyData.int) (r:=((qs.length:Nat):Int)) (by omega) (by rw[Zb];omega);rw[Z3] at Jf;show[PyData.list (cutD (ms.map .int) none (some (((A.map PyData.int).length:Nat):Int))),PyData.list (cutD (ms.map .int) (some (((A.map PyData.int).length:Nat):Int)) none)].length<=sizeLine/\Pq (.im (.tuple [PyData.list (cutD (ms.map .int) none (some (((A.map PyData.int).length:Nat):Int))),PyData.list (cutD (ms.map .int) (some (((A.map PyData.int).length:Nat):Int)) none)])) _;rw[hqm,hto,Jf];refine⟨jS,?_⟩;unfold et at fi;rw[List.map_take,List.map_drop] at fi;exact fi
def bK (M:Γ1)(Pd:Γ3):Γ1:=M.map λr=>if (r.any λg=>Pd.contains g)=true then [] else r
def sL:FM:=λO xs P _=>∃(M:Γ1) (Pd:Γ3),xs=[.im (.tuple (M.map aT)),.im (aT Pd)]/\M.length<=6/\(∀i,i<M.length->(M.getD i []).length<=6)/\P (.im (.tuple ((bK M Pd).map aT))) O
abbrev Mn:Δ2:=["best","paid"]
def JY:MS:=(cU (jj jg (af (bY 1 [1] (cz (ah 0)) (bi 0) cQ (Py (ia (jj BR (af (bY 1 [1] (cz (ah 0)) (bi 0) cQ (bL (Ou false) (ah 0) (ah 1))) ar))) (ij ar) (ah 0))) ar)))
def Hi:∀O xs Pq QX,sL O xs Pq QX->JY { nx:=λ_ O'=>Pq (.im .none) O',rt:=Pq } (bh Mn xs) O:=by
 intro O xs Pq QX h;obtain⟨M,Pd,rfl,n6,r6,h⟩:=h;conv=>whnf
 refine A7 (λi=>aT (if ((M.getD i []).any λg=>Pd.contains g)=true then [] else M.getD i [])) (by rw[Zb,Zb];omega) (λi x Z hx hZ=>?_) ?_
 .obtain⟨hi,rfl⟩:=j1 hx;conv=>whnf
  refine Dz (S:=Pd) (r6 i hi) (λj x Z hx hZ=>?_) ⟨_,rfl,?_⟩
  .obtain⟨hj,rfl⟩:=A5 hx;exact⟨Pd,rfl,hZ⟩
  .show(List.any _ id=true->_)/\(List.any _ id=false->_);rw[any_map];refine⟨λhc=>⟨LJ,?_⟩,λhc=>?_⟩
   .rw[if_pos hc] at hZ;exact hZ
   .rw[if_neg (by rw[hc];decide)] at hZ;exact hZ
 .rw[Zb,Zb,Ba (λr:Γ3=>aT (if (r.any λg=>Pd.contains g)=true then [] else r)) M []];unfold bK at h;rw[Zm] at h;exact h
def Aq {W:Γ1}{qs:Δ1}{Pd S:Γ3}(hP:∀x∈Pd,0<=x)(hS:∀x∈S,0<=x):ou (bK (aw W qs) Pd) S=loose W qs Pd S:=by
 unfold loose;rw[<- qG (W:=W) (qs:=qs) hS,<- qG (W:=W) (qs:=qs) hP];unfold ou;have hl:(bK (aw W qs) Pd).length=(aw W qs).length:=by unfold bK;simp
 rw[hl,Qv];refine Y2 λi hi=>?_
 have hi:=Zq.mp hi;have e:(bK (aw W qs) Pd).getD i []=if (((aw W qs).getD i []).any λg=>Pd.contains g)=true then [] else (aw W qs).getD i []:=by unfold bK;exact jw hi
 rw[e];have ec:((List.range (aw W qs).length).filter λi=>((aw W qs).getD i []).any λg=>Pd.contains g).contains i=((aw W qs).getD i []).any λg=>Pd.contains g:=by
  rw[Yc,Yz,Zo,Zq];exact⟨λh=>h.2,λh=>⟨hi,h⟩⟩
 rw[ec];cases ((aw W qs).getD i []).any λg=>Pd.contains g with
 |true=>rw[if_pos rfl];simp
 |false=>rw[if_neg (by decide)];simp
def xA:FM:=λO xs P _=>∃(qs:Δ1) (R:Γ3) (f:Rat),xs=[.im (.tuple (qs.map qD)),.im (aT R),.im (qD f)]/\qs.length<=6/\(∀z∈qs,Rb 3000 z)/\Rb 3000 f/\P (.im (.tuple (((List.range qs.length).map λg:Nat=>if R.contains (g:Int)=true then qs.getD g 0*f else qs.getD g 0).map qD))) O
abbrev Mg:Δ2:=["prices","rising","factor"]
def JU:MS:=(cU (jj jg (af (bY 2 [2,1] (Ui (af (ah 0) ar)) (ln 2 (aG (bi 0) (aG (bi 1) cc))) cQ (Py (ia (bL (Ou false) (ah 0) (ah 3))) (aE (f2 on) cH (af (ah 1) (af (ah 2) ar))) (ah 1))) ar)))
def He:∀O xs Pq QX,xA O xs Pq QX->JU { nx:=λ_ O'=>Pq (.im .none) O',rt:=Pq } (bh Mg xs) O:=by
 intro O xs Pq QX h;obtain⟨qs,R,f,rfl,g6,hq,hf,h⟩:=h;have el:(cF (qs.map qD)).length=qs.length:=by unfold cF;simp
 refine gk (λi=>qD (if R.contains ((i:Nat):Int)=true then qs.getD i 0*f else qs.getD i 0)) (λi=>.int (i:Int)) (λi=>qD (qs.getD i 0)) (by rw[el];omega) (λi x hx=>?_) (λi Z hi hZ=>?_) ?_
 .obtain⟨hi,rfl⟩:=iT hx;rw[Zb] at hi;rw[show(qs.map qD).getD i .none=qD (qs.getD i 0) from jw hi]
 .rw[el] at hi;have hb:=hq (qs.getD i 0) (by rw[ao (Zc hi)];exact Zv _);refine⟨R,rfl,λhc=>⟨qs.getD i 0,f,rfl,⟨hb,hf⟩,?_⟩,λhc=>?_⟩
  .have hc:R.contains ((i:Nat):Int)=true:=hc;rw[if_pos hc] at hZ;exact hZ
  .have hc:R.contains ((i:Nat):Int)=false:=hc;rw[if_neg (by rw[hc];decide)] at hZ;exact hZ
 .rw[el];rw[Zm] at h;exact h
def qC:FM:=λO xs P _=>∃L:Δ1,xs=[.im (.list (L.map qD))]/\L≠[]/\(∀z∈L,Rb 3000 z)/\∀f,jr L f->P (.im (qD f)) O
abbrev Sw:Δ2:=["parts","found","part"]
def C9:MS:=(bv (bE (bL cZ (ah 0) (mC (.int 0))) (bi 1))
 (bv (oz (cz (ah 0)) (bi 2) (sn (ia (aE Kc cH (af (ah 2) (af (ah 1) ar)))) (bE (ah 2) (bi 1)) lr))
 (cU (ah 1))))
def DP:∀O xs Pq QX,qC O xs Pq QX->C9 { nx:=λ_ O'=>Pq (.im .none) O',rt:=Pq } (bh Sw xs) O:=by
 intro O xs Pq QX h;obtain⟨L,rfl,bo,hb,h⟩:=h;have h0:0<L.length:=Xd.mpr bo;have hm:∀i,i<L.length->L.getD i 0∈L:=λi hi=>by rw[ao (Zc hi)];exact Zv _
 refine⟨_,bR (i:=0) (mh (f:=qD) (d:=(0:Rat)) h0),?_⟩;refine⟨?_⟩;conv=>whnf
 refine⟨λi sl O'=>O'=O/\∃(f:Rat) (y:Option AV),sl=[Φ9 (.list (L.map qD)),Φ9 (qD f),y]/\f∈L/\∀z∈L.take i,f<=z,⟨rfl,_,_,rfl,hm 0 h0,λz hz=>(by cases hz)⟩,?_,?_⟩
 .rintro i x sl O' hx ⟨rfl,f,y,rfl,f1,f2⟩;have hi:i<L.length:=by have:=(Zf.mp hx).1;simpa using this
  rw[Zl,mh (f:=qD) (d:=(0:Rat)) hi] at hx;cases Option.some.inj hx;have ht:=Kw (0:Rat) hi;refine⟨L.getD i 0,f,rfl,⟨hb _ (hm i hi),hb _ f1⟩,λhc=>⟨rfl,_,_,rfl,hm i hi,?_⟩,λhc=>⟨rfl,_,_,rfl,f1,?_⟩⟩
  .have hc:L.getD i 0<f:=of_decide_eq_true hc;rw[ht];intro z hz;rcases Z0.mp hz with hz |hz
   .exact Yv (Yb hc) (f2 z hz)
   .rw[Z2.mp hz];exact Yk
  .have hc:¬ L.getD i 0<f:=of_decide_eq_false hc;rw[ht];intro z hz;rcases Z0.mp hz with hz |hz
   .exact f2 z hz
   .rw[Z2.mp hz];exact Yq.mp hc
 .rintro sl O' ⟨rfl,f,y,rfl,f1,f2⟩;rw[Zb,Zb,Yj] at f2;exact⟨h f ⟨f1,f2⟩⟩
def DL {S:Γ3}(h:∀x∈S,0<=x):aT S=sk (aN S):=by
 unfold aT sk aN;rw[Zm]
 congr 1
 exact Yy λx hx=>by show PyData.int x=PyData.int ((x.toNat:Nat):Int);rw[Xe (h x hx)]
def qM {ns:Γ3}(nd:ns.Nodup):(aO ns).filter (λS=>!S.isEmpty)=(aO ns).drop 1:=by
 have e0:aO ns=[]::(aO ns).drop 1:=o6 ns;have h:∀S∈(aO ns).drop 1,(!S.isEmpty)=true:=λS hS=>by
  have:=(o7 nd hS).2;cases S with
  |nil=>exact absurd rfl this
  |cons _ _=>rfl
 conv=>lhs;rw[e0]
 rw[X5 (by decide),X8.mpr h]
def xC:FM:=λO xs P _=>∃(A:Γ3) (Pu:Δ1) (W:Γ1) (qs:Δ1) (Pd:Γ3),xs=[.im (g9 A Pu W),.im (.tuple (qs.map qD)),.im (.tuple ((bK (aw W qs) Pd).map aT)),.im (aT (bC A.length W Pd))]/\gY A Pu W qs/\Pd.Sublist (aD A.length W)/\P (.im (.list ((((aO (bC A.length W Pd)).drop 1).map (sj A Pu qs W Pd)).map qD))) O
abbrev Mh:Δ2:=["market","prices","loose","rising","money","purses"]
def JW:MS:=(bv (bE (aE vc cH (af (ah 0) (af (ah 1) ar))) (ln 2 (aG (bi 4) (aG (bi 5) cc))))
 (cU (bY 1 [2,4,5] (cz (aE sM cH (af (ah 3) ar))) (bi 0) (BJ (ah 0)) (aE GK cH (af (aE kR cH (af (ah 3) (af (aE BQ cH (af (ah 1) (af (ah 0) ar))) ar))) (af (aE kR cH (af (ah 2) (af (ah 0) ar))) ar))))))
def Hg:∀O xs Pq QX,xC O xs Pq QX->JW { nx:=λ_ O'=>Pq (.im .none) O',rt:=Pq } (bh Mh xs) O:=by
 intro O xs Pq QX h;obtain⟨A,Pu,W,qs,Pd,rfl,rp,KU,h⟩:=h;have pr:=rp.pr;have mf:=A8 pr.ok;have hl:=pr.len;have g6:=mf.g6;have n6:=mf.n6;have wl:=mf.wl;have hR:(bC A.length W Pd).Sublist (aD A.length W):=Yp;have Wg:(bC A.length W Pd).Nodup:=(Op A.length W).sublist hR;have UD:(bC A.length W Pd).length<=6:=by have:=hR.length_le;have:=fV A.length W;omega
 refine⟨A,Pu,W,qs,293,rfl,hl,g6,n6,mf.am,λz hz=>(mf.pu z hz).2,Ze _,by decide,pr.bd,λc ms ps hc im ip imb _=>?_⟩;have mm:(gn A qs).length=qs.length:=by unfold gn;simp
 have iml:ms.length=A.length:=by rw[im.1,mm,hl]
 have ipl:ps.length=Pu.length:=ip.1;refine⟨rfl,⟨_,rfl,UD,?_⟩⟩;conv=>whnf
 have ahJ:(aO (bC A.length W Pd)).length<=64:=by rw[Om];exact Xn (n:=2) (by decide) UD
 refine k8 (λj=>!((aO (bC A.length W Pd)).getD j []).isEmpty) (λj=>qD (sj A Pu qs W Pd ((aO (bC A.length W Pd)).getD j []))) (by rw[Zb,Zb];omega) (λj x Z hx hZ=>?_) (λj x Z hx ja hZ=>?_) ?_
 .obtain⟨hj,rfl⟩:=j1 hx;refine⟨rfl,?_⟩;show Z (!_) O;rw[Q4];exact hZ
 .obtain⟨hj,rfl⟩:=j1 hx;have hS:(aO (bC A.length W Pd)).getD j []∈aO (bC A.length W Pd):=by rw[ao (Zc hj)];exact Zv _
  generalize (aO (bC A.length W Pd)).getD j []=S at hS hZ ja ⊢;have QA:S≠[]:=λz=>by rw[z] at ja;cases ja
  have hSr:=cK.mp hS;have hs:=hSr.trans hR;have hsl:S.length<=6:=by have:=hSr.length_le;omega
  have Ur:∀x∈S,0<=x:=λx hx=>(cm (hs.subset hx)).1
  have PN:∀x∈Pd,0<=x:=λx hx=>(cm (KU.subset hx)).1
  have lol:(bK (aw W qs) Pd).length=W.length:=by unfold bK;rw[Zb,Ft]
  have lor:∀i,i<(bK (aw W qs) Pd).length->((bK (aw W qs) Pd).getD i []).length<=6:=λi hi=>by
   have oh:i<W.length:=by omega
   have e:(bK (aw W qs) Pd).getD i []=if (((aw W qs).getD i []).any λg=>Pd.contains g)=true then [] else (aw W qs).getD i []:=by unfold bK;exact jw (by rw[Ft];exact oh)
   rw[e];split
   .exact Z7 _
   .exact Zr (nI oh (mf.wr i oh)) g6
  have mS:=rp.money hs QA;have um:(((zm ms (aN S):Int)):Rat)=(c:Rat)*rD A qs (aN S):=kg im λi hi=>by
   obtain⟨x,hx,rfl⟩:=Zd.mp hi;have:=(cm (hs.subset hx)).2.1;omega
  have tm:(((zm ps (loose W qs Pd S):Int)):Rat)=(c:Rat)*fQ Pu (loose W qs Pd S):=kg ip λi hi=>by
   have:=nM (Zo.mp hi).1;omega
  have u0:0<zm ms (aN S):=by
   have:(0:Rat)<((zm ms (aN S):Int):Rat):=by rw[um];exact Xp (Yx.mpr hc) mS
   exact Yx.mp this
  have ub:Bd 8000 (zm ms (aN S)):=by
   refine(N7 (k:=4000) (λx hx=>?_) ?_).mono (by decide)
   .obtain⟨i,hi,rfl⟩:=Zd.mp hx;obtain⟨y,hy,rfl⟩:=Zd.mp hi;have:=(cm (hs.subset hy)).2.1;exact(imb _ (by rw[ao (Zc (show y.toNat<ms.length by omega))];exact Zv _)).mono (by decide)
   .unfold aN;rw[Zb,Zb];exact hsl
  refine⟨bK (aw W qs) Pd,S,rfl,by omega,lor,ps,ou (bK (aw W qs) Pd) S,rfl,?_,?_,ms,aN S,?_,?_,?_,⟨by omega,ub⟩,?_⟩
  .unfold ou;refine Zr (Y8 _ _) ?_;rw[Y3];omega
  .intro i hi;have:=Zq.mp (Zo.mp hi).1;omega
  .rw[<- DL Ur];rfl
  .unfold aN;rw[Zb];exact hsl
  .intro i hi;obtain⟨x,hx,rfl⟩:=Zd.mp hi;have:=(cm (hs.subset hx)).2.1;omega
  .rw[Aq PN Ur,AK hc tm um mS];exact hZ
 .rw[Zb,Zb,EH (aO (bC A.length W Pd)) [] (λS=>!S.isEmpty) (λS=>qD (sj A Pu qs W Pd S)),qM Wg];rw[Zm] at h;exact h
def qB:FM:=λO xs P _=>∃(A:Γ3) (Pu:Δ1) (W:Γ1) (qs:Δ1) (Pd:Γ3),xs=[.im (g9 A Pu W),.im (.tuple (qs.map qD)),.im (.tuple ((bK (aw W qs) Pd).map aT)),.im (aT Pd)]/\gY A Pu W qs/\Pd.Sublist (aD A.length W)/\P (.im (.list ((gU W qs Pd W.length).map qD))) O
abbrev Ml:Δ2:=["market","prices","loose","paid"]
def C8:MS:=(cU (vo 3 [3,1] (Px (af (bL cZ (ah 0) (mC (.int 2))) (af (ah 2) ar))) (ln 2 (aG (bi 0) (aG (bi 1) cc))) (BJ (ah 1)) (cz (ah 3)) 2 (ia (bL KW (bL cZ (ah 0) (ah 2)) (mC (.int 0)))) (aE Sh cH (af (aE Cm cH (af (bL cZ (ah 0) (bL cZ (ah 1) (mC (.int 0)))) (af (bL cZ (ah 4) (bL cZ (ah 1) (mC (.int 0)))) ar))) (af (aE Cm cH (af (bL cZ (ah 0) (ah 2)) (af (bL cZ (ah 4) (ah 2)) ar))) ar)))))
def i0 {W:Γ1}{qs:Δ1}{Pd:Γ3}(i:Nat):gU W qs Pd (i+1)=gU W qs Pd i++(if !(hV W qs (aN Pd)).contains i&&!((aw W qs).getD i []).isEmpty then mo (W.getD i []) qs Pd (((aw W qs).getD i []).getD 0 0).toNat else []):=by
 unfold gU;rw[Y6,List.flatMap_append,List.flatMap_singleton]
def xQ {row:Γ3}{qs:Δ1}{Pd:Γ3}{b:Nat}:(mo row qs Pd b).length<=Pd.length:=by
 unfold mo;rw[Zb];exact Y8 _ _
def tJ {W:Γ1}{qs:Δ1}{Pd:Γ3}(h:Pd.length<=6)(m:Nat):(gU W qs Pd m).length<=6*m:=by
 induction m with
 |zero=>exact Ze _
 |succ m ih =>
  rw[i0,Zu];have h5:(if (!(hV W qs (aN Pd)).contains m&&!((aw W qs).getD m []).isEmpty)=true then mo (W.getD m []) qs Pd (((aw W qs).getD m []).getD 0 0).toNat else []).length<=6:=by
   split
   .exact Zr xQ h
   .exact Z7 _
  omega
def DF {row:Γ3}{qs:Δ1}{Pd:Γ3}{b j:Nat}(hj:j<Pd.length):mo row qs (Pd.take (j+1)) b=mo row qs (Pd.take j) b++(if 0<row.getD (Pd.getD j 0).toNat 0 then [eY row qs b / eY row qs (Pd.getD j 0).toNat] else []):=by
 unfold mo;rw[Kw (0:Int) hj,Xm,Zs]
 congr 1
 split
 .rename_i hc;rw[Qh (p:=λg:Int=>decide (0<row.getD g.toNat 0)) (decide_eq_true hc)];rfl
 .rename_i hc;rw[X5 (p:=λg:Int=>decide (0<row.getD g.toNat 0)) (by show ¬ (decide _=true);rw[decide_eq_false hc];decide)];rfl
def DO:∀O xs Pq QX,qB O xs Pq QX->C8 { nx:=λ_ O'=>Pq (.im .none) O',rt:=Pq } (bh Ml xs) O:=by
 intro O xs Pq QX h;obtain⟨A,Pu,W,qs,Pd,rfl,rp,KU,h⟩:=h;have pr:=rp.pr;have mf:=A8 pr.ok;have hl:=pr.len;have g6:=mf.g6;have n6:=mf.n6;have wl:=mf.wl;have VL:Pd.length<=6:=by have:=KU.length_le;have:=fV A.length W;omega
 have lol:(bK (aw W qs) Pd).length=W.length:=by unfold bK;rw[Zb,Ft]
 have Ut:∀j,j<qs.length->Rb 293 (qs.getD j 0):=λj hj=>pr.bd _ (by rw[ao (Zc hj)];exact Zv _)
 refine⟨_,rfl,by rw[Zb,Zb,lol];exact Ze _,?_⟩;refine⟨λi ds O'=>O'=O/\ds=(gU W qs Pd i).map qD,⟨rfl,rfl⟩,?_,?_⟩
 .rintro i x ds Oz hx ⟨rfl,rfl⟩;obtain⟨hi,rfl⟩:=qc hx;rw[Zb] at hi;have e1:(W.map aT).getD i .none=aT (W.getD i []):=jw hi;have e2:((bK (aw W qs) Pd).map aT).getD i .none=aT ((bK (aw W qs) Pd).getD i []):=jw (by omega);rw[e1,e2];have elo:(bK (aw W qs) Pd).getD i []=if (((aw W qs).getD i []).any λg=>Pd.contains g)=true then [] else (aw W qs).getD i []:=by unfold bK;exact jw (by rw[Ft];exact hi)
  have etk:(hV W qs (aN Pd)).contains i=((aw W qs).getD i []).any λg=>Pd.contains g:=by
   rw[nS hi];have:=qG (W:=W) (qs:=qs) (S:=Pd) λx hx=>(cm (KU.subset hx)).1
   have h2:(ou (aw W qs) Pd).contains i=(hV W qs (aN Pd)).contains i:=by rw[this]
   rw[nS hi] at h2;rw[<- h2,Yc,Yz];unfold ou;rw[Zo,Zq,Ft];exact⟨λh=>h.2,λh=>⟨hi,h⟩⟩
  refine⟨rfl,rfl,?_⟩;show((!(((bK (aw W qs) Pd).getD i []).map PyData.int).isEmpty)=true->_)/\((!(((bK (aw W qs) Pd).getD i []).map PyData.int).isEmpty)=false->_);rw[Q4];have ec:(!((bK (aw W qs) Pd).getD i []).isEmpty)=(!(hV W qs (aN Pd)).contains i&&!((aw W qs).getD i []).isEmpty):=by
   rw[elo,etk];cases ((aw W qs).getD i []).any λg=>Pd.contains g with
   |true=>rw[if_pos rfl];rfl
   |false=>rw[if_neg (by decide)];rfl
  refine⟨λhc=>?_,λhc=>⟨rfl,?_⟩⟩
  .rw[ec] at hc;have Fj:=(Z8 _ _).mp hc;have hnt:(((aw W qs).getD i []).any λg=>Pd.contains g)=false:=by
    rw[<- etk];cases h5:(hV W qs (aN Pd)).contains i with
    |true=>rw[h5] at Fj;exact absurd Fj.1 (by decide)
    |false=>rfl
   rw[elo,hnt,if_neg (by decide)];have bo:0<((aw W qs).getD i []).length:=by
    cases hb:(aw W qs).getD i [] with
    |nil=>rw[hb] at Fj;exact absurd Fj.2 (by decide)
    |cons _ _=>simp
   have KR:((aw W qs).getD i []).getD 0 0∈(aw W qs).getD i []:=by rw[ao (Zc bo)];exact Zv _
   rw[Ja hi] at KR;obtain⟨b,hb,eb⟩:=Zd.mp KR;rw[<- Ja hi] at eb;obtain⟨oN,oM⟩:=yR mf pr.oo hl hi hb;have ba:gv (((aw W qs).getD i []).map PyData.int) 0=some (.int (b:Int)):=by
    have:=int_at bo;rw[<- eb] at this;exact this
   have ahz:=mf.wr i hi;have wb:=mf.w0 i b hi oN;have msu:=i0 (W:=W) (qs:=qs) (Pd:=Pd) i;rw[hc,if_pos rfl,<- eb,Z3] at msu;have qb:gv (qs.map qD) (b:Int)=some (qD (qs.getD b 0)):=bR (mh (f:=qD) (d:=(0:Rat)) (by omega));refine⟨rfl,λj es O'=>O'=Oz/\es=(gU W qs Pd i++mo (W.getD i []) qs (Pd.take j) b).map qD/\j<=6,⟨rfl,?_,by omega⟩,λj es O' ⟨_,h2,h3⟩=>?_,?_,?_⟩
   .show _=(gU W qs Pd i++[]).map qD;rw[Yg]
   .rw[h2,Zb,Zu];have h4:=tJ (W:=W) (qs:=qs) VL i;have h5:=xQ (row:=W.getD i []) (qs:=qs) (Pd:=Pd.take j) (b:=b);rw[Y0] at h5;omega
   .rintro j y es O' hy ⟨rfl,rfl,hj6⟩;obtain⟨hj,rfl⟩:=A5 hy;obtain⟨p0,p1,p2⟩:=rp.pos (KU.subset (show Pd.getD j 0∈Pd by rw[ao (Zc hj)];exact Zv _));have wg:=mf.w0 i (Pd.getD j 0).toNat hi (by omega);have ra:gv ((W.getD i []).map PyData.int) (Pd.getD j 0)=some (.int ((W.getD i []).getD (Pd.getD j 0).toNat 0)):=YD p0 (by omega);have qa:gv (qs.map qD) (Pd.getD j 0)=some (qD (qs.getD (Pd.getD j 0).toNat 0)):=by
     have:=bR (mh (f:=qD) (d:=(0:Rat)) p1)
     rwa [Xe p0] at this
    have ts:=DF (row:=W.getD i []) (qs:=qs) (b:=b) hj;refine⟨_,ra,λhg=>?_,λhg=>⟨rfl,?_,by omega⟩⟩
    .have hg:0<(W.getD i []).getD (Pd.getD j 0).toNat 0:=of_decide_eq_true hg;have r1:=j7 (row:=W.getD i []) wb (Ut b (by omega)) oM;have r2:=j7 (row:=W.getD i []) wg (Ut _ p1) p2;have Ru:0<eY (W.getD i []) qs (Pd.getD j 0).toNat:=by unfold eY;exact div_pos (Yx.mpr hg) p2
     refine⟨_,ba,_,int_at (by omega),_,ba,_,qb,_,qs.getD b 0,rfl,⟨(Ut b (by omega)).mono (by decide),oM,wb.1,wb.2⟩,_,ra,_,qa,_,qs.getD (Pd.getD j 0).toNat 0,rfl,⟨(Ut _ p1).mono (by decide),p2,wg.1,wg.2⟩,eY (W.getD i []) qs b,eY (W.getD i []) qs (Pd.getD j 0).toNat,rfl,⟨r1.mono (by decide),r2.mono (by decide),λz=>by rw[z] at Ru;exact absurd Ru (by decide)⟩,rfl,?_,by omega⟩;rw[ts,if_pos hg,<- Ys,Zs (l₁:=gU W qs Pd i++mo (W.getD i []) qs (Pd.take j) b)];rfl
    .have hg:¬ 0<(W.getD i []).getD (Pd.getD j 0).toNat 0:=of_decide_eq_false hg;rw[ts,if_neg hg,Yg]
   .rintro es O' ⟨rfl,rfl,_⟩;rw[Zb,Zb,Yj];exact⟨rfl,by rw[msu]⟩
  .rw[ec] at hc;rw[i0,hc,if_neg (by decide),Yg]
 .rintro ds O' ⟨rfl,rfl⟩;rw[E6,Zb];exact h
def oR:FM:=λO xs P _=>∃(A:Γ3) (Pu:Δ1) (W:Γ1) (qs:Δ1),xs=[.im (g9 A Pu W),.im (.tuple (qs.map qD))]/\gY A Pu W qs/\EZ A Pu qs W A.length/\(∀Pd,gZ A Pu qs W A.length Pd->bC A.length W Pd=[]->P (.im .none) O) /\
 ∀Pd f,gZ A Pu qs W A.length Pd->bC A.length W Pd≠[]->jr (gW A Pu qs W A.length Pd) f->P (.im (.tuple [aT Pd,qD f,.tuple ((E2 qs Pd f).map qD)])) O
abbrev Mc:Δ2:=["market","prices","paid","rising","best","paying","meeting","factor"]
def JT:MS:=(bv (bE (aE fPG cH (af (ah 0) (af (ah 1) ar))) (bi 2))
 (bv (bE (jj jg (af (bY 1 [2] (cz (aE BP cH (af (ah 0) ar))) (bi 0) (ia (bL (Ou true) (ah 0) (ah 1))) (ah 0)) ar)) (bi 3))
 (bv (sn (RL (BJ (ah 3))) (cU (mC .none)) lr)
 (bv (bE (aE vB cH (af (ah 0) (af (ah 1) ar))) (bi 4))
 (bv (bE (aE xC cH (af (ah 0) (af (ah 1) (af (aE sL cH (af (ah 4) (af (ah 2) ar))) (af (ah 3) ar))))) (bi 5))
 (bv (bE (aE qB cH (af (ah 0) (af (ah 1) (af (aE sL cH (af (ah 4) (af (ah 2) ar))) (af (ah 2) ar))))) (bi 6))
 (bv (bE (aE qC cH (af (bL jB (ah 5) (ah 6)) ar)) (bi 7))
 (cU (ij (af (ah 2) (af (ah 7) (af (aE xA cH (af (ah 1) (af (ah 3) (af (ah 7) ar)))) ar))))))))))))
def Hd:∀O xs Pq QX,oR O xs Pq QX->JT { nx:=λ_ O'=>Pq (.im .none) O',rt:=Pq } (bh Mc xs) O:=by
 intro O xs Pq QX h;obtain⟨A,Pu,W,qs,rfl,rp,oq,hn,hf⟩:=h;have pr:=rp.pr;have mf:=A8 pr.ok;have hl:=pr.len;have g6:=mf.g6;have n6:=mf.n6;have n1:=mf.n1;have wl:=mf.wl;refine⟨A,Pu,W,qs,rfl,pr,oq,λPd pd=>?_⟩;refine⟨A,Pu,W,rfl,g6,by omega,mf.wr,?_⟩;conv=>whnf
 refine k8 (λj=>!Pd.contains ((sw A.length W).getD j 0)) (λj=>.int ((sw A.length W).getD j 0)) (by rw[Zb,Zb];have:=fV A.length W;exact Zr this (by omega)) (λj x Z hx hZ=>?_) (λj x Z hx _ hZ=>?_) ?_
 .obtain⟨hj,rfl⟩:=A5 hx;exact⟨Pd,rfl,hZ⟩
 .obtain⟨hj,rfl⟩:=A5 hx;exact hZ
 rw[Zb,Zb,EG (sw A.length W) (λx=>!Pd.contains x)];refine⟨rfl,?_⟩;show((!(!((bC A.length W Pd).map PyData.int).isEmpty))=true->_)/\((!(!((bC A.length W Pd).map PyData.int).isEmpty))=false->_);rw[Bool.not_not,Q4];refine⟨λe=>hn Pd pd (List.isEmpty_iff.mp e),λe=>?_⟩;have hrn:bC A.length W Pd≠[]:=λz=>by rw[z] at e;cases e
 have hbl:(aw W qs).length<=6:=by rw[Ft];omega
 have Uz:∀k,k<(aw W qs).length->((aw W qs).getD k []).length<=6:=λk hk=>by rw[Ft] at hk;exact Zr (nI hk (mf.wr k hk)) g6
 have VL:Pd.length<=6:=by have:=pd.sub.length_le;have:=fV A.length W;omega
 have hR:(bC A.length W Pd).Sublist (aD A.length W):=Yp;have UD:(bC A.length W Pd).length<=6:=by have:=hR.length_le;have:=fV A.length W;omega
 refine⟨A,Pu,W,qs,rfl,pr,⟨aw W qs,Pd,rfl,hbl,Uz,A,Pu,W,qs,Pd,rfl,rp,pd.sub,⟨aw W qs,Pd,rfl,hbl,Uz,A,Pu,W,qs,Pd,rfl,rp,pd.sub,?_⟩⟩⟩;have P1:=IL (A:=A) (Pu:=Pu) (qs:=qs) hrn;have hfb:=DT rp pd.sub;have OA:=tJ (W:=W) (qs:=qs) VL W.length;refine⟨by
  rw[Zb,Zb,Zb,Xz,Om,sz];have:2 ^ (bC A.length W Pd).length<=64:=Xn (n:=2) (by decide) UD;omega,gW A Pu qs W A.length Pd,by unfold gW;rw[Zs],P1,hfb,λf Gy=>?_⟩
 refine⟨qs,bC A.length W Pd,f,rfl,by omega,λz hz=>(pr.bd z hz).mono (by decide),hfb f Gy.1,RT,?_⟩;have er:(List.range qs.length).map (λg:Nat=>if (bC A.length W Pd).contains (g:Int)=true then qs.getD g 0*f else qs.getD g 0)=E2 qs Pd f:=by
  unfold E2;refine Yy λg hg=>?_
  have hg:=Zq.mp hg;have hwm:((g:Int)∈aD A.length W)↔has W g=true:=by
   unfold aD au;rw[Zd];constructor
   .rintro⟨x,hx,e⟩;have:x=g:=by omega
    rw[<- this];exact(Zo.mp hx).2
   .intro hh;exact⟨g,Zo.mpr ⟨Zq.mpr (by omega),hh⟩,rfl⟩
  by_cases hp:Pd.contains (g:Int)=true
  .have hr:¬ (bC A.length W Pd).contains (g:Int)=true:=λz=>by
    have:=(Zo.mp (Yz.mp z)).2;rw[hp] at this;cases this
   rw[if_pos hp,if_neg hr]
  .rw[if_neg hp];by_cases hh:has W g=true
   .have hr:(bC A.length W Pd).contains (g:Int)=true:=Yz.mpr (Zo.mpr ⟨hwm.mpr hh,by simpa using hp⟩);rw[if_pos hr]
   .have hq0:=pr.oo.nil g hg (by simpa using hh);rw[hq0,Xr];split<;>rfl
 rw[er];exact hf Pd f pd hrn Gy
end MI
namespace L2
open PySem PySem.Spec PyProof.Rows KG
section
variable {X:Cx}
def zB (K:Θ1)(a:Addr):It :=
 ⟨λi H=>∃xs x,bD K H a xs/\xs[i]?=some x,λi H x H'=>∃p,H p=none/\x=.ref p/\∀xs,bD K H a xs->∃y,xs[i]?=some y/\H'=aL H p (.tup [.int i,y]),λi H=>∃xs,bD K H a xs/\xs.length<=i⟩
def vJ {P:Program}{w:World}{K:Θ1}{ik:Ξ2}{kk}{pos:Pos}(a e it:Addr)(KO:e≠it):Turn P w K (.Tuple ik kk pos) (zB K a) [e,it] e (λi h=>(∃old,IsEnum h e it (i:Nat) old)/\h.IsListIter it a i) where
 mem:=by simp
 obj:=λi h st b hb=>by
  obtain⟨⟨old,he⟩,o,e1,c,d⟩:=st;rcases Zk.mp hb with rfl |hb
  .exact⟨_,he,λv z=>by cases z⟩
  .obtain rfl:b=it:=by simpa using hb
   exact⟨o,e1,λv z=>by rw[d] at z;cases z⟩
 keep:=λi h h' st k=>by
  obtain⟨⟨old,he⟩,o,e1,c,d⟩:=st;exact⟨⟨old,k e (by simp) _ he⟩,o,k it (by simp) _ e1,c,d⟩
 item:=by
  intro X hP hw hK hc i ae s σ H E I hf st hg;subst hP hw hK;obtain⟨xs,x,hq,hx⟩:=hg;obtain⟨its,rv,p,hz⟩:=I.list hq;obtain⟨u,hu,ru⟩:=rv.get hx;obtain⟨⟨old,he⟩,eO⟩:=st;have pt:s.heap.IsList a its.toArray:=p.isList;have Wc:e≠a:=λz=>by
   obtain⟨o,e1,c,_⟩:=pt;rw[<- z,he] at e1;cases e1;exact absurd (show Value.type "enumerate"=Value.type "list" from c) (by decide)
  have P9:a≠it:=λz=>by
   obtain⟨o,e1,c,_⟩:=pt;obtain⟨o',e2,c',_⟩:=id eO;rw[z,e2] at e1;cases e1;rw[c] at c';exact absurd c' (by decide)
  have cg:i<its.toArray.size:=by simpa using(Zf.mp hu).1
  have D:=Draws.list (prog:=X.prog) (w:=X.w) (A:=X.A.in1) (I.ok.hd hc) it a P9 its.toArray;refine wpAny_pyNext_enum_itemD D he ⟨eO,pt⟩ cg KO (by simp[KO,Wc]) λy h' tk hP Fh ot ht hsz hk=>?_
  have hy:y=u:=by
   have hP:its.toArray[i]?=some y:=hP;rw[List.getElem?_toArray,hu] at hP;exact(Option.some.inj hP).symm
  subst hy;refine⟨_,rfl,?_⟩;refine wpAny_letOwnedTupleGo_enum Fh λh2 V3 og=>?_
  replace og:Heap.SameBut e h' h2:=og
  have bo:s.heap.objs.size≠e:=Xt (Zn he);have I1:Inv X ae σ H { s with heap:=h2,toks:=tk+1 }:=I.iP (ch:=[e,it]) (λb o hb q=>by
   have b1:b≠e:=λz=>hb (by simp[z])
   have b2:b≠it:=λz=>hb (by simp[z])
   exact og.extBut b o b1 (hk b o b1 b2 q)) hf
  have Ky:=og.extBut _ _ bo ht;have fp:dh X ae H s.heap.objs.size:=I.gB (Ze _) I.fresh;have I2:=I1.BX (p:=s.heap.objs.size) (o:=.tup [.int i,x]) fp ⟨by show 2<=sizeLine;decide,[.int i tk,y],.cons ⟨tk,rfl⟩ (.cons ru .nil),⟨_,Ky,rfl,_,rfl⟩⟩;refine⟨.ref s.heap.objs.size,_,I2,rfl,⟨_,I.fresh,rfl,λys hy=>by rw[I.tN hy hq];exact⟨x,hx,rfl⟩⟩,⟨⟨_,V3⟩,?_⟩,λb hb=>?_⟩
  .obtain⟨⟨o,e1,c,d⟩,_⟩:=ot;exact⟨o,og.extBut _ _ (Ne.symm KO) e1,c,d⟩
  .rw[cS]
   .exact(hf b hb).1
   .rcases Zk.mp hb with rfl |hb
    .exact bo.symm
    .obtain rfl:b=it:=by simpa using hb
     obtain⟨o,e1,_⟩:=eO;exact Z9 (Zn e1)
 done:=by
  intro X hP hw hK hc i ae s σ H E I hf st hg;subst hP hw hK;obtain⟨xs,hq,hx⟩:=hg;obtain⟨its,rv,p,hz⟩:=I.list hq;obtain⟨⟨old,he⟩,eO⟩:=st;have pt:s.heap.IsList a its.toArray:=p.isList;have P9:a≠it:=λz=>by
   obtain⟨o,e1,c,_⟩:=pt;obtain⟨o',e2,c',_⟩:=id eO;rw[z,e2] at e1;cases e1;rw[c] at c';exact absurd c' (by decide)
  have hl:=rv.length;have hT:s.TypeIs (.ref e) "enumerate":=⟨_,he,rfl⟩;unfold pyNext;refine Za (wpAny_attempt (wpAny_callSpecial?_slot (name:=Str.ofString "__next__") hT F.slot_enumerate_next
   (wpAny_call_entry F.slot_enumerate_next hT F.entry_enumerate_next ?_ (F.args_enumerate_next_1 _))))
  show wpAny _ _ (field (.ref e) 2 >>= _) _ _ _;refine Za (wpAny_field he rfl (x:=.ref it) rfl ?_);refine Za (wpAny_nextOf_list_end (A:=X.A.in1) (I.ok.hd hc) eO pt (by simp;omega) λh' ex V4 uF=>?_);obtain⟨o,ho,ja⟩:=uF;refine Za (wpAny_isInstance (T:="StopIteration") (b:=true) ⟨o,ho,ja⟩ isSubtype_stop ?_);exact wpAny_pure ⟨rfl,I.iP (t':=s.toks) (ch:=[it]) (λb o hb q=>V4 b o (λz=>hb (by simp[z])) q) (λb hb=>hf b (Zh _ hb))⟩
 self:=λA i s Q E st h=>by
  obtain⟨⟨old,he⟩,_⟩:=st;exact wpAny_pyIter_enum he h
def NZ (K:Θ1)(ta:TA):TI:=λσ H R=>ta σ H λvs H1=>∃a,vs=[.ref a]/\(∃xs,bD K H1 a xs)/\R (zB K a) H1
def Ev {K:Θ1}{a:Addr}:(zB K a).Le (zB K0 a):=⟨λi H ⟨xs,x,h,e⟩=>⟨xs,x,h.k0,e⟩,λi H x H' ⟨p,e1,e2,h⟩=>⟨p,e1,e2,λxs hx=>h xs hx.k0⟩,λi H ⟨xs,h,e⟩=>⟨xs,h.k0,e⟩⟩
def D6 {a:Expr}{ta:TA}{p pos:Pos}{ik:Ξ2}{kk}{ic:Pos}(hg:Gl X "enumerate")(hm:X.mg "enumerate"=none)(hb:bootBuiltins "enumerate"=some (.type "enumerate"))(ha:PA X [a] ta)(hs:starEach [a] X.env=[(false,eval a X.env)]:=by rfl) :
  PI X (.Tuple ik kk ic) (.Call (.Name "enumerate" p) [a] [] pos) (NZ K0 ta):=by
 intro ae s σ H R I h;refine Call_ (fH I hg hm hb (PyProof.Rows.callWith_type1 (bp (ha pos ae s σ H _ I h) λus s1 ⟨vs,H1,I1,r1,t,e,⟨xs,hq⟩,q⟩=>?_) hs rfl));subst e;obtain⟨u,rfl,ru⟩:=vals1 r1;cases ru;obtain⟨its,rv,pl,hz⟩:=I1.list hq.k0;refine call_enumerate_list (show s1.heap.IsList t its.toArray from pl.isList) λh' he KL hsz hk=>wpAny_pyIter_enum he ?_
 refine⟨s1.heap.objs.size+1,[s1.heap.objs.size+1,s1.heap.objs.size],_,zB K0 t,H1,rfl,I1.kept (t':=s1.toks) hk,(vJ (K:=X.K) t _ s1.heap.objs.size (Nat.succ_ne_self _)).le Ev,⟨⟨_,he⟩,KL⟩,λb hb=>?_,q⟩;rcases Zk.mp hb with rfl |hb
 .exact I1.gB (Xv _) (I1.bP.fresh (Xv _))
 .obtain rfl:b=s1.heap.objs.size:=by simpa using hb
  exact I1.gB (Ze _) I1.fresh
def AU (hc:X.calm=true):bZ X (.builtin "min") (λxs H Q=>∃(p:Addr) (ns:Γ3),xs=[.ref p]/\(bD X.K H p (ns.map V.int)\/aM X.K H p (ns.map V.int))/\ns≠[]/\∀m,m∈ns->(∀n∈ns,m<=n)->Q (.int m) H):=by
 intro ae s σ H xs us Q I r h;obtain⟨p,ns,rfl,hs,bo,q⟩:=h;obtain⟨u,rfl,ru⟩:=vals1 r;cases ru;refine call_min_walk (gf I (A:=X.A.in1) (I.ok.hd hc) hs λit fp wr its St s2 rv W st Bu hk=>?_);have hl:its.length=ns.length:=by rw[<- rv.length,Zb]
 have dz:0<ns.length:=Xd.mpr bo;have val:∀(i:Nat) (v:Value),its[i]?=some v->∃t,v=Value.int ((ns[i]?).getD 0) t:=λi v hv=>by
  obtain⟨x,ex,rx⟩:=rv.at hv;rw[Zl] at ex;cases e:ns[i]? with
  |none=>rw[e] at ex;cases ex
  |some n =>
   rw[e] at ex;cases ex;exact rx
 refine⟨it,fp,wr,its.length,_,St,(λi j=>decide ((ns[i]?).getD 0<(ns[j]?).getD 0)),rfl,W,st,Bu,by omega,CmpOf.ints_lt (λi=>(ns[i]?).getD 0) val,λv h' tk hP kk=>?_⟩;obtain⟨t,rfl⟩:=val _ _ hP;obtain⟨h1,h2⟩:=argBest_lt (λi=>(ns[i]?).getD 0) (its.length-1);have cg:argBest (λi j=>decide ((ns[i]?).getD 0<(ns[j]?).getD 0)) (its.length-1)<ns.length:=by
  omega
 refine⟨.int _,H,hk h' tk kk,⟨t,rfl⟩,q _ ?_ λn hn=>?_⟩
 .rw[Zc cg];exact Zv cg
 .obtain⟨i,hi,e⟩:=Qb.mp hn;have:=h2 i (by omega);simp only[Zc hi,Xh] at this;rw[<- e];exact this
def JF:List V->Hp->VK->Prop:=λxs H Q=>∃(p:Addr) (ns:Γ3),xs=[.ref p]/\(bD K0 H p (ns.map V.int)\/aM K0 H p (ns.map V.int))/\ns≠[]/\∀m,m∈ns->(∀n∈ns,m<=n)->Q (.int m) H
def TW (hc:X.calm=true):bZ X (.builtin "min") JF:=(AU hc).imp λ_ _ _ ⟨p,ys,e,h,q⟩=>⟨p,ys,e,Sq.k0 h,q⟩
end
end L2
namespace MI
open PySem L2 KG EX KM
section
variable {K:Θ1}{QX:Addr->aF->Prop}{E:XK}{X:Cx}{w:Wd}{O:aF}{H:Hp}
def uj {a:Addr}{ds:Ξ1}(t:ck (G w O H) (.ref a) (.list ds)):lu K (zB K0 a) w O H (cF ds):=λO2 w2 H2 e r i=>by
 cases ck.ap e.ap t with |lst h1 t1=>?_
 rename_i xs;have hh:=(eU h1).1;unfold cF;refine⟨λx hx=>?_,λhl=>⟨xs,bD.of hh,by rw[t1.len];simpa using hl⟩⟩;have hi:i<ds.length:=by have:=(Zf.mp hx).1;simpa using this
 rw[Zl,Yn hi] at hx;cases Option.some.inj hx;have hd:ds[i]?=some (ds.getD i .none):=by rw[ao (Zc hi)];exact Zc hi
 obtain⟨v,hv,tv⟩:=t1.get hd;refine⟨⟨xs,v,bD.of hh,hv⟩,?_⟩;rintro v' H3 ⟨p,hp,rfl,hy⟩;obtain⟨y,Jc,rfl⟩:=hy xs (bD.of hh);rw[hv] at Jc;cases Option.some.inj Jc;obtain⟨r4,e4,t4⟩:=eN r hp (.cons (.int (i:Int)) (.cons tv .nil));exact⟨e4,r4,t4⟩
def Gi (Ms:MA):MA:=λsl O Q=>Ms sl O λxs O1=>match xs with
 |[.im (.list ds)]=>Q (cF ds) O1
 |_=>False
def nC {a:Expr}{Ms:MA}{p pos:Pos}{ik:Ξ2}{kk}{ic:Pos}(hg:Gl X "enumerate")(hm:X.mg "enumerate"=none)(hb:bootBuiltins "enumerate"=some (.type "enumerate"))(ha:PA X [a] (uC K QX E Ms))(hs:starEach [a] X.env=[(false,eval a X.env)]:=by rfl):PI X (.Tuple ik kk ic) (.Call (.Name "enumerate" p) [a] [] pos) (uB K QX E (Gi Ms)):=PI.imp (D6 hg hm hb ha hs) λσ H R ⟨w,O,sl,Q0,c,m,q⟩=>⟨w,O,sl,_,c,m,λxs O1 vs w1 H1 h1 e1 r1 a1=>by
 split at h1
 .obtain⟨v,us,rfl,h3,h4⟩:=a1.aP;rw[h4.bX];obtain⟨a,Oe,rfl,g1,t1⟩:=fU h3;exact⟨a,rfl,⟨Oe,bD.of g1⟩,q _ O1 w1 H1 _ h1 e1 r1 (uj h3)⟩
 .exact h1.elim⟩
def LB:uY:=sd λds P=>∃ns:Γ3,ds=ns.map .int/\ns≠[]/\∀m,m∈ns->(∀n∈ns,m<=n)->P (.int m)
def NM:Bh K JF LB:=λw O H vs xs P Q r a hf q=>by
 unfold LB sd at hf;split at hf
 .split at hf
  .rename_i ds hd;obtain⟨v,us,rfl,h1,h2⟩:=a.aP;rw[h2.bX];obtain⟨p,lI,rfl,hs,t1⟩:=iR hd h1;obtain⟨ns,rfl,bo,h⟩:=hf;rw[iD t1] at hs;exact⟨p,ns,rfl,hs,bo,λm h3 h4=>q _ _ O w H (h m h3 h4) (bW.refl _ _ _) r (.int _)⟩
  .exact hf.elim
 .exact hf.elim
end
end MI
namespace L2
open PySem PySem.Spec PyProof.Rows EX
end L2
namespace MI
open PySem L2 KG EX KM
def jh (ps:List (Int×PyData))(k:Int):Bool:=ps.any λp=>decide (p.1=k)
def oP (ps:List (Int×PyData))(k:Int):Option PyData:=(ps.find? λp=>decide (p.1=k)).map (·.2)
def putD (ps:List (Int×PyData))(k:Int)(d:PyData):List (Int×PyData):=if jh ps k=true then ps.map (λp=>if p.1=k then (p.1,d) else p) else ps++[(k,d)]
def yK {g:Hp}{kvs:List (bJ×V)}{ps:List (Int×PyData)}(h:rH g kvs (ps.map pairD))(k:Int):(d4 kvs (Sum.inl k)=none/\oP ps k=none/\jh ps k=false)\/∃v d,d4 kvs (Sum.inl k)=some v/\oP ps k=some d/\jh ps k=true/\ck g v d:=by
 induction ps generalizing kvs with
 |nil=>cases h;exact .inl ⟨rfl,rfl,rfl⟩
 |cons p ps ih =>
  generalize hc:(p::ps).map pairD=c at h;cases h with
  |nil=>cases hc
  |@cons n v d LK c' t h' =>
   rw[Zi] at hc;injection hc with h1 h2
   subst h2;obtain⟨pn,pd⟩:=p;unfold pairD at h1;have e1:pn=n:=by injection h1 with h1;injection h1 with h1;injection h1 with h1 h2;injection h1
   have e2:pd=d:=by injection h1 with h1;injection h1 with h1;injection h1 with h1 h2;injection h2
   subst e1;subst e2;by_cases e:pn=k
   .subst e;refine .inr ⟨v,pd,fZ rfl,?_,?_,t⟩
    .simp[oP]
    .simp[jh]
   .have a1:d4 ((Sum.inl pn,v)::LK) (Sum.inl k)=d4 LK (Sum.inl k):=ga (λz=>e (by injection z));have a2:oP ((pn,pd)::ps) k=oP ps k:=by simp[oP,X2,e]
    have a3:jh ((pn,pd)::ps) k=jh ps k:=by simp[jh,e]
    rw[a1,a2,a3];exact ih h'
def yJ {g:Hp}{kvs:List (bJ×V)}{c:List AV}(h:rH g kvs c):kvs.length=c.length:=by
 induction h with
 |nil=>rfl
 |cons _ _ ih=>simp[ih]
def EJ {g:Hp}{kvs:List (bJ×V)}{c:List AV}{n:Int}{v:V}{d:PyData}(h:rH g kvs c)(t:ck g v d):rH g (kvs++[(Sum.inl n,v)]) (c++[pairD (n,d)]):=by
 induction h with
 |nil=>exact .cons t .nil
 |cons t' _ ih=>exact .cons t' ih
def yI {g:Hp}{kvs:List (bJ×V)}{ps:List (Int×PyData)}{k:Int}{v:V}{d:PyData}(h:rH g kvs (ps.map pairD))(t:ck g v d):rH g (dw kvs (Sum.inl k) v) ((putD ps k d).map pairD):=by
 rcases yK h k with ⟨h1,_,h3⟩ |⟨v0,d0,h1,VU,h3,_⟩
 .rw[nw v h1];unfold putD;rw[h3,if_neg (by decide),Zs];exact EJ h t
 .unfold putD dw;have h4:(kvs.any λkv=>decide (kv.1=(Sum.inl k:bJ)))=true:=by rw[iE,h1];rfl
  rw[h3,if_pos rfl,h4,if_pos rfl]
  clear h1 h3 h4 VU
  induction ps generalizing kvs with
  |nil=>cases h;exact .nil
  |cons p ps ih =>
   generalize hc:(p::ps).map pairD=c at h;cases h with
   |nil=>cases hc
   |@cons n w e LK c' t' h' =>
    rw[Zi] at hc;injection hc with h1 h2
    subst h2;obtain⟨pn,pd⟩:=p;unfold pairD at h1;have e1:pn=n:=by injection h1 with h1;injection h1 with h1;injection h1 with h1 h2;injection h1
    have e2:pd=e:=by injection h1 with h1;injection h1 with h1;injection h1 with h1 h2;injection h2
    subst e1;subst e2;rw[Zi,Zi,Zi];have Kx:=ih h';by_cases z:pn=k
    .subst z;rw[if_pos rfl,if_pos rfl];exact .cons t Kx
    .rw[if_neg z,if_neg (λy=>z (by injection y))];exact .cons t' Kx
section
variable {K:Θ1}{QX:Addr->aF->Prop}{E:XK}{X:Cx}{w:Wd}{O:aF}{H:Hp}
structure CBD (n:Nat)(ix:List Nat)(mg:MG)(C:MT)(Mk Mv:ME)(sl:fK)(Q:AV->aF->Prop)(items:List AV)(O1:aF):Prop where
 len:items.length<=1000000
 ex:∃Iv:Nat->List (Int×PyData)->aF->Prop,Iv 0 [] O1 /\
 (∀i x ps O',items[i]?=some x->Iv i ps O'->mg x (cV n ix sl) O' λb9 O2=>C b9 O2 λc O3=>(c=true->Mk b9 O3 λy O4=>Mv b9 O4 λz O5=>match y,z with
   |.im (.int k),.im d=>Iv (i+1) (putD ps k d) O5
   |_,_=>False)/\(c=false->Iv (i+1) ps O3))/\∀ps O',Iv items.length ps O'->Q (.ze O'.length) (O'++[some (ps.map pairD)])
def vn (n:Nat)(ix:List Nat)(it:MA)(mg:MG)(C:MT)(Mk Mv:ME):ME:=λsl O Q=>it sl O (CBD n ix mg C Mk Mv sl Q)
def DX (ps:List (Int×PyData))(k:Int)(d:PyData):(putD ps k d).length<=ps.length+1:=by
 unfold putD;split
 .rw[Zb];omega
 .rw[Zu];simp
def wf {n:Nat}{ix:List Nat}{it:MA}{mg:MG}{C:MT}{Mk Mv:ME}(hk:Keeps n mg):∀σ H Q,bO K QX E (vn n ix it mg C Mk Mv) σ H Q->vg (uB K QX E it) (n8 K QX E mg) (lm K QX E C) (bO K QX E Mk) (bO K QX E Mv) n ix σ H Q :=
 λσ H Q ⟨w,O,sl,Q0,c,m,q⟩=>⟨w,O,sl,_,c,m,λitems O1 w1 H1 J h1 e1 r1 Bp acc cA=>by
  obtain⟨hl,Iv,h0,hs,he⟩:=h1;have hC:=c.ex e1.ex r1;obtain⟨r0,e0⟩:=hC.ro.hide (o:=.dK []) cA (λxs z=>by cases z);refine⟨λi m aB H'=>m=items.length-i/\i<=items.length/\∃w' O' ys zs,az K w' O' H'/\w'.bG=(acc,.dK ys)::w1.bG/\iO w1 O1 H1 w' O' H'/\bt K w' (G w' O' H') aB (cV n ix sl)/\rH (G w' O' H') ys (zs.map pairD)/\zs.length<=i/\Iv i zs O',
   ⟨items.length,by simp,Z7 _,_,O1,[],[],r0,rfl,e0,(hC.so.UK n ix).ex e0,.nil,Ze _,h0⟩,?_⟩
  rintro i m aB H' ⟨rfl,Bs,w',O',ys,zs,r',rV,e',s',a',hz',hv⟩;obtain⟨ig,ie⟩:=Bp O' w' H' e' r' i;rcases Z5 i items.length with y |y
  .obtain⟨FE,Fy⟩:=ig _ (Zc y);refine .inr ⟨FE,λcv H2=>∃w' O' ys zs,az K w' O' H2/\w'.bG=(acc,.dK ys)::w1.bG/\iO w1 O1 H1 w' O' H2/\bt K w' (G w' O' H2) cv (cV n ix sl)/\rH (G w' O' H2) ys (zs.map pairD)/\zs.length<=i+1/\Iv (i+1) zs O',λcv H2 z=>⟨items.length-(i+1),by omega,rfl,y,z⟩,λv H3 Fz=>?_⟩;obtain⟨e3,r3,a3⟩:=Fy v H3 Fz;have K3:jO K QX E w' O' H3 aB (cV n ix sl):=⟨r3,s'.ex e3.ex,λk K4 Km K8 qx K1 Ks=>hC.zx k K4 Km K8 qx ((e'.trans e3.ex).trans K1) Ks⟩;refine⟨w',O',_,_,_,K3,a3,hk _ _ _ _ (hs i _ zs O' (Zc y) hv),λom O4 w4 H4 T3 h4 c4 e4=>⟨w4,O4,om,_,c4,h4.1,λb O5 w5 H5 h5 e5 r5=>?_⟩⟩;have pT:=e3.trans (e4.trans e5);cases b with
   |false=>exact cR ⟨w5,O5,ys,zs,r5,pT.bG.trans rV,e'.trans pT.ex,bt.sub (c4.so.ex e5.ex) h4.2,a'.ap pT.ex.ap,by omega,h5.2 rfl⟩
   |true =>
    refine cE ⟨w5,O5,om,_,c4.ex e5.ex r5,h5.1 rfl,λz O6 v6 w6 H6 h6 e6 r6 a6=>⟨w6,O6,om,_,(c4.ex e5.ex r5).ex e6.ex r6,h6,λz7 O7 v7 w7 H7 h7 e7 r7 a7=>?_⟩⟩;split at h7
    .rename_i k d;have WC:=(pT.trans e6).trans e7;have OD:w7.bG=(acc,.dK ys)::w1.bG:=WC.bG.trans rV;obtain⟨n1,n2,n3,n4⟩:=r7.nh (acc,.dK ys) (by rw[OD];exact Zg);obtain⟨r8,s8⟩:=r7.qj (o':=.dK (dw ys (Sum.inl k) v7)) OD (λxs z=>by cases z);have UG:=e'.trans WC.ex;have Uo:=DX zs k d;have kv:v6=kV (Sum.inl k):=hG a6;refine⟨ys,Sum.inl k,n3,kv,by rw[yJ a',Zb,sz];omega,{ w7 with bG:=(acc,.dK (dw ys (Sum.inl k) v7))::w1.bG },O7,_,putD zs k d,r8,rfl,⟨UG.bs,UG.bA,⟨[(acc,.dK (dw ys (Sum.inl k) v7))],rfl⟩,UG.ap.trans s8,UG.dk⟩,?_,?_,by omega,h7⟩
     .exact bt.fP rfl rfl s8 (bt.sub (((c4.so.ex e5.ex).ex e6.ex).ex e7.ex) h4.2)
     .exact(yI (a'.ap WC.ex.ap) a7).ap s8
    .exact h7.elim
  .have ei:i=items.length:=by omega
   subst ei;refine .inl ⟨ie (Ze _),?_⟩;obtain⟨r2,s2,rW⟩:=r'.GZ rV a';refine q _ _ _ { w' with bG:=w1.bG,bA:=w'.bA++[acc],ib:=O'.length::w'.ib } _ (he zs O' hv) ⟨e1.ex.trans ⟨e'.bs,?_,⟨[],rfl⟩,e'.ap.trans s2,λk hk=>?_⟩,e1.bG⟩ r2 ⟨acc,rW,Zg,rfl⟩
   .obtain⟨t,ht⟩:=e'.bA;exact⟨t++[acc],by show w'.bA++[acc]=_;rw[ht,Ys]⟩
   .refine Iff.trans ⟨λz=>?_,λz=>Zh _ z⟩ (e'.dk k hk);rcases Zk.mp z with y |y
    .obtain⟨t,ht⟩:=e'.bA;have:=r'.len;rw[ht,Zu] at this;omega
    .exact y⟩
section
variable {scope:Scope}{own cap:Δ2}{ix:List Nat}{tg iter kx vx:Expr}{du:Ξ2}{it:MA}{mg:MG}{C:MT}{Mk Mv:ME}{pos:Pos}
end
def RQ (neg:Bool)(Mk Md:ME):MT:=λsl O Q=>Mk sl O λy O1=>Md sl O1 λx O2=>match y,x with
 |.im (.int k),.ze j=>∃ps,O2[j]?=some (some (ps.map pairD))/\Q (if neg then !jh ps k else jh ps k) O2
 |_,_=>False
def Am {i o:Expr}{Mk Md:ME}{pos:Pos}(hu:X.A.units+1<cLine)(hi:PE X i (bO K QX E Mk))(ho:PE X o (bO K QX E Md))(hm:behindInMarks .NotIn o=false:=by rfl):PT X (.Compare i [.NotIn] [o] pos) (lm K QX E (RQ true Mk Md)) :=
 PT.imp (M6 (Ac hu hi ho) hm) λσ H Q ⟨w,O,sl,Q0,c,m,q⟩=>⟨w,O,sl,_,c,m,λy O1 v1 w1 H1 h1 e1 r1 a1=>⟨w1,O1,sl,_,c.ex e1.ex r1,h1,λx O2 v2 w2 H2 h2 e2 r2 a2=>by
  split at h2
  .rename_i k j;obtain⟨ps,hp,h2⟩:=h2;obtain⟨a,ha,hd,rfl⟩:=a2;obtain⟨a',kvs,h3,h4,h5⟩:=r2.Sk hd hp;rw[ha] at h3;cases Option.some.inj h3;have kv:v1=kV (Sum.inl k):=hG (a1.ex e2.ex);subst kv;refine⟨a,_,rfl,sv.k h4,_,rfl,?_⟩;have e:(d4 kvs (Sum.inl k)).isSome=jh ps k:=by
    rcases yK h5 k with ⟨z1,_,z3⟩ |⟨_,_,z1,_,z3,_⟩<;>rw[z1,z3]<;>rfl
   rw[e];exact q _ O2 w2 H2 h2 (e1.trans e2) r2
  .exact h2.elim⟩⟩
def JZ (Md Mk Mv:ME):MS:=λD sl O=>Mv sl O λv O1=>Md sl O1 λx O2=>Mk sl O2 λy O3=>match v,x,y with
 |.im d,.ze j,.im (.int k)=>∃ps,O3[j]?=some (some (ps.map pairD))/\ps.length<1000000/\D.nx sl (O3.set j (some ((putD ps k d).map pairD)))
 |_,_,_=>False
def Ih {i o e:Expr}{Mk Md Mv:ME}{pos gz:Pos}(hu:X.A.units+1<cLine)(ho:PE X o (bO K QX E Md))(hi:PE X i (bO K QX E Mk))(hv:PE X e (bO K QX E Mv))(hs:swapsWith e (some (.Subscript o i gz)) pos.line X.env=pure false:=by rfl) :
  PS X (.Assign [.Subscript o i gz] e pos) (jt K QX E (JZ Md Mk Mv)):=PS.imp (Ht hu ho hi hv hs) λD σ H ⟨w,O,sl,D0,c,m,hn,hb,hc,hr⟩ =>
 ⟨w,O,sl,_,c,m,λv O1 v1 w1 H1 h1 e1 r1 a1=>⟨w1,O1,sl,_,c.ex e1.ex r1,h1,λx O2 v2 w2 H2 h2 e2 r2 a2=>⟨w2,O2,sl,_,(c.ex e1.ex r1).ex e2.ex r2,h2,λy O3 v3 w3 H3 h3 e3 r3 a3=>by
  split at h3
  .rename_i d j k;obtain⟨ps,hp,cy,h3⟩:=h3;obtain⟨a,ha,hd,rfl⟩:=a2.ex e3.ex;obtain⟨a',kvs,h4,h5,h6⟩:=r3.Sk hd hp;rw[ha] at h4;cases Option.some.inj h4;have kv:v3=kV (Sum.inl k):=hG a3;subst kv;have t:ck (G w3 O3 H3) v1 d:=(a1.ex e2.ex).ex e3.ex;obtain⟨r4,e4⟩:=r3.putD hp hd ha h5 (yI (k:=k) h6 t);have e14:=((e1.trans e2).trans e3).trans e4;exact⟨a,_,rfl,BV.k h5 (by rw[yJ h6,Zb,sz];omega),hn sl _ w3 _ σ h3 (c.ex e14.ex r4) e14⟩
  .exact h3.elim⟩⟩⟩
def AH:Ss X (Gf K0):=by
 intro ae s σ H x y v u Q I rx ry h;obtain⟨p,xs,i,z,rfl,rfl,hq,he,q⟩:=h;cases rx;obtain⟨t,rfl⟩:=ry;obtain⟨its,r,pl,hz⟩:=I.list hq.k0;obtain⟨j,h1,h2,h3,h4,h5⟩:=L2.bR he;obtain⟨w,ew,yX⟩:=r.get h2;have hl:=r.length;have hn:=jF;have jz:EP X ae σ Q w s:=⟨z,H,I,yX,q⟩;by_cases h0:0<=i
 .have hj:i.toNat=j:=by
   rw[seqIndex_of h0 h5] at h1;exact Option.some.inj h1
  exact wpAny_getItem_list pl.isList h0 (by omega) (by rw[hj];simpa using ew) jz
 .have hj:(i+(its.toArray.size:Int)).toNat=j:=by
   rw[seqIndex_neg (by omega) h4] at h1;rw[Z1,<- hl];exact Option.some.inj h1
  exact wpAny_getItem_list_neg pl.isList (by omega) (by rw[Z1]<;>omega) (by omega) (by rw[hj];simpa using ew) jz
def vf (g:Int->Int->Int):mi:=λO x y P=>match x,y with
 |.im (.int i),.im (.int j)=>P (.im (.int (g i j))) O
 |_,_=>False
def nc {g:Int->Int->Int}:rY K (Vz g) (vf g):=λw O H v u x y P Q r a b hf q=>by
 unfold vf at hf;split at hf
 .exact⟨_,_,hG a,hG b,q _ _ O w H hf (bW.refl _ _ _) r (.int _)⟩
 .exact hf.elim
def Cc (i:Nat)(f:mi)(M:ME):MS:=λD sl O=>∃x,sl[i]?=some (some x)/\M sl O λy O1=>f O1 x y λz O2=>D.nx (sl.set i (some z)) O2
def yo {i:Nat}{x:Str}{e:Expr}{M:ME}{op:Operator}{ti:Jm}{f:mi}{pos gz:Pos}(hN:X.N.Nodup)(hi:X.N[i]?=some x)(hx:Loc X.env.scope x)(hp:OO X op ti)(lk:rY K ti f)(he:PE X e (bO K QX E M))(hf:X.fn x=true\/X.env.scope.names.lookup x=some .local:=by first |exact .inl rfl |exact .inr rfl |assumption) :
  PS X (.AugAssign (.Name x gz) op e pos) (jt K QX E (Cc i f M)):=PS.imp (M7 hN hi hx he hp hf) λD σ H ⟨w,O,sl,D0,c,⟨x,hx,m⟩,hn,hb,hc,hr⟩=>by
 obtain⟨v,hv,a⟩:=c.so.2 i x hx;refine⟨v,hv,w,O,sl,_,c,m,λy O1 v1 w1 H1 h1 e1 r1 a1=>lk w1 O1 H1 v v1 x y _ _ r1 (a.ex e1.ex) a1 h1 λz z' O3 w3 H3 h3 e3 r3 a3=>?_⟩;exact hn _ O3 w3 H3 _ h3 ((c.ex (e1.trans e3).ex r3).put a3 i) (e1.trans e3)
def xm (Mo Mi:ME)(f:mi)(M:ME):MS:=λD sl O=>Mo sl O λo O1=>Mi sl O1 λi O2=>match o,i with
 |.own k,.im (.int i)=>∃c x j,O2[k]?=some (some c)/\gv c i=some x/\rQ c.length i=some j/\M sl O2 λy O3=>f O3 x y λz O4=>∃c',O4[k]?=some (some c')/\c'.length=c.length/\D.nx sl (O4.set k (some (c'.set j z)))
 |_,_=>False
def qU {o i e:Expr}{Mo Mi M:ME}{op:Operator}{ti:Jm}{f:mi}{pos ic:Pos}(ho:PE X o (bO K QX E Mo))(hi:PE X i (bO K QX E Mi))(hp:OO X op ti)(lk:rY K ti f)(he:PE X e (bO K QX E M))
  (ha:∀ov iv new,augStore i ov iv new=(do holding [new,ov,iv] (setItem ov iv new);release [new,ov,iv] [];pure .next):=by intros;rfl):PS X (.AugAssign (.Subscript o i ic) op e pos) (jt K QX E (xm Mo Mi f M)) :=
 PS.imp (Hu ho hi AH he hp j6 ha) λD σ H ⟨w,O,sl,D0,c,m,hn,hb,hc,hr⟩=>⟨w,O,sl,_,c,m,λo' O1 v1 w1 H1 h1 e1 r1 a1=>⟨w1,O1,sl,_,c.ex e1.ex r1,h1,λi' O2 v2 w2 H2 h2 e2 r2 a2=>by
  split at h2
  .obtain⟨c0,x,j,Uy,hx,hj,h2⟩:=h2;have Bz:=e1.trans e2;obtain⟨p,VN,oK,rfl⟩:=a1.ex e2.ex;obtain⟨p1,us,q0,g1,t1⟩:=r2.oD oK Uy;rw[VN] at q0;cases Option.some.inj q0;obtain⟨z,hz,tz⟩:=Dy t1 hx;refine⟨p,us,_,z,rfl,hG a2,bD.of g1,hz,w2,O2,sl,_,c.ex Bz.ex r2,h2,λy O3 v3 w3 H3 h3 e3 r3 a3=>lk w3 O3 H3 z v3 x y _ _ r3 (tz.ex e3.ex) a3 h3 λz4 x4 O4 w4 H4 h4 e4 r4 a4=>?_⟩;obtain⟨c',ja,hl',h4⟩:=h4;have PM:=e4.ex.at (e3.ex.at VN);have R7:_∉w4.ib:=λz=>oK (((e3.trans e4).ex.dk _ (Zf.mp VN).1).mp z)
   obtain⟨p2,lI,q0,g2,t2⟩:=r4.oD R7 ja;rw[PM] at q0;cases Option.some.inj q0;obtain⟨r5,e5⟩:=r4.put ja R7 PM g2 (t2.set a4 j);have e15:=((Bz.trans e3).trans e4).trans e5;exact⟨p,lI,_,j,rfl,hG a2,g2,by rw[t2.1,hl'];exact hj,hn sl _ w4 _ σ h4 (c.ex e15.ex r5) e15⟩
  .exact h2.elim⟩⟩
end
end MI
namespace L2
open PySem PySem.Spec PyProof.Rows
section
variable {X:Cx}{scope:Scope}{own cap:Δ2}{ix:List Nat}{tg iter kx vx:Expr}{du:Ξ2}{wi:TI}{g:TG}{tt:TT}{tk tv:TE}{pos:Pos}
def DY {i:Nat}{y:Str}{py jR:Pos}(hN:X.N.Nodup)(FD:X.N[i]?=some y)(hx:X.env.scope.names.lookup y=some .local)(B:aJ X scope own cap ix)(hc:X.calm=true)(hi:PI X tg iter wi)
  (hb:∀C fp s H,PG (cN X scope C (own++cap) fp s H) tg g/\dX (cN X scope C (own++cap) fp s H) du tt/\PE (cN X scope C (own++cap) fp s H) kx tk/\PE (cN X scope C (own++cap) fp s H) vx tv)
  (Bq:swapsWith (.DictComp kx vx [⟨tg,iter,du,0⟩] scope pos) (some (.Name y py)) jR.line X.env=pure true:=by rfl)
  (hs:∀x,foldedSetIterable iter X.env x=pure x:=by intro _;rfl):PS X (.Assign [.Name y py] (.DictComp kx vx [⟨tg,iter,du,0⟩] scope pos) jR) (BD (vg wi g tt tk tv own.length ix) (fk i)):=by
 intro ae s σ H D I h;rw[exec_Assign_Name_used _ _ _ _ Bq];have has:∀x∈scope.names,x.2=.free->(X.env.cells.lookup x.1).isSome=true:=λx hx hk=>by
  obtain⟨c,e⟩:=I.ok.has x.1 (B.frees x hx hk);rw[e];rfl
 refine Za (wpAny_standAt (Za ?_));show wpAny _ X.A (do let _ <- comprehension (.DictComp kx vx [⟨tg,iter,du,0⟩] scope pos) scope X.env _ newDict false (eval iter X.env) (some (assign (.Name y py) X.env))) _ _ s;refine Za (wpAny_mono (wpAny_comprehension_free (use:=some (assign (.Name y py) X.env)) (Q:=λ_ s'=>SP X ae D .next s') rfl hs (Ot has) B.kind B.names ?_) (λ_ s' hq=>wpAny_pure (wpAny_pure hq)) λ_ _ e=>e);refine bp (hi ae s σ H _ I h) λv s1 h1=>bp h1 λFw s2 h2=>?_
 obtain⟨it,fp,tn,J,H2,e,I2,T,eO,f2,q⟩:=h2;subst e;refine nY (RR:=λacc C=>compPost (model X.prog X.w) X.A X.xe (some (assign (.Name y py) X.env)) (λ_ s'=>SP X ae D .next s') acc C) B hc hb I2 T eO f2 q ?_;intro Da C H' s' m I' q' hn fC;show wpAny _ X.A (assign (.Name y py) X.env (.ref Da)) _ _ s';obtain⟨oC,es,ep,VP,P7,r⟩:=id hn;have Ip:Inv X (ae++[(C,oC)]) σ H' s':=I'.lU λp hp=>by
  rcases Z0.mp hp with z |z
  .exact I'.pin p (Zt _ z)
  .obtain rfl:p=(C,oC):=by simpa using z
   exact⟨VP,fC.1,fC.2.1,fC.2.2.1,λv e=>by rw[P7] at e;cases e⟩
 refine wpAny_assign_Name (fe Ip hN FD (.inl hx) (v:=.ref Da) rfl (λKr QT=>?_) (.inr hx));have pC:=(QT.pin (C,oC) (Zt _ (Zt _ (by simp)))).1;refine⟨m,⟨oC,es,ep,pC,P7,r⟩,λh' rR=>⟨_,H',?_,q'⟩⟩;exact QT.cX.turned (t':=Kr.toks) (it:=C) (λb o Bv e=>(rR.2 b Bv).trans e) fC.1 fC.2.1 fC.2.2.2.1 fC.2.2.2.2.1 fC.2.2.2.2.2
end
end L2
namespace MI
open PySem L2 KG EX KM
section
variable {K:Θ1}{QX:Addr->aF->Prop}{E:XK}{X:Cx}{scope:Scope}{own cap:Δ2}{ix:List Nat}{tg iter kx vx:Expr}{du:Ξ2}{it:MA}{mg:MG}{C:MT}{Mk Mv:ME}{pos:Pos}
def Ep {i:Nat}{y:Str}{py jR:Pos}(hN:X.N.Nodup)(FD:X.N[i]?=some y)(hx:X.env.scope.names.lookup y=some .local)(B:aJ X scope own cap ix)(hc:X.calm=true)(hi:PI X tg iter (uB K QX E it))(hk:Keeps own.length mg)
  (hb:∀C' fp s H,PG (cN X scope C' (own++cap) fp s H) tg (n8 K QX E mg)/\dX (cN X scope C' (own++cap) fp s H) du (lm K QX E C)/\PE (cN X scope C' (own++cap) fp s H) kx (bO K QX E Mk)/\PE (cN X scope C' (own++cap) fp s H) vx (bO K QX E Mv))
  (Bq:swapsWith (.DictComp kx vx [⟨tg,iter,du,0⟩] scope pos) (some (.Name y py)) jR.line X.env=pure true:=by rfl)
  (hs:∀x,foldedSetIterable iter X.env x=pure x:=by intro _;rfl):PS X (.Assign [.Name y py] (.DictComp kx vx [⟨tg,iter,du,0⟩] scope pos) jR) (jt K QX E (bE (vn own.length ix it mg C Mk Mv) (bi i))):=PS.imp (DY hN FD hx B hc hi hb Bq hs) (iG (wf hk) j5)
end
def wk {n a b c:Nat}(ha:a<n)(hb:b<n)(hc:c<n):nk n (aG (bi a) (aG (ln 2 (aG (bi b) (aG (bi c) cc))) cc)):=λx sl O Q q=>by
 match x,q with
 |[x1,x2],q =>
  have q:ln 2 (aG (bi b) (aG (bi c) cc)) x2 (sl.set a (some x1)) O λdH O'=>cc [] dH O' Q:=q
  show ln 2 (aG (bi b) (aG (bi c) cc)) x2 (sl.set a (some x1)) O λdH O'=>cc [] dH O' λb9 O2=>Q b9 O2/\Sub n sl b9
  unfold ln at q ⊢;split
  .rename_i ds hd;rw[hd] at q
   match ds,q with
   |[d1,d2],⟨_,q⟩ =>
    refine⟨rfl,q,by simp,λj hj=>?_⟩;rw[Z6 (by omega),Z6 (by omega),Z6 (by omega)]
  .rename_i hd;rw[hd] at q;exact q
 |[],q=>exact q
 |[_],q=>exact q
 |x1::x2::x3::r,q =>
  have q:ln 2 (aG (bi b) (aG (bi c) cc)) x2 (sl.set a (some x1)) O λdH O'=>cc (x3::r) dH O' Q:=q
  exact q
end MI
namespace SP
def sm:Nat->(Nat->Int)->Int
 |0,_=>0
 |n+1,f=>sm n f+f n
theorem E7 {f g:Nat->Int}:∀{n:Nat},(∀i,i<n->f i=g i)->sm n f=sm n g
 |0,_=>rfl
 |n+1,h=>by unfold sm;rw[E7 (n:=n) λi hi=>h i (by omega),h n (by omega)]
theorem oO {f g:Nat->Int}:∀{n:Nat},(∀i,i<n->f i<=g i)->sm n f<=sm n g
 |0,_=>Yw _
 |n+1,h=>by
  unfold sm;have h1:=oO (n:=n) λi hi=>h i (by omega)
  have h2:=h n (by omega);omega
theorem Jw {f g:Nat->Int}:∀{n k:Nat},k<n->f k<g k->(∀i,i<n->f i<=g i)->sm n f<sm n g
 |0,_,hk,_,_=>absurd hk (by omega)
 |n+1,k,hk,cg,h=>by
  unfold sm;have h2:=h n (by omega);by_cases e:k=n
  .subst e;have h1:=oO (n:=k) λi hi=>h i (by omega)
   omega
  .have h1:=Jw (n:=n) (k:=k) (by omega) cg λi hi=>h i (by omega)
   omega
theorem mX (f g:Nat->Int):∀n,sm n (λi=>f i+g i)=sm n f+sm n g
 |0=>rfl
 |n+1=>by
  show sm n (λi=>f i+g i)+(f n+g n)=(sm n f+f n)+(sm n g+g n);rw[mX f g n];omega
theorem eM {f:Nat->Int}:∀{n:Nat},(∀i,i<n->f i=0)->sm n f=0
 |0,_=>rfl
 |n+1,h=>by unfold sm;rw[eM (n:=n) λi hi=>h i (by omega),h n (by omega)];rfl
def S1 {f:Nat->Int}{n:Nat}(h:∀i,i<n->0<=f i):0<=sm n f:=by
 have:=oO (f:=λ_=>0) (g:=f) h
 rwa [eM λ_ _=>rfl] at this
theorem qh (k:Nat)(d:Int):∀n,sm n (λi=>if i=k then d else 0)=if k<n then d else 0
 |0=>by simp[sm]
 |n+1=>by
  unfold sm;rw[qh k d n];by_cases e:n=k
  .subst e;simp
  .have:(k<n+1)↔k<n:=by omega
   simp[e,this]
theorem qL (f:Nat->Nat->Int)(m:Nat):∀n,sm n (λi=>sm m (λj=>f i j))=sm m (λj=>sm n (λi=>f i j))
 |0=>by show(0:Int)=_;exact(eM λ_ _=>rfl).symm
 |n+1=>by
  show sm n (λi=>sm m (λj=>f i j))+sm m (λj=>f n j)=sm m (λj=>sm n (λi=>f i j)+f n j);rw[mX,qL f m n]
def kY {f:Nat->Int}{n k:Nat}(h:∀i,i<n->0<=f i)(hk:k<n):f k<=sm n f:=by
 have:=oO (n:=n) (f:=λi=>if i=k then f k else 0) (g:=f) λi hi=>by
  show(if i=k then f k else 0)<=f i;split
  .rename_i e;subst e;exact Yw _
  .exact h i hi
 rw[qh,if_pos hk] at this;exact this
def vM {f:Nat->Int}{n:Nat}(h:∀i,i<n->0<=f i)(e:sm n f=0):∀i,i<n->f i=0:=λi hi=>by
 have h1:=kY h hi;have h2:=h i hi;omega
def en (M:Γ1)(i j:Nat):Int:=(M.getD i []).getD j 0
def fw (M:Γ1)(i j:Nat)(d:Int):Γ1:=M.set i ((M.getD i []).set j (en M i j+d))
structure wU (M:Γ1)(n g:Nat):Prop where
 len:M.length=n
 row:∀i,i<n->(M.getD i []).length=g
def iI {α : Type}(l:List α)(i j:Nat)(x d:α)(hi:i<l.length):(l.set i x).getD j d=if j=i then x else l.getD j d:=by
 by_cases e:i=j
 .subst e;simp[List.getD,Yl hi]
 .have e':¬ j=i:=λz=>e z.symm
  simp[List.getD,Z6 e,e']
def l5 {M:Γ1}{n g i j:Nat}(s:wU M n g)(hi:i<n)(hj:j<g)(d:Int)(a b:Nat):en (fw M i j d) a b=en M a b+(if a=i then (if b=j then d else 0) else 0):=by
 unfold fw;have h1:i<M.length:=by rw[s.len];exact hi
 have h2:j<(M.getD i []).length:=by rw[s.row i hi];exact hj
 show((M.set i _).getD a []).getD b 0=_;rw[iI _ _ _ _ _ h1];by_cases e:a=i
 .subst e;rw[if_pos rfl,if_pos rfl,iI _ _ _ _ _ h2];by_cases e2:b=j
  .subst e2;rw[if_pos rfl,if_pos rfl]
  .rw[if_neg e2,if_neg e2,Int.add_zero];rfl
 .rw[if_neg e,if_neg e,Int.add_zero];rfl
def iQ {M:Γ1}{n g i j:Nat}(s:wU M n g)(hi:i<n)(d:Int):wU (fw M i j d) n g:=by
 have h1:i<M.length:=by rw[s.len];exact hi
 refine⟨by unfold fw;rw[Yo];exact s.len,λa ha=>?_⟩;unfold fw;rw[iI _ _ _ _ _ h1];split
 .rw[Yo];exact s.row i hi
 .exact s.row a ha
def eT (M:Γ1)(g i:Nat):Int:=sm g λj=>en M i j
def lE (M:Γ1)(n j:Nat):Int:=sm n λi=>en M i j
def xY {M:Γ1}{n g i j:Nat}(s:wU M n g)(hi:i<n)(hj:j<g)(d:Int)(a:Nat):eT (fw M i j d) g a=eT M g a+if a=i then d else 0:=by
 unfold eT;rw[E7 λb _=>l5 s hi hj d a b,mX]
 congr 1
 by_cases e:a=i
 .subst e;rw[if_pos rfl,E7 (g:=λb=>if b=j then d else 0) λb _=>by simp,qh,if_pos hj]
 .rw[if_neg e,eM λb _=>by simp[e]]
def yP {M:Γ1}{n g i j:Nat}(s:wU M n g)(hi:i<n)(hj:j<g)(d:Int)(b:Nat):lE (fw M i j d) n b=lE M n b+if b=j then d else 0:=by
 unfold lE;rw[E7 λa _=>l5 s hi hj d a b,mX]
 congr 1
 by_cases e:b=j
 .subst e;rw[if_pos rfl,E7 (g:=λa=>if a=i then d else 0) λa _=>by simp,qh,if_pos hi]
 .rw[if_neg e,eM λa _=>by simp[e]]
abbrev gR:=List (Nat×Nat)
def bI (w:gR)(t:Nat):Nat×Nat:=w.getD t (0,0)
structure jW (B M:Γ1)(n g b:Nat)(w:gR):Prop where
 ne:0<w.length
 hd:(bI w 0).1=b
 uX:∀t,t<w.length->(bI w t).1<n/\(bI w t).2<g/\(((bI w t).2:Nat):Int)∈B.getD (bI w t).1 []
 lnk:∀t,t+1<w.length->0<en M (bI w (t+1)).1 (bI w t).2
 nd:∀t u,t<w.length->u<w.length->(bI w t).2=(bI w u).2->t=u
def cb (M:Γ1)(w:gR)(c:Int):Nat->Γ1
 |0=>M
 |t+1=>if 0<t then fw (fw (cb M w c t) (bI w t).1 (bI w t).2 c) (bI w t).1 (bI w (t-1)).2 (-c) else fw (cb M w c t) (bI w t).1 (bI w t).2 c
structure χ (B M M':Γ1)(w:gR)(c:Int)(n g b t:Nat):Prop where
 rM:wU M' n g
 row:∀i,eT M' g i=eT M g i+if 0<t then (if i=b then c else 0) else 0
 col:∀j,lE M' n j=lE M n j+if 0<t then (if j=(bI w (t-1)).2 then c else 0) else 0
 nn:∀i j,0<=en M' i j
 sup:∀i j,0<en M' i j->0<en M i j\/((j:Nat):Int)∈B.getD i []
 low:∀i j,(∀s,s+1<t->j≠(bI w s).2)->en M i j<=en M' i j
theorem Rn {B M:Γ1}{w:gR}{c:Int}{n g b:Nat}(s:wU M n g)(nn:∀i j,0<=en M i j)(ok:jW B M n g b w)(c0:0<=c)(hc:∀t,t+1<w.length->c<=en M (bI w (t+1)).1 (bI w t).2):∀t,t<=w.length->χ B M (cb M w c t) w c n g b t
 |0,_=>⟨s,λi=>by simp;rfl,λj=>by simp;rfl,nn,λi j h=>.inl h,λi j _=>Yw _⟩
 |t+1,ht=>by
  have ih:=Rn s nn ok c0 hc t (by omega);obtain⟨d1,d2,d3⟩:=ok.uX t (by omega);have s1:=iQ (j:=(bI w t).2) ih.rM d1 c;have e1:=l5 ih.rM d1 d2 c;have r1:=xY ih.rM d1 d2 c;have k1:=yP ih.rM d1 d2 c;by_cases t0:0<t
  .obtain⟨f1,f2,f3⟩:=ok.uX (t-1) (by omega);have bo:(bI w t).2≠(bI w (t-1)).2:=λz=>by
    have:=ok.nd t (t-1) (by omega) (by omega) z;omega
   have e2:=l5 s1 d1 f2 (-c);have r2:=xY s1 d1 f2 (-c);have k2:=yP s1 d1 f2 (-c);have un:cb M w c (t+1)=fw (fw (cb M w c t) (bI w t).1 (bI w t).2 c) (bI w t).1 (bI w (t-1)).2 (-c):=by show(if 0<t then _ else _)=_;rw[if_pos t0]
   rw[un];have VU:c<=en M (bI w t).1 (bI w (t-1)).2:=by
    have:=hc (t-1) (by omega)
    rwa [show t-1+1=t by omega] at this
   have hlo:en M (bI w t).1 (bI w (t-1)).2<=en (cb M w c t) (bI w t).1 (bI w (t-1)).2:=ih.low _ _ λu hu z=>by
    have:=ok.nd (t-1) u (by omega) (by omega) z;omega
   have ee:∀i j,en (fw (fw (cb M w c t) (bI w t).1 (bI w t).2 c) (bI w t).1 (bI w (t-1)).2 (-c)) i j=en (cb M w c t) i j+(if i=(bI w t).1 then (if j=(bI w t).2 then c else 0) else 0)+(if i=(bI w t).1 then (if j=(bI w (t-1)).2 then -c else 0) else 0):=λi j=>by rw[e2,e1]
   refine⟨iQ s1 d1 _,λi=>?_,λj=>?_,λi j=>?_,λi j h=>?_,λi j h=>?_⟩
   .rw[r2,r1,ih.row,if_pos t0,if_pos (show 0<t+1 by omega)];split<;>omega
   .rw[k2,k1,ih.col,if_pos t0,if_pos (show 0<t+1 by omega),Nat.add_sub_cancel]
    (repeat' split)<;>omega
   .rw[ee];have h0:=ih.nn i j;by_cases a1:i=(bI w t).1
    .subst a1;rw[if_pos rfl,if_pos rfl];by_cases a2:j=(bI w (t-1)).2
     .subst a2;rw[if_neg (Ne.symm bo),if_pos rfl];omega
     .rw[if_neg a2];split<;>omega
    .rw[if_neg a1,if_neg a1];omega
   .rw[ee] at h;by_cases a1:i=(bI w t).1
    .subst a1;rw[if_pos rfl,if_pos rfl] at h;by_cases a2:j=(bI w t).2
     .subst a2;exact .inr d3
     .rw[if_neg a2] at h;refine ih.sup _ _ ?_;split at h<;>omega
    .rw[if_neg a1,if_neg a1] at h;exact ih.sup i j (by omega)
   .rw[ee];have h1:=ih.low i j λu hu=>h u (by omega)
    have h2:j≠(bI w (t-1)).2:=h (t-1) (by omega);rw[if_neg h2]
    (repeat' split)<;>omega
  .have t0':t=0:=by omega
   subst t0';have un:cb M w c 1=fw (cb M w c 0) (bI w 0).1 (bI w 0).2 c:=rfl;rw[un];refine⟨s1,λi=>?_,λj=>?_,λi j=>?_,λi j h=>?_,λi j h=>?_⟩
   .rw[r1,ih.row,ok.hd];simp
   .rw[k1,ih.col];simp
   .rw[e1];have h0:=ih.nn i j
    (repeat' split)<;>omega
   .rw[e1] at h;by_cases a1:i=(bI w 0).1
    .subst a1;by_cases a2:j=(bI w 0).2
     .subst a2;exact .inr d3
     .rw[if_pos rfl,if_neg a2] at h;exact ih.sup _ _ (by omega)
    .rw[if_neg a1] at h;exact ih.sup i j (by omega)
   .rw[e1];have h1:=ih.low i j λu hu=>absurd hu (by omega)
    (repeat' split)<;>omega
end SP
namespace SP
def aW (w:gR):Nat:=(bI w (w.length-1)).2
def bQ (Ws:List gR):List Nat:=Ws.map aW
structure BF (B M:Γ1)(n g b:Nat)(Ws:List gR):Prop where
 ok:∀w∈Ws,jW B M n g b w
 nd:(bQ Ws).Nodup
 sub:∀w∈Ws,∀t,t<w.length->(bI w t).2∈bQ Ws
def E4 {w:gR}{p:Nat×Nat}{t:Nat}(h:t<w.length):bI (w++[p]) t=bI w t:=by
 unfold bI;simp[List.getD,Zp h]
def fY {w:gR}{p:Nat×Nat}:bI (w++[p]) w.length=p:=by
 unfold bI;simp[List.getD]
def pz {w:gR}{p:Nat×Nat}:aW (w++[p])=p.2:=by
 unfold aW;rw[Zu];show(bI (w++[p]) (w.length+1-1)).2=_;rw[Nat.add_sub_cancel,fY]
def BF.push {B M:Γ1}{n g b:Nat}{Ws:List gR}(h:BF B M n g b Ws){w:gR}(hw:w∈Ws){p x:Nat}(hp:p<n)(hx:x<g)(hb:(x:Int)∈B.getD p [])(dz:0<en M p (aW w))(hn:x∉bQ Ws):BF B M n g b (Ws++[w++[(p,x)]]):=by
 have ow:=h.ok w hw;have e:bQ (Ws++[w++[(p,x)]])=bQ Ws++[x]:=by unfold bQ;rw[Zs];simp[pz]
 refine⟨λv hv=>?_,?_,λv hv t ht=>?_⟩
 .rcases Z0.mp hv with hv |hv
  .exact h.ok v hv
  .rw[Z2.mp hv];have hl:(w++[(p,x)]).length=w.length+1:=by simp
   have o0:=ow.ne;refine⟨by omega,by rw[E4 o0];exact ow.hd,λt ht=>?_,λt ht=>?_,λt u ht hu z=>?_⟩
   .by_cases y:t<w.length
    .rw[E4 y];exact ow.uX t y
    .have:t=w.length:=by omega
     subst this;rw[fY];exact⟨hp,hx,hb⟩
   .by_cases y:t+1<w.length
    .rw[E4 y,E4 (by omega)];exact ow.lnk t y
    .have:t+1=w.length:=by omega
     rw[this,fY,E4 (by omega)];have:t=w.length-1:=by omega
     rw[this];exact dz
   .by_cases yt:t<w.length
    .by_cases yu:u<w.length
     .rw[E4 yt,E4 yu] at z;exact ow.nd t u yt yu z
     .have:u=w.length:=by omega
      subst this;rw[E4 yt,fY] at z;exact absurd (by have:=h.sub w hw t yt;rw[z] at this;exact this) hn
    .have:t=w.length:=by omega
     subst this;by_cases yu:u<w.length
     .rw[E4 yu,fY] at z;exact absurd (by have:=h.sub w hw u yu;rw[<- z] at this;exact this) hn
     .omega
 .rw[e,X4];exact⟨h.nd,by simp,λa ha c hc z=>by rw[Z2.mp hc] at z;exact hn (z▸ha)⟩
 .rw[e];rcases Z0.mp hv with hv |hv
  .exact Xb _ (h.sub v hv t ht)
  .rw[Z2.mp hv] at ht ⊢;by_cases y:t<w.length
   .rw[E4 y];exact Xb _ (h.sub w hw t y)
   .have:t=w.length:=by simp at ht;omega
    subst this;rw[fY];exact Zt _ (by simp)
theorem nz:∀{l:List Nat}{g:Nat},l.Nodup->(∀x∈l,x<g)->l.length<=g
 |l,0,_,h=>by
  cases l with
  |nil=>exact Ze _
  |cons x l=>exact absurd (h x Zg) (by omega)
 |l,g+1,nd,h=>by
  have h1:(l.filter λx=>decide (x≠g)).length<=g:=nz (nd.sublist Yp) λx hx=>by
   obtain⟨a,b⟩:=Zo.mp hx;have:=h x a;have:=of_decide_eq_true b;omega
  have h2:l.length<=(l.filter λx=>decide (x≠g)).length+1:=by
   clear h h1
   induction l with
   |nil=>exact Z7 _
   |cons x l ih =>
    have A4:=Yd.mp nd;have Kx:=ih A4.2;by_cases e:x=g
    .subst e;have:l.filter (λy=>decide (y≠x))=l:=X8.mpr λy hy=>decide_eq_true λz=>A4.1 (z▸hy)
     rw[X5 (by simp),this];simp
    .rw[Qh (by simpa using e),Xo,Xo];omega
  omega
def BF.len {B M:Γ1}{n g b:Nat}{Ws:List gR}(h:BF B M n g b Ws):Ws.length<=g:=by
 have:(bQ Ws).length<=g:=nz h.nd λx hx=>by
  obtain⟨w,hw,rfl⟩:=Zd.mp hx;have o:=h.ok w hw;have:=o.ne;exact(o.uX (w.length-1) (by omega)).2.1
 unfold bQ at this
 rwa [Zb] at this
def jW.len {B M:Γ1}{n g b:Nat}{w:gR}(o:jW B M n g b w):w.length<=g:=by
 have h1:(w.map (·.2)).length<=g:=nz ?_ ?_
 .rwa [Zb] at h1
 .unfold List.Nodup;rw[List.pairwise_iff_getElem];intro s t hs ht ot e;rw[Zb] at hs ht;have:s=t:=o.nd s t hs ht (by
   unfold bI;simp only[List.getD,Zc hs,Zc ht,Xh];simpa using e)
  omega
 .intro x hx;obtain⟨p,hp,rfl⟩:=Zd.mp hx;obtain⟨t,ht,rfl⟩:=Ye hp;have:=(o.uX t ht).2.1;unfold bI at this;simpa[List.getD,Zc ht] using this
structure Jn (B M:Γ1)(U ms:Γ3)(n g:Nat):Prop where
 rM:wU M n g
 nn:∀i j,0<=en M i j
 sup:∀i j,i<n->j<g->0<en M i j->(j:Int)∈B.getD i []
 ul:U.length=g
 u0:∀j,j<g->0<=U.getD j 0
 col:∀j,j<g->U.getD j 0+lE M n j=ms.getD j 0
def Mz (B:Γ1)(ms ps:Γ3)(n g:Nat):Prop:=∀T S:Nat->Bool,(∀i,i<n->T i=true->∀x∈B.getD i [],S x.toNat=true)->sm n (λi=>if T i=true then ps.getD i 0 else 0)<=sm g (λj=>if S j=true then ms.getD j 0 else 0)
def BU (B M:Γ1)(U:Γ3)(n:Nat)(Ws:List gR)(k:Nat):Prop:=∀t,t<k->U.getD (aW (Ws.getD t [])) 0=0/\∀p,p<n->0<en M p (aW (Ws.getD t []))->∀x∈B.getD p [],x.toNat∈bQ Ws
def nF {α : Type}{l m:List α}{t:Nat}{d:α}(h:t<l.length):(l++m).getD t d=l.getD t d:=by simp[List.getD,Zp h]
def BU.app {B M:Γ1}{U:Γ3}{n k:Nat}{Ws:List gR}(h:BU B M U n Ws k)(hk:k<=Ws.length)(Vs:List gR):BU B M U n (Ws++Vs) k:=λt ht=>by
 rw[nF (by omega)];obtain⟨h1,h2⟩:=h t ht;exact⟨h1,λp hp h0 x hx=>by unfold bQ;rw[Zs];exact Xb _ (h2 p hp h0 x hx)⟩
open Classical in
def Ak {B M:Γ1}{U ms ps:Γ3}{n g b:Nat}{Ws:List gR}(s:Jn B M U ms n g)(oA:Mz B ms ps n g)(bn:b<n)(hB:∀i,i<n->∀x∈B.getD i [],0<=x/\x.toNat<g)
  (rl:∀i,i<n->eT M g i<=ps.getD i 0) (rb:eT M g b<ps.getD b 0) (lg:∀x∈bQ Ws,x<g) (base:∀x∈B.getD b [],x.toNat∈bQ Ws) (dn:BU B M U n Ws Ws.length):False:=by
 have mem:∀j,j∈bQ Ws->∃t,t<Ws.length/\aW (Ws.getD t [])=j:=λj hj=>by
  obtain⟨w,hw,rfl⟩:=Zd.mp hj;obtain⟨t,ht,rfl⟩:=Ye hw;exact⟨t,ht,by simp[List.getD,Zc ht]⟩
 let S:Nat->Bool:=λj=>decide (j∈bQ Ws)
 let T:Nat->Bool:=λi=>decide (i=b\/∃j∈bQ Ws,0<en M i j)
 have h1:=oA T S λi hi hT x hx=>by
  refine decide_eq_true ?_;rcases of_decide_eq_true hT with rfl |⟨j,hj,h0⟩
  .exact base x hx
  .obtain⟨t,ht,rfl⟩:=mem j hj;exact(dn t ht).2 i hi h0 x hx
 have h2:sm g (λj=>if S j=true then ms.getD j 0 else 0)=sm n (λi=>sm g (λj=>if S j=true then en M i j else 0)):=by
  rw[qL];refine E7 λj hj=>?_
  by_cases e:S j=true
  .rw[if_pos e];obtain⟨t,ht,el⟩:=mem j (of_decide_eq_true e);have h3:=(dn t ht).1;rw[el] at h3;have h4:=s.col j hj;rw[h3,Int.zero_add] at h4;rw[<- h4];exact E7 λi _=>by rw[if_pos e]
  .rw[if_neg e];exact(eM λi _=>by rw[if_neg e]).symm
 have h3:∀i,i<n->sm g (λj=>if S j=true then en M i j else 0)<=if T i=true then eT M g i else 0:=λi hi=>by
  by_cases e:T i=true
  .rw[if_pos e];refine oO λj hj=>?_
   have:=s.nn i j;split<;>omega
  .rw[if_neg e];have:sm g (λj=>if S j=true then en M i j else 0)=0:=eM λj hj=>by
    split
    .rename_i hs;have h4:=s.nn i j;rcases Int.lt_or_eq_of_le h4 with y |y
     .exact absurd (decide_eq_true (Or.inr ⟨j,of_decide_eq_true hs,y⟩)) e
     .exact y.symm
    .rfl
   omega
 have h4:sm n (λi=>sm g (λj=>if S j=true then en M i j else 0))<sm n (λi=>if T i=true then ps.getD i 0 else 0):=by
  refine Int.lt_of_le_of_lt (oO (g:=λi=>if T i=true then eT M g i else 0) h3) (Jw bn ?_ λi hi=>?_)
  .have:T b=true:=decide_eq_true (Or.inl rfl);show(if T b=true then eT M g b else 0)<if T b=true then ps.getD b 0 else 0
   rw[if_pos this,if_pos this];exact rb
  .show(if T i=true then eT M g i else 0)<=if T i=true then ps.getD i 0 else 0
   have:=rl i hi;split<;>omega
 rw[h2] at h1;omega
structure XV (M:Γ1)(ps:Γ3)(g n b:Nat)(left:Int):Prop where
 old:∀i,i<b->i<n->eT M g i=ps.getD i 0
 now:b<n->eT M g b+left=ps.getD b 0
 new:∀i,b<i->i<n->eT M g i=0
structure xH (B M:Γ1)(ms ps:Γ3)(n g:Nat):Prop where
 rM:wU M n g
 nn:∀i j,0<=en M i j
 sup:∀i j,i<n->j<g->0<en M i j->(j:Int)∈B.getD i []
 row:∀i,i<n->eT M g i=ps.getD i 0
 col:∀j,j<g->lE M n j=ms.getD j 0
def zN {B M:Γ1}{U ms ps:Γ3}{n g:Nat}(s:Jn B M U ms n g)(row:∀i,i<n->eT M g i=ps.getD i 0)(Kn:sm g (λj=>ms.getD j 0)=sm n (λi=>ps.getD i 0)):xH B M ms ps n g:=by
 refine⟨s.rM,s.nn,s.sup,row,?_⟩;have h1:sm g (λj=>U.getD j 0+lE M n j)=sm g (λj=>ms.getD j 0):=E7 λj hj=>s.col j hj
 rw[mX] at h1;have h2:sm g (λj=>lE M n j)=sm n (λi=>eT M g i):=(qL (λi j=>en M i j) g n).symm;have h3:sm n (λi=>eT M g i)=sm n (λi=>ps.getD i 0):=E7 λi hi=>row i hi
 have h4:sm g (λj=>U.getD j 0)=0:=by
  have h5:sm g (λj=>lE M n j)=sm g (λj=>ms.getD j 0):=by rw[h2,h3,Kn]
  have h6:sm g (λj=>U.getD j 0)+sm g (λj=>lE M n j)=sm g (λj=>ms.getD j 0):=h1;omega
 intro j hj;have h5:=vM s.u0 h4 j hj;have h6:=s.col j hj;omega
def G8 {B M:Γ1}{U ms ps:Γ3}{n g b:Nat}{left c:Int}{w:gR}(s:Jn B M U ms n g)(o:XV M ps g n b left)(ok:jW B M n g b w)(c0:0<=c)(hc:∀t,t+1<w.length->c<=en M (bI w (t+1)).1 (bI w t).2)(hu:c<=U.getD (aW w) 0) :
  Jn B (cb M w c w.length) (U.set (aW w) (U.getD (aW w) 0-c)) ms n g/\XV (cb M w c w.length) ps g n b (left-c):=by
 have st:=Rn s.rM s.nn ok c0 hc w.length (Ze _);have o0:=ok.ne;have PU:aW w<g:=(ok.uX (w.length-1) (by omega)).2.1;have hul:aW w<U.length:=by rw[s.ul];exact PU
 refine⟨⟨st.rM,st.nn,λi j hi hj h=>?_,by rw[Yo];exact s.ul,λj hj=>?_,λj hj=>?_⟩,λi hi hn=>?_,λhb=>?_,λi hi hn=>?_⟩
 .rcases st.sup i j h with z |z
  .exact s.sup i j hi hj z
  .exact z
 .rw[iI _ _ _ _ _ hul];have:=s.u0 j hj;split
  .rename_i e;subst e;omega
  .exact this
 .rw[iI _ _ _ _ _ hul,st.col,if_pos o0];show _+(_+if j=aW w then c else 0)=_;have:=s.col j hj;by_cases e:j=aW w
  .subst e;rw[if_pos rfl,if_pos rfl];omega
  .rw[if_neg e,if_neg e];omega
 .rw[st.row,if_pos o0,if_neg (by omega)];have:=o.old i hi hn;omega
 .rw[st.row,if_pos o0,if_pos rfl];have:=o.now hb;omega
 .rw[st.row,if_pos o0,if_neg (by omega)];have:=o.new i hi hn;omega
end SP
namespace MI
open PySem L2 KG EX KM RZ SP
def i9 {α : Type}{l:List α}{i:Nat}{d:α}(h:i<l.length):l.getD i d∈l:=by rw[ao (Zc h)];exact Zv _
def xy:FM:=λO xs P _=>∃qs:Δ1,xs=[.im (.list (qs.map qD))]/\(∀q∈qs,Rb 3000 q)/\(∀i,i<=qs.length->Rb 3000 (aH (qs.take i)))/\P (.im (qD (aH qs))) O
abbrev Sz:Δ2:=["parts","whole","part"]
def JR:MS:=(bv (bE (ij (af (mC (.int 0)) (af (mC (.int 1)) ar))) (bi 1))
 (bv (oz (cz (ah 0)) (bi 2) (bE (aE (f2 Ph) cH (af (ah 1) (af (ah 2) ar))) (bi 1)))
 (cU (ah 1))))
def Hb:∀O xs Pq QX,xy O xs Pq QX->JR { nx:=λ_ O'=>Pq (.im .none) O',rt:=Pq } (bh Sz xs) O:=by
 intro O xs Pq QX h;obtain⟨qs,rfl,hq,hs,h⟩:=h;refine⟨jS,?_⟩;refine⟨?_⟩;conv=>whnf
 refine⟨λi sl O'=>O'=O/\∃y,sl=[Φ9 (.list (qs.map qD)),Φ9 (qD (aH (qs.take i))),y],⟨rfl,_,rfl⟩,?_,?_⟩
 .rintro i x sl O' hx ⟨rfl,y,rfl⟩;have hi:i<qs.length:=by have:=(Zf.mp hx).1;simpa using this
  rw[Zl,mh (f:=qD) (d:=(0:Rat)) hi] at hx;cases Option.some.inj hx;refine⟨aH (qs.take i),qs.getD i 0,rfl,⟨hs i (by omega),hq _ (i9 hi)⟩,rfl,Φ9 (qD (qs.getD i 0)),?_⟩;rw[Kw (0:Rat) hi,kX];rfl
 .rintro sl O' ⟨rfl,y,rfl⟩;rw[Zb,Zb,Yj];exact⟨h⟩
def gT (r:Γ3)(ds:Δ1):Δ1:=(List.range r.length).map λj=>((r.getD j 0:Int):Rat)*ds.getD j 0
structure zz (r:Γ3)(ds:Δ1):Prop where
 len:r.length=ds.length
 r6:r.length<=6
 nn:∀x∈r,0<=x/\x<=100
 rb:∀d∈ds,Rb 3000 d
 pb:∀q∈gT r ds,Rb 3000 q
 sb:∀i,i<=(gT r ds).length->Rb 3000 (aH ((gT r ds).take i))
def GD:FM:=λO xs P _=>∃(r:Γ3) (ds:Δ1),xs=[.im (aT r),.im (.tuple (ds.map qD))]/\zz r ds/\P (.im (qD (aH (gT r ds)))) O
abbrev Mr:Δ2:=["wishes","got"]
def RD:MS:=(cU (aE xy cH (af (bY 2 [] (Px (af (ah 0) (af (ah 1) ar))) (ln 2 (aG (bi 0) (aG (bi 1) cc))) cQ (aE (f2 on) cH (af (ij (af (ah 0) (af (mC (.int 1)) ar))) (af (ah 1) ar)))) ar)))
def MV:∀O xs Pq QX,GD O xs Pq QX->RD { nx:=λ_ O'=>Pq (.im .none) O',rt:=Pq } (bh Mr xs) O:=by
 intro O xs Pq QX h;obtain⟨r,ds,rfl,ok,h⟩:=h;have hl:=ok.len;have r6:=ok.r6;refine⟨by rw[Zb,Zb];omega,?_⟩;refine gk (λj=>qD (((r.getD j 0:Int):Rat)*ds.getD j 0)) (λj=>.int (r.getD j 0)) (λj=>qD (ds.getD j 0)) (by rw[E6,Zb];omega) (λi x hx=>?_) (λi Z hi hZ=>?_) ?_
 .obtain⟨hi,rfl⟩:=qc hx;rw[Zb] at hi;rw[show(r.map PyData.int).getD i .none=.int (r.getD i 0) from jw hi,show(ds.map qD).getD i .none=qD (ds.getD i 0) from jw (by omega)]
 .rw[E6,Zb] at hi;have ha:=ok.nn (r.getD i 0) (i9 hi);have hb:=ok.rb (ds.getD i 0) (i9 (by omega));exact⟨jS,((r.getD i 0:Int):Rat),ds.getD i 0,rfl,⟨(yZ (k:=7) (by unfold Bd;omega) (by decide)).mono (by decide),hb⟩,hZ⟩
 .rw[E6,Zb];refine⟨gT r ds,?_,ok.pb,ok.sb,h⟩;unfold gT;rw[Zm];rfl
def jX (W:Γ1)(D:List (Δ1)):Δ1:=(List.range W.length).map λi=>aH (gT (W.getD i []) (D.getD i []))
def GC:FM:=λO xs P _=>∃(A:Γ3) (Pu:Δ1) (W:Γ1) (D:List (Δ1)),xs=[.im (g9 A Pu W),.im (BI D)]/\W.length=D.length/\W.length<=6/\(∀i,i<W.length->zz (W.getD i []) (D.getD i []))/\P (.im (.tuple ((jX W D).map qD))) O
abbrev Mq:Δ2:=["market","dealing"]
def RC:MS:=(cU (jj jg (af (bY 2 [] (Px (af (bL cZ (ah 0) (mC (.int 2))) (af (ah 1) ar))) (ln 2 (aG (bi 0) (aG (bi 1) cc))) cQ (aE GD cH (af (ah 0) (af (ah 1) ar)))) ar)))
def MU:∀O xs Pq QX,GC O xs Pq QX->RC { nx:=λ_ O'=>Pq (.im .none) O',rt:=Pq } (bh Mq xs) O:=by
 intro O xs Pq QX h;obtain⟨A,Pu,W,D,rfl,hl,w6,ok,h⟩:=h;refine⟨_,rfl,by rw[Zb,Zb];omega,?_⟩;refine gk (λi=>qD (aH (gT (W.getD i []) (D.getD i [])))) (λi=>aT (W.getD i [])) (λi=>.tuple ((D.getD i []).map qD)) (by rw[E6,Zb];omega) (λi x hx=>?_) (λi Z hi hZ=>?_) ?_
 .obtain⟨hi,rfl⟩:=qc hx;rw[Zb] at hi;rw[show(W.map aT).getD i .none=aT (W.getD i []) from jw hi,show(D.map λqs=>PyData.tuple (qs.map qD)).getD i .none=.tuple ((D.getD i []).map qD) from jw (by omega)]
 .rw[E6,Zb] at hi;exact⟨W.getD i [],D.getD i [],rfl,ok i hi,hZ⟩
 .rw[E6,Zb];unfold jX at h;rw[Zm] at h;exact h
def EW (c m a:Int):Rat:=if 0<c then Rat.divInt (c*a) m else 0
def GG:FM:=λO xs P _=>∃c m a:Int,xs=[.im (.int c),.im (.int m),.im (.int a)]/\(0<c->(m≠0/\Bd 8000 m)/\Bd 8000 c/\Bd 8000 a)/\P (.im (qD (EW c m a))) O
abbrev SE:Δ2:=["coins","money","amount"]
def RH:MS:=(cU (Py (ia (bL KW (ah 0) (mC (.int 0)))) (aE GK cH (af (bL zo (ah 0) (ah 2)) (af (ah 1) ar))) (ij (af (mC (.int 0)) (af (mC (.int 1)) ar)))))
def MZ:∀O xs Pq QX,GG O xs Pq QX->RH { nx:=λ_ O'=>Pq (.im .none) O',rt:=Pq } (bh SE xs) O:=by
 intro O xs Pq QX h;obtain⟨c,m,a,rfl,hc,h⟩:=h;refine⟨λe=>?_,λe=>?_⟩
 .have e:0<c:=of_decide_eq_true e;obtain⟨h1,h2,h3⟩:=hc e;refine⟨⟨h2,h3⟩,h1,?_⟩;unfold EW at h;rw[if_pos e] at h;exact h
 .have e:¬ 0<c:=of_decide_eq_false e;refine⟨jS,?_⟩;unfold EW at h;rw[if_neg e] at h;exact h
def RB (M:Γ1):PyData:=.list (M.map λr=>.list (r.map .int))
def di (A ms:Γ3)(M:Γ1):List (Δ1):=(List.range M.length).map λi=>(List.range A.length).map λj=>EW (en M i j) (ms.getD j 0) (A.getD j 0)
def GL:FM:=λO xs P _=>∃(A:Γ3) (Pu:Δ1) (W:Γ1) (ms:Γ3) (M:Γ1),xs=[.im (g9 A Pu W),.im (et ms),.im (RB M)]/\A.length<=6/\M.length<=6/\ms.length=A.length/\(∀i,i<M.length->(M.getD i []).length=A.length)/\(∀i j,i<M.length->j<A.length->0<en M i j->(ms.getD j 0≠0/\Bd 8000 (ms.getD j 0))/\Bd 8000 (en M i j)/\Bd 8000 (A.getD j 0))/\P (.im (BI (di A ms M))) O
abbrev Mx:Δ2:=["market","money","spent"]
def RO:MS:=(cU (jj jg (af (bY 1 [0,1] (cz (ah 2)) (bi 0) cQ (jj jg (af (bY 2 [2,0] (Ui (af (bL cZ (ah 1) (mC (.int 0))) ar)) (ln 2 (aG (bi 0) (aG (bi 1) cc))) cQ (aE GG cH (af (bL cZ (ah 3) (ah 0)) (af (bL cZ (ah 2) (ah 0)) (af (ah 1) ar))))) ar))) ar)))
def M4:∀O xs Pq QX,GL O xs Pq QX->RO { nx:=λ_ O'=>Pq (.im .none) O',rt:=Pq } (bh Mx xs) O:=by
 intro O xs Pq QX h;obtain⟨A,Pu,W,ms,M,rfl,g6,n6,hm,hr,hb,h⟩:=h;conv=>whnf
 refine A7 (λi=>.tuple (((List.range A.length).map λj=>EW (en M i j) (ms.getD j 0) (A.getD j 0)).map qD)) (by rw[Zb,Zb];omega) (λi x Z hx hZ=>?_) ?_
 .have hi:i<M.length:=by have:=(Zf.mp hx).1;simpa using this
  rw[Zl,mh (d:=([]:Γ3)) hi] at hx;cases Option.some.inj hx;have KA:=hr i hi;have el:(cF (A.map PyData.int)).length=A.length:=by unfold cF;simp
  refine⟨_,rfl,?_⟩;refine gk (λj=>qD (EW (en M i j) (ms.getD j 0) (A.getD j 0))) (λj=>.int (j:Int)) (λj=>.int (A.getD j 0)) (by rw[el];omega) (λj x hx=>?_) (λj Z hj hZ=>?_) ?_
  .obtain⟨hj,rfl⟩:=iT hx;rw[Zb] at hj;rw[show(A.map PyData.int).getD j .none=.int (A.getD j 0) from jw hj]
  .rw[el] at hj;refine⟨_,int_at (show j<(M.getD i []).length by omega),_,int_at (show j<ms.length by omega),_,_,_,rfl,λh0=>hb i j hi hj h0,hZ⟩
  .rw[el];rw[Zm] at hZ;exact hZ
 .rw[Zb,Zb];unfold BI di at h;rw[Zm] at h;exact h
def cW (p:Nat×Nat):PyData:=.tuple [.int (p.1:Int),.int (p.2:Int)]
def jf (w:gR):PyData:=.list (w.map cW)
def ii (Ws:List gR):List (Int×PyData):=(bQ Ws).map λx:Nat=>((x:Int),PyData.bool true)
def Dx {α : Type}{xs:List α}{d:α}(h:0<xs.length):gv xs (-1)=some (xs.getD (xs.length-1) d):=by
 unfold gv rQ;rw[if_neg (by omega),if_pos (by omega),ao (Zc (show xs.length-1<xs.length by omega))];have:(-1+(xs.length:Int)).toNat=xs.length-1:=by omega
 rw[this];exact Zc (by omega)
def j4 {w:gR}(h:0<w.length):gv (w.map cW) (-1)=some (cW (bI w (w.length-1))):=by
 rw[Dx (d:=.none) (by rw[Zb];exact h),Zb];rw[show(w.map cW).getD (w.length-1) .none=cW (bI w (w.length-1)) from jw (by omega)]
def zy {O:aF}{a b:Option (List AV)}:(O++[a,b])[O.length]?=some a:=by simp
def Sm {O:aF}{a b:Option (List AV)}:(O++[a,b])[O.length+1]?=some b:=by
 rw[Yh (by omega)];simp
def π {O:aF}{a b:Option (List AV)}{k:Nat}{c:Option (List AV)}(h:O[k]?=some c):(O++[a,b])[k]?=some c:=by
 rw[Zp (Zf.mp h).1];exact h
def S4 {O:aF}{a b c:Option (List AV)}:(O++[a,b]).set O.length c=O++[c,b]:=by
 rw[List.set_append,if_neg (by omega)];simp
def S3 {O:aF}{a b c:Option (List AV)}:(O++[a,b]).set (O.length+1) c=O++[a,c]:=by
 rw[List.set_append,if_neg (by omega)];simp
def oj.kL {O O':aF}{k:Nat}{ks:List Nat}{W:Γ1}(t:oj O k ks W)(h:dE O O'):oj O' k ks W:=by
 obtain⟨u,rfl⟩:=h;refine⟨?_,t.len,λi hi=>?_⟩
 .rw[Zp (Zf.mp t.hd).1];exact t.hd
 .rw[Zp (Zf.mp (t.row i hi)).1];exact t.row i hi
def oj.get {O:aF}{k i j:Nat}{ks:List Nat}{W:Γ1}(h:oj O k ks W)(hi:i<W.length)(hj:j<(W.getD i []).length):gv (ks.map AV.own) (i:Int)=some (.own (ks.getD i 0))/\O[ks.getD i 0]?=some (some ((W.getD i []).map λx=>AV.im (.int x)))/\gv ((W.getD i []).map λx=>AV.im (.int x)) (j:Int)=some (.im (.int (en W i j))) :=
 ⟨bR (mh (by rw[h.len];exact hi)),h.row i hi,bR (mh hj)⟩
def qY (Ws:List gR)(y:Nat):jh (ii Ws) (y:Int)=true↔y∈bQ Ws:=by
 unfold jh ii;rw[X1,Zw];constructor
 .rintro⟨x,hx,e⟩;have e:(x:Int)=(y:Int):=of_decide_eq_true e;have:x=y:=by omega
  exact this▸hx
 .intro h;exact⟨y,h,decide_eq_true rfl⟩
def Ik {Ws:List gR}{w:gR}(hn:aW w∉bQ Ws):putD (ii Ws) (aW w:Int) (.bool true)=ii (Ws++[w]):=by
 unfold putD;rw[if_neg (λz=>hn ((qY Ws _).mp z))];unfold ii bQ;rw[Zs,Zs];rfl
theorem pi:∀{l:Γ3},l.Nodup->(∀x∈l,0<=x)->(l.map Int.toNat).Nodup
 |[],_,_=>X3
 |x::l,nd,h=>by
  have A4:=Yd.mp nd;rw[Zi,Yd];refine⟨λz=>?_,pi A4.2 λy hy=>h y (Zh _ hy)⟩;obtain⟨y,hy,e⟩:=Zd.mp z;have h1:=h x Zg;have h2:=h y (Zh _ hy);have:y=x:=by omega
  exact A4.1 (this▸hy)
structure So (B M:Γ1)(U ms ps:Γ3)(n g b:Nat):Prop where
 sp:Jn B M U ms n g
 oA:Mz B ms ps n g
 bn:b<n
 bl:B.length=n
 n6:n<=6
 g6:g<=6
 hB:∀i,i<n->∀x∈B.getD i [],0<=x/\x.toNat<g
 b6:∀i,i<n->(B.getD i []).length<=6
 nd:∀i,i<n->(B.getD i []).Nodup
 rl:∀i,i<n->eT M g i<=ps.getD i 0
 rb:eT M g b<ps.getD b 0
def GF:FM:=λO xs P _=>∃(B M:Γ1) (U ms ps:Γ3) (n g b k ku:Nat) (ks:List Nat),xs=[.im (.tuple (B.map aT)),.own k,.own ku,.im (.int (b:Int))]/\oj O k ks M/\O[ku]?=some (cI U)/\So B M U ms ps n g b/\∀(w:gR) (O':aF),jW B M n g b w->U.getD (aW w) 0≠0->dE O O'->P (.im (jf w)) O'
abbrev GQ:Δ2:=["best","spent","unsold","buyer","ways","met","at","last","payer","good"]
def RF:MS:=(bv (bE (jE 1 [3] (cz (bL cZ (ah 0) (ah 3))) (bi 0) cQ (u5 (af (ij (af (ah 1) (af (ah 0) ar))) ar))) (bi 4))
 (bv (bE (vn 1 [] (cz (bL cZ (ah 0) (ah 3))) (bi 0) cQ (ah 0) (mC (.bool true))) (bi 5))
 (bv (bE (mC (.int 0)) (bi 6))
 (bv (qz (ia (bL (FH false) (bL cZ (ah 2) (bL cZ (bL cZ (bL cZ (ah 4) (ah 6)) (zp (mC (.int 1)))) (mC (.int 1)))) (mC (.int 0)))) (bv (bE (bL cZ (bL cZ (bL cZ (ah 4) (ah 6)) (zp (mC (.int 1)))) (mC (.int 1))) (bi 7))
 (bv (oz (oy (af (jj BK (af (ah 1) ar)) ar)) (bi 8) (sn (ia (bL KW (bL cZ (bL cZ (ah 1) (ah 8)) (ah 7)) (mC (.int 0)))) (oz (cz (bL cZ (ah 0) (ah 8))) (bi 9) (sn (RQ true (ah 9) (ah 5)) (bv (JZ (ah 5) (ah 9) (mC (.bool true)))
 (xl (LF (ah 4) (af (bL jB (bL cZ (ah 4) (ah 6)) (u5 (af (ij (af (ah 8) (af (ah 9) ar))) ar))) ar)))) lr)) lr))
 (Cc 6 (vf λi j=>i+j) (mC (.int 1))))))
 (cU (bL cZ (ah 4) (ah 6)))))))
def qr {x:Int}(h:0<=x):((x.toNat:Nat):Int)=x:=Xe h
def MX:∀O xs Pq QX,GF O xs Pq QX->RF { nx:=λ_ O'=>Pq (.im .none) O',rt:=Pq } (bh GQ xs) O:=by
 intro O xs Pq QX h;obtain⟨B,M,U,ms,ps,n,g,b,k,ku,ks,rfl,tb,hu,ok,h⟩:=h;have bl:=ok.bl;have bn:=ok.bn;have n6:=ok.n6;have g6:=ok.g6;have B6:∀i,i<n->gv (B.map aT) (i:Int)=some (aT (B.getD i [])):=λi hi=>bR (mh (by omega))
 have hb6:=ok.b6 b bn;refine⟨_,B6 b bn,?_⟩;conv=>whnf
 refine k9 (λi d=>d=.im (jf [(b,((B.getD b []).getD i 0).toNat)])) (by rw[Zb,Zb];omega) (λi x Z hx hZ=>?_) (λzs hl hz=>?_)
 .obtain⟨hi,rfl⟩:=A5 hx;have h0:=(ok.hB b bn _ (i9 (d:=0) hi)).1;refine⟨jS,Gs,hZ _ ?_⟩;unfold jf cW;rw[Zi,List.map_nil,qr h0]
 rw[Zb,Zb] at hl;let Jl:List gR:=(B.getD b []).map λx=>[(b,x.toNat)]
 have ez:zs=Jl.map λw=>AV.im (jf w):=by
  refine X7 λi=>?_
  rw[Zm,Zl];by_cases hi:i<zs.length
  .have:=hz i _ (Zc hi);rw[Zc hi,this,Zc (show i<(B.getD b []).length by omega),ao (Zc (show i<(B.getD b []).length by omega))];rfl
  .rw[Ym (Y4 hi),Ym (by omega)];rfl
 subst ez;have e0:bQ Jl=(B.getD b []).map Int.toNat:=by
  show((B.getD b []).map λx=>[(b,x.toNat)]).map aW=_;rw[Zm];rfl
 have bf0:BF B M n g b Jl:=by
  refine⟨λw hw=>?_,?_,λw hw t ht=>?_⟩
  .obtain⟨x,hx,rfl⟩:=Zd.mp hw;obtain⟨h0,h1⟩:=ok.hB b bn x hx;refine⟨by simp,rfl,λt ht=>?_,λt ht=>absurd ht (by simp),λt u ht hu _=>by simp at ht hu;omega⟩;have:t=0:=by simp at ht;exact ht
   subst this;exact⟨bn,h1,by show((x.toNat:Nat):Int)∈_;rw[qr h0];exact hx⟩
  .rw[e0];exact pi (ok.nd b bn) λx hx=>(ok.hB b bn x hx).1
  .obtain⟨x,hx,rfl⟩:=Zd.mp hw;have:t=0:=by simp at ht;exact ht
   subst this;rw[e0];exact Zd.mpr ⟨x,hx,rfl⟩
 have T0:∀x∈B.getD b [],x.toNat∈bQ Jl:=λx hx=>by rw[e0];exact Zd.mpr ⟨x,hx,rfl⟩
 refine⟨⟨_,B6 b bn,?_⟩⟩;conv=>whnf
 refine⟨by rw[Zb,Zb];omega,λi Vt O'=>O'=O++[some (Jl.map λw=>AV.im (jf w))]/\Vt=((B.getD b []).take i).map λx=>(x,PyData.bool true),⟨rfl,rfl⟩,?_,?_⟩
 .rintro i x Vt O' hx ⟨rfl,rfl⟩;obtain⟨hi,rfl⟩:=A5 hx;refine⟨λ_=>⟨rfl,?_⟩,λz=>(by cases z)⟩;rw[Kw (0:Int) hi,Zs];unfold putD;rw[if_neg]
  .rfl
  .intro z;unfold jh at z;rw[X1,Zw] at z;obtain⟨y,hy,e⟩:=z;have e:y=(B.getD b []).getD i 0:=of_decide_eq_true e;have nd:=ok.nd b bn;have:(B.getD b [])=(B.getD b []).take i++(B.getD b []).drop i:=(List.take_append_drop i _).symm;rw[this,X4] at nd;refine nd.2.2 y hy _ ?_ e;rw[List.mem_iff_getElem?];exact⟨0,by rw[List.getElem?_drop,Nat.add_zero,Zc hi,ao (Zc hi)]⟩
 rintro Vt O' ⟨rfl,rfl⟩;rw[Zb,Zb,Yj,Ys];have em:(((B.getD b []).map λx=>(x,PyData.bool true)).map pairD)=(ii Jl).map pairD:=by
  unfold ii;rw[e0,Zm,Zm,Zm];refine Yy λx hx=>?_
  show pairD (x,_)=pairD (((x.toNat:Nat):Int),_);rw[qr (ok.hB b bn x hx).1]
 rw[em];rw[show(O++[some (Jl.map λw=>AV.im (jf w))]).length=O.length+1 by simp];refine⟨?_⟩;let St:List gR->aF:=λWs=>O++[some (Ws.map λw=>AV.im (jf w)),some ((ii Ws).map pairD)]
 have gr:∀Ws,dE O (St Ws):=λWs=>⟨_,rfl⟩
 refine⟨⟨λm sl O'=>∃(Ws:List gR) (a:Nat) (y7 y8 y9:Option AV),m+a=g+1/\sl=[Φ9 (.tuple (B.map aT)),some (.own k),some (.own ku),Φ9 (.int (b:Int)),some (.own O.length),some (.ze (O.length+1)),Φ9 (.int ((a:Nat):Int)),y7,y8,y9]/\O'=St Ws/\BF B M n g b Ws/\(∀x∈B.getD b [],x.toNat∈bQ Ws)/\BU B M U n Ws a/\a<=Ws.length,⟨g+1,Jl,0,none,none,none,by omega,rfl,rfl,bf0,T0,λt ht=>absurd ht (by omega),Z7 _⟩,?_⟩⟩;rintro m sl O' ⟨Ws,a,y7,y8,y9,hm,rfl,rfl,bf,base,dn,ha⟩;have cg:a<Ws.length:=by
  rcases Z5 a Ws.length with z |z
  .exact z
  .exfalso;have e:a=Ws.length:=by omega
   subst e;refine Ak ok.sp ok.oA bn ok.hB ok.rl ok.rb (λx hx=>?_) base dn;obtain⟨w,hw,rfl⟩:=Zd.mp hx;have o:=bf.ok w hw;have:=o.ne;exact(o.uX (w.length-1) (by omega)).2.1
 have wm:Ws.getD a []∈Ws:=i9 cg;have ahC:=bf.len;generalize hw:Ws.getD a []=w at wm;have ow:=bf.ok w wm;have ow0:=ow.ne;have PU:aW w<g:=(ow.uX (w.length-1) (by omega)).2.1;have QV:∀Vs:List gR,gv ((Ws++Vs).map λw=>AV.im (jf w)) ((a:Nat):Int)=some (AV.im (jf w)):=λVs=>by
  rw[bR (mh (d:=([]:gR)) (show a<(Ws++Vs).length by rw[Zu];omega)),nF cg,hw]
 have FR:=QV [];rw[Yg] at FR;have ul:=ok.sp.ul;have OV:gv (U.map λx=>AV.im (PyData.int x)) ((aW w:Nat):Int)=some (AV.im (.int (U.getD (aW w) 0))):=bR (mh (by omega));refine⟨_,_,zy,FR,_,j4 ow0,_,rfl,_,_,π hu,OV,dI,λhc=>?_,λhc=>?_⟩
 .have hc:U.getD (aW w) 0=0:=of_decide_eq_true hc;refine⟨_,_,zy,FR,_,j4 ow0,_,rfl,?_⟩;have QW:=tb.len;have ml:=ok.sp.rM.len;refine⟨_,(tb.kL (gr Ws)).hd,⟨by rw[Zb];omega,by rw[Zb];omega⟩,?_⟩;rw[Zb,Z3];refine⟨λi sl O'=>∃(Vs:List gR) (y8 y9:Option AV),sl=[Φ9 (.tuple (B.map aT)),some (.own k),some (.own ku),Φ9 (.int (b:Int)),some (.own O.length),some (.ze (O.length+1)),Φ9 (.int ((a:Nat):Int)),Φ9 (.int ((aW w:Nat):Int)),y8,y9]/\O'=St (Ws++Vs)/\BF B M n g b (Ws++Vs)/\∀p,p<i->0<en M p (aW w)->∀x∈B.getD p [],x.toNat∈bQ (Ws++Vs),⟨[],y8,y9,rfl,by rw[Yg],by rw[Yg];exact bf,λp hp=>absurd hp (by omega)⟩,?_,?_⟩
  .rintro i x sl O' hx ⟨Vs,y8,y9,rfl,rfl,Fo,pr⟩;obtain⟨hi,rfl⟩:=iS hx;rw[QW,ml] at hi;obtain⟨g1,g2,g3⟩:=(tb.kL (gr (Ws++Vs))).get (i:=i) (j:=aW w) (by omega) (by rw[ok.sp.rM.row i hi];exact PU);refine⟨_,_,(tb.kL (gr (Ws++Vs))).hd,g1,_,_,g2,g3,λhp=>?_,λhp=>?_⟩
   .have hp:0<en M i (aW w):=of_decide_eq_true hp;refine⟨_,B6 i hi,?_⟩;conv=>whnf
    refine⟨λj sl O'=>∃(Vs:List gR) (y9:Option AV),sl=[Φ9 (.tuple (B.map aT)),some (.own k),some (.own ku),Φ9 (.int (b:Int)),some (.own O.length),some (.ze (O.length+1)),Φ9 (.int ((a:Nat):Int)),Φ9 (.int ((aW w:Nat):Int)),Φ9 (.int (i:Int)),y9]/\O'=St (Ws++Vs)/\BF B M n g b (Ws++Vs)/\(∀p,p<i->0<en M p (aW w)->∀x∈B.getD p [],x.toNat∈bQ (Ws++Vs))/\∀x∈(B.getD i []).take j,x.toNat∈bQ (Ws++Vs),⟨Vs,y9,rfl,rfl,Fo,pr,λx hx=>(by cases hx)⟩,?_,?_⟩
    .rintro j x sl O' hx ⟨Vs,y9,rfl,rfl,Fo,pr,pj⟩;obtain⟨hj,rfl⟩:=A5 hx;have hxm:(B.getD i []).getD j 0∈B.getD i []:=i9 hj;obtain⟨x0,xg⟩:=ok.hB i hi _ hxm;have xn:=qr x0;have RS:=Fo.len;have ml2:(ii (Ws++Vs)).length=(Ws++Vs).length:=by unfold ii bQ;simp
     refine⟨ii (Ws++Vs),Sm,λhk=>?_,λhk=>?_⟩
     .have hk:(!jh (ii (Ws++Vs)) ((B.getD i []).getD j 0))=true:=hk;have hn:((B.getD i []).getD j 0).toNat∉bQ (Ws++Vs):=λz=>by
       have:=(qY (Ws++Vs) _).mpr z;rw[xn] at this;rw[this] at hk;cases hk
      refine⟨ii (Ws++Vs),Sm,by omega,?_⟩;rw[S3];refine⟨⟨⟨_,zy⟩,_,_,zy,QV Vs,jS,Gs,?_,?_⟩⟩
      .rw[Zb,sz];have:=ow.len;show w.length+1<=_;omega
      .refine⟨_,zy,by rw[Zb,sz];omega,?_⟩;have VT:aW (w++[(i,((B.getD i []).getD j 0).toNat)])=((B.getD i []).getD j 0).toNat:=pz;have bf2:=Fo.push (Xb Vs wm) hi xg (by rw[xn];exact hxm) hp hn;have e2:putD (ii (Ws++Vs)) ((B.getD i []).getD j 0) (.bool true)=ii (Ws++Vs++[w++[(i,((B.getD i []).getD j 0).toNat)]]):=by
        rw[<- Ik (by rw[VT];exact hn),VT,xn]
       have l2:bQ (Ws++Vs++[w++[(i,((B.getD i []).getD j 0).toNat)]])=bQ (Ws++Vs)++[((B.getD i []).getD j 0).toNat]:=by
        unfold bQ;rw[Zs (l₁:=Ws++Vs),Zi,List.map_nil,VT]
       refine⟨Vs++[w++[(i,((B.getD i []).getD j 0).toNat)]],Φ9 (.int ((B.getD i []).getD j 0)),rfl,?_,by rw[<- Ys];exact bf2,λp hp h0 x hx=>?_,λx hx=>?_⟩
       .rw[S4,e2,<- Ys];show O++[some (_++[_]),_]=O++[some ((Ws++Vs++[w++[(i,((B.getD i []).getD j 0).toNat)]]).map λw=>AV.im (jf w)),_];rw[Zs (l₁:=Ws++Vs)]
        congr 4
        show _=[AV.im (jf (w++[(i,((B.getD i []).getD j 0).toNat)]))];unfold jf;rw[Zs (l₁:=w)];show _=[AV.im (.list (w.map cW++[.tuple [.int (i:Int),.int ((((B.getD i []).getD j 0).toNat:Nat):Int)]]))];rw[xn]
       .rw[<- Ys,l2];exact Xb _ (pr p hp h0 x hx)
       .rw[<- Ys,l2];rw[Kw (0:Int) hj] at hx;rcases Z0.mp hx with hx |hx
        .exact Xb _ (pj x hx)
        .rw[Z2.mp hx];exact Zt _ (by simp)
     .have hk:(!jh (ii (Ws++Vs)) ((B.getD i []).getD j 0))=false:=hk;refine⟨Vs,Φ9 (.int ((B.getD i []).getD j 0)),rfl,rfl,Fo,pr,λx hx=>?_⟩;rw[Kw (0:Int) hj] at hx;rcases Z0.mp hx with hx |hx
      .exact pj x hx
      .rw[Z2.mp hx];refine(qY (Ws++Vs) _).mp ?_;rw[xn];cases z:jh (ii (Ws++Vs)) ((B.getD i []).getD j 0) with
       |true=>rfl
       |false=>rw[z] at hk;cases hk
    .rintro sl O' ⟨Vs,y9,rfl,rfl,Fo,pr,pj⟩;rw[Zb,Zb,Yj] at pj;refine⟨Vs,_,_,rfl,rfl,Fo,λp VM h0 z hz=>?_⟩;by_cases e:p=i
     .subst e;exact pj z hz
     .exact pr p (by omega) h0 z hz
   .have hp:¬ 0<en M i (aW w):=of_decide_eq_false hp;refine⟨Vs,_,_,rfl,rfl,Fo,λp VM h0 x hx=>?_⟩;by_cases e:p=i
    .subst e;exact absurd h0 hp
    .exact pr p (by omega) h0 x hx
  .rintro sl O' ⟨Vs,y8,y9,rfl,rfl,Fo,pr⟩;rw[uO,QW,ml] at pr;refine⟨⟨_,rfl,g-a,by omega,Ws++Vs,a+1,Φ9 (.int ((aW w:Nat):Int)),y8,y9,by omega,?_,rfl,Fo,λx hx=>?_,λt ht=>?_,by rw[Zu];omega⟩⟩
   .rfl
   .unfold bQ;rw[Zs];exact Xb _ (base x hx)
   .rcases Z5 t a with z |z
    .exact dn.app ha Vs t z
    .have:t=a:=by omega
     subst this;rw[nF cg,hw];exact⟨hc,pr⟩
 .have hc:U.getD (aW w) 0≠0:=of_decide_eq_false hc;exact⟨⟨_,_,zy,FR,h w _ ow hc (gr Ws)⟩⟩
def Ct {w:gR}{t:Nat}(h:t<w.length):gv (w.map cW) ((t:Nat):Int)=some (cW (bI w t)):=bR (mh h)
def xD:FM:=λO xs P _=>∃(B M:Γ1) (U:Γ3) (n g b k ku:Nat) (ks:List Nat) (w:gR) (left:Int),xs=[.im (jf w),.own k,.own ku,.im (.int left)]/\oj O k ks M/\O[ku]?=some (cI U)/\wU M n g/\U.length=g/\g<=6/\jW B M n g b w/\0<left/\0<U.getD (aW w) 0/\∀c:Int,0<c->c<=left->c<=U.getD (aW w) 0->(∀t,t+1<w.length->c<=en M (bI w (t+1)).1 (bI w t).2)->P (.im (.int c)) O
abbrev Mw:Δ2:=["way","spent","unsold","left","bounds"]
def JX:MS:=(bv (bE (bY 3 [1,0] (Gi (af (Uj (ah 0) (Gm (mC (.int 1))) Gp) ar)) (ln 2 (aG (bi 0) (aG (ln 2 (aG (bi 1) (aG (bi 2) cc))) cc))) cQ (bL cZ (bL cZ (ah 3) (ah 1)) (bL cZ (bL cZ (ah 4) (ah 0)) (mC (.int 1))))) (bi 4))
 (cU (jj LB (af (bL jB (ah 4) (u5 (af (bL cZ (ah 2) (bL cZ (bL cZ (ah 0) (zp (mC (.int 1)))) (mC (.int 1)))) (af (ah 3) ar)))) ar))))
def Hh:∀O xs Pq QX,xD O xs Pq QX->JX { nx:=λ_ O'=>Pq (.im .none) O',rt:=Pq } (bh Mw xs) O:=by
 intro O xs Pq QX h;obtain⟨B,M,U,n,g,b,k,ku,ks,w,left,rfl,tb,hu,sh,ul,g6,ok,l0,u0,h⟩:=h;have w0:=ok.ne;have wl:=ok.len;have T':cutD (w.map cW) (some 1) none=(w.drop 1).map cW:=by
  have:=pH (xs:=w.map cW) (r:=1) (by omega) (by rw[Zb];omega);rw[this,List.map_drop];rfl
 have OE:(w.drop 1).length=w.length-1:=by rw[Xz]
 have el:(cF ((w.drop 1).map cW)).length=w.length-1:=by unfold cF;simp
 show CB 3 [1,0] _ _ _ _ _ (cF (cutD (w.map cW) (some 1) none)) O;rw[T'];refine⟨by rw[el];omega,λi ds O'=>O'=O/\ds=(List.range i).map λt=>.int (en M (bI w (t+1)).1 (bI w t).2),⟨rfl,rfl⟩,?_,?_⟩
 .rintro i x ds O' hx ⟨rfl,rfl⟩;obtain⟨hi,rfl⟩:=iT hx;rw[Zb,OE] at hi;have ed:((w.drop 1).map cW).getD i .none=cW (bI w (i+1)):=by
   rw[jw (a:=((0,0):Nat×Nat)) (by rw[OE];exact hi)];unfold bI
   congr 1
   simp[List.getD,List.getElem?_drop,Nat.add_comm]
  rw[ed];obtain⟨d1,d2,_⟩:=ok.uX (i+1) (by omega);obtain⟨e1,e2,_⟩:=ok.uX i (by omega);obtain⟨g1,g2,g3⟩:=tb.get (i:=(bI w (i+1)).1) (j:=(bI w i).2) (by rw[sh.len];exact d1) (by rw[sh.row _ d1];exact e2);refine⟨rfl,rfl,λ_=>⟨_,_,tb.hd,g1,_,Ct (by omega),_,rfl,_,_,g2,g3,rfl,?_⟩,λz=>(by cases z)⟩;rw[Y6,Zs];rfl
 .rintro ds O' ⟨rfl,rfl⟩;rw[el];have OV:gv (U.map λx=>AV.im (PyData.int x)) ((aW w:Nat):Int)=some (AV.im (.int (U.getD (aW w) 0))):=bR (mh (by rw[ul];exact(ok.uX (w.length-1) (by omega)).2.1));refine⟨_,j4 w0,_,rfl,_,_,hu,OV,jS,?_,((List.range (w.length-1)).map λt=>en M (bI w (t+1)).1 (bI w t).2)++[U.getD (aW w) 0,left],?_,by simp,λc hc hm=>?_⟩
  .rw[Zb,Y3,sz];show w.length-1+2<=_;omega
  .rw[Zs,Zm];rfl
  .have dz:0<c:=by
    rcases Z0.mp hc with z |z
    .obtain⟨t,ht,rfl⟩:=Zd.mp z;have:=Zq.mp ht;exact ok.lnk t (by omega)
    .rcases Zk.mp z with rfl |z
     .exact u0
     .rw[Z2.mp z];exact l0
   exact h c dz (hm _ (Zt _ (by simp))) (hm _ (Zt _ (by simp))) λt ht=>hm _ (Xb _ (Zd.mpr ⟨t,Zq.mpr (by omega),rfl⟩))
structure FL (O O':aF)(ks:List Nat):Prop where
 len:O'.length=O.length
 EY:∀m:Nat,m∉ks->O'[m]?=O[m]?
def FL.refl (O:aF)(ks:List Nat):FL O O ks:=⟨rfl,λ_ _=>rfl⟩
def FL.set {O O':aF}{ks:List Nat}(h:FL O O' ks){m:Nat}(hm:m∈ks)(c:Option (List AV)):FL O (O'.set m c) ks:=⟨by rw[Yo];exact h.len,λj hj=>by rw[Z6 (λ(e:m=j)=>hj (e▸hm))];exact h.EY j hj⟩
def xz:FM:=λO xs P _=>∃(B M:Γ1) (n g b k:Nat) (ks:List Nat) (w:gR) (c:Int),xs=[.im (jf w),.own k,.im (.int c)]/\oj O k ks M/\(k::ks).Nodup/\wU M n g/\jW B M n g b w/\∀O',oj O' k ks (cb M w c w.length)->FL O O' ks->P (.im .none) O'
abbrev SA:Δ2:=["way","spent","coins","at","payer","good"]
def JS:MS:=(oz (Gi (af (ah 0) ar)) (ln 2 (aG (bi 3) (aG (ln 2 (aG (bi 4) (aG (bi 5) cc))) cc))) (bv (xm (bL cZ (ah 1) (ah 4)) (ah 5) (vf λi j=>i+j) (ah 2))
 (sn (ia (bL KW (ah 3) (mC (.int 0)))) (xm (bL cZ (ah 1) (ah 4)) (bL cZ (bL cZ (ah 0) (bL Rc (ah 3) (mC (.int 1)))) (mC (.int 1))) (vf λi j=>i-j) (ah 2)) lr)))
theorem sY {B M:Γ1}{n g b:Nat}{w:gR}{c:Int}(s:wU M n g)(ok:jW B M n g b w):∀t,t<=w.length->wU (cb M w c t) n g
 |0,_=>s
 |t+1,ht=>by
  have ih:=sY (c:=c) s ok t (by omega);have d1:=(ok.uX t (by omega)).1;show wU (if 0<t then _ else _) n g;split
  .exact iQ (iQ ih d1 _) d1 _
  .exact iQ ih d1 _
def Hc:∀O xs Pq QX,xz O xs Pq QX->JS { nx:=λ_ O'=>Pq (.im .none) O',rt:=Pq } (bh SA xs) O:=by
 intro O xs Pq QX h;obtain⟨B,M,n,g,b,k,ks,w,c,rfl,tb,nd,sh,ok,h⟩:=h;have el:(cF (w.map cW)).length=w.length:=by unfold cF;simp
 conv=>whnf
 refine⟨λi sl O'=>∃y3 y4 y5:Option AV,sl=[Φ9 (jf w),some (.own k),Φ9 (.int c),y3,y4,y5]/\oj O' k ks (cb M w c i)/\FL O O' ks,⟨none,none,none,rfl,tb,FL.refl _ _⟩,?_,?_⟩
 .rintro i x sl O' hx ⟨y3,y4,y5,rfl,t1,EY⟩;obtain⟨hi,rfl⟩:=iT hx;rw[Zb] at hi;rw[show(w.map cW).getD i .none=cW (bI w i) from jw hi];obtain⟨d1,d2,_⟩:=ok.uX i hi;have s1:=sY (c:=c) sh ok i (by omega);have kl:ks.length=n:=by rw[t1.len,s1.len]
  have RU:ks.getD (bI w i).1 0∈ks:=mem_getD (by omega);obtain⟨g1,g2,g3⟩:=t1.get (i:=(bI w i).1) (j:=(bI w i).2) (by rw[s1.len];exact d1) (by rw[s1.row _ d1];exact d2);refine⟨rfl,rfl,_,_,t1.hd,g1,_,_,_,g2,g3,xr (by rw[Zb,s1.row _ d1];exact d2),_,g2,rfl,?_⟩;rw[qk];have t2:=t1.put (((cb M w c i).getD (bI w i).1 []).set (bI w i).2 (en (cb M w c i) (bI w i).1 (bI w i).2+c)) (i:=(bI w i).1) (by rw[s1.len];exact d1) nd;have Rx:=EY.set RU (cI (((cb M w c i).getD (bI w i).1 []).set (bI w i).2 (en (cb M w c i) (bI w i).1 (bI w i).2+c)))
  change oj _ k ks (fw (cb M w c i) (bI w i).1 (bI w i).2 c) at t2
  have s2:=iQ (j:=(bI w i).2) s1 d1 c;refine⟨λhc=>?_,λhc=>?_⟩
  .have hc:0<i:=by have:=of_decide_eq_true hc;omega
   obtain⟨e1,e2,_⟩:=ok.uX (i-1) (by omega);obtain⟨g1,g2,g3⟩:=t2.get (i:=(bI w i).1) (j:=(bI w (i-1)).2) (by rw[s2.len];exact d1) (by rw[s2.row _ d1];exact e2);have wa:gv (w.map cW) ((i:Int)-1)=some (cW (bI w (i-1))):=by
    have:=Ct (w:=w) (t:=i-1) (by omega)
    rwa [show((i-1:Nat):Int)=(i:Int)-1 by omega] at this
   refine⟨_,_,t2.hd,g1,_,wa,_,rfl,_,_,_,g2,g3,xr (by rw[Zb,s2.row _ d1];exact e2),_,g2,rfl,?_⟩;refine⟨_,_,_,rfl,?_,?_⟩
   .show oj (List.set _ _ (some ((((fw (cb M w c i) (bI w i).1 (bI w i).2 c).getD (bI w i).1 []).map λx=>AV.im (PyData.int x)).set (bI w (i-1)).2 (.im (.int (en (fw (cb M w c i) (bI w i).1 (bI w i).2 c) (bI w i).1 (bI w (i-1)).2-c)))))) k ks _;rw[qk,Int.sub_eq_add_neg];have un:cb M w c (i+1)=fw (fw (cb M w c i) (bI w i).1 (bI w i).2 c) (bI w i).1 (bI w (i-1)).2 (-c):=by show(if 0<i then _ else _)=_;rw[if_pos hc]
    rw[un];exact t2.put _ (by rw[s2.len];exact d1) nd
   .exact Rx.set RU _
  .have hc:¬ 0<i:=by have:=of_decide_eq_false hc;omega
   have un:cb M w c (i+1)=fw (cb M w c i) (bI w i).1 (bI w i).2 c:=by show(if 0<i then _ else _)=_;rw[if_neg hc]
   exact⟨_,_,_,rfl,by rw[un];exact t2,Rx⟩
 .rintro sl O' ⟨y3,y4,y5,rfl,t1,EY⟩;rw[el] at t1;exact h O' t1 EY
structure L5 (B:Γ1)(ms ps:Γ3)(n g:Nat):Prop where
 ml:ms.length=g
 pl:ps.length=n
 bl:B.length=n
 n6:n<=6
 g6:g<=6
 m0:∀j,j<g->0<=ms.getD j 0
 p0:∀i,i<n->0<=ps.getD i 0
 hB:∀i,i<n->∀x∈B.getD i [],0<=x/\x.toNat<g
 b6:∀i,i<n->(B.getD i []).length<=6
 nd:∀i,i<n->(B.getD i []).Nodup
 oA:Mz B ms ps n g
 Kn:sm g (λj=>ms.getD j 0)=sm n (λi=>ps.getD i 0)
def qA:FM:=λO xs P _=>∃(B:Γ1) (ms ps:Γ3) (n g:Nat),xs=[.im (.tuple (B.map aT)),.im (et ms),.im (et ps)]/\L5 B ms ps n g/\∀(M:Γ1) (O':aF),xH B M ms ps n g->dE O O'->P (.im (RB M)) O'
abbrev Mt:Δ2:=["best","money","purses","spent","unsold","buyer","purse","left","way","coins"]
def C7:MS:=(bv (bE (jE 1 [1] (cz (ah 2)) (bi 0) cQ (jE 1 [] (cz (ah 1)) (bi 0) cQ (mC (.int 0)))) (bi 3))
 (bv (bE (jj LG (af (ah 1) ar)) (bi 4))
 (bv (oz (Gi (af (ah 2) ar)) (ln 2 (aG (bi 5) (aG (bi 6) cc))) (bv (bE (ah 6) (bi 7))
 (qz (ia (bL KW (ah 7) (mC (.int 0)))) (bv (bE (aE GF cH (af (ah 0) (af (ah 3) (af (ah 4) (af (ah 5) ar))))) (bi 8))
 (bv (bE (aE xD cH (af (ah 8) (af (ah 3) (af (ah 4) (af (ah 7) ar))))) (bi 9))
 (bv (xl (aE xz cH (af (ah 8) (af (ah 3) (af (ah 9) ar)))))
 (bv (xm (ah 4) (bL cZ (bL cZ (ah 8) (zp (mC (.int 1)))) (mC (.int 1))) (vf λi j=>i-j) (ah 9))
 (Cc 7 (vf λi j=>i-j) (ah 9)))))))))
 (Cb 3 (cU (ah 3))))))
structure su (O O':aF)(k ku:Nat)(ks:List Nat)(M:Γ1)(U:Γ3):Prop where
 one:One O O' k ks M
 T8:O.length<=ku
 OU:ku∉k::ks
 u:O'[ku]?=some (cI U)
def su.kL {O O1 O2:aF}{k ku:Nat}{ks:List Nat}{M:Γ1}{U:Γ3}(s:su O O1 k ku ks M U)(h:dE O1 O2):su O O2 k ku ks M U:=by
 refine⟨⟨?_,s.one.ge,s.one.nd,s.one.t.kL h⟩,s.T8,s.OU,?_⟩
 .obtain⟨a,rfl⟩:=s.one.kL;obtain⟨b,rfl⟩:=h;exact⟨a++b,by rw[Ys]⟩
 .obtain⟨b,rfl⟩:=h;rw[Zp (Zf.mp s.u).1];exact s.u
def EB {O O1 O2:aF}{ks:List Nat}(g:dE O O1)(o:FL O1 O2 ks)(h:∀x∈ks,O.length<=x):dE O O2:=by
 obtain⟨a,rfl⟩:=g;refine⟨O2.drop O.length,?_⟩;have e:O2.take O.length=O:=by
  refine X7 λi=>?_
  rw[List.getElem?_take];split
  .rename_i hi;rw[o.EY i (λz=>by have:=h i z;omega),Zp hi]
  .rename_i hi;rw[Ym (Y4 hi)]
 have:=(List.take_append_drop O.length O2).symm;rw[e] at this;exact this
def iU {n g i j:Nat}:en (List.replicate n (List.replicate g (0:Int))) i j=0:=by
 unfold en;by_cases hi:i<n
 .rw[show(List.replicate n (List.replicate g (0:Int))).getD i []=List.replicate g 0 by simp[List.getD,Xc,hi]];by_cases hj:j<g
  .simp[List.getD,Xc,hj]
  .simp[List.getD,Xc,hj]
 .rw[show(List.replicate n (List.replicate g (0:Int))).getD i []=[] by simp[List.getD,Xc,hi]];simp[List.getD]
def DN:∀O xs Pq QX,qA O xs Pq QX->C7 { nx:=λ_ O'=>Pq (.im .none) O',rt:=Pq } (bh Mt xs) O:=by
 intro O xs Pq QX h;obtain⟨B,ms,ps,n,g,rfl,ok,h⟩:=h;have ml:=ok.ml;have pl:=ok.pl;have n6:=ok.n6;have g6:=ok.g6;let Z:Γ1:=List.replicate n (List.replicate g (0:Int));have zl:Z.length=n:=Qj;have zr:∀i,i<n->Z.getD i []=List.replicate g 0:=λi hi=>by simp[Z,List.getD,Xc,hi]
 conv=>whnf
 have hl:((ps.map PyData.int).map AV.im).length=n:=by simp[pl]
 refine⟨by omega,λi zs O'=>zs=pX O.length i/\O'=O++(Z.take i).map cI,⟨rfl,by simp⟩,?_,?_⟩
 .rintro i x zs O' hx ⟨rfl,rfl⟩;have hi:i<n:=by have:=(Zf.mp hx).1;omega
  refine⟨λ_=>?_,λz=>(by cases z)⟩;conv=>whnf
  refine k9 (λ_ d=>d=.im (.int 0)) (by rw[Zb,Zb];omega) (λj x Z hx hZ=>hZ _ rfl) (λzs VA hz=>?_);rw[Zb,Zb,ml] at VA;have ez:zs=(List.replicate g (0:Int)).map λx=>AV.im (PyData.int x):=by
   refine X7 λj=>?_
   rw[List.map_replicate,Xc];by_cases hj:j<zs.length
   .rw[if_pos (by omega),Zc hj,hz j _ (Zc hj)]
   .rw[if_neg (by omega),Ym (Y4 hj)]
  subst ez;refine⟨?_,?_⟩
  .rw[Ae];simp[Nat.min_eq_left (Nat.le_of_lt hi),zl]
  .rw[List.take_add_one,Zc (show i<Z.length by omega),Zs,<- Ys]
   congr 1
   have:=zr i hi;rw[ao (Zc (show i<Z.length by omega))] at this;rw[this];rfl
 rintro zs O' ⟨rfl,rfl⟩;rw[hl,show Z.take n=Z by rw[<- zl,Yj],Ys];have eL:(O++Z.map cI).length=O.length+n:=by simp[zl]
 rw[eL];have pY:One O (O++(Z.map cI++[some (pX O.length n)])) (O.length+n) ((List.range n).map λt=>O.length+t) Z:=by
  refine⟨⟨_,rfl⟩,λx hx=>?_,?_,⟨?_,by simp[zl],λi hi=>?_⟩⟩
  .rcases Zk.mp hx with rfl |hx
   .omega
   .obtain⟨t,_,rfl⟩:=Zd.mp hx;omega
  .refine Yd.mpr ⟨λhx=>?_,?_⟩
   .obtain⟨t,ht,e⟩:=Zd.mp hx;have:=Zq.mp ht;omega
   .exact List.Pairwise.map _ (λa b Jh=>by omega) Qc
  .have:=ET cI O (some (pX O.length n)) Z;rw[zl] at this;rw[this,Eb]
  .rw[zl] at hi;have:((List.range n).map λt=>O.length+t).getD i 0=O.length+i:=by simp[List.getD,Yn hi]
   rw[this];exact IQ cI O _ Z i [] (by omega)
 generalize hk:O.length+n=k at pY ⊢;generalize hks:((List.range n).map λt=>O.length+t)=ks at pY;generalize hO1:O++(Z.map cI++[some (pX O.length n)])=O1 at pY ⊢;refine⟨?_⟩;have l1:k<O1.length:=(Zf.mp pY.t.hd).1;have EU:su O (O1++[cI ms]) k O1.length ks Z ms:=by
  refine⟨⟨pY.kL.app _,pY.ge,pY.nd,pY.t.app _⟩,?_,λz=>?_,by simp⟩
  .obtain⟨t,rfl⟩:=pY.kL;simp
  .rcases Zk.mp z with e |z
   .omega
   .rw[<- hks] at z;obtain⟨t,ht,e⟩:=Zd.mp z;have:=Zq.mp ht;omega
 have sp0:Jn B Z ms ms n g:=by
  refine⟨⟨zl,λi hi=>by rw[zr i hi];simp⟩,λi j=>by rw[iU];exact Yw _,λi j _ _ h0=>?_,ml,ok.m0,λj hj=>?_⟩
  .rw[iU] at h0;omega
  .have:lE Z n j=0:=eM λi _=>iU
   omega
 have Lr:∀i,eT Z g i=0:=λi=>eM λj _=>iU
 show Go _ _ [Φ9 (.tuple (B.map aT)),Φ9 (et ms),Φ9 (et ps),some (.own k),some (.own O1.length),none,none,none,none,none] (O1++[some ((ms.map PyData.int).map AV.im)]);rw[show(some ((ms.map PyData.int).map AV.im):Option (List AV))=cI ms by rw[Zm];rfl];generalize O1.length=ku at EU ⊢;generalize O1++[cI ms]=O2 at EU ⊢;have el:(cF (ps.map PyData.int)).length=n:=by unfold cF;simp[pl]
 refine⟨?_⟩;conv=>whnf
 refine⟨λi sl O'=>∃(M:Γ1) (U:Γ3) (y5 y6 y7 y8 y9:Option AV),sl=[Φ9 (.tuple (B.map aT)),Φ9 (et ms),Φ9 (et ps),some (.own k),some (.own ku),y5,y6,y7,y8,y9]/\su O O' k ku ks M U/\Jn B M U ms n g/\(∀j,j<i->j<n->eT M g j=ps.getD j 0)/\∀j,i<=j->j<n->eT M g j=0,⟨Z,ms,none,none,none,none,none,rfl,EU,sp0,λj hj=>absurd hj (by omega),λj _ _=>Lr j⟩,?_,?_⟩
 .rintro i x sl O' hx ⟨M,U,y5,y6,y7,y8,y9,rfl,st,sp,old,new⟩;obtain⟨hi,rfl⟩:=iT hx;rw[Zb,pl] at hi;rw[show(ps.map PyData.int).getD i .none=.int (ps.getD i 0) from jw (by omega)];refine⟨rfl,⟨?_⟩⟩;refine⟨⟨λm sl O'=>∃(M:Γ1) (U:Γ3) (left:Int) (y8 y9:Option AV),m=left.toNat/\0<=left/\sl=[Φ9 (.tuple (B.map aT)),Φ9 (et ms),Φ9 (et ps),some (.own k),some (.own ku),Φ9 (.int (i:Int)),Φ9 (.int (ps.getD i 0)),Φ9 (.int left),y8,y9]/\su O O' k ku ks M U/\Jn B M U ms n g/\XV M ps g n i left,⟨_,M,U,ps.getD i 0,y8,y9,rfl,ok.p0 i hi,rfl,st,sp,⟨λj hj hn=>old j hj hn,λ_=>by rw[new i (Ze _) hi];omega,λj hj hn=>new j (by omega) hn⟩⟩,?_⟩⟩;rintro m sl O3 ⟨M,U,left,y8,y9,rfl,l0,rfl,st,sp,so⟩;refine⟨λhc=>?_,λhc=>?_⟩
  .have hc:0<left:=of_decide_eq_true hc;have wy:So B M U ms ps n g i:=by
    refine⟨sp,ok.oA,hi,ok.bl,n6,g6,ok.hB,ok.b6,ok.nd,λj hj=>?_,by have:=so.now hi;omega⟩;rcases Nat.lt_trichotomy j i with z |z |z
    .rw[so.old j z hj];exact Yw _
    .subst z;have:=so.now hi;omega
    .rw[so.new j z hj];exact ok.p0 j hj
   refine⟨B,M,U,ms,ps,n,g,i,k,ku,ks,rfl,st.one.t,st.u,wy,λw O4 Pn hu4 gr4=>?_⟩;have lJ:=st.kL gr4;have w0:=Pn.ne;have PU:aW w<g:=(Pn.uX (w.length-1) (by omega)).2.1;have Uq:0<U.getD (aW w) 0:=by have:=sp.u0 _ PU;omega
   refine⟨⟨B,M,U,n,g,i,k,ku,ks,w,left,rfl,lJ.one.t,lJ.u,sp.rM,sp.ul,g6,Pn,hc,Uq,λc c0 cl cu cw=>?_⟩⟩;refine⟨⟨B,M,n,g,i,k,ks,w,c,rfl,lJ.one.t,lJ.one.nd,sp.rM,Pn,λO5 t5 EY=>?_⟩⟩;have kE:su O O5 k ku ks (cb M w c w.length) U:=⟨⟨EB lJ.one.kL EY λx hx=>lJ.one.ge x (Zh _ hx),lJ.one.ge,lJ.one.nd,t5⟩,lJ.T8,lJ.OU,by rw[EY.EY ku (λz=>lJ.OU (Zh _ z))];exact lJ.u⟩;obtain⟨sp6,so6⟩:=G8 sp so Pn (by omega) cw cu;have ul:=sp.ul;have OV:gv (U.map λx=>AV.im (PyData.int x)) ((aW w:Nat):Int)=some (AV.im (.int (U.getD (aW w) 0))):=bR (mh (by omega));refine⟨⟨_,j4 w0,_,rfl,_,_,_,kE.u,OV,xr (by rw[Zb];show aW w<_;omega),_,kE.u,rfl,?_⟩⟩;rw[qk];have st6:su O (O5.set ku (cI (U.set (aW w) (U.getD (aW w) 0-c)))) k ku ks (cb M w c w.length) (U.set (aW w) (U.getD (aW w) 0-c)):=⟨⟨kE.one.kL.set kE.T8 _,kE.one.ge,kE.one.nd,kE.one.t.other _ kE.OU⟩,kE.T8,kE.OU,by rw[Yl (Zf.mp kE.u).1]⟩;exact⟨⟨_,rfl,(left-c).toNat,by omega,_,_,left-c,Φ9 (jf w),Φ9 (.int c),rfl,by omega,rfl,st6,sp6,so6⟩⟩
  .have hc:¬ 0<left:=of_decide_eq_false hc;have e0:left=0:=by omega
   subst e0;refine⟨M,U,_,_,_,_,_,rfl,st,sp,λj hj hn=>?_,λj hj hn=>so.new j (by omega) hn⟩;rcases Z5 j i with z |z
   .exact so.old j z hn
   .have:j=i:=by omega
    subst this;have:=so.now hi;omega
 .rintro sl O' ⟨M,U,y5,y6,y7,y8,y9,rfl,st,sp,old,new⟩;rw[el] at old;refine⟨st.one.hX rfl λO2 gr=>?_⟩;exact h M O2 (zN sp (λj hj=>old j hj hj) ok.Kn) gr
structure np (A:Γ3)(Pu:Δ1)(W:Γ1)(qs:Δ1)(kb:Nat)(c:Int)(ms ps:Γ3)(M:Γ1):Prop where
 c0:0<c
 im:cG c ms (gn A qs)
 ip:cG c ps Pu
 mb:∀m∈ms,Bd (13*kb+79) m
 pb:∀m∈ps,Bd (13*kb+79) m
 sp:xH (aw W qs) M ms ps Pu.length A.length
structure SJ (A:Γ3)(Pu:Δ1)(W:Γ1)(qs:Δ1)(kb:Nat):Prop where
 pr:nj A Pu W qs
 k2:20<=kb
 k3:kb<=293
 bd:∀z∈qs,Rb kb z
 ok:∀(c:Int) (ms ps:Γ3),0<c->cG c ms (gn A qs)->cG c ps Pu->L5 (aw W qs) ms ps Pu.length A.length
def GN:FM:=λO xs P _=>∃(A:Γ3) (Pu:Δ1) (W:Γ1) (qs:Δ1) (kb:Nat),xs=[.im (g9 A Pu W),.im (.tuple (qs.map qD))]/\SJ A Pu W qs kb/\∀(c:Int) (ms ps:Γ3) (M:Γ1) (O':aF),np A Pu W qs kb c ms ps M->dE O O'->P (.im (BI (di A ms M))) O'
abbrev SH:Δ2:=["market","prices","money","purses"]
def RP:MS:=(bv (bE (aE vc cH (af (ah 0) (af (ah 1) ar))) (ln 2 (aG (bi 2) (aG (bi 3) cc))))
 (cU (aE GL cH (af (ah 0) (af (ah 2) (af (aE qA cH (af (aE vB cH (af (ah 0) (af (ah 1) ar))) (af (ah 2) (af (ah 3) ar)))) ar))))))
def Cq {B M:Γ1}{ms ps:Γ3}{n g:Nat}(s:xH B M ms ps n g){i j:Nat}(hi:i<n)(hj:j<g):en M i j<=ms.getD j 0/\en M i j<=ps.getD i 0:=by
 constructor
 .rw[<- s.col j hj];exact kY (f:=λi=>en M i j) (λi _=>s.nn i j) hi
 .rw[<- s.row i hi];exact kY (f:=λj=>en M i j) (λj _=>s.nn i j) hj
def M5:∀O xs Pq QX,GN O xs Pq QX->RP { nx:=λ_ O'=>Pq (.im .none) O',rt:=Pq } (bh SH xs) O:=by
 intro O xs Pq QX h;obtain⟨A,Pu,W,qs,kb,rfl,ok,h⟩:=h;have mf:=A8 ok.pr.ok;have hl:=ok.pr.len;refine⟨A,Pu,W,qs,kb,rfl,hl,mf.g6,mf.n6,mf.am,λz hz=>(mf.pu z hz).2,ok.k3,ok.k2,ok.bd,λc ms ps hc im ip mb pb=>?_⟩;refine⟨rfl,?_⟩;have so:=ok.ok c ms ps hc im ip;have k3:=ok.k3;refine⟨⟨A,Pu,W,qs,rfl,ok.pr,aw W qs,ms,ps,_,_,rfl,so,λM O' sp gr=>?_⟩⟩;have ml:=sp.rM.len;refine⟨A,Pu,W,ms,M,rfl,mf.g6,by rw[ml];exact mf.n6,so.ml,λi hi=>sp.rM.row i (by omega),λi j hi hj h0=>?_,h c ms ps M O' ⟨hc,im,ip,mb,pb,sp⟩ gr⟩;rw[ml] at hi;have h1:=(Cq sp hi hj).1;have h2:=mb _ (i9 (d:=0) (show j<ms.length by rw[so.ml];exact hj));have h3:=mf.am _ (i9 (d:=0) hj);refine⟨⟨by omega,h2.mono (by omega)⟩,(h2.mono (show _<=8000 by omega)).le (by omega),?_⟩;exact zw (by omega)
abbrev zh:=Γ3×Rat×Δ1
inductive eZ (A:Γ3) (Pu:Δ1) (W:Γ1):Δ1->List zh->Prop
 |stop {qs:Δ1}:gY A Pu W qs->EZ A Pu qs W A.length->(∀Pd,gZ A Pu qs W A.length Pd->bC A.length W Pd=[])->eZ A Pu W qs []
 |step {qs:Δ1}{Pd:Γ3}{f:Rat}{L:List zh}:gY A Pu W qs->EZ A Pu qs W A.length->gZ A Pu qs W A.length Pd->bC A.length W Pd≠[]->jr (gW A Pu qs W A.length Pd) f->eZ A Pu W (E2 qs Pd f) L->eZ A Pu W qs ((Pd,f,E2 qs Pd f)::L)
def jU (s:zh):PyData:=.tuple [aT s.1,qD s.2.1,.tuple (s.2.2.map qD)]
def headD (L:List zh):PyData:=match L with
 |[]=>.none
 |s::_=>jU s
def iq (qs:Δ1)(L:List zh):Δ1:=match L.getLast? with
 |some s=>s.2.2
 |none=>qs
def o9 {A:Γ3}{Pu:Δ1}{W:Γ1}{qs:Δ1}{L:List zh}{O:aF}{P:AV->aF->Prop}{X:Addr->aF->Prop}(s:eZ A Pu W qs L)(h:P (.im (headD L)) O):oR O [.im (g9 A Pu W),.im (.tuple (qs.map qD))] P X:=by
 cases s with
 |stop rp oq no=>exact⟨A,Pu,W,qs,rfl,rp,oq,λ_ _ _=>h,λPd f pd hr _=>absurd (no Pd pd) hr⟩
 |step rp oq pd hr hm _=>exact⟨A,Pu,W,qs,rfl,rp,oq,λPd' Pm jy=>absurd (Pm.uniq pd▸jy) hr,λPd' f' Pm _ Uu=>by
   have e1:=Pm.uniq pd;subst e1;have e2:=Uu.uniq hm;subst e2;exact h⟩
def l4:FM:=λO xs P _=>∃(A:Γ3) (Pu:Δ1) (W:Γ1) (qs:Δ1) (L:List zh),xs=[.im (g9 A Pu W),.im (.tuple (qs.map qD))]/\eZ A Pu W qs L/\L.length<=1000000/\∀O',dE O O'->P (.im (.list (L.map jU))) O'
abbrev SD:Δ2:=["market","prices","told","step"]
def yw:MS:=(bv (bE (RJ ar) (bi 2))
 (bv (bE (aE oR cH (af (ah 0) (af (ah 1) ar))) (bi 3))
 (bv (qz (ia (bL (qZ true) (ah 3) (mC .none))) (bv (xl (LF (ah 2) (af (ah 3) ar)))
 (bE (aE oR cH (af (ah 0) (af (bL cZ (ah 3) (mC (.int 2))) ar))) (bi 3))))
 (LD 2 (cU (ah 2))))))
def zV:∀O xs Pq QX,l4 O xs Pq QX->yw { nx:=λ_ O'=>Pq (.im .none) O',rt:=Pq } (bh SD xs) O:=by
 intro O xs Pq QX h;obtain⟨A,Pu,W,qs,L,rfl,st,hL,h⟩:=h;refine⟨LJ,?_⟩;refine⟨o9 (X:=cH) (P:=λx O1=>Go _ _ [Φ9 (g9 A Pu W),Φ9 (.tuple (qs.map qD)),some (.own O.length),some x] O1) st ?_⟩;let Iv:Nat->fK->aF->Prop:=λm sl O'=>∃(L1 L2:List zh) (q2:Δ1),L=L1++L2/\m=L2.length/\sl=[Φ9 (g9 A Pu W),Φ9 (.tuple (qs.map qD)),some (.own O.length),Φ9 (headD L2)]/\O'=O++[some ((L1.map jU).map AV.im)]/\eZ A Pu W q2 L2
 refine⟨⟨Iv,⟨L.length,[],L,qs,rfl,rfl,rfl,rfl,st⟩,?_⟩⟩;rintro m sl O' ⟨L1,L2,q2,eL,rfl,rfl,rfl,eO⟩;cases eO with
 |stop rp oq no =>
  refine⟨λz=>absurd z (by decide),λ_=>⟨⟨O.length,L1.map jU,rfl,ni _ _,?_⟩⟩⟩;rw[Yg] at eL;subst eL;rw[lP];exact h _ ⟨_,rfl⟩
 |step rp oq pd hr hm OZ =>
  rename_i Pd f L3;refine⟨λ_=>?_,λz=>(by cases z)⟩;have cy:L1.length+(L3.length+1)<=1000000:=by rw[eL] at hL;simpa using hL
  refine⟨⟨_,ni _ _⟩,_,ni _ _,by rw[Zb,Zb,sz];omega,?_⟩;rw[lP];refine⟨⟨_,rfl,o9 (X:=cH) (P:=λx O1=>∃m',m'<((Pd,f,E2 q2 Pd f)::L3).length/\Iv m' [Φ9 (g9 A Pu W),Φ9 (.tuple (qs.map qD)),some (.own O.length),some x] O1) OZ ⟨L3.length,by simp,L1++[(Pd,f,E2 q2 Pd f)],L3,_,by rw[eL];simp,rfl,rfl,?_,OZ⟩⟩⟩;rw[Zs,Zs];rfl
def GH:FM:=λO xs P _=>∃(qs:Δ1) (L:List zh),xs=[.im (.tuple (qs.map qD)),.im (.list (L.map jU))]/\P (.im (.tuple ((iq qs L).map qD))) O
abbrev SG:Δ2:=["prices","told"]
def RI:MS:=(cU (Py (BJ (ah 1)) (bL cZ (bL cZ (ah 1) (zp (mC (.int 1)))) (mC (.int 2))) (ah 0)))
def M0:∀O xs Pq QX,GH O xs Pq QX->RI { nx:=λ_ O'=>Pq (.im .none) O',rt:=Pq } (bh SG xs) O:=by
 intro O xs Pq QX h;obtain⟨qs,L,rfl,h⟩:=h;refine⟨rfl,?_⟩;show((!(L.map jU).isEmpty)=true->_)/\((!(L.map jU).isEmpty)=false->_);rw[Q4];refine⟨λe=>?_,λe=>?_⟩
 .have bo:L≠[]:=λz=>by subst z;cases e
  obtain⟨s,hs⟩:∃s,L.getLast?=some s:=by
   cases hg:L.getLast? with
   |none=>exact absurd (List.getLast?_eq_none_iff.mp hg) bo
   |some s=>exact⟨s,rfl⟩
  have hp:0<L.length:=Xd.mpr bo;have hL:L.getD (L.length-1) ([],0,[])=s:=by
   rw[List.getLast?_eq_getElem?] at hs;exact ao hs
  have ha:gv (L.map jU) (-1)=some (jU s):=by
   rw[Dx (d:=.none) (by rw[Zb];exact hp),Zb,jw (a:=([],0,[])) (by omega),hL]
  refine⟨_,ha,_,rfl,?_⟩;unfold iq at h;rw[hs] at h;exact h
 .have bo:L=[]:=by cases L with |nil=>rfl |cons _ _=>cases e
  subst bo;exact h
def Kd:FM:=λO xs P _=>∃(A:Γ3) (Pu:Δ1) (W:Γ1),xs=[.im (g9 A Pu W)]/\gA (g9 A Pu W)=true/\(∀r∈W,bB A.length r)/\∀qs,iw A Pu W A.length qs->P (.im (.tuple (qs.map qD))) O
def TC {K:Θ1}:rG K Ll Kd:=λw O H vs xs P PX Q E r a hf q x=>by
 obtain⟨A,Pu,W,rfl,ok,good,hf⟩:=hf;obtain⟨v,us,rfl,a1,a2⟩:=a.aP;rw[a2.bX];obtain⟨p,pa,pp,pw,xa,xp,xw,rfl,mk,la,lp⟩:=LA 0 a1 ok;refine⟨0,p,pa,pp,pw,xa,xp,xw,_,_,_,rfl,mk,by rw[Kv,la];exact good,λt ys qs H' s ht fr hF=>?_⟩;rw[nE,gh,Kv,la] at hF;obtain⟨r1,e1,_⟩:=r.ap s;exact q _ _ O w H' (hf qs hF) e1 r1 (U7 r1 (.tup ht (Dp (b:=0) fr)) (qq qs))
def xB:FM:=λO xs P _=>∃(A:Γ3) (Pu:Δ1) (W:Γ1),xs=[.im (g9 A Pu W)]/\gA (g9 A Pu W)=true/\(∀r∈W,bB A.length r)/\∀qs,iw A Pu W A.length qs->∃L,eZ A Pu W qs L/\L.length<=1000000/\∀O',dE O O'->P (.im (.tuple ((iq qs L).map qD))) O'
abbrev SF:Δ2:=["market","first"]
def JV:MS:=(bv (bE (aE Kd cH (af (ah 0) ar)) (bi 1))
 (cU (aE GH cH (af (ah 1) (af (aE l4 cH (af (ah 0) (af (ah 1) ar))) ar)))))
def Hf:∀O xs Pq QX,xB O xs Pq QX->JV { nx:=λ_ O'=>Pq (.im .none) O',rt:=Pq } (bh SF xs) O:=by
 intro O xs Pq QX h;obtain⟨A,Pu,W,rfl,ok,good,h⟩:=h;refine⟨A,Pu,W,rfl,ok,good,λqs hF=>?_⟩;obtain⟨L,st,hL,h⟩:=h qs hF;exact⟨⟨A,Pu,W,qs,L,rfl,st,hL,λO' gr=>⟨qs,L,rfl,h O' gr⟩⟩⟩
structure MB (A:Γ3)(Pu:Δ1)(W:Γ1)(kb:Nat):Prop where
 ism:gA (g9 A Pu W)=true
 good:∀r∈W,bB A.length r
 go:∀qs,iw A Pu W A.length qs->∃L,eZ A Pu W qs L/\L.length<=1000000/\SJ A Pu W (iq qs L) kb
def kS:FM:=λO xs P _=>∃(A:Γ3) (Pu:Δ1) (W:Γ1) (kb:Nat),xs=[.im (g9 A Pu W)]/\MB A Pu W kb/\∀(fs:Δ1) (L:List zh) (c:Int) (ms ps:Γ3) (M:Γ1) (O':aF),iw A Pu W A.length fs->eZ A Pu W fs L->np A Pu W (iq fs L) kb c ms ps M->dE O O'->P (.im (.tuple [.tuple ((iq fs L).map qD),BI (di A ms M)])) O'
abbrev SI:Δ2:=Ψ8
def Df:MS:=(bv (bE (aE xB cH (af (ah 0) ar)) (bi 1))
 (cU (ij (af (ah 1) (af (aE GN cH (af (ah 0) (af (ah 1) ar))) ar)))))
def DS:∀O xs Pq QX,kS O xs Pq QX->Df { nx:=λ_ O'=>Pq (.im .none) O',rt:=Pq } (bh SI xs) O:=by
 intro O xs Pq QX h;obtain⟨A,Pu,W,kb,rfl,ok,h⟩:=h;refine⟨A,Pu,W,rfl,ok.ism,ok.good,λfs hF=>?_⟩;obtain⟨L,st,hL,da⟩:=ok.go fs hF;refine⟨L,st,hL,λO1 g1=>?_⟩;exact⟨⟨A,Pu,W,iq fs L,kb,rfl,da,λc ms ps M O2 dl g2=>⟨jS,h fs L c ms ps M O2 hF st dl (wB g1 g2)⟩⟩⟩
def lZ:FM:=λO xs P _=>∃(A:Γ3) (Pu:Δ1) (W:Γ1) (kb:Nat),xs=[.im (g9 A Pu W)]/\MB A Pu W kb/\∀(fs:Δ1) (L:List zh) (c:Int) (ms ps:Γ3) (M:Γ1) (O':aF),iw A Pu W A.length fs->eZ A Pu W fs L->np A Pu W (iq fs L) kb c ms ps M->dE O O'->(∀i,i<W.length->zz (W.getD i []) ((di A ms M).getD i []))/\P (.im (.tuple ((jX W (di A ms M)).map qD))) O'
abbrev Sy:Δ2:=["market"]
def yr:MS:=(cU (aE GC cH (af (ah 0) (af (bL cZ (aE kS cH (af (ah 0) ar)) (mC (.int 1))) ar))))
def zU:∀O xs Pq QX,lZ O xs Pq QX->yr { nx:=λ_ O'=>Pq (.im .none) O',rt:=Pq } (bh Sy xs) O:=by
 intro O xs Pq QX h;obtain⟨A,Pu,W,kb,rfl,ok,h⟩:=h;have mf:=A8 ok.ism;refine⟨A,Pu,W,kb,rfl,ok,λfs L c ms ps M O' hF st dl gr=>?_⟩;obtain⟨h1,h2⟩:=h fs L c ms ps M O' hF st dl gr;have ml:=dl.sp.rM.len;refine⟨_,rfl,A,Pu,W,di A ms M,rfl,?_,by rw[mf.wl];exact mf.n6,h1,h2⟩;unfold di;rw[Zb,Y3,ml,mf.wl]
end MI
namespace BA
open PySem L2 KG EX KM MI
section
variable {P:Program}{w:World}{K:Θ1}{mg:Θ3}{base:Heap}
def FY:ak Sz ["parts"] (bz (top 15)):=L2.dm
def HG {f fPl  : Addr}{fd dPl:FuncData}(F:cT K "total" "total" (top 15) f fd)(N:Nm mg)(Pl:bU K mg P w base "plus" 3 ["one","other"] (jQ (A1 Ph)) fPl dPl):aK P w K mg base ci 4 f fd ["parts"] (cL K xy) :=
 jP F FY (λO xs P PX h=>by obtain⟨_,rfl,_⟩:=h;rfl) (λbH A outer s H E QX hr=>⟨JR,(df (jM (i:=1) FY.nd (uE (aA cM (aA cM aX))))
 (df (gH PassesOwn.never rfl (n9 (mv 0)) (dZ (i:=2) FY.nd) (eQ (jM (i:=1) FY.nd (Bk Pl u6 hr (aA (mv 1) (aA (mv 2) aX))))))
 (eQ (jv (mv 1))))),λO xs Pq h=>Hb O xs Pq QX h⟩)
def YU:ak Mr ["wishes","got"] (bz (top 20)):=L2.dm
def Np {f fTo QE  : Addr}{fd dTo QI:FuncData}(F:cT K "worth_of" "worth_of" (top 20) f fd)(N:Nm mg)(mz:mg "zip"=none)(To:bU K mg P w base "total" 4 ["parts"] (cL K xy) fTo dTo)(Ti:bU K mg P w base "times" 3 ["one","other"] (jQ (A1 on)) QE QI):aK P w K mg base ci 5 f fd ["wishes","got"] (cL K GD) :=
 jP F YU (λO xs P PX h=>by obtain⟨_,_,rfl,_⟩:=h;rfl) (λbH A outer s H E QX hr=>⟨RD,(eQ (jv (d7 To i8 hr (aA (lK (own:=["wish","part"]) (cap:=[]) (ix:=[]) (aJ.of (bz (top 20)).names Mr) rfl (qy rfl mz boot_zip (aA (mv 0) (aA (mv 1) aX))) (Jb (wS (by decide) (wS (by decide) Ku)))
 (λC fp s H=>⟨(uK rfl (jx (dZ (i:=0) (Ψ9 ["wish","part"])) (jx (dZ (i:=1) (Ψ9 ["wish","part"])) uN))),kF,(Bk Ti u6 hr (aA (uE (aA (mv 0) (aA cM aX))) (aA (mv 1) aX)))⟩)) aX)))),λO xs Pq h=>MV O xs Pq QX h⟩)
def YT:ak Mq ["market","dealing"] (bz (top 21)):=L2.dm
def No {f fWo  : Addr}{fd dWo:FuncData}(F:cT K "worths_of" "worths_of" (top 21) f fd)(N:Nm mg)(mz:mg "zip"=none)(Wo:bU K mg P w base "worth_of" 5 ["wishes","got"] (cL K GD) fWo dWo):aK P w K mg base ci 6 f fd ["market","dealing"] (cL K GC) :=
 jP F YT (λO xs P PX h=>by obtain⟨_,_,_,_,rfl,_⟩:=h;rfl) (λbH A outer s H E QX hr=>⟨RC,(eQ (jv (pQ d6 wP (by rfl) N.tuple pS (aA (lK (own:=["row","got"]) (cap:=[]) (ix:=[]) (aJ.of (bz (top 21)).names Mq) rfl (qy rfl mz boot_zip (aA (db (mv 0) cM) (aA (mv 1) aX))) (Jb (wS (by decide) (wS (by decide) Ku)))
 (λC fp s H=>⟨(uK rfl (jx (dZ (i:=0) (Ψ9 ["row","got"])) (jx (dZ (i:=1) (Ψ9 ["row","got"])) uN))),kF,(d7 Wo i8 hr (aA (mv 0) (aA (mv 1) aX)))⟩)) aX)))),λO xs Pq h=>MU O xs Pq QX h⟩)
def YV:ak SE ["coins","money","amount"] (bz (top 54)):=L2.dm
def Nu {f Wu Nn:Addr}{fd WH:FuncData}(F:cT K "pieces_for" "pieces_for" (top 54) f fd)(N:Nm mg)(Fr:bU K mg P w base "fraction" 2 ["top","bottom"] (jQ (r9 Nn)) Wu WH):aK P w K mg base ci 3 f fd ["coins","money","amount"] (cL K GG) :=
 jP F YV (λO xs P PX h=>by obtain⟨_,_,_,rfl,_⟩:=h;rfl) (λbH A outer s H E QX hr=>⟨RH,(eQ (jv (xk (fc jm oQ (mv 0) cM (aQ _)) (Bk Fr J4 hr (aA (m7 (mv 0) (mv 2)) (aA (mv 1) aX))) (uE (aA cM (aA cM aX)))))),λO xs Pq h=>MZ O xs Pq QX h⟩)
def YY:ak Mx ["market","money","spent"] (bz (top 53)):=L2.dm
def Nx {f Wq  : Addr}{fd WF:FuncData}(F:cT K "dealing_by" "dealing_by" (top 53) f fd)(N:Nm mg)(Pf:bU K mg P w base "pieces_for" 3 ["coins","money","amount"] (cL K GG) Wq WF):aK P w K mg base ci 4 f fd ["market","money","spent"] (cL K GL) :=
 jP F YY (λO xs P PX h=>by obtain⟨_,_,_,_,_,rfl,_⟩:=h;rfl) (λbH A outer s H E QX hr=>⟨RO,(eQ (jv (pQ d6 wP (by rfl) N.tuple pS (aA (lK (own:=["row"]) (cap:=["market","money"]) (ix:=[0,1]) (aJ.of (bz (top 53)).names Mx) rfl (n9 (mv 2)) (lL (by decide))
 (λC fp s H=>⟨(fq (jk (i:=0) (Ψ9 ["row","market","money"]) rfl (Or.inr rfl))),kF,(pQ d6 wP (by rfl) N.tuple pS (aA (lK (own:=["good","amount"]) (cap:=["money","row"]) (ix:=[2,0]) (aJ.of [(".0",.local),("row",.cell),("tuple",.globalImplicit),("enumerate",.globalImplicit),("market",.cell),("money",.cell)] ["row","market","money"]) rfl (qX rfl N.enumerate Fv (aA (db (mv 1) cM) aX)) (Jb (wS (by decide) (wS (by decide) Ku)))
 (λC fp s H=>⟨(uK rfl (jx (dZ (i:=0) (Ψ9 ["good","amount","money","row"])) (jx (dZ (i:=1) (Ψ9 ["good","amount","money","row"])) uN))),kF,(d7 Pf i8 hr (aA (db (mv 3) (mv 0)) (aA (db (mv 2) (mv 0)) (aA (mv 1) aX))))⟩)) aX))⟩)) aX)))),λO xs Pq h=>M4 O xs Pq QX h⟩)
def se:ak GQ ["best","spent","unsold","buyer"] (bz (top 56)):=L2.dm
def Nq {f   : Addr}{fd  : FuncData}(F:cT K "way_to_unsold" "way_to_unsold" (top 56) f fd)(N:Nm mg)  : aK P w K mg base ci 1 f fd ["best","spent","unsold","buyer"] (cL K GF) :=
 jP F se (λO xs P PX h=>by obtain⟨_,_,_,_,_,_,_,_,_,_,_,rfl,_⟩:=h;rfl) (λbH A outer s H E QX hr=>⟨RF,(df (tH (i:=4) se.nd rfl rfl (own:=["good"]) (cap:=["buyer"]) (ix:=[3]) (aJ.of (bz (top 56)).names GQ) rfl (n9 (db (mv 0) (mv 3))) (lL (by decide))
 (λC fp s H=>⟨(dZ (i:=0) (Ψ9 ["good","buyer"])),kF,(kQ (aA (uE (aA (mv 1) (aA (mv 0) aX))) aX))⟩))
 (df (Ep (i:=5) se.nd rfl rfl (own:=["good"]) (cap:=[]) (ix:=[]) (aJ.of (bz (top 56)).names GQ) rfl (n9 (db (mv 0) (mv 3))) (lL (by decide))
 (λC fp s H=>⟨(dZ (i:=0) (Ψ9 ["good"])),kF,(mv 0),sD⟩))
 (df (jM (i:=6) se.nd cM)
 (df (nA PassesOwn.never (fc (Ca hr.units) Cd (db (mv 2) (db (db (db (mv 4) (mv 6)) (m8 cM)) cM)) cM (aQ _)) (df (jM (i:=7) se.nd (db (db (db (mv 4) (mv 6)) (m8 cM)) cM))
 (df (gH PassesOwn.never rfl (Fu rfl N.range (aA (Bm mR vp (by rfl) N.len Xk (aA (mv 1) aX)) aX)) (dZ (i:=8) se.nd) (eQ (mM (fc jm oQ (db (db (mv 1) (mv 8)) (mv 7)) cM (aQ _)) (eQ (gH PassesOwn.never rfl (n9 (db (mv 0) (mv 8))) (dZ (i:=9) se.nd) (eQ (mM (Am (xu hr) (mv 9) (mv 5)) (df (Ih (xu hr) (mv 5) (mv 9) sD)
 (eQ (qT (C5 (mv 4) (aA (d8 (db (mv 4) (mv 6)) (kQ (aA (uE (aA (mv 8) (aA (mv 9) aX))) aX))) aX))))) jD)))) jD)))
 (eQ (yo (i:=6) se.nd rfl (Or.inl rfl) Dm nc cM)))))
 (eQ (jv (db (mv 4) (mv 6)))))))),λO xs Pq h=>MX O xs Pq QX h⟩)
def Rr:ak Mw ["way","spent","unsold","left"] (bz (top 57)):=L2.dm
def HS {f   : Addr}{fd  : FuncData}(F:cT K "most_along" "most_along" (top 57) f fd)(N:Nm mg)  : aK P w K mg base ci 1 f fd ["way","spent","unsold","left"] (cL K xD) :=
 jP F Rr (λO xs P PX h=>by obtain⟨_,_,_,_,_,_,_,_,_,_,_,rfl,_⟩:=h;rfl) (λbH A outer s H E QX hr=>⟨JX,(df (yn (i:=4) Rr.nd rfl rfl (own:=["at","payer","good"]) (cap:=["spent","way"]) (ix:=[1,0]) (aJ.of (bz (top 57)).names Mw) rfl (nC rfl N.enumerate Fv (aA (nD (mv 0) (qV cM) qW) aX)) (Jb (wk (by decide) (by decide) (by decide)))
 (λC fp s H=>⟨(uK rfl (jx (dZ (i:=0) (Ψ9 ["at","payer","good","spent","way"])) (jx (uK rfl (jx (dZ (i:=1) (Ψ9 ["at","payer","good","spent","way"])) (jx (dZ (i:=2) (Ψ9 ["at","payer","good","spent","way"])) uN))) uN))),kF,(db (db (mv 3) (mv 1)) (db (db (mv 4) (mv 0)) cM))⟩))
 (eQ (jv (Bm (TW rfl) NM (by rfl) N.min boot_min (aA (d8 (mv 4) (kQ (aA (db (mv 2) (db (db (mv 0) (m8 cM)) cM)) (aA (mv 3) aX)))) aX))))),λO xs Pq h=>Hh O xs Pq QX h⟩)
def FZ:ak SA ["way","spent","coins"] (bz (top 58)):=L2.dm
def HI {f   : Addr}{fd  : FuncData}(F:cT K "send_along" "send_along" (top 58) f fd)(N:Nm mg)  : aK P w K mg base ci 1 f fd ["way","spent","coins"] (cL K xz) :=
 jP F FZ (λO xs P PX h=>by obtain⟨_,_,_,_,_,_,_,_,_,rfl,_⟩:=h;rfl) (λbH A outer s H E QX hr=>⟨JS,(eQ (gH PassesOwn.never rfl (nC rfl N.enumerate Fv (aA (mv 0) aX)) (uK rfl (jx (dZ (i:=3) FZ.nd) (jx (uK rfl (jx (dZ (i:=4) FZ.nd) (jx (dZ (i:=5) FZ.nd) uN))) uN))) (df (qU (db (mv 1) (mv 4)) (mv 5) Dm nc (mv 2))
 (eQ (mM (fc jm oQ (mv 3) cM (aQ _)) (eQ (qU (db (mv 1) (mv 4)) (db (db (mv 0) (NF (mv 3) cM)) cM) vt nc (mv 2))) jD))))),λO xs Pq h=>Hc O xs Pq QX h⟩)
def pW:ak Mt ["best","money","purses"] (bz (top 55)):=L2.dm
def Eh {f fWy fMo fSe  : Addr}{fd dWy dMo dSe:FuncData}(F:cT K "spend" "spend" (top 55) f fd)(N:Nm mg)(Wy:bU K mg P w base "way_to_unsold" 1 ["best","spent","unsold","buyer"] (cL K GF) fWy dWy)(Mo:bU K mg P w base "most_along" 1 ["way","spent","unsold","left"] (cL K xD) fMo dMo)(Se:bU K mg P w base "send_along" 1 ["way","spent","coins"] (cL K xz) fSe dSe):aK P w K mg base ci 2 f fd ["best","money","purses"] (cL K qA) :=
 jP F pW (λO xs P PX h=>by obtain⟨_,_,_,_,_,rfl,_⟩:=h;rfl) (λbH A outer s H E QX hr=>⟨C7,(df (tH (i:=3) pW.nd rfl rfl (own:=["purse"]) (cap:=["money"]) (ix:=[1]) (aJ.of (bz (top 55)).names Mt) rfl (n9 (mv 2)) (lL (by decide))
 (λC fp s H=>⟨(dZ (i:=0) (Ψ9 ["purse","money"])),kF,(tK (own:=["coins"]) (cap:=[]) (ix:=[]) (aJ.of [(".0",.local),("purse",.local),("money",.cell)] ["purse","money"]) rfl (n9 (mv 1)) (lL (by decide))
 (λC fp s H=>⟨(dZ (i:=0) (Ψ9 ["coins"])),kF,cM⟩))⟩))
 (df (jM (i:=4) pW.nd (pQ Cs Is (by rfl) N.list boot_list (aA (mv 1) aX)))
 (df (gH PassesOwn.never rfl (nC rfl N.enumerate Fv (aA (mv 2) aX)) (uK rfl (jx (dZ (i:=5) pW.nd) (jx (dZ (i:=6) pW.nd) uN))) (df (jM (i:=7) pW.nd (mv 6))
 (eQ (nA PassesOwn.never (fc jm oQ (mv 7) cM (aQ _)) (df (jM (i:=8) pW.nd (d7 Wy i8 hr (aA (mv 0) (aA (mv 3) (aA (mv 4) (aA (mv 5) aX))))))
 (df (jM (i:=9) pW.nd (d7 Mo i8 hr (aA (mv 8) (aA (mv 3) (aA (mv 4) (aA (mv 7) aX))))))
 (df (qT (d7 Se i8 hr (aA (mv 8) (aA (mv 3) (aA (mv 9) aX)))))
 (df (qU (mv 4) (db (db (mv 8) (m8 cM)) cM) vt nc (mv 9))
 (eQ (yo (i:=7) pW.nd rfl (Or.inl rfl) vt nc (mv 9)))))))))))
 (Ig 3 (eQ (jv (mv 3))))))),λO xs Pq h=>DN O xs Pq QX h⟩)
def Lp:ak SH Ψ8 (bz (top 52)):=L2.dm
def Ny {f Wr QF fSp fDb Pr:Addr}{fd WG QJ dSp dDb:FuncData}(F:cT K "dealing_at" "dealing_at" (top 52) f fd)(N:Nm mg)(Ic:bU K mg P w base "in_coins" 5 Ψ8 (cL K vc) Wr WG)(Bg:bU K mg P w base "best_goods" 6 Ψ8 (jQ (mW Pr)) QF QJ)(Sp:bU K mg P w base "spend" 2 ["best","money","purses"] (cL K qA) fSp dSp)(Db:bU K mg P w base "dealing_by" 4 ["market","money","spent"] (cL K GL) fDb dDb):aK P w K mg base ci 7 f fd Ψ8 (cL K GN) :=
 jP F Lp (λO xs P PX h=>by obtain⟨_,_,_,_,_,rfl,_⟩:=h;rfl) (λbH A outer s H E QX hr=>⟨RP,(df (qv (d7 Ic i8 hr (aA (mv 0) (aA (mv 1) aX))) (uK rfl (jx (dZ (i:=2) Lp.nd) (jx (dZ (i:=3) Lp.nd) uN))))
 (eQ (jv (d7 Db i8 hr (aA (mv 0) (aA (mv 2) (aA (d7 Sp i8 hr (aA (Bk Bg tM hr (aA (mv 0) (aA (mv 1) aX))) (aA (mv 2) (aA (mv 3) aX)))) aX))))))),λO xs Pq h=>M5 O xs Pq QX h⟩)
def Ga:ak SD Ψ8 (bz (top 47)):=L2.dm
def Ei {f fRi  : Addr}{fd dRi:FuncData}(F:cT K "rises" "rises" (top 47) f fd)(N:Nm mg)(Ri:bU K mg P w base "rise" 9 Ψ8 (cL K oR) fRi dRi):aK P w K mg base ci 10 f fd Ψ8 (cL K l4) :=
 jP F Ga (λO xs P PX h=>by obtain⟨_,_,_,_,_,rfl,_⟩:=h;rfl) (λbH A outer s H E QX hr=>⟨yw,(df (jM (i:=2) Ga.nd (NI aX))
 (df (jM (i:=3) Ga.nd (d7 Ri i8 hr (aA (mv 0) (aA (mv 1) aX))))
 (df (nA PassesOwn.never (fc yh Iq (mv 3) C4 (aQ _)) (df (qT (C5 (mv 2) (aA (mv 3) aX)))
 (eQ (jM (i:=3) Ga.nd (d7 Ri i8 hr (aA (mv 0) (aA (db (mv 3) cM) aX)))))))
 (C0 2 (eQ (jv (mv 2))))))),λO xs Pq h=>zV O xs Pq QX h⟩)
def YW:ak SG ["prices","told"] (bz (top 48)):=L2.dm
def Nv {f   : Addr}{fd  : FuncData}(F:cT K "prices_behind" "prices_behind" (top 48) f fd)(N:Nm mg)  : aK P w K mg base ci 1 f fd ["prices","told"] (cL K GH) :=
 jP F YW (λO xs P PX h=>by obtain⟨_,_,rfl,_⟩:=h;rfl) (λbH A outer s H E QX hr=>⟨RI,(eQ (jv (xk (qu (mv 1)) (db (db (mv 1) (m8 cM)) cM) (mv 0)))),λO xs Pq h=>M0 O xs Pq QX h⟩)
def Rp:ak SF ["market"] (bz (top 51)):=L2.dm
def Nt {f fFP Wp fPb  : Addr}{fd dFP WE dPb:FuncData}(F:cT K "prices_that_clear" "prices_that_clear" (top 51) f fd)(N:Nm mg)(FP:bU K mg P w base "first_prices" 4 ["market"] (jQ Ll) fFP dFP)(Rs:bU K mg P w base "rises" 10 Ψ8 (cL K l4) Wp WE)(Pb:bU K mg P w base "prices_behind" 1 ["prices","told"] (cL K GH) fPb dPb):aK P w K mg base ci 11 f fd ["market"] (cL K xB) :=
 jP F Rp (λO xs P PX h=>by obtain⟨_,_,_,rfl,_⟩:=h;rfl) (λbH A outer s H E QX hr=>⟨JV,(df (jM (i:=1) Rp.nd (Bk FP TC hr (aA (mv 0) aX)))
 (eQ (jv (d7 Pb i8 hr (aA (mv 1) (aA (d7 Rs i8 hr (aA (mv 0) (aA (mv 1) aX))) aX)))))),λO xs Pq h=>Hf O xs Pq QX h⟩)
def Rt:ak SI ["market"] (bz (top 50)):=L2.dm
def El {f fPc fDa  : Addr}{fd dPc dDa:FuncData}(F:cT K "clear" "clear" (top 50) f fd)(N:Nm mg)(Pc:bU K mg P w base "prices_that_clear" 11 ["market"] (cL K xB) fPc dPc)(Da:bU K mg P w base "dealing_at" 7 Ψ8 (cL K GN) fDa dDa):aK P w K mg base ci 12 f fd ["market"] (cL K kS) :=
 jP F Rt (λO xs P PX h=>by obtain⟨_,_,_,_,rfl,_⟩:=h;rfl) (λbH A outer s H E QX hr=>⟨Df,(df (jM (i:=1) Rt.nd (d7 Pc i8 hr (aA (mv 0) aX)))
 (eQ (jv (uE (aA (mv 1) (aA (d7 Da i8 hr (aA (mv 0) (aA (mv 1) aX))) aX)))))),λO xs Pq h=>DS O xs Pq QX h⟩)
def YS:ak Sy ["market"] (bz (top 59)):=L2.dm
def Ag {f fWs Wv  : Addr}{fd dWs WI:FuncData}(F:cT K "worths" "worths" (top 59) f fd)(N:Nm mg)(Ws:bU K mg P w base "worths_of" 6 ["market","dealing"] (cL K GC) fWs dWs)(Cl:bU K mg P w base "clear" 12 ["market"] (cL K kS) Wv WI):aK P w K mg base ci 13 f fd ["market"] (cL K lZ) :=
 jP F YS (λO xs P PX h=>by obtain⟨_,_,_,_,rfl,_⟩:=h;rfl) (λbH A outer s H E QX hr=>⟨yr,(eQ (jv (d7 Ws i8 hr (aA (mv 0) (aA (db (d7 Cl i8 hr (aA (mv 0) aX)) cM) aX))))),λO xs Pq h=>zU O xs Pq QX h⟩)
def FX:ak XW ["market"] (bz (top 23)):=L2.dm
def CW {f   : Addr}{fd  : FuncData}(F:cT K "wished" "wished" (top 23) f fd)(N:Nm mg)  : aK P w K mg base ci 1 f fd ["market"] (cL K BP) :=
 jP F FX (λO xs P PX h=>by obtain⟨_,_,_,rfl,_⟩:=h;rfl) (λbH A outer s H E QX hr=>⟨RE,(df (qv (mv 0) (uK rfl (jx (dZ (i:=1) FX.nd) (jx (dZ (i:=2) FX.nd) (jx (fq (jk (i:=3) FX.nd rfl (Or.inr rfl))) uN)))))
 (eQ (jv (pQ d6 wP (by rfl) N.tuple pS (aA (lK (own:=["good"]) (cap:=["wishes"]) (ix:=[3]) (aJ.of (bz (top 23)).names XW) rfl (Fu rfl N.range (aA (Bm mR vp (by rfl) N.len Xk (aA (mv 1) aX)) aX)) (lL (by decide))
 (λC fp s H=>⟨(fq (jk (i:=0) (Ψ9 ["good","wishes"]) rfl (Or.inr rfl))),(kP (qt (Bm (xG rfl) vq (by rfl) N.any boot_any (aA (lK (own:=["row"]) (cap:=["good"]) (ix:=[0]) (aJ.of [(".0",.local),("good",.cell),("any",.globalImplicit),("wishes",.cell)] ["good","wishes"]) rfl (n9 (mv 1)) (lL (by decide))
 (λC fp s H=>⟨(dZ (i:=0) (Ψ9 ["row","good"])),kF,(m9 jm oQ (db (mv 0) (mv 1)) cM (aQ _))⟩)) aX)))),(mv 0)⟩)) aX))))),λO xs Pq h=>MW O xs Pq QX h⟩)
def S5:ak L9 ["best","goods"] (bz (top 32)):=L2.dm
def CY {f   : Addr}{fd  : FuncData}(F:cT K "takers_by_best" "takers_by_best" (top 32) f fd)(N:Nm mg)  : aK P w K mg base ci 1 f fd ["best","goods"] (cL K BQ) :=
 jP F S5 (λO xs P PX h=>by obtain⟨_,_,rfl,_⟩:=h;rfl) (λbH A outer s H E QX hr=>⟨RG,(eQ (jv (pQ d6 wP (by rfl) N.tuple pS (aA (lK (own:=["buyer","row"]) (cap:=["goods"]) (ix:=[1]) (aJ.of (bz (top 32)).names L9) rfl (qX rfl N.enumerate Fv (aA (mv 0) aX)) (Jb (wS (by decide) (wS (by decide) Ku)))
 (λC fp s H=>⟨(uK rfl (jx (dZ (i:=0) (Ψ9 ["buyer","row","goods"])) (jx (dZ (i:=1) (Ψ9 ["buyer","row","goods"])) uN))),(kP (qt (Bm (xG rfl) vq (by rfl) N.any boot_any (aA (lK (own:=["good"]) (cap:=["goods"]) (ix:=[2]) (aJ.of [(".0",.local),("buyer",.local),("row",.local),("any",.globalImplicit),("goods",.cell)] ["buyer","row","goods"]) rfl (n9 (mv 1)) (lL (by decide))
 (λC fp s H=>⟨(dZ (i:=0) (Ψ9 ["good","goods"])),kF,(m9 xi (xo false) (mv 0) (mv 1) (by rfl))⟩)) aX)))),(mv 0)⟩)) aX)))),λO xs Pq h=>MY O xs Pq QX h⟩)
def xh:ak My ["members"] (bz (top 34)):=L2.dm
def yl {f   : Addr}{fd  : FuncData}(F:cT K "all_sets" "all_sets" (top 34) f fd)(N:Nm mg)  : aK P w K mg base ci 1 f fd ["members"] (cL K sM) :=
 jP F xh (λO xs P PX h=>by obtain⟨_,rfl,_⟩:=h;rfl) (λbH A outer s H E QX hr=>⟨J0,(df (jM (i:=1) xh.nd (kQ (aA (uE aX) aX)))
 (df (gH PassesOwn.never rfl (n9 (mv 0)) (fq (jk (i:=2) xh.nd rfl (Or.inr rfl))) (eQ (jM (i:=1) xh.nd (d8 (mv 1) (lK (own:=["some"]) (cap:=["member"]) (ix:=[2]) (aJ.of (bz (top 34)).names My) rfl (n9 (mv 1)) (lL (by decide))
 (λC fp s H=>⟨(dZ (i:=0) (Ψ9 ["some","member"])),kF,(d8 (mv 0) (uE (aA (mv 1) aX)))⟩))))))
 (eQ (jv (mv 1))))),λO xs Pq h=>Hj O xs Pq QX h⟩)
def Ta:ak Mp ["coins","some"] (bz (top 36)):=L2.dm
def tF {f   : Addr}{fd  : FuncData}(F:cT K "coins_of" "coins_of" (top 36) f fd)(N:Nm mg)  : aK P w K mg base ci 1 f fd ["coins","some"] (cL K kR) :=
 jP F Ta (λO xs P PX h=>by obtain⟨_,_,rfl,_⟩:=h;rfl) (λbH A outer s H E QX hr=>⟨Dd,(eQ (jv (Bm (Cr rfl) Dg (by rfl) N.sum boot_sum (aA (lK (own:=["number"]) (cap:=["coins"]) (ix:=[0]) (aJ.of (bz (top 36)).names Mp) rfl (n9 (mv 1)) (lL (by decide))
 (λC fp s H=>⟨(dZ (i:=0) (Ψ9 ["number","coins"])),kF,(db (mv 1) (mv 0))⟩)) aX)))),λO xs Pq h=>DR O xs Pq QX h⟩)
def S8:ak Mm Ψ8 (bz (top 28)):=L2.dm
def HU {f QE  : Addr}{fd QI:FuncData}(F:cT K "money_by_good" "money_by_good" (top 28) f fd)(N:Nm mg)(mz:mg "zip"=none)(Ti:bU K mg P w base "times" 3 ["one","other"] (jQ (A1 on)) QE QI):aK P w K mg base ci 4 f fd Ψ8 (cL K GJ) :=
 jP F S8 (λO xs P PX h=>by obtain⟨_,_,_,_,rfl,_⟩:=h;rfl) (λbH A outer s H E QX hr=>⟨RM,(eQ (jv (lK (own:=["amount","price"]) (cap:=[]) (ix:=[]) (aJ.of (bz (top 28)).names Mm) rfl (qy rfl mz boot_zip (aA (db (mv 0) cM) (aA (mv 1) aX))) (Jb (wS (by decide) (wS (by decide) Ku)))
 (λC fp s H=>⟨(uK rfl (jx (dZ (i:=0) (Ψ9 ["amount","price"])) (jx (dZ (i:=1) (Ψ9 ["amount","price"])) uN))),kF,(Bk Ti u6 hr (aA (uE (aA (mv 0) (aA cM aX))) (aA (mv 1) aX)))⟩)))),λO xs Pq h=>M2 O xs Pq QX h⟩)
def wZ:ak Mj ["parts"] (bz (top 18)):=L2.dm
def HQ {f fGn  : Addr}{fd dGn:FuncData}(F:cT K "on_one_bottom" "on_one_bottom" (top 18) f fd)(N:Nm mg)(Gn:bU K mg P w base "common_divisor" 1 ["one","other"] qf fGn dGn):aK P w K mg base ci 2 f fd ["parts"] (cL K GI) :=
 jP F wZ (λO xs P PX h=>by obtain⟨_,_,rfl,_⟩:=h;rfl) (λbH A outer s H E QX hr=>⟨RK,(df (fE (i:=1) wZ.nd rfl (Or.inr rfl) cM)
 (df (gH PassesOwn.never rfl (n9 (mv 0)) (dZ (i:=2) wZ.nd) (eQ (fE (i:=1) wZ.nd rfl (Or.inr rfl) (m7 (C3 (mv 1) (d7 Gn Ix hr (aA (mv 1) (aA (db (mv 2) cM) aX)))) (db (mv 2) cM)))))
 (eQ (jv (lK (own:=["part"]) (cap:=["bottom"]) (ix:=[1]) (aJ.of (bz (top 18)).names Mj) rfl (n9 (mv 0)) (lL (by decide))
 (λC fp s H=>⟨(dZ (i:=0) (Ψ9 ["part","bottom"])),kF,(m7 (db (mv 0) cM) (C3 (mv 1) (db (mv 0) cM)))⟩)))))),λO xs Pq h=>M1 O xs Pq QX h⟩)
def B5:ak Sx Ψ8 (bz (top 35)):=L2.dm
def yj {f fOo fMb  : Addr}{fd dOo dMb:FuncData}(F:cT K "in_coins" "in_coins" (top 35) f fd)(N:Nm mg)(Oo:bU K mg P w base "on_one_bottom" 2 ["parts"] (cL K GI) fOo dOo)(Mb:bU K mg P w base "money_by_good" 4 Ψ8 (cL K GJ) fMb dMb):aK P w K mg base ci 5 f fd Ψ8 (cL K vc) :=
 jP F B5 (λO xs P PX h=>by obtain⟨_,_,_,_,_,rfl,_⟩:=h;rfl) (λbH A outer s H E QX hr=>⟨RN,(df (jM (i:=2) B5.nd (d7 Oo i8 hr (aA (d8 (d7 Mb i8 hr (aA (mv 0) (aA (mv 1) aX))) (pQ Cs Dh (by rfl) N.list boot_list (aA (db (mv 0) cM) aX))) aX)))
 (df (jM (i:=3) B5.nd (Bm mR vp (by rfl) N.len Xk (aA (db (mv 0) cM) aX)))
 (eQ (jv (uE (aA (nD (mv 2) qW (qV (mv 3))) (aA (nD (mv 2) (qV (mv 3)) qW) aX))))))),λO xs Pq h=>M3 O xs Pq QX h⟩)
def S9:ak Mn ["best","paid"] (bz (top 41)):=L2.dm
def HV {f   : Addr}{fd  : FuncData}(F:cT K "loosened" "loosened" (top 41) f fd)(N:Nm mg)  : aK P w K mg base ci 1 f fd ["best","paid"] (cL K sL) :=
 jP F S9 (λO xs P PX h=>by obtain⟨_,_,rfl,_⟩:=h;rfl) (λbH A outer s H E QX hr=>⟨JY,(eQ (jv (pQ d6 wP (by rfl) N.tuple pS (aA (lK (own:=["row"]) (cap:=["paid"]) (ix:=[1]) (aJ.of (bz (top 41)).names Mn) rfl (n9 (mv 0)) (lL (by decide))
 (λC fp s H=>⟨(dZ (i:=0) (Ψ9 ["row","paid"])),kF,(xk (qt (Bm (xG rfl) vq (by rfl) N.any boot_any (aA (lK (own:=["good"]) (cap:=["paid"]) (ix:=[1]) (aJ.of [(".0",.local),("row",.local),("any",.globalImplicit),("paid",.cell)] ["row","paid"]) rfl (n9 (mv 0)) (lL (by decide))
 (λC fp s H=>⟨(dZ (i:=0) (Ψ9 ["good","paid"])),kF,(m9 xi (xo false) (mv 0) (mv 1) (by rfl))⟩)) aX))) (uE aX) (mv 0))⟩)) aX)))),λO xs Pq h=>Hi O xs Pq QX h⟩)
def S6:ak Mg ["prices","rising","factor"] (bz (top 44)):=L2.dm
def HL {f QE  : Addr}{fd QI:FuncData}(F:cT K "raised" "raised" (top 44) f fd)(N:Nm mg)(Ti:bU K mg P w base "times" 3 ["one","other"] (jQ (A1 on)) QE QI):aK P w K mg base ci 4 f fd ["prices","rising","factor"] (cL K xA) :=
 jP F S6 (λO xs P PX h=>by obtain⟨_,_,_,rfl,_⟩:=h;rfl) (λbH A outer s H E QX hr=>⟨JU,(eQ (jv (pQ d6 wP (by rfl) N.tuple pS (aA (lK (own:=["good","price"]) (cap:=["factor","rising"]) (ix:=[2,1]) (aJ.of (bz (top 44)).names Mg) rfl (qX rfl N.enumerate Fv (aA (mv 0) aX)) (Jb (wS (by decide) (wS (by decide) Ku)))
 (λC fp s H=>⟨(uK rfl (jx (dZ (i:=0) (Ψ9 ["good","price","factor","rising"])) (jx (dZ (i:=1) (Ψ9 ["good","price","factor","rising"])) uN))),kF,(xk (fc xi (xo false) (mv 0) (mv 3) (by rfl)) (Bk Ti u6 hr (aA (mv 1) (aA (mv 2) aX))) (mv 1))⟩)) aX)))),λO xs Pq h=>He O xs Pq QX h⟩)
def w8:ak Sw ["parts"] (bz (top 16)):=L2.dm
def Ek {f fLs  : Addr}{fd dLs:FuncData}(F:cT K "least" "least" (top 16) f fd)(N:Nm mg)(Ls:bU K mg P w base "less" 1 ["one","other"] mV fLs dLs):aK P w K mg base ci 2 f fd ["parts"] (cL K qC) :=
 jP F w8 (λO xs P PX h=>by obtain⟨_,rfl,_⟩:=h;rfl) (λbH A outer s H E QX hr=>⟨C9,(df (jM (i:=1) w8.nd (db (mv 0) cM))
 (df (gH PassesOwn.never rfl (n9 (mv 0)) (dZ (i:=2) w8.nd) (eQ (mM (qt (d7 Ls Iu hr (aA (mv 2) (aA (mv 1) aX)))) (eQ (jM (i:=1) w8.nd (mv 2))) jD)))
 (eQ (jv (mv 1))))),λO xs Pq h=>DP O xs Pq QX h⟩)
def B4:ak Mh ["market","prices","loose","rising"] (bz (top 42)):=L2.dm
def HN {f Wr Wu fCo fTb fAs Nn:Addr}{fd WG WH dCo dTb dAs:FuncData}(F:cT K "paying_factors" "paying_factors" (top 42) f fd)(N:Nm mg)(Ic:bU K mg P w base "in_coins" 5 Ψ8 (cL K vc) Wr WG)(Fr:bU K mg P w base "fraction" 2 ["top","bottom"] (jQ (r9 Nn)) Wu WH)(Co:bU K mg P w base "coins_of" 1 ["coins","some"] (cL K kR) fCo dCo)(Tb:bU K mg P w base "takers_by_best" 1 ["best","goods"] (cL K BQ) fTb dTb)(As:bU K mg P w base "all_sets" 1 ["members"] (cL K sM) fAs dAs):aK P w K mg base ci 6 f fd ["market","prices","loose","rising"] (cL K xC) :=
 jP F B4 (λO xs P PX h=>by obtain⟨_,_,_,_,_,rfl,_⟩:=h;rfl) (λbH A outer s H E QX hr=>⟨JW,(df (qv (d7 Ic i8 hr (aA (mv 0) (aA (mv 1) aX))) (uK rfl (jx (fq (jk (i:=4) B4.nd rfl (Or.inr rfl))) (jx (fq (jk (i:=5) B4.nd rfl (Or.inr rfl))) uN))))
 (eQ (jv (lK (own:=["some"]) (cap:=["loose","money","purses"]) (ix:=[2,4,5]) (aJ.of (bz (top 42)).names Mh) rfl (n9 (d7 As i8 hr (aA (mv 3) aX))) (lL (by decide))
 (λC fp s H=>⟨(dZ (i:=0) (Ψ9 ["some","loose","money","purses"])),(kP (qu (mv 0))),(Bk Fr J4 hr (aA (d7 Co i8 hr (aA (mv 3) (aA (d7 Tb i8 hr (aA (mv 1) (aA (mv 0) aX))) aX))) (aA (d7 Co i8 hr (aA (mv 2) (aA (mv 0) aX))) aX)))⟩))))),λO xs Pq h=>Hg O xs Pq QX h⟩)
def S7:ak Ml ["market","prices","loose","paid"] (bz (top 43)):=L2.dm
def Ej {f fOv fRa Nn:Addr}{fd dOv dRa:FuncData}(F:cT K "meeting_factors" "meeting_factors" (top 43) f fd)(N:Nm mg)(mz:mg "zip"=none)(Ov:bU K mg P w base "over" 3 ["one","other"] (jQ (mU Nn)) fOv dOv)(Ra:bU K mg P w base "rate" 4 ["wish","price"] qe fRa dRa):aK P w K mg base ci 5 f fd ["market","prices","loose","paid"] (cL K qB) :=
 jP F S7 (λO xs P PX h=>by obtain⟨_,_,_,_,_,rfl,_⟩:=h;rfl) (λbH A outer s H E QX hr=>⟨C8,(eQ (jv (Es (own:=["row","best","good"]) (cap:=["paid","prices"]) (ix:=[3,1]) (aJ.of (bz (top 43)).names Ml) rfl (qy rfl mz boot_zip (aA (db (mv 0) cM) (aA (mv 2) aX))) (Jb (wS (by decide) (wS (by decide) Ku)))
 (λC fp s H=>⟨(uK rfl (jx (dZ (i:=0) (Ψ9 ["row","best","good","paid","prices"])) (jx (dZ (i:=1) (Ψ9 ["row","best","good","paid","prices"])) uN))),(kP (qu (mv 1))),(Ij (mv 3)),(dZ (i:=2) (Ψ9 ["row","best","good","paid","prices"])),(kP (fc jm oQ (db (mv 0) (mv 2)) cM (aQ _))),(Bk Ov Io hr (aA (d7 Ra yx hr (aA (db (mv 0) (db (mv 1) cM)) (aA (db (mv 4) (db (mv 1) cM)) aX))) (aA (d7 Ra yx hr (aA (db (mv 0) (mv 2)) (aA (db (mv 4) (mv 2)) aX))) aX)))⟩)))),λO xs Pq h=>DO O xs Pq QX h⟩)
def mK:ak Mc Ψ8 (bz (top 40)):=L2.dm
def HJ {f fPg fWi QF fLo Wq fMf fLe Wp Pr De:Addr}{fd dPg dWi QJ dLo WF dMf dLe WE:FuncData}(F:cT K "rise" "rise" (top 40) f fd)(N:Nm mg)(Pg:bU K mg P w base "paid_goods" 8 Ψ8 (jQ (Lk De)) fPg dPg)(Wi:bU K mg P w base "wished" 1 ["market"] (cL K BP) fWi dWi)(Bg:bU K mg P w base "best_goods" 6 Ψ8 (jQ (mW Pr)) QF QJ)(Lo:bU K mg P w base "loosened" 1 ["best","paid"] (cL K sL) fLo dLo)(Pf:bU K mg P w base "paying_factors" 6 ["market","prices","loose","rising"] (cL K xC) Wq WF)(Mf:bU K mg P w base "meeting_factors" 5 ["market","prices","loose","paid"] (cL K qB) fMf dMf)(Le:bU K mg P w base "least" 2 ["parts"] (cL K qC) fLe dLe)(Rs:bU K mg P w base "raised" 4 ["prices","rising","factor"] (cL K xA) Wp WE):aK P w K mg base ci 9 f fd Ψ8 (cL K oR) :=
 jP F mK (λO xs P PX h=>by obtain⟨_,_,_,_,rfl,_⟩:=h;rfl) (λbH A outer s H E QX hr=>⟨JT,(df (fE (i:=2) mK.nd rfl (Or.inr rfl) (Bk Pg Tz hr (aA (mv 0) (aA (mv 1) aX))))
 (df (jM (i:=3) mK.nd (pQ d6 wP (by rfl) N.tuple pS (aA (lK (own:=["good"]) (cap:=["paid"]) (ix:=[2]) (aJ.of (bz (top 40)).names Mc) rfl (n9 (d7 Wi i8 hr (aA (mv 0) aX))) (lL (by decide))
 (λC fp s H=>⟨(dZ (i:=0) (Ψ9 ["good","paid"])),(kP (fc Nh (xo true) (mv 0) (mv 1) (by rfl))),(mv 0)⟩)) aX)))
 (df (mM (NE (qu (mv 3))) (eQ (jv C4)) jD)
 (df (jM (i:=4) mK.nd (Bk Bg tM hr (aA (mv 0) (aA (mv 1) aX))))
 (df (jM (i:=5) mK.nd (d7 Pf i8 hr (aA (mv 0) (aA (mv 1) (aA (d7 Lo i8 hr (aA (mv 4) (aA (mv 2) aX))) (aA (mv 3) aX))))))
 (df (jM (i:=6) mK.nd (d7 Mf i8 hr (aA (mv 0) (aA (mv 1) (aA (d7 Lo i8 hr (aA (mv 4) (aA (mv 2) aX))) (aA (mv 2) aX))))))
 (df (jM (i:=7) mK.nd (d7 Le i8 hr (aA (d8 (mv 5) (mv 6)) aX)))
 (eQ (jv (uE (aA (mv 2) (aA (mv 7) (aA (d7 Rs i8 hr (aA (mv 1) (aA (mv 3) (aA (mv 7) aX)))) aX))))))))))))),λO xs Pq h=>Hd O xs Pq QX h⟩)
end
end BA
namespace BA
open PySem L2 KG EX KM
section
variable {P:Program}{w:World}{K:Θ1}{mg:Θ3}{base:Heap}
def Lm:ak ["market","buyer","row"] ["market"] (bz (top 24)):=L2.dm
def Tn {f:Addr}{fd:FuncData}(F:cT K "wishless" "wishless" (top 24) f fd)(N:Nm mg):aK P w K mg base ci 1 f fd ["market"] Rg:=by
 refine F.ok Lm (λvs H Q E h=>?_) (λbH A outer s H vs Q E hr h=>?_)
 .obtain⟨b,p,pa,pp,pw,xa,xp,xw,am,pu,wi,rfl,_⟩:=h;rfl
 .obtain⟨b,p,pa,pp,pw,xa,xp,xw,am,pu,wi,rfl,m,jV,k⟩:=h;obtain⟨uD,_⟩:=m.lw;refine⟨_,fh (mY PassesOwn.never rfl (lV rfl N.enumerate Fv (bm (d9 cj (pv 0) bF (λ_ _=>rfl)) cf))
    (jC (n:=2) rfl (wQ (jk (i:=1) Lm.nd rfl (Or.inl rfl)) (wQ (jk (i:=2) Lm.nd rfl (Or.inl rfl)) gJ)))
    (dJ (oH (gD (fD (uQ (xG rfl) (by rfl) N.any boot_any (bm (pv 2) cf)))) (dJ (gm (pv 1))) oI)))
   (dJ (gm vk)),?_⟩
  refine⟨_,rfl,p,_,_,_,rfl,rfl,aM.of m.hp,rfl,pw,rfl,⟨xw,aM.of m.hw⟩,?_⟩;refine EE (xs:=xw) (λi σ H'=>ay H H'/\(∃a c,σ=[some (.ref p),a,c])) ⟨ay.refl H,⟨none,none,rfl⟩⟩ (λi σ H' _ q=>q.1 _ _ m.hw) ?_ ?_
  .rintro i x q σ H' hx hq ⟨st,⟨a,c,rfl⟩⟩;obtain⟨ns,aa,hM,rfl,hA⟩:=uD.at hx;have eO:ay H (aL H' q (.tup [.int i,.ref aa])):=st.new hq;refine⟨q,_,rfl,aM.of dM,rfl,_,_,rfl,_,_,rfl,rfl,?_⟩;refine⟨_,rfl,aa,_,rfl,.inr (aM.of (eO _ _ hA)),?_,_,rfl,?_⟩
   .rw[Xf];simp[Function.comp_def,gE]
   .have e:(List.map V.int ns).any tv=true:=by
     rw[X1];obtain⟨k1,Uv,hp1⟩:=(jV ns (Zz hM)).pos;refine Zw.mpr ⟨k1,Uv,?_⟩;show(k1 != 0)=true;have:k1≠0:=by omega
     simpa using this
    rw[e];exact cR ⟨eO,⟨_,_,rfl⟩⟩
  .rintro σ H' ⟨st,_⟩;exact k _ st
def qi:ak ["parts","found","part"] ["parts"] (bz (top 16)):=L2.dm
def HX {f fA:Addr}{fd dA:FuncData}(F:cT K "least" "least" (top 16) f fd)(A:bU K mg P w base "less" 1 ["one","other"] mV fA dA):aK P w K mg base ci 2 f fd ["parts"] CG:=by
 refine F.ok qi (λvs H Q E h=>?_) (λbH A' outer s H vs Q E hr h=>?_)
 .obtain⟨l,ys,qs,rfl,_⟩:=h;rfl
 .obtain⟨l,ys,qs,rfl,hl,hf,bo,hb,k⟩:=h;refine⟨_,fh (oa (i:=1) qi.nd rfl (Or.inl rfl) (d9 cj (pv 0) bF (λ_ _=>rfl)))
   (fh (mY PassesOwn.never rfl (BG (pv 0)) (jk (i:=2) qi.nd rfl (Or.inl rfl))
    (dJ (oH (fD (eR A.ok hr rfl A.mg A.kp A.bd .nil aS (bm (pv 2) (bm (pv 1) cf)))) (dJ (oa (i:=1) qi.nd rfl (Or.inl rfl) (pv 2))) oI)))
   (dJ (gm (pv 1)))),?_⟩
  have dz:0<qs.length:=Xd.mpr bo;obtain⟨a0,WA,We⟩:=hf.at (g:=0) dz;have m0:qs.getD 0 0∈qs:=by simp[List.getD,Zc dz]
  refine⟨_,rfl,l,_,_,_,rfl,rfl,aM.of hl,WA,?_⟩;refine⟨_,rfl,l,rfl,⟨_,aM.of hl⟩,?_⟩;refine IJ (xs:=ys) (λi σ H'=>H'=H/\∃a q y2,σ=[some (.ref l),some (.ref a),y2]/\H a=some (qO q)/\q∈qs/\∀z∈qs.take i,q<=z) ⟨rfl,a0,_,_,rfl,We,m0,λz hz=>by simp at hz⟩ (λi σ H' _ z=>by obtain⟨rfl,_⟩:=z;exact aM.of hl) ?_ ?_
  .rintro i x σ H1 hx ⟨rfl,a,q,y2,rfl,ha,hq,dD⟩;obtain⟨c,z,rfl,hc,hz⟩:=re hf hx;have PF:=Zz hz;refine⟨_,rfl,_,rfl,c,a,z,q,rfl,hc,ha,hb z PF,hb q hq,_,rfl,?_⟩;by_cases cg:z<q
   .rw[decide_eq_true cg];refine cE ⟨_,rfl,rfl,c,z,_,rfl,hc,PF,λy hy=>?_⟩;rw[wR hz] at hy;rcases Z0.mp hy with h |h
    .exact Yv (Yb cg) (dD y h)
    .rw[Z2.mp h];exact Yk
   .rw[decide_eq_false cg];refine cR ⟨rfl,a,q,_,rfl,ha,hq,λy hy=>?_⟩;rw[wR hz] at hy;rcases Z0.mp hy with h |h
    .exact dD y h
    .rw[Z2.mp h];exact Yq.mp cg
  .rintro σ H1 ⟨rfl,a,q,y2,rfl,ha,hq,dD⟩;rw[hf.1,Yj] at dD;exact⟨_,rfl,k a q ha ⟨hq,dD⟩⟩
def YX:ak ["wishes","good"] ["wishes","good"] (bz (top 46)):=L2.dm
def Tq {f fF fG Nn:Addr}{fd dF dG:FuncData}(F:cT K "greatest_share" "greatest_share" (top 46) f fd)(N:Nm mg)(Fr:bU K mg P w base "fraction" 2 ["top","bottom"] (jQ (r9 Nn)) fF dF)(G:bU K mg P w base "greatest" 2 ["parts"] B1 fG dG):aK P w K mg base ci 3 f fd ["wishes","good"] Rj:=by
 refine F.ok YX (λvs H Q E h=>?_) (λbH A' outer s H vs Q E hr h=>?_)
 .obtain⟨pw,xw,M,n,g,rfl,_⟩:=h;rfl
 .obtain⟨pw,xw,M,n,g,rfl,hw,hR,VY,jV,bo,h6,k⟩:=h;refine⟨_,dJ (gm (eR G.ok hr rfl G.mg G.kp G.bd .nil aS (bm (E1 (own:=["row"]) (cap:=["good"]) (ix:=[1]) (aJ.of (bz (top 46)).names ["wishes","good"]) rfl (BG (pv 0))
    (λC fp s H=>⟨jk (i:=0) (Ψ9 ["row","good"]) rfl (Or.inl rfl),I0,eR Fr.ok hr rfl Fr.mg Fr.kp Fr.bd .nil aS (bm (d9 cj (pv 0) (pv 1) (λ_ _=>rfl)) (bm (uQ (TY rfl) (by rfl) N.max boot_max (bm (pv 0) cf)) cf))⟩)) cf))),?_⟩
  refine⟨_,rfl,pw,rfl,⟨_,aM.of hw⟩,λacc cA=>?_⟩;refine kh (xs:=xw) (λi zs H'=>ay H H'/\kC H' zs ((M.take i).map (bM g))) ⟨(ay.refl H).acc cA,⟨rfl,λj y z=>by simp at z⟩⟩ (λi zs H' _ _ z=>aM.of (z.1 _ _ hw)) ?_ ?_
  .rintro i x zs H1 hx hz ⟨s1,fr⟩;obtain⟨ns,a,hM,rfl,hA⟩:=hR.at hx;have gr:=jV ns (Zz hM);obtain⟨ea,_,_⟩:=tY (ns:=ns) (r:=(g:Int)) (by omega) (by have:=gr.len;omega);rw[Z3] at ea;have hi:i<M.length:=(Zf.mp hM).1;refine mJ ⟨_,rfl,_,rfl,a,_,_,_,rfl,rfl,aM.of (s1 _ _ hA),ea,_,rfl,a,ns,rfl,.inr (aM.of (s1 _ _ hA)),?_,λm hm dD=>?_⟩
   .intro z;obtain⟨k1,Uv,_⟩:=gr.pos;rw[z] at Uv;cases Uv
   have em:=Il hm dD λn hn=>(gr.bd n hn).1
   subst em;have mx:=gr.mx;refine⟨_,_,rfl,Bd.mono (j:=7) (by unfold Bd;omega) (by decide),λz=>absurd z (by omega),λ_ r jy=>?_⟩;rw[oZ];have s2:=(ay.refl H1).new (o:=qO (bM g ns)) jy;have Uo:=s2 _ _ hz;have er:(aL H1 r (qO (bM g ns))) r=some (qO (bM g ns)):=dM;have fr2:=fr.ap s2;generalize aL H1 r (qO (bM g ns))=H2 at s2 Uo er fr2 ⊢;have tl:Tm H2 (aL H2 acc (.lst (zs++[.ref r]))):=Tm.lst Uo;refine⟨zs,Uo,?_,Cn.of dM ⟨(s1.trans s2).acc cA,?_⟩⟩
   .rw[fr.1,Zb,Y0,sz];omega
   .rw[wR hM,Zs];exact(fr2.app er).tm tl
  .rintro zs H1 hz ⟨s1,fr⟩;rw[hR.len,Yj] at fr;refine⟨acc,zs,_,rfl,hz,fr,by simpa using bo,λq hq=>?_,λa q ha hq dD=>k a q H1 s1 ha ⟨hq,dD⟩⟩;obtain⟨r,jy,rfl⟩:=Zd.mp hq;exact(nv (jV r jy)).mono (by decide)
abbrev XX:Δ2:=["market","amounts","purses","wishes","pieces","even"]
def zn:ak XX ["market"] (bz (top 45)):=L2.dm
def Ts {f fW fWl fL fO fT fG Nn Un:Addr}{fd dW dWl dL dO dT dG:FuncData}(F:cT K "first_prices" "first_prices" (top 45) f fd)(N:Nm mg)(mgU:mg "Unwished"=some (.ref Un))(exU:PySem.W.excIn K Un [.type "ValueError",.type "Exception",.type "BaseException",.type "object"] "ValueError.__new__"=true)
  (W:bU K mg P w base "wished" 1 ["market"] wW fW dW) (Wl:bU K mg P w base "wishless" 1 ["market"] Rg fWl dWl) (L:bU K mg P w base "least" 2 ["parts"] CG fL dL) (O:bU K mg P w base "over" 3 ["one","other"] (jQ (mU Nn)) fO dO) (T:bU K mg P w base "times" 3 ["one","other"] (jQ (A1 on)) fT dT) (G:bU K mg P w base "greatest_share" 3 ["wishes","good"] Rj fG dG) :
  aK P w K mg base ci 4 f fd ["market"] (jQ Ll):=by
 refine F.ok zn (λvs H Q E h=>?_) (λbH A' outer s H vs Q E hr h=>?_)
 .obtain⟨b,p,pa,pp,pw,xa,xp,xw,am,pu,wi,rfl,_⟩:=h;rfl
 .obtain⟨b,p,pa,pp,pw,xa,xp,xw,am,pu,wi,rfl,m,jV,k⟩:=h;have rS:c3 1 _:=hr.mono (by decide);have FC:c3 2 _:=hr.mono (by decide);obtain⟨uD,Pa,si,Uf,a1,a6,w1,w6,wp⟩:=m.lw;obtain⟨exa,amb⟩:=m.am;obtain⟨epu,pub⟩:=m.pu;have P8:(am.map aU).length=xa.length:=by have:=congrArg List.length exa;rw[Zb] at this;exact this.symm
  refine⟨_,fh (oH (oJ yh (eR Wl.ok rS rfl Wl.mg Wl.kp Wl.bd .nil aS (bm (pv 0) cf)) vk (aQ _)) (dJ (qm)) oI)
   (fh (kO (pv 0) (jC rfl (wQ (jk (i:=1) zn.nd rfl (Or.inr rfl)) (wQ (jk (i:=2) zn.nd rfl (Or.inl rfl)) (wQ (jk (i:=3) zn.nd rfl (Or.inr rfl)) gJ)))))
   (fh (oa (i:=4) zn.nd rfl (Or.inl rfl) (uQ (Cr rfl) (by rfl) N.sum boot_sum (bm (E1 (own:=["good"]) (cap:=["amounts"]) (ix:=[1]) (aJ.of (bz (top 45)).names XX) rfl (BG (eR W.ok rS rfl W.mg W.kp W.bd .nil aS (bm (pv 0) cf)))
     (λC fp s H=>⟨jk (i:=0) (Ψ9 ["good","amounts"]) rfl (Or.inl rfl),I0,d9 cj (pv 1) (pv 0) (λ_ _=>rfl)⟩)) cf)))
   (fh (oa (i:=5) zn.nd rfl (Or.inr rfl) (eR O.ok hr rfl O.mg O.kp O.bd .nil aS (bm (eR L.ok FC rfl L.mg L.kp L.bd .nil aS (bm (pv 2) cf)) (bm (gF (bm (pv 4) (bm bF cf))) cf))))
   (dJ (gm (Ol d6 (by rfl) N.tuple pS (bm (E1 (own:=["good"]) (cap:=["even","wishes"]) (ix:=[5,3]) (aJ.of (bz (top 45)).names XX) rfl (ph rfl N.range (bm (uQ mR (by rfl) N.len Xk (bm (pv 1) cf)) cf))
     (λC fp s H=>⟨jk (i:=0) (Ψ9 ["good","even","wishes"]) rfl (Or.inl rfl),I0,eR T.ok hr rfl T.mg T.kp T.bd .nil aS (bm (pv 1) (bm (eR G.ok hr rfl G.mg G.kp G.bd .nil aS (bm (pv 2) (bm (pv 0) cf))) cf))⟩)) cf))))))),?_⟩
  refine⟨_,rfl,b,p,pa,pp,pw,xa,xp,xw,am,pu,wi,rfl,m,jV,λH1 s1=>?_⟩;refine⟨rfl,_,rfl,cR ?_⟩;have m1:=m.ap s1;refine⟨_,rfl,p,_,rfl,aM.of m1.hp,rfl,_,_,rfl,_,_,rfl,_,_,rfl,rfl,?_⟩;refine⟨_,rfl,b,p,pa,pp,pw,xa,xp,xw,am,pu,wi,rfl,m1,λq2 H2 s2 e2=>?_⟩;rw[zH] at e2;refine⟨q2,rfl,⟨_,aM.of e2⟩,λacc cA=>?_⟩;have yW:=s1.trans s2;refine kh (xs:=cO (au xa.length (rowsOf wi))) (λi zs H'=>ay H2 H'/\zs=(((au xa.length (rowsOf wi)).take i).map λg=>(am.map aU).getD g 0).map V.int) ⟨(ay.refl H2).acc cA,rfl⟩ (λi zs H' _ _ z=>aM.of (z.1 _ _ e2)) ?_ ?_
  .rintro i x zs H3 hx hz ⟨s3,rfl⟩;obtain⟨g,hg,rfl⟩:=ND hx;have hgx:=(fX (Zz hg)).1;obtain⟨ea,_,_⟩:=tY (ns:=am.map aU) (r:=(g:Int)) (by omega) (by omega);rw[Z3,<- exa] at ea;have hi:i<(au xa.length (rowsOf wi)).length:=(Zf.mp hg).1;have Fa:=iV xa.length (rowsOf wi);refine mJ ⟨_,rfl,_,rfl,pa,_,_,_,rfl,rfl,aM.of (s3 _ _ (yW _ _ m.ha)),ea,_,hz,?_,Cn.of dM ⟨s3.acc cA,?_⟩⟩
   .rw[Zb,Zb,Y0,sz];omega
   .rw[wR hg,Zs,Zs];rfl
  rintro zs H3 hz ⟨s3,rfl⟩;rw[Eo,Yj] at hz;refine⟨acc,_,rfl,.inl (bD.of hz),?_⟩;have epc:((au xa.length (rowsOf wi)).map λg=>(am.map aU).getD g 0).sum=de (am.map aU) (au xa.length (rowsOf wi)):=rfl;rw[epc];have Bj:=yW.trans s3;have PL:=nP (am:=am.map aU) jV Pa P8 (λa ha=>(amb a ha).1);have ahF:de (am.map aU) (au xa.length (rowsOf wi))<=360:=pf P8 a6 (λa ha=>(amb a ha).2);have m3:=m.ap Bj;have fp3:=m3.fp;have pne:pP pu≠[]:=λz=>by
   have h1:=fp3.1;rw[z,List.length_nil] at h1;omega
  refine⟨_,rfl,pp,xp,pP pu,rfl,m3.Bf,fp3,pne,λz hz=>(pub z hz).2.mono (by decide),λal mn W' Fe=>?_⟩;refine⟨_,rfl,by show 2<=sizeLine;decide,λp4 PM=>?_⟩;have s4:=Bj.new (o:=.tup [.int (de (am.map aU) (au xa.length (rowsOf wi))),.int 1]) PM;have s34:=(ay.refl H3).new (o:=.tup [.int (de (am.map aU) (au xa.length (rowsOf wi))),.int 1]) PM;have RW:=uP (z:=de (am.map aU) (au xa.length (rowsOf wi))) (by omega);have bpc:Rb 9 ((de (am.map aU) (au xa.length (rowsOf wi)):Int):Rat):=yZ (by unfold Bd;omega) (by decide);have RY:=(pub mn Fe.1);have RX:((de (am.map aU) (au xa.length (rowsOf wi)):Int):Rat)≠0:=λz=>by rw[z] at RW;exact absurd RW (by decide)
  refine⟨al,p4,mn,_,rfl,s34 _ _ W',dM,RY.2.mono (by decide),bpc.mono (by decide),λz=>absurd z RX,λ_ r5 VI=>?_⟩;have s5:=s4.new (o:=qO (mn / ((de (am.map aU) (au xa.length (rowsOf wi)):Int):Rat))) VI;have e5:(aL (aL H3 p4 (.tup [.int (de (am.map aU) (au xa.length (rowsOf wi))),.int 1])) r5 (qO (mn / ((de (am.map aU) (au xa.length (rowsOf wi)):Int):Rat)))) r5=some (qO (mn / ((de (am.map aU) (au xa.length (rowsOf wi)):Int):Rat))):=dM;have TZ:Rb 29 (mn / ((de (am.map aU) (au xa.length (rowsOf wi)):Int):Rat)):=fo RY.2 bpc RX;generalize aL (aL H3 p4 (.tup [.int (de (am.map aU) (au xa.length (rowsOf wi))),.int 1])) r5 (qO (mn / ((de (am.map aU) (au xa.length (rowsOf wi)):Int):Rat)))=H5 at s5 e5 ⊢;refine⟨_,rfl,pa,xa,rfl,.inr (aM.of (s5 _ _ m.ha)),(xa.length:Int),rfl,by omega,by omega,λSn J7=>?_⟩;have exl:((xa.length:Int)).toNat=xa.length:=by simp
  rw[exl];refine wH (λi zs H'=>ay H5 H'/\∃qs:Δ1,qs.length=i/\kC H' zs qs/\∀g,g<i->∃sh,xJ ((rowsOf wi).map (bM g)) sh/\qs.getD g 0=mn / ((de (am.map aU) (au xa.length (rowsOf wi)):Int):Rat)*sh) ⟨(ay.refl H5).acc J7,[],rfl,⟨rfl,λj y z=>by simp at z⟩,λg hg=>absurd hg (by omega)⟩ ?_ ?_
  .rintro i zs H6 hi VC ⟨s6,qs,Fc,fr,VJ⟩;have hii:(0+(i:Int))=(i:Int):=by omega
   have s56:=s5.trans s6;have m6:=m.ap s56;obtain⟨rw6,_⟩:=m6.lw;refine mJ ⟨_,rfl,_,rfl,_,rfl,pw,xw,rowsOf wi,xa.length,i,by show[V.ref pw,V.int (0+(i:Int))]=_;rw[hii],m6.hw,rw6,hi,jV,Pa,by rw[<- uD.len];exact w6,λa7 sh H7 s7 ha7 Bc=>?_⟩;have bsh:Rb 7 sh:=by
    obtain⟨r,jy,rfl⟩:=Zd.mp Bc.1;exact nv (jV r jy)
   refine⟨r5,a7,_,sh,rfl,s7 _ _ (s6 _ _ e5),ha7,TZ.mono (by decide),bsh.mono (by decide),λr8 hr8=>?_⟩;have s8:=(ay.refl H7).new (o:=qO (on (mn / ((de (am.map aU) (au xa.length (rowsOf wi)):Int):Rat)) sh)) hr8;have VB:=s8 _ _ (s7 _ _ VC);have e8:(aL H7 r8 (qO (on (mn / ((de (am.map aU) (au xa.length (rowsOf wi)):Int):Rat)) sh))) r8=some (qO (on (mn / ((de (am.map aU) (au xa.length (rowsOf wi)):Int):Rat)) sh)):=dM;have fr8:=(fr.ap s7).ap s8;generalize aL H7 r8 (qO (on (mn / ((de (am.map aU) (au xa.length (rowsOf wi)):Int):Rat)) sh))=H8 at s8 VB e8 fr8 ⊢;have tl:Tm H8 (aL H8 Sn (.lst (zs++[.ref r8]))):=Tm.lst VB;refine⟨zs,VB,?_,Cn.of dM ⟨(s6.trans (s7.trans s8)).acc J7,qs++[_],by rw[Zu,Fc];rfl,(fr8.app e8).tm tl,λg hg=>?_⟩⟩
   .rw[fr.1,sz];omega
   .rcases Z5 g i with z |z
    .obtain⟨sh',h1,h2⟩:=VJ g z;refine⟨sh',h1,?_⟩;have:(qs++[on (mn / ((de (am.map aU) (au xa.length (rowsOf wi)):Int):Rat)) sh]).getD g 0=qs.getD g 0:=by simp[List.getD,Zp (show g<qs.length by omega)]
     rw[this];exact h2
    .obtain rfl:g=i:=by omega
     refine⟨sh,Bc,?_⟩;have:(qs++[on (mn / ((de (am.map aU) (au xa.length (rowsOf wi)):Int):Rat)) sh]).getD g 0=on (mn / ((de (am.map aU) (au xa.length (rowsOf wi)):Int):Rat)) sh:=by rw[<- Fc];simp[List.getD]
     rw[this];rfl
  .rintro zs H6 VC ⟨s6,qs,Fc,fr,VJ⟩;refine⟨Sn,zs,rfl,.inl ⟨bD.of VC,λl hl=>?_⟩⟩;have s7:=(ay.refl H6).new (o:=.tup zs) hl;exact k l zs qs _ (s5.trans (s6.trans s7)) dM (fr.ap s7) ⟨Fc,mn,Fe,VJ⟩
def vO:ak ["one","other"] ["one","other"] (bz (top 67)):=L2.dm
def vW {f fF:Addr}{fd dF:FuncData}(F:cT K "_law_div" "_law_div" (top 67) f fd)(G:bU K mg P w base "_law_frac" 1 ["top","bottom"] BE fF dF):aK P w K mg base ci 2 f fd ["one","other"] B2:=by
 refine F.ok vO (λvs H Q E h=>?_) (λbH A outer s H vs Q E hr h=>?_)
 .obtain⟨p,q,a,b,rfl,_⟩:=h;rfl
 .obtain⟨p,q,a,b,rfl,hp,hq,⟨ba,bb⟩,⟨bc,bd⟩,KR,k⟩:=h;have hb:=den_pos a;have hn:=lR.mp KR;refine⟨_,dJ (gm (eR G.ok hr rfl G.mg G.kp G.bd .nil aS (bm (cY rP (d9 cj (pv 0) bF (λ_ _=>rfl)) (d9 cj (pv 1) bF (λ_ _=>rfl))) (bm (cY rP (d9 cj (pv 0) bF (λ_ _=>rfl)) (d9 cj (pv 1) bF (λ_ _=>rfl))) cf)))),?_⟩;refine⟨_,rfl,p,_,_,_,rfl,rfl,aM.of hp,rfl,_,rfl,q,_,_,_,rfl,rfl,aM.of hq,rfl,_,_,rfl,rfl,⟨b3 ba,b3 bd⟩,_,rfl,p,_,_,_,rfl,rfl,aM.of hp,rfl,_,rfl,q,_,_,_,rfl,rfl,aM.of hq,rfl,_,_,rfl,rfl,⟨b3 bb,b3 bc⟩,?_⟩;exact⟨_,_,rfl,Y7 hb hn,b6 (bb.mul bc),λr jy=>by rw[l6 (by omega)];exact k r jy⟩
end
end BA
namespace RZ
open PySem L2 KG EX KM
def ao {α : Type}{xs:List α}{i:Nat}{x d:α}(h:xs[i]?=some x):xs.getD i d=x:=by rw[List.getD,h];rfl
def tX {row:Γ3}{qs:Δ1}{g:Nat}:g∈cx row qs↔g<row.length/\row.getD g 0≠0/\∀o,o<row.length->0<row.getD o 0->((row.getD o 0:Int):Rat)*qs.getD g 0<=((row.getD g 0:Int):Rat)*qs.getD o 0:=by
 unfold cx;rw[Zo,Zq];unfold mT;rw[Z8,Ya,decide_eq_true_eq];refine⟨λ⟨h1,h2,h3⟩=>⟨h1,h2,λo ho hw=>?_⟩,λ⟨h1,h2,h3⟩=>⟨h1,h2,λo ho=>?_⟩⟩
 .have:=h3 o (Zq.mpr ho);unfold jT at this;rw[decide_eq_true hw,Xq] at this;exact Yq.mp (of_decide_eq_false (by simpa using this:decide _=false))
 .unfold jT;rw[Bool.not_eq_true',Bool.and_eq_false_iff];by_cases hw:0<row.getD o 0
  .right
   rw[decide_eq_false_iff_not,Yq];exact h3 o (Zq.mp ho) hw
  .left;rw[decide_eq_false hw]
def IP {row:Γ3}{qs:Δ1}(hw:∃o,o<row.length/\0<row.getD o 0)(hq:∀o,o<row.length->0<row.getD o 0->0<qs.getD o 0):cx row qs≠[]:=by
 obtain⟨o0,h0,w0⟩:=hw;obtain⟨m,hm⟩:=C6 (l:=(((List.range row.length).filter λo=>decide (0<row.getD o 0)).map (eY row qs))) (by
  intro z;have:=Xy.mp z;have h1:o0∈(List.range row.length).filter λo=>decide (0<row.getD o 0):=Zo.mpr ⟨Zq.mpr h0,decide_eq_true w0⟩
  rw[this] at h1;cases h1)
 obtain⟨b,hb,rfl⟩:=Zd.mp hm.1;obtain⟨oN,oM⟩:=Zo.mp hb;have oN:=Zq.mp oN;have oM:0<row.getD b 0:=of_decide_eq_true oM;intro z;have:b∈cx row qs:=tX.mpr ⟨oN,by omega,λo ho hw=>?_⟩
 .rw[z] at this;cases this
 .have h1:=hm.2 (eY row qs o) (Zd.mpr ⟨o,Zo.mpr ⟨Zq.mpr ho,decide_eq_true hw⟩,rfl⟩);unfold eY at h1;have q1:=hq o ho hw;have q2:=hq b oN oM;have e1:((row.getD o 0:Int):Rat) / qs.getD o 0*(qs.getD o 0*qs.getD b 0)=((row.getD o 0:Int):Rat)*qs.getD b 0:=by
   have:qs.getD o 0≠0:=λz=>by rw[z] at q1;exact absurd q1 (by decide)
   grind
  have e2:((row.getD b 0:Int):Rat) / qs.getD b 0*(qs.getD o 0*qs.getD b 0)=((row.getD b 0:Int):Rat)*qs.getD o 0:=by
   have:qs.getD b 0≠0:=λz=>by rw[z] at q2;exact absurd q2 (by decide)
   grind
  rw[<- e1,<- e2];exact Q5 h1 (Yb (Xp q1 q2))
section
variable {W:Γ1}{qs:Δ1}{g:Nat}
def vz {i j:Nat}(hi:i<W.length)(h:0<(W.getD i []).getD j 0):has W j=true:=by
 unfold has;refine Zw.mpr ⟨W.getD i [],by rw[ao (Zc hi)];exact Zv _,?_⟩;exact decide_eq_true (by omega)
variable {n:Nat}
def EA (h:has W g=true):∃i,i<W.length/\0<(W.getD i []).getD g 0:=by
 unfold has at h;obtain⟨r,hr,h⟩:=Zw.mp h;obtain⟨i,hi,rfl⟩:=Ye hr;exact⟨i,hi,by rw[ao (Zc hi)];have:=of_decide_eq_true h;omega⟩
end
end RZ
namespace MI
open PySem L2 KG EX KM RZ SP
def oS (L:List Nat)(n:Nat)(w:Nat->Rat)(p:Nat->Bool):wsum (L++[n]) w p=wsum L w p+if p n=true then w n else 0:=by
 unfold wsum;rw[Xm,Zs,nu]
 congr 1
 cases h:p n with
 |true=>rw[Qh h,if_pos rfl];show aH [w n]=w n;rw[Bn];show w n+0=_;rw[Xx]
 |false=>rw[X5 (by rw[h];decide),if_neg (by decide)];rfl
theorem jZ {c:Int}{ms:Γ3}{qs:Δ1}(h:cG c ms qs)(p:Nat->Bool):∀n,n<=qs.length->((sm n (λi=>if p i=true then ms.getD i 0 else 0):Int):Rat)=(c:Rat)*wsum (List.range n) (λi=>qs.getD i 0) p
 |0,_=>by show((0:Int):Rat)=(c:Rat)*0;rw[Xg];rfl
 |n+1,hn=>by
  rw[Y6,oS];show((sm n _+(if p n=true then ms.getD n 0 else 0):Int):Rat)=_;rw[Ql,jZ h p n (by omega),Rat.mul_add]
  congr 1
  split
  .exact h.2 n (by omega)
  .rw[Xg];rfl
def nJ (L:List Nat)(w:Nat->Rat)(p:Nat->Bool):wsum L w (λ_=>true)=wsum L w p+wsum L w (λx=>!p x):=by
 have:=vG L w (λ_=>true) p;rw[show(λx=>(λ_:Nat=>true) x||p x)=λ_=>true by funext x;simp] at this;rw[this]
 congr 1
def zE {L:List Nat}{w:Nat->Rat}{p q:Nat->Bool}(h:∀x∈L,p x≠q x->w x=0):wsum L w p=wsum L w q:=by
 induction L with
 |nil=>rfl
 |cons x L ih =>
  rw[Bo,Bo,ih λy hy=>h y (Zh _ hy)]
  congr 1
  by_cases e:p x=q x
  .rw[e]
  .rw[h x Zg e];split<;>split<;>rfl
def AI (L:List Nat)(w:Nat->Rat)(p q:Nat->Bool):wsum (L.filter p) w q=wsum L w (λx=>p x&&q x):=by
 unfold wsum;rw[Qv]
 congr 2
 refine Y2 λx _=>Bool.and_comm _ _
section
variable {A:Γ3}{Pu qs:Δ1}{W:Γ1}
def tW {i:Nat}(hi:i<W.length){x:Int}(hx:x∈(aw W qs).getD i []):0<=x/\x.toNat∈cx (W.getD i []) qs/\((x.toNat:Nat):Int)=x:=by
 rw[Ja hi] at hx;obtain⟨y,hy,rfl⟩:=Zd.mp hx;exact⟨by omega,by rw[Z3];exact hy,by omega⟩
def nH (mf:Jo A Pu W){i y:Nat}(hi:i<W.length)(hy:y∈cx (W.getD i []) qs):y<A.length/\has W y=true/\0<(W.getD i []).getD y 0:=by
 obtain⟨h1,h2,_⟩:=tX.mp hy;have hr:=mf.wr i hi;have h3:=(mf.w0 i y hi (by omega)).1;have h4:0<(W.getD i []).getD y 0:=by have:(W.getD i []).getD y 0=eI W i y:=rfl;omega
 exact⟨by omega,vz hi h4,h4⟩
def jK {g:Nat}(h:g<qs.length):(gn A qs).getD g 0=qs.getD g 0*((A.getD g 0:Int):Rat):=by
 unfold gn;simp[List.getD,Yn h]
def oW {S:List Nat}{r:Γ3}:cD S r=true↔∃x∈S,(x:Int)∈r:=by
 unfold cD;rw[Zw];constructor
 .rintro⟨g,hg,h⟩;obtain⟨x,hx,e⟩:=Zw.mp h;exact⟨x,hx,by have:=of_decide_eq_true e;rw[this];exact hg⟩
 .rintro⟨x,hx,h⟩;exact⟨_,h,Zw.mpr ⟨x,hx,decide_eq_true rfl⟩⟩
def zT (mf:Jo A Pu W)(oo:Fp W qs)(hl:qs.length=A.length)(good:∀r∈W,bB A.length r)(oq:EZ A Pu qs W A.length)(zero:aV A Pu qs W (au A.length W)=0) :
  wsum (List.range A.length) (λj=>(gn A qs).getD j 0) (λ_=>true)=wsum (List.range Pu.length) (λi=>Pu.getD i 0) (λ_=>true) /\
  ∀T S:Nat->Bool,(∀i,i<Pu.length->T i=true->∀x∈(aw W qs).getD i [],S x.toNat=true)->wsum (List.range Pu.length) (λi=>Pu.getD i 0) T<=wsum (List.range A.length) (λj=>(gn A qs).getD j 0) S:=by
 have nd:(au A.length W).Nodup:=by unfold au;exact Qc.sublist Yp
 have wl:=mf.wl;have mon:∀p:Nat->Bool,rD A qs ((au A.length W).filter p)=wsum (List.range A.length) (λj=>(gn A qs).getD j 0) p:=λp=>by
  show wsum (au A.length W) _ p=_;unfold au;rw[AI];refine zE λx hx bo=>?_
  have hx:=Zq.mp hx;rw[jK (by omega)];have:has W x=false:=by
   cases hh:has W x with
   |false=>rfl
   |true=>rw[hh,Xq] at bo;exact absurd rfl bo
  rw[oo.nil x (by omega) this,Xr]
 have pur:∀S:List Nat,fQ Pu (hV W qs S)=wsum (List.range Pu.length) (λi=>Pu.getD i 0) (λi=>cD S ((aw W qs).getD i [])):=λS=>by rw[<- wl];rfl
 have all:rD A qs (au A.length W)=wsum (List.range A.length) (λj=>(gn A qs).getD j 0) (λ_=>true):=by
  have:=mon λ_=>true
  rwa [X8.mpr λ_ _=>rfl] at this
 have tk:∀i,i<Pu.length->cD (au A.length W) ((aw W qs).getD i [])=true:=λi hi=>by
  have oh:i<W.length:=by omega
  have hg:=good _ (i9 (d:=[]) oh);obtain⟨k,hk,k1⟩:=hg.pos;obtain⟨o,ho,eo⟩:=Ye hk;have bo:cx (W.getD i []) qs≠[]:=IP ⟨o,ho,by rw[KM.ao (Zc ho),eo];omega⟩ λo ho hw=>oo.pos o (by have:=mf.wr i oh;omega) (vz oh hw)
  obtain⟨y,hy⟩:=List.exists_mem_of_ne_nil _ bo;obtain⟨h1,h2,_⟩:=nH mf oh hy;exact oW.mpr ⟨y,by unfold au;exact Zo.mpr ⟨Zq.mpr h1,h2⟩,by rw[Ja oh];exact Zd.mpr ⟨y,hy,rfl⟩⟩
 have Kn:wsum (List.range A.length) (λj=>(gn A qs).getD j 0) (λ_=>true)=wsum (List.range Pu.length) (λi=>Pu.getD i 0) (λ_=>true):=by
  unfold aV at zero;rw[all,pur] at zero;rw[gN (q:=λ_=>true) λi hi=>tk i (Zq.mp hi)] at zero
  grind
 refine⟨Kn,λT S h=>?_⟩;have hS:=oq (((au A.length W).filter λx=>!S x).map λj:Nat=>(j:Int)) (List.Sublist.map _ Yp);have Wz:aN (((au A.length W).filter λx=>!S x).map λj:Nat=>(j:Int))=(au A.length W).filter λx=>!S x:=by
  unfold aN;rw[Zm];conv=>rhs;rw[<- Y1 ((au A.length W).filter λx=>!S x)]
  refine Yy λx _=>?_
  show((x:Nat):Int).toNat=x;omega
 rw[Wz] at hS;unfold aV at hS;rw[mon,pur] at hS;have le:wsum (List.range Pu.length) (λi=>Pu.getD i 0) (λi=>cD ((au A.length W).filter λx=>!S x) ((aw W qs).getD i []))<=wsum (List.range Pu.length) (λi=>Pu.getD i 0) (λi=>!T i):=by
  refine qF (λi hi=>Yb (mf.pu _ (i9 (Zq.mp hi))).1) λi hi ht=>?_
  obtain⟨x,hx,hb⟩:=oW.mp ht;cases hT:T i with
  |false=>rfl
  |true =>
   have h1:=h i (Zq.mp hi) hT _ hb;have h2:=(Zo.mp hx).2;rw[Z3] at h1;rw[h1] at h2;cases h2
 have p1:=nJ (List.range A.length) (λj=>(gn A qs).getD j 0) S;have p2:=nJ (List.range Pu.length) (λi=>Pu.getD i 0) T
 grind
def S0 (mf:Jo A Pu W)(oo:Fp W qs)(hl:qs.length=A.length)(good:∀r∈W,bB A.length r)(oq:EZ A Pu qs W A.length)(zero:aV A Pu qs W (au A.length W)=0)
  {c:Int}{ms ps:Γ3}(hc:0<c) (im:cG c ms (gn A qs)) (ip:cG c ps Pu):L5 (aw W qs) ms ps Pu.length A.length:=by
 obtain⟨Kn,ZC⟩:=zT mf oo hl good oq zero;have wl:=mf.wl;have ml:(gn A qs).length=A.length:=by unfold gn;simp[hl]
 have cq:(0:Rat)<(c:Rat):=Yx.mpr hc;have ZA:∀i,i<Pu.length->(aw W qs).getD i []=(cx (W.getD i []) qs).map λg:Nat=>(g:Int):=λi hi=>Ja (by omega)
 have Jr:∀{n:Nat}{l:Γ3},sm n (λi=>l.getD i 0)=sm n (λi=>if (λ_:Nat=>true) i=true then l.getD i 0 else 0):=E7 λi _=>by simp
 have nnI:∀{ls:Γ3}{q:Δ1},cG c ls q->(∀i,i<q.length->0<=q.getD i 0)->∀i,i<q.length->0<=ls.getD i 0:=λ{ls q} h h0 i hi=>by
  have h1:=h.2 i hi;have h2:(0:Rat)<=(c:Rat)*q.getD i 0:=Rat.mul_nonneg (Yb cq) (h0 i hi);rw[<- h1] at h2
  exact_mod_cast h2
 refine⟨im.1.trans ml,ip.1,by rw[Ft,wl],mf.n6,mf.g6,λj hj=>nnI im (λi hi=>?_) j (by omega),λi hi=>nnI ip (λi hi=>Yb (mf.pu _ (i9 hi)).1) i hi,λi hi x hx=>?_,λi hi=>?_,λi hi=>?_,λT S h=>?_,?_⟩
 .rw[ml] at hi;rw[jK (by omega)];have ha:=mf.am _ (i9 (d:=0) hi);have hq:0<=qs.getD i 0:=by
   cases hh:has W i with
   |true=>exact Yb (oo.pos i (by omega) hh)
   |false=>rw[oo.nil i (by omega) hh];exact Yk
  exact Rat.mul_nonneg hq (by exact_mod_cast (show(0:Int)<=A.getD i 0 by omega))
 .obtain⟨h1,h2,_⟩:=tW (show i<W.length by omega) hx;exact⟨h1,(nH mf (by omega) h2).1⟩
 .exact Zr (nI (by omega) (mf.wr i (by omega))) mf.g6
 .rw[ZA i hi];unfold cx;exact List.Pairwise.map _ (λa b Jh z=>Jh (by omega)) (Qc.sublist Yp)
 .have h1:=ZC T S h;have e1:=jZ ip T Pu.length (Ze _);have e2:=jZ im S A.length (by omega);have h2:=Xi h1 (Yb cq);rw[<- e1,<- e2] at h2
  exact_mod_cast h2
 .have e1:=jZ ip (λ_=>true) Pu.length (Ze _);have e2:=jZ im (λ_=>true) A.length (by omega);rw[Kn,<- e1] at e2;rw[Jr,Jr]
  exact_mod_cast e2
end
def eZ.uniq {A:Γ3}{Pu:Δ1}{W:Γ1}{qs:Δ1}{L:List zh}(h:eZ A Pu W qs L):∀{L':List zh},eZ A Pu W qs L'->L=L':=by
 induction h with
 |stop rp oq no =>
  intro L' h';cases h' with
  |stop _ _ _=>rfl
  |step _ _ pd hr _ _=>exact absurd (no _ pd) hr
 |step rp oq pd hr hm _ ih =>
  intro L' h';cases h' with
  |stop _ _ no=>exact absurd (no _ pd) hr
  |step _ _ Pm _ Uu rL =>
   have e1:=Pm.uniq pd;subst e1;have e2:=Uu.uniq hm;subst e2;rw[ih rL]
theorem jG (k:Rat)(f:Nat->Int):∀n,aH ((List.range n).map λj=>((f j:Int):Rat)*k)=((sm n f:Int):Rat)*k
 |0=>by show(0:Rat)=((0:Int):Rat)*k;rw[show((0:Int):Rat)=0 from rfl,Xr]
 |n+1=>by
  rw[Y6,Zs,nu,jG k f n];show _+aH [((f n:Int):Rat)*k]=((sm n f+f n:Int):Rat)*k;rw[Bn,show aH ([]:Δ1)=0 from rfl,Xx,Ql,Rat.add_mul]
def G5 {f:Nat->Int}{n:Nat}(h:∀i,i<n->0<=f i):∀{m:Nat},m<=n->0<=sm m f/\sm m f<=sm n f:=by
 induction n with
 |zero =>
  intro m hm;have:m=0:=(by omega);subst this;exact⟨Yw _,Yw _⟩
 |succ n ih =>
  intro m hm;by_cases e:m=n+1
  .subst e;exact⟨S1 h,Yw _⟩
  .obtain⟨h1,h2⟩:=ih (λi hi=>h i (by omega)) (m:=m) (by omega);have h3:=h n (by omega);exact⟨h1,by show _<=sm n f+f n;omega⟩
section
variable {A:Γ3}{Pu qs:Δ1}{W:Γ1}{kb:Nat}{c:Int}{ms ps:Γ3}{M:Γ1}
def zF (mf:Jo A Pu W)(hl:qs.length=A.length)(d:np A Pu W qs kb c ms ps M)(k3:kb<=200){i:Nat}(hi:i<Pu.length){IW:Rat}(hr:Rb 200 IW)
  (hb:∀j,j<A.length->((j:Nat):Int)∈(aw W qs).getD i []->0<qs.getD j 0/\(((W.getD i []).getD j 0:Int):Rat)=IW*qs.getD j 0) :
  zz (W.getD i []) ((di A ms M).getD i [])/\aH (gT (W.getD i []) ((di A ms M).getD i []))=Pu.getD i 0*IW:=by
 have wl:=mf.wl;have oh:i<W.length:=by omega
 have rl:=mf.wr i oh;have sp:=d.sp;have ml:=sp.rM.len;have c0:(0:Rat)<(c:Rat):=Yx.mpr d.c0;have cn:(c:Rat)≠0:=λz=>by rw[z] at c0;exact absurd c0 (by decide)
 have mql:(gn A qs).length=A.length:=by unfold gn;simp[hl]
 have eD:(di A ms M).getD i []=(List.range A.length).map λj=>EW (en M i j) (ms.getD j 0) (A.getD j 0):=by
  unfold di;rw[jw (a:=0) (by rw[Y3];omega)]
  congr 1
  funext j
  rw[show(List.range M.length).getD i 0=i by simp[List.getD,Yn (show i<M.length by omega)]]
 have atD:∀j,j<A.length->((di A ms M).getD i []).getD j 0=EW (en M i j) (ms.getD j 0) (A.getD j 0):=λj hj=>by
  rw[eD,jw (a:=0) (by rw[Y3];exact hj)];rw[show(List.range A.length).getD j 0=j by simp[List.getD,Yn hj]]
 have Vp:0<Pu.getD i 0:=(mf.pu _ (i9 hi)).1;have puR:Rb 20 (Pu.getD i 0):=(mf.pu _ (i9 hi)).2;have Vr:((ps.getD i 0:Int):Rat)=(c:Rat)*Pu.getD i 0:=d.ip.2 i hi;have ps0:0<ps.getD i 0:=by
  have:(0:Rat)<((ps.getD i 0:Int):Rat):=by rw[Vr];exact Xp c0 Vp
  exact Yx.mp this
 have psB:Bd (13*kb+79) (ps.getD i 0):=d.pb _ (i9 (by rw[d.ip.1];exact hi));have one:∀j,j<A.length->(((W.getD i []).getD j 0:Int):Rat)*((di A ms M).getD i []).getD j 0=((en M i j:Int):Rat)*(IW / (c:Rat)):=λj hj=>by
  rw[atD j hj];unfold EW;split
  .rename_i h0;obtain⟨q0,ew⟩:=hb j hj (sp.sup i j hi hj h0);have am:=mf.am _ (i9 (d:=0) hj);have a0:(0:Rat)<((A.getD j 0:Int):Rat):=Yx.mpr (by omega);have em:((ms.getD j 0:Int):Rat)=(c:Rat)*(qs.getD j 0*((A.getD j 0:Int):Rat)):=by rw[d.im.2 j (by omega),jK (by omega)]
   rw[Qe,em,ew,Xj];have an:((A.getD j 0:Int):Rat)≠0:=λz=>by rw[z] at a0;exact absurd a0 (by decide)
   have qn:qs.getD j 0≠0:=λz=>by rw[z] at q0;exact absurd q0 (by decide)
   grind
  .rename_i h0;have:en M i j=0:=by have:=sp.nn i j;omega
   rw[this,Xg,show((0:Int):Rat)=0 from rfl,Xr]
 have eP:gT (W.getD i []) ((di A ms M).getD i [])=(List.range A.length).map λj=>((en M i j:Int):Rat)*(IW / (c:Rat)):=by
  unfold gT;rw[rl];exact Yy λj hj=>one j (Zq.mp hj)
 have Sl:∀N:Int,0<=N->N<=ps.getD i 0->Rb 3000 (((N:Int):Rat)*(IW / (c:Rat))):=λN n0 n1=>by
  have nB:Bd (13*kb+79) N:=psB.le (by omega);have e:((N:Int):Rat)*(IW / (c:Rat))=Rat.divInt N (ps.getD i 0)*(Pu.getD i 0*IW):=by
   rw[Qe,Vr];have pn:Pu.getD i 0≠0:=λz=>by rw[z] at Vp;exact absurd Vp (by decide)
   grind
  rw[e];refine(kN (iA (k:=13*kb+79) (by omega) nB psB) (kN puR hr)).mono ?_;omega
 have ZB:∀m,m<=A.length->0<=sm m (λj=>en M i j)/\sm m (λj=>en M i j)<=ps.getD i 0:=λm hm=>by
  have:=G5 (f:=λj=>en M i j) (n:=A.length) (λj _=>sp.nn i j) hm;have e:sm A.length (λj=>en M i j)=ps.getD i 0:=sp.row i hi;omega
 refine⟨⟨?_,?_,λx hx=>?_,λz hz=>?_,λz hz=>?_,λm hm=>?_⟩,?_⟩
 .rw[eD,Zb,Y3,rl]
 .rw[rl];exact mf.g6
 .obtain⟨j,hj,rfl⟩:=Ye hx;have:=mf.w0 i j oh (by omega);unfold eI at this
  rwa [KM.ao (Zc hj)] at this
 .rw[eD] at hz;obtain⟨j,hj,rfl⟩:=Zd.mp hz;have hj:=Zq.mp hj;unfold EW;split
  .rename_i h0;have h1:=(Cq sp hi hj).1;have h2:=d.mb _ (i9 (d:=0) (show j<ms.length by rw[d.im.1,mql];exact hj));have h3:=mf.am _ (i9 (d:=0) hj);have h4:Bd (13*kb+79) (en M i j):=h2.le (by omega);have h5:Bd 6 (A.getD j 0):=by unfold Bd;omega
   have h6:Bd 3000 (en M i j*A.getD j 0):=(h4.mul h5).mono (by omega);exact iA (by omega) h6 (h2.mono (by omega))
  .exact lQ.mono (by decide)
 .rw[eP] at hz;obtain⟨j,hj,rfl⟩:=Zd.mp hz;have hj:=Zq.mp hj;exact Sl _ (sp.nn i j) (Cq sp hi hj).2
 .rw[eP] at hm ⊢;rw[Zb,Y3] at hm;rw[<- List.map_take,List.take_range,Nat.min_eq_left hm,jG];obtain⟨h1,h2⟩:=ZB m hm;exact Sl _ h1 h2
 .rw[eP,jG];have e:sm A.length (λj=>en M i j)=ps.getD i 0:=sp.row i hi;rw[e,Vr]
  grind
end
end MI
namespace RZ
open PySem L2 KG EX KM
section
variable {W:Γ1}{qs:Δ1}{n:Nat}
end
section
variable {W:Γ1}{qs:Δ1}{c:Rat}
end
end RZ
namespace MI
open PySem L2 KG EX KM
open RZ (EZ gZ bC gW)
theorem na {α : Type}{f:α->PyData}:∀{ds:Ξ1},(∀d∈ds,∃x,d=f x)->∃xs:List α,ds=xs.map f
 |[],_=>⟨[],rfl⟩
 |d::ds,h=>by
  obtain⟨x,rfl⟩:=h d Zg;obtain⟨xs,rfl⟩:=na (ds:=ds) λd hd=>h d (Zh _ hd)
  exact⟨x::xs,rfl⟩
def nK {a b:Int}{d:PyData}(h:within a b d=true):∃x,d=.int x:=by
 cases d with
 |int n=>exact⟨n,rfl⟩
 |_=>cases h
def Ii {am pu wi:Ξ1}(h:gA (.tuple [.tuple am,.tuple pu,.tuple wi])=true):∃A Pu W,(PyData.tuple [.tuple am,.tuple pu,.tuple wi])=g9 A Pu W:=by
 obtain⟨h1,h2,h3,h4,h5,h6,h7,h8⟩:=iH h;obtain⟨A,rfl⟩:=na (f:=PyData.int) λd hd=>nK (Ya.mp h3 d hd)
 obtain⟨Pu,rfl⟩:=na (f:=qD) (ds:=pu) λd hd=>by
  obtain⟨q,e,_⟩:=lS (Ya.mp h6 d hd);exact⟨q,e⟩
 obtain⟨W,rfl⟩:=na (f:=aT) (ds:=wi) λd hd=>by
  have:=Ya.mp h8 d hd;cases d with
  |tuple ds =>
   have e:(decide (ds.length=(A.map PyData.int).length)&&ds.all (within 0 100))=true:=this;rw[Z8] at e;obtain⟨r,rfl⟩:=na (f:=PyData.int) λd hd=>nK (Ya.mp e.2 d hd)
   exact⟨r,rfl⟩
  |_=>cases this
 exact⟨A,Pu,W,rfl⟩
section
variable {K:Θ1}
end
section
variable {A:Γ3}{Pu:Δ1}{W:Γ1}{qs:Δ1}
end
def AG {A:Γ3}{Pu:Δ1}{W:Γ1}(mf:Jo A Pu W)(hp:∀r∈W,∃k∈r,1<=k):∀r∈W,bB A.length r:=λr hr=>by
 obtain⟨i,hi,e⟩:=Ye hr;have er:W.getD i []=r:=by rw[ao (Zc hi)];exact e
 have hl:=mf.wr i hi;rw[er] at hl;refine⟨hl,λk hk=>?_,hp r hr⟩;obtain⟨o,ho,rfl⟩:=Ye hk;have:=mf.w0 i o hi (by omega);unfold eI at this;rw[er,ao (Zc ho)] at this;exact this
def wC {A:Γ3}{Pu:Δ1}{W:Γ1}{qs:Δ1}(ok:gA (g9 A Pu W)=true)(hp:∀r∈W,∃k∈r,1<=k)(hF:iw A Pu W A.length qs):gY A Pu W qs/\EZ A Pu qs W A.length:=by
 have mf:=A8 ok;have hM:=AG mf hp;have wl:=mf.wl;have n1:=mf.n1;have OS:W≠[]:=λz=>by rw[z] at wl;simp at wl;omega
 have PL:=nP (am:=A) hM OS rfl (λa ha=>(mf.am a ha).1);have hpu:=pf (am:=A) (M:=W) rfl mf.g6 (λa ha=>(mf.am a ha).2);have za:∀p∈Pu,0<p:=λp h=>(mf.pu p h).1
 have Bf:=uP (z:=de A (au A.length W)) (by omega);have bo:((de A (au A.length W):Int):Rat)≠0:=λz=>by rw[z] at Bf;exact absurd Bf (by decide)
 have b1:Rb 9 ((de A (au A.length W):Int):Rat):=yZ (by unfold Bd;omega) (by decide);obtain⟨mn,Fe,hq⟩:=hF.ex;have hb:0<mn / ((de A (au A.length W):Int):Rat):=div_pos (za mn Fe.1) Bf;have bd:∀z∈qs,Rb 280 z:=λz hz=>by
  obtain⟨g,hg,rfl⟩:=Ye hz;obtain⟨sh,Bc,e⟩:=hq g (by rw[<- hF.len];exact hg);rw[ao (Zc hg)] at e;rw[e];obtain⟨r,hr,rfl⟩:=Zd.mp Bc.1;exact(kN (fo (mf.pu mn Fe.1).2 b1 bo) (nv (hM r hr))).mono (by decide)
 have hr0:∀{i:Nat},i<W.length->W.getD i []∈W:=λhi=>by rw[ao (Zc hi)];exact Zv _
 have oo:Fp W qs:=by
  refine⟨λj hj hh=>?_,λj hj hh=>?_⟩
  .obtain⟨sh,Bc,e⟩:=hq j (by rw[<- hF.len];exact hj);rw[e];obtain⟨i,hi,hw⟩:=RZ.EA hh;have h1:=Bc.2 _ (Zd.mpr ⟨_,hr0 hi,rfl⟩);have h2:0<bM j (W.getD i []):=div_pos (uP hw) (uP (by have:=(hM _ (hr0 hi)).mx.1;omega));exact Xp hb (Rat.not_le.mp λz=>absurd h2 (Yq.mpr (Yv h1 z)))
  .obtain⟨sh,Bc,e⟩:=hq j (by rw[<- hF.len];exact hj);rw[e];obtain⟨r,hr,rfl⟩:=Zd.mp Bc.1;obtain⟨i,hi,e2⟩:=Ye hr;have er:W.getD i []=r:=by rw[ao (Zc hi)];exact e2
   have h0:=(hM r hr).at j;have:r.getD j 0=0:=by
    rcases Int.lt_or_le 0 (r.getD j 0) with y |y
    .rw[RZ.vz hi (by rw[er];exact y)] at hh;cases hh
    .omega
   have hz:bM j r=0:=by unfold bM;rw[this];show(0:Rat) / _=0;rw[Rat.div_def,Xr]
   rw[hz,Xg]
 refine⟨⟨⟨ok,hF.len,oo,λz hz=>(bd z hz).mono (by decide)⟩,bd⟩,λS hS=>?_⟩;refine uo hM hF za (by omega) rfl (λa ha=>(mf.am a ha).1) PL ?_;have:=hS.map Int.toNat;unfold aD at this;rw[Zm] at this;have e:(au A.length W).map (Int.toNat ∘ λj:Nat=>(j:Int))=au A.length W:=by
  have:(Int.toNat ∘ λj:Nat=>(j:Int))=id:=funext λj=>Z3 j
  rw[this,Y1]
 rw[e] at this;exact this
theorem Dk:∀qs:Δ1,PyData.canLayAll0 (qs.map qD)=true
 |[]=>rfl
 |q::qs=>by rw[Zi,PyData.canLayAll0,Dk qs];rfl
end MI
namespace KM
open PySem L2 KG EX
structure Alike (row:Γ3)(M:Γ1):Prop where
 nn:∀x∈row,0<=x
 rows:∀r∈M,∃k:Int,0<k/\r=row.map λx=>x*k
def dS (u:Rat)(row:Γ3)(qs:Δ1):Prop:=qs.length=row.length/\∀g,g<row.length->qs.getD g 0=u*((row.getD g 0:Int):Rat)
def aR (row:Γ3):List Nat:=(List.range row.length).filter λg=>decide (0<row.getD g 0)
def JK {row:Γ3}(h:∀x∈row,0<=x)(g:Nat):0<=row.getD g 0:=by
 by_cases hg:g<row.length
 .have:row.getD g 0∈row:=by simp only[List.getD,Zc hg,Xh];exact Zv hg
  exact h _ this
 .have:row.getD g 0=0:=by simp[List.getD,Ym (Y4 hg)]
  omega
def fg (row:Γ3)(k:Int)(g:Nat):(row.map λx=>x*k).getD g 0=row.getD g 0*k:=by
 by_cases hg:g<row.length
 .simp[List.getD,Zl,Zc hg]
 .simp[List.getD,Zl,Ym (Y4 hg)]
def DC {u:Rat}{row:Γ3}{qs:Δ1}{k:Int}(p:dS u row qs){g o:Nat}(hg:g<row.length)(ho:o<row.length):jT (row.map λx=>x*k) qs g o=false:=by
 unfold jT;rw[p.2 g hg,p.2 o ho,fg,fg];have e:((row.getD g 0*k:Int):Rat)*(u*((row.getD o 0:Int):Rat))=((row.getD o 0*k:Int):Rat)*(u*((row.getD g 0:Int):Rat)):=by
  rw[Xj,Xj];grind
 rw[e];simp[Rat.lt_irrefl]
def wL {u:Rat}{row:Γ3}{qs:Δ1}{k:Int}(hn:∀x∈row,0<=x)(hk:0<k)(p:dS u row qs):cx (row.map λx=>x*k) qs=aR row:=by
 unfold cx aR;rw[Zb];refine Y2 λg hg=>?_
 have hg':=Zq.mp hg;unfold mT;rw[Zb];have h2:((List.range row.length).all λo=>!jT (row.map λx=>x*k) qs g o)=true:=Ya.mpr λo ho=>by
  rw[DC p hg' (Zq.mp ho)];rfl
 rw[h2,Bool.and_true,fg,Yc,decide_eq_true_eq,decide_eq_true_eq];have h0:=JK hn g;constructor
 .intro h;rcases Int.lt_or_eq_of_le h0 with z |z
  .exact z
  .rw[<- z,Int.zero_mul] at h;exact absurd rfl h
 .intro h z;rcases Int.mul_eq_zero.mp z with z |z<;>omega
def ux {u:Rat}{row:Γ3}{qs:Δ1}{M:Γ1}(a:Alike row M)(p:dS u row qs):aw M qs=M.map λ_=>(aR row).map λg:Nat=>(g:Int):=by
 unfold aw;refine Yy λr hr=>?_
 obtain⟨k,hk,rfl⟩:=a.rows r hr;rw[wL a.nn hk p]
def Pz {row:Γ3}{M:Γ1}(a:Alike row M)(bo:M≠[]):au row.length M=aR row:=by
 unfold au aR;refine Y2 λg _=>?_
 unfold has;rw[Yc,Zw,decide_eq_true_eq];constructor
 .rintro⟨r,hr,h⟩;obtain⟨k,hk,rfl⟩:=a.rows r hr;rw[decide_eq_true_eq,fg] at h;have h0:=JK a.nn g;rcases Int.lt_or_eq_of_le h0 with z |z
  .exact z
  .rw[<- z,Int.zero_mul] at h;omega
 .intro h;cases M with
  |nil=>exact absurd rfl bo
  |cons r M =>
   obtain⟨k,hk,e⟩:=a.rows r Zg;refine⟨r,Zg,?_⟩;rw[e,decide_eq_true_eq,fg];exact Y7 h hk
def kr {u:Rat}{row:Γ3}{qs:Δ1}{M:Γ1}(a:Alike row M)(p:dS u row qs){S:List Nat}(hS:∀g∈S,g∈aR row)(bo:S≠[]):hV M qs S=List.range M.length:=by
 unfold hV;rw[X8];intro i hi;have hil:=Zq.mp hi;rw[ux a p];have e:(M.map λ_=>(aR row).map λg:Nat=>(g:Int)).getD i []=(aR row).map λg:Nat=>(g:Int):=by
  simp[List.getD,Zl,Zc hil]
 rw[e];unfold cD;cases S with
 |nil=>exact absurd rfl bo
 |cons g S =>
  refine Zw.mpr ⟨(g:Int),Zd.mpr ⟨g,hS g Zg,rfl⟩,Zw.mpr ⟨g,Zg,by simp⟩⟩
def be (row am:Γ3)(S:List Nat):Int:=(S.map λg=>row.getD g 0*am.getD g 0).sum
def cm {row:Γ3}{g:Nat}(h:g∈aR row):g<row.length/\0<row.getD g 0:=by
 unfold aR at h;obtain⟨h1,h2⟩:=Zo.mp h;exact⟨Zq.mp h1,by simpa using h2⟩
def An {am:Γ3}{qs:Δ1}{g:Nat}(h:g<qs.length):(gn am qs).getD g 0=qs.getD g 0*((am.getD g 0:Int):Rat):=by
 unfold gn;have:((List.range qs.length).map λg=>qs.getD g 0*((am.getD g 0:Int):Rat))[g]?=some (qs.getD g 0*((am.getD g 0:Int):Rat)):=by
  rw[Zl,Yn h];rfl
 rw[List.getD,this];rfl
theorem iL {u:Rat}{row am:Γ3}{qs:Δ1}(p:dS u row qs):∀{S:List Nat},(∀g∈S,g<row.length)->rD am qs S=u*((be row am S:Int):Rat)
 |[],_=>by
  show aH []=u*((0:Int):Rat);rw[show((0:Int):Rat)=0 from rfl,Xg];rfl
 |g::S,h=>by
  have ih:=iL (am:=am) p (S:=S) λx hx=>h x (Zh _ hx)
  have hg:=h g Zg;unfold rD be at ih ⊢;rw[Zi,Bn,ih,An (by rw[p.1];exact hg),p.2 g hg,Zi,Yr,Ql,Xj]
  grind
def lB {u:Rat}{row am:Γ3}{ps qs:Δ1}{M:Γ1}(a:Alike row M)(p:dS u row qs)(hp:ps.length=M.length){S:List Nat}(hS:∀g∈S,g∈aR row)(bo:S≠[]):aV am ps qs M S=u*((be row am S:Int):Rat)-aH ps:=by
 unfold aV;rw[iL p λg hg=>(cm (hS g hg)).1,kr a p hS bo]
 congr 1
 unfold fQ
 congr 1
 refine X7 λi=>?_
 rw[Zl];by_cases hi:i<ps.length
 .rw[Yn (by omega)];simp[List.getD,Zc hi]
 .rw[Ym (by simp;omega),Ym (Y4 hi)];rfl
theorem kU {row am:Γ3}(ha:∀g,g<row.length->0<am.getD g 0):∀{S:List Nat},(∀g∈S,g∈aR row)->(S.length:Int)<=be row am S
 |[],_=>by show(0:Int)<=0;omega
 |g::S,h=>by
  have ih:=kU ha (S:=S) λx hx=>h x (Zh _ hx)
  obtain⟨h1,h2⟩:=cm (h g Zg);have h3:=ha g h1;have h4:0<row.getD g 0*am.getD g 0:=Y7 h2 h3;unfold be at ih ⊢;rw[Zi,Yr,Xo];omega
def kT {row am:Γ3}(ha:∀g,g<row.length->0<am.getD g 0){S T:List Nat}(h:S.Sublist T):(∀g∈T,g∈aR row)->be row am S<=be row am T/\(be row am S=be row am T->S=T):=by
 induction h with
 |slnil=>intro _;exact⟨Yw _,λ_=>rfl⟩
 |@cons S T g hs ih =>
  intro hT;obtain⟨i1,i2⟩:=ih λx hx=>hT x (Zh _ hx)
  obtain⟨h1,h2⟩:=cm (hT g Zg);have h4:0<row.getD g 0*am.getD g 0:=Y7 h2 (ha g h1);have e:be row am (g::T)=row.getD g 0*am.getD g 0+be row am T:=by unfold be;rw[Zi,Yr]
  exact⟨by omega,λz=>by omega⟩
 |@cons_cons S T g hs ih =>
  intro hT;obtain⟨i1,i2⟩:=ih λx hx=>hT x (Zh _ hx)
  have e:be row am (g::T)=row.getD g 0*am.getD g 0+be row am T:=by unfold be;rw[Zi,Yr]
  have e':be row am (g::S)=row.getD g 0*am.getD g 0+be row am S:=by unfold be;rw[Zi,Yr]
  exact⟨by omega,λz=>by rw[i2 (by omega)]⟩
section
variable {u:Rat}{row am:Γ3}{ps qs:Δ1}{M:Γ1}{c:Int}{rows:List (Int×Γ3)}
def sX (a:Alike row M)(bo:M≠[]){S:Γ3}(h:S.Sublist (aD row.length M)):(aN S).Sublist (aR row):=by
 have:=gi h;rw[Pz a bo] at this;exact this
end
theorem pk {k:Int}(hk:0<k):∀(row:Γ3) (a:Int),(row.map λx=>x*k).foldl mI (a*k)=row.foldl mI a*k
 |[],a=>rfl
 |x::row,a=>by
  rw[Zi,Y9,Y9];have e:mI (a*k) (x*k)=mI a x*k:=by
   unfold mI;have:(a*k<x*k)↔a<x:=Int.mul_lt_mul_right hk;by_cases h:a<x
   .rw[if_pos h,if_pos (this.mpr h)]
   .rw[if_neg h,if_neg (λz=>h (this.mp z))]
  rw[e];exact pk hk row _
def wc {k:Int}(hk:0<k)(row:Γ3):c8 (row.map λx=>x*k)=c8 row*k:=by
 have:=pk hk row 0;rw[Int.zero_mul] at this;exact this
def t8 {k:Int}(hk:0<k){row:Γ3}(hm:0<c8 row)(g:Nat):bM g (row.map λx=>x*k)=bM g row:=by
 unfold bM;rw[wc hk,fg,Xj,Xj];have h1:=uP hk;have h2:=uP hm;have h3:((k:Int):Rat)≠0:=λz=>by rw[z] at h1;exact absurd h1 (by decide)
 have h4:((c8 row:Int):Rat)≠0:=λz=>by rw[z] at h2;exact absurd h2 (by decide)
 grind
section
variable {row am:Γ3}{ps qs:Δ1}{M:Γ1}
def wD (a:Alike row M)(bo:M≠[])(hm:0<c8 row)(F:iw am ps M row.length qs):∃mn,jr ps mn/\dS (mn / ((de am (aR row):Int):Rat) / ((c8 row:Int):Rat)) row qs:=by
 obtain⟨mn,h1,h2⟩:=F.ex;refine⟨mn,h1,F.len,λg hg=>?_⟩;obtain⟨sh,hs,e⟩:=h2 g hg;have es:sh=bM g row:=by
  obtain⟨r,hr,e⟩:=Zd.mp hs.1;obtain⟨k,hk,rfl⟩:=a.rows r hr;rw[<- e,t8 hk hm]
 rw[e,es,Pz a bo];unfold bM
 grind
theorem sQ {row am:Γ3}(ha:∀g,g<row.length->0<am.getD g 0):∀{S:List Nat},(∀g∈S,g∈aR row)->be row am S<=c8 row*de am S
 |[],_=>by show(0:Int)<=c8 row*0;omega
 |g::S,h=>by
  have ih:=sQ ha (S:=S) λx hx=>h x (Zh _ hx)
  obtain⟨h1,h2⟩:=cm (h g Zg);have h3:=ha g h1;have h4:row.getD g 0<=c8 row:=(gd row 0).2.1 _ (by simp only[List.getD,Zc h1,Xh];exact Zv h1);have h5:row.getD g 0*am.getD g 0<=c8 row*am.getD g 0:=Int.mul_le_mul_of_nonneg_right h4 (by omega);unfold be de at ih ⊢;rw[Zi,Yr,Zi,Yr,Int.mul_add];omega
def EF (ha:∀g,g<row.length->0<am.getD g 0)(hm:0<c8 row)(hp:0<de am (aR row)){mn:Rat}(h0:0<mn) :
  0<mn / ((de am (aR row):Int):Rat) / ((c8 row:Int):Rat)/\mn / ((de am (aR row):Int):Rat) / ((c8 row:Int):Rat)*((be row am (aR row):Int):Rat)<=mn:=by
 have h1:=uP hm;have h2:=uP hp;have h3:=sQ ha (S:=aR row) λg hg=>hg
 generalize hu:mn / ((de am (aR row):Int):Rat) / ((c8 row:Int):Rat)=u;have e:u*((c8 row*de am (aR row):Int):Rat)=mn:=by
  rw[<- hu,Xj];have h3:((de am (aR row):Int):Rat)≠0:=λz=>by rw[z] at h2;exact absurd h2 (by decide)
  have h4:((c8 row:Int):Rat)≠0:=λz=>by rw[z] at h1;exact absurd h1 (by decide)
  grind
 have Uq:0<u:=by
  rcases Classical.em (0<u) with z |z
  .exact z
  .exfalso;have hz:u<=0:=Yq.mp z;have dz:(0:Rat)<=((c8 row*de am (aR row):Int):Rat):=ma (Int.le_of_lt (Y7 hm hp));have:=Q5 hz dz;rw[e,Xr] at this;exact absurd h0 (Yq.mpr this)
 refine⟨Uq,?_⟩;have:=Xi (Qm.mpr h3) (Yb Uq);rw[e] at this;exact this
end
section
variable {u:Rat}{row am:Γ3}{ps qs:Δ1}
def div_le_div {e a b:Rat}(he:0<=e)(ha:0<a)(Jh:a<=b):e / b<=e / a:=by
 have hb:0<b:=by grind
 refine Yq.mp λz=>?_
 have h1:=(Qw ha).mpr z;rw[Oq ha] at h1;have h2:e / b*a<=e / b*b:=Xi Jh (Ds he hb);rw[Oq hb] at h2;exact absurd h1 (Yq.mpr h2)
def Ad (hu:0<u)(ha:∀g,g<row.length->0<am.getD g 0){e:Rat}(he:0<=e){S:List Nat}(hS:S.Sublist (aR row))(bo:S≠[]) :
  e / (u*((be row am (aR row):Int):Rat))<=e / (u*((be row am S:Int):Rat)):=by
 have h1:0<be row am S:=by
  have:=kU ha (S:=S) λg hg=>hS.subset hg
  have:0<S.length:=Xd.mpr bo;omega
 have h2:=(kT ha hS λg hg=>hg).1;refine div_le_div he (Xp hu (uP h1)) ?_;exact Xi (Qm.mpr h2) (Yb hu)
def ud (p:dS u row qs){f:Rat}{zs:Δ1}(hl:zs.length=qs.length)(hz:∀g,g<qs.length->zs.getD g 0=qs.getD g 0*f):dS (u*f) row zs :=
 ⟨by rw[hl,p.1],λg hg=>by rw[hz g (by rw[p.1];exact hg),p.2 g hg];grind⟩
def vR {W e:Rat}(hu:0<u)(hW:0<W):u*(e / (u*W))*W=e:=by
 have h1:u≠0:=λz=>by rw[z] at hu;exact absurd hu (by decide)
 have h2:W≠0:=λz=>by rw[z] at hW;exact absurd hW (by decide)
 grind
end
end KM
namespace MI
open PySem L2 KG EX KM RZ SP
structure bT (A:Γ3)(Pu:Δ1)(row aC:Γ3):Prop where
 g1:1<=A.length
 g6:A.length<=6
 am:∀a∈A,1<=a/\a<=60
 n1:1<=Pu.length
 n6:Pu.length<=6
 pu:∀z∈Pu,uM (qD z)=true
 rl:row.length=A.length
 r0:∀x∈row,0<=x/\x<=10
 rp:∃x∈row,1<=x
 nl:aC.length=Pu.length
 nn:∀k∈aC,1<=k/\k<=10
def bw (row aC:Γ3):Γ1:=aC.map λk=>row.map λx=>x*k
section
variable {A row aC:Γ3}{Pu qs:Δ1}
def bT.wish (a:bT A Pu row aC):∀r∈bw row aC,bB A.length r:=λr hr=>by
 obtain⟨k,hk,rfl⟩:=Zd.mp hr;have hk:=a.nn k hk;refine⟨by rw[Zb];exact a.rl,λy hy=>?_,?_⟩
 .obtain⟨x,hx,rfl⟩:=Zd.mp hy;have hx:=a.r0 x hx;refine⟨Int.mul_nonneg hx.1 (by omega),?_⟩;have:x*k<=10*10:=Int.mul_le_mul hx.2 hk.2 (by omega) (by omega);omega
 .obtain⟨x,hx,x1⟩:=a.rp;refine⟨x*k,Zd.mpr ⟨x,hx,rfl⟩,?_⟩;have:1*1<=x*k:=Int.mul_le_mul x1 hk.1 (by omega) (by omega);omega
def bT.gA (a:bT A Pu row aC):gA (g9 A Pu (bw row aC))=true:=by
 have wr:=a.wish;refine ID (by rw[Zb];exact a.g1) (by rw[Zb];exact a.g6) ?_ (by rw[Zb];exact a.n1) (by rw[Zb];exact a.n6) ?_ (by rw[Zb,Zb];unfold bw;rw[Zb];exact a.nl) ?_
 .rw[Xf];refine Ya.mpr λx hx=>?_
  have:=a.am x hx;show(decide (1<=x)&&decide (x<=60))=true;rw[decide_eq_true this.1,decide_eq_true this.2];rfl
 .rw[Xf];exact Ya.mpr λz hz=>a.pu z hz
 .rw[Xf];refine Ya.mpr λr hr=>?_
  have g:=wr r hr;show(decide ((r.map PyData.int).length=(A.map PyData.int).length)&&(r.map PyData.int).all (within 0 100))=true;rw[Zb,Zb,decide_eq_true g.len,Xq,Xf];refine Ya.mpr λx hx=>?_
  have:=g.bd x hx;show(decide (0<=x)&&decide (x<=100))=true;rw[decide_eq_true this.1,decide_eq_true this.2];rfl
def bT.alike (a:bT A Pu row aC):Alike row (bw row aC):=⟨λx hx=>(a.r0 x hx).1,λr hr=>by
 obtain⟨k,hk,rfl⟩:=Zd.mp hr;exact⟨k,by have:=a.nn k hk;omega,rfl⟩⟩
def bT.ne (a:bT A Pu row aC):bw row aC≠[]:=λz=>by
 have h1:=congrArg List.length z;unfold bw at h1;rw[Zb,a.nl,List.length_nil] at h1;have:=a.n1;omega
def bT.wl (a:bT A Pu row aC):(bw row aC).length=Pu.length:=by unfold bw;rw[Zb];exact a.nl
def bT.ON (a:bT A Pu row aC):∀g,g<row.length->0<A.getD g 0:=λg hg=>by
 have:=a.am _ (i9 (d:=0) (show g<A.length by rw[<- a.rl];exact hg));omega
def c7 (A row:Γ3):Int:=be row A (aR row)
def bT.w0 (a:bT A Pu row aC):0<c7 A row/\aR row≠[]:=by
 obtain⟨x,hx,x1⟩:=a.rp;obtain⟨g,hg,e⟩:=Ye hx;have hm:g∈aR row:=by
  unfold aR;refine Zo.mpr ⟨Zq.mpr hg,decide_eq_true ?_⟩;rw[KM.ao (Zc hg),e];omega
 have h1:=kU (row:=row) (am:=A) a.ON (S:=aR row) λg hg=>hg
 have h2:0<(aR row).length:=List.length_pos_of_mem hm;exact⟨by unfold c7;omega,λz=>by rw[z] at hm;cases hm⟩
def bT.pos (a:bT A Pu row aC):∀z∈Pu,0<z/\Rb 20 z:=λz hz=>x9 (a.pu z hz)
def bT.ev (a:bT A Pu row aC):0<aH Pu:=DG (λz=>by have:=a.n1;rw[z] at this;simp at this) λq hq=>(a.pos q hq).1
def bT.oo (a:bT A Pu row aC){u:Rat}(hu:0<u)(p:dS u row qs):Fp (bw row aC) qs:=by
 have key:∀j,j<row.length->(has (bw row aC) j=true↔0<row.getD j 0):=λj hj=>by
  have:=Pz a.alike a.ne;constructor
  .intro h;have hm:j∈au row.length (bw row aC):=by unfold au;exact Zo.mpr ⟨Zq.mpr hj,h⟩
   rw[this] at hm;exact(KM.cm hm).2
  .intro h;have hm:j∈aR row:=by unfold aR;exact Zo.mpr ⟨Zq.mpr hj,decide_eq_true h⟩
   rw[<- this] at hm;exact(Zo.mp hm).2
 refine⟨λj hj hh=>?_,λj hj hh=>?_⟩
 .rw[p.1] at hj;rw[p.2 j hj];exact Xp hu (Yx.mpr ((key j hj).mp hh))
 .rw[p.1] at hj;rw[p.2 j hj];have h1:=(a.r0 _ (i9 (d:=0) hj)).1;have h2:¬ 0<row.getD j 0:=λz=>by rw[(key j hj).mpr z] at hh;cases hh
  have:row.getD j 0=0:=by omega
  rw[this];show u*0=0;rw[Xg]
def bT.above (a:bT A Pu row aC){u:Rat}(p:dS u row qs){S:Γ3}(hS:S.Sublist (aD A.length (bw row aC)))(bo:S≠[]) :
  aV A Pu qs (bw row aC) (aN S)=u*((be row A (aN S):Int):Rat)-aH Pu/\(aN S).Sublist (aR row)/\aN S≠[]:=by
 rw[<- a.rl] at hS;have hs:=sX a.alike a.ne hS;have hn:aN S≠[]:=λz=>bo (by unfold aN at z;exact Xy.mp z)
 exact⟨lB a.alike p a.wl.symm (λg hg=>hs.subset hg) hn,hs,hn⟩
def bT.ye (a:bT A Pu row aC){u:Rat}(hu:0<u)(p:dS u row qs)(Bs:u*((c7 A row:Int):Rat)<=aH Pu):EZ A Pu qs (bw row aC) A.length:=λS hS=>by
 by_cases bo:S=[]
 .subst bo;show aV _ _ _ _ []<=0;rw[lh];exact Yk
 .obtain⟨e,hs,_⟩:=a.above p hS bo;rw[e];have h1:=(kT a.ON hs λg hg=>hg).1;have h2:u*((be row A (aN S):Int):Rat)<=u*((c7 A row:Int):Rat):=Xi (Qm.mpr h1) (Yb hu)
  grind
def bT.yg (a:bT A Pu row aC){u:Rat}(p:dS u row qs)(he:u*((c7 A row:Int):Rat)=aH Pu):gZ A Pu qs (bw row aC) A.length (aD A.length (bw row aC))/\aV A Pu qs (bw row aC) (au A.length (bw row aC))=0:=by
 have z:aV A Pu qs (bw row aC) (au A.length (bw row aC))=0:=by
  have e:au A.length (bw row aC)=aR row:=by rw[<- a.rl];exact Pz a.alike a.ne
  rw[e,lB a.alike p a.wl.symm (λg hg=>hg) a.w0.2];have he:u*((be row A (aR row):Int):Rat)=aH Pu:=he
  grind
 exact⟨⟨List.Sublist.refl _,by rw[jJ];exact z,λT hT _ x hx=>hT.subset hx⟩,z⟩
def DM (n:Nat)(W:Γ1):bC n W (aD n W)=[]:=by
 unfold bC;rw[Qd];intro x hx;simp[hx]
def bT.JB (a:bT A Pu row aC){u:Rat}(hu:0<u)(p:dS u row qs)(ub:Rb 139 u):gY A Pu (bw row aC) qs/\∀z∈qs,Rb 143 z:=by
 have b:∀z∈qs,Rb 143 z:=λz hz=>by
  obtain⟨j,hj,rfl⟩:=Ye hz;have kB:j<row.length:=by rw[<- p.1];exact hj
  have:=p.2 j kB;rw[KM.ao (Zc hj)] at this;rw[this];have h1:=a.r0 _ (i9 (d:=0) kB);exact kN ub (yZ (k:=4) (by unfold Bd;omega) (by decide))
 exact⟨⟨⟨a.gA,by rw[p.1,a.rl],a.oo hu p,λz hz=>(b z hz).mono (by decide)⟩,λz hz=>(b z hz).mono (by decide)⟩,b⟩
def bT.QU (a:bT A Pu row aC):c7 A row<=3600:=by
 have key:∀S:List Nat,(∀g∈S,g<row.length)->be row A S<=600*(S.length:Int):=by
  intro S;induction S with
  |nil=>intro _;exact Yw _
  |cons g S ih =>
   intro h;have h1:=ih λx hx=>h x (Zh _ hx)
   have hg:=h g Zg;have h2:=a.r0 _ (i9 (d:=0) hg);have h3:=a.am _ (i9 (d:=0) (show g<A.length by rw[<- a.rl];exact hg));have h4:row.getD g 0*A.getD g 0<=10*60:=Int.mul_le_mul h2.2 h3.2 (by omega) (by omega);unfold be at h1 ⊢;rw[Zi,Yr,Xo];omega
 have h1:=key (aR row) λg hg=>(KM.cm hg).1
 have h2:(aR row).length<=6:=by
  unfold aR;refine Zr (Y8 _ _) ?_;rw[Y3,a.rl];exact a.g6
 unfold c7;omega
def ca (A row:Γ3)(Pu:Δ1):Rat:=aH Pu / ((c7 A row:Int):Rat)
def bT.unit (a:bT A Pu row aC):0<ca A row Pu/\ca A row Pu*((c7 A row:Int):Rat)=aH Pu/\Rb 139 (ca A row Pu):=by
 have h1:=a.ev;have h2:(0:Rat)<((c7 A row:Int):Rat):=Yx.mpr a.w0.1;refine⟨?_,Oq h2,?_⟩
 .unfold ca;rw[Rat.div_def];exact Xp h1 (Rat.inv_pos.mpr h2)
 .unfold ca;have e:=sW (k:=20) (n:=6) (λq hq=>(a.pos q hq).2) a.n6;have hw:=a.QU;have h0:=a.w0.1;exact fo (j:=127) (k:=12) e (yZ (by unfold Bd;omega) (by decide)) (λz=>by rw[z] at h2;exact absurd h2 (by decide))
def lD (A row:Γ3)(Pu:Δ1):Δ1:=row.map λx=>ca A row Pu*((x:Int):Rat)
def ke (A row:Γ3)(Pu:Δ1):dS (ca A row Pu) row (lD A row Pu):=⟨by unfold lD;rw[Zb],λg hg=>by unfold lD;exact jw hg⟩
def yc {u:Rat}(p:dS u row qs)(e:u=ca A row Pu):qs=lD A row Pu:=by
 subst e;refine List.ext_getElem (by rw[p.1];unfold lD;rw[Zb]) λg h1 h2=>?_
 have h3:=p.2 g (by rw[<- p.1];exact h1);have h4:=(ke A row Pu).2 g (by rw[<- p.1];exact h1);rw[KM.ao (Zc h1)] at h3;rw[KM.ao (Zc h2)] at h4;rw[h3,h4]
def bT.stop (a:bT A Pu row aC):eZ A Pu (bw row aC) (lD A row Pu) []:=by
 obtain⟨u0,ue,ub⟩:=a.unit;have p:=ke A row Pu;refine .stop (a.JB u0 p ub).1 (a.ye u0 p (by rw[ue];exact Yk)) λPd pd=>?_
 rw[pd.uniq (a.yg p ue).1];exact DM _ _
theorem tI (W:Γ1)(qs:Δ1):∀n,gU W qs [] n=[]
 |0=>rfl
 |n+1=>by
  rw[i0,tI W qs n];split<;>rfl
def vL (W:Γ1)(qs:Δ1):hV W qs (aN [])=[]:=by
 unfold hV;rw[Qd];intro i _;show ¬ cD [] _=true;unfold cD;simp
def Ap (W:Γ1)(qs:Δ1)(S:Γ3):loose W qs [] S=hV W qs (aN S):=by
 unfold loose;rw[vL];exact X8.mpr λ_ _=>rfl
def bT.oq (a:bT A Pu row aC){u:Rat}(p:dS u row qs){S:Γ3}(hS:S.Sublist (aD A.length (bw row aC)))(bo:S≠[]) :
  sj A Pu qs (bw row aC) [] S=aH Pu / (u*((be row A (aN S):Int):Rat)):=by
 rw[<- a.rl] at hS;have hs:=sX a.alike a.ne hS;have hn:aN S≠[]:=λz=>bo (by unfold aN at z;exact Xy.mp z)
 unfold sj;rw[Ap,kr a.alike p (λg hg=>hs.subset hg) hn,iL p λg hg=>(KM.cm (hs.subset hg)).1]
 congr 1
 unfold fQ
 congr 1
 rw[a.wl];exact Ba (λz:Rat=>z) Pu 0 |>.trans (Y1 _)
def bT.steps (a:bT A Pu row aC){fs:Δ1}(hF:iw A Pu (bw row aC) A.length fs):∃L,eZ A Pu (bw row aC) fs L/\L.length<=1000000/\iq fs L=lD A row Pu:=by
 have good:=a.wish;have dz:∀r∈bw row aC,∃k∈r,1<=k:=λr hr=>(good r hr).pos
 obtain⟨rp,oq⟩:=wC a.gA dz hF;have mx:0<c8 row:=by
  obtain⟨x,hx,x1⟩:=a.rp;have:=(gd row 0).2.1 x hx;show 0<row.foldl mI 0;omega
 obtain⟨mn,hm,p⟩:=wD a.alike a.ne mx (by rw[a.rl];exact hF);have pc0:0<de A (aR row):=by
  have key:∀S:List Nat,(∀g∈S,g<row.length)->(S.length:Int)<=de A S:=by
   intro S;induction S with
   |nil=>intro _;exact Yw _
   |cons g S ih =>
    intro h;have h1:=ih λx hx=>h x (Zh _ hx)
    have h2:=a.ON g (h g Zg);unfold de at h1 ⊢;rw[Zi,Yr,Xo];omega
  have h1:=key (aR row) λg hg=>(KM.cm hg).1
  have h2:0<(aR row).length:=Xd.mpr a.w0.2;omega
 have mn0:0<mn:=(a.pos mn hm.1).1;obtain⟨u0,ul⟩:=EF a.ON mx pc0 mn0;generalize mn / ((de A (aR row):Int):Rat) / ((c8 row:Int):Rat)=u at p u0 ul;have mle:mn<=aH Pu:=by
  obtain⟨i,hi,e⟩:=Ye hm.1;have:wsum (List.range Pu.length) (λi=>Pu.getD i 0) (λj=>decide (j=i))<=wsum (List.range Pu.length) (λi=>Pu.getD i 0) (λ_=>true):=qF (λj hj=>Yb (a.pos _ (i9 (Zq.mp hj))).1) λ_ _ _=>rfl
  have e1:wsum (List.range Pu.length) (λi=>Pu.getD i 0) (λ_=>true)=aH Pu:=by
   unfold wsum;rw[X8.mpr λ_ _=>rfl]
   congr 1
   exact(Ba (λz:Rat=>z) Pu 0).trans (Y1 _)
  have e2:wsum (List.range Pu.length) (λi=>Pu.getD i 0) (λj=>decide (j=i))=mn:=by
   have key:∀n,wsum (List.range n) (λi=>Pu.getD i 0) (λj=>decide (j=i))=if i<n then Pu.getD i 0 else 0:=by
    intro n;induction n with
    |zero=>simp;rfl
    |succ n ih =>
     rw[Y6,oS,ih];by_cases e:n=i
     .subst e;simp[Yt]
     .have:(i<n+1)↔i<n:=by omega
      simp[e,this,Xx]
   rw[key,if_pos hi,KM.ao (Zc hi),e]
  rw[e1,e2] at this;exact this
 have Bs:u*((c7 A row:Int):Rat)<=aH Pu:=Yv ul mle;have w0:=a.w0.1;have wq:(0:Rat)<((c7 A row:Int):Rat):=Yx.mpr w0;have wn:((c7 A row:Int):Rat)≠0:=λz=>by rw[z] at wq;exact absurd wq (by decide)
 by_cases he:u*((c7 A row:Int):Rat)=aH Pu
 .have eu:u=ca A row Pu:=by unfold ca;rw[<- he];grind
  have ef:=yc (A:=A) (Pu:=Pu) p eu;refine⟨[],?_,by simp,by unfold iq;exact ef⟩;rw[ef];exact a.stop
 .have cg:u*((c7 A row:Int):Rat)<aH Pu:=by grind
  have kG:bC A.length (bw row aC) []=aD A.length (bw row aC):=by
   unfold bC;exact X8.mpr λ_ _=>rfl
  have eW:au A.length (bw row aC)=aR row:=by rw[<- a.rl];exact Pz a.alike a.ne
  have OS:aD A.length (bw row aC)≠[]:=λz=>a.w0.2 (by
   unfold aD at z;rw[<- eW];exact Xy.mp z)
  have pd:gZ A Pu fs (bw row aC) A.length []:=⟨List.nil_sublist _,lh,λT hT h0 x hx=>by
   exfalso;obtain⟨e,hs,_⟩:=a.above p hT (λz=>by subst z;cases hx);rw[e] at h0;have h1:=(kT a.ON hs λg hg=>hg).1;have h2:u*((be row A (aN T):Int):Rat)<=u*((c7 A row:Int):Rat):=Xi (Qm.mpr h1) (Yb u0)
   grind⟩
  have nW:aN (aD A.length (bw row aC))=aR row:=by rw[jJ,eW]
  have ev:=a.ev;have Gy:jr (gW A Pu fs (bw row aC) A.length []) (aH Pu / (u*((c7 A row:Int):Rat))):=by
   have ef:gW A Pu fs (bw row aC) A.length []=((aO (aD A.length (bw row aC))).drop 1).map (sj A Pu fs (bw row aC) []):=by
    unfold gW;rw[tI,Yg,kG]
   rw[ef];have nd:=Op A.length (bw row aC);refine⟨Zd.mpr ⟨aD A.length (bw row aC),?_,?_⟩,λz hz=>?_⟩
   .rw[<- qM nd];refine Zo.mpr ⟨cK.mpr (List.Sublist.refl _),?_⟩;cases hw:aD A.length (bw row aC) with
    |nil=>exact absurd hw OS
    |cons _ _=>rfl
   .rw[a.oq p (List.Sublist.refl _) OS,nW];rfl
   .obtain⟨S,hS,rfl⟩:=Zd.mp hz;rw[<- qM nd] at hS;obtain⟨h1,h2⟩:=Zo.mp hS;have hs:=cK.mp h1;have bo:S≠[]:=λz=>by subst z;cases h2
    rw[a.oq p hs bo];obtain⟨_,Us,KH⟩:=a.above p hs bo;exact Ad u0 a.ON (Yb ev) Us KH
  have pr:dS (u*(aH Pu / (u*((c7 A row:Int):Rat)))) row (E2 fs [] (aH Pu / (u*((c7 A row:Int):Rat)))):=by
   refine ud p (by unfold E2;simp) λg hg=>?_
   unfold E2;rw[jw (a:=0) (by rw[Y3];exact hg),show(List.range fs.length).getD g 0=g by simp[List.getD,Yn hg]];rfl
  have eu:u*(aH Pu / (u*((c7 A row:Int):Rat)))=ca A row Pu:=by
   have:=vR (W:=((c7 A row:Int):Rat)) (e:=aH Pu) u0 wq;unfold ca;rw[<- this];have un:u≠0:=λz=>by rw[z] at u0;exact absurd u0 (by decide)
   grind
  have ef:=yc (A:=A) (Pu:=Pu) pr eu;refine⟨_,.step rp oq pd (by rw[kG];exact OS) Gy (by rw[ef];exact a.stop),by simp,?_⟩;unfold iq;exact ef
def bT.mf (a:bT A Pu row aC):Jo A Pu (bw row aC):=A8 a.gA
def bT.clear (a:bT A Pu row aC):MB A Pu (bw row aC) 143:=⟨a.gA,a.wish,λfs hF=>by
 obtain⟨L,st,hL,e⟩:=a.steps hF;refine⟨L,st,hL,?_⟩;rw[e];obtain⟨u0,ue,ub⟩:=a.unit;have p:=ke A row Pu;obtain⟨rp,b⟩:=a.JB u0 p ub;refine⟨rp.pr,by decide,by decide,b,λc ms ps hc im ip=>?_⟩;exact S0 a.mf rp.pr.oo rp.pr.len a.wish (a.ye u0 p (by rw[ue];exact Yk)) (a.yg p ue).2 hc im ip⟩
def bT.worths (a:bT A Pu row aC){c:Int}{ms ps:Γ3}{M:Γ1}(d:np A Pu (bw row aC) (lD A row Pu) 143 c ms ps M) :
  (∀i,i<(bw row aC).length->zz ((bw row aC).getD i []) ((di A ms M).getD i []))/\jX (bw row aC) (di A ms M)=(List.range Pu.length).map λi=>Pu.getD i 0 / ca A row Pu*((aC.getD i 0:Int):Rat):=by
 obtain⟨u0,ue,ub⟩:=a.unit;have p:=ke A row Pu;have wl:=a.wl;have un:ca A row Pu≠0:=λz=>by rw[z] at u0;exact absurd u0 (by decide)
 have one:∀i,i<Pu.length->zz ((bw row aC).getD i []) ((di A ms M).getD i [])/\aH (gT ((bw row aC).getD i []) ((di A ms M).getD i []))=Pu.getD i 0*(((aC.getD i 0:Int):Rat) / ca A row Pu):=λi hi=>by
  have Uw:i<aC.length:=by rw[a.nl];exact hi
  have hn:=a.nn _ (i9 (d:=0) Uw);have er:(bw row aC).getD i []=row.map λx=>x*aC.getD i 0:=by unfold bw;exact jw Uw
  refine zF a.mf (by unfold lD;rw[Zb];exact a.rl) d (by decide) hi ?_ λj hj hb=>?_
  .exact(fo (j:=4) (k:=139) (yZ (by unfold Bd;omega) (by decide)) ub un).mono (by decide)
  .obtain⟨_,h2,_⟩:=tW (show i<(bw row aC).length by omega) hb;rw[Z3] at h2;have h3:=(nH a.mf (show i<(bw row aC).length by omega) h2);have hjr:j<row.length:=by rw[a.rl];exact hj
   refine⟨(a.oo u0 p).pos j (by unfold lD;rw[Zb];exact hjr) h3.2.1,?_⟩;rw[er,fg,p.2 j hjr,Xj]
   grind
 refine⟨λi hi=>(one i (by omega)).1,?_⟩;unfold jX;rw[wl];refine Yy λi hi=>?_
 rw[(one i (Zq.mp hi)).2]
 grind
end
section
variable {K:Θ1}
def NN:rG K B2 Si:=λw O H vs xs P PX Q E r a hf q x=>by
 obtain⟨a1,b1,rfl,h0,hf⟩:=hf;obtain⟨v,v2,rfl,h1,h3⟩:=ve a;obtain⟨p1,rfl,g1⟩:=OI h1;obtain⟨p2,rfl,g2⟩:=OI h3;refine⟨p1,p2,a1,b1,rfl,g1,g2,h0.1,h0.2.1,h0.2.2,λp hp=>?_⟩;obtain⟨r1,e1,t1⟩:=JQ r hp;exact q _ _ O w _ hf e1 r1 t1
def Sg:FM:=λO xs P _=>∃j,xs=[.bag j]/\∀z:Rat,uM (qD z)=true->P (.im (qD z)) O
def NL:rG K Lj Sg:=λw O H vs xs P PX Q E r a hf q x=>by
 obtain⟨j,rfl,hf⟩:=hf;obtain⟨v,us,rfl,h1,h2⟩:=a.aP;rw[h2.bX];obtain⟨b,hb,rfl⟩:=h1;have bu:=Zz hb;refine⟨b,rfl,r.bg b bu,λv d H' hB hK t m=>?_⟩;obtain⟨r1,e1,_⟩:=r.draw bu hK hB;obtain⟨z,rfl,_,_⟩:=lS m;exact q _ _ O w H' (hf z m) e1 r1 (U7 r1 t rfl)
end
def CP (c:Bool){r:Int}(h0:0<=r)(h1:r<6):∃g:Nat,1<=g/\g<=6/\gv [PyData.int (1+r),.int 1] (if c=true then 1 else 0)=some (.int (g:Int)):=by
 cases c with
 |false =>
  refine⟨(1+r).toNat,by omega,by omega,?_⟩;show some (PyData.int (1+r))=_;rw[Xe (by omega)]
 |true=>exact⟨1,by omega,by omega,rfl⟩
theorem sU (f:Nat->Int)(p:Nat->Bool):∀{L:List Nat},(∀x∈L,p x=false->f x=0)->(L.map f).sum=((L.filter p).map f).sum
 |[],_=>rfl
 |x::L,h=>by
  have ih:=sU f p (L:=L) λy hy=>h y (Zh _ hy)
  rw[Zi,Yr,ih];cases hp:p x with
  |true=>rw[Qh hp,Zi,Yr]
  |false=>rw[X5 (by rw[hp];decide),h x Zg hp,Int.zero_add]
def GV {A row:Γ3}(h:∀x∈row,0<=x):((List.range row.length).map λj=>row.getD j 0*A.getD j 0).sum=c7 A row:=by
 unfold c7 be aR;refine sU _ _ λj hj hp=>?_
 have hj:=Zq.mp hj;have h0:=h _ (i9 (d:=0) hj);have:¬ 0<row.getD j 0:=of_decide_eq_false hp;have:row.getD j 0=0:=by omega
 rw[this,Int.zero_mul]
def Ed {w:Int}(h:0<w):PyData.tuple [.int 1,.int w]=qD (Rat.divInt 1 w):=by
 obtain⟨e1,e2⟩:=m5 (T:=1) (U:=w) (by omega);unfold qD;have h1:(Rat.divInt 1 w).num=1:=by
  rw[Rat.num_divInt];have:Int.sign w=1:=Int.sign_eq_one_of_pos h;rw[this,Int.gcd_one_right];rfl
 have h2:((Rat.divInt 1 w).den:Int)=w:=by
  rw[Rat.den_divInt,if_neg (by omega),Int.gcd_one_right];omega
 rw[h1,h2]
def NR (qs:Δ1):(PyData.tuple (qs.map qD)).canLay0=true:=by rw[PyData.canLay0];exact Dk qs
def xU (qs:Δ1):OL (.tuple (qs.map qD)) (.tuple (qs.map qD))=true:=by rw[vC,SeqAt.eqv_refl _ (NR qs)]
def yL {qs zs:Δ1}:min (PyData.tuple (qs.map qD)).depth (PyData.tuple (zs.map qD)).depth<=60:=Zr (Nat.min_le_left _ _) (Zr (N6 qs) (by decide))
abbrev fJ:Δ2:=["script","k","bag","way","goods","buyers","amounts","purses","row","numbers","market","worth","every","unit","due"]
def Dc:MS:=(bv (oz (oy (af (bL jB (jj (Cg λi j=>if j<i then j else i) (af (jj Ce (af (ah 0) ar)) (af (mC (.int 40)) ar))) (mC (.int 2))) ar)) (bi 1) (bv (bE (aE LS cH (af (ah 0) (af (ah 1) ar))) (bi 2))
 (bv (bE (aE jq cH (af (ah 2) (af (mC (.int 3)) ar))) (bi 3))
 (bv (bE (bL cZ (u5 (af (bL jB (mC (.int 1)) (aE jq cH (af (ah 2) (af (mC (.int 6)) ar)))) (af (mC (.int 1)) ar))) (jj Gu (af (bL (FH false) (ah 3) (mC (.int 1))) ar))) (bi 4))
 (bv (bE (bL cZ (u5 (af (bL jB (mC (.int 1)) (aE jq cH (af (ah 2) (af (mC (.int 6)) ar)))) (af (mC (.int 1)) ar))) (jj Gu (af (bL (FH false) (ah 3) (mC (.int 0))) ar))) (bi 5))
 (bv (bE (jj jg (af (bY 1 [2] (oy (af (ah 4) ar)) (bi 0) cQ (bL jB (mC (.int 1)) (aE jq cH (af (ah 1) (af (mC (.int 60)) ar))))) ar)) (bi 6))
 (bv (bE (jj jg (af (bY 1 [2] (oy (af (ah 5) ar)) (bi 0) cQ (aE Sg cH (af (ah 1) ar))) ar)) (bi 7))
 (bv (bE (jE 1 [2] (oy (af (ah 4) ar)) (bi 0) cQ (aE jq cH (af (ah 1) (af (mC (.int 11)) ar)))) (bi 8))
 (bv (bE (bL jB (mC (.int 1)) (aE jq cH (af (ah 2) (af (mC (.int 10)) ar)))) (mgS (ah 8) (aE jq cH (af (ah 2) (af (ah 4) ar)))))
 (LD 8 (bv (bE (bY 1 [2] (oy (af (ah 5) ar)) (bi 0) cQ (bL jB (mC (.int 1)) (aE jq cH (af (ah 1) (af (mC (.int 10)) ar))))) (bi 9))
 (bv (bE (ij (af (ah 6) (af (ah 7) (af (jj jg (af (bY 1 [8] (cz (ah 9)) (bi 0) cQ (jj jg (af (bY 1 [0] (cz (ah 1)) (bi 0) cQ (bL zo (ah 0) (ah 1))) ar))) ar)) ar)))) (bi 10))
 (bv (bE (jj FV (af (bY 1 [6,8] (oy (af (ah 4) ar)) (bi 0) cQ (bL zo (bL cZ (ah 2) (ah 0)) (bL cZ (ah 1) (ah 0)))) ar)) (bi 11))
 (bv (bE (aE Sf cH (af (jj Gq (af (ah 7) ar)) ar)) (bi 12))
 (bv (bE (aE (f2 on) cH (af (ah 12) (af (ij (af (mC (.int 1)) (af (ah 11) ar))) ar))) (bi 13))
 (bv (sn (ia (bL (FH true) (bL cZ (aE kS cH (af (ah 10) ar)) (mC (.int 0))) (jj jg (af (bY 1 [13] (cz (ah 8)) (bi 0) cQ (aE (f2 on) cH (af (ah 1) (af (ij (af (ah 0) (af (mC (.int 1)) ar))) ar)))) ar)))) (cU (mC (.bool false))) lr)
 (bv (bE (bY 1 [9,7,13] (oy (af (ah 5) ar)) (bi 0) cQ (aE (f2 on) cH (af (aE Si cH (af (bL cZ (ah 2) (ah 0)) (af (ah 3) ar))) (af (ij (af (bL cZ (ah 1) (ah 0)) (af (mC (.int 1)) ar))) ar)))) (bi 14))
 (sn (ia (bL (FH true) (aE lZ cH (af (ah 10) ar)) (jj jg (af (ah 14) ar)))) (cU (mC (.bool false))) lr))))))))))))))))))
 (cU (mC (.bool true))))
def DQ:∀O xs Pq QX,LR O xs Pq QX->Dc { nx:=λ_ O'=>Pq (.im .none) O',rt:=Pq } (bh fJ xs) O:=by
 intro O xs Pq QX h;obtain⟨ns,rfl,Oy,h⟩:=h;have cy:(if (40:Int)<(ns.length:Int) then (40:Int) else (ns.length:Int))+2<=42:=by split<;>omega
 have acr:0<=(if (40:Int)<(ns.length:Int) then (40:Int) else (ns.length:Int))+2:=by split<;>omega
 refine⟨⟨by dsimp only;omega,by dsimp only;omega⟩,λi sl O'=>∃y1 y2 y3 y4 y5 y6 y7 y8 y9 Λ Θ U1 U0 Od,sl=[some (.wO ns),y1,y2,y3,y4,y5,y6,y7,y8,y9,Λ,Θ,U1,U0,Od],⟨_,_,_,_,_,_,_,_,_,_,_,_,_,_,rfl⟩,?_,?_⟩
 rotate_left
 .rintro sl O' _;exact⟨h O'⟩
 rintro i x sl O' hx ⟨y1,y2,y3,y4,y5,y6,y7,y8,y9,Λ,Θ,U1,U0,Od,rfl⟩;obtain⟨hi,rfl⟩:=iS hx;have ahI:i<42:=by dsimp only at hi;omega
 clear hx hi
 refine⟨⟨by omega,by omega⟩,λbj=>?_⟩;refine⟨⟨by decide,by decide⟩,λwy w0 w1=>?_⟩;refine⟨⟨⟨by decide,by decide⟩,λr r0 r1=>⟨jS,dI,?_⟩⟩⟩;obtain⟨g,g1,g6,eg⟩:=CP (OL (.int wy) (.int 1)) r0 r1;refine⟨_,eg,?_⟩;refine⟨⟨⟨by decide,by decide⟩,λs s0 s1=>⟨jS,dI,?_⟩⟩⟩;obtain⟨n,n1,n6,Wz⟩:=CP (OL (.int wy) (.int 0)) s0 s1;refine⟨_,Wz,?_⟩;refine⟨⟨by omega,by omega⟩,km (λ_ d=>∃a:Int,d=.int a/\1<=a/\a<=60) (by rw[uO];omega) (λj x Z hx hZ=>⟨⟨by decide,by decide⟩,λa a0 a1=>hZ _ ⟨1+a,rfl,by omega,by omega⟩⟩) (λds dl dR=>?_)⟩;obtain⟨A,rfl,hA⟩:=tU dR;rw[uO,Zb,Z3] at dl;refine⟨⟨by omega,by omega⟩,km (λ_ d=>∃z:Rat,d=qD z/\uM (qD z)=true) (by rw[uO];omega) (λj x Z hx hZ=>⟨bj,rfl,λz hz=>hZ _ ⟨z,rfl,hz⟩⟩) (λds pl pR=>?_)⟩;obtain⟨Pu,rfl,hPu⟩:=EN pR;rw[uO,Zb,Z3] at pl;refine⟨⟨by omega,by omega⟩,k9 (λ_ d=>∃a:Int,d=.im (.int a)/\0<=a/\a<=10) (by rw[uO];omega) (λj x Z hx hZ=>⟨⟨by decide,by decide⟩,λa a0 a1=>hZ _ ⟨a,rfl,by omega,by omega⟩⟩) (λzs zl zR=>?_)⟩;obtain⟨uD,rfl,fM⟩:=AS zR;rw[uO,Zb,Z3] at zl;refine⟨⟨by decide,by decide⟩,λv v0 v1=>⟨⟨by omega,by omega⟩,λt t0 t1=>?_⟩⟩;have tn:((t.toNat:Nat):Int)=t:=Xe t0;have tl:t.toNat<uD.length:=by omega
 have KJ:rQ (uD.map λx=>AV.im (PyData.int x)).length t=some t.toNat:=by
  have:=xr (n:=(uD.map λx=>AV.im (PyData.int x)).length) (i:=t.toNat) (by rw[Zb];exact tl)
  rwa [tn] at this
 refine⟨_,_,ni _ _,KJ,?_⟩;rw[lP,qk];generalize Ow:uD.set t.toNat (1+v)=row;have si:row.length=g:=by rw[<- Ow,Yo];exact zl
 have r0:∀x∈row,0<=x/\x<=10:=λx hx=>by
  rw[<- Ow] at hx;rcases List.mem_or_eq_of_mem_set hx with z |z
  .obtain⟨j,hj,rfl⟩:=Ye z;have:=fM j hj
   rwa [KM.ao (Zc hj)] at this
  .omega
 have rp:∃x∈row,1<=x:=⟨1+v,by rw[<- Ow];exact List.mem_set tl _,by omega⟩;refine⟨⟨O'.length,row.map .int,rfl,by rw[ni,Zm];rfl,?_⟩⟩;rw[lP];generalize O'++[none]=O2;refine⟨⟨by omega,by omega⟩,km (λ_ d=>∃a:Int,d=.int a/\1<=a/\a<=10) (by rw[uO];omega) (λj x Z hx hZ=>⟨⟨by decide,by decide⟩,λa a0 a1=>hZ _ ⟨1+a,rfl,by omega,by omega⟩⟩) (λds nl nR=>?_)⟩;obtain⟨aC,rfl,B'⟩:=tU nR;rw[uO,Zb,Z3] at nl;have al:bT A Pu row aC:=by
  refine⟨by omega,by omega,λa ha=>?_,by omega,by omega,λz hz=>?_,by omega,r0,rp,by omega,λk hk=>?_⟩
  .obtain⟨j,hj,rfl⟩:=Ye ha;have:=hA j hj
   rwa [KM.ao (Zc hj)] at this
  .obtain⟨j,hj,rfl⟩:=Ye hz;have:=hPu j hj
   rwa [KM.ao (Zc hj)] at this
  .obtain⟨j,hj,rfl⟩:=Ye hk;have:=B' j hj
   rwa [KM.ao (Zc hj)] at this
 obtain⟨u0,ue,ub⟩:=al.unit;have Ψ:=al.w0.1;refine⟨?_⟩;conv=>whnf
 refine A7 (λj=>aT (row.map λx=>x*aC.getD j 0)) (by rw[Zb,Zb];omega) (λj x Z hx hZ=>?_) ?_
 .obtain⟨hj,rfl⟩:=A5 hx;have hk:=al.nn _ (i9 (d:=0) hj);conv=>whnf
  refine A7 (λk=>.int (row.getD k 0*aC.getD j 0)) (by rw[Zb,Zb];omega) (λk x Z hx hZ=>?_) ?_
  .obtain⟨rE,rfl⟩:=A5 hx;have:=r0 _ (i9 (d:=0) rE);exact⟨⟨zw (by omega),zw (by omega)⟩,hZ⟩
  .rw[Zb,Zb];have e:(List.range row.length).map (λk=>PyData.int (row.getD k 0*aC.getD j 0))=(row.map λx=>x*aC.getD j 0).map .int:=by
    rw[Zm];exact Ba (λx:Int=>PyData.int (x*aC.getD j 0)) row 0
   rw[e];exact hZ
 rw[Zb,Zb,Ba (λk:Int=>aT (row.map λx=>x*k)) aC 0];refine⟨RT,?_⟩;have emk:PyData.tuple [.tuple (A.map .int),.tuple (Pu.map qD),.tuple (aC.map λk=>aT (row.map λx=>x*k))]=g9 A Pu (bw row aC):=by
  unfold g9 bw;rw[Zm];rfl
 rw[emk];refine⟨⟨by omega,by omega⟩,A7 (λj=>.int (row.getD j 0*A.getD j 0)) (by rw[uO];omega) (λj x Z hx hZ=>?_) ?_⟩
 .obtain⟨hj,rfl⟩:=iS hx;rw[Z3] at hj;have h1:=r0 _ (i9 (d:=0) (show j<row.length by omega));have h2:=al.am _ (i9 (d:=0) (show j<A.length by omega));exact⟨_,int_at (by omega),_,int_at (by omega),⟨zw (by omega),zw (by omega)⟩,hZ⟩
 rw[uO,Z3];refine⟨(List.range g).map λj=>row.getD j 0*A.getD j 0,by rw[Zm];rfl,?_⟩;rw[<- si,GV λx hx=>(r0 x hx).1,si];show Go _ _ [some (.wO ns),Φ9 (.int (i:Int)),some (.bag bj),Φ9 (.int wy),Φ9 (.int (g:Int)),Φ9 (.int (n:Int)),Φ9 (.tuple (A.map .int)),Φ9 (.tuple (Pu.map qD)),Φ9 (.list (row.map .int)),Φ9 (.list (aC.map .int)),Φ9 (g9 A Pu (bw row aC)),Φ9 (.int (c7 A row)),U1,U0,Od] O2;have evR:Rb 127 (aH Pu):=sW (k:=20) (n:=6) (λq hq=>(al.pos q hq).2) al.n6;refine⟨⟨Pu,rfl,⟨λq hq=>(al.pos q hq).2.mono (by decide),by omega⟩,?_⟩⟩;have hw:=al.QU;refine⟨⟨jS,aH Pu,Rat.divInt 1 (c7 A row),by rw[Ed Ψ],⟨evR.mono (by decide),(iA (k:=12) (by omega) (by unfold Bd;decide) (by unfold Bd;omega)).mono (by decide)⟩,?_⟩⟩;have eun:on (aH Pu) (Rat.divInt 1 (c7 A row))=ca A row Pu:=by
  unfold ca;show aH Pu*Rat.divInt 1 (c7 A row)=_;rw[Qe];have h2:(0:Rat)<((c7 A row:Int):Rat):=Yx.mpr Ψ;have:((c7 A row:Int):Rat)≠0:=λz=>by rw[z] at h2;exact absurd h2 (by decide)
  show aH Pu*(((1:Int):Rat) / _)=_;rw[show((1:Int):Rat)=1 from rfl]
  grind
 rw[eun];show Go _ _ [some (.wO ns),Φ9 (.int (i:Int)),some (.bag bj),Φ9 (.int wy),Φ9 (.int (g:Int)),Φ9 (.int (n:Int)),Φ9 (.tuple (A.map .int)),Φ9 (.tuple (Pu.map qD)),Φ9 (.list (row.map .int)),Φ9 (.list (aC.map .int)),Φ9 (g9 A Pu (bw row aC)),Φ9 (.int (c7 A row)),Φ9 (qD (aH Pu)),Φ9 (qD (ca A row Pu)),Od] O2;refine⟨⟨A,Pu,bw row aC,143,rfl,al.clear,λfs L c ms ps M O3 hF st QH gr=>?_⟩⟩;obtain⟨L0,EU,_,eL⟩:=al.steps hF;have WB:=st.uniq EU;subst WB;rw[eL] at QH ⊢;refine⟨_,rfl,?_⟩;conv=>whnf
 refine A7 (λj=>qD (ca A row Pu*((row.getD j 0:Int):Rat))) (by rw[Zb,Zb];omega) (λj x Z hx hZ=>?_) ?_
 .obtain⟨hj,rfl⟩:=A5 hx;have:=r0 _ (i9 (d:=0) hj);exact⟨jS,ca A row Pu,((row.getD j 0:Int):Rat),rfl,⟨ub.mono (by decide),(yZ (k:=4) (by unfold Bd;omega) (by decide)).mono (by decide)⟩,hZ⟩
 rw[Zb,Zb,Ba (λx:Int=>qD (ca A row Pu*((x:Int):Rat))) row 0];have e1:(row.map λx:Int=>qD (ca A row Pu*((x:Int):Rat)))=(lD A row Pu).map qD:=by unfold lD;rw[Zm];rfl
 refine⟨?_,?_⟩
 .rw[e1];exact yL
 rw[e1,xU];refine⟨λz=>(by cases z),λ_=>?_⟩
 clear QH gr st EU
 refine⟨⟨by omega,by omega⟩,A7 (λj=>qD (Pu.getD j 0 / ca A row Pu*((aC.getD j 0:Int):Rat))) (by rw[uO];omega) (λj x Z hx hZ=>?_) ?_⟩
 .obtain⟨hj,rfl⟩:=iS hx;rw[Z3] at hj;have hk:=al.nn _ (i9 (d:=0) (show j<aC.length by omega));have pR:=(al.pos _ (i9 (d:=0) (show j<Pu.length by omega))).2;have un:ca A row Pu≠0:=λz=>by rw[z] at u0;exact absurd u0 (by decide)
  refine⟨_,bR (mh (f:=qD) (d:=(0:Rat)) (show j<Pu.length by omega)),Pu.getD j 0,ca A row Pu,rfl,⟨pR.mono (by decide),ub.mono (by decide),u0⟩,_,int_at (by omega),jS,Pu.getD j 0 / ca A row Pu,((aC.getD j 0:Int):Rat),rfl,⟨(fo pR ub un).mono (by decide),(yZ (k:=4) (by unfold Bd;omega) (by decide)).mono (by decide)⟩,hZ⟩
 rw[uO,Z3];have e2:(List.range n).map (λj=>qD (Pu.getD j 0 / ca A row Pu*((aC.getD j 0:Int):Rat)))=((List.range Pu.length).map λj=>Pu.getD j 0 / ca A row Pu*((aC.getD j 0:Int):Rat)).map qD:=by rw[Zm,<- pl];rfl
 rw[e2];refine⟨⟨A,Pu,bw row aC,143,rfl,al.clear,λfs L c ms ps M O4 hF st QH gr=>?_⟩⟩;obtain⟨L0,EU,_,eL⟩:=al.steps hF;have WB:=st.uniq EU;subst WB;rw[eL] at QH;obtain⟨w1',w2'⟩:=al.worths QH;refine⟨w1',?_⟩;rw[w2'];refine⟨yL,?_⟩;rw[xU];exact⟨λz=>(by cases z),λ_=>⟨_,_,_,_,_,_,_,_,_,_,_,_,_,_,rfl⟩⟩
end MI
namespace BA
open PySem L2 KG EX KM MI
section
variable {P:Program}{w:World}{K:Θ1}{mg:Θ3}{base:Heap}
def eX:ak fJ ["script"] (bz (top 75)):=L2.dm
def HY {f QF fT fPu fSu fMu fDi Wv fWt  : Addr}{fd QJ dT dPu dSu dMu dDi WI dWt:FuncData}(F:cT K "law" "law" (top 75) f fd)(N:Nm mg)(Bg:bU K mg P w base "_law_bag" 1 ["script","k"] (B3 K) QF QJ)(T:bU K mg P w base "_law_take" 1 ["bag","many"] qd fT dT)(Pu:bU K mg P w base "_law_purse" 2 ["bag"] Lj fPu dPu)(Su:bU K mg P w base "_law_sum" 3 ["some"] B0 fSu dSu)(Mu:bU K mg P w base "_law_mul" 2 ["one","other"] (A1 on) fMu dMu)(Di:bU K mg P w base "_law_div" 2 ["one","other"] B2 fDi dDi)(Cl:bU K mg P w base "clear" 12 ["market"] (cL K kS) Wv WI)(Wt:bU K mg P w base "worths" 13 ["market"] (cL K lZ) fWt dWt):aK P w K mg base ci 14 f fd ["script"] (cL K LR) :=
 jP F eX (λO xs P PX h=>by obtain⟨_,rfl,_⟩:=h;rfl) (λbH A outer s H E QX hr=>⟨Dc,(df (gH PassesOwn.never rfl (Fu rfl N.range (aA (d8 (Bm (AW rfl) Ir (by rfl) N.min boot_min (aA (Bm (ξ K) Iw (by rfl) N.len Xk (aA (mv 0) aX)) (aA cM aX))) cM) aX)) (dZ (i:=1) eX.nd) (df (fE (i:=2) eX.nd rfl (Or.inr rfl) (d7 Bg NO hr (aA (mv 0) (aA (mv 1) aX))))
 (df (jM (i:=3) eX.nd (d7 T ft hr (aA (mv 2) (aA cM aX))))
 (df (jM (i:=4) eX.nd (db (kQ (aA (d8 cM (d7 T ft hr (aA (mv 2) (aA cM aX)))) (aA cM aX))) (pQ lf yy (by rfl) N.int boot_int (aA (m9 (Ca hr.units) Cd (mv 3) cM (aQ _)) aX))))
 (df (jM (i:=5) eX.nd (db (kQ (aA (d8 cM (d7 T ft hr (aA (mv 2) (aA cM aX)))) (aA cM aX))) (pQ lf yy (by rfl) N.int boot_int (aA (m9 (Ca hr.units) Cd (mv 3) cM (aQ _)) aX))))
 (df (fE (i:=6) eX.nd rfl (Or.inr rfl) (pQ d6 wP (by rfl) N.tuple pS (aA (lK (own:=["good"]) (cap:=["bag"]) (ix:=[2]) (aJ.of (bz (top 75)).names fJ) rfl (Fu rfl N.range (aA (mv 4) aX)) (lL (by decide))
 (λC fp s H=>⟨(dZ (i:=0) (Ψ9 ["good","bag"])),kF,(d8 cM (d7 T ft hr (aA (mv 1) (aA cM aX))))⟩)) aX)))
 (df (fE (i:=7) eX.nd rfl (Or.inr rfl) (pQ d6 wP (by rfl) N.tuple pS (aA (lK (own:=["buyer"]) (cap:=["bag"]) (ix:=[2]) (aJ.of (bz (top 75)).names fJ) rfl (Fu rfl N.range (aA (mv 5) aX)) (lL (by decide))
 (λC fp s H=>⟨(dZ (i:=0) (Ψ9 ["buyer","bag"])),kF,(d7 Pu NL hr (aA (mv 1) aX))⟩)) aX)))
 (df (fE (i:=8) eX.nd rfl (Or.inr rfl) (tK (own:=["good"]) (cap:=["bag"]) (ix:=[2]) (aJ.of (bz (top 75)).names fJ) rfl (Fu rfl N.range (aA (mv 4) aX)) (lL (by decide))
 (λC fp s H=>⟨(dZ (i:=0) (Ψ9 ["good","bag"])),kF,(d7 T ft hr (aA (mv 1) (aA cM aX)))⟩)))
 (df (qv (d8 cM (d7 T ft hr (aA (mv 2) (aA cM aX)))) (NG (mv 8) (d7 T ft hr (aA (mv 2) (aA (mv 4) aX)))))
 (C0 8 (df (fE (i:=9) eX.nd rfl (Or.inr rfl) (lK (own:=["buyer"]) (cap:=["bag"]) (ix:=[2]) (aJ.of (bz (top 75)).names fJ) rfl (Fu rfl N.range (aA (mv 5) aX)) (lL (by decide))
 (λC fp s H=>⟨(dZ (i:=0) (Ψ9 ["buyer","bag"])),kF,(d8 cM (d7 T ft hr (aA (mv 1) (aA cM aX))))⟩)))
 (df (jM (i:=10) eX.nd (uE (aA (mv 6) (aA (mv 7) (aA (pQ d6 wP (by rfl) N.tuple pS (aA (lK (own:=["many"]) (cap:=["row"]) (ix:=[8]) (aJ.of (bz (top 75)).names fJ) rfl (n9 (mv 9)) (lL (by decide))
 (λC fp s H=>⟨(fq (jk (i:=0) (Ψ9 ["many","row"]) rfl (Or.inr rfl))),kF,(pQ d6 wP (by rfl) N.tuple pS (aA (lK (own:=["wish"]) (cap:=["many"]) (ix:=[0]) (aJ.of [(".0",.local),("many",.cell),("tuple",.globalImplicit),("row",.cell)] ["many","row"]) rfl (n9 (mv 1)) (lL (by decide))
 (λC fp s H=>⟨(dZ (i:=0) (Ψ9 ["wish","many"])),kF,(m7 (mv 0) (mv 1))⟩)) aX))⟩)) aX)) aX)))))
 (df (jM (i:=11) eX.nd (Bm (Cr rfl) Dg (by rfl) N.sum boot_sum (aA (lK (own:=["good"]) (cap:=["amounts","row"]) (ix:=[6,8]) (aJ.of (bz (top 75)).names fJ) rfl (Fu rfl N.range (aA (mv 4) aX)) (lL (by decide))
 (λC fp s H=>⟨(dZ (i:=0) (Ψ9 ["good","amounts","row"])),kF,(m7 (db (mv 2) (mv 0)) (db (mv 1) (mv 0)))⟩)) aX)))
 (df (jM (i:=12) eX.nd (d7 Su Im hr (aA (pQ Cs Dh (by rfl) N.list boot_list (aA (mv 7) aX)) aX)))
 (df (fE (i:=13) eX.nd rfl (Or.inr rfl) (d7 Mu u6 hr (aA (mv 12) (aA (uE (aA cM (aA (mv 11) aX))) aX))))
 (df (mM (fc (JN hr.units) J3 (db (d7 Cl i8 hr (aA (mv 10) aX)) cM) (pQ d6 wP (by rfl) N.tuple pS (aA (lK (own:=["wish"]) (cap:=["unit"]) (ix:=[13]) (aJ.of (bz (top 75)).names fJ) rfl (n9 (mv 8)) (lL (by decide))
 (λC fp s H=>⟨(dZ (i:=0) (Ψ9 ["wish","unit"])),kF,(d7 Mu u6 hr (aA (mv 1) (aA (uE (aA (mv 0) (aA cM aX))) aX)))⟩)) aX)) (aQ _)) (eQ (jv sD)) jD)
 (df (yn (i:=14) eX.nd rfl rfl (own:=["buyer"]) (cap:=["numbers","purses","unit"]) (ix:=[9,7,13]) (aJ.of (bz (top 75)).names fJ) rfl (Fu rfl N.range (aA (mv 5) aX)) (lL (by decide))
 (λC fp s H=>⟨(dZ (i:=0) (Ψ9 ["buyer","numbers","purses","unit"])),kF,(d7 Mu u6 hr (aA (d7 Di NN hr (aA (db (mv 2) (mv 0)) (aA (mv 3) aX))) (aA (uE (aA (db (mv 1) (mv 0)) (aA cM aX))) aX)))⟩))
 (eQ (mM (fc (JN hr.units) J3 (d7 Wt i8 hr (aA (mv 10) aX)) (pQ d6 wP (by rfl) N.tuple pS (aA (mv 14) aX)) (aQ _)) (eQ (jv sD)) jD)))))))))))))))))))
 (eQ (jv sD))),λO xs Pq h=>DQ O xs Pq QX h⟩)
end
end BA
namespace MI
open PySem L2 KG EX KM RZ
def getD_mem' {α : Type}{l:List α}{i:Nat}{d:α}(h:i<l.length):l.getD i d∈l:=by rw[KM.ao (Zc h)];exact Zv _
def wM {α : Type}{l:List α}{p q:α->Bool}(h:∀x∈l,p x=q x):l.any p=l.any q:=by
 induction l with
 |nil=>rfl
 |cons x l ih=>rw[Xu,Xu,h x Zg,ih λy hy=>h y (Zh _ hy)]
theorem xV {H:Hp}:∀{xs:List V}{M:Γ1},pV H xs M->aI H xs (M.map aT)
 |_,_,.nil=>.nil
 |_,_,.cons ⟨a,e,h⟩ t=>by subst e;exact .cons (.tup h (va _)) (xV t)
def G0 {H:Hp}{xs:List V}{M:Γ1}(h:aI H xs (M.map aT)):pU H xs M:=by
 refine⟨by rw[h.len,Zb],λj x hx=>?_⟩;obtain⟨d,hd,t⟩:=h.at hx;rw[Zl] at hd;cases hm:M[j]? with
 |none=>rw[hm] at hd;cases hd
 |some r =>
  rw[hm] at hd;cases Option.some.inj hd;cases t with |tup h1 h2=>exact⟨_,r,rfl,rfl,by rw[<- iD h2];exact h1⟩
section
variable {K:Θ1}{Pg:Program}{wo:World}{mg:Θ3}{base:Heap}{k:Nat}{f:Addr}{fd:FuncData}{ps:Δ2}
def R4 {H:Hp}:ay H (G ⟨[],[],[],[]⟩ [] H):=λx o h=>by
 rw[gC]
 .exact h
 .rintro(h |⟨o,h⟩ |⟨k,c,h,_⟩)
  .cases h
  .cases h
  .simp at h
def m4 {F:FM}{sp:Sp}(h:aK Pg wo K mg base ci k f fd ps (cL K F))(c:∀vs H Q E,sp vs H Q E->∃ds:Ξ1,aI H vs ds/\F [] (ds.map .im) (λq O'=>∃d,q=.im d/\O'=[]/\∀z H',ay H H'->ck H' z d->Q z H') λ_ _=>False):aK Pg wo K mg base ci k f fd ps sp:=h.imp λvs H Q E hs=>by
 obtain⟨ds,t,hF⟩:=c vs H Q E hs;refine⟨⟨[],[],[],[]⟩,[],ds.map .im,_,λ_ _=>False,⟨rfl,X3,λa h=>(by cases h),λa h=>(by cases h),X3,λp h=>(by cases h),λa h=>(by cases h),λk c h=>(by simp at h),λk h=>(by cases h)⟩,aI.UL (aI.ap R4 t),hF,λz q O' w' H' hz e r av=>?_,λc O' w' H' h=>h.elim⟩;obtain⟨d,rfl,rfl,hQ⟩:=hz;exact hQ z H' (R4.trans (e.ex.ap.trans oB)) (ck.ap oB av)
def sT {H:Hp}{z:V}{ns:Γ3}(h:ck H z (aT ns)):∃a,z=.ref a/\H a=some (.tup (ns.map V.int)):=by
 cases h with |tup h1 h2=>exact⟨_,rfl,by rw[<- iD h2];exact h1⟩
def xO {H:Hp}{z:V}{ns:Γ3}(h:ck H z (et ns)):∃a,z=.ref a/\H a=some (.lst (ns.map V.int)):=by
 cases h with |lst h1 h2=>exact⟨_,rfl,by rw[<- iD h2];exact h1⟩
def kc (gs:List Nat):sk gs=aT (gs.map λg:Nat=>(g:Int)):=by unfold sk aT;rw[Zm];rfl
def kZ (gs:List Nat):cO gs=(gs.map λg:Nat=>(g:Int)).map V.int:=by unfold cO;rw[Zm];rfl
def Cy {b p pa pp pw:Addr}{H:Hp}{xa xp xw:List V}{am pu wi:Ξ1}(m:d5 b H p pa pp pw xa xp xw am pu wi):∃A Pu W,ck H (.ref p) (g9 A Pu W)/\gA (g9 A Pu W)=true/\am.map aU=A/\pP pu=Pu/\rowsOf wi=W/\xa.length=A.length:=by
 obtain⟨A,Pu,W,e⟩:=Ii m.ok;have t:=m.tr;have ok:=m.ok;rw[e] at t ok;have e1:am=A.map .int:=by have:=congrArg (λd=>match d with |PyData.tuple [.tuple x,_,_]=>x |_=>[]) e;exact this
 have e2:pu=Pu.map qD:=by have:=congrArg (λd=>match d with |PyData.tuple [_,.tuple x,_]=>x |_=>[]) e;exact this
 have e3:wi=W.map aT:=by have:=congrArg (λd=>match d with |PyData.tuple [_,_,.tuple x]=>x |_=>[]) e;exact this
 refine⟨A,Pu,W,lO (λ_ _ h=>h) (CZ A Pu W) t,ok,?_,?_,?_,?_⟩
 .rw[e1];exact nE A
 .rw[e2];exact gh Pu
 .rw[e3];exact Kv W
 .rw[m.ta.len,e1,Zb]
def HE (h:aK Pg wo K mg base ci k f fd ps (cL K BP)):aK Pg wo K mg base ci k f fd ps wW:=m4 h λvs H Q E ⟨b,p,pa,pp,pw,xa,xp,xw,am,pu,wi,e,m,q⟩=>by
 subst e;obtain⟨A,Pu,W,t,ok,rfl,rfl,rfl,la⟩:=Cy m;have mf:=A8 ok;refine⟨[_],.cons t .nil,_,_,_,rfl,mf.g6,by rw[mf.wl];exact mf.n6,mf.wr,_,rfl,rfl,λz H' s tz=>?_⟩;obtain⟨a,rfl,ha⟩:=sT tz;exact q a H' s (by rw[ha,kW,la];rfl)
def Nj (h:aK Pg wo K mg base ci k f fd ps (cL K BQ)):aK Pg wo K mg base ci k f fd ps Rh:=m4 h λvs H Q E ⟨pb,pg,xs,M,gs,e,h1,h2,h3,m6,r6,q⟩=>by
 subst e;refine⟨[.tuple (M.map aT),sk gs],.cons (.tup h1 ?_) (.cons (by rw[kc];exact .tup h3 (by rw[kZ];exact va _)) .nil),M,gs.map λg:Nat=>(g:Int),by rw[kc];rfl,m6,λi hi=>r6 _ (getD_mem' hi),_,rfl,rfl,λz H' s tz=>?_⟩
 .exact xV h2
 .rw[kc] at tz;obtain⟨a,rfl,ha⟩:=sT tz;refine q a H' s ?_;rw[ha,kZ]
  congr 4
  unfold ou;refine Y2 λi _=>?_
  unfold cD;refine wM λg _=>?_
  rw[Yc,Yz,Zd,Zw];exact⟨λ⟨x,hx,e⟩=>⟨x,hx,decide_eq_true e⟩,λ⟨x,hx,e⟩=>⟨x,hx,of_decide_eq_true e⟩⟩
def HF (h:aK Pg wo K mg base ci k f fd ps (cL K sM)):aK Pg wo K mg base ci k f fd ps CJ:=m4 h λvs H Q E ⟨l,ns,e,h1,n6,q⟩=>by
 subst e;refine⟨[aT ns],.cons (.tup h1 (va _)) .nil,ns,rfl,n6,_,rfl,rfl,λz H' s tz=>?_⟩;cases tz with |lst a1 a2=>exact q _ _ H' s a1 (G0 a2)
def Nl (h:aK Pg wo K mg base ci k f fd ps (cL K kR)):aK Pg wo K mg base ci k f fd ps Rk:=m4 h λvs H Q E ⟨l,t,ms,S,e,h1,h2,s6,sl,q⟩=>by
 subst e;refine⟨[et ms,sk S],.cons (.lst h1 (va _)) (.cons (by rw[kc];exact .tup h2 (by rw[kZ];exact va _)) .nil),ms,S,rfl,s6,sl,_,rfl,rfl,λz H' s tz=>?_⟩;rw[hG tz];exact q H' s
def Nk (h:aK Pg wo K mg base ci k f fd ps (cL K vc)):aK Pg wo K mg base ci k f fd ps xT:=m4 h λvs H Q E ⟨b,p,pa,pp,pw,qa,xa,xp,xw,ys,am,pu,wi,qs,e,m,pr,hl,q⟩=>by
 subst e;obtain⟨A,Pu,W,t,ok,rfl,rfl,rfl,la⟩:=Cy m;have mf:=A8 ok;refine⟨[_,.tuple (qs.map qD)],.cons t (.cons (lO (b:=b) (λ_ _ h=>h) (qq qs) (.tup pr.hq pr.tr)) .nil),_,_,_,qs,293,rfl,by omega,mf.g6,mf.n6,mf.am,λz hz=>(mf.pu z hz).2,Ze _,by decide,pr.bd,λc ms ps hc im ip _ _=>⟨_,rfl,rfl,λz H' s tz=>?_⟩⟩;cases tz with |tup a1 a2=>?_
 cases a2 with |cons b1 a2=>?_
 cases a2 with |cons b2 a2=>?_
 cases a2
 obtain⟨r1,rfl,h1⟩:=xO b1;obtain⟨r2,rfl,h2⟩:=xO b2;exact q _ r1 r2 c ms ps H' s hc im ip a1 h1 h2
def Ee (h:aK Pg wo K mg base ci k f fd ps BE):aK Pg wo K mg base ci k f fd ps CH:=h.imp λvs H Q E ⟨t,u,e,u0,u1,q⟩=>by
 refine⟨t,u,e,u0,zw (by omega),λp hp=>?_⟩;have hg:=(yG (t:=t) u0).1;obtain⟨e1,e2⟩:=m5 (T:=t) (U:=u) (by omega);have es:sg t u=(Int.gcd t u:Int):=by unfold sg;rw[if_neg (by omega)]
 unfold qO;rw[<- e1,<- e2];unfold nx ny;rw[es,Qo _ (by omega),Qo _ (by omega)];exact q p hp
end
end MI
namespace MI
open PySem L2 KG EX KM
def c6 (K:Θ1)(nm:Str)(st:Stmt)(f:Addr):Prop:=∃(oc:Value) (od:Option Addr) (kV dc pm:Value) (an:Option Addr) (cd ct:Value) (sl:Array (Φ1)),PySem.W.nsIn K mainGlobals nm=some (some (.ref f))/\K.lookup f=some ⟨oc,od,.func (PySem.W.fnOf nm nm (uL st) (rO st) (bz st) .none kV dc pm an cd ct),sl⟩/\PySem.W.codeIn K cd nm=true/\PySem.W.keepIn K (.ref f)=true
theorem el1 {P:Δ3->Prop}(h:∀a,P [a]):∀us:Δ3,us.length=1->P us
 |[a],_=>h a
theorem el2 {P:Δ3->Prop}(h:∀a b,P [a,b]):∀us:Δ3,us.length=2->P us
 |[a,b],_=>h a b
theorem el3 {P:Δ3->Prop}(h:∀a b c,P [a,b,c]):∀us:Δ3,us.length=3->P us
 |[a,b,c],_=>h a b c
theorem el4 {P:Δ3->Prop}(h:∀a b c d,P [a,b,c,d]):∀us:Δ3,us.length=4->P us
 |[a,b,c,d],_=>h a b c d
structure Fg (K:Θ1)(mg:Θ3)(nm:Str)(ps:Δ2)(st:Stmt)(f:Addr)(fd:FuncData):Prop where
 F:cT K nm nm st f fd
 mg:mg nm=some (.ref f)
 kp:PySem.W.keepIn K (.ref f)=true
 bd:Binds K fd ps []
section
variable {K:Θ1}{hh:Heap}{mg:Θ3}{nm:Str}{ps:Δ2}{st:Stmt}{f:Addr}{fd:FuncData}{k:Nat}{sp:Sp}
def Fg.c (a:Fg K mg nm ps st f fd)(l:PySem.W.OpenLaw)(w:World)(base:Heap)(o:aK l.prog w K mg base ci k f fd ps sp):bU K mg l.prog w base nm k ps sp f fd:=⟨o,a.mg,a.kp,a.bd⟩
def Fg.of (X:K.In hh)(G:hh.Ns mainGlobals mg)(a:c6 K nm st f)(hb:∀(kV gq pm:Value) (an:Option Addr) (bH ct:Value) (us:Δ3),us.length=ps.length->bindArgs (PySem.W.fnOf nm nm (uL st) (rO st) (bz st) .none kV gq pm an bH ct) ⟨us,[]⟩=pure (ps.zip us)):∃fd,Fg K mg nm ps st f fd:=by
 obtain⟨_,_,_,_,_,_,_,_,_,a,l,c,k⟩:=a;exact⟨_,vA l c k,PySem.W.mg_of X G a,k,(vA l c k).binds hb⟩
def uU (ps:Δ2)(X:K.In hh)(G:hh.Ns mainGlobals mg)(a:c6 K nm st f)(hb:∀(kV gq pm:Value) (an:Option Addr) (bH ct a:Value),bindArgs (PySem.W.fnOf nm nm (uL st) (rO st) (bz st) .none kV gq pm an bH ct) ⟨[a],[]⟩=pure (ps.zip [a]):=by intros;rfl)(hl:ps.length=1:=by rfl):∃fd,Fg K mg nm ps st f fd:=Fg.of X G a λkV gq pm an bH ct us hu=>el1 (P:=λus=>bindArgs (PySem.W.fnOf nm nm (uL st) (rO st) (bz st) .none kV gq pm an bH ct) ⟨us,[]⟩=pure (ps.zip us)) (hb kV gq pm an bH ct) us (hu.trans hl)
def jA (ps:Δ2)(X:K.In hh)(G:hh.Ns mainGlobals mg)(a:c6 K nm st f)(hb:∀(kV gq pm:Value) (an:Option Addr) (bH ct a b:Value),bindArgs (PySem.W.fnOf nm nm (uL st) (rO st) (bz st) .none kV gq pm an bH ct) ⟨[a,b],[]⟩=pure (ps.zip [a,b]):=by intros;rfl)(hl:ps.length=2:=by rfl):∃fd,Fg K mg nm ps st f fd:=Fg.of X G a λkV gq pm an bH ct us hu=>el2 (P:=λus=>bindArgs (PySem.W.fnOf nm nm (uL st) (rO st) (bz st) .none kV gq pm an bH ct) ⟨us,[]⟩=pure (ps.zip us)) (hb kV gq pm an bH ct) us (hu.trans hl)
def QD (ps:Δ2)(X:K.In hh)(G:hh.Ns mainGlobals mg)(a:c6 K nm st f)(hb:∀(kV gq pm:Value) (an:Option Addr) (bH ct a b c:Value),bindArgs (PySem.W.fnOf nm nm (uL st) (rO st) (bz st) .none kV gq pm an bH ct) ⟨[a,b,c],[]⟩=pure (ps.zip [a,b,c]):=by intros;rfl)(hl:ps.length=3:=by rfl):∃fd,Fg K mg nm ps st f fd:=Fg.of X G a λkV gq pm an bH ct us hu=>el3 (P:=λus=>bindArgs (PySem.W.fnOf nm nm (uL st) (rO st) (bz st) .none kV gq pm an bH ct) ⟨us,[]⟩=pure (ps.zip us)) (hb kV gq pm an bH ct) us (hu.trans hl)
def UF (ps:Δ2)(X:K.In hh)(G:hh.Ns mainGlobals mg)(a:c6 K nm st f)(hb:∀(kV gq pm:Value) (an:Option Addr) (bH ct a b c d:Value),bindArgs (PySem.W.fnOf nm nm (uL st) (rO st) (bz st) .none kV gq pm an bH ct) ⟨[a,b,c,d],[]⟩=pure (ps.zip [a,b,c,d]):=by intros;rfl)(hl:ps.length=4:=by rfl):∃fd,Fg K mg nm ps st f fd:=Fg.of X G a λkV gq pm an bH ct us hu=>el4 (P:=λus=>bindArgs (PySem.W.fnOf nm nm (uL st) (rO st) (bz st) .none kV gq pm an bH ct) ⟨us,[]⟩=pure (ps.zip us)) (hb kV gq pm an bH ct) us (hu.trans hl)
end
end MI
namespace BA
open PySem L2 KG EX KM MI
def all_mk {l:PySem.W.OpenLaw}{w:World}{K:Θ1}{h:Heap}{mg:Θ3}{fa:Addr}(X:K.In h)(G:h.Ns mainGlobals mg)(hfa:mg "law"=some (.ref fa))
  {f0 f1 f2 f3 f4 f5 f6 f7 f8 f9 f10 f11 f12 f13 f14 f15 f16 f17 f18 f19 f20 f21 f22 f23 f24 f25 f26 f27 f28 f29 f30 f31 f32 f33 f34 f35 f36 f37 f38 f39 f40 f41 f42 f43 f44 f45 f46 f47 f48 f49 f50 f51 f52 f53 f54 f55 M Nn Pr De Un:Addr}
  (a0:c6 K "is_whole" (top 7) f0)
  (a1:c6 K "is_fraction" (top 8) f1)
  (a2:c6 K "common_divisor" (top 9) f2)
  (a3:c6 K "fraction" (top 10) f3)
  (a4:c6 K "plus" (top 11) f4)
  (a5:c6 K "times" (top 12) f5)
  (a6:c6 K "over" (top 13) f6)
  (a7:c6 K "less" (top 14) f7)
  (a8:c6 K "total" (top 15) f8)
  (a9:c6 K "least" (top 16) f9)
  (XT:c6 K "greatest" (top 17) f10)
  (QO:c6 K "on_one_bottom" (top 18) f11)
  (XS:c6 K "worth_of" (top 20) f12)
  (XR:c6 K "worths_of" (top 21) f13)
  (XQ:c6 K "wished" (top 23) f14)
  (XO:c6 K "wishless" (top 24) f15)
  (XN:c6 K "are_prices" (top 26) f16)
  (XM:c6 K "need_prices" (top 27) f17)
  (XJ:c6 K "money_by_good" (top 28) f18)
  (XI:c6 K "best_goods" (top 29) f19)
  (XH:c6 K "best_by_wishes" (top 30) f20)
  (XG:c6 K "rate" (top 31) f21)
  (XF:c6 K "takers_by_best" (top 32) f22)
  (XE:c6 K "all_sets" (top 34) f23)
  (XD:c6 K "in_coins" (top 35) f24)
  (XC:c6 K "coins_of" (top 36) f25)
  (XB:c6 K "goods_above" (top 37) f26)
  (XA:c6 K "paid_goods" (top 38) f27)
  (W9:c6 K "rise" (top 40) f28)
  (W8:c6 K "loosened" (top 41) f29)
  (W7:c6 K "paying_factors" (top 42) f30)
  (W6:c6 K "meeting_factors" (top 43) f31)
  (a32:c6 K "raised" (top 44) f32)
  (W5:c6 K "first_prices" (top 45) f33)
  (W4:c6 K "greatest_share" (top 46) f34)
  (W3:c6 K "rises" (top 47) f35)
  (W1:c6 K "prices_behind" (top 48) f36)
  (W0:c6 K "clear" (top 50) f37)
  (WZ:c6 K "prices_that_clear" (top 51) f38)
  (WY:c6 K "dealing_at" (top 52) f39)
  (WX:c6 K "dealing_by" (top 53) f40)
  (WW:c6 K "pieces_for" (top 54) f41)
  (WV:c6 K "spend" (top 55) f42)
  (WU:c6 K "way_to_unsold" (top 56) f43)
  (WT:c6 K "most_along" (top 57) f44)
  (WS:c6 K "send_along" (top 58) f45)
  (WR:c6 K "worths" (top 59) f46)
  (WQ:c6 K "_law_bag" (top 61) f47)
  (WP:c6 K "_law_take" (top 62) f48)
  (WO:c6 K "_law_frac" (top 63) f49)
  (WN:c6 K "_law_add" (top 64) f50)
  (WM:c6 K "_law_mul" (top 66) f51)
  (WL:c6 K "_law_div" (top 67) f52)
  (WK:c6 K "_law_sum" (top 69) f53)
  (WJ:c6 K "_law_purse" (top 71) f54)
  (QN:c6 K "law" (top 75) f55)
  (z0:PySem.W.nsIn K mainGlobals "len"=some none)
  (z1:PySem.W.nsIn K mainGlobals "range"=some none)
  (z2:PySem.W.nsIn K mainGlobals "tuple"=some none)
  (z3:PySem.W.nsIn K mainGlobals "list"=some none)
  (z4:PySem.W.nsIn K mainGlobals "all"=some none)
  (z5:PySem.W.nsIn K mainGlobals "any"=some none)
  (z6:PySem.W.nsIn K mainGlobals "max"=some none)
  (z7:PySem.W.nsIn K mainGlobals "min"=some none)
  (z8:PySem.W.nsIn K mainGlobals "sum"=some none)
  (z9:PySem.W.nsIn K mainGlobals "abs"=some none)
  (UZ:PySem.W.nsIn K mainGlobals "int"=some none)
  (UY:PySem.W.nsIn K mainGlobals "isinstance"=some none)
  (UX:PySem.W.nsIn K mainGlobals "bool"=some none)
  (UW:PySem.W.nsIn K mainGlobals "enumerate"=some none)
  (UV:PySem.W.nsIn K mainGlobals "ValueError"=some none)
  (Lb:PySem.W.nsIn K mainGlobals "zip"=some none)
  (gM:PySem.W.nsIn K mainGlobals "MartError"=some (some (.ref M)))
  (Wm:PySem.W.nsIn K mainGlobals "NoNumber"=some (some (.ref Nn)))
  (Wk:PySem.W.nsIn K mainGlobals "NoPrices"=some (some (.ref Pr)))
  (Wn:PySem.W.nsIn K mainGlobals "Dear"=some (some (.ref De)))
  (Wj:PySem.W.nsIn K mainGlobals "Unwished"=some (some (.ref Un)))
  (ti1:PySem.W.kitOne K (.type "NoneType") (.type "int")=some false)
  (ti2:PySem.W.kitOne K (.type "bool") (.type "int")=some true)
  (Vc:PySem.W.kitOne K (.type "int") (.type "int")=some true)
  (Vb:PySem.W.kitOne K (.type "str") (.type "int")=some false)
  (Va:PySem.W.kitOne K (.type "list") (.type "int")=some false)
  (U9:PySem.W.kitOne K (.type "tuple") (.type "int")=some false)
  (Vi:PySem.W.kitOne K (.type "NoneType") (.type "bool")=some false)
  (Vh:PySem.W.kitOne K (.type "bool") (.type "bool")=some true)
  (Vg:PySem.W.kitOne K (.type "int") (.type "bool")=some false)
  (Vf:PySem.W.kitOne K (.type "str") (.type "bool")=some false)
  (Ve:PySem.W.kitOne K (.type "list") (.type "bool")=some false)
  (Vd:PySem.W.kitOne K (.type "tuple") (.type "bool")=some false)
  (A0:PySem.W.kitOne K (.type "NoneType") (.type "tuple")=some false)
  (AZ:PySem.W.kitOne K (.type "bool") (.type "tuple")=some false)
  (U5:PySem.W.kitOne K (.type "int") (.type "tuple")=some false)
  (U4:PySem.W.kitOne K (.type "str") (.type "tuple")=some false)
  (U3:PySem.W.kitOne K (.type "list") (.type "tuple")=some false)
  (U2:PySem.W.kitOne K (.type "tuple") (.type "tuple")=some true)
  (LW:PySem.W.excIn K Nn [.type "ValueError",.type "Exception",.type "BaseException",.type "object"] "ValueError.__new__"=true)
  (LV:PySem.W.excIn K Pr [.type "ValueError",.type "Exception",.type "BaseException",.type "object"] "ValueError.__new__"=true)
  (LX:PySem.W.excIn K De [.type "ValueError",.type "Exception",.type "BaseException",.type "object"] "ValueError.__new__"=true)
  (LU:PySem.W.excIn K Un [.type "ValueError",.type "Exception",.type "BaseException",.type "object"] "ValueError.__new__"=true) :
  ∃fd:FuncData,(∀(s:Shared) (v:Value),BindsTo s fd ⟨[v],[]⟩ [("script",v)])/\∀base:Heap,K.In base->base.Ns mainGlobals mg->aK l.prog w K mg base ci 14 fa fd ["script"] (wX K):=by
 obtain⟨_,F0⟩:=uU ["thing"] X G a0;obtain⟨_,F1⟩:=uU ["thing"] X G a1;obtain⟨_,F2⟩:=jA ["one","other"] X G a2;obtain⟨_,F3⟩:=jA ["top","bottom"] X G a3;obtain⟨_,F4⟩:=jA ["one","other"] X G a4;obtain⟨_,F5⟩:=jA ["one","other"] X G a5;obtain⟨_,F6⟩:=jA ["one","other"] X G a6;obtain⟨_,F7⟩:=jA ["one","other"] X G a7;obtain⟨_,F8⟩:=uU ["parts"] X G a8;obtain⟨_,F9⟩:=uU ["parts"] X G a9;obtain⟨_,F10⟩:=uU ["parts"] X G XT;obtain⟨_,F11⟩:=uU ["parts"] X G QO;obtain⟨_,F12⟩:=jA ["wishes","got"] X G XS;obtain⟨_,F13⟩:=jA ["market","dealing"] X G XR;obtain⟨_,UU⟩:=uU ["market"] X G XQ;obtain⟨_,F15⟩:=uU ["market"] X G XO;obtain⟨_,F16⟩:=jA ["market","thing"] X G XN;obtain⟨_,F17⟩:=jA ["market","thing"] X G XM;obtain⟨_,F18⟩:=jA Ψ8 X G XJ;obtain⟨_,F19⟩:=jA Ψ8 X G XI;obtain⟨_,F20⟩:=jA ["row","prices"] X G XH;obtain⟨_,F21⟩:=jA ["wish","price"] X G XG;obtain⟨_,UT⟩:=jA ["best","goods"] X G XF;obtain⟨_,US⟩:=uU ["members"] X G XE;obtain⟨_,UR⟩:=jA Ψ8 X G XD;obtain⟨_,UQ⟩:=jA ["coins","some"] X G XC;obtain⟨_,F26⟩:=jA Ψ8 X G XB;obtain⟨_,F27⟩:=jA Ψ8 X G XA;obtain⟨_,F28⟩:=jA Ψ8 X G W9;obtain⟨_,F29⟩:=jA ["best","paid"] X G W8;obtain⟨_,F30⟩:=UF ["market","prices","loose","rising"] X G W7;obtain⟨_,F31⟩:=UF ["market","prices","loose","paid"] X G W6;obtain⟨_,F32⟩:=QD ["prices","rising","factor"] X G a32;obtain⟨_,F33⟩:=uU ["market"] X G W5;obtain⟨_,F34⟩:=jA ["wishes","good"] X G W4;obtain⟨_,F35⟩:=jA Ψ8 X G W3;obtain⟨_,F36⟩:=jA ["prices","told"] X G W1;obtain⟨_,F37⟩:=uU ["market"] X G W0;obtain⟨_,F38⟩:=uU ["market"] X G WZ;obtain⟨_,F39⟩:=jA Ψ8 X G WY;obtain⟨_,F40⟩:=QD ["market","money","spent"] X G WX;obtain⟨_,F41⟩:=QD ["coins","money","amount"] X G WW;obtain⟨_,F42⟩:=QD ["best","money","purses"] X G WV;obtain⟨_,F43⟩:=UF ["best","spent","unsold","buyer"] X G WU;obtain⟨_,F44⟩:=UF ["way","spent","unsold","left"] X G WT;obtain⟨_,F45⟩:=QD ["way","spent","coins"] X G WS;obtain⟨_,F46⟩:=uU ["market"] X G WR;obtain⟨_,F47⟩:=jA ["script","k"] X G WQ;obtain⟨_,F48⟩:=jA ["bag","many"] X G WP;obtain⟨_,UP⟩:=jA ["top","bottom"] X G WO;obtain⟨_,F50⟩:=jA ["one","other"] X G WN;obtain⟨_,F51⟩:=jA ["one","other"] X G WM;obtain⟨_,F52⟩:=jA ["one","other"] X G WL;obtain⟨_,F53⟩:=uU ["some"] X G WK;obtain⟨_,F54⟩:=uU ["bag"] X G WJ;obtain⟨ahB,ahA,ZR,δ,ZG,ρ,ι,ε,ahy,QN,l55,c55,k55⟩:=QN;have e:=hfa.symm.trans (PySem.W.mg_of X G QN);cases e;have N:Nm mg:=⟨Yu X G z0,Yu X G z1,Yu X G z2,Yu X G z3,Yu X G z4,Yu X G z5,Yu X G z6,Yu X G z7,Yu X G z8,Yu X G z9,Yu X G UZ,Yu X G UY,Yu X G UX,Yu X G UW,Yu X G UV⟩;have Gk:=Yu X G Lb;have Z:K5 K:=⟨ti1,ti2,Vc,Vb,Va,U9,Vi,Vh,Vg,Vf,Ve,Vd,A0,AZ,U5,U4,U3,U2⟩;have mgM:=PySem.W.mg_of X G gM;have RA:=PySem.W.mg_of X G Wm;have ZL:=PySem.W.mg_of X G Wk;have ZM:=PySem.W.mg_of X G Wn;have ZK:=PySem.W.mg_of X G Wj;have F55:=vA (st:=top 75) l55 c55 k55;refine⟨PySem.W.fnOf "law" "law" (uL (top 75)) (rO (top 75)) (bz (top 75)) .none ZR δ ZG ρ ι ε,λs v=>.of_eq rfl,λbase _ _=>?_⟩;have W:=F0.c l w base (Ef F0.F N Z);have Gc:=F2.c l w base (Nw F2.F N);have Gn:=F2.c l w base (HZ F2.F N);have IF:=F1.c l w base (Ai F1.F N Z W Gc);have Fr:=F3.c l w base (ug F3.F RA LW Gn);have Pl:=F4.c l w base (HM F4.F Fr);have Ti:=F5.c l w base (Eg F5.F Fr);have Ov:=F6.c l w base (HP F6.F Fr);have Ls:=F7.c l w base (HW F7.F);have Gr:=F10.c l w base (uf F10.F Ls);have Ra:=F21.c l w base (HK F21.F Ov);have Wi:=UU.c l w base (HE (CW UU.F N));have Ar:=F16.c l w base (NA F16.F N Z IF Wi);have Ne:=F17.c l w base (HR F17.F ZL LV Ar);have Bb:=F20.c l w base (Tu F20.F N Ra Gr);have Be:=F19.c l w base (Tt F19.F N Ne Bb);have Tb:=UT.c l w base (Nj (CY UT.F N));have WiM:=UU.c l w base (CW UU.F N);have TbM:=UT.c l w base (CY UT.F N);have AsM:=US.c l w base (yl US.F N);have CoM:=UQ.c l w base (tF UQ.F N);have MbM:=F18.c l w base (HU F18.F N Gk Ti);have OOM:=F11.c l w base (HQ F11.F N Gn);have ICM:=UR.c l w base (yj UR.F N OOM MbM);have As:=US.c l w base (HF (yl US.F N));have IC:=UR.c l w base (Nk (yj UR.F N OOM MbM));have Co:=UQ.c l w base (Nl (tF UQ.F N));have GA:=F26.c l w base (Tr F26.F Be IC Co Tb As Wi);have PG:=F27.c l w base (Tp F27.F N ZM LX GA);have LoM:=F29.c l w base (HV F29.F N);have RsM:=F32.c l w base (HL F32.F N Ti);have LeM:=F9.c l w base (Ek F9.F N Ls);have PfM:=F30.c l w base (HN F30.F N ICM Fr CoM TbM AsM);have MfM:=F31.c l w base (Ej F31.F N Gk Ov Ra);have Ri:=F28.c l w base (HJ F28.F N PG WiM Be LoM PfM MfM LeM RsM);have Wl:=F15.c l w base (Tn F15.F N);have Le:=F9.c l w base (HX F9.F Ls);have GS:=F34.c l w base (Tq F34.F N Fr Gr);have FP:=F33.c l w base (Ts F33.F N ZK LU Wi Wl Le Ov Ti GS);have ToP:=F8.c l w base (HG F8.F N Pl);have WoP:=F12.c l w base (Np F12.F N Gk ToP Ti);have WsP:=F13.c l w base (No F13.F N Gk WoP);have PfP:=F41.c l w base (Nu F41.F N Fr);have DbP:=F40.c l w base (Nx F40.F N PfP);have Wy:=F43.c l w base (Nq F43.F N);have Mst:=F44.c l w base (HS F44.F N);have Snd:=F45.c l w base (HI F45.F N);have Spd:=F42.c l w base (Eh F42.F N Wy Mst Snd);have Dat:=F39.c l w base (Ny F39.F N ICM Be Spd DbP);have Ris:=F35.c l w base (Ei F35.F N Ri);have Pbh:=F36.c l w base (Nv F36.F N);have Ptc:=F38.c l w base (Nt F38.F N FP Ris Pbh);have Clr:=F37.c l w base (El F37.F N Ptc Dat);have Wts:=F46.c l w base (Ag F46.F N WsP Clr);have Bg:=F47.c l w base (Nz F47.F N);have T:=F48.c l w base (HH F48.F);have YA:=UP.c l w base (JO UP.F N);have Lf:=UP.c l w base (Ee (JO UP.F N));have Lu:=F54.c l w base (Ah F54.F T Lf);have LmQ:=F51.c l w base (vV F51.F YA);have La:=F50.c l w base (vX F50.F YA);have Su:=F53.c l w base (Nr F53.F La);have Ld:=F52.c l w base (vW F52.F YA);exact NS (HY F55 N Bg T Lu Su LmQ Ld Clr Wts)
def walk {l:PySem.W.OpenLaw}{q:Program}{loose:Δ2}{XP:(Θ3)->Heap->Prop}{YP:World->Heap->Prop}{d:DefRec}{K:Params->Θ1}(hn:l.most=some 63)(P6:d.params.defaults=[])
  (hY:∀(w:World) (h:Heap),YP w h->(K w.params).In h)
  (F:∀(w:World) (mg:Θ3) (fa:Addr) (h:Heap),(K w.params).In h->h.Ns mainGlobals mg->mg d.name=some (.ref fa) ->
   ∃fd:FuncData,(∀(s:Shared) (u:Value),BindsTo s fd ⟨[u],[]⟩ [("script",u)])/\∀base:Heap,(K w.params).In base->base.Ns mainGlobals mg->aK l.prog w (K w.params) mg base ci 14 fa fd ["script"] (wX (K w.params))) :
  PySem.W.WalkO q loose XP YP l.row.toRowW d [] (λf vs=>PySem.call f vs) :=
 L2.GW (n:=63) (k:=14) (x:="script") (CX:=λ_=>ci) (sp:=λw=>wX (K w.params)) hn (by decide) P6 ⟨rfl,by decide,by decide⟩ hY F (λ_ _ a ns hl _ hS=>⟨a,ns,rfl,hS,hl,λ_=>rfl⟩) λ_ _ _ _ _ z=>z
end BA
open PySem PySem.W PyProof.Rows
namespace PySem.W.Fast
def tw1549479596527819319:=0
def tw2228472232581584254:=0
def tw18071424189129188128:=0
def tw17559687988239918807:=0
def tw8013608770739754499:=0
def tw14987121030630581139:=0
def tw3016861600271303492:=0
def tw17238472100739298581:=0
def tw15854599040017229855:=0
def tw11722941596281774674:=0
def tw5735102113216489491:=0
def tw3174237487389359242:=0
def tw8588412772209657065:=0
def tw4529156357946044551:=0
def tw17302138392276732691:=0
def tw10385093312954422719:=0
def tw16986320088630522250:=0
def tw12942701605142650763:=0
def tw5940927667725863346:=0
def tw18400968183648688141:=0
def tw12332212812424726169:=0
def tw3235729397421204043:=0
def tw2647349246877442606:=0
def tw17348258567462803832:=0
def tw14050820636558245636:=0
def tw12609743529023017067:=0
def tw8034206530179449324:=0
def tw16943524033585907094:=0
def tw16954297866030081550:=0
def tw7938183485617295471:=0
def tw1058845194092666752:=0
def tw2881900074866032630:=0
def tw9434653461344430354:=0
def tw3221602782834952022:=0
def tw1047363857058630536:=0
def tw13539557779827952122:=0
def tw8352030110461624595:=0
def tw14522175153955186189:=0
def tw16132646490092047053:=0
def tw11208395880204103493:=0
def tw756919886324592834:=0
def tw15728794972304102768:=0
def tw12567603910589762835:=0
def tw15177437946672693253:=0
def tw18161556027498048078:=0
def tw6602229584426216551:=0
def tw10341766522727400766:=0
def tw4330788764259653034:=0
def tw15209003169770679579:=0
def tw12778524923852483756:=0
def tw11606549624147514788:=0
def tw4332808372064779869:=0
def tw12407977434322481882:=0
def tw9239717656131822914:=0
def tw10660011615545515233:=0
def tw7038537023321536545:=0
def tw296914290568631145:=0
def tw5983205299222798023:=0
def tw840814475795697226:=0
def tw1284518520740115301:=0
def tw9226577375123649856:=0
def tw1907684458076675643:=0
def tw15703504499379245092:=0
def tw5668213984439305532:=0
def tw6485983482876917285:=0
def tw13269435047138841968:=0
def tw12546698860274533437:=0
def tw17230949775484734775:=0
def tw10055807562026863487:=0
def tw2871269403219243989:=0
def tw8648198278920922734:=0
def tw18175184909080748018:=0
def tw1101211349735774827:=0
def tw8808271627588092994:=0
def tw9899086252892608656:=0
def tw7973220692657965075:=0
def tw9512792703832412608:=0
def tw4487420357283577010:=0
def tw13420572748267738934:=0
def tw12244179722458565068:=0
def tw13242051341700479999:=0
def tw7125716822740944795:=0
def tw11870651649662896128:=0
def tw643188041319461202:=0
def tw17962959918299297921:=0
def tw3130055388137008672:=0
def tw6641818129028706107:=0
def tw6963798249237664272:=0
def tw3234499928354814467:=0
def tw11587090983960838691:=0
def tw13347764175221417538:=0
def tw7353468372820051762:=0
def tw10403031834896369189:=0
def tw1065322088225429131:=0
def tw4940341412064028049:=0
def tw9827777269886281304:=0
def tw9734513139482653378:=0
def tw17244728910895812320:=0
def tw17167849717727170614:=0
def tw18036243251426384370:=0
def tw12392592999475579813:=0
def tw12689341294318357502:=0
def tw14904886242415573439:=0
def tw6541826568114627578:=0
def tw13516275432120122930:=0
def tw11464496356577043491:=0
def tw7192649669387133454:=0
def tw8062307438995855565:=0
def tw16934988172990106234:=0
def tw5662408264187123783:=0
def tw13424522288254875665:=0
def tw17674954637749589289:=0
def tw1937401362554940098:=0
def tw6598398208709783749:=0
def tw16335205575341965599:=0
def tw7498870610064996185:=0
def tw6163816144292298448:=0
def tw4962317117401154125:=0
def tw4227119937630087776:=0
def tw3177091957603269746:=0
def tw17455528785161230523:=0
def tw7819552456351860083:=0
def tw3571816981238201281:=0
def tw3207604014223309817:=0
def tw10351635458861712250:=0
def tw486369261860440642:=0
def tw3505649178027347449:=0
def tw13314367753016637053:=0
def tw12570318283408766370:=0
def tw16687477581694501516:=0
def tw5385989529066507689:=0
def tw8189329997310200231:=0
def tw3939113903650131883:=0
def tw3306333681817557023:=0
def tw1877975620652739965:=0
def tw3520964237423274457:=0
def tw17206278392542420054:=0
def tw10381337788807194388:=0
def tw8932616453866289753:=0
def tw8621555788561898409:=0
def tw12758075175857348902:=0
def tw2331980758898297576:=0
def tw8846320345856823699:=0
def tw2711727265493010396:=0
def tw11157116951724757362:=0
def tw6318312793936403120:=0
def tw7903442952723893316:=0
def tw4153724245007589800:=0
def tw10716409799652071713:=0
def tw13061461332529340027:=0
def tw17677661508962184996:=0
def tw15816029528690896042:=0
def tw737881938841627764:=0
def tw123721536366567142:=0
def tw7421543604886845722:=0
def tw17045883660314974264:=0
def tw1607608202952020910:=0
def tw6751595102311296584:=0
def tw7726792926318384223:=0
def tw14886142083097507730:=0
def tw13809804099128261733:=0
def tw7334320422821198930:=0
def tw13902647625892549925:=0
def tw5222501985994035642:=0
def tw13027667707997752096:=0
def tw9406354580143363047:=0
def tw4412708701477580178:=0
def tw14753093389705108403:=0
def tw17420053798862873335:=0
def tw12730379811157527823:=0
def tw1643436108732770403:=0
def tw4871650517585663445:=0
def tw455639031647918670:=0
def tw5794484703454317836:=0
end PySem.W.Fast
set_option maxRecDepth 100000 in
set_option maxHeartbeats 0 in
theorem PySem.Challenge.cw_wishmart_k43_whole_one_buyer_or_one_good_holds : PySem.Challenge.rw_wishmart_k43_whole_one_buyer_or_one_good.Holds := by
 w_on;o_law;k_head;(case hw=>w_witness2)
 k_fill
 refine BA.walk (l:=PySem.Challenge.rw_wishmart_k43_whole_one_buyer_or_one_good) rfl rfl (λw h Y=>PySem.W.kIn_of Y) ?F
 case F =>
  intro w mg fa h KX G PQ;refine' BA.all_mk KX G PQ ?a0 ?a1 ?a2 ?a3 ?a4 ?a5 ?a6 ?a7 ?a8 ?a9 ?XT ?QO ?XS ?XR ?XQ ?XO ?XN ?XM ?XJ ?XI ?XH ?XG ?XF ?XE ?XD ?XC ?XB ?XA ?W9 ?W8 ?W7 ?W6 ?a32 ?W5 ?W4 ?W3 ?W1 ?W0 ?WZ ?WY ?WX ?WW ?WV ?WU ?WT ?WS ?WR ?WQ ?WP ?WO ?WN ?WM ?WL ?WK ?WJ ?QN ?z0 ?z1 ?z2 ?z3 ?z4 ?z5 ?z6 ?z7 ?z8 ?z9 ?UZ ?UY ?UX ?UW ?UV ?Lb ?gM ?Wm ?Wk ?Wn ?Wj ?ti1 ?ti2 ?Vc ?Vb ?Va ?U9 ?Vi ?Vh ?Vg ?Vf ?Ve ?Vd ?A0 ?AZ ?U5 ?U4 ?U3 ?U2 ?LW ?LV ?LX ?LU
  (case a0 |a1 |a2 |a3 |a4 |a5 |a6 |a7 |a8 |a9 |XT |QO |XS |XR |XQ |XO |XN |XM |XJ |XI |XH |XG |XF |XE |XD |XC |XB |XA |W9 |W8 |W7 |W6 |a32 |W5 |W4 |W3 |W1 |W0 |WZ |WY |WX |WW |WV |WU |WT |WS |WR |WQ |WP |WO |WN |WM |WL |WK |WJ |QN=>exact⟨_,_,_,_,_,_,_,_,_,by k_is,by k_is,by k_is,by k_is⟩)
  (case z0 |z1 |z2 |z3 |z4 |z5 |z6 |z7 |z8 |z9 |UZ |UY |UX |UW |UV |Lb |gM |Wm |Wk |Wn |Wj=>k_is)
  (case ti1 |ti2 |Vc |Vb |Va |U9 |Vi |Vh |Vg |Vf |Ve |Vd |A0 |AZ |U5 |U4 |U3 |U2=>first |rfl |kit_is |k_is)
  (case LW |LV |LX |LU=>first |k_is |kit_is |rfl |kernel_rfl |decide+kernel)
