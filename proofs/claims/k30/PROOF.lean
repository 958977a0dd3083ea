import PyProof.Rows.All
import Wide.All
import OpenK.AllK
import Wide.FinOn
import Lean
import PyProof.EqAt
import PyProof.EqKinds
import PyProof.TupleCall
import KE.KMinKey
import PyProof.Rows.CallKwBuiltin
import PyProof.ListRange
import PyProof.Rows.SortWalk
import PySem.Challenge.RW_wishmart_k30_whole_barters_let_by
set_option Elab.async false
set_option linter.all false
set_option maxRecDepth 100000
set_option maxHeartbeats 8000000
set_option compiler.extract_closed false
noncomputable section
abbrev Γ1:=List (List Int)
abbrev Γ2:=List (PySem.Addr×PySem.Obj)
abbrev Γ3:=List Int
abbrev Δ1:=List Rat
abbrev Δ2:=List PySem.Str
abbrev Δ3:=List PySem.Value
abbrev Θ1:=PySem.W.Frag
abbrev Θ2:=PySem.Value->PySem.Shared->Prop
abbrev Θ3:=PySem.Str->Option PySem.Value
abbrev Ξ1:=List PySem.PyData
abbrev Ξ2:=List PySem.Expr
abbrev Φ1:=Option PySem.Value
theorem Ψ9(N:List PySem.Str)(h:N.Nodup:=by decide+kernel):N.Nodup:=h
abbrev Za:=@PySem.wpAny_bind
abbrev Zb:=@List.length_map
abbrev Zc:=@List.getElem?_eq_getElem
abbrev Zd:=@List.getElem?_eq_some_iff
abbrev Ze:=@Nat.le_refl
abbrev Zf:=@List.mem_cons
abbrev Zg:=@List.getElem?_map
abbrev Zh:=@List.mem_map
abbrev Zi:=@List.map_map
abbrev Zj:=@Int.toNat_natCast
abbrev Zk:=@List.mem_cons_of_mem
abbrev Zl:=@Bool.and_eq_true
abbrev Zm:=@List.mem_range
abbrev Zn:=@List.length_append
abbrev Zo:=@List.mem_cons_self
abbrev Zp:=@List.mem_append
abbrev Zq:=@List.mem_append_right
abbrev Zr:=@List.getElem?_append_left
abbrev Zs:=@List.map_append
abbrev Zt:=@List.size_toArray
abbrev Zu:=@List.all_eq_true
abbrev Zv:=@List.getElem_mem
abbrev Zw:=@List.getElem?_set_ne
abbrev Zy:=@Bool.false_ne_true
abbrev Zz:=@Nat.lt_or_ge
abbrev Ya:=@Nat.lt_of_lt_of_le
abbrev Yb:=@List.mem_filter
abbrev Yc:=@List.mem_of_getElem?
abbrev Yd:=@Nat.ne_of_lt
abbrev Ye:=@Nat.le_trans
abbrev Yf:=@List.getElem?_set_self
abbrev Yg:=@List.append_nil
abbrev Yh:=@List.nodup_cons
abbrev Yi:=@List.mem_singleton
abbrev Yj:=@List.map_cons
abbrev Yk:=@List.length_take
abbrev Yl:=@List.length_set
abbrev Ym:=@Bool.eq_false_iff
abbrev Yn:=@Nat.zero_le
abbrev Yo:=@List.range_succ
abbrev Yp:=@Bool.eq_iff_iff
abbrev Yq:=@List.getElem?_eq_none
abbrev Yr:=@List.all_map
abbrev Ys:=@Bool.true_and
abbrev Yt:=@List.getElem?_append_right
abbrev Yu:=@List.getElem?_range
abbrev Yv:=@Nat.lt_irrefl
abbrev Yw:=@List.mem_append_left
abbrev Yx:=@List.length_drop
abbrev Yy:=@List.nodup_append
abbrev Yz:=@List.take_length
abbrev Xa:=@Nat.le_succ
abbrev Xb:=@List.any_eq_true
abbrev Xc:=@Bool.not_eq_true
abbrev Xd:=@Rat.intCast_mul
abbrev Xe:=@List.all_cons
abbrev Xf:=@List.append_assoc
abbrev Xg:=@Option.map_some
abbrev Xh:=@List.not_mem_nil
abbrev Xi:=@List.map_congr_left
abbrev Xj:=@Nat.ne_of_gt
abbrev Xk:=@Bool.and_false
abbrev Xl:=@Rat.num_divInt_den
abbrev Xm:=@Int.mul_pos
abbrev Xn:=@List.filter_sublist
abbrev Xo:=@List.length_range
abbrev Xp:=@List.getElem_of_mem
abbrev Xq:=@List.replicate_succ
abbrev Xr:=@List.filter_append
abbrev Xs:=@List.length_filter_le
abbrev Xt:=@Int.emod_nonneg
abbrev Xu:=@List.filterMap_cons
abbrev Xv:=@Option.isSome_iff_exists
abbrev Xw:=@List.any_cons
abbrev Xx:=@List.flatten_cons
abbrev Xy:=@List.lookup_cons
abbrev Xz:=@List.take_add_one
abbrev Qa:=@List.sum_append
abbrev Qb:=@Option.map_eq_some_iff
abbrev Qc:=@List.find?_cons
abbrev Qd:=@List.any_map
abbrev Qe:=@List.contains_iff_mem
abbrev Qg:=@List.filter_eq_self
abbrev Qh:=@List.any_eq_false
abbrev Qi:=@List.getElem?_replicate
abbrev Qj:=@Option.getD_some
abbrev Qk:=@Nat.pow_le_pow_right
abbrev Ql:=@Int.emod_lt_of_pos
abbrev Qm:=@List.mem_of_mem_take
abbrev Qn:=@List.mem_of_mem_drop
abbrev Qo:=@List.length_replicate
abbrev Qp:=@List.length_singleton
abbrev Qq:=@Nat.lt_succ_of_lt
abbrev Qr:=@Option.bind_eq_some_iff
abbrev Qs:=@Int.mul_fdiv_cancel_left
abbrev Qu:=@List.nodup_range
abbrev Qv:=@List.ext_getElem?
abbrev Qw:=@Int.gcd_pos_of_ne_zero_right
abbrev Qx:=@List.length_eq_zero_iff
namespace L2
open PySem PySem.Spec PyProof.Rows
abbrev cU:=Sum Int Str
def oh:cU->Value->Bool
 |.inl k,v=>Value.isInt k v
 |.inr x,v=>Value.isStrOf x v
def WT (w:World):cU->Int
 |.inl k=>hashInt k
 |.inr x=>hashStr w x
theorem EH:∀{k:cU}{v:Value},oh k v=true->(∃i t,k=Sum.inl i/\v=Value.int i t)\/(∃x t,k=Sum.inr x/\v=Value.str x t)
 |.inl i,v,h=>by
  obtain⟨t,e⟩:=Value.isInt_shape (k:=i) (v:=v) h;exact .inl ⟨i,t,rfl,e⟩
 |.inr x,v,h=>by
  obtain⟨t,e⟩:=Value.isStrOf_shape (x:=x) (v:=v) h;exact .inr ⟨x,t,rfl,e⟩
theorem Ah (i:Int)(t:Tok):oh (.inl i) (.int i t)=true:=by simp[oh,Value.isInt]
theorem Ag (x:Str)(t:Tok):oh (.inr x) (.str x t)=true:=by simp[oh,Value.isStrOf]
theorem MZ (a b:Int):decide ((Sum.inl a:cU)=Sum.inl b)=(a == b):=by
 by_cases e:a=b
 .subst e;simp
 .have h:¬ (Sum.inl a:cU)=Sum.inl b:=λq=>e (Sum.inl.inj q)
  rw[decide_eq_false h];exact(beq_eq_false_iff_ne.mpr e).symm
theorem MW (a b:Str):decide ((Sum.inr a:cU)=Sum.inr b)=decide (a=b):=by
 by_cases e:a=b
 .subst e;simp
 .have h:¬ (Sum.inr a:cU)=Sum.inr b:=λq=>e (Sum.inr.inj q)
  rw[decide_eq_false h,decide_eq_false e]
theorem MY (a:Int)(b:Str):decide ((Sum.inl a:cU)=Sum.inr b)=false:=decide_eq_false (λq=>nomatch q)
theorem MX (a:Str)(b:Int):decide ((Sum.inr a:cU)=Sum.inl b)=false:=decide_eq_false (λq=>nomatch q)
def tu (prog:Program)(w:World):PySem.KeyKind prog w cU where
 is:=oh
 hash:=WT w
 inj:=λv a b ha hb=>by
  rcases EH ha with ⟨i,t,rfl,rfl⟩ |⟨x,t,rfl,rfl⟩
  .rcases EH hb with ⟨j,u,rfl,e⟩ |⟨y,u,rfl,e⟩
   .injection e with e1 _;rw[e1]
   .exact nomatch e
  .rcases EH hb with ⟨j,u,rfl,e⟩ |⟨y,u,rfl,e⟩
   .exact nomatch e
   .injection e with e1 _;rw[e1]
 byValue:=λk v h=>by
  rcases EH h with ⟨i,t,rfl,rfl⟩ |⟨x,t,rfl,rfl⟩<;>rfl
 pyHash:=λhv h=>by
  rcases EH hv with ⟨i,t,rfl,rfl⟩ |⟨x,t,rfl,rfl⟩
  .exact wpAny_pyHash_int h
  .exact wpAny_pyHash_str h
 eqBool:=λhu hv h=>by
  rcases EH hu with ⟨i,t,rfl,rfl⟩ |⟨x,t,rfl,rfl⟩
  .rcases EH hv with ⟨j,u,rfl,rfl⟩ |⟨y,u,rfl,rfl⟩
   .rw[MZ] at h;exact wpAny_eqBool_int h
   .rw[MY] at h;exact SeqAt.EqAt.int_str i t y u _ _ _ _ h
  .rcases EH hv with ⟨j,u,rfl,rfl⟩ |⟨y,u,rfl,rfl⟩
   .rw[MX] at h;exact SeqAt.EqAt.str_int x t j u _ _ _ _ h
   .rw[MW] at h;exact wpAny_eqBool_str h
 «strs»:=λk x t v h=>by
  rcases EH h with ⟨i,u,rfl,e⟩ |⟨y,u,rfl,e⟩
  .exact nomatch e
  .injection e with e1 _
   subst e1;cases v<;>rfl
theorem u9 (prog:Program)(w:World)(i:Int)(t:Tok):(tu prog w).is (.inl i) (.int i t)=true:=Ah i t
theorem u8 (prog:Program)(w:World)(x:Str)(t:Tok):(tu prog w).is (.inr x) (.str x t)=true:=Ag x t
inductive V where
 |bO |bl (b:Bool) |int (i:Int) |str (x:Str) |zg (b:Array UInt8) |NG (b:UInt64) |ref (a:Addr) |ty (n:String)
 deriving DecidableEq
def RelV:V->Value->Prop
 |.bO,u=>u=Value.none
 |.bl b,u=>u=Value.bool b
 |.int i,u=>∃t,u=Value.int i t
 |.str x,u=>∃t,u=Value.str x t
 |.zg b,u=>∃t,u=Value.bytes b t
 |.NG b,u=>∃t,u=Value.float b t
 |.ref a,u=>u=Value.ref a
 |.ty n,u=>u=Value.type n
abbrev aP:List V->Δ3->Prop:=Paired RelV
theorem aP.length {xs:List V}{us:Δ3}(r:aP xs us):xs.length=us.length:=Paired.length r
theorem aP.get:∀{xs:List V}{us:Δ3}{i:Nat}{x:V},aP xs us->xs[i]?=some x->∃u,us[i]?=some u/\RelV x u
 |_,_,_,_,.nil,e=>by simp at e
 |_,_,0,_,.cons r _,e=>by simp at e;subst e;exact⟨_,rfl,r⟩
 |_,_,i+1,x,.cons _ t,e=>by
  obtain⟨u,h1,h2⟩:=aP.get (i:=i) (x:=x) t (by simpa using e);exact⟨u,by simpa using h1,h2⟩
theorem aP.set {x:V}{u:Value}(r:RelV x u):∀{xs:List V}{us:Δ3}(i:Nat),aP xs us->aP (xs.set i x) (us.set i u)
 |_,_,_,.nil=>.nil
 |_,_,0,.cons _ t=>.cons r t
 |_,_,i+1,.cons q t=>.cons q (aP.set r i t)
theorem aP.append:∀{xs ys:List V}{us ws:Δ3},aP xs us->aP ys ws->aP (xs++ys) (us++ws)
 |_,_,_,_,.nil,s=>s
 |_,_,_,_,.cons r t,s=>.cons r (aP.append t s)
theorem aP.take:∀{xs:List V}{us:Δ3}(n:Nat),aP xs us->aP (xs.take n) (us.take n)
 |_,_,0,_=>.nil
 |_,_,_+1,.nil=>.nil
 |_,_,n+1,.cons r t=>.cons r (aP.take n t)
theorem aP.drop:∀{xs:List V}{us:Δ3}(n:Nat),aP xs us->aP (xs.drop n) (us.drop n)
 |_,_,0,r=>r
 |_,_,_+1,.nil=>.nil
 |_,_,n+1,.cons _ t=>aP.drop n t
def aI:Option V->Φ1->Prop
 |some v,some u=>RelV v u
 |none,none=>True
 |_,_=>False
def KV {κ : Type}:List (κ × V)->List (κ × Value)->Prop:=Paired λ(p:κ × V) (q:κ × Value)=>p.1=q.1/\RelV p.2 q.2
def kV:cU->V
 |.inl i=>.int i
 |.inr x=>.str x
inductive HO where
 |lst (xs:List V)
 |tup (xs:List V)
 |dK (kvs:List (cU×V)) |dT (kvs:List (List cU×V))
 |set (S:Int->Bool) (n:Nat)
 |ins (C dx:Addr) (fs:List (Str×V))
 |own (x:Addr)
 |xd (fs:List (Str×V))
 |met (f x:Addr)
 |RW (lo hi:Int)
 |jO (o:Obj) (u:HO)
 |pq (ps:Array Value)
 |ext (φ : Heap->Prop)
abbrev Hp:=Addr->Option HO
def aK (H:Hp)(a:Addr)(o:HO):Hp:=λb=>if b=a then some o else H b
theorem cL {H:Hp}{a:Addr}{o:HO}:aK H a o a=some o:=by unfold aK;rw[if_pos rfl]
theorem dh {H:Hp}{a b:Addr}{o:HO}(h:b≠a):aK H a o b=H b:=by unfold aK;rw[if_neg h]
theorem Iz {H:Hp}{a b:Addr}{o u:HO}(h:H a=some o)(h':H b=some u)(d:o≠u):a≠b:=by
 intro e;subst e;rw[h] at h';exact d (Option.some.inj h')
theorem E3 {H:Hp}{a b:Addr}{o:HO}(h:H a=some o)(h':H b=none):a≠b:=by
 intro e;subst e;rw[h] at h';cases h'
section
variable (P:Program)(w:World)
def bY (H:Hp)(h:Heap)(a:Addr):HO->Prop
 |.lst xs=>xs.length<=sizeLine/\∃(its:Δ3) (n:Nat),aP xs its/\h.get? a=some { cls:=.type "list",data:=.seq its.toArray n }
 |.tup xs=>xs.length<=sizeLine/\∃its:Δ3,aP xs its/\IsTup h a its.toArray
 |.dK kvs=>kvs.length<=sizeLine/\(a == sysModules)=false/\∃vs,KV kvs vs/\h.DictOf (tu P w) a vs
 |.dT kvs=>kvs.length<=sizeLine/\(a == sysModules)=false/\∃xs:List (List cU×Addr×Value),
   Paired (λ(p:List cU×V) (q:List cU×Addr×Value)=>p.1=q.1/\H q.2.1=some (.tup (p.1.map kV))/\RelV p.2 q.2.2) kvs xs /\
   ∃o es ep,h.get? a=some o/\o.ExactDict/\o.data=.dict es ep/\es.toList=xs.map (entryOfKey (tupleKind (tu P w)))/\(xs.map (·.1)).Nodup
 |.set S n=>h.SetOf (intKind P w) a S n
 |.ins C dx fs=>H dx=some (.own a)/\fs.length<=1000/\dx≠a/\h.get? a=some (PySem.W.instObj C dx) /\
   ∃mA,h.Ns1 dx mA/\(∀f,aI (fs.lookup f) (mA f))/\PySem.Within mA (fs.map (·.1))
 |.own _=>∃o,h.get? a=some o
 |.xd fs=>∃mA,h.Ns1 a mA/\∀f,aI (fs.lookup f) (mA f)
 |.RW lo hi=>∃t u v,h.get? a=some { cls:=.type "range",data:=.fields #[.int lo t,.int hi u,.int 1 v] }
 |.jO o u=>h.get? a=some o/\bY H h a u
 |.pq ps=>h.get? a=some { cls:=.none,data:=.fields ps }
 |.met f x=>h.get? a=some (PySem.W.methodObj (.ref f) (.ref x))
 |.ext φ=>φ h/\(∃o,h.get? a=some o)/\∀h1 h2:Heap,φ h1->(∀o,h1.get? a=some o->h2.get? a=some o)->φ h2
def jP (H:Hp)(h:Heap):Prop:=∀a o,H a=some o->bY P w H h a o
end
section
variable {P:Program}{w:World}{H H':Hp}{h h':Heap}{a:Addr}{o:HO}
theorem bY.lt (x:bY P w H h a o):a<h.objs.size:=by
 cases o with
 |lst xs=>obtain⟨_,_,_,_,e⟩:=x;exact Heap.lt_size e
 |tup xs=>obtain⟨_,_,_,p⟩:=x;exact p.lt
 |dK kvs=>obtain⟨_,_,_,_,o,_,_,e,_⟩:=x;exact Heap.lt_size e
 |dT kvs=>obtain⟨_,_,_,_,o,_,_,e,_⟩:=x;exact Heap.lt_size e
 |set S n=>obtain⟨o,_,_,_,e,_⟩:=x;exact Heap.lt_size e
 |ins C dx fs=>obtain⟨_,_,_,e,_⟩:=x;exact Heap.lt_size e
 |own y=>obtain⟨_,e⟩:=x;exact Heap.lt_size e
 |xd fs=>obtain⟨_,⟨_,_,_,e,_⟩,_⟩:=x;exact Heap.lt_size e
 |RW lo hi=>obtain⟨_,_,_,e⟩:=x;exact Heap.lt_size e
 |jO ob u=>obtain⟨e,_⟩:=x;exact Heap.lt_size e
 |pq ps=>exact Heap.lt_size (show h.get? a=some _ from x)
 |met f y=>exact Heap.lt_size (show h.get? a=some _ from x)
 |ext φ=>obtain⟨_,⟨_,e⟩,_⟩:=x;exact Heap.lt_size e
theorem Paired.Ks {α β : Type}{F G:α->β->Prop}:∀{PU:List α}{PR:List β},Paired F PU PR->(∀a b,F a b->G a b)->Paired G PU PR
 |_,_,.nil,_=>.nil
 |_,_,.cons r t,f=>.cons (f _ _ r) (Paired.Ks t f)
theorem bY.ay (x:bY P w H h a o)(k:∀b u,(b=a\/H b=some (.own a))->h.get? b=some u->h'.get? b=some u)
  (ho:∀b,H b=some (.own a)->H' b=some (.own a)) (ht:∀b xs,H b=some (.tup xs)->H' b=some (.tup xs)):bY P w H' h' a o:=by
 induction o with
 |lst xs=>obtain⟨z,its,n,r,e⟩:=x;exact⟨z,its,n,r,k _ _ (.inl rfl) e⟩
 |tup xs=>obtain⟨z,its,r,ob,e,c⟩:=x;exact⟨z,its,r,ob,k _ _ (.inl rfl) e,c⟩
 |dK kvs=>obtain⟨z,y,vs,r,ob,es,ep,e,c⟩:=x;exact⟨z,y,vs,r,ob,es,ep,k _ _ (.inl rfl) e,c⟩
 |dT kvs =>
  obtain⟨z,y,xs,r,ob,es,ep,e,c⟩:=x;exact⟨z,y,xs,Paired.Ks r λp q z=>⟨z.1,ht _ _ z.2.1,z.2.2⟩,ob,es,ep,k _ _ (.inl rfl) e,c⟩
 |set S n=>obtain⟨ob,es,ep,t,e,c⟩:=x;exact⟨ob,es,ep,t,k _ _ (.inl rfl) e,c⟩
 |ins C dx fs =>
  obtain⟨d,z,ne,e,mA,⟨od,es,ep,e2,c⟩,r⟩:=x;exact⟨ho _ d,z,ne,k _ _ (.inl rfl) e,mA,⟨od,es,ep,k _ _ (.inr d) e2,c⟩,r⟩
 |own y=>obtain⟨ob,e⟩:=x;exact⟨ob,k _ _ (.inl rfl) e⟩
 |xd fs=>obtain⟨mA,⟨od,es,ep,e,c⟩,r⟩:=x;exact⟨mA,⟨od,es,ep,k _ _ (.inl rfl) e,c⟩,r⟩
 |RW lo hi=>obtain⟨t,u,v,e⟩:=x;exact⟨t,u,v,k _ _ (.inl rfl) e⟩
 |jO ob u ih=>obtain⟨e,q⟩:=x;exact⟨k _ _ (.inl rfl) e,ih q⟩
 |pq ps =>
  have e:h.get? a=some { cls:=.none,data:=.fields ps }:=x;show h'.get? a=some { cls:=.none,data:=.fields ps };exact k a _ (.inl rfl) e
 |met f y =>
  have e:h.get? a=some (PySem.W.methodObj (.ref f) (.ref y)):=x;show h'.get? a=some (PySem.W.methodObj (.ref f) (.ref y));exact k a _ (.inl rfl) e
 |ext φ=>obtain⟨p,⟨o,e⟩,st⟩:=x;exact⟨st _ _ p λo q=>k _ _ (.inl rfl) q,⟨o,k _ _ (.inl rfl) e⟩,st⟩
theorem jP.lt (x:jP P w H h)(e:H a=some o):a<h.objs.size:=(x a o e).lt
theorem jP.fresh (x:jP P w H h)(e:h.objs.size<=a):H a=none:=by
 cases q:H a with
 |none=>rfl
 |some u=>exact absurd (Ya (x.lt q) e) (Yv _)
theorem jP.kept (x:jP P w H h)(k:∀b u,h.get? b=some u->h'.get? b=some u):jP P w H h':=λa o e =>
 (x a o e).ay (λb u _ q=>k b u q) (λ_ q=>q) λ_ _ q=>q
theorem jP.laid (x:jP P w H h)(k:∀b u,h.get? b=some u->h'.get? b=some u)(hp:h.objs.size<=a)(new:bY P w (aK H a o) h' a o):jP P w (aK H a o) h':=λb u e=>by
 have hn:=x.fresh hp;by_cases hb:b=a
 .subst hb;rw[cL] at e;cases e;exact new
 .rw[dh hb] at e;exact(x b u e).ay (λc v _ q=>k c v q) (λc q=>by rw[dh (E3 q hn)];exact q) λc xs q=>by rw[dh (E3 q hn)];exact q
end
def Rd (H:Hp)(a:Addr)(u:HO):Prop:=H a=some u\/∃o,H a=some (.jO o u)
theorem Rd.ok {P:Program}{w:World}{H:Hp}{h:Heap}{a:Addr}{u:HO}(r:Rd H a u)(x:jP P w H h):bY P w H h a u:=by
 rcases r with r |⟨o,r⟩
 .exact x a u r
 .obtain⟨_,q⟩:=x a _ r;exact q
def OW:Option HO->Prop
 |some (.lst _)=>True
 |some (.dK _)=>True
 |some (.dT _)=>True
 |some (.set _ _)=>True
 |some (.ins _ _ _)=>True
 |some (.ext _)=>True
 |_=>False
section
variable {P:Program}{w:World}{H:Hp}{h h':Heap}{x e:Addr}{o':HO}
theorem jP.write (ok:jP P w H h)(mu:OW (H x))(he:e=x\/H e=some (.own x))(k:∀b u,b≠e->h.get? b=some u->h'.get? b=some u)(HP:∃u,h'.get? e=some u)
  (new:bY P w (aK H x o') h' x o'):jP P w (aK H x o') h':=λb u q=>by
 have Pw:∀c y,H c=some (.own y)->c≠x:=λc y r z=>by subst z;rw[r] at mu;exact mu
 have WO:∀c xs,H c=some (.tup xs)->c≠x:=λc xs r z=>by subst z;rw[r] at mu;exact mu
 by_cases hb:b=x
 .subst hb;rw[cL] at q;cases q;exact new
 .rw[dh hb] at q;by_cases JC:b=e
  .have q':H b=some (.own x):=by
    rcases he with z |z
    .exact absurd (JC.trans z) hb
    .rw[JC];exact z
   rw[q] at q';cases q';obtain⟨v,hv⟩:=HP;exact⟨v,by rw[JC];exact hv⟩
  .refine(ok b u q).ay (λc v hc r=>k c v ?_ r) (λc r=>by rw[dh (Pw c b r)];exact r) λc xs r=>by rw[dh (WO c xs r)];exact r
   rcases hc with rfl |hc
   .exact JC
   .rintro rfl;rcases he with z |z
    .exact Pw c b hc z
    .rw[hc] at z;cases z;exact hb rfl
end
structure Un (fs ex:List Addr)(H H':Hp)(h h':Heap):Prop where
 keep:∀b o,h.get? b=some o->H b=none->b∉fs->b∉ex->h'.get? b=some o
 slot:∀b o,h.get? b=some o->H b=none->b∈fs->b∉ex->∃sl,h'.get? b=some { o with slots:=sl }
 free:∀b o,h.get? b=some o->H b=none->b∉ex->H' b=none
 there:∀b o,h.get? b=some o->b∉ex->∃o',h'.get? b=some o'
 jY:∀b xs,H b=some (.tup xs)->H' b=some (.tup xs)
 lN:∀b o u,H b=some (.jO o u)->H' b=some (.jO o u)
 mw:∀b ps,H b=some (.pq ps)->∃Kf,H' b=some (.pq (ps++Kf))
section
variable {fs fs' ex ex':List Addr}{H H1 H2:Hp}{h h1 h2 h':Heap}{a x e:Addr}{o:HO}
theorem Un.any (u:Un fs ex H H1 h h1){b:Addr}{ob:Obj}(q:h.get? b=some ob)(n:H b=none)(hx:b∉ex):∃sl,h1.get? b=some { ob with slots:=sl }:=by
 by_cases hb:b∈fs
 .exact u.slot b ob q n hb hx
 .exact⟨ob.slots,u.keep b ob q n hb hx⟩
theorem Un.kept (k:∀b u,h.get? b=some u->h'.get? b=some u):Un fs ex H H h h' :=
 ⟨λb ob q _ _ _=>k b ob q,λb ob q _ _ _=>⟨ob.slots,k b ob q⟩,λ_ _ _ n _=>n,λb ob q _=>⟨ob,k b ob q⟩,λ_ _ q=>q,λ_ _ _ q=>q,λ_ ps q=>⟨#[],by rw[q];simp⟩⟩
theorem Un.refl:Un fs ex H H h h:=Un.kept λ_ _ q=>q
theorem Un.laid (k:∀b u,h.get? b=some u->h'.get? b=some u)(hp:h.objs.size<=a)(hn:H a=none):Un fs ex H (aK H a o) h h' where
 keep:=λb u q _ _ _=>k b u q
 slot:=λb u q _ _ _=>⟨u.slots,k b u q⟩
 free:=λb u q n _=>by rw[dh (Yd (Ya (Heap.lt_size q) hp))];exact n
 there:=λb u q _=>⟨u,k b u q⟩
 jY:=λb xs q=>by rw[dh (E3 q hn)];exact q
 lN:=λb u xs q=>by rw[dh (E3 q hn)];exact q
 mw:=λb ps q=>⟨#[],by rw[dh (E3 q hn),q];simp⟩
theorem Un.write (mu:OW (H x))(he:e=x\/H e=some (.own x))(k:∀b u,b≠e->h.get? b=some u->h'.get? b=some u)(HP:∃u,h'.get? e=some u):Un fs ex H (aK H x o) h h':=by
 have hx:∀b,H b=none->b≠x:=λb n z=>by subst z;rw[n] at mu;exact mu
 have hb:∀b,H b=none->b≠e:=λb n z=>by
  subst z;rcases he with r |r
  .exact hx b n r
  .rw[n] at r;cases r
 have hm:∀b u,H b=some u->¬ OW (some u)->b≠x:=λb u q nm z=>by subst z;rw[q] at mu;exact nm mu
 refine⟨λb u q n _ _=>k b u (hb b n) q,λb u q n _ _=>⟨u.slots,k b u (hb b n) q⟩,λb u q n _=>by rw[dh (hx b n)];exact n,λb u q _=>?_,
  λb xs q=>by rw[dh (hm b _ q λz=>z)];exact q,λb u xs q=>by rw[dh (hm b _ q λz=>z)];exact q,λb ps q=>⟨#[],by rw[dh (hm b _ q λz=>z),q];simp⟩⟩
 by_cases JC:b=e
 .subst JC;exact HP
 .exact⟨u,k b u JC q⟩
end
def RS (h:Heap)(H:Hp):List Addr:=(List.range h.objs.size).filter λa=>(H a).isSome
def rA (h:Heap)(H:Hp):Heap:=PySem.W.hideAll h (RS h H)
theorem An (h:Heap)(H:Hp):(rA h H).objs.size=h.objs.size:=PySem.W.hideAll_size _ _
theorem Eb {h:Heap}{H:Hp}{b:Addr}{o:Obj}(e:h.get? b=some o)(n:H b=none):(rA h H).get? b=some o :=
 PySem.W.hideAll_get _ e λhm=>by
  have q:(H b).isSome=true:=(Yb.mp hm).2;rw[n] at q;simp at q
theorem G6 {h:Heap}{H:Hp}{b:Addr}{o:Obj}(e:(rA h H).get? b=some o):h.get? b=some o/\H b=none:=by
 have e':h.get? b=some o:=PySem.W.of_hideAll (RS h H) e;refine⟨e',?_⟩;cases q:H b with
 |none=>rfl
 |some x =>
  have hm:b∈RS h H:=Yb.mpr ⟨Zm.mpr (Heap.lt_size e'),by simp[q]⟩;have z:(rA h H).get? b=none:=PySem.W.hideAll_none (RS h H) hm;rw[z] at e;cases e
structure Mod (K:Θ1)(mg:Θ3)(base:Heap):Prop where
 HH:K.In base
 glob:base.Ns mainGlobals mg
 blt:∃mb,base.Ns builtinsNs mb/\∀x:Str,x ≠ "__name__"->mb x=bootBuiltins x
 nolimit:base.NoLimit
structure Cx where
 prog:Program
 w:World
 K:Θ1
 mg:Str->Φ1
 base:Heap
 A:Around
 N:Δ2
 aT:Shared
 aD:Hp
 env:Env
 outer:List Env
 stack:List Env
 ex:List Addr
 fn:Str->Bool
 calm:Bool
 pn:Γ2
 xe:Value->Shared->Prop
def iG (l:List Env):List Addr:=l.filterMap (·.frame)
abbrev Cx.fs (X:Cx):List Addr:=iG X.outer
def NJ (sc:Scope)(x:Str):Prop:=sc.names.lookup x=some .local\/sc.names.lookup x=some .cell\/sc.names.lookup x=some .free
def Loc (sc:Scope)(x:Str):Prop:=sc.names.lookup x=some .local\/sc.names.lookup x=some .cell
def Look (env:Env)(h:Heap)(m:Θ3)(x:Str)(u:Value):Prop :=
 (env.kindOf x=some .local/\m x=some u)\/((env.kindOf x=some .cell\/env.kindOf x=some .free)/\∃c,env.cells.lookup x=some c/\h.IsCell c (some u))
structure Cx.Ok (X:Cx):Prop where
 mod:Mod X.K X.mg X.base
 kind:X.env.scope.kind=.function
 glob:X.env.globals=mainGlobals
 blt:X.env.builtins=builtinsNs
 above:X.aT.heap.objs.size<=X.env.locals
 inj:∀x y c,X.env.cells.lookup x=some c->X.env.cells.lookup y=some c->x=y
 has:∀x,(X.env.kindOf x=some .cell\/X.env.kindOf x=some .free)->∃c,X.env.cells.lookup x=some c
 HR:∀x c,X.fn x=true->X.env.cells.lookup x=some c->X.aT.heap.objs.size<=c
 hd:X.calm=true->X.A.handled=none
 frames:X.A.frames=some X.stack
 AG:X.stack=X.outer\/(X.stack=X.env::X.outer/\X.env.frame=some X.env.locals)
 zf:∀b∈X.ex,b≠X.env.locals/\∀x c,X.env.cells.lookup x=some c->c≠b
 bs:∀b o,X.base.get? b=some o->X.aT.heap.get? b=some o/\X.aD b=none
 AO:X.base.objs.size<=X.aT.heap.objs.size
 tT:∀b o,X.base.get? b=some o->b∉X.ex
 nR:∀b∈X.ex,b∉X.fs
 iR:X.aT.heap.FunFrames X.base X.outer
 EO:∀b∈X.fs,X.aD b=none
structure Inv (X:Cx)(aa:Γ2)(σ:List (Option V))(H:Hp)(s:Shared):Prop where
 ok:X.Ok
 os:s.os=X.aT.os
 bare:AllBare s.gens
 base:Un X.fs X.ex X.aD H X.aT.heap s.heap
 loc:∃m,s.heap.Ns X.env.locals m/\∀(i:Nat) (x:Str) (v:V),X.N[i]?=some x->σ[i]?=some (some v)->NJ X.env.scope x->∃u,RelV v u/\Look X.env s.heap m x u
 cell:∀x c,X.env.cells.lookup x=some c->∃v,s.heap.IsCell c v
 free:H X.env.locals=none
 fz:∀x c,X.env.cells.lookup x=some c->H c=none
 pin:∀p∈X.pn++aa,s.heap.get? p.1=some p.2/\H p.1=none/\p.1≠X.env.locals/\p.1∉X.fs/\∀v,p.2.data≠.cell v
 bt:jP X.prog X.w H s.heap
 len:σ.length=X.N.length
section
variable {X:Cx}{aa:Γ2}{σ:List (Option V)}{H H':Hp}{s:Shared}{h':Heap}
theorem Cx.Ok.FA (ok:X.Ok){b:Addr}{o:Obj}(e:X.base.get? b=some o):b∉X.fs:=λhb=>by
 have:=(ok.iR.mem hb).1;rw[e] at this;cases this
theorem Inv.bs (I:Inv X aa σ H s):∀b o,X.base.get? b=some o->s.heap.get? b=some o/\H b=none:=λb o e =>
 ⟨I.base.keep b o (I.ok.bs b o e).1 (I.ok.bs b o e).2 (I.ok.FA e) (I.ok.tT b o e),I.base.free b o (I.ok.bs b o e).1 (I.ok.bs b o e).2 (I.ok.tT b o e)⟩
theorem Inv.bk (I:Inv X aa σ H s):∀b o,X.base.get? b=some o->s.heap.get? b=some o:=λb o e=>(I.bs b o e).1
theorem Inv.mod (I:Inv X aa σ H s):Mod X.K X.mg X.base:=I.ok.mod
theorem Inv.l9 (I:Inv X aa σ H s):X.K.In s.heap:=I.ok.mod.HH.keeps I.bk
theorem Inv.lt (I:Inv X aa σ H s):X.env.locals<s.heap.objs.size:=let ⟨_,hn,_⟩:=I.loc;hn.lt
theorem Inv.sz (I:Inv X aa σ H s):X.aT.heap.objs.size<=s.heap.objs.size:=Ye I.ok.above (Nat.le_of_lt I.lt)
theorem Inv.WP (I:Inv X aa σ H s){a:Addr}(h:s.heap.objs.size<=a):a∉X.fs:=λhb=>by
 obtain⟨_,o,ho,_⟩:=I.ok.iR.mem hb;exact absurd (Ya (Heap.lt_size ho) (Ye I.sz h)) (Yv _)
theorem Inv.A8 (I:Inv X aa σ H s):∀x c,X.env.cells.lookup x=some c->c≠X.env.locals:=λx c e z=>by
 obtain⟨v,o,ho,hd⟩:=I.cell x c e;obtain⟨m,⟨o',es,ep,vq,Uy,_⟩,_⟩:=I.loc;rw[z,vq] at ho;cases ho;rw[Uy] at hd;cases hd
theorem Inv.iR (I:Inv X aa σ H s):s.heap.FunFrames X.base X.outer:=by
 have all:∀(l:List Env),(∀b∈iG l,b∈X.fs)->X.aT.heap.FunFrames X.base l->s.heap.FunFrames X.base l:=by
  intro l;induction l with
  |nil=>intro _ _;trivial
  |cons env r ih =>
   intro hs hl;obtain⟨hk,⟨L,o,hf,hn,ho,hd⟩,hr⟩:=hl;have hL:L∈X.fs:=hs L (by unfold iG;rw[Xu,hf];exact Zo);obtain⟨sl,e⟩:=I.base.slot L o ho (I.ok.EO L hL) hL λz=>I.ok.nR L z hL
   exact⟨hk,⟨L,_,hf,hn,e,hd⟩,ih (λb hb=>hs b (by unfold iG;rw[Xu,hf];exact Zk _ hb)) hr⟩
 exact all X.outer (λ_ hb=>hb) I.ok.iR
theorem Inv.stack (I:Inv X aa σ H s):s.heap.FunFrames X.base X.stack:=by
 rcases I.ok.AG with e |⟨e,hf⟩
 .rw[e];exact I.iR
 .rw[e];obtain⟨m,hn,_⟩:=I.loc;refine .cons (by rw[I.ok.kind];decide) hf hn ?_ I.iR;exact Heap.get?_none_of_le (Ye I.ok.AO I.ok.above)
theorem Inv.lO (I:Inv X aa σ H s):∀b∈iG X.stack,b∈X.env.locals::X.fs:=λb hb=>by
 rcases I.ok.AG with e |⟨e,hf⟩
 .rw[e] at hb;exact Zk _ hb
 .rw[e] at hb;unfold iG at hb;rw[Xu,hf] at hb;exact hb
theorem Inv.se (I:Inv X aa σ H s):∀b∈iG X.stack,H b=none:=λb hb=>by
 rcases Zf.mp (I.lO b hb) with e |hb
 .rw[e];exact I.free
 .obtain⟨_,o,ho,_⟩:=I.ok.iR.mem hb;exact I.base.free b o ho (I.ok.EO b hb) λz=>I.ok.nR b z hb
theorem Inv.step {g':Array GenState}{t':Nat}{d':Drawn}{ch:List Addr}(I:Inv X aa σ H s)
  (EN:∀b∈ch,(b∈X.ex\/X.aT.heap.objs.size<=b)/\b≠X.env.locals/\(∀x c,X.env.cells.lookup x=some c->c≠b)/\∀p∈X.pn++aa,p.1≠b)
  (keep:∀b o,b≠X.env.locals->b∉X.fs->b∉ch->s.heap.get? b=some o->H b=none->h'.get? b=some o)
  (slot:∀b o,b≠X.env.locals->b∈X.fs->b∉ch->s.heap.get? b=some o->H b=none->∃sl,h'.get? b=some { o with slots:=sl }) (free:∀b o,b∉ch->s.heap.get? b=some o->H b=none->H' b=none)
  (there:∀b o,b∉ch->s.heap.get? b=some o->∃o',h'.get? b=some o')
  (jY:∀b xs,H b=some (.tup xs)->H' b=some (.tup xs)) (lN:∀b o u,H b=some (.jO o u)->H' b=some (.jO o u)) (mw:∀b ps,H b=some (.pq ps)->∃Kf,H' b=some (.pq (ps++Kf)))
  (ns:∀m,s.heap.Ns X.env.locals m->h'.Ns X.env.locals m) (bt:jP X.prog X.w H' h') (hg:AllBare g') :
  Inv X aa σ H' { s with heap:=h',gens:=g',drawn:=d',toks:=t' }:=by
 have YI:∀b o,X.aT.heap.get? b=some o->b≠X.env.locals:=λb o e=>Yd (Ya (Heap.lt_size e) I.ok.above)
 have RZ:∀b o,X.aT.heap.get? b=some o->b∉X.ex->b∉ch:=λb o e hx hb=>by
  rcases(EN b hb).1 with z |z
  .exact hx z
  .exact absurd (Ya (Heap.lt_size e) z) (Yv _)
 have Jb:∀x c,X.env.cells.lookup x=some c->∀v,s.heap.IsCell c v->h'.IsCell c v:=λx c e v ⟨o,ho,hd⟩=>by
  have N7:c∉ch:=λz=>(EN c z).2.2.1 x c e rfl
  by_cases hc:c∈X.fs
  .obtain⟨sl,q⟩:=slot c o (I.A8 x c e) hc N7 ho (I.fz x c e);exact⟨_,q,hd⟩
  .exact⟨o,keep c o (I.A8 x c e) hc N7 ho (I.fz x c e),hd⟩
 refine⟨I.ok,I.os,hg,⟨λb o e n hb hx=>?_,λb o e n hb hx=>?_,λb o e n hx=>?_,λb o e hx=>?_,λb xs e=>jY b xs (I.base.jY b xs e),λb o xs e=>lN b o xs (I.base.lN b o xs e),λb ps e=>?_⟩,?_,λx c e=>?_,?_,λx c e=>?_,λp hp=>?_,bt,I.len⟩
 .exact keep b o (YI b o e) hb (RZ b o e hx) (I.base.keep b o e n hb hx) (I.base.free b o e n hx)
 .obtain⟨sl,e1⟩:=I.base.slot b o e n hb hx;obtain⟨gE,e2⟩:=slot b _ (YI b o e) hb (RZ b o e hx) e1 (I.base.free b o e n hx);exact⟨gE,e2⟩
 .obtain⟨o',e1⟩:=I.base.there b o e hx;exact free b o' (RZ b o e hx) e1 (I.base.free b o e n hx)
 .obtain⟨o',e1⟩:=I.base.there b o e hx;exact there b o' (RZ b o e hx) e1
 .obtain⟨m1,e1⟩:=I.base.mw b ps e;obtain⟨m2,e2⟩:=mw b _ e1;exact⟨m1++m2,by rw[e2,Array.append_assoc]⟩
 .obtain⟨m,hn,hl⟩:=I.loc;refine⟨m,ns m hn,λi x v e1 e2 e3=>?_⟩;obtain⟨u,r,l⟩:=hl i x v e1 e2 e3;refine⟨u,r,?_⟩;rcases l with l |⟨k,c,e,z⟩
  .exact .inl l
  .exact .inr ⟨k,c,e,Jb x c e _ z⟩
 .obtain⟨v,z⟩:=I.cell x c e;exact⟨v,Jb x c e v z⟩
 .obtain⟨m,⟨o,_,_,ho,_⟩,_⟩:=I.loc;exact free _ o (λz=>(EN _ z).2.1 rfl) ho I.free
 .obtain⟨v,o,ho,hd⟩:=I.cell x c e;exact free c o (λz=>(EN c z).2.2.1 x c e rfl) ho (I.fz x c e)
 .obtain⟨e,n,ne,nf,d⟩:=I.pin p hp;have N7:p.1∉ch:=λz=>(EN p.1 z).2.2.2 p hp rfl
  exact⟨keep p.1 p.2 ne nf N7 e n,free p.1 p.2 N7 e n,ne,nf,d⟩
theorem Inv.un {t':Nat}(I:Inv X aa σ H s)(u:Un X.fs [] H H' s.heap h')(bt:jP X.prog X.w H' h'):Inv X aa σ H' { s with heap:=h',toks:=t' }:=by
 obtain⟨m,⟨o,es,ep,ho,r⟩,_⟩:=id I.loc;obtain⟨sl,hL⟩:=u.any ho I.free (by simp);exact I.step (g':=s.gens) (d':=s.drawn) (ch:=[]) (λ_ z=>nomatch z) (λb o _ hb _ e n=>u.keep b o e n hb (by simp)) (λb o _ hb _ e n=>u.slot b o e n hb (by simp)) (λb o _ e n=>u.free b o e n (by simp)) (λb o _ e=>u.there b o e (by simp)) u.jY u.lN u.mw (λm' hm=>by
  obtain⟨o',UV,So,vq,r'⟩:=hm;rw[ho] at vq;cases vq;exact⟨_,UV,So,hL,r'⟩) bt I.bare
theorem Inv.call {g':Array GenState}{t':Nat}{d':Drawn}{ch:List Addr}(I:Inv X aa σ H s)(u:Un (iG X.stack) ch H H' s.heap h')(bt:jP X.prog X.w H' h')(hg:AllBare g')
  (EN:∀b∈ch,(b∈X.ex\/X.aT.heap.objs.size<=b)/\b≠X.env.locals/\(∀x c,X.env.cells.lookup x=some c->c≠b)/\∀p∈X.pn++aa,p.1≠b) :
  Inv X aa σ H' { s with heap:=h',gens:=g',drawn:=d',toks:=t' }:=by
 obtain⟨m,⟨o,es,ep,ho,r⟩,_⟩:=id I.loc;obtain⟨sl,hL⟩:=u.any ho I.free λz=>(EN _ z).2.1 rfl
 exact I.step (ch:=ch) EN (λb o hL hb hc e n=>u.keep b o e n (λz=>(Zf.mp (I.lO b z)).elim hL hb) hc) (λb o _ _ hc e n=>u.any e n hc) (λb o hc e n=>u.free b o e n hc) (λb o hc e=>u.there b o e hc) u.jY u.lN u.mw (λm' hm=>by
  obtain⟨o',UV,So,vq,r'⟩:=hm;rw[ho] at vq;cases vq;exact⟨_,UV,So,hL,r'⟩) bt hg
theorem Inv.turned {t':Nat}{it:Addr}(I:Inv X aa σ H s)(k:∀b o,b≠it->s.heap.get? b=some o->h'.get? b=some o)(hn:H it=none)(hL:it≠X.env.locals)
  (h1:it∈X.ex\/X.aT.heap.objs.size<=it) (h2:∀x c,X.env.cells.lookup x=some c->c≠it) (h3:∀p∈X.pn++aa,p.1≠it):Inv X aa σ H { s with heap:=h',toks:=t' }:=by
 have N6:∀b u,H b=some u->b≠it:=λb u e z=>by rw[z,hn] at e;cases e
 refine I.step (g':=s.gens) (d':=s.drawn) (ch:=[it]) (λb hb=>?_) (λb o _ _ hc e _=>k b o (λz=>hc (by simp[z])) e) (λb o _ _ hc e _=>⟨o.slots,k b o (λz=>hc (by simp[z])) e⟩) (λ_ _ _ _ n=>n)
  (λb o hc e=>⟨o,k b o (λz=>hc (by simp[z])) e⟩) (λ_ _ e=>e) (λ_ _ _ e=>e) (λb ps e=>⟨#[],by rw[e];simp⟩) (λm hm=>?_) (λb u e=>?_) I.bare
 .have e:b=it:=by simpa using hb
  subst e;exact⟨h1,hL,h2,h3⟩
 .obtain⟨o,es,ep,ho,r⟩:=hm;exact⟨o,es,ep,k _ o (Ne.symm hL) ho,r⟩
 .refine(I.bt b u e).ay (λc v hc q=>k c v ?_ q) (λ_ q=>q) λ_ _ q=>q
  rcases hc with z |z
  .rw[z];exact N6 b u e
  .exact N6 c _ z
theorem Inv.tok (I:Inv X aa σ H s)(t:Nat):Inv X aa σ H { s with toks:=t }:=I.un (h':=s.heap) (t':=t) Un.refl I.bt
theorem Inv.kept {t':Nat}(I:Inv X aa σ H s)(k:∀b u,s.heap.get? b=some u->h'.get? b=some u):Inv X aa σ H { s with heap:=h',toks:=t' }:=I.un (Un.kept k) (I.bt.kept k)
theorem Inv.laid {a:Addr}{o:HO}{t':Nat}(I:Inv X aa σ H s)(k:∀b u,s.heap.get? b=some u->h'.get? b=some u)(hp:s.heap.objs.size<=a)(new:bY X.prog X.w (aK H a o) h' a o) :
  Inv X aa σ (aK H a o) { s with heap:=h',toks:=t' }:=I.un (Un.laid k hp (I.bt.fresh hp)) (I.bt.laid k hp new)
theorem Inv.write {x e:Addr}{o:HO}{t':Nat}(I:Inv X aa σ H s)(mu:OW (H x))(he:e=x\/H e=some (.own x))(k:∀b u,b≠e->s.heap.get? b=some u->h'.get? b=some u)(HP:∃u,h'.get? e=some u)
  (new:bY X.prog X.w (aK H x o) h' x o):Inv X aa σ (aK H x o) { s with heap:=h',toks:=t' }:=I.un (Un.write mu he k HP) (I.bt.write mu he k HP new)
theorem Inv.ss {Iw:Γ2}(I:Inv X aa σ H s)(h:∀p∈Iw,s.heap.get? p.1=some p.2/\H p.1=none/\p.1≠X.env.locals/\p.1∉X.fs/\∀v,p.2.data≠.cell v):Inv X Iw σ H s :=
 ⟨I.ok,I.os,I.bare,I.base,I.loc,I.cell,I.free,I.fz,λp hp=>(Zp.mp hp).elim (λz=>I.pin p (Yw _ z)) (h p),I.bt,I.len⟩
theorem oR {N:Δ2}(hN:N.Nodup){i j:Nat}{x:Str}(a:N[i]?=some x)(b:N[j]?=some x):i=j:=by
 obtain⟨h1,e1⟩:=Zd.mp a;obtain⟨h2,e2⟩:=Zd.mp b;exact(List.getElem_inj hN).mp (e1.trans e2.symm)
theorem zN {M:Model}{A:Around}{E:Θ2}{i:Nat}{x:Str}{v:V}{u:Value}{Q:Unit->Shared->Prop}(I:Inv X aa σ H s)(hN:X.N.Nodup)(hi:X.N[i]?=some x)(hx:Loc X.env.scope x)(r:RelV v u)
  (h:∀s',Inv X aa (σ.set i (some v)) H s'->(∃a,Heap.SameBut a s.heap s'.heap/\(a=X.env.locals\/X.env.cells.lookup x=some a))->Q () s') (hf:X.fn x=true\/X.env.scope.names.lookup x=some .local:=by first |exact .inl rfl |exact .inr rfl |assumption):wpAny M A (storeName X.env x u) Q E s:=by
 obtain⟨m,hn,hl⟩:=id I.loc;have KJ:(X.env.scope.kind == .class||(X.env.scope.kind == .module&&X.env.locals != X.env.globals))=false:=by rw[I.ok.kind];rfl
 have P5:i < σ.length:=by rw[I.len];exact(Zd.mp hi).1
 have A8:=I.A8;have x4:∀{a:Addr}{h':Heap},(∃o,s.heap.get? a=some o/\H a=none)->Heap.SameBut a s.heap h'->jP X.prog X.w H h':=λ{a h'} ha hs b ob e=>by
  obtain⟨_,_,IV⟩:=ha;refine(I.bt b ob e).ay (λc w' hc q=>(hs.2 c ?_).trans q) (λ_ q=>q) λ_ _ q=>q
  rintro rfl;rcases hc with rfl |hc
  .rw[IV] at e;cases e
  .rw[IV] at hc;cases hc
 rcases hx with hk |hk
 .refine wpAny_storeName_local hk hn (λh' pD hs=>?_) KJ;obtain⟨oL,_,_,Ol,_⟩:=id hn;refine h _ ⟨I.ok,I.os,I.bare,⟨λb o e n hb hx=>?_,λb o e n hb hx=>?_,I.base.free,λb o e hx=>?_,I.base.jY,I.base.lN,I.base.mw⟩,⟨_,pD,λj y v' e1 e2 e3=>?_⟩,λy c e=>?_,I.free,I.fz,λp hp=>?_,x4 ⟨oL,Ol,I.free⟩ hs,by simpa using I.len⟩ ⟨_,hs,.inl rfl⟩
  .exact(hs.2 b (Yd (Ya (Heap.lt_size e) I.ok.above))).trans (I.base.keep b o e n hb hx)
  .obtain⟨sl,e1⟩:=I.base.slot b o e n hb hx;exact⟨sl,(hs.2 b (Yd (Ya (Heap.lt_size e) I.ok.above))).trans e1⟩
  .obtain⟨o',e1⟩:=I.base.there b o e hx;exact⟨o',(hs.2 b (Yd (Ya (Heap.lt_size e) I.ok.above))).trans e1⟩
  .by_cases hj:j=i
   .subst hj;rw[hi] at e1;cases e1;rw[Yf P5] at e2;cases e2;exact⟨u,r,.inl ⟨hk,by simp⟩⟩
   .rw[Zw (Ne.symm hj)] at e2;obtain⟨u',r',q⟩:=hl j y v' e1 e2 e3;refine⟨u',r',?_⟩;rcases q with ⟨k,e⟩ |⟨k,c,e,z⟩
    .refine .inl ⟨k,?_⟩;have:y≠x:=λe=>hj (oR hN e1 (e▸hi))
     simp[this,e]
    .exact .inr ⟨k,c,e,z.sameBut hs (A8 y c e)⟩
  .obtain⟨w',z⟩:=I.cell y c e;exact⟨w',z.sameBut hs (A8 y c e)⟩
  .obtain⟨e,n,ne,nf,d⟩:=I.pin p hp;exact⟨(hs.2 p.1 ne).trans e,n,ne,nf,d⟩
 .have Uq:X.fn x=true:=by
   rcases hf with z |z
   .exact z
   .rw[z] at hk;cases hk
  obtain⟨c,hc⟩:=I.ok.has x (.inl hk);obtain⟨w',z⟩:=I.cell x c hc;refine wpAny_storeName_cell I.ok.kind hk hc z (λh' jN hs=>?_);obtain⟨oc,Y9,XA⟩:=id z;refine h { s with heap:=h' } ⟨I.ok,I.os,I.bare,⟨λb o e n hb hx=>?_,λb o e n hb hx=>?_,I.base.free,λb o e hx=>?_,I.base.jY,I.base.lN,I.base.mw⟩,⟨m,hn.sameBut hs (Ne.symm (A8 x c hc)),λj y v' e1 e2 e3=>?_⟩,λy c' e=>?_,I.free,I.fz,λp hp=>?_,x4 ⟨oc,Y9,I.fz x c hc⟩ hs,by simpa using I.len⟩ ⟨c,hs,.inr hc⟩
  .exact(hs.2 b (Yd (Ya (Heap.lt_size e) (I.ok.HR x c Uq hc)))).trans (I.base.keep b o e n hb hx)
  .obtain⟨sl,e1⟩:=I.base.slot b o e n hb hx;exact⟨sl,(hs.2 b (Yd (Ya (Heap.lt_size e) (I.ok.HR x c Uq hc)))).trans e1⟩
  .obtain⟨o',e1⟩:=I.base.there b o e hx;exact⟨o',(hs.2 b (Yd (Ya (Heap.lt_size e) (I.ok.HR x c Uq hc)))).trans e1⟩
  .by_cases hj:j=i
   .subst hj;rw[hi] at e1;cases e1;rw[Yf P5] at e2;cases e2;exact⟨u,r,.inr ⟨.inl hk,c,hc,jN⟩⟩
   .rw[Zw (Ne.symm hj)] at e2;obtain⟨u',r',q⟩:=hl j y v' e1 e2 e3;refine⟨u',r',?_⟩;rcases q with q |⟨k,c',e,z'⟩
    .exact .inl q
    .refine .inr ⟨k,c',e,z'.sameBut hs ?_⟩;rintro rfl;exact hj (oR hN e1 (I.ok.inj _ _ _ e hc▸hi))
  .by_cases ZR:c'=c
   .subst ZR;exact⟨_,jN⟩
   .obtain⟨w2,z2⟩:=I.cell y c' e;exact⟨w2,z2.sameBut hs ZR⟩
  .obtain⟨e,n,ne,nf,d⟩:=I.pin p hp;refine⟨(hs.2 p.1 ?_).trans e,n,ne,nf,d⟩;intro q;rw[q,Y9] at e;have q':oc=p.2:=Option.some.inj e;exact d w' (by rw[<- q'];exact XA)
theorem E2 {M:Model}{A:Around}{E:Θ2}{i:Nat}{x:Str}{v:V}{u:Value}{Q:Unit->Shared->Prop}(I:Inv X aa σ H s)(hN:X.N.Nodup)(hi:X.N[i]?=some x)(hx:Loc X.env.scope x)(r:RelV v u)
  (h:∀s',Inv X aa (σ.set i (some v)) H s'->Q () s') (hf:X.fn x=true\/X.env.scope.names.lookup x=some .local:=by first |exact .inl rfl |exact .inr rfl |assumption):wpAny M A (storeName X.env x u) Q E s :=
 zN I hN hi hx r (λs' I' _=>h s' I') hf
theorem Inv.ql {s':Shared}{ch:List Addr}(I:Inv X aa σ H s)(ho:s'.os=s.os)(u:Un (iG X.stack) ch H H' s.heap s'.heap)(bt:jP X.prog X.w H' s'.heap)(hg:AllBare s'.gens)
  (EN:∀b∈ch,(b∈X.ex\/X.aT.heap.objs.size<=b)/\b≠X.env.locals/\(∀x c,X.env.cells.lookup x=some c->c≠b)/\∀p∈X.pn++aa,p.1≠b):Inv X aa σ H' s':=by
 obtain⟨h',g',d',t',o'⟩:=s';have e:o'=s.os:=ho;subst e;exact I.call (g':=g') (t':=t') (d':=d') u bt hg EN
end
abbrev XK:=Value->Option Addr->Hp->Prop
abbrev St:=List (Option V)
abbrev VK:=V->Hp->Prop
abbrev TE:=St->Hp->VK->Prop
abbrev TT:=St->Hp->(Bool->Hp->Prop)->Prop
abbrev TA:=St->Hp->(List V->Hp->Prop)->Prop
structure Ends where
 nx:St->Hp->Prop
 rt:VK
 bk:St->Hp->Prop:=λ_ _=>False
 ct:St->Hp->Prop:=λ_ _=>False
abbrev TS:=Ends->St->Hp->Prop
def EP (X:Cx)(aa:Γ2)(σ:St)(Q:VK)(u:Value)(s':Shared):Prop:=∃v H',Inv X aa σ H' s'/\RelV v u/\Q v H'
def TP (X:Cx)(aa:Γ2)(σ:St)(Q:Bool->Hp->Prop)(b:Bool)(s':Shared):Prop:=∃H',Inv X aa σ H' s'/\Q b H'
def AP (X:Cx)(aa:Γ2)(σ:St)(Q:List V->Hp->Prop)(us:Δ3)(s':Shared):Prop:=∃vs H',Inv X aa σ H' s'/\aP vs us/\Q vs H'
def SP (X:Cx)(aa:Γ2)(D:Ends)(f:Flow)(s':Shared):Prop :=
 match f with
 |.next=>∃aC H',Inv X aa aC H' s'/\D.nx aC H'
 |.brk=>∃aC H',Inv X aa aC H' s'/\D.bk aC H'
 |.cont=>∃aC H',Inv X aa aC H' s'/\D.ct aC H'
 |.ret u=>∃v aC H',Inv X aa aC H' s'/\RelV v u/\D.rt v H'
def PE (X:Cx)(e:Expr)(t:TE):Prop :=
 ∀(aa:Γ2) (s:Shared) (σ:St) (H:Hp) (Q:VK),Inv X aa σ H s->t σ H Q->wpAny (model X.prog X.w) X.A (eval e X.env) (EP X aa σ Q) X.xe s
def PT (X:Cx)(e:Expr)(t:TT):Prop :=
 ∀(aa:Γ2) (s:Shared) (σ:St) (H:Hp) (Q:Bool->Hp->Prop),Inv X aa σ H s->t σ H Q->wpAny (model X.prog X.w) X.A (isTrue e X.env (eval e X.env)) (TP X aa σ Q) X.xe s
def PW (X:Cx)(e:Expr)(t:TT):Prop :=
 ∀(whole:Sem Value) (aa:Γ2) (s:Shared) (σ:St) (H:Hp) (Q:Bool->Hp->Prop),Inv X aa σ H s->t σ H Q->wpAny (model X.prog X.w) X.A (isTrue e X.env whole) (TP X aa σ Q) X.xe s
theorem PW.pt {X:Cx}{e:Expr}{t:TT}(h:PW X e t):PT X e t:=h _
def PA (X:Cx)(es:Ξ2)(t:TA):Prop :=
 ∀(pos:Pos) (aa:Γ2) (s:Shared) (σ:St) (H:Hp) (Q:List V->Hp->Prop),Inv X aa σ H s->t σ H Q->wpAny (model X.prog X.w) X.A (spliced (backTo pos (starEach es X.env))) (AP X aa σ Q) X.xe s
def PS (X:Cx)(st:Stmt)(t:TS):Prop :=
 ∀(aa:Γ2) (s:Shared) (σ:St) (H:Hp) (D:Ends),Inv X aa σ H s->t D σ H->wpAny (model X.prog X.w) X.A (exec st X.env) (SP X aa D) X.xe s
def iH (X:Cx)(st:List Stmt)(t:TS):Prop :=
 ∀(aa:Γ2) (s:Shared) (σ:St) (H:Hp) (D:Ends),Inv X aa σ H s->t D σ H->wpAny (model X.prog X.w) X.A (execs st X.env) (SP X aa D) X.xe s
theorem bi {α : Type}{t:Sem α}{Q Q':α->Shared->Prop}{M:Model}{A:Around}{E:Θ2}{s:Shared}(h:wpAny M A t Q E s)(hQ:∀a s,Q a s->Q' a s):wpAny M A t Q' E s:=wpAny_mono h hQ λ_ _ x=>x
section
variable {X:Cx}
def mx (i:Nat):TE:=λσ H Q=>∃v,σ[i]?=some (some v)/\Q v H
def tC (v:V):TE:=λ_ H Q=>Q v H
theorem CC {i:Nat}{x:Str}{pos:Pos}(hN:X.N[i]?=some x)(hv:NJ X.env.scope x)(hd:(x == ("__debug__" : Str))=false:=by decide)(tN:(x == ("__classdict__" : Str))=false:=by decide):PE X (.Name x pos) (mx i):=by
 intro aa s σ H Q I h;obtain⟨v,e,h⟩:=h;obtain⟨m,hn,hl⟩:=I.loc;obtain⟨u,r,l⟩:=hl i x v hN e hv;have kq:EP X aa σ Q u s:=⟨v,H,I,r,h⟩;rcases l with ⟨hk,hm⟩ |⟨hk,c,hc,xN⟩
 .exact wpAny_Name (wpAny_loadName_local I.ok.kind hk hn hm kq) hd
 .rcases hk with hk |hk
  .exact wpAny_Name (wpAny_loadName_cell I.ok.kind hk hc xN kq) hd
  .exact wpAny_Name (wpAny_loadName_free I.ok.kind hk hc xN kq tN) hd
theorem bF {i j pos}:PE X (.Constant (.int i) j pos) (tC (.int i)):=λ_ _ _ H _ I h=>wpAny_Constant_int ⟨.int i,H,I.tok _,⟨_,rfl⟩,h⟩
theorem iB {b j pos}:PE X (.Constant (.bool b) j pos) (tC (.bl b)):=λ_ _ _ H _ I h=>Constant_bool ⟨.bl b,H,I,rfl,h⟩
theorem wd {j pos}:PE X (.Constant .none j pos) (tC .bO):=λ_ _ _ H _ I h=>Constant_none ⟨.bO,H,I,rfl,h⟩
theorem rG {x j pos}:PE X (.Constant (.str x) j pos) (tC (.str x)):=λ_ _ _ H _ I h=>Calls.Constant_str ⟨.str x,H,I.tok _,⟨_,rfl⟩,h⟩
def Gl (X:Cx)(x:Str):Prop:=X.env.kindOf x=some .globalImplicit
theorem eV {E:Θ2}{aa:Γ2}{s:Shared}{σ:St}{H:Hp}{x:Str}{u:Value}{pos:Pos}{Q:Θ2}(I:Inv X aa σ H s)(hg:Gl X x)(hm:X.mg x=some u)(h:Q u s)
  (hd:(x == ("__debug__" : Str))=false:=by decide):wpAny (model X.prog X.w) X.A (eval (.Name x pos) X.env) Q E s :=
 Calls.Name_function_global I.ok.kind hg (Calls.loadGlobal_global (by rw[I.ok.glob];exact I.mod.glob.keeps I.bk) hm h) hd
theorem fQ {E:Θ2}{aa:Γ2}{s:Shared}{σ:St}{H:Hp}{x:Str}{u:Value}{pos:Pos}{Q:Θ2}(I:Inv X aa σ H s)(hg:Gl X x)(hm:X.mg x=none)(hv:bootBuiltins x=some u)(h:Q u s)
  (hn:x ≠ "__name__":=by decide) (hd:(x == ("__debug__" : Str))=false:=by decide):wpAny (model X.prog X.w) X.A (eval (.Name x pos) X.env) Q E s:=by
 obtain⟨mb,h1,h2⟩:=I.mod.blt;exact Calls.Name_function_global I.ok.kind hg (Calls.loadGlobal_builtin (by rw[I.ok.glob];exact I.mod.glob.keeps I.bk) hm (by rw[I.ok.blt];exact h1.keeps I.bk) ((h2 x hn).trans hv) h) hd
theorem m7 {x:Str}{v:V}{u:Value}{pos:Pos}(hg:Gl X x)(hm:X.mg x=some u)(r:RelV v u)(hd:(x == ("__debug__" : Str))=false:=by decide):PE X (.Name x pos) (tC v) :=
 λ_ _ _ H _ I h=>eV I hg hm ⟨v,H,I,r,h⟩ hd
variable {a b:Expr}{ta tb:TE}{pos:Pos}
def tB (t:TE):TT:=λσ H Q=>t σ H λx H1=>∃c,x=.bl c/\Q c H1
theorem tH {e:Expr}{t:TE}(h:PE X e t)(he:∀whole,isTrue e X.env whole=(do let v <- whole;standAt e.pos;holding [v] (truthy v)):=by intro _;rfl):PT X e (tB t):=by
 intro aa s σ H Q I hw;refine isTrue_plain (bi (h aa s σ H _ I hw) λv s1 ⟨x,H1,I1,r1,q1⟩=>?_) (he _);obtain⟨d,rfl,q⟩:=q1;cases r1;exact wpAny_truthy_bool ⟨H1,I1,q⟩
variable {tA RU:TT}{fh:Ξ2}
def Wt (t u:TT):TT:=λσ H Q=>t σ H λc H1=>if c=true then u σ H1 Q else Q false H1
def tOr (t u:TT):TT:=λσ H Q=>t σ H λc H1=>if c=true then Q true H1 else u σ H1 Q
def Wm (t:TT):TT:=λσ H Q=>t σ H λc H1=>Q (!c) H1
theorem pw_and1 (ha:PT X a tA):PW X (.BoolOp .And [a] pos) tA:=by
 intro wh aa s σ H Q I h;refine isTrue_and (bi (ha aa s σ H Q I h) λc s1 e=>?_);cases c with
 |true=>exact isTrue_and_nil e
 |false=>exact e
theorem pw_or1 (ha:PT X a tA):PW X (.BoolOp .Or [a] pos) tA:=by
 intro wh aa s σ H Q I h;refine isTrue_or (bi (ha aa s σ H Q I h) λc s1 e=>?_);cases c with
 |false=>exact isTrue_or_nil e
 |true=>exact e
theorem pw_and (ha:PT X a tA)(hb:PW X (.BoolOp .And (b::fh) pos) RU):PW X (.BoolOp .And (a::b::fh) pos) (Wt tA RU):=by
 intro wh aa s σ H Q I h;refine isTrue_and (bi (ha aa s σ H _ I h) λc s1 ⟨H1,I1,q1⟩=>?_);cases c with
 |true=>exact hb wh aa s1 σ H1 Q I1 q1
 |false=>exact⟨H1,I1,q1⟩
theorem pw_or (ha:PT X a tA)(hb:PW X (.BoolOp .Or (b::fh) pos) RU):PW X (.BoolOp .Or (a::b::fh) pos) (tOr tA RU):=by
 intro wh aa s σ H Q I h;refine isTrue_or (bi (ha aa s σ H _ I h) λc s1 ⟨H1,I1,q1⟩=>?_);cases c with
 |true=>exact⟨H1,I1,q1⟩
 |false=>exact hb wh aa s1 σ H1 Q I1 q1
theorem vB (ha:PT X a tA):PT X (.UnaryOp .Not a pos) (Wm tA):=by
 intro aa s σ H Q I h;exact isTrue_not (ha aa s σ H (λc H1=>Q (!c) H1) I h)
def QZ (ta tb:TE):TE:=λσ H Q=>ta σ H λx H1=>∃c,x=.bl c/\if c=true then tb σ H1 Q else Q (.bl false) H1
def Wl (ta tb:TE):TE:=λσ H Q=>ta σ H λx H1=>∃c,x=.bl c/\if c=true then Q (.bl true) H1 else tb σ H1 Q
def QS (ta:TE):TE:=λσ H Q=>ta σ H λx H1=>∃c,x=.bl c/\Q (.bl (!c)) H1
theorem gw {op}{t:TE}(h:PE X a t):PE X (.BoolOp op [a] pos) t:=λaa s σ H Q I hw=>BoolOp_one (h aa s σ H Q I hw)
theorem io (ha:PE X a ta)(hb:PE X (.BoolOp .And (b::fh) pos) tb):PE X (.BoolOp .And (a::b::fh) pos) (QZ ta tb):=by
 intro aa s σ H Q I h;refine BoolOp_and (bi (ha aa s σ H _ I h) λv s1 ⟨x,H1,I1,r1,q1⟩=>?_);obtain⟨c,rfl,q1⟩:=q1;cases r1;refine wpAny_truthy_bool ?_;cases c with
 |true=>exact hb aa s1 σ H1 Q I1 q1
 |false=>exact⟨.bl false,H1,I1,rfl,q1⟩
theorem Rl (ha:PE X a ta)(hb:PE X (.BoolOp .Or (b::fh) pos) tb):PE X (.BoolOp .Or (a::b::fh) pos) (Wl ta tb):=by
 intro aa s σ H Q I h;refine BoolOp_or (bi (ha aa s σ H _ I h) λv s1 ⟨x,H1,I1,r1,q1⟩=>?_);obtain⟨c,rfl,q1⟩:=q1;cases r1;refine wpAny_truthy_bool ?_;cases c with
 |false=>exact hb aa s1 σ H1 Q I1 q1
 |true=>exact⟨.bl true,H1,I1,rfl,q1⟩
theorem LP (ha:PE X a ta):PE X (.UnaryOp .Not a pos) (QS ta):=by
 intro aa s σ H Q I h;refine UnaryOp_ (bi (ha aa s σ H _ I h) λv s1 ⟨x,H1,I1,r1,q1⟩=>?_);obtain⟨c,rfl,q1⟩:=q1;cases r1;exact not_of (wpAny_truthy_bool ⟨.bl (!c),H1,I1,rfl,q1⟩)
def tIf (t:TT)(ta tb:TE):TE:=λσ H Q=>t σ H λc H1=>if c=true then ta σ H1 Q else tb σ H1 Q
theorem DB {c:Expr}(hc:PT X c tA)(ha:PE X a ta)(hb:PE X b tb):PE X (.IfExp c a b pos) (tIf tA ta tb):=by
 intro aa s σ H Q I h;refine wpAny_IfExp (bi (hc aa s σ H _ I h) λd s1 ⟨H1,I1,q1⟩=>?_);cases d with
 |true=>exact ha aa s1 σ H1 Q I1 q1
 |false=>exact hb aa s1 σ H1 Q I1 q1
end
def bA (K:Θ1)(H:Hp)(a:Addr)(xs:List V):Prop :=
 Rd H a (.lst xs) \/
  ∃(o:Obj) (its:Array Value) (n:Nat),K.lookup a=some o/\o.cls=.type "list"/\o.dict=none/\o.data=.seq its n/\its.size<=sizeLine/\aP xs its.toList
def aG (K:Θ1)(H:Hp)(a:Addr)(xs:List V):Prop :=
 Rd H a (.tup xs) \/
  ∃(o:Obj) (its:Array Value) (n:Nat),K.lookup a=some o/\o.cls=.type "tuple"/\o.data=.seq its n/\its.size<=sizeLine/\aP xs its.toList
def XW:Value->Option V
 |.none=>some .bO
 |.bool b=>some (.bl b)
 |.int i _=>some (.int i)
 |.str x _=>some (.str x)
 |.bytes b _=>some (.zg b)
 |.float b _=>some (.NG b)
 |.ref a=>some (.ref a)
 |.type n=>some (.ty n)
 |_=>none
theorem RelV.abs {x:V}{u:Value}(r:RelV x u):XW u=some x:=by
 cases x with
 |bO=>cases r;rfl
 |bl _=>cases r;rfl
 |int _=>obtain⟨t,rfl⟩:=r;rfl
 |str _=>obtain⟨t,rfl⟩:=r;rfl
 |zg _=>obtain⟨t,rfl⟩:=r;rfl
 |NG _=>obtain⟨t,rfl⟩:=r;rfl
 |ref _=>cases r;rfl
 |ty _=>cases r;rfl
theorem RelV.inj {x y:V}{u:Value}(r:RelV x u)(q:RelV y u):x=y:=Option.some.inj (r.abs.symm.trans q.abs)
theorem aP.inj:∀{xs ys:List V}{us:Δ3},aP xs us->aP ys us->xs=ys
 |_,_,_,.nil,.nil=>rfl
 |_,_,_,.cons r t,.cons r' t'=>by rw[r.inj r',aP.inj t t']
section
variable {X:Cx}{aa:Γ2}{σ:St}{H:Hp}{s:Shared}{a:Addr}{xs ys:List V}
theorem bA.of {K:Θ1}(h:H a=some (.lst xs)):bA K H a xs:=.inl (.inl h)
theorem aG.of {K:Θ1}(h:H a=some (.tup xs)):aG K H a xs:=.inl (.inl h)
theorem Inv.list (I:Inv X aa σ H s)(h:bA X.K H a xs):∃its:Δ3,aP xs its/\PlainL s.heap a its.toArray/\xs.length<=sizeLine:=by
 rcases h with h |⟨o,its,n,hk,hc,hd,hs,hz,r⟩
 .obtain⟨z,its,n,r,e⟩:=h.ok I.bt;exact⟨its,r,⟨_,n,e,rfl,rfl,rfl⟩,z⟩
 .refine⟨its.toList,r,⟨o,n,I.l9 a o hk,hc,hd,by simpa using hs⟩,?_⟩;have e:=r.length;simp only[Array.length_toList] at e;omega
theorem Inv.tuple (I:Inv X aa σ H s)(h:aG X.K H a xs):∃its:Δ3,aP xs its/\IsTup s.heap a its.toArray/\xs.length<=sizeLine:=by
 rcases h with h |⟨o,its,n,hk,hc,hs,hz,r⟩
 .obtain⟨z,its,r,p⟩:=h.ok I.bt;exact⟨its,r,p,z⟩
 .refine⟨its.toList,r,⟨o,I.l9 a o hk,hc,n,by simpa using hs⟩,?_⟩;have e:=r.length;simp only[Array.length_toList] at e;omega
theorem Inv.D3 (I:Inv X aa σ H s)(h:bA X.K H a xs)(h':bA X.K H a ys):xs=ys:=by
 obtain⟨its,r,⟨o,n,e,_,_,d⟩,_⟩:=I.list h;obtain⟨its',r',⟨o',n',e',_,_,d'⟩,_⟩:=I.list h';rw[e] at e';cases e';rw[d] at d';injection d' with d1 _
 have:its=its':=by simpa using congrArg Array.toList d1
 subst this;exact r.inj r'
theorem Inv.jA (I:Inv X aa σ H s)(h:aG X.K H a xs)(h':aG X.K H a ys):xs=ys:=by
 obtain⟨its,r,⟨o,e,_,n,d⟩,_⟩:=I.tuple h;obtain⟨its',r',⟨o',e',_,n',d'⟩,_⟩:=I.tuple h';rw[e] at e';cases e';rw[d] at d';injection d' with d1 _
 have:its=its':=by simpa using congrArg Array.toList d1
 subst this;exact r.inj r'
end
abbrev Cx.wish (X:Cx)(E:Θ2):Cx:={ X with xe:=E }
abbrev Cx.N4 (X:Cx):Cx:=X.wish λ_ _=>False
theorem Cx.Ok.wish {X:Cx}(ok:X.Ok)(E:Θ2):(X.wish E).Ok :=
 ⟨ok.mod,ok.kind,ok.glob,ok.blt,ok.above,ok.inj,ok.has,ok.HR,ok.hd,ok.frames,ok.AG,ok.zf,ok.bs,ok.AO,ok.tT,ok.nR,ok.iR,ok.EO⟩
theorem Cx.Ok.gq {X:Cx}{E:Θ2}(ok:(X.wish E).Ok):X.Ok :=
 ⟨ok.mod,ok.kind,ok.glob,ok.blt,ok.above,ok.inj,ok.has,ok.HR,ok.hd,ok.frames,ok.AG,ok.zf,ok.bs,ok.AO,ok.tT,ok.nR,ok.iR,ok.EO⟩
section
variable {X:Cx}{aa:Γ2}{σ:St}{H:Hp}{s:Shared}{E:Θ2}
theorem Inv.wish (I:Inv X aa σ H s)(E:Θ2):Inv (X.wish E) aa σ H s:=⟨I.ok.wish E,I.os,I.bare,I.base,I.loc,I.cell,I.free,I.fz,I.pin,I.bt,I.len⟩
theorem Inv.gq (I:Inv (X.wish E) aa σ H s):Inv X aa σ H s:=⟨I.ok.gq,I.os,I.bare,I.base,I.loc,I.cell,I.free,I.fz,I.pin,I.bt,I.len⟩
theorem SP.gq {D:Ends}{f:Flow}{s':Shared}(h:SP (X.wish E) aa D f s'):SP X aa D f s':=by
 cases f with
 |next=>obtain⟨aC,H',I,q⟩:=h;exact⟨aC,H',I.gq,q⟩
 |brk=>obtain⟨aC,H',I,q⟩:=h;exact⟨aC,H',I.gq,q⟩
 |cont=>obtain⟨aC,H',I,q⟩:=h;exact⟨aC,H',I.gq,q⟩
 |ret u=>obtain⟨v,aC,H',I,r,q⟩:=h;exact⟨v,aC,H',I.gq,r,q⟩
theorem iH.N4 {st:List Stmt}{t:TS}(h:iH X.N4 st t):iH X st t:=λaa s σ H D I hw =>
 wpAny_mono (h aa s σ H D (I.wish _) hw) (λ_ _ q=>q.gq) λ_ _ z=>False.elim z
end
section
variable {X:Cx}{st:Stmt}{fh:List Stmt}{t u:TS}{e:Expr}{te:TE}{pos:Pos}
def QT:TS:=λD σ H=>D.nx σ H
def Wj (t u:TS):TS:=λD σ H=>t { D with nx:=u D } σ H
theorem tw:iH X [] QT:=λ_ _ σ H _ I h=>wpAny_execs_nil ⟨σ,H,I,h⟩
theorem dz (h1:PS X st t)(h2:iH X fh u):iH X (st::fh) (Wj t u):=by
 intro aa s σ H D I h;refine wpAny_execs_cons (bi (h1 aa s σ H { D with nx:=u D } I h) λf s1 q=>?_);cases f with
 |next =>
  obtain⟨aC,H',I',q⟩:=q;exact h2 aa s1 aC H' D I' q
 |ret v=>exact q
 |brk=>exact q
 |cont=>exact q
theorem cT (h1:PS X st t):iH X [st] t:=by
 intro aa s σ H D I h;refine wpAny_execs_cons (bi (h1 aa s σ H D I h) λf s1 q=>?_);cases f with
 |next=>exact wpAny_execs_nil q
 |ret v=>exact q
 |brk=>exact q
 |cont=>exact q
theorem Inv.quiet {aa:Γ2}{σ:St}{H:Hp}{s:Shared}(I:Inv X aa σ H s):interactive X.env=false:=by simp[interactive,I.ok.kind]
def QV (te:TE):TS:=λD σ H=>te σ H λ_ H1=>D.nx σ H1
theorem ye (he:PE X e te)(hs:swapsWith e none pos.line X.env=pure false:=by rfl):PS X (.Expr e pos) (QV te):=by
 intro aa s σ H D I h;exact wpAny_Expr_any (bi (he aa s σ H _ I h) λv s1 ⟨x,H1,I1,r1,q1⟩=>⟨σ,H1,I1,q1⟩) I.quiet hs
def O9 (te:TE):TS:=λD σ H=>te σ H D.rt
theorem eG (he:PE X e te):PS X (.Return (some e) pos) (O9 te):=by
 intro aa s σ H D I h;exact wpAny_Return_some (bi (he aa s σ H _ I h) λv s1 ⟨x,H1,I1,r1,q1⟩=>⟨x,σ,H1,I1,r1,q1⟩)
def Wp (c:TT)(t u:TS):TS:=λD σ H=>c σ H λb H1=>if b=true then t D σ H1 else u D σ H1
theorem dq {c:Expr}{a b:List Stmt}{tc:TT}(hc:PT X c tc)(ha:iH X a t)(hb:iH X b u):PS X (.If c a b pos) (Wp tc t u):=by
 intro aa s σ H D I h;refine wpAny_If (bi (hc aa s σ H _ I h) λd s1 ⟨H1,I1,q1⟩=>?_);cases d with
 |true=>exact ha aa s1 σ H1 D I1 q1
 |false=>exact hb aa s1 σ H1 D I1 q1
end
abbrev TG:=V->St->Hp->(St->Hp->Prop)->Prop
abbrev zh:=List V->St->Hp->(St->Hp->Prop)->Prop
def PG (X:Cx)(fH:Expr)(t:TG):Prop :=
 ∀(aa:Γ2) (s:Shared) (σ:St) (H:Hp) (v:V) (u:Value) (Q:St->Hp->Prop),Inv X aa σ H s->RelV v u->t v σ H Q ->
  wpAny (model X.prog X.w) X.A (assign fH X.env u) (λ_ s'=>∃aC H',Inv X aa aC H' s'/\Q aC H') X.xe s
def vt (X:Cx)(ts:Ξ2)(t:zh):Prop :=
 ∀(aa:Γ2) (s:Shared) (σ:St) (H:Hp) (vs:List V) (us:Δ3) (Q:St->Hp->Prop),Inv X aa σ H s->aP vs us->t vs σ H Q ->
  wpAny (model X.prog X.w) X.A (assignInOrder ((assignEach ts X.env).map (·.2)) us) (λ_ s'=>∃aC H',Inv X aa aC H' s'/\Q aC H') X.xe s
abbrev KS:=V->V->V->Hp->(Hp->Prop)->Prop
def QK (X:Cx)(t:KS):Prop :=
 ∀(aa:Γ2) (s:Shared) (σ:St) (H:Hp) (o i v:V) (ov iv u:Value) (Q:Hp->Prop),Inv X aa σ H s->RelV o ov->RelV i iv->RelV v u->t o i v H Q ->
  wpAny (model X.prog X.w) X.A (setItem ov iv u) (λ_ s'=>∃H',Inv X aa σ H' s'/\Q H') X.xe s
abbrev Sy:=V->V->Hp->VK->Prop
def γ (X:Cx)(op:Operator)(t:Sy):Prop :=
 ∀(aa:Γ2) (s:Shared) (σ:St) (H:Hp) (x y:V) (v u:Value) (Q:VK),Inv X aa σ H s->RelV x v->RelV y u->t x y H Q ->
  wpAny (model X.prog X.w) X.A (inplaceOp op v u) (EP X aa σ Q) X.xe s
section
variable {X:Cx}{pos:Pos}
def cA (i:Nat):TG:=λv σ H Q=>Q (σ.set i (some v)) H
theorem eH {i:Nat}{x:Str}(hN:X.N.Nodup)(hi:X.N[i]?=some x)(hx:Loc X.env.scope x)(hf:X.fn x=true\/X.env.scope.names.lookup x=some .local:=by first |exact .inl rfl |exact .inr rfl |assumption):PG X (.Name x pos) (cA i):=by
 intro aa s σ H v u Q I r h;exact wpAny_assign_Name (E2 I hN hi hx r (λs' I'=>⟨_,H,I',h⟩) hf)
def FI:zh:=λvs σ H Q=>vs=[]/\Q σ H
def oo (t:TG)(u:zh):zh:=λvs σ H Q=>∃v r,vs=v::r/\t v σ H λaC H'=>u r aC H' Q
theorem EC:vt X [] FI:=by
 intro aa s σ H vs us Q I r h;obtain⟨e,h⟩:=h;subst e;cases r;exact assignInOrder_nil ⟨σ,H,I,h⟩
theorem qX {e:Expr}{es:Ξ2}{t:TG}{u:zh}(h1:PG X e t)(h2:vt X es u)
  (hs:(assignEach (e::es) X.env).map (·.2)=assign e X.env::(assignEach es X.env).map (·.2):=by rfl):vt X (e::es) (oo t u):=by
 intro aa s σ H vs us Q I r h;obtain⟨v,vr,e1,h⟩:=h;subst e1;cases r with
 |cons r rr =>
  rw[hs];refine assignInOrder_cons (bi (h1 aa s σ H _ _ _ I r h) λ_ s1 ⟨HE,H1,I1,q1⟩=>?_);exact h2 aa s1 HE H1 _ _ Q I1 rr q1
def Bq (K:Θ1)(n:Nat)(t:zh):TG:=λv σ H Q=>∃a xs,v=.ref a/\aG K H a xs/\xs.length=n/\t xs σ H Q
theorem LM {es:Ξ2}{k:Nat}{t:zh}{n:Nat}(hc:X.calm=true)(h:vt X es t)
  (hn:(assignEach es X.env).length=n:=by rfl) (lz:(assignEach es X.env).findIdx? (·.1)=none:=by rfl):PG X (.Tuple es k pos) (Bq X.K n t):=by
 intro aa s σ H v u Q I r hw;obtain⟨a,xs,e1,hq,hl,hw⟩:=hw;subst e1;cases r;obtain⟨its,rv,ht,hz⟩:=I.tuple hq;refine assign_Tuple_tuple (I.ok.hd hc) ht (by simp[hn,<- hl,rv.length]) lz λh' hx=>?_
 have I1:Inv X aa σ H { s with heap:=h' }:=I.kept (t':=s.toks) λb o e=>hx b o (Yd (Heap.lt_size e)) e
 exact h aa _ σ H xs _ Q I1 (by simpa using rv) hw
def XJ (to ti:TE)(t:KS):TG:=λv σ H Q=>to σ H λo H1=>ti σ H1 λi H2=>t o i v H2 λH3=>Q σ H3
theorem wc {o i:Expr}{to ti:TE}{t:KS}(ho:PE X o to)(hi:PE X i ti)(hs:QK X t)
  (ha:∀v,assign (.Subscript o i pos) X.env v=(do
   let ov <- holding [v] (eval o X.env);let iv <- holding [v,ov] (eval i X.env)
   standAt pos
   holding [v,ov,iv] (setItem ov iv v)
   release [v,ov,iv] []):=by intro _;rfl):PG X (.Subscript o i pos) (XJ to ti t):=by
 intro aa s σ H v u Q I r h;rw[ha];refine Za (wpAny_holding (bi (ho aa s σ H _ I h) λov s1 ⟨x,H1,I1,r1,q1⟩=>?_));refine Za (wpAny_holding (bi (hi aa s1 σ H1 _ I1 q1) λiv s2 ⟨y,H2,I2,r2,q2⟩=>?_));refine Za (wpAny_standAt (Za (wpAny_holding (bi (hs aa s2 σ H2 x y v ov iv u _ I2 r1 r2 r q2) λ_ s3 ⟨H3,I3,q3⟩=>?_))));exact wpAny_release ⟨σ,H3,I3,q3⟩
def Fj (te:TE)(g:TG):TS:=λD σ H=>te σ H λx H1=>g x σ H1 D.nx
theorem j3 {tg e:Expr}{te:TE}{g:TG}(he:PE X e te)(hg:PG X tg g)(hs:swapsWithSole [tg] e pos.line X.env=pure false:=by rfl)(hw:swappedStores [tg] e X.env=pure none:=by rfl)
  (h1:(assignEach [tg] X.env).map (·.2)=[assign tg X.env]:=by rfl):PS X (.Assign [tg] e pos) (Fj te g):=by
 intro aa s σ H D I h;refine wpAny_Assign_stores (bi (he aa s σ H _ I h) λv s1 ⟨x,H1,I1,r1,q1⟩=>?_) hs hw;rw[h1];exact bi (hg aa s1 σ H1 x v _ I1 r1 q1) λ_ s2 q=>q
theorem lm {i:Nat}{x:Str}{e:Expr}{te:TE}{mB:Pos}(hN:X.N.Nodup)(hi:X.N[i]?=some x)(hx:Loc X.env.scope x)(he:PE X e te)(hs:swapsWith e (some (.Name x mB)) pos.line X.env=pure false:=by rfl)(hf:X.fn x=true\/X.env.scope.names.lookup x=some .local:=by first |exact .inl rfl |exact .inr rfl |assumption) :
  PS X (.Assign [.Name x mB] e pos) (Fj te (cA i)):=by
 intro aa s σ H D I h;refine wpAny_Assign_Name (bi (he aa s σ H _ I h) λv s1 ⟨y,H1,I1,r1,q1⟩=>?_) hs;exact E2 I1 hN hi hx r1 (λs2 I2=>⟨_,H1,I2,q1⟩) hf
def Wk (i j:Nat)(ta:TA):TS:=λD σ H=>ta σ H λvs H1=>∃v w,vs=[v,w]/\D.nx ((σ.set i (some v)).set j (some w)) H1
theorem j2 {i j:Nat}{x y:Str}{a b:Expr}{ta:TA}{px py pt:Pos}{kt k2 Jh}(hc:X.calm=true)(hN:X.N.Nodup)(hi:X.N[i]?=some x)(hj:X.N[j]?=some y)(Uj:i≠j)
  (hx:X.env.scope.names.lookup x=some .local) (hy:X.env.scope.names.lookup y=some .local) (ha:PA X [a,b] ta)
  (hw:swappedStores [.Tuple [.Name x px,.Name y py] kt pt] (.Tuple [a,b] k2 Jh) X.env=pure (some [x,y]))
  (hs:swapsWithSole [.Tuple [.Name x px,.Name y py] kt pt] (.Tuple [a,b] k2 Jh) pos.line X.env=pure false:=by rfl) :
  PS X (.Assign [.Tuple [.Name x px,.Name y py] kt pt] (.Tuple [a,b] k2 Jh) pos) (Wk i j ta):=by
 intro aa s σ H D I h;rw[exec_Assign_arm];refine Za (wpAny_standAt ?_);rw[hs];refine Za (wpAny_pure ?_);rw[if_neg (by decide)];refine Za (Tuple_ (bi (ha _ aa s σ H _ I h) λus s1 ⟨vs,H1,I1,r1,q1⟩=>?_));obtain⟨v,w,e1,q1⟩:=q1;subst e1;obtain⟨u1,u2,rfl,rv,AT⟩:∃u1 u2,us=[u1,u2]/\RelV v u1/\RelV w u2:=by
  cases r1 with
  |cons p q =>
   cases q with
   |cons p' q' =>
    cases q'
    exact⟨_,_,rfl,p,p'⟩
 refine wpAny_newObj_type ?_ (by show 2<=sizeLine;decide);have I2:Inv X aa σ H1 { s1 with heap:=s1.heap.push { cls:=.type "tuple",data:=.seq [u1,u2].toArray } }:=I1.kept (t':=s1.toks) λb o e=>Heap.get?_push_of_some _ e
 rw[hw];refine Za (wpAny_pure ?_);show wpAny (model X.prog X.w) X.A (do rule "assign.swapped-stores";let items <- unpackItems (.ref s1.heap.objs.size) 2 none;assignInOrder [λv=>bindName X.env y v,λv=>bindName X.env x v] items.reverse;pure Flow.next) _ _ _;refine Za (wpAny_rule (Za (unpackItems_tuple (items:=#[u1,u2]) (I.ok.hd hc) (IsTup.new s1.heap _) λh' EK=>?_)));have I3:=I2.kept (h':=h') (t':=s1.toks) λb o e=>EK b o (Yd (Heap.lt_size e)) e
 show wpAny _ _ (assignInOrder [λv=>bindName X.env y v,λv=>bindName X.env x v] [u2,u1] >>= λ_=>pure Flow.next) _ _ _;refine Za (assignInOrder_cons (wpAny_bindName (E2 I3 hN hj (.inl hy) AT (λs2 I4=>?_) (.inr hy))));refine assignInOrder_cons (wpAny_bindName (E2 I4 hN hi (.inl hx) rv (λs3 I5=>assignInOrder_nil (wpAny_pure ?_)) (.inr hx)));rw[List.set_comm _ _ (Ne.symm Uj)] at I5;exact⟨_,H1,I5,q1⟩
def Ws (i:Nat)(te:TE)(ti:Sy):TS:=λD σ H=>∃x,σ[i]?=some (some x)/\te σ H λy H1=>ti x y H1 λz H2=>D.nx (σ.set i (some z)) H2
theorem LJ {i:Nat}{x:Str}{e:Expr}{te:TE}{op:Operator}{ti:Sy}{mB:Pos}(hN:X.N.Nodup)(hi:X.N[i]?=some x)(hx:Loc X.env.scope x)(he:PE X e te)(ho:γ X op ti)(hf:X.fn x=true\/X.env.scope.names.lookup x=some .local:=by first |exact .inl rfl |exact .inr rfl |assumption) :
  PS X (.AugAssign (.Name x mB) op e pos) (Ws i te ti):=by
 intro aa s σ H D I h;obtain⟨v,e1,h⟩:=h;obtain⟨m,hn,hl⟩:=I.loc;have vis:NJ X.env.scope x:=by rcases hx with k |k;exact .inl k;exact .inr (.inl k)
 obtain⟨u,r,l⟩:=hl i x v hi e1 vis;refine wpAny_AugAssign_Name ?_;have go:wpAny (model X.prog X.w) X.A (eval e X.env) (λw eJ=>wpAny (model X.prog X.w) X.A (inplaceOp op u w) (λr cO=>wpAny (model X.prog X.w) X.A (storeName X.env x r) (λ_=>SP X aa D .next) X.xe cO) X.xe eJ) X.xe s:=by
  refine bi (he aa s σ H _ I h) λw s1 ⟨y,H1,I1,r1,q1⟩=>?_
  refine bi (ho aa s1 σ H1 v y u w _ I1 r r1 q1) λz s2 ⟨zv,H2,I2,r2,q2⟩=>?_
  exact E2 I2 hN hi hx r2 (λs3 I3=>⟨_,H2,I3,q2⟩) hf
 rcases l with ⟨hk,hm⟩ |⟨hk,c,hc,xN⟩
 .exact wpAny_loadName_local I.ok.kind hk hn hm go
 .rcases hk with hk |hk
  .exact wpAny_loadName_cell I.ok.kind hk hc xN go
  .rcases hx with k |k
   .have:X.env.scope.names.lookup x=some .free:=hk;rw[k] at this;cases this
   .have:X.env.scope.names.lookup x=some .free:=hk;rw[k] at this;cases this
def ipI (f:Int->Int->Int):Sy:=λx y H Q=>∃i j,x=.int i/\y=.int j/\Q (.int (f i j)) H
theorem M2:γ X .Add (ipI λi j=>i+j):=by
 intro aa s σ H x y v u Q I r1 r2 h;obtain⟨i,j,e1,e2,q⟩:=h;subst e1;subst e2;obtain⟨t,rfl⟩:=r1;obtain⟨t',rfl⟩:=r2;exact iadd_int ⟨.int _,H,I.tok _,⟨_,rfl⟩,q⟩
end
section
variable {X:Cx}{pos:Pos}
def Ce (c:TT)(tb:TS):TS:=λD σ H=>∃W:Nat->St->Hp->Prop,(∃m,W m σ H)/\∀m σ H,W m σ H ->
 c σ H λb H1=>if b=true then ∃N:St->Hp->Prop,(∀aC H',N aC H'->∃m',m'<m/\W m' aC H')/\tb { D with nx:=N,ct:=N,bk:=D.nx } σ H1 else D.nx σ H1
theorem jj {c:Expr}{body:List Stmt}{tc:TT}{tb:TS}(hp:PassesOwn (model X.prog X.w) X.A X.env X.xe)(hc:PT X c tc)(hb:iH X body tb):PS X (.While c body [] pos) (Ce tc tb):=by
 intro aa s σ H D I h;obtain⟨W,⟨m0,w0⟩,turn⟩:=h;refine wpAny_While (codeAny_whileLoop (λn s'=>∃aC H',Inv X aa aC H' s'/\W n aC H') ?_ m0 ⟨σ,H,I,w0⟩);rintro n s1 ⟨HE,H1,I1,w1⟩;refine wpAny_passesOwn hp (bi (hc aa s1 HE H1 _ I1 (turn n HE H1 w1)) λb s2 ⟨H2,I2,q2⟩=>?_);cases b with
 |true =>
  obtain⟨N,hN,q2⟩:=q2;rw[if_pos rfl];refine wpAny_passesOwn hp (bi (hb aa s2 HE H2 _ I2 q2) λf s3 q3=>?_);cases f with
  |next =>
   obtain⟨ju,H3,I3,n3⟩:=q3;obtain⟨m',hm,w3⟩:=hN ju H3 n3;exact⟨m',hm,ju,H3,I3,w3⟩
  |cont =>
   obtain⟨ju,H3,I3,n3⟩:=q3;obtain⟨m',hm,w3⟩:=hN ju H3 n3;exact⟨m',hm,ju,H3,I3,w3⟩
  |brk=>exact q3
  |ret v=>exact q3
 |false =>
  rw[if_neg Zy];exact wpAny_execs_nil ⟨HE,H2,I2,q2⟩
end
structure It where
 go:Nat->Hp->Prop
 xl:Nat->Hp->V->Hp->Prop
 stop:Nat->Hp->Prop
def cR (X:Cx)(aa:Γ2)(H:Hp)(b:Addr):Prop :=
 H b=none/\b≠X.env.locals/\b∉X.fs/\(b∈X.ex\/X.aT.heap.objs.size<=b)/\(∀x c,X.env.cells.lookup x=some c->c≠b)/\∀p∈X.pn++aa,p.1≠b
theorem Inv.jL {X:Cx}{aa:Γ2}{σ:St}{H H':Hp}{s:Shared}{b:Addr}(I:Inv X aa σ H s)(hb:s.heap.objs.size<=b)(hn:H' b=none):cR X aa H' b:=by
 refine⟨hn,Xj (Ya I.lt hb),I.WP hb,.inr (Ye I.sz hb),λx c e z=>?_,λp hp z=>?_⟩
 .obtain⟨v,q⟩:=I.cell x c e;exact absurd (Ya q.lt (by rw[z];exact hb)) (Yv _)
 .exact absurd (Ya (Heap.lt_size (I.pin p hp).1) (by rw[z];exact hb)) (Yv _)
structure Turn (P:Program)(w:World)(K:Θ1)(tg:Expr)(J:It)(fp:List Addr)(it:Addr)(tn:Nat->Heap->Prop):Prop where
 mem:it∈fp
 obj:∀i h,tn i h->∀b∈fp,∃o,h.get? b=some o/\∀v,o.data≠.cell v
 keep:∀i h h',tn i h->(∀b∈fp,∀o,h.get? b=some o->h'.get? b=some o)->tn i h'
 item:∀(X:Cx),X.prog=P->X.w=w->X.K=K->X.calm=true->∀(i:Nat) (aa:Γ2) (s:Shared) (σ:St) (H:Hp) (E:Θ2),Inv X aa σ H s->(∀b∈fp,cR X aa H b)->tn i s.heap->J.go i H ->
  wpAny (model P w) X.A (pyNext (.ref it)) (λr s1=>∃u,r=some u /\
   wpAny (model P w) X.A (letOwnedTupleGo tg (.ref it) u) (λ_ s2=>∃x H',Inv X aa σ H' s2/\RelV x u/\J.xl i H x H'/\tn (i+1) s2.heap/\∀b∈fp,H' b=none) E s1) E s
 done:∀(X:Cx),X.prog=P->X.w=w->X.K=K->X.calm=true->∀(i:Nat) (aa:Γ2) (s:Shared) (σ:St) (H:Hp) (E:Θ2),Inv X aa σ H s->(∀b∈fp,cR X aa H b)->tn i s.heap->J.stop i H ->
  wpAny (model P w) X.A (pyNext (.ref it)) (λr s1=>r=none/\Inv X aa σ H s1) E s
 self:∀(A:Around) (i:Nat) (s:Shared) (Q:Θ2) (E:Θ2),tn i s.heap->Q (.ref it) s->wpAny (model P w) A (pyIter (.ref it)) Q E s
abbrev TI:=St->Hp->(It->Hp->Prop)->Prop
def ε (X:Cx)(aa:Γ2)(σ:St)(tg:Expr)(R:It->Hp->Prop)(EI:Value)(s2:Shared):Prop :=
 ∃(it:Addr) (fp:List Addr) (tn:Nat->Heap->Prop) (J:It) (H':Hp),EI=.ref it/\Inv X aa σ H' s2/\Turn X.prog X.w X.K tg J fp it tn/\tn 0 s2.heap/\(∀b∈fp,cR X aa H' b)/\R J H'
def PI (X:Cx)(tg iter:Expr)(wi:TI):Prop :=
 ∀(aa:Γ2) (s:Shared) (σ:St) (H:Hp) (R:It->Hp->Prop),Inv X aa σ H s->wi σ H R ->
  wpAny (model X.prog X.w) X.A (eval iter X.env) (λv s1=>wpAny (model X.prog X.w) X.A (pyIter v) (ε X aa σ tg R) X.xe s1) X.xe s
theorem ui {M:Model}{A:Around}{E:Θ2}{s:Shared}{tg:Expr}{it:Addr}{u:Value}{o:Obj}{n:String}{vs:Array Value}{Q:Unit->Shared->Prop}(ho:s.heap.get? it=some o)(hc:o.cls=.type n)(hd:o.data=.fields vs)
  (hn:["enumerate","zip","dict_itemiterator","dict_reverseitemiterator","odict_iterator","itertools.zip_longest","itertools.pairwise"].contains n=false) (hQ:Q () s):wpAny M A (letOwnedTupleGo tg (.ref it) u) Q E s:=by
 unfold letOwnedTupleGo;cases tg<;>first
  |exact wpAny_pure hQ
  |(cases u<;>first
    |exact wpAny_pure hQ
    |(refine Za (wpAny_load ho ?_);rw[hc,hd];show wpAny M A (if (["enumerate","zip","dict_itemiterator","dict_reverseitemiterator","odict_iterator","itertools.zip_longest","itertools.pairwise"].contains n&&vs[0]? == some (rawInt _))=true then _ else _) Q E s;rw[if_neg (by intro h;rw[hn,Bool.false_and] at h;cases h)];exact wpAny_pure hQ))
def zk (K:Θ1)(a:Addr):It :=
 ⟨λi H=>∃xs x,bA K H a xs/\xs[i]?=some x,λi H x H'=>H'=H/\∀xs,bA K H a xs->xs[i]?=some x,λi H=>∃xs,bA K H a xs/\xs.length<=i⟩
def zj (K:Θ1)(a:Addr):It :=
 ⟨λi H=>∃xs x,aG K H a xs/\xs[i]?=some x,λi H x H'=>H'=H/\∀xs,aG K H a xs->xs[i]?=some x,λi H=>∃xs,aG K H a xs/\xs.length<=i⟩
def A9 (lo:Int)(n:Nat):It:=⟨λi _=>i<n,λi H x H'=>H'=H/\x=.int (lo+i),λi _=>n<=i⟩
theorem qp {P:Program}{w:World}{K:Θ1}{tg:Expr}(a it:Addr):Turn P w K tg (zk K a) [it] it (λi h=>h.IsListIter it a i) where
 mem:=by simp
 obj:=λi h st b hb=>by
  have e:b=it:=by simpa using hb
  subst e;obtain⟨o,e,c,d⟩:=st;exact⟨o,e,λv z=>by rw[d] at z;cases z⟩
 keep:=λi h h' st k=>st.at λo e=>k it (by simp) o e
 item:=by
  intro X hP hw hK hc i aa s σ H E I hf st hg;subst hP hw hK;obtain⟨xs,x,hq,hx⟩:=hg;obtain⟨its,rv,p,hz⟩:=I.list hq;obtain⟨u,hu,ru⟩:=rv.get hx;obtain⟨f0,f1,f2,f3,f4,f5⟩:=hf it (by simp);refine wpAny_pyNext_list_item st p.isList (x:=u) (by simpa using hu) λh' xn sb=>?_
  have I1:Inv X aa σ H { s with heap:=h' }:=I.turned (t':=s.toks) (λb o hb e=>(sb.2 b hb).trans e) f0 f1 f3 f4 f5;obtain⟨o,e,c,d⟩:=id xn;exact⟨u,rfl,ui (s:={ s with heap:=h' }) e c d (by decide) ⟨x,H,I1,ru,⟨rfl,λys hy=>by rw[I.D3 hy hq];exact hx⟩,xn,λb hb=>(hf b hb).1⟩⟩
 done:=by
  intro X hP hw hK hc i aa s σ H E I hf st hg;subst hP hw hK;obtain⟨xs,hq,hx⟩:=hg;obtain⟨its,rv,p,hz⟩:=I.list hq;obtain⟨f0,f1,f2,f3,f4,f5⟩:=hf it (by simp);have hl:=rv.length;exact wpAny_pyNext_list_end (I.ok.hd hc) st p.isList (by simp;omega) λh' eb=>⟨rfl,I.turned (t':=s.toks) (λb o hb e=>eb b o hb e) f0 f1 f3 f4 f5⟩
 self:=λ_ _ _ _ _ st h=>wpAny_pyIter_listiter st h
theorem oY {P:Program}{w:World}{K:Θ1}{tg:Expr}(a it:Addr):Turn P w K tg (zj K a) [it] it (λi h=>h.IsTupleIter it a i) where
 mem:=by simp
 obj:=λi h st b hb=>by
  have e:b=it:=by simpa using hb
  subst e;obtain⟨o,e,c,d⟩:=st;exact⟨o,e,λv z=>by rw[d] at z;cases z⟩
 keep:=λi h h' st k=>st.at λo e=>k it (by simp) o e
 item:=by
  intro X hP hw hK hc i aa s σ H E I hf st hg;subst hP hw hK;obtain⟨xs,x,hq,hx⟩:=hg;obtain⟨its,rv,p,hz⟩:=I.tuple hq;obtain⟨u,hu,ru⟩:=rv.get hx;obtain⟨f0,f1,f2,f3,f4,f5⟩:=hf it (by simp);refine wpAny_pyNext_tuple_item st (show s.heap.IsTuple a its.toArray from p) (x:=u) (by simpa using hu) λh' xn sb=>?_
  have I1:Inv X aa σ H { s with heap:=h' }:=I.turned (t':=s.toks) (λb o hb e=>(sb.2 b hb).trans e) f0 f1 f3 f4 f5;obtain⟨o,e,c,d⟩:=id xn;exact⟨u,rfl,ui (s:={ s with heap:=h' }) e c d (by decide) ⟨x,H,I1,ru,⟨rfl,λys hy=>by rw[I.jA hy hq];exact hx⟩,xn,λb hb=>(hf b hb).1⟩⟩
 done:=by
  intro X hP hw hK hc i aa s σ H E I hf st hg;subst hP hw hK;obtain⟨xs,hq,hx⟩:=hg;obtain⟨its,rv,p,hz⟩:=I.tuple hq;obtain⟨f0,f1,f2,f3,f4,f5⟩:=hf it (by simp);have hl:=rv.length;exact wpAny_pyNext_tuple_end (I.ok.hd hc) st (show s.heap.IsTuple a its.toArray from p) (by simp;omega) λh' eb=>⟨rfl,I.turned (t':=s.toks) (λb o hb e=>eb b o hb e) f0 f1 f3 f4 f5⟩
 self:=λ_ _ _ _ _ st h=>wpAny_pyIter_tupleiter st h
theorem wC {P:Program}{w:World}{K:Θ1}{tg:Expr}(it:Addr)(lo:Int)(n:Nat):Turn P w K tg (A9 lo n) [it] it (λi h=>IsRangeIter h it (lo+(i:Nat)*1) ((n:Int)-(i:Nat)) 1) where
 mem:=by simp
 obj:=λi h st b hb=>by
  have e:b=it:=by simpa using hb
  subst e;exact⟨_,st,λv z=>by
   have z':Data.fields _=Data.cell v:=z;cases z'⟩
 keep:=λi h h' st k=>k it (by simp) _ st
 item:=by
  intro X hP hw hK hc i aa s σ H E I hf st hg;subst hP hw hK;obtain⟨f0,f1,f2,f3,f4,f5⟩:=hf it (by simp);have W:=Walks.range (prog:=X.prog) (w:=X.w) (I.ok.hd hc) it lo 1 n;refine W.item i s _ _ hg st λv h' tk hv xn kk=>?_
  obtain⟨t,rfl⟩:=hv;have I1:Inv X aa σ H { s with heap:=h',toks:=tk }:=I.turned (λb o hb e=>kk b o (by simpa using hb) e) f0 f1 f3 f4 f5;refine⟨_,rfl,ui (s:={ s with heap:=h',toks:=tk }) (n:="range_iterator") xn rfl rfl (by decide) ⟨.int (lo+i),H,I1,⟨t,?_⟩,⟨rfl,rfl⟩,xn,λb hb=>(hf b hb).1⟩⟩;rw[Int.mul_one]
 done:=by
  intro X hP hw hK hc i aa s σ H E I hf st hg;subst hP hw hK;obtain⟨f0,f1,f2,f3,f4,f5⟩:=hf it (by simp);exact wpAny_pyNext_range_end (I.ok.hd hc) st (by have:n<=i:=hg;omega) λh' eb=>⟨rfl,I.turned (t':=s.toks) (λb o hb e=>eb b o hb e) f0 f1 f3 f4 f5⟩
 self:=λ_ _ _ _ _ st h=>wpAny_pyIter_rangeiter st h
section
variable {X:Cx}{tg:Expr}
def RC (K:Θ1)(tl:TE):TI:=λσ H R=>tl σ H λx H1=>∃a,x=.ref a/\(∃xs,bA K H1 a xs)/\R (zk K a) H1
def WW (K:Θ1)(tl:TE):TI:=λσ H R=>tl σ H λx H1=>∃a,x=.ref a/\(∃xs,aG K H1 a xs)/\R (zj K a) H1
theorem Ds {aa:Γ2}{σ:St}{H:Hp}{s:Shared}{R:It->Hp->Prop}{E:Θ2}{lo hi:Int}{t u v:Tok}{tk:Nat}(I:Inv X aa σ H s)(h1:-(2 ^ 62)<=lo)(h2:lo<2 ^ 62)(h3:-(2 ^ 62)<=hi)(h4:hi<2 ^ 62)
  (q:R (A9 lo (hi-lo).toNat) H):wpAny (model X.prog X.w) X.A (pyIter (.ref s.heap.objs.size)) (ε X aa σ tg R) E { s with heap:=s.heap.push { cls:=.type "range",data:=.fields #[.int lo t,.int hi u,.int 1 v] },toks:=tk }:=by
 refine wpAny_pyIter_range (IsRange.new ..) (small_one h1 h2 h3 h4) ?_;have I1:Inv X aa σ H { s with heap:=s.heap.push { cls:=.type "range",data:=.fields #[.int lo t,.int hi u,.int 1 v] },toks:=tk }:=I.kept λb o e=>Heap.get?_push_of_some _ e
 refine⟨(s.heap.push { cls:=.type "range",data:=.fields #[.int lo t,.int hi u,.int 1 v] }).objs.size,[(s.heap.push { cls:=.type "range",data:=.fields #[.int lo t,.int hi u,.int 1 v] }).objs.size],_,_,H,rfl,
  I1.kept (t':=tk) λb o e=>Heap.get?_push_of_some _ e,wC _ lo (hi-lo).toNat,?_,λb hb=>?_,q⟩
 .have e1:lo+((0:Nat):Int)*1=lo:=by simp
  have e2:(((hi-lo).toNat:Nat):Int)-((0:Nat):Int)=Builtin.Range.rangeSize lo hi 1:=by rw[rangeSize_one];split<;>omega
  show IsRangeIter _ _ (lo+((0:Nat):Int)*1) ((((hi-lo).toNat:Nat):Int)-((0:Nat):Int)) 1;rw[e1,e2];exact Heap.get?_push_size _ rfl
 .have e:b=(s.heap.push { cls:=.type "range",data:=.fields #[.int lo t,.int hi u,.int 1 v] }).objs.size:=by simpa using hb
  subst e;exact I1.jL (Ze _) (I1.bt.fresh (Ze _))
def IP (ta:TA):TI:=λσ H R=>ta σ H λvs H1=>∃j:Int,vs=[.int j]/\-(2 ^ 62)<=j/\j<2 ^ 62/\R (A9 0 j.toNat) H1
theorem jE {a:Expr}{ta:TA}{p pos:Pos}(hg:Gl X "range")(hm:X.mg "range"=none)(ha:PA X [a] ta)(hs:starEach [a] X.env=[(false,eval a X.env)]:=by rfl):PI X tg (.Call (.Name "range" p) [a] [] pos) (IP ta):=by
 intro aa s σ H R I h;refine Call_ (fQ I hg hm boot_range (PyProof.Rows.callWith_type1 (bi (ha pos aa s σ H _ I h) λus s1 ⟨vs,H1,I1,r1,q1⟩=>?_) hs rfl));obtain⟨j,e,q1,q2,q⟩:=q1;subst e;cases r1 with
 |cons r rr =>
  cases rr
  obtain⟨t,rfl⟩:=r;exact call_range_1 (Ds I1 (by omega) (by omega) q1 q2 (by simpa using q))
def Wq (wi:TI)(g:TG)(tb:TS):TS:=λD σ H=>wi σ H λJ H1=>∃W:Nat->Nat->St->Hp->Prop,(∃m,W 0 m σ H1)/\∀i m σ H,W i m σ H ->
 (J.stop i H/\D.nx σ H)\/(J.go i H/\∃N:St->Hp->Prop,(∀aC H',N aC H'->∃m',m'<m/\W (i+1) m' aC H')/\∀x H',J.xl i H x H'->g x σ H' λdg H2=>tb { D with nx:=N,ct:=N,bk:=D.nx } dg H2)
def dJ (fp:List Addr)(h:Heap):Γ2:=fp.filterMap λb=>(h.get? b).map λo=>(b,o)
theorem AK {fp:List Addr}{h:Heap}{b:Addr}{o:Obj}(hb:b∈fp)(e:h.get? b=some o):(b,o)∈dJ fp h:=List.mem_filterMap.mpr ⟨b,hb,by rw[e];rfl⟩
theorem Ab {fp:List Addr}{h:Heap}{p:Addr×Obj}(hp:p∈dJ fp h):p.1∈fp/\h.get? p.1=some p.2:=by
 obtain⟨b,hb,e⟩:=List.mem_filterMap.mp hp;cases q:h.get? b with
 |none=>rw[q] at e;cases e
 |some o =>
  rw[q] at e;have e':(b,o)=p:=Option.some.inj e;subst e';exact⟨hb,q⟩
theorem Inv.pinned {aa:Γ2}{σ:St}{H:Hp}{s:Shared}{fp:List Addr}(I:Inv X aa σ H s)(hf:∀b∈fp,cR X aa H b)(ho:∀b∈fp,∃o,s.heap.get? b=some o/\∀v,o.data≠.cell v):Inv X (aa++dJ fp s.heap) σ H s :=
 I.ss λp hp=>(Zp.mp hp).elim (λz=>I.pin p (Zq _ z)) λz=>by
  obtain⟨hb,e⟩:=Ab z;obtain⟨f0,f1,f2,_⟩:=hf p.1 hb;obtain⟨o,e',d⟩:=ho p.1 hb;rw[e] at e';cases e';exact⟨e,f0,f1,f2,d⟩
theorem Inv.df {aa pl:Γ2}{σ:St}{H:Hp}{s:Shared}(I:Inv X (aa++pl) σ H s):Inv X aa σ H s:=I.ss λp hp=>I.pin p (Zq _ (Yw _ hp))
theorem oA {iter:Expr}{body:List Stmt}{wi:TI}{g:TG}{tb:TS}{pos:Pos}(hp:PassesOwn (model X.prog X.w) X.A X.env X.xe)(hc:X.calm=true)(hi:PI X tg iter wi)(hg:PG X tg g)(hb:iH X body tb)
  (hs:∀x,foldedSetIterable iter X.env x=pure x:=by intro _;rfl):PS X (.For tg iter body [] pos) (Wq wi g tb):=by
 intro aa s σ H D I h;refine wpAny_For (bi (hi aa s σ H _ I h) λv s1 h1=>bi h1 λEI s2 h2=>?_) hs;obtain⟨it,fp,tn,J,H2,e,I2,T,gG,f2,W,⟨m0,w0⟩,turn⟩:=h2;subst e;have ii:∀{H':Hp},(∀b∈fp,H' b=none)->∀b∈fp,cR X aa H' b:=λhn b hb=>⟨hn b hb,(f2 b hb).2⟩
 refine codeAny_forLoop_any (λn s'=>∃i aC H',Inv X aa aC H' s'/\tn i s'.heap/\(∀b∈fp,H' b=none)/\W i n aC H') ?_ m0 ⟨0,σ,H2,I2,gG,λb hb=>(f2 b hb).1,w0⟩;rintro n s3 ⟨i,ju,H3,I3,X8,Z5,w3⟩;rcases turn i n ju H3 w3 with ⟨stop,qn⟩ |⟨go,N,hN,step⟩
 .refine wpAny_passesOwn hp (bi (T.done X rfl rfl rfl hc i aa s3 ju H3 X.xe I3 (ii Z5) X8 stop) λr s4 ⟨hr,I4⟩=>?_);subst hr;exact wpAny_execs_nil ⟨ju,H3,I4,qn⟩
 .refine wpAny_passesOwn hp (bi (T.item X rfl rfl rfl hc i aa s3 ju H3 X.xe I3 (ii Z5) X8 go) λr s4 ⟨u,hr,h4⟩=>?_);subst hr;refine wpAny_passesOwn hp (bi h4 λ_ s5 ⟨x,H5,I5,r5,y5,nB,ze⟩=>?_);have I5':=I5.pinned (ii ze) (T.obj _ _ nB);refine wpAny_passesOwn hp (bi (hg _ s5 ju H5 x u _ I5' r5 (step x H5 y5)) λ_ s6 ⟨σ6,H6,I6,q6⟩=>?_);refine wpAny_passesOwn hp (bi (hb _ s6 σ6 H6 _ I6 q6) λf s7 q7=>?_);have again:∀{vk:St}{H7:Hp},Inv X (aa++dJ fp s5.heap) vk H7 s7->N vk H7->∃m,m<n/\∃i aC H',Inv X aa aC H' s7/\tn i s7.heap/\(∀b∈fp,H' b=none)/\W i m aC H':=λ{vk H7} I7 n7=>by
   obtain⟨m',hm,w7⟩:=hN vk H7 n7;refine⟨m',hm,i+1,vk,H7,I7.df,T.keep _ _ _ nB λb hb o e=>(I7.pin (b,o) (Zq _ (Zq _ (AK hb e)))).1,λb hb=>?_,w7⟩;obtain⟨o,e,d⟩:=T.obj _ _ nB b hb;exact(I7.pin (b,o) (Zq _ (Zq _ (AK hb e)))).2.1
  cases f with
  |next=>obtain⟨vk,H7,I7,n7⟩:=q7;exact again I7 n7
  |cont=>obtain⟨vk,H7,I7,n7⟩:=q7;exact again I7 n7
  |brk=>obtain⟨vk,H7,I7,q7⟩:=q7;exact⟨vk,H7,I7.df,q7⟩
  |ret v=>obtain⟨x7,vk,H7,I7,r7,q7⟩:=q7;exact⟨x7,vk,H7,I7.df,r7,q7⟩
end
theorem oV {K:Θ1}{a:Addr}{xs:List V}{g:TG}{tb:TS}{D:Ends}{σ:St}{H:Hp}(Pv:Nat->St->Hp->Prop)(h0:Pv 0 σ H)(hl:∀i σ H,i<=xs.length->Pv i σ H->bA K H a xs)
  (hs:∀i x σ H,xs[i]?=some x->Pv i σ H->g x σ H λdg H2=>tb { D with nx:=Pv (i+1),ct:=Pv (i+1),bk:=D.nx } dg H2) (hd:∀σ H,Pv xs.length σ H->D.nx σ H) :
  ∃W:Nat->Nat->St->Hp->Prop,(∃m,W 0 m σ H)/\∀i m σ H,W i m σ H ->
   ((zk K a).stop i H/\D.nx σ H)\/((zk K a).go i H/\∃N:St->Hp->Prop,(∀aC H',N aC H'->∃m',m'<m/\W (i+1) m' aC H')/\∀x H',(zk K a).xl i H x H'->g x σ H' λdg H2=>tb { D with nx:=N,ct:=N,bk:=D.nx } dg H2):=by
 refine⟨λi m σ H=>m=xs.length-i/\i<=xs.length/\Pv i σ H,⟨xs.length,by simp,Yn _,h0⟩,?_⟩;rintro i m σ H ⟨rfl,hi,p⟩;have q:=hl i σ H hi p;by_cases cG:i<xs.length
 .refine .inr ⟨⟨xs,xs[i],q,by simp[cG]⟩,Pv (i+1),λaC H' p'=>⟨xs.length-(i+1),by omega,rfl,cG,p'⟩,λx H' y=>?_⟩;obtain⟨e,y⟩:=y;subst e;exact hs i x σ _ (y xs q) p
 .have e:i=xs.length:=by omega
  subst e;exact .inl ⟨⟨xs,q,Ze _⟩,hd σ H p⟩
theorem Ao {lo:Int}{n:Nat}{g:TG}{tb:TS}{D:Ends}{σ:St}{H:Hp}(Pv:Nat->St->Hp->Prop)(h0:Pv 0 σ H)
  (hs:∀i σ H,i<n->Pv i σ H->g (.int (lo+i)) σ H λdg H2=>tb { D with nx:=Pv (i+1),ct:=Pv (i+1),bk:=D.nx } dg H2) (hd:∀σ H,Pv n σ H->D.nx σ H) :
  ∃W:Nat->Nat->St->Hp->Prop,(∃m,W 0 m σ H)/\∀i m σ H,W i m σ H ->
   ((A9 lo n).stop i H/\D.nx σ H)\/((A9 lo n).go i H/\∃N:St->Hp->Prop,(∀aC H',N aC H'->∃m',m'<m/\W (i+1) m' aC H')/\∀x H',(A9 lo n).xl i H x H'->g x σ H' λdg H2=>tb { D with nx:=N,ct:=N,bk:=D.nx } dg H2):=by
 refine⟨λi m σ H=>m=n-i/\i<=n/\Pv i σ H,⟨n,by simp,Yn _,h0⟩,?_⟩;rintro i m σ H ⟨rfl,hi,p⟩;by_cases cG:i<n
 .refine .inr ⟨cG,Pv (i+1),λaC H' p'=>⟨n-(i+1),by omega,rfl,cG,p'⟩,λx H' y=>?_⟩;obtain⟨e,y⟩:=y;subst e y;exact hs i σ _ cG p
 .have e:i=n:=by omega
  subst e;exact .inl ⟨Ze _,hd σ H p⟩
theorem jg {c:TT}{tb:TS}{D:Ends}{σ:St}{H:Hp}(Pv:St->Hp->Prop)(μ : St->Hp->Nat)(h0:Pv σ H)
  (hs:∀σ H,Pv σ H->c σ H λb H1=>if b=true then tb { D with nx:=λaC H'=>Pv aC H'/\μ aC H' < μ σ H,ct:=λaC H'=>Pv aC H'/\μ aC H' < μ σ H,bk:=D.nx } σ H1 else D.nx σ H1)
  (mono:∀σ H Q Q',(∀b H1,Q b H1->Q' b H1)->c σ H Q->c σ H Q'):Ce c tb D σ H:=by
 refine⟨λm σ H=>m=μ σ H/\Pv σ H,⟨_,rfl,h0⟩,?_⟩;rintro m σ H ⟨rfl,p⟩;refine mono σ H _ _ (λb H1 q=>?_) (hs σ H p);cases b with
 |true=>exact⟨_,λaC H' ⟨p',l⟩=>⟨_,l,rfl,p'⟩,q⟩
 |false=>exact q
abbrev R2:=V->V->Hp->VK->Prop
def d8 (X:Cx)(f:Value->Value->Sem Value)(r:R2):Prop :=
 ∀(aa:Γ2) (s:Shared) (σ:St) (H:Hp) (x y:V) (v u:Value) (Q:VK),Inv X aa σ H s->RelV x v->RelV y u->r x y H Q ->
  wpAny (model X.prog X.w) X.A (f v u) (EP X aa σ Q) X.xe s
def VQ (X:Cx)(f:Value->Sem Value)(r:V->Hp->VK->Prop):Prop :=
 ∀(aa:Γ2) (s:Shared) (σ:St) (H:Hp) (x:V) (v:Value) (Q:VK),Inv X aa σ H s->RelV x v->r x H Q ->
  wpAny (model X.prog X.w) X.A (f v) (EP X aa σ Q) X.xe s
def cc (X:Cx)(f:Value)(r:List V->Hp->VK->Prop):Prop :=
 ∀(aa:Γ2) (s:Shared) (σ:St) (H:Hp) (xs:List V) (us:Δ3) (Q:VK),Inv X aa σ H s->aP xs us->r xs H Q ->
  wpAny (model X.prog X.w) X.A (call f us) (EP X aa σ Q) X.xe s
def XX (X:Cx)(r:V->Hp->(Bool->Hp->Prop)->Prop):Prop :=
 ∀(aa:Γ2) (s:Shared) (σ:St) (H:Hp) (x:V) (v:Value) (Q:Bool->Hp->Prop),Inv X aa σ H s->RelV x v->r x H Q ->
  wpAny (model X.prog X.w) X.A (truthy v) (TP X aa σ Q) X.xe s
def EV (r:R2)(ta tb:TE):TE:=λσ H Q=>ta σ H λx H1=>tb σ H1 λy H2=>r x y H2 Q
def tUn (r:V->Hp->VK->Prop)(ta:TE):TE:=λσ H Q=>ta σ H λx H1=>r x H1 Q
def rI (C:Int->Int->Prop)(g:Int->Int->V):R2:=λx y H Q=>∃i j,x=.int i/\y=.int j/\C i j/\Q (g i j) H
def xo (g:Int->Int->V):R2:=λx y H Q=>∃i j,x=.int i/\y=.int j/\Q (g i j) H
def rU (g:Int->V):V->Hp->VK->Prop:=λx H Q=>∃i,x=.int i/\Q (g i) H
section
variable {X:Cx}{a b c:Expr}{ta tb tc:TE}{pos:Pos}
theorem KP (ha:PE X a ta)(hb:PE X b tb){aa:Γ2}{s:Shared}{σ:St}{H:Hp}{R:V->V->Hp->Prop}(I:Inv X aa σ H s)
  (h:ta σ H λx H1=>tb σ H1 λy H2=>R x y H2) {Q:Θ2}{f:Value->Value->Sem Value}
  (hf:∀v u s2 x y H2,Inv X aa σ H2 s2->RelV x v->RelV y u->R x y H2->wpAny (model X.prog X.w) X.A (f v u) Q X.xe s2) :
  wpAny (model X.prog X.w) X.A (eval a X.env) (λv bh=>wpAny (model X.prog X.w) X.A (eval b X.env) (λu eJ=>wpAny (model X.prog X.w) X.A (f v u) Q X.xe eJ) X.xe bh) X.xe s:=by
 refine bi (ha aa s σ H _ I h) λv s1 ⟨x,H1,I1,r1,q1⟩=>?_
 refine bi (hb aa s1 σ H1 _ I1 q1) λu s2 ⟨y,H2,I2,r2,q2⟩=>?_
 exact hf v u s2 x y H2 I2 r1 r2 q2
theorem cN {op:Operator}{r:R2}(ho:d8 X (binaryOp op) r)(ha:PE X a ta)(hb:PE X b tb):PE X (.BinOp a op b pos) (EV r ta tb):=by
 intro aa s σ H Q I h;exact wpAny_BinOp (KP ha hb I h λv u s2 x y H2 I2 rx ry q=>ho aa s2 σ H2 x y v u Q I2 rx ry q)
theorem BS {op:UnaryOp}{r:V->Hp->VK->Prop}(ho:VQ X (unaryOp op) r)(ha:PE X a ta):PE X (.UnaryOp op a pos) (tUn r ta):=by
 intro aa s σ H Q I h;exact UnaryOp_ (bi (ha aa s σ H _ I h) λv s1 ⟨x,H1,I1,r1,q1⟩=>ho aa s1 σ H1 x v Q I1 r1 q1)
theorem HG {f:Value->Value->Sem Value}{C:Int->Int->Prop}{g:Int->Int->Int}
  (rule:∀(i j:Int) (t u:Tok) (s:Shared) (Q:Θ2) (E:Θ2),C i j->Q (.int (g i j) s.toks) { s with toks:=s.toks+1 }->wpAny (model X.prog X.w) X.A (f (.int i t) (.int j u)) Q E s) :
  d8 X f (rI C λi j=>.int (g i j)):=by
 intro aa s σ H x y v u Q I rx ry h;obtain⟨i,j,rfl,rfl,hc,q⟩:=h;obtain⟨t,rfl⟩:=rx;obtain⟨t',rfl⟩:=ry;exact rule i j t t' s _ _ hc ⟨.int (g i j),H,I.tok _,⟨_,rfl⟩,q⟩
theorem Ps {f:Value->Value->Sem Value}{g:Int->Int->Int}
  (rule:∀(i j:Int) (t u:Tok) (s:Shared) (Q:Θ2) (E:Θ2),Q (.int (g i j) s.toks) { s with toks:=s.toks+1 }->wpAny (model X.prog X.w) X.A (f (.int i t) (.int j u)) Q E s) :
  d8 X f (xo λi j=>.int (g i j)):=by
 intro aa s σ H x y v u Q I rx ry h;obtain⟨i,j,rfl,rfl,q⟩:=h;obtain⟨t,rfl⟩:=rx;obtain⟨t',rfl⟩:=ry;exact rule i j t t' s _ _ ⟨.int (g i j),H,I.tok _,⟨_,rfl⟩,q⟩
theorem Fz {f:Value->Value->Sem Value}{g:Int->Int->Bool}
  (rule:∀(i j:Int) (t u:Tok) (s:Shared) (Q:Θ2) (E:Θ2),Q (.bool (g i j)) s->wpAny (model X.prog X.w) X.A (f (.int i t) (.int j u)) Q E s) :
  d8 X f (xo λi j=>.bl (g i j)):=by
 intro aa s σ H x y v u Q I rx ry h;obtain⟨i,j,rfl,rfl,q⟩:=h;obtain⟨t,rfl⟩:=rx;obtain⟨t',rfl⟩:=ry;exact rule i j t t' s _ _ ⟨.bl (g i j),H,I,rfl,q⟩
def XZ (i j:Int):Prop:=0<j/\j<1073741824
def QN (i j:Int):Prop:=0<=j/\j<=1000000/\i.natAbs<2 ^ 64
def K3 (i j:Int):Prop:=(-(2 ^ 64)<i/\i<2 ^ 64)\/(-(2 ^ 64)<j/\j<2 ^ 64)
theorem K3.ok {i j:Int}(h:K3 i j):IntMulOk i j:=by
 rcases h with ⟨h1,h2⟩ |⟨h1,h2⟩
 .exact .of_left (intBits_le_64 h1 h2)
 .exact .of_right (intBits_le_64 h1 h2)
theorem ip:d8 X (binaryOp .Add) (xo λi j=>.int (i+j)):=Ps λ_ _ _ _ _ _ _ q=>add_int q
theorem rH:d8 X (binaryOp .Sub) (xo λi j=>.int (i-j)):=Ps λ_ _ _ _ _ _ _ q=>sub_int q
theorem gy:d8 X (binaryOp .Mult) (rI K3 λi j=>.int (i*j)):=HG λ_ _ _ _ _ _ _ hc q=>mul_int q hc.ok
theorem kL:d8 X (binaryOp .FloorDiv) (rI XZ λi j=>.int (i / j)):=HG λi j _ _ _ _ _ hc q=>by
 have h1:(0:Int)<j:=hc.1;have h2:j<1073741824:=hc.2;exact floordiv_int (by omega) (by rw[Int.fdiv_eq_ediv_of_nonneg i (by omega)];exact q) (.inl (PyProof.noPylong_small (by omega)))
theorem gz:d8 X (binaryOp .Mod) (rI (λ_ j=>0<j) λi j=>.int (i % j)):=HG λi j _ _ _ _ _ hc q=>by
 have h1:(0:Int)<j:=hc;exact mod_int' (by omega) (by rw[Int.fmod_eq_emod_of_nonneg i (by omega)];exact q)
theorem yh:d8 X (binaryOp .Mod) (rI (λ_ j=>j≠0) λi j=>.int (i.fmod j)):=HG λ_ _ _ _ _ _ _ hc q=>mod_int' hc q
theorem rJ:d8 X (binaryOp .Pow) (rI QN λi j=>.int (i ^ j.toNat)):=HG λ_ _ _ _ _ _ _ hc q=>pow_int_small hc.1 hc.2.1 hc.2.2 q
theorem unI {f:Value->Sem Value}{g:Int->Int}
  (rule:∀(i:Int) (t:Tok) (s:Shared) (Q:Θ2) (E:Θ2),Q (.int (g i) s.toks) { s with toks:=s.toks+1 }->wpAny (model X.prog X.w) X.A (f (.int i t)) Q E s) :
  VQ X f (rU λi=>.int (g i)):=by
 intro aa s σ H x v Q I rx h;obtain⟨i,rfl,q⟩:=h;obtain⟨t,rfl⟩:=rx;exact rule i t s _ _ ⟨.int (g i),H,I.tok _,⟨_,rfl⟩,q⟩
theorem vZ:VQ X (unaryOp .USub) (rU λi=>.int (-i)):=unI λ_ _ _ _ _ q=>neg_int q
end
def Pe:V->V->Bool
 |.bO,.bO=>true |.bO,.int _=>true |.int _,.bO=>true |.bO,.bl _=>true |.bl _,.bO=>true |.bO,.str _=>true |.str _,.bO=>true
 |.int _,.int _=>true |.bl _,.bl _=>true |.str _,.str _=>true |.zg _,.zg _=>true
 |.int _,.str _=>true |.str _,.int _=>true |.bl _,.str _=>true |.str _,.bl _=>true
 |_,_=>false
def rEq:R2:=λx y H Q=>Pe x y=true/\Q (.bl (decide (x=y))) H
def rNe:R2:=λx y H Q=>Pe x y=true/\Q (.bl (!decide (x=y))) H
theorem yK {i j:Int}:decide (V.int i=V.int j)=(i == j):=by
 rw[Yp];simp
theorem C4 {i j:Bool}:decide (V.bl i=V.bl j)=(i == j):=by
 rw[Yp];simp
theorem yJ {i j:Str}:decide (V.str i=V.str j)=(i == j):=by
 rw[Yp];simp
theorem yM {i j:Array UInt8}:decide (V.zg i=V.zg j)=(i.toList == j.toList):=by
 rw[Yp];cases i;cases j;simp
section
variable {X:Cx}{a b c:Expr}{ta tb tc:TE}{pos:Pos}
theorem jM {aa:Γ2}{σ:St}{H:Hp}{s:Shared}{Q:VK}{k k':Bool}(I:Inv X aa σ H s)(q:Q (.bl k) H)(e:k=k'):EP X aa σ Q (.bool k') s:=by
 subst e;exact⟨.bl k,H,I,rfl,q⟩
theorem xH:d8 X (compareOp .Eq) rEq:=by
 intro aa s σ H x y v u Q I rx ry h;obtain⟨hs,q⟩:=h;cases x with
 |bO =>
  cases rx
  cases y with
  |bO=>cases ry;exact PySem.EqNone.eq_none_none (jM I q (by simp))
  |bl j=>cases ry;exact PySem.EqNone.eq_none_bool (jM I q (by simp))
  |int j=>obtain⟨t',rfl⟩:=ry;exact PySem.EqNone.eq_none_int (jM I q (by simp))
  |str j=>obtain⟨t',rfl⟩:=ry;exact PySem.EqNone.eq_none_str (jM I q (by simp))
  |_=>exact absurd (show false=true from hs) Zy
 |bl i =>
  cases rx
  cases y with
  |bO=>cases ry;exact PySem.EqNone.eq_bool_none (jM I q (by simp))
  |bl j=>cases ry;exact eq_bool (jM I q C4)
  |str j=>obtain⟨t',rfl⟩:=ry;exact PySem.EqMixed.eq_bool_str (jM I q (by simp))
  |_=>exact absurd (show false=true from hs) Zy
 |int i =>
  obtain⟨t,rfl⟩:=rx;cases y with
  |bO=>cases ry;exact PySem.EqNone.eq_int_none (jM I q (by simp))
  |int j=>obtain⟨t',rfl⟩:=ry;exact eq_int (jM I q yK)
  |str j=>obtain⟨t',rfl⟩:=ry;exact PySem.EqMixed.eq_int_str (jM I q (by simp))
  |_=>exact absurd (show false=true from hs) Zy
 |str i =>
  obtain⟨t,rfl⟩:=rx;cases y with
  |bO=>cases ry;exact PySem.EqNone.eq_str_none (jM I q (by simp))
  |bl j=>cases ry;exact PySem.EqMixed.eq_str_bool (jM I q (by simp))
  |int j=>obtain⟨t',rfl⟩:=ry;exact PySem.EqMixed.eq_str_int (jM I q (by simp))
  |str j=>obtain⟨t',rfl⟩:=ry;exact eq_str (jM I q yJ)
  |_=>exact absurd (show false=true from hs) Zy
 |zg i =>
  obtain⟨t,rfl⟩:=rx;cases y with
  |zg j=>obtain⟨t',rfl⟩:=ry;exact PySem.W.eq_bytes (jM I q yM)
  |_=>exact absurd (show false=true from hs) Zy
 |_=>cases y<;>exact absurd (show false=true from hs) Zy
theorem kD:d8 X (compareOp .NotEq) rNe:=by
 intro aa s σ H x y v u Q I rx ry h;obtain⟨hs,q⟩:=h;cases x with
 |bO =>
  cases rx
  cases y with
  |bO=>cases ry;exact PySem.EqNone.ne_none_none (jM I q (by simp))
  |bl j=>cases ry;exact PySem.EqNone.ne_none_bool (jM I q (by simp))
  |int j=>obtain⟨t',rfl⟩:=ry;exact PySem.EqNone.ne_none_int (jM I q (by simp))
  |str j=>obtain⟨t',rfl⟩:=ry;exact PySem.EqNone.ne_none_str (jM I q (by simp))
  |_=>exact absurd (show false=true from hs) Zy
 |bl i =>
  cases rx
  cases y with
  |bO=>cases ry;exact PySem.EqNone.ne_bool_none (jM I q (by simp))
  |bl j=>cases ry;exact ne_bool (jM I q (congrArg not C4))
  |str j=>obtain⟨t',rfl⟩:=ry;exact PySem.EqMixed.ne_bool_str (jM I q (by simp))
  |_=>exact absurd (show false=true from hs) Zy
 |int i =>
  obtain⟨t,rfl⟩:=rx;cases y with
  |bO=>cases ry;exact PySem.EqNone.ne_int_none (jM I q (by simp))
  |int j=>obtain⟨t',rfl⟩:=ry;exact ne_int (jM I q (congrArg not yK))
  |str j=>obtain⟨t',rfl⟩:=ry;exact PySem.EqMixed.ne_int_str (jM I q (by simp))
  |_=>exact absurd (show false=true from hs) Zy
 |str i =>
  obtain⟨t,rfl⟩:=rx;cases y with
  |bO=>cases ry;exact PySem.EqNone.ne_str_none (jM I q (by simp))
  |bl j=>cases ry;exact PySem.EqMixed.ne_str_bool (jM I q (by simp))
  |int j=>obtain⟨t',rfl⟩:=ry;exact PySem.EqMixed.ne_str_int (jM I q (by simp))
  |str j=>obtain⟨t',rfl⟩:=ry;exact ne_str (jM I q (congrArg not yJ))
  |_=>exact absurd (show false=true from hs) Zy
 |zg i =>
  obtain⟨t,rfl⟩:=rx;cases y with
  |zg j=>obtain⟨t',rfl⟩:=ry;exact PySem.W.ne_bytes (jM I q (congrArg not yM))
  |_=>exact absurd (show false=true from hs) Zy
 |_=>cases y<;>exact absurd (show false=true from hs) Zy
theorem kE:d8 X (compareOp .Lt) (xo λi j=>.bl (decide (i<j))):=Fz λ_ _ _ _ _ _ _ q=>lt_int q
theorem n9:d8 X (compareOp .LtE) (xo λi j=>.bl (decide (i<=j))):=Fz λ_ _ _ _ _ _ _ q=>le_int q
theorem iV:d8 X (compareOp .Gt) (xo λi j=>.bl (decide (j<i))):=Fz λ_ _ _ _ _ _ _ q=>gt_int q
theorem xG:d8 X (compareOp .GtE) (xo λi j=>.bl (decide (j<=i))):=Fz λ_ _ _ _ _ _ _ q=>ge_int q
theorem GP:d8 X (compareOp .IsNot) (λx y H Q=>y=.bO/\Q (.bl (!decide (x=.bO))) H):=by
 intro aa s σ H x y v u Q I rx ry h;obtain⟨rfl,q⟩:=h;cases ry;refine isnot_none_gen (jM I q ?_);cases x<;>first
  |(cases rx;rfl)
  |(obtain⟨t,rfl⟩:=rx;rfl)
theorem d8.or {f:Value->Value->Sem Value}{r r':R2}(h:d8 X f r)(h':d8 X f r'):d8 X f (λx y H Q=>r x y H Q\/r' x y H Q):=by
 intro aa s σ H x y v u Q I rx ry q;rcases q with q |q
 .exact h aa s σ H x y v u Q I rx ry q
 .exact h' aa s σ H x y v u Q I rx ry q
theorem au (b:Expr){op:CmpOp}(h:op≠.In:=by decide)(h2:op≠.NotIn:=by decide):behindInMarks op b=false:=by
 have e1:(op == CmpOp.In)=false:=by cases op<;>first |rfl |exact absurd rfl h
 have e2:(op == CmpOp.NotIn)=false:=by cases op<;>first |rfl |exact absurd rfl h2
 cases b<;>simp[behindInMarks,e1,e2]
theorem vE {op:CmpOp}{r:R2}(ho:d8 X (compareOp op) r)(ha:PE X a ta)(hb:PE X b tb)(hm:behindInMarks op b=false):PE X (.Compare a [op] [b] pos) (EV r ta tb):=by
 intro aa s σ H Q I h;exact wpAny_Compare1 (KP ha hb I h λv u s2 x y H2 I2 rx ry q=>ho aa s2 σ H2 x y v u Q I2 rx ry q) hm
def Bx (t:TE):TT:=λσ H Q=>t σ H λx H'=>∃k,x=.bl k/\Q k H'
theorem p6 {op:CmpOp}{r:R2}(ho:d8 X (compareOp op) r)(ha:PE X a ta)(hb:PE X b tb)(hm:behindInMarks op b=false):PT X (.Compare a [op] [b] pos) (Bx (EV r ta tb)):=by
 intro aa s σ H Q I h;refine wpAny_isTrue_Compare1 (bi (ha aa s σ H _ I h) λv s1 ⟨x,H1,I1,r1,q1⟩=>bi (hb aa s1 σ H1 _ I1 q1) λu s2 ⟨y,H2,I2,r2,q2⟩ =>
  bi (ho aa s2 σ H2 x y v u _ I2 r1 r2 q2) λc s3 ⟨z,H3,I3,r3,k,e,q3⟩=>?_) hm
 subst e;cases r3;exact wpAny_truthy_bool ⟨H3,I3,q3⟩
def Cf (r r':R2)(ta tb tc:TE):TE:=λσ H Q=>ta σ H λx H1=>tb σ H1 λy H2=>r x y H2 λz H3=>∃k,z=.bl k /\
 (if k=true then tc σ H3 λw' H4=>r' y w' H4 Q else Q (.bl false) H3)
theorem DF {op Ji:CmpOp}{r r':R2}(ho:d8 X (compareOp op) r)(vq:d8 X (compareOp Ji) r')(ha:PE X a ta)(hb:PE X b tb)(hc:PE X c tc)
  (hm:lastMarks [op,Ji] [b,c]=false:=by with_unfolding_all rfl):PE X (.Compare a [op,Ji] [b,c] pos) (Cf r r' ta tb tc):=by
 intro aa s σ H Q I h;refine Compare_chain (bi (ha aa s σ H _ I h) λv s1 ⟨x,H1,I1,r1,q1⟩=>chain_link (bi (hb aa s1 σ H1 _ I1 q1) λu s2 ⟨y,H2,I2,r2,q2⟩ =>
  bi (ho aa s2 σ H2 x y v u _ I2 r1 r2 q2) λd s3 ⟨z,H3,I3,r3,k,e,q3⟩=>?_)) hm
 subst e;cases r3;refine wpAny_truthy_bool ?_;cases k with
 |false=>exact ite_ff ⟨.bl false,H3,I3,rfl,q3⟩
 |true=>exact ite_tt (chain_last (bi (hc aa s3 σ H3 _ I3 q3) λw' s4 ⟨z',H4,I4,r4,q4⟩=>vq aa s4 σ H4 y z' u w' Q I4 r2 r4 q4))
theorem uy {op Ji:CmpOp}{r r':R2}(ho:d8 X (compareOp op) r)(vq:d8 X (compareOp Ji) r')(ha:PE X a ta)(hb:PE X b tb)(hc:PE X c tc)
  (hm:lastMarks [op,Ji] [b,c]=false:=by with_unfolding_all rfl):PT X (.Compare a [op,Ji] [b,c] pos) (Bx (Cf r r' ta tb tc)):=by
 intro aa s σ H Q I h;refine isTrue_chain (bi (ha aa s σ H _ I h) λv s1 ⟨x,H1,I1,r1,q1⟩=>test_link (bi (hb aa s1 σ H1 _ I1 q1) λu s2 ⟨y,H2,I2,r2,q2⟩ =>
  bi (ho aa s2 σ H2 x y v u _ I2 r1 r2 q2) λd s3 ⟨z,H3,I3,r3,k,e,q3⟩=>?_)) hm
 subst e;cases r3;refine wpAny_truthy_bool ?_;cases k with
 |false =>
  obtain⟨k',e',q'⟩:=q3;cases e';exact ite_ff ⟨H3,I3,q'⟩
 |true =>
  refine ite_tt (test_last (bi (hc aa s3 σ H3 _ I3 q3) λw' s4 ⟨z',H4,I4,r4,q4⟩=>bi (vq aa s4 σ H4 y z' u w' _ I4 r2 r4 q4) λd' s5 ⟨z2,H5,I5,r5,k2,e2,q5⟩=>?_));subst e2;cases r5;exact wpAny_truthy_bool ⟨H5,I5,q5⟩
def QJ (K:Θ1)(x:V)(H:Hp)(k:Bool):Prop :=
 match x with
 |.bO=>k=false
 |.bl b=>k=b
 |.int i=>k=(i != 0)
 |.str y=>y.length<=sizeLine/\k=((y.length:Int) != 0)
 |.zg y=>y.size<=sizeLine/\k=((y.size:Int) != 0)
 |.ref p=>(∃xs,bA K H p xs/\k=!xs.isEmpty)\/(∃xs,aG K H p xs/\k=!xs.isEmpty)\/∃kvs,H p=some (.dK kvs)/\k=!kvs.isEmpty
 |_=>False
theorem wW {κ : Type}{kvs:List (κ × V)}{vs:List (κ × Value)}(r:KV kvs vs):(!vs.isEmpty)=!kvs.isEmpty:=by
 cases r<;>rfl
theorem pi {xs:List V}{its:Δ3}(r:aP xs its):(!its.toArray.isEmpty)=!xs.isEmpty:=by
 cases r<;>simp
theorem oF:(sizeLine:Nat)<2 ^ 63:=by rw[sizeLine_eq];decide
theorem K4:XX X (λx H Q=>∃k,QJ X.K x H k/\Q k H):=by
 intro aa s σ H x v Q I rx h;obtain⟨k,e,q⟩:=h;have hl:=oF;have hs:sizeLine=16777216:=sizeLine_eq;cases x with
 |bO =>
  cases rx
  have e':k=false:=e;subst e';exact truthy_none ⟨H,I,q⟩
 |bl b =>
  cases rx
  have e':k=b:=e;subst e';exact wpAny_truthy_bool ⟨H,I,q⟩
 |int i =>
  obtain⟨t,rfl⟩:=rx;have e':k=(i != 0):=e;subst e';exact PySem.P.truthy_int ⟨H,I,q⟩
 |str y =>
  obtain⟨t,rfl⟩:=rx;obtain⟨hy,e'⟩:y.length<=sizeLine/\k=((y.length:Int) != 0):=e;subst e';exact PySem.P.truthy_str (by omega) ⟨H,I.tok _,q⟩
 |zg y =>
  obtain⟨t,rfl⟩:=rx;obtain⟨hy,e'⟩:y.size<=sizeLine/\k=((y.size:Int) != 0):=e;subst e';exact PySem.W.truthy_bytes (by omega) ⟨H,I.tok _,q⟩
 |ref p =>
  cases rx
  have e':(∃xs,bA X.K H p xs/\k=!xs.isEmpty)\/(∃xs,aG X.K H p xs/\k=!xs.isEmpty)\/∃kvs,H p=some (.dK kvs)/\k=!kvs.isEmpty:=e;rcases e' with ⟨xs,hx,e'⟩ |⟨xs,hx,e'⟩ |⟨kvs,hx,e'⟩
  .subst e';obtain⟨its,r,pl,hz⟩:=I.list hx;have bN:=r.length;exact wpAny_truthy_list pl.isList (by simp only[Zt];omega) ⟨H,I.tok _,by rw[pi r];exact q⟩
  .subst e';obtain⟨its,r,pl,hz⟩:=I.tuple hx;have bN:=r.length;exact truthy_tuple pl (by simp only[Zt];omega) ⟨H,I.tok _,by rw[pi r];exact q⟩
  .subst e';obtain⟨hz,hS,vs,r,m⟩:kvs.length<=sizeLine/\(p == sysModules)=false/\∃vs,KV kvs vs/\s.heap.DictOf (tu X.prog X.w) p vs:=I.bt p _ hx;have bN:kvs.length=vs.length:=Paired.length r;exact wpAny_truthy_dict hS m (by omega) ⟨H,I.tok _,by rw[wW r];exact q⟩
 |_=>exact(show False from e).elim
theorem oQ (ha:PE X a ta)(he:∀whole,isTrue a X.env whole=(do let v <- whole;standAt a.pos;holding [v] (truthy v))) :
  PT X a (λσ H Q=>ta σ H λx H'=>∃k,QJ X.K x H' k/\Q k H'):=by
 intro aa s σ H Q I h;exact isTrue_plain (bi (ha aa s σ H _ I h) λv s1 ⟨x,H1,I1,r1,q1⟩=>K4 aa s1 σ H1 x v Q I1 r1 q1) (he _)
theorem vals1 {x:V}{us:Δ3}(r:aP [x] us):∃u,us=[u]/\RelV x u:=by
 cases r with
 |cons r1 r2=>cases r2;exact⟨_,rfl,r1⟩
theorem vals2 {x y:V}{us:Δ3}(r:aP [x,y] us):∃u w',us=[u,w']/\RelV x u/\RelV y w':=by
 cases r with
 |cons r1 r2 =>
  cases r2 with
  |cons r3 r4=>cases r4;exact⟨_,_,rfl,r1,r3⟩
theorem k4:cc X (.builtin "abs") (λxs H Q=>∃i,xs=[.int i]/\Q (.int (if i<0 then -i else i)) H):=by
 intro aa s σ H xs us Q I r h;obtain⟨i,rfl,q⟩:=h;obtain⟨u,rfl,t,rfl⟩:=vals1 r;exact call_abs_int λu tk=>⟨.int (if i<0 then -i else i),H,I.tok _,⟨_,rfl⟩,q⟩
theorem qM (hc:X.calm=true):cc X (.builtin "max") (λxs H Q=>∃i j,xs=[.int i,.int j]/\Q (.int (if j>i then j else i)) H):=by
 intro aa s σ H xs us Q I r h;obtain⟨i,j,rfl,q⟩:=h;obtain⟨u,w',rfl,⟨t,rfl⟩,⟨t',rfl⟩⟩:=vals2 r;refine max_two_ints (I.ok.hd hc) λh' tk k=>⟨_,H,I.kept k,?_,q⟩
 by_cases hj:j>i
 .rw[if_pos hj,if_pos hj];exact⟨_,rfl⟩
 .rw[if_neg hj,if_neg hj];exact⟨_,rfl⟩
theorem AA (hc:X.calm=true):cc X (.builtin "min") (λxs H Q=>∃i j,xs=[.int i,.int j]/\Q (.int (if j<i then j else i)) H):=by
 intro aa s σ H xs us Q I r h;obtain⟨i,j,rfl,q⟩:=h;obtain⟨u,w',rfl,⟨t,rfl⟩,⟨t',rfl⟩⟩:=vals2 r;refine min_two_ints (I.ok.hd hc) λh' tk k=>⟨_,H,I.kept k,?_,q⟩
 by_cases hj:j<i
 .rw[if_pos hj,if_pos hj];exact⟨_,rfl⟩
 .rw[if_neg hj,if_neg hj];exact⟨_,rfl⟩
theorem jJ:cc X (.type "int") (λxs H Q=>(∃i,xs=[.int i]/\Q (.int i) H)\/∃k,xs=[.bl k]/\Q (.int (if k then 1 else 0)) H):=by
 intro aa s σ H xs us Q I r h;rcases h with ⟨i,rfl,q⟩ |⟨k,rfl,q⟩
 .obtain⟨u,rfl,t,rfl⟩:=vals1 r;exact call_int_int ⟨.int i,H,I,⟨_,rfl⟩,q⟩
 .obtain⟨u,rfl,r1⟩:=vals1 r;cases r1;exact call_int_bool ⟨.int (if k then 1 else 0),H,I.tok _,⟨_,rfl⟩,q⟩
end
structure KW (h:Heap)(x dx C:Addr)(mA:Θ3):Prop where
 obj:h.get? x=some (PySem.W.instObj C dx)
 ns:h.Ns1 dx mA
 ne:dx≠x
theorem Af {h:Heap}{dx:Addr}{mA:Θ3}(n:h.Ns1 dx mA):∃od,h.get? dx=some od/\∀name,PySem.W.lookIn name od=some (mA name):=by
 obtain⟨o,es,ep,ho,hd,hk,_,hm⟩:=n;refine⟨o,ho,λname=>?_⟩;have e:=hm name;unfold nsFind findBy at e;rw[<- Array.find?_toList] at e;unfold PySem.W.lookIn;rw[hd];dsimp only;split
 .rename_i y q;rw[q] at e;exact congrArg some e
 .rename_i q;rw[q] at e;have a:es.toList.any (·.refKey)=false:=by
   rw[Qh];intro y hy;obtain⟨z,t,KI⟩:=hk y (Array.mem_toList_iff.mp hy);simp[DictEntry.refKey,KI]
  have a':¬ es.toList.any (·.refKey)=true:=by rw[a];exact Zy
  rw[if_neg a'];exact congrArg some e
theorem KW.look {h:Heap}{x dx C:Addr}{mA:Θ3}(I:KW h x dx C mA):∃od,PySem.W.InstAt h x (PySem.W.instObj C dx) C (some od)/\∀name,PySem.W.lookIn name od=some (mA name) :=
 let ⟨od,ho,hl⟩:=Af I.ns
 ⟨od,⟨I.obj,rfl,rfl,ho⟩,hl⟩
section
variable {prog:Program}{w:World}{A:Around}{E:Θ2}{s:Shared}{K:Θ1}{x dx C f:Addr}{mA:Θ3}{name:Str}{v:Value}
end
theorem aI.some_of {v:V}{o:Φ1}(r:aI (some v) o):∃u,o=some u/\RelV v u:=by
 cases o with
 |none=>exact(show False from r).elim
 |some u=>exact⟨u,rfl,r⟩
section
variable {P:Program}{w:World}{H H':Hp}{h h':Heap}{a C dx:Addr}{fs fs':List (Str×V)}
theorem Hu (bt:jP P w H h)(e:H a=some (.ins C dx fs)):∃mA,KW h a dx C mA/\(∀f,aI (fs.lookup f) (mA f))/\PySem.Within mA (fs.map (·.1))/\fs.length<=1000/\H dx=some (.own a):=by
 obtain⟨d,z,ne,ob,mA,n,r,q⟩:=(show bY P w H h a (.ins C dx fs) from bt a _ e);exact⟨mA,⟨ob,n,ne⟩,r,q,z,d⟩
end
structure Wc (K:Θ1)(C:Addr):Prop where
 pg:PySem.W.plainGet K C Str.empty=true
 hd:PySem.W.hasDictIn K C=true
 po:PySem.W.plainOver K C=true
 sa:PySem.W.findIn K (.ref C) "__setattr__"=some (some (.builtin "object.__setattr__"))
theorem Wc.get {K:Θ1}{C:Addr}(c:Wc K C)(f:Str):PySem.W.plainGet K C f=true:=c.pg
section
variable {X:Cx}{aa:Γ2}{σ:St}{H:Hp}{s:Shared}{a C dx:Addr}{fs:List (Str×V)}{f:Str}{v:V}{A:Around}{E:Θ2}
end
section
variable {X:Cx}{o e value:Expr}{f:Str}{pos mB rf:Pos}{ta tv:TE}
end
section
variable {X:Cx}{aa:Γ2}{σ:St}{H:Hp}{s:Shared}{A:Around}{E:Θ2}{Q:Θ2}{c:Value}{b:Bool}
inductive iS (K:Θ1) (H:Hp):V->Value->Prop where
 |bO:iS K H .bO (.type "NoneType")
 |bl (x:Bool):iS K H (.bl x) (.type "bool")
 |int (i:Int):iS K H (.int i) (.type "int")
 |str (x:Str):iS K H (.str x) (.type "str")
 |NG (x:UInt64):iS K H (.NG x) (.type "float")
 |lst {a:Addr}{xs:List V}(e:H a=some (.lst xs)):iS K H (.ref a) (.type "list")
 |jO {a:Addr}{o:Obj}{xs:List V}(e:H a=some (.jO o (.lst xs))):iS K H (.ref a) (.type "list")
 |tup {a:Addr}{xs:List V}(e:H a=some (.tup xs)):iS K H (.ref a) (.type "tuple")
 |dK {a:Addr}{kvs:List (cU×V)}(e:H a=some (.dK kvs)):iS K H (.ref a) (.type "dict")
 |dT {a:Addr}{kvs:List (List cU×V)}(e:H a=some (.dT kvs)):iS K H (.ref a) (.type "dict")
 |ins {a C dx:Addr}{fs:List (Str×V)}(e:H a=some (.ins C dx fs)) (cl:Wc K C) (ha:PySem.W.findIn K (.ref C) "__class__"=some (some (.builtin "object.__class__")))
   (hn:PySem.W.specialIn K (.builtin "object.__class__") "__get__"=some (some (.builtin "getset_descriptor.__get__"))) (Y2:PySem.W.takesIn K (.builtin "object.__class__")=some true)
   (hm:PySem.W.mroIn K C (.type "object")=some true):iS K H (.ref a) (.ref C)
theorem Am {x:V}{u t:Value}(I:Inv X aa σ H s)(rx:RelV x u)(ty:iS X.K H x t)(e:PySem.W.kitOne X.K t c=some b)(h:∀tk,Q (.bool b) { s with toks:=tk }) :
  wpAny (model X.prog X.w) A (call (.builtin "isinstance") [u,c]) Q E s:=by
 cases ty with
 |bO=>cases (show u=Value.none from rx);exact PySem.W.kia_one PySem.W.kitx_none I.l9 True.intro e (λz=>nomatch z) h
 |bl y=>cases (show u=Value.bool y from rx);exact PySem.W.kia_one PySem.W.kitx_bool I.l9 True.intro e (λz=>nomatch z) h
 |int i=>obtain⟨t,q⟩:=(show ∃t,u=Value.int i t from rx);cases q;exact PySem.W.kia_one PySem.W.kitx_int I.l9 True.intro e (λz=>nomatch z) h
 |str y=>obtain⟨t,q⟩:=(show ∃t,u=Value.str y t from rx);cases q;exact PySem.W.kia_one PySem.W.kitx_str I.l9 True.intro e (λz=>nomatch z) h
 |NG y=>obtain⟨t,q⟩:=(show ∃t,u=Value.float y t from rx);cases q;exact PySem.W.kia_one PySem.W.kitx_float I.l9 True.intro e (λz=>nomatch z) h
 |@lst a xs ea =>
  cases (show u=Value.ref a from rx)
  obtain⟨_,_,n,_,h1⟩:=(show bY X.prog X.w H s.heap a (.lst xs) from I.bt a _ ea);exact PySem.W.kia_one PySem.W.kitx_list I.l9 ⟨_,h1,rfl⟩ e (λz=>nomatch z) h
 |@jO a ob xs ea =>
  cases (show u=Value.ref a from rx)
  obtain⟨_,_,_,n,_,h1⟩:=(show bY X.prog X.w H s.heap a (.jO ob (.lst xs)) from I.bt a _ ea);exact PySem.W.kia_one PySem.W.kitx_list I.l9 ⟨_,h1,rfl⟩ e (λz=>nomatch z) h
 |@tup a xs ea =>
  cases (show u=Value.ref a from rx)
  obtain⟨_,_,_,p⟩:=(show bY X.prog X.w H s.heap a (.tup xs) from I.bt a _ ea);obtain⟨o,h1,h2,_⟩:=p;exact PySem.W.kia_one PySem.W.kitx_tuple I.l9 ⟨o,h1,h2⟩ e (λz=>nomatch z) h
 |@dK a kvs ea =>
  cases (show u=Value.ref a from rx)
  obtain⟨_,_,vs,_,p⟩:=(show bY X.prog X.w H s.heap a (.dK kvs) from I.bt a _ ea);obtain⟨o,es,ep,h1,h2,_⟩:=p;exact PySem.W.kia_one PySem.W.kitx_dict I.l9 ⟨o,h1,h2.1⟩ e (λz=>nomatch z) h
 |@dT a kvs ea =>
  cases (show u=Value.ref a from rx)
  obtain⟨_,_,xs,_,o,es,ep,h1,h2,_⟩:=(show bY X.prog X.w H s.heap a (.dT kvs) from I.bt a _ ea);exact PySem.W.kia_one PySem.W.kitx_dict I.l9 ⟨o,h1,h2.1⟩ e (λz=>nomatch z) h
 |@ins a C dx fs ea cl ha hn Y2 hm =>
  cases (show u=Value.ref a from rx)
  obtain⟨mA,O,_⟩:=Hu I.bt ea;obtain⟨od,J,_⟩:=O.look;exact PySem.W.kia_one (PySem.W.kitx_own (cl.get _) cl.hd ha hn Y2 hm) I.l9 J e (λz=>nomatch z) h
end
structure cz (k:Nat)(A:Around):Prop where
 hd:A.handled=none
 dp:A.depth+3*k+5<recursionLimit
 un:A.units+16*k+200<cLine
theorem cz.mono {j k:Nat}{A:Around}(r:cz k A)(h:j<=k):cz j A:=⟨r.hd,by have:=r.dp;omega,by have:=r.un;omega⟩
theorem cz.deeper {k:Nat}{A:Around}(r:cz (k+1) A)(env:Env):cz k (A.deeper env) :=
 ⟨r.hd,by have:=r.dp;show A.depth+1+3*k+5<_;omega,by have:=r.un;show A.units+3+16*k+200<_;omega⟩
theorem cz.depth {k:Nat}{A:Around}(r:cz k A):A.depth<recursionLimit:=by have:=r.dp;omega
theorem cz.units {k:Nat}{A:Around}(r:cz k A):A.units+64<cLine:=by have:=r.un;omega
def JX:TA:=λ_ H Q=>Q [] H
def xx (ta:TE)(tr:TA):TA:=λσ H Q=>ta σ H λx H1=>tr σ H1 λxs H2=>Q (x::xs) H2
section
variable {X:Cx}{e:Expr}{es:Ξ2}{te:TE}{t:TA}{pos:Pos}
theorem bK:PA X [] JX:=λ_ _ _ _ H Q I h=>Calls.spliced_nil ⟨[],H,I,.nil,h⟩
theorem aQ (ha:PE X e te)(hr:PA X es t)(hs:starEach (e::es) X.env=(false,eval e X.env)::starEach es X.env:=by rfl):PA X (e::es) (xx te t):=by
 intro pos aa s σ H Q I h;rw[hs];show wpAny _ _ (spliced ((false,eval e X.env)::backTo pos (starEach es X.env))) _ _ s;refine Calls.spliced_cons (bi (ha aa s σ H _ I h) λu s1 ⟨x,H1,I1,r1,q1⟩=>?_);exact bi (hr pos aa s1 σ H1 _ I1 q1) λus s2 ⟨xs,H2,I2,r2,q2⟩=>⟨x::xs,H2,I2,.cons r1 r2,q2⟩
def O7 (t:TA):TE:=λσ H Q=>t σ H λxs H1=>xs.length<=sizeLine/\∀p,H1 p=none->Q (.ref p) (aK H1 p (.tup xs))
def Wn (t:TA):TE:=λσ H Q=>t σ H λxs H1=>xs.length<=sizeLine/\∀p,H1 p=none->Q (.ref p) (aK H1 p (.lst xs))
theorem gv {x1}(h:PA X es t):PE X (.Tuple es x1 pos) (O7 t):=by
 intro aa s σ H Q I hq;refine wpAny_Tuple_spliced (bi (h pos aa s σ H _ I hq) λus s1 ⟨xs,H1,I1,r,z,q⟩=>⟨by rw[<- r.length];exact z,?_⟩);have hf:H1 s1.heap.objs.size=none:=I1.bt.fresh (Ze _);refine⟨.ref s1.heap.objs.size,aK H1 s1.heap.objs.size (.tup xs),I1.laid (t':=s1.toks) (λb u e=>Heap.get?_push_of_some _ e) (Ze _) ?_,rfl,q _ hf⟩;exact⟨z,us,r,⟨_,Heap.get?_push_size _ rfl,rfl,_,rfl⟩⟩
theorem gx (h:PA X es t):PE X (.List es pos) (Wn t):=by
 intro aa s σ H Q I hq;refine wpAny_List_spliced (bi (h pos aa s σ H _ I hq) λus s1 ⟨xs,H1,I1,r,z,q⟩=>⟨by rw[<- r.length];exact z,?_⟩);have hf:H1 s1.heap.objs.size=none:=I1.bt.fresh (Ze _);refine⟨.ref s1.heap.objs.size,aK H1 s1.heap.objs.size (.lst xs),I1.laid (t':=s1.toks) (λb u e=>Heap.get?_push_of_some _ e) (Ze _) ?_,rfl,q _ hf⟩;exact⟨z,us,0,r,Heap.get?_push_size _ rfl⟩
end
abbrev Sp:=List V->Hp->VK->XK->Prop
abbrev xw:=List Env->Hp->Shared->XK->Value->Shared->Prop
structure vX (P:Program)(w:World)(K:Θ1)(mg:Θ3)(base:Heap)(A:Around)(outer:List Env)(s:Shared)(H:Hp):Prop where
 frames:A.frames=some outer
 mod:Mod K mg base
 bs:∀b o,base.get? b=some o->s.heap.get? b=some o/\H b=none
 AO:base.objs.size<=s.heap.objs.size
 iR:s.heap.FunFrames base outer
 EO:∀b∈iG outer,H b=none
 bt:jP P w H s.heap
 bare:AllBare s.gens
def CE (outer:List Env)(P:Program)(w:World)(H:Hp)(s:Shared)(Q:VK)(u:Value)(s':Shared):Prop :=
 ∃v H',s'.os=s.os/\AllBare s'.gens/\Un (iG outer) [] H H' s.heap s'.heap/\jP P w H' s'.heap/\RelV v u/\Q v H'
def CR (CX:xw)(outer:List Env)(P:Program)(w:World)(H:Hp)(s:Shared)(Q:VK)(E:XK)(r:Result)(s':Shared):Prop :=
 match r with
 |.ok (.ret u)=>CE outer P w H s Q u s'
 |.ok _=>False
 |.error e=>CX outer H s E e s'
structure aJ (P:Program)(w:World)(K:Θ1)(mg:Θ3)(base:Heap)(CX:xw)(k:Nat)(f:Addr)(fd:FuncData)(ps:Δ2)(sp:Sp):Prop where
 len:∀vs H Q E,sp vs H Q E->vs.length=ps.length
 run:∀(A:Around) (outer:List Env) (s:Shared) (H:Hp) (args:Args) (us:Δ3) (vs:List V) (Q:VK) (E:XK),cz k A->vX P w K mg base A outer s H->BindsTo s fd args (ps.zip us)->aP vs us->sp vs H Q E ->
  codeAny (model P w) A (.call (.ref f) args) (CR CX outer P w H s Q E) s
theorem aJ.imp {P:Program}{w:World}{K:Θ1}{mg:Θ3}{base:Heap}{CX:xw}{k:Nat}{f:Addr}{fd:FuncData}{ps:Δ2}{sp Nq:Sp}(F:aJ P w K mg base CX k f fd ps sp)
  (h:∀vs H Q E,Nq vs H Q E->sp vs H Q E):aJ P w K mg base CX k f fd ps Nq :=
 ⟨λvs H Q E q=>F.len vs H Q E (h _ _ _ _ q),λA outer s H args us vs Q E hr he hb hv hs=>F.run A outer s H args us vs Q E hr he hb hv (h _ _ _ _ hs)⟩
section
variable {X:Cx}{aa:Γ2}{σ:St}{H:Hp}{s s':Shared}
theorem Inv.FT (I:Inv X aa σ H s):vX X.prog X.w X.K X.mg X.base X.A X.stack s H :=
 ⟨I.ok.frames,I.ok.mod,I.bs,Ye I.ok.AO I.sz,I.stack,I.se,I.bt,I.bare⟩
theorem Inv.after {Q:VK}{u:Value}(I:Inv X aa σ H s)(h:CE X.stack X.prog X.w H s Q u s'):EP X aa σ Q u s':=by
 obtain⟨v,H',os,bare,un,bt,r,q⟩:=h;obtain⟨hh,g,d,t,os'⟩:=s';obtain rfl:os'=s.os:=os;exact⟨v,H',I.call (h':=hh) (g':=g) (d':=d) (t':=t) (ch:=[]) un bt bare (λb z=>absurd z (by simp)),r,q⟩
end
def QY (sp:Sp)(A7:List V)(E:XK)(t:TA):TE:=λσ H Q=>t σ H λvs H1=>sp (vs++A7) H1 Q E
def Binds (K:Θ1)(fd:FuncData)(ps:Δ2)(ds:Δ3):Prop :=
 ∀(s:Shared) (us:Δ3),K.In s.heap->(us++ds).length=ps.length->BindsTo s fd ⟨us,[]⟩ (ps.zip (us++ds))
theorem Binds.all {K:Θ1}{fd:FuncData}{ps:Δ2}(h:∀us:Δ3,us.length=ps.length->bindArgs fd ⟨us,[]⟩=pure (ps.zip us)):Binds K fd ps []:=λs us _ hl=>by
 rw[Yg] at hl ⊢;exact .of_eq (h us hl)
def lV (CX:xw)(X:Cx)(E:XK):Prop:=∀(aa:Γ2) (σ:St) (H:Hp) (s:Shared) (e:Value) (s':Shared),Inv X aa σ H s->CX X.stack H s E e s'->X.xe e s'
section
variable {X:Cx}{CX:xw}{k:Nat}{f C:Addr}{fd:FuncData}{ps:Δ2}{sp:Sp}{A7:List V}{ds:Δ3}{E:XK}{x m:Str}{p pos fk:Pos}{e o:Expr}{es:Ξ2}{ta:TE}{t:TA}
theorem Lm {aa:Γ2}{σ:St}{H:Hp}{s:Shared}{Q:VK}{us:Δ3}{vs:List V}(F:aJ X.prog X.w X.K X.mg X.base CX k f fd ps sp)(hr:cz k X.A)(hb:Binds X.K fd ps ds)(hd:aP A7 ds)(hx:lV CX X E)
  (I:Inv X aa σ H s) (r:aP vs us) (h:sp (vs++A7) H Q E):wpAny (model X.prog X.w) X.A (call (.ref f) us) (EP X aa σ Q) X.xe s:=by
 have r2:aP (vs++A7) (us++ds):=r.append hd;have hl:(us++ds).length=ps.length:=by rw[<- r2.length];exact F.len _ _ _ _ h
 refine wpAny_call (codeAny_mono (F.run X.A X.stack s H ⟨us,[]⟩ (us++ds) (vs++A7) Q E hr I.FT (hb s us I.l9 hl) r2 h) λr s' hq=>?_);cases r with
 |error e=>exact hx aa σ H s e s' I hq
 |ok fl =>
  cases fl with
  |ret u=>exact I.after hq
  |next=>exact False.elim hq
  |brk=>exact False.elim hq
  |cont=>exact False.elim hq
theorem jV (F:aJ X.prog X.w X.K X.mg X.base CX k f fd ps sp)(hr:cz k X.A)(hg:Gl X x)(hm:X.mg x=some (.ref f))(hk:PySem.W.keepIn X.K (.ref f)=true)(hb:Binds X.K fd ps ds)(hd:aP A7 ds)(hx:lV CX X E)
  (ha:PA X (e::es) t) (ma:(x == ("__debug__" : Str))=false:=by decide) (he:starEach (e::es) X.env=(false,eval e X.env)::starEach es X.env:=by rfl) (et:(backTo pos (starEach es X.env)).any (·.1)=false:=by rfl) :
  PE X (.Call (.Name x p) (e::es) [] pos) (QY sp A7 E t):=by
 intro aa s σ H Q I h;refine wpAny_Call_Name_kw (eV I hg hm ?_ ma);refine PySem.W.callWith_K (h₀:=X.base) I.ok.mod.HH hk (bi (ha pos aa s σ H _ I h) λus s1 ⟨vs,H1,I1,r,q⟩=>⟨I1.l9,?_⟩) he et;exact Lm F hr hb hd hx I1 r q
end
section
variable {X:Cx}{CX:xw}{k:Nat}{f C:Addr}{fd:FuncData}{ps ks:Δ2}{sp:Sp}{E:XK}{x m:Str}{p pos fk tU:Pos}{e o:Expr}{es:Ξ2}{kws:List Keyword}{te ta:TE}{t tk:TA}{nm:Option Str}
variable {g:Δ3->Δ3->Δ3}{gV:List V->List V->List V}
end
structure ao (N P:Δ2)(sc:Scope):Prop where
 kind:sc.kind=.function
 co:sc.isCoroutine=false
 gen:sc.isGenerator=false
 nd:N.Nodup
 pre:N.take P.length=P
 par:∀x∈P,sc.names.lookup x=some .local\/sc.names.lookup x=some .cell
 Mt:∀y∈sc.names,y.2≠.free
theorem c6 {N P:Δ2}{sc:Scope}(a:sc.kind=.function:=by rfl)(b:sc.isCoroutine=false:=by rfl)(c:sc.isGenerator=false:=by rfl)(d:N.Nodup:=by decide+kernel)(e:N.take P.length=P:=by rfl)(f:∀x∈P,sc.names.lookup x=some .local\/sc.names.lookup x=some .cell:=by decide+kernel)(g:∀y∈sc.names,y.2≠.free:=by decide+kernel):ao N P sc:=⟨a,b,c,d,e,f,g⟩
theorem qN {kindOf:Str->Option NameKind}{x:Str}:∀{binds:List (Str×Value)}{m:Θ3},(∀v,(x,v)∉binds)->bindL kindOf binds m x=m x
 |[],_,_=>rfl
 |(n,v)::r,m,h=>by
  unfold bindL;rw[qN λw hw=>h w (Zk _ hw)];split
  .have:x≠n:=by rintro rfl;exact h v Zo
   simp[this]
  .rfl
theorem qQ {kindOf:Str->Option NameKind}{x:Str}:∀{binds:List (Str×Value)}{m:Θ3},(∀v,(x,v)∉binds)->bindC kindOf binds m x=m x
 |[],_,_=>rfl
 |(n,v)::r,m,h=>by
  unfold bindC;rw[qQ λw hw=>h w (Zk _ hw)];split
  .rfl
  .have:x≠n:=by rintro rfl;exact h v Zo
   simp[this]
theorem qP {kindOf:Str->Option NameKind}{x:Str}{v:Value}:∀{P:Δ2}{vs:Δ3}{i:Nat}{m:Θ3},P.Nodup->P[i]?=some x->vs[i]?=some v->kindOf x=some .local ->
  bindL kindOf (P.zip vs) m x=some v
 |[],_,_,_,_,h,_,_=>by simp at h
 |_::_,[],_,_,_,_,h,_=>by simp at h
 |p::P,w::vs,0,m,nd,h1,h2,hk=>by
  simp at h1 h2;subst h1;subst h2;show bindL kindOf ((p,w)::P.zip vs) m p=_;unfold bindL;rw[qN λv hv=>(Yh.mp nd).1 (List.of_mem_zip hv).1,if_pos hk];simp
 |p::P,w::vs,i+1,m,nd,h1,h2,hk=>by
  show bindL kindOf ((p,w)::P.zip vs) m x=_;unfold bindL;exact qP (i:=i) (Yh.mp nd).2 (by simpa using h1) (by simpa using h2) hk
theorem qR {kindOf:Str->Option NameKind}{x:Str}{v:Value}:∀{P:Δ2}{vs:Δ3}{i:Nat}{m:Θ3},P.Nodup->P[i]?=some x->vs[i]?=some v->kindOf x≠some .local ->
  bindC kindOf (P.zip vs) m x=some v
 |[],_,_,_,_,h,_,_=>by simp at h
 |_::_,[],_,_,_,_,h,_=>by simp at h
 |p::P,w::vs,0,m,nd,h1,h2,hk=>by
  simp at h1 h2;subst h1;subst h2;show bindC kindOf ((p,w)::P.zip vs) m p=_;unfold bindC;rw[qQ λv hv=>(Yh.mp nd).1 (List.of_mem_zip hv).1,if_neg hk];simp
 |p::P,w::vs,i+1,m,nd,h1,h2,hk=>by
  show bindC kindOf ((p,w)::P.zip vs) m x=_;unfold bindC;exact qR (i:=i) (Yh.mp nd).2 (by simpa using h1) (by simpa using h2) hk
def start (N:Δ2)(vs:List V):St:=vs.map some++List.replicate (N.length-vs.length) none
def gI (CX:xw)(P:Program)(w:World)(K:Θ1)(mg:Θ3)(base:Heap)(N:Δ2)(qual:Str)(scope:Scope)(f:Addr)(cd:Value)(A:Around)(outer:List Env)(s:Shared)(H:Hp)(E:XK):Cx where
 prog:=P
 w:=w
 K:=K
 mg:=mg
 base:=base
 A:=A.deeper (envOfC qual scope s.heap.objs.size f cd)
 N:=N
 aT:=s
 aD:=H
 env:=envOfC qual scope s.heap.objs.size f cd
 outer:=outer
 stack:=envOfC qual scope s.heap.objs.size f cd::outer
 ex:=[]
 calm:=true
 fn:=λ_=>true
 pn:=[]
 xe:=λe s'=>wpAny (model P w) (A.deeper (envOfC qual scope s.heap.objs.size f cd)) (leaving (envOfC qual scope s.heap.objs.size f cd) e) (λ_ NU=>CX outer H s E e NU) (λe' NU=>CX outer H s E e' NU) s'
theorem uU {sc:Scope}{n:Nat}{x:Str}(h:sc.names.lookup x=some .cell):∃c,(cellsFrom n sc.names []).lookup x=some c:=by
 have q:=PySem.W.cellsFrom_some sc.names n [] (.inl h);exact Xv.mp q
theorem qE {CX:xw}{P:Program}{w:World}{K:Θ1}{mg:Θ3}{base:Heap}{N ps:Δ2}{qual:Str}{scope:Scope}{f:Addr}{cd:Value}{A:Around}{outer:List Env}{s s1:Shared}{H:Hp}{E:XK}{us:Δ3}{vs:List V}
  (S:ao N ps scope) (hd:A.handled=none) (e0:vX P w K mg base A outer s H) (hl:vs.length=ps.length) (r:aP vs us)
  (x:InCallC s s.heap.objs.size (bindL (envOfC qual scope s.heap.objs.size f cd).kindOf (ps.zip us) λ_=>none) (cellsFrom (s.heap.objs.size+1) scope.names []) (bindC (envOfC qual scope s.heap.objs.size f cd).kindOf (ps.zip us) λ_=>none) s1) :
  Inv (gI CX P w K mg base N qual scope f cd A outer s H E) [] (start N vs) H s1:=by
 have et:ps.length<=N.length:=by have:=congrArg List.length S.pre;rw[Yk] at this;omega
 obtain⟨h1,tk,rfl,hk⟩:=x.done;have N5:∀b:Addr,b∉(gI CX P w K mg base N qual scope f cd A outer s H E).ex:=λb z=>absurd (show b∈([]:List Addr) from z) (by simp)
 refine⟨⟨e0.mod,S.kind,rfl,rfl,Ze _,λy z c h1 h2=>?_,λy hy=>?_,λy c _ h=>?_,λ_=>hd,Around.frames_deeper e0.frames,.inr ⟨rfl,rfl⟩,λb z=>absurd z (N5 b),e0.bs,e0.AO,λb _ _=>N5 b,λb z=>absurd z (N5 b),e0.iR,e0.EO⟩,
  rfl,e0.bare,Un.kept hk,⟨_,x.toInCall.ns,λi y v h1 h2 h3=>?_⟩,λy c h=>⟨_,x.cell y c h⟩,e0.bt.fresh (Ze _),λy c h=>?_,λp hp=>absurd (show p∈([]:Γ2) from hp) (by simp),e0.bt.kept hk,?_⟩
 .exact name_of_addr x.apart (PySem.mem_of_lookup h1) (PySem.mem_of_lookup h2)
 .have hy:scope.names.lookup y=some .cell\/scope.names.lookup y=some .free:=hy;rcases hy with hy |hy
  .exact uU hy
  .exact absurd rfl (S.Mt _ (PySem.mem_of_lookup hy))
 .exact Nat.le_of_lt (x.above y c (PySem.mem_of_lookup h))
 .have hi:i<vs.length:=by
   unfold start at h2;by_cases hi:i<vs.length
   .exact hi
   .rw[Yt (by simpa using hi)] at h2;rw[Qi] at h2;split at h2<;>cases h2
  have ha:vs[i]?=some v:=by
   unfold start at h2;rw[Zr (by simpa using hi),Zg] at h2;cases e:vs[i]? with
   |none=>rw[e] at h2;cases h2
   |some a=>rw[e] at h2;cases h2;rfl
  obtain⟨u,hu,rv⟩:=r.get ha;have hp:ps[i]?=some y:=by
   rw[<- S.pre,List.getElem?_take_of_lt (by omega)];exact h1
  have YJ:ps.Nodup:=by rw[<- S.pre];exact S.nd.sublist (List.take_sublist _ _)
  refine⟨u,rv,?_⟩;rcases S.par y (Yc hp) with k |k
  .exact .inl ⟨k,qP YJ hp hu k⟩
  .obtain⟨c,e⟩:=uU (n:=s.heap.objs.size+1) k;refine .inr ⟨.inl k,c,e,?_⟩;have q:=x.cell y c e;rw[qR YJ hp hu (by show scope.names.lookup y≠_;rw[k];decide)] at q;exact q
 .exact e0.bt.fresh (Nat.le_of_lt (x.above y c (PySem.mem_of_lookup h)))
 .unfold start;show _=N.length;rw[Zn,Zb,Qo];omega
theorem IY {CX:xw}{P:Program}{w:World}{K:Θ1}{mg:Θ3}{base:Heap}{k:Nat}{f:Addr}{name qual:Str}{params:Arguments}{body:List Stmt}{scope:Scope}{dV kV gF pm bf ct oc:Value}{an od:Option Addr}
  {Ew:Array (Φ1)}{N ps:Δ2}{sp:Sp}(lk:K.lookup f=some ⟨oc,od,.func (PySem.W.fnOf name qual params body scope dV kV gF pm an bf ct),Ew⟩) (tN:PySem.W.codeIn K bf qual=true) (S:ao N ps scope)
  (len:∀vs H Q E,sp vs H Q E->vs.length=ps.length)
  (on:∀(A:Around) (outer:List Env) (s:Shared) (H:Hp) (vs:List V) (Q:VK) (E:XK),cz k (A.deeper (envOfC qual scope s.heap.objs.size f bf))->sp vs H Q E ->
   ∃t,iH (gI CX P w K mg base N qual scope f bf A outer s H E) body t/\t { nx:=λ_ H'=>Q .bO H',rt:=Q } (start N vs) H) :
  aJ P w K mg base CX (k+1) f (PySem.W.fnOf name qual params body scope dV kV gF pm an bf ct) ps sp:=by
 refine⟨len,λA outer s H args us vs Q E hr e0 hb r vG=>?_⟩;have hl:=len _ _ _ _ vG;have KX:K.In s.heap:=e0.mod.HH.keeps λb o e=>(e0.bs b o e).1
 have TC:s.heap.NoLimit:=e0.mod.nolimit.keeps λb o e=>(e0.bs b o e).1
 have B7:∀y∈ps.zip us,scope.names.lookup y.1=some .local\/(scope.names.lookup y.1=some .cell/\((cellsFrom (s.heap.objs.size+1) scope.names []).lookup y.1).isSome=true):=λ⟨n,v⟩ hy=>by
  rcases S.par n (List.of_mem_zip hy).1 with q |q
  .exact .inl q
  .exact .inr ⟨q,PySem.W.cellsFrom_some _ _ _ (.inl q)⟩
 refine codeAny_call_function hr.depth (KX _ _ lk) rfl S.co S.gen rfl (PySem.W.codeRec_of KX tN) (hb _ _ _ _ ?_);refine wpAny_newFunctionEnv_cells S.kind B7 λenv he s1 x=>?_
 subst he;refine⟨TC.keeps x.toInCall.keep,codeAny_func ?_⟩;obtain⟨t,ht,hq⟩:=on A outer s H vs Q E (hr.deeper _) vG;have I:Inv (gI CX P w K mg base N qual scope f bf A outer s H E) [] (start N vs) H s1:=qE S hr.hd e0 hl r x;refine wpAny_mono (ht [] s1 (start N vs) H _ I hq) (λfl s' hs=>?_) λe s' hs=>hs
 have kq:∀{aC:St}{H':Hp}{v:V}{u:Value},Inv (gI CX P w K mg base N qual scope f bf A outer s H E) [] aC H' s'->RelV v u->Q v H'->CE outer P w H s Q u s' :=
  λ{aC H' v u} J rv q=>⟨v,H',J.os,J.bare,J.base,J.bt,rv,q⟩
 cases fl with
 |ret u =>
  obtain⟨v,aC,H',J,rv,q⟩:=hs;exact kq J rv q
 |next =>
  obtain⟨aC,H',J,q⟩:=hs;exact kq (v:=V.bO) (u:=Value.none) J rfl q
 |brk =>
  obtain⟨_,_,_,q⟩:=hs;exact False.elim q
 |cont =>
  obtain⟨_,_,_,q⟩:=hs;exact False.elim q
section
variable {X:Cx}{x:Str}{p pos:Pos}{e:Expr}{es:Ξ2}{t:TA}{id T:String}{r:List V->Hp->VK->Prop}
def X7 (r:List V->Hp->VK->Prop)(t:TA):TE:=λσ H Q=>t σ H λvs H1=>r vs H1 Q
theorem jK (hc:cc X (.builtin id) r)(hg:Gl X x)(hm:X.mg x=none)(hv:bootBuiltins x=some (.builtin id))(ha:PA X (e::es) t)(hn:x ≠ "__name__":=by decide)(ma:(x == ("__debug__" : Str))=false:=by decide)
  (he:starEach (e::es) X.env=(false,eval e X.env)::starEach es X.env:=by rfl) (et:(backTo pos (starEach es X.env)).any (·.1)=false:=by rfl):PE X (.Call (.Name x p) (e::es) [] pos) (X7 r t):=by
 intro aa s σ H Q I h;refine wpAny_Call_Name_kw (fQ I hg hm hv ?_ hn ma);exact PyProof.Rows.callWith_builtin1 (bi (ha pos aa s σ H _ I h) λus s1 ⟨vs,H1,I1,r1,q1⟩=>hc aa s1 σ H1 vs us Q I1 r1 q1) he et
theorem Nv (hc:cc X (.type T) r)(hg:Gl X x)(hm:X.mg x=none)(hv:bootBuiltins x=some (.type T))(ha:PA X (e::es) t)(hn:x ≠ "__name__":=by decide)(ma:(x == ("__debug__" : Str))=false:=by decide)
  (he:starEach (e::es) X.env=(false,eval e X.env)::starEach es X.env:=by rfl) (et:(backTo pos (starEach es X.env)).any (·.1)=false:=by rfl):PE X (.Call (.Name x p) (e::es) [] pos) (X7 r t):=by
 intro aa s σ H Q I h;refine wpAny_Call_Name_kw (fQ I hg hm hv ?_ hn ma);exact PyProof.Rows.callWith_type1 (bi (ha pos aa s σ H _ I h) λus s1 ⟨vs,H1,I1,r1,q1⟩=>hc aa s1 σ H1 vs us Q I1 r1 q1) he et
end
end L2
namespace HT
open PySem PyProof.Rows
section
open PySem.SeqAt
open PySem.AutoSeq1 (wpAny_loadPart')
open PySem.MeetsSeq PySem.MeetsSeq2 PySem.MeetsSeq3
end
section
variable {prog:Program}{w:World}{A:Around}{E:Θ2}{s:Shared}
theorem HA {t b:Addr}{vs ws:Δ3}{Q:Θ2}(ht:IsTup s.heap t vs.toArray)(hb:IsTup s.heap b ws.toArray)(hv:vs≠[])
  (h1:ws=[]->Q (.ref t) s) (h2:ws≠[]->Q (.ref s.heap.objs.size) { s with heap:=s.heap.push { cls:=.type "tuple",data:=.seq (vs++ws).toArray } })
  (hsz:vs.length+ws.length<=sizeLine):wpAny (model prog w) A (binaryOp .Add (.ref t) (.ref b)) Q E s:=by
 obtain⟨⟨cls,dd,data,sl⟩,ho,hc,n,hd⟩:=id ht;obtain⟨⟨XQ,Sv,data2,cv⟩,Jr,JA,n2,OF⟩:=id hb;simp only at hc hd JA OF;subst hc hd JA OF;have e:vs.toArray++ws.toArray=(vs++ws).toArray:=by simp
 by_cases hw:ws=[]
 .exact concat_meets ⟨_,ho,rfl⟩ ⟨_,Jr,rfl⟩ noFill_tuple_add seq_tuple_add PySem.F.slot_tuple_add PySem.F.entry_tuple_add (PySem.F.args_tuple_add_2 _ _)
   (tuple_addW1 t b vs.toArray ws.toArray n n2 dd Sv sl cv (by simpa using hv) (by simp[hw])) ⟨ho,Jr,h1 hw⟩
 .refine concat_meets ⟨_,ho,rfl⟩ ⟨_,Jr,rfl⟩ noFill_tuple_add seq_tuple_add PySem.F.slot_tuple_add PySem.F.entry_tuple_add (PySem.F.args_tuple_add_2 _ _)
   (tuple_addW2 t b vs.toArray ws.toArray n n2 dd Sv sl cv (by simpa using hv) (by simpa using hw) (by rw[Zt,Zt];exact hsz)) ⟨ho,Jr,?_⟩
  rw[e];exact h2 hw
def cJ (n d:Nat):Option Int->Nat
 |none=>d
 |some v=>if v<0 then (v+(n:Int)).toNat else min v.toNat n
theorem oP (n d:Nat):cJ n d none=d:=rfl
theorem Ll (n d:Nat)(hd:d<=n)(o:Option Int):cJ n d o<=n:=by
 cases o with
 |none=>exact hd
 |some v =>
  show(if v<0 then (v+(n:Int)).toNat else min v.toNat n)<=n;by_cases hv:v<0
  .rw[if_pos hv];omega
  .rw[if_neg hv];exact Nat.min_le_right _ _
theorem yO (v:Int)(n d:Nat):(if v<0 then max (v+(n:Int)) 0 else min v (n:Int))=((cJ n d (some v):Nat):Int):=by
 show(if v<0 then max (v+(n:Int)) 0 else min v (n:Int))=(((if v<0 then (v+(n:Int)).toNat else min v.toNat n):Nat):Int);by_cases hv:v<0
 .simp only[if_pos hv];omega
 .simp only[if_neg hv];omega
theorem xk (lo hi:Option Int)(n:Nat):Builtin.Slice.sliceAdjust lo hi 1 (n:Int)=(((cJ n 0 lo:Nat):Int),((cJ n n hi:Nat):Int)):=by
 have h1:¬ ((1:Int)<0):=by omega
 unfold Builtin.Slice.sliceAdjust;simp only[h1,if_false];refine Prod.ext ?_ ?_
 .cases lo with
  |none=>rfl
  |some v=>exact yO v n 0
 .cases hi with
  |none=>rfl
  |some v=>exact yO v n n
theorem wJ (i j:Nat):Builtin.Slice.slicePlaces (i:Int) (j:Int) 1=j-i:=by
 unfold Builtin.Slice.slicePlaces;have h1:(1:Int)>0:=by omega
 simp only[h1,if_true,Int.ediv_one];split<;>omega
theorem o7 {v:Value}{o:Option Int}{Q:Option Int->Shared->Prop}(p:IsPart v o)(h:Q o s):wpAny (model prog w) A (Builtin.Slice.slicePartIndex v) Q E s:=by
 cases p with
 |none=>exact slicePart_none h
 |int i t=>exact slicePart_int h
theorem h9 {sl:Addr}{vl vu:Value}{lo hi:Option Int}{n:Nat}{Q:Int×Int×Nat->Shared->Prop}(hs:s.heap.IsSliceOf sl vl vu .none)(pl:IsPart vl lo)(pu:IsPart vu hi)
  (h:Q (((cJ n 0 lo:Nat):Int),1,cJ n n hi-cJ n 0 lo) s):wpAny (model prog w) A (Builtin.Slice.sliceApplied (.ref sl) (pure (n:Int))) Q E s:=by
 obtain⟨os,Jq,Sc,Jx⟩:=id hs;unfold Builtin.Slice.sliceApplied Builtin.Slice.sliceFields;refine Za (Za (wpAny_field Jq Jx (x:=vl) rfl (Za (wpAny_field Jq Jx (x:=vu) rfl (Za (wpAny_field Jq Jx (x:=.none) rfl (wpAny_pure ?_)))))));refine Za (slicePart_none ?_);show wpAny _ _ (if ((1:Int) == 0)=true then _ else _) _ _ s;rw[if_neg (by decide)];refine Za (o7 pl (Za (o7 pu (Za (wpAny_pure ?_)))));show wpAny _ _ (match Builtin.Slice.sliceAdjust lo hi 1 (n:Int) with |(lo,hi)=>pure (lo,(1:Int),Builtin.Slice.slicePlaces lo hi 1)) _ _ s;rw[xk lo hi n];show wpAny _ _ (pure (((cJ n 0 lo:Nat):Int),(1:Int),Builtin.Slice.slicePlaces ((cJ n 0 lo:Nat):Int) ((cJ n n hi:Nat):Int) 1)) _ _ s;rw[wJ];exact wpAny_pure h
theorem Dx (xs:Array Value)(i k:Nat):((List.range k).filterMap λ(m:Nat)=>xs[((i:Int)+(m:Int)*1).toNat]?).toArray=((xs.toList.drop i).take k).toArray:=by
 have e:(λ(m:Nat)=>xs[((i:Int)+(m:Int)*1).toNat]?)=λm=>xs[i+m]?:=by
  funext m
  have:((i:Int)+(m:Int)*1).toNat=i+m:=by omega
  rw[this]
 rw[e];have:=pick_run xs i k;rw[List.filterMap_map] at this;have e2:((λx=>xs[x]?) ∘ λx=>i+x)=λm=>xs[i+m]?:=rfl
 rw[e2] at this;rw[this]
theorem lh {t sl:Addr}{items:Array Value}{vl vu:Value}{lo hi:Option Int}{Q:Θ2}(ht:IsTup s.heap t items)(hs:s.heap.IsSliceOf sl vl vu .none)(pl:IsPart vl lo)(pu:IsPart vu hi)
  (hw:¬ (cJ items.size 0 lo=0/\cJ items.size items.size hi=items.size))
  (h:Q (.ref s.heap.objs.size) { s with heap:=s.heap.push { cls:=.type "tuple",data:=.seq ((items.toList.drop (cJ items.size 0 lo)).take (cJ items.size items.size hi-cJ items.size 0 lo)).toArray } })
  (hsz:items.size<=sizeLine):wpAny (model prog w) A (getItem (.ref t) (.ref sl)) Q E s:=by
 have xM:sizeOk (.seq ((items.toList.drop (cJ items.size 0 lo)).take (cJ items.size items.size hi-cJ items.size 0 lo)).toArray):=by
  show((items.toList.drop (cJ items.size 0 lo)).take (cJ items.size items.size hi-cJ items.size 0 lo)).toArray.size<=sizeLine;rw[Zt,Yk,Yx,Array.length_toList];omega
 have hj:cJ items.size items.size hi<=items.size:=Ll _ _ (Ze _) hi;obtain⟨os,Jq,Sc,Jx⟩:=id hs;have UB:s.TypeIs (.ref sl) "slice":=⟨os,Jq,Sc⟩;unfold getItem
 try with_reducible refine wpAny_holding ?_
 first |refine Za (wpAny_pure ?_) |skip
 refine Za (wpAny_sequenceKey ht.typeIs (by decide) ?_);refine Za (wpAny_callSpecial?_slot (name:=Str.ofString "__getitem__") ht.typeIs PyProof.Rows.slot_tuple_getitem
  (wpAny_call_entry PyProof.Rows.slot_tuple_getitem ht.typeIs entry_tuple_getitem ?_ (args_tuple_getitem _ _)))
 show wpAny _ _ (Builtin.Tuple.tupleItemsOf (.ref t) >>= _) _ _ s;refine Za (tupleItemsOf_ ht ?_);refine Za (wpAny_typeOf UB ?_);rw[if_pos (by decide)];refine Za (h9 hs pl pu ?_);have E9:¬ ((((cJ items.size 0 lo:Nat):Int) == 0&&(1:Int) == 1&&(cJ items.size items.size hi-cJ items.size 0 lo) == items.size)=true):=by
  intro q;rw[Zl,Zl] at q;have q1:((cJ items.size 0 lo:Nat):Int)=0:=eq_of_beq q.1.1;have q2:cJ items.size items.size hi-cJ items.size 0 lo=items.size:=eq_of_beq q.2;exact hw ⟨by omega,by omega⟩
 show wpAny _ _ (if (((cJ items.size 0 lo:Nat):Int) == 0&&(1:Int) == 1&&(cJ items.size items.size hi-cJ items.size 0 lo) == items.size)=true then _ else _) _ _ s;rw[if_neg E9,Dx]
 first
  |exact Za (m:=Builtin.Tuple.tupleExact _) (wpAny_newObj_type (wpAny_pure ⟨_,rfl,wpAny_pure h⟩) xM)
  |exact Za (m:=Builtin.Tuple.tupleExact _) (wpAny_newObj_type (Za (wpAny_pure (wpAny_pure ⟨_,rfl,wpAny_pure h⟩))) xM)
  |exact Za (Za (m:=Builtin.Tuple.tupleExact _) (wpAny_newObj_type (wpAny_pure (wpAny_pure ⟨_,rfl,wpAny_pure h⟩)) xM))
  |exact Za (Za (m:=Builtin.Tuple.tupleExact _) (wpAny_newObj_type (wpAny_pure ⟨_,rfl,wpAny_pure h⟩) xM))
end
end HT
namespace L2
open PySem PySem.Spec PyProof.Rows
abbrev TO:=St->Hp->(Option Int->Hp->Prop)->Prop
def PO (X:Cx)(e:Option Expr)(t:TO):Prop :=
 ∀(aa:Γ2) (s:Shared) (σ:St) (H:Hp) (Q:Option Int->Hp->Prop),Inv X aa σ H s->t σ H Q ->
  wpAny (model X.prog X.w) X.A (evalPart e X.env) (λu s'=>∃o H',Inv X aa σ H' s'/\IsPart u o/\Q o H') X.xe s
def Gd:TO:=λ_ H Q=>Q none H
def QR (t:TE):TO:=λσ H Q=>t σ H λx H1=>∃i,x=.int i/\Q (some i) H1
theorem intsAre_of {ns:Γ3}:∀{us:Δ3},aP (ns.map V.int) us->IntsAre us ns:=by
 induction ns with
 |nil=>intro us r;rw[List.map_nil] at r;cases r;exact .nil
 |cons n ns ih =>
  intro us r;rw[Yj] at r;cases r with
  |cons r1 r2 =>
   obtain⟨t,e⟩:=r1;subst e;exact .cons n t (ih r2)
section
variable {X:Cx}{e:Expr}{te:TE}{lo hi:Option Expr}{tl th:TO}{pos p2:Pos}
theorem GH:PO X none Gd:=by
 intro aa s σ H Q I h;rw[evalPart_none];exact wpAny_pure ⟨none,H,I,.none,h⟩
theorem GG (h:PE X e te):PO X (some e) (QR te):=by
 intro aa s σ H Q I hw;rw[evalPart_some];refine bi (h aa s σ H _ I hw) λu s1 ⟨x,H1,I1,r1,q1⟩=>?_
 obtain⟨i,rfl,q⟩:=q1;obtain⟨t,rfl⟩:=r1;exact⟨some i,H1,I1,.int i t,q⟩
def Fe (X:Cx)(r:V->Option Int->Option Int->Hp->VK->Prop):Prop :=
 ∀(aa:Γ2) (s:Shared) (σ:St) (H:Hp) (x:V) (v vl vu:Value) (lo hi:Option Int) (sl:Addr) (Q:VK),Inv X aa σ H s->RelV x v->s.heap.IsSliceOf sl vl vu .none->IsPart vl lo->IsPart vu hi->r x lo hi H Q ->
  ∃T id,typeLookup (.type T) "__getitem__"=pure (some (.builtin id))/\s.TypeIs v T/\wpAny (model X.prog X.w) X.A (getItem v (.ref sl)) (EP X aa σ Q) X.xe s
theorem Fe.or {r r':V->Option Int->Option Int->Hp->VK->Prop}(h:Fe X r)(h':Fe X r'):Fe X (λx lo hi H Q=>r x lo hi H Q\/r' x lo hi H Q):=by
 intro aa s σ H x v vl vu lo hi sl Q I rx hs pl pu q;rcases q with q |q
 .exact h aa s σ H x v vl vu lo hi sl Q I rx hs pl pu q
 .exact h' aa s σ H x v vl vu lo hi sl Q I rx hs pl pu q
def tSl (r:V->Option Int->Option Int->Hp->VK->Prop)(te:TE)(tl th:TO):TE:=λσ H Q=>te σ H λx H1=>tl σ H1 λl H2=>th σ H2 λu H3=>r x l u H3 Q
theorem DA {r:V->Option Int->Option Int->Hp->VK->Prop}(hr:Fe X r)(he:PE X e te)(hl:PO X lo tl)(hu:PO X hi th):PE X (.Subscript e (.Slice lo hi none p2) pos) (tSl r te tl th):=by
 intro aa s σ H Q I h;refine Subscript_ (bi (he aa s σ H _ I h) λv s1 ⟨x,H1,I1,r1,q1⟩=>?_);refine wpAny_Slice (bi (hl aa s1 σ H1 _ I1 q1) λvl s2 ⟨l,H2,I2,pl,q2⟩=>bi (hu aa s2 σ H2 _ I2 q2) λvu s3 ⟨u,H3,I3,pu,q3⟩=>?_);rw[evalPart_none];refine wpAny_pure ?_;have I4:Inv X aa σ H3 { s3 with heap:=s3.heap.push { cls:=.type "slice",data:=.fields #[vl,vu,.none] } }:=I3.kept (t':=s3.toks) λb ob q=>Heap.get?_push_of_some _ q
 obtain⟨T,id,hT,ht,hg⟩:=hr aa { s3 with heap:=s3.heap.push { cls:=.type "slice",data:=.fields #[vl,vu,.none] } } σ H3 x v vl vu l u s3.heap.objs.size Q I4 r1 (Heap.IsSliceOf.new ..) pl pu q3;show wpAny (model X.prog X.w) X.A (subscriptTail e (.Slice lo hi none p2) v (.ref s3.heap.objs.size)) (EP X aa σ Q) X.xe { s3 with heap:=s3.heap.push { cls:=.type "slice",data:=.fields #[vl,vu,.none] } };exact tail_any (ops:=[.ref s3.heap.objs.size,v]) ht hT hg (by with_unfolding_all rfl)
def nV (xs:List V)(lo hi:Option Int):List V:=(xs.drop (HT.cJ xs.length 0 lo)).take (HT.cJ xs.length xs.length hi-HT.cJ xs.length 0 lo)
theorem mq (xs:List V)(lo hi:Option Int):(nV xs lo hi).length<=xs.length:=by
 unfold nV;rw[Yk,Yx];omega
def WJ (K:Θ1):V->Option Int->Option Int->Hp->VK->Prop:=λx lo hi H Q=>∃a xs,x=.ref a/\aG K H a xs /\
 ¬ (HT.cJ xs.length 0 lo=0/\HT.cJ xs.length xs.length hi=xs.length)/\∀p,H p=none->Q (.ref p) (aK H p (.tup (nV xs lo hi)))
theorem K9:Fe X (WJ X.K):=by
 intro aa s σ H x v vl vu lo hi sl Q I rx hs pl pu h;obtain⟨a,xs,rfl,hx,hw,q⟩:=h;cases rx;obtain⟨its,r,ht,hz⟩:=I.tuple hx;have bN:its.toArray.size=xs.length:=by rw[Zt];exact r.length.symm
 refine⟨"tuple",_,PyProof.Rows.slot_tuple_getitem.lookup,ht.typeIs,?_⟩;refine HT.lh ht hs pl pu (by rw[bN];exact hw) ?_ (by rw[bN];exact hz);rw[bN];refine⟨.ref s.heap.objs.size,_,I.laid (t':=s.toks) (o:=.tup (nV xs lo hi)) (λb ob q=>Heap.get?_push_of_some _ q) (Ze _) ?_,rfl,q _ (I.bt.fresh (Ze _))⟩;exact⟨Ye (mq xs lo hi) hz,_,(r.drop (HT.cJ xs.length 0 lo)).take (HT.cJ xs.length xs.length hi-HT.cJ xs.length 0 lo),IsTup.new _ _⟩
def Rh (K:Θ1):R2:=λx y H Q=>∃a b xs ys,x=.ref a/\y=.ref b/\aG K H a xs/\aG K H b ys/\xs≠[]/\xs.length+ys.length<=sizeLine /\
 (ys=[]->Q (.ref a) H)/\(ys≠[]->∀p,H p=none->Q (.ref p) (aK H p (.tup (xs++ys))))
theorem aP.nc {xs:List V}{us:Δ3}(r:aP xs us):us=[]↔xs=[]:=by
 cases r with
 |nil=>simp
 |cons _ _=>simp
theorem GQ:d8 X (binaryOp .Add) (Rh X.K):=by
 intro aa s σ H x y v u Q I rx ry h;obtain⟨a,b,xs,ys,rfl,rfl,ha,hb,hx,hz,q1,q2⟩:=h;cases rx;cases ry;obtain⟨its,r1,p1,_⟩:=I.tuple ha;obtain⟨pM,r2,p2,_⟩:=I.tuple hb;refine HT.HA p1 p2 (λz=>hx (r1.nc.mp z)) (λz=>⟨.ref a,H,I,rfl,q1 (r2.nc.mp z)⟩) (λz=>?_) (by rw[<- r1.length,<- r2.length];exact hz);refine⟨.ref s.heap.objs.size,_,I.laid (t':=s.toks) (o:=.tup (xs++ys)) (λb ob q=>Heap.get?_push_of_some _ q) (Ze _) ?_,rfl,q2 (λw=>z (r2.nc.mpr w)) _ (I.bt.fresh (Ze _))⟩;exact⟨by rw[Zn];exact hz,_,r1.append r2,IsTup.new _ _⟩
end
def tK (n:Nat)(i:Int):Option Nat:=if 0<=i then (if i<n then some i.toNat else none) else if -(n:Int)<=i then some (i+n).toNat else none
def iO {α : Type}(xs:List α)(i:Int):Option α:=(tK xs.length i).bind λj=>xs[j]?
theorem yx {n:Nat}{i:Int}{j:Nat}(h:tK n i=some j):seqIndex? i n=some j/\j<n/\-(n:Int)<=i/\i<n:=by
 unfold tK at h;by_cases h0:0<=i
 .rw[if_pos h0] at h;by_cases h1:i<n
  .rw[if_pos h1] at h;have e:i.toNat=j:=Option.some.inj h;exact⟨by rw[seqIndex_of h0 h1,e],by omega,by omega,h1⟩
  .rw[if_neg h1] at h;cases h
 .rw[if_neg h0] at h;by_cases h1:-(n:Int)<=i
  .rw[if_pos h1] at h;have e:(i+n).toNat=j:=Option.some.inj h;exact⟨by rw[seqIndex_neg (by omega) h1,e],by omega,h1,by omega⟩
  .rw[if_neg h1] at h;cases h
theorem aH {α : Type}{xs:List α}{i:Int}{v:α}(h:iO xs i=some v):∃j,seqIndex? i xs.length=some j/\xs[j]?=some v/\j<xs.length/\-(xs.length:Int)<=i/\i<xs.length:=by
 unfold iO at h;cases e:tK xs.length i with
 |none=>rw[e] at h;cases h
 |some j =>
  rw[e] at h;obtain⟨h1,h2,h3,h4⟩:=yx e;exact⟨j,h1,h,h2,h3,h4⟩
theorem eY {α : Type}{xs:List α}{j:Nat}{v:α}(h:xs[j]?=some v):iO xs (j:Int)=some v:=by
 have hj:j<xs.length:=(Zd.mp h).1;have e:tK xs.length (j:Int)=some j:=by
  unfold tK;rw[if_pos (by omega),if_pos (by omega)];simp
 unfold iO;rw[e];exact h
def sS (b:Expr):Prop:=∀o i,subscripted b false o i=operate [o,i] (getItem o i)
def zi (X:Cx)(r:R2):Prop :=
 ∀(value slice:Expr) (aa:Γ2) (s:Shared) (σ:St) (H:Hp) (x y:V) (v u:Value) (Q:VK),Inv X aa σ H s->RelV x v->RelV y u->r x y H Q ->
  subscripted slice false v u=operate [v,u] (getItem v u)->wpAny (model X.prog X.w) X.A (subscriptTail value slice v u) (EP X aa σ Q) X.xe s
def SE (X:Cx)(id:String)(r:V->List V->Hp->VK->Prop):Prop :=
 ∀(aa:Γ2) (s:Shared) (σ:St) (H:Hp) (x:V) (xs:List V) (v:Value) (us:Δ3) (Q:VK),Inv X aa σ H s->RelV x v->aP xs us->r x xs H Q ->
  wpAny (model X.prog X.w) X.A (call (.builtin id) (v::us)) (EP X aa σ Q) X.xe s
section
variable {X:Cx}{a b:Expr}{ta tb:TE}{pos:Pos}
theorem zi.or {r r':R2}(h:zi X r)(h':zi X r'):zi X (λx y H Q=>r x y H Q\/r' x y H Q):=by
 intro value slice aa s σ H x y v u Q I rx ry q hs;rcases q with q |q
 .exact h value slice aa s σ H x y v u Q I rx ry q hs
 .exact h' value slice aa s σ H x y v u Q I rx ry q hs
theorem cS {r:R2}(hr:zi X r)(ha:PE X a ta)(hb:PE X b tb)(hs:sS b):PE X (.Subscript a b pos) (EV r ta tb):=by
 intro aa s σ H Q I h;exact Subscript_ (KP ha hb I h λv u s2 x y H2 I2 rx ry q=>hr a b aa s2 σ H2 x y v u Q I2 rx ry q (hs _ _))
def Kc (K:Θ1):R2:=λx y H Q=>∃p xs i v,x=.ref p/\y=.int i/\bA K H p xs/\iO xs i=some v/\Q v H
def Bi (K:Θ1):R2:=λx y H Q=>∃p xs i v,x=.ref p/\y=.int i/\aG K H p xs/\iO xs i=some v/\Q v H
theorem yw:zi X (Kc X.K):=by
 intro value slice aa s σ H x y v u Q I rx ry h hs;obtain⟨p,xs,i,z,rfl,rfl,hq,he,q⟩:=h;cases rx;obtain⟨t,rfl⟩:=ry;obtain⟨its,r,pl,hz⟩:=I.list hq;obtain⟨j,h1,h2,h3,h4,h5⟩:=aH he;obtain⟨w,ew,AT⟩:=r.get h2;have hl:=r.length;have hn:=oF;have kq:EP X aa σ Q w s:=⟨z,H,I,AT,q⟩;by_cases h0:0<=i
 .have hj:i.toNat=j:=by
   rw[seqIndex_of h0 h5] at h1;exact Option.some.inj h1
  exact item_listR pl.isList h0 (by omega) (by rw[hj];simpa using ew) kq hs
 .have hj:(i+(its.toArray.size:Int)).toNat=j:=by
   rw[seqIndex_neg (by omega) h4] at h1;rw[Zt,<- hl];exact Option.some.inj h1
  exact subscriptTail_builtinR (x:=w) pl.isList.typeIs slot_list_getitem.lookup
   (wpAny_getItem_list_neg (Q:=λr s'=>r=w/\EP X aa σ Q r s') pl.isList (by omega) (by rw[Zt]<;>omega) (by omega) (by rw[hj];simpa using ew) ⟨rfl,kq⟩) hs
theorem M1:zi X (Bi X.K):=by
 intro value slice aa s σ H x y v u Q I rx ry h hs;obtain⟨p,xs,i,z,rfl,rfl,hq,he,q⟩:=h;cases rx;obtain⟨t,rfl⟩:=ry;obtain⟨its,r,pl,hz⟩:=I.tuple hq;obtain⟨j,h1,h2,h3,h4,h5⟩:=aH he;obtain⟨w,ew,AT⟩:=r.get h2;have hl:=r.length;have hn:=oF;have kq:EP X aa σ Q w s:=⟨z,H,I,AT,q⟩;exact subscriptTail_builtinR (x:=w) pl.typeIs slot_tuple_getitem.lookup
  (getItem_tuple (j:=j) (Q:=λr s'=>r=w/\EP X aa σ Q r s') pl (by omega) (by omega) (by rw[Zt,<- hl];exact h1) (by simpa using ew) ⟨rfl,kq⟩) hs
theorem wT (its:Δ3)(n j:Nat)(u:Value):Obj.mapSeq (·.setIfInBounds j u) { cls:=.type "list",data:=.seq its.toArray n }={ cls:=.type "list",data:=.seq (its.set j u).toArray n }:=by
 simp[Obj.mapSeq]
theorem Inv.lst {aa:Γ2}{σ:St}{H:Hp}{s:Shared}{p:Addr}{xs:List V}(I:Inv X aa σ H s)(h:H p=some (.lst xs)) :
  ∃(its:Δ3) (n:Nat),aP xs its/\s.heap.get? p=some { cls:=.type "list",data:=.seq its.toArray n }/\xs.length<=sizeLine:=by
 obtain⟨z,its,n,r,e⟩:=I.bt p _ h;exact⟨its,n,r,e,z⟩
theorem Inv.MH {aa:Γ2}{σ:St}{H:Hp}{s:Shared}{p:Addr}{xs ys:List V}{its its':Δ3}{n n':Nat}{f:Obj->Obj}(I:Inv X aa σ H s)(h:H p=some (.lst xs))
  (ho:s.heap.get? p=some { cls:=.type "list",data:=.seq its.toArray n }) (hf:f { cls:=.type "list",data:=.seq its.toArray n }={ cls:=.type "list",data:=.seq its'.toArray n' }) (r:aP ys its') (hz:ys.length<=sizeLine) (t:Nat) :
  Inv X aa σ (aK H p (.lst ys)) { s with heap:=s.heap.update p f,toks:=t }:=by
 have e:(s.heap.update p f).get? p=some { cls:=.type "list",data:=.seq its'.toArray n' }:=by
  rw[Heap.get?_update_self f ho (by rw[hf]<;>rfl),hf]
 refine I.write (x:=p) (e:=p) (by rw[h];trivial) (.inl rfl) (λb u hb q=>(Heap.get?_update_other _ _ (Ne.symm hb)).trans q) ⟨_,e⟩ ?_;exact⟨hz,its',n',r,e⟩
def Q9:V->V->V->Hp->(Hp->Prop)->Prop:=λo i v H Q=>∃p xs k j,o=.ref p/\i=.int k/\H p=some (.lst xs)/\tK xs.length k=some j/\Q (aK H p (.lst (xs.set j v)))
theorem oO:QK X Q9:=by
 intro aa s σ H o i v ov iv u Q I ro ri rv h;obtain⟨p,xs,k,j,rfl,rfl,hp,hj,q⟩:=h;cases ro;obtain⟨t,rfl⟩:=ri;obtain⟨its,n,r,ho,hz⟩:=I.lst hp;obtain⟨h1,h2,h3,h4⟩:=yx hj;have hl:=r.length;have hn:=oF;have I':Inv X aa σ (aK H p (.lst (xs.set j v))) { s with heap:=s.heap.update p (Obj.mapSeq (·.setIfInBounds j u)) } :=
  I.MH hp ho (wT its n j u) (r.set rv j) (by rw[Yl];exact hz) s.toks
 by_cases h0:0<=k
 .have hk:k.toNat=j:=by
   rw[seqIndex_of h0 h4] at h1;exact Option.some.inj h1
  exact PySem.W.ki_setAt ho h0 (by omega) (by rw[Zt,<- hl];exact h4) (by rw[hk];exact⟨_,I',q⟩)
 .have hk:(k+(its.toArray.size:Int)).toNat=j:=by
   rw[seqIndex_neg (by omega) h3] at h1;rw[Zt,<- hl];exact Option.some.inj h1
  exact PySem.W.ki_setBack ho (by omega) (by rw[Zt,<- hl];exact h3) (by omega) (by rw[hk];exact⟨_,I',q⟩)
theorem sT (lo hi:Option Int)(n:Nat):(sliceBounds lo hi none n).1=((HT.cJ n 0 lo:Nat):Int)/\(sliceBounds lo hi none n).2.1=((HT.cJ n n hi:Nat):Int)/\(sliceBounds lo hi none n).2.2=1:=by
 refine⟨?_,?_,rfl⟩
 .cases lo with
  |none=>simp[sliceBounds,HT.cJ]
  |some i =>
   simp only[sliceBounds,HT.cJ,Option.getD_none,show(1:Int)>0 by decide,if_true];by_cases h:i<0
   .simp only[h,if_true]<;>omega
   .simp only[h,if_false]<;>omega
 .cases hi with
  |none=>simp[sliceBounds,HT.cJ]
  |some i =>
   simp only[sliceBounds,HT.cJ,Option.getD_none,show(1:Int)>0 by decide,if_true];by_cases h:i<0
   .simp only[h,if_true]<;>omega
   .simp only[h,if_false]<;>omega
theorem pS (its:Δ3)(lo hi:Option Int):slicePick its.toArray lo hi none=((its.drop (HT.cJ its.length 0 lo)).take (HT.cJ its.length its.length hi-HT.cJ its.length 0 lo)).toArray:=by
 obtain⟨h1,h2,h3⟩:=sT lo hi its.toArray.size;unfold slicePick;rw[h1,h2,h3];simp only[sliceRange_one,pick_run,Zt]<;>rfl
def Pn (K:Θ1):V->Option Int->Option Int->Hp->VK->Prop:=λx lo hi H Q=>∃a xs,x=.ref a/\bA K H a xs/\∀p,H p=none->Q (.ref p) (aK H p (.lst (nV xs lo hi)))
theorem Gi:Fe X (Pn X.K):=by
 intro aa s σ H x v vl vu lo hi sl Q I rx hs pl pu h;obtain⟨a,xs,rfl,hx,q⟩:=h;cases rx;obtain⟨its,r,ht,hz⟩:=I.list hx;have bN:=r.length;refine⟨"list",_,slot_list_getitem.lookup,ht.isList.typeIs,?_⟩;refine wpAny_getItem_list_slice ht.isList hs pl pu .none (by simp) ?_ (by rw[Zt]<;>omega);rw[pS,<- bN];refine⟨.ref s.heap.objs.size,_,I.laid (t':=s.toks) (o:=.lst (nV xs lo hi)) (λb ob q=>Heap.get?_push_of_some _ q) (Ze _) ?_,rfl,q _ (I.bt.fresh (Ze _))⟩;exact⟨Ye (mq xs lo hi) hz,_,0,(r.drop (HT.cJ xs.length 0 lo)).take (HT.cJ xs.length xs.length hi-HT.cJ xs.length 0 lo),Heap.get?_push_size _ rfl⟩
def iZ:V->Bool
 |.bO=>true
 |.bl _=>true
 |.int _=>true
 |.str _=>true
 |_=>false
def EQ:V->V->Bool
 |.bO,.bO=>true
 |.bl a,.bl b=>a == b
 |.bl a,.int b=>(if a then 1 else 0) == b
 |.int a,.bl b=>a == (if b then 1 else 0)
 |.int a,.int b=>a == b
 |.str a,.str b=>a == b
 |_,_=>false
theorem M3 {A:Around}{s:Shared}{y x:V}{u v:Value}(ry:RelV y u)(rx:RelV x v)(fy:iZ y=true)(fx:iZ x=true):SeqAt.EqAt A s u v (EQ y x):=by
 cases y with
 |bO =>
  cases ry
  cases x with
  |bO=>cases rx;exact SeqAt.EqAt.same _
  |bl b=>cases rx;exact SeqAt.EqAt.none_bool b
  |int b=>obtain⟨t,rfl⟩:=rx;exact SeqAt.EqAt.none_int b t
  |str b=>obtain⟨t,rfl⟩:=rx;exact SeqAt.EqAt.none_str b t
  |_=>exact absurd (show false=true from fx) Zy
 |bl a =>
  cases ry
  cases x with
  |bO=>cases rx;exact SeqAt.EqAt.bool_none a
  |bl b=>cases rx;exact SeqAt.EqAt.bool_bool a b
  |int b=>obtain⟨t,rfl⟩:=rx;exact SeqAt.EqAt.bool_int a b t
  |str b=>obtain⟨t,rfl⟩:=rx;exact SeqAt.EqAt.bool_str a b t
  |_=>exact absurd (show false=true from fx) Zy
 |int a =>
  obtain⟨t',rfl⟩:=ry;cases x with
  |bO=>cases rx;exact SeqAt.EqAt.int_none a t'
  |bl b=>cases rx;exact SeqAt.EqAt.int_bool a t' b
  |int b=>obtain⟨t,rfl⟩:=rx;exact SeqAt.EqAt.int_int a t' b t
  |str b=>obtain⟨t,rfl⟩:=rx;exact SeqAt.EqAt.int_str a t' b t
  |_=>exact absurd (show false=true from fx) Zy
 |str a =>
  obtain⟨t',rfl⟩:=ry;cases x with
  |bO=>cases rx;exact SeqAt.EqAt.str_none a t'
  |bl b=>cases rx;exact SeqAt.EqAt.str_bool a t' b
  |int b=>obtain⟨t,rfl⟩:=rx;exact SeqAt.EqAt.str_int a t' b t
  |str b=>obtain⟨t,rfl⟩:=rx;exact SeqAt.EqAt.str_str a t' b t
  |_=>exact absurd (show false=true from fx) Zy
 |_=>exact absurd (show false=true from fy) Zy
def vJ (x:V)(u:Value):Bool:=match u with
 |.none=>EQ .bO x
 |.bool b=>EQ (.bl b) x
 |.int i _=>EQ (.int i) x
 |.str z _=>EQ (.str z) x
 |_=>false
theorem C1 {x y:V}{u:Value}(r:RelV y u)(f:iZ y=true):vJ x u=EQ y x:=by
 cases y with
 |bO=>cases r;rfl
 |bl b=>cases r;rfl
 |int i=>obtain⟨t,rfl⟩:=r;rfl
 |str z=>obtain⟨t,rfl⟩:=r;rfl
 |_=>exact absurd (show false=true from f) Zy
theorem kP {x:V}:∀{xs:List V}{us:Δ3},aP xs us->xs.all iZ=true->us.any (vJ x)=xs.any λy=>EQ y x
 |_,_,.nil,_=>rfl
 |y::xs,u::us,.cons r t,f=>by
  rw[Xe,Zl] at f;rw[Xw,Xw,C1 r f.1,kP t f.2]
theorem jk {A:Around}{s:Shared}{x:V}{v:Value}(rx:RelV x v)(fx:iZ x=true):∀{xs:List V}{us:Δ3},aP xs us->xs.all iZ=true->∀u∈us,SeqAt.EqAt A s u v (vJ x u)
 |_,_,.nil,_=>λu hu=>by cases hu
 |y::xs,u::us,.cons r t,f=>λu' hu=>by
  rw[Xe,Zl] at f;rcases Zf.mp hu with rfl |hu
  .rw[C1 r f.1];exact M3 r rx f.1 fx
  .exact jk rx fx t f.2 u' hu
def AZ (x:V)(xs:List V):Bool:=xs.any λy=>EQ y x
def NW (K:Θ1)(neg:Bool):R2:=λx y H Q=>∃p xs,y=.ref p/\(bA K H p xs\/aG K H p xs)/\iZ x=true/\xs.all iZ=true/\Q (.bl (if neg then !AZ x xs else AZ x xs)) H
theorem zY:d8 X (compareOp .In) (NW X.K false):=by
 intro aa s σ H x y v u Q I rx ry h;obtain⟨p,xs,rfl,hq,fx,fs,q⟩:=h;cases ry;rcases hq with hq |hq
 .obtain⟨its,r,pl,hz⟩:=I.list hq;refine SeqAt.in_listAt (vJ x) pl.isList (λw hw=>jk rx fx r fs w (by simpa using hw)) ⟨.bl _,H,I,rfl,?_⟩;rw[show its.toArray.any (vJ x)=its.any (vJ x) by simp,kP r fs];exact q
 .obtain⟨its,r,pl,hz⟩:=I.tuple hq;refine SeqAt.in_tupleAt (vJ x) pl (λw hw=>jk rx fx r fs w (by simpa using hw)) ⟨.bl _,H,I,rfl,?_⟩;rw[show its.toArray.any (vJ x)=its.any (vJ x) by simp,kP r fs];exact q
theorem sV:d8 X (compareOp .NotIn) (NW X.K true):=by
 intro aa s σ H x y v u Q I rx ry h;obtain⟨p,xs,rfl,hq,fx,fs,q⟩:=h;cases ry;rcases hq with hq |hq
 .obtain⟨its,r,pl,hz⟩:=I.list hq;refine SeqAt.notIn_listAt (vJ x) pl.isList (λw hw=>jk rx fx r fs w (by simpa using hw)) ⟨.bl _,H,I,rfl,?_⟩;rw[show its.toArray.any (vJ x)=its.any (vJ x) by simp,kP r fs];exact q
 .obtain⟨its,r,pl,hz⟩:=I.tuple hq;refine SeqAt.notIn_tupleAt (vJ x) pl (λw hw=>jk rx fx r fs w (by simpa using hw)) ⟨.bl _,H,I,rfl,?_⟩;rw[show its.toArray.any (vJ x)=its.any (vJ x) by simp,kP r fs];exact q
theorem iy:cc X (.builtin "len") (λxs H Q=>∃p ys,xs=[.ref p]/\(bA X.K H p ys\/aG X.K H p ys)/\Q (.int ys.length) H):=by
 intro aa s σ H xs us Q I r h;obtain⟨p,ys,rfl,hq,q⟩:=h;obtain⟨u,rfl,rx⟩:=vals1 r;cases rx;have hn:=oF;rcases hq with hq |hq
 .obtain⟨its,r',pl,hz⟩:=I.list hq;have bN:=r'.length;exact Calls.call_len_list pl.isList (by simp only[Zt]<;>omega) ⟨.int ys.length,H,I.tok _,⟨s.toks+1,by rw[Zt,bN]⟩,q⟩
 .obtain⟨its,r',pl,hz⟩:=I.tuple hq;have bN:=r'.length;exact len_tuple pl (by simp only[Zt]<;>omega) ⟨.int ys.length,H,I.tok _,⟨s.toks+1,by rw[Zt,bN]⟩,q⟩
theorem sY:cc X (.type "list") (λxs H Q=>∃p ys,xs=[.ref p]/\(bA X.K H p ys\/aG X.K H p ys)/\∀l,H l=none->Q (.ref l) (aK H l (.lst ys))):=by
 intro aa s σ H xs us Q I r h;obtain⟨p,ys,rfl,hq,q⟩:=h;obtain⟨u,rfl,rx⟩:=vals1 r;cases rx;have kq:∀(its:Δ3),aP ys its->ys.length<=sizeLine->∀(h':Heap) (c':Nat),(∀b o',s.heap.get? b=some o'->h'.get? b=some o') ->
   h'.get? s.heap.objs.size=some { cls:=.type "list",dict:=none,data:=.seq its.toArray c',slots:=#[] }->EP X aa σ Q (.ref s.heap.objs.size) { s with heap:=h' }:=λits r' hz h' c' kp e =>
  ⟨.ref s.heap.objs.size,_,I.laid (t':=s.toks) kp (Ze _) (show bY X.prog X.w _ h' _ (.lst ys) from⟨hz,its,c',r',e⟩),rfl,q _ (I.bt.fresh (Ze _))⟩
 rcases hq with hq |hq
 .obtain⟨its,r',pl,hz⟩:=I.list hq;have bN:=r'.length;obtain⟨o,ho,hc,n,hd⟩:=pl.isList;exact call_list_seq p (.inl rfl) ho hc hd (λh' c' kp e=>kq its r' hz h' c' kp e) (by simp only[Zt]<;>omega)
 .obtain⟨its,r',pl,hz⟩:=I.tuple hq;have bN:=r'.length;obtain⟨o,ho,hc,n,hd⟩:=pl;exact call_list_seq p (.inr rfl) ho hc hd (λh' c' kp e=>kq its r' hz h' c' kp e) (by simp only[Zt]<;>omega)
theorem pY:cc X (.type "tuple") (λxs H Q=>∃p ys,xs=[.ref p]/\((bA X.K H p ys/\∀l,H l=none->Q (.ref l) (aK H l (.tup ys)))\/(aG X.K H p ys/\Q (.ref p) H))):=by
 intro aa s σ H xs us Q I r h;obtain⟨p,ys,rfl,h⟩:=h;obtain⟨u,rfl,rx⟩:=vals1 r;cases rx;rcases h with ⟨hq,q⟩ |⟨hq,q⟩
 .obtain⟨its,r',pl,hz⟩:=I.list hq;have bN:=r'.length;refine call_tuple_list pl.isList (λh' kp=>?_) (by simp only[Zt]<;>omega);have I1:Inv X aa σ H { s with heap:=h' }:=I.kept (t':=s.toks) kp;have I2:Inv X aa σ (aK H h'.objs.size (.tup ys)) { s with heap:=h'.push { cls:=.type "tuple",data:=.seq its.toArray } } :=
   I1.laid (t':=s.toks) (λb o e=>Heap.get?_push_of_some _ e) (Ze _) (show bY X.prog X.w _ _ _ (.tup ys) from⟨hz,its,r',IsTup.new _ _⟩)
  exact⟨.ref h'.objs.size,_,I2,rfl,q _ (I1.bt.fresh (Ze _))⟩
 .obtain⟨its,r',pl,hz⟩:=I.tuple hq;exact call_tuple_same pl ⟨.ref p,H,I,rfl,q⟩
def Nl (K:Θ1)(T:String)(x:V)(H:Hp):Prop:=match x with
 |.str _=>T="str"
 |.int _=>T="int"
 |.ref p=>(T="list"/\∃xs,bA K H p xs)\/(T="tuple"/\∃o,K.lookup p=some o/\o.cls=.type "tuple"/\o.dict=none) \/
   (T="dict"/\((∃kvs,H p=some (.dK kvs))\/∃kvs,H p=some (.dT kvs)))\/(T="set"/\∃S n,H p=some (.set S n))
 |_=>False
theorem Cc {aa:Γ2}{σ:St}{H:Hp}{s:Shared}{T:String}{x:V}{v:Value}(I:Inv X aa σ H s)(r:RelV x v)(ty:Nl X.K T x H) :
  s.TypeIs v T/\∀a,v=.ref a->∃ob,s.heap.get? a=some ob/\ob.dict=none:=by
 cases x with
 |str z =>
  obtain⟨t,rfl⟩:=r;cases (show T="str" from ty);exact⟨typeIs_str s z t,λ_ e=>nomatch e⟩
 |int i =>
  obtain⟨t,rfl⟩:=r;cases (show T="int" from ty);exact⟨typeIs_int s i t,λ_ e=>nomatch e⟩
 |ref p =>
  cases r
  rcases ty with ⟨rfl,xs,hq⟩ |⟨rfl,o,hk,hc,hd⟩ |⟨rfl,hk⟩ |⟨rfl,S,n,hk⟩
  .obtain⟨its,_,pl,_⟩:=I.list hq;refine⟨pl.isList.typeIs,λa e=>?_⟩;cases e;obtain⟨o,n,e,c,hd,_⟩:=pl;exact⟨o,e,hd⟩
  .refine⟨⟨o,I.l9 p o hk,hc⟩,λa e=>?_⟩;cases e;exact⟨o,I.l9 _ o hk,hd⟩
  .have z:∃o,s.heap.get? p=some o/\o.ExactDict:=by
    rcases hk with ⟨kvs,hk⟩ |⟨kvs,hk⟩
    .obtain⟨_,_,_,_,o,_,_,e,ex,_⟩:=I.bt p _ hk;exact⟨o,e,ex⟩
    .obtain⟨_,_,_,_,o,_,_,e,ex,_⟩:=I.bt p _ hk;exact⟨o,e,ex⟩
   obtain⟨o,e,ex⟩:=z;refine⟨⟨o,e,ex.1⟩,λa e2=>?_⟩;cases e2;exact⟨o,e,ex.2.1⟩
  .obtain⟨o,_,_,_,e,ex,_⟩:=I.bt p _ hk;refine⟨⟨o,e,ex.1⟩,λa e2=>?_⟩;cases e2;exact⟨o,e,ex.2.1⟩
 |_=>exact False.elim ty
def Wr (K:Θ1)(T:String)(r:V->List V->Hp->VK->Prop)(to:TE):TE:=λσ H Q=>to σ H λx H1=>Nl K T x H1/\r x [] H1 Q
def tBM (K:Θ1)(T:String)(r:V->List V->Hp->VK->Prop)(to:TE)(t:TA):TE:=λσ H Q=>to σ H λx H1=>Nl K T x H1/\t σ H1 λxs H2=>r x xs H2 Q
variable {o e:Expr}{es:Ξ2}{to:TE}{t:TA}{name:Str}{fk bV:Pos}{T id:String}{r:V->List V->Hp->VK->Prop}
theorem LQ (pa:PlainAttrs T)(slot:Slot T name id)(A0:typeOf (.builtin id)=pure (.type "method_descriptor"))(hm:SE X id r)(ho:PE X o to)
  (uh:attributeBase o name X.env (eval o X.env)=eval o X.env:=by rfl) (ug:(fk.endLine == bV.line)=true:=by rfl):PE X (.Call (.Attribute o name fk) [] [] bV) (Wr X.K T r to):=by
 intro aa s σ H Q I h;refine wpAny_Call_method0_late uh ug (bi (ho aa s σ H _ I h) λv s1 ⟨x,H1,I1,r1,ty,q1⟩=>?_);obtain⟨h1,h2⟩:=Cc I1 r1 ty;exact⟨T,id,pa,slot,A0,h1,h2,Calls.callWith_builtin rfl (PySem.evalArgs_none (hm aa s1 σ H1 x [] v [] Q I1 r1 .nil q1))⟩
end
def ο (X:Cx)(id:String)(r:V->List V->Hp->VK->Prop):Prop :=
 ∀(aa:Γ2) (s:Shared) (σ:St) (H:Hp) (x:V) (xs:List V) (v:Value) (us:Δ3) (Q:VK),Inv X aa σ H s->RelV x v->aP xs us->r x xs H Q ->
  wpAny (model X.prog X.w) X.A (call (.builtin id) (v::us)) (EP X aa σ Q) X.xe s
theorem aP.one:∀{x:V}{us:Δ3},aP [x] us->∃u,us=[u]/\RelV x u
 |_,_,.cons r .nil=>⟨_,rfl,r⟩
theorem aP.rep {xs:List V}{us:Δ3}(h:aP xs us):∀k:Nat,aP (List.replicate k xs).flatten (List.replicate k us).flatten
 |0=>.nil
 |k+1=>by
  rw[Xq,Xq,Xx,Xx];exact aP.append h (aP.rep h k)
theorem foldl_rep (its:Δ3):∀(k:Nat) (acc:Δ3),
  List.foldl (λx1 x2=>x1++x2) acc.toArray (List.replicate k its.toArray)=(acc++(List.replicate k its).flatten).toArray
 |0,acc=>by simp
 |k+1,acc=>by
  have e:acc.toArray++its.toArray=(acc++its).toArray:=by simp
  have e2:(acc++its)++(List.replicate k its).flatten=acc++(List.replicate (k+1) its).flatten:=by
   rw[Xq,Xx,Xf]
  rw[<- e2,<- foldl_rep its k (acc++its),<- e,Xq,List.foldl_cons]
section
variable {X:Cx}{aa:Γ2}{σ:St}{H:Hp}{s:Shared}{l b:Addr}{xs ys zs:List V}
theorem Inv.PV {its its':Δ3}{n:Nat}{f:Array Value->Array Value}{t':Nat}(I:Inv X aa σ H s)(hH:H l=some (.lst xs))
  (e:s.heap.get? l=some { cls:=.type "list",data:=.seq its.toArray n }) (hf:f its.toArray=its'.toArray) (hv:aP ys its') (hz:ys.length<=sizeLine) :
  Inv X aa σ (aK H l (.lst ys)) { s with heap:=s.heap.update l (Obj.mapSeq f),toks:=t' }:=by
 have q:=PySem.IsL.update e f;rw[hf] at q;refine I.write (x:=l) (e:=l) (by rw[hH];exact trivial) (.inl rfl) (λb' u hb hu=>(Heap.get?_update_other s.heap (Obj.mapSeq f) (Ne.symm hb)).trans hu) ⟨_,q⟩ ?_;exact⟨hz,its',_,hv,q⟩
theorem Inv.Bk {its:Δ3}{t':Nat}(I:Inv X aa σ H s)(hv:aP ys its)(hz:ys.length<=sizeLine) :
  Inv X aa σ (aK H s.heap.objs.size (.lst ys)) { s with heap:=s.heap.push { cls:=.type "list",data:=.seq its.toArray },toks:=t' } :=
 I.laid (λ_ _ q=>Heap.get?_push_of_some _ q) (Ze _) ⟨hz,its,0,hv,Heap.get?_push_size _ rfl⟩
theorem Inv.fresh (I:Inv X aa σ H s):H s.heap.objs.size=none:=I.bt.fresh (Ze _)
theorem Inv.zp (I:Inv X aa σ H s)(hH:H l=some (.lst xs)):xs.length<=sizeLine/\∃(its:Δ3) (n:Nat),aP xs its/\xs.length=its.length/\s.heap.get? l=some { cls:=.type "list",data:=.seq its.toArray n }:=by
 obtain⟨z,its,n,r,e⟩:=I.bt l _ hH;exact⟨z,its,n,r,r.length,e⟩
theorem uC {n:Nat}(h:n<=sizeLine):Builtin.List.listTooLong n=false:=by
 unfold Builtin.List.listTooLong;exact decide_eq_false (by omega)
end
section
variable {X:Cx}
def GA:V->List V->Hp->VK->Prop:=λx vs H Q=>∃l xs y,x=.ref l/\vs=[y]/\H l=some (.lst xs)/\xs.length<sizeLine/\Q .bO (aK H l (.lst (xs++[y])))
theorem jG:ο X "list.append" GA:=by
 intro aa s σ H x vs v us Q I rx rv h;obtain⟨l,xs,y,rfl,rfl,hH,hz,q⟩:=h;cases rx;obtain⟨u,rfl,ru⟩:=rv.one;obtain⟨z,its,n,r,hl,e⟩:=I.zp hH;refine call_meets F.slot_list_append ⟨_,e,rfl⟩ F.entry_list_append (F.args_list_append_2 _ _) (PySem.list_append l its.toArray n u (by rw[Zt];omega)) ⟨e,?_⟩;refine⟨.bO,_,I.PV (its':=its++[u]) hH e (by simp) (r.append (.cons ru .nil)) ?_,rfl,q⟩;rw[Zn,Qp];omega
def Gz:V->List V->Hp->VK->Prop:=λx vs H Q=>∃l b xs zs,x=.ref l/\vs=[.ref b]/\H l=some (.lst xs)/\H b=some (.lst zs)/\xs.length+zs.length<=sizeLine/\Q .bO (aK H l (.lst (xs++zs)))
theorem Ae:ο X "list.extend" Gz:=by
 intro aa s σ H x vs v us Q I rx rv h;obtain⟨l,b,xs,zs,rfl,rfl,hH,hB,hz,q⟩:=h;cases rx;obtain⟨u,rfl,ru⟩:=rv.one;cases ru;obtain⟨z,its,n,r,hl,e⟩:=I.zp hH;obtain⟨z2,pM,n2,r2,lA,e2⟩:=I.zp hB;have hsz:its.toArray.size+pM.toArray.size<=sizeLine:=by rw[Zt,Zt];omega
 have B5:¬ (!its.toArray.isEmpty&&Builtin.List.listTooLong (its.toArray.size+pM.toArray.size))=true:=by
  rw[uC hsz,Xk];exact Zy
 refine call_meets F.slot_list_extend ⟨_,e,rfl⟩ F.entry_list_extend (F.args_list_extend_2 _ _)
  (AutoSeq1.list_extend_list_list_0 l its.toArray n b pM.toArray n2 B5 (by rw[Zt];omega) (by omega)) ⟨e,e2,?_⟩
 refine⟨.bO,_,I.PV (its':=its++pM) hH e (by simp) (r.append r2) ?_,rfl,q⟩;rw[Zn];omega
def Pp:R2:=λx y H Q=>∃l b xs zs,x=.ref l/\y=.ref b/\H l=some (.lst xs)/\H b=some (.lst zs)/\xs.length+zs.length<=sizeLine/\∀p,H p=none->Q (.ref p) (aK H p (.lst (xs++zs)))
theorem rK:d8 X (binaryOp .Add) Pp:=by
 intro aa s σ H x y v u Q I rx ry h;obtain⟨l,b,xs,zs,rfl,rfl,hH,hB,hz,q⟩:=h;cases rx;cases ry;obtain⟨z,its,n,r,hl,e⟩:=I.zp hH;obtain⟨z2,pM,n2,r2,lA,e2⟩:=I.zp hB;refine PySem.P.add_list e e2 ?_ (by rw[Zt,Zt];omega);have ea:its.toArray++pM.toArray=(its++pM).toArray:=by simp
 rw[ea];exact⟨.ref _,_,I.Bk (t':=s.toks) (r.append r2) (by rw[Zn];omega),rfl,q _ I.fresh⟩
def Po:R2:=λx y H Q=>∃l k xs,x=.ref l/\y=.int k/\H l=some (.lst xs)/\-(2 ^ 63)<=k/\k<2 ^ 63/\xs.length*k.toNat<=sizeLine /\
 ∀p,H p=none->Q (.ref p) (aK H p (.lst (List.replicate k.toNat xs).flatten))
theorem Hq {α : Type}(xs:List α)(k:Nat):(List.replicate k xs).flatten.length=k*xs.length:=by
 induction k with
 |zero=>simp
 |succ k ih=>rw[Xq,Xx,Zn,ih,Nat.succ_mul,Nat.add_comm]
theorem LS:d8 X (binaryOp .Mult) Po:=by
 intro aa s σ H x y v u Q I rx ry h;obtain⟨l,k,xs,rfl,rfl,hH,h1,h2,hz,q⟩:=h;cases rx;obtain⟨t,rfl⟩:=ry;obtain⟨z,its,n,r,hl,e⟩:=I.zp hH;have bN:its.toArray.size*k.toNat<=sizeLine:=by rw[Zt,<- hl];exact hz
 have XI:¬ its.toArray.size*k.toNat>(2 ^ 63-1) / 8:=by
  have:(sizeLine:Nat)<=(2 ^ 63-1) / 8:=by decide
  omega
 have XF:¬ (!Builtin.List.listFitsIndex k)=true:=by
  rw[fitsIndex_both h1 h2];exact Zy
 have B5:¬ Builtin.List.listTooLong (its.toArray.size*k.toNat)=true:=by
  rw[uC bN];exact Zy
 have XB:List.foldl (λx1 x2=>x1++x2) #[] (List.replicate (if its.toArray.isEmpty=true then 0 else k.toNat) its.toArray)=(List.replicate k.toNat its).flatten.toArray:=by
  have f0:∀m:Nat,List.foldl (λx1 x2=>x1++x2) #[] (List.replicate m its.toArray)=(List.replicate m its).flatten.toArray:=λm=>by
   have:=foldl_rep its m [];rw[List.nil_append] at this;exact this
  rw[f0];cases its with
  |nil=>simp
  |cons a r'=>rw[if_neg (by simp)]
 refine wpAny_binaryOp_repeat_ref (T:="list") (U:="int") (by decide) ⟨_,e,rfl⟩ (λs'=>typeIs_int s' k t) noFill_list_mul F.fills_int_mul F.slot_int_rmul repeat_list F.slot_int_index.lookup
  (call_meets F.slot_int_rmul (typeIs_int s k t) F.entry_int_rmul (F.args_int_rmul_2 _ _) (int___rmul___int_list k t l its.toArray n)
   ⟨e,rfl,⟨_,e,rfl⟩,call_meets F.slot_list_mul ⟨_,e,rfl⟩ F.entry_list_mul (F.args_list_mul_2 _ _) (AutoListH.list___mul___list_int_3 l its.toArray n k t XF XI B5) ⟨e,?_⟩⟩)
 rw[XB];exact⟨.ref _,_,I.Bk (t':=s.toks) (r.rep k.toNat) (by rw[Hq,Nat.mul_comm];exact hz),rfl,q _ I.fresh⟩
end
section
variable {prog:Program}{w:World}{A:Around}{E:Θ2}{s:Shared}
end
section
variable {X:Cx}
end
end L2
namespace Att
open PySem PySem.W PySem.Calls PyProof.Rows
theorem mI {P:Params}{h:Heap}:∀(ns:Γ3) (vs:Δ3),WellAll P h vs (ns.map WData.int)->IntsAre vs ns:=by
 intro ns;induction ns with
 |nil =>
  intro vs w;rw[List.map_nil] at w;cases w;exact .nil
 |cons n ns ih =>
  intro vs w;rw[Yj] at w;cases w with
  |cons a b =>
   cases a
   exact .cons _ _ (ih _ b)
theorem zQ {l:OpenLaw}{n:Nat}(hn:l.most=some n){P:Params}{h:Heap}{args:List WData}{JR:Δ3}
  (FG:l.row.toRowW.claim.pre args=true) (TN:WellAll P h JR args) :
  ∃a vs ns,JR=[Value.ref a]/\args=[WData.list (ns.map WData.int)]/\h.get? a=some { cls:=.type "list",data:=.seq vs.toArray }/\IntsAre vs ns/\ns.length<=n:=by
 have E6:WShape.hasAll [] args [.list .int]=true:=(pre_splitW FG).1;have hc:l.pre.holds [] { args:=args }=true:=(pre_splitW FG).2;obtain⟨d,r,rfl,h1,h2⟩:=hasAllW_cons E6;obtain rfl:=hasAllW_nil h2;obtain⟨xs,rfl,h3⟩:=hasW_list h1;obtain⟨ns,rfl⟩:=items_int h3;have bN:ns.length<=n:=by
  unfold OpenLaw.pre at hc;have h4:(WTm.not (.lt (.lit (.int (n:Int))) (.len (.arg 0)))).holds [] { args:=[.list (ns.map .int)] }=true:=by
   have h4:=(holds_andW hc).1;rw[hn] at h4;exact h4
  have h5:=condW_of h4 (w_not (w_lt w_lit (w_len_list (w_arg rfl))));rw[Zb] at h5;refine Nat.le_of_not_lt λq=>?_
  have q':(n:Int)<((ns.length:Nat):Int):=by omega
  first
   |(rw[decide_eq_true q'] at h5;exact absurd h5 (by decide))
   |(simp at h5;omega)
 cases TN with
 |cons w1 w2 =>
  cases w2
  cases w1 with
  |list ho lL=>exact⟨_,_,ns,rfl,rfl,ho,mI ns _ lL,bN⟩
theorem zU (l:OpenLaw)(args:List WData):l.row.toRowW.claim.post args (.bool true) args=true :=
 postW_of (r:=l.row.toRowW) (X:=(true == true))
  (show WShape.has [] (.bool true) .bool=true by first |rfl |decide |simp[WShape.has,WShape.arms,WShape.armsAll])
  (show(WTm.eq .res (.lit (.bool true))).value [] { args:=args,res:=some (.bool true),after:=args }=some (.bool (true == true)) from w_eq_bool (w_res rfl) w_lit) rfl
theorem vi {l:OpenLaw}{n:Nat}{q:Program}{qh:Δ2}{XP:(Θ3)->Heap->Prop}{YP:World->Heap->Prop}{d:DefRec}
  (hn:l.most=some n) (OE:d.params.defaults=[])
  (call:∀(w:World) (aT bh:Shared) (mg mb:Θ3) (fa:Addr) (o:Obj) (pm cd gF:Value) (a:Addr) (vs:Δ3) (ns:Γ3),
   Ground q qh [] XP w aT mg mb bh.heap->YP w bh.heap ->
   bh.heap.get? fa=some o->o.data=.func (docDef d.name d.params d.body d.scope pm cd gF)->bh.heap.CodeRec cd d.name->mg d.name=some (.ref fa) ->
   bh.heap.get? a=some { cls:=.type "list",data:=.seq vs.toArray }->IntsAre vs ns->ns.length<=n->bh.gens=#[] ->
   codeAny (model l.prog w) callerA (.call (.ref fa) ⟨[.ref a],[]⟩) (λr s'=>r=.ok (.ret (.bool true))/\OldK bh.heap s'.heap/\s'.os=bh.os/\AllBare s'.gens) bh) :
  WalkO q qh XP YP l.row.toRowW d [] (λf vs=>PySem.call f vs):=by
 intro w aT bh mg mb G Y fa o pm cd gF dV kV ho hd tN hD HM hg args JR as FG aeM hrd TN hlo;obtain rfl:dV=.none:=Dflts.none hD OE;obtain rfl:kV=.none:=Dflts.noKw hD;obtain⟨a,vs,ns,rfl,rfl,KD,B8,bN⟩:=zQ hn FG TN;refine enter_call (codeAny_mono (call w aT bh mg mb fa o pm cd gF a vs ns G Y ho (fd_plain hd) tN HM KD B8 bN hg) λr s' hq=>?_);obtain⟨rfl,h2,h3,h4⟩:=hq;exact⟨.inl ⟨.bool true,.bool true,[],rfl,λ_=>rfl,.bool true,zU l _,λ_=>⟨List.Pairwise.nil,λ_ hm=>(nomatch hm)⟩⟩,h2,h3,h4⟩
section
variable {prog:Program}{w:World}{A:Around}{E:Θ2}{s:Shared}{K:Frag}
end
end Att
namespace L2
open PySem PySem.Spec PyProof.Rows
theorem lX:∀{vs:Δ3}{ns:Γ3},IntsAre vs ns->aP (ns.map V.int) vs
 |_,_,.nil=>.nil
 |_,_,.cons n t h=>.cons ⟨t,rfl⟩ (lX h)
def KU (H:Hp):Prop:=∀b,H b=none\/∃o xs,H b=some (.jO o (.lst xs))
theorem D4 {P:Program}{w:World}{K:Θ1}{mg mb:Θ3}{CX:xw}{k:Nat}{fa a:Addr}{fd:FuncData}{x:Str}{sp:Sp}{bh:Shared}{vs:Δ3}{ns:Γ3}
  (KX:K.In bh.heap) (T7:bh.heap.Ns mainGlobals mg) (hb:bh.heap.Ns builtinsNs mb) (hbb:∀x:Str,x ≠ "__name__"->mb x=bootBuiltins x) (XC:bh.heap.NoLimit) (hg:bh.gens=#[])
  (ha:bh.heap.get? a=some { cls:=.type "list",data:=.seq vs.toArray }) (hi:IntsAre vs ns) (hl:ns.length<=sizeLine) (hr:cz k callerA)
  (F:∀base:Heap,K.In base->base.Ns mainGlobals mg->aJ P w K mg base CX k fa fd [x] sp) (RH:∀(s:Shared) (u:Value),BindsTo s fd ⟨[u],[]⟩ [(x,u)])
  (vG:∀H:Hp,KU H->bA K H a (ns.map V.int)->sp [.ref a] H (λv _=>v=.bl true) λ_ _ _=>False)
  (UF:∀H e s',CX [] H bh (λ_ _ _=>False) e s'->False) :
  codeAny (model P w) callerA (.call (.ref fa) ⟨[.ref a],[]⟩) (λr s'=>r=.ok (.ret (.bool true))/\OldK bh.heap s'.heap/\s'.os=bh.os/\AllBare s'.gens) bh:=by
 have rv:=lX hi;have WS:=hi.length;have QH:∀H:Hp,KU H->bA K H a (ns.map V.int)->jP P w H bh.heap->(∀b,H b≠none->b=a)->(H a≠none->K.lookup a=none) ->
   codeAny (model P w) callerA (.call (.ref fa) ⟨[.ref a],[]⟩) (λr s'=>r=.ok (.ret (.bool true))/\OldK bh.heap s'.heap/\s'.os=bh.os/\AllBare s'.gens) bh:=by
  intro H hO hS bt hA hK;have yP:∀{b:Addr}{o:Obj},bh.heap.get? b=some o->H b=none->(rA bh.heap H).get? b=some o:=λe n=>Eb e n
  have N5:∀{b:Addr}{o:Obj}{es:Array DictEntry}{ep:Nat},bh.heap.get? b=some o->o.data=.dict es ep->H b=none:=λ{b o es ep} e d=>by
   cases q:H b with
   |none=>rfl
   |some u =>
    have e':b=a:=hA b (by rw[q];simp);subst e';rw[ha] at e;cases e;have d':Data.seq vs.toArray _=Data.dict es ep:=d;cases d'
  have RY:∀{b:Addr}{m:Θ3},bh.heap.Ns b m->(rA bh.heap H).Ns b m:=λ{b m} ⟨o,es,ep,e,d,r⟩=>⟨o,es,ep,yP e (N5 e d),d,r⟩
  have ZZ:K.In (rA bh.heap H):=λb o e=>yP (KX b o e) (by
   cases q:H b with
   |none=>rfl
   |some u =>
    have e':b=a:=hA b (by rw[q];simp);subst e';rw[hK (by rw[q];simp)] at e;cases e)
  have hM:Mod K mg (rA bh.heap H):=⟨ZZ,RY T7,⟨mb,RY hb,hbb⟩,let ⟨mc,h1,h2⟩:=XC;⟨mc,RY h1,h2⟩⟩;have e0:vX P w K mg (rA bh.heap H) callerA [] bh H:=⟨rfl,hM,λb o e=>G6 e,Nat.le_of_eq (An _ _),trivial,λb hb=>absurd (show b∈([]:List Addr) from hb) (by simp),bt,.of_eq hg⟩;refine codeAny_mono ((F _ ZZ (RY T7)).run callerA [] bh H ⟨[.ref a],[]⟩ [.ref a] [.ref a] _ _ hr e0 (RH bh (.ref a)) (.cons rfl .nil) (vG H hO hS)) λr s' h=>?_
  cases r with
  |error e=>exact(UF H e s' h).elim
  |ok fl =>
   cases fl with
   |next=>exact False.elim h
   |brk=>exact False.elim h
   |cont=>exact False.elim h
   |ret u =>
    obtain⟨v,H',os,bare,un,W9,r',q⟩:=h;have q':v=.bl true:=q;subst q';obtain rfl:u=Value.bool true:=r';refine⟨rfl,OldK.of_keep λb o e=>?_,os,bare⟩;cases q:H b with
    |none=>exact un.keep b o e q (by intro z;exact absurd (show b∈([]:List Addr) from z) (by simp)) (by simp)
    |some u =>
     rcases hO b with z |⟨ob,xs,z⟩
     .rw[q] at z;cases z
     .have z2:=un.lN b ob _ z;obtain⟨e1,_⟩:=bt b _ z;obtain⟨e2,_⟩:=W9 b _ z2;rw[e] at e1;cases e1;exact e2
 cases hk:K.lookup a with
 |some o =>
  have e:=KX a o hk;rw[ha] at e;cases e;refine QH (λ_=>none) (λ_=>.inl rfl) (.inr ⟨_,vs.toArray,_,hk,rfl,rfl,rfl,by rw[Zt,WS];exact hl,by simpa using rv⟩) (λb u z=>by have z':(none:Option HO)=some u:=z;cases z') (λb z=>absurd rfl z) λz=>absurd rfl z
 |none =>
  refine QH (λb=>if b=a then some (.jO { cls:=.type "list",data:=.seq vs.toArray } (.lst (ns.map V.int))) else none) (λb=>?_) (.inl (.inr ⟨{ cls:=.type "list",data:=.seq vs.toArray },if_pos rfl⟩)) (λb u z=>?_) (λb z=>?_) λ_=>hk
  .by_cases hb:b=a
   .exact .inr ⟨_,_,if_pos hb⟩
   .exact .inl (if_neg hb)
  .by_cases hb:b=a
   .have z':=(if_pos hb).symm.trans z;cases z';subst hb;exact⟨ha,by rw[Zb];exact hl,vs,_,rv,ha⟩
   .have z':=(if_neg hb).symm.trans z;cases z'
  .by_cases hb:b=a
   .exact hb
   .exact absurd (if_neg hb) z
theorem FW {l:PySem.W.OpenLaw}{n k:Nat}{q:Program}{qh:Δ2}{XP:(Θ3)->Heap->Prop}{YP:World->Heap->Prop}{d:DefRec}{K:Params->Θ1}{CX:World->xw}{sp:World->Sp}{x:Str}
  (hn:l.most=some n) (Ua:n<=sizeLine) (OE:d.params.defaults=[]) (hr:cz k callerA)
  (hY:∀(w:World) (h:Heap),YP w h->(K w.params).In h)
  (F:∀(w:World) (mg:Θ3) (fa:Addr) (h:Heap),(K w.params).In h->h.Ns mainGlobals mg->mg d.name=some (.ref fa) ->
   ∃fd:FuncData,(∀(s:Shared) (u:Value),BindsTo s fd ⟨[u],[]⟩ [(x,u)]) /\
    ∀base:Heap,(K w.params).In base->base.Ns mainGlobals mg->aJ l.prog w (K w.params) mg base (CX w) k fa fd [x] (sp w))
  (vG:∀(w:World) (H:Hp) (a:Addr) (ns:Γ3),ns.length<=n->KU H->bA (K w.params) H a (ns.map V.int)->sp w [.ref a] H (λv _=>v=.bl true) λ_ _ _=>False)
  (UF:∀(w:World) (H:Hp) (s:Shared) (e:Value) (s':Shared),CX w [] H s (λ_ _ _=>False) e s'->False) :
  PySem.W.WalkO q qh XP YP l.row.toRowW d [] (λf vs=>PySem.call f vs):=by
 refine Att.vi hn OE λw aT bh mg mb fa o pm cd gF a vs ns G Y ho hd tN HM KD B8 bN hg=>?_
 have KX:=hY w _ Y;obtain⟨fd,hb,hF⟩:=F w mg fa _ KX G.T.g HM;exact D4 KX G.T.g G.T.b G.T.builtins G.T.nolimit hg KD B8 (Ye bN Ua) hr hF hb (λH hO hS=>vG w H a ns bN hO hS) λH e s'=>UF w H bh e s'
def vC (s:Stmt):Arguments:=match s with
 |.FunctionDef _ a _ _ _ _ _ _ _ _=>a
 |_=>{ posonlyargs:=[],args:=[],vararg:=none,kwonlyargs:=[],kw_defaults:=[],kwarg:=none,defaults:=[] }
def pZ (s:Stmt):List Stmt:=match s with
 |.FunctionDef _ _ b _ _ _ _ _ _ _=>b
 |_=>[]
def aS (s:Stmt):Scope:=match s with
 |.FunctionDef _ _ _ _ _ _ sc _ _ _=>sc
 |_=>{ kind:=.function,names:=[],isGenerator:=false,isCoroutine:=false }
abbrev cH:xw:=λ_ _ _ _ _ _=>False
abbrev E0:XK:=λ_ _ _=>False
theorem cw {X:Cx}:lV cH X E0:=λ_ _ _ _ _ _ _ h=>h.elim
structure cy (K:Θ1)(x qual:Str)(st:Stmt)(f:Addr)(fd:FuncData):Prop where
 ex:∃(oc:Value) (od:Option Addr) (kV gF pm:Value) (an:Option Addr) (bf ct:Value) (Ew:Array (Φ1)),
  fd=PySem.W.fnOf x qual (vC st) (pZ st) (aS st) .none kV gF pm an bf ct/\K.lookup f=some ⟨oc,od,.func fd,Ew⟩/\PySem.W.codeIn K bf qual=true
 kp:PySem.W.keepIn K (.ref f)=true
section
variable {P:Program}{w:World}{K:Θ1}{mg:Θ3}{base:Heap}
theorem cy.ok {x qual:Str}{st:Stmt}{f:Addr}{fd:FuncData}{N ps:Δ2}{k:Nat}{sp:Sp}(F:cy K x qual st f fd)(S:ao N ps (aS st))(len:∀vs H Q E,sp vs H Q E->vs.length=ps.length)
  (on:∀(bf:Value) (A:Around) (outer:List Env) (s:Shared) (H:Hp) (vs:List V) (Q:VK) (E:XK),cz k (A.deeper (envOfC qual (aS st) s.heap.objs.size f bf))->sp vs H Q E ->
   ∃t,iH (gI cH P w K mg base N qual (aS st) f bf A outer s H E).N4 (pZ st) t/\t { nx:=λ_ H'=>Q .bO H',rt:=Q } (start N vs) H):aJ P w K mg base cH (k+1) f fd ps sp:=by
 obtain⟨oc,od,kV,gF,pm,an,bf,ct,Ew,rfl,lk,tN⟩:=F.ex;refine IY lk tN S len λA outer s H vs Q E hr vG=>?_
 obtain⟨t,h,q⟩:=on bf A outer s H vs Q E hr vG;exact⟨t,h.N4,q⟩
theorem cy.binds {x qual:Str}{st:Stmt}{f:Addr}{fd:FuncData}{ps:Δ2}(F:cy K x qual st f fd)
  (h:∀(kV gF pm:Value) (an:Option Addr) (bf ct:Value) (us:Δ3),us.length=ps.length->bindArgs (PySem.W.fnOf x qual (vC st) (pZ st) (aS st) .none kV gF pm an bf ct) ⟨us,[]⟩=pure (ps.zip us)):Binds K fd ps []:=by
 obtain⟨oc,od,kV,gF,pm,an,bf,ct,Ew,rfl,lk,tN⟩:=F.ex;exact .all (h kV gF pm an bf ct)
theorem wu {x qual:Str}{st:Stmt}{f:Addr}{oc:Value}{od an:Option Addr}{Ew:Array (Φ1)}{kV gF pm bf ct:Value}(l:K.lookup f=some ⟨oc,od,.func (PySem.W.fnOf x qual (vC st) (pZ st) (aS st) .none kV gF pm an bf ct),Ew⟩)
  (c:PySem.W.codeIn K bf qual=true) (k:PySem.W.keepIn K (.ref f)=true):cy K x qual st f (PySem.W.fnOf x qual (vC st) (pZ st) (aS st) .none kV gF pm an bf ct):=⟨⟨oc,od,kV,gF,pm,an,bf,ct,Ew,rfl,l,c⟩,k⟩
end
theorem RF {A:Around}{k:Nat}(hr:cz k A):A.units+1<cLine:=Nat.lt_of_le_of_lt (Nat.add_le_add_left (by decide:1<=64) _) hr.units
section
variable {X:Cx}
theorem pv (i:Nat){x:Str}{pos:Pos}(hN:X.N[i]?=some x:=by rfl)(hv:NJ X.env.scope x:=by first |exact Or.inl rfl |exact Or.inr (Or.inl rfl) |exact Or.inr (Or.inr rfl))(hd:(x == ("__debug__" : Str))=false:=by decide)
  (tN:(x == ("__classdict__" : Str))=false:=by decide):PE X (.Name x pos) (mx i):=CC hN hv hd tN
end
theorem bC {A B:Prop}(h:B):if false=true then A else B:=by
 rw[if_neg Zy];exact h
theorem aU {A B:Prop}(h:A):if true=true then A else B:=by
 rw[if_pos rfl];exact h
theorem FE {c A B:Prop}[Decidable c](h1:c->A)(h2:¬ c->B):if c then A else B:=by
 by_cases h:c
 .rw[if_pos h];exact h1 h
 .rw[if_neg h];exact h2 h
def dH (env:Env):List (Str×NameKind)->List (Str×Addr)->List (Str×Addr)
 |[],acc=>acc
 |(n,k)::r,acc=>if k == .free then dH env r ((n,(env.cells.lookup n).getD 0)::acc) else dH env r acc
theorem l4 {env:Env}(f:Str×NameKind->List (Str×Addr)->Sem (ForInStep (List (Str×Addr))))
  (hf:∀n k cs,f (n,k) cs=if k == .free then (do let a <- cellOf env n;pure (.yield ((n,a)::cs))) else pure (.yield cs)) :
  ∀(names:List (Str×NameKind)) (acc:List (Str×Addr)),(∀x∈names,x.2=.free->(env.cells.lookup x.1).isSome=true)->forIn names acc f=pure (dH env names acc)
 |[],acc,_=>by rw[List.forIn_nil];rfl
 |(n,k)::r,acc,h=>by
  rw[List.forIn_cons,hf];unfold dH;have hr:∀x∈r,x.2=.free->(env.cells.lookup x.1).isSome=true:=λx hx=>h x (Zk _ hx)
  by_cases hk:(k == NameKind.free)=true
  .rw[if_pos hk,if_pos hk];have e:=h (n,k) Zo (by simpa using hk);obtain⟨c,hc⟩:=Xv.mp e;unfold cellOf;simp only at hc;rw[hc];simp only[pure_bind,Qj];exact l4 f hf r _ hr
  .rw[if_neg hk,if_neg hk,pure_bind];exact l4 f hf r _ hr
theorem N9 {scope:Scope}{env:Env}(h:∀x∈scope.names,x.2=.free->(env.cells.lookup x.1).isSome=true):closureFor scope env=pure (dH env scope.names []):=by
 show(forIn scope.names ([]:List (Str×Addr)) _ >>= λcs=>pure cs)=_;rw[l4 (env:=env) _ (λn k cs=>by cases hk:k == NameKind.free<;>simp[hk]) scope.names [] h];simp only[pure_bind]
theorem jo {env:Env}{x:Str}{c:Addr}:∀(names:List (Str×NameKind)) (acc:List (Str×Addr)),(∀x∈names,x.2=.free->(env.cells.lookup x.1).isSome=true) ->
  (dH env names acc).lookup x=some c->env.cells.lookup x=some c\/acc.lookup x=some c
 |[],_,_,e=>.inr e
 |(n,k)::r,acc,h,e=>by
  unfold dH at e;have hr:∀x∈r,x.2=.free->(env.cells.lookup x.1).isSome=true:=λx hx=>h x (Zk _ hx)
  by_cases hk:(k == NameKind.free)=true
  .rw[if_pos hk] at e;rcases jo r _ hr e with q |q
   .exact .inl q
   .rw[Xy] at q;cases hb:x == n with
    |true =>
     rw[hb] at q;have hx:x=n:=by simpa using hb
     obtain⟨c',hc⟩:=Xv.mp (h (n,k) Zo (by simpa using hk));simp only at hc;rw[hc] at q;subst hx;rw[hc];exact .inl (by simpa using q)
    |false=>rw[hb] at q;exact .inr q
  .rw[if_neg hk] at e;exact jo r _ hr e
theorem kZ {env:Env}{x:Str}:∀(names:List (Str×NameKind)) (acc:List (Str×Addr)),((x,NameKind.free)∈names\/(acc.lookup x).isSome=true)->((dH env names acc).lookup x).isSome=true
 |[],_,h=>h.elim (λe=>nomatch e) id
 |(n,k)::r,acc,h=>by
  unfold dH;by_cases hk:(k == NameKind.free)=true
  .rw[if_pos hk];refine kZ r _ ?_;rcases h with h |h
   .rcases Zf.mp h with e |h
    .cases e;exact .inr (by rw[Xy];simp)
    .exact .inl h
   .refine .inr ?_;rw[Xy];split
    .rfl
    .exact h
  .rw[if_neg hk];refine kZ r _ ?_;rcases h with h |h
   .rcases Zf.mp h with e |h
    .cases e;exact absurd (by decide) hk
    .exact .inl h
   .exact .inr h
theorem nw {x:Str}{c:Addr}:∀(names:List (Str×NameKind)) (k:Nat) (acc:List (Str×Addr)),(cellsFrom k names acc).lookup x=some c->k<=c\/(acc.lookup x=some c/\(x,NameKind.cell)∉names)
 |[],_,_,e=>.inr ⟨e,by simp⟩
 |(n,kd)::r,k,acc,e=>by
  unfold cellsFrom at e;by_cases hk:(kd == NameKind.cell)=true
  .rw[if_pos hk] at e;rcases nw r _ _ e with q |⟨q,nr⟩
   .exact .inl (by omega)
   .rw[Xy] at q;cases hb:x == n with
    |true=>rw[hb] at q;cases q;exact .inl (Ze _)
    |false =>
     rw[hb] at q;refine .inr ⟨q,λz=>?_⟩;rcases Zf.mp z with z |z
     .cases z;simp at hb
     .exact nr z
  .rw[if_neg hk] at e;rcases nw r _ _ e with q |⟨q,nr⟩
   .exact .inl q
   .refine .inr ⟨q,λz=>?_⟩;rcases Zf.mp z with z |z
    .cases z;exact hk (by simp)
    .exact nr z
theorem wx:∀(names:List (Str×NameKind)) (k:Nat) (acc:List (Str×Addr)),(∀p∈acc,p.2<k)->(∀p q,p∈acc->q∈acc->p.2=q.2->p.1=q.1)->∀p q,p∈cellsFrom k names acc->q∈cellsFrom k names acc->p.2=q.2->p.1=q.1
 |[],_,_,_,hi,p,q,hp,hq,e=>hi p q hp hq e
 |(n,kd)::r,k,acc,hb,hi,p,q,hp,hq,e=>by
  unfold cellsFrom at hp hq;by_cases hk:(kd == NameKind.cell)=true
  .rw[if_pos hk] at hp hq;refine wx r (k+1) ((n,k)::acc) (λz hz=>?_) (λy z hy hz e=>?_) p q hp hq e
   .rcases Zf.mp hz with rfl |hz
    .exact Nat.lt_succ_self _
    .exact Qq (hb z hz)
   .rcases Zf.mp hy with hy |hy<;>rcases Zf.mp hz with hz |hz
    .rw[hy,hz]
    .subst hy;exact absurd (hb z hz) (by rw[<- e];exact Yv _)
    .subst hz;exact absurd (hb y hy) (by rw[e];exact Yv _)
    .exact hi y z hy hz e
  .rw[if_neg hk] at hp hq;exact wx r k acc hb hi p q hp hq e
theorem sO:∀(names:List (Str×NameKind)) (h:Heap) (acc:List (Str×Addr)) (p:Str×Addr),p∈cellsFrom h.objs.size names acc->p∈acc\/((pushCells h names).IsCell p.2 none/\h.objs.size<=p.2)
 |[],_,_,_,e=>.inl e
 |(n,kd)::r,h,acc,p,e=>by
  unfold cellsFrom at e;unfold pushCells;by_cases hk:(kd == NameKind.cell)=true
  .rw[if_pos hk] at e ⊢;have hs:(h.push { cls:=.type "cell",data:=.cell none }).objs.size=h.objs.size+1:=Heap.size_push ..;rw[<- hs] at e;rcases sO r _ _ p e with q |⟨q,l⟩
   .rcases Zf.mp q with rfl |q
    .exact .inr ⟨Heap.IsCell.keeps ⟨_,Heap.get?_push_size _ rfl,rfl⟩ (pushCells_keeps _ _),Ze _⟩
    .exact .inl q
   .exact .inr ⟨q,by omega⟩
  .rw[if_neg hk] at e ⊢;exact sO r h acc p e
theorem gl {M:Model}{A:Around}{E:Θ2}{s:Shared}{scope:Scope}{globals:Addr}{cl:List (Str×Addr)}{qual:Str}{outer:Env}{Q:Env->Shared->Prop}
  (hQ:Q (newEnv scope s.heap.objs.size globals (cellsFrom (s.heap.objs.size+1) scope.names cl) qual none .none (some outer) builtinsNs) { s with heap:=pushCells (s.heap.push { cls:=.type "dict",data:=.dict #[] }) scope.names }) :
  wpAny M A (newFunctionEnv scope globals cl [] qual none .none (some outer)) Q E s:=by
 simp only[newFunctionEnv,Option.isSome_some,if_true];refine Za (wpAny_alloc ?_);refine Za (wpAny_layCells _ (λname kind cells=>by cases hkc:kind == NameKind.cell<;>simp[hkc]) _ _ _ _ ?_);rw[show({ s with heap:=s.heap.push { cls:=.type "dict",data:=.dict #[] } }:Shared).heap.objs.size=s.heap.objs.size+1 from Heap.size_push ..];rw[List.forIn_nil];exact Za (wpAny_pure (wpAny_pure hQ))
theorem qI {prog:Program}{w:World}{A:Around}{R:Result->Shared->Prop}{s:Shared}{c7 fH iter:Expr}{fg:Ξ2}{scope:Scope}{pos:Pos}{it acc:Value}{env:Env}(I:Nat->Shared->Prop)
  (turn:∀n s,I n s->wpAny (model prog w) A (pyNext it) (λr bh=>match r with
   |none=>R (.ok .next) bh
   |some v=>wpAny (model prog w) A (letOwnedTupleGo fH it v) (λ_ iU=>wpAny (model prog w) A (assign fH env v) (λ_ eJ =>
     wpAny (model prog w) A (forIn fg true λc r=>if r=true then do let ok <- isTrue c env (eval c env);pure (ForInStep.yield ok) else pure (ForInStep.yield r)) (λok cO =>
      if ok=true then wpAny (model prog w) A (eval c7 env) (λx ic =>
       wpAny (model prog w) A (call (.builtin "list.append") [acc,x]) (λ_ nG=>∃m,m<n/\I m nG) (λ_ _=>False) ic) (λ_ _=>False) cO
      else ∃m,m<n/\I m cO) (λ_ _=>False) eJ) (λ_ _=>False) iU) (λ_ _=>False) bh) (λ_ _=>False) s)
  (n:Nat) (h:I n s) :
  codeAny (model prog w) A (.compLoop (.ListComp c7 [⟨fH,iter,fg,0⟩] scope pos) 0 it acc env) R s:=by
 refine codeAny_loop rfl I (λn s hI=>?_) n h;show wpAny _ A ((compTurn (.ListComp c7 [⟨fH,iter,fg,0⟩] scope pos) 0 it acc env).onRaise (λx=>do noteFrame x env;theTreesLotGoes x)) _ _ s;refine wpAny_noted ?_;rw[compTurn_list];refine Za (wpAny_standAt (Za (wpAny_mono (turn n s hI) (λr bh lK=>?_) λ_ _ h'=>h'.elim)));cases r with
 |none=>exact wpAny_pure lK
 |some v =>
  refine Za (wpAny_mono lK (λ_ iU om=>?_) λ_ _ h'=>h'.elim);refine Za (wpAny_mono om (λ_ eJ nO=>Za (wpAny_mono nO (λok cO lJ=>?_) λ_ _ h'=>h'.elim)) λ_ _ h'=>h'.elim);cases ok with
  |false=>exact wpAny_pure ⟨rfl,lJ⟩
  |true =>
   exact Za (Za (wpAny_mono lJ (λx ic vU=>Za (wpAny_mono vU (λ_ nG vT=>wpAny_pure (wpAny_pure ⟨rfl,vT⟩)) λ_ _ h'=>h'.elim)) λ_ _ h'=>h'.elim))
def iC (scope:Scope)(C:Addr)(env:Env):Env:=compEnvC scope (cellsFrom (C+1) scope.names (dH env scope.names [])) C env
def gc (X:Cx)(scope:Scope)(C:Addr)(N:Δ2)(fp:List Addr)(s:Shared)(H:Hp):Cx where
 prog:=X.prog
 w:=X.w
 K:=X.K
 mg:=X.mg
 base:=X.base
 A:=X.A
 N:=N
 aT:=s
 aD:=H
 env:=iC scope C X.env
 outer:=X.stack
 stack:=X.stack
 ex:=fp
 fn:=λx=>decide ((x,NameKind.cell)∈scope.names)
 calm:=X.calm
 pn:=[]
 xe:=λ_ _=>False
def fo (X:Cx)(fg:Ξ2)(t:TT):Prop :=
 ∀(aa:Γ2) (s:Shared) (σ:St) (H:Hp) (Q:Bool->Hp->Prop),Inv X aa σ H s->t σ H Q ->
  wpAny (model X.prog X.w) X.A (forIn fg true λc r=>if r=true then do let ok <- isTrue c X.env (eval c X.env);pure (ForInStep.yield ok) else pure (ForInStep.yield r)) (TP X aa σ Q) X.xe s
def zl:TT:=λ_ H Q=>Q true H
theorem xp {X:Cx}:fo X [] zl:=λ_ s σ H Q I h=>wpAny_tests_nil ⟨H,I,h⟩
theorem fY {X:Cx}{c:Expr}{t:TT}(h:PT X c t):fo X [c] t:=λaa s σ H Q I q=>wpAny_tests_one (h aa s σ H Q I q)
def eF (own:Nat)(cap:List Nat)(σ:St):St:=List.replicate own none++cap.map λi=>(σ[i]?).getD none
structure az (X:Cx)(scope:Scope)(own:Δ2)(cap:Δ2)(ix:List Nat):Prop where
 kind:scope.kind=.function
 names:∀x∈scope.names,x.2=.local->scope.names.lookup x.1=some .local
 nd:(scope.names.map (·.1)).Nodup
 frees:∀x∈scope.names,x.2=.free->X.env.kindOf x.1=some .cell\/X.env.kindOf x.1=some .free
 XT:∀(j:Nat) (x:Str),cap[j]?=some x->(x,NameKind.free)∈scope.names
 at':∀(j:Nat) (x:Str),cap[j]?=some x->∃i,ix[j]?=some i/\X.N[i]?=some x
 len:cap.length=ix.length
theorem iu {env:Env}{scope:Scope}{x:Str}{k:NameKind}(h:(relabel scope env).names.lookup x=some k):(x,k)∈scope.names\/(k=.cell/\(x,NameKind.free)∈scope.names):=by
 have m:=PySem.mem_of_lookup h;obtain⟨⟨n,k'⟩,hm,e⟩:=Zh.mp m;simp only at e;split at e
 .rename_i hc;cases e;have:k'=NameKind.free:=by simp at hc;exact hc.1.1
  subst this;exact .inr ⟨rfl,hm⟩
 .cases e;exact .inl hm
theorem o9 {names:List (Str×NameKind)}(nd:(names.map (·.1)).Nodup){x:Str}{k k':NameKind}(h:(x,k)∈names)(h':(x,k')∈names):k=k':=by
 induction names with
 |nil=>cases h
 |cons p r ih =>
  rw[Yj,Yh] at nd;rcases Zf.mp h with e |h<;>rcases Zf.mp h' with e' |h'
  .rw[<- e'] at e;cases e;rfl
  .exact absurd (Zh.mpr ⟨_,h',by rw[<- e]⟩) nd.1
  .exact absurd (Zh.mpr ⟨_,h,by rw[<- e']⟩) nd.1
  .exact ih nd.2 h h'
section
variable {X:Cx}{aa:Γ2}{σ:St}{H:Hp}{s:Shared}{scope:Scope}{own cap:Δ2}{ix:List Nat}
theorem Inv.block (I:Inv X aa σ H s)(B:az X scope own cap ix){fp:List Addr}(hf:∀b∈fp,cR X aa H b)(ho:∀b∈fp,∃o,s.heap.get? b=some o) :
  Inv (gc X scope s.heap.objs.size (own++cap) fp s H) [] (eF own.length ix σ) H { s with heap:=pushCells (s.heap.push { cls:=.type "dict",data:=.dict #[] }) scope.names }:=by
 have has:∀x∈scope.names,x.2=.free->(X.env.cells.lookup x.1).isSome=true:=λx hx hk=>by
  obtain⟨c,e⟩:=I.ok.has x.1 (B.frees x hx hk);rw[e];rfl
 have keep:∀b o,s.heap.get? b=some o->(pushCells (s.heap.push { cls:=.type "dict",data:=.dict #[] }) scope.names).get? b=some o:=λb o e=>pushCells_keeps _ _ b o (Heap.get?_push_of_some _ e)
 have Ex:∀x c,X.env.cells.lookup x=some c->c<s.heap.objs.size:=λx c e=>let ⟨v,q⟩:=I.cell x c e;q.lt
 have sN:∀x c,(cellsFrom (s.heap.objs.size+1) scope.names (dH X.env scope.names [])).lookup x=some c->s.heap.objs.size+1<=c\/(X.env.cells.lookup x=some c/\(x,NameKind.cell)∉scope.names):=λx c e=>by
  rcases nw _ _ _ e with q |⟨q,nm⟩
  .exact .inl q
  .rcases jo _ _ has q with q |q
   .exact .inr ⟨q,nm⟩
   .cases q
 have nv:∀p∈dH X.env scope.names [],X.env.cells.lookup p.1=some p.2:=by
  have OT:∀(names:List (Str×NameKind)) (acc:List (Str×Addr)),(∀x∈names,x.2=.free->(X.env.cells.lookup x.1).isSome=true)->(∀p∈acc,X.env.cells.lookup p.1=some p.2)->∀p∈dH X.env names acc,X.env.cells.lookup p.1=some p.2:=by
   intro names;induction names with
   |nil=>intro acc _ h p hp;exact h p hp
   |cons y r ih =>
    intro acc h h2 p hp;obtain⟨n,k⟩:=y;unfold dH at hp;by_cases hk:(k == NameKind.free)=true
    .rw[if_pos hk] at hp;refine ih _ (λx hx=>h x (Zk _ hx)) (λq hq=>?_) p hp;rcases Zf.mp hq with rfl |hq
     .obtain⟨c,e⟩:=Xv.mp (h (n,k) Zo (by simpa using hk));simp only at e ⊢;rw[e];rfl
     .exact h2 q hq
    .rw[if_neg hk] at hp;exact ih _ (λx hx=>h x (Zk _ hx)) h2 p hp
  exact OT _ _ has (λp hp=>nomatch hp)
 have XR:∀x y c,(cellsFrom (s.heap.objs.size+1) scope.names (dH X.env scope.names [])).lookup x=some c->(cellsFrom (s.heap.objs.size+1) scope.names (dH X.env scope.names [])).lookup y=some c->x=y:=λx y c e1 e2 =>
  wx scope.names (s.heap.objs.size+1) (dH X.env scope.names []) (λp hp=>Qq (Ex p.1 p.2 (nv p hp)))
   (λp q hp hq e=>I.ok.inj p.1 q.1 p.2 (nv p hp) (by rw[e];exact nv q hq)) (x,c) (y,c) (PySem.mem_of_lookup e1) (PySem.mem_of_lookup e2) rfl
 have RK:∀x c,(cellsFrom (s.heap.objs.size+1) scope.names (dH X.env scope.names [])).lookup x=some c->∃v,(pushCells (s.heap.push { cls:=.type "dict",data:=.dict #[] }) scope.names).IsCell c v:=λx c e=>by
  have m:=PySem.mem_of_lookup e;have hs:(s.heap.push { cls:=.type "dict",data:=.dict #[] }).objs.size=s.heap.objs.size+1:=Heap.size_push ..;rw[<- hs] at m;rcases sO _ _ _ _ m with q |⟨q,_⟩
  .obtain⟨v,z⟩:=I.cell _ _ (nv _ q);exact⟨v,z.keeps keep⟩
  .exact⟨none,q⟩
 have QA:∀b∈fp,b<s.heap.objs.size:=λb hb=>let ⟨o,e⟩:=ho b hb;Heap.lt_size e
 refine⟨⟨I.ok.mod,?_,I.ok.glob,I.ok.blt,Ze _,XR,λx hx=>?_,λx c hfx e=>?_,I.ok.hd,I.ok.frames,.inl rfl,λb hb=>⟨?_,λx c e=>?_⟩,I.bs,Ye I.ok.AO I.sz,λb o e hb=>?_,λb hb hz=>?_,I.stack,I.se⟩,
  rfl,I.bare,Un.kept keep,⟨λ_=>none,(Heap.Ns.new s.heap (.type "dict")).keeps (pushCells_keeps _ _),λi x v h1 h2 h3=>?_⟩,RK,I.bt.fresh (Ze _),λx c e=>?_,λp hp=>absurd (show p∈([]:Γ2) from hp) (by simp),I.bt.kept keep,?_⟩
 .exact B.kind
 .have EK:(relabel scope X.env).names.lookup x=some .cell\/(relabel scope X.env).names.lookup x=some .free:=hx;have:((cellsFrom (s.heap.objs.size+1) scope.names (dH X.env scope.names [])).lookup x).isSome=true:=by
   have fr:(x,NameKind.free)∈scope.names->((cellsFrom (s.heap.objs.size+1) scope.names (dH X.env scope.names [])).lookup x).isSome=true:=λz=>PySem.W.cellsFrom_some _ _ _ (.inr (kZ _ _ (.inl z)))
   have ce:(x,NameKind.cell)∈scope.names->((cellsFrom (s.heap.objs.size+1) scope.names (dH X.env scope.names [])).lookup x).isSome=true:=λz=>by
    have OT:∀(names:List (Str×NameKind)) (k:Nat) (acc:List (Str×Addr)),(x,NameKind.cell)∈names->((cellsFrom k names acc).lookup x).isSome=true:=by
     intro names;induction names with
     |nil=>intro _ _ z;cases z
     |cons y r ih =>
      intro k acc z;obtain⟨n,kd⟩:=y;unfold cellsFrom;by_cases hk:(kd == NameKind.cell)=true
      .rw[if_pos hk];rcases Zf.mp z with e |z
       .cases e
        exact PySem.W.cellsFrom_some _ _ _ (.inr (by rw[Xy];simp))
       .exact ih _ _ z
      .rw[if_neg hk];rcases Zf.mp z with e |z
       .cases e;exact absurd (by decide) hk
       .exact ih _ _ z
    exact OT _ _ _ z
   rcases EK with q |q
   .rcases iu q with q |⟨_,q⟩
    .exact ce q
    .exact fr q
   .rcases iu q with q |⟨e,_⟩
    .exact fr q
    .cases e
  exact Xv.mp this
 .have hm:(x,NameKind.cell)∈scope.names:=of_decide_eq_true hfx;rcases sN x c e with q |⟨_,nm⟩
  .exact Ye (Xa _) q
  .exact absurd hm nm
 .exact Yd (QA b hb)
 .rcases sN x c e with q |⟨q,_⟩
  .exact Xj (Ya (QA b hb) (Ye (Xa _) q))
  .exact(hf b hb).2.2.2.2.1 x c q
 .rcases(hf b hb).2.2.2.1 with z |z
  .exact I.ok.tT b o e z
  .exact absurd (Ya (Heap.lt_size e) (Ye I.ok.AO z)) (Yv _)
 .rcases Zf.mp (I.lO b hz) with e |z
  .exact(hf b hb).2.1 e
  .exact(hf b hb).2.2.1 z
 .
  have h1:(own++cap)[i]?=some x:=h1;have hi:own.length<=i:=by
   by_cases hi:i<own.length
   .unfold eF at h2;rw[Zr (by simpa using hi),Qi,if_pos hi] at h2;cases h2
   .omega
  rw[Yt hi] at h1;unfold eF at h2;rw[Yt (by simpa using hi),Qo,Zg] at h2;obtain⟨j,hj,hN⟩:=B.at' _ _ h1;rw[hj] at h2;simp only[Xg,Option.some.injEq] at h2;have h2':σ[j]?=some (some v):=by
   cases q:σ[j]? with
   |none=>rw[q] at h2;simp at h2
   |some o=>rw[q] at h2;simp at h2;rw[h2]
  have fm:=B.XT _ _ h1;have kd:=B.frees _ fm rfl;obtain⟨m,hn,hl⟩:=I.loc;obtain⟨u,r,l⟩:=hl j x v hN h2' (by rcases kd with k |k;exact .inr (.inl k);exact .inr (.inr k));refine⟨u,r,.inr ?_⟩;have RJ:∃c,X.env.cells.lookup x=some c/\s.heap.IsCell c (some u):=by
   rcases l with ⟨k,_⟩ |⟨_,c,e,z⟩
   .simp only at kd;rw[k] at kd;rcases kd with k |k<;>cases k
   .exact⟨c,e,z⟩
  obtain⟨c,ec,zc⟩:=RJ;have Rv:(x,NameKind.cell)∉scope.names:=λz=>by have:=o9 B.nd z fm;cases this
  refine⟨?_,c,?_,zc.keeps keep⟩
  .have h3':(relabel scope X.env).names.lookup x=some .local\/(relabel scope X.env).names.lookup x=some .cell\/(relabel scope X.env).names.lookup x=some .free:=h3;rcases h3' with q |q |q
   .rcases iu q with q |⟨e,_⟩
    .have:=o9 B.nd q fm;cases this
    .cases e
   .exact .inl q
   .exact .inr q
  .show(cellsFrom (s.heap.objs.size+1) scope.names (dH X.env scope.names [])).lookup x=some c;obtain⟨c',e'⟩:=Xv.mp (PySem.W.cellsFrom_some (x:=x) scope.names (s.heap.objs.size+1) (dH X.env scope.names []) (.inr (kZ _ _ (.inl fm))));rw[e'];rcases nw _ _ _ e' with q |⟨q,_⟩
   .exfalso;have m:=PySem.mem_of_lookup e';have OT:∀(names:List (Str×NameKind)) (k:Nat) (acc:List (Str×Addr)),(x,NameKind.cell)∉names->(cellsFrom k names acc).lookup x=acc.lookup x:=by
     intro names;induction names with
     |nil=>intro _ _ _;rfl
     |cons y r ih =>
      intro k acc nm;obtain⟨n,kd⟩:=y;unfold cellsFrom;by_cases hk:(kd == NameKind.cell)=true
      .rw[if_pos hk,ih _ _ (λz=>nm (Zk _ z)),Xy];have:(x == n)=false:=by
        simp only[beq_eq_false_iff_ne];intro e;subst e;have:kd=.cell:=by simpa using hk
        subst this;exact nm Zo
       rw[this]
      .rw[if_neg hk,ih _ _ (λz=>nm (Zk _ z))]
    rw[OT _ _ _ Rv] at e';rcases jo _ _ has e' with z |z
    .exact absurd (Ya (Ex _ _ z) (Ye (Xa _) q)) (Yv _)
    .cases z
   .rcases jo _ _ has q with z |z
    .rw[ec] at z;rw[z]
    .cases z
 .rcases sN x c e with q |⟨q,_⟩
  .exact I.bt.fresh (Ye (Xa _) q)
  .exact I.fz x c q
 .unfold eF;show _=(own++cap).length;rw[Zn,Zn,Qo,Zb,B.len]
end
def cr (g:TG)(tt:TT)(te:TE)(J:It)(acc:Addr)(ak:St)(aD:Hp)(Q:VK):Prop :=
 ∃W:Nat->Nat->St->Hp->Prop,(∃m,W 0 m ak (aK aD acc (.lst [])))/\∀i m aC H',W i m aC H' ->
  (J.stop i H'/\Q (.ref acc) H') \/
  (J.go i H'/\∃N:St->Hp->Prop,(∀dg H2,N dg H2->∃m',m'<m/\W (i+1) m' dg H2)/\∀x H2,J.xl i H' x H2->g x aC H2 λju H3=>tt ju H3 λb H4 =>
   if b=true then te ju H4 λy H5=>∃ys,H5 acc=some (.lst ys)/\ys.length<sizeLine/\N ju (aK H5 acc (.lst (ys++[y]))) else N ju H4)
def tZ (wi:TI)(g:TG)(tt:TT)(te:TE)(own:Nat)(ix:List Nat):TE:=λσ H Q=>wi σ H λJ H1=>∀acc,H1 acc=none->cr g tt te J acc (eF own ix σ) H1 Q
section
variable {X:Cx}{scope:Scope}{own cap:Δ2}{ix:List Nat}{tg iter c7:Expr}{fg:Ξ2}{wi:TI}{g:TG}{tt:TT}{te:TE}{pos:Pos}
theorem qJ {aa:Γ2}{σ:St}{H2:Hp}{s2:Shared}{it:Addr}{fp:List Addr}{tn:Nat->Heap->Prop}{J:It}{Q:VK}{RR:Value->Addr->Result->Shared->Prop}{E:Θ2}
  (B:az X scope own cap ix) (hc:X.calm=true)
  (hb:∀C fp s H,PG (gc X scope C (own++cap) fp s H) tg g/\fo (gc X scope C (own++cap) fp s H) fg tt/\PE (gc X scope C (own++cap) fp s H) c7 te)
  (I2:Inv X aa σ H2 s2) (T:Turn X.prog X.w X.K tg J fp it tn) (gG:tn 0 s2.heap) (f2:∀b∈fp,cR X aa H2 b)
  (q:∀acc,H2 acc=none->cr g tt te J acc (eF own.length ix σ) H2 Q)
  (JE:∀D C H' s' m,Inv X aa σ H' s'->Q (.ref D) H'->s'.heap.Ns C m->cR X aa H' C->RR (.ref D) C (.ok .next) s') :
  wpAny (model X.prog X.w) X.A (newList []) (λacc cO=>wpAny (model X.prog X.w) X.A (newFunctionEnv scope X.env.globals (dH X.env scope.names []) [] X.env.qual none .none (some X.env)) (λnW ic =>
   codeAny (model X.prog X.w) X.A (.compStart (.ListComp c7 [⟨tg,iter,fg,0⟩] scope pos) 0 (.ref it) acc { nW with scope:=relabel scope X.env }) (RR acc nW.locals) ic) E cO) E s2:=by
 refine wpAny_newObj_type (gl ?_);have I3:Inv X aa σ (aK H2 s2.heap.objs.size (.lst [])) { s2 with heap:=s2.heap.push { cls:=.type "list",dict:=none,data:=.seq ([]:Δ3).toArray } }:=I2.Bk (its:=[]) (ys:=[]) (t':=s2.toks) .nil (Yn _);obtain⟨W,⟨m0,w0⟩,turn⟩:=q s2.heap.objs.size I2.fresh;generalize hD:s2.heap.objs.size=D at I3 w0 turn ⊢;have cG:∀b∈fp,b<D:=λb bv=>by
  obtain⟨o,e,_⟩:=T.obj 0 _ gG b bv;rw[<- hD];exact Heap.lt_size e
 generalize Jo:({ s2 with heap:=s2.heap.push { cls:=.type "list",dict:=none,data:=.seq ([]:Δ3).toArray } }:Shared)=s3 at I3 ⊢;have iY:∀b o,s2.heap.get? b=some o->s3.heap.get? b=some o:=λb o e=>by rw[<- Jo];exact Heap.get?_push_of_some _ e
 have f3:∀b∈fp,cR X aa (aK H2 D (.lst [])) b:=λb bv=>⟨by rw[dh (Yd (cG b bv))];exact(f2 b bv).1,(f2 b bv).2⟩
 have o3:∀b∈fp,∃o,s3.heap.get? b=some o:=λb bv=>let ⟨o,e,_⟩:=T.obj 0 _ gG b bv;⟨o,iY b o e⟩
 have I4:=I3.block B f3 o3;have AS:tn 0 (pushCells (s3.heap.push { cls:=.type "dict",data:=.dict #[] }) scope.names):=T.keep 0 _ _ gG λb _ o e=>pushCells_keeps _ _ b o (Heap.get?_push_of_some _ (iY b o e))
 obtain⟨hg,A3,he⟩:=hb s3.heap.objs.size fp s3 (aK H2 D (.lst []));generalize ib:gc X scope s3.heap.objs.size (own++cap) fp s3 (aK H2 D (.lst []))=X' at I4 hg A3 he;have eP:X'.prog=X.prog:=by rw[<- ib];rfl
 have eW:X'.w=X.w:=by rw[<- ib];rfl
 have eK:X'.K=X.K:=by rw[<- ib];rfl
 have eA:X'.A=X.A:=by rw[<- ib];rfl
 have eE:X'.env=iC scope s3.heap.objs.size X.env:=by rw[<- ib];rfl
 have ex:X'.xe=λ_ _=>False:=by rw[<- ib];rfl
 have jN:X'.calm=true:=by rw[<- ib];exact hc
 have ii:∀{H':Hp},(∀b∈fp,H' b=none)->∀b∈fp,cR X' [] H' b:=λhn b bv=>by
  subst ib;exact⟨hn b bv,(I4.ok.zf b bv).1,I4.ok.nR b bv,.inl bv,(I4.ok.zf b bv).2,λp hp=>absurd (show p∈([]:Γ2) from hp) (by simp)⟩
 have nM:∀s4:Shared,s4={ s3 with heap:=pushCells (s3.heap.push { cls:=.type "dict",data:=.dict #[] }) scope.names } ->
   codeAny (model X.prog X.w) X.A (.compLoop (.ListComp c7 [⟨tg,iter,fg,0⟩] scope pos) 0 (.ref it) (.ref D) (iC scope s3.heap.objs.size X.env)) (RR (.ref D) s3.heap.objs.size) s4:=by
  rintro s4 rfl;refine qI (λn s'=>∃i aC H',Inv X' [] aC H' s'/\tn i s'.heap/\(∀b∈fp,H' b=none)/\W i n aC H') ?_ m0 ⟨0,_,_,I4,AS,λb bv=>(f3 b bv).1,w0⟩;rintro n s5 ⟨i,nz,H5,I5,nB,ze,w5⟩;rcases turn i n nz H5 w5 with ⟨stop,qn⟩ |⟨go,N,hN,step⟩
  .have:=T.done X' eP eW eK jN i [] s5 nz H5 (λ_ _=>False) I5 (ii ze) nB stop;rw[eA] at this;refine bi this λr s6 ⟨hr,I6⟩=>?_
   subst hr;subst ib;have J6:Inv X aa σ H5 s6:=I3.ql (ch:=fp) I6.os I6.base I6.bt I6.bare λb bv=>⟨(f3 b bv).2.2.2.1,(f3 b bv).2.1,(f3 b bv).2.2.2.2.1,(f3 b bv).2.2.2.2.2⟩
   obtain⟨m,hn,_⟩:=I6.loc;exact JE D _ H5 s6 m J6 qn hn (I3.jL (Ze _) I6.free)
  .have:=T.item X' eP eW eK jN i [] s5 nz H5 (λ_ _=>False) I5 (ii ze) nB go;rw[eA] at this;refine bi this λr s6 ⟨u,hr,h6⟩=>?_
   subst hr;refine bi h6 λ_ s7 ⟨x,H7,I7,r7,y7,vz,JG⟩=>?_
   have JN:=I7.pinned (ii JG) (T.obj _ _ vz);have a1:=hg _ s7 nz H7 x u _ JN r7 (step x H7 y7);rw[eP,eW,eA,eE,ex] at a1;refine bi a1 λ_ s8 ⟨vj,H8,I8,q8⟩=>?_
   have a2:=A3 _ s8 vj H8 _ I8 q8;rw[eP,eW,eA,eE,ex] at a2;refine bi a2 λb s9 ⟨H9,I9,q9⟩=>?_
   have again:∀{s':Shared}{aC:St}{H':Hp},Inv X' ([]++dJ fp s7.heap) aC H' s'->N aC H'->∃m,m<n/\∃i aC H',Inv X' [] aC H' s'/\tn i s'.heap/\(∀b∈fp,H' b=none)/\W i m aC H':=λ{s' aC H'} I' n'=>by
    obtain⟨m',hm,w'⟩:=hN aC H' n';refine⟨m',hm,i+1,aC,H',I'.df,T.keep _ _ _ vz λb bv o e=>(I'.pin (b,o) (Zq _ (Zq _ (AK bv e)))).1,λb bv=>?_,w'⟩;obtain⟨o,e,d⟩:=T.obj _ _ vz b bv;exact(I'.pin (b,o) (Zq _ (Zq _ (AK bv e)))).2.1
   cases b with
   |false=>exact again I9 q9
   |true =>
    rw[if_pos rfl] at q9 ⊢;have a3:=he _ s9 vj H9 _ I9 q9;rw[eP,eW,eA,eE,ex] at a3;refine bi a3 λyv Nt ⟨y,OY,OX,NX,ys,Oe,hz,NZ⟩=>?_
    have a4:=jG (X:=X') _ Nt vj OY (.ref D) [y] (.ref D) [yv] (λv H'=>v=.bO/\N vj H') OX rfl (.cons NX .nil) ⟨D,ys,y,rfl,rfl,Oe,hz,rfl,NZ⟩;rw[eP,eW,eA,ex] at a4;refine bi a4 λ_ NT ⟨_,V9,JO,_,_,NY⟩=>again JO NY
 exact codeAny_compStart_list (nM _ rfl) (T.self X.A 0 _ _ _ AS (nM _ rfl))
theorem tJ (B:az X scope own cap ix)(hc:X.calm=true)(hi:PI X tg iter wi)
  (hb:∀C fp s H,PG (gc X scope C (own++cap) fp s H) tg g/\fo (gc X scope C (own++cap) fp s H) fg tt/\PE (gc X scope C (own++cap) fp s H) c7 te)
  (hs:∀x,foldedSetIterable iter X.env x=pure x:=by intro _;rfl):PE X (.ListComp c7 [⟨tg,iter,fg,0⟩] scope pos) (tZ wi g tt te own.length ix):=by
 intro aa s σ H Q I h;rw[eval_ListComp];have has:∀x∈scope.names,x.2=.free->(X.env.cells.lookup x.1).isSome=true:=λx hx hk=>by
  obtain⟨c,e⟩:=I.ok.has x.1 (B.frees x hx hk);rw[e];rfl
 refine wpAny_comprehension_free (use:=none) rfl hs (N9 has) B.kind B.names ?_;show wpAny _ _ (eval iter X.env) _ _ s;refine bi (hi aa s σ H _ I h) λv s1 h1=>bi h1 λEI s2 h2=>?_
 obtain⟨it,fp,tn,J,H2,e,I2,T,gG,f2,q⟩:=h2;subst e;refine qJ (RR:=λacc C=>compPost (model X.prog X.w) X.A X.xe none (EP X aa σ Q) acc C) B hc hb I2 T gG f2 q ?_;intro D C H' s' m I' q' hn fC;refine⟨m,hn,λh' vH=>⟨.ref D,H',?_,rfl,q'⟩⟩;exact I'.turned (t':=s'.toks) (it:=C) (λb o Fb e=>(vH.2 b Fb).trans e) fC.1 fC.2.1 fC.2.2.2.1 fC.2.2.2.2.1 fC.2.2.2.2.2
theorem yd {i:Nat}{y:Str}{py tQ:Pos}(hN:X.N.Nodup)(Oy:X.N[i]?=some y)(hx:X.env.scope.names.lookup y=some .local)(B:az X scope own cap ix)(hc:X.calm=true)(hi:PI X tg iter wi)
  (hb:∀C fp s H,PG (gc X scope C (own++cap) fp s H) tg g/\fo (gc X scope C (own++cap) fp s H) fg tt/\PE (gc X scope C (own++cap) fp s H) c7 te)
  (Oh:swapsWith (.ListComp c7 [⟨tg,iter,fg,0⟩] scope pos) (some (.Name y py)) tQ.line X.env=pure true:=by rfl)
  (hs:∀x,foldedSetIterable iter X.env x=pure x:=by intro _;rfl):PS X (.Assign [.Name y py] (.ListComp c7 [⟨tg,iter,fg,0⟩] scope pos) tQ) (Fj (tZ wi g tt te own.length ix) (cA i)):=by
 intro aa s σ H D I h;rw[exec_Assign_Name_used _ _ _ _ Oh];have has:∀x∈scope.names,x.2=.free->(X.env.cells.lookup x.1).isSome=true:=λx hx hk=>by
  obtain⟨c,e⟩:=I.ok.has x.1 (B.frees x hx hk);rw[e];rfl
 refine Za (wpAny_standAt (Za ?_));show wpAny _ X.A (do let _ <- comprehension (.ListComp c7 [⟨tg,iter,fg,0⟩] scope pos) scope X.env _ (newList []) false (eval iter X.env) (some (assign (.Name y py) X.env))) _ _ s;refine Za (wpAny_mono (wpAny_comprehension_free (use:=some (assign (.Name y py) X.env)) (Q:=λ_ s'=>SP X aa D .next s') rfl hs (N9 has) B.kind B.names ?_) (λ_ s' hq=>wpAny_pure (wpAny_pure hq)) λ_ _ e=>e);refine bi (hi aa s σ H _ I h) λv s1 h1=>bi h1 λEI s2 h2=>?_
 obtain⟨it,fp,tn,J,H2,e,I2,T,gG,f2,q⟩:=h2;subst e;refine qJ (RR:=λacc C=>compPost (model X.prog X.w) X.A X.xe (some (assign (.Name y py) X.env)) (λ_ s'=>SP X aa D .next s') acc C) B hc hb I2 T gG f2 q ?_;intro Da C H' s' m I' q' hn fC;show wpAny _ X.A (assign (.Name y py) X.env (.ref Da)) _ _ s';obtain⟨oC,es,ep,hoC,Ux,r⟩:=id hn;have Ip:Inv X (aa++[(C,oC)]) σ H' s':=I'.ss λp hp=>by
  rcases Zp.mp hp with z |z
  .exact I'.pin p (Zq _ z)
  .obtain rfl:p=(C,oC):=by simpa using z
   exact⟨hoC,fC.1,fC.2.1,fC.2.2.1,λv e=>by rw[Ux] at e;cases e⟩
 refine wpAny_assign_Name (E2 Ip hN Oy (.inl hx) (v:=.ref Da) rfl (λNU υ=>?_) (.inr hx));have pC:=(υ.pin (C,oC) (Zq _ (Zq _ (by simp)))).1;refine⟨m,⟨oC,es,ep,pC,Ux,r⟩,λh' vH=>⟨_,H',?_,q'⟩⟩;exact υ.df.turned (t':=NU.toks) (it:=C) (λb o Fb e=>(vH.2 b Fb).trans e) fC.1 fC.2.1 fC.2.2.2.1 fC.2.2.2.2.1 fC.2.2.2.2.2
end
def tv:V->Bool
 |.bl b=>b
 |.int i=>i != 0
 |_=>false
def de:V->Bool
 |.bl _=>true
 |.int _=>true
 |.bO=>true
 |_=>false
theorem k7 {prog:Program}{w:World}{A:Around}{E:Θ2}{s:Shared}{x:V}{v:Value}{Q:Bool->Shared->Prop}(r:RelV x v)(p:de x=true)(h:Q (tv x) s):wpAny (model prog w) A (truthy v) Q E s:=by
 cases x with
 |bO=>cases r;exact truthy_none h
 |bl b=>cases r;exact wpAny_truthy_bool h
 |int i=>obtain⟨t,rfl⟩:=r;exact PySem.P.truthy_int h
 |_=>cases p
theorem all_range {xs:List V}{n:Nat}(hn:n=xs.length)(f:V->Bool):(List.range n).all (λi=>(xs[i]?.map f).getD true)=xs.all f:=by
 subst hn;rw[Yp];simp only[Zu,Zm];constructor
 .intro h x hx;obtain⟨i,hi,e⟩:=List.mem_iff_getElem.mp hx;have:=h i hi;rw[Zc hi,e] at this;simpa using this
 .intro h i hi;rw[Zc hi];simpa using h _ (Zv hi)
theorem any_range {xs:List V}{n:Nat}(hn:n=xs.length)(f:V->Bool):(List.range n).any (λi=>(xs[i]?.map f).getD false)=xs.any f:=by
 subst hn;rw[Yp];simp only[Xb,Zm];constructor
 .rintro⟨i,hi,h⟩;rw[Zc hi] at h;exact⟨_,Zv hi,by simpa using h⟩
 .rintro⟨x,hx,h⟩;obtain⟨i,hi,e⟩:=List.mem_iff_getElem.mp hx;exact⟨i,hi,by rw[Zc hi,e];simpa using h⟩
section
variable {X:Cx}
theorem kX {aa:Γ2}{σ:St}{H:Hp}{s:Shared}{p:Addr}{xs:List V}{A:Around}{E:Θ2}{Q:Θ2}(I:Inv X aa σ H s)(hA:A.handled=none)(h:bA X.K H p xs\/aG X.K H p xs)
  (k:∀(it:Addr) (fp wr:List Addr) (its:Δ3) (St:Nat->Heap->Prop) (s2:Shared),aP xs its->Walks X.prog X.w A it fp wr its.length (λi v=>its[i]?=some v) St->St 0 s2.heap->(∀b∈fp,b<s2.heap.objs.size) ->
   (∀h' tk,(∀b o,b∉wr->s2.heap.get? b=some o->h'.get? b=some o)->Inv X aa σ H { s2 with heap:=h',toks:=tk })->Q (.ref it) s2) :
  wpAny (model X.prog X.w) A (pyIter (.ref p)) Q E s:=by
 rcases h with h |h
 .obtain⟨its,rv,pl,hz⟩:=I.list h;have hp:p<s.heap.objs.size:=by obtain⟨o,n,e,_⟩:=pl;exact Heap.lt_size e
  refine wpAny_pyIter_list pl.isList ?_;have W:=Walks.list (prog:=X.prog) (w:=X.w) (A:=A) hA s.heap.objs.size p (Yd hp) its.toArray;refine k s.heap.objs.size [s.heap.objs.size,p] [s.heap.objs.size] its (λi h=>h.IsListIter s.heap.objs.size p i/\h.IsList p its.toArray) _ rv (by simpa using W) ⟨⟨_,Heap.get?_push_size _ rfl,rfl,rfl⟩,pl.isList.push _⟩ (λb hb=>?_) (λh' tk hk=>?_)
  .show b<(s.heap.push _).objs.size;rw[Heap.size_push];rcases Zf.mp hb with rfl |hb
   .exact Nat.lt_succ_self _
   .rcases Zf.mp hb with rfl |hb
    .exact Qq hp
    .cases hb
  .exact I.kept (t':=tk) λb o e=>hk b o (λz=>Yv _ (by have:=Heap.lt_size e;simp at z;rw[z] at this;exact this)) (Heap.get?_push_of_some _ e)
 .obtain⟨its,rv,pl,hz⟩:=I.tuple h;have hp:p<s.heap.objs.size:=by obtain⟨o,e,_⟩:=pl;exact Heap.lt_size e
  have pt:s.heap.IsTuple p its.toArray:=pl;refine wpAny_pyIter_tuple pt ?_;have W:=Walks.tuple (prog:=X.prog) (w:=X.w) (A:=A) hA s.heap.objs.size p (Yd hp) its.toArray;refine k s.heap.objs.size [s.heap.objs.size,p] [s.heap.objs.size] its (λi h=>h.IsTupleIter s.heap.objs.size p i/\h.IsTuple p its.toArray) _ rv (by simpa using W) ⟨⟨_,Heap.get?_push_size _ rfl,rfl,rfl⟩,?_⟩ (λb hb=>?_) (λh' tk hk=>?_)
  .obtain⟨o,e,r⟩:=pt;exact⟨o,Heap.get?_push_of_some _ e,r⟩
  .show b<(s.heap.push _).objs.size;rw[Heap.size_push];rcases Zf.mp hb with rfl |hb
   .exact Nat.lt_succ_self _
   .rcases Zf.mp hb with rfl |hb
    .exact Qq hp
    .cases hb
  .exact I.kept (t':=tk) λb o e=>hk b o (λz=>Yv _ (by have:=Heap.lt_size e;simp at z;rw[z] at this;exact this)) (Heap.get?_push_of_some _ e)
theorem aP.at {xs:List V}{us:Δ3}{i:Nat}{v:Value}(r:aP xs us)(e:us[i]?=some v):∃x,xs[i]?=some x/\RelV x v:=by
 have hi:i<us.length:=(Zd.mp e).1;have hx:i<xs.length:=by rw[r.length];exact hi
 obtain⟨u,h1,h2⟩:=r.get (Zc hx);rw[e] at h1;cases h1;exact⟨_,Zc hx,h2⟩
theorem Eo (hc:X.calm=true):cc X (.builtin "all") (λxs H Q=>∃p ys,xs=[.ref p]/\(bA X.K H p ys\/aG X.K H p ys)/\ys.all de=true/\Q (.bl (ys.all tv)) H):=by
 intro aa s σ H xs us Q I r h;obtain⟨p,ys,rfl,hs,hp,q⟩:=h;obtain⟨u,rfl,ru⟩:=vals1 r;cases ru;refine call_all_walk (kX I (A:=X.A.in1) (I.ok.hd hc) hs λit fp wr its St s2 rv W st OA hk=>?_);refine⟨it,fp,wr,its.length,_,St,(λi=>(ys[i]?.map tv).getD true),rfl,W,st,λi v s' Q' E' hv hq=>?_,λh' tk kk=>⟨.bl (ys.all tv),H,hk h' tk kk,?_,q⟩⟩
 .obtain⟨x,ex,rx⟩:=rv.at hv;simp only[ex,Xg,Qj] at hq;exact k7 rx (Zu.mp hp x (Yc ex)) hq
 .rw[all_range rv.length.symm];rfl
theorem En (hc:X.calm=true):cc X (.builtin "any") (λxs H Q=>∃p ys,xs=[.ref p]/\(bA X.K H p ys\/aG X.K H p ys)/\ys.all de=true/\Q (.bl (ys.any tv)) H):=by
 intro aa s σ H xs us Q I r h;obtain⟨p,ys,rfl,hs,hp,q⟩:=h;obtain⟨u,rfl,ru⟩:=vals1 r;cases ru;refine call_any_walk (kX I (A:=X.A.in1) (I.ok.hd hc) hs λit fp wr its St s2 rv W st OA hk=>?_);refine⟨it,fp,wr,its.length,_,St,(λi=>(ys[i]?.map tv).getD false),rfl,W,st,λi v s' Q' E' hv hq=>?_,λh' tk kk=>⟨.bl (ys.any tv),H,hk h' tk kk,?_,q⟩⟩
 .obtain⟨x,ex,rx⟩:=rv.at hv;simp only[ex,Xg,Qj] at hq;exact k7 rx (Zu.mp hp x (Yc ex)) hq
 .rw[any_range rv.length.symm];rfl
theorem ml (ns:Γ3):∀k,k<=ns.length->preSum (λi=>(ns[i]?).getD 0) k=(ns.take k).sum
 |0,_=>by simp[preSum]
 |k+1,h=>by
  have hk:k<ns.length:=h;rw[preSum,ml ns k (Nat.le_of_lt hk),Zc hk];have e:ns.take (k+1)=ns.take k++[ns[k]]:=by rw[Xz,Zc hk];rfl
  rw[e,Qa];simp
theorem Em (hc:X.calm=true):cc X (.builtin "sum") (λxs H Q=>∃(p:Addr) (ns:Γ3),xs=[.ref p]/\(bA X.K H p (ns.map V.int)\/aG X.K H p (ns.map V.int))/\Q (.int ns.sum) H):=by
 intro aa s σ H xs us Q I r h;obtain⟨p,ns,rfl,hs,q⟩:=h;obtain⟨u,rfl,ru⟩:=vals1 r;cases ru;refine call_sum_walkG (kX I (A:=X.A.in1) (I.ok.hd hc) hs λit fp wr its St s2 rv W st OA hk=>?_);refine⟨it,fp,wr,its.length,_,St,(λi=>(ns[i]?).getD 0),rfl,W,st,OA,λi v hv=>?_,λh' tk t' kk=>⟨.int ns.sum,H,hk h' tk kk,⟨t',?_⟩,q⟩⟩
 .obtain⟨x,ex,rx⟩:=rv.at hv;rw[Zg] at ex;cases e:ns[i]? with
  |none=>rw[e] at ex;cases ex
  |some n =>
   rw[e] at ex;cases ex;simp only[e,Qj];exact rx
 .have hl:its.length=ns.length:=by rw[<- rv.length,Zb]
  rw[hl,ml ns _ (Ze _),Yz]
theorem AB (hc:X.calm=true):cc X (.builtin "max") (λxs H Q=>∃(p:Addr) (ns:Γ3),xs=[.ref p]/\(bA X.K H p (ns.map V.int)\/aG X.K H p (ns.map V.int))/\ns≠[]/\∀m,m∈ns->(∀n∈ns,n<=m)->Q (.int m) H):=by
 intro aa s σ H xs us Q I r h;obtain⟨p,ns,rfl,hs,cX,q⟩:=h;obtain⟨u,rfl,ru⟩:=vals1 r;cases ru;refine call_max_walk (kX I (A:=X.A.in1) (I.ok.hd hc) hs λit fp wr its St s2 rv W st OA hk=>?_);have hl:its.length=ns.length:=by rw[<- rv.length,Zb]
 have dE:0<ns.length:=List.length_pos_iff.mpr cX;have val:∀(i:Nat) (v:Value),its[i]?=some v->∃t,v=Value.int ((ns[i]?).getD 0) t:=λi v hv=>by
  obtain⟨x,ex,rx⟩:=rv.at hv;rw[Zg] at ex;cases e:ns[i]? with
  |none=>rw[e] at ex;cases ex
  |some n =>
   rw[e] at ex;cases ex;exact rx
 refine⟨it,fp,wr,its.length,_,St,(λi j=>decide ((ns[i]?).getD 0>(ns[j]?).getD 0)),rfl,W,st,OA,by omega,CmpOf.ints_gt (λi=>(ns[i]?).getD 0) val,λv h' tk hP kk=>?_⟩;obtain⟨t,rfl⟩:=val _ _ hP;obtain⟨h1,h2⟩:=argBest_gt (λi=>(ns[i]?).getD 0) (its.length-1);have cG:argBest (λi j=>decide ((ns[i]?).getD 0>(ns[j]?).getD 0)) (its.length-1)<ns.length:=by
  omega
 refine⟨.int _,H,hk h' tk kk,⟨t,rfl⟩,q _ ?_ λn hn=>?_⟩
 .rw[Zc cG];exact Zv cG
 .obtain⟨i,hi,e⟩:=List.mem_iff_getElem.mp hn;have:=h2 i (by omega);simp only[Zc hi,Qj] at this;rw[<- e];exact this
end
def JY (K:Θ1)(c:Value)(te:TE):TE:=λσ H Q=>te σ H λx H1=>∃t b,iS K H1 x t/\PySem.W.kitOne K t c=some b/\Q (.bl b) H1
section
variable {X:Cx}{e:Expr}{te:TE}
theorem J0 {a b:Expr}{ta:TE}{pos:Pos}{aa:Γ2}{s:Shared}{σ:St}{H:Hp}{Q:Δ3->Shared->Prop}(ha:PE X a ta)(I:Inv X aa σ H s){R:V->Hp->Prop}(h:ta σ H R)
  (hs:starEach [a,b] X.env=[(false,eval a X.env),(false,eval b X.env)]) (k:∀u s1 x H1,Inv X aa σ H1 s1->RelV x u->R x H1->wpAny (model X.prog X.w) X.A (eval b X.env) (λv s2=>Q [u,v] s2) X.xe s1) :
  wpAny (model X.prog X.w) X.A (spliced (backTo pos (starEach [a,b] X.env))) Q X.xe s:=by
 rw[hs];refine Calls.spliced_cons (bi (ha aa s σ H _ I h) λu s1 ⟨x,H1,I1,r,q⟩=>?_);exact Calls.spliced_cons (bi (k u s1 x H1 I1 r q) λv s2 h2=>Calls.spliced_nil h2)
theorem GK {T:Str}{n:String}{p p2 pos:Pos}(he:PE X e te)(hg:Gl X "isinstance")(hm:X.mg "isinstance"=none)(A4:Gl X T)(A2:X.mg T=none)(hv:bootBuiltins T=some (.type n))
  (hb:bootBuiltins "isinstance"=some (.builtin "isinstance")) (Om:T ≠ "__name__":=by decide) (Jy:(T == ("__debug__" : Str))=false:=by decide)
  (hs:starEach [e,.Name T p2] X.env=[(false,eval e X.env),(false,eval (.Name T p2) X.env)]:=by rfl)
  (et:(backTo pos (starEach [.Name T p2] X.env)).any (·.1)=false:=by rfl):PE X (.Call (.Name "isinstance" p) [e,.Name T p2] [] pos) (JY X.K (.type n) te):=by
 intro aa s σ H Q I h;refine Call_ (fQ I hg hm hb (PyProof.Rows.callWith_builtin1 (J0 (Q:=λus s1=>wpAny (model X.prog X.w) X.A (call (.builtin "isinstance") us) (EP X aa σ Q) X.xe s1) he I h hs λu s1 x H1 I1 r q=>?_) ?_ et))
 .refine fQ I1 A4 A2 hv ?_ Om Jy;obtain⟨t,b,ty,ek,q⟩:=q;exact Am I1 r ty ek λtk=>⟨.bl b,H1,I1.tok tk,rfl,q⟩
 .rw[hs];rfl
end
mutual
inductive mW (K:Θ1) (H:Hp):V->PyData->Prop
 |bO:mW K H .bO .none
 |bl (b:Bool):mW K H (.bl b) (.bool b)
 |int (i:Int):mW K H (.int i) (.int i)
 |str (x:Str) (ok:(PyData.str x).canLay0=true):mW K H (.str x) (.str x)
 |lst {a:Addr}{xs:List V}{ds:Ξ1}:bA K H a xs->ft K H xs ds->mW K H (.ref a) (.list ds)
 |tup {a:Addr}{xs:List V}{ds:Ξ1}:aG K H a xs->ft K H xs ds->mW K H (.ref a) (.tuple ds)
inductive ft (K:Θ1) (H:Hp):List V->Ξ1->Prop
 |nil:ft K H [] []
 |cons {x:V}{xs:List V}{d:PyData}{ds:Ξ1}:mW K H x d->ft K H xs ds->ft K H (x::xs) (d::ds)
end
section
variable {X:Cx}{aa:Γ2}{σ:St}{H:Hp}{s:Shared}
mutual
theorem mW.reads (I:Inv X aa σ H s):∀{x:V}{d:PyData}{u:Value},mW X.K H x d->RelV x u->∃as,Reads s.heap u d as
 |_,_,_,.bO,r=>by cases r;exact⟨_,.none⟩
 |_,_,_,.bl b,r=>by cases r;exact⟨_,.bool b⟩
 |_,_,_,.int i,r=>by obtain⟨t,rfl⟩:=r;exact⟨_,.int i t⟩
 |_,_,_,.str x _,r=>by obtain⟨t,rfl⟩:=r;exact⟨_,.str x t⟩
 |_,_,_,.lst hq h,r=>by
  cases r
  obtain⟨its,rv,⟨o,n,e,c,_,d⟩,_⟩:=I.list hq;obtain⟨as,ra⟩:=ft.reads I h rv;exact⟨_,.list e c d (by simpa using ra)⟩
 |_,_,_,.tup hq h,r=>by
  cases r
  obtain⟨its,rv,⟨o,e,c,n,d⟩,_⟩:=I.tuple hq;obtain⟨as,ra⟩:=ft.reads I h rv;exact⟨_,.tuple e c d (by simpa using ra)⟩
theorem ft.reads (I:Inv X aa σ H s):∀{xs:List V}{ds:Ξ1}{us:Δ3},ft X.K H xs ds->aP xs us->∃as,ReadsAll s.heap us ds as
 |_,_,_,.nil,r=>by cases r;exact⟨_,.nil⟩
 |_,_,_,.cons h t,r=>by
  cases r with
  |cons r1 r2 =>
   obtain⟨as,ra⟩:=mW.reads I h r1;obtain⟨bs,rb⟩:=ft.reads I t r2;exact⟨_,.cons ra rb⟩
end
mutual
theorem mW.lay {K:Θ1}:∀{x:V}{d:PyData},mW K H x d->d.canLay0=true
 |_,_,.bO=>rfl
 |_,_,.bl b=>rfl
 |_,_,.int i=>rfl
 |_,_,.str x ok=>ok
 |_,_,.lst hq h=>by have:=ft.lay h;simpa[PyData.canLay0] using this
 |_,_,.tup hq h=>by have:=ft.lay h;simpa[PyData.canLay0] using this
theorem ft.lay {K:Θ1}:∀{xs:List V}{ds:Ξ1},ft K H xs ds->PyData.canLayAll0 ds=true
 |_,_,.nil=>rfl
 |_,_,.cons h t=>by have h1:=mW.lay h;have h2:=ft.lay t;simp[PyData.canLayAll0,h1,h2]
end
end
section
variable {X:Cx}
def Fw (K:Θ1):R2:=λx y H Q=>∃dx dy,mW K H x dx/\mW K H y dy/\min dx.depth dy.depth<=60/\Q (.bl (PyData.eqv dx dy)) H
def Fv (K:Θ1):R2:=λx y H Q=>∃dx dy,mW K H x dx/\mW K H y dy/\min dx.depth dy.depth<=60/\Q (.bl (!PyData.eqv dx dy)) H
theorem LV (hu:X.A.units+64<cLine):d8 X (compareOp .Eq) (Fw X.K):=by
 intro aa s σ H x y v u Q I rx ry h;obtain⟨dx,dy,hx,hy,hd,q⟩:=h;obtain⟨as,ra⟩:=hx.reads I rx;obtain⟨bs,rb⟩:=hy.reads I ry;exact SeqAt.eqOverData X.prog X.w X.A X.xe s v u dx dy as bs _ ra rb hx.lay hy.lay (by omega) ⟨.bl (PyData.eqv dx dy),H,I,rfl,q⟩
theorem LU (hu:X.A.units+64<cLine):d8 X (compareOp .NotEq) (Fv X.K):=by
 intro aa s σ H x y v u Q I rx ry h;obtain⟨dx,dy,hx,hy,hd,q⟩:=h;obtain⟨as,ra⟩:=hx.reads I rx;obtain⟨bs,rb⟩:=hy.reads I ry;exact SeqAt.neOverData X.prog X.w X.A X.xe s v u dx dy as bs _ ra rb hx.lay hy.lay (by omega) ⟨.bl (!PyData.eqv dx dy),H,I,rfl,q⟩
end
end L2
namespace PySem
open AutoSeq1 (wpAny_loadPart')
theorem TK {prog:Program}{w:World}{A:Around}{E:Θ2}{s:Shared}{it l:Addr}{i:Nat}{items}{x:Value}{Q:Θ2}(EM:s.heap.IsTupleIter it l i)
  (hl:s.heap.IsTuple l items) (hx:items[i]?=some x)
  (hQ:∀h',h'.IsTupleIter it l (i+1)->Heap.SameBut it s.heap h'->Q x { s with heap:=h' }) :
  wpAny (model prog w) A (Builtin.SmallTypes.nextOf (.ref it)) Q E s:=by
 obtain⟨o,ho,hc,hd⟩:=id EM;obtain⟨ol,T6,_,nl,A5⟩:=hl;have A0:s.TypeIs (.ref it) "tuple_iterator":=⟨o,ho,hc⟩;unfold Builtin.SmallTypes.nextOf;refine Za (wpAny_callSpecial?_slot (name:=Str.ofString "__next__") A0 PyProof.Rows.slot_tupleiter_next
  (wpAny_call_entry PyProof.Rows.slot_tupleiter_next A0 PyProof.Rows.entry_tupleiter_next ?_ (PyProof.Rows.args_tupleiter_next _)))
 show wpAny _ _ (field (.ref it) 0 >>= _) _ _ s;refine Za (wpAny_field ho hd (x:=.ref l) rfl ?_);show wpAny _ _ (if (Value.ref l == Value.none)=true then _ else _) _ _ s;rw[if_neg (show ¬ ((Value.ref l == Value.none)=true) from Zy)];show wpAny _ _ (field (.ref it) 1 >>= _) _ _ s;refine Za (wpAny_field ho hd (x:=.int i 0) rfl ?_);show wpAny _ _ (seqItems? (.ref l) >>= _) _ _ s;refine Za (wpAny_seqItems T6 A5 ?_);simp only[Zj,hx];refine Za (wpAny_setField ho hd (by simp) (wpAny_pure ⟨x,rfl,wpAny_pure (hQ _ ?_ (Heap.SameBut.update ..))⟩));exact⟨_,Heap.get?_update_self _ ho (Obj.isFreed_of_fields (Obj.data_mapFields hd _)),(Obj.cls_mapFields ..).trans hc,by
  rw[Obj.data_mapFields hd];simp[rawInt]⟩
theorem TJ {prog:Program}{w:World}{A:Around}{E:Θ2}{s:Shared}{it l:Addr}{i:Nat}{items}{Q:Θ2}(hh:A.handled=none)
  (EM:s.heap.IsTupleIter it l i) (hl:s.heap.IsTuple l items) (hx:items[i]?=none)
  (hE:∀h' e,Heap.ExtBut it s.heap h'->(∃o,h'.get? e=some o/\o.cls=.type "StopIteration")->E (.ref e) { s with heap:=h' }) :
  wpAny (model prog w) A (Builtin.SmallTypes.nextOf (.ref it)) Q E s:=by
 obtain⟨o,ho,hc,hd⟩:=id EM;obtain⟨ol,T6,_,nl,A5⟩:=hl;have A0:s.TypeIs (.ref it) "tuple_iterator":=⟨o,ho,hc⟩;unfold Builtin.SmallTypes.nextOf;refine Za (wpAny_callSpecial?_slot (name:=Str.ofString "__next__") A0 PyProof.Rows.slot_tupleiter_next
  (wpAny_call_entry PyProof.Rows.slot_tupleiter_next A0 PyProof.Rows.entry_tupleiter_next ?_ (PyProof.Rows.args_tupleiter_next _)))
 show wpAny _ _ (field (.ref it) 0 >>= _) _ _ s;refine Za (wpAny_field ho hd (x:=.ref l) rfl ?_);show wpAny _ _ (if (Value.ref l == Value.none)=true then _ else _) _ _ s;rw[if_neg (show ¬ ((Value.ref l == Value.none)=true) from Zy)];show wpAny _ _ (field (.ref it) 1 >>= _) _ _ s;refine Za (wpAny_field ho hd (x:=.int i 0) rfl ?_);show wpAny _ _ (seqItems? (.ref l) >>= _) _ _ s;refine Za (wpAny_seqItems T6 A5 ?_);simp only[Zj,hx];refine Za (wpAny_rule (Za (wpAny_setField ho hd (by simp) ?_)));show wpAny _ _ (newExc (.type "StopIteration") [] >>= _) _ _ _;refine Za ?_;simp only[newExc,newTuple];refine Za (wpAny_newObj_type ?_ (by size_fits));refine Za (m:=firstArgMember _ _) (wpAny_of_eq (a:=Value.none) (by first |rfl |(simp only[firstArgMember];rfl)) ?_);refine wpAny_newObj_type ?_ (by size_fits);simp only[raiseNew];refine Za (wpAny_handled ?_)
 first |rw[show A.in1.handled=none from hh] |rw[hh]
 refine Za (wpAny_pure (wpAny_throw ?_));exact hE _ _ (((Heap.SameBut.update ..).extBut.push _).push _) ⟨_,Heap.get?_push_size _ rfl,rfl⟩
theorem Draws.tup {prog:Program}{w:World}{A:Around}(hh:A.handled=none)(it l:Addr)(cX:l≠it)(items:Array Value) :
  Draws prog w A it [it,l] items.size (λi v=>items[i]?=some v) (λi h=>h.IsTupleIter it l i/\h.IsTuple l items) where
 live:=λ_ _ st=>let ⟨o,ho,_⟩:=st.1;⟨o,ho⟩
 frame:=λ_ _ _ st hk=>⟨let ⟨o,e,r⟩:=st.1;⟨o,hk it (by simp) o e,r⟩,let ⟨o,e,r⟩:=st.2;⟨o,hk l (by simp) o e,r⟩⟩
 item:=λi s Q E hi st hQ=>by
  refine TK st.1 st.2 (x:=items[i]) (by simp[hi]) λh' XD Y3=>?_
  obtain⟨o,e,r⟩:=st.2;exact hQ _ h' s.toks (by simp[hi]) ⟨XD,⟨o,Y3.extBut l o cX e,r⟩⟩ Y3
 done:=λs Q E st hE=>TJ hh st.1 st.2 (by simp) hE
set_option maxHeartbeats 1000000 in
theorem jt (l:Addr)(items:Array Value)(n:Nat)(U3:Option Addr)(sl:Array (Φ1)) :
  Meets (Builtin.«enumerate.__new__» ⟨[.type "enumerate",.ref l],[]⟩) (λ_ R s=>s.heap.get? l=some { cls:=.type "tuple",dict:=U3,data:=.seq items n,slots:=sl } /\
   R (.ok (.ret (.ref (s.heap.push { cls:=.type "tuple_iterator",data:=.fields #[.ref l,.int 0 0] }).objs.size)))
    { s with heap:=(s.heap.push { cls:=.type "tuple_iterator",data:=.fields #[.ref l,.int 0 0] }).push { cls:=.type "enumerate",data:=.fields #[.none,.bool false,.ref s.heap.objs.size,rawInt 0,.none,.none] } }) :=
 .of_wp λprog w A R s h=>by
  obtain⟨hp,g,d,tk,os⟩:=s;obtain⟨hl,h⟩:=h;have Bp:=sub_enumerate;have hL:Heap.IsTuple (Shared.heap ⟨hp,g,d,tk,os⟩) l items:=⟨_,hl,rfl,n,rfl⟩
  wp_walk using wpAny_loadPart' hl
  refine wpAny_stack_any λst=>wpAny_pure ?_
  split
  .rename_i c _ _ _ _ _;cases (c == Value.type "enumerate")
   .wp_walk using wpAny_loadPart' hl,wpAny_pyIter_tuple hL
    exact⟨_,rfl,h⟩
   .wp_walk using wpAny_loadPart' hl,wpAny_pyIter_tuple hL
    exact⟨_,rfl,h⟩
  .wp_walk using wpAny_loadPart' hl,wpAny_pyIter_tuple hL
   exact⟨_,rfl,h⟩
theorem kg {prog:Program}{w:World}{A:Around}{E:Θ2}{s:Shared}{l:Addr}{items:Array Value}{Q:Θ2}(hL:s.heap.IsTuple l items)
  (h:∀h',IsEnum h' (s.heap.objs.size+1) s.heap.objs.size 0 .none->h'.IsTupleIter s.heap.objs.size l 0->h'.objs.size=s.heap.objs.size+2 ->
   (∀b o,s.heap.get? b=some o->h'.get? b=some o)->Q (.ref (s.heap.objs.size+1)) { s with heap:=h' }) :
  wpAny (model prog w) A (call (.type "enumerate") [.ref l]) Q E s:=by
 obtain⟨⟨c,U3,dt,sl⟩,hl,hc,n,hd⟩:=hL
 replace hc:c=.type "tuple":=hc
 replace hd:dt=.seq items n:=hd
 subst hc hd;refine callType_new F.called_enumerate (by decide) (F.typeCall_enumerate_1 _) (F.newCall_enumerate_1 _) (λobj=>F.args_object_init_2 obj _) F.entry_enumerate_new
  (jt l items n U3 sl) ⟨hl,?_⟩
 have hz:(s.heap.push { cls:=.type "tuple_iterator",data:=.fields #[.ref l,.int 0 0] }).objs.size=s.heap.objs.size+1:=Heap.size_push ..;show _/\_;rw[hz];have he:IsEnum ((s.heap.push { cls:=.type "tuple_iterator",data:=.fields #[.ref l,.int 0 0] }).push
   { cls:=.type "enumerate",data:=.fields #[.none,.bool false,.ref s.heap.objs.size,rawInt 0,.none,.none] }) (s.heap.objs.size+1) s.heap.objs.size 0 .none:=by
  have:=Heap.get?_push_size (s.heap.push { cls:=.type "tuple_iterator",data:=.fields #[.ref l,.int 0 0] })
   (o:={ cls:=.type "enumerate",data:=.fields #[.none,.bool false,.ref s.heap.objs.size,rawInt 0,.none,.none] }) rfl
  rw[hz] at this;exact this
 refine⟨⟨_,he,rfl⟩,h _ he ⟨_,Heap.get?_push_of_some _ (Heap.get?_push_size _ rfl),rfl,rfl⟩ (by rw[Heap.size_push,hz]) λb o x=>Heap.get?_push_of_some _ (Heap.get?_push_of_some _ x)⟩
end PySem
namespace PySem
end PySem
namespace PySem
open AutoSeq1 (wpAny_loadPart')
end PySem
namespace L2
open PySem PySem.Spec PyProof.Rows
section
variable {X:Cx}
def ET (K:Θ1)(a:Addr):It :=
 ⟨λi H=>∃xs x,aG K H a xs/\xs[i]?=some x,λi H x H'=>∃p,H p=none/\x=.ref p/\∀xs,aG K H a xs->∃y,xs[i]?=some y/\H'=aK H p (.tup [.int i,y]),λi H=>∃xs,aG K H a xs/\xs.length<=i⟩
theorem Inv.mY {aa:Γ2}{σ:St}{H:Hp}{s:Shared}{h':Heap}{t':Nat}{ch:List Addr}(I:Inv X aa σ H s)(k:∀b o,b∉ch->s.heap.get? b=some o->h'.get? b=some o)(hf:∀b∈ch,cR X aa H b) :
  Inv X aa σ H { s with heap:=h',toks:=t' }:=by
 have N6:∀b u,H b=some u->b∉ch:=λb u e z=>by rw[(hf b z).1] at e;cases e
 refine I.step (g':=s.gens) (d':=s.drawn) (ch:=ch) (λb hb=>⟨(hf b hb).2.2.2.1,(hf b hb).2.1,(hf b hb).2.2.2.2.1,(hf b hb).2.2.2.2.2⟩) (λb o _ _ hc e _=>k b o hc e) (λb o _ _ hc e _=>⟨o.slots,k b o hc e⟩) (λ_ _ _ _ n=>n)
  (λb o hc e=>⟨o,k b o hc e⟩) (λ_ _ e=>e) (λ_ _ _ e=>e) (λb ps e=>⟨#[],by rw[e];simp⟩) (λm hm=>?_) (λb u e=>?_) I.bare
 .obtain⟨o,es,ep,ho,r⟩:=hm;exact⟨o,es,ep,k _ o (λz=>(hf _ z).2.1 rfl) ho,r⟩
 .refine(I.bt b u e).ay (λc v hc q=>k c v ?_ q) (λ_ q=>q) λ_ _ q=>q
  rcases hc with z |z
  .rw[z];exact N6 b u e
  .exact N6 c _ z
theorem Inv.HY {aa:Γ2}{σ:St}{H:Hp}{s:Shared}{p:Addr}{o:HO}(I:Inv X aa σ H s)(f:cR X aa H p)(new:bY X.prog X.w (aK H p o) s.heap p o):Inv X aa σ (aK H p o) s:=by
 have ne:∀b u,H b=some u->b≠p:=λb u e z=>by rw[z,f.1] at e;cases e
 have:=I.step (g':=s.gens) (d':=s.drawn) (t':=s.toks) (h':=s.heap) (H':=aK H p o) (ch:=[p]) (λb hb=>by
   obtain rfl:b=p:=by simpa using hb
   exact⟨f.2.2.2.1,f.2.1,f.2.2.2.2.1,f.2.2.2.2.2⟩) (λb o _ _ _ e _=>e) (λb o _ _ _ e _=>⟨o.slots,e⟩)
  (λb o hc _ n=>by rw[dh (λz=>hc (by simp[z]))];exact n) (λb o _ e=>⟨o,e⟩) (λb xs e=>by rw[dh (ne b _ e)];exact e) (λb o u e=>by rw[dh (ne b _ e)];exact e)
  (λb ps e=>⟨#[],by rw[dh (ne b _ e),e];simp⟩) (λm hm=>hm) (λb u e=>by
   by_cases hb:b=p
   .subst hb;rw[cL] at e;cases e;exact new
   .rw[dh hb] at e;exact(I.bt b u e).ay (λc v _ q=>q) (λc q=>by rw[dh (ne c _ q)];exact q) λc xs q=>by rw[dh (ne c _ q)];exact q) I.bare
 exact this
theorem zJ {P:Program}{w:World}{K:Θ1}{nS:Ξ2}{kk}{pos:Pos}(a e it:Addr)(Ut:e≠it):Turn P w K (.Tuple nS kk pos) (ET K a) [e,it] e (λi h=>(∃Ex,IsEnum h e it (i:Nat) Ex)/\h.IsTupleIter it a i) where
 mem:=by simp
 obj:=λi h st b hb=>by
  obtain⟨⟨Ex,he⟩,o,e1,c,d⟩:=st;rcases Zf.mp hb with rfl |hb
  .exact⟨_,he,λv z=>by cases z⟩
  .obtain rfl:b=it:=by simpa using hb
   exact⟨o,e1,λv z=>by rw[d] at z;cases z⟩
 keep:=λi h h' st k=>by
  obtain⟨⟨Ex,he⟩,o,e1,c,d⟩:=st;exact⟨⟨Ex,k e (by simp) _ he⟩,o,k it (by simp) _ e1,c,d⟩
 item:=by
  intro X hP hw hK hc i aa s σ H E I hf st hg;subst hP hw hK;obtain⟨xs,x,hq,hx⟩:=hg;obtain⟨its,rv,p,hz⟩:=I.tuple hq;obtain⟨u,hu,ru⟩:=rv.get hx;obtain⟨⟨Ex,he⟩,gG⟩:=st;have pt:s.heap.IsTuple a its.toArray:=p;have hae:e≠a:=λz=>by
   obtain⟨o,e1,c,_⟩:=pt;rw[<- z,he] at e1;cases e1;exact absurd (show Value.type "enumerate"=Value.type "tuple" from c) (by decide)
  have ZW:a≠it:=λz=>by
   obtain⟨o,e1,c,_⟩:=pt;obtain⟨o',e2,c',_⟩:=id gG;rw[z,e2] at e1;cases e1;rw[c] at c';exact absurd c' (by decide)
  have cG:i<its.toArray.size:=by simpa using(Zd.mp hu).1
  have D:=Draws.tup (prog:=X.prog) (w:=X.w) (A:=X.A.in1) (I.ok.hd hc) it a ZW its.toArray;refine wpAny_pyNext_enum_itemD D he ⟨gG,pt⟩ cG Ut (by simp[Ut,hae]) λy h' tk hP HP lz ht hsz hk=>?_
  have hy:y=u:=by
   have hP:its.toArray[i]?=some y:=hP;rw[List.getElem?_toArray,hu] at hP;exact(Option.some.inj hP).symm
  subst hy;refine⟨_,rfl,?_⟩;refine wpAny_letOwnedTupleGo_enum HP λh2 NF tD=>?_
  replace tD:Heap.SameBut e h' h2:=tD
  have cX:s.heap.objs.size≠e:=Xj (Heap.lt_size he);have I1:Inv X aa σ H { s with heap:=h2,toks:=tk+1 }:=I.mY (ch:=[e,it]) (λb o hb q=>by
   have b1:b≠e:=λz=>hb (by simp[z])
   have b2:b≠it:=λz=>hb (by simp[z])
   exact tD.extBut b o b1 (hk b o b1 b2 q)) hf
  have TR:=tD.extBut _ _ cX ht;have fp:cR X aa H s.heap.objs.size:=I.jL (Ze _) I.fresh;have I2:=I1.HY (p:=s.heap.objs.size) (o:=.tup [.int i,x]) fp ⟨by show 2<=sizeLine;decide,[.int i tk,y],.cons ⟨tk,rfl⟩ (.cons ru .nil),⟨_,TR,rfl,_,rfl⟩⟩;refine⟨.ref s.heap.objs.size,_,I2,rfl,⟨_,I.fresh,rfl,λys hy=>by rw[I.jA hy hq];exact⟨x,hx,rfl⟩⟩,⟨⟨_,NF⟩,?_⟩,λb hb=>?_⟩
  .obtain⟨⟨o,e1,c,d⟩,_⟩:=lz;exact⟨o,tD.extBut _ _ (Ne.symm Ut) e1,c,d⟩
  .rw[dh]
   .exact(hf b hb).1
   .rcases Zf.mp hb with rfl |hb
    .exact cX.symm
    .obtain rfl:b=it:=by simpa using hb
     obtain⟨o,e1,_⟩:=gG;exact Yd (Heap.lt_size e1)
 done:=by
  intro X hP hw hK hc i aa s σ H E I hf st hg;subst hP hw hK;obtain⟨xs,hq,hx⟩:=hg;obtain⟨its,rv,p,hz⟩:=I.tuple hq;obtain⟨⟨Ex,he⟩,gG⟩:=st;have pt:s.heap.IsTuple a its.toArray:=p;have ZW:a≠it:=λz=>by
   obtain⟨o,e1,c,_⟩:=pt;obtain⟨o',e2,c',_⟩:=id gG;rw[z,e2] at e1;cases e1;rw[c] at c';exact absurd c' (by decide)
  have hl:=rv.length;have hT:s.TypeIs (.ref e) "enumerate":=⟨_,he,rfl⟩;unfold pyNext;refine Za (wpAny_attempt (wpAny_callSpecial?_slot (name:=Str.ofString "__next__") hT F.slot_enumerate_next
   (wpAny_call_entry F.slot_enumerate_next hT F.entry_enumerate_next ?_ (F.args_enumerate_next_1 _))))
  show wpAny _ _ (field (.ref e) 2 >>= _) _ _ _;refine Za (wpAny_field he rfl (x:=.ref it) rfl ?_);refine Za (TJ (A:=X.A.in1) (I.ok.hd hc) gG pt (by simp;omega) λh' ex Uv EK=>?_);obtain⟨o,ho,jN⟩:=EK;refine Za (wpAny_isInstance (T:="StopIteration") (b:=true) ⟨o,ho,jN⟩ isSubtype_stop ?_);exact wpAny_pure ⟨rfl,I.mY (t':=s.toks) (ch:=[it]) (λb o hb q=>Uv b o (λz=>hb (by simp[z])) q) (λb hb=>hf b (Zk _ hb))⟩
 self:=λA i s Q E st h=>by
  obtain⟨⟨Ex,he⟩,_⟩:=st;exact wpAny_pyIter_enum he h
def IQ (K:Θ1)(ta:TA):TI:=λσ H R=>ta σ H λvs H1=>∃a,vs=[.ref a]/\(∃xs,aG K H1 a xs)/\R (ET K a) H1
end
def Cn (ak:St)(acc:Addr)(P:List V->Hp->Prop)(σ:St)(H:Hp):Prop:=(∀v,σ.set 0 v=ak.set 0 v)/\∃ys,H acc=some (.lst ys)/\P ys H
theorem Cn.of {ak:St}{acc:Addr}{P:List V->Hp->Prop}{w:Option V}{H:Hp}{ys:List V}(h:H acc=some (.lst ys))(p:P ys H):Cn ak acc P (ak.set 0 w) H:=⟨λv=>by rw[List.set_set],ys,h,p⟩
def Jd (outer:List (Str×NameKind))(N:Δ2)(scope:Scope)(cap:Δ2)(ix:List Nat):Bool :=
 (scope.kind == .function)&&(scope.names.all λx=>x.2 != .local||scope.names.lookup x.1 == some .local)&&decide (scope.names.map (·.1)).Nodup &&
 (scope.names.all λx=>x.2 != .free||outer.lookup x.1 == some .cell||outer.lookup x.1 == some .free)&&(cap.all λx=>decide ((x,NameKind.free)∈scope.names))&&(cap.zip ix).all (λp=>N[p.2]? == some p.1)&&cap.length == ix.length
theorem az.of {X:Cx}{scope:Scope}{own cap:Δ2}{ix:List Nat}(outer:List (Str×NameKind))(N:Δ2)(hsc:X.env.scope.names=outer:=by rfl)(hN:X.N=N:=by rfl)(h:Jd outer N scope cap ix=true:=by decide+kernel):az X scope own cap ix:=by
 unfold Jd at h;simp only[Zl,Zu,beq_iff_eq,decide_eq_true_eq,Bool.or_eq_true,bne_iff_ne,ne_eq] at h;obtain⟨⟨⟨⟨⟨⟨h1,h2⟩,h3⟩,h4⟩,h5⟩,h6⟩,h7⟩:=h;refine⟨h1,λx hx hl=>?_,h3,λx hx hl=>?_,λj x e=>h5 x (Yc e),λj x e=>?_,h7⟩
 .rcases h2 x hx with z |z
  .exact absurd hl z
  .exact z
 .show X.env.scope.names.lookup x.1=_\/X.env.scope.names.lookup x.1=_;rw[hsc];rcases h4 x hx with (z |z) |z
  .exact absurd hl z
  .exact .inl z
  .exact .inr z
 .have hj:j<cap.length:=(Zd.mp e).1;have pE:j<ix.length:=by omega
  refine⟨ix[j],Zc pE,?_⟩;rw[hN];have hz:(cap.zip ix)[j]?=some (x,ix[j]):=by
   rw[List.getElem?_zip_eq_some];exact⟨e,Zc pE⟩
  exact h6 _ (Yc hz)
section
variable {K:Θ1}{lo:Int}{n:Nat}{tt:TT}{te:TE}{acc a:Addr}{xs:List V}{ak:St}{aD:Hp}{Q:VK}
theorem ke (Pv:Nat->List V->Hp->Prop)(h0:Pv 0 [] (aK aD acc (.lst [])))
  (hs:∀(i:Nat) ys H,i<n->H acc=some (.lst ys)->Pv i ys H->tt (ak.set 0 (some (.int (lo+i)))) H λb H4 =>
   if b=true then te (ak.set 0 (some (.int (lo+i)))) H4 λy H5=>∃zs,H5 acc=some (.lst zs)/\zs.length<sizeLine/\Cn ak acc (Pv (i+1)) (ak.set 0 (some (.int (lo+i)))) (aK H5 acc (.lst (zs++[y]))) else Cn ak acc (Pv (i+1)) (ak.set 0 (some (.int (lo+i)))) H4)
  (hd:∀ys H,H acc=some (.lst ys)->Pv n ys H->Q (.ref acc) H):cr (cA 0) tt te (A9 lo n) acc ak aD Q:=by
 refine⟨λi m σ H=>m=n-i/\i<=n/\Cn ak acc (Pv i) σ H,⟨n,by simp,Yn _,λ_=>rfl,[],cL,h0⟩,?_⟩;rintro i m σ H ⟨rfl,hi,tL,ys,hy,p⟩;by_cases cG:i<n
 .refine .inr ⟨cG,Cn ak acc (Pv (i+1)),λaC H' c=>⟨n-(i+1),by omega,rfl,cG,c⟩,λx H' y=>?_⟩;obtain⟨e,y⟩:=y;subst e y;show tt (σ.set 0 _) _ _;rw[tL];exact hs i ys _ cG hy p
 .have e:i=n:=by omega
  subst e;exact .inl ⟨Ze _,hd ys H hy p⟩
theorem Aw (Pv:Nat->List V->Hp->Prop)(h0:Pv 0 [] (aK aD acc (.lst [])))(hl:∀(i:Nat) ys H,i<=xs.length->H acc=some (.lst ys)->Pv i ys H->bA K H a xs)
  (hs:∀(i:Nat) x ys H,xs[i]?=some x->H acc=some (.lst ys)->Pv i ys H->tt (ak.set 0 (some x)) H λb H4 =>
   if b=true then te (ak.set 0 (some x)) H4 λy H5=>∃zs,H5 acc=some (.lst zs)/\zs.length<sizeLine/\Cn ak acc (Pv (i+1)) (ak.set 0 (some x)) (aK H5 acc (.lst (zs++[y]))) else Cn ak acc (Pv (i+1)) (ak.set 0 (some x)) H4)
  (hd:∀ys H,H acc=some (.lst ys)->Pv xs.length ys H->Q (.ref acc) H):cr (cA 0) tt te (zk K a) acc ak aD Q:=by
 refine⟨λi m σ H=>m=xs.length-i/\i<=xs.length/\Cn ak acc (Pv i) σ H,⟨xs.length,by simp,Yn _,λ_=>rfl,[],cL,h0⟩,?_⟩;rintro i m σ H ⟨rfl,hi,tL,ys,hy,p⟩;have q:=hl i ys H hi hy p;by_cases cG:i<xs.length
 .refine .inr ⟨⟨xs,xs[i],q,by simp[cG]⟩,Cn ak acc (Pv (i+1)),λaC H' c=>⟨xs.length-(i+1),by omega,rfl,cG,c⟩,λx H' y=>?_⟩;obtain⟨e,y⟩:=y;subst e;show tt (σ.set 0 _) _ _;rw[tL];exact hs i x ys _ (y xs q) hy p
 .have e:i=xs.length:=by omega
  subst e;exact .inl ⟨⟨xs,q,Ze _⟩,hd ys H hy p⟩
theorem kY (Pv:Nat->List V->Hp->Prop)(h0:Pv 0 [] (aK aD acc (.lst [])))(hl:∀(i:Nat) ys H,i<=xs.length->H acc=some (.lst ys)->Pv i ys H->aG K H a xs)
  (hs:∀(i:Nat) x ys H,xs[i]?=some x->H acc=some (.lst ys)->Pv i ys H->tt (ak.set 0 (some x)) H λb H4 =>
   if b=true then te (ak.set 0 (some x)) H4 λy H5=>∃zs,H5 acc=some (.lst zs)/\zs.length<sizeLine/\Cn ak acc (Pv (i+1)) (ak.set 0 (some x)) (aK H5 acc (.lst (zs++[y]))) else Cn ak acc (Pv (i+1)) (ak.set 0 (some x)) H4)
  (hd:∀ys H,H acc=some (.lst ys)->Pv xs.length ys H->Q (.ref acc) H):cr (cA 0) tt te (zj K a) acc ak aD Q:=by
 refine⟨λi m σ H=>m=xs.length-i/\i<=xs.length/\Cn ak acc (Pv i) σ H,⟨xs.length,by simp,Yn _,λ_=>rfl,[],cL,h0⟩,?_⟩;rintro i m σ H ⟨rfl,hi,tL,ys,hy,p⟩;have q:=hl i ys H hi hy p;by_cases cG:i<xs.length
 .refine .inr ⟨⟨xs,xs[i],q,by simp[cG]⟩,Cn ak acc (Pv (i+1)),λaC H' c=>⟨xs.length-(i+1),by omega,rfl,cG,c⟩,λx H' y=>?_⟩;obtain⟨e,y⟩:=y;subst e;show tt (σ.set 0 _) _ _;rw[tL];exact hs i x ys _ (y xs q) hy p
 .have e:i=xs.length:=by omega
  subst e;exact .inl ⟨⟨xs,q,Ze _⟩,hd ys H hy p⟩
end
section
variable {X:Cx}{tg l:Expr}{tl:TE}
theorem XU (K:Θ1)(h:X.K=K:=by rfl):cc X (.builtin "len") (λxs H Q=>∃p ys,xs=[.ref p]/\(bA K H p ys\/aG K H p ys)/\Q (.int ys.length) H):=by subst h;exact iy
end
end L2
namespace KG
open PySem L2
theorem mR:bootBuiltins "tuple"=some (.type "tuple"):=by first |rfl |kernel_rfl |decide+kernel
theorem boot_int:bootBuiltins "int"=some (.type "int"):=by first |rfl |kernel_rfl |decide+kernel
theorem boot_abs:bootBuiltins "abs"=some (.builtin "abs"):=by first |rfl |kernel_rfl |decide+kernel
theorem boot_max:bootBuiltins "max"=some (.builtin "max"):=by first |rfl |kernel_rfl |decide+kernel
theorem boot_min:bootBuiltins "min"=some (.builtin "min"):=by first |rfl |kernel_rfl |decide+kernel
theorem boot_any:bootBuiltins "any"=some (.builtin "any"):=by first |rfl |kernel_rfl |decide+kernel
theorem boot_sum:bootBuiltins "sum"=some (.builtin "sum"):=by first |rfl |kernel_rfl |decide+kernel
theorem Nx:bootBuiltins "enumerate"=some (.type "enumerate"):=by first |rfl |kernel_rfl |decide+kernel
theorem nE:bootBuiltins "isinstance"=some (.builtin "isinstance"):=by first |rfl |kernel_rfl |decide+kernel
theorem boot_bool:bootBuiltins "bool"=some (.type "bool"):=by first |rfl |kernel_rfl |decide+kernel
def vy (H:Hp)(b:Addr):Prop:=∃c d:Int,H b=some (.lst [.int c,.int d])
def Kp (b:Addr)(H H':Hp):Prop:=∀a o,a≠b->H a=some o->H' a=some o
theorem Kp.refl (b:Addr)(H:Hp):Kp b H H:=λ_ _ _ h=>h
theorem Kp.bag {b:Addr}{H H':Hp}{o:HO}(x:Kp b H H'):Kp b H (aK H' b o):=λa u n h=>by rw[dh n];exact x a u n h
theorem vy.new {b p:Addr}{H:Hp}{o:HO}(h:vy H b)(hp:H p=none):vy (aK H p o) b:=by
 obtain⟨c,d,e⟩:=h;exact⟨c,d,by rw[dh (E3 e hp)];exact e⟩
theorem vy.ne {b p:Addr}{H:Hp}(h:vy H b)(hp:H p=none):b≠p:=by
 obtain⟨c,d,e⟩:=h;exact E3 e hp
def j1:Sp:=λvs H Q _=>∃(b:Addr) (m:Int),vs=[.ref b,.int m]/\vy H b/\0<m/\m<1073741824/\∀(r:Int) (H':Hp),0<=r->r<m->vy H' b->Kp b H H'->Q (.int r) H'
def BC (K:Θ1):Sp:=λvs H Q _=>∃(a:Addr) (ns:Γ3) (k:Int),vs=[.ref a,.int k]/\bA K H a (ns.map V.int)/\0<=k/\k<100/\∀(p:Addr) (c d:Int),H p=none->Q (.ref p) (aK H p (.lst [.int c,.int d]))
structure bo (K:Θ1)(mg:Θ3)(P:Program)(w:World)(base:Heap)(x:Str)(k:Nat)(ps:Δ2)(sp:Sp)(f:Addr)(fd:FuncData):Prop where
 ok:aJ P w K mg base cH k f fd ps sp
 mg:mg x=some (.ref f)
 kp:PySem.W.keepIn K (.ref f)=true
 bd:Binds K fd ps []
theorem sz:sizeLine=16777216:=PySem.sizeLine_eq
theorem tY {σ:St}{H:Hp}{A B:Hp->Prop}(h:A H):zl σ H (λb H4=>if b=true then A H4 else B H4):=aU (B:=B H) h
theorem oW {ns:Γ3}{r:Int}(h0:0<=r)(h1:r<ns.length):iO (ns.map V.int) r=some (V.int (ns.getD r.toNat 0))/\tK (ns.map V.int).length r=some r.toNat/\ns.getD r.toNat 0∈ns:=by
 have hl:r.toNat<ns.length:=by omega
 have e:(ns.map V.int)[r.toNat]?=some (V.int (ns.getD r.toNat 0)):=by
  rw[Zg,Zc hl];simp[List.getD,Zc hl]
 refine⟨?_,?_,?_⟩
 .have:=eY e;rw[Int.toNat_of_nonneg h0] at this;exact this
 .unfold tK;rw[if_pos h0,if_pos (by rw[Zb];exact h1)]
 .simp[List.getD,Zc hl]
def Tm (H H':Hp):Prop:=∀a xs,H a=some (.tup xs)->H' a=some (.tup xs)
theorem Tm.lst {p:Addr}{H:Hp}{xs:List V}{o:HO}(h:H p=some (.lst xs)):Tm H (aK H p o):=λa ys e=>by
 rw[dh (λz=>by rw[z,h] at e;cases e)];exact e
theorem vy.acc {b p:Addr}{H:Hp}{o:HO}(h:vy H b)(hp:b≠p):vy (aK H p o) b:=by
 obtain⟨c,d,e⟩:=h;exact⟨c,d,by rw[dh hp];exact e⟩
def qZ (H:Hp)(ws:List V)(M:Γ1):Prop:=Paired (λv ns=>∃a,v=V.ref a/\H a=some (.tup (List.map V.int ns))) ws M
theorem qZ.keep {H H':Hp}{ws:List V}{M:Γ1}(h:qZ H ws M)(t:Tm H H'):qZ H' ws M:=Paired.Ks h λv ns ⟨a,e,q⟩=>⟨a,e,t a _ q⟩
theorem qZ.len {H:Hp}{ws:List V}{M:Γ1}(h:qZ H ws M):ws.length=M.length:=Paired.length h
theorem qZ.at:∀{H:Hp}{ws:List V}{M:Γ1}{i:Nat}{x:V},qZ H ws M->ws[i]?=some x->∃ns a,M[i]?=some ns/\x=V.ref a/\H a=some (.tup (List.map V.int ns))
 |_,_,_,_,_,.nil,e=>by simp at e
 |_,_,_,0,_,.cons ⟨a,h1,h2⟩ _,e=>by simp at e;subst e;exact⟨_,a,rfl,h1,h2⟩
 |_,_,_,i+1,_,.cons _ t,e=>by
  obtain⟨ns,a,h1,h2,h3⟩:=qZ.at (i:=i) t (by simpa using e);exact⟨ns,a,by simpa using h1,h2,h3⟩
def ai (H H':Hp):Prop:=∀a o,H a=some o->H' a=some o
theorem ai.refl (H:Hp):ai H H:=λ_ _ h=>h
theorem ai.trans {H H1 H2:Hp}(a:ai H H1)(b:ai H1 H2):ai H H2:=λx o h=>b x o (a x o h)
theorem ai.new {H H':Hp}{p:Addr}{o:HO}(a:ai H H')(hp:H' p=none):ai H (aK H' p o):=λx u h=>by rw[dh (E3 (a x u h) hp)];exact a x u h
theorem ai.acc {H H':Hp}{p:Addr}{o:HO}(a:ai H H')(hp:H p=none):ai H (aK H' p o):=λx u h=>by rw[dh (E3 h hp)];exact a x u h
theorem ai.tm {H H':Hp}(a:ai H H'):Tm H H':=λx xs h=>a x _ h
def has (M:Γ1)(j:Nat):Bool:=M.any λr=>decide (0<r.getD j 0)
theorem mo (f:Nat->Bool)(n:Nat):(List.range (n+1)).filter f=(List.range n).filter f++if f n=true then [n] else []:=by
 rw[Yo,Xr]
 congr 1
 by_cases h:f n=true
 .simp[h]
 .simp[h]
theorem yI:∀ns:Γ3,PyData.depthAll (ns.map PyData.int)=0
 |[]=>rfl
 |n::ns=>by
  rw[Yj,PyData.depthAll,yI ns];rfl
def t9 (K:Θ1):Sp:=λvs H Q _=>∃(a:Addr) (ns:Γ3),vs=[.ref a]/\bA K H a (ns.map V.int)/\ns.length<=63/\∀H',Q (.bl true) H'
theorem bA.ay {K:Θ1}{H H':Hp}{a:Addr}{xs:List V}(h:bA K H a xs)(s:ai H H'):bA K H' a xs:=by
 rcases h with (h |⟨o,h⟩) |h
 .exact .inl (.inl (s _ _ h))
 .exact .inl (.inr ⟨o,s _ _ h⟩)
 .exact .inr h
theorem boot_list:bootBuiltins "list"=some (.type "list"):=by first |rfl |kernel_rfl |decide+kernel
theorem AJ:bootBuiltins "all"=some (.builtin "all"):=by first |rfl |kernel_rfl |decide+kernel
mutual
inductive iP (b:Addr) (H:Hp):V->PyData->Prop
 |bO:iP b H .bO .none
 |bl (c:Bool):iP b H (.bl c) (.bool c)
 |int (i:Int):iP b H (.int i) (.int i)
 |str (x:Str) (ok:(PyData.str x).canLay0=true):iP b H (.str x) (.str x)
 |lst {a:Addr}{xs:List V}{ds:Ξ1}:a≠b->H a=some (.lst xs)->bW b H xs ds->iP b H (.ref a) (.list ds)
 |tup {a:Addr}{xs:List V}{ds:Ξ1}:H a=some (.tup xs)->bW b H xs ds->iP b H (.ref a) (.tuple ds)
inductive bW (b:Addr) (H:Hp):List V->Ξ1->Prop
 |nil:bW b H [] []
 |cons {x:V}{xs:List V}{d:PyData}{ds:Ξ1}:iP b H x d->bW b H xs ds->bW b H (x::xs) (d::ds)
end
mutual
theorem iP.ay {b:Addr}{H H':Hp}(k:ai H H'):∀{v:V}{d:PyData},iP b H v d->iP b H' v d
 |_,_,.bO=>.bO
 |_,_,.bl c=>.bl c
 |_,_,.int i=>.int i
 |_,_,.str x ok=>.str x ok
 |_,_,.lst n h t=>.lst n (k _ _ h) (bW.ay k t)
 |_,_,.tup h t=>.tup (k _ _ h) (bW.ay k t)
theorem bW.ay {b:Addr}{H H':Hp}(k:ai H H'):∀{vs:List V}{ds:Ξ1},bW b H vs ds->bW b H' vs ds
 |_,_,.nil=>.nil
 |_,_,.cons h t=>.cons (iP.ay k h) (bW.ay k t)
end
mutual
theorem iP.dt {K:Θ1}{b:Addr}{H:Hp}:∀{v:V}{d:PyData},iP b H v d->mW K H v d
 |_,_,.bO=>.bO
 |_,_,.bl c=>.bl c
 |_,_,.int i=>.int i
 |_,_,.str x ok=>.str x ok
 |_,_,.lst n h t=>.lst (bA.of h) (bW.dt t)
 |_,_,.tup h t=>.tup (aG.of h) (bW.dt t)
theorem bW.dt {K:Θ1}{b:Addr}{H:Hp}:∀{vs:List V}{ds:Ξ1},bW b H vs ds->ft K H vs ds
 |_,_,.nil=>.nil
 |_,_,.cons h t=>.cons (iP.dt h) (bW.dt t)
end
theorem bW.len {b:Addr}{H:Hp}:∀{vs:List V}{ds:Ξ1},bW b H vs ds->vs.length=ds.length
 |_,_,.nil=>rfl
 |_,_,.cons _ t=>congrArg (· + 1) (bW.len t)
theorem bW.at {b:Addr}{H:Hp}:∀{vs:List V}{ds:Ξ1}{i:Nat}{x:V},bW b H vs ds->vs[i]?=some x->∃d,ds[i]?=some d/\iP b H x d
 |_,_,_,_,.nil,e=>by simp at e
 |_,_,0,_,.cons h _,e=>by simp at e;subst e;exact⟨_,rfl,h⟩
 |_,_,i+1,_,.cons _ t,e=>by
  obtain⟨d,h1,h2⟩:=bW.at (i:=i) t (by simpa using e);exact⟨d,by simpa using h1,h2⟩
theorem bW.app {b:Addr}{H:Hp}:∀{vs ws:List V}{ds es:Ξ1},bW b H vs ds->bW b H ws es->bW b H (vs++ws) (ds++es)
 |_,_,_,_,.nil,s=>s
 |_,_,_,_,.cons h t,s=>.cons h (bW.app t s)
def eX:PyData->Bool
 |.int _=>true
 |_=>false
def within (lo hi:Int):PyData->Bool
 |.int i=>decide (lo<=i)&&decide (i<=hi)
 |_=>false
def aO:PyData->Bool
 |.tuple [.int t,.int u]=>decide (1<=u)&&decide (Int.gcd t u=1)
 |_=>false
def Hs:PyData->Bool
 |.tuple [.int t,.int u]=>decide (1<=u)&&decide (Int.gcd t u=1)&&decide (1<=t)&&decide (t<=1000000)&&decide (u<=1000000)
 |_=>false
def RB (n:Nat)(lo hi:Int):PyData->Bool
 |.tuple ds=>decide (ds.length=n)&&ds.all (within lo hi)
 |_=>false
def PY:PyData->Bool
 |.tuple [.tuple a,.tuple p,.tuple w]=>decide (1<=a.length)&&decide (a.length<=6)&&a.all (within 1 60)&&(decide (1<=p.length)&&decide (p.length<=6)&&p.all Hs)&&(decide (w.length=p.length)&&w.all (RB a.length 0 100))
 |_=>false
mutual
def bz:PyData->Bool
 |.int i=>decide (-1073741824<i)&&decide (i<1073741824)
 |.list ds=>i8 ds
 |.tuple ds=>i8 ds
 |_=>true
def i8:Ξ1->Bool
 |[]=>true
 |d::ds=>bz d&&i8 ds
end
theorem j6:∀{ds:Ξ1}{d:PyData},i8 ds=true->d∈ds->bz d=true
 |d::ds,e,h,hm=>by
  have h':bz d=true/\i8 ds=true:=by simpa[i8] using h
  rcases Zf.mp hm with rfl |hm
  .exact h'.1
  .exact j6 h'.2 hm
theorem lZ:∀{ds:Ξ1},(∀d∈ds,bz d=true)->i8 ds=true
 |[],_=>rfl
 |d::ds,h=>by
  have:=lZ (ds:=ds) λe he=>h e (Zk _ he)
  simp[i8,this,h d Zo]
end KG
namespace HT
open PySem PySem.Spec PyProof.Rows
section
variable {prog:Program}{w:World}{A:Around}{E:Θ2}{s:Shared}
theorem li {t sl:Addr}{items:Array Value}{vl vu:Value}{lo hi:Option Int}{Q:Θ2}(ht:IsTup s.heap t items)(hs:s.heap.IsSliceOf sl vl vu .none)(pl:IsPart vl lo)(pu:IsPart vu hi)
  (hw:cJ items.size 0 lo=0/\cJ items.size items.size hi=items.size) (h:Q (.ref t) s):wpAny (model prog w) A (getItem (.ref t) (.ref sl)) Q E s:=by
 obtain⟨os,Jq,Sc,Jx⟩:=id hs;have UB:s.TypeIs (.ref sl) "slice":=⟨os,Jq,Sc⟩;unfold getItem
 try with_reducible refine wpAny_holding ?_
 first |refine Za (wpAny_pure ?_) |skip
 refine Za (wpAny_sequenceKey ht.typeIs (by decide) ?_);refine Za (wpAny_callSpecial?_slot (name:=Str.ofString "__getitem__") ht.typeIs PyProof.Rows.slot_tuple_getitem
  (wpAny_call_entry PyProof.Rows.slot_tuple_getitem ht.typeIs entry_tuple_getitem ?_ (args_tuple_getitem _ _)))
 show wpAny _ _ (Builtin.Tuple.tupleItemsOf (.ref t) >>= _) _ _ s;refine Za (tupleItemsOf_ ht ?_);refine Za (wpAny_typeOf UB ?_);rw[if_pos (by decide)];refine Za (h9 hs pl pu ?_);have W0:((((cJ items.size 0 lo:Nat):Int) == 0&&(1:Int) == 1&&(cJ items.size items.size hi-cJ items.size 0 lo) == items.size)=true):=by
  rw[hw.1,hw.2];simp
 show wpAny _ _ (if (((cJ items.size 0 lo:Nat):Int) == 0&&(1:Int) == 1&&(cJ items.size items.size hi-cJ items.size 0 lo) == items.size)=true then _ else _) _ _ s;rw[if_pos W0];have htt:s.TypeIs (.ref t) "tuple":=ht.typeIs;refine Za (m:=Builtin.Tuple.tupleIsExact (.ref t)) (Za (wpAny_typeOf htt (wpAny_pure ?_)));rw[if_pos (by decide)]
 first
  |exact wpAny_pure ⟨_,rfl,wpAny_pure h⟩
  |exact Za (wpAny_pure (wpAny_pure ⟨_,rfl,wpAny_pure h⟩))
  |(wp_walk;exact⟨_,rfl,wpAny_pure h⟩)
  |(wp_walk;exact⟨_,rfl,h⟩)
end
end HT
namespace L2
open PySem PySem.Spec PyProof.Rows
section
variable {X:Cx}
theorem zX:d8 X (compareOp .IsNot) (λx y H Q=>∃c d:Bool,x=.bl c/\y=.bl d/\Q (.bl (c != d)) H):=by
 intro aa s σ H x y v u Q I rx ry h;obtain⟨c,d,rfl,rfl,q⟩:=h;cases rx;cases ry;exact isnot_bool (jM I q rfl)
def WK:V->Option Int->Option Int->Hp->VK->Prop:=λx lo hi H Q=>∃a xs,x=.ref a/\H a=some (.tup xs)/\∀p H',KG.ai H H'->H' p=some (.tup (nV xs lo hi))->Q (.ref p) H'
theorem Gh:Fe X WK:=by
 intro aa s σ H x v vl vu lo hi sl Q I rx hs pl pu h;obtain⟨a,xs,rfl,hx,q⟩:=h;by_cases hw:HT.cJ xs.length 0 lo=0/\HT.cJ xs.length xs.length hi=xs.length
 .cases rx
  obtain⟨its,r,ht,hz⟩:=I.tuple (aG.of hx);have bN:its.toArray.size=xs.length:=by rw[Zt];exact r.length.symm
  refine⟨"tuple",_,PyProof.Rows.slot_tuple_getitem.lookup,ht.typeIs,?_⟩;refine HT.li ht hs pl pu (by rw[bN];exact hw) ⟨.ref a,H,I,rfl,q a H (KG.ai.refl H) ?_⟩;have e:nV xs lo hi=xs:=by unfold nV;rw[hw.1,hw.2,List.drop_zero,Nat.sub_zero,Yz]
  rw[e];exact hx
 .exact K9 aa s σ H _ v vl vu lo hi sl Q I rx hs pl pu ⟨a,xs,rfl,aG.of hx,hw,λp hp=>q p _ ((KG.ai.refl H).new hp) cL⟩
def Iq:R2:=λx y H Q=>∃a b xs ys,x=.ref a/\y=.ref b/\H a=some (.tup xs)/\H b=some (.tup ys)/\xs.length+ys.length<=sizeLine/\∀p H',KG.ai H H'->H' p=some (.tup (xs++ys))->Q (.ref p) H'
theorem GR:d8 X (binaryOp .Add) Iq:=by
 intro aa s σ H x y v u Q I rx ry h;obtain⟨a,b,xs,ys,rfl,rfl,ha,hb,hz,q⟩:=h;by_cases hx:xs=[]
 .cases rx
  cases ry
  obtain⟨its,r1,p1,_⟩:=I.tuple (aG.of ha);obtain⟨pM,r2,p2,_⟩:=I.tuple (aG.of hb);obtain⟨⟨cls,dd,data,sl⟩,ho,hc,n,hd⟩:=id p1;obtain⟨⟨XQ,Sv,data2,cv⟩,Jr,JA,n2,OF⟩:=id p2;simp only at hc hd JA OF;subst hc hd JA OF;have e0:its=[]:=r1.nc.mpr hx;exact concat_meets ⟨_,ho,rfl⟩ ⟨_,Jr,rfl⟩ noFill_tuple_add seq_tuple_add PySem.F.slot_tuple_add PySem.F.entry_tuple_add (PySem.F.args_tuple_add_2 _ _)
   (tuple_addW0 a b its.toArray pM.toArray n n2 dd Sv sl cv (by simp[e0])) ⟨ho,Jr,⟨.ref b,H,I,rfl,q b H (KG.ai.refl H) (by rw[hx];exact hb)⟩⟩
 .refine GQ aa s σ H _ _ v u Q I rx ry ⟨a,b,xs,ys,rfl,rfl,aG.of ha,aG.of hb,hx,hz,λe=>q a H (KG.ai.refl H) (by rw[e,Yg];exact ha),λ_ p hp=>q p _ ((KG.ai.refl H).new hp) cL⟩
end
end L2
namespace L2
open PySem PySem.Spec PyProof.Rows KG
def mE (f:Expr->Option PyData):Ξ2->Option (Ξ1)
 |[]=>some []
 |e::es=>match f e,mE f es with
  |some d,some ds=>some (d::ds)
  |_,_=>none
def vS (nm:Str->Option Int)(f:Expr->Option PyData):Expr->Option PyData
 |.Name x _=>(nm x).map .int
 |.Constant (.int i) _ _=>some (.int i)
 |.Constant (.bool c) _ _=>some (.bool c)
 |.Constant .none _ _=>some .none
 |.Constant (.str x) _ _=>if (PyData.str x).canLay0=true then some (.str x) else none
 |.UnaryOp .USub a _=>match f a with
  |some (.int i)=>some (.int (-i))
  |_=>none
 |.BinOp a .Add b _=>match f a,f b with
  |some (.int i),some (.int j)=>some (.int (i+j))
  |_,_=>none
 |.BinOp a .Sub b _=>match f a,f b with
  |some (.int i),some (.int j)=>some (.int (i-j))
  |_,_=>none
 |.BinOp a .Pow b _=>match f a,f b with
  |some (.int i),some (.int j)=>if 0<=j/\j<=1000000/\i.natAbs<2 ^ 64 then some (.int (i ^ j.toNat)) else none
  |_,_=>none
 |.Tuple es _ _=>if es.length<=1000 then (mE f es).map .tuple else none
 |.List es _=>if es.length<=1000 then (mE f es).map .list else none
 |_=>none
def lit (nm:Str->Option Int):Nat->Expr->Option PyData
 |0=>λ_=>none
 |n+1=>vS nm (lit nm n)
def Pa (C:St->Prop)(d:PyData):TE:=λσ H Q=>C σ/\∀v H',ai H H'->(∀b,H b≠none->iP b H' v d)->(∀i,d=.int i->v=.int i)->Q v H'
def QU (C:St->Prop)(ds:Ξ1):TA:=λσ H Q=>C σ/\∀vs H',ai H H'->(∀b,H b≠none->bW b H' vs ds)->vs.length=ds.length->Q vs H'
theorem PE.weak {X:Cx}{e:Expr}{t t':TE}(h:PE X e t)(hw:∀σ H Q,t' σ H Q->t σ H Q):PE X e t':=λaa s σ H Q I q=>h aa s σ H Q I (hw σ H Q q)
theorem PA.weak {X:Cx}{es:Ξ2}{t t':TA}(h:PA X es t)(hw:∀σ H Q,t' σ H Q->t σ H Q):PA X es t':=λpos aa s σ H Q I q=>h pos aa s σ H Q I (hw σ H Q q)
theorem uG {X:Cx}{nm:Str->Option Int}{n:Nat}{e:Expr}{es:Ξ2}{d:PyData}(h:lit nm n e=some d):starEach (e::es) X.env=(false,eval e X.env)::starEach es X.env:=by
 cases n with
 |zero=>cases h
 |succ n =>
  have h:vS nm (lit nm n) e=some d:=h;cases e<;>first |rfl |(unfold vS at h;cases h)
theorem jn {f:Expr->Option PyData}:∀{es:Ξ2}{ds:Ξ1},mE f es=some ds->ds.length=es.length
 |[],ds,h=>by simp[mE] at h;subst h;rfl
 |e::es,ds,h=>by
  unfold mE at h;split at h
  .next d Ss h1 h2=>cases h;simp[jn h2]
  .cases h
theorem sy {H H':Hp}{b:Addr}(s:ai H H')(h:H b≠none):H' b≠none:=by
 cases e:H b with
 |none=>exact absurd e h
 |some o=>rw[s _ _ e];simp
theorem sv {X:Cx}{nm:Str->Option Int}{C:St->Prop}{n:Nat}(ih:∀(e:Expr) (d:PyData),lit nm n e=some d->PE X e (Pa C d)):∀(es:Ξ2) (ds:Ξ1),mE (lit nm n) es=some ds->PA X es (QU C ds)
 |[],ds,h=>by
  simp[mE] at h;subst h;exact PA.weak bK λσ H Q q=>q.2 [] H (ai.refl H) (λb _=>.nil) rfl
 |e::es,ds,h=>by
  unfold mE at h;split at h
  .next d Ss h1 h2 =>
   cases h
   refine PA.weak (aQ (ih e d h1) (sv ih es Ss h2) (uG h1)) λσ H Q q=>⟨q.1,λv H1 s1 t1 _=>⟨q.1,?_⟩⟩
   intro vs H2 s2 t2 l2;exact q.2 (v::vs) H2 (s1.trans s2) (λb hb=>.cons ((t1 b hb).ay s2) (t2 b (sy s1 hb))) (by simp[l2])
  .cases h
theorem GJ {X:Cx}(nm:Str->Option Int)(C:St->Prop)(T8:∀x i pos,nm x=some i->PE X (.Name x pos) (λσ H Q=>C σ/\Q (.int i) H)):∀(n:Nat) (e:Expr) (d:PyData),lit nm n e=some d->PE X e (Pa C d):=by
 intro n;induction n with
 |zero=>intro e d h;cases h
 |succ n ih =>
  intro e d h;have h:vS nm (lit nm n) e=some d:=h;unfold vS at h;split at h
  .obtain⟨i,e1,rfl⟩:=Qb.mp h;exact PE.weak (T8 _ i _ e1) λσ H Q q=>⟨q.1,q.2 _ H (ai.refl H) (λb _=>.int _) (λi e=>by cases e;rfl)⟩
  .cases h;exact PE.weak bF λσ H Q q=>q.2 _ H (ai.refl H) (λb _=>.int _) (λi e=>by cases e;rfl)
  .cases h;exact PE.weak iB λσ H Q q=>q.2 _ H (ai.refl H) (λb _=>.bl _) (λi e=>by cases e)
  .cases h;exact PE.weak wd λσ H Q q=>q.2 _ H (ai.refl H) (λb _=>.bO) (λi e=>by cases e)
  .split at h
   .next ok=>cases h;exact PE.weak rG λσ H Q q=>q.2 _ H (ai.refl H) (λb _=>.str _ ok) (λi e=>by cases e)
   .cases h
  .split at h
   .next i e1 =>
    cases h
    exact PE.weak (BS vZ (ih _ _ e1)) λσ H Q q=>⟨q.1,λv H1 s1 t1 i1=>⟨_,i1 _ rfl,q.2 _ H1 s1 (λb _=>.int _) (λi e=>by cases e;rfl)⟩⟩
   .cases h
  .split at h
   .next i j e1 e2 =>
    cases h
    exact PE.weak (cN ip (ih _ _ e1) (ih _ _ e2)) λσ H Q q=>⟨q.1,λv H1 s1 t1 i1=>⟨q.1,λv2 H2 s2 t2 i2=>⟨_,_,i1 _ rfl,i2 _ rfl,q.2 _ H2 (s1.trans s2) (λb _=>.int _) (λi e=>by cases e;rfl)⟩⟩⟩
   .cases h
  .split at h
   .next i j e1 e2 =>
    cases h
    exact PE.weak (cN rH (ih _ _ e1) (ih _ _ e2)) λσ H Q q=>⟨q.1,λv H1 s1 t1 i1=>⟨q.1,λv2 H2 s2 t2 i2=>⟨_,_,i1 _ rfl,i2 _ rfl,q.2 _ H2 (s1.trans s2) (λb _=>.int _) (λi e=>by cases e;rfl)⟩⟩⟩
   .cases h
  .split at h
   .next i j e1 e2 =>
    split at h
    .next hc =>
     cases h
     exact PE.weak (cN rJ (ih _ _ e1) (ih _ _ e2)) λσ H Q q=>⟨q.1,λv H1 s1 t1 i1=>⟨q.1,λv2 H2 s2 t2 i2=>⟨_,_,i1 _ rfl,i2 _ rfl,hc,q.2 _ H2 (s1.trans s2) (λb _=>.int _) (λi e=>by cases e;rfl)⟩⟩⟩
    .cases h
   .cases h
  .split at h
   .next hl =>
    obtain⟨ds,e1,rfl⟩:=Qb.mp h;refine PE.weak (gv (sv ih _ _ e1)) λσ H Q q=>⟨q.1,λvs H1 s1 t1 l1=>⟨?_,λp hp=>?_⟩⟩
    .rw[l1,jn e1,sz];omega
    .exact q.2 _ _ (s1.new hp) (λb hb=>.tup cL ((t1 b hb).ay ((ai.refl H1).new hp))) (λi e=>by cases e)
   .cases h
  .split at h
   .next hl =>
    obtain⟨ds,e1,rfl⟩:=Qb.mp h;refine PE.weak (gx (sv ih _ _ e1)) λσ H Q q=>⟨q.1,λvs H1 s1 t1 l1=>⟨?_,λp hp=>?_⟩⟩
    .rw[l1,jn e1,sz];omega
    .exact q.2 _ _ (s1.new hp) (λb hb=>.lst (λz=>sy s1 hb (z▸hp)) cL ((t1 b hb).ay ((ai.refl H1).new hp))) (λi e=>by cases e)
   .cases h
  .cases h
theorem CD {X:Cx}(n:Nat)(e:Expr)(d:PyData)(h:lit (λ_=>none) n e=some d):PE X e (λ_ H Q=>∀v H',ai H H'->(∀b,H b≠none->iP b H' v d)->(∀i,d=.int i->v=.int i)->Q v H') :=
 PE.weak (GJ (λ_=>none) (λ_=>True) (λx i pos e=>by cases e) n e d h) λσ H Q q=>⟨trivial,q⟩
end L2
namespace EX
open PySem PySem.Spec PyProof.Rows
def dZ (C t:Addr)(hd:Value):Obj:={ cls:=.ref C,data:=.fields #[.ref t,hd,.none,.none,.bool false,.none] }
def Hd (B:Heap)(e:Addr)(h:Heap)(v:Value):Prop:=v=.none\/∃T oT ts,v=.ref T/\B.get? T=none/\T≠e/\h.get? T=some oT/\oT.data=.fields ts/\3<ts.size
structure re (B:Heap)(l:List Env)(e C t:Addr)(h:Heap):Prop where
 st:B.StaysIn h
 ne:B.get? e=none
 ff:h.FunFrames B l
 ob:∃hd,h.get? e=some (dZ C t hd)/\Hd B e h hd
theorem re.tail {B:Heap}{env:Env}{l:List Env}{e C t:Addr}{h:Heap}(a:re B (env::l) e C t h):re B l e C t h:=⟨a.st,a.ne,a.ff.2.2,a.ob⟩
section
variable {M:Model}{A:Around}{E:Θ2}{s:Shared}{B:Heap}{env:Env}{outer:List Env}{L e C t:Addr}{Q:Unit->Shared->Prop}
theorem qU {head:Value}{hn:Bool}(a:re B (env::outer) e C t s.heap)(mU:A.frames=some (env::outer))(hf:env.frame=some L)
  (k:∀h',re B (env::outer) e C t h'->s.heap.UpToSlots h'->Q () { s with heap:=h' }) :
  wpAny M A (do let fr <- frameOf env;let pl <- entryPlaceOf L hn;let x <- EntryCells.newEntry head fr .none (rawInt L) .none pl;setField (.ref e) 1 x) Q E s:=by
 obtain⟨hd,he,_⟩:=a.ob;refine Za (wpAny_frameOf_fun mU a.ff hf λg so=>?_);obtain⟨_,YA,X9⟩:=so;have nfr:e∉(env::outer).filterMap (·.frame):=λm=>by
  obtain⟨_,o,ho,nf⟩:=a.ff.mem m;rw[he] at ho;cases ho;exact nf _ rfl
 have ge:g.get? e=some (dZ C t hd):=(YA e nfr).trans he;have gB:B.StaysIn g:=λb o q=>(YA b λm=>by rw[(a.ff.mem m).1] at q;cases q).trans (a.st b o q)
 refine Za (wpAny_entryPlaceOf λpl ipl=>?_);unfold EntryCells.newEntry newFields;refine Za (wpAny_newObj_type ?_ (ipl.sizeOk5 _ _ _ _ _));generalize hN:({ cls:=.type "traceback",dict:=none,data:=.fields ([head,.ref L,.none,rawInt L,.none]++(if pl.isEmpty then List.replicate 6 Value.none else pl)).toArray }:Obj)=oN;have g2:(g.push oN).get? e=some (dZ C t hd):=Heap.get?_push_of_some _ ge;have gT:(g.push oN).get? g.objs.size=some oN:=Heap.get?_push_size g (by rw[<- hN];rfl);have Te:g.objs.size≠e:=Xj (Heap.lt_size ge);have nBT:B.get? g.objs.size=none:=by
  cases q:B.get? g.objs.size with
  |none=>rfl
  |some o=>exact absurd (Heap.lt_size (gB _ o q)) (Yv _)
 refine wpAny_setField g2 rfl (by show 1<6;decide) (k _ ?_ ?_)
 .refine⟨λb o q=>?_,a.ne,?_,.ref g.objs.size,?_,.inr ⟨g.objs.size,oN,_,rfl,nBT,Te,?_,by rw[<- hN],?_⟩⟩
  .rw[Heap.get?_update_other _ _ (λz=>by rw[<- z,a.ne] at q;cases q)];exact Heap.get?_push_of_some _ (gB b o q)
  .refine a.ff.of_keeps λb o q nf=>?_
   obtain⟨sl,q2⟩:=X9 b o q;refine⟨{ o with slots:=sl },?_,rfl⟩;rw[Heap.get?_update_other _ _ (λz=>by rw[<- z,he] at q;cases q;exact nf _ rfl)];exact Heap.get?_push_of_some _ q2
  .exact Heap.get?_update_self _ g2 rfl
  .rw[Heap.get?_update_other _ _ Te.symm];exact gT
  .simp only[Zt,Zn,List.length_cons];omega
 .intro b o q nf;obtain⟨sl,q2⟩:=X9 b o q;refine⟨sl,?_⟩;rw[Heap.get?_update_other _ _ (λz=>by rw[<- z,he] at q;cases q;exact nf _ rfl)];exact Heap.get?_push_of_some _ q2
theorem uV {T:Addr}{oT:Obj}{ts:Array Value}{v:Value}(a:re B outer e C t s.heap)(nT:B.get? T=none)(Te:T≠e)(hT:s.heap.get? T=some oT)(dT:oT.data=.fields ts)(h3:3<ts.size)
  (k:∀h',re B outer e C t h'->s.heap.UpToSlots h'->Q () { s with heap:=h' }):wpAny M A (setField (.ref T) 3 v) Q E s:=by
 obtain⟨hd,he,hh⟩:=a.ob;refine wpAny_setField hT dT h3 ?_;have N1:∀b,b≠T->(s.heap.update T (Obj.mapFields (·.setIfInBounds 3 v))).get? b=s.heap.get? b:=λb n=>Heap.get?_update_other _ _ (Ne.symm n)
 have YT:∀b o,s.heap.get? b=some o->(∀vs,o.data≠.fields vs)->b≠T:=λb o q nf z=>by
  rw[z,hT] at q;cases q;exact nf _ dT
 refine k _ ⟨λb o q=>?_,a.ne,a.ff.of_keeps λb o q nf=>⟨o,(N1 b (YT b o q nf)).trans q,rfl⟩,hd,(N1 e Te.symm).trans he,?_⟩ λb o q nf=>⟨o.slots,(N1 b (YT b o q nf)).trans q⟩
 .exact(N1 b λz=>by rw[z,nT] at q;cases q).trans (a.st b o q)
 .rcases hh with z |⟨T2,o2,t2,z,n2,e2,h2,d2,s2⟩
  .exact .inl z
  .by_cases w:T2=T
   .subst w;rw[hT] at h2;cases h2;have:=Obj.data_mapFields dT (·.setIfInBounds 3 v);exact .inr ⟨T2,_,_,z,n2,e2,Heap.get?_update_self _ hT (Obj.isFreed_of_fields this),this,by simpa using h3⟩
   .exact .inr ⟨T2,o2,t2,z,n2,e2,(N1 T2 w).trans h2,d2,s2⟩
theorem oX (a:re B (env::outer) e C t s.heap)(mU:A.frames=some (env::outer))(hf:env.frame=some L)
  (k:∀h',re B (env::outer) e C t h'->s.heap.UpToSlots h'->Q () { s with heap:=h' }):wpAny M A (noteFrame (.ref e) env) Q E s:=by
 obtain⟨hd,he,hh⟩:=a.ob;unfold noteFrame;simp only[hf];refine Za (wpAny_field he rfl (x:=hd) rfl ?_);rcases hh with rfl |⟨T,oT,ts,rfl,nT,Te,hT,dT,h3⟩
 .rw[if_neg (by decide)];exact qU a mU hf k
 .rw[if_pos (show(Value.ref T != Value.none)=true from by simp)];refine Za (wpAny_field hT dT (x:=ts[3]) (by rw[Array.getElem?_eq_getElem h3]) ?_);by_cases hv:(ts[3] == rawInt L)=true
  .rw[if_pos hv];exact wpAny_pure (k s.heap a (Heap.UpToSlots.refl _))
  .rw[if_neg hv];refine Za (uV a nT Te hT dT h3 λh1 a1 u1=>?_);exact qU (s:={ s with heap:=h1 }) a1 mU hf λh2 a2 u2=>k h2 a2 (u1.trans u2)
theorem jq (a:re B outer e C t s.heap)(k:∀h',re B outer e C t h'->s.heap.UpToSlots h'->Q () { s with heap:=h' }):wpAny M A (setFlight (.ref e) none) Q E s:=by
 obtain⟨hd,he,hh⟩:=a.ob;unfold setFlight;refine Za (wpAny_field he rfl (x:=hd) rfl ?_);rcases hh with rfl |⟨T,oT,ts,rfl,nT,Te,hT,dT,h3⟩
 .rw[if_neg (by decide)];exact wpAny_pure (k s.heap a (Heap.UpToSlots.refl _))
 .rw[if_pos (show(Value.ref T != Value.none)=true from by simp)];exact uV a nT Te hT dT h3 k
theorem qT (a:re B (env::outer) e C t s.heap)(mU:A.frames=some (env::outer))(hf:env.frame=some L)
  (k:∀h',re B outer e C t h'->s.heap.UpToSlots h'->Q () { s with heap:=h' }):wpAny M A (leaving env (.ref e)) Q E s:=by
 unfold leaving;refine Za (oX a mU hf λh1 a1 u1=>?_);exact jq (s:={ s with heap:=h1 }) a1.tail λh2 a2 u2=>k h2 a2 (u1.trans u2)
end
end EX
namespace L2
open PySem PySem.Spec PyProof.Rows EX
theorem Mq {P:Program}{w:World}{H:Hp}{h:Heap}{a:Addr}{o:HO}(x:bY P w H h a o):∃u,h.get? a=some u:=by
 cases o with
 |lst xs=>obtain⟨_,_,_,_,q⟩:=x;exact⟨_,q⟩
 |tup xs=>obtain⟨_,_,_,⟨_,q,_⟩⟩:=x;exact⟨_,q⟩
 |dK kvs=>obtain⟨_,_,_,_,_,_,_,q,_⟩:=x;exact⟨_,q⟩
 |dT kvs=>obtain⟨_,_,_,_,_,_,_,q,_⟩:=x;exact⟨_,q⟩
 |set S n=>obtain⟨_,_,_,_,q,_⟩:=x;exact⟨_,q⟩
 |ins C dx fs=>obtain⟨_,_,_,q,_⟩:=x;exact⟨_,q⟩
 |own y=>exact x
 |xd fs=>obtain⟨_,⟨_,_,_,q,_⟩,_⟩:=x;exact⟨_,q⟩
 |RW lo hi=>obtain⟨_,_,_,q⟩:=x;exact⟨_,q⟩
 |jO ob u=>exact⟨_,x.1⟩
 |pq ps=>exact⟨_,x⟩
 |met f y=>exact⟨_,x⟩
 |ext φ=>exact x.2.1
theorem yD {h base B:Heap}:∀{l:List Env},(∀b∈iG l,B.get? b=none)->h.FunFrames base l->h.FunFrames B l
 |[],_,_=>trivial
 |env::r,hB,⟨hk,⟨L,o,hf,hn,ho,hd⟩,hr⟩ =>
  ⟨hk,⟨L,o,hf,hB L (by unfold iG;rw[Xu,hf];exact Zo),ho,hd⟩,
   yD (λb hb=>hB b (by unfold iG;rw[Xu,hf];exact Zk _ hb)) hr⟩
def ko (P:Program)(w:World):xw:=λouter H s E e s'=>∃(a C t:Addr) (B:Heap) (H':Hp),e=.ref a/\s'.os=s.os/\AllBare s'.gens/\Un (iG outer) [] H H' s.heap s'.heap/\jP P w H' B /\
 (∀b o,s.heap.get? b=some o->b∉iG outer->(∃o',B.get? b=some o')/\(H b=none->B.get? b=some o))/\re B outer a C t s'.heap/\s.heap.get? a=none/\H' a=none/\E (.ref C) none H'
section
variable {P:Program}{w:World}{K:Θ1}{mg:Θ3}{base:Heap}{N:Δ2}{qual:Str}{scope:Scope}{f:Addr}{cd:Value}{A:Around}{outer:List Env}{aT:Shared}{aD:Hp}{E:XK}
theorem yC {aa:Γ2}{σ:St}{H H':Hp}{s s':Shared}{a C t:Addr}{B h':Heap}(I:Inv (gI (ko P w) P w K mg base N qual scope f cd A outer aT aD E) aa σ H s)
  (os:s'.os=s.os) (bare:AllBare s'.gens) (un:Un (envOfC qual scope aT.heap.objs.size f cd::outer |> iG) [] H H' s.heap s'.heap) (bt:jP P w H' B)
  (gJ:∀b o,s.heap.get? b=some o->b∉iG (envOfC qual scope aT.heap.objs.size f cd::outer)->(∃o',B.get? b=some o')/\(H b=none->B.get? b=some o))
  (ff:s'.heap.FunFrames B (envOfC qual scope aT.heap.objs.size f cd::outer)) (tO:re B outer a C t h') (up:s'.heap.UpToSlots h') (na:s.heap.get? a=none) (AH:H' a=none) (he:E (.ref C) none H'):ko P w outer aD aT E (.ref a) { s' with heap:=h' }:=by
 have AG:∀b o,aT.heap.get? b=some o->b∉iG outer->b∉iG (envOfC qual scope aT.heap.objs.size f cd::outer):=λb o q n m=>by
  rcases Zf.mp (I.lO b m) with z |z
  .have:b<aT.heap.objs.size:=Heap.lt_size q;have h2:aT.heap.objs.size<=b:=by rw[z];exact I.ok.above
   exact absurd (Ya this h2) (Yv _)
  .exact n z
 have KC:∀b,b∈iG outer->b∈iG (envOfC qual scope aT.heap.objs.size f cd::outer):=λb m=>by
  unfold iG;rw[Xu];exact Zk _ m
 have ub:Un (iG outer) [] aD H aT.heap s.heap:=I.base;refine⟨a,C,t,B,H',rfl,os.trans I.os,bare,⟨λb o q n nf _=>?_,λb o q n m _=>?_,λb o q n _=>?_,λb o q _=>?_,λb xs q=>un.jY b xs (ub.jY b xs q),λb o u q=>un.lN b o u (ub.lN b o u q),λb ps q=>?_⟩,bt,λb o q nf=>?_,tO,?_,AH,he⟩
 .exact tO.st b o ((gJ b o (ub.keep b o q n nf (by simp)) (AG b o q nf)).2 (ub.free b o q n (by simp)))
 .obtain⟨sl,q1⟩:=ub.slot b o q n m (by simp);obtain⟨cv,q2⟩:=un.slot b _ q1 (ub.free b o q n (by simp)) (KC b m) (by simp);obtain⟨_,o3,q3,nf⟩:=ff.mem (KC b m);rw[q2] at q3;cases q3;obtain⟨NS,q4⟩:=up b _ q2 nf;exact⟨NS,q4⟩
 .obtain⟨o',q1⟩:=ub.there b o q (by simp);exact un.free b o' q1 (ub.free b o q n (by simp)) (by simp)
 .obtain⟨o',q1⟩:=ub.there b o q (by simp);by_cases m:b∈iG outer
  .obtain⟨_,o3,q3,nf⟩:=ff.mem (KC b m);obtain⟨NS,q4⟩:=up b _ q3 nf;exact⟨_,q4⟩
  .obtain⟨o2,q2⟩:=(gJ b o' q1 (AG b o q m)).1;exact⟨o2,tO.st b o2 q2⟩
 .obtain⟨m1,e1⟩:=ub.mw b ps q;obtain⟨m2,e2⟩:=un.mw b _ e1;exact⟨m1++m2,by rw[e2,Array.append_assoc]⟩
 .obtain⟨o',q1⟩:=ub.there b o q (by simp);refine⟨(gJ b o' q1 (AG b o q nf)).1,λn=>?_⟩;have q2:=ub.keep b o q n nf (by simp);exact(gJ b o q2 (AG b o q nf)).2 (ub.free b o q n (by simp))
 .cases q:aT.heap.get? a with
  |none=>rfl
  |some o =>
   obtain⟨o',q1⟩:=ub.there a o q (by simp);rw[na] at q1;cases q1
theorem xF:lV (ko P w) (gI (ko P w) P w K mg base N qual scope f cd A outer aT aD E) E:=by
 intro aa σ H s e s' I h;obtain⟨a,C,t,B,H',rfl,os,bare,un,bt,gJ,tO,na,AH,he⟩:=h;refine qT (L:=aT.heap.objs.size) tO I.ok.frames rfl λh' rC up=>?_
 exact yC I os bare un bt gJ tO.ff rC up na AH he
theorem LF {aa:Γ2}{σ:St}{H:Hp}{s:Shared}{h1:Heap}{a C:Addr}{args:Δ3}(I:Inv (gI (ko P w) P w K mg base N qual scope f cd A outer aT aD E) aa σ H s)(mk:Heap.MadeExcOf s.heap h1 a (.ref C) args)(he:E (.ref C) none H) :
  (gI (ko P w) P w K mg base N qual scope f cd A outer aT aD E).xe (.ref a) { s with heap:=h1 }:=by
 obtain⟨t,ht,htn,_⟩:=mk.there;have FA:∀b u,H b=some u->b∉iG (envOfC qual scope aT.heap.objs.size f cd::outer):=λb u q m=>by
  have:=I.se b m;rw[q] at this;cases this
 have hB:∀b∈iG (envOfC qual scope aT.heap.objs.size f cd::outer),(PySem.W.hideAll s.heap (iG (envOfC qual scope aT.heap.objs.size f cd::outer))).get? b=none:=λb m=>PySem.W.hideAll_none _ m
 have W8:jP P w H (PySem.W.hideAll s.heap (iG (envOfC qual scope aT.heap.objs.size f cd::outer))):=λb u q =>
  (I.bt b u q).ay (λc v hc qc=>PySem.W.hideAll_get _ qc (by
   rcases hc with z |z
   .rw[z];exact FA b u q
   .exact FA c _ z)) (λ_ z=>z) λ_ _ z=>z
 have AH:H a=none:=by
  cases q:H a with
  |none=>rfl
  |some u =>
   obtain⟨o,ho⟩:=Mq (I.bt a u q);rw[mk.new] at ho;cases ho
 have QI:re (PySem.W.hideAll s.heap (iG (envOfC qual scope aT.heap.objs.size f cd::outer))) (envOfC qual scope aT.heap.objs.size f cd::outer) a C t h1:=by
  refine⟨λb o q=>mk.keeps b o (PySem.W.of_hideAll _ q),?_,(yD hB I.stack).of_keeps λb o q _=>⟨o,mk.keeps b o q,rfl⟩,.none,ht,.inl rfl⟩;cases q:(PySem.W.hideAll s.heap (iG (envOfC qual scope aT.heap.objs.size f cd::outer))).get? a with
  |none=>rfl
  |some o=>have:=PySem.W.of_hideAll _ q;rw[mk.new] at this;cases this
 refine qT (s:={ s with heap:=h1 }) (L:=aT.heap.objs.size) QI I.ok.frames rfl λh' rC up=>?_
 exact yC (s':={ s with heap:=h1 }) I rfl I.bare (Un.kept mk.keeps) W8 (λb o q n=>⟨⟨o,PySem.W.hideAll_get _ q n⟩,λ_=>PySem.W.hideAll_get _ q n⟩) QI.ff rC up mk.new AH he
theorem cy.N3 {x qual:Str}{st:Stmt}{f:Addr}{fd:FuncData}{N ps:Δ2}{k:Nat}{sp:Sp}(F:cy K x qual st f fd)(S:ao N ps (aS st))(len:∀vs H Q E,sp vs H Q E->vs.length=ps.length)
  (on:∀(bf:Value) (A:Around) (outer:List Env) (s:Shared) (H:Hp) (vs:List V) (Q:VK) (E:XK),cz k (A.deeper (envOfC qual (aS st) s.heap.objs.size f bf))->sp vs H Q E ->
   ∃t,iH (gI (ko P w) P w K mg base N qual (aS st) f bf A outer s H E) (pZ st) t/\t { nx:=λ_ H'=>Q .bO H',rt:=Q } (start N vs) H):aJ P w K mg base (ko P w) (k+1) f fd ps sp:=by
 obtain⟨oc,od,kV,gF,pm,an,bf,ct,Ew,rfl,lk,tN⟩:=F.ex;exact IY lk tN S len λA outer s H vs Q E hr vG=>on bf A outer s H vs Q E hr vG
end
def K5 (E:XK)(C:Addr)(t:TA):TS:=λ_ σ H=>t σ H λvs H1=>vs.length<=sizeLine/\E (.ref C) none H1
theorem uz {P:Program}{w:World}{K:Θ1}{mg:Θ3}{base:Heap}{N:Δ2}{qual:Str}{scope:Scope}{f:Addr}{cd:Value}{A:Around}{outer:List Env}{aT:Shared}{aD:Hp}{E:XK}
  {x:Str}{C:Addr}{e:Expr}{es:Ξ2}{t:TA}{np bV pos:Pos}{OS:Δ3}{B ua wn:String}(FB:ExcBaseFacts B ua wn OS) (hg:Gl (gI (ko P w) P w K mg base N qual scope f cd A outer aT aD E) x) (hm:mg x=some (.ref C)) (hx:PySem.W.excIn K C OS ua=true)
  (ha:PA (gI (ko P w) P w K mg base N qual scope f cd A outer aT aD E) (e::es) t) (hd:(x == ("__debug__" : Str))=false:=by decide)
  (he:starEach (e::es) (envOfC qual scope aT.heap.objs.size f cd)=(false,eval e (envOfC qual scope aT.heap.objs.size f cd))::starEach es (envOfC qual scope aT.heap.objs.size f cd):=by rfl)
  (et:(backTo bV (starEach es (envOfC qual scope aT.heap.objs.size f cd))).any (·.1)=false:=by rfl) :
  PS (gI (ko P w) P w K mg base N qual scope f cd A outer aT aD E) (.Raise (some (.Call (.Name x np) (e::es) [] bV)) none pos) (K5 E C t):=by
 intro aa s σ H D I h;unfold PySem.W.excIn at hx;split at hx
 .rename_i dd cdd sl ho;split at hx
  .rename_i C' bm k0 k1 k2 k3 n k5 P1 hs;simp only[Zl,beq_iff_eq,Bool.not_eq_true'] at hx;obtain⟨⟨⟨⟨⟨rfl,rfl⟩,P9⟩,ht⟩,bt⟩,ZA⟩:=hx;obtain⟨nm,bs,mro,ns,qn,hdd,sn,sub,ab,col,del⟩:=cdd;dsimp only at P1 P9 bt ZA;subst P1 P9;have hsl:sl=#[k0,k1,k2,k3,some (.builtin n),k5]:=by
    obtain⟨l⟩:=sl;simp only at hs;rw[hs]
   subst hsl;have kb:K.In base:=I.ok.mod.HH;have nsB:=Heap.Ns.of_isNs (PySem.W.isNs_of_in kb bt);refine wpAny_Raise_call_subT FB (C:=C') (nm:=nm) (q:=qn) (N:=ns) (bs:=bs) (bm:=bm) (hdct:=hdd) (sn:=sn) (sub:=sub) (ab:=ab) (col:=col) (dd:=dd) (k0:=k0) (k1:=k1) (k2:=k2) (k3:=k3) (k5:=k5) (mN:=base.nsMap ns)
    ((PySem.W.tail_of_in kb ht).hasType FB.hasBase) (I.ok.hd rfl) ?_ (PySem.W.nsMap_none_of_in kb bt ZA) ?_
   .show(backTo bV (starEach (e::es) (envOfC qual scope aT.heap.objs.size f cd))).any (·.1)=false;rw[he];show(false||(backTo bV (starEach es (envOfC qual scope aT.heap.objs.size f cd))).any (·.1))=false;rw[et];rfl
   .refine eV I hg hm ⟨rfl,?_⟩ hd;show wpAny _ _ (evalArgs (.ref C') true (backTo bV (starEach (e::es) (envOfC qual scope aT.heap.objs.size f cd))) []) _ _ s;have ha':=ha bV aa s σ H _ I h;have Si:wpAny (model P w) (A.deeper (envOfC qual scope aT.heap.objs.size f cd)) (spliced (backTo bV (starEach (e::es) (envOfC qual scope aT.heap.objs.size f cd)))) _ _ s:=ha';rw[he] at Si ⊢;refine Calls.evalArgs_plain (bi Si λus s2 ⟨vs,H2,I2,r,z,q⟩=>?_);exact⟨rfl,by rw[<- r.length];exact z,I2.bk _ _ (kb _ _ ho),nsB.keeps I2.bk,(PySem.W.tail_of_in kb ht).keeps I2.bk,λh' a mk=>LF I2 mk q⟩
  .cases hx
 .cases hx
end L2
namespace EX
open PySem PySem.Spec PyProof.Rows
theorem pX:entryFor table "proto.unchain"=some Builtin.«proto.unchain»:=entryFor_of_tree (by kernel_rfl)
section
variable {prog:Program}{w:World}{A:Around}{E:Θ2}{s:Shared}
theorem pT {α : Type}{Q:α->Shared->Prop}{a hA C t:Addr}{hd:Value}{oa:Obj}{vs:Array Value}(hh:A.handled=some (.ref hA))(ne:hA≠a)(hH:s.heap.get? hA=some (dZ C t hd))(ha:s.heap.get? a=some oa)(da:oa.data=.fields vs)(hz:2<vs.size)
  (h:E (.ref a) { s with heap:=s.heap.update a (Obj.mapFields (·.setIfInBounds 2 (.ref hA))) }):wpAny (model prog w) A (raiseNew (.ref a):Sem α) Q E s:=by
 unfold raiseNew;refine Za (wpAny_handled ?_);rw[hh];have n:((Value.ref hA != Value.ref a)=true):=by simp[ne]
 simp only[n,if_true];refine Za (wpAny_holding (wpAny_runValue (codeAny_builtin pX ?_)));unfold Builtin.«proto.unchain»;refine Za (wpAny_field hH rfl (x:=.none) rfl ?_);rw[if_pos (by decide)];have back:wpAny (model prog w) A (do updateField a 2 (Value.ref hA);throw (Value.ref a):Sem α) Q E s:=by
  unfold updateField;refine Za (Za (wpAny_load ha ?_));rw[da];show wpAny _ _ (if 2<vs.size then _ else _) _ _ s;rw[if_pos hz];exact wpAny_update ha (wpAny_throw h)
 first
  |exact wpAny_pure back
  |exact Za (wpAny_pure (wpAny_pure back))
  |exact Za (wpAny_pure back)
  |(wp_walk;exact back)
theorem uY {hA C t:Addr}{hd:Value}{it:Addr}{x left step:Int}{Q:Φ1->Shared->Prop}(hh:A.handled=some (.ref hA))(hH:s.heap.get? hA=some (dZ C t hd))(EM:IsRangeIter s.heap it x left step)(hl:left<=0)
  (k:∀h',Heap.ExtBut it s.heap h'->Q none { s with heap:=h' }):wpAny (model prog w) A (pyNext (.ref it)) Q E s:=by
 have ty:s.TypeIs (.ref it) "range_iterator":=⟨_,EM,rfl⟩;unfold pyNext;refine Za (wpAny_attempt (wpAny_callSpecial?_slot (name:=Str.ofString "__next__") ty F.slot_range_iterator_next (wpAny_call_entry F.slot_range_iterator_next ty F.entry_range_iterator_next ?_ (F.args_range_iterator_next_1 _))));show wpAny _ _ (field (.ref it) 0 >>= _) _ _ s;refine Za (wpAny_field EM rfl (x:=rawInt x) rfl ?_);show wpAny _ _ (field (.ref it) 1 >>= _) _ _ s;refine Za (wpAny_field EM rfl (x:=rawInt left) rfl ?_);show wpAny _ _ (field (.ref it) 2 >>= _) _ _ s;refine Za (wpAny_field EM rfl (x:=rawInt step) rfl ?_);show wpAny _ _ (if left<=0 then _ else _) _ _ s;rw[if_pos hl];refine Za (wpAny_rule (Za ?_));show wpAny _ _ (newExc (.type "StopIteration") [] >>= _) _ _ _;refine Za ?_;simp only[newExc,newTuple];refine Za (wpAny_newObj_type ?_ (by size_fits));refine Za (m:=firstArgMember _ _) (wpAny_of_eq (a:=Value.none) (by first |rfl |(simp only[firstArgMember];rfl)) ?_);refine wpAny_newObj_type ?_ (by size_fits);refine pT (hA:=hA) (C:=C) (t:=t) (hd:=hd) (by first |exact hh |(show A.in1.handled=_;exact hh)) ?_ (Heap.get?_push_of_some _ (Heap.get?_push_of_some _ hH)) (Heap.get?_push_size _ rfl) rfl ?_ ?_
 .exact Yd (Ya (Heap.lt_size hH) (by rw[Heap.size_push];exact Xa _))
 .simp only[Zt,Zn,List.length_cons,Array.size_append];first |omega |(simp;omega) |decide
 .refine Za (wpAny_isInstance (T:="StopIteration") (b:=true) ⟨_,Heap.get?_update_self _ (Heap.get?_push_size _ rfl) ?_,Obj.cls_mapFields _ _⟩ isSubtype_stop ?_)
  .exact Obj.isFreed_of_fields (Obj.data_mapFields rfl _)
  .refine wpAny_pure (k _ λb o nb q=>?_);have lt:=Heap.lt_size q;refine(Heap.get?_update_other _ _ ?_).trans (Heap.get?_push_of_some _ (Heap.get?_push_of_some _ q));exact Xj (Ya lt (by rw[Heap.size_push];exact Xa _))
end
end EX
namespace L2
open PySem PySem.Spec PyProof.Rows EX
def Qt (X:Cx):Prop:=X.calm=true\/∃hA C t hd,X.A.handled=some (.ref hA)/\(hA,dZ C t hd)∈X.pn
def tW (X:Cx)(scope:Scope)(C:Addr)(N:Δ2)(fp:List Addr)(s:Shared)(H:Hp):Cx:={ gc X scope C N fp s H with pn:=X.pn }
theorem Inv.Nc {X:Cx}{scope:Scope}{own cap:Δ2}{ix:List Nat}{aa:Γ2}{σ:St}{H:Hp}{s:Shared}(I:Inv X aa σ H s)(B:az X scope own cap ix){fp:List Addr}(hf:∀b∈fp,cR X aa H b)(ho:∀b∈fp,∃o,s.heap.get? b=some o) :
  Inv (tW X scope s.heap.objs.size (own++cap) fp s H) [] (eF own.length ix σ) H { s with heap:=pushCells (s.heap.push { cls:=.type "dict",data:=.dict #[] }) scope.names }:=by
 have J:=I.block B hf ho;refine⟨⟨J.ok.mod,J.ok.kind,J.ok.glob,J.ok.blt,J.ok.above,J.ok.inj,J.ok.has,J.ok.HR,J.ok.hd,J.ok.frames,J.ok.AG,J.ok.zf,J.ok.bs,J.ok.AO,J.ok.tT,J.ok.nR,J.ok.iR,J.ok.EO⟩,J.os,J.bare,J.base,J.loc,J.cell,J.free,J.fz,λp hp=>?_,J.bt,J.len⟩;have EL:p∈X.pn:=by simpa using(show p∈X.pn++[] from hp)
 obtain⟨q1,q2,q3,q4,q5⟩:=I.pin p (Yw _ EL);refine⟨pushCells_keeps _ _ _ _ (Heap.get?_push_of_some _ q1),q2,?_,?_,q5⟩
 .exact Yd (Heap.lt_size q1)
 .intro z;rcases Zf.mp (I.lO p.1 z) with e |e
  .exact q3 e
  .exact q4 e
structure Cb (P:Program)(w:World)(K:Θ1)(tg:Expr)(J:It)(fp:List Addr)(it:Addr)(tn:Nat->Heap->Prop):Prop where
 mem:it∈fp
 obj:∀i h,tn i h->∀b∈fp,∃o,h.get? b=some o/\∀v,o.data≠.cell v
 keep:∀i h h',tn i h->(∀b∈fp,∀o,h.get? b=some o->h'.get? b=some o)->tn i h'
 item:∀(X:Cx),X.prog=P->X.w=w->X.K=K->Qt X->∀(i:Nat) (aa:Γ2) (s:Shared) (σ:St) (H:Hp) (E:Θ2),Inv X aa σ H s->(∀b∈fp,cR X aa H b)->tn i s.heap->J.go i H ->
  wpAny (model P w) X.A (pyNext (.ref it)) (λr s1=>∃u,r=some u /\
   wpAny (model P w) X.A (letOwnedTupleGo tg (.ref it) u) (λ_ s2=>∃x H',Inv X aa σ H' s2/\RelV x u/\J.xl i H x H'/\tn (i+1) s2.heap/\∀b∈fp,H' b=none) E s1) E s
 done:∀(X:Cx),X.prog=P->X.w=w->X.K=K->Qt X->∀(i:Nat) (aa:Γ2) (s:Shared) (σ:St) (H:Hp) (E:Θ2),Inv X aa σ H s->(∀b∈fp,cR X aa H b)->tn i s.heap->J.stop i H ->
  wpAny (model P w) X.A (pyNext (.ref it)) (λr s1=>r=none/\Inv X aa σ H s1) E s
 self:∀(A:Around) (i:Nat) (s:Shared) (Q:Θ2) (E:Θ2),tn i s.heap->Q (.ref it) s->wpAny (model P w) A (pyIter (.ref it)) Q E s
def QL (X:Cx)(aa:Γ2)(σ:St)(tg:Expr)(R:It->Hp->Prop)(EI:Value)(s2:Shared):Prop :=
 ∃(it:Addr) (fp:List Addr) (tn:Nat->Heap->Prop) (J:It) (H':Hp),EI=.ref it/\Inv X aa σ H' s2/\Cb X.prog X.w X.K tg J fp it tn/\tn 0 s2.heap/\(∀b∈fp,cR X aa H' b)/\R J H'
def δ (X:Cx)(tg iter:Expr)(wi:TI):Prop :=
 ∀(aa:Γ2) (s:Shared) (σ:St) (H:Hp) (R:It->Hp->Prop),Inv X aa σ H s->wi σ H R ->
  wpAny (model X.prog X.w) X.A (eval iter X.env) (λv s1=>wpAny (model X.prog X.w) X.A (pyIter v) (QL X aa σ tg R) X.xe s1) X.xe s
theorem uX {P:Program}{w:World}{K:Θ1}{tg:Expr}(it:Addr)(lo:Int)(n:Nat):Cb P w K tg (A9 lo n) [it] it (λi h=>IsRangeIter h it (lo+(i:Nat)*1) ((n:Int)-(i:Nat)) 1) where
 mem:=by simp
 obj:=λi h st b hb=>by
  have e:b=it:=by simpa using hb
  subst e;exact⟨_,st,λv z=>by
   have z':Data.fields _=Data.cell v:=z;cases z'⟩
 keep:=λi h h' st k=>k it (by simp) _ st
 item:=by
  intro X hP hw hK hc i aa s σ H E I hf st hg;subst hP hw hK;obtain⟨f0,f1,f2,f3,f4,f5⟩:=hf it (by simp);have NE:i<n:=hg;refine wpAny_pyNext_range_item st (by omega) λh' xn kk=>?_
  have I1:Inv X aa σ H { s with heap:=h',toks:=s.toks+1 }:=I.turned (λb o hb e=>(kk.2 b hb).trans e) f0 f1 f3 f4 f5;have gG:IsRangeIter h' it (lo+((i+1:Nat):Int)*1) ((n:Int)-((i+1:Nat):Int)) 1:=by
   have e1:lo+((i+1:Nat):Int)*1=lo+(i:Int)*1+1:=by omega
   have e2:(n:Int)-((i+1:Nat):Int)=(n:Int)-(i:Int)-1:=by omega
   rw[e1,e2];exact xn
  refine⟨_,rfl,ui (s:={ s with heap:=h',toks:=s.toks+1 }) (n:="range_iterator") gG rfl rfl (by decide) ⟨.int (lo+i),H,I1,⟨s.toks,?_⟩,⟨rfl,rfl⟩,gG,λb hb=>(hf b hb).1⟩⟩;rw[Int.mul_one]
 done:=by
  intro X hP hw hK hc i aa s σ H E I hf st hg;subst hP hw hK;obtain⟨f0,f1,f2,f3,f4,f5⟩:=hf it (by simp);rcases hc with hc |⟨hA,C,t,hd,hh,hp⟩
  .exact wpAny_pyNext_range_end (I.ok.hd hc) st (by have:n<=i:=hg;omega) λh' eb=>⟨rfl,I.turned (t':=s.toks) (λb o hb e=>eb b o hb e) f0 f1 f3 f4 f5⟩
  exact EX.uY hh (I.pin _ (Yw _ hp)).1 st (by have:n<=i:=hg;omega) λh' eb=>⟨rfl,I.turned (t':=s.toks) (λb o hb e=>eb b o hb e) f0 f1 f3 f4 f5⟩
 self:=λ_ _ _ _ _ st h=>wpAny_pyIter_rangeiter st h
section
variable {X:Cx}{tg:Expr}
theorem zT {aa:Γ2}{σ:St}{H:Hp}{s:Shared}{R:It->Hp->Prop}{E:Θ2}{lo hi:Int}{t u v:Tok}{tk:Nat}(I:Inv X aa σ H s)(h1:-(2 ^ 62)<=lo)(h2:lo<2 ^ 62)(h3:-(2 ^ 62)<=hi)(h4:hi<2 ^ 62)
  (q:R (A9 lo (hi-lo).toNat) H):wpAny (model X.prog X.w) X.A (pyIter (.ref s.heap.objs.size)) (QL X aa σ tg R) E { s with heap:=s.heap.push { cls:=.type "range",data:=.fields #[.int lo t,.int hi u,.int 1 v] },toks:=tk }:=by
 refine wpAny_pyIter_range (IsRange.new ..) (small_one h1 h2 h3 h4) ?_;have I1:Inv X aa σ H { s with heap:=s.heap.push { cls:=.type "range",data:=.fields #[.int lo t,.int hi u,.int 1 v] },toks:=tk }:=I.kept λb o e=>Heap.get?_push_of_some _ e
 refine⟨(s.heap.push { cls:=.type "range",data:=.fields #[.int lo t,.int hi u,.int 1 v] }).objs.size,[(s.heap.push { cls:=.type "range",data:=.fields #[.int lo t,.int hi u,.int 1 v] }).objs.size],_,_,H,rfl,
  I1.kept (t':=tk) λb o e=>Heap.get?_push_of_some _ e,uX _ lo (hi-lo).toNat,?_,λb hb=>?_,q⟩
 .have e1:lo+((0:Nat):Int)*1=lo:=by simp
  have e2:(((hi-lo).toNat:Nat):Int)-((0:Nat):Int)=Builtin.Range.rangeSize lo hi 1:=by rw[rangeSize_one];split<;>omega
  show IsRangeIter _ _ (lo+((0:Nat):Int)*1) ((((hi-lo).toNat:Nat):Int)-((0:Nat):Int)) 1;rw[e1,e2];exact Heap.get?_push_size _ rfl
 .have e:b=(s.heap.push { cls:=.type "range",data:=.fields #[.int lo t,.int hi u,.int 1 v] }).objs.size:=by simpa using hb
  subst e;exact I1.jL (Ze _) (I1.bt.fresh (Ze _))
theorem wK {a:Expr}{ta:TA}{p pos:Pos}(hg:Gl X "range")(hm:X.mg "range"=none)(ha:PA X [a] ta)(hs:starEach [a] X.env=[(false,eval a X.env)]:=by rfl):δ X tg (.Call (.Name "range" p) [a] [] pos) (IP ta):=by
 intro aa s σ H R I h;refine Call_ (fQ I hg hm boot_range (PyProof.Rows.callWith_type1 (bi (ha pos aa s σ H _ I h) λus s1 ⟨vs,H1,I1,r1,q1⟩=>?_) hs rfl));obtain⟨j,e,q1,q2,q⟩:=q1;subst e;cases r1 with
 |cons r rr =>
  cases rr
  obtain⟨t,rfl⟩:=r;exact call_range_1 (zT I1 (by omega) (by omega) q1 q2 (by simpa using q))
end
section
variable {X:Cx}{scope:Scope}{own cap:Δ2}{ix:List Nat}{tg iter c7:Expr}{fg:Ξ2}{wi:TI}{g:TG}{tt:TT}{te:TE}{pos:Pos}
theorem xf {aa:Γ2}{σ:St}{H2:Hp}{s2:Shared}{it:Addr}{fp:List Addr}{tn:Nat->Heap->Prop}{J:It}{Q:VK}{RR:Value->Addr->Result->Shared->Prop}{E:Θ2}
  (B:az X scope own cap ix) (hc:Qt X)
  (hb:∀C fp s H,PG (tW X scope C (own++cap) fp s H) tg g/\fo (tW X scope C (own++cap) fp s H) fg tt/\PE (tW X scope C (own++cap) fp s H) c7 te)
  (I2:Inv X aa σ H2 s2) (T:Cb X.prog X.w X.K tg J fp it tn) (gG:tn 0 s2.heap) (f2:∀b∈fp,cR X aa H2 b)
  (q:∀acc,H2 acc=none->cr g tt te J acc (eF own.length ix σ) H2 Q)
  (JE:∀D C H' s' m,Inv X aa σ H' s'->Q (.ref D) H'->s'.heap.Ns C m->cR X aa H' C->RR (.ref D) C (.ok .next) s') :
  wpAny (model X.prog X.w) X.A (newList []) (λacc cO=>wpAny (model X.prog X.w) X.A (newFunctionEnv scope X.env.globals (dH X.env scope.names []) [] X.env.qual none .none (some X.env)) (λnW ic =>
   codeAny (model X.prog X.w) X.A (.compStart (.ListComp c7 [⟨tg,iter,fg,0⟩] scope pos) 0 (.ref it) acc { nW with scope:=relabel scope X.env }) (RR acc nW.locals) ic) E cO) E s2:=by
 refine wpAny_newObj_type (gl ?_);have I3:Inv X aa σ (aK H2 s2.heap.objs.size (.lst [])) { s2 with heap:=s2.heap.push { cls:=.type "list",dict:=none,data:=.seq ([]:Δ3).toArray } }:=I2.Bk (its:=[]) (ys:=[]) (t':=s2.toks) .nil (Yn _);obtain⟨W,⟨m0,w0⟩,turn⟩:=q s2.heap.objs.size I2.fresh;generalize hD:s2.heap.objs.size=D at I3 w0 turn ⊢;have cG:∀b∈fp,b<D:=λb bv=>by
  obtain⟨o,e,_⟩:=T.obj 0 _ gG b bv;rw[<- hD];exact Heap.lt_size e
 generalize Jo:({ s2 with heap:=s2.heap.push { cls:=.type "list",dict:=none,data:=.seq ([]:Δ3).toArray } }:Shared)=s3 at I3 ⊢;have iY:∀b o,s2.heap.get? b=some o->s3.heap.get? b=some o:=λb o e=>by rw[<- Jo];exact Heap.get?_push_of_some _ e
 have f3:∀b∈fp,cR X aa (aK H2 D (.lst [])) b:=λb bv=>⟨by rw[dh (Yd (cG b bv))];exact(f2 b bv).1,(f2 b bv).2⟩
 have o3:∀b∈fp,∃o,s3.heap.get? b=some o:=λb bv=>let ⟨o,e,_⟩:=T.obj 0 _ gG b bv;⟨o,iY b o e⟩
 have I4:=I3.Nc B f3 o3;have AS:tn 0 (pushCells (s3.heap.push { cls:=.type "dict",data:=.dict #[] }) scope.names):=T.keep 0 _ _ gG λb _ o e=>pushCells_keeps _ _ b o (Heap.get?_push_of_some _ (iY b o e))
 obtain⟨hg,A3,he⟩:=hb s3.heap.objs.size fp s3 (aK H2 D (.lst []));generalize ib:tW X scope s3.heap.objs.size (own++cap) fp s3 (aK H2 D (.lst []))=X' at I4 hg A3 he;have eP:X'.prog=X.prog:=by rw[<- ib];rfl
 have eW:X'.w=X.w:=by rw[<- ib];rfl
 have eK:X'.K=X.K:=by rw[<- ib];rfl
 have eA:X'.A=X.A:=by rw[<- ib];rfl
 have eE:X'.env=iC scope s3.heap.objs.size X.env:=by rw[<- ib];rfl
 have ex:X'.xe=λ_ _=>False:=by rw[<- ib];rfl
 have jN:Qt X':=by rw[<- ib];exact hc
 have ii:∀{H':Hp},(∀b∈fp,H' b=none)->∀b∈fp,cR X' [] H' b:=λhn b bv=>by
  subst ib;exact⟨hn b bv,(I4.ok.zf b bv).1,I4.ok.nR b bv,.inl bv,(I4.ok.zf b bv).2,λp hp=>(f3 b bv).2.2.2.2.2 p (Yw _ (by simpa using(show p∈X.pn++[] from hp)))⟩
 have nM:∀s4:Shared,s4={ s3 with heap:=pushCells (s3.heap.push { cls:=.type "dict",data:=.dict #[] }) scope.names } ->
   codeAny (model X.prog X.w) X.A (.compLoop (.ListComp c7 [⟨tg,iter,fg,0⟩] scope pos) 0 (.ref it) (.ref D) (iC scope s3.heap.objs.size X.env)) (RR (.ref D) s3.heap.objs.size) s4:=by
  rintro s4 rfl;refine qI (λn s'=>∃i aC H',Inv X' [] aC H' s'/\tn i s'.heap/\(∀b∈fp,H' b=none)/\W i n aC H') ?_ m0 ⟨0,_,_,I4,AS,λb bv=>(f3 b bv).1,w0⟩;rintro n s5 ⟨i,nz,H5,I5,nB,ze,w5⟩;rcases turn i n nz H5 w5 with ⟨stop,qn⟩ |⟨go,N,hN,step⟩
  .have:=T.done X' eP eW eK jN i [] s5 nz H5 (λ_ _=>False) I5 (ii ze) nB stop;rw[eA] at this;refine bi this λr s6 ⟨hr,I6⟩=>?_
   subst hr;subst ib;have J6:Inv X aa σ H5 s6:=I3.ql (ch:=fp) I6.os I6.base I6.bt I6.bare λb bv=>⟨(f3 b bv).2.2.2.1,(f3 b bv).2.1,(f3 b bv).2.2.2.2.1,(f3 b bv).2.2.2.2.2⟩
   obtain⟨m,hn,_⟩:=I6.loc;exact JE D _ H5 s6 m J6 qn hn (I3.jL (Ze _) I6.free)
  .have:=T.item X' eP eW eK jN i [] s5 nz H5 (λ_ _=>False) I5 (ii ze) nB go;rw[eA] at this;refine bi this λr s6 ⟨u,hr,h6⟩=>?_
   subst hr;refine bi h6 λ_ s7 ⟨x,H7,I7,r7,y7,vz,JG⟩=>?_
   have JN:=I7.pinned (ii JG) (T.obj _ _ vz);have a1:=hg _ s7 nz H7 x u _ JN r7 (step x H7 y7);rw[eP,eW,eA,eE,ex] at a1;refine bi a1 λ_ s8 ⟨vj,H8,I8,q8⟩=>?_
   have a2:=A3 _ s8 vj H8 _ I8 q8;rw[eP,eW,eA,eE,ex] at a2;refine bi a2 λb s9 ⟨H9,I9,q9⟩=>?_
   have again:∀{s':Shared}{aC:St}{H':Hp},Inv X' ([]++dJ fp s7.heap) aC H' s'->N aC H'->∃m,m<n/\∃i aC H',Inv X' [] aC H' s'/\tn i s'.heap/\(∀b∈fp,H' b=none)/\W i m aC H':=λ{s' aC H'} I' n'=>by
    obtain⟨m',hm,w'⟩:=hN aC H' n';refine⟨m',hm,i+1,aC,H',I'.df,T.keep _ _ _ vz λb bv o e=>(I'.pin (b,o) (Zq _ (Zq _ (AK bv e)))).1,λb bv=>?_,w'⟩;obtain⟨o,e,d⟩:=T.obj _ _ vz b bv;exact(I'.pin (b,o) (Zq _ (Zq _ (AK bv e)))).2.1
   cases b with
   |false=>exact again I9 q9
   |true =>
    rw[if_pos rfl] at q9 ⊢;have a3:=he _ s9 vj H9 _ I9 q9;rw[eP,eW,eA,eE,ex] at a3;refine bi a3 λyv Nt ⟨y,OY,OX,NX,ys,Oe,hz,NZ⟩=>?_
    have a4:=jG (X:=X') _ Nt vj OY (.ref D) [y] (.ref D) [yv] (λv H'=>v=.bO/\N vj H') OX rfl (.cons NX .nil) ⟨D,ys,y,rfl,rfl,Oe,hz,rfl,NZ⟩;rw[eP,eW,eA,ex] at a4;refine bi a4 λ_ NT ⟨_,V9,JO,_,_,NY⟩=>again JO NY
 exact codeAny_compStart_list (nM _ rfl) (T.self X.A 0 _ _ _ AS (nM _ rfl))
theorem DD (B:az X scope own cap ix)(hc:Qt X)(hi:δ X tg iter wi)
  (hb:∀C fp s H,PG (tW X scope C (own++cap) fp s H) tg g/\fo (tW X scope C (own++cap) fp s H) fg tt/\PE (tW X scope C (own++cap) fp s H) c7 te)
  (hs:∀x,foldedSetIterable iter X.env x=pure x:=by intro _;rfl):PE X (.ListComp c7 [⟨tg,iter,fg,0⟩] scope pos) (tZ wi g tt te own.length ix):=by
 intro aa s σ H Q I h;rw[eval_ListComp];have has:∀x∈scope.names,x.2=.free->(X.env.cells.lookup x.1).isSome=true:=λx hx hk=>by
  obtain⟨c,e⟩:=I.ok.has x.1 (B.frees x hx hk);rw[e];rfl
 refine wpAny_comprehension_free (use:=none) rfl hs (N9 has) B.kind B.names ?_;show wpAny _ _ (eval iter X.env) _ _ s;refine bi (hi aa s σ H _ I h) λv s1 h1=>bi h1 λEI s2 h2=>?_
 obtain⟨it,fp,tn,J,H2,e,I2,T,gG,f2,q⟩:=h2;subst e;refine xf (RR:=λacc C=>compPost (model X.prog X.w) X.A X.xe none (EP X aa σ Q) acc C) B hc hb I2 T gG f2 q ?_;intro D C H' s' m I' q' hn fC;refine⟨m,hn,λh' vH=>⟨.ref D,H',?_,rfl,q'⟩⟩;exact I'.turned (t':=s'.toks) (it:=C) (λb o Fb e=>(vH.2 b Fb).trans e) fC.1 fC.2.1 fC.2.2.2.1 fC.2.2.2.2.1 fC.2.2.2.2.2
end
end L2
namespace EX
open PySem PySem.Spec PyProof.Rows PySem.W
structure zA (K:Frag)(D:Addr):Prop where
 ga:findIn K (.ref D) "__getattribute__"=some (some (.builtin "BaseException.__getattribute__"))
 gt:findIn K (.ref D) "__getattr__"=some none
 cl:findIn K (.ref D) "__class__"=some (some (.builtin "object.__class__"))
 get:specialIn K (.builtin "object.__class__") "__get__"=some (some (.builtin "getset_descriptor.__get__"))
 tk:takesIn K (.builtin "object.__class__")=some true
 ob:mroIn K D (.type "object")=some true
 be:mroIn K D (.type "BaseException")=some true
section
variable {prog:Program}{w:World}{A:Around}{E:Θ2}{s:Shared}{K:Frag}{x D t:Addr}{hd:Value}
theorem oU {h:Heap}(hx:h.get? x=some (dZ D t hd)):PySem.W.InstAt h x (dZ D t hd) D none:=⟨hx,rfl,rfl,trivial⟩
theorem At {Q:Φ1->Shared->Prop}(Z:zA K D)(X:K.In s.heap)(hx:s.heap.get? x=some (dZ D t hd))(k:Q (some (.ref D)) { s with toks:=s.toks+1 }):wpAny (model prog w) A (getAttr? (.ref x) "__class__") Q E s:=by
 have I:=oU hx;obtain⟨hh,g,d,tt,os⟩:=s;have L0:=I.type (M:=model prog w);have L1:=looks_findIn (M:=model prog w) X Z.ga;have L2:=looks_findIn (M:=model prog w) X Z.gt;have KJ:∃cd,clsIn K D=some cd:=by
  have:=Z.ob;unfold mroIn at this;obtain⟨cd,q,_⟩:=Qr.mp this;exact⟨cd,q⟩
 have hf:findObj K D none "__class__"=some (.bind (.builtin "getset_descriptor.__get__") (.builtin "object.__class__")):=by
  obtain⟨cd,hc⟩:=KJ;unfold findObj;rw[hc,Option.bind_some,Z.cl,Option.bind_some];simp[Z.get,Z.tk]
 have L3:=looks_find (M:=model prog w) X I hf;have L4:=looks_mroIn (M:=model prog w) X Z.be;unfold getAttr? getAttrBy? getAttrBy;refine Za (wpAny_mkText (Za (wpAny_attempt (wpAny_holding (Za (L0.at (Za (L1.at ?_))))))));show wpAny _ _ (if (onTheHeap (Value.ref D)&&Value.builtin "BaseException.__getattribute__" == .builtin "object.__getattribute__")=true then _ else getAttrByItsOwn _ _ _ _ _ _) _ _ _;rw[if_neg (by rw[show(Value.builtin "BaseException.__getattribute__" == Value.builtin "object.__getattribute__")=false by decide+kernel,Xk];exact Zy)];unfold getAttrByItsOwn hookBefore;refine Za (L2.at (Za (wpAny_attempt (wpAny_holding ?_))));show wpAny _ _ (boundAndCalled _ _ _) _ _ _;unfold boundAndCalled;have f3:=F.attr_ValueError.ga.bind (.ref x);rw[f3];refine Za (wpAny_pure (wpAny_call (codeAny_call_builtin F.attr_ValueError.ga.plain F.entry_bexc_ga ?_)));have hk:builtinKind "BaseException.__getattribute__"=some .slot:=by decide+kernel
 have vG:splitId "BaseException.__getattribute__"=some ("BaseException","__getattribute__"):=by decide+kernel
 have Sf:=F.args_bexc_ga (.ref x) (.str "__class__" tt);simp only[checkBuiltinCall,hk,vG];have LI:Looks (model prog w) hh (isInstance (.ref x) (.type "BaseException")) true:=L0.andThen L4;show wpAny _ _ (isInstance (.ref x) (.type "BaseException") >>= _) _ _ _;refine Za (LI.at ?_);simp only[Bool.not_true,Bool.false_eq_true,if_false];unfold argsOk at Sf;show wpAny _ _ (match Manifest.signature? "BaseException.__getattribute__" with |some sig=>Bind.checkArgs "BaseException.__getattribute__" sig ⟨[.ref x,.str "__class__" tt],[]⟩ |x=>pure ()) _ _ _;refine wpAny_of_eq Sf ?_;unfold Builtin.«object.__getattribute__»
 repeat (any_goals (first |with_reducible refine L0.at ?_ |with_reducible refine L3.at ?_ |wp_step))
 refine class_get (s:=⟨hh,g,d,tt+1,os⟩) X I Z.ob ?_;exact wpAny_pure (handed_on rfl (wpAny_pure k))
theorem D5 (Z:zA K D):KitX K (.ref x) (.ref D) (λh=>h.get? x=some (dZ D t hd)) where
 ty:=λ_ _ _ hx=>(oU hx).type
 it:=λM h X _=>by
  have:=Z.ob;unfold mroIn at this;obtain⟨cd,q,_⟩:=Qr.mp this;unfold clsIn at q;split at q
  .rename_i c' d' cd' gE ho;intro A' Q' E' s' k hq;unfold isType loadHead;exact Za (wpAny_loadPart (k _ _ (X _ _ ho)) (wpAny_pure hq))
  .cases q
 ne:=λh tp dd its n sl X NA=>by
  have:=Z.ob;unfold mroIn at this;obtain⟨cd,q,_⟩:=Qr.mp this;refine Ym.mpr λz=>?_
  have e:D=tp:=Value.ref.inj (beq_iff_eq.mp z);subst e;unfold clsIn at q;split at q
  .rename_i c' d' cd' gE ho;have y:=(X _ _ ho).symm.trans NA;cases y
  .cases q
 ca:=λX hx k=>At Z X hx k
end
end EX
namespace L2
open PySem PySem.Spec PyProof.Rows EX
def Pb (K:Θ1)(D:Addr)(c:Value)(ea:Addr)(te:TE):TE:=λσ H Q=>te σ H λx H1=>x=.ref ea/\∃b,PySem.W.kitOne K (.ref D) c=some b/\Q (.bl b) H1
section
variable {X:Cx}{e:Expr}{te:TE}{ea D t:Addr}{hd:Value}
theorem CW {aa:Γ2}{s:Shared}{σ:St}{H:Hp}{Q:VK}{c:Value}{b:Bool}(Z:zA X.K D)(hp:(ea,dZ D t hd)∈X.pn)(I:Inv X aa σ H s)(ek:PySem.W.kitOne X.K (.ref D) c=some b)(q:Q (.bl b) H) :
  wpAny (model X.prog X.w) X.A (call (.builtin "isinstance") [.ref ea,c]) (EP X aa σ Q) X.xe s :=
 PySem.W.kia_one (D5 (x:=ea) (t:=t) (hd:=hd) Z) I.l9 (I.pin _ (Yw _ hp)).1 ek (λz=>nomatch z) λtk=>⟨.bl b,H,I.tok tk,rfl,q⟩
theorem AX {T:Str}{C:Addr}{p p2 pos:Pos}(Z:zA X.K D)(hp:(ea,dZ D t hd)∈X.pn)(he:PE X e te)(hg:Gl X "isinstance")(hm:X.mg "isinstance"=none)(A4:Gl X T)(A2:X.mg T=some (.ref C))
  (hb:bootBuiltins "isinstance"=some (.builtin "isinstance")) (Jy:(T == ("__debug__" : Str))=false:=by decide)
  (hs:starEach [e,.Name T p2] X.env=[(false,eval e X.env),(false,eval (.Name T p2) X.env)]:=by rfl)
  (et:(backTo pos (starEach [.Name T p2] X.env)).any (·.1)=false:=by rfl):PE X (.Call (.Name "isinstance" p) [e,.Name T p2] [] pos) (Pb X.K D (.ref C) ea te):=by
 intro aa s σ H Q I h;refine Call_ (fQ I hg hm hb (PyProof.Rows.callWith_builtin1 (J0 (Q:=λus s1=>wpAny (model X.prog X.w) X.A (call (.builtin "isinstance") us) (EP X aa σ Q) X.xe s1) he I h hs λu s1 x H1 I1 r q=>?_) ?_ et))
 .refine eV I1 A4 A2 ?_ Jy;obtain⟨rfl,b,ek,q⟩:=q;cases r;exact CW Z hp I1 ek q
 .rw[hs];rfl
theorem GL {T:Str}{n:String}{p p2 pos:Pos}(Z:zA X.K D)(hp:(ea,dZ D t hd)∈X.pn)(he:PE X e te)(hg:Gl X "isinstance")(hm:X.mg "isinstance"=none)(A4:Gl X T)(A2:X.mg T=none)(hv:bootBuiltins T=some (.type n))
  (hb:bootBuiltins "isinstance"=some (.builtin "isinstance")) (Om:T ≠ "__name__":=by decide) (Jy:(T == ("__debug__" : Str))=false:=by decide)
  (hs:starEach [e,.Name T p2] X.env=[(false,eval e X.env),(false,eval (.Name T p2) X.env)]:=by rfl)
  (et:(backTo pos (starEach [.Name T p2] X.env)).any (·.1)=false:=by rfl):PE X (.Call (.Name "isinstance" p) [e,.Name T p2] [] pos) (Pb X.K D (.type n) ea te):=by
 intro aa s σ H Q I h;refine Call_ (fQ I hg hm hb (PyProof.Rows.callWith_builtin1 (J0 (Q:=λus s1=>wpAny (model X.prog X.w) X.A (call (.builtin "isinstance") us) (EP X aa σ Q) X.xe s1) he I h hs λu s1 x H1 I1 r q=>?_) ?_ et))
 .refine fQ I1 A4 A2 hv ?_ Om Jy;obtain⟨rfl,b,ek,q⟩:=q;cases r;exact CW Z hp I1 ek q
 .rw[hs];rfl
end
end L2
namespace EX
open PySem PySem.Spec PyProof.Rows PySem.W
section
variable {prog:Program}{w:World}{A:Around}{E:Θ2}{s:Shared}{K:Frag}{e D C t:Addr}{hd:Value}
theorem qF {Q:Bool->Shared->Prop}{b:Bool}(X:K.In s.heap)(he:s.heap.get? e=some (dZ D t hd))(A0:typeIn K (.ref C)=some (.type "type"))(hb:mroIn K C (.type "BaseException")=some true)(hs:mroIn K D (.ref C)=some b)(k:Q b s) :
  wpAny (model prog w) A (excMatches (.ref e) (.ref C)) Q E s:=by
 obtain⟨hh,g,d,tt,os⟩:=s;have L0:=(oU he).type (M:=model prog w);have L1:=looks_typeIn (M:=model prog w) X A0;have L2:=looks_mroIn (M:=model prog w) X hb;have L3:=looks_mroIn (M:=model prog w) X hs;have f:=tc_notTuple;have hC:∃o cd,K.lookup C=some o/\o.data=.cls cd:=by
  have:=hb;unfold mroIn at this;obtain⟨cd,q,_⟩:=Qr.mp this;unfold clsIn at q;split at q
  .rename_i ho;exact⟨_,_,ho,rfl⟩
  .cases q
 obtain⟨oC,cdC,ho,Ux⟩:=hC;have gC:=X _ _ ho;unfold excMatches
 repeat (any_goals (first |with_reducible refine L0.at ?_ |with_reducible refine L1.at ?_ |with_reducible refine L2.at ?_ |with_reducible refine L3.at ?_ |wp_step))
 cases b<;>(repeat (any_goals wp_step))<;>exact k
end
end EX
namespace L2
open PySem PySem.Spec PyProof.Rows EX
def Rg (K:Θ1):V->List V->Hp->VK->Prop:=λx vs H Q=>∃(y:Str) (p:Addr) (zs:Δ2),x=.str y/\vs=[.ref p]/\bA K H p (zs.map V.str)/\(∀z∈zs,z.length<=12)/\y.length<=4/\zs.length<=1000/\Q (.str (PySem.Txt.join y zs)) H
theorem lg:∀{zs:Δ2}{us:Δ3},aP (zs.map V.str) us->CarriedAll us (zs.map λz=>PyData.str z)
 |[],_,r=>by cases r;exact .nil
 |z::zs,_,r=>by
  rw[Yj] at r;cases r with
  |cons r1 r2 =>
   obtain⟨t,rfl⟩:=r1;exact .cons (.str _ t) (lg r2)
theorem Ha {X:Cx}(K:Θ1)(hK:X.K=K:=by rfl):SE X "str.join" (Rg K):=by
 subst hK;intro aa s σ H x vs v us Q I rx rv h;obtain⟨y,p,zs,rfl,rfl,hq,hB,hy,hn,q⟩:=h;obtain⟨t,rfl⟩:=rx;obtain⟨u,rfl,ru⟩:=rv.one;cases ru;obtain⟨its,r,hl,_⟩:=I.list hq;refine PySem.W.KT.join_B 12 hl.isList (l:=zs) (g:=λz=>z) (lg r) hB (by omega) (by omega) λt' k=>?_
 rw[List.map_id'];exact⟨.str _,H,I.tok k,⟨_,rfl⟩,q⟩
structure ot (k:Nat)(A:Around)(ea:Addr):Prop where
 hd:A.handled=some (.ref ea)
 dp:A.depth+3*k+5<recursionLimit
 un:A.units+16*k+200<cLine
theorem ot.deeper {k:Nat}{A:Around}{ea:Addr}(r:ot (k+1) A ea)(env:Env):ot k (A.deeper env) ea :=
 ⟨r.hd,by have:=r.dp;show A.depth+1+3*k+5<_;omega,by have:=r.un;show A.units+3+16*k+200<_;omega⟩
def OR (P:Program)(w:World)(K:Θ1)(mg:Θ3)(base:Heap)(N:Δ2)(qual:Str)(scope:Scope)(f:Addr)(cd:Value)(A:Around)(outer:List Env)(s:Shared)(H:Hp)(ea D t:Addr)(hd:Value):Cx :=
 { gI cH P w K mg base N qual scope f cd A outer s H E0 with calm:=false,pn:=[(ea,dZ D t hd)],xe:=λ_ _=>False }
structure JP (P:Program)(w:World)(K:Θ1)(mg:Θ3)(base:Heap)(k:Nat)(f:Addr)(fd:FuncData)(ps:Δ2)(sp:Addr->Addr->Sp):Prop where
 len:∀ea D vs H Q E,sp ea D vs H Q E->vs.length=ps.length
 run:∀(A:Around) (outer:List Env) (s:Shared) (H:Hp) (args:Args) (us:Δ3) (vs:List V) (Q:VK) (E:XK) (ea D t:Addr) (hd:Value),ot k A ea->vX P w K mg base A outer s H->s.heap.get? ea=some (dZ D t hd)->H ea=none->ea∉iG outer ->
  BindsTo s fd args (ps.zip us)->aP vs us->sp ea D vs H Q E->codeAny (model P w) A (.call (.ref f) args) (CR cH outer P w H s Q E) s
section
variable {P:Program}{w:World}{K:Θ1}{mg:Θ3}{base:Heap}
theorem wX {N ps:Δ2}{qual:Str}{scope:Scope}{f:Addr}{cd:Value}{A:Around}{outer:List Env}{s s1:Shared}{H:Hp}{us:Δ3}{vs:List V}{ea D t:Addr}{hd:Value}
  (S:ao N ps scope) (e0:vX P w K mg base A outer s H) (hl:vs.length=ps.length) (r:aP vs us) (he:s.heap.get? ea=some (dZ D t hd)) (hn:H ea=none) (hf:ea∉iG outer)
  (x:InCallC s s.heap.objs.size (bindL (envOfC qual scope s.heap.objs.size f cd).kindOf (ps.zip us) λ_=>none) (cellsFrom (s.heap.objs.size+1) scope.names []) (bindC (envOfC qual scope s.heap.objs.size f cd).kindOf (ps.zip us) λ_=>none) s1) :
  Inv (OR P w K mg base N qual scope f cd A outer s H ea D t hd) [] (start N vs) H s1:=by
 have e1:vX P w K mg base { A with handled:=none } outer s H:=⟨e0.frames,e0.mod,e0.bs,e0.AO,e0.iR,e0.EO,e0.bt,e0.bare⟩;have J:=qE (CX:=cH) (E:=E0) (A:={ A with handled:=none }) S rfl e1 hl r x;have keep:=x.toInCall.keep;refine⟨⟨J.ok.mod,J.ok.kind,J.ok.glob,J.ok.blt,J.ok.above,J.ok.inj,J.ok.has,J.ok.HR,λz=>(nomatch z),Around.frames_deeper e0.frames,J.ok.AG,J.ok.zf,J.ok.bs,J.ok.AO,J.ok.tT,J.ok.nR,J.ok.iR,J.ok.EO⟩,J.os,J.bare,J.base,J.loc,J.cell,J.free,J.fz,λp hp=>?_,J.bt,J.len⟩;have EL:p=(ea,dZ D t hd):=by simpa using(show p∈[(ea,dZ D t hd)]++[] from hp)
 subst EL;exact⟨keep _ _ he,hn,Yd (Heap.lt_size he),hf,λv z=>by cases z⟩
theorem cy.okH {x qual:Str}{st:Stmt}{f:Addr}{fd:FuncData}{N ps:Δ2}{k:Nat}{sp:Addr->Addr->Sp}(F:cy K x qual st f fd)(S:ao N ps (aS st))(len:∀ea D vs H Q E,sp ea D vs H Q E->vs.length=ps.length)
  (on:∀(bf:Value) (A:Around) (outer:List Env) (s:Shared) (H:Hp) (vs:List V) (Q:VK) (E:XK) (ea D t:Addr) (hd:Value),ot k (A.deeper (envOfC qual (aS st) s.heap.objs.size f bf)) ea->sp ea D vs H Q E ->
   ∃t',iH (OR P w K mg base N qual (aS st) f bf A outer s H ea D t hd) (pZ st) t'/\t' { nx:=λ_ H'=>Q .bO H',rt:=Q } (start N vs) H):JP P w K mg base (k+1) f fd ps sp:=by
 obtain⟨oc,od,kV,gF,pm,an,bf,ct,Ew,rfl,lk,tN⟩:=F.ex;refine⟨len,λA outer s H args us vs Q E ea D t hd hr e0 he hn hf hb r vG=>?_⟩;have hl:=len _ _ _ _ _ _ vG;have KX:K.In s.heap:=e0.mod.HH.keeps λb o e=>(e0.bs b o e).1
 have TC:s.heap.NoLimit:=e0.mod.nolimit.keeps λb o e=>(e0.bs b o e).1
 have B7:∀y∈ps.zip us,(aS st).names.lookup y.1=some .local\/((aS st).names.lookup y.1=some .cell/\((cellsFrom (s.heap.objs.size+1) (aS st).names []).lookup y.1).isSome=true):=λ⟨n,v⟩ hy=>by
  rcases S.par n (List.of_mem_zip hy).1 with q |q
  .exact .inl q
  .exact .inr ⟨q,PySem.W.cellsFrom_some _ _ _ (.inl q)⟩
 refine codeAny_call_function (by have:=hr.dp;omega) (KX _ _ lk) rfl S.co S.gen rfl (PySem.W.codeRec_of KX tN) (hb _ _ _ _ ?_);refine wpAny_newFunctionEnv_cells S.kind B7 λenv Uv s1 x=>?_
 subst Uv;refine⟨TC.keeps x.toInCall.keep,codeAny_func ?_⟩;obtain⟨t',ht,hq⟩:=on bf A outer s H vs Q E ea D t hd (hr.deeper _) vG;have I:=wX (qual:=qual) (f:=f) (cd:=bf) S e0 hl r he hn hf x;refine wpAny_mono (ht [] s1 (start N vs) H _ I hq) (λfl s' hs=>?_) λe s' hs=>False.elim hs
 have kq:∀{aC:St}{H':Hp}{v:V}{u:Value},Inv (OR P w K mg base N qual (aS st) f bf A outer s H ea D t hd) [] aC H' s'->RelV v u->Q v H'->CE outer P w H s Q u s' :=
  λ{aC H' v u} J rv q=>⟨v,H',J.os,J.bare,J.base,J.bt,rv,q⟩
 cases fl with
 |ret u =>
  obtain⟨v,aC,H',J,rv,q⟩:=hs;exact kq J rv q
 |next =>
  obtain⟨aC,H',J,q⟩:=hs;exact kq (v:=V.bO) (u:=Value.none) J rfl q
 |brk =>
  obtain⟨_,_,_,q⟩:=hs;exact False.elim q
 |cont =>
  obtain⟨_,_,_,q⟩:=hs;exact False.elim q
end
theorem HX {l:List Env}{H H':Hp}{h h1 h2 B:Heap}{a C t:Addr}(un:Un (iG l) [] H H' h h1)(gJ:∀b o,h.get? b=some o->b∉iG l->(∃o',B.get? b=some o')/\(H b=none->B.get? b=some o))
  (ff:h1.FunFrames B l) (tO:re B l a C t h2) (up:h1.UpToSlots h2):Un (iG l) [] H H' h h2:=by
 refine⟨λb o q n nf _=>tO.st b o ((gJ b o q nf).2 n),λb o q n m _=>?_,un.free,λb o q _=>?_,un.jY,un.lN,un.mw⟩
 .obtain⟨sl,q1⟩:=un.slot b o q n m (by simp);obtain⟨_,o3,q3,nf⟩:=ff.mem m;rw[q1] at q3;cases q3;obtain⟨NS,q4⟩:=up b _ q1 nf;exact⟨NS,q4⟩
 .by_cases m:b∈iG l
  .obtain⟨_,o3,q3,nf⟩:=ff.mem m;obtain⟨NS,q4⟩:=up b _ q3 nf;exact⟨_,q4⟩
  .obtain⟨o2,q2⟩:=(gJ b o q m).1;exact⟨o2,tO.st b o2 q2⟩
section
variable {X:Cx}{aa:Γ2}{σ:St}{H:Hp}{s:Shared}
theorem D9 {n:Str}{j:Nat}{m:Θ3}{h':Heap}{v:Φ1}{tk:Nat}(I:Inv X aa σ H s)(hN:X.N.Nodup)(hj:X.N[j]?=some n)(hn:s.heap.Ns X.env.locals m)
  (hl:∀(i:Nat) (x:Str) (v:V),X.N[i]?=some x->σ[i]?=some (some v)->NJ X.env.scope x->∃u,RelV v u/\Look X.env s.heap m x u)
  (pD:h'.Ns X.env.locals (λx=>if x=n then v else m x)) (hs:Heap.SameBut X.env.locals s.heap h'):Inv X aa (σ.set j none) H { s with heap:=h',toks:=tk }:=by
 have A8:=I.A8;have Tv:∀b o,X.aT.heap.get? b=some o->b≠X.env.locals:=λb o e=>Yd (Ya (Heap.lt_size e) I.ok.above)
 refine⟨I.ok,I.os,I.bare,⟨λb o e n hb hx=>(hs.2 b (Tv b o e)).trans (I.base.keep b o e n hb hx),λb o e n hb hx=>?_,I.base.free,λb o e hx=>?_,I.base.jY,I.base.lN,I.base.mw⟩,⟨_,pD,λi x v' e1 e2 e3=>?_⟩,λy c e=>?_,I.free,I.fz,λp hp=>?_,λb ob e=>?_,by simpa using I.len⟩
 .obtain⟨sl,e1⟩:=I.base.slot b o e n hb hx;exact⟨sl,(hs.2 b (Tv b o e)).trans e1⟩
 .obtain⟨o',e1⟩:=I.base.there b o e hx;exact⟨o',(hs.2 b (Tv b o e)).trans e1⟩
 .by_cases Ui:i=j
  .subst Ui;by_cases cG:i < σ.length
   .rw[Yf cG] at e2;cases e2
   .rw[Yq (by simpa using cG)] at e2;cases e2
  .rw[Zw (Ne.symm Ui)] at e2;obtain⟨u,r,q⟩:=hl i x v' e1 e2 e3;refine⟨u,r,?_⟩;rcases q with ⟨kd,e⟩ |⟨kd,c,e,z⟩
   .have:x≠n:=λz=>Ui (oR hN e1 (z▸hj))
    exact .inl ⟨kd,by simp[this,e]⟩
   .exact .inr ⟨kd,c,e,z.sameBut hs (A8 x c e)⟩
 .obtain⟨w',z⟩:=I.cell y c e;exact⟨w',z.sameBut hs (A8 y c e)⟩
 .obtain⟨e,n,ne,nf,d⟩:=I.pin p hp;exact⟨(hs.2 p.1 ne).trans e,n,ne,nf,d⟩
 .refine(I.bt b ob e).ay (λc w' hc q=>(hs.2 c ?_).trans q) (λ_ q=>q) λ_ _ q=>q
  rintro rfl;rcases hc with z |z
  .rw[<- z,I.free] at e;cases e
  .rw[I.free] at z;cases z
def JL (X:Cx)(ea D t:Addr)(hd:Value):Cx:={ X with A:=X.A.mark (some (.ref ea)),calm:=false,pn:=(ea,dZ D t hd)::X.pn,xe:=λ_ _=>False }
theorem Inv.xy {ea D t:Addr}{hd:Value}(I:Inv X aa σ H s)(he:s.heap.get? ea=some (dZ D t hd))(hn:H ea=none)(hL:ea≠X.env.locals)(hf:ea∉X.fs):Inv (JL X ea D t hd) aa σ H s:=by
 refine⟨⟨I.ok.mod,I.ok.kind,I.ok.glob,I.ok.blt,I.ok.above,I.ok.inj,I.ok.has,I.ok.HR,λz=>(nomatch z),I.ok.frames,I.ok.AG,I.ok.zf,I.ok.bs,I.ok.AO,I.ok.tT,I.ok.nR,I.ok.iR,I.ok.EO⟩,I.os,I.bare,I.base,I.loc,I.cell,I.free,I.fz,λp hp=>?_,I.bt,I.len⟩;have EL:p=(ea,dZ D t hd)\/p∈X.pn++aa:=Zf.mp (show p∈(ea,dZ D t hd)::(X.pn++aa) from hp);rcases EL with z |z
 .subst z;exact⟨he,hn,hL,hf,λv z=>by cases z⟩
 .exact I.pin p z
theorem Inv.xX {ea D t:Addr}{hd:Value}(ok:X.Ok)(I:Inv (JL X ea D t hd) aa σ H s):Inv X aa σ H s :=
 ⟨ok,I.os,I.bare,I.base,I.loc,I.cell,I.free,I.fz,λp hp=>I.pin p (show p∈(ea,dZ D t hd)::(X.pn++aa) from Zk _ hp),I.bt,I.len⟩
end
def K8 (sp:Addr->Addr->Sp)(ea D:Addr)(t:TA):TE:=λσ H Q=>t σ H λvs H1=>sp ea D vs H1 Q E0
theorem DG {X:Cx}{k:Nat}{f ea D t:Addr}{hd:Value}{fd:FuncData}{ps:Δ2}{sp:Addr->Addr->Sp}{x:Str}{p pos:Pos}{e:Expr}{es:Ξ2}{ta:TA}(F:JP X.prog X.w X.K X.mg X.base k f fd ps sp)(hr:ot k X.A ea)(hp:(ea,dZ D t hd)∈X.pn)
  (hg:Gl X x) (hm:X.mg x=some (.ref f)) (hk:PySem.W.keepIn X.K (.ref f)=true) (hb:Binds X.K fd ps []) (ha:PA X (e::es) ta) (ma:(x == ("__debug__" : Str))=false:=by decide)
  (he:starEach (e::es) X.env=(false,eval e X.env)::starEach es X.env:=by rfl) (et:(backTo pos (starEach es X.env)).any (·.1)=false:=by rfl):PE X (.Call (.Name x p) (e::es) [] pos) (K8 sp ea D ta):=by
 intro aa s σ H Q I h;refine wpAny_Call_Name_kw (eV I hg hm ?_ ma);refine PySem.W.callWith_K (h₀:=X.base) I.ok.mod.HH hk (bi (ha pos aa s σ H _ I h) λus s1 ⟨vs,H1,I1,r,q⟩=>⟨I1.l9,?_⟩) he et;obtain⟨p1,p2,p3,p4,_⟩:=I1.pin _ (Yw _ hp);have hl:us.length=ps.length:=by rw[<- r.length];exact F.len _ _ _ _ _ _ q
 have xt:=hb s1 us I1.l9 (by rw[Yg];exact hl);rw[Yg] at xt;refine wpAny_call (codeAny_mono (F.run X.A X.stack s1 H1 ⟨us,[]⟩ us vs Q E0 ea D t hd hr I1.FT p1 p2 (λz=>?_) xt r q) λr s' hq=>?_)
 .rcases Zf.mp (I1.lO ea z) with e |e
  .exact p3 e
  .exact p4 e
 .cases r with
  |error e=>exact False.elim hq
  |ok fl =>
   cases fl with
   |ret u=>exact I1.after hq
   |next=>exact False.elim hq
   |brk=>exact False.elim hq
   |cont=>exact False.elim hq
def Wh (K:Θ1)(sp:Sp)(RV:Addr->Addr->Sp)(M:Addr)(i j l:Nat)(ta:TA):TS:=λD σ H=>ta σ H λvs H1=>sp vs H1 (λv H2=>D.nx (σ.set i (some v)) H2)
 (λc _ H2=>∃Dc,c=.ref Dc/\PySem.W.mroIn K Dc (.ref M)=some true/\∀ea,H2 ea=none->RV ea Dc [.ref ea] H2 (λv H3=>D.nx (((σ.set j (some (.ref ea))).set l (some v)).set j none) H3) E0)
theorem wH {X:Cx}{k kk:Nat}{f fK M:Addr}{fd OQ:FuncData}{ps N0:Δ2}{sp:Sp}{RV:Addr->Addr->Sp}{x n y fn kf Cl:Str}{i j l:Nat}{e:Expr}{es:Ξ2}{ta:TA}{px fp bV fk np py kp AU tU vL dE pos:Pos}
  (F:aJ X.prog X.w X.K X.mg X.base (ko X.prog X.w) k f fd ps sp) (hr:cz k X.A) (Jv:Gl X fn) (Js:X.mg fn=some (.ref f)) (Ju:PySem.W.keepIn X.K (.ref f)=true) (JB:Binds X.K fd ps [])
  (G:JP X.prog X.w X.K X.mg X.base kk fK OQ N0 RV) (tE:cz kk X.A) (Ul:Gl X kf) (Ub:X.mg kf=some (.ref fK)) (Ot:PySem.W.keepIn X.K (.ref fK)=true) (Sd:Binds X.K OQ N0 [])
  (Jw:Gl X Cl) (Jt:X.mg Cl=some (.ref M)) (EU:PySem.W.typeIn X.K (.ref M)=some (.type "type")) (bM:PySem.W.mroIn X.K M (.type "BaseException")=some true)
  (lz:X.stack=X.env::X.outer) (mU:X.env.frame=some X.env.locals) (hN:X.N.Nodup) (hi:X.N[i]?=some x) (hj:X.N[j]?=some n) (hl:X.N[l]?=some y)
  (kx:X.env.scope.names.lookup x=some .local) (kn:X.env.scope.names.lookup n=some .local) (ky:X.env.scope.names.lookup y=some .local)
  (ha:∀E,PA (X.wish E) (e::es) ta)
  (Jp:swapsWith (.Call (.Name fn fp) (e::es) [] bV) (some (.Name x px)) fk.line X.env=pure false:=by rfl)
  (tD:swapsWith (.Call (.Name kf kp) [.Name n AU] [] tU) (some (.Name y py)) vL.line X.env=pure false:=by rfl)
  (d1:(fn == ("__debug__" : Str))=false:=by decide) (d2:(kf == ("__debug__" : Str))=false:=by decide) (d3:(Cl == ("__debug__" : Str))=false:=by decide) (d4:(n == ("__debug__" : Str))=false:=by decide) (d5:(n == ("__classdict__" : Str))=false:=by decide)
  (he:starEach (e::es) X.env=(false,eval e X.env)::starEach es X.env:=by rfl) (et:(backTo bV (starEach es X.env)).any (·.1)=false:=by rfl)
  (NF:starEach [.Name n AU] X.env=[(false,eval (.Name n AU) X.env)]:=by rfl) :
  PS X (.Try [.Assign [.Name x px] (.Call (.Name fn fp) (e::es) [] bV) fk] [.ExceptHandler (some (.Name Cl np)) (some n) [.Assign [.Name y py] (.Call (.Name kf kp) [.Name n AU] [] tU) vL] dE] [] [] pos) (Wh X.K sp RV M i j l ta):=by
 intro aa s σ H D I h;refine wpAny_Try_except (wpAny_execs_cons ?_);refine wpAny_Assign_Name ?_ Jp;refine wpAny_Call_Name_kw (eV I Jv Js ?_ d1);generalize UD:(λ(e:Value) (bh:Shared)=>wpAny (model X.prog X.w) X.A (noteFrame e X.env) (λ_ eJ=>wpAny (model X.prog X.w) X.A (setFlight e none) (λ_ cO=>wpAny (model X.prog X.w) X.A (handleBy e X.env [.ExceptHandler (some (.Name Cl np)) (some n) [.Assign [.Name y py] (.Call (.Name kf kp) [.Name n AU] [] tU) vL] dE]) (SP X aa D) X.xe cO) X.xe eJ) X.xe bh)=EE;refine PySem.W.callWith_K (h₀:=X.base) I.ok.mod.HH Ju (bi (ha EE bV aa s σ H _ (I.wish EE) h) λus s1 ⟨vs,H1,V7,r,q⟩=>?_) he et;have I1:Inv X aa σ H1 s1:=V7.gq;refine⟨I1.l9,?_⟩;have bN:us.length=ps.length:=by rw[<- r.length];exact F.len _ _ _ _ q
 have xt:=JB s1 us I1.l9 (by rw[Yg];exact bN);rw[Yg] at xt;refine wpAny_call (codeAny_mono (F.run X.A X.stack s1 H1 ⟨us,[]⟩ us vs _ _ hr I1.FT xt r q) λres s' hq=>?_);cases res with
 |ok fl =>
  cases fl with
  |ret u =>
   obtain⟨v,H2,I2,rv,q2⟩:=I1.after hq;refine E2 I2 hN hi (.inl kx) rv (λs3 I3=>?_) (.inr kx);exact wpAny_execs_nil (wpAny_execs_nil ⟨_,H2,I3,q2⟩)
  |next=>exact False.elim hq
  |brk=>exact False.elim hq
  |cont=>exact False.elim hq
 |error ev =>
  obtain⟨a,C,t,B,H2,rfl,os,bare,un,bt,gJ,tO,na,AH,Dc,eC,Bp,hk⟩:=hq;cases eC;rw[<- UD];have ff:=tO.ff;rw[lz] at tO;refine oX (L:=X.env.locals) tO (by rw[<- lz];exact I.ok.frames) mU λh3 KR SW=>?_
  refine jq (s:={ s' with heap:=h3 }) KR λh4 vW SV=>?_
  have Bc:=SW.trans SV;have ht:∀b o,s1.heap.get? b=some o->b≠a:=λb o q z=>by rw[z,na] at q;cases q
  have aL:a≠X.env.locals:=by
   obtain⟨m,⟨oL,_,_,Ol,_⟩,_⟩:=I1.loc;exact(ht _ _ Ol).symm
  have aF:a∉X.fs:=λz=>by
   obtain⟨_,o,ho,_⟩:=I1.iR.mem z;exact ht _ _ ho rfl
  have inv:∀(h':Heap) (tk:Nat),re B (X.env::X.outer) a C t h'->s'.heap.UpToSlots h'->Inv X aa σ H2 { s' with heap:=h' }:=λh' tk rC SX =>
   I1.ql (s':={ s' with heap:=h' }) (ch:=[]) os (HX un gJ ff (by rw[lz];exact rC) SX) (bt.kept rC.st) bare (λb z=>absurd z (by simp))
  obtain⟨hd4,OC,_⟩:=vW.ob;have J4:=(inv h4 0 vW Bc).xy OC AH aL aF;refine wpAny_handleBy_cons (codeAny_handlers_test (eV J4 Jw Jt ?_ d3)) (by intro z;cases z);refine qF (K:=X.K) J4.l9 OC EU bM Bp ?_;refine codeAny_handlers_suite_as ?_;refine jq (s:={ s' with heap:=h4 }) vW λh5 Bs SU=>?_
  obtain⟨Jz,Uu,_⟩:=Bs.ob;have J5:=(inv h5 0 Bs (Bc.trans SU)).xy Uu AH aL aF;refine E2 (X:=JL X a C t Jz) J5 hN hj (.inl kn) (v:=.ref a) rfl (λs6 J6=>?_) (.inr kn);have rh:ot kk (JL X a C t Jz).A a:=⟨rfl,tE.dp,tE.un⟩;have body:iH (JL X a C t Jz) [.Assign [.Name y py] (.Call (.Name kf kp) [.Name n AU] [] tU) vL] _ :=
   cT (lm (i:=l) hN hl (.inl ky) (DG (X:=JL X a C t Jz) (D:=C) (t:=t) (hd:=Jz) G rh Zo Ul Ub Ot Sd (aQ (CC (i:=j) hj (.inl kn) d4 d5) bK NF) d2 NF rfl) tD (.inr ky))
  have Uh:j < σ.length:=by rw[I1.len];exact(Zd.mp hj).1
  have run:=body aa s6 (σ.set j (some (.ref a))) H2 { nx:=λju H3=>D.nx (ju.set j none) H3,rt:=λ_ _=>False } J6 ⟨.ref a,by rw[Yf Uh],hk a AH⟩;refine wpAny_mono run (λfl s7 E7=>?_) λ_ _ z=>False.elim z
  cases fl with
  |ret u=>obtain⟨_,_,_,_,_,z⟩:=E7;exact False.elim z
  |brk=>obtain⟨_,_,_,z⟩:=E7;exact False.elim z
  |cont=>obtain⟨_,_,_,z⟩:=E7;exact False.elim z
  |next =>
   obtain⟨vk,H7,J7,q7⟩:=E7;have I7:Inv X aa vk H7 s7:=Inv.xX I.ok J7;obtain⟨m,hn,hlk⟩:=id I7.loc;refine wpAny_nameGoes_keeps kn hn (by rw[I.ok.kind];rfl) λh8 v hn8 hs8=>?_
   exact⟨vk.set j none,H7,D9 I7 hN hj hn hlk hn8 hs8,q7⟩
end L2
namespace KG
open PySem
def Bd (k:Nat)(n:Int):Prop:=n.natAbs<2 ^ k
theorem Bd.mono {j k:Nat}{n:Int}(h:Bd j n)(hj:j<=k):Bd k n:=Ya h (Qk (by decide) hj)
theorem Bd.mul {j k:Nat}{a b:Int}(h:Bd j a)(h':Bd k b):Bd (j+k) (a*b):=by
 unfold Bd at *;rw[Int.natAbs_mul,Nat.pow_add];exact Nat.mul_lt_mul'' h h'
theorem Bd.le {k:Nat}{a b:Int}(h:Bd k b)(hl:a.natAbs<=b.natAbs):Bd k a:=Nat.lt_of_le_of_lt hl h
theorem Bd.log {k:Nat}{n:Int}(h:Bd k n)(hk:k<=8999):n.natAbs.log2<9000:=by
 by_cases h0:n.natAbs=0
 .rw[h0];decide+kernel
 .exact(Nat.log2_lt h0).mpr (Ya h (Qk (by decide) (by omega)))
def sg (t u:Int):Int:=if u<0 then -(Int.gcd t u:Int) else (Int.gcd t u:Int)
def nx (t u:Int):Int:=t.fdiv (sg t u)
def ny (t u:Int):Int:=u.fdiv (sg t u)
theorem ng {t u:Int}(h:u≠0):nx t u*u=t*ny t u/\0<ny t u/\Int.gcd (nx t u) (ny t u)=1/\sg t u≠0/\(nx t u).natAbs<=t.natAbs/\(ny t u).natAbs<=u.natAbs:=by
 have g0:0<Int.gcd t u:=Qw t h;obtain⟨a,ha⟩:(Int.gcd t u:Int)∣t:=Int.gcd_dvd_left ..;obtain⟨b,hb⟩:(Int.gcd t u:Int)∣u:=Int.gcd_dvd_right ..;generalize hg:Int.gcd t u=g at *;have hc:Int.gcd a b=1:=by
  have e:Int.gcd t u=Int.gcd ((g:Int)*a) ((g:Int)*b):=by rw[<- ha,<- hb]
  rw[hg,Int.gcd_mul_left] at e;simp at e;have e2:g*1=g*Int.gcd a b:=by rw[Nat.mul_one];exact e
  exact(Nat.eq_of_mul_eq_mul_left g0 e2).symm
 have gp:(0:Int)<g:=by omega
 have la:a.natAbs<=t.natAbs:=by
  rw[ha,Int.natAbs_mul];simp;exact Nat.le_mul_of_pos_left _ g0
 have lb:b.natAbs<=u.natAbs:=by
  rw[hb,Int.natAbs_mul];simp;exact Nat.le_mul_of_pos_left _ g0
 unfold nx ny sg;rw[hg];by_cases hu:u<0
 .rw[if_pos hu];have dn:(-(g:Int))≠0:=by omega
  have e1:t.fdiv (-(g:Int))=-a:=by
   have:t=(-(g:Int))*(-a):=by rw[Int.neg_mul_neg];exact ha
   rw[this,Qs _ dn]
  have e2:u.fdiv (-(g:Int))=-b:=by
   have:u=(-(g:Int))*(-b):=by rw[Int.neg_mul_neg];exact hb
   rw[this,Qs _ dn]
  rw[e1,e2];refine⟨?_,?_,by rw[Int.neg_gcd,Int.gcd_neg];exact hc,dn,by rw[Int.natAbs_neg];exact la,by rw[Int.natAbs_neg];exact lb⟩
  .have q:a*u=t*b:=by rw[hb,ha];rw[Int.mul_left_comm,Int.mul_assoc]
   rw[Int.neg_mul,q,Int.mul_neg]
  .rcases Int.lt_or_le b 0 with z |z
   .omega
   .have:0<=(g:Int)*b:=Int.mul_nonneg (by omega) z;omega
 .rw[if_neg hu];have dn:(g:Int)≠0:=by omega
  have e1:t.fdiv (g:Int)=a:=by rw[ha,Qs _ dn]
  have e2:u.fdiv (g:Int)=b:=by rw[hb,Qs _ dn]
  rw[e1,e2];refine⟨?_,?_,hc,dn,la,lb⟩
  .rw[hb,ha,Int.mul_left_comm,Int.mul_assoc]
  .rcases Int.lt_or_le 0 b with z |z
   .exact z
   .have:(g:Int)*b<=0:=Int.mul_nonpos_of_nonneg_of_nonpos (by omega) z;omega
theorem yB {a c:Int}(h:c≠0):(a.fmod c).natAbs<c.natAbs:=by
 rcases Int.lt_or_gt_of_ne h with z |z
 .have e:(-a).fmod (-c)=-(a.fmod c):=Int.neg_fmod_neg a c;have h1:=Int.fmod_nonneg_of_pos (-a) (show 0 < -c by omega);have h2:=Int.fmod_lt_of_pos (-a) (show 0 < -c by omega);omega
 .have h1:=Int.fmod_nonneg_of_pos a z;have h2:=Int.fmod_lt_of_pos a z;omega
theorem uN {a c:Int}:Int.gcd c (a.fmod c)=Int.gcd a c:=by
 rw[Int.gcd_comm a c,Int.fmod_def,Int.gcd_sub_mul_left_right]
end KG
namespace L2
open PySem PySem.Spec PyProof.Rows KG
section
variable {X:Cx}
theorem DJ:d8 X (binaryOp .FloorDiv) (rI (λ_ j=>0<j/\Bd 8000 j) λi j=>.int (i / j)):=HG λi j _ _ _ _ _ hc q=>by
 have h1:(0:Int)<j:=hc.1;exact floordiv_int (by omega) (by rw[Int.fdiv_eq_ediv_of_nonneg i (by omega)];exact q) (.inl (PyProof.noPylong_of_log2 (hc.2.log (by decide))))
theorem jF:d8 X (binaryOp .FloorDiv) (rI (λ_ j=>j≠0/\Bd 8000 j) λi j=>.int (i.fdiv j)):=HG λ_ _ _ _ _ _ _ hc q=>floordiv_int hc.1 q (.inl (PyProof.noPylong_of_log2 (hc.2.log (by decide))))
theorem tI:d8 X (binaryOp .Mult) (rI (λi j=>Bd 8000 i/\Bd 8000 j) λi j=>.int (i*j)):=HG λi j _ _ _ _ _ hc q=>mul_int q (IntMulOk.of_bits (Ye (intBits_le hc.1) (by decide)) (Ye (intBits_le hc.2) (by decide)))
end
end L2
namespace KG
open PySem L2
theorem eZ {K:Θ1}{tt:TT}{ak:St}{a acc b:Addr}{H1:Hp}{xs:List V}{ds:Ξ1}{Q:VK}(m:PyData->Bool)(hT:bW b H1 xs ds)(ha:H1 a=some (.tup xs))(bu:H1 acc=none)(hl:xs.length<=1000)(tL:0<ak.length)
  (ht:∀(x:V) (d:PyData) (H':Hp),ai H1 H'->iP b H' x d->d∈ds->∀Z:Bool->Hp->Prop,(∀H5,ai H' H5->Z (!m d) H5)->tt (ak.set 0 (some x)) H' Z)
  (hd:∀ys es H',ai H1 H'->H' acc=some (.lst ys)->bW b H' ys es->es.isEmpty=ds.all m->Q (.ref acc) H'):cr (cA 0) tt (mx 0) (zj K a) acc ak H1 Q:=by
 have bN:=hT.len;refine kY (xs:=xs) (λi ys H'=>ai H1 H'/\ys.length<=i/\∃es,bW b H1 ys es/\es=(ds.take i).filter (λd=>!m d)) ⟨(ai.refl H1).acc bu,Ze _,[],.nil,rfl⟩ (λi ys H' _ _ q=>aG.of (q.1 _ _ ha)) ?_ ?_
 .rintro i x ys H' hx hy ⟨st,E5,es,tr,rfl⟩;obtain⟨d,OD,Sk⟩:=hT.at hx;have hi:i<xs.length:=(Zd.mp hx).1;refine ht x d H' st (Sk.ay st) (Yc OD) _ λH5 nB=>?_
  have ZK:(ds.take (i+1)).filter (λd=>!m d)=(ds.take i).filter (λd=>!m d)++if m d=true then [] else [d]:=by
   rw[Xz,OD,Xr]
   congr 1
   cases hm:m d<;>simp[hm]
  cases hm:m d with
  |true =>
   refine bC (Cn.of (nB _ _ hy) ⟨st.trans nB,by omega,_,tr,?_⟩);rw[ZK,hm];simp
  |false =>
   refine aU ⟨x,?_,ys,nB _ _ hy,by rw[sz];omega,Cn.of cL ⟨(st.trans nB).acc bu,?_,_,?_,rfl⟩⟩
   .rw[Yf tL]
   .rw[Zn];show ys.length+1<=i+1;omega
   .rw[ZK,hm];exact bW.app tr (.cons Sk .nil)
 .rintro ys H' hy ⟨st,E5,es,tr,rfl⟩;rw[bN,Yz] at tr;refine hd ys _ H' st hy (tr.ay st) ?_;rw[Yp,List.isEmpty_iff,List.filter_eq_nil_iff,Zu];simp
theorem Hx {es:Ξ1}:PyData.eqv (.list es) (.list [])=es.isEmpty:=by
 cases es<;>simp[PyData.eqv,PyData.eqvAll]
end KG
namespace L2
open PySem PySem.Spec PyProof.Rows
def Qy (K:Θ1)(n:Nat)(t:zh):TG:=λv σ H Q=>∃a xs,v=.ref a/\bA K H a xs/\xs.length=n/\t xs σ H Q
theorem LN {X:Cx}{es:Ξ2}{k:Nat}{t:zh}{n:Nat}{pos:Pos}(hc:X.calm=true)(h:vt X es t)
  (hn:(assignEach es X.env).length=n:=by rfl) (lz:(assignEach es X.env).findIdx? (·.1)=none:=by rfl):PG X (.Tuple es k pos) (Qy X.K n t):=by
 intro aa s σ H v u Q I r hw;obtain⟨a,xs,e1,hq,hl,hw⟩:=hw;subst e1;cases r;obtain⟨its,rv,ht,hz⟩:=I.list hq;rw[assign_Tuple];refine Za (wpAny_standAt ?_);unfold unpack;rw[hn,lz];have hsz:n=its.toArray.size:=by rw[Zt,<- rv.length,hl]
 rw[hsz];refine Za (wpAny_holding (PySem.W.kun_itemsOf (I.ok.hd hc) ht.isList λh' hx=>?_));have I1:Inv X aa σ H { s with heap:=h' }:=I.kept (t':=s.toks) λb o e=>hx b o (Yd (Heap.lt_size e)) e
 exact h aa _ σ H xs _ Q I1 (by simpa using rv) hw
theorem nI {X:Cx}{e:Expr}{te:TE}(K:Θ1){T:Str}{n:String}{p p2 pos:Pos}(he:PE X e te)(hg:Gl X "isinstance")(hm:X.mg "isinstance"=none)(A4:Gl X T)(A2:X.mg T=none)(hv:bootBuiltins T=some (.type n))
  (hb:bootBuiltins "isinstance"=some (.builtin "isinstance")) (h:X.K=K:=by rfl) (Om:T ≠ "__name__":=by decide) (Jy:(T == ("__debug__" : Str))=false:=by decide)
  (hs:starEach [e,.Name T p2] X.env=[(false,eval e X.env),(false,eval (.Name T p2) X.env)]:=by rfl)
  (et:(backTo pos (starEach [.Name T p2] X.env)).any (·.1)=false:=by rfl):PE X (.Call (.Name "isinstance" p) [e,.Name T p2] [] pos) (JY K (.type n) te):=by
 subst h;exact GK he hg hm A4 A2 hv hb Om Jy hs et
end L2
namespace KM
open PySem L2 KG EX
def X3:PyData->String
 |.none=>"NoneType"
 |.bool _=>"bool"
 |.int _=>"int"
 |.str _=>"str"
 |.list _=>"list"
 |.tuple _=>"tuple"
 |.dict _=>"dict"
def R3:PyData->Bool
 |.int _=>true
 |.bool _=>true
 |_=>false
def R4:PyData->Bool
 |.bool _=>true
 |_=>false
def pA:PyData->Bool
 |.tuple _=>true
 |_=>false
structure rd (K:Θ1):Prop where
 i1:PySem.W.kitOne K (.type "NoneType") (.type "int")=some false
 i2:PySem.W.kitOne K (.type "bool") (.type "int")=some true
 i3:PySem.W.kitOne K (.type "int") (.type "int")=some true
 i4:PySem.W.kitOne K (.type "str") (.type "int")=some false
 i5:PySem.W.kitOne K (.type "list") (.type "int")=some false
 i6:PySem.W.kitOne K (.type "tuple") (.type "int")=some false
 b1:PySem.W.kitOne K (.type "NoneType") (.type "bool")=some false
 b2:PySem.W.kitOne K (.type "bool") (.type "bool")=some true
 b3:PySem.W.kitOne K (.type "int") (.type "bool")=some false
 b4:PySem.W.kitOne K (.type "str") (.type "bool")=some false
 b5:PySem.W.kitOne K (.type "list") (.type "bool")=some false
 b6:PySem.W.kitOne K (.type "tuple") (.type "bool")=some false
 t1:PySem.W.kitOne K (.type "NoneType") (.type "tuple")=some false
 t2:PySem.W.kitOne K (.type "bool") (.type "tuple")=some false
 t3:PySem.W.kitOne K (.type "int") (.type "tuple")=some false
 t4:PySem.W.kitOne K (.type "str") (.type "tuple")=some false
 t5:PySem.W.kitOne K (.type "list") (.type "tuple")=some false
 t6:PySem.W.kitOne K (.type "tuple") (.type "tuple")=some true
theorem YS {K:Θ1}(Z:rd K){b:Addr}{H:Hp}{v:V}{d:PyData}(h:iP b H v d):∃t,iS K H v t/\PySem.W.kitOne K t (.type "int")=some (R3 d):=by
 cases h with
 |bO=>exact⟨_,.bO,Z.i1⟩
 |bl c=>exact⟨_,.bl _,Z.i2⟩
 |int c=>exact⟨_,.int _,Z.i3⟩
 |str x ok=>exact⟨_,.str _,Z.i4⟩
 |lst n e t=>exact⟨_,.lst e,Z.i5⟩
 |tup e t=>exact⟨_,.tup e,Z.i6⟩
theorem YU {K:Θ1}(Z:rd K){b:Addr}{H:Hp}{v:V}{d:PyData}(h:iP b H v d):∃t,iS K H v t/\PySem.W.kitOne K t (.type "bool")=some (R4 d):=by
 cases h with
 |bO=>exact⟨_,.bO,Z.b1⟩
 |bl c=>exact⟨_,.bl _,Z.b2⟩
 |int c=>exact⟨_,.int _,Z.b3⟩
 |str x ok=>exact⟨_,.str _,Z.b4⟩
 |lst n e t=>exact⟨_,.lst e,Z.b5⟩
 |tup e t=>exact⟨_,.tup e,Z.b6⟩
theorem Oc {K:Θ1}(Z:rd K){b:Addr}{H:Hp}{v:V}{d:PyData}(h:iP b H v d):∃t,iS K H v t/\PySem.W.kitOne K t (.type "tuple")=some (pA d):=by
 cases h with
 |bO=>exact⟨_,.bO,Z.t1⟩
 |bl c=>exact⟨_,.bl _,Z.t2⟩
 |int c=>exact⟨_,.int _,Z.t3⟩
 |str x ok=>exact⟨_,.str _,Z.t4⟩
 |lst n e t=>exact⟨_,.lst e,Z.t5⟩
 |tup e t=>exact⟨_,.tup e,Z.t6⟩
theorem kH {b:Addr}{H:Hp}{v:V}{d:PyData}(h:iP b H v d):pA d=false\/∃a xs ds,v=.ref a/\d=.tuple ds/\H a=some (.tup xs)/\bW b H xs ds:=by
 cases h with
 |bO=>exact .inl rfl
 |bl c=>exact .inl rfl
 |int c=>exact .inl rfl
 |str x ok=>exact .inl rfl
 |lst n e t=>exact .inl rfl
 |tup e t=>exact .inr ⟨_,_,_,rfl,rfl,e,t⟩
theorem kO {b:Addr}{H:Hp}{v:V}{d:PyData}(h:iP b H v d):eX d=false\/∃i,v=.int i/\d=.int i:=by
 cases h with
 |bO=>exact .inl rfl
 |bl c=>exact .inl rfl
 |int c=>exact .inr ⟨_,rfl,rfl⟩
 |str x ok=>exact .inl rfl
 |lst n e t=>exact .inl rfl
 |tup e t=>exact .inl rfl
theorem pe (d:PyData):eX d=(R3 d&&!R4 d):=by cases d<;>rfl
theorem zH {lo hi:Int}{d:PyData}(h:eX d=false):within lo hi d=false:=by cases d<;>first |rfl |cases h
theorem qB {d:PyData}(h:pA d=false):aO d=false:=by cases d<;>first |rfl |cases h
def spT (m:PyData->Bool):Sp:=λvs H Q _=>∃(b:Addr) (v:V) (d:PyData),vs=[v]/\iP b H v d/\∀H',ai H H'->Q (.bl (m d)) H'
def Fk (m:PyData->Bool):Sp:=λvs H Q _=>∃(b:Addr) (v:V) (d:PyData),vs=[v]/\iP b H v d/\bz d=true/\∀H',ai H H'->Q (.bl (m d)) H'
def Ic:Sp:=λvs H Q _=>∃(t u:Int),vs=[.int t,.int u]/\0<=u/\Q (.int (Int.gcd t u)) H
theorem uO {a c:Int}:Int.gcd c (a % c)=Int.gcd a c:=by
 rw[Int.gcd_comm a c,Int.emod_def,Int.gcd_sub_mul_left_right]
theorem yQ {a:Int}:(if a<0 then -a else a)=(Int.gcd a 0:Int):=by
 rw[Int.gcd_zero_right];split<;>omega
theorem pj {K:Θ1}{te:TE}{ak:St}{a acc b:Addr}{H1:Hp}{xs:List V}{ds:Ξ1}{Q:VK}(m:PyData->Bool)(hT:bW b H1 xs ds)(ha:H1 a=some (.tup xs))(bu:H1 acc=none)(hl:xs.length<=1000)
  (ht:∀(x:V) (d:PyData) (H':Hp),ai H1 H'->iP b H' x d->d∈ds->∀Z:V->Hp->Prop,(∀H5,ai H' H5->Z (.bl (m d)) H5)->te (ak.set 0 (some x)) H' Z)
  (hd:∀H',ai H1 H'->H' acc=some (.lst (ds.map λd=>.bl (m d)))->Q (.ref acc) H'):cr (cA 0) zl te (zj K a) acc ak H1 Q:=by
 have bN:=hT.len;refine kY (xs:=xs) (λi ys H'=>ai H1 H'/\ys=(ds.take i).map λd=>.bl (m d)) ⟨(ai.refl H1).acc bu,rfl⟩ (λi ys H' _ _ q=>aG.of (q.1 _ _ ha)) ?_ ?_
 .rintro i x ys H' hx hy ⟨st,rfl⟩;obtain⟨d,OD,Sk⟩:=hT.at hx;have hi:i<xs.length:=(Zd.mp hx).1;refine tY ?_;refine ht x d H' st (Sk.ay st) (Yc OD) _ λH5 nB=>?_
  refine⟨_,nB _ _ hy,?_,Cn.of cL ⟨(st.trans nB).acc bu,?_⟩⟩
  .rw[Zb,Yk,sz];omega
  .rw[Xz,OD,Zs];rfl
 .rintro ys H' hy ⟨st,rfl⟩;rw[bN,Yz] at hy;exact hd H' st hy
theorem qS {ds:Ξ1}{m:PyData->Bool}:(ds.map λd=>V.bl (m d)).all tv=ds.all m:=by
 rw[Yr];rfl
theorem mm {ds:Ξ1}{m:PyData->Bool}:(ds.map λd=>V.bl (m d)).all de=true:=by
 rw[Yr];simp[Function.comp_def,de]
theorem ph {ds:Ξ1}(h:ds.length≠2):aO (.tuple ds)=false:=by
 unfold aO;split
 .next Us=>injection Us with Us;subst Us;exact absurd rfl h
 .rfl
theorem kF {a b:Nat}(h:a≠b):(!decide (V.int (a:Int)=V.int (b:Int)))=true:=by
 have:(a:Int)≠b:=by omega
 simp[this]
theorem xV (a:Int):(!decide (V.int a=V.int a))=false:=by simp
def Cp:Sp:=λvs H Q _=>∃(t u:Int),vs=[.int t,.int u]/\0<u/\u<1073741824/\∀(p:Addr),H p=none->Q (.ref p) (aK H p (.tup [.int (t / (Int.gcd t u:Int)),.int (u / (Int.gcd t u:Int))]))
theorem yA {t u:Int}(h:0<u):0<(Int.gcd t u:Int)/\(Int.gcd t u:Int)<=u:=by
 have h1:0<Int.gcd t u:=Qw t (by omega);have h2:(Int.gcd t u:Int)∣u:=Int.gcd_dvd_right ..;exact⟨by omega,Int.le_of_dvd h h2⟩
theorem Cd {b:Addr}{H:Hp}:∀ns:Γ3,bW b H (ns.map V.int) (ns.map PyData.int)
 |[]=>.nil
 |n::ns=>.cons (.int n) (Cd ns)
theorem xj {lo hi:Int}{ns:Γ3}(h:∀n∈ns,lo<=n/\n<=hi):(ns.map PyData.int).all (within lo hi)=true:=by
 rw[Yr,Zu];intro n hn;obtain⟨h1,h2⟩:=h n hn;show(decide _&&decide _)=true;rw[decide_eq_true h1,decide_eq_true h2];rfl
theorem Ed {i j:Int}(h:0<j):(PyData.eqv (.tuple [.int i,.int j]) (.tuple [.int (i / (Int.gcd i j:Int)),.int (j / (Int.gcd i j:Int))]))=decide (Int.gcd i j=1):=by
 obtain⟨g0,g1⟩:=yA (t:=i) h;have gu:(Int.gcd i j:Int)∣j:=Int.gcd_dvd_right ..;have gt:(Int.gcd i j:Int)∣i:=Int.gcd_dvd_left ..;simp only[PyData.eqv,PyData.eqvAll,Bool.and_true];rw[Yp,Zl,beq_iff_eq,beq_iff_eq,decide_eq_true_eq];constructor
 .rintro⟨_,h2⟩;have a1:j / (Int.gcd i j:Int)*(Int.gcd i j:Int)=j:=Int.ediv_mul_cancel gu;rw[<- h2] at a1;have:(Int.gcd i j:Int)=1:=by
   have a2:j*(Int.gcd i j:Int)=j*1:=by rw[a1,Int.mul_one]
   exact Int.eq_of_mul_eq_mul_left (by omega) a2
  omega
 .intro e;rw[e];simp
theorem fX {ds:Ξ1}(h:bz (.tuple ds)=true):∀d∈ds,bz d=true:=λd hd=>j6 (ds:=ds) h hd
mutual
def ln (n:Nat):PyData->Bool
 |.list ds=>decide (ds.length<=n)&&yS n ds
 |.tuple ds=>decide (ds.length<=n)&&yS n ds
 |_=>true
def yS (n:Nat):Ξ1->Bool
 |[]=>true
 |d::ds=>ln n d&&yS n ds
end
theorem sD {n:Nat}:∀{ds:Ξ1},yS n ds=true↔∀d∈ds,ln n d=true
 |[]=>by simp[yS]
 |d::ds=>by
  rw[yS,Zl,sD (ds:=ds)];simp
theorem kA {n:Nat}{ds:Ξ1}:ln n (.tuple ds)=true↔ds.length<=n/\∀d∈ds,ln n d=true:=by
 rw[ln,Zl,decide_eq_true_eq,sD]
theorem WR {n:Nat}{ds:Ξ1}:ln n (.list ds)=true↔ds.length<=n/\∀d∈ds,ln n d=true:=by
 rw[ln,Zl,decide_eq_true_eq,sD]
mutual
theorem sE {n m:Nat}(h:n<=m):∀{d:PyData},ln n d=true->ln m d=true
 |.none,_=>rfl
 |.bool _,_=>rfl
 |.int _,_=>rfl
 |.str _,_=>rfl
 |.dict _,_=>rfl
 |.list ds,e=>by
  have e':ds.length<=n/\yS n ds=true:=by simpa[ln] using e
  have:=oS h (ds:=ds) e'.2;simp[ln,this];omega
 |.tuple ds,e=>by
  have e':ds.length<=n/\yS n ds=true:=by simpa[ln] using e
  have:=oS h (ds:=ds) e'.2;simp[ln,this];omega
theorem oS {n m:Nat}(h:n<=m):∀{ds:Ξ1},yS n ds=true->yS m ds=true
 |[],_=>rfl
 |d::ds,e=>by
  have e':ln n d=true/\yS n ds=true:=by simpa[yS] using e
  simp[yS,sE h e'.1,oS h e'.2]
end
theorem gj {ds:Ξ1}(h:∀d∈ds,bz d=true):bz (.tuple ds)=true:=lZ h
theorem Gg {ds:Ξ1}(h:∀d∈ds,bz d=true):bz (.list ds)=true:=lZ h
def lH:Ξ1:=[.int (-1),.int 0,.int 1,.int 2,.int 61,.int 101,.int 1000001,.bool true,.bool false,.none,.str "",.str "1",.tuple [],.tuple [.int 1],.tuple [.int 0,.int 1],.tuple [.int 1,.int 1],.tuple [.int 2,.int 2],.tuple [.int 1,.int 0],
 .tuple [.int 1,.int (-1)],.tuple [.bool true,.int 1],.list [.int 1,.int 1],.list [],.tuple [.int 1,.int 2,.int 3],.tuple [.tuple [.int 1,.int 1]]]
theorem kM:∀d∈lH,PY d=false/\bz d=true/\ln 3 d=true:=by
 have h:lH.all (λd=>!PY d&&bz d&&ln 3 d)=true:=by decide+kernel
 intro d hd;have:=Zu.mp h d hd;simp only[Zl,Bool.not_eq_true'] at this;exact⟨this.1.1,this.1.2,this.2⟩
theorem vy.ay {b:Addr}{H H':Hp}(h:vy H b)(s:ai H H'):vy H' b:=by obtain⟨c,d,e⟩:=h;exact⟨c,d,s _ _ e⟩
def put {α : Type}(xs:List α)(i:Nat)(x:α):List α:=xs.take i++[x]++xs.drop (i+1)
theorem GB {α : Type}{xs:List α}{i:Nat}{x:α}(h:i<xs.length):(put xs i x).length=xs.length:=by
 unfold put;rw[Zn,Zn,Yk,Yx];show min i xs.length+1+_=_;omega
structure Nm (mg:Θ3):Prop where
 len:mg "len"=none
 range:mg "range"=none
 tuple:mg "tuple"=none
 list:mg "list"=none
 all:mg "all"=none
 any:mg "any"=none
 max:mg "max"=none
 min:mg "min"=none
 sum:mg "sum"=none
 abs:mg "abs"=none
 int:mg "int"=none
 isinstance:mg "isinstance"=none
 bool:mg "bool"=none
 enumerate:mg "enumerate"=none
 wB:mg "ValueError"=none
theorem xh:bootBuiltins "ValueError"=some (.type "ValueError"):=by first |rfl |kernel_rfl |decide+kernel
structure ik (K:Θ1)(mg:Θ3)(P:Program)(w:World)(base:Heap)(x:Str)(k:Nat)(ps:Δ2)(sp:Sp)(f:Addr)(fd:FuncData):Prop where
 ok:aJ P w K mg base (ko P w) k f fd ps sp
 mg:mg x=some (.ref f)
 kp:PySem.W.keepIn K (.ref f)=true
 bd:Binds K fd ps []
structure K2 (K:Θ1)(mg:Θ3)(P:Program)(w:World)(base:Heap)(x:Str)(k:Nat)(ps:Δ2)(sp:Addr->Addr->Sp)(f:Addr)(fd:FuncData):Prop where
 ok:JP P w K mg base k f fd ps sp
 mg:mg x=some (.ref f)
 kp:PySem.W.keepIn K (.ref f)=true
 bd:Binds K fd ps []
theorem we {P:Program}{w:World}{X:Cx}:lV (ko P w) X E0:=λ_ _ _ _ _ _ _ h=>by
 obtain⟨_,_,_,_,_,_,_,_,_,_,_,_,_,_,z⟩:=h;exact z.elim
structure Wb (K:Θ1)(mg:Θ3)(M De Bu Dl Go Mk Nn Pr Ro Tx No Un:Addr):Prop where
 Ts:mg "MartError"=some (.ref M)
 Ko:mg "Dear"=some (.ref De)
 Kq:mg "NoBuyer"=some (.ref Bu)
 Kn:mg "NoDealing"=some (.ref Dl)
 Km:mg "NoGood"=some (.ref Go)
 Kl:mg "NoMarket"=some (.ref Mk)
 zo:mg "NoNumber"=some (.ref Nn)
 Bj:mg "NoPrices"=some (.ref Pr)
 Kj:mg "NoRow"=some (.ref Ro)
 Kh:mg "NoText"=some (.ref Tx)
 Kk:mg "Nothing"=some (.ref No)
 Kg:mg "Unwished"=some (.ref Un)
 EU:PySem.W.typeIn K (.ref M)=some (.type "type")
 bM:PySem.W.mroIn K M (.type "BaseException")=some true
structure xU (K:Θ1)(M De Bu Dl Go Mk Nn Pr Ro Tx No Un D:Addr)(i:Nat):Prop where
 kDe:PySem.W.kitOne K (.ref D) (.ref De)=some (decide (i=0))
 kBu:PySem.W.kitOne K (.ref D) (.ref Bu)=some (decide (i=1))
 kDl:PySem.W.kitOne K (.ref D) (.ref Dl)=some (decide (i=2))
 kGo:PySem.W.kitOne K (.ref D) (.ref Go)=some (decide (i=3))
 kMk:PySem.W.kitOne K (.ref D) (.ref Mk)=some (decide (i=4))
 kNn:PySem.W.kitOne K (.ref D) (.ref Nn)=some (decide (i=5))
 kPr:PySem.W.kitOne K (.ref D) (.ref Pr)=some (decide (i=6))
 kRo:PySem.W.kitOne K (.ref D) (.ref Ro)=some (decide (i=7))
 kTx:PySem.W.kitOne K (.ref D) (.ref Tx)=some (decide (i=8))
 kNo:PySem.W.kitOne K (.ref D) (.ref No)=some (decide (i=9))
 kUn:PySem.W.kitOne K (.ref D) (.ref Un)=some (decide (i=10))
 kVa:PySem.W.kitOne K (.ref D) (.type "ValueError")=some true
 ex:PySem.W.excIn K D [.type "ValueError",.type "Exception",.type "BaseException",.type "object"] "ValueError.__new__"=true
 sub:PySem.W.mroIn K D (.ref M)=some true
 ek:zA K D
def cn:Δ2:=["Dear","NoBuyer","NoDealing","NoGood","NoMarket","NoNumber","NoPrices","NoRow","NoText","Nothing","Unwished","+"]
def fV (i:Nat):List Bool:=[decide (i=0),decide (i=1),decide (i=2),decide (i=3),decide (i=4),decide (i=5),decide (i=6),decide (i=7),decide (i=8),decide (i=9),decide (i=10),true]
def n8 (i n:Nat):Δ2:=((List.range n).filter λj=>(fV i).getD j false).map λj=>cn.getD j ""
theorem oZ (i n:Nat):n8 i (n+1)=n8 i n++if (fV i).getD n false=true then [cn.getD n ""] else []:=by
 unfold n8;rw[mo,Zs];split<;>simp
theorem zL (i n:Nat):(n8 i n).length<=n:=by
 unfold n8;rw[Zb];exact Ye (Xs _ _) (by simp)
theorem zM:∀i:Fin 11,n8 i.1 12=[cn.getD i.1 "","+"]/\(∀z∈[cn.getD i.1 "","+"],z.length<=12):=by decide+kernel
def ue (i:Nat):Str:=PySem.Txt.join "" [cn.getD i "","+"]
theorem vc:ue 6=("NoPrices+" : Str):=by decide+kernel
theorem v3 {b:Addr}{H:Hp}:∀{xs:List V}{zs:Δ2},bW b H xs (zs.map PyData.str)->xs=zs.map V.str
 |_,[],.nil=>rfl
 |_,_::_,.cons h t=>by
  cases h
  rw[Yj,v3 t]
def sf (K:Θ1)(M De Bu Dl Go Mk Nn Pr Ro Tx No Un:Addr):Addr->Addr->Sp:=λea D vs H Q _=>∃i,i<11/\xU K M De Bu Dl Go Mk Nn Pr Ro Tx No Un D i/\vs=[.ref ea]/\∀H',ai H H'->Q (.str (ue i)) H'
theorem D1 {a b X Y:Int}(hb:0<b)(hY:0<Y)(g1:Int.gcd a b=1)(g2:Int.gcd X Y=1)(h:X*b=a*Y):X=a/\Y=b:=by
 have d1:Y∣b:=by
  have q:Y∣X*b:=⟨a,by rw[h,Int.mul_comm]⟩;rw[<- Int.dvd_gcd_mul_iff_dvd_mul,Int.gcd_comm,g2] at q;simpa using q
 have d2:b∣Y:=by
  have q:b∣a*Y:=⟨X,by rw[<- h,Int.mul_comm]⟩;rw[<- Int.dvd_gcd_mul_iff_dvd_mul,Int.gcd_comm,g1] at q;simpa using q
 have e:Y=b:=Int.dvd_antisymm (by omega) (by omega) d1 d2;subst e;exact⟨Int.eq_of_mul_eq_mul_right (by omega) h,rfl⟩
theorem lu (q:Rat):(0:Int)<(q.den:Int):=by have:=q.den_nz;omega
theorem yc (q:Rat):Int.gcd q.num (q.den:Int)=1:=q.reduced
theorem wg {T U:Int}(hU:U≠0):nx T U=(Rat.divInt T U).num/\ny T U=((Rat.divInt T U).den:Int):=by
 obtain⟨n1,n2,n3,_⟩:=ng (t:=T) hU;have hd:=lu (Rat.divInt T U);have h1:T*((Rat.divInt T U).den:Int)=(Rat.divInt T U).num*U:=by
  rw[<- Rat.divInt_eq_divInt_iff hU (by omega),Xl]
 refine D1 hd n2 (yc _) n3 ?_;have e:nx T U*((Rat.divInt T U).den:Int)*U=(Rat.divInt T U).num*ny T U*U:=by
  calc nx T U*((Rat.divInt T U).den:Int)*U=nx T U*U*((Rat.divInt T U).den:Int):=by rw[Int.mul_right_comm]
   _=T*ny T U*((Rat.divInt T U).den:Int):=by rw[n1]
   _=T*((Rat.divInt T U).den:Int)*ny T U:=by rw[Int.mul_right_comm]
   _=(Rat.divInt T U).num*U*ny T U:=by rw[h1]
   _=(Rat.divInt T U).num*ny T U*U:=by rw[Int.mul_right_comm]
 exact Int.eq_of_mul_eq_mul_right hU e
abbrev qO (q:Rat):HO:=.tup [.int q.num,.int (q.den:Int)]
def Rb (k:Nat)(q:Rat):Prop:=Bd k q.num/\Bd k (q.den:Int)
theorem Rb.mono {j k:Nat}{q:Rat}(h:Rb j q)(hk:j<=k):Rb k q:=⟨h.1.mono hk,h.2.mono hk⟩
theorem kJ {q:Rat}:0<q↔0<q.num:=by
 rw[Rat.lt_iff];simp
theorem Cy {t u:Int}(hu:0<u)(hg:Int.gcd t u=1):∃q:Rat,q.num=t/\(q.den:Int)=u:=by
 refine⟨⟨t,u.toNat,by omega,?_⟩,rfl,by show((u.toNat:Nat):Int)=u;omega⟩;show Nat.gcd t.natAbs u.toNat=1;have:u.toNat=u.natAbs:=by omega
 rw[this];exact hg
theorem sQ (a b:Rat):Rat.divInt (a.num*b.den+b.num*a.den) (a.den*b.den)=a+b:=by
 rw[<- Rat.divInt_add_divInt _ _ (by have:=lu a;omega) (by have:=lu b;omega),Xl,Xl]
theorem ni (a b:Rat):Rat.divInt (a.num*b.num) (a.den*b.den)=a*b:=by
 rw[<- Rat.divInt_mul_divInt,Xl,Xl]
theorem sL {a b:Rat}(hb:b.num≠0):Rat.divInt (a.num*b.den) (a.den*b.num)=a / b:=by
 rw[Rat.div_def,Rat.inv_def];conv=>rhs;rw[<- Xl a]
 rw[Rat.divInt_mul_divInt]
theorem MF (a b:Rat):(a.num*b.den<b.num*a.den)=(a<b):=propext (Rat.lt_iff a b).symm
theorem wb {k:Nat}{T U:Int}(hU:U≠0)(h1:Bd k T)(h2:Bd k U):Rb k (Rat.divInt T U):=by
 obtain⟨e1,e2⟩:=wg (T:=T) hU;obtain⟨_,_,_,_,n5,n6⟩:=ng (t:=T) hU;refine⟨?_,?_⟩
 .rw[<- e1];exact h1.le n5
 .rw[<- e2];exact h2.le n6
theorem Bd.add {j:Nat}{a b:Int}(ha:Bd j a)(hb:Bd j b):Bd (j+1) (a+b):=by
 unfold Bd at *;rw[Nat.pow_succ];omega
theorem Cw {j k:Nat}{a b:Rat}(ha:Rb j a)(hb:Rb k b):Rb (j+k+1) (a+b):=by
 rw[<- sQ];have h2:(a.den:Int)*b.den≠0:=Int.ne_of_gt (Xm (lu a) (lu b));refine wb h2 (Bd.add (ha.1.mul hb.2) ?_) ((ha.2.mul hb.2).mono (by omega));have:=hb.1.mul ha.2;exact Bd.mono this (by omega)
theorem lP {j k:Nat}{a b:Rat}(ha:Rb j a)(hb:Rb k b):Rb (j+k) (a*b):=by
 rw[<- ni];have h2:(a.den:Int)*b.den≠0:=Int.ne_of_gt (Xm (lu a) (lu b));exact wb h2 (ha.1.mul hb.1) (ha.2.mul hb.2)
def Fm (Nn:Addr):Sp:=λvs H Q E=>∃(t u:Int),vs=[.int t,.int u]/\Bd 8000 u/\(u=0->E (.ref Nn) none H)/\(u≠0->∀p,H p=none->Q (.ref p) (aK H p (qO (Rat.divInt t u))))
def Fl:Sp:=λvs H Q _=>∃(t u:Int),vs=[.int t,.int u]/\0<u/\Bd 8000 u/\∀p,H p=none->Q (.ref p) (aK H p (qO (Rat.divInt t u)))
def yR (op:Rat->Rat->Rat):Sp:=λvs H Q _=>∃(p q:Addr) (a b:Rat),vs=[.ref p,.ref q]/\H p=some (qO a)/\H q=some (qO b)/\Rb 3000 a/\Rb 3000 b/\∀r,H r=none->Q (.ref r) (aK H r (qO (op a b)))
def Ci (Nn:Addr):Sp:=λvs H Q E=>∃(p q:Addr) (a b:Rat),vs=[.ref p,.ref q]/\H p=some (qO a)/\H q=some (qO b)/\Rb 3000 a/\Rb 3000 b/\(b=0->E (.ref Nn) none H)/\(b≠0->∀r,H r=none->Q (.ref r) (aK H r (qO (a / b))))
def Ck:Sp:=λvs H Q _=>∃(p q:Addr) (a b:Rat),vs=[.ref p,.ref q]/\H p=some (qO a)/\H q=some (qO b)/\Rb 3000 a/\Rb 3000 b/\Q (.bl (decide (a<b))) H
def Nu:Rat->Rat->Rat:=λa b=>a+b
def pG:Rat->Rat->Rat:=λa b=>a*b
theorem b3 {n:Int}(h:Bd 3000 n):Bd 8000 n:=h.mono (by decide)
theorem b6 {n:Int}(h:Bd (3000+3000) n):Bd 8000 n:=h.mono (by decide)
theorem Ie {k:Nat}{t u:Int}(h:Bd k u)(hu:u≠0):Bd k (sg t u):=by
 refine h.le ?_;have g0:0<Int.gcd t u:=Qw t hu;have e:(sg t u).natAbs=Int.gcd t u:=by unfold sg;split<;>omega
 rw[e];exact Nat.le_of_dvd (by omega) (Int.gcd_dvd_natAbs_right t u)
theorem uW {a:Int}:(if a<0 then -a else a)=(Int.gcd a 0:Int):=by
 rw[Int.gcd_zero_right];split<;>omega
def Cm:Sp:=λvs H Q _=>∃(t u:Int),vs=[.int t,.int u]/\Q (.int (Int.gcd t u)) H
def qD (q:Rat):PyData:=.tuple [.int q.num,.int (q.den:Int)]
theorem D7 (q:Rat):aO (qD q)=true:=by
 have h:=lu q;show(decide (1<=(q.den:Int))&&decide (Int.gcd q.num (q.den:Int)=1))=true;rw[decide_eq_true (show 1<=(q.den:Int) by omega),decide_eq_true (yc q)];rfl
theorem vF {α β : Type}{f:α->β}{xs:List α}{j:Nat}{a:α}{b:β}(h:j<xs.length):(xs.map f).getD j b=f (xs.getD j a):=by
 simp[List.getD,Zg,Zc h]
def worse (row:Γ3)(qs:Δ1)(g o:Nat):Bool:=decide (0<row.getD o 0)&&decide ((row.getD g 0:Rat)*qs.getD o 0<(row.getD o 0:Rat)*qs.getD g 0)
def d6 (row:Γ3)(qs:Δ1)(g:Nat):Bool:=decide (row.getD g 0≠0)&&(List.range row.length).all λo=>!worse row qs g o
def i7 (row:Γ3)(qs:Δ1):List Nat:=(List.range row.length).filter (d6 row qs)
def bB (M:Γ1)(qs:Δ1):Γ1:=M.map λrow=>(i7 row qs).map λg:Nat=>(g:Int)
def og (gs:List Nat):List V:=gs.map λg:Nat=>V.int (g:Int)
theorem yj (x:Rat):x*(((x.den:Int):Int):Rat)=(x.num:Rat):=by
 have hd:=lu x;rw[<- ni,Rat.num_intCast,Rat.den_intCast,<- Xl (x.num:Rat),Rat.num_intCast,Rat.den_intCast,Rat.divInt_eq_divInt_iff (by simpa using(by omega:(x.den:Int)≠0)) (by decide)];simp
theorem zG {a b:Int}{x y:Rat}:((a:Rat)*x<(b:Rat)*y)↔(a*x.num*y.den<b*y.num*x.den):=by
 have hx:=lu x;have hy:=lu y;have pc:(0:Rat)<(((x.den:Int)*(y.den:Int):Int):Rat):=by
  have:(0:Rat)=((0:Int):Rat):=rfl;rw[this,Rat.intCast_lt_intCast];exact Xm hx hy
 rw[<- Rat.mul_lt_mul_left pc,<- Rat.intCast_lt_intCast];have e1:(((x.den:Int)*(y.den:Int):Int):Rat)*((a:Rat)*x)=((a*x.num*y.den:Int):Rat):=by
  rw[Xd,Xd,Xd,<- yj x];simp only[Rat.mul_assoc,Rat.mul_comm]
  grind
 have e2:(((x.den:Int)*(y.den:Int):Int):Rat)*((b:Rat)*y)=((b*y.num*x.den:Int):Rat):=by
  rw[Xd,Xd,Xd,<- yj y]
  grind
 rw[e1,e2]
theorem wa {k:Nat}{n:Int}(h:Bd k n)(hk:1<=k):Rb k (n:Rat):=⟨h,by
 show Bd k ((1:Nat):Int);unfold Bd;exact Nat.one_lt_two_pow (by omega)⟩
def lE (H:Hp)(ys:List V)(qs:Δ1):Prop:=ys.length=qs.length/\∀(j:Nat) y,ys[j]?=some y->∃a,y=.ref a/\H a=some (qO (qs.getD j 0))
theorem lE.ay {H H':Hp}{ys:List V}{qs:Δ1}(h:lE H ys qs)(s:ai H H'):lE H' ys qs:=⟨h.1,λj y hy=>by obtain⟨a,e,z⟩:=h.2 j y hy;exact⟨a,e,s _ _ z⟩⟩
theorem Hw {b:Addr}{H:Hp}{a:Addr}{xs:List V}{x y:Int}(ha:H a=some (.tup xs))(hs:bW b H xs [.int x,.int y]):H a=some (.tup [.int x,.int y]):=by
 cases hs with |cons h1 t1=>?_
 cases h1
 cases t1 with |cons h2 t2=>?_
 cases h2
 cases t2
 exact ha
theorem lE.of {b:Addr}{H:Hp}:∀{ys:List V}{qs:Δ1},bW b H ys (qs.map qD)->lE H ys qs
 |[],[],_=>⟨rfl,λj y h=>by simp at h⟩
 |y::ys,q::qs,.cons h t=>by
  have ih:=lE.of t;refine⟨by simp[ih.1],λj z hz=>?_⟩;cases j with
  |zero =>
   have e:y=z:=by simpa using hz
   subst e;unfold qD at h;cases h with
   |@tup a xs _ ha hs =>
   exact⟨a,rfl,Hw ha hs⟩
  |succ j=>exact ih.2 j z (by simpa using hz)
theorem lE.at {H:Hp}{ys:List V}{qs:Δ1}(h:lE H ys qs){g:Nat}(hg:g<qs.length):∃a,iO ys (g:Int)=some (.ref a)/\H a=some (qO (qs.getD g 0)):=by
 have hl:g<ys.length:=by rw[h.1];exact hg
 have e:=Zc hl;obtain⟨a,e2,z⟩:=h.2 g _ e;rw[e2] at e;exact⟨a,eY e,z⟩
theorem lE.app {H:Hp}{ys:List V}{qs:Δ1}(h:lE H ys qs){a:Addr}{q:Rat}(ha:H a=some (qO q)):lE H (ys++[.ref a]) (qs++[q]):=by
 refine⟨by simp[h.1],λj y hy=>?_⟩;rcases Zz j ys.length with z |z
 .rw[Zr z] at hy;obtain⟨c,e,hc⟩:=h.2 j y hy;refine⟨c,e,?_⟩;have:(qs++[q]).getD j 0=qs.getD j 0:=by simp[List.getD,Zr (h.1▸z)]
  rw[this];exact hc
 .have:j=ys.length:=by
   have:=(Zd.mp hy).1;simp at this;omega
  subst this;simp at hy;subst hy;refine⟨a,rfl,?_⟩;have:(qs++[q]).getD ys.length 0=q:=by rw[h.1];simp[List.getD]
  rw[this];exact ha
theorem lE.tm {H H':Hp}{ys:List V}{qs:Δ1}(h:lE H ys qs)(s:Tm H H'):lE H' ys qs:=⟨h.1,λj y hy=>by obtain⟨a,e,z⟩:=h.2 j y hy;exact⟨a,e,s _ _ z⟩⟩
def ck (qs:Δ1):Rat:=qs.foldl (λs q=>s+q) 0
theorem HI {α : Type}{xs:List α}{i:Nat}{x:α}(h:xs[i]?=some x):xs.take (i+1)=xs.take i++[x]:=by rw[List.take_succ,h];rfl
theorem jB (qs:Δ1)(q:Rat):ck (qs++[q])=ck qs+q:=by unfold ck;rw[List.foldl_append];rfl
theorem m5:Rb 1 (0:Rat):=by unfold Rb Bd;decide+kernel
theorem r9 {qs:Δ1}{k:Nat}(h:∀q∈qs,Rb k q):∀i,Rb (1+(k+1)*i) (ck (qs.take i))
 |0=>m5
 |i+1=>by
  have ih:=r9 h i;cases e:qs[i]? with
  |none =>
   have:qs.take (i+1)=qs.take i:=by rw[List.take_succ,e];simp
   rw[this];exact ih.mono (by rw[Nat.mul_succ];omega)
  |some q =>
   rw[HI e,jB];refine(Cw ih (h q (Yc e))).mono ?_;rw[Nat.mul_succ];omega
def xz:Sp:=λvs H Q _=>∃(l:Addr) (ys:List V) (qs:Δ1),vs=[.ref l]/\H l=some (.lst ys)/\lE H ys qs/\(∀q∈qs,Rb 300 q)/\qs.length<=8/\∀(r:Addr) (H':Hp),ai H H'->H' r=some (qO (ck qs))->Q (.ref r) H'
def NL (H:Hp)(xs:List V)(M:Γ1):Prop:=xs.length=M.length/\∀(j:Nat) x,xs[j]?=some x->∃a,x=.ref a/\H a=some (.lst ((M.getD j []).map V.int))
end KM
namespace L2
open PySem PySem.Spec PyProof.Rows
end L2
namespace KM
open PySem L2 KG EX
def bT (ns:Γ3):PyData:=.tuple (ns.map PyData.int)
theorem RI (q:Rat):PyData.eqv (qD q) (qD q)=true:=by unfold qD;simp[PyData.eqv,PyData.eqvAll]
theorem yG (ns:Γ3):(bT ns).depth<=1:=by
 unfold bT;simp[PyData.depth,yI]
theorem uS:∀M:Γ1,PyData.depthAll (M.map bT)<=1
 |[]=>by simp[PyData.depthAll]
 |r::M=>by
  have h1:=yG r;have h2:=uS M;simp[PyData.depthAll];omega
theorem Hy (M:Γ1):(PyData.tuple (M.map bT)).depth<=2:=by
 have:=uS M;simp[PyData.depth];omega
theorem Ja (q:Rat):(qD q).depth<=1:=by unfold qD;simp[PyData.depth,PyData.depthAll]
theorem sj {k:Nat}{qs:Δ1}(hk:1<=k)(h:∀q∈qs,Rb k q)(g:Nat):Rb k (qs.getD g 0):=by
 by_cases hg:g<qs.length
 .have:qs.getD g 0∈qs:=by simp[List.getD,Zc hg]
  exact h _ this
 .have:qs.getD g 0=0:=by simp[List.getD,Yq (Nat.le_of_not_lt hg)]
  rw[this];exact m5.mono hk
def BA:Sp:=λvs H Q _=>∃(p q:Addr) (a b:Rat),vs=[.ref p,.ref q]/\H p=some (qO a)/\H q=some (qO b)/\Rb 3000 a/\Rb 3000 b/\0<b/\∀r,H r=none->Q (.ref r) (aK H r (qO (a / b)))
def jS (ns:Γ3)(vP:Nat):Γ3:=((List.range ns.length).filter λk=>decide (vP / 2 ^ k % 2=1)).map λk=>ns.getD k 0
def jR (ns:Γ3):Γ1:=(List.range (2 ^ ns.length)).map (jS ns)
end KM
namespace L2
open PySem PySem.Spec PyProof.Rows
section
variable {κ : Type}[DecidableEq κ]
def jX (kvs:List (κ × V))(k:κ):Option V:=(kvs.find? λkv=>decide (kv.1=k)).map (·.2)
def my (kvs:List (κ × V))(k:κ)(v:V):List (κ × V) :=
 if (kvs.any λkv=>decide (kv.1=k))=true then kvs.map (λkv=>if kv.1=k then (kv.1,v) else kv) else kvs++[(k,v)]
theorem kQ {p:κ × V}{r:List (κ × V)}{k:κ}(e:p.1=k):jX (p::r) k=some p.2:=by simp[jX,Qc,e]
theorem kR {p:κ × V}{r:List (κ × V)}{k:κ}(e:¬ p.1=k):jX (p::r) k=jX r k:=by simp[jX,Qc,e]
theorem oI (k:κ):∀kvs:List (κ × V),(kvs.any λkv=>decide (kv.1=k))=(jX kvs k).isSome
 |[]=>rfl
 |p::r=>by
  rw[Xw];by_cases e:p.1=k
  .simp only[kQ e,decide_eq_true e,Bool.true_or,Option.isSome_some]
  .rw[kR e,decide_eq_false e,Bool.false_or];exact oI k r
theorem vb (kvs:List (κ × V))(k:κ)(v:V):(my kvs k v).length<=kvs.length+1:=by
 unfold my;split
 .rw[Zb];omega
 .rw[Zn,List.length_cons,List.length_nil];omega
theorem Dt {kvs:List (κ × V)}{k:κ}(v:V)(h:jX kvs k=none):my kvs k v=kvs++[(k,v)]:=by
 unfold my;rw[oI,h];exact if_neg (by decide)
theorem KV.val {kvs:List (κ × V)}{vs:List (κ × Value)}(r:KV kvs vs)(k:κ):aI (jX kvs k) (valueAt vs k):=by
 unfold KV at r;induction r with
 |nil=>exact True.intro
 |@cons p q ps qs h t ih =>
  obtain⟨h1,h2⟩:=h;by_cases e:p.1=k
  .have e':q.1=k:=h1.symm.trans e;have b:valueAt (q::qs) k=some q.2:=by simp[valueAt,Qc,e']
   rw[kQ e,b];exact h2
  .have e':¬ q.1=k:=λz=>e (h1.trans z)
   have b:valueAt (q::qs) k=valueAt qs k:=by simp[valueAt,Qc,e']
   rw[kR e,b];exact ih
theorem KV.any {kvs:List (κ × V)}{vs:List (κ × Value)}(r:KV kvs vs)(k:κ):(kvs.any λkv=>decide (kv.1=k))=vs.any λkv=>decide (kv.1=k):=by
 unfold KV at r;induction r with
 |nil=>rfl
 |cons h t ih=>rw[Xw,Xw,ih,h.1]
theorem KV.WI {kvs:List (κ × V)}{vs:List (κ × Value)}(r:KV kvs vs)(k:κ){y:V}{u:Value}(ry:RelV y u) :
  KV (kvs.map λkv=>if kv.1=k then (kv.1,y) else kv) (vs.map λkv=>if kv.1=k then (kv.1,u) else kv):=by
 unfold KV at r ⊢;induction r with
 |nil=>exact .nil
 |@cons p q ps qs h t ih =>
  rw[Yj,Yj];refine .cons ?_ ih;obtain⟨h1,h2⟩:=h;by_cases e:p.1=k
  .rw[if_pos e,if_pos (h1.symm.trans e)];exact⟨h1,ry⟩
  .rw[if_neg e,if_neg (λz=>e (h1.trans z))];exact⟨h1,h2⟩
theorem KV.put {kvs:List (κ × V)}{vs:List (κ × Value)}(r:KV kvs vs)(k:κ){y:V}{u:Value}(ry:RelV y u):KV (my kvs k y) (stored vs k u):=by
 unfold my stored;rw[r.any k];by_cases e:(vs.any λkv=>decide (kv.1=k))=true
 .rw[if_pos e,if_pos e];exact r.WI k ry
 .rw[if_neg e,if_neg e];exact Paired.snoc r ⟨rfl,ry⟩
theorem KV.keys {kvs:List (κ × V)}{vs:List (κ × Value)}(r:KV kvs vs):kvs.map (·.1)=vs.map (·.1):=by
 unfold KV at r;induction r with
 |nil=>rfl
 |cons h t ih=>rw[Yj,Yj,ih,h.1]
theorem KV.length {kvs:List (κ × V)}{vs:List (κ × Value)}(r:KV kvs vs):kvs.length=vs.length:=Paired.length r
end
theorem BZ {P:Program}{w:World}{k:cU}{u:Value}(r:RelV (kV k) u):(tu P w).is k u=true:=by
 cases k with
 |inl i=>obtain⟨t,e⟩:=(show ∃t,u=Value.int i t from r);subst e;exact u9 P w i t
 |inr x=>obtain⟨t,e⟩:=(show ∃t,u=Value.str x t from r);subst e;exact u8 P w x t
theorem qA {P:Program}{w:World}:∀{ks:List cU}{us:Δ3},aP (ks.map kV) us->ItemsAre (tu P w) ks us
 |[],_,r=>by rw[List.map_nil] at r;cases r;exact .nil
 |k::ks,_,r=>by
  rw[Yj] at r;cases r with
  |cons h t=>exact .cons (BZ h) (qA t)
abbrev KT (H:Hp):List (List cU×V)->List (List cU×Addr×Value)->Prop:=Paired λp q=>p.1=q.1/\H q.2.1=some (.tup (p.1.map kV))/\RelV p.2 q.2.2
theorem KT.val {H:Hp}{kvs:List (List cU×V)}{xs:List (List cU×Addr×Value)}(r:KT H kvs xs)(k:List cU):aI (jX kvs k) ((atKey xs k).map (·.2)):=by
 induction r with
 |nil=>exact True.intro
 |@cons p q ps qs h t ih =>
  obtain⟨h1,_,h2⟩:=h;by_cases e:p.1=k
  .have e':q.1=k:=h1.symm.trans e;have b:atKey (q::qs) k=some q.2:=by simp[atKey,Qc,e']
   rw[kQ e,b];exact h2
  .have e':¬ q.1=k:=λz=>e (h1.trans z)
   have b:atKey (q::qs) k=atKey qs k:=by simp[atKey,Qc,e']
   rw[kR e,b];exact ih
section
variable {P:Program}{w:World}{H:Hp}{h:Heap}{a:Addr}
theorem Ij {u:HO}(ok:jP P w H h)(e:Rd H a u):bY P w H h a u:=e.ok ok
theorem xS {kvs:List (cU×V)}(ok:jP P w H h)(e:Rd H a (.dK kvs)):kvs.length<=sizeLine/\(a == sysModules)=false/\∃vs,KV kvs vs/\h.DictOf (tu P w) a vs :=
 show bY P w H h a (.dK kvs) from Ij ok e
theorem Ca {kvs:List (cU×V)}(ok:jP P w H h)(e:H a=some (.dK kvs)):kvs.length<=sizeLine/\(a == sysModules)=false/\∃vs,KV kvs vs/\h.DictOf (tu P w) a vs:=xS ok (.inl e)
theorem CV {ks:List cU}(ok:jP P w H h)(e:H a=some (.tup (ks.map kV))):(tupleKind (tu P w)).is h ks a:=by
 obtain⟨_,its,r,o,h1,h2,n,h3⟩:=(show bY P w H h a (.tup (ks.map kV)) from ok a _ e);exact⟨o,its.toArray,n,h1,h2,h3,by simpa using qA r⟩
theorem I0 {kvs:List (List cU×V)}(ok:jP P w H h)(e:Rd H a (.dT kvs)):kvs.length<=sizeLine/\(a == sysModules)=false /\
  ∃xs,KT H kvs xs/\h.DictOfH (tupleKind (tu P w)) a xs:=by
 obtain⟨z,y,xs,r,o,es,ep,h1,h2,h3,h4,h5⟩:=(show bY P w H h a (.dT kvs) from Ij ok e);refine⟨z,y,xs,r,o,es,ep,h1,h2,h3,h4,λx hx=>?_,h5⟩;have all:∀{l:List (List cU×V)}{m:List (List cU×Addr×Value)},KT H l m->∀x∈m,(tupleKind (tu P w)).is h x.1 x.2.1:=by
  intro l m q;induction q with
  |nil=>intro x hx;exact nomatch hx
  |@cons p q ps qs hq t ih =>
   intro x hx;rcases Zf.mp hx with e |hx
   .subst e;exact CV ok (by rw[<- hq.1];exact hq.2.1)
   .exact ih x hx
 exact all r x hx
end
def K1 (H:Hp)(a:Addr)(y:V)(r:Option V):Prop :=
 (∃kvs k,Rd H a (.dK kvs)/\y=kV k/\r=jX kvs k)\/∃kvs k b,Rd H a (.dT kvs)/\y=.ref b/\H b=some (.tup (k.map kV))/\r=jX kvs k
section
variable {X:Cx}{aa:Γ2}{σ:St}{H:Hp}{s:Shared}{a:Addr}{y v:V}{u r:Value}{o:Option V}{A:Around}{E:Θ2}
theorem Inv.big (I:Inv X aa σ H s):sysModules<s.heap.objs.size:=by
 have h:mainGlobals<s.heap.objs.size:=(I.mod.glob.keeps I.bk).lt;exact Nat.lt_trans (by decide) h
theorem Au {Q:Θ2}(hu:A.units+1<cLine)(I:Inv X aa σ H s)(g:K1 H a y (some v))(ry:RelV y u)(h:∀w' s',Inv X aa σ H s'->RelV v w'->Q w' s') :
  wpAny (model X.prog X.w) A (getItem (.ref a) u) Q E s:=by
 rcases g with ⟨kvs,k,e,ey,l⟩ |⟨kvs,k,b,e,ey,eb,l⟩
 .subst ey;obtain⟨z,hd,vs,mO,dd⟩:=xS I.bt e;obtain⟨w',hw,AT⟩:=aI.some_of (v:=v) (o:=valueAt vs k) (by rw[l];exact mO.val k);exact wpAny_getItem_of (BZ ry) dd.mapOf hw (h w' _ (I.tok _) AT)
 .subst ey;cases (show u=Value.ref b from ry);obtain⟨z,hd,xs,mO,dd⟩:=I0 I.bt e;obtain⟨w',hw,AT⟩:=aI.some_of (v:=v) (o:=(atKey xs k).map (·.2)) (by rw[l];exact mO.val k);obtain⟨p,hp,T0⟩:=Qb.mp hw;refine wpAny_getItem_heap (tupleKind_room_in1 hu) (CV I.bt eb) dd hp ?_;rw[T0];exact h w' _ (I.tok _) AT
theorem Hz {h':Heap}{t':Nat}{ob:HO}(I:Inv X aa σ H s)(mu:OW (H a))(hs:Heap.SameBut a s.heap h')(he:∃q,h'.get? a=some q)(new:bY X.prog X.w (aK H a ob) h' a ob) :
  Inv X aa σ (aK H a ob) { s with heap:=h',toks:=t' } :=
 I.write (x:=a) (e:=a) mu (.inl rfl) (λb q hb z=>(hs.2 b hb).trans z) he new
theorem M5 {P:Program}{w:World}{H':Hp}{h':Heap}{kvs:List (cU×V)}{vs:List (cU×Value)}(z:kvs.length<=sizeLine)(hd:(a == sysModules)=false)(mO:KV kvs vs)(dd:h'.DictOf (tu P w) a vs) :
  bY P w H' h' a (.dK kvs):=⟨z,hd,vs,mO,dd⟩
end
section
variable {X:Cx}{aa:Γ2}{σ:St}{H:Hp}{s:Shared}{a:Addr}{kvs:List (cU×V)}{k:cU}{u:Value}{A:Around}{E:Θ2}
end
def QM (i:Expr):Prop:=∀ov iv,subscripted i false ov iv=operate [ov,iv] (getItem ov iv)
theorem Gf {prog:Program}{w:World}{A:Around}{E:Θ2}{s:Shared}{env:Env}{value slice:Expr}{pos:Pos}{T id:String}{Q:Θ2}
  (hl:typeLookup (.type T) "__getitem__"=pure (some (.builtin id))) (hs:QM slice)
  (h:wpAny (model prog w) A (eval value env) (λo bh=>wpAny (model prog w) A (eval slice env) (λi eJ=>eJ.TypeIs o T/\wpAny (model prog w) A (getItem o i) Q E eJ) E bh) E s) :
  wpAny (model prog w) A (eval (.Subscript value slice pos) env) Q E s:=by
 refine Subscript_ (wpAny_mono h (λo bh lK=>wpAny_mono lK (λi eJ nO=>?_) λ_ _ x=>x) λ_ _ x=>x);obtain⟨hT,nO⟩:=nO;unfold subscriptTail;refine Za ?_;rw[getitemInPython_of_ne hT.not_modules];refine Za (wpAny_specialOf hT hl ?_);have kq:wpAny (model prog w) A (subscripted slice false o i) (λr cO=>wpAny (model prog w) A (letTemporaryGo value o r >>= λ_=>pure r) Q E cO) E eJ:=by
  rw[hs o i];exact wpAny_operating (wpAny_mono nO (λr cO lJ=>Za (wpAny_letTemporaryGo (wpAny_pure lJ))) λ_ _ x=>x)
 first
  |exact wpAny_pure (Za kq)
  |exact Za (wpAny_pure (Za kq))
  |exact Za kq
theorem vf {X:Cx}{aa:Γ2}{σ:St}{H:Hp}{s:Shared}{a:Addr}{y:V}{o:Option V}(I:Inv X aa σ H s)(g:K1 H a y o):s.TypeIs (.ref a) "dict":=by
 rcases g with ⟨kvs,k,e,_,_⟩ |⟨kvs,k,b,e,_,_,_⟩
 .obtain⟨_,_,vs,_,dd⟩:=xS I.bt e;exact dd.typeIs
 .obtain⟨_,_,xs,_,dd⟩:=I0 I.bt e;exact dd.typeIs
def QW (td ty:TE):TE:=λσ H Q=>td σ H λx H1=>ty σ H1 λy H2=>∃a v,x=.ref a/\K1 H2 a y (some v)/\Q v H2
section
variable {X:Cx}{o i e value:Expr}{pos mB rf:Pos}{td ty tv:TE}
theorem GN (hu:X.A.units+1<cLine)(ho:PE X o td)(hi:PE X i ty)(hs:QM i):PE X (.Subscript o i pos) (QW td ty):=by
 intro aa s σ H Q I h;refine Gf PySem.F.slot_dict_getitem.lookup hs (bi (ho aa s σ H _ I h) λu s1 ⟨x,H1,I1,rx,q1⟩=>bi (hi aa s1 σ H1 _ I1 q1) λiv s2 ⟨y,H2,I2,ry,a,v,ex,g,q2⟩=>?_);subst ex;obtain rfl:u=Value.ref a:=rx;exact⟨vf I2 g,Au hu I2 g ry λw' s3 I3 AT=>⟨v,H2,I3,AT,q2⟩⟩
end
theorem Ef {P:Program}{w:World}{H:Hp}(h:Heap)(hb:sysModules<h.objs.size):bY P w H (h.push { cls:=.type "dict",data:=.dict #[] }) h.objs.size (.dK []) :=
 ⟨Yn _,beq_eq_false_iff_ne.mpr (Ne.symm (Yd hb)),[],.nil,Heap.DictOf.new h⟩
section
variable {X:Cx}{pos:Pos}
end
section
variable {X:Cx}{aa:Γ2}{σ:St}{H:Hp}{s:Shared}{a:Addr}{y d:V}{u r:Value}{o:Option V}{A:Around}{E:Θ2}
end
section
variable {X:Cx}{o e f:Expr}{fk bV:Pos}{td ty tx:TE}
end
section
variable {X:Cx}{aa:Γ2}{σ:St}{H:Hp}{s:Shared}{a:Addr}{kvs:List (cU×V)}{A:Around}{E:Θ2}
end
section
variable {X:Cx}{aa:Γ2}{σ:St}{H:Hp}{s:Shared}{a:Addr}{y:V}{u:Value}{A:Around}{E:Θ2}
end
section
variable {X:Cx}
end
section
variable {κ : Type}[DecidableEq κ]
theorem FX {kvs:List (κ × V)}{k:κ}{v:V}(h:jX kvs k=some v):k∈kvs.map (·.1):=by
 have q:(kvs.any λkv=>decide (kv.1=k))=true:=by
  rw[oI,h]
  all_goals rfl
 obtain⟨p,hp,e⟩:=Xb.mp q;exact Zh.mpr ⟨p,hp,of_decide_eq_true e⟩
end
def rZ (g:TG)(tt:TT)(tk tv:TE)(J:It)(acc:Addr)(ak:St)(aD:Hp)(Q:VK):Prop :=
 ∃W:Nat->Nat->St->Hp->Prop,(∃m,W 0 m ak (aK aD acc (.dK [])))/\∀i m aC H',W i m aC H' ->
  (J.stop i H'/\Q (.ref acc) H') \/
  (J.go i H'/\∃N:St->Hp->Prop,(∀dg H2,N dg H2->∃m',m'<m/\W (i+1) m' dg H2)/\∀x H2,J.xl i H' x H2->g x aC H2 λju H3=>tt ju H3 λb H4 =>
   if b=true then tk ju H4 λkx H5=>tv ju H5 λy H6=>∃kvs k,H6 acc=some (.dK kvs)/\kx=kV k/\kvs.length<sizeLine/\N ju (aK H6 acc (.dK (my kvs k y))) else N ju H4)
def K6 (wi:TI)(g:TG)(tt:TT)(tk tv:TE)(own:Nat)(ix:List Nat):TE:=λσ H Q=>wi σ H λJ H1=>∀acc,H1 acc=none->rZ g tt tk tv J acc (eF own ix σ) H1 Q
theorem Av {X:Cx}{aa:Γ2}{σ:St}{H:Hp}{s:Shared}{a:Addr}{v:V}{u r:Value}{A:Around}{E:Θ2}{kvs:List (cU×V)}{k:cU}{Q:Unit->Shared->Prop}(I:Inv X aa σ H s)
  (e:H a=some (.dK kvs)) (ry:RelV (kV k) u) (rv:RelV v r) (l:kvs.length<sizeLine) (h:∀s',Inv X aa σ (aK H a (.dK (my kvs k v))) s'->Q () s'):wpAny (model X.prog X.w) A (dictSet a u r) Q E s:=by
 obtain⟨z,hd,vs,mO,dd⟩:=Ca I.bt e;have z1:vs.length<=sizeLine:=by rw[<- mO.length];exact z
 have z2:(my kvs k v).length<=sizeLine:=Ye (vb kvs k v) l;refine wpAny_dictSet_pairs (hsz:=z1) (BZ ry) dd λh' S' hs=>h _ ?_
 have he:∃q,h'.get? a=some q:=let ⟨q,_,_,hq,_⟩:=S';⟨q,hq⟩;exact Hz I (by rw[e];exact True.intro) hs he (M5 z2 hd (mO.put k rv) S')
theorem w9 {prog:Program}{w:World}{A:Around}{R:Result->Shared->Prop}{s:Shared}{kx vx fH iter:Expr}{fg:Ξ2}{scope:Scope}{pos:Pos}{it:Value}{D:Addr}{env:Env}(I:Nat->Shared->Prop)
  (turn:∀n s,I n s->wpAny (model prog w) A (pyNext it) (λr bh=>match r with
   |none=>R (.ok .next) bh
   |some v=>wpAny (model prog w) A (letOwnedTupleGo fH it v) (λ_ iU=>wpAny (model prog w) A (assign fH env v) (λ_ eJ =>
     wpAny (model prog w) A (forIn fg true λc r=>if r=true then do let ok <- isTrue c env (eval c env);pure (ForInStep.yield ok) else pure (ForInStep.yield r)) (λok cO =>
      if ok=true then wpAny (model prog w) A (eval kx env) (λkv ic=>wpAny (model prog w) A (eval vx env) (λvv nG=>wpAny (model prog w) A (dictSet D kv vv) (λ_ nF=>∃m,m<n/\I m nF) (λ_ _=>False) nG)
       (λ_ _=>False) ic) (λ_ _=>False) cO else ∃m,m<n/\I m cO) (λ_ _=>False) eJ) (λ_ _=>False) iU) (λ_ _=>False) bh) (λ_ _=>False) s)
  (n:Nat) (h:I n s):codeAny (model prog w) A (.compLoop (.DictComp kx vx [⟨fH,iter,fg,0⟩] scope pos) 0 it (.ref D) env) R s:=by
 refine codeAny_loop rfl I (λn s hI=>?_) n h;show wpAny _ A ((compTurn (.DictComp kx vx [⟨fH,iter,fg,0⟩] scope pos) 0 it (.ref D) env).onRaise (λx=>do noteFrame x env;theTreesLotGoes x)) _ _ s;refine wpAny_noted ?_;rw[compTurn_dict];refine Za (wpAny_standAt (Za (wpAny_mono (turn n s hI) (λr bh lK=>?_) λ_ _ h'=>h'.elim)));cases r with
 |none=>exact wpAny_pure lK
 |some v =>
  refine Za (wpAny_mono lK (λ_ iU om=>?_) λ_ _ h'=>h'.elim);refine Za (wpAny_mono om (λ_ eJ nO=>Za (wpAny_mono nO (λok cO lJ=>?_) λ_ _ h'=>h'.elim)) λ_ _ h'=>h'.elim);cases ok with
  |false=>exact wpAny_pure ⟨rfl,lJ⟩
  |true =>
   exact Za (Za (wpAny_mono lJ (λkv ic vU=>Za (wpAny_holding (wpAny_mono vU (λvv nG vT=>Za (wpAny_standAt (wpAny_holding (wpAny_mono vT (λ_ nF Bo=>wpAny_pure ⟨rfl,Bo⟩) λ_ _ z=>z.elim)))) λ_ _ z=>z.elim))) λ_ _ z=>z.elim))
section
variable {X:Cx}{scope:Scope}{own cap:Δ2}{ix:List Nat}{tg iter kx vx:Expr}{fg:Ξ2}{wi:TI}{g:TG}{tt:TT}{tk tv:TE}{pos:Pos}
theorem xc {aa:Γ2}{σ:St}{H2:Hp}{s2:Shared}{it:Addr}{fp:List Addr}{tn:Nat->Heap->Prop}{J:It}{Q:VK}{RR:Value->Addr->Result->Shared->Prop}{E:Θ2}
  (B:az X scope own cap ix) (hc:X.calm=true)
  (hb:∀C fp s H,PG (gc X scope C (own++cap) fp s H) tg g/\fo (gc X scope C (own++cap) fp s H) fg tt/\PE (gc X scope C (own++cap) fp s H) kx tk/\PE (gc X scope C (own++cap) fp s H) vx tv)
  (I2:Inv X aa σ H2 s2) (T:Turn X.prog X.w X.K tg J fp it tn) (gG:tn 0 s2.heap) (f2:∀b∈fp,cR X aa H2 b)
  (q:∀acc,H2 acc=none->rZ g tt tk tv J acc (eF own.length ix σ) H2 Q)
  (JE:∀D C H' s' m,Inv X aa σ H' s'->Q (.ref D) H'->s'.heap.Ns C m->cR X aa H' C->RR (.ref D) C (.ok .next) s') :
  wpAny (model X.prog X.w) X.A newDict (λacc cO=>wpAny (model X.prog X.w) X.A (newFunctionEnv scope X.env.globals (dH X.env scope.names []) [] X.env.qual none .none (some X.env)) (λnW ic =>
   codeAny (model X.prog X.w) X.A (.compStart (.DictComp kx vx [⟨tg,iter,fg,0⟩] scope pos) 0 (.ref it) acc { nW with scope:=relabel scope X.env }) (RR acc nW.locals) ic) E cO) E s2:=by
 refine wpAny_newObj_type (gl ?_);have I3:Inv X aa σ (aK H2 s2.heap.objs.size (.dK [])) { s2 with heap:=s2.heap.push { cls:=.type "dict",dict:=none,data:=.dict #[] } } :=
  I2.laid (a:=s2.heap.objs.size) (o:=.dK []) (h':=s2.heap.push { cls:=.type "dict",data:=.dict #[] }) (t':=s2.toks) (λ_ _ q=>Heap.get?_push_of_some _ q) (Ze _) (Ef s2.heap I2.big)
 obtain⟨W,⟨m0,w0⟩,turn⟩:=q s2.heap.objs.size I2.fresh;generalize hD:s2.heap.objs.size=D at I3 w0 turn ⊢;have cG:∀b∈fp,b<D:=λb bv=>by
  obtain⟨o,e,_⟩:=T.obj 0 _ gG b bv;rw[<- hD];exact Heap.lt_size e
 generalize Jo:({ s2 with heap:=s2.heap.push { cls:=.type "dict",dict:=none,data:=.dict #[] } }:Shared)=s3 at I3 ⊢;have iY:∀b o,s2.heap.get? b=some o->s3.heap.get? b=some o:=λb o e=>by rw[<- Jo];exact Heap.get?_push_of_some _ e
 have f3:∀b∈fp,cR X aa (aK H2 D (.dK [])) b:=λb bv=>⟨by rw[dh (Yd (cG b bv))];exact(f2 b bv).1,(f2 b bv).2⟩
 have o3:∀b∈fp,∃o,s3.heap.get? b=some o:=λb bv=>let ⟨o,e,_⟩:=T.obj 0 _ gG b bv;⟨o,iY b o e⟩
 have I4:=I3.block B f3 o3;have AS:tn 0 (pushCells (s3.heap.push { cls:=.type "dict",data:=.dict #[] }) scope.names):=T.keep 0 _ _ gG λb _ o e=>pushCells_keeps _ _ b o (Heap.get?_push_of_some _ (iY b o e))
 obtain⟨hg,A3,ZL,ZJ⟩:=hb s3.heap.objs.size fp s3 (aK H2 D (.dK []));generalize ib:gc X scope s3.heap.objs.size (own++cap) fp s3 (aK H2 D (.dK []))=X' at I4 hg A3 ZL ZJ;have eP:X'.prog=X.prog:=by rw[<- ib];rfl
 have eW:X'.w=X.w:=by rw[<- ib];rfl
 have eK:X'.K=X.K:=by rw[<- ib];rfl
 have eA:X'.A=X.A:=by rw[<- ib];rfl
 have eE:X'.env=iC scope s3.heap.objs.size X.env:=by rw[<- ib];rfl
 have ex:X'.xe=λ_ _=>False:=by rw[<- ib];rfl
 have jN:X'.calm=true:=by rw[<- ib];exact hc
 have ii:∀{H':Hp},(∀b∈fp,H' b=none)->∀b∈fp,cR X' [] H' b:=λhn b bv=>by
  subst ib;exact⟨hn b bv,(I4.ok.zf b bv).1,I4.ok.nR b bv,.inl bv,(I4.ok.zf b bv).2,λp hp=>absurd (show p∈([]:Γ2) from hp) (by simp)⟩
 have nM:∀s4:Shared,s4={ s3 with heap:=pushCells (s3.heap.push { cls:=.type "dict",data:=.dict #[] }) scope.names } ->
   codeAny (model X.prog X.w) X.A (.compLoop (.DictComp kx vx [⟨tg,iter,fg,0⟩] scope pos) 0 (.ref it) (.ref D) (iC scope s3.heap.objs.size X.env)) (RR (.ref D) s3.heap.objs.size) s4:=by
  rintro s4 rfl;refine w9 (λn s'=>∃i aC H',Inv X' [] aC H' s'/\tn i s'.heap/\(∀b∈fp,H' b=none)/\W i n aC H') ?_ m0 ⟨0,_,_,I4,AS,λb bv=>(f3 b bv).1,w0⟩;rintro n s5 ⟨i,nz,H5,I5,nB,ze,w5⟩;rcases turn i n nz H5 w5 with ⟨stop,qn⟩ |⟨go,N,hN,step⟩
  .have:=T.done X' eP eW eK jN i [] s5 nz H5 (λ_ _=>False) I5 (ii ze) nB stop;rw[eA] at this;refine bi this λr s6 ⟨hr,I6⟩=>?_
   subst hr;subst ib;have J6:Inv X aa σ H5 s6:=I3.ql (ch:=fp) I6.os I6.base I6.bt I6.bare λb bv=>⟨(f3 b bv).2.2.2.1,(f3 b bv).2.1,(f3 b bv).2.2.2.2.1,(f3 b bv).2.2.2.2.2⟩
   obtain⟨m,hn,_⟩:=I6.loc;exact JE D _ H5 s6 m J6 qn hn (I3.jL (Ze _) I6.free)
  .have:=T.item X' eP eW eK jN i [] s5 nz H5 (λ_ _=>False) I5 (ii ze) nB go;rw[eA] at this;refine bi this λr s6 ⟨u,hr,h6⟩=>?_
   subst hr;refine bi h6 λ_ s7 ⟨x,H7,I7,r7,y7,vz,JG⟩=>?_
   have JN:=I7.pinned (ii JG) (T.obj _ _ vz);have a1:=hg _ s7 nz H7 x u _ JN r7 (step x H7 y7);rw[eP,eW,eA,eE,ex] at a1;refine bi a1 λ_ s8 ⟨vj,H8,I8,q8⟩=>?_
   have a2:=A3 _ s8 vj H8 _ I8 q8;rw[eP,eW,eA,eE,ex] at a2;refine bi a2 λb s9 ⟨H9,I9,q9⟩=>?_
   have again:∀{s':Shared}{aC:St}{H':Hp},Inv X' ([]++dJ fp s7.heap) aC H' s'->N aC H'->∃m,m<n/\∃i aC H',Inv X' [] aC H' s'/\tn i s'.heap/\(∀b∈fp,H' b=none)/\W i m aC H':=λ{s' aC H'} I' n'=>by
    obtain⟨m',hm,w'⟩:=hN aC H' n';refine⟨m',hm,i+1,aC,H',I'.df,T.keep _ _ _ vz λb bv o e=>(I'.pin (b,o) (Zq _ (Zq _ (AK bv e)))).1,λb bv=>?_,w'⟩;obtain⟨o,e,d⟩:=T.obj _ _ vz b bv;exact(I'.pin (b,o) (Zq _ (Zq _ (AK bv e)))).2.1
   cases b with
   |false=>exact again I9 q9
   |true =>
    rw[if_pos rfl] at q9 ⊢;have a3:=ZL _ s9 vj H9 _ I9 q9;rw[eP,eW,eA,eE,ex] at a3;refine bi a3 λkv Nt ⟨yk,OY,OX,NX,NZ⟩=>?_
    have a4:=ZJ _ Nt vj OY _ OX NZ;rw[eP,eW,eA,eE,ex] at a4;refine bi a4 λvv NT ⟨yv,V9,JO,r11,kvs,k,hk,ek,hz,NY⟩=>?_
    subst ek;have a5:=Av (E:=λ_ _=>False) (A:=X.A) (Q:=λ_ s'=>∃m,m<n/\∃i aC H',Inv X' [] aC H' s'/\tn i s'.heap/\(∀b∈fp,H' b=none)/\W i m aC H') JO hk NX r11 hz λs' I'=>again I' NY
    rw[eP,eW] at a5;exact a5
 exact codeAny_compStart_dict (nM _ rfl) (T.self X.A 0 _ _ _ AS (nM _ rfl))
theorem DC (B:az X scope own cap ix)(hc:X.calm=true)(hi:PI X tg iter wi)
  (hb:∀C fp s H,PG (gc X scope C (own++cap) fp s H) tg g/\fo (gc X scope C (own++cap) fp s H) fg tt/\PE (gc X scope C (own++cap) fp s H) kx tk/\PE (gc X scope C (own++cap) fp s H) vx tv)
  (hs:∀x,foldedSetIterable iter X.env x=pure x:=by intro _;rfl):PE X (.DictComp kx vx [⟨tg,iter,fg,0⟩] scope pos) (K6 wi g tt tk tv own.length ix):=by
 intro aa s σ H Q I h;rw[arm_eval_DictComp];have has:∀x∈scope.names,x.2=.free->(X.env.cells.lookup x.1).isSome=true:=λx hx hk=>by
  obtain⟨c,e⟩:=I.ok.has x.1 (B.frees x hx hk);rw[e];rfl
 refine wpAny_comprehension_free (use:=none) rfl hs (N9 has) B.kind B.names ?_;show wpAny _ _ (eval iter X.env) _ _ s;refine bi (hi aa s σ H _ I h) λv s1 h1=>bi h1 λEI s2 h2=>?_
 obtain⟨it,fp,tn,J,H2,e,I2,T,gG,f2,q⟩:=h2;subst e;refine xc (RR:=λacc C=>compPost (model X.prog X.w) X.A X.xe none (EP X aa σ Q) acc C) B hc hb I2 T gG f2 q ?_;intro D C H' s' m I' q' hn fC;refine⟨m,hn,λh' vH=>⟨.ref D,H',?_,rfl,q'⟩⟩;exact I'.turned (t':=s'.toks) (it:=C) (λb o Fb e=>(vH.2 b Fb).trans e) fC.1 fC.2.1 fC.2.2.2.1 fC.2.2.2.2.1 fC.2.2.2.2.2
end
section
variable {X:Cx}
def ow (v a:Addr):HO:=.ext λh=>h.IsValuesView v a
def Gy:V->List V->Hp->VK->Prop:=λx xs H Q=>∃a kvs,x=.ref a/\xs=[]/\H a=some (.dK kvs)/\∀v,H v=none->Q (.ref v) (aK H v (ow v a))
theorem Ac:SE X "dict.values" Gy:=by
 intro aa s σ H x xs v us Q I r rs h;obtain⟨a,kvs,rfl,rfl,ha,q⟩:=h;cases rs;cases r;obtain⟨z,hd,vs,mO,dd⟩:=Ca I.bt ha;refine call_meetsIn PySem.F.slot_dict_values dd.typeIs PySem.F.entry_dict_values (PySem.F.args_dict_values_1 _) (meets_dict_values (tu X.prog X.w) a hd) ⟨⟨vs,dd⟩,?_⟩;have hv:(s.heap.push { cls:=.type "dict_values",data:=.fields #[.ref a] }).IsValuesView s.heap.objs.size a:=⟨_,Heap.get?_push_size _ rfl,rfl,rfl⟩;refine⟨.ref s.heap.objs.size,_,I.laid (t':=s.toks) (o:=ow s.heap.objs.size a) (λ_ _ q=>Heap.get?_push_of_some _ q) (Ze _) ⟨hv,⟨_,Heap.get?_push_size _ rfl⟩,λh1 h2 w1 hk=>?_⟩,rfl,q _ I.fresh⟩;obtain⟨o,e,c⟩:=w1;exact⟨o,hk o e,c⟩
theorem sM {aa:Γ2}{σ:St}{H:Hp}{s:Shared}{a:Addr}{kvs:List (cU×V)}(I:Inv X aa σ H s)(ha:Rd H a (.dK kvs)) :
  kvs.length<=sizeLine/\(a == sysModules)=false/\∃vs ep,KV kvs vs/\s.heap.DictAt (tu X.prog X.w) a vs ep:=by
 obtain⟨z,hd,vs,mO,o,es,ep,r⟩:=xS I.bt ha;exact⟨z,hd,vs,ep,mO,o,es,r⟩
theorem yu:∀{kvs:List (cU×V)}{vs:List (cU×Value)}{us:Δ3},KV kvs vs->us.length=vs.length->(∀(j:Nat) (v:Value),us[j]?=some v->∃k,vs[j]?=some (k,v))->aP (kvs.map (·.2)) us
 |_,_,us,.nil,hl,_=>by
  cases us with
  |nil=>exact .nil
  |cons _ _=>simp at hl
 |_,_,us,.cons h hs,hl,hu=>by
  cases us with
  |nil=>simp at hl
  |cons u us =>
   refine .cons ?_ (yu hs (by simpa using hl) λj v hj=>hu (j+1) v (by simpa using hj));obtain⟨k,e⟩:=hu 0 u rfl;simp at e;have:=h.2;rw[e] at this;exact this
theorem l8 (hc:X.calm=true):cc X (.type "list") (λxs H Q=>∃v a kvs,xs=[.ref v]/\H v=some (ow v a)/\Rd H a (.dK kvs)/\∀l,H l=none->Q (.ref l) (aK H l (.lst (kvs.map (·.2))))):=by
 intro aa s σ H xs us Q I r h;obtain⟨v,a,kvs,rfl,hv,ha,q⟩:=h;obtain⟨u,rfl,rx⟩:=vals1 r;cases rx;obtain⟨z,hd,vs,ep,mO,at'⟩:=sM I ha;have RE:s.heap.IsValuesView v a:=(I.bt v _ hv).1;have hl:=mO.length;refine PySem.W.kdl_call (PySem.W.kdl_values (knd:=tu X.prog X.w) (kvs:=vs) (ep:=ep) (r:=v) (d:=a)) (I.ok.hd hc) ⟨RE,at'⟩ (by rw[<- hl];exact z) λh' tk acc c' hk hD bu=>?_
 have hvs:aP (kvs.map (·.2)) acc.toList:=yu mO (by rw[Array.length_toList];exact bu.1) λj x e=>bu.2 j x (by rw[<- Array.getElem?_toList];exact e)
 refine⟨.ref s.heap.objs.size,_,I.laid (t':=tk) (o:=.lst (kvs.map (·.2))) hk (Ze _) ⟨by rw[Zb];exact z,acc.toList,c',hvs,?_⟩,rfl,q _ I.fresh⟩;simpa using hD
theorem Inv.freeze {aa:Γ2}{σ:St}{H:Hp}{s:Shared}{a:Addr}{kvs:List (cU×V)}{o:Obj}(I:Inv X aa σ H s)(ha:H a=some (.dK kvs))(ho:s.heap.get? a=some o):Inv X aa σ (aK H a (.jO o (.dK kvs))) s:=by
 refine I.write (x:=a) (e:=a) (t':=s.toks) (h':=s.heap) (by rw[ha];exact True.intro) (.inl rfl) (λ_ _ _ e=>e) ⟨o,ho⟩ ⟨ho,?_⟩;obtain⟨z,hd,vs,mO,dd⟩:=Ca I.bt ha;exact⟨z,hd,vs,mO,dd⟩
theorem M0 {k:cU}{v:Value}(h:oh k v=true):RelV (kV k) v:=by
 rcases EH h with ⟨i,t,rfl,rfl⟩ |⟨x,t,rfl,rfl⟩
 .exact⟨t,rfl⟩
 .exact⟨t,rfl⟩
def SF (a:Addr)(o:Obj)(kvs:List (cU×V)):It :=
 ⟨λi H=>H a=some (.jO o (.dK kvs))/\i<kvs.length,λi H x H'=>H'=H/\∃k v,kvs[i]?=some (k,v)/\x=kV k,λi H=>H a=some (.jO o (.dK kvs))/\kvs.length<=i⟩
theorem uR {aa:Γ2}{σ:St}{H:Hp}{s:Shared}{a:Addr}{o:Obj}{UU:Array DictEntry}{ep:Nat}{kvs:List (cU×V)}(I:Inv X aa σ H s)(hg:H a=some (.jO o (.dK kvs)))(R9:o.data=.dict UU ep) :
  ∃vs,KV kvs vs/\vs.length=kvs.length/\s.heap.DictAt (tu X.prog X.w) a vs ep:=by
 obtain⟨z,hd,vs,So,mO,o',es,vq,r⟩:=sM I (.inr ⟨o,hg⟩);obtain⟨ho,_⟩:=I.bt a _ hg;have:o'=o:=by rw[ho] at vq;exact(Option.some.inj vq).symm
 subst this;have h2:=r.2.1;rw[R9] at h2;injection h2 with _ h2
 subst h2;exact⟨vs,mO,mO.length.symm,o',es,vq,r⟩
theorem zK {P:Program}{w:World}{K:Θ1}{tg:Expr}(a it:Addr)(o:Obj)(kvs:List (cU×V))(UU:Array DictEntry)(ep:Nat)(R9:o.data=.dict UU ep):Turn P w K tg (SF a o kvs) [it] it (λi h=>h.IsKeyIter it a i kvs.length ep) where
 mem:=by simp
 obj:=λi h st b hb=>by
  obtain rfl:b=it:=by simpa using hb
  obtain⟨o',e,c,d⟩:=st;exact⟨o',e,λv z=>by rw[d] at z;cases z⟩
 keep:=λi h h' st k=>st.at λo e=>k it (by simp) o e
 item:=by
  intro X hP hw hK hc i aa s σ H E I hf st hg;subst hP hw hK;obtain⟨hg,hi⟩:=hg;obtain⟨vs,mO,hl,at'⟩:=uR I hg R9;obtain⟨f0,f1,f2,f3,f4,f5⟩:=hf it (by simp);obtain⟨⟨k,v⟩,R7⟩:∃p,vs[i]?=some p:=⟨vs[i],by simp[show i<vs.length by omega]⟩;refine wpAny_pyNext_dict_item (by rw[hl];exact st) at' R7 λTH h' KI xn sb=>?_
  have I1:Inv X aa σ H { s with heap:=h' }:=I.turned (t':=s.toks) (λb o hb e=>(sb.2 b hb).trans e) f0 f1 f3 f4 f5;rw[hl] at xn;obtain⟨o1,e1,c1,d1⟩:=id xn;have Ot:∃v',kvs[i]?=some (k,v'):=by
   have e2:=mO.keys;have e3:=congrArg (λl=>l[i]?) e2;simp only[Zg,R7,Xg] at e3;cases e4:kvs[i]? with
   |none=>rw[e4] at e3;cases e3
   |some p =>
    rw[e4] at e3;simp only[Xg,Option.some.injEq] at e3;exact⟨p.2,by rw[<- e3]⟩
  obtain⟨v',hv'⟩:=Ot;exact⟨TH,rfl,ui (s:={ s with heap:=h' }) e1 c1 d1 (by decide) ⟨kV k,H,I1,M0 KI,⟨rfl,k,v',hv',rfl⟩,xn,λb hb=>(hf b hb).1⟩⟩
 done:=by
  intro X hP hw hK hc i aa s σ H E I hf st hg;subst hP hw hK;obtain⟨hg,hi⟩:=hg;obtain⟨vs,mO,hl,at'⟩:=uR I hg R9;obtain⟨f0,f1,f2,f3,f4,f5⟩:=hf it (by simp);exact wpAny_pyNext_dict_end (I.ok.hd hc) (by rw[hl];exact st) at' (by simp;omega) λh' eb=>⟨rfl,I.turned (t':=s.toks) (λb o hb e=>eb b o hb e) f0 f1 f3 f4 f5⟩
 self:=λ_ _ _ _ _ st h=>wpAny_pyIter_keyiter st h
def RD (td:TE):TI:=λσ H R=>td σ H λx H1=>∃a kvs,x=.ref a/\H1 a=some (.dK kvs)/\∀o,R (SF a o kvs) (aK H1 a (.jO o (.dK kvs)))
theorem GI {tg l:Expr}{td:TE}(hl:PE X l td):PI X tg l (RD td):=by
 intro aa s σ H R I h;refine bi (hl aa s σ H _ I h) λv s1 ⟨x,H1,I1,r1,q1⟩=>?_
 obtain⟨a,kvs,e,ha,q⟩:=q1;subst e;cases r1;obtain⟨z,hd,vs,ep,mO,o,es,ho,r⟩:=sM I1 (.inl ha);have at':s1.heap.DictAt (tu X.prog X.w) a vs ep:=⟨o,es,ho,r⟩;refine wpAny_pyIter_dict hd at' ?_;have I2:=I1.freeze ha ho;have lA:=mO.length;refine⟨s1.heap.objs.size,[s1.heap.objs.size],_,SF a o kvs,_,rfl,I2.kept (t':=s1.toks) λb o e=>Heap.get?_push_of_some _ e,zK a _ o kvs es ep r.2.1,⟨_,Heap.get?_push_size _ rfl,rfl,by rw[lA];rfl⟩,λb hb=>?_,q o⟩;obtain rfl:b=s1.heap.objs.size:=by simpa using hb
 exact I2.jL (Ze _) (I2.bt.fresh (Ze _))
end
end L2
namespace PySem
theorem um {prog:Program}{w:World}{A:Around}{E:Θ2}{s:Shared}{T:Addr}{a b x:Value}{k:Nat}{Q:Unit->Shared->Prop}(hT:IsPair s.heap T a b)
  (q:∀g,g.get? T=some { cls:=.type "tuple",data:=.seq ((#[a,b]:Array Value).setIfInBounds k x) }->Heap.SameBut T s.heap g->Q () { s with heap:=g }):wpAny (model prog w) A (updateSeq T (·.setIfInBounds k x)) Q E s :=
 wpAny_updateSeq_pair hT q
section
variable {prog:Program}{w:World}{A:Around}{E:Θ2}{s:Shared}{z TI TO i1 i2 l1 l2:Addr}{k1 k2:Nat}{xs ys:Array Value}{x y a b:Value}
theorem AY {h g:Heap}{it l c:Addr}{i:Nat}(t:h.IsTupleIter it l i)(sb:Heap.ExtBut c h g)(ne:it≠c):g.IsTupleIter it l i:=let ⟨o,e,r⟩:=t;⟨o,sb it o ne e,r⟩
theorem kG {h g:Heap}{l c:Addr}{v:Array Value}(t:h.IsTuple l v)(sb:Heap.ExtBut c h g)(ne:l≠c):g.IsTuple l v:=let ⟨o,e,r⟩:=t;⟨o,sb l o ne e,r⟩
theorem zE {Q:Θ2}(D:ZipApart z TI TO i1 i2 l1 l2)(hz:IsZip s.heap z TI TO .none)(pI:IsPair s.heap TI (.ref i1) (.ref i2))(pO:IsPair s.heap TO a b)
  (t1:s.heap.IsTupleIter i1 l1 k1) (t2:s.heap.IsTupleIter i2 l2 k2) (u1:s.heap.IsTuple l1 xs) (u2:s.heap.IsTuple l2 ys) (hx:xs[k1]?=some x) (hy:ys[k2]?=some y)
  (q:∀g,IsZip g z TI TO (rawInt s.heap.objs.size)->IsPair g TO x y->g.IsTupleIter i1 l1 (k1+1)->g.IsTupleIter i2 l2 (k2+1)->IsPair g s.heap.objs.size x y ->
   (∀c o,c≠z->c≠TO->c≠i1->c≠i2->s.heap.get? c=some o->g.get? c=some o)->Q (.ref s.heap.objs.size) { s with heap:=g }) :
  wpAny (model prog w) A (Builtin.«zip.__next__» ⟨[.ref z],[]⟩) (λkq s'=>∃v,kq=.done (.ret v)/\Q v s') E s:=by
 show wpAny _ _ (field (.ref z) 2 >>= _) _ _ _;refine Za (wpAny_field hz rfl (x:=.bool false) rfl ?_);show wpAny _ _ (field (.ref z) 3 >>= _) _ _ _;refine Za (wpAny_field hz rfl (x:=.ref TI) rfl (Za (wpAny_seqItems pI rfl ?_)));show wpAny _ _ (Builtin.SmallTypes.ownedTupleIsFree (.ref z) >>= _) _ _ _;refine Za ?_;unfold Builtin.SmallTypes.ownedTupleIsFree;refine Za (wpAny_field hz rfl (x:=.none) rfl (wpAny_pure ?_));simp only[if_true];refine Za (wpAny_rule (Za (wpAny_field hz rfl (x:=.ref TO) rfl ?_)));refine Za (wpAny_setField_rec hz (by simp) λg1 z1 b1=>?_);replace z1:IsZip g1 z TI TO .ellipsis:=z1;refine Za ?_;simp only[List.zipIdx_cons,List.zipIdx_nil,List.forIn_cons,List.forIn_nil];refine Za (Za (wpAny_onRaise ?_));show wpAny _ _ (Builtin.SmallTypes.nextOf (.ref i1) >>= _) _ _ _;refine Za (TK (AY t1 b1.extBut D.i1z) (kG u1 b1.extBut D.l1z) hx λg2 n1 b2=>wpAny_pure ?_);have o2:IsPair g2 TO a b:=b2.extBut _ _ D.TOi1 (b1.extBut _ _ D.TOz pO);refine Za (wpAny_seqItems o2 rfl (Za (um o2 λg3 o3 b3=>Za (wpAny_letGo (wpAny_pure ?_)))))
 replace o3:IsPair g3 TO x b:=o3
 refine Za (Za (wpAny_onRaise ?_));show wpAny _ _ (Builtin.SmallTypes.nextOf (.ref i2) >>= _) _ _ _;refine Za (TK (AY (AY (AY t2 b1.extBut D.i2z) b2.extBut D.i12.symm) b3.extBut D.TOi2.symm) (kG (kG (kG u2 b1.extBut D.l2z) b2.extBut D.l2i1) b3.extBut D.l2TO) hy λg4 n2 b4=>wpAny_pure ?_);have o4:IsPair g4 TO x b:=b4.extBut _ _ D.TOi2 o3;refine Za (wpAny_seqItems o4 rfl (Za (um o4 λg5 o5 b5=>Za (wpAny_letGo (wpAny_pure (wpAny_pure ?_))))))
 replace o5:IsPair g5 TO x y:=o5
 refine Za (wpAny_seqItems o5 rfl (Za (wpAny_newTuple ?_)));have sz:g5.objs.size=s.heap.objs.size:=by rw[b5.1,b4.1,b3.1,b2.1,b1.1]
 have z5:IsZip g5 z TI TO .ellipsis:=b5.extBut _ _ D.TOz.symm (b4.extBut _ _ D.i2z.symm (b3.extBut _ _ D.TOz.symm (b2.extBut _ _ D.i1z.symm z1)));have k5:∀c o,c≠z->c≠TO->c≠i1->c≠i2->s.heap.get? c=some o->g5.get? c=some o:=λc o e1 e2 e3 e4 e=>b5.extBut _ _ e2 (b4.extBut _ _ e4 (b3.extBut _ _ e2 (b2.extBut _ _ e3 (b1.extBut _ _ e1 e))))
 have m1:g5.IsTupleIter i1 l1 (k1+1):=AY (AY (AY n1 b3.extBut D.TOi1.symm) b4.extBut D.i12) b5.extBut D.TOi1.symm;have m2:g5.IsTupleIter i2 l2 (k2+1):=AY n2 b5.extBut D.TOi2.symm;have X1:z<g5.objs.size:=Heap.lt_size z5;show wpAny _ _ (Builtin.SmallTypes.ownedTupleHandOut (.ref z) (.ref g5.objs.size) >>= _) _ _ _;refine Za ?_;unfold Builtin.SmallTypes.ownedTupleHandOut;have z6:IsZip (g5.push { cls:=.type "tuple",data:=.seq #[x,y] }) z TI TO .ellipsis:=Heap.get?_push_of_some _ z5;refine Za (wpAny_setField_rec z6 (by simp) λg7 z7 b7=>?_);replace z7:IsZip g7 z TI TO (rawInt g5.objs.size):=z7;refine wpAny_setField_rec z7 (by simp) λg8 z8 b8=>?_;replace z8:IsZip g8 z TI TO (rawInt g5.objs.size):=z8
 have up:∀c o,c≠z->g5.get? c=some o->g8.get? c=some o:=λc o e1 e=>b8.extBut _ _ e1 (b7.extBut _ _ e1 (Heap.get?_push_of_some _ e))
 have p8:IsPair g8 g5.objs.size x y:=b8.extBut _ _ (Xj X1) (b7.extBut _ _ (Xj X1) (Heap.get?_push_size _ rfl));rw[sz] at z8 p8;refine wpAny_pure ⟨_,rfl,?_⟩;show Q (.ref g5.objs.size) _;rw[sz];exact q g8 z8 (up _ _ D.TOz o5) (let ⟨o,e,r⟩:=m1;⟨o,up _ o D.i1z e,r⟩) (let ⟨o,e,r⟩:=m2;⟨o,up _ o D.i2z e,r⟩) p8 λc o e1 e2 e3 e4 e=>up c o e1 (k5 c o e1 e2 e3 e4 e)
theorem zD {Q:Fin->Shared->Prop}(hh:A.handled=none)(D:ZipApart z TI TO i1 i2 l1 l2)(hz:IsZip s.heap z TI TO .none)(pI:IsPair s.heap TI (.ref i1) (.ref i2))(pO:IsPair s.heap TO a b)
  (t1:s.heap.IsTupleIter i1 l1 k1) (t2:s.heap.IsTupleIter i2 l2 k2) (u1:s.heap.IsTuple l1 xs) (u2:s.heap.IsTuple l2 ys) (hx:xs[k1]?=none)
  (q:∀g e,(∀c o,c≠z->c≠TO->c≠i1->c≠i2->s.heap.get? c=some o->g.get? c=some o)->(∃o,g.get? e=some o/\o.cls=.type "StopIteration")->E (.ref e) { s with heap:=g }) :
  wpAny (model prog w) A (Builtin.«zip.__next__» ⟨[.ref z],[]⟩) Q E s:=by
 show wpAny _ _ (field (.ref z) 2 >>= _) _ _ _;refine Za (wpAny_field hz rfl (x:=.bool false) rfl ?_);show wpAny _ _ (field (.ref z) 3 >>= _) _ _ _;refine Za (wpAny_field hz rfl (x:=.ref TI) rfl (Za (wpAny_seqItems pI rfl ?_)));show wpAny _ _ (Builtin.SmallTypes.ownedTupleIsFree (.ref z) >>= _) _ _ _;refine Za ?_;unfold Builtin.SmallTypes.ownedTupleIsFree;refine Za (wpAny_field hz rfl (x:=.none) rfl (wpAny_pure ?_));simp only[if_true];refine Za (wpAny_rule (Za (wpAny_field hz rfl (x:=.ref TO) rfl ?_)));refine Za (wpAny_setField_rec hz (by simp) λg1 z1 b1=>?_);replace z1:IsZip g1 z TI TO .ellipsis:=z1;refine Za ?_;simp only[List.zipIdx_cons,List.zipIdx_nil,List.forIn_cons,List.forIn_nil];refine Za (Za (wpAny_onRaise ?_));show wpAny _ _ (Builtin.SmallTypes.nextOf (.ref i1) >>= _) _ _ _;refine Za (TJ hh (AY t1 b1.extBut D.i1z) (kG u1 b1.extBut D.l1z) hx λg2 e b2 ⟨oe,he,ce⟩=>?_);have z2:IsZip g2 z TI TO .ellipsis:=b2 _ _ D.i1z.symm z1;have ez:e≠z:=λh=>by subst h;rw[z2] at he;cases he;simp at ce
 exact wpAny_setField_rec z2 (by simp) λg3 _ b3=>q g3 e (λc o e1 _ e3 _ h=>b3.extBut _ _ e1 (b2 _ _ e3 (b1.extBut _ _ e1 h))) ⟨oe,b3.extBut _ _ ez he,ce⟩
theorem uZ {Q:Φ1->Shared->Prop}(D:ZipApart z TI TO i1 i2 l1 l2)(hz:IsZip s.heap z TI TO .none)(pI:IsPair s.heap TI (.ref i1) (.ref i2))(pO:IsPair s.heap TO a b)
  (t1:s.heap.IsTupleIter i1 l1 k1) (t2:s.heap.IsTupleIter i2 l2 k2) (u1:s.heap.IsTuple l1 xs) (u2:s.heap.IsTuple l2 ys) (hx:xs[k1]?=some x) (hy:ys[k2]?=some y)
  (q:∀g,IsZip g z TI TO (rawInt s.heap.objs.size)->IsPair g TO x y->g.IsTupleIter i1 l1 (k1+1)->g.IsTupleIter i2 l2 (k2+1)->IsPair g s.heap.objs.size x y ->
   (∀c o,c≠z->c≠TO->c≠i1->c≠i2->s.heap.get? c=some o->g.get? c=some o)->Q (some (.ref s.heap.objs.size)) { s with heap:=g }):wpAny (model prog w) A (pyNext (.ref z)) Q E s:=by
 have ty:s.TypeIs (.ref z) "zip":=⟨_,hz,rfl⟩;unfold pyNext;exact Za (wpAny_attempt (wpAny_callSpecial?_slot (name:=Str.ofString "__next__") ty F.slot_zip_next (wpAny_call_entry F.slot_zip_next ty F.entry_zip_next
  (zE D hz pI pO t1 t2 u1 u2 hx hy λg a1 a2 a3 a4 a5 a6=>wpAny_pure (q g a1 a2 a3 a4 a5 a6)) (F.args_zip_next_1 _))))
theorem mH {Q:Φ1->Shared->Prop}(hh:A.handled=none)(D:ZipApart z TI TO i1 i2 l1 l2)(hz:IsZip s.heap z TI TO .none)(pI:IsPair s.heap TI (.ref i1) (.ref i2))(pO:IsPair s.heap TO a b)
  (t1:s.heap.IsTupleIter i1 l1 k1) (t2:s.heap.IsTupleIter i2 l2 k2) (u1:s.heap.IsTuple l1 xs) (u2:s.heap.IsTuple l2 ys) (hx:xs[k1]?=none)
  (q:∀g,(∀c o,c≠z->c≠TO->c≠i1->c≠i2->s.heap.get? c=some o->g.get? c=some o)->Q none { s with heap:=g }):wpAny (model prog w) A (pyNext (.ref z)) Q E s:=by
 have ty:s.TypeIs (.ref z) "zip":=⟨_,hz,rfl⟩;unfold pyNext;exact Za (wpAny_attempt (wpAny_callSpecial?_slot (name:=Str.ofString "__next__") ty F.slot_zip_next (wpAny_call_entry F.slot_zip_next ty F.entry_zip_next
  (zD hh D hz pI pO t1 t2 u1 u2 hx λg e hk ⟨o,ho,hc⟩=>Za (wpAny_isInstance (T:="StopIteration") (b:=true) ⟨o,ho,hc⟩ isSubtype_stop (wpAny_pure (q _ hk)))) (F.args_zip_next_1 _))))
end
abbrev NO (h:Heap)(l1:Addr):Heap:=h.push { cls:=.type "tuple_iterator",data:=.fields #[.ref l1,.int 0 0] }
abbrev RP (h:Heap)(l1 l2:Addr):Heap:=(NO h l1).push { cls:=.type "tuple_iterator",data:=.fields #[.ref l2,.int 0 0] }
abbrev RO (h:Heap)(l1 l2:Addr):Heap:=(RP h l1 l2).push { cls:=.type "tuple",data:=.seq #[.ref h.objs.size,.ref (NO h l1).objs.size] }
abbrev RN (h:Heap)(l1 l2:Addr):Heap:=(RO h l1 l2).push { cls:=.type "tuple",data:=.seq #[.none,.none] }
abbrev Nj (h:Heap)(l1 l2:Addr):Heap:=(RN h l1 l2).push { cls:=.type "zip",data:=.fields #[.none,.bool false,.bool false,.ref (RP h l1 l2).objs.size,.ref (RO h l1 l2).objs.size] }
theorem wR (l1 l2:Addr)(xs ys:Array Value):Meets (Builtin.«zip.__new__» ⟨[.type "zip",.ref l1,.ref l2],[]⟩) (λ_ R s=>s.heap.IsTuple l1 xs/\s.heap.IsTuple l2 ys/\R (.ok (.ret (.ref (RN s.heap l1 l2).objs.size))) { s with heap:=Nj s.heap l1 l2 }) :=
 .of_wp λprog w A R s h=>by
  obtain⟨hp,g,d,tk,os⟩:=s;obtain⟨v1,v2,h⟩:=h;have Bp:=sub_zip;have w1:Heap.IsTuple (Shared.heap ⟨hp,g,d,tk,os⟩) l1 xs:=v1;have w2:Heap.IsTuple (Shared.heap ⟨NO hp l1,g,d,tk,os⟩) l2 ys:=let ⟨o,e,r⟩:=v2;⟨o,Heap.get?_push_of_some _ e,r⟩
  wp_walk using wpAny_pyIter_tuple w1,wpAny_pyIter_tuple w2
  exact⟨_,rfl,h⟩
theorem Az {prog:Program}{w:World}{A:Around}{E:Θ2}{s:Shared}{l1 l2:Addr}{xs ys:Array Value}{Q:Θ2}(v1:s.heap.IsTuple l1 xs)(v2:s.heap.IsTuple l2 ys)
  (q:∀g,IsZip g (s.heap.objs.size+4) (s.heap.objs.size+2) (s.heap.objs.size+3) .none->IsPair g (s.heap.objs.size+2) (.ref s.heap.objs.size) (.ref (s.heap.objs.size+1))->IsPair g (s.heap.objs.size+3) .none .none ->
   g.IsTupleIter s.heap.objs.size l1 0->g.IsTupleIter (s.heap.objs.size+1) l2 0->(∀c o,s.heap.get? c=some o->g.get? c=some o)->Q (.ref (s.heap.objs.size+4)) { s with heap:=g }):wpAny (model prog w) A (call (.type "zip") [.ref l1,.ref l2]) Q E s:=by
 refine callType_new F.called_zip (by decide) (F.typeCall_zip_2 _ _) (F.newCall_zip_2 _ _) (λobj=>F.args_object_init_3 obj _ _) F.entry_zip_new (wR l1 l2 xs ys) ⟨v1,v2,?_⟩;have e1:(NO s.heap l1).objs.size=s.heap.objs.size+1:=Heap.size_push ..;have e2:(RP s.heap l1 l2).objs.size=s.heap.objs.size+2:=by rw[Heap.size_push,e1]
 have e3:(RO s.heap l1 l2).objs.size=s.heap.objs.size+3:=by rw[Heap.size_push,e2]
 have e4:(RN s.heap l1 l2).objs.size=s.heap.objs.size+4:=by rw[Heap.size_push,e3]
 have p5:(Nj s.heap l1 l2).get? (RN s.heap l1 l2).objs.size=some _:=Heap.get?_push_size _ rfl;have p4:(Nj s.heap l1 l2).get? (RO s.heap l1 l2).objs.size=some _:=Heap.get?_push_of_some _ (Heap.get?_push_size _ rfl);have p3:(Nj s.heap l1 l2).get? (RP s.heap l1 l2).objs.size=some _:=Heap.get?_push_of_some _ (Heap.get?_push_of_some _ (Heap.get?_push_size _ rfl));have p2:(Nj s.heap l1 l2).get? (NO s.heap l1).objs.size=some _:=Heap.get?_push_of_some _ (Heap.get?_push_of_some _ (Heap.get?_push_of_some _ (Heap.get?_push_size _ rfl)));have p1:(Nj s.heap l1 l2).get? s.heap.objs.size=some _:=Heap.get?_push_of_some _ (Heap.get?_push_of_some _ (Heap.get?_push_of_some _ (Heap.get?_push_of_some _ (Heap.get?_push_size _ rfl))));show _/\_;rw[e2,e3,e4] at p5;rw[e1,e2] at p3;rw[e3] at p4;rw[e1] at p2;rw[e4];exact⟨⟨_,p5,rfl⟩,q _ p5 p3 p4 ⟨_,p1,rfl,rfl⟩ ⟨_,p2,rfl,rfl⟩ λc o h=>Heap.get?_push_of_some _ (Heap.get?_push_of_some _ (Heap.get?_push_of_some _ (Heap.get?_push_of_some _ (Heap.get?_push_of_some _ h))))⟩
end PySem
namespace L2
open PySem PySem.Spec PyProof.Rows
section
variable {X:Cx}
def HU (K:Θ1)(a b:Addr):It :=
 ⟨λi H=>∃xs ys x y,aG K H a xs/\aG K H b ys/\xs[i]?=some x/\ys[i]?=some y,
  λi H v H'=>∃p,H p=none/\v=.ref p/\∀xs ys,aG K H a xs->aG K H b ys->∃x y,xs[i]?=some x/\ys[i]?=some y/\H'=aK H p (.tup [x,y]),
  λi H=>∃xs ys,aG K H a xs/\aG K H b ys/\xs.length<=i⟩
theorem Df {P:Program}{w:World}{K:Θ1}{nS:Ξ2}{kk}{pos:Pos}(a b z TI TO i1 i2:Addr)(D:ZipApart z TI TO i1 i2 a b) :
  Turn P w K (.Tuple nS kk pos) (HU K a b) [z,TI,TO,i1,i2] z (λi h=>IsZip h z TI TO .none/\IsPair h TI (.ref i1) (.ref i2)/\(∃u v,IsPair h TO u v)/\h.IsTupleIter i1 a i/\h.IsTupleIter i2 b i) where
 mem:=by simp
 obj:=λi h st c hc=>by
  obtain⟨hz,pI,⟨u,v,pO⟩,⟨o1,e1,c1,d1⟩,o2,e2,c2,d2⟩:=st;simp only[Zf,Xh,or_false] at hc;rcases hc with rfl |rfl |rfl |rfl |rfl
  .exact⟨_,hz,λv z=>by cases z⟩
  .exact⟨_,pI,λv z=>by cases z⟩
  .exact⟨_,pO,λv z=>by cases z⟩
  .exact⟨o1,e1,λv z=>by rw[d1] at z;cases z⟩
  .exact⟨o2,e2,λv z=>by rw[d2] at z;cases z⟩
 keep:=λi h h' st k=>by
  obtain⟨hz,pI,⟨u,v,pO⟩,⟨o1,e1,r1⟩,o2,e2,r2⟩:=st;exact⟨k z (by simp) _ hz,k TI (by simp) _ pI,⟨u,v,k TO (by simp) _ pO⟩,⟨o1,k i1 (by simp) _ e1,r1⟩,o2,k i2 (by simp) _ e2,r2⟩
 item:=by
  intro X hP hw hK hc i aa s σ H E I hf st hg;subst hP hw hK;obtain⟨xs,ys,x,y,tM,NC,hx,hy⟩:=hg;obtain⟨us,ru,pu,zu⟩:=I.tuple tM;obtain⟨vs,rv,pv,zv⟩:=I.tuple NC;obtain⟨u,hu,rxu⟩:=ru.get hx;obtain⟨v,hv,ryv⟩:=rv.get hy;obtain⟨hz,pI,⟨u0,v0,pO⟩,t1,t2⟩:=st;refine uZ D hz pI pO t1 t2 (show s.heap.IsTuple a us.toArray from pu) (show s.heap.IsTuple b vs.toArray from pv) (x:=u) (y:=v) (by simpa using hu) (by simpa using hv) λg z1 o1 n1 n2 p1 hk=>?_
  refine⟨_,rfl,?_⟩;refine wpAny_letOwnedTupleGo_zip z1 λg2 z2 b2=>?_
  replace b2:Heap.SameBut z g g2:=b2
  have lt:∀{c o},s.heap.get? c=some o->s.heap.objs.size≠c:=λe=>Xj (Heap.lt_size e)
  have cX:s.heap.objs.size≠z:=lt hz;have I1:Inv X aa σ H { s with heap:=g2,toks:=s.toks }:=I.mY (ch:=[z,TI,TO,i1,i2]) (λc o hc q=>by
   have c1:c≠z:=λh=>hc (by simp[h])
   exact b2.extBut c o c1 (hk c o c1 (λh=>hc (by simp[h])) (λh=>hc (by simp[h])) (λh=>hc (by simp[h])) q)) hf
  have p2:=b2.extBut _ _ cX p1;have fp:cR X aa H s.heap.objs.size:=I.jL (Ze _) I.fresh;have I2:=I1.HY (p:=s.heap.objs.size) (o:=.tup [x,y]) fp ⟨by show 2<=sizeLine;decide,[u,v],.cons rxu (.cons ryv .nil),⟨_,p2,rfl,_,rfl⟩⟩;refine⟨.ref s.heap.objs.size,_,I2,rfl,⟨_,I.fresh,rfl,λSQ X2 h1 h2=>?_⟩,⟨z2,b2.extBut _ _ D.TIz (hk _ _ D.TIz D.TITO D.TIi1 D.TIi2 pI),⟨_,_,b2.extBut _ _ D.TOz o1⟩,AY n1 b2.extBut D.i1z,AY n2 b2.extBut D.i2z⟩,λc hc=>?_⟩
  .rw[I.jA h1 tM,I.jA h2 NC];exact⟨x,y,hx,hy,rfl⟩
  .rw[dh]
   .exact(hf c hc).1
   .simp only[Zf,Xh,or_false] at hc;rcases hc with rfl |rfl |rfl |rfl |rfl
    .exact cX.symm
    .exact(lt pI).symm
    .exact(lt pO).symm
    .obtain⟨_,e,_⟩:=t1;exact(lt e).symm
    .obtain⟨_,e,_⟩:=t2;exact(lt e).symm
 done:=by
  intro X hP hw hK hc i aa s σ H E I hf st hg;subst hP hw hK;obtain⟨xs,ys,tM,NC,hx⟩:=hg;obtain⟨us,ru,pu,zu⟩:=I.tuple tM;obtain⟨vs,rv,pv,zv⟩:=I.tuple NC;obtain⟨hz,pI,⟨u0,v0,pO⟩,t1,t2⟩:=st;have hl:=ru.length;exact mH (I.ok.hd hc) D hz pI pO t1 t2 (show s.heap.IsTuple a us.toArray from pu) (show s.heap.IsTuple b vs.toArray from pv) (by simp;omega) λg hk =>
   ⟨rfl,I.mY (t':=s.toks) (ch:=[z,TI,TO,i1,i2]) (λc o hc q=>hk c o (λh=>hc (by simp[h])) (λh=>hc (by simp[h])) (λh=>hc (by simp[h])) (λh=>hc (by simp[h])) q) hf⟩
 self:=λA i s Q E st h=>wpAny_pyIter_zip st.1 h
def WV (K:Θ1)(ta:TA):TI:=λσ H R=>ta σ H λvs H1=>∃a b,vs=[.ref a,.ref b]/\(∃xs,aG K H1 a xs)/\(∃ys,aG K H1 b ys)/\R (HU K a b) H1
end
end L2
namespace L2
open PySem PySem.Spec PyProof.Rows KG
abbrev g2 (K:Θ1):TG:=Bq K 2 (oo (cA 0) (oo (cA 1) FI))
def S2 (ak σ:St):Prop:=∀u v,(σ.set 0 u).set 1 v=(ak.set 0 u).set 1 v
theorem S2.of {ak:St}{u v:Option V}:S2 ak ((ak.set 0 u).set 1 v):=λu' v'=>by
 match ak with
 |[]=>rfl
 |[_]=>rfl
 |_::_::_=>rfl
def xv (ak:St)(acc:Addr)(P:List V->Hp->Prop)(σ:St)(H:Hp):Prop:=S2 ak σ/\∃ys,H acc=some (.lst ys)/\P ys H
theorem xv.of {ak:St}{acc:Addr}{P:List V->Hp->Prop}{u v:Option V}{H:Hp}{ys:List V}(h:H acc=some (.lst ys))(p:P ys H):xv ak acc P ((ak.set 0 u).set 1 v) H:=⟨S2.of,ys,h,p⟩
def HV (ak:St)(acc:Addr)(P:List (cU×V)->Hp->Prop)(σ:St)(H:Hp):Prop:=S2 ak σ/\∃ys,H acc=some (.dK ys)/\P ys H
theorem HV.of {ak:St}{acc:Addr}{P:List (cU×V)->Hp->Prop}{u v:Option V}{H:Hp}{ys:List (cU×V)}(h:H acc=some (.dK ys))(p:P ys H):HV ak acc P ((ak.set 0 u).set 1 v) H:=⟨S2.of,ys,h,p⟩
theorem su {K:Θ1}{ak σ:St}{H:Hp}{p:Addr}{x y:V}{Z:St->Hp->Prop}(tL:S2 ak σ)(hp:H p=none)(h:∀H1,ai H H1->Z ((ak.set 0 (some x)).set 1 (some y)) H1):g2 K (.ref p) σ (aK H p (.tup [x,y])) Z:=by
 refine⟨p,_,rfl,aG.of cL,rfl,_,_,rfl,_,_,rfl,rfl,?_⟩;show Z ((σ.set 0 (some x)).set 1 (some y)) _;rw[tL];exact h _ ((ai.refl H).new hp)
section
variable {K:Θ1}{tt:TT}{te tk tv:TE}{acc a b:Addr}{xs ys:List V}{ak:St}{aD:Hp}{Q:VK}{o:Obj}{kvs:List (cU×V)}
theorem Ax (Pv:Nat->List V->Hp->Prop)(h0:Pv 0 [] (aK aD acc (.lst [])))(hl:∀(i:Nat) zs H,i<=xs.length->H acc=some (.lst zs)->Pv i zs H->aG K H a xs)
  (hs:∀(i:Nat) x zs H H1,xs[i]?=some x->H acc=some (.lst zs)->Pv i zs H->ai H H1->tt ((ak.set 0 (some (.int i))).set 1 (some x)) H1 λb H4 =>
   if b=true then te ((ak.set 0 (some (.int i))).set 1 (some x)) H4 λy H5=>∃us,H5 acc=some (.lst us)/\us.length<sizeLine/\xv ak acc (Pv (i+1)) ((ak.set 0 (some (.int i))).set 1 (some x)) (aK H5 acc (.lst (us++[y])))
   else xv ak acc (Pv (i+1)) ((ak.set 0 (some (.int i))).set 1 (some x)) H4)
  (hd:∀zs H,H acc=some (.lst zs)->Pv xs.length zs H->Q (.ref acc) H):cr (g2 K) tt te (ET K a) acc ak aD Q:=by
 refine⟨λi m σ H=>m=xs.length-i/\i<=xs.length/\xv ak acc (Pv i) σ H,⟨xs.length,by simp,Yn _,λ_ _=>rfl,[],cL,h0⟩,?_⟩;rintro i m σ H ⟨rfl,hi,tL,zs,hy,p⟩;have q:=hl i zs H hi hy p;by_cases cG:i<xs.length
 .refine .inr ⟨⟨xs,xs[i],q,by simp[cG]⟩,xv ak acc (Pv (i+1)),λaC H' c=>⟨xs.length-(i+1),by omega,rfl,cG,c⟩,λx H' y=>?_⟩;obtain⟨pp,hp,rfl,EJ⟩:=y;obtain⟨z,hz,rfl⟩:=EJ xs q;exact su tL hp λH1 s1=>hs i z zs H H1 hz hy p s1
 .have e:i=xs.length:=by omega
  subst e;exact .inl ⟨⟨xs,q,Ze _⟩,hd zs H hy p⟩
theorem Eh (Pv:Nat->List V->Hp->Prop)(bN:xs.length=ys.length)(h0:Pv 0 [] (aK aD acc (.lst [])))(hl:∀(i:Nat) zs H,i<=xs.length->H acc=some (.lst zs)->Pv i zs H->aG K H a xs/\aG K H b ys)
  (hs:∀(i:Nat) x y zs H H1,xs[i]?=some x->ys[i]?=some y->H acc=some (.lst zs)->Pv i zs H->ai H H1->tt ((ak.set 0 (some x)).set 1 (some y)) H1 λb H4 =>
   if b=true then te ((ak.set 0 (some x)).set 1 (some y)) H4 λv H5=>∃us,H5 acc=some (.lst us)/\us.length<sizeLine/\xv ak acc (Pv (i+1)) ((ak.set 0 (some x)).set 1 (some y)) (aK H5 acc (.lst (us++[v])))
   else xv ak acc (Pv (i+1)) ((ak.set 0 (some x)).set 1 (some y)) H4)
  (hd:∀zs H,H acc=some (.lst zs)->Pv xs.length zs H->Q (.ref acc) H):cr (g2 K) tt te (HU K a b) acc ak aD Q:=by
 refine⟨λi m σ H=>m=xs.length-i/\i<=xs.length/\xv ak acc (Pv i) σ H,⟨xs.length,by simp,Yn _,λ_ _=>rfl,[],cL,h0⟩,?_⟩;rintro i m σ H ⟨rfl,hi,tL,zs,hy,p⟩;obtain⟨q1,q2⟩:=hl i zs H hi hy p;by_cases cG:i<xs.length
 .refine .inr ⟨⟨xs,ys,xs[i],ys[i]'(by omega),q1,q2,by simp[cG],by simp⟩,xv ak acc (Pv (i+1)),λaC H' c=>⟨xs.length-(i+1),by omega,rfl,cG,c⟩,λv H' y=>?_⟩;obtain⟨pp,hp,rfl,EJ⟩:=y;obtain⟨x1,y1,hx1,Jm,rfl⟩:=EJ xs ys q1 q2;exact su tL hp λH1 s1=>hs i x1 y1 zs H H1 hx1 Jm hy p s1
 .have e:i=xs.length:=by omega
  subst e;exact .inl ⟨⟨xs,ys,q1,q2,Ze _⟩,hd zs H hy p⟩
theorem Ay (Pv:Nat->List V->Hp->Prop)(h0:Pv 0 [] (aK aD acc (.lst [])))(hl:∀(i:Nat) zs H,i<=kvs.length->H acc=some (.lst zs)->Pv i zs H->H a=some (.jO o (.dK kvs)))
  (hs:∀(i:Nat) k v zs H,kvs[i]?=some (k,v)->H acc=some (.lst zs)->Pv i zs H->tt (ak.set 0 (some (kV k))) H λb H4 =>
   if b=true then te (ak.set 0 (some (kV k))) H4 λy H5=>∃us,H5 acc=some (.lst us)/\us.length<sizeLine/\Cn ak acc (Pv (i+1)) (ak.set 0 (some (kV k))) (aK H5 acc (.lst (us++[y]))) else Cn ak acc (Pv (i+1)) (ak.set 0 (some (kV k))) H4)
  (hd:∀zs H,H acc=some (.lst zs)->Pv kvs.length zs H->Q (.ref acc) H):cr (cA 0) tt te (SF a o kvs) acc ak aD Q:=by
 refine⟨λi m σ H=>m=kvs.length-i/\i<=kvs.length/\Cn ak acc (Pv i) σ H,⟨kvs.length,by simp,Yn _,λ_=>rfl,[],cL,h0⟩,?_⟩;rintro i m σ H ⟨rfl,hi,tL,zs,hy,p⟩;have q:=hl i zs H hi hy p;by_cases cG:i<kvs.length
 .refine .inr ⟨⟨q,cG⟩,Cn ak acc (Pv (i+1)),λaC H' c=>⟨kvs.length-(i+1),by omega,rfl,cG,c⟩,λx H' y=>?_⟩;obtain⟨e,k,v,hk,ek⟩:=y;subst e ek;show tt (σ.set 0 _) _ _;rw[tL];exact hs i k v zs _ hk hy p
 .have e:i=kvs.length:=by omega
  subst e;exact .inl ⟨⟨q,Ze _⟩,hd zs H hy p⟩
theorem xa (Pv:Nat->List (cU×V)->Hp->Prop)(h0:Pv 0 [] (aK aD acc (.dK [])))(hl:∀(i:Nat) zs H,i<=xs.length->H acc=some (.dK zs)->Pv i zs H->aG K H a xs)
  (hs:∀(i:Nat) x zs H H1,xs[i]?=some x->H acc=some (.dK zs)->Pv i zs H->ai H H1->tt ((ak.set 0 (some (.int i))).set 1 (some x)) H1 λb H4 =>
   if b=true then tk ((ak.set 0 (some (.int i))).set 1 (some x)) H4 λkx H5=>tv ((ak.set 0 (some (.int i))).set 1 (some x)) H5 λy H6=>∃us k,H6 acc=some (.dK us)/\kx=kV k/\us.length<sizeLine/\HV ak acc (Pv (i+1)) ((ak.set 0 (some (.int i))).set 1 (some x)) (aK H6 acc (.dK (my us k y)))
   else HV ak acc (Pv (i+1)) ((ak.set 0 (some (.int i))).set 1 (some x)) H4)
  (hd:∀zs H,H acc=some (.dK zs)->Pv xs.length zs H->Q (.ref acc) H):rZ (g2 K) tt tk tv (ET K a) acc ak aD Q:=by
 refine⟨λi m σ H=>m=xs.length-i/\i<=xs.length/\HV ak acc (Pv i) σ H,⟨xs.length,by simp,Yn _,λ_ _=>rfl,[],cL,h0⟩,?_⟩;rintro i m σ H ⟨rfl,hi,tL,zs,hy,p⟩;have q:=hl i zs H hi hy p;by_cases cG:i<xs.length
 .refine .inr ⟨⟨xs,xs[i],q,by simp[cG]⟩,HV ak acc (Pv (i+1)),λaC H' c=>⟨xs.length-(i+1),by omega,rfl,cG,c⟩,λx H' y=>?_⟩;obtain⟨pp,hp,rfl,EJ⟩:=y;obtain⟨z,hz,rfl⟩:=EJ xs q;exact su tL hp λH1 s1=>hs i z zs H H1 hz hy p s1
 .have e:i=xs.length:=by omega
  subst e;exact .inl ⟨⟨xs,q,Ze _⟩,hd zs H hy p⟩
end
section
variable {X:Cx}
end
end L2
namespace KM
open PySem L2 KG EX
theorem boot_zip:bootBuiltins "zip"=some (.type "zip"):=by first |rfl |kernel_rfl |decide+kernel
def t8:Sp:=λvs H Q _=>∃(l:Addr) (ys:List V) (qs:Δ1),vs=[.ref l]/\H l=some (.lst ys)/\lE H ys qs/\(∀q∈qs,Rb 400 q)/\qs.length<=7/\∀(r:Addr) (H':Hp),ai H H'->H' r=some (qO (ck qs))->Q (.ref r) H'
def Ia:Sp:=λvs H Q _=>∃(l:Addr) (ys:List V) (qs:Δ1),vs=[.ref l]/\H l=some (.lst ys)/\lE H ys qs/\qs≠[]/\(∀q∈qs,Rb 3000 q)/\∀(a:Addr) (q:Rat),H a=some (qO q)->q∈qs->(∀z∈qs,z<=q)->Q (.ref a) H
theorem nq {H:Hp}{ys:List V}{qs:Δ1}(h:lE H ys qs){i:Nat}{y:V}(hy:ys[i]?=some y):∃(a:Addr) (q:Rat),y=.ref a/\H a=some (qO q)/\qs[i]?=some q:=by
 obtain⟨a,e,z⟩:=h.2 i y hy;have hi:i<qs.length:=by rw[<- h.1];exact(Zd.mp hy).1
 refine⟨a,qs[i],e,?_,Zc hi⟩;have:qs.getD i 0=qs[i]:=by simp[List.getD,Zc hi]
 rw[this] at z;exact z
def J1:Sp:=λvs H Q _=>∃(r q:Addr) (ns:Γ3) (ys:List V) (qs:Δ1),vs=[.ref r,.ref q]/\H r=some (.tup (ns.map V.int))/\H q=some (.tup ys)/\lE H ys qs/\ns.length=qs.length/\ns.length<=6/\(∀k∈ns,0<=k/\k<=100)/\(∀z∈qs,Rb 300 z) /\
 (∀j,0<ns.getD j 0->0<qs.getD j 0)/\∀(t:Addr) (H':Hp),ai H H'->H' t=some (.tup (og (i7 ns qs)))->Q (.ref t) H'
def Ch:Sp:=λvs H Q _=>∃(n:Int) (q:Addr) (x:Rat),vs=[.int n,.ref q]/\H q=some (qO x)/\Rb 300 x/\0<x/\0<=n/\n<=100/\∀(t:Addr) (H':Hp),ai H H'->H' t=some (qO ((n:Rat) / x))->Q (.ref t) H'
theorem rT (p q:Rat):PyData.eqv (qD p) (qD q)=decide (p=q):=by
 unfold qD;simp only[PyData.eqv,PyData.eqvAll];rw[Yp];simp;constructor
 .rintro⟨h1,h2⟩;exact Rat.ext h1 (by omega)
 .rintro rfl;exact⟨rfl,rfl⟩
theorem Iu {K:Θ1}{H:Hp}{a:Addr}{q:Rat}(h:H a=some (qO q)):mW K H (.ref a) (qD q):=(iP.tup (b:=a+1) h (.cons (.int _) (.cons (.int _) .nil))).dt
def eM (ns:Γ3)(i:Nat):List Nat:=(List.range i).filter λj=>decide (0<ns.getD j 0)
def dm (ns:Γ3)(qs:Δ1)(j:Nat):Rat:=((ns.getD j 0:Int):Rat) / qs.getD j 0
theorem jD (ns:Γ3)(i:Nat):eM ns (i+1)=eM ns i++if 0<ns.getD i 0 then [i] else []:=by
 unfold eM;rw[Yo,Xr]
 congr 1
 by_cases h:0<ns.getD i 0
 .rw[if_pos h];simp only[List.filter,h,decide_true]
 .rw[if_neg h];simp only[List.filter,h,decide_false]
theorem sq {ns:Γ3}{i j:Nat}(h:j∈eM ns i):j<i/\0<ns.getD j 0:=by
 unfold eM at h;rw[Yb] at h;exact⟨by simpa using h.1,by simpa using h.2⟩
theorem uA (ns:Γ3)(i:Nat):(eM ns i).length<=i:=by
 unfold eM;exact Ye (Xs _ _) (by simp)
theorem wI (ns:Γ3)(i:Nat):(eM ns i).Nodup:=(Qu).sublist Xn
def nN (j:Nat):cU:=.inl (j:Int)
theorem uJ {i j:Nat}(h:nN i=nN j):i=j:=by unfold nN at h;injection h with h;omega
structure tP (ns:Γ3)(qs:Δ1)(i:Nat)(kvs:List (cU×V))(H:Hp):Prop where
 ks:kvs.map (·.1)=(eM ns i).map nN
 fr:lE H (kvs.map (·.2)) ((eM ns i).map (dm ns qs))
theorem tP.len {ns:Γ3}{qs:Δ1}{i:Nat}{kvs:List (cU×V)}{H:Hp}(h:tP ns qs i kvs H):kvs.length=(eM ns i).length:=by
 have:=congrArg List.length h.ks;simpa using this
theorem tP.ay {ns:Γ3}{qs:Δ1}{i:Nat}{kvs:List (cU×V)}{H H':Hp}(h:tP ns qs i kvs H)(s:ai H H'):tP ns qs i kvs H':=⟨h.ks,h.fr.ay s⟩
theorem tP.tm {ns:Γ3}{qs:Δ1}{i:Nat}{kvs:List (cU×V)}{H H':Hp}(h:tP ns qs i kvs H)(s:Tm H H'):tP ns qs i kvs H':=⟨h.ks,h.fr.tm s⟩
theorem zI {kvs:List (cU×V)}{k:cU}(h:k∉kvs.map (·.1)):jX kvs k=none:=by
 cases e:jX kvs k with
 |none=>rfl
 |some v=>exact absurd (FX e) h
theorem tP.put {ns:Γ3}{qs:Δ1}{i:Nat}{kvs:List (cU×V)}{H:Hp}(h:tP ns qs i kvs H){a:Addr}(hp:0<ns.getD i 0)(ha:H a=some (qO (dm ns qs i))):tP ns qs (i+1) (my kvs (nN i) (.ref a)) H:=by
 have hn:nN i∉kvs.map (·.1):=by
  rw[h.ks];intro z;obtain⟨j,hj,e⟩:=Zh.mp z;have:=(sq hj).1;have:=uJ e;omega
 rw[Dt _ (zI hn)];refine⟨?_,?_⟩
 .rw[Zs,h.ks,jD,if_pos hp,Zs];rfl
 .rw[Zs,jD,if_pos hp,Zs];exact h.fr.app ha
theorem tP.skip {ns:Γ3}{qs:Δ1}{i:Nat}{kvs:List (cU×V)}{H:Hp}(h:tP ns qs i kvs H)(hp:¬ 0<ns.getD i 0):tP ns qs (i+1) kvs H:=by
 refine⟨?_,?_⟩
 .rw[jD,if_neg hp,Yg];exact h.ks
 .rw[jD,if_neg hp,Yg];exact h.fr
theorem tP.at {ns:Γ3}{qs:Δ1}{n i:Nat}{kvs:List (cU×V)}{H:Hp}(h:tP ns qs n kvs H){k:cU}{v:V}(e:kvs[i]?=some (k,v)):∃(j:Nat) (a:Addr),(eM ns n)[i]?=some j/\k=nN j/\v=.ref a/\H a=some (qO (dm ns qs j))/\jX kvs k=some v:=by
 have e1:=congrArg (λl=>l[i]?) h.ks;simp only[Zg,e,Xg] at e1;cases ej:(eM ns n)[i]? with
 |none=>rw[ej] at e1;cases e1
 |some j =>
  rw[ej] at e1;simp only[Xg,Option.some.injEq] at e1;have e2:(kvs.map (·.2))[i]?=some v:=by rw[Zg,e];rfl
  obtain⟨a,q,ea,hq,eq⟩:=nq h.fr e2;rw[Zg,ej] at eq;simp only[Xg,Option.some.injEq] at eq;refine⟨j,a,rfl,e1,ea,by rw[eq];exact hq,?_⟩;have nd:(kvs.map (·.1)).Nodup:=by
   rw[h.ks];exact(wI ns n).map _ λ_ _ OK z=>OK (uJ z)
  clear e1 ej e2 ea hq eq h
  induction kvs generalizing i with
  |nil=>simp at e
  |cons p r ih =>
   rw[Yj,Yh] at nd;cases i with
   |zero =>
    have e':p=(k,v):=by simpa using e
    rw[e'];exact kQ rfl
   |succ i =>
    have e':r[i]?=some (k,v):=by simpa using e
    have hm:k∈r.map (·.1):=Zh.mpr ⟨(k,v),Yc e',rfl⟩;rw[kR (λz=>nd.1 (by rw[z];exact hm))];exact ih e' nd.2
theorem yb {ns:Γ3}{qs:Δ1}{g o:Nat}(hg:0<qs.getD g 0)(ho:0<qs.getD o 0):(dm ns qs g<dm ns qs o)↔(((ns.getD g 0:Int):Rat)*qs.getD o 0<((ns.getD o 0:Int):Rat)*qs.getD g 0):=by
 unfold dm;generalize ((ns.getD g 0:Int):Rat)=a;generalize ((ns.getD o 0:Int):Rat)=b;generalize qs.getD g 0=x at hg ⊢;generalize qs.getD o 0=y at ho ⊢;have hxy:(0:Rat)<x*y:=Rat.mul_pos hg ho;rw[<- Rat.mul_lt_mul_left hxy];have hx:x≠0:=λz=>by rw[z] at hg;exact absurd hg (by decide)
 have hy:y≠0:=λz=>by rw[z] at ho;exact absurd ho (by decide)
 have e1:x*y*(a / x)=a*y:=by grind
 have e2:x*y*(b / y)=b*x:=by grind
 rw[e1,e2]
theorem Ep {ns:Γ3}{qs:Δ1}(dE:∀j,0<ns.getD j 0->0<qs.getD j 0)(ND:∀j,0<=ns.getD j 0){m:Rat}(hm:m∈(eM ns ns.length).map (dm ns qs))(pN:∀z∈(eM ns ns.length).map (dm ns qs),z<=m) :
  i7 ns qs=(eM ns ns.length).filter λj=>decide (dm ns qs j=m):=by
 unfold i7 eM;rw[List.filter_filter];refine List.filter_congr λg hg=>?_
 have hgl:g<ns.length:=by simpa using hg
 unfold d6;by_cases h0:0<ns.getD g 0
 .have h1:ns.getD g 0≠0:=by omega
  rw[decide_eq_true h1,decide_eq_true h0,Ys,Bool.and_true,Yp,Zu,decide_eq_true_eq];constructor
  .intro h;obtain⟨o,ho,eo⟩:=Zh.mp hm;obtain⟨ol,op⟩:=sq ho;have:=h o (by simpa using ol);unfold worse at this;rw[decide_eq_true op,Ys,Bool.not_eq_true',decide_eq_false_iff_not,<- yb (dE g h0) (dE o op),eo] at this;have h2:dm ns qs g<=m:=pN _ (Zh.mpr ⟨g,Yb.mpr ⟨hg,by simpa using h0⟩,rfl⟩);exact Rat.le_antisymm h2 (Rat.not_lt.mp this)
  .intro h o ho;unfold worse;by_cases op:0<ns.getD o 0
   .rw[decide_eq_true op,Ys,Bool.not_eq_true',decide_eq_false_iff_not,<- yb (dE g h0) (dE o op),h];exact Rat.not_lt.mpr (pN _ (Zh.mpr ⟨o,Yb.mpr ⟨ho,by simpa using op⟩,rfl⟩))
   .rw[decide_eq_false op];rfl
 .have h1:ns.getD g 0=0:=by have:=ND g;omega
  rw[decide_eq_false h0,Xk];rw[decide_eq_false (λz=>z h1)];rfl
theorem AD {ns:Γ3}{qs:Δ1}(ND:∀j,0<=ns.getD j 0)(h:eM ns ns.length=[]):i7 ns qs=[]:=by
 unfold i7;rw[List.filter_eq_nil_iff];intro g hg;have hgl:g<ns.length:=by simpa using hg
 unfold d6;have h0:¬ 0<ns.getD g 0:=λz=>by
  have:g∈eM ns ns.length:=Yb.mpr ⟨hg,by simpa using z⟩;rw[h] at this;cases this
 have h1:ns.getD g 0=0:=by have:=ND g;omega
 rw[decide_eq_false (λz=>z h1)];simp
theorem Gx {n:Int}{x:Rat}{k j:Nat}(hn:Bd k n)(hx:Rb j x)(h0:0<x):Rb (k+j) ((n:Rat) / x):=by
 have hp:=kJ.mp h0;have hd:=lu x;have e:=sL (a:=(n:Rat)) (b:=x) (by omega);have en:((n:Rat)).num=n:=Rat.num_intCast n;have ed:(((n:Rat)).den:Int)=1:=rfl;rw[en,ed,Int.one_mul] at e;rw[<- e];exact wb (by omega) (hn.mul hx.2) (hx.1.mono (by omega))
theorem NL.app {H:Hp}{ys:List V}{M:Γ1}(h:NL H ys M){a:Addr}{r:Γ3}(ha:H a=some (.lst (r.map V.int))):NL H (ys++[.ref a]) (M++[r]):=by
 refine⟨by simp[h.1],λj y hy=>?_⟩;rcases Zz j ys.length with z |z
 .rw[Zr z] at hy;obtain⟨c,e,hc⟩:=h.2 j y hy;refine⟨c,e,?_⟩;have:(M++[r]).getD j []=M.getD j []:=by simp[List.getD,Zr (h.1▸z)]
  rw[this];exact hc
 .have:j=ys.length:=by
   have:=(Zd.mp hy).1;simp at this;omega
  subst this;simp at hy;subst hy;refine⟨a,rfl,?_⟩;have:(M++[r]).getD ys.length []=r:=by rw[h.1];simp[List.getD]
  rw[this];exact ha
theorem hJ (ns:Γ3):(ns.map V.int).all iZ=true:=by
 rw[Yr];simp[Function.comp_def,iZ]
theorem D8 (ns:Γ3)(n:Int):AZ (V.int n) (ns.map V.int)=ns.contains n:=by
 unfold AZ;rw[Qd,Yp,Xb,Qe];constructor
 .rintro⟨x,hx,e⟩;have:x=n:=by simpa[EQ] using e
  rw[<- this];exact hx
 .intro h;exact⟨n,h,by simp[EQ]⟩
end KM
namespace KM
end KM
namespace KM
open PySem L2 KG EX
theorem zV (ns:Γ3)(vP:Nat):(jS ns vP).Sublist ns:=by
 have e:ns=(List.range ns.length).map λk=>ns.getD k 0:=by
  refine List.ext_getElem (by simp) λi h1 h2=>?_
  simp[List.getD,Zc h1]
 have h:(jS ns vP).Sublist ((List.range ns.length).map λk=>ns.getD k 0):=by
  unfold jS;exact List.Sublist.map _ Xn
 rw[<- e] at h;exact h
theorem zP {ns S:Γ3}(h:S∈jR ns):S.Sublist ns:=by
 unfold jR at h;obtain⟨k,_,rfl⟩:=Zh.mp h;exact zV ns k
section
variable {am:Γ3}{ps qs:Δ1}{M:Γ1}{n:Nat}
end
theorem C3:∀qs:Δ1,PyData.depthAll (qs.map qD)<=1
 |[]=>by simp[PyData.depthAll]
 |q::qs=>by
  have h1:=Ja q;have h2:=C3 qs;simp[PyData.depthAll];omega
theorem M7 (qs:Δ1):(PyData.tuple (qs.map qD)).depth<=2:=by
 have:=C3 qs;simp[PyData.depth];omega
end KM
namespace PySem
section
variable {prog:Program}{w:World}{A:Around}{E:Θ2}{s:Shared}{it d:Addr}{i ep:Nat}{es:Array DictEntry}
end
end PySem
namespace L2
open PySem PySem.Spec PyProof.Rows KG
section
variable {X:Cx}
end
section
variable {X:Cx}
end
section
variable {K:Θ1}{tt:TT}{te tk tv:TE}{acc a b:Addr}{xs ys:List V}{ak:St}{aD:Hp}{Q:VK}{o:Obj}{kvs:List (List cU×V)}
end
end L2
namespace PySem
section
variable {prog:Program}{w:World}{A:Around}{I:Addr}{fp wr:List Addr}{n:Nat}{P:Nat->Value->Prop}{St:Nat->Heap->Prop}
end
end PySem
namespace L2
open PySem PySem.Spec PyProof.Rows
section
variable {X:Cx}{scope:Scope}{own cap:Δ2}{ix:List Nat}{tg iter kx vx:Expr}{fg:Ξ2}{wi:TI}{g:TG}{tt:TT}{tk tv:TE}{pos:Pos}
end
section
variable {X:Cx}
end
section
variable {X:Cx}
end
end L2
namespace L2
open PySem PySem.Spec PyProof.Rows KG
section
variable {K:Θ1}{tt:TT}{tk tv:TE}{a acc:Addr}{xs:List V}{ak:St}{aD:Hp}{Q:VK}
end
end L2
namespace KM
open PySem L2 KG EX
theorem kU (ns:Γ3)(vP:Nat):jS ns vP=((List.range ns.length).filter λk=>Nat.testBit vP k).map λk=>ns.getD k 0:=by
 unfold jS
 congr 1
 refine List.filter_congr λk _=>?_
 rw[Nat.testBit_eq_decide_div_mod_eq]
theorem Dy {ns:Γ3}{m:Int}{k:Nat}(h:k<2 ^ ns.length):jS (ns++[m]) k=jS ns k:=by
 rw[kU,kU,Zn,Qp,Yo,Xr];have e:[ns.length].filter (λj=>Nat.testBit k j)=[]:=by simp[List.filter,Nat.testBit_lt_two_pow h]
 rw[e,Yg];refine Xi λj hj=>?_
 have pE:j<ns.length:=by simpa using(Yb.mp hj).1
 simp[List.getD,Zr pE]
theorem Dz {ns:Γ3}{m:Int}{k:Nat}(h:k<2 ^ ns.length):jS (ns++[m]) (2 ^ ns.length+k)=jS ns k++[m]:=by
 rw[kU,kU,Zn,Qp,Yo,Xr,Zs];have e:[ns.length].filter (λj=>Nat.testBit (2 ^ ns.length+k) j)=[ns.length]:=by
  simp[List.filter,Nat.testBit_two_pow_add_eq,Nat.testBit_lt_two_pow h]
 rw[e];have e2:(List.range ns.length).filter (λj=>Nat.testBit (2 ^ ns.length+k) j)=(List.range ns.length).filter (λj=>Nat.testBit k j):=by
  refine List.filter_congr λj hj=>?_
  exact Nat.testBit_two_pow_add_gt (by simpa using hj) k
 rw[e2]
 congr 1
 .refine Xi λj hj=>?_
  have pE:j<ns.length:=by simpa using(Yb.mp hj).1
  simp[List.getD,Zr pE]
 .simp[List.getD]
theorem wD (ns:Γ3)(m:Int):jR (ns++[m])=jR ns++(jR ns).map λs=>s++[m]:=by
 unfold jR;rw[Zn,Qp,Nat.pow_succ,Nat.mul_two,List.range_add,Zs,Zi,Zi]
 congr 1
 .exact Xi λk hk=>Dy (by simpa using hk)
 .exact Xi λk hk=>Dz (by simpa using hk)
theorem qw {ns S:Γ3}:S∈jR ns↔S.Sublist ns:=by
 constructor
 .exact zP
 .intro h
  revert S
  suffices H:∀(ms S:Γ3),S.Sublist ms.reverse->S∈jR ms.reverse by
   intro S h;have:=H ns.reverse S;rw[List.reverse_reverse] at this;exact this h
  intro ms;induction ms with
  |nil=>intro S h;rw[List.reverse_nil] at h ⊢;rw[List.sublist_nil.mp h];exact Yi.mpr rfl
  |cons m ms ih =>
   intro S h;rw[List.reverse_cons] at h ⊢;rw[wD];obtain⟨a,b,rfl,ha,hb⟩:=List.sublist_append_iff.mp h;rcases List.sublist_cons_iff.mp hb with hb |⟨r,rfl,hr⟩
   .rw[List.sublist_nil.mp hb,Yg];exact Yw _ (ih a ha)
   .rw[List.sublist_nil.mp hr];exact Zq _ (Zh.mpr ⟨a,ih a ha,rfl⟩)
theorem lY (q:Rat)(qs:Δ1):ck (q::qs)=q+ck qs:=by
 have TH:∀(l:Δ1) (z:Rat),l.foldl (λs q=>s+q) z=z+ck l:=by
  intro l;induction l with
  |nil=>intro z;unfold ck;simp[Rat.add_zero]
  |cons i l ih=>intro z;unfold ck;rw[List.foldl_cons,List.foldl_cons,ih,ih,Rat.zero_add,Rat.add_assoc]
 conv=>lhs;unfold ck
 rw[List.foldl_cons,TH,Rat.zero_add]
end KM
namespace L2
open PySem PySem.Spec PyProof.Rows EX
section
variable {X:Cx}{st:Stmt}{Np:List Stmt}{t u:TX}
end
end L2
namespace L2
open PySem PySem.Spec PyProof.Rows
def K0:Θ1:=[]
section
variable {K:Θ1}{H:Hp}{a:Addr}{xs:List V}
theorem bA.k0 (h:bA K0 H a xs):bA K H a xs:=by
 rcases h with h |⟨o,its,n,hk,_⟩
 .exact .inl h
 .exact absurd hk (by show ¬ (none=some o);simp)
theorem aG.k0 (h:aG K0 H a xs):aG K H a xs:=by
 rcases h with h |⟨o,its,n,hk,_⟩
 .exact .inl h
 .exact absurd hk (by show ¬ (none=some o);simp)
theorem Sq.k0 (h:bA K0 H a xs\/aG K0 H a xs):bA K H a xs\/aG K H a xs:=h.elim (λz=>.inl z.k0) λz=>.inr z.k0
mutual
theorem mW.k0:∀{v:V}{d:PyData},mW K0 H v d->mW K H v d
 |_,_,.bO=>.bO
 |_,_,.bl b=>.bl b
 |_,_,.int i=>.int i
 |_,_,.str x ok=>.str x ok
 |_,_,.lst h t=>.lst h.k0 (ft.k0 t)
 |_,_,.tup h t=>.tup h.k0 (ft.k0 t)
theorem ft.k0:∀{vs:List V}{ds:Ξ1},ft K0 H vs ds->ft K H vs ds
 |_,_,.nil=>.nil
 |_,_,.cons h t=>.cons (mW.k0 h) (ft.k0 t)
end
end
section
variable {X:Cx}{tg l:Expr}{tl:TE}
theorem d8.imp {f:Value->Value->Sem Value}{r r':R2}(h:d8 X f r)(hi:∀x y H Q,r' x y H Q->r x y H Q):d8 X f r':=λaa s σ H x y v u Q I rx ry q=>h aa s σ H x y v u Q I rx ry (hi _ _ _ _ q)
theorem cc.imp {f:Value}{r r':List V->Hp->VK->Prop}(h:cc X f r)(hi:∀xs H Q,r' xs H Q->r xs H Q):cc X f r':=λaa s σ H xs us Q I rx q=>h aa s σ H xs us Q I rx (hi _ _ _ q)
theorem zi.imp {r r':R2}(h:zi X r)(hi:∀x y H Q,r' x y H Q->r x y H Q):zi X r':=λa b aa s σ H x y v u Q I rx ry q=>h a b aa s σ H x y v u Q I rx ry (hi _ _ _ _ q)
theorem mF:zi X (Kc K0):=yw.imp λ_ _ _ _ ⟨p,xs,i,v,e1,e2,h,e3,q⟩=>⟨p,xs,i,v,e1,e2,h.k0,e3,q⟩
theorem bH:zi X (Bi K0):=M1.imp λ_ _ _ _ ⟨p,xs,i,v,e1,e2,h,e3,q⟩=>⟨p,xs,i,v,e1,e2,h.k0,e3,q⟩
def Io:List V->Hp->VK->Prop:=λxs H Q=>∃p ys,xs=[.ref p]/\(bA K0 H p ys\/aG K0 H p ys)/\Q (.int ys.length) H
def Ik:List V->Hp->VK->Prop:=λxs H Q=>∃p ys,xs=[.ref p]/\((bA K0 H p ys/\∀l,H l=none->Q (.ref l) (aK H l (.tup ys)))\/(aG K0 H p ys/\Q (.ref p) H))
def BF:List V->Hp->VK->Prop:=λxs H Q=>∃p ys,xs=[.ref p]/\(bA K0 H p ys\/aG K0 H p ys)/\∀l,H l=none->Q (.ref l) (aK H l (.lst ys))
def Ir:List V->Hp->VK->Prop:=λxs H Q=>∃p ys,xs=[.ref p]/\(bA K0 H p ys\/aG K0 H p ys)/\ys.all de=true/\Q (.bl (ys.any tv)) H
def Is:List V->Hp->VK->Prop:=λxs H Q=>∃p ys,xs=[.ref p]/\(bA K0 H p ys\/aG K0 H p ys)/\ys.all de=true/\Q (.bl (ys.all tv)) H
def Il:List V->Hp->VK->Prop:=λxs H Q=>∃(p:Addr) (ns:Γ3),xs=[.ref p]/\(bA K0 H p (ns.map V.int)\/aG K0 H p (ns.map V.int))/\Q (.int ns.sum) H
def Im:List V->Hp->VK->Prop:=λxs H Q=>∃(p:Addr) (ns:Γ3),xs=[.ref p]/\(bA K0 H p (ns.map V.int)\/aG K0 H p (ns.map V.int))/\ns≠[]/\∀m,m∈ns->(∀n∈ns,n<=m)->Q (.int m) H
theorem aV:cc X (.builtin "len") Io:=iy.imp λ_ _ _ ⟨p,ys,e,h,q⟩=>⟨p,ys,e,Sq.k0 h,q⟩
theorem dv:cc X (.type "tuple") Ik:=pY.imp λ_ _ _ ⟨p,ys,e,h⟩=>⟨p,ys,e,h.elim (λz=>.inl ⟨z.1.k0,z.2⟩) λz=>.inr ⟨z.1.k0,z.2⟩⟩
theorem Je:cc X (.type "list") BF:=sY.imp λ_ _ _ ⟨p,ys,e,h,q⟩=>⟨p,ys,e,Sq.k0 h,q⟩
theorem qm (hc:X.calm=true):cc X (.builtin "any") Ir:=(En hc).imp λ_ _ _ ⟨p,ys,e,h,q⟩=>⟨p,ys,e,Sq.k0 h,q⟩
theorem iD (hc:X.calm=true):cc X (.builtin "all") Is:=(Eo hc).imp λ_ _ _ ⟨p,ys,e,h,q⟩=>⟨p,ys,e,Sq.k0 h,q⟩
theorem uk (hc:X.calm=true):cc X (.builtin "sum") Il:=(Em hc).imp λ_ _ _ ⟨p,ys,e,h,q⟩=>⟨p,ys,e,Sq.k0 h,q⟩
theorem RL (hc:X.calm=true):cc X (.builtin "max") Im:=(AB hc).imp λ_ _ _ ⟨p,ys,e,h,q⟩=>⟨p,ys,e,Sq.k0 h,q⟩
theorem wf (hu:X.A.units+64<cLine):d8 X (compareOp .Eq) (Fw K0):=(LV hu).imp λ_ _ _ _ ⟨dx,dy,h1,h2,q⟩=>⟨dx,dy,h1.k0,h2.k0,q⟩
theorem CG (hu:X.A.units+64<cLine):d8 X (compareOp .NotEq) (Fv K0):=(LU hu).imp λ_ _ _ _ ⟨dx,dy,h1,h2,q⟩=>⟨dx,dy,h1.k0,h2.k0,q⟩
theorem xI:d8 X (compareOp .In) (NW K0 false):=zY.imp λ_ _ _ _ ⟨p,xs,e,h,q⟩=>⟨p,xs,e,Sq.k0 h,q⟩
theorem CF:d8 X (compareOp .NotIn) (NW K0 true):=sV.imp λ_ _ _ _ ⟨p,xs,e,h,q⟩=>⟨p,xs,e,Sq.k0 h,q⟩
theorem Wv:Fe X (Pn K0):=λaa s σ H x v vl vu lo hi sl Q I rx hs pl pu ⟨a,xs,e,h,q⟩=>Gi aa s σ H x v vl vu lo hi sl Q I rx hs pl pu ⟨a,xs,e,h.k0,q⟩
structure It.Le (J J':It):Prop where
 go:∀i H,J'.go i H->J.go i H
 xl:∀i H x H',J.xl i H x H'->J'.xl i H x H'
 stop:∀i H,J'.stop i H->J.stop i H
theorem Turn.le {P:Program}{w:World}{K:Θ1}{tg:Expr}{J J':It}{fp:List Addr}{it:Addr}{tn:Nat->Heap->Prop}(T:Turn P w K tg J fp it tn)(l:J.Le J'):Turn P w K tg J' fp it tn where
 mem:=T.mem
 obj:=T.obj
 keep:=T.keep
 item:=λX hP hw hK hc i aa s σ H E I hf st hg=>bi (T.item X hP hw hK hc i aa s σ H E I hf st (l.go i H hg)) λr s1 ⟨u,hr,h⟩=>⟨u,hr,bi h λ_ s2 ⟨x,H',a1,a2,a3,a4⟩=>⟨x,H',a1,a2,l.xl _ _ _ _ a3,a4⟩⟩
 done:=λX hP hw hK hc i aa s σ H E I hf st hg=>T.done X hP hw hK hc i aa s σ H E I hf st (l.stop i H hg)
 self:=T.self
theorem yt {K:Θ1}{a:Addr}:(zk K a).Le (zk K0 a):=⟨λi H ⟨xs,x,h,e⟩=>⟨xs,x,h.k0,e⟩,λi H x H' ⟨e,h⟩=>⟨e,λxs hx=>h xs hx.k0⟩,λi H ⟨xs,h,e⟩=>⟨xs,h.k0,e⟩⟩
theorem CU {K:Θ1}{a:Addr}:(zj K a).Le (zj K0 a):=⟨λi H ⟨xs,x,h,e⟩=>⟨xs,x,h.k0,e⟩,λi H x H' ⟨e,h⟩=>⟨e,λxs hx=>h xs hx.k0⟩,λi H ⟨xs,h,e⟩=>⟨xs,h.k0,e⟩⟩
theorem Hr {K:Θ1}{a:Addr}:(ET K a).Le (ET K0 a):=⟨λi H ⟨xs,x,h,e⟩=>⟨xs,x,h.k0,e⟩,λi H x H' ⟨p,e1,e2,h⟩=>⟨p,e1,e2,λxs hx=>h xs hx.k0⟩,λi H ⟨xs,h,e⟩=>⟨xs,h.k0,e⟩⟩
theorem MU {K:Θ1}{a b:Addr}:(HU K a b).Le (HU K0 a b):=⟨λi H ⟨xs,ys,x,y,h1,h2,e⟩=>⟨xs,ys,x,y,h1.k0,h2.k0,e⟩,λi H x H' ⟨p,e1,e2,h⟩=>⟨p,e1,e2,λxs ys h1 h2=>h xs ys h1.k0 h2.k0⟩,λi H ⟨xs,ys,h1,h2,e⟩=>⟨xs,ys,h1.k0,h2.k0,e⟩⟩
theorem Fy (hl:PE X l tl):PI X tg l (RC K0 tl):=by
 intro aa s σ H R I h;refine bi (hl aa s σ H _ I h) λv s1 ⟨x,H1,I1,r1,a,e,⟨xs,hq⟩,q⟩=>?_
 subst e;cases r1;obtain⟨its,rv,p,hz⟩:=I1.list hq.k0;refine wpAny_pyIter_list p.isList ⟨s1.heap.objs.size,[s1.heap.objs.size],_,zk K0 a,H1,rfl,I1.kept (t':=s1.toks) λb o e=>Heap.get?_push_of_some _ e,(qp (K:=X.K) a _).le yt,⟨_,Heap.get?_push_size _ rfl,rfl,rfl⟩,λb hb=>?_,q⟩;obtain rfl:b=s1.heap.objs.size:=by simpa using hb
 exact I1.jL (Ze _) (I1.bt.fresh (Ze _))
theorem rk (hl:PE X l tl):PI X tg l (WW K0 tl):=by
 intro aa s σ H R I h;refine bi (hl aa s σ H _ I h) λv s1 ⟨x,H1,I1,r1,a,e,⟨xs,hq⟩,q⟩=>?_
 subst e;cases r1;obtain⟨its,rv,p,hz⟩:=I1.tuple hq.k0;refine wpAny_pyIter_tuple (show s1.heap.IsTuple a its.toArray from p) ⟨s1.heap.objs.size,[s1.heap.objs.size],_,zj K0 a,H1,rfl,I1.kept (t':=s1.toks) λb o e=>Heap.get?_push_of_some _ e,(oY (K:=X.K) a _).le CU,⟨_,Heap.get?_push_size _ rfl,rfl,rfl⟩,λb hb=>?_,q⟩;obtain rfl:b=s1.heap.objs.size:=by simpa using hb
 exact I1.jL (Ze _) (I1.bt.fresh (Ze _))
theorem kK {a:Expr}{ta:TA}{p pos:Pos}{nS:Ξ2}{kk}{rf:Pos}(hg:Gl X "enumerate")(hm:X.mg "enumerate"=none)(hb:bootBuiltins "enumerate"=some (.type "enumerate"))(ha:PA X [a] ta)(hs:starEach [a] X.env=[(false,eval a X.env)]:=by rfl) :
  PI X (.Tuple nS kk rf) (.Call (.Name "enumerate" p) [a] [] pos) (IQ K0 ta):=by
 intro aa s σ H R I h;refine Call_ (fQ I hg hm hb (PyProof.Rows.callWith_type1 (bi (ha pos aa s σ H _ I h) λus s1 ⟨vs,H1,I1,r1,t,e,⟨xs,hq⟩,q⟩=>?_) hs rfl));subst e;obtain⟨u,rfl,ru⟩:=vals1 r1;cases ru;obtain⟨its,rv,pl,hz⟩:=I1.tuple hq.k0;refine kg (show s1.heap.IsTuple t its.toArray from pl) λh' he EM hsz hk=>wpAny_pyIter_enum he ?_
 refine⟨s1.heap.objs.size+1,[s1.heap.objs.size+1,s1.heap.objs.size],_,ET K0 t,H1,rfl,I1.kept (t':=s1.toks) hk,(zJ (K:=X.K) t _ s1.heap.objs.size (Nat.succ_ne_self _)).le Hr,⟨⟨_,he⟩,EM⟩,λb hb=>?_,q⟩;rcases Zf.mp hb with rfl |hb
 .exact I1.jL (Xa _) (I1.bt.fresh (Xa _))
 .obtain rfl:b=s1.heap.objs.size:=by simpa using hb
  exact I1.jL (Ze _) I1.fresh
theorem yf {a b:Expr}{ta:TA}{p pos:Pos}{nS:Ξ2}{kk}{rf:Pos}(hg:Gl X "zip")(hm:X.mg "zip"=none)(hb:bootBuiltins "zip"=some (.type "zip"))(ha:PA X [a,b] ta)
  (hs:starEach [a,b] X.env=[(false,eval a X.env),(false,eval b X.env)]:=by rfl) (tD:starEach [b] X.env=[(false,eval b X.env)]:=by rfl):PI X (.Tuple nS kk rf) (.Call (.Name "zip" p) [a,b] [] pos) (WV K0 ta):=by
 intro aa s σ H R I h;refine Call_ (fQ I hg hm hb (PyProof.Rows.callWith_type1 (bi (ha pos aa s σ H _ I h) λus s1 ⟨vs,H1,I1,r1,q1⟩=>?_) (by rw[hs,tD]) (by rw[tD];rfl)));obtain⟨x,y,e,⟨xs,tM⟩,⟨ys,NC⟩,q⟩:=q1;subst e;cases r1 with
 |cons r rr =>
  cases rr with
  |cons r' rr =>
   cases rr
   cases r
   cases r'
   obtain⟨us,ru,pu,zu⟩:=I1.tuple tM.k0;obtain⟨vs,rv,pv,zv⟩:=I1.tuple NC.k0;have a1:x<s1.heap.objs.size:=by obtain⟨_,e,_⟩:=(show s1.heap.IsTuple x us.toArray from pu);exact Heap.lt_size e
   have a2:y<s1.heap.objs.size:=by obtain⟨_,e,_⟩:=(show s1.heap.IsTuple y vs.toArray from pv);exact Heap.lt_size e
   refine Az (show s1.heap.IsTuple x us.toArray from pu) (show s1.heap.IsTuple y vs.toArray from pv) λg z0 pI pO n1 n2 hk=>wpAny_pyIter_zip z0 ?_
   refine⟨s1.heap.objs.size+4,[s1.heap.objs.size+4,s1.heap.objs.size+2,s1.heap.objs.size+3,s1.heap.objs.size,s1.heap.objs.size+1],_,HU K0 x y,H1,rfl,I1.kept (t':=s1.toks) hk,(Df (K:=X.K) x y _ _ _ _ _ (zipApart_new a1 a2)).le MU,⟨z0,pI,⟨_,_,pO⟩,n1,n2⟩,λc hc=>?_,q⟩;have Uo:s1.heap.objs.size<=c:=by
    simp only[Zf,Xh,or_false] at hc;rcases hc with h |h |h |h |h<;>rw[h]<;>first |exact Nat.le_add_right _ _ |exact Ze _
   exact I1.jL Uo (I1.bt.fresh Uo)
theorem gr {es:Ξ2}{k:Nat}{t:zh}{n:Nat}{pos:Pos}(hc:X.calm=true)(h:vt X es t)(hn:(assignEach es X.env).length=n:=by rfl)(lz:(assignEach es X.env).findIdx? (·.1)=none:=by rfl):PG X (.Tuple es k pos) (Bq K0 n t) :=
 λaa s σ H v u Q I r ⟨a,xs,e,hq,q⟩=>LM hc h hn lz aa s σ H v u Q I r ⟨a,xs,e,hq.k0,q⟩
theorem LO {es:Ξ2}{k:Nat}{t:zh}{n:Nat}{pos:Pos}(hc:X.calm=true)(h:vt X es t)(hn:(assignEach es X.env).length=n:=by rfl)(lz:(assignEach es X.env).findIdx? (·.1)=none:=by rfl):PG X (.Tuple es k pos) (Qy K0 n t) :=
 λaa s σ H v u Q I r ⟨a,xs,e,hq,q⟩=>LN hc h hn lz aa s σ H v u Q I r ⟨a,xs,e,hq.k0,q⟩
theorem Nl.k0 {K:Θ1}{T:String}{x:V}{H:Hp}(h:Nl K0 T x H):Nl K T x H:=by
 cases x with
 |ref p =>
  rcases h with ⟨e,xs,h⟩ |⟨e,o,hk,_⟩ |h |h
  .exact .inl ⟨e,xs,h.k0⟩
  .exact absurd hk (by show ¬ (none=some o);simp)
  .exact .inr (.inr (.inl h))
  .exact .inr (.inr (.inr h))
 |_=>exact h
variable {o e:Expr}{es:Ξ2}{to:TE}{t:TA}{name:Str}{fk bV:Pos}{T id:String}{r:V->List V->Hp->VK->Prop}
theorem BU (pa:PlainAttrs T)(slot:Slot T name id)(A0:typeOf (.builtin id)=pure (.type "method_descriptor"))(hm:SE X id r)(ho:PE X o to)(ha:PA X (e::es) t)
  (uh:attributeBase o name X.env (eval o X.env)=eval o X.env:=by rfl)
  (zq:((backTo bV (starEach (e::es) X.env)).all (λx=>!x.1)&&(backToKw bV (keywordEach [] X.env)).all (λx=>x.1.isSome)
   && decide ((e::es).length+([]:List Keyword).length+(if ([]:List Keyword).isEmpty then 0 else 1)<30))=true:=by rfl)
  (ug:(fk.endLine == bV.line)=true:=by rfl) (hs:starEach (e::es) X.env=(false,eval e X.env)::starEach es X.env:=by rfl) (wt:(backTo bV (starEach es X.env)).any (·.1)=false:=by rfl) :
  PE X (.Call (.Attribute o name fk) (e::es) [] bV) (tBM K0 T r to t):=by
 intro aa s σ H Q I h;refine wpAny_Call_method_late uh zq ug rfl (bi (ho aa s σ H _ I h) λv s1 ⟨x,H1,I1,r1,ty,q1⟩=>?_);obtain⟨h1,h2⟩:=Cc I1 r1 ty.k0;refine⟨T,id,pa,slot,A0,h1,h2,?_⟩;have hA:=ha bV aa s1 σ H1 _ I1 q1;rw[hs] at hA ⊢;exact Calls.callWith_builtin (by show(false||(backTo bV (starEach es X.env)).any (·.1))=false;rw[wt]<;>rfl) (Calls.evalArgs_plain (bi hA λus s2 ⟨vs,H2,I2,r2,q2⟩=>hm aa s2 σ H2 x vs v us Q I2 r1 r2 q2))
end
end L2
namespace L2
open PySem PySem.Spec PyProof.Rows KG
section
variable {X:Cx}
def LG:List V->Hp->VK->Prop:=λxs H Q=>∃(p:Addr) (ns:Γ3),xs=[.ref p]/\bA K0 H p (ns.map V.int)/\ns.length<64/\∀(EY:Γ3) (l:Addr),EY.Perm ns->EY.Pairwise (λa b=>a<=b)->H l=none->Q (.ref l) (aK H l (.lst (EY.map V.int)))
theorem sX:cc X (.builtin "sorted") LG:=by
 intro aa s σ H xs us Q I r h;obtain⟨p,ns,rfl,hp,h64,q⟩:=h;obtain⟨u,rfl,rx⟩:=vals1 r;cases rx;obtain⟨its,rv,pl,hz⟩:=I.list hp.k0;have hl:=rv.length;rw[Zb] at hl;refine sorted_ints pl.isList (intsAre_of rv) (by omega) λYH EY hi IT hpw=>?_
 obtain⟨e,he⟩:=sortedAll_at s.heap its YH;have bN:EY.length=ns.length:=IT.length_eq;refine⟨.ref (s.heap.objs.size+1),_,I.laid (t':=s.toks) (o:=.lst (EY.map V.int)) (λ_ _ q=>sortedAll_old q) (Xa _) ⟨by rw[Zb,bN];exact Ye (show ns.length<=64 by omega) (by decide),YH.toList,e,lX hi,?_⟩,rfl,q EY _ IT hpw (I.bt.fresh (Xa _))⟩;simpa[seqObj] using he
end
end L2
namespace KM
open PySem L2
theorem boot_sorted:bootBuiltins "sorted"=some (.builtin "sorted"):=by first |rfl |kernel_rfl |decide+kernel
end KM
namespace KM
open PySem L2 KG EX
section
variable {K:Θ1}{n:Nat}{tt:TT}{te:TE}{acc a b:Addr}{xs ys:List V}{ak:St}{aD:Hp}{Q:VK}
theorem yW {α : Type}(f:Nat->Bool)(v:Nat->α)(i:Nat):((List.range (i+1)).filter f).map v=((List.range i).filter f).map v++if f i=true then [v i] else []:=by
 rw[mo,Zs]
 congr 1
 split<;>simp_all
theorem gU {α : Type}(f:Nat->Bool)(v:Nat->α)(i:Nat):(((List.range i).filter f).map v).length<=i:=by
 have h:=Xs f (List.range i);rw[Xo] at h;rw[Zb];exact h
theorem Dw (f:Nat->Bool)(v:Nat->V)(bu:aD acc=none)(hn:n<=1000)
  (ht:∀(i:Nat) H Z,i<n->ai aD H->(∀H',ai H H'->Z (f i) H')->tt (ak.set 0 (some (.int i))) H Z)
  (he:∀(i:Nat) H (Z:VK),i<n->f i=true->ai aD H->(∀H',ai H H'->Z (v i) H')->te (ak.set 0 (some (.int i))) H Z)
  (hd:∀H,ai aD H->H acc=some (.lst (((List.range n).filter f).map v))->Q (.ref acc) H):cr (cA 0) tt te (A9 0 n) acc ak aD Q:=by
 refine ke (λi ys H'=>ai aD H'/\ys=((List.range i).filter f).map v) ⟨(ai.refl aD).acc bu,rfl⟩ ?_ (λys H hy ⟨s,e⟩=>hd H s (e▸hy));rintro i ys H hi hy ⟨s,rfl⟩;have e0:(0+(i:Int))=(i:Int):=Int.zero_add _;rw[e0];refine ht i H _ hi s λH' s'=>?_
 cases hf:f i with
 |true =>
  refine aU (he i H' _ hi hf (s.trans s') λH2 s2=>⟨_,(s'.trans s2) _ _ hy,?_,Cn.of cL ⟨((s.trans s').trans s2).acc bu,?_⟩⟩)
  .have:=gU f v i;rw[sz];omega
  .rw[yW,hf,if_pos rfl]
 |false=>exact bC (Cn.of (s' _ _ hy) ⟨s.trans s',by rw[yW,hf,if_neg (by decide),Yg]⟩)
theorem GD (f:Nat->Bool)(v:Nat->V)(bu:aD acc=none)(hn:xs.length<=1000)(hl:aD a=some (.lst xs))
  (ht:∀(i:Nat) x H Z,xs[i]?=some x->ai aD H->(∀H',ai H H'->Z (f i) H')->tt (ak.set 0 (some x)) H Z)
  (he:∀(i:Nat) x H (Z:VK),xs[i]?=some x->f i=true->ai aD H->(∀H',ai H H'->Z (v i) H')->te (ak.set 0 (some x)) H Z)
  (hd:∀H,ai aD H->H acc=some (.lst (((List.range xs.length).filter f).map v))->Q (.ref acc) H):cr (cA 0) tt te (zk K a) acc ak aD Q:=by
 refine Aw (xs:=xs) (λi ys H'=>ai aD H'/\ys=((List.range i).filter f).map v) ⟨(ai.refl aD).acc bu,rfl⟩ (λi ys H' _ _ z=>bA.of (z.1 _ _ hl)) ?_ (λys H hy ⟨s,e⟩=>hd H s (e▸hy));rintro i x ys H hx hy ⟨s,rfl⟩;have hi:i<xs.length:=(Zd.mp hx).1;refine ht i x H _ hx s λH' s'=>?_
 cases hf:f i with
 |true =>
  refine aU (he i x H' _ hx hf (s.trans s') λH2 s2=>⟨_,(s'.trans s2) _ _ hy,?_,Cn.of cL ⟨((s.trans s').trans s2).acc bu,?_⟩⟩)
  .have:=gU f v i;rw[sz];omega
  .rw[yW,hf,if_pos rfl]
 |false=>exact bC (Cn.of (s' _ _ hy) ⟨s.trans s',by rw[yW,hf,if_neg (by decide),Yg]⟩)
theorem rF (f:Nat->Bool)(v:Nat->V)(bu:aD acc=none)(hn:xs.length<=1000)(hl:aD a=some (.tup xs))
  (ht:∀(i:Nat) x H Z,xs[i]?=some x->ai aD H->(∀H',ai H H'->Z (f i) H')->tt (ak.set 0 (some x)) H Z)
  (he:∀(i:Nat) x H (Z:VK),xs[i]?=some x->f i=true->ai aD H->(∀H',ai H H'->Z (v i) H')->te (ak.set 0 (some x)) H Z)
  (hd:∀H,ai aD H->H acc=some (.lst (((List.range xs.length).filter f).map v))->Q (.ref acc) H):cr (cA 0) tt te (zj K a) acc ak aD Q:=by
 refine kY (xs:=xs) (λi ys H'=>ai aD H'/\ys=((List.range i).filter f).map v) ⟨(ai.refl aD).acc bu,rfl⟩ (λi ys H' _ _ z=>aG.of (z.1 _ _ hl)) ?_ (λys H hy ⟨s,e⟩=>hd H s (e▸hy));rintro i x ys H hx hy ⟨s,rfl⟩;have hi:i<xs.length:=(Zd.mp hx).1;refine ht i x H _ hx s λH' s'=>?_
 cases hf:f i with
 |true =>
  refine aU (he i x H' _ hx hf (s.trans s') λH2 s2=>⟨_,(s'.trans s2) _ _ hy,?_,Cn.of cL ⟨((s.trans s').trans s2).acc bu,?_⟩⟩)
  .have:=gU f v i;rw[sz];omega
  .rw[yW,hf,if_pos rfl]
 |false=>exact bC (Cn.of (s' _ _ hy) ⟨s.trans s',by rw[yW,hf,if_neg (by decide),Yg]⟩)
theorem GF (f:Nat->Bool)(v:Nat->V)(bu:aD acc=none)(hn:xs.length<=1000)(hl:aD a=some (.tup xs))
  (ht:∀(i:Nat) x H Z,xs[i]?=some x->ai aD H->(∀H',ai H H'->Z (f i) H')->tt ((ak.set 0 (some (.int i))).set 1 (some x)) H Z)
  (he:∀(i:Nat) x H (Z:VK),xs[i]?=some x->f i=true->ai aD H->(∀H',ai H H'->Z (v i) H')->te ((ak.set 0 (some (.int i))).set 1 (some x)) H Z)
  (hd:∀H,ai aD H->H acc=some (.lst (((List.range xs.length).filter f).map v))->Q (.ref acc) H):cr (g2 K) tt te (ET K a) acc ak aD Q:=by
 refine Ax (xs:=xs) (λi ys H'=>ai aD H'/\ys=((List.range i).filter f).map v) ⟨(ai.refl aD).acc bu,rfl⟩ (λi ys H' _ _ z=>aG.of (z.1 _ _ hl)) ?_ (λys H hy ⟨s,e⟩=>hd H s (e▸hy));rintro i x ys H H1 hx hy ⟨s,rfl⟩ s1;have hi:i<xs.length:=(Zd.mp hx).1;refine ht i x H1 _ hx (s.trans s1) λH' s0=>?_
 have s':=s1.trans s0;cases hf:f i with
 |true =>
  refine aU (he i x H' _ hx hf (s.trans s') λH2 s2=>⟨_,(s'.trans s2) _ _ hy,?_,xv.of cL ⟨((s.trans s').trans s2).acc bu,?_⟩⟩)
  .have:=gU f v i;rw[sz];omega
  .rw[yW,hf,if_pos rfl]
 |false=>exact bC (xv.of (s' _ _ hy) ⟨s.trans s',by rw[yW,hf,if_neg (by decide),Yg]⟩)
theorem LK (f:Nat->Bool)(v:Nat->V)(bN:xs.length=ys.length)(bu:aD acc=none)(hn:xs.length<=1000)(hl:aD a=some (.tup xs))(lA:aD b=some (.tup ys))
  (ht:∀(i:Nat) x y H Z,xs[i]?=some x->ys[i]?=some y->ai aD H->(∀H',ai H H'->Z (f i) H')->tt ((ak.set 0 (some x)).set 1 (some y)) H Z)
  (he:∀(i:Nat) x y H (Z:VK),xs[i]?=some x->ys[i]?=some y->f i=true->ai aD H->(∀H',ai H H'->Z (v i) H')->te ((ak.set 0 (some x)).set 1 (some y)) H Z)
  (hd:∀H,ai aD H->H acc=some (.lst (((List.range xs.length).filter f).map v))->Q (.ref acc) H):cr (g2 K) tt te (HU K a b) acc ak aD Q:=by
 refine Eh (xs:=xs) (ys:=ys) (λi zs H'=>ai aD H'/\zs=((List.range i).filter f).map v) bN ⟨(ai.refl aD).acc bu,rfl⟩ (λi zs H' _ _ z=>⟨aG.of (z.1 _ _ hl),aG.of (z.1 _ _ lA)⟩) ?_ (λzs H hy ⟨s,e⟩=>hd H s (e▸hy));rintro i x y zs H H1 hx EJ hy ⟨s,rfl⟩ s1;have hi:i<xs.length:=(Zd.mp hx).1;refine ht i x y H1 _ hx EJ (s.trans s1) λH' s0=>?_
 have s':=s1.trans s0;cases hf:f i with
 |true =>
  refine aU (he i x y H' _ hx EJ hf (s.trans s') λH2 s2=>⟨_,(s'.trans s2) _ _ hy,?_,xv.of cL ⟨((s.trans s').trans s2).acc bu,?_⟩⟩)
  .have:=gU f v i;rw[sz];omega
  .rw[yW,hf,if_pos rfl]
 |false=>exact bC (xv.of (s' _ _ hy) ⟨s.trans s',by rw[yW,hf,if_neg (by decide),Yg]⟩)
end
theorem nk {α : Type}(ls:List α)(d:α):(List.range ls.length).map (λi=>ls.getD i d)=ls:=by
 apply Qv;intro i;rw[Zg];by_cases h:i<ls.length
 .rw[Yu h];simp[List.getD,Zc h]
 .rw[Yq (by simpa using h),Yq (by omega)];rfl
theorem Ea {α β : Type}(ls:List α)(F:α->Bool)(G:α->β)(d:α):((List.range ls.length).filter λi=>F (ls.getD i d)).map (λi=>G (ls.getD i d))=(ls.filter F).map G:=by
 conv=>rhs;rw[<- nk ls d,List.filter_map,Zi]
 rfl
theorem gb {α : Type}{ls:List α}{i:Nat}{y d:α}(h:ls[i]?=some y):ls.getD i d=y:=by simp[List.getD,h]
theorem ints_get {ns:Γ3}{i:Nat}{x:V}(h:(ns.map V.int)[i]?=some x):i<ns.length/\x=V.int (ns.getD i 0):=by
 rw[Zg] at h;cases e:ns[i]? with
 |none=>rw[e] at h;cases h
 |some n =>
  rw[e] at h;exact⟨(Zd.mp e).1,by rw[gb e];simpa using h.symm⟩
theorem sI (ns:Γ3)(x:Int):AZ (V.int x) (ns.map V.int)=ns.contains x:=by
 have h:AZ (V.int x) (ns.map V.int)=ns.any λh=>decide (h=x):=by
  unfold AZ;rw[Qd]
  congr 1
 rw[h,List.contains_eq_any_beq]
 congr 1
 funext y
 by_cases z:y=x
 .subst z;simp
 .have:¬ x=y:=λh=>z h.symm
  simp[z,this]
def UW (M:Γ1)(i j:Nat):Int:=(M.getD i []).getD j 0
def lF (M:Γ1)(h:Int)(j:Nat):Bool:=decide (0<UW M h.toNat j)
def cV (n:Nat):Γ3:=(List.range n).map λi:Nat=>(i:Int)
theorem fZ {n:Nat}{x:Int}:x∈cV n↔0<=x/\x<n:=by
 unfold cV;rw[Zh];constructor
 .rintro⟨i,hi,rfl⟩;have:=Zm.mp hi;omega
 .rintro⟨h0,h1⟩;exact⟨x.toNat,Zm.mpr (by omega),by omega⟩
theorem j7 (n:Nat):(cV n).length=n:=by unfold cV;rw[Zb,Xo]
theorem k8 (n:Nat):(cV n).Nodup:=by
 unfold cV;exact List.Pairwise.map _ (λa b h e=>h (by omega)) Qu
structure zC (H:Hp)(p pB pW:Addr)(xB xW:List V)(B W:Γ1)(g:Nat):Prop where
 hp:H p=some (.tup [.ref pB,.ref pW])
 hB:H pB=some (.tup xB)
 hW:H pW=some (.tup xW)
 rB:qZ H xB B
 rW:qZ H xW W
 len:W.length=B.length
 n1:1<=B.length
 n6:B.length<=6
 g1:1<=g
 g6:g<=6
 lB:∀r∈B,r.length=g
 lW:∀r∈W,r.length=g
theorem zC.ay {H H':Hp}{p pB pW:Addr}{xB xW:List V}{B W:Γ1}{g:Nat}(m:zC H p pB pW xB xW B W g)(s:ai H H'):zC H' p pB pW xB xW B W g :=
 ⟨s _ _ m.hp,s _ _ m.hB,s _ _ m.hW,m.rB.keep s.tm,m.rW.keep s.tm,m.len,m.n1,m.n6,m.g1,m.g6,m.lB,m.lW⟩
theorem eU {H:Hp}{xs:List V}{M:Γ1}{i:Nat}(r:qZ H xs M)(hi:i<M.length):∃a,xs[i]?=some (.ref a)/\iO xs i=some (.ref a)/\H a=some (.tup ((M.getD i []).map V.int)):=by
 have hx:i<xs.length:=by rw[r.len];exact hi
 obtain⟨ns,a,h1,h2,h3⟩:=r.at (Zc hx);have e:xs[i]?=some (.ref a):=by rw[Zc hx,h2]
 exact⟨a,e,eY e,by rw[gb h1];exact h3⟩
theorem gk {M:Γ1}{g i:Nat}(h:∀r∈M,r.length=g)(hi:i<M.length):(M.getD i []).length=g:=by
 rw[show M.getD i []=M[i] by simp[List.getD,Zc hi]];exact h _ (Zv hi)
theorem uK {i j k:Nat}{σ:St}{H:Hp}{Q:VK}{pB:Addr}{xB:List V}{B:Γ1}{g:Nat}{h:Int}{c:Nat}(hB:H pB=some (.tup xB))(r:qZ H xB B)(h0:0<=h)(hh:h<B.length)(hr:∀r∈B,r.length=g)(hc:c<g)
  (e1:σ[i]?=some (some (.ref pB))) (e2:σ[j]?=some (some (.int h))) (e3:σ[k]?=some (some (.int (c:Nat)))) (q:Q (.int (UW B h.toNat c)) H) :
  EV (Bi K0) (EV (Bi K0) (mx i) (mx j)) (mx k) σ H Q:=by
 have hn:h.toNat<B.length:=by omega
 obtain⟨a,_,ea,ha⟩:=eU r hn;have eh:((h.toNat:Nat):Int)=h:=by omega
 rw[eh] at ea;have hl:=gk hr hn;obtain⟨eb,_,_⟩:=oW (ns:=B.getD h.toNat []) (r:=(c:Int)) (by omega) (by omega);rw[Zj] at eb;exact⟨_,e1,_,e2,pB,_,_,_,rfl,rfl,aG.of hB,ea,_,e3,a,_,_,_,rfl,rfl,aG.of ha,eb,q⟩
def qe (B W:Γ1)(g:Nat)(s:Γ3):Bool:=(List.range g).all λj=>!(s.any λh=>lF W h j)||!((List.range B.length).any λh=>lF B (h:Nat) j&&!s.contains ((h:Nat):Int))
def pQ (B W:Γ1)(g:Nat)(s:Γ3):List Nat:=(List.range g).filter λj=>(s.any λh=>lF B h j)&&!(s.any λh=>lF W h j)
def gL (B W:Γ1)(g:Nat)(h o:Int):Bool:=(List.range g).any λj=>lF B o j&&lF W h j
def mf (B W:Γ1)(g:Nat)(h:Int):Γ1:=((jR (cV B.length)).filter λs=>!s.isEmpty&&qe B W g s).filter λs=>s.contains h
def lC (B W:Γ1)(g:Nat)(h:Int):Γ3:=(cV B.length).filter λo=>(mf B W g h).all λs=>s.contains o
def nU (B W:Γ1)(g:Nat):PyData :=
 match (List.range B.length).find? λh=>!(pQ B W g (lC B W g (h:Nat))).isEmpty with
 |none=>.none
 |some h=>.tuple [.tuple ((lC B W g (h:Nat)).map PyData.int),.int (((pQ B W g (lC B W g (h:Nat))).getD 0 0:Nat):Int)]
theorem jh {B W:Γ1}{g:Nat}{s:Γ3}:qe B W g s=true↔∀h∈s,∀o,0<=o->o<(B.length:Int)->gL B W g h o=true->o∈s:=by
 unfold qe gL;rw[Zu];constructor
 .intro a h hh o o0 o1 hn;obtain⟨j,hj,hp⟩:=Xb.mp hn;rw[Zl] at hp;have:=a j hj;rw[Bool.or_eq_true,Bool.not_eq_true',Bool.not_eq_true',Qh,Qh] at this;rcases this with z |z
  .exact absurd hp.2 (z h hh)
  .have y:=z o.toNat (Zm.mpr (by omega));rw[show((o.toNat:Nat):Int)=o by omega,hp.1] at y;simpa using y
 .intro a j hj;rw[Bool.or_eq_true,Bool.not_eq_true',Bool.not_eq_true',Qh,Qh];by_cases z:∃h∈s,lF W h j=true
  .obtain⟨h,hh,hw⟩:=z;refine .inr λo ho hp=>?_
   rw[Zl] at hp;have vq:=Zm.mp ho;have:=a h hh (o:Int) (by omega) (by omega) (Xb.mpr ⟨j,hj,by rw[Zl];exact⟨hp.1,hw⟩⟩);simp[this] at hp
  .exact .inl λh hh hw=>z ⟨h,hh,hw⟩
theorem gR {B W:Γ1}{g:Nat}{h:Int}{s:Γ3}:s∈mf B W g h↔s.Sublist (cV B.length)/\qe B W g s=true/\h∈s:=by
 unfold mf;rw[Yb,Yb,qw];constructor
 .rintro⟨⟨h1,h2⟩,h3⟩;rw[Zl] at h2;exact⟨h1,h2.2,by simpa using h3⟩
 .rintro⟨h1,h2,h3⟩;refine⟨⟨h1,?_⟩,by simpa using h3⟩;rw[Zl];refine⟨?_,h2⟩;cases s with
  |nil=>cases h3
  |cons _ _=>rfl
theorem dY {B W:Γ1}{g:Nat}{h x:Int}:x∈lC B W g h↔(0<=x/\x<(B.length:Int))/\∀s∈mf B W g h,x∈s:=by
 unfold lC;rw[Yb,fZ,Zu];constructor
 .rintro⟨a,b⟩;exact⟨a,λs hs=>by simpa using b s hs⟩
 .rintro⟨a,b⟩;exact⟨a,λs hs=>by simpa using b s hs⟩
theorem M9 {B W:Γ1}{g:Nat}{h:Int}{F S:Γ3}(nd:F.Nodup)(hF:∀x∈F,x∈lC B W g h)(hh:h∈F)(cl:∀x∈F,∀o,0<=o->o<(B.length:Int)->gL B W g x o=true->o∈F)(hp:S.Perm F)(hs:S.Pairwise λa b=>a<=b):S=lC B W g h:=by
 have ndS:S.Nodup:=hp.nodup_iff.mpr nd;have R8:∀x∈F,0<=x/\x<(B.length:Int):=λx hx=>(dY.mp (hF x hx)).1
 have RG:(cV B.length).filter (λx=>F.contains x)∈mf B W g h:=by
  refine gR.mpr ⟨Xn,jh.mpr λx hx o o0 o1 hn=>?_,?_⟩
  .have hxF:x∈F:=by simpa using(Yb.mp hx).2
   have:=cl x hxF o o0 o1 hn;exact Yb.mpr ⟨fZ.mpr ⟨o0,o1⟩,by simpa using this⟩
  .exact Yb.mpr ⟨fZ.mpr (R8 h hh),by simpa using hh⟩
 have j0:∀x,x∈S↔x∈lC B W g h:=λx=>by
  rw[hp.mem_iff];refine⟨hF x,λhx=>?_⟩;have:=(dY.mp hx).2 _ RG;simpa using(Yb.mp this).2
 have ndC:(lC B W g h).Nodup:=List.Pairwise.sublist Xn (k8 _);have sC:(lC B W g h).Pairwise λa b=>a<=b:=by
  refine List.Pairwise.sublist Xn ?_;unfold cV;exact List.Pairwise.map _ (λa b h=>by omega) (List.pairwise_lt_range (n:=B.length))
 have pC:S.Perm (lC B W g h):=(List.perm_ext_iff_of_nodup ndS ndC).mpr j0;exact pC.eq_of_pairwise (λa b _ _ h1 h2=>by omega) hs sC
def ya:Sp:=λvs H Q _=>∃(a c:Addr) (r t:Γ3),vs=[.ref a,.ref c]/\H a=some (.tup (r.map V.int))/\H c=some (.tup (t.map V.int))/\r.length=t.length/\r.length<=6/\∀H',ai H H'->Q (.bl ((List.range r.length).any λj=>decide (0<r.getD j 0)&&decide (0<t.getD j 0))) H'
def o6:Sp:=λvs H Q _=>∃(p pB pW:Addr) (xB xW:List V) (B W:Γ1) (g h:Nat),vs=[.ref p,.int h]/\zC H p pB pW xB xW B W g/\h<B.length/\∀(r:Addr) (H':Hp),ai H H'->H' r=some (.tup ((lC B W g (h:Nat)).map V.int))->Q (.ref r) H'
def Cj:Sp:=λvs H Q _=>∃(p pB pW l:Addr) (xB xW:List V) (B W:Γ1) (g:Nat) (s:Γ3),vs=[.ref p,.ref l]/\zC H p pB pW xB xW B W g/\H l=some (.tup (s.map V.int))/\s.length<=6/\(∀x∈s,0<=x/\x<(B.length:Int))/\∀(r:Addr) (H':Hp),ai H H'->H' r=some (.lst (og (pQ B W g s)))->Q (.ref r) H'
def oM:Sp:=λvs H Q _=>∃(p pB pW:Addr) (xB xW:List V) (B W:Γ1) (g:Nat),vs=[.ref p]/\zC H p pB pW xB xW B W g/\∀(v:V) (H':Hp),ai H H'->(∀b,iP b H' v (nU B W g))->Q v H'
section
variable {K:Θ1}{tt:TT}{te:TE}{acc a:Addr}{s:Γ3}{ak:St}{aD:Hp}{Q:VK}
theorem mem_getD {i:Nat}(hi:i<s.length):s.getD i 0∈s:=by rw[gb (Zc hi)];exact Zv hi
theorem Hg {β : Type}(G:Int->β)(s:Γ3):((List.range (s.map V.int).length).filter λ_=>true).map (λi=>G (s.getD i 0))=s.map G:=by
 rw[Zb];have:=Ea s (λ_=>true) G 0;rw[this,Qg.mpr (λ_ _=>rfl)]
theorem Px (G:Int->V)(bu:aD acc=none)(hn:s.length<=1000)(hl:aD a=some (.tup (s.map V.int)))
  (he:∀x H (Z:VK),x∈s->ai aD H->(∀H',ai H H'->Z (G x) H')->te (ak.set 0 (some (.int x))) H Z)
  (hd:∀H,ai aD H->H acc=some (.lst (s.map G))->Q (.ref acc) H):cr (cA 0) zl te (zj K a) acc ak aD Q:=by
 refine rF (xs:=s.map V.int) (λ_=>true) (λi=>G (s.getD i 0)) bu (by rw[Zb];exact hn) hl (λi x H Z _ _ h=>h H (ai.refl H)) (λi x H Z hx _ st h=>?_) (λH st h=>hd H st (by rw[Hg] at h;exact h));obtain⟨hi,rfl⟩:=ints_get hx;exact he _ H Z (mem_getD hi) st h
end
theorem wz {α : Type}(s:List α)(F:α->Bool):(s.map λx=>V.bl (F x)).any tv=s.any F:=by rw[Qd];rfl
theorem wA {α : Type}(s:List α)(F:α->Bool):(s.map λx=>V.bl (F x)).all tv=s.all F:=by rw[Yr];rfl
theorem gQ {α : Type}(s:List α)(F:α->Bool):(s.map λx=>V.bl (F x)).all de=true:=by rw[Yr];simp[Function.comp_def,de]
theorem Na {B W:Γ1}{g:Nat}{h:Int}:(lC B W g h).length<=B.length:=by
 unfold lC;have:=Xs (λo=>(mf B W g h).all λs=>s.contains o) (cV B.length);rw[j7] at this;exact this
theorem DW {F:Γ3}{n:Nat}(nd:F.Nodup)(h:∀x∈F,0<=x/\x<(n:Int)):F.length<=n:=by
 have:F.length<=(cV n).length:=by
  have hs:F.Perm ((cV n).filter λx=>F.contains x):=(List.perm_ext_iff_of_nodup nd (List.Pairwise.sublist Xn (k8 n))).mpr λx=>by
   rw[Yb,fZ];constructor
   .intro hx;exact⟨h x hx,by simpa using hx⟩
   .rintro⟨_,hx⟩;simpa using hx
  rw[hs.length_eq];exact Xs _ _
 rw[j7] at this;exact this
theorem Dg {B W:Γ1}{g:Nat}{h:Int}{F:Γ3}{x:Int}(nd:F.Nodup)(hF:∀y∈F,y∈lC B W g h)(hx:x∈F) :
  (F++(((List.range B.length).filter λo=>!F.contains ((o:Nat):Int)&&gL B W g x (o:Nat)).map λo:Nat=>(o:Int))).Nodup /\
  (∀y∈F++(((List.range B.length).filter λo=>!F.contains ((o:Nat):Int)&&gL B W g x (o:Nat)).map λo:Nat=>(o:Int)),y∈lC B W g h) /\
  ∀o,0<=o->o<(B.length:Int)->gL B W g x o=true->o∈F++(((List.range B.length).filter λo=>!F.contains ((o:Nat):Int)&&gL B W g x (o:Nat)).map λo:Nat=>(o:Int)):=by
 refine⟨?_,?_,?_⟩
 .rw[Yy];refine⟨nd,?_,?_⟩
  .exact List.Pairwise.map _ (λa b h e=>h (by omega)) (List.Pairwise.sublist Xn Qu)
  .intro a ha b hb e;obtain⟨o,ho,rfl⟩:=Zh.mp hb;have:=(Yb.mp ho).2;rw[Zl] at this;rw[e] at ha;simp[ha] at this
 .intro y hy;rcases Zp.mp hy with z |z
  .exact hF y z
  .obtain⟨o,ho,rfl⟩:=Zh.mp z;obtain⟨h1,h2⟩:=Yb.mp ho;rw[Zl] at h2;have h1':=Zm.mp h1;refine dY.mpr ⟨by omega,λs hs=>?_⟩;obtain⟨_,E6,_⟩:=gR.mp hs;exact jh.mp E6 x ((dY.mp (hF x hx)).2 s hs) o (by omega) (by omega) h2.2
 .intro o o0 o1 hn;by_cases z:o∈F
  .exact Yw _ z
  .refine Zq _ (Zh.mpr ⟨o.toNat,Yb.mpr ⟨Zm.mpr (by omega),?_⟩,by omega⟩);rw[show((o.toNat:Nat):Int)=o by omega,hn];simp[z]
theorem Ek {B W:Γ1}{g:Nat}{h:Int}(h0:0<=h)(h1:h<(B.length:Int)):lC B W g h∈mf B W g h:=by
 refine gR.mpr ⟨Xn,jh.mpr λx hx o o0 o1 hn=>?_,dY.mpr ⟨⟨h0,h1⟩,λs hs=>(gR.mp hs).2.2⟩⟩;obtain⟨_,hx⟩:=dY.mp hx;exact dY.mpr ⟨⟨o0,o1⟩,λs hs=>jh.mp (gR.mp hs).2.1 x (hx s hs) o o0 o1 hn⟩
def BD (B W:Γ1)(g:Nat):Γ1:=(jR (cV B.length)).filter λs=>!s.isEmpty&&qe B W g s
theorem He (B W:Γ1)(g:Nat)(h:Int):mf B W g h=(BD B W g).filter λs=>s.contains h:=rfl
theorem zO {B W:Γ1}{g:Nat}{s:Γ3}(h:s∈BD B W g):s.length<=B.length/\∀x∈s,0<=x/\x<(B.length:Int):=by
 have hs:=qw.mp (Yb.mp h).1;refine⟨by have:=hs.length_le;rw[j7] at this;exact this,λx hx=>fZ.mp (hs.subset hx)⟩
theorem Ee {B W:Γ1}{g:Nat}(h:∀s∈BD B W g,pQ B W g s=[]):nU B W g=.none:=by
 unfold nU;have ef:(List.range B.length).find? (λh=>!(pQ B W g (lC B W g (h:Nat))).isEmpty)=none:=by
  rw[List.find?_eq_none];intro i hi;have xr:=Zm.mp hi;have:=Ek (B:=B) (W:=W) (g:=g) (h:=(i:Int)) (by omega) (by omega);rw[He] at this;rw[h _ (Yb.mp this).1];simp
 rw[ef]
end KM
namespace L2
open PySem PySem.Spec PyProof.Rows
abbrev tf (c7 t1 i1 t2 i2:Expr)(f1 f2:Ξ2)(scope:Scope)(pos:Pos):Expr:=.ListComp c7 [⟨t1,i1,f1,0⟩,⟨t2,i2,f2,0⟩] scope pos
theorem pk (c7 t1 i1 t2 i2:Expr)(f1 f2:Ξ2)(scope:Scope)(pos:Pos)(it acc:Value)(env:Env) :
  compTurn (tf c7 t1 i1 t2 i2 f1 f2 scope pos) 0 it acc env=(do
   standAt i1.pos
   match <- pyNext it with
   |none=>pure (.done .next)
   |some v =>
    letOwnedTupleGo t1 it v
    assign t1 env v
    let mut ok:=true
    for c in f1 do
     if ok then ok <- isTrue c env (eval c env)
    if ok then
     let x <- eval i2 env
     standAt i2.pos
     let x <- foldedSetIterable i2 env x;let _ <- runOwn (.compStart (tf c7 t1 i1 t2 i2 f1 f2 scope pos) 1 (<- holding [x] (pyIter x)) acc env) env
    again (.compLoop (tf c7 t1 i1 t2 i2 f1 f2 scope pos) 0 it acc env)):=by rfl
theorem mJ (c7 t1 i1 t2 i2:Expr)(f1 f2:Ξ2)(scope:Scope)(pos:Pos)(it acc:Value)(env:Env) :
  compTurn (tf c7 t1 i1 t2 i2 f1 f2 scope pos) 1 it acc env=(do
   standAt i2.pos
   match <- pyNext it with
   |none=>pure (.done .next)
   |some v =>
    letOwnedTupleGo t2 it v
    assign t2 env v
    let mut ok:=true
    for c in f2 do
     if ok then ok <- isTrue c env (eval c env)
    if ok then
     (do let _ <- call (.builtin "list.append") [acc,<- eval c7 env])
    again (.compLoop (tf c7 t1 i1 t2 i2 f1 f2 scope pos) 1 it acc env)):=by rfl
section
variable {prog:Program}{w:World}{A:Around}{R:Result->Shared->Prop}{s:Shared}{c7 t1 i1 t2 i2:Expr}{f1 f2:Ξ2}{scope:Scope}{pos:Pos}{it acc:Value}{env:Env}
theorem vh (I:Nat->Shared->Prop)
  (turn:∀n s,I n s->wpAny (model prog w) A (pyNext it) (λr bh=>match r with
   |none=>R (.ok .next) bh
   |some v=>wpAny (model prog w) A (letOwnedTupleGo t2 it v) (λ_ iU=>wpAny (model prog w) A (assign t2 env v) (λ_ eJ =>
     wpAny (model prog w) A (forIn f2 true λc r=>if r=true then do let ok <- isTrue c env (eval c env);pure (ForInStep.yield ok) else pure (ForInStep.yield r)) (λok cO =>
      if ok=true then wpAny (model prog w) A (eval c7 env) (λx ic =>
       wpAny (model prog w) A (call (.builtin "list.append") [acc,x]) (λ_ nG=>∃m,m<n/\I m nG) (λ_ _=>False) ic) (λ_ _=>False) cO
      else ∃m,m<n/\I m cO) (λ_ _=>False) eJ) (λ_ _=>False) iU) (λ_ _=>False) bh) (λ_ _=>False) s)
  (n:Nat) (h:I n s) :
  codeAny (model prog w) A (.compLoop (tf c7 t1 i1 t2 i2 f1 f2 scope pos) 1 it acc env) R s:=by
 refine codeAny_loop rfl I (λn s hI=>?_) n h;show wpAny _ A ((compTurn (tf c7 t1 i1 t2 i2 f1 f2 scope pos) 1 it acc env).onRaise (λx=>do noteFrame x env;theTreesLotGoes x)) _ _ s;refine wpAny_noted ?_;rw[mJ];refine Za (wpAny_standAt (Za (wpAny_mono (turn n s hI) (λr bh lK=>?_) λ_ _ h'=>h'.elim)));cases r with
 |none=>exact wpAny_pure lK
 |some v =>
  refine Za (wpAny_mono lK (λ_ iU om=>?_) λ_ _ h'=>h'.elim);refine Za (wpAny_mono om (λ_ eJ nO=>Za (wpAny_mono nO (λok cO lJ=>?_) λ_ _ h'=>h'.elim)) λ_ _ h'=>h'.elim);cases ok with
  |false=>exact wpAny_pure ⟨rfl,lJ⟩
  |true =>
   exact Za (Za (wpAny_mono lJ (λx ic vU=>Za (wpAny_mono vU (λ_ nG vT=>wpAny_pure (wpAny_pure ⟨rfl,vT⟩)) λ_ _ h'=>h'.elim)) λ_ _ h'=>h'.elim))
theorem vg (hs:∀x,foldedSetIterable i2 env x=pure x)(I:Nat->Shared->Prop)
  (turn:∀n s,I n s->wpAny (model prog w) A (pyNext it) (λr bh=>match r with
   |none=>R (.ok .next) bh
   |some v=>wpAny (model prog w) A (letOwnedTupleGo t1 it v) (λ_ iU=>wpAny (model prog w) A (assign t1 env v) (λ_ eJ =>
     wpAny (model prog w) A (forIn f1 true λc r=>if r=true then do let ok <- isTrue c env (eval c env);pure (ForInStep.yield ok) else pure (ForInStep.yield r)) (λok cO =>
      if ok=true then wpAny (model prog w) A (eval i2 env) (λx ic=>wpAny (model prog w) A (pyIter x) (λR1 nG =>
       codeAny (model prog w) A (.compStart (tf c7 t1 i1 t2 i2 f1 f2 scope pos) 1 R1 acc env) (λr nF=>r=.ok .next/\∃m,m<n/\I m nF) nG) (λ_ _=>False) ic) (λ_ _=>False) cO
      else ∃m,m<n/\I m cO) (λ_ _=>False) eJ) (λ_ _=>False) iU) (λ_ _=>False) bh) (λ_ _=>False) s)
  (n:Nat) (h:I n s) :
  codeAny (model prog w) A (.compLoop (tf c7 t1 i1 t2 i2 f1 f2 scope pos) 0 it acc env) R s:=by
 refine codeAny_loop rfl I (λn s hI=>?_) n h;show wpAny _ A ((compTurn (tf c7 t1 i1 t2 i2 f1 f2 scope pos) 0 it acc env).onRaise (λx=>do noteFrame x env;theTreesLotGoes x)) _ _ s;refine wpAny_noted ?_;rw[pk];refine Za (wpAny_standAt (Za (wpAny_mono (turn n s hI) (λr bh lK=>?_) λ_ _ h'=>h'.elim)));cases r with
 |none=>exact wpAny_pure lK
 |some v =>
  refine Za (wpAny_mono lK (λ_ iU om=>?_) λ_ _ h'=>h'.elim);refine Za (wpAny_mono om (λ_ eJ nO=>Za (wpAny_mono nO (λok cO lJ=>?_) λ_ _ h'=>h'.elim)) λ_ _ h'=>h'.elim);cases ok with
  |false=>exact wpAny_pure ⟨rfl,lJ⟩
  |true =>
   refine Za (wpAny_mono lJ (λx ic vU=>Za (wpAny_standAt (Za (wpAny_of_eq (hs x) (Za (wpAny_holding (wpAny_mono vU (λR1 nG vT=>?_) λ_ _ h'=>h'.elim))))))) λ_ _ h'=>h'.elim);refine Za (wpAny_runOwn (codeAny_mono vT λr nF Bo=>?_));obtain⟨rfl,Bo⟩:=Bo;exact wpAny_pure ⟨rfl,Bo⟩
theorem jj9
  (h0:codeAny (model prog w) A (.compLoop (tf c7 t1 i1 t2 i2 f1 f2 scope pos) 1 it acc env) R s)
  (h:wpAny (model prog w) A (pyIter it) (λOa s'=>codeAny (model prog w) A (.compLoop (tf c7 t1 i1 t2 i2 f1 f2 scope pos) 1 Oa acc env) R s')
   (notedBy (model prog w) A env λx s'=>R (.error x) s') s) :
  codeAny (model prog w) A (.compStart (tf c7 t1 i1 t2 i2 f1 f2 scope pos) 1 it acc env) R s:=by
 refine codeAny_of_tree ?_;show wpAny _ _ ((compStart (tf c7 t1 i1 t2 i2 f1 f2 scope pos) 1 it acc env).onRaise (λx=>do noteFrame x env;standAt theWindowsPlace)) _ _ s;refine wpAny_notedAt ?_;unfold compStart;show wpAny _ _ (ask >>= _) _ _ s;refine Za (wpAny_askSetting (wpAny_ite ?_));split
 .first
   |exact Za (wpAny_pure (wpAny_pure (And.intro rfl h0)))
   |exact wpAny_pure (And.intro rfl h0)
 .first
   |exact Za (wpAny_rule (Za (wpAny_standAt (Za (wpAny_mono h (λOa s' h'=>wpAny_pure (And.intro rfl h')) λ_ _ x=>x)))))
   |(refine Za (wpAny_rule ?_);show wpAny _ _ (standAt i2.pos >>= _) _ _ s;exact Za (wpAny_standAt (Za (wpAny_mono h (λOa s' h'=>wpAny_pure (And.intro rfl h')) λ_ _ x=>x))))
end
def Wo (g:TG)(tt:TT)(te:TE)(J:It)(acc:Addr)(ak:St)(aD:Hp)(Z:St->Hp->Prop):Prop :=
 ∃W:Nat->Nat->St->Hp->Prop,(∃m,W 0 m ak aD)/\∀i m aC H',W i m aC H' ->
  (J.stop i H'/\Z aC H') \/
  (J.go i H'/\∃N:St->Hp->Prop,(∀dg H2,N dg H2->∃m',m'<m/\W (i+1) m' dg H2)/\∀x H2,J.xl i H' x H2->g x aC H2 λju H3=>tt ju H3 λb H4 =>
   if b=true then te ju H4 λy H5=>∃ys,H5 acc=some (.lst ys)/\ys.length<sizeLine/\N ju (aK H5 acc (.lst (ys++[y]))) else N ju H4)
def r8 (g1:TG)(AF:TT)(HF:TI)(g2:TG)(AE:TT)(te:TE)(J:It)(acc:Addr)(ak:St)(aD:Hp)(Q:VK):Prop :=
 ∃W:Nat->Nat->St->Hp->Prop,(∃m,W 0 m ak (aK aD acc (.lst [])))/\∀i m aC H',W i m aC H' ->
  (J.stop i H'/\Q (.ref acc) H') \/
  (J.go i H'/\∃N:St->Hp->Prop,(∀dg H2,N dg H2->∃m',m'<m/\W (i+1) m' dg H2)/\∀x H2,J.xl i H' x H2->g1 x aC H2 λju H3=>AF ju H3 λb H4 =>
   if b=true then HF ju H4 λJ2 H5=>Wo g2 AE te J2 acc ju H5 N else N ju H4)
def K7 (wi:TI)(g1:TG)(AF:TT)(HF:TI)(g2:TG)(AE:TT)(te:TE)(own:Nat)(ix:List Nat):TE:=λσ H Q=>wi σ H λJ H1=>∀acc,H1 acc=none->r8 g1 AF HF g2 AE te J acc (eF own ix σ) H1 Q
section
variable {X:Cx}{scope:Scope}{own cap:Δ2}{ix:List Nat}{t1 i1 t2 i2 c7:Expr}{f1 f2:Ξ2}{wi HF:TI}{g1 g2:TG}{AF AE:TT}{te:TE}{pos:Pos}
theorem xg {aa:Γ2}{σ:St}{H2:Hp}{s2:Shared}{it:Addr}{fp:List Addr}{tn:Nat->Heap->Prop}{J:It}{Q:VK}{RR:Value->Addr->Result->Shared->Prop}{E:Θ2}
  (B:az X scope own cap ix) (hc:X.calm=true)
  (hb:∀C fp s H,PG (gc X scope C (own++cap) fp s H) t1 g1/\fo (gc X scope C (own++cap) fp s H) f1 AF/\PI (gc X scope C (own++cap) fp s H) t2 i2 HF/\PG (gc X scope C (own++cap) fp s H) t2 g2/\fo (gc X scope C (own++cap) fp s H) f2 AE/\PE (gc X scope C (own++cap) fp s H) c7 te)
  (tD:∀(env:Env) x,foldedSetIterable i2 env x=pure x)
  (I2:Inv X aa σ H2 s2) (T:Turn X.prog X.w X.K t1 J fp it tn) (gG:tn 0 s2.heap) (Z6:∀b∈fp,cR X aa H2 b)
  (q:∀acc,H2 acc=none->r8 g1 AF HF g2 AE te J acc (eF own.length ix σ) H2 Q)
  (JE:∀D C H' s' m,Inv X aa σ H' s'->Q (.ref D) H'->s'.heap.Ns C m->cR X aa H' C->RR (.ref D) C (.ok .next) s') :
  wpAny (model X.prog X.w) X.A (newList []) (λacc cO=>wpAny (model X.prog X.w) X.A (newFunctionEnv scope X.env.globals (dH X.env scope.names []) [] X.env.qual none .none (some X.env)) (λnW ic =>
   codeAny (model X.prog X.w) X.A (.compStart (tf c7 t1 i1 t2 i2 f1 f2 scope pos) 0 (.ref it) acc { nW with scope:=relabel scope X.env }) (RR acc nW.locals) ic) E cO) E s2:=by
 refine wpAny_newObj_type (gl ?_);have I3:Inv X aa σ (aK H2 s2.heap.objs.size (.lst [])) { s2 with heap:=s2.heap.push { cls:=.type "list",dict:=none,data:=.seq ([]:Δ3).toArray } }:=I2.Bk (its:=[]) (ys:=[]) (t':=s2.toks) .nil (Yn _);obtain⟨W,⟨m0,w0⟩,turn⟩:=q s2.heap.objs.size I2.fresh;generalize hD:s2.heap.objs.size=D at I3 w0 turn ⊢;have cG:∀b∈fp,b<D:=λb bv=>by
  obtain⟨o,e,_⟩:=T.obj 0 _ gG b bv;rw[<- hD];exact Heap.lt_size e
 generalize Jo:({ s2 with heap:=s2.heap.push { cls:=.type "list",dict:=none,data:=.seq ([]:Δ3).toArray } }:Shared)=s3 at I3 ⊢;have iY:∀b o,s2.heap.get? b=some o->s3.heap.get? b=some o:=λb o e=>by rw[<- Jo];exact Heap.get?_push_of_some _ e
 have f3:∀b∈fp,cR X aa (aK H2 D (.lst [])) b:=λb bv=>⟨by rw[dh (Yd (cG b bv))];exact(Z6 b bv).1,(Z6 b bv).2⟩
 have o3:∀b∈fp,∃o,s3.heap.get? b=some o:=λb bv=>let ⟨o,e,_⟩:=T.obj 0 _ gG b bv;⟨o,iY b o e⟩
 have I4:=I3.block B f3 o3;have AS:tn 0 (pushCells (s3.heap.push { cls:=.type "dict",data:=.dict #[] }) scope.names):=T.keep 0 _ _ gG λb _ o e=>pushCells_keeps _ _ b o (Heap.get?_push_of_some _ (iY b o e))
 obtain⟨hg,A3,ZG,ZI,P6,he⟩:=hb s3.heap.objs.size fp s3 (aK H2 D (.lst []));generalize ib:gc X scope s3.heap.objs.size (own++cap) fp s3 (aK H2 D (.lst []))=X' at I4 hg A3 ZG ZI P6 he;have eP:X'.prog=X.prog:=by rw[<- ib];rfl
 have eW:X'.w=X.w:=by rw[<- ib];rfl
 have eK:X'.K=X.K:=by rw[<- ib];rfl
 have eA:X'.A=X.A:=by rw[<- ib];rfl
 have eE:X'.env=iC scope s3.heap.objs.size X.env:=by rw[<- ib];rfl
 have ex:X'.xe=λ_ _=>False:=by rw[<- ib];rfl
 have jN:X'.calm=true:=by rw[<- ib];exact hc
 have ii:∀{H':Hp},(∀b∈fp,H' b=none)->∀b∈fp,cR X' [] H' b:=λhn b bv=>by
  subst ib;exact⟨hn b bv,(I4.ok.zf b bv).1,I4.ok.nR b bv,.inl bv,(I4.ok.zf b bv).2,λp hp=>absurd (show p∈([]:Γ2) from hp) (by simp)⟩
 have nM:∀s4:Shared,s4={ s3 with heap:=pushCells (s3.heap.push { cls:=.type "dict",data:=.dict #[] }) scope.names } ->
   codeAny (model X.prog X.w) X.A (.compLoop (tf c7 t1 i1 t2 i2 f1 f2 scope pos) 0 (.ref it) (.ref D) (iC scope s3.heap.objs.size X.env)) (RR (.ref D) s3.heap.objs.size) s4:=by
  rintro s4 rfl;refine vg (tD _) (λn s'=>∃i aC H',Inv X' [] aC H' s'/\tn i s'.heap/\(∀b∈fp,H' b=none)/\W i n aC H') ?_ m0 ⟨0,_,_,I4,AS,λb bv=>(f3 b bv).1,w0⟩;rintro n s5 ⟨i,nz,H5,I5,nB,ze,w5⟩;rcases turn i n nz H5 w5 with ⟨stop,qn⟩ |⟨go,N,hN,step⟩
  .have:=T.done X' eP eW eK jN i [] s5 nz H5 (λ_ _=>False) I5 (ii ze) nB stop;rw[eA] at this;refine bi this λr s6 ⟨hr,I6⟩=>?_
   subst hr;subst ib;have J6:Inv X aa σ H5 s6:=I3.ql (ch:=fp) I6.os I6.base I6.bt I6.bare λb bv=>⟨(f3 b bv).2.2.2.1,(f3 b bv).2.1,(f3 b bv).2.2.2.2.1,(f3 b bv).2.2.2.2.2⟩
   obtain⟨m,hn,_⟩:=I6.loc;exact JE D _ H5 s6 m J6 qn hn (I3.jL (Ze _) I6.free)
  .have:=T.item X' eP eW eK jN i [] s5 nz H5 (λ_ _=>False) I5 (ii ze) nB go;rw[eA] at this;refine bi this λr s6 ⟨u,hr,h6⟩=>?_
   subst hr;refine bi h6 λ_ s7 ⟨x,H7,I7,r7,y7,vz,JG⟩=>?_
   have JN:=I7.pinned (ii JG) (T.obj _ _ vz);have a1:=hg _ s7 nz H7 x u _ JN r7 (step x H7 y7);rw[eP,eW,eA,eE,ex] at a1;refine bi a1 λ_ s8 ⟨vj,H8,I8,q8⟩=>?_
   have a2:=A3 _ s8 vj H8 _ I8 q8;rw[eP,eW,eA,eE,ex] at a2;refine bi a2 λb s9 ⟨H9,I9,q9⟩=>?_
   have again:∀{s':Shared}{aC:St}{H':Hp},Inv X' ([]++dJ fp s7.heap) aC H' s'->N aC H'->∃m,m<n/\∃i aC H',Inv X' [] aC H' s'/\tn i s'.heap/\(∀b∈fp,H' b=none)/\W i m aC H':=λ{s' aC H'} I' n'=>by
    obtain⟨m',hm,w'⟩:=hN aC H' n';refine⟨m',hm,i+1,aC,H',I'.df,T.keep _ _ _ vz λb bv o e=>(I'.pin (b,o) (Zq _ (Zq _ (AK bv e)))).1,λb bv=>?_,w'⟩;obtain⟨o,e,d⟩:=T.obj _ _ vz b bv;exact(I'.pin (b,o) (Zq _ (Zq _ (AK bv e)))).2.1
   cases b with
   |false=>exact again I9 q9
   |true =>
    rw[if_pos rfl] at q9 ⊢;have a3:=ZG _ s9 vj H9 _ I9 q9;rw[eP,eW,eA,eE,ex] at a3;refine bi a3 λv10 Nt Z3=>bi Z3 λEI NT Z2=>?_
    obtain⟨R1,OP,X5,J2,V9,U1,JO,T2,Pd,QB,W2,⟨m2,w2⟩,QO⟩:=Z2;subst U1;have By:∀{H':Hp},(∀b∈OP,H' b=none)->∀b∈OP,cR X' ([]++dJ fp s7.heap) H' b:=λhn b bv=>⟨hn b bv,(QB b bv).2⟩
    have IK:codeAny (model X.prog X.w) X.A (.compLoop (tf c7 t1 i1 t2 i2 f1 f2 scope pos) 1 (.ref R1) (.ref D) (iC scope s3.heap.objs.size X.env)) (λr nF=>r=.ok .next/\∃m,m<n/\∃i aC H',Inv X' [] aC H' nF/\tn i nF.heap/\(∀b∈fp,H' b=none)/\W i m aC H') NT:=by
     refine vh (λn s'=>∃i aC H',Inv X' ([]++dJ fp s7.heap) aC H' s'/\X5 i s'.heap/\(∀b∈OP,H' b=none)/\W2 i n aC H') ?_ m2 ⟨0,_,_,JO,Pd,λb bv=>(QB b bv).1,w2⟩;rintro n2 vo ⟨j,Fh,V8,τ,Pc,Qz,w12⟩;rcases QO j n2 Fh V8 w12 with ⟨Q3,qn2⟩ |⟨go2,N2,hN2,Q4⟩
     .have:=T2.done X' rfl rfl rfl jN j _ vo Fh V8 (λ_ _=>False) τ (By Qz) Pc Q3;rw[eP,eW,eA] at this;refine bi this λr Nr ⟨hr,I13⟩=>?_
      subst hr;exact⟨rfl,again I13 qn2⟩
     .have:=T2.item X' rfl rfl rfl jN j _ vo Fh V8 (λ_ _=>False) τ (By Qz) Pc go2;rw[eP,eW,eA] at this;refine bi this λr Nr ⟨u2,hr,h13⟩=>?_
      subst hr;refine bi h13 λ_ YD ⟨x2,χ,I14,r14,y14,JZ,XM⟩=>?_
      have XY:=I14.pinned (By XM) (T2.obj _ _ JZ);have b1:=ZI _ YD Fh χ x2 u2 _ XY r14 (Q4 x2 χ y14);rw[eP,eW,eA,eE,ex] at b1;refine bi b1 λ_ s15 ⟨Ff,H15,I15,q15⟩=>?_
      have b2:=P6 _ s15 Ff H15 _ I15 q15;rw[eP,eW,eA,eE,ex] at b2;refine bi b2 λbb s16 ⟨H16,ρ,Tn⟩=>?_
      have C8:∀{s':Shared}{aC:St}{H':Hp},Inv X' (([]++dJ fp s7.heap)++dJ OP YD.heap) aC H' s'->N2 aC H'->∃m,m<n2/\∃i aC H',Inv X' ([]++dJ fp s7.heap) aC H' s'/\X5 i s'.heap/\(∀b∈OP,H' b=none)/\W2 i m aC H':=λ{s' aC H'} I' n'=>by
       obtain⟨m',hm,w'⟩:=hN2 aC H' n';refine⟨m',hm,j+1,aC,H',I'.df,T2.keep _ _ _ JZ λb bv o e=>(I'.pin (b,o) (Zq _ (Zq _ (AK bv e)))).1,λb bv=>?_,w'⟩;obtain⟨o,e,d⟩:=T2.obj _ _ JZ b bv;exact(I'.pin (b,o) (Zq _ (Zq _ (AK bv e)))).2.1
      cases bb with
      |false=>exact C8 ρ Tn
      |true =>
       rw[if_pos rfl] at Tn ⊢;have b3:=he _ s16 Ff H16 _ ρ Tn;rw[eP,eW,eA,eE,ex] at b3;refine bi b3 λyv s17 ⟨y,H17,I17,r17,ys,Oe,hz,q17⟩=>?_
       have b4:=jG (X:=X') _ s17 Ff H17 (.ref D) [y] (.ref D) [yv] (λv H'=>v=.bO/\N2 Ff H') I17 rfl (.cons r17 .nil) ⟨D,ys,y,rfl,rfl,Oe,hz,rfl,q17⟩;rw[eP,eW,eA,ex] at b4;refine bi b4 λ_ s18 ⟨_,H18,I18,_,_,q18⟩=>C8 I18 q18
    have Ig:=T2.self X.A 0 NT (λOa s'=>codeAny (model X.prog X.w) X.A (.compLoop (tf c7 t1 i1 t2 i2 f1 f2 scope pos) 1 Oa (.ref D) (iC scope s3.heap.objs.size X.env)) (λr nF=>r=.ok .next/\∃m,m<n/\∃i aC H',Inv X' [] aC H' nF/\tn i nF.heap/\(∀b∈fp,H' b=none)/\W i m aC H') s') (notedBy (model X.prog X.w) X.A (iC scope s3.heap.objs.size X.env) λx s'=>(Except.error x:Result)=.ok .next/\∃m,m<n/\∃i aC H',Inv X' [] aC H' s'/\tn i s'.heap/\(∀b∈fp,H' b=none)/\W i m aC H') Pd IK;rw[eP,eW] at Ig;exact jj9 IK Ig
 exact codeAny_compStart_list (nM _ rfl) (T.self X.A 0 _ _ _ AS (nM _ rfl))
theorem DE (B:az X scope own cap ix)(hc:X.calm=true)(hi:PI X t1 i1 wi)
  (hb:∀C fp s H,PG (gc X scope C (own++cap) fp s H) t1 g1/\fo (gc X scope C (own++cap) fp s H) f1 AF/\PI (gc X scope C (own++cap) fp s H) t2 i2 HF/\PG (gc X scope C (own++cap) fp s H) t2 g2/\fo (gc X scope C (own++cap) fp s H) f2 AE/\PE (gc X scope C (own++cap) fp s H) c7 te)
  (hs:∀x,foldedSetIterable i1 X.env x=pure x:=by intro _;rfl) (tD:∀(env:Env) x,foldedSetIterable i2 env x=pure x:=by intro _ _;rfl):PE X (.ListComp c7 [⟨t1,i1,f1,0⟩,⟨t2,i2,f2,0⟩] scope pos) (K7 wi g1 AF HF g2 AE te own.length ix):=by
 intro aa s σ H Q I h;rw[eval_ListComp];have has:∀x∈scope.names,x.2=.free->(X.env.cells.lookup x.1).isSome=true:=λx hx hk=>by
  obtain⟨c,e⟩:=I.ok.has x.1 (B.frees x hx hk);rw[e];rfl
 refine wpAny_comprehension_free (use:=none) rfl hs (N9 has) B.kind B.names ?_;show wpAny _ _ (eval i1 X.env) _ _ s;refine bi (hi aa s σ H _ I h) λv s1 h1=>bi h1 λEI s2 h2=>?_
 obtain⟨it,fp,tn,J,H2,e,I2,T,gG,f2,q⟩:=h2;subst e;refine xg (RR:=λacc C=>compPost (model X.prog X.w) X.A X.xe none (EP X aa σ Q) acc C) B hc hb tD I2 T gG f2 q ?_;intro D C H' s' m I' q' hn fC;refine⟨m,hn,λh' vH=>⟨.ref D,H',?_,rfl,q'⟩⟩;exact I'.turned (t':=s'.toks) (it:=C) (λb o Fb e=>(vH.2 b Fb).trans e) fC.1 fC.2.1 fC.2.2.2.1 fC.2.2.2.2.1 fC.2.2.2.2.2
end
end L2
namespace L2
open PySem PySem.Spec PyProof.Rows KG
section
variable {te:TE}{acc a:Addr}{xs:List V}{cs:List (Option V)}{aD:Hp}{Q:VK}
def NM (p q:Option V)(cs:List (Option V))(acc:Addr)(P:List V->Hp->Prop)(σ:St)(H:Hp):Prop:=(∃x2 x3,σ=p::q::x2::x3::cs)/\∃zs,H acc=some (.lst zs)/\P zs H
theorem NM.of {p q u v:Option V}{P:List V->Hp->Prop}{H:Hp}{zs:List V}(h:H acc=some (.lst zs))(r:P zs H):NM p q cs acc P (p::q::u::v::cs) H:=⟨⟨_,_,rfl⟩,zs,h,r⟩
theorem Ej (c:Nat->Addr)(ys:Nat->List V)(R:Nat->Nat->List V->Hp->Prop)(hx:∀i,i<xs.length->xs[i]?=some (.ref (c i)))(h0:R 0 0 [] (aK aD acc (.lst [])))
  (hl:∀i j zs H,i<=xs.length->R i j zs H->aG K0 H a xs/\(i<xs.length->aG K0 H (c i) (ys i))) (lz:∀i j zs H H1,R i j zs H->ai H H1->R i j zs H1)
  (hs:∀i j y zs H,i<xs.length->(ys i)[j]?=some y->H acc=some (.lst zs)->R i j zs H->te (some (.int (i:Int))::some (.ref (c i))::some (.int (j:Int))::some y::cs) H λv H5=>∃us,H5 acc=some (.lst us)/\us.length<sizeLine/\NM (some (.int (i:Int))) (some (.ref (c i))) cs acc (R i (j+1)) (some (.int (i:Int))::some (.ref (c i))::some (.int (j:Int))::some y::cs) (aK H5 acc (.lst (us++[v]))))
  (hn:∀i zs H,i<xs.length->R i (ys i).length zs H->R (i+1) 0 zs H) (hd:∀zs H,H acc=some (.lst zs)->R xs.length 0 zs H->Q (.ref acc) H) {x0 x1 x2 x3:Option V} :
  r8 (Bq K0 2 (oo (cA 0) (oo (cA 1) FI))) zl (IQ K0 (xx (mx 1) JX)) (Bq K0 2 (oo (cA 2) (oo (cA 3) FI))) zl te (ET K0 a) acc (x0::x1::x2::x3::cs) aD Q:=by
 refine⟨λi m σ H=>m=xs.length-i/\i<=xs.length/\(∃x0 x1 x2 x3,σ=x0::x1::x2::x3::cs)/\∃zs,H acc=some (.lst zs)/\R i 0 zs H,⟨xs.length,by simp,Yn _,⟨_,_,_,_,rfl⟩,[],cL,h0⟩,?_⟩;rintro i m σ H ⟨rfl,hi,⟨x0,x1,x2,x3,rfl⟩,zs,hz,r⟩;have q:=(hl i 0 zs H hi r).1;by_cases cG:i<xs.length
 .refine .inr ⟨⟨xs,xs[i],q,by simp[cG]⟩,λσ H=>(∃x0 x1 x2 x3,σ=x0::x1::x2::x3::cs)/\∃zs,H acc=some (.lst zs)/\R (i+1) 0 zs H,λaC H' p=>⟨xs.length-(i+1),by omega,rfl,cG,p⟩,λx H' y=>?_⟩;obtain⟨pp,hp,rfl,EJ⟩:=y;obtain⟨z,AL,rfl⟩:=EJ xs q;rw[hx i cG] at AL;have ez:z=.ref (c i):=(Option.some.inj AL).symm;subst ez;have s1:=(ai.refl H).new (o:=.tup [.int (i:Int),.ref (c i)]) hp;refine⟨pp,_,rfl,aG.of cL,rfl,_,_,rfl,_,_,rfl,rfl,?_⟩;have r1:=lz i 0 zs H _ r s1;have YY:=s1 _ _ hz;generalize aK H pp (.tup [.int (i:Int),.ref (c i)])=H1 at s1 r1 YY ⊢;refine tY ?_;refine⟨_,rfl,c i,rfl,⟨_,(hl i 0 zs H1 hi r1).2 cG⟩,?_⟩;refine⟨λj m σ H=>m=(ys i).length-j/\j<=(ys i).length/\(∃x2 x3,σ=some (.int (i:Int))::some (.ref (c i))::x2::x3::cs)/\∃zs,H acc=some (.lst zs)/\R i j zs H,⟨(ys i).length,by simp,Yn _,⟨_,_,rfl⟩,zs,YY,r1⟩,?_⟩;rintro j m σ H2 ⟨rfl,hj,⟨x2,x3,rfl⟩,NN,YX,r2⟩;have q2:=(hl i j NN H2 hi r2).2 cG;by_cases P2:j<(ys i).length
  .refine .inr ⟨⟨ys i,(ys i)[j],q2,by simp[P2]⟩,NM (some (.int (i:Int))) (some (.ref (c i))) cs acc (R i (j+1)),λaC H' p=>⟨(ys i).length-(j+1),by omega,rfl,P2,p⟩,λx H' y=>?_⟩;obtain⟨YG,T0,rfl,WZ⟩:=y;obtain⟨z2,WY,rfl⟩:=WZ (ys i) q2;have s2:=(ai.refl H2).new (o:=.tup [.int (j:Int),z2]) T0;refine⟨YG,_,rfl,aG.of cL,rfl,_,_,rfl,_,_,rfl,rfl,?_⟩;have r3:=lz i j NN H2 _ r2 s2;have YW:=s2 _ _ YX;generalize aK H2 YG (.tup [.int (j:Int),z2])=H3 at s2 r3 YW ⊢;exact tY (hs i j z2 NN H3 cG WY YW r3)
  .have e:j=(ys i).length:=by omega
   subst e;exact .inl ⟨⟨ys i,q2,Ze _⟩,⟨_,_,_,_,rfl⟩,NN,YX,hn i NN H2 cG r2⟩
 .have e:i=xs.length:=by omega
  subst e;exact .inl ⟨⟨xs,q,Ze _⟩,hd zs H hz r⟩
end
end L2
namespace KM
open PySem L2 KG EX
def cD:PyData->Bool
 |.tuple [.int t,.int u]=>decide (1<=u)&&decide (Int.gcd t u=1)&&decide (0<=t)
 |_=>false
def cu (g:Nat):PyData->Bool
 |.tuple ds=>decide (ds.length=g)&&ds.all cD
 |_=>false
def lI (n g:Nat):PyData->Bool
 |.tuple ds=>decide (ds.length=n)&&ds.all (cu g)
 |_=>false
theorem qC {g:Nat}{d:PyData}(h:pA d=false):cu g d=false:=by cases d<;>first |rfl |cases h
theorem yy {n g:Nat}{d:PyData}(h:pA d=false):lI n g d=false:=by cases d<;>first |rfl |cases h
theorem qv {d:PyData}(h:aO d=false):cD d=false:=by
 unfold cD;split
 .have h':(_&&_)=false:=h;rw[h'];rfl
 .rfl
def OZ (H:Hp)(zs:List V)(D:List (Δ1)):Prop:=zs.length=D.length/\∀(j:Nat) x,zs[j]?=some x->∃(a:Addr) (ys:List V) (qs:Δ1),D[j]?=some qs/\x=.ref a/\H a=some (.tup ys)/\lE H ys qs
theorem OZ.ay {H H':Hp}{zs:List V}{D:List (Δ1)}(h:OZ H zs D)(s:ai H H'):OZ H' zs D:=⟨h.1,λj x hx=>by obtain⟨a,ys,qs,e1,e2,e3,e4⟩:=h.2 j x hx;exact⟨a,ys,qs,e1,e2,s _ _ e3,e4.ay s⟩⟩
structure KZ (H:Hp)(q:Addr)(zs:List V)(D:List (Δ1))(g:Nat):Prop where
 hq:H q=some (.tup zs)
 fr:OZ H zs D
 len:∀qs∈D,qs.length=g
 bd:∀qs∈D,∀z∈qs,Rb 100 z
 UT:D.length<=6
def pP (D:List (Δ1))(g:Nat):Rat:=ck (D.map λqs=>qs.getD g 0)
def Bz:Sp:=λvs H Q _=>∃(q:Addr) (zs:List V) (D:List (Δ1)) (g n:Nat),vs=[.ref q,.int (g:Int)]/\KZ H q zs D n/\g<n/\∀(r:Addr) (H':Hp),ai H H'->H' r=some (qO (pP D g))->Q (.ref r) H'
def oy (am:Γ3)(M:Γ1)(D:List (Δ1))(n:Nat):Bool:=(List.range n).all λg=>decide (pP D g=if has M g=true then ((am.getD g 0:Int):Rat) else 0)
def i0 (row qs:Δ1)(n:Nat):Rat:=ck ((List.range n).map λg=>row.getD g 0*qs.getD g 0)
def mZ (ps:Δ1)(D:List (Δ1))(qs:Δ1)(n:Nat):Bool:=(List.range D.length).all λi=>decide (i0 (D.getD i []) qs n=ps.getD i 0)
def fw (B:Γ1)(D:List (Δ1))(i g:Nat):Bool:=decide ((D.getD i []).getD g 0=0)||(B.getD i []).contains (g:Int)
def jd (B:Γ1)(D:List (Δ1))(n:Nat):Bool:=(List.range D.length).all λi=>(List.range n).all λg=>fw B D i g
def sh:Sp:=λvs H Q _=>∃(pb q:Addr) (xb zs:List V) (B:Γ1) (D:List (Δ1)) (n:Nat),vs=[.ref pb,.ref q]/\H pb=some (.tup xb)/\qZ H xb B/\KZ H q zs D n/\n<=6/\B.length=D.length/\∀H',ai H H'->Q (.bl (jd B D n)) H'
def fE (B:Γ1)(D:List (Δ1))(n i j:Nat):List V:=((List.range i).flatMap λi=>(List.range n).map λg=>V.bl (fw B D i g))++(List.range j).map λg=>V.bl (fw B D i g)
theorem w8 (B:Γ1)(D:List (Δ1))(n i:Nat):fE B D n i n=fE B D n (i+1) 0:=by
 unfold fE;rw[Yo,List.flatMap_append];simp
theorem wZ (B:Γ1)(D:List (Δ1))(n i j:Nat):fE B D n i (j+1)=fE B D n i j++[V.bl (fw B D i j)]:=by
 unfold fE;rw[Yo,Zs,Xf];rfl
theorem Aq (B:Γ1)(D:List (Δ1))(n i j:Nat):(fE B D n i j).length=i*n+j:=by
 unfold fE;rw[Zn,Zb,Xo]
 congr 1
 induction i with
 |zero=>simp
 |succ i ih=>rw[Yo,List.flatMap_append,Zn,ih];simp[Nat.succ_mul]
theorem As (B:Γ1)(D:List (Δ1))(n:Nat):(fE B D n D.length 0).all tv=jd B D n:=by
 unfold fE jd;rw[List.all_append,List.all_flatMap];simp only[List.range_zero,List.map_nil,List.all_nil,Bool.and_true,Yr];rfl
theorem ve (B:Γ1)(D:List (Δ1))(n i j:Nat):(fE B D n i j).all de=true:=by
 unfold fE;rw[List.all_append,List.all_flatMap];simp[Yr,Function.comp_def,de]
theorem DV {q:Rat}:decide (V.int q.num=V.int 0)=decide (q=0):=by
 rw[decide_eq_decide];constructor
 .intro h;injection h with h;exact Rat.num_eq_zero.mp h
 .intro h;rw[h];rfl
def bD (D:List (Δ1)):PyData:=.tuple (D.map λqs=>.tuple (qs.map qD))
theorem LR {e:PyData}(h:cD e=true):∃q:Rat,e=qD q/\0<=q:=by
 unfold cD at h;split at h
 .rename_i t u;simp only[Zl,decide_eq_true_eq] at h;obtain⟨⟨h1,h2⟩,h3⟩:=h;obtain⟨q,e1,e2⟩:=Cy (t:=t) (u:=u) (by omega) h2;exact⟨q,by unfold qD;rw[e1,e2],Rat.num_nonneg.mp (by omega)⟩
 .cases h
theorem yg:∀{es:Ξ1},es.all cD=true->∃qs:Δ1,es=qs.map qD/\∀q∈qs,0<=q
 |[],_=>⟨[],rfl,λq h=>nomatch h⟩
 |e::es,h=>by
  rw[Xe,Zl] at h;obtain⟨q,rfl,h1⟩:=LR h.1;obtain⟨qs,rfl,h2⟩:=yg h.2;refine⟨q::qs,rfl,λz hz=>?_⟩;rcases Zf.mp hz with rfl |hz
  .exact h1
  .exact h2 z hz
def c9 (am:Γ3)(ps qs:Δ1)(M:Γ1)(D:List (Δ1))(n:Nat):Bool:=oy am M D n&&(jd (bB M qs) D n&&mZ ps D qs n)
end KM
namespace L2
open PySem PySem.Spec PyProof.Rows KG
end L2
namespace KM
open PySem L2 KG EX
end KM
namespace PySem
open AutoSeq1 (wpAny_loadPart')
end PySem
namespace L2
open PySem PySem.Spec PyProof.Rows
section
variable {X:Cx}
end
end L2
namespace KM
open PySem L2 KG EX
theorem ut:∀(a b:Δ1),ck (a++b)=ck a+ck b
 |[],b=>by rw[List.nil_append];show _=(0:Rat)+_;rw[Rat.zero_add]
 |q::a,b=>by rw[List.cons_append,lY,lY,ut a b,Rat.add_assoc]
def eQ (D:List (Δ1))(i g:Nat):Rat:=(D.getD i []).getD g 0
theorem uM (D:List (Δ1))(g:Nat):pP D g=ck ((List.range D.length).map λi=>eQ D i g):=by
 unfold pP eQ
 congr 1
 conv=>lhs;rw[<- nk D [],Zi]
 rfl
theorem GO {q:Rat}(h:0<=q):cD (qD q)=true:=by
 show(decide ((1:Int)<=(q.den:Int))&&decide (Int.gcd q.num (q.den:Int)=1)&&decide (0<=q.num))=true;have h1:=lu q;have h2:Int.gcd q.num (q.den:Int)=1:=by
  have:=q.reduced;unfold Nat.Coprime at this;rw[Int.gcd_eq_natAbs_gcd_natAbs];simpa using this
 rw[decide_eq_true (show(1:Int)<=(q.den:Int) by omega),decide_eq_true h2,decide_eq_true (Rat.num_nonneg.mpr h)];rfl
theorem uL {D:List (Δ1)}{n g:Nat}(h1:D.length=n)(h2:∀r∈D,r.length=g)(h3:∀r∈D,∀z∈r,0<=z):lI n g (bD D)=true:=by
 show(decide ((D.map λqs=>PyData.tuple (qs.map qD)).length=n)&&(D.map λqs=>PyData.tuple (qs.map qD)).all (cu g))=true;rw[Zb,decide_eq_true h1,Ys,Yr,Zu];intro r hr;show(decide ((r.map qD).length=g)&&(r.map qD).all cD)=true;rw[Zb,decide_eq_true (h2 r hr),Ys,Yr,Zu];exact λz hz=>GO (h3 r hr z hz)
end KM
namespace EX
open PySem PySem.Spec PyProof.Rows
section
variable {M:Model}{A:Around}{E:Θ2}{s:Shared}{B:Heap}{env:Env}{outer:List Env}{L e C t:Addr}{Q:Unit->Shared->Prop}
end
end EX
namespace L2
open PySem PySem.Spec PyProof.Rows EX
section
variable {X:Cx}{scope:Scope}{own cap:Δ2}{ix:List Nat}{tg iter c7:Expr}{fg:Ξ2}{wi:TI}{g:TG}{tt:TT}{te:TE}{pos:Pos}
end
end L2
namespace PySem
section
variable {prog:Program}{w:World}{A:Around}{E:Θ2}{s:Shared}{z TI TO i1 i2 i3 l1 l2 l3:Addr}{k1 k2 k3:Nat}{xs ys us:Array Value}{x y u a b c:Value}
end
end PySem
namespace L2
open PySem PySem.Spec PyProof.Rows
section
variable {X:Cx}
end
end L2
namespace L2
open PySem PySem.Spec PyProof.Rows KG
section
variable {X:Cx}
end
end L2
namespace KM
open PySem L2 KG EX
theorem si {D:List (Δ1)}(h:bz (bD D)=true):∀r∈D,∀z∈r,Rb 30 z:=by
 intro r hr z hz;have h1:=fX h (.tuple (r.map qD)) (Zh.mpr ⟨r,hr,rfl⟩);have h2:=fX h1 (qD z) (Zh.mpr ⟨z,hz,rfl⟩);have h3:=fX (ds:=[.int z.num,.int z.den]) h2;have a1:=h3 (.int z.num) (by simp);have a2:=h3 (.int z.den) (by simp);have b1:(decide (-1073741824<z.num)&&decide (z.num<1073741824))=true:=a1;have b2:(decide (-1073741824<(z.den:Int))&&decide ((z.den:Int)<1073741824))=true:=a2;simp only[Zl,decide_eq_true_eq] at b1 b2;constructor<;>(unfold Bd;omega)
end KM
namespace PySem
section
variable {prog:Program}{w:World}{A:Around}{E:Θ2}{s:Shared}{z TI TO i1 i2 l1 l2:Addr}{k1 k2:Nat}{xs ys:Array Value}{x y a b:Value}
end
end PySem
namespace L2
open PySem PySem.Spec PyProof.Rows
section
variable {X:Cx}
end
end L2
namespace KM
open PySem L2 KG EX
end KM
namespace MI
open PySem L2 KG EX KM
mutual
inductive cx (H:Hp):V->PyData->Prop
 |bO:cx H .bO .none
 |bl (c:Bool):cx H (.bl c) (.bool c)
 |int (i:Int):cx H (.int i) (.int i)
 |str (x:Str) (ok:(PyData.str x).canLay0=true):cx H (.str x) (.str x)
 |lst {a:Addr}{xs:List V}{ds:Ξ1}:H a=some (.lst xs)->aN H xs ds->cx H (.ref a) (.list ds)
 |tup {a:Addr}{xs:List V}{ds:Ξ1}:H a=some (.tup xs)->aN H xs ds->cx H (.ref a) (.tuple ds)
inductive aN (H:Hp):List V->Ξ1->Prop
 |nil:aN H [] []
 |cons {x:V}{xs:List V}{d:PyData}{ds:Ξ1}:cx H x d->aN H xs ds->aN H (x::xs) (d::ds)
end
mutual
theorem cx.ay {H H':Hp}(k:ai H H'):∀{v:V}{d:PyData},cx H v d->cx H' v d
 |_,_,.bO=>.bO
 |_,_,.bl c=>.bl c
 |_,_,.int i=>.int i
 |_,_,.str x o=>.str x o
 |_,_,.lst h t=>.lst (k _ _ h) (aN.ay k t)
 |_,_,.tup h t=>.tup (k _ _ h) (aN.ay k t)
theorem aN.ay {H H':Hp}(k:ai H H'):∀{vs:List V}{ds:Ξ1},aN H vs ds->aN H' vs ds
 |_,_,.nil=>.nil
 |_,_,.cons h t=>.cons (cx.ay k h) (aN.ay k t)
end
mutual
theorem cx.dt {K:Θ1}{H:Hp}:∀{v:V}{d:PyData},cx H v d->mW K H v d
 |_,_,.bO=>.bO
 |_,_,.bl c=>.bl c
 |_,_,.int i=>.int i
 |_,_,.str x o=>.str x o
 |_,_,.lst h t=>.lst (bA.of h) (aN.dt t)
 |_,_,.tup h t=>.tup (aG.of h) (aN.dt t)
theorem aN.dt {K:Θ1}{H:Hp}:∀{vs:List V}{ds:Ξ1},aN H vs ds->ft K H vs ds
 |_,_,.nil=>.nil
 |_,_,.cons h t=>.cons (cx.dt h) (aN.dt t)
end
theorem aN.len {H:Hp}:∀{vs:List V}{ds:Ξ1},aN H vs ds->vs.length=ds.length
 |_,_,.nil=>rfl
 |_,_,.cons _ t=>by simp[aN.len t]
theorem aN.app {H:Hp}:∀{vs ws:List V}{ds es:Ξ1},aN H vs ds->aN H ws es->aN H (vs++ws) (ds++es)
 |_,_,_,_,.nil,g=>g
 |_,_,_,_,.cons h t,g=>.cons h (aN.app t g)
theorem aN.take {H:Hp}:∀{vs:List V}{ds:Ξ1}(n:Nat),aN H vs ds->aN H (vs.take n) (ds.take n)
 |_,_,0,_=>by simpa using aN.nil
 |_,_,n+1,.nil=>by simpa using aN.nil
 |_,_,n+1,.cons h t=>.cons h (aN.take n t)
theorem aN.drop {H:Hp}:∀{vs:List V}{ds:Ξ1}(n:Nat),aN H vs ds->aN H (vs.drop n) (ds.drop n)
 |_,_,0,h=>h
 |_,_,n+1,.nil=>by simpa using aN.nil
 |_,_,n+1,.cons h t=>aN.drop n t
theorem aN.get {H:Hp}:∀{vs:List V}{ds:Ξ1}{i:Nat}{d:PyData},aN H vs ds->ds[i]?=some d->∃x,vs[i]?=some x/\cx H x d
 |_,_,0,_,.cons h t,e=>⟨_,rfl,by rw[<- Option.some.inj e];exact h⟩
 |_,_,i+1,x,.cons h t,e=>by
  obtain⟨d,h1,h2⟩:=aN.get (i:=i) (d:=x) t (by simpa using e);exact⟨d,by simpa using h1,h2⟩
mutual
def sZ:PyData->Bool
 |.list _=>false
 |.dict _=>false
 |.tuple ds=>mD ds
 |_=>true
def mD:Ξ1->Bool
 |[]=>true
 |d::ds=>sZ d&&mD ds
end
mutual
theorem xY {b:Addr}{H g:Hp}(k:∀a xs,H a=some (.tup xs)->g a=some (.tup xs)):∀{v:V}{d:PyData},sZ d=true->iP b H v d->cx g v d
 |_,_,_,.bO=>.bO
 |_,_,_,.bl c=>.bl c
 |_,_,_,.int i=>.int i
 |_,_,_,.str x o=>.str x o
 |_,_,n,.lst _ h t=>by cases n
 |_,_,n,.tup h t=>.tup (k _ _ h) (qr k n t)
theorem qr {b:Addr}{H g:Hp}(k:∀a xs,H a=some (.tup xs)->g a=some (.tup xs)):∀{vs:List V}{ds:Ξ1},mD ds=true->bW b H vs ds->aN g vs ds
 |_,_,_,.nil=>.nil
 |_,_,n,.cons h t=>by
  have n':=(Zl _ _).mp n;exact .cons (xY k n'.1 h) (qr k n'.2 t)
end
mutual
theorem cx.NQ {b:Addr}{H:Hp}:∀{v:V}{d:PyData},sZ d=true->cx H v d->iP b H v d
 |_,_,_,.bO=>.bO
 |_,_,_,.bl c=>.bl c
 |_,_,_,.int i=>.int i
 |_,_,_,.str x o=>.str x o
 |_,_,n,.lst h t=>by cases n
 |_,_,n,.tup h t=>.tup h (aN.NQ n t)
theorem aN.NQ {b:Addr}{H:Hp}:∀{vs:List V}{ds:Ξ1},mD ds=true->aN H vs ds->bW b H vs ds
 |_,_,_,.nil=>.nil
 |_,_,n,.cons h t=>by
  have n':=(Zl _ _).mp n;exact .cons (cx.NQ n'.1 h) (aN.NQ n'.2 t)
end
inductive AV where
 |im (d:PyData) |own (k:Nat) |bag (j:Nat) |qV (ns:Γ3)
abbrev aM:=List (Option (List AV))
abbrev iA:=List (Option AV)
structure Wd where
 d9:List Addr
 cF:List Addr
 cj:List (Addr×HO)
def ku (w:Wd)(O:aM)(a:Addr):Prop:=a∈w.d9\/(∃o,(a,o)∈w.cj)\/∃(k:Nat) (c:List AV),w.cF[k]?=some a/\O[k]?=some (some c)
open Classical in
def G (w:Wd)(O:aM)(H:Hp):Hp:=λa=>if ku w O a then none else H a
theorem iT {w:Wd}{O:aM}{H:Hp}{a:Addr}(h:¬ ku w O a):G w O H a=H a:=if_neg h
theorem gn {w:Wd}{O:aM}{H:Hp}{a:Addr}{o:HO}(h:G w O H a=some o):H a=some o/\¬ ku w O a:=by
 unfold G at h;split at h
 .cases h
 .exact⟨h,by assumption⟩
def jQ (K:Θ1)(w:Wd)(g:Hp)(v:V):AV->Prop
 |.im d=>cx g v d
 |.own k=>∃a,w.cF[k]?=some a/\v=.ref a
 |.bag j=>∃a,w.d9[j]?=some a/\v=.ref a
 |.qV ns=>∃a,v=.ref a/\bA K g a (ns.map V.int)
def aY (K:Θ1)(w:Wd)(g:Hp)(vs:List V)(xs:List AV):Prop:=vs.length=xs.length/\∀(i:Nat) v x,vs[i]?=some v->xs[i]?=some x->jQ K w g v x
structure aI (K:Θ1)(w:Wd)(O:aM)(H:Hp):Prop where
 len:w.cF.length=O.length
 nd:w.cF.Nodup
 al:∀a∈w.cF,∃o,H a=some o
 nb:∀a∈w.d9,a∉w.cF
 hn:(w.cj.map (·.1)).Nodup
 nh:∀p∈w.cj,p.1∉w.cF/\p.1∉w.d9/\H p.1=some p.2/\∀xs,p.2≠.tup xs
 bg:∀a∈w.d9,vy H a
 pJ:∀(k:Nat) c,O[k]?=some (some c)->∃a vs,w.cF[k]?=some a/\H a=some (.lst vs)/\aY K w (G w O H) vs c
structure md (w:Wd)(O:aM)(H:Hp)(w':Wd)(O':aM)(H':Hp):Prop where
 bs:∃t,w'.d9=w.d9++t
 cF:∃t,w'.cF=w.cF++t
 hs:∃t,w'.cj=t++w.cj
 ay:ai (G w O H) (G w' O' H')
structure cg (w:Wd)(O:aM)(H:Hp)(w':Wd)(O':aM)(H':Hp):Prop where
 ex:md w O H w' O' H'
 cj:w'.cj=w.cj
theorem md.refl (w:Wd)(O:aM)(H:Hp):md w O H w O H:=⟨⟨[],by simp⟩,⟨[],by simp⟩,⟨[],by simp⟩,ai.refl _⟩
theorem md.trans {w w1 w2:Wd}{O O1 O2:aM}{H H1 H2:Hp}(a:md w O H w1 O1 H1)(b:md w1 O1 H1 w2 O2 H2):md w O H w2 O2 H2:=by
 obtain⟨t,ht⟩:=a.cF;obtain⟨u,hu⟩:=b.cF;obtain⟨t',ht'⟩:=a.hs;obtain⟨u',hu'⟩:=b.hs;obtain⟨t2,TR⟩:=a.bs;obtain⟨u2,hu2⟩:=b.bs;exact⟨⟨t2++u2,by rw[hu2,TR,Xf]⟩,⟨t++u,by rw[hu,ht,Xf]⟩,⟨u'++t',by rw[hu',ht',Xf]⟩,a.ay.trans b.ay⟩
theorem cg.refl (w:Wd)(O:aM)(H:Hp):cg w O H w O H:=⟨md.refl _ _ _,rfl⟩
theorem cg.trans {w w1 w2:Wd}{O O1 O2:aM}{H H1 H2:Hp}(a:cg w O H w1 O1 H1)(b:cg w1 O1 H1 w2 O2 H2):cg w O H w2 O2 H2:=⟨a.ex.trans b.ex,b.cj.trans a.cj⟩
theorem md.at {w w1:Wd}{O O1:aM}{H H1:Hp}(e:md w O H w1 O1 H1){k:Nat}{a:Addr}(h:w.cF[k]?=some a):w1.cF[k]?=some a:=by
 obtain⟨t,ht⟩:=e.cF;rw[ht,Zr (Zd.mp h).1];exact h
theorem jQ.ex {K:Θ1}{w w1:Wd}{O O1:aM}{H H1:Hp}(e:md w O H w1 O1 H1){v:V}:∀{x:AV},jQ K w (G w O H) v x->jQ K w1 (G w1 O1 H1) v x
 |.im d,h=>by
  exact cx.ay e.ay h
 |.own k,h=>by
  obtain⟨a,h1,h2⟩:=h;exact⟨a,e.at h1,h2⟩
 |.bag j,h=>by
  obtain⟨a,h1,h2⟩:=h;obtain⟨t,ht⟩:=e.bs;exact⟨a,by rw[ht,Zr (Zd.mp h1).1];exact h1,h2⟩
 |.qV ns,h=>by
  obtain⟨a,h1,h2⟩:=h;exact⟨a,h1,KG.bA.ay h2 e.ay⟩
theorem aY.ex {K:Θ1}{w w1:Wd}{O O1:aM}{H H1:Hp}(e:md w O H w1 O1 H1){vs:List V}{xs:List AV}(h:aY K w (G w O H) vs xs):aY K w1 (G w1 O1 H1) vs xs:=⟨h.1,λi v x h1 h2=>(h.2 i v x h1 h2).ex e⟩
theorem aY.nil {K:Θ1}{w:Wd}{g:Hp}:aY K w g [] []:=⟨rfl,λi v x h=>by simp at h⟩
theorem aY.cons {K:Θ1}{w:Wd}{g:Hp}{v:V}{x:AV}{vs:List V}{xs:List AV}(h:jQ K w g v x)(hs:aY K w g vs xs):aY K w g (v::vs) (x::xs):=by
 refine⟨by simp[hs.1],λi u y h1 h2=>?_⟩;cases i with
 |zero=>simp at h1 h2;rw[<- h1,<- h2];exact h
 |succ i=>exact hs.2 i u y (by simpa using h1) (by simpa using h2)
theorem aY.aR {K:Θ1}{w:Wd}{g:Hp}{vs:List V}{x:AV}{xs:List AV}(h:aY K w g vs (x::xs)):∃v us,vs=v::us/\jQ K w g v x/\aY K w g us xs:=by
 cases vs with
 |nil=>exact absurd h.1 (by simp)
 |cons v us =>
  refine⟨v,us,rfl,h.2 0 v x rfl rfl,by have:=h.1;simp at this;exact this,λi u y h1 h2=>h.2 (i+1) u y (by simpa using h1) (by simpa using h2)⟩
theorem aY.b9 {K:Θ1}{w:Wd}{g:Hp}{vs:List V}(h:aY K w g vs []):vs=[]:=Qx.mp h.1
theorem aY.app {K:Θ1}{w:Wd}{g:Hp}{vs us:List V}{xs ys:List AV}(h:aY K w g vs xs)(h':aY K w g us ys):aY K w g (vs++us) (xs++ys):=by
 refine⟨by simp[h.1,h'.1],λi v x h1 h2=>?_⟩;rcases Zz i vs.length with y |y
 .rw[Zr y] at h1;rw[Zr (by rw[<- h.1];exact y)] at h2;exact h.2 i v x h1 h2
 .rw[Yt y] at h1;rw[Yt (by rw[<- h.1];exact y)] at h2;rw[<- h.1] at h2;exact h'.2 _ v x h1 h2
theorem aY.set {K:Θ1}{w:Wd}{g:Hp}{vs:List V}{xs:List AV}{v:V}{x:AV}(h:aY K w g vs xs)(hx:jQ K w g v x)(j:Nat):aY K w g (vs.set j v) (xs.set j x):=by
 refine⟨by simp[h.1],λi u y h1 h2=>?_⟩;by_cases e:j=i
 .subst e;have hl:=(Zd.mp h1).1;rw[Yl] at hl;rw[Yf hl] at h1;rw[Yf (by rw[<- h.1];exact hl)] at h2;rw[<- Option.some.inj h1,<- Option.some.inj h2];exact hx
 .rw[Zw e] at h1 h2;exact h.2 i u y h1 h2
theorem aY.at {K:Θ1}{w:Wd}{g:Hp}{vs:List V}{xs:List AV}{i:Nat}{x:AV}(h:aY K w g vs xs)(hx:xs[i]?=some x):∃v,vs[i]?=some v/\jQ K w g v x:=by
 have hl:=(Zd.mp hx).1;have hv:i<vs.length:=by rw[h.1];exact hl
 exact⟨vs[i],Zc hv,h.2 i _ x (Zc hv) hx⟩
theorem aN.U5 {K:Θ1}{w:Wd}{g:Hp}:∀{vs:List V}{ds:Ξ1},aN g vs ds->aY K w g vs (ds.map .im)
 |_,_,.nil=>aY.nil
 |_,_,.cons h t=>aY.cons h (aN.U5 t)
theorem aY.tr {K:Θ1}{w:Wd}{g:Hp}:∀{ds:Ξ1}{vs:List V},aY K w g vs (ds.map .im)->aN g vs ds
 |[],_,h=>by rw[aY.b9 h];exact .nil
 |d::ds,_,h=>by
  obtain⟨v,us,rfl,h1,h2⟩:=aY.aR h;exact .cons h1 (aY.tr h2)
def bX (K:Θ1)(w:Wd)(g:Hp)(σ:St)(sl:iA):Prop:=σ.length=sl.length/\∀(i:Nat) x,sl[i]?=some (some x)->∃v,σ[i]?=some (some v)/\jQ K w g v x
theorem bX.ex {K:Θ1}{w w1:Wd}{O O1:aM}{H H1:Hp}(e:md w O H w1 O1 H1){σ:St}{sl:iA}(h:bX K w (G w O H) σ sl):bX K w1 (G w1 O1 H1) σ sl :=
 ⟨h.1,λi x hx=>by obtain⟨v,h1,h2⟩:=h.2 i x hx;exact⟨v,h1,h2.ex e⟩⟩
theorem bX.set {K:Θ1}{w:Wd}{g:Hp}{σ:St}{sl:iA}(h:bX K w g σ sl){v:V}{x:AV}(hx:jQ K w g v x)(j:Nat):bX K w g (σ.set j (some v)) (sl.set j (some x)):=by
 refine⟨by simp[h.1],λi y h2=>?_⟩;by_cases e:j=i
 .subst e;have hl:=(Zd.mp h2).1;rw[Yl] at hl;rw[Yf hl] at h2;have hy:x=y:=by injection (Option.some.inj h2)
  exact⟨v,by rw[Yf (by rw[h.1];exact hl)],hy▸hx⟩
 .rw[Zw e] at h2;rw[Zw e];exact h.2 i y h2
theorem bX.forget {K:Θ1}{w:Wd}{g:Hp}{σ:St}{sl:iA}(h:bX K w g σ sl){o:Option V}(j:Nat):bX K w g (σ.set j o) (sl.set j none):=by
 refine⟨by simp[h.1],λi y h2=>?_⟩;by_cases e:j=i
 .subst e;have hl:=(Zd.mp h2).1;rw[Yl] at hl;rw[Yf hl] at h2;cases Option.some.inj h2
 .rw[Zw e] at h2;rw[Zw e];exact h.2 i y h2
def fj (own:Nat)(ix:List Nat)(sl:iA):iA:=List.replicate own none++ix.map λi=>(sl[i]?).getD none
theorem bX.U' {K:Θ1}{w:Wd}{g:Hp}{σ:St}{sl:iA}(h:bX K w g σ sl)(own:Nat)(ix:List Nat):bX K w g (eF own ix σ) (fj own ix sl):=by
 refine⟨by simp[eF,fj],λi x hx=>?_⟩;unfold fj at hx;unfold eF;rcases Zz i own with y |y
 .rw[Zr (by simpa using y)] at hx;rw[Qi,if_pos y] at hx;cases Option.some.inj hx
 .rw[Yt (by simpa using y)] at hx ⊢;rw[Qo,Zg] at hx ⊢;cases hj:ix[i-own]? with
  |none=>rw[hj] at hx;cases hx
  |some j =>
   rw[hj] at hx;have EK:(sl[j]?).getD none=some x:=Option.some.inj hx;have:sl[j]?=some (some x):=by
    cases hs:sl[j]? with
    |none=>rw[hs] at EK;cases EK
    |some o=>rw[hs] at EK;exact congrArg some EK
   obtain⟨v,h1,h2⟩:=h.2 j x this;refine⟨v,?_,h2⟩;show some ((σ[j]?).getD none)=_;rw[h1];rfl
def Zx (K:Θ1)(QX:Addr->aM->Prop)(E:XK)(w:Wd)(O:aM)(H:Hp):Prop:=∀c O' w' H',QX c O'->md w O H w' O' H'->aI K w' O' H'->E (.ref c) none H'
structure mX (K:Θ1)(QX:Addr->aM->Prop)(E:XK)(w:Wd)(O:aM)(H:Hp)(σ:St)(sl:iA):Prop where
 ro:aI K w O H
 so:bX K w (G w O H) σ sl
 zx:Zx K QX E w O H
theorem mX.ex {K:Θ1}{QX:Addr->aM->Prop}{E:XK}{w w1:Wd}{O O1:aM}{H H1:Hp}{σ:St}{sl:iA}(c:mX K QX E w O H σ sl)(e:md w O H w1 O1 H1)(r:aI K w1 O1 H1):mX K QX E w1 O1 H1 σ sl :=
 ⟨r,c.so.ex e,λk O' w' H' q e' r'=>c.zx k O' w' H' q (e.trans e') r'⟩
abbrev ME:=iA->aM->(AV->aM->Prop)->Prop
abbrev MT:=iA->aM->(Bool->aM->Prop)->Prop
abbrev MA:=iA->aM->(List AV->aM->Prop)->Prop
structure xT where
 nx:iA->aM->Prop
 rt:AV->aM->Prop
 bk:iA->aM->Prop:=λ_ _=>False
 ct:iA->aM->Prop:=λ_ _=>False
abbrev MS:=xT->iA->aM->Prop
section
variable (K:Θ1)(QX:Addr->aM->Prop)(E:XK)
def bJ (M:ME):TE:=λσ H Q=>∃w O sl Q0,mX K QX E w O H σ sl/\M sl O Q0/\∀x O' v w' H',Q0 x O'->cg w O H w' O' H'->aI K w' O' H'->jQ K w' (G w' O' H') v x->Q v H'
def lj (M:MT):TT:=λσ H Q=>∃w O sl Q0,mX K QX E w O H σ sl/\M sl O Q0/\∀c O' w' H',Q0 c O'->cg w O H w' O' H'->aI K w' O' H'->Q c H'
def mL (M:MA):TA:=λσ H Q=>∃w O sl Q0,mX K QX E w O H σ sl/\M sl O Q0/\∀xs O' vs w' H',Q0 xs O'->cg w O H w' O' H'->aI K w' O' H'->aY K w' (G w' O' H') vs xs->Q vs H'
def kh (M:MS):TS:=λD σ H=>∃w O sl D0,mX K QX E w O H σ sl/\M D0 sl O /\
 (∀gE O' w' H' aC,D0.nx gE O'->mX K QX E w' O' H' aC gE->cg w O H w' O' H'->D.nx aC H') /\
 (∀gE O' w' H' aC,D0.bk gE O'->mX K QX E w' O' H' aC gE->cg w O H w' O' H'->D.bk aC H') /\
 (∀gE O' w' H' aC,D0.ct gE O'->mX K QX E w' O' H' aC gE->cg w O H w' O' H'->D.ct aC H') /\
 (∀x O' w' H' v,D0.rt x O'->cg w O H w' O' H'->aI K w' O' H'->jQ K w' (G w' O' H') v x->D.rt v H')
end
section
variable {K:Θ1}{w:Wd}{O:aM}{H H':Hp}
theorem aI.all (r:aI K w O H){a:Addr}(h:ku w O a):∃o,H a=some o:=by
 rcases h with h1 |⟨o,h1⟩ |⟨k,c,h1,h2⟩
 .obtain⟨c,d,e⟩:=r.bg _ h1;exact⟨_,e⟩
 .exact⟨_,(r.nh _ h1).2.2.1⟩
 .obtain⟨a',vs,e1,e2,_⟩:=r.pJ k c h2;rw[h1] at e1;cases Option.some.inj e1;exact⟨_,e2⟩
theorem aI.fresh (r:aI K w O H){a:Addr}(h:H a=none):¬ ku w O a:=λz=>by obtain⟨o,e⟩:=r.all z;rw[h] at e;cases e
theorem aI.ay (r:aI K w O H)(s:ai H H'):aI K w O H'/\cg w O H w O H'/\∀a o,H a=none->H' a=some o->G w O H' a=some o:=by
 have sg:ai (G w O H) (G w O H'):=λa o h=>by
  obtain⟨h1,h2⟩:=gn h;rw[iT h2];exact s _ _ h1
 have e:cg w O H w O H':=⟨⟨⟨[],by simp⟩,⟨[],by simp⟩,⟨[],by simp⟩,sg⟩,rfl⟩;refine⟨⟨r.len,r.nd,λa ha=>(let ⟨o,h⟩:=r.al a ha;⟨o,s _ _ h⟩),r.nb,r.hn,λp hp=>⟨(r.nh p hp).1,(r.nh p hp).2.1,s _ _ (r.nh p hp).2.2.1,(r.nh p hp).2.2.2⟩,λa ha=>vy.ay (r.bg a ha) s,λk c hk=>?_⟩,e,λa o h1 h2=>?_⟩
 .obtain⟨a,vs,h1,h2,h3⟩:=r.pJ k c hk;exact⟨a,vs,h1,s _ _ h2,h3.ex e.ex⟩
 .rw[iT (r.fresh h1)];exact h2
theorem aI.draw (r:aI K w O H){b:Addr}(hb:b∈w.d9)(k:Kp b H H')(hB:vy H' b):aI K w O H'/\cg w O H w O H'/\∀a o,H a=none->H' a=some o->G w O H' a=some o:=by
 have sg:ai (G w O H) (G w O H'):=λa o h=>by
  obtain⟨h1,h2⟩:=gn h;rw[iT h2];exact k _ _ (λz=>h2 (Or.inl (z▸hb))) h1
 have e:cg w O H w O H':=⟨⟨⟨[],by simp⟩,⟨[],by simp⟩,⟨[],by simp⟩,sg⟩,rfl⟩;refine⟨⟨r.len,r.nd,λa ha=>(let ⟨o,h⟩:=r.al a ha;⟨o,k _ _ (λz=>r.nb b hb (z▸ha)) h⟩),r.nb,r.hn,λp hp=>⟨(r.nh p hp).1,(r.nh p hp).2.1,k _ _ (λz=>(r.nh p hp).2.1 (z▸hb)) (r.nh p hp).2.2.1,(r.nh p hp).2.2.2⟩,λa ha=>?_,λj c hk=>?_⟩,e,λa o h1 h2=>?_⟩
 .by_cases z:a=b
  .rw[z];exact hB
  .obtain⟨x,y,q⟩:=r.bg a ha;exact⟨x,y,k _ _ z q⟩
 .obtain⟨a,vs,h1,h2,h3⟩:=r.pJ j c hk;exact⟨a,vs,h1,k _ _ (λz=>r.nb b hb (z▸Yc h1)) h2,h3.ex e.ex⟩
 .rw[iT (r.fresh h1)];exact h2
theorem aI.bag (r:aI K w O H){p:Addr}{x y:Int}(hp:H p=none):aI K { w with d9:=w.d9++[p] } O (aK H p (.lst [.int x,.int y]))/\cg w O H { w with d9:=w.d9++[p] } O (aK H p (.lst [.int x,.int y])):=by
 have nQ:∀a,ku { w with d9:=w.d9++[p] } O a->ku w O a\/a=p:=λa h=>by
  rcases h with h |h
  .rcases Zp.mp h with h |h
   .exact .inl (.inl h)
   .exact .inr (Yi.mp h)
  .exact .inl (.inr h)
 have sg:ai (G w O H) (G { w with d9:=w.d9++[p] } O (aK H p (.lst [.int x,.int y]))):=λa o h=>by
  obtain⟨h1,h2⟩:=gn h;have cX:a≠p:=λz=>by rw[z,hp] at h1;cases h1
  rw[iT (λz=>(nQ a z).elim h2 cX),dh cX];exact h1
 have e:cg w O H { w with d9:=w.d9++[p] } O (aK H p (.lst [.int x,.int y])):=⟨⟨⟨[p],rfl⟩,⟨[],by simp⟩,⟨[],by simp⟩,sg⟩,rfl⟩;have N8:p∉w.cF:=λz=>by obtain⟨u,h⟩:=r.al p z;rw[hp] at h;cases h
 refine⟨⟨r.len,r.nd,λa ha=>?_,λa ha=>?_,r.hn,λq hq=>?_,λa ha=>?_,λk c hk=>?_⟩,e⟩
 .obtain⟨u,h⟩:=r.al a ha;have cX:a≠p:=λz=>N8 (z▸ha)
  exact⟨u,by rw[dh cX];exact h⟩
 .rcases Zp.mp ha with h |h
  .exact r.nb a h
  .rw[Yi.mp h];exact N8
 .obtain⟨h1,h2,h3,h4⟩:=r.nh q hq;have cX:q.1≠p:=λz=>by rw[z,hp] at h3;cases h3
  refine⟨h1,λz=>?_,by rw[dh cX];exact h3,h4⟩;rcases Zp.mp z with h |h
  .exact h2 h
  .exact cX (Yi.mp h)
 .rcases Zp.mp ha with h |h
  .exact(r.bg a h).new hp
  .rw[Yi.mp h];exact⟨x,y,cL⟩
 .obtain⟨a',vs,h1,h2,h3⟩:=r.pJ k c hk;have cX:a'≠p:=λz=>by rw[z,hp] at h2;cases h2
  exact⟨a',vs,h1,by rw[dh cX];exact h2,h3.ex e.ex⟩
theorem aI.new (r:aI K w O H){p:Addr}{o:HO}(hp:H p=none):aI K w O (aK H p o)/\cg w O H w O (aK H p o)/\G w O (aK H p o) p=some o:=by
 obtain⟨h1,h2,h3⟩:=r.ay ((ai.refl H).new (o:=o) hp);exact⟨h1,h2,h3 p o hp cL⟩
theorem ku.set {k:Nat}{c c':List AV}{a:Addr}(hk:O[k]?=some (some c)):ku w (O.set k (some c')) a↔ku w O a:=by
 have hl:=(Zd.mp hk).1;unfold ku;constructor
 .rintro(h |h |⟨j,d,h1,h2⟩)
  .exact .inl h
  .exact .inr (.inl h)
  .by_cases e:k=j
   .subst e;exact .inr (.inr ⟨k,c,h1,hk⟩)
   .rw[Zw e] at h2;exact .inr (.inr ⟨j,d,h1,h2⟩)
 .rintro(h |h |⟨j,d,h1,h2⟩)
  .exact .inl h
  .exact .inr (.inl h)
  .by_cases e:k=j
   .subst e;exact .inr (.inr ⟨k,c',h1,Yf hl⟩)
   .exact .inr (.inr ⟨j,d,h1,by rw[Zw e];exact h2⟩)
theorem aI.put (r:aI K w O H){k:Nat}{c c':List AV}{a:Addr}{vs Nk:List V}(hk:O[k]?=some (some c))(ha:w.cF[k]?=some a)(hv:H a=some (.lst vs))(hc:aY K w (G w O H) Nk c') :
  aI K w (O.set k (some c')) (aK H a (.lst Nk))/\cg w O H w (O.set k (some c')) (aK H a (.lst Nk)):=by
 have hl:=(Zd.mp hk).1;have XE:ku w O a:=.inr (.inr ⟨k,c,ha,hk⟩);have sg:ai (G w O H) (G w (O.set k (some c')) (aK H a (.lst Nk))):=λx o h=>by
  obtain⟨h1,h2⟩:=gn h;have cX:x≠a:=λz=>h2 (z▸XE)
  rw[iT (λz=>h2 ((ku.set hk).mp z)),dh cX];exact h1
 have e:cg w O H w (O.set k (some c')) (aK H a (.lst Nk)):=⟨⟨⟨[],by simp⟩,⟨[],by simp⟩,⟨[],by simp⟩,sg⟩,rfl⟩;refine⟨⟨by rw[Yl];exact r.len,r.nd,λx hx=>?_,r.nb,r.hn,λp hp=>?_,λb hb=>?_,λj d hj=>?_⟩,e⟩
 .obtain⟨o,h⟩:=r.al x hx;by_cases z:x=a
  .subst z;exact⟨_,cL⟩
  .exact⟨o,by rw[dh z];exact h⟩
 .obtain⟨h1,h2,h3,h4⟩:=r.nh p hp;have cX:p.1≠a:=λz=>h1 (z▸Yc ha)
  exact⟨h1,h2,by rw[dh cX];exact h3,h4⟩
 .exact(r.bg b hb).acc (λz=>r.nb b hb (z▸Yc ha))
 .by_cases ej:k=j
  .subst ej;rw[Yf hl] at hj;have hd:c'=d:=by injection (Option.some.inj hj)
   subst hd;exact⟨a,Nk,ha,cL,hc.ex e.ex⟩
  .rw[Zw ej] at hj;obtain⟨a',us,h1,h2,h3⟩:=r.pJ j d hj;have cX:a'≠a:=λz=>by
    subst z;exact ej ((List.getElem?_inj (Zd.mp ha).1 r.nd).mp (ha.trans h1.symm))
   exact⟨a',us,h1,by rw[dh cX];exact h2,h3.ex e.ex⟩
theorem aI.own (r:aI K w O H){p:Addr}{c:List AV}{vs:List V}(hp:H p=none)(hc:aY K w (G w O H) vs c) :
  aI K { w with cF:=w.cF++[p] } (O++[some c]) (aK H p (.lst vs))/\cg w O H { w with cF:=w.cF++[p] } (O++[some c]) (aK H p (.lst vs))/\({ w with cF:=w.cF++[p] }:Wd).cF[O.length]?=some p:=by
 have nQ:∀x,ku { w with cF:=w.cF++[p] } (O++[some c]) x->ku w O x\/x=p:=λx h=>by
  rcases h with h |h |⟨j,d,h1,h2⟩
  .exact .inl (.inl h)
  .exact .inl (.inr (.inl h))
  .change (w.cF++[p])[j]?=some x at h1
   rcases Zz j O.length with y |y
   .rw[Zr y] at h2;rw[Zr (by rw[r.len];exact y)] at h1;exact .inl (.inr (.inr ⟨j,d,h1,h2⟩))
   .have hj:=(Zd.mp h1).1;rw[Zn,r.len] at hj;have:j=O.length:=by simp at hj;omega
    subst this;rw[Yt (by rw[r.len];exact Ze _),r.len,Nat.sub_self] at h1;exact .inr (by simpa using h1.symm)
 have sg:ai (G w O H) (G { w with cF:=w.cF++[p] } (O++[some c]) (aK H p (.lst vs))):=λx o h=>by
  obtain⟨h1,h2⟩:=gn h;have cX:x≠p:=λz=>by rw[z,hp] at h1;cases h1
  rw[iT (λz=>(nQ x z).elim h2 cX),dh cX];exact h1
 have e:cg w O H { w with cF:=w.cF++[p] } (O++[some c]) (aK H p (.lst vs)):=⟨⟨⟨[],by simp⟩,⟨[p],rfl⟩,⟨[],by simp⟩,sg⟩,rfl⟩;have zb:(w.cF++[p])[O.length]?=some p:=by rw[<- r.len];simp
 have yY:p∉w.cF:=λz=>by obtain⟨o,h⟩:=r.al p z;rw[hp] at h;cases h
 refine⟨⟨by simp[r.len],?_,λx hx=>?_,λb hb=>?_,r.hn,λq hq=>?_,λb hb=>(r.bg b hb).new hp,λj d hj=>?_⟩,e,zb⟩
 .show(w.cF++[p]).Nodup;rw[Yy];exact⟨r.nd,by simp,λa ha b xt e=>by rw[Yi] at xt;rw[e,xt] at ha;exact yY ha⟩
 .rcases Zp.mp hx with y |y
  .obtain⟨o,h⟩:=r.al x y;have cX:x≠p:=λz=>by rw[z,hp] at h;cases h
   exact⟨o,by rw[dh cX];exact h⟩
  .rw[Yi.mp y];exact⟨_,cL⟩
 .intro z;rcases Zp.mp z with y |y
  .exact r.nb b hb y
  .exact(r.bg b hb).ne hp (Yi.mp y)
 .obtain⟨h1,h2,h3,h4⟩:=r.nh q hq;have cX:q.1≠p:=λz=>by rw[z,hp] at h3;cases h3
  refine⟨λz=>?_,h2,by rw[dh cX];exact h3,h4⟩;rcases Zp.mp z with y |y
  .exact h1 y
  .exact cX (Yi.mp y)
 .rcases Zz j O.length with y |y
  .rw[Zr y] at hj;obtain⟨a',us,h1,h2,h3⟩:=r.pJ j d hj;have cX:a'≠p:=λz=>by rw[z,hp] at h2;cases h2
   exact⟨a',us,e.ex.at h1,by rw[dh cX];exact h2,h3.ex e.ex⟩
  .have pE:=(Zd.mp hj).1;rw[Zn] at pE;have:j=O.length:=by simp at pE;omega
   subst this;rw[Yt (Ze _),Nat.sub_self] at hj;have hd:c=d:=by injection (Option.some.inj hj)
   subst hd;exact⟨p,vs,zb,cL,hc.ex e.ex⟩
theorem aI.hide (r:aI K w O H){a:Addr}{o:HO}(ha:H a=none)(ho:∀xs,o≠.tup xs):aI K { w with cj:=(a,o)::w.cj } O (aK H a o)/\md w O H { w with cj:=(a,o)::w.cj } O (aK H a o):=by
 have nQ:∀x,ku { w with cj:=(a,o)::w.cj } O x->ku w O x\/x=a:=λx h=>by
  rcases h with h |⟨u,h⟩ |h
  .exact .inl (.inl h)
  .rcases Zf.mp h with e |e
   .exact .inr (by injection e)
   .exact .inl (.inr (.inl ⟨u,e⟩))
  .exact .inl (.inr (.inr h))
 have sg:ai (G w O H) (G { w with cj:=(a,o)::w.cj } O (aK H a o)):=λx u h=>by
  obtain⟨h1,h2⟩:=gn h;have cX:x≠a:=λz=>by rw[z,ha] at h1;cases h1
  rw[iT (λz=>(nQ x z).elim h2 cX),dh cX];exact h1
 have e:md w O H { w with cj:=(a,o)::w.cj } O (aK H a o):=⟨⟨[],by simp⟩,⟨[],by simp⟩,⟨[(a,o)],rfl⟩,sg⟩;have N8:a∉w.cF:=λz=>by obtain⟨u,h⟩:=r.al a z;rw[ha] at h;cases h
 refine⟨⟨r.len,r.nd,λx hx=>?_,r.nb,?_,λp hp=>?_,λb hb=>(r.bg b hb).new ha,λk c hk=>?_⟩,e⟩
 .obtain⟨u,h⟩:=r.al x hx;have cX:x≠a:=λz=>N8 (z▸hx)
  exact⟨u,by rw[dh cX];exact h⟩
 .show(a::w.cj.map (·.1)).Nodup;rw[Yh];refine⟨λz=>?_,r.hn⟩;obtain⟨p,hp,e⟩:=Zh.mp z;have:=(r.nh p hp).2.2.1;rw[e,ha] at this;cases this
 .rcases Zf.mp hp with e |e
  .subst e;exact⟨N8,λhb=>(r.bg a hb).ne ha rfl,cL,ho⟩
  .obtain⟨h1,h2,h3,h4⟩:=r.nh p e;have cX:p.1≠a:=λz=>by rw[z,ha] at h3;cases h3
   exact⟨h1,h2,by rw[dh cX];exact h3,h4⟩
 .obtain⟨a',vs,h1,h2,h3⟩:=r.pJ k c hk;have cX:a'≠a:=λz=>by rw[z,ha] at h2;cases h2
  exact⟨a',vs,h1,by rw[dh cX];exact h2,h3.ex e⟩
theorem ku.eq {a:Addr}{o o':HO}{h0:List (Addr×HO)}(hh:w.cj=(a,o)::h0){x:Addr}:ku { w with cj:=(a,o')::h0 } O x↔ku w O x:=by
 unfold ku;rw[hh];constructor
 .rintro(h |⟨u,h⟩ |h)
  .exact .inl h
  .rcases Zf.mp h with e |e
   .have ea:x=a:=by injection e
    subst ea;exact .inr (.inl ⟨o,Zo⟩)
   .exact .inr (.inl ⟨u,Zk _ e⟩)
  .exact .inr (.inr h)
 .rintro(h |⟨u,h⟩ |h)
  .exact .inl h
  .rcases Zf.mp h with e |e
   .have ea:x=a:=by injection e
    subst ea;exact .inr (.inl ⟨o',Zo⟩)
   .exact .inr (.inl ⟨u,Zk _ e⟩)
  .exact .inr (.inr h)
theorem aI.Cv (r:aI K w O H){a:Addr}{o o':HO}{h0:List (Addr×HO)}(hh:w.cj=(a,o)::h0)(ho:∀xs,o'≠.tup xs):aI K { w with cj:=(a,o')::h0 } O (aK H a o')/\ai (G w O H) (G { w with cj:=(a,o')::h0 } O (aK H a o')):=by
 obtain⟨n1,n2,n3,n4⟩:=r.nh (a,o) (by rw[hh];exact Zo);have yY:=r.hn;rw[hh,Yj,Yh] at yY;have sg:ai (G w O H) (G { w with cj:=(a,o')::h0 } O (aK H a o')):=λx u h=>by
  obtain⟨h1,h2⟩:=gn h;have cX:x≠a:=λz=>h2 (.inr (.inl ⟨o,by rw[hh,z];exact Zo⟩))
  rw[iT (λz=>h2 ((ku.eq hh).mp z)),dh cX];exact h1
 refine⟨⟨r.len,r.nd,λx hx=>?_,r.nb,?_,λp hp=>?_,λb hb=>(r.bg b hb).acc (λz=>n2 (z▸hb)),λk c hk=>?_⟩,sg⟩
 .obtain⟨u,h⟩:=r.al x hx;have cX:x≠a:=λz=>n1 (z▸hx)
  exact⟨u,by rw[dh cX];exact h⟩
 .show(a::h0.map (·.1)).Nodup;rw[Yh];exact yY
 .rcases Zf.mp hp with e |e
  .subst e;exact⟨n1,n2,cL,ho⟩
  .obtain⟨h1,h2,h3,h4⟩:=r.nh p (by rw[hh];exact Zk _ e);have cX:p.1≠a:=λz=>yY.1 (Zh.mpr ⟨p,e,z⟩)
   exact⟨h1,h2,by rw[dh cX];exact h3,h4⟩
 .obtain⟨a',vs,h1,h2,h3⟩:=r.pJ k c hk;have cX:a'≠a:=λz=>n1 (z▸Yc h1)
  refine⟨a',vs,h1,by rw[dh cX];exact h2,h3.1,λi v x e1 e2=>?_⟩;have:=h3.2 i v x e1 e2;cases x with
  |im d=>exact cx.ay sg this
  |own j=>exact this
  |bag j=>exact this
  |qV ns=>obtain⟨p,q1,q2⟩:=this;exact⟨p,q1,KG.bA.ay q2 sg⟩
theorem jQ.me {w w':Wd}{g g':Hp}(hb:w'.d9=w.d9)(ha:w'.cF=w.cF)(s:ai g g'){v:V}:∀{x:AV},jQ K w g v x->jQ K w' g' v x
 |.im d,h=>cx.ay s h
 |.own k,h=>by obtain⟨a,h1,h2⟩:=h;exact⟨a,by rw[ha];exact h1,h2⟩
 |.bag j,h=>by obtain⟨a,h1,h2⟩:=h;exact⟨a,by rw[hb];exact h1,h2⟩
 |.qV ns,h=>by obtain⟨p,q1,q2⟩:=h;exact⟨p,q1,KG.bA.ay q2 s⟩
theorem aI.rD (r:aI K w O H){a:Addr}{o:HO}{h0:List (Addr×HO)}(hh:w.cj=(a,o)::h0):aI K { w with cj:=h0 } O H/\ai (G w O H) (G { w with cj:=h0 } O H)/\G { w with cj:=h0 } O H a=some o:=by
 obtain⟨n1,n2,n3,n4⟩:=r.nh (a,o) (by rw[hh];exact Zo);have yY:=r.hn;rw[hh,Yj,Yh] at yY;have nQ:∀x,ku { w with cj:=h0 } O x->ku w O x:=λx h=>by
  rcases h with h |⟨u,h⟩ |h
  .exact .inl h
  .exact .inr (.inl ⟨u,by rw[hh];exact Zk _ h⟩)
  .exact .inr (.inr h)
 have sg:ai (G w O H) (G { w with cj:=h0 } O H):=λx u h=>by
  obtain⟨h1,h2⟩:=gn h;rw[iT (λz=>h2 (nQ x z))];exact h1
 refine⟨⟨r.len,r.nd,r.al,r.nb,yY.2,λp hp=>r.nh p (by rw[hh];exact Zk _ hp),r.bg,λk c hk=>?_⟩,sg,?_⟩
 .obtain⟨a',vs,h1,h2,h3⟩:=r.pJ k c hk;exact⟨a',vs,h1,h2,h3.1,λi v x e1 e2=>jQ.me rfl rfl sg (h3.2 i v x e1 e2)⟩
 .rw[iT]
  .exact n3
  .rintro(h1 |⟨u,h⟩ |⟨j,d,h1,h2⟩)
   .exact n2 h1
   .exact yY.1 (Zh.mpr ⟨_,h,rfl⟩)
   .exact n1 (Yc h1)
theorem aI.FY (r:aI K w O H){a:Addr}{ys:List V}{c:List AV}{h0:List (Addr×HO)}(hh:w.cj=(a,.lst ys)::h0)(hc:aY K w (G w O H) ys c) :
  aI K { w with cj:=h0,cF:=w.cF++[a] } (O++[some c]) H/\ai (G w O H) (G { w with cj:=h0,cF:=w.cF++[a] } (O++[some c]) H)/\(w.cF++[a])[O.length]?=some a:=by
 obtain⟨n1,n2,n3,n4⟩:=r.nh (a,.lst ys) (by rw[hh];exact Zo);have yY:=r.hn;rw[hh,Yj,Yh] at yY;have nQ:∀x,ku { w with cj:=h0,cF:=w.cF++[a] } (O++[some c]) x->ku w O x:=λx h=>by
  rcases h with h |⟨u,h⟩ |⟨j,d,h1,h2⟩
  .exact .inl h
  .exact .inr (.inl ⟨u,by rw[hh];exact Zk _ h⟩)
  .change (w.cF++[a])[j]?=some x at h1
   rcases Zz j O.length with y |y
   .rw[Zr y] at h2;rw[Zr (by rw[r.len];exact y)] at h1;exact .inr (.inr ⟨j,d,h1,h2⟩)
   .have hj:=(Zd.mp h1).1;rw[Zn,r.len] at hj;have:j=O.length:=by simp at hj;omega
    subst this;rw[Yt (by rw[r.len];exact Ze _),r.len,Nat.sub_self] at h1;have ex:x=a:=by simpa using h1.symm
    exact .inr (.inl ⟨_,by rw[hh,ex];exact Zo⟩)
 have sg:ai (G w O H) (G { w with cj:=h0,cF:=w.cF++[a] } (O++[some c]) H):=λx u h=>by
  obtain⟨h1,h2⟩:=gn h;rw[iT (λz=>h2 (nQ x z))];exact h1
 have zb:(w.cF++[a])[O.length]?=some a:=by rw[<- r.len];simp
 have av:∀{vs:List V}{xs:List AV},aY K w (G w O H) vs xs->aY K { w with cj:=h0,cF:=w.cF++[a] } (G { w with cj:=h0,cF:=w.cF++[a] } (O++[some c]) H) vs xs:=λh=>⟨h.1,λi v x e1 e2=>by
  have:=h.2 i v x e1 e2;cases x with
  |im d=>exact cx.ay sg this
  |own j=>obtain⟨p,q1,q2⟩:=this;exact⟨p,by show(w.cF++[a])[j]?=_;rw[Zr (Zd.mp q1).1];exact q1,q2⟩
  |bag j=>exact this
  |qV ns=>obtain⟨p,q1,q2⟩:=this;exact⟨p,q1,KG.bA.ay q2 sg⟩⟩
 refine⟨⟨by simp[r.len],?_,λx hx=>?_,λb hb z=>?_,yY.2,λp hp=>?_,r.bg,λk d hk=>?_⟩,sg,zb⟩
 .show(w.cF++[a]).Nodup;rw[Yy];exact⟨r.nd,by simp,λx hx b xt e=>by rw[Yi] at xt;rw[e,xt] at hx;exact n1 hx⟩
 .rcases Zp.mp hx with y |y
  .exact r.al x y
  .rw[Yi.mp y];exact⟨_,n3⟩
 .rcases Zp.mp z with y |y
  .exact r.nb b hb y
  .exact n2 (Yi.mp y▸hb)
 .obtain⟨h1,h2,h3,h4⟩:=r.nh p (by rw[hh];exact Zk _ hp);refine⟨λz=>?_,h2,h3,h4⟩;rcases Zp.mp z with y |y
  .exact h1 y
  .exact yY.1 (Zh.mpr ⟨p,hp,Yi.mp y⟩)
 .rcases Zz k O.length with y |y
  .rw[Zr y] at hk;obtain⟨a',vs,h1,h2,h3⟩:=r.pJ k d hk;exact⟨a',vs,by show(w.cF++[a])[k]?=_;rw[Zr (Zd.mp h1).1];exact h1,h2,av h3⟩
  .have pE:=(Zd.mp hk).1;rw[Zn] at pE;have:k=O.length:=by simp at pE;omega
   subst this;rw[Yt (Ze _),Nat.sub_self] at hk;have hd:c=d:=by injection (Option.some.inj hk)
   subst hd;exact⟨a,ys,zb,n3,av hc⟩
theorem aI.jY (r:aI K w O H):∀a xs,H a=some (.tup xs)->G w O H a=some (.tup xs):=by
 intro a xs h;rw[iT]
 .exact h
 .rintro(h1 |⟨o,h1⟩ |⟨j,d,h1,h2⟩)
  .obtain⟨c,d,e⟩:=r.bg _ h1;rw[h] at e;cases e
  .obtain⟨_,_,h3,h4⟩:=r.nh _ h1;rw[h] at h3;exact h4 xs (Option.some.inj h3).symm
  .obtain⟨a',vs,e1,e2,_⟩:=r.pJ j d h2;rw[h1] at e1;cases Option.some.inj e1;rw[h] at e2;cases e2
end
section
variable {K:Θ1}{QX:Addr->aM->Prop}{E:XK}{X:Cx}{w:Wd}{O:aM}{H:Hp}
theorem PE.imp {e:Expr}{t t':TE}(h:PE X e t)(i:∀σ H Q,t' σ H Q->t σ H Q):PE X e t':=λaa s σ H Q I q=>h aa s σ H Q I (i σ H Q q)
theorem PT.imp {e:Expr}{t t':TT}(h:PT X e t)(i:∀σ H Q,t' σ H Q->t σ H Q):PT X e t':=λaa s σ H Q I q=>h aa s σ H Q I (i σ H Q q)
theorem PW.imp {e:Expr}{t t':TT}(h:PW X e t)(i:∀σ H Q,t' σ H Q->t σ H Q):PW X e t':=λwh aa s σ H Q I q=>h wh aa s σ H Q I (i σ H Q q)
theorem PA.imp {es:Ξ2}{t t':TA}(h:PA X es t)(i:∀σ H Q,t' σ H Q->t σ H Q):PA X es t':=λp aa s σ H Q I q=>h p aa s σ H Q I (i σ H Q q)
theorem PS.imp {st:Stmt}{t t':TS}(h:PS X st t)(i:∀D σ H,t' D σ H->t D σ H):PS X st t':=λaa s σ H D I q=>h aa s σ H D I (i D σ H q)
theorem iH.imp {st:List Stmt}{t t':TS}(h:iH X st t)(i:∀D σ H,t' D σ H->t D σ H):iH X st t':=λaa s σ H D I q=>h aa s σ H D I (i D σ H q)
theorem du {v:V}{ds:Ξ1}(h:cx (G w O H) v (.tuple ds)):∃a xs,v=.ref a/\H a=some (.tup xs)/\aN (G w O H) xs ds:=by
 cases h with |tup h1 h2=>exact⟨_,_,rfl,(gn h1).1,h2⟩
theorem gP {v:V}{ds:Ξ1}(h:cx (G w O H) v (.list ds)):∃a xs,v=.ref a/\H a=some (.lst xs)/\aN (G w O H) xs ds:=by
 cases h with |lst h1 h2=>exact⟨_,_,rfl,(gn h1).1,h2⟩
theorem ll {g:Hp}{v:V}{i:Int}(h:cx g v (.int i)):v=.int i:=by cases h;rfl
theorem tV {g:Hp}{v:V}{i:Bool}(h:cx g v (.bool i)):v=.bl i:=by cases h;rfl
theorem IX {g:Hp}{v:V}(h:cx g v .none):v=.bO:=by cases h;rfl
theorem j5 {g:Hp}:∀{ns:Γ3}{vs:List V},aN g vs (ns.map .int)->vs=ns.map V.int
 |[],_,h=>by cases h;rfl
 |n::ns,_,h=>by
  cases h with |cons h1 h2=>rw[ll h1,j5 h2];rfl
theorem B9 {g:Hp}:∀{ns:List Bool}{vs:List V},aN g vs (ns.map .bool)->vs=ns.map V.bl
 |[],_,h=>by cases h;rfl
 |n::ns,_,h=>by
  cases h with |cons h1 h2=>rw[tV h1,B9 h2];rfl
theorem jz (r:aI K w O H){p:Addr}{xs:List V}{ds:Ξ1}(hp:H p=none)(h:aN (G w O H) xs ds) :
  aI K w O (aK H p (.tup xs))/\cg w O H w O (aK H p (.tup xs))/\cx (G w O (aK H p (.tup xs))) (.ref p) (.tuple ds):=by
 obtain⟨r1,e1,g1⟩:=r.new (o:=.tup xs) hp;exact⟨r1,e1,.tup g1 (aN.ay e1.ex.ay h)⟩
theorem kN (r:aI K w O H){p:Addr}{xs:List V}{ds:Ξ1}(hp:H p=none)(h:aN (G w O H) xs ds) :
  aI K w O (aK H p (.lst xs))/\cg w O H w O (aK H p (.lst xs))/\cx (G w O (aK H p (.lst xs))) (.ref p) (.list ds):=by
 obtain⟨r1,e1,g1⟩:=r.new (o:=.lst xs) hp;exact⟨r1,e1,.lst g1 (aN.ay e1.ex.ay h)⟩
theorem jH (r:aI K w O H){p:Addr}{xs:List V}{ds:Ξ1}{H':Hp}(s:ai H H')(hp:H' p=some (.tup xs))(h:aN (G w O H) xs ds) :
  aI K w O H'/\cg w O H w O H'/\cx (G w O H') (.ref p) (.tuple ds):=by
 obtain⟨r1,e1,g1⟩:=r.ay s;exact⟨r1,e1,.tup (r1.jY _ _ hp) (aN.ay e1.ex.ay h)⟩
def ag (i:Nat):ME:=λsl O Q=>match sl[i]? with
 |some (some x)=>Q x O
 |_=>False
theorem MD {i:Nat}{e:Expr}(h:PE X e (mx i)):PE X e (bJ K QX E (ag i)):=PE.imp h λσ H Q ⟨w,O,sl,Q0,c,m,q⟩=>by
 unfold ag at m;split at m
 .rename_i x hx;obtain⟨v,h1,h2⟩:=c.so.2 i x hx;exact⟨v,h1,q x O v w H m (cg.refl _ _ _) c.ro h2⟩
 .exact m.elim
def mC (d:PyData):ME:=λ_ O Q=>Q (.im d) O
theorem FC {v:V}{d:PyData}{e:Expr}(h:PE X e (tC v))(hv:∀g,cx g v d):PE X e (bJ K QX E (mC d)):=PE.imp h λσ H Q ⟨w,O,sl,Q0,c,m,q⟩=>q _ O v w H m (cg.refl _ _ _) c.ro (hv _)
theorem bI {i j pos}:PE X (.Constant (.int i) j pos) (bJ K QX E (mC (.int i))):=FC bF λ_=>.int _
theorem pr {i j pos}:PE X (.Constant (.bool i) j pos) (bJ K QX E (mC (.bool i))):=FC iB λ_=>.bl _
theorem oD {j pos}:PE X (.Constant .none j pos) (bJ K QX E (mC .none)):=FC wd λ_=>.bO
theorem oB {x j pos}(h:(PyData.str x).canLay0=true:=by decide+kernel):PE X (.Constant (.str x) j pos) (bJ K QX E (mC (.str x))):=FC rG λ_=>.str _ h
def ah:MA:=λ_ O Q=>Q [] O
def ae (Me:ME)(Ms:MA):MA:=λsl O Q=>Me sl O λx O1=>Ms sl O1 λxs O2=>Q (x::xs) O2
theorem aA:PA X [] (mL K QX E ah):=PA.imp bK λσ H Q ⟨w,O,sl,Q0,c,m,q⟩=>q [] O [] w H m (cg.refl _ _ _) c.ro aY.nil
theorem ap {e:Expr}{es:Ξ2}{Me:ME}{Ms:MA}(he:PE X e (bJ K QX E Me))(hr:PA X es (mL K QX E Ms))(hs:starEach (e::es) X.env=(false,eval e X.env)::starEach es X.env:=by rfl):PA X (e::es) (mL K QX E (ae Me Ms)) :=
 PA.imp (aQ he hr hs) λσ H Q ⟨w,O,sl,Q0,c,m,q⟩=>⟨w,O,sl,_,c,m,λx O1 v w1 H1 h1 e1 r1 a1=>⟨w1,O1,sl,_,c.ex e1.ex r1,h1,λxs O2 vs w2 H2 h2 e2 r2 a2=>q _ O2 _ w2 H2 h2 (e1.trans e2) r2 (aY.cons (a1.ex e2.ex) a2)⟩⟩
def E4:List AV->Option (Ξ1)
 |[]=>some []
 |.im d::xs=>match E4 xs with
  |some ds=>some (d::ds)
  |none=>none
 |_::_=>none
theorem wq:∀{xs:List AV}{ds:Ξ1},E4 xs=some ds->xs=ds.map .im
 |[],_,h=>by cases h;rfl
 |.im d::xs,ds,h=>by
  unfold E4 at h;split at h
  .rename_i es he;cases h;rw[wq he];rfl
  .cases h
 |.own _::_,_,h=>by cases h
 |.bag _::_,_,h=>by cases h
 |.qV _::_,_,h=>by cases h
def fi (Ms:MA):ME:=λsl O Q=>Ms sl O λxs O1=>match E4 xs with
 |some ds=>ds.length<=sizeLine/\Q (.im (.tuple ds)) O1
 |none=>False
def ij (Ms:MA):ME:=λsl O Q=>Ms sl O λxs O1=>match E4 xs with
 |some ds=>ds.length<=sizeLine/\Q (.im (.list ds)) O1
 |none=>False
def vQ (Ms:MA):ME:=λsl O Q=>Ms sl O λxs O1=>xs.length<=sizeLine/\Q (.own O1.length) (O1++[some xs])
theorem nC {es:Ξ2}{Ms:MA}{x1}{pos:Pos}(h:PA X es (mL K QX E Ms)):PE X (.Tuple es x1 pos) (bJ K QX E (fi Ms)):=PE.imp (gv h) λσ H Q ⟨w,O,sl,Q0,c,m,q⟩=>⟨w,O,sl,_,c,m,λxs O1 vs w1 H1 h1 e1 r1 a1=>by
 split at h1
 .rename_i ds hd;have hx:=wq hd;subst hx;refine⟨by rw[a1.1,Zb];exact h1.1,λp hp=>?_⟩;obtain⟨r2,e2,t2⟩:=jz r1 hp (aY.tr a1);exact q _ O1 _ w1 _ h1.2 (e1.trans e2) r2 t2
 .exact h1.elim⟩
theorem qW {es:Ξ2}{Ms:MA}{pos:Pos}(h:PA X es (mL K QX E Ms)):PE X (.List es pos) (bJ K QX E (ij Ms)):=PE.imp (gx h) λσ H Q ⟨w,O,sl,Q0,c,m,q⟩=>⟨w,O,sl,_,c,m,λxs O1 vs w1 H1 h1 e1 r1 a1=>by
 split at h1
 .rename_i ds hd;have hx:=wq hd;subst hx;refine⟨by rw[a1.1,Zb];exact h1.1,λp hp=>?_⟩;obtain⟨r2,e2,t2⟩:=kN r1 hp (aY.tr a1);exact q _ O1 _ w1 _ h1.2 (e1.trans e2) r2 t2
 .exact h1.elim⟩
theorem lR {es:Ξ2}{Ms:MA}{pos:Pos}(h:PA X es (mL K QX E Ms)):PE X (.List es pos) (bJ K QX E (vQ Ms)):=PE.imp (gx h) λσ H Q ⟨w,O,sl,Q0,c,m,q⟩=>⟨w,O,sl,_,c,m,λxs O1 vs w1 H1 h1 e1 r1 a1=>by
 refine⟨by rw[a1.1];exact h1.1,λp hp=>?_⟩;obtain⟨r2,e2,t2⟩:=r1.own hp a1;exact q _ _ _ _ _ h1.2 (e1.trans e2) r2 ⟨p,t2,rfl⟩⟩
abbrev mV:=aM->AV->AV->(AV->aM->Prop)->Prop
abbrev vw:=aM->List AV->(AV->aM->Prop)->Prop
def rc (K:Θ1)(r:R2)(f:mV):Prop:=∀(w:Wd) (O:aM) (H:Hp) (v u:V) (x y:AV) (P:AV->aM->Prop) (Q:VK),aI K w O H->jQ K w (G w O H) v x->jQ K w (G w O H) u y->f O x y P ->
 (∀z q O' w' H',P q O'->cg w O H w' O' H'->aI K w' O' H'->jQ K w' (G w' O' H') z q->Q z H')->r v u H Q
def xu (K:Θ1)(r:List V->Hp->VK->Prop)(f:vw):Prop:=∀(w:Wd) (O:aM) (H:Hp) (vs:List V) (xs:List AV) (P:AV->aM->Prop) (Q:VK),aI K w O H->aY K w (G w O H) vs xs->f O xs P ->
 (∀z q O' w' H',P q O'->cg w O H w' O' H'->aI K w' O' H'->jQ K w' (G w' O' H') z q->Q z H')->r vs H Q
def aE (f:mV)(Ma Mb:ME):ME:=λsl O Q=>Ma sl O λx O1=>Mb sl O1 λy O2=>f O2 x y Q
def cE (f:vw)(Ms:MA):ME:=λsl O Q=>Ms sl O λxs O1=>f O1 xs Q
theorem xL {r:R2}{f:mV}{Ma Mb:ME}(lk:rc K r f):∀σ H Q,bJ K QX E (aE f Ma Mb) σ H Q->EV r (bJ K QX E Ma) (bJ K QX E Mb) σ H Q :=
 λσ H Q ⟨w,O,sl,Q0,c,m,q⟩=>⟨w,O,sl,_,c,m,λx O1 v w1 H1 h1 e1 r1 a1=>⟨w1,O1,sl,_,c.ex e1.ex r1,h1,λy O2 u w2 H2 h2 e2 r2 a2 =>
  lk w2 O2 H2 v u x y _ Q r2 (a1.ex e2.ex) a2 h2 λz z' O3 w3 H3 h3 e3 r3 a3=>q _ O3 z w3 H3 h3 ((e1.trans e2).trans e3) r3 a3⟩⟩
theorem qf {op:Operator}{r:R2}{f:mV}{Ma Mb:ME}{a b:Expr}{pos:Pos}(ho:d8 X (binaryOp op) r)(lk:rc K r f)(ha:PE X a (bJ K QX E Ma))(hb:PE X b (bJ K QX E Mb)):PE X (.BinOp a op b pos) (bJ K QX E (aE f Ma Mb)):=PE.imp (cN ho ha hb) (xL lk)
theorem Rx {r:R2}{f:mV}{Ma Mb:ME}{a b:Expr}{pos:Pos}(ho:zi X r)(lk:rc K r f)(ha:PE X a (bJ K QX E Ma))(hb:PE X b (bJ K QX E Mb))(hs:sS b:=by exact λ_ _=>rfl):PE X (.Subscript a b pos) (bJ K QX E (aE f Ma Mb)):=PE.imp (cS ho ha hb hs) (xL lk)
theorem ee {op:CmpOp}{r:R2}{f:mV}{Ma Mb:ME}{a b:Expr}{pos:Pos}(ho:d8 X (compareOp op) r)(lk:rc K r f)(ha:PE X a (bJ K QX E Ma))(hb:PE X b (bJ K QX E Mb))(hm:behindInMarks op b=false):PE X (.Compare a [op] [b] pos) (bJ K QX E (aE f Ma Mb)):=PE.imp (vE ho ha hb hm) (xL lk)
theorem fe {x:Str}{id:String}{e:Expr}{es:Ξ2}{p pos:Pos}{r:List V->Hp->VK->Prop}{f:vw}{Ms:MA}(hc:cc X (.builtin id) r)(lk:xu K r f)(hg:Gl X x)(hm:X.mg x=none)(hv:bootBuiltins x=some (.builtin id))(ha:PA X (e::es) (mL K QX E Ms))(hn:x ≠ "__name__":=by decide)(ma:(x == ("__debug__" : Str))=false:=by decide)
  (he:starEach (e::es) X.env=(false,eval e X.env)::starEach es X.env:=by rfl) (et:(backTo pos (starEach es X.env)).any (·.1)=false:=by rfl):PE X (.Call (.Name x p) (e::es) [] pos) (bJ K QX E (cE f Ms)) :=
 PE.imp (jK hc hg hm hv ha hn ma he et) λσ H Q ⟨w,O,sl,Q0,c,m,q⟩=>⟨w,O,sl,_,c,m,λxs O1 vs w1 H1 h1 e1 r1 a1=>lk w1 O1 H1 vs xs _ Q r1 a1 h1 λz z' O3 w3 H3 h3 e3 r3 a3=>q _ O3 z w3 H3 h3 (e1.trans e3) r3 a3⟩
theorem p9 {x:Str}{T:String}{e:Expr}{es:Ξ2}{p pos:Pos}{r:List V->Hp->VK->Prop}{f:vw}{Ms:MA}(hc:cc X (.type T) r)(lk:xu K r f)(hg:Gl X x)(hm:X.mg x=none)(hv:bootBuiltins x=some (.type T))(ha:PA X (e::es) (mL K QX E Ms))(hn:x ≠ "__name__":=by decide)(ma:(x == ("__debug__" : Str))=false:=by decide)
  (he:starEach (e::es) X.env=(false,eval e X.env)::starEach es X.env:=by rfl) (et:(backTo pos (starEach es X.env)).any (·.1)=false:=by rfl):PE X (.Call (.Name x p) (e::es) [] pos) (bJ K QX E (cE f Ms)) :=
 PE.imp (Nv hc hg hm hv ha hn ma he et) λσ H Q ⟨w,O,sl,Q0,c,m,q⟩=>⟨w,O,sl,_,c,m,λxs O1 vs w1 H1 h1 e1 r1 a1=>lk w1 O1 H1 vs xs _ Q r1 a1 h1 λz z' O3 w3 H3 h3 e3 r3 a3=>q _ O3 z w3 H3 h3 (e1.trans e3) r3 a3⟩
def bG (M:ME):MT:=λsl O Q=>M sl O λx O1=>match x with
 |.im (.bool c)=>Q c O1
 |_=>False
theorem uH {t:TE}{M:ME}(h:∀σ H Q,bJ K QX E M σ H Q->t σ H Q):∀σ H Q,lj K QX E (bG M) σ H Q->Bx t σ H Q:=λσ H Q ⟨w,O,sl,Q0,c,m,q⟩=>h σ H _ ⟨w,O,sl,_,c,m,λx O1 v w1 H1 h1 e1 r1 a1=>by
 split at h1
 .exact⟨_,tV a1,q _ O1 w1 H1 h1 e1 r1⟩
 .exact h1.elim⟩
theorem jU {op:CmpOp}{r:R2}{f:mV}{Ma Mb:ME}{a b:Expr}{pos:Pos}(ho:d8 X (compareOp op) r)(lk:rc K r f)(ha:PE X a (bJ K QX E Ma))(hb:PE X b (bJ K QX E Mb))(hm:behindInMarks op b=false):PT X (.Compare a [op] [b] pos) (lj K QX E (bG (aE f Ma Mb))):=PT.imp (p6 ho ha hb hm) (uH (xL lk))
theorem tq {e:Expr}{M:ME}(h:PE X e (bJ K QX E M))(he:∀whole,isTrue e X.env whole=(do let v <- whole;standAt e.pos;holding [v] (truthy v)):=by intro _;rfl):PT X e (lj K QX E (bG M)):=PT.imp (tH h he) (uH λ_ _ _ z=>z)
def Wg:PyData->Bool
 |.none=>false
 |.bool b=>b
 |.int i=>i != 0
 |.str s=>(s.length:Int) != 0
 |.list xs=>!xs.isEmpty
 |.tuple xs=>!xs.isEmpty
 |.dict xs=>!xs.isEmpty
def QP:PyData->Bool
 |.str _=>false
 |_=>true
def PB (M:ME):MT:=λsl O Q=>M sl O λx O1=>match x with
 |.im d=>QP d=true/\Q (Wg d) O1
 |_=>False
theorem mn {α β : Type}{xs:List α}{ys:List β}(h:xs.length=ys.length):(!xs.isEmpty)=!ys.isEmpty:=by
 cases xs<;>cases ys<;>simp_all
theorem Mx {e:Expr}{M:ME}(h:PE X e (bJ K QX E M))(he:∀whole,isTrue e X.env whole=(do let v <- whole;standAt e.pos;holding [v] (truthy v)):=by intro _;rfl):PT X e (lj K QX E (PB M)):=PT.imp (oQ h he) λσ H Q ⟨w,O,sl,Q0,c,m,q⟩=>⟨w,O,sl,_,c,m,λx O1 v w1 H1 h1 e1 r1 a1=>by
 cases x with
 |im d =>
  cases d with
  |none=>exact⟨false,by rw[IX a1];rfl,q _ O1 w1 H1 h1.2 e1 r1⟩
  |bool b=>exact⟨b,by rw[tV a1];rfl,q _ O1 w1 H1 h1.2 e1 r1⟩
  |int i=>exact⟨i != 0,by rw[ll a1];rfl,q _ O1 w1 H1 h1.2 e1 r1⟩
  |str i=>cases h1.1
  |list xs =>
   obtain⟨a,us,rfl,h3,h4⟩:=gP a1;exact⟨!xs.isEmpty,.inl ⟨us,bA.of h3,mn h4.len.symm⟩,q _ O1 w1 H1 h1.2 e1 r1⟩
  |tuple xs =>
   obtain⟨a,us,rfl,h3,h4⟩:=du a1;exact⟨!xs.isEmpty,.inr (.inl ⟨us,aG.of h3,mn h4.len.symm⟩),q _ O1 w1 H1 h1.2 e1 r1⟩
  |dict xs=>cases a1
 |own k=>exact h1.elim
 |bag j=>exact h1.elim
 |qV ns=>exact h1.elim⟩
def iJ (M:MT):MT:=λsl O Q=>M sl O λc O1=>Q (!c) O1
theorem tG {a:Expr}{M:MT}{pos:Pos}(h:PT X a (lj K QX E M)):PT X (.UnaryOp .Not a pos) (lj K QX E (iJ M)):=PT.imp (vB h) λσ H Q ⟨w,O,sl,Q0,c,m,q⟩=>⟨w,O,sl,_,c,m,λx O1 w1 H1 h1 e1 r1=>q _ O1 w1 H1 h1 e1 r1⟩
def ud (M N:MT):MT:=λsl O Q=>M sl O λc O1=>(c=true->N sl O1 Q)/\(c=false->Q false O1)
def kw (M N:MT):MT:=λsl O Q=>M sl O λc O1=>(c=true->Q true O1)/\(c=false->N sl O1 Q)
theorem sA {a:Expr}{M:MT}{pos:Pos}(h:PT X a (lj K QX E M)):PW X (.BoolOp .And [a] pos) (lj K QX E M):=pw_and1 h
theorem fJ {a:Expr}{M:MT}{pos:Pos}(h:PT X a (lj K QX E M)):PW X (.BoolOp .Or [a] pos) (lj K QX E M):=pw_or1 h
theorem rL {a b:Expr}{fh:Ξ2}{M N:MT}{pos:Pos}(ha:PT X a (lj K QX E M))(hb:PW X (.BoolOp .And (b::fh) pos) (lj K QX E N)):PW X (.BoolOp .And (a::b::fh) pos) (lj K QX E (ud M N)):=PW.imp (pw_and ha hb) λσ H Q ⟨w,O,sl,Q0,c,m,q⟩=>⟨w,O,sl,_,c,m,λx O1 w1 H1 h1 e1 r1=>by
 cases x with
 |true=>exact aU ⟨w1,O1,sl,_,c.ex e1.ex r1,h1.1 rfl,λy O2 w2 H2 h2 e2 r2=>q _ O2 w2 H2 h2 (e1.trans e2) r2⟩
 |false=>exact bC (q _ O1 w1 H1 (h1.2 rfl) e1 r1)⟩
theorem gN {a b:Expr}{fh:Ξ2}{M N:MT}{pos:Pos}(ha:PT X a (lj K QX E M))(hb:PW X (.BoolOp .Or (b::fh) pos) (lj K QX E N)):PW X (.BoolOp .Or (a::b::fh) pos) (lj K QX E (kw M N)):=PW.imp (pw_or ha hb) λσ H Q ⟨w,O,sl,Q0,c,m,q⟩=>⟨w,O,sl,_,c,m,λx O1 w1 H1 h1 e1 r1=>by
 cases x with
 |true=>exact aU (q _ O1 w1 H1 (h1.1 rfl) e1 r1)
 |false=>exact bC ⟨w1,O1,sl,_,c.ex e1.ex r1,h1.2 rfl,λy O2 w2 H2 h2 e2 r2=>q _ O2 w2 H2 h2 (e1.trans e2) r2⟩⟩
def uc (M N:ME):ME:=λsl O Q=>M sl O λx O1=>match x with
 |.im (.bool c)=>(c=true->N sl O1 Q)/\(c=false->Q (.im (.bool false)) O1)
 |_=>False
theorem wk {op}{a:Expr}{M:ME}{pos:Pos}(h:PE X a (bJ K QX E M)):PE X (.BoolOp op [a] pos) (bJ K QX E M):=gw h
theorem rN {a b:Expr}{fh:Ξ2}{M N:ME}{pos:Pos}(ha:PE X a (bJ K QX E M))(hb:PE X (.BoolOp .And (b::fh) pos) (bJ K QX E N)):PE X (.BoolOp .And (a::b::fh) pos) (bJ K QX E (uc M N)):=PE.imp (io ha hb) λσ H Q ⟨w,O,sl,Q0,c,m,q⟩=>⟨w,O,sl,_,c,m,λx O1 v w1 H1 h1 e1 r1 a1=>by
 split at h1
 .rename_i k;refine⟨k,tV a1,?_⟩;cases k with
  |true=>exact aU ⟨w1,O1,sl,_,c.ex e1.ex r1,h1.1 rfl,λy O2 u w2 H2 h2 e2 r2 a2=>q _ O2 u w2 H2 h2 (e1.trans e2) r2 a2⟩
  |false=>exact bC (q _ O1 _ w1 H1 (h1.2 rfl) e1 r1 (.bl false))
 .exact h1.elim⟩
def Tu (C:MT)(M N:ME):ME:=λsl O Q=>C sl O λc O1=>(c=true->M sl O1 Q)/\(c=false->N sl O1 Q)
theorem IA {t a b:Expr}{C:MT}{M N:ME}{pos:Pos}(hc:PT X t (lj K QX E C))(ha:PE X a (bJ K QX E M))(hb:PE X b (bJ K QX E N)):PE X (.IfExp t a b pos) (bJ K QX E (Tu C M N)):=PE.imp (DB hc ha hb) λσ H Q ⟨w,O,sl,Q0,c,m,q⟩=>⟨w,O,sl,_,c,m,λx O1 w1 H1 h1 e1 r1=>by
 cases x with
 |true=>exact aU ⟨w1,O1,sl,_,c.ex e1.ex r1,h1.1 rfl,λy O2 u w2 H2 h2 e2 r2 a2=>q _ O2 u w2 H2 h2 (e1.trans e2) r2 a2⟩
 |false=>exact bC ⟨w1,O1,sl,_,c.ex e1.ex r1,h1.2 rfl,λy O2 u w2 H2 h2 e2 r2 a2=>q _ O2 u w2 H2 h2 (e1.trans e2) r2 a2⟩⟩
end
section
variable {K:Θ1}{X:Cx}
theorem mG {w:Wd}{O:aM}{H:Hp}:ai (G w O H) H:=λa o h=>(gn h).1
def Bn (C:Int->Int->Prop)(g:Int->Int->PyData):mV:=λO x y P=>match x,y with
 |.im (.int i),.im (.int j)=>C i j/\P (.im (g i j)) O
 |_,_=>False
def oj (g:Int->Int->PyData):mV:=λO x y P=>match x,y with
 |.im (.int i),.im (.int j)=>P (.im (g i j)) O
 |_,_=>False
theorem sF {C:Int->Int->Prop}{g:Int->Int->V}{f:Int->Int->PyData}(hg:∀i j h,cx h (g i j) (f i j)):rc K (rI C g) (Bn C f):=λw O H v u x y P Q r a b hf q=>by
 unfold Bn at hf;split at hf
 .exact⟨_,_,ll a,ll b,hf.1,q _ _ O w H hf.2 (cg.refl _ _ _) r (hg _ _ _)⟩
 .exact hf.elim
theorem jm {g:Int->Int->V}{f:Int->Int->PyData}(hg:∀i j h,cx h (g i j) (f i j)):rc K (xo g) (oj f):=λw O H v u x y P Q r a b hf q=>by
 unfold oj at hf;split at hf
 .exact⟨_,_,ll a,ll b,q _ _ O w H hf (cg.refl _ _ _) r (hg _ _ _)⟩
 .exact hf.elim
def eO:mV:=λO x y P=>match x,y with
 |.im (.int i),.im (.int j)=>P (.im (.int (i+j))) O
 |.im (.tuple xs),.im (.tuple ys)=>xs.length+ys.length<=sizeLine/\P (.im (.tuple (xs++ys))) O
 |.im (.list xs),.im (.list ys)=>xs.length+ys.length<=sizeLine/\P (.im (.list (xs++ys))) O
 |_,_=>False
theorem MR:rc K (λx y H Q=>xo (λi j=>.int (i+j)) x y H Q\/(Iq x y H Q\/Pp x y H Q)) eO:=λw O H v u x y P Q r a b hf q=>by
 unfold eO at hf;split at hf
 .exact .inl ⟨_,_,ll a,ll b,q _ _ O w H hf (cg.refl _ _ _) r (.int _)⟩
 .obtain⟨p1,us,rfl,h1,t1⟩:=du a;obtain⟨p2,vs,rfl,h2,t2⟩:=du b;refine .inr (.inl ⟨p1,p2,us,vs,rfl,rfl,h1,h2,by rw[t1.len,t2.len];exact hf.1,λp H' s hp=>?_⟩);obtain⟨r1,e1,t⟩:=jH r s hp (t1.app t2);exact q _ _ O w H' hf.2 e1 r1 t
 .obtain⟨p1,us,rfl,h1,t1⟩:=gP a;obtain⟨p2,vs,rfl,h2,t2⟩:=gP b;refine .inr (.inr ⟨p1,p2,us,vs,rfl,rfl,h1,h2,by rw[t1.len,t2.len];exact hf.1,λp hp=>?_⟩);obtain⟨r1,e1,t⟩:=kN r hp (t1.app t2);exact q _ _ O w _ hf.2 e1 r1 t
 .exact hf.elim
theorem pw {QX:Addr->aM->Prop}{E:XK}{Ma Mb:ME}{a b:Expr}{pos:Pos}(ha:PE X a (bJ K QX E Ma))(hb:PE X b (bJ K QX E Mb)):PE X (.BinOp a .Add b pos) (bJ K QX E (aE eO Ma Mb)):=qf (ip.or (GR.or rK)) MR ha hb
abbrev zm:mV:=oj λi j=>.int (i-j)
theorem lQ {QX:Addr->aM->Prop}{E:XK}{Ma Mb:ME}{a b:Expr}{pos:Pos}(ha:PE X a (bJ K QX E Ma))(hb:PE X b (bJ K QX E Mb)):PE X (.BinOp a .Sub b pos) (bJ K QX E (aE zm Ma Mb)):=qf rH (jm λ_ _ _=>.int _) ha hb
abbrev rm:mV:=Bn (λi j=>Bd 8000 i/\Bd 8000 j) λi j=>.int (i*j)
theorem ja {QX:Addr->aM->Prop}{E:XK}{Ma Mb:ME}{a b:Expr}{pos:Pos}(ha:PE X a (bJ K QX E Ma))(hb:PE X b (bJ K QX E Mb)):PE X (.BinOp a .Mult b pos) (bJ K QX E (aE rm Ma Mb)):=qf tI (sF λ_ _ _=>.int _) ha hb
abbrev QG:mV:=Bn (λ_ j=>0<j/\Bd 8000 j) λi j=>.int (i / j)
theorem MC {QX:Addr->aM->Prop}{E:XK}{Ma Mb:ME}{a b:Expr}{pos:Pos}(ha:PE X a (bJ K QX E Ma))(hb:PE X b (bJ K QX E Mb)):PE X (.BinOp a .FloorDiv b pos) (bJ K QX E (aE QG Ma Mb)):=qf DJ (sF λ_ _ _=>.int _) ha hb
def Fu:mV:=λO x y P=>match x,y with
 |.im (.list xs),.im (.int k)=>0<=k/\k<2 ^ 62/\xs.length*k.toNat<=sizeLine/\P (.im (.list (List.replicate k.toNat xs).flatten)) O
 |_,_=>False
theorem uq {g:Hp}{xs:List V}{ds:Ξ1}(h:aN g xs ds):∀m:Nat,aN g (List.replicate m xs).flatten (List.replicate m ds).flatten
 |0=>.nil
 |m+1=>by
  rw[Xq,Xq,Xx,Xx];exact h.app (uq h m)
theorem MJ:rc K Po Fu:=λw O H v u x y P Q r a b hf q=>by
 unfold Fu at hf;split at hf
 .obtain⟨p1,us,rfl,h1,t1⟩:=gP a;rw[ll b];refine⟨p1,_,us,rfl,rfl,h1,by omega,by omega,by rw[t1.len];exact hf.2.2.1,λp hp=>?_⟩;obtain⟨r1,e1,t⟩:=kN r hp (uq t1 _);exact q _ _ O w _ hf.2.2.2 e1 r1 t
 .exact hf.elim
theorem Mz {QX:Addr->aM->Prop}{E:XK}{Ma Mb:ME}{a b:Expr}{pos:Pos}(ha:PE X a (bJ K QX E Ma))(hb:PE X b (bJ K QX E Mb)):PE X (.BinOp a .Mult b pos) (bJ K QX E (aE Fu Ma Mb)):=qf LS MJ ha hb
abbrev Tw:mV:=oj λi j=>.bool (decide (i<j))
abbrev YO:mV:=oj λi j=>.bool (decide (i<=j))
abbrev ON:mV:=oj λi j=>.bool (decide (j<i))
abbrev Sl:mV:=oj λi j=>.bool (decide (j<=i))
theorem IM:rc K (xo λi j=>.bl (decide (i<j))) Tw:=jm λ_ _ _=>.bl _
theorem Ry:rc K (xo λi j=>.bl (decide (i<=j))) YO:=jm λ_ _ _=>.bl _
theorem xK:rc K (xo λi j=>.bl (decide (j<i))) ON:=jm λ_ _ _=>.bl _
theorem BX:rc K (xo λi j=>.bl (decide (j<=i))) Sl:=jm λ_ _ _=>.bl _
def pF:PyData->PyData->Bool
 |.int i,.int j=>decide (i=j)
 |d,e=>PyData.eqv d e
theorem je (d e:PyData):pF d e=PyData.eqv d e:=by
 cases d<;>cases e<;>first |rfl |(show decide _=_;rw[PyData.eqv];rfl)
def jW (neg:Bool):mV:=λO x y P=>match x,y with
 |.im d,.im e=>min d.depth e.depth<=60/\P (.im (.bool (if neg then !pF d e else pF d e))) O
 |_,_=>False
theorem gi:rc K (Fw K0) (jW false):=λw O H v u x y P Q r a b hf q=>by
 unfold jW at hf;split at hf
 .refine⟨_,_,(cx.ay mG a).dt,(cx.ay mG b).dt,hf.1,?_⟩;rw[<- je];exact q _ _ O w H hf.2 (cg.refl _ _ _) r (.bl _)
 .exact hf.elim
theorem gO:rc K (Fv K0) (jW true):=λw O H v u x y P Q r a b hf q=>by
 unfold jW at hf;split at hf
 .refine⟨_,_,(cx.ay mG a).dt,(cx.ay mG b).dt,hf.1,?_⟩;rw[<- je];exact q _ _ O w H hf.2 (cg.refl _ _ _) r (.bl _)
 .exact hf.elim
theorem gg (hu:X.A.units+64<cLine):d8 X (compareOp .Eq) (Fw K0):=wf hu
theorem gK (hu:X.A.units+64<cLine):d8 X (compareOp .NotEq) (Fv K0):=CG hu
def Ny (neg:Bool):mV:=λO x y P=>match x,y with
 |.im (.int i),.im (.list ds)=>∃ns:Γ3,ds=ns.map .int/\P (.im (.bool (if neg then !ns.contains i else ns.contains i))) O
 |.im (.int i),.im (.tuple ds)=>∃ns:Γ3,ds=ns.map .int/\P (.im (.bool (if neg then !ns.contains i else ns.contains i))) O
 |_,_=>False
theorem hJ (ns:Γ3):(ns.map V.int).all iZ=true:=by
 rw[Yr];exact Zu.mpr λ_ _=>rfl
theorem xJ (neg:Bool):rc K (NW K0 neg) (Ny neg):=λw O H v u x y P Q r a b hf q=>by
 unfold Ny at hf;split at hf
 .obtain⟨ns,rfl,h⟩:=hf;obtain⟨p1,us,rfl,h1,t1⟩:=gP b;rw[j5 t1] at h1;refine⟨p1,_,rfl,.inl (bA.of h1),by rw[ll a];rfl,hJ ns,?_⟩;rw[ll a,sI];exact q _ _ O w H h (cg.refl _ _ _) r (.bl _)
 .obtain⟨ns,rfl,h⟩:=hf;obtain⟨p1,us,rfl,h1,t1⟩:=du b;rw[j5 t1] at h1;refine⟨p1,_,rfl,.inr (aG.of h1),by rw[ll a];rfl,hJ ns,?_⟩;rw[ll a,sI];exact q _ _ O w H h (cg.refl _ _ _) r (.bl _)
 .exact hf.elim
def sH:PyData->Bool
 |.none=>true
 |_=>false
def sG (neg:Bool):mV:=λO x y P=>match x,y with
 |.im d,.im .none=>P (.im (.bool (if neg then !sH d else sH d))) O
 |_,_=>False
theorem Ht {g:Hp}{v:V}{d:PyData}(h:cx g v d):decide (v=.bO)=sH d:=by
 cases h<;>rfl
theorem Hi:rc K (λx y H Q=>y=.bO/\Q (.bl (!decide (x=.bO))) H) (sG true):=λw O H v u x y P Q r a b hf q=>by
 unfold sG at hf;split at hf
 .refine⟨IX b,?_⟩;rw[Ht a];exact q _ _ O w H hf (cg.refl _ _ _) r (.bl _)
 .exact hf.elim
def BV:mV:=λO x y P=>match x,y with
 |.im (.bool c),.im (.bool d)=>P (.im (.bool (c != d))) O
 |_,_=>False
theorem Hj:rc K (λx y H Q=>∃c d:Bool,x=.bl c/\y=.bl d/\Q (.bl (c != d)) H) BV:=λw O H v u x y P Q r a b hf q=>by
 unfold BV at hf;split at hf
 .exact⟨_,_,tV a,tV b,q _ _ O w H hf (cg.refl _ _ _) r (.bl _)⟩
 .exact hf.elim
def bL:mV:=λO x y P=>match x,y with
 |.im (.list ds),.im (.int i)=>∃d,iO ds i=some d/\P (.im d) O
 |.im (.tuple ds),.im (.int i)=>∃d,iO ds i=some d/\P (.im d) O
 |.own k,.im (.int i)=>∃c z,O[k]?=some (some c)/\iO c i=some z/\P z O
 |_,_=>False
theorem C7 {g:Hp}{xs:List V}{ds:Ξ1}{i:Int}{d:PyData}(t:aN g xs ds)(h:iO ds i=some d):∃v,iO xs i=some v/\cx g v d:=by
 unfold iO at h ⊢;rw[t.len];cases hj:tK ds.length i with
 |none=>rw[hj] at h;cases h
 |some j =>
  rw[hj] at h;exact t.get h
theorem Nd {w:Wd}{g:Hp}{xs:List V}{ds:List AV}{i:Int}{d:AV}(t:aY K w g xs ds)(h:iO ds i=some d):∃v,iO xs i=some v/\jQ K w g v d:=by
 unfold iO at h ⊢;rw[t.1];cases hj:tK ds.length i with
 |none=>rw[hj] at h;cases h
 |some j =>
  rw[hj] at h;exact t.at h
theorem Rz:rc K (λx y H Q=>Kc K0 x y H Q\/Bi K0 x y H Q) bL:=λw O H v u x y P Q r a b hf q=>by
 unfold bL at hf;split at hf
 .obtain⟨d,hd,hf⟩:=hf;obtain⟨p1,us,rfl,h1,t1⟩:=gP a;obtain⟨z,hz,tz⟩:=C7 t1 hd;exact .inl ⟨p1,us,_,z,rfl,ll b,bA.of h1,hz,q _ _ O w H hf (cg.refl _ _ _) r tz⟩
 .obtain⟨d,hd,hf⟩:=hf;obtain⟨p1,us,rfl,h1,t1⟩:=du a;obtain⟨z,hz,tz⟩:=C7 t1 hd;exact .inr ⟨p1,us,_,z,rfl,ll b,aG.of h1,hz,q _ _ O w H hf (cg.refl _ _ _) r tz⟩
 .obtain⟨c,d,hc,hd,hf⟩:=hf;obtain⟨p1,us,h0,h1,t1⟩:=r.pJ _ _ hc;obtain⟨p2,e1,rfl⟩:=a;rw[h0] at e1;cases Option.some.inj e1;obtain⟨z,hz,tz⟩:=Nd t1 hd;exact .inl ⟨p1,us,_,z,rfl,ll b,bA.of h1,hz,q _ _ O w H hf (cg.refl _ _ _) r tz⟩
 .exact hf.elim
theorem bQ {QX:Addr->aM->Prop}{E:XK}{Ma Mb:ME}{a b:Expr}{pos:Pos}(ha:PE X a (bJ K QX E Ma))(hb:PE X b (bJ K QX E Mb))(hs:sS b:=by exact λ_ _=>rfl):PE X (.Subscript a b pos) (bJ K QX E (aE bL Ma Mb)):=Rx (mF.or bH) Rz ha hb hs
abbrev MO:=iA->aM->(Option Int->aM->Prop)->Prop
def RT (K:Θ1)(QX:Addr->aM->Prop)(E:XK)(M:MO):TO:=λσ H Q=>∃w O sl Q0,mX K QX E w O H σ sl/\M sl O Q0/\∀c O' w' H',Q0 c O'->cg w O H w' O' H'->aI K w' O' H'->Q c H'
def nK:MO:=λ_ O Q=>Q none O
def nJ (M:ME):MO:=λsl O Q=>M sl O λx O1=>match x with
 |.im (.int i)=>Q (some i) O1
 |_=>False
theorem PO.imp {e:Option Expr}{t t':TO}(h:PO X e t)(i:∀σ H Q,t' σ H Q->t σ H Q):PO X e t':=λaa s σ H Q I q=>h aa s σ H Q I (i σ H Q q)
theorem Ez {QX:Addr->aM->Prop}{E:XK}:PO X none (RT K QX E nK):=PO.imp GH λσ H Q ⟨w,O,sl,Q0,c,m,q⟩=>q none O w H m (cg.refl _ _ _) c.ro
theorem EA {QX:Addr->aM->Prop}{E:XK}{e:Expr}{M:ME}(h:PE X e (bJ K QX E M)):PO X (some e) (RT K QX E (nJ M)):=PO.imp (GG h) λσ H Q ⟨w,O,sl,Q0,c,m,q⟩=>⟨w,O,sl,_,c,m,λx O1 v w1 H1 h1 e1 r1 a1=>by
 split at h1
 .exact⟨_,ll a1,q _ O1 w1 H1 h1 e1 r1⟩
 .exact h1.elim⟩
def cutD (xs:Ξ1)(lo hi:Option Int):Ξ1:=(xs.drop (HT.cJ xs.length 0 lo)).take (HT.cJ xs.length xs.length hi-HT.cJ xs.length 0 lo)
def YB (O:aM)(x:AV)(lo hi:Option Int)(P:AV->aM->Prop):Prop:=match x with
 |.im (.tuple ds)=>P (.im (.tuple (cutD ds lo hi))) O
 |.im (.list ds)=>P (.im (.list (cutD ds lo hi))) O
 |_=>False
def AW (M:ME)(L U:MO):ME:=λsl O Q=>M sl O λx O1=>L sl O1 λl O2=>U sl O2 λu O3=>YB O3 x l u Q
theorem C5 {g:Hp}{xs:List V}{ds:Ξ1}{lo hi:Option Int}(t:aN g xs ds):aN g (nV xs lo hi) (cutD ds lo hi):=by
 unfold nV cutD;rw[t.len];exact(t.drop _).take _
theorem ED {QX:Addr->aM->Prop}{E:XK}{M:ME}{L U:MO}{e:Expr}{lo hi:Option Expr}{p2 pos:Pos}(he:PE X e (bJ K QX E M))(hl:PO X lo (RT K QX E L))(hu:PO X hi (RT K QX E U)):PE X (.Subscript e (.Slice lo hi none p2) pos) (bJ K QX E (AW M L U)) :=
 PE.imp (DA (Gh.or Wv) he hl hu) λσ H Q ⟨w,O,sl,Q0,c,m,q⟩=>⟨w,O,sl,_,c,m,λx O1 v w1 H1 h1 e1 r1 a1=>⟨w1,O1,sl,_,c.ex e1.ex r1,h1,λl O2 w2 H2 h2 e2 r2=>⟨w2,O2,sl,_,(c.ex e1.ex r1).ex e2.ex r2,h2,λu O3 w3 H3 h3 e3 r3=>by
  have a3:=(a1.ex e2.ex).ex e3.ex;have R':=(e1.trans e2).trans e3;unfold YB at h3;split at h3
  .obtain⟨p1,us,rfl,g1,t1⟩:=du a3;refine .inl ⟨p1,us,rfl,g1,λp H' s hp=>?_⟩;obtain⟨r4,e4,t4⟩:=jH r3 s hp (C5 t1);exact q _ O3 _ w3 H' h3 (R'.trans e4) r4 t4
  .obtain⟨p1,us,rfl,g1,t1⟩:=gP a3;refine .inr ⟨p1,us,rfl,bA.of g1,λp hp=>?_⟩;obtain⟨r4,e4,t4⟩:=kN r3 hp (C5 t1);exact q _ O3 _ w3 _ h3 (R'.trans e4) r4 t4
  .exact h3.elim⟩⟩⟩
def cP:vw:=λO xs P=>match xs with
 |[.im (.list ds)]=>P (.im (.int ds.length)) O
 |[.im (.tuple ds)]=>P (.im (.int ds.length)) O
 |[.own k]=>∃c,O[k]?=some (some c)/\P (.im (.int c.length)) O
 |_=>False
theorem kl:xu K Io cP:=λw O H vs xs P Q r a hf q=>by
 unfold cP at hf;split at hf
 .obtain⟨v,us,rfl,h1,h2⟩:=a.aR;rw[h2.b9];obtain⟨p1,nA,rfl,g1,t1⟩:=gP h1;exact⟨p1,nA,rfl,.inl (bA.of g1),by rw[t1.len];exact q _ _ O w H hf (cg.refl _ _ _) r (.int _)⟩
 .obtain⟨v,us,rfl,h1,h2⟩:=a.aR;rw[h2.b9];obtain⟨p1,nA,rfl,g1,t1⟩:=du h1;exact⟨p1,nA,rfl,.inr (aG.of g1),by rw[t1.len];exact q _ _ O w H hf (cg.refl _ _ _) r (.int _)⟩
 .obtain⟨c,hc,hf⟩:=hf;obtain⟨v,us,rfl,h1,h2⟩:=a.aR;rw[h2.b9];obtain⟨p2,e1,rfl⟩:=h1;obtain⟨p1,nA,h0,g1,t1⟩:=r.pJ _ _ hc;rw[h0] at e1;cases Option.some.inj e1;exact⟨_,nA,rfl,.inl (bA.of g1),by rw[t1.1];exact q _ _ O w H hf (cg.refl _ _ _) r (.int _)⟩
 .exact hf.elim
def BY:vw:=λO xs P=>match xs with
 |[.qV ns]=>P (.im (.int ns.length)) O
 |_=>False
def Rf (K:Θ1):List V->Hp->VK->Prop:=λxs H Q=>∃p ys,xs=[.ref p]/\(bA K H p ys\/aG K H p ys)/\Q (.int ys.length) H
theorem Hm:xu K (Rf K) BY:=λw O H vs xs P Q r a hf q=>by
 unfold BY at hf;split at hf
 .obtain⟨v,us,rfl,h1,h2⟩:=a.aR;rw[h2.b9];obtain⟨p1,rfl,g1⟩:=h1;exact⟨p1,_,rfl,.inl (KG.bA.ay g1 mG),by rw[Zb];exact q _ _ O w H hf (cg.refl _ _ _) r (.int _)⟩
 .exact hf.elim
def oi (g:Int->Int->Int):vw:=λO xs P=>match xs with
 |[.im (.int i),.im (.int j)]=>P (.im (.int (g i j))) O
 |_=>False
theorem yp:xu K (λxs H Q=>∃i j,xs=[.int i,.int j]/\Q (.int (if j>i then j else i)) H) (oi λi j=>if j>i then j else i):=λw O H vs xs P Q r a hf q=>by
 unfold oi at hf;split at hf
 .obtain⟨v,us,rfl,h1,h2⟩:=a.aR;obtain⟨v2,NP,rfl,h3,h4⟩:=h2.aR;rw[h4.b9,ll h1,ll h3];exact⟨_,_,rfl,q _ _ O w H hf (cg.refl _ _ _) r (.int _)⟩
 .exact hf.elim
theorem Hk:xu K (λxs H Q=>∃i j,xs=[.int i,.int j]/\Q (.int (if j<i then j else i)) H) (oi λi j=>if j<i then j else i):=λw O H vs xs P Q r a hf q=>by
 unfold oi at hf;split at hf
 .obtain⟨v,us,rfl,h1,h2⟩:=a.aR;obtain⟨v2,NP,rfl,h3,h4⟩:=h2.aR;rw[h4.b9,ll h1,ll h3];exact⟨_,_,rfl,q _ _ O w H hf (cg.refl _ _ _) r (.int _)⟩
 .exact hf.elim
def FF:vw:=λO xs P=>match xs with
 |[.im (.int i)]=>P (.im (.int i)) O
 |[.im (.bool c)]=>P (.im (.int (if c then 1 else 0))) O
 |_=>False
theorem yq:xu K (λxs H Q=>(∃i,xs=[.int i]/\Q (.int i) H)\/∃k,xs=[.bl k]/\Q (.int (if k then 1 else 0)) H) FF:=λw O H vs xs P Q r a hf q=>by
 unfold FF at hf;split at hf
 .obtain⟨v,us,rfl,h1,h2⟩:=a.aR;rw[h2.b9,ll h1];exact .inl ⟨_,rfl,q _ _ O w H hf (cg.refl _ _ _) r (.int _)⟩
 .obtain⟨v,us,rfl,h1,h2⟩:=a.aR;rw[h2.b9,tV h1];exact .inr ⟨_,rfl,q _ _ O w H hf (cg.refl _ _ _) r (.int _)⟩
 .exact hf.elim
def rg:AV->Option (Ξ1)
 |.im (.list ds)=>some ds
 |.im (.tuple ds)=>some ds
 |_=>none
theorem iq {w:Wd}{O:aM}{H:Hp}{v:V}{x:AV}{ds:Ξ1}(h:rg x=some ds)(a:jQ K w (G w O H) v x):∃p us,v=.ref p/\(bA K0 H p us\/aG K0 H p us)/\aN (G w O H) us ds:=by
 unfold rg at h;split at h
 .cases h
  obtain⟨p,us,rfl,g1,t1⟩:=gP a;exact⟨p,us,rfl,.inl (bA.of g1),t1⟩
 .cases h
  obtain⟨p,us,rfl,g1,t1⟩:=du a;exact⟨p,us,rfl,.inr (aG.of g1),t1⟩
 .cases h
def pK (f:Ξ1->(PyData->Prop)->Prop):vw:=λO xs P=>match xs with
 |[x]=>match rg x with
  |some ds=>f ds λd=>P (.im d) O
  |none=>False
 |_=>False
def vN:vw:=pK λds P=>∃ns:Γ3,ds=ns.map .int/\P (.int ns.sum)
theorem oE:xu K Il vN:=λw O H vs xs P Q r a hf q=>by
 unfold vN pK at hf;split at hf
 .split at hf
  .rename_i ds hd;obtain⟨v,us,rfl,h1,h2⟩:=a.aR;rw[h2.b9];obtain⟨p,nA,rfl,hs,t1⟩:=iq hd h1;obtain⟨ns,rfl,h⟩:=hf;rw[j5 t1] at hs;exact⟨p,ns,rfl,hs,q _ _ O w H h (cg.refl _ _ _) r (.int _)⟩
  .exact hf.elim
 .exact hf.elim
def Kr:vw:=pK λds P=>∃ns:Γ3,ds=ns.map .int/\ns≠[]/\∀m,m∈ns->(∀n∈ns,n<=m)->P (.int m)
theorem MK:xu K Im Kr:=λw O H vs xs P Q r a hf q=>by
 unfold Kr pK at hf;split at hf
 .split at hf
  .rename_i ds hd;obtain⟨v,us,rfl,h1,h2⟩:=a.aR;rw[h2.b9];obtain⟨p,nA,rfl,hs,t1⟩:=iq hd h1;obtain⟨ns,rfl,cX,h⟩:=hf;rw[j5 t1] at hs;exact⟨p,ns,rfl,hs,cX,λm h3 h4=>q _ _ O w H (h m h3 h4) (cg.refl _ _ _) r (.int _)⟩
  .exact hf.elim
 .exact hf.elim
def KQ:vw:=pK λds P=>∃ns:List Bool,ds=ns.map .bool/\P (.bool (ns.any id))
def tX:vw:=pK λds P=>∃ns:List Bool,ds=ns.map .bool/\P (.bool (ns.all id))
theorem Nf (ns:List Bool):(ns.map V.bl).any tv=ns.any id:=by induction ns with |nil=>rfl |cons n ns ih=>simp only[Yj,Xw,ih];rfl
theorem Ng (ns:List Bool):(ns.map V.bl).all tv=ns.all id:=by induction ns with |nil=>rfl |cons n ns ih=>simp only[Yj,Xe,ih];rfl
theorem uB (ns:List Bool):(ns.map V.bl).all de=true:=by induction ns with |nil=>rfl |cons n ns ih=>simp only[Yj,Xe,ih];rfl
theorem MQ:xu K Ir KQ:=λw O H vs xs P Q r a hf q=>by
 unfold KQ pK at hf;split at hf
 .split at hf
  .rename_i ds hd;obtain⟨v,us,rfl,h1,h2⟩:=a.aR;rw[h2.b9];obtain⟨p,nA,rfl,hs,t1⟩:=iq hd h1;obtain⟨ns,rfl,h⟩:=hf;rw[B9 t1] at hs;refine⟨p,_,rfl,hs,uB ns,?_⟩;rw[Nf];exact q _ _ O w H h (cg.refl _ _ _) r (.bl _)
  .exact hf.elim
 .exact hf.elim
theorem lT:xu K Is tX:=λw O H vs xs P Q r a hf q=>by
 unfold tX pK at hf;split at hf
 .split at hf
  .rename_i ds hd;obtain⟨v,us,rfl,h1,h2⟩:=a.aR;rw[h2.b9];obtain⟨p,nA,rfl,hs,t1⟩:=iq hd h1;obtain⟨ns,rfl,h⟩:=hf;rw[B9 t1] at hs;refine⟨p,_,rfl,hs,uB ns,?_⟩;rw[Ng];exact q _ _ O w H h (cg.refl _ _ _) r (.bl _)
  .exact hf.elim
 .exact hf.elim
def iI:vw:=λO xs P=>match xs with
 |[.own k]=>∃ds:Ξ1,O[k]?=some (some (ds.map .im))/\P (.im (.tuple ds)) O
 |[x]=>match rg x with
  |some ds=>P (.im (.tuple ds)) O
  |none=>False
 |_=>False
theorem vp:xu K Ik iI:=λw O H vs xs P Q r a hf q=>by
 unfold iI at hf;split at hf
 .obtain⟨ds,hc,hf⟩:=hf;obtain⟨v,us,rfl,h1,h2⟩:=a.aR;rw[h2.b9];obtain⟨p2,e1,rfl⟩:=h1;obtain⟨p1,nA,h0,g1,t1⟩:=r.pJ _ _ hc;rw[h0] at e1;cases Option.some.inj e1;refine⟨_,nA,rfl,.inl ⟨bA.of g1,λl hl=>?_⟩⟩;obtain⟨r1,e1,t2⟩:=jz r hl (aY.tr t1);exact q _ _ O w _ hf e1 r1 t2
 .rename_i x _;split at hf
  .rename_i ds hd;obtain⟨v,us,rfl,h1,h2⟩:=a.aR;rw[h2.b9];unfold rg at hd;split at hd
   .cases hd
    obtain⟨p,nA,rfl,g1,t1⟩:=gP h1;refine⟨p,nA,rfl,.inl ⟨bA.of g1,λl hl=>?_⟩⟩;obtain⟨r1,e1,t2⟩:=jz r hl t1;exact q _ _ O w _ hf e1 r1 t2
   .cases hd
    obtain⟨p,nA,rfl,g1,t1⟩:=du h1;exact⟨p,nA,rfl,.inr ⟨aG.of g1,q _ _ O w _ hf (cg.refl _ _ _) r h1⟩⟩
   .cases hd
  .exact hf.elim
 .exact hf.elim
def Ky:vw:=pK λds P=>P (.list ds)
theorem ML:xu K BF Ky:=λw O H vs xs P Q r a hf q=>by
 unfold Ky pK at hf;split at hf
 .split at hf
  .rename_i ds hd;obtain⟨v,us,rfl,h1,h2⟩:=a.aR;rw[h2.b9];obtain⟨p,nA,rfl,hs,t1⟩:=iq hd h1;refine⟨p,nA,rfl,hs,λl hl=>?_⟩;obtain⟨r1,e1,t2⟩:=kN r hl t1;exact q _ _ O w _ hf e1 r1 t2
  .exact hf.elim
 .exact hf.elim
def FD:vw:=λO xs P=>match xs with
 |[x]=>match rg x with
  |some ds=>P (.own O.length) (O++[some (ds.map .im)])
  |none=>False
 |_=>False
theorem Hl:xu K BF FD:=λw O H vs xs P Q r a hf q=>by
 unfold FD at hf;split at hf
 .split at hf
  .rename_i ds hd;obtain⟨v,us,rfl,h1,h2⟩:=a.aR;rw[h2.b9];obtain⟨p,nA,rfl,hs,t1⟩:=iq hd h1;refine⟨p,nA,rfl,hs,λl hl=>?_⟩;obtain⟨r1,e1,t2⟩:=r.own hl (aN.U5 t1);exact q _ _ _ _ _ hf e1 r1 ⟨l,t2,rfl⟩
  .exact hf.elim
 .exact hf.elim
theorem tyG {w:Wd}{O:aM}{H:Hp}{v:V}{d:PyData}(h:cx (G w O H) v d):iS K H v (.type (X3 d)):=by
 cases h with
 |bO=>exact .bO
 |bl c=>exact .bl c
 |int i=>exact .int i
 |str x _=>exact .str x
 |lst h1 _=>exact .lst (gn h1).1
 |tup h1 _=>exact .tup (gn h1).1
def nL (f:PyData->Bool)(M:ME):ME:=λsl O Q=>M sl O λx O1=>match x with
 |.im d=>Q (.im (.bool (f d))) O1
 |_=>False
theorem uI {f:PyData->Bool}{c:Value}{M:ME}{QX:Addr->aM->Prop}{E:XK}(hk:∀d,(∀kvs,d≠.dict kvs)->PySem.W.kitOne K (.type (X3 d)) c=some (f d)):∀σ H Q,bJ K QX E (nL f M) σ H Q->JY K c (bJ K QX E M) σ H Q:=λσ H Q ⟨w,O,sl,Q0,c',m,q⟩=>⟨w,O,sl,_,c',m,λx O1 v w1 H1 h1 e1 r1 a1=>by
 split at h1
 .rename_i d;exact⟨_,f d,tyG a1,hk d (λkvs z=>by subst z;cases a1),q _ O1 _ w1 H1 h1 e1 r1 (.bl _)⟩
 .exact h1.elim⟩
end
section
variable {K:Θ1}{QX:Addr->aM->Prop}{E:XK}{X:Cx}{w:Wd}{O:aM}{H:Hp}
structure Go (M:MS)(D:xT)(sl:iA)(O:aM):Prop where
 go:M D sl O
def aB (M N:MS):MS:=λD sl O=>M { D with nx:=λgE O'=>Go N D gE O' } sl O
def cb:MS:=λD sl O=>D.nx sl O
theorem lx:iH X [] (kh K QX E cb):=iH.imp tw λD σ H ⟨w,O,sl,D0,c,m,hn,hb,hc,hr⟩=>hn sl O w H σ m c (cg.refl _ _ _)
theorem bR {st:Stmt}{fh:List Stmt}{M N:MS}(h1:PS X st (kh K QX E M))(h2:iH X fh (kh K QX E N)):iH X (st::fh) (kh K QX E (aB M N)):=iH.imp (dz h1 h2) λD σ H ⟨w,O,sl,D0,c,m,hn,hb,hc,hr⟩ =>
 ⟨w,O,sl,_,c,m,λTg O1 w1 H1 HE h1 c1 e1=>⟨w1,O1,Tg,D0,c1,h1.go,λcv O2 w2 H2 dg h2 c2 e2=>hn cv O2 w2 H2 dg h2 c2 (e1.trans e2),λcv O2 w2 H2 dg h2 c2 e2=>hb cv O2 w2 H2 dg h2 c2 (e1.trans e2),λcv O2 w2 H2 dg h2 c2 e2=>hc cv O2 w2 H2 dg h2 c2 (e1.trans e2),λx O2 w2 H2 v h2 e2 r2 a2=>hr x O2 w2 H2 v h2 (e1.trans e2) r2 a2⟩,hb,hc,hr⟩
theorem cM {st:Stmt}{M:MS}(h1:PS X st (kh K QX E M)):iH X [st] (kh K QX E M):=cT h1
def iX (M:ME):MS:=λD sl O=>M sl O λ_ O1=>D.nx sl O1
theorem EB {e:Expr}{M:ME}{pos:Pos}(he:PE X e (bJ K QX E M))(hs:swapsWith e none pos.line X.env=pure false:=by rfl):PS X (.Expr e pos) (kh K QX E (iX M)):=PS.imp (ye he hs) λD σ H ⟨w,O,sl,D0,c,m,hn,hb,hc,hr⟩=>⟨w,O,sl,_,c,m,λx O1 v w1 H1 h1 e1 r1 a1=>hn sl O1 w1 H1 σ h1 (c.ex e1.ex r1) e1⟩
def bS (M:ME):MS:=λD sl O=>M sl O D.rt
theorem fc {e:Expr}{M:ME}{pos:Pos}(he:PE X e (bJ K QX E M)):PS X (.Return (some e) pos) (kh K QX E (bS M)):=PS.imp (eG he) λD σ H ⟨w,O,sl,D0,c,m,hn,hb,hc,hr⟩=>⟨w,O,sl,_,c,m,λx O1 v w1 H1 h1 e1 r1 a1=>hr x O1 w1 H1 v h1 e1 r1 a1⟩
def di (C:MT)(M N:MS):MS:=λD sl O=>C sl O λc O1=>(c=true->M D sl O1)/\(c=false->N D sl O1)
theorem lw {t:Expr}{a b:List Stmt}{C:MT}{M N:MS}{pos:Pos}(hc:PT X t (lj K QX E C))(ha:iH X a (kh K QX E M))(hb:iH X b (kh K QX E N)):PS X (.If t a b pos) (kh K QX E (di C M N)):=PS.imp (dq hc ha hb) λD σ H ⟨w,O,sl,D0,c,m,hn,hb,hc,hr⟩=>⟨w,O,sl,_,c,m,λx O1 w1 H1 h1 e1 r1=>by
 have z:∀{M:MS},M D0 sl O1->kh K QX E M D σ H1:=λh=>⟨w1,O1,sl,D0,c.ex e1.ex r1,h,λcv O2 w2 H2 dg h2 c2 e2=>hn cv O2 w2 H2 dg h2 c2 (e1.trans e2),λcv O2 w2 H2 dg h2 c2 e2=>hb cv O2 w2 H2 dg h2 c2 (e1.trans e2),λcv O2 w2 H2 dg h2 c2 e2=>hc cv O2 w2 H2 dg h2 c2 (e1.trans e2),λx O2 w2 H2 v h2 e2 r2 a2=>hr x O2 w2 H2 v h2 (e1.trans e2) r2 a2⟩
 cases x with
 |true=>exact aU (z (h1.1 rfl))
 |false=>exact bC (z (h1.2 rfl))⟩
abbrev MG:=AV->iA->aM->(iA->aM->Prop)->Prop
abbrev ES:=List AV->iA->aM->(iA->aM->Prop)->Prop
def vn (K:Θ1)(QX:Addr->aM->Prop)(E:XK)(mg:MG):TG:=λv σ H Q=>∃w O sl x Q0,mX K QX E w O H σ sl/\jQ K w (G w O H) v x/\mg x sl O Q0/\∀gE O' w' H' aC,Q0 gE O'->mX K QX E w' O' H' aC gE->cg w O H w' O' H'->Q aC H'
def Bf (K:Θ1)(QX:Addr->aM->Prop)(E:XK)(mg:ES):zh:=λvs σ H Q=>∃w O sl xs Q0,mX K QX E w O H σ sl/\aY K w (G w O H) vs xs/\mg xs sl O Q0/\∀gE O' w' H' aC,Q0 gE O'->mX K QX E w' O' H' aC gE->cg w O H w' O' H'->Q aC H'
theorem PG.imp {tg:Expr}{t t':TG}(h:PG X tg t)(i:∀v σ H Q,t' v σ H Q->t v σ H Q):PG X tg t':=λaa s σ H v u Q I r q=>h aa s σ H v u Q I r (i v σ H Q q)
theorem vt.imp {tg:Ξ2}{t t':zh}(h:vt X tg t)(i:∀v σ H Q,t' v σ H Q->t v σ H Q):vt X tg t':=λaa s σ H v u Q I r q=>h aa s σ H v u Q I r (i v σ H Q q)
def aW (i:Nat):MG:=λx sl O Q=>Q (sl.set i (some x)) O
theorem mX.put {σ:St}{sl:iA}(c:mX K QX E w O H σ sl){v:V}{x:AV}(a:jQ K w (G w O H) v x)(i:Nat):mX K QX E w O H (σ.set i (some v)) (sl.set i (some x)):=⟨c.ro,c.so.set a i,c.zx⟩
theorem yV {i:Nat}{tg:Expr}(h:PG X tg (cA i)):PG X tg (vn K QX E (aW i)):=PG.imp h λv σ H Q ⟨w,O,sl,x,Q0,c,a,m,q⟩=>q _ O w H _ m (c.put a i) (cg.refl _ _ _)
def gh:ES:=λxs sl O Q=>match xs with
 |[]=>Q sl O
 |_=>False
def bE (t:MG)(u:ES):ES:=λxs sl O Q=>match xs with
 |x::r=>t x sl O λgE O'=>u r gE O' Q
 |_=>False
theorem Ey:vt X [] (Bf K QX E gh):=vt.imp EC λv σ H Q ⟨w,O,sl,x,Q0,c,a,m,q⟩=>by
 unfold gh at m;split at m
 .exact⟨a.b9,q _ O w H _ m c (cg.refl _ _ _)⟩
 .exact m.elim
theorem pz {e:Expr}{es:Ξ2}{t:MG}{u:ES}(h1:PG X e (vn K QX E t))(h2:vt X es (Bf K QX E u))(hs:(assignEach (e::es) X.env).map (·.2)=assign e X.env::(assignEach es X.env).map (·.2):=by rfl):vt X (e::es) (Bf K QX E (bE t u)):=vt.imp (qX h1 h2 hs) λv σ H Q ⟨w,O,sl,x,Q0,c,a,m,q⟩=>by
 unfold bE at m;split at m
 .obtain⟨v1,us,rfl,a1,a2⟩:=a.aR;exact⟨v1,us,rfl,w,O,sl,_,_,c,a1,m,λTg O1 w1 H1 HE h1 c1 e1=>⟨w1,O1,Tg,_,_,c1,a2.ex e1.ex,h1,λcv O2 w2 H2 dg h2 c2 e2=>q cv O2 w2 H2 dg h2 c2 (e1.trans e2)⟩⟩
 .exact m.elim
def vA (n:Nat)(t:ES):MG:=λx sl O Q=>match rg x with
 |some ds=>ds.length=n/\t (ds.map .im) sl O Q
 |none=>False
theorem PG.or {tg:Expr}{t t':TG}(h:PG X tg t)(h':PG X tg t'):PG X tg (λv σ H Q=>t v σ H Q\/t' v σ H Q):=λaa s σ H v u Q I r q=>q.elim (λz=>h aa s σ H v u Q I r z) λz=>h' aa s σ H v u Q I r z
theorem gA {es:Ξ2}{k:Nat}{t:ES}{n:Nat}{pos:Pos}(hc:X.calm=true)(h:vt X es (Bf K QX E t))(hn:(assignEach es X.env).length=n:=by rfl)(lz:(assignEach es X.env).findIdx? (·.1)=none:=by rfl):PG X (.Tuple es k pos) (vn K QX E (vA n t)) :=
 PG.imp (PG.or (gr hc h hn lz) (LO hc h hn lz)) λv σ H Q ⟨w,O,sl,x,Q0,c,a,m,q⟩=>by
  unfold vA at m;split at m
  .rename_i ds hd;obtain⟨m1,m2⟩:=m;obtain⟨p,us,rfl,hs,t1⟩:=iq hd a;have hl:us.length=n:=by rw[t1.len];exact m1
   have hq:Bf K QX E t us σ H Q:=⟨w,O,sl,_,_,c,aN.U5 t1,m2,q⟩;rcases hs with hs |hs
   .exact .inr ⟨p,us,rfl,hs,hl,hq⟩
   .exact .inl ⟨p,us,rfl,hs,hl,hq⟩
  .exact m.elim
def EZ (Mo Mi:ME):MG:=λx sl O Q=>Mo sl O λo O1=>Mi sl O1 λi O2=>match o,i with
 |.own k,.im (.int i)=>∃c j,O2[k]?=some (some c)/\tK c.length i=some j/\Q sl (O2.set k (some (c.set j x)))
 |_,_=>False
theorem jb {o i:Expr}{Mo Mi:ME}{pos:Pos}(ho:PE X o (bJ K QX E Mo))(hi:PE X i (bJ K QX E Mi))(ha:∀v,assign (.Subscript o i pos) X.env v=(do
  let ov <- holding [v] (eval o X.env);let iv <- holding [v,ov] (eval i X.env)
  standAt pos
  holding [v,ov,iv] (setItem ov iv v)
  release [v,ov,iv] []):=by intro _;rfl):PG X (.Subscript o i pos) (vn K QX E (EZ Mo Mi)):=PG.imp (wc ho hi oO ha) λv σ H Q ⟨w,O,sl,x,Q0,c,a,m,q⟩ =>
 ⟨w,O,sl,_,c,m,λo' O1 v1 w1 H1 h1 e1 r1 a1=>⟨w1,O1,sl,_,c.ex e1.ex r1,h1,λi' O2 v2 w2 H2 h2 e2 r2 a2=>by
  split at h2
  .obtain⟨c',j,jN,hj,h2⟩:=h2;have U0:=e1.trans e2;obtain⟨p2,e3,rfl⟩:=a1.ex e2.ex;obtain⟨p1,us,h0,g1,t1⟩:=r2.pJ _ _ jN;rw[h0] at e3;cases Option.some.inj e3;obtain⟨r3,e3⟩:=r2.put jN h0 g1 (t1.set (a.ex U0.ex) j);exact⟨_,us,_,j,rfl,ll a2,g1,by rw[t1.1];exact hj,q sl _ w2 _ σ h2 ((c.ex U0.ex r2).ex e3.ex r3) (U0.trans e3)⟩
  .exact h2.elim⟩⟩
def aX (M:ME)(mg:MG):MS:=λD sl O=>M sl O λx O1=>mg x sl O1 D.nx
theorem kW {t:TE}{g:TG}{M:ME}{mg:MG}(ht:∀σ H Q,bJ K QX E M σ H Q->t σ H Q)(hg:∀v σ H Q,vn K QX E mg v σ H Q->g v σ H Q):∀D σ H,kh K QX E (aX M mg) D σ H->Fj t g D σ H:=λD σ H ⟨w,O,sl,D0,c,m,hn,hb,hc,hr⟩ =>
 ht σ H _ ⟨w,O,sl,_,c,m,λx O1 v w1 H1 h1 e1 r1 a1=>hg v σ H1 _ ⟨w1,O1,sl,x,_,c.ex e1.ex r1,a1,h1,λcv O2 w2 H2 dg h2 c2 e2=>hn cv O2 w2 H2 dg h2 c2 (e1.trans e2)⟩⟩
theorem yT {tg e:Expr}{M:ME}{mg:MG}{pos:Pos}(he:PE X e (bJ K QX E M))(hg:PG X tg (vn K QX E mg))(hs:swapsWithSole [tg] e pos.line X.env=pure false:=by rfl)(hw:swappedStores [tg] e X.env=pure none:=by rfl)(h1:(assignEach [tg] X.env).map (·.2)=[assign tg X.env]:=by rfl):PS X (.Assign [tg] e pos) (kh K QX E (aX M mg)):=PS.imp (j3 he hg hs hw h1) (kW (λ_ _ _ z=>z) λ_ _ _ _ z=>z)
theorem oJ {i:Nat}:∀v σ H Q,vn K QX E (aW i) v σ H Q->cA i v σ H Q:=λv σ H Q ⟨w,O,sl,x,Q0,c,a,m,q⟩=>q _ O w H _ m (c.put a i) (cg.refl _ _ _)
theorem i9 {i:Nat}{x:Str}{e:Expr}{M:ME}{pos mB:Pos}(hN:X.N.Nodup)(hi:X.N[i]?=some x)(hx:Loc X.env.scope x)(he:PE X e (bJ K QX E M))(hs:swapsWith e (some (.Name x mB)) pos.line X.env=pure false:=by rfl)(hf:X.fn x=true\/X.env.scope.names.lookup x=some .local:=by first |exact .inl rfl |exact .inr rfl |assumption) :
  PS X (.Assign [.Name x mB] e pos) (kh K QX E (aX M (aW i))):=PS.imp (lm hN hi hx he hs hf) (kW (λ_ _ _ z=>z) oJ)
def ou (K:Θ1)(J:It)(w:Wd)(O:aM)(H:Hp)(items:List AV):Prop:=∀O2 w2 H2,md w O H w2 O2 H2->aI K w2 O2 H2->∀i,(∀x,items[i]?=some x->J.go i H2/\∀v H3,J.xl i H2 v H3->cg w2 O2 H2 w2 O2 H3/\aI K w2 O2 H3/\jQ K w2 (G w2 O2 H3) v x)/\(items.length<=i->J.stop i H2)
def AR (K:Θ1)(QX:Addr->aM->Prop)(E:XK)(M:MA):TI:=λσ H R=>∃w O sl Q0,mX K QX E w O H σ sl/\M sl O Q0/\∀items O' w' H' J,Q0 items O'->cg w O H w' O' H'->aI K w' O' H'->ou K J w' O' H' items->R J H'
theorem PI.imp {tg iter:Expr}{t t':TI}(h:PI X tg iter t)(i:∀σ H R,t' σ H R->t σ H R):PI X tg iter t':=λaa s σ H R I q=>h aa s σ H R I (i σ H R q)
theorem Al {a:Addr}{ds:Ξ1}(t:cx (G w O H) (.ref a) (.list ds)):ou K (zk K0 a) w O H (ds.map .im):=λO2 w2 H2 e r i=>by
 cases cx.ay e.ay t with |lst h1 t1=>?_
 rename_i xs;have hh:=(gn h1).1;refine⟨λx hx=>?_,λhl=>⟨xs,bA.of hh,by rw[Zb] at hl;rw[t1.len];exact hl⟩⟩;rw[Zg] at hx;cases hd:ds[i]? with
 |none=>rw[hd] at hx;cases hx
 |some d =>
  rw[hd] at hx;cases Option.some.inj hx;obtain⟨v,hv,tv⟩:=t1.get hd;refine⟨⟨xs,v,bA.of hh,hv⟩,?_⟩;rintro v' H3 ⟨rfl,hy⟩;have:=hy xs (bA.of hh);rw[hv] at this;cases Option.some.inj this;exact⟨cg.refl _ _ _,r,tv⟩
theorem Aj {a:Addr}{ds:Ξ1}(t:cx (G w O H) (.ref a) (.tuple ds)):ou K (zj K0 a) w O H (ds.map .im):=λO2 w2 H2 e r i=>by
 cases cx.ay e.ay t with |tup h1 t1=>?_
 rename_i xs;have hh:=(gn h1).1;refine⟨λx hx=>?_,λhl=>⟨xs,aG.of hh,by rw[Zb] at hl;rw[t1.len];exact hl⟩⟩;rw[Zg] at hx;cases hd:ds[i]? with
 |none=>rw[hd] at hx;cases hx
 |some d =>
  rw[hd] at hx;cases Option.some.inj hx;obtain⟨v,hv,tv⟩:=t1.get hd;refine⟨⟨xs,v,aG.of hh,hv⟩,?_⟩;rintro v' H3 ⟨rfl,hy⟩;have:=hy xs (aG.of hh);rw[hv] at this;cases Option.some.inj this;exact⟨cg.refl _ _ _,r,tv⟩
def bU (M:ME):MA:=λsl O Q=>M sl O λx O1=>match rg x with
 |some ds=>Q (ds.map .im) O1
 |none=>False
def WX (tl:TE):TI:=λσ H R=>tl σ H λx H1=>(∃a,x=.ref a/\(∃xs,bA K0 H1 a xs)/\R (zk K0 a) H1)\/(∃a,x=.ref a/\(∃xs,aG K0 H1 a xs)/\R (zj K0 a) H1)
theorem LL {tg l:Expr}{tl:TE}(hl:PE X l tl):PI X tg l (WX tl):=by
 intro aa s σ H R I h;refine bi (hl aa s σ H _ I h) λv s1 ⟨x,H1,I1,r1,q1⟩=>?_
 rcases q1 with ⟨a,e,⟨xs,hq⟩,q⟩ |⟨a,e,⟨xs,hq⟩,q⟩
 .subst e;cases r1;obtain⟨its,rv,p,hz⟩:=I1.list hq.k0;refine wpAny_pyIter_list p.isList ⟨s1.heap.objs.size,[s1.heap.objs.size],_,zk K0 a,H1,rfl,I1.kept (t':=s1.toks) λb o e=>Heap.get?_push_of_some _ e,(qp (K:=X.K) a _).le yt,⟨_,Heap.get?_push_size _ rfl,rfl,rfl⟩,λb hb=>?_,q⟩;have e:b=s1.heap.objs.size:=by simpa using hb
  subst e;exact I1.jL (Ze _) (I1.bt.fresh (Ze _))
 .subst e;cases r1;obtain⟨its,rv,p,hz⟩:=I1.tuple hq.k0;refine wpAny_pyIter_tuple (show s1.heap.IsTuple a its.toArray from p) ⟨s1.heap.objs.size,[s1.heap.objs.size],_,zj K0 a,H1,rfl,I1.kept (t':=s1.toks) λb o e=>Heap.get?_push_of_some _ e,(oY (K:=X.K) a _).le CU,⟨_,Heap.get?_push_size _ rfl,rfl,rfl⟩,λb hb=>?_,q⟩;have e:b=s1.heap.objs.size:=by simpa using hb
  subst e;exact I1.jL (Ze _) (I1.bt.fresh (Ze _))
theorem km {tg e:Expr}{M:ME}(he:PE X e (bJ K QX E M)):PI X tg e (AR K QX E (bU M)):=PI.imp (LL he) λσ H R ⟨w,O,sl,Q0,c,m,q⟩=>⟨w,O,sl,_,c,m,λx O1 v w1 H1 h1 e1 r1 a1=>by
 split at h1
 .rename_i ds hd;unfold rg at hd;split at hd
  .cases hd
   obtain⟨a,xs,rfl,g1,t1⟩:=gP a1;exact .inl ⟨a,rfl,⟨xs,bA.of g1⟩,q _ O1 w1 H1 _ h1 e1 r1 (Al a1)⟩
  .cases hd
   obtain⟨a,xs,rfl,g1,t1⟩:=du a1;exact .inr ⟨a,rfl,⟨xs,aG.of g1⟩,q _ O1 w1 H1 _ h1 e1 r1 (Aj a1)⟩
  .cases hd
 .exact h1.elim⟩
def tS (lo:Int)(n:Nat):List AV:=(List.range n).map λi:Nat=>.im (.int (lo+(i:Int)))
theorem Ak {lo:Int}{n:Nat}:ou K (A9 lo n) w O H (tS lo n):=λO2 w2 H2 e r i=>by
 unfold tS;refine⟨λx hx=>?_,λhl=>by show n<=i;simpa using hl⟩;have hi:i<n:=by have:=(Zd.mp hx).1;simpa using this
 rw[Zg,Yu hi] at hx;cases Option.some.inj hx;refine⟨hi,?_⟩;rintro v H3 ⟨rfl,rfl⟩;exact⟨cg.refl _ _ _,r,.int _⟩
def gH (Ms:MA):MA:=λsl O Q=>Ms sl O λxs O1=>match xs with
 |[.im (.int n)]=>(-(2 ^ 62)<=n/\n<2 ^ 62)/\Q (tS 0 n.toNat) O1
 |_=>False
theorem qY {tg a:Expr}{Ms:MA}{p pos:Pos}(hg:Gl X "range")(hm:X.mg "range"=none)(ha:PA X [a] (mL K QX E Ms))(hs:starEach [a] X.env=[(false,eval a X.env)]:=by rfl):PI X tg (.Call (.Name "range" p) [a] [] pos) (AR K QX E (gH Ms)):=PI.imp (jE hg hm ha hs) λσ H R ⟨w,O,sl,Q0,c,m,q⟩=>⟨w,O,sl,_,c,m,λxs O1 vs w1 H1 h1 e1 r1 a1=>by
 split at h1
 .obtain⟨v,us,rfl,h3,h4⟩:=a1.aR;rw[h4.b9,ll h3];exact⟨_,rfl,h1.1.1,h1.1.2,q _ O1 w1 H1 _ h1.2 e1 r1 Ak⟩
 .exact h1.elim⟩
def oq (ds:Ξ1):List AV:=(List.range ds.length).map λi:Nat=>.im (.tuple [.int (i:Int),ds.getD i .none])
theorem wV {a:Addr}{ds:Ξ1}(t:cx (G w O H) (.ref a) (.tuple ds)):ou K (ET K0 a) w O H (oq ds):=λO2 w2 H2 e r i=>by
 cases cx.ay e.ay t with |tup h1 t1=>?_
 rename_i xs;have hh:=(gn h1).1;unfold oq;refine⟨λx hx=>?_,λhl=>⟨xs,aG.of hh,by rw[t1.len];simpa using hl⟩⟩;have hi:i<ds.length:=by have:=(Zd.mp hx).1;simpa using this
 rw[Zg,Yu hi] at hx;cases Option.some.inj hx;have hd:ds[i]?=some (ds.getD i .none):=by rw[gb (Zc hi)];exact Zc hi
 obtain⟨v,hv,tv⟩:=t1.get hd;refine⟨⟨xs,v,aG.of hh,hv⟩,?_⟩;rintro v' H3 ⟨p,hp,rfl,hy⟩;obtain⟨y,Jm,rfl⟩:=hy xs (aG.of hh);rw[hv] at Jm;cases Option.some.inj Jm;obtain⟨r4,e4,t4⟩:=jz r hp (.cons (.int (i:Int)) (.cons tv .nil));exact⟨e4,r4,t4⟩
def Tq (Ms:MA):MA:=λsl O Q=>Ms sl O λxs O1=>match xs with
 |[.im (.tuple ds)]=>Q (oq ds) O1
 |_=>False
theorem ym {a:Expr}{Ms:MA}{p pos:Pos}{nS:Ξ2}{kk}{rf:Pos}(hg:Gl X "enumerate")(hm:X.mg "enumerate"=none)(hb:bootBuiltins "enumerate"=some (.type "enumerate"))(ha:PA X [a] (mL K QX E Ms))(hs:starEach [a] X.env=[(false,eval a X.env)]:=by rfl):PI X (.Tuple nS kk rf) (.Call (.Name "enumerate" p) [a] [] pos) (AR K QX E (Tq Ms)):=PI.imp (kK hg hm hb ha hs) λσ H R ⟨w,O,sl,Q0,c,m,q⟩=>⟨w,O,sl,_,c,m,λxs O1 vs w1 H1 h1 e1 r1 a1=>by
 split at h1
 .obtain⟨v,us,rfl,h3,h4⟩:=a1.aR;rw[h4.b9];obtain⟨a,SR,rfl,g1,t1⟩:=du h3;exact⟨a,rfl,⟨SR,aG.of g1⟩,q _ O1 w1 H1 _ h1 e1 r1 (wV h3)⟩
 .exact h1.elim⟩
def vK (ds es:Ξ1):List AV:=(List.range ds.length).map λi:Nat=>.im (.tuple [ds.getD i .none,es.getD i .none])
theorem Ai {a b:Addr}{ds es:Ξ1}(t:cx (G w O H) (.ref a) (.tuple ds))(u:cx (G w O H) (.ref b) (.tuple es))(Ue:ds.length<=es.length):ou K (HU K0 a b) w O H (vK ds es):=λO2 w2 H2 e r i=>by
 cases cx.ay e.ay t with |tup h1 t1=>?_
 rename_i xs;cases cx.ay e.ay u with |tup h2 t2=>?_
 rename_i ys;have hh:=(gn h1).1;have Uk:=(gn h2).1;unfold vK;refine⟨λx hx=>?_,λhl=>⟨xs,ys,aG.of hh,aG.of Uk,by rw[t1.len];simpa using hl⟩⟩;have hi:i<ds.length:=by have:=(Zd.mp hx).1;simpa using this
 rw[Zg,Yu hi] at hx;cases Option.some.inj hx;have hd:ds[i]?=some (ds.getD i .none):=by rw[gb (Zc hi)];exact Zc hi
 have he:es[i]?=some (es.getD i .none):=by rw[gb (Zc (show i<es.length by omega))];exact Zc (by omega)
 obtain⟨v,hv,tv⟩:=t1.get hd;obtain⟨v2,Y1,tv2⟩:=t2.get he;refine⟨⟨xs,ys,v,v2,aG.of hh,aG.of Uk,hv,Y1⟩,?_⟩;rintro v' H3 ⟨p,hp,rfl,hy⟩;obtain⟨y,y2,Jm,Nz,rfl⟩:=hy xs ys (aG.of hh) (aG.of Uk);rw[hv] at Jm;rw[Y1] at Nz;cases Option.some.inj Jm;cases Option.some.inj Nz;obtain⟨r4,e4,t4⟩:=jz r hp (.cons tv (.cons tv2 .nil));exact⟨e4,r4,t4⟩
def R0 (Ms:MA):MA:=λsl O Q=>Ms sl O λxs O1=>match xs with
 |[.im (.tuple ds),.im (.tuple es)]=>ds.length<=es.length/\Q (vK ds es) O1
 |_=>False
theorem wj {a b:Expr}{Ms:MA}{p pos:Pos}{nS:Ξ2}{kk}{rf:Pos}(hg:Gl X "zip")(hm:X.mg "zip"=none)(hb:bootBuiltins "zip"=some (.type "zip"))(ha:PA X [a,b] (mL K QX E Ms))(hs:starEach [a,b] X.env=[(false,eval a X.env),(false,eval b X.env)]:=by rfl)(tD:starEach [b] X.env=[(false,eval b X.env)]:=by rfl):PI X (.Tuple nS kk rf) (.Call (.Name "zip" p) [a,b] [] pos) (AR K QX E (R0 Ms)):=PI.imp (yf hg hm hb ha hs tD) λσ H R ⟨w,O,sl,Q0,c,m,q⟩=>⟨w,O,sl,_,c,m,λxs O1 vs w1 H1 h1 e1 r1 a1=>by
 split at h1
 .obtain⟨v,us,rfl,h3,h4⟩:=a1.aR;obtain⟨v2,NP,rfl,h5,h6⟩:=h4.aR;rw[h6.b9];obtain⟨a,SR,rfl,g1,t1⟩:=du h3;obtain⟨b,ys',rfl,g2,t2⟩:=du h5;exact⟨a,b,rfl,⟨SR,aG.of g1⟩,⟨ys',aG.of g2⟩,q _ O1 w1 H1 _ h1.2 e1 r1 (Ai h3 h5 h1.1)⟩
 .exact h1.elim⟩
structure FB (tg:MG)(body:MS)(D:xT)(sl:iA)(items:List AV)(O1:aM):Prop where
 ex:∃Iv:Nat->iA->aM->Prop,Iv 0 sl O1 /\
 (∀i x gE O',items[i]?=some x->Iv i gE O'->tg x gE O' λcv O2=>Go body { D with nx:=Iv (i+1),ct:=Iv (i+1),bk:=D.nx } cv O2)/\∀gE O',Iv items.length gE O'->D.nx gE O'
def kz (it:MA)(tg:MG)(body:MS):MS:=λD sl O=>it sl O (FB tg body D sl)
theorem yU {tg iter:Expr}{body:List Stmt}{it:MA}{mg:MG}{M:MS}{pos:Pos}(hp:PassesOwn (model X.prog X.w) X.A X.env X.xe)(hc:X.calm=true)(hi:PI X tg iter (AR K QX E it))(hg:PG X tg (vn K QX E mg))(hb:iH X body (kh K QX E M))(hs:∀x,foldedSetIterable iter X.env x=pure x:=by intro _;rfl):PS X (.For tg iter body [] pos) (kh K QX E (kz it mg M)):=PS.imp (oA hp hc hi hg hb hs) λD σ H ⟨w,O,sl,D0,c,m,hn,Sd,hct,hr⟩=>⟨w,O,sl,_,c,m,λitems O1 w1 H1 J h1 e1 r1 Jl=>by
 obtain⟨Iv,hI0,hIs,hIe⟩:=h1;refine⟨λi m aC H'=>m=items.length-i/\i<=items.length/\∃w' O' gE,mX K QX E w' O' H' aC gE/\cg w1 O1 H1 w' O' H'/\Iv i gE O',⟨items.length,by simp,Yn _,w1,O1,sl,c.ex e1.ex r1,cg.refl _ _ _,hI0⟩,?_⟩;rintro i m aC H' ⟨rfl,Ue,w',O',gE,c',e',hv⟩;obtain⟨ig,ie⟩:=Jl O' w' H' e'.ex c'.ro i;rcases Zz i items.length with y |y
 .obtain⟨NE,E5⟩:=ig _ (Zc y);refine .inr ⟨NE,λdg H2=>∃w2 O2 cv,mX K QX E w2 O2 H2 dg cv/\cg w1 O1 H1 w2 O2 H2/\Iv (i+1) cv O2,λdg H2 ⟨w2,O2,cv,c2,e2,h2⟩=>⟨items.length-(i+1),by omega,rfl,y,w2,O2,cv,c2,e2,h2⟩,λv H3 Og=>?_⟩;obtain⟨e3,r3,a3⟩:=E5 v H3 Og;refine⟨w',O',gE,_,_,c'.ex e3.ex r3,a3,hIs i _ gE O' (Zc y) hv,λJg O4 w4 H4 X0 h4 c4 e4=>⟨w4,O4,Jg,_,c4,h4.go,λNR O5 w5 H5 nz h5 c5 e5=>⟨w5,O5,NR,c5,(e'.trans e3).trans (e4.trans e5),h5⟩,λNR O5 w5 H5 nz h5 c5 e5=>hn NR O5 w5 H5 nz h5 c5 (((e1.trans e').trans e3).trans (e4.trans e5)),λNR O5 w5 H5 nz h5 c5 e5=>⟨w5,O5,NR,c5,(e'.trans e3).trans (e4.trans e5),h5⟩,λx5 O5 w5 H5 v5 h5 e5 r5 a5=>hr x5 O5 w5 H5 v5 h5 (((e1.trans e').trans e3).trans (e4.trans e5)) r5 a5⟩⟩
 .have ei:i=items.length:=by omega
  subst ei;exact .inl ⟨ie (Ze _),hn gE O' w' H' aC (hIe gE O' hv) c' (e1.trans e')⟩⟩
end
section
variable {K:Θ1}{QX:Addr->aM->Prop}{E:XK}{X:Cx}{w:Wd}{O:aM}{H:Hp}
def Sub (n:Nat)(sl cv:iA):Prop:=cv.length=sl.length/\∀j,n<=j->cv[j]?=sl[j]?
theorem bX.sub {n:Nat}{ix:List Nat}{g:Hp}{σ:St}{sl cv:iA}(h:bX K w g σ cv)(s:Sub n (fj n ix sl) cv):bX K w g σ (fj n ix sl):=by
 refine⟨h.1.trans s.1,λi x hx=>?_⟩;rcases Zz i n with y |y
 .unfold fj at hx;rw[Zr (by simpa using y),Qi,if_pos y] at hx;cases Option.some.inj hx
 .exact h.2 i x (by rw[s.2 i y];exact hx)
theorem aY.me {w w':Wd}{g g':Hp}(hb:w'.d9=w.d9)(ha:w'.cF=w.cF)(s:ai g g'){vs:List V}{xs:List AV}(h:aY K w g vs xs):aY K w' g' vs xs:=⟨h.1,λi v x h1 h2=>jQ.me hb ha s (h.2 i v x h1 h2)⟩
theorem bX.me {w w':Wd}{g g':Hp}(hb:w'.d9=w.d9)(ha:w'.cF=w.cF)(s:ai g g'){σ:St}{sl:iA}(h:bX K w g σ sl):bX K w' g' σ sl:=⟨h.1,λi x h1=>by obtain⟨v,h2,h3⟩:=h.2 i x h1;exact⟨v,h2,jQ.me hb ha s h3⟩⟩
def Keeps (n:Nat)(mg:MG):Prop:=∀x sl O Q,mg x sl O Q->mg x sl O λcv O2=>Q cv O2/\Sub n sl cv
theorem iM {n i:Nat}(h:i<n):Keeps n (aW i):=λx sl O Q q=>⟨q,by simp,λj hj=>Zw (by omega)⟩
def rV (n:Nat)(mg:ES):Prop:=∀x sl O Q,mg x sl O Q->mg x sl O λcv O2=>Q cv O2/\Sub n sl cv
theorem g9 {n:Nat}:rV n gh:=λx sl O Q q=>by
 cases x with
 |nil=>exact⟨q,rfl,λ_ _=>rfl⟩
 |cons y r=>exact q
theorem EG {n i:Nat}{u:ES}(h:i<n)(hu:rV n u):rV n (bE (aW i) u):=λx sl O Q q=>by
 cases x with
 |nil=>exact q
 |cons y r =>
  have q':u r (sl.set i (some y)) O Q:=q;have:=hu r _ O _ q';show u r (sl.set i (some y)) O _;have imp:u r (sl.set i (some y)) O (λcv O2=>Q cv O2/\Sub n (sl.set i (some y)) cv)->u r (sl.set i (some y)) O (λcv O2=>Q cv O2/\Sub n sl cv):=λz=>by
   have e:(λcv (O2:aM)=>Q cv O2/\Sub n (sl.set i (some y)) cv)=λcv (O2:aM)=>Q cv O2/\Sub n sl cv:=by
    funext cv O2
    apply propext;unfold Sub;rw[Yl];constructor
    .rintro⟨h1,h2,h3⟩;exact⟨h1,h2,λj hj=>by rw[h3 j hj,Zw (by omega)]⟩
    .rintro⟨h1,h2,h3⟩;exact⟨h1,h2,λj hj=>by rw[h3 j hj,Zw (by omega)]⟩
   rw[e] at z;exact z
  exact imp this
theorem gZ {n m:Nat}{t:ES}(h:rV n t):Keeps n (vA m t):=λx sl O Q q=>by
 unfold vA at q ⊢;split
 .rename_i ds hd;rw[hd] at q;exact⟨q.1,h _ sl O Q q.2⟩
 .rename_i hd;rw[hd] at q;exact q
theorem Ei {n:Nat}{ix:List Nat}{mg:MG}{C:MT}{M:ME}{items:List AV}{J:It}{w1:Wd}{O1:aM}{H1:Hp}{σ:St}{sl:iA}(c1:mX K QX E w1 O1 H1 σ sl)(Jl:ou K J w1 O1 H1 items)(bN:items.length<=1000000)(Iv:Nat->List AV->aM->Prop)(h0:Iv 0 [] O1)
  (hs:∀i x zs O',items[i]?=some x->Iv i zs O'->mg x (fj n ix sl) O' λcv O2=>C cv O2 λc O3=>(c=true->M cv O3 λy O4=>Iv (i+1) (zs++[y]) O4)/\(c=false->Iv (i+1) zs O3))
  (hk:Keeps n mg) {Qf:VK}(acc:Addr) (bu:H1 acc=none)
  (he:∀zs ys O' w' H',Iv items.length zs O'->aI K w' O' H'->w'.cj=(acc,.lst ys)::w1.cj->md w1 O1 H1 w' O' H'->aY K w' (G w' O' H') ys zs->Qf (.ref acc) H') :
  cr (vn K QX E mg) (lj K QX E C) (bJ K QX E M) J acc (eF n ix σ) H1 Qf:=by
 obtain⟨r0,e0⟩:=c1.ro.hide (o:=.lst []) bu (λxs z=>by cases z);refine⟨λi m aC H'=>m=items.length-i/\i<=items.length/\∃w' O' ys zs,aI K w' O' H'/\w'.cj=(acc,.lst ys)::w1.cj/\md w1 O1 H1 w' O' H'/\bX K w' (G w' O' H') aC (fj n ix sl)/\aY K w' (G w' O' H') ys zs/\zs.length<=i/\Iv i zs O',
  ⟨items.length,by simp,Yn _,_,O1,[],[],r0,rfl,e0,(c1.so.U' n ix).ex e0,aY.nil,Ze _,h0⟩,?_⟩
 rintro i m aC H' ⟨rfl,Ue,w',O',ys,zs,r',Fa,e',s',a',AL,hv⟩;obtain⟨ig,ie⟩:=Jl O' w' H' e' r' i;rcases Zz i items.length with y |y
 .obtain⟨NE,E5⟩:=ig _ (Zc y);refine .inr ⟨NE,λdg H2=>∃w' O' ys zs,aI K w' O' H2/\w'.cj=(acc,.lst ys)::w1.cj/\md w1 O1 H1 w' O' H2/\bX K w' (G w' O' H2) dg (fj n ix sl)/\aY K w' (G w' O' H2) ys zs/\zs.length<=i+1/\Iv (i+1) zs O',λdg H2 z=>⟨items.length-(i+1),by omega,rfl,y,z⟩,λv H3 Og=>?_⟩;obtain⟨e3,r3,a3⟩:=E5 v H3 Og;have U4:mX K QX E w' O' H3 aC (fj n ix sl):=⟨r3,s'.ex e3.ex,λk VR SS Wa qx U2 Tl=>c1.zx k VR SS Wa qx ((e'.trans e3.ex).trans U2) Tl⟩;refine⟨w',O',_,_,_,U4,a3,hk _ _ _ _ (hs i _ zs O' (Zc y) hv),λJg O4 w4 H4 X0 h4 c4 e4=>⟨w4,O4,Jg,_,c4,h4.1,λb O5 w5 H5 h5 e5 r5=>?_⟩⟩;have Fd:=e3.trans (e4.trans e5);cases b with
  |false=>exact bC ⟨w5,O5,ys,zs,r5,Fd.cj.trans Fa,e'.trans Fd.ex,bX.sub (c4.so.ex e5.ex) h4.2,a'.ex Fd.ex,by omega,h5.2 rfl⟩
  |true =>
   refine aU ⟨w5,O5,Jg,_,c4.ex e5.ex r5,h5.1 rfl,λz O6 v6 w6 H6 h6 e6 r6 a6=>?_⟩;have JJ:=Fd.trans e6;have Oz:w6.cj=(acc,.lst ys)::w1.cj:=JJ.cj.trans Fa;obtain⟨n1,n2,n3,n4⟩:=r6.nh (acc,.lst ys) (by rw[Oz];exact Zo);obtain⟨r7,s7⟩:=r6.Cv (o':=.lst (ys++[v6])) Oz (λxs z=>by cases z);have JK:=e'.trans JJ.ex;refine⟨ys,n3,by rw[a'.1,sz];omega,{ w6 with cj:=(acc,.lst (ys++[v6]))::w1.cj },O6,ys++[v6],zs++[z],r7,rfl,⟨JK.bs,JK.cF,⟨[(acc,.lst (ys++[v6]))],rfl⟩,JK.ay.trans s7⟩,?_,?_,by rw[Zn];simp;omega,h6⟩
   .exact bX.me rfl rfl s7 (bX.sub ((c4.so.ex e5.ex).ex e6.ex) h4.2)
   .exact aY.me rfl rfl s7 ((a'.ex JJ.ex).app (aY.cons a6 aY.nil))
 .have ei:i=items.length:=by omega
  subst ei;exact .inl ⟨ie (Ze _),he zs ys O' w' H' hv r' Fa e' a'⟩
structure CB (n:Nat)(ix:List Nat)(mg:MG)(C:MT)(M:ME)(sl:iA)(Q:AV->aM->Prop)(items:List AV)(O1:aM):Prop where
 len:items.length<=1000000
 ex:∃Iv:Nat->Ξ1->aM->Prop,Iv 0 [] O1 /\
 (∀i x ds O',items[i]?=some x->Iv i ds O'->mg x (fj n ix sl) O' λcv O2=>C cv O2 λc O3=>(c=true->M cv O3 λy O4=>match y with
   |.im d=>Iv (i+1) (ds++[d]) O4
   |_=>False)/\(c=false->Iv (i+1) ds O3))/\∀ds O',Iv items.length ds O'->Q (.im (.list ds)) O'
def bp (n:Nat)(ix:List Nat)(it:MA)(mg:MG)(C:MT)(M:ME):ME:=λsl O Q=>it sl O (CB n ix mg C M sl Q)
structure We (n:Nat)(ix:List Nat)(mg:MG)(C:MT)(M:ME)(sl:iA)(Q:AV->aM->Prop)(items:List AV)(O1:aM):Prop where
 len:items.length<=1000000
 ex:∃Iv:Nat->List AV->aM->Prop,Iv 0 [] O1 /\
 (∀i x zs O',items[i]?=some x->Iv i zs O'->mg x (fj n ix sl) O' λcv O2=>C cv O2 λc O3=>(c=true->M cv O3 λy O4=>Iv (i+1) (zs++[y]) O4)/\(c=false->Iv (i+1) zs O3))/\∀zs O',Iv items.length zs O'->Q (.own O'.length) (O'++[some zs])
def lS (n:Nat)(ix:List Nat)(it:MA)(mg:MG)(C:MT)(M:ME):ME:=λsl O Q=>it sl O (We n ix mg C M sl Q)
theorem pd {n:Nat}{ix:List Nat}{it:MA}{mg:MG}{C:MT}{M:ME}(hk:Keeps n mg):∀σ H Q,bJ K QX E (lS n ix it mg C M) σ H Q->tZ (AR K QX E it) (vn K QX E mg) (lj K QX E C) (bJ K QX E M) n ix σ H Q :=
 λσ H Q ⟨w,O,sl,Q0,c,m,q⟩=>⟨w,O,sl,_,c,m,λitems O1 w1 H1 J h1 e1 r1 Jl acc bu=>by
  obtain⟨hl,Iv,h0,hs,he⟩:=h1;refine Ei (c.ex e1.ex r1) Jl hl Iv h0 hs hk acc bu λzs ys O' w' H' hv r' Fa e' a'=>?_
  obtain⟨r2,s2,zb⟩:=r'.FY Fa a';refine q _ _ _ { w' with cj:=w1.cj,cF:=w'.cF++[acc] } _ (he zs O' hv) ⟨e1.ex.trans ⟨e'.bs,?_,⟨[],rfl⟩,e'.ay.trans s2⟩,e1.cj⟩ r2 ⟨acc,zb,rfl⟩;obtain⟨t,ht⟩:=e'.cF;exact⟨t++[acc],by show w'.cF++[acc]=_;rw[ht,Xf]⟩⟩
theorem qz {n:Nat}{ix:List Nat}{it:MA}{mg:MG}{C:MT}{M:ME}(hk:Keeps n mg):∀σ H Q,bJ K QX E (bp n ix it mg C M) σ H Q->tZ (AR K QX E it) (vn K QX E mg) (lj K QX E C) (bJ K QX E M) n ix σ H Q :=
 λσ H Q ⟨w,O,sl,Q0,c,m,q⟩=>⟨w,O,sl,_,c,m,λitems O1 w1 H1 J h1 e1 r1 Jl acc bu=>by
  obtain⟨hl,Iv,h0,hs,he⟩:=h1;have hC:=c.ex e1.ex r1;obtain⟨r0,e0⟩:=hC.ro.hide (o:=.lst []) bu (λxs z=>by cases z);refine⟨λi m aC H'=>m=items.length-i/\i<=items.length/\∃w' O' ys zs,aI K w' O' H'/\w'.cj=(acc,.lst ys)::w1.cj/\md w1 O1 H1 w' O' H'/\bX K w' (G w' O' H') aC (fj n ix sl)/\aN (G w' O' H') ys zs/\zs.length<=i/\Iv i zs O',
   ⟨items.length,by simp,Yn _,_,O1,[],[],r0,rfl,e0,(hC.so.U' n ix).ex e0,.nil,Ze _,h0⟩,?_⟩
  rintro i m aC H' ⟨rfl,Ue,w',O',ys,zs,r',Fa,e',s',a',AL,hv⟩;obtain⟨ig,ie⟩:=Jl O' w' H' e' r' i;rcases Zz i items.length with y |y
  .obtain⟨NE,E5⟩:=ig _ (Zc y);refine .inr ⟨NE,λdg H2=>∃w' O' ys zs,aI K w' O' H2/\w'.cj=(acc,.lst ys)::w1.cj/\md w1 O1 H1 w' O' H2/\bX K w' (G w' O' H2) dg (fj n ix sl)/\aN (G w' O' H2) ys zs/\zs.length<=i+1/\Iv (i+1) zs O',λdg H2 z=>⟨items.length-(i+1),by omega,rfl,y,z⟩,λv H3 Og=>?_⟩;obtain⟨e3,r3,a3⟩:=E5 v H3 Og;have U4:mX K QX E w' O' H3 aC (fj n ix sl):=⟨r3,s'.ex e3.ex,λk VR SS Wa qx U2 Tl=>hC.zx k VR SS Wa qx ((e'.trans e3.ex).trans U2) Tl⟩;refine⟨w',O',_,_,_,U4,a3,hk _ _ _ _ (hs i _ zs O' (Zc y) hv),λJg O4 w4 H4 X0 h4 c4 e4=>⟨w4,O4,Jg,_,c4,h4.1,λb O5 w5 H5 h5 e5 r5=>?_⟩⟩;have Fd:=e3.trans (e4.trans e5);cases b with
   |false=>exact bC ⟨w5,O5,ys,zs,r5,Fd.cj.trans Fa,e'.trans Fd.ex,bX.sub (c4.so.ex e5.ex) h4.2,aN.ay Fd.ex.ay a',by omega,h5.2 rfl⟩
   |true =>
    refine aU ⟨w5,O5,Jg,_,c4.ex e5.ex r5,h5.1 rfl,λz O6 v6 w6 H6 h6 e6 r6 a6=>?_⟩;split at h6
    .rename_i d;have JJ:=Fd.trans e6;have Oz:w6.cj=(acc,.lst ys)::w1.cj:=JJ.cj.trans Fa;obtain⟨n1,n2,n3,n4⟩:=r6.nh (acc,.lst ys) (by rw[Oz];exact Zo);obtain⟨r7,s7⟩:=r6.Cv (o':=.lst (ys++[v6])) Oz (λxs z=>by cases z);have JK:=e'.trans JJ.ex;refine⟨ys,n3,by rw[a'.len,sz];omega,{ w6 with cj:=(acc,.lst (ys++[v6]))::w1.cj },O6,ys++[v6],zs++[d],r7,rfl,⟨JK.bs,JK.cF,⟨[(acc,.lst (ys++[v6]))],rfl⟩,JK.ay.trans s7⟩,?_,?_,by rw[Zn];simp;omega,h6⟩
     .exact bX.me rfl rfl s7 (bX.sub ((c4.so.ex e5.ex).ex e6.ex) h4.2)
     .exact aN.ay s7 ((aN.ay JJ.ex.ay a').app (.cons a6 .nil))
    .exact h6.elim
  .have ei:i=items.length:=by omega
   subst ei;refine .inl ⟨ie (Ze _),?_⟩;obtain⟨r2,s2,g2⟩:=r'.rD Fa;exact q _ _ _ { w' with cj:=w1.cj } _ (he zs O' hv) ⟨e1.ex.trans ⟨e'.bs,e'.cF,⟨[],rfl⟩,e'.ay.trans s2⟩,e1.cj⟩ r2 (.lst g2 (aN.ay s2 a'))⟩
theorem fo.imp {fg:Ξ2}{t t':TT}(h:fo X fg t)(i:∀σ H Q,t' σ H Q->t σ H Q):fo X fg t':=λaa s σ H Q I q=>h aa s σ H Q I (i σ H Q q)
def bZ:MT:=λ_ O Q=>Q true O
theorem iE:fo X [] (lj K QX E bZ):=fo.imp xp λσ H Q ⟨w,O,sl,Q0,c,m,q⟩=>q true O w H m (cg.refl _ _ _) c.ro
theorem rM {e:Expr}{M:MT}(h:PT X e (lj K QX E M)):fo X [e] (lj K QX E M):=fY h
section
variable {scope:Scope}{own cap:Δ2}{ix:List Nat}{tg iter c7:Expr}{fg:Ξ2}{it:MA}{mg:MG}{C:MT}{M:ME}{pos:Pos}
theorem iL (B:az X scope own cap ix)(hc:X.calm=true)(hi:PI X tg iter (AR K QX E it))(hk:Keeps own.length mg)
  (hb:∀C' fp s H,PG (gc X scope C' (own++cap) fp s H) tg (vn K QX E mg)/\fo (gc X scope C' (own++cap) fp s H) fg (lj K QX E C)/\PE (gc X scope C' (own++cap) fp s H) c7 (bJ K QX E M))
  (hs:∀x,foldedSetIterable iter X.env x=pure x:=by intro _;rfl):PE X (.ListComp c7 [⟨tg,iter,fg,0⟩] scope pos) (bJ K QX E (bp own.length ix it mg C M)):=PE.imp (tJ B hc hi hb hs) (qz hk)
theorem uD (B:az X scope own cap ix)(hc:X.calm=true)(hi:PI X tg iter (AR K QX E it))(hk:Keeps own.length mg)
  (hb:∀C' fp s H,PG (gc X scope C' (own++cap) fp s H) tg (vn K QX E mg)/\fo (gc X scope C' (own++cap) fp s H) fg (lj K QX E C)/\PE (gc X scope C' (own++cap) fp s H) c7 (bJ K QX E M))
  (hs:∀x,foldedSetIterable iter X.env x=pure x:=by intro _;rfl):PE X (.ListComp c7 [⟨tg,iter,fg,0⟩] scope pos) (bJ K QX E (lS own.length ix it mg C M)):=PE.imp (tJ B hc hi hb hs) (pd hk)
theorem yl {i:Nat}{y:Str}{py tQ:Pos}(hN:X.N.Nodup)(Oy:X.N[i]?=some y)(hx:X.env.scope.names.lookup y=some .local)(B:az X scope own cap ix)(hc:X.calm=true)(hi:PI X tg iter (AR K QX E it))(hk:Keeps own.length mg)
  (hb:∀C' fp s H,PG (gc X scope C' (own++cap) fp s H) tg (vn K QX E mg)/\fo (gc X scope C' (own++cap) fp s H) fg (lj K QX E C)/\PE (gc X scope C' (own++cap) fp s H) c7 (bJ K QX E M))
  (Oh:swapsWith (.ListComp c7 [⟨tg,iter,fg,0⟩] scope pos) (some (.Name y py)) tQ.line X.env=pure true:=by rfl)
  (hs:∀x,foldedSetIterable iter X.env x=pure x:=by intro _;rfl):PS X (.Assign [.Name y py] (.ListComp c7 [⟨tg,iter,fg,0⟩] scope pos) tQ) (kh K QX E (aX (bp own.length ix it mg C M) (aW i))):=PS.imp (yd hN Oy hx B hc hi hb Oh hs) (kW (qz hk) oJ)
theorem DX {i:Nat}{y:Str}{py tQ:Pos}(hN:X.N.Nodup)(Oy:X.N[i]?=some y)(hx:X.env.scope.names.lookup y=some .local)(B:az X scope own cap ix)(hc:X.calm=true)(hi:PI X tg iter (AR K QX E it))(hk:Keeps own.length mg)
  (hb:∀C' fp s H,PG (gc X scope C' (own++cap) fp s H) tg (vn K QX E mg)/\fo (gc X scope C' (own++cap) fp s H) fg (lj K QX E C)/\PE (gc X scope C' (own++cap) fp s H) c7 (bJ K QX E M))
  (Oh:swapsWith (.ListComp c7 [⟨tg,iter,fg,0⟩] scope pos) (some (.Name y py)) tQ.line X.env=pure true:=by rfl)
  (hs:∀x,foldedSetIterable iter X.env x=pure x:=by intro _;rfl):PS X (.Assign [.Name y py] (.ListComp c7 [⟨tg,iter,fg,0⟩] scope pos) tQ) (kh K QX E (aX (lS own.length ix it mg C M) (aW i))):=PS.imp (yd hN Oy hx B hc hi hb Oh hs) (kW (pd hk) oJ)
end
abbrev FM:=aM->List AV->(AV->aM->Prop)->(Addr->aM->Prop)->Prop
def qd (K:Θ1)(sp:Sp)(F:FM):Prop:=∀(w:Wd) (O:aM) (H:Hp) (vs:List V) (xs:List AV) (P:AV->aM->Prop) (PX:Addr->aM->Prop) (Q:VK) (E:XK),aI K w O H->aY K w (G w O H) vs xs->F O xs P PX ->
 (∀z q O' w' H',P q O'->cg w O H w' O' H'->aI K w' O' H'->jQ K w' (G w' O' H') z q->Q z H')->(∀c O' w' H',PX c O'->md w O H w' O' H'->aI K w' O' H'->E (.ref c) none H')->sp vs H Q E
def cZ (K:Θ1)(F:FM):Sp:=λvs H Q E=>∃w O xs P PX,aI K w O H/\aY K w (G w O H) vs xs/\F O xs P PX/\(∀z q O' w' H',P q O'->cg w O H w' O' H'->aI K w' O' H'->jQ K w' (G w' O' H') z q->Q z H')/\∀c O' w' H',PX c O'->md w O H w' O' H'->aI K w' O' H'->E (.ref c) none H'
theorem iN {F:FM}:qd K (cZ K F) F:=λw O H vs xs P PX Q E r a f q x=>⟨w,O,xs,P,PX,r,a,f,q,x⟩
def ax (F:FM)(QX:Addr->aM->Prop)(Ms:MA):ME:=λsl O Q=>Ms sl O λxs O1=>F O1 xs Q QX
theorem Hf {CX:xw}{k:Nat}{f:Addr}{fd:FuncData}{ps:Δ2}{sp:Sp}{F:FM}{x:Str}{e:Expr}{es:Ξ2}{p pos:Pos}{Ms:MA}(G':aJ X.prog X.w X.K X.mg X.base CX k f fd ps sp)(lk:qd K sp F)(hr:cz k X.A)(hg:Gl X x)(hm:X.mg x=some (.ref f))(hk:PySem.W.keepIn X.K (.ref f)=true)(hb:Binds X.K fd ps [])(hx:lV CX X E)
  (ha:PA X (e::es) (mL K QX E Ms)) (ma:(x == ("__debug__" : Str))=false:=by decide) (he:starEach (e::es) X.env=(false,eval e X.env)::starEach es X.env:=by rfl) (et:(backTo pos (starEach es X.env)).any (·.1)=false:=by rfl) :
  PE X (.Call (.Name x p) (e::es) [] pos) (bJ K QX E (ax F QX Ms)):=PE.imp (jV G' hr hg hm hk hb (A7:=[]) .nil hx ha ma he et) λσ H Q ⟨w,O,sl,Q0,c,m,q⟩=>⟨w,O,sl,_,c,m,λxs O1 vs w1 H1 h1 e1 r1 a1=>by
 show sp (vs++[]) H1 Q E;rw[Yg];exact lk w1 O1 H1 vs xs _ QX Q E r1 a1 h1 (λz z' O3 w3 H3 h3 e3 r3 a3=>q _ O3 z w3 H3 h3 (e1.trans e3) r3 a3) λk O' w' H' qx e' r'=>c.zx k O' w' H' qx (e1.ex.trans e') r'⟩
def cf:Addr->aM->Prop:=λ_ _=>False
theorem gS {k:Nat}{f:Addr}{fd:FuncData}{ps:Δ2}{sp:Sp}{F:FM}{x:Str}{e:Expr}{es:Ξ2}{p pos:Pos}{Ms:MA}(G':aJ X.prog X.w X.K X.mg X.base cH k f fd ps sp)(lk:qd K sp F)(hr:cz k X.A)(hg:Gl X x)(hm:X.mg x=some (.ref f))(hk:PySem.W.keepIn X.K (.ref f)=true)(hb:Binds X.K fd ps [])
  (ha:PA X (e::es) (mL K QX E Ms)) (ma:(x == ("__debug__" : Str))=false:=by decide) (he:starEach (e::es) X.env=(false,eval e X.env)::starEach es X.env:=by rfl) (et:(backTo pos (starEach es X.env)).any (·.1)=false:=by rfl) :
  PE X (.Call (.Name x p) (e::es) [] pos) (bJ K QX E (ax F cf Ms)):=PE.imp (jV G' hr hg hm hk hb (A7:=[]) .nil cw ha ma he et) λσ H Q ⟨w,O,sl,Q0,c,m,q⟩=>⟨w,O,sl,_,c,m,λxs O1 vs w1 H1 h1 e1 r1 a1=>by
 show sp (vs++[]) H1 Q E0;rw[Yg];exact lk w1 O1 H1 vs xs _ cf Q E0 r1 a1 h1 (λz z' O3 w3 H3 h3 e3 r3 a3=>q _ O3 z w3 H3 h3 (e1.trans e3) r3 a3) λk O' w' H' qx e' r'=>qx.elim⟩
def aZ (N:Δ2)(xs:List AV):iA:=xs.map some++List.replicate (N.length-xs.length) none
theorem mj {N:Δ2}{vs:List V}{xs:List AV}{g:Hp}(a:aY K w g vs xs):bX K w g (L2.start N vs) (aZ N xs):=by
 unfold L2.start aZ;refine⟨by simp[a.1],λi x hx=>?_⟩;rcases Zz i xs.length with y |y
 .rw[Zr (by simpa using y),Zg,Zc y] at hx;have ex:xs[i]=x:=by injection (Option.some.inj hx)
  have yv:i<vs.length:=by rw[a.1];exact y
  refine⟨vs[i],?_,a.2 i _ x (Zc yv) (by rw[Zc y,ex])⟩;rw[Zr (by simpa using yv),Zg,Zc yv];rfl
 .rw[Yt (by simpa using y),Qi] at hx;split at hx
  .cases Option.some.inj hx
  .cases hx
variable {P:Program}{wo:World}{mg:Θ3}{base:Heap}
theorem mQ {x qual:Str}{st:Stmt}{f:Addr}{fd:FuncData}{N ps:Δ2}{k:Nat}{F:FM}(U:cy K x qual st f fd)(S:ao N ps (aS st))(hl:∀O xs P PX,F O xs P PX->xs.length=ps.length)
  (hb:∀(bf:Value) (A:Around) (outer:List Env) (s:Shared) (H:Hp) (E:XK) (QX:Addr->aM->Prop),cz k (A.deeper (PyProof.Rows.envOfC qual (aS st) s.heap.objs.size f bf)) ->
   ∃M,iH (gI cH P wo K mg base N qual (aS st) f bf A outer s H E).N4 (pZ st) (kh K QX E M)/\∀O xs Pq,F O xs Pq QX->M { nx:=λ_ O'=>Pq (.im .none) O',rt:=Pq } (aZ N xs) O):aJ P wo K mg base cH (k+1) f fd ps (cZ K F):=by
 refine U.ok S (λvs H Q E ⟨w,O,xs,P,PX,r,a,h,q⟩=>by rw[a.1];exact hl O xs P PX h) (λbf A outer s H vs Q E hr ⟨w,O,xs,P',PX,r,a,h,q,x⟩=>?_);obtain⟨M,hM,hq⟩:=hb bf A outer s H E PX hr;exact⟨_,hM,w,O,aZ N xs,_,⟨r,mj a,x⟩,hq O xs P' h,λgE O' w' H' aC h' c' e'=>q _ _ O' w' H' h' e' c'.ro .bO,λgE O' w' H' aC h' c' e'=>h'.elim,λgE O' w' H' aC h' c' e'=>h'.elim,λx' O' w' H' v h' e' r' a'=>q v x' O' w' H' h' e' r' a'⟩
theorem Pt {x qual:Str}{st:Stmt}{f:Addr}{fd:FuncData}{N ps:Δ2}{k:Nat}{F:FM}(U:cy K x qual st f fd)(S:ao N ps (aS st))(hl:∀O xs P PX,F O xs P PX->xs.length=ps.length)
  (hb:∀(bf:Value) (A:Around) (outer:List Env) (s:Shared) (H:Hp) (E:XK) (QX:Addr->aM->Prop),cz k (A.deeper (PyProof.Rows.envOfC qual (aS st) s.heap.objs.size f bf)) ->
   ∃M,iH (gI (ko P wo) P wo K mg base N qual (aS st) f bf A outer s H E) (pZ st) (kh K QX E M)/\∀O xs Pq,F O xs Pq QX->M { nx:=λ_ O'=>Pq (.im .none) O',rt:=Pq } (aZ N xs) O):aJ P wo K mg base (ko P wo) (k+1) f fd ps (cZ K F):=by
 refine U.N3 S (λvs H Q E ⟨w,O,xs,P,PX,r,a,h,q⟩=>by rw[a.1];exact hl O xs P PX h) (λbf A outer s H vs Q E hr ⟨w,O,xs,P',PX,r,a,h,q,x⟩=>?_);obtain⟨M,hM,hq⟩:=hb bf A outer s H E PX hr;exact⟨_,hM,w,O,aZ N xs,_,⟨r,mj a,x⟩,hq O xs P' h,λgE O' w' H' aC h' c' e'=>q _ _ O' w' H' h' e' c'.ro .bO,λgE O' w' H' aC h' c' e'=>h'.elim,λgE O' w' H' aC h' c' e'=>h'.elim,λx' O' w' H' v h' e' r' a'=>q v x' O' w' H' h' e' r' a'⟩
def rq (Mo:ME)(Ms:MA):ME:=λsl O Q=>Mo sl O λo O1=>match o with
 |.own k=>(∃c,O1[k]?=some (some c))/\Ms sl O1 λxs O2=>match xs with
  |[y]=>∃c,O2[k]?=some (some c)/\c.length<sizeLine/\Q (.im .none) (O2.set k (some (c++[y])))
  |_=>False
 |_=>False
end
section
variable {K:Θ1}{QX:Addr->aM->Prop}{E:XK}{X:Cx}{w:Wd}{O:aM}{H:Hp}
theorem jc {o e:Expr}{Mo:ME}{Ms:MA}{fk bV:Pos}(ho:PE X o (bJ K QX E Mo))(ha:PA X [e] (mL K QX E Ms))
  (uh:attributeBase o "append" X.env (eval o X.env)=eval o X.env:=by rfl)
  (zq:((backTo bV (starEach [e] X.env)).all (λx=>!x.1)&&(backToKw bV (keywordEach [] X.env)).all (λx=>x.1.isSome)
   && decide ([e].length+([]:List Keyword).length+(if ([]:List Keyword).isEmpty then 0 else 1)<30))=true:=by rfl)
  (ug:(fk.endLine == bV.line)=true:=by rfl) (hs:starEach [e] X.env=(false,eval e X.env)::starEach [] X.env:=by rfl) (wt:(backTo bV (starEach [] X.env)).any (·.1)=false:=by rfl) :
  PE X (.Call (.Attribute o "append" fk) [e] [] bV) (bJ K QX E (rq Mo Ms)):=PE.imp (BU PySem.F.plainAttrs_list PySem.F.slot_list_append PySem.F.type_list_append jG ho ha uh zq ug hs wt) λσ H Q ⟨w,O,sl,Q0,c,m,q⟩=>⟨w,O,sl,_,c,m,λo' O1 v w1 H1 h1 e1 r1 a1=>by
 split at h1
 .obtain⟨⟨c0,hc0⟩,h1⟩:=h1;obtain⟨p,hp,rfl⟩:=a1;refine⟨.inl ⟨rfl,?_⟩,w1,O1,sl,_,c.ex e1.ex r1,h1,λxs O2 vs w2 H2 h2 e2 r2 a2=>?_⟩
  .obtain⟨p1,nA,h0,g1,t1⟩:=r1.pJ _ _ hc0;rw[hp] at h0;cases Option.some.inj h0;exact⟨nA,bA.of g1⟩
  .split at h2
   .obtain⟨c',jN,h2⟩:=h2;obtain⟨v1,us,rfl,b1,b2⟩:=a2.aR;rw[b2.b9];obtain⟨p1,nA,h0,g1,t1⟩:=r2.pJ _ _ jN;rw[e2.ex.at hp] at h0;cases Option.some.inj h0;obtain⟨r3,e3⟩:=r2.put jN (e2.ex.at hp) g1 (t1.app (aY.cons b1 aY.nil));exact⟨_,nA,v1,rfl,rfl,g1,by rw[t1.1];exact h2.1,q _ _ _ _ _ h2.2 ((e1.trans e2).trans e3) r3 .bO⟩
   .exact h2.elim
 .exact h1.elim⟩
structure nZ (O O':aM):Prop where
 len:O'.length=O.length
 at':∀j:Nat,O'[j]?=O[j]? \/ O'[j]?=some none
theorem nZ.refl (O:aM):nZ O O:=⟨rfl,λ_=>.inl rfl⟩
theorem nZ.set {O O':aM}(h:nZ O O')(k:Nat):nZ O (O'.set k none):=⟨by rw[Yl];exact h.len,λj=>by
 by_cases e:k=j
 .subst e;rcases Zz k O'.length with y |y
  .exact .inr (Yf y)
  .rw[List.set_eq_of_length_le y];exact h.at' k
 .rw[Zw e];exact h.at' j⟩
theorem aI.less (r:aI K w O H){O':aM}(h:nZ O O'):aI K w O' H/\cg w O H w O' H/\∀(j:Nat) a,O'[j]?=some none->w.cF[j]?=some a->G w O' H a=H a:=by
 have back:∀(j:Nat) c,O'[j]?=some (some c)->O[j]?=some (some c):=λj c hj=>by
  rcases h.at' j with e |e
  .rw[<- e];exact hj
  .rw[e] at hj;cases Option.some.inj hj
 have nQ:∀x,ku w O' x->ku w O x:=λx h=>by
  rcases h with h |h |⟨j,d,h1,h2⟩
  .exact .inl h
  .exact .inr (.inl h)
  .exact .inr (.inr ⟨j,d,h1,back j d h2⟩)
 have sg:ai (G w O H) (G w O' H):=λx o h=>by
  obtain⟨h1,h2⟩:=gn h;rw[iT (λz=>h2 (nQ x z))];exact h1
 have e:cg w O H w O' H:=⟨⟨⟨[],by simp⟩,⟨[],by simp⟩,⟨[],by simp⟩,sg⟩,rfl⟩;refine⟨⟨by rw[h.len];exact r.len,r.nd,r.al,r.nb,r.hn,r.nh,r.bg,λj d hj=>?_⟩,e,λj a hj ha=>?_⟩
 .obtain⟨a',us,h1,h2,h3⟩:=r.pJ j d (back j d hj);exact⟨a',us,h1,h2,h3.ex e.ex⟩
 .rw[iT];rintro(h1 |⟨o,h1⟩ |⟨i,d,h1,h2⟩)
  .exact r.nb _ h1 (Yc ha)
  .exact(r.nh _ h1).1 (Yc ha)
  .have:j=i:=(List.getElem?_inj (Zd.mp ha).1 r.nd).mp (ha.trans h1.symm);subst this;rw[hj] at h2;cases Option.some.inj h2
theorem aI.Jc (r:aI K w O H){O':aM}(h:nZ O O'){k:Nat}{ds:Ξ1}{a:Addr}(hk:O[k]?=some (some (ds.map .im)))(za:O'[k]?=some none)(ha:w.cF[k]?=some a):cx (G w O' H) (.ref a) (.list ds):=by
 obtain⟨r1,e1,g1⟩:=r.less h;obtain⟨a',vs,h1,h2,h3⟩:=r.pJ k _ hk;rw[ha] at h1;cases Option.some.inj h1;exact .lst (xs:=vs) (by rw[g1 k a za ha];exact h2) (aY.tr (h3.ex e1.ex))
theorem uv {α : Type}{xs:List α}{i:Nat}{x:α}(h:xs[i]?=some x):xs.set i x=xs:=by
 apply Qv;intro j;by_cases e:i=j
 .subst e;rw[Yf (Zd.mp h).1,h]
 .rw[Zw e]
def Kx (i:Nat)(M:MS):MS:=λD sl O=>∃(k:Nat) (ds:Ξ1),sl[i]?=some (some (.own k))/\O[k]?=some (some (ds.map .im))/\M D (sl.set i (some (.im (.list ds)))) (O.set k none)
theorem CI (i:Nat){Np:List Stmt}{M:MS}(h:iH X Np (kh K QX E M)):iH X Np (kh K QX E (Kx i M)):=iH.imp h λD σ H ⟨w,O,sl,D0,c,⟨k,ds,h1,h2,m⟩,hn,hb,hc,hr⟩=>by
 have hL:=(nZ.refl O).set k;obtain⟨r1,e1,_⟩:=c.ro.less hL;obtain⟨v,hv,a,ha,rfl⟩:=c.so.2 i _ h1;have t:=c.ro.Jc hL h2 (Yf (Zd.mp h2).1) ha;have c2:=(c.ex e1.ex r1).put (x:=.im (.list ds)) t i;rw[uv hv] at c2;exact⟨w,_,_,D0,c2,m,λcv O2 w2 H2 dg h2 c2 e2=>hn cv O2 w2 H2 dg h2 c2 (e1.trans e2),λcv O2 w2 H2 dg h2 c2 e2=>hb cv O2 w2 H2 dg h2 c2 (e1.trans e2),λcv O2 w2 H2 dg h2 c2 e2=>hc cv O2 w2 H2 dg h2 c2 (e1.trans e2),λx O2 w2 H2 v h2 e2 r2 a2=>hr x O2 w2 H2 v h2 (e1.trans e2) r2 a2⟩
def vD (O:aM):List Nat->aM
 |[]=>O
 |k::ks=>vD (O.set k none) ks
theorem k9:∀(ks:List Nat) {O O':aM},nZ O O'->nZ O (vD O' ks)
 |[],_,_,h=>h
 |k::ks,_,_,h=>k9 ks (h.set k)
theorem lc:∀(ks:List Nat) {O:aM}{j:Nat},O[j]?=some none->(vD O ks)[j]?=some none
 |[],_,_,h=>h
 |k::ks,O,j,h=>lc ks (by
  by_cases e:k=j
  .subst e;exact Yf (Zd.mp h).1
  .rw[Zw e];exact h)
theorem j9:∀(ks:List Nat) {O:aM}{j:Nat},j∈ks->j<O.length->(vD O ks)[j]?=some none
 |k::ks,O,j,h,hl=>by
  rcases Zf.mp h with e |e
  .subst e;exact lc ks (Yf hl)
  .exact j9 ks e (by rw[Yl];exact hl)
theorem j8:∀(ks:List Nat) {O:aM}{j:Nat},j∉ks->(vD O ks)[j]?=O[j]?
 |[],_,_,_=>rfl
 |k::ks,O,j,h=>by
  show(vD (O.set k none) ks)[j]?=_;rw[j8 ks (λz=>h (Zk _ z))];exact Zw (λ(z:k=j)=>h (by rw[z];exact Zo))
def qg (i:Nat)(M:MS):MS:=λD sl O=>∃(k:Nat) (ks:List Nat) (HQ:List (Ξ1)),sl[i]?=some (some (.own k))/\O[k]?=some (some (ks.map .own))/\ks.length=HQ.length/\(∀(j:Nat) kj,ks[j]?=some kj->O[kj]?=some (some ((HQ.getD j []).map .im))) /\
 M D (sl.set i (some (.im (.list (HQ.map .list))))) (vD O (k::ks))
theorem xZ {g:Hp}:∀{vs:List V}{ds:Ξ1},vs.length=ds.length->(∀(j:Nat) v d,vs[j]?=some v->ds[j]?=some d->cx g v d)->aN g vs ds
 |[],[],_,_=>.nil
 |v::vs,d::ds,h,f=>.cons (f 0 v d rfl rfl) (xZ (by simpa using h) λj v' d' h1 h2=>f (j+1) v' d' (by simpa using h1) (by simpa using h2))
theorem nj (i:Nat){Np:List Stmt}{M:MS}(h:iH X Np (kh K QX E M)):iH X Np (kh K QX E (qg i M)):=iH.imp h λD σ H ⟨w,O,sl,D0,c,⟨k,ks,HQ,h1,h2,hl,h3,m⟩,hn,hb,hc,hr⟩=>by
 have hL:=k9 (k::ks) (nZ.refl O);obtain⟨r1,e1,g1⟩:=c.ro.less hL;obtain⟨v,hv,a,ha,rfl⟩:=c.so.2 i _ h1;have HN:=(Zd.mp h2).1;obtain⟨a',vs,q1,q2,q3⟩:=c.ro.pJ k _ h2;rw[ha] at q1;cases Option.some.inj q1;have t:cx (G w (vD O (k::ks)) H) (.ref a) (.list (HQ.map .list)):=by
  refine .lst (xs:=vs) (by rw[g1 k a (j9 _ Zo HN) ha];exact q2) (xZ (by rw[q3.1,Zb,Zb,hl]) λj v d hv hd=>?_);have hj:j<HQ.length:=by have:=(Zd.mp hd).1;simpa using this
  have za:ks[j]?=some ks[j]:=Zc (by omega);have:=q3.2 j v (.own ks[j]) hv (by rw[Zg,za];rfl);obtain⟨p,hp,rfl⟩:=this;have hO:=h3 j _ za;rw[Zg,Zc hj] at hd;have Uy:d=.list (HQ.getD j []):=by rw[gb (Zc hj)];exact(Option.some.inj hd).symm
  rw[Uy];exact c.ro.Jc hL hO (j9 _ (Zk _ (Yc za)) (Zd.mp hO).1) hp
 have c2:=(c.ex e1.ex r1).put (x:=.im (.list (HQ.map .list))) t i;rw[uv hv] at c2;exact⟨w,_,_,D0,c2,m,λcv O2 w2 H2 dg h2 c2 e2=>hn cv O2 w2 H2 dg h2 c2 (e1.trans e2),λcv O2 w2 H2 dg h2 c2 e2=>hb cv O2 w2 H2 dg h2 c2 (e1.trans e2),λcv O2 w2 H2 dg h2 c2 e2=>hc cv O2 w2 H2 dg h2 c2 (e1.trans e2),λx O2 w2 H2 v h2 e2 r2 a2=>hr x O2 w2 H2 v h2 (e1.trans e2) r2 a2⟩
def PK (M:ME):ME:=λsl O Q=>M sl O λx O1=>match x with
 |.im (.int i)=>Q (.im (.int (-i))) O1
 |_=>False
theorem CJ {a:Expr}{M:ME}{pos:Pos}(h:PE X a (bJ K QX E M)):PE X (.UnaryOp .USub a pos) (bJ K QX E (PK M)):=PE.imp (BS vZ h) λσ H Q ⟨w,O,sl,Q0,c,m,q⟩=>⟨w,O,sl,_,c,m,λx O1 v w1 H1 h1 e1 r1 a1=>by
 split at h1
 .exact⟨_,ll a1,q _ O1 _ w1 H1 h1 e1 r1 (.int _)⟩
 .exact h1.elim⟩
def cB:FM:=λO xs P _=>match xs with
 |[.bag _,.im (.int m)]=>(0<m/\m<1073741824)/\∀r:Int,0<=r->r<m->P (.im (.int r)) O
 |_=>False
theorem pH:qd K j1 cB:=λw O H vs xs P PX Q E r a hf q x=>by
 unfold cB at hf;split at hf
 .obtain⟨v,us,rfl,h1,h2⟩:=a.aR;obtain⟨v2,NP,rfl,h3,h4⟩:=h2.aR;rw[h4.b9];obtain⟨b,hb,rfl⟩:=h1;rw[ll h3];have bv:=Yc hb;refine⟨b,_,rfl,r.bg b bv,hf.1.1,hf.1.2,λi H' h0 hm hB hK=>?_⟩;obtain⟨r1,e1,_⟩:=r.draw bv hK hB;exact q _ _ O w H' (hf.2 i h0 hm) e1 r1 (.int _)
 .exact hf.elim
def KN:FM:=λO xs P _=>match xs with
 |[.qV _,.im (.int k)]=>(0<=k/\k<100)/\∀j,P (.bag j) O
 |_=>False
theorem MP:qd K (BC K) KN:=λw O H vs xs P PX Q E r a hf q x=>by
 unfold KN at hf;split at hf
 .obtain⟨v,us,rfl,h1,h2⟩:=a.aR;obtain⟨v2,NP,rfl,h3,h4⟩:=h2.aR;rw[h4.b9];obtain⟨b,rfl,hb⟩:=h1;rw[ll h3];refine⟨b,_,_,rfl,KG.bA.ay hb mG,hf.1.1,hf.1.2,λp c d hp=>?_⟩;obtain⟨r1,e1⟩:=r.bag (x:=c) (y:=d) hp;exact q _ _ O _ _ (hf.2 w.d9.length) e1 r1 ⟨p,by simp,rfl⟩
 .exact hf.elim
theorem Iy (r:aI K w O H){p:Addr}{q:Rat}(hp:H p=none):aI K w O (aK H p (qO q))/\cg w O H w O (aK H p (qO q))/\cx (G w O (aK H p (qO q))) (.ref p) (qD q):=jz r hp (.cons (.int _) (.cons (.int _) .nil))
theorem sK (r:aI K w O H){p:Addr}{q:Rat}{H':Hp}(s:ai H H')(hp:H' p=some (qO q)):aI K w O H'/\cg w O H w O H'/\cx (G w O H') (.ref p) (qD q):=jH r s hp (.cons (.int _) (.cons (.int _) .nil))
theorem Sm {v:V}{q:Rat}(h:cx (G w O H) v (qD q)):∃p,v=.ref p/\H p=some (qO q):=by
 obtain⟨a,xs,rfl,h1,t⟩:=du h;cases t with |cons t1 t2=>cases t2 with |cons t2 t3=>cases t3;cases t1;cases t2;exact⟨a,rfl,h1⟩
def f2 (op:Rat->Rat->Rat):FM:=λO xs P _=>∃a b,xs=[.im (qD a),.im (qD b)]/\(Rb 3000 a/\Rb 3000 b)/\P (.im (qD (op a b))) O
theorem vR {op:Rat->Rat->Rat}:qd K (yR op) (f2 op):=λw O H vs xs P PX Q E r a hf q x=>by
 obtain⟨a1,b1,rfl,h0,hf⟩:=hf;obtain⟨v,us,rfl,h1,h2⟩:=a.aR;obtain⟨v2,NP,rfl,h3,h4⟩:=h2.aR;rw[h4.b9];obtain⟨p1,rfl,g1⟩:=Sm h1;obtain⟨p2,rfl,g2⟩:=Sm h3;refine⟨p1,p2,a1,b1,rfl,g1,g2,h0.1,h0.2,λp hp=>?_⟩;obtain⟨r1,e1,t1⟩:=Iy r hp;exact q _ _ O w _ hf e1 r1 t1
theorem xO {g:Hp}:∀{qs:Δ1}{ys:List V},aN g ys (qs.map qD)->lE g ys qs
 |[],_,h=>by cases h;exact⟨rfl,λj y h=>by simp at h⟩
 |q::qs,_,h=>by
  cases h with |cons h1 h2=>?_
  have ih:=xO h2;cases h1 with |tup h3 h4=>?_
  cases h4 with |cons t1 t2=>?_
  cases t2 with |cons t2 t3=>?_
  cases t3
  cases t1
  cases t2
  refine⟨by simp[ih.1],λj y hy=>?_⟩;cases j with
  |zero=>exact⟨_,(Option.some.inj hy).symm,h3⟩
  |succ j=>exact ih.2 j y (by simpa using hy)
def KL:FM:=λO xs P _=>∃qs:Δ1,xs=[.im (.list (qs.map qD))]/\((∀q∈qs,Rb 300 q)/\qs.length<=8)/\P (.im (qD (ck qs))) O
theorem yo:qd K xz KL:=λw O H vs xs P PX Q E r a hf q x=>by
 obtain⟨qs,rfl,h0,hf⟩:=hf;obtain⟨v,us,rfl,h1,h2⟩:=a.aR;rw[h2.b9];obtain⟨p,ys,rfl,g1,t1⟩:=gP h1;refine⟨p,ys,qs,rfl,g1,(xO t1).ay mG,h0.1,h0.2,λr' H' s iF=>?_⟩;obtain⟨r1,e1,t2⟩:=sK r s iF;exact q _ _ O w H' hf e1 r1 t2
end
section
variable {n:Nat}{ix:List Nat}{items:List AV}{M:ME}{C:MT}{sl:iA}{O:aM}{Q:AV->aM->Prop}
theorem uT (R:Nat->PyData->Prop)(hl:items.length<=1000000)
  (hs:∀(i:Nat) x (Z:AV->aM->Prop),items[i]?=some x->(∀d,R i d->Z (.im d) O)->M ((fj n ix sl).set 0 (some x)) O Z)
  (hd:∀ds:Ξ1,ds.length=items.length->(∀j,j<ds.length->R j (ds.getD j .none))->Q (.im (.list ds)) O):CB n ix (aW 0) bZ M sl Q items O:=by
 refine⟨hl,λi ds O'=>O'=O/\ds.length=i/\∀j,j<ds.length->R j (ds.getD j .none),⟨rfl,rfl,λj hj=>absurd hj (by simp)⟩,?_,λds O' ⟨e,h1,h2⟩=>e▸hd ds h1 h2⟩;rintro i x ds O' hx ⟨rfl,Oo,hR⟩;refine⟨λ_=>hs i x _ hx λd Uw=>⟨rfl,by simp[Oo],λj hj=>?_⟩,λz=>by cases z⟩;rcases Zz j ds.length with y |y
 .have:(ds++[d]).getD j .none=ds.getD j .none:=by simp[List.getD,Zr y]
  rw[this];exact hR j y
 .have pE:j=ds.length:=by simp at hj;omega
  subst pE;have:(ds++[d]).getD ds.length .none=d:=by simp[List.getD]
  rw[this,Oo];exact Uw
theorem Ho {ds:Ξ1}{f:Nat->PyData}(h:∀j,j<ds.length->ds.getD j .none=f j):ds=(List.range ds.length).map f:=by
 apply Qv;intro j;rw[Zg];rcases Zz j ds.length with y |y
 .rw[Yu y,Xg,<- h j y,gb (Zc y)];exact Zc y
 .rw[Yq y,Yq (by simpa using y)];rfl
theorem lv (f:Nat->PyData)(hl:items.length<=1000000)
  (hs:∀(i:Nat) x (Z:AV->aM->Prop),items[i]?=some x->Z (.im (f i)) O->M ((fj n ix sl).set 0 (some x)) O Z)
  (hd:Q (.im (.list ((List.range items.length).map f))) O):CB n ix (aW 0) bZ M sl Q items O :=
 uT (λi d=>d=f i) hl (λi x Z hx h=>hs i x Z hx (h _ rfl)) λds h1 h2=>by rw[Ho h2,h1];exact hd
theorem eZ (c:Nat->Bool)(f:Nat->PyData)(hl:items.length<=1000000)
  (hc:∀(i:Nat) x (Z:Bool->aM->Prop),items[i]?=some x->Z (c i) O->C ((fj n ix sl).set 0 (some x)) O Z)
  (hs:∀(i:Nat) x (Z:AV->aM->Prop),items[i]?=some x->c i=true->Z (.im (f i)) O->M ((fj n ix sl).set 0 (some x)) O Z)
  (hd:Q (.im (.list (((List.range items.length).filter c).map f))) O):CB n ix (aW 0) C M sl Q items O:=by
 refine⟨hl,λi ds O'=>O'=O/\ds=((List.range i).filter c).map f,⟨rfl,rfl⟩,?_,λds O' ⟨e,h1⟩=>by rw[e,h1];exact hd⟩;rintro i x ds O' hx ⟨rfl,rfl⟩;exact hc i x _ hx ⟨λh=>hs i x _ hx h ⟨rfl,by rw[yW,h,if_pos rfl]⟩,λh=>⟨rfl,by rw[yW,h,if_neg (by decide),Yg]⟩⟩
theorem qK (R:Nat->AV->Prop)(hl:items.length<=1000000)
  (hs:∀(i:Nat) x (Z:AV->aM->Prop),items[i]?=some x->(∀d,R i d->Z d O)->M ((fj n ix sl).set 0 (some x)) O Z)
  (hd:∀zs:List AV,zs.length=items.length->(∀j z,zs[j]?=some z->R j z)->Q (.own O.length) (O++[some zs])):We n ix (aW 0) bZ M sl Q items O:=by
 refine⟨hl,λi zs O'=>O'=O/\zs.length=i/\∀(j:Nat) z,zs[j]?=some z->R j z,⟨rfl,rfl,λj z hj=>by simp at hj⟩,?_,λzs O' ⟨e,h1,h2⟩=>e▸hd zs h1 h2⟩;rintro i x zs O' hx ⟨rfl,Oo,hR⟩;refine⟨λ_=>hs i x _ hx λd Uw=>⟨rfl,by simp[Oo],λj z hj=>?_⟩,λz=>by cases z⟩;rcases Zz j zs.length with y |y
 .rw[Zr y] at hj;exact hR j z hj
 .have pE:=(Zd.mp hj).1;have:j=zs.length:=by simp at pE;omega
  subst this;simp at hj;rw[<- hj,Oo];exact Uw
theorem ly (lo:Int)(n:Nat):(tS lo n).length=n:=by unfold tS;simp
theorem Ln {lo:Int}{n i:Nat}{x:AV}(h:(tS lo n)[i]?=some x):i<n/\x=.im (.int (lo+(i:Int))):=by
 unfold tS at h;have hi:i<n:=by have:=(Zd.mp h).1;simpa using this
 rw[Zg,Yu hi] at h;exact⟨hi,(Option.some.inj h).symm⟩
theorem p7 {n i:Nat}{x:AV}(h:(tS 0 n)[i]?=some x):i<n/\x=.im (.int (i:Int)):=by
 obtain⟨h1,h2⟩:=Ln h;exact⟨h1,by rw[h2,Int.zero_add]⟩
theorem dI {i j:Int}:min (PyData.int i).depth (PyData.int j).depth<=60:=by show min 0 0<=60;decide
theorem Bm {α : Type}{x:α}:[x].length<=sizeLine:=by show 1<=sizeLine;decide
theorem dj {α : Type}{x y:α}:[x,y].length<=sizeLine:=by show 2<=sizeLine;decide
theorem Bl {α : Type}{x y z:α}:[x,y,z].length<=sizeLine:=by show 3<=sizeLine;decide
theorem nX {n:Int}(h:n.natAbs<2 ^ 40):Bd 8000 n:=Ya h (Qk (by decide) (by decide))
theorem aH {α : Type}{xs:List α}{i:Nat}{x:α}(h:xs[i]?=some x):iO xs (i:Int)=some x:=eY h
def cQ (O O':aM):Prop:=∃t,O'=O++t
theorem cQ.refl (O:aM):cQ O O:=⟨[],by simp⟩
theorem cQ.app {O O':aM}(h:cQ O O')(c:Option (List AV)):cQ O (O'++[c]):=by obtain⟨t,rfl⟩:=h;exact⟨t++[c],by simp⟩
theorem cQ.set {O O':aM}(h:cQ O O'){k:Nat}(hk:O.length<=k)(c:Option (List AV)):cQ O (O'.set k c):=by
 obtain⟨t,rfl⟩:=h;exact⟨t.set (k-O.length) c,by rw[List.set_append,if_neg (by omega)]⟩
theorem cQ.none {O:aM}:∀{ks:List Nat}{O':aM},cQ O O'->(∀k∈ks,O.length<=k)->cQ O (vD O' ks)
 |[],_,h,_=>h
 |k::ks,_,h,hk=>cQ.none (ks:=ks) (h.set (hk k Zo) _) λj hj=>hk j (Zk _ hj)
def ia (A:Γ3)(Pu:Δ1)(W:Γ1):PyData:=.tuple [.tuple (A.map .int),.tuple (Pu.map qD),.tuple (W.map bT)]
theorem El {R:Nat->Int->Prop}:∀{ds:Ξ1},(∀j,j<ds.length->∃q:Int,ds.getD j .none=.int q/\R j q)->∃qs:Γ3,ds=qs.map .int/\∀j,j<qs.length->R j (qs.getD j 0):=by
 intro ds;induction ds generalizing R with
 |nil=>intro _;exact⟨[],rfl,λj hj=>absurd hj (by simp)⟩
 |cons d ds ih =>
  intro h;obtain⟨q,e,hq⟩:=h 0 (by simp);obtain⟨qs,e2,h2⟩:=ih (R:=λj=>R (j+1)) λj hj=>by
   obtain⟨q',e',h'⟩:=h (j+1) (by simp;omega);exact⟨q',by simpa[List.getD] using e',h'⟩
  refine⟨q::qs,?_,λj hj=>?_⟩
  .have e':d=.int q:=by simpa[List.getD] using e
   rw[e',e2];rfl
  .cases j with
   |zero=>exact hq
   |succ j=>exact h2 j (by simpa using hj)
theorem qL {R:Nat->Int->Prop}:∀{ds:List AV},(∀(j:Nat) z,ds[j]?=some z->∃q:Int,z=.im (.int q)/\R j q)->∃qs:Γ3,ds=qs.map (λi=>AV.im (.int i))/\∀j,j<qs.length->R j (qs.getD j 0):=by
 intro ds;induction ds generalizing R with
 |nil=>intro _;exact⟨[],rfl,λj hj=>absurd hj (by simp)⟩
 |cons d ds ih =>
  intro h;obtain⟨q,e,hq⟩:=h 0 d rfl;obtain⟨qs,e2,h2⟩:=ih (R:=λj=>R (j+1)) λj z hj=>h (j+1) z (by simpa using hj)
  refine⟨q::qs,by rw[e,e2];rfl,λj hj=>?_⟩;cases j with
  |zero=>exact hq
  |succ j=>exact h2 j (by simpa using hj)
theorem dX {α β : Type}{f:α->β}{xs:List α}{j:Nat}{d:α}(h:j<xs.length):(xs.map f)[j]?=some (f (xs.getD j d)):=by
 rw[Zg,Zc h,gb (Zc h)];rfl
end
section
variable {K:Θ1}{QX:Addr->aM->Prop}{E:XK}{X:Cx}{w:Wd}{O:aM}{H:Hp}
theorem PE.rn {e:Expr}{M M':ME}(h:PE X e (bJ K QX E M))(i:∀sl O Q,M' sl O Q->M sl O Q):PE X e (bJ K QX E M'):=PE.imp h λσ H Q ⟨w,O,sl,Q0,c,m,q⟩=>⟨w,O,sl,Q0,c,i sl O Q0 m,q⟩
theorem PA.rn {es:Ξ2}{M M':MA}(h:PA X es (mL K QX E M))(i:∀sl O Q,M' sl O Q->M sl O Q):PA X es (mL K QX E M'):=PA.imp h λσ H Q ⟨w,O,sl,Q0,c,m,q⟩=>⟨w,O,sl,Q0,c,i sl O Q0 m,q⟩
theorem sJ:∀ds:Ξ1,E4 (ds.map .im)=some ds
 |[]=>rfl
 |d::ds=>by show(match E4 (ds.map .im) with |some ds=>some (d::ds) |none=>none)=_;rw[sJ ds]
abbrev WM:mV:=Bn QN λi j=>.int (i ^ j.toNat)
theorem MB {Ma Mb:ME}{a b:Expr}{pos:Pos}(ha:PE X a (bJ K QX E Ma))(hb:PE X b (bJ K QX E Mb)):PE X (.BinOp a .Pow b pos) (bJ K QX E (aE WM Ma Mb)):=qf rJ (sF λ_ _ _=>.int _) ha hb
def mCs (ds:Ξ1):MA:=λ_ O Q=>Q (ds.map .im) O
theorem sB {n:Nat}(ih:∀(e:Expr) (d:PyData),lit (λ_=>none) n e=some d->PE X e (bJ K QX E (mC d))):∀(es:Ξ2) (ds:Ξ1),mE (lit (λ_=>none) n) es=some ds->PA X es (mL K QX E (mCs ds))
 |[],ds,h=>by
  simp[mE] at h;subst h;exact PA.rn aA λsl O Q q=>q
 |e::es,ds,h=>by
  unfold mE at h;split at h
  .next d Ss h1 h2 =>
   cases h
   exact PA.rn (ap (ih e d h1) (sB ih es Ss h2) (uG h1)) λsl O Q q=>q
  .cases h
theorem CK:∀(n:Nat) (e:Expr) (d:PyData),lit (λ_=>none) n e=some d->PE X e (bJ K QX E (mC d)):=by
 intro n;induction n with
 |zero=>intro e d h;cases h
 |succ n ih =>
  intro e d h;have h:vS (λ_=>none) (lit (λ_=>none) n) e=some d:=h;unfold vS at h;split at h
  .cases h
  .cases h;exact bI
  .cases h;exact pr
  .cases h;exact oD
  .split at h
   .next ok=>cases h;exact oB ok
   .cases h
  .split at h
   .next i e1=>cases h;exact PE.rn (CJ (ih _ _ e1)) λsl O Q q=>q
   .cases h
  .split at h
   .next i j e1 e2=>cases h;exact PE.rn (pw (ih _ _ e1) (ih _ _ e2)) λsl O Q q=>q
   .cases h
  .split at h
   .next i j e1 e2=>cases h;exact PE.rn (lQ (ih _ _ e1) (ih _ _ e2)) λsl O Q q=>q
   .cases h
  .split at h
   .next i j e1 e2 =>
    split at h
    .next hc=>cases h;exact PE.rn (MB (ih _ _ e1) (ih _ _ e2)) λsl O Q q=>⟨hc,q⟩
    .cases h
   .cases h
  .split at h
   .next hl =>
    obtain⟨ds,e1,rfl⟩:=Qb.mp h;refine PE.rn (nC (sB ih _ _ e1)) λsl O Q q=>?_
    show(match E4 (ds.map .im) with |some ds=>ds.length<=sizeLine/\Q (.im (.tuple ds)) O |none=>False);rw[sJ];exact⟨by rw[jn e1,sz];omega,q⟩
   .cases h
  .split at h
   .next hl =>
    obtain⟨ds,e1,rfl⟩:=Qb.mp h;refine PE.rn (qW (sB ih _ _ e1)) λsl O Q q=>?_
    show(match E4 (ds.map .im) with |some ds=>ds.length<=sizeLine/\Q (.im (.list ds)) O |none=>False);rw[sJ];exact⟨by rw[jn e1,sz];omega,q⟩
   .cases h
  .cases h
section
variable {e:Expr}{M:ME}{p p2 pos:Pos}
theorem Jk (Z:rd K)(he:PE X e (bJ K QX E M))(hg:Gl X "isinstance")(hm:X.mg "isinstance"=none)(A4:Gl X "tuple")(A2:X.mg "tuple"=none)(h:X.K=K:=by rfl)
  (hs:starEach [e,.Name "tuple" p2] X.env=[(false,eval e X.env),(false,eval (.Name "tuple" p2) X.env)]:=by rfl) (et:(backTo pos (starEach [.Name "tuple" p2] X.env)).any (·.1)=false:=by rfl) :
  PE X (.Call (.Name "isinstance" p) [e,.Name "tuple" p2] [] pos) (bJ K QX E (nL pA M)):=PE.imp (nI K he hg hm A4 A2 mR nE h (by decide) (by decide) hs et) (uI λd hd=>by
 cases d with
 |none=>exact Z.t1
 |bool b=>exact Z.t2
 |int i=>exact Z.t3
 |str x=>exact Z.t4
 |list x=>exact Z.t5
 |tuple x=>exact Z.t6
 |dict x=>exact absurd rfl (hd x))
theorem wS (Z:rd K)(he:PE X e (bJ K QX E M))(hg:Gl X "isinstance")(hm:X.mg "isinstance"=none)(A4:Gl X "bool")(A2:X.mg "bool"=none)(h:X.K=K:=by rfl)
  (hs:starEach [e,.Name "bool" p2] X.env=[(false,eval e X.env),(false,eval (.Name "bool" p2) X.env)]:=by rfl) (et:(backTo pos (starEach [.Name "bool" p2] X.env)).any (·.1)=false:=by rfl) :
  PE X (.Call (.Name "isinstance" p) [e,.Name "bool" p2] [] pos) (bJ K QX E (nL R4 M)):=PE.imp (nI K he hg hm A4 A2 boot_bool nE h (by decide) (by decide) hs et) (uI λd hd=>by
 cases d with
 |none=>exact Z.b1
 |bool b=>exact Z.b2
 |int i=>exact Z.b3
 |str x=>exact Z.b4
 |list x=>exact Z.b5
 |tuple x=>exact Z.b6
 |dict x=>exact absurd rfl (hd x))
end
theorem yN {xs:Ξ1}{r:Int}(h0:0<=r)(h1:r<xs.length):cutD xs none (some r)=xs.take r.toNat:=by
 have e1:HT.cJ xs.length xs.length (some r)=r.toNat:=by
  show(if r<0 then (r+(xs.length:Int)).toNat else min r.toNat xs.length)=_;rw[if_neg (by omega)];omega
 unfold cutD;rw[HT.oP,e1];simp
theorem jI {xs:Ξ1}{r:Int}(h0:0<=r)(h1:r<=xs.length):cutD xs (some r) none=xs.drop r.toNat:=by
 have e1:HT.cJ xs.length 0 (some r)=r.toNat:=by
  show(if r<0 then (r+(xs.length:Int)).toNat else min r.toNat xs.length)=_;rw[if_neg (by omega)];omega
 unfold cutD;rw[HT.oP,e1,List.take_of_length_le];rw[Yx];omega
mutual
theorem cx.JH {g:Hp}:∀{v:V}{d:PyData},cx g v d->∃n:Nat,∀b,n<=b->iP b g v d
 |_,_,.bO=>⟨0,λb _=>.bO⟩
 |_,_,.bl c=>⟨0,λb _=>.bl c⟩
 |_,_,.int i=>⟨0,λb _=>.int i⟩
 |_,_,.str x o=>⟨0,λb _=>.str x o⟩
 |_,_,.lst (a:=a) h t=>by
  obtain⟨n,hn⟩:=aN.JH t;exact⟨n+a+1,λb hb=>.lst (Yd (by omega)) h (hn b (by omega))⟩
 |_,_,.tup h t=>by
  obtain⟨n,hn⟩:=aN.JH t;exact⟨n,λb hb=>.tup h (hn b hb)⟩
theorem aN.JH {g:Hp}:∀{vs:List V}{ds:Ξ1},aN g vs ds->∃n:Nat,∀b,n<=b->bW b g vs ds
 |_,_,.nil=>⟨0,λb _=>.nil⟩
 |_,_,.cons h t=>by
  obtain⟨n,hn⟩:=cx.JH h;obtain⟨m,hm⟩:=aN.JH t;exact⟨n+m,λb hb=>.cons (hn b (by omega)) (hm b (by omega))⟩
end
theorem FV {vs:List V}{x:AV}{g:Hp}(a:aY K w g vs [x]):∃v,vs=[v]/\jQ K w g v x:=by
 obtain⟨v,us,rfl,h1,h2⟩:=a.aR;rw[h2.b9];exact⟨v,rfl,h1⟩
theorem Br {vs:List V}{x y:AV}{g:Hp}(a:aY K w g vs [x,y]):∃v u,vs=[v,u]/\jQ K w g v x/\jQ K w g u y:=by
 obtain⟨v,us,rfl,h1,h2⟩:=a.aR;obtain⟨u,rfl,h3⟩:=FV h2;exact⟨v,u,rfl,h1,h3⟩
def fT (m:PyData->Bool):FM:=λO xs P _=>match xs with
 |[.im d]=>P (.im (.bool (m d))) O
 |_=>False
theorem KA {m:PyData->Bool}:qd K (spT m) (fT m):=λw O H vs xs P PX Q E r a hf q x=>by
 unfold fT at hf;split at hf
 .obtain⟨v,rfl,h1⟩:=FV a;obtain⟨n,hn⟩:=cx.JH (cx.ay mG h1);refine⟨n,v,_,rfl,hn n (Ze _),λH' s=>?_⟩;obtain⟨r1,e1,_⟩:=r.ay s;exact q _ _ O w H' hf e1 r1 (.bl _)
 .exact hf.elim
theorem E1 {α : Type}{f:α->PyData}(h:∀a,sZ (f a)=true):∀xs:List α,mD (xs.map f)=true
 |[]=>rfl
 |a::xs=>by show(sZ (f a)&&mD (xs.map f))=true;rw[h a,E1 h xs];rfl
theorem Ix (q:Rat):sZ (qD q)=true:=rfl
theorem Mv (qs:Δ1):sZ (.tuple (qs.map qD))=true:=E1 Ix qs
theorem m9 (r:Γ3):sZ (bT r)=true:=E1 (f:=PyData.int) (λ_=>rfl) r
theorem G7 (D:List (Δ1)):sZ (bD D)=true:=E1 (f:=λqs:Δ1=>PyData.tuple (qs.map qD)) (λqs=>Mv qs) D
theorem Mw (A:Γ3)(Pu:Δ1)(W:Γ1):sZ (ia A Pu W)=true:=by
 show(mD (A.map .int)&&(mD (Pu.map qD)&&(mD (W.map bT)&&true)))=true;rw[E1 (f:=PyData.int) (λ_=>rfl),E1 Ix,E1 m9];rfl
theorem X4 {v:V}{d:PyData}(b:Addr)(h:cx (G w O H) v d)(n:sZ d=true):iP b H v d:=cx.NQ n (cx.ay mG h)
theorem toG {v:V}{d:PyData}{b:Addr}(r:aI K w O H)(h:iP b H v d)(n:sZ d=true):cx (G w O H) v d:=xY r.jY n h
theorem CY {b:Addr}:∀{D:List (Δ1)}{zs:List V},bW b H zs (D.map λqs=>.tuple (qs.map qD))->OZ H zs D
 |[],_,h=>by cases h;exact⟨rfl,λj x h=>by simp at h⟩
 |r::D,_,h=>by
  cases h with |cons h1 h2=>?_
  have ih:=CY h2;cases h1 with |tup h3 h4=>?_
  refine⟨by simp[ih.1],λj x hx=>?_⟩;cases j with
  |zero=>exact⟨_,_,r,rfl,(Option.some.inj hx).symm,h3,lE.of h4⟩
  |succ j=>obtain⟨a,ys,qs,e1,e2,e3,e4⟩:=ih.2 j x (by simpa using hx);exact⟨a,ys,qs,by simpa using e1,e2,e3,e4⟩
theorem QF {v:V}{D:List (Δ1)}{g:Nat}(h:cx (G w O H) v (bD D))(h1:∀qs∈D,qs.length=g)(h2:∀qs∈D,∀z∈qs,Rb 100 z)(h3:D.length<=6):∃q zs,v=.ref q/\KZ H q zs D g:=by
 cases X4 0 h (G7 D) with |tup h4 h5=>exact⟨_,_,rfl,h4,CY h5,h1,h2,h3⟩
end
section
variable {K:Θ1}{w:Wd}{O:aM}{H:Hp}
def QC:FM:=λO xs P _=>∃ns:Γ3,xs=[.qV ns]/\ns.length<=63/\∀O',P (.im (.bool true)) O'
theorem MV {Pg:Program}{wo:World}{mg:Θ3}{base:Heap}{k:Nat}{f:Addr}{fd:FuncData}(F:aJ Pg wo K mg base cH k f fd ["script"] (cZ K QC)):aJ Pg wo K mg base cH k f fd ["script"] (t9 K):=F.imp λvs H Q E ⟨a,ns,e,hS,hl,hq⟩=>by
 subst e;have cj:∀x,¬ ku ⟨[],[],[]⟩ [] x:=λx h=>by
  rcases h with h |⟨o,h⟩ |⟨k,c,h,_⟩
  .cases h
  .cases h
  .simp at h
 have sg:ai H (G ⟨[],[],[]⟩ [] H):=λx o h=>by rw[iT (cj x)];exact h
 refine⟨⟨[],[],[]⟩,[],[.qV ns],λz _=>z=.im (.bool true),λ_ _=>False,⟨rfl,List.nodup_nil,λa h=>(by cases h),λa h=>(by cases h),List.nodup_nil,λp h=>(by cases h),λa h=>(by cases h),λk c h=>by simp at h⟩,aY.cons ⟨a,rfl,KG.bA.ay hS sg⟩ aY.nil,⟨ns,rfl,hl,λO'=>rfl⟩,λz q O' w' H' hz e r av=>?_,λc O' w' H' h=>h.elim⟩;subst hz;rw[tV av];exact hq H'
end
theorem Kz {n:Nat}(h:2<=n)(q:Rat):ln n (qD q)=true:=kA.mpr ⟨h,λd hd=>by
 simp only[Zf,Xh,or_false] at hd;rcases hd with rfl |rfl<;>rfl⟩
theorem CT {D:List (Δ1)}{n:Nat}(h2:2<=n)(h1:D.length<=n)(hr:∀r∈D,r.length<=n):ln n (bD D)=true:=kA.mpr ⟨by rw[Zb];exact h1,λd hd=>by
 obtain⟨r,iF,rfl⟩:=Zh.mp hd;exact kA.mpr ⟨by rw[Zb];exact hr r iF,λe he=>by obtain⟨q,_,rfl⟩:=Zh.mp he;exact Kz h2 q⟩⟩
theorem Eg {xs:Ξ1}(h:1<=xs.length):cutD xs none (some 1)=xs.take 1:=by
 have e1:HT.cJ xs.length xs.length (some 1)=1:=by
  show(if (1:Int)<0 then ((1:Int)+(xs.length:Int)).toNat else min ((1:Int)).toNat xs.length)=_;rw[if_neg (by omega)];omega
 unfold cutD;rw[HT.oP,e1];simp
def cI (r:Γ3):Option (List AV):=some (r.map λx=>AV.im (.int x))
def zn (k n:Nat):List AV:=(List.range n).map λt=>AV.own (k+t)
theorem zW (k n:Nat):zn k (n+1)=zn k n++[AV.own (k+n)]:=by unfold zn;rw[Yo,Zs];rfl
theorem DI (k n:Nat):zn k n=((List.range n).map λt=>k+t).map AV.own:=by unfold zn;rw[Zi];rfl
theorem jw {α : Type}(O:List α)(x y:α):(O++[x]).set O.length y=O++[y]:=by rw[List.set_append,if_neg (by omega),Nat.sub_self];rfl
theorem tF {α : Type}(O:List α)(x:α):(O++[x])[O.length]?=some x:=by simp
theorem HB {α β : Type}(f:α->β)(O:List β)(x:β)(W:List α)(i:Nat)(d:α)(h:i<W.length):(O++(W.map f++[x]))[O.length+i]?=some (f (W.getD i d)):=by
 rw[Yt (by omega),Nat.add_sub_cancel_left,Zr (by simpa using h)];exact dX h
theorem Es {α β : Type}(f:α->β)(O:List β)(x:β)(W:List α):(O++(W.map f++[x]))[O.length+W.length]?=some x:=by
 rw[Yt (by omega),Nat.add_sub_cancel_left,Yt (by simp)];simp
theorem uf {n:Nat}{i:Nat}(h:i<n):tK n (i:Int)=some i:=by unfold tK;rw[if_pos (by omega),if_pos (by omega),Zj]
theorem oz (r:Γ3)(j:Nat)(x:Int):((r.map λx=>AV.im (.int x)).set j (.im (.int x)))=(r.set j x).map λx=>AV.im (.int x):=by rw[List.map_set]
theorem nD {α β : Type}(f:α->β)(xs:List α)(d:α):(List.range xs.length).map (λi=>f (xs.getD i d))=xs.map f:=by
 apply Qv;intro j;rw[Zg];rcases Zz j xs.length with y |y
 .rw[Yu y,dX (d:=d) y];rfl
 .rw[Yq (by simpa using y),Yq (by simpa using y)];rfl
theorem vY {ds es:Ξ1}{i:Nat}{x:AV}(h:(vK ds es)[i]?=some x):i<ds.length/\x=.im (.tuple [ds.getD i .none,es.getD i .none]):=by
 unfold vK at h;have hi:i<ds.length:=by have:=(Zd.mp h).1;simpa using this
 rw[Zg,Yu hi] at h;exact⟨hi,(Option.some.inj h).symm⟩
theorem eR (ds es:Ξ1):(vK ds es).length=ds.length:=by unfold vK;simp
theorem pV {r:Γ3}{j:Nat}{x:Int}(h:j<r.length):(r.set j x).getD j 0=x:=by rw[List.getD,Yf h];rfl
structure qb (O:aM)(k:Nat)(ks:List Nat)(W:Γ1):Prop where
 hd:O[k]?=some (some (ks.map AV.own))
 len:ks.length=W.length
 row:∀i,i<W.length->O[ks.getD i 0]?=some (cI (W.getD i []))
theorem mem_getD {ks:List Nat}{i:Nat}(h:i<ks.length):ks.getD i 0∈ks:=by
 rw[gb (Zc h)];exact Zv h
theorem qb.app {O:aM}{k:Nat}{ks:List Nat}{W:Γ1}(t:qb O k ks W)(c:Option (List AV)):qb (O++[c]) k ks W:=by
 refine⟨?_,t.len,λi hi=>?_⟩
 .rw[Zr (Zd.mp t.hd).1];exact t.hd
 .rw[Zr (Zd.mp (t.row i hi)).1];exact t.row i hi
theorem qb.other {O:aM}{k m:Nat}{ks:List Nat}{W:Γ1}(t:qb O k ks W)(c:Option (List AV))(h:m∉k::ks):qb (O.set m c) k ks W:=by
 refine⟨?_,t.len,λi hi=>?_⟩
 .rw[Zw (λe=>h (by rw[e];exact Zo))];exact t.hd
 .rw[Zw (λe=>h (by rw[e];exact Zk _ (mem_getD (by rw[t.len];exact hi))))];exact t.row i hi
theorem qb.put {O:aM}{k i:Nat}{ks:List Nat}{W:Γ1}(t:qb O k ks W)(r:Γ3)(hi:i<W.length)(nd:(k::ks).Nodup):qb (O.set (ks.getD i 0) (cI r)) k ks (W.set i r):=by
 have hn:=Yh.mp nd;have ZF:i<ks.length:=by rw[t.len];exact hi
 refine⟨?_,by rw[Yl];exact t.len,λj hj=>?_⟩
 .rw[Zw (λe=>hn.1 (by rw[<- e];exact mem_getD ZF))];exact t.hd
 .rw[Yl] at hj;have Ow:j<ks.length:=by rw[t.len];exact hj
  by_cases e:i=j
  .subst e;rw[Yf (Zd.mp (t.row i hi)).1];have:(W.set i r).getD i []=r:=by rw[List.getD,Yf hi];rfl
   rw[this]
  .have:(W.set i r).getD j []=W.getD j []:=by rw[List.getD,Zw e];rfl
   rw[this,Zw (λz=>e ?_)]
   .exact t.row j hj
   .rw[gb (Zc ZF),gb (Zc Ow)] at z;exact(List.getElem_inj hn.2).mp z
theorem qb.push {O:aM}{k m:Nat}{ks:List Nat}{W:Γ1}(t:qb O k ks W){r:Γ3}(hm:O[m]?=some (cI r))(nd:(k::ks).Nodup)(hk:m≠k):qb (O.set k (some (ks.map AV.own++[AV.own m]))) k (ks++[m]) (W++[r]):=by
 have hn:=Yh.mp nd;refine⟨?_,by simp[t.len],λi hi=>?_⟩
 .rw[Yf (Zd.mp t.hd).1,Zs];rfl
 .rw[Zn] at hi;by_cases e:i<W.length
  .have e1:(ks++[m]).getD i 0=ks.getD i 0:=by simp only[List.getD];rw[Zr (by rw[t.len];exact e)]
   have e2:(W++[r]).getD i []=W.getD i []:=by simp only[List.getD];rw[Zr e]
   rw[e1,e2,Zw (λz=>hn.1 (by rw[z];exact mem_getD (by rw[t.len];exact e)))];exact t.row i e
  .have xr:i=W.length:=by simp at hi;omega
   subst xr;have e1:(ks++[m]).getD W.length 0=m:=by simp[List.getD,<- t.len]
   have e2:(W++[r]).getD W.length []=r:=by simp[List.getD]
   rw[e1,e2,Zw (λz=>hk z.symm)];exact hm
structure mr (O O':aM)(k1 k2:Nat)(gd gf:List Nat)(W D:Γ1):Prop where
 lM:cQ O O'
 ge:∀k∈k1::k2::(gd++gf),O.length<=k/\k<O'.length
 nd:(k1::k2::(gd++gf)).Nodup
 t1:qb O' k1 gd W
 t2:qb O' k2 gf D
section
variable {O O':aM}{k1 k2 m i:Nat}{gd gf:List Nat}{W D:Γ1}
theorem mr.n1 (t:mr O O' k1 k2 gd gf W D):(k1::gd).Nodup:=by
 have h:=t.nd;simp only[Yh,Yy,Zf,Zp,not_or] at h ⊢;exact⟨h.1.2.1,h.2.2.1⟩
theorem mr.n2 (t:mr O O' k1 k2 gd gf W D):(k2::gf).Nodup:=by
 have h:=t.nd;simp only[Yh,Yy,Zf,Zp,not_or] at h ⊢;exact⟨h.2.1.2,h.2.2.2.1⟩
theorem mr.d1 (t:mr O O' k1 k2 gd gf W D):∀x∈k1::gd,x∉k2::gf:=by
 have h:=t.nd;simp only[Yh,Yy,Zf,Zp,not_or] at h;intro x hx hy;rcases Zf.mp hx with rfl |hx
 .rcases Zf.mp hy with rfl |hy
  .exact h.1.1 rfl
  .exact h.1.2.2 hy
 .rcases Zf.mp hy with rfl |hy
  .exact h.2.1.1 hx
  .exact h.2.2.2.2 x hx x hy rfl
theorem mr.app (t:mr O O' k1 k2 gd gf W D)(c:Option (List AV)):mr O (O'++[c]) k1 k2 gd gf W D :=
 ⟨t.lM.app c,λk hk=>⟨(t.ge k hk).1,by have:=(t.ge k hk).2;simp;omega⟩,t.nd,t.t1.app c,t.t2.app c⟩
theorem mr.WL (t:mr O O' k1 k2 gd gf W D)(r:Γ3)(hi:i<W.length):mr O (O'.set (gd.getD i 0) (cI r)) k1 k2 gd gf (W.set i r) D:=by
 have hm:gd.getD i 0∈k1::gd:=Zk _ (mem_getD (by rw[t.t1.len];exact hi));have Ud:gd.getD i 0∈k1::k2::(gd++gf):=Zk _ (Zk _ (Yw _ (mem_getD (by rw[t.t1.len];exact hi))));exact⟨t.lM.set (t.ge _ Ud).1 _,λk hk=>by rw[Yl];exact t.ge k hk,t.nd,t.t1.put r hi t.n1,t.t2.other _ (t.d1 _ hm)⟩
theorem mr.put2 (t:mr O O' k1 k2 gd gf W D)(r:Γ3)(hi:i<D.length):mr O (O'.set (gf.getD i 0) (cI r)) k1 k2 gd gf W (D.set i r):=by
 have hm:gf.getD i 0∈k2::gf:=Zk _ (mem_getD (by rw[t.t2.len];exact hi));have Ud:gf.getD i 0∈k1::k2::(gd++gf):=Zk _ (Zk _ (Zq _ (mem_getD (by rw[t.t2.len];exact hi))));exact⟨t.lM.set (t.ge _ Ud).1 _,λk hk=>by rw[Yl];exact t.ge k hk,t.nd,t.t1.other _ (λz=>t.d1 _ z hm),t.t2.put r hi t.n2⟩
theorem mr.Rj (t:mr O O' k1 k2 gd gf W D){r:Γ3}(hm:O'[m]?=some (cI r))(hO:O.length<=m)(hn:m∉k1::k2::(gd++gf)):mr O (O'.set k1 (some (gd.map AV.own++[AV.own m]))) k1 k2 (gd++[m]) gf (W++[r]) D:=by
 have h:=t.nd;have pD:=hn;simp only[Yh,Yy,Zf,Zp,not_or] at h pD;refine⟨t.lM.set (t.ge k1 Zo).1 _,λk hk=>?_,?_,t.t1.push hm t.n1 pD.1,t.t2.other _ (t.d1 _ Zo)⟩
 .rw[Yl];by_cases e:k=m
  .subst e;exact⟨hO,(Zd.mp hm).1⟩
  .refine t.ge k ?_;simp only[Zf,Zp] at hk ⊢;rcases hk with a |a |(a |a) |a
   .exact .inl a
   .exact .inr (.inl a)
   .exact .inr (.inr (.inl a))
   .rcases a with a |a
    .exact absurd a e
    .cases a
   .exact .inr (.inr (.inr a))
 .simp only[Yh,Yy,Zf,Zp,not_or,Xh,or_false];refine⟨⟨h.1.1,⟨h.1.2.1,λe=>pD.1 e.symm⟩,h.1.2.2⟩,⟨⟨h.2.1.1,λe=>pD.2.1 e.symm⟩,h.2.1.2⟩,⟨h.2.2.1,⟨λe=>e.elim,by simp⟩,λa ha b hb=>?_⟩,h.2.2.2.1,λa ha b hb e=>?_⟩
  .subst hb;intro e;subst e;exact pD.2.2.1 ha
  .subst e;rcases ha with ha |ha
   .exact h.2.2.2.2 a ha a hb rfl
   .subst ha;exact pD.2.2.2 hb
theorem mr.Ri (t:mr O O' k1 k2 gd gf W D){r:Γ3}(hm:O'[m]?=some (cI r))(hO:O.length<=m)(hn:m∉k1::k2::(gd++gf)):mr O (O'.set k2 (some (gf.map AV.own++[AV.own m]))) k1 k2 gd (gf++[m]) W (D++[r]):=by
 have h:=t.nd;have pD:=hn;simp only[Yh,Yy,Zf,Zp,not_or] at h pD;refine⟨t.lM.set (t.ge k2 (Zk _ Zo)).1 _,λk hk=>?_,?_,t.t1.other _ (λz=>t.d1 _ z Zo),t.t2.push hm t.n2 pD.2.1⟩
 .rw[Yl];by_cases e:k=m
  .subst e;exact⟨hO,(Zd.mp hm).1⟩
  .refine t.ge k ?_;simp only[Zf,Zp] at hk ⊢;rcases hk with a |a |a |a |a
   .exact .inl a
   .exact .inr (.inl a)
   .exact .inr (.inr (.inl a))
   .exact .inr (.inr (.inr a))
   .rcases a with a |a
    .exact absurd a e
    .cases a
 .simp only[Yh,Yy,Zf,Zp,not_or,Xh,or_false];refine⟨⟨h.1.1,h.1.2.1,h.1.2.2,λe=>pD.1 e.symm⟩,⟨h.2.1.1,h.2.1.2,λe=>pD.2.1 e.symm⟩,h.2.2.1,⟨h.2.2.2.1,⟨λe=>e.elim,by simp⟩,λa ha b hb=>?_⟩,λa ha b hb e=>?_⟩
  .subst hb;intro e;subst e;exact pD.2.2.2 ha
  .subst e;rcases hb with hb |hb
   .exact h.2.2.2.2 a ha a hb rfl
   .subst hb;exact pD.2.2.1 ha
theorem mr.fresh (t:mr O O' k1 k2 gd gf W D)(h:O'.length<=m):m∉k1::k2::(gd++gf):=λz=>by have:=(t.ge m z).2;omega
end
structure qo (n g:Nat)(ts:Γ3)(W D:Γ1):Prop where
 tl:ts.length=g
 t0:∀j,j<g->1<=ts.getD j 0/\ts.getD j 0<=9
 wl:W.length=n
 dl:D.length=n
 wr:∀i,i<n->(W.getD i []).length=g
 dr:∀i,i<n->(D.getD i []).length=g
 w0:∀i j,i<n->j<g->0<=(W.getD i []).getD j 0/\(W.getD i []).getD j 0<=ts.getD j 0
 d0:∀i j,i<n->j<g->0<=(D.getD i []).getD j 0/\(D.getD i []).getD j 0<=3
 dw:∀i j,i<n->j<g->(D.getD i []).getD j 0≠0->(W.getD i []).getD j 0=ts.getD j 0
 rows:∀i,i<n->∃j,j<g/\1<=(D.getD i []).getD j 0
 cols:∀j,j<g->∃i,i<n/\1<=(D.getD i []).getD j 0
def cm (D:Γ1)(j:Nat):Int:=(D.map λr=>r.getD j 0).sum
def lG (ts r:Γ3)(g:Nat):Int:=((List.range g).map λj=>r.getD j 0*ts.getD j 0).sum
def cY (r:Γ3):Δ1:=r.map λx:Int=>(x:Rat)
def rS:FM:=λO xs P _=>(∃j,xs=[.bag j])/\∀(n g:Nat) (ts:Γ3) (W D:Γ1) (O':aM),cQ O O'->1<=g->g<=6->1<=n->n<=6->qo n g ts W D->P (.im (.list [ia ((List.range g).map (cm D)) (cY (D.map λr=>lG ts r g)) W,.tuple ((cY ts).map qD),bD (D.map cY)])) O'
abbrev ER:Δ2:=["bag","goods","hands","tops","wishes","dealing","hand","row","at","good","prices","amounts","purses","rows"]
def CS:MS:=(aB (aX (aE eO (mC (.int 1)) (ax cB cf (ae (ag 0) (ae (mC (.int 6)) ah)))) (aW 1))
 (aB (aX (aE eO (mC (.int 1)) (ax cB cf (ae (ag 0) (ae (mC (.int 6)) ah)))) (aW 2))
 (aB (aX (bp 1 [0] (gH (ae (ag 1) ah)) (aW 0) bZ (aE eO (mC (.int 1)) (ax cB cf (ae (ag 1) (ae (aE bL (ij (ae (mC (.int 3)) (ae (mC (.int 9)) ah))) (ax cB cf (ae (ag 1) (ae (mC (.int 2)) ah)))) ah))))) (aW 3))
 (aB (aX (vQ ah) (aW 4))
 (aB (aX (vQ ah) (aW 5))
 (aB (kz (gH (ae (ag 2) ah)) (aW 6) (aB (aX (lS 1 [0] (bU (ag 3)) (aW 0) bZ (cE (oi λi j=>if j>i then j else i) (ae (mC (.int 0)) (ae (aE zm (ag 0) (aE rm (ax cB cf (ae (ag 1) (ae (mC (.int 2)) ah))) (aE eO (mC (.int 1)) (ax cB cf (ae (ag 1) (ae (ag 0) ah)))))) ah)))) (aW 7))
 (aB (aX (ax cB cf (ae (ag 0) (ae (ag 1) ah))) (aW 8))
 (aB (aX (aE bL (ag 3) (ag 8)) (EZ (ag 7) (ag 8)))
 (aB (iX (rq (ag 4) (ae (ag 7) ah)))
 (aB (iX (rq (ag 5) (ae (lS 1 [0,7,3] (gH (ae (ag 1) ah)) (aW 0) bZ (aE rm (ax cB cf (ae (ag 1) (ae (mC (.int 4)) ah))) (cE FF (ae (aE (jW false) (aE bL (ag 2) (ag 0)) (aE bL (ag 3) (ag 0))) ah)))) ah)))
 (aX (aE eO (mC (.int 1)) (ax cB cf (ae (ag 0) (ae (mC (.int 3)) ah)))) (EZ (aE bL (ag 5) (PK (mC (.int 1)))) (ag 8)))))))))
 (aB (kz (gH (ae (ag 1) ah)) (aW 9) (aB (aX (ax cB cf (ae (ag 0) (ae (ag 2) ah))) (aW 6))
 (aB (aX (aE bL (ag 3) (ag 9)) (EZ (aE bL (ag 4) (ag 6)) (ag 9)))
 (aX (cE (oi λi j=>if j>i then j else i) (ae (mC (.int 1)) (ae (aE bL (aE bL (ag 5) (ag 6)) (ag 9)) ah))) (EZ (aE bL (ag 5) (ag 6)) (ag 9))))))
 (qg 4 (qg 5 (aB (aX (cE iI (ae (bp 1 [] (bU (ag 3)) (aW 0) bZ (fi (ae (ag 0) (ae (mC (.int 1)) ah)))) ah)) (aW 10))
 (aB (aX (cE iI (ae (bp 1 [5] (gH (ae (ag 1) ah)) (aW 0) bZ (cE vN (ae (bp 1 [0] (bU (ag 1)) (aW 0) bZ (aE bL (ag 0) (ag 1))) ah))) ah)) (aW 11))
 (aB (aX (cE iI (ae (bp 1 [1,3] (bU (ag 5)) (aW 0) bZ (fi (ae (cE vN (ae (bp 1 [0,2] (gH (ae (ag 1) ah)) (aW 0) bZ (aE rm (aE bL (ag 1) (ag 0)) (aE bL (ag 2) (ag 0)))) ah)) (ae (mC (.int 1)) ah)))) ah)) (aW 12))
 (aB (aX (cE iI (ae (bp 1 [] (bU (ag 5)) (aW 0) bZ (cE iI (ae (bp 1 [] (bU (ag 0)) (aW 0) bZ (fi (ae (ag 0) (ae (mC (.int 1)) ah)))) ah))) ah)) (aW 13))
 (bS (ij (ae (fi (ae (ag 11) (ae (ag 12) (ae (cE iI (ae (bp 1 [] (bU (ag 4)) (aW 0) bZ (cE iI (ae (ag 0) ah))) ah)) ah)))) (ae (ag 10) (ae (ag 13) ah))))))))))))))))))
structure Bt (ts w d:Γ3):Prop where
 wl:w.length=ts.length
 dl:d.length=ts.length
 w0:∀j,j<ts.length->0<=w.getD j 0/\w.getD j 0<=ts.getD j 0
 d0:∀j,j<ts.length->0<=d.getD j 0/\d.getD j 0<=3
 dw:∀j,j<ts.length->d.getD j 0≠0->w.getD j 0=ts.getD j 0
 ex:∃j,j<ts.length/\1<=d.getD j 0
theorem EF {r:Γ3}{a j:Nat}{x:Int}(h:a<r.length):(r.set a x).getD j 0=if a=j then x else r.getD j 0:=by
 by_cases e:a=j
 .subst e;rw[if_pos rfl,pV h]
 .rw[if_neg e,List.getD,Zw e];rfl
theorem Jj {W:Γ1}{a j:Nat}{x:Γ3}(h:a<W.length):(W.set a x).getD j []=if a=j then x else W.getD j []:=by
 by_cases e:a=j
 .subst e;rw[if_pos rfl,List.getD,Yf h];rfl
 .rw[if_neg e,List.getD,Zw e];rfl
theorem l5 {W:Γ1}{j:Nat}{x:Γ3}:(W++[x]).getD j []=if j=W.length then x else W.getD j []:=by
 by_cases e:j=W.length
 .subst e;rw[if_pos rfl];simp[List.getD]
 .rw[if_neg e];rcases Zz j W.length with y |y
  .simp only[List.getD];rw[Zr y]
  .simp only[List.getD];rw[Yq y,Yq (by simp;omega)]
theorem Bt.up {ts w d:Γ3}(h:Bt ts w d){j:Nat}(hj:j<ts.length)(ht:1<=ts.getD j 0):Bt ts (w.set j (ts.getD j 0)) (d.set j (if d.getD j 0>1 then d.getD j 0 else 1)):=by
 have h1:=h.wl;have h2:=h.dl;refine⟨by rw[Yl];exact h1,by rw[Yl];exact h2,λi hi=>?_,λi hi=>?_,λi hi=>?_,j,hj,?_⟩
 .rw[EF (by omega)];split
  .rename_i e;subst e;omega
  .exact h.w0 i hi
 .rw[EF (by omega)];have:=h.d0 i hi;have:=h.d0 j hj;split
  .split<;>omega
  .omega
 .rw[EF (by omega),EF (by omega)];split
  .rename_i e;subst e;intro _;rfl
  .exact h.dw i hi
 .rw[EF (by omega),if_pos rfl];split<;>omega
theorem Et {α : Type}(xs:List α)(x:α):iO (xs++[x]) (-1)=some x:=by
 have hl:((xs++[x]).length:Int)=(xs.length:Int)+1:=by simp
 have e:tK (xs++[x]).length (-1)=some xs.length:=by unfold tK;rw[if_neg (by omega),if_pos (by omega)];congr 1;omega
 unfold iO;rw[e];simp
theorem qb.none {O:aM}{k:Nat}{ks ls:List Nat}{W:Γ1}(t:qb O k ks W)(h:∀m∈ls,m∉k::ks):qb (vD O ls) k ks W :=
 ⟨by rw[j8 _ λz=>h k z Zo];exact t.hd,t.len,λi hi=>by rw[j8 _ λz=>h _ z (Zk _ (mem_getD (by rw[t.len];exact hi)))];exact t.row i hi⟩
theorem Dq:∀O xs Pq QX,rS O xs Pq QX->CS { nx:=λ_ O'=>Pq (.im .none) O',rt:=Pq } (aZ ER xs) O:=by
 intro O xs Pq QX h;obtain⟨⟨bj,rfl⟩,h⟩:=h;refine⟨⟨by decide,by decide⟩,λr0 h00 h01=>⟨⟨⟨by decide,by decide⟩,λr1 Z3 Z2=>?_⟩⟩⟩;obtain⟨g,hg⟩:∃g:Nat,(1+r0)=(g:Int):=⟨(1+r0).toNat,by omega⟩;obtain⟨n,hn⟩:∃n:Nat,(1+r1)=(n:Int):=⟨(1+r1).toNat,by omega⟩;show Go _ _ [some (.bag bj),some (.im (.int (1+r0))),some (.im (.int (1+r1))),none,none,none,none,none,none,none,none,none,none,none] O;rw[hg,hn];have g1:1<=g:=by omega
 have g6:g<=6:=by omega
 have n1:1<=n:=by omega
 have n6:n<=6:=by omega
 refine⟨⟨⟨by omega,by omega⟩,uT (λ_ d=>∃q:Int,d=.int q/\(1<=q/\q<=9)) (by rw[ly];omega) (λi x Z hx hZ=>?_) (λds hl Jx=>?_)⟩⟩
 .refine⟨dj,⟨by decide,by decide⟩,λa a0 a1=>?_⟩;have ha:a=0\/a=1:=by omega
  rcases ha with rfl |rfl
  .exact⟨_,rfl,⟨by decide,by decide⟩,λb b0 b1=>hZ _ ⟨_,rfl,by omega⟩⟩
  .exact⟨_,rfl,⟨by decide,by decide⟩,λb b0 b1=>hZ _ ⟨_,rfl,by omega⟩⟩
 obtain⟨ts,rfl,qa⟩:=El (R:=λ_ q=>1<=q/\q<=9) Jx;rw[ly,Zb,Zj] at hl;have Jn:∀j,j<g->iO (ts.map PyData.int) (j:Int)=some (.int (ts.getD j 0)):=λj hj=>aH (dX (by omega))
 refine⟨by decide,⟨by decide,?_⟩⟩;show Go _ _ [some (.bag bj),some (.im (.int g)),some (.im (.int n)),some (.im (.list (ts.map .int))),some (.own O.length),some (.own (O++[some []]).length),none,none,none,none,none,none,none,none] (O++[some []]++[some []]);have yZ:(O++[some []]).length=O.length+1:=by simp
 rw[yZ];refine⟨⟨by omega,by omega⟩,λi sl O'=>∃(gd gf:List Nat) (W D:Γ1) (y6 y7 y8:Option AV),sl=[some (.bag bj),some (.im (.int g)),some (.im (.int n)),some (.im (.list (ts.map .int))),some (.own O.length),some (.own (O.length+1)),y6,y7,y8,none,none,none,none,none]/\mr O O' O.length (O.length+1) gd gf W D/\W.length=i/\D.length=i/\∀m,m<i->Bt ts (W.getD m []) (D.getD m []),?_,?_,?_⟩
 .refine⟨[],[],[],[],none,none,none,rfl,⟨((cQ.refl O).app _).app _,λk hk=>?_,by simp,⟨by simp,rfl,λi hi=>absurd hi (by simp)⟩,⟨by simp,rfl,λi hi=>absurd hi (by simp)⟩⟩,rfl,rfl,λm hm=>absurd hm (by omega)⟩;simp at hk;rcases hk with rfl |rfl<;>simp
 .rintro i x sl O' hx ⟨gd,gf,W,D,y6,y7,y8,rfl,T,hW,hD,bt⟩;obtain⟨hi,rfl⟩:=p7 hx;refine⟨?_⟩;conv=>whnf
  refine qK (λj z=>∃q:Int,z=.im (.int q)/\(0<=q/\q<=ts.getD j 0)) (by rw[Zb];simp;omega) (λj x Z hx hZ=>?_) (λzs TL hz=>?_)
  .have hj:j<g:=by have:=(Zd.mp hx).1;simpa[hl] using this
   rw[Zg,dX (d:=0) (show j<ts.length by omega)] at hx;cases Option.some.inj hx;have ht:=qa j (by omega);refine⟨⟨by decide,by decide⟩,λu u0 u1=>⟨⟨by omega,by omega⟩,λv v0 v1=>⟨⟨nX (by omega),nX (by omega)⟩,hZ _ ⟨_,rfl,?_⟩⟩⟩⟩;have hu:u=0\/u=1:=by omega
   rcases hu with rfl |rfl
   .rw[Int.zero_mul,Int.sub_zero];dsimp only;split<;>omega
   .rw[Int.one_mul];dsimp only;split<;>omega
  obtain⟨r,rfl,hr⟩:=qL (R:=λj q=>0<=q/\q<=ts.getD j 0) hz;simp only[Zb] at TL;refine⟨⟨by omega,by omega⟩,λa a0 a1=>?_⟩;obtain⟨a,rfl⟩:∃a':Nat,a=(a':Int):=⟨a.toNat,by omega⟩;refine⟨_,Jn a (by omega),_,a,tF _ _,uf (by rw[Zb];omega),?_⟩;rw[jw,oz];have e:∀r':Γ3,some (List.map (λx=>AV.im (.int x)) r')=cI r':=λ_=>rfl
  rw[e];have T1:=T.app (cI (r.set a (ts.getD a 0)));have E8:(O'++[cI (r.set a (ts.getD a 0))])[O'.length]?=some (cI (r.set a (ts.getD a 0))):=tF _ _;have UC:O.length<=O'.length:=by have:=T.lM;obtain⟨t,rfl⟩:=this;simp
  refine⟨⟨_,T1.t1.hd⟩,_,T1.t1.hd,by rw[Zb,T1.t1.len,sz];omega,?_⟩;have T2:=T1.Rj E8 UC (T.fresh (Ze _));have cX:O.length<O'.length:=(T.ge _ Zo).2;have tE:((O'++[cI (r.set a (ts.getD a 0))]).set O.length (some (gd.map AV.own++[AV.own O'.length])))[O'.length]?=some (cI (r.set a (ts.getD a 0))):=by rw[Zw (by omega)];exact E8
  have lA:((O'++[cI (r.set a (ts.getD a 0))]).set O.length (some (gd.map AV.own++[AV.own O'.length]))).length=O'.length+1:=by simp
  generalize (O'++[cI (r.set a (ts.getD a 0))]).set O.length (some (gd.map AV.own++[AV.own O'.length]))=O2 at T2 tE lA ⊢;have AM:(r.set a (ts.getD a 0)).length=g:=by rw[Yl];omega
  have TW:∀j,(r.set a (ts.getD a 0)).getD j 0=if a=j then ts.getD a 0 else r.getD j 0:=λj=>EF (by omega)
  generalize r.set a (ts.getD a 0)=r' at T2 tE AM TW ⊢;refine⟨⟨⟨_,T2.t2.hd⟩,⟨by omega,by omega⟩,qK (λj z=>∃q:Int,z=.im (.int q)/\(0<=q/\q<=3/\(q≠0->r'.getD j 0=ts.getD j 0))) (by rw[ly];omega) (λj x Z hx hZ=>?_) (λzs A5 hz=>?_)⟩⟩
  .obtain⟨hj,rfl⟩:=p7 hx;rw[Zj] at hj;refine⟨⟨by decide,by decide⟩,λu u0 u1=>⟨_,_,tE,aH (dX (f:=λx:Int=>AV.im (.int x)) (d:=0) (by omega)),_,Jn j hj,dI,?_⟩⟩;have he:pF (.int (r'.getD j 0)) (.int (ts.getD j 0))=decide (r'.getD j 0=ts.getD j 0):=rfl;rw[he];by_cases hc:r'.getD j 0=ts.getD j 0
   .rw[decide_eq_true hc];exact⟨⟨nX (by omega),nX (by decide)⟩,hZ _ ⟨_,rfl,by show 0<=u*1;omega,by show u*1<=3;omega,λ_=>hc⟩⟩
   .rw[decide_eq_false hc];exact⟨⟨nX (by omega),nX (by decide)⟩,hZ _ ⟨_,rfl,by show 0<=u*0;omega,by show u*0<=3;omega,λz=>absurd (by show u*0=0;omega) z⟩⟩
  obtain⟨d,rfl,hd⟩:=qL (R:=λj q=>0<=q/\q<=3/\(q≠0->r'.getD j 0=ts.getD j 0)) hz;rw[ly,Zb,Zj] at A5;rw[e];have T3:=T2.app (cI d);have hd3:(O2++[cI d])[O2.length]?=some (cI d):=tF _ _;refine⟨_,T3.t2.hd,by rw[Zb,T3.t2.len,sz];omega,?_⟩;have T4:=T3.Ri hd3 (by omega) (T2.fresh (Ze _));generalize (O2++[cI d]).set (O.length+1) (some (gf.map AV.own++[AV.own O2.length]))=O4 at T4 ⊢;have IS:=T4.t2.row D.length (by simp);have HN:(gf++[O2.length]).getD D.length 0=O2.length:=by simp[List.getD,<- T.t2.len]
  have XH:(D++[d]).getD D.length []=d:=by rw[l5,if_pos rfl]
  refine⟨⟨by decide,by decide⟩,λv v0 v1=>⟨_,.own O2.length,T4.t2.hd,?_,?_⟩⟩
  .rw[Zs];exact Et _ _
  refine⟨_,a,by rw[HN,XH] at IS;exact IS,uf (by rw[Zb];omega),?_⟩;rw[oz,e];have T5:=T4.put2 (i:=D.length) (d.set a (1+v)) (by simp);rw[HN,jw] at T5;refine⟨_,_,W++[r'],D++[d.set a (1+v)],_,_,_,rfl,T5,by simp[hW],by simp[hD],λm hm=>?_⟩;rw[l5,l5,hW,hD];by_cases em:m=i
  .rw[if_pos em,if_pos em];have Sb:∀j,(d.set a (1+v)).getD j 0=if a=j then 1+v else d.getD j 0:=λj=>EF (by omega)
   refine⟨by omega,by rw[Yl];omega,λj hj=>?_,λj hj=>?_,λj hj=>?_,a,by omega,by rw[Sb,if_pos rfl];omega⟩
   .rw[TW];have:=hr j (by omega);have:=qa j hj;split
    .rename_i e;subst e;omega
    .assumption
   .rw[Sb];have:=hd j (by omega);split<;>omega
   .rw[Sb];split
    .rename_i e;subst e;rw[TW,if_pos rfl];intro _;rfl
    .exact(hd j (by omega)).2.2
  .rw[if_neg em,if_neg em];exact bt m (by omega)
 rintro sl O' ⟨gd,gf,W,D,y6,y7,y8,rfl,T,hW,hD,bt⟩;rw[ly,Zj] at hW hD bt;refine⟨⟨by omega,by omega⟩,λi sl O'=>∃(W D:Γ1) (y6 y9:Option AV),sl=[some (.bag bj),some (.im (.int g)),some (.im (.int n)),some (.im (.list (ts.map .int))),some (.own O.length),some (.own (O.length+1)),y6,y7,y8,y9,none,none,none,none]/\mr O O' O.length (O.length+1) gd gf W D/\W.length=n/\D.length=n/\(∀m,m<n->Bt ts (W.getD m []) (D.getD m []))/\∀j,j<i->∃m,m<n/\1<=(D.getD m []).getD j 0,⟨W,D,_,_,rfl,T,hW,hD,bt,λj hj=>absurd hj (by omega)⟩,?_,?_⟩
 .rintro i x sl O' hx ⟨W,D,y6,y9,rfl,T,hW,hD,bt,zr⟩;obtain⟨hi,rfl⟩:=p7 hx;rw[Zj] at hi;refine⟨⟨by omega,by omega⟩,λb b0 b1=>?_⟩;obtain⟨b,rfl⟩:∃a':Nat,b=(a':Int):=⟨b.toNat,by omega⟩;have hb:=bt b (by omega);have aeO:gd.length=n:=by rw[T.t1.len,hW]
  have aeN:gf.length=n:=by rw[T.t2.len,hD]
  have ht:=qa i (by omega);have e:∀r':Γ3,some (List.map (λx=>AV.im (.int x)) r')=cI r':=λ_=>rfl
  refine⟨_,Jn i hi,_,.own (gd.getD b 0),T.t1.hd,aH (dX (by omega)),_,i,T.t1.row b (by omega),uf (by rw[Zb,hb.wl];omega),?_⟩;rw[oz,e];have T1:=T.WL (i:=b) ((W.getD b []).set i (ts.getD i 0)) (by omega);generalize O'.set (gd.getD b 0) (cI ((W.getD b []).set i (ts.getD i 0)))=O1 at T1 ⊢;refine⟨_,.own (gf.getD b 0),T1.t2.hd,aH (dX (by omega)),_,_,T1.t2.row b (by omega),aH (dX (f:=λx:Int=>AV.im (.int x)) (d:=0) (by rw[hb.dl];omega)),?_⟩;refine⟨_,.own (gf.getD b 0),T1.t2.hd,aH (dX (by omega)),_,i,T1.t2.row b (by omega),uf (by rw[Zb,hb.dl];omega),?_⟩;rw[oz,e];have T2:=T1.put2 (i:=b) ((D.getD b []).set i (if (D.getD b []).getD i 0>1 then (D.getD b []).getD i 0 else 1)) (by omega);refine⟨_,_,_,_,rfl,T2,by simp[hW],by simp[hD],λm hm=>?_,λj hj=>?_⟩
  .rw[Jj (by omega),Jj (by omega)];by_cases em:b=m
   .rw[if_pos em,if_pos em];exact hb.up (by omega) ht.1
   .rw[if_neg em,if_neg em];exact bt m hm
  .by_cases ej:j=i
   .subst ej;exact⟨b,by omega,by rw[Jj (by omega),if_pos rfl,EF (by rw[hb.dl];omega),if_pos rfl];split<;>omega⟩
   .obtain⟨m,hm,ZC⟩:=zr j (by omega);refine⟨m,hm,?_⟩;rw[Jj (by omega)];by_cases em:b=m
    .subst em;rw[if_pos rfl,EF (by rw[hb.dl];omega),if_neg (by omega)];exact ZC
    .rw[if_neg em];exact ZC
 rintro sl O' ⟨W,D,y6,y9,rfl,T,hW,hD,bt,zr⟩;rw[ly,Zj] at zr;have jO:∀{O1:aM}{k:Nat}{ks:List Nat}{W:Γ1},qb O1 k ks W->∀(j:Nat) kj,ks[j]?=some kj->O1[kj]?=some (some (((W.map λr=>r.map PyData.int).getD j []).map AV.im)):=λ{O1 k ks W} t j kj hj=>by
  have Ow:=(Zd.mp hj).1;have Ox:j<W.length:=by rw[<- t.len];exact Ow
  have:=t.row j Ox;rw[gb hj] at this;rw[this,vF (a:=[]) Ox,Zi];rfl
 refine⟨O.length,gd,W.map (λr=>r.map .int),rfl,T.t1.hd,by rw[Zb];exact T.t1.len,jO T.t1,?_⟩;have T2:qb (vD O' (O.length::gd)) (O.length+1) gf D:=T.t2.none (λk hk=>T.d1 k hk);refine⟨O.length+1,gf,D.map (λr=>r.map .int),rfl,T2.hd,by rw[Zb];exact T.t2.len,jO T2,?_⟩;have hG:cQ O (vD (vD O' (O.length::gd)) ((O.length+1)::gf)):=by
  refine cQ.none (cQ.none T.lM λk hk=>(T.ge k ?_).1) λk hk=>(T.ge k ?_).1
  .rcases Zf.mp hk with rfl |hk
   .exact Zo
   .exact Zk _ (Zk _ (Yw _ hk))
  .rcases Zf.mp hk with rfl |hk
   .exact Zk _ Zo
   .exact Zk _ (Zk _ (Zq _ hk))
 generalize vD (vD O' (O.length::gd)) ((O.length+1)::gf)=O8 at hG ⊢;rw[Zi,Zi];have hWe:∀(i:Nat) x,(((W.map (PyData.list ∘ λr=>r.map .int)).map AV.im))[i]?=some x->i<n/\x=.im (.list ((W.getD i []).map .int)):=λi x hx=>by
  have hi:i<n:=by have:=(Zd.mp hx).1;simpa[hW] using this
  rw[Zg,dX (d:=[]) (show i<W.length by omega)] at hx;exact⟨hi,(Option.some.inj hx).symm⟩
 have OM:∀(i:Nat) x,(((D.map (PyData.list ∘ λr=>r.map .int)).map AV.im))[i]?=some x->i<n/\x=.im (.list ((D.getD i []).map .int)):=λi x hx=>by
  have hi:i<n:=by have:=(Zd.mp hx).1;simpa[hD] using this
  rw[Zg,dX (d:=[]) (show i<D.length by omega)] at hx;exact⟨hi,(Option.some.inj hx).symm⟩
 conv=>whnf
 refine lv (λi=>qD ((ts.getD i 0:Int):Rat)) (by simp;omega) (λj x Z hx hZ=>?_) ?_
 .have hj:j<g:=by have:=(Zd.mp hx).1;simpa[hl] using this
  rw[Zg,dX (d:=0) (show j<ts.length by omega)] at hx;cases Option.some.inj hx;exact⟨dj,hZ⟩
 refine⟨⟨by omega,by omega⟩,lv (λj=>.int (cm D j)) (by rw[ly];omega) (λj x Z hx hZ=>?_) ?_⟩
 .obtain⟨hj,rfl⟩:=p7 hx;rw[Zj] at hj;conv=>whnf
  refine lv (λi=>.int ((D.getD i []).getD j 0)) (by simp;omega) (λi x Z hx hZ=>?_) ?_
  .obtain⟨hi,rfl⟩:=OM i x hx;exact⟨_,aH (dX (f:=PyData.int) (d:=0) (by rw[(bt i hi).dl];omega)),hZ⟩
  .refine⟨(List.range D.length).map λi=>(D.getD i []).getD j 0,by simp[Zi,Function.comp_def],?_⟩;rw[nD (λr:Γ3=>r.getD j 0) D []];exact hZ
 rw[ly,Zj];refine⟨?_⟩;conv=>whnf
 refine lv (λi=>qD ((lG ts (D.getD i []) g:Int):Rat)) (by simp;omega) (λi x Z hx hZ=>?_) ?_
 .obtain⟨hi,rfl⟩:=OM i x hx;refine⟨⟨by omega,by omega⟩,lv (λj=>.int ((D.getD i []).getD j 0*ts.getD j 0)) (by rw[ly];omega) (λj x Z hx hZ=>?_) ?_⟩
  .obtain⟨hj,rfl⟩:=p7 hx;rw[Zj] at hj;have:=(bt i hi).d0 j (by omega);have:=qa j (by omega);exact⟨_,aH (dX (f:=PyData.int) (d:=0) (by rw[(bt i hi).dl];omega)),_,Jn j hj,⟨nX (by omega),nX (by omega)⟩,hZ⟩
  .rw[ly,Zj];exact⟨(List.range g).map λj=>(D.getD i []).getD j 0*ts.getD j 0,by rw[Zi];rfl,dj,hZ⟩
 refine⟨?_⟩;conv=>whnf
 refine lv (λi=>.tuple ((cY (D.getD i [])).map qD)) (by simp;omega) (λi x Z hx hZ=>?_) ?_
 .obtain⟨hi,rfl⟩:=OM i x hx;conv=>whnf
  refine lv (λj=>qD (((D.getD i []).getD j 0:Int):Rat)) (by rw[Zb,Zb,(bt i hi).dl];omega) (λj x Z hx hZ=>?_) ?_
  .have hj:j<(D.getD i []).length:=by have:=(Zd.mp hx).1;simpa using this
   rw[Zg,dX (d:=0) hj] at hx;cases Option.some.inj hx;exact⟨dj,hZ⟩
  .show Z (.im (.tuple ((List.range (((D.getD i []).map PyData.int).map AV.im).length).map λj=>qD (((D.getD i []).getD j 0:Int):Rat)))) O8;rw[Zb,Zb,nD (λx:Int=>qD (x:Rat)) (D.getD i []) 0];unfold cY at hZ;rw[Zi] at hZ;exact hZ
 refine⟨?_⟩;conv=>whnf
 refine lv (λi=>.tuple ((W.getD i []).map .int)) (by simp;omega) (λi x Z hx hZ=>?_) ?_
 .obtain⟨hi,rfl⟩:=hWe i x hx;exact hZ
 refine⟨Bl,Bl,?_⟩;have hk:qo n g ts W D:=⟨hl,λj hj=>qa j (by omega),hW,hD,λi hi=>by rw[(bt i hi).wl];exact hl,λi hi=>by rw[(bt i hi).dl];exact hl,λi j hi hj=>(bt i hi).w0 j (by omega),λi j hi hj=>(bt i hi).d0 j (by omega),λi j hi hj=>(bt i hi).dw j (by omega),λi hi=>by rw[<- hl];exact(bt i hi).ex,zr⟩;have:=h n g ts W D O8 hG g1 g6 n1 n6 hk;unfold ia bD cY at this;simp only[Zi,Function.comp_def] at this;have l2:∀{α : Type}(f:α->PyData) (xs:List α),((xs.map f).map AV.im).length=xs.length:=λf xs=>by rw[Zb,Zb]
 simp only[l2];rw[nD (λr=>qD ((lG ts r g:Int):Rat)) D [],nD (λr=>PyData.tuple (r.map .int)) W [],nD (λx:Int=>qD (x:Rat)) ts 0,nD (λr=>PyData.tuple ((cY r).map qD)) D []];unfold cY;simp only[Zi,Function.comp_def];exact this
section
variable {K:Θ1}{QX:Addr->aM->Prop}{E:XK}{X:Cx}
def Kv (i j:Nat)(Ms:MA):MS:=λD sl O=>Ms sl O λxs O1=>match xs with
 |[x,y]=>D.nx ((sl.set i (some x)).set j (some y)) O1
 |_=>False
theorem CH {i j:Nat}{x y:Str}{a b:Expr}{Ms:MA}{px py pt pos:Pos}{kt k2 Jh}(hc:X.calm=true)(hN:X.N.Nodup)(hi:X.N[i]?=some x)(hj:X.N[j]?=some y)(Uj:i≠j)
  (hx:X.env.scope.names.lookup x=some .local) (hy:X.env.scope.names.lookup y=some .local) (ha:PA X [a,b] (mL K QX E Ms))
  (hw:swappedStores [.Tuple [.Name x px,.Name y py] kt pt] (.Tuple [a,b] k2 Jh) X.env=pure (some [x,y]))
  (hs:swapsWithSole [.Tuple [.Name x px,.Name y py] kt pt] (.Tuple [a,b] k2 Jh) pos.line X.env=pure false:=by rfl) :
  PS X (.Assign [.Tuple [.Name x px,.Name y py] kt pt] (.Tuple [a,b] k2 Jh) pos) (kh K QX E (Kv i j Ms)):=PS.imp (j2 hc hN hi hj Uj hx hy ha hw hs) λD σ H ⟨w,O,sl,D0,c,m,hn,hb,hc,hr⟩=>⟨w,O,sl,_,c,m,λxs O1 vs w1 H1 h1 e1 r1 a1=>by
 split at h1
 .obtain⟨v,u,rfl,b1,b2⟩:=Br a1;exact⟨v,u,rfl,hn _ O1 w1 H1 _ h1 (((c.ex e1.ex r1).put b1 i).put b2 j) e1⟩
 .exact h1.elim⟩
end
section
variable {n:Nat}{ix:List Nat}{sl:iA}{O:aM}{Q:AV->aM->Prop}
theorem qy {D:List (Δ1)}{i:Nat}{x:AV}(h:((D.map λqs=>PyData.tuple (qs.map qD)).map AV.im)[i]?=some x):i<D.length/\x=.im (.tuple ((D.getD i []).map qD)):=by
 have hi:i<D.length:=by have:=(Zd.mp h).1;simpa using this
 rw[Zg,dX (d:=[]) hi] at h;exact⟨hi,(Option.some.inj h).symm⟩
end
def QE:FM:=λO xs P _=>∃a b,xs=[.im (qD a),.im (qD b)]/\(Rb 3000 a/\Rb 3000 b/\0<b)/\P (.im (qD (a / b))) O
theorem jC {q:Rat}(h:Rb 29 q):bz (qD q)=true:=by
 obtain⟨h1,h2⟩:=h;unfold Bd at h1 h2;have sm:∀z:Int,z.natAbs<2 ^ 29->bz (.int z)=true:=λz hz=>by
  show(decide (-1073741824<z)&&decide (z<1073741824))=true;rw[decide_eq_true (show -1073741824<z by omega),decide_eq_true (show z<1073741824 by omega)];rfl
 refine gj λd hd=>?_
 simp only[Zf,Xh,or_false] at hd;rcases hd with rfl |rfl
 .exact sm _ h1
 .exact sm _ h2
theorem qu {D:List (Δ1)}(h:∀r∈D,∀z∈r,Rb 29 z):bz (bD D)=true:=by
 refine gj λd hd=>?_
 obtain⟨r,hr,rfl⟩:=Zh.mp hd;refine gj λe he=>?_
 obtain⟨z,hz,rfl⟩:=Zh.mp he;exact jC (h r hr z hz)
def eI (B:Γ1)(i j:Nat):Int:=(B.getD i []).getD j 0
def gm (B:Γ1)(i j:Nat)(x:Int):Γ1:=B.set i ((B.getD i []).set j x)
theorem ji {B:Γ1}{i j:Nat}{x:Int}:(gm B i j x).length=B.length:=by unfold gm;simp
theorem kT {B:Γ1}{i j g n:Nat}{x:Int}(hn:B.length=n)(h:∀i,i<n->(B.getD i []).length=g)(hi:i<n):∀m,m<n->((gm B i j x).getD m []).length=g:=λm hm=>by
 unfold gm;rw[Jj (by omega)];split
 .rw[Yl];exact h i hi
 .exact h m hm
theorem jf {B:Γ1}{i j i' j':Nat}{x:Int}(hi:i<B.length)(hj:j<(B.getD i []).length):eI (gm B i j x) i' j'=if i=i'/\j=j' then x else eI B i' j':=by
 unfold eI gm;rw[Jj hi];by_cases e:i=i'
 .subst e;rw[if_pos rfl,EF hj];by_cases e2:j=j'
  .rw[if_pos e2,if_pos ⟨rfl,e2⟩]
  .rw[if_neg e2,if_neg (λz=>e2 z.2)]
 .rw[if_neg e,if_neg (λz=>e z.1)]
theorem uu {n i:Nat}{f f':Nat->Int}(hi:i<n)(h:∀k,k≠i->f' k=f k):((List.range n).map f').sum=((List.range n).map f).sum+(f' i-f i):=by
 induction n with
 |zero=>exact absurd hi (by omega)
 |succ n ih =>
  rw[Yo,Zs,Zs,Qa,Qa];have e1:∀g:Nat->Int,([n].map g).sum=g n:=λg=>by simp
  rw[e1,e1];by_cases e:i=n
  .subst e;have:(List.range i).map f'=(List.range i).map f:=Xi λk hk=>h k (by have:=Zm.mp hk;omega)
   rw[this];omega
  .rw[ih (by omega),h n (λz=>e z.symm)];omega
theorem gX (B:Γ1)(j:Nat):cm B j=((List.range B.length).map λi=>eI B i j).sum:=by
 unfold cm eI;rw[nD (λr:Γ3=>r.getD j 0) B []]
theorem nu {B:Γ1}{i j j':Nat}{x:Int}(hi:i<B.length)(hj:j<(B.getD i []).length):cm (gm B i j x) j'=cm B j'+(if j=j' then x-eI B i j else 0):=by
 rw[gX,gX,ji,uu (f:=λk=>eI B k j') hi (λk hk=>by show eI (gm B i j x) k j'=_;rw[jf hi hj,if_neg (λz=>hk z.1.symm)])];show _+(eI (gm B i j x) i j'-eI B i j')=_;rw[jf hi hj];by_cases e:j=j'
 .subst e;rw[if_pos ⟨rfl,rfl⟩,if_pos rfl]
 .rw[if_neg (λz=>e z.2),if_neg e];omega
theorem m8 {B:Γ1}{ts:Γ3}{i j i' g:Nat}{x:Int}(hi:i<B.length)(hj:j<(B.getD i []).length)(hg:j<g):lG ts ((gm B i j x).getD i' []) g=lG ts (B.getD i' []) g+(if i=i' then (x-eI B i j)*ts.getD j 0 else 0):=by
 unfold lG;by_cases e:i=i'
 .subst e;rw[if_pos rfl,uu (f:=λk=>(B.getD i []).getD k 0*ts.getD k 0) hg (λk hk=>by
   have:=jf (i':=i) (j':=k) (x:=x) hi hj;rw[if_neg (λz=>hk z.2.symm)] at this;show eI (gm B i j x) i k*_=_;rw[this];rfl)]
  have:=jf (i':=i) (j':=j) (x:=x) hi hj;rw[if_pos ⟨rfl,rfl⟩] at this;show _+(eI (gm B i j x) i j*ts.getD j 0-eI B i j*ts.getD j 0)=_;rw[this,Int.sub_mul]
 .rw[if_neg e,Int.add_zero];unfold gm;rw[Jj hi,if_neg e]
structure pR (n g:Nat)(ts:Γ3)(D B:Γ1):Prop where
 bl:B.length=n
 br:∀i,i<n->(B.getD i []).length=g
 b0:∀i j,i<n->j<g->0<=eI B i j
 col:∀j,j<g->cm B j=cm D j
 Tp:∀i,i<n->lG ts (B.getD i []) g=lG ts (D.getD i []) g
theorem pR.swap {n g a o m y:Nat}{ts:Γ3}{D B:Γ1}(h:pR n g ts D B)(ha:a<n)(ho:o<n)(hm:m<g)(hy:y<g)(OJ:a≠o){b0 b1:Int}(Fc:0<=b0)(hb1:0<=b1)(e:b1*ts.getD m 0=b0*ts.getD y 0)(h1:b1<=eI B a m)(h2:b0<=eI B o y) :
  ∃B1 B2 B3 B4,B1=gm B a m (eI B a m-b1)/\B2=gm B1 o m (eI B1 o m+b1)/\B3=gm B2 o y (eI B2 o y-b0)/\B4=gm B3 a y (eI B3 a y+b0)/\B1.length=n/\B2.length=n/\B3.length=n/\(∀i,i<n->(B1.getD i []).length=g)/\(∀i,i<n->(B2.getD i []).length=g)/\(∀i,i<n->(B3.getD i []).length=g)/\pR n g ts D B4:=by
 refine⟨_,_,_,_,rfl,rfl,rfl,rfl,?_⟩;have l0:=h.bl;have r0:=h.br;generalize e1:gm B a m (eI B a m-b1)=B1;have l1:B1.length=n:=by rw[<- e1,ji,l0]
 have r1:∀i,i<n->(B1.getD i []).length=g:=by rw[<- e1];exact kT l0 r0 ha
 generalize e2:gm B1 o m (eI B1 o m+b1)=B2;have l2:B2.length=n:=by rw[<- e2,ji,l1]
 have r2:∀i,i<n->(B2.getD i []).length=g:=by rw[<- e2];exact kT l1 r1 ho
 generalize e3:gm B2 o y (eI B2 o y-b0)=B3;have l3:B3.length=n:=by rw[<- e3,ji,l2]
 have r3:∀i,i<n->(B3.getD i []).length=g:=by rw[<- e3];exact kT l2 r2 ho
 have x1:∀i j,eI B1 i j=if a=i/\m=j then eI B a m-b1 else eI B i j:=λi j=>by rw[<- e1];exact jf (by omega) (by rw[r0 a ha];exact hm)
 have x2:∀i j,eI B2 i j=if o=i/\m=j then eI B1 o m+b1 else eI B1 i j:=λi j=>by rw[<- e2];exact jf (by omega) (by rw[r1 o ho];exact hm)
 have x3:∀i j,eI B3 i j=if o=i/\y=j then eI B2 o y-b0 else eI B2 i j:=λi j=>by rw[<- e3];exact jf (by omega) (by rw[r2 o ho];exact hy)
 have p1:∀i j,i<n->j<g->0<=eI B1 i j:=λi j hi hj=>by rw[x1];have:=h.b0 i j hi hj;split<;>omega
 have p2:∀i j,i<n->j<g->0<=eI B2 i j:=λi j hi hj=>by rw[x2];have:=p1 i j hi hj;have:=p1 o m ho hm;split<;>omega
 have q2:b0<=eI B2 o y:=by
  rw[x2];have q1:eI B1 o y=eI B o y:=by rw[x1,if_neg (λz=>OJ z.1)]
  by_cases z:m=y
  .subst z;rw[if_pos ⟨rfl,rfl⟩,q1];omega
  .rw[if_neg (λw=>z w.2),q1];exact h2
 have p3:∀i j,i<n->j<g->0<=eI B3 i j:=λi j hi hj=>by rw[x3];have:=p2 i j hi hj;split<;>omega
 refine⟨l1,l2,l3,r1,r2,r3,⟨by rw[ji,l3],kT l3 r3 ha,λi j hi hj=>?_,λj hj=>?_,λi hi=>?_⟩⟩
 .rw[jf (by omega) (by rw[r3 a ha];exact hy)];have:=p3 i j hi hj;have:=p3 a y ha hy;split<;>omega
 .rw[nu (by omega) (by rw[r3 a ha];exact hy),<- e3,nu (by omega) (by rw[r2 o ho];exact hy),<- e2,nu (by omega) (by rw[r1 o ho];exact hm),<- e1,nu (by omega) (by rw[r0 a ha];exact hm),h.col j hj];rw[e1,e2,e3];split<;>split<;>omega
 .rw[m8 (by omega) (by rw[r3 a ha];exact hy) hy,<- e3,m8 (by omega) (by rw[r2 o ho];exact hy) hy,<- e2,m8 (by omega) (by rw[r1 o ho];exact hm) hm,<- e1,m8 (by omega) (by rw[r0 a ha];exact hm) hm,h.Tp i hi];rw[e1,e2,e3];have f1:eI B a m-b1-eI B a m=- b1:=by omega
  have f2:eI B1 o m+b1-eI B1 o m=b1:=by omega
  have f3:eI B2 o y-b0-eI B2 o y=- b0:=by omega
  have f4:eI B3 a y+b0-eI B3 a y=b0:=by omega
  rw[f1,f2,f3,f4,Int.neg_mul,Int.neg_mul,e];split<;>split<;>omega
structure One (O O':aM)(k:Nat)(ks:List Nat)(W:Γ1):Prop where
 lM:cQ O O'
 ge:∀x∈k::ks,O.length<=x
 nd:(k::ks).Nodup
 t:qb O' k ks W
theorem One.put {O O':aM}{k i:Nat}{ks:List Nat}{W:Γ1}(h:One O O' k ks W)(r:Γ3)(hi:i<W.length):One O (O'.set (ks.getD i 0) (cI r)) k ks (W.set i r) :=
 ⟨h.lM.set (h.ge _ (Zk _ (mem_getD (by rw[h.t.len];exact hi)))) _,h.ge,h.nd,h.t.put r hi h.nd⟩
theorem One.get {O O':aM}{k i j:Nat}{ks:List Nat}{W:Γ1}(h:One O O' k ks W)(hi:i<W.length)(hj:j<(W.getD i []).length):O'[k]?=some (some (ks.map AV.own))/\iO (ks.map AV.own) (i:Int)=some (.own (ks.getD i 0))/\O'[ks.getD i 0]?=some (some ((W.getD i []).map λx=>AV.im (.int x)))/\iO ((W.getD i []).map λx=>AV.im (PyData.int x)) (j:Int)=some (.im (.int (eI W i j)))/\tK ((W.getD i []).map λx=>AV.im (PyData.int x)).length (j:Int)=some j :=
 ⟨h.t.hd,aH (dX (by rw[h.t.len];exact hi)),h.t.row i hi,aH (dX hj),uf (by rw[Zb];exact hj)⟩
theorem One.Fx {O O':aM}{k i j:Nat}{ks:List Nat}{W:Γ1}(h:One O O' k ks W)(x:Int)(hi:i<W.length):One O (O'.set (ks.getD i 0) (some (((W.getD i []).map λx=>AV.im (PyData.int x)).set j (.im (.int x))))) k ks (gm W i j x):=by
 rw[oz];exact h.put _ hi
theorem One.jO {O O':aM}{k i:Nat}{ks:List Nat}{W:Γ1}{sl:iA}{M:MS}{E:xT}(h:One O O' k ks W)(hs:sl[i]?=some (some (.own k)))(hm:∀O2,cQ O O2->M E (sl.set i (some (.im (.list (W.map λr=>.list (r.map .int)))))) O2):qg i M E sl O':=by
 refine⟨k,ks,W.map (λr=>r.map .int),hs,h.t.hd,by rw[Zb];exact h.t.len,λj kj hj=>?_,?_⟩
 .have Ow:=(Zd.mp hj).1;have Ox:j<W.length:=by rw[<- h.t.len];exact Ow
  have:=h.t.row j Ox;rw[gb hj] at this;rw[this,vF (a:=[]) Ox,Zi];rfl
 .rw[Zi];exact hm _ (cQ.none h.lM λx hx=>h.ge x hx)
theorem sU {n:Nat}{ix:List Nat}{sl:iA}{O:aM}{Q:AV->aM->Prop}{D:Γ1}(h6:D.length<=1000)(hn:0<n)(hd:∀O' k ks,One O O' k ks D->Q (.own k) O'):We n ix (aW 0) bZ (cE FD (ae (ag 0) ah)) sl Q ((D.map λr=>PyData.list (r.map .int)).map AV.im) O:=by
 have hl:((D.map λr=>PyData.list (r.map .int)).map AV.im).length=D.length:=by simp
 refine⟨by omega,λi zs O'=>zs=zn O.length i/\O'=O++(D.take i).map cI,⟨rfl,by simp⟩,?_,?_⟩
 .rintro i x zs O' hx ⟨rfl,rfl⟩;have hi:i<D.length:=by have:=(Zd.mp hx).1;simpa using this
  rw[Zg,dX (d:=[]) hi] at hx;cases Option.some.inj hx;refine⟨λ_=>?_,λz=>(by cases z)⟩;have hs:((fj n ix sl).set 0 (some (AV.im (.list ((D.getD i []).map .int)))))[0]?=some (some (AV.im (.list ((D.getD i []).map .int)))):=by
   rw[Yf];unfold fj;simp;omega
  show ag 0 _ _ _;unfold ag;rw[hs];refine⟨?_,?_⟩
  .rw[zW];simp[Nat.min_eq_left (Nat.le_of_lt hi)]
  .rw[Xz,Zc hi,Zs,<- Xf]
   congr 1
   rw[gb (Zc hi),Zi];rfl
 .rintro zs O' ⟨rfl,rfl⟩;rw[hl,Yz,Xf];have e:(O++D.map cI).length=O.length+D.length:=by simp
  rw[e];refine hd _ _ ((List.range D.length).map λt=>O.length+t) ⟨⟨_,rfl⟩,λx hx=>?_,?_,⟨?_,by simp,λi hi=>?_⟩⟩
  .rcases Zf.mp hx with rfl |hx
   .omega
   .obtain⟨t,_,rfl⟩:=Zh.mp hx;omega
  .refine Yh.mpr ⟨λhx=>?_,?_⟩
   .obtain⟨t,ht,e⟩:=Zh.mp hx;have:=Zm.mp ht;omega
   .exact List.Pairwise.map _ (λa b OK=>by omega) Qu
  .rw[Es,DI]
  .have:((List.range D.length).map λt=>O.length+t).getD i 0=O.length+i:=by simp[List.getD,Yu hi]
   rw[this];exact HB cI O _ D i [] hi
theorem M6 {a b:Int}(ha:0<a)(hb:0<b):0<((a:Rat) / (b:Rat)).num/\0<(((a:Rat) / (b:Rat)).den:Int)/\(((a:Rat) / (b:Rat)).den:Int)*a=((a:Rat) / (b:Rat)).num*b:=by
 have h1:(0:Rat)<(a:Rat):=by exact_mod_cast ha
 have h2:(0:Rat)<(b:Rat):=by exact_mod_cast hb
 have h3:(0:Rat)<(a:Rat) / (b:Rat):=by rw[Rat.div_def];exact Rat.mul_pos h1 (Rat.inv_pos.mpr h2)
 refine⟨kJ.mp h3,lu _,?_⟩;have h5:((((a:Rat) / (b:Rat)).num:Int):Rat)=((a:Rat) / (b:Rat))*((((a:Rat) / (b:Rat)).den:Int):Rat):=by
  have h7:=Xl ((a:Rat) / (b:Rat));rw[Rat.divInt_eq_div] at h7;have h8:((((a:Rat) / (b:Rat)).den:Int):Rat)≠0:=by
   have:=lu ((a:Rat) / (b:Rat))
   exact_mod_cast (show(((a:Rat) / (b:Rat)).den:Int)≠0 by omega)
  generalize ((((a:Rat) / (b:Rat)).den:Int):Rat)=dd at h7 h8 ⊢;generalize ((((a:Rat) / (b:Rat)).num:Int):Rat)=nn at h7 ⊢;generalize (a:Rat) / (b:Rat)=qq at h7 ⊢
  grind
 have h6:((((a:Rat) / (b:Rat)).den:Int):Rat)*(a:Rat)=((((a:Rat) / (b:Rat)).num:Int):Rat)*(b:Rat):=by
  rw[h5];generalize ((((a:Rat) / (b:Rat)).den:Int):Rat)=dd
  grind
 exact_mod_cast h6
theorem Db {g:Nat}(h:g<=6):pF (.list ((List.range g).map λ_=>PyData.int 0)) (.list (List.replicate g [PyData.int 0]).flatten)=true:=by
 have:g=0\/g=1\/g=2\/g=3\/g=4\/g=5\/g=6:=by omega
 rcases this with rfl |rfl |rfl |rfl |rfl |rfl |rfl<;>decide+kernel
theorem zF {g:Nat}{e:PyData}(h:g<=6):min (PyData.list ((List.range g).map λ_=>PyData.int 0)).depth e.depth<=60:=by
 have:g=0\/g=1\/g=2\/g=3\/g=4\/g=5\/g=6:=by omega
 refine Ye (Nat.min_le_left _ _) ?_;rcases this with rfl |rfl |rfl |rfl |rfl |rfl |rfl<;>decide+kernel
def FP:FM:=λO xs P _=>∃(j n g:Nat) (ts:Γ3) (W D:Γ1) (Pu:Δ1),xs=[.bag j,.im (ia ((List.range g).map (cm D)) Pu W),.im (.tuple ((cY ts).map qD)),.im (bD (D.map cY))]/\1<=g/\g<=6/\1<=n/\n<=6/\qo n g ts W D/\∀(B:Γ1) (O':aM),cQ O O'->pR n g ts D B->P (.im (.tuple [.tuple (B.map bT),.tuple (W.map bT)])) O'
abbrev NK:Δ2:=["bag","market","prices","dealing","brought","left","rows","turn","one","other","mine","yours","by"]
def Kw:MS:=(aB (aX (bp 1 [] (bU (ag 3)) (aW 0) bZ (bp 1 [] (bU (ag 0)) (aW 0) bZ (aE QG (aE bL (ag 0) (mC (.int 0))) (aE bL (ag 0) (mC (.int 1)))))) (aW 4))
 (aB (aX (bp 1 [4,1] (gH (ae (cE cP (ae (ag 2) ah)) ah)) (aW 0) bZ (aE zm (aE bL (aE bL (ag 2) (mC (.int 0))) (ag 0)) (cE vN (ae (bp 1 [0] (bU (ag 1)) (aW 0) bZ (aE bL (ag 0) (ag 1))) ah)))) (aW 5))
 (aB (di (bG (aE (jW true) (ag 5) (aE Fu (ij (ae (mC (.int 0)) ah)) (cE cP (ae (ag 2) ah))))) (bS (mC .none)) cb)
 (aB (aX (lS 1 [] (bU (ag 4)) (aW 0) bZ (cE FD (ae (ag 0) ah))) (aW 6))
 (aB (kz (gH (ae (ax cB cf (ae (ag 0) (ae (mC (.int 9)) ah))) ah)) (aW 7) (aB (Kv 8 9 (ae (ax cB cf (ae (ag 0) (ae (cE cP (ae (ag 6) ah)) ah))) (ae (ax cB cf (ae (ag 0) (ae (cE cP (ae (ag 6) ah)) ah))) ah)))
 (aB (Kv 10 11 (ae (ax cB cf (ae (ag 0) (ae (cE cP (ae (ag 2) ah)) ah))) (ae (ax cB cf (ae (ag 0) (ae (cE cP (ae (ag 2) ah)) ah))) ah)))
 (aB (aX (ax QE cf (ae (aE bL (ag 2) (ag 10)) (ae (aE bL (ag 2) (ag 11)) ah))) (aW 12))
 (di (ud (bG (aE (jW true) (ag 8) (ag 9))) (ud (bG (aE Sl (aE bL (aE bL (ag 6) (ag 8)) (ag 10)) (aE bL (ag 12) (mC (.int 1))))) (bG (aE Sl (aE bL (aE bL (ag 6) (ag 9)) (ag 11)) (aE bL (ag 12) (mC (.int 0))))))) (aB (aX (aE zm (aE bL (aE bL (ag 6) (ag 8)) (ag 10)) (aE bL (ag 12) (mC (.int 1)))) (EZ (aE bL (ag 6) (ag 8)) (ag 10)))
 (aB (aX (aE eO (aE bL (aE bL (ag 6) (ag 9)) (ag 10)) (aE bL (ag 12) (mC (.int 1)))) (EZ (aE bL (ag 6) (ag 9)) (ag 10)))
 (aB (aX (aE zm (aE bL (aE bL (ag 6) (ag 9)) (ag 11)) (aE bL (ag 12) (mC (.int 0)))) (EZ (aE bL (ag 6) (ag 9)) (ag 11)))
 (aX (aE eO (aE bL (aE bL (ag 6) (ag 8)) (ag 11)) (aE bL (ag 12) (mC (.int 0)))) (EZ (aE bL (ag 6) (ag 8)) (ag 11)))))) cb)))))
 (qg 6 (bS (fi (ae (cE iI (ae (bp 1 [] (bU (ag 6)) (aW 0) bZ (cE iI (ae (ag 0) ah))) ah)) (ae (aE bL (ag 1) (mC (.int 2))) ah))))))))))
theorem Ly:∀O xs Pq QX,FP O xs Pq QX->Kw { nx:=λ_ O'=>Pq (.im .none) O',rt:=Pq } (aZ NK xs) O:=by
 intro O xs Pq QX h;obtain⟨bj,n,g,ts,W,D,Pu,rfl,g1,g6,n1,n6,dl,h⟩:=h;have hD:=dl.dl;unfold Kw;conv=>whnf
 refine lv (λi=>.list ((D.getD i []).map .int)) (by simp;omega) (λi x Z hx hZ=>?_) ?_
 .obtain⟨hi,rfl⟩:=qy hx;rw[Zb] at hi;have e:(D.map cY).getD i []=cY (D.getD i []):=vF hi;rw[e];conv=>whnf
  refine lv (λj=>.int ((D.getD i []).getD j 0)) (by simp[cY];have:=dl.dr i (by omega);simp only[List.getD] at this;omega) (λj x Z hx hZ=>?_) ?_
  .have hj:j<(D.getD i []).length:=by have:=(Zd.mp hx).1;simpa[cY] using this
   unfold cY at hx;rw[Zi,Zg,dX (d:=0) hj] at hx;cases Option.some.inj hx;refine⟨_,rfl,_,rfl,⟨by show(0:Int)<1;decide,nX (by show((1:Int)).natAbs<2 ^ 40;decide)⟩,?_⟩;show Z (.im (.int ((D.getD i []).getD j 0 / 1))) O;rw[Int.ediv_one];exact hZ
  .show Z (.im (.list ((List.range (((cY (D.getD i [])).map qD).map AV.im).length).map λj=>.int ((D.getD i []).getD j 0)))) O;rw[Zb,Zb,show(cY (D.getD i [])).length=(D.getD i []).length by unfold cY;simp,nD PyData.int (D.getD i []) 0];exact hZ
 rw[show(((D.map cY).map λqs=>PyData.tuple (qs.map qD)).map AV.im).length=D.length by simp,nD (λr:Γ3=>PyData.list (r.map .int)) D []];have OM:∀(i:Nat) x,(((D.map λr=>PyData.list (r.map .int)).map AV.im))[i]?=some x->i<n/\x=.im (.list ((D.getD i []).map .int)):=λi x hx=>by
  have hi:i<n:=by have:=(Zd.mp hx).1;simpa[hD] using this
  rw[Zg,dX (d:=[]) (show i<D.length by omega)] at hx;exact⟨hi,(Option.some.inj hx).symm⟩
 have qa:((cY ts).map qD).length=g:=by unfold cY;simp[dl.tl]
 refine⟨⟨by rw[qa];omega,by rw[qa];omega⟩,lv (λ_=>.int 0) (by rw[ly,qa];omega) (λj x Z hx hZ=>?_) ?_⟩
 .obtain⟨hj,rfl⟩:=p7 hx;rw[qa,Zj] at hj;refine⟨_,rfl,_,aH (by rw[Zi,Zg,Yu hj];rfl),?_⟩;conv=>whnf
  refine lv (λi=>.int ((D.getD i []).getD j 0)) (by simp;omega) (λi x Z hx hZ=>?_) ?_
  .obtain⟨hi,rfl⟩:=OM i x hx;exact⟨_,aH (dX (f:=PyData.int) (d:=0) (by rw[dl.dr i hi];omega)),hZ⟩
  .refine⟨(List.range D.length).map λi=>(D.getD i []).getD j 0,by simp[Zi,Function.comp_def],?_⟩;rw[nD (λr:Γ3=>r.getD j 0) D []];show Z (.im (.int (cm D j-cm D j))) O;rw[Int.sub_self];exact hZ
 rw[ly,qa,Zj];refine⟨Bm,by rw[qa];omega,by rw[qa];omega,by rw[qa,sz];simp;omega,?_⟩;rw[qa,Zj];refine⟨zF g6,?_⟩;rw[Db g6];refine⟨λz=>(by cases z),λ_=>?_⟩;refine⟨?_⟩;conv=>whnf
 refine sU (by omega) (by decide) (λO1 k ks T=>?_);have B0:pR n g ts D D:=⟨hD,dl.dr,λi j hi hj=>(dl.d0 i j hi hj).1,λ_ _=>rfl,λ_ _=>rfl⟩;refine⟨⟨by decide,by decide⟩,λq q0 q1=>?_⟩;refine⟨⟨by omega,by omega⟩,?_⟩;generalize hbr:PyData.list (D.map λr=>PyData.list (r.map .int))=bd;generalize hlf:PyData.list ((List.range g).map λ_=>PyData.int 0)=lf;have Jn:∀j,j<g->iO ((cY ts).map qD) (j:Int)=some (qD ((ts.getD j 0:Int):Rat)):=λj hj=>aH (by unfold cY;rw[Zi];exact dX (by rw[dl.tl];exact hj))
 refine⟨λi sl O'=>∃(B:Γ1) (y7 y8 y9 mK AQ vm:Option AV),sl=[some (.bag bj),some (.im (ia ((List.range g).map (cm D)) Pu W)),some (.im (.tuple ((cY ts).map qD))),some (.im (bD (D.map cY))),some (.im bd),some (.im lf),some (.own k),y7,y8,y9,mK,AQ,vm]/\One O O' k ks B/\pR n g ts D B,⟨D,none,none,none,none,none,none,rfl,T,B0⟩,?_,?_⟩
 .rintro i x sl O' hx ⟨B,y7,y8,y9,mK,AQ,vm,rfl,T,hB⟩;obtain⟨hi,rfl⟩:=p7 hx;have Oq:(ks.map AV.own).length=n:=by rw[Zb,T.t.len,hB.bl]
  refine⟨_,T.t.hd,⟨by rw[Oq];omega,by rw[Oq];omega⟩,λa a0 a1=>⟨_,T.t.hd,⟨by rw[Oq];omega,by rw[Oq];omega⟩,λo o0 o1=>?_⟩⟩;rw[Oq] at a1 o1;obtain⟨a,rfl⟩:∃a':Nat,a=(a':Int):=⟨a.toNat,by omega⟩;obtain⟨o,rfl⟩:∃a':Nat,o=(a':Int):=⟨o.toNat,by omega⟩;refine⟨⟨by rw[qa];omega,by rw[qa];omega⟩,λm m0 m1=>⟨⟨by rw[qa];omega,by rw[qa];omega⟩,λy y0 y1=>?_⟩⟩;rw[qa] at m1 y1;obtain⟨m,rfl⟩:∃a':Nat,m=(a':Int):=⟨m.toNat,by omega⟩;obtain⟨y,rfl⟩:∃a':Nat,y=(a':Int):=⟨y.toNat,by omega⟩;have ha:a<n:=by omega
  have ho:o<n:=by omega
  have hm:m<g:=by omega
  have hy:y<g:=by omega
  obtain⟨tm1,tm2⟩:=dl.t0 m hm;obtain⟨xm,RQ⟩:=dl.t0 y hy;have Tk:∀t:Int,1<=t->t<=9->Rb 3000 (t:Rat)/\0<(t:Rat):=λt h1 h2=>by
   refine⟨⟨?_,?_⟩,by exact_mod_cast (show(0:Int)<t by omega)⟩
   .show Bd 3000 t;unfold Bd;exact Ya (show t.natAbs<2 ^ 40 by omega) (Qk (by decide) (by decide))
   .show Bd 3000 1;unfold Bd;exact Ya (show((1:Int)).natAbs<2 ^ 40 by decide) (Qk (by decide) (by decide))
  refine⟨_,Jn m hm,_,Jn y hy,_,_,rfl,⟨(Tk _ tm1 tm2).1,(Tk _ xm RQ).1,(Tk _ xm RQ).2⟩,?_⟩;obtain⟨c1,c2,c3⟩:=M6 (a:=ts.getD m 0) (b:=ts.getD y 0) (by omega) (by omega);generalize ((ts.getD m 0:Int):Rat) / ((ts.getD y 0:Int):Rat)=JM at c1 c2 c3 ⊢;have keep:∃(B:Γ1) (y7 y8 y9 mK AQ vm:Option AV),[some (.bag bj),some (.im (ia ((List.range g).map (cm D)) Pu W)),some (.im (.tuple ((cY ts).map qD))),some (.im (bD (D.map cY))),some (.im bd),some (.im lf),some (.own k),some (.im (.int i)),some (.im (.int a)),some (.im (.int o)),some (.im (.int m)),some (.im (.int y)),some (.im (qD JM))]=[some (.bag bj),some (.im (ia ((List.range g).map (cm D)) Pu W)),some (.im (.tuple ((cY ts).map qD))),some (.im (bD (D.map cY))),some (.im bd),some (.im lf),some (.own k),y7,y8,y9,mK,AQ,vm]/\One O O' k ks B/\pR n g ts D B:=⟨B,_,_,_,_,_,_,rfl,T,hB⟩;refine⟨dI,⟨λOJ=>?_,λ_=>⟨λz=>(by cases z),λ_=>keep⟩⟩⟩;have OJ:a≠o:=λz=>by subst z;exact absurd OJ (by simp[pF])
  have u1:=T.get (i:=a) (j:=m) (by rw[hB.bl];exact ha) (by rw[hB.br a ha];exact hm);have u2:=T.get (i:=o) (j:=y) (by rw[hB.bl];exact ho) (by rw[hB.br o ho];exact hy);refine⟨_,_,u1.1,u1.2.1,_,_,u1.2.2.1,u1.2.2.2.1,_,rfl,⟨λZ4=>?_,λ_=>⟨λz=>(by cases z),λ_=>keep⟩⟩⟩;refine⟨_,_,u2.1,u2.2.1,_,_,u2.2.2.1,u2.2.2.2.1,_,rfl,⟨λg2'=>?_,λ_=>keep⟩⟩;have h1:(JM.den:Int)<=eI B a m:=of_decide_eq_true Z4;have h2:JM.num<=eI B o y:=of_decide_eq_true g2';obtain⟨B1,B2,B3,B4,e1,e2,e3,e4,l1,l2,l3,r1,r2,r3,hB4⟩:=hB.swap ha ho hm hy OJ (by omega) (by omega) c3 h1 h2;refine⟨_,_,u1.1,u1.2.1,_,_,u1.2.2.1,u1.2.2.2.1,_,rfl,_,_,u1.1,u1.2.1,_,m,u1.2.2.1,u1.2.2.2.2,?_⟩;have T1:=T.Fx (i:=a) (j:=m) (eI B a m-(JM.den:Int)) (by rw[hB.bl];exact ha);rw[<- e1] at T1;have u3:=T1.get (i:=o) (j:=m) (by rw[l1];exact ho) (by rw[r1 o ho];exact hm);refine⟨⟨_,_,u3.1,u3.2.1,_,_,u3.2.2.1,u3.2.2.2.1,_,rfl,_,_,u3.1,u3.2.1,_,m,u3.2.2.1,u3.2.2.2.2,?_⟩⟩;have T2:=T1.Fx (i:=o) (j:=m) (eI B1 o m+(JM.den:Int)) (by rw[l1];exact ho);rw[<- e2] at T2;have u4:=T2.get (i:=o) (j:=y) (by rw[l2];exact ho) (by rw[r2 o ho];exact hy);refine⟨⟨_,_,u4.1,u4.2.1,_,_,u4.2.2.1,u4.2.2.2.1,_,rfl,_,_,u4.1,u4.2.1,_,y,u4.2.2.1,u4.2.2.2.2,?_⟩⟩;have T3:=T2.Fx (i:=o) (j:=y) (eI B2 o y-JM.num) (by rw[l2];exact ho);rw[<- e3] at T3;have u5:=T3.get (i:=a) (j:=y) (by rw[l3];exact ha) (by rw[r3 a ha];exact hy);refine⟨⟨_,_,u5.1,u5.2.1,_,_,u5.2.2.1,u5.2.2.2.1,_,rfl,_,_,u5.1,u5.2.1,_,y,u5.2.2.1,u5.2.2.2.2,?_⟩⟩;have T4:=T3.Fx (i:=a) (j:=y) (eI B3 a y+JM.num) (by rw[l3];exact ha);rw[<- e4] at T4;exact⟨B4,_,_,_,_,_,_,rfl,T4,hB4⟩
 rintro sl O' ⟨B,y7,y8,y9,mK,AQ,vm,rfl,T,hB⟩;refine⟨T.jO rfl λO2 hG=>?_⟩;conv=>whnf
 refine lv (λi=>.tuple ((B.getD i []).map .int)) (by simp;rw[hB.bl];omega) (λi x Z hx hZ=>?_) ?_
 .have hi:i<B.length:=by have:=(Zd.mp hx).1;simpa using this
  rw[Zg,dX (d:=[]) hi] at hx;cases Option.some.inj hx;exact hZ
 .refine⟨_,rfl,dj,?_⟩;rw[show((B.map λr=>PyData.list (r.map .int)).map AV.im).length=B.length by simp,nD (λr:Γ3=>PyData.tuple (r.map .int)) B []];exact h B O2 hG hB
def iQ (qs:Δ1)(r:Γ3)(g:Nat):Rat:=ck ((List.range g).map λj=>qs.getD j 0*((r.getD j 0:Int):Rat))
def iK (B W:Γ1):PyData:=.tuple [.tuple (B.map bT),.tuple (W.map bT)]
def qi:FM:=λO xs P _=>∃(n g:Nat) (B W:Γ1) (qs:Δ1),xs=[.im (iK B W),.im (.tuple (qs.map qD))]/\qs.length=g/\g<=6/\B.length=n/\n<=6/\(∀i,i<n->(B.getD i []).length=g)/\(∀i j,i<n->j<g->0<=eI B i j/\eI B i j<=100)/\(∀z∈qs,Rb 280 z)/\∀O',cQ O O'->P (.im (ia ((List.range g).map (cm B)) (B.map λr=>iQ qs r g) W)) O'
abbrev SA:Δ2:=["barter","prices","brought","wishes","amounts","purses","row","money"]
def ID:MS:=(aB (aX (ag 0) (vA 2 (bE (aW 2) (bE (aW 3) gh))))
 (aB (aX (cE iI (ae (bp 1 [2] (gH (ae (cE cP (ae (ag 1) ah)) ah)) (aW 0) bZ (cE vN (ae (bp 1 [0] (bU (ag 1)) (aW 0) bZ (aE bL (ag 0) (ag 1))) ah))) ah)) (aW 4))
 (aB (aX (vQ ah) (aW 5))
 (aB (kz (bU (ag 2)) (aW 6) (aB (aX (bp 1 [1,6] (gH (ae (cE cP (ae (ag 1) ah)) ah)) (aW 0) bZ (ax (f2 pG) cf (ae (aE bL (ag 1) (ag 0)) (ae (fi (ae (aE bL (ag 2) (ag 0)) (ae (mC (.int 1)) ah))) ah)))) (aW 7))
 (iX (rq (ag 5) (ae (ax KL cf (ae (ag 7) ah)) ah)))))
 (Kx 5 (bS (fi (ae (ag 4) (ae (cE iI (ae (ag 5) ah)) (ae (ag 3) ah))))))))))
theorem rO {x:Int}(h0:0<=x)(h1:x<=100):PyData.tuple [.int x,.int 1]=qD (x:Rat)/\Rb 7 (x:Rat) :=
 ⟨rfl,⟨by show Bd 7 x;unfold Bd;omega,by show Bd 7 1;unfold Bd;decide⟩⟩
theorem Gp:∀O xs Pq QX,qi O xs Pq QX->ID { nx:=λ_ O'=>Pq (.im .none) O',rt:=Pq } (aZ SA xs) O:=by
 intro O xs Pq QX h;obtain⟨n,g,B,W,qs,rfl,hq,g6,hB,n6,hr,hb,hz,h⟩:=h;have Z1:∀(i:Nat) x,((B.map bT).map AV.im)[i]?=some x->i<n/\x=.im (.tuple ((B.getD i []).map .int)):=λi x hx=>by
  have hi:i<n:=by have:=(Zd.mp hx).1;simpa[hB] using this
  rw[Zg,dX (d:=[]) (show i<B.length by omega)] at hx;exact⟨hi,(Option.some.inj hx).symm⟩
 have HL:∀j,j<g->iO (qs.map qD) (j:Int)=some (qD (qs.getD j 0)):=λj hj=>aH (dX (by omega))
 have mT:∀j,j<g->Rb 280 (qs.getD j 0):=λj hj=>hz _ (by rw[gb (Zc (show j<qs.length by omega))];exact Zv _)
 refine⟨rfl,⟨⟨by rw[Zb];omega,by rw[Zb];omega⟩,lv (λj=>.int (cm B j)) (by rw[ly,Zb];omega) (λj x Z hx hZ=>?_) ?_⟩⟩
 .obtain⟨hj,rfl⟩:=p7 hx;rw[Zb,hq,Zj] at hj;conv=>whnf
  refine lv (λi=>.int ((B.getD i []).getD j 0)) (by simp;omega) (λi x Z hx hZ=>?_) ?_
  .obtain⟨hi,rfl⟩:=Z1 i x hx;exact⟨_,aH (dX (f:=PyData.int) (d:=0) (by rw[hr i hi];omega)),hZ⟩
  .refine⟨(List.range B.length).map λi=>(B.getD i []).getD j 0,by simp[Zi,Function.comp_def],?_⟩;rw[nD (λr:Γ3=>r.getD j 0) B []];exact hZ
 rw[ly,Zb,hq,Zj];refine⟨by decide,?_⟩;generalize hA:PyData.tuple ((List.range g).map λj=>.int (cm B j))=ad;show Go _ _ [some (.im (iK B W)),some (.im (.tuple (qs.map qD))),some (.im (.tuple (B.map bT))),some (.im (.tuple (W.map bT))),some (.im ad),some (.own O.length),none,none] (O++[some []]);refine⟨?_⟩;conv=>whnf
 refine⟨λi sl O'=>∃(y6 y7:Option AV),sl=[some (.im (iK B W)),some (.im (.tuple (qs.map qD))),some (.im (.tuple (B.map bT))),some (.im (.tuple (W.map bT))),some (.im ad),some (.own O.length),y6,y7]/\O'=O++[some ((List.range i).map λb=>AV.im (qD (iQ qs (B.getD b []) g)))],⟨none,none,rfl,rfl⟩,?_,?_⟩
 .rintro i x sl O' hx ⟨y6,y7,rfl,rfl⟩;obtain⟨hi,rfl⟩:=Z1 i x hx;refine⟨⟨by rw[Zb];omega,by rw[Zb];omega⟩,lv (λj=>qD (qs.getD j 0*((eI B i j:Int):Rat))) (by rw[ly,Zb];omega) (λj x Z hx hZ=>?_) ?_⟩
  .obtain⟨hj,rfl⟩:=p7 hx;rw[Zb,hq,Zj] at hj;obtain⟨b0,b1⟩:=hb i j hi hj;obtain⟨e1,e2⟩:=rO b0 b1;exact⟨_,HL j hj,_,aH (dX (f:=PyData.int) (d:=0) (by rw[hr i hi];omega)),dj,qs.getD j 0,(eI B i j:Rat),by rw[<- e1];rfl,⟨(mT j hj).mono (by decide),e2.mono (by decide)⟩,hZ⟩
  .rw[ly,Zb,hq,Zj];refine⟨⟨⟨_,tF _ _⟩,(List.range g).map λj=>qs.getD j 0*((eI B i j:Int):Rat),by rw[Zi];rfl,⟨λq Oi=>?_,by simp;omega⟩,_,tF _ _,by rw[Zb,Xo,sz];omega,_,_,rfl,?_⟩⟩
   .obtain⟨j,hj,rfl⟩:=Zh.mp Oi;have hj:=Zm.mp hj;obtain⟨b0,b1⟩:=hb i j hi hj;exact(lP (mT j hj) (rO b0 b1).2).mono (by decide)
   .rw[jw,Yo,Zs];rfl
 .rintro sl O' ⟨y6,y7,rfl,rfl⟩;have hl:((B.map bT).map AV.im).length=B.length:=by simp
  rw[hl];refine⟨⟨O.length,(List.range B.length).map λb=>qD (iQ qs (B.getD b []) g),rfl,by rw[tF,Zi];rfl,Bl,?_⟩⟩;rw[jw,<- hA,nD (λr:Γ3=>qD (iQ qs r g)) B []];have:=h (O++[none]) ⟨_,rfl⟩;unfold ia at this;rw[Zi,Zi] at this;exact this
section
variable {K:Θ1}
def Sn (m:PyData->Bool):FM:=λO xs P _=>match xs with
 |[.im d]=>bz d=true/\P (.im (.bool (m d))) O
 |_=>False
theorem IN {m:PyData->Bool}:qd K (Fk m) (Sn m):=λw O H vs xs P PX Q E r a hf q x=>by
 unfold Sn at hf;split at hf
 .obtain⟨v,rfl,h1⟩:=FV a;obtain⟨n,hn⟩:=cx.JH (cx.ay mG h1);refine⟨n,v,_,rfl,hn n (Ze _),hf.1,λH' s=>?_⟩;obtain⟨r1,e1,_⟩:=r.ay s;exact q _ _ O w H' hf.2 e1 r1 (.bl _)
 .exact hf.elim
end
theorem yE (xs:Ξ1):pF (.list xs) (.list [])=xs.isEmpty:=by
 rw[je];cases xs<;>rfl
theorem yH (d:PyData):min d.depth (PyData.list []).depth<=60:=Ye (Nat.min_le_right _ _) (by decide+kernel)
def cC:PyData->Bool
 |.tuple [.int t,.int u]=>decide (1<=u)&&decide (Int.gcd t u=1)&&decide (0<t)
 |_=>false
def d7 (g:Nat):PyData->Bool
 |.tuple ds=>decide (ds.length=g)&&ds.all cC
 |_=>false
theorem ir {d:PyData}(h:aO d=true):∃t u,d=.tuple [.int t,.int u]:=by
 unfold aO at h;split at h
 .exact⟨_,_,rfl⟩
 .cases h
theorem CA {d:PyData}(h:aO d=false):cC d=false:=by
 unfold cC;split
 .have h':(_&&_)=false:=h;rw[h'];rfl
 .rfl
theorem uP {ds:Ξ1}{c:Nat->Bool}{p:PyData->Bool}{f:Nat->PyData}(h:∀i,i<ds.length->c i=!p (ds.getD i .none)):(((List.range ds.length).filter c).map f).isEmpty=ds.all p:=by
 rw[Yp,List.isEmpty_iff,List.map_eq_nil_iff,List.filter_eq_nil_iff,Zu];constructor
 .intro z x hx;obtain⟨i,hi,rfl⟩:=Xp hx;have:=z i (Zm.mpr hi);rw[h i hi,gb (Zc hi)] at this;simpa using this
 .intro z i hi;have hi:=Zm.mp hi;have:=z (ds.getD i .none) (by rw[gb (Zc hi)];exact Zv hi);rw[h i hi,this];decide
def zy:FM:=λO xs P _=>∃(B W:Γ1) (d:PyData),xs=[.im (iK B W),.im d]/\1<=B.length/\bz d=true/\(∀ds,d=.tuple ds->ds.length<=1000000)/\P (.im (.bool (d7 (B.getD 0 []).length d))) O
abbrev V4:Δ2:=["barter","thing"]
def PQ:MS:=(aB (di (kw (iJ (bG (nL pA (ag 1)))) (bG (aE (jW true) (cE cP (ae (ag 1) ah)) (cE cP (ae (aE bL (aE bL (ag 0) (mC (.int 0))) (mC (.int 0))) ah))))) (bS (mC (.bool false))) cb)
 (bS (aE (jW false) (bp 1 [] (bU (ag 1)) (aW 0) (kw (iJ (bG (ax (Sn aO) cf (ae (ag 0) ah)))) (bG (aE YO (aE bL (ag 0) (mC (.int 0))) (mC (.int 0))))) (ag 0)) (ij ah))))
theorem LD:∀O xs Pq QX,zy O xs Pq QX->PQ { nx:=λ_ O'=>Pq (.im .none) O',rt:=Pq } (aZ V4 xs) O:=by
 intro O xs Pq QX h;obtain⟨B,W,d,rfl,b1,sd,A5,h⟩:=h;by_cases ht:pA d=true
 .obtain⟨ds,rfl⟩:∃ds,d=.tuple ds:=by cases d<;>first |exact⟨_,rfl⟩ |cases ht
  have hl:=A5 ds rfl;refine⟨λz=>(by cases z),λ_=>⟨_,rfl,.tuple ((B.getD 0 []).map .int),aH (dX (f:=bT) (d:=[]) (j:=0) (by omega)),dI,?_⟩⟩;have he:pF (.int (ds.length:Int)) (.int ((((B.getD 0 []).map PyData.int).length:Nat):Int))=decide (ds.length=(B.getD 0 []).length):=by
   rw[Zb];show decide ((ds.length:Int)=((B.getD 0 []).length:Int))=_;by_cases z:ds.length=(B.getD 0 []).length
   .rw[z];simp
   .rw[decide_eq_false z,decide_eq_false (by omega)]
  rw[he];have hA:d7 (B.getD 0 []).length (.tuple ds)=(decide (ds.length=(B.getD 0 []).length)&&ds.all cC):=rfl;rw[hA] at h;by_cases lA:ds.length=(B.getD 0 []).length
  .rw[decide_eq_true lA] at h ⊢;refine⟨λz=>(by cases z),λ_=>⟨?_⟩⟩;conv=>whnf
   refine eZ (λi=>!cC (ds.getD i .none)) (λi=>ds.getD i .none) (by rw[Zb];exact hl) (λi x Z hx hZ=>?_) (λi x Z hx _ hZ=>?_) ?_
   .have hi:i<ds.length:=by have:=(Zd.mp hx).1;simpa using this
    rw[dX (d:=.none) hi] at hx;cases Option.some.inj hx;refine⟨fX sd _ (by rw[gb (Zc hi)];exact Zv hi),?_⟩;by_cases hf:aO (ds.getD i .none)=true
    .obtain⟨t,u,e⟩:=ir hf;rw[e] at hf hZ ⊢;rw[hf];refine⟨λz=>(by cases z),λ_=>⟨_,rfl,?_⟩⟩;have e2:cC (.tuple [.int t,.int u])=decide (0<t):=by
      show(aO (.tuple [.int t,.int u])&&decide (0<t))=_;rw[hf];rfl
     rw[e2] at hZ;have e3:decide (t<=0)=!decide (0<t):=by by_cases z:0<t<;>simp[z]<;>omega
     show Z (decide (t<=0)) O;rw[e3];exact hZ
    .have hf:=Ym.mpr hf;rw[CA hf] at hZ;rw[hf];exact⟨λ_=>hZ,λz=>(by cases z)⟩
   .have hi:i<ds.length:=by have:=(Zd.mp hx).1;simpa using this
    rw[dX (d:=.none) hi] at hx;cases Option.some.inj hx;exact hZ
   .refine⟨by decide,yH _,?_⟩;rw[yE,Zb,uP (p:=cC) (λi _=>rfl)];exact h
  .rw[decide_eq_false lA] at h ⊢;exact⟨λ_=>h,λz=>(by cases z)⟩
 .have ht:=Ym.mpr ht;have hA:d7 (B.getD 0 []).length d=false:=by cases d<;>first |rfl |cases ht
  rw[hA] at h;refine⟨λ_=>⟨λ_=>h,λz=>(by cases z)⟩,λz=>?_⟩;rw[ht] at z;cases z
theorem part_of {t u:Int}(hf:aO (.tuple [.int t,.int u])=true):cD (.tuple [.int t,.int u])=decide (0<=t):=by
 show(aO (.tuple [.int t,.int u])&&decide (0<=t))=_;rw[hf];rfl
theorem oG (a b:Nat):pF (.int (a:Int)) (.int (b:Int))=decide (a=b):=by
 show decide ((a:Int)=(b:Int))=_;by_cases z:a=b
 .rw[z];simp
 .rw[decide_eq_false z,decide_eq_false (by omega)]
def xP:FM:=λO xs P _=>∃(A:Γ3) (Pu:Δ1) (W:Γ1) (d:PyData),xs=[.im (ia A Pu W),.im d]/\bz d=true/\(∃N,N<=1000000/\ln N d=true)/\P (.im (.bool (lI Pu.length A.length d))) O
abbrev VZ:Δ2:=["market","thing","row"]
def IH:MS:=(aB (di (kw (iJ (bG (nL pA (ag 1)))) (bG (aE (jW true) (cE cP (ae (ag 1) ah)) (cE cP (ae (aE bL (ag 0) (mC (.int 1))) ah))))) (bS (mC (.bool false))) cb)
 (aB (kz (bU (ag 1)) (aW 2) (aB (di (kw (iJ (bG (nL pA (ag 2)))) (bG (aE (jW true) (cE cP (ae (ag 2) ah)) (cE cP (ae (aE bL (ag 0) (mC (.int 0))) ah))))) (bS (mC (.bool false))) cb)
 (di (bG (aE (jW true) (bp 1 [] (bU (ag 2)) (aW 0) (kw (iJ (bG (ax (Sn aO) cf (ae (ag 0) ah)))) (bG (aE Tw (aE bL (ag 0) (mC (.int 0))) (mC (.int 0))))) (ag 0)) (ij ah))) (bS (mC (.bool false))) cb)))
 (bS (mC (.bool true)))))
theorem Gu:∀O xs Pq QX,xP O xs Pq QX->IH { nx:=λ_ O'=>Pq (.im .none) O',rt:=Pq } (aZ VZ xs) O:=by
 intro O xs Pq QX h;obtain⟨A,Pu,W,d,rfl,sd,⟨N,hN,AN⟩,h⟩:=h;by_cases ht:pA d=true
 .obtain⟨ds,rfl⟩:∃ds,d=.tuple ds:=by cases d<;>first |exact⟨_,rfl⟩ |cases ht
  obtain⟨hl,R6⟩:=kA.mp AN;refine⟨λz=>(by cases z),λ_=>⟨_,rfl,dI,?_⟩⟩;rw[oG,Zb];have hA:lI Pu.length A.length (.tuple ds)=(decide (ds.length=Pu.length)&&ds.all (cu A.length)):=rfl;rw[hA] at h;by_cases lA:ds.length=Pu.length
  .rw[decide_eq_true lA] at h ⊢;refine⟨λz=>(by cases z),λ_=>⟨?_⟩⟩;conv=>whnf
   refine⟨λi sl O'=>O'=O/\(∃y2,sl=[some (.im (ia A Pu W)),some (.im (.tuple ds)),y2])/\(ds.take i).all (cu A.length)=true,⟨rfl,⟨none,rfl⟩,rfl⟩,?_,?_⟩
   .rintro i x sl O' hx ⟨rfl,⟨y2,rfl⟩,lL⟩;have hi:i<ds.length:=by have:=(Zd.mp hx).1;simpa using this
    rw[dX (d:=.none) hi] at hx;cases Option.some.inj hx;have j0:ds.getD i .none∈ds:=by rw[gb (Zc hi)];exact Zv hi
    have HS:cu A.length (ds.getD i .none)=false->Pq (.im (.bool false)) O':=λz=>by
     have:ds.all (cu A.length)=false:=by
      rw[Ym];intro y;have:=Zu.mp y _ j0;rw[z] at this;cases this
     rw[this] at h;exact h
    have good:cu A.length (ds.getD i .none)=true->(ds.take (i+1)).all (cu A.length)=true:=λz=>by
     rw[Xz,Zc hi,List.all_append,lL];rw[gb (Zc hi)] at z;simp[z]
    have sr:=fX sd _ j0;have lr:=R6 _ j0;generalize ds.getD i .none=r at HS good sr lr ⊢;by_cases hr:pA r=true
    .obtain⟨rs,rfl⟩:∃rs,r=.tuple rs:=by cases r<;>first |exact⟨_,rfl⟩ |cases hr
     obtain⟨AM,_⟩:=kA.mp lr;refine⟨⟨λz=>(by cases z),λ_=>⟨_,rfl,dI,?_⟩⟩⟩;rw[oG,Zb];have hR:cu A.length (.tuple rs)=(decide (rs.length=A.length)&&rs.all cD):=rfl;rw[hR] at HS good;by_cases Op:rs.length=A.length
     .rw[decide_eq_true Op] at HS good ⊢;refine⟨λz=>(by cases z),λ_=>⟨?_⟩⟩;conv=>whnf
      refine eZ (λi=>!cD (rs.getD i .none)) (λi=>rs.getD i .none) (by rw[Zb];omega) (λi x Z hx hZ=>?_) (λi x Z hx _ hZ=>?_) ?_
      .have hi:i<rs.length:=by have:=(Zd.mp hx).1;simpa using this
       rw[dX (d:=.none) hi] at hx;cases Option.some.inj hx;refine⟨fX sr _ (by rw[gb (Zc hi)];exact Zv hi),?_⟩;by_cases hf:aO (rs.getD i .none)=true
       .obtain⟨t,u,e⟩:=ir hf;rw[e] at hf hZ ⊢;rw[hf];refine⟨λz=>(by cases z),λ_=>⟨_,rfl,?_⟩⟩;rw[part_of hf] at hZ;have e3:decide (t<0)=!decide (0<=t):=by by_cases z:0<=t<;>simp[z]<;>omega
        show Z (decide (t<0)) O';rw[e3];exact hZ
       .have hf:=Ym.mpr hf;rw[qv hf] at hZ;rw[hf];exact⟨λ_=>hZ,λz=>(by cases z)⟩
      .have hi:i<rs.length:=by have:=(Zd.mp hx).1;simpa using this
       rw[dX (d:=.none) hi] at hx;cases Option.some.inj hx;exact hZ
      .refine⟨by decide,yH _,?_⟩;rw[yE,Zb,uP (p:=cD) (λi _=>rfl)];cases hp:rs.all cD with
       |true=>rw[hp] at good;exact⟨λz=>(by cases z),λ_=>⟨rfl,⟨_,rfl⟩,good rfl⟩⟩
       |false=>rw[hp] at HS;exact⟨λ_=>HS rfl,λz=>(by cases z)⟩
     .rw[decide_eq_false Op] at HS ⊢;exact⟨λ_=>HS rfl,λz=>(by cases z)⟩
    .have hr:=Ym.mpr hr;refine⟨⟨λ_=>⟨λ_=>HS (qC hr),λz=>(by cases z)⟩,λz=>?_⟩⟩;rw[hr] at z;cases z
   .rintro sl O' ⟨rfl,⟨y2,rfl⟩,lL⟩;rw[Zb,Yz] at lL;rw[lL] at h;exact⟨h⟩
  .rw[decide_eq_false lA] at h ⊢;exact⟨λ_=>h,λz=>(by cases z)⟩
 .have ht:=Ym.mpr ht;rw[yy ht] at h;refine⟨λ_=>⟨λ_=>h,λz=>(by cases z)⟩,λz=>?_⟩;rw[ht] at z;cases z
def kB (g:Nat)(W:Γ1):Γ3:=((List.range g).filter (has W)).map λj:Nat=>(j:Int)
def FJ:FM:=λO xs P _=>∃(A:Γ3) (Pu:Δ1) (W:Γ1),xs=[.im (ia A Pu W)]/\A.length<=6/\1<=W.length/\W.length<=6/\(∀i,i<W.length->(W.getD i []).length=A.length)/\P (.im (.list ((kB A.length W).map .int))) O
abbrev VT:Δ2:=["market"]
def Pz:MS:=(bS (bp 1 [0] (gH (ae (cE cP (ae (aE bL (ag 0) (mC (.int 0))) ah)) ah)) (aW 0) (bG (aE ON (cE Kr (ae (bp 1 [0] (bU (aE bL (ag 1) (mC (.int 2)))) (aW 0) bZ (aE bL (ag 0) (ag 1))) ah)) (mC (.int 0)))) (ag 0)))
theorem jy {W:Γ1}{i:Nat}{x:AV}(h:((W.map bT).map AV.im)[i]?=some x):i<W.length/\x=.im (.tuple ((W.getD i []).map .int)):=by
 have hi:i<W.length:=by have:=(Zd.mp h).1;simpa using this
 rw[Zg,dX (d:=[]) hi] at h;exact⟨hi,(Option.some.inj h).symm⟩
theorem Hv {W:Γ1}{j:Nat}{m:Int}(h1:m∈W.map λr=>r.getD j 0)(h2:∀n∈W.map λr=>r.getD j 0,n<=m):decide (0<m)=has W j:=by
 unfold has;rw[Yp,decide_eq_true_eq,Xb];constructor
 .intro z;obtain⟨r,hr,rfl⟩:=Zh.mp h1;exact⟨r,hr,decide_eq_true z⟩
 .rintro⟨r,hr,z⟩;have:=h2 _ (Zh.mpr ⟨r,hr,rfl⟩);have:=of_decide_eq_true z;omega
theorem Lp:∀O xs Pq QX,FJ O xs Pq QX->Pz { nx:=λ_ O'=>Pq (.im .none) O',rt:=Pq } (aZ VT xs) O:=by
 intro O xs Pq QX h;obtain⟨A,Pu,W,rfl,g6,n1,n6,hr,h⟩:=h;refine⟨_,rfl,⟨by rw[Zb];omega,by rw[Zb];omega⟩,eZ (has W) (λj=>.int (j:Int)) (by rw[ly,Zb];omega) (λj x Z hx hZ=>?_) (λj x Z hx _ hZ=>?_) ?_⟩
 .obtain⟨hj,rfl⟩:=p7 hx;rw[Zb,Zj] at hj;refine⟨_,rfl,?_⟩;conv=>whnf
  refine lv (λi=>.int ((W.getD i []).getD j 0)) (by simp;omega) (λi x Z hx hZ=>?_) ?_
  .obtain⟨hi,rfl⟩:=jy hx;exact⟨_,aH (dX (f:=PyData.int) (d:=0) (by rw[hr i hi];omega)),hZ⟩
  .refine⟨W.map λr=>r.getD j 0,?_,λz=>?_,λm m1 m2=>?_⟩
   .rw[Zb,Zb,nD (λr:Γ3=>PyData.int (r.getD j 0)) W [],Zi];rfl
   .rw[List.map_eq_nil_iff] at z;rw[z] at n1;exact absurd n1 (by decide)
   .show Z (decide (0<m)) O;rw[Hv m1 m2];exact hZ
 .obtain⟨hj,rfl⟩:=p7 hx;exact hZ
 .rw[ly,Zb,Zj];unfold kB at h;rw[Zi] at h;exact h
theorem One.app {O O':aM}{k:Nat}{ks:List Nat}{W:Γ1}(h:One O O' k ks W)(c:Option (List AV)):One O (O'++[c]) k ks W:=⟨h.lM.app c,h.ge,h.nd,h.t.app c⟩
theorem One.lt {O O':aM}{k:Nat}{ks:List Nat}{W:Γ1}(h:One O O' k ks W):∀x∈k::ks,x<O'.length:=λx hx=>by
 rcases Zf.mp hx with rfl |hx
 .exact(Zd.mp h.t.hd).1
 .obtain⟨i,hi,rfl⟩:=Xp hx;have:=h.t.row i (by rw[<- h.t.len];exact hi);rw[gb (Zc hi)] at this;exact(Zd.mp this).1
theorem One.push {O O':aM}{k m:Nat}{ks:List Nat}{W:Γ1}(h:One O O' k ks W){r:Γ3}(hm:O'[m]?=some (cI r))(hO:O.length<=m)(hn:m∉k::ks):One O (O'.set k (some (ks.map AV.own++[AV.own m]))) k (ks++[m]) (W++[r]):=by
 have pD:=hn;have nd:=Yh.mp h.nd;simp only[Zf,not_or] at pD;refine⟨h.lM.set (h.ge k Zo) _,λx hx=>?_,?_,h.t.push hm h.nd pD.1⟩
 .simp only[Zf,Zp,Xh,or_false] at hx;rcases hx with e |e |e
  .subst e;exact h.ge _ Zo
  .exact h.ge _ (Zk _ e)
  .subst e;exact hO
 .refine Yh.mpr ⟨λz=>?_,Yy.mpr ⟨nd.2,by simp,λa ha b hb e=>?_⟩⟩
  .rcases Zp.mp z with z |z
   .exact nd.1 z
   .exact pD.1 (Yi.mp z).symm
  .subst e;rw[Yi.mp hb] at ha;exact pD.2 ha
theorem Dd {row:Γ3}{qs:Δ1}{g o:Nat}:worse row qs g o=(decide (0<row.getD o 0)&&decide (row.getD g 0*(qs.getD o 0).num*((qs.getD g 0).den:Int)<row.getD o 0*(qs.getD g 0).num*((qs.getD o 0).den:Int))):=by
 unfold worse
 congr 1
 exact decide_eq_decide.mpr zG
def il (row:Γ3)(qs:Δ1)(g n:Nat):Bool:=decide (row.getD g 0=0)||(List.range n).any (worse row qs g)
def FS:FM:=λO xs P _=>∃(A:Γ3) (Pu:Δ1) (W:Γ1) (qs:Δ1),xs=[.im (ia A Pu W),.im (.tuple (qs.map qD))]/\qs.length<=6/\W.length<=6/\(∀i,i<W.length->(W.getD i []).length=qs.length)/\(∀i j,i<W.length->j<qs.length->0<=eI W i j/\eI W i j<=100)/\(∀z∈qs,Rb 280 z)/\∀O',cQ O O'->P (.im (.list ((bB W qs).map λr=>.list (r.map .int)))) O'
abbrev ξ:Δ2:=["market","prices","found","row","best","good","top","bottom","worse","other","there"]
def PP:MS:=(aB (aX (vQ ah) (aW 2))
 (aB (kz (bU (aE bL (ag 0) (mC (.int 2)))) (aW 3) (aB (aX (vQ ah) (aW 4))
 (aB (kz (gH (ae (cE cP (ae (ag 3) ah)) ah)) (aW 5) (aB (aX (aE bL (ag 1) (ag 5)) (vA 2 (bE (aW 6) (bE (aW 7) gh))))
 (aB (aX (aE (jW false) (aE bL (ag 3) (ag 5)) (mC (.int 0))) (aW 8))
 (aB (kz (gH (ae (cE cP (ae (ag 3) ah)) ah)) (aW 9) (aB (aX (aE rm (aE rm (aE bL (ag 3) (ag 9)) (ag 6)) (aE bL (aE bL (ag 1) (ag 9)) (mC (.int 1)))) (aW 10))
 (di (ud (bG (aE ON (aE bL (ag 3) (ag 9)) (mC (.int 0)))) (bG (aE Tw (aE rm (aE rm (aE bL (ag 3) (ag 5)) (aE bL (aE bL (ag 1) (ag 9)) (mC (.int 0)))) (ag 7)) (ag 10)))) (aX (mC (.bool true)) (aW 8)) cb)))
 (di (iJ (PB (ag 8))) (iX (rq (ag 4) (ae (ag 5) ah))) cb)))))
 (iX (rq (ag 2) (ae (ag 4) ah))))))
 (qg 2 (bS (ag 2)))))
theorem C6 {a b c:Nat}{x y:Int}(hx:Bd a x)(hy:Bd b y)(h:a+b<=c):Bd c (x*y):=(hx.mul hy).mono h
theorem V' {x:Int}(h0:0<=x)(h1:x<=100):Bd 7 x:=by unfold Bd;omega
theorem LC:∀O xs Pq QX,FS O xs Pq QX->PP { nx:=λ_ O'=>Pq (.im .none) O',rt:=Pq } (aZ ξ xs) O:=by
 intro O xs Pq QX h;obtain⟨A,Pu,W,qs,rfl,g6,n6,hr,hw,hz,h⟩:=h;have HL:∀j,j<qs.length->iO (qs.map qD) (j:Int)=some (qD (qs.getD j 0)):=λj hj=>aH (dX hj)
 have mT:∀j,j<qs.length->Rb 280 (qs.getD j 0):=λj hj=>hz _ (by rw[gb (Zc hj)];exact Zv _)
 refine⟨by decide,⟨_,rfl,?_⟩⟩;conv=>whnf
 refine⟨λi sl O'=>∃(ks:List Nat) (y3 y4 y5 y6 y7 y8 y9 mK:Option AV),sl=[some (.im (ia A Pu W)),some (.im (.tuple (qs.map qD))),some (.own O.length),y3,y4,y5,y6,y7,y8,y9,mK]/\One O O' O.length ks ((bB W qs).take i),⟨[],none,none,none,none,none,none,none,none,rfl,⟨⟨_,rfl⟩,λx hx=>by rw[Yi.mp hx];exact Ze _,by simp,⟨tF _ _,rfl,λi hi=>absurd hi (by simp)⟩⟩⟩,?_,?_⟩
 .rintro i x sl O' hx ⟨ks,y3,y4,y5,y6,y7,y8,y9,mK,rfl,T⟩;obtain⟨hi,rfl⟩:=jy hx;have AM:=hr i hi;have HJ:∀j,j<qs.length->iO ((W.getD i []).map PyData.int) (j:Int)=some (.int (eI W i j)):=λj hj=>aH (dX (by rw[AM];exact hj))
  have UC:O.length<=O'.length:=by obtain⟨t,rfl⟩:=T.lM;simp
  refine⟨⟨by decide,?_⟩⟩;show Go _ _ [some (.im (ia A Pu W)),some (.im (.tuple (qs.map qD))),some (.own O.length),some (.im (.tuple ((W.getD i []).map .int))),some (.own O'.length),y5,y6,y7,y8,y9,mK] (O'++[some []]);refine⟨⟨by rw[Zb];omega,by rw[Zb];omega⟩,λj sl O2=>∃(y5 y6 y7 y8 y9 mK:Option AV),sl=[some (.im (ia A Pu W)),some (.im (.tuple (qs.map qD))),some (.own O.length),some (.im (.tuple ((W.getD i []).map .int))),some (.own O'.length),y5,y6,y7,y8,y9,mK]/\O2=O'++[cI (((List.range j).filter (d6 (W.getD i []) qs)).map λg:Nat=>(g:Int))],⟨_,_,_,_,_,_,rfl,rfl⟩,?_,?_⟩
  .rintro j x sl O2 hx ⟨y5,y6,y7,y8,y9,mK,rfl,rfl⟩;obtain⟨hj,rfl⟩:=p7 hx;rw[Zb,Zj,AM] at hj;refine⟨_,HL j hj,rfl,⟨_,HJ j hj,dI,?_⟩⟩;obtain⟨bw0,bw1⟩:=hw i j hi hj;obtain⟨bn,bd⟩:=mT j hj;have TQ:pF (.int (eI W i j)) (.int 0)=il (W.getD i []) qs j 0:=by
    unfold il eI;show decide _=_;simp
   rw[TQ];refine⟨⟨by rw[Zb];omega,by rw[Zb];omega⟩,λo sl O3=>O3=O'++[cI (((List.range j).filter (d6 (W.getD i []) qs)).map λg:Nat=>(g:Int))]/\∃(y9 mK:Option AV),sl=[some (.im (ia A Pu W)),some (.im (.tuple (qs.map qD))),some (.own O.length),some (.im (.tuple ((W.getD i []).map .int))),some (.own O'.length),some (.im (.int j)),some (.im (.int (qs.getD j 0).num)),some (.im (.int ((qs.getD j 0).den:Int))),some (.im (.bool (il (W.getD i []) qs j o))),y9,mK],⟨rfl,_,_,rfl⟩,?_,?_⟩
   .rintro o x sl O3 hx ⟨rfl,y9,mK,rfl⟩;obtain⟨ho,rfl⟩:=p7 hx;rw[Zb,Zj,AM] at ho;obtain⟨bo0,bo1⟩:=hw i o hi ho;obtain⟨T',bod⟩:=mT o ho;have b7:=V' bo0 bo1;have Y':=V' bw0 bw1;refine⟨_,HJ o ho,⟨b7.mono (by decide),bn.mono (by decide)⟩,_,HL o ho,_,rfl,⟨C6 b7 bn (by decide),bod.mono (by decide)⟩,⟨_,HJ o ho,?_⟩⟩;have ew:il (W.getD i []) qs j (o+1)=(il (W.getD i []) qs j o||worse (W.getD i []) qs j o):=by
     unfold il;rw[Yo,List.any_append,Bool.or_assoc];simp
    rw[Dd] at ew;by_cases dE:0<eI W i o
    .refine⟨λ_=>?_,λz=>absurd z (by show ¬ decide (0<eI W i o)=false;rw[decide_eq_true dE];decide)⟩;refine⟨_,HJ j hj,_,HL o ho,_,rfl,⟨Y'.mono (by decide),T'.mono (by decide)⟩,⟨C6 Y' T' (by decide),bd.mono (by decide)⟩,?_⟩;have EL:decide (0<(W.getD i []).getD o 0)=true:=decide_eq_true dE;rw[EL] at ew;cases hc:decide ((W.getD i []).getD j 0*(qs.getD o 0).num*((qs.getD j 0).den:Int)<(W.getD i []).getD o 0*(qs.getD j 0).num*((qs.getD o 0).den:Int)) with
     |true =>
      refine⟨λ_=>?_,λz=>absurd (hc.symm.trans z) (by decide)⟩;rw[hc,Ys,Bool.or_true] at ew;exact⟨rfl,_,_,by rw[ew];rfl⟩
     |false =>
      refine⟨λz=>absurd (hc.symm.trans z) (by decide),λ_=>?_⟩;rw[hc,Xk,Bool.or_false] at ew;exact⟨rfl,_,_,by rw[ew];rfl⟩
    .have EL:decide (0<(W.getD i []).getD o 0)=false:=decide_eq_false dE;refine⟨λz=>absurd (EL.symm.trans z) (by decide),λ_=>⟨λz=>(by cases z),λ_=>?_⟩⟩;rw[EL,Bool.false_and,Bool.or_false] at ew;exact⟨rfl,_,_,by rw[ew];rfl⟩
   .rintro sl O3 ⟨rfl,y9,mK,rfl⟩;rw[ly,Zb,Zj];have hb:d6 (W.getD i []) qs j=!il (W.getD i []) qs j (W.getD i []).length:=by
     unfold d6 il;rw[Bool.not_or,List.not_any_eq_all_not];simp
    have TU:((List.range (j+1)).filter (d6 (W.getD i []) qs)).map (λg:Nat=>(g:Int))=((List.range j).filter (d6 (W.getD i []) qs)).map (λg:Nat=>(g:Int))++(if d6 (W.getD i []) qs j=true then [(j:Int)] else []):=by
     exact yW _ _ _
    cases hc:il (W.getD i []) qs j (W.getD i []).length with
    |true =>
     rw[hc] at hb;refine⟨⟨rfl,⟨λz=>(by cases z),λ_=>?_⟩⟩⟩;rw[if_neg (by rw[hb];decide),Yg] at TU;exact⟨_,_,_,_,_,_,rfl,by rw[TU]⟩
    |false =>
     rw[hc] at hb;refine⟨⟨rfl,⟨λ_=>⟨⟨_,tF _ _⟩,_,tF _ _,?_,_,_,_,_,_,_,rfl,?_⟩,λz=>(by cases z)⟩⟩⟩
     .rw[Zb,Zb];have:=Xs (d6 (W.getD i []) qs) (List.range j);rw[Xo] at this;rw[sz];omega
     .rw[jw,TU,if_pos (by rw[hb];rfl)];unfold cI;rw[Zs];rfl
  .rintro sl O2 ⟨y5,y6,y7,y8,y9,mK,rfl,rfl⟩;rw[ly,Zb,Zj];have T1:=T.app (cI (((List.range (W.getD i []).length).filter (d6 (W.getD i []) qs)).map λg:Nat=>(g:Int)));refine⟨⟨⟨_,T1.t.hd⟩,_,T1.t.hd,?_,ks++[O'.length],_,_,_,_,_,_,_,_,rfl,?_⟩⟩
   .have:=T.t.len;rw[Yk] at this;rw[Zb,this,sz];omega
   .have T2:=T1.push (m:=O'.length) (r:=((List.range (W.getD i []).length).filter (d6 (W.getD i []) qs)).map λg:Nat=>(g:Int)) (tF _ _) UC (λz=>by have:=T.lt _ z;omega);have e:(bB W qs).take (i+1)=(bB W qs).take i++[((List.range (W.getD i []).length).filter (d6 (W.getD i []) qs)).map λg:Nat=>(g:Int)]:=by
     have e0:(bB W qs)[i]?=some (((List.range (W.getD i []).length).filter (d6 (W.getD i []) qs)).map λg:Nat=>(g:Int)):=by
      unfold bB i7;exact dX hi
     rw[Xz,e0];rfl
    rw[e];exact T2
 .rintro sl O' ⟨ks,y3,y4,y5,y6,y7,y8,y9,mK,rfl,T⟩;have hl:((W.map bT).map AV.im).length=(bB W qs).length:=by unfold bB;simp
  rw[hl,Yz] at T;exact⟨T.jO rfl λO2 hG=>h O2 hG⟩
section
variable {A:Γ3}{Pu qs:Δ1}{W:Γ1}{D:List (Δ1)}{g:Nat}
def kC (A:Γ3)(W:Γ1)(D:List (Δ1))(j:Nat):Bool:=decide (pP D j=if has W j=true then ((A.getD j 0:Int):Rat) else 0)
theorem Lg {j:Nat}(hj:j<g)(h:kC A W D j=false):c9 A Pu qs W D g=false:=by
 have:oy A W D g=false:=by
  rw[Ym];intro z;have:=Zu.mp z j (Zm.mpr hj);exact absurd (this.symm.trans h) (by decide)
 unfold c9;rw[this];rfl
theorem Lc {i j:Nat}(hi:i<D.length)(hj:j<g)(h:fw (bB W qs) D i j=false):c9 A Pu qs W D g=false:=by
 have:jd (bB W qs) D g=false:=by
  rw[Ym];intro z;have:=Zu.mp (Zu.mp z i (Zm.mpr hi)) j (Zm.mpr hj);exact absurd (this.symm.trans h) (by decide)
 unfold c9;rw[this,Bool.false_and,Xk]
theorem Lb {i:Nat}(hi:i<D.length)(h:i0 (D.getD i []) qs g≠Pu.getD i 0):c9 A Pu qs W D g=false:=by
 have:mZ Pu D qs g=false:=by
  rw[Ym];intro z;have:=Zu.mp z i (Zm.mpr hi);exact h (of_decide_eq_true this)
 unfold c9;rw[this,Xk,Xk]
theorem Cr (h1:∀j,j<g->kC A W D j=true)(h2:∀i,i<D.length->(∀j,j<g->fw (bB W qs) D i j=true)/\i0 (D.getD i []) qs g=Pu.getD i 0):c9 A Pu qs W D g=true:=by
 have a:oy A W D g=true:=Zu.mpr λj hj=>h1 j (Zm.mp hj)
 have b:jd (bB W qs) D g=true:=Zu.mpr λi hi=>Zu.mpr λj hj=>(h2 i (Zm.mp hi)).1 j (Zm.mp hj)
 have c:mZ Pu D qs g=true:=Zu.mpr λi hi=>decide_eq_true (h2 i (Zm.mp hi)).2
 unfold c9;rw[a,b,c];rfl
end
theorem oH {g j:Nat}{W:Γ1}(hj:j<g):(kB g W).contains (j:Int)=has W j:=by
 unfold kB;rw[Yp,Qe,Zh];constructor
 .rintro⟨k,hk,e⟩;have:k=j:=by omega
  subst this;exact(Yb.mp hk).2
 .intro z;exact⟨j,Yb.mpr ⟨Zm.mpr hj,z⟩,rfl⟩
theorem ww (q:Rat)(x:Int):pF (qD q) (.tuple [.int x,.int 1])=decide (q=(x:Rat)):=by
 have e:PyData.tuple [.int x,.int 1]=qD (x:Rat):=rfl;rw[e,je,rT]
theorem C0 (p q:Rat):pF (qD p) (qD q)=decide (p=q):=by rw[je,rT]
theorem dQ {p q:Rat}:min (qD p).depth (qD q).depth<=60:=by show min 1 1<=60;decide
def FL:FM:=λO xs P _=>∃(A:Γ3) (Pu:Δ1) (W:Γ1) (qs:Δ1) (D:List (Δ1)) (g n:Nat),xs=[.im (ia A Pu W),.im (.tuple (qs.map qD)),.im (bD D)]/\(qs.length=g/\A.length=g/\g<=6)/\(W.length=n/\Pu.length=n/\D.length=n/\1<=n/\n<=6)/\(∀i,i<n->(W.getD i []).length=g)/\(∀i j,i<n->j<g->0<=eI W i j/\eI W i j<=100)/\(∀j,j<g->0<=A.getD j 0/\A.getD j 0<=100)/\(∀z∈qs,Rb 280 z)/\(∀i,i<n->(D.getD i []).length=g)/\(∀i j,Rb 40 (eQ D i j))/\∀O',cQ O O'->P (.im (.bool (c9 A Pu qs W D g))) O'
abbrev VV:Δ2:=["market","prices","dealing","best","good","got","buyer","row","cost"]
def PD:MS:=(aB (aX (ax FS cf (ae (ag 0) (ae (ag 1) ah))) (aW 3))
 (aB (kz (gH (ae (cE cP (ae (ag 1) ah)) ah)) (aW 4) (aB (aX (ax KL cf (ae (bp 1 [4] (bU (ag 2)) (aW 0) bZ (aE bL (ag 0) (ag 1))) ah)) (aW 5))
 (di (bG (aE (jW true) (ag 5) (fi (ae (aE rm (aE bL (aE bL (ag 0) (mC (.int 0))) (ag 4)) (cE FF (ae (aE (Ny false) (ag 4) (ax FJ cf (ae (ag 0) ah))) ah))) (ae (mC (.int 1)) ah))))) (bS (mC (.bool false))) cb)))
 (aB (kz (gH (ae (cE cP (ae (ag 3) ah)) ah)) (aW 6) (aB (aX (aE bL (ag 2) (ag 6)) (aW 7))
 (aB (aX (fi (ae (mC (.int 0)) (ae (mC (.int 1)) ah))) (aW 8))
 (aB (kz (gH (ae (cE cP (ae (ag 7) ah)) ah)) (aW 4) (aB (di (ud (bG (aE (jW true) (aE bL (aE bL (ag 7) (ag 4)) (mC (.int 0))) (mC (.int 0)))) (bG (aE (Ny true) (ag 4) (aE bL (ag 3) (ag 6))))) (bS (mC (.bool false))) cb)
 (aX (ax (f2 Nu) cf (ae (ag 8) (ae (ax (f2 pG) cf (ae (aE bL (ag 1) (ag 4)) (ae (aE bL (ag 7) (ag 4)) ah))) ah))) (aW 8))))
 (di (bG (aE (jW true) (ag 8) (aE bL (aE bL (ag 0) (mC (.int 1))) (ag 6)))) (bS (mC (.bool false))) cb)))))
 (bS (mC (.bool true))))))
theorem Lr:∀O xs Pq QX,FL O xs Pq QX->PD { nx:=λ_ O'=>Pq (.im .none) O',rt:=Pq } (aZ VV xs) O:=by
 intro O xs Pq QX h;obtain⟨A,Pu,W,qs,D,g,n,rfl,⟨hq,hA,g6⟩,⟨hW,hP,hD,n1,n6⟩,hr,hw,ha,hz,ZN,ma,h⟩:=h;have HL:∀j,j<g->iO (qs.map qD) (j:Int)=some (qD (qs.getD j 0)):=λj hj=>aH (dX (by omega))
 have mT:∀j,j<g->Rb 280 (qs.getD j 0):=λj hj=>hz _ (by rw[gb (Zc (show j<qs.length by omega))];exact Zv _)
 refine⟨A,Pu,W,qs,rfl,by omega,by omega,λi hi=>by rw[hr i (by omega),hq],λi j hi hj=>hw i j (by omega) (by omega),hz,λO1 hG=>?_⟩;have OI:((bB W qs).map λr=>PyData.list (r.map .int)).length=n:=by unfold bB;simp[hW]
 generalize Se:((bB W qs).map λr=>PyData.list (r.map .int))=bd at OI;have hbA:∀i,i<n->iO bd (i:Int)=some (.list (((bB W qs).getD i []).map .int)):=λi hi=>by
  rw[<- Se];exact aH (dX (by unfold bB;rw[Zb];omega))
 show Go _ _ [some (.im (ia A Pu W)),some (.im (.tuple (qs.map qD))),some (.im (bD D)),some (.im (.list bd)),none,none,none,none,none] O1;refine⟨⟨by rw[Zb];omega,by rw[Zb];omega⟩,λi sl O'=>O'=O1/\(∃y4 y5,sl=[some (.im (ia A Pu W)),some (.im (.tuple (qs.map qD))),some (.im (bD D)),some (.im (.list bd)),y4,y5,none,none,none])/\∀j,j<i->kC A W D j=true,⟨rfl,⟨_,_,rfl⟩,λj hj=>absurd hj (by omega)⟩,?_,?_⟩
 .rintro j x sl O' hx ⟨rfl,⟨y4,y5,rfl⟩,hs⟩;obtain⟨hj,rfl⟩:=p7 hx;rw[Zb,hq,Zj] at hj;obtain⟨a0,a1⟩:=ha j hj;refine⟨?_⟩;conv=>whnf
  refine lv (λi=>qD (eQ D i j)) (by simp;omega) (λi x Z hx hZ=>?_) ?_
  .obtain⟨hi,rfl⟩:=qy hx;exact⟨_,aH (dX (f:=qD) (d:=0) (by rw[ZN i (by omega)];exact hj)),hZ⟩
  refine⟨(List.range D.length).map λi=>eQ D i j,by simp[Zi,Function.comp_def],⟨λq Oi=>?_,by simp;omega⟩,?_⟩
  .obtain⟨i,_,rfl⟩:=Zh.mp Oi;exact(ma i j).mono (by decide)
  rw[<- uM];refine⟨⟨_,rfl,_,aH (dX (f:=PyData.int) (d:=0) (by omega)),A,Pu,W,rfl,by omega,by omega,by omega,λi hi=>by rw[hr i (by omega),hA],kB A.length W,rfl,?_⟩⟩;rw[hA,oH hj];refine⟨⟨nX (by omega),?_⟩,dj,by show min 1 1<=60;decide,?_⟩
  .cases has W j<;>exact nX (by decide)
  have e:(if has W j=true then ((A.getD j 0:Int):Rat) else 0)=(((A.getD j 0)*(if has W j=true then 1 else 0):Int):Rat):=by
   split
   .rw[Int.mul_one]
   .rw[Int.mul_zero];rfl
  have ed:∀X:Int,X=A.getD j 0*(if has W j=true then 1 else 0)->decide (pP D j=(X:Rat))=kC A W D j:=λX hX=>by rw[hX,<- e];rfl
  rw[ww,ed]
  rotate_left
  .rfl
  cases hc:kC A W D j with
  |true =>
   refine⟨λz=>(by cases z),λ_=>⟨rfl,⟨_,_,rfl⟩,λj' pE=>?_⟩⟩;rcases Zz j' j with y |y
   .exact hs j' y
   .rw[show j'=j by omega];exact hc
  |false =>
   refine⟨λ_=>?_,λz=>(by cases z)⟩;have:=h O' hG;rw[Lg hj hc] at this;exact this
 .rintro sl O' ⟨rfl,⟨y4,y5,rfl⟩,hs⟩;rw[ly,Zb,hq,Zj] at hs;refine⟨⟨by rw[OI];omega,by rw[OI];omega⟩,λi sl O2=>O2=O'/\(∃y4 y6 y7 y8,sl=[some (.im (ia A Pu W)),some (.im (.tuple (qs.map qD))),some (.im (bD D)),some (.im (.list bd)),y4,y5,y6,y7,y8])/\∀i',i'<i->(∀j,j<g->fw (bB W qs) D i' j=true)/\i0 (D.getD i' []) qs g=Pu.getD i' 0,⟨rfl,⟨_,_,_,_,rfl⟩,λi' xr=>absurd xr (by omega)⟩,?_,?_⟩
  .rintro i x sl O2 hx ⟨rfl,⟨y4,y6,y7,y8,rfl⟩,hb⟩;obtain⟨hi,rfl⟩:=p7 hx;rw[OI,Zj] at hi;have A5:=ZN i hi;refine⟨_,aH (dX (f:=λqs:Δ1=>PyData.tuple (qs.map qD)) (d:=[]) (by omega)),⟨dj,?_⟩⟩;have e0:PyData.tuple [.int 0,.int 1]=qD (ck ((List.range 0).map λj=>qs.getD j 0*eQ D i j)):=rfl;rw[e0];refine⟨⟨by rw[Zb];omega,by rw[Zb];omega⟩,λj sl O3=>O3=O2/\(∃y4,sl=[some (.im (ia A Pu W)),some (.im (.tuple (qs.map qD))),some (.im (bD D)),some (.im (.list bd)),y4,y5,some (.im (.int i)),some (.im (.tuple ((D.getD i []).map qD))),some (.im (qD (ck ((List.range j).map λj=>qs.getD j 0*eQ D i j))))])/\Rb (1+j*330) (ck ((List.range j).map λj=>qs.getD j 0*eQ D i j))/\∀j',j'<j->fw (bB W qs) D i j'=true,⟨rfl,⟨_,rfl⟩,m5,λj' pE=>absurd pE (by omega)⟩,?_,?_⟩
   .rintro j x sl O3 hx ⟨rfl,⟨y4,rfl⟩,hc,hg⟩;obtain⟨hj,rfl⟩:=p7 hx;rw[Zb,Zj,A5] at hj;have HJ:iO ((D.getD i []).map qD) (j:Int)=some (qD (eQ D i j)):=aH (dX (by rw[A5];exact hj));have ZS:Rb 3000 (ck ((List.range j).map λj=>qs.getD j 0*eQ D i j)):=hc.mono (by omega);have Uc:Rb 320 (pG (qs.getD j 0) (eQ D i j)):=lP (mT j hj) (ma i j);have go:fw (bB W qs) D i j=true->∀Z:iA->aM->Prop,((O3=O3/\(∃y4,[some (.im (ia A Pu W)),some (.im (.tuple (qs.map qD))),some (.im (bD D)),some (.im (.list bd)),some (.im (.int j)),y5,some (.im (.int i)),some (.im (.tuple ((D.getD i []).map qD))),some (.im (qD (ck ((List.range j).map (λj=>qs.getD j 0*eQ D i j))+qs.getD j 0*eQ D i j)))]=[some (.im (ia A Pu W)),some (.im (.tuple (qs.map qD))),some (.im (bD D)),some (.im (.list bd)),y4,y5,some (.im (.int i)),some (.im (.tuple ((D.getD i []).map qD))),some (.im (qD (ck ((List.range (j+1)).map λj=>qs.getD j 0*eQ D i j))))])/\Rb (1+(j+1)*330) (ck ((List.range (j+1)).map λj=>qs.getD j 0*eQ D i j))/\∀j',j'<j+1->fw (bB W qs) D i j'=true)):=λhgj Z=>by
     have es:ck ((List.range (j+1)).map λj=>qs.getD j 0*eQ D i j)=ck ((List.range j).map λj=>qs.getD j 0*eQ D i j)+qs.getD j 0*eQ D i j:=by
      rw[Yo,Zs];exact jB _ _
     rw[es];refine⟨rfl,⟨_,rfl⟩,(Cw hc Uc).mono (by omega),λj' pE=>?_⟩;rcases Zz j' j with y |y
     .exact hg j' y
     .rw[show j'=j by omega];exact hgj
    refine⟨⟨_,HJ,_,rfl,dI,?_⟩⟩;have en:pF (.int (eQ D i j).num) (.int 0)=decide (eQ D i j=0):=by
     show decide ((eQ D i j).num=0)=_;exact decide_eq_decide.mpr Rat.num_eq_zero
    rw[en];have eg:fw (bB W qs) D i j=(decide (eQ D i j=0)||((bB W qs).getD i []).contains (j:Int)):=rfl;by_cases YZ:eQ D i j=0
    .rw[decide_eq_true YZ] at eg ⊢;refine⟨λz=>(by cases z),λ_=>⟨λz=>(by cases z),λ_=>⟨_,HL j hj,_,HJ,_,_,rfl,⟨(mT j hj).mono (by decide),(ma i j).mono (by decide)⟩,_,_,rfl,⟨ZS,Uc.mono (by decide)⟩,?_⟩⟩⟩;exact go eg (λ_ _=>True)
    .rw[decide_eq_false YZ] at eg ⊢;refine⟨λ_=>⟨_,hbA i hi,_,rfl,?_⟩,λz=>(by cases z)⟩;cases OG:((bB W qs).getD i []).contains (j:Int) with
     |true =>
      rw[OG] at eg;refine⟨λz=>(by cases z),λ_=>⟨_,HL j hj,_,HJ,_,_,rfl,⟨(mT j hj).mono (by decide),(ma i j).mono (by decide)⟩,_,_,rfl,⟨ZS,Uc.mono (by decide)⟩,?_⟩⟩;exact go eg (λ_ _=>True)
     |false =>
      rw[OG] at eg;refine⟨λ_=>?_,λz=>(by cases z)⟩;have:=h O3 hG;rw[Lc (by omega) hj eg] at this;exact this
   .rintro sl O3 ⟨rfl,⟨y4,rfl⟩,hc,hg⟩;rw[ly,Zb,Zj,A5] at hg ⊢;have ec:ck ((List.range g).map λj=>qs.getD j 0*eQ D i j)=i0 (D.getD i []) qs g:=by
     unfold i0 eQ
     congr 1
     exact Xi λj _=>Rat.mul_comm _ _
    rw[ec];refine⟨⟨_,rfl,_,aH (dX (f:=qD) (d:=0) (by omega)),dQ,?_⟩⟩;rw[C0];by_cases hp:i0 (D.getD i []) qs g=Pu.getD i 0
    .rw[decide_eq_true hp];refine⟨λz=>(by cases z),λ_=>⟨rfl,⟨_,_,_,_,rfl⟩,λi' xr=>?_⟩⟩;rcases Zz i' i with y |y
     .exact hb i' y
     .rw[show i'=i by omega];exact⟨hg,hp⟩
    .rw[decide_eq_false hp];refine⟨λ_=>?_,λz=>(by cases z)⟩;have:=h O3 hG;rw[Lb (by omega) hp] at this;exact this
  .rintro sl O2 ⟨rfl,⟨y4,y6,y7,y8,rfl⟩,hb⟩;rw[ly,OI,Zj] at hb;have:=h O2 hG;rw[Cr hs (λi hi=>hb i (by omega))] at this;exact⟨this⟩
structure BW (n g:Nat)(B W:Γ1):Prop where
 n1:1<=n
 n6:n<=6
 g1:1<=g
 g6:g<=6
 bl:B.length=n
 wl:W.length=n
 br:∀i,i<n->(B.getD i []).length=g
 wr:∀i,i<n->(W.getD i []).length=g
 b0:∀i j,i<n->j<g->0<=eI B i j/\eI B i j<=10
 w0:∀i j,i<n->j<g->0<=eI W i j/\eI W i j<=100
theorem Ge {m:Nat}{f:Nat->Int}{k:Int}(h:∀i,i<m->0<=f i/\f i<=k):0<=((List.range m).map f).sum/\((List.range m).map f).sum<=m*k:=by
 induction m with
 |zero=>simp
 |succ m ih =>
  obtain⟨h1,h2⟩:=ih λi hi=>h i (by omega)
  obtain⟨h3,h4⟩:=h m (by omega);rw[Yo,Zs,Qa];have e:([m].map f).sum=f m:=by simp
  rw[e,Int.natCast_succ,Int.add_mul,Int.one_mul];omega
theorem BW.col {n g:Nat}{B W:Γ1}(h:BW n g B W){j:Nat}(hj:j<g):0<=cm B j/\cm B j<=60:=by
 rw[gX,h.bl];have:=Ge (m:=n) (f:=λi=>eI B i j) (k:=10) λi hi=>h.b0 i j hi hj
 have:=h.n6;omega
theorem Rk {e:PyData}(h:cC e=true):∃q:Rat,e=qD q/\0<q:=by
 unfold cC at h;split at h
 .rename_i t u;simp only[Zl,decide_eq_true_eq] at h;obtain⟨⟨h1,h2⟩,h3⟩:=h;obtain⟨q,e1,e2⟩:=Cy (t:=t) (u:=u) (by omega) h2;exact⟨q,by unfold qD;rw[e1,e2],kJ.mpr (by omega)⟩
 .cases h
theorem Cz:∀{es:Ξ1},es.all cC=true->∃qs:Δ1,es=qs.map qD/\∀q∈qs,0<q
 |[],_=>⟨[],rfl,λq h=>nomatch h⟩
 |e::es,h=>by
  rw[Xe,Zl] at h;obtain⟨q,rfl,hq⟩:=Rk h.1;obtain⟨qs,rfl,HK⟩:=Cz h.2;exact⟨q::qs,rfl,λz hz=>by rcases Zf.mp hz with rfl |hz;exact hq;exact HK z hz⟩
theorem sP {g:Nat}{p:PyData}(h:d7 g p=true):∃qs:Δ1,p=.tuple (qs.map qD)/\qs.length=g/\∀q∈qs,0<q:=by
 unfold d7 at h;split at h
 .rw[Zl,decide_eq_true_eq] at h;obtain⟨qs,rfl,HK⟩:=Cz h.2;exact⟨qs,rfl,by simpa using h.1,HK⟩
 .cases h
theorem Cu {g:Nat}:∀{ds:Ξ1},ds.all (cu g)=true->∃D:List (Δ1),ds=D.map (λqs=>PyData.tuple (qs.map qD))/\∀r∈D,r.length=g/\∀z∈r,0<=z
 |[],_=>⟨[],rfl,λq h=>nomatch h⟩
 |e::es,h=>by
  rw[Xe,Zl] at h;obtain⟨D,rfl,hD⟩:=Cu h.2;have h1:=h.1;unfold cu at h1;split at h1
  .rw[Zl,decide_eq_true_eq] at h1;obtain⟨qs,rfl,HK⟩:=yg h1.2;exact⟨qs::D,rfl,λr hr=>by
    rcases Zf.mp hr with rfl |hr
    .exact⟨by simpa using h1.1,HK⟩
    .exact hD r hr⟩
  .cases h1
theorem wm {n g:Nat}{d:PyData}(h:lI n g d=true):∃D:List (Δ1),d=bD D/\D.length=n/\∀r∈D,r.length=g/\∀z∈r,0<=z:=by
 unfold lI at h;split at h
 .rw[Zl,decide_eq_true_eq] at h;obtain⟨D,rfl,hD⟩:=Cu h.2;exact⟨D,rfl,by simpa using h.1,hD⟩
 .cases h
def Due (n g:Nat)(B W:Γ1)(p d:PyData)(R:Bool->Prop):Prop :=
 (d7 g p=false->R false)/\∀qs:Δ1,p=.tuple (qs.map qD)->qs.length=g->(∀q∈qs,0<q)->(lI n g d=false->R false)/\∀D:List (Δ1),d=bD D->D.length=n->(∀r∈D,r.length=g/\∀z∈r,0<=z)->R (c9 ((List.range g).map (cm B)) (B.map λr=>iQ qs r g) qs W D g)
def FQ:FM:=λO xs P _=>∃(n g:Nat) (B W:Γ1) (p d:PyData),xs=[.im (iK B W),.im p,.im d]/\BW n g B W/\bz p=true/\bz d=true/\(∃N,N<=1000000/\ln N p=true)/\(∃N,N<=1000000/\ln N d=true)/\Due n g B W p d λc=>∀O',cQ O O'->P (.im (.bool c)) O'
abbrev ν:Δ2:=["barter","prices","dealing","market"]
def PM:MS:=(aB (di (iJ (bG (ax zy cf (ae (ag 0) (ae (ag 1) ah))))) (bS (mC (.bool false))) cb)
 (aB (aX (ax qi cf (ae (ag 0) (ae (ag 1) ah))) (aW 3))
 (bS (uc (ax xP cf (ae (ag 3) (ae (ag 2) ah))) (ax FL cf (ae (ag 3) (ae (ag 1) (ae (ag 2) ah))))))))
theorem kS {qs:Δ1}(h:bz (.tuple (qs.map qD))=true):∀z∈qs,Rb 30 z:=λz hz=>si (D:=[qs]) (gj λd hd=>by rw[Yi.mp hd];exact h) qs Zo z hz
theorem wY {O O1 O2:aM}(h1:cQ O O1)(h2:cQ O1 O2):cQ O O2:=by
 obtain⟨t,rfl⟩:=h1;obtain⟨u,rfl⟩:=h2;exact⟨t++u,by rw[Xf]⟩
theorem Lz:∀O xs Pq QX,FQ O xs Pq QX->PM { nx:=λ_ O'=>Pq (.im .none) O',rt:=Pq } (aZ ν xs) O:=by
 intro O xs Pq QX h;obtain⟨n,g,B,W,p,d,rfl,bw,sp,sd,⟨N,hN,lp⟩,ld,h1,h2⟩:=h;have Fc:(B.getD 0 []).length=g:=bw.br 0 bw.n1;refine⟨B,W,p,rfl,by rw[bw.bl];exact bw.n1,sp,λds e=>?_,?_⟩
 .subst e;have:=(kA.mp lp).1;omega
 rw[Fc];by_cases hp:d7 g p=true
 .obtain⟨qs,rfl,hq,xq⟩:=sP hp;obtain⟨h3,h4⟩:=h2 qs rfl hq xq;have mT:=kS sp;rw[hp];refine⟨λz=>(by cases z),λ_=>⟨n,g,B,W,qs,rfl,hq,bw.g6,bw.bl,bw.n6,bw.br,λi j hi hj=>⟨(bw.b0 i j hi hj).1,by have:=(bw.b0 i j hi hj).2;omega⟩,λz hz=>(mT z hz).mono (by decide),λO1 hG=>⟨_,_,_,d,rfl,sd,ld,?_⟩⟩⟩;rw[Zb,bw.bl,Zb,Xo];by_cases hd:lI n g d=true
  .obtain⟨D,rfl,OL,zd⟩:=wm hd;have nP:∀i,i<n->D.getD i []∈D:=λi hi=>by rw[gb (Zc (show i<D.length by omega))];exact Zv _
   have A1:=si sd;rw[hd];refine⟨λ_=>⟨_,_,W,qs,D,g,n,rfl,⟨hq,by simp,bw.g6⟩,⟨bw.wl,by rw[Zb];exact bw.bl,OL,bw.n1,bw.n6⟩,bw.wr,bw.w0,λj hj=>?_,λz hz=>(mT z hz).mono (by decide),λi hi=>(zd _ (nP i hi)).1,λi j=>?_,λO2 hG2=>h4 D rfl OL zd O2 (wY hG hG2)⟩,λz=>(by cases z)⟩
   .have e:((List.range g).map (cm B)).getD j 0=cm B j:=by simp[List.getD,Yu hj]
    rw[e];have:=bw.col hj;omega
   .rcases Zz i n with y |y
    .exact sj (by decide) (λz hz=>(A1 _ (nP i y) z hz).mono (by decide)) j
    .have:eQ D i j=0:=by unfold eQ;rw[show D.getD i []=[] by rw[List.getD,Yq (show D.length<=i by omega)];rfl];rfl
     rw[this];exact m5.mono (by decide)
  .have hd:=Ym.mpr hd;rw[hd];exact⟨λz=>(by cases z),λ_=>h3 hd O1 hG⟩
 .have hp:=Ym.mpr hp;rw[hp];exact⟨λ_=>h1 hp O (cQ.refl O),λz=>(by cases z)⟩
def zt:FM:=λO xs P _=>∃(A:Γ3) (Pu:Δ1) (W:Γ1),xs=[.im (ia A Pu W)]/\A.length<=6/\W.length<=6/\(∀i,i<W.length->(W.getD i []).length=A.length)/\P (.im (.tuple ((kB A.length W).map .int))) O
abbrev VS:Δ2:=["market","amounts","purses","wishes"]
def Py:MS:=(aB (aX (ag 0) (vA 3 (bE (aW 1) (bE (aW 2) (bE (aW 3) gh)))))
 (bS (cE iI (ae (bp 1 [3] (gH (ae (cE cP (ae (ag 1) ah)) ah)) (aW 0) (bG (cE KQ (ae (bp 1 [0] (bU (ag 1)) (aW 0) bZ (aE ON (aE bL (ag 0) (ag 1)) (mC (.int 0)))) ah))) (ag 0)) ah))))
theorem HC {W:Γ1}{j:Nat}:(W.map λr:Γ3=>decide (0<r.getD j 0)).any id=has W j:=by
 unfold has;rw[Qd];rfl
theorem Lo:∀O xs Pq QX,zt O xs Pq QX->Py { nx:=λ_ O'=>Pq (.im .none) O',rt:=Pq } (aZ VS xs) O:=by
 intro O xs Pq QX h;obtain⟨A,Pu,W,rfl,g6,n6,hr,h⟩:=h;refine⟨rfl,⟨⟨by rw[Zb];omega,by rw[Zb];omega⟩,eZ (has W) (λj=>.int (j:Int)) (by rw[ly,Zb];omega) (λj x Z hx hZ=>?_) (λj x Z hx _ hZ=>?_) ?_⟩⟩
 .obtain⟨hj,rfl⟩:=p7 hx;rw[Zb,Zj] at hj;conv=>whnf
  refine lv (λi=>.bool (decide (0<(W.getD i []).getD j 0))) (by simp;omega) (λi x Z hx hZ=>?_) ?_
  .obtain⟨hi,rfl⟩:=jy hx;exact⟨_,aH (dX (f:=PyData.int) (d:=0) (by rw[hr i hi];omega)),hZ⟩
  .refine⟨W.map λr=>decide (0<r.getD j 0),?_,?_⟩
   .rw[Zb,Zb,nD (λr:Γ3=>PyData.bool (decide (0<r.getD j 0))) W [],Zi];rfl
   .rw[HC];exact hZ
 .obtain⟨hj,rfl⟩:=p7 hx;exact hZ
 .rw[ly,Zb,Zj];unfold kB at h;rw[Zi] at h;exact h
def xR:FM:=λO xs P _=>∃(B:Γ1) (g:Nat),xs=[.im (.tuple (B.map bT))]/\1<=B.length/\B.length<=6/\g<=6/\(∀i,i<B.length->(B.getD i []).length=g)/\P (.im (.list ((List.range g).map λj=>.list ((B.map λr=>r.getD j 0).map .int)))) O
abbrev V1:Δ2:=["table"]
def IJ:MS:=(bS (bp 1 [0] (gH (ae (cE cP (ae (aE bL (ag 0) (mC (.int 0))) ah)) ah)) (aW 0) bZ (bp 1 [0] (bU (ag 1)) (aW 0) bZ (aE bL (ag 0) (ag 1)))))
theorem Gw:∀O xs Pq QX,xR O xs Pq QX->IJ { nx:=λ_ O'=>Pq (.im .none) O',rt:=Pq } (aZ V1 xs) O:=by
 intro O xs Pq QX h;obtain⟨B,g,rfl,n1,n6,g6,hr,h⟩:=h;have h0:=hr 0 (by omega);refine⟨.tuple ((B.getD 0 []).map .int),aH (dX (f:=bT) (d:=[]) (j:=0) (by omega)),⟨by rw[Zb];omega,by rw[Zb];omega⟩,lv (λj=>.list ((B.map λr=>r.getD j 0).map .int)) (by rw[ly,Zb];omega) (λj x Z hx hZ=>?_) ?_⟩
 .obtain⟨hj,rfl⟩:=p7 hx;rw[Zb,Zj,h0] at hj;conv=>whnf
  refine lv (λi=>.int ((B.getD i []).getD j 0)) (by simp;omega) (λi x Z hx hZ=>?_) ?_
  .obtain⟨hi,rfl⟩:=jy hx;exact⟨_,aH (dX (f:=PyData.int) (d:=0) (by rw[hr i hi];omega)),hZ⟩
  .rw[Zb,Zb,nD (λr:Γ3=>PyData.int (r.getD j 0)) B []];rw[Zi] at hZ;exact hZ
 .rw[ly,Zb,Zj,h0];exact h
def xQ:FM:=λO xs P _=>∃(d:PyData) (g:Nat),xs=[.im d,.im (.int (g:Int))]/\(∃N,N<=1000000/\ln N d=true)/\P (.im (.bool (cu g d))) O
abbrev V0:Δ2:=["thing","goods"]
def II:MS:=(aB (di (kw (iJ (bG (nL pA (ag 0)))) (bG (aE (jW true) (cE cP (ae (ag 0) ah)) (ag 1)))) (bS (mC (.bool false))) cb)
 (bS (cE tX (ae (bp 1 [] (bU (ag 0)) (aW 0) bZ (uc (ax (fT aO) cf (ae (ag 0) ah)) (aE Sl (aE bL (ag 0) (mC (.int 0))) (mC (.int 0))))) ah))))
theorem Nw {α : Type}(ds:List α)(p:α->Bool):(ds.map p).all id=ds.all p:=by rw[Yr];rfl
theorem Gv:∀O xs Pq QX,xQ O xs Pq QX->II { nx:=λ_ O'=>Pq (.im .none) O',rt:=Pq } (aZ V0 xs) O:=by
 intro O xs Pq QX h;obtain⟨d,g,rfl,⟨N,hN,AN⟩,h⟩:=h;by_cases ht:pA d=true
 .obtain⟨ds,rfl⟩:∃ds,d=.tuple ds:=by cases d<;>first |exact⟨_,rfl⟩ |cases ht
  obtain⟨hl,_⟩:=kA.mp AN;refine⟨λz=>(by cases z),λ_=>⟨dI,?_⟩⟩;rw[oG];have hR:cu g (.tuple ds)=(decide (ds.length=g)&&ds.all cD):=rfl;rw[hR] at h;by_cases Op:ds.length=g
  .rw[decide_eq_true Op] at h ⊢;refine⟨λz=>(by cases z),λ_=>⟨?_⟩⟩;conv=>whnf
   refine lv (λi=>.bool (cD (ds.getD i .none))) (by rw[Zb];omega) (λi x Z hx hZ=>?_) ?_
   .have hi:i<ds.length:=by have:=(Zd.mp hx).1;simpa using this
    rw[dX (d:=.none) hi] at hx;cases Option.some.inj hx;by_cases hf:aO (ds.getD i .none)=true
    .obtain⟨t,u,e⟩:=ir hf;rw[e] at hf hZ ⊢;rw[part_of hf] at hZ;refine⟨λ_=>⟨_,rfl,hZ⟩,λz=>?_⟩;rw[hf] at z;cases z
    .have hf:=Ym.mpr hf;rw[qv hf] at hZ;refine⟨λz=>?_,λ_=>hZ⟩;rw[hf] at z;cases z
   .refine⟨ds.map cD,?_,?_⟩
    .rw[Zb,nD (λd=>PyData.bool (cD d)) ds .none,Zi];rfl
    .rw[Nw];exact h
  .rw[decide_eq_false Op] at h ⊢;exact⟨λ_=>h,λz=>(by cases z)⟩
 .have ht:=Ym.mpr ht;rw[qC ht] at h;refine⟨λ_=>⟨λ_=>h,λz=>(by cases z)⟩,λz=>?_⟩;rw[ht] at z;cases z
section
variable {K:Θ1}{QX:Addr->aM->Prop}{E:XK}{X:Cx}
theorem DZ {P:Program}{w0:World}{k:Nat}{f:Addr}{fd:FuncData}{ps:Δ2}{sp:Sp}{F:FM}{x:Str}{e:Expr}{es:Ξ2}{p pos:Pos}{Ms:MA}(G':aJ X.prog X.w X.K X.mg X.base (ko P w0) k f fd ps sp)(lk:qd K sp F)(hr:cz k X.A)(hg:Gl X x)(hm:X.mg x=some (.ref f))(hk:PySem.W.keepIn X.K (.ref f)=true)(hb:Binds X.K fd ps [])
  (ha:PA X (e::es) (mL K QX E Ms)) (ma:(x == ("__debug__" : Str))=false:=by decide) (he:starEach (e::es) X.env=(false,eval e X.env)::starEach es X.env:=by rfl) (et:(backTo pos (starEach es X.env)).any (·.1)=false:=by rfl) :
  PE X (.Call (.Name x p) (e::es) [] pos) (bJ K QX E (ax F cf Ms)):=PE.imp (jV G' hr hg hm hk hb (A7:=[]) .nil we ha ma he et) λσ H Q ⟨w,O,sl,Q0,c,m,q⟩=>⟨w,O,sl,_,c,m,λxs O1 vs w1 H1 h1 e1 r1 a1=>by
 show sp (vs++[]) H1 Q E0;rw[Yg];exact lk w1 O1 H1 vs xs _ cf Q E0 r1 a1 h1 (λz z' O3 w3 H3 h3 e3 r3 a3=>q _ O3 z w3 H3 h3 (e1.trans e3) r3 a3) λk O' w' H' qx e' r'=>qx.elim⟩
def wv:FM:=λO xs P _=>∃qs:Δ1,xs=[.im (.list (qs.map qD))]/\((∀q∈qs,Rb 400 q)/\qs.length<=7)/\P (.im (qD (ck qs))) O
theorem uF:qd K t8 wv:=λw O H vs xs P PX Q E r a hf q x=>by
 obtain⟨qs,rfl,h0,hf⟩:=hf;obtain⟨v,us,rfl,h1,h2⟩:=a.aR;rw[h2.b9];obtain⟨p,ys,rfl,g1,t1⟩:=gP h1;refine⟨p,ys,qs,rfl,g1,(xO t1).ay mG,h0.1,h0.2,λr' H' s iF=>?_⟩;obtain⟨r1,e1,t2⟩:=sK r s iF;exact q _ _ O w H' hf e1 r1 t2
end
section
variable {n:Nat}{ix:List Nat}{items:List AV}{M:ME}{sl:iA}{O:aM}{Q:AV->aM->Prop}
theorem hV (f:Nat->PyData)(a b:Nat->PyData)(hl:items.length<=1000000)(hi:∀(i:Nat) (x:AV),items[i]?=some x->x=.im (.tuple [a i,b i]))
  (hs:∀(i:Nat) (Z:AV->aM->Prop),i<items.length->Z (.im (f i)) O->M (((fj n ix sl).set 0 (some (.im (a i)))).set 1 (some (.im (b i)))) O Z)
  (hd:Q (.im (.list ((List.range items.length).map f))) O):CB n ix (vA 2 (bE (aW 0) (bE (aW 1) gh))) bZ M sl Q items O:=by
 refine⟨hl,λi ds O'=>O'=O/\ds=(List.range i).map f,⟨rfl,rfl⟩,?_,λds O' ⟨e,h1⟩=>by rw[e,h1];exact hd⟩;rintro i x ds O' hx ⟨rfl,rfl⟩;have cG:=(Zd.mp hx).1;rw[hi i x hx];refine⟨rfl,λ_=>hs i _ cG ⟨rfl,by rw[Yo,Zs];rfl⟩,λz=>(by cases z)⟩
end
def rQ:FM:=λO xs P _=>∃(r:Γ3) (qs:Δ1),xs=[.im (bT r),.im (.tuple (qs.map qD))]/\r.length=qs.length/\qs.length<=6/\(∀j,j<r.length->0<=r.getD j 0/\r.getD j 0<=100)/\(∀z∈qs,Rb 280 z)/\P (.im (qD (iQ qs r qs.length))) O
abbrev VX:Δ2:=["numbers","prices"]
def CO:MS:=(bS (ax wv cf (ae (bp 2 [] (R0 (ae (ag 0) (ae (ag 1) ah))) (vA 2 (bE (aW 0) (bE (aW 1) gh))) bZ (ax (f2 pG) cf (ae (fi (ae (ag 0) (ae (mC (.int 1)) ah))) (ae (ag 1) ah)))) ah)))
theorem Dm:∀O xs Pq QX,rQ O xs Pq QX->CO { nx:=λ_ O'=>Pq (.im .none) O',rt:=Pq } (aZ VX xs) O:=by
 intro O xs Pq QX h;obtain⟨r,qs,rfl,hl,g6,hr,hz,h⟩:=h;have mT:∀j,j<qs.length->Rb 280 (qs.getD j 0):=λj hj=>hz _ (by rw[gb (Zc hj)];exact Zv _)
 refine⟨by rw[Zb,Zb];omega,hV (λj=>qD (qs.getD j 0*((r.getD j 0:Int):Rat))) (λj=>.int (r.getD j 0)) (λj=>qD (qs.getD j 0)) (by rw[eR,Zb];omega) (λj x hx=>?_) (λj Z hj hZ=>?_) ?_⟩
 .obtain⟨h1,rfl⟩:=vY hx;rw[Zb] at h1;have e1:(r.map PyData.int).getD j .none=.int (r.getD j 0):=vF h1;have e2:(qs.map qD).getD j .none=qD (qs.getD j 0):=vF (by omega);rw[e1,e2]
 .rw[eR,Zb] at hj;obtain⟨b0,b1⟩:=hr j hj;obtain⟨e1,e2⟩:=rO b0 b1;refine⟨dj,(r.getD j 0:Rat),qs.getD j 0,by rw[<- e1],⟨e2.mono (by decide),(mT j (by omega)).mono (by decide)⟩,?_⟩;have e3:pG ((r.getD j 0:Int):Rat) (qs.getD j 0)=qs.getD j 0*((r.getD j 0:Int):Rat):=Rat.mul_comm _ _;rw[e3];exact hZ
 .rw[eR,Zb,hl];refine⟨(List.range qs.length).map λj=>qs.getD j 0*((r.getD j 0:Int):Rat),by rw[Zi];rfl,⟨λq hq=>?_,by simp;omega⟩,h⟩;obtain⟨j,hj,rfl⟩:=Zh.mp hq;have hj:=Zm.mp hj;obtain⟨b0,b1⟩:=hr j (by omega);exact(lP (mT j hj) (rO b0 b1).2).mono (by decide)
def rR:FM:=λO xs P _=>∃(A:Γ3) (Pu:Δ1) (W:Γ1) (d:PyData),xs=[.im (ia A Pu W),.im d]/\(∃N,N<=1000000/\ln N d=true)/\P (.im (.bool (lI Pu.length A.length d))) O
abbrev VY:Δ2:=["market","thing"]
def CQ:MS:=(aB (di (kw (iJ (bG (nL pA (ag 1)))) (bG (aE (jW true) (cE cP (ae (ag 1) ah)) (cE cP (ae (aE bL (ag 0) (mC (.int 1))) ah))))) (bS (mC (.bool false))) cb)
 (bS (cE tX (ae (bp 1 [0] (bU (ag 1)) (aW 0) bZ (ax xQ cf (ae (ag 0) (ae (cE cP (ae (aE bL (ag 1) (mC (.int 0))) ah)) ah)))) ah))))
theorem Dp:∀O xs Pq QX,rR O xs Pq QX->CQ { nx:=λ_ O'=>Pq (.im .none) O',rt:=Pq } (aZ VY xs) O:=by
 intro O xs Pq QX h;obtain⟨A,Pu,W,d,rfl,⟨N,hN,AN⟩,h⟩:=h;by_cases ht:pA d=true
 .obtain⟨ds,rfl⟩:∃ds,d=.tuple ds:=by cases d<;>first |exact⟨_,rfl⟩ |cases ht
  obtain⟨hl,R6⟩:=kA.mp AN;refine⟨λz=>(by cases z),λ_=>⟨_,rfl,dI,?_⟩⟩;rw[oG,Zb];have hA:lI Pu.length A.length (.tuple ds)=(decide (ds.length=Pu.length)&&ds.all (cu A.length)):=rfl;rw[hA] at h;by_cases lA:ds.length=Pu.length
  .rw[decide_eq_true lA] at h ⊢;refine⟨λz=>(by cases z),λ_=>⟨?_⟩⟩;conv=>whnf
   refine lv (λi=>.bool (cu A.length (ds.getD i .none))) (by rw[Zb];omega) (λi x Z hx hZ=>?_) ?_
   .have hi:i<ds.length:=by have:=(Zd.mp hx).1;simpa using this
    rw[dX (d:=.none) hi] at hx;cases Option.some.inj hx;refine⟨_,rfl,ds.getD i .none,A.length,by rw[Zb],⟨N,hN,R6 _ (by rw[gb (Zc hi)];exact Zv hi)⟩,hZ⟩
   .refine⟨ds.map (cu A.length),?_,?_⟩
    .rw[Zb,nD (λd=>PyData.bool (cu A.length d)) ds .none,Zi];rfl
    .rw[Nw];exact h
  .rw[decide_eq_false lA] at h ⊢;exact⟨λ_=>h,λz=>(by cases z)⟩
 .have ht:=Ym.mpr ht;rw[yy ht] at h;refine⟨λ_=>⟨λ_=>h,λz=>(by cases z)⟩,λz=>?_⟩;rw[ht] at z;cases z
theorem yF {ds:Ξ1}{i:Nat}{x:AV}(h:(oq ds)[i]?=some x):i<ds.length/\x=.im (.tuple [.int (i:Int),ds.getD i .none]):=by
 unfold oq at h;have hi:i<ds.length:=by have:=(Zd.mp h).1;simpa using this
 rw[Zg,Yu hi] at h;exact⟨hi,(Option.some.inj h).symm⟩
theorem gW (ds:Ξ1):(oq ds).length=ds.length:=by unfold oq;simp
def FN:FM:=λO xs P _=>∃(A:Γ3) (Pu:Δ1) (W:Γ1) (d:PyData),xs=[.im (ia A Pu W),.im d]/\A.length<=6/\W.length<=6/\(∀i,i<W.length->(W.getD i []).length=A.length)/\(∀j,j<A.length->has W j=true)/\(∃N,N<=1000000/\ln N d=true)/\P (.im (.bool (d7 A.length d))) O
abbrev Sz:Δ2:=["market","thing","goods"]
def PH:MS:=(aB (di (kw (iJ (bG (nL pA (ag 1)))) (bG (aE (jW true) (cE cP (ae (ag 1) ah)) (cE cP (ae (aE bL (ag 0) (mC (.int 0))) ah))))) (bS (mC (.bool false))) cb)
 (aB (di (iJ (bG (cE tX (ae (bp 1 [] (bU (ag 1)) (aW 0) bZ (ax (fT aO) cf (ae (ag 0) ah))) ah)))) (bS (mC (.bool false))) cb)
 (aB (aX (ax zt cf (ae (ag 0) ah)) (aW 2))
 (bS (cE tX (ae (bp 2 [2] (Tq (ae (ag 1) ah)) (vA 2 (bE (aW 0) (bE (aW 1) gh))) bZ (Tu (bG (aE (Ny false) (ag 0) (ag 2))) (aE ON (aE bL (ag 1) (mC (.int 0))) (mC (.int 0))) (aE (jW false) (aE bL (ag 1) (mC (.int 0))) (mC (.int 0))))) ah))))))
theorem Lv:∀O xs Pq QX,FN O xs Pq QX->PH { nx:=λ_ O'=>Pq (.im .none) O',rt:=Pq } (aZ Sz xs) O:=by
 intro O xs Pq QX h;obtain⟨A,Pu,W,d,rfl,g6,n6,hr,hw,⟨N,hN,AN⟩,h⟩:=h;by_cases ht:pA d=true
 .obtain⟨ds,rfl⟩:∃ds,d=.tuple ds:=by cases d<;>first |exact⟨_,rfl⟩ |cases ht
  obtain⟨hl,R6⟩:=kA.mp AN;refine⟨λz=>(by cases z),λ_=>⟨_,rfl,dI,?_⟩⟩;rw[oG,Zb];have hA:d7 A.length (.tuple ds)=(decide (ds.length=A.length)&&ds.all cC):=rfl;rw[hA] at h;by_cases lA:ds.length=A.length
  .rw[decide_eq_true lA] at h ⊢;refine⟨λz=>(by cases z),λ_=>⟨?_⟩⟩;conv=>whnf
   refine lv (λi=>.bool (aO (ds.getD i .none))) (by rw[Zb];omega) (λi x Z hx hZ=>?_) ?_
   .have hi:i<ds.length:=by have:=(Zd.mp hx).1;simpa using this
    rw[dX (d:=.none) hi] at hx;cases Option.some.inj hx;exact hZ
   .refine⟨ds.map aO,?_,?_⟩
    .rw[Zb,nD (λd=>PyData.bool (aO d)) ds .none,Zi];rfl
    .rw[Nw];cases hf:ds.all aO with
     |false =>
      have:ds.all cC=false:=by
       rw[Ym];intro z;rw[Ym] at hf;refine hf (Zu.mpr λx hx=>?_);have:=Zu.mp z x hx;cases hq:aO x with
       |true=>rfl
       |false=>rw[CA hq] at this;cases this
      rw[this] at h;exact⟨λ_=>h,λz=>(by cases z)⟩
     |true =>
      refine⟨λz=>(by cases z),λ_=>⟨A,Pu,W,rfl,g6,n6,hr,⟨?_⟩⟩⟩;refine hV (λi=>.bool (cC (ds.getD i .none))) (λi=>.int (i:Int)) (λi=>ds.getD i .none) (by rw[gW];omega) (λi x hx=>(yF hx).2) (λi Z hi hZ=>?_) ?_
      .rw[gW] at hi;have Ur:aO (ds.getD i .none)=true:=Zu.mp hf _ (by rw[gb (Zc hi)];exact Zv hi);obtain⟨t,u,e⟩:=ir Ur;rw[e] at Ur hZ ⊢;have e2:cC (.tuple [.int t,.int u])=decide (0<t):=by
        show(aO (.tuple [.int t,.int u])&&decide (0<t))=_;rw[Ur];rfl
       rw[e2] at hZ;refine⟨kB A.length W,rfl,?_⟩;rw[oH (by omega),hw i (by omega)];exact⟨λ_=>⟨_,rfl,hZ⟩,λz=>(by cases z)⟩
      .rw[gW,nD (λd=>PyData.bool (cC d)) ds .none];refine⟨ds.map cC,by rw[Zi];rfl,?_⟩;rw[Nw];exact h
  .rw[decide_eq_false lA] at h ⊢;exact⟨λ_=>h,λz=>(by cases z)⟩
 .have ht:=Ym.mpr ht;have hA:d7 A.length d=false:=by cases d<;>first |rfl |cases ht
  rw[hA] at h;refine⟨λ_=>⟨λ_=>h,λz=>(by cases z)⟩,λz=>?_⟩;rw[ht] at z;cases z
def QD:FM:=λO xs P _=>∃(D:List (Δ1)) (j g:Nat),xs=[.im (bD D),.im (.int (j:Int))]/\(∀r∈D,r.length=g)/\(∀r∈D,∀z∈r,Rb 100 z)/\D.length<=6/\j<g/\P (.im (qD (pP D j))) O
theorem MM {K:Θ1}:qd K Bz QD:=λw O H vs xs P PX Q E r a hf q x=>by
 obtain⟨D,j,g,rfl,h1,h2,h3,h4,hf⟩:=hf;obtain⟨v,v2,rfl,a1,a2⟩:=Br a;obtain⟨p,zs,rfl,hd⟩:=QF a1 h1 h2 h3;rw[ll a2];refine⟨p,zs,D,j,g,rfl,hd,h4,λr' H' s iF=>?_⟩;obtain⟨r1,e1,t2⟩:=sK r s iF;exact q _ _ O w H' hf e1 r1 t2
structure zB (n g:Nat)(D:List (Δ1)):Prop where
 n6:n<=6
 dl:D.length=n
 dr:∀r∈D,r.length=g
 db:∀r∈D,∀z∈r,Rb 40 z
theorem zB.row {n g i:Nat}{D:List (Δ1)}(h:zB n g D)(hi:i<n):(D.getD i []).length=g/\∀j,Rb 40 (eQ D i j):=by
 have hm:D.getD i []∈D:=by rw[gb (Zc (show i<D.length by rw[h.dl];exact hi))];exact Zv _
 exact⟨h.dr _ hm,λj=>sj (by decide) (h.db _ hm) j⟩
def rP:FM:=λO xs P _=>∃(A:Γ3) (Pu:Δ1) (W:Γ1) (D:List (Δ1)) (n g:Nat),xs=[.im (ia A Pu W),.im (bD D)]/\A.length=g/\g<=6/\W.length<=6/\(∀i,i<W.length->(W.getD i []).length=g)/\zB n g D/\P (.im (.bool (oy A W D g))) O
abbrev VW:Δ2:=["market","dealing","goods"]
def CL:MS:=(aB (aX (ax zt cf (ae (ag 0) ah)) (aW 2))
 (bS (cE tX (ae (bp 2 [1,2] (Tq (ae (aE bL (ag 0) (mC (.int 0))) ah)) (vA 2 (bE (aW 0) (bE (aW 1) gh))) bZ (aE (jW false) (ax QD cf (ae (ag 2) (ae (ag 0) ah))) (Tu (bG (aE (Ny false) (ag 0) (ag 3))) (fi (ae (ag 1) (ae (mC (.int 1)) ah))) (fi (ae (mC (.int 0)) (ae (mC (.int 1)) ah)))))) ah))))
theorem Dk:∀O xs Pq QX,rP O xs Pq QX->CL { nx:=λ_ O'=>Pq (.im .none) O',rt:=Pq } (aZ VW xs) O:=by
 intro O xs Pq QX h;obtain⟨A,Pu,W,D,n,g,rfl,hA,g6,n6,hr,dk,h⟩:=h;refine⟨A,Pu,W,rfl,by omega,n6,λi hi=>by rw[hr i hi,hA],⟨_,rfl,?_⟩⟩;refine hV (λj=>.bool (kC A W D j)) (λj=>.int (j:Int)) (λj=>.int (A.getD j 0)) (by rw[gW,Zb];omega) (λj x hx=>?_) (λj Z hj hZ=>?_) ?_
 .obtain⟨hj,rfl⟩:=yF hx;rw[Zb] at hj;have e:(A.map PyData.int).getD j .none=.int (A.getD j 0):=vF hj;rw[e]
 .rw[gW,Zb,hA] at hj;refine⟨D,j,g,rfl,dk.dr,λr hr z hz=>(dk.db r hr z hz).mono (by decide),by rw[dk.dl];exact dk.n6,hj,kB A.length W,rfl,?_⟩;rw[hA,oH hj];unfold kC at hZ;cases hh:has W j with
  |true =>
   rw[hh] at hZ;refine⟨λ_=>⟨dj,by show min 1 1<=60;decide,?_⟩,λz=>(by cases z)⟩;show Z (.im (.bool (pF (qD (pP D j)) (.tuple [.int (A.getD j 0),.int 1])))) O;rw[ww];exact hZ
  |false =>
   rw[hh] at hZ;refine⟨λz=>(by cases z),λ_=>⟨dj,by show min 1 1<=60;decide,?_⟩⟩;show Z (.im (.bool (pF (qD (pP D j)) (.tuple [.int 0,.int 1])))) O;rw[ww];exact hZ
 .rw[gW,Zb,hA];refine⟨(List.range g).map (kC A W D),by rw[Zi];rfl,?_⟩;rw[Nw];exact h
def nt:FM:=λO xs P _=>∃(A:Γ3) (Pu:Δ1) (W:Γ1) (qs:Δ1) (D:List (Δ1)) (n g:Nat),xs=[.im (ia A Pu W),.im (.tuple (qs.map qD)),.im (bD D)]/\qs.length=g/\g<=6/\Pu.length=n/\zB n g D/\(∀z∈qs,Rb 280 z)/\P (.im (.bool (mZ Pu D qs g))) O
abbrev VU:Δ2:=["market","prices","dealing"]
def yn:MS:=(bS (cE tX (ae (bp 2 [1] (R0 (ae (ag 2) (ae (aE bL (ag 0) (mC (.int 1))) ah))) (vA 2 (bE (aW 0) (bE (aW 1) gh))) bZ (aE (jW false) (ax wv cf (ae (bp 2 [] (R0 (ae (ag 0) (ae (ag 2) ah))) (vA 2 (bE (aW 0) (bE (aW 1) gh))) bZ (ax (f2 pG) cf (ae (ag 0) (ae (ag 1) ah)))) ah)) (ag 1))) ah)))
theorem zS:∀O xs Pq QX,nt O xs Pq QX->yn { nx:=λ_ O'=>Pq (.im .none) O',rt:=Pq } (aZ VU xs) O:=by
 intro O xs Pq QX h;obtain⟨A,Pu,W,qs,D,n,g,rfl,hq,g6,hP,dk,hz,h⟩:=h;have mT:∀j,j<g->Rb 280 (qs.getD j 0):=λj hj=>hz _ (by rw[gb (Zc (show j<qs.length by omega))];exact Zv _)
 have hD:=dk.dl;have n6:=dk.n6;refine⟨_,rfl,by rw[Zb,Zb];omega,hV (λi=>.bool (decide (i0 (D.getD i []) qs g=Pu.getD i 0))) (λi=>.tuple ((D.getD i []).map qD)) (λi=>qD (Pu.getD i 0)) (by rw[eR,Zb];omega) (λi x hx=>?_) (λi Z hi hZ=>?_) ?_⟩
 .obtain⟨h1,rfl⟩:=vY hx;rw[Zb] at h1;have e1:(D.map λqs=>PyData.tuple (qs.map qD)).getD i .none=.tuple ((D.getD i []).map qD):=vF h1;have e2:(Pu.map qD).getD i .none=qD (Pu.getD i 0):=vF (by omega);rw[e1,e2]
 .rw[eR,Zb] at hi;obtain⟨AM,Y5⟩:=dk.row (i:=i) (by omega);refine⟨by rw[Zb,Zb];omega,hV (λj=>qD (eQ D i j*qs.getD j 0)) (λj=>qD (eQ D i j)) (λj=>qD (qs.getD j 0)) (by rw[eR,Zb];omega) (λj x hx=>?_) (λj Z hj hZ=>?_) ?_⟩
  .obtain⟨h1,rfl⟩:=vY hx;rw[Zb] at h1;have e1:((D.getD i []).map qD).getD j .none=qD (eQ D i j):=vF h1;have e2:(qs.map qD).getD j .none=qD (qs.getD j 0):=vF (by omega);rw[e1,e2]
  .rw[eR,Zb] at hj;exact⟨_,_,rfl,⟨(Y5 j).mono (by decide),(mT j (by omega)).mono (by decide)⟩,hZ⟩
  .rw[eR,Zb,AM];refine⟨(List.range g).map λj=>eQ D i j*qs.getD j 0,by rw[Zi];rfl,⟨λq Oi=>?_,by simp;omega⟩,dQ,?_⟩
   .obtain⟨j,hj,rfl⟩:=Zh.mp Oi;exact(lP (Y5 j) (mT j (Zm.mp hj))).mono (by decide)
   .show Z (.im (.bool (pF (qD (i0 (D.getD i []) qs g)) (qD (Pu.getD i 0))))) O;rw[C0];exact hZ
 .rw[eR,Zb];refine⟨(List.range D.length).map λi=>decide (i0 (D.getD i []) qs g=Pu.getD i 0),by rw[Zi];rfl,?_⟩;rw[Nw];exact h
section
variable {K:Θ1}{QX:Addr->aM->Prop}{E:XK}{X:Cx}
theorem cK {n k:Nat}{f:Addr}{fd:FuncData}{ps:Δ2}{sp:Sp}{F:FM}{x:Str}{e:Expr}{es:Ξ2}{p pos:Pos}{Ms:MA}(C:bo X.K X.mg X.prog X.w X.base x k ps sp f fd)(lk:qd K sp F)(hr:cz n X.A)
  (ha:PA X (e::es) (mL K QX E Ms)) (hn:k<=n:=by decide) (hg:Gl X x:=by rfl) (ma:(x == ("__debug__" : Str))=false:=by decide) (he:starEach (e::es) X.env=(false,eval e X.env)::starEach es X.env:=by rfl) (et:(backTo pos (starEach es X.env)).any (·.1)=false:=by rfl) :
  PE X (.Call (.Name x p) (e::es) [] pos) (bJ K QX E (ax F cf Ms)):=gS C.ok lk (hr.mono hn) hg C.mg C.kp C.bd ha ma he et
theorem Tt {n k:Nat}{f:Addr}{fd:FuncData}{ps:Δ2}{sp:Sp}{F:FM}{x:Str}{e:Expr}{es:Ξ2}{p pos:Pos}{Ms:MA}(C:ik X.K X.mg X.prog X.w X.base x k ps sp f fd)(lk:qd K sp F)(hr:cz n X.A)
  (ha:PA X (e::es) (mL K QX E Ms)) (hn:k<=n:=by decide) (hg:Gl X x:=by rfl) (ma:(x == ("__debug__" : Str))=false:=by decide) (he:starEach (e::es) X.env=(false,eval e X.env)::starEach es X.env:=by rfl) (et:(backTo pos (starEach es X.env)).any (·.1)=false:=by rfl) :
  PE X (.Call (.Name x p) (e::es) [] pos) (bJ K QX E (ax F cf Ms)):=DZ C.ok lk (hr.mono hn) hg C.mg C.kp C.bd ha ma he et
theorem mv (i:Nat){x:Str}{pos:Pos}(hN:X.N[i]?=some x:=by rfl)(hv:NJ X.env.scope x:=by first |exact Or.inl rfl |exact Or.inr (Or.inl rfl) |exact Or.inr (Or.inr rfl))(hd:(x == ("__debug__" : Str))=false:=by decide)
  (tN:(x == ("__classdict__" : Str))=false:=by decide):PE X (.Name x pos) (bJ K QX E (ag i)):=MD (pv i hN hv hd tN)
theorem iz {i:Nat}{x:Str}{e:Expr}{M:ME}{pos mB:Pos}(hN:X.N.Nodup)(he:PE X e (bJ K QX E M))(hi:X.N[i]?=some x:=by rfl)(hx:Loc X.env.scope x:=by exact Or.inl rfl)(hs:swapsWith e (some (.Name x mB)) pos.line X.env=pure false:=by rfl)(hf:X.fn x=true\/X.env.scope.names.lookup x=some .local:=by first |exact .inl rfl |exact .inr rfl |assumption) :
  PS X (.Assign [.Name x mB] e pos) (kh K QX E (aX M (aW i))):=i9 hN hi hx he hs hf
theorem c8 {i:Nat}{x:Str}{pos:Pos}(hN:X.N.Nodup)(hi:X.N[i]?=some x:=by rfl)(hx:Loc X.env.scope x:=by exact Or.inl rfl)(hf:X.fn x=true\/X.env.scope.names.lookup x=some .local:=by first |exact .inl rfl |exact .inr rfl |assumption):PG X (.Name x pos) (vn K QX E (aW i)):=yV (eH hN hi hx hf)
end
end MI
namespace kr
open PySem L2 KG EX KM
def top (i:Nat):Stmt:=PySem.Challenge.pw_wishmart_k30_whole_barters_let_by.main.body.getD i (.Pass ⟨0,0,0,0⟩)
section
variable {P:Program}{w:World}{K:Θ1}{mg:Θ3}{base:Heap}
theorem Gk:ao ["thing"] ["thing"] (aS (top 14)):=L2.c6
theorem DK {f:Addr}{fd:FuncData}(F:cy K "is_whole" "is_whole" (top 14) f fd)(N:Nm mg)(Z:rd K):aJ P w K mg base cH 1 f fd ["thing"] (spT eX):=by
 refine F.ok Gk (λvs H Q E h=>?_) (λbf A outer s H vs Q E hr h=>?_)
 .obtain⟨b,v,d,rfl,_⟩:=h;rfl
 .obtain⟨b,v,d,rfl,hT,k⟩:=h;refine⟨_,cT (eG (io (nI K (pv 0) rfl N.isinstance rfl N.int boot_int nE) (gw (LP (nI K (pv 0) rfl N.isinstance rfl N.bool boot_bool nE))))),?_⟩;obtain⟨t1,xm,e1⟩:=YS Z hT;obtain⟨t2,RQ,e2⟩:=YU Z hT;refine⟨_,rfl,t1,_,xm,e1,_,rfl,?_⟩;have hk:=k H (ai.refl H);rw[pe] at hk;cases hi:R3 d with
  |true =>
   rw[hi] at hk;refine aU ⟨_,rfl,t2,_,RQ,e2,_,rfl,hk⟩
  |false =>
   rw[hi] at hk;exact bC hk
theorem Ii:ao ["one","other"] ["one","other"] (aS (top 16)):=L2.c6
theorem Mh {f:Addr}{fd:FuncData}(F:cy K "common_divisor" "common_divisor" (top 16) f fd)(N:Nm mg):aJ P w K mg base cH 1 f fd ["one","other"] Ic:=by
 refine F.ok Ii (λvs H Q E h=>?_) (λbf A outer s H vs Q E hr h=>?_)
 .obtain⟨t,u,rfl,_⟩:=h;rfl
 .obtain⟨t,u,rfl,u0,k⟩:=h;refine⟨_,dz (jj PassesOwn.never (p6 kD (pv 1) bF (au _)) (cT (j2 (i:=0) (j:=1) rfl Ii.nd rfl rfl (by decide) rfl rfl (aQ (pv 1) (aQ (cN gz (pv 0) (pv 1)) bK)) (by rfl))))
   (cT (eG (jK k4 (by rfl) N.abs boot_abs (aQ (pv 0) bK)))),?_⟩
  refine jg (λσ H'=>H'=H/\∃a c:Int,σ=[some (.int a),some (.int c)]/\0<=c/\Int.gcd a c=Int.gcd t u)
   (λσ _=>match σ with |[_,some (.int c)]=>c.toNat |_=>0) ⟨rfl,t,u,rfl,u0,rfl⟩ ?_ ?_
  .rintro σ H' ⟨rfl,a,c,rfl,c0,e⟩;refine⟨_,rfl,rfl,_,rfl,?_⟩;by_cases hc:c=0
   .subst hc;refine bC ?_;refine⟨_,rfl,_,rfl,?_⟩;rw[yQ,e];exact k
   .have e1:(!decide (V.int c=V.int 0))=true:=by simp[hc]
    rw[e1];refine aU ?_;have cp:0<c:=by omega
    refine⟨_,rfl,_,rfl,_,rfl,_,_,rfl,rfl,cp,_,_,rfl,⟨rfl,c,a % c,rfl,Xt _ hc,uO.trans e⟩,?_⟩;have h1:=Ql a cp;have h2:=Xt a hc;show(a % c).toNat<c.toNat;omega
  .rintro σ H' Q1 Q2 rz ⟨v,e,sc,kk,ek,q⟩;exact⟨v,e,sc,kk,ek,rz _ _ q⟩
theorem v4:ao ["thing","top","bottom"] ["thing"] (aS (top 15)):=L2.c6
theorem Aa {f fW fG:Addr}{fd dW dG:FuncData}(F:cy K "is_fraction" "is_fraction" (top 15) f fd)(N:Nm mg)(Z:rd K)(W:bo K mg P w base "is_whole" 1 ["thing"] (spT eX) fW dW)(G:bo K mg P w base "common_divisor" 1 ["one","other"] Ic fG dG):aJ P w K mg base cH 2 f fd ["thing"] (spT aO):=by
 refine F.ok v4 (λvs H Q E h=>?_) (λbf A outer s H vs Q E hr h=>?_)
 .obtain⟨b,v,d,rfl,_⟩:=h;rfl
 .obtain⟨b,v,d,rfl,hT,k⟩:=h;refine⟨_,dz (dq (PW.pt (pw_or (vB (tH (nI K (pv 0) rfl N.isinstance rfl N.tuple mR nE))) (pw_or1 (p6 kD (jK aV (by rfl) N.len PySem.boot_len (aQ (pv 0) bK)) bF (au _))))) (cT (eG iB)) tw)
   (dz (j3 (pv 0) (gr rfl (qX (eH (i:=1) v4.nd rfl (Or.inl rfl)) (qX (eH (i:=2) v4.nd rfl (Or.inl rfl)) EC))))
   (dz (dq (PW.pt (pw_or (vB (tH (jV W.ok hr rfl W.mg W.kp W.bd .nil cw (aQ (pv 1) bK)))) (pw_or1 (vB (tH (jV W.ok hr rfl W.mg W.kp W.bd .nil cw (aQ (pv 2) bK))))))) (cT (eG iB)) tw)
   (cT (eG (io (vE xG (pv 2) bF (au _)) (gw (vE xH (jV G.ok hr rfl G.mg G.kp G.bd .nil cw (aQ (pv 1) (aQ (pv 2) bK))) bF (au _)))))))),?_⟩
  obtain⟨t1,xm,e1⟩:=Oc Z hT;refine⟨_,rfl,t1,_,xm,e1,_,rfl,?_⟩;have hk:=k H (ai.refl H);rcases kH hT with hn |⟨a,xs,ds,rfl,rfl,ha,hs⟩
  .rw[hn];rw[qB hn] at hk;exact aU (aU hk)
  refine bC ?_;refine⟨_,rfl,a,xs,rfl,.inr (aG.of ha),rfl,_,rfl,?_⟩;by_cases hl:xs.length=2
  case neg =>
   have e2:(!decide (V.int (xs.length:Int)=V.int 2))=true:=kF (b:=2) hl;rw[e2];have lA:ds.length≠2:=by rw[<- hs.len];exact hl
   have e3:aO (.tuple ds)=false:=ph lA;rw[e3] at hk;exact aU hk
  have e2:(!decide (V.int (xs.length:Int)=V.int 2))=false:=by rw[hl];rfl
  rw[e2];refine bC ?_
  match xs,ds,hl,hs with
  |[x,y],_,_,.cons (d:=dx) hx (.cons (d:=dy) hy .nil) =>
  refine⟨_,rfl,a,_,rfl,aG.of ha,rfl,_,_,rfl,_,_,rfl,rfl,?_⟩;refine⟨_,rfl,b,x,dx,rfl,hx,λH1 s1=>?_⟩;refine⟨_,rfl,?_⟩;rcases kO hx with hn |⟨i,rfl,rfl⟩
  .rw[hn];refine aU (aU ?_);have e3:aO (.tuple [dx,dy])=false:=by cases dx<;>first |rfl |cases hn
   rw[e3] at k;exact k H1 s1
  refine bC ?_;refine⟨_,rfl,b,y,dy,rfl,hy.ay s1,λH2 s2=>?_⟩;refine⟨_,rfl,?_⟩;rcases kO hy with hn |⟨j,rfl,rfl⟩
  .rw[hn];refine aU ?_;have e3:aO (.tuple [.int i,dy])=false:=by cases dy<;>first |rfl |cases hn
   rw[e3] at k;exact k H2 (s1.trans s2)
  refine bC ?_;refine⟨_,rfl,_,_,rfl,rfl,_,rfl,?_⟩;have yZ:Q (.bl (decide ((1:Int)<=j)&&decide (Int.gcd i j=1))) H2:=k H2 (s1.trans s2);by_cases hj:1<=j
  .have e4:decide ((1:Int)<=j)=true:=by simpa using hj
   rw[e4] at yZ ⊢;refine aU ⟨_,rfl,_,rfl,i,j,rfl,by omega,rfl,?_⟩;have e5:decide (V.int ((Int.gcd i j:Nat):Int)=V.int 1)=decide (Int.gcd i j=1):=by
    rw[decide_eq_decide];constructor
    .intro h;injection h with h;omega
    .intro h;rw[h];rfl
   rw[e5];simpa using yZ
  .have e4:decide ((1:Int)<=j)=false:=by simpa using hj
   rw[e4] at yZ ⊢;exact bC yZ
theorem Cs:ao ["bag","many","found"] ["bag","many"] (aS (top 60)):=L2.c6
theorem GU {f:Addr}{fd:FuncData}(F:cy K "_law_take" "_law_take" (top 60) f fd):aJ P w K mg base cH 1 f fd ["bag","many"] j1:=by
 refine F.ok Cs (λvs H Q E h=>?_) (λbf A outer s H vs Q E hr h=>?_)
 .obtain⟨b,m,rfl,_⟩:=h;rfl
 .obtain⟨b,m,rfl,⟨c,d,hb⟩,h0,h1,k⟩:=h;refine⟨_,dz (dq (p6 iV (cS mF (pv 0) bF (λ_ _=>rfl)) bF (au _))
    (dz (lm (i:=2) Cs.nd rfl (Or.inl rfl) (cN gz (cS mF (pv 0) bF (λ_ _=>rfl)) (pv 1)))
     (dz (j3 (cN kL (cS mF (pv 0) bF (λ_ _=>rfl)) (pv 1)) (wc (pv 0) bF oO)) (cT (eG (pv 2))))) tw)
   (dz (j3 (cN gz (cN gy (cS mF (pv 0) bF (λ_ _=>rfl)) bF) bF) (wc (pv 0) bF oO))
    (cT (eG (cN gz (cN kL (cN gz (cN gy (cN kL (cS mF (pv 0) bF (λ_ _=>rfl)) bF) (cN ip (cN gz (cS mF (pv 0) bF (λ_ _=>rfl)) bF) bF)) bF) bF) (pv 1))))),?_⟩
  refine⟨_,rfl,b,_,_,_,rfl,rfl,bA.of hb,rfl,_,_,rfl,rfl,_,rfl,?_⟩;refine FE (λhc=>?_) (λhc=>?_)
  .refine⟨_,rfl,b,_,_,_,rfl,rfl,bA.of hb,rfl,_,rfl,_,_,rfl,rfl,h0,?_⟩;refine⟨_,rfl,b,_,_,_,rfl,rfl,bA.of hb,rfl,_,rfl,_,_,rfl,rfl,⟨h0,h1⟩,?_⟩;refine⟨_,rfl,b,_,_,0,rfl,rfl,hb,rfl,?_⟩;refine⟨_,rfl,k _ _ (Xt _ (by omega)) (Ql _ h0) ⟨_,_,cL⟩ (Kp.refl b H).bag⟩
  .refine⟨_,rfl,b,_,_,_,rfl,rfl,bA.of hb,rfl,_,_,rfl,rfl,.inr ⟨by decide,by decide⟩,_,_,rfl,rfl,(by show(0:Int)<2147483647;decide),?_⟩;refine⟨_,rfl,b,_,_,1,rfl,rfl,hb,rfl,?_⟩;have ZV:(aK H b (.lst [V.int c,V.int (d*48271 % 2147483647)])) b=some (.lst [V.int c,V.int (d*48271 % 2147483647)]):=cL;refine⟨_,rfl,b,_,_,_,rfl,rfl,bA.of ZV,rfl,_,_,rfl,rfl,⟨by decide,by decide⟩,?_⟩;refine⟨_,rfl,b,_,_,_,rfl,rfl,bA.of ZV,rfl,_,_,rfl,rfl,(by show(0:Int)<32749;decide),_,_,rfl,rfl,?_⟩;refine⟨_,_,rfl,rfl,.inr ⟨?_,?_⟩,?_⟩
   .have:=Xt (d*48271 % 2147483647) (show(32749:Int)≠0 by decide);omega
   .have:=Ql (d*48271 % 2147483647) (show(0:Int)<32749 by decide);omega
   refine⟨_,_,rfl,rfl,(by show(0:Int)<2147483629;decide),_,_,rfl,rfl,⟨by decide,by decide⟩,_,rfl,_,_,rfl,rfl,h0,?_⟩;exact k _ _ (Xt _ (by omega)) (Ql _ h0) ⟨_,_,cL⟩ (Kp.refl b H).bag
theorem xE:ao ["script","k","cell","seed"] ["script","k"] (aS (top 59)):=L2.c6
theorem Mn {f:Addr}{fd:FuncData}(F:cy K "_law_bag" "_law_bag" (top 59) f fd)(B:Nm mg):aJ P w K mg base cH 1 f fd ["script","k"] (BC K):=by
 refine F.ok xE (λvs H Q E h=>?_) (λbf A outer s H vs Q E hr h=>?_)
 .obtain⟨a,ns,k,rfl,_⟩:=h;rfl
 .obtain⟨a,ns,k,rfl,hS,h0,h1,q⟩:=h;refine⟨_,dz (lm (i:=2) xE.nd rfl (Or.inl rfl) bF)
   (dz (dq (p6 kE (pv 1) (jK iy (by rfl) B.len PySem.boot_len (aQ (pv 0) bK)) (au _))
    (cT (lm (i:=2) xE.nd rfl (Or.inl rfl) (cN gz (cS yw (pv 0) (pv 1) (λ_ _=>rfl)) (cN rJ bF bF)))) tw)
   (dz (lm (i:=3) xE.nd rfl (Or.inl rfl) (cN ip bF (cN gz (cN ip (cN ip (cN ip (cN gy (cN gz (pv 2) bF) bF) (cN gy (cN gy bF (pv 1)) (pv 1))) (cN gy bF (pv 1))) bF) bF)))
   (dz (dq (p6 kE (pv 2) (cN rJ bF bF) (au _)) (cT (eG (gx (aQ bF (aQ (pv 3) bK))))) tw)
   (cT (eG (gx (aQ (pv 2) (aQ (pv 3) bK)))))))),?_⟩
  refine⟨_,rfl,_,rfl,a,_,rfl,.inl hS,_,_,rfl,rfl,_,rfl,?_⟩;refine FE (λhc=>?Wf) (λhc=>?aeI)
  case' Wf =>
   have hk:k<(ns.length:Int):=by simpa using of_decide_eq_true hc
   have zb:iO (ns.map V.int) k=some (V.int (ns.getD k.toNat 0)):=by
    have e:(ns.map V.int)[k.toNat]?=some (V.int (ns.getD k.toNat 0)):=by
     have hl:k.toNat<ns.length:=by omega
     rw[Zg,Zc hl];simp[List.getD,Zc hl]
    have:=eY e;rw[Int.toNat_of_nonneg h0] at this;exact this
   refine⟨_,rfl,_,rfl,a,_,_,_,rfl,rfl,hS,zb,_,_,rfl,rfl,⟨by decide,by decide,by decide⟩,_,_,rfl,rfl,(by show(0:Int)<10 ^ 60;decide),?_⟩
  all_goals
   refine⟨_,rfl,_,_,rfl,rfl,(by show(0:Int)<2147483629;decide),_,_,rfl,rfl,.inr ⟨by decide,by decide⟩,?_⟩;refine⟨_,rfl,_,_,rfl,rfl,.inl ⟨by decide,by decide⟩,_,rfl,_,_,rfl,rfl,.inr ⟨by omega,by omega⟩,_,_,rfl,rfl,?_⟩;refine⟨_,rfl,_,_,rfl,rfl,.inl ⟨by decide,by decide⟩,_,_,rfl,rfl,_,_,rfl,rfl,_,_,rfl,rfl,(by show(0:Int)<2147483645;decide),_,_,rfl,rfl,?_⟩;refine⟨_,rfl,_,_,rfl,rfl,⟨by decide,by decide,by decide⟩,_,_,rfl,rfl,_,rfl,?_⟩;refine FE (λhc=>?_) (λhc=>?_)
   .exact⟨_,rfl,by show 2<=sizeLine;decide,λp hp=>q p _ _ hp⟩
   .exact⟨_,rfl,_,rfl,by show 2<=sizeLine;decide,λp hp=>q p _ _ hp⟩
theorem m4:ao ["top","bottom","one","other","by"] ["top","bottom"] (aS (top 61)):=L2.c6
theorem G4 {f:Addr}{fd:FuncData}(F:cy K "_law_frac" "_law_frac" (top 61) f fd)(B:Nm mg):aJ P w K mg base cH 1 f fd ["top","bottom"] Cp:=by
 refine F.ok m4 (λvs H Q E h=>?_) (λbf A outer s H vs Q E hr h=>?_)
 .obtain⟨t,u,rfl,_⟩:=h;rfl
 .obtain⟨t,u,rfl,u0,u1,k⟩:=h;refine⟨_,dz (j2 (i:=2) (j:=3) rfl m4.nd rfl rfl (by decide) rfl rfl (aQ (pv 0) (aQ (pv 1) bK)) (by rfl))
   (dz (jj PassesOwn.never (p6 kD (pv 3) bF (au _)) (cT (j2 (i:=2) (j:=3) rfl m4.nd rfl rfl (by decide) rfl rfl (aQ (pv 3) (aQ (cN gz (pv 2) (pv 3)) bK)) (by rfl))))
   (dz (lm (i:=4) m4.nd rfl (Or.inl rfl) (cN gy (jK k4 (by rfl) B.abs boot_abs (aQ (pv 2) bK)) (cN rH bF (cN gy bF (Nv jJ (by rfl) B.int boot_int (aQ (vE kE (pv 1) bF (au _)) bK))))))
   (cT (eG (gv (aQ (cN kL (pv 0) (pv 4)) (aQ (cN kL (pv 1) (pv 4)) bK))))))),?_⟩
  refine⟨_,rfl,_,rfl,_,_,rfl,?_⟩;refine jg (λσ H'=>H'=H/\∃a c:Int,σ=[some (.int t),some (.int u),some (.int a),some (.int c),none]/\0<=c/\Int.gcd a c=Int.gcd t u)
   (λσ _=>match σ with |[_,_,_,some (.int c),_]=>c.toNat |_=>0) ⟨rfl,t,u,rfl,by omega,rfl⟩ ?_ ?_
  .rintro σ H' ⟨rfl,a,c,rfl,c0,e⟩;refine⟨_,rfl,rfl,_,rfl,?_⟩;by_cases hc:c=0
   .subst hc;refine bC ?_;refine⟨_,rfl,_,rfl,_,rfl,_,_,rfl,rfl,.inr ⟨_,rfl,_,_,rfl,rfl,.inl ⟨by decide,by decide⟩,_,_,rfl,rfl,?_⟩⟩;have e2:decide (u<0)=false:=decide_eq_false (by omega);rw[yQ,e,e2];obtain⟨g0,g1⟩:=yA (t:=t) u0;have e3:(Int.gcd t u:Int)*(1-2*(if false=true then (1:Int) else 0))=(Int.gcd t u:Int):=by simp
    refine⟨_,_,rfl,rfl,.inl ⟨by omega,by omega⟩,?_⟩;show cA 4 (V.int ((Int.gcd t u:Int)*(1-2*(if false=true then (1:Int) else 0)))) _ _ _;rw[e3];exact⟨_,rfl,_,rfl,_,_,rfl,rfl,⟨g0,by omega⟩,_,rfl,_,rfl,_,_,rfl,rfl,⟨g0,by omega⟩,by show 2<=sizeLine;decide,λp hp=>k p hp⟩
   .have e1:(!decide (V.int c=V.int 0))=true:=by simp[hc]
    rw[e1];refine aU ?_;have cp:0<c:=by omega
    refine⟨_,rfl,_,rfl,_,rfl,_,_,rfl,rfl,cp,_,_,rfl,⟨rfl,c,a % c,rfl,Xt _ hc,uO.trans e⟩,?_⟩;have h1:=Ql a cp;have h2:=Xt a hc;show(a % c).toNat<c.toNat;omega
  .rintro σ H' Q1 Q2 rz ⟨v,e,sc,kk,ek,q⟩;exact⟨v,e,sc,kk,ek,rz _ _ q⟩
theorem Q7:ao ["thing"] ["thing"] (aS (top 68)):=L2.c6
theorem wM {f fR:Addr}{fd dR:FuncData}(F:cy K "_law_is_fraction" "_law_is_fraction" (top 68) f fd)(N:Nm mg)(Z:rd K)(R:bo K mg P w base "_law_frac" 1 ["top","bottom"] Cp fR dR):aJ P w K mg base cH 2 f fd ["thing"] (Fk aO):=by
 refine F.ok Q7 (λvs H Q E h=>?_) (λbf A outer s H vs Q E hr h=>?_)
 .obtain⟨b,v,d,rfl,_⟩:=h;rfl
 .obtain⟨b,v,d,rfl,hT,A1,k⟩:=h;have hu:=hr.units;refine⟨_,dz (dq (PW.pt (pw_or (vB (tH (nI K (pv 0) rfl N.isinstance rfl N.tuple mR nE))) (pw_or1 (p6 kD (jK aV (by rfl) N.len PySem.boot_len (aQ (pv 0) bK)) bF (au _))))) (cT (eG iB)) tw)
   (dz (dq (p6 (CG hu) (tJ (own:=["one"]) (cap:=[]) (ix:=[]) (az.of (aS (top 68)).names ["thing"]) rfl (rk (pv 0))
    (λC fp s H=>⟨eH (i:=0) (Ψ9 ["one"]) rfl (Or.inl rfl),fY (PW.pt (pw_or (vB (tH (nI K (pv 0) rfl N.isinstance rfl N.int boot_int nE))) (pw_or1 (tH (nI K (pv 0) rfl N.isinstance rfl N.bool boot_bool nE))))),pv 0⟩)) (gx bK) (au _)) (cT (eG iB)) tw)
   (cT (eG (io (vE iV (cS bH (pv 0) bF (λ_ _=>rfl)) bF (au _)) (gw (vE (wf hu) (pv 0) (jV R.ok hr rfl R.mg R.kp R.bd .nil cw (aQ (cS bH (pv 0) bF (λ_ _=>rfl)) (aQ (cS bH (pv 0) bF (λ_ _=>rfl)) bK))) (au _))))))),?_⟩
  obtain⟨t1,xm,e1⟩:=Oc Z hT;refine⟨_,rfl,t1,_,xm,e1,_,rfl,?_⟩;have hk:=k H (ai.refl H);rcases kH hT with hn |⟨a,xs,ds,rfl,rfl,ha,hs⟩
  .rw[hn];rw[qB hn] at hk;exact aU (aU hk)
  refine bC ?_;have bN:=hs.len;refine⟨_,rfl,a,xs,rfl,.inr (aG.of ha),rfl,_,rfl,?_⟩;by_cases hl:xs.length=2
  case neg =>
   have e2:(!decide (V.int (xs.length:Int)=V.int 2))=true:=kF (b:=2) hl;rw[e2];rw[ph (by omega)] at hk;exact aU hk
  have e2:(!decide (V.int (xs.length:Int)=V.int 2))=false:=by rw[hl];rfl
  rw[e2];refine bC ?_;refine⟨_,rfl,a,rfl,⟨xs,aG.of ha⟩,λacc bu=>?_⟩;refine eZ eX hs ha bu (by omega) (Nat.succ_pos _) (λx d H' st hx _ Z0 hZ=>?_) (λys es H' st hy tr he=>?_)
  .obtain⟨u1,uy1,ue1⟩:=YS Z hx;obtain⟨u2,uy2,ue2⟩:=YU Z hx;refine⟨_,rfl,u1,_,uy1,ue1,_,rfl,?_⟩;have hz:=hZ H' (ai.refl H');rw[pe] at hz;cases hi:R3 d with
   |false=>rw[hi] at hz;exact aU hz
   |true=>rw[hi] at hz;exact bC ⟨_,rfl,u2,_,uy2,ue2,_,rfl,by simpa using hz⟩
  refine⟨by show 0<=sizeLine;decide,λq hq=>?_⟩;have s2:ai H' (aK H' q (.lst [])):=(ai.refl H').new hq;refine⟨.list es,.list [],.lst (bA.of (s2 _ _ hy)) (tr.ay s2).dt,.lst (bA.of cL) .nil,by show min _ 1<=60;omega,_,rfl,?_⟩;rw[Hx,he];have s3:=st.trans s2
  match xs,ds,hl,hs with
  |[x,y],_,_,.cons (d:=dx) hx (.cons (d:=dy) Nz .nil) =>
  have Ou:=k _ s3;rcases kO hx with hn |⟨i,rfl,rfl⟩
  .have e3:aO (.tuple [dx,dy])=false:=by cases dx<;>first |rfl |cases hn
   rw[e3] at Ou;have e4:(!List.all [dx,dy] eX)=true:=by simp[hn]
   rw[e4];exact aU Ou
  rcases kO Nz with hn |⟨j,rfl,rfl⟩
  .have e3:aO (.tuple [.int i,dy])=false:=by cases dy<;>first |rfl |cases hn
   rw[e3] at Ou;have e4:(!List.all [.int i,dy] eX)=true:=by simp[hn]
   rw[e4];exact aU Ou
  refine bC ?_;have Sg:=s3 _ _ ha;refine⟨_,rfl,a,_,_,_,rfl,rfl,aG.of Sg,rfl,_,_,rfl,rfl,_,rfl,?_⟩;have yZ:Q (.bl (decide ((1:Int)<=j)&&decide (Int.gcd i j=1))) _:=Ou;have W4:-1073741824<j/\j<1073741824:=by
   have:bz (.int j)=true:=j6 (ds:=[.int i,.int j]) A1 (by simp);have h2:(decide (-1073741824<j)&&decide (j<1073741824))=true:=this;simpa using h2
  by_cases hj:0<j
  .rw[decide_eq_true (show(1:Int)<=j by omega)] at yZ;rw[decide_eq_true hj];refine aU ⟨_,rfl,_,rfl,a,_,_,_,rfl,rfl,aG.of Sg,rfl,_,rfl,a,_,_,_,rfl,rfl,aG.of Sg,rfl,i,j,rfl,hj,W4.2,λp hp=>?_⟩;have s4:ai _ (aK (aK H' q (.lst [])) p (.tup [.int (i / (Int.gcd i j:Int)),.int (j / (Int.gcd i j:Int))])):=(ai.refl (aK H' q (.lst []))).new hp;refine⟨.tuple [.int i,.int j],.tuple [.int (i / (Int.gcd i j:Int)),.int (j / (Int.gcd i j:Int))],.tup (aG.of (s4 _ _ Sg)) (.cons (.int i) (.cons (.int j) .nil)),.tup (aG.of cL) (.cons (.int _) (.cons (.int _) .nil)),?_,?_⟩
   .simp[PyData.depth,PyData.depthAll]
   .rw[Ed hj];have:=k _ (s3.trans s4);have e5:aO (.tuple [.int i,.int j])=decide (Int.gcd i j=1):=by
     show(decide ((1:Int)<=j)&&decide (Int.gcd i j=1))=_;rw[decide_eq_true (show(1:Int)<=j by omega)];rfl
    rw[e5] at this;exact this
  .rw[decide_eq_false (show ¬ (1:Int)<=j by omega)] at yZ;rw[decide_eq_false hj];exact bC yZ
theorem Ih:ao ["bag","some"] ["bag"] (aS (top 73)):=L2.c6
theorem BE:ao ["bag","thing","deep","at","way"] ["bag","thing","deep"] (aS (top 74)):=L2.c6
end
section
variable {P:Program}{w:World}{K:Θ1}{mg:Θ3}{base:Heap}
theorem Ct:ao ["one","other"] ["one","other"] (aS (top 16)):=L2.c6
theorem G3 {f:Addr}{fd:FuncData}(F:cy K "common_divisor" "common_divisor" (top 16) f fd)(N:Nm mg):aJ P w K mg base cH 1 f fd ["one","other"] Cm:=by
 refine F.ok Ct (λvs H Q E h=>?_) (λbf A outer s H vs Q E hr h=>?_)
 .obtain⟨t,u,rfl,_⟩:=h;rfl
 .obtain⟨t,u,rfl,k⟩:=h;refine⟨_,dz (jj PassesOwn.never (p6 kD (pv 1) bF (au _)) (cT (j2 (i:=0) (j:=1) rfl Ct.nd rfl rfl (by decide) rfl rfl (aQ (pv 1) (aQ (cN yh (pv 0) (pv 1)) bK)) (by rfl))))
   (cT (eG (jK k4 (by rfl) N.abs boot_abs (aQ (pv 0) bK)))),?_⟩
  refine jg (λσ H'=>H'=H/\∃a c:Int,σ=[some (.int a),some (.int c)]/\Int.gcd a c=Int.gcd t u)
   (λσ _=>match σ with |[_,some (.int c)]=>c.natAbs |_=>0) ⟨rfl,t,u,rfl,rfl⟩ ?_ ?_
  .rintro σ H' ⟨rfl,a,c,rfl,e⟩;refine⟨_,rfl,rfl,_,rfl,?_⟩;by_cases hc:c=0
   .subst hc;refine bC ?_;refine⟨_,rfl,_,rfl,?_⟩;rw[uW,e];exact k
   .have e1:(!decide (V.int c=V.int 0))=true:=by simp[hc]
    rw[e1];refine aU ?_;exact⟨_,rfl,_,rfl,_,rfl,_,_,rfl,rfl,hc,_,_,rfl,⟨rfl,c,a.fmod c,rfl,uN.trans e⟩,yB hc⟩
  .rintro σ H' Q1 Q2 rz ⟨v,e,sc,kk,ek,q⟩;exact⟨v,e,sc,kk,ek,rz _ _ q⟩
theorem J9:ao ["top","bottom","divisor"] ["top","bottom"] (aS (top 17)):=L2.c6
theorem u7 {f fG Nn:Addr}{fd dG:FuncData}(F:cy K "fraction" "fraction" (top 17) f fd)(zo:mg "NoNumber"=some (.ref Nn))(exN:PySem.W.excIn K Nn [.type "ValueError",.type "Exception",.type "BaseException",.type "object"] "ValueError.__new__"=true)(G:bo K mg P w base "common_divisor" 1 ["one","other"] Cm fG dG):aJ P w K mg base (ko P w) 2 f fd ["top","bottom"] (Fm Nn):=by
 refine F.N3 J9 (λvs H Q E h=>?_) (λbf A outer s H vs Q E hr h=>?_)
 .obtain⟨t,u,rfl,_⟩:=h;rfl
 .obtain⟨t,u,rfl,hb,k0,k1⟩:=h;refine⟨_,dz (dq (p6 xH (pv 1) bF (au _)) (cT (uz PySem.F.excBase_ValueError rfl zo exN (aQ rG bK))) tw)
   (dz (lm (i:=2) J9.nd rfl (Or.inl rfl) (jV G.ok hr rfl G.mg G.kp G.bd .nil cw (aQ (pv 0) (aQ (pv 1) bK))))
   (dz (dq (p6 kE (pv 1) bF (au _)) (cT (lm (i:=2) J9.nd rfl (Or.inl rfl) (BS vZ (pv 2)))) tw)
   (cT (eG (gv (aQ (cN jF (pv 0) (pv 2)) (aQ (cN jF (pv 1) (pv 2)) bK))))))),?_⟩
  refine⟨_,rfl,rfl,_,rfl,?_⟩;by_cases hu:u=0
  .subst hu;exact aU ⟨by show 1<=sizeLine;decide,k0 rfl⟩
  have e1:decide (V.int u=V.int 0)=false:=by simp[hu]
  rw[e1];refine bC ?_;refine⟨_,rfl,_,rfl,t,u,rfl,?_⟩;refine⟨_,rfl,_,_,rfl,rfl,_,rfl,?_⟩;have hs:=(ng (t:=t) hu).2.2.2.1;have vH:=Ie (t:=t) hb hu;obtain⟨q1,q2⟩:=wg (T:=t) hu;have k1':∀p,H p=none->Q (.ref p) (aK H p (.tup [.int (nx t u),.int (ny t u)])):=λp hp=>by rw[q1,q2];exact k1 hu p hp
  have kq:∀d:Int,d=sg t u->(O9 (O7 (xx (EV (rI (λ_ j=>j≠0/\Bd 8000 j) λi j=>.int (i.fdiv j)) (mx 0) (mx 2)) (xx (EV (rI (λ_ j=>j≠0/\Bd 8000 j) λi j=>.int (i.fdiv j)) (mx 1) (mx 2)) JX)))) { nx:=λ_ H'=>Q .bO H',rt:=Q } [some (.int t),some (.int u),some (.int d)] H:=λd hd=>by
   subst hd;exact⟨_,rfl,_,rfl,_,_,rfl,rfl,⟨hs,vH⟩,_,rfl,_,rfl,_,_,rfl,rfl,⟨hs,vH⟩,by show 2<=sizeLine;decide,λp hp=>k1' p hp⟩
  by_cases hn:u<0
  .rw[decide_eq_true hn];exact aU ⟨_,rfl,_,rfl,kq _ (by unfold sg;rw[if_pos hn])⟩
  .rw[decide_eq_false hn];exact bC (kq _ (by unfold sg;rw[if_neg hn]))
theorem Fq:ao ["top","bottom","one","other","by"] ["top","bottom"] (aS (top 61)):=L2.c6
theorem Rq {f:Addr}{fd:FuncData}(F:cy K "_law_frac" "_law_frac" (top 61) f fd)(B:Nm mg):aJ P w K mg base cH 1 f fd ["top","bottom"] Fl:=by
 refine F.ok Fq (λvs H Q E h=>?_) (λbf A outer s H vs Q E hr h=>?_)
 .obtain⟨t,u,rfl,_⟩:=h;rfl
 .obtain⟨t,u,rfl,u0,u1,k⟩:=h;refine⟨_,dz (j2 (i:=2) (j:=3) rfl Fq.nd rfl rfl (by decide) rfl rfl (aQ (pv 0) (aQ (pv 1) bK)) (by rfl))
   (dz (jj PassesOwn.never (p6 kD (pv 3) bF (au _)) (cT (j2 (i:=2) (j:=3) rfl Fq.nd rfl rfl (by decide) rfl rfl (aQ (pv 3) (aQ (cN yh (pv 2) (pv 3)) bK)) (by rfl))))
   (dz (lm (i:=4) Fq.nd rfl (Or.inl rfl) (cN gy (jK k4 (by rfl) B.abs boot_abs (aQ (pv 2) bK)) (cN rH bF (cN gy bF (Nv jJ (by rfl) B.int boot_int (aQ (vE kE (pv 1) bF (au _)) bK))))))
   (cT (eG (gv (aQ (cN jF (pv 0) (pv 4)) (aQ (cN jF (pv 1) (pv 4)) bK))))))),?_⟩
  have hu:u≠0:=by omega
  obtain⟨q1,q2⟩:=wg (T:=t) hu;have k':∀p,H p=none->Q (.ref p) (aK H p (.tup [.int (nx t u),.int (ny t u)])):=λp hp=>by rw[q1,q2];exact k p hp
  have hs:=(ng (t:=t) hu).2.2.2.1;have vH:=Ie (t:=t) u1 hu;have esg:(Int.gcd t u:Int)=sg t u:=by unfold sg;rw[if_neg (by omega)]
  refine⟨_,rfl,_,rfl,_,_,rfl,?_⟩;refine jg (λσ H'=>H'=H/\∃a c:Int,σ=[some (.int t),some (.int u),some (.int a),some (.int c),none]/\Int.gcd a c=Int.gcd t u)
   (λσ _=>match σ with |[_,_,_,some (.int c),_]=>c.natAbs |_=>0) ⟨rfl,t,u,rfl,rfl⟩ ?_ ?_
  .rintro σ H' ⟨rfl,a,c,rfl,e⟩;refine⟨_,rfl,rfl,_,rfl,?_⟩;by_cases hc:c=0
   .subst hc;refine bC ?_;refine⟨_,rfl,_,rfl,_,rfl,_,_,rfl,rfl,.inr ⟨_,rfl,_,_,rfl,rfl,.inl ⟨by decide,by decide⟩,_,_,rfl,rfl,?_⟩⟩;have e2:decide (u<0)=false:=decide_eq_false (by omega);rw[uW,e,e2,esg];have e3:sg t u*(1-2*(if false=true then (1:Int) else 0))=sg t u:=by simp
    refine⟨_,_,rfl,rfl,.inr ⟨by decide,by decide⟩,?_⟩;show cA 4 (V.int (sg t u*(1-2*(if false=true then (1:Int) else 0)))) _ _ _;rw[e3];exact⟨_,rfl,_,rfl,_,_,rfl,rfl,⟨hs,vH⟩,_,rfl,_,rfl,_,_,rfl,rfl,⟨hs,vH⟩,by show 2<=sizeLine;decide,λp hp=>k' p hp⟩
   .have e1:(!decide (V.int c=V.int 0))=true:=by simp[hc]
    rw[e1];refine aU ?_;exact⟨_,rfl,_,rfl,_,rfl,_,_,rfl,rfl,hc,_,_,rfl,⟨rfl,c,a.fmod c,rfl,uN.trans e⟩,yB hc⟩
  .rintro σ H' Q1 Q2 rz ⟨v,e,sc,kk,ek,q⟩;exact⟨v,e,sc,kk,ek,rz _ _ q⟩
theorem Gj:ao ["one","other"] ["one","other"] (aS (top 18)):=L2.c6
theorem GW {f fF Nn:Addr}{fd dF:FuncData}(F:cy K "plus" "plus" (top 18) f fd)(G:ik K mg P w base "fraction" 2 ["top","bottom"] (Fm Nn) fF dF):aJ P w K mg base (ko P w) 3 f fd ["one","other"] (yR Nu):=by
 refine F.N3 Gj (λvs H Q E h=>?_) (λbf A outer s H vs Q E hr h=>?_)
 .obtain⟨p,q,a,b,rfl,_⟩:=h;rfl
 .obtain⟨p,q,a,b,rfl,hp,hq,⟨ba,bb⟩,⟨bc,bd⟩,k⟩:=h;have hb:=lu a;have hd:=lu b;refine⟨_,cT (eG (jV G.ok hr rfl G.mg G.kp G.bd .nil xF (aQ (cN ip (cN tI (cS bH (pv 0) bF (λ_ _=>rfl)) (cS bH (pv 1) bF (λ_ _=>rfl))) (cN tI (cS bH (pv 1) bF (λ_ _=>rfl)) (cS bH (pv 0) bF (λ_ _=>rfl)))) (aQ (cN tI (cS bH (pv 0) bF (λ_ _=>rfl)) (cS bH (pv 1) bF (λ_ _=>rfl))) bK)))),?_⟩;refine⟨_,rfl,p,_,_,_,rfl,rfl,aG.of hp,rfl,_,rfl,q,_,_,_,rfl,rfl,aG.of hq,rfl,_,_,rfl,rfl,⟨b3 ba,b3 bd⟩,_,rfl,q,_,_,_,rfl,rfl,aG.of hq,rfl,_,rfl,p,_,_,_,rfl,rfl,aG.of hp,rfl,_,_,rfl,rfl,⟨b3 bc,b3 bb⟩,_,_,rfl,rfl,_,rfl,p,_,_,_,rfl,rfl,aG.of hp,rfl,_,rfl,q,_,_,_,rfl,rfl,aG.of hq,rfl,_,_,rfl,rfl,⟨b3 bb,b3 bd⟩,?_⟩;exact⟨_,_,rfl,b6 (bb.mul bd),λh0=>absurd h0 (Int.ne_of_gt (Xm hb hd)),λ_ r iF=>by rw[sQ];exact k r iF⟩
theorem Dh:ao ["one","other"] ["one","other"] (aS (top 19)):=L2.c6
theorem DM {f fF Nn:Addr}{fd dF:FuncData}(F:cy K "times" "times" (top 19) f fd)(G:ik K mg P w base "fraction" 2 ["top","bottom"] (Fm Nn) fF dF):aJ P w K mg base (ko P w) 3 f fd ["one","other"] (yR pG):=by
 refine F.N3 Dh (λvs H Q E h=>?_) (λbf A outer s H vs Q E hr h=>?_)
 .obtain⟨p,q,a,b,rfl,_⟩:=h;rfl
 .obtain⟨p,q,a,b,rfl,hp,hq,⟨ba,bb⟩,⟨bc,bd⟩,k⟩:=h;have hb:=lu a;have hd:=lu b;refine⟨_,cT (eG (jV G.ok hr rfl G.mg G.kp G.bd .nil xF (aQ (cN tI (cS bH (pv 0) bF (λ_ _=>rfl)) (cS bH (pv 1) bF (λ_ _=>rfl))) (aQ (cN tI (cS bH (pv 0) bF (λ_ _=>rfl)) (cS bH (pv 1) bF (λ_ _=>rfl))) bK)))),?_⟩;refine⟨_,rfl,p,_,_,_,rfl,rfl,aG.of hp,rfl,_,rfl,q,_,_,_,rfl,rfl,aG.of hq,rfl,_,_,rfl,rfl,⟨b3 ba,b3 bc⟩,_,rfl,p,_,_,_,rfl,rfl,aG.of hp,rfl,_,rfl,q,_,_,_,rfl,rfl,aG.of hq,rfl,_,_,rfl,rfl,⟨b3 bb,b3 bd⟩,?_⟩;exact⟨_,_,rfl,b6 (bb.mul bd),λh0=>absurd h0 (Int.ne_of_gt (Xm hb hd)),λ_ r iF=>by rw[ni];exact k r iF⟩
theorem wG:ao ["one","other"] ["one","other"] (aS (top 62)):=L2.c6
theorem wP {f fF:Addr}{fd dF:FuncData}(F:cy K "_law_add" "_law_add" (top 62) f fd)(G:bo K mg P w base "_law_frac" 1 ["top","bottom"] Fl fF dF):aJ P w K mg base cH 2 f fd ["one","other"] (yR Nu):=by
 refine F.ok wG (λvs H Q E h=>?_) (λbf A outer s H vs Q E hr h=>?_)
 .obtain⟨p,q,a,b,rfl,_⟩:=h;rfl
 .obtain⟨p,q,a,b,rfl,hp,hq,⟨ba,bb⟩,⟨bc,bd⟩,k⟩:=h;have hb:=lu a;have hd:=lu b;refine⟨_,cT (eG (jV G.ok hr rfl G.mg G.kp G.bd .nil cw (aQ (cN ip (cN tI (cS bH (pv 0) bF (λ_ _=>rfl)) (cS bH (pv 1) bF (λ_ _=>rfl))) (cN tI (cS bH (pv 1) bF (λ_ _=>rfl)) (cS bH (pv 0) bF (λ_ _=>rfl)))) (aQ (cN tI (cS bH (pv 0) bF (λ_ _=>rfl)) (cS bH (pv 1) bF (λ_ _=>rfl))) bK)))),?_⟩;refine⟨_,rfl,p,_,_,_,rfl,rfl,aG.of hp,rfl,_,rfl,q,_,_,_,rfl,rfl,aG.of hq,rfl,_,_,rfl,rfl,⟨b3 ba,b3 bd⟩,_,rfl,q,_,_,_,rfl,rfl,aG.of hq,rfl,_,rfl,p,_,_,_,rfl,rfl,aG.of hp,rfl,_,_,rfl,rfl,⟨b3 bc,b3 bb⟩,_,_,rfl,rfl,_,rfl,p,_,_,_,rfl,rfl,aG.of hp,rfl,_,rfl,q,_,_,_,rfl,rfl,aG.of hq,rfl,_,_,rfl,rfl,⟨b3 bb,b3 bd⟩,?_⟩;exact⟨_,_,rfl,Xm hb hd,b6 (bb.mul bd),λr iF=>by rw[sQ];exact k r iF⟩
theorem wE:ao ["one","other"] ["one","other"] (aS (top 64)):=L2.c6
theorem wN {f fF:Addr}{fd dF:FuncData}(F:cy K "_law_mul" "_law_mul" (top 64) f fd)(G:bo K mg P w base "_law_frac" 1 ["top","bottom"] Fl fF dF):aJ P w K mg base cH 2 f fd ["one","other"] (yR pG):=by
 refine F.ok wE (λvs H Q E h=>?_) (λbf A outer s H vs Q E hr h=>?_)
 .obtain⟨p,q,a,b,rfl,_⟩:=h;rfl
 .obtain⟨p,q,a,b,rfl,hp,hq,⟨ba,bb⟩,⟨bc,bd⟩,k⟩:=h;have hb:=lu a;have hd:=lu b;refine⟨_,cT (eG (jV G.ok hr rfl G.mg G.kp G.bd .nil cw (aQ (cN tI (cS bH (pv 0) bF (λ_ _=>rfl)) (cS bH (pv 1) bF (λ_ _=>rfl))) (aQ (cN tI (cS bH (pv 0) bF (λ_ _=>rfl)) (cS bH (pv 1) bF (λ_ _=>rfl))) bK)))),?_⟩;refine⟨_,rfl,p,_,_,_,rfl,rfl,aG.of hp,rfl,_,rfl,q,_,_,_,rfl,rfl,aG.of hq,rfl,_,_,rfl,rfl,⟨b3 ba,b3 bc⟩,_,rfl,p,_,_,_,rfl,rfl,aG.of hp,rfl,_,rfl,q,_,_,_,rfl,rfl,aG.of hq,rfl,_,_,rfl,rfl,⟨b3 bb,b3 bd⟩,?_⟩;exact⟨_,_,rfl,Xm hb hd,b6 (bb.mul bd),λr iF=>by rw[ni];exact k r iF⟩
theorem zR:ao ["one","other"] ["one","other"] (aS (top 21)):=L2.c6
theorem G1 {f:Addr}{fd:FuncData}(F:cy K "less" "less" (top 21) f fd):aJ P w K mg base cH 1 f fd ["one","other"] Ck:=by
 refine F.ok zR (λvs H Q E h=>?_) (λbf A outer s H vs Q E hr h=>?_)
 .obtain⟨p,q,a,b,rfl,_⟩:=h;rfl
 .obtain⟨p,q,a,b,rfl,hp,hq,⟨ba,bb⟩,⟨bc,bd⟩,k⟩:=h;have hb:=lu a;have hd:=lu b;refine⟨_,cT (eG (vE kE (cN tI (cS bH (pv 0) bF (λ_ _=>rfl)) (cS bH (pv 1) bF (λ_ _=>rfl))) (cN tI (cS bH (pv 1) bF (λ_ _=>rfl)) (cS bH (pv 0) bF (λ_ _=>rfl))) (au _))),?_⟩;exact⟨_,rfl,p,_,_,_,rfl,rfl,aG.of hp,rfl,_,rfl,q,_,_,_,rfl,rfl,aG.of hq,rfl,_,_,rfl,rfl,⟨b3 ba,b3 bd⟩,_,rfl,q,_,_,_,rfl,rfl,aG.of hq,rfl,_,rfl,p,_,_,_,rfl,rfl,aG.of hp,rfl,_,_,rfl,rfl,⟨b3 bc,b3 bb⟩,_,_,rfl,rfl,by simp only[MF];exact k⟩
theorem Lj:ao ["one","other"] ["one","other"] (aS (top 20)):=L2.c6
theorem GX {f fF Nn:Addr}{fd dF:FuncData}(F:cy K "over" "over" (top 20) f fd)(G:ik K mg P w base "fraction" 2 ["top","bottom"] (Fm Nn) fF dF):aJ P w K mg base (ko P w) 3 f fd ["one","other"] (Ci Nn):=by
 refine F.N3 Lj (λvs H Q E h=>?_) (λbf A outer s H vs Q E hr h=>?_)
 .obtain⟨p,q,a,b,rfl,_⟩:=h;rfl
 .obtain⟨p,q,a,b,rfl,hp,hq,⟨ba,bb⟩,⟨bc,bd⟩,k0,k1⟩:=h;have hb:=lu a;have hd:=lu b;refine⟨_,cT (eG (jV G.ok hr rfl G.mg G.kp G.bd .nil xF (aQ (cN tI (cS bH (pv 0) bF (λ_ _=>rfl)) (cS bH (pv 1) bF (λ_ _=>rfl))) (aQ (cN tI (cS bH (pv 0) bF (λ_ _=>rfl)) (cS bH (pv 1) bF (λ_ _=>rfl))) bK)))),?_⟩;refine⟨_,rfl,p,_,_,_,rfl,rfl,aG.of hp,rfl,_,rfl,q,_,_,_,rfl,rfl,aG.of hq,rfl,_,_,rfl,rfl,⟨b3 ba,b3 bd⟩,?_⟩;refine⟨_,rfl,p,_,_,_,rfl,rfl,aG.of hp,rfl,_,rfl,q,_,_,_,rfl,rfl,aG.of hq,rfl,_,_,rfl,rfl,⟨b3 bb,b3 bc⟩,?_⟩;refine⟨_,_,rfl,b6 (bb.mul bc),λh0=>k0 ?_,λh0 r iF=>?_⟩
  .rcases Int.mul_eq_zero.mp h0 with z |z
   .omega
   .exact Rat.num_eq_zero.mp z
  .have hn:b.num≠0:=λz=>h0 (by rw[z,Int.mul_zero])
   rw[sL hn];exact k1 (λz=>hn (by rw[z];rfl)) r iF
end
section
variable {P:Program}{w:World}{K:Θ1}{mg:Θ3}{base:Heap}
theorem xA:ao ["parts","whole","part"] ["parts"] (aS (top 22)):=L2.c6
theorem DL {f fA:Addr}{fd dA:FuncData}(F:cy K "total" "total" (top 22) f fd)(A:ik K mg P w base "plus" 3 ["one","other"] (yR Nu) fA dA):aJ P w K mg base cH 4 f fd ["parts"] t8:=by
 refine F.ok xA (λvs H Q E h=>?_) (λbf A' outer s H vs Q E hr h=>?_)
 .obtain⟨l,ys,qs,rfl,_⟩:=h;rfl
 .obtain⟨l,ys,qs,rfl,hl,hf,hb,h8,k⟩:=h;refine⟨_,dz (lm (i:=1) xA.nd rfl (Or.inl rfl) (gv (aQ bF (aQ bF bK))))
   (dz (oA PassesOwn.never rfl (Fy (pv 0)) (eH (i:=2) xA.nd rfl (Or.inl rfl))
    (cT (lm (i:=1) xA.nd rfl (Or.inl rfl) (jV A.ok hr rfl A.mg A.kp A.bd .nil we (aQ (pv 1) (aQ (pv 2) bK))))))
   (cT (eG (pv 1)))),?_⟩
  refine⟨by show 2<=sizeLine;decide,λp0 Oj=>?_⟩;have s0:=(ai.refl H).new (o:=.tup [.int 0,.int 1]) Oj;refine⟨_,rfl,l,rfl,⟨_,bA.of (s0 _ _ hl)⟩,?_⟩;refine oV (xs:=ys) (λi σ H'=>(∃a y2,σ=[some (.ref l),some (.ref a),y2]/\H' a=some (qO (ck (qs.take i))))/\ai H H') ⟨⟨p0,_,rfl,cL⟩,s0⟩ (λi σ H' _ z=>bA.of (z.2 _ _ hl)) ?_ ?_
  .rintro i x σ H1 hx ⟨⟨a,y2,rfl,ha⟩,s1⟩;obtain⟨c,q,rfl,hc,hq⟩:=nq (hf.ay s1) hx;have hi:i<qs.length:=(Zd.mp hq).1;have b1:Rb 3000 (ck (qs.take i)):=(r9 hb i).mono (by have:401*i<=401*6:=Nat.mul_le_mul_left _ (by omega);omega);have b2:Rb 3000 q:=(hb q (Yc hq)).mono (by decide);refine⟨_,rfl,_,rfl,a,c,_,_,rfl,ha,hc,b1,b2,λr iF=>?_⟩;refine⟨⟨r,_,rfl,?_⟩,s1.new iF⟩;rw[HI hq,jB];exact cL
  .rintro σ H1 ⟨⟨a,y2,rfl,ha⟩,s1⟩;rw[hf.1,Yz] at ha;exact⟨_,rfl,k a H1 s1 ha⟩
theorem xD:ao ["parts","found","part"] ["parts"] (aS (top 23)):=L2.c6
theorem u6 {f fA:Addr}{fd dA:FuncData}(F:cy K "greatest" "greatest" (top 23) f fd)(A:bo K mg P w base "less" 1 ["one","other"] Ck fA dA):aJ P w K mg base cH 2 f fd ["parts"] Ia:=by
 refine F.ok xD (λvs H Q E h=>?_) (λbf A' outer s H vs Q E hr h=>?_)
 .obtain⟨l,ys,qs,rfl,_⟩:=h;rfl
 .obtain⟨l,ys,qs,rfl,hl,hf,cX,hb,k⟩:=h;refine⟨_,dz (lm (i:=1) xD.nd rfl (Or.inl rfl) (cS mF (pv 0) bF (λ_ _=>rfl)))
   (dz (oA PassesOwn.never rfl (Fy (pv 0)) (eH (i:=2) xD.nd rfl (Or.inl rfl))
    (cT (dq (tH (jV A.ok hr rfl A.mg A.kp A.bd .nil cw (aQ (pv 1) (aQ (pv 2) bK)))) (cT (lm (i:=1) xD.nd rfl (Or.inl rfl) (pv 2))) tw)))
   (cT (eG (pv 1)))),?_⟩
  have dE:0<qs.length:=List.length_pos_iff.mpr cX;obtain⟨a0,JI,JD⟩:=hf.at (g:=0) dE;have m0:qs.getD 0 0∈qs:=by simp[List.getD,Zc dE]
  refine⟨_,rfl,l,_,_,_,rfl,rfl,bA.of hl,JI,?_⟩;refine⟨_,rfl,l,rfl,⟨_,bA.of hl⟩,?_⟩;refine oV (xs:=ys) (λi σ H'=>H'=H/\∃a q y2,σ=[some (.ref l),some (.ref a),y2]/\H a=some (qO q)/\q∈qs/\∀z∈qs.take i,z<=q) ⟨rfl,a0,_,_,rfl,JD,m0,λz hz=>by simp at hz⟩ (λi σ H' _ z=>by obtain⟨rfl,_⟩:=z;exact bA.of hl) ?_ ?_
  .rintro i x σ H1 hx ⟨rfl,a,q,y2,rfl,ha,hq,pN⟩;obtain⟨c,z,rfl,hc,hz⟩:=nq hf hx;have YV:=Yc hz;refine⟨_,rfl,_,rfl,a,c,q,z,rfl,ha,hc,hb q hq,hb z YV,_,rfl,?_⟩;by_cases cG:q<z
   .rw[decide_eq_true cG];refine aU ⟨_,rfl,rfl,c,z,_,rfl,hc,YV,λy hy=>?_⟩;rw[HI hz] at hy;rcases Zp.mp hy with h |h
    .exact Rat.le_trans (pN y h) (Rat.le_of_lt cG)
    .rw[Yi.mp h];exact Rat.le_refl
   .rw[decide_eq_false cG];refine bC ⟨rfl,a,q,_,rfl,ha,hq,λy hy=>?_⟩;rw[HI hz] at hy;rcases Zp.mp hy with h |h
    .exact pN y h
    .rw[Yi.mp h];exact Rat.not_lt.mp cG
  .rintro σ H1 ⟨rfl,a,q,y2,rfl,ha,hq,pN⟩;rw[hf.1,Yz] at pN;exact⟨_,rfl,k a q ha hq pN⟩
theorem Lh:ao ["wish","price"] ["wish","price"] (aS (top 38)):=L2.c6
theorem GV {f fA Nn:Addr}{fd dA:FuncData}(F:cy K "rate" "rate" (top 38) f fd)(A:ik K mg P w base "over" 3 ["one","other"] (Ci Nn) fA dA):aJ P w K mg base cH 4 f fd ["wish","price"] Ch:=by
 refine F.ok Lh (λvs H Q E h=>?_) (λbf A' outer s H vs Q E hr h=>?_)
 .obtain⟨n,q,x,rfl,_⟩:=h;rfl
 .obtain⟨n,q,x,rfl,hq,bx,x0,n0,n1,k⟩:=h;refine⟨_,cT (eG (jV A.ok hr rfl A.mg A.kp A.bd .nil we (aQ (gv (aQ (pv 0) (aQ bF bK))) (aQ (pv 1) bK)))),?_⟩;refine⟨_,rfl,by show 2<=sizeLine;decide,λp hp=>?_⟩;have s0:=(ai.refl H).new (o:=.tup [.int n,.int 1]) hp;have bn:Rb 3000 (n:Rat):=wa (Bd.mono (j:=7) (by unfold Bd;omega) (by decide)) (by decide);have hx:x≠0:=λz=>by rw[z] at x0;exact absurd x0 (by decide)
  refine⟨_,rfl,p,q,(n:Rat),x,rfl,cL,s0 _ _ hq,bn,bx.mono (by decide),λz=>absurd z hx,λ_ r iF=>?_⟩;exact k r _ (s0.new iF) cL
end
end kr
namespace kr
open PySem L2 KG EX KM MI
section
variable {P:Program}{w:World}{K:Θ1}{mg:Θ3}{base:Heap}
theorem Fn:ao VS ["market"] (aS (top 32)):=L2.c6
theorem LW {f:Addr}{fd:FuncData}(F:cy K "wished" "wished" (top 32) f fd)(N:Nm mg):aJ P w K mg base cH 1 f fd ["market"] (cZ K zt) :=
 mQ F Fn (λO xs P PX h=>by obtain⟨_,_,_,rfl,_⟩:=h;rfl) (λbf A outer s H E QX hr=>⟨Py,(bR (yT (mv 0) (gA rfl (pz (c8 (i:=1) Fn.nd) (pz (c8 (i:=2) Fn.nd) (pz (yV (eH (i:=3) Fn.nd rfl (Or.inr rfl))) Ey)))))
 (cM (fc (p9 dv vp (by rfl) N.tuple mR (ap (iL (own:=["good"]) (cap:=["wishes"]) (ix:=[3]) (az.of (aS (top 32)).names VS) rfl (qY rfl N.range (ap (fe aV kl (by rfl) N.len PySem.boot_len (ap (mv 1) aA)) aA)) (iM (by decide))
 (λC fp s H=>⟨(yV (eH (i:=0) (Ψ9 ["good","wishes"]) rfl (Or.inr rfl))),(rM (tq (fe (qm rfl) MQ (by rfl) N.any boot_any (ap (iL (own:=["row"]) (cap:=["good"]) (ix:=[0]) (az.of [(".0",.local),("good",.cell),("any",.globalImplicit),("wishes",.cell)] ["good","wishes"]) rfl (km (mv 1)) (iM (by decide))
 (λC fp s H=>⟨(c8 (i:=0) (Ψ9 ["row","good"])),iE,(ee iV xK (bQ (mv 0) (mv 1)) bI (au _))⟩)) aA)))),(mv 0)⟩)) aA))))),λO xs Pq h=>Lo O xs Pq QX h⟩)
theorem WE:ao V1 ["table"] (aS (top 50)):=L2.c6
theorem sx {f:Addr}{fd:FuncData}(F:cy K "columns" "columns" (top 50) f fd)(N:Nm mg):aJ P w K mg base cH 1 f fd ["table"] (cZ K xR) :=
 mQ F WE (λO xs P PX h=>by obtain⟨_,_,rfl,_⟩:=h;rfl) (λbf A outer s H E QX hr=>⟨IJ,(cM (fc (iL (own:=["good"]) (cap:=["table"]) (ix:=[0]) (az.of (aS (top 50)).names V1) rfl (qY rfl N.range (ap (fe aV kl (by rfl) N.len PySem.boot_len (ap (bQ (mv 0) bI) aA)) aA)) (iM (by decide))
 (λC fp s H=>⟨(yV (eH (i:=0) (Ψ9 ["good","table"]) rfl (Or.inr rfl))),iE,(iL (own:=["row"]) (cap:=["good"]) (ix:=[0]) (az.of [(".0",.local),("good",.cell),("table",.cell)] ["good","table"]) rfl (km (mv 1)) (iM (by decide))
 (λC fp s H=>⟨(c8 (i:=0) (Ψ9 ["row","good"])),iE,(bQ (mv 0) (mv 1))⟩))⟩)))),λO xs Pq h=>Gw O xs Pq QX h⟩)
theorem WA:ao VX ["numbers","prices"] (aS (top 52)):=L2.c6
theorem DO {f fM fS:Addr}{fd dM dS:FuncData}(F:cy K "money_for" "money_for" (top 52) f fd)(N:Nm mg)(mz:mg "zip"=none)(Ti:ik K mg P w base "times" 3 ["one","other"] (yR pG) fM dM)(To:bo K mg P w base "total" 4 ["parts"] t8 fS dS):aJ P w K mg base cH 5 f fd ["numbers","prices"] (cZ K rQ) :=
 mQ F WA (λO xs P PX h=>by obtain⟨_,_,rfl,_⟩:=h;rfl) (λbf A outer s H E QX hr=>⟨CO,(cM (fc (cK To uF hr (ap (iL (own:=["number","price"]) (cap:=[]) (ix:=[]) (az.of (aS (top 52)).names VX) rfl (wj rfl mz boot_zip (ap (mv 0) (ap (mv 1) aA))) (gZ (EG (by decide) (EG (by decide) g9)))
 (λC fp s H=>⟨(gA rfl (pz (c8 (i:=0) (Ψ9 ["number","price"])) (pz (c8 (i:=1) (Ψ9 ["number","price"])) Ey))),iE,(Tt Ti vR hr (ap (nC (ap (mv 0) (ap bI aA))) (ap (mv 1) aA)))⟩)) aA)))),λO xs Pq h=>Dm O xs Pq QX h⟩)
theorem WD:ao V0 ["thing","goods"] (aS (top 26)):=L2.c6
theorem G5 {f fI:Addr}{fd dI:FuncData}(F:cy K "is_dealt_row" "is_dealt_row" (top 26) f fd)(N:Nm mg)(Z:rd K)(I:bo K mg P w base "is_fraction" 2 ["thing"] (spT aO) fI dI):aJ P w K mg base cH 3 f fd ["thing","goods"] (cZ K xQ) :=
 mQ F WD (λO xs P PX h=>by obtain⟨_,_,rfl,_⟩:=h;rfl) (λbf A outer s H E QX hr=>⟨II,(bR (lw (PW.pt (gN (tG (tq (Jk Z (mv 0) rfl N.isinstance rfl N.tuple))) (fJ (jU (gK hr.units) gO (fe aV kl (by rfl) N.len PySem.boot_len (ap (mv 0) aA)) (mv 1) (au _))))) (cM (fc pr)) lx)
 (cM (fc (fe (iD rfl) lT (by rfl) N.all AJ (ap (iL (own:=["part"]) (cap:=[]) (ix:=[]) (az.of (aS (top 26)).names V0) rfl (km (mv 0)) (iM (by decide))
 (λC fp s H=>⟨(c8 (i:=0) (Ψ9 ["part"])),iE,(rN (cK I KA hr (ap (mv 0) aA)) (wk (ee xG BX (bQ (mv 0) bI) bI (au _))))⟩)) aA))))),λO xs Pq h=>Gv O xs Pq QX h⟩)
theorem WB:ao VY ["market","thing"] (aS (top 25)):=L2.c6
theorem DS {f fI:Addr}{fd dI:FuncData}(F:cy K "is_dealing" "is_dealing" (top 25) f fd)(N:Nm mg)(Z:rd K)(Dr:bo K mg P w base "is_dealt_row" 3 ["thing","goods"] (cZ K xQ) fI dI):aJ P w K mg base cH 4 f fd ["market","thing"] (cZ K rR) :=
 mQ F WB (λO xs P PX h=>by obtain⟨_,_,_,_,rfl,_⟩:=h;rfl) (λbf A outer s H E QX hr=>⟨CQ,(bR (lw (PW.pt (gN (tG (tq (Jk Z (mv 1) rfl N.isinstance rfl N.tuple))) (fJ (jU (gK hr.units) gO (fe aV kl (by rfl) N.len PySem.boot_len (ap (mv 1) aA)) (fe aV kl (by rfl) N.len PySem.boot_len (ap (bQ (mv 0) bI) aA)) (au _))))) (cM (fc pr)) lx)
 (cM (fc (fe (iD rfl) lT (by rfl) N.all AJ (ap (iL (own:=["row"]) (cap:=["market"]) (ix:=[0]) (az.of (aS (top 25)).names VY) rfl (km (mv 1)) (iM (by decide))
 (λC fp s H=>⟨(c8 (i:=0) (Ψ9 ["row","market"])),iE,(cK Dr iN hr (ap (mv 0) (ap (fe aV kl (by rfl) N.len PySem.boot_len (ap (bQ (mv 1) bI) aA)) aA)))⟩)) aA))))),λO xs Pq h=>Dp O xs Pq QX h⟩)
theorem Ph:ao Sz ["market","thing"] (aS (top 34)):=L2.c6
theorem L8 {f fI fW:Addr}{fd dI dW:FuncData}(F:cy K "are_prices" "are_prices" (top 34) f fd)(N:Nm mg)(Z:rd K)(I:bo K mg P w base "is_fraction" 2 ["thing"] (spT aO) fI dI)(Wi:bo K mg P w base "wished" 1 ["market"] (cZ K zt) fW dW):aJ P w K mg base cH 3 f fd ["market","thing"] (cZ K FN) :=
 mQ F Ph (λO xs P PX h=>by obtain⟨_,_,_,_,rfl,_⟩:=h;rfl) (λbf A outer s H E QX hr=>⟨PH,(bR (lw (PW.pt (gN (tG (tq (Jk Z (mv 1) rfl N.isinstance rfl N.tuple))) (fJ (jU (gK hr.units) gO (fe aV kl (by rfl) N.len PySem.boot_len (ap (mv 1) aA)) (fe aV kl (by rfl) N.len PySem.boot_len (ap (bQ (mv 0) bI) aA)) (au _))))) (cM (fc pr)) lx)
 (bR (lw (tG (tq (fe (iD rfl) lT (by rfl) N.all AJ (ap (iL (own:=["part"]) (cap:=[]) (ix:=[]) (az.of (aS (top 34)).names Sz) rfl (km (mv 1)) (iM (by decide))
 (λC fp s H=>⟨(c8 (i:=0) (Ψ9 ["part"])),iE,(cK I KA hr (ap (mv 0) aA))⟩)) aA)))) (cM (fc pr)) lx)
 (bR (i9 (i:=2) Ph.nd rfl (Or.inr rfl) (cK Wi iN hr (ap (mv 0) aA)))
 (cM (fc (fe (iD rfl) lT (by rfl) N.all AJ (ap (iL (own:=["good","price"]) (cap:=["goods"]) (ix:=[2]) (az.of (aS (top 34)).names Sz) rfl (ym rfl N.enumerate Nx (ap (mv 1) aA)) (gZ (EG (by decide) (EG (by decide) g9)))
 (λC fp s H=>⟨(gA rfl (pz (c8 (i:=0) (Ψ9 ["good","price","goods"])) (pz (c8 (i:=1) (Ψ9 ["good","price","goods"])) Ey))),iE,(IA (jU xI (xJ false) (mv 0) (mv 2) (by rfl)) (ee iV xK (bQ (mv 1) bI) bI (au _)) (ee (gg hr.units) gi (bQ (mv 1) bI) bI (au _)))⟩)) aA))))))),λO xs Pq h=>Lv O xs Pq QX h⟩)
theorem Pf:ao VW ["market","dealing"] (aS (top 41)):=L2.c6
theorem zZ {f fG fW:Addr}{fd dG dW:FuncData}(F:cy K "sells_all" "sells_all" (top 41) f fd)(N:Nm mg)(Go:bo K mg P w base "got_in_all" 5 ["dealing","good"] Bz fG dG)(Wi:bo K mg P w base "wished" 1 ["market"] (cZ K zt) fW dW):aJ P w K mg base cH 6 f fd ["market","dealing"] (cZ K rP) :=
 mQ F Pf (λO xs P PX h=>by obtain⟨_,_,_,_,_,_,rfl,_⟩:=h;rfl) (λbf A outer s H E QX hr=>⟨CL,(bR (i9 (i:=2) Pf.nd rfl (Or.inr rfl) (cK Wi iN hr (ap (mv 0) aA)))
 (cM (fc (fe (iD rfl) lT (by rfl) N.all AJ (ap (iL (own:=["good","amount"]) (cap:=["dealing","goods"]) (ix:=[1,2]) (az.of (aS (top 41)).names VW) rfl (ym rfl N.enumerate Nx (ap (bQ (mv 0) bI) aA)) (gZ (EG (by decide) (EG (by decide) g9)))
 (λC fp s H=>⟨(gA rfl (pz (c8 (i:=0) (Ψ9 ["good","amount","dealing","goods"])) (pz (c8 (i:=1) (Ψ9 ["good","amount","dealing","goods"])) Ey))),iE,(ee (gg hr.units) gi (cK Go MM hr (ap (mv 2) (ap (mv 0) aA))) (IA (jU xI (xJ false) (mv 0) (mv 3) (by rfl)) (nC (ap (mv 1) (ap bI aA))) (nC (ap bI (ap bI aA)))) (au _))⟩)) aA))))),λO xs Pq h=>Dk O xs Pq QX h⟩)
theorem Wx:ao VU ["market","prices","dealing"] (aS (top 43)):=L2.c6
theorem wL {f fM fS:Addr}{fd dM dS:FuncData}(F:cy K "spends_all" "spends_all" (top 43) f fd)(N:Nm mg)(mz:mg "zip"=none)(Ti:ik K mg P w base "times" 3 ["one","other"] (yR pG) fM dM)(To:bo K mg P w base "total" 4 ["parts"] t8 fS dS):aJ P w K mg base cH 5 f fd ["market","prices","dealing"] (cZ K nt) :=
 mQ F Wx (λO xs P PX h=>by obtain⟨_,_,_,_,_,_,_,rfl,_⟩:=h;rfl) (λbf A outer s H E QX hr=>⟨yn,(cM (fc (fe (iD rfl) lT (by rfl) N.all AJ (ap (iL (own:=["row","purse"]) (cap:=["prices"]) (ix:=[1]) (az.of (aS (top 43)).names VU) rfl (wj rfl mz boot_zip (ap (mv 2) (ap (bQ (mv 0) bI) aA))) (gZ (EG (by decide) (EG (by decide) g9)))
 (λC fp s H=>⟨(gA rfl (pz (c8 (i:=0) (Ψ9 ["row","purse","prices"])) (pz (c8 (i:=1) (Ψ9 ["row","purse","prices"])) Ey))),iE,(ee (gg hr.units) gi (cK To uF hr (ap (iL (own:=["part","price"]) (cap:=[]) (ix:=[]) (az.of [(".0",.local),("row",.local),("purse",.local),("total",.globalImplicit),("zip",.globalImplicit),("prices",.cell)] ["row","purse","prices"]) rfl (wj rfl mz boot_zip (ap (mv 0) (ap (mv 2) aA))) (gZ (EG (by decide) (EG (by decide) g9)))
 (λC fp s H=>⟨(gA rfl (pz (c8 (i:=0) (Ψ9 ["part","price"])) (pz (c8 (i:=1) (Ψ9 ["part","price"])) Ey))),iE,(Tt Ti vR hr (ap (mv 0) (ap (mv 1) aA)))⟩)) aA)) (mv 1) (au _))⟩)) aA)))),λO xs Pq h=>zS O xs Pq QX h⟩)
end
end kr
namespace MI
open PySem L2 KG EX KM
def CM (QX:Addr->aM->Prop)(C:Addr)(Ms:MA):MS:=λD sl O=>Ms sl O λxs O1=>xs.length<=sizeLine/\QX C O1
theorem DY {P:Program}{w:World}{K:Θ1}{mg:Θ3}{base:Heap}{N:Δ2}{qual:Str}{scope:Scope}{f:Addr}{cd:Value}{A:Around}{outer:List Env}{aT:Shared}{aD:Hp}{E:XK}{QX:Addr->aM->Prop}{K':Θ1}
  {x:Str}{C:Addr}{e:Expr}{es:Ξ2}{Ms:MA}{np bV pos:Pos}{OS:Δ3}{B ua wn:String}(FB:ExcBaseFacts B ua wn OS) (hg:Gl (gI (ko P w) P w K mg base N qual scope f cd A outer aT aD E) x) (hm:mg x=some (.ref C)) (hx:PySem.W.excIn K C OS ua=true)
  (ha:PA (gI (ko P w) P w K mg base N qual scope f cd A outer aT aD E) (e::es) (mL K' QX E Ms)) (hd:(x == ("__debug__" : Str))=false:=by decide)
  (he:starEach (e::es) (PyProof.Rows.envOfC qual scope aT.heap.objs.size f cd)=(false,eval e (PyProof.Rows.envOfC qual scope aT.heap.objs.size f cd))::starEach es (PyProof.Rows.envOfC qual scope aT.heap.objs.size f cd):=by rfl)
  (et:(backTo bV (starEach es (PyProof.Rows.envOfC qual scope aT.heap.objs.size f cd))).any (·.1)=false:=by rfl) :
  PS (gI (ko P w) P w K mg base N qual scope f cd A outer aT aD E) (.Raise (some (.Call (.Name x np) (e::es) [] bV)) none pos) (kh K' QX E (CM QX C Ms)) :=
 PS.imp (uz FB hg hm hx ha hd he et) λD σ H ⟨w,O,sl,D0,c,m,hn,hb,hc,hr⟩=>⟨w,O,sl,_,c,m,λxs O1 vs w1 H1 h1 e1 r1 a1=>⟨by rw[a1.1];exact h1.1,c.3 C O1 w1 H1 h1.2 e1.ex r1⟩⟩
def lU (Pr:Addr):FM:=λO xs P PX=>∃(A:Γ3) (Pu:Δ1) (W:Γ1) (d:PyData),xs=[.im (ia A Pu W),.im d]/\A.length<=6/\W.length<=6/\(∀i,i<W.length->(W.getD i []).length=A.length)/\(∀j,j<A.length->has W j=true)/\(∃N,N<=1000000/\ln N d=true)/\(d7 A.length d=true->P (.im .none) O)/\(d7 A.length d=false->PX Pr O)
abbrev η:Δ2:=["market","thing"]
def CN (QX:Addr->aM->Prop)(Pr:Addr):MS:=(di (iJ (bG (ax FN cf (ae (ag 0) (ae (ag 1) ah))))) (CM QX Pr (ae (mC (.str "these are no prices of the market")) ah)) cb)
theorem Gm (Pr:Addr):∀O xs Pq QX,lU Pr O xs Pq QX->CN QX Pr { nx:=λ_ O'=>Pq (.im .none) O',rt:=Pq } (aZ η xs) O:=by
 intro O xs Pq QX h;obtain⟨A,Pu,W,d,rfl,g6,n6,hr,hw,hn,h1,h2⟩:=h;refine⟨A,Pu,W,d,rfl,g6,n6,hr,hw,hn,?_⟩;cases hp:d7 A.length d with
 |true=>exact⟨λz=>(by cases z),λ_=>h1 hp⟩
 |false=>exact⟨λ_=>⟨Bm,h2 hp⟩,λz=>(by cases z)⟩
def qj (Pr:Addr):FM:=λO xs P PX=>∃(n g:Nat) (B W:Γ1) (p:PyData),xs=[.im (iK B W),.im p]/\BW n g B W/\(∀j,j<g->has W j=true)/\bz p=true/\(∃N,N<=1000000/\ln N p=true)/\(d7 g p=false->PX Pr O)/\∀qs:Δ1,p=.tuple (qs.map qD)->qs.length=g->(∀q∈qs,0<q)->P (.im (ia ((List.range g).map (cm B)) (B.map λr=>iQ qs r g) W)) O
abbrev SD:Δ2:=["barter","prices","brought","wishes","amounts"]
def IE (QX:Addr->aM->Prop)(Pr:Addr):MS:=(aB (aX (ag 0) (vA 2 (bE (aW 2) (bE (aW 3) gh))))
 (aB (aX (cE iI (ae (bp 1 [] (bU (ax xR cf (ae (ag 2) ah))) (aW 0) bZ (cE vN (ae (ag 0) ah))) ah)) (aW 4))
 (aB (iX (ax (lU Pr) QX (ae (fi (ae (ag 4) (ae (fi ah) (ae (ag 3) ah)))) (ae (ag 1) ah))))
 (bS (fi (ae (ag 4) (ae (cE iI (ae (bp 1 [1] (bU (ag 2)) (aW 0) bZ (ax rQ cf (ae (ag 0) (ae (ag 1) ah)))) ah)) (ae (ag 3) ah))))))))
theorem Gq (Pr:Addr):∀O xs Pq QX,qj Pr O xs Pq QX->IE QX Pr { nx:=λ_ O'=>Pq (.im .none) O',rt:=Pq } (aZ SD xs) O:=by
 intro O xs Pq QX h;obtain⟨n,g,B,W,p,rfl,bw,hh,sp,lp,h1,h2⟩:=h;have n1:=bw.n1;have n6:=bw.n6;have g6:=bw.g6;refine⟨rfl,⟨B,g,rfl,by rw[bw.bl];omega,by rw[bw.bl];omega,g6,λi hi=>bw.br i (by rw[<- bw.bl];exact hi),?_⟩⟩;refine lv (λj=>.int (cm B j)) (by simp;omega) (λj x Z hx hZ=>?_) ?_
 .have hj:j<g:=by have:=(Zd.mp hx).1;simpa using this
  rw[Zg,Zg,Yu hj] at hx;cases Option.some.inj hx;exact⟨B.map λr:Γ3=>r.getD j 0,rfl,hZ⟩
 have hl:((((List.range g).map λj=>PyData.list ((B.map λr=>r.getD j 0).map .int))).map AV.im).length=g:=by simp
 rw[hl];have UH:((List.range g).map (cm B)).length=g:=by simp
 have hAd:((List.range g).map λj=>PyData.int (cm B j))=((List.range g).map (cm B)).map .int:=by rw[Zi];rfl
 rw[hAd];refine⟨by decide,Bl,(List.range g).map (cm B),[],W,p,rfl,by omega,by rw[bw.wl];omega,λi hi=>by rw[bw.wr i (by rw[<- bw.wl];exact hi),UH],λj hj=>hh j (by omega),lp,λhp=>?_,λhp=>h1 (by rw[UH] at hp;exact hp)⟩;rw[UH] at hp;obtain⟨qs,rfl,hq,xq⟩:=sP hp;have mT:=kS sp;refine⟨?_⟩;conv=>whnf
 refine lv (λi=>qD (iQ qs (B.getD i []) g)) (by simp;rw[bw.bl];omega) (λi x Z hx hZ=>?_) ?_
 .obtain⟨hi,rfl⟩:=jy hx;rw[bw.bl] at hi;have AM:=bw.br i hi;refine⟨B.getD i [],qs,rfl,by omega,by omega,λj hj=>⟨(bw.b0 i j hi (by omega)).1,by have:=(bw.b0 i j hi (by omega)).2;unfold eI at this;omega⟩,λz hz=>(mT z hz).mono (by decide),?_⟩;rw[hq];exact hZ
 .refine⟨Bl,?_⟩;rw[Zb,Zb,nD (λr:Γ3=>qD (iQ qs r g)) B []];have:=h2 qs rfl hq xq;unfold ia at this;rw[Zi (g:=qD)] at this;exact this
end MI
namespace kr
open PySem L2 KG EX KM MI
section
variable {P:Program}{w:World}{K:Θ1}{mg:Θ3}{base:Heap}
theorem Wz:ao η ["market","thing"] (aS (top 35)):=L2.c6
theorem DN {f fA Pr:Addr}{fd dA:FuncData}(F:cy K "need_prices" "need_prices" (top 35) f fd)(Tr:mg "NoPrices"=some (.ref Pr))(exP:PySem.W.excIn K Pr [.type "ValueError",.type "Exception",.type "BaseException",.type "object"] "ValueError.__new__"=true)(Ap:bo K mg P w base "are_prices" 3 ["market","thing"] (cZ K FN) fA dA):aJ P w K mg base (ko P w) 4 f fd ["market","thing"] (cZ K (lU Pr)) :=
 Pt F Wz (λO xs P PX h=>by obtain⟨_,_,_,_,rfl,_⟩:=h;rfl) (λbf A outer s H E QX hr=>⟨CN QX Pr,(cM (lw (tG (tq (cK Ap iN hr (ap (mv 0) (ap (mv 1) aA))))) (cM (DY PySem.F.excBase_ValueError rfl Tr exP (ap oB aA))) lx)),λO xs Pq h=>Gm Pr O xs Pq QX h⟩)
theorem Fp:ao SD ["barter","prices"] (aS (top 51)):=L2.c6
theorem GZ {f fC fN fM Pr:Addr}{fd dC dN dM:FuncData}(F:cy K "market_at" "market_at" (top 51) f fd)(N:Nm mg)(Co:bo K mg P w base "columns" 1 ["table"] (cZ K xR) fC dC)(Ne:ik K mg P w base "need_prices" 4 ["market","thing"] (cZ K (lU Pr)) fN dN)(My:bo K mg P w base "money_for" 5 ["numbers","prices"] (cZ K rQ) fM dM):aJ P w K mg base (ko P w) 6 f fd ["barter","prices"] (cZ K (qj Pr)) :=
 Pt F Fp (λO xs P PX h=>by obtain⟨_,_,_,_,_,rfl,_⟩:=h;rfl) (λbf A outer s H E QX hr=>⟨IE QX Pr,(bR (yT (mv 0) (gA rfl (pz (c8 (i:=2) Fp.nd) (pz (c8 (i:=3) Fp.nd) Ey))))
 (bR (iz (i:=4) Fp.nd (p9 dv vp (by rfl) N.tuple mR (ap (iL (own:=["column"]) (cap:=[]) (ix:=[]) (az.of (aS (top 51)).names SD) rfl (km (cK Co iN hr (ap (mv 2) aA))) (iM (by decide))
 (λC fp s H=>⟨(c8 (i:=0) (Ψ9 ["column"])),iE,(fe (uk rfl) oE (by rfl) N.sum boot_sum (ap (mv 0) aA))⟩)) aA)))
 (bR (EB (Hf Ne.ok iN (hr.mono (by decide)) rfl Ne.mg Ne.kp Ne.bd xF (ap (nC (ap (mv 4) (ap (nC aA) (ap (mv 3) aA)))) (ap (mv 1) aA))))
 (cM (fc (nC (ap (mv 4) (ap (p9 dv vp (by rfl) N.tuple mR (ap (iL (own:=["row"]) (cap:=["prices"]) (ix:=[1]) (az.of (aS (top 51)).names SD) rfl (km (mv 2)) (iM (by decide))
 (λC fp s H=>⟨(c8 (i:=0) (Ψ9 ["row","prices"])),iE,(cK My iN hr (ap (mv 0) (ap (mv 1) aA)))⟩)) aA)) (ap (mv 3) aA))))))))),λO xs Pq h=>Gq Pr O xs Pq QX h⟩)
end
end kr
namespace MI
open PySem L2 KG EX KM
def Ke (gs:List Nat):PyData:=.tuple (gs.map λg:Nat=>.int (g:Int))
def Z7:FM:=λO xs P _=>∃(ns:Γ3) (qs:Δ1),xs=[.im (bT ns),.im (.tuple (qs.map qD))]/\ns.length=qs.length/\ns.length<=6/\(∀k∈ns,0<=k/\k<=100)/\(∀z∈qs,Rb 300 z)/\(∀j,0<ns.getD j 0->0<qs.getD j 0)/\P (.im (Ke (i7 ns qs))) O
theorem ur {g:Hp}:∀gs:List Nat,aN g (og gs) (gs.map λg:Nat=>.int (g:Int))
 |[]=>.nil
 |a::gs=>.cons (.int _) (ur gs)
theorem RA {K:Θ1}:qd K J1 Z7:=λw O H vs xs P PX Q E r a hf q x=>by
 obtain⟨ns,qs,rfl,h1,h2,h3,h4,h5,hf⟩:=hf;obtain⟨v,v2,rfl,a1,a2⟩:=Br a;obtain⟨p1,SQ,rfl,g1,t1⟩:=du a1;obtain⟨p2,X2,rfl,g2,t2⟩:=du a2;rw[j5 t1] at g1;refine⟨p1,p2,ns,X2,qs,rfl,g1,g2,(xO t2).ay mG,h1,h2,h3,h4,h5,λt H' s ht=>?_⟩;obtain⟨r1,e1,tt⟩:=jH r s ht (ur _);exact q _ _ O w H' hf e1 r1 tt
def FR:FM:=λO xs P _=>∃(A:Γ3) (Pu:Δ1) (W:Γ1) (qs:Δ1) (g:Nat),xs=[.im (ia A Pu W),.im (.tuple (qs.map qD))]/\(A.length=g/\qs.length=g/\g<=6/\W.length<=6)/\(∀i,i<W.length->(W.getD i []).length=g)/\(∀i j,i<W.length->j<g->0<=eI W i j/\eI W i j<=100)/\(∀j,j<g->has W j=true)/\(∀z∈qs,0<z/\Rb 280 z)/\P (.im (.tuple ((bB W qs).map bT))) O
abbrev V2:Δ2:=["market","prices"]
def PN (Pr:Addr):MS:=(aB (iX (ax (lU Pr) cf (ae (ag 0) (ae (ag 1) ah))))
 (bS (cE iI (ae (bp 1 [1] (bU (aE bL (ag 0) (mC (.int 2)))) (aW 0) bZ (ax Z7 cf (ae (ag 0) (ae (ag 1) ah)))) ah))))
theorem m6 {qs:Δ1}(h:∀z∈qs,0<z):d7 qs.length (.tuple (qs.map qD))=true:=by
 show(decide ((qs.map qD).length=qs.length)&&(qs.map qD).all cC)=true;rw[Zb,decide_eq_true rfl,Ys,Zu];intro d hd;obtain⟨z,hz,rfl⟩:=Zh.mp hd;have h1:=D7 z;show(aO (qD z)&&decide (0<z.num))=true;rw[h1,decide_eq_true (kJ.mp (h z hz))];rfl
theorem IL {qs:Δ1}(h:qs.length<=6):∃N,N<=1000000/\ln N (.tuple (qs.map qD))=true:=⟨6,by decide,kA.mpr ⟨by rw[Zb];exact h,λd hd=>by
 obtain⟨z,_,rfl⟩:=Zh.mp hd;exact Kz (by decide) z⟩⟩
theorem LA (Pr:Addr):∀O xs Pq QX,FR O xs Pq QX->PN Pr { nx:=λ_ O'=>Pq (.im .none) O',rt:=Pq } (aZ V2 xs) O:=by
 intro O xs Pq QX h;obtain⟨A,Pu,W,qs,g,rfl,⟨hA,hq,g6,n6⟩,hr,hw,hh,hz,h⟩:=h;refine⟨A,Pu,W,_,rfl,by omega,n6,λi hi=>by rw[hr i hi,hA],λj hj=>hh j (by omega),IL (by omega),λ_=>⟨_,rfl,?_⟩,λz=>?_⟩
 .conv=>whnf
  refine lv (λi=>bT ((bB W qs).getD i [])) (by simp;omega) (λi x Z hx hZ=>?_) ?_
  .obtain⟨hi,rfl⟩:=jy hx;have AM:=hr i hi;refine⟨W.getD i [],qs,rfl,by omega,by omega,λk hk=>?_,λz AL=>(hz z AL).2.mono (by decide),λj hj=>?_,?_⟩
   .obtain⟨j,hj,rfl⟩:=Xp hk;have:=hw i j hi (by omega);unfold eI at this;rw[gb (Zc hj)] at this;exact this
   .have Uh:j<g:=by
     rcases Zz j g with y |y
     .exact y
     .rw[List.getD,Yq (by omega)] at hj;exact absurd hj (by decide)
    exact(hz _ (by rw[gb (Zc (show j<qs.length by omega))];exact Zv _)).1
   .have e:(bB W qs).getD i []=(i7 (W.getD i []) qs).map λg:Nat=>(g:Int):=by
     unfold bB;exact vF hi
    have e2:bT ((bB W qs).getD i [])=Ke (i7 (W.getD i []) qs):=by
     rw[e];unfold bT Ke;rw[Zi];rfl
    rw[<- e2];exact hZ
  .have el:((W.map bT).map AV.im).length=(bB W qs).length:=by unfold bB;simp
   rw[el,nD bT (bB W qs) []];exact h
 .have:=m6 (qs:=qs) λz AL=>(hz z AL).1
  rw[hq,<- hA] at this;rw[this] at z;cases z
def CZ:FM:=λO xs P _=>∃(B:Γ1) (D:List (Δ1)) (n g:Nat),xs=[.im (.tuple (B.map bT)),.im (bD D)]/\g<=6/\B.length=n/\zB n g D/\P (.im (.bool (jd B D g))) O
theorem uo {w:Wd}{O:aM}{H:Hp}:∀{B:Γ1}{xs:List V},aN (G w O H) xs (B.map bT)->qZ H xs B
 |[],_,h=>by cases h;exact .nil
 |r::B,_,h=>by
  cases h with |cons h1 h2=>?_
  obtain⟨a,ys,rfl,g1,t1⟩:=du h1;rw[j5 t1] at g1;exact .cons ⟨a,rfl,g1⟩ (uo h2)
theorem D2 {K:Θ1}:qd K sh CZ:=λw O H vs xs P PX Q E r a hf q x=>by
 obtain⟨B,D,n,g,rfl,h1,h2,dk,hf⟩:=hf;obtain⟨v,v2,rfl,a1,a2⟩:=Br a;obtain⟨p1,SQ,rfl,g1,t1⟩:=du a1;obtain⟨p2,zs,rfl,hd⟩:=QF a2 dk.dr (λr hr z hz=>(dk.db r hr z hz).mono (by decide)) (by rw[dk.dl];exact dk.n6);refine⟨p1,p2,SQ,zs,B,D,g,rfl,g1,uo t1,hd,h1,by rw[h2,dk.dl],λH' s=>?_⟩;obtain⟨r1,e1,_⟩:=r.ay s;exact q _ _ O w H' hf e1 r1 (.bl _)
def FK:FM:=λO xs P _=>∃(A:Γ3) (Pu:Δ1) (W:Γ1) (qs:Δ1) (d:PyData) (n g:Nat),xs=[.im (ia A Pu W),.im (.tuple (qs.map qD)),.im d]/\(A.length=g/\qs.length=g/\g<=6/\W.length=n/\Pu.length=n/\n<=6)/\(∀i,i<n->(W.getD i []).length=g)/\(∀i j,i<n->j<g->0<=eI W i j/\eI W i j<=100)/\(∀j,j<g->has W j=true)/\(∀z∈qs,0<z/\Rb 280 z)/\bz d=true/\(∃N,N<=1000000/\ln N d=true)/\(lI n g d=false->P (.im (.bool false)) O)/\∀D:List (Δ1),d=bD D->D.length=n->(∀r∈D,r.length=g/\∀z∈r,0<=z)->P (.im (.bool (c9 A Pu qs W D g))) O
abbrev OV:Δ2:=["market","prices","dealing","best"]
def PC:MS:=(aB (aX (ax FR cf (ae (ag 0) (ae (ag 1) ah))) (aW 3))
 (aB (di (iJ (bG (ax rR cf (ae (ag 0) (ae (ag 2) ah))))) (bS (mC (.bool false))) cb)
 (bS (uc (ax rP cf (ae (ag 0) (ae (ag 2) ah))) (uc (ax CZ cf (ae (ag 3) (ae (ag 2) ah))) (ax nt cf (ae (ag 0) (ae (ag 1) (ae (ag 2) ah)))))))))
theorem Lq:∀O xs Pq QX,FK O xs Pq QX->PC { nx:=λ_ O'=>Pq (.im .none) O',rt:=Pq } (aZ OV xs) O:=by
 intro O xs Pq QX h;obtain⟨A,Pu,W,qs,d,n,g,rfl,⟨hA,hq,g6,hW,hP,n6⟩,hr,hw,hh,hz,sd,ld,h1,h2⟩:=h;refine⟨A,Pu,W,qs,g,rfl,⟨hA,hq,g6,by omega⟩,λi hi=>hr i (by omega),λi j hi hj=>hw i j (by omega) hj,hh,hz,⟨A,Pu,W,d,rfl,ld,?_⟩⟩;rw[hA,hP];by_cases hd:lI n g d=true
 .obtain⟨D,rfl,OL,zd⟩:=wm hd;have A1:=si sd;have dk:zB n g D:=⟨n6,OL,λr hr=>(zd r hr).1,λr hr z hz=>(A1 r hr z hz).mono (by decide)⟩;have hs:=h2 D rfl OL zd;rw[hd];refine⟨λz=>(by cases z),λ_=>⟨A,Pu,W,D,n,g,rfl,hA,g6,by omega,λi hi=>hr i (by omega),dk,?_⟩⟩;unfold c9 at hs;cases c1:oy A W D g with
  |false =>
   rw[c1] at hs;exact⟨λz=>(by cases z),λ_=>hs⟩
  |true =>
   rw[c1,Ys] at hs;refine⟨λ_=>⟨bB W qs,D,n,g,rfl,g6,by unfold bB;rw[Zb];exact hW,dk,?_⟩,λz=>(by cases z)⟩;cases c2:jd (bB W qs) D g with
   |false =>
    rw[c2] at hs;exact⟨λz=>(by cases z),λ_=>hs⟩
   |true =>
    rw[c2,Ys] at hs;exact⟨λ_=>⟨A,Pu,W,qs,D,n,g,rfl,hq,g6,hP,dk,λz AL=>(hz z AL).2,hs⟩,λz=>(by cases z)⟩
 .have hd:=Ym.mpr hd;rw[hd];exact⟨λ_=>h1 hd,λz=>(by cases z)⟩
end MI
namespace kr
open PySem L2 KG EX KM MI
section
variable {P:Program}{w:World}{K:Θ1}{mg:Θ3}{base:Heap}
theorem WG:ao V2 ["market","prices"] (aS (top 36)):=L2.c6
theorem Ml {f fN fB Pr:Addr}{fd dN dB:FuncData}(F:cy K "best_goods" "best_goods" (top 36) f fd)(N:Nm mg)(Ne:ik K mg P w base "need_prices" 4 ["market","thing"] (cZ K (lU Pr)) fN dN)(BB:bo K mg P w base "best_by_wishes" 5 ["row","prices"] J1 fB dB):aJ P w K mg base cH 6 f fd ["market","prices"] (cZ K FR) :=
 mQ F WG (λO xs P PX h=>by obtain⟨_,_,_,_,_,rfl,_⟩:=h;rfl) (λbf A outer s H E QX hr=>⟨PN Pr,(bR (EB (Tt Ne iN hr (ap (mv 0) (ap (mv 1) aA))))
 (cM (fc (p9 dv vp (by rfl) N.tuple mR (ap (iL (own:=["row"]) (cap:=["prices"]) (ix:=[1]) (az.of (aS (top 36)).names V2) rfl (km (bQ (mv 0) bI)) (iM (by decide))
 (λC fp s H=>⟨(c8 (i:=0) (Ψ9 ["row","prices"])),iE,(cK BB RA hr (ap (mv 0) (ap (mv 1) aA)))⟩)) aA))))),λO xs Pq h=>LA Pr O xs Pq QX h⟩)
theorem pL:ao OV ["market","prices","dealing"] (aS (top 40)):=L2.c6
theorem L5 {f fB fI fS fG fP:Addr}{fd dB dI dS dG dP:FuncData}(F:cy K "shows" "shows" (top 40) f fd)(N:Nm mg)(Bg:bo K mg P w base "best_goods" 6 ["market","prices"] (cZ K FR) fB dB)(Id:bo K mg P w base "is_dealing" 4 ["market","thing"] (cZ K rR) fI dI)(Sa:bo K mg P w base "sells_all" 6 ["market","dealing"] (cZ K rP) fS dS)(Gb:bo K mg P w base "gives_best" 1 ["best","dealing"] sh fG dG)(Sp:bo K mg P w base "spends_all" 5 ["market","prices","dealing"] (cZ K nt) fP dP):aJ P w K mg base cH 7 f fd ["market","prices","dealing"] (cZ K FK) :=
 mQ F pL (λO xs P PX h=>by obtain⟨_,_,_,_,_,_,_,rfl,_⟩:=h;rfl) (λbf A outer s H E QX hr=>⟨PC,(bR (iz (i:=3) pL.nd (cK Bg iN hr (ap (mv 0) (ap (mv 1) aA))))
 (bR (lw (tG (tq (cK Id iN hr (ap (mv 0) (ap (mv 2) aA))))) (cM (fc pr)) lx)
 (cM (fc (rN (cK Sa iN hr (ap (mv 0) (ap (mv 2) aA))) (rN (cK Gb D2 hr (ap (mv 3) (ap (mv 2) aA))) (wk (cK Sp iN hr (ap (mv 0) (ap (mv 1) (ap (mv 2) aA))))))))))),λO xs Pq h=>Lq O xs Pq QX h⟩)
end
end kr
namespace L2
open PySem PySem.Spec PyProof.Rows EX
def QQ (K:Θ1)(sp:Sp)(M:Addr)(i:Nat)(b:Bool)(ta:TA):TS:=λD σ H=>ta σ H λvs H1=>sp vs H1 (λv H2=>D.nx (σ.set i (some v)) H2)
 (λc _ H2=>∃Dc,c=.ref Dc/\PySem.W.mroIn K Dc (.ref M)=some true/\D.rt (.bl b) H2)
theorem GC {X:Cx}{k:Nat}{f M:Addr}{fd:FuncData}{ps:Δ2}{sp:Sp}{x fn Cl:Str}{i:Nat}{b:Bool}{e:Expr}{es:Ξ2}{ta:TA}{px fp bV fk np dE cp rp pos:Pos}{kc:Nat}
  (F:aJ X.prog X.w X.K X.mg X.base (ko X.prog X.w) k f fd ps sp) (hr:cz k X.A) (Jv:Gl X fn) (Js:X.mg fn=some (.ref f)) (Ju:PySem.W.keepIn X.K (.ref f)=true) (JB:Binds X.K fd ps [])
  (Jw:Gl X Cl) (Jt:X.mg Cl=some (.ref M)) (EU:PySem.W.typeIn X.K (.ref M)=some (.type "type")) (bM:PySem.W.mroIn X.K M (.type "BaseException")=some true)
  (lz:X.stack=X.env::X.outer) (mU:X.env.frame=some X.env.locals) (hN:X.N.Nodup) (hi:X.N[i]?=some x)
  (kx:X.env.scope.names.lookup x=some .local)
  (ha:∀E,PA (X.wish E) (e::es) ta)
  (Jp:swapsWith (.Call (.Name fn fp) (e::es) [] bV) (some (.Name x px)) fk.line X.env=pure false:=by rfl)
  (d1:(fn == ("__debug__" : Str))=false:=by decide) (d3:(Cl == ("__debug__" : Str))=false:=by decide)
  (he:starEach (e::es) X.env=(false,eval e X.env)::starEach es X.env:=by rfl) (et:(backTo bV (starEach es X.env)).any (·.1)=false:=by rfl) :
  PS X (.Try [.Assign [.Name x px] (.Call (.Name fn fp) (e::es) [] bV) fk] [.ExceptHandler (some (.Name Cl np)) none [.Return (some (.Constant (.bool b) kc cp)) rp] dE] [] [] pos) (QQ X.K sp M i b ta):=by
 intro aa s σ H D I h;refine wpAny_Try_except (wpAny_execs_cons ?_);refine wpAny_Assign_Name ?_ Jp;refine wpAny_Call_Name_kw (eV I Jv Js ?_ d1);generalize UD:(λ(e:Value) (bh:Shared)=>wpAny (model X.prog X.w) X.A (noteFrame e X.env) (λ_ eJ=>wpAny (model X.prog X.w) X.A (setFlight e none) (λ_ cO=>wpAny (model X.prog X.w) X.A (handleBy e X.env [.ExceptHandler (some (.Name Cl np)) none [.Return (some (.Constant (.bool b) kc cp)) rp] dE]) (SP X aa D) X.xe cO) X.xe eJ) X.xe bh)=EE;refine PySem.W.callWith_K (h₀:=X.base) I.ok.mod.HH Ju (bi (ha EE bV aa s σ H _ (I.wish EE) h) λus s1 ⟨vs,H1,V7,r,q⟩=>?_) he et;have I1:Inv X aa σ H1 s1:=V7.gq;refine⟨I1.l9,?_⟩;have bN:us.length=ps.length:=by rw[<- r.length];exact F.len _ _ _ _ q
 have xt:=JB s1 us I1.l9 (by rw[Yg];exact bN);rw[Yg] at xt;refine wpAny_call (codeAny_mono (F.run X.A X.stack s1 H1 ⟨us,[]⟩ us vs _ _ hr I1.FT xt r q) λres s' hq=>?_);cases res with
 |ok fl =>
  cases fl with
  |ret u =>
   obtain⟨v,H2,I2,rv,q2⟩:=I1.after hq;refine E2 I2 hN hi (.inl kx) rv (λs3 I3=>?_) (.inr kx);exact wpAny_execs_nil (wpAny_execs_nil ⟨_,H2,I3,q2⟩)
  |next=>exact False.elim hq
  |brk=>exact False.elim hq
  |cont=>exact False.elim hq
 |error ev =>
  obtain⟨a,C,t,B,H2,rfl,os,bare,un,bt,gJ,tO,na,AH,Dc,eC,Bp,hk⟩:=hq;cases eC;rw[<- UD];have ff:=tO.ff;rw[lz] at tO;refine oX (L:=X.env.locals) tO (by rw[<- lz];exact I.ok.frames) mU λh3 KR SW=>?_
  refine jq (s:={ s' with heap:=h3 }) KR λh4 vW SV=>?_
  have Bc:=SW.trans SV;have ht:∀b o,s1.heap.get? b=some o->b≠a:=λb o q z=>by rw[z,na] at q;cases q
  have aL:a≠X.env.locals:=by
   obtain⟨m,⟨oL,_,_,Ol,_⟩,_⟩:=I1.loc;exact(ht _ _ Ol).symm
  have aF:a∉X.fs:=λz=>by
   obtain⟨_,o,ho,_⟩:=I1.iR.mem z;exact ht _ _ ho rfl
  have inv:∀(h':Heap) (tk:Nat),re B (X.env::X.outer) a C t h'->s'.heap.UpToSlots h'->Inv X aa σ H2 { s' with heap:=h' }:=λh' tk rC SX =>
   I1.ql (s':={ s' with heap:=h' }) (ch:=[]) os (HX un gJ ff (by rw[lz];exact rC) SX) (bt.kept rC.st) bare (λb z=>absurd z (by simp))
  obtain⟨hd4,OC,_⟩:=vW.ob;have J4:=(inv h4 0 vW Bc).xy OC AH aL aF;refine wpAny_handleBy_cons (codeAny_handlers_test (eV J4 Jw Jt ?_ d3)) (by intro z;cases z);refine qF (K:=X.K) J4.l9 OC EU bM Bp ?_;refine codeAny_handlers_suite ?_;refine jq (s:={ s' with heap:=h4 }) vW λh5 Bs SU=>?_
  obtain⟨Jz,Uu,_⟩:=Bs.ob;have J5:=(inv h5 0 Bs (Bc.trans SU)).xy Uu AH aL aF;have body:iH (JL X a C t Jz) [.Return (some (.Constant (.bool b) kc cp)) rp] _:=cT (eG iB);have run:=body aa _ σ H2 { nx:=λ_ _=>False,rt:=D.rt } J5 hk;refine wpAny_mono run (λfl s7 E7=>?_) λ_ _ z=>False.elim z
  cases fl with
  |ret u =>
   obtain⟨v,vk,H7,J7,rv,q7⟩:=E7;exact⟨v,vk,H7,Inv.xX I.ok J7,rv,q7⟩
  |brk=>obtain⟨_,_,_,z⟩:=E7;exact False.elim z
  |cont=>obtain⟨_,_,_,z⟩:=E7;exact False.elim z
  |next=>obtain⟨_,_,_,z⟩:=E7;exact False.elim z
end L2
namespace MI
open PySem L2 KG EX KM
theorem rD {K:Θ1}{w w':Wd}{O O':aM}{H H':Hp}(e:md w O H w' O' H')(r:aI K w' O' H'):aI K { w' with cj:=w.cj } O' H'/\cg w O H { w' with cj:=w.cj } O' H':=by
 obtain⟨t,ht⟩:=e.hs;have sub:∀p∈w.cj,p∈w'.cj:=λp hp=>by rw[ht];exact Zq _ hp
 have st:ai (G w' O' H') (G { w' with cj:=w.cj } O' H'):=λa o h=>by
  obtain⟨h1,h2⟩:=gn h;rw[iT]
  .exact h1
  .rintro(z |⟨o',z⟩ |z)
   .exact h2 (.inl z)
   .exact h2 (.inr (.inl ⟨o',sub _ z⟩))
   .exact h2 (.inr (.inr z))
 refine⟨⟨r.len,r.nd,r.al,r.nb,?_,λp hp=>r.nh p (sub p hp),r.bg,λk c hk=>?_⟩,⟨⟨e.bs,e.cF,⟨[],rfl⟩,e.ay.trans st⟩,rfl⟩⟩
 .have:=r.hn;rw[ht,Zs] at this;exact(Yy.mp this).2.1
 .obtain⟨a,vs,h1,h2,h3⟩:=r.pJ k c hk;refine⟨a,vs,h1,h2,?_⟩;refine⟨h3.1,λi v x hv hx=>?_⟩;have q:=h3.2 i v x hv hx;cases x with
  |im d=>exact cx.ay st q
  |own k=>exact q
  |bag j=>exact q
  |qV ns =>
   obtain⟨a,e1,e2⟩:=q;exact⟨a,e1,KG.bA.ay e2 st⟩
def IB (F:FM)(i:Nat)(b:Bool)(C:Addr)(Ms:MA):MS:=λD sl O=>Ms sl O λxs O1=>F O1 xs (λx O2=>D.nx (sl.set i (some x)) O2) (λc O2=>c=C/\D.rt (.im (.bool b)) O2)
theorem Hb {X:Cx}{K:Θ1}{QX:Addr->aM->Prop}{E:XK}{k:Nat}{f M:Addr}{fd:FuncData}{ps:Δ2}{sp:Sp}{F:FM}{x fn Cl:Str}{i:Nat}{b:Bool}{e:Expr}{es:Ξ2}{Ms:MA}{px fp bV fk np dE cp rp pos:Pos}{kc:Nat}
  (F':aJ X.prog X.w X.K X.mg X.base (ko X.prog X.w) k f fd ps sp) (lk:qd K sp F) (hr:cz k X.A) (Jv:Gl X fn) (Js:X.mg fn=some (.ref f)) (Ju:PySem.W.keepIn X.K (.ref f)=true) (JB:Binds X.K fd ps [])
  (Jw:Gl X Cl) (Jt:X.mg Cl=some (.ref M)) (EU:PySem.W.typeIn X.K (.ref M)=some (.type "type")) (bM:PySem.W.mroIn X.K M (.type "BaseException")=some true) (mM:PySem.W.mroIn X.K M (.ref M)=some true)
  (lz:X.stack=X.env::X.outer) (mU:X.env.frame=some X.env.locals) (hN:X.N.Nodup) (hi:X.N[i]?=some x)
  (kx:X.env.scope.names.lookup x=some .local)
  (ha:∀E',PA (X.wish E') (e::es) (mL K QX E Ms))
  (Jp:swapsWith (.Call (.Name fn fp) (e::es) [] bV) (some (.Name x px)) fk.line X.env=pure false:=by rfl)
  (d1:(fn == ("__debug__" : Str))=false:=by decide) (d3:(Cl == ("__debug__" : Str))=false:=by decide)
  (he:starEach (e::es) X.env=(false,eval e X.env)::starEach es X.env:=by rfl) (et:(backTo bV (starEach es X.env)).any (·.1)=false:=by rfl) :
  PS X (.Try [.Assign [.Name x px] (.Call (.Name fn fp) (e::es) [] bV) fk] [.ExceptHandler (some (.Name Cl np)) none [.Return (some (.Constant (.bool b) kc cp)) rp] dE] [] [] pos) (kh K QX E (IB F i b M Ms)) :=
 PS.imp (GC F' hr Jv Js Ju JB Jw Jt EU bM lz mU hN hi kx ha Jp d1 d3 he et) λD σ H ⟨w,O,sl,D0,c,m,hn,hb,hc,P0⟩=>⟨w,O,sl,_,c,m,λxs O1 vs w1 H1 h1 e1 r1 a1 =>
  lk w1 O1 H1 vs xs _ _ _ _ r1 a1 h1 (λz x' O3 w3 H3 h3 e3 r3 a3=>hn _ O3 w3 H3 _ h3 ((c.ex (e1.trans e3).ex r3).put a3 i) (e1.trans e3)) λc' O3 w3 H3 h3 e3 r3=>by
   obtain⟨r4,e4⟩:=rD e3 r3;exact⟨M,by rw[h3.1],mM,P0 _ O3 _ H3 _ h3.2 (e1.trans e4) r4 (.bl _)⟩⟩
def uj (Pr:Addr):FM:=λO xs P _=>∃(n g:Nat) (B W:Γ1) (p d:PyData),xs=[.im (iK B W),.im p,.im d]/\BW n g B W/\(∀j,j<g->has W j=true)/\bz p=true/\bz d=true/\(∃N,N<=1000000/\ln N p=true)/\(∃N,N<=1000000/\ln N d=true)/\Due n g B W p d λc=>P (.im (.bool c)) O
abbrev ι:Δ2:=["barter","prices","dealing","market"]
def IG (Pr:Addr):MS:=aB (IB (qj Pr) 3 false Pr (ae (ag 0) (ae (ag 1) ah))) (bS (ax FK cf (ae (ag 3) (ae (ag 1) (ae (ag 2) ah)))))
theorem Gs (Pr:Addr):∀O xs Pq QX,uj Pr O xs Pq QX->IG Pr { nx:=λ_ O'=>Pq (.im .none) O',rt:=Pq } (aZ ι xs) O:=by
 intro O xs Pq QX h;obtain⟨n,g,B,W,p,d,rfl,bw,hh,sp,sd,lp,ld,h1,h2⟩:=h;refine⟨n,g,B,W,p,rfl,bw,hh,sp,lp,λhp=>⟨rfl,h1 hp⟩,λqs e hq xq=>?_⟩;subst e;obtain⟨h3,h4⟩:=h2 qs rfl hq xq;have mT:=kS sp;exact⟨_,_,W,qs,d,n,g,rfl,⟨by simp,hq,bw.g6,bw.wl,by rw[Zb];exact bw.bl,bw.n6⟩,bw.wr,bw.w0,hh,λz hz=>⟨xq z hz,(mT z hz).mono (by decide)⟩,sd,ld,h3,h4⟩
end MI
namespace kr
open PySem L2 KG EX KM MI
section
variable {P:Program}{w:World}{K:Θ1}{mg:Θ3}{base:Heap}
theorem Pj:ao ι ["barter","prices","dealing"] (aS (top 53)):=L2.c6
theorem G0 {f fM fS Pr:Addr}{fd dM dS:FuncData}(F:cy K "lets_by" "lets_by" (top 53) f fd)(N:Nm mg)(Tr:mg "NoPrices"=some (.ref Pr))(tyP:PySem.W.typeIn K (.ref Pr)=some (.type "type"))(bP:PySem.W.mroIn K Pr (.type "BaseException")=some true)(mP:PySem.W.mroIn K Pr (.ref Pr)=some true)(Ma:ik K mg P w base "market_at" 6 ["barter","prices"] (cZ K (qj Pr)) fM dM)(Sh:bo K mg P w base "shows" 7 ["market","prices","dealing"] (cZ K FK) fS dS):aJ P w K mg base cH 8 f fd ["barter","prices","dealing"] (cZ K (uj Pr)) :=
 mQ F Pj (λO xs P PX h=>by obtain⟨_,_,_,_,_,_,rfl,_⟩:=h;rfl) (λbf A outer s H E QX hr=>⟨IG Pr,(bR (Hb Ma.ok iN (hr.mono (by decide)) rfl Ma.mg Ma.kp Ma.bd rfl Tr tyP bP mP rfl rfl Pj.nd rfl rfl (λE'=>(ap (mv 0) (ap (mv 1) aA)))) (cM (fc (cK Sh iN hr (ap (mv 3) (ap (mv 1) (ap (mv 2) aA))))))),λO xs Pq h=>Gs Pr O xs Pq QX h⟩)
end
end kr
namespace kr
open PySem L2 KG EX KM
section
variable {P:Program}{w:World}{K:Θ1}{mg:Θ3}{base:Heap}
end
section
variable {P:Program}{w:World}{K:Θ1}{mg:Θ3}{base:Heap}
theorem xC:ao ["some","found","one"] ["some"] (aS (top 67)):=L2.c6
theorem LZ {f fA:Addr}{fd dA:FuncData}(F:cy K "_law_sum" "_law_sum" (top 67) f fd)(A:bo K mg P w base "_law_add" 2 ["one","other"] (yR Nu) fA dA):aJ P w K mg base cH 3 f fd ["some"] xz:=by
 refine F.ok xC (λvs H Q E h=>?_) (λbf A' outer s H vs Q E hr h=>?_)
 .obtain⟨l,ys,qs,rfl,_⟩:=h;rfl
 .obtain⟨l,ys,qs,rfl,hl,hf,hb,hn,k⟩:=h;refine⟨_,dz (lm (i:=1) xC.nd rfl (Or.inl rfl) (gv (aQ bF (aQ bF bK))))
   (dz (oA PassesOwn.never rfl (Fy (pv 0)) (eH (i:=2) xC.nd rfl (Or.inl rfl)) (cT (lm (i:=1) xC.nd rfl (Or.inl rfl) (jV A.ok hr rfl A.mg A.kp A.bd .nil cw (aQ (pv 1) (aQ (pv 2) bK))))))
   (cT (eG (pv 1)))),?_⟩
  refine⟨by show 2<=sizeLine;decide,λp0 Oj=>?_⟩;have s0:=(ai.refl H).new (o:=.tup [.int 0,.int 1]) Oj;refine⟨_,rfl,l,rfl,⟨ys,bA.of (s0 _ _ hl)⟩,?_⟩;refine oV (xs:=ys) (λi σ H'=>(∃r y2,σ=[some (.ref l),some (.ref r),y2]/\H' r=some (qO (ck (qs.take i))))/\ai H H') ⟨⟨p0,_,rfl,cL⟩,s0⟩ (λj σ H' _ q=>bA.of (q.2 _ _ hl)) ?_ ?_
  .rintro i y σ H1 hy ⟨⟨r,y2,rfl,E8⟩,s1⟩;obtain⟨a,rfl,ha⟩:=(hf.ay s1).2 i y hy;have hi:i<qs.length:=by have:=(Zd.mp hy).1;rw[hf.1] at this;exact this
   have eq:qs[i]?=some (qs.getD i 0):=by simp[List.getD,Zc hi]
   have b1:Rb 3000 (ck (qs.take i)):=(r9 hb i).mono (by omega);have b2:Rb 3000 (qs.getD i 0):=(hb _ (Yc eq)).mono (by decide);refine⟨_,rfl,_,rfl,r,a,_,_,rfl,E8,ha,b1,b2,λr2 tE=>?_⟩;exact⟨⟨r2,_,rfl,by rw[HI eq,jB];exact cL⟩,s1.new tE⟩
  .rintro σ H1 ⟨⟨r,y2,rfl,E8⟩,s1⟩;rw[List.take_of_length_le (by rw[hf.1];exact Ze _)] at E8;exact⟨_,rfl,k r H1 s1 E8⟩
end
end kr
namespace kr
open PySem L2 KG EX KM MI
section
variable {P:Program}{w:World}{K:Θ1}{mg:Θ3}{base:Heap}
theorem jZ:ao ER ["bag"] (aS (top 77)):=L2.c6
theorem DU {f fT:Addr}{fd dT:FuncData}(F:cy K "_law_dealt" "_law_dealt" (top 77) f fd)(N:Nm mg)(T:bo K mg P w base "_law_take" 1 ["bag","many"] j1 fT dT):aJ P w K mg base cH 2 f fd ["bag"] (cZ K rS) :=
 mQ F jZ (λO xs P PX h=>by obtain⟨⟨j,rfl⟩,_⟩:=h;rfl) (λbf A outer s H E QX hr=>⟨CS,(bR (i9 (i:=1) jZ.nd rfl (Or.inr rfl) (pw bI (cK T pH hr (ap (mv 0) (ap bI aA)))))
 (bR (iz (i:=2) jZ.nd (pw bI (cK T pH hr (ap (mv 0) (ap bI aA)))))
 (bR (i9 (i:=3) jZ.nd rfl (Or.inr rfl) (iL (own:=["good"]) (cap:=["bag"]) (ix:=[0]) (az.of (aS (top 77)).names ER) rfl (qY rfl N.range (ap (mv 1) aA)) (iM (by decide))
 (λC fp s H=>⟨(c8 (i:=0) (Ψ9 ["good","bag"])),iE,(pw bI (cK T pH hr (ap (mv 1) (ap (bQ (qW (ap bI (ap bI aA))) (cK T pH hr (ap (mv 1) (ap bI aA)))) aA))))⟩)))
 (bR (iz (i:=4) jZ.nd (lR aA))
 (bR (i9 (i:=5) jZ.nd rfl (Or.inr rfl) (lR aA))
 (bR (yU PassesOwn.never rfl (qY rfl N.range (ap (mv 2) aA)) (c8 (i:=6) jZ.nd) (bR (i9 (i:=7) jZ.nd rfl (Or.inr rfl) (uD (own:=["top"]) (cap:=["bag"]) (ix:=[0]) (az.of (aS (top 77)).names ER) rfl (km (mv 3)) (iM (by decide))
 (λC fp s H=>⟨(c8 (i:=0) (Ψ9 ["top","bag"])),iE,(fe (qM rfl) yp (by rfl) N.max boot_max (ap bI (ap (lQ (mv 0) (ja (cK T pH hr (ap (mv 1) (ap bI aA))) (pw bI (cK T pH hr (ap (mv 1) (ap (mv 0) aA)))))) aA)))⟩)))
 (bR (iz (i:=8) jZ.nd (cK T pH hr (ap (mv 0) (ap (mv 1) aA))))
 (bR (yT (bQ (mv 3) (mv 8)) (jb (mv 7) (mv 8)))
 (bR (EB (jc (mv 4) (ap (mv 7) aA)))
 (bR (EB (jc (mv 5) (ap (uD (own:=["good"]) (cap:=["bag","row","tops"]) (ix:=[0,7,3]) (az.of (aS (top 77)).names ER) rfl (qY rfl N.range (ap (mv 1) aA)) (iM (by decide))
 (λC fp s H=>⟨(c8 (i:=0) (Ψ9 ["good","bag","row","tops"])),iE,(ja (cK T pH hr (ap (mv 1) (ap bI aA))) (p9 jJ yq (by rfl) N.int boot_int (ap (ee (gg hr.units) gi (bQ (mv 2) (mv 0)) (bQ (mv 3) (mv 0)) (au _)) aA)))⟩)) aA)))
 (cM (yT (pw bI (cK T pH hr (ap (mv 0) (ap bI aA)))) (jb (bQ (mv 5) (CJ bI)) (mv 8))))))))))
 (bR (yU PassesOwn.never rfl (qY rfl N.range (ap (mv 1) aA)) (c8 (i:=9) jZ.nd) (bR (iz (i:=6) jZ.nd (cK T pH hr (ap (mv 0) (ap (mv 2) aA))))
 (bR (yT (bQ (mv 3) (mv 9)) (jb (bQ (mv 4) (mv 6)) (mv 9)))
 (cM (yT (fe (qM rfl) yp (by rfl) N.max boot_max (ap bI (ap (bQ (bQ (mv 5) (mv 6)) (mv 9)) aA))) (jb (bQ (mv 5) (mv 6)) (mv 9)))))))
 (nj 4 (nj 5 (bR (iz (i:=10) jZ.nd (p9 dv vp (by rfl) N.tuple mR (ap (iL (own:=["top"]) (cap:=[]) (ix:=[]) (az.of (aS (top 77)).names ER) rfl (km (mv 3)) (iM (by decide))
 (λC fp s H=>⟨(c8 (i:=0) (Ψ9 ["top"])),iE,(nC (ap (mv 0) (ap bI aA)))⟩)) aA)))
 (bR (iz (i:=11) jZ.nd (p9 dv vp (by rfl) N.tuple mR (ap (iL (own:=["good"]) (cap:=["dealing"]) (ix:=[5]) (az.of (aS (top 77)).names ER) rfl (qY rfl N.range (ap (mv 1) aA)) (iM (by decide))
 (λC fp s H=>⟨(yV (eH (i:=0) (Ψ9 ["good","dealing"]) rfl (Or.inr rfl))),iE,(fe (uk rfl) oE (by rfl) N.sum boot_sum (ap (iL (own:=["row"]) (cap:=["good"]) (ix:=[0]) (az.of [(".0",.local),("good",.cell),("sum",.globalImplicit),("dealing",.cell)] ["good","dealing"]) rfl (km (mv 1)) (iM (by decide))
 (λC fp s H=>⟨(c8 (i:=0) (Ψ9 ["row","good"])),iE,(bQ (mv 0) (mv 1))⟩)) aA))⟩)) aA)))
 (bR (iz (i:=12) jZ.nd (p9 dv vp (by rfl) N.tuple mR (ap (iL (own:=["row"]) (cap:=["goods","tops"]) (ix:=[1,3]) (az.of (aS (top 77)).names ER) rfl (km (mv 5)) (iM (by decide))
 (λC fp s H=>⟨(yV (eH (i:=0) (Ψ9 ["row","goods","tops"]) rfl (Or.inr rfl))),iE,(nC (ap (fe (uk rfl) oE (by rfl) N.sum boot_sum (ap (iL (own:=["good"]) (cap:=["row","tops"]) (ix:=[0,2]) (az.of [(".0",.local),("row",.cell),("sum",.globalImplicit),("range",.globalImplicit),("goods",.cell),("tops",.cell)] ["row","goods","tops"]) rfl (qY rfl N.range (ap (mv 1) aA)) (iM (by decide))
 (λC fp s H=>⟨(c8 (i:=0) (Ψ9 ["good","row","tops"])),iE,(ja (bQ (mv 1) (mv 0)) (bQ (mv 2) (mv 0)))⟩)) aA)) (ap bI aA)))⟩)) aA)))
 (bR (iz (i:=13) jZ.nd (p9 dv vp (by rfl) N.tuple mR (ap (iL (own:=["row"]) (cap:=[]) (ix:=[]) (az.of (aS (top 77)).names ER) rfl (km (mv 5)) (iM (by decide))
 (λC fp s H=>⟨(c8 (i:=0) (Ψ9 ["row"])),iE,(p9 dv vp (by rfl) N.tuple mR (ap (iL (own:=["much"]) (cap:=[]) (ix:=[]) (az.of [(".0",.local),("row",.local),("tuple",.globalImplicit)] ["row"]) rfl (km (mv 0)) (iM (by decide))
 (λC fp s H=>⟨(c8 (i:=0) (Ψ9 ["much"])),iE,(nC (ap (mv 0) (ap bI aA)))⟩)) aA))⟩)) aA)))
 (cM (fc (qW (ap (nC (ap (mv 11) (ap (mv 12) (ap (p9 dv vp (by rfl) N.tuple mR (ap (iL (own:=["row"]) (cap:=[]) (ix:=[]) (az.of (aS (top 77)).names ER) rfl (km (mv 4)) (iM (by decide))
 (λC fp s H=>⟨(c8 (i:=0) (Ψ9 ["row"])),iE,(p9 dv vp (by rfl) N.tuple mR (ap (mv 0) aA))⟩)) aA)) aA)))) (ap (mv 10) (ap (mv 13) aA))))))))))))))))))),λO xs Pq h=>Dq O xs Pq QX h⟩)
end
section
variable {P:Program}{w:World}{K:Θ1}{mg:Θ3}{base:Heap}
theorem MN:qd K BA QE:=λw O H vs xs P PX Q E r a hf q x=>by
 obtain⟨a1,b1,rfl,h0,hf⟩:=hf;obtain⟨v,v2,rfl,h1,h3⟩:=Br a;obtain⟨p1,rfl,g1⟩:=Sm h1;obtain⟨p2,rfl,g2⟩:=Sm h3;refine⟨p1,p2,a1,b1,rfl,g1,g2,h0.1,h0.2.1,h0.2.2,λp hp=>?_⟩;obtain⟨r1,e1,t1⟩:=Iy r hp;exact q _ _ O w _ hf e1 r1 t1
theorem tR:ao NK ["bag","market","prices","dealing"] (aS (top 76)):=L2.c6
theorem Md {f fT fD:Addr}{fd dT dD:FuncData}(F:cy K "_law_known_barter" "_law_known_barter" (top 76) f fd)(N:Nm mg)(T:bo K mg P w base "_law_take" 1 ["bag","many"] j1 fT dT)(Dv:bo K mg P w base "_law_div" 2 ["one","other"] BA fD dD):aJ P w K mg base cH 3 f fd ["bag","market","prices","dealing"] (cZ K FP) :=
 mQ F tR (λO xs P PX h=>by obtain⟨_,_,_,_,_,_,_,rfl,_⟩:=h;rfl) (λbf A outer s H E QX hr=>⟨Kw,(bR (i9 (i:=4) tR.nd rfl (Or.inr rfl) (iL (own:=["row"]) (cap:=[]) (ix:=[]) (az.of (aS (top 76)).names NK) rfl (km (mv 3)) (iM (by decide))
 (λC fp s H=>⟨(c8 (i:=0) (Ψ9 ["row"])),iE,(iL (own:=["much"]) (cap:=[]) (ix:=[]) (az.of [(".0",.local),("row",.local)] ["row"]) rfl (km (mv 0)) (iM (by decide))
 (λC fp s H=>⟨(c8 (i:=0) (Ψ9 ["much"])),iE,(MC (bQ (mv 0) bI) (bQ (mv 0) bI))⟩))⟩)))
 (bR (yl (i:=5) tR.nd rfl rfl (own:=["good"]) (cap:=["brought","market"]) (ix:=[4,1]) (az.of (aS (top 76)).names NK) rfl (qY rfl N.range (ap (fe aV kl (by rfl) N.len PySem.boot_len (ap (mv 2) aA)) aA)) (iM (by decide))
 (λC fp s H=>⟨(yV (eH (i:=0) (Ψ9 ["good","brought","market"]) rfl (Or.inr rfl))),iE,(lQ (bQ (bQ (mv 2) bI) (mv 0)) (fe (uk rfl) oE (by rfl) N.sum boot_sum (ap (iL (own:=["row"]) (cap:=["good"]) (ix:=[0]) (az.of [(".0",.local),("good",.cell),("sum",.globalImplicit),("brought",.cell),("market",.cell)] ["good","brought","market"]) rfl (km (mv 1)) (iM (by decide))
 (λC fp s H=>⟨(c8 (i:=0) (Ψ9 ["row","good"])),iE,(bQ (mv 0) (mv 1))⟩)) aA)))⟩))
 (bR (lw (jU (gK hr.units) gO (mv 5) (Mz (qW (ap bI aA)) (fe aV kl (by rfl) N.len PySem.boot_len (ap (mv 2) aA))) (au _)) (cM (fc oD)) lx)
 (bR (DX (i:=6) tR.nd rfl rfl (own:=["row"]) (cap:=[]) (ix:=[]) (az.of (aS (top 76)).names NK) rfl (km (mv 4)) (iM (by decide))
 (λC fp s H=>⟨(c8 (i:=0) (Ψ9 ["row"])),iE,(p9 Je Hl (by rfl) N.list boot_list (ap (mv 0) aA))⟩))
 (bR (yU PassesOwn.never rfl (qY rfl N.range (ap (cK T pH hr (ap (mv 0) (ap bI aA))) aA)) (c8 (i:=7) tR.nd) (bR (CH (i:=8) (j:=9) rfl tR.nd rfl rfl (by decide) rfl rfl (ap (cK T pH hr (ap (mv 0) (ap (fe aV kl (by rfl) N.len PySem.boot_len (ap (mv 6) aA)) aA))) (ap (cK T pH hr (ap (mv 0) (ap (fe aV kl (by rfl) N.len PySem.boot_len (ap (mv 6) aA)) aA))) aA)) rfl)
 (bR (CH (i:=10) (j:=11) rfl tR.nd rfl rfl (by decide) rfl rfl (ap (cK T pH hr (ap (mv 0) (ap (fe aV kl (by rfl) N.len PySem.boot_len (ap (mv 2) aA)) aA))) (ap (cK T pH hr (ap (mv 0) (ap (fe aV kl (by rfl) N.len PySem.boot_len (ap (mv 2) aA)) aA))) aA)) rfl)
 (bR (iz (i:=12) tR.nd (cK Dv MN hr (ap (bQ (mv 2) (mv 10)) (ap (bQ (mv 2) (mv 11)) aA))))
 (cM (lw (PW.pt (rL (jU (gK hr.units) gO (mv 8) (mv 9) (au _)) (rL (jU xG BX (bQ (bQ (mv 6) (mv 8)) (mv 10)) (bQ (mv 12) bI) (au _)) (sA (jU xG BX (bQ (bQ (mv 6) (mv 9)) (mv 11)) (bQ (mv 12) bI) (au _)))))) (bR (yT (lQ (bQ (bQ (mv 6) (mv 8)) (mv 10)) (bQ (mv 12) bI)) (jb (bQ (mv 6) (mv 8)) (mv 10)))
 (bR (yT (pw (bQ (bQ (mv 6) (mv 9)) (mv 10)) (bQ (mv 12) bI)) (jb (bQ (mv 6) (mv 9)) (mv 10)))
 (bR (yT (lQ (bQ (bQ (mv 6) (mv 9)) (mv 11)) (bQ (mv 12) bI)) (jb (bQ (mv 6) (mv 9)) (mv 11)))
 (cM (yT (pw (bQ (bQ (mv 6) (mv 8)) (mv 11)) (bQ (mv 12) bI)) (jb (bQ (mv 6) (mv 8)) (mv 11))))))) lx))))))
 (nj 6 (cM (fc (nC (ap (p9 dv vp (by rfl) N.tuple mR (ap (iL (own:=["row"]) (cap:=[]) (ix:=[]) (az.of (aS (top 76)).names NK) rfl (km (mv 6)) (iM (by decide))
 (λC fp s H=>⟨(c8 (i:=0) (Ψ9 ["row"])),iE,(p9 dv vp (by rfl) N.tuple mR (ap (mv 0) aA))⟩)) aA)) (ap (bQ (mv 1) bI) aA))))))))))),λO xs Pq h=>Ly O xs Pq QX h⟩)
theorem vO:ao SA ["barter","prices"] (aS (top 78)):=L2.c6
theorem GY {f fM fS:Addr}{fd dM dS:FuncData}(F:cy K "_law_market_of" "_law_market_of" (top 78) f fd)(N:Nm mg)(Mu:bo K mg P w base "_law_mul" 2 ["one","other"] (yR pG) fM dM)(Su:bo K mg P w base "_law_sum" 3 ["some"] xz fS dS):aJ P w K mg base cH 4 f fd ["barter","prices"] (cZ K qi) :=
 mQ F vO (λO xs P PX h=>by obtain⟨_,_,_,_,_,rfl,_⟩:=h;rfl) (λbf A outer s H E QX hr=>⟨ID,(bR (yT (mv 0) (gA rfl (pz (yV (eH (i:=2) vO.nd rfl (Or.inr rfl))) (pz (c8 (i:=3) vO.nd) Ey))))
 (bR (iz (i:=4) vO.nd (p9 dv vp (by rfl) N.tuple mR (ap (iL (own:=["good"]) (cap:=["brought"]) (ix:=[2]) (az.of (aS (top 78)).names SA) rfl (qY rfl N.range (ap (fe aV kl (by rfl) N.len PySem.boot_len (ap (mv 1) aA)) aA)) (iM (by decide))
 (λC fp s H=>⟨(yV (eH (i:=0) (Ψ9 ["good","brought"]) rfl (Or.inr rfl))),iE,(fe (uk rfl) oE (by rfl) N.sum boot_sum (ap (iL (own:=["row"]) (cap:=["good"]) (ix:=[0]) (az.of [(".0",.local),("good",.cell),("sum",.globalImplicit),("brought",.cell)] ["good","brought"]) rfl (km (mv 1)) (iM (by decide))
 (λC fp s H=>⟨(c8 (i:=0) (Ψ9 ["row","good"])),iE,(bQ (mv 0) (mv 1))⟩)) aA))⟩)) aA)))
 (bR (iz (i:=5) vO.nd (lR aA))
 (bR (yU PassesOwn.never rfl (km (mv 2)) (yV (eH (i:=6) vO.nd rfl (Or.inr rfl))) (bR (yl (i:=7) vO.nd rfl rfl (own:=["good"]) (cap:=["prices","row"]) (ix:=[1,6]) (az.of (aS (top 78)).names SA) rfl (qY rfl N.range (ap (fe aV kl (by rfl) N.len PySem.boot_len (ap (mv 1) aA)) aA)) (iM (by decide))
 (λC fp s H=>⟨(c8 (i:=0) (Ψ9 ["good","prices","row"])),iE,(cK Mu vR hr (ap (bQ (mv 1) (mv 0)) (ap (nC (ap (bQ (mv 2) (mv 0)) (ap bI aA))) aA)))⟩))
 (cM (EB (jc (mv 5) (ap (cK Su yo hr (ap (mv 7) aA)) aA))))))
 (CI 5 (cM (fc (nC (ap (mv 4) (ap (p9 dv vp (by rfl) N.tuple mR (ap (mv 5) aA)) (ap (mv 3) aA))))))))))),λO xs Pq h=>Gp O xs Pq QX h⟩)
end
section
variable {P:Program}{w:World}{K:Θ1}{mg:Θ3}{base:Heap}
theorem WH:ao V4 ["barter","thing"] (aS (top 79)):=L2.c6
theorem Mp {f fI:Addr}{fd dI:FuncData}(F:cy K "_law_are_prices" "_law_are_prices" (top 79) f fd)(N:Nm mg)(Z:rd K)(I:bo K mg P w base "_law_is_fraction" 2 ["thing"] (Fk aO) fI dI):aJ P w K mg base cH 3 f fd ["barter","thing"] (cZ K zy) :=
 mQ F WH (λO xs P PX h=>by obtain⟨_,_,_,rfl,_⟩:=h;rfl) (λbf A outer s H E QX hr=>⟨PQ,(bR (lw (PW.pt (gN (tG (tq (Jk Z (mv 1) rfl N.isinstance rfl N.tuple))) (fJ (jU (gK hr.units) gO (fe aV kl (by rfl) N.len PySem.boot_len (ap (mv 1) aA)) (fe aV kl (by rfl) N.len PySem.boot_len (ap (bQ (bQ (mv 0) bI) bI) aA)) (au _))))) (cM (fc pr)) lx)
 (cM (fc (ee (gg hr.units) gi (iL (own:=["one"]) (cap:=[]) (ix:=[]) (az.of (aS (top 79)).names V4) rfl (km (mv 1)) (iM (by decide))
 (λC fp s H=>⟨(c8 (i:=0) (Ψ9 ["one"])),(rM (PW.pt (gN (tG (tq (cK I IN hr (ap (mv 0) aA)))) (fJ (jU n9 Ry (bQ (mv 0) bI) bI (au _)))))),(mv 0)⟩)) (qW aA) (au _))))),λO xs Pq h=>LD O xs Pq QX h⟩)
theorem Pk:ao VZ ["market","thing"] (aS (top 70)):=L2.c6
theorem G2 {f fI:Addr}{fd dI:FuncData}(F:cy K "_law_is_dealing" "_law_is_dealing" (top 70) f fd)(N:Nm mg)(Z:rd K)(I:bo K mg P w base "_law_is_fraction" 2 ["thing"] (Fk aO) fI dI):aJ P w K mg base cH 3 f fd ["market","thing"] (cZ K xP) :=
 mQ F Pk (λO xs P PX h=>by obtain⟨_,_,_,_,rfl,_⟩:=h;rfl) (λbf A outer s H E QX hr=>⟨IH,(bR (lw (PW.pt (gN (tG (tq (Jk Z (mv 1) rfl N.isinstance rfl N.tuple))) (fJ (jU (gK hr.units) gO (fe aV kl (by rfl) N.len PySem.boot_len (ap (mv 1) aA)) (fe aV kl (by rfl) N.len PySem.boot_len (ap (bQ (mv 0) bI) aA)) (au _))))) (cM (fc pr)) lx)
 (bR (yU PassesOwn.never rfl (km (mv 1)) (c8 (i:=2) Pk.nd) (bR (lw (PW.pt (gN (tG (tq (Jk Z (mv 2) rfl N.isinstance rfl N.tuple))) (fJ (jU (gK hr.units) gO (fe aV kl (by rfl) N.len PySem.boot_len (ap (mv 2) aA)) (fe aV kl (by rfl) N.len PySem.boot_len (ap (bQ (mv 0) bI) aA)) (au _))))) (cM (fc pr)) lx)
 (cM (lw (jU (gK hr.units) gO (iL (own:=["one"]) (cap:=[]) (ix:=[]) (az.of (aS (top 70)).names VZ) rfl (km (mv 2)) (iM (by decide))
 (λC fp s H=>⟨(c8 (i:=0) (Ψ9 ["one"])),(rM (PW.pt (gN (tG (tq (cK I IN hr (ap (mv 0) aA)))) (fJ (jU kE IM (bQ (mv 0) bI) bI (au _)))))),(mv 0)⟩)) (qW aA) (au _)) (cM (fc pr)) lx))))
 (cM (fc pr)))),λO xs Pq h=>Gu O xs Pq QX h⟩)
theorem Ww:ao VT ["market"] (aS (top 71)):=L2.c6
theorem LX {f:Addr}{fd:FuncData}(F:cy K "_law_wished" "_law_wished" (top 71) f fd)(N:Nm mg):aJ P w K mg base cH 1 f fd ["market"] (cZ K FJ) :=
 mQ F Ww (λO xs P PX h=>by obtain⟨_,_,_,rfl,_⟩:=h;rfl) (λbf A outer s H E QX hr=>⟨Pz,(cM (fc (iL (own:=["good"]) (cap:=["market"]) (ix:=[0]) (az.of (aS (top 71)).names VT) rfl (qY rfl N.range (ap (fe aV kl (by rfl) N.len PySem.boot_len (ap (bQ (mv 0) bI) aA)) aA)) (iM (by decide))
 (λC fp s H=>⟨(yV (eH (i:=0) (Ψ9 ["good","market"]) rfl (Or.inr rfl))),(rM (jU iV xK (fe (RL rfl) MK (by rfl) N.max boot_max (ap (iL (own:=["row"]) (cap:=["good"]) (ix:=[0]) (az.of [(".0",.local),("good",.cell),("max",.globalImplicit),("market",.cell)] ["good","market"]) rfl (km (bQ (mv 1) bI)) (iM (by decide))
 (λC fp s H=>⟨(c8 (i:=0) (Ψ9 ["row","good"])),iE,(bQ (mv 0) (mv 1))⟩)) aA)) bI (au _))),(mv 0)⟩)))),λO xs Pq h=>Lp O xs Pq QX h⟩)
theorem nH:ao ξ ["market","prices"] (aS (top 69)):=L2.c6
theorem Mm {f:Addr}{fd:FuncData}(F:cy K "_law_best" "_law_best" (top 69) f fd)(N:Nm mg):aJ P w K mg base cH 1 f fd ["market","prices"] (cZ K FS) :=
 mQ F nH (λO xs P PX h=>by obtain⟨_,_,_,_,rfl,_⟩:=h;rfl) (λbf A outer s H E QX hr=>⟨PP,(bR (iz (i:=2) nH.nd (lR aA))
 (bR (yU PassesOwn.never rfl (km (bQ (mv 0) bI)) (c8 (i:=3) nH.nd) (bR (iz (i:=4) nH.nd (lR aA))
 (bR (yU PassesOwn.never rfl (qY rfl N.range (ap (fe aV kl (by rfl) N.len PySem.boot_len (ap (mv 3) aA)) aA)) (c8 (i:=5) nH.nd) (bR (yT (bQ (mv 1) (mv 5)) (gA rfl (pz (c8 (i:=6) nH.nd) (pz (c8 (i:=7) nH.nd) Ey))))
 (bR (iz (i:=8) nH.nd (ee (gg hr.units) gi (bQ (mv 3) (mv 5)) bI (au _)))
 (bR (yU PassesOwn.never rfl (qY rfl N.range (ap (fe aV kl (by rfl) N.len PySem.boot_len (ap (mv 3) aA)) aA)) (c8 (i:=9) nH.nd) (bR (iz (i:=10) nH.nd (ja (ja (bQ (mv 3) (mv 9)) (mv 6)) (bQ (bQ (mv 1) (mv 9)) bI)))
 (cM (lw (PW.pt (rL (jU iV xK (bQ (mv 3) (mv 9)) bI (au _)) (sA (jU kE IM (ja (ja (bQ (mv 3) (mv 5)) (bQ (bQ (mv 1) (mv 9)) bI)) (mv 7)) (mv 10) (au _))))) (cM (iz (i:=8) nH.nd pr)) lx))))
 (cM (lw (tG (Mx (mv 8))) (cM (EB (jc (mv 4) (ap (mv 5) aA)))) lx))))))
 (cM (EB (jc (mv 2) (ap (mv 4) aA)))))))
 (nj 2 (cM (fc (mv 2)))))),λO xs Pq h=>LC O xs Pq QX h⟩)
theorem rj:ao VV ["market","prices","dealing"] (aS (top 72)):=L2.c6
theorem L6 {f fB fS fW fA fM:Addr}{fd dB dS dW dA dM:FuncData}(F:cy K "_law_shows" "_law_shows" (top 72) f fd)(N:Nm mg)(Be:bo K mg P w base "_law_best" 1 ["market","prices"] (cZ K FS) fB dB)(Su:bo K mg P w base "_law_sum" 3 ["some"] xz fS dS)(Wi:bo K mg P w base "_law_wished" 1 ["market"] (cZ K FJ) fW dW)(Ad:bo K mg P w base "_law_add" 2 ["one","other"] (yR Nu) fA dA)(Mu:bo K mg P w base "_law_mul" 2 ["one","other"] (yR pG) fM dM):aJ P w K mg base cH 4 f fd ["market","prices","dealing"] (cZ K FL) :=
 mQ F rj (λO xs P PX h=>by obtain⟨_,_,_,_,_,_,_,rfl,_⟩:=h;rfl) (λbf A outer s H E QX hr=>⟨PD,(bR (iz (i:=3) rj.nd (cK Be iN hr (ap (mv 0) (ap (mv 1) aA))))
 (bR (yU PassesOwn.never rfl (qY rfl N.range (ap (fe aV kl (by rfl) N.len PySem.boot_len (ap (mv 1) aA)) aA)) (yV (eH (i:=4) rj.nd rfl (Or.inr rfl))) (bR (iz (i:=5) rj.nd (cK Su yo hr (ap (iL (own:=["row"]) (cap:=["good"]) (ix:=[4]) (az.of (aS (top 72)).names VV) rfl (km (mv 2)) (iM (by decide))
 (λC fp s H=>⟨(c8 (i:=0) (Ψ9 ["row","good"])),iE,(bQ (mv 0) (mv 1))⟩)) aA)))
 (cM (lw (jU (gK hr.units) gO (mv 5) (nC (ap (ja (bQ (bQ (mv 0) bI) (mv 4)) (p9 jJ yq (by rfl) N.int boot_int (ap (ee xI (xJ false) (mv 4) (cK Wi iN hr (ap (mv 0) aA)) (by rfl)) aA))) (ap bI aA))) (au _)) (cM (fc pr)) lx))))
 (bR (yU PassesOwn.never rfl (qY rfl N.range (ap (fe aV kl (by rfl) N.len PySem.boot_len (ap (mv 3) aA)) aA)) (c8 (i:=6) rj.nd) (bR (iz (i:=7) rj.nd (bQ (mv 2) (mv 6)))
 (bR (iz (i:=8) rj.nd (nC (ap bI (ap bI aA))))
 (bR (yU PassesOwn.never rfl (qY rfl N.range (ap (fe aV kl (by rfl) N.len PySem.boot_len (ap (mv 7) aA)) aA)) (yV (eH (i:=4) rj.nd rfl (Or.inr rfl))) (bR (lw (PW.pt (rL (jU (gK hr.units) gO (bQ (bQ (mv 7) (mv 4)) bI) bI (au _)) (sA (jU CF (xJ true) (mv 4) (bQ (mv 3) (mv 6)) (by rfl))))) (cM (fc pr)) lx)
 (cM (iz (i:=8) rj.nd (cK Ad vR hr (ap (mv 8) (ap (cK Mu vR hr (ap (bQ (mv 1) (mv 4)) (ap (bQ (mv 7) (mv 4)) aA))) aA)))))))
 (cM (lw (jU (gK hr.units) gO (mv 8) (bQ (bQ (mv 0) bI) (mv 6)) (au _)) (cM (fc pr)) lx))))))
 (cM (fc pr))))),λO xs Pq h=>Lr O xs Pq QX h⟩)
theorem Pm:ao ν ["barter","prices","dealing"] (aS (top 80)):=L2.c6
theorem Mj {f fA fM fI fS:Addr}{fd dA dM dI dS:FuncData}(F:cy K "_law_due" "_law_due" (top 80) f fd)(N:Nm mg)(Ap:bo K mg P w base "_law_are_prices" 3 ["barter","thing"] (cZ K zy) fA dA)(Mf:bo K mg P w base "_law_market_of" 4 ["barter","prices"] (cZ K qi) fM dM)(Id:bo K mg P w base "_law_is_dealing" 3 ["market","thing"] (cZ K xP) fI dI)(Sh:bo K mg P w base "_law_shows" 4 ["market","prices","dealing"] (cZ K FL) fS dS):aJ P w K mg base cH 5 f fd ["barter","prices","dealing"] (cZ K FQ) :=
 mQ F Pm (λO xs P PX h=>by obtain⟨_,_,_,_,_,_,rfl,_⟩:=h;rfl) (λbf A outer s H E QX hr=>⟨PM,(bR (lw (tG (tq (cK Ap iN hr (ap (mv 0) (ap (mv 1) aA))))) (cM (fc pr)) lx)
 (bR (iz (i:=3) Pm.nd (cK Mf iN hr (ap (mv 0) (ap (mv 1) aA))))
 (cM (fc (rN (cK Id iN hr (ap (mv 3) (ap (mv 2) aA))) (wk (cK Sh iN hr (ap (mv 3) (ap (mv 1) (ap (mv 2) aA)))))))))),λO xs Pq h=>Lz O xs Pq QX h⟩)
end
end kr
namespace kr
open PySem L2 KG EX KM
section
variable {P:Program}{w:World}{K:Θ1}{mg:Θ3}{base:Heap}
theorem jx:ao ["e","some","words"] ["e"] (aS (top 75)):=L2.c6
theorem DP {f M De Bu Dl Go Mk Nn Pr Ro Tx No Un:Addr}{fd:FuncData}(F:cy K "_law_kinds" "_law_kinds" (top 75) f fd)(N:Nm mg)(C:Wb K mg M De Bu Dl Go Mk Nn Pr Ro Tx No Un):JP P w K mg base 1 f fd ["e"] (sf K M De Bu Dl Go Mk Nn Pr Ro Tx No Un):=by
 refine F.okH jx (λea D vs H Q E h=>?_) (λbf A outer s H vs Q E ea D t hd hr h=>?_)
 .obtain⟨_,_,_,rfl,_⟩:=h;rfl
 .obtain⟨ci,ZQ,R,rfl,k⟩:=h;have hp:(ea,dZ D t hd)∈(OR P w K mg base ["e","some","words"] "_law_kinds" (aS (top 75)) f bf A outer s H ea D t hd).pn:=Zo;have qt:Qt (OR P w K mg base ["e","some","words"] "_law_kinds" (aS (top 75)) f bf A outer s H ea D t hd):=.inr ⟨ea,D,t,hd,hr.hd,hp⟩;refine⟨_,dz (lm (i:=1) jx.nd rfl (Or.inr rfl) (gx (aQ (AX R.ek hp (pv 0) rfl N.isinstance rfl C.Ko nE) (aQ (AX R.ek hp (pv 0) rfl N.isinstance rfl C.Kq nE) (aQ (AX R.ek hp (pv 0) rfl N.isinstance rfl C.Kn nE) (aQ (AX R.ek hp (pv 0) rfl N.isinstance rfl C.Km nE) bK))))))
   (dz (lm (i:=1) jx.nd rfl (Or.inr rfl) (cN rK (pv 1) (gx (aQ (AX R.ek hp (pv 0) rfl N.isinstance rfl C.Kl nE) (aQ (AX R.ek hp (pv 0) rfl N.isinstance rfl C.zo nE) (aQ (AX R.ek hp (pv 0) rfl N.isinstance rfl C.Bj nE) (aQ (AX R.ek hp (pv 0) rfl N.isinstance rfl C.Kj nE) bK)))))))
   (dz (lm (i:=1) jx.nd rfl (Or.inr rfl) (cN rK (pv 1) (gx (aQ (AX R.ek hp (pv 0) rfl N.isinstance rfl C.Kh nE) (aQ (AX R.ek hp (pv 0) rfl N.isinstance rfl C.Kk nE) (aQ (AX R.ek hp (pv 0) rfl N.isinstance rfl C.Kg nE) (aQ (GL R.ek hp (pv 0) rfl N.isinstance rfl N.wB xh nE) bK)))))))
   (dz (lm (i:=2) jx.nd rfl (Or.inr rfl) (CD 3 _ (.list ((cn.take 8).map PyData.str)) (by kernel_rfl)))
   (dz (lm (i:=2) jx.nd rfl (Or.inr rfl) (cN rK (pv 2) (CD 3 _ (.list ((cn.drop 8).map PyData.str)) (by kernel_rfl))))
   (cT (eG (BU PySem.F.plainAttrs_str PySem.F.slot_str_join PySem.F.type_str_join (Ha K) rG (aQ (DD (own:=["k"]) (cap:=["some","words"]) (ix:=[1,2]) (az.of (aS (top 75)).names ["e","some","words"]) qt (wK rfl N.range (aQ bF bK))
    (λC fp s H=>⟨eH (i:=0) (Ψ9 ["k","some","words"]) rfl (Or.inl rfl),fY (tH (cS mF (pv 1) (pv 0) (λ_ _=>rfl))),cS mF (pv 2) (pv 0) (λ_ _=>rfl)⟩)) bK)))))))),?_⟩
  have H0:∃(L1 L2 L3:List V),L1=[.bl (decide (ci=0)),.bl (decide (ci=1)),.bl (decide (ci=2)),.bl (decide (ci=3))]/\L2=[.bl (decide (ci=4)),.bl (decide (ci=5)),.bl (decide (ci=6)),.bl (decide (ci=7))]/\L3=[.bl (decide (ci=8)),.bl (decide (ci=9)),.bl (decide (ci=10)),.bl true]/\L1++L2++L3=(fV ci).map V.bl:=⟨_,_,_,rfl,rfl,rfl,rfl⟩;obtain⟨L1,L2,L3,UZ,UY,L',eL⟩:=H0;refine⟨_,rfl,rfl,_,R.kDe,_,rfl,rfl,_,R.kBu,_,rfl,rfl,_,R.kDl,_,rfl,rfl,_,R.kGo,by show 4<=sizeLine;decide,λp1 h1=>?_⟩;rw[<- UZ];refine⟨_,rfl,_,rfl,rfl,_,R.kMk,_,rfl,rfl,_,R.kNn,_,rfl,rfl,_,R.kPr,_,rfl,rfl,_,R.kRo,by show 4<=sizeLine;decide,λp2 h2=>?_⟩;rw[<- UY];have vo:=(ai.refl (aK H p1 (.lst L1))).new (o:=.lst L2) h2;refine⟨p1,p2,_,_,rfl,rfl,vo _ _ cL,cL,by rw[UZ,UY,sz];show 4+4<=16777216;decide,λp3 h3=>?_⟩;have s3:ai H (aK (aK (aK H p1 (.lst L1)) p2 (.lst L2)) p3 (.lst (L1++L2))):=(((ai.refl H).new h1).new h2).new h3;have e3:(aK (aK (aK H p1 (.lst L1)) p2 (.lst L2)) p3 (.lst (L1++L2))) p3=some (.lst (L1++L2)):=cL;generalize aK (aK (aK H p1 (.lst L1)) p2 (.lst L2)) p3 (.lst (L1++L2))=H3 at s3 e3;refine⟨_,rfl,_,rfl,rfl,_,R.kTx,_,rfl,rfl,_,R.kNo,_,rfl,rfl,_,R.kUn,_,rfl,rfl,_,R.kVa,by show 4<=sizeLine;decide,λp4 h4=>?_⟩;rw[<- L'];refine⟨p3,p4,_,_,rfl,rfl,((ai.refl H3).new h4) _ _ e3,cL,by rw[UZ,UY,L',sz];show 8+4<=16777216;decide,λp5 h5=>?_⟩;rw[eL];have s5:ai H (aK (aK H3 p4 (.lst L3)) p5 (.lst ((fV ci).map V.bl))):=(s3.new h4).new h5;have e5:(aK (aK H3 p4 (.lst L3)) p5 (.lst ((fV ci).map V.bl))) p5=some (.lst ((fV ci).map V.bl)):=cL;generalize aK (aK H3 p4 (.lst L3)) p5 (.lst ((fV ci).map V.bl))=H5 at s5 e5;have YK:H5 p5≠none:=by rw[e5];simp
  intro v6 H6 s6 t6 _;have t6':=t6 p5 YK;cases t6' with
  |@lst q6 xs6 _ n6 e6 l6 =>
  refine⟨_,rfl,?_⟩;intro v7 H7 s7 t7 _;cases t7 p5 (sy s6 YK) with
  |@lst q7 xs7 _ n7 e7 l7 =>
  have z6:=v3 l6;have z7:=v3 l7;subst z6 z7;refine⟨q6,q7,_,_,rfl,rfl,s7 _ _ e6,e7,?_,λp8 h8=>?_⟩
  .rw[Zb,Zb,sz];decide
  have e8:(aK H7 p8 (.lst ((cn.take 8).map V.str++(cn.drop 8).map V.str))) p8=some (.lst (cn.map V.str)):=by
   rw[cL,<- Zs,List.take_append_drop]
  have s8:ai H5 (aK H7 p8 (.lst ((cn.take 8).map V.str++(cn.drop 8).map V.str))):=(s6.trans s7).new h8;generalize aK H7 p8 (.lst ((cn.take 8).map V.str++(cn.drop 8).map V.str))=H8 at e8 s8;have e58:=s8 _ _ e5;refine⟨rfl,12,rfl,by decide,by decide,λacc bu=>?_⟩;refine ke (λi ys H'=>ai H8 H'/\ys=(n8 ci i).map V.str) ⟨(ai.refl H8).acc bu,rfl⟩ ?_ ?_
  .rintro i ys H' hi hy ⟨st,rfl⟩;have xr:i<12:=hi;have ef:((fV ci).map V.bl)[i]?=some (V.bl ((fV ci).getD i false)):=by
    rw[Zg];have hl:i<(fV ci).length:=xr;rw[Zc hl];simp[List.getD,Zc hl]
   have ew:(cn.map V.str)[i]?=some (V.str (cn.getD i "")):=by
    rw[Zg];have hl:i<cn.length:=xr;rw[Zc hl];simp[List.getD,Zc hl]
   have af:=eY ef;have aw:=eY ew;have e0:(0+(i:Int))=((i:Nat):Int):=by omega
   rw[<- e0] at af aw;refine⟨_,rfl,_,rfl,p5,_,_,_,rfl,rfl,bA.of (st _ _ e58),af,_,rfl,?_⟩;cases hf:(fV ci).getD i false with
   |true =>
    refine aU ⟨_,rfl,_,rfl,p8,_,_,_,rfl,rfl,bA.of (st _ _ e8),aw,_,hy,?_,Cn.of cL ⟨st.acc bu,?_⟩⟩
    .rw[Zb,sz];have:=zL ci i;omega
    .rw[oZ,hf,Zs];rfl
   |false =>
    refine bC (Cn.of hy ⟨st,?_⟩);rw[oZ,hf];simp
  .rintro ys H' hy ⟨st,rfl⟩;obtain⟨te,tb⟩:=zM ⟨ci,ZQ⟩;dsimp only at te tb;rw[show(12:Int).toNat=12 from rfl,te] at hy;exact⟨"",acc,[cn.getD ci "","+"],rfl,rfl,bA.of hy,tb,by decide,by show 2<=1000;decide,k _ (s5.trans (s8.trans st))⟩
end
end kr
namespace MI
open PySem L2 KG EX KM
def IC (F:FM)(i j l:Nat)(nm:Addr->Str->Prop)(Ms:MA):MS:=λD sl O=>Ms sl O λxs O1=>F O1 xs (λx O2=>D.nx (sl.set i (some x)) O2) (λc O2=>∃s,nm c s/\D.nx (((sl.set j none).set l (some (.im (.str s)))).set j none) O2)
def Kd (K:Θ1)(M De Bu Dl Go Mk Nn Pr Ro Tx No Un c:Addr)(s:Str):Prop:=∃i,i<11/\xU K M De Bu Dl Go Mk Nn Pr Ro Tx No Un c i/\s=ue i
theorem D6:∀i:Fin 11,(PyData.str (ue i.1)).canLay0=true:=by decide+kernel
theorem Hc {X:Cx}{K:Θ1}{QX:Addr->aM->Prop}{E:XK}{k kk:Nat}{f fK M De Bu Dl Go Mk Nn Pr Ro Tx No Un:Addr}{fd OQ:FuncData}{ps N0:Δ2}{sp:Sp}{F:FM}{x n y fn kf Cl:Str}{i j l:Nat}{e:Expr}{es:Ξ2}{Ms:MA}{px fp bV fk np py kp AU tU vL dE pos:Pos}
  (F':aJ X.prog X.w X.K X.mg X.base (ko X.prog X.w) k f fd ps sp) (lk:qd K sp F) (hr:cz k X.A) (Jv:Gl X fn) (Js:X.mg fn=some (.ref f)) (Ju:PySem.W.keepIn X.K (.ref f)=true) (JB:Binds X.K fd ps [])
  (G:JP X.prog X.w X.K X.mg X.base kk fK OQ N0 (sf X.K M De Bu Dl Go Mk Nn Pr Ro Tx No Un)) (tE:cz kk X.A) (Ul:Gl X kf) (Ub:X.mg kf=some (.ref fK)) (Ot:PySem.W.keepIn X.K (.ref fK)=true) (Sd:Binds X.K OQ N0 [])
  (Jw:Gl X Cl) (Jt:X.mg Cl=some (.ref M)) (EU:PySem.W.typeIn X.K (.ref M)=some (.type "type")) (bM:PySem.W.mroIn X.K M (.type "BaseException")=some true)
  (lz:X.stack=X.env::X.outer) (mU:X.env.frame=some X.env.locals) (hN:X.N.Nodup) (hi:X.N[i]?=some x) (hj:X.N[j]?=some n) (hl:X.N[l]?=some y)
  (kx:X.env.scope.names.lookup x=some .local) (kn:X.env.scope.names.lookup n=some .local) (ky:X.env.scope.names.lookup y=some .local)
  (ha:∀E',PA (X.wish E') (e::es) (mL K QX E Ms))
  (Jp:swapsWith (.Call (.Name fn fp) (e::es) [] bV) (some (.Name x px)) fk.line X.env=pure false:=by rfl)
  (tD:swapsWith (.Call (.Name kf kp) [.Name n AU] [] tU) (some (.Name y py)) vL.line X.env=pure false:=by rfl)
  (d1:(fn == ("__debug__" : Str))=false:=by decide) (d2:(kf == ("__debug__" : Str))=false:=by decide) (d3:(Cl == ("__debug__" : Str))=false:=by decide) (d4:(n == ("__debug__" : Str))=false:=by decide) (d5:(n == ("__classdict__" : Str))=false:=by decide)
  (he:starEach (e::es) X.env=(false,eval e X.env)::starEach es X.env:=by rfl) (et:(backTo bV (starEach es X.env)).any (·.1)=false:=by rfl)
  (NF:starEach [.Name n AU] X.env=[(false,eval (.Name n AU) X.env)]:=by rfl) :
  PS X (.Try [.Assign [.Name x px] (.Call (.Name fn fp) (e::es) [] bV) fk] [.ExceptHandler (some (.Name Cl np)) (some n) [.Assign [.Name y py] (.Call (.Name kf kp) [.Name n AU] [] tU) vL] dE] [] [] pos) (kh K QX E (IC F i j l (Kd X.K M De Bu Dl Go Mk Nn Pr Ro Tx No Un) Ms)) :=
 PS.imp (wH F' hr Jv Js Ju JB G tE Ul Ub Ot Sd Jw Jt EU bM lz mU hN hi hj hl kx kn ky ha Jp tD d1 d2 d3 d4 d5 he et NF) λD σ H ⟨w,O,sl,D0,c,m,hn,hb,hc,P0⟩=>⟨w,O,sl,_,c,m,λxs O1 vs w1 H1 h1 e1 r1 a1 =>
  lk w1 O1 H1 vs xs _ _ _ _ r1 a1 h1 (λz x' O3 w3 H3 h3 e3 r3 a3=>hn _ O3 w3 H3 _ h3 ((c.ex (e1.trans e3).ex r3).put a3 i) (e1.trans e3)) λc' O3 w3 H3 h3 e3 r3=>by
   obtain⟨r4,e4⟩:=rD e3 r3;obtain⟨s,⟨q,hq,er,rfl⟩,h3⟩:=h3;refine⟨c',rfl,er.sub,λea hea=>⟨q,hq,er,rfl,λH5 s5=>?_⟩⟩;obtain⟨r5,e5,_⟩:=r4.ay s5;have N':=(e1.trans e4).trans e5;have c5:=c.ex N'.ex r5;exact hn _ O3 _ H5 _ h3 ⟨c5.ro,((c5.so.forget j).set (x:=.im (.str (ue q))) (cx.str _ (D6 ⟨q,hq⟩)) l).forget j,c5.zx⟩ N'⟩
mutual
theorem uQ:∀d:PyData,sZ d=true->PyData.eqv d d=true
 |.none,_=>by simp[PyData.eqv]
 |.bool b,_=>by simp[PyData.eqv]
 |.int i,_=>by simp[PyData.eqv]
 |.str x,_=>by simp[PyData.eqv]
 |.list ds,h=>by cases h
 |.dict ds,h=>by cases h
 |.tuple ds,h=>by
  rw[PyData.eqv];exact qG ds h
theorem qG:∀ds:Ξ1,mD ds=true->PyData.eqvAll ds ds=true
 |[],_=>by simp[PyData.eqvAll]
 |d::ds,h=>by
  have h':=(Zl _ _).mp h;rw[PyData.eqvAll,uQ d h'.1,qG ds h'.2];rfl
end
theorem M8 (A:Γ3)(Pu:Δ1)(W:Γ1):(ia A Pu W).depth<=4:=by
 unfold ia;have h1:=M7 Pu;have h2:=Hy W;have h3:(PyData.tuple (A.map .int)).depth<=1:=yG A;simp only[PyData.depth,PyData.depthAll] at h1 h2 h3 ⊢;omega
def FO:FM:=λO xs P _=>∃(n g:Nat) (B W:Γ1) (p:PyData),xs=[.im (iK B W),.im p]/\BW n g B W/\(∀j,j<g->has W j=true)/\bz p=true/\(∃N,N<=1000000/\ln N p=true)/\∀O',cQ O O'->P (.im (.bool true)) O'
abbrev θ:Δ2:=["barter","prices","kind","found","e"]
def PL (Pr:Addr)(nm:Addr->Str->Prop):MS:=(aB (aX (mC (.str "")) (aW 2))
 (aB (aX (mC .none) (aW 3))
 (aB (IC (qj Pr) 3 4 2 nm (ae (ag 0) (ae (ag 1) ah)))
 (aB (di (iJ (bG (ax zy cf (ae (ag 0) (ae (ag 1) ah))))) (bS (aE (jW false) (ij (ae (ag 2) (ae (ag 3) ah))) (ij (ae (mC (.str "NoPrices+")) (ae (mC .none) ah))))) cb)
 (bS (aE (jW false) (ij (ae (ag 2) (ae (ag 3) ah))) (ij (ae (mC (.str "")) (ae (ax qi cf (ae (ag 0) (ae (ag 1) ah))) ah)))))))))
theorem Lx (Pr:Addr)(nm:Addr->Str->Prop)(T8:nm Pr "NoPrices+"):∀O xs Pq QX,FO O xs Pq QX->PL Pr nm { nx:=λ_ O'=>Pq (.im .none) O',rt:=Pq } (aZ θ xs) O:=by
 intro O xs Pq QX h;obtain⟨n,g,B,W,p,rfl,bw,hh,sp,⟨N,hN,lp⟩,h⟩:=h;have Fc:(B.getD 0 []).length=g:=bw.br 0 bw.n1;have AN:∀ds,p=.tuple ds->ds.length<=1000000:=λds e=>by subst e;have:=(kA.mp lp).1;omega
 refine⟨⟨⟨n,g,B,W,p,rfl,bw,hh,sp,⟨N,hN,lp⟩,λhp=>⟨"NoPrices+",T8,?_⟩,λqs e hq xq=>?_⟩⟩⟩
 .show Go _ _ [some (.im (iK B W)),some (.im p),some (.im (.str "NoPrices+")),some (.im .none),none] O;refine⟨B,W,p,rfl,by rw[bw.bl];exact bw.n1,sp,AN,?_⟩;rw[Fc,hp];refine⟨λ_=>⟨dj,dj,by show min _ 1<=60;omega,?_⟩,λz=>(by cases z)⟩;have e:pF (.list [.str "NoPrices+",.none]) (.list [.str "NoPrices+",.none])=true:=by rw[je];simp[PyData.eqv,PyData.eqvAll]
  show Pq (.im (.bool (pF (.list [.str "NoPrices+",.none]) (.list [.str "NoPrices+",.none])))) O;rw[e];exact h O (cQ.refl O)
 .subst e;have hp:d7 g (.tuple (qs.map qD))=true:=(by rw[<- hq];exact m6 xq);have mT:=kS sp;show Go _ _ [some (.im (iK B W)),some (.im (.tuple (qs.map qD))),some (.im (.str "")),some (.im (ia ((List.range g).map (cm B)) (B.map λr=>iQ qs r g) W)),none] O;refine⟨B,W,_,rfl,by rw[bw.bl];exact bw.n1,sp,AN,?_⟩;rw[Fc,hp];refine⟨λz=>(by cases z),λ_=>⟨dj,n,g,B,W,qs,rfl,hq,bw.g6,bw.bl,bw.n6,bw.br,λi j hi hj=>⟨(bw.b0 i j hi hj).1,by have:=(bw.b0 i j hi hj).2;omega⟩,λz hz=>(mT z hz).mono (by decide),λO1 hG=>⟨dj,?_,?_⟩⟩⟩
  .have hd:=M8 ((List.range g).map (cm B)) (B.map λr=>iQ qs r g) W;refine Ye (Nat.min_le_left _ _) ?_;rw[PyData.depth,PyData.depthAll,PyData.depthAll,PyData.depthAll,PyData.depth];omega
  .have e:∀m,sZ m=true->pF (.list [.str "",m]) (.list [.str "",m])=true:=λm hm=>by rw[je,PyData.eqv,PyData.eqvAll,PyData.eqvAll,PyData.eqvAll,uQ m hm];simp[PyData.eqv]
   show Pq (.im (.bool (pF (.list [.str "",_]) (.list [.str "",_])))) O1;rw[e _ (Mw _ _ _)];exact h O1 hG
end MI
namespace kr
open PySem L2 KG EX KM MI
section
variable {P:Program}{w:World}{K:Θ1}{mg:Θ3}{base:Heap}
theorem Fo:ao θ ["barter","prices"] (aS (top 81)):=L2.c6
theorem L9 {f fM fK fA fF M De Bu Dl Go Mk Nn Pr Ro Tx No Un:Addr}{fd dM dK dA dF:FuncData}(F:cy K "_law_market_right" "_law_market_right" (top 81) f fd)(N:Nm mg)(R:Wb K mg M De Bu Dl Go Mk Nn Pr Ro Tx No Un)(EP:xU K M De Bu Dl Go Mk Nn Pr Ro Tx No Un Pr 6)(Ma:ik K mg P w base "market_at" 6 ["barter","prices"] (cZ K (qj Pr)) fM dM)(Ki:K2 K mg P w base "_law_kinds" 1 ["e"] (sf K M De Bu Dl Go Mk Nn Pr Ro Tx No Un) fK dK)(Ap:bo K mg P w base "_law_are_prices" 3 ["barter","thing"] (cZ K zy) fA dA)(Mf:bo K mg P w base "_law_market_of" 4 ["barter","prices"] (cZ K qi) fF dF):aJ P w K mg base cH 7 f fd ["barter","prices"] (cZ K FO) :=
 mQ F Fo (λO xs P PX h=>by obtain⟨_,_,_,_,_,rfl,_⟩:=h;rfl) (λbf A outer s H E QX hr=>⟨PL Pr (Kd K M De Bu Dl Go Mk Nn Pr Ro Tx No Un),(bR (iz (i:=2) Fo.nd oB)
 (bR (iz (i:=3) Fo.nd oD)
 (bR (Hc (i:=3) (j:=4) (l:=2) Ma.ok iN (hr.mono (by decide)) rfl Ma.mg Ma.kp Ma.bd Ki.ok (hr.mono (by decide)) rfl Ki.mg Ki.kp Ki.bd rfl R.Ts R.EU R.bM rfl rfl Fo.nd rfl rfl rfl rfl rfl rfl (λE'=>(ap (mv 0) (ap (mv 1) aA))))
 (bR (lw (tG (tq (cK Ap iN hr (ap (mv 0) (ap (mv 1) aA))))) (cM (fc (ee (gg hr.units) gi (qW (ap (mv 2) (ap (mv 3) aA))) (qW (ap oB (ap oD aA))) (au _)))) lx)
 (cM (fc (ee (gg hr.units) gi (qW (ap (mv 2) (ap (mv 3) aA))) (qW (ap oB (ap (cK Mf iN hr (ap (mv 0) (ap (mv 1) aA))) aA))) (au _)))))))),λO xs Pq h=>Lx Pr _ ⟨6,by decide,EP,vc.symm⟩ O xs Pq QX h⟩)
end
end kr
namespace MI
open PySem L2 KG EX KM
def vV:FM:=λO xs P _=>(∃j,xs=[.bag j])/\∀d∈lH,P (.im d) O
def zw (m:Nat):FM:=λO xs P _=>∃(j deep n:Nat) (d:PyData),xs=[.bag j,.im d,.im (.int deep)]/\deep<m/\bz d=true/\ln n d=true/\3<=n/\n<=50/\∀d',bz d'=true->ln (n+1) d'=true->P (.im d') O
def PJ:MS:=(aB (aX (mC (.list (lH.take 18))) (aW 1))
 (bS (aE bL (aE eO (ag 1) (mC (.list (lH.drop 18)))) (ax cB cf (ae (ag 0) (ae (mC (.int 24)) ah))))))
theorem Lw:∀O xs Pq QX,vV O xs Pq QX->PJ { nx:=λ_ O'=>Pq (.im .none) O',rt:=Pq } (aZ ["bag","some"] xs) O:=by
 intro O xs Pq QX h;obtain⟨⟨j,rfl⟩,h⟩:=h;have hl:(lH.take 18++lH.drop 18).length=24:=by decide
 refine⟨by decide,⟨by decide,by decide⟩,λr r0 r1=>?_⟩;obtain⟨r,rfl⟩:∃a':Nat,r=(a':Int):=⟨r.toNat,by omega⟩;refine⟨_,aH (Zc (by omega)),h _ ?_⟩;have:∀x,x∈lH.take 18++lH.drop 18->x∈lH:=λx hx=>by rwa [List.take_append_drop] at hx
 exact this _ (Zv _)
def PF (m:Nat):MS:=(aB (di (kw (bG (aE (jW false) (ag 2) (mC (.int 0)))) (kw (iJ (bG (nL pA (ag 1)))) (kw (bG (aE (jW false) (ag 1) (fi ah))) (bG (aE (jW false) (ax cB cf (ae (ag 0) (ae (mC (.int 5)) ah))) (mC (.int 0))))))) (bS (ax vV cf (ae (ag 0) ah))) cb)
 (aB (aX (ax cB cf (ae (ag 0) (ae (cE cP (ae (ag 1) ah)) ah))) (aW 3))
 (aB (aX (ax cB cf (ae (ag 0) (ae (mC (.int 9)) ah))) (aW 4))
 (aB (di (bG (aE (jW false) (ag 4) (mC (.int 0)))) (bS (aE eO (AW (ag 1) nK (nJ (ag 3))) (AW (ag 1) (nJ (aE eO (ag 3) (mC (.int 1)))) nK))) cb)
 (aB (di (bG (aE (jW false) (ag 4) (mC (.int 1)))) (bS (aE eO (aE eO (AW (ag 1) nK (nJ (ag 3))) (fi (ae (aE bL (ag 1) (ag 3)) ah))) (AW (ag 1) (nJ (ag 3)) nK))) cb)
 (aB (di (bG (aE (jW false) (ag 4) (mC (.int 2)))) (bS (cE Ky (ae (ag 1) ah))) cb)
 (bS (aE eO (aE eO (AW (ag 1) nK (nJ (ag 3))) (fi (ae (ax (zw m) cf (ae (ag 0) (ae (aE bL (ag 1) (ag 3)) (ae (aE zm (ag 2) (mC (.int 1))) ah)))) ah))) (AW (ag 1) (nJ (aE eO (ag 3) (mC (.int 1)))) nK)))))))))
theorem Lu (m:Nat):∀O xs Pq QX,zw (m+1) O xs Pq QX->PF m { nx:=λ_ O'=>Pq (.im .none) O',rt:=Pq } (aZ ["bag","thing","deep","at","way"] xs) O:=by
 intro O xs Pq QX h;obtain⟨j,deep,n,d,rfl,Sb,A1,AN,h3,h50,h⟩:=h;have FH:∀d∈lH,Pq (.im d) O:=λd hd=>by
  obtain⟨_,o2,o3⟩:=kM d hd;exact h d o2 (sE (by omega) o3)
 have hT:∀ds:Ξ1,ds.length<=n+1->(∀x∈ds,bz x=true/\ln (n+1) x=true)->Pq (.im (.tuple ds)) O:=λds h1 h2=>h _ (gj λd hd=>(h2 d hd).1) (kA.mpr ⟨h1,λd hd=>(h2 d hd).2⟩)
 refine⟨dI,⟨λ_=>?_,λZO=>⟨λ_=>?_,λNA=>?_⟩⟩⟩
 .exact⟨λ_=>⟨⟨_,rfl⟩,FH⟩,λz=>by cases z⟩
 .exact⟨λ_=>⟨⟨_,rfl⟩,FH⟩,λz=>by cases z⟩
 have NA:pA d=true:=by cases h:pA d with
  |true=>rfl
  |false=>rw[h] at NA;cases NA
 have ZO:deep≠0:=λz=>by subst z;exact absurd ZO (by decide)
 obtain⟨ds,rfl⟩:∃ds,d=.tuple ds:=by cases d<;>first |exact⟨_,rfl⟩ |cases NA
 obtain⟨ln1,YN⟩:=kA.mp AN;have smd:=fX A1;have j0:∀x∈ds,bz x=true/\ln (n+1) x=true:=λx hx=>⟨smd x hx,sE (by omega) (YN x hx)⟩
 refine⟨by decide,by show min _ 1<=60;omega,⟨λ_=>?_,λOB=>?_⟩⟩
 .exact⟨λ_=>⟨⟨_,rfl⟩,FH⟩,λz=>by cases z⟩
 have dE:0<ds.length:=by
  cases ds with
  |nil=>exact absurd (OB:pF (.tuple []) (.tuple [])=false) (by decide)
  |cons _ _=>simp
 refine⟨⟨by decide,by decide⟩,λr1 _ _=>⟨dI,⟨λ_=>⟨⟨_,rfl⟩,FH⟩,λ_=>?_⟩⟩⟩;refine⟨⟨by omega,by omega⟩,λr r0 rl=>⟨⟨⟨by decide,by decide⟩,λwy _ _=>?_⟩⟩⟩;have yX:=yN (xs:=ds) r0 rl;have mU:=jI (xs:=ds) (r:=r+1) (by omega) (by omega);have P8:=jI (xs:=ds) r0 (by omega);have er1:(r+1).toNat=r.toNat+1:=by omega
 rw[er1] at mU;have cG:r.toNat<ds.length:=by omega
 have zb:iO ds r=some ds[r.toNat]:=by
  have:=aH (Zc cG)
  rwa [Int.toNat_of_nonneg r0] at this
 have ZB:=j0 _ (Zv cG);show Go _ _ [some (.bag j),some (.im (.tuple ds)),some (.im (.int deep)),some (.im (.int r)),some (.im (.int wy))] O;refine⟨dI,⟨λ_=>?_,λ_=>⟨dI,⟨λ_=>?_,λ_=>⟨dI,⟨λ_=>?_,λ_=>?_⟩⟩⟩⟩⟩⟩
 .refine⟨by rw[yX,mU,Yk,Yx,sz];omega,?_⟩;rw[yX,mU];exact hT _ (by rw[Zn,Yk,Yx];omega) λx hx=>by
   rcases Zp.mp hx with z |z
   .exact j0 x (Qm z)
   .exact j0 x (Qn z)
 .refine⟨_,zb,Bm,by rw[yX,Yk,sz];simp;omega,?_⟩;refine⟨by rw[yX,P8,Zn,Yk,Yx,sz];simp;omega,?_⟩;rw[yX,P8];exact hT _ (by rw[Zn,Zn,Yk,Yx];simp;omega) λx hx=>by
   rcases Zp.mp hx with z |z
   .rcases Zp.mp z with z |z
    .exact j0 x (Qm z)
    .rw[Yi.mp z];exact ZB
   .exact j0 x (Qn z)
 .exact h _ (Gg λd hd=>(j0 d hd).1) (WR.mpr ⟨by omega,λd hd=>(j0 d hd).2⟩)
 .refine⟨_,zb,j,deep-1,n,ds[r.toNat],?_,by omega,ZB.1,YN _ (Zv cG),h3,h50,λd' s' l'=>?_⟩
  .show[AV.bag j,AV.im ds[r.toNat],AV.im (.int ((deep:Int)-1))]=_;rw[show((deep:Int)-1)=((deep-1:Nat):Int) by omega]
  refine⟨Bm,by rw[yX,Yk,sz];simp;omega,?_⟩;refine⟨by rw[yX,mU,Zn,Yk,Yx,sz];simp;omega,?_⟩;rw[yX,mU];exact hT _ (by rw[Zn,Zn,Yk,Yx];simp;omega) λx hx=>by
   rcases Zp.mp hx with z |z
   .rcases Zp.mp z with z |z
    .exact j0 x (Qm z)
    .rw[Yi.mp z];exact⟨s',l'⟩
   .exact j0 x (Qn z)
end MI
namespace kr
open PySem L2 KG EX KM MI
section
variable {P:Program}{w:World}{K:Θ1}{mg:Θ3}{base:Heap}
theorem GS {f fT:Addr}{fd dT:FuncData}(F:cy K "_law_odd" "_law_odd" (top 73) f fd)(T:bo K mg P w base "_law_take" 1 ["bag","many"] j1 fT dT):aJ P w K mg base cH 2 f fd ["bag"] (cZ K vV):=by
 exact mQ F Ih (λO xs P PX h=>by obtain⟨⟨j,rfl⟩,_⟩:=h;rfl) (λbf A outer s H E QX hr=>⟨PJ,(bR (iz (i:=1) Ih.nd (CK 5 _ (.list (lH.take 18)) (by kernel_rfl)))
 (cM (fc (bQ (pw (mv 1) (CK 5 _ (.list (lH.drop 18)) (by kernel_rfl))) (cK T pH hr (ap (mv 0) (ap bI aA))))))),λO xs Pq h=>Lw O xs Pq QX h⟩)
theorem yi {f fT fO:Addr}{fd dT dO:FuncData}(F:cy K "_law_replaced" "_law_replaced" (top 74) f fd)(N:Nm mg)(Z:rd K)(T:bo K mg P w base "_law_take" 1 ["bag","many"] j1 fT dT)(Od:bo K mg P w base "_law_odd" 2 ["bag"] (cZ K vV) fO dO)
  (HM:mg "_law_replaced"=some (.ref f)) (ZE:PySem.W.keepIn K (.ref f)=true) (Se:Binds K fd ["bag","thing","deep"] []):∀m:Nat,aJ P w K mg base cH (m+2) f fd ["bag","thing","deep"] (cZ K (zw m))
 |0=>⟨λvs H Q E h=>(by obtain⟨w,O,xs,P,PX,r,a,⟨j,deep,n,d,_,h,_⟩,_⟩:=h;omega),λA outer s H args us vs Q E hr he hb hv h=>(by obtain⟨w,O,xs,P,PX,r,a,⟨j,deep,n,d,_,h,_⟩,_⟩:=h;omega)⟩
 |m+1=>by
  have Rc:=yi F N Z T Od HM ZE Se m;exact mQ F BE (λO xs P PX h=>by obtain⟨j,deep,n,d,rfl,_⟩:=h;rfl) (λbf A outer s H E QX hr=>⟨PF m,(bR (lw (PW.pt (gN (jU (gg hr.units) gi (mv 2) bI (au _)) (gN (tG (tq (Jk Z (mv 1) rfl N.isinstance rfl N.tuple))) (gN (jU (gg hr.units) gi (mv 1) (nC aA) (au _)) (fJ (jU (gg hr.units) gi (gS T.ok pH (hr.mono (by omega)) rfl T.mg T.kp T.bd (ap (mv 0) (ap bI aA))) bI (au _))))))) (cM (fc (gS Od.ok iN (hr.mono (by omega)) rfl Od.mg Od.kp Od.bd (ap (mv 0) aA)))) lx)
 (bR (iz (i:=3) BE.nd (gS T.ok pH (hr.mono (by omega)) rfl T.mg T.kp T.bd (ap (mv 0) (ap (fe aV kl (by rfl) N.len PySem.boot_len (ap (mv 1) aA)) aA))))
 (bR (iz (i:=4) BE.nd (gS T.ok pH (hr.mono (by omega)) rfl T.mg T.kp T.bd (ap (mv 0) (ap bI aA))))
 (bR (lw (jU (gg hr.units) gi (mv 4) bI (au _)) (cM (fc (pw (ED (mv 1) Ez (EA (mv 3))) (ED (mv 1) (EA (pw (mv 3) bI)) Ez)))) lx)
 (bR (lw (jU (gg hr.units) gi (mv 4) bI (au _)) (cM (fc (pw (pw (ED (mv 1) Ez (EA (mv 3))) (nC (ap (bQ (mv 1) (mv 3)) aA))) (ED (mv 1) (EA (mv 3)) Ez)))) lx)
 (bR (lw (jU (gg hr.units) gi (mv 4) bI (au _)) (cM (fc (p9 Je ML (by rfl) N.list boot_list (ap (mv 1) aA)))) lx)
 (cM (fc (pw (pw (ED (mv 1) Ez (EA (mv 3))) (nC (ap (gS Rc iN (hr.mono (by omega)) rfl HM ZE Se (ap (mv 0) (ap (bQ (mv 1) (mv 3)) (ap (lQ (mv 2) bI) aA)))) aA))) (ED (mv 1) (EA (pw (mv 3) bI)) Ez)))))))))),λO xs Pq h=>Lu m O xs Pq QX h⟩)
end
end kr
namespace Bv
open PySem L2 KG EX KM kr
section
variable {P:Program}{w:World}{K:Θ1}{mg:Θ3}{base:Heap}
theorem WF:ao ["brought","wishes"] ["brought","wishes"] (aS (top 56)):=L2.c6
theorem Rs {f:Addr}{fd:FuncData}(F:cy K "brings_wished" "brings_wished" (top 56) f fd)(N:Nm mg)(mz:mg "zip"=none):aJ P w K mg base cH 1 f fd ["brought","wishes"] ya:=by
 refine F.ok WF (λvs H Q E h=>?_) (λbf A' outer s H vs Q E hr h=>?_)
 .obtain⟨a,c,r,t,rfl,_⟩:=h;rfl
 .obtain⟨a,c,r,t,rfl,ha,hc,hl,h6,k⟩:=h;refine⟨_,cT (eG (jK (qm rfl) (by rfl) N.any boot_any (aQ (tJ (own:=["number","wish"]) (cap:=[]) (ix:=[]) (az.of (aS (top 56)).names ["brought","wishes"]) rfl (yf rfl mz boot_zip (aQ (pv 0) (aQ (pv 1) bK)))
   (λC fp s H=>⟨gr (n:=2) rfl (qX (eH (i:=0) (Ψ9 ["number","wish"]) rfl (Or.inl rfl)) (qX (eH (i:=1) (Ψ9 ["number","wish"]) rfl (Or.inl rfl)) EC)),xp,
    io (vE iV (pv 0) bF (au _)) (gw (vE iV (pv 1) bF (au _)))⟩)) bK))),?_⟩
  refine⟨_,rfl,_,rfl,a,c,rfl,⟨_,aG.of ha⟩,⟨_,aG.of hc⟩,λacc bu=>?_⟩;refine LK (xs:=r.map V.int) (ys:=t.map V.int) (λ_=>true) (λj=>V.bl (decide (0<r.getD j 0)&&decide (0<t.getD j 0))) (by rw[Zb,Zb];exact hl) bu (by rw[Zb];omega) ha hc (λi x y H' Z _ _ _ h=>h H' (ai.refl H')) (λi x y H' Z hx hy _ st h=>?_) (λH1 s1 h1=>?_)
  .obtain⟨_,rfl⟩:=ints_get hx;obtain⟨_,rfl⟩:=ints_get hy;refine⟨_,rfl,_,_,rfl,rfl,_,rfl,?_⟩;have h':=h H' (ai.refl H');cases hz:decide (0<r.getD i 0) with
   |true =>
    rw[hz] at h';exact aU ⟨_,rfl,_,_,rfl,rfl,by simpa using h'⟩
   |false =>
    rw[hz] at h';exact bC (by simpa using h')
  .rw[Zb,Qg.mpr (λ_ _=>rfl)] at h1;refine⟨acc,_,rfl,.inl (bA.of h1),gQ _ _,?_⟩;rw[wz];exact k H1 s1
abbrev ζ:Δ2:=["barter","hands","brought","wishes"]
theorem J3:ao ζ ["barter","hands"] (aS (top 57)):=L2.c6
theorem Rn {f:Addr}{fd:FuncData}(F:cy K "goods_only_brought" "goods_only_brought" (top 57) f fd)(N:Nm mg):aJ P w K mg base cH 1 f fd ["barter","hands"] Cj:=by
 refine F.ok J3 (λvs H Q E h=>?_) (λbf A' outer s H vs Q E hr h=>?_)
 .obtain⟨p,pB,pW,l,xB,xW,B,W,g,s,rfl,_⟩:=h;rfl
 .obtain⟨p,pB,pW,l,xB,xW,B,W,g,s,rfl,m,hl,h6,hs,k⟩:=h;refine⟨_,dz (j3 (pv 0) (gr (n:=2) rfl (qX (eH (i:=2) J3.nd rfl (Or.inr rfl)) (qX (eH (i:=3) J3.nd rfl (Or.inr rfl)) EC))))
   (cT (eG (tJ (own:=["good"]) (cap:=["brought","hands","wishes"]) (ix:=[2,1,3]) (az.of (aS (top 57)).names ζ) rfl (jE rfl N.range (aQ (jK aV (by rfl) N.len PySem.boot_len (aQ (cS bH (pv 2) bF (λ_ _=>rfl)) bK)) bK))
    (λC fp s H=>⟨eH (i:=0) (Ψ9 ["good","brought","hands","wishes"]) rfl (Or.inr rfl),fY (PW.pt (pw_and (tH (jK (qm rfl) (by rfl) N.any boot_any (aQ (tJ (own:=["hand"]) (cap:=["brought","good"]) (ix:=[1,0]) (az.of [(".0",.local),("good",.cell),("any",.globalImplicit),("brought",.cell),("hands",.cell),("wishes",.cell)] ["good","brought","hands","wishes"]) rfl (rk (pv 2)) (λC fp s H=>⟨eH (i:=0) (Ψ9 ["hand","brought","good"]) rfl (Or.inl rfl),xp,vE iV (cS bH (cS bH (pv 1) (pv 0) (λ_ _=>rfl)) (pv 2) (λ_ _=>rfl)) bF (au _)⟩)) bK))) (pw_and1 (vB (tH (jK (qm rfl) (by rfl) N.any boot_any (aQ (tJ (own:=["hand"]) (cap:=["wishes","good"]) (ix:=[3,0]) (az.of [(".0",.local),("good",.cell),("any",.globalImplicit),("brought",.cell),("hands",.cell),("wishes",.cell)] ["good","brought","hands","wishes"]) rfl (rk (pv 2)) (λC fp s H=>⟨eH (i:=0) (Ψ9 ["hand","wishes","good"]) rfl (Or.inl rfl),xp,vE iV (cS bH (cS bH (pv 1) (pv 0) (λ_ _=>rfl)) (pv 2) (λ_ _=>rfl)) bF (au _)⟩)) bK))))))),pv 0⟩)))),?_⟩
  refine⟨_,rfl,p,_,rfl,aG.of m.hp,rfl,_,_,rfl,_,_,rfl,rfl,?_⟩;obtain⟨a0,_,JI,JD⟩:=eU m.rB (i:=0) m.n1;have Uf:=gk m.lB (i:=0) m.n1;refine⟨_,rfl,pB,_,_,_,rfl,rfl,aG.of m.hB,JI,a0,_,rfl,.inr (aG.of JD),(g:Int),by rw[Zb,Uf],by omega,by have:=m.g6;omega,λacc bu=>?_⟩;rw[Zj];refine Dw (λj=>(s.any λh=>lF B h j)&&!(s.any λh=>lF W h j)) (λj=>V.int ((j:Nat):Int)) bu (by have:=m.g6;omega) (λj H1 Z hj s1 h=>?_) (λj H1 Z hj _ s1 h=>⟨_,rfl,h H1 (ai.refl H1)⟩) (λH1 s1 h1=>k acc H1 s1 h1);have m1:=m.ay s1;refine⟨_,rfl,l,rfl,⟨_,aG.of (s1 _ _ hl)⟩,λa1 Sj=>?_⟩;refine Px (λx=>V.bl (lF B x j)) Sj (by omega) (s1 _ _ hl) (λx H2 Z hx s2 hZ=>?_) (λH2 s2 h2=>?_)
  .have m2:=m1.ay s2;exact uK m2.hB m2.rB (hs x hx).1 (hs x hx).2 m2.lB hj rfl rfl rfl ⟨_,_,rfl,rfl,hZ H2 (ai.refl H2)⟩
  refine⟨a1,_,rfl,.inl (bA.of h2),gQ _ _,_,rfl,?_⟩;rw[wz];cases hc:s.any λh=>lF B h j with
  |false =>
   rw[hc] at h;exact bC (h H2 s2)
  |true =>
   rw[hc] at h;have m2:=m1.ay s2;have lA:=s2 _ _ (s1 _ _ hl);refine aU ⟨_,rfl,l,rfl,⟨_,aG.of lA⟩,λa2 Si=>?_⟩;refine Px (λx=>V.bl (lF W x j)) Si (by omega) lA (λx H3 Z hx s3 hZ=>?_) (λH3 s3 h3=>?_)
   .have m3:=m2.ay s3;exact uK m3.hW m3.rW (hs x hx).1 (by rw[m3.len];exact(hs x hx).2) m3.lW hj rfl rfl rfl ⟨_,_,rfl,rfl,hZ H3 (ai.refl H3)⟩
   refine⟨a2,_,rfl,.inl (bA.of h3),gQ _ _,_,rfl,?_⟩;rw[wz];exact h H3 (s2.trans s3)
abbrev OV:Δ2:=["barter","hand","brought","wishes","found","at","needed"]
theorem pL:ao OV ["barter","hand"] (aS (top 55)):=L2.c6
theorem Rm {f fB:Addr}{fd dB:FuncData}(F:cy K "shut_in_with" "shut_in_with" (top 55) f fd)(N:Nm mg)(mS:mg "sorted"=none)(Bw:bo K mg P w base "brings_wished" 1 ["brought","wishes"] ya fB dB):aJ P w K mg base cH 2 f fd ["barter","hand"] o6:=by
 refine F.ok pL (λvs H Q E h=>?_) (λbf A' outer s H vs Q E hr h=>?_)
 .obtain⟨p,pB,pW,xB,xW,B,W,g,h,rfl,_⟩:=h;rfl
 .obtain⟨p,pB,pW,xB,xW,B,W,g,h,rfl,m,hh,k⟩:=h;refine⟨_,dz (j3 (pv 0) (gr (n:=2) rfl (qX (eH (i:=2) pL.nd rfl (Or.inl rfl)) (qX (eH (i:=3) pL.nd rfl (Or.inl rfl)) EC))))
   (dz (lm (i:=4) pL.nd rfl (Or.inr rfl) (gx (aQ (pv 1) bK)))
   (dz (lm (i:=5) pL.nd rfl (Or.inl rfl) bF)
   (dz (jj PassesOwn.never (p6 kE (pv 5) (jK aV (by rfl) N.len PySem.boot_len (aQ (pv 4) bK)) (au _))
    (dz (lm (i:=6) pL.nd rfl (Or.inr rfl) (cS bH (pv 3) (cS mF (pv 4) (pv 5) (λ_ _=>rfl)) (λ_ _=>rfl)))
    (dz (ye (BU PySem.F.plainAttrs_list PySem.F.slot_list_extend PySem.F.type_list_extend Ae (pv 4) (aQ (tJ (own:=["other","row"]) (cap:=["found","needed"]) (ix:=[4,6]) (az.of (aS (top 55)).names OV) rfl (kK rfl N.enumerate Nx (aQ (pv 2) bK))
     (λC fp s H=>⟨gr (n:=2) rfl (qX (eH (i:=0) (Ψ9 ["other","row","found","needed"]) rfl (Or.inl rfl)) (qX (eH (i:=1) (Ψ9 ["other","row","found","needed"]) rfl (Or.inl rfl)) EC)),
      fY (PW.pt (pw_and (p6 CF (pv 0) (pv 2) (by with_unfolding_all rfl)) (pw_and1 (tH (jV Bw.ok hr rfl Bw.mg Bw.kp Bw.bd .nil cw (aQ (pv 1) (aQ (pv 3) bK))))))),pv 0⟩)) bK)))
    (cT (LJ (i:=5) pL.nd rfl (Or.inl rfl) bF M2)))))
   (cT (eG (Nv dv (by rfl) N.tuple mR (aQ (jK sX (by rfl) mS boot_sorted (aQ (pv 4) bK)) bK))))))),?_⟩
  refine⟨_,rfl,p,_,rfl,aG.of m.hp,rfl,_,_,rfl,_,_,rfl,rfl,?_⟩;refine⟨_,rfl,by show 1<=sizeLine;decide,λpf Y8=>?_⟩;have s0:=(ai.refl H).new (o:=.lst [.int (h:Nat)]) Y8;have e0:(aK H pf (.lst [.int (h:Nat)])) pf=some (.lst (([(h:Int)]:Γ3).map V.int)):=cL;generalize aK H pf (.lst [.int (h:Nat)])=H0 at s0 e0 ⊢;refine jg (λσ H'=>ai H H'/\∃(Fs:Γ3) (at':Nat) (y6:Option V),σ=[some (.ref p),some (.int h),some (.ref pB),some (.ref pW),some (.ref pf),some (.int at'),y6]/\H' pf=some (.lst (Fs.map V.int))/\Fs.Nodup/\(∀x∈Fs,x∈lC B W g (h:Nat))/\(h:Int)∈Fs/\at'<=Fs.length/\∀i,i<at'->∀o,0<=o->o<(B.length:Int)->gL B W g (Fs.getD i 0) o=true->o∈Fs)
   (λσ _=>match σ with |[_,_,_,_,_,some (.int a),_]=>6-a.toNat |_=>0) ⟨s0,[(h:Int)],0,_,rfl,e0,by simp,?_,by simp,by simp,λi hi=>absurd hi (by omega)⟩ ?step ?mono
  .intro x hx;rw[Yi] at hx;subst hx;exact dY.mpr ⟨by omega,λs hs=>(gR.mp hs).2.2⟩
  case mono =>
   rintro σ H' Q1 Q2 rz ⟨v,e,u,e2,pp,ys,e3,hq,i,j,e4,e5,c,e6,q⟩;exact⟨v,e,u,e2,pp,ys,e3,hq,i,j,e4,e5,c,e6,rz _ _ q⟩
  case step =>
   rintro σ H1 ⟨s1,Fs,at',y6,rfl,hF,nd,A6,ZH,zb,IW⟩;have m1:=m.ay s1;have R8:∀x∈Fs,0<=x/\x<(B.length:Int):=λx hx=>(dY.mp (A6 x hx)).1
   have hF6:=DW nd R8;have T9:=m.n6;refine⟨_,rfl,_,rfl,pf,_,rfl,.inl (bA.of hF),_,_,rfl,rfl,_,rfl,?_⟩;rw[Zb];refine FE (λcG=>?_) (λcG=>?_)
   .have P4:at'<Fs.length:=by simpa using of_decide_eq_true cG
    obtain⟨ea,_,_⟩:=oW (ns:=Fs) (r:=(at':Int)) (by omega) (by omega);rw[Zj] at ea;have TM:=mem_getD P4;have hx:=R8 _ TM;generalize hxe:Fs.getD at' 0=x at ea TM hx;obtain⟨a,_,Z9,ha⟩:=eU m1.rW (i:=x.toNat) (by rw[m1.len];omega);rw[show((x.toNat:Nat):Int)=x by omega] at Z9;refine⟨_,rfl,_,rfl,_,rfl,pf,_,_,_,rfl,rfl,bA.of hF,ea,pW,_,_,_,rfl,rfl,aG.of m1.hW,Z9,?_⟩;have hlw:=gk m1.lW (i:=x.toNat) (by rw[m1.len];omega);refine⟨_,rfl,.inl ⟨rfl,_,bA.of hF⟩,_,rfl,pB,rfl,⟨_,aG.of m1.hB⟩,λa1 Sj=>?_⟩;have npf:pf≠a1:=λz=>by rw[z,Sj] at hF;cases hF
    refine GF (xs:=xB) (λo=>!Fs.contains ((o:Nat):Int)&&gL B W g x (o:Nat)) (λo=>V.int ((o:Nat):Int)) Sj (by rw[m1.rB.len];omega) m1.hB (λi y H2 Z hy s2 hZ=>?_) (λi y H2 Z hy _ s2 hZ=>⟨_,rfl,hZ H2 (ai.refl H2)⟩) (λH2 s2 h2=>?_)
    .have hi:i<B.length:=by rw[<- m1.rB.len];exact(Zd.mp hy).1
     obtain⟨c,ec,_,hc⟩:=eU m1.rB hi;obtain rfl:y=.ref c:=by rw[hy] at ec;simpa using ec
     refine⟨_,rfl,_,rfl,pf,_,rfl,.inl (bA.of (s2 _ _ hF)),rfl,hJ Fs,_,rfl,?_⟩;have UX:(if true=true then !AZ (V.int ((i:Nat):Int)) (Fs.map V.int) else AZ (V.int ((i:Nat):Int)) (Fs.map V.int))=!Fs.contains ((i:Nat):Int):=by rw[if_pos rfl,sI]
     rw[UX];cases OG:Fs.contains ((i:Nat):Int) with
     |true=>rw[OG] at hZ;exact bC (hZ H2 (ai.refl H2))
     |false =>
      rw[OG] at hZ;have ZD:=gk m1.lB hi;refine aU ⟨_,rfl,_,rfl,c,a,_,_,rfl,s2 _ _ hc,s2 _ _ ha,by rw[ZD,hlw],by have:=m.g6;omega,λH3 s3=>⟨_,rfl,?_⟩⟩;rw[ZD];exact hZ H3 s3
    .refine⟨pf,a1,_,_,rfl,rfl,s2 _ _ hF,h2,?_,?_⟩
     .have:=gU (λo=>!Fs.contains ((o:Nat):Int)&&gL B W g x (o:Nat)) (λo=>V.int ((o:Nat):Int)) xB.length;have Y0:=m1.rB.len;rw[Zb,sz];omega
     refine⟨_,rfl,_,_,rfl,rfl,?_⟩;obtain⟨p1,p2,p3⟩:=Dg nd A6 TM;have Y0:=m1.rB.len;refine⟨⟨(s1.trans s2).acc Y8,_,at'+1,_,rfl,?_,p1,p2,Yw _ ZH,by rw[Zn];omega,λi hi o o0 o1 hn=>?_⟩,?_⟩
     .rw[cL,Zs,Zi,<- Y0];rfl
     .rcases Zz i at' with z |z
      .have eg:(Fs++(((List.range B.length).filter λo=>!Fs.contains ((o:Nat):Int)&&gL B W g x (o:Nat)).map λo:Nat=>(o:Int))).getD i 0=Fs.getD i 0:=by simp only[List.getD];rw[Zr (by omega)]
       rw[eg] at hn;exact Yw _ (IW i z o o0 o1 hn)
      .obtain rfl:i=at':=by omega
       have eg:(Fs++(((List.range B.length).filter λo=>!Fs.contains ((o:Nat):Int)&&gL B W g x (o:Nat)).map λo:Nat=>(o:Int))).getD i 0=Fs.getD i 0:=by simp only[List.getD];rw[Zr (by omega)]
       rw[eg,hxe] at hn;exact p3 o o0 o1 hn
     .show 6-((at':Int)+1).toNat<6-((at':Int)).toNat;omega
   .have Uo:Fs.length<=at':=by
     have:¬ ((at':Int)<(Fs.length:Int)):=λz=>cG (decide_eq_true z)
     omega
    refine⟨_,rfl,pf,Fs,rfl,bA.of hF,by omega,λEY l hp hs hl=>?_⟩;refine⟨l,_,rfl,.inl ⟨bA.of cL,λl2 lA=>?_⟩⟩;have eS:EY=lC B W g (h:Nat):=M9 nd A6 ZH (λx hx o o0 o1 hn=>by
     obtain⟨i,hi,e⟩:=Xp hx;exact IW i (by omega) o o0 o1 (by rw[gb (Zc hi),e];exact hn)) hp hs
    rw[eS] at lA ⊢;exact k l2 _ ((s1.new hl).new lA) cL
abbrev NBd:Δ2:=["barter","hand","hands","goods"]
theorem Ft:ao NBd ["barter"] (aS (top 54)):=L2.c6
theorem Rt {f fS fO:Addr}{fd dS dO:FuncData}(F:cy K "barred" "barred" (top 54) f fd)(N:Nm mg)(Sw:bo K mg P w base "shut_in_with" 2 ["barter","hand"] o6 fS dS)(Ob:bo K mg P w base "goods_only_brought" 1 ["barter","hands"] Cj fO dO):aJ P w K mg base cH 3 f fd ["barter"] oM:=by
 refine F.ok Ft (λvs H Q E h=>?_) (λbf A' outer s H vs Q E hr h=>?_)
 .obtain⟨p,pB,pW,xB,xW,B,W,g,rfl,_⟩:=h;rfl
 .obtain⟨p,pB,pW,xB,xW,B,W,g,rfl,m,k⟩:=h;have E8:cz 1 _:=hr.mono (by decide);refine⟨_,dz (oA PassesOwn.never rfl (jE rfl N.range (aQ (jK aV (by rfl) N.len PySem.boot_len (aQ (cS bH (pv 0) bF (λ_ _=>rfl)) bK)) bK)) (eH (i:=1) Ft.nd rfl (Or.inl rfl))
    (dz (lm (i:=2) Ft.nd rfl (Or.inl rfl) (jV Sw.ok hr rfl Sw.mg Sw.kp Sw.bd .nil cw (aQ (pv 0) (aQ (pv 1) bK))))
    (dz (lm (i:=3) Ft.nd rfl (Or.inl rfl) (jV Ob.ok E8 rfl Ob.mg Ob.kp Ob.bd .nil cw (aQ (pv 0) (aQ (pv 2) bK))))
    (cT (dq (oQ (pv 3) (λ_=>rfl)) (cT (eG (gv (aQ (pv 2) (aQ (cS mF (pv 3) bF (λ_ _=>rfl)) bK))))) tw)))))
   (cT (eG wd)),?_⟩
  refine⟨_,rfl,p,_,_,_,rfl,rfl,aG.of m.hp,rfl,pB,_,rfl,.inr (aG.of m.hB),(B.length:Int),by rw[m.rB.len],by omega,by have:=m.n6;omega,?_⟩;rw[Zj];refine Ao (λi σ H'=>ai H H'/\(∃y1 y2 y3,σ=[some (.ref p),y1,y2,y3])/\∀h,h<i->pQ B W g (lC B W g (h:Nat))=[]) ⟨ai.refl H,⟨_,_,_,rfl⟩,λh hh=>absurd hh (by omega)⟩ ?_ ?_
  .rintro i σ H1 hi ⟨s1,⟨y1,y2,y3,rfl⟩,E9⟩;rw[Int.zero_add];refine⟨_,rfl,_,rfl,p,pB,pW,xB,xW,B,W,g,i,rfl,m.ay s1,hi,λr H2 s2 tE=>?_⟩;have hb6:=Na (B:=B) (W:=W) (g:=g) (h:=(i:Int));have T9:=m.n6;refine⟨_,rfl,_,rfl,p,pB,pW,r,xB,xW,B,W,g,_,rfl,m.ay (s1.trans s2),tE,by omega,λx hx=>(dY.mp hx).1,λq H3 s3 hq=>?_⟩;have Nr:=(s1.trans s2).trans s3;refine⟨_,rfl,_,.inl ⟨_,bA.of hq,rfl⟩,?_⟩;cases hg:pQ B W g (lC B W g (i:Nat)) with
   |nil =>
    refine bC ⟨Nr,⟨_,_,_,rfl⟩,λh hh=>?_⟩;rcases Zz h i with z |z
    .exact E9 h z
    .obtain rfl:h=i:=by omega
     exact hg
   |cons j js =>
    rw[hg] at hq;refine aU ⟨_,rfl,_,rfl,q,_,_,_,rfl,rfl,bA.of hq,(show iO (og (j::js)) ((0:Nat):Int)=some (V.int ((j:Nat):Int)) from eY rfl),by show 2<=sizeLine;decide,λt ht=>?_⟩;refine k _ _ (Nr.new ht) λb=>?_
    have ed:nU B W g=.tuple [.tuple ((lC B W g (i:Nat)).map PyData.int),.int ((j:Nat):Int)]:=by
     unfold nU;have ef:(List.range B.length).find? (λh=>!(pQ B W g (lC B W g (h:Nat))).isEmpty)=some i:=by
      rw[List.find?_range_eq_some];refine⟨by rw[hg];rfl,Zm.mpr hi,λh hh=>by rw[E9 h hh];rfl⟩
     rw[ef];show PyData.tuple [_,.int (((pQ B W g (lC B W g (i:Nat))).getD 0 0:Nat):Int)]=_;rw[hg];rfl
    rw[ed];have s4:=(ai.refl H3).new (o:=.tup [.ref r,.int ((j:Nat):Int)]) ht;exact .tup cL (.cons (.tup ((s3.trans s4) _ _ tE) (Cd _)) (.cons (.int _) .nil))
  .rintro σ H1 ⟨s1,⟨y1,y2,y3,rfl⟩,E9⟩;refine k _ _ s1 λb=>?_
   have ed:nU B W g=.none:=by
    unfold nU;have ef:(List.range B.length).find? (λh=>!(pQ B W g (lC B W g (h:Nat))).isEmpty)=none:=by
     rw[List.find?_eq_none];intro h hh;rw[E9 h (Zm.mp hh)];simp
    rw[ef]
   rw[ed];exact .bO
end
end Bv
namespace KM
open PySem L2 KG EX
def dec (p:Prop):Bool:=@decide p (Classical.propDecidable p)
theorem qk {p:Prop}(h:p):dec p=true:=@decide_eq_true p (Classical.propDecidable p) h
theorem jT {p:Prop}(h:¬ p):dec p=false:=@decide_eq_false p (Classical.propDecidable p) h
theorem yL {p:Prop}:dec p=true↔p:=⟨λh=>@of_decide_eq_true p (Classical.propDecidable p) h,qk⟩
theorem qH (p:Prop):(dec p=true/\p)\/(dec p=false/\¬ p):=by
 rcases Classical.em p with h |h
 .exact .inl ⟨qk h,h⟩
 .exact .inr ⟨jT h,h⟩
theorem yz:∀{r t:Γ3},r.map PyData.int=t.map PyData.int->r=t
 |[],[],_=>rfl
 |[],_::_,h=>by simp at h
 |_::_,[],h=>by simp at h
 |x::r,y::t,h=>by
  rw[Yj,Yj] at h;injection h with h1 h2
  injection h1 with h1
  rw[h1,yz h2]
theorem Dj {r t:Γ3}(h:bT r=bT t):r=t:=by
 unfold bT at h;injection h with h
 exact yz h
def pq (M:Γ1):PyData:=.tuple (M.map bT)
theorem uw:∀{M N:Γ1},M.map bT=N.map bT->M=N
 |[],[],_=>rfl
 |[],_::_,h=>by simp at h
 |_::_,[],h=>by simp at h
 |x::r,y::t,h=>by
  rw[Yj,Yj] at h;injection h with h1 h2
  rw[Dj h1,uw h2]
theorem kI {M N:Γ1}(h:pq M=pq N):M=N:=by
 unfold pq at h;injection h with h
 exact uw h
def HW (most:Int)(r:Γ3):Prop:=∀x∈r,0<=x/\x<=most
def Bh (most:Int)(d:PyData):Prop:=∃r:Γ3,d=bT r/\1<=r.length/\r.length<=6/\HW most r
def vM (most:Int)(d:PyData):Prop:=∃(M:Γ1) (g:Nat),d=pq M/\1<=M.length/\M.length<=6/\1<=g/\g<=6/\∀r∈M,r.length=g/\HW most r
def iW (M:Γ1)(g:Nat):Bool:=(M.all λr=>r.any λx=>x != 0)&&(List.range g).all λj=>M.any λr=>r.getD j 0 != 0
def Sx (d:PyData):Prop:=∃(B W:Γ1) (g:Nat),d=.tuple [pq B,pq W]/\W.length=B.length/\1<=B.length/\B.length<=6/\1<=g/\g<=6/\(∀r∈B,r.length=g/\HW 10 r)/\(∀r∈W,r.length=g/\HW 100 r)/\iW B g=true/\iW W g=true
theorem mh:∀{ds:Ξ1}{lo hi:Int},ds.all (within lo hi)=true->∃r:Γ3,ds=r.map PyData.int/\∀x∈r,lo<=x/\x<=hi
 |[],_,_,_=>⟨[],rfl,λx h=>nomatch h⟩
 |d::ds,lo,hi,h=>by
  rw[Xe,Zl] at h;obtain⟨r,rfl,hr⟩:=mh h.2;cases d with
  |int i =>
   have h1:(decide (lo<=i)&&decide (i<=hi))=true:=h.1;simp only[Zl,decide_eq_true_eq] at h1;refine⟨i::r,rfl,λx hx=>?_⟩;rcases Zf.mp hx with rfl |hx
   .exact h1
   .exact hr x hx
  |_=>cases h.1
theorem vd {r:Γ3}{lo hi:Int}(h:∀x∈r,lo<=x/\x<=hi):(r.map PyData.int).all (within lo hi)=true:=xj h
theorem Di {ds:Ξ1}{most:Int}(h1:1<=ds.length)(h2:ds.length<=6):dec (Bh most (.tuple ds))=ds.all (within 0 most):=by
 cases h:ds.all (within 0 most) with
 |true =>
  obtain⟨r,rfl,hr⟩:=mh h;rw[Zb] at h1 h2;exact qk ⟨r,rfl,h1,h2,hr⟩
 |false =>
  refine jT λ⟨r,e,_,_,hr⟩=>?_
  unfold bT at e;injection e with e
  rw[e,vd hr] at h;cases h
theorem ux:∀{ds:Ξ1}{most:Int},(ds.all λd=>dec (Bh most d))=true->∃M:Γ1,ds=M.map bT/\∀r∈M,1<=r.length/\r.length<=6/\HW most r
 |[],_,_=>⟨[],rfl,λx h=>nomatch h⟩
 |d::ds,most,h=>by
  rw[Xe,Zl] at h;obtain⟨M,rfl,hM⟩:=ux h.2;obtain⟨r,rfl,h1,h2,h3⟩:=yL.mp h.1;refine⟨r::M,rfl,λx hx=>?_⟩;rcases Zf.mp hx with rfl |hx
  .exact⟨h1,h2,h3⟩
  .exact hM x hx
theorem x6 {b:Addr}{H:Hp}:∀{xs:List V}{r:Γ3},bW b H xs (r.map PyData.int)->xs=r.map V.int
 |[],[],_=>rfl
 |_,_::_,.cons h t=>by cases h;rw[x6 t];rfl
theorem rE {b:Addr}{H:Hp}:∀{xs:List V}{M:Γ1},bW b H xs (M.map bT)->qZ H xs M
 |[],[],_=>.nil
 |_,_::_,.cons (x:=x) h t=>by
  unfold bT at h;cases h with
  |tup ha hs=>rw[x6 hs] at ha;exact .cons ⟨_,rfl,ha⟩ (rE t)
theorem j4 {M:Γ1}{i:Nat}(h:i<M.length):M.getD i []∈M:=by rw[gb (Zc h)];exact Zv h
theorem Ga {M:Γ1}{most:Int}(h1:1<=M.length)(h6:M.length<=6)(h:∀r∈M,1<=r.length/\r.length<=6/\HW most r):dec (vM most (pq M))=(List.range M.length).all λi=>decide ((M.getD i []).length=(M.getD 0 []).length):=by
 have h0:=h _ (j4 (i:=0) h1);cases e:(List.range M.length).all λi=>decide ((M.getD i []).length=(M.getD 0 []).length) with
 |true =>
  refine qk ⟨M,(M.getD 0 []).length,rfl,h1,h6,h0.1,h0.2.1,λr hr=>⟨?_,(h r hr).2.2⟩⟩;obtain⟨i,hi,er⟩:=Xp hr;have:=Zu.mp e i (Zm.mpr hi);rw[gb (Zc hi),er] at this;exact of_decide_eq_true this
 |false =>
  refine jT λ⟨N,g,eN,_,_,_,_,hN⟩=>?_
  obtain rfl:=kI eN;obtain⟨i,hi,cX⟩:=List.all_eq_false.mp e;have xr:=Zm.mp hi;exact cX (decide_eq_true ((hN _ (j4 xr)).1.trans (hN _ (j4 h1)).1.symm))
theorem FZ {most:Int}{d:PyData}(h:vM most d):pA d=true:=by obtain⟨M,_,rfl,_⟩:=h;rfl
theorem k6 {d:PyData}(h:Sx d):∃x y,d=.tuple [x,y]/\vM 10 x/\vM 100 y:=by
 obtain⟨B,W,g,rfl,hl,h1,h6,g1,g6,hB,hW,_,_⟩:=h;exact⟨_,_,rfl,⟨B,g,rfl,h1,h6,g1,g6,hB⟩,⟨W,g,rfl,by omega,by omega,g1,g6,hW⟩⟩
theorem Nb {B W:Γ1}{g g':Nat}(UG:1<=B.length)(hB6:B.length<=6)(ZY:1<=W.length)(g1:1<=g)(g6:g<=6)(hB:∀r∈B,r.length=g/\HW 10 r)(hW:∀r∈W,r.length=g'/\HW 100 r) :
  dec (Sx (.tuple [pq B,pq W]))=(decide (W.length=B.length)&&decide (g'=g)&&iW B g&&iW W g):=by
 cases e:(decide (W.length=B.length)&&decide (g'=g)&&iW B g&&iW W g) with
 |true =>
  simp only[Zl,decide_eq_true_eq] at e;obtain⟨⟨⟨e1,e2⟩,e3⟩,e4⟩:=e;subst e2;exact qk ⟨B,W,g',rfl,e1,UG,hB6,g1,g6,hB,hW,e3,e4⟩
 |false =>
  refine jT λ⟨B',W',h,eq,hl,_,_,_,_,hB',hW',hn1,Ua⟩=>?_
  injection eq with eq
  injection eq with e1 e2
  injection e2 with e2 _
  obtain rfl:=kI e1;obtain rfl:=kI e2;have a1:=(hB _ (j4 UG)).1;have a2:=(hB' _ (j4 UG)).1;have a3:=(hW _ (j4 ZY)).1;have a4:=(hW' _ (j4 ZY)).1;have eg:h=g:=by omega
  have eg':g'=g:=by omega
  subst eg;rw[decide_eq_true hl,decide_eq_true eg',hn1,Ua] at e;cases e
def Cg:Sp:=λvs H Q _=>∃(b:Addr) (v:V) (d:PyData) (most:Int),vs=[v,.int most]/\iP b H v d/\∀H',ai H H'->Q (.bl (dec (Bh most d))) H'
def HZ:Sp:=λvs H Q _=>∃(b:Addr) (v:V) (d:PyData) (most:Int),vs=[v,.int most]/\iP b H v d/\∀H',ai H H'->Q (.bl (dec (vM most d))) H'
def x9:Sp:=λvs H Q _=>∃(a:Addr) (xs:List V) (M:Γ1) (g:Nat),vs=[.ref a]/\H a=some (.tup xs)/\qZ H xs M/\1<=M.length/\M.length<=6/\g<=6/\(∀r∈M,r.length=g)/\∀H',ai H H'->Q (.bl (iW M g)) H'
def eu (M:Γ1)(g:Nat):Γ1:=(List.range g).map λj=>M.map λr=>r.getD j 0
def Cq:Sp:=λvs H Q _=>∃(a:Addr) (xs:List V) (M:Γ1) (g:Nat),vs=[.ref a]/\H a=some (.tup xs)/\qZ H xs M/\1<=M.length/\M.length<=6/\g<=6/\(∀r∈M,r.length=g)/\∀(r:Addr) (ys:List V) (H':Hp),ai H H'->H' r=some (.lst ys)->NL H' ys (eu M g)->Q (.ref r) H'
def NI (d:PyData):Bool:=dec (Sx d)
theorem o8 (ns:Γ3):(ns.map V.int).all de=true:=by rw[Yr];simp[Function.comp_def,de]
theorem any_ints (ns:Γ3):(ns.map V.int).any tv=ns.any λx=>x != 0:=by rw[Qd];rfl
theorem v9 {H:Hp}{xs:List V}{M:Γ1}{i:Nat}{x:V}(r:qZ H xs M)(h:xs[i]?=some x):i<M.length/\∃a,x=.ref a/\H a=some (.tup ((M.getD i []).map V.int)):=by
 have hi:i<M.length:=by rw[<- r.len];exact(Zd.mp h).1
 obtain⟨a,e,_,ha⟩:=eU r hi;rw[h] at e;exact⟨hi,a,by simpa using e,ha⟩
end KM
namespace zz
open PySem L2 KG EX KM kr
section
variable {P:Program}{w:World}{K:Θ1}{mg:Θ3}{base:Heap}
theorem Q6:ao ["thing","most"] ["thing","most"] (aS (top 48)):=L2.c6
theorem L7 {f fW:Addr}{fd dW:FuncData}{tk:Tok}(F:cy K "is_row" "is_row" (top 48) f fd)(N:Nm mg)(Z:rd K)(hc:mg "MOST_GOODS"=some (.int 6 tk))(W:bo K mg P w base "is_whole" 1 ["thing"] (spT eX) fW dW):aJ P w K mg base cH 2 f fd ["thing","most"] Cg:=by
 refine F.ok Q6 (λvs H Q E h=>?_) (λbf A outer s H vs Q E hr h=>?_)
 .obtain⟨b,v,d,most,rfl,_⟩:=h;rfl
 .obtain⟨b,v,d,most,rfl,hT,k⟩:=h;refine⟨_,dz (dq (PW.pt (pw_or (vB (tH (nI K (pv 0) rfl N.isinstance rfl N.tuple mR nE))) (pw_or1 (vB (uy n9 n9 bF (jK aV (by rfl) N.len PySem.boot_len (aQ (pv 0) bK)) (m7 (v:=.int 6) rfl hc ⟨_,rfl⟩)))))) (cT (eG iB)) tw)
   (cT (eG (jK (iD rfl) (by rfl) N.all AJ (aQ (tJ (own:=["number"]) (cap:=["most"]) (ix:=[1]) (az.of (aS (top 48)).names ["thing","most"]) rfl (rk (pv 0))
    (λC fp s H=>⟨eH (i:=0) (Ψ9 ["number","most"]) rfl (Or.inl rfl),xp,io (jV W.ok hr rfl W.mg W.kp W.bd .nil cw (aQ (pv 0) bK)) (gw (DF n9 n9 bF (pv 0) (pv 1)))⟩)) bK)))),?_⟩
  obtain⟨t1,xm,e1⟩:=Oc Z hT;refine⟨_,rfl,t1,_,xm,e1,_,rfl,?_⟩;have hk:=k H (ai.refl H);rcases kH hT with hn |⟨a,xs,ds,rfl,rfl,ha,hs⟩
  .rw[hn];rw[jT λ⟨r,e,_⟩=>by rw[e] at hn;cases hn] at hk;exact aU (aU hk)
  refine bC ?_;have bN:=hs.len;refine⟨_,rfl,a,xs,rfl,.inr (aG.of ha),_,_,rfl,rfl,_,rfl,?_⟩;have no:¬ (1<=ds.length/\ds.length<=6)->Q (.bl false) H:=λhz=>by
   rw[jT λ⟨r,e,h1,h2,_⟩=>by unfold bT at e;injection e with e;rw[e,Zb] at hz;exact hz ⟨h1,h2⟩] at hk;exact hk
  by_cases h1:(1:Int)<=(xs.length:Int)
  case neg =>
   rw[decide_eq_false h1];exact bC ⟨_,rfl,aU (no (by omega))⟩
  rw[decide_eq_true h1];refine aU ⟨_,_,rfl,rfl,_,rfl,?_⟩;by_cases h2:(xs.length:Int)<=6
  case neg =>
   rw[decide_eq_false h2];exact aU (no (by omega))
  rw[decide_eq_true h2];refine bC ?_;refine⟨_,rfl,a,rfl,⟨xs,aG.of ha⟩,λacc bu=>?_⟩;refine pj (within 0 most) hs ha bu (by omega) (λx d H' st hx _ Z hZ=>⟨_,rfl,b,x,d,rfl,hx,λH5 s5=>⟨_,rfl,?_⟩⟩) (λH' st hy=>?_)
  .have hz:=hZ H5 s5;rcases kO hx with hn |⟨i,rfl,rfl⟩
   .rw[hn];rw[zH hn] at hz;exact bC hz
   .refine aU ⟨_,rfl,_,_,rfl,rfl,_,rfl,?_⟩;have za:Z (.bl (decide ((0:Int)<=i)&&decide (i<=most))) H5:=hz;cases h1:decide ((0:Int)<=i) with
    |true=>rw[h1] at za;exact aU ⟨_,rfl,_,_,rfl,rfl,za⟩
    |false=>rw[h1] at za;exact bC za
  refine⟨acc,_,rfl,.inl (bA.of hy),mm,?_⟩;rw[qS,<- Di (by omega) (by omega)];exact k H' st
theorem Q5:ao ["thing","most"] ["thing","most"] (aS (top 47)):=L2.c6
theorem LY {f fW:Addr}{fd dW:FuncData}{tk:Tok}(F:cy K "is_table" "is_table" (top 47) f fd)(N:Nm mg)(Z:rd K)(hc:mg "MOST_BUYERS"=some (.int 6 tk))(W:bo K mg P w base "is_row" 2 ["thing","most"] Cg fW dW):aJ P w K mg base cH 3 f fd ["thing","most"] HZ:=by
 refine F.ok Q5 (λvs H Q E h=>?_) (λbf A outer s H vs Q E hr h=>?_)
 .obtain⟨b,v,d,most,rfl,_⟩:=h;rfl
 .obtain⟨b,v,d,most,rfl,hT,k⟩:=h;refine⟨_,dz (dq (PW.pt (pw_or (vB (tH (nI K (pv 0) rfl N.isinstance rfl N.tuple mR nE))) (pw_or1 (vB (uy n9 n9 bF (jK aV (by rfl) N.len PySem.boot_len (aQ (pv 0) bK)) (m7 (v:=.int 6) rfl hc ⟨_,rfl⟩)))))) (cT (eG iB)) tw)
   (cT (eG (io (jK (iD rfl) (by rfl) N.all AJ (aQ (tJ (own:=["row"]) (cap:=["most"]) (ix:=[1]) (az.of (aS (top 47)).names ["thing","most"]) rfl (rk (pv 0))
    (λC fp s H=>⟨eH (i:=0) (Ψ9 ["row","most"]) rfl (Or.inl rfl),xp,jV W.ok hr rfl W.mg W.kp W.bd .nil cw (aQ (pv 0) (aQ (pv 1) bK))⟩)) bK))
    (gw (jK (iD rfl) (by rfl) N.all AJ (aQ (tJ (own:=["row"]) (cap:=["thing"]) (ix:=[0]) (az.of (aS (top 47)).names ["thing","most"]) rfl (rk (pv 0))
    (λC fp s H=>⟨eH (i:=0) (Ψ9 ["row","thing"]) rfl (Or.inl rfl),xp,vE xH (jK aV (by rfl) N.len PySem.boot_len (aQ (pv 0) bK)) (jK aV (by rfl) N.len PySem.boot_len (aQ (cS bH (pv 1) bF (λ_ _=>rfl)) bK)) (au _)⟩)) bK)))))),?_⟩
  obtain⟨t1,xm,e1⟩:=Oc Z hT;refine⟨_,rfl,t1,_,xm,e1,_,rfl,?_⟩;have hk:=k H (ai.refl H);rcases kH hT with hn |⟨a,xs,ds,rfl,rfl,ha,hs⟩
  .rw[hn];rw[jT λh=>by rw[FZ h] at hn;cases hn] at hk;exact aU (aU hk)
  refine bC ?_;have bN:=hs.len;refine⟨_,rfl,a,xs,rfl,.inr (aG.of ha),_,_,rfl,rfl,_,rfl,?_⟩;have no:¬ (1<=ds.length/\ds.length<=6)->Q (.bl false) H:=λhz=>by
   rw[jT λ⟨M,g,e,h1,h2,_⟩=>by unfold pq at e;injection e with e;rw[e,Zb] at hz;exact hz ⟨h1,h2⟩] at hk;exact hk
  by_cases h1:(1:Int)<=(xs.length:Int)
  case neg =>
   rw[decide_eq_false h1];exact bC ⟨_,rfl,aU (no (by omega))⟩
  rw[decide_eq_true h1];refine aU ⟨_,_,rfl,rfl,_,rfl,?_⟩;by_cases h2:(xs.length:Int)<=6
  case neg =>
   rw[decide_eq_false h2];exact aU (no (by omega))
  rw[decide_eq_true h2];refine bC ?_;refine⟨_,rfl,a,rfl,⟨xs,aG.of ha⟩,λacc bu=>?_⟩;refine pj (λd=>dec (Bh most d)) hs ha bu (by omega) (λx d H' st hx _ Z hZ=>⟨_,rfl,_,rfl,b,x,d,most,rfl,hx,hZ⟩) (λH' st hy=>?_);refine⟨acc,_,rfl,.inl (bA.of hy),mm,_,rfl,?_⟩;rw[qS];cases lL:ds.all λd=>dec (Bh most d) with
  |false =>
   have za:=k H' st;rw[jT λ⟨M,g,e,_,_,g1,g6,hM⟩=>by
    unfold pq at e;injection e with e
    rw[e,Yr] at lL;obtain⟨r,iF,hn⟩:=List.all_eq_false.mp lL;exact hn (qk ⟨r,rfl,by rw[(hM r iF).1];exact g1,by rw[(hM r iF).1];exact g6,(hM r iF).2⟩)] at za
   exact bC za
  |true =>
   obtain⟨M,rfl,hM⟩:=ux lL;rw[Zb] at bN;have YE:=rE hs;refine aU ⟨_,rfl,a,rfl,⟨xs,aG.of (st _ _ ha)⟩,λnY fv=>?_⟩;obtain⟨a0,_,JI,JD⟩:=eU YE (i:=0) (by omega);refine rF (xs:=xs) (λ_=>true) (λi=>V.bl (decide ((M.getD i []).length=(M.getD 0 []).length))) fv (by omega) (st _ _ ha) (λi x H2 Z _ _ h=>h H2 (ai.refl H2)) (λi x H2 Z hx _ s2 h=>?_) (λH2 s2 h2=>?_)
   .obtain⟨hi,c,rfl,jN⟩:=v9 YE hx;have gG:=st.trans s2;refine⟨_,rfl,c,_,rfl,.inr (aG.of (gG _ _ jN)),_,rfl,a,_,_,_,rfl,rfl,aG.of (gG _ _ ha),JI,a0,_,rfl,.inr (aG.of (gG _ _ JD)),rfl,?_⟩;rw[Zb,Zb];have e:decide (V.int ((M.getD i []).length:Int)=V.int ((M.getD 0 []).length:Int))=decide ((M.getD i []).length=(M.getD 0 []).length):=by
     rw[decide_eq_decide];constructor
     .intro h;injection h with h;omega
     .intro h;rw[h]
    rw[e];exact h H2 (ai.refl H2)
   .rw[Qg.mpr (λ_ _=>rfl)] at h2;refine⟨nY,_,rfl,.inl (bA.of h2),gQ _ _,?_⟩;rw[wA,bN,<- Ga (most:=most) (by omega) (by omega) hM];exact k H2 (st.trans s2)
theorem Lk:ao ["table"] ["table"] (aS (top 50)):=L2.c6
theorem sx {f:Addr}{fd:FuncData}(F:cy K "columns" "columns" (top 50) f fd)(N:Nm mg):aJ P w K mg base cH 1 f fd ["table"] Cq:=by
 refine F.ok Lk (λvs H Q E h=>?_) (λbf A outer s H vs Q E hr h=>?_)
 .obtain⟨a,xs,M,g,rfl,_⟩:=h;rfl
 .obtain⟨a,xs,M,g,rfl,ha,r,n1,n6,g6,hl,k⟩:=h;refine⟨_,cT (eG (tJ (own:=["good"]) (cap:=["table"]) (ix:=[0]) (az.of (aS (top 50)).names ["table"]) rfl (jE rfl N.range (aQ (jK aV (by rfl) N.len PySem.boot_len (aQ (cS bH (pv 0) bF (λ_ _=>rfl)) bK)) bK))
   (λC fp s H=>⟨eH (i:=0) (Ψ9 ["good","table"]) rfl (Or.inr rfl),xp,tJ (own:=["row"]) (cap:=["good"]) (ix:=[0]) (az.of [(".0",.local),("good",.cell),("table",.cell)] ["good","table"]) rfl (rk (pv 1))
    (λC fp s H=>⟨eH (i:=0) (Ψ9 ["row","good"]) rfl (Or.inl rfl),xp,cS bH (pv 0) (pv 1) (λ_ _=>rfl)⟩)⟩))),?_⟩
  obtain⟨a0,_,JI,JD⟩:=eU r (i:=0) n1;have Uf:=gk hl (i:=0) n1;refine⟨_,rfl,a,_,_,_,rfl,rfl,aG.of ha,JI,a0,_,rfl,.inr (aG.of JD),(g:Int),by rw[Zb,Uf],by omega,by omega,λacc bu=>?_⟩;rw[Zj];refine ke (λi ys H'=>ai H H'/\NL H' ys (eu M i)) ⟨(ai.refl H).acc bu,⟨rfl,λj x hx=>by simp at hx⟩⟩ ?_ (λys H' hy ⟨s,l⟩=>k acc ys H' s hy l);rintro i ys H1 hi hy ⟨s1,l1⟩;rw[Int.zero_add];refine tY ⟨_,rfl,a,rfl,⟨_,aG.of (s1 _ _ ha)⟩,λnY fv=>?_⟩;have WQ:nY≠acc:=λz=>by rw[z,hy] at fv;cases fv
  refine rF (xs:=xs) (λ_=>true) (λj=>V.int ((M.getD j []).getD i 0)) fv (by rw[r.len];omega) (s1 _ _ ha) (λj x H2 Z _ _ h=>h H2 (ai.refl H2)) (λj x H2 Z hx _ s2 h=>?_) (λH2 s2 h2=>?_)
  .obtain⟨hj,c,rfl,jN⟩:=v9 r hx;have hlj:=gk hl hj;obtain⟨eb,_,_⟩:=oW (ns:=M.getD j []) (r:=(i:Int)) (by omega) (by omega);rw[Zj] at eb;exact⟨_,rfl,_,rfl,c,_,_,_,rfl,rfl,aG.of ((s1.trans s2) _ _ jN),eb,h H2 (ai.refl H2)⟩
  .have e2:((List.range xs.length).filter λ_=>true).map (λj=>V.int ((M.getD j []).getD i 0))=(M.map λr=>r.getD i 0).map V.int:=by
    rw[Qg.mpr (λ_ _=>rfl),r.len,Zi];conv=>rhs;rw[<- nk M [],Zi]
    rfl
   rw[e2] at h2;have hl1:=l1.1;have A6:(eu M i).length=i:=by unfold eu;rw[Zb,Xo]
   refine⟨ys,s2 _ _ hy,by rw[sz];omega,Cn.of cL ⟨(s1.trans s2).acc bu,?_⟩⟩;have e3:eu M (i+1)=eu M i++[M.map λr=>r.getD i 0]:=by
    unfold eu;rw[Yo,Zs];rfl
   rw[e3];have IU:∀(u:Addr) (zs:List V),H2 u=some (.lst zs)->u≠acc->(aK H2 acc (.lst (ys++[.ref nY]))) u=some (.lst zs):=λu zs hu hn=>by rw[dh hn];exact hu
   refine NL.app ⟨hl1,λj x hx=>?_⟩ (IU nY _ h2 WQ);obtain⟨u,e,hu⟩:=l1.2 j x hx;refine⟨u,e,IU u _ (s2 _ _ hu) λz=>?_⟩;rw[z,hy] at hu;injection hu with hu
   injection hu with hu
   have Uh:=(Zd.mp hx).1;have:ys[j]?=some (V.int (((eu M i).getD j []).getD j 0))\/False:=by
    left
    rw[hu,Zg];have ZP:j<((eu M i).getD j []).length:=by
     have:=congrArg List.length hu;rw[Zb] at this;omega
    rw[Zc ZP,gb (Zc ZP)];rfl
   rcases this with y |y
   .rw[hx,e] at y;cases y
   .exact y
theorem Wy:ao ["table"] ["table"] (aS (top 49)):=L2.c6
theorem Rp {f fC:Addr}{fd dC:FuncData}(F:cy K "leaves_none_out" "leaves_none_out" (top 49) f fd)(N:Nm mg)(Co:bo K mg P w base "columns" 1 ["table"] Cq fC dC):aJ P w K mg base cH 2 f fd ["table"] x9:=by
 refine F.ok Wy (λvs H Q E h=>?_) (λbf A outer s H vs Q E hr h=>?_)
 .obtain⟨a,xs,M,g,rfl,_⟩:=h;rfl
 .obtain⟨a,xs,M,g,rfl,ha,r,n1,n6,g6,hl,k⟩:=h;refine⟨_,cT (eG (io (jK (iD rfl) (by rfl) N.all AJ (aQ (tJ (own:=["row"]) (cap:=[]) (ix:=[]) (az.of (aS (top 49)).names ["table"]) rfl (rk (pv 0))
    (λC fp s H=>⟨eH (i:=0) (Ψ9 ["row"]) rfl (Or.inl rfl),xp,jK (qm rfl) (by rfl) N.any boot_any (aQ (pv 0) bK)⟩)) bK))
   (gw (jK (iD rfl) (by rfl) N.all AJ (aQ (tJ (own:=["column"]) (cap:=[]) (ix:=[]) (az.of (aS (top 49)).names ["table"]) rfl (Fy (jV Co.ok hr rfl Co.mg Co.kp Co.bd .nil cw (aQ (pv 0) bK)))
    (λC fp s H=>⟨eH (i:=0) (Ψ9 ["column"]) rfl (Or.inl rfl),xp,jK (qm rfl) (by rfl) N.any boot_any (aQ (pv 0) bK)⟩)) bK))))),?_⟩
  refine⟨_,rfl,a,rfl,⟨_,aG.of ha⟩,λacc bu=>?_⟩;refine rF (xs:=xs) (λ_=>true) (λi=>V.bl ((M.getD i []).any λx=>x != 0)) bu (by rw[r.len];omega) ha (λj x H2 Z _ _ h=>h H2 (ai.refl H2)) (λj x H2 Z hx _ s2 h=>?_) (λH1 s1 h1=>?_)
  .obtain⟨hj,c,rfl,jN⟩:=v9 r hx;refine⟨_,rfl,c,_,rfl,.inr (aG.of (s2 _ _ jN)),o8 _,?_⟩;rw[KM.any_ints];exact h H2 (ai.refl H2)
  rw[Qg.mpr (λ_ _=>rfl),r.len] at h1;refine⟨acc,_,rfl,.inl (bA.of h1),gQ _ _,_,rfl,?_⟩;rw[wA];have e1:(List.range M.length).all (λi=>(M.getD i []).any λx=>x != 0)=M.all λr=>r.any λx=>x != 0:=by
   conv=>rhs;rw[<- nk M [],Yr]
   rfl
  rw[e1];have Z8:iW M g=((M.all λr=>r.any λx=>x != 0)&&(List.range g).all λj=>M.any λr=>r.getD j 0 != 0):=rfl;cases hA:M.all λr=>r.any λx=>x != 0 with
  |false =>
   have hk:=k H1 s1;rw[Z8,hA] at hk;exact bC hk
  |true =>
   refine aU ⟨_,rfl,a,xs,M,g,rfl,s1 _ _ ha,r.keep s1.tm,n1,n6,g6,hl,λq ys H2 s2 hq lq=>?_⟩;have R5:=lq.1;have A6:(eu M g).length=g:=by unfold eu;rw[Zb,Xo]
   refine⟨q,rfl,⟨_,bA.of hq⟩,λnY fv=>?_⟩;refine GD (xs:=ys) (λ_=>true) (λi=>V.bl (((eu M g).getD i []).any λx=>x != 0)) fv (by omega) hq (λj x H3 Z _ _ h=>h H3 (ai.refl H3)) (λj x H3 Z hx _ s3 h=>?_) (λH3 s3 h3=>?_)
   .obtain⟨c,rfl,jN⟩:=lq.2 j x hx;refine⟨_,rfl,c,_,rfl,.inl (bA.of (s3 _ _ jN)),o8 _,?_⟩;rw[KM.any_ints];exact h H3 (ai.refl H3)
   .rw[Qg.mpr (λ_ _=>rfl),R5,A6] at h3;refine⟨nY,_,rfl,.inl (bA.of h3),gQ _ _,?_⟩;rw[wA];have e2:(List.range g).all (λi=>((eu M g).getD i []).any λx=>x != 0)=(List.range g).all λj=>M.any λr=>r.getD j 0 != 0:=by
     rw[Yp,Zu,Zu];have xr:∀j∈List.range g,((eu M g).getD j []).any (λx=>x != 0)=M.any λr=>r.getD j 0 != 0:=λj hj=>by
      have hjg:=Zm.mp hj;have:(eu M g).getD j []=M.map λr=>r.getD j 0:=by
       unfold eu;simp[List.getD,hjg]
      rw[this,Qd];rfl
     exact⟨λh j hj=>by rw[<- xr j hj];exact h j hj,λh j hj=>by rw[xr j hj];exact h j hj⟩
    rw[e2];have hk:=k H3 ((s1.trans s2).trans s3);rw[Z8,hA,Ys] at hk;exact hk
abbrev NIb:Δ2:=["thing","brought","wishes"]
theorem J8:ao NIb ["thing"] (aS (top 46)):=L2.c6
theorem Rr {f fW fN:Addr}{fd dW dN:FuncData}{tk S4:Tok}(F:cy K "is_barter" "is_barter" (top 46) f fd)(N:Nm mg)(Z:rd K)(hc:mg "MOST_BROUGHT"=some (.int 10 tk))(JA:mg "MOST_WISH"=some (.int 100 S4))(W:bo K mg P w base "is_table" 3 ["thing","most"] HZ fW dW)(No:bo K mg P w base "leaves_none_out" 2 ["table"] x9 fN dN):aJ P w K mg base cH 4 f fd ["thing"] (spT NI):=by
 refine F.ok J8 (λvs H Q E h=>?_) (λbf A outer s H vs Q E hr h=>?_)
 .obtain⟨b,v,d,rfl,_⟩:=h;rfl
 .obtain⟨b,v,d,rfl,hT,k⟩:=h;have tE:cz 2 _:=hr.mono (by decide);refine⟨_,dz (dq (PW.pt (pw_or (vB (tH (nI K (pv 0) rfl N.isinstance rfl N.tuple mR nE))) (pw_or1 (p6 kD (jK aV (by rfl) N.len PySem.boot_len (aQ (pv 0) bK)) bF (au _))))) (cT (eG iB)) tw)
   (dz (j3 (pv 0) (gr (n:=2) rfl (qX (eH (i:=1) J8.nd rfl (Or.inl rfl)) (qX (eH (i:=2) J8.nd rfl (Or.inl rfl)) EC))))
   (dz (dq (PW.pt (pw_or (vB (tH (jV W.ok hr rfl W.mg W.kp W.bd .nil cw (aQ (pv 1) (aQ (m7 (v:=.int 10) rfl hc ⟨_,rfl⟩) bK))))) (pw_or1 (vB (tH (jV W.ok hr rfl W.mg W.kp W.bd .nil cw (aQ (pv 2) (aQ (m7 (v:=.int 100) rfl JA ⟨_,rfl⟩) bK)))))))) (cT (eG iB)) tw)
   (dz (dq (PW.pt (pw_or (p6 kD (jK aV (by rfl) N.len PySem.boot_len (aQ (pv 1) bK)) (jK aV (by rfl) N.len PySem.boot_len (aQ (pv 2) bK)) (au _)) (pw_or1 (p6 kD (jK aV (by rfl) N.len PySem.boot_len (aQ (cS bH (pv 1) bF (λ_ _=>rfl)) bK)) (jK aV (by rfl) N.len PySem.boot_len (aQ (cS bH (pv 2) bF (λ_ _=>rfl)) bK)) (au _))))) (cT (eG iB)) tw)
   (cT (eG (io (jV No.ok tE rfl No.mg No.kp No.bd .nil cw (aQ (pv 1) bK)) (gw (jV No.ok tE rfl No.mg No.kp No.bd .nil cw (aQ (pv 2) bK))))))))),?_⟩
  obtain⟨t1,xm,e1⟩:=Oc Z hT;refine⟨_,rfl,t1,_,xm,e1,_,rfl,?_⟩;have no:∀H',ai H H'->¬ Sx d->Q (.bl false) H':=λH' st hz=>by
   have hk:=k H' st;unfold NI at hk;rw[jT hz] at hk;exact hk
  rcases kH hT with hn |⟨a,xs,ds,rfl,rfl,ha,hs⟩
  .rw[hn];exact aU (aU (no H (ai.refl H) λh=>by obtain⟨x,y,e,_⟩:=k6 h;rw[e] at hn;cases hn))
  refine bC ?_;have bN:=hs.len;refine⟨_,rfl,a,xs,rfl,.inr (aG.of ha),rfl,_,rfl,?_⟩;by_cases hl:xs.length=2
  case neg =>
   have e2:(!decide (V.int (xs.length:Int)=V.int 2))=true:=kF (b:=2) hl;rw[e2];exact aU (no H (ai.refl H) λh=>by obtain⟨x,y,e,_⟩:=k6 h;injection e with e;rw[e] at bN;simp at bN;omega)
  have e2:(!decide (V.int (xs.length:Int)=V.int 2))=false:=by rw[hl];rfl
  rw[e2];refine bC ?_
  match xs,ds,hl,hs with
  |[x,y],_,_,.cons (d:=dx) hx (.cons (d:=dy) hy .nil) =>
  refine⟨_,rfl,a,_,rfl,aG.of ha,rfl,_,_,rfl,_,_,rfl,rfl,?_⟩;refine⟨_,rfl,b,x,dx,10,rfl,hx,λH1 s1=>⟨_,rfl,?_⟩⟩;rcases qH (vM 10 dx) with ⟨e,hB⟩ |⟨e,hB⟩
  case inr =>
   rw[e];exact aU (aU (no H1 s1 λh=>by obtain⟨x',y',e',h1,_⟩:=k6 h;injection e' with e';injection e' with e' _;rw[e'] at hB;exact hB h1))
  rw[e];refine bC ⟨_,rfl,b,y,dy,100,rfl,hy.ay s1,λH2 s2=>⟨_,rfl,?_⟩⟩;rcases qH (vM 100 dy) with ⟨e,hW⟩ |⟨e,hW⟩
  case inr =>
   rw[e];exact aU (no H2 (s1.trans s2) λh=>by obtain⟨x',y',e',_,h1⟩:=k6 h;injection e' with e';injection e' with _ e';injection e' with e' _;rw[e'] at hW;exact hW h1)
  rw[e];refine bC ?_;have vo:=s1.trans s2;obtain⟨B,g,rfl,B1,B6,g1,g6,hB⟩:=hB;obtain⟨W',g',rfl,W1,W6,Z4,g6',hW⟩:=hW;have hx2:=hx.ay vo;have Nz:=hy.ay vo;cases hx2 with
  |@tup pB xB _ TZ hsB =>
  cases Nz with
  |@tup pW xW _ TY hsW =>
  have rB:=rE hsB;have rW:=rE hsW;have kk:∀H',ai H H'->Q (.bl (decide (W'.length=B.length)&&decide (g'=g)&&iW B g&&iW W' g)) H':=λH' st=>by
   have hk:=k H' st;have:NI (.tuple [pq B,pq W'])=_:=Nb B1 B6 W1 g1 g6 hB hW;rw[this] at hk;exact hk
  obtain⟨b0,_,eb0,Fc⟩:=eU rB (i:=0) B1;obtain⟨w0,_,ew0,TQ⟩:=eU rW (i:=0) W1;have lb0:=gk (λr iF=>(hB r iF).1) (i:=0) B1;have lw0:=gk (λr iF=>(hW r iF).1) (i:=0) W1;refine⟨_,rfl,pB,_,rfl,.inr (aG.of TZ),_,rfl,pW,_,rfl,.inr (aG.of TY),rfl,_,rfl,?_⟩;rw[rB.len,rW.len];by_cases OH:B.length=W'.length
  case neg =>
   rw[kF OH];refine aU (aU ?_);have:=kk H2 vo;rw[decide_eq_false (λz=>OH z.symm)] at this;exact this
  rw[OH,xV];refine bC ⟨_,rfl,pB,_,_,_,rfl,rfl,aG.of TZ,eb0,b0,_,rfl,.inr (aG.of Fc),_,rfl,pW,_,_,_,rfl,rfl,aG.of TY,ew0,w0,_,rfl,.inr (aG.of TQ),rfl,_,rfl,?_⟩;rw[Zb,Zb,lb0,lw0];by_cases Um:g=g'
  case neg =>
   rw[kF Um];refine aU ?_;have:=kk H2 vo;rw[decide_eq_false (p:=g'=g) (λz=>Um z.symm),Xk] at this;exact this
  subst Um;rw[xV];refine bC ⟨_,rfl,pB,xB,B,g,rfl,TZ,rB,B1,B6,g6,λr iF=>(hB r iF).1,λH3 s3=>⟨_,rfl,?_⟩⟩;have TF:=kk H3 (vo.trans s3);rw[decide_eq_true OH.symm,decide_eq_true (rfl:g=g),Ys,Ys] at TF;cases E9:iW B g with
  |false=>rw[E9] at TF;exact bC TF
  |true =>
   refine aU ⟨_,rfl,pW,xW,W',g,rfl,s3 _ _ TY,rW.keep s3.tm,W1,W6,g6,λr iF=>(hW r iF).1,λH4 s4=>?_⟩;have YR:=kk H4 ((vo.trans s3).trans s4);rw[decide_eq_true OH.symm,decide_eq_true (rfl:g=g),E9,Ys,Ys,Ys] at YR;exact YR
end
end zz
namespace KM
open PySem L2 KG EX
end KM
namespace MI
open PySem L2 KG EX KM
theorem ints_of {b:Addr}{H:Hp}:∀{ns:Γ3}{vs:List V},bW b H vs (ns.map PyData.int)->vs=ns.map V.int
 |[],_,h=>by cases h;rfl
 |n::ns,_,h=>by
  cases h with |cons h1 h2=>?_
  cases h1
  rw[ints_of h2];rfl
theorem v8 {b:Addr}{H:Hp}:∀{M:Γ1}{zs:List V},bW b H zs (M.map bT)->qZ H zs M
 |[],_,h=>by cases h;exact .nil
 |r::M,_,h=>by
  cases h with |cons h1 h2=>?_
  cases h1 with |tup h3 h4=>?_
  rw[ints_of h4] at h3;exact .cons ⟨_,rfl,h3⟩ (v8 h2)
def IZ:FM:=λO xs P _=>∃(B W:Γ1) (g:Nat),xs=[.im (iK B W)]/\W.length=B.length/\1<=B.length/\B.length<=6/\1<=g/\g<=6/\(∀r∈B,r.length=g)/\(∀r∈W,r.length=g)/\P (.im (nU B W g)) O
theorem G8 (B W:Γ1)(g:Nat):sZ (nU B W g)=true:=by
 unfold nU;split
 .rfl
 .show(sZ (PyData.tuple _)&&(true&&true))=true;rw[show sZ (PyData.tuple ((lC B W g _).map PyData.int))=true from m9 _];rfl
theorem G9 (B W:Γ1):sZ (iK B W)=true:=by
 show(mD (B.map bT)&&(mD (W.map bT)&&true))=true;rw[E1 m9,E1 m9];rfl
theorem Hn {K:Θ1}:qd K oM IZ:=λw O H vs xs P PX Q E r a hf q x=>by
 obtain⟨B,W,g,rfl,h1,h2,h3,h4,h5,h6,h7,hf⟩:=hf;obtain⟨v,rfl,hv⟩:=FV a;cases X4 0 hv (G9 B W) with |tup e1 e2=>?_
 cases e2 with |cons e3 e4=>?_
 cases e4 with |cons e5 e6=>?_
 cases e6
 cases e3 with |tup e7 e8=>?_
 cases e5 with |tup e9 e10=>?_
 refine⟨_,_,_,_,_,B,W,g,rfl,⟨e1,e7,e9,v8 e8,v8 e10,h1,h2,h3,h4,h5,h6,h7⟩,λz H' s t=>?_⟩;obtain⟨r1,U1,_⟩:=r.ay s;exact q _ _ O w H' hf U1 r1 (toG r1 (t 0) (G8 B W g))
end MI
namespace NB
def SI (n:Nat)(f:Nat->Int):Int:=((List.range n).map f).sum
theorem AI (n:Nat)(f:Nat->Int):SI (n+1) f=SI n f+f n:=by unfold SI;rw[Yo,Zs,Qa];simp
theorem sR (f:Nat->Int):SI 0 f=0:=rfl
theorem Ni (n:Nat)(f g:Nat->Int):SI n (λi=>f i+g i)=SI n f+SI n g:=by
 induction n with
 |zero=>rfl
 |succ n ih=>rw[AI,AI,AI,ih];omega
theorem C9 (n:Nat):SI n (λ_=>0)=0:=by
 induction n with
 |zero=>rfl
 |succ n ih=>rw[AI,ih];rfl
theorem HD (n g:Nat)(F:Nat->Nat->Int):SI n (λi=>SI g (λj=>F i j))=SI g (λj=>SI n (λi=>F i j)):=by
 induction n with
 |zero=>rw[sR];exact(C9 g).symm
 |succ n ih =>
  rw[AI,ih,<- Ni]
  congr 1
  funext j
  rw[AI]
theorem ul {n:Nat}{f g:Nat->Int}(h:∀i,i<n->f i<=g i):SI n f<=SI n g:=by
 induction n with
 |zero=>exact Int.le_refl _
 |succ n ih=>rw[AI,AI];have:=ih λi hi=>h i (by omega);have:=h n (by omega);omega
theorem Jf {n k:Nat}{f g:Nat->Int}(h:∀i,i<n->f i<=g i)(hk:k<n)(hs:f k<g k):SI n f<SI n g:=by
 induction n with
 |zero=>exact absurd hk (by omega)
 |succ n ih =>
  rw[AI,AI];by_cases e:k=n
  .subst e;have:=ul (n:=k) (f:=f) (g:=g) λi hi=>h i (by omega)
   omega
  .have:=ih (λi hi=>h i (by omega)) (by omega);have:=h n (by omega);omega
theorem gY {n:Nat}{f g:Nat->Int}(h:∀i,i<n->f i=g i):SI n f=SI n g :=
 Int.le_antisymm (ul λi hi=>Int.le_of_eq (h i hi)) (ul λi hi=>Int.le_of_eq (h i hi).symm)
theorem Nh (n:Nat)(f:Nat->Int)(c:Int):SI n (λi=>f i*c)=SI n f*c:=by
 induction n with
 |zero=>rw[sR,sR,Int.zero_mul]
 |succ n ih=>rw[AI,AI,ih,Int.add_mul]
theorem wQ {n g:Nat}{B D W:Nat->Nat->Int}{t:Nat->Int}{m:Nat->Bool}(ht:∀j,j<g->1<=t j)(hB:∀i j,i<n->j<g->0<=B i j)(hD:∀i j,i<n->j<g->0<=D i j)
  (zr:∀j,j<g->SI n (λi=>B i j)=SI n (λi=>D i j)) (W7:∀i,i<n->SI g (λj=>B i j*t j)=SI g (λj=>D i j*t j)) (ZM:∀i j,i<n->j<g->D i j≠0->0<W i j)
  (A6:∀j,j<g->(∃i,i<n/\m i=true/\0<W i j)->∀i,i<n->0<B i j->m i=true) {k:Nat}(hk:k<g) (h1:∃i,i<n/\m i=true/\0<B i k) (h2:∀i,i<n->m i=true->¬ 0<W i k):False:=by
 have e:SI n (λi=>if m i=true then SI g (λj=>B i j*t j) else 0)=SI n (λi=>if m i=true then SI g (λj=>D i j*t j) else 0):=gY λi hi=>by rw[W7 i hi]
 have sw:∀X:Nat->Nat->Int,SI n (λi=>if m i=true then SI g (λj=>X i j*t j) else 0)=SI g (λj=>SI n (λi=>if m i=true then X i j else 0)*t j):=λX=>by
  have a:SI n (λi=>if m i=true then SI g (λj=>X i j*t j) else 0)=SI n (λi=>SI g (λj=>(if m i=true then X i j else 0)*t j)):=gY λi _=>by
   split
   .rfl
   .simp only[Int.zero_mul];exact(C9 g).symm
  rw[a,HD];exact gY λj _=>Nh n _ _
 rw[sw,sw] at e;have le:∀j,j<g->SI n (λi=>if m i=true then D i j else 0)<=SI n (λi=>if m i=true then B i j else 0):=λj hj=>by
  by_cases w:∃i,i<n/\m i=true/\0<W i j
  .have b:SI n (λi=>if m i=true then B i j else 0)=SI n (λi=>B i j):=gY λi hi=>by
    by_cases mi:m i=true
    .rw[if_pos mi]
    .rw[if_neg mi];by_cases z:0<B i j
     .exact absurd (A6 j hj w i hi z) mi
     .have:=hB i j hi hj;omega
   rw[b,zr j hj];exact ul λi hi=>by have:=hD i j hi hj;split<;>omega
  .have d:SI n (λi=>if m i=true then D i j else 0)=SI n (λ_=>0):=gY λi hi=>by
    by_cases mi:m i=true
    .rw[if_pos mi];by_cases z:D i j=0
     .exact z
     .exact absurd ⟨i,hi,mi,ZM i j hi hj z⟩ w
    .rw[if_neg mi]
   rw[d];exact ul λi hi=>by have:=hB i j hi hj;split<;>omega
 have d0:SI n (λi=>if m i=true then D i k else 0)=SI n (λ_=>0):=gY λi hi=>by
  by_cases mi:m i=true
  .rw[if_pos mi];by_cases z:D i k=0
   .exact z
   .exact absurd (ZM i k hi hk z) (h2 i hi mi)
  .rw[if_neg mi]
 have lt:SI n (λi=>if m i=true then D i k else 0)<SI n (λi=>if m i=true then B i k else 0):=by
  rw[d0];obtain⟨i,hi,mi,hb⟩:=h1;exact Jf (k:=i) (λi hi=>by have:=hB i k hi hk;split<;>omega) hi (by rw[if_pos mi];exact hb)
 have:=Jf (n:=g) (k:=k) (f:=λj=>SI n (λi=>if m i=true then D i j else 0)*t j) (g:=λj=>SI n (λi=>if m i=true then B i j else 0)*t j) (λj hj=>Int.mul_le_mul_of_nonneg_right (le j hj) (by have:=ht j hj;omega)) hk (Int.mul_lt_mul_of_pos_right lt (by have:=ht k hk;omega));omega
end NB
namespace MI
open PySem L2 KG EX KM NB
theorem Er {n g:Nat}{ts:Γ3}{W D B:Γ1}(dl:qo n g ts W D)(b:pR n g ts D B):nU B W g=.none:=by
 refine Ee λs hs=>?_
 have E6:qe B W g s=true:=by
  have:=(Yb.mp hs).2;rw[Zl] at this;exact this.2
 have A1:=(zO hs).2;rw[b.bl] at A1;have A6:=jh.mp E6;rw[b.bl] at A6;rw[List.eq_nil_iff_forall_not_mem];intro k hk;obtain⟨hk1,yZ⟩:=Yb.mp hk;have hkg:=Zm.mp hk1;rw[Zl,Xb,Bool.not_eq_true'] at yZ;obtain⟨⟨h,hh,hb⟩,hw⟩:=yZ;have hb:0<UW B h.toNat k:=of_decide_eq_true hb;refine wQ (n:=n) (g:=g) (B:=λi j=>eI B i j) (D:=λi j=>eI D i j) (W:=λi j=>eI W i j) (t:=λj=>ts.getD j 0) (m:=λi=>s.contains (i:Int)) (λj hj=>(dl.t0 j hj).1) b.b0 (λi j hi hj=>(dl.d0 i j hi hj).1) (λj hj=>?_) (λi hi=>?_) (λi j hi hj z=>?_) (λj hj w i hi z=>?_) hkg ⟨h.toNat,?_,?_,hb⟩ (λi hi mi z=>?_)
 .have:=b.col j hj;rw[gX,gX,b.bl,dl.dl] at this;exact this
 .exact b.Tp i hi
 .have e:=dl.dw i j hi hj z;have:=(dl.t0 j hj).1;show 0<(W.getD i []).getD j 0;rw[e];omega
 .obtain⟨i',xr,YL,wi'⟩:=w;rw[Qe] at YL ⊢;refine A6 _ YL (i:Int) (by omega) (by omega) ?_;unfold gL;rw[Xb];refine⟨j,Zm.mpr hj,?_⟩;rw[Zl];exact⟨decide_eq_true z,decide_eq_true wi'⟩
 .have:=A1 h hh;omega
 .have:=A1 h hh;rw[Qe,show((h.toNat:Nat):Int)=h by omega];exact hh
 .rw[Qe] at mi;have:(s.any λh=>lF W h k)=true:=Xb.mpr ⟨_,mi,decide_eq_true z⟩;rw[this] at hw;cases hw
theorem oK (n:Nat)(f:Nat->Int):ck ((List.range n).map λi=>((f i:Int):Rat))=((((List.range n).map f).sum:Int):Rat):=by
 induction n with
 |zero=>rfl
 |succ n ih =>
  rw[Yo,Zs,Zs,Qa,ut,ih];have e1:ck ([n].map λi=>((f i:Int):Rat))=((f n:Int):Rat):=by show ck [_]=_;rw[lY];show _+(0:Rat)=_;rw[Rat.add_zero]
  have e2:([n].map f).sum=f n:=by simp
  rw[e1,e2,Rat.intCast_add]
theorem ox (r:Γ3)(j:Nat):(cY r).getD j 0=((r.getD j 0:Int):Rat):=by
 unfold cY;rcases Zz j r.length with y |y
 .exact vF y
 .rw[List.getD,Yq (by simpa using y),List.getD,Yq y];rfl
theorem rY {D:Γ1}{i j:Nat}(hi:i<D.length):eQ (D.map cY) i j=((eI D i j:Int):Rat):=by
 unfold eQ eI;rw[show(D.map cY).getD i []=cY (D.getD i []) from vF hi,ox]
theorem DH (ts r:Γ3)(g:Nat):iQ (cY ts) r g=((lG ts r g:Int):Rat):=by
 unfold iQ lG;rw[<- oK]
 congr 1
 exact Xi λj _=>by rw[ox,Xd,Rat.mul_comm]
theorem Ec {D:Γ1}{j:Nat}:pP (D.map cY) j=((cm D j:Int):Rat):=by
 rw[uM,gX,<- oK,Zb]
 congr 1
 exact Xi λi hi=>rY (Zm.mp hi)
theorem xi {n g:Nat}{ts:Γ3}{W D B:Γ1}(dl:qo n g ts W D)(b:pR n g ts D B):(∀j,j<g->has W j=true)/\c9 ((List.range g).map (cm B)) (B.map λr=>iQ (cY ts) r g) (cY ts) W (D.map cY) g=true:=by
 have hh:∀j,j<g->has W j=true:=λj hj=>by
  obtain⟨i,hi,hd⟩:=dl.cols j hj;have e:=dl.dw i j hi hj (by omega);have:=(dl.t0 j hj).1;unfold has;rw[Xb];exact⟨W.getD i [],by rw[gb (Zc (show i<W.length by rw[dl.wl];exact hi))];exact Zv _,decide_eq_true (by rw[e];omega)⟩
 refine⟨hh,Cr (λj hj=>?_) (λi hi=>?_)⟩
 .unfold kC;rw[hh j hj,if_pos rfl,Ec];have e:((List.range g).map (cm B)).getD j 0=cm B j:=by simp[List.getD,Yu hj]
  rw[e,b.col j hj];exact decide_eq_true rfl
 .rw[Zb,dl.dl] at hi;have hiW:i<W.length:=by rw[dl.wl];exact hi
  refine⟨λj hj=>?_,?_⟩
  .unfold fw;by_cases z:eI D i j=0
   .have e:=rY (D:=D) (i:=i) (j:=j) (by rw[dl.dl];exact hi);rw[z] at e;have e':((D.map cY).getD i []).getD j 0=0:=e;rw[decide_eq_true e'];rfl
   .have hw:=dl.dw i j hi hj z;have tj:=(dl.t0 j hj).1;have hb:d6 (W.getD i []) (cY ts) j=true:=by
     unfold d6;rw[Zl,decide_eq_true_eq,Zu];refine⟨by rw[hw];omega,λo ho=>?_⟩;have ho:=Zm.mp ho;rw[dl.wr i hi] at ho;have hwo:=(dl.w0 i o hi ho).2;unfold worse;rw[Bool.not_eq_true',Bool.and_eq_false_iff]
     right
     rw[decide_eq_false_iff_not,hw,ox,ox,<- Xd,<- Xd];intro cG;have P4:ts.getD j 0*ts.getD o 0<(W.getD i []).getD o 0*ts.getD j 0:=by exact_mod_cast cG
     have:=Int.mul_le_mul_of_nonneg_right hwo (show 0<=ts.getD j 0 by omega);rw[Int.mul_comm (ts.getD o 0)] at this;omega
    rw[Bool.or_eq_true]
    right
    have e:(bB W (cY ts)).getD i []=(i7 (W.getD i []) (cY ts)).map λg:Nat=>(g:Int):=by unfold bB;exact vF hiW
    rw[e,Qe];exact Zh.mpr ⟨j,Yb.mpr ⟨Zm.mpr (by rw[dl.wr i hi];exact hj),hb⟩,rfl⟩
  .have e1:(B.map λr=>iQ (cY ts) r g).getD i 0=iQ (cY ts) (B.getD i []) g:=vF (by rw[b.bl];exact hi);rw[e1,DH,b.Tp i hi];unfold i0 lG;rw[<- oK]
   congr 1
   exact Xi λj _=>by
    have e:=rY (D:=D) (i:=i) (j:=j) (by rw[dl.dl];exact hi);have e':((D.map cY).getD i []).getD j 0=((eI D i j:Int):Rat):=e;rw[e',ox,<- Xd];rfl
end MI
namespace MI
open PySem L2 KG EX KM
theorem LH {p q:Rat}(h:qD p=qD q):p=q:=by
 have:PyData.eqv (qD p) (qD q)=true:=by rw[h];exact RI q
 rw[rT] at this;exact of_decide_eq_true this
theorem sk:∀{p q:Δ1},p.map qD=q.map qD->p=q
 |[],[],_=>rfl
 |[],_::_,h=>by cases h
 |_::_,[],h=>by cases h
 |a::p,b::q,h=>by
  injection h with h1 h2
  rw[LH h1,sk h2]
theorem uE:∀{p q:List (Δ1)},(p.map λqs:Δ1=>PyData.tuple (qs.map qD))=(q.map λqs:Δ1=>PyData.tuple (qs.map qD))->p=q
 |[],[],_=>rfl
 |[],_::_,h=>by cases h
 |_::_,[],h=>by cases h
 |a::p,b::q,h=>by
  injection h with h1 h2
  injection h1 with h1
  rw[sk h1,uE h2]
theorem C2 {n g:Nat}{B W:Γ1}{qs:Δ1}{D:List (Δ1)}{R:Bool->Prop}(hq:qs.length=g)(xq:∀q∈qs,0<q)(hD:D.length=n)(zd:∀r∈D,r.length=g/\∀z∈r,0<=z)(r:R (c9 ((List.range g).map (cm B)) (B.map λr=>iQ qs r g) qs W D g)):Due n g B W (.tuple (qs.map qD)) (bD D) R:=by
 refine⟨λz=>?_,λqs' e _ _=>⟨λz=>?_,λD' e' _ _=>?_⟩⟩
 .rw[<- hq,m6 xq] at z;cases z
 .rw[uL hD (λr hr=>(zd r hr).1) (λr hr=>(zd r hr).2)] at z;cases z
 .injection e with e
  injection e' with e'
  rw[<- sk e,<- uE e'];exact r
theorem M4 (n g:Nat)(B W:Γ1)(p d:PyData):∃c,∀R:Bool->Prop,R c->Due n g B W p d R:=by
 cases hp:d7 g p with
 |false=>exact⟨false,λR r=>⟨λ_=>r,λqs e hq xq=>by rw[e,<- hq,m6 xq] at hp;cases hp⟩⟩
 |true =>
  obtain⟨qs,rfl,hq,xq⟩:=sP hp;cases hd:lI n g d with
  |false =>
   exact⟨false,λR r=>⟨λz=>(by rw[hp] at z;cases z),λqs' e _ _=>⟨λ_=>r,λD e' hD zd=>by rw[e',uL hD (λr hr=>(zd r hr).1) (λr hr=>(zd r hr).2)] at hd;cases hd⟩⟩⟩
  |true =>
   obtain⟨D,rfl,hD,zd⟩:=wm hd;exact⟨_,λR r=>C2 hq xq hD zd r⟩
abbrev KY:Δ2:=["script","k","bag","market","prices","dealing","barter","at","price","higher","alike","some","one","found"]
def CP (Pr:Addr):MS:=(aB (kz (gH (ae (aE eO (cE (oi λi j=>if j<i then j else i) (ae (cE BY (ae (ag 0) ah)) (ae (mC (.int 40)) ah))) (mC (.int 2))) ah)) (aW 1) (aB (aX (ax KN cf (ae (ag 0) (ae (ag 1) ah))) (aW 2))
 (aB (aX (ax rS cf (ae (ag 2) ah)) (vA 3 (bE (aW 3) (bE (aW 4) (bE (aW 5) gh)))))
 (aB (aX (ax FP cf (ae (ag 2) (ae (ag 3) (ae (ag 4) (ae (ag 5) ah))))) (aW 6))
 (di (bG (ax (fT NI) cf (ae (ag 6) ah))) (aB (di (kw (bG (aE BV (ax (uj Pr) cf (ae (ag 6) (ae (ag 4) (ae (ag 5) ah)))) (mC (.bool true)))) (bG (aE (sG true) (ax IZ cf (ae (ag 6) ah)) (mC .none)))) (bS (mC (.bool false))) cb)
 (aB (aX (ax cB cf (ae (ag 2) (ae (cE cP (ae (ag 4) ah)) ah))) (aW 7))
 (aB (aX (ax (f2 pG) cf (ae (aE bL (ag 4) (ag 7)) (ae (aE bL (ij (ae (fi (ae (mC (.int 2)) (ae (mC (.int 1)) ah))) (ae (fi (ae (mC (.int 9)) (ae (mC (.int 10)) ah))) ah))) (ax cB cf (ae (ag 2) (ae (mC (.int 2)) ah)))) ah))) (aW 8))
 (aB (aX (aE eO (aE eO (AW (ag 4) nK (nJ (ag 7))) (fi (ae (ag 8) ah))) (AW (ag 4) (nJ (aE eO (ag 7) (mC (.int 1)))) nK)) (aW 9))
 (aB (aX (cE iI (ae (bp 1 [] (bU (ag 4)) (aW 0) bZ (ax (f2 pG) cf (ae (ag 0) (ae (fi (ae (mC (.int 3)) (ae (mC (.int 7)) ah))) ah)))) ah)) (aW 10))
 (aB (aX (vQ (ae (ij (ae (ag 10) (ae (ag 5) ah))) (ae (ij (ae (ag 9) (ae (ag 5) ah))) ah))) (aW 11))
 (aB (iX (rq (ag 11) (ae (ij (ae (ax (zw 4) cf (ae (ag 2) (ae (ag 4) (ae (mC (.int 2)) ah)))) (ae (ag 5) ah))) ah)))
 (aB (iX (rq (ag 11) (ae (ij (ae (ag 4) (ae (ax (zw 4) cf (ae (ag 2) (ae (ag 5) (ae (mC (.int 3)) ah)))) ah))) ah)))
 (aB (iX (rq (ag 11) (ae (ij (ae (ag 4) (ae (aE eO (AW (ag 5) (nJ (mC (.int 1))) nK) (AW (ag 5) nK (nJ (mC (.int 1))))) ah))) ah)))
 (Kx 11 (aB (aX (aE eO (ag 11) (ij (ae (ij (ae (ax vV cf (ae (ag 2) ah)) (ae (ag 5) ah))) (ae (ij (ae (ag 4) (ae (ax vV cf (ae (ag 2) ah)) ah))) ah)))) (aW 11))
 (kz (bU (ag 11)) (aW 12) (aB (aX (ax (uj Pr) cf (ae (ag 6) (ae (aE bL (ag 12) (mC (.int 0))) (ae (aE bL (ag 12) (mC (.int 1))) ah)))) (aW 13))
 (aB (di (kw (iJ (bG (nL R4 (ag 13)))) (bG (aE (jW true) (ag 13) (ax FQ cf (ae (ag 6) (ae (aE bL (ag 12) (mC (.int 0))) (ae (aE bL (ag 12) (mC (.int 1))) ah))))))) (bS (mC (.bool false))) cb)
 (di (iJ (bG (ax FO cf (ae (ag 6) (ae (aE bL (ag 12) (mC (.int 0))) ah))))) (bS (mC (.bool false))) cb))))))))))))))) cb)))))
 (bS (mC (.bool true))))
theorem x8 (r:Γ3):(cY r).length=r.length:=by unfold cY;simp
theorem RM {n g:Nat}{ts:Γ3}{W D B:Γ1}(n1:1<=n)(n6:n<=6)(g1:1<=g)(g6:g<=6)(dl:qo n g ts W D)(b:pR n g ts D B)(h:NI (iK B W)=true):BW n g B W/\W.length=B.length/\(∀r∈B,r.length=g)/\∀r∈W,r.length=g:=by
 have h:=yL.mp h;obtain⟨B',W',g',e,hl,_,_,_,_,hB,hW,_,_⟩:=h;injection e with e
 injection e with e1 e2
 injection e2 with e2 _
 obtain rfl:=kI (M:=B) (N:=B') e1;obtain rfl:=kI (M:=W) (N:=W') e2;have bv:∀i,i<n->B.getD i []∈B:=λi hi=>by rw[gb (Zc (show i<B.length by rw[b.bl];exact hi))];exact Zv _
 have hwm:∀i,i<n->W.getD i []∈W:=λi hi=>by rw[gb (Zc (show i<W.length by rw[dl.wl];exact hi))];exact Zv _
 have hg:g'=g:=by rw[<- (hB _ (bv 0 n1)).1,b.br 0 n1]
 subst hg;refine⟨⟨n1,n6,g1,g6,b.bl,dl.wl,b.br,dl.wr,λi j hi hj=>?_,λi j hi hj=>?_⟩,hl,λr hr=>(hB r hr).1,λr hr=>(hW r hr).1⟩
 .have pE:j<(B.getD i []).length:=by rw[b.br i hi];exact hj
  have:=(hB _ (bv i hi)).2 ((B.getD i []).getD j 0) (by rw[gb (Zc pE)];exact Zv _);exact this
 .have:=dl.w0 i j hi hj;have:=dl.t0 j hj;unfold eI;omega
theorem Dn (Pr:Addr):∀O xs Pq QX,QC O xs Pq QX->CP Pr { nx:=λ_ O'=>Pq (.im .none) O',rt:=Pq } (aZ KY xs) O:=by
 intro O xs Pq QX h;obtain⟨ns,rfl,T7,h⟩:=h;have bN:(if (40:Int)<(ns.length:Int) then (40:Int) else (ns.length:Int))+2<=42:=by split<;>omega
 have aaJ:0<=(if (40:Int)<(ns.length:Int) then (40:Int) else (ns.length:Int))+2:=by split<;>omega
 refine⟨⟨by dsimp only;omega,by dsimp only;omega⟩,λi sl O'=>∃y1 y2 y3 y4 y5 y6 y7 y8 y9 mK AQ vm Eu,sl=[some (.qV ns),y1,y2,y3,y4,y5,y6,y7,y8,y9,mK,AQ,vm,Eu],⟨_,_,_,_,_,_,_,_,_,_,_,_,_,rfl⟩,?_,?_⟩
 rotate_left
 .rintro sl O' _;exact⟨h O'⟩
 rintro i x sl O' hx ⟨y1,y2,y3,y4,y5,y6,y7,y8,y9,mK,AQ,vm,Eu,rfl⟩;obtain⟨hi,rfl⟩:=p7 hx;have aeP:i<42:=by dsimp only at hi;omega
 refine⟨⟨by omega,by omega⟩,λbj=>⟨⟨bj,rfl⟩,λn g ts W D O2 hG g1 g6 n1 n6 dl=>⟨rfl,?_⟩⟩⟩;show Go _ _ [some (.qV ns),some (.im (.int i)),some (.bag bj),some (.im (ia ((List.range g).map (cm D)) (cY (D.map λr=>lG ts r g)) W)),some (.im (.tuple ((cY ts).map qD))),some (.im (bD (D.map cY))),y6,y7,y8,y9,mK,AQ,vm,Eu] O2;refine⟨⟨bj,n,g,ts,W,D,_,rfl,g1,g6,n1,n6,dl,λB O3 hG3 b=>?_⟩⟩;generalize ia ((List.range g).map (cm D)) (cY (D.map λr=>lG ts r g)) W=mk;show Go _ _ [some (.qV ns),some (.im (.int i)),some (.bag bj),some (.im mk),some (.im (.tuple ((cY ts).map qD))),some (.im (bD (D.map cY))),some (.im (iK B W)),y7,y8,y9,mK,AQ,vm,Eu] O3;refine⟨λhm=>?_,λ_=>⟨_,_,_,_,_,_,_,_,_,_,_,_,_,rfl⟩⟩;obtain⟨bw,bl2,hBr,hWr⟩:=RM n1 n6 g1 g6 dl b hm;obtain⟨hh,E6⟩:=xi dl b;have XG:=Er dl b;have R5:(cY ts).length=g:=by rw[x8,dl.tl]
 have tM:∀z∈cY ts,0<z/\Rb 4 z:=λz hz=>by
  obtain⟨t,ht,rfl⟩:=Zh.mp hz;obtain⟨j,hj,rfl⟩:=Xp ht;have:=dl.t0 j (by rw[<- dl.tl];exact hj);rw[gb (Zc hj)] at this;exact⟨(by have h0:(0:Int)<ts[j]:=(by omega);exact_mod_cast h0),wa (by unfold Bd;omega) (by decide)⟩
 have UE:(D.map cY).length=n:=by rw[Zb,dl.dl]
 have JF:∀r∈D.map cY,r.length=g/\∀z∈r,0<=z/\Rb 4 z:=λr hr=>by
  obtain⟨r',iF,rfl⟩:=Zh.mp hr;obtain⟨k,hk,rfl⟩:=Xp iF;have Ug:k<n:=by rw[<- dl.dl];exact hk
  have e:D.getD k []=D[k]:=gb (Zc hk);refine⟨by rw[x8,<- e];exact dl.dr k Ug,λz hz=>?_⟩;obtain⟨t,ht,rfl⟩:=Zh.mp hz;obtain⟨j,hj,rfl⟩:=Xp ht;have:=dl.d0 k j Ug (by rw[<- dl.dr k Ug,e];exact hj);rw[e,gb (Zc hj)] at this;exact⟨(by have h0:(0:Int)<=D[k][j]:=(by omega);exact_mod_cast h0),wa (by unfold Bd;omega) (by decide)⟩
 generalize HK:cY ts=qs at E6 R5 tM ⊢;generalize hDD:D.map cY=DQ at E6 UE JF ⊢;have sp:bz (.tuple (qs.map qD))=true:=gj λd hd=>by obtain⟨z,hz,rfl⟩:=Zh.mp hd;exact jC ((tM z hz).2.mono (by decide))
 have sd:bz (bD DQ)=true:=qu λr hr z hz=>((JF r hr).2 z hz).2.mono (by decide)
 have YM:ln 6 (.tuple (qs.map qD))=true:=kA.mpr ⟨by rw[Zb];omega,λd hd=>by obtain⟨z,_,rfl⟩:=Zh.mp hd;exact Kz (by decide) z⟩;have TD:ln 6 (bD DQ)=true:=CT (by decide) (by omega) (λr hr=>by rw[(JF r hr).1];omega);refine⟨n,g,B,W,_,_,rfl,bw,hh,sp,sd,⟨6,by decide,YM⟩,⟨6,by decide,TD⟩,C2 R5 (λz hz=>(tM z hz).1) UE (λr hr=>⟨(JF r hr).1,λz hz=>((JF r hr).2 z hz).1⟩) ?_⟩;rw[E6];refine⟨λz=>(by cases z),λ_=>⟨B,W,g,rfl,bl2,by rw[b.bl];exact n1,by rw[b.bl];exact n6,g1,g6,hBr,hWr,?_⟩⟩;rw[XG];refine⟨λz=>(by cases z),λ_=>?_⟩;refine⟨⟨by rw[Zb];omega,by rw[Zb];omega⟩,λa a0 a1=>?_⟩;rw[Zb] at a1;obtain⟨a,rfl⟩:∃a':Nat,a=(a':Int):=⟨a.toNat,by omega⟩;have ha:a<qs.length:=by omega
 have yX:=yN (xs:=qs.map qD) (r:=(a:Int)) (by omega) (by rw[Zb];omega);have mU:=jI (xs:=qs.map qD) (r:=(a:Int)+1) (by omega) (by rw[Zb];omega);rw[Zj] at yX;rw[show((a:Int)+1).toNat=a+1 by omega] at mU;have Y6:=tM (qs.getD a 0) (by rw[gb (Zc ha)];exact Zv ha);refine⟨_,aH (dX (f:=qD) (d:=0) ha),dj,dj,dj,⟨by decide,by decide⟩,λc c0 c1=>?_⟩;obtain⟨f,hf,f0,fb⟩:∃f:Rat,iO [PyData.tuple [.int 2,.int 1],.tuple [.int 9,.int 10]] c=some (qD f)/\0<f/\Rb 4 f:=by
  rcases(show c=0\/c=1 by omega) with rfl |rfl
  .exact⟨2,rfl,by decide+kernel,by unfold Rb Bd;decide+kernel⟩
  .exact⟨Rat.divInt 9 10,rfl,by decide+kernel,by unfold Rb Bd;decide+kernel⟩
 refine⟨_,hf,qs.getD a 0,f,rfl,⟨Y6.2.mono (by decide),fb.mono (by decide)⟩,?_⟩;refine⟨Bm,by rw[yX,Yk,sz];simp;omega,by rw[yX,mU,Zn,Yk,Yx,Zb,sz];simp;omega,?_⟩;rw[yX,mU];have hhi:(qs.map qD).take a++[qD (pG (qs.getD a 0) f)]++(qs.map qD).drop (a+1)=(KM.put qs a (qs.getD a 0*f)).map qD:=by
  unfold KM.put pG;rw[Zs,Zs,List.map_take,List.map_drop];rfl
 rw[hhi];have Y7:∀z∈KM.put qs a (qs.getD a 0*f),Rb 8 z:=λz hz=>by
  unfold KM.put at hz;rcases Zp.mp hz with hz |hz
  .rcases Zp.mp hz with hz |hz
   .exact(tM z (Qm hz)).2.mono (by decide)
   .rw[Yi.mp hz];exact lP Y6.2 fb
  .exact(tM z (Qn hz)).2.mono (by decide)
 have et:(KM.put qs a (qs.getD a 0*f)).length=qs.length:=GB ha;generalize KM.put qs a (qs.getD a 0*f)=Ev at Y7 et ⊢;generalize qD (pG (qs.getD a 0) f)=RX;show Go _ _ [some (.qV ns),some (.im (.int i)),some (.bag bj),some (.im mk),some (.im (.tuple (qs.map qD))),some (.im (bD DQ)),some (.im (iK B W)),some (.im (.int a)),some (.im RX),some (.im (.tuple (Ev.map qD))),mK,AQ,vm,Eu] O3;refine⟨?_⟩;conv=>whnf
 have Z':Rb 3 (Rat.divInt 3 7):=by unfold Rb Bd;decide+kernel
 refine lv (λj=>qD (pG (qs.getD j 0) (Rat.divInt 3 7))) (by simp;omega) (λj x Z hx hZ=>?_) ?_
 .have hj:j<qs.length:=by have:=(Zd.mp hx).1;simpa using this
  rw[Zg,dX (f:=qD) (d:=0) hj] at hx;cases Option.some.inj hx;exact⟨dj,qs.getD j 0,Rat.divInt 3 7,rfl,⟨(tM _ (by rw[gb (Zc hj)];exact Zv hj)).2.mono (by decide),Z'.mono (by decide)⟩,hZ⟩
 rw[Zb,Zb,nD (λq:Rat=>qD (pG q (Rat.divInt 3 7))) qs 0];have hal:qs.map (λq:Rat=>qD (pG q (Rat.divInt 3 7)))=(qs.map λq=>q*Rat.divInt 3 7).map qD:=by rw[Zi];rfl
 have OK:∀z∈qs.map (λq=>q*Rat.divInt 3 7),Rb 7 z:=λz hz=>by
  obtain⟨q,hq,rfl⟩:=Zh.mp hz;exact lP (tM q hq).2 Z'
 rw[hal];have lL:(qs.map λq=>q*Rat.divInt 3 7).length=qs.length:=by simp
 generalize (qs.map λq=>q*Rat.divInt 3 7)=EW at OK lL ⊢;refine⟨⟨dj,dj,dj,?_⟩⟩;have ext:∀(l:List AV) (x:AV),(O3++[some l]).set O3.length (some (l++[x]))=O3++[some (l++[x])]:=λl x=>jw _ _ _
 have ssp:bz (.tuple (EW.map qD))=true:=gj λd hd=>by obtain⟨z,hz,rfl⟩:=Zh.mp hd;exact jC ((OK z hz).mono (by decide))
 have Wu:bz (.tuple (Ev.map qD))=true:=gj λd hd=>by obtain⟨z,hz,rfl⟩:=Zh.mp hd;exact jC ((Y7 z hz).mono (by decide))
 have Tz:∀q:Δ1,q.length=qs.length->∃N,N<=1000000/\ln N (.tuple (q.map qD))=true:=λq hq=>IL (by omega)
 refine⟨⟨⟨_,tF _ _⟩,bj,2,6,.tuple (qs.map qD),rfl,by decide,sp,YM,by decide,by decide,λd1 s1 l1=>⟨dj,_,tF _ _,by show 2<sizeLine;decide,?_⟩⟩⟩;rw[ext];refine⟨⟨⟨_,tF _ _⟩,bj,3,6,bD DQ,rfl,by decide,sd,TD,by decide,by decide,λd2 s2 l2=>⟨dj,_,tF _ _,by show 3<sizeLine;decide,?_⟩⟩⟩;rw[ext];have hDm:(DQ.map λqs:Δ1=>PyData.tuple (qs.map qD)).length=n:=by rw[Zb];exact UE
 have PZ:=Eg (xs:=DQ.map λqs:Δ1=>PyData.tuple (qs.map qD)) (by omega);have P7:=jI (xs:=DQ.map λqs:Δ1=>PyData.tuple (qs.map qD)) (r:=(1:Int)) (by omega) (by omega);refine⟨⟨⟨_,tF _ _⟩,by rw[PZ,P7,Yk,Yx,sz];simp;omega,dj,_,tF _ _,by show 4<sizeLine;decide,?_⟩⟩;rw[ext,PZ,P7];have e1:(1:Int).toNat=1:=rfl;rw[e1];have W5:(DQ.map λqs:Δ1=>PyData.tuple (qs.map qD)).drop 1++(DQ.map λqs:Δ1=>PyData.tuple (qs.map qD)).take 1=(DQ.drop 1++DQ.take 1).map λqs:Δ1=>PyData.tuple (qs.map qD):=by rw[Zs,List.map_drop,List.map_take]
 rw[W5];have TV:∀r∈DQ.drop 1++DQ.take 1,r∈DQ:=λr hr=>by
  rcases Zp.mp hr with z |z
  .exact Qn z
  .exact Qm z
 have AM:(DQ.drop 1++DQ.take 1).length=n:=by rw[Zn,Yx,Yk];omega
 generalize DQ.drop 1++DQ.take 1=DR at TV AM ⊢;refine⟨O3.length,[.list [.tuple (EW.map qD),bD DQ],.list [.tuple (Ev.map qD),bD DQ],.list [d1,bD DQ],.list [.tuple (qs.map qD),d2],.list [.tuple (qs.map qD),bD DR]],rfl,tF _ _,?_⟩;refine⟨⟨bj,rfl⟩,λd3 h3=>⟨dj,⟨bj,rfl⟩,λd4 h4=>⟨dj,dj,by show 5+2<=sizeLine;decide,?_⟩⟩⟩;have good:∀e∈[PyData.list [.tuple (EW.map qD),bD DQ],.list [.tuple (Ev.map qD),bD DQ],.list [d1,bD DQ],.list [.tuple (qs.map qD),d2],.list [.tuple (qs.map qD),bD DR],.list [d3,bD DQ],.list [.tuple (qs.map qD),d4]],∃p d,e=.list [p,d]/\bz p=true/\bz d=true/\(∃N,N<=1000000/\ln N p=true)/\∃N,N<=1000000/\ln N d=true:=by
  have lq:=Tz qs rfl;have lD:∃N,N<=1000000/\ln N (bD DQ)=true:=⟨6,by decide,TD⟩;intro e he;simp only[Zf,Xh,or_false] at he;rcases he with rfl |rfl |rfl |rfl |rfl |rfl |rfl
  .exact⟨_,_,rfl,ssp,sd,Tz EW lL,lD⟩
  .exact⟨_,_,rfl,Wu,sd,Tz Ev et,lD⟩
  .exact⟨_,_,rfl,s1,sd,⟨7,by decide,l1⟩,lD⟩
  .exact⟨_,_,rfl,sp,s2,lq,⟨7,by decide,l2⟩⟩
  .exact⟨_,_,rfl,sp,qu λr hr z hz=>((JF r (TV r hr)).2 z hz).2.mono (by decide),lq,⟨6,by decide,CT (by decide) (by omega) (λr hr=>by rw[(JF r (TV r hr)).1];omega)⟩⟩
  .exact⟨_,_,rfl,(kM d3 h3).2.1,sd,⟨3,by decide,(kM d3 h3).2.2⟩,lD⟩
  .exact⟨_,_,rfl,sp,(kM d4 h4).2.1,lq,⟨3,by decide,(kM d4 h4).2.2⟩⟩
 show Go _ _ [some (.qV ns),some (.im (.int i)),some (.bag bj),some (.im mk),some (.im (.tuple (qs.map qD))),some (.im (bD DQ)),some (.im (iK B W)),some (.im (.int a)),some (.im RX),some (.im (.tuple (Ev.map qD))),some (.im (.tuple (EW.map qD))),some (.im (.list [PyData.list [.tuple (EW.map qD),bD DQ],.list [.tuple (Ev.map qD),bD DQ],.list [d1,bD DQ],.list [.tuple (qs.map qD),d2],.list [.tuple (qs.map qD),bD DR],.list [d3,bD DQ],.list [.tuple (qs.map qD),d4]])),vm,Eu] _;generalize [PyData.list [.tuple (EW.map qD),bD DQ],.list [.tuple (Ev.map qD),bD DQ],.list [d1,bD DQ],.list [.tuple (qs.map qD),d2],.list [.tuple (qs.map qD),bD DR],.list [d3,bD DQ],.list [.tuple (qs.map qD),d4]]=Th at good ⊢;refine⟨?_⟩;conv=>whnf
 refine⟨λm sl O'=>∃vm Eu,sl=[some (.qV ns),some (.im (.int i)),some (.bag bj),some (.im mk),some (.im (.tuple (qs.map qD))),some (.im (bD DQ)),some (.im (iK B W)),some (.im (.int a)),some (.im RX),some (.im (.tuple (Ev.map qD))),some (.im (.tuple (EW.map qD))),some (.im (.list Th)),vm,Eu],⟨_,_,rfl⟩,?_,?_⟩
 .rintro m x sl O' hx ⟨vm,Eu,rfl⟩;rw[Zg] at hx;cases he:Th[m]? with
  |none=>rw[he] at hx;cases hx
  |some e =>
   rw[he] at hx;cases Option.some.inj hx;obtain⟨p,d,rfl,Nq,YC,TB,YQ⟩:=good e (Yc he);obtain⟨v,hv⟩:=M4 n g B W p d;refine⟨_,rfl,_,rfl,n,g,B,W,p,d,rfl,bw,hh,Nq,YC,TB,YQ,hv _ ?_⟩;show Go _ _ [some (.qV ns),some (.im (.int i)),some (.bag bj),some (.im mk),some (.im (.tuple (qs.map qD))),some (.im (bD DQ)),some (.im (iK B W)),some (.im (.int a)),some (.im RX),some (.im (.tuple (Ev.map qD))),some (.im (.tuple (EW.map qD))),some (.im (.list Th)),some (.im (.list [p,d])),some (.im (.bool v))] O';refine⟨⟨λz=>(by cases z),λ_=>⟨_,rfl,_,rfl,n,g,B,W,p,d,rfl,bw,Nq,YC,TB,YQ,hv _ λO5 hG5=>⟨by show min 0 0<=60;decide,?_⟩⟩⟩⟩;have ev:pF (.bool v) (.bool v)=true:=by rw[je];simp[PyData.eqv]
   rw[ev];refine⟨λz=>(by cases z),λ_=>⟨⟨_,rfl,n,g,B,W,p,rfl,bw,hh,Nq,TB,λO6 hG6=>⟨λz=>(by cases z),λ_=>⟨_,_,rfl⟩⟩⟩⟩⟩
 .rintro sl O' ⟨vm,Eu,rfl⟩;exact⟨_,_,_,_,_,_,_,_,_,_,_,_,_,rfl⟩
end MI
namespace kr
open PySem L2 KG EX KM MI
section
variable {P:Program}{w:World}{K:Θ1}{mg:Θ3}{base:Heap}
theorem fu:ao KY ["script"] (aS (top 82)):=L2.c6
theorem Mc {f fB fT fD fK fI fL fA fM fR fO fU fG Pr:Addr}{fd dB dT dD dK dI dL dA dM dR dO dU dG:FuncData}(F:cy K "law" "law" (top 82) f fd)(N:Nm mg)(Z:rd K)
  (Bg:bo K mg P w base "_law_bag" 1 ["script","k"] (BC K) fB dB) (T:bo K mg P w base "_law_take" 1 ["bag","many"] j1 fT dT) (Dl:bo K mg P w base "_law_dealt" 2 ["bag"] (cZ K rS) fD dD) (Kb:bo K mg P w base "_law_known_barter" 3 ["bag","market","prices","dealing"] (cZ K FP) fK dK) (Ib:bo K mg P w base "is_barter" 4 ["thing"] (spT NI) fI dI) (Le:bo K mg P w base "lets_by" 8 ["barter","prices","dealing"] (cZ K (uj Pr)) fL dL)
  (Ba:bo K mg P w base "barred" 3 ["barter"] oM fA dA) (Mu:bo K mg P w base "_law_mul" 2 ["one","other"] (yR pG) fM dM) (Re:bo K mg P w base "_law_replaced" 6 ["bag","thing","deep"] (cZ K (zw 4)) fR dR) (Od:bo K mg P w base "_law_odd" 2 ["bag"] (cZ K vV) fO dO) (Du:bo K mg P w base "_law_due" 5 ["barter","prices","dealing"] (cZ K FQ) fU dU) (Mr:bo K mg P w base "_law_market_right" 7 ["barter","prices"] (cZ K FO) fG dG):aJ P w K mg base cH 10 f fd ["script"] (t9 K):=by
 exact MV (mQ F fu (λO xs P PX h=>by obtain⟨ns,rfl,_⟩:=h;rfl) (λbf A outer s H E QX hr=>⟨CP Pr,(bR (yU PassesOwn.never rfl (qY rfl N.range (ap (pw (fe (AA rfl) Hk (by rfl) N.min boot_min (ap (fe (XU K) Hm (by rfl) N.len PySem.boot_len (ap (mv 0) aA)) (ap bI aA))) bI) aA)) (c8 (i:=1) fu.nd) (bR (iz (i:=2) fu.nd (cK Bg MP hr (ap (mv 0) (ap (mv 1) aA))))
 (bR (yT (cK Dl iN hr (ap (mv 2) aA)) (gA rfl (pz (c8 (i:=3) fu.nd) (pz (c8 (i:=4) fu.nd) (pz (c8 (i:=5) fu.nd) Ey)))))
 (bR (iz (i:=6) fu.nd (cK Kb iN hr (ap (mv 2) (ap (mv 3) (ap (mv 4) (ap (mv 5) aA))))))
 (cM (lw (tq (cK Ib KA hr (ap (mv 6) aA))) (bR (lw (PW.pt (gN (jU zX Hj (cK Le iN hr (ap (mv 6) (ap (mv 4) (ap (mv 5) aA)))) pr (au _)) (fJ (jU GP Hi (cK Ba Hn hr (ap (mv 6) aA)) oD (au _))))) (cM (fc pr)) lx)
 (bR (iz (i:=7) fu.nd (cK T pH hr (ap (mv 2) (ap (fe aV kl (by rfl) N.len PySem.boot_len (ap (mv 4) aA)) aA))))
 (bR (iz (i:=8) fu.nd (cK Mu vR hr (ap (bQ (mv 4) (mv 7)) (ap (bQ (qW (ap (nC (ap bI (ap bI aA))) (ap (nC (ap bI (ap bI aA))) aA))) (cK T pH hr (ap (mv 2) (ap bI aA)))) aA))))
 (bR (iz (i:=9) fu.nd (pw (pw (ED (mv 4) Ez (EA (mv 7))) (nC (ap (mv 8) aA))) (ED (mv 4) (EA (pw (mv 7) bI)) Ez)))
 (bR (iz (i:=10) fu.nd (p9 dv vp (by rfl) N.tuple mR (ap (iL (own:=["price"]) (cap:=[]) (ix:=[]) (az.of (aS (top 82)).names KY) rfl (km (mv 4)) (iM (by decide))
 (λC fp s H=>⟨(c8 (i:=0) (Ψ9 ["price"])),iE,(cK Mu vR hr (ap (mv 0) (ap (nC (ap bI (ap bI aA))) aA)))⟩)) aA)))
 (bR (iz (i:=11) fu.nd (lR (ap (qW (ap (mv 10) (ap (mv 5) aA))) (ap (qW (ap (mv 9) (ap (mv 5) aA))) aA))))
 (bR (EB (jc (mv 11) (ap (qW (ap (cK Re iN hr (ap (mv 2) (ap (mv 4) (ap bI aA)))) (ap (mv 5) aA))) aA)))
 (bR (EB (jc (mv 11) (ap (qW (ap (mv 4) (ap (cK Re iN hr (ap (mv 2) (ap (mv 5) (ap bI aA)))) aA))) aA)))
 (bR (EB (jc (mv 11) (ap (qW (ap (mv 4) (ap (pw (ED (mv 5) (EA bI) Ez) (ED (mv 5) Ez (EA bI))) aA))) aA)))
 (CI 11 (bR (iz (i:=11) fu.nd (pw (mv 11) (qW (ap (qW (ap (cK Od iN hr (ap (mv 2) aA)) (ap (mv 5) aA))) (ap (qW (ap (mv 4) (ap (cK Od iN hr (ap (mv 2) aA)) aA))) aA)))))
 (cM (yU PassesOwn.never rfl (km (mv 11)) (c8 (i:=12) fu.nd) (bR (iz (i:=13) fu.nd (cK Le iN hr (ap (mv 6) (ap (bQ (mv 12) bI) (ap (bQ (mv 12) bI) aA)))))
 (bR (lw (PW.pt (gN (tG (tq (wS Z (mv 13) rfl N.isinstance rfl N.bool))) (fJ (jU (gK hr.units) gO (mv 13) (cK Du iN hr (ap (mv 6) (ap (bQ (mv 12) bI) (ap (bQ (mv 12) bI) aA)))) (au _))))) (cM (fc pr)) lx)
 (cM (lw (tG (tq (cK Mr iN hr (ap (mv 6) (ap (bQ (mv 12) bI) aA))))) (cM (fc pr)) lx))))))))))))))))) lx))))))
 (cM (fc pr))),λO xs Pq h=>Dn Pr O xs Pq QX h⟩))
end
end kr
namespace kr
open PySem L2 KG EX KM
section
variable {P:Program}{w:World}{K:Θ1}{mg:Θ3}{base:Heap}
theorem wF:ao ["one","other"] ["one","other"] (aS (top 65)):=L2.c6
theorem wO {f fF:Addr}{fd dF:FuncData}(F:cy K "_law_div" "_law_div" (top 65) f fd)(G:bo K mg P w base "_law_frac" 1 ["top","bottom"] Fl fF dF):aJ P w K mg base cH 2 f fd ["one","other"] BA:=by
 refine F.ok wF (λvs H Q E h=>?_) (λbf A outer s H vs Q E hr h=>?_)
 .obtain⟨p,q,a,b,rfl,_⟩:=h;rfl
 .obtain⟨p,q,a,b,rfl,hp,hq,⟨ba,bb⟩,⟨bc,bd⟩,Fc,k⟩:=h;have hb:=lu a;have hn:=kJ.mp Fc;refine⟨_,cT (eG (jV G.ok hr rfl G.mg G.kp G.bd .nil cw (aQ (cN tI (cS bH (pv 0) bF (λ_ _=>rfl)) (cS bH (pv 1) bF (λ_ _=>rfl))) (aQ (cN tI (cS bH (pv 0) bF (λ_ _=>rfl)) (cS bH (pv 1) bF (λ_ _=>rfl))) bK)))),?_⟩;refine⟨_,rfl,p,_,_,_,rfl,rfl,aG.of hp,rfl,_,rfl,q,_,_,_,rfl,rfl,aG.of hq,rfl,_,_,rfl,rfl,⟨b3 ba,b3 bd⟩,_,rfl,p,_,_,_,rfl,rfl,aG.of hp,rfl,_,rfl,q,_,_,_,rfl,rfl,aG.of hq,rfl,_,_,rfl,rfl,⟨b3 bb,b3 bc⟩,?_⟩;exact⟨_,_,rfl,Xm hb hn,b6 (bb.mul bc),λr iF=>by rw[sL (by omega)];exact k r iF⟩
end
section
variable {P:Program}{w:World}{K:Θ1}{mg:Θ3}{base:Heap}
abbrev V3:Δ2:=["row","prices","rates","most"]
theorem Ka:ao V3 ["row","prices"] (aS (top 37)):=L2.c6
theorem Ru {f fR fG:Addr}{fd dR dG:FuncData}(F:cy K "best_by_wishes" "best_by_wishes" (top 37) f fd)(N:Nm mg)(R:bo K mg P w base "rate" 4 ["wish","price"] Ch fR dR)(G:bo K mg P w base "greatest" 2 ["parts"] Ia fG dG):aJ P w K mg base cH 5 f fd ["row","prices"] J1:=by
 refine F.ok Ka (λvs H Q E h=>?_) (λbf A' outer s H vs Q E hr h=>?_)
 .obtain⟨r,q,ns,ys,qs,rfl,_⟩:=h;rfl
 .obtain⟨r,q,ns,ys,qs,rfl,Y4,hq,hf,bN,h6,UA,ZT,dE,k⟩:=h;have tE:cz 2 _:=hr.mono (by decide);have hu:=hr.units;have hu1:=RF hr;refine⟨_,dz (lm (i:=2) Ka.nd rfl (Or.inr rfl) (DC (own:=["good","wish"]) (cap:=["prices"]) (ix:=[1]) (az.of (aS (top 37)).names V3) rfl (kK rfl N.enumerate Nx (aQ (pv 0) bK))
    (λC fp s H=>⟨gr (n:=2) rfl (qX (eH (i:=0) (Ψ9 ["good","wish","prices"]) rfl (Or.inl rfl)) (qX (eH (i:=1) (Ψ9 ["good","wish","prices"]) rfl (Or.inl rfl)) EC)),
     fY (p6 iV (pv 1) bF (au _)),pv 0,jV R.ok hr rfl R.mg R.kp R.bd .nil cw (aQ (pv 1) (aQ (cS bH (pv 2) (pv 0) (λ_ _=>rfl)) bK))⟩)))
   (dz (dq (vB (oQ (pv 2) (λ_=>rfl))) (cT (eG (gv bK))) tw)
   (dz (lm (i:=3) Ka.nd rfl (Or.inr rfl) (jV G.ok tE rfl G.mg G.kp G.bd .nil cw (aQ (Nv (l8 rfl) (by rfl) N.list boot_list (aQ (LQ PySem.F.plainAttrs_dict PySem.F.slot_dict_values PySem.F.type_dict_values Ac (pv 2)) bK)) bK)))
   (cT (eG (Nv dv (by rfl) N.tuple mR (aQ (tJ (own:=["good"]) (cap:=["most","rates"]) (ix:=[3,2]) (az.of (aS (top 37)).names V3) rfl (GI (pv 2))
    (λC fp s H=>⟨eH (i:=0) (Ψ9 ["good","most","rates"]) rfl (Or.inl rfl),fY (p6 (wf hu) (GN hu1 (pv 2) (pv 0) (λ_ _=>rfl)) (pv 1) (au _)),pv 0⟩)) bK)))))),?_⟩
  have ND:∀j,0<=ns.getD j 0:=λj=>by
   by_cases hj:j<ns.length
   .have:ns.getD j 0∈ns:=by simp[List.getD,Zc hj]
    exact(UA _ this).1
   .simp[List.getD,Yq (Nat.le_of_not_lt hj)]
  refine⟨_,rfl,r,rfl,⟨_,aG.of Y4⟩,λacc bu=>?_⟩;refine xa (xs:=ns.map V.int) (λi kvs H'=>ai H H'/\tP ns qs i kvs H') ⟨(ai.refl H).acc bu,⟨rfl,⟨rfl,λj y z=>by simp at z⟩⟩⟩ (λi zs H' _ _ z=>aG.of (z.1 _ _ Y4)) ?_ ?_
  .rintro i x kvs H1 H2 hx hy ⟨s1,rt⟩ s2;obtain⟨n,hn,rfl⟩:∃n:Int,ns[i]?=some n/\x=V.int n:=by
    rw[Zg] at hx;cases e:ns[i]? with
    |none=>rw[e] at hx;cases hx
    |some n=>rw[e] at hx;exact⟨n,rfl,by simpa using hx.symm⟩
   have hi:i<ns.length:=(Zd.mp hn).1;have Sr:ns.getD i 0=n:=by simp[List.getD,hn]
   have vo:=s1.trans s2;refine⟨_,rfl,_,_,rfl,rfl,_,rfl,?_⟩;by_cases h0:0<n
   .rw[decide_eq_true h0];obtain⟨aq,eq1,tM⟩:=hf.at (g:=i) (by omega);have bn:=UA n (Yc hn);have x0:=dE i (by rw[Sr];exact h0);have bx:Rb 300 (qs.getD i 0):=by
     have:qs.getD i 0∈qs:=by simp[List.getD,Zc (show i<qs.length by omega)]
     exact ZT _ this
    refine aU ⟨_,rfl,_,rfl,_,rfl,_,rfl,q,_,_,_,rfl,rfl,aG.of (vo _ _ hq),eq1,n,aq,_,rfl,vo _ _ tM,bx,x0,bn.1,bn.2,λt H3 s3 ht=>?_⟩;have Of:=s3 _ _ (s2 _ _ hy);have ki:(V.int (i:Int))=kV (nN i):=rfl;have NV:=(rt.ay s2).ay s3;have tm3:Tm H3 (aK H3 acc (.dK (my kvs (nN i) (.ref t)))):=λa xs ha=>by rw[dh (Iz ha Of (by intro z;cases z))];exact ha
    refine⟨kvs,nN i,Of,ki,?_,HV.of cL ⟨(vo.trans s3).acc bu,(NV.put (by rw[Sr];exact h0) ?_).tm tm3⟩⟩
    .have:=rt.len;have:=uA ns i;rw[sz];omega
    .unfold dm;rw[Sr];exact ht
   .rw[decide_eq_false h0];refine bC (HV.of (s2 _ _ hy) ⟨vo,(rt.skip (by rw[Sr];exact h0)).ay s2⟩)
  .rintro kvs H1 hy ⟨s1,rt⟩;rw[Zb] at rt;have HN:=rt.len;have et:=uA ns ns.length;refine⟨_,rfl,_,.inr (.inr ⟨kvs,hy,rfl⟩),?_⟩;cases OB:kvs.isEmpty with
   |true =>
    have KH:kvs=[]:=List.isEmpty_iff.mp OB;subst KH;have Oj:eM ns ns.length=[]:=Qx.mp HN.symm;refine aU ⟨by show 0<=sizeLine;decide,λt ht=>k t _ (s1.new ht) ?_⟩;rw[AD ND Oj];exact cL
   |false =>
   have KH:kvs≠[]:=λz=>by rw[z] at OB;cases OB
   refine bC ?_;refine⟨_,rfl,.inr (.inr (.inl ⟨rfl,.inl ⟨_,hy⟩⟩)),acc,kvs,rfl,rfl,hy,λv hv=>?_⟩;have s2:=(ai.refl H1).new (o:=ow v acc) hv;refine⟨v,acc,kvs,rfl,cL,.inl (s2 _ _ hy),λl hl=>?_⟩;have s3:=s2.new (o:=.lst (kvs.map (·.2))) hl;have NV:=rt.ay s3;refine⟨l,_,_,rfl,cL,NV.fr,?_,?_,λa m ha hm pN=>?_⟩
   .intro z;have:=congrArg List.length z;rw[Zb,<- HN] at this;exact KH (Qx.mp this)
   .intro z hz;obtain⟨j,hj,rfl⟩:=Zh.mp hz;obtain⟨jl,jp⟩:=sq hj;unfold dm;have bq:Rb 300 (qs.getD j 0):=by
     have:qs.getD j 0∈qs:=by simp[List.getD,Zc (show j<qs.length by omega)]
     exact ZT _ this
    have bn:Bd 300 (ns.getD j 0):=by
     have:ns.getD j 0∈ns:=by simp[List.getD,Zc jl]
     have:=UA _ this;exact Bd.mono (j:=7) (by unfold Bd;omega) (by decide)
    exact(Gx bn bq (dE j jp)).mono (by decide)
   generalize aK (aK H1 v (ow v acc)) l (.lst (kvs.map (·.2)))=H3 at s3 NV ha ⊢;have Of:=s3 _ _ hy;refine⟨_,rfl,acc,kvs,rfl,Of,λo nY fv=>?_⟩;have aaK:H acc=none:=bu;have cX:nY≠acc:=λz=>by rw[z,cL] at fv;cases fv
   have h3n:H3 nY=none:=by rw[dh cX] at fv;exact fv
   have Nr:=s1.trans s3;have X6:Tm H3 (aK H3 acc (.jO o (.dK kvs))):=λa xs ha=>by rw[dh (Iz ha Of (by intro z;cases z))];exact ha
   have s4:ai H (aK H3 acc (.jO o (.dK kvs))):=Nr.acc bu;have YF:=NV.tm X6;have ZX:=X6 _ _ ha;have Up:(aK H3 acc (.jO o (.dK kvs))) acc=some (.jO o (.dK kvs)):=cL;generalize aK H3 acc (.jO o (.dK kvs))=H4 at s4 YF ZX Up fv ⊢;refine Ay (kvs:=kvs) (λi zs H'=>ai H4 H'/\zs=og (((eM ns ns.length).take i).filter λj=>decide (dm ns qs j=m))) ⟨(ai.refl H4).acc fv,rfl⟩ (λi zs H' _ _ z=>z.1 _ _ Up) ?_ ?_
   .rintro i kk vv zs H5 R7 hz ⟨s5,rfl⟩;obtain⟨j,aj,hj,rfl,rfl,haj,W3⟩:=YF.at R7;have hjm:=Yc hj;refine⟨_,rfl,_,rfl,acc,_,rfl,.inl ⟨kvs,nN j,.inr ⟨o,s5 _ _ Up⟩,rfl,W3.symm⟩,_,rfl,?_⟩;refine⟨qD (dm ns qs j),qD m,Iu (s5 _ _ haj),Iu (s5 _ _ ZX),Ye (Nat.min_le_left _ _) (Ye (Ja _) (by decide)),_,rfl,?_⟩;rw[rT];have hil:i<(eM ns ns.length).length:=(Zd.mp hj).1;cases hd:decide (dm ns qs j=m) with
    |true =>
     refine aU ⟨_,rfl,_,hz,?_,Cn.of cL ⟨s5.acc fv,?_⟩⟩
     .unfold og;have:=Xs (λj=>decide (dm ns qs j=m)) ((eM ns ns.length).take i);have h3:((eM ns ns.length).take i).length<=i:=List.length_take_le _ _;rw[Zb,sz];omega
     .rw[HI hj,Xr];have e1:[j].filter (λj=>decide (dm ns qs j=m))=[j]:=by simp only[List.filter,hd]
      rw[e1];unfold og;rw[Zs];rfl
    |false =>
     refine bC (Cn.of hz ⟨s5,?_⟩);rw[HI hj,Xr];have e1:[j].filter (λj=>decide (dm ns qs j=m))=[]:=by simp only[List.filter,hd]
     rw[e1,Yg]
   .rintro zs H5 hz ⟨s5,rfl⟩;rw[HN,Yz] at hz;refine⟨nY,_,rfl,.inl ⟨bA.of hz,λt ht=>?_⟩⟩;refine k t _ ((s4.trans s5).new ht) ?_;rw[Ep dE ND hm pN];exact cL
end
section
variable {P:Program}{w:World}{K:Θ1}{mg:Θ3}{base:Heap}
theorem Q8:ao ["dealing","good"] ["dealing","good"] (aS (top 27)):=L2.c6
theorem Mg {f fT:Addr}{fd dT:FuncData}(F:cy K "got_in_all" "got_in_all" (top 27) f fd)(T:bo K mg P w base "total" 4 ["parts"] t8 fT dT):aJ P w K mg base cH 5 f fd ["dealing","good"] Bz:=by
 refine F.ok Q8 (λvs H Q E h=>?_) (λbf A' outer s H vs Q E hr h=>?_)
 .obtain⟨q,zs,D,g,n,rfl,_⟩:=h;rfl
 .obtain⟨q,zs,D,g,n,rfl,dl,hg,k⟩:=h;refine⟨_,cT (eG (jV T.ok hr rfl T.mg T.kp T.bd .nil cw (aQ (tJ (own:=["row"]) (cap:=["good"]) (ix:=[1]) (az.of (aS (top 27)).names ["dealing","good"]) rfl (rk (pv 0))
   (λC fp s H=>⟨eH (i:=0) (Ψ9 ["row","good"]) rfl (Or.inl rfl),xp,cS bH (pv 0) (pv 1) (λ_ _=>rfl)⟩)) bK))),?_⟩
  refine⟨_,rfl,q,rfl,⟨_,aG.of dl.hq⟩,λacc bu=>?_⟩;refine kY (xs:=zs) (λi ws H'=>ai H H'/\lE H' ws ((D.take i).map λqs=>qs.getD g 0)) ⟨(ai.refl H).acc bu,rfl,λj y hy=>by simp at hy⟩ (λi ws H' _ _ z=>aG.of (z.1 _ _ dl.hq)) ?_ ?_
  .rintro i x ws H1 hx hz ⟨s1,OO⟩;obtain⟨a,ys,qs,hD,rfl,ha,fq⟩:=(dl.fr.ay s1).2 i x hx;have hqn:=dl.len qs (Yc hD);obtain⟨c,ec,Uz⟩:=fq.at (g:=g) (by omega);have hi:i<D.length:=(Zd.mp hD).1;have zq:=dl.UT;refine tY ⟨_,rfl,_,rfl,a,_,_,_,rfl,rfl,aG.of ha,ec,ws,hz,by rw[OO.1,Zb,Yk,sz];omega,Cn.of cL ⟨s1.acc bu,?_⟩⟩;rw[HI hD,Zs];exact(OO.app (a:=c) Uz).tm (Tm.lst hz)
  .rintro ws H1 hz ⟨s1,OO⟩;rw[dl.fr.1,Yz] at OO;have zq:=dl.UT;refine⟨acc,ws,_,rfl,hz,OO,λz AL=>?_,by rw[Zb];omega,λr H2 s2 e2=>k r H2 (s1.trans s2) e2⟩;obtain⟨qs,HK,rfl⟩:=Zh.mp AL;exact(sj (by decide) (dl.bd qs HK) g).mono (by decide)
theorem WC:ao ["best","dealing"] ["best","dealing"] (aS (top 42)):=L2.c6
theorem DT {f:Addr}{fd:FuncData}(F:cy K "gives_best" "gives_best" (top 42) f fd)(N:Nm mg):aJ P w K mg base cH 1 f fd ["best","dealing"] sh:=by
 refine F.ok WC (λvs H Q E h=>?_) (λbf A' outer s H vs Q E hr h=>?_)
 .obtain⟨pb,q,xb,zs,B,D,n,rfl,_⟩:=h;rfl
 .obtain⟨pb,q,xb,zs,B,D,n,rfl,hb,rb,dl,T9,hBD,k⟩:=h;have nd:List.Nodup (["buyer","row","good","part","best"]:Δ2):=by decide+kernel
  refine⟨_,cT (eG (jK (iD rfl) (by rfl) N.all AJ (aQ (DE (own:=["buyer","row","good","part"]) (cap:=["best"]) (ix:=[0]) (az.of (aS (top 42)).names ["best","dealing"]) rfl (kK rfl N.enumerate Nx (aQ (pv 1) bK))
    (λC fp s H=>⟨gr (n:=2) rfl (qX (eH (i:=0) nd rfl (Or.inl rfl)) (qX (eH (i:=1) nd rfl (Or.inl rfl)) EC)),xp,(kK rfl N.enumerate Nx (aQ (pv 1) bK)),
     gr (n:=2) rfl (qX (eH (i:=2) nd rfl (Or.inl rfl)) (qX (eH (i:=3) nd rfl (Or.inl rfl)) EC)),xp,
     Rl (vE xH (cS bH (pv 3) bF (λ_ _=>rfl)) bF (au _)) (gw (vE xI (pv 2) (cS bH (pv 4) (pv 0) (λ_ _=>rfl)) (by with_unfolding_all rfl)))⟩)) bK))),?_⟩
  have zq:=dl.UT;have TL:zs.length=D.length:=dl.fr.1;refine⟨_,rfl,q,rfl,⟨_,aG.of dl.hq⟩,λacc bu=>?_⟩;have nP:∀i,i<zs.length->∃(a:Addr) (ys:List V),zs[i]?=some (.ref a)/\H a=some (.tup ys)/\lE H ys (D.getD i [])/\ys.length=n:=λi hi=>by
   obtain⟨a,ys,qs,hD,e,ha,fr⟩:=dl.fr.2 i zs[i] (Zc hi);have eD:D.getD i []=qs:=by simp[List.getD,hD]
   exact⟨a,ys,by rw[Zc hi,e],ha,by rw[eD];exact fr,by rw[fr.1];exact dl.len qs (Yc hD)⟩
  let c:Nat->Addr:=λi=>if h:i<zs.length then (nP i h).choose else 0
  let yr:Nat->List V:=λi=>if h:i<zs.length then (nP i h).choose_spec.choose else []
  have hc:∀i,i<zs.length->zs[i]?=some (.ref (c i))/\H (c i)=some (.tup (yr i))/\lE H (yr i) (D.getD i [])/\(yr i).length=n:=λi hi=>by
   have:=(nP i hi).choose_spec.choose_spec;show zs[i]?=some (.ref (if h:i<zs.length then (nP i h).choose else 0))/\H (if h:i<zs.length then (nP i h).choose else 0)=some (.tup (if h:i<zs.length then (nP i h).choose_spec.choose else []))/\lE H (if h:i<zs.length then (nP i h).choose_spec.choose else []) (D.getD i [])/\(if h:i<zs.length then (nP i h).choose_spec.choose else []).length=n;simp only[dif_pos hi];exact this
  clear_value c yr
  refine Ej (xs:=zs) (cs:=[some (.ref pb)]) (x0:=none) (x1:=none) (x2:=none) (x3:=none) c yr (λi j ws H'=>ai H H'/\ws=fE B D n i j) (λi hi=>(hc i hi).1) ⟨(ai.refl H).acc bu,rfl⟩ (λi j ws H' _ z=>⟨aG.of (z.1 _ _ dl.hq),λhi=>aG.of (z.1 _ _ (hc i hi).2.1)⟩) (λi j ws H' H1 z s=>⟨z.1.trans s,z.2⟩) ?_ (λi ws H' hi z=>⟨z.1,by rw[z.2,(hc i hi).2.2.2];exact w8 B D n i⟩) ?_
  .rintro i j y ws H1 hi hy hz ⟨s1,rfl⟩;obtain⟨_,ZQ,fri,E5⟩:=hc i hi;obtain⟨cq,qq,rfl,Uz,hqq⟩:=nq fri hy;have hj:j<n:=by rw[<- E5];exact(Zd.mp hy).1
   have eq:(D.getD i []).getD j 0=qq:=by rw[List.getD_eq_getElem?_getD,hqq];rfl
   have hfl:=Aq B D n i j;have hsz:(fE B D n i j).length<sizeLine:=by
    rw[hfl,sz];have:i*n<=6*6:=Nat.mul_le_mul (by omega) T9;omega
   have ZU:i<xb.length:=by rw[rb.len,hBD];omega
   obtain⟨row,ar,hBi,er,Sf⟩:=rb.at (Zc ZU);have eB:B.getD i []=row:=by simp[List.getD,hBi]
   refine⟨_,rfl,cq,_,_,_,rfl,rfl,aG.of (s1 _ _ Uz),rfl,rfl,_,rfl,?_⟩;rw[DV];have kq:∀v,v=fw B D i j->∃us,H1 acc=some (.lst us)/\us.length<sizeLine/\NM (some (.int (i:Int))) (some (.ref (c i))) [some (.ref pb)] acc (λws H'=>ai H H'/\ws=fE B D n i (j+1)) [some (.int (i:Int)),some (.ref (c i)),some (.int (j:Int)),some (.ref cq),some (.ref pb)] (aK H1 acc (.lst (us++[V.bl v]))):=λv ev =>
    ⟨_,hz,hsz,NM.of cL ⟨s1.acc bu,by rw[wZ,ev]⟩⟩
   by_cases h0:qq=0
   .rw[decide_eq_true h0];exact aU (kq true (by unfold fw;rw[eq,decide_eq_true h0];rfl))
   .rw[decide_eq_false h0];have ea:xb[i]?=some (.ref ar):=by rw[Zc ZU,er]
    refine bC ⟨_,rfl,_,rfl,_,rfl,pb,_,_,_,rfl,rfl,aG.of (s1 _ _ hb),eY ea,ar,_,rfl,.inr (aG.of (s1 _ _ Sf)),rfl,hJ row,?_⟩;have UX:(if false=true then !AZ (V.int (j:Int)) (row.map V.int) else AZ (V.int (j:Int)) (row.map V.int))=row.contains (j:Int):=by rw[if_neg (by decide),D8]
    rw[UX];exact kq _ (by unfold fw;rw[eq,decide_eq_false h0,eB];rfl)
  .rintro ws H1 hz ⟨s1,rfl⟩;rw[TL] at hz;refine⟨acc,_,rfl,.inl (bA.of hz),ve _ _ _ _ _,?_⟩;rw[As];exact k H1 s1
end
end kr
namespace MI
open PySem L2 KG EX KM
def cW (K:Θ1)(nm:Str)(st:Stmt)(f:Addr):Prop:=∃(oc:Value) (od:Option Addr) (kV dc pm:Value) (an:Option Addr) (cd ct:Value) (sl:Array (Φ1)),PySem.W.nsIn K mainGlobals nm=some (some (.ref f))/\K.lookup f=some ⟨oc,od,.func (PySem.W.fnOf nm nm (vC st) (pZ st) (aS st) .none kV dc pm an cd ct),sl⟩/\PySem.W.codeIn K cd nm=true/\PySem.W.keepIn K (.ref f)=true
theorem el1 {P:Δ3->Prop}(h:∀a,P [a]):∀us:Δ3,us.length=1->P us
 |[a],_=>h a
theorem el2 {P:Δ3->Prop}(h:∀a b,P [a,b]):∀us:Δ3,us.length=2->P us
 |[a,b],_=>h a b
theorem el3 {P:Δ3->Prop}(h:∀a b c,P [a,b,c]):∀us:Δ3,us.length=3->P us
 |[a,b,c],_=>h a b c
theorem el4 {P:Δ3->Prop}(h:∀a b c d,P [a,b,c,d]):∀us:Δ3,us.length=4->P us
 |[a,b,c,d],_=>h a b c d
structure Fg (K:Θ1)(mg:Θ3)(nm:Str)(ps:Δ2)(st:Stmt)(f:Addr)(fd:FuncData):Prop where
 F:cy K nm nm st f fd
 mg:mg nm=some (.ref f)
 kp:PySem.W.keepIn K (.ref f)=true
 bd:Binds K fd ps []
section
variable {K:Θ1}{hh:Heap}{mg:Θ3}{nm:Str}{ps:Δ2}{st:Stmt}{f:Addr}{fd:FuncData}{P:Program}{w:World}{base:Heap}{k:Nat}{sp:Sp}
theorem Fg.c (a:Fg K mg nm ps st f fd)(o:aJ P w K mg base cH k f fd ps sp):bo K mg P w base nm k ps sp f fd:=⟨o,a.mg,a.kp,a.bd⟩
theorem Fg.x (a:Fg K mg nm ps st f fd)(o:aJ P w K mg base (ko P w) k f fd ps sp):ik K mg P w base nm k ps sp f fd:=⟨o,a.mg,a.kp,a.bd⟩
theorem Fg.h {sp:Addr->Addr->Sp}(a:Fg K mg nm ps st f fd)(o:JP P w K mg base k f fd ps sp):K2 K mg P w base nm k ps sp f fd:=⟨o,a.mg,a.kp,a.bd⟩
theorem Fg.of (X:K.In hh)(G:hh.Ns mainGlobals mg)(a:cW K nm st f)(hb:∀(kV gF pm:Value) (an:Option Addr) (bf ct:Value) (us:Δ3),us.length=ps.length->bindArgs (PySem.W.fnOf nm nm (vC st) (pZ st) (aS st) .none kV gF pm an bf ct) ⟨us,[]⟩=pure (ps.zip us)):∃fd,Fg K mg nm ps st f fd:=by
 obtain⟨_,_,_,_,_,_,_,_,_,a,l,c,k⟩:=a;exact⟨_,wu l c k,PySem.W.mg_of X G a,k,(wu l c k).binds hb⟩
theorem vI (ps:Δ2)(X:K.In hh)(G:hh.Ns mainGlobals mg)(a:cW K nm st f)(hb:∀(kV gF pm:Value) (an:Option Addr) (bf ct a:Value),bindArgs (PySem.W.fnOf nm nm (vC st) (pZ st) (aS st) .none kV gF pm an bf ct) ⟨[a],[]⟩=pure (ps.zip [a]):=by intros;rfl)(hl:ps.length=1:=by rfl):∃fd,Fg K mg nm ps st f fd:=Fg.of X G a λkV gF pm an bf ct us hu=>el1 (P:=λus=>bindArgs (PySem.W.fnOf nm nm (vC st) (pZ st) (aS st) .none kV gF pm an bf ct) ⟨us,[]⟩=pure (ps.zip us)) (hb kV gF pm an bf ct) us (hu.trans hl)
theorem jv (ps:Δ2)(X:K.In hh)(G:hh.Ns mainGlobals mg)(a:cW K nm st f)(hb:∀(kV gF pm:Value) (an:Option Addr) (bf ct a b:Value),bindArgs (PySem.W.fnOf nm nm (vC st) (pZ st) (aS st) .none kV gF pm an bf ct) ⟨[a,b],[]⟩=pure (ps.zip [a,b]):=by intros;rfl)(hl:ps.length=2:=by rfl):∃fd,Fg K mg nm ps st f fd:=Fg.of X G a λkV gF pm an bf ct us hu=>el2 (P:=λus=>bindArgs (PySem.W.fnOf nm nm (vC st) (pZ st) (aS st) .none kV gF pm an bf ct) ⟨us,[]⟩=pure (ps.zip us)) (hb kV gF pm an bf ct) us (hu.trans hl)
theorem NH (ps:Δ2)(X:K.In hh)(G:hh.Ns mainGlobals mg)(a:cW K nm st f)(hb:∀(kV gF pm:Value) (an:Option Addr) (bf ct a b c:Value),bindArgs (PySem.W.fnOf nm nm (vC st) (pZ st) (aS st) .none kV gF pm an bf ct) ⟨[a,b,c],[]⟩=pure (ps.zip [a,b,c]):=by intros;rfl)(hl:ps.length=3:=by rfl):∃fd,Fg K mg nm ps st f fd:=Fg.of X G a λkV gF pm an bf ct us hu=>el3 (P:=λus=>bindArgs (PySem.W.fnOf nm nm (vC st) (pZ st) (aS st) .none kV gF pm an bf ct) ⟨us,[]⟩=pure (ps.zip us)) (hb kV gF pm an bf ct) us (hu.trans hl)
theorem fg4 (ps:Δ2)(X:K.In hh)(G:hh.Ns mainGlobals mg)(a:cW K nm st f)(hb:∀(kV gF pm:Value) (an:Option Addr) (bf ct a b c d:Value),bindArgs (PySem.W.fnOf nm nm (vC st) (pZ st) (aS st) .none kV gF pm an bf ct) ⟨[a,b,c,d],[]⟩=pure (ps.zip [a,b,c,d]):=by intros;rfl)(hl:ps.length=4:=by rfl):∃fd,Fg K mg nm ps st f fd:=Fg.of X G a λkV gF pm an bf ct us hu=>el4 (P:=λus=>bindArgs (PySem.W.fnOf nm nm (vC st) (pZ st) (aS st) .none kV gF pm an bf ct) ⟨us,[]⟩=pure (ps.zip us)) (hb kV gF pm an bf ct) us (hu.trans hl)
end
end MI
namespace kr
open PySem L2 KG EX KM MI
theorem all_mk {l:PySem.W.OpenLaw}{w:World}{K:Θ1}{h:Heap}{mg:Θ3}{fa:Addr}(X:K.In h)(G:h.Ns mainGlobals mg)(hfa:mg "law"=some (.ref fa))
  {f0 f1 f2 f3 f4 f5 f6 f7 f8 f9 f10 f11 f12 f13 f14 f15 f16 f17 f18 f19 f20 f21 f22 f23 f24 f25 f26 f27 f28 f29 f30 f31 f32 f33 f34 f35 f36 f37 f38 f39 f40 f41 f42 f43 f44 f45 f46 f47 f48 f49 f50 f51 f52 f53 f54 f55 f56 M Nn Mk Pr De Un Bu Go No Dl Tx Ro:Addr}{tk0:Tok}{tk1:Tok}{S4:Tok}{tk3:Tok}
  (a0:cW K "is_whole" (top 14) f0)
  (a1:cW K "is_fraction" (top 15) f1)
  (a2:cW K "common_divisor" (top 16) f2)
  (a3:cW K "fraction" (top 17) f3)
  (a4:cW K "plus" (top 18) f4)
  (a5:cW K "times" (top 19) f5)
  (a6:cW K "over" (top 20) f6)
  (a7:cW K "less" (top 21) f7)
  (a8:cW K "total" (top 22) f8)
  (a9:cW K "greatest" (top 23) f9)
  (VP:cW K "is_dealing" (top 25) f10)
  (VO:cW K "is_dealt_row" (top 26) f11)
  (VN:cW K "got_in_all" (top 27) f12)
  (VM:cW K "wished" (top 32) f13)
  (VL:cW K "are_prices" (top 34) f14)
  (VJ:cW K "need_prices" (top 35) f15)
  (VI:cW K "best_goods" (top 36) f16)
  (VH:cW K "best_by_wishes" (top 37) f17)
  (VG:cW K "rate" (top 38) f18)
  (VF:cW K "shows" (top 40) f19)
  (VE:cW K "sells_all" (top 41) f20)
  (VD:cW K "gives_best" (top 42) f21)
  (VC:cW K "spends_all" (top 43) f22)
  (VB:cW K "is_barter" (top 46) f23)
  (VA:cW K "is_table" (top 47) f24)
  (Vz:cW K "is_row" (top 48) f25)
  (Vy:cW K "leaves_none_out" (top 49) f26)
  (Vx:cW K "columns" (top 50) f27)
  (Vw:cW K "market_at" (top 51) f28)
  (Vv:cW K "money_for" (top 52) f29)
  (Vu:cW K "lets_by" (top 53) f30)
  (Vt:cW K "barred" (top 54) f31)
  (a32:cW K "shut_in_with" (top 55) f32)
  (Vs:cW K "brings_wished" (top 56) f33)
  (Vr:cW K "goods_only_brought" (top 57) f34)
  (Vq:cW K "_law_bag" (top 59) f35)
  (Vp:cW K "_law_take" (top 60) f36)
  (Vo:cW K "_law_frac" (top 61) f37)
  (Vn:cW K "_law_add" (top 62) f38)
  (Vm:cW K "_law_mul" (top 64) f39)
  (Vl:cW K "_law_div" (top 65) f40)
  (Vk:cW K "_law_sum" (top 67) f41)
  (Vj:cW K "_law_is_fraction" (top 68) f42)
  (Vi:cW K "_law_best" (top 69) f43)
  (Vh:cW K "_law_is_dealing" (top 70) f44)
  (Vg:cW K "_law_wished" (top 71) f45)
  (Vf:cW K "_law_shows" (top 72) f46)
  (Ve:cW K "_law_odd" (top 73) f47)
  (Vd:cW K "_law_replaced" (top 74) f48)
  (Vc:cW K "_law_kinds" (top 75) f49)
  (Vb:cW K "_law_known_barter" (top 76) f50)
  (Va:cW K "_law_dealt" (top 77) f51)
  (U9:cW K "_law_market_of" (top 78) f52)
  (U8:cW K "_law_are_prices" (top 79) f53)
  (U7:cW K "_law_due" (top 80) f54)
  (U6:cW K "_law_market_right" (top 81) f55)
  (OU:cW K "law" (top 82) f56)
  (z0:PySem.W.nsIn K mainGlobals "len"=some none)
  (z1:PySem.W.nsIn K mainGlobals "range"=some none)
  (z2:PySem.W.nsIn K mainGlobals "tuple"=some none)
  (z3:PySem.W.nsIn K mainGlobals "list"=some none)
  (z4:PySem.W.nsIn K mainGlobals "all"=some none)
  (z5:PySem.W.nsIn K mainGlobals "any"=some none)
  (z6:PySem.W.nsIn K mainGlobals "max"=some none)
  (z7:PySem.W.nsIn K mainGlobals "min"=some none)
  (z8:PySem.W.nsIn K mainGlobals "sum"=some none)
  (z9:PySem.W.nsIn K mainGlobals "abs"=some none)
  (SO:PySem.W.nsIn K mainGlobals "int"=some none)
  (SN:PySem.W.nsIn K mainGlobals "isinstance"=some none)
  (SM:PySem.W.nsIn K mainGlobals "bool"=some none)
  (SK:PySem.W.nsIn K mainGlobals "enumerate"=some none)
  (SJ:PySem.W.nsIn K mainGlobals "ValueError"=some none)
  (JQ:PySem.W.nsIn K mainGlobals "zip"=some none)
  (rX:PySem.W.nsIn K mainGlobals "sorted"=some none)
  (jr:PySem.W.nsIn K mainGlobals "MOST_GOODS"=some (some (.int 6 tk0)))
  (iw:PySem.W.nsIn K mainGlobals "MOST_BUYERS"=some (some (.int 6 tk1)))
  (gD:PySem.W.nsIn K mainGlobals "MOST_BROUGHT"=some (some (.int 10 S4)))
  (ka:PySem.W.nsIn K mainGlobals "MOST_WISH"=some (some (.int 100 tk3)))
  (gM:PySem.W.nsIn K mainGlobals "MartError"=some (some (.ref M)))
  (UN:PySem.W.nsIn K mainGlobals "NoNumber"=some (some (.ref Nn)))
  (UO:PySem.W.nsIn K mainGlobals "NoMarket"=some (some (.ref Mk)))
  (UL:PySem.W.nsIn K mainGlobals "NoPrices"=some (some (.ref Pr)))
  (UR:PySem.W.nsIn K mainGlobals "Dear"=some (some (.ref De)))
  (UI:PySem.W.nsIn K mainGlobals "Unwished"=some (some (.ref Un)))
  (US:PySem.W.nsIn K mainGlobals "NoBuyer"=some (some (.ref Bu)))
  (UP:PySem.W.nsIn K mainGlobals "NoGood"=some (some (.ref Go)))
  (UM:PySem.W.nsIn K mainGlobals "Nothing"=some (some (.ref No)))
  (UQ:PySem.W.nsIn K mainGlobals "NoDealing"=some (some (.ref Dl)))
  (UJ:PySem.W.nsIn K mainGlobals "NoText"=some (some (.ref Tx)))
  (UK:PySem.W.nsIn K mainGlobals "NoRow"=some (some (.ref Ro)))
  (ti1:PySem.W.kitOne K (.type "NoneType") (.type "int")=some false)
  (ti2:PySem.W.kitOne K (.type "bool") (.type "int")=some true)
  (S8:PySem.W.kitOne K (.type "int") (.type "int")=some true)
  (S7:PySem.W.kitOne K (.type "str") (.type "int")=some false)
  (S6:PySem.W.kitOne K (.type "list") (.type "int")=some false)
  (S5:PySem.W.kitOne K (.type "tuple") (.type "int")=some false)
  (Tf:PySem.W.kitOne K (.type "NoneType") (.type "bool")=some false)
  (Td:PySem.W.kitOne K (.type "bool") (.type "bool")=some true)
  (Tc:PySem.W.kitOne K (.type "int") (.type "bool")=some false)
  (Tb:PySem.W.kitOne K (.type "str") (.type "bool")=some false)
  (Ta:PySem.W.kitOne K (.type "list") (.type "bool")=some false)
  (S9:PySem.W.kitOne K (.type "tuple") (.type "bool")=some false)
  (AF:PySem.W.kitOne K (.type "NoneType") (.type "tuple")=some false)
  (AE:PySem.W.kitOne K (.type "bool") (.type "tuple")=some false)
  (S3:PySem.W.kitOne K (.type "int") (.type "tuple")=some false)
  (S1:PySem.W.kitOne K (.type "str") (.type "tuple")=some false)
  (S0:PySem.W.kitOne K (.type "list") (.type "tuple")=some false)
  (SY:PySem.W.kitOne K (.type "tuple") (.type "tuple")=some true)
  (KO:PySem.W.excIn K Nn [.type "ValueError",.type "Exception",.type "BaseException",.type "object"] "ValueError.__new__"=true)
  (FU:PySem.W.excIn K Pr [.type "ValueError",.type "Exception",.type "BaseException",.type "object"] "ValueError.__new__"=true)
  (eT:PySem.W.typeIn K (.ref M)=some (.type "type")) (eB:PySem.W.mroIn K M (.type "BaseException")=some true)
  (e4:PySem.W.specialIn K (.builtin "object.__class__") "__get__"=some (some (.builtin "getset_descriptor.__get__"))) (e5:PySem.W.takesIn K (.builtin "object.__class__")=some true)
  (BQ:PySem.W.kitOne K (.ref Pr) (.ref De)=some false)
  (BR:PySem.W.kitOne K (.ref Pr) (.ref Bu)=some false)
  (BP:PySem.W.kitOne K (.ref Pr) (.ref Dl)=some false)
  (BO:PySem.W.kitOne K (.ref Pr) (.ref Go)=some false)
  (BN:PySem.W.kitOne K (.ref Pr) (.ref Mk)=some false)
  (BM:PySem.W.kitOne K (.ref Pr) (.ref Nn)=some false)
  (BK:PySem.W.kitOne K (.ref Pr) (.ref Pr)=some true)
  (BJ:PySem.W.kitOne K (.ref Pr) (.ref Ro)=some false)
  (BI:PySem.W.kitOne K (.ref Pr) (.ref Tx)=some false)
  (BL:PySem.W.kitOne K (.ref Pr) (.ref No)=some false)
  (BH:PySem.W.kitOne K (.ref Pr) (.ref Un)=some false)
  (BG:PySem.W.kitOne K (.ref Pr) (.type "ValueError")=some true)
  (Tj:PySem.W.mroIn K Pr (.ref M)=some true) (JV:PySem.W.findIn K (.ref Pr) "__getattribute__"=some (some (.builtin "BaseException.__getattribute__"))) (JU:PySem.W.findIn K (.ref Pr) "__getattr__"=some none) (JT:PySem.W.findIn K (.ref Pr) "__class__"=some (some (.builtin "object.__class__"))) (JS:PySem.W.mroIn K Pr (.type "object")=some true) (Fi:PySem.W.mroIn K Pr (.type "BaseException")=some true)
  (JW:PySem.W.typeIn K (.ref Pr)=some (.type "type")) (Ku:PySem.W.mroIn K Pr (.ref Pr)=some true) :
  ∃fd:FuncData,(∀(s:Shared) (v:Value),BindsTo s fd ⟨[v],[]⟩ [("script",v)])/\∀base:Heap,K.In base->base.Ns mainGlobals mg->aJ l.prog w K mg base cH 10 fa fd ["script"] (t9 K):=by
 obtain⟨_,F0⟩:=vI ["thing"] X G a0;obtain⟨_,F1⟩:=vI ["thing"] X G a1;obtain⟨_,F2⟩:=jv ["one","other"] X G a2;obtain⟨_,F3⟩:=jv ["top","bottom"] X G a3;obtain⟨_,F4⟩:=jv ["one","other"] X G a4;obtain⟨_,F5⟩:=jv ["one","other"] X G a5;obtain⟨_,F6⟩:=jv ["one","other"] X G a6;obtain⟨_,F7⟩:=jv ["one","other"] X G a7;obtain⟨_,F8⟩:=vI ["parts"] X G a8;obtain⟨_,F9⟩:=vI ["parts"] X G a9;obtain⟨_,F10⟩:=jv ["market","thing"] X G VP;obtain⟨_,F11⟩:=jv ["thing","goods"] X G VO;obtain⟨_,F12⟩:=jv ["dealing","good"] X G VN;obtain⟨_,F13⟩:=vI ["market"] X G VM;obtain⟨_,F14⟩:=jv ["market","thing"] X G VL;obtain⟨_,F15⟩:=jv ["market","thing"] X G VJ;obtain⟨_,F16⟩:=jv ["market","prices"] X G VI;obtain⟨_,F17⟩:=jv ["row","prices"] X G VH;obtain⟨_,F18⟩:=jv ["wish","price"] X G VG;obtain⟨_,F19⟩:=NH ["market","prices","dealing"] X G VF;obtain⟨_,F20⟩:=jv ["market","dealing"] X G VE;obtain⟨_,F21⟩:=jv ["best","dealing"] X G VD;obtain⟨_,F22⟩:=NH ["market","prices","dealing"] X G VC;obtain⟨_,F23⟩:=vI ["thing"] X G VB;obtain⟨_,F24⟩:=jv ["thing","most"] X G VA;obtain⟨_,F25⟩:=jv ["thing","most"] X G Vz;obtain⟨_,F26⟩:=vI ["table"] X G Vy;obtain⟨_,SH⟩:=vI ["table"] X G Vx;obtain⟨_,F28⟩:=jv ["barter","prices"] X G Vw;obtain⟨_,F29⟩:=jv ["numbers","prices"] X G Vv;obtain⟨_,F30⟩:=NH ["barter","prices","dealing"] X G Vu;obtain⟨_,F31⟩:=vI ["barter"] X G Vt;obtain⟨_,F32⟩:=jv ["barter","hand"] X G a32;obtain⟨_,F33⟩:=jv ["brought","wishes"] X G Vs;obtain⟨_,F34⟩:=jv ["barter","hands"] X G Vr;obtain⟨_,F35⟩:=jv ["script","k"] X G Vq;obtain⟨_,F36⟩:=jv ["bag","many"] X G Vp;obtain⟨_,SG⟩:=jv ["top","bottom"] X G Vo;obtain⟨_,F38⟩:=jv ["one","other"] X G Vn;obtain⟨_,F39⟩:=jv ["one","other"] X G Vm;obtain⟨_,F40⟩:=jv ["one","other"] X G Vl;obtain⟨_,F41⟩:=vI ["some"] X G Vk;obtain⟨_,F42⟩:=vI ["thing"] X G Vj;obtain⟨_,F43⟩:=jv ["market","prices"] X G Vi;obtain⟨_,F44⟩:=jv ["market","thing"] X G Vh;obtain⟨_,Ω⟩:=vI ["market"] X G Vg;obtain⟨_,Ψ⟩:=NH ["market","prices","dealing"] X G Vf;obtain⟨_,Φ⟩:=vI ["bag"] X G Ve;obtain⟨_,O0⟩:=NH ["bag","thing","deep"] X G Vd;obtain⟨_,Ξ⟩:=vI ["e"] X G Vc;obtain⟨_,Λ⟩:=fg4 ["bag","market","prices","dealing"] X G Vb;obtain⟨_,Θ⟩:=vI ["bag"] X G Va;obtain⟨_,Δ⟩:=jv ["barter","prices"] X G U9;obtain⟨_,Γ⟩:=jv ["barter","thing"] X G U8;obtain⟨_,ω⟩:=NH ["barter","prices","dealing"] X G U7;obtain⟨_,ψ⟩:=jv ["barter","prices"] X G U6;obtain⟨aeL,aeK,WU,XN,WN,XV,XS,XO,aeJ,OU,l56,c56,k56⟩:=OU;have e:=hfa.symm.trans (PySem.W.mg_of X G OU);cases e;have N:Nm mg:=⟨PySem.W.mg_none_of X G z0,PySem.W.mg_none_of X G z1,PySem.W.mg_none_of X G z2,PySem.W.mg_none_of X G z3,PySem.W.mg_none_of X G z4,PySem.W.mg_none_of X G z5,PySem.W.mg_none_of X G z6,PySem.W.mg_none_of X G z7,PySem.W.mg_none_of X G z8,PySem.W.mg_none_of X G z9,PySem.W.mg_none_of X G SO,PySem.W.mg_none_of X G SN,PySem.W.mg_none_of X G SM,PySem.W.mg_none_of X G SK,PySem.W.mg_none_of X G SJ⟩;have Kt:=PySem.W.mg_none_of X G JQ;have Hh:=PySem.W.mg_none_of X G rX;have Z:rd K:=⟨ti1,ti2,S8,S7,S6,S5,Tf,Td,Tc,Tb,Ta,S9,AF,AE,S3,S1,S0,SY⟩;have va:=PySem.W.mg_of X G jr;have sW:=PySem.W.mg_of X G iw;have pU:=PySem.W.mg_of X G gD;have wU:=PySem.W.mg_of X G ka;have Ts:=PySem.W.mg_of X G gM;have zo:=PySem.W.mg_of X G UN;have Kl:=PySem.W.mg_of X G UO;have Bj:=PySem.W.mg_of X G UL;have Ko:=PySem.W.mg_of X G UR;have Kg:=PySem.W.mg_of X G UI;have Kq:=PySem.W.mg_of X G US;have Km:=PySem.W.mg_of X G UP;have Kk:=PySem.W.mg_of X G UM;have Kn:=PySem.W.mg_of X G UQ;have Kh:=PySem.W.mg_of X G UJ;have Kj:=PySem.W.mg_of X G UK;have R:Wb K mg M De Bu Dl Go Mk Nn Pr Ro Tx No Un:=⟨Ts,Ko,Kq,Kn,Km,Kl,zo,Bj,Kj,Kh,Kk,Kg,eT,eB⟩;have EPr:xU K M De Bu Dl Go Mk Nn Pr Ro Tx No Un Pr 6:=⟨BQ,BR,BP,BO,BN,BM,BK,BJ,BI,BL,BH,BG,FU,Tj,⟨JV,JU,JT,e4,e5,JS,Fi⟩⟩;have F56:=wu (st:=top 82) l56 c56 k56;refine⟨PySem.W.fnOf "law" "law" (vC (top 82)) (pZ (top 82)) (aS (top 82)) .none WU XN WN XV XS XO,λs v=>.of_eq rfl,λbase _ _=>?_⟩;have W:bo K mg l.prog w base _ _ _ _ _ _:=F0.c (DK F0.F N Z);have Gc:bo K mg l.prog w base _ _ _ _ _ _:=F2.c (Mh F2.F N);have Gn:bo K mg l.prog w base _ _ _ _ _ _:=F2.c (G3 F2.F N);have IF:bo K mg l.prog w base _ _ _ _ _ _:=F1.c (Aa F1.F N Z W Gc);have Fr:ik K mg l.prog w base _ _ _ _ _ _:=F3.x (u7 F3.F zo KO Gn);have Pl:ik K mg l.prog w base _ _ _ _ _ _:=F4.x (GW F4.F Fr);have Ti:ik K mg l.prog w base _ _ _ _ _ _:=F5.x (DM F5.F Fr);have Ov:ik K mg l.prog w base _ _ _ _ _ _:=F6.x (GX F6.F Fr);have Ls:bo K mg l.prog w base _ _ _ _ _ _:=F7.c (G1 F7.F);have To:bo K mg l.prog w base _ _ _ _ _ _:=F8.c (DL F8.F Pl);have Gr:bo K mg l.prog w base _ _ _ _ _ _:=F9.c (u6 F9.F Ls);have Ra:bo K mg l.prog w base _ _ _ _ _ _:=F18.c (GV F18.F Ov);have Bb:bo K mg l.prog w base _ _ _ _ _ _:=F17.c (Ru F17.F N Ra Gr);have Wi:bo K mg l.prog w base _ _ _ _ _ _:=F13.c (LW F13.F N);have Ar:bo K mg l.prog w base _ _ _ _ _ _:=F14.c (L8 F14.F N Z IF Wi);have Ne:ik K mg l.prog w base _ _ _ _ _ _:=F15.x (DN F15.F Bj FU Ar);have Be:bo K mg l.prog w base _ _ _ _ _ _:=F16.c (Ml F16.F N Ne Bb);have Dr:bo K mg l.prog w base _ _ _ _ _ _:=F11.c (G5 F11.F N Z IF);have IDl:bo K mg l.prog w base _ _ _ _ _ _:=F10.c (DS F10.F N Z Dr);have Gia:bo K mg l.prog w base _ _ _ _ _ _:=F12.c (Mg F12.F To);have Sel:bo K mg l.prog w base _ _ _ _ _ _:=F20.c (zZ F20.F N Gia Wi);have Spe:bo K mg l.prog w base _ _ _ _ _ _:=F22.c (wL F22.F N Kt Ti To);have Giv:bo K mg l.prog w base _ _ _ _ _ _:=F21.c (DT F21.F N);have Sh:bo K mg l.prog w base _ _ _ _ _ _:=F19.c (L5 F19.F N Be IDl Sel Giv Spe);have Rw:bo K mg l.prog w base _ _ _ _ _ _:=F25.c (zz.L7 F25.F N Z va W);have Tbl:bo K mg l.prog w base _ _ _ _ _ _:=F24.c (zz.LY F24.F N Z sW Rw);have Cl1:bo K mg l.prog w base _ _ _ _ _ _:=SH.c (zz.sx SH.F N);have Cl2:bo K mg l.prog w base _ _ _ _ _ _:=SH.c (sx SH.F N);have Nou:bo K mg l.prog w base _ _ _ _ _ _:=F26.c (zz.Rp F26.F N Cl1);have Ib:bo K mg l.prog w base _ _ _ _ _ _:=F23.c (zz.Rr F23.F N Z pU wU Tbl Nou);have Mny:bo K mg l.prog w base _ _ _ _ _ _:=F29.c (DO F29.F N Kt Ti To);have Ma:ik K mg l.prog w base _ _ _ _ _ _:=F28.x (GZ F28.F N Cl2 Ne Mny);have Le:bo K mg l.prog w base _ _ _ _ _ _:=F30.c (G0 F30.F N Bj JW Fi Ku Ma Sh)
 have Bw:bo K mg l.prog w base _ _ _ _ _ _:=F33.c (Bv.Rs F33.F N Kt);have Ob:bo K mg l.prog w base _ _ _ _ _ _:=F34.c (Bv.Rn F34.F N);have Sw:bo K mg l.prog w base _ _ _ _ _ _:=F32.c (Bv.Rm F32.F N Hh Bw);have Bd:bo K mg l.prog w base _ _ _ _ _ _:=F31.c (Bv.Rt F31.F N Sw Ob);have Bg:bo K mg l.prog w base _ _ _ _ _ _:=F35.c (Mn F35.F N);have T:bo K mg l.prog w base _ _ _ _ _ _:=F36.c (GU F36.F);have Lf:bo K mg l.prog w base _ _ _ _ _ _:=SG.c (G4 SG.F N);have V6:bo K mg l.prog w base _ _ _ _ _ _:=SG.c (Rq SG.F N);have V5:bo K mg l.prog w base _ _ _ _ _ _:=F39.c (wN F39.F V6);have La:bo K mg l.prog w base _ _ _ _ _ _:=F38.c (wP F38.F V6);have Ld:bo K mg l.prog w base _ _ _ _ _ _:=F40.c (wO F40.F V6);have Su:bo K mg l.prog w base _ _ _ _ _ _:=F41.c (LZ F41.F La);have Li:bo K mg l.prog w base _ _ _ _ _ _:=F42.c (wM F42.F N Z Lf);have LB:bo K mg l.prog w base _ _ _ _ _ _:=F43.c (Mm F43.F N);have LDl:bo K mg l.prog w base _ _ _ _ _ _:=F44.c (G2 F44.F N Z Li);have Lws:bo K mg l.prog w base _ _ _ _ _ _:=Ω.c (LX Ω.F N);have LSh:bo K mg l.prog w base _ _ _ _ _ _:=Ψ.c (L6 Ψ.F N LB Su Lws La V5);have Od:bo K mg l.prog w base _ _ _ _ _ _:=Φ.c (GS Φ.F T);have Re:bo K mg l.prog w base _ _ _ _ _ _:=O0.c (yi O0.F N Z T Od O0.mg O0.kp O0.bd 4);have Ki:K2 K mg l.prog w base _ _ _ _ _ _:=Ξ.h (DP Ξ.F N R);have Kb:bo K mg l.prog w base _ _ _ _ _ _:=Λ.c (Md Λ.F N T Ld);have Dea:bo K mg l.prog w base _ _ _ _ _ _:=Θ.c (DU Θ.F N T);have π:bo K mg l.prog w base _ _ _ _ _ _:=Δ.c (GY Δ.F N V5 Su);have Apr:bo K mg l.prog w base _ _ _ _ _ _:=Γ.c (Mp Γ.F N Z Li);have Du:bo K mg l.prog w base _ _ _ _ _ _:=ω.c (Mj ω.F N Apr π LDl LSh);have Mr:bo K mg l.prog w base _ _ _ _ _ _:=ψ.c (L9 ψ.F N R EPr Ma Ki Apr π);exact Mc F56 N Z Bg T Dea Kb Ib Le Bd V5 Re Od Du Mr
theorem walk {l:PySem.W.OpenLaw}{q:Program}{qh:Δ2}{XP:(Θ3)->Heap->Prop}{YP:World->Heap->Prop}{d:DefRec}{K:Params->Θ1}(hn:l.most=some 63)(OE:d.params.defaults=[])
  (hY:∀(w:World) (h:Heap),YP w h->(K w.params).In h)
  (F:∀(w:World) (mg:Θ3) (fa:Addr) (h:Heap),(K w.params).In h->h.Ns mainGlobals mg->mg d.name=some (.ref fa) ->
   ∃fd:FuncData,(∀(s:Shared) (u:Value),BindsTo s fd ⟨[u],[]⟩ [("script",u)])/\∀base:Heap,(K w.params).In base->base.Ns mainGlobals mg->aJ l.prog w (K w.params) mg base cH 10 fa fd ["script"] (t9 (K w.params))) :
  PySem.W.WalkO q qh XP YP l.row.toRowW d [] (λf vs=>PySem.call f vs) :=
 L2.FW (n:=63) (k:=10) (x:="script") (CX:=λ_=>cH) (sp:=λw=>t9 (K w.params)) hn (by decide) OE ⟨rfl,by decide,by decide⟩ hY F (λ_ _ a ns hl _ hS=>⟨a,ns,rfl,hS,hl,λ_=>rfl⟩) λ_ _ _ _ _ z=>z
end kr
open PySem PySem.W PyProof.Rows
namespace PySem.W.Fast
def tw16436643455843830577:=0
def tw8681997561293623270:=0
def tw15039688032339950679:=0
def tw444663109761343773:=0
def tw10681668445598000235:=0
def tw2293763427000120513:=0
def tw3302633242125396154:=0
def tw4743928396769166427:=0
def tw1462746274497334068:=0
def tw3219023956431504496:=0
def tw15556930276072842268:=0
def tw16069986775431541930:=0
def tw12056423147014944317:=0
def tw8617296712781206646:=0
def tw8006410180742069764:=0
def tw9859491200301350209:=0
def tw16976775265501943052:=0
def tw1442640176372512004:=0
def tw980277230875443317:=0
def tw4579794804672325608:=0
def tw9183275008463490271:=0
def tw11060119477523133756:=0
def tw5068723904146940748:=0
def tw15870624619512270854:=0
def tw5452998822491078054:=0
def tw14185211274144245209:=0
def tw15478491858440407266:=0
def tw11543071249233171912:=0
def tw12065529312372670083:=0
def tw165204494252349328:=0
def tw17819112147560496152:=0
def tw4820367391360367308:=0
def tw1642396119224023454:=0
def tw3287242301083795802:=0
def tw13244779449049381784:=0
def tw6605419698110488371:=0
def tw9316736161796238865:=0
def tw17473187193379525759:=0
def tw1707857840685600753:=0
def tw15722796332642274906:=0
def tw6903113387549169678:=0
def tw11480229090714538467:=0
def tw2519015450904559822:=0
def tw614878964177415293:=0
def tw8461312148209373801:=0
def tw1514983428161185911:=0
def tw12593782439733061469:=0
def tw4064306873774347633:=0
def tw4445068507287475148:=0
def tw15865219750602472194:=0
def tw11839600059896642493:=0
def tw13971090128220345933:=0
def tw3996882340584375449:=0
def tw5619423625492876083:=0
def tw16547563868010443161:=0
def tw11044264529516912345:=0
def tw8920677044708664057:=0
def tw13005430233620642116:=0
def tw17252633418665617147:=0
def tw9699895582430272751:=0
def tw4580858160596147226:=0
def tw5383809364629134701:=0
def tw3900978083776489323:=0
def tw11360809133663264137:=0
def tw9024545265293144242:=0
def tw14908918130651794808:=0
def tw15738647930646648734:=0
def tw7748069935192497278:=0
def tw15670228369058809720:=0
def tw16309209042731928876:=0
def tw7362378844977283442:=0
def tw14112862231249204903:=0
def tw1019206987574379528:=0
def tw9415496717912677773:=0
def tw13754712353965018226:=0
def tw14576103202819339848:=0
def tw13175875857649282551:=0
def tw4768222165626466937:=0
def tw12036352622964063480:=0
def tw18240528782849961264:=0
def tw3757126409465081085:=0
def tw12293927597914347988:=0
def tw14241121986745265019:=0
def tw7552955526326338557:=0
def tw9173897088580455911:=0
def tw9413457258113049499:=0
def tw15996908376874583865:=0
def tw8709774338519498100:=0
def tw9187802565945812948:=0
def tw8616452560970115731:=0
def tw7524688359219661838:=0
def tw8142897827226344281:=0
def tw8779554231352547541:=0
def tw10247740856628813091:=0
def tw17598048694480481420:=0
def tw4034866991395997291:=0
def tw12836130335315529319:=0
def tw11512893484087043056:=0
def tw9721453978304014596:=0
def tw10795914125295575668:=0
def tw17590131127363445627:=0
def tw9368281486623937017:=0
def tw8492560367473147316:=0
def tw1571990980558542703:=0
def tw4299667406042369740:=0
def tw10461002276833488611:=0
def tw15713673538388778655:=0
def tw4157030599648407527:=0
def tw9158591164054533137:=0
def tw455040403584299244:=0
def tw10279114334349374291:=0
def tw5275228471152324141:=0
def tw10995561369507628811:=0
def tw8262241363662569684:=0
def tw12429993454964475914:=0
def tw8530828871639929575:=0
def tw5190701689724367014:=0
def tw3612402789950454722:=0
def tw808041454207250957:=0
def tw14617311549816293394:=0
def tw17484680731535291111:=0
def tw160827637329451998:=0
def tw9470002539792848525:=0
def tw7544194493351750015:=0
def tw3985945078360178339:=0
def tw3968249807496215503:=0
def tw10888468422295933282:=0
def tw5064266169530051628:=0
def tw5846089230325847721:=0
def tw9924781081298990929:=0
def tw124730706368324534:=0
def tw4222938039541424165:=0
def tw2629190561423420902:=0
def tw8080928413041590764:=0
def tw14741000063550136796:=0
def tw5726596415866113770:=0
def tw13422584367147530025:=0
def tw2147660367515994582:=0
def tw17064510316469881068:=0
def tw14564797136180743553:=0
def tw11772642725535103222:=0
def tw16591417469924729980:=0
def tw420304078258572717:=0
def tw5940422917194897259:=0
def tw3960563414610901365:=0
def tw791547973604885106:=0
def tw14742167910443346331:=0
def tw16616263444517534076:=0
def tw10208204756616048554:=0
def tw14541116725372673752:=0
def tw1396949151647573060:=0
def tw7742042350596600847:=0
def tw6310303483473524369:=0
def tw5623230474954357417:=0
def tw16224670990874735501:=0
def tw2372150176386633953:=0
def tw14795246721313173626:=0
def tw2672419525611192437:=0
def tw14219841758241910706:=0
def tw13078526044111011611:=0
def tw8855817611353654291:=0
def tw17731178020891980829:=0
def tw15291675564321812606:=0
def tw8806591980172940818:=0
def tw6517585442406411865:=0
def tw17162912789410288041:=0
def tw14276717502919363362:=0
def tw3245390021303210902:=0
def tw9079718287542804705:=0
def tw7477066927109455528:=0
def tw5768855393527065091:=0
def tw11807961157479577296:=0
def tw12239356890171746429:=0
def tw3438725179012626306:=0
def tw700213729637151108:=0
def tw18030503426526502562:=0
def tw4448431324854247164:=0
def tw6146317604226150947:=0
def tw2912909822318271681:=0
def tw610401176503214300:=0
def tw4168210164591008874:=0
def tw17901080513991753942:=0
def tw10478723318607448748:=0
def tw16692536479960229325:=0
def tw12931707026436448554:=0
def tw4194002180655044147:=0
def tw4865464279109471501:=0
def tw3594879662843137604:=0
def tw3639487261780132059:=0
end PySem.W.Fast
set_option maxRecDepth 100000 in
set_option maxHeartbeats 0 in
theorem PySem.Challenge.cw_wishmart_k30_whole_barters_let_by_holds : PySem.Challenge.rw_wishmart_k30_whole_barters_let_by.Holds := by
 w_on;o_law;k_head;(case hw=>w_witness2)
 k_fill
 refine kr.walk (l:=PySem.Challenge.rw_wishmart_k30_whole_barters_let_by) rfl rfl (λw h Y=>PySem.W.kIn_of Y) ?F
 case F =>
  intro w mg fa h KX G HM;refine' kr.all_mk KX G HM ?a0 ?a1 ?a2 ?a3 ?a4 ?a5 ?a6 ?a7 ?a8 ?a9 ?VP ?VO ?VN ?VM ?VL ?VJ ?VI ?VH ?VG ?VF ?VE ?VD ?VC ?VB ?VA ?Vz ?Vy ?Vx ?Vw ?Vv ?Vu ?Vt ?a32 ?Vs ?Vr ?Vq ?Vp ?Vo ?Vn ?Vm ?Vl ?Vk ?Vj ?Vi ?Vh ?Vg ?Vf ?Ve ?Vd ?Vc ?Vb ?Va ?U9 ?U8 ?U7 ?U6 ?OU ?z0 ?z1 ?z2 ?z3 ?z4 ?z5 ?z6 ?z7 ?z8 ?z9 ?SO ?SN ?SM ?SK ?SJ ?JQ ?rX ?jr ?iw ?gD ?ka ?gM ?UN ?UO ?UL ?UR ?UI ?US ?UP ?UM ?UQ ?UJ ?UK ?ti1 ?ti2 ?S8 ?S7 ?S6 ?S5 ?Tf ?Td ?Tc ?Tb ?Ta ?S9 ?AF ?AE ?S3 ?S1 ?S0 ?SY ?KO ?FU ?eT ?eB ?e4 ?e5 ?BQ ?BR ?BP ?BO ?BN ?BM ?BK ?BJ ?BI ?BL ?BH ?BG ?Tj ?JV ?JU ?JT ?JS ?Fi ?JW ?Ku
  (case a0 |a1 |a2 |a3 |a4 |a5 |a6 |a7 |a8 |a9 |VP |VO |VN |VM |VL |VJ |VI |VH |VG |VF |VE |VD |VC |VB |VA |Vz |Vy |Vx |Vw |Vv |Vu |Vt |a32 |Vs |Vr |Vq |Vp |Vo |Vn |Vm |Vl |Vk |Vj |Vi |Vh |Vg |Vf |Ve |Vd |Vc |Vb |Va |U9 |U8 |U7 |U6 |OU=>exact⟨_,_,_,_,_,_,_,_,_,by k_is,by k_is,by k_is,by k_is⟩)
  (case z0 |z1 |z2 |z3 |z4 |z5 |z6 |z7 |z8 |z9 |SO |SN |SM |SK |SJ |JQ |rX |jr |iw |gD |ka |gM |UN |UO |UL |UR |UI |US |UP |UM |UQ |UJ |UK=>k_is)
  (case ti1 |ti2 |S8 |S7 |S6 |S5 |Tf |Td |Tc |Tb |Ta |S9 |AF |AE |S3 |S1 |S0 |SY |BQ |BR |BP |BO |BN |BM |BK |BJ |BI |BL |BH |BG=>first |rfl |kit_is |k_is)
  (case KO |FU |eT |eB |e4 |e5 |Tj |JV |JU |JT |JS |Fi |JW |Ku=>first |k_is |kit_is |rfl |kernel_rfl |decide+kernel)
