import PyProof.Rows.All
import Wide.All
import OpenK.AllK
import Wide.FinOn
import Lean
import PyProof.EqAt
import PyProof.EqKinds
import PyProof.TupleCall
import KE.KMinKey
import PyProof.Rows.CallKwBuiltin
import PyProof.ListRange
import PyProof.Rows.SortWalk
import PySem.Challenge.RW_wishmart_k42_whole_two_goods_by_the_midd
set_option Elab.async false
set_option linter.all false
set_option maxRecDepth 100000
set_option maxHeartbeats 8000000
open Lean in
def cvP:Nat->Syntax->MacroM (TSyntax `rcasesPat)
 |0,_=>Macro.throwUnsupported
 |n+1,s=>match s with
  | `(⟨$a,*⟩)=>do
   let b<-a.getElems.mapM fun x=>do `(Lean.Parser.Tactic.rcasesPatLo| $(<-cvP n x):rcasesPat)
   `(rcasesPat| ⟨$b,*⟩)
  | `(_)=>`(rcasesPat| _)
  | _=>if s.isIdent then `(rcasesPat| $(⟨s⟩):ident) else Macro.throwUnsupported
section
open PySem
local macro_rules
 | `(tactic| let $p:term := $e)=>do match p with
  | `(⟨$_,*⟩)=>`(tactic| obtain $(<-cvP 99 p):rcasesPat := $e)
  | _=>Lean.Macro.throwUnsupported
local macro_rules | `(tactic| let $i:ident := $e)=>`(tactic| have $i:ident := $e)
local macro_rules | `(tactic| let $i:ident : $t := $e)=>`(tactic| have $i:ident : $t := $e)
local macro_rules | `(tactic| apply $e)=>`(tactic| refine $e)
local macro_rules | `(())=>`(rfl)
local macro_rules | `(⋯)=>`(by omega)
local macro_rules | `(∅)=>`(by decide)
set_option compiler.extract_closed false
noncomputable section
abbrev Γ1:=List (List Int)
abbrev Γ2:=List (PySem.Addr×PySem.Obj)
abbrev Γ3:=List Int
abbrev Δ1:=List Rat
abbrev Δ2:=List PySem.Str
abbrev Δ3:=List PySem.Value
abbrev Θ1:=PySem.W.Frag
abbrev Θ2:=PySem.Value->PySem.Shared->Prop
abbrev Θ3:=PySem.Str->Option PySem.Value
abbrev Ξ1:=List PySem.PyData
abbrev Ξ2:=List PySem.Expr
abbrev Ψ8:List PySem.Str:=["market","prices"]
theorem Ψ9(N:List PySem.Str)(h:N.Nodup:=by decide+kernel):N.Nodup:=h
abbrev Za:=@PySem.wpAny_bind
abbrev Zb:=@List.length_map
abbrev Zc:=@List.getElem?_eq_getElem
abbrev Zd:=@List.mem_map
abbrev Ze:=@Nat.le_refl
abbrev Zf:=@List.getElem?_eq_some_iff
abbrev Zg:=@List.mem_filter
abbrev Zh:=@List.mem_range
abbrev Zi:=@List.mem_cons_self
abbrev Zj:=@List.mem_cons_of_mem
abbrev Zk:=@List.mem_cons
abbrev Zl:=@Nat.le_trans
abbrev Zm:=@PySem.Heap.get?_push_of_some
abbrev Zn:=@List.map_cons
abbrev Zo:=@List.getElem?_map
abbrev Zp:=@List.map_map
abbrev Zq:=@List.getElem?_append_left
abbrev Zr:=@PySem.Heap.lt_size
abbrev Zs:=@List.map_append
abbrev Zt:=@Rat.le_of_lt
abbrev Zu:=@List.length_append
abbrev Zv:=@List.getElem_mem
abbrev Zw:=@List.mem_append
abbrev Zy:=@List.mem_singleton
abbrev Zz:=@PySem.Heap.get?_push_size
abbrev Z0:=@List.mem_of_getElem?
abbrev Z1:=@Int.toNat_natCast
abbrev Z2:=@Nat.lt_or_ge
abbrev Z3:=@Bool.false_ne_true
abbrev Z4:=@List.filter_sublist
abbrev Z5:=@List.size_toArray
abbrev Z6:=@List.any_eq_true
abbrev Z7:=@Nat.zero_le
abbrev Z8:=@Bool.and_eq_true
abbrev Z9:=@List.contains_iff_mem
abbrev Ya:=@List.getElem?_set_ne
abbrev Yb:=@Bool.eq_iff_iff
abbrev Yc:=@List.nodup_cons
abbrev Yd:=@Rat.mul_pos
abbrev Ye:=@Nat.ne_of_lt
abbrev Yf:=@List.all_eq_true
abbrev Yg:=@Nat.lt_of_lt_of_le
abbrev Yh:=@List.getElem?_append_right
abbrev Yi:=@PySem.boot_len
abbrev Yj:=@Nat.lt_irrefl
abbrev Yk:=@List.getElem?_set_self
abbrev Yl:=@List.mem_append_right
abbrev Ym:=@List.append_nil
abbrev Yn:=@Rat.le_trans
abbrev Yo:=@List.length_set
abbrev Yp:=@List.take_length
abbrev Yq:=@List.getElem_of_mem
abbrev Yr:=@Rat.le_refl
abbrev Ys:=@List.append_assoc
abbrev Yt:=@PySem.W.mg_none_of
abbrev Yu:=@List.getElem?_eq_none
abbrev Yv:=@List.length_filter_le
abbrev Yw:=@Rat.zero_add
abbrev Yx:=@Rat.not_lt
abbrev Yy:=@List.getElem?_range
abbrev Yz:=@List.length_take
abbrev Y0:=@List.filter_congr
abbrev Y1:=@Option.map_some
abbrev Y2:=@List.length_cons
abbrev Y3:=@List.length_range
abbrev Y4:=@Rat.mul_le_mul_of_nonneg_right
abbrev Y5:=@PySem.Heap.size_push
abbrev Y6:=@List.mem_append_left
abbrev Y7:=@List.getElem?_replicate
abbrev Y8:=@Int.toNat_of_nonneg
abbrev Y9:=@Nat.pow_le_pow_right
abbrev Xa:=@Rat.intCast_pos
abbrev Xb:=@Nat.le_of_not_lt
abbrev Xc:=@List.range_succ
abbrev Xd:=@Int.mul_pos
abbrev Xe:=@List.foldl_cons
abbrev Xf:=@List.map_congr_left
abbrev Xg:=@Rat.mul_le_mul_of_nonneg_left
abbrev Xh:=@PySem.mem_of_lookup
abbrev Xi:=@List.length_pos_iff
abbrev Xj:=@List.filter_append
abbrev Xk:=@List.all_map
abbrev Xl:=@Rat.num_divInt_den
abbrev Xm:=@Bool.true_and
abbrev Xn:=@Int.le_refl
abbrev Xo:=@Rat.intCast_le_intCast
abbrev Xp:=@Int.natAbs_natCast
abbrev Xq:=@PySem.Heap.get?_update_other
abbrev Xr:=@Nat.ne_of_gt
abbrev Xs:=@List.any_cons
abbrev Xt:=@Nat.le_succ
abbrev Xu:=@Int.natAbs_mul
abbrev Xv:=@List.filter_eq_nil_iff
abbrev Xw:=@Rat.zero_mul
abbrev Xx:=@Rat.intCast_mul
abbrev Xy:=@List.all_cons
abbrev Xz:=@Option.getD_some
abbrev X0:=@List.map_id
abbrev X1:=@List.any_map
abbrev X2:=@Rat.div_def
abbrev X3:=@List.find?_cons
abbrev X4:=@List.nodup_nil
abbrev X5:=@List.nodup_range
abbrev X6:=@Rat.mul_zero
abbrev X7:=@Rat.divInt_eq_div
abbrev X8:=@List.nodup_append
abbrev X9:=@Nat.sub_self
abbrev Qa:=@List.map_eq_nil_iff
abbrev Qb:=@Nat.mul_le_mul
abbrev Qc:=@List.filter_eq_self
abbrev Qd:=@Option.isSome_iff_exists
abbrev Qe:=@List.lookup_cons
abbrev Qg:=@List.mem_iff_getElem
abbrev Qh:=@Rat.add_zero
abbrev Qi:=@List.sum_cons
abbrev Qj:=@Bool.false_eq_true
abbrev Qk:=@List.ext_getElem?
abbrev Ql:=@List.filter_cons
abbrev Qm:=@PySem.Heap.get?_update_self
abbrev Qn:=@List.length_replicate
abbrev Qo:=@List.length_drop
abbrev Qp:=@Bool.or_eq_true
abbrev Qq:=@List.filter_filter
abbrev Qr:=@Rat.intCast_add
abbrev Qs:=@Rat.mul_nonneg
abbrev Qt:=@List.sublist_nil
abbrev Qu:=@List.filter_cons_of_neg
abbrev Qv:=@Int.fdiv_eq_ediv_of_nonneg
abbrev Qw:=@List.length_singleton
abbrev Qx:=@Int.gcd_pos_of_ne_zero_right
abbrev Qy:=@Int.gcd_dvd_right
abbrev Qz:=@Int.mul_fdiv_cancel_left
abbrev Q4:=@Rat.sub_eq_add_neg
abbrev Q5:=@List.not_mem_nil
abbrev Q6:=@Bool.not_eq_true
abbrev Q7:=@Rat.add_le_add_left
abbrev Q8:=@Rat.add_le_add_right
abbrev Q9:=@List.filter_cons_of_pos
abbrev Ja:=@List.mem_flatMap
abbrev Jb:=@List.isEmpty_map
abbrev Jc:=@Rat.mul_lt_mul_of_pos_right
abbrev Jd:=@List.length_eq_zero_iff
namespace L2
open PySem.Spec PyProof.Rows
abbrev dE:=Sum Int Str
def nu:dE->Value->Bool
 |.inl k,v=>Value.isInt k v
 |.inr x,v=>Value.isStrOf x v
def abC (w:World):dE->Int
 |.inl k=>hashInt k
 |.inr x=>hashStr w x
theorem GW:∀{k:dE}{v:Value},nu k v=true->(∃i t,k=Sum.inl i/\v=Value.int i t)\/(∃x t,k=Sum.inr x/\v=Value.str x t)
 |.inl i,v,h=>by
  let⟨t,e⟩:=Value.isInt_shape (k:=i) (v:=v) h;exact .inl ⟨i,t,(),e⟩
 |.inr x,v,h=>by
  let⟨t,e⟩:=Value.isStrOf_shape (x:=x) (v:=v) h;exact .inr ⟨x,t,(),e⟩
def BV (i:Int)(t:Tok):nu (.inl i) (.int i t)=true:=by simp[nu,Value.isInt]
def BU (x:Str)(t:Tok):nu (.inr x) (.str x t)=true:=by simp[nu,Value.isStrOf]
def QN (a b:Int):decide ((Sum.inl a:dE)=Sum.inl b)=(a == b):=by
 by_cases e:a=b
 .subst e;simp
 .let h:¬ (Sum.inl a:dE)=Sum.inl b:=λq=>e (Sum.inl.inj q)
  rw[decide_eq_false h];exact(beq_eq_false_iff_ne.mpr e).symm
def QK (a b:Str):decide ((Sum.inr a:dE)=Sum.inr b)=decide (a=b):=by
 by_cases e:a=b
 .subst e;simp
 .let h:¬ (Sum.inr a:dE)=Sum.inr b:=λq=>e (Sum.inr.inj q)
  rw[decide_eq_false h,decide_eq_false e]
def QM (a:Int)(b:Str):decide ((Sum.inl a:dE)=Sum.inr b)=false:=decide_eq_false (λq=>nomatch q)
def QL (a:Str)(b:Int):decide ((Sum.inr a:dE)=Sum.inl b)=false:=decide_eq_false (λq=>nomatch q)
def lG (prog:Program)(w:World):PySem.KeyKind prog w dE where
 is:=nu
 hash:=abC w
 inj:=λv a b ha hb=>by
  rcases GW ha with ⟨i,t,rfl,rfl⟩ |⟨x,t,rfl,rfl⟩
  .rcases GW hb with ⟨j,u,rfl,e⟩ |⟨y,u,rfl,e⟩
   .injection e with e1 _;rw[e1]
   .exact nomatch e
  .rcases GW hb with ⟨j,u,rfl,e⟩ |⟨y,u,rfl,e⟩
   .exact nomatch e
   .injection e with e1 _;rw[e1]
 byValue:=λk v h=>by
  rcases GW h with ⟨i,t,rfl,rfl⟩ |⟨x,t,rfl,rfl⟩<;>rfl
 pyHash:=λhv h=>by
  rcases GW hv with ⟨i,t,rfl,rfl⟩ |⟨x,t,rfl,rfl⟩
  .exact wpAny_pyHash_int h
  .exact wpAny_pyHash_str h
 eqBool:=λhu hv h=>by
  rcases GW hu with ⟨i,t,rfl,rfl⟩ |⟨x,t,rfl,rfl⟩
  .rcases GW hv with ⟨j,u,rfl,rfl⟩ |⟨y,u,rfl,rfl⟩
   .rw[QN] at h;exact wpAny_eqBool_int h
   .rw[QM] at h;exact SeqAt.EqAt.int_str i t y u _ _ _ _ h
  .rcases GW hv with ⟨j,u,rfl,rfl⟩ |⟨y,u,rfl,rfl⟩
   .rw[QL] at h;exact SeqAt.EqAt.str_int x t j u _ _ _ _ h
   .rw[QK] at h;exact wpAny_eqBool_str h
 «strs»:=λk x t v h=>by
  rcases GW h with ⟨i,u,rfl,e⟩ |⟨y,u,rfl,e⟩
  .exact nomatch e
  .injection e with e1 _
   subst e1;cases v<;>rfl
def vC (prog:Program)(w:World)(i:Int)(t:Tok):(lG prog w).is (.inl i) (.int i t)=true:=BV i t
def vB (prog:Program)(w:World)(x:Str)(t:Tok):(lG prog w).is (.inr x) (.str x t)=true:=BU x t
inductive V where
 |cg |bl (b:Bool) |int (i:Int) |str (x:Str) |A0 (b:Array UInt8) |R3 (b:UInt64) |ref (a:Addr) |ty (n:String)
 deriving DecidableEq
def RelV:V->Value->Prop
 |.cg,u=>u=Value.none
 |.bl b,u=>u=Value.bool b
 |.int i,u=>∃t,u=Value.int i t
 |.str x,u=>∃t,u=Value.str x t
 |.A0 b,u=>∃t,u=Value.bytes b t
 |.R3 b,u=>∃t,u=Value.float b t
 |.ref a,u=>u=Value.ref a
 |.ty n,u=>u=Value.type n
abbrev bh:List V->Δ3->Prop:=Paired RelV
def bh.length {xs:List V}{us:Δ3}(r:bh xs us):xs.length=us.length:=Paired.length r
theorem bh.get:∀{xs:List V}{us:Δ3}{i:Nat}{x:V},bh xs us->xs[i]?=some x->∃u,us[i]?=some u/\RelV x u
 |_,_,_,_,.nil,e=>by simp at e
 |_,_,0,_,.cons r _,e=>by simp at e;subst e;exact⟨_,(),r⟩
 |_,_,i+1,x,.cons _ t,e=>by
  let⟨u,h1,h2⟩:=bh.get (i:=i) (x:=x) t (by simpa using e);exact⟨u,by simpa using h1,h2⟩
theorem bh.set (r:RelV x u):∀{xs:List V}{us:Δ3}(i:Nat),bh xs us->bh (xs.set i x) (us.set i u)
 |_,_,_,.nil=>.nil
 |_,_,0,.cons _ t=>.cons r t
 |_,_,i+1,.cons q t=>.cons q (bh.set r i t)
theorem bh.append:∀{xs ys:List V}{us ws:Δ3},bh xs us->bh ys ws->bh (xs++ys) (us++ws)
 |_,_,_,_,.nil,s=>s
 |_,_,_,_,.cons r t,s=>.cons r (bh.append t s)
theorem bh.take:∀{xs:List V}{us:Δ3}(n:Nat),bh xs us->bh (xs.take n) (us.take n)
 |_,_,0,_=>.nil
 |_,_,_+1,.nil=>.nil
 |_,_,n+1,.cons r t=>.cons r (bh.take n t)
theorem bh.drop:∀{xs:List V}{us:Δ3}(n:Nat),bh xs us->bh (xs.drop n) (us.drop n)
 |_,_,0,r=>r
 |_,_,_+1,.nil=>.nil
 |_,_,n+1,.cons _ t=>bh.drop n t
def aF:Option V->Option Value->Prop
 |some v,some u=>RelV v u
 |none,none=>True
 |_,_=>False
def KV {κ : Type}:List (κ × V)->List (κ × Value)->Prop:=Paired λ(p:κ × V) (q:κ × Value)=>p.1=q.1/\RelV p.2 q.2
def kV:dE->V
 |.inl i=>.int i
 |.inr x=>.str x
inductive HO where
 |lst (xs:List V)
 |tup (xs:List V)
 |dK (kvs:List (dE×V)) |dT (kvs:List (List dE×V))
 |set (S:Int->Bool) (n:Nat)
 |ins (C dx:Addr) (fs:List (Str×V))
 |own (x:Addr)
 |xd (fs:List (Str×V))
 |met (f x:Addr)
 |YJ (lo hi:Int)
 |iz (o:Obj) (u:HO)
 |MQ (ps:Array Value)
 |ext (φ : Heap->Prop)
abbrev Hp:=Addr->Option HO
def aQ (H:Hp)(a:Addr)(o:HO):Hp:=λb=>if b=a then some o else H b
def dU:aQ H a o a=some o:=by unfold aQ;rw[if_pos rfl]
def dg (h:b≠a):aQ H a o b=H b:=by unfold aQ;rw[if_neg h]
def uh {H:Hp}{a b:Addr}(h:H a=some o)(h':H b=some u)(d:o≠u):a≠b:=by
 intro e;subst e;rw[h] at h';exact d (Option.some.inj h')
def GV {H:Hp}{a b:Addr}(h:H a=some o)(h':H b=none):a≠b:=by
 intro e;subst e;rw[h] at h';cases h'
section
variable (P:Program)(w:World)
def ca (H:Hp)(h:Heap)(a:Addr):HO->Prop
 |.lst xs=>xs.length<=sizeLine/\∃(its:Δ3) (n:Nat),bh xs its/\h.get? a=some { cls:=.type "list",data:=.seq its.toArray n }
 |.tup xs=>xs.length<=sizeLine/\∃its:Δ3,bh xs its/\IsTup h a its.toArray
 |.dK kvs=>kvs.length<=sizeLine/\(a == sysModules)=false/\∃vs,KV kvs vs/\h.DictOf (lG P w) a vs
 |.dT kvs=>kvs.length<=sizeLine/\(a == sysModules)=false/\∃xs:List (List dE×Addr×Value),
   Paired (λ(p:List dE×V) (q:List dE×Addr×Value)=>p.1=q.1/\H q.2.1=some (.tup (p.1.map kV))/\RelV p.2 q.2.2) kvs xs /\
   ∃o es ep,h.get? a=some o/\o.ExactDict/\o.data=.dict es ep/\es.toList=xs.map (entryOfKey (tupleKind (lG P w)))/\(xs.map (·.1)).Nodup
 |.set S n=>h.SetOf (intKind P w) a S n
 |.ins C dx fs=>H dx=some (.own a)/\fs.length<=1000/\dx≠a/\h.get? a=some (PySem.W.instObj C dx) /\
   ∃mA,h.Ns1 dx mA/\(∀f,aF (fs.lookup f) (mA f))/\PySem.Within mA (fs.map (·.1))
 |.own _=>∃o,h.get? a=some o
 |.xd fs=>∃mA,h.Ns1 a mA/\∀f,aF (fs.lookup f) (mA f)
 |.YJ lo hi=>∃t u v,h.get? a=some { cls:=.type "range",data:=.fields #[.int lo t,.int hi u,.int 1 v] }
 |.iz o u=>h.get? a=some o/\ca H h a u
 |.MQ ps=>h.get? a=some { cls:=.none,data:=.fields ps }
 |.met f x=>h.get? a=some (PySem.W.methodObj (.ref f) (.ref x))
 |.ext φ=>φ h/\(∃o,h.get? a=some o)/\∀h1 h2:Heap,φ h1->(∀o,h1.get? a=some o->h2.get? a=some o)->φ h2
def j1 (H:Hp)(h:Heap):Prop:=∀a o,H a=some o->ca P w H h a o
end
section
variable {P:Program}{w:World}{H H':Hp}{h h':Heap}{a:Addr}{o:HO}
def ca.lt (x:ca P w H h a o):a<h.objs.size:=by
 cases o with
 |lst xs=>let⟨_,_,_,_,e⟩:=x;exact Zr e
 |tup xs=>let⟨_,_,_,p⟩:=x;exact p.lt
 |dK kvs=>let⟨_,_,_,_,o,_,_,e,_⟩:=x;exact Zr e
 |dT kvs=>let⟨_,_,_,_,o,_,_,e,_⟩:=x;exact Zr e
 |set S n=>let⟨o,_,_,_,e,_⟩:=x;exact Zr e
 |ins C dx fs=>let⟨_,_,_,e,_⟩:=x;exact Zr e
 |own y=>let⟨_,e⟩:=x;exact Zr e
 |xd fs=>let⟨_,⟨_,_,_,e,_⟩,_⟩:=x;exact Zr e
 |YJ lo hi=>let⟨_,_,_,e⟩:=x;exact Zr e
 |iz ob u=>let⟨e,_⟩:=x;exact Zr e
 |MQ ps=>exact Zr (show h.get? a=some _ from x)
 |met f y=>exact Zr (show h.get? a=some _ from x)
 |ext φ=>let⟨_,⟨_,e⟩,_⟩:=x;exact Zr e
theorem Paired.HZ {α β : Type}{F G:α->β->Prop}:∀{l₁:List α}{l₂:List β},Paired F l₁ l₂->(∀a b,F a b->G a b)->Paired G l₁ l₂
 |_,_,.nil,_=>.nil
 |_,_,.cons r t,f=>.cons (f _ _ r) (Paired.HZ t f)
def ca.ak (x:ca P w H h a o)(k:∀b u,(b=a\/H b=some (.own a))->h.get? b=some u->h'.get? b=some u)
  (ho:∀b,H b=some (.own a)->H' b=some (.own a)) (ht:∀b xs,H b=some (.tup xs)->H' b=some (.tup xs)):ca P w H' h' a o:=by
 induction o with
 |lst xs=>let⟨z,its,n,r,e⟩:=x;exact⟨z,its,n,r,k _ _ (.inl rfl) e⟩
 |tup xs=>let⟨z,its,r,ob,e,c⟩:=x;exact⟨z,its,r,ob,k _ _ (.inl rfl) e,c⟩
 |dK kvs=>let⟨z,y,vs,r,ob,es,ep,e,c⟩:=x;exact⟨z,y,vs,r,ob,es,ep,k _ _ (.inl rfl) e,c⟩
 |dT kvs =>
  let⟨z,y,xs,r,ob,es,ep,e,c⟩:=x;exact⟨z,y,xs,Paired.HZ r λp q z=>⟨z.1,ht _ _ z.2.1,z.2.2⟩,ob,es,ep,k _ _ (.inl rfl) e,c⟩
 |set S n=>let⟨ob,es,ep,t,e,c⟩:=x;exact⟨ob,es,ep,t,k _ _ (.inl rfl) e,c⟩
 |ins C dx fs =>
  let⟨d,z,ne,e,mA,⟨od,es,ep,e2,c⟩,r⟩:=x;exact⟨ho _ d,z,ne,k _ _ (.inl rfl) e,mA,⟨od,es,ep,k _ _ (.inr d) e2,c⟩,r⟩
 |own y=>let⟨ob,e⟩:=x;exact⟨ob,k _ _ (.inl rfl) e⟩
 |xd fs=>let⟨mA,⟨od,es,ep,e,c⟩,r⟩:=x;exact⟨mA,⟨od,es,ep,k _ _ (.inl rfl) e,c⟩,r⟩
 |YJ lo hi=>let⟨t,u,v,e⟩:=x;exact⟨t,u,v,k _ _ (.inl rfl) e⟩
 |iz ob u ih=>let⟨e,q⟩:=x;exact⟨k _ _ (.inl rfl) e,ih q⟩
 |MQ ps =>
  let e:h.get? a=some { cls:=.none,data:=.fields ps }:=x;show h'.get? a=some { cls:=.none,data:=.fields ps };exact k a _ (.inl rfl) e
 |met f y =>
  let e:h.get? a=some (PySem.W.methodObj (.ref f) (.ref y)):=x;show h'.get? a=some (PySem.W.methodObj (.ref f) (.ref y));exact k a _ (.inl rfl) e
 |ext φ=>let⟨p,⟨o,e⟩,st⟩:=x;exact⟨st _ _ p λo q=>k _ _ (.inl rfl) q,⟨o,k _ _ (.inl rfl) e⟩,st⟩
def j1.lt (x:j1 P w H h)(e:H a=some o):a<h.objs.size:=(x a o e).lt
def j1.fresh (x:j1 P w H h)(e:h.objs.size<=a):H a=none:=by
 cases q:H a with
 |none=>rfl
 |some u=>exact absurd (Yg (x.lt q) e) (Yj _)
def j1.kept (x:j1 P w H h)(k:∀b u,h.get? b=some u->h'.get? b=some u):j1 P w H h':=λa o e =>
 (x a o e).ak (λb u _ q=>k b u q) (λ_ q=>q) λ_ _ q=>q
def j1.laid (x:j1 P w H h)(k:∀b u,h.get? b=some u->h'.get? b=some u)(hp:h.objs.size<=a)(new:ca P w (aQ H a o) h' a o):j1 P w (aQ H a o) h':=λb u e=>by
 let hn:=x.fresh hp;by_cases hb:b=a
 .subst hb;rw[dU] at e;cases e;exact new
 .rw[dg hb] at e;exact(x b u e).ak (λc v _ q=>k c v q) (λc q=>by rw[dg (GV q hn)];exact q) λc xs q=>by rw[dg (GV q hn)];exact q
end
def Rd (H:Hp)(a:Addr)(u:HO):Prop:=H a=some u\/∃o,H a=some (.iz o u)
def Rd.ok (r:Rd H a u)(x:j1 P w H h):ca P w H h a u:=by
 rcases r with r |⟨o,r⟩
 .exact x a u r
 .obtain⟨_,q⟩:=x a _ r;exact q
def Tj:Option HO->Prop
 |some (.lst _)=>True
 |some (.dK _)=>True
 |some (.dT _)=>True
 |some (.set _ _)=>True
 |some (.ins _ _ _)=>True
 |some (.ext _)=>True
 |_=>False
section
variable {P:Program}{w:World}{H:Hp}{h h':Heap}{x e:Addr}{o':HO}
def j1.write (ok:j1 P w H h)(mu:Tj (H x))(he:e=x\/H e=some (.own x))(k:∀b u,b≠e->h.get? b=some u->h'.get? b=some u)(G3:∃u,h'.get? e=some u)
  (new:ca P w (aQ H x o') h' x o'):j1 P w (aQ H x o') h':=λb u q=>by
 let T0:∀c y,H c=some (.own y)->c≠x:=λc y r z=>by subst z;rw[r] at mu;exact mu
 let abr:∀c xs,H c=some (.tup xs)->c≠x:=λc xs r z=>by subst z;rw[r] at mu;exact mu
 by_cases hb:b=x
 .subst hb;rw[dU] at q;cases q;exact new
 .rw[dg hb] at q;by_cases Nj:b=e
  .let q':H b=some (.own x):=by
    rcases he with z |z
    .exact absurd (Nj.trans z) hb
    .rw[Nj];exact z
   rw[q] at q';cases q';let⟨v,hv⟩:=G3;exact⟨v,by rw[Nj];exact hv⟩
  .apply(ok b u q).ak (λc v hc r=>k c v ?_ r) (λc r=>by rw[dg (T0 c b r)];exact r) λc xs r=>by rw[dg (abr c xs r)];exact r
   rcases hc with rfl |hc
   .exact Nj
   .rintro rfl;rcases he with z |z
    .exact T0 c b hc z
    .rw[hc] at z;cases z;exact hb rfl
end
structure Un (fs ex:List Addr)(H H':Hp)(h h':Heap):Prop where
 keep:∀b o,h.get? b=some o->H b=none->b∉fs->b∉ex->h'.get? b=some o
 slot:∀b o,h.get? b=some o->H b=none->b∈fs->b∉ex->∃sl,h'.get? b=some { o with slots:=sl }
 free:∀b o,h.get? b=some o->H b=none->b∉ex->H' b=none
 there:∀b o,h.get? b=some o->b∉ex->∃o',h'.get? b=some o'
 m7:∀b xs,H b=some (.tup xs)->H' b=some (.tup xs)
 rj:∀b o u,H b=some (.iz o u)->H' b=some (.iz o u)
 tT:∀b ps,H b=some (.MQ ps)->∃more,H' b=some (.MQ (ps++more))
section
variable {fs fs' ex ex':List Addr}{H H1 H2:Hp}{h h1 h2 h':Heap}{a x e:Addr}{o:HO}
def Un.any (u:Un fs ex H H1 h h1)(q:h.get? b=some ob)(n:H b=none)(hx:b∉ex):∃sl,h1.get? b=some { ob with slots:=sl }:=by
 by_cases hb:b∈fs
 .exact u.slot b ob q n hb hx
 .exact⟨ob.slots,u.keep b ob q n hb hx⟩
def Un.kept (k:∀b u,h.get? b=some u->h'.get? b=some u):Un fs ex H H h h' :=
 ⟨λb ob q _ _ _=>k b ob q,λb ob q _ _ _=>⟨ob.slots,k b ob q⟩,λ_ _ _ n _=>n,λb ob q _=>⟨ob,k b ob q⟩,λ_ _ q=>q,λ_ _ _ q=>q,λ_ ps q=>⟨#[],by rw[q];simp⟩⟩
def Un.refl:Un fs ex H H h h:=Un.kept λ_ _ q=>q
def Un.laid (k:∀b u,h.get? b=some u->h'.get? b=some u)(hp:h.objs.size<=a)(hn:H a=none):Un fs ex H (aQ H a o) h h' where
 keep:=λb u q _ _ _=>k b u q
 slot:=λb u q _ _ _=>⟨u.slots,k b u q⟩
 free:=λb u q n _=>by rw[dg (Ye (Yg (Zr q) hp))];exact n
 there:=λb u q _=>⟨u,k b u q⟩
 m7:=λb xs q=>by rw[dg (GV q hn)];exact q
 rj:=λb u xs q=>by rw[dg (GV q hn)];exact q
 tT:=λb ps q=>⟨#[],by rw[dg (GV q hn),q];simp⟩
def Un.write (mu:Tj (H x))(he:e=x\/H e=some (.own x))(k:∀b u,b≠e->h.get? b=some u->h'.get? b=some u)(G3:∃u,h'.get? e=some u):Un fs ex H (aQ H x o) h h':=by
 let hx:∀b,H b=none->b≠x:=λb n z=>by subst z;rw[n] at mu;exact mu
 let hb:∀b,H b=none->b≠e:=λb n z=>by
  subst z;rcases he with r |r
  .exact hx b n r
  .rw[n] at r;cases r
 let hm:∀b u,H b=some u->¬ Tj (some u)->b≠x:=λb u q nm z=>by subst z;rw[q] at mu;exact nm mu
 apply⟨λb u q n _ _=>k b u (hb b n) q,λb u q n _ _=>⟨u.slots,k b u (hb b n) q⟩,λb u q n _=>by rw[dg (hx b n)];exact n,λb u q _=>?_,
  λb xs q=>by rw[dg (hm b _ q λz=>z)];exact q,λb u xs q=>by rw[dg (hm b _ q λz=>z)];exact q,λb ps q=>⟨#[],by rw[dg (hm b _ q λz=>z),q];simp⟩⟩
 by_cases Nj:b=e
 .subst Nj;exact G3
 .exact⟨u,k b u Nj q⟩
end
def Wp (h:Heap)(H:Hp):List Addr:=(List.range h.objs.size).filter λa=>(H a).isSome
def rg (h:Heap)(H:Hp):Heap:=PySem.W.hideAll h (Wp h H)
def B4 (h:Heap)(H:Hp):(rg h H).objs.size=h.objs.size:=PySem.W.hideAll_size _ _
def Gg (e:h.get? b=some o)(n:H b=none):(rg h H).get? b=some o :=
 PySem.W.hideAll_get _ e λhm=>by
  let q:(H b).isSome=true:=(Zg.mp hm).2;rw[n] at q;simp at q
def Kd (e:(rg h H).get? b=some o):h.get? b=some o/\H b=none:=by
 let e':h.get? b=some o:=PySem.W.of_hideAll (Wp h H) e;apply⟨e',?_⟩;cases q:H b with
 |none=>rfl
 |some x =>
  let hm:b∈Wp h H:=Zg.mpr ⟨Zh.mpr (Zr e'),by simp[q]⟩;let z:(rg h H).get? b=none:=PySem.W.hideAll_none (Wp h H) hm;rw[z] at e;cases e
structure Mod (K:Θ1)(mg:Θ3)(base:Heap):Prop where
 YS:K.In base
 glob:base.Ns mainGlobals mg
 blt:∃mb,base.Ns builtinsNs mb/\∀x:Str,x ≠ "__name__"->mb x=bootBuiltins x
 nolimit:base.NoLimit
structure Cx where
 prog:Program
 w:World
 K:Θ1
 mg:Str->Option Value
 base:Heap
 A:Around
 N:Δ2
 eZ:Shared
 df:Hp
 env:Env
 outer:List Env
 stack:List Env
 ex:List Addr
 fn:Str->Bool
 calm:Bool
 pn:Γ2
 xe:Value->Shared->Prop
def C0 (l:List Env):List Addr:=l.filterMap (·.frame)
abbrev Cx.fs (X:Cx):List Addr:=C0 X.outer
def Th (sc:Scope)(x:Str):Prop:=sc.names.lookup x=some .local\/sc.names.lookup x=some .cell\/sc.names.lookup x=some .free
def Loc (sc:Scope)(x:Str):Prop:=sc.names.lookup x=some .local\/sc.names.lookup x=some .cell
def Look (env:Env)(h:Heap)(m:Θ3)(x:Str)(u:Value):Prop :=
 (env.kindOf x=some .local/\m x=some u)\/((env.kindOf x=some .cell\/env.kindOf x=some .free)/\∃c,env.cells.lookup x=some c/\h.IsCell c (some u))
structure Cx.Ok (X:Cx):Prop where
 mod:Mod X.K X.mg X.base
 kind:X.env.scope.kind=.function
 glob:X.env.globals=mainGlobals
 blt:X.env.builtins=builtinsNs
 above:X.eZ.heap.objs.size<=X.env.locals
 inj:∀x y c,X.env.cells.lookup x=some c->X.env.cells.lookup y=some c->x=y
 has:∀x,(X.env.kindOf x=some .cell\/X.env.kindOf x=some .free)->∃c,X.env.cells.lookup x=some c
 Td:∀x c,X.fn x=true->X.env.cells.lookup x=some c->X.eZ.heap.objs.size<=c
 hd:X.calm=true->X.A.handled=none
 frames:X.A.frames=some X.stack
 Wt:X.stack=X.outer\/(X.stack=X.env::X.outer/\X.env.frame=some X.env.locals)
 WV:∀b∈X.ex,b≠X.env.locals/\∀x c,X.env.cells.lookup x=some c->c≠b
 bs:∀b o,X.base.get? b=some o->X.eZ.heap.get? b=some o/\X.df b=none
 Lr:X.base.objs.size<=X.eZ.heap.objs.size
 Dg:∀b o,X.base.get? b=some o->b∉X.ex
 Dr:∀b∈X.ex,b∉X.fs
 ni:X.eZ.heap.FunFrames X.base X.outer
 R1:∀b∈X.fs,X.df b=none
structure Inv (X:Cx)(ae:Γ2)(σ:List (Option V))(H:Hp)(s:Shared):Prop where
 ok:X.Ok
 os:s.os=X.eZ.os
 bare:AllBare s.gens
 base:Un X.fs X.ex X.df H X.eZ.heap s.heap
 loc:∃m,s.heap.Ns X.env.locals m/\∀(i:Nat) (x:Str) (v:V),X.N[i]?=some x->σ[i]?=some (some v)->Th X.env.scope x->∃u,RelV v u/\Look X.env s.heap m x u
 cell:∀x c,X.env.cells.lookup x=some c->∃v,s.heap.IsCell c v
 free:H X.env.locals=none
 jG:∀x c,X.env.cells.lookup x=some c->H c=none
 pin:∀p∈X.pn++ae,s.heap.get? p.1=some p.2/\H p.1=none/\p.1≠X.env.locals/\p.1∉X.fs/\∀v,p.2.data≠.cell v
 cc:j1 X.prog X.w H s.heap
 len:σ.length=X.N.length
section
variable {X:Cx}{ae:Γ2}{σ:List (Option V)}{H H':Hp}{s:Shared}{h':Heap}
def Cx.Ok.abu (ok:X.Ok)(e:X.base.get? b=some o):b∉X.fs:=λhb=>by
 have:=(ok.ni.mem hb).1;rw[e] at this;cases this
def Inv.bs (I:Inv X ae σ H s):∀b o,X.base.get? b=some o->s.heap.get? b=some o/\H b=none:=λb o e =>
 ⟨I.base.keep b o (I.ok.bs b o e).1 (I.ok.bs b o e).2 (I.ok.abu e) (I.ok.Dg b o e),I.base.free b o (I.ok.bs b o e).1 (I.ok.bs b o e).2 (I.ok.Dg b o e)⟩
def Inv.bk (I:Inv X ae σ H s):∀b o,X.base.get? b=some o->s.heap.get? b=some o:=λb o e=>(I.bs b o e).1
def Inv.mod (I:Inv X ae σ H s):Mod X.K X.mg X.base:=I.ok.mod
def Inv.tG (I:Inv X ae σ H s):X.K.In s.heap:=I.ok.mod.YS.keeps I.bk
def Inv.lt (I:Inv X ae σ H s):X.env.locals<s.heap.objs.size:=let ⟨_,hn,_⟩:=I.loc;hn.lt
def Inv.sz (I:Inv X ae σ H s):X.eZ.heap.objs.size<=s.heap.objs.size:=Zl I.ok.above (Nat.le_of_lt I.lt)
def Inv.abt (I:Inv X ae σ H s)(h:s.heap.objs.size<=a):a∉X.fs:=λhb=>by
 let⟨_,o,ho,_⟩:=I.ok.ni.mem hb;exact absurd (Yg (Zr ho) (Zl I.sz h)) (Yj _)
def Inv.Nr (I:Inv X ae σ H s):∀x c,X.env.cells.lookup x=some c->c≠X.env.locals:=λx c e z=>by
 let⟨v,o,ho,hd⟩:=I.cell x c e;let⟨m,⟨o',es,ep,oO,W',_⟩,_⟩:=I.loc;rw[z,oO] at ho;cases ho;rw[W'] at hd;cases hd
def Inv.ni (I:Inv X ae σ H s):s.heap.FunFrames X.base X.outer:=by
 let all:∀(l:List Env),(∀b∈C0 l,b∈X.fs)->X.eZ.heap.FunFrames X.base l->s.heap.FunFrames X.base l:=by
  intro l;induction l with
  |nil=>intro _ _;trivial
  |cons env r ih =>
   intro hs hl;let⟨hk,⟨L,o,hf,hn,ho,hd⟩,hr⟩:=hl;let hL:L∈X.fs:=hs L (by unfold C0;rw[List.filterMap_cons,hf];exact Zi);let⟨sl,e⟩:=I.base.slot L o ho (I.ok.R1 L hL) hL λz=>I.ok.Dr L z hL
   exact⟨hk,⟨L,_,hf,hn,e,hd⟩,ih (λb hb=>hs b (by unfold C0;rw[List.filterMap_cons,hf];exact Zj _ hb)) hr⟩
 exact all X.outer (λ_ hb=>hb) I.ok.ni
def Inv.stack (I:Inv X ae σ H s):s.heap.FunFrames X.base X.stack:=by
 rcases I.ok.Wt with e |⟨e,hf⟩
 .rw[e];exact I.ni
 .rw[e];let⟨m,hn,_⟩:=I.loc;apply .cons (by rw[I.ok.kind];decide) hf hn ?_ I.ni;exact Heap.get?_none_of_le (Zl I.ok.Lr I.ok.above)
def Inv.wO (I:Inv X ae σ H s):∀b∈C0 X.stack,b∈X.env.locals::X.fs:=λb hb=>by
 rcases I.ok.Wt with e |⟨e,hf⟩
 .rw[e] at hb;exact Zj _ hb
 .rw[e] at hb;unfold C0 at hb;rw[List.filterMap_cons,hf] at hb;exact hb
def Inv.zF (I:Inv X ae σ H s):∀b∈C0 X.stack,H b=none:=λb hb=>by
 rcases Zk.mp (I.wO b hb) with e |hb
 .rw[e];exact I.free
 .obtain⟨_,o,ho,_⟩:=I.ok.ni.mem hb;exact I.base.free b o ho (I.ok.R1 b hb) λz=>I.ok.Dr b z hb
def Inv.step {g':Array GenState}{t':Nat}{ch:List Addr}(I:Inv X ae σ H s)
  (G4:∀b∈ch,(b∈X.ex\/X.eZ.heap.objs.size<=b)/\b≠X.env.locals/\(∀x c,X.env.cells.lookup x=some c->c≠b)/\∀p∈X.pn++ae,p.1≠b)
  (keep:∀b o,b≠X.env.locals->b∉X.fs->b∉ch->s.heap.get? b=some o->H b=none->h'.get? b=some o)
  (slot:∀b o,b≠X.env.locals->b∈X.fs->b∉ch->s.heap.get? b=some o->H b=none->∃sl,h'.get? b=some { o with slots:=sl }) (free:∀b o,b∉ch->s.heap.get? b=some o->H b=none->H' b=none)
  (there:∀b o,b∉ch->s.heap.get? b=some o->∃o',h'.get? b=some o')
  (m7:∀b xs,H b=some (.tup xs)->H' b=some (.tup xs)) (rj:∀b o u,H b=some (.iz o u)->H' b=some (.iz o u)) (tT:∀b ps,H b=some (.MQ ps)->∃more,H' b=some (.MQ (ps++more)))
  (ns:∀m,s.heap.Ns X.env.locals m->h'.Ns X.env.locals m) (cc:j1 X.prog X.w H' h') (hg:AllBare g') :
  Inv X ae σ H' { s with heap:=h',gens:=g',drawn:=d',toks:=t' }:=by
 let neL:∀b o,X.eZ.heap.get? b=some o->b≠X.env.locals:=λb o e=>Ye (Yg (Zr e) I.ok.above)
 let WB:∀b o,X.eZ.heap.get? b=some o->b∉X.ex->b∉ch:=λb o e hx hb=>by
  rcases(G4 b hb).1 with z |z
  .exact hx z
  .exact absurd (Yg (Zr e) z) (Yj _)
 let MD:∀x c,X.env.cells.lookup x=some c->∀v,s.heap.IsCell c v->h'.IsCell c v:=λx c e v ⟨o,ho,hd⟩=>by
  let Sy:c∉ch:=λz=>(G4 c z).2.2.1 x c e rfl
  by_cases hc:c∈X.fs
  .obtain⟨sl,q⟩:=slot c o (I.Nr x c e) hc Sy ho (I.jG x c e);exact⟨_,q,hd⟩
  .exact⟨o,keep c o (I.Nr x c e) hc Sy ho (I.jG x c e),hd⟩
 apply⟨I.ok,I.os,hg,⟨λb o e n hb hx=>?_,λb o e n hb hx=>?_,λb o e n hx=>?_,λb o e hx=>?_,λb xs e=>m7 b xs (I.base.m7 b xs e),λb o xs e=>rj b o xs (I.base.rj b o xs e),λb ps e=>?_⟩,?_,λx c e=>?_,?_,λx c e=>?_,λp hp=>?_,cc,I.len⟩
 .exact keep b o (neL b o e) hb (WB b o e hx) (I.base.keep b o e n hb hx) (I.base.free b o e n hx)
 .obtain⟨sl,e1⟩:=I.base.slot b o e n hb hx;let⟨dJ,e2⟩:=slot b _ (neL b o e) hb (WB b o e hx) e1 (I.base.free b o e n hx);exact⟨dJ,e2⟩
 .obtain⟨o',e1⟩:=I.base.there b o e hx;exact free b o' (WB b o e hx) e1 (I.base.free b o e n hx)
 .obtain⟨o',e1⟩:=I.base.there b o e hx;exact there b o' (WB b o e hx) e1
 .obtain⟨m1,e1⟩:=I.base.tT b ps e;let⟨m2,e2⟩:=tT b _ e1;exact⟨m1++m2,by rw[e2,Array.append_assoc]⟩
 .obtain⟨m,hn,hl⟩:=I.loc;apply⟨m,ns m hn,λi x v e1 e2 e3=>?_⟩;let⟨u,r,l⟩:=hl i x v e1 e2 e3;apply⟨u,r,?_⟩;rcases l with l |⟨k,c,e,z⟩
  .exact .inl l
  .exact .inr ⟨k,c,e,MD x c e _ z⟩
 .obtain⟨v,z⟩:=I.cell x c e;exact⟨v,MD x c e v z⟩
 .obtain⟨m,⟨o,_,_,ho,_⟩,_⟩:=I.loc;exact free _ o (λz=>(G4 _ z).2.1 rfl) ho I.free
 .obtain⟨v,o,ho,hd⟩:=I.cell x c e;exact free c o (λz=>(G4 c z).2.2.1 x c e rfl) ho (I.jG x c e)
 .obtain⟨e,n,ne,nf,d⟩:=I.pin p hp;let Sy:p.1∉ch:=λz=>(G4 p.1 z).2.2.2 p hp rfl
  exact⟨keep p.1 p.2 ne nf Sy e n,free p.1 p.2 Sy e n,ne,nf,d⟩
def Inv.un {t':Nat}(I:Inv X ae σ H s)(u:Un X.fs [] H H' s.heap h')(cc:j1 X.prog X.w H' h'):Inv X ae σ H' { s with heap:=h',toks:=t' }:=by
 let⟨m,⟨o,es,ep,ho,r⟩,_⟩:=id I.loc;let⟨sl,hL⟩:=u.any ho I.free (by simp);exact I.step (g':=s.gens) (d':=s.drawn) (ch:=[]) (λ_ z=>nomatch z) (λb o _ hb _ e n=>u.keep b o e n hb (by simp)) (λb o _ hb _ e n=>u.slot b o e n hb (by simp)) (λb o _ e n=>u.free b o e n (by simp)) (λb o _ e=>u.there b o e (by simp)) u.m7 u.rj u.tT (λm' hm=>by
  let⟨o',ω,Tc,oO,r'⟩:=hm;rw[ho] at oO;cases oO;exact⟨_,ω,Tc,hL,r'⟩) cc I.bare
def Inv.call {g':Array GenState}{t':Nat}{ch:List Addr}(I:Inv X ae σ H s)(u:Un (C0 X.stack) ch H H' s.heap h')(cc:j1 X.prog X.w H' h')(hg:AllBare g')
  (G4:∀b∈ch,(b∈X.ex\/X.eZ.heap.objs.size<=b)/\b≠X.env.locals/\(∀x c,X.env.cells.lookup x=some c->c≠b)/\∀p∈X.pn++ae,p.1≠b) :
  Inv X ae σ H' { s with heap:=h',gens:=g',drawn:=d',toks:=t' }:=by
 let⟨m,⟨o,es,ep,ho,r⟩,_⟩:=id I.loc;let⟨sl,hL⟩:=u.any ho I.free λz=>(G4 _ z).2.1 rfl
 exact I.step (ch:=ch) G4 (λb o hL hb hc e n=>u.keep b o e n (λz=>(Zk.mp (I.wO b z)).elim hL hb) hc) (λb o _ _ hc e n=>u.any e n hc) (λb o hc e n=>u.free b o e n hc) (λb o hc e=>u.there b o e hc) u.m7 u.rj u.tT (λm' hm=>by
  let⟨o',ω,Tc,oO,r'⟩:=hm;rw[ho] at oO;cases oO;exact⟨_,ω,Tc,hL,r'⟩) cc hg
def Inv.turned {t':Nat}{it:Addr}(I:Inv X ae σ H s)(k:∀b o,b≠it->s.heap.get? b=some o->h'.get? b=some o)(hn:H it=none)(hL:it≠X.env.locals)
  (h1:it∈X.ex\/X.eZ.heap.objs.size<=it) (h2:∀x c,X.env.cells.lookup x=some c->c≠it) (h3:∀p∈X.pn++ae,p.1≠it):Inv X ae σ H { s with heap:=h',toks:=t' }:=by
 let Sx:∀b u,H b=some u->b≠it:=λb u e z=>by rw[z,hn] at e;cases e
 apply I.step (g':=s.gens) (d':=s.drawn) (ch:=[it]) (λb hb=>?_) (λb o _ _ hc e _=>k b o (λz=>hc (by simp[z])) e) (λb o _ _ hc e _=>⟨o.slots,k b o (λz=>hc (by simp[z])) e⟩) (λ_ _ _ _ n=>n)
  (λb o hc e=>⟨o,k b o (λz=>hc (by simp[z])) e⟩) (λ_ _ e=>e) (λ_ _ _ e=>e) (λb ps e=>⟨#[],by rw[e];simp⟩) (λm hm=>?_) (λb u e=>?_) I.bare
 .let e:b=it:=by simpa using hb
  subst e;exact⟨h1,hL,h2,h3⟩
 .obtain⟨o,es,ep,ho,r⟩:=hm;exact⟨o,es,ep,k _ o (Ne.symm hL) ho,r⟩
 .apply(I.cc b u e).ak (λc v hc q=>k c v ?_ q) (λ_ q=>q) λ_ _ q=>q
  rcases hc with z |z
  .rw[z];exact Sx b u e
  .exact Sx c _ z
def Inv.tok (I:Inv X ae σ H s)(t:Nat):Inv X ae σ H { s with toks:=t }:=I.un (h':=s.heap) (t':=t) Un.refl I.cc
def Inv.kept (I:Inv X ae σ H s)(k:∀b u,s.heap.get? b=some u->h'.get? b=some u):Inv X ae σ H { s with heap:=h',toks:=t' }:=I.un (Un.kept k) (I.cc.kept k)
def Inv.laid (I:Inv X ae σ H s)(k:∀b u,s.heap.get? b=some u->h'.get? b=some u)(hp:s.heap.objs.size<=a)(new:ca X.prog X.w (aQ H a o) h' a o) :
  Inv X ae σ (aQ H a o) { s with heap:=h',toks:=t' }:=I.un (Un.laid k hp (I.cc.fresh hp)) (I.cc.laid k hp new)
def Inv.write (I:Inv X ae σ H s)(mu:Tj (H x))(he:e=x\/H e=some (.own x))(k:∀b u,b≠e->s.heap.get? b=some u->h'.get? b=some u)(G3:∃u,h'.get? e=some u)
  (new:ca X.prog X.w (aQ H x o) h' x o):Inv X ae σ (aQ H x o) { s with heap:=h',toks:=t' }:=I.un (Un.write mu he k G3) (I.cc.write mu he k G3 new)
def Inv.my (I:Inv X ae σ H s)(h:∀p∈VC,s.heap.get? p.1=some p.2/\H p.1=none/\p.1≠X.env.locals/\p.1∉X.fs/\∀v,p.2.data≠.cell v):Inv X VC σ H s :=
 ⟨I.ok,I.os,I.bare,I.base,I.loc,I.cell,I.free,I.jG,λp hp=>(Zw.mp hp).elim (λz=>I.pin p (Y6 _ z)) (h p),I.cc,I.len⟩
def uU {N:Δ2}(hN:N.Nodup){i j:Nat}(a:N[i]?=some x)(b:N[j]?=some x):i=j:=by
 let⟨h1,e1⟩:=Zf.mp a;let⟨h2,e2⟩:=Zf.mp b;exact(List.getElem_inj hN).mp (e1.trans e2.symm)
def Bq {M:Model}{A:Around}(I:Inv X ae σ H s)(hN:X.N.Nodup)(hi:X.N[i]?=some x)(hx:Loc X.env.scope x)(r:RelV v u)
  (h:∀s',Inv X ae (σ.set i (some v)) H s'->(∃a,Heap.SameBut a s.heap s'.heap/\(a=X.env.locals\/X.env.cells.lookup x=some a))->Q ⟨⟩ s') (hf:X.fn x=true\/X.env.scope.names.lookup x=some .local:=by first |exact .inl rfl |exact .inr rfl |assumption):wpAny M A (storeName X.env x u) Q E s:=by
 let⟨m,hn,hl⟩:=id I.loc;let abT:(X.env.scope.kind == .class||(X.env.scope.kind == .module&&X.env.locals != X.env.globals))=false:=by rw[I.ok.kind];rfl
 let Uv:i < σ.length:=by rw[I.len];exact(Zf.mp hi).1
 let Nr:=I.Nr;let zC:∀{a:Addr}{h':Heap},(∃o,s.heap.get? a=some o/\H a=none)->Heap.SameBut a s.heap h'->j1 X.prog X.w H h':=λ{a h'} ha hs b ob e=>by
  let⟨_,_,Mr⟩:=ha;apply(I.cc b ob e).ak (λc w' hc q=>(hs.2 c ?_).trans q) (λ_ q=>q) λ_ _ q=>q
  rintro rfl;rcases hc with rfl |hc
  .rw[Mr] at e;cases e
  .rw[Mr] at hc;cases hc
 rcases hx with hk |hk
 .apply wpAny_storeName_local hk hn (λh' SR hs=>?_) abT;let⟨oL,_,_,hoL,_⟩:=id hn;apply h _ ⟨I.ok,I.os,I.bare,⟨λb o e n hb hx=>?_,λb o e n hb hx=>?_,I.base.free,λb o e hx=>?_,I.base.m7,I.base.rj,I.base.tT⟩,⟨_,SR,λj y v' e1 e2 e3=>?_⟩,λy c e=>?_,I.free,I.jG,λp hp=>?_,zC ⟨oL,hoL,I.free⟩ hs,by simpa using I.len⟩ ⟨_,hs,.inl rfl⟩
  .exact(hs.2 b (Ye (Yg (Zr e) I.ok.above))).trans (I.base.keep b o e n hb hx)
  .obtain⟨sl,e1⟩:=I.base.slot b o e n hb hx;exact⟨sl,(hs.2 b (Ye (Yg (Zr e) I.ok.above))).trans e1⟩
  .obtain⟨o',e1⟩:=I.base.there b o e hx;exact⟨o',(hs.2 b (Ye (Yg (Zr e) I.ok.above))).trans e1⟩
  .by_cases hj:j=i
   .subst hj;rw[hi] at e1;cases e1;rw[Yk Uv] at e2;cases e2;exact⟨u,r,.inl ⟨hk,by simp⟩⟩
   .rw[Ya (Ne.symm hj)] at e2;let⟨u',r',q⟩:=hl j y v' e1 e2 e3;apply⟨u',r',?_⟩;rcases q with ⟨k,e⟩ |⟨k,c,e,z⟩
    .apply .inl ⟨k,?_⟩;have:y≠x:=λe=>hj (uU hN e1 (e▸hi))
     simp[this,e]
    .exact .inr ⟨k,c,e,z.sameBut hs (Nr y c e)⟩
  .obtain⟨w',z⟩:=I.cell y c e;exact⟨w',z.sameBut hs (Nr y c e)⟩
  .obtain⟨e,n,ne,nf,d⟩:=I.pin p hp;exact⟨(hs.2 p.1 ne).trans e,n,ne,nf,d⟩
 .let S1:X.fn x=true:=by
   rcases hf with z |z
   .exact z
   .rw[z] at hk;cases hk
  let⟨c,hc⟩:=I.ok.has x (.inl hk);let⟨w',z⟩:=I.cell x c hc;apply wpAny_storeName_cell I.ok.kind hk hc z (λh' qL hs=>?_);let⟨oc,hoc,abL⟩:=id z;apply h { s with heap:=h' } ⟨I.ok,I.os,I.bare,⟨λb o e n hb hx=>?_,λb o e n hb hx=>?_,I.base.free,λb o e hx=>?_,I.base.m7,I.base.rj,I.base.tT⟩,⟨m,hn.sameBut hs (Ne.symm (Nr x c hc)),λj y v' e1 e2 e3=>?_⟩,λy c' e=>?_,I.free,I.jG,λp hp=>?_,zC ⟨oc,hoc,I.jG x c hc⟩ hs,by simpa using I.len⟩ ⟨c,hs,.inr hc⟩
  .exact(hs.2 b (Ye (Yg (Zr e) (I.ok.Td x c S1 hc)))).trans (I.base.keep b o e n hb hx)
  .obtain⟨sl,e1⟩:=I.base.slot b o e n hb hx;exact⟨sl,(hs.2 b (Ye (Yg (Zr e) (I.ok.Td x c S1 hc)))).trans e1⟩
  .obtain⟨o',e1⟩:=I.base.there b o e hx;exact⟨o',(hs.2 b (Ye (Yg (Zr e) (I.ok.Td x c S1 hc)))).trans e1⟩
  .by_cases hj:j=i
   .subst hj;rw[hi] at e1;cases e1;rw[Yk Uv] at e2;cases e2;exact⟨u,r,.inr ⟨.inl hk,c,hc,qL⟩⟩
   .rw[Ya (Ne.symm hj)] at e2;let⟨u',r',q⟩:=hl j y v' e1 e2 e3;apply⟨u',r',?_⟩;rcases q with q |⟨k,c',e,z'⟩
    .exact .inl q
    .apply .inr ⟨k,c',e,z'.sameBut hs ?_⟩;rintro rfl;exact hj (uU hN e1 (I.ok.inj _ _ _ e hc▸hi))
  .by_cases hcc:c'=c
   .subst hcc;exact⟨_,qL⟩
   .obtain⟨w2,z2⟩:=I.cell y c' e;exact⟨w2,z2.sameBut hs hcc⟩
  .obtain⟨e,n,ne,nf,d⟩:=I.pin p hp;apply⟨(hs.2 p.1 ?_).trans e,n,ne,nf,d⟩;intro q;rw[q,hoc] at e;let q':oc=p.2:=Option.some.inj e;exact d w' (by rw[<- q'];exact abL)
def ft (I:Inv X ae σ H s)(hN:X.N.Nodup)(hi:X.N[i]?=some x)(hx:Loc X.env.scope x)(r:RelV v u)
  (h:∀s',Inv X ae (σ.set i (some v)) H s'->Q ⟨⟩ s') (hf:X.fn x=true\/X.env.scope.names.lookup x=some .local:=by first |exact .inl rfl |exact .inr rfl |assumption):wpAny M A (storeName X.env x u) Q E s :=
 Bq I hN hi hx r (λs' I' _=>h s' I') hf
def Inv.V9 (I:Inv X ae σ H s)(ho:s'.os=s.os)(u:Un (C0 X.stack) ch H H' s.heap s'.heap)(cc:j1 X.prog X.w H' s'.heap)(hg:AllBare s'.gens)
  (G4:∀b∈ch,(b∈X.ex\/X.eZ.heap.objs.size<=b)/\b≠X.env.locals/\(∀x c,X.env.cells.lookup x=some c->c≠b)/\∀p∈X.pn++ae,p.1≠b):Inv X ae σ H' s':=by
 let⟨h',g',d',t',o'⟩:=s';let e:o'=s.os:=ho;subst e;exact I.call (g':=g') (t':=t') (d':=d') u cc hg G4
end
abbrev XK:=Value->Option Addr->Hp->Prop
abbrev St:=List (Option V)
abbrev VK:=V->Hp->Prop
abbrev TE:=St->Hp->VK->Prop
abbrev TT:=St->Hp->(Bool->Hp->Prop)->Prop
abbrev TA:=St->Hp->(List V->Hp->Prop)->Prop
structure Ends where
 nx:St->Hp->Prop
 rt:VK
 bk:St->Hp->Prop:=λ_ _=>False
 ct:St->Hp->Prop:=λ_ _=>False
abbrev TS:=Ends->St->Hp->Prop
def EP (X:Cx)(ae:Γ2)(σ:St)(Q:VK)(u:Value)(s':Shared):Prop:=∃v H',Inv X ae σ H' s'/\RelV v u/\Q v H'
def TP (X:Cx)(ae:Γ2)(σ:St)(Q:Bool->Hp->Prop)(b:Bool)(s':Shared):Prop:=∃H',Inv X ae σ H' s'/\Q b H'
def AP (X:Cx)(ae:Γ2)(σ:St)(Q:List V->Hp->Prop)(us:Δ3)(s':Shared):Prop:=∃vs H',Inv X ae σ H' s'/\bh vs us/\Q vs H'
def SP (X:Cx)(ae:Γ2)(D:Ends)(f:Flow)(s':Shared):Prop :=
 match f with
 |.next=>∃aS H',Inv X ae aS H' s'/\D.nx aS H'
 |.brk=>∃aS H',Inv X ae aS H' s'/\D.bk aS H'
 |.cont=>∃aS H',Inv X ae aS H' s'/\D.ct aS H'
 |.ret u=>∃v aS H',Inv X ae aS H' s'/\RelV v u/\D.rt v H'
def PE (X:Cx)(e:Expr)(t:TE):Prop :=
 ∀(ae:Γ2) (s:Shared) (σ:St) (H:Hp) (Q:VK),Inv X ae σ H s->t σ H Q->wpAny (model X.prog X.w) X.A (eval e X.env) (EP X ae σ Q) X.xe s
def PT (X:Cx)(e:Expr)(t:TT):Prop :=
 ∀(ae:Γ2) (s:Shared) (σ:St) (H:Hp) (Q:Bool->Hp->Prop),Inv X ae σ H s->t σ H Q->wpAny (model X.prog X.w) X.A (isTrue e X.env (eval e X.env)) (TP X ae σ Q) X.xe s
def PW (X:Cx)(e:Expr)(t:TT):Prop :=
 ∀(gl:Sem Value) (ae:Γ2) (s:Shared) (σ:St) (H:Hp) (Q:Bool->Hp->Prop),Inv X ae σ H s->t σ H Q->wpAny (model X.prog X.w) X.A (isTrue e X.env gl) (TP X ae σ Q) X.xe s
def PW.pt (h:PW X e t):PT X e t:=h _
def PA (X:Cx)(es:Ξ2)(t:TA):Prop :=
 ∀(pos:Pos) (ae:Γ2) (s:Shared) (σ:St) (H:Hp) (Q:List V->Hp->Prop),Inv X ae σ H s->t σ H Q->wpAny (model X.prog X.w) X.A (spliced (backTo pos (starEach es X.env))) (AP X ae σ Q) X.xe s
def PS (X:Cx)(st:Stmt)(t:TS):Prop :=
 ∀(ae:Γ2) (s:Shared) (σ:St) (H:Hp) (D:Ends),Inv X ae σ H s->t D σ H->wpAny (model X.prog X.w) X.A (exec st X.env) (SP X ae D) X.xe s
def jw (X:Cx)(st:List Stmt)(t:TS):Prop :=
 ∀(ae:Γ2) (s:Shared) (σ:St) (H:Hp) (D:Ends),Inv X ae σ H s->t D σ H->wpAny (model X.prog X.w) X.A (execs st X.env) (SP X ae D) X.xe s
def bE {α : Type}{t:Sem α}{Q Q':α->Shared->Prop}(h:wpAny M A t Q E s)(hQ:∀a s,Q a s->Q' a s):wpAny M A t Q' E s:=wpAny_mono h hQ λ_ _ x=>x
section
variable {X:Cx}
def wA (i:Nat):TE:=λσ H Q=>∃v,σ[i]?=some (some v)/\Q v H
def tC (v:V):TE:=λ_ H Q=>Q v H
def Pt (hN:X.N[i]?=some x)(hv:Th X.env.scope x)(hd:(x == ("__debug__" : Str))=false:=by decide)(wt:(x == ("__classdict__" : Str))=false:=by decide):PE X (.Name x pos) (wA i):=by
 intro ae s σ H Q I h;let⟨v,e,h⟩:=h;let⟨m,hn,hl⟩:=I.loc;let⟨u,r,l⟩:=hl i x v hN e hv;let iD:EP X ae σ Q u s:=⟨v,H,I,r,h⟩;rcases l with ⟨hk,hm⟩ |⟨hk,c,hc,yZ⟩
 .exact wpAny_Name (wpAny_loadName_local I.ok.kind hk hn hm iD) hd
 .rcases hk with hk |hk
  .exact wpAny_Name (wpAny_loadName_cell I.ok.kind hk hc yZ iD) hd
  .exact wpAny_Name (wpAny_loadName_free I.ok.kind hk hc yZ iD wt) hd
def bC:PE X (.Constant (.int i) j pos) (tC (.int i)):=λ_ _ _ H _ I h=>wpAny_Constant_int ⟨.int i,H,I.tok _,⟨_,()⟩,h⟩
def iu:PE X (.Constant (.bool b) j pos) (tC (.bl b)):=λ_ _ _ H _ I h=>Constant_bool ⟨.bl b,H,I,(),h⟩
def wS:PE X (.Constant .none j pos) (tC .cg):=λ_ _ _ H _ I h=>Constant_none ⟨.cg,H,I,(),h⟩
def Gl (X:Cx)(x:Str):Prop:=X.env.kindOf x=some .globalImplicit
def Ak (I:Inv X ae σ H s)(hg:Gl X x)(hm:X.mg x=some u)(h:Q u s)
  (hd:(x == ("__debug__" : Str))=false:=by decide):wpAny (model X.prog X.w) X.A (eval (.Name x pos) X.env) Q E s :=
 Calls.Name_function_global I.ok.kind hg (Calls.loadGlobal_global (by rw[I.ok.glob];exact I.mod.glob.keeps I.bk) hm h) hd
def gh (I:Inv X ae σ H s)(hg:Gl X x)(hm:X.mg x=none)(hv:bootBuiltins x=some u)(h:Q u s)
  (hn:x ≠ "__name__":=by decide) (hd:(x == ("__debug__" : Str))=false:=by decide):wpAny (model X.prog X.w) X.A (eval (.Name x pos) X.env) Q E s:=by
 let⟨mb,h1,h2⟩:=I.mod.blt;exact Calls.Name_function_global I.ok.kind hg (Calls.loadGlobal_builtin (by rw[I.ok.glob];exact I.mod.glob.keeps I.bk) hm (by rw[I.ok.blt];exact h1.keeps I.bk) ((h2 x hn).trans hv) h) hd
def jh (hg:Gl X x)(hm:X.mg x=some u)(r:RelV v u)(hd:(x == ("__debug__" : Str))=false:=by decide):PE X (.Name x pos) (tC v) :=
 λ_ _ _ H _ I h=>Ak I hg hm ⟨v,H,I,r,h⟩ hd
variable {a b:Expr}{ta tb:TE}{pos:Pos}
def PC (X:Cx)(op:CmpOp)(a b:Expr)(t:TE):Prop :=
 ∀(ae:Γ2) (s:Shared) (σ:St) (H:Hp) (Q:VK),Inv X ae σ H s->t σ H Q ->
  wpAny (model X.prog X.w) X.A (eval a X.env) (λv bS=>wpAny (model X.prog X.w) X.A (eval b X.env) (λu c7=>wpAny (model X.prog X.w) X.A (compareOp op v u) (EP X ae σ Q) X.xe c7) X.xe bS) X.xe s
def tB (t:TE):TT:=λσ H Q=>t σ H λx H1=>∃c,x=.bl c/\Q c H1
def Pl {op:CmpOp}{t:TE}(h:PC X op a b t)(h1:behindInMarks op b=false:=by first |exact Wg _ ∅ ∅ |rfl):PT X (.Compare a [op] [b] pos) (tB t):=by
 intro ae s σ H Q I hw;apply wpAny_isTrue_Compare1 (bE (h ae s σ H _ I hw) λv s1 h1=>bE h1 λu s2 h2=>bE h2 λc s3 ⟨x,H1,I1,r1,q1⟩=>?_) h1;let⟨d,rfl,q⟩:=q1;cases r1;exact wpAny_truthy_bool ⟨H1,I1,q⟩
def sZ {e:Expr}{t:TE}(h:PE X e t)(he:∀gl,isTrue e X.env gl=(do let v <- gl;standAt e.pos;holding [v] (truthy v)):=by intro _;rfl):PT X e (tB t):=by
 intro ae s σ H Q I hw;apply isTrue_plain (bE (h ae s σ H _ I hw) λv s1 ⟨x,H1,I1,r1,q1⟩=>?_) (he _);let⟨d,rfl,q⟩:=q1;cases r1;exact wpAny_truthy_bool ⟨H1,I1,q⟩
variable {tA Wr:TT}{ga:Ξ2}
def abf (t u:TT):TT:=λσ H Q=>t σ H λc H1=>if c=true then u σ H1 Q else Q false H1
def tOr (t u:TT):TT:=λσ H Q=>t σ H λc H1=>if c=true then Q true H1 else u σ H1 Q
def aa9 (t:TT):TT:=λσ H Q=>t σ H λc H1=>Q (!c) H1
def pw_and1 (ha:PT X a tA):PW X (.BoolOp .And [a] pos) tA:=by
 intro wh ae s σ H Q I h;apply isTrue_and (bE (ha ae s σ H Q I h) λc s1 e=>?_);cases c with
 |true=>exact isTrue_and_nil e
 |false=>exact e
def pw_or1 (ha:PT X a tA):PW X (.BoolOp .Or [a] pos) tA:=by
 intro wh ae s σ H Q I h;apply isTrue_or (bE (ha ae s σ H Q I h) λc s1 e=>?_);cases c with
 |false=>exact isTrue_or_nil e
 |true=>exact e
def pw_and (ha:PT X a tA)(hb:PW X (.BoolOp .And (b::ga) pos) Wr):PW X (.BoolOp .And (a::b::ga) pos) (abf tA Wr):=by
 intro wh ae s σ H Q I h;apply isTrue_and (bE (ha ae s σ H _ I h) λc s1 ⟨H1,I1,q1⟩=>?_);cases c with
 |true=>exact hb wh ae s1 σ H1 Q I1 q1
 |false=>exact⟨H1,I1,q1⟩
def pw_or (ha:PT X a tA)(hb:PW X (.BoolOp .Or (b::ga) pos) Wr):PW X (.BoolOp .Or (a::b::ga) pos) (tOr tA Wr):=by
 intro wh ae s σ H Q I h;apply isTrue_or (bE (ha ae s σ H _ I h) λc s1 ⟨H1,I1,q1⟩=>?_);cases c with
 |true=>exact⟨H1,I1,q1⟩
 |false=>exact hb wh ae s1 σ H1 Q I1 q1
def qH (ha:PT X a tA):PT X (.UnaryOp .Not a pos) (aa9 tA):=by
 intro ae s σ H Q I h;exact isTrue_not (ha ae s σ H (λc H1=>Q (!c) H1) I h)
def Vf (ta tb:TE):TE:=λσ H Q=>ta σ H λx H1=>∃c,x=.bl c/\if c=true then tb σ H1 Q else Q (.bl false) H1
def U9 (ta:TE):TE:=λσ H Q=>ta σ H λx H1=>∃c,x=.bl c/\Q (.bl (!c)) H1
def nG (h:PE X a t):PE X (.BoolOp op [a] pos) t:=λae s σ H Q I hw=>BoolOp_one (h ae s σ H Q I hw)
def nH (ha:PE X a ta)(hb:PE X (.BoolOp .And (b::ga) pos) tb):PE X (.BoolOp .And (a::b::ga) pos) (Vf ta tb):=by
 intro ae s σ H Q I h;apply BoolOp_and (bE (ha ae s σ H _ I h) λv s1 ⟨x,H1,I1,r1,q1⟩=>?_);let⟨c,rfl,q1⟩:=q1;cases r1;apply wpAny_truthy_bool ?_;cases c with
 |true=>exact hb ae s1 σ H1 Q I1 q1
 |false=>exact⟨.bl false,H1,I1,(),q1⟩
def Pw (ha:PE X a ta):PE X (.UnaryOp .Not a pos) (U9 ta):=by
 intro ae s σ H Q I h;apply UnaryOp_ (bE (ha ae s σ H _ I h) λv s1 ⟨x,H1,I1,r1,q1⟩=>?_);let⟨c,rfl,q1⟩:=q1;cases r1;exact not_of (wpAny_truthy_bool ⟨.bl (!c),H1,I1,(),q1⟩)
def tIf (t:TT)(ta tb:TE):TE:=λσ H Q=>t σ H λc H1=>if c=true then ta σ H1 Q else tb σ H1 Q
def uR {c:Expr}(hc:PT X c tA)(ha:PE X a ta)(hb:PE X b tb):PE X (.IfExp c a b pos) (tIf tA ta tb):=by
 intro ae s σ H Q I h;apply wpAny_IfExp (bE (hc ae s σ H _ I h) λd s1 ⟨H1,I1,q1⟩=>?_);cases d with
 |true=>exact ha ae s1 σ H1 Q I1 q1
 |false=>exact hb ae s1 σ H1 Q I1 q1
end
def bG (K:Θ1)(H:Hp)(a:Addr)(xs:List V):Prop :=
 Rd H a (.lst xs) \/
  ∃(o:Obj) (its:Array Value) (n:Nat),K.lookup a=some o/\o.cls=.type "list"/\o.dict=none/\o.data=.seq its n/\its.size<=sizeLine/\bh xs its.toList
def aK (K:Θ1)(H:Hp)(a:Addr)(xs:List V):Prop :=
 Rd H a (.tup xs) \/
  ∃(o:Obj) (its:Array Value) (n:Nat),K.lookup a=some o/\o.cls=.type "tuple"/\o.data=.seq its n/\its.size<=sizeLine/\bh xs its.toList
def acb:Value->Option V
 |.none=>some .cg
 |.bool b=>some (.bl b)
 |.int i _=>some (.int i)
 |.str x _=>some (.str x)
 |.bytes b _=>some (.A0 b)
 |.float b _=>some (.R3 b)
 |.ref a=>some (.ref a)
 |.type n=>some (.ty n)
 |_=>none
def RelV.abs (r:RelV x u):acb u=some x:=by
 cases x with
 |cg=>cases r;rfl
 |bl _=>cases r;rfl
 |int _=>let⟨t,rfl⟩:=r;rfl
 |str _=>let⟨t,rfl⟩:=r;rfl
 |A0 _=>let⟨t,rfl⟩:=r;rfl
 |R3 _=>let⟨t,rfl⟩:=r;rfl
 |ref _=>cases r;rfl
 |ty _=>cases r;rfl
def RelV.inj {x y:V}{u:Value}(r:RelV x u)(q:RelV y u):x=y:=Option.some.inj (r.abs.symm.trans q.abs)
theorem bh.inj:∀{xs ys:List V}{us:Δ3},bh xs us->bh ys us->xs=ys
 |_,_,_,.nil,.nil=>rfl
 |_,_,_,.cons r t,.cons r' t'=>by rw[r.inj r',bh.inj t t']
section
variable {X:Cx}{ae:Γ2}{σ:St}{H:Hp}{s:Shared}{a:Addr}{xs ys:List V}
def bG.of {K:Θ1}(h:H a=some (.lst xs)):bG K H a xs:=.inl (.inl h)
def aK.of {K:Θ1}(h:H a=some (.tup xs)):aK K H a xs:=.inl (.inl h)
def Inv.list (I:Inv X ae σ H s)(h:bG X.K H a xs):∃its:Δ3,bh xs its/\PlainL s.heap a its.toArray/\xs.length<=sizeLine:=by
 rcases h with h |⟨o,its,n,hk,hc,hd,hs,hz,r⟩
 .obtain⟨z,its,n,r,e⟩:=h.ok I.cc;exact⟨its,r,⟨_,n,e,(),(),()⟩,z⟩
 .apply⟨its.toList,r,⟨o,n,I.tG a o hk,hc,hd,by simpa using hs⟩,?_⟩;let e:=r.length;simp only[Array.length_toList] at e;omega
def Inv.tuple (I:Inv X ae σ H s)(h:aK X.K H a xs):∃its:Δ3,bh xs its/\IsTup s.heap a its.toArray/\xs.length<=sizeLine:=by
 rcases h with h |⟨o,its,n,hk,hc,hs,hz,r⟩
 .obtain⟨z,its,r,p⟩:=h.ok I.cc;exact⟨its,r,p,z⟩
 .apply⟨its.toList,r,⟨o,I.tG a o hk,hc,n,by simpa using hs⟩,?_⟩;let e:=r.length;simp only[Array.length_toList] at e;omega
def Inv.u3 (I:Inv X ae σ H s)(h:bG X.K H a xs)(h':bG X.K H a ys):xs=ys:=by
 let⟨its,r,⟨o,n,e,_,_,d⟩,_⟩:=I.list h;let⟨its',r',⟨o',n',e',_,_,d'⟩,_⟩:=I.list h';rw[e] at e';cases e';rw[d] at d';injection d' with d1 _
 have:its=its':=by simpa using congrArg Array.toList d1
 subst this;exact r.inj r'
def Inv.jm (I:Inv X ae σ H s)(h:aK X.K H a xs)(h':aK X.K H a ys):xs=ys:=by
 let⟨its,r,⟨o,e,_,n,d⟩,_⟩:=I.tuple h;let⟨its',r',⟨o',e',_,n',d'⟩,_⟩:=I.tuple h';rw[e] at e';cases e';rw[d] at d';injection d' with d1 _
 have:its=its':=by simpa using congrArg Array.toList d1
 subst this;exact r.inj r'
end
abbrev Cx.wish (X:Cx)(E:Θ2):Cx:={ X with xe:=E }
abbrev Cx.Sv (X:Cx):Cx:=X.wish λ_ _=>False
def Cx.Ok.wish {X:Cx}(ok:X.Ok)(E:Θ2):(X.wish E).Ok :=
 ⟨ok.mod,ok.kind,ok.glob,ok.blt,ok.above,ok.inj,ok.has,ok.Td,ok.hd,ok.frames,ok.Wt,ok.WV,ok.bs,ok.Lr,ok.Dg,ok.Dr,ok.ni,ok.R1⟩
def Cx.Ok.iL {X:Cx}{E:Θ2}(ok:(X.wish E).Ok):X.Ok :=
 ⟨ok.mod,ok.kind,ok.glob,ok.blt,ok.above,ok.inj,ok.has,ok.Td,ok.hd,ok.frames,ok.Wt,ok.WV,ok.bs,ok.Lr,ok.Dg,ok.Dr,ok.ni,ok.R1⟩
section
variable {X:Cx}{ae:Γ2}{σ:St}{H:Hp}{s:Shared}{E:Θ2}
def Inv.wish (I:Inv X ae σ H s)(E:Θ2):Inv (X.wish E) ae σ H s:=⟨I.ok.wish E,I.os,I.bare,I.base,I.loc,I.cell,I.free,I.jG,I.pin,I.cc,I.len⟩
def Inv.iL (I:Inv (X.wish E) ae σ H s):Inv X ae σ H s:=⟨I.ok.iL,I.os,I.bare,I.base,I.loc,I.cell,I.free,I.jG,I.pin,I.cc,I.len⟩
def SP.iL (h:SP (X.wish E) ae D f s'):SP X ae D f s':=by
 cases f with
 |next=>let⟨aS,H',I,q⟩:=h;exact⟨aS,H',I.iL,q⟩
 |brk=>let⟨aS,H',I,q⟩:=h;exact⟨aS,H',I.iL,q⟩
 |cont=>let⟨aS,H',I,q⟩:=h;exact⟨aS,H',I.iL,q⟩
 |ret u=>let⟨v,aS,H',I,r,q⟩:=h;exact⟨v,aS,H',I.iL,r,q⟩
def jw.Sv {st:List Stmt}{t:TS}(h:jw X.Sv st t):jw X st t:=λae s σ H D I hw =>
 wpAny_mono (h ae s σ H D (I.wish _) hw) (λ_ _ q=>q.iL) λ_ _ z=>False.elim z
end
section
variable {X:Cx}{st:Stmt}{ga:List Stmt}{t u:TS}{e:Expr}{te:TE}{pos:Pos}
def Va:TS:=λD σ H=>D.nx σ H
def aa7 (t u:TS):TS:=λD σ H=>t { D with nx:=u D } σ H
def kR:jw X [] Va:=λ_ _ σ H _ I h=>wpAny_execs_nil ⟨σ,H,I,h⟩
def dZ (h1:PS X st t)(h2:jw X ga u):jw X (st::ga) (aa7 t u):=by
 intro ae s σ H D I h;apply wpAny_execs_cons (bE (h1 ae s σ H { D with nx:=u D } I h) λf s1 q=>?_);cases f with
 |next =>
  let⟨aS,H',I',q⟩:=q;exact h2 ae s1 aS H' D I' q
 |ret v=>exact q
 |brk=>exact q
 |cont=>exact q
def cN (h1:PS X st t):jw X [st] t:=by
 intro ae s σ H D I h;apply wpAny_execs_cons (bE (h1 ae s σ H D I h) λf s1 q=>?_);cases f with
 |next=>exact wpAny_execs_nil q
 |ret v=>exact q
 |brk=>exact q
 |cont=>exact q
def Inv.quiet (I:Inv X ae σ H s):interactive X.env=false:=by simp[interactive,I.ok.kind]
def Vb (te:TE):TS:=λD σ H=>te σ H λ_ H1=>D.nx σ H1
def zP (he:PE X e te)(hs:swapsWith e none pos.line X.env=pure false:=by rfl):PS X (.Expr e pos) (Vb te):=by
 intro ae s σ H D I h;exact wpAny_Expr_any (bE (he ae s σ H _ I h) λv s1 ⟨x,H1,I1,r1,q1⟩=>⟨σ,H1,I1,q1⟩) I.quiet hs
def Ts (te:TE):TS:=λD σ H=>te σ H D.rt
def dM (he:PE X e te):PS X (.Return (some e) pos) (Ts te):=by
 intro ae s σ H D I h;exact wpAny_Return_some (bE (he ae s σ H _ I h) λv s1 ⟨x,H1,I1,r1,q1⟩=>⟨x,σ,H1,I1,r1,q1⟩)
def abb (c:TT)(t u:TS):TS:=λD σ H=>c σ H λb H1=>if b=true then t D σ H1 else u D σ H1
def kQ {c:Expr}{a b:List Stmt}(hc:PT X c tc)(ha:jw X a t)(hb:jw X b u):PS X (.If c a b pos) (abb tc t u):=by
 intro ae s σ H D I h;apply wpAny_If (bE (hc ae s σ H _ I h) λd s1 ⟨H1,I1,q1⟩=>?_);cases d with
 |true=>exact ha ae s1 σ H1 D I1 q1
 |false=>exact hb ae s1 σ H1 D I1 q1
end
abbrev TG:=V->St->Hp->(St->Hp->Prop)->Prop
abbrev Nu:=List V->St->Hp->(St->Hp->Prop)->Prop
def PG (X:Cx)(OK:Expr)(t:TG):Prop :=
 ∀(ae:Γ2) (s:Shared) (σ:St) (H:Hp) (v:V) (u:Value) (Q:St->Hp->Prop),Inv X ae σ H s->RelV v u->t v σ H Q ->
  wpAny (model X.prog X.w) X.A (assign OK X.env u) (λ_ s'=>∃aS H',Inv X ae aS H' s'/\Q aS H') X.xe s
def vW (X:Cx)(ts:Ξ2)(t:Nu):Prop :=
 ∀(ae:Γ2) (s:Shared) (σ:St) (H:Hp) (vs:List V) (us:Δ3) (Q:St->Hp->Prop),Inv X ae σ H s->bh vs us->t vs σ H Q ->
  wpAny (model X.prog X.w) X.A (assignInOrder ((assignEach ts X.env).map (·.2)) us) (λ_ s'=>∃aS H',Inv X ae aS H' s'/\Q aS H') X.xe s
abbrev Oh:=V->V->V->Hp->(Hp->Prop)->Prop
def Oj (X:Cx)(t:Oh):Prop :=
 ∀(ae:Γ2) (s:Shared) (σ:St) (H:Hp) (o i v:V) (ov iv u:Value) (Q:Hp->Prop),Inv X ae σ H s->RelV o ov->RelV i iv->RelV v u->t o i v H Q ->
  wpAny (model X.prog X.w) X.A (setItem ov iv u) (λ_ s'=>∃H',Inv X ae σ H' s'/\Q H') X.xe s
abbrev W3:=V->V->Hp->VK->Prop
def R6 (X:Cx)(op:Operator)(t:W3):Prop :=
 ∀(ae:Γ2) (s:Shared) (σ:St) (H:Hp) (x y:V) (v u:Value) (Q:VK),Inv X ae σ H s->RelV x v->RelV y u->t x y H Q ->
  wpAny (model X.prog X.w) X.A (inplaceOp op v u) (EP X ae σ Q) X.xe s
section
variable {X:Cx}{pos:Pos}
def fg (i:Nat):TG:=λv σ H Q=>Q (σ.set i (some v)) H
def gj (hN:X.N.Nodup)(hi:X.N[i]?=some x)(hx:Loc X.env.scope x)(hf:X.fn x=true\/X.env.scope.names.lookup x=some .local:=by first |exact .inl rfl |exact .inr rfl |assumption):PG X (.Name x pos) (fg i):=by
 intro ae s σ H v u Q I r h;exact wpAny_assign_Name (ft I hN hi hx r (λs' I'=>⟨_,H,I',h⟩) hf)
def UD:Nu:=λvs σ H Q=>vs=[]/\Q σ H
def DS (t:TG)(u:Nu):Nu:=λvs σ H Q=>∃v r,vs=v::r/\t v σ H λaS H'=>u r aS H' Q
def eS:vW X [] UD:=by
 intro ae s σ H vs us Q I r h;let⟨e,h⟩:=h;subst e;cases r;exact assignInOrder_nil ⟨σ,H,I,h⟩
def qK {e:Expr}{es:Ξ2}(h1:PG X e t)(h2:vW X es u)
  (hs:(assignEach (e::es) X.env).map (·.2)=assign e X.env::(assignEach es X.env).map (·.2):=by rfl):vW X (e::es) (DS t u):=by
 intro ae s σ H vs us Q I r h;let⟨v,vr,e1,h⟩:=h;subst e1;cases r with
 |cons r rr =>
  rw[hs];apply assignInOrder_cons (bE (h1 ae s σ H _ _ _ I r h) λ_ s1 ⟨KZ,H1,I1,q1⟩=>?_);exact h2 ae s1 KZ H1 _ _ Q I1 rr q1
def N6 (K:Θ1)(n:Nat)(t:Nu):TG:=λv σ H Q=>∃a xs,v=.ref a/\aK K H a xs/\xs.length=n/\t xs σ H Q
def Po (hc:X.calm=true)(h:vW X es t)
  (hn:(assignEach es X.env).length=n:=by rfl) (m4:(assignEach es X.env).findIdx? (·.1)=none:=by rfl):PG X (.Tuple es k pos) (N6 X.K n t):=by
 intro ae s σ H v u Q I r hw;let⟨a,xs,e1,hq,hl,hw⟩:=hw;subst e1;cases r;let⟨its,rv,ht,hz⟩:=I.tuple hq;apply assign_Tuple_tuple (I.ok.hd hc) ht (by simp[hn,<- hl,rv.length]) m4 λh' hx=>?_
 let I1:Inv X ae σ H { s with heap:=h' }:=I.kept (t':=s.toks) λb o e=>hx b o (Ye (Zr e)) e
 exact h ae _ σ H xs _ Q I1 (by simpa using rv) hw
def abW (to ti:TE)(t:Oh):TG:=λv σ H Q=>to σ H λo H1=>ti σ H1 λi H2=>t o i v H2 λH3=>Q σ H3
def wR {o i:Expr}{to ti:TE}(ho:PE X o to)(hi:PE X i ti)(hs:Oj X t)
  (ha:∀v,assign (.Subscript o i pos) X.env v=(do
   let ov <- holding [v] (eval o X.env);let iv <- holding [v,ov] (eval i X.env)
   standAt pos
   holding [v,ov,iv] (setItem ov iv v)
   release [v,ov,iv] []):=by intro _;rfl):PG X (.Subscript o i pos) (abW to ti t):=by
 intro ae s σ H v u Q I r h;rw[ha];apply Za (wpAny_holding (bE (ho ae s σ H _ I h) λov s1 ⟨x,H1,I1,r1,q1⟩=>?_));apply Za (wpAny_holding (bE (hi ae s1 σ H1 _ I1 q1) λiv s2 ⟨y,H2,I2,r2,q2⟩=>?_));apply Za (wpAny_standAt (Za (wpAny_holding (bE (hs ae s2 σ H2 x y v ov iv u _ I2 r1 r2 r q2) λ_ s3 ⟨H3,I3,q3⟩=>?_))));exact wpAny_release ⟨σ,H3,I3,q3⟩
def Dc (te:TE)(g:TG):TS:=λD σ H=>te σ H λx H1=>g x σ H1 D.nx
def iP {tg e:Expr}{te:TE}(he:PE X e te)(hg:PG X tg g)(hs:swapsWithSole [tg] e pos.line X.env=pure false:=by rfl)(hw:swappedStores [tg] e X.env=pure none:=by rfl)
  (h1:(assignEach [tg] X.env).map (·.2)=[assign tg X.env]:=by rfl):PS X (.Assign [tg] e pos) (Dc te g):=by
 intro ae s σ H D I h;apply wpAny_Assign_stores (bE (he ae s σ H _ I h) λv s1 ⟨x,H1,I1,r1,q1⟩=>?_) hs hw;rw[h1];exact bE (hg ae s1 σ H1 x v _ I1 r1 q1) λ_ s2 q=>q
def oM {i:Nat}{x:Str}(hN:X.N.Nodup)(hi:X.N[i]?=some x)(hx:Loc X.env.scope x)(he:PE X e te)(hs:swapsWith e (some (.Name x kU)) pos.line X.env=pure false:=by rfl)(hf:X.fn x=true\/X.env.scope.names.lookup x=some .local:=by first |exact .inl rfl |exact .inr rfl |assumption) :
  PS X (.Assign [.Name x kU] e pos) (Dc te (fg i)):=by
 intro ae s σ H D I h;apply wpAny_Assign_Name (bE (he ae s σ H _ I h) λv s1 ⟨y,H1,I1,r1,q1⟩=>?_) hs;exact ft I1 hN hi hx r1 (λs2 I2=>⟨_,H1,I2,q1⟩) hf
def aa8 (i j:Nat)(ta:TA):TS:=λD σ H=>ta σ H λvs H1=>∃v w,vs=[v,w]/\D.nx ((σ.set i (some v)).set j (some w)) H1
def rK {i j:Nat}{x y:Str}(hc:X.calm=true)(hN:X.N.Nodup)(hi:X.N[i]?=some x)(hj:X.N[j]?=some y)(ZV:i≠j)
  (hx:X.env.scope.names.lookup x=some .local) (hy:X.env.scope.names.lookup y=some .local) (ha:PA X [a,b] ta)
  (hw:swappedStores [.Tuple [.Name x px,.Name y py] kt pt] (.Tuple [a,b] k2 pt2) X.env=pure (some [x,y]))
  (hs:swapsWithSole [.Tuple [.Name x px,.Name y py] kt pt] (.Tuple [a,b] k2 pt2) pos.line X.env=pure false:=by rfl) :
  PS X (.Assign [.Tuple [.Name x px,.Name y py] kt pt] (.Tuple [a,b] k2 pt2) pos) (aa8 i j ta):=by
 intro ae s σ H D I h;rw[exec_Assign_arm];apply Za (wpAny_standAt ?_);rw[hs];apply Za (wpAny_pure ?_);rw[if_neg ∅];apply Za (Tuple_ (bE (ha _ ae s σ H _ I h) λus s1 ⟨vs,H1,I1,r1,q1⟩=>?_));let⟨v,w,e1,q1⟩:=q1;subst e1;obtain⟨u1,u2,rfl,rv,AN⟩:∃u1 u2,us=[u1,u2]/\RelV v u1/\RelV w u2:=by
  cases r1 with
  |cons p q =>
   cases q with
   |cons p' q' =>
    cases q'
    exact⟨_,_,(),p,p'⟩
 apply wpAny_newObj_type ?_ (by show 2<=sizeLine;decide);let I2:Inv X ae σ H1 { s1 with heap:=s1.heap.push { cls:=.type "tuple",data:=.seq [u1,u2].toArray } }:=I1.kept (t':=s1.toks) λb o e=>Zm _ e
 rw[hw];apply Za (wpAny_pure ?_);show wpAny (model X.prog X.w) X.A (do rule "assign.swapped-stores";let items <- unpackItems (.ref s1.heap.objs.size) 2 none;assignInOrder [λv=>bindName X.env y v,λv=>bindName X.env x v] items.reverse;pure Flow.next) _ _ _;apply Za (wpAny_rule (Za (unpackItems_tuple (items:=#[u1,u2]) (I.ok.hd hc) (IsTup.new s1.heap _) λh' vS=>?_)));let I3:=I2.kept (h':=h') (t':=s1.toks) λb o e=>vS b o (Ye (Zr e)) e
 show wpAny _ _ (assignInOrder [λv=>bindName X.env y v,λv=>bindName X.env x v] [u2,u1] >>= λ_=>pure Flow.next) _ _ _;apply Za (assignInOrder_cons (wpAny_bindName (ft I3 hN hj (.inl hy) AN (λs2 I4=>?_) (.inr hy))));apply assignInOrder_cons (wpAny_bindName (ft I4 hN hi (.inl hx) rv (λs3 I5=>assignInOrder_nil (wpAny_pure ?_)) (.inr hx)));rw[List.set_comm _ _ (Ne.symm ZV)] at I5;exact⟨_,H1,I5,q1⟩
def abe (i:Nat)(te:TE)(ti:W3):TS:=λD σ H=>∃x,σ[i]?=some (some x)/\te σ H λy H1=>ti x y H1 λz H2=>D.nx (σ.set i (some z)) H2
def Pm {i:Nat}{x:Str}(hN:X.N.Nodup)(hi:X.N[i]?=some x)(hx:Loc X.env.scope x)(he:PE X e te)(ho:R6 X op ti)(hf:X.fn x=true\/X.env.scope.names.lookup x=some .local:=by first |exact .inl rfl |exact .inr rfl |assumption) :
  PS X (.AugAssign (.Name x kU) op e pos) (abe i te ti):=by
 intro ae s σ H D I h;let⟨v,e1,h⟩:=h;let⟨m,hn,hl⟩:=I.loc;let vis:Th X.env.scope x:=by rcases hx with k |k;exact .inl k;exact .inr (.inl k)
 let⟨u,r,l⟩:=hl i x v hi e1 vis;apply wpAny_AugAssign_Name ?_;let go:wpAny (model X.prog X.w) X.A (eval e X.env) (λw c7=>wpAny (model X.prog X.w) X.A (inplaceOp op u w) (λr iG=>wpAny (model X.prog X.w) X.A (storeName X.env x r) (λ_=>SP X ae D .next) X.xe iG) X.xe c7) X.xe s:=by
  apply bE (he ae s σ H _ I h) λw s1 ⟨y,H1,I1,r1,q1⟩=>?_
  apply bE (ho ae s1 σ H1 v y u w _ I1 r r1 q1) λz s2 ⟨zv,H2,I2,r2,q2⟩=>?_
  exact ft I2 hN hi hx r2 (λs3 I3=>⟨_,H2,I3,q2⟩) hf
 rcases l with ⟨hk,hm⟩ |⟨hk,c,hc,yZ⟩
 .exact wpAny_loadName_local I.ok.kind hk hn hm go
 .rcases hk with hk |hk
  .exact wpAny_loadName_cell I.ok.kind hk hc yZ go
  .rcases hx with k |k
   .have:X.env.scope.names.lookup x=some .free:=hk;rw[k] at this;cases this
   .have:X.env.scope.names.lookup x=some .free:=hk;rw[k] at this;cases this
def Ve (to ti te:TE)(ND:V->V->Hp->VK->Prop)(XR:W3)(NB:Oh):TS:=λD σ H=>to σ H λo H1=>ti σ H1 λi H2=>ND o i H2 λx H3=>te σ H3 λy H4=>XR x y H4 λz H5=>NB o i z H5 λH6=>D.nx σ H6
def UQ (X:Cx)(t:V->V->Hp->VK->Prop):Prop :=
 ∀(ae:Γ2) (s:Shared) (σ:St) (H:Hp) (o i:V) (ov iv:Value) (Q:VK),Inv X ae σ H s->RelV o ov->RelV i iv->t o i H Q ->
  wpAny (model X.prog X.w) X.A (getItem ov iv) (EP X ae σ Q) X.xe s
def JH {o i e:Expr}{to ti te:TE}(ho:PE X o to)(hi:PE X i ti)(hg:UQ X ND)(he:PE X e te)(hp:R6 X op XR)(hs:Oj X NB)
  (ha:∀ov iv new,augStore i ov iv new=(do holding [new,ov,iv] (setItem ov iv new);release [new,ov,iv] [];pure .next):=by intros;rfl):PS X (.AugAssign (.Subscript o i qQ) op e pos) (Ve to ti te ND XR NB):=by
 intro ae s σ H D I h;apply wpAny_AugAssign_SubscriptAny (bE (ho ae s σ H _ I h) λov s1 ⟨x1,H1,I1,r1,q1⟩=>?_) ha;apply bE (hi ae s1 σ H1 _ I1 q1) λiv s2 ⟨x2,H2,I2,r2,q2⟩=>?_
 apply bE (hg ae s2 σ H2 x1 x2 ov iv _ I2 r1 r2 q2) λold s3 ⟨x3,H3,I3,r3,q3⟩=>?_
 apply bE (he ae s3 σ H3 _ I3 q3) λv s4 ⟨x4,H4,I4,r4,q4⟩=>?_
 apply bE (hp ae s4 σ H4 x3 x4 old v _ I4 r3 r4 q4) λnew s5 ⟨x5,H5,I5,r5,q5⟩=>?_
 exact bE (hs ae s5 σ H5 x1 x2 x5 ov iv new _ I5 r1 r2 r5 q5) λ_ s6 ⟨H6,I6,q6⟩=>⟨σ,H6,I6,q6⟩
def YW (f:Int->Int->Int):W3:=λx y H Q=>∃i j,x=.int i/\y=.int j/\Q (.int (f i j)) H
def EK:R6 X .Add (YW λi j=>i+j):=by
 intro ae s σ H x y v u Q I r1 r2 h;let⟨i,j,e1,e2,q⟩:=h;subst e1;subst e2;let⟨t,rfl⟩:=r1;let⟨t',rfl⟩:=r2;exact iadd_int ⟨.int _,H,I.tok _,⟨_,()⟩,q⟩
def xk:R6 X .Sub (YW λi j=>i-j):=by
 intro ae s σ H x y v u Q I r1 r2 h;let⟨i,j,e1,e2,q⟩:=h;subst e1;subst e2;let⟨t,rfl⟩:=r1;let⟨t',rfl⟩:=r2;exact isub_int ⟨.int _,H,I.tok _,⟨_,()⟩,q⟩
def D7 (c:TT)(tb:TS):TS:=λD σ H=>∃W:Nat->St->Hp->Prop,(∃m,W m σ H)/\∀m σ H,W m σ H ->
 c σ H λb H1=>if b=true then ∃N:St->Hp->Prop,(∀aS H',N aS H'->∃m',m'<m/\W m' aS H')/\tb { D with nx:=N,ct:=N,bk:=D.nx } σ H1 else D.nx σ H1
def kA {c:Expr}{body:List Stmt}(hp:PassesOwn (model X.prog X.w) X.A X.env X.xe)(hc:PT X c tc)(hb:jw X body tb):PS X (.While c body [] pos) (D7 tc tb):=by
 intro ae s σ H D I h;let⟨W,⟨m0,w0⟩,wx⟩:=h;apply wpAny_While (codeAny_whileLoop (λn s'=>∃aS H',Inv X ae aS H' s'/\W n aS H') ?_ m0 ⟨σ,H,I,w0⟩);rintro n s1 ⟨KZ,H1,I1,w1⟩;apply wpAny_passesOwn hp (bE (hc ae s1 KZ H1 _ I1 (wx n KZ H1 w1)) λb s2 ⟨H2,I2,q2⟩=>?_);cases b with
 |true =>
  let⟨N,hN,q2⟩:=q2;rw[if_pos rfl];apply wpAny_passesOwn hp (bE (hb ae s2 KZ H2 _ I2 q2) λf s3 q3=>?_);cases f with
  |next =>
   let⟨gi,H3,I3,n3⟩:=q3;let⟨m',hm,w3⟩:=hN gi H3 n3;exact⟨m',hm,gi,H3,I3,w3⟩
  |cont =>
   let⟨gi,H3,I3,n3⟩:=q3;let⟨m',hm,w3⟩:=hN gi H3 n3;exact⟨m',hm,gi,H3,I3,w3⟩
  |brk=>exact q3
  |ret v=>exact q3
 |false =>
  rw[if_neg Z3];exact wpAny_execs_nil ⟨KZ,H2,I2,q2⟩
end
structure It where
 go:Nat->Hp->Prop
 tu:Nat->Hp->V->Hp->Prop
 stop:Nat->Hp->Prop
def eQ (X:Cx)(ae:Γ2)(H:Hp)(b:Addr):Prop :=
 H b=none/\b≠X.env.locals/\b∉X.fs/\(b∈X.ex\/X.eZ.heap.objs.size<=b)/\(∀x c,X.env.cells.lookup x=some c->c≠b)/\∀p∈X.pn++ae,p.1≠b
def Inv.jC (I:Inv X ae σ H s)(hb:s.heap.objs.size<=b)(hn:H' b=none):eQ X ae H' b:=by
 apply⟨hn,Xr (Yg I.lt hb),I.abt hb,.inr (Zl I.sz hb),λx c e z=>?_,λp hp z=>?_⟩
 .obtain⟨v,q⟩:=I.cell x c e;exact absurd (Yg q.lt (by rw[z];exact hb)) (Yj _)
 .exact absurd (Yg (Zr (I.pin p hp).1) (by rw[z];exact hb)) (Yj _)
structure Turn (P:Program)(w:World)(K:Θ1)(tg:Expr)(J:It)(fp:List Addr)(it:Addr)(tn:Nat->Heap->Prop):Prop where
 mem:it∈fp
 obj:∀i h,tn i h->∀b∈fp,∃o,h.get? b=some o/\∀v,o.data≠.cell v
 keep:∀i h h',tn i h->(∀b∈fp,∀o,h.get? b=some o->h'.get? b=some o)->tn i h'
 item:∀(X:Cx),X.prog=P->X.w=w->X.K=K->X.calm=true->∀(i:Nat) (ae:Γ2) (s:Shared) (σ:St) (H:Hp) (E:Θ2),Inv X ae σ H s->(∀b∈fp,eQ X ae H b)->tn i s.heap->J.go i H ->
  wpAny (model P w) X.A (pyNext (.ref it)) (λr s1=>∃u,r=some u /\
   wpAny (model P w) X.A (letOwnedTupleGo tg (.ref it) u) (λ_ s2=>∃x H',Inv X ae σ H' s2/\RelV x u/\J.tu i H x H'/\tn (i+1) s2.heap/\∀b∈fp,H' b=none) E s1) E s
 done:∀(X:Cx),X.prog=P->X.w=w->X.K=K->X.calm=true->∀(i:Nat) (ae:Γ2) (s:Shared) (σ:St) (H:Hp) (E:Θ2),Inv X ae σ H s->(∀b∈fp,eQ X ae H b)->tn i s.heap->J.stop i H ->
  wpAny (model P w) X.A (pyNext (.ref it)) (λr s1=>r=none/\Inv X ae σ H s1) E s
 self:∀(A:Around) (i:Nat) (s:Shared) (Q:Θ2) (E:Θ2),tn i s.heap->Q (.ref it) s->wpAny (model P w) A (pyIter (.ref it)) Q E s
abbrev TI:=St->Hp->(It->Hp->Prop)->Prop
def PIE (X:Cx)(ae:Γ2)(σ:St)(tg:Expr)(R:It->Hp->Prop)(Ho:Value)(s2:Shared):Prop :=
 ∃(it:Addr) (fp:List Addr) (tn:Nat->Heap->Prop) (J:It) (H':Hp),Ho=.ref it/\Inv X ae σ H' s2/\Turn X.prog X.w X.K tg J fp it tn/\tn 0 s2.heap/\(∀b∈fp,eQ X ae H' b)/\R J H'
def PI (X:Cx)(tg iter:Expr)(wi:TI):Prop :=
 ∀(ae:Γ2) (s:Shared) (σ:St) (H:Hp) (R:It->Hp->Prop),Inv X ae σ H s->wi σ H R ->
  wpAny (model X.prog X.w) X.A (eval iter X.env) (λv s1=>wpAny (model X.prog X.w) X.A (pyIter v) (PIE X ae σ tg R) X.xe s1) X.xe s
def uu (ho:s.heap.get? it=some o)(hc:o.cls=.type n)(hd:o.data=.fields vs)
  (hn:["enumerate","zip","dict_itemiterator","dict_reverseitemiterator","odict_iterator","itertools.zip_longest","itertools.pairwise"].contains n=false) (hQ:Q ⟨⟩ s):wpAny M A (letOwnedTupleGo tg (.ref it) u) Q E s:=by
 unfold letOwnedTupleGo;cases tg<;>first
  |exact wpAny_pure hQ
  |(cases u<;>first
    |exact wpAny_pure hQ
    |(apply Za (wpAny_load ho ?_);rw[hc,hd];show wpAny M A (if (["enumerate","zip","dict_itemiterator","dict_reverseitemiterator","odict_iterator","itertools.zip_longest","itertools.pairwise"].contains n&&vs[0]? == some (rawInt _))=true then _ else _) Q E s;rw[if_neg (by intro h;rw[hn,Bool.false_and] at h;cases h)];exact wpAny_pure hQ))
def A3 (K:Θ1)(a:Addr):It :=
 ⟨λi H=>∃xs x,bG K H a xs/\xs[i]?=some x,λi H x H'=>H'=H/\∀xs,bG K H a xs->xs[i]?=some x,λi H=>∃xs,bG K H a xs/\xs.length<=i⟩
def yG (K:Θ1)(a:Addr):It :=
 ⟨λi H=>∃xs x,aK K H a xs/\xs[i]?=some x,λi H x H'=>H'=H/\∀xs,aK K H a xs->xs[i]?=some x,λi H=>∃xs,aK K H a xs/\xs.length<=i⟩
def Tk (lo:Int)(n:Nat):It:=⟨λi _=>i<n,λi H x H'=>H'=H/\x=.int (lo+i),λi _=>n<=i⟩
def pV {P:Program}{w:World}{K:Θ1}(a it:Addr):Turn P w K tg (A3 K a) [it] it (λi h=>h.IsListIter it a i) where
 mem:=by simp
 obj:=λi h st b hb=>by
  let e:b=it:=by simpa using hb
  subst e;let⟨o,e,c,d⟩:=st;exact⟨o,e,λv z=>by rw[d] at z;cases z⟩
 keep:=λi h h' st k=>st.at λo e=>k it (by simp) o e
 item:=by
  intro X hP hw hK hc i ae s σ H E I hf st hg;subst hP hw hK;let⟨xs,x,hq,hx⟩:=hg;let⟨its,rv,p,hz⟩:=I.list hq;let⟨u,hu,ru⟩:=rv.get hx;let⟨f0,f1,f2,f3,f4,f5⟩:=hf it (by simp);apply wpAny_pyNext_list_item st p.isList (x:=u) (by simpa using hu) λh' tD sb=>?_
  let I1:Inv X ae σ H { s with heap:=h' }:=I.turned (t':=s.toks) (λb o hb e=>(sb.2 b hb).trans e) f0 f1 f3 f4 f5;let⟨o,e,c,d⟩:=id tD;exact⟨u,(),uu (s:={ s with heap:=h' }) e c d ∅ ⟨x,H,I1,ru,⟨rfl,λys hy=>by rw[I.u3 hy hq];exact hx⟩,tD,λb hb=>(hf b hb).1⟩⟩
 done:=by
  intro X hP hw hK hc i ae s σ H E I hf st hg;subst hP hw hK;let⟨xs,hq,hx⟩:=hg;let⟨its,rv,p,hz⟩:=I.list hq;let⟨f0,f1,f2,f3,f4,f5⟩:=hf it (by simp);let hl:=rv.length;exact wpAny_pyNext_list_end (I.ok.hd hc) st p.isList (by simp;omega) λh' eb=>⟨(),I.turned (t':=s.toks) (λb o hb e=>eb b o hb e) f0 f1 f3 f4 f5⟩
 self:=λ_ _ _ _ _ st h=>wpAny_pyIter_listiter st h
def ot {P:Program}{w:World}{K:Θ1}(a it:Addr):Turn P w K tg (yG K a) [it] it (λi h=>h.IsTupleIter it a i) where
 mem:=by simp
 obj:=λi h st b hb=>by
  let e:b=it:=by simpa using hb
  subst e;let⟨o,e,c,d⟩:=st;exact⟨o,e,λv z=>by rw[d] at z;cases z⟩
 keep:=λi h h' st k=>st.at λo e=>k it (by simp) o e
 item:=by
  intro X hP hw hK hc i ae s σ H E I hf st hg;subst hP hw hK;let⟨xs,x,hq,hx⟩:=hg;let⟨its,rv,p,hz⟩:=I.tuple hq;let⟨u,hu,ru⟩:=rv.get hx;let⟨f0,f1,f2,f3,f4,f5⟩:=hf it (by simp);apply wpAny_pyNext_tuple_item st (show s.heap.IsTuple a its.toArray from p) (x:=u) (by simpa using hu) λh' tD sb=>?_
  let I1:Inv X ae σ H { s with heap:=h' }:=I.turned (t':=s.toks) (λb o hb e=>(sb.2 b hb).trans e) f0 f1 f3 f4 f5;let⟨o,e,c,d⟩:=id tD;exact⟨u,(),uu (s:={ s with heap:=h' }) e c d ∅ ⟨x,H,I1,ru,⟨rfl,λys hy=>by rw[I.jm hy hq];exact hx⟩,tD,λb hb=>(hf b hb).1⟩⟩
 done:=by
  intro X hP hw hK hc i ae s σ H E I hf st hg;subst hP hw hK;let⟨xs,hq,hx⟩:=hg;let⟨its,rv,p,hz⟩:=I.tuple hq;let⟨f0,f1,f2,f3,f4,f5⟩:=hf it (by simp);let hl:=rv.length;exact wpAny_pyNext_tuple_end (I.ok.hd hc) st (show s.heap.IsTuple a its.toArray from p) (by simp;omega) λh' eb=>⟨(),I.turned (t':=s.toks) (λb o hb e=>eb b o hb e) f0 f1 f3 f4 f5⟩
 self:=λ_ _ _ _ _ st h=>wpAny_pyIter_tupleiter st h
def xB {P:Program}{w:World}{K:Θ1}(it:Addr)(lo:Int)(n:Nat):Turn P w K tg (Tk lo n) [it] it (λi h=>IsRangeIter h it (lo+(i:Nat)*1) ((n:Int)-(i:Nat)) 1) where
 mem:=by simp
 obj:=λi h st b hb=>by
  let e:b=it:=by simpa using hb
  subst e;exact⟨_,st,λv z=>by
   let z':Data.fields _=Data.cell v:=z;cases z'⟩
 keep:=λi h h' st k=>k it (by simp) _ st
 item:=by
  intro X hP hw hK hc i ae s σ H E I hf st hg;subst hP hw hK;let⟨f0,f1,f2,f3,f4,f5⟩:=hf it (by simp);let W:=Walks.range (prog:=X.prog) (w:=X.w) (I.ok.hd hc) it lo 1 n;apply W.item i s _ _ hg st λv h' tk hv tD kk=>?_
  let⟨t,rfl⟩:=hv;let I1:Inv X ae σ H { s with heap:=h',toks:=tk }:=I.turned (λb o hb e=>kk b o (by simpa using hb) e) f0 f1 f3 f4 f5;apply⟨_,(),uu (s:={ s with heap:=h',toks:=tk }) (n:="range_iterator") tD rfl rfl ∅ ⟨.int (lo+i),H,I1,⟨t,?_⟩,⟨(),()⟩,tD,λb hb=>(hf b hb).1⟩⟩;rw[Int.mul_one]
 done:=by
  intro X hP hw hK hc i ae s σ H E I hf st hg;subst hP hw hK;let⟨f0,f1,f2,f3,f4,f5⟩:=hf it (by simp);exact wpAny_pyNext_range_end (I.ok.hd hc) st (by have:n<=i:=hg;omega) λh' eb=>⟨(),I.turned (t':=s.toks) (λb o hb e=>eb b o hb e) f0 f1 f3 f4 f5⟩
 self:=λ_ _ _ _ _ st h=>wpAny_pyIter_rangeiter st h
section
variable {X:Cx}{tg:Expr}
def VW (K:Θ1)(tl:TE):TI:=λσ H R=>tl σ H λx H1=>∃a,x=.ref a/\(∃xs,bG K H1 a xs)/\R (A3 K a) H1
def abG (K:Θ1)(tl:TE):TI:=λσ H R=>tl σ H λx H1=>∃a,x=.ref a/\(∃xs,aK K H1 a xs)/\R (yG K a) H1
def Fo {ae:Γ2}{σ:St}{lo hi:Int}(I:Inv X ae σ H s)(h1:-(2 ^ 62)<=lo)(h2:lo<2 ^ 62)(h3:-(2 ^ 62)<=hi)(h4:hi<2 ^ 62)
  (q:R (Tk lo (hi-lo).toNat) H):wpAny (model X.prog X.w) X.A (pyIter (.ref s.heap.objs.size)) (PIE X ae σ tg R) E { s with heap:=s.heap.push { cls:=.type "range",data:=.fields #[.int lo t,.int hi u,.int 1 v] },toks:=tk }:=by
 apply wpAny_pyIter_range (IsRange.new ..) (small_one h1 h2 h3 h4) ?_;let I1:Inv X ae σ H { s with heap:=s.heap.push { cls:=.type "range",data:=.fields #[.int lo t,.int hi u,.int 1 v] },toks:=tk }:=I.kept λb o e=>Zm _ e
 apply⟨(s.heap.push { cls:=.type "range",data:=.fields #[.int lo t,.int hi u,.int 1 v] }).objs.size,[(s.heap.push { cls:=.type "range",data:=.fields #[.int lo t,.int hi u,.int 1 v] }).objs.size],_,_,H,(),
  I1.kept (t':=tk) λb o e=>Zm _ e,xB _ lo (hi-lo).toNat,?_,λb hb=>?_,q⟩
 .let e1:lo+((0:Nat):Int)*1=lo:=by simp
  let e2:(((hi-lo).toNat:Nat):Int)-((0:Nat):Int)=Builtin.Range.rangeSize lo hi 1:=by rw[rangeSize_one];split<;>omega
  show IsRangeIter _ _ (lo+((0:Nat):Int)*1) ((((hi-lo).toNat:Nat):Int)-((0:Nat):Int)) 1;rw[e1,e2];exact Zz _ rfl
 .let e:b=(s.heap.push { cls:=.type "range",data:=.fields #[.int lo t,.int hi u,.int 1 v] }).objs.size:=by simpa using hb
  subst e;exact I1.jC (Ze _) (I1.cc.fresh (Ze _))
def VV (ta:TA):TI:=λσ H R=>ta σ H λvs H1=>∃j:Int,vs=[.int j]/\-(2 ^ 62)<=j/\j<2 ^ 62/\R (Tk 0 j.toNat) H1
def qi {a:Expr}{ta:TA}(hg:Gl X "range")(hm:X.mg "range"=none)(ha:PA X [a] ta)(hs:starEach [a] X.env=[(false,eval a X.env)]:=by rfl):PI X tg (.Call (.Name "range" p) [a] [] pos) (VV ta):=by
 intro ae s σ H R I h;apply Call_ (gh I hg hm boot_range (PyProof.Rows.callWith_type1 (bE (ha pos ae s σ H _ I h) λus s1 ⟨vs,H1,I1,r1,q1⟩=>?_) hs rfl));let⟨j,e,q1,q2,q⟩:=q1;subst e;cases r1 with
 |cons r rr =>
  cases rr
  let⟨t,rfl⟩:=r;exact call_range_1 (Fo I1 ⋯ ⋯ q1 q2 (by simpa using q))
def abc (wi:TI)(g:TG)(tb:TS):TS:=λD σ H=>wi σ H λJ H1=>∃W:Nat->Nat->St->Hp->Prop,(∃m,W 0 m σ H1)/\∀i m σ H,W i m σ H ->
 (J.stop i H/\D.nx σ H)\/(J.go i H/\∃N:St->Hp->Prop,(∀aS H',N aS H'->∃m',m'<m/\W (i+1) m' aS H')/\∀x H',J.tu i H x H'->g x σ H' λcz H2=>tb { D with nx:=N,ct:=N,bk:=D.nx } cz H2)
def nF (fp:List Addr)(h:Heap):Γ2:=fp.filterMap λb=>(h.get? b).map λo=>(b,o)
def jX (hb:b∈fp)(e:h.get? b=some o):(b,o)∈nF fp h:=List.mem_filterMap.mpr ⟨b,hb,by rw[e];rfl⟩
def BM (hp:p∈nF fp h):p.1∈fp/\h.get? p.1=some p.2:=by
 let⟨b,hb,e⟩:=List.mem_filterMap.mp hp;cases q:h.get? b with
 |none=>rw[q] at e;cases e
 |some o =>
  rw[q] at e;let e':(b,o)=p:=Option.some.inj e;subst e';exact⟨hb,q⟩
def Inv.pinned (I:Inv X ae σ H s)(hf:∀b∈fp,eQ X ae H b)(ho:∀b∈fp,∃o,s.heap.get? b=some o/\∀v,o.data≠.cell v):Inv X (ae++nF fp s.heap) σ H s :=
 I.my λp hp=>(Zw.mp hp).elim (λz=>I.pin p (Yl _ z)) λz=>by
  let⟨hb,e⟩:=BM z;let⟨f0,f1,f2,_⟩:=hf p.1 hb;let⟨o,e',d⟩:=ho p.1 hb;rw[e] at e';cases e';exact⟨e,f0,f1,f2,d⟩
def Inv.gD (I:Inv X (ae++pl) σ H s):Inv X ae σ H s:=I.my λp hp=>I.pin p (Yl _ (Y6 _ hp))
def nE {iter:Expr}{body:List Stmt}(hp:PassesOwn (model X.prog X.w) X.A X.env X.xe)(hc:X.calm=true)(hi:PI X tg iter wi)(hg:PG X tg g)(hb:jw X body tb)
  (hs:∀x,foldedSetIterable iter X.env x=pure x:=by intro _;rfl):PS X (.For tg iter body [] pos) (abc wi g tb):=by
 intro ae s σ H D I h;apply wpAny_For (bE (hi ae s σ H _ I h) λv s1 h1=>bE h1 λHo s2 h2=>?_) hs;let⟨it,fp,tn,J,H2,e,I2,T,fE,f2,W,⟨m0,w0⟩,wx⟩:=h2;subst e;let NH:∀{H':Hp},(∀b∈fp,H' b=none)->∀b∈fp,eQ X ae H' b:=λhn b hb=>⟨hn b hb,(f2 b hb).2⟩
 apply codeAny_forLoop_any (λn s'=>∃i aS H',Inv X ae aS H' s'/\tn i s'.heap/\(∀b∈fp,H' b=none)/\W i n aS H') ?_ m0 ⟨0,σ,H2,I2,fE,λb hb=>(f2 b hb).1,w0⟩;rintro n s3 ⟨i,gi,H3,I3,Sj,fr3,w3⟩;rcases wx i n gi H3 w3 with ⟨stop,qn⟩ |⟨go,N,hN,step⟩
 .apply wpAny_passesOwn hp (bE (T.done X rfl rfl rfl hc i ae s3 gi H3 X.xe I3 (NH fr3) Sj stop) λr s4 ⟨hr,I4⟩=>?_);subst hr;exact wpAny_execs_nil ⟨gi,H3,I4,qn⟩
 .apply wpAny_passesOwn hp (bE (T.item X rfl rfl rfl hc i ae s3 gi H3 X.xe I3 (NH fr3) Sj go) λr s4 ⟨u,hr,h4⟩=>?_);subst hr;apply wpAny_passesOwn hp (bE h4 λ_ s5 ⟨x,H5,I5,r5,y5,oS,WU⟩=>?_);let I5':=I5.pinned (NH WU) (T.obj _ _ oS);apply wpAny_passesOwn hp (bE (hg _ s5 gi H5 x u _ I5' r5 (step x H5 y5)) λ_ s6 ⟨σ6,H6,I6,q6⟩=>?_);apply wpAny_passesOwn hp (bE (hb _ s6 σ6 H6 _ I6 q6) λf s7 q7=>?_);let again:∀{AJ:St}{H7:Hp},Inv X (ae++nF fp s5.heap) AJ H7 s7->N AJ H7->∃m,m<n/\∃i aS H',Inv X ae aS H' s7/\tn i s7.heap/\(∀b∈fp,H' b=none)/\W i m aS H':=λ{AJ H7} I7 n7=>by
   let⟨m',hm,w7⟩:=hN AJ H7 n7;apply⟨m',hm,i+1,AJ,H7,I7.gD,T.keep _ _ _ oS λb hb o e=>(I7.pin (b,o) (Yl _ (Yl _ (jX hb e)))).1,λb hb=>?_,w7⟩;let⟨o,e,d⟩:=T.obj _ _ oS b hb;exact(I7.pin (b,o) (Yl _ (Yl _ (jX hb e)))).2.1
  cases f with
  |next=>let⟨AJ,H7,I7,n7⟩:=q7;exact again I7 n7
  |cont=>let⟨AJ,H7,I7,n7⟩:=q7;exact again I7 n7
  |brk=>let⟨AJ,H7,I7,q7⟩:=q7;exact⟨AJ,H7,I7.gD,q7⟩
  |ret v=>let⟨x7,AJ,H7,I7,r7,q7⟩:=q7;exact⟨x7,AJ,H7,I7.gD,r7,q7⟩
end
def u8 {K:Θ1}{a:Addr}{g:TG}{tb:TS}{D:Ends}(Pv:Nat->St->Hp->Prop)(h0:Pv 0 σ H)(hl:∀i σ H,i<=xs.length->Pv i σ H->bG K H a xs)
  (hs:∀i x σ H,xs[i]?=some x->Pv i σ H->g x σ H λcz H2=>tb { D with nx:=Pv (i+1),ct:=Pv (i+1),bk:=D.nx } cz H2) (hd:∀σ H,Pv xs.length σ H->D.nx σ H) :
  ∃W:Nat->Nat->St->Hp->Prop,(∃m,W 0 m σ H)/\∀i m σ H,W i m σ H ->
   ((A3 K a).stop i H/\D.nx σ H)\/((A3 K a).go i H/\∃N:St->Hp->Prop,(∀aS H',N aS H'->∃m',m'<m/\W (i+1) m' aS H')/\∀x H',(A3 K a).tu i H x H'->g x σ H' λcz H2=>tb { D with nx:=N,ct:=N,bk:=D.nx } cz H2):=by
 apply⟨λi m σ H=>m=xs.length-i/\i<=xs.length/\Pv i σ H,⟨xs.length,by simp,Z7 _,h0⟩,?_⟩;rintro i m σ H ⟨rfl,hi,p⟩;let q:=hl i σ H hi p;by_cases cD:i<xs.length
 .apply .inr ⟨⟨xs,xs[i],q,by simp[cD]⟩,Pv (i+1),λaS H' p'=>⟨xs.length-(i+1),⋯,(),cD,p'⟩,λx H' y=>?_⟩;let⟨e,y⟩:=y;subst e;exact hs i x σ _ (y xs q) p
 .let e:i=xs.length:=⋯;subst e;exact .inl ⟨⟨xs,q,Ze _⟩,hd σ H p⟩
def KD {K:Θ1}{a:Addr}{g:TG}{tb:TS}{D:Ends}(Pv:Nat->St->Hp->Prop)(h0:Pv 0 σ H)(hl:∀i σ H,i<=xs.length->Pv i σ H->aK K H a xs)
  (hs:∀i x σ H,xs[i]?=some x->Pv i σ H->g x σ H λcz H2=>tb { D with nx:=Pv (i+1),ct:=Pv (i+1),bk:=D.nx } cz H2) (hd:∀σ H,Pv xs.length σ H->D.nx σ H) :
  ∃W:Nat->Nat->St->Hp->Prop,(∃m,W 0 m σ H)/\∀i m σ H,W i m σ H ->
   ((yG K a).stop i H/\D.nx σ H)\/((yG K a).go i H/\∃N:St->Hp->Prop,(∀aS H',N aS H'->∃m',m'<m/\W (i+1) m' aS H')/\∀x H',(yG K a).tu i H x H'->g x σ H' λcz H2=>tb { D with nx:=N,ct:=N,bk:=D.nx } cz H2):=by
 apply⟨λi m σ H=>m=xs.length-i/\i<=xs.length/\Pv i σ H,⟨xs.length,by simp,Z7 _,h0⟩,?_⟩;rintro i m σ H ⟨rfl,hi,p⟩;let q:=hl i σ H hi p;by_cases cD:i<xs.length
 .apply .inr ⟨⟨xs,xs[i],q,by simp[cD]⟩,Pv (i+1),λaS H' p'=>⟨xs.length-(i+1),⋯,(),cD,p'⟩,λx H' y=>?_⟩;let⟨e,y⟩:=y;subst e;exact hs i x σ _ (y xs q) p
 .let e:i=xs.length:=⋯;subst e;exact .inl ⟨⟨xs,q,Ze _⟩,hd σ H p⟩
def nU (Pv:St->Hp->Prop)(μ : St->Hp->Nat)(h0:Pv σ H)
  (hs:∀σ H,Pv σ H->c σ H λb H1=>if b=true then tb { D with nx:=λaS H'=>Pv aS H'/\μ aS H' < μ σ H,ct:=λaS H'=>Pv aS H'/\μ aS H' < μ σ H,bk:=D.nx } σ H1 else D.nx σ H1)
  (mono:∀σ H Q Q',(∀b H1,Q b H1->Q' b H1)->c σ H Q->c σ H Q'):D7 c tb D σ H:=by
 apply⟨λm σ H=>m=μ σ H/\Pv σ H,⟨_,(),h0⟩,?_⟩;rintro m σ H ⟨rfl,p⟩;apply mono σ H _ _ (λb H1 q=>?_) (hs σ H p);cases b with
 |true=>exact⟨_,λaS H' ⟨p',l⟩=>⟨_,l,(),p'⟩,q⟩
 |false=>exact q
abbrev R2:=V->V->Hp->VK->Prop
def eE (X:Cx)(f:Value->Value->Sem Value)(r:R2):Prop :=
 ∀(ae:Γ2) (s:Shared) (σ:St) (H:Hp) (x y:V) (v u:Value) (Q:VK),Inv X ae σ H s->RelV x v->RelV y u->r x y H Q ->
  wpAny (model X.prog X.w) X.A (f v u) (EP X ae σ Q) X.xe s
def UnR (X:Cx)(f:Value->Sem Value)(r:V->Hp->VK->Prop):Prop :=
 ∀(ae:Γ2) (s:Shared) (σ:St) (H:Hp) (x:V) (v:Value) (Q:VK),Inv X ae σ H s->RelV x v->r x H Q ->
  wpAny (model X.prog X.w) X.A (f v) (EP X ae σ Q) X.xe s
def cn (X:Cx)(f:Value)(r:List V->Hp->VK->Prop):Prop :=
 ∀(ae:Γ2) (s:Shared) (σ:St) (H:Hp) (xs:List V) (us:Δ3) (Q:VK),Inv X ae σ H s->bh xs us->r xs H Q ->
  wpAny (model X.prog X.w) X.A (call f us) (EP X ae σ Q) X.xe s
def acd (X:Cx)(r:V->Hp->(Bool->Hp->Prop)->Prop):Prop :=
 ∀(ae:Γ2) (s:Shared) (σ:St) (H:Hp) (x:V) (v:Value) (Q:Bool->Hp->Prop),Inv X ae σ H s->RelV x v->r x H Q ->
  wpAny (model X.prog X.w) X.A (truthy v) (TP X ae σ Q) X.xe s
def MR (r:R2)(ta tb:TE):TE:=λσ H Q=>ta σ H λx H1=>tb σ H1 λy H2=>r x y H2 Q
def tUn (r:V->Hp->VK->Prop)(ta:TE):TE:=λσ H Q=>ta σ H λx H1=>r x H1 Q
def rI (C:Int->Int->Prop)(g:Int->Int->V):R2:=λx y H Q=>∃i j,x=.int i/\y=.int j/\C i j/\Q (g i j) H
def CH (g:Int->Int->V):R2:=λx y H Q=>∃i j,x=.int i/\y=.int j/\Q (g i j) H
def rU (g:Int->V):V->Hp->VK->Prop:=λx H Q=>∃i,x=.int i/\Q (g i) H
section
variable {X:Cx}{a b c:Expr}{ta tb tc:TE}{pos:Pos}
def Of (ha:PE X a ta)(hb:PE X b tb){ae:Γ2}{s:Shared}{R:V->V->Hp->Prop}(I:Inv X ae σ H s)
  (h:ta σ H λx H1=>tb σ H1 λy H2=>R x y H2) {f:Value->Value->Sem Value}
  (hf:∀v u s2 x y H2,Inv X ae σ H2 s2->RelV x v->RelV y u->R x y H2->wpAny (model X.prog X.w) X.A (f v u) Q X.xe s2) :
  wpAny (model X.prog X.w) X.A (eval a X.env) (λv bS=>wpAny (model X.prog X.w) X.A (eval b X.env) (λu c7=>wpAny (model X.prog X.w) X.A (f v u) Q X.xe c7) X.xe bS) X.xe s:=by
 apply bE (ha ae s σ H _ I h) λv s1 ⟨x,H1,I1,r1,q1⟩=>?_
 apply bE (hb ae s1 σ H1 _ I1 q1) λu s2 ⟨y,H2,I2,r2,q2⟩=>?_
 exact hf v u s2 x y H2 I2 r1 r2 q2
def c6 {op:Operator}{r:R2}(ho:eE X (binaryOp op) r)(ha:PE X a ta)(hb:PE X b tb):PE X (.BinOp a op b pos) (MR r ta tb):=by
 intro ae s σ H Q I h;exact wpAny_BinOp (Of ha hb I h λv u s2 x y H2 I2 rx ry q=>ho ae s2 σ H2 x y v u Q I2 rx ry q)
def LU {op:UnaryOp}{r:V->Hp->VK->Prop}(ho:UnR X (unaryOp op) r)(ha:PE X a ta):PE X (.UnaryOp op a pos) (tUn r ta):=by
 intro ae s σ H Q I h;exact UnaryOp_ (bE (ha ae s σ H _ I h) λv s1 ⟨x,H1,I1,r1,q1⟩=>ho ae s1 σ H1 x v Q I1 r1 q1)
def K4 {f:Value->Value->Sem Value}{C:Int->Int->Prop}{g:Int->Int->Int}
  (rule:∀(i j:Int) (t u:Tok) (s:Shared) (Q:Θ2) (E:Θ2),C i j->Q (.int (g i j) s.toks) { s with toks:=s.toks+1 }->wpAny (model X.prog X.w) X.A (f (.int i t) (.int j u)) Q E s) :
  eE X f (rI C λi j=>.int (g i j)):=by
 intro ae s σ H x y v u Q I rx ry h;let⟨i,j,rfl,rfl,hc,q⟩:=h;let⟨t,rfl⟩:=rx;let⟨t',rfl⟩:=ry;exact rule i j t t' s _ _ hc ⟨.int (g i j),H,I.tok _,⟨_,()⟩,q⟩
def TZ {f:Value->Value->Sem Value}{g:Int->Int->Int}
  (rule:∀(i j:Int) (t u:Tok) (s:Shared) (Q:Θ2) (E:Θ2),Q (.int (g i j) s.toks) { s with toks:=s.toks+1 }->wpAny (model X.prog X.w) X.A (f (.int i t) (.int j u)) Q E s) :
  eE X f (CH λi j=>.int (g i j)):=by
 intro ae s σ H x y v u Q I rx ry h;let⟨i,j,rfl,rfl,q⟩:=h;let⟨t,rfl⟩:=rx;let⟨t',rfl⟩:=ry;exact rule i j t t' s _ _ ⟨.int (g i j),H,I.tok _,⟨_,()⟩,q⟩
def HU {f:Value->Value->Sem Value}{g:Int->Int->Bool}
  (rule:∀(i j:Int) (t u:Tok) (s:Shared) (Q:Θ2) (E:Θ2),Q (.bool (g i j)) s->wpAny (model X.prog X.w) X.A (f (.int i t) (.int j u)) Q E s) :
  eE X f (CH λi j=>.bl (g i j)):=by
 intro ae s σ H x y v u Q I rx ry h;let⟨i,j,rfl,rfl,q⟩:=h;let⟨t,rfl⟩:=rx;let⟨t',rfl⟩:=ry;exact rule i j t t' s _ _ ⟨.bl (g i j),H,I,(),q⟩
def acf (i j:Int):Prop:=0<j/\j<1073741824
def U6 (i j:Int):Prop:=0<=j/\j<=1000000/\i.natAbs<2 ^ 64
def OH (i j:Int):Prop:=(-(2 ^ 64)<i/\i<2 ^ 64)\/(-(2 ^ 64)<j/\j<2 ^ 64)
def OH.ok (h:OH i j):IntMulOk i j:=by
 rcases h with ⟨h1,h2⟩ |⟨h1,h2⟩
 .exact .of_left (intBits_le_64 h1 h2)
 .exact .of_right (intBits_le_64 h1 h2)
def d6:eE X (binaryOp .Add) (CH λi j=>.int (i+j)):=TZ λ_ _ _ _ _ _ _ q=>add_int q
def rN:eE X (binaryOp .Sub) (CH λi j=>.int (i-j)):=TZ λ_ _ _ _ _ _ _ q=>sub_int q
def iQ:eE X (binaryOp .Mult) (rI OH λi j=>.int (i*j)):=K4 λ_ _ _ _ _ _ _ hc q=>mul_int q hc.ok
def sr:eE X (binaryOp .FloorDiv) (rI acf λi j=>.int (i / j)):=K4 λi j _ _ _ _ _ hc q=>by
 let h1:(0:Int)<j:=hc.1;let h2:j<1073741824:=hc.2;exact floordiv_int ⋯ (by rw[Qv i ⋯];exact q) (.inl (PyProof.noPylong_small ⋯))
def gX:eE X (binaryOp .Mod) (rI (λ_ j=>0<j) λi j=>.int (i % j)):=K4 λi j _ _ _ _ _ hc q=>by
 let h1:(0:Int)<j:=hc;exact mod_int' ⋯ (by rw[Int.fmod_eq_emod_of_nonneg i ⋯];exact q)
def zW:eE X (binaryOp .Mod) (rI (λ_ j=>j≠0) λi j=>.int (i.fmod j)):=K4 λ_ _ _ _ _ _ _ hc q=>mod_int' hc q
def kZ:eE X (binaryOp .Pow) (rI U6 λi j=>.int (i ^ j.toNat)):=K4 λ_ _ _ _ _ _ _ hc q=>pow_int_small hc.1 hc.2.1 hc.2.2 q
def unI {f:Value->Sem Value}{g:Int->Int}
  (rule:∀(i:Int) (t:Tok) (s:Shared) (Q:Θ2) (E:Θ2),Q (.int (g i) s.toks) { s with toks:=s.toks+1 }->wpAny (model X.prog X.w) X.A (f (.int i t)) Q E s) :
  UnR X f (rU λi=>.int (g i)):=by
 intro ae s σ H x v Q I rx h;let⟨i,rfl,q⟩:=h;let⟨t,rfl⟩:=rx;exact rule i t s _ _ ⟨.int (g i),H,I.tok _,⟨_,()⟩,q⟩
def D4:UnR X (unaryOp .USub) (rU λi=>.int (-i)):=unI λ_ _ _ _ _ q=>neg_int q
end
def TM:V->V->Bool
 |.cg,.cg=>true |.cg,.int _=>true |.int _,.cg=>true |.cg,.bl _=>true |.bl _,.cg=>true |.cg,.str _=>true |.str _,.cg=>true
 |.int _,.int _=>true |.bl _,.bl _=>true |.str _,.str _=>true |.A0 _,.A0 _=>true
 |.int _,.str _=>true |.str _,.int _=>true |.bl _,.str _=>true |.str _,.bl _=>true
 |_,_=>false
def rEq:R2:=λx y H Q=>TM x y=true/\Q (.bl (decide (x=y))) H
def rNe:R2:=λx y H Q=>TM x y=true/\Q (.bl (!decide (x=y))) H
def AD:decide (V.int i=V.int j)=(i == j):=by
 rw[Yb];simp
def ES:decide (V.bl i=V.bl j)=(i == j):=by
 rw[Yb];simp
def AB:decide (V.str i=V.str j)=(i == j):=by
 rw[Yb];simp
def AE:decide (V.A0 i=V.A0 j)=(i.toList == j.toList):=by
 rw[Yb];cases i;cases j;simp
section
variable {X:Cx}{a b c:Expr}{ta tb tc:TE}{pos:Pos}
def jL (I:Inv X ae σ H s)(q:Q (.bl k) H)(e:k=k'):EP X ae σ Q (.bool k') s:=by
 subst e;exact⟨.bl k,H,I,(),q⟩
def nq:eE X (compareOp .Eq) rEq:=by
 intro ae s σ H x y v u Q I rx ry h;let⟨hs,q⟩:=h;cases x with
 |cg =>
  cases rx
  cases y with
  |cg=>cases ry;exact PySem.EqNone.eq_none_none (jL I q (by simp))
  |bl j=>cases ry;exact PySem.EqNone.eq_none_bool (jL I q (by simp))
  |int j=>let⟨t',rfl⟩:=ry;exact PySem.EqNone.eq_none_int (jL I q (by simp))
  |str j=>let⟨t',rfl⟩:=ry;exact PySem.EqNone.eq_none_str (jL I q (by simp))
  |_=>exact absurd (show false=true from hs) Z3
 |bl i =>
  cases rx
  cases y with
  |cg=>cases ry;exact PySem.EqNone.eq_bool_none (jL I q (by simp))
  |bl j=>cases ry;exact eq_bool (jL I q ES)
  |str j=>let⟨t',rfl⟩:=ry;exact PySem.EqMixed.eq_bool_str (jL I q (by simp))
  |_=>exact absurd (show false=true from hs) Z3
 |int i =>
  let⟨t,rfl⟩:=rx;cases y with
  |cg=>cases ry;exact PySem.EqNone.eq_int_none (jL I q (by simp))
  |int j=>let⟨t',rfl⟩:=ry;exact eq_int (jL I q AD)
  |str j=>let⟨t',rfl⟩:=ry;exact PySem.EqMixed.eq_int_str (jL I q (by simp))
  |_=>exact absurd (show false=true from hs) Z3
 |str i =>
  let⟨t,rfl⟩:=rx;cases y with
  |cg=>cases ry;exact PySem.EqNone.eq_str_none (jL I q (by simp))
  |bl j=>cases ry;exact PySem.EqMixed.eq_str_bool (jL I q (by simp))
  |int j=>let⟨t',rfl⟩:=ry;exact PySem.EqMixed.eq_str_int (jL I q (by simp))
  |str j=>let⟨t',rfl⟩:=ry;exact eq_str (jL I q AB)
  |_=>exact absurd (show false=true from hs) Z3
 |A0 i =>
  let⟨t,rfl⟩:=rx;cases y with
  |A0 j=>let⟨t',rfl⟩:=ry;exact PySem.W.eq_bytes (jL I q AE)
  |_=>exact absurd (show false=true from hs) Z3
 |_=>cases y<;>exact absurd (show false=true from hs) Z3
def lL:eE X (compareOp .NotEq) rNe:=by
 intro ae s σ H x y v u Q I rx ry h;let⟨hs,q⟩:=h;cases x with
 |cg =>
  cases rx
  cases y with
  |cg=>cases ry;exact PySem.EqNone.ne_none_none (jL I q (by simp))
  |bl j=>cases ry;exact PySem.EqNone.ne_none_bool (jL I q (by simp))
  |int j=>let⟨t',rfl⟩:=ry;exact PySem.EqNone.ne_none_int (jL I q (by simp))
  |str j=>let⟨t',rfl⟩:=ry;exact PySem.EqNone.ne_none_str (jL I q (by simp))
  |_=>exact absurd (show false=true from hs) Z3
 |bl i =>
  cases rx
  cases y with
  |cg=>cases ry;exact PySem.EqNone.ne_bool_none (jL I q (by simp))
  |bl j=>cases ry;exact ne_bool (jL I q (congrArg not ES))
  |str j=>let⟨t',rfl⟩:=ry;exact PySem.EqMixed.ne_bool_str (jL I q (by simp))
  |_=>exact absurd (show false=true from hs) Z3
 |int i =>
  let⟨t,rfl⟩:=rx;cases y with
  |cg=>cases ry;exact PySem.EqNone.ne_int_none (jL I q (by simp))
  |int j=>let⟨t',rfl⟩:=ry;exact ne_int (jL I q (congrArg not AD))
  |str j=>let⟨t',rfl⟩:=ry;exact PySem.EqMixed.ne_int_str (jL I q (by simp))
  |_=>exact absurd (show false=true from hs) Z3
 |str i =>
  let⟨t,rfl⟩:=rx;cases y with
  |cg=>cases ry;exact PySem.EqNone.ne_str_none (jL I q (by simp))
  |bl j=>cases ry;exact PySem.EqMixed.ne_str_bool (jL I q (by simp))
  |int j=>let⟨t',rfl⟩:=ry;exact PySem.EqMixed.ne_str_int (jL I q (by simp))
  |str j=>let⟨t',rfl⟩:=ry;exact ne_str (jL I q (congrArg not AB))
  |_=>exact absurd (show false=true from hs) Z3
 |A0 i =>
  let⟨t,rfl⟩:=rx;cases y with
  |A0 j=>let⟨t',rfl⟩:=ry;exact PySem.W.ne_bytes (jL I q (congrArg not AE))
  |_=>exact absurd (show false=true from hs) Z3
 |_=>cases y<;>exact absurd (show false=true from hs) Z3
def pM:eE X (compareOp .Lt) (CH λi j=>.bl (decide (i<j))):=HU λ_ _ _ _ _ _ _ q=>lt_int q
def iI:eE X (compareOp .LtE) (CH λi j=>.bl (decide (i<=j))):=HU λ_ _ _ _ _ _ _ q=>le_int q
def gq:eE X (compareOp .Gt) (CH λi j=>.bl (decide (j<i))):=HU λ_ _ _ _ _ _ _ q=>gt_int q
def VE:eE X (compareOp .GtE) (CH λi j=>.bl (decide (j<=i))):=HU λ_ _ _ _ _ _ _ q=>ge_int q
def zV:eE X (compareOp .IsNot) (λx y H Q=>y=.cg/\Q (.bl (!decide (x=.cg))) H):=by
 intro ae s σ H x y v u Q I rx ry h;let⟨rfl,q⟩:=h;cases ry;apply isnot_none_gen (jL I q ?_);cases x<;>first
  |(cases rx;rfl)
  |(let⟨t,rfl⟩:=rx;rfl)
def eE.or (h:eE X f r)(h':eE X f r'):eE X f (λx y H Q=>r x y H Q\/r' x y H Q):=by
 intro ae s σ H x y v u Q I rx ry q;rcases q with q |q
 .exact h ae s σ H x y v u Q I rx ry q
 .exact h' ae s σ H x y v u Q I rx ry q
def aJ (b:Expr)(h:op≠.In:=by decide)(h2:op≠.NotIn:=by decide):behindInMarks op b=false:=by
 let e1:(op == CmpOp.In)=false:=by cases op<;>first |rfl |exact absurd rfl h
 let e2:(op == CmpOp.NotIn)=false:=by cases op<;>first |rfl |exact absurd rfl h2
 cases b<;>simp[behindInMarks,e1,e2]
def eU (ho:eE X (compareOp op) r)(ha:PE X a ta)(hb:PE X b tb)(hm:behindInMarks op b=false):PE X (.Compare a [op] [b] pos) (MR r ta tb):=by
 intro ae s σ H Q I h;exact wpAny_Compare1 (Of ha hb I h λv u s2 x y H2 I2 rx ry q=>ho ae s2 σ H2 x y v u Q I2 rx ry q) hm
def Dy (t:TE):TT:=λσ H Q=>t σ H λx H'=>∃k,x=.bl k/\Q k H'
def mY {op:CmpOp}{r:R2}(ho:eE X (compareOp op) r)(ha:PE X a ta)(hb:PE X b tb)(hm:behindInMarks op b=false):PT X (.Compare a [op] [b] pos) (Dy (MR r ta tb)):=by
 intro ae s σ H Q I h;apply wpAny_isTrue_Compare1 (bE (ha ae s σ H _ I h) λv s1 ⟨x,H1,I1,r1,q1⟩=>bE (hb ae s1 σ H1 _ I1 q1) λu s2 ⟨y,H2,I2,r2,q2⟩ =>
  bE (ho ae s2 σ H2 x y v u _ I2 r1 r2 q2) λc s3 ⟨z,H3,I3,r3,k,e,q3⟩=>?_) hm
 subst e;cases r3;exact wpAny_truthy_bool ⟨H3,I3,q3⟩
def D9 (r r':R2)(ta tb tc:TE):TE:=λσ H Q=>ta σ H λx H1=>tb σ H1 λy H2=>r x y H2 λz H3=>∃k,z=.bl k /\
 (if k=true then tc σ H3 λw' H4=>r' y w' H4 Q else Q (.bl false) H3)
def n8 {op MX:CmpOp}{r r':R2}(ho:eE X (compareOp op) r)(oO:eE X (compareOp MX) r')(ha:PE X a ta)(hb:PE X b tb)(hc:PE X c tc)
  (hm:lastMarks [op,MX] [b,c]=false:=by with_unfolding_all rfl):PE X (.Compare a [op,MX] [b,c] pos) (D9 r r' ta tb tc):=by
 intro ae s σ H Q I h;apply Compare_chain (bE (ha ae s σ H _ I h) λv s1 ⟨x,H1,I1,r1,q1⟩=>chain_link (bE (hb ae s1 σ H1 _ I1 q1) λu s2 ⟨y,H2,I2,r2,q2⟩ =>
  bE (ho ae s2 σ H2 x y v u _ I2 r1 r2 q2) λd s3 ⟨z,H3,I3,r3,k,e,q3⟩=>?_)) hm
 subst e;cases r3;apply wpAny_truthy_bool ?_;cases k with
 |false=>exact ite_ff ⟨.bl false,H3,I3,(),q3⟩
 |true=>exact ite_tt (chain_last (bE (hc ae s3 σ H3 _ I3 q3) λw' s4 ⟨z',H4,I4,r4,q4⟩=>oO ae s4 σ H4 y z' u w' Q I4 r2 r4 q4))
def uP {op MX:CmpOp}{r r':R2}(ho:eE X (compareOp op) r)(oO:eE X (compareOp MX) r')(ha:PE X a ta)(hb:PE X b tb)(hc:PE X c tc)
  (hm:lastMarks [op,MX] [b,c]=false:=by with_unfolding_all rfl):PT X (.Compare a [op,MX] [b,c] pos) (Dy (D9 r r' ta tb tc)):=by
 intro ae s σ H Q I h;apply isTrue_chain (bE (ha ae s σ H _ I h) λv s1 ⟨x,H1,I1,r1,q1⟩=>test_link (bE (hb ae s1 σ H1 _ I1 q1) λu s2 ⟨y,H2,I2,r2,q2⟩ =>
  bE (ho ae s2 σ H2 x y v u _ I2 r1 r2 q2) λd s3 ⟨z,H3,I3,r3,k,e,q3⟩=>?_)) hm
 subst e;cases r3;apply wpAny_truthy_bool ?_;cases k with
 |false =>
  let⟨k',e',q'⟩:=q3;cases e';exact ite_ff ⟨H3,I3,q'⟩
 |true =>
  apply ite_tt (test_last (bE (hc ae s3 σ H3 _ I3 q3) λw' s4 ⟨z',H4,I4,r4,q4⟩=>bE (oO ae s4 σ H4 y z' u w' _ I4 r2 r4 q4) λd' s5 ⟨z2,H5,I5,r5,k2,e2,q5⟩=>?_));subst e2;cases r5;exact wpAny_truthy_bool ⟨H5,I5,q5⟩
def UP (K:Θ1)(x:V)(H:Hp)(k:Bool):Prop :=
 match x with
 |.cg=>k=false
 |.bl b=>k=b
 |.int i=>k=(i != 0)
 |.str y=>y.length<=sizeLine/\k=((y.length:Int) != 0)
 |.A0 y=>y.size<=sizeLine/\k=((y.size:Int) != 0)
 |.ref p=>(∃xs,bG K H p xs/\k=!xs.isEmpty)\/(∃xs,aK K H p xs/\k=!xs.isEmpty)\/∃kvs,H p=some (.dK kvs)/\k=!kvs.isEmpty
 |_=>False
def yg {κ : Type}{kvs:List (κ × V)}{vs:List (κ × Value)}(r:KV kvs vs):(!vs.isEmpty)=!kvs.isEmpty:=by
 cases r<;>rfl
def oE {xs:List V}{its:Δ3}(r:bh xs its):(!its.toArray.isEmpty)=!xs.isEmpty:=by
 cases r<;>simp
def jS:(sizeLine:Nat)<2 ^ 63:=by rw[sizeLine_eq];decide
def OJ:acd X (λx H Q=>∃k,UP X.K x H k/\Q k H):=by
 intro ae s σ H x v Q I rx h;let⟨k,e,q⟩:=h;let hl:=jS;let hs:sizeLine=16777216:=sizeLine_eq;cases x with
 |cg =>
  cases rx
  let e':k=false:=e;subst e';exact truthy_none ⟨H,I,q⟩
 |bl b =>
  cases rx
  let e':k=b:=e;subst e';exact wpAny_truthy_bool ⟨H,I,q⟩
 |int i =>
  let⟨t,rfl⟩:=rx;let e':k=(i != 0):=e;subst e';exact PySem.P.truthy_int ⟨H,I,q⟩
 |str y =>
  let⟨t,rfl⟩:=rx;obtain⟨hy,e'⟩:y.length<=sizeLine/\k=((y.length:Int) != 0):=e;subst e';exact PySem.P.truthy_str ⋯ ⟨H,I.tok _,q⟩
 |A0 y =>
  let⟨t,rfl⟩:=rx;obtain⟨hy,e'⟩:y.size<=sizeLine/\k=((y.size:Int) != 0):=e;subst e';exact PySem.W.truthy_bytes ⋯ ⟨H,I.tok _,q⟩
 |ref p =>
  cases rx
  let e':(∃xs,bG X.K H p xs/\k=!xs.isEmpty)\/(∃xs,aK X.K H p xs/\k=!xs.isEmpty)\/∃kvs,H p=some (.dK kvs)/\k=!kvs.isEmpty:=e;rcases e' with ⟨xs,hx,e'⟩ |⟨xs,hx,e'⟩ |⟨kvs,hx,e'⟩
  .subst e';let⟨its,r,pl,hz⟩:=I.list hx;let cF:=r.length;exact wpAny_truthy_list pl.isList (by simp only[Z5];omega) ⟨H,I.tok _,by rw[oE r];exact q⟩
  .subst e';let⟨its,r,pl,hz⟩:=I.tuple hx;let cF:=r.length;exact truthy_tuple pl (by simp only[Z5];omega) ⟨H,I.tok _,by rw[oE r];exact q⟩
  .subst e';obtain⟨hz,hS,vs,r,m⟩:kvs.length<=sizeLine/\(p == sysModules)=false/\∃vs,KV kvs vs/\s.heap.DictOf (lG X.prog X.w) p vs:=I.cc p _ hx;let cF:kvs.length=vs.length:=Paired.length r;exact wpAny_truthy_dict hS m ⋯ ⟨H,I.tok _,by rw[yg r];exact q⟩
 |_=>exact(show False from e).elim
def uO (ha:PE X a ta)(he:∀gl,isTrue a X.env gl=(do let v <- gl;standAt a.pos;holding [v] (truthy v))) :
  PT X a (λσ H Q=>ta σ H λx H'=>∃k,UP X.K x H' k/\Q k H'):=by
 intro ae s σ H Q I h;exact isTrue_plain (bE (ha ae s σ H _ I h) λv s1 ⟨x,H1,I1,r1,q1⟩=>OJ ae s1 σ H1 x v Q I1 r1 q1) (he _)
def vals1 (r:bh [x] us):∃u,us=[u]/\RelV x u:=by
 cases r with
 |cons r1 r2=>cases r2;exact⟨_,(),r1⟩
def vals2 (r:bh [x,y] us):∃u w',us=[u,w']/\RelV x u/\RelV y w':=by
 cases r with
 |cons r1 r2 =>
  cases r2 with
  |cons r3 r4=>cases r4;exact⟨_,_,(),r1,r3⟩
def om:cn X (.builtin "abs") (λxs H Q=>∃i,xs=[.int i]/\Q (.int (if i<0 then -i else i)) H):=by
 intro ae s σ H xs us Q I r h;let⟨i,rfl,q⟩:=h;let⟨u,rfl,t,rfl⟩:=vals1 r;exact call_abs_int λu tk=>⟨.int (if i<0 then -i else i),H,I.tok _,⟨_,()⟩,q⟩
def Ch (hc:X.calm=true):cn X (.builtin "min") (λxs H Q=>∃i j,xs=[.int i,.int j]/\Q (.int (if j<i then j else i)) H):=by
 intro ae s σ H xs us Q I r h;let⟨i,j,rfl,q⟩:=h;let⟨u,w',rfl,⟨t,rfl⟩,⟨t',rfl⟩⟩:=vals2 r;apply min_two_ints (I.ok.hd hc) λh' tk k=>⟨_,H,I.kept k,?_,q⟩
 by_cases hj:j<i
 .rw[if_pos hj,if_pos hj];exact⟨_,()⟩
 .rw[if_neg hj,if_neg hj];exact⟨_,()⟩
def Cj:cn X (.type "int") (λxs H Q=>(∃i,xs=[.int i]/\Q (.int i) H)\/∃k,xs=[.bl k]/\Q (.int (if k then 1 else 0)) H):=by
 intro ae s σ H xs us Q I r h;rcases h with ⟨i,rfl,q⟩ |⟨k,rfl,q⟩
 .obtain⟨u,rfl,t,rfl⟩:=vals1 r;exact call_int_int ⟨.int i,H,I,⟨_,()⟩,q⟩
 .obtain⟨u,rfl,r1⟩:=vals1 r;cases r1;exact call_int_bool ⟨.int (if k then 1 else 0),H,I.tok _,⟨_,()⟩,q⟩
end
structure Om (h:Heap)(x dx C:Addr)(mA:Θ3):Prop where
 obj:h.get? x=some (PySem.W.instObj C dx)
 ns:h.Ns1 dx mA
 ne:dx≠x
def BS {h:Heap}{dx:Addr}(n:h.Ns1 dx mA):∃od,h.get? dx=some od/\∀name,PySem.W.lookIn name od=some (mA name):=by
 let⟨o,es,ep,ho,hd,hk,_,hm⟩:=n;apply⟨o,ho,λname=>?_⟩;let e:=hm name;unfold nsFind findBy at e;rw[<- Array.find?_toList] at e;unfold PySem.W.lookIn;rw[hd];dsimp only;split
 .rename_i y q;rw[q] at e;exact congrArg some e
 .rename_i q;rw[q] at e;let a:es.toList.any (·.refKey)=false:=by
   rw[List.any_eq_false];intro y hy;let⟨z,t,t7⟩:=hk y (Array.mem_toList_iff.mp hy);simp[DictEntry.refKey,t7]
  let a':¬ es.toList.any (·.refKey)=true:=by rw[a];exact Z3
  rw[if_neg a'];exact congrArg some e
def Om.look (I:Om h x dx C mA):∃od,PySem.W.InstAt h x (PySem.W.instObj C dx) C (some od)/\∀name,PySem.W.lookIn name od=some (mA name) :=
 let ⟨od,ho,hl⟩:=BS I.ns
 ⟨od,⟨I.obj,(),(),ho⟩,hl⟩
section
variable {prog:Program}{w:World}{A:Around}{E:Θ2}{s:Shared}{K:Θ1}{x dx C f:Addr}{mA:Θ3}{name:Str}{v:Value}
end
def aF.some_of (r:aF (some v) o):∃u,o=some u/\RelV v u:=by
 cases o with
 |none=>exact(show False from r).elim
 |some u=>exact⟨u,(),r⟩
section
variable {P:Program}{w:World}{H H':Hp}{h h':Heap}{a C dx:Addr}{fs fs':List (Str×V)}
def Kz (cc:j1 P w H h)(e:H a=some (.ins C dx fs)):∃mA,Om h a dx C mA/\(∀f,aF (fs.lookup f) (mA f))/\PySem.Within mA (fs.map (·.1))/\fs.length<=1000/\H dx=some (.own a):=by
 let⟨d,z,ne,ob,mA,n,r,q⟩:=(show ca P w H h a (.ins C dx fs) from cc a _ e);exact⟨mA,⟨ob,n,ne⟩,r,q,z,d⟩
end
structure Cls (K:Θ1)(C:Addr):Prop where
 pg:PySem.W.plainGet K C Str.empty=true
 hd:PySem.W.hasDictIn K C=true
 po:PySem.W.plainOver K C=true
 sa:PySem.W.findIn K (.ref C) "__setattr__"=some (some (.builtin "object.__setattr__"))
def Cls.get {K:Θ1}{C:Addr}(c:Cls K C)(f:Str):PySem.W.plainGet K C f=true:=c.pg
section
variable {X:Cx}{ae:Γ2}{σ:St}{H:Hp}{s:Shared}{a C dx:Addr}{fs:List (Str×V)}{f:Str}{v:V}{A:Around}{E:Θ2}
end
section
variable {X:Cx}{o e value:Expr}{f:Str}{pos kU qQ:Pos}{ta tv:TE}
end
section
variable {X:Cx}{ae:Γ2}{σ:St}{H:Hp}{s:Shared}{A:Around}{E:Θ2}{Q:Θ2}{c:Value}{b:Bool}
inductive jD (K:Θ1) (H:Hp):V->Value->Prop where
 |cg:jD K H .cg (.type "NoneType")
 |bl (x:Bool):jD K H (.bl x) (.type "bool")
 |int (i:Int):jD K H (.int i) (.type "int")
 |str (x:Str):jD K H (.str x) (.type "str")
 |R3 (x:UInt64):jD K H (.R3 x) (.type "float")
 |lst {a:Addr}{xs:List V}(e:H a=some (.lst xs)):jD K H (.ref a) (.type "list")
 |iz {a:Addr}{o:Obj}{xs:List V}(e:H a=some (.iz o (.lst xs))):jD K H (.ref a) (.type "list")
 |tup {a:Addr}{xs:List V}(e:H a=some (.tup xs)):jD K H (.ref a) (.type "tuple")
 |dK {a:Addr}{kvs:List (dE×V)}(e:H a=some (.dK kvs)):jD K H (.ref a) (.type "dict")
 |dT {a:Addr}{kvs:List (List dE×V)}(e:H a=some (.dT kvs)):jD K H (.ref a) (.type "dict")
 |ins {a C dx:Addr}{fs:List (Str×V)}(e:H a=some (.ins C dx fs)) (cl:Cls K C) (ha:PySem.W.findIn K (.ref C) "__class__"=some (some (.builtin "object.__class__")))
   (hn:PySem.W.specialIn K (.builtin "object.__class__") "__get__"=some (some (.builtin "getset_descriptor.__get__"))) (Lh:PySem.W.takesIn K (.builtin "object.__class__")=some true)
   (hm:PySem.W.mroIn K C (.type "object")=some true):jD K H (.ref a) (.ref C)
def B0 (I:Inv X ae σ H s)(rx:RelV x u)(ty:jD X.K H x t)(e:PySem.W.kitOne X.K t c=some b)(h:∀tk,Q (.bool b) { s with toks:=tk }) :
  wpAny (model X.prog X.w) A (call (.builtin "isinstance") [u,c]) Q E s:=by
 cases ty with
 |cg=>cases (show u=Value.none from rx);exact PySem.W.kia_one PySem.W.kitx_none I.tG True.intro e (λz=>nomatch z) h
 |bl y=>cases (show u=Value.bool y from rx);exact PySem.W.kia_one PySem.W.kitx_bool I.tG True.intro e (λz=>nomatch z) h
 |int i=>let⟨t,q⟩:=(show ∃t,u=Value.int i t from rx);cases q;exact PySem.W.kia_one PySem.W.kitx_int I.tG True.intro e (λz=>nomatch z) h
 |str y=>let⟨t,q⟩:=(show ∃t,u=Value.str y t from rx);cases q;exact PySem.W.kia_one PySem.W.kitx_str I.tG True.intro e (λz=>nomatch z) h
 |R3 y=>let⟨t,q⟩:=(show ∃t,u=Value.float y t from rx);cases q;exact PySem.W.kia_one PySem.W.kitx_float I.tG True.intro e (λz=>nomatch z) h
 |@lst a xs ea =>
  cases (show u=Value.ref a from rx)
  let⟨_,_,n,_,h1⟩:=(show ca X.prog X.w H s.heap a (.lst xs) from I.cc a _ ea);exact PySem.W.kia_one PySem.W.kitx_list I.tG ⟨_,h1,()⟩ e (λz=>nomatch z) h
 |@iz a ob xs ea =>
  cases (show u=Value.ref a from rx)
  let⟨_,_,_,n,_,h1⟩:=(show ca X.prog X.w H s.heap a (.iz ob (.lst xs)) from I.cc a _ ea);exact PySem.W.kia_one PySem.W.kitx_list I.tG ⟨_,h1,()⟩ e (λz=>nomatch z) h
 |@tup a xs ea =>
  cases (show u=Value.ref a from rx)
  let⟨_,_,_,p⟩:=(show ca X.prog X.w H s.heap a (.tup xs) from I.cc a _ ea);let⟨o,h1,h2,_⟩:=p;exact PySem.W.kia_one PySem.W.kitx_tuple I.tG ⟨o,h1,h2⟩ e (λz=>nomatch z) h
 |@dK a kvs ea =>
  cases (show u=Value.ref a from rx)
  let⟨_,_,vs,_,p⟩:=(show ca X.prog X.w H s.heap a (.dK kvs) from I.cc a _ ea);let⟨o,es,ep,h1,h2,_⟩:=p;exact PySem.W.kia_one PySem.W.kitx_dict I.tG ⟨o,h1,h2.1⟩ e (λz=>nomatch z) h
 |@dT a kvs ea =>
  cases (show u=Value.ref a from rx)
  let⟨_,_,xs,_,o,es,ep,h1,h2,_⟩:=(show ca X.prog X.w H s.heap a (.dT kvs) from I.cc a _ ea);exact PySem.W.kia_one PySem.W.kitx_dict I.tG ⟨o,h1,h2.1⟩ e (λz=>nomatch z) h
 |@ins a C dx fs ea cl ha hn Lh hm =>
  cases (show u=Value.ref a from rx)
  let⟨mA,O,_⟩:=Kz I.cc ea;let⟨od,J,_⟩:=O.look;exact PySem.W.kia_one (PySem.W.kitx_own (cl.get _) cl.hd ha hn Lh hm) I.tG J e (λz=>nomatch z) h
end
structure db (k:Nat)(A:Around):Prop where
 hd:A.handled=none
 dp:A.depth+3*k+5<recursionLimit
 un:A.units+16*k+200<cLine
def db.mono (r:db k A)(h:j<=k):db j A:=⟨r.hd,by have:=r.dp;omega,by have:=r.un;omega⟩
def db.deeper (r:db (k+1) A)(env:Env):db k (A.deeper env) :=
 ⟨r.hd,by have:=r.dp;show A.depth+1+3*k+5<_;omega,by have:=r.un;show A.units+3+16*k+200<_;omega⟩
def db.depth (r:db k A):A.depth<recursionLimit:=by have:=r.dp;omega
def db.units (r:db k A):A.units+64<cLine:=by have:=r.un;omega
def db.OI (r:db k A):A.units<cLine:=by have:=r.un;omega
def Tt:TA:=λ_ H Q=>Q [] H
def Dz (ta:TE)(tr:TA):TA:=λσ H Q=>ta σ H λx H1=>tr σ H1 λxs H2=>Q (x::xs) H2
section
variable {X:Cx}{e:Expr}{es:Ξ2}{te:TE}{t:TA}{pos:Pos}
def bP:PA X [] Tt:=λ_ _ _ _ H Q I h=>Calls.spliced_nil ⟨[],H,I,.nil,h⟩
def aU (ha:PE X e te)(hr:PA X es t)(hs:starEach (e::es) X.env=(false,eval e X.env)::starEach es X.env:=by rfl):PA X (e::es) (Dz te t):=by
 intro pos ae s σ H Q I h;rw[hs];show wpAny _ _ (spliced ((false,eval e X.env)::backTo pos (starEach es X.env))) _ _ s;apply Calls.spliced_cons (bE (ha ae s σ H _ I h) λu s1 ⟨x,H1,I1,r1,q1⟩=>?_);exact bE (hr pos ae s1 σ H1 _ I1 q1) λus s2 ⟨xs,H2,I2,r2,q2⟩=>⟨x::xs,H2,I2,.cons r1 r2,q2⟩
def Tr (t:TA):TE:=λσ H Q=>t σ H λxs H1=>xs.length<=sizeLine/\∀p,H1 p=none->Q (.ref p) (aQ H1 p (.tup xs))
def aba (t:TA):TE:=λσ H Q=>t σ H λxs H1=>xs.length<=sizeLine/\∀p,H1 p=none->Q (.ref p) (aQ H1 p (.lst xs))
def gW {x1}(h:PA X es t):PE X (.Tuple es x1 pos) (Tr t):=by
 intro ae s σ H Q I hq;apply wpAny_Tuple_spliced (bE (h pos ae s σ H _ I hq) λus s1 ⟨xs,H1,I1,r,z,q⟩=>⟨by rw[<- r.length];exact z,?_⟩);let hf:H1 s1.heap.objs.size=none:=I1.cc.fresh (Ze _);apply⟨.ref s1.heap.objs.size,aQ H1 s1.heap.objs.size (.tup xs),I1.laid (t':=s1.toks) (λb u e=>Zm _ e) (Ze _) ?_,(),q _ hf⟩;exact⟨z,us,r,⟨_,Zz _ rfl,(),_,()⟩⟩
def rM (h:PA X es t):PE X (.List es pos) (aba t):=by
 intro ae s σ H Q I hq;apply wpAny_List_spliced (bE (h pos ae s σ H _ I hq) λus s1 ⟨xs,H1,I1,r,z,q⟩=>⟨by rw[<- r.length];exact z,?_⟩);let hf:H1 s1.heap.objs.size=none:=I1.cc.fresh (Ze _);apply⟨.ref s1.heap.objs.size,aQ H1 s1.heap.objs.size (.lst xs),I1.laid (t':=s1.toks) (λb u e=>Zm _ e) (Ze _) ?_,(),q _ hf⟩;exact⟨z,us,0,r,Zz _ rfl⟩
end
abbrev Sp:=List V->Hp->VK->XK->Prop
abbrev He:=List Env->Hp->Shared->XK->Value->Shared->Prop
structure IQ (P:Program)(w:World)(K:Θ1)(mg:Θ3)(base:Heap)(A:Around)(outer:List Env)(s:Shared)(H:Hp):Prop where
 frames:A.frames=some outer
 mod:Mod K mg base
 bs:∀b o,base.get? b=some o->s.heap.get? b=some o/\H b=none
 Lr:base.objs.size<=s.heap.objs.size
 ni:s.heap.FunFrames base outer
 R1:∀b∈C0 outer,H b=none
 cc:j1 P w H s.heap
 bare:AllBare s.gens
def CE (outer:List Env)(P:Program)(w:World)(H:Hp)(s:Shared)(Q:VK)(u:Value)(s':Shared):Prop :=
 ∃v H',s'.os=s.os/\AllBare s'.gens/\Un (C0 outer) [] H H' s.heap s'.heap/\j1 P w H' s'.heap/\RelV v u/\Q v H'
def CR (CX:He)(outer:List Env)(P:Program)(w:World)(H:Hp)(s:Shared)(Q:VK)(E:XK)(r:Result)(s':Shared):Prop :=
 match r with
 |.ok (.ret u)=>CE outer P w H s Q u s'
 |.ok _=>False
 |.error e=>CX outer H s E e s'
structure aI (P:Program)(w:World)(K:Θ1)(mg:Θ3)(base:Heap)(CX:He)(k:Nat)(f:Addr)(fd:FuncData)(ps:Δ2)(sp:Sp):Prop where
 len:∀vs H Q E,sp vs H Q E->vs.length=ps.length
 run:∀(A:Around) (outer:List Env) (s:Shared) (H:Hp) (args:Args) (us:Δ3) (vs:List V) (Q:VK) (E:XK),db k A->IQ P w K mg base A outer s H->BindsTo s fd args (ps.zip us)->bh vs us->sp vs H Q E ->
  codeAny (model P w) A (.call (.ref f) args) (CR CX outer P w H s Q E) s
def aI.imp {P:Program}{w:World}{K:Θ1}(F:aI P w K mg base CX k f fd ps sp)
  (h:∀vs H Q E,sp' vs H Q E->sp vs H Q E):aI P w K mg base CX k f fd ps sp' :=
 ⟨λvs H Q E q=>F.len vs H Q E (h _ _ _ _ q),λA outer s H args us vs Q E hr he hb hv hs=>F.run A outer s H args us vs Q E hr he hb hv (h _ _ _ _ hs)⟩
section
variable {X:Cx}{ae:Γ2}{σ:St}{H:Hp}{s s':Shared}
def Inv.abY (I:Inv X ae σ H s):IQ X.prog X.w X.K X.mg X.base X.A X.stack s H :=
 ⟨I.ok.frames,I.ok.mod,I.bs,Zl I.ok.Lr I.sz,I.stack,I.zF,I.cc,I.bare⟩
def Inv.after (I:Inv X ae σ H s)(h:CE X.stack X.prog X.w H s Q u s'):EP X ae σ Q u s':=by
 let⟨v,H',os,bare,un,cc,r,q⟩:=h;let⟨hh,g,d,t,os'⟩:=s';obtain rfl:os'=s.os:=os;exact⟨v,H',I.call (h':=hh) (g':=g) (d':=d) (t':=t) (ch:=[]) un cc bare (λb z=>absurd z (by simp)),r,q⟩
end
def Vd (sp:Sp)(Ha:List V)(E:XK)(t:TA):TE:=λσ H Q=>t σ H λvs H1=>sp (vs++Ha) H1 Q E
def Binds (K:Θ1)(fd:FuncData)(ps:Δ2)(ds:Δ3):Prop :=
 ∀(s:Shared) (us:Δ3),K.In s.heap->(us++ds).length=ps.length->BindsTo s fd ⟨us,[]⟩ (ps.zip (us++ds))
def Binds.all {K:Θ1}{fd:FuncData}(h:∀us:Δ3,us.length=ps.length->bindArgs fd ⟨us,[]⟩=pure (ps.zip us)):Binds K fd ps []:=λs us _ hl=>by
 rw[Ym] at hl ⊢;exact .of_eq (h us hl)
def xy (CX:He)(X:Cx)(E:XK):Prop:=∀(ae:Γ2) (σ:St) (H:Hp) (s:Shared) (e:Value) (s':Shared),Inv X ae σ H s->CX X.stack H s E e s'->X.xe e s'
section
variable {X:Cx}{CX:He}{k:Nat}{f C:Addr}{fd:FuncData}{ps:Δ2}{sp:Sp}{Ha:List V}{ds:Δ3}{E:XK}{x m:Str}{p pos rq:Pos}{e o:Expr}{es:Ξ2}{ta:TE}{t:TA}
def OR (F:aI X.prog X.w X.K X.mg X.base CX k f fd ps sp)(hr:db k X.A)(hb:Binds X.K fd ps ds)(hd:bh Ha ds)(hx:xy CX X E)
  (I:Inv X ae σ H s) (r:bh vs us) (h:sp (vs++Ha) H Q E):wpAny (model X.prog X.w) X.A (call (.ref f) us) (EP X ae σ Q) X.xe s:=by
 let r2:bh (vs++Ha) (us++ds):=r.append hd;let hl:(us++ds).length=ps.length:=by rw[<- r2.length];exact F.len _ _ _ _ h
 apply wpAny_call (codeAny_mono (F.run X.A X.stack s H ⟨us,[]⟩ (us++ds) (vs++Ha) Q E hr I.abY (hb s us I.tG hl) r2 h) λr s' hq=>?_);cases r with
 |error e=>exact hx ae σ H s e s' I hq
 |ok fl =>
  cases fl with
  |ret u=>exact I.after hq
  |next=>exact False.elim hq
  |brk=>exact False.elim hq
  |cont=>exact False.elim hq
def du (F:aI X.prog X.w X.K X.mg X.base CX k f fd ps sp)(hr:db k X.A)(hg:Gl X x)(hm:X.mg x=some (.ref f))(hk:PySem.W.keepIn X.K (.ref f)=true)(hb:Binds X.K fd ps ds)(hd:bh Ha ds)(hx:xy CX X E)
  (ha:PA X (e::es) t) (wq:(x == ("__debug__" : Str))=false:=by decide) (he:starEach (e::es) X.env=(false,eval e X.env)::starEach es X.env:=by rfl) (lW:(backTo pos (starEach es X.env)).any (·.1)=false:=by rfl) :
  PE X (.Call (.Name x p) (e::es) [] pos) (Vd sp Ha E t):=by
 intro ae s σ H Q I h;apply wpAny_Call_Name_kw (Ak I hg hm ?_ wq);apply PySem.W.callWith_K (h₀:=X.base) I.ok.mod.YS hk (bE (ha pos ae s σ H _ I h) λus s1 ⟨vs,H1,I1,r,q⟩=>⟨I1.tG,?_⟩) he lW;exact OR F hr hb hd hx I1 r q
end
section
variable {X:Cx}{CX:He}{k:Nat}{f C:Addr}{fd:FuncData}{ps ks:Δ2}{sp:Sp}{E:XK}{x m:Str}{p pos rq ajg:Pos}{e o:Expr}{es:Ξ2}{kws:List Keyword}{te ta:TE}{t tk:TA}{nm:Option Str}
variable {g:Δ3->Δ3->Δ3}{gV:List V->List V->List V}
end
structure ai (N P:Δ2)(sc:Scope):Prop where
 kind:sc.kind=.function
 co:sc.isCoroutine=false
 gen:sc.isGenerator=false
 nd:N.Nodup
 pre:N.take P.length=P
 par:∀x∈P,sc.names.lookup x=some .local\/sc.names.lookup x=some .cell
 P4:∀y∈sc.names,y.2≠.free
def cZ {N P:Δ2}{sc:Scope}(a:sc.kind=.function:=by rfl)(b:sc.isCoroutine=false:=by rfl)(c:sc.isGenerator=false:=by rfl)(d:N.Nodup:=by decide+kernel)(e:N.take P.length=P:=by rfl)(f:∀x∈P,sc.names.lookup x=some .local\/sc.names.lookup x=some .cell:=by decide+kernel)(g:∀y∈sc.names,y.2≠.free:=by decide+kernel):ai N P sc:=⟨a,b,c,d,e,f,g⟩
theorem qB {kindOf:Str->Option NameKind}{x:Str}:∀{binds:List (Str×Value)}{m:Θ3},(∀v,(x,v)∉binds)->bindL kindOf binds m x=m x
 |[],_,_=>rfl
 |(n,v)::r,m,h=>by
  unfold bindL;rw[qB λw hw=>h w (Zj _ hw)];split
  .have:x≠n:=by rintro rfl;exact h v Zi
   simp[this]
  .rfl
theorem qE {kindOf:Str->Option NameKind}{x:Str}:∀{binds:List (Str×Value)}{m:Θ3},(∀v,(x,v)∉binds)->bindC kindOf binds m x=m x
 |[],_,_=>rfl
 |(n,v)::r,m,h=>by
  unfold bindC;rw[qE λw hw=>h w (Zj _ hw)];split
  .rfl
  .have:x≠n:=by rintro rfl;exact h v Zi
   simp[this]
theorem qC {kindOf:Str->Option NameKind}{x:Str}:∀{P:Δ2}{vs:Δ3}{i:Nat}{m:Θ3},P.Nodup->P[i]?=some x->vs[i]?=some v->kindOf x=some .local ->
  bindL kindOf (P.zip vs) m x=some v
 |[],_,_,_,_,h,_,_=>by simp at h
 |_::_,[],_,_,_,_,h,_=>by simp at h
 |p::P,w::vs,0,m,nd,h1,h2,hk=>by
  simp at h1 h2;subst h1;subst h2;show bindL kindOf ((p,w)::P.zip vs) m p=_;unfold bindL;rw[qB λv hv=>(Yc.mp nd).1 (List.of_mem_zip hv).1,if_pos hk];simp
 |p::P,w::vs,i+1,m,nd,h1,h2,hk=>by
  show bindL kindOf ((p,w)::P.zip vs) m x=_;unfold bindL;exact qC (i:=i) (Yc.mp nd).2 (by simpa using h1) (by simpa using h2) hk
theorem qF {kindOf:Str->Option NameKind}{x:Str}:∀{P:Δ2}{vs:Δ3}{i:Nat}{m:Θ3},P.Nodup->P[i]?=some x->vs[i]?=some v->kindOf x≠some .local ->
  bindC kindOf (P.zip vs) m x=some v
 |[],_,_,_,_,h,_,_=>by simp at h
 |_::_,[],_,_,_,_,h,_=>by simp at h
 |p::P,w::vs,0,m,nd,h1,h2,hk=>by
  simp at h1 h2;subst h1;subst h2;show bindC kindOf ((p,w)::P.zip vs) m p=_;unfold bindC;rw[qE λv hv=>(Yc.mp nd).1 (List.of_mem_zip hv).1,if_neg hk];simp
 |p::P,w::vs,i+1,m,nd,h1,h2,hk=>by
  show bindC kindOf ((p,w)::P.zip vs) m x=_;unfold bindC;exact qF (i:=i) (Yc.mp nd).2 (by simpa using h1) (by simpa using h2) hk
def start (N:Δ2)(vs:List V):St:=vs.map some++List.replicate (N.length-vs.length) none
def wK (CX:He)(P:Program)(w:World)(K:Θ1)(mg:Θ3)(base:Heap)(N:Δ2)(qual:Str)(scope:Scope)(f:Addr)(cd:Value)(A:Around)(outer:List Env)(s:Shared)(H:Hp)(E:XK):Cx where
 prog:=P
 w:=w
 K:=K
 mg:=mg
 base:=base
 A:=A.deeper (envOfC qual scope s.heap.objs.size f cd)
 N:=N
 eZ:=s
 df:=H
 env:=envOfC qual scope s.heap.objs.size f cd
 outer:=outer
 stack:=envOfC qual scope s.heap.objs.size f cd::outer
 ex:=[]
 calm:=true
 fn:=λ_=>true
 pn:=[]
 xe:=λe s'=>wpAny (model P w) (A.deeper (envOfC qual scope s.heap.objs.size f cd)) (leaving (envOfC qual scope s.heap.objs.size f cd) e) (λ_ MV=>CX outer H s E e MV) (λe' MV=>CX outer H s E e' MV) s'
def vh {sc:Scope}{n:Nat}(h:sc.names.lookup x=some .cell):∃c,(cellsFrom n sc.names []).lookup x=some c:=by
 let q:=PySem.W.cellsFrom_some sc.names n [] (.inl h);exact Qd.mp q
def B2 {CX:He}{P:Program}{K:Θ1}
  (S:ai N ps scope) (hd:A.handled=none) (e0:IQ P w K mg base A outer s H) (hl:vs.length=ps.length) (r:bh vs us)
  (x:InCallC s s.heap.objs.size (bindL (envOfC qual scope s.heap.objs.size f cd).kindOf (ps.zip us) λ_=>none) (cellsFrom (s.heap.objs.size+1) scope.names []) (bindC (envOfC qual scope s.heap.objs.size f cd).kindOf (ps.zip us) λ_=>none) s1) :
  Inv (wK CX P w K mg base N qual scope f cd A outer s H E) [] (start N vs) H s1:=by
 let lW:ps.length<=N.length:=by have:=congrArg List.length S.pre;rw[Yz] at this;omega
 let⟨h1,tk,rfl,hk⟩:=x.done;let Sw:∀b:Addr,b∉(wK CX P w K mg base N qual scope f cd A outer s H E).ex:=λb z=>absurd (show b∈([]:List Addr) from z) (by simp)
 apply⟨⟨e0.mod,S.kind,(),(),Ze _,λy z c h1 h2=>?_,λy hy=>?_,λy c _ h=>?_,λ_=>hd,Around.frames_deeper e0.frames,.inr ⟨(),()⟩,λb z=>absurd z (Sw b),e0.bs,e0.Lr,λb _ _=>Sw b,λb z=>absurd z (Sw b),e0.ni,e0.R1⟩,
  rfl,e0.bare,Un.kept hk,⟨_,x.toInCall.ns,λi y v h1 h2 h3=>?_⟩,λy c h=>⟨_,x.cell y c h⟩,e0.cc.fresh (Ze _),λy c h=>?_,λp hp=>absurd (show p∈([]:Γ2) from hp) (by simp),e0.cc.kept hk,?_⟩
 .exact name_of_addr x.apart (Xh h1) (Xh h2)
 .let hy:scope.names.lookup y=some .cell\/scope.names.lookup y=some .free:=hy;rcases hy with hy |hy
  .exact vh hy
  .exact absurd rfl (S.P4 _ (Xh hy))
 .exact Nat.le_of_lt (x.above y c (Xh h))
 .let hi:i<vs.length:=by
   unfold start at h2;by_cases hi:i<vs.length
   .exact hi
   .rw[Yh (by simpa using hi)] at h2;rw[Y7] at h2;split at h2<;>cases h2
  let ha:vs[i]?=some v:=by
   unfold start at h2;rw[Zq (by simpa using hi),Zo] at h2;cases e:vs[i]? with
   |none=>rw[e] at h2;cases h2
   |some a=>rw[e] at h2;cases h2;rfl
  let⟨u,hu,rv⟩:=r.get ha;let hp:ps[i]?=some y:=by
   rw[<- S.pre,List.getElem?_take_of_lt ⋯];exact h1
  let YO:ps.Nodup:=by rw[<- S.pre];exact S.nd.sublist (List.take_sublist _ _)
  apply⟨u,rv,?_⟩;rcases S.par y (Z0 hp) with k |k
  .exact .inl ⟨k,qC YO hp hu k⟩
  .obtain⟨c,e⟩:=vh (n:=s.heap.objs.size+1) k;apply .inr ⟨.inl k,c,e,?_⟩;let q:=x.cell y c e;rw[qF YO hp hu (by show scope.names.lookup y≠_;rw[k];decide)] at q;exact q
 .exact e0.cc.fresh (Nat.le_of_lt (x.above y c (Xh h)))
 .unfold start;show _=N.length;rw[Zu,Zb,Qn];omega
def V4 {CX:He}{P:Program}{K:Θ1}{dV kV gK pm bD ct oc:Value}
  (lk:K.lookup f=some ⟨oc,od,.func (PySem.W.fnOf name qual params body scope dV kV gK pm an bD ct),RA⟩) (wt:PySem.W.codeIn K bD qual=true) (S:ai N ps scope)
  (len:∀vs H Q E,sp vs H Q E->vs.length=ps.length)
  (DR:∀(A:Around) (outer:List Env) (s:Shared) (H:Hp) (vs:List V) (Q:VK) (E:XK),db k (A.deeper (envOfC qual scope s.heap.objs.size f bD))->sp vs H Q E ->
   ∃t,jw (wK CX P w K mg base N qual scope f bD A outer s H E) body t/\t { nx:=λ_ H'=>Q .cg H',rt:=Q } (start N vs) H) :
  aI P w K mg base CX (k+1) f (PySem.W.fnOf name qual params body scope dV kV gK pm an bD ct) ps sp:=by
 apply⟨len,λA outer s H args us vs Q E hr e0 hb r GY=>?_⟩;let hl:=len _ _ _ _ GY;let KX:K.In s.heap:=e0.mod.YS.keeps λb o e=>(e0.bs b o e).1
 let lim:s.heap.NoLimit:=e0.mod.nolimit.keeps λb o e=>(e0.bs b o e).1
 let V1:∀y∈ps.zip us,scope.names.lookup y.1=some .local\/(scope.names.lookup y.1=some .cell/\((cellsFrom (s.heap.objs.size+1) scope.names []).lookup y.1).isSome=true):=λ⟨n,v⟩ hy=>by
  rcases S.par n (List.of_mem_zip hy).1 with q |q
  .exact .inl q
  .exact .inr ⟨q,PySem.W.cellsFrom_some _ _ _ (.inl q)⟩
 apply codeAny_call_function hr.depth (KX _ _ lk) rfl S.co S.gen rfl (PySem.W.codeRec_of KX wt) (hb _ _ _ _ ?_);apply wpAny_newFunctionEnv_cells S.kind V1 λenv he s1 x=>?_
 subst he;apply⟨lim.keeps x.toInCall.keep,codeAny_func ?_⟩;let⟨t,ht,hq⟩:=DR A outer s H vs Q E (hr.deeper _) GY;let I:Inv (wK CX P w K mg base N qual scope f bD A outer s H E) [] (start N vs) H s1:=B2 S hr.hd e0 hl r x;apply wpAny_mono (ht [] s1 (start N vs) H _ I hq) (λfl s' hs=>?_) λe s' hs=>hs
 let iD:∀{aS:St}{H':Hp}{v:V}{u:Value},Inv (wK CX P w K mg base N qual scope f bD A outer s H E) [] aS H' s'->RelV v u->Q v H'->CE outer P w H s Q u s' :=
  λ{aS H' v u} J rv q=>⟨v,H',J.os,J.bare,J.base,J.cc,rv,q⟩
 cases fl with
 |ret u =>
  let⟨v,aS,H',J,rv,q⟩:=hs;exact iD J rv q
 |next =>
  let⟨aS,H',J,q⟩:=hs;exact iD (v:=V.cg) (u:=Value.none) J rfl q
 |brk =>
  let⟨_,_,_,q⟩:=hs;exact False.elim q
 |cont =>
  let⟨_,_,_,q⟩:=hs;exact False.elim q
section
variable {X:Cx}{x:Str}{p pos:Pos}{e:Expr}{es:Ξ2}{t:TA}{id T:String}{r:List V->Hp->VK->Prop}
def YC (r:List V->Hp->VK->Prop)(t:TA):TE:=λσ H Q=>t σ H λvs H1=>r vs H1 Q
def lH (hc:cn X (.builtin id) r)(hg:Gl X x)(hm:X.mg x=none)(hv:bootBuiltins x=some (.builtin id))(ha:PA X (e::es) t)(hn:x ≠ "__name__":=by decide)(wq:(x == ("__debug__" : Str))=false:=by decide)
  (he:starEach (e::es) X.env=(false,eval e X.env)::starEach es X.env:=by rfl) (lW:(backTo pos (starEach es X.env)).any (·.1)=false:=by rfl):PE X (.Call (.Name x p) (e::es) [] pos) (YC r t):=by
 intro ae s σ H Q I h;apply wpAny_Call_Name_kw (gh I hg hm hv ?_ hn wq);exact PyProof.Rows.callWith_builtin1 (bE (ha pos ae s σ H _ I h) λus s1 ⟨vs,H1,I1,r1,q1⟩=>hc ae s1 σ H1 vs us Q I1 r1 q1) he lW
def RF (hc:cn X (.type T) r)(hg:Gl X x)(hm:X.mg x=none)(hv:bootBuiltins x=some (.type T))(ha:PA X (e::es) t)(hn:x ≠ "__name__":=by decide)(wq:(x == ("__debug__" : Str))=false:=by decide)
  (he:starEach (e::es) X.env=(false,eval e X.env)::starEach es X.env:=by rfl) (lW:(backTo pos (starEach es X.env)).any (·.1)=false:=by rfl):PE X (.Call (.Name x p) (e::es) [] pos) (YC r t):=by
 intro ae s σ H Q I h;apply wpAny_Call_Name_kw (gh I hg hm hv ?_ hn wq);exact PyProof.Rows.callWith_type1 (bE (ha pos ae s σ H _ I h) λus s1 ⟨vs,H1,I1,r1,q1⟩=>hc ae s1 σ H1 vs us Q I1 r1 q1) he lW
end
end L2
namespace HT
open PyProof.Rows
section
open PySem.SeqAt
open PySem.MeetsSeq PySem.MeetsSeq2 PySem.MeetsSeq3
end
section
variable {prog:Program}{w:World}{A:Around}{E:Θ2}{s:Shared}
def KN (ht:IsTup s.heap t vs.toArray)(hb:IsTup s.heap b ws.toArray)(hv:vs≠[])
  (h1:ws=[]->Q (.ref t) s) (h2:ws≠[]->Q (.ref s.heap.objs.size) { s with heap:=s.heap.push { cls:=.type "tuple",data:=.seq (vs++ws).toArray } })
  (hsz:vs.length+ws.length<=sizeLine):wpAny (model prog w) A (binaryOp .Add (.ref t) (.ref b)) Q E s:=by
 let⟨⟨cls,dd,data,sl⟩,ho,hc,n,hd⟩:=id ht;let⟨⟨ab3,W0,data2,cx⟩,Na,G5,n2,Hy⟩:=id hb;simp only at hc hd G5 Hy;subst hc hd G5 Hy;let e:vs.toArray++ws.toArray=(vs++ws).toArray:=by simp
 by_cases hw:ws=[]
 .exact concat_meets ⟨_,ho,()⟩ ⟨_,Na,()⟩ noFill_tuple_add seq_tuple_add PySem.F.slot_tuple_add PySem.F.entry_tuple_add (PySem.F.args_tuple_add_2 _ _)
   (tuple_addW1 t b vs.toArray ws.toArray n n2 dd W0 sl cx (by simpa using hv) (by simp[hw])) ⟨ho,Na,h1 hw⟩
 .apply concat_meets ⟨_,ho,()⟩ ⟨_,Na,()⟩ noFill_tuple_add seq_tuple_add PySem.F.slot_tuple_add PySem.F.entry_tuple_add (PySem.F.args_tuple_add_2 _ _)
   (tuple_addW2 t b vs.toArray ws.toArray n n2 dd W0 sl cx (by simpa using hv) (by simpa using hw) (by rw[Z5,Z5];exact hsz)) ⟨ho,Na,?_⟩
  rw[e];exact h2 hw
def oU (n d:Nat):Option Int->Nat
 |none=>d
 |some v=>if v<0 then (v+(n:Int)).toNat else min v.toNat n
def uK (n d:Nat):oU n d none=d:=rfl
end
end HT
namespace L2
open PySem.Spec PyProof.Rows
abbrev TO:=St->Hp->(Option Int->Hp->Prop)->Prop
def PO (X:Cx)(e:Option Expr)(t:TO):Prop :=
 ∀(ae:Γ2) (s:Shared) (σ:St) (H:Hp) (Q:Option Int->Hp->Prop),Inv X ae σ H s->t σ H Q ->
  wpAny (model X.prog X.w) X.A (evalPart e X.env) (λu s'=>∃o H',Inv X ae σ H' s'/\IsPart u o/\Q o H') X.xe s
def IX:TO:=λ_ H Q=>Q none H
def U8 (t:TE):TO:=λσ H Q=>t σ H λx H1=>∃i,x=.int i/\Q (some i) H1
section
variable {X:Cx}{e:Expr}{te:TE}{lo hi:Option Expr}{tl th:TO}{pos p2:Pos}
def JK:PO X none IX:=by
 intro ae s σ H Q I h;rw[evalPart_none];exact wpAny_pure ⟨none,H,I,.none,h⟩
def JJ (h:PE X e te):PO X (some e) (U8 te):=by
 intro ae s σ H Q I hw;rw[evalPart_some];apply bE (h ae s σ H _ I hw) λu s1 ⟨x,H1,I1,r1,q1⟩=>?_
 let⟨i,rfl,q⟩:=q1;let⟨t,rfl⟩:=r1;exact⟨some i,H1,I1,.int i t,q⟩
def SlR (X:Cx)(r:V->Option Int->Option Int->Hp->VK->Prop):Prop :=
 ∀(ae:Γ2) (s:Shared) (σ:St) (H:Hp) (x:V) (v vl vu:Value) (lo hi:Option Int) (sl:Addr) (Q:VK),Inv X ae σ H s->RelV x v->s.heap.IsSliceOf sl vl vu .none->IsPart vl lo->IsPart vu hi->r x lo hi H Q ->
  ∃T id,typeLookup (.type T) "__getitem__"=pure (some (.builtin id))/\s.TypeIs v T/\wpAny (model X.prog X.w) X.A (getItem v (.ref sl)) (EP X ae σ Q) X.xe s
def tSl (r:V->Option Int->Option Int->Hp->VK->Prop)(te:TE)(tl th:TO):TE:=λσ H Q=>te σ H λx H1=>tl σ H1 λl H2=>th σ H2 λu H3=>r x l u H3 Q
def Fz (hr:SlR X r)(he:PE X e te)(hl:PO X lo tl)(hu:PO X hi th):PE X (.Subscript e (.Slice lo hi none p2) pos) (tSl r te tl th):=by
 intro ae s σ H Q I h;apply Subscript_ (bE (he ae s σ H _ I h) λv s1 ⟨x,H1,I1,r1,q1⟩=>?_);apply wpAny_Slice (bE (hl ae s1 σ H1 _ I1 q1) λvl s2 ⟨l,H2,I2,pl,q2⟩=>bE (hu ae s2 σ H2 _ I2 q2) λvu s3 ⟨u,H3,I3,pu,q3⟩=>?_);rw[evalPart_none];apply wpAny_pure ?_;let I4:Inv X ae σ H3 { s3 with heap:=s3.heap.push { cls:=.type "slice",data:=.fields #[vl,vu,.none] } }:=I3.kept (t':=s3.toks) λb ob q=>Zm _ q
 let⟨T,id,hT,ht,hg⟩:=hr ae { s3 with heap:=s3.heap.push { cls:=.type "slice",data:=.fields #[vl,vu,.none] } } σ H3 x v vl vu l u s3.heap.objs.size Q I4 r1 (Heap.IsSliceOf.new ..) pl pu q3;show wpAny (model X.prog X.w) X.A (subscriptTail e (.Slice lo hi none p2) v (.ref s3.heap.objs.size)) (EP X ae σ Q) X.xe { s3 with heap:=s3.heap.push { cls:=.type "slice",data:=.fields #[vl,vu,.none] } };exact tail_any (ops:=[.ref s3.heap.objs.size,v]) ht hT hg (by with_unfolding_all rfl)
def Ba (xs:List V)(lo hi:Option Int):List V:=(xs.drop (HT.oU xs.length 0 lo)).take (HT.oU xs.length xs.length hi-HT.oU xs.length 0 lo)
def vL (xs:List V)(lo hi:Option Int):(Ba xs lo hi).length<=xs.length:=by
 unfold Ba;rw[Yz,Qo];omega
def Vz (K:Θ1):R2:=λx y H Q=>∃a b xs ys,x=.ref a/\y=.ref b/\aK K H a xs/\aK K H b ys/\xs≠[]/\xs.length+ys.length<=sizeLine /\
 (ys=[]->Q (.ref a) H)/\(ys≠[]->∀p,H p=none->Q (.ref p) (aQ H p (.tup (xs++ys))))
def bh.mD (r:bh xs us):us=[]↔xs=[]:=by
 cases r with
 |nil=>simp
 |cons _ _=>simp
def JP:eE X (binaryOp .Add) (Vz X.K):=by
 intro ae s σ H x y v u Q I rx ry h;let⟨a,b,xs,ys,rfl,rfl,ha,hb,hx,hz,q1,q2⟩:=h;cases rx;cases ry;let⟨its,r1,p1,_⟩:=I.tuple ha;let⟨Dj,r2,p2,_⟩:=I.tuple hb;apply HT.KN p1 p2 (λz=>hx (r1.mD.mp z)) (λz=>⟨.ref a,H,I,(),q1 (r2.mD.mp z)⟩) (λz=>?_) (by rw[<- r1.length,<- r2.length];exact hz);apply⟨.ref s.heap.objs.size,_,I.laid (t':=s.toks) (o:=.tup (xs++ys)) (λb ob q=>Zm _ q) (Ze _) ?_,(),q2 (λw=>z (r2.mD.mpr w)) _ (I.cc.fresh (Ze _))⟩;exact⟨by rw[Zu];exact hz,_,r1.append r2,IsTup.new _ _⟩
end
def tJ (n:Nat)(i:Int):Option Nat:=if 0<=i then (if i<n then some i.toNat else none) else if -(n:Int)<=i then some (i+n).toNat else none
def fY {α : Type}(xs:List α)(i:Int):Option α:=(tJ xs.length i).bind λj=>xs[j]?
def An (h:tJ n i=some j):seqIndex? i n=some j/\j<n/\-(n:Int)<=i/\i<n:=by
 unfold tJ at h;by_cases h0:0<=i
 .rw[if_pos h0] at h;by_cases h1:i<n
  .rw[if_pos h1] at h;let e:i.toNat=j:=Option.some.inj h;exact⟨by rw[seqIndex_of h0 h1,e],⋯,⋯,h1⟩
  .rw[if_neg h1] at h;cases h
 .rw[if_neg h0] at h;by_cases h1:-(n:Int)<=i
  .rw[if_pos h1] at h;let e:(i+n).toNat=j:=Option.some.inj h;exact⟨by rw[seqIndex_neg ⋯ h1,e],⋯,h1,⋯⟩
  .rw[if_neg h1] at h;cases h
def bT {α : Type}{xs:List α}{i:Int}{v:α}(h:fY xs i=some v):∃j,seqIndex? i xs.length=some j/\xs[j]?=some v/\j<xs.length/\-(xs.length:Int)<=i/\i<xs.length:=by
 unfold fY at h;cases e:tJ xs.length i with
 |none=>rw[e] at h;cases h
 |some j =>
  rw[e] at h;let⟨h1,h2,h3,h4⟩:=An e;exact⟨j,h1,h,h2,h3,h4⟩
def mU {α : Type}{xs:List α}{j:Nat}{v:α}(h:xs[j]?=some v):fY xs (j:Int)=some v:=by
 let hj:j<xs.length:=(Zf.mp h).1;let e:tJ xs.length (j:Int)=some j:=by
  unfold tJ;rw[if_pos ⋯,if_pos ⋯];simp
 unfold fY;rw[e];exact h
def sM (b:Expr):Prop:=∀o i,subscripted b false o i=operate [o,i] (getItem o i)
def A2 (X:Cx)(r:R2):Prop :=
 ∀(value slice:Expr) (ae:Γ2) (s:Shared) (σ:St) (H:Hp) (x y:V) (v u:Value) (Q:VK),Inv X ae σ H s->RelV x v->RelV y u->r x y H Q ->
  subscripted slice false v u=operate [v,u] (getItem v u)->wpAny (model X.prog X.w) X.A (subscriptTail value slice v u) (EP X ae σ Q) X.xe s
def W4 (X:Cx)(id:String)(r:V->List V->Hp->VK->Prop):Prop :=
 ∀(ae:Γ2) (s:Shared) (σ:St) (H:Hp) (x:V) (xs:List V) (v:Value) (us:Δ3) (Q:VK),Inv X ae σ H s->RelV x v->bh xs us->r x xs H Q ->
  wpAny (model X.prog X.w) X.A (call (.builtin id) (v::us)) (EP X ae σ Q) X.xe s
section
variable {X:Cx}{a b:Expr}{ta tb:TE}{pos:Pos}
def A2.or (h:A2 X r)(h':A2 X r'):A2 X (λx y H Q=>r x y H Q\/r' x y H Q):=by
 intro value slice ae s σ H x y v u Q I rx ry q hs;rcases q with q |q
 .exact h value slice ae s σ H x y v u Q I rx ry q hs
 .exact h' value slice ae s σ H x y v u Q I rx ry q hs
def d8 (hr:A2 X r)(ha:PE X a ta)(hb:PE X b tb)(hs:sM b):PE X (.Subscript a b pos) (MR r ta tb):=by
 intro ae s σ H Q I h;exact Subscript_ (Of ha hb I h λv u s2 x y H2 I2 rx ry q=>hr a b ae s2 σ H2 x y v u Q I2 rx ry q (hs _ _))
def HQ (K:Θ1):R2:=λx y H Q=>∃p xs i v,x=.ref p/\y=.int i/\bG K H p xs/\fY xs i=some v/\Q v H
def NR (K:Θ1):R2:=λx y H Q=>∃p xs i v,x=.ref p/\y=.int i/\aK K H p xs/\fY xs i=some v/\Q v H
def Am:A2 X (HQ X.K):=by
 intro value slice ae s σ H x y v u Q I rx ry h hs;let⟨p,xs,i,z,rfl,rfl,hq,he,q⟩:=h;cases rx;let⟨t,rfl⟩:=ry;let⟨its,r,pl,hz⟩:=I.list hq;let⟨j,h1,h2,h3,h4,h5⟩:=bT he;let⟨w,ew,AN⟩:=r.get h2;let hl:=r.length;let hn:=jS;let iD:EP X ae σ Q w s:=⟨z,H,I,AN,q⟩;by_cases h0:0<=i
 .let hj:i.toNat=j:=by
   rw[seqIndex_of h0 h5] at h1;exact Option.some.inj h1
  exact item_listR pl.isList h0 ⋯ (by rw[hj];simpa using ew) iD hs
 .let hj:(i+(its.toArray.size:Int)).toNat=j:=by
   rw[seqIndex_neg ⋯ h4] at h1;rw[Z5,<- hl];exact Option.some.inj h1
  exact subscriptTail_builtinR (x:=w) pl.isList.typeIs slot_list_getitem.lookup
   (wpAny_getItem_list_neg (Q:=λr s'=>r=w/\EP X ae σ Q r s') pl.isList ⋯ (by rw[Z5]<;>omega) ⋯ (by rw[hj];simpa using ew) ⟨(),iD⟩) hs
def QP:A2 X (NR X.K):=by
 intro value slice ae s σ H x y v u Q I rx ry h hs;let⟨p,xs,i,z,rfl,rfl,hq,he,q⟩:=h;cases rx;let⟨t,rfl⟩:=ry;let⟨its,r,pl,hz⟩:=I.tuple hq;let⟨j,h1,h2,h3,h4,h5⟩:=bT he;let⟨w,ew,AN⟩:=r.get h2;let hl:=r.length;let hn:=jS;let iD:EP X ae σ Q w s:=⟨z,H,I,AN,q⟩;exact subscriptTail_builtinR (x:=w) pl.typeIs slot_tuple_getitem.lookup
  (getItem_tuple (j:=j) (Q:=λr s'=>r=w/\EP X ae σ Q r s') pl ⋯ ⋯ (by rw[Z5,<- hl];exact h1) (by simpa using ew) ⟨(),iD⟩) hs
def xY (its:Δ3)(n j:Nat)(u:Value):Obj.mapSeq (·.setIfInBounds j u) { cls:=.type "list",data:=.seq its.toArray n }={ cls:=.type "list",data:=.seq (its.set j u).toArray n }:=by
 simp[Obj.mapSeq]
def Inv.lst {ae:Γ2}{σ:St}{H:Hp}{s:Shared}{p:Addr}{xs:List V}(I:Inv X ae σ H s)(h:H p=some (.lst xs)) :
  ∃(its:Δ3) (n:Nat),bh xs its/\s.heap.get? p=some { cls:=.type "list",data:=.seq its.toArray n }/\xs.length<=sizeLine:=by
 let⟨z,its,n,r,e⟩:=I.cc p _ h;exact⟨its,n,r,e,z⟩
def Inv.QA {ae:Γ2}{σ:St}{its its':Δ3}(I:Inv X ae σ H s)(h:H p=some (.lst xs))
  (ho:s.heap.get? p=some { cls:=.type "list",data:=.seq its.toArray n }) (hf:f { cls:=.type "list",data:=.seq its.toArray n }={ cls:=.type "list",data:=.seq its'.toArray n' }) (r:bh ys its') (hz:ys.length<=sizeLine) (t:Nat) :
  Inv X ae σ (aQ H p (.lst ys)) { s with heap:=s.heap.update p f,toks:=t }:=by
 let e:(s.heap.update p f).get? p=some { cls:=.type "list",data:=.seq its'.toArray n' }:=by
  rw[Qm f ho (by rw[hf]<;>rfl),hf]
 apply I.write (x:=p) (e:=p) (by rw[h];trivial) (.inl rfl) (λb u hb q=>(Xq _ _ (Ne.symm hb)).trans q) ⟨_,e⟩ ?_;exact⟨hz,its',n',r,e⟩
def Vx:V->V->V->Hp->(Hp->Prop)->Prop:=λo i v H Q=>∃p xs k j,o=.ref p/\i=.int k/\H p=some (.lst xs)/\tJ xs.length k=some j/\Q (aQ H p (.lst (xs.set j v)))
def ky:Oj X Vx:=by
 intro ae s σ H o i v ov iv u Q I ro ri rv h;let⟨p,xs,k,j,rfl,rfl,hp,hj,q⟩:=h;cases ro;let⟨t,rfl⟩:=ri;let⟨its,n,r,ho,hz⟩:=I.lst hp;let⟨h1,h2,h3,h4⟩:=An hj;let hl:=r.length;let hn:=jS;let I':Inv X ae σ (aQ H p (.lst (xs.set j v))) { s with heap:=s.heap.update p (Obj.mapSeq (·.setIfInBounds j u)) } :=
  I.QA hp ho (xY its n j u) (r.set rv j) (by rw[Yo];exact hz) s.toks
 by_cases h0:0<=k
 .let hk:k.toNat=j:=by
   rw[seqIndex_of h0 h4] at h1;exact Option.some.inj h1
  exact PySem.W.ki_setAt ho h0 ⋯ (by rw[Z5,<- hl];exact h4) (by rw[hk];exact⟨_,I',q⟩)
 .let hk:(k+(its.toArray.size:Int)).toNat=j:=by
   rw[seqIndex_neg ⋯ h3] at h1;rw[Z5,<- hl];exact Option.some.inj h1
  exact PySem.W.ki_setBack ho ⋯ (by rw[Z5,<- hl];exact h3) ⋯ (by rw[hk];exact⟨_,I',q⟩)
def sN (lo hi:Option Int)(n:Nat):(sliceBounds lo hi none n).1=((HT.oU n 0 lo:Nat):Int)/\(sliceBounds lo hi none n).2.1=((HT.oU n n hi:Nat):Int)/\(sliceBounds lo hi none n).2.2=1:=by
 apply⟨?_,?_,()⟩
 .cases lo with
  |none=>simp[sliceBounds,HT.oU]
  |some i =>
   simp only[sliceBounds,HT.oU,Option.getD_none,show(1:Int)>0 by decide,if_true];by_cases h:i<0
   .simp only[h,if_true]<;>omega
   .simp only[h,if_false]<;>omega
 .cases hi with
  |none=>simp[sliceBounds,HT.oU]
  |some i =>
   simp only[sliceBounds,HT.oU,Option.getD_none,show(1:Int)>0 by decide,if_true];by_cases h:i<0
   .simp only[h,if_true]<;>omega
   .simp only[h,if_false]<;>omega
def pf (its:Δ3)(lo hi:Option Int):slicePick its.toArray lo hi none=((its.drop (HT.oU its.length 0 lo)).take (HT.oU its.length its.length hi-HT.oU its.length 0 lo)).toArray:=by
 let⟨h1,h2,h3⟩:=sN lo hi its.toArray.size;unfold slicePick;rw[h1,h2,h3];simp only[sliceRange_one,pick_run,Z5]<;>rfl
def TW (K:Θ1):V->Option Int->Option Int->Hp->VK->Prop:=λx lo hi H Q=>∃a xs,x=.ref a/\bG K H a xs/\∀p,H p=none->Q (.ref p) (aQ H p (.lst (Ba xs lo hi)))
def Jg:SlR X (TW X.K):=by
 intro ae s σ H x v vl vu lo hi sl Q I rx hs pl pu h;let⟨a,xs,rfl,hx,q⟩:=h;cases rx;let⟨its,r,ht,hz⟩:=I.list hx;let cF:=r.length;apply⟨"list",_,slot_list_getitem.lookup,ht.isList.typeIs,?_⟩;apply wpAny_getItem_list_slice ht.isList hs pl pu .none (by simp) ?_ (by rw[Z5]<;>omega);rw[pf,<- cF];apply⟨.ref s.heap.objs.size,_,I.laid (t':=s.toks) (o:=.lst (Ba xs lo hi)) (λb ob q=>Zm _ q) (Ze _) ?_,(),q _ (I.cc.fresh (Ze _))⟩;exact⟨Zl (vL xs lo hi) hz,_,0,(r.drop (HT.oU xs.length 0 lo)).take (HT.oU xs.length xs.length hi-HT.oU xs.length 0 lo),Zz _ rfl⟩
def iK:V->Bool
 |.cg=>true
 |.bl _=>true
 |.int _=>true
 |.str _=>true
 |_=>false
def G9:V->V->Bool
 |.cg,.cg=>true
 |.bl a,.bl b=>a == b
 |.bl a,.int b=>(if a then 1 else 0) == b
 |.int a,.bl b=>a == (if b then 1 else 0)
 |.int a,.int b=>a == b
 |.str a,.str b=>a == b
 |_,_=>false
def QW (ry:RelV y u)(rx:RelV x v)(fy:iK y=true)(fx:iK x=true):SeqAt.EqAt A s u v (G9 y x):=by
 cases y with
 |cg =>
  cases ry
  cases x with
  |cg=>cases rx;exact SeqAt.EqAt.same _
  |bl b=>cases rx;exact SeqAt.EqAt.none_bool b
  |int b=>let⟨t,rfl⟩:=rx;exact SeqAt.EqAt.none_int b t
  |str b=>let⟨t,rfl⟩:=rx;exact SeqAt.EqAt.none_str b t
  |_=>exact absurd (show false=true from fx) Z3
 |bl a =>
  cases ry
  cases x with
  |cg=>cases rx;exact SeqAt.EqAt.bool_none a
  |bl b=>cases rx;exact SeqAt.EqAt.bool_bool a b
  |int b=>let⟨t,rfl⟩:=rx;exact SeqAt.EqAt.bool_int a b t
  |str b=>let⟨t,rfl⟩:=rx;exact SeqAt.EqAt.bool_str a b t
  |_=>exact absurd (show false=true from fx) Z3
 |int a =>
  let⟨t',rfl⟩:=ry;cases x with
  |cg=>cases rx;exact SeqAt.EqAt.int_none a t'
  |bl b=>cases rx;exact SeqAt.EqAt.int_bool a t' b
  |int b=>let⟨t,rfl⟩:=rx;exact SeqAt.EqAt.int_int a t' b t
  |str b=>let⟨t,rfl⟩:=rx;exact SeqAt.EqAt.int_str a t' b t
  |_=>exact absurd (show false=true from fx) Z3
 |str a =>
  let⟨t',rfl⟩:=ry;cases x with
  |cg=>cases rx;exact SeqAt.EqAt.str_none a t'
  |bl b=>cases rx;exact SeqAt.EqAt.str_bool a t' b
  |int b=>let⟨t,rfl⟩:=rx;exact SeqAt.EqAt.str_int a t' b t
  |str b=>let⟨t,rfl⟩:=rx;exact SeqAt.EqAt.str_str a t' b t
  |_=>exact absurd (show false=true from fx) Z3
 |_=>exact absurd (show false=true from fy) Z3
def wu (x:V)(u:Value):Bool:=match u with
 |.none=>G9 .cg x
 |.bool b=>G9 (.bl b) x
 |.int i _=>G9 (.int i) x
 |.str z _=>G9 (.str z) x
 |_=>false
def EO (r:RelV y u)(f:iK y=true):wu x u=G9 y x:=by
 cases y with
 |cg=>cases r;rfl
 |bl b=>cases r;rfl
 |int i=>let⟨t,rfl⟩:=r;rfl
 |str z=>let⟨t,rfl⟩:=r;rfl
 |_=>exact absurd (show false=true from f) Z3
theorem kq:∀{xs:List V}{us:Δ3},bh xs us->xs.all iK=true->us.any (wu x)=xs.any λy=>G9 y x
 |_,_,.nil,_=>rfl
 |y::xs,u::us,.cons r t,f=>by
  rw[Xy,Z8] at f;rw[Xs,Xs,EO r f.1,kq t f.2]
theorem iT (rx:RelV x v)(fx:iK x=true):∀{xs:List V}{us:Δ3},bh xs us->xs.all iK=true->∀u∈us,SeqAt.EqAt A s u v (wu x u)
 |_,_,.nil,_=>λu hu=>by cases hu
 |y::xs,u::us,.cons r t,f=>λu' hu=>by
  rw[Xy,Z8] at f;rcases Zk.mp hu with rfl |hu
  .rw[EO r f.1];exact QW r rx f.1 fx
  .exact iT rx fx t f.2 u' hu
def Hq (x:V)(xs:List V):Bool:=xs.any λy=>G9 y x
def Sl (K:Θ1)(neg:Bool):R2:=λx y H Q=>∃p xs,y=.ref p/\(bG K H p xs\/aK K H p xs)/\iK x=true/\xs.all iK=true/\Q (.bl (if neg then !Hq x xs else Hq x xs)) H
def BH:eE X (compareOp .In) (Sl X.K false):=by
 intro ae s σ H x y v u Q I rx ry h;let⟨p,xs,rfl,hq,fx,fs,q⟩:=h;cases ry;rcases hq with hq |hq
 .obtain⟨its,r,pl,hz⟩:=I.list hq;apply SeqAt.in_listAt (wu x) pl.isList (λw hw=>iT rx fx r fs w (by simpa using hw)) ⟨.bl _,H,I,(),?_⟩;rw[show its.toArray.any (wu x)=its.any (wu x) by simp,kq r fs];exact q
 .obtain⟨its,r,pl,hz⟩:=I.tuple hq;apply SeqAt.in_tupleAt (wu x) pl (λw hw=>iT rx fx r fs w (by simpa using hw)) ⟨.bl _,H,I,(),?_⟩;rw[show its.toArray.any (wu x)=its.any (wu x) by simp,kq r fs];exact q
def sP:eE X (compareOp .NotIn) (Sl X.K true):=by
 intro ae s σ H x y v u Q I rx ry h;let⟨p,xs,rfl,hq,fx,fs,q⟩:=h;cases ry;rcases hq with hq |hq
 .obtain⟨its,r,pl,hz⟩:=I.list hq;apply SeqAt.notIn_listAt (wu x) pl.isList (λw hw=>iT rx fx r fs w (by simpa using hw)) ⟨.bl _,H,I,(),?_⟩;rw[show its.toArray.any (wu x)=its.any (wu x) by simp,kq r fs];exact q
 .obtain⟨its,r,pl,hz⟩:=I.tuple hq;apply SeqAt.notIn_tupleAt (wu x) pl (λw hw=>iT rx fx r fs w (by simpa using hw)) ⟨.bl _,H,I,(),?_⟩;rw[show its.toArray.any (wu x)=its.any (wu x) by simp,kq r fs];exact q
def io:cn X (.builtin "len") (λxs H Q=>∃p ys,xs=[.ref p]/\(bG X.K H p ys\/aK X.K H p ys)/\Q (.int ys.length) H):=by
 intro ae s σ H xs us Q I r h;let⟨p,ys,rfl,hq,q⟩:=h;let⟨u,rfl,rx⟩:=vals1 r;cases rx;let hn:=jS;rcases hq with hq |hq
 .obtain⟨its,r',pl,hz⟩:=I.list hq;let cF:=r'.length;exact Calls.call_len_list pl.isList (by simp only[Z5]<;>omega) ⟨.int ys.length,H,I.tok _,⟨s.toks+1,by rw[Z5,cF]⟩,q⟩
 .obtain⟨its,r',pl,hz⟩:=I.tuple hq;let cF:=r'.length;exact len_tuple pl (by simp only[Z5]<;>omega) ⟨.int ys.length,H,I.tok _,⟨s.toks+1,by rw[Z5,cF]⟩,q⟩
def sW:cn X (.type "list") (λxs H Q=>∃p ys,xs=[.ref p]/\(bG X.K H p ys\/aK X.K H p ys)/\∀l,H l=none->Q (.ref l) (aQ H l (.lst ys))):=by
 intro ae s σ H xs us Q I r h;let⟨p,ys,rfl,hq,q⟩:=h;let⟨u,rfl,rx⟩:=vals1 r;cases rx;let iD:∀(its:Δ3),bh ys its->ys.length<=sizeLine->∀(h':Heap) (c':Nat),(∀b o',s.heap.get? b=some o'->h'.get? b=some o') ->
   h'.get? s.heap.objs.size=some { cls:=.type "list",dict:=none,data:=.seq its.toArray c',slots:=#[] }->EP X ae σ Q (.ref s.heap.objs.size) { s with heap:=h' }:=λits r' hz h' c' kp e =>
  ⟨.ref s.heap.objs.size,_,I.laid (t':=s.toks) kp (Ze _) (show ca X.prog X.w _ h' _ (.lst ys) from⟨hz,its,c',r',e⟩),(),q _ (I.cc.fresh (Ze _))⟩
 rcases hq with hq |hq
 .obtain⟨its,r',pl,hz⟩:=I.list hq;let cF:=r'.length;let⟨o,ho,hc,n,hd⟩:=pl.isList;exact call_list_seq p (.inl rfl) ho hc hd (λh' c' kp e=>iD its r' hz h' c' kp e) (by simp only[Z5]<;>omega)
 .obtain⟨its,r',pl,hz⟩:=I.tuple hq;let cF:=r'.length;let⟨o,ho,hc,n,hd⟩:=pl;exact call_list_seq p (.inr rfl) ho hc hd (λh' c' kp e=>iD its r' hz h' c' kp e) (by simp only[Z5]<;>omega)
def pz:cn X (.type "tuple") (λxs H Q=>∃p ys,xs=[.ref p]/\((bG X.K H p ys/\∀l,H l=none->Q (.ref l) (aQ H l (.tup ys)))\/(aK X.K H p ys/\Q (.ref p) H))):=by
 intro ae s σ H xs us Q I r h;let⟨p,ys,rfl,h⟩:=h;let⟨u,rfl,rx⟩:=vals1 r;cases rx;rcases h with ⟨hq,q⟩ |⟨hq,q⟩
 .obtain⟨its,r',pl,hz⟩:=I.list hq;let cF:=r'.length;apply call_tuple_list pl.isList (λh' kp=>?_) (by simp only[Z5]<;>omega);let I1:Inv X ae σ H { s with heap:=h' }:=I.kept (t':=s.toks) kp;let I2:Inv X ae σ (aQ H h'.objs.size (.tup ys)) { s with heap:=h'.push { cls:=.type "tuple",data:=.seq its.toArray } } :=
   I1.laid (t':=s.toks) (λb o e=>Zm _ e) (Ze _) (show ca X.prog X.w _ _ _ (.tup ys) from⟨hz,its,r',IsTup.new _ _⟩)
  exact⟨.ref h'.objs.size,_,I2,(),q _ (I1.cc.fresh (Ze _))⟩
 .obtain⟨its,r',pl,hz⟩:=I.tuple hq;exact call_tuple_same pl ⟨.ref p,H,I,(),q⟩
def Rt (K:Θ1)(T:String)(x:V)(H:Hp):Prop:=match x with
 |.str _=>T="str"
 |.int _=>T="int"
 |.ref p=>(T="list"/\∃xs,bG K H p xs)\/(T="tuple"/\∃o,K.lookup p=some o/\o.cls=.type "tuple"/\o.dict=none) \/
   (T="dict"/\((∃kvs,H p=some (.dK kvs))\/∃kvs,H p=some (.dT kvs)))\/(T="set"/\∃S n,H p=some (.set S n))
 |_=>False
def D5 (I:Inv X ae σ H s)(r:RelV x v)(ty:Rt X.K T x H) :
  s.TypeIs v T/\∀a,v=.ref a->∃ob,s.heap.get? a=some ob/\ob.dict=none:=by
 cases x with
 |str z =>
  let⟨t,rfl⟩:=r;cases (show T="str" from ty);exact⟨typeIs_str s z t,λ_ e=>nomatch e⟩
 |int i =>
  let⟨t,rfl⟩:=r;cases (show T="int" from ty);exact⟨typeIs_int s i t,λ_ e=>nomatch e⟩
 |ref p =>
  cases r
  rcases ty with ⟨rfl,xs,hq⟩ |⟨rfl,o,hk,hc,hd⟩ |⟨rfl,hk⟩ |⟨rfl,S,n,hk⟩
  .obtain⟨its,_,pl,_⟩:=I.list hq;apply⟨pl.isList.typeIs,λa e=>?_⟩;cases e;let⟨o,n,e,c,hd,_⟩:=pl;exact⟨o,e,hd⟩
  .apply⟨⟨o,I.tG p o hk,hc⟩,λa e=>?_⟩;cases e;exact⟨o,I.tG _ o hk,hd⟩
  .let z:∃o,s.heap.get? p=some o/\o.ExactDict:=by
    rcases hk with ⟨kvs,hk⟩ |⟨kvs,hk⟩
    .obtain⟨_,_,_,_,o,_,_,e,ex,_⟩:=I.cc p _ hk;exact⟨o,e,ex⟩
    .obtain⟨_,_,_,_,o,_,_,e,ex,_⟩:=I.cc p _ hk;exact⟨o,e,ex⟩
   let⟨o,e,ex⟩:=z;apply⟨⟨o,e,ex.1⟩,λa e2=>?_⟩;cases e2;exact⟨o,e,ex.2.1⟩
  .obtain⟨o,_,_,_,e,ex,_⟩:=I.cc p _ hk;apply⟨⟨o,e,ex.1⟩,λa e2=>?_⟩;cases e2;exact⟨o,e,ex.2.1⟩
 |_=>exact False.elim ty
def abd (K:Θ1)(T:String)(r:V->List V->Hp->VK->Prop)(to:TE):TE:=λσ H Q=>to σ H λx H1=>Rt K T x H1/\r x [] H1 Q
def tBM (K:Θ1)(T:String)(r:V->List V->Hp->VK->Prop)(to:TE)(t:TA):TE:=λσ H Q=>to σ H λx H1=>Rt K T x H1/\t σ H1 λxs H2=>r x xs H2 Q
variable {o e:Expr}{es:Ξ2}{to:TE}{t:TA}{name:Str}{rq jO:Pos}{T id:String}{r:V->List V->Hp->VK->Prop}
def Em (pa:PlainAttrs T)(slot:Slot T name id)(Ht:typeOf (.builtin id)=pure (.type "method_descriptor"))(hm:W4 X id r)(ho:PE X o to)
  (ut:attributeBase o name X.env (eval o X.env)=eval o X.env:=by rfl) (ur:(rq.endLine == jO.line)=true:=by rfl):PE X (.Call (.Attribute o name rq) [] [] jO) (abd X.K T r to):=by
 intro ae s σ H Q I h;apply wpAny_Call_method0_late ut ur (bE (ho ae s σ H _ I h) λv s1 ⟨x,H1,I1,r1,ty,q1⟩=>?_);let⟨h1,h2⟩:=D5 I1 r1 ty;exact⟨T,id,pa,slot,Ht,h1,h2,Calls.callWith_builtin rfl (PySem.evalArgs_none (hm ae s1 σ H1 x [] v [] Q I1 r1 .nil q1))⟩
end
def MtM (X:Cx)(id:String)(r:V->List V->Hp->VK->Prop):Prop :=
 ∀(ae:Γ2) (s:Shared) (σ:St) (H:Hp) (x:V) (xs:List V) (v:Value) (us:Δ3) (Q:VK),Inv X ae σ H s->RelV x v->bh xs us->r x xs H Q ->
  wpAny (model X.prog X.w) X.A (call (.builtin id) (v::us)) (EP X ae σ Q) X.xe s
theorem bh.one:∀{x:V}{us:Δ3},bh [x] us->∃u,us=[u]/\RelV x u
 |_,_,.cons r .nil=>⟨_,(),r⟩
section
variable {X:Cx}{ae:Γ2}{σ:St}{H:Hp}{s:Shared}{l b:Addr}{xs ys zs:List V}
def Inv.abA {its its':Δ3}{n:Nat}(I:Inv X ae σ H s)(hH:H l=some (.lst xs))
  (e:s.heap.get? l=some { cls:=.type "list",data:=.seq its.toArray n }) (hf:f its.toArray=its'.toArray) (hv:bh ys its') (hz:ys.length<=sizeLine) :
  Inv X ae σ (aQ H l (.lst ys)) { s with heap:=s.heap.update l (Obj.mapSeq f),toks:=t' }:=by
 let q:=PySem.IsL.update e f;rw[hf] at q;apply I.write (x:=l) (e:=l) (by rw[hH];exact trivial) (.inl rfl) (λb' u hb hu=>(Xq s.heap (Obj.mapSeq f) (Ne.symm hb)).trans hu) ⟨_,q⟩ ?_;exact⟨hz,its',_,hv,q⟩
def Inv.NZ (I:Inv X ae σ H s)(hv:bh ys its)(hz:ys.length<=sizeLine) :
  Inv X ae σ (aQ H s.heap.objs.size (.lst ys)) { s with heap:=s.heap.push { cls:=.type "list",data:=.seq its.toArray },toks:=t' } :=
 I.laid (λ_ _ q=>Zm _ q) (Ze _) ⟨hz,its,0,hv,Zz _ rfl⟩
def Inv.fresh (I:Inv X ae σ H s):H s.heap.objs.size=none:=I.cc.fresh (Ze _)
def Inv.NY (I:Inv X ae σ H s)(hH:H l=some (.lst xs)):xs.length<=sizeLine/\∃(its:Δ3) (n:Nat),bh xs its/\xs.length=its.length/\s.heap.get? l=some { cls:=.type "list",data:=.seq its.toArray n }:=by
 let⟨z,its,n,r,e⟩:=I.cc l _ hH;exact⟨z,its,n,r,r.length,e⟩
end
section
variable {X:Cx}
def JD:V->List V->Hp->VK->Prop:=λx vs H Q=>∃l xs y,x=.ref l/\vs=[y]/\H l=some (.lst xs)/\xs.length<sizeLine/\Q .cg (aQ H l (.lst (xs++[y])))
def ql:MtM X "list.append" JD:=by
 intro ae s σ H x vs v us Q I rx rv h;let⟨l,xs,y,rfl,rfl,hH,hz,q⟩:=h;cases rx;let⟨u,rfl,ru⟩:=rv.one;let⟨z,its,n,r,hl,e⟩:=I.NY hH;apply call_meets F.slot_list_append ⟨_,e,()⟩ F.entry_list_append (F.args_list_append_2 _ _) (PySem.list_append l its.toArray n u (by rw[Z5];omega)) ⟨e,?_⟩;apply⟨.cg,_,I.abA (its':=its++[u]) hH e (by simp) (r.append (.cons ru .nil)) ?_,(),q⟩;rw[Zu,Qw];omega
def TX:R2:=λx y H Q=>∃l b xs zs,x=.ref l/\y=.ref b/\H l=some (.lst xs)/\H b=some (.lst zs)/\xs.length+zs.length<=sizeLine/\∀p,H p=none->Q (.ref p) (aQ H p (.lst (xs++zs)))
def PB:eE X (binaryOp .Add) TX:=by
 intro ae s σ H x y v u Q I rx ry h;let⟨l,b,xs,zs,rfl,rfl,hH,hB,hz,q⟩:=h;cases rx;cases ry;let⟨z,its,n,r,hl,e⟩:=I.NY hH;let⟨z2,Dj,n2,r2,SW,e2⟩:=I.NY hB;apply PySem.P.add_list e e2 ?_ (by rw[Z5,Z5];omega);let ea:its.toArray++Dj.toArray=(its++Dj).toArray:=by simp
 rw[ea];exact⟨.ref _,_,I.NZ (t':=s.toks) (r.append r2) (by rw[Zu];omega),(),q _ I.fresh⟩
end
section
variable {prog:Program}{w:World}{A:Around}{E:Θ2}{s:Shared}
end
section
variable {X:Cx}
end
end L2
namespace Att
open PySem.W PySem.Calls PyProof.Rows
def l5:∀(ns:Γ3) (vs:Δ3),WellAll P h vs (ns.map WData.int)->IntsAre vs ns:=by
 intro ns;induction ns with
 |nil =>
  intro vs w;rw[List.map_nil] at w;cases w;exact .nil
 |cons n ns ih =>
  intro vs w;rw[Zn] at w;cases w with
  |cons a b =>
   cases a
   exact .cons _ _ (ih _ b)
def Bv {l:OpenLaw}{n:Nat}(hn:l.most=some n)
  (Is:l.row.toRowW.claim.pre args=true) (GX:WellAll P h Tp args) :
  ∃a vs ns,Tp=[Value.ref a]/\args=[WData.list (ns.map WData.int)]/\h.get? a=some { cls:=.type "list",data:=.seq vs.toArray }/\IntsAre vs ns/\ns.length<=n:=by
 let yD:WShape.hasAll [] args [.list .int]=true:=(pre_splitW Is).1;let hc:l.pre.holds [] { args:=args }=true:=(pre_splitW Is).2;let⟨d,r,rfl,h1,h2⟩:=hasAllW_cons yD;obtain rfl:=hasAllW_nil h2;let⟨xs,rfl,h3⟩:=hasW_list h1;let⟨ns,rfl⟩:=items_int h3;let cF:ns.length<=n:=by
  unfold OpenLaw.pre at hc;let h4:(WTm.not (.lt (.lit (.int (n:Int))) (.len (.arg 0)))).holds [] { args:=[.list (ns.map .int)] }=true:=by
   let h4:=(holds_andW hc).1;rw[hn] at h4;exact h4
  let h5:=condW_of h4 (w_not (w_lt w_lit (w_len_list (w_arg rfl))));rw[Zb] at h5;apply Xb λq=>?_
  let q':(n:Int)<((ns.length:Nat):Int):=⋯
  first
   |(rw[decide_eq_true q'] at h5;exact absurd h5 ∅)
   |(simp at h5;omega)
 cases GX with
 |cons w1 w2 =>
  cases w2
  cases w1 with
  |list ho o9=>exact⟨_,_,ns,(),(),ho,l5 ns _ o9,cF⟩
def Bz (l:OpenLaw)(args:List WData):l.row.toRowW.claim.post args (.bool true) args=true :=
 postW_of (r:=l.row.toRowW) (X:=(true == true))
  (show WShape.has [] (.bool true) .bool=true by first |rfl |decide |simp[WShape.has,WShape.arms,WShape.armsAll])
  (show(WTm.eq .res (.lit (.bool true))).value [] { args:=args,res:=some (.bool true),after:=args }=some (.bool (true == true)) from w_eq_bool (w_res rfl) w_lit) rfl
def vM {l:OpenLaw}{n:Nat}
  (hn:l.most=some n) (S3:d.params.defaults=[])
  (call:∀(w:World) (eZ bS:Shared) (mg mb:Θ3) (fa:Addr) (o:Obj) (pm cd gK:Value) (a:Addr) (vs:Δ3) (ns:Γ3),
   Ground q loose [] XP w eZ mg mb bS.heap->YP w bS.heap ->
   bS.heap.get? fa=some o->o.data=.func (docDef d.name d.params d.body d.scope pm cd gK)->bS.heap.CodeRec cd d.name->mg d.name=some (.ref fa) ->
   bS.heap.get? a=some { cls:=.type "list",data:=.seq vs.toArray }->IntsAre vs ns->ns.length<=n->bS.gens=#[] ->
   codeAny (model l.prog w) callerA (.call (.ref fa) ⟨[.ref a],[]⟩) (λr s'=>r=.ok (.ret (.bool true))/\OldK bS.heap s'.heap/\s'.os=bS.os/\AllBare s'.gens) bS) :
  WalkO q loose XP YP l.row.toRowW d [] (λf vs=>PySem.call f vs):=by
 intro w eZ bS mg mb G Y fa o pm cd gK dV kV ho hd wt hD SS hg args Tp as Is ajk hrd GX hlo;obtain rfl:dV=.none:=Dflts.none hD S3;obtain rfl:kV=.none:=Dflts.noKw hD;let⟨a,vs,ns,rfl,rfl,N1,DQ,cF⟩:=Bv hn Is GX;apply enter_call (codeAny_mono (call w eZ bS mg mb fa o pm cd gK a vs ns G Y ho (fd_plain hd) wt SS N1 DQ cF hg) λr s' hq=>?_);let⟨rfl,h2,h3,h4⟩:=hq;exact⟨.inl ⟨.bool true,.bool true,[],(),λ_=>rfl,.bool true,Bz l _,λ_=>⟨List.Pairwise.nil,λ_ hm=>(nomatch hm)⟩⟩,h2,h3,h4⟩
section
variable {prog:Program}{w:World}{A:Around}{E:Θ2}{s:Shared}{K:Frag}
end
end Att
namespace L2
open PySem.Spec PyProof.Rows
theorem pU:∀{vs:Δ3}{ns:Γ3},IntsAre vs ns->bh (ns.map V.int) vs
 |_,_,.nil=>.nil
 |_,_,.cons n t h=>.cons ⟨t,()⟩ (pU h)
def Ol (H:Hp):Prop:=∀b,H b=none\/∃o xs,H b=some (.iz o (.lst xs))
def Ga {P:Program}{w:World}{K:Θ1}
  (KX:K.In bS.heap) (RM:bS.heap.Ns mainGlobals mg) (hb:bS.heap.Ns builtinsNs mb) (RU:∀x:Str,x ≠ "__name__"->mb x=bootBuiltins x) (abN:bS.heap.NoLimit) (hg:bS.gens=#[])
  (ha:bS.heap.get? a=some { cls:=.type "list",data:=.seq vs.toArray }) (hi:IntsAre vs ns) (hl:ns.length<=sizeLine) (hr:db k callerA)
  (F:∀base:Heap,K.In base->base.Ns mainGlobals mg->aI P w K mg base CX k fa fd [x] sp) (V2:∀(s:Shared) (u:Value),BindsTo s fd ⟨[u],[]⟩ [(x,u)])
  (GY:∀H:Hp,Ol H->bG K H a (ns.map V.int)->sp [.ref a] H (λv _=>v=.bl true) λ_ _ _=>False)
  (ι:∀H e s',CX [] H bS (λ_ _ _=>False) e s'->False) :
  codeAny (model P w) callerA (.call (.ref fa) ⟨[.ref a],[]⟩) (λr s'=>r=.ok (.ret (.bool true))/\OldK bS.heap s'.heap/\s'.os=bS.os/\AllBare s'.gens) bS:=by
 let rv:=pU hi;let Um:=hi.length;let UJ:∀H:Hp,Ol H->bG K H a (ns.map V.int)->j1 P w H bS.heap->(∀b,H b≠none->b=a)->(H a≠none->K.lookup a=none) ->
   codeAny (model P w) callerA (.call (.ref fa) ⟨[.ref a],[]⟩) (λr s'=>r=.ok (.ret (.bool true))/\OldK bS.heap s'.heap/\s'.os=bS.os/\AllBare s'.gens) bS:=by
  intro H hO hS cc hA hK;let AG:∀{b:Addr}{o:Obj},bS.heap.get? b=some o->H b=none->(rg bS.heap H).get? b=some o:=λe n=>Gg e n
  let Sw:∀{b:Addr}{o:Obj}{es:Array DictEntry}{ep:Nat},bS.heap.get? b=some o->o.data=.dict es ep->H b=none:=λ{b o es ep} e d=>by
   cases q:H b with
   |none=>rfl
   |some u =>
    let e':b=a:=hA b (by rw[q];simp);subst e';rw[ha] at e;cases e;let d':Data.seq vs.toArray _=Data.dict es ep:=d;cases d'
  let WA:∀{b:Addr}{m:Θ3},bS.heap.Ns b m->(rg bS.heap H).Ns b m:=λ{b m} ⟨o,es,ep,e,d,r⟩=>⟨o,es,ep,AG e (Sw e d),d,r⟩
  let hKb:K.In (rg bS.heap H):=λb o e=>AG (KX b o e) (by
   cases q:H b with
   |none=>rfl
   |some u =>
    let e':b=a:=hA b (by rw[q];simp);subst e';rw[hK (by rw[q];simp)] at e;cases e)
  let hM:Mod K mg (rg bS.heap H):=⟨hKb,WA RM,⟨mb,WA hb,RU⟩,let ⟨mc,h1,h2⟩:=abN;⟨mc,WA h1,h2⟩⟩;let e0:IQ P w K mg (rg bS.heap H) callerA [] bS H:=⟨(),hM,λb o e=>Kd e,Nat.le_of_eq (B4 _ _),trivial,λb hb=>absurd (show b∈([]:List Addr) from hb) (by simp),cc,.of_eq hg⟩;apply codeAny_mono ((F _ hKb (WA RM)).run callerA [] bS H ⟨[.ref a],[]⟩ [.ref a] [.ref a] _ _ hr e0 (V2 bS (.ref a)) (.cons rfl .nil) (GY H hO hS)) λr s' h=>?_
  cases r with
  |error e=>exact(ι H e s' h).elim
  |ok fl =>
   cases fl with
   |next=>exact False.elim h
   |brk=>exact False.elim h
   |cont=>exact False.elim h
   |ret u =>
    let⟨v,H',os,bare,un,abK,r',q⟩:=h;let q':v=.bl true:=q;subst q';obtain rfl:u=Value.bool true:=r';apply⟨(),OldK.of_keep λb o e=>?_,os,bare⟩;cases q:H b with
    |none=>exact un.keep b o e q (by intro z;exact absurd (show b∈([]:List Addr) from z) (by simp)) (by simp)
    |some u =>
     rcases hO b with z |⟨ob,xs,z⟩
     .rw[q] at z;cases z
     .let z2:=un.rj b ob _ z;let⟨e1,_⟩:=cc b _ z;let⟨e2,_⟩:=abK b _ z2;rw[e] at e1;cases e1;exact e2
 cases hk:K.lookup a with
 |some o =>
  let e:=KX a o hk;rw[ha] at e;cases e;apply UJ (λ_=>none) (λ_=>.inl rfl) (.inr ⟨_,vs.toArray,_,hk,(),(),(),by rw[Z5,Um];exact hl,by simpa using rv⟩) (λb u z=>by have z':(none:Option HO)=some u:=z;cases z') (λb z=>absurd rfl z) λz=>absurd rfl z
 |none =>
  apply UJ (λb=>if b=a then some (.iz { cls:=.type "list",data:=.seq vs.toArray } (.lst (ns.map V.int))) else none) (λb=>?_) (.inl (.inr ⟨{ cls:=.type "list",data:=.seq vs.toArray },if_pos rfl⟩)) (λb u z=>?_) (λb z=>?_) λ_=>hk
  .by_cases hb:b=a
   .exact .inr ⟨_,_,if_pos hb⟩
   .exact .inl (if_neg hb)
  .by_cases hb:b=a
   .let z':=(if_pos hb).symm.trans z;cases z';subst hb;exact⟨ha,by rw[Zb];exact hl,vs,_,rv,ha⟩
   .let z':=(if_neg hb).symm.trans z;cases z'
  .by_cases hb:b=a
   .exact hb
   .exact absurd (if_neg hb) z
def IS {l:PySem.W.OpenLaw}{n k:Nat}{K:Params->Θ1}{CX:World->He}{sp:World->Sp}
  (hn:l.most=some n) (hn2:n<=sizeLine) (S3:d.params.defaults=[]) (hr:db k callerA)
  (hY:∀(w:World) (h:Heap),YP w h->(K w.params).In h)
  (F:∀(w:World) (mg:Θ3) (fa:Addr) (h:Heap),(K w.params).In h->h.Ns mainGlobals mg->mg d.name=some (.ref fa) ->
   ∃fd:FuncData,(∀(s:Shared) (u:Value),BindsTo s fd ⟨[u],[]⟩ [(x,u)]) /\
    ∀base:Heap,(K w.params).In base->base.Ns mainGlobals mg->aI l.prog w (K w.params) mg base (CX w) k fa fd [x] (sp w))
  (GY:∀(w:World) (H:Hp) (a:Addr) (ns:Γ3),ns.length<=n->Ol H->bG (K w.params) H a (ns.map V.int)->sp w [.ref a] H (λv _=>v=.bl true) λ_ _ _=>False)
  (ι:∀(w:World) (H:Hp) (s:Shared) (e:Value) (s':Shared),CX w [] H s (λ_ _ _=>False) e s'->False) :
  PySem.W.WalkO q loose XP YP l.row.toRowW d [] (λf vs=>PySem.call f vs):=by
 apply Att.vM hn S3 λw eZ bS mg mb fa o pm cd gK a vs ns G Y ho hd wt SS N1 DQ cF hg=>?_
 let KX:=hY w _ Y;let⟨fd,hb,hF⟩:=F w mg fa _ KX G.T.g SS;exact Ga KX G.T.g G.T.b G.T.builtins G.T.nolimit hg N1 DQ (Zl cF hn2) hr hF hb (λH hO hS=>GY w H a ns cF hO hS) λH e s'=>ι w H bS e s'
def we (s:Stmt):Arguments:=match s with
 |.FunctionDef _ a _ _ _ _ _ _ _ _=>a
 |_=>{ posonlyargs:=[],args:=[],vararg:=none,kwonlyargs:=[],kw_defaults:=[],kwarg:=none,defaults:=[] }
def tI (s:Stmt):List Stmt:=match s with
 |.FunctionDef _ _ b _ _ _ _ _ _ _=>b
 |_=>[]
def bA (s:Stmt):Scope:=match s with
 |.FunctionDef _ _ _ _ _ _ sc _ _ _=>sc
 |_=>{ kind:=.function,names:=[],isGenerator:=false,isCoroutine:=false }
abbrev bY:He:=λ_ _ _ _ _ _=>False
abbrev E0:XK:=λ_ _ _=>False
def aO:xy bY X E0:=λ_ _ _ _ _ _ _ h=>h.elim
structure cG (K:Θ1)(x qual:Str)(st:Stmt)(f:Addr)(fd:FuncData):Prop where
 ex:∃(oc:Value) (od:Option Addr) (kV gK pm:Value) (an:Option Addr) (bD ct:Value) (RA:Array (Option Value)),
  fd=PySem.W.fnOf x qual (we st) (tI st) (bA st) .none kV gK pm an bD ct/\K.lookup f=some ⟨oc,od,.func fd,RA⟩/\PySem.W.codeIn K bD qual=true
 kp:PySem.W.keepIn K (.ref f)=true
section
variable {P:Program}{w:World}{K:Θ1}{mg:Θ3}{base:Heap}
def cG.ok {x qual:Str}{st:Stmt}{fd:FuncData}(F:cG K x qual st f fd)(S:ai N ps (bA st))(len:∀vs H Q E,sp vs H Q E->vs.length=ps.length)
  (DR:∀(bD:Value) (A:Around) (outer:List Env) (s:Shared) (H:Hp) (vs:List V) (Q:VK) (E:XK),db k (A.deeper (envOfC qual (bA st) s.heap.objs.size f bD))->sp vs H Q E ->
   ∃t,jw (wK bY P w K mg base N qual (bA st) f bD A outer s H E).Sv (tI st) t/\t { nx:=λ_ H'=>Q .cg H',rt:=Q } (start N vs) H):aI P w K mg base bY (k+1) f fd ps sp:=by
 let⟨oc,od,kV,gK,pm,an,bD,ct,RA,rfl,lk,wt⟩:=F.ex;apply V4 lk wt S len λA outer s H vs Q E hr GY=>?_
 let⟨t,h,q⟩:=DR bD A outer s H vs Q E hr GY;exact⟨t,h.Sv,q⟩
def cG.binds {x qual:Str}{st:Stmt}(F:cG K x qual st f fd)
  (h:∀(kV gK pm:Value) (an:Option Addr) (bD ct:Value) (us:Δ3),us.length=ps.length->bindArgs (PySem.W.fnOf x qual (we st) (tI st) (bA st) .none kV gK pm an bD ct) ⟨us,[]⟩=pure (ps.zip us)):Binds K fd ps []:=by
 let⟨oc,od,kV,gK,pm,an,bD,ct,RA,rfl,lk,wt⟩:=F.ex;exact .all (h kV gK pm an bD ct)
def xo {x qual:Str}{st:Stmt}{kV gK pm bD ct:Value}(l:K.lookup f=some ⟨oc,od,.func (PySem.W.fnOf x qual (we st) (tI st) (bA st) .none kV gK pm an bD ct),RA⟩)
  (c:PySem.W.codeIn K bD qual=true) (k:PySem.W.keepIn K (.ref f)=true):cG K x qual st f (PySem.W.fnOf x qual (we st) (tI st) (bA st) .none kV gK pm an bD ct):=⟨⟨oc,od,kV,gK,pm,an,bD,ct,RA,(),l,c⟩,k⟩
end
def yY (hr:db k A):A.units+1<cLine:=Nat.lt_of_le_of_lt (Nat.add_le_add_left (by decide:1<=64) _) hr.units
section
variable {X:Cx}
def pv (i:Nat)(hN:X.N[i]?=some x:=by rfl)(hv:Th X.env.scope x:=by first |exact Or.inl rfl |exact Or.inr (Or.inl rfl) |exact Or.inr (Or.inr rfl))(hd:(x == ("__debug__" : Str))=false:=by decide)
  (wt:(x == ("__classdict__" : Str))=false:=by decide):PE X (.Name x pos) (wA i):=Pt hN hv hd wt
end
def bI {A B:Prop}(h:B):if false=true then A else B:=by
 rw[if_neg Z3];exact h
def bt {A B:Prop}(h:A):if true=true then A else B:=by
 rw[if_pos rfl];exact h
def A8 {c A B:Prop}[Decidable c](h1:c->A)(h2:¬ c->B):if c then A else B:=by
 by_cases h:c
 .rw[if_pos h];exact h1 h
 .rw[if_neg h];exact h2 h
def dH (env:Env):List (Str×NameKind)->List (Str×Addr)->List (Str×Addr)
 |[],acc=>acc
 |(n,k)::r,acc=>if k == .free then dH env r ((n,(env.cells.lookup n).getD 0)::acc) else dH env r acc
theorem lB (f:Str×NameKind->List (Str×Addr)->Sem (ForInStep (List (Str×Addr))))
  (hf:∀n k cs,f (n,k) cs=if k == .free then (do let a <- cellOf env n;pure (.yield ((n,a)::cs))) else pure (.yield cs)) :
  ∀(names:List (Str×NameKind)) (acc:List (Str×Addr)),(∀x∈names,x.2=.free->(env.cells.lookup x.1).isSome=true)->forIn names acc f=pure (dH env names acc)
 |[],acc,_=>by rw[List.forIn_nil];rfl
 |(n,k)::r,acc,h=>by
  rw[List.forIn_cons,hf];unfold dH;let hr:∀x∈r,x.2=.free->(env.cells.lookup x.1).isSome=true:=λx hx=>h x (Zj _ hx)
  by_cases hk:(k == NameKind.free)=true
  .rw[if_pos hk,if_pos hk];let e:=h (n,k) Zi (by simpa using hk);let⟨c,hc⟩:=Qd.mp e;unfold cellOf;simp only at hc;rw[hc];simp only[pure_bind,Xz];exact lB f hf r _ hr
  .rw[if_neg hk,if_neg hk,pure_bind];exact lB f hf r _ hr
def RI (h:∀x∈scope.names,x.2=.free->(env.cells.lookup x.1).isSome=true):closureFor scope env=pure (dH env scope.names []):=by
 show(forIn scope.names ([]:List (Str×Addr)) _ >>= λcs=>pure cs)=_;rw[lB (env:=env) _ (λn k cs=>by cases hk:k == NameKind.free<;>simp[hk]) scope.names [] h];simp only[pure_bind]
theorem iY:∀(names:List (Str×NameKind)) (acc:List (Str×Addr)),(∀x∈names,x.2=.free->(env.cells.lookup x.1).isSome=true) ->
  (dH env names acc).lookup x=some c->env.cells.lookup x=some c\/acc.lookup x=some c
 |[],_,_,e=>.inr e
 |(n,k)::r,acc,h,e=>by
  unfold dH at e;let hr:∀x∈r,x.2=.free->(env.cells.lookup x.1).isSome=true:=λx hx=>h x (Zj _ hx)
  by_cases hk:(k == NameKind.free)=true
  .rw[if_pos hk] at e;rcases iY r _ hr e with q |q
   .exact .inl q
   .rw[Qe] at q;cases hb:x == n with
    |true =>
     rw[hb] at q;let hx:x=n:=by simpa using hb
     let⟨c',hc⟩:=Qd.mp (h (n,k) Zi (by simpa using hk));simp only at hc;rw[hc] at q;subst hx;rw[hc];exact .inl (by simpa using q)
    |false=>rw[hb] at q;exact .inr q
  .rw[if_neg hk] at e;exact iY r _ hr e
theorem kG:∀(names:List (Str×NameKind)) (acc:List (Str×Addr)),((x,NameKind.free)∈names\/(acc.lookup x).isSome=true)->((dH env names acc).lookup x).isSome=true
 |[],_,h=>h.elim (λe=>nomatch e) id
 |(n,k)::r,acc,h=>by
  unfold dH;by_cases hk:(k == NameKind.free)=true
  .rw[if_pos hk];apply kG r _ ?_;rcases h with h |h
   .rcases Zk.mp h with e |h
    .cases e;exact .inr (by rw[Qe];simp)
    .exact .inl h
   .apply .inr ?_;rw[Qe];split
    .rfl
    .exact h
  .rw[if_neg hk];apply kG r _ ?_;rcases h with h |h
   .rcases Zk.mp h with e |h
    .cases e;exact absurd ∅ hk
    .exact .inl h
   .exact .inr h
theorem mT:∀(names:List (Str×NameKind)) (k:Nat) (acc:List (Str×Addr)),(cellsFrom k names acc).lookup x=some c->k<=c\/(acc.lookup x=some c/\(x,NameKind.cell)∉names)
 |[],_,_,e=>.inr ⟨e,by simp⟩
 |(n,kd)::r,k,acc,e=>by
  unfold cellsFrom at e;by_cases hk:(kd == NameKind.cell)=true
  .rw[if_pos hk] at e;rcases mT r _ _ e with q |⟨q,nr⟩
   .exact .inl ⋯
   .rw[Qe] at q;cases hb:x == n with
    |true=>rw[hb] at q;cases q;exact .inl (Ze _)
    |false =>
     rw[hb] at q;apply .inr ⟨q,λz=>?_⟩;rcases Zk.mp z with z |z
     .cases z;simp at hb
     .exact nr z
  .rw[if_neg hk] at e;rcases mT r _ _ e with q |⟨q,nr⟩
   .exact .inl q
   .apply .inr ⟨q,λz=>?_⟩;rcases Zk.mp z with z |z
    .cases z;exact hk (by simp)
    .exact nr z
theorem xv:∀(names:List (Str×NameKind)) (k:Nat) (acc:List (Str×Addr)),(∀p∈acc,p.2<k)->(∀p q,p∈acc->q∈acc->p.2=q.2->p.1=q.1)->∀p q,p∈cellsFrom k names acc->q∈cellsFrom k names acc->p.2=q.2->p.1=q.1
 |[],_,_,_,hi,p,q,hp,hq,e=>hi p q hp hq e
 |(n,kd)::r,k,acc,hb,hi,p,q,hp,hq,e=>by
  unfold cellsFrom at hp hq;by_cases hk:(kd == NameKind.cell)=true
  .rw[if_pos hk] at hp hq;apply xv r (k+1) ((n,k)::acc) (λz hz=>?_) (λy z hy hz e=>?_) p q hp hq e
   .rcases Zk.mp hz with rfl |hz
    .exact Nat.lt_succ_self _
    .exact Nat.lt_succ_of_lt (hb z hz)
   .rcases Zk.mp hy with hy |hy<;>rcases Zk.mp hz with hz |hz
    .rw[hy,hz]
    .subst hy;exact absurd (hb z hz) (by rw[<- e];exact Yj _)
    .subst hz;exact absurd (hb y hy) (by rw[e];exact Yj _)
    .exact hi y z hy hz e
  .rw[if_neg hk] at hp hq;exact xv r k acc hb hi p q hp hq e
theorem sH:∀(names:List (Str×NameKind)) (h:Heap) (acc:List (Str×Addr)) (p:Str×Addr),p∈cellsFrom h.objs.size names acc->p∈acc\/((pushCells h names).IsCell p.2 none/\h.objs.size<=p.2)
 |[],_,_,_,e=>.inl e
 |(n,kd)::r,h,acc,p,e=>by
  unfold cellsFrom at e;unfold pushCells;by_cases hk:(kd == NameKind.cell)=true
  .rw[if_pos hk] at e ⊢;let hs:(h.push { cls:=.type "cell",data:=.cell none }).objs.size=h.objs.size+1:=Y5 ..;rw[<- hs] at e;rcases sH r _ _ p e with q |⟨q,l⟩
   .rcases Zk.mp q with rfl |q
    .exact .inr ⟨Heap.IsCell.keeps ⟨_,Zz _ rfl,()⟩ (pushCells_keeps _ _),Ze _⟩
    .exact .inl q
   .exact .inr ⟨q,⋯⟩
  .rw[if_neg hk] at e ⊢;exact sH r h acc p e
def vz
  (hQ:Q (newEnv scope s.heap.objs.size globals (cellsFrom (s.heap.objs.size+1) scope.names cl) qual none .none (some outer) builtinsNs) { s with heap:=pushCells (s.heap.push { cls:=.type "dict",data:=.dict #[] }) scope.names }) :
  wpAny M A (newFunctionEnv scope globals cl [] qual none .none (some outer)) Q E s:=by
 simp only[newFunctionEnv,Option.isSome_some,if_true];apply Za (wpAny_alloc ?_);apply Za (wpAny_layCells _ (λname kind cells=>by cases hkc:kind == NameKind.cell<;>simp[hkc]) _ _ _ _ ?_);rw[show({ s with heap:=s.heap.push { cls:=.type "dict",data:=.dict #[] } }:Shared).heap.objs.size=s.heap.objs.size+1 from Y5 ..];rw[List.forIn_nil];exact Za (wpAny_pure (wpAny_pure hQ))
def uz (scope:Scope)(C:Addr)(env:Env):Env:=compEnvC scope (cellsFrom (C+1) scope.names (dH env scope.names [])) C env
def cP (X:Cx)(scope:Scope)(C:Addr)(N:Δ2)(fp:List Addr)(s:Shared)(H:Hp):Cx where
 prog:=X.prog
 w:=X.w
 K:=X.K
 mg:=X.mg
 base:=X.base
 A:=X.A
 N:=N
 eZ:=s
 df:=H
 env:=uz scope C X.env
 outer:=X.stack
 stack:=X.stack
 ex:=fp
 fn:=λx=>decide ((x,NameKind.cell)∈scope.names)
 calm:=X.calm
 pn:=[]
 xe:=λ_ _=>False
def dj (X:Cx)(eu:Ξ2)(t:TT):Prop :=
 ∀(ae:Γ2) (s:Shared) (σ:St) (H:Hp) (Q:Bool->Hp->Prop),Inv X ae σ H s->t σ H Q ->
  wpAny (model X.prog X.w) X.A (forIn eu true λc r=>if r=true then do let ok <- isTrue c X.env (eval c X.env);pure (ForInStep.yield ok) else pure (ForInStep.yield r)) (TP X ae σ Q) X.xe s
def NE:TT:=λ_ H Q=>Q true H
def Cv:dj X [] NE:=λ_ s σ H Q I h=>wpAny_tests_nil ⟨H,I,h⟩
def kB (h:PT X c t):dj X [c] t:=λae s σ H Q I q=>wpAny_tests_one (h ae s σ H Q I q)
def dr (own:Nat)(cap:List Nat)(σ:St):St:=List.replicate own none++cap.map λi=>(σ[i]?).getD none
structure aM (X:Cx)(scope:Scope)(own:Δ2)(cap:Δ2)(ix:List Nat):Prop where
 kind:scope.kind=.function
 names:∀x∈scope.names,x.2=.local->scope.names.lookup x.1=some .local
 nd:(scope.names.map (·.1)).Nodup
 frees:∀x∈scope.names,x.2=.free->X.env.kindOf x.1=some .cell\/X.env.kindOf x.1=some .free
 ab7:∀(j:Nat) (x:Str),cap[j]?=some x->(x,NameKind.free)∈scope.names
 at':∀(j:Nat) (x:Str),cap[j]?=some x->∃i,ix[j]?=some i/\X.N[i]?=some x
 len:cap.length=ix.length
def ij (h:(relabel scope env).names.lookup x=some k):(x,k)∈scope.names\/(k=.cell/\(x,NameKind.free)∈scope.names):=by
 let m:=Xh h;let⟨⟨n,k'⟩,hm,e⟩:=Zd.mp m
 grind
def oy {names:List (Str×NameKind)}(nd:(names.map (·.1)).Nodup)(h:(x,k)∈names)(h':(x,k')∈names):k=k':=by
 induction names with
 |nil=>cases h
 |cons p r ih =>
  rw[Zn,Yc] at nd;rcases Zk.mp h with e |h<;>rcases Zk.mp h' with e' |h'
  .rw[<- e'] at e;cases e;rfl
  .exact absurd (Zd.mpr ⟨_,h',by rw[<- e]⟩) nd.1
  .exact absurd (Zd.mpr ⟨_,h,by rw[<- e']⟩) nd.1
  .exact ih nd.2 h h'
section
def Inv.block (I:Inv X ae σ H s)(B:aM X scope own cap ix){fp:List Addr}(hf:∀b∈fp,eQ X ae H b)(ho:∀b∈fp,∃o,s.heap.get? b=some o) :
  Inv (cP X scope s.heap.objs.size (own++cap) fp s H) [] (dr own.length ix σ) H { s with heap:=pushCells (s.heap.push { cls:=.type "dict",data:=.dict #[] }) scope.names }:=by
 let has:∀x∈scope.names,x.2=.free->(X.env.cells.lookup x.1).isSome=true:=λx hx hk=>by
  let⟨c,e⟩:=I.ok.has x.1 (B.frees x hx hk);rw[e];rfl
 let keep:∀b o,s.heap.get? b=some o->(pushCells (s.heap.push { cls:=.type "dict",data:=.dict #[] }) scope.names).get? b=some o:=λb o e=>pushCells_keeps _ _ b o (Zm _ e)
 let old:∀x c,X.env.cells.lookup x=some c->c<s.heap.objs.size:=λx c e=>let ⟨v,q⟩:=I.cell x c e;q.lt
 let sG:∀x c,(cellsFrom (s.heap.objs.size+1) scope.names (dH X.env scope.names [])).lookup x=some c->s.heap.objs.size+1<=c\/(X.env.cells.lookup x=some c/\(x,NameKind.cell)∉scope.names):=λx c e=>by
  rcases mT _ _ _ e with q |⟨q,nm⟩
  .exact .inl q
  .rcases iY _ _ has q with q |q
   .exact .inr ⟨q,nm⟩
   .cases q
 let mQ:∀p∈dH X.env scope.names [],X.env.cells.lookup p.1=some p.2:=by
  let Te:∀(names:List (Str×NameKind)) (acc:List (Str×Addr)),(∀x∈names,x.2=.free->(X.env.cells.lookup x.1).isSome=true)->(∀p∈acc,X.env.cells.lookup p.1=some p.2)->∀p∈dH X.env names acc,X.env.cells.lookup p.1=some p.2:=by
   intro names;induction names with
   |nil=>intro acc _ h p hp;exact h p hp
   |cons y r ih =>
    intro acc h h2 p hp;let⟨n,k⟩:=y;unfold dH at hp;by_cases hk:(k == NameKind.free)=true
    .rw[if_pos hk] at hp;apply ih _ (λx hx=>h x (Zj _ hx)) (λq hq=>?_) p hp;rcases Zk.mp hq with rfl |hq
     .obtain⟨c,e⟩:=Qd.mp (h (n,k) Zi (by simpa using hk));simp only at e ⊢;rw[e];rfl
     .exact h2 q hq
    .rw[if_neg hk] at hp;exact ih _ (λx hx=>h x (Zj _ hx)) h2 p hp
  exact Te _ _ has (λp hp=>nomatch hp)
 let ab4:∀x y c,(cellsFrom (s.heap.objs.size+1) scope.names (dH X.env scope.names [])).lookup x=some c->(cellsFrom (s.heap.objs.size+1) scope.names (dH X.env scope.names [])).lookup y=some c->x=y:=λx y c e1 e2 =>
  xv scope.names (s.heap.objs.size+1) (dH X.env scope.names []) (λp hp=>Nat.lt_succ_of_lt (old p.1 p.2 (mQ p hp)))
   (λp q hp hq e=>I.ok.inj p.1 q.1 p.2 (mQ p hp) (by rw[e];exact mQ q hq)) (x,c) (y,c) (Xh e1) (Xh e2) rfl
 let V8:∀x c,(cellsFrom (s.heap.objs.size+1) scope.names (dH X.env scope.names [])).lookup x=some c->∃v,(pushCells (s.heap.push { cls:=.type "dict",data:=.dict #[] }) scope.names).IsCell c v:=λx c e=>by
  let m:=Xh e;let hs:(s.heap.push { cls:=.type "dict",data:=.dict #[] }).objs.size=s.heap.objs.size+1:=Y5 ..;rw[<- hs] at m;rcases sH _ _ _ _ m with q |⟨q,_⟩
  .obtain⟨v,z⟩:=I.cell _ _ (mQ _ q);exact⟨v,z.keeps keep⟩
  .exact⟨none,q⟩
 let UF:∀b∈fp,b<s.heap.objs.size:=λb hb=>let ⟨o,e⟩:=ho b hb;Zr e
 apply⟨⟨I.ok.mod,?_,I.ok.glob,I.ok.blt,Ze _,ab4,λx hx=>?_,λx c hfx e=>?_,I.ok.hd,I.ok.frames,.inl rfl,λb hb=>⟨?_,λx c e=>?_⟩,I.bs,Zl I.ok.Lr I.sz,λb o e hb=>?_,λb hb hz=>?_,I.stack,I.zF⟩,
  rfl,I.bare,Un.kept keep,⟨λ_=>none,(Heap.Ns.new s.heap (.type "dict")).keeps (pushCells_keeps _ _),λi x v h1 h2 h3=>?_⟩,V8,I.cc.fresh (Ze _),λx c e=>?_,λp hp=>absurd (show p∈([]:Γ2) from hp) (by simp),I.cc.kept keep,?_⟩
 .exact B.kind
 .let vS:(relabel scope X.env).names.lookup x=some .cell\/(relabel scope X.env).names.lookup x=some .free:=hx;have:((cellsFrom (s.heap.objs.size+1) scope.names (dH X.env scope.names [])).lookup x).isSome=true:=by
   let fr:(x,NameKind.free)∈scope.names->((cellsFrom (s.heap.objs.size+1) scope.names (dH X.env scope.names [])).lookup x).isSome=true:=λz=>PySem.W.cellsFrom_some _ _ _ (.inr (kG _ _ (.inl z)))
   let ce:(x,NameKind.cell)∈scope.names->((cellsFrom (s.heap.objs.size+1) scope.names (dH X.env scope.names [])).lookup x).isSome=true:=λz=>by
    let Te:∀(names:List (Str×NameKind)) (k:Nat) (acc:List (Str×Addr)),(x,NameKind.cell)∈names->((cellsFrom k names acc).lookup x).isSome=true:=by
     intro names;induction names with
     |nil=>intro _ _ z;cases z
     |cons y r ih =>
      intro k acc z;let⟨n,kd⟩:=y;unfold cellsFrom;by_cases hk:(kd == NameKind.cell)=true
      .rw[if_pos hk];rcases Zk.mp z with e |z
       .cases e
        exact PySem.W.cellsFrom_some _ _ _ (.inr (by rw[Qe];simp))
       .exact ih _ _ z
      .rw[if_neg hk];rcases Zk.mp z with e |z
       .cases e;exact absurd ∅ hk
       .exact ih _ _ z
    exact Te _ _ _ z
   rcases vS with q |q
   .rcases ij q with q |⟨_,q⟩
    .exact ce q
    .exact fr q
   .rcases ij q with q |⟨e,_⟩
    .exact fr q
    .cases e
  exact Qd.mp this
 .let hm:(x,NameKind.cell)∈scope.names:=of_decide_eq_true hfx;rcases sG x c e with q |⟨_,nm⟩
  .exact Zl (Xt _) q
  .exact absurd hm nm
 .exact Ye (UF b hb)
 .rcases sG x c e with q |⟨q,_⟩
  .exact Xr (Yg (UF b hb) (Zl (Xt _) q))
  .exact(hf b hb).2.2.2.2.1 x c q
 .rcases(hf b hb).2.2.2.1 with z |z
  .exact I.ok.Dg b o e z
  .exact absurd (Yg (Zr e) (Zl I.ok.Lr z)) (Yj _)
 .rcases Zk.mp (I.wO b hz) with e |z
  .exact(hf b hb).2.1 e
  .exact(hf b hb).2.2.1 z
 .
  let h1:(own++cap)[i]?=some x:=h1;let hi:own.length<=i:=by
   by_cases hi:i<own.length
   .unfold dr at h2;rw[Zq (by simpa using hi),Y7,if_pos hi] at h2;cases h2
   .omega
  rw[Yh hi] at h1;unfold dr at h2;rw[Yh (by simpa using hi),Qn,Zo] at h2;let⟨j,hj,hN⟩:=B.at' _ _ h1;rw[hj] at h2;simp only[Y1,Option.some.injEq] at h2;let h2':σ[j]?=some (some v):=by
   cases q:σ[j]? with
   |none=>rw[q] at h2;simp at h2
   |some o=>rw[q] at h2;simp at h2;rw[h2]
  let fm:=B.ab7 _ _ h1;let kd:=B.frees _ fm rfl;let⟨m,hn,hl⟩:=I.loc;let⟨u,r,l⟩:=hl j x v hN h2' (by rcases kd with k |k;exact .inr (.inl k);exact .inr (.inr k));apply⟨u,r,.inr ?_⟩;let V7:∃c,X.env.cells.lookup x=some c/\s.heap.IsCell c (some u):=by
   rcases l with ⟨k,_⟩ |⟨_,c,e,z⟩
   .simp only at kd;rw[k] at kd;rcases kd with k |k<;>cases k
   .exact⟨c,e,z⟩
  let⟨c,ec,zc⟩:=V7;let VN:(x,NameKind.cell)∉scope.names:=λz=>by have:=oy B.nd z fm;cases this
  apply⟨?_,c,?_,zc.keeps keep⟩
  .let h3':(relabel scope X.env).names.lookup x=some .local\/(relabel scope X.env).names.lookup x=some .cell\/(relabel scope X.env).names.lookup x=some .free:=h3;rcases h3' with q |q |q
   .rcases ij q with q |⟨e,_⟩
    .have:=oy B.nd q fm;cases this
    .cases e
   .exact .inl q
   .exact .inr q
  .show(cellsFrom (s.heap.objs.size+1) scope.names (dH X.env scope.names [])).lookup x=some c;let⟨c',e'⟩:=Qd.mp (PySem.W.cellsFrom_some (x:=x) scope.names (s.heap.objs.size+1) (dH X.env scope.names []) (.inr (kG _ _ (.inl fm))));rw[e'];rcases mT _ _ _ e' with q |⟨q,_⟩
   .exfalso;let m:=Xh e';let Te:∀(names:List (Str×NameKind)) (k:Nat) (acc:List (Str×Addr)),(x,NameKind.cell)∉names->(cellsFrom k names acc).lookup x=acc.lookup x:=by
     intro names;induction names with
     |nil=>intro _ _ _;rfl
     |cons y r ih =>
      intro k acc nm;let⟨n,kd⟩:=y;unfold cellsFrom;by_cases hk:(kd == NameKind.cell)=true
      .rw[if_pos hk,ih _ _ (λz=>nm (Zj _ z)),Qe];have:(x == n)=false:=by
        simp only[beq_eq_false_iff_ne];intro e;subst e;have:kd=.cell:=by simpa using hk
        subst this;exact nm Zi
       rw[this]
      .rw[if_neg hk,ih _ _ (λz=>nm (Zj _ z))]
    rw[Te _ _ _ VN] at e';rcases iY _ _ has e' with z |z
    .exact absurd (Yg (old _ _ z) (Zl (Xt _) q)) (Yj _)
    .cases z
   .rcases iY _ _ has q with z |z
    .rw[ec] at z;rw[z]
    .cases z
 .rcases sG x c e with q |⟨q,_⟩
  .exact I.cc.fresh (Zl (Xt _) q)
  .exact I.jG x c q
 .unfold dr;show _=(own++cap).length;rw[Zu,Zu,Qn,Zb,B.len]
end
def gR (g:TG)(tt:TT)(te:TE)(J:It)(acc:Addr)(au:St)(df:Hp)(Q:VK):Prop :=
 ∃W:Nat->Nat->St->Hp->Prop,(∃m,W 0 m au (aQ df acc (.lst [])))/\∀i m aS H',W i m aS H' ->
  (J.stop i H'/\Q (.ref acc) H') \/
  (J.go i H'/\∃N:St->Hp->Prop,(∀cz H2,N cz H2->∃m',m'<m/\W (i+1) m' cz H2)/\∀x H2,J.tu i H' x H2->g x aS H2 λgi H3=>tt gi H3 λb H4 =>
   if b=true then te gi H4 λy H5=>∃ys,H5 acc=some (.lst ys)/\ys.length<sizeLine/\N gi (aQ H5 acc (.lst (ys++[y]))) else N gi H4)
def yH (wi:TI)(g:TG)(tt:TT)(te:TE)(own:Nat)(ix:List Nat):TE:=λσ H Q=>wi σ H λJ H1=>∀acc,H1 acc=none->gR g tt te J acc (dr own ix σ) H1 Q
def Wf (prog:Program)(w:World)(A:Around)(tg:Expr)(eu:Ξ2)(env:Env)(it:Value)(R:Result->Shared->Prop)(ST:(Shared->Prop)->Shared->Prop)(I:Nat->Shared->Prop):Prop :=
 ∀n s,I n s->wpAny (model prog w) A (pyNext it) (λr bS=>match r with
   |none=>R (.ok .next) bS
   |some v=>wpAny (model prog w) A (letOwnedTupleGo tg it v) (λ_ LB=>wpAny (model prog w) A (assign tg env v) (λ_ c7 =>
     wpAny (model prog w) A (forIn eu true λc r=>if r=true then do let ok <- isTrue c env (eval c env);pure (ForInStep.yield ok) else pure (ForInStep.yield r)) (λok iG =>
      if ok=true then ST (λs'=>∃m,m<n/\I m s') iG else ∃m,m<n/\I m iG) (λ_ _=>False) c7) (λ_ _=>False) LB) (λ_ _=>False) bS) (λ_ _=>False) s
def zt (prog:Program)(w:World)(A:Around)(tg:Expr)(eu:Ξ2)(env:Env)(it:Value)(ce:Expr)(lv:Nat)(acc:Value)(ST:(Shared->Prop)->Shared->Prop):Prop :=
 ∀R I,Wf prog w A tg eu env it R ST I->∀n s,I n s->codeAny (model prog w) A (.compLoop ce lv it acc env) R s
def mL {prog:Program}{w:World}{A:Around}{ce tg:Expr}{eu:Ξ2}{lv:Nat}{it acc:Value}{env:Env}{ps:Pos}{ST:(Shared->Prop)->Shared->Prop}{tail:Bool->Sem Fin}(hT:compTurn ce lv it acc env=(do
   standAt ps
   match <- pyNext it with
   |none=>pure (.done .next)
   |some v =>
    letOwnedTupleGo tg it v
    assign tg env v
    let ok <- forIn eu true λc r=>if r=true then do let ok <- isTrue c env (eval c env);pure (ForInStep.yield ok) else pure (ForInStep.yield r)
    tail ok))
  (h1:∀(G:Shared->Prop) (R:Fin->Shared->Prop) E s,ST G s->(∀s,G s->R (.again (.compLoop ce lv it acc env)) s)->wpAny (model prog w) A (tail true) R E s)
  (h0:tail false=again (.compLoop ce lv it acc env):=by rfl) (hd:(model prog w).den (.compLoop ce lv it acc env)=(compTurn ce lv it acc env).onRaise (λx=>do noteFrame x env;theTreesLotGoes x):=by rfl) (hA:A.under (.compLoop ce lv it acc env)=A:=by rfl):zt prog w A tg eu env it ce lv acc ST:=by
 intro R I wx n s h;apply codeAny_loop rfl I (λn s hI=>?_) n h;rw[hd,hA,hT];apply wpAny_noted ?_;apply Za (wpAny_standAt (Za (wpAny_mono (wx n s hI) (λr bS Iq=>?_) λ_ _ h'=>h'.elim)));cases r with
 |none=>exact wpAny_pure Iq
 |some v =>
  apply Za (wpAny_mono Iq (λ_ LB VZ=>?_) λ_ _ h'=>h'.elim);apply Za (wpAny_mono VZ (λ_ c7 wG=>Za (wpAny_mono wG (λok iG Io=>?_) λ_ _ h'=>h'.elim)) λ_ _ h'=>h'.elim);cases ok with
  |false=>rw[h0];exact wpAny_pure ⟨(),Io⟩
  |true=>exact h1 _ _ _ iG Io λs h=>⟨(),h⟩
def tLp (g:TG)(tt:TT)(CF:St->Hp->(St->Hp->Prop)->Prop)(J:It)(au:St)(df:Hp)(Z:St->Hp->Prop):Prop :=
 ∃W:Nat->Nat->St->Hp->Prop,(∃m,W 0 m au df)/\∀i m aS H',W i m aS H' ->
  (J.stop i H'/\Z aS H') \/
  (J.go i H'/\∃N:St->Hp->Prop,(∀cz H2,N cz H2->∃m',m'<m/\W (i+1) m' cz H2)/\∀x H2,J.tu i H' x H2->g x aS H2 λgi H3=>tt gi H3 λb H4=>if b=true then CF gi H4 N else N gi H4)
def Mh {X:Cx}{P:Γ2}{σ:St}{H:Hp}{s:Shared}{tg ce:Expr}{eu:Ξ2}{g:TG}{tt:TT}{CF:St->Hp->(St->Hp->Prop)->Prop}{J:It}{fp:List Addr}{it:Addr}{tn:Nat->Heap->Prop}{lv:Nat}{acc:Value}{ST:(Shared->Prop)->Shared->Prop}{Z:St->Hp->Prop}{R:Result->Shared->Prop}
  (hc:X.calm=true) (ex:X.xe=λ_ _=>False) (L:zt X.prog X.w X.A tg eu X.env (.ref it) ce lv acc ST) (hg:PG X tg g) (ZW:dj X eu tt)
  (hel:∀P σ H s N (G:Shared->Prop),Inv X P σ H s->CF σ H N->(∀aS H' s',Inv X P aS H' s'->N aS H'->G s')->ST G s)
  (T:Turn X.prog X.w X.K tg J fp it tn) (st:tn 0 s.heap) (fk:∀H',(∀b∈fp,H' b=none)->∀b∈fp,eQ X P H' b) (fr:∀b∈fp,H b=none) (I:Inv X P σ H s) (q:tLp g tt CF J σ H Z)
  (hR:∀aS H' s',Inv X P aS H' s'->Z aS H'->R (.ok .next) s'):codeAny (model X.prog X.w) X.A (.compLoop ce lv (.ref it) acc X.env) R s:=by
 let⟨W,⟨m0,w0⟩,wx⟩:=q;apply L R (λn s'=>∃i aS H',Inv X P aS H' s'/\tn i s'.heap/\(∀b∈fp,H' b=none)/\W i n aS H') ?_ m0 s ⟨0,_,_,I,st,fr,w0⟩;rintro n s5 ⟨i,AK,H5,I5,oS,WU,w5⟩;rcases wx i n AK H5 w5 with ⟨stop,qn⟩ |⟨go,N,hN,step⟩
 .apply bE (T.done X rfl rfl rfl hc i P s5 AK H5 (λ_ _=>False) I5 (fk _ WU) oS stop) λr s6 ⟨hr,I6⟩=>?_
  subst hr;exact hR _ _ _ I6 qn
 .apply bE (T.item X rfl rfl rfl hc i P s5 AK H5 (λ_ _=>False) I5 (fk _ WU) oS go) λr s6 ⟨u,hr,h6⟩=>?_
  subst hr;apply bE h6 λ_ s7 ⟨x,H7,I7,r7,y7,YE,fr7⟩=>?_
  let a1:=hg _ s7 AK H7 x u _ (I7.pinned (fk _ fr7) (T.obj _ _ YE)) r7 (step x H7 y7);rw[ex] at a1;apply bE a1 λ_ s8 ⟨σ8,H8,I8,q8⟩=>?_
  let a2:=ZW _ s8 σ8 H8 _ I8 q8;rw[ex] at a2;apply bE a2 λb s9 ⟨H9,I9,q9⟩=>?_
  let again:∀aS H' s',Inv X (P++nF fp s7.heap) aS H' s'->N aS H'->∃m,m<n/\∃i aS H',Inv X P aS H' s'/\tn i s'.heap/\(∀b∈fp,H' b=none)/\W i m aS H':=λaS H' s' I' n'=>by
   let⟨m',hm,w'⟩:=hN aS H' n';let pn:∀b∈fp,∀o,s7.heap.get? b=some o->_:=λb gJ o e=>I'.pin (b,o) (Yl _ (Yl _ (jX gJ e)))
   apply⟨m',hm,i+1,aS,H',I'.gD,T.keep _ _ _ YE λb gJ o e=>(pn b gJ o e).1,λb gJ=>?_,w'⟩;let⟨o,e,d⟩:=T.obj _ _ YE b gJ;exact(pn b gJ o e).2.1
  cases b with
  |false=>exact again _ _ _ I9 q9
  |true=>exact hel _ _ _ _ _ _ I9 q9 again
section
def zk {ce:Expr}{CF:Addr->St->Hp->(St->Hp->Prop)->Prop}{ST:Env->Addr->(Shared->Prop)->Shared->Prop}{o:HO}{ob:Obj}{ae:Γ2}{σ:St}{H2:Hp}{s2:Shared}{J:It}{fp:List Addr}{it:Addr}{tn:Nat->Heap->Prop}{Q:VK}{E:Θ2}{RR:Value->Addr->Result->Shared->Prop}
  (B:aM X scope own cap ix) (hc:X.calm=true) (L:∀C D,zt X.prog X.w X.A tg eu (uz scope C X.env) (.ref it) ce 0 (.ref D) (ST (uz scope C X.env) D))
  (m4:∀acc env R s,codeAny (model X.prog X.w) X.A (.compLoop ce 0 (.ref it) acc env) R s->wpAny (model X.prog X.w) X.A (pyIter (.ref it)) (λSF s'=>codeAny (model X.prog X.w) X.A (.compLoop ce 0 SF acc env) R s') (notedBy (model X.prog X.w) X.A env λx s'=>R (.error x) s') s->codeAny (model X.prog X.w) X.A (.compStart ce 0 (.ref it) acc env) R s)
  (hb:∀C fp s H,PG (cP X scope C (own++cap) fp s H) tg g/\dj (cP X scope C (own++cap) fp s H) eu tt/\∀D P σ H' s' N (G:Shared->Prop),Inv (cP X scope C (own++cap) fp s H) P σ H' s'->CF D σ H' N->(∀aS H' s',Inv (cP X scope C (own++cap) fp s H) P aS H' s'->N aS H'->G s')->ST (uz scope C X.env) D G s')
  (I2:Inv X ae σ H2 s2) (I3:Inv X ae σ (aQ H2 s2.heap.objs.size o) { s2 with heap:=s2.heap.push ob }) (T:Turn X.prog X.w X.K tg J fp it tn) (fE:tn 0 s2.heap) (f2:∀b∈fp,eQ X ae H2 b)
  (q:∀acc,H2 acc=none->tLp g tt (CF acc) J (dr own.length ix σ) (aQ H2 acc o) λ_ H'=>Q (.ref acc) H')
  (HA:∀D C H' s' m,Inv X ae σ H' s'->Q (.ref D) H'->s'.heap.Ns C m->eQ X ae H' C->RR (.ref D) C (.ok .next) s') :
  wpAny (model X.prog X.w) X.A (newFunctionEnv scope X.env.globals (dH X.env scope.names []) [] X.env.qual none .none (some X.env)) (λj6 fZ =>
   codeAny (model X.prog X.w) X.A (.compStart ce 0 (.ref it) (.ref s2.heap.objs.size) { j6 with scope:=relabel scope X.env }) (RR (.ref s2.heap.objs.size) j6.locals) fZ) E { s2 with heap:=s2.heap.push ob }:=by
 apply vz ?_;let q:=q s2.heap.objs.size I2.fresh;generalize hD:s2.heap.objs.size=D at I3 q ⊢;let cD:∀b∈fp,b<D:=λb gJ=>by
  let⟨o,e,_⟩:=T.obj 0 _ fE b gJ;rw[<- hD];exact Zr e
 generalize hs3:({ s2 with heap:=s2.heap.push ob }:Shared)=s3 at I3 ⊢;let Mq:∀b o,s2.heap.get? b=some o->s3.heap.get? b=some o:=λb o e=>by rw[<- hs3];exact Zm _ e
 let f3:∀b∈fp,eQ X ae (aQ H2 D o) b:=λb gJ=>⟨by rw[dg (Ye (cD b gJ))];exact(f2 b gJ).1,(f2 b gJ).2⟩
 let I4:=I3.block B f3 λb gJ=>let ⟨o,e,_⟩:=T.obj 0 _ fE b gJ;⟨o,Mq b o e⟩
 let vZ:tn 0 (pushCells (s3.heap.push { cls:=.type "dict",data:=.dict #[] }) scope.names):=T.keep 0 _ _ fE λb _ o e=>pushCells_keeps _ _ b o (Zm _ (Mq b o e))
 let⟨hg,ZW,he⟩:=hb s3.heap.objs.size fp s3 (aQ H2 D o);let loop:codeAny (model X.prog X.w) X.A (.compLoop ce 0 (.ref it) (.ref D) (uz scope s3.heap.objs.size X.env)) (RR (.ref D) s3.heap.objs.size) { s3 with heap:=pushCells (s3.heap.push { cls:=.type "dict",data:=.dict #[] }) scope.names }:=by
  apply Mh (X:=cP X scope s3.heap.objs.size (own++cap) fp s3 (aQ H2 D o)) hc rfl (L s3.heap.objs.size D) hg ZW (he D) T vZ (λH' hn b gJ=>⟨hn b gJ,(I4.ok.WV b gJ).1,I4.ok.Dr b gJ,.inl gJ,(I4.ok.WV b gJ).2,λp hp=>absurd (show p∈([]:Γ2) from hp) (by simp)⟩) (λb gJ=>(f3 b gJ).1) I4 q λAK H5 s6 I6 qn=>?_
  let J6:Inv X ae σ H5 s6:=I3.V9 (ch:=fp) I6.os I6.base I6.cc I6.bare λb gJ=>⟨(f3 b gJ).2.2.2.1,(f3 b gJ).2.1,(f3 b gJ).2.2.2.2.1,(f3 b gJ).2.2.2.2.2⟩
  let⟨m,hn,_⟩:=I6.loc;exact HA D _ H5 s6 m J6 qn hn (I3.jC (Ze _) I6.free)
 exact m4 _ _ _ _ loop (T.self X.A 0 _ _ _ vZ loop)
def Ax {X':Cx}{P:Γ2}{D:Addr}{σ:St}{H:Hp}{s:Shared}{N:St->Hp->Prop}{G:Shared->Prop}(he:PE X' gk te)(ex:X'.xe=λ_ _=>False)(I:Inv X' P σ H s)(q:te σ H λy H5=>∃ys,H5 D=some (.lst ys)/\ys.length<sizeLine/\N σ (aQ H5 D (.lst (ys++[y]))))(k:∀aS H' s',Inv X' P aS H' s'->N aS H'->G s') :
  wpAny (model X'.prog X'.w) X'.A (eval gk X'.env) (λx fZ=>wpAny (model X'.prog X'.w) X'.A (call (.builtin "list.append") [.ref D,x]) (λ_ m8=>G m8) (λ_ _=>False) fZ) (λ_ _=>False) s:=by
 let a3:=he _ s σ H _ I q;rw[ex] at a3;apply bE a3 λyv Ru ⟨y,Sa,Tl,K3,ys,SJ,hz,So⟩=>?_
 let a4:=ql (X:=X') _ Ru σ Sa (.ref D) [y] (.ref D) [yv] (λv H'=>v=.cg/\N σ H') Tl rfl (.cons K3 .nil) ⟨D,ys,y,(),(),SJ,hz,(),So⟩;rw[ex] at a4;exact bE a4 λ_ Wx ⟨_,W6,Nw,_,_,Sn⟩=>k _ _ _ Nw Sn
def qz {ae:Γ2}{σ:St}{H2:Hp}{s2:Shared}{it:Addr}{fp:List Addr}{tn:Nat->Heap->Prop}{J:It}{Q:VK}{E:Θ2}{RR:Value->Addr->Result->Shared->Prop}
  (B:aM X scope own cap ix) (hc:X.calm=true)
  (hb:∀C fp s H,PG (cP X scope C (own++cap) fp s H) tg g/\dj (cP X scope C (own++cap) fp s H) eu tt/\PE (cP X scope C (own++cap) fp s H) gk te)
  (I2:Inv X ae σ H2 s2) (T:Turn X.prog X.w X.K tg J fp it tn) (fE:tn 0 s2.heap) (f2:∀b∈fp,eQ X ae H2 b)
  (q:∀acc,H2 acc=none->gR g tt te J acc (dr own.length ix σ) H2 Q)
  (HA:∀D C H' s' m,Inv X ae σ H' s'->Q (.ref D) H'->s'.heap.Ns C m->eQ X ae H' C->RR (.ref D) C (.ok .next) s') :
  wpAny (model X.prog X.w) X.A (newList []) (λacc iG=>wpAny (model X.prog X.w) X.A (newFunctionEnv scope X.env.globals (dH X.env scope.names []) [] X.env.qual none .none (some X.env)) (λj6 fZ =>
   codeAny (model X.prog X.w) X.A (.compStart (.ListComp gk [⟨tg,iter,eu,0⟩] scope pos) 0 (.ref it) acc { j6 with scope:=relabel scope X.env }) (RR acc j6.locals) fZ) E iG) E s2 :=
 wpAny_newObj_type (zk (CF:=λD σ H N=>te σ H λy H5=>∃ys,H5 D=some (.lst ys)/\ys.length<sizeLine/\N σ (aQ H5 D (.lst (ys++[y]))))
  (ST:=λenv D G=>wpAny (model X.prog X.w) X.A (eval gk env) (λx fZ=>wpAny (model X.prog X.w) X.A (call (.builtin "list.append") [.ref D,x]) (λ_ m8=>G m8) (λ_ _=>False) fZ) (λ_ _=>False)) B hc
  (λC D=>mL (compTurn_list ..) λG R E s h k=>Za (Za (wpAny_mono h (λx fZ wF=>Za (wpAny_mono wF (λ_ m8 wE=>wpAny_pure (wpAny_pure (k _ wE))) λ_ _ h'=>h'.elim)) λ_ _ h'=>h'.elim)))
  (λ_ _ _ _=>codeAny_compStart_list) (λC fp s H=>⟨(hb C fp s H).1,(hb C fp s H).2.1,λD P σ H' s' N G I q k=>Ax (hb C fp s H).2.2 rfl I q k⟩) I2 (I2.NZ (its:=[]) (ys:=[]) (t':=s2.toks) .nil (Z7 _)) T fE f2 q HA)
def yB (B:aM X scope own cap ix)(hc:X.calm=true)(hi:PI X tg iter wi)
  (hb:∀C fp s H,PG (cP X scope C (own++cap) fp s H) tg g/\dj (cP X scope C (own++cap) fp s H) eu tt/\PE (cP X scope C (own++cap) fp s H) gk te)
  (hs:∀x,foldedSetIterable iter X.env x=pure x:=by intro _;rfl):PE X (.ListComp gk [⟨tg,iter,eu,0⟩] scope pos) (yH wi g tt te own.length ix):=by
 intro ae s σ H Q I h;rw[eval_ListComp];let has:∀x∈scope.names,x.2=.free->(X.env.cells.lookup x.1).isSome=true:=λx hx hk=>by
  let⟨c,e⟩:=I.ok.has x.1 (B.frees x hx hk);rw[e];rfl
 apply wpAny_comprehension_free (use:=none) rfl hs (RI has) B.kind B.names ?_;show wpAny _ _ (eval iter X.env) _ _ s;apply bE (hi ae s σ H _ I h) λv s1 h1=>bE h1 λHo s2 h2=>?_
 let⟨it,fp,tn,J,H2,e,I2,T,fE,f2,q⟩:=h2;subst e;apply qz (RR:=λacc C=>compPost (model X.prog X.w) X.A X.xe none (EP X ae σ Q) acc C) B hc hb I2 T fE f2 q ?_;intro D C H' s' m I' q' hn fC;apply⟨m,hn,λh' tK=>⟨.ref D,H',?_,(),q'⟩⟩;exact I'.turned (t':=s'.toks) (it:=C) (λb o CY e=>(tK.2 b CY).trans e) fC.1 fC.2.1 fC.2.2.2.1 fC.2.2.2.2.1 fC.2.2.2.2.2
def zO (hN:X.N.Nodup)(Hw:X.N[i]?=some y)(hx:X.env.scope.names.lookup y=some .local)(B:aM X scope own cap ix)(hc:X.calm=true)(hi:PI X tg iter wi)
  (hb:∀C fp s H,PG (cP X scope C (own++cap) fp s H) tg g/\dj (cP X scope C (own++cap) fp s H) eu tt/\PE (cP X scope C (own++cap) fp s H) gk te)
  (CT:swapsWith (.ListComp gk [⟨tg,iter,eu,0⟩] scope pos) (some (.Name y py)) qR.line X.env=pure true:=by rfl)
  (hs:∀x,foldedSetIterable iter X.env x=pure x:=by intro _;rfl):PS X (.Assign [.Name y py] (.ListComp gk [⟨tg,iter,eu,0⟩] scope pos) qR) (Dc (yH wi g tt te own.length ix) (fg i)):=by
 intro ae s σ H D I h;rw[exec_Assign_Name_used _ _ _ _ CT];let has:∀x∈scope.names,x.2=.free->(X.env.cells.lookup x.1).isSome=true:=λx hx hk=>by
  let⟨c,e⟩:=I.ok.has x.1 (B.frees x hx hk);rw[e];rfl
 apply Za (wpAny_standAt (Za ?_));show wpAny _ X.A (do let _ <- comprehension (.ListComp gk [⟨tg,iter,eu,0⟩] scope pos) scope X.env _ (newList []) false (eval iter X.env) (some (assign (.Name y py) X.env))) _ _ s;apply Za (wpAny_mono (wpAny_comprehension_free (use:=some (assign (.Name y py) X.env)) (Q:=λ_ s'=>SP X ae D .next s') rfl hs (RI has) B.kind B.names ?_) (λ_ s' hq=>wpAny_pure (wpAny_pure hq)) λ_ _ e=>e);apply bE (hi ae s σ H _ I h) λv s1 h1=>bE h1 λHo s2 h2=>?_
 let⟨it,fp,tn,J,H2,e,I2,T,fE,f2,q⟩:=h2;subst e;apply qz (RR:=λacc C=>compPost (model X.prog X.w) X.A X.xe (some (assign (.Name y py) X.env)) (λ_ s'=>SP X ae D .next s') acc C) B hc hb I2 T fE f2 q ?_;intro Da C H' s' m I' q' hn fC;show wpAny _ X.A (assign (.Name y py) X.env (.ref Da)) _ _ s';let⟨oC,es,ep,ZM,S4,r⟩:=id hn;let Ip:Inv X (ae++[(C,oC)]) σ H' s':=I'.my λp hp=>by
  rcases Zw.mp hp with z |z
  .exact I'.pin p (Yl _ z)
  .obtain rfl:p=(C,oC):=by simpa using z
   exact⟨ZM,fC.1,fC.2.1,fC.2.2.1,λv e=>by rw[S4] at e;cases e⟩
 apply wpAny_assign_Name (ft Ip hN Hw (.inl hx) (v:=.ref Da) rfl (λMV Tn=>?_) (.inr hx));let pC:=(Tn.pin (C,oC) (Yl _ (Yl _ (by simp)))).1;apply⟨m,⟨oC,es,ep,pC,S4,r⟩,λh' tK=>⟨_,H',?_,q'⟩⟩;exact Tn.gD.turned (t':=MV.toks) (it:=C) (λb o CY e=>(tK.2 b CY).trans e) fC.1 fC.2.1 fC.2.2.2.1 fC.2.2.2.2.1 fC.2.2.2.2.2
end
def tv:V->Bool
 |.bl b=>b
 |.int i=>i != 0
 |_=>false
def fj:V->Bool
 |.bl _=>true
 |.int _=>true
 |.cg=>true
 |_=>false
def kI (r:RelV x v)(p:fj x=true)(h:Q (tv x) s):wpAny (model prog w) A (truthy v) Q E s:=by
 cases x with
 |cg=>cases r;exact truthy_none h
 |bl b=>cases r;exact wpAny_truthy_bool h
 |int i=>let⟨t,rfl⟩:=r;exact PySem.P.truthy_int h
 |_=>cases p
def all_range {xs:List V}(hn:n=xs.length)(f:V->Bool):(List.range n).all (λi=>(xs[i]?.map f).getD true)=xs.all f:=by
 subst hn;rw[Yb];simp only[Yf,Zh];constructor
 .intro h x hx;let⟨i,hi,e⟩:=Qg.mp hx;have:=h i hi;rw[Zc hi,e] at this;simpa using this
 .intro h i hi;rw[Zc hi];simpa using h _ (Zv hi)
def any_range {xs:List V}(hn:n=xs.length)(f:V->Bool):(List.range n).any (λi=>(xs[i]?.map f).getD false)=xs.any f:=by
 subst hn;rw[Yb];simp only[Z6,Zh];constructor
 .rintro⟨i,hi,h⟩;rw[Zc hi] at h;exact⟨_,Zv hi,by simpa using h⟩
 .rintro⟨x,hx,h⟩;let⟨i,hi,e⟩:=Qg.mp hx;exact⟨i,hi,by rw[Zc hi,e];simpa using h⟩
section
def gE (I:Inv X ae σ H s)(hA:A.handled=none)(h:bG X.K H p xs\/aK X.K H p xs)
  (k:∀(it:Addr) (fp wr:List Addr) (its:Δ3) (St:Nat->Heap->Prop) (s2:Shared),bh xs its->Walks X.prog X.w A it fp wr its.length (λi v=>its[i]?=some v) St->St 0 s2.heap->(∀b∈fp,b<s2.heap.objs.size) ->
   (∀h' tk,(∀b o,b∉wr->s2.heap.get? b=some o->h'.get? b=some o)->Inv X ae σ H { s2 with heap:=h',toks:=tk })->Q (.ref it) s2) :
  wpAny (model X.prog X.w) A (pyIter (.ref p)) Q E s:=by
 rcases h with h |h
 .obtain⟨its,rv,pl,hz⟩:=I.list h;let hp:p<s.heap.objs.size:=by let⟨o,n,e,_⟩:=pl;exact Zr e
  apply wpAny_pyIter_list pl.isList ?_;let W:=Walks.list (prog:=X.prog) (w:=X.w) (A:=A) hA s.heap.objs.size p (Ye hp) its.toArray;apply k s.heap.objs.size [s.heap.objs.size,p] [s.heap.objs.size] its (λi h=>h.IsListIter s.heap.objs.size p i/\h.IsList p its.toArray) _ rv (by simpa using W) ⟨⟨_,Zz _ rfl,(),()⟩,pl.isList.push _⟩ (λb hb=>?_) (λh' tk hk=>?_)
  .show b<(s.heap.push _).objs.size;rw[Y5]
   grind
  .exact I.kept (t':=tk) λb o e=>hk b o (λz=>Yj _ (by have:=Zr e;simp at z;rw[z] at this;exact this)) (Zm _ e)
 .obtain⟨its,rv,pl,hz⟩:=I.tuple h;let hp:p<s.heap.objs.size:=by let⟨o,e,_⟩:=pl;exact Zr e
  let pt:s.heap.IsTuple p its.toArray:=pl;apply wpAny_pyIter_tuple pt ?_;let W:=Walks.tuple (prog:=X.prog) (w:=X.w) (A:=A) hA s.heap.objs.size p (Ye hp) its.toArray;apply k s.heap.objs.size [s.heap.objs.size,p] [s.heap.objs.size] its (λi h=>h.IsTupleIter s.heap.objs.size p i/\h.IsTuple p its.toArray) _ rv (by simpa using W) ⟨⟨_,Zz _ rfl,(),()⟩,?_⟩ (λb hb=>?_) (λh' tk hk=>?_)
  .obtain⟨o,e,r⟩:=pt;exact⟨o,Zm _ e,r⟩
  .show b<(s.heap.push _).objs.size;rw[Y5]
   grind
  .exact I.kept (t':=tk) λb o e=>hk b o (λz=>Yj _ (by have:=Zr e;simp at z;rw[z] at this;exact this)) (Zm _ e)
def bh.at {i:Nat}(r:bh xs us)(e:us[i]?=some v):∃x,xs[i]?=some x/\RelV x v:=by
 let hi:i<us.length:=(Zf.mp e).1;let hx:i<xs.length:=by rw[r.length];exact hi
 let⟨u,h1,h2⟩:=r.get (Zc hx);rw[e] at h1;cases h1;exact⟨_,Zc hx,h2⟩
def GD (hc:X.calm=true):cn X (.builtin "all") (λxs H Q=>∃p ys,xs=[.ref p]/\(bG X.K H p ys\/aK X.K H p ys)/\ys.all fj=true/\Q (.bl (ys.all tv)) H):=by
 intro ae s σ H xs us Q I r h;let⟨p,ys,rfl,hs,hp,q⟩:=h;let⟨u,rfl,ru⟩:=vals1 r;cases ru;apply call_all_walk (gE I (A:=X.A.in1) (I.ok.hd hc) hs λit fp wr its St s2 rv W st CW hk=>?_);apply⟨it,fp,wr,its.length,_,St,(λi=>(ys[i]?.map tv).getD true),(),W,st,λi v s' Q' E' hv hq=>?_,λh' tk kk=>⟨.bl (ys.all tv),H,hk h' tk kk,?_,q⟩⟩
 .obtain⟨x,ex,rx⟩:=rv.at hv;simp only[ex,Y1,Xz] at hq;exact kI rx (Yf.mp hp x (Z0 ex)) hq
 .rw[all_range rv.length.symm];rfl
def GC (hc:X.calm=true):cn X (.builtin "any") (λxs H Q=>∃p ys,xs=[.ref p]/\(bG X.K H p ys\/aK X.K H p ys)/\ys.all fj=true/\Q (.bl (ys.any tv)) H):=by
 intro ae s σ H xs us Q I r h;let⟨p,ys,rfl,hs,hp,q⟩:=h;let⟨u,rfl,ru⟩:=vals1 r;cases ru;apply call_any_walk (gE I (A:=X.A.in1) (I.ok.hd hc) hs λit fp wr its St s2 rv W st CW hk=>?_);apply⟨it,fp,wr,its.length,_,St,(λi=>(ys[i]?.map tv).getD false),(),W,st,λi v s' Q' E' hv hq=>?_,λh' tk kk=>⟨.bl (ys.any tv),H,hk h' tk kk,?_,q⟩⟩
 .obtain⟨x,ex,rx⟩:=rv.at hv;simp only[ex,Y1,Xz] at hq;exact kI rx (Yf.mp hp x (Z0 ex)) hq
 .rw[any_range rv.length.symm];rfl
theorem lR (ns:Γ3):∀k,k<=ns.length->preSum (λi=>(ns[i]?).getD 0) k=(ns.take k).sum
 |0,_=>by simp[preSum]
 |k+1,h=>by
  let hk:k<ns.length:=h;rw[preSum,lR ns k (Nat.le_of_lt hk),Zc hk];let e:ns.take (k+1)=ns.take k++[ns[k]]:=by rw[List.take_add_one,Zc hk];rfl
  rw[e,List.sum_append];simp
def GB (hc:X.calm=true):cn X (.builtin "sum") (λxs H Q=>∃(p:Addr) (ns:Γ3),xs=[.ref p]/\(bG X.K H p (ns.map V.int)\/aK X.K H p (ns.map V.int))/\Q (.int ns.sum) H):=by
 intro ae s σ H xs us Q I r h;let⟨p,ns,rfl,hs,q⟩:=h;let⟨u,rfl,ru⟩:=vals1 r;cases ru;apply call_sum_walkG (gE I (A:=X.A.in1) (I.ok.hd hc) hs λit fp wr its St s2 rv W st CW hk=>?_);apply⟨it,fp,wr,its.length,_,St,(λi=>(ns[i]?).getD 0),(),W,st,CW,λi v hv=>?_,λh' tk t' kk=>⟨.int ns.sum,H,hk h' tk kk,⟨t',?_⟩,q⟩⟩
 .obtain⟨x,ex,rx⟩:=rv.at hv;rw[Zo] at ex;cases e:ns[i]? with
  |none=>rw[e] at ex;cases ex
  |some n =>
   rw[e] at ex;cases ex;simp only[e,Xz];exact rx
 .let hl:its.length=ns.length:=by rw[<- rv.length,Zb]
  rw[hl,lR ns _ (Ze _),Yp]
def Ci (hc:X.calm=true):cn X (.builtin "max") (λxs H Q=>∃(p:Addr) (ns:Γ3),xs=[.ref p]/\(bG X.K H p (ns.map V.int)\/aK X.K H p (ns.map V.int))/\ns≠[]/\∀m,m∈ns->(∀n∈ns,n<=m)->Q (.int m) H):=by
 intro ae s σ H xs us Q I r h;let⟨p,ns,rfl,hs,bv,q⟩:=h;let⟨u,rfl,ru⟩:=vals1 r;cases ru;apply call_max_walk (gE I (A:=X.A.in1) (I.ok.hd hc) hs λit fp wr its St s2 rv W st CW hk=>?_);let hl:its.length=ns.length:=by rw[<- rv.length,Zb]
 let eP:0<ns.length:=Xi.mpr bv;let val:∀(i:Nat) (v:Value),its[i]?=some v->∃t,v=Value.int ((ns[i]?).getD 0) t:=λi v hv=>by
  let⟨x,ex,rx⟩:=rv.at hv;rw[Zo] at ex;cases e:ns[i]? with
  |none=>rw[e] at ex;cases ex
  |some n =>
   rw[e] at ex;cases ex;exact rx
 apply⟨it,fp,wr,its.length,_,St,(λi j=>decide ((ns[i]?).getD 0>(ns[j]?).getD 0)),(),W,st,CW,⋯,CmpOf.ints_gt (λi=>(ns[i]?).getD 0) val,λv h' tk hP kk=>?_⟩;let⟨t,rfl⟩:=val _ _ hP;let⟨h1,h2⟩:=argBest_gt (λi=>(ns[i]?).getD 0) (its.length-1);let cD:argBest (λi j=>decide ((ns[i]?).getD 0>(ns[j]?).getD 0)) (its.length-1)<ns.length:=by
  omega
 apply⟨.int _,H,hk h' tk kk,⟨t,()⟩,q _ ?_ λn hn=>?_⟩
 .rw[Zc cD];exact Zv cD
 .obtain⟨i,hi,e⟩:=Qg.mp hn;have:=h2 i ⋯;simp only[Zc hi,Xz] at this;rw[<- e];exact this
end
def Tu (K:Θ1)(c:Value)(te:TE):TE:=λσ H Q=>te σ H λx H1=>∃t b,jD K H1 x t/\PySem.W.kitOne K t c=some b/\Q (.bl b) H1
section
def abg (ha:PE X a ta)(I:Inv X ae σ H s)(h:ta σ H R)
  (hs:starEach [a,b] X.env=[(false,eval a X.env),(false,eval b X.env)]) (k:∀u s1 x H1,Inv X ae σ H1 s1->RelV x u->R x H1->wpAny (model X.prog X.w) X.A (eval b X.env) (λv s2=>Q [u,v] s2) X.xe s1) :
  wpAny (model X.prog X.w) X.A (spliced (backTo pos (starEach [a,b] X.env))) Q X.xe s:=by
 rw[hs];apply Calls.spliced_cons (bE (ha ae s σ H _ I h) λu s1 ⟨x,H1,I1,r,q⟩=>?_);exact Calls.spliced_cons (bE (k u s1 x H1 I1 r q) λv s2 h2=>Calls.spliced_nil h2)
def JO (he:PE X e te)(hg:Gl X "isinstance")(hm:X.mg "isinstance"=none)(y':Gl X T)(ZP:X.mg T=none)(hv:bootBuiltins T=some (.type n))
  (hb:bootBuiltins "isinstance"=some (.builtin "isinstance")) (ZO:T ≠ "__name__":=by decide) (T':(T == ("__debug__" : Str))=false:=by decide)
  (hs:starEach [e,.Name T p2] X.env=[(false,eval e X.env),(false,eval (.Name T p2) X.env)]:=by rfl)
  (lW:(backTo pos (starEach [.Name T p2] X.env)).any (·.1)=false:=by rfl):PE X (.Call (.Name "isinstance" p) [e,.Name T p2] [] pos) (Tu X.K (.type n) te):=by
 intro ae s σ H Q I h;apply Call_ (gh I hg hm hb (PyProof.Rows.callWith_builtin1 (abg (Q:=λus s1=>wpAny (model X.prog X.w) X.A (call (.builtin "isinstance") us) (EP X ae σ Q) X.xe s1) he I h hs λu s1 x H1 I1 r q=>?_) ?_ lW))
 .apply gh I1 y' ZP hv ?_ ZO T';let⟨t,b,ty,ek,q⟩:=q;exact B0 I1 r ty ek λtk=>⟨.bl b,H1,I1.tok tk,(),q⟩
 .rw[hs];rfl
end
mutual
inductive l9 (K:Θ1) (H:Hp):V->PyData->Prop
 |cg:l9 K H .cg .none
 |bl (b:Bool):l9 K H (.bl b) (.bool b)
 |int (i:Int):l9 K H (.int i) (.int i)
 |str (x:Str) (ok:(PyData.str x).canLay0=true):l9 K H (.str x) (.str x)
 |lst {a:Addr}{xs:List V}{ds:Ξ1}:bG K H a xs->fe K H xs ds->l9 K H (.ref a) (.list ds)
 |tup {a:Addr}{xs:List V}{ds:Ξ1}:aK K H a xs->fe K H xs ds->l9 K H (.ref a) (.tuple ds)
inductive fe (K:Θ1) (H:Hp):List V->Ξ1->Prop
 |nil:fe K H [] []
 |cons {x:V}{xs:List V}{d:PyData}{ds:Ξ1}:l9 K H x d->fe K H xs ds->fe K H (x::xs) (d::ds)
end
section
mutual
theorem l9.reads (I:Inv X ae σ H s):∀{x:V}{d:PyData}{u:Value},l9 X.K H x d->RelV x u->∃as,Reads s.heap u d as
 |_,_,_,.cg,r=>by cases r;exact⟨_,.none⟩
 |_,_,_,.bl b,r=>by cases r;exact⟨_,.bool b⟩
 |_,_,_,.int i,r=>by let⟨t,rfl⟩:=r;exact⟨_,.int i t⟩
 |_,_,_,.str x _,r=>by let⟨t,rfl⟩:=r;exact⟨_,.str x t⟩
 |_,_,_,.lst hq h,r=>by
  cases r
  let⟨its,rv,⟨o,n,e,c,_,d⟩,_⟩:=I.list hq;let⟨as,ra⟩:=fe.reads I h rv;exact⟨_,.list e c d (by simpa using ra)⟩
 |_,_,_,.tup hq h,r=>by
  cases r
  let⟨its,rv,⟨o,e,c,n,d⟩,_⟩:=I.tuple hq;let⟨as,ra⟩:=fe.reads I h rv;exact⟨_,.tuple e c d (by simpa using ra)⟩
theorem fe.reads (I:Inv X ae σ H s):∀{xs:List V}{ds:Ξ1}{us:Δ3},fe X.K H xs ds->bh xs us->∃as,ReadsAll s.heap us ds as
 |_,_,_,.nil,r=>by cases r;exact⟨_,.nil⟩
 |_,_,_,.cons h t,r=>by
  cases r with
  |cons r1 r2 =>
   let⟨as,ra⟩:=l9.reads I h r1;let⟨bs,rb⟩:=fe.reads I t r2;exact⟨_,.cons ra rb⟩
end
mutual
theorem l9.lay {K:Θ1}:∀{x:V}{d:PyData},l9 K H x d->d.canLay0=true
 |_,_,.cg=>rfl
 |_,_,.bl b=>rfl
 |_,_,.int i=>rfl
 |_,_,.str x ok=>ok
 |_,_,.lst hq h=>by have:=fe.lay h;simpa[PyData.canLay0] using this
 |_,_,.tup hq h=>by have:=fe.lay h;simpa[PyData.canLay0] using this
theorem fe.lay {K:Θ1}:∀{xs:List V}{ds:Ξ1},fe K H xs ds->PyData.canLayAll0 ds=true
 |_,_,.nil=>rfl
 |_,_,.cons h t=>by have h1:=l9.lay h;let h2:=fe.lay t;simp[PyData.canLayAll0,h1,h2]
end
end
section
def HR (K:Θ1):R2:=λx y H Q=>∃dx dy,l9 K H x dx/\l9 K H y dy/\min dx.depth dy.depth<=60/\Q (.bl (PyData.eqv dx dy)) H
def HP (K:Θ1):R2:=λx y H Q=>∃dx dy,l9 K H x dx/\l9 K H y dy/\min dx.depth dy.depth<=60/\Q (.bl (!PyData.eqv dx dy)) H
def Pz (hu:X.A.units+64<cLine):eE X (compareOp .Eq) (HR X.K):=by
 intro ae s σ H x y v u Q I rx ry h;let⟨dx,dy,hx,hy,hd,q⟩:=h;let⟨as,ra⟩:=hx.reads I rx;let⟨bs,rb⟩:=hy.reads I ry;exact SeqAt.eqOverData X.prog X.w X.A X.xe s v u dx dy as bs _ ra rb hx.lay hy.lay ⋯ ⟨.bl (PyData.eqv dx dy),H,I,(),q⟩
def Py (hu:X.A.units+64<cLine):eE X (compareOp .NotEq) (HP X.K):=by
 intro ae s σ H x y v u Q I rx ry h;let⟨dx,dy,hx,hy,hd,q⟩:=h;let⟨as,ra⟩:=hx.reads I rx;let⟨bs,rb⟩:=hy.reads I ry;exact SeqAt.neOverData X.prog X.w X.A X.xe s v u dx dy as bs _ ra rb hx.lay hy.lay ⋯ ⟨.bl (!PyData.eqv dx dy),H,I,(),q⟩
end
end L2
namespace PySem
def YU (Nd:s.heap.IsTupleIter it l i)
  (hl:s.heap.IsTuple l items) (hx:items[i]?=some x)
  (hQ:∀h',h'.IsTupleIter it l (i+1)->Heap.SameBut it s.heap h'->Q x { s with heap:=h' }) :
  wpAny (model prog w) A (Builtin.SmallTypes.nextOf (.ref it)) Q E s:=by
 let⟨o,ho,hc,hd⟩:=id Nd;let⟨ol,ZL,_,nl,RS⟩:=hl;let Ht:s.TypeIs (.ref it) "tuple_iterator":=⟨o,ho,hc⟩;unfold Builtin.SmallTypes.nextOf;apply Za (wpAny_callSpecial?_slot (name:=Str.ofString "__next__") Ht PyProof.Rows.slot_tupleiter_next
  (wpAny_call_entry PyProof.Rows.slot_tupleiter_next Ht PyProof.Rows.entry_tupleiter_next ?_ (PyProof.Rows.args_tupleiter_next _)))
 show wpAny _ _ (field (.ref it) 0 >>= _) _ _ s;apply Za (wpAny_field ho hd (x:=.ref l) rfl ?_);show wpAny _ _ (if (Value.ref l == Value.none)=true then _ else _) _ _ s;rw[if_neg (show ¬ ((Value.ref l == Value.none)=true) from Z3)];show wpAny _ _ (field (.ref it) 1 >>= _) _ _ s;apply Za (wpAny_field ho hd (x:=.int i 0) rfl ?_);show wpAny _ _ (seqItems? (.ref l) >>= _) _ _ s;apply Za (wpAny_seqItems ZL RS ?_);simp only[Z1,hx];apply Za (wpAny_setField ho hd (by simp) (wpAny_pure ⟨x,(),wpAny_pure (hQ _ ?_ (Heap.SameBut.update ..))⟩));exact⟨_,Qm _ ho (Obj.isFreed_of_fields (Obj.data_mapFields hd _)),(Obj.cls_mapFields ..).trans hc,by
  rw[Obj.data_mapFields hd];simp[rawInt]⟩
def YT (hh:A.handled=none)
  (Nd:s.heap.IsTupleIter it l i) (hl:s.heap.IsTuple l items) (hx:items[i]?=none)
  (hE:∀h' e,Heap.ExtBut it s.heap h'->(∃o,h'.get? e=some o/\o.cls=.type "StopIteration")->E (.ref e) { s with heap:=h' }) :
  wpAny (model prog w) A (Builtin.SmallTypes.nextOf (.ref it)) Q E s:=by
 let⟨o,ho,hc,hd⟩:=id Nd;let⟨ol,ZL,_,nl,RS⟩:=hl;let Ht:s.TypeIs (.ref it) "tuple_iterator":=⟨o,ho,hc⟩;unfold Builtin.SmallTypes.nextOf;apply Za (wpAny_callSpecial?_slot (name:=Str.ofString "__next__") Ht PyProof.Rows.slot_tupleiter_next
  (wpAny_call_entry PyProof.Rows.slot_tupleiter_next Ht PyProof.Rows.entry_tupleiter_next ?_ (PyProof.Rows.args_tupleiter_next _)))
 show wpAny _ _ (field (.ref it) 0 >>= _) _ _ s;apply Za (wpAny_field ho hd (x:=.ref l) rfl ?_);show wpAny _ _ (if (Value.ref l == Value.none)=true then _ else _) _ _ s;rw[if_neg (show ¬ ((Value.ref l == Value.none)=true) from Z3)];show wpAny _ _ (field (.ref it) 1 >>= _) _ _ s;apply Za (wpAny_field ho hd (x:=.int i 0) rfl ?_);show wpAny _ _ (seqItems? (.ref l) >>= _) _ _ s;apply Za (wpAny_seqItems ZL RS ?_);simp only[Z1,hx];apply Za (wpAny_rule (Za (wpAny_setField ho hd (by simp) ?_)));show wpAny _ _ (newExc (.type "StopIteration") [] >>= _) _ _ _;apply Za ?_;simp only[newExc,newTuple];apply Za (wpAny_newObj_type ?_ (by size_fits));apply Za (m:=firstArgMember _ _) (wpAny_of_eq (a:=Value.none) (by first |rfl |(simp only[firstArgMember];rfl)) ?_);apply wpAny_newObj_type ?_ (by size_fits);simp only[raiseNew];apply Za (wpAny_handled ?_)
 first |rw[show A.in1.handled=none from hh] |rw[hh]
 apply Za (wpAny_pure (wpAny_throw ?_));exact hE _ _ (((Heap.SameBut.update ..).extBut.push _).push _) ⟨_,Zz _ rfl,()⟩
def Draws.tup {prog:Program}{w:World}{A:Around}(hh:A.handled=none)(it l:Addr)(bv:l≠it)(items:Array Value) :
  Draws prog w A it [it,l] items.size (λi v=>items[i]?=some v) (λi h=>h.IsTupleIter it l i/\h.IsTuple l items) where
 live:=λ_ _ st=>let ⟨o,ho,_⟩:=st.1;⟨o,ho⟩
 frame:=λ_ _ _ st hk=>⟨let ⟨o,e,r⟩:=st.1;⟨o,hk it (by simp) o e,r⟩,let ⟨o,e,r⟩:=st.2;⟨o,hk l (by simp) o e,r⟩⟩
 item:=λi s Q E hi st hQ=>by
  apply YU st.1 st.2 (x:=items[i]) (by simp[hi]) λh' abO hs'=>?_
  let⟨o,e,r⟩:=st.2;exact hQ _ h' s.toks (by simp[hi]) ⟨abO,⟨o,hs'.extBut l o bv e,r⟩⟩ hs'
 done:=λs Q E st hE=>YT hh st.1 st.2 (by simp) hE
set_option maxHeartbeats 1000000 in
def i9 (l:Addr)(items:Array Value)(n:Nat)(Λ:Option Addr)(sl:Array (Option Value)) :
  Meets (Builtin.«enumerate.__new__» ⟨[.type "enumerate",.ref l],[]⟩) (λ_ R s=>s.heap.get? l=some { cls:=.type "tuple",dict:=Λ,data:=.seq items n,slots:=sl } /\
   R (.ok (.ret (.ref (s.heap.push { cls:=.type "tuple_iterator",data:=.fields #[.ref l,.int 0 0] }).objs.size)))
    { s with heap:=(s.heap.push { cls:=.type "tuple_iterator",data:=.fields #[.ref l,.int 0 0] }).push { cls:=.type "enumerate",data:=.fields #[.none,.bool false,.ref s.heap.objs.size,rawInt 0,.none,.none] } }) :=
 .of_wp λprog w A R s h=>by
  let⟨hp,g,d,tk,os⟩:=s;let⟨hl,h⟩:=h;let abJ:=sub_enumerate;let hL:Heap.IsTuple (Shared.heap ⟨hp,g,d,tk,os⟩) l items:=⟨_,hl,(),n,()⟩
  wp_walk using AutoSeq1.wpAny_loadPart' hl
  apply wpAny_stack_any λst=>wpAny_pure ?_
  split
  .rename_i c _ _ _ _ _;cases (c == Value.type "enumerate")
   .wp_walk using AutoSeq1.wpAny_loadPart' hl,wpAny_pyIter_tuple hL
    exact⟨_,(),h⟩
   .wp_walk using AutoSeq1.wpAny_loadPart' hl,wpAny_pyIter_tuple hL
    exact⟨_,(),h⟩
  .wp_walk using AutoSeq1.wpAny_loadPart' hl,wpAny_pyIter_tuple hL
   exact⟨_,(),h⟩
def jY (hL:s.heap.IsTuple l items)
  (h:∀h',IsEnum h' (s.heap.objs.size+1) s.heap.objs.size 0 .none->h'.IsTupleIter s.heap.objs.size l 0->h'.objs.size=s.heap.objs.size+2 ->
   (∀b o,s.heap.get? b=some o->h'.get? b=some o)->Q (.ref (s.heap.objs.size+1)) { s with heap:=h' }) :
  wpAny (model prog w) A (call (.type "enumerate") [.ref l]) Q E s:=by
 let⟨⟨c,Λ,dt,sl⟩,hl,hc,n,hd⟩:=hL
 replace hc:c=.type "tuple":=hc
 replace hd:dt=.seq items n:=hd
 subst hc hd;apply callType_new F.called_enumerate ∅ (F.typeCall_enumerate_1 _) (F.newCall_enumerate_1 _) (λobj=>F.args_object_init_2 obj _) F.entry_enumerate_new
  (i9 l items n Λ sl) ⟨hl,?_⟩
 let hz:(s.heap.push { cls:=.type "tuple_iterator",data:=.fields #[.ref l,.int 0 0] }).objs.size=s.heap.objs.size+1:=Y5 ..;show _/\_;rw[hz];let he:IsEnum ((s.heap.push { cls:=.type "tuple_iterator",data:=.fields #[.ref l,.int 0 0] }).push
   { cls:=.type "enumerate",data:=.fields #[.none,.bool false,.ref s.heap.objs.size,rawInt 0,.none,.none] }) (s.heap.objs.size+1) s.heap.objs.size 0 .none:=by
  have:=Zz (s.heap.push { cls:=.type "tuple_iterator",data:=.fields #[.ref l,.int 0 0] })
   (o:={ cls:=.type "enumerate",data:=.fields #[.none,.bool false,.ref s.heap.objs.size,rawInt 0,.none,.none] }) rfl
  rw[hz] at this;exact this
 apply⟨⟨_,he,()⟩,h _ he ⟨_,Zm _ (Zz _ rfl),(),()⟩ (by rw[Y5,hz]) λb o x=>Zm _ (Zm _ x)⟩
end PySem
namespace PySem
end PySem
namespace PySem
end PySem
namespace L2
open PySem.Spec PyProof.Rows
section
def C7 (K:Θ1)(a:Addr):It :=
 ⟨λi H=>∃xs x,aK K H a xs/\xs[i]?=some x,λi H x H'=>∃p,H p=none/\x=.ref p/\∀xs,aK K H a xs->∃y,xs[i]?=some y/\H'=aQ H p (.tup [.int i,y]),λi H=>∃xs,aK K H a xs/\xs.length<=i⟩
def Inv.jd {ch:List Addr}(I:Inv X ae σ H s)(k:∀b o,b∉ch->s.heap.get? b=some o->h'.get? b=some o)(hf:∀b∈ch,eQ X ae H b) :
  Inv X ae σ H { s with heap:=h',toks:=t' }:=by
 let Sx:∀b u,H b=some u->b∉ch:=λb u e z=>by rw[(hf b z).1] at e;cases e
 apply I.step (g':=s.gens) (d':=s.drawn) (ch:=ch) (λb hb=>⟨(hf b hb).2.2.2.1,(hf b hb).2.1,(hf b hb).2.2.2.2.1,(hf b hb).2.2.2.2.2⟩) (λb o _ _ hc e _=>k b o hc e) (λb o _ _ hc e _=>⟨o.slots,k b o hc e⟩) (λ_ _ _ _ n=>n)
  (λb o hc e=>⟨o,k b o hc e⟩) (λ_ _ e=>e) (λ_ _ _ e=>e) (λb ps e=>⟨#[],by rw[e];simp⟩) (λm hm=>?_) (λb u e=>?_) I.bare
 .obtain⟨o,es,ep,ho,r⟩:=hm;exact⟨o,es,ep,k _ o (λz=>(hf _ z).2.1 rfl) ho,r⟩
 .apply(I.cc b u e).ak (λc v hc q=>k c v ?_ q) (λ_ q=>q) λ_ _ q=>q
  rcases hc with z |z
  .rw[z];exact Sx b u e
  .exact Sx c _ z
def Inv.Dx (I:Inv X ae σ H s)(f:eQ X ae H p)(new:ca X.prog X.w (aQ H p o) s.heap p o):Inv X ae σ (aQ H p o) s:=by
 let ne:∀b u,H b=some u->b≠p:=λb u e z=>by rw[z,f.1] at e;cases e
 have:=I.step (g':=s.gens) (d':=s.drawn) (t':=s.toks) (h':=s.heap) (H':=aQ H p o) (ch:=[p]) (λb hb=>by
   obtain rfl:b=p:=by simpa using hb
   exact⟨f.2.2.2.1,f.2.1,f.2.2.2.2.1,f.2.2.2.2.2⟩) (λb o _ _ _ e _=>e) (λb o _ _ _ e _=>⟨o.slots,e⟩)
  (λb o hc _ n=>by rw[dg (λz=>hc (by simp[z]))];exact n) (λb o _ e=>⟨o,e⟩) (λb xs e=>by rw[dg (ne b _ e)];exact e) (λb o u e=>by rw[dg (ne b _ e)];exact e)
  (λb ps e=>⟨#[],by rw[dg (ne b _ e),e];simp⟩) (λm hm=>hm) (λb u e=>by
   by_cases hb:b=p
   .subst hb;rw[dU] at e;cases e;exact new
   .rw[dg hb] at e;exact(I.cc b u e).ak (λc v _ q=>q) (λc q=>by rw[dg (ne c _ q)];exact q) λc xs q=>by rw[dg (ne c _ q)];exact q) I.bare
 exact this
def Bo {K:Θ1}(a e it:Addr)(Nh:e≠it):Turn P w K (.Tuple t9 kk pos) (C7 K a) [e,it] e (λi h=>(∃old,IsEnum h e it (i:Nat) old)/\h.IsTupleIter it a i) where
 mem:=by simp
 obj:=λi h st b hb=>by
  let⟨⟨old,he⟩,o,e1,c,d⟩:=st;rcases Zk.mp hb with rfl |hb
  .exact⟨_,he,λv z=>by cases z⟩
  .obtain rfl:b=it:=by simpa using hb
   exact⟨o,e1,λv z=>by rw[d] at z;cases z⟩
 keep:=λi h h' st k=>by
  let⟨⟨old,he⟩,o,e1,c,d⟩:=st;exact⟨⟨old,k e (by simp) _ he⟩,o,k it (by simp) _ e1,c,d⟩
 item:=by
  intro X hP hw hK hc i ae s σ H E I hf st hg;subst hP hw hK;let⟨xs,x,hq,hx⟩:=hg;let⟨its,rv,p,hz⟩:=I.tuple hq;let⟨u,hu,ru⟩:=rv.get hx;let⟨⟨old,he⟩,fE⟩:=st;let pt:s.heap.IsTuple a its.toArray:=p;let δ:e≠a:=λz=>by
   let⟨o,e1,c,_⟩:=pt;rw[<- z,he] at e1;cases e1;exact absurd (show Value.type "enumerate"=Value.type "tuple" from c) ∅
  let S6:a≠it:=λz=>by
   let⟨o,e1,c,_⟩:=pt;let⟨o',e2,c',_⟩:=id fE;rw[z,e2] at e1;cases e1;rw[c] at c';exact absurd c' ∅
  let cD:i<its.toArray.size:=by simpa using(Zf.mp hu).1
  let D:=Draws.tup (prog:=X.prog) (w:=X.w) (A:=X.A.in1) (I.ok.hd hc) it a S6 its.toArray;apply wpAny_pyNext_enum_itemD D he ⟨fE,pt⟩ cD Nh (by simp[Nh,δ]) λy h' tk hP G3 m4 ht hsz hk=>?_
  let hy:y=u:=by
   let hP:its.toArray[i]?=some y:=hP;rw[List.getElem?_toArray,hu] at hP;exact(Option.some.inj hP).symm
  subst hy;apply⟨_,(),?_⟩;apply wpAny_letOwnedTupleGo_enum G3 λh2 F' oN=>?_
  replace oN:Heap.SameBut e h' h2:=oN
  let bv:s.heap.objs.size≠e:=Xr (Zr he);let I1:Inv X ae σ H { s with heap:=h2,toks:=tk+1 }:=I.jd (ch:=[e,it]) (λb o hb q=>by
   let b1:b≠e:=λz=>hb (by simp[z])
   let b2:b≠it:=λz=>hb (by simp[z])
   exact oN.extBut b o b1 (hk b o b1 b2 q)) hf
  let M8:=oN.extBut _ _ bv ht;let fp:eQ X ae H s.heap.objs.size:=I.jC (Ze _) I.fresh;let I2:=I1.Dx (p:=s.heap.objs.size) (o:=.tup [.int i,x]) fp ⟨by show 2<=sizeLine;decide,[.int i tk,y],.cons ⟨tk,()⟩ (.cons ru .nil),⟨_,M8,(),_,()⟩⟩;apply⟨.ref s.heap.objs.size,_,I2,(),⟨_,I.fresh,(),λys hy=>by rw[I.jm hy hq];exact⟨x,hx,()⟩⟩,⟨⟨_,F'⟩,?_⟩,λb hb=>?_⟩
  .obtain⟨⟨o,e1,c,d⟩,_⟩:=m4;exact⟨o,oN.extBut _ _ (Ne.symm Nh) e1,c,d⟩
  .rw[dg]
   .exact(hf b hb).1
   .rcases Zk.mp hb with rfl |hb
    .exact bv.symm
    .obtain rfl:b=it:=by simpa using hb
     let⟨o,e1,_⟩:=fE;exact Ye (Zr e1)
 done:=by
  intro X hP hw hK hc i ae s σ H E I hf st hg;subst hP hw hK;let⟨xs,hq,hx⟩:=hg;let⟨its,rv,p,hz⟩:=I.tuple hq;let⟨⟨old,he⟩,fE⟩:=st;let pt:s.heap.IsTuple a its.toArray:=p;let S6:a≠it:=λz=>by
   let⟨o,e1,c,_⟩:=pt;let⟨o',e2,c',_⟩:=id fE;rw[z,e2] at e1;cases e1;rw[c] at c';exact absurd c' ∅
  let hl:=rv.length;let hT:s.TypeIs (.ref e) "enumerate":=⟨_,he,()⟩;unfold pyNext;apply Za (wpAny_attempt (wpAny_callSpecial?_slot (name:=Str.ofString "__next__") hT F.slot_enumerate_next
   (wpAny_call_entry F.slot_enumerate_next hT F.entry_enumerate_next ?_ (F.args_enumerate_next_1 _))))
  show wpAny _ _ (field (.ref e) 2 >>= _) _ _ _;apply Za (wpAny_field he rfl (x:=.ref it) rfl ?_);apply Za (YT (A:=X.A.in1) (I.ok.hd hc) fE pt (by simp;omega) λh' ex K' vS=>?_);let⟨o,ho,qL⟩:=vS;apply Za (wpAny_isInstance (T:="StopIteration") (b:=true) ⟨o,ho,qL⟩ isSubtype_stop ?_);exact wpAny_pure ⟨(),I.jd (t':=s.toks) (ch:=[it]) (λb o hb q=>K' b o (λz=>hb (by simp[z])) q) (λb hb=>hf b (Zj _ hb))⟩
 self:=λA i s Q E st h=>by
  let⟨⟨old,he⟩,_⟩:=st;exact wpAny_pyIter_enum he h
def VX (K:Θ1)(ta:TA):TI:=λσ H R=>ta σ H λvs H1=>∃a,vs=[.ref a]/\(∃xs,aK K H1 a xs)/\R (C7 K a) H1
end
def Cn (au:St)(acc:Addr)(P:List V->Hp->Prop)(σ:St)(H:Hp):Prop:=(∀v,σ.set 0 v=au.set 0 v)/\∃ys,H acc=some (.lst ys)/\P ys H
def Cn.of (h:H acc=some (.lst ys))(p:P ys H):Cn au acc P (au.set 0 w) H:=⟨λv=>by rw[List.set_set],ys,h,p⟩
def MH (outer:List (Str×NameKind))(N:Δ2)(scope:Scope)(cap:Δ2)(ix:List Nat):Bool :=
 (scope.kind == .function)&&(scope.names.all λx=>x.2 != .local||scope.names.lookup x.1 == some .local)&&decide (scope.names.map (·.1)).Nodup &&
 (scope.names.all λx=>x.2 != .free||outer.lookup x.1 == some .cell||outer.lookup x.1 == some .free)&&(cap.all λx=>decide ((x,NameKind.free)∈scope.names))&&(cap.zip ix).all (λp=>N[p.2]? == some p.1)&&cap.length == ix.length
def aM.of (outer:List (Str×NameKind))(N:Δ2)(hsc:X.env.scope.names=outer:=by rfl)(hN:X.N=N:=by rfl)(h:MH outer N scope cap ix=true:=by decide+kernel):aM X scope own cap ix:=by
 unfold MH at h;simp only[Z8,Yf,beq_iff_eq,decide_eq_true_eq,Qp,bne_iff_ne,ne_eq] at h;let⟨⟨⟨⟨⟨⟨h1,h2⟩,h3⟩,h4⟩,h5⟩,h6⟩,h7⟩:=h;apply⟨h1,λx hx hl=>?_,h3,λx hx hl=>?_,λj x e=>h5 x (Z0 e),λj x e=>?_,h7⟩
 .rcases h2 x hx with z |z
  .exact absurd hl z
  .exact z
 .show X.env.scope.names.lookup x.1=_\/X.env.scope.names.lookup x.1=_;rw[hsc];rcases h4 x hx with (z |z) |z
  .exact absurd hl z
  .exact .inl z
  .exact .inr z
 .let hj:j<cap.length:=(Zf.mp e).1;let lX:j<ix.length:=⋯;apply⟨ix[j],Zc lX,?_⟩;rw[hN];let hz:(cap.zip ix)[j]?=some (x,ix[j]):=by
   rw[List.getElem?_zip_eq_some];exact⟨e,Zc lX⟩
  exact h6 _ (Z0 hz)
section
variable {K:Θ1}{lo:Int}
def yq (Pv:Nat->List V->Hp->Prop)(h0:Pv 0 [] (aQ df acc (.lst [])))
  (hs:∀(i:Nat) ys H,i<n->H acc=some (.lst ys)->Pv i ys H->tt (au.set 0 (some (.int (lo+i)))) H λb H4 =>
   if b=true then te (au.set 0 (some (.int (lo+i)))) H4 λy H5=>∃zs,H5 acc=some (.lst zs)/\zs.length<sizeLine/\Cn au acc (Pv (i+1)) (au.set 0 (some (.int (lo+i)))) (aQ H5 acc (.lst (zs++[y]))) else Cn au acc (Pv (i+1)) (au.set 0 (some (.int (lo+i)))) H4)
  (hd:∀ys H,H acc=some (.lst ys)->Pv n ys H->Q (.ref acc) H):gR (fg 0) tt te (Tk lo n) acc au df Q:=by
 apply⟨λi m σ H=>m=n-i/\i<=n/\Cn au acc (Pv i) σ H,⟨n,by simp,Z7 _,λ_=>rfl,[],dU,h0⟩,?_⟩;rintro i m σ H ⟨rfl,hi,wk,ys,hy,p⟩;by_cases cD:i<n
 .apply .inr ⟨cD,Cn au acc (Pv (i+1)),λaS H' c=>⟨n-(i+1),⋯,(),cD,c⟩,λx H' y=>?_⟩;let⟨e,y⟩:=y;subst e y;show tt (σ.set 0 _) _ _;rw[wk];exact hs i ys _ cD hy p
 .let e:i=n:=⋯;subst e;exact .inl ⟨Ze _,hd ys H hy p⟩
def iX (Pv:Nat->List V->Hp->Prop)(h0:Pv 0 [] (aQ df acc (.lst [])))(hl:∀(i:Nat) ys H,i<=xs.length->H acc=some (.lst ys)->Pv i ys H->aK K H a xs)
  (hs:∀(i:Nat) x ys H,xs[i]?=some x->H acc=some (.lst ys)->Pv i ys H->tt (au.set 0 (some x)) H λb H4 =>
   if b=true then te (au.set 0 (some x)) H4 λy H5=>∃zs,H5 acc=some (.lst zs)/\zs.length<sizeLine/\Cn au acc (Pv (i+1)) (au.set 0 (some x)) (aQ H5 acc (.lst (zs++[y]))) else Cn au acc (Pv (i+1)) (au.set 0 (some x)) H4)
  (hd:∀ys H,H acc=some (.lst ys)->Pv xs.length ys H->Q (.ref acc) H):gR (fg 0) tt te (yG K a) acc au df Q:=by
 apply⟨λi m σ H=>m=xs.length-i/\i<=xs.length/\Cn au acc (Pv i) σ H,⟨xs.length,by simp,Z7 _,λ_=>rfl,[],dU,h0⟩,?_⟩;rintro i m σ H ⟨rfl,hi,wk,ys,hy,p⟩;let q:=hl i ys H hi hy p;by_cases cD:i<xs.length
 .apply .inr ⟨⟨xs,xs[i],q,by simp[cD]⟩,Cn au acc (Pv (i+1)),λaS H' c=>⟨xs.length-(i+1),⋯,(),cD,c⟩,λx H' y=>?_⟩;let⟨e,y⟩:=y;subst e;show tt (σ.set 0 _) _ _;rw[wk];exact hs i x ys _ (y xs q) hy p
 .let e:i=xs.length:=⋯;subst e;exact .inl ⟨⟨xs,q,Ze _⟩,hd ys H hy p⟩
def Gm {g:TG}{tb:TS}{D:Ends}(Pv:Nat->St->Hp->Prop)(h0:Pv 0 σ H)(hl:∀i σ H,i<=xs.length->Pv i σ H->H a=some (.tup xs))
  (hs:∀(i:Nat) x p σ H,xs[i]?=some x->H p=none->Pv i σ H->g (.ref p) σ (aQ H p (.tup [.int i,x])) λcz H2=>tb { D with nx:=Pv (i+1),ct:=Pv (i+1),bk:=D.nx } cz H2) (hd:∀σ H,Pv xs.length σ H->D.nx σ H) :
  ∃W:Nat->Nat->St->Hp->Prop,(∃m,W 0 m σ H)/\∀i m σ H,W i m σ H ->
   ((C7 K a).stop i H/\D.nx σ H)\/((C7 K a).go i H/\∃N:St->Hp->Prop,(∀aS H',N aS H'->∃m',m'<m/\W (i+1) m' aS H')/\∀x H',(C7 K a).tu i H x H'->g x σ H' λcz H2=>tb { D with nx:=N,ct:=N,bk:=D.nx } cz H2):=by
 apply⟨λi m σ H=>m=xs.length-i/\i<=xs.length/\Pv i σ H,⟨xs.length,by simp,Z7 _,h0⟩,?_⟩;rintro i m σ H ⟨rfl,hi,p⟩;let q:=hl i σ H hi p;by_cases cD:i<xs.length
 .apply .inr ⟨⟨xs,xs[i],aK.of q,by simp[cD]⟩,Pv (i+1),λaS H' p'=>⟨xs.length-(i+1),⋯,(),cD,p'⟩,λx H' y=>?_⟩;let⟨pp,hp,e,SI⟩:=y;let⟨z,hy,e2⟩:=SI xs (aK.of q);subst e e2;exact hs i z pp σ H hy hp p
 .let e:i=xs.length:=⋯;subst e;exact .inl ⟨⟨xs,aK.of q,Ze _⟩,hd σ H p⟩
end
section
def ab8 (K:Θ1)(h:X.K=K:=by rfl):cn X (.builtin "len") (λxs H Q=>∃p ys,xs=[.ref p]/\(bG K H p ys\/aK K H p ys)/\Q (.int ys.length) H):=by subst h;exact io
end
end L2
namespace KG
open L2
def pG:bootBuiltins "tuple"=some (.type "tuple"):=by first |rfl |kernel_rfl |decide+kernel
def boot_int:bootBuiltins "int"=some (.type "int"):=by first |rfl |kernel_rfl |decide+kernel
def boot_abs:bootBuiltins "abs"=some (.builtin "abs"):=by first |rfl |kernel_rfl |decide+kernel
def boot_max:bootBuiltins "max"=some (.builtin "max"):=by first |rfl |kernel_rfl |decide+kernel
def boot_min:bootBuiltins "min"=some (.builtin "min"):=by first |rfl |kernel_rfl |decide+kernel
def boot_any:bootBuiltins "any"=some (.builtin "any"):=by first |rfl |kernel_rfl |decide+kernel
def boot_sum:bootBuiltins "sum"=some (.builtin "sum"):=by first |rfl |kernel_rfl |decide+kernel
def Hm:bootBuiltins "enumerate"=some (.type "enumerate"):=by first |rfl |kernel_rfl |decide+kernel
def Hn:bootBuiltins "isinstance"=some (.builtin "isinstance"):=by first |rfl |kernel_rfl |decide+kernel
def boot_bool:bootBuiltins "bool"=some (.type "bool"):=by first |rfl |kernel_rfl |decide+kernel
def tq (H:Hp)(b:Addr):Prop:=∃c d:Int,H b=some (.lst [.int c,.int d])
def Kp (b:Addr)(H H':Hp):Prop:=∀a o,a≠b->H a=some o->H' a=some o
def Kp.refl (b:Addr)(H:Hp):Kp b H H:=λ_ _ _ h=>h
def Kp.trans (x:Kp b H H1)(y:Kp b H1 H2):Kp b H H2:=λa o n h=>y a o n (x a o n h)
def Kp.bag (x:Kp b H H'):Kp b H (aQ H' b o):=λa u n h=>by rw[dg n];exact x a u n h
def Kp.new (x:Kp b H H')(hp:H' p=none):Kp b H (aQ H' p o):=λa u n h=>by rw[dg (GV (x a u n h) hp)];exact x a u n h
def tq.new (h:tq H b)(hp:H p=none):tq (aQ H p o) b:=by
 let⟨c,d,e⟩:=h;exact⟨c,d,by rw[dg (GV e hp)];exact e⟩
def tq.ne (h:tq H b)(hp:H p=none):b≠p:=by
 let⟨c,d,e⟩:=h;exact GV e hp
def rA:Sp:=λvs H Q _=>∃(b:Addr) (m:Int),vs=[.ref b,.int m]/\tq H b/\0<m/\m<1073741824/\∀(r:Int) (H':Hp),0<=r->r<m->tq H' b->Kp b H H'->Q (.int r) H'
def DC (K:Θ1):Sp:=λvs H Q _=>∃(a:Addr) (ns:Γ3) (k:Int),vs=[.ref a,.int k]/\bG K H a (ns.map V.int)/\0<=k/\k<100/\∀(p:Addr) (c d:Int),H p=none->Q (.ref p) (aQ H p (.lst [.int c,.int d]))
structure bN (K:Θ1)(mg:Θ3)(P:Program)(w:World)(base:Heap)(x:Str)(k:Nat)(ps:Δ2)(sp:Sp)(f:Addr)(fd:FuncData):Prop where
 ok:aI P w K mg base bY k f fd ps sp
 mg:mg x=some (.ref f)
 kp:PySem.W.keepIn K (.ref f)=true
 bd:Binds K fd ps []
def sz:sizeLine=16777216:=PySem.sizeLine_eq
def lI {A B:Hp->Prop}(h:A H):NE σ H (λb H4=>if b=true then A H4 else B H4):=bt (B:=B H) h
def vj {ns:Γ3}{r:Int}(h0:0<=r)(h1:r<ns.length):fY (ns.map V.int) r=some (V.int (ns.getD r.toNat 0))/\tJ (ns.map V.int).length r=some r.toNat/\ns.getD r.toNat 0∈ns:=by
 let hl:r.toNat<ns.length:=⋯;let e:(ns.map V.int)[r.toNat]?=some (V.int (ns.getD r.toNat 0)):=by
  rw[Zo,Zc hl];simp[List.getD,Zc hl]
 apply⟨?_,?_,?_⟩
 .have:=mU e;rw[Y8 h0] at this;exact this
 .unfold tJ;rw[if_pos h0,if_pos (by rw[Zb];exact h1)]
 .simp[List.getD,Zc hl]
def Tm (H H':Hp):Prop:=∀a xs,H a=some (.tup xs)->H' a=some (.tup xs)
def Tm.lst {p:Addr}{H:Hp}{xs:List V}{o:HO}(h:H p=some (.lst xs)):Tm H (aQ H p o):=λa ys e=>by
 rw[dg (λz=>by rw[z,h] at e;cases e)];exact e
def tq.acc (h:tq H b)(hp:b≠p):tq (aQ H p o) b:=by
 let⟨c,d,e⟩:=h;exact⟨c,d,by rw[dg hp];exact e⟩
def qP (H:Hp)(ws:List V)(M:Γ1):Prop:=Paired (λv ns=>∃a,v=V.ref a/\H a=some (.tup (List.map V.int ns))) ws M
def qP.keep (h:qP H ws M)(t:Tm H H'):qP H' ws M:=Paired.HZ h λv ns ⟨a,e,q⟩=>⟨a,e,t a _ q⟩
def qP.len (h:qP H ws M):ws.length=M.length:=Paired.length h
theorem qP.at:∀{H:Hp}{ws:List V}{M:Γ1}{i:Nat}{x:V},qP H ws M->ws[i]?=some x->∃ns a,M[i]?=some ns/\x=V.ref a/\H a=some (.tup (List.map V.int ns))
 |_,_,_,_,_,.nil,e=>by simp at e
 |_,_,_,0,_,.cons ⟨a,h1,h2⟩ _,e=>by simp at e;subst e;exact⟨_,a,(),h1,h2⟩
 |_,_,_,i+1,_,.cons _ t,e=>by
  let⟨ns,a,h1,h2,h3⟩:=qP.at (i:=i) t (by simpa using e);exact⟨ns,a,by simpa using h1,h2,h3⟩
def aw (H H':Hp):Prop:=∀a o,H a=some o->H' a=some o
def aw.refl (H:Hp):aw H H:=λ_ _ h=>h
def aw.trans (a:aw H H1)(b:aw H1 H2):aw H H2:=λx o h=>b x o (a x o h)
def aw.new (a:aw H H')(hp:H' p=none):aw H (aQ H' p o):=λx u h=>by rw[dg (GV (a x u h) hp)];exact a x u h
def aw.acc (a:aw H H')(hp:H p=none):aw H (aQ H' p o):=λx u h=>by rw[dg (GV h hp)];exact a x u h
def aw.tm (a:aw H H'):Tm H H':=λx xs h=>a x _ h
def has (M:Γ1)(j:Nat):Bool:=M.any λr=>decide (0<r.getD j 0)
def GQ (g:Nat)(M:Γ1):List V:=((List.range g).filter (has M)).map λ(j:Nat)=>V.int (0+(j:Int))
def vH (f:Nat->Bool)(n:Nat):(List.range (n+1)).filter f=(List.range n).filter f++if f n=true then [n] else []:=by
 rw[Xc,Xj]
 grind
def aw.free (s:aw H0 H)(h:H p=none):H0 p=none:=by
 cases q:H0 p with
 |none=>rfl
 |some o=>rw[s p o q] at h;cases h
def yJ (K:Θ1):Sp:=λvs H Q _=>∃(a:Addr) (ns:Γ3),vs=[.ref a]/\bG K H a (ns.map V.int)/\ns.length<=63/\∀H',Q (.bl true) H'
def bG.ak (h:bG K H a xs)(s:aw H H'):bG K H' a xs:=by
 rcases h with (h |⟨o,h⟩) |h
 .exact .inl (.inl (s _ _ h))
 .exact .inl (.inr ⟨o,s _ _ h⟩)
 .exact .inr h
def boot_list:bootBuiltins "list"=some (.type "list"):=by first |rfl |kernel_rfl |decide+kernel
def boot_all:bootBuiltins "all"=some (.builtin "all"):=by first |rfl |kernel_rfl |decide+kernel
mutual
inductive fH (b:Addr) (H:Hp):V->PyData->Prop
 |cg:fH b H .cg .none
 |bl (c:Bool):fH b H (.bl c) (.bool c)
 |int (i:Int):fH b H (.int i) (.int i)
 |str (x:Str) (ok:(PyData.str x).canLay0=true):fH b H (.str x) (.str x)
 |lst {a:Addr}{xs:List V}{ds:Ξ1}:a≠b->H a=some (.lst xs)->cf b H xs ds->fH b H (.ref a) (.list ds)
 |tup {a:Addr}{xs:List V}{ds:Ξ1}:H a=some (.tup xs)->cf b H xs ds->fH b H (.ref a) (.tuple ds)
inductive cf (b:Addr) (H:Hp):List V->Ξ1->Prop
 |nil:cf b H [] []
 |cons {x:V}{xs:List V}{d:PyData}{ds:Ξ1}:fH b H x d->cf b H xs ds->cf b H (x::xs) (d::ds)
end
mutual
theorem fH.ak (k:aw H H'):∀{v:V}{d:PyData},fH b H v d->fH b H' v d
 |_,_,.cg=>.cg
 |_,_,.bl c=>.bl c
 |_,_,.int i=>.int i
 |_,_,.str x ok=>.str x ok
 |_,_,.lst n h t=>.lst n (k _ _ h) (cf.ak k t)
 |_,_,.tup h t=>.tup (k _ _ h) (cf.ak k t)
theorem cf.ak (k:aw H H'):∀{vs:List V}{ds:Ξ1},cf b H vs ds->cf b H' vs ds
 |_,_,.nil=>.nil
 |_,_,.cons h t=>.cons (fH.ak k h) (cf.ak k t)
end
mutual
theorem fH.dt:∀{v:V}{d:PyData},fH b H v d->l9 K H v d
 |_,_,.cg=>.cg
 |_,_,.bl c=>.bl c
 |_,_,.int i=>.int i
 |_,_,.str x ok=>.str x ok
 |_,_,.lst n h t=>.lst (bG.of h) (cf.dt t)
 |_,_,.tup h t=>.tup (aK.of h) (cf.dt t)
theorem cf.dt {K:Θ1}{b:Addr}{H:Hp}:∀{vs:List V}{ds:Ξ1},cf b H vs ds->fe K H vs ds
 |_,_,.nil=>.nil
 |_,_,.cons h t=>.cons (fH.dt h) (cf.dt t)
end
theorem cf.len:∀{vs:List V}{ds:Ξ1},cf b H vs ds->vs.length=ds.length
 |_,_,.nil=>rfl
 |_,_,.cons _ t=>congrArg (· + 1) (cf.len t)
theorem cf.at:∀{vs:List V}{ds:Ξ1}{i:Nat}{x:V},cf b H vs ds->vs[i]?=some x->∃d,ds[i]?=some d/\fH b H x d
 |_,_,_,_,.nil,e=>by simp at e
 |_,_,0,_,.cons h _,e=>by simp at e;subst e;exact⟨_,(),h⟩
 |_,_,i+1,_,.cons _ t,e=>by
  let⟨d,h1,h2⟩:=cf.at (i:=i) t (by simpa using e);exact⟨d,by simpa using h1,h2⟩
def ib:PyData->Bool
 |.int _=>true
 |_=>false
def within (lo hi:Int):PyData->Bool
 |.int i=>decide (lo<=i)&&decide (i<=hi)
 |_=>false
def bL:PyData->Bool
 |.tuple [.int t,.int u]=>decide (1<=u)&&decide (Int.gcd t u=1)
 |_=>false
def lF:PyData->Bool
 |.tuple [.int t,.int u]=>decide (1<=u)&&decide (Int.gcd t u=1)&&decide (1<=t)&&decide (t<=1000000)&&decide (u<=1000000)
 |_=>false
def gv (n:Nat)(lo hi:Int):PyData->Bool
 |.tuple ds=>decide (ds.length=n)&&ds.all (within lo hi)
 |_=>false
def eO:PyData->Bool
 |.tuple [.tuple a,.tuple p,.tuple w]=>decide (1<=a.length)&&decide (a.length<=6)&&a.all (within 1 60)&&(decide (1<=p.length)&&decide (p.length<=6)&&p.all lF)&&(decide (w.length=p.length)&&w.all (gv a.length 0 100))
 |_=>false
section
def M1 (h:cf b H xs (d::ds)):∃x ys,xs=x::ys/\fH b H x d/\cf b H ys ds:=by cases h with |cons a t=>exact⟨_,_,rfl,a,t⟩
def nV (h:cf b H xs []):xs=[]:=by cases h;rfl
def jf {v:V}(h:fH b H v (.tuple ds)):∃a xs,v=.ref a/\H a=some (.tup xs)/\cf b H xs ds:=by cases h with |tup h t=>exact⟨_,_,rfl,h,t⟩
def mi {v:V}{i:Int}(h:fH b H v (.int i)):v=.int i:=by cases h;rfl
def jT (h:cf b H xs ds)(hl:0<xs.length):∃x ys d es,xs=x::ys/\ds=d::es/\fH b H x d/\cf b H ys es:=by
 cases h with
 |nil=>exact absurd hl ∅
 |cons a t=>exact⟨_,_,_,_,(),(),a,t⟩
def uD (h:cf b H xs ds)(hl:xs.length=2):∃x y dx dy,xs=[x,y]/\ds=[dx,dy]/\fH b H x dx/\fH b H y dy:=by
 let⟨x,ys,d,es,rfl,rfl,a,h⟩:=jT h ⋯;rw[Y2] at hl;let⟨y,zs,e,fs,rfl,rfl,c,h⟩:=jT h ⋯;rw[Y2] at hl;cases h with
 |nil=>exact⟨_,_,_,_,(),(),a,c⟩
 |cons _ _=>rw[Y2] at hl;omega
end
end KG
namespace HT
open PySem.Spec PyProof.Rows
section
end
end HT
namespace L2
open PySem.Spec PyProof.Rows
section
def LQ:R2:=λx y H Q=>∃a b xs ys,x=.ref a/\y=.ref b/\H a=some (.tup xs)/\H b=some (.tup ys)/\xs.length+ys.length<=sizeLine/\∀p H',KG.aw H H'->H' p=some (.tup (xs++ys))->Q (.ref p) H'
def JQ:eE X (binaryOp .Add) LQ:=by
 intro ae s σ H x y v u Q I rx ry h;let⟨a,b,xs,ys,rfl,rfl,ha,hb,hz,q⟩:=h;by_cases hx:xs=[]
 .cases rx
  cases ry
  let⟨its,r1,p1,_⟩:=I.tuple (aK.of ha);let⟨Dj,r2,p2,_⟩:=I.tuple (aK.of hb);let⟨⟨cls,dd,data,sl⟩,ho,hc,n,hd⟩:=id p1;let⟨⟨ab3,W0,data2,cx⟩,Na,G5,n2,Hy⟩:=id p2;simp only at hc hd G5 Hy;subst hc hd G5 Hy;let e0:its=[]:=r1.mD.mpr hx;exact concat_meets ⟨_,ho,()⟩ ⟨_,Na,()⟩ noFill_tuple_add seq_tuple_add PySem.F.slot_tuple_add PySem.F.entry_tuple_add (PySem.F.args_tuple_add_2 _ _)
   (tuple_addW0 a b its.toArray Dj.toArray n n2 dd W0 sl cx (by simp[e0])) ⟨ho,Na,⟨.ref b,H,I,(),q b H (KG.aw.refl H) (by rw[hx];exact hb)⟩⟩
 .apply JP ae s σ H _ _ v u Q I rx ry ⟨a,b,xs,ys,(),(),aK.of ha,aK.of hb,hx,hz,λe=>q a H (KG.aw.refl H) (by rw[e,Ym];exact ha),λ_ p hp=>q p _ ((KG.aw.refl H).new hp) dU⟩
end
end L2
namespace L2
open PySem.Spec PyProof.Rows KG
end L2
namespace EX
open PySem.Spec PyProof.Rows
section
end
end EX
namespace L2
open PySem.Spec PyProof.Rows EX
section
variable {K:Θ1}
end
end L2
namespace EX
open PySem.Spec PyProof.Rows
section
end
end EX
namespace L2
open PySem.Spec PyProof.Rows EX
section
end
section
end
end L2
namespace EX
open PySem.Spec PyProof.Rows PySem.W
section
variable {K:Frag}
end
end EX
namespace L2
open PySem.Spec PyProof.Rows EX
section
end
end L2
namespace EX
open PySem.Spec PyProof.Rows PySem.W
section
variable {K:Frag}
end
end EX
namespace L2
open PySem.Spec PyProof.Rows EX
section
variable {K:Θ1}
end
section
end
end L2
namespace KG
def Bd (k:Nat)(n:Int):Prop:=n.natAbs<2 ^ k
def Bd.mono (h:Bd j n)(hj:j<=k):Bd k n:=Yg h (Y9 ∅ hj)
def Bd.mul (h:Bd j a)(h':Bd k b):Bd (j+k) (a*b):=by
 unfold Bd at *;rw[Xu,Nat.pow_add];exact Nat.mul_lt_mul'' h h'
def Bd.le (h:Bd k b)(hl:a.natAbs<=b.natAbs):Bd k a:=Nat.lt_of_le_of_lt hl h
def Bd.log (h:Bd k n)(hk:k<=8999):n.natAbs.log2<9000:=by
 by_cases h0:n.natAbs=0
 .simp_all
 .exact(Nat.log2_lt h0).mpr (Yg h (Y9 ∅ ⋯))
def sg (t u:Int):Int:=if u<0 then -(Int.gcd t u:Int) else (Int.gcd t u:Int)
def nx (t u:Int):Int:=t.fdiv (sg t u)
def ny (t u:Int):Int:=u.fdiv (sg t u)
def km (h:u≠0):nx t u*u=t*ny t u/\0<ny t u/\Int.gcd (nx t u) (ny t u)=1/\sg t u≠0/\(nx t u).natAbs<=t.natAbs/\(ny t u).natAbs<=u.natAbs:=by
 let g0:0<Int.gcd t u:=Qx t h;obtain⟨a,ha⟩:(Int.gcd t u:Int)∣t:=Int.gcd_dvd_left ..;obtain⟨b,hb⟩:(Int.gcd t u:Int)∣u:=Qy ..;generalize hg:Int.gcd t u=g at *;let hc:Int.gcd a b=1:=by
  let e:Int.gcd t u=Int.gcd ((g:Int)*a) ((g:Int)*b):=by rw[<- ha,<- hb]
  rw[hg,Int.gcd_mul_left] at e;simp at e;let e2:g*1=g*Int.gcd a b:=by rw[Nat.mul_one];exact e
  exact(Nat.eq_of_mul_eq_mul_left g0 e2).symm
 let gp:(0:Int)<g:=⋯;let la:a.natAbs<=t.natAbs:=by
  rw[ha,Xu];simp;exact Nat.le_mul_of_pos_left _ g0
 let lb:b.natAbs<=u.natAbs:=by
  rw[hb,Xu];simp;exact Nat.le_mul_of_pos_left _ g0
 unfold nx ny sg;rw[hg];by_cases hu:u<0
 .rw[if_pos hu];let dn:(-(g:Int))≠0:=⋯;let e1:t.fdiv (-(g:Int))=-a:=by
   have:t=(-(g:Int))*(-a):=by rw[Int.neg_mul_neg];exact ha
   rw[this,Qz _ dn]
  let e2:u.fdiv (-(g:Int))=-b:=by
   have:u=(-(g:Int))*(-b):=by rw[Int.neg_mul_neg];exact hb
   rw[this,Qz _ dn]
  rw[e1,e2];apply⟨?_,?_,by rw[Int.neg_gcd,Int.gcd_neg];exact hc,dn,by rw[Int.natAbs_neg];exact la,by rw[Int.natAbs_neg];exact lb⟩
  .let q:a*u=t*b:=by rw[hb,ha];rw[Int.mul_left_comm,Int.mul_assoc]
   rw[Int.neg_mul,q,Int.mul_neg]
  .rcases Int.lt_or_le b 0 with z |z
   .omega
   .have:0<=(g:Int)*b:=Int.mul_nonneg ⋯ z;omega
 .rw[if_neg hu];let dn:(g:Int)≠0:=⋯;let e1:t.fdiv (g:Int)=a:=by rw[ha,Qz _ dn]
  let e2:u.fdiv (g:Int)=b:=by rw[hb,Qz _ dn]
  rw[e1,e2];apply⟨?_,?_,hc,dn,la,lb⟩
  .rw[hb,ha,Int.mul_left_comm,Int.mul_assoc]
  .rcases Int.lt_or_le 0 b with z |z
   .exact z
   .have:(g:Int)*b<=0:=Int.mul_nonpos_of_nonneg_of_nonpos ⋯ z;omega
def Av {a c:Int}(h:c≠0):(a.fmod c).natAbs<c.natAbs:=by
 rcases Int.lt_or_gt_of_ne h with z |z
 .let e:(-a).fmod (-c)=-(a.fmod c):=Int.neg_fmod_neg a c;let h1:=Int.fmod_nonneg_of_pos (-a) (show 0 < -c by omega);let h2:=Int.fmod_lt_of_pos (-a) (show 0 < -c by omega);omega
 .let h1:=Int.fmod_nonneg_of_pos a z;let h2:=Int.fmod_lt_of_pos a z;omega
def u7:Int.gcd c (a.fmod c)=Int.gcd a c:=by
 rw[Int.gcd_comm a c,Int.fmod_def,Int.gcd_sub_mul_left_right]
end KG
namespace L2
open PySem.Spec PyProof.Rows KG
section
def FF:eE X (binaryOp .FloorDiv) (rI (λ_ j=>0<j/\Bd 8000 j) λi j=>.int (i / j)):=K4 λi j _ _ _ _ _ hc q=>by
 let h1:(0:Int)<j:=hc.1;exact floordiv_int ⋯ (by rw[Qv i ⋯];exact q) (.inl (PyProof.noPylong_of_log2 (hc.2.log ∅)))
def jr:eE X (binaryOp .FloorDiv) (rI (λ_ j=>j≠0/\Bd 8000 j) λi j=>.int (i.fdiv j)):=K4 λ_ _ _ _ _ _ _ hc q=>floordiv_int hc.1 q (.inl (PyProof.noPylong_of_log2 (hc.2.log ∅)))
def qI:eE X (binaryOp .Mult) (rI (λi j=>Bd 8000 i/\Bd 8000 j) λi j=>.int (i*j)):=K4 λi j _ _ _ _ _ hc q=>mul_int q (IntMulOk.of_bits (Zl (intBits_le hc.1) ∅) (Zl (intBits_le hc.2) ∅))
end
end L2
namespace KG
open L2
end KG
namespace L2
open PySem.Spec PyProof.Rows
def UE (K:Θ1)(n:Nat)(t:Nu):TG:=λv σ H Q=>∃a xs,v=.ref a/\bG K H a xs/\xs.length=n/\t xs σ H Q
def Pp (hc:X.calm=true)(h:vW X es t)
  (hn:(assignEach es X.env).length=n:=by rfl) (m4:(assignEach es X.env).findIdx? (·.1)=none:=by rfl):PG X (.Tuple es k pos) (UE X.K n t):=by
 intro ae s σ H v u Q I r hw;let⟨a,xs,e1,hq,hl,hw⟩:=hw;subst e1;cases r;let⟨its,rv,ht,hz⟩:=I.list hq;rw[assign_Tuple];apply Za (wpAny_standAt ?_);unfold unpack;rw[hn,m4];let hsz:n=its.toArray.size:=by rw[Z5,<- rv.length,hl]
 rw[hsz];apply Za (wpAny_holding (PySem.W.kun_itemsOf (I.ok.hd hc) ht.isList λh' hx=>?_));let I1:Inv X ae σ H { s with heap:=h' }:=I.kept (t':=s.toks) λb o e=>hx b o (Ye (Zr e)) e
 exact h ae _ σ H xs _ Q I1 (by simpa using rv) hw
def qW (K:Θ1)(he:PE X e te)(hg:Gl X "isinstance")(hm:X.mg "isinstance"=none)(y':Gl X T)(ZP:X.mg T=none)(hv:bootBuiltins T=some (.type n))
  (hb:bootBuiltins "isinstance"=some (.builtin "isinstance")) (h:X.K=K:=by rfl) (ZO:T ≠ "__name__":=by decide) (T':(T == ("__debug__" : Str))=false:=by decide)
  (hs:starEach [e,.Name T p2] X.env=[(false,eval e X.env),(false,eval (.Name T p2) X.env)]:=by rfl)
  (lW:(backTo pos (starEach [.Name T p2] X.env)).any (·.1)=false:=by rfl):PE X (.Call (.Name "isinstance" p) [e,.Name T p2] [] pos) (Tu K (.type n) te):=by
 subst h;exact JO he hg hm y' ZP hv hb ZO T' hs lW
end L2
namespace KM
open L2 KG EX
def YV:PyData->Bool
 |.int _=>true
 |.bool _=>true
 |_=>false
def isB:PyData->Bool
 |.bool _=>true
 |_=>false
def Lc:PyData->Bool
 |.tuple _=>true
 |_=>false
structure CC (K:Θ1):Prop where
 i1:PySem.W.kitOne K (.type "NoneType") (.type "int")=some false
 i2:PySem.W.kitOne K (.type "bool") (.type "int")=some true
 i3:PySem.W.kitOne K (.type "int") (.type "int")=some true
 i4:PySem.W.kitOne K (.type "str") (.type "int")=some false
 i5:PySem.W.kitOne K (.type "list") (.type "int")=some false
 i6:PySem.W.kitOne K (.type "tuple") (.type "int")=some false
 b1:PySem.W.kitOne K (.type "NoneType") (.type "bool")=some false
 b2:PySem.W.kitOne K (.type "bool") (.type "bool")=some true
 b3:PySem.W.kitOne K (.type "int") (.type "bool")=some false
 b4:PySem.W.kitOne K (.type "str") (.type "bool")=some false
 b5:PySem.W.kitOne K (.type "list") (.type "bool")=some false
 b6:PySem.W.kitOne K (.type "tuple") (.type "bool")=some false
 t1:PySem.W.kitOne K (.type "NoneType") (.type "tuple")=some false
 t2:PySem.W.kitOne K (.type "bool") (.type "tuple")=some false
 t3:PySem.W.kitOne K (.type "int") (.type "tuple")=some false
 t4:PySem.W.kitOne K (.type "str") (.type "tuple")=some false
 t5:PySem.W.kitOne K (.type "list") (.type "tuple")=some false
 t6:PySem.W.kitOne K (.type "tuple") (.type "tuple")=some true
def isi (Z:CC K)(h:fH b H v d):∃t,jD K H v t/\PySem.W.kitOne K t (.type "int")=some (YV d):=by
 cases h with
 |cg=>exact⟨_,.cg,Z.i1⟩
 |bl c=>exact⟨_,.bl _,Z.i2⟩
 |int c=>exact⟨_,.int _,Z.i3⟩
 |str x ok=>exact⟨_,.str _,Z.i4⟩
 |lst n e t=>exact⟨_,.lst e,Z.i5⟩
 |tup e t=>exact⟨_,.tup e,Z.i6⟩
def isb (Z:CC K)(h:fH b H v d):∃t,jD K H v t/\PySem.W.kitOne K t (.type "bool")=some (isB d):=by
 cases h with
 |cg=>exact⟨_,.cg,Z.b1⟩
 |bl c=>exact⟨_,.bl _,Z.b2⟩
 |int c=>exact⟨_,.int _,Z.b3⟩
 |str x ok=>exact⟨_,.str _,Z.b4⟩
 |lst n e t=>exact⟨_,.lst e,Z.b5⟩
 |tup e t=>exact⟨_,.tup e,Z.b6⟩
def M5 (Z:CC K)(h:fH b H v d):∃t,jD K H v t/\PySem.W.kitOne K t (.type "tuple")=some (Lc d):=by
 cases h with
 |cg=>exact⟨_,.cg,Z.t1⟩
 |bl c=>exact⟨_,.bl _,Z.t2⟩
 |int c=>exact⟨_,.int _,Z.t3⟩
 |str x ok=>exact⟨_,.str _,Z.t4⟩
 |lst n e t=>exact⟨_,.lst e,Z.t5⟩
 |tup e t=>exact⟨_,.tup e,Z.t6⟩
def g9 (h:fH b H v d):Lc d=false\/∃a xs ds,v=.ref a/\d=.tuple ds/\H a=some (.tup xs)/\cf b H xs ds:=by
 cases h with
 |cg=>exact .inl rfl
 |bl c=>exact .inl rfl
 |int c=>exact .inl rfl
 |str x ok=>exact .inl rfl
 |lst n e t=>exact .inl rfl
 |tup e t=>exact .inr ⟨_,_,_,(),(),e,t⟩
def ko (h:fH b H v d):ib d=false\/∃i,v=.int i/\d=.int i:=by
 cases h with
 |cg=>exact .inl rfl
 |bl c=>exact .inl rfl
 |int c=>exact .inr ⟨_,(),()⟩
 |str x ok=>exact .inl rfl
 |lst n e t=>exact .inl rfl
 |tup e t=>exact .inl rfl
def yd (d:PyData):ib d=(YV d&&!isB d):=by cases d<;>rfl
def lh (h:ib d=false):within lo hi d=false:=by cases d<;>first |rfl |cases h
def B1 (h:Lc d=false):bL d=false:=by cases d<;>first |rfl |cases h
def Gb (h:Lc d=false):gv n lo hi d=false:=by cases d<;>first |rfl |cases h
def Ky (h:Lc d=false):eO d=false:=by cases d<;>first |rfl |cases h
def spT (m:PyData->Bool):Sp:=λvs H Q _=>∃(b:Addr) (v:V) (d:PyData),vs=[v]/\fH b H v d/\∀H',aw H H'->Q (.bl (m d)) H'
def LD:Sp:=λvs H Q _=>∃(t u:Int),vs=[.int t,.int u]/\0<=u/\Q (.int (Int.gcd t u)) H
def Gk:Int.gcd c (a % c)=Int.gcd a c:=by
 rw[Int.gcd_comm a c,Int.emod_def,Int.gcd_sub_mul_left_right]
def KS:(if a<0 then -a else a)=(Int.gcd a 0:Int):=by
 rw[Int.gcd_zero_right];omega
def ii (m:PyData->Bool)(hT:cf b H1 xs ds)(ha:H1 a=some (.tup xs))(bU:H1 acc=none)(hl:xs.length<=1000)
  (ht:∀(x:V) (d:PyData) (H':Hp),aw H1 H'->fH b H' x d->d∈ds->∀Z:V->Hp->Prop,(∀H5,aw H' H5->Z (.bl (m d)) H5)->te (au.set 0 (some x)) H' Z)
  (hd:∀H',aw H1 H'->H' acc=some (.lst (ds.map λd=>.bl (m d)))->Q (.ref acc) H'):gR (fg 0) NE te (yG K a) acc au H1 Q:=by
 let cF:=hT.len;apply iX (xs:=xs) (λi ys H'=>aw H1 H'/\ys=(ds.take i).map λd=>.bl (m d)) ⟨(aw.refl H1).acc bU,()⟩ (λi ys H' _ _ q=>aK.of (q.1 _ _ ha)) ?_ ?_
 .rintro i x ys H' hx hy ⟨st,rfl⟩;let⟨d,hdi,η⟩:=hT.at hx;let hi:i<xs.length:=(Zf.mp hx).1;apply lI ?_;apply ht x d H' st (η.ak st) (Z0 hdi) _ λH5 oS=>?_
  apply⟨_,oS _ _ hy,?_,Cn.of dU ⟨(st.trans oS).acc bU,?_⟩⟩
  .rw[Zb,Yz,sz];omega
  .rw[List.take_add_one,hdi,Zs];rfl
 grind
def jv {ds:Ξ1}:(ds.map λd=>V.bl (m d)).all tv=ds.all m:=by
 rw[Xk];rfl
def fV {ds:Ξ1}{m:PyData->Bool}:(ds.map λd=>V.bl (m d)).all fj=true:=by
 rw[Xk];simp[Function.comp_def,fj]
def LC (lo hi:Int):Sp:=λvs H Q _=>∃(b:Addr) (v:V) (d:PyData) (n:Nat),vs=[v,.int n]/\n<=6/\fH b H v d/\∀H',aw H H'->Q (.bl (gv n lo hi d)) H'
def tZ (m n:Nat):PyData->Bool
 |.tuple ds=>decide (ds.length=m)&&ds.all (gv n 0 100)
 |_=>false
def iA (m:PyData->Bool):PyData->Bool
 |.tuple ds=>decide (1<=ds.length)&&decide (ds.length<=6)&&ds.all m
 |_=>false
def Kw (h:Lc d=false):tZ m n d=false:=by cases d<;>first |rfl |cases h
def Ao (h:Lc d=false):iA m d=false:=by cases d<;>first |rfl |cases h
def Tz:Sp:=λvs H Q _=>∃(b:Addr) (v:V) (d:PyData) (m n:Nat),vs=[v,.int m,.int n]/\m<=6/\n<=6/\fH b H v d/\∀H',aw H H'->Q (.bl (tZ m n d)) H'
def yf (h:ds.length≠2):bL (.tuple ds)=false:=by
 unfold bL;split
 .next Ng=>injection Ng with Ng;subst Ng;exact absurd rfl h
 .rfl
def ke {a b:Nat}(h:a≠b):(!decide (V.int (a:Int)=V.int (b:Int)))=true:=by
 grind
def rY (a:Int):(!decide (V.int a=V.int a))=false:=by simp
def lz (h:bL d=true):∃t u:Int,d=.tuple [.int t,.int u]/\1<=u/\Int.gcd t u=1:=by
 unfold bL at h;split at h
 .next t u=>simp at h;exact⟨t,u,(),h.1,h.2⟩
 .cases h
def xK (h:bL d=false):lF d=false:=by
 unfold lF;split
 .next t u =>
  let h':(decide (1<=u)&&decide (Int.gcd t u=1))=false:=h;rw[h'];rfl
 .rfl
def Ge (h:ds.length≠3):eO (.tuple ds)=false:=by
 unfold eO;split
 .next Ng=>injection Ng with Ng;subst Ng;exact absurd rfl h
 .rfl
def ye:eO (.tuple [x,y,z])=(iA (within 1 60) x&&iA lF y&&match y,x with |.tuple p,.tuple a=>tZ p.length a.length z |_,_=>false):=by
 cases x<;>first
  |(cases y<;>first
    |(cases z<;>first |rfl |(simp[eO,iA,tZ]))
    |(simp[eO,iA,tZ]))
  |(simp[eO,iA,tZ])
def oF (h:iA m d=true):∃ds,d=.tuple ds/\1<=ds.length/\ds.length<=6/\ds.all m=true:=by
 unfold iA at h;split at h
 .next ds=>simp only[Z8,decide_eq_true_eq] at h;exact⟨ds,(),h.1.1,h.1.2,h.2⟩
 .cases h
def Ed:Sp:=λvs H Q _=>∃(t u:Int),vs=[.int t,.int u]/\0<u/\u<1073741824/\∀(p:Addr),H p=none->Q (.ref p) (aQ H p (.tup [.int (t / (Int.gcd t u:Int)),.int (u / (Int.gcd t u:Int))]))
def Au (h:0<u):0<(Int.gcd t u:Int)/\(Int.gcd t u:Int)<=u:=by
 let h1:0<Int.gcd t u:=Qx t ⋯;let h2:(Int.gcd t u:Int)∣u:=Qy ..;exact⟨⋯,Int.le_of_dvd h h2⟩
def NI:Sp:=λvs H Q _=>∃(b:Addr),vs=[.ref b]/\tq H b/\∀(v:V) (d:PyData) (H':Hp),tq H' b->Kp b H H'->fH b H' v d->lF d=true->Q v H'
def qd (h1:1<=t)(h2:t<=1000000):lF (.tuple [.int t,.int 1])=true:=by
 show(decide ((1:Int)<=1)&&decide (Int.gcd t 1=1)&&decide (1<=t)&&decide (t<=1000000)&&decide ((1:Int)<=1000000))=true
 simp_all
def qe (h1:1<=t)(h2:t<=1000000)(h3:1<=u)(h4:u<=1000000):lF (.tuple [.int (t / (Int.gcd t u:Int)),.int (u / (Int.gcd t u:Int))])=true:=by
 let⟨g0,g1⟩:=Au (t:=t) (u:=u) ⋯;let gt:(Int.gcd t u:Int)∣t:=Int.gcd_dvd_left ..;let gu:(Int.gcd t u:Int)∣u:=Qy ..;let e:Int.gcd (t / (Int.gcd t u:Int)) (u / (Int.gcd t u:Int))=1:=Int.gcd_ediv_gcd_ediv_gcd ⋯;let lo:∀n:Int,1<=n->n<=1000000->(Int.gcd t u:Int)∣n->1<=n / (Int.gcd t u:Int)/\n / (Int.gcd t u:Int)<=1000000:=λn n1 n2 hd=>by
  let a1:n / (Int.gcd t u:Int)*(Int.gcd t u:Int)=n:=Int.ediv_mul_cancel hd;let a2:n / (Int.gcd t u:Int)<=n:=Int.ediv_le_self _ ⋯;let a3:0<=n / (Int.gcd t u:Int):=Int.ediv_nonneg ⋯ ⋯
  grind
 let⟨t1,t2⟩:=lo t h1 h2 gt;let⟨u1,u2⟩:=lo u h3 h4 gu;show(decide _&&decide (Int.gcd _ _=1)&&decide _&&decide _&&decide _)=true
 grind
def HH:fH b (aQ H p (.tup [.int x,.int y])) (.ref p) (.tuple [.int x,.int y]):=.tup dU (.cons (.int x) (.cons (.int y) .nil))
def xL (h:lF d=true):∃t u:Int,d=.tuple [.int t,.int u]:=by
 unfold lF at h;split at h
 .exact⟨_,_,()⟩
 .cases h
def iV (h:eO (.tuple [.tuple a,.tuple p,.tuple w])=true):1<=a.length/\a.length<=6/\a.all (within 1 60)=true/\1<=p.length/\p.length<=6/\p.all lF=true/\w.length=p.length/\w.all (gv a.length 0 100)=true:=by
 let h':(decide (1<=a.length)&&decide (a.length<=6)&&a.all (within 1 60)&&(decide (1<=p.length)&&decide (p.length<=6)&&p.all lF)&&(decide (w.length=p.length)&&w.all (gv a.length 0 100)))=true:=h;simp only[Z8,decide_eq_true_eq] at h';let⟨⟨⟨⟨h1,h2⟩,h3⟩,⟨h4,h5⟩,h6⟩,h7,h8⟩:=h';exact⟨h1,h2,h3,h4,h5,h6,h7,h8⟩
def tq.ak (h:tq H b)(s:aw H H'):tq H' b:=by let⟨c,d,e⟩:=h;exact⟨c,d,s _ _ e⟩
def Fd (h:gv n lo hi d=true):∃rs,d=.tuple rs/\rs.length=n/\rs.all (within lo hi)=true:=by
 unfold gv at h
 grind
theorem EL:∀{xs:List V}{ds:Ξ1},cf b H xs ds->ds.all (within 0 100)=true->∃ns:Γ3,xs=ns.map V.int/\∀n∈ns,0<=n/\n<=100
 |_,_,.nil,_=>⟨[],(),λn h=>nomatch h⟩
 |_,_,.cons (x:=x) (d:=d) h t,e=>by
  rw[Xy,Z8] at e;let⟨ns,rfl,h2⟩:=EL t e.2;rcases ko h with hn |⟨i,rfl,rfl⟩
  .rw[lh hn] at e;cases e.1
  .let h1:(decide (0<=i)&&decide (i<=100))=true:=e.1;simp only[Z8,decide_eq_true_eq] at h1;apply⟨i::ns,(),λn hn=>?_⟩;rcases Zk.mp hn with rfl |hn
   .exact h1
   .exact h2 n hn
structure Nm (mg:Θ3):Prop where
 len:mg "len"=none
 range:mg "range"=none
 tuple:mg "tuple"=none
 list:mg "list"=none
 all:mg "all"=none
 any:mg "any"=none
 max:mg "max"=none
 min:mg "min"=none
 sum:mg "sum"=none
 abs:mg "abs"=none
 int:mg "int"=none
 isinstance:mg "isinstance"=none
 bool:mg "bool"=none
 enumerate:mg "enumerate"=none
 Rl:mg "ValueError"=none
def aZ:PyData->Int
 |.int i=>i
 |_=>0
def uf:PyData->Γ3
 |.tuple rs=>rs.map aZ
 |_=>[]
def rowsOf (wi:Ξ1):Γ1:=wi.map uf
theorem zJ:∀{xw:List V}{wi:Ξ1},cf b H xw wi->wi.all (gv n 0 100)=true->qP H xw (rowsOf wi)/\∀r∈rowsOf wi,r.length=n/\∀k∈r,0<=k/\k<=100
 |_,_,.nil,_=>⟨.nil,λr h=>nomatch h⟩
 |_,_,.cons (d:=d) h t,e=>by
  rw[Xy,Z8] at e;let⟨h1,h2⟩:=zJ t e.2;let⟨rs,rfl,hl,hr⟩:=Fd e.1;cases h with
  |@tup a xs _ ha hs =>
  let⟨ns,rfl,hn⟩:=EL hs hr;let er:rs=ns.map PyData.int:=by
   clear ha hn hr hl e
   induction ns generalizing rs with
   |nil=>cases hs;rfl
   |cons m ns ih =>
    cases hs with
    |cons hx ht=>cases hx;rw[ih _ ht];rfl
  subst er;let eo:uf (.tuple (ns.map PyData.int))=ns:=by
   show(ns.map PyData.int).map aZ=ns;rw[Zp];have:(aZ ∘ PyData.int)=λi=>i:=rfl
   rw[this,List.map_id']
  apply⟨?_,λr jM=>?_⟩
  .show qP H _ (uf (.tuple (ns.map PyData.int))::rowsOf _);rw[eo];exact .cons ⟨a,(),ha⟩ h1
  .let Hu:r=uf (.tuple (ns.map PyData.int))\/r∈rowsOf _:=Zk.mp jM;rcases Hu with z |z
   .rw[z,eo];rw[Zb] at hl;exact⟨hl,hn⟩
   .exact h2 r z
structure eh (b:Addr)(H:Hp)(p pa pp pw:Addr)(xa xp xw:List V)(am pu wi:Ξ1):Prop where
 hp:H p=some (.tup [.ref pa,.ref pp,.ref pw])
 ha:H pa=some (.tup xa)
 Cy:H pp=some (.tup xp)
 hw:H pw=some (.tup xw)
 ta:cf b H xa am
 tp:cf b H xp pu
 tw:cf b H xw wi
 ok:eO (.tuple [.tuple am,.tuple pu,.tuple wi])=true
def eh.of (h:fH b H (.ref p) (.tuple [.tuple am,.tuple pu,.tuple wi]))(m:eO (.tuple [.tuple am,.tuple pu,.tuple wi])=true):∃pa pp pw xa xp xw,eh b H p pa pp pw xa xp xw am pu wi:=by
 let⟨_,_,e,hp,t⟩:=jf h;cases e;let⟨_,_,rfl,h1,t⟩:=M1 t;let⟨_,_,rfl,h2,t⟩:=M1 t;let⟨_,_,rfl,h3,t⟩:=M1 t;cases nV t;let⟨_,_,rfl,ha,hsa⟩:=jf h1;let⟨_,_,rfl,Cy,GY⟩:=jf h2;let⟨_,_,rfl,hpw,CT⟩:=jf h3;exact⟨_,_,_,_,_,_,hp,ha,Cy,hpw,hsa,GY,CT,m⟩
def eh.ak (m:eh b H p pa pp pw xa xp xw am pu wi)(s:aw H H'):eh b H' p pa pp pw xa xp xw am pu wi :=
 ⟨s _ _ m.hp,s _ _ m.ha,s _ _ m.Cy,s _ _ m.hw,m.ta.ak s,m.tp.ak s,m.tw.ak s,m.ok⟩
def eh.tr (m:eh b H p pa pp pw xa xp xw am pu wi):fH b H (.ref p) (.tuple [.tuple am,.tuple pu,.tuple wi]) :=
 .tup m.hp (.cons (.tup m.ha m.ta) (.cons (.tup m.Cy m.tp) (.cons (.tup m.hw m.tw) .nil)))
def eh.lw (m:eh b H p pa pp pw xa xp xw am pu wi):qP H xw (rowsOf wi)/\rowsOf wi≠[]/\(∀r∈rowsOf wi,r.length=xa.length)/\(∀r∈rowsOf wi,∀k∈r,0<=k/\k<=100)/\1<=xa.length/\xa.length<=6/\1<=xw.length/\xw.length<=6/\xp.length=xw.length:=by
 let⟨h1,h2,h3,h4,h5,h6,h7,h8⟩:=iV m.ok;let⟨r1,r2⟩:=zJ m.tw h8;let la:=m.ta.len;let lp:=m.tp.len;let lw:=m.tw.len;apply⟨r1,?_,λr hr=>by rw[(r2 r hr).1,la],λr hr=>(r2 r hr).2,⋯,⋯,⋯,⋯,⋯⟩;intro z;have:=congrArg List.length z;unfold rowsOf at this
 grind
def B3 {g j:Nat}(hj:j<g):Hq (V.int (0+(j:Int))) (GQ g M)=has M j:=by
 unfold Hq GQ;rw[X1,Yb,Z6];constructor
 .rintro⟨k,hk,e⟩;rw[Zg] at hk;let e':(0+(k:Int))=0+(j:Int):=by simpa[G9] using e
  grind
 .intro h;apply⟨j,by rw[Zg];exact⟨by simpa using hj,h⟩,by simp[G9]⟩
def vF (g:Nat)(M:Γ1):(GQ g M).all iK=true:=by
 unfold GQ;rw[Xk];simp[Function.comp_def,iK]
def Cu (wd:Bool):PyData->Bool
 |.tuple [.int t,.int u]=>bL (.tuple [.int t,.int u])&&(if wd then decide (0<t) else decide (t=0)&&decide (u=1))
 |_=>false
def eJ (g:Nat)(M:Γ1):PyData->Bool
 |.tuple ds=>decide (ds.length=g)&&(List.range g).all λj=>Cu (has M j) (ds.getD j .none)
 |_=>false
def oD (h:bL d=false):Cu wd d=false:=by
 unfold Cu;split
 .rw[h];rfl
 .rfl
def Gd (h:Lc d=false):eJ g M d=false:=by cases d<;>first |rfl |cases h
def FY (hb:0<b)(hY:0<Y)(g1:Int.gcd a b=1)(g2:Int.gcd X Y=1)(h:X*b=a*Y):X=a/\Y=b:=by
 let d1:Y∣b:=by
  let q:Y∣X*b:=⟨a,by rw[h,Int.mul_comm]⟩;rw[<- Int.dvd_gcd_mul_iff_dvd_mul,Int.gcd_comm,g2] at q;simpa using q
 let d2:b∣Y:=by
  let q:b∣a*Y:=⟨X,by rw[<- h,Int.mul_comm]⟩;rw[<- Int.dvd_gcd_mul_iff_dvd_mul,Int.gcd_comm,g1] at q;simpa using q
 let e:Y=b:=Int.dvd_antisymm ⋯ ⋯ d1 d2;subst e;exact⟨Int.eq_of_mul_eq_mul_right ⋯ h,()⟩
def den_pos (q:Rat):(0:Int)<(q.den:Int):=by have:=q.den_nz;omega
def zN (q:Rat):Int.gcd q.num (q.den:Int)=1:=q.reduced
def k4 (hU:U≠0):nx T U=(Rat.divInt T U).num/\ny T U=((Rat.divInt T U).den:Int):=by
 let⟨n1,n2,n3,_⟩:=km (t:=T) hU;let hd:=den_pos (Rat.divInt T U);let h1:T*((Rat.divInt T U).den:Int)=(Rat.divInt T U).num*U:=by
  rw[<- Rat.divInt_eq_divInt_iff hU ⋯,Xl]
 apply FY hd n2 (zN _) n3 ?_;let e:nx T U*((Rat.divInt T U).den:Int)*U=(Rat.divInt T U).num*ny T U*U:=by
  grind
 exact Int.eq_of_mul_eq_mul_right hU e
abbrev qO (q:Rat):HO:=.tup [.int q.num,.int (q.den:Int)]
def Rb (k:Nat)(q:Rat):Prop:=Bd k q.num/\Bd k (q.den:Int)
def Rb.mono (h:Rb j q)(hk:j<=k):Rb k q:=⟨h.1.mono hk,h.2.mono hk⟩
def mq {q:Rat}:0<q↔0<q.num:=by
 rw[Rat.lt_iff];simp
def Ej (hu:0<u)(hg:Int.gcd t u=1):∃q:Rat,q.num=t/\(q.den:Int)=u:=by
 apply⟨⟨t,u.toNat,⋯,?_⟩,(),by show((u.toNat:Nat):Int)=u;omega⟩;show Nat.gcd t.natAbs u.toNat=1;have:u.toNat=u.natAbs:=⋯;rw[this];exact hg
def mV (a b:Rat):Rat.divInt (a.num*b.den+b.num*a.den) (a.den*b.den)=a+b:=by
 rw[<- Rat.divInt_add_divInt _ _ (by have:=den_pos a;omega) (by have:=den_pos b;omega),Xl,Xl]
def mG (a b:Rat):Rat.divInt (a.num*b.num) (a.den*b.den)=a*b:=by
 rw[<- Rat.divInt_mul_divInt,Xl,Xl]
def I0 (a b:Rat):Rat.divInt (a.num*b.den-b.num*a.den) (a.den*b.den)=a-b:=by
 let h:=mV a (-b);rw[Q4,<- h]
 congr 1
 .rw[Rat.neg_num,Rat.neg_den]
  grind
def mO (hb:b.num≠0):Rat.divInt (a.num*b.den) (a.den*b.num)=a / b:=by
 rw[X2,Rat.inv_def];conv=>rhs;rw[<- Xl a]
 rw[Rat.divInt_mul_divInt]
def EC (a b:Rat):(a.num*b.den<b.num*a.den)=(a<b):=propext (Rat.lt_iff a b).symm
def gT (hU:U≠0)(h1:Bd k T)(h2:Bd k U):Rb k (Rat.divInt T U):=by
 let⟨e1,e2⟩:=k4 (T:=T) hU;let⟨_,_,_,_,n5,n6⟩:=km (t:=T) hU;apply⟨?_,?_⟩
 .rw[<- e1];exact h1.le n5
 .rw[<- e2];exact h2.le n6
def Bd.add (ha:Bd j a)(hb:Bd j b):Bd (j+1) (a+b):=by
 unfold Bd at *;omega
def nD (ha:Rb j a)(hb:Rb k b):Rb (j+k+1) (a+b):=by
 rw[<- mV];let h2:(a.den:Int)*b.den≠0:=Int.ne_of_gt (Xd (den_pos a) (den_pos b));apply gT h2 (Bd.add (ha.1.mul hb.2) ?_) ((ha.2.mul hb.2).mono ⋯);have:=hb.1.mul ha.2
 grind
def jP (ha:Rb j a)(hb:Rb k b):Rb (j+k) (a*b):=by
 rw[<- mG];let h2:(a.den:Int)*b.den≠0:=Int.ne_of_gt (Xd (den_pos a) (den_pos b));exact gT h2 (ha.1.mul hb.1) (ha.2.mul hb.2)
def wC (Nn:Addr):Sp:=λvs H Q E=>∃(t u:Int),vs=[.int t,.int u]/\Bd 8000 u/\(u=0->E (.ref Nn) none H)/\(u≠0->∀p,H p=none->Q (.ref p) (aQ H p (qO (Rat.divInt t u))))
def qS:Sp:=λvs H Q _=>∃(t u:Int),vs=[.int t,.int u]/\0<u/\Bd 8000 u/\∀p,H p=none->Q (.ref p) (aQ H p (qO (Rat.divInt t u)))
def AL (op:Rat->Rat->Rat):Sp:=λvs H Q _=>∃(p q:Addr) (a b:Rat),vs=[.ref p,.ref q]/\H p=some (qO a)/\H q=some (qO b)/\Rb 3000 a/\Rb 3000 b/\∀r,H r=none->Q (.ref r) (aQ H r (qO (op a b)))
def nA (Nn:Addr):Sp:=λvs H Q E=>∃(p q:Addr) (a b:Rat),vs=[.ref p,.ref q]/\H p=some (qO a)/\H q=some (qO b)/\Rb 3000 a/\Rb 3000 b/\(b=0->E (.ref Nn) none H)/\(b≠0->∀r,H r=none->Q (.ref r) (aQ H r (qO (a / b))))
def iM:Sp:=λvs H Q _=>∃(p q:Addr) (a b:Rat),vs=[.ref p,.ref q]/\H p=some (qO a)/\H q=some (qO b)/\Rb 3000 a/\Rb 3000 b/\Q (.bl (decide (a<b))) H
def Sm:Rat->Rat->Rat:=λa b=>a+b
def YL:Rat->Rat->Rat:=λa b=>a-b
def pE:Rat->Rat->Rat:=λa b=>a*b
def b3 (h:Bd 3000 n):Bd 8000 n:=h.mono ∅
def b6 (h:Bd (3000+3000) n):Bd 8000 n:=h.mono ∅
def LH (h:Bd k u)(hu:u≠0):Bd k (sg t u):=by
 apply h.le ?_;let g0:0<Int.gcd t u:=Qx t hu;let e:(sg t u).natAbs=Int.gcd t u:=by unfold sg;split<;>omega
 rw[e];exact Nat.le_of_dvd ⋯ (Int.gcd_dvd_natAbs_right t u)
def vk:(if a<0 then -a else a)=(Int.gcd a 0:Int):=by
 rw[Int.gcd_zero_right];omega
def rC:Sp:=λvs H Q _=>∃(t u:Int),vs=[.int t,.int u]/\Q (.int (Int.gcd t u)) H
def mw:eJ g M (.tuple ds)=true↔ds.length=g/\∀j,j<g->Cu (has M j) (ds.getD j .none)=true:=by
 show(decide (ds.length=g)&&(List.range g).all λj=>Cu (has M j) (ds.getD j .none))=true↔_;rw[Z8,decide_eq_true_eq,Yf];constructor
 .rintro⟨h1,h2⟩;exact⟨h1,λj hj=>h2 j (by simpa using hj)⟩
 .rintro⟨h1,h2⟩;exact⟨h1,λj hj=>h2 j (by simpa using hj)⟩
def qD (q:Rat):PyData:=.tuple [.int q.num,.int (q.den:Int)]
def Gf (q:Rat):bL (qD q)=true:=by
 let h:=den_pos q;show(decide (1<=(q.den:Int))&&decide (Int.gcd q.num (q.den:Int)=1))=true;rw[decide_eq_true (show 1<=(q.den:Int) by omega),decide_eq_true (zN q)];rfl
def QT (h:bL d=true):∃q:Rat,d=qD q:=by
 let⟨t,u,rfl,hu,hg⟩:=lz h;let⟨q,e1,e2⟩:=Ej (t:=t) (u:=u) ⋯ ⋯;exact⟨q,by unfold qD;rw[e1,e2]⟩
def ly:Cu wd (qD q)=true↔(if wd=true then 0<q else q=0):=by
 show(bL (qD q)&&(if wd then decide (0<q.num) else decide (q.num=0)&&decide ((q.den:Int)=1)))=true↔_;rw[Gf];cases wd with
 |true=>simp[mq]
 |false =>
  simp;rintro rfl;rfl
structure Hd (M:Γ1)(qs:Δ1):Prop where
 pos:∀j,j<qs.length->has M j=true->0<qs.getD j 0
 nil:∀j,j<qs.length->has M j=false->qs.getD j 0=0
def mZ {α β : Type}{f:α->β}{xs:List α}{j:Nat}{a:α}{b:β}(h:j<xs.length):(xs.map f).getD j b=f (xs.getD j a):=by
 simp[List.getD,Zo,Zc h]
def DI {g:Nat}:eJ g M (.tuple (qs.map qD))=true↔qs.length=g/\Hd M qs:=by
 rw[mw,Zb];constructor
 .rintro⟨h1,h2⟩;apply⟨h1,⟨λj hj hh=>?_,λj hj hh=>?_⟩⟩
  .have:=h2 j ⋯;rw[mZ (a:=0) hj,ly,hh] at this;exact this
  .have:=h2 j ⋯;rw[mZ (a:=0) hj,ly,hh] at this;exact this
 .rintro⟨h1,h2⟩;apply⟨h1,λj hj=>?_⟩;rw[mZ (a:=0) ⋯,ly];cases hh:has M j with
  |true=>exact h2.pos j ⋯ hh
  |false=>exact h2.nil j ⋯ hh
def Ft (h:eJ g M d=true):∃qs:Δ1,d=.tuple (qs.map qD)/\qs.length=g/\Hd M qs:=by
 cases d with
 |tuple ds =>
  let⟨h1,h2⟩:=mw.mp h;have:∃qs:Δ1,ds=qs.map qD:=by
   let o9:∀d∈ds,∃q:Rat,d=qD q:=λd hd=>by
    let⟨j,hj,e⟩:=Yq hd;have:=h2 j ⋯;let e2:ds.getD j .none=d:=by simp[List.getD,Zc hj,e]
    rw[e2] at this;cases hf:bL d with
    |true=>exact QT hf
    |false=>rw[oD hf] at this;cases this
   clear h h1 h2
   induction ds with
   |nil=>exact⟨[],()⟩
   |cons d ds ih =>
    let⟨q,rfl⟩:=o9 d (Zi);let⟨qs,rfl⟩:=ih λd hd=>o9 d (Zj _ hd)
    exact⟨q::qs,()⟩
  let⟨qs,rfl⟩:=this;exact⟨qs,(),DI.mp h⟩
 |_=>cases h
def lJ (row:Γ3)(qs:Δ1)(g o:Nat):Bool:=decide (0<row.getD o 0)&&decide ((row.getD g 0:Rat)*qs.getD o 0<(row.getD o 0:Rat)*qs.getD g 0)
def lO (row:Γ3)(qs:Δ1)(g:Nat):Bool:=decide (row.getD g 0≠0)&&(List.range row.length).all λo=>!lJ row qs g o
def aR (row:Γ3)(qs:Δ1):List Nat:=(List.range row.length).filter (lO row qs)
def ar (M:Γ1)(qs:Δ1):Γ1:=M.map λrow=>(aR row qs).map λg:Nat=>(g:Int)
def bQ (gs:List Nat)(best:Γ3):Bool:=best.any λg=>gs.any λh=>decide ((h:Int)=g)
def fz (M:Γ1)(qs:Δ1)(gs:List Nat):List Nat:=(List.range M.length).filter λi=>bQ gs ((ar M qs).getD i [])
def cX (gs:List Nat):List V:=gs.map λg:Nat=>V.int (g:Int)
structure Dw (b:Addr)(H:Hp)(p pa pp pw:Addr)(xa xp xw:List V)(am pu wi:Ξ1)(v:V)(d:PyData):Prop where
 m:eh b H p pa pp pw xa xp xw am pu wi
 tr:fH b H v d
 wd:∀qs:Δ1,d=.tuple (qs.map qD)->∀z∈qs,Rb 300 z
def Dw.ak (a:Dw b H p pa pp pw xa xp xw am pu wi v d)(s:aw H H'):Dw b H' p pa pp pw xa xp xw am pu wi v d:=⟨a.m.ak s,a.tr.ak s,a.wd⟩
def LF:Sp:=λvs H Q _=>∃(b p pa pp pw:Addr) (xa xp xw:List V) (am pu wi:Ξ1) (v:V) (d:PyData),vs=[.ref p,v]/\eh b H p pa pp pw xa xp xw am pu wi/\fH b H v d/\∀H',aw H H'->Q (.bl (eJ xa.length (rowsOf wi) d)) H'
def nB (Pr:Addr):Sp:=λvs H Q E=>∃(b p pa pp pw:Addr) (xa xp xw:List V) (am pu wi:Ξ1) (v:V) (d:PyData),vs=[.ref p,v]/\Dw b H p pa pp pw xa xp xw am pu wi v d /\
 (eJ xa.length (rowsOf wi) d=false->∀H',aw H H'->E (.ref Pr) none H') /\
 (∀qs:Δ1,d=.tuple (qs.map qD)->qs.length=xa.length->Hd (rowsOf wi) qs->∀(r:Addr) (xs:List V) (H':Hp),aw H H'->H' r=some (.tup xs)->qP H' xs (ar (rowsOf wi) qs)->Q (.ref r) H')
def iN (h:Bd k n)(hk:1<=k):Rb k (n:Rat):=⟨h,by
 show Bd k ((1:Nat):Int);unfold Bd;exact Nat.one_lt_two_pow ⋯⟩
def kO (H:Hp)(ys:List V)(qs:Δ1):Prop:=ys.length=qs.length/\∀(j:Nat) y,ys[j]?=some y->∃a,y=.ref a/\H a=some (qO (qs.getD j 0))
def kO.ak (h:kO H ys qs)(s:aw H H'):kO H' ys qs:=⟨h.1,λj y hy=>by let⟨a,e,z⟩:=h.2 j y hy;exact⟨a,e,s _ _ z⟩⟩
theorem kO.of:∀{ys:List V}{qs:Δ1},cf b H ys (qs.map qD)->kO H ys qs
 |[],[],_=>⟨(),λj y h=>by simp at h⟩
 |y::ys,q::qs,.cons h t=>by
  let ih:=kO.of t;apply⟨by simp[ih.1],λj z hz=>?_⟩;cases j with
  |zero =>
   let e:y=z:=by simpa using hz
   subst e;unfold qD at h;let⟨a,_,e,ha,hs⟩:=jf h;let⟨_,_,rfl,h1,hs⟩:=M1 hs;let⟨_,_,rfl,h2,hs⟩:=M1 hs;cases nV hs;cases mi h1;cases mi h2;exact⟨a,e,ha⟩
  |succ j=>exact ih.2 j z (by simpa using hz)
def kO.at (h:kO H ys qs)(hg:g<qs.length):∃a,fY ys (g:Int)=some (.ref a)/\H a=some (qO (qs.getD g 0)):=by
 let hl:g<ys.length:=by rw[h.1];exact hg
 let e:=Zc hl;let⟨a,e2,z⟩:=h.2 g _ e;rw[e2] at e;exact⟨a,mU e,z⟩
def kO.app (h:kO H ys qs)(ha:H a=some (qO q)):kO H (ys++[.ref a]) (qs++[q]):=by
 apply⟨by simp[h.1],λj y hy=>?_⟩;rcases Z2 j ys.length with z |z
 .rw[Zq z] at hy;let⟨c,e,hc⟩:=h.2 j y hy;apply⟨c,e,?_⟩;have:(qs++[q]).getD j 0=qs.getD j 0:=by simp[List.getD,Zq (h.1▸z)]
  rw[this];exact hc
 .have:j=ys.length:=by
   have:=(Zf.mp hy).1;simp at this;omega
  subst this;simp at hy;subst hy;apply⟨a,(),?_⟩;have:(qs++[q]).getD ys.length 0=q:=by rw[h.1];simp[List.getD]
  rw[this];exact ha
def kO.tm (h:kO H ys qs)(s:Tm H H'):kO H' ys qs:=⟨h.1,λj y hy=>by let⟨a,e,z⟩:=h.2 j y hy;exact⟨a,e,s _ _ z⟩⟩
def bu (qs:Δ1):Rat:=qs.foldl (λs q=>s+q) 0
def yC {α : Type}{xs:List α}{i:Nat}{x:α}(h:xs[i]?=some x):xs.take (i+1)=xs.take i++[x]:=by rw[List.take_succ,h];rfl
def pZ (qs:Δ1)(q:Rat):bu (qs++[q])=bu qs+q:=by unfold bu;rw[List.foldl_append];rfl
def sk:Rb 1 (0:Rat):=by unfold Rb Bd;decide+kernel
theorem sf {qs:Δ1}(h:∀q∈qs,Rb k q):∀i,Rb (1+(k+1)*i) (bu (qs.take i))
 |0=>sk
 |i+1=>by
  let ih:=sf h i;cases e:qs[i]? with
  |none =>
   have:qs.take (i+1)=qs.take i:=by rw[List.take_succ,e];simp
   rw[this];exact ih.mono (by rw[Nat.mul_succ];omega)
  |some q =>
   rw[yC e,pZ];apply(nD ih (h q (Z0 e))).mono ?_;rw[Nat.mul_succ];omega
def DA:Sp:=λvs H Q _=>∃(l:Addr) (ys:List V) (qs:Δ1),vs=[.ref l]/\H l=some (.lst ys)/\kO H ys qs/\(∀q∈qs,Rb 300 q)/\qs.length<=8/\∀(r:Addr) (H':Hp),aw H H'->H' r=some (qO (bu qs))->Q (.ref r) H'
theorem MK:∀{xa:List V}{am:Ξ1},cf b H xa am->am.all (within 1 60)=true->xa=(am.map aZ).map V.int/\∀n∈am.map aZ,1<=n/\n<=60
 |_,_,.nil,_=>⟨(),λn hn=>nomatch hn⟩
 |_,_,.cons (d:=d) h t,h3=>by
  rw[Xy,Z8] at h3;let⟨e,hb⟩:=MK t h3.2;obtain⟨n,rfl,n1,n2⟩:∃n:Int,d=.int n/\1<=n/\n<=60:=by
   have:=h3.1;unfold within at this;split at this
   .simp at this;exact⟨_,(),this⟩
   .cases this
  cases h
  apply⟨by rw[e];simp[aZ],λk hk=>?_⟩;rcases Zk.mp hk with rfl |hk
  .exact⟨n1,n2⟩
  .exact hb k hk
theorem eh.am {am pu wi:Ξ1}(m:eh b H p pa pp pw xa xp xw am pu wi):xa=(am.map aZ).map V.int/\∀n∈am.map aZ,1<=n/\n<=60:=by
 let⟨_,_,h3,_⟩:=iV m.ok;exact MK m.ta h3
structure Bf (b:Addr)(H:Hp)(q:Addr)(ys:List V)(qs:Δ1):Prop where
 hq:H q=some (.tup ys)
 tr:cf b H ys (qs.map qD)
 bd:∀z∈qs,Rb 293 z
def Bf.ak (h:Bf b H q ys qs)(s:aw H H'):Bf b H' q ys qs:=⟨s _ _ h.hq,h.tr.ak s,h.bd⟩
end KM
namespace L2
open PySem.Spec PyProof.Rows
end L2
namespace KM
open L2 KG EX
theorem Ap:∀(ns:Γ3),cf b H (ns.map V.int) (ns.map PyData.int)
 |[]=>.nil
 |n::ns=>.cons (.int n) (Ap ns)
def aP (ns:Γ3):PyData:=.tuple (ns.map PyData.int)
theorem Eh:∀{xs:List V}{M:Γ1},qP H xs M->cf b H xs (M.map aP)
 |_,_,.nil=>.nil
 |_,_,.cons ⟨a,e,h⟩ t=>by
  subst e;exact .cons (.tup h (Ap _)) (Eh t)
def DW (q:Rat):(qD q).depth<=1:=by unfold qD;simp[PyData.depth,PyData.depthAll]
def xU (gs:List Nat):cX gs=(gs.map λg:Nat=>(g:Int)).map V.int:=by unfold cX;rw[Zp];rfl
def mr (h:lF d=true):∃q:Rat,d=qD q/\0<q/\Rb 20 q:=by
 let⟨t,u,rfl⟩:=xL h;let h':(decide (1<=u)&&decide (Int.gcd t u=1)&&decide (1<=t)&&decide (t<=1000000)&&decide (u<=1000000))=true:=h;simp only[Z8,decide_eq_true_eq] at h';let⟨⟨⟨⟨h1,h2⟩,h3⟩,h4⟩,h5⟩:=h';let⟨q,e1,e2⟩:=Ej (t:=t) (u:=u) ⋯ h2;apply⟨q,by unfold qD;rw[e1,e2],mq.mpr ⋯,?_,?_⟩
 .unfold Bd;omega
 .unfold Bd;omega
theorem uM:∀{pu:Ξ1},pu.all lF=true->∃ps:Δ1,pu=ps.map qD/\∀q∈ps,0<q/\Rb 20 q
 |[],_=>⟨[],(),λq h=>nomatch h⟩
 |d::pu,h=>by
  rw[Xy,Z8] at h;let⟨q,rfl,h1,h2⟩:=mr h.1;let⟨ps,rfl,hp⟩:=uM h.2;apply⟨q::ps,(),λz hz=>?_⟩;rcases Zk.mp hz with rfl |hz
  .exact⟨h1,h2⟩
  .exact hp z hz
def Rx:PyData->Rat
 |.tuple [.int t,.int u]=>Rat.divInt t u
 |_=>0
def iO (q:Rat):Rx (qD q)=q:=Xl q
def qJ (pu:Ξ1):Δ1:=pu.map Rx
theorem eh.pu {am pu wi:Ξ1}(m:eh b H p pa pp pw xa xp xw am pu wi):pu=(qJ pu).map qD/\∀q∈qJ pu,0<q/\Rb 20 q:=by
 let⟨_,_,_,_,_,h6,_⟩:=iV m.ok;let⟨ps,e,hp⟩:=uM h6;have:qJ pu=ps:=by
  rw[e];unfold qJ;rw[Zp];have:(Rx ∘ qD)=id:=by funext q;exact iO q
  rw[this,X0]
 rw[this];exact⟨e,hp⟩
def eh.fp {am pu wi:Ξ1}(m:eh b H p pa pp pw xa xp xw am pu wi):kO H xp (qJ pu):=by
 let h:=m.tp;rw[m.pu.1] at h;exact kO.of h
def zL {qs:Δ1}(hk:1<=k)(h:∀q∈qs,Rb k q)(g:Nat):Rb k (qs.getD g 0):=by
 by_cases hg:g<qs.length
 .have:qs.getD g 0∈qs:=by simp[List.getD,Zc hg]
  exact h _ this
 .have:qs.getD g 0=0:=by simp[List.getD,Yu (Xb hg)]
  rw[this];exact sk.mono hk
def aY (ps:Δ1)(bs:List Nat):Rat:=bu (bs.map λi=>ps.getD i 0)
def yK:Sp:=λvs H Q _=>∃(p q:Addr) (a b:Rat),vs=[.ref p,.ref q]/\H p=some (qO a)/\H q=some (qO b)/\Rb 3000 a/\Rb 3000 b/\0<b/\∀r,H r=none->Q (.ref r) (aQ H r (qO (a / b)))
def hW (ha:Rb j a)(hb:Rb k b)(h:b≠0):Rb (j+k) (a / b):=by
 let hn:b.num≠0:=λz=>h (Rat.num_eq_zero.mp z)
 rw[<- mO hn];apply gT ?_ (ha.1.mul hb.2) (ha.2.mul hb.1);intro z;rcases Int.mul_eq_zero.mp z with y |y
 .have:=den_pos a;omega
 .exact hn y
def dm (ns:Γ3)(o8:Nat):Γ3:=((List.range ns.length).filter λk=>decide (o8 / 2 ^ k % 2=1)).map λk=>ns.getD k 0
def aT (ns:Γ3):Γ1:=(List.range (2 ^ ns.length)).map (dm ns)
def cR (c:Int)(ms:Γ3)(qs:Δ1):Prop:=ms.length=qs.length/\∀j,j<qs.length->((ms.getD j 0:Int):Rat)=(c:Rat)*qs.getD j 0
def gL (am:Γ3)(qs:Δ1):Δ1:=(List.range qs.length).map λg=>qs.getD g 0*((am.getD g 0:Int):Rat)
end KM
namespace L2
open PySem.Spec PyProof.Rows
section
variable {κ : Type}[DecidableEq κ]
def ef (kvs:List (κ × V))(k:κ):Option V:=(kvs.find? λkv=>decide (kv.1=k)).map (·.2)
def dh (kvs:List (κ × V))(k:κ)(v:V):List (κ × V) :=
 if (kvs.any λkv=>decide (kv.1=k))=true then kvs.map (λkv=>if kv.1=k then (kv.1,v) else kv) else kvs++[(k,v)]
def gB {k:κ}(e:p.1=k):ef (p::r) k=some p.2:=by simp[ef,X3,e]
def gC {k:κ}(e:¬ p.1=k):ef (p::r) k=ef r k:=by simp[ef,X3,e]
theorem iS (k:κ):∀kvs:List (κ × V),(kvs.any λkv=>decide (kv.1=k))=(ef kvs k).isSome
 |[]=>rfl
 |p::r=>by
  rw[Xs];by_cases e:p.1=k
  .simp only[gB e,decide_eq_true e,Bool.true_or,Option.isSome_some]
  .rw[gC e,decide_eq_false e,Bool.false_or];exact iS k r
def fX (kvs:List (κ × V))(k:κ)(v:V):(dh kvs k v).length<=kvs.length+1:=by
 unfold dh
 grind
def nZ {k:κ}(v:V)(h:ef kvs k=none):dh kvs k v=kvs++[(k,v)]:=by
 unfold dh;rw[iS,h];exact if_neg ∅
def aF.lx (r:aF o u):o.isSome=u.isSome:=by
 cases o with
 |none=>cases u with
  |none=>rfl
  |some _=>exact(show False from r).elim
 |some _=>cases u with
  |none=>exact(show False from r).elim
  |some _=>rfl
def KV.val (r:KV kvs vs)(k:κ):aF (ef kvs k) (valueAt vs k):=by
 unfold KV at r;induction r with
 |nil=>exact True.intro
 |@cons p q ps qs h t ih =>
  let⟨h1,h2⟩:=h;by_cases e:p.1=k
  .let e':q.1=k:=h1.symm.trans e;let b:valueAt (q::qs) k=some q.2:=by simp[valueAt,X3,e']
   rw[gB e,b];exact h2
  .let e':¬ q.1=k:=λz=>e (h1.trans z)
   let b:valueAt (q::qs) k=valueAt qs k:=by simp[valueAt,X3,e']
   rw[gC e,b];exact ih
def KV.any (r:KV kvs vs)(k:κ):(kvs.any λkv=>decide (kv.1=k))=vs.any λkv=>decide (kv.1=k):=by
 unfold KV at r;induction r with
 |nil=>rfl
 |cons h t ih=>rw[Xs,Xs,ih,h.1]
def KV.NQ (r:KV kvs vs)(k:κ)(ry:RelV y u) :
  KV (kvs.map λkv=>if kv.1=k then (kv.1,y) else kv) (vs.map λkv=>if kv.1=k then (kv.1,u) else kv):=by
 unfold KV at r ⊢;induction r with
 |nil=>exact .nil
 |@cons p q ps qs h t ih =>
  rw[Zn,Zn];apply .cons ?_ ih;let⟨h1,h2⟩:=h;by_cases e:p.1=k
  .rw[if_pos e,if_pos (h1.symm.trans e)];exact⟨h1,ry⟩
  .rw[if_neg e,if_neg (λz=>e (h1.trans z))];exact⟨h1,h2⟩
def KV.put (r:KV kvs vs)(k:κ)(ry:RelV y u):KV (dh kvs k y) (stored vs k u):=by
 unfold dh stored;rw[r.any k];by_cases e:(vs.any λkv=>decide (kv.1=k))=true
 .rw[if_pos e,if_pos e];exact r.NQ k ry
 .rw[if_neg e,if_neg e];exact Paired.snoc r ⟨(),ry⟩
def KV.keys {vs:List (κ × Value)}(r:KV kvs vs):kvs.map (·.1)=vs.map (·.1):=by
 unfold KV at r;induction r with
 |nil=>rfl
 |cons h t ih=>rw[Zn,Zn,ih,h.1]
def KV.length (r:KV kvs vs):kvs.length=vs.length:=Paired.length r
end
def uo (r:RelV (kV k) u):(lG P w).is k u=true:=by
 cases k with
 |inl i=>let⟨t,e⟩:=(show ∃t,u=Value.int i t from r);subst e;exact vC P w i t
 |inr x=>let⟨t,e⟩:=(show ∃t,u=Value.str x t from r);subst e;exact vB P w x t
theorem qt:∀{ks:List dE}{us:Δ3},bh (ks.map kV) us->ItemsAre (lG P w) ks us
 |[],_,r=>by rw[List.map_nil] at r;cases r;exact .nil
 |k::ks,_,r=>by
  rw[Zn] at r;cases r with
  |cons h t=>exact .cons (uo h) (qt t)
abbrev KT (H:Hp):List (List dE×V)->List (List dE×Addr×Value)->Prop:=Paired λp q=>p.1=q.1/\H q.2.1=some (.tup (p.1.map kV))/\RelV p.2 q.2.2
def KT.val {xs:List (List dE×Addr×Value)}(r:KT H kvs xs)(k:List dE):aF (ef kvs k) ((atKey xs k).map (·.2)):=by
 induction r with
 |nil=>exact True.intro
 |@cons p q ps qs h t ih =>
  let⟨h1,_,h2⟩:=h;by_cases e:p.1=k
  .let e':q.1=k:=h1.symm.trans e;let b:atKey (q::qs) k=some q.2:=by simp[atKey,X3,e']
   rw[gB e,b];exact h2
  .let e':¬ q.1=k:=λz=>e (h1.trans z)
   let b:atKey (q::qs) k=atKey qs k:=by simp[atKey,X3,e']
   rw[gC e,b];exact ih
def KT.NQ (r:KT H kvs xs)(k:List dE)(ry:RelV y u) :
  KT H (kvs.map λkv=>if kv.1=k then (kv.1,y) else kv) (xs.map (putAt k u)):=by
 induction r with
 |nil=>exact .nil
 |@cons p q ps qs h t ih =>
  rw[Zn,Zn];apply .cons ?_ ih;let⟨h1,h2,h3⟩:=h;unfold putAt;by_cases e:p.1=k
  .rw[if_pos e,if_pos (h1.symm.trans e)];exact⟨h1,h2,ry⟩
  .rw[if_neg e,if_neg (λz=>e (h1.trans z))];exact⟨h1,h2,h3⟩
def KT.put (r:KT H kvs xs)(k:List dE)(hb:H b=some (.tup (k.map kV)))(ry:RelV y u) :
  KT H (dh kvs k y) (storedH xs k b u):=by
 let e:(kvs.any λkv=>decide (kv.1=k))=(atKey xs k).isSome:=by
  rw[iS,(r.val k).lx,Option.isSome_map]
 unfold dh storedH;rw[e];by_cases q:(atKey xs k).isSome=true
 .rw[if_pos q,if_pos q];exact r.NQ k ry
 .rw[if_neg q,if_neg q];exact Paired.snoc r ⟨(),hb,ry⟩
def KT.keeps (r:KT H kvs xs)(ht:∀b ys,H b=some (.tup ys)->H' b=some (.tup ys)):KT H' kvs xs :=
 Paired.HZ r λ_ _ z=>⟨z.1,ht _ _ z.2.1,z.2.2⟩
section
variable {P:Program}{w:World}{H:Hp}{h:Heap}{a:Addr}
def LK (ok:j1 P w H h)(e:Rd H a u):ca P w H h a u:=e.ok ok
def uy (ok:j1 P w H h)(e:Rd H a (.dK kvs)):kvs.length<=sizeLine/\(a == sysModules)=false/\∃vs,KV kvs vs/\h.DictOf (lG P w) a vs :=
 show ca P w H h a (.dK kvs) from LK ok e
def zh (ok:j1 P w H h)(e:H a=some (.dK kvs)):kvs.length<=sizeLine/\(a == sysModules)=false/\∃vs,KV kvs vs/\h.DictOf (lG P w) a vs:=uy ok (.inl e)
def nO (ok:j1 P w H h)(e:H a=some (.tup (ks.map kV))):(tupleKind (lG P w)).is h ks a:=by
 let⟨_,its,r,o,h1,h2,n,h3⟩:=(show ca P w H h a (.tup (ks.map kV)) from ok a _ e);exact⟨o,its.toArray,n,h1,h2,h3,by simpa using qt r⟩
def ux (ok:j1 P w H h)(e:Rd H a (.dT kvs)):kvs.length<=sizeLine/\(a == sysModules)=false /\
  ∃xs,KT H kvs xs/\h.DictOfH (tupleKind (lG P w)) a xs:=by
 let⟨z,y,xs,r,o,es,ep,h1,h2,h3,h4,h5⟩:=(show ca P w H h a (.dT kvs) from LK ok e);apply⟨z,y,xs,r,o,es,ep,h1,h2,h3,h4,λx hx=>?_,h5⟩;let all:∀{l:List (List dE×V)}{m:List (List dE×Addr×Value)},KT H l m->∀x∈m,(tupleKind (lG P w)).is h x.1 x.2.1:=by
  intro l m q;induction q with
  |nil=>intro x hx;exact nomatch hx
  |@cons p q ps qs hq t ih =>
   intro x hx;rcases Zk.mp hx with e |hx
   .subst e;exact nO ok (by rw[<- hq.1];exact hq.2.1)
   .exact ih x hx
 exact all r x hx
def MC (ok:j1 P w H h)(e:H a=some (.dT kvs)):kvs.length<=sizeLine/\(a == sysModules)=false /\
  ∃xs,KT H kvs xs/\h.DictOfH (tupleKind (lG P w)) a xs:=ux ok (.inl e)
end
def uc (H:Hp)(a:Addr)(y:V)(r:Option V):Prop :=
 (∃kvs k,Rd H a (.dK kvs)/\y=kV k/\r=ef kvs k)\/∃kvs k b,Rd H a (.dT kvs)/\y=.ref b/\H b=some (.tup (k.map kV))/\r=ef kvs k
def Dv (H:Hp)(a:Addr)(y v:V)(H':Hp):Prop :=
 (∃kvs k,H a=some (.dK kvs)/\y=kV k/\kvs.length<sizeLine/\H'=aQ H a (.dK (dh kvs k v))) \/
 ∃kvs k b,H a=some (.dT kvs)/\y=.ref b/\H b=some (.tup (k.map kV))/\kvs.length<sizeLine/\H'=aQ H a (.dT (dh kvs k v))
theorem uc.k {k:dE}(e:H a=some (.dK kvs)):uc H a (kV k) (ef kvs k):=.inl ⟨kvs,k,.inl e,(),()⟩
theorem Dv.k {k:dE}(e:H a=some (.dK kvs))(hl:kvs.length<sizeLine):Dv H a (kV k) v (aQ H a (.dK (dh kvs k v))):=.inl ⟨kvs,k,e,(),hl,()⟩
section
variable {X:Cx}{ae:Γ2}{σ:St}{H:Hp}{s:Shared}{a:Addr}{y v:V}{u r:Value}{o:Option V}{A:Around}{E:Θ2}
def Inv.big (I:Inv X ae σ H s):sysModules<s.heap.objs.size:=by
 let h:mainGlobals<s.heap.objs.size:=(I.mod.glob.keeps I.bk).lt;exact Nat.lt_trans ∅ h
def Cb (hu:A.units+1<cLine)(I:Inv X ae σ H s)(g:uc H a y (some v))(ry:RelV y u)(h:∀w' s',Inv X ae σ H s'->RelV v w'->Q w' s') :
  wpAny (model X.prog X.w) A (getItem (.ref a) u) Q E s:=by
 rcases g with ⟨kvs,k,e,ey,l⟩ |⟨kvs,k,b,e,ey,eb,l⟩
 .subst ey;let⟨z,hd,vs,cW,dd⟩:=uy I.cc e;let⟨w',hw,AN⟩:=aF.some_of (v:=v) (o:=valueAt vs k) (by rw[l];exact cW.val k);exact wpAny_getItem_of (uo ry) dd.mapOf hw (h w' _ (I.tok _) AN)
 .subst ey;cases (show u=Value.ref b from ry);let⟨z,hd,xs,cW,dd⟩:=ux I.cc e;let⟨w',hw,AN⟩:=aF.some_of (v:=v) (o:=(atKey xs k).map (·.2)) (by rw[l];exact cW.val k);let⟨p,hp,ZJ⟩:=Option.map_eq_some_iff.mp hw;apply wpAny_getItem_heap (tupleKind_room_in1 hu) (nO I.cc eb) dd hp ?_;rw[ZJ];exact h w' _ (I.tok _) AN
def KL (hu:A.units+1<cLine)(I:Inv X ae σ H s)(g:uc H a y o)(ry:RelV y u)(h:∀s',Inv X ae σ H s'->Q (.bool (!o.isSome)) s') :
  wpAny (model X.prog X.w) A (compareOp .NotIn u (.ref a)) Q E s:=by
 rcases g with ⟨kvs,k,e,ey,l⟩ |⟨kvs,k,b,e,ey,eb,l⟩
 .subst ey;let⟨z,hd,vs,cW,dd⟩:=uy I.cc e;apply wpAny_notIn_of (uo ry) hd dd.mapOf ?_;rw[<- (cW.val k).lx,<- l];exact h _ (I.tok _)
 .subst ey;cases (show u=Value.ref b from ry);let⟨z,hd,xs,cW,dd⟩:=ux I.cc e;apply wpAny_notIn_heap (tupleKind_room_in1 hu) (nO I.cc eb) hd dd ?_;let q:=(cW.val k).lx;rw[Option.isSome_map] at q;rw[<- q,<- l];exact h _ (I.tok _)
def mP (I:Inv X ae σ H s)(mu:Tj (H a))(hs:Heap.SameBut a s.heap h')(he:∃q,h'.get? a=some q)(new:ca X.prog X.w (aQ H a ob) h' a ob) :
  Inv X ae σ (aQ H a ob) { s with heap:=h',toks:=t' } :=
 I.write (x:=a) (e:=a) mu (.inl rfl) (λb q hb z=>(hs.2 b hb).trans z) he new
def EQ (z:kvs.length<=sizeLine)(hd:(a == sysModules)=false)(cW:KV kvs vs)(dd:h'.DictOf (lG P w) a vs) :
  ca P w H' h' a (.dK kvs):=⟨z,hd,vs,cW,dd⟩
def Ca (hu:A.units+1<cLine)(I:Inv X ae σ H s)(g:Dv H a y v H')(ry:RelV y u)(rv:RelV v r)(h:∀s',Inv X ae σ H' s'->Q ⟨⟩ s') :
  wpAny (model X.prog X.w) A (setItem (.ref a) u r) Q E s:=by
 rcases g with ⟨kvs,k,e,ey,l,eH⟩ |⟨kvs,k,b,e,ey,eb,l,eH⟩
 .subst ey eH;let⟨z,hd,vs,cW,dd⟩:=zh I.cc e;let hz:vs.length<=sizeLine:=by rw[<- cW.length];exact z
  let hl:(dh kvs k v).length<=sizeLine:=by have:=fX kvs k v;omega
  apply wpAny_setItem_pairs (hsz:=hz) (uo ry) dd λh' HC hs=>h _ ?_
  let he:∃q,h'.get? a=some q:=let ⟨q,_,_,hq,_⟩:=HC;⟨q,hq⟩;exact mP I (by rw[e];exact True.intro) hs he (EQ hl hd (cW.put k rv) HC)
 .subst ey eH;cases (show u=Value.ref b from ry);let⟨z,hd,xs,cW,dd⟩:=MC I.cc e;let hz:xs.length<=sizeLine:=by rw[<- Paired.length cW];exact z
  let hl:(dh kvs k v).length<=sizeLine:=by have:=fX kvs k v;omega
  apply wpAny_setItem_heap (hsz:=hz) (tupleKind_room_in1 hu) (nO I.cc eb) dd λh' HC hs=>h _ ?_
  let⟨q,es,ep,hq,h2,h3,h4,_,h5⟩:=HC;apply mP I (by rw[e];exact True.intro) hs ⟨q,hq⟩ ⟨hl,hd,_,(cW.put k eb rv).keeps λc ys ec=>?_,q,es,ep,hq,h2,h3,h4,h5⟩;rw[dg (uh ec e (λz=>nomatch z))];exact ec
end
section
variable {X:Cx}{ae:Γ2}{σ:St}{H:Hp}{s:Shared}{a:Addr}{kvs:List (dE×V)}{k:dE}{u:Value}{A:Around}{E:Θ2}
end
def UR (i:Expr):Prop:=∀ov iv,subscripted i false ov iv=operate [ov,iv] (getItem ov iv)
def Jf {T id:String}
  (hl:typeLookup (.type T) "__getitem__"=pure (some (.builtin id))) (hs:UR slice)
  (h:wpAny (model prog w) A (eval value env) (λo bS=>wpAny (model prog w) A (eval slice env) (λi c7=>c7.TypeIs o T/\wpAny (model prog w) A (getItem o i) Q E c7) E bS) E s) :
  wpAny (model prog w) A (eval (.Subscript value slice pos) env) Q E s:=by
 apply Subscript_ (wpAny_mono h (λo bS Iq=>wpAny_mono Iq (λi c7 wG=>?_) λ_ _ x=>x) λ_ _ x=>x);let⟨hT,wG⟩:=wG;unfold subscriptTail;apply Za ?_;rw[getitemInPython_of_ne hT.not_modules];apply Za (wpAny_specialOf hT hl ?_);let iD:wpAny (model prog w) A (subscripted slice false o i) (λr iG=>wpAny (model prog w) A (letTemporaryGo value o r >>= λ_=>pure r) Q E iG) E c7:=by
  rw[hs o i];exact wpAny_operating (wpAny_mono wG (λr iG Io=>Za (wpAny_letTemporaryGo (wpAny_pure Io))) λ_ _ x=>x)
 first
  |exact wpAny_pure (Za iD)
  |exact Za (wpAny_pure (Za iD))
  |exact Za iD
def vI (I:Inv X ae σ H s)(g:uc H a y o):s.TypeIs (.ref a) "dict":=by
 rcases g with ⟨kvs,k,e,_,_⟩ |⟨kvs,k,b,e,_,_,_⟩
 .obtain⟨_,_,vs,_,dd⟩:=uy I.cc e;exact dd.typeIs
 .obtain⟨_,_,xs,_,dd⟩:=ux I.cc e;exact dd.typeIs
def Vc (td ty:TE):TE:=λσ H Q=>td σ H λx H1=>ty σ H1 λy H2=>∃a v,x=.ref a/\uc H2 a y (some v)/\Q v H2
def IY (ty td:TE):TE:=λσ H Q=>ty σ H λy H1=>td σ H1 λx H2=>∃a o,x=.ref a/\uc H2 a y o/\Q (.bl (!o.isSome)) H2
def Vv (td ty tv:TE):TS:=λD σ H=>tv σ H λv H1=>td σ H1 λx H2=>ty σ H2 λy H3=>∃a H4,x=.ref a/\Dv H3 a y v H4/\D.nx σ H4
section
variable {X:Cx}{o i e value:Expr}{pos kU qQ:Pos}{td ty tv:TE}
def zR (hu:X.A.units+1<cLine)(ho:PE X o td)(hi:PE X i ty)(hs:UR i):PE X (.Subscript o i pos) (Vc td ty):=by
 intro ae s σ H Q I h;apply Jf PySem.F.slot_dict_getitem.lookup hs (bE (ho ae s σ H _ I h) λu s1 ⟨x,H1,I1,rx,q1⟩=>bE (hi ae s1 σ H1 _ I1 q1) λiv s2 ⟨y,H2,I2,ry,a,v,ex,g,q2⟩=>?_);subst ex;obtain rfl:u=Value.ref a:=rx;exact⟨vI I2 g,Cb hu I2 g ry λw' s3 I3 AN=>⟨v,H2,I3,AN,q2⟩⟩
def BE (hu:X.A.units+1<cLine)(hi:PE X i ty)(ho:PE X o td):PC X .NotIn i o (IY ty td):=by
 intro ae s σ H Q I h;apply bE (hi ae s σ H _ I h) λiv s1 ⟨y,H1,I1,ry,q1⟩=>bE (ho ae s1 σ H1 _ I1 q1) λu s2 ⟨x,H2,I2,rx,a,ov,ex,g,q2⟩=>?_
 subst ex;obtain rfl:u=Value.ref a:=rx;exact KL hu I2 g ry λs3 I3=>⟨.bl (!ov.isSome),H2,I3,(),q2⟩
def JG (hu:X.A.units+1<cLine)(ho:PE X o td)(hi:PE X i ty)(hv:PE X value tv)(hs:swapsWith value (some (.Subscript o i kU)) pos.line X.env=pure false) :
  PS X (.Assign [.Subscript o i kU] value pos) (Vv td ty tv):=by
 intro ae s σ H D I h;apply wpAny_Assign_Subscript (bE (hv ae s σ H _ I h) λr s1 ⟨v,H1,I1,rv,q1⟩=>bE (ho ae s1 σ H1 _ I1 q1) λu s2 ⟨x,H2,I2,rx,q2⟩=>bE (hi ae s2 σ H2 _ I2 q2) λiv s3 ⟨y,H3,I3,ry,a,H4,ex,g,q3⟩=>?_) hs;subst ex;obtain rfl:u=Value.ref a:=rx;exact Ca hu I3 g ry rv λs4 I4=>⟨σ,H4,I4,q3⟩
end
def Gv (h:Heap)(hb:sysModules<h.objs.size):ca P w H (h.push { cls:=.type "dict",data:=.dict #[] }) h.objs.size (.dK []) :=
 ⟨Z7 _,beq_eq_false_iff_ne.mpr (Ne.symm (Ye hb)),[],.nil,Heap.DictOf.new h⟩
def Gs (h:Heap)(hb:sysModules<h.objs.size):ca P w H (h.push { cls:=.type "dict",data:=.dict #[] }) h.objs.size (.dT []) :=
 ⟨Z7 _,beq_eq_false_iff_ne.mpr (Ne.symm (Ye hb)),[],.nil,_,#[],0,Zz _ rfl,⟨(),(),()⟩,(),(),X4⟩
section
variable {X:Cx}{pos:Pos}
end
section
variable {X:Cx}{ae:Γ2}{σ:St}{H:Hp}{s:Shared}{a:Addr}{y d:V}{u r:Value}{o:Option V}{A:Around}{E:Θ2}
end
section
variable {X:Cx}{o e f:Expr}{rq jO:Pos}{td ty tx:TE}
end
section
variable {X:Cx}{ae:Γ2}{σ:St}{H:Hp}{s:Shared}{a:Addr}{kvs:List (dE×V)}{A:Around}{E:Θ2}
end
section
variable {X:Cx}{ae:Γ2}{σ:St}{H:Hp}{s:Shared}{a:Addr}{y:V}{u:Value}{A:Around}{E:Θ2}
end
section
variable {X:Cx}
end
section
variable {κ : Type}[DecidableEq κ]
def zz {k:κ}(h:ef kvs k=some v):k∈kvs.map (·.1):=by
 let q:(kvs.any λkv=>decide (kv.1=k))=true:=by
  rw[iS,h]
  all_goals rfl
 grind
end
def r9 (g:TG)(tt:TT)(tk tv:TE)(J:It)(acc:Addr)(au:St)(df:Hp)(Q:VK):Prop :=
 ∃W:Nat->Nat->St->Hp->Prop,(∃m,W 0 m au (aQ df acc (.dK [])))/\∀i m aS H',W i m aS H' ->
  (J.stop i H'/\Q (.ref acc) H') \/
  (J.go i H'/\∃N:St->Hp->Prop,(∀cz H2,N cz H2->∃m',m'<m/\W (i+1) m' cz H2)/\∀x H2,J.tu i H' x H2->g x aS H2 λgi H3=>tt gi H3 λb H4 =>
   if b=true then tk gi H4 λkx H5=>tv gi H5 λy H6=>∃kvs k,H6 acc=some (.dK kvs)/\kx=kV k/\kvs.length<sizeLine/\N gi (aQ H6 acc (.dK (dh kvs k y))) else N gi H4)
def wN (wi:TI)(g:TG)(tt:TT)(tk tv:TE)(own:Nat)(ix:List Nat):TE:=λσ H Q=>wi σ H λJ H1=>∀acc,H1 acc=none->r9 g tt tk tv J acc (dr own ix σ) H1 Q
def Cc (I:Inv X ae σ H s)
  (e:H a=some (.dK kvs)) (ry:RelV (kV k) u) (rv:RelV v r) (l:kvs.length<sizeLine) (h:∀s',Inv X ae σ (aQ H a (.dK (dh kvs k v))) s'->Q ⟨⟩ s'):wpAny (model X.prog X.w) A (dictSet a u r) Q E s:=by
 let⟨z,hd,vs,cW,dd⟩:=zh I.cc e;let z1:vs.length<=sizeLine:=by rw[<- cW.length];exact z
 let z2:(dh kvs k v).length<=sizeLine:=Zl (fX kvs k v) l;apply wpAny_dictSet_pairs (hsz:=z1) (uo ry) dd λh' HC hs=>h _ ?_
 let he:∃q,h'.get? a=some q:=let ⟨q,_,_,hq,_⟩:=HC;⟨q,hq⟩;exact mP I (by rw[e];exact True.intro) hs he (EQ z2 hd (cW.put k rv) HC)
def YD (prog:Program)(w:World)(A:Around)(kx vx:Expr)(env:Env)(D:Addr)(G:Shared->Prop):Shared->Prop:=wpAny (model prog w) A (eval kx env) (λkv fZ=>wpAny (model prog w) A (eval vx env) (λvv m8=>wpAny (model prog w) A (dictSet D kv vv) (λ_ wB=>G wB) (λ_ _=>False) m8) (λ_ _=>False) fZ) (λ_ _=>False)
def qo {prog:Program}{w:World}{A:Around}{kx vx tg iter:Expr}{eu:Ξ2}{scope:Scope}{pos:Pos}{it:Value}{D:Addr}{env:Env}:zt prog w A tg eu env it (.DictComp kx vx [⟨tg,iter,eu,0⟩] scope pos) 0 (.ref D) (YD prog w A kx vx env D) :=
 mL (compTurn_dict ..) λG R E s h k=>Za (Za (wpAny_mono h (λkv fZ wF=>Za (wpAny_holding (wpAny_mono wF (λvv m8 wE=>Za (wpAny_standAt (wpAny_holding (wpAny_mono wE (λ_ wB Dl=>wpAny_pure (k _ Dl)) λ_ _ z=>z.elim)))) λ_ _ z=>z.elim))) λ_ _ z=>z.elim))
section
variable {tk tv:TE}
def oG {RR:Value->Addr->Result->Shared->Prop}
  (B:aM X scope own cap ix) (hc:X.calm=true)
  (hb:∀C fp s H,PG (cP X scope C (own++cap) fp s H) tg g/\dj (cP X scope C (own++cap) fp s H) eu tt/\PE (cP X scope C (own++cap) fp s H) kx tk/\PE (cP X scope C (own++cap) fp s H) vx tv)
  (I2:Inv X ae σ H2 s2) (T:Turn X.prog X.w X.K tg J fp it tn) (fE:tn 0 s2.heap) (f2:∀b∈fp,eQ X ae H2 b)
  (q:∀acc,H2 acc=none->r9 g tt tk tv J acc (dr own.length ix σ) H2 Q)
  (HA:∀D C H' s' m,Inv X ae σ H' s'->Q (.ref D) H'->s'.heap.Ns C m->eQ X ae H' C->RR (.ref D) C (.ok .next) s') :
  wpAny (model X.prog X.w) X.A newDict (λacc iG=>wpAny (model X.prog X.w) X.A (newFunctionEnv scope X.env.globals (dH X.env scope.names []) [] X.env.qual none .none (some X.env)) (λj6 fZ =>
   codeAny (model X.prog X.w) X.A (.compStart (.DictComp kx vx [⟨tg,iter,eu,0⟩] scope pos) 0 (.ref it) acc { j6 with scope:=relabel scope X.env }) (RR acc j6.locals) fZ) E iG) E s2:=by
 apply wpAny_newObj_type (zk (CF:=λD σ H N=>tk σ H λkx H5=>tv σ H5 λy H6=>∃kvs k,H6 D=some (.dK kvs)/\kx=kV k/\kvs.length<sizeLine/\N σ (aQ H6 D (.dK (dh kvs k y)))) (ST:=YD X.prog X.w X.A kx vx) B hc (λC D=>qo) (λ_ _ _ _=>codeAny_compStart_dict) (λC fp s H=>⟨(hb C fp s H).1,(hb C fp s H).2.1,λD P σ H' s' N G I q k=>?_⟩) I2
  (I2.laid (a:=s2.heap.objs.size) (o:=.dK []) (h':=s2.heap.push { cls:=.type "dict",data:=.dict #[] }) (t':=s2.toks) (λ_ _ q=>Zm _ q) (Ze _) (Gv s2.heap I2.big)) T fE f2 q HA)
 apply bE ((hb C fp s H).2.2.1 _ s' σ H' _ I q) λkv Ru h9=>?_
 let⟨yk,Sa,Tl,K3,So⟩:=h9;apply bE ((hb C fp s H).2.2.2 _ Ru σ Sa _ Tl So) λvv Wx h9=>?_
 let⟨yv,W6,Nw,Rv,kvs,k',hk,ek,hz,Sn⟩:=h9;subst ek;exact Cc (X:=cP X scope C (own++cap) fp s H) (E:=λ_ _=>False) (A:=X.A) Nw hk K3 Rv hz λs' I'=>k _ _ _ I' Sn
def FA (B:aM X scope own cap ix)(hc:X.calm=true)(hi:PI X tg iter wi)
  (hb:∀C fp s H,PG (cP X scope C (own++cap) fp s H) tg g/\dj (cP X scope C (own++cap) fp s H) eu tt/\PE (cP X scope C (own++cap) fp s H) kx tk/\PE (cP X scope C (own++cap) fp s H) vx tv)
  (hs:∀x,foldedSetIterable iter X.env x=pure x:=by intro _;rfl):PE X (.DictComp kx vx [⟨tg,iter,eu,0⟩] scope pos) (wN wi g tt tk tv own.length ix):=by
 intro ae s σ H Q I h;rw[arm_eval_DictComp];let has:∀x∈scope.names,x.2=.free->(X.env.cells.lookup x.1).isSome=true:=λx hx hk=>by
  let⟨c,e⟩:=I.ok.has x.1 (B.frees x hx hk);rw[e];rfl
 apply wpAny_comprehension_free (use:=none) rfl hs (RI has) B.kind B.names ?_;show wpAny _ _ (eval iter X.env) _ _ s;apply bE (hi ae s σ H _ I h) λv s1 h1=>bE h1 λHo s2 h2=>?_
 let⟨it,fp,tn,J,H2,e,I2,T,fE,f2,q⟩:=h2;subst e;apply oG (RR:=λacc C=>compPost (model X.prog X.w) X.A X.xe none (EP X ae σ Q) acc C) B hc hb I2 T fE f2 q ?_;intro D C H' s' m I' q' hn fC;apply⟨m,hn,λh' tK=>⟨.ref D,H',?_,(),q'⟩⟩;exact I'.turned (t':=s'.toks) (it:=C) (λb o CY e=>(tK.2 b CY).trans e) fC.1 fC.2.1 fC.2.2.2.1 fC.2.2.2.2.1 fC.2.2.2.2.2
end
section
def gd (v a:Addr):HO:=.ext λh=>h.IsValuesView v a
def JB:V->List V->Hp->VK->Prop:=λx xs H Q=>∃a kvs,x=.ref a/\xs=[]/\H a=some (.dK kvs)/\∀v,H v=none->Q (.ref v) (aQ H v (gd v a))
def BO:W4 X "dict.values" JB:=by
 intro ae s σ H x xs v us Q I r rs h;let⟨a,kvs,rfl,rfl,ha,q⟩:=h;cases rs;cases r;let⟨z,hd,vs,cW,dd⟩:=zh I.cc ha;apply call_meetsIn PySem.F.slot_dict_values dd.typeIs PySem.F.entry_dict_values (PySem.F.args_dict_values_1 _) (meets_dict_values (lG X.prog X.w) a hd) ⟨⟨vs,dd⟩,?_⟩;let hv:(s.heap.push { cls:=.type "dict_values",data:=.fields #[.ref a] }).IsValuesView s.heap.objs.size a:=⟨_,Zz _ rfl,(),()⟩;apply⟨.ref s.heap.objs.size,_,I.laid (t':=s.toks) (o:=gd s.heap.objs.size a) (λ_ _ q=>Zm _ q) (Ze _) ⟨hv,⟨_,Zz _ rfl⟩,λh1 h2 w1 hk=>?_⟩,(),q _ I.fresh⟩;let⟨o,e,c⟩:=w1;exact⟨o,hk o e,c⟩
def sF (I:Inv X ae σ H s)(ha:Rd H a (.dK kvs)) :
  kvs.length<=sizeLine/\(a == sysModules)=false/\∃vs ep,KV kvs vs/\s.heap.DictAt (lG X.prog X.w) a vs ep:=by
 let⟨z,hd,vs,cW,o,es,ep,r⟩:=uy I.cc ha;exact⟨z,hd,vs,ep,cW,o,es,r⟩
theorem Al:∀{kvs:List (dE×V)}{vs:List (dE×Value)}{us:Δ3},KV kvs vs->us.length=vs.length->(∀(j:Nat) (v:Value),us[j]?=some v->∃k,vs[j]?=some (k,v))->bh (kvs.map (·.2)) us
 |_,_,us,.nil,hl,_=>by
  cases us with
  |nil=>exact .nil
  |cons _ _=>simp at hl
 |_,_,us,.cons h hs,hl,hu=>by
  cases us with
  |nil=>simp at hl
  |cons u us =>
   apply .cons ?_ (Al hs (by simpa using hl) λj v hj=>hu (j+1) v (by simpa using hj));let⟨k,e⟩:=hu 0 u rfl;simp at e;have:=h.2;rw[e] at this;exact this
def lE (hc:X.calm=true):cn X (.type "list") (λxs H Q=>∃v a kvs,xs=[.ref v]/\H v=some (gd v a)/\Rd H a (.dK kvs)/\∀l,H l=none->Q (.ref l) (aQ H l (.lst (kvs.map (·.2))))):=by
 intro ae s σ H xs us Q I r h;let⟨v,a,kvs,rfl,hv,ha,q⟩:=h;let⟨u,rfl,rx⟩:=vals1 r;cases rx;let⟨z,hd,vs,ep,cW,at'⟩:=sF I ha;let DP:s.heap.IsValuesView v a:=(I.cc v _ hv).1;let hl:=cW.length;apply PySem.W.kdl_call (PySem.W.kdl_values (knd:=lG X.prog X.w) (kvs:=vs) (ep:=ep) (r:=v) (d:=a)) (I.ok.hd hc) ⟨DP,at'⟩ (by rw[<- hl];exact z) λh' tk acc c' hk hD bU=>?_
 let hvs:bh (kvs.map (·.2)) acc.toList:=Al cW (by rw[Array.length_toList];exact bU.1) λj x e=>bU.2 j x (by rw[<- Array.getElem?_toList];exact e)
 apply⟨.ref s.heap.objs.size,_,I.laid (t':=tk) (o:=.lst (kvs.map (·.2))) hk (Ze _) ⟨by rw[Zb];exact z,acc.toList,c',hvs,?_⟩,(),q _ I.fresh⟩;simpa using hD
def Inv.freeze (I:Inv X ae σ H s)(ha:H a=some (.dK kvs))(ho:s.heap.get? a=some o):Inv X ae σ (aQ H a (.iz o (.dK kvs))) s:=by
 apply I.write (x:=a) (e:=a) (t':=s.toks) (h':=s.heap) (by rw[ha];exact True.intro) (.inl rfl) (λ_ _ _ e=>e) ⟨o,ho⟩ ⟨ho,?_⟩;let⟨z,hd,vs,cW,dd⟩:=zh I.cc ha;exact⟨z,hd,vs,cW,dd⟩
def QO (h:nu k v=true):RelV (kV k) v:=by
 rcases GW h with ⟨i,t,rfl,rfl⟩ |⟨x,t,rfl,rfl⟩
 .exact⟨t,()⟩
 .exact⟨t,()⟩
def W5 (a:Addr)(o:Obj)(kvs:List (dE×V)):It :=
 ⟨λi H=>H a=some (.iz o (.dK kvs))/\i<kvs.length,λi H x H'=>H'=H/\∃k v,kvs[i]?=some (k,v)/\x=kV k,λi H=>H a=some (.iz o (.dK kvs))/\kvs.length<=i⟩
def vc (I:Inv X ae σ H s)(hg:H a=some (.iz o (.dK kvs)))(G2:o.data=.dict AZ ep) :
  ∃vs,KV kvs vs/\vs.length=kvs.length/\s.heap.DictAt (lG X.prog X.w) a vs ep:=by
 let⟨z,hd,vs,Tc,cW,o',es,oO,r⟩:=sF I (.inr ⟨o,hg⟩);let⟨ho,_⟩:=I.cc a _ hg;have:o'=o:=by rw[ho] at oO;exact(Option.some.inj oO).symm
 subst this;let h2:=r.2.1;rw[G2] at h2;injection h2 with _ h2
 subst h2;exact⟨vs,cW,cW.length.symm,o',es,oO,r⟩
def Bp {K:Θ1}(a it:Addr)(o:Obj)(kvs:List (dE×V))(AZ:Array DictEntry)(ep:Nat)(G2:o.data=.dict AZ ep):Turn P w K tg (W5 a o kvs) [it] it (λi h=>h.IsKeyIter it a i kvs.length ep) where
 mem:=by simp
 obj:=λi h st b hb=>by
  obtain rfl:b=it:=by simpa using hb
  let⟨o',e,c,d⟩:=st;exact⟨o',e,λv z=>by rw[d] at z;cases z⟩
 keep:=λi h h' st k=>st.at λo e=>k it (by simp) o e
 item:=by
  intro X hP hw hK hc i ae s σ H E I hf st hg;subst hP hw hK;let⟨hg,hi⟩:=hg;let⟨vs,cW,hl,at'⟩:=vc I hg G2;let⟨f0,f1,f2,f3,f4,f5⟩:=hf it (by simp);obtain⟨⟨k,v⟩,RO⟩:∃p,vs[i]?=some p:=⟨vs[i],by simp[show i<vs.length by omega]⟩;apply wpAny_pyNext_dict_item (by rw[hl];exact st) at' RO λkey h' t7 tD sb=>?_
  let I1:Inv X ae σ H { s with heap:=h' }:=I.turned (t':=s.toks) (λb o hb e=>(sb.2 b hb).trans e) f0 f1 f3 f4 f5;rw[hl] at tD;let⟨o1,e1,c1,d1⟩:=id tD;let hkk:∃v',kvs[i]?=some (k,v'):=by
   let e2:=cW.keys;let e3:=congrArg (λl=>l[i]?) e2;simp only[Zo,RO,Y1] at e3;cases e4:kvs[i]? with
   |none=>rw[e4] at e3;cases e3
   |some p =>
    rw[e4] at e3;simp only[Y1,Option.some.injEq] at e3;exact⟨p.2,by rw[<- e3]⟩
  let⟨v',ZD⟩:=hkk;exact⟨key,(),uu (s:={ s with heap:=h' }) e1 c1 d1 ∅ ⟨kV k,H,I1,QO t7,⟨rfl,k,v',ZD,rfl⟩,tD,λb hb=>(hf b hb).1⟩⟩
 done:=by
  intro X hP hw hK hc i ae s σ H E I hf st hg;subst hP hw hK;let⟨hg,hi⟩:=hg;let⟨vs,cW,hl,at'⟩:=vc I hg G2;let⟨f0,f1,f2,f3,f4,f5⟩:=hf it (by simp);exact wpAny_pyNext_dict_end (I.ok.hd hc) (by rw[hl];exact st) at' (by simp;omega) λh' eb=>⟨(),I.turned (t':=s.toks) (λb o hb e=>eb b o hb e) f0 f1 f3 f4 f5⟩
 self:=λ_ _ _ _ _ st h=>wpAny_pyIter_keyiter st h
def VY (td:TE):TI:=λσ H R=>td σ H λx H1=>∃a kvs,x=.ref a/\H1 a=some (.dK kvs)/\∀o,R (W5 a o kvs) (aQ H1 a (.iz o (.dK kvs)))
def JN (hl:PE X l td):PI X tg l (VY td):=by
 intro ae s σ H R I h;apply bE (hl ae s σ H _ I h) λv s1 ⟨x,H1,I1,r1,q1⟩=>?_
 let⟨a,kvs,e,ha,q⟩:=q1;subst e;cases r1;let⟨z,hd,vs,ep,cW,o,es,ho,r⟩:=sF I1 (.inl ha);let at':s1.heap.DictAt (lG X.prog X.w) a vs ep:=⟨o,es,ho,r⟩;apply wpAny_pyIter_dict hd at' ?_;let I2:=I1.freeze ha ho;let SW:=cW.length;apply⟨s1.heap.objs.size,[s1.heap.objs.size],_,W5 a o kvs,_,(),I2.kept (t':=s1.toks) λb o e=>Zm _ e,Bp a _ o kvs es ep r.2.1,⟨_,Zz _ rfl,(),by rw[SW];rfl⟩,λb hb=>?_,q o⟩;obtain rfl:b=s1.heap.objs.size:=by simpa using hb
 exact I2.jC (Ze _) (I2.cc.fresh (Ze _))
end
end L2
namespace PySem
def uC (hT:IsPair s.heap T a b)
  (q:∀g,g.get? T=some { cls:=.type "tuple",data:=.seq ((#[a,b]:Array Value).setIfInBounds k x) }->Heap.SameBut T s.heap g->Q ⟨⟩ { s with heap:=g }):wpAny (model prog w) A (updateSeq T (·.setIfInBounds k x)) Q E s :=
 wpAny_updateSeq_pair hT q
section
def CL (t:h.IsTupleIter it l i)(sb:Heap.ExtBut c h g)(ne:it≠c):g.IsTupleIter it l i:=let ⟨o,e,r⟩:=t;⟨o,sb it o ne e,r⟩
def kg (t:h.IsTuple l v)(sb:Heap.ExtBut c h g)(ne:l≠c):g.IsTuple l v:=let ⟨o,e,r⟩:=t;⟨o,sb l o ne e,r⟩
def Bj {Q:Θ2}(D:ZipApart z TI TO i1 i2 l1 l2)(hz:IsZip s.heap z TI TO .none)(pI:IsPair s.heap TI (.ref i1) (.ref i2))(pO:IsPair s.heap TO a b)
  (t1:s.heap.IsTupleIter i1 l1 k1) (t2:s.heap.IsTupleIter i2 l2 k2) (u1:s.heap.IsTuple l1 xs) (u2:s.heap.IsTuple l2 ys) (hx:xs[k1]?=some x) (hy:ys[k2]?=some y)
  (q:∀g,IsZip g z TI TO (rawInt s.heap.objs.size)->IsPair g TO x y->g.IsTupleIter i1 l1 (k1+1)->g.IsTupleIter i2 l2 (k2+1)->IsPair g s.heap.objs.size x y ->
   (∀c o,c≠z->c≠TO->c≠i1->c≠i2->s.heap.get? c=some o->g.get? c=some o)->Q (.ref s.heap.objs.size) { s with heap:=g }) :
  wpAny (model prog w) A (Builtin.«zip.__next__» ⟨[.ref z],[]⟩) (λiD s'=>∃v,iD=.done (.ret v)/\Q v s') E s:=by
 show wpAny _ _ (field (.ref z) 2 >>= _) _ _ _;apply Za (wpAny_field hz rfl (x:=.bool false) rfl ?_);show wpAny _ _ (field (.ref z) 3 >>= _) _ _ _;apply Za (wpAny_field hz rfl (x:=.ref TI) rfl (Za (wpAny_seqItems pI rfl ?_)));show wpAny _ _ (Builtin.SmallTypes.ownedTupleIsFree (.ref z) >>= _) _ _ _;apply Za ?_;unfold Builtin.SmallTypes.ownedTupleIsFree;apply Za (wpAny_field hz rfl (x:=.none) rfl (wpAny_pure ?_));simp only[if_true];apply Za (wpAny_rule (Za (wpAny_field hz rfl (x:=.ref TO) rfl ?_)));apply Za (wpAny_setField_rec hz (by simp) λg1 z1 b1=>?_);replace z1:IsZip g1 z TI TO .ellipsis:=z1;apply Za ?_;simp only[List.zipIdx_cons,List.zipIdx_nil,List.forIn_cons,List.forIn_nil];apply Za (Za (wpAny_onRaise ?_));show wpAny _ _ (Builtin.SmallTypes.nextOf (.ref i1) >>= _) _ _ _;apply Za (YU (CL t1 b1.extBut D.i1z) (kg u1 b1.extBut D.l1z) hx λg2 n1 b2=>wpAny_pure ?_);let o2:IsPair g2 TO a b:=b2.extBut _ _ D.TOi1 (b1.extBut _ _ D.TOz pO);apply Za (wpAny_seqItems o2 rfl (Za (uC o2 λg3 o3 b3=>Za (wpAny_letGo (wpAny_pure ?_)))))
 replace o3:IsPair g3 TO x b:=o3
 apply Za (Za (wpAny_onRaise ?_));show wpAny _ _ (Builtin.SmallTypes.nextOf (.ref i2) >>= _) _ _ _;apply Za (YU (CL (CL (CL t2 b1.extBut D.i2z) b2.extBut D.i12.symm) b3.extBut D.TOi2.symm) (kg (kg (kg u2 b1.extBut D.l2z) b2.extBut D.l2i1) b3.extBut D.l2TO) hy λg4 n2 b4=>wpAny_pure ?_);let o4:IsPair g4 TO x b:=b4.extBut _ _ D.TOi2 o3;apply Za (wpAny_seqItems o4 rfl (Za (uC o4 λg5 o5 b5=>Za (wpAny_letGo (wpAny_pure (wpAny_pure ?_))))))
 replace o5:IsPair g5 TO x y:=o5
 apply Za (wpAny_seqItems o5 rfl (Za (wpAny_newTuple ?_)));let sz:g5.objs.size=s.heap.objs.size:=by rw[b5.1,b4.1,b3.1,b2.1,b1.1]
 let z5:IsZip g5 z TI TO .ellipsis:=b5.extBut _ _ D.TOz.symm (b4.extBut _ _ D.i2z.symm (b3.extBut _ _ D.TOz.symm (b2.extBut _ _ D.i1z.symm z1)));let k5:∀c o,c≠z->c≠TO->c≠i1->c≠i2->s.heap.get? c=some o->g5.get? c=some o:=λc o e1 e2 e3 e4 e=>b5.extBut _ _ e2 (b4.extBut _ _ e4 (b3.extBut _ _ e2 (b2.extBut _ _ e3 (b1.extBut _ _ e1 e))))
 let m1:g5.IsTupleIter i1 l1 (k1+1):=CL (CL (CL n1 b3.extBut D.TOi1.symm) b4.extBut D.i12) b5.extBut D.TOi1.symm;let m2:g5.IsTupleIter i2 l2 (k2+1):=CL n2 b5.extBut D.TOi2.symm;let zlt:z<g5.objs.size:=Zr z5;show wpAny _ _ (Builtin.SmallTypes.ownedTupleHandOut (.ref z) (.ref g5.objs.size) >>= _) _ _ _;apply Za ?_;unfold Builtin.SmallTypes.ownedTupleHandOut;let z6:IsZip (g5.push { cls:=.type "tuple",data:=.seq #[x,y] }) z TI TO .ellipsis:=Zm _ z5;apply Za (wpAny_setField_rec z6 (by simp) λg7 z7 b7=>?_);replace z7:IsZip g7 z TI TO (rawInt g5.objs.size):=z7;apply wpAny_setField_rec z7 (by simp) λg8 z8 b8=>?_;replace z8:IsZip g8 z TI TO (rawInt g5.objs.size):=z8
 let up:∀c o,c≠z->g5.get? c=some o->g8.get? c=some o:=λc o e1 e=>b8.extBut _ _ e1 (b7.extBut _ _ e1 (Zm _ e))
 let p8:IsPair g8 g5.objs.size x y:=b8.extBut _ _ (Xr zlt) (b7.extBut _ _ (Xr zlt) (Zz _ rfl));rw[sz] at z8 p8;apply wpAny_pure ⟨_,(),?_⟩;show Q (.ref g5.objs.size) _;rw[sz];exact q g8 z8 (up _ _ D.TOz o5) (let ⟨o,e,r⟩:=m1;⟨o,up _ o D.i1z e,r⟩) (let ⟨o,e,r⟩:=m2;⟨o,up _ o D.i2z e,r⟩) p8 λc o e1 e2 e3 e4 e=>up c o e1 (k5 c o e1 e2 e3 e4 e)
def Bi (hh:A.handled=none)(D:ZipApart z TI TO i1 i2 l1 l2)(hz:IsZip s.heap z TI TO .none)(pI:IsPair s.heap TI (.ref i1) (.ref i2))(pO:IsPair s.heap TO a b)
  (t1:s.heap.IsTupleIter i1 l1 k1) (t2:s.heap.IsTupleIter i2 l2 k2) (u1:s.heap.IsTuple l1 xs) (u2:s.heap.IsTuple l2 ys) (hx:xs[k1]?=none)
  (q:∀g e,(∀c o,c≠z->c≠TO->c≠i1->c≠i2->s.heap.get? c=some o->g.get? c=some o)->(∃o,g.get? e=some o/\o.cls=.type "StopIteration")->E (.ref e) { s with heap:=g }) :
  wpAny (model prog w) A (Builtin.«zip.__next__» ⟨[.ref z],[]⟩) Q E s:=by
 show wpAny _ _ (field (.ref z) 2 >>= _) _ _ _;apply Za (wpAny_field hz rfl (x:=.bool false) rfl ?_);show wpAny _ _ (field (.ref z) 3 >>= _) _ _ _;apply Za (wpAny_field hz rfl (x:=.ref TI) rfl (Za (wpAny_seqItems pI rfl ?_)));show wpAny _ _ (Builtin.SmallTypes.ownedTupleIsFree (.ref z) >>= _) _ _ _;apply Za ?_;unfold Builtin.SmallTypes.ownedTupleIsFree;apply Za (wpAny_field hz rfl (x:=.none) rfl (wpAny_pure ?_));simp only[if_true];apply Za (wpAny_rule (Za (wpAny_field hz rfl (x:=.ref TO) rfl ?_)));apply Za (wpAny_setField_rec hz (by simp) λg1 z1 b1=>?_);replace z1:IsZip g1 z TI TO .ellipsis:=z1;apply Za ?_;simp only[List.zipIdx_cons,List.zipIdx_nil,List.forIn_cons,List.forIn_nil];apply Za (Za (wpAny_onRaise ?_));show wpAny _ _ (Builtin.SmallTypes.nextOf (.ref i1) >>= _) _ _ _;apply Za (YT hh (CL t1 b1.extBut D.i1z) (kg u1 b1.extBut D.l1z) hx λg2 e b2 ⟨oe,he,ce⟩=>?_);let z2:IsZip g2 z TI TO .ellipsis:=b2 _ _ D.i1z.symm z1;let ez:e≠z:=λh=>by subst h;rw[z2] at he;cases he;simp at ce
 exact wpAny_setField_rec z2 (by simp) λg3 _ b3=>q g3 e (λc o e1 _ e3 _ h=>b3.extBut _ _ e1 (b2 _ _ e3 (b1.extBut _ _ e1 h))) ⟨oe,b3.extBut _ _ ez he,ce⟩
def vp (D:ZipApart z TI TO i1 i2 l1 l2)(hz:IsZip s.heap z TI TO .none)(pI:IsPair s.heap TI (.ref i1) (.ref i2))(pO:IsPair s.heap TO a b)
  (t1:s.heap.IsTupleIter i1 l1 k1) (t2:s.heap.IsTupleIter i2 l2 k2) (u1:s.heap.IsTuple l1 xs) (u2:s.heap.IsTuple l2 ys) (hx:xs[k1]?=some x) (hy:ys[k2]?=some y)
  (q:∀g,IsZip g z TI TO (rawInt s.heap.objs.size)->IsPair g TO x y->g.IsTupleIter i1 l1 (k1+1)->g.IsTupleIter i2 l2 (k2+1)->IsPair g s.heap.objs.size x y ->
   (∀c o,c≠z->c≠TO->c≠i1->c≠i2->s.heap.get? c=some o->g.get? c=some o)->Q (some (.ref s.heap.objs.size)) { s with heap:=g }):wpAny (model prog w) A (pyNext (.ref z)) Q E s:=by
 let ty:s.TypeIs (.ref z) "zip":=⟨_,hz,()⟩;unfold pyNext;exact Za (wpAny_attempt (wpAny_callSpecial?_slot (name:=Str.ofString "__next__") ty F.slot_zip_next (wpAny_call_entry F.slot_zip_next ty F.entry_zip_next
  (Bj D hz pI pO t1 t2 u1 u2 hx hy λg a1 a2 a3 a4 a5 a6=>wpAny_pure (q g a1 a2 a3 a4 a5 a6)) (F.args_zip_next_1 _))))
def l4 (hh:A.handled=none)(D:ZipApart z TI TO i1 i2 l1 l2)(hz:IsZip s.heap z TI TO .none)(pI:IsPair s.heap TI (.ref i1) (.ref i2))(pO:IsPair s.heap TO a b)
  (t1:s.heap.IsTupleIter i1 l1 k1) (t2:s.heap.IsTupleIter i2 l2 k2) (u1:s.heap.IsTuple l1 xs) (u2:s.heap.IsTuple l2 ys) (hx:xs[k1]?=none)
  (q:∀g,(∀c o,c≠z->c≠TO->c≠i1->c≠i2->s.heap.get? c=some o->g.get? c=some o)->Q none { s with heap:=g }):wpAny (model prog w) A (pyNext (.ref z)) Q E s:=by
 let ty:s.TypeIs (.ref z) "zip":=⟨_,hz,()⟩;unfold pyNext;exact Za (wpAny_attempt (wpAny_callSpecial?_slot (name:=Str.ofString "__next__") ty F.slot_zip_next (wpAny_call_entry F.slot_zip_next ty F.entry_zip_next
  (Bi hh D hz pI pO t1 t2 u1 u2 hx λg e hk ⟨o,ho,hc⟩=>Za (wpAny_isInstance (T:="StopIteration") (b:=true) ⟨o,ho,hc⟩ isSubtype_stop (wpAny_pure (q _ hk)))) (F.args_zip_next_1 _))))
end
abbrev Sc (h:Heap)(l1:Addr):Heap:=h.push { cls:=.type "tuple_iterator",data:=.fields #[.ref l1,.int 0 0] }
abbrev Wm (h:Heap)(l1 l2:Addr):Heap:=(Sc h l1).push { cls:=.type "tuple_iterator",data:=.fields #[.ref l2,.int 0 0] }
abbrev Wk (h:Heap)(l1 l2:Addr):Heap:=(Wm h l1 l2).push { cls:=.type "tuple",data:=.seq #[.ref h.objs.size,.ref (Sc h l1).objs.size] }
abbrev Wj (h:Heap)(l1 l2:Addr):Heap:=(Wk h l1 l2).push { cls:=.type "tuple",data:=.seq #[.none,.none] }
abbrev Rn (h:Heap)(l1 l2:Addr):Heap:=(Wj h l1 l2).push { cls:=.type "zip",data:=.fields #[.none,.bool false,.bool false,.ref (Wm h l1 l2).objs.size,.ref (Wk h l1 l2).objs.size] }
def xX (l1 l2:Addr)(xs ys:Array Value):Meets (Builtin.«zip.__new__» ⟨[.type "zip",.ref l1,.ref l2],[]⟩) (λ_ R s=>s.heap.IsTuple l1 xs/\s.heap.IsTuple l2 ys/\R (.ok (.ret (.ref (Wj s.heap l1 l2).objs.size))) { s with heap:=Rn s.heap l1 l2 }) :=
 .of_wp λprog w A R s h=>by
  let⟨hp,g,d,tk,os⟩:=s;let⟨v1,v2,h⟩:=h;let abJ:=sub_zip;let w1:Heap.IsTuple (Shared.heap ⟨hp,g,d,tk,os⟩) l1 xs:=v1;let w2:Heap.IsTuple (Shared.heap ⟨Sc hp l1,g,d,tk,os⟩) l2 ys:=let ⟨o,e,r⟩:=v2;⟨o,Zm _ e,r⟩
  wp_walk using wpAny_pyIter_tuple w1,wpAny_pyIter_tuple w2
  exact⟨_,(),h⟩
def Cf (v1:s.heap.IsTuple l1 xs)(v2:s.heap.IsTuple l2 ys)
  (q:∀g,IsZip g (s.heap.objs.size+4) (s.heap.objs.size+2) (s.heap.objs.size+3) .none->IsPair g (s.heap.objs.size+2) (.ref s.heap.objs.size) (.ref (s.heap.objs.size+1))->IsPair g (s.heap.objs.size+3) .none .none ->
   g.IsTupleIter s.heap.objs.size l1 0->g.IsTupleIter (s.heap.objs.size+1) l2 0->(∀c o,s.heap.get? c=some o->g.get? c=some o)->Q (.ref (s.heap.objs.size+4)) { s with heap:=g }):wpAny (model prog w) A (call (.type "zip") [.ref l1,.ref l2]) Q E s:=by
 apply callType_new F.called_zip ∅ (F.typeCall_zip_2 _ _) (F.newCall_zip_2 _ _) (λobj=>F.args_object_init_3 obj _ _) F.entry_zip_new (xX l1 l2 xs ys) ⟨v1,v2,?_⟩;let e1:(Sc s.heap l1).objs.size=s.heap.objs.size+1:=Y5 ..;let e2:(Wm s.heap l1 l2).objs.size=s.heap.objs.size+2:=by rw[Y5,e1]
 let e3:(Wk s.heap l1 l2).objs.size=s.heap.objs.size+3:=by rw[Y5,e2]
 let e4:(Wj s.heap l1 l2).objs.size=s.heap.objs.size+4:=by rw[Y5,e3]
 let p5:(Rn s.heap l1 l2).get? (Wj s.heap l1 l2).objs.size=some _:=Zz _ rfl;let p4:(Rn s.heap l1 l2).get? (Wk s.heap l1 l2).objs.size=some _:=Zm _ (Zz _ rfl);let p3:(Rn s.heap l1 l2).get? (Wm s.heap l1 l2).objs.size=some _:=Zm _ (Zm _ (Zz _ rfl));let p2:(Rn s.heap l1 l2).get? (Sc s.heap l1).objs.size=some _:=Zm _ (Zm _ (Zm _ (Zz _ rfl)));let p1:(Rn s.heap l1 l2).get? s.heap.objs.size=some _:=Zm _ (Zm _ (Zm _ (Zm _ (Zz _ rfl))));show _/\_;rw[e2,e3,e4] at p5;rw[e1,e2] at p3;rw[e3] at p4;rw[e1] at p2;rw[e4];exact⟨⟨_,p5,()⟩,q _ p5 p3 p4 ⟨_,p1,(),()⟩ ⟨_,p2,(),()⟩ λc o h=>Zm _ (Zm _ (Zm _ (Zm _ (Zm _ h))))⟩
end PySem
namespace L2
open PySem.Spec PyProof.Rows
section
def R9 (K:Θ1)(a b:Addr):It :=
 ⟨λi H=>∃xs ys x y,aK K H a xs/\aK K H b ys/\xs[i]?=some x/\ys[i]?=some y,
  λi H v H'=>∃p,H p=none/\v=.ref p/\∀xs ys,aK K H a xs->aK K H b ys->∃x y,xs[i]?=some x/\ys[i]?=some y/\H'=aQ H p (.tup [x,y]),
  λi H=>∃xs ys,aK K H a xs/\aK K H b ys/\xs.length<=i⟩
def E2 {K:Θ1}(a b z TI TO i1 i2:Addr)(D:ZipApart z TI TO i1 i2 a b) :
  Turn P w K (.Tuple t9 kk pos) (R9 K a b) [z,TI,TO,i1,i2] z (λi h=>IsZip h z TI TO .none/\IsPair h TI (.ref i1) (.ref i2)/\(∃u v,IsPair h TO u v)/\h.IsTupleIter i1 a i/\h.IsTupleIter i2 b i) where
 mem:=by simp
 obj:=λi h st c hc=>by
  let⟨hz,pI,⟨u,v,pO⟩,⟨o1,e1,c1,d1⟩,o2,e2,c2,d2⟩:=st;simp only[Zk,Q5,or_false] at hc;rcases hc with rfl |rfl |rfl |rfl |rfl
  .exact⟨_,hz,λv z=>by cases z⟩
  .exact⟨_,pI,λv z=>by cases z⟩
  .exact⟨_,pO,λv z=>by cases z⟩
  .exact⟨o1,e1,λv z=>by rw[d1] at z;cases z⟩
  .exact⟨o2,e2,λv z=>by rw[d2] at z;cases z⟩
 keep:=λi h h' st k=>by
  let⟨hz,pI,⟨u,v,pO⟩,⟨o1,e1,r1⟩,o2,e2,r2⟩:=st;exact⟨k z (by simp) _ hz,k TI (by simp) _ pI,⟨u,v,k TO (by simp) _ pO⟩,⟨o1,k i1 (by simp) _ e1,r1⟩,o2,k i2 (by simp) _ e2,r2⟩
 item:=by
  intro X hP hw hK hc i ae s σ H E I hf st hg;subst hP hw hK;let⟨xs,ys,x,y,Lj,RL,hx,hy⟩:=hg;let⟨us,ru,pu,zu⟩:=I.tuple Lj;let⟨vs,rv,pv,zv⟩:=I.tuple RL;let⟨u,hu,rxu⟩:=ru.get hx;let⟨v,hv,ryv⟩:=rv.get hy;let⟨hz,pI,⟨u0,v0,pO⟩,t1,t2⟩:=st;apply vp D hz pI pO t1 t2 (show s.heap.IsTuple a us.toArray from pu) (show s.heap.IsTuple b vs.toArray from pv) (x:=u) (y:=v) (by simpa using hu) (by simpa using hv) λg z1 o1 n1 n2 p1 hk=>?_
  apply⟨_,(),?_⟩;apply wpAny_letOwnedTupleGo_zip z1 λg2 z2 b2=>?_
  replace b2:Heap.SameBut z g g2:=b2
  let lt:∀{c o},s.heap.get? c=some o->s.heap.objs.size≠c:=λe=>Xr (Zr e)
  let bv:s.heap.objs.size≠z:=lt hz;let I1:Inv X ae σ H { s with heap:=g2,toks:=s.toks }:=I.jd (ch:=[z,TI,TO,i1,i2]) (λc o hc q=>by
   let c1:c≠z:=λh=>hc (by simp[h])
   exact b2.extBut c o c1 (hk c o c1 (λh=>hc (by simp[h])) (λh=>hc (by simp[h])) (λh=>hc (by simp[h])) q)) hf
  let p2:=b2.extBut _ _ bv p1;let fp:eQ X ae H s.heap.objs.size:=I.jC (Ze _) I.fresh;let I2:=I1.Dx (p:=s.heap.objs.size) (o:=.tup [x,y]) fp ⟨by show 2<=sizeLine;decide,[u,v],.cons rxu (.cons ryv .nil),⟨_,p2,(),_,()⟩⟩;apply⟨.ref s.heap.objs.size,_,I2,(),⟨_,I.fresh,(),λys1 ys2 h1 h2=>?_⟩,⟨z2,b2.extBut _ _ D.TIz (hk _ _ D.TIz D.TITO D.TIi1 D.TIi2 pI),⟨_,_,b2.extBut _ _ D.TOz o1⟩,CL n1 b2.extBut D.i1z,CL n2 b2.extBut D.i2z⟩,λc hc=>?_⟩
  .rw[I.jm h1 Lj,I.jm h2 RL];exact⟨x,y,hx,hy,()⟩
  .rw[dg]
   .exact(hf c hc).1
   .simp only[Zk,Q5,or_false] at hc;rcases hc with rfl |rfl |rfl |rfl |rfl
    .exact bv.symm
    .exact(lt pI).symm
    .exact(lt pO).symm
    .obtain⟨_,e,_⟩:=t1;exact(lt e).symm
    .obtain⟨_,e,_⟩:=t2;exact(lt e).symm
 done:=by
  intro X hP hw hK hc i ae s σ H E I hf st hg;subst hP hw hK;let⟨xs,ys,Lj,RL,hx⟩:=hg;let⟨us,ru,pu,zu⟩:=I.tuple Lj;let⟨vs,rv,pv,zv⟩:=I.tuple RL;let⟨hz,pI,⟨u0,v0,pO⟩,t1,t2⟩:=st;let hl:=ru.length;exact l4 (I.ok.hd hc) D hz pI pO t1 t2 (show s.heap.IsTuple a us.toArray from pu) (show s.heap.IsTuple b vs.toArray from pv) (by simp;omega) λg hk =>
   ⟨(),I.jd (t':=s.toks) (ch:=[z,TI,TO,i1,i2]) (λc o hc q=>hk c o (λh=>hc (by simp[h])) (λh=>hc (by simp[h])) (λh=>hc (by simp[h])) (λh=>hc (by simp[h])) q) hf⟩
 self:=λA i s Q E st h=>wpAny_pyIter_zip st.1 h
def abF (K:Θ1)(ta:TA):TI:=λσ H R=>ta σ H λvs H1=>∃a b,vs=[.ref a,.ref b]/\(∃xs,aK K H1 a xs)/\(∃ys,aK K H1 b ys)/\R (R9 K a b) H1
end
end L2
namespace L2
open PySem.Spec PyProof.Rows KG
abbrev g2 (K:Θ1):TG:=N6 K 2 (DS (fg 0) (DS (fg 1) UD))
def S2 (au σ:St):Prop:=∀u v,(σ.set 0 u).set 1 v=(au.set 0 u).set 1 v
def S2.of:S2 au ((au.set 0 u).set 1 v):=λu' v'=>by
 match au with
 |[]=>rfl
 |[_]=>rfl
 |_::_::_=>rfl
def Lx (au:St)(acc:Addr)(P:List V->Hp->Prop)(σ:St)(H:Hp):Prop:=S2 au σ/\∃ys,H acc=some (.lst ys)/\P ys H
def Lx.of (h:H acc=some (.lst ys))(p:P ys H):Lx au acc P ((au.set 0 u).set 1 v) H:=⟨S2.of,ys,h,p⟩
def Lw (au:St)(acc:Addr)(P:List (dE×V)->Hp->Prop)(σ:St)(H:Hp):Prop:=S2 au σ/\∃ys,H acc=some (.dK ys)/\P ys H
def Lw.of (h:H acc=some (.dK ys))(p:P ys H):Lw au acc P ((au.set 0 u).set 1 v) H:=⟨S2.of,ys,h,p⟩
def zS {K:Θ1}(wk:S2 au σ)(hp:H p=none)(h:∀H1,aw H H1->Z ((au.set 0 (some x)).set 1 (some y)) H1):g2 K (.ref p) σ (aQ H p (.tup [x,y])) Z:=by
 apply⟨p,_,(),aK.of dU,(),_,_,(),_,_,(),(),?_⟩;show Z ((σ.set 0 (some x)).set 1 (some y)) _;rw[wk];exact h _ ((aw.refl H).new hp)
section
variable {K:Θ1}{te tk tv:TE}
def Cd (Pv:Nat->List V->Hp->Prop)(h0:Pv 0 [] (aQ df acc (.lst [])))(hl:∀(i:Nat) zs H,i<=xs.length->H acc=some (.lst zs)->Pv i zs H->aK K H a xs)
  (hs:∀(i:Nat) x zs H H1,xs[i]?=some x->H acc=some (.lst zs)->Pv i zs H->aw H H1->tt ((au.set 0 (some (.int i))).set 1 (some x)) H1 λb H4 =>
   if b=true then te ((au.set 0 (some (.int i))).set 1 (some x)) H4 λy H5=>∃us,H5 acc=some (.lst us)/\us.length<sizeLine/\Lx au acc (Pv (i+1)) ((au.set 0 (some (.int i))).set 1 (some x)) (aQ H5 acc (.lst (us++[y])))
   else Lx au acc (Pv (i+1)) ((au.set 0 (some (.int i))).set 1 (some x)) H4)
  (hd:∀zs H,H acc=some (.lst zs)->Pv xs.length zs H->Q (.ref acc) H):gR (g2 K) tt te (C7 K a) acc au df Q:=by
 apply⟨λi m σ H=>m=xs.length-i/\i<=xs.length/\Lx au acc (Pv i) σ H,⟨xs.length,by simp,Z7 _,λ_ _=>rfl,[],dU,h0⟩,?_⟩;rintro i m σ H ⟨rfl,hi,wk,zs,hy,p⟩;let q:=hl i zs H hi hy p;by_cases cD:i<xs.length
 .apply .inr ⟨⟨xs,xs[i],q,by simp[cD]⟩,Lx au acc (Pv (i+1)),λaS H' c=>⟨xs.length-(i+1),⋯,(),cD,c⟩,λx H' y=>?_⟩;let⟨pp,hp,rfl,SI⟩:=y;let⟨z,hz,rfl⟩:=SI xs q;exact zS wk hp λH1 s1=>hs i z zs H H1 hz hy p s1
 .let e:i=xs.length:=⋯;subst e;exact .inl ⟨⟨xs,q,Ze _⟩,hd zs H hy p⟩
def Ce (Pv:Nat->List V->Hp->Prop)(h0:Pv 0 [] (aQ df acc (.lst [])))(hl:∀(i:Nat) zs H,i<=kvs.length->H acc=some (.lst zs)->Pv i zs H->H a=some (.iz o (.dK kvs)))
  (hs:∀(i:Nat) k v zs H,kvs[i]?=some (k,v)->H acc=some (.lst zs)->Pv i zs H->tt (au.set 0 (some (kV k))) H λb H4 =>
   if b=true then te (au.set 0 (some (kV k))) H4 λy H5=>∃us,H5 acc=some (.lst us)/\us.length<sizeLine/\Cn au acc (Pv (i+1)) (au.set 0 (some (kV k))) (aQ H5 acc (.lst (us++[y]))) else Cn au acc (Pv (i+1)) (au.set 0 (some (kV k))) H4)
  (hd:∀zs H,H acc=some (.lst zs)->Pv kvs.length zs H->Q (.ref acc) H):gR (fg 0) tt te (W5 a o kvs) acc au df Q:=by
 apply⟨λi m σ H=>m=kvs.length-i/\i<=kvs.length/\Cn au acc (Pv i) σ H,⟨kvs.length,by simp,Z7 _,λ_=>rfl,[],dU,h0⟩,?_⟩;rintro i m σ H ⟨rfl,hi,wk,zs,hy,p⟩;let q:=hl i zs H hi hy p;by_cases cD:i<kvs.length
 .apply .inr ⟨⟨q,cD⟩,Cn au acc (Pv (i+1)),λaS H' c=>⟨kvs.length-(i+1),⋯,(),cD,c⟩,λx H' y=>?_⟩;let⟨e,k,v,hk,ek⟩:=y;subst e ek;show tt (σ.set 0 _) _ _;rw[wk];exact hs i k v zs _ hk hy p
 .let e:i=kvs.length:=⋯;subst e;exact .inl ⟨⟨q,Ze _⟩,hd zs H hy p⟩
def ym (Pv:Nat->List (dE×V)->Hp->Prop)(h0:Pv 0 [] (aQ df acc (.dK [])))(hl:∀(i:Nat) zs H,i<=xs.length->H acc=some (.dK zs)->Pv i zs H->aK K H a xs)
  (hs:∀(i:Nat) x zs H H1,xs[i]?=some x->H acc=some (.dK zs)->Pv i zs H->aw H H1->tt ((au.set 0 (some (.int i))).set 1 (some x)) H1 λb H4 =>
   if b=true then tk ((au.set 0 (some (.int i))).set 1 (some x)) H4 λkx H5=>tv ((au.set 0 (some (.int i))).set 1 (some x)) H5 λy H6=>∃us k,H6 acc=some (.dK us)/\kx=kV k/\us.length<sizeLine/\Lw au acc (Pv (i+1)) ((au.set 0 (some (.int i))).set 1 (some x)) (aQ H6 acc (.dK (dh us k y)))
   else Lw au acc (Pv (i+1)) ((au.set 0 (some (.int i))).set 1 (some x)) H4)
  (hd:∀zs H,H acc=some (.dK zs)->Pv xs.length zs H->Q (.ref acc) H):r9 (g2 K) tt tk tv (C7 K a) acc au df Q:=by
 apply⟨λi m σ H=>m=xs.length-i/\i<=xs.length/\Lw au acc (Pv i) σ H,⟨xs.length,by simp,Z7 _,λ_ _=>rfl,[],dU,h0⟩,?_⟩;rintro i m σ H ⟨rfl,hi,wk,zs,hy,p⟩;let q:=hl i zs H hi hy p;by_cases cD:i<xs.length
 .apply .inr ⟨⟨xs,xs[i],q,by simp[cD]⟩,Lw au acc (Pv (i+1)),λaS H' c=>⟨xs.length-(i+1),⋯,(),cD,c⟩,λx H' y=>?_⟩;let⟨pp,hp,rfl,SI⟩:=y;let⟨z,hz,rfl⟩:=SI xs q;exact zS wk hp λH1 s1=>hs i z zs H H1 hz hy p s1
 .let e:i=xs.length:=⋯;subst e;exact .inl ⟨⟨xs,q,Ze _⟩,hd zs H hy p⟩
end
section
end
end L2
namespace KM
open L2 KG EX
def boot_zip:bootBuiltins "zip"=some (.type "zip"):=by first |rfl |kernel_rfl |decide+kernel
def yI:Sp:=λvs H Q _=>∃(b p pa pp pw:Addr) (xa xp xw:List V) (am pu wi:Ξ1),vs=[.ref p]/\eh b H p pa pp pw xa xp xw am pu wi/\∀(q:Addr) (H':Hp),aw H H'->H' q=some (.tup (GQ xa.length (rowsOf wi)))->Q (.ref q) H'
def DB:Sp:=λvs H Q _=>∃(l:Addr) (ys:List V) (qs:Δ1),vs=[.ref l]/\H l=some (.lst ys)/\kO H ys qs/\qs≠[]/\(∀q∈qs,Rb 3000 q)/\∀(a:Addr) (q:Rat),H a=some (qO q)->q∈qs->(∀z∈qs,z<=q)->Q (.ref a) H
def sE (h:kO H ys qs){i:Nat}(hy:ys[i]?=some y):∃(a:Addr) (q:Rat),y=.ref a/\H a=some (qO q)/\qs[i]?=some q:=by
 let⟨a,e,z⟩:=h.2 i y hy;let hi:i<qs.length:=by rw[<- h.1];exact(Zf.mp hy).1
 apply⟨a,qs[i],e,?_,Zc hi⟩;have:qs.getD i 0=qs[i]:=by simp[List.getD,Zc hi]
 rw[this] at z;exact z
def TH:Sp:=λvs H Q _=>∃(r q:Addr) (ns:Γ3) (ys:List V) (qs:Δ1),vs=[.ref r,.ref q]/\H r=some (.tup (ns.map V.int))/\H q=some (.tup ys)/\kO H ys qs/\ns.length=qs.length/\ns.length<=6/\(∀k∈ns,0<=k/\k<=100)/\(∀z∈qs,Rb 300 z) /\
 (∀j,0<ns.getD j 0->0<qs.getD j 0)/\∀(t:Addr) (H':Hp),aw H H'->H' t=some (.tup (cX (aR ns qs)))->Q (.ref t) H'
def rB:Sp:=λvs H Q _=>∃(n:Int) (q:Addr) (x:Rat),vs=[.int n,.ref q]/\H q=some (qO x)/\Rb 300 x/\0<x/\0<=n/\n<=100/\∀(t:Addr) (H':Hp),aw H H'->H' t=some (qO ((n:Rat) / x))->Q (.ref t) H'
def TC:Sp:=λvs H Q _=>∃(pb pg:Addr) (xs:List V) (M:Γ1) (gs:List Nat),vs=[.ref pb,.ref pg]/\H pb=some (.tup xs)/\qP H xs M/\H pg=some (.tup (cX gs))/\M.length<=6/\(∀r∈M,r.length<=6) /\
 ∀(r:Addr) (H':Hp),aw H H'->H' r=some (.tup (cX ((List.range M.length).filter λi=>bQ gs (M.getD i []))))->Q (.ref r) H'
def Eb (Pr:Addr):Sp:=λvs H Q E=>∃(b p pa pp pw:Addr) (xa xp xw:List V) (am pu wi:Ξ1) (v:V) (d:PyData),vs=[.ref p,v]/\eh b H p pa pp pw xa xp xw am pu wi/\fH b H v d /\
 (eJ xa.length (rowsOf wi) d=false->∀H',aw H H'->E (.ref Pr) none H')/\(eJ xa.length (rowsOf wi) d=true->∀H',aw H H'->Q .cg H')
def xr (p q:Rat):PyData.eqv (qD p) (qD q)=decide (p=q):=by
 unfold qD;simp only[PyData.eqv,PyData.eqvAll];rw[Yb];simp;constructor
 .rintro⟨h1,h2⟩;exact Rat.ext h1 ⋯
 .rintro rfl;exact⟨(),()⟩
def LS (h:H a=some (qO q)):l9 K H (.ref a) (qD q):=(fH.tup (b:=a+1) h (.cons (.int _) (.cons (.int _) .nil))).dt
def eN (ns:Γ3)(i:Nat):List Nat:=(List.range i).filter λj=>decide (0<ns.getD j 0)
def dX (ns:Γ3)(qs:Δ1)(j:Nat):Rat:=((ns.getD j 0:Int):Rat) / qs.getD j 0
def jq (ns:Γ3)(i:Nat):eN ns (i+1)=eN ns i++if 0<ns.getD i 0 then [i] else []:=by
 unfold eN;rw[Xc,Xj]
 grind
def sq (h:j∈eN ns i):j<i/\0<ns.getD j 0:=by
 unfold eN at h;rw[Zg] at h;exact⟨by simpa using h.1,by simpa using h.2⟩
def uQ (ns:Γ3)(i:Nat):(eN ns i).length<=i:=by
 unfold eN;exact Zl (Yv _ _) (by simp)
def xM (ns:Γ3)(i:Nat):(eN ns i).Nodup:=(X5).sublist Z4
def na (j:Nat):dE:=.inl (j:Int)
def u6 (h:na i=na j):i=j:=by unfold na at h;injection h with h;omega
structure tQ (ns:Γ3)(qs:Δ1)(i:Nat)(kvs:List (dE×V))(H:Hp):Prop where
 ks:kvs.map (·.1)=(eN ns i).map na
 fr:kO H (kvs.map (·.2)) ((eN ns i).map (dX ns qs))
def tQ.len (h:tQ ns qs i kvs H):kvs.length=(eN ns i).length:=by
 have:=congrArg List.length h.ks;simpa using this
def tQ.ak (h:tQ ns qs i kvs H)(s:aw H H'):tQ ns qs i kvs H':=⟨h.ks,h.fr.ak s⟩
def tQ.tm (h:tQ ns qs i kvs H)(s:Tm H H'):tQ ns qs i kvs H':=⟨h.ks,h.fr.tm s⟩
def Bn {k:dE}(h:k∉kvs.map (·.1)):ef kvs k=none:=by
 cases e:ef kvs k with
 |none=>rfl
 |some v=>exact absurd (zz e) h
def tQ.put {qs:Δ1}(h:tQ ns qs i kvs H)(hp:0<ns.getD i 0)(ha:H a=some (qO (dX ns qs i))):tQ ns qs (i+1) (dh kvs (na i) (.ref a)) H:=by
 let hn:na i∉kvs.map (·.1):=by
  rw[h.ks];intro z;let⟨j,hj,e⟩:=Zd.mp z;have:=(sq hj).1;have:=u6 e;omega
 rw[nZ _ (Bn hn)];apply⟨?_,?_⟩
 .rw[Zs,h.ks,jq,if_pos hp,Zs];rfl
 .rw[Zs,jq,if_pos hp,Zs];exact h.fr.app ha
def tQ.skip (h:tQ ns qs i kvs H)(hp:¬ 0<ns.getD i 0):tQ ns qs (i+1) kvs H:=by
 apply⟨?_,?_⟩
 .rw[jq,if_neg hp,Ym];exact h.ks
 .rw[jq,if_neg hp,Ym];exact h.fr
theorem tQ.at {n i:Nat}{kvs:List (dE×V)}(h:tQ ns qs n kvs H)(e:kvs[i]?=some (k,v)):∃(j:Nat) (a:Addr),(eN ns n)[i]?=some j/\k=na j/\v=.ref a/\H a=some (qO (dX ns qs j))/\ef kvs k=some v:=by
 let e1:=congrArg (λl=>l[i]?) h.ks;simp only[Zo,e,Y1] at e1;cases ej:(eN ns n)[i]? with
 |none=>rw[ej] at e1;cases e1
 |some j =>
  rw[ej] at e1;simp only[Y1,Option.some.injEq] at e1;let e2:(kvs.map (·.2))[i]?=some v:=by rw[Zo,e];rfl
  let⟨a,q,ea,hq,eq⟩:=sE h.fr e2;rw[Zo,ej] at eq;simp only[Y1,Option.some.injEq] at eq;apply⟨j,a,(),e1,ea,by rw[eq];exact hq,?_⟩;let nd:(kvs.map (·.1)).Nodup:=by
   rw[h.ks];exact(xM ns n).map _ λ_ _ RV z=>RV (u6 z)
  clear e1 ej e2 ea hq eq h
  induction kvs generalizing i with
  |nil=>simp at e
  |cons p r ih =>
   rw[Zn,Yc] at nd;cases i with
   |zero =>
    let e':p=(k,v):=by simpa using e
    rw[e'];exact gB rfl
   |succ i =>
    let e':r[i]?=some (k,v):=by simpa using e
    let hm:k∈r.map (·.1):=Zd.mpr ⟨(k,v),Z0 e',()⟩;rw[gC (λz=>nd.1 (by rw[z];exact hm))];exact ih e' nd.2
def zM (hg:0<qs.getD g 0)(ho:0<qs.getD o 0):(dX ns qs g<dX ns qs o)↔(((ns.getD g 0:Int):Rat)*qs.getD o 0<((ns.getD o 0:Int):Rat)*qs.getD g 0):=by
 unfold dX;generalize ((ns.getD g 0:Int):Rat)=a;generalize ((ns.getD o 0:Int):Rat)=b;generalize qs.getD g 0=x at hg ⊢;generalize qs.getD o 0=y at ho ⊢;let hxy:(0:Rat)<x*y:=Yd hg ho;rw[<- Rat.mul_lt_mul_left hxy];let hx:x≠0:=λz=>by rw[z] at hg;exact absurd hg ∅
 let hy:y≠0:=λz=>by rw[z] at ho;exact absurd ho ∅
 let e1:x*y*(a / x)=a*y:=by grind
 let e2:x*y*(b / y)=b*x:=by grind
 rw[e1,e2]
def GG (eP:∀j,0<ns.getD j 0->0<qs.getD j 0)(G0:∀j,0<=ns.getD j 0)(hm:m∈(eN ns ns.length).map (dX ns qs))(d4:∀z∈(eN ns ns.length).map (dX ns qs),z<=m) :
  aR ns qs=(eN ns ns.length).filter λj=>decide (dX ns qs j=m):=by
 unfold aR eN;rw[Qq];apply Y0 λg hg=>?_
 let S0:g<ns.length:=by simpa using hg
 unfold lO;by_cases h0:0<ns.getD g 0
 .let h1:ns.getD g 0≠0:=⋯;rw[decide_eq_true h1,decide_eq_true h0,Xm,Bool.and_true,Yb,Yf,decide_eq_true_eq];constructor
  .intro h;let⟨o,ho,eo⟩:=Zd.mp hm;let⟨ol,op⟩:=sq ho;have:=h o (by simpa using ol);unfold lJ at this;rw[decide_eq_true op,Xm,Bool.not_eq_true',decide_eq_false_iff_not,<- zM (eP g h0) (eP o op),eo] at this;let h2:dX ns qs g<=m:=d4 _ (Zd.mpr ⟨g,Zg.mpr ⟨hg,by simpa using h0⟩,()⟩);exact Rat.le_antisymm h2 (Yx.mp this)
  .intro h o ho;unfold lJ;by_cases op:0<ns.getD o 0
   .rw[decide_eq_true op,Xm,Bool.not_eq_true',decide_eq_false_iff_not,<- zM (eP g h0) (eP o op),h];exact Yx.mpr (d4 _ (Zd.mpr ⟨o,Zg.mpr ⟨ho,by simpa using op⟩,()⟩))
   .rw[decide_eq_false op];rfl
 .let h1:ns.getD g 0=0:=by have:=G0 g;omega
  rw[decide_eq_false h0,Bool.and_false];rw[decide_eq_false (λz=>z h1)];rfl
def Cp (G0:∀j,0<=ns.getD j 0)(h:eN ns ns.length=[]):aR ns qs=[]:=by
 unfold aR;rw[Xv];intro g hg;let S0:g<ns.length:=by simpa using hg
 unfold lO;let h0:¬ 0<ns.getD g 0:=λz=>by
  have:g∈eN ns ns.length:=Zg.mpr ⟨hg,by simpa using z⟩;rw[h] at this;cases this
 let h1:ns.getD g 0=0:=by have:=G0 g;omega
 rw[decide_eq_false (λz=>z h1)];simp
def Jx (hn:Bd k n)(hx:Rb j x)(h0:0<x):Rb (k+j) ((n:Rat) / x):=by
 let hp:=mq.mp h0;let hd:=den_pos x;let e:=mO (a:=(n:Rat)) (b:=x) ⋯;let en:((n:Rat)).num=n:=Rat.num_intCast n;let ed:(((n:Rat)).den:Int)=1:=rfl;rw[en,ed,Int.one_mul] at e;rw[<- e];exact gT ⋯ (hn.mul hx.2) (hx.1.mono ⋯)
theorem zI:∀{ws:List V}{M:Γ1}{a:Addr}{ns:Γ3},qP H ws M->H a=some (.tup (ns.map V.int))->qP H (ws++[.ref a]) (M++[ns])
 |_,_,a,_,.nil,ha=>.cons ⟨a,(),ha⟩ .nil
 |_,_,_,_,.cons h t,ha=>.cons h (zI t ha)
end KM
namespace KM
def V5 {α : Type}(f:α->Bool)(x:α):[x].filter f=if f x=true then [x] else []:=by cases h:f x<;>simp[List.filter,h]
end KM
namespace KM
open L2 KG EX
def aB (g:Nat)(M:Γ1):List Nat:=(List.range g).filter (has M)
def aD (g:Nat)(M:Γ1):Γ3:=(aB g M).map λj:Nat=>(j:Int)
def li (g:Nat)(M:Γ1):GQ g M=(aD g M).map V.int:=by
 unfold GQ aD aB
 simp_all
def Bm (g:Nat)(M:Γ1):GQ g M=cX (aB g M):=by rw[li];unfold aD cX;rw[Zp];rfl
def gz (h:j∈aB g M):j<g/\has M j=true:=by
 unfold aB at h;rw[Zg] at h;exact⟨by simpa using h.1,h.2⟩
def jk (g:Nat)(M:Γ1):(aB g M).length<=g:=by
 unfold aB;exact Zl (Yv _ _) (by simp)
def kF (h:cR c ms qs):∀{ix:List Nat},(∀i∈ix,i<qs.length)->(((ix.map λi=>ms.getD i 0).sum:Int):Rat)=(c:Rat)*bu (ix.map λi=>qs.getD i 0):=by
 intro ix;let key:∀(ix:List Nat) (z:Rat),(∀i∈ix,i<qs.length)->((ix.map λi=>qs.getD i 0).foldl (λs q=>s+q) z)=z+bu (ix.map λi=>qs.getD i 0):=by
  intro ix;induction ix with
  |nil=>intro z _;unfold bu;simp[Qh]
  |cons i ix ih =>
   intro z hi;let SX:∀j∈ix,j<qs.length:=λj hj=>hi j (Zj _ hj)
   unfold bu;rw[Zn,Xe,Xe,ih _ SX,ih _ SX,Yw,Rat.add_assoc]
 induction ix with
 |nil=>intro _;unfold bu;simp[X6]
 |cons i ix ih =>
  intro hi;let SX:∀j∈ix,j<qs.length:=λj hj=>hi j (Zj _ hj)
  rw[Zn,Qi,Qr,ih SX,h.2 i (hi i Zi)];have:bu ((i::ix).map λi=>qs.getD i 0)=qs.getD i 0+bu (ix.map λi=>qs.getD i 0):=by
   conv=>lhs;unfold bu
   rw[Zn,Xe,key ix _ SX,Yw]
  rw[this,Rat.mul_add]
def dD (am:Γ3)(qs:Δ1)(S:List Nat):Rat:=bu (S.map λg=>(gL am qs).getD g 0)
def aN (am:Γ3)(ps qs:Δ1)(M:Γ1)(S:List Nat):Rat:=dD am qs S-aY ps (fz M qs S)
def az (S:Γ3):List Nat:=S.map Int.toNat
def P5 (h:∀x∈S,0<=x):S.map V.int=cX (az S):=by
 unfold cX az;rw[Zp];apply Xf λx hx=>?_
 show V.int x=V.int ((x.toNat:Nat):Int);rw[Y8 (h x hx)]
def BA (h:x∈dm ns o8):x∈ns:=by
 unfold dm at h;let⟨k,hk,rfl⟩:=Zd.mp h;have:k<ns.length:=by simpa using(Zg.mp hk).1
 simp[List.getD,Zc this]
def BB (ns:Γ3)(o8:Nat):(dm ns o8).length<=ns.length:=by
 unfold dm;rw[Zb];exact Zl (Yv _ _) (by simp)
def Bu (h:S∈aT ns):(∀x∈S,x∈ns)/\S.length<=ns.length:=by
 unfold aT at h;let⟨k,_,rfl⟩:=Zd.mp h;exact⟨λx hx=>BA hx,BB ns k⟩
def ou (h:i∈fz M qs S):i<M.length:=by
 unfold fz at h;simpa using(Zg.mp h).1
def lQ (M:Γ1)(qs:Δ1)(S:List Nat):(fz M qs S).length<=M.length:=by
 unfold fz;exact Zl (Yv _ _) (by simp)
def P6 {i:Nat}(h:(cX gs)[i]?=some x):∃g:Nat,gs[i]?=some g/\x=V.int (g:Int):=by
 unfold cX at h;rw[Zo] at h;cases e:gs[i]? with
 |none=>rw[e] at h;cases h
 |some g=>rw[e] at h;exact⟨g,(),by simpa using h.symm⟩
def FS (gs:List Nat):(cX gs).length=gs.length:=by unfold cX;rw[Zb]
def zw (l:Δ1)(q:Rat):Prop:=q∈l/\∀z∈l,z<=q
def jI (l:Δ1)(q:Rat):Prop:=q∈l/\∀z∈l,q<=z
def jI.uniq (h1:jI l p)(h2:jI l q):p=q:=Rat.le_antisymm (h1.2 q h2.1) (h2.2 p h1.1)
theorem xf:∀{l:Δ1},l≠[]->∃q,zw l q
 |[],h=>absurd rfl h
 |[x],_=>⟨x,Zi,λz hz=>by rw[Zy.mp hz];exact Yr⟩
 |x::y::l,_=>by
  let⟨q,h1,h2⟩:=xf (l:=y::l) (by simp);by_cases h:q<x
  .exact⟨x,Zi,λz hz=>by
    rcases Zk.mp hz with rfl |hz
    .exact Yr
    .exact Yn (h2 z hz) (Zt h)⟩
  .exact⟨q,Zj _ h1,λz hz=>by
    rcases Zk.mp hz with rfl |hz
    .exact Yx.mp h
    .exact h2 z hz⟩
def mI (a b:Int):Int:=if a<b then b else a
def abz (a b:Int):a<=mI a b:=by unfold mI;split<;>omega
def aby (a b:Int):b<=mI a b:=by unfold mI;split<;>omega
def VQ (a b:Int):mI a b=a\/mI a b=b:=by unfold mI;split<;>simp
def lZ (row:Γ3):Int:=row.foldl mI 0
theorem kE:∀(row:Γ3) (a:Int),a<=row.foldl mI a/\(∀n∈row,n<=row.foldl mI a)/\(row.foldl mI a=a\/row.foldl mI a∈row)
 |[],a=>⟨Xn _,(λn h=>by cases h),Or.inl rfl⟩
 |x::row,a=>by
  let⟨h1,h2,h3⟩:=kE row (mI a x);rw[Xe];apply⟨Int.le_trans (abz a x) h1,λn hn=>?_,?_⟩
  .rcases Zk.mp hn with rfl |hn
   .exact Int.le_trans (aby a n) h1
   .exact h2 n hn
  .rcases h3 with h |h
   .rcases VQ a x with e |e
    .rw[h];exact .inl e
    .rw[h,e];exact .inr Zi
   .exact .inr (Zj _ h)
def Km (hm:m∈row)(d4:∀n∈row,n<=m)(G0:∀n∈row,0<=n):m=lZ row:=by
 let⟨h1,h2,h3⟩:=kE row 0;let a1:=h2 m hm;let a2:=G0 m hm;show m=row.foldl _ 0
 grind
structure br (n:Nat)(row:Γ3):Prop where
 len:row.length=n
 bd:∀k∈row,0<=k/\k<=100
 pos:∃k∈row,1<=k
def br.mx (h:br n row):1<=lZ row/\lZ row<=100:=by
 let⟨h1,h2,h3⟩:=kE row 0;let⟨k,hk,k1⟩:=h.pos;have:=h2 k hk;apply⟨by show 1<=row.foldl _ 0;omega,?_⟩;show row.foldl _ 0<=100;rcases h3 with e |e
 .omega
 .exact(h.bd _ e).2
def br.at (h:br n row)(g:Nat):0<=row.getD g 0/\row.getD g 0<=lZ row:=by
 let⟨h1,h2,h3⟩:=kE row 0;by_cases hg:g<row.length
 .have:row.getD g 0∈row:=by simp[List.getD,Zc hg]
  exact⟨(h.bd _ this).1,h2 _ this⟩
 .have:row.getD g 0=0:=by simp[List.getD,Yu (Xb hg)]
  rw[this];exact⟨Xn _,h1⟩
def cv (g:Nat)(row:Γ3):Rat:=((row.getD g 0:Int):Rat) / ((lZ row:Int):Rat)
def p7:Rat.divInt (row.getD g 0) (lZ row)=cv g row:=X7 _ _
def oW {z:Int}(h:0<z):(0:Rat)<(z:Rat):=by
 let e:(0:Rat)=((0:Int):Rat):=rfl;rw[e,Rat.intCast_lt_intCast];exact h
def sK {z:Int}(h:0<=z):(0:Rat)<=(z:Rat):=by
 let e:(0:Rat)=((0:Int):Rat):=rfl;rw[e,Xo];exact h
def Lb {a b:Rat}(hb:0<b):a / b*b=a:=by
 grind
def QY {a b:Rat}(ha:0<=a)(hb:0<b):0<=a / b:=by
 rcases Classical.em (0<=a / b) with h |h
 .exact h
 .exfalso;let h1:a / b<0:=Rat.not_le.mp h;let h2:a / b*b<0*b:=(Rat.mul_lt_mul_right hb).mpr h1;rw[Lb hb,Xw] at h2;exact absurd h2 (Yx.mpr ha)
def E9 {n:Nat}(h:br n row):0<=cv g row:=QY (sK (h.at g).1) (oW (by have:=h.mx.1;omega))
def jn {n:Nat}(h:br n row):cv g row*((lZ row:Int):Rat)=((row.getD g 0:Int):Rat):=Lb (oW (by have:=h.mx.1;omega))
def Fa {n:Nat}(h:br n row):cv g row<=1:=by
 let hp:=oW (z:=lZ row) (by have:=h.mx.1;omega);apply Yx.mp λz=>?_
 let h2:=(Rat.mul_lt_mul_right hp).mpr z;rw[jn h,Rat.one_mul,Rat.intCast_lt_intCast] at h2;have:=(h.at g).2;omega
def p6 {n:Nat}(h:br n row):0<cv g row↔0<row.getD g 0:=by
 let hp:=oW (z:=lZ row) (by have:=h.mx.1;omega);rw[<- Rat.mul_lt_mul_right hp,jn h,Xw];let e:(0:Rat)=((0:Int):Rat):=rfl;rw[e,Rat.intCast_lt_intCast]
def nY (h:br n row):Rb 7 (cv g row):=by
 rw[<- p7];let h1:=h.at g;let h2:=h.mx;exact gT ⋯ (by unfold Bd;omega) (by unfold Bd;omega)
def eY (am:Γ3)(W:List Nat):Int:=(W.map λg=>am.getD g 0).sum
structure jJ (am:Γ3)(ps:Δ1)(M:Γ1)(n:Nat)(qs:Δ1):Prop where
 len:qs.length=n
 ex:∃mn,jI ps mn/\∀g,g<n->∃sh,zw (M.map (cv g)) sh/\qs.getD g 0=mn / ((eY am (aB n M):Int):Rat)*sh
theorem se:∀(l:Δ1) (z:Rat),l.foldl (λs q=>s+q) z=z+bu l
 |[],z=>by unfold bu;simp[Qh]
 |x::l,z=>by
  let h1:=se l (z+x);let h2:=se l (0+x);unfold bu;rw[Xe,Xe,h1,h2,Yw,Rat.add_assoc]
def sum_cons (x:Rat)(l:Δ1):bu (x::l)=x+bu l:=by
 conv=>lhs;unfold bu
 rw[Xe,se,Yw]
theorem Ea:∀{l:Δ1},(∀x∈l,0<=x)->0<=bu l
 |[],_=>Yr
 |x::l,h=>by
  rw[sum_cons];let h1:=h x Zi;let h2:=Ea (l:=l) λy hy=>h y (Zj _ hy)
  exact Rat.add_nonneg h1 h2
def OM (h:∀y∈l,0<=y)(hx:x∈l):x<=bu l:=by
 induction l with
 |nil=>cases hx
 |cons y l ih =>
  rw[sum_cons];let hl:=λz hz=>h z (Zj y hz)
  rcases Zk.mp hx with rfl |hx
  .have:=Ea hl;let h2:=(Q7 (c:=x)).mpr this;rw[Qh] at h2;exact h2
  .let h1:=ih hl hx;let h2:=(Q8 (c:=bu l)).mpr (h y Zi);rw[Yw] at h2;exact Yn h1 h2
theorem nz:∀{ix:List Nat},(∀i∈ix,f i<=g i)->bu (ix.map f)<=bu (ix.map g)
 |[],_=>Yr
 |i::ix,h=>by
  rw[Zn,Zn,sum_cons,sum_cons];let h1:=h i Zi;let h2:=nz (ix:=ix) λj hj=>h j (Zj _ hj)
  exact Yn ((Q8 (c:=bu (ix.map f))).mpr h1) ((Q7 (c:=g i)).mpr h2)
theorem sd:∀{xs ys:List Nat},xs.Sublist ys->(∀i∈ys,0<=f i)->bu (xs.map f)<=bu (ys.map f)
 |_,_,.slnil,_=>Yr
 |_,y::ys,.cons _ h,hn=>by
  rw[Zn,sum_cons];let h1:=sd h λi hi=>hn i (Zj _ hi)
  let h2:=(Q8 (c:=bu (ys.map f))).mpr (hn y Zi);rw[Yw] at h2;exact Yn h1 h2
 |x::xs,_::ys,.cons₂ _ h,hn=>by
  rw[Zn,Zn,sum_cons,sum_cons];exact(Q7 (c:=f x)).mpr (sd h λi hi=>hn i (Zj _ hi))
theorem pY:∀(ix:List Nat),bu (ix.map λi=>c*f i)=c*bu (ix.map f)
 |[]=>by unfold bu;simp[X6]
 |i::ix=>by rw[Zn,Zn,sum_cons,sum_cons,pY ix,Rat.mul_add]
theorem uF:∀(ix:List Nat),bu (ix.map λi=>((f i:Int):Rat))=(((ix.map f).sum:Int):Rat)
 |[]=>rfl
 |i::ix=>by rw[Zn,Zn,sum_cons,uF ix,Qi,Qr]
def qh (ns:Γ3)(o8:Nat):(dm ns o8).Sublist ns:=by
 let e:ns=(List.range ns.length).map λk=>ns.getD k 0:=by
  apply List.ext_getElem (by simp) λi h1 h2=>?_
  simp[List.getD,Zc h1]
 let h:(dm ns o8).Sublist ((List.range ns.length).map λk=>ns.getD k 0):=by
  unfold dm;exact List.Sublist.map _ Z4
 rw[<- e] at h;exact h
def Bs (h:S∈aT ns):S.Sublist ns:=by
 unfold aT at h;let⟨k,_,rfl⟩:=Zd.mp h;exact qh ns k
def oz (g:Nat)(M:Γ1):az (aD g M)=aB g M:=by
 unfold az aD;rw[Zp];have:(Int.toNat ∘ λj:Nat=>(j:Int))=id:=by funext j;simp
 simp_all
def tH {a b:Rat}(ha:0<a)(hb:0<b):0<a / b:=by
 let h:=(Rat.lt_div_iff (a:=0) (b:=a) (c:=b) hb);rw[h,Xw];exact ha
section
variable {ps qs:Δ1}
def ox (hM:∀r∈M,br n r)(bv:M≠[])(S5:am.length=n)(Lm:∀a∈am,1<=a):1<=eY am (aB n M):=by
 let⟨row,M',rfl⟩:=List.exists_cons_of_ne_nil bv;let hr:=hM row Zi;let⟨k,hk,k1⟩:=hr.pos;let⟨j,hj,ej⟩:=Yq hk;let hjn:j<n:=by rw[<- hr.len];exact hj
 let hw:j∈aB n (row::M'):=by
  unfold aB;apply Zg.mpr ⟨by simpa using hjn,?_⟩;unfold has
  grind
 let key:∀(W:List Nat),(∀g∈W,g<n)->j∈W->1<=eY am W:=by
  intro W;let nn:∀(W:List Nat),(∀g∈W,g<n)->0<=eY am W:=by
   intro W;induction W with
   |nil=>intro _;exact Xn _
   |cons g W ih =>
    intro h;let hg:=h g Zi;let h1:=ih λx hx=>h x (Zj _ hx)
    let h2:am.getD g 0∈am:=by simp[List.getD,Zc (show g<am.length by omega)]
    let h3:=Lm _ h2;unfold eY at h1 ⊢;rw[Zn,Qi];omega
  induction W with
  |nil=>intro _ h;cases h
  |cons g W ih =>
   intro h hj;let hg:=h g Zi;let h1:=nn W λx hx=>h x (Zj _ hx)
   let h2:am.getD g 0∈am:=by simp[List.getD,Zc (show g<am.length by omega)]
   let h3:=Lm _ h2;unfold eY at h1 ⊢;rw[Zn,Qi];omega
 exact key _ (λg hg=>(gz hg).1) hw
def yl (hM:∀r∈M,br n r)(hF:jJ am ps M n qs)(AX:∀p∈ps,0<p)(SM:1<=eY am (aB n M)){g:Nat}(hg:g∈aB n M):∃(i:Nat) (row:Γ3),M[i]?=some row/\g∈aR row qs:=by
 let⟨ZZ,hh⟩:=gz hg;let⟨mn,CV,hq⟩:=hF.ex;let hb:0<mn / ((eY am (aB n M):Int):Rat):=tH (AX mn CV.1) (oW ⋯);generalize mn / ((eY am (aB n M):Int):Rat)=base at hb hq;let⟨sh,⟨yD,d4⟩,eg⟩:=hq g ZZ;let⟨row,gP,er⟩:=Zd.mp yD;let hr:=hM row gP;let eP:0<row.getD g 0:=by
  unfold has at hh;let⟨r',jM,h1⟩:=Z6.mp hh;let h2:=(p6 (hM r' jM) (g:=g)).mpr (by simpa using h1);let h3:=d4 _ (Zd.mpr ⟨r',jM,()⟩);apply(p6 hr).mp ?_;rw[er];apply Rat.not_le.mp λz=>?_
  exact absurd h2 (Yx.mpr (Yn h3 z))
 let⟨i,hi,ei⟩:=Yq gP;apply⟨i,row,by rw[Zc hi,ei],?_⟩;unfold aR;apply Zg.mpr ⟨by rw[hr.len];simpa using ZZ,?_⟩;unfold lO;rw[decide_eq_true (show row.getD g 0≠0 by omega),Xm,Yf];intro o ho;let SQ:o<n:=by rw[<- hr.len];simpa using ho
 let⟨so,⟨_,hmo⟩,eo⟩:=hq o SQ;let hso:=hmo _ (Zd.mpr ⟨row,gP,()⟩);unfold lJ;have:¬ (((row.getD g 0:Int):Rat)*qs.getD o 0<((row.getD o 0:Int):Rat)*qs.getD g 0):=by
  apply Yx.mpr ?_;rw[eo,eg,<- er,<- jn hr (g:=g),<- jn hr (g:=o)];let hmx:=sK (z:=lZ row) (by have:=hr.mx.1;omega);let Uz:=E9 hr (g:=g);generalize ((lZ row:Int):Rat)=mx at hmx;generalize cv g row=sg at Uz;generalize cv o row=s1 at hso;let e1:s1*mx*(base*sg)=sg*mx*base*s1:=by grind
  let e2:sg*mx*(base*so)=sg*mx*base*so:=by grind
  rw[e1,e2];exact Xg hso (Qs (Qs Uz hmx) (Zt hb))
 rw[decide_eq_false this,Bool.and_false];rfl
def JL (AX:∀p∈ps,0<p)(i:Nat):0<=ps.getD i 0:=by
 by_cases h:i<ps.length
 .have:ps.getD i 0∈ps:=by simp[List.getD,Zc h]
  exact Zt (AX _ this)
 .have:ps.getD i 0=0:=by simp[List.getD,Yu (Xb h)]
  rw[this];exact Yr
def vG (hM:∀r∈M,br n r)(hF:jJ am ps M n qs)(AX:∀p∈ps,0<p)(lW:ps.length=M.length)(S5:am.length=n)(Lm:∀a∈am,1<=a)(SM:1<=eY am (aB n M)){S:List Nat}(hS:S.Sublist (aB n M)):aN am ps qs M S<=0:=by
 let⟨mn,CV,hq⟩:=hF.ex;cases hSe:S with
 |nil =>
  unfold aN dD;have:aY ps (fz M qs [])=0:=by
   have:fz M qs []=[]:=by
    unfold fz;rw[Xv];intro i _;unfold bQ;simp
   rw[this];rfl
  rw[this];show(0:Rat)-0<=0;rw[Rat.sub_self];exact Yr
 |cons g S' =>
  rw[hSe] at hS;let hgw:g∈aB n M:=hS.subset Zi;let⟨i,row,RX,jF⟩:=yl hM hF AX SM hgw;let hi:i<M.length:=(Zf.mp RX).1;let Lh:i∈fz M qs (g::S'):=by
   unfold fz;apply Zg.mpr ⟨by simpa using hi,?_⟩;let e:(ar M qs).getD i []=(aR row qs).map λg:Nat=>(g:Int):=by
    unfold ar;simp[List.getD,Zo,RX]
   rw[e];unfold bQ;exact Z6.mpr ⟨(g:Int),Zd.mpr ⟨g,jF,()⟩,Z6.mpr ⟨g,Zi,by simp⟩⟩
  let h1:mn<=aY ps (fz M qs (g::S')):=by
   let ZQ:ps.getD i 0∈ps:=by simp[List.getD,Zc (show i<ps.length by omega)]
   apply Yn (CV.2 _ ZQ) ?_;unfold aY;exact OM (λy hy=>by let⟨j,_,rfl⟩:=Zd.mp hy;exact JL AX j) (Zd.mpr ⟨i,Lh,()⟩)
  let Cy:=oW (z:=eY am (aB n M)) ⋯;let hb:0<mn / ((eY am (aB n M):Int):Rat):=tH (AX mn CV.1) Cy;let gJ:mn / ((eY am (aB n M):Int):Rat)*((eY am (aB n M):Int):Rat)=mn:=Lb Cy;let h2:dD am qs (g::S')<=mn:=by
   unfold dD;let cD:∀o∈aB n M,o<n:=λo ho=>(gz ho).1
   let eo:∀o,o<n->(gL am qs).getD o 0=qs.getD o 0*((am.getD o 0:Int):Rat):=λo ho=>by
    unfold gL;rw[mZ (a:=0) (by rw[Y3,hF.len];exact ho)];have:(List.range qs.length).getD o 0=o:=by simp[List.getD,Yy (show o<qs.length by rw[hF.len];exact ho)]
    rw[this]
   let amn:∀o,o<n->(0:Rat)<=((am.getD o 0:Int):Rat):=λo ho=>by
    have:am.getD o 0∈am:=by simp[List.getD,Zc (show o<am.length by omega)]
    have:=Lm _ this;exact sK ⋯
   let Hv:∀o∈g::S',(gL am qs).getD o 0<=mn / ((eY am (aB n M):Int):Rat)*((am.getD o 0:Int):Rat):=λo ho=>by
    let SQ:=cD o (hS.subset ho);rw[eo o SQ];let⟨so,⟨hsm,_⟩,e⟩:=hq o SQ;let⟨r,hr,er⟩:=Zd.mp hsm;let hs1:so<=1:=by rw[<- er];exact Fa (hM r hr)
    rw[e];apply Y4 ?_ (amn o SQ);have:=Xg hs1 (Zt hb);rw[Rat.mul_one] at this;exact this
   apply Yn (nz Hv) ?_;rw[pY];let h3:=sd (f:=λo=>((am.getD o 0:Int):Rat)) hS (λo ho=>amn o (cD o ho));let h4:=Xg h3 (Zt hb);apply Yn h4 ?_;rw[uF (f:=λo=>am.getD o 0)];show mn / ((eY am (aB n M):Int):Rat)*((eY am (aB n M):Int):Rat)<=mn;rw[gJ];exact Yr
  unfold aN;let h5:=Yn h2 h1;rw[Rat.sub_right_le_iff_le_add,Yw];exact h5
def lC:aN am ps qs M []=0:=by
 unfold aN dD;have:fz M qs []=[]:=by
  unfold fz;rw[Xv];intro i _;unfold bQ;simp
 rw[this];show(0:Rat)-0=0;exact Rat.sub_self
end
def TB:Sp:=λvs H Q _=>∃(b p pa pp pw:Addr) (xa xp xw:List V) (am pu wi:Ξ1),vs=[.ref p]/\eh b H p pa pp pw xa xp xw am pu wi/\(∀r∈rowsOf wi,br xa.length r)/\∀H',aw H H'->Q .cg H'
def Ec:Sp:=λvs H Q _=>∃(l:Addr) (ys:List V) (qs:Δ1),vs=[.ref l]/\H l=some (.tup ys)/\kO H ys qs/\qs≠[]/\(∀q∈qs,Rb 3000 q)/\∀(a:Addr) (q:Rat),H a=some (qO q)->jI qs q->Q (.ref a) H
def TD:Sp:=λvs H Q _=>∃(pw:Addr) (xw:List V) (M:Γ1) (n g:Nat),vs=[.ref pw,.int (g:Int)]/\H pw=some (.tup xw)/\qP H xw M/\g<n/\(∀r∈M,br n r)/\M≠[]/\M.length<=6/\∀(a:Addr) (q:Rat) (H':Hp),aw H H'->H' a=some (qO q)->zw (M.map (cv g)) q->Q (.ref a) H'
def NK:Sp:=λvs H Q _=>∃(b p pa pp pw:Addr) (xa xp xw:List V) (am pu wi:Ξ1),vs=[.ref p]/\eh b H p pa pp pw xa xp xw am pu wi/\(∀r∈rowsOf wi,br xa.length r) /\
 ∀(r:Addr) (xs:List V) (qs:Δ1) (H':Hp),aw H H'->H' r=some (.tup xs)->kO H' xs qs->jJ (am.map aZ) (qJ pu) (rowsOf wi) xa.length qs->Q (.ref r) H'
def qf (S5:am.length=n)(h6:n<=6)(Lm:∀a∈am,a<=60):eY am (aB n M)<=360:=by
 let key:∀W:List Nat,(∀g∈W,g<n)->eY am W<=60*(W.length:Int):=by
  intro W;induction W with
  |nil=>intro _;exact Xn _
  |cons g W ih =>
   intro h;let hg:=h g Zi;let h1:=ih λx hx=>h x (Zj _ hx)
   let h2:am.getD g 0∈am:=by simp[List.getD,Zc (show g<am.length by omega)]
   let h3:=Lm _ h2;unfold eY at h1 ⊢;rw[Zn,Qi,Y2];omega
 let h1:=key (aB n M) λg hg=>(gz hg).1
 let h2:=jk n M;omega
theorem EM:∀{ys:List V}{qs:Δ1},kO H ys qs->cf b H ys (qs.map qD)
 |[],[],_=>.nil
 |[],_::_,h=>by have:=h.1;simp at this
 |_::_,[],h=>by have:=h.1;simp at this
 |y::ys,q::qs,h=>by
  let⟨a,e,ha⟩:=h.2 0 y rfl;subst e;let hr:(q::qs).getD 0 0=q:=rfl;rw[hr] at ha;apply .cons (.tup ha (.cons (.int _) (.cons (.int _) .nil))) (EM (ys:=ys) (qs:=qs) ⟨by simpa using h.1,λj x hx=>?_⟩);let⟨c,e,hc⟩:=h.2 (j+1) x (by simpa using hx);exact⟨c,e,by simpa[List.getD] using hc⟩
theorem ER:∀qs:Δ1,PyData.depthAll (qs.map qD)<=1
 |[]=>by simp[PyData.depthAll]
 |q::qs=>by
  let h1:=DW q;let h2:=ER qs;simp[PyData.depthAll];omega
def QZ (qs:Δ1):(PyData.tuple (qs.map qD)).depth<=2:=by
 have:=ER qs;simp[PyData.depth];omega
end KM
namespace PySem
def kY (h:Heap)(d:Addr)(es:Array DictEntry)(ep:Nat):Prop:=∃o,h.get? d=some o/\o.ExactDict/\o.data=.dict es ep
section
def kY.at (x:kY h d es ep)(k:∀o,h.get? d=some o->g.get? d=some o):kY g d es ep:=let ⟨o,e,r⟩:=x;⟨o,k o e,r⟩
def Jz (t:s.heap.IsKeyIter it d i es.size ep)(m:kY s.heap d es ep)(hi:i<es.size)
  (q:∀g,g.IsKeyIter it d (i+1) es.size ep->Heap.SameBut it s.heap g->Q (some es[i].key) { s with heap:=g }):wpAny (model prog w) A (pyNext (.ref it)) Q E s:=by
 let⟨o,ho,hc,hd⟩:=id t;let⟨od,CU,_,tf⟩:=m;unfold pyNext;apply Za (wpAny_attempt (wpAny_callSpecial?_slot (name:=Str.ofString "__next__") t.typeIs F.slot_dict_keyiterator_next (wpAny_call_entry F.slot_dict_keyiterator_next t.typeIs F.entry_dict_keyiterator_next ?_ (F.args_dict_keyiterator_next_1 _))));apply Za (wpAny_pure (Za (Za ?_)))
 first |refine Za (wpAny_typeNameOfWhole_keyiter t.typeIs (wpAny_pure (Za (wpAny_fieldsOf ho hd ?_)))) |refine Za (wpAny_typeNameOf_keyiter t.typeIs (wpAny_pure (Za (wpAny_fieldsOf ho hd ?_))))
 let ow:Builtin.Dict_items.ownsTuple "dict_keyiterator"=false:=∅;simp only[ow,Qj,if_false];show wpAny _ _ (if (Value.ref d == Value.none)=true then _ else _) _ _ s;rw[if_neg (show ¬ ((Value.ref d == Value.none)=true) from Z3)];apply Za (wpAny_pure (Za (wpAny_dictEntries CU tf ?_)));rw[if_neg (by simp)];apply Za (wpAny_pure (Za (wpAny_dictEpoch CU tf ?_)));rw[if_neg (by simp)];apply wpAny_pure ?_;simp only[show ¬ ((i:Int)<0) from ⋯,if_false,Z1,Array.getElem?_eq_getElem hi];apply Za ?_
 first |refine Za (wpAny_typeNameOfWhole_keyiter t.typeIs (wpAny_pure (Za (wpAny_isOneOf_keyiter t.typeIs ?_)))) |refine Za (wpAny_typeNameOf_keyiter t.typeIs (wpAny_pure (Za (wpAny_isOneOf_keyiter t.typeIs ?_))))
 show wpAny _ _ (setField (.ref it) 1 (rawInt ((i:Int)+1)) >>= _) _ _ s;apply Za (wpAny_setField ho hd (by simp) ?_);let t':(s.heap.update it (Obj.mapFields (·.setIfInBounds 1 (rawInt ((i:Int)+1))))).IsKeyIter it d (i+1) es.size ep:=⟨_,Qm _ ho (Obj.isFreed_of_fields (Obj.data_mapFields hd _)),(Obj.cls_mapFields ..).trans hc,by rw[Obj.data_mapFields hd];simp[rawInt]⟩;apply Za (wpAny_holding (Za (wpAny_isOneOf_keyiter (s:={ s with heap:=s.heap.update it (Obj.mapFields (·.setIfInBounds 1 (rawInt ((i:Int)+1)))) }) t'.typeIs ?_)));show wpAny _ _ (pure es[i].key) _ _ _;exact wpAny_pure (wpAny_pure ⟨_,(),wpAny_pure (q _ t' (Heap.SameBut.update ..))⟩)
def vo (hh:A.handled=none)(t:s.heap.IsKeyIter it d i es.size ep)(m:kY s.heap d es ep)(hi:es.size<=i)
  (q:∀g,Heap.ExtBut it s.heap g->Q none { s with heap:=g }):wpAny (model prog w) A (pyNext (.ref it)) Q E s:=by
 let⟨o,ho,hc,hd⟩:=id t;let⟨od,CU,_,tf⟩:=m;unfold pyNext;apply Za (wpAny_attempt (wpAny_callSpecial?_slot (name:=Str.ofString "__next__") t.typeIs F.slot_dict_keyiterator_next (wpAny_call_entry F.slot_dict_keyiterator_next t.typeIs F.entry_dict_keyiterator_next ?_ (F.args_dict_keyiterator_next_1 _))));apply Za (wpAny_pure (Za (Za ?_)))
 first |refine Za (wpAny_typeNameOfWhole_keyiter t.typeIs (wpAny_pure (Za (wpAny_fieldsOf ho hd ?_)))) |refine Za (wpAny_typeNameOf_keyiter t.typeIs (wpAny_pure (Za (wpAny_fieldsOf ho hd ?_))))
 let ow:Builtin.Dict_items.ownsTuple "dict_keyiterator"=false:=∅;simp only[ow,Qj,if_false];show wpAny _ _ (if (Value.ref d == Value.none)=true then _ else _) _ _ s;rw[if_neg (show ¬ ((Value.ref d == Value.none)=true) from Z3)];apply Za (wpAny_pure (Za (wpAny_dictEntries CU tf ?_)));rw[if_neg (by simp)];apply Za (wpAny_pure (Za (wpAny_dictEpoch CU tf ?_)));rw[if_neg (by simp)];apply wpAny_pure ?_;simp only[show ¬ ((i:Int)<0) from ⋯,if_false,Z1,Array.getElem?_eq_none hi];apply Za ?_
 first |refine Za (wpAny_typeNameOfWhole_keyiter t.typeIs (wpAny_pure ?_)) |refine Za (wpAny_typeNameOf_keyiter t.typeIs (wpAny_pure ?_))
 show wpAny _ _ (setField (.ref it) 0 .none >>= _) _ _ s;apply Za (wpAny_setField ho hd (by simp) ?_);show wpAny _ _ (newExc (.type "StopIteration") [] >>= _) _ _ _;apply Za ?_;simp only[newExc,newTuple];apply Za (wpAny_newObj_type ?_ (by size_fits));apply Za (m:=firstArgMember _ _) (wpAny_of_eq (a:=Value.none) (by first |rfl |(simp only[firstArgMember];rfl)) (wpAny_newObj_type ?_ (by size_fits)));simp only[raiseNew];apply Za (wpAny_handled ?_);rw[show A.in1.handled=none from hh];apply Za (wpAny_pure (wpAny_throw ?_));exact Za (wpAny_isInstance (T:="StopIteration") (b:=true) ⟨_,Zz _ rfl,()⟩ isSubtype_stop (wpAny_pure (q _ (((Heap.SameBut.update ..).extBut.push _).push _))))
def Jy (t:s.heap.IsValIter it d i es.size ep)(m:kY s.heap d es ep)(hi:i<es.size)
  (q:∀g,g.IsValIter it d (i+1) es.size ep->Heap.SameBut it s.heap g->Q (some es[i].val) { s with heap:=g }):wpAny (model prog w) A (pyNext (.ref it)) Q E s:=by
 let⟨o,ho,hc,hd⟩:=id t;let⟨od,CU,_,tf⟩:=m;unfold pyNext;apply Za (wpAny_attempt (wpAny_callSpecial?_slot (name:=Str.ofString "__next__") t.typeIs F.slot_dict_valueiterator_next (wpAny_call_entry F.slot_dict_valueiterator_next t.typeIs F.entry_dict_valueiterator_next ?_ (F.args_dict_valueiterator_next_1 _))));apply Za (wpAny_pure (Za (Za ?_)))
 first |refine Za (wpAny_typeNameOfWhole_valiter t.typeIs (wpAny_pure (Za (wpAny_fieldsOf ho hd ?_)))) |refine Za (wpAny_typeNameOf_valiter t.typeIs (wpAny_pure (Za (wpAny_fieldsOf ho hd ?_))))
 let ow:Builtin.Dict_items.ownsTuple "dict_valueiterator"=false:=∅;simp only[ow,Qj,if_false];show wpAny _ _ (if (Value.ref d == Value.none)=true then _ else _) _ _ s;rw[if_neg (show ¬ ((Value.ref d == Value.none)=true) from Z3)];apply Za (wpAny_pure (Za (wpAny_dictEntries CU tf ?_)));rw[if_neg (by simp)];apply Za (wpAny_pure (Za (wpAny_dictEpoch CU tf ?_)));rw[if_neg (by simp)];apply wpAny_pure ?_;simp only[show ¬ ((i:Int)<0) from ⋯,if_false,Z1,Array.getElem?_eq_getElem hi];apply Za ?_
 first |refine Za (wpAny_typeNameOfWhole_valiter t.typeIs (wpAny_pure (Za (wpAny_isOneOf_valiter t.typeIs ?_)))) |refine Za (wpAny_typeNameOf_valiter t.typeIs (wpAny_pure (Za (wpAny_isOneOf_valiter t.typeIs ?_))))
 show wpAny _ _ (setField (.ref it) 1 (rawInt ((i:Int)+1)) >>= _) _ _ s;apply Za (wpAny_setField ho hd (by simp) ?_);let t':(s.heap.update it (Obj.mapFields (·.setIfInBounds 1 (rawInt ((i:Int)+1))))).IsValIter it d (i+1) es.size ep:=⟨_,Qm _ ho (Obj.isFreed_of_fields (Obj.data_mapFields hd _)),(Obj.cls_mapFields ..).trans hc,by rw[Obj.data_mapFields hd];simp[rawInt]⟩;apply Za (wpAny_holding (Za (wpAny_isOneOf_valiter (s:={ s with heap:=s.heap.update it (Obj.mapFields (·.setIfInBounds 1 (rawInt ((i:Int)+1)))) }) t'.typeIs ?_)));apply Za (wpAny_isOneOf_valiter (s:={ s with heap:=s.heap.update it (Obj.mapFields (·.setIfInBounds 1 (rawInt ((i:Int)+1)))) }) t'.typeIs ?_);show wpAny _ _ (pure es[i].val) _ _ _;exact wpAny_pure (wpAny_pure ⟨_,(),wpAny_pure (q _ t' (Heap.SameBut.update ..))⟩)
def vn (hh:A.handled=none)(t:s.heap.IsValIter it d i es.size ep)(m:kY s.heap d es ep)(hi:es.size<=i)
  (q:∀g,Heap.ExtBut it s.heap g->Q none { s with heap:=g }):wpAny (model prog w) A (pyNext (.ref it)) Q E s:=by
 let⟨o,ho,hc,hd⟩:=id t;let⟨od,CU,_,tf⟩:=m;unfold pyNext;apply Za (wpAny_attempt (wpAny_callSpecial?_slot (name:=Str.ofString "__next__") t.typeIs F.slot_dict_valueiterator_next (wpAny_call_entry F.slot_dict_valueiterator_next t.typeIs F.entry_dict_valueiterator_next ?_ (F.args_dict_valueiterator_next_1 _))));apply Za (wpAny_pure (Za (Za ?_)))
 first |refine Za (wpAny_typeNameOfWhole_valiter t.typeIs (wpAny_pure (Za (wpAny_fieldsOf ho hd ?_)))) |refine Za (wpAny_typeNameOf_valiter t.typeIs (wpAny_pure (Za (wpAny_fieldsOf ho hd ?_))))
 let ow:Builtin.Dict_items.ownsTuple "dict_valueiterator"=false:=∅;simp only[ow,Qj,if_false];show wpAny _ _ (if (Value.ref d == Value.none)=true then _ else _) _ _ s;rw[if_neg (show ¬ ((Value.ref d == Value.none)=true) from Z3)];apply Za (wpAny_pure (Za (wpAny_dictEntries CU tf ?_)));rw[if_neg (by simp)];apply Za (wpAny_pure (Za (wpAny_dictEpoch CU tf ?_)));rw[if_neg (by simp)];apply wpAny_pure ?_;simp only[show ¬ ((i:Int)<0) from ⋯,if_false,Z1,Array.getElem?_eq_none hi];apply Za ?_
 first |refine Za (wpAny_typeNameOfWhole_valiter t.typeIs (wpAny_pure ?_)) |refine Za (wpAny_typeNameOf_valiter t.typeIs (wpAny_pure ?_))
 show wpAny _ _ (setField (.ref it) 0 .none >>= _) _ _ s;apply Za (wpAny_setField ho hd (by simp) ?_);show wpAny _ _ (newExc (.type "StopIteration") [] >>= _) _ _ _;apply Za ?_;simp only[newExc,newTuple];apply Za (wpAny_newObj_type ?_ (by size_fits));apply Za (m:=firstArgMember _ _) (wpAny_of_eq (a:=Value.none) (by first |rfl |(simp only[firstArgMember];rfl)) (wpAny_newObj_type ?_ (by size_fits)));simp only[raiseNew];apply Za (wpAny_handled ?_);rw[show A.in1.handled=none from hh];apply Za (wpAny_pure (wpAny_throw ?_));exact Za (wpAny_isInstance (T:="StopIteration") (b:=true) ⟨_,Zz _ rfl,()⟩ isSubtype_stop (wpAny_pure (q _ (((Heap.SameBut.update ..).extBut.push _).push _))))
def Fn (hd:(d == sysModules)=false)(m:kY s.heap d es ep)(q:Q (.ref s.heap.objs.size) { s with heap:=s.heap.push { cls:=.type "dict_keyiterator",data:=.fields #[.ref d,.int 0 0,.int es.size 0,.int ep 0] } }) :
  wpAny (model prog w) A (pyIter (.ref d)) Q E s:=by
 let⟨o,ho,hx,tf⟩:=m;let ty:s.TypeIs (.ref d) "dict":=⟨o,ho,hx.1⟩;apply wpAny_pyIter_slot ty F.slot_dict_iter (wpAny_call_entry F.slot_dict_iter ty F.entry_dict_iter ?_ (F.args_dict_iter_1 _));unfold Builtin.«dict.__iter__»;apply Za ?_;unfold Builtin.Dict.dictSlotNone;apply Za (wpAny_notOrdered_dict ty ?_);show wpAny _ _ (pure (Value.ref d)) _ _ s;apply wpAny_pure ?_;show wpAny _ _ (Builtin.Dict.showsAll d >>= _) _ _ s;unfold Builtin.Dict.showsAll;rw[if_neg (by rw[hd];exact Z3)];apply Za (wpAny_pure (Za (wpAny_dictEntries ho tf (Za (wpAny_dictEpoch ho tf ?_)))));apply Za (wpAny_newObj_type (wpAny_pure ⟨_,(),"dict_keyiterator",_,⟨_,Zz _ rfl,()⟩,F.slot_dict_keyiterator_next.lookup,?_⟩));simpa[rawInt] using q
def xJ (d:Addr)(hd:(d == sysModules)=false)(es:Array DictEntry)(ep:Nat):MeetsIn prog w (Builtin.«dict.values» ⟨[.ref d],[]⟩) (λ_ R s=>kY s.heap d es ep/\R (.ok (.ret (.ref s.heap.objs.size))) { s with heap:=s.heap.push { cls:=.type "dict_values",data:=.fields #[.ref d] } }) :=
 .of_wp λA R s ⟨⟨o,ho,hx,tf⟩,h⟩=>by
  let ty:s.TypeIs (.ref d) "dict":=⟨o,ho,hx.1⟩;apply Za ?_;unfold Builtin.Dict.noArgs;apply Za (wpAny_notOrdered_dict ty ?_);show wpAny _ _ (pure d) _ _ s;apply wpAny_pure ?_;show wpAny _ _ (Builtin.Dict.showsAll d >>= _) _ _ s;unfold Builtin.Dict.showsAll;rw[if_neg (by rw[hd];exact Z3)];exact Za (wpAny_pure (Za (wpAny_newObj_type (wpAny_pure ⟨_,(),h⟩))))
def pq (hv:s.heap.IsValuesView v d)(m:kY s.heap d es ep)(q:Q (.ref s.heap.objs.size) { s with heap:=s.heap.push { cls:=.type "dict_valueiterator",data:=.fields #[.ref d,.int 0 0,.int es.size 0,.int ep 0] } }) :
  wpAny (model prog w) A (pyIter (.ref v)) Q E s:=by
 let⟨ov,hov,hcv,hdv⟩:=id hv;let⟨o,ho,hx,tf⟩:=m;apply wpAny_pyIter_slot hv.typeIs F.slot_dict_values_iter (wpAny_call_entry F.slot_dict_values_iter hv.typeIs F.entry_dict_values_iter ?_ (F.args_dict_values_iter_1 _));unfold Builtin.«dict_values.__iter__»;apply Za (wpAny_pure (Za ?_));unfold Builtin.Dict_items.dictOf;apply Za (wpAny_field hov hdv (x:=.ref d) rfl (wpAny_pure (Za ?_)));unfold Builtin.Dict_items.newIterator;apply Za (wpAny_dictEntries ho tf (Za (wpAny_dictEpoch ho tf ?_)));let ow:Builtin.Dict_items.ownsTuple "dict_valueiterator"=false:=∅;simp only[ow,Qj,if_false];apply wpAny_newObj_type (wpAny_pure ⟨_,(),"dict_valueiterator",_,⟨_,Zz _ rfl,()⟩,F.slot_dict_valueiterator_next.lookup,?_⟩);simpa[rawInt] using q
def Walks.JA (hh:A.handled=none)(I d:Addr)(bv:d≠I)(es:Array DictEntry)(ep:Nat):Walks prog w A I [I,d] [I] es.size (λi v=>∃h:i<es.size,v=es[i].val) (λi h=>h.IsValIter I d i es.size ep/\kY h d es ep) where
 sub:=λb hb=>by simp at hb;simp[hb]
 frame:=λ_ _ _ st hk=>⟨let ⟨o,e,r⟩:=st.1;⟨o,hk I (by simp) o e,r⟩,st.2.at λo e=>hk d (by simp) o e⟩
 item:=λi s Q E hi st hQ=>Jy st.1 st.2 hi λg t' sb=>hQ _ g s.toks ⟨hi,()⟩ ⟨t',st.2.at λo e=>sb.extBut d o bv e⟩ λb o hb e=>sb.extBut b o (λh=>hb (by simp[h])) e
 done:=λs Q E st hQ=>vn hh st.1 st.2 (Ze _) λg eb=>hQ g s.toks λb o hb e=>eb b o (λh=>hb (by simp[h])) e
 self:=λ_ s _ _ st hQ=>wpAny_pyIter_valiter (s:=s) st.1 hQ
end
end PySem
namespace L2
open PySem.Spec PyProof.Rows KG
section
def rX (I:Inv X ae σ H s)(ha:Rd H a (.dT kvs)) :
  kvs.length<=sizeLine/\(a == sysModules)=false/\∃xs es ep,KT H kvs xs/\kY s.heap a es ep/\es.toList=xs.map (entryOfKey (tupleKind (lG X.prog X.w))):=by
 let⟨z,hd,xs,cW,o,es,ep,h1,h2,h3,h4,_⟩:=ux I.cc ha;exact⟨z,hd,xs,es,ep,cW,⟨o,h1,h2,h3⟩,h4⟩
theorem DN:∀{kvs:List (List dE×V)}{xs:List (List dE×Addr×Value)}{i:Nat}{x:List dE×Addr×Value},KT H kvs xs->xs[i]?=some x->∃p,kvs[i]?=some p/\p.1=x.1/\H x.2.1=some (.tup (p.1.map kV))/\RelV p.2 x.2.2
 |_,_,_,_,.nil,h=>by simp at h
 |_,_,0,x,.cons (a:=p) hq _,h=>by
  let e:=Option.some.inj (show some _=some x from h);subst e;exact⟨p,(),hq⟩
 |_,_,i+1,x,.cons _ t,h=>by
  let⟨p,h1,h2⟩:=DN (i:=i) t (by simpa using h);exact⟨p,by simpa using h1,h2⟩
def kt_len (h:KT H kvs xs):kvs.length=xs.length:=Paired.length h
def Fp:V->List V->Hp->VK->Prop:=λx xs H Q=>∃a kvs,x=.ref a/\xs=[]/\H a=some (.dT kvs)/\∀v,H v=none->Q (.ref v) (aQ H v (gd v a))
def xW:W4 X "dict.values" Fp:=by
 intro ae s σ H x xs v us Q I r rs h;let⟨a,kvs,rfl,rfl,ha,q⟩:=h;cases rs;cases r;let⟨z,hd,xs,es,ep,cW,AO,_⟩:=rX I (.inl ha);let ty:s.TypeIs (.ref a) "dict":=let ⟨o,ho,hx,_⟩:=AO;⟨o,ho,hx.1⟩;apply call_meetsIn PySem.F.slot_dict_values ty PySem.F.entry_dict_values (PySem.F.args_dict_values_1 _) (xJ a hd es ep) ⟨AO,?_⟩;let hv:(s.heap.push { cls:=.type "dict_values",data:=.fields #[.ref a] }).IsValuesView s.heap.objs.size a:=⟨_,Zz _ rfl,(),()⟩;apply⟨.ref s.heap.objs.size,_,I.laid (t':=s.toks) (o:=gd s.heap.objs.size a) (λ_ _ q=>Zm _ q) (Ze _) ⟨hv,⟨_,Zz _ rfl⟩,λh1 h2 w1 hk=>?_⟩,(),q _ I.fresh⟩;let⟨o,e,c⟩:=w1;exact⟨o,hk o e,c⟩
def lD (hc:X.calm=true):cn X (.builtin "max") (λxs H Q=>∃v a kvs ns,xs=[.ref v]/\H v=some (gd v a)/\Rd H a (.dT kvs)/\kvs.map (·.2)=ns.map V.int/\ns≠[]/\∀m,m∈ns->(∀n∈ns,n<=m)->Q (.int m) H):=by
 intro ae s σ H xs us Q I r h;let⟨v,a,kvs,ns,rfl,hv,ha,RM,bv,q⟩:=h;let⟨u,rfl,ru⟩:=vals1 r;cases ru;let⟨z,hd,xs,es,ep,cW,AO,Hx⟩:=rX I ha;let DP:s.heap.IsValuesView v a:=(I.cc v _ hv).1;let hsz:es.size=xs.length:=by have:=congrArg List.length Hx;simpa using this
 let ZT:=kt_len cW;let hln:kvs.length=ns.length:=by have:=congrArg List.length RM;simpa using this
 let eP:0<ns.length:=Xi.mpr bv;let hda:a<s.heap.objs.size:=by let⟨o,e,_⟩:=AO;exact Zr e
 let val:∀(i:Nat) (x:Value),(∃h:i<es.size,x=es[i].val)->∃t,x=Value.int ((ns[i]?).getD 0) t:=λi x hx=>by
  let⟨hi,rfl⟩:=hx;let Nc:i<xs.length:=⋯;let⟨p,h1,h2,h3,h4⟩:=DN cW (Zc Nc);let e1:es[i].val=xs[i].2.2:=by
   let h5:es.toList[i]?=some (entryOfKey (tupleKind (lG X.prog X.w)) xs[i]):=by rw[Hx,Zo,Zc Nc];rfl
   rw[Array.getElem?_toList,Array.getElem?_eq_getElem hi] at h5;rw[Option.some.inj h5];rfl
  let e2:=congrArg (λl=>l[i]?) RM;simp only[Zo,h1,Y1] at e2;cases e3:ns[i]? with
  |none=>rw[e3] at e2;cases e2
  |some n =>
   rw[e3] at e2;simp only[Y1,Option.some.injEq] at e2;rw[e2] at h4;rw[e1];exact h4
 apply call_max_walk (pq DP AO ?_);apply⟨s.heap.objs.size,[s.heap.objs.size,a],[s.heap.objs.size],es.size,_,_,(λi j=>decide ((ns[i]?).getD 0>(ns[j]?).getD 0)),(),Walks.JA (A:=X.A.in1) (I.ok.hd hc) s.heap.objs.size a (Ye hda) es ep,
  ⟨⟨_,Zz _ rfl,(),()⟩,AO.at λo e=>Zm _ e⟩,λb hb=>?_,⋯,CmpOf.ints_gt (λi=>(ns[i]?).getD 0) val,λx h' tk hP kk=>?_⟩
 .rw[Y5];simp only[Zk,Q5,or_false] at hb;rcases hb with rfl |rfl
  .exact Nat.lt_succ_self _
  .exact Nat.lt_succ_of_lt hda
 let⟨t,rfl⟩:=val _ _ hP;let⟨h1,h2⟩:=argBest_gt (λi=>(ns[i]?).getD 0) (es.size-1);generalize argBest (λi j=>decide ((ns[i]?).getD 0>(ns[j]?).getD 0)) (es.size-1)=ab at h1 h2 ⊢;let cD:ab<ns.length:=⋯;apply⟨.int ((ns[ab]?).getD 0),H,I.kept (t':=tk) λb o e=>kk b o (λz=>?_) (Zm _ e),⟨t,()⟩,q _ ?_ λn hn=>?_⟩
 .have:=Zr e;simp at z;rw[z] at this;exact Yj _ this
 .rw[Zc cD];exact Zv cD
 .obtain⟨j,hj,rfl⟩:=Yq hn;have:=h2 j ⋯;rw[Zc hj] at this;exact this
end
section
def Inv.KC (I:Inv X ae σ H s)(ha:H a=some (.dT kvs))(ho:s.heap.get? a=some o):Inv X ae σ (aQ H a (.iz o (.dT kvs))) s:=by
 apply I.write (x:=a) (e:=a) (t':=s.toks) (h':=s.heap) (by rw[ha];exact True.intro) (.inl rfl) (λ_ _ _ e=>e) ⟨o,ho⟩ ⟨ho,?_⟩;let⟨z,hd,xs,cW,r⟩:=(show ca X.prog X.w H s.heap a (.dT kvs) from I.cc a _ ha);exact⟨z,hd,xs,KT.keeps cW λb ys e=>by rw[dg (uh e ha (by intro z;cases z))];exact e,r⟩
def IP (a:Addr)(o:Obj)(kvs:List (List dE×V)):It :=
 ⟨λi H=>H a=some (.iz o (.dT kvs))/\i<kvs.length,λi H x H'=>H'=H/\∃b k v,kvs[i]?=some (k,v)/\x=.ref b/\H b=some (.tup (k.map kV)),λi H=>H a=some (.iz o (.dT kvs))/\kvs.length<=i⟩
def qv (I:Inv X ae σ H s)(hg:H a=some (.iz o (.dT kvs)))(G2:o.data=.dict AZ ep) :
  ∃xs,KT H kvs xs/\kY s.heap a AZ ep/\AZ.toList=xs.map (entryOfKey (tupleKind (lG X.prog X.w))):=by
 let⟨z,hd,xs,es,Tc,cW,⟨o',oO,hx,Iw⟩,Hx⟩:=rX I (.inr ⟨o,hg⟩);let⟨ho,_⟩:=I.cc a _ hg;have:o'=o:=by rw[ho] at oO;exact(Option.some.inj oO).symm
 subst this;rw[G2] at Iw;injection Iw with h1 h2
 subst h1 h2;exact⟨xs,cW,⟨o',oO,hx,G2⟩,Hx⟩
def xD {K:Θ1}(a it:Addr)(o:Obj)(kvs:List (List dE×V))(AZ:Array DictEntry)(ep:Nat)(G2:o.data=.dict AZ ep)(hl0:AZ.size=kvs.length):Turn P w K tg (IP a o kvs) [it] it (λi h=>h.IsKeyIter it a i AZ.size ep) where
 mem:=by simp
 obj:=λi h st b hb=>by
  obtain rfl:b=it:=by simpa using hb
  let⟨o',e,c,d⟩:=st;exact⟨o',e,λv z=>by rw[d] at z;cases z⟩
 keep:=λi h h' st k=>st.at λo e=>k it (by simp) o e
 item:=by
  intro X hP hw hK hc i ae s σ H E I hf st hg;subst hP hw hK;let⟨hg,hi⟩:=hg;let⟨xs,cW,AO,Hx⟩:=qv I hg G2;let⟨f0,f1,f2,f3,f4,f5⟩:=hf it (by simp);let WM:i<AZ.size:=⋯;apply Jz st AO WM λh' tD sb=>?_
  let I1:Inv X ae σ H { s with heap:=h' }:=I.turned (t':=s.toks) (λb o hb e=>(sb.2 b hb).trans e) f0 f1 f3 f4 f5;let⟨o1,e1,c1,d1⟩:=id tD;let Nc:i<xs.length:=by rw[<- kt_len cW];exact hi
  let⟨p,h1,h2,h3,h4⟩:=DN cW (Zc Nc);let ek:AZ[i].key=.ref xs[i].2.1:=by
   let h5:AZ.toList[i]?=some (entryOfKey (tupleKind (lG X.prog X.w)) xs[i]):=by rw[Hx,Zo,Zc Nc];rfl
   rw[Array.getElem?_toList,Array.getElem?_eq_getElem WM] at h5;rw[Option.some.inj h5];rfl
  apply⟨AZ[i].key,(),uu (s:={ s with heap:=h' }) e1 c1 d1 ∅ ⟨.ref xs[i].2.1,H,I1,ek,⟨rfl,xs[i].2.1,p.1,p.2,h1,rfl,h3⟩,tD,λb hb=>(hf b hb).1⟩⟩
 done:=by
  intro X hP hw hK hc i ae s σ H E I hf st hg;subst hP hw hK;let⟨hg,hi⟩:=hg;let⟨xs,cW,AO,Hx⟩:=qv I hg G2;let⟨f0,f1,f2,f3,f4,f5⟩:=hf it (by simp);exact vo (I.ok.hd hc) st AO ⋯ λh' eb=>⟨(),I.turned (t':=s.toks) (λb o hb e=>eb b o hb e) f0 f1 f3 f4 f5⟩
 self:=λ_ _ _ _ _ st h=>wpAny_pyIter_keyiter st h
def QR (td:TE):TI:=λσ H R=>td σ H λx H1=>∃a kvs,x=.ref a/\H1 a=some (.dT kvs)/\∀o,R (IP a o kvs) (aQ H1 a (.iz o (.dT kvs)))
def Fx (hl:PE X l td):PI X tg l (QR td):=by
 intro ae s σ H R I h;apply bE (hl ae s σ H _ I h) λv s1 ⟨x,H1,I1,r1,q1⟩=>?_
 let⟨a,kvs,e,ha,q⟩:=q1;subst e;cases r1;let⟨z,hd,xs,es,ep,cW,AO,Hx⟩:=rX I1 (.inl ha);let⟨o,ho,hx,Iw⟩:=id AO;apply Fn hd AO ?_;let I2:=I1.KC ha ho;let hsz:es.size=kvs.length:=by have:=congrArg List.length Hx;rw[kt_len cW];simpa using this
 apply⟨s1.heap.objs.size,[s1.heap.objs.size],_,IP a o kvs,_,(),I2.kept (t':=s1.toks) λb o e=>Zm _ e,xD a _ o kvs es ep Iw hsz,⟨_,Zz _ rfl,(),()⟩,λb hb=>?_,q o⟩;obtain rfl:b=s1.heap.objs.size:=by simpa using hb
 exact I2.jC (Ze _) (I2.cc.fresh (Ze _))
end
section
def yr (Pv:Nat->List V->Hp->Prop)(h0:Pv 0 [] (aQ df acc (.lst [])))(hl:∀(i:Nat) zs H,i<=kvs.length->H acc=some (.lst zs)->Pv i zs H->H a=some (.iz o (.dT kvs)))
  (hs:∀(i:Nat) k v b zs H,kvs[i]?=some (k,v)->H b=some (.tup (k.map kV))->H acc=some (.lst zs)->Pv i zs H->tt (au.set 0 (some (.ref b))) H λc H4 =>
   if c=true then te (au.set 0 (some (.ref b))) H4 λy H5=>∃us,H5 acc=some (.lst us)/\us.length<sizeLine/\Cn au acc (Pv (i+1)) (au.set 0 (some (.ref b))) (aQ H5 acc (.lst (us++[y]))) else Cn au acc (Pv (i+1)) (au.set 0 (some (.ref b))) H4)
  (hd:∀zs H,H acc=some (.lst zs)->Pv kvs.length zs H->Q (.ref acc) H):gR (fg 0) tt te (IP a o kvs) acc au df Q:=by
 apply⟨λi m σ H=>m=kvs.length-i/\i<=kvs.length/\Cn au acc (Pv i) σ H,⟨kvs.length,by simp,Z7 _,λ_=>rfl,[],dU,h0⟩,?_⟩;rintro i m σ H ⟨rfl,hi,wk,zs,hy,p⟩;let q:=hl i zs H hi hy p;by_cases cD:i<kvs.length
 .apply .inr ⟨⟨q,cD⟩,Cn au acc (Pv (i+1)),λaS H' c=>⟨kvs.length-(i+1),⋯,(),cD,c⟩,λx H' y=>?_⟩;let⟨e,b,k,v,hk,ek,hb⟩:=y;subst e ek;show tt (σ.set 0 _) _ _;rw[wk];exact hs i k v b zs _ hk hb hy p
 .let e:i=kvs.length:=⋯;subst e;exact .inl ⟨⟨q,Ze _⟩,hd zs H hy p⟩
end
end L2
namespace PySem
section
def sU (W:Walks prog w A.in1 I fp wr n P St)(kf:Nat->Int)(S:Addr)(RW:S∉fp)(J:Heap->Prop)
  (hJ:∀h h',J h->(∀b o,b∉wr->b≠S->h.get? b=some o->h'.get? b=some o)->J h')
  (t7:∀i v (s:Shared) (Q:Θ2) (E:Θ2),P i v->J s.heap->(∀t tk,Q (.int (kf i) t) { s with toks:=tk })->wpAny (model prog w) A.in1 (call (.builtin "len") [v]) Q E s) :
  ∀(r j i:Nat) (s:Shared) (vb:Value) (tb:Tok) (c:Nat),n-(j+1)=r->j+1<=n->St (j+1) s.heap->J s.heap->P i vb->i<=j->(∀j',j'<=j->(kf j')<=(kf i)/\(j'<i->(kf j')<(kf i))) ->
   s.heap.get? S=some { cls:=.type "list",data:=.seq #[vb,.int (kf i) tb] c } ->
   (∀i v h' tk,P i v->i<n->(∀j,j<n->(kf j)<=(kf i)/\(j<i->(kf j)<(kf i)))->(∀b o,b∉wr->b≠S->s.heap.get? b=some o->h'.get? b=some o)->R (.ok (.ret v)) { s with heap:=h',toks:=tk }) ->
   codeAny (model prog w) A (.builtin "max.loop" ⟨[.ref I,.builtin "len",.ref S],[]⟩) R s:=by
 let uq:(toString "max" ++ toString ".loop" : String)="max.loop":=∅;let Hz:S∉wr:=λh=>RW (W.sub _ h)
 intro r;induction r with
 |zero =>
  intro j i s vb tb c hr hj m4 hJs ZB ZV jF hS hR;let hin:j+1=n:=⋯;apply codeAny_builtin F.entry_max_loop ?_;rw[Around.under_plainId F.plain_max_loop _];show wpAny _ A.in1 (seqItems? (.ref S) >>= _) _ _ _;apply Za (wpAny_seqItems hS rfl ?_);show wpAny _ A.in1 (tryCatch (pyNext (.ref I)) _ >>= _) _ _ _;apply Za (wpAny_tryCatch (W.done _ _ _ (by rw[<- hin];exact m4) λh' tk' gI=>?_));let Ln:=gI S _ Hz hS;show wpAny _ A.in1 (updateSeq S (λ_=>#[]) >>= _) _ _ _;apply Za (wpAny_updateSeq Ln rfl (Za (wpAny_letGo (wpAny_pure ?_))));exact hR i vb _ _ ZB ⋯ (λj' lX=>jF j' ⋯) λb o hb G6 e=>(Xq _ _ (Ne.symm G6)).trans (gI b o hb e)
 |succ r ih =>
  intro j i s vb tb c hr hj m4 hJs ZB ZV jF hS hR;let cD:j+1<n:=⋯;apply codeAny_builtin F.entry_max_loop ?_;rw[Around.under_plainId F.plain_max_loop _];show wpAny _ A.in1 (seqItems? (.ref S) >>= _) _ _ _;apply Za (wpAny_seqItems hS rfl ?_);show wpAny _ A.in1 (tryCatch (pyNext (.ref I)) _ >>= _) _ _ _;apply Za (wpAny_tryCatch (W.item (j+1) _ _ _ cD m4 λv h' tk' hP Ir gI=>?_));let Ln:=gI S _ Hz hS;let RY:=hJ _ h' hJs λb o hb _ e=>gI b o hb e
  let step:∀(h2:Heap) (MN:Nat) (i2:Nat) (v2:Value) (t2:Tok) (c2:Nat),St (j+1+1) h2->J h2->P i2 v2->i2<=j+1->(∀j',j'<=j+1->(kf j')<=(kf i2)/\(j'<i2->(kf j')<(kf i2))) ->
    h2.get? S=some { cls:=.type "list",data:=.seq #[v2,.int (kf i2) t2] c2 }->(∀b o,b∉wr->b≠S->h'.get? b=some o->h2.get? b=some o) ->
    codeAny (model prog w) A (.builtin "max.loop" ⟨[.ref I,.builtin "len",.ref S],[]⟩) R { s with heap:=h2,toks:=MN }:=λh2 MN i2 v2 t2 c2 a1 a2 a3 a4 a5 a6 a7 =>
   ih (j+1) i2 { s with heap:=h2,toks:=MN } v2 t2 c2 ⋯ cD a1 a2 a3 a4 a5 a6 λi3 v3 h3 Sh b1 b2 b3 b4=>hR i3 v3 h3 Sh b1 b2 b3 λb o hb G6 e=>b4 b o hb G6 (a7 b o hb G6 (gI b o hb e))
  apply Za (wpAny_tryCatch (wpAny_holding (t7 (j+1) v _ _ _ hP RY λt2 MN=>?_)));apply Za (wpAny_tryCatch (wpAny_holding (Za (CmpOf.ints_gt (prog:=prog) (w:=w) (A:=A.in1) (P:=λi v=>∃t,v=.int (kf i) t) kf (λi v h=>h) (j+1) i _ _ _ _ _ ⟨t2,()⟩ ⟨tb,()⟩ ?_))));apply Za (wpAny_holding (wpAny_truthy_bool (Za (wpAny_letGo (wpAny_pure ?_)))));by_cases AY:(kf i)<(kf (j+1))
  .simp only[gt_iff_lt,AY,decide_true,if_true];apply Za (wpAny_updateSeq Ln rfl (Za (wpAny_letGo ?_)));rw[uq];apply wpAny_pure ⟨plainId_quiet F.plain_max_loop _,step _ _ (j+1) v t2 _ (W.frame _ _ _ Ir λb Z' o e=>(Xq _ _ (λh:S=b=>RW (by rw[h];exact Z'))).trans e) (hJ _ _ RY λb o _ G6 e=>(Xq _ _ (Ne.symm G6)).trans e) hP (Ze _) (λj' lX=>?_) (Qm _ Ln rfl) λb o _ G6 e=>(Xq _ _ (Ne.symm G6)).trans e⟩;by_cases e:j'=j+1
   .subst e;exact⟨⋯,λ_=>⋯⟩
   .let oX:=jF j' ⋯;let oP:=oX.1;exact⟨⋯,λ_=>⋯⟩
  .simp only[gt_iff_lt,AY,decide_false,Qj,if_false];apply Za (wpAny_letGo ?_);rw[uq];apply wpAny_pure ⟨plainId_quiet F.plain_max_loop _,step _ _ i vb tb c Ir RY ZB ⋯ (λj' lX=>?_) Ln λb o _ _ e=>e⟩;by_cases e:j'=j+1
   .subst e;exact⟨⋯,λ_=>⋯⟩
   .exact jF j' ⋯
def sV
  (h:wpAny (model prog w) A.in1 (pyIter x) (λit c7=>∃(I:Addr) (fp wr:List Addr) (n:Nat) (P:Nat->Value->Prop) (St:Nat->Heap->Prop) (kf:Nat->Int) (J:Heap->Prop),it=.ref I/\Walks prog w A.in1 I fp wr n P St/\St 0 c7.heap/\(∀b∈fp,b<c7.heap.objs.size)/\0<n/\(∀S,c7.heap.get? S=none->∀h h',J h->(∀b o,b∉wr->b≠S->h.get? b=some o->h'.get? b=some o)->J h')/\(∀h',(∀b o,c7.heap.get? b=some o->h'.get? b=some o)->J h') /\
   (∀i v (s:Shared) (Q:Θ2) (E:Θ2),P i v->J s.heap->(∀t tk,Q (.int (kf i) t) { s with toks:=tk })->wpAny (model prog w) A.in1 (call (.builtin "len") [v]) Q E s) /\
   ∀i v h' tk,P i v->i<n->(∀j,j<n->(kf j)<=(kf i)/\(j<i->(kf j)<(kf i)))->(∀b o,b∉wr->c7.heap.get? b=some o->h'.get? b=some o)->Q v { c7 with heap:=h',toks:=tk }) E s) :
  wpAny (model prog w) A (call (.builtin "max") [x] [(Str.ofString "key",.builtin "len")]) Q E s:=by
 let uq:(toString "max" ++ toString ".loop" : String)="max.loop":=∅;apply PyProof.Rows.kmk_tree F.kind_max F.plain_max F.entry_max (PyProof.Rows.kmk_max_key _ _) ?_;apply Za (wpAny_of_eq (show Builtin.Builtins.bindParams "max" ["key","default"] 0 ⟨[],[(Str.ofString "key",.builtin "len")]⟩=pure [some (.builtin "len"),none] from rfl) (Za (wpAny_pure (Za (wpAny_mono h (λit c7 wG=>?_) λ_ _ e=>e)))));let⟨I,fp,wr,n,P,St,kf,J,rfl,W,m4,CW,hn,hJ,hJ0,t7,hQ⟩:=wG;apply Za (wpAny_newObj_type ?_);let RW:c7.heap.objs.size∉fp:=λhm=>Yj _ (CW _ hm)
 let Hz:c7.heap.objs.size∉wr:=λh=>RW (W.sub _ h)
 let S7:c7.heap.get? c7.heap.objs.size=none:=by
  cases e:c7.heap.get? c7.heap.objs.size with
  |none=>rfl
  |some o=>exact absurd (Zr e) (Yj _)
 rw[uq];apply wpAny_pure ⟨plainId_quiet F.plain_max_loop _,codeAny_builtin F.entry_max_loop ?_⟩;let gS:(c7.heap.push { cls:=.type "list",data:=.seq #[] }).get? c7.heap.objs.size=some { cls:=.type "list",data:=.seq #[] }:=Zz _ rfl;let old:∀b o,c7.heap.get? b=some o->b≠c7.heap.objs.size:=λb o e=>Ye (Zr e)
 rw[Around.under_plainId F.plain_max_loop _];show wpAny _ A.in1 (seqItems? (.ref _) >>= _) _ _ _;apply Za (wpAny_seqItems gS rfl ?_);apply Za (wpAny_tryCatch (W.item 0 _ _ _ hn (W.frame _ _ _ m4 λb _ o e=>Zm _ e) λv h' tk' hP Ir gI=>?_));let Ln:=gI _ _ Hz gS;let RY:J h':=hJ _ S7 _ h' (hJ0 _ λb o e=>Zm _ e) λb o hb _ e=>gI b o hb e
 apply Za (wpAny_tryCatch (wpAny_holding (t7 0 v _ _ _ hP RY λt2 MN=>?_)));apply Za (wpAny_updateSeq Ln rfl ?_);rw[uq];apply wpAny_pure ⟨plainId_quiet F.plain_max_loop _,sU W kf _ RW J (hJ _ S7) t7 _ 0 0 _ v t2 _ rfl hn (W.frame _ _ _ Ir λb Z' o e=>(Xq _ _ (λh:c7.heap.objs.size=b=>RW (by rw[h];exact Z'))).trans e) (hJ _ S7 _ _ RY λb o _ G6 e=>(Xq _ _ (Ne.symm G6)).trans e) hP (Ze _) (λj' lX=>?_) (Qm _ Ln rfl) λi3 v3 h3 Sh b1 b2 b3 b4=>?_⟩
 .obtain rfl:j'=0:=⋯;exact⟨⋯,λh=>absurd h ⋯⟩
 .exact hQ i3 v3 h3 Sh b1 b2 b3 λb o hb e=>b4 b o hb (old b o e) ((Xq _ _ (Ne.symm (old b o e))).trans (gI b o hb (Zm _ e)))
end
end PySem
namespace L2
open PySem.Spec PyProof.Rows
def nW (g:TG)(tt:TT)(tk tv:TE)(J:It)(acc:Addr)(au:St)(df:Hp)(Q:VK):Prop :=
 ∃W:Nat->Nat->St->Hp->Prop,(∃m,W 0 m au (aQ df acc (.dT [])))/\∀i m aS H',W i m aS H' ->
  (J.stop i H'/\Q (.ref acc) H') \/
  (J.go i H'/\∃N:St->Hp->Prop,(∀cz H2,N cz H2->∃m',m'<m/\W (i+1) m' cz H2)/\∀x H2,J.tu i H' x H2->g x aS H2 λgi H3=>tt gi H3 λb H4 =>
   if b=true then tk gi H4 λkx H5=>tv gi H5 λy H6=>∃kvs k b,H6 acc=some (.dT kvs)/\kx=.ref b/\H6 b=some (.tup (k.map kV))/\kvs.length<sizeLine/\N gi (aQ H6 acc (.dT (dh kvs k y))) else N gi H4)
def IZ (wi:TI)(g:TG)(tt:TT)(tk tv:TE)(own:Nat)(ix:List Nat):TE:=λσ H Q=>wi σ H λJ H1=>∀acc,H1 acc=none->nW g tt tk tv J acc (dr own ix σ) H1 Q
def yo (hu:(tupleKind (lG X.prog X.w)).room A)(I:Inv X ae σ H s)
  (e:H a=some (.dT kvs)) (eb:H b=some (.tup (k.map kV))) (rv:RelV v r) (l:kvs.length<sizeLine) (h:∀s',Inv X ae σ (aQ H a (.dT (dh kvs k v))) s'->Q ⟨⟩ s'):wpAny (model X.prog X.w) A (dictSet a (.ref b) r) Q E s:=by
 let⟨z,hd,xs,cW,dd⟩:=MC I.cc e;let hz:xs.length<=sizeLine:=by rw[<- Paired.length cW];exact z
 let hl:(dh kvs k v).length<=sizeLine:=by have:=fX kvs k v;omega
 apply wpAny_dictSet_heap (hsz:=hz) hu (nO I.cc eb) dd λh' HC hs=>h _ ?_
 let⟨q,es,ep,hq,h2,h3,h4,_,h5⟩:=HC;apply mP I (by rw[e];exact True.intro) hs ⟨q,hq⟩ ⟨hl,hd,_,(cW.put k eb rv).keeps λc ys ec=>?_,q,es,ep,hq,h2,h3,h4,h5⟩;rw[dg (uh ec e (λz=>nomatch z))];exact ec
section
variable {tk tv:TE}
def vK {RR:Value->Addr->Result->Shared->Prop}
  (hu:(tupleKind (lG X.prog X.w)).room X.A) (B:aM X scope own cap ix) (hc:X.calm=true)
  (hb:∀C fp s H,PG (cP X scope C (own++cap) fp s H) tg g/\dj (cP X scope C (own++cap) fp s H) eu tt/\PE (cP X scope C (own++cap) fp s H) kx tk/\PE (cP X scope C (own++cap) fp s H) vx tv)
  (I2:Inv X ae σ H2 s2) (T:Turn X.prog X.w X.K tg J fp it tn) (fE:tn 0 s2.heap) (f2:∀b∈fp,eQ X ae H2 b)
  (q:∀acc,H2 acc=none->nW g tt tk tv J acc (dr own.length ix σ) H2 Q)
  (HA:∀D C H' s' m,Inv X ae σ H' s'->Q (.ref D) H'->s'.heap.Ns C m->eQ X ae H' C->RR (.ref D) C (.ok .next) s') :
  wpAny (model X.prog X.w) X.A newDict (λacc iG=>wpAny (model X.prog X.w) X.A (newFunctionEnv scope X.env.globals (dH X.env scope.names []) [] X.env.qual none .none (some X.env)) (λj6 fZ =>
   codeAny (model X.prog X.w) X.A (.compStart (.DictComp kx vx [⟨tg,iter,eu,0⟩] scope pos) 0 (.ref it) acc { j6 with scope:=relabel scope X.env }) (RR acc j6.locals) fZ) E iG) E s2:=by
 apply wpAny_newObj_type (zk (CF:=λD σ H N=>tk σ H λkx H5=>tv σ H5 λy H6=>∃kvs,∃k:List dE,∃b,H6 D=some (.dT kvs)/\kx=.ref b/\H6 b=some (.tup (k.map kV))/\kvs.length<sizeLine/\N σ (aQ H6 D (.dT (dh kvs k y)))) (ST:=YD X.prog X.w X.A kx vx) B hc (λC D=>qo) (λ_ _ _ _=>codeAny_compStart_dict) (λC fp s H=>⟨(hb C fp s H).1,(hb C fp s H).2.1,λD P σ H' s' N G I q k=>?_⟩) I2
  (I2.laid (a:=s2.heap.objs.size) (o:=.dT []) (h':=s2.heap.push { cls:=.type "dict",data:=.dict #[] }) (t':=s2.toks) (λ_ _ q=>Zm _ q) (Ze _) (Gs s2.heap I2.big)) T fE f2 q HA)
 apply bE ((hb C fp s H).2.2.1 _ s' σ H' _ I q) λkv Ru h9=>?_
 let⟨yk,Sa,Tl,K3,So⟩:=h9;apply bE ((hb C fp s H).2.2.2 _ Ru σ Sa _ Tl So) λvv Wx h9=>?_
 let⟨yv,W6,Nw,Rv,kvs,k',b,hk,ek,abU,hz,Sn⟩:=h9;subst ek;cases (show kv=Value.ref b from K3);exact yo (X:=cP X scope C (own++cap) fp s H) (E:=λ_ _=>False) (A:=X.A) hu Nw hk abU Rv hz λs' I'=>k _ _ _ I' Sn
def BD (hu:(tupleKind (lG X.prog X.w)).room X.A)(B:aM X scope own cap ix)(hc:X.calm=true)(hi:PI X tg iter wi)
  (hb:∀C fp s H,PG (cP X scope C (own++cap) fp s H) tg g/\dj (cP X scope C (own++cap) fp s H) eu tt/\PE (cP X scope C (own++cap) fp s H) kx tk/\PE (cP X scope C (own++cap) fp s H) vx tv)
  (hs:∀x,foldedSetIterable iter X.env x=pure x:=by intro _;rfl):PE X (.DictComp kx vx [⟨tg,iter,eu,0⟩] scope pos) (IZ wi g tt tk tv own.length ix):=by
 intro ae s σ H Q I h;rw[arm_eval_DictComp];let has:∀x∈scope.names,x.2=.free->(X.env.cells.lookup x.1).isSome=true:=λx hx hk=>by
  let⟨c,e⟩:=I.ok.has x.1 (B.frees x hx hk);rw[e];rfl
 apply wpAny_comprehension_free (use:=none) rfl hs (RI has) B.kind B.names ?_;show wpAny _ _ (eval iter X.env) _ _ s;apply bE (hi ae s σ H _ I h) λv s1 h1=>bE h1 λHo s2 h2=>?_
 let⟨it,fp,tn,J,H2,e,I2,T,fE,f2,q⟩:=h2;subst e;apply vK (RR:=λacc C=>compPost (model X.prog X.w) X.A X.xe none (EP X ae σ Q) acc C) hu B hc hb I2 T fE f2 q ?_;intro D C H' s' m I' q' hn fC;apply⟨m,hn,λh' tK=>⟨.ref D,H',?_,(),q'⟩⟩;exact I'.turned (t':=s'.toks) (it:=C) (λb o CY e=>(tK.2 b CY).trans e) fC.1 fC.2.1 fC.2.2.2.1 fC.2.2.2.2.1 fC.2.2.2.2.2
end
section
def TsK (K:Θ1)(H:Hp)(ys:List V)(ks:List (List V)):Prop:=ys.length=ks.length/\∀(j:Nat) x,ys[j]?=some x->∃b,x=.ref b/\aK K H b (ks.getD j [])
end
section
def JC (K:Θ1):List V->Hp->VK->Prop:=λxs H Q=>∃(p:Addr) (ys:List V) (ks:List (List V)),xs=[.ref p]/\bG K H p ys/\ks≠[]/\TsK K H ys ks /\
 ∀(i:Nat) (b:Addr),ys[i]?=some (.ref b)->i<ks.length->(∀j,j<ks.length->(ks.getD j []).length<=(ks.getD i []).length/\(j<i->(ks.getD j []).length<(ks.getD i []).length))->Q (.ref b) H
def BC (K:Θ1)(hc:X.calm=true)(hg:Gl X "max")(hm:X.mg "max"=none)(S0:Gl X "len")(RN:X.mg "len"=none)(ha:PA X [e] t)(hK:X.K=K:=by rfl)
  (he:backTo pos (starEach [e] X.env)=[(false,eval e X.env)]:=by rfl):PE X (.Call (.Name "max" p) [e] [⟨some "key",.Name "len" p2,p3⟩] pos) (YC (JC K) t):=by
 subst hK;intro ae s σ H Q I h;apply wpAny_Call_Name_kw (gh I hg hm boot_max ?_);apply PyProof.Rows.callWith_kw (bE (ha pos ae s σ H _ I h) λus s1 ⟨vs,H1,I1,r1,q1⟩=>?_) (by rw[he];rfl) (by rw[he];rfl);apply PyProof.Rows.kws_cons (gh I1 S0 RN Yi (PyProof.Rows.kws_nil ?_));let⟨pl,ys,ks,rfl,hl,bv,⟨cF,hts⟩,q⟩:=q1;let⟨u,rfl,ru⟩:=vals1 r1;cases ru;show wpAny _ _ (call (.builtin "max") [.ref pl] [(Str.ofString "key",.builtin "len")]) _ _ _;apply sV (gE I1 (I1.ok.hd hc) (.inl hl) λit fp wr its St s2 rv W MU CW Uw=>?_);let SW:=rv.length;let RP:its.length=ks.length:=⋯;let hn:0<ks.length:=Xi.mpr bv;apply⟨it,fp,wr,its.length,_,St,(λi=>((ks.getD i []).length:Int)),(λh=>∀b o,b∉wr->s2.heap.get? b=some o->h.get? b=some o),(),W,MU,CW,⋯,?_,?_,?_,?_⟩
 .intro S hS h h' J k b o hb e;exact k b o hb (λz=>by rw[z,hS] at e;cases e) (J b o hb e)
 .intro h' k b o _ e;exact k b o e
 .intro i v s3 Q3 E3 hP J hQ;let I3:=Uw s3.heap s3.toks J;let⟨x,hx,rx⟩:=bh.at rv hP;let⟨b,rfl,hb⟩:=hts i x hx;cases rx;let⟨abE,r3,pl3,ZA⟩:=I3.tuple hb;let e3:((abE.toArray.size:Nat):Int)=((ks.getD i []).length:Int):=by rw[Z5,r3.length]
  let hn3:=jS;let hl3:=r3.length;apply len_tuple (s:=s3) pl3 (by simp only[Z5]<;>omega) ?_;rw[e3];exact hQ _ _
 .intro i v h' tk hP hi jF hk;let⟨x,hx,rx⟩:=bh.at rv hP;let⟨b,rfl,hb⟩:=hts i x hx;cases rx;exact⟨.ref b,H1,Uw h' tk hk,(),q i b hx ⋯ λj hj=>by
   let oX:=jF j ⋯;exact⟨Int.ofNat_le.mp oX.1,λz=>Int.ofNat_lt.mp (oX.2 z)⟩⟩
end
end L2
namespace L2
open PySem.Spec PyProof.Rows KG
section
variable {K:Θ1}{tk tv:TE}
def Ny (au:St)(acc:Addr)(P:List (List dE×V)->Hp->Prop)(σ:St)(H:Hp):Prop:=(∀u,σ.set 0 u=au.set 0 u)/\∃ys,H acc=some (.dT ys)/\P ys H
def Ny.of (h:H acc=some (.dT ys))(p:P ys H):Ny au acc P (au.set 0 u) H:=⟨λv=>by cases au<;>rfl,ys,h,p⟩
def vJ (Pv:Nat->List (List dE×V)->Hp->Prop)(h0:Pv 0 [] (aQ df acc (.dT [])))(hl:∀(i:Nat) zs H,i<=xs.length->H acc=some (.dT zs)->Pv i zs H->bG K H a xs)
  (hs:∀(i:Nat) x zs H,xs[i]?=some x->H acc=some (.dT zs)->Pv i zs H->tt (au.set 0 (some x)) H λb H4 =>
   if b=true then tk (au.set 0 (some x)) H4 λkx H5=>tv (au.set 0 (some x)) H5 λy H6=>∃us k b,H6 acc=some (.dT us)/\kx=.ref b/\H6 b=some (.tup (k.map kV))/\us.length<sizeLine/\Ny au acc (Pv (i+1)) (au.set 0 (some x)) (aQ H6 acc (.dT (dh us k y)))
   else Ny au acc (Pv (i+1)) (au.set 0 (some x)) H4)
  (hd:∀zs H,H acc=some (.dT zs)->Pv xs.length zs H->Q (.ref acc) H):nW (fg 0) tt tk tv (A3 K a) acc au df Q:=by
 apply⟨λi m σ H=>m=xs.length-i/\i<=xs.length/\Ny au acc (Pv i) σ H,⟨xs.length,by simp,Z7 _,λ_=>rfl,[],dU,h0⟩,?_⟩;rintro i m σ H ⟨rfl,hi,wk,ys,hy,p⟩;let q:=hl i ys H hi hy p;by_cases cD:i<xs.length
 .apply .inr ⟨⟨xs,xs[i],q,by simp[cD]⟩,Ny au acc (Pv (i+1)),λaS H' c=>⟨xs.length-(i+1),⋯,(),cD,c⟩,λx H' y=>?_⟩;let⟨e,y⟩:=y;subst e;show tt (σ.set 0 _) _ _;rw[wk];exact hs i x ys _ (y xs q) hy p
 .let e:i=xs.length:=⋯;subst e;exact .inl ⟨⟨xs,q,Ze _⟩,hd ys H hy p⟩
end
end L2
namespace KM
open L2 KG EX
def kC (ns:Γ3)(o8:Nat):dm ns o8=((List.range ns.length).filter λk=>Nat.testBit o8 k).map λk=>ns.getD k 0:=by
 unfold dm
 congr 1
 apply Y0 λk _=>?_
 rw[Nat.testBit_eq_decide_div_mod_eq]
def Fv (h:k<2 ^ ns.length):dm (ns++[m]) k=dm ns k:=by
 rw[kC,kC,Zu,Qw,Xc,Xj];let e:[ns.length].filter (λj=>Nat.testBit k j)=[]:=by simp[List.filter,Nat.testBit_lt_two_pow h]
 rw[e,Ym];apply Xf λj hj=>?_
 let lX:j<ns.length:=by simpa using(Zg.mp hj).1
 simp[List.getD,Zq lX]
def Fw (h:k<2 ^ ns.length):dm (ns++[m]) (2 ^ ns.length+k)=dm ns k++[m]:=by
 rw[kC,kC,Zu,Qw,Xc,Xj,Zs];let e:[ns.length].filter (λj=>Nat.testBit (2 ^ ns.length+k) j)=[ns.length]:=by
  simp[List.filter,Nat.testBit_two_pow_add_eq,Nat.testBit_lt_two_pow h]
 rw[e];let e2:(List.range ns.length).filter (λj=>Nat.testBit (2 ^ ns.length+k) j)=(List.range ns.length).filter (λj=>Nat.testBit k j):=by
  apply Y0 λj hj=>?_
  exact Nat.testBit_two_pow_add_gt (by simpa using hj) k
 rw[e2]
 congr 1
 .apply Xf λj hj=>?_
  let lX:j<ns.length:=by simpa using(Zg.mp hj).1
  simp[List.getD,Zq lX]
 .simp[List.getD]
def jU (ns:Γ3)(m:Int):aT (ns++[m])=aT ns++(aT ns).map λs=>s++[m]:=by
 unfold aT;rw[Zu,Qw,Nat.pow_succ,Nat.mul_two,List.range_add,Zs,Zp,Zp]
 congr 1
 .exact Xf λk hk=>Fv (by simpa using hk)
 .exact Xf λk hk=>Fw (by simpa using hk)
def RG (ns:Γ3):(aT ns).length=2 ^ ns.length:=by unfold aT;rw[Zb,Y3]
def bV:S∈aT ns↔S.Sublist ns:=by
 constructor
 .exact Bs
 .intro h
  revert S
  suffices H:∀(ms S:Γ3),S.Sublist ms.reverse->S∈aT ms.reverse by
   intro S h;have:=H ns.reverse S;rw[List.reverse_reverse] at this;exact this h
  intro ms;induction ms with
  |nil=>intro S h;rw[List.reverse_nil] at h ⊢;rw[Qt.mp h];exact Zy.mpr rfl
  |cons m ms ih =>
   intro S h;rw[List.reverse_cons] at h ⊢;rw[jU];let⟨a,b,rfl,ha,hb⟩:=List.sublist_append_iff.mp h;rcases List.sublist_cons_iff.mp hb with hb |⟨r,rfl,hr⟩
   .rw[Qt.mp hb,Ym];exact Y6 _ (ih a ha)
   .rw[Qt.mp hr];exact Yl _ (Zd.mpr ⟨a,ih a ha,()⟩)
def iZ (h:ns.Nodup):(aT ns).Nodup:=by
 suffices H:∀ms:Γ3,ms.reverse.Nodup->(aT ms.reverse).Nodup by
  have:=H ns.reverse;rw[List.reverse_reverse] at this;exact this h
 intro ms;induction ms with
 |nil=>intro _;rw[List.reverse_nil];exact Yc.mpr ⟨by simp,X4⟩
 |cons m ms ih =>
  intro hn;rw[List.reverse_cons] at hn ⊢;let SR:=X8.mp hn;rw[jU];apply X8.mpr ⟨ih SR.1,(ih SR.1).map _ λa b RV z=>RV (List.append_cancel_right z),λa ha b hb z=>?_⟩;let⟨s,hs,rfl⟩:=Zd.mp hb;let h1:=(bV.mp ha).subset (by rw[z];simp:m∈a);exact(SR.2.2 m h1 m (by simp)) rfl
def wsum (L:List Nat)(w:Nat->Rat)(p:Nat->Bool):Rat:=bu ((L.filter p).map w)
def AU (q:Rat)(qs:Δ1):bu (q::qs)=q+bu qs:=by
 let key:∀(l:Δ1) (z:Rat),l.foldl (λs q=>s+q) z=z+bu l:=by
  intro l;induction l with
  |nil=>intro z;unfold bu;simp[Qh]
  |cons i l ih=>intro z;unfold bu;rw[Xe,Xe,ih,ih,Yw,Rat.add_assoc]
 conv=>lhs;unfold bu
 rw[Xe,key,Yw]
def CO (x:Nat)(L:List Nat)(w:Nat->Rat)(p:Nat->Bool):wsum (x::L) w p=(if p x=true then w x else 0)+wsum L w p:=by
 unfold wsum;cases h:p x with
 |true=>rw[Q9 h,Zn,AU,if_pos rfl]
 |false=>rw[Qu (by rw[h];decide),if_neg ∅,Yw]
def uB (L:List Nat)(w:Nat->Rat)(p q:Nat->Bool):wsum L w (λx=>p x&&q x)+wsum L w (λx=>p x||q x)=wsum L w p+wsum L w q:=by
 induction L with
 |nil=>rfl
 |cons x L ih =>
  rw[CO,CO,CO,CO];cases p x<;>cases q x<;>simp<;>grind
def CM (hw:∀x∈L,0<=w x)(h:∀x∈L,p x=true->q x=true):wsum L w p<=wsum L w q:=by
 induction L with
 |nil=>exact Yr
 |cons x L ih =>
  let M6:=ih (λy hy=>hw y (Zj _ hy)) (λy hy=>h y (Zj _ hy));let h0:=hw x Zi;let h1:=h x Zi;rw[CO,CO];cases hp:p x with
  |false =>
   cases hq:q x with
   |false=>rw[if_neg ∅,Yw,Yw];exact M6
   |true =>
    rw[if_neg ∅,if_pos rfl,Yw];exact Yn M6 (by have:=Q8 (c:=wsum L w q) |>.mpr h0;rwa [Yw] at this)
  |true =>
   rw[h1 hp,if_pos rfl];exact Q7.mpr M6
def Np (U:List Nat)(w:Nat->Rat)(L:List Nat)(v:Nat->Rat)(cW:Nat->Nat->Bool)(S:List Nat):Rat:=wsum U w (λx=>S.contains x)-wsum L v (λi=>S.any λg=>cW i g)
def AW (h:∀x∈L,p x=q x):wsum L w p=wsum L w q:=by
 unfold wsum;rw[Y0 h]
def B8 (hv:∀x∈L,0<=v x)(hI:∀x,x∈I↔x∈S/\x∈T)(hJ:∀x,x∈J↔x∈S\/x∈T) :
  Np U w L v cW S+Np U w L v cW T<=Np U w L v cW I+Np U w L v cW J:=by
 unfold Np;let a1:wsum U w (λx=>I.contains x)=wsum U w (λx=>S.contains x&&T.contains x):=AW λx _=>by rw[Yb];simp[hI]
 let a2:wsum U w (λx=>J.contains x)=wsum U w (λx=>S.contains x||T.contains x):=AW λx _=>by rw[Yb];simp[hJ]
 let a3:=uB U w (λx=>S.contains x) (λx=>T.contains x);let b1:wsum L v (λi=>I.any λg=>cW i g)<=wsum L v (λi=>(S.any λg=>cW i g)&&(T.any λg=>cW i g)):=CM hv λx _ h=>by
  let⟨g,hg,hr⟩:=Z6.mp h;have:=(hI g).mp hg;rw[Z8];exact⟨Z6.mpr ⟨g,this.1,hr⟩,Z6.mpr ⟨g,this.2,hr⟩⟩
 let b2:wsum L v (λi=>J.any λg=>cW i g)=wsum L v (λi=>(S.any λg=>cW i g)||(T.any λg=>cW i g)):=AW λx _=>by
  rw[Yb,Qp,Z6,Z6,Z6];constructor
  .rintro⟨g,hg,hr⟩;rcases(hJ g).mp hg with h |h
   .exact .inl ⟨g,h,hr⟩
   .exact .inr ⟨g,h,hr⟩
  .rintro(⟨g,hg,hr⟩ |⟨g,hg,hr⟩)
   .exact⟨g,(hJ g).mpr (.inl hg),hr⟩
   .exact⟨g,(hJ g).mpr (.inr hg),hr⟩
 let b3:=uB L v (λi=>S.any λg=>cW i g) (λi=>T.any λg=>cW i g);rw[a1,a2,b2];generalize wsum L v (λi=>I.any λg=>cW i g)=z at b1
 grind
theorem sub_eq {α : Type}[BEq α][LawfulBEq α]:∀{S U:List α},S.Sublist U->U.Nodup->U.filter (λx=>S.contains x)=S
 |_,_,.slnil,_=>rfl
 |_,_,.cons a h,nd=>by
  let wc:=Yc.mp nd;rw[Qu (by rw[Z9];exact λz=>wc.1 (h.subset z))];exact sub_eq h wc.2
 |_,_,.cons₂ (l₁:=S) (l₂:=U) a h,nd=>by
  let wc:=Yc.mp nd;rw[Q9 (by rw[Z9];exact Zi)]
  congr 1
  rw[<- sub_eq h wc.2];apply Y0 λx hx=>?_
  rw[sub_eq h wc.2,Yb,Z9,Z9,Zk];constructor
  .rintro(rfl |z)
   .exact absurd hx wc.1
   .exact z
  .exact .inr
def Je {α : Type}[BEq α][LawfulBEq α]{A B U:List α}(hA:A.Sublist U)(hB:B.Sublist U)(nd:U.Nodup)(h:∀x,x∈A↔x∈B):A=B:=by
 rw[<- sub_eq hA nd,<- sub_eq hB nd];apply Y0 λx _=>?_
 rw[Yb,Z9,Z9,h x]
def ML (U:Γ3)(f:Γ3->Rat):Prop:=∀S T:Γ3,S.Sublist U->T.Sublist U->f S+f T<=f (S.filter λx=>T.contains x)+f (U.filter λx=>S.contains x||T.contains x)
def uW (nd:U.Nodup)(sup:ML U f)(hR:R.Sublist U)(hM:∀S:Γ3,S.Sublist U->f S<=f R)(d4:∀S:Γ3,S.Sublist U->f S=f R->S.length<=R.length)(hT:T.Sublist U)(fT:f T=f R):∀x∈T,x∈R:=by
 let h1:=sup R T hR hT;let sI:(R.filter λx=>T.contains x).Sublist R:=Z4;let sJ:(U.filter λx=>R.contains x||T.contains x).Sublist U:=Z4;let h2:=hM _ sJ;let h3:=hM _ (sI.trans hR);let e:f (U.filter λx=>R.contains x||T.contains x)=f R:=by
  rw[fT] at h1;generalize f (U.filter λx=>R.contains x||T.contains x)=z at h1 h2 ⊢;generalize f (R.filter λx=>T.contains x)=y at h1 h3
  grind
 let h4:=d4 _ sJ e;let h5:R.Sublist (U.filter λx=>R.contains x||T.contains x):=by
  let h6:U.filter (λx=>R.contains x)=R:=sub_eq hR nd;let h7:(U.filter λx=>R.contains x||T.contains x).filter (λx=>R.contains x)=R:=by
   rw[Qq];apply Eq.trans (Y0 λx _=>?_) h6;cases R.contains x<;>simp
  let h8:((U.filter λx=>R.contains x||T.contains x).filter (λx=>R.contains x)).Sublist (U.filter λx=>R.contains x||T.contains x):=Z4;rw[h7] at h8;exact h8
 let h9:=h5.eq_of_length_le h4;intro x hx;rw[h9,Zg];exact⟨hT.subset hx,by simp[hx]⟩
def qN (H:Hp)(xs:List V)(M:Γ1):Prop:=xs.length=M.length/\∀(j:Nat) x,xs[j]?=some x->∃(a:Addr) (r:Γ3),M[j]?=some r/\x=.ref a/\H a=some (.tup (r.map V.int))
def qN.nil:qN H [] []:=⟨(),λj x h=>by simp at h⟩
def qN.tm (h:qN H xs M)(t:Tm H H'):qN H' xs M:=⟨h.1,λj x hx=>by let⟨a,r,e1,e2,e3⟩:=h.2 j x hx;exact⟨a,r,e1,e2,t _ _ e3⟩⟩
def qN.cat (h1:qN H xs M)(h2:qN H ys N):qN H (xs++ys) (M++N):=by
 apply⟨by simp[h1.1,h2.1],λj y hy=>?_⟩;rcases Z2 j xs.length with z |z
 .rw[Zq z] at hy;let⟨a,r,e1,e2,e3⟩:=h1.2 j y hy;exact⟨a,r,by rw[Zq (h1.1▸z)];exact e1,e2,e3⟩
 .rw[Yh z] at hy;let⟨a,r,e1,e2,e3⟩:=h2.2 _ y hy;exact⟨a,r,by rw[Yh (h1.1▸z),<- h1.1];exact e1,e2,e3⟩
def qN.app (h:qN H xs M)(ha:H a=some (.tup (r.map V.int))):qN H (xs++[.ref a]) (M++[r]):=h.cat ⟨(),λj x hx=>by
 cases j with
 |zero=>simp at hx;subst hx;exact⟨a,r,(),(),ha⟩
 |succ j=>simp at hx⟩
def qN.ks (h:qN H xs M):TsK K H xs (M.map λr=>r.map V.int):=⟨by rw[h.1,Zb],λj x hx=>by
 let⟨a,r,e1,e2,e3⟩:=h.2 j x hx;apply⟨a,e2,aK.of ?_⟩;have:(M.map λr=>r.map V.int).getD j []=r.map V.int:=by simp[List.getD,Zo,e1]
 rw[this];exact e3⟩
def Ee:Sp:=λvs H Q _=>∃(l:Addr) (ns:Γ3),vs=[.ref l]/\H l=some (.tup (ns.map V.int))/\ns.length<=6/\∀(r:Addr) (xs:List V) (H':Hp),aw H H'->H' r=some (.lst xs)->qN H' xs (aT ns)->Q (.ref r) H'
def zG:Sp:=λvs H Q _=>∃(b p pa pp pw q:Addr) (xa xp xw ys:List V) (am pu wi:Ξ1) (qs:Δ1),vs=[.ref p,.ref q]/\eh b H p pa pp pw xa xp xw am pu wi/\Bf b H q ys qs/\qs.length=xa.length /\
 ∀(r r1 r2:Addr) (c:Int) (ms ps:Γ3) (H':Hp),aw H H'->0<c->cR c ms (gL (am.map aZ) qs)->cR c ps (qJ pu)->H' r=some (.tup [.ref r1,.ref r2])->H' r1=some (.lst (ms.map V.int))->H' r2=some (.lst (ps.map V.int))->Q (.ref r) H'
def TF:Sp:=λvs H Q _=>∃(l t:Addr) (ms:Γ3) (S:List Nat),vs=[.ref l,.ref t]/\H l=some (.lst (ms.map V.int))/\H t=some (.tup (cX S))/\S.length<=6/\(∀i∈S,i<ms.length)/\∀H',aw H H'->Q (.int ((S.map λi=>ms.getD i 0).sum)) H'
def m9 (n:Int):dE:=.inl n
def l8 (rows:List (Int×Γ3)):List (List dE×V):=rows.map λr=>(r.2.map m9,V.int r.1)
def EJ (ns:Γ3):(ns.map m9).map kV=ns.map V.int:=by rw[Zp];rfl
def u5 {a b:Γ3}(h:a.map m9=b.map m9):a=b:=by
 induction a generalizing b with
 |nil=>cases b with
  |nil=>rfl
  |cons _ _=>cases h
 |cons x a ih=>cases b with
  |nil=>cases h
  |cons y b =>
   rw[Zn,Zn] at h;injection h with h1 h2
   have:x=y:=by unfold m9 at h1;injection h1
   rw[this,ih h2]
def Above (am:Γ3)(ps qs:Δ1)(M:Γ1)(U:Γ3)(c:Int)(rows:List (Int×Γ3)):Prop:=0<c/\rows.map (·.2)=aT U/\∀x∈rows,((x.1:Int):Rat)=(c:Rat)*aN am ps qs M (az x.2)
structure MP (b:Addr)(H:Hp)(p pa pp pw q:Addr)(xa xp xw ys:List V)(am pu wi:Ξ1)(qs:Δ1):Prop where
 m:eh b H p pa pp pw xa xp xw am pu wi
 pr:Bf b H q ys qs
 l:qs.length=xa.length
 ok:Hd (rowsOf wi) qs
def TJ:Sp:=λvs H Q _=>∃(b p pa pp pw q:Addr) (xa xp xw ys:List V) (am pu wi:Ξ1) (qs:Δ1),vs=[.ref p,.ref q]/\MP b H p pa pp pw q xa xp xw ys am pu wi qs /\
 ∀(d:Addr) (c:Int) (rows:List (Int×Γ3)) (H':Hp),aw H H'->H d=none->Above (am.map aZ) (qJ pu) qs (rowsOf wi) (aD xa.length (rowsOf wi)) c rows->H' d=some (.dT (l8 rows))->Q (.ref d) H'
def NJ (De:Addr):Sp:=λvs H Q E=>∃(b p pa pp pw q:Addr) (xa xp xw ys:List V) (am pu wi:Ξ1) (qs:Δ1),vs=[.ref p,.ref q]/\MP b H p pa pp pw q xa xp xw ys am pu wi qs /\
 ∀(c:Int) (rows:List (Int×Γ3)),Above (am.map aZ) (qJ pu) qs (rowsOf wi) (aD xa.length (rowsOf wi)) c rows ->
  ((∃x∈rows,0<x.1)->∀H',aw H H'->E (.ref De) none H') /\
  ((∀x∈rows,x.1<=0)->∀(a:Addr) (row:Int×Γ3) (H':Hp),aw H H'->row∈rows->row.1=0->(∀x∈rows,x.1=0->x.2.length<=row.2.length)->H' a=some (.tup (row.2.map V.int))->Q (.ref a) H')
def yh (h:cR c ms (as++bs)):cR c (ms.take as.length) as/\cR c (ms.drop as.length) bs:=by
 let⟨h1,h2⟩:=h;rw[Zu] at h1 h2;apply⟨⟨by rw[Yz];omega,λj hj=>?_⟩,⟨by rw[Qo];omega,λj hj=>?_⟩⟩
 .let h3:=h2 j ⋯;let e1:(ms.take as.length).getD j 0=ms.getD j 0:=by simp[List.getD,List.getElem?_take,hj]
  let e2:(as++bs).getD j 0=as.getD j 0:=by simp[List.getD,Zq hj]
  rw[e1,<- e2];exact h3
 .let h3:=h2 (as.length+j) ⋯;let e1:(ms.drop as.length).getD j 0=ms.getD (as.length+j) 0:=by simp[List.getD,List.getElem?_drop]
  let e2:(as++bs).getD (as.length+j) 0=bs.getD j 0:=by simp[List.getD,Yh]
  rw[e1,<- e2];exact h3
def CP (g:Nat)(M:Γ1):(aD g M).Nodup:=by
 unfold aD aB;apply((X5).sublist Z4).map _ λa b h z=>h ⋯
def M0:bQ gs best=gs.any λg=>best.contains (g:Int):=by
 unfold bQ
 grind
def mW (nd:N.Nodup)(h:S.Sublist N) :
  aN am ps qs M S=Np N (λg=>(gL am qs).getD g 0) (List.range M.length) (λi=>ps.getD i 0) (λi g=>((ar M qs).getD i []).contains (g:Int)) S:=by
 unfold aN Np dD aY fz wsum;rw[sub_eq h nd]
 congr 3
 apply Y0 λi _=>?_
 exact M0
def MZ (h:S.Sublist (aD g M)):(az S).Sublist (aB g M):=by
 let h1:=List.Sublist.map Int.toNat h;let h2:=oz g M;unfold az at h2 ⊢;rw[h2] at h1;exact h1
def CN (h:S.Sublist (aD g M))(x:Nat):x∈az S↔(x:Int)∈S:=by
 unfold az;constructor
 .intro hx;let⟨y,hy,rfl⟩:=Zd.mp hx;have:=h.subset hy;unfold aD at this;let⟨j,_,rfl⟩:=Zd.mp this;rw[Z1];exact hy
 .intro hx;exact Zd.mpr ⟨_,hx,Z1 x⟩
def lT (hp:∀q∈ps,0<=q):ML (aD g M) (λS=>aN am ps qs M (az S)):=by
 intro S T hS hT;let nd:(aB g M).Nodup:=by unfold aB;exact(X5).sublist Z4
 let sI:(S.filter λx=>T.contains x).Sublist (aD g M):=Z4.trans hS;let sJ:((aD g M).filter λx=>S.contains x||T.contains x).Sublist (aD g M):=Z4;show aN am ps qs M (az S)+aN am ps qs M (az T)<=aN am ps qs M (az _)+aN am ps qs M (az _);rw[mW nd (MZ hS),mW nd (MZ hT),mW nd (MZ sI),mW nd (MZ sJ)];apply B8 (λx _=>?_) (λx=>?_) (λx=>?_)
 .by_cases hx:x<ps.length
  .have:ps.getD x 0∈ps:=by simp[List.getD,Zc hx]
   exact hp _ this
  .have:ps.getD x 0=0:=by simp[List.getD,Yu (Xb hx)]
   rw[this];exact Yr
 .rw[CN sI,CN hS,CN hT,Zg];simp
 .rw[CN sJ,CN hS,CN hT,Zg];simp;exact λh=>h.elim (λz=>hS.subset z) (λz=>hT.subset z)
end KM
namespace L2
open PySem.Spec PyProof.Rows EX
section
variable {st:Stmt}
end
end L2
namespace L2
open PySem.Spec PyProof.Rows
def K0:Θ1:=[]
section
variable {K:Θ1}
def bG.k0 (h:bG K0 H a xs):bG K H a xs:=by
 rcases h with h |⟨o,its,n,hk,_⟩
 .exact .inl h
 .exact absurd hk (by show ¬ (none=some o);simp)
def aK.k0 (h:aK K0 H a xs):aK K H a xs:=by
 rcases h with h |⟨o,its,n,hk,_⟩
 .exact .inl h
 .exact absurd hk (by show ¬ (none=some o);simp)
def Sq.k0 (h:bG K0 H a xs\/aK K0 H a xs):bG K H a xs\/aK K H a xs:=h.elim (λz=>.inl z.k0) λz=>.inr z.k0
mutual
theorem l9.k0:∀{v:V}{d:PyData},l9 K0 H v d->l9 K H v d
 |_,_,.cg=>.cg
 |_,_,.bl b=>.bl b
 |_,_,.int i=>.int i
 |_,_,.str x ok=>.str x ok
 |_,_,.lst h t=>.lst h.k0 (fe.k0 t)
 |_,_,.tup h t=>.tup h.k0 (fe.k0 t)
theorem fe.k0:∀{vs:List V}{ds:Ξ1},fe K0 H vs ds->fe K H vs ds
 |_,_,.nil=>.nil
 |_,_,.cons h t=>.cons (l9.k0 h) (fe.k0 t)
end
end
section
def eE.imp (h:eE X f r)(hi:∀x y H Q,r' x y H Q->r x y H Q):eE X f r':=λae s σ H x y v u Q I rx ry q=>h ae s σ H x y v u Q I rx ry (hi _ _ _ _ q)
def cn.imp (h:cn X f r)(hi:∀xs H Q,r' xs H Q->r xs H Q):cn X f r':=λae s σ H xs us Q I rx q=>h ae s σ H xs us Q I rx (hi _ _ _ q)
def A2.imp (h:A2 X r)(hi:∀x y H Q,r' x y H Q->r x y H Q):A2 X r':=λa b ae s σ H x y v u Q I rx ry q=>h a b ae s σ H x y v u Q I rx ry (hi _ _ _ _ q)
def tY:A2 X (HQ K0):=Am.imp λ_ _ _ _ ⟨p,xs,i,v,e1,e2,h,e3,q⟩=>⟨p,xs,i,v,e1,e2,h.k0,e3,q⟩
def bZ:A2 X (NR K0):=QP.imp λ_ _ _ _ ⟨p,xs,i,v,e1,e2,h,e3,q⟩=>⟨p,xs,i,v,e1,e2,h.k0,e3,q⟩
def LP:List V->Hp->VK->Prop:=λxs H Q=>∃p ys,xs=[.ref p]/\(bG K0 H p ys\/aK K0 H p ys)/\Q (.int ys.length) H
def LL:List V->Hp->VK->Prop:=λxs H Q=>∃p ys,xs=[.ref p]/\((bG K0 H p ys/\∀l,H l=none->Q (.ref l) (aQ H l (.tup ys)))\/(aK K0 H p ys/\Q (.ref p) H))
def DG:List V->Hp->VK->Prop:=λxs H Q=>∃p ys,xs=[.ref p]/\(bG K0 H p ys\/aK K0 H p ys)/\∀l,H l=none->Q (.ref l) (aQ H l (.lst ys))
def LR:List V->Hp->VK->Prop:=λxs H Q=>∃p ys,xs=[.ref p]/\(bG K0 H p ys\/aK K0 H p ys)/\ys.all fj=true/\Q (.bl (ys.any tv)) H
def VA:List V->Hp->VK->Prop:=λxs H Q=>∃p ys,xs=[.ref p]/\(bG K0 H p ys\/aK K0 H p ys)/\ys.all fj=true/\Q (.bl (ys.all tv)) H
def LM:List V->Hp->VK->Prop:=λxs H Q=>∃(p:Addr) (ns:Γ3),xs=[.ref p]/\(bG K0 H p (ns.map V.int)\/aK K0 H p (ns.map V.int))/\Q (.int ns.sum) H
def LO:List V->Hp->VK->Prop:=λxs H Q=>∃(p:Addr) (ns:Γ3),xs=[.ref p]/\(bG K0 H p (ns.map V.int)\/aK K0 H p (ns.map V.int))/\ns≠[]/\∀m,m∈ns->(∀n∈ns,n<=m)->Q (.int m) H
def et:cn X (.builtin "len") LP:=io.imp λ_ _ _ ⟨p,ys,e,h,q⟩=>⟨p,ys,e,Sq.k0 h,q⟩
def gx:cn X (.type "tuple") LL:=pz.imp λ_ _ _ ⟨p,ys,e,h⟩=>⟨p,ys,e,h.elim (λz=>.inl ⟨z.1.k0,z.2⟩) λz=>.inr ⟨z.1.k0,z.2⟩⟩
def DY:cn X (.type "list") DG:=sW.imp λ_ _ _ ⟨p,ys,e,h,q⟩=>⟨p,ys,e,Sq.k0 h,q⟩
def zm (hc:X.calm=true):cn X (.builtin "any") LR:=(GC hc).imp λ_ _ _ ⟨p,ys,e,h,q⟩=>⟨p,ys,e,Sq.k0 h,q⟩
def pS (hc:X.calm=true):cn X (.builtin "all") VA:=(GD hc).imp λ_ _ _ ⟨p,ys,e,h,q⟩=>⟨p,ys,e,Sq.k0 h,q⟩
def MJ (hc:X.calm=true):cn X (.builtin "sum") LM:=(GB hc).imp λ_ _ _ ⟨p,ys,e,h,q⟩=>⟨p,ys,e,Sq.k0 h,q⟩
def DX (hc:X.calm=true):cn X (.builtin "max") LO:=(Ci hc).imp λ_ _ _ ⟨p,ys,e,h,q⟩=>⟨p,ys,e,Sq.k0 h,q⟩
def En (hu:X.A.units+64<cLine):eE X (compareOp .Eq) (HR K0):=(Pz hu).imp λ_ _ _ _ ⟨dx,dy,h1,h2,q⟩=>⟨dx,dy,h1.k0,h2.k0,q⟩
def PF (hu:X.A.units+64<cLine):eE X (compareOp .NotEq) (HP K0):=(Py hu).imp λ_ _ _ _ ⟨dx,dy,h1,h2,q⟩=>⟨dx,dy,h1.k0,h2.k0,q⟩
def yR:eE X (compareOp .In) (Sl K0 false):=BH.imp λ_ _ _ _ ⟨p,xs,e,h,q⟩=>⟨p,xs,e,Sq.k0 h,q⟩
def PD:eE X (compareOp .NotIn) (Sl K0 true):=sP.imp λ_ _ _ _ ⟨p,xs,e,h,q⟩=>⟨p,xs,e,Sq.k0 h,q⟩
def abh:SlR X (TW K0):=λae s σ H x v vl vu lo hi sl Q I rx hs pl pu ⟨a,xs,e,h,q⟩=>Jg ae s σ H x v vl vu lo hi sl Q I rx hs pl pu ⟨a,xs,e,h.k0,q⟩
structure It.Le (J J':It):Prop where
 go:∀i H,J'.go i H->J.go i H
 tu:∀i H x H',J.tu i H x H'->J'.tu i H x H'
 stop:∀i H,J'.stop i H->J.stop i H
def Turn.le {K:Θ1}(T:Turn P w K tg J fp it tn)(l:J.Le J'):Turn P w K tg J' fp it tn where
 mem:=T.mem
 obj:=T.obj
 keep:=T.keep
 item:=λX hP hw hK hc i ae s σ H E I hf st hg=>bE (T.item X hP hw hK hc i ae s σ H E I hf st (l.go i H hg)) λr s1 ⟨u,hr,h⟩=>⟨u,hr,bE h λ_ s2 ⟨x,H',a1,a2,a3,a4⟩=>⟨x,H',a1,a2,l.tu _ _ _ _ a3,a4⟩⟩
 done:=λX hP hw hK hc i ae s σ H E I hf st hg=>T.done X hP hw hK hc i ae s σ H E I hf st (l.stop i H hg)
 self:=T.self
def Aj {K:Θ1}:(A3 K a).Le (A3 K0 a):=⟨λi H ⟨xs,x,h,e⟩=>⟨xs,x,h.k0,e⟩,λi H x H' ⟨e,h⟩=>⟨e,λxs hx=>h xs hx.k0⟩,λi H ⟨xs,h,e⟩=>⟨xs,h.k0,e⟩⟩
def EH {K:Θ1}:(yG K a).Le (yG K0 a):=⟨λi H ⟨xs,x,h,e⟩=>⟨xs,x,h.k0,e⟩,λi H x H' ⟨e,h⟩=>⟨e,λxs hx=>h xs hx.k0⟩,λi H ⟨xs,h,e⟩=>⟨xs,h.k0,e⟩⟩
def Kv {K:Θ1}:(C7 K a).Le (C7 K0 a):=⟨λi H ⟨xs,x,h,e⟩=>⟨xs,x,h.k0,e⟩,λi H x H' ⟨p,e1,e2,h⟩=>⟨p,e1,e2,λxs hx=>h xs hx.k0⟩,λi H ⟨xs,h,e⟩=>⟨xs,h.k0,e⟩⟩
def QH {K:Θ1}:(R9 K a b).Le (R9 K0 a b):=⟨λi H ⟨xs,ys,x,y,h1,h2,e⟩=>⟨xs,ys,x,y,h1.k0,h2.k0,e⟩,λi H x H' ⟨p,e1,e2,h⟩=>⟨p,e1,e2,λxs ys h1 h2=>h xs ys h1.k0 h2.k0⟩,λi H ⟨xs,ys,h1,h2,e⟩=>⟨xs,ys,h1.k0,h2.k0,e⟩⟩
def NT (hl:PE X l tl):PI X tg l (VW K0 tl):=by
 intro ae s σ H R I h;apply bE (hl ae s σ H _ I h) λv s1 ⟨x,H1,I1,r1,a,e,⟨xs,hq⟩,q⟩=>?_
 subst e;cases r1;let⟨its,rv,p,hz⟩:=I1.list hq.k0;apply wpAny_pyIter_list p.isList ⟨s1.heap.objs.size,[s1.heap.objs.size],_,A3 K0 a,H1,(),I1.kept (t':=s1.toks) λb o e=>Zm _ e,(pV (K:=X.K) a _).le Aj,⟨_,Zz _ rfl,(),()⟩,λb hb=>?_,q⟩;obtain rfl:b=s1.heap.objs.size:=by simpa using hb
 exact I1.jC (Ze _) (I1.cc.fresh (Ze _))
def qU (hl:PE X l tl):PI X tg l (abG K0 tl):=by
 intro ae s σ H R I h;apply bE (hl ae s σ H _ I h) λv s1 ⟨x,H1,I1,r1,a,e,⟨xs,hq⟩,q⟩=>?_
 subst e;cases r1;let⟨its,rv,p,hz⟩:=I1.tuple hq.k0;apply wpAny_pyIter_tuple (show s1.heap.IsTuple a its.toArray from p) ⟨s1.heap.objs.size,[s1.heap.objs.size],_,yG K0 a,H1,(),I1.kept (t':=s1.toks) λb o e=>Zm _ e,(ot (K:=X.K) a _).le EH,⟨_,Zz _ rfl,(),()⟩,λb hb=>?_,q⟩;obtain rfl:b=s1.heap.objs.size:=by simpa using hb
 exact I1.jC (Ze _) (I1.cc.fresh (Ze _))
def mB {p pos:Pos}(hg:Gl X "enumerate")(hm:X.mg "enumerate"=none)(hb:bootBuiltins "enumerate"=some (.type "enumerate"))(ha:PA X [a] ta)(hs:starEach [a] X.env=[(false,eval a X.env)]:=by rfl) :
  PI X (.Tuple t9 kk qQ) (.Call (.Name "enumerate" p) [a] [] pos) (VX K0 ta):=by
 intro ae s σ H R I h;apply Call_ (gh I hg hm hb (PyProof.Rows.callWith_type1 (bE (ha pos ae s σ H _ I h) λus s1 ⟨vs,H1,I1,r1,t,e,⟨xs,hq⟩,q⟩=>?_) hs rfl));subst e;let⟨u,rfl,ru⟩:=vals1 r1;cases ru;let⟨its,rv,pl,hz⟩:=I1.tuple hq.k0;apply jY (show s1.heap.IsTuple t its.toArray from pl) λh' he Nd hsz hk=>wpAny_pyIter_enum he ?_
 apply⟨s1.heap.objs.size+1,[s1.heap.objs.size+1,s1.heap.objs.size],_,C7 K0 t,H1,(),I1.kept (t':=s1.toks) hk,(Bo (K:=X.K) t _ s1.heap.objs.size (Nat.succ_ne_self _)).le Kv,⟨⟨_,he⟩,Nd⟩,λb hb=>?_,q⟩;rcases Zk.mp hb with rfl |hb
 .exact I1.jC (Xt _) (I1.cc.fresh (Xt _))
 .obtain rfl:b=s1.heap.objs.size:=by simpa using hb
  exact I1.jC (Ze _) I1.fresh
def JM {p pos:Pos}(hg:Gl X "zip")(hm:X.mg "zip"=none)(hb:bootBuiltins "zip"=some (.type "zip"))(ha:PA X [a,b] ta)
  (hs:starEach [a,b] X.env=[(false,eval a X.env),(false,eval b X.env)]:=by rfl) (oN:starEach [b] X.env=[(false,eval b X.env)]:=by rfl):PI X (.Tuple t9 kk qQ) (.Call (.Name "zip" p) [a,b] [] pos) (abF K0 ta):=by
 intro ae s σ H R I h;apply Call_ (gh I hg hm hb (PyProof.Rows.callWith_type1 (bE (ha pos ae s σ H _ I h) λus s1 ⟨vs,H1,I1,r1,q1⟩=>?_) (by rw[hs,oN]) (by rw[oN];rfl)));let⟨x,y,e,⟨xs,Lj⟩,⟨ys,RL⟩,q⟩:=q1;subst e;cases r1 with
 |cons r rr =>
  cases rr with
  |cons r' rr =>
   cases rr
   cases r
   cases r'
   let⟨us,ru,pu,zu⟩:=I1.tuple Lj.k0;let⟨vs,rv,pv,zv⟩:=I1.tuple RL.k0;let a1:x<s1.heap.objs.size:=by let⟨_,e,_⟩:=(show s1.heap.IsTuple x us.toArray from pu);exact Zr e
   let a2:y<s1.heap.objs.size:=by let⟨_,e,_⟩:=(show s1.heap.IsTuple y vs.toArray from pv);exact Zr e
   apply Cf (show s1.heap.IsTuple x us.toArray from pu) (show s1.heap.IsTuple y vs.toArray from pv) λg z0 pI pO n1 n2 hk=>wpAny_pyIter_zip z0 ?_
   apply⟨s1.heap.objs.size+4,[s1.heap.objs.size+4,s1.heap.objs.size+2,s1.heap.objs.size+3,s1.heap.objs.size,s1.heap.objs.size+1],_,R9 K0 x y,H1,(),I1.kept (t':=s1.toks) hk,(E2 (K:=X.K) x y _ _ _ _ _ (zipApart_new a1 a2)).le QH,⟨z0,pI,⟨_,_,pO⟩,n1,n2⟩,λc hc=>?_,q⟩;let hge:s1.heap.objs.size<=c:=by
    simp only[Zk,Q5,or_false] at hc;rcases hc with h |h |h |h |h<;>rw[h]<;>first |exact Nat.le_add_right _ _ |exact Ze _
   exact I1.jC hge (I1.cc.fresh hge)
def gU (hc:X.calm=true)(h:vW X es t)(hn:(assignEach es X.env).length=n:=by rfl)(m4:(assignEach es X.env).findIdx? (·.1)=none:=by rfl):PG X (.Tuple es k pos) (N6 K0 n t) :=
 λae s σ H v u Q I r ⟨a,xs,e,hq,q⟩=>Po hc h hn m4 ae s σ H v u Q I r ⟨a,xs,e,hq.k0,q⟩
def Ps (hc:X.calm=true)(h:vW X es t)(hn:(assignEach es X.env).length=n:=by rfl)(m4:(assignEach es X.env).findIdx? (·.1)=none:=by rfl):PG X (.Tuple es k pos) (UE K0 n t) :=
 λae s σ H v u Q I r ⟨a,xs,e,hq,q⟩=>Pp hc h hn m4 ae s σ H v u Q I r ⟨a,xs,e,hq.k0,q⟩
def Rt.k0 {K:Θ1}(h:Rt K0 T x H):Rt K T x H:=by
 cases x with
 |ref p =>
  rcases h with ⟨e,xs,h⟩ |⟨e,o,hk,_⟩ |h |h
  .exact .inl ⟨e,xs,h.k0⟩
  .exact absurd hk (by show ¬ (none=some o);simp)
  .exact .inr (.inr (.inl h))
  .exact .inr (.inr (.inr h))
 |_=>exact h
variable {T id:String}
def VD (pa:PlainAttrs T)(slot:Slot T name id)(Ht:typeOf (.builtin id)=pure (.type "method_descriptor"))(hm:W4 X id r)(ho:PE X o to)(ha:PA X (e::es) t)
  (ut:attributeBase o name X.env (eval o X.env)=eval o X.env:=by rfl)
  (N4:((backTo jO (starEach (e::es) X.env)).all (λx=>!x.1)&&(backToKw jO (keywordEach [] X.env)).all (λx=>x.1.isSome)
   && decide ((e::es).length+([]:List Keyword).length+(if ([]:List Keyword).isEmpty then 0 else 1)<30))=true:=by rfl)
  (ur:(rq.endLine == jO.line)=true:=by rfl) (hs:starEach (e::es) X.env=(false,eval e X.env)::starEach es X.env:=by rfl) (xm:(backTo jO (starEach es X.env)).any (·.1)=false:=by rfl) :
  PE X (.Call (.Attribute o name rq) (e::es) [] jO) (tBM K0 T r to t):=by
 intro ae s σ H Q I h;apply wpAny_Call_method_late ut N4 ur rfl (bE (ho ae s σ H _ I h) λv s1 ⟨x,H1,I1,r1,ty,q1⟩=>?_);let⟨h1,h2⟩:=D5 I1 r1 ty.k0;apply⟨T,id,pa,slot,Ht,h1,h2,?_⟩;let hA:=ha jO ae s1 σ H1 _ I1 q1;rw[hs] at hA ⊢;exact Calls.callWith_builtin (by show(false||(backTo jO (starEach es X.env)).any (·.1))=false;rw[xm]<;>rfl) (Calls.evalArgs_plain (bE hA λus s2 ⟨vs,H2,I2,r2,q2⟩=>hm ae s2 σ H2 x vs v us Q I2 r1 r2 q2))
end
end L2
namespace L2
open PySem.Spec PyProof.Rows KG
section
end
end L2
namespace KM
open L2
end KM
namespace KM
open L2 KG EX
section
def ju {α : Type}(f:Nat->Bool)(v:Nat->α)(i:Nat):((List.range (i+1)).filter f).map v=((List.range i).filter f).map v++if f i=true then [v i] else []:=by
 rw[vH,Zs]
 congr 1
 split<;>simp_all
end
def ay {α : Type}{ls:List α}{i:Nat}{y d:α}(h:ls[i]?=some y):ls.getD i d=y:=by simp[List.getD,h]
def At (ns:Γ3)(x:Int):Hq (V.int x) (ns.map V.int)=ns.contains x:=by
 let h:Hq (V.int x) (ns.map V.int)=ns.any λh=>decide (h=x):=by
  unfold Hq;rw[X1]
  congr 1
 grind
section
variable {s:Γ3}
end
theorem SE:∀{l:Δ1},(∀q∈l,0<=q)->0<=bu l
 |[],_=>Yr
 |q::l,h=>by
  rw[AU];let h1:=h q Zi;let h2:=SE (l:=l) λz hz=>h z (Zj _ hz)
  exact Rat.add_nonneg h1 h2
def E7 (bv:l≠[])(h:∀q∈l,0<q):0<bu l:=by
 cases l with
 |nil=>exact absurd rfl bv
 |cons q l =>
  rw[AU];let h1:=h q Zi;let h2:=SE (l:=l) λz hz=>Zt (h z (Zj _ hz))
  generalize bu l=s at h2
  grind
def E6 (h:∀q∈qs,Rb k q)(hn:qs.length<=n):Rb (1+(k+1)*n) (bu qs):=by
 have:=sf h qs.length;rw[Yp] at this;exact this.mono (Nat.add_le_add_left (Nat.mul_le_mul_left _ hn) _)
end KM
namespace L2
open PySem.Spec PyProof.Rows
abbrev Ct (gk t1 i1 t2 i2:Expr)(f1 f2:Ξ2)(scope:Scope)(pos:Pos):Expr:=.ListComp gk [⟨t1,i1,f1,0⟩,⟨t2,i2,f2,0⟩] scope pos
def oJ (gk t1 i1 t2 i2:Expr)(f1 f2:Ξ2)(scope:Scope)(pos:Pos)(it acc:Value)(env:Env) :
  compTurn (Ct gk t1 i1 t2 i2 f1 f2 scope pos) 0 it acc env=(do
   standAt i1.pos
   match <- pyNext it with
   |none=>pure (.done .next)
   |some v =>
    letOwnedTupleGo t1 it v
    assign t1 env v
    let mut ok:=true
    for c in f1 do
     if ok then ok <- isTrue c env (eval c env)
    if ok then
     let x <- eval i2 env
     standAt i2.pos
     let x <- foldedSetIterable i2 env x;let _ <- runOwn (.compStart (Ct gk t1 i1 t2 i2 f1 f2 scope pos) 1 (<- holding [x] (pyIter x)) acc env) env
    again (.compLoop (Ct gk t1 i1 t2 i2 f1 f2 scope pos) 0 it acc env)):=by rfl
def l6 (gk t1 i1 t2 i2:Expr)(f1 f2:Ξ2)(scope:Scope)(pos:Pos)(it acc:Value)(env:Env) :
  compTurn (Ct gk t1 i1 t2 i2 f1 f2 scope pos) 1 it acc env=(do
   standAt i2.pos
   match <- pyNext it with
   |none=>pure (.done .next)
   |some v =>
    letOwnedTupleGo t2 it v
    assign t2 env v
    let mut ok:=true
    for c in f2 do
     if ok then ok <- isTrue c env (eval c env)
    if ok then
     (do let _ <- call (.builtin "list.append") [acc,<- eval gk env])
    again (.compLoop (Ct gk t1 i1 t2 i2 f1 f2 scope pos) 1 it acc env)):=by rfl
section
def jl3
  (h0:codeAny (model prog w) A (.compLoop (Ct gk t1 i1 t2 i2 f1 f2 scope pos) 1 it acc env) R s)
  (h:wpAny (model prog w) A (pyIter it) (λSF s'=>codeAny (model prog w) A (.compLoop (Ct gk t1 i1 t2 i2 f1 f2 scope pos) 1 SF acc env) R s')
   (notedBy (model prog w) A env λx s'=>R (.error x) s') s) :
  codeAny (model prog w) A (.compStart (Ct gk t1 i1 t2 i2 f1 f2 scope pos) 1 it acc env) R s:=by
 apply codeAny_of_tree ?_;show wpAny _ _ ((compStart (Ct gk t1 i1 t2 i2 f1 f2 scope pos) 1 it acc env).onRaise (λx=>do noteFrame x env;standAt theWindowsPlace)) _ _ s;apply wpAny_notedAt ?_;unfold compStart;show wpAny _ _ (ask >>= _) _ _ s;apply Za (wpAny_askSetting (wpAny_ite ?_));split
 .first
   |exact Za (wpAny_pure (wpAny_pure (And.intro rfl h0)))
   |exact wpAny_pure (And.intro rfl h0)
 .first
   |exact Za (wpAny_rule (Za (wpAny_standAt (Za (wpAny_mono h (λSF s' h'=>wpAny_pure (And.intro rfl h')) λ_ _ x=>x)))))
   |(apply Za (wpAny_rule ?_);show wpAny _ _ (standAt i2.pos >>= _) _ _ s;exact Za (wpAny_standAt (Za (wpAny_mono h (λSF s' h'=>wpAny_pure (And.intro rfl h')) λ_ _ x=>x))))
end
def Tv (g:TG)(tt:TT)(te:TE)(J:It)(acc:Addr)(au:St)(df:Hp)(Z:St->Hp->Prop):Prop :=
 ∃W:Nat->Nat->St->Hp->Prop,(∃m,W 0 m au df)/\∀i m aS H',W i m aS H' ->
  (J.stop i H'/\Z aS H') \/
  (J.go i H'/\∃N:St->Hp->Prop,(∀cz H2,N cz H2->∃m',m'<m/\W (i+1) m' cz H2)/\∀x H2,J.tu i H' x H2->g x aS H2 λgi H3=>tt gi H3 λb H4 =>
   if b=true then te gi H4 λy H5=>∃ys,H5 acc=some (.lst ys)/\ys.length<sizeLine/\N gi (aQ H5 acc (.lst (ys++[y]))) else N gi H4)
def zE (g1:TG)(CD:TT)(K1:TI)(g2:TG)(Cq:TT)(te:TE)(J:It)(acc:Addr)(au:St)(df:Hp)(Q:VK):Prop :=
 ∃W:Nat->Nat->St->Hp->Prop,(∃m,W 0 m au (aQ df acc (.lst [])))/\∀i m aS H',W i m aS H' ->
  (J.stop i H'/\Q (.ref acc) H') \/
  (J.go i H'/\∃N:St->Hp->Prop,(∀cz H2,N cz H2->∃m',m'<m/\W (i+1) m' cz H2)/\∀x H2,J.tu i H' x H2->g1 x aS H2 λgi H3=>CD gi H3 λb H4 =>
   if b=true then K1 gi H4 λJ2 H5=>Tv g2 Cq te J2 acc gi H5 N else N gi H4)
def D8 (wi:TI)(g1:TG)(CD:TT)(K1:TI)(g2:TG)(Cq:TT)(te:TE)(own:Nat)(ix:List Nat):TE:=λσ H Q=>wi σ H λJ H1=>∀acc,H1 acc=none->zE g1 CD K1 g2 Cq te J acc (dr own ix σ) H1 Q
section
variable {g2:TG}
def yx {RR:Value->Addr->Result->Shared->Prop}
  (B:aM X scope own cap ix) (hc:X.calm=true)
  (hb:∀C fp s H,PG (cP X scope C (own++cap) fp s H) t1 g1/\dj (cP X scope C (own++cap) fp s H) f1 CD/\PI (cP X scope C (own++cap) fp s H) t2 i2 K1/\PG (cP X scope C (own++cap) fp s H) t2 g2/\dj (cP X scope C (own++cap) fp s H) f2 Cq/\PE (cP X scope C (own++cap) fp s H) gk te)
  (oN:∀(env:Env) x,foldedSetIterable i2 env x=pure x)
  (I2:Inv X ae σ H2 s2) (T:Turn X.prog X.w X.K t1 J fp it tn) (fE:tn 0 s2.heap) (fk2:∀b∈fp,eQ X ae H2 b)
  (q:∀acc,H2 acc=none->zE g1 CD K1 g2 Cq te J acc (dr own.length ix σ) H2 Q)
  (HA:∀D C H' s' m,Inv X ae σ H' s'->Q (.ref D) H'->s'.heap.Ns C m->eQ X ae H' C->RR (.ref D) C (.ok .next) s') :
  wpAny (model X.prog X.w) X.A (newList []) (λacc iG=>wpAny (model X.prog X.w) X.A (newFunctionEnv scope X.env.globals (dH X.env scope.names []) [] X.env.qual none .none (some X.env)) (λj6 fZ =>
   codeAny (model X.prog X.w) X.A (.compStart (Ct gk t1 i1 t2 i2 f1 f2 scope pos) 0 (.ref it) acc { j6 with scope:=relabel scope X.env }) (RR acc j6.locals) fZ) E iG) E s2:=by
 apply wpAny_newObj_type (zk (CF:=λD σ H N=>K1 σ H λJ2 H5=>Tv g2 Cq te J2 D σ H5 N)
  (ST:=λenv D G=>wpAny (model X.prog X.w) X.A (eval i2 env) (λx fZ=>wpAny (model X.prog X.w) X.A (pyIter x) (λCQ m8=>codeAny (model X.prog X.w) X.A (.compStart (Ct gk t1 i1 t2 i2 f1 f2 scope pos) 1 CQ (.ref D) env) (λr wB=>r=.ok .next/\G wB) m8) (λ_ _=>False) fZ) (λ_ _=>False)) B hc
  (λC D=>mL (oJ ..) λG R E s h k=>Za (wpAny_mono h (λx fZ wF=>Za (wpAny_standAt (Za (wpAny_of_eq (oN _ x) (Za (wpAny_holding (wpAny_mono wF (λCQ m8 wE=>Za (wpAny_runOwn (codeAny_mono wE λr wB Dl=>?_))) λ_ _ h'=>h'.elim))))))) λ_ _ h'=>h'.elim))
  (λ_ _ _ _=>codeAny_compStart_list) (λC fp s H=>⟨(hb C fp s H).1,(hb C fp s H).2.1,λD P σ H' s' N G I q k=>?_⟩) I2 (I2.NZ (its:=[]) (ys:=[]) (t':=s2.toks) .nil (Z7 _)) T fE fk2 q HA)
 .obtain⟨rfl,Dl⟩:=Dl;exact wpAny_pure (k _ Dl)
 let⟨_,_,ZX,hg2,abP,he⟩:=hb C fp s H;apply bE (ZX _ s' σ H' _ I q) λv10 Ru WS=>bE WS λHo Wx S8=>?_
 let⟨CQ,fp2,tn2,J2,W6,WY,Nw,T2,Tx,UG,q2⟩:=S8;subst WY;let Mj:=Mh (X:=cP X scope C (own++cap) fp s H) (ce:=Ct gk t1 i1 t2 i2 f1 f2 scope pos) (lv:=1) (acc:=.ref D) (R:=λr wB=>r=.ok .next/\G wB) hc rfl (mL (l6 ..) λG R E s h k=>Za (Za (wpAny_mono h (λx fZ wF=>Za (wpAny_mono wF (λ_ m8 wE=>wpAny_pure (wpAny_pure (k _ wE))) λ_ _ h'=>h'.elim)) λ_ _ h'=>h'.elim))) hg2 abP (λP σ H s N G I q k=>Ax he rfl I q k) T2 Tx (λH' hn b gJ=>⟨hn b gJ,(UG b gJ).2⟩) (λb gJ=>(UG b gJ).1) Nw q2 λaS H' s' I' z=>⟨(),k _ _ _ I' z⟩
 exact jl3 Mj (T2.self _ 0 Wx _ _ Tx Mj)
def FC (B:aM X scope own cap ix)(hc:X.calm=true)(hi:PI X t1 i1 wi)
  (hb:∀C fp s H,PG (cP X scope C (own++cap) fp s H) t1 g1/\dj (cP X scope C (own++cap) fp s H) f1 CD/\PI (cP X scope C (own++cap) fp s H) t2 i2 K1/\PG (cP X scope C (own++cap) fp s H) t2 g2/\dj (cP X scope C (own++cap) fp s H) f2 Cq/\PE (cP X scope C (own++cap) fp s H) gk te)
  (hs:∀x,foldedSetIterable i1 X.env x=pure x:=by intro _;rfl) (oN:∀(env:Env) x,foldedSetIterable i2 env x=pure x:=by intro _ _;rfl):PE X (.ListComp gk [⟨t1,i1,f1,0⟩,⟨t2,i2,f2,0⟩] scope pos) (D8 wi g1 CD K1 g2 Cq te own.length ix):=by
 intro ae s σ H Q I h;rw[eval_ListComp];let has:∀x∈scope.names,x.2=.free->(X.env.cells.lookup x.1).isSome=true:=λx hx hk=>by
  let⟨c,e⟩:=I.ok.has x.1 (B.frees x hx hk);rw[e];rfl
 apply wpAny_comprehension_free (use:=none) rfl hs (RI has) B.kind B.names ?_;show wpAny _ _ (eval i1 X.env) _ _ s;apply bE (hi ae s σ H _ I h) λv s1 h1=>bE h1 λHo s2 h2=>?_
 let⟨it,fp,tn,J,H2,e,I2,T,fE,f2,q⟩:=h2;subst e;apply yx (RR:=λacc C=>compPost (model X.prog X.w) X.A X.xe none (EP X ae σ Q) acc C) B hc hb oN I2 T fE f2 q ?_;intro D C H' s' m I' q' hn fC;apply⟨m,hn,λh' tK=>⟨.ref D,H',?_,(),q'⟩⟩;exact I'.turned (t':=s'.toks) (it:=C) (λb o CY e=>(tK.2 b CY).trans e) fC.1 fC.2.1 fC.2.2.2.1 fC.2.2.2.2.1 fC.2.2.2.2.2
end
end L2
namespace L2
open PySem.Spec PyProof.Rows KG
section
end
end L2
namespace KM
open L2 KG EX
def HY (D:List (Δ1)):PyData:=.tuple (D.map λqs=>.tuple (qs.map qD))
end KM
namespace L2
open PySem.Spec PyProof.Rows KG
end L2
namespace KM
open L2 KG EX
theorem sn:∀{qs:Δ1},(∀q∈qs,Rb k q)->Rb (1+(k+1)*qs.length) (bu qs)
 |[],_=>sk
 |q::qs,h=>by
  let ih:=sn (qs:=qs) λz hz=>h z (Zj _ hz)
  rw[AU];have:=nD (h q Zi) ih;apply this.mono ?_;rw[Y2,Nat.mul_succ];omega
end KM
namespace PySem
end PySem
namespace L2
open PySem.Spec PyProof.Rows
section
end
end L2
namespace KM
open L2 KG EX
theorem uG:∀(a b:Δ1),bu (a++b)=bu a+bu b
 |[],b=>by rw[List.nil_append];show _=(0:Rat)+_;rw[Yw]
 |q::a,b=>by rw[List.cons_append,AU,AU,uG a b,Rat.add_assoc]
end KM
namespace EX
open PySem.Spec PyProof.Rows
section
end
end EX
namespace L2
open PySem.Spec PyProof.Rows EX
section
end
end L2
namespace PySem
section
end
end PySem
namespace L2
open PySem.Spec PyProof.Rows
section
end
end L2
namespace L2
open PySem.Spec PyProof.Rows KG
section
end
end L2
namespace KM
open L2 KG EX
def Pk (h:Rb k b):Rb k (-b):=by
 let⟨h1,h2⟩:=h;unfold Bd at h1 h2;apply⟨?_,?_⟩
 .unfold Bd;rw[Rat.neg_num,Int.natAbs_neg];exact h1
 .unfold Bd;rw[Rat.neg_den];exact h2
def Ei (ha:Rb j a)(hb:Rb k b):Rb (j+k+1) (a-b):=by
 rw[Q4];exact nD ha (Pk hb)
end KM
namespace PySem
section
end
end PySem
namespace L2
open PySem.Spec PyProof.Rows
section
end
end L2
namespace KM
open L2 KG EX
end KM
namespace MI
open L2 KG EX KM
mutual
inductive ci (H:Hp):V->PyData->Prop
 |cg:ci H .cg .none
 |bl (c:Bool):ci H (.bl c) (.bool c)
 |int (i:Int):ci H (.int i) (.int i)
 |str (x:Str) (ok:(PyData.str x).canLay0=true):ci H (.str x) (.str x)
 |lst {a:Addr}{xs:List V}{ds:Ξ1}:H a=some (.lst xs)->aH H xs ds->ci H (.ref a) (.list ds)
 |tup {a:Addr}{xs:List V}{ds:Ξ1}:H a=some (.tup xs)->aH H xs ds->ci H (.ref a) (.tuple ds)
inductive aH (H:Hp):List V->Ξ1->Prop
 |nil:aH H [] []
 |cons {x:V}{xs:List V}{d:PyData}{ds:Ξ1}:ci H x d->aH H xs ds->aH H (x::xs) (d::ds)
end
mutual
theorem ci.ak (k:aw H H'):∀{v:V}{d:PyData},ci H v d->ci H' v d
 |_,_,.cg=>.cg
 |_,_,.bl c=>.bl c
 |_,_,.int i=>.int i
 |_,_,.str x o=>.str x o
 |_,_,.lst h t=>.lst (k _ _ h) (aH.ak k t)
 |_,_,.tup h t=>.tup (k _ _ h) (aH.ak k t)
theorem aH.ak (k:aw H H'):∀{vs:List V}{ds:Ξ1},aH H vs ds->aH H' vs ds
 |_,_,.nil=>.nil
 |_,_,.cons h t=>.cons (ci.ak k h) (aH.ak k t)
end
mutual
theorem ci.dt:∀{v:V}{d:PyData},ci H v d->l9 K H v d
 |_,_,.cg=>.cg
 |_,_,.bl c=>.bl c
 |_,_,.int i=>.int i
 |_,_,.str x o=>.str x o
 |_,_,.lst h t=>.lst (bG.of h) (aH.dt t)
 |_,_,.tup h t=>.tup (aK.of h) (aH.dt t)
theorem aH.dt {K:Θ1}{H:Hp}:∀{vs:List V}{ds:Ξ1},aH H vs ds->fe K H vs ds
 |_,_,.nil=>.nil
 |_,_,.cons h t=>.cons (ci.dt h) (aH.dt t)
end
theorem aH.len:∀{vs:List V}{ds:Ξ1},aH H vs ds->vs.length=ds.length
 |_,_,.nil=>rfl
 |_,_,.cons _ t=>by simp[aH.len t]
theorem aH.app:∀{vs ws:List V}{ds es:Ξ1},aH H vs ds->aH H ws es->aH H (vs++ws) (ds++es)
 |_,_,_,_,.nil,g=>g
 |_,_,_,_,.cons h t,g=>.cons h (aH.app t g)
theorem aH.take:∀{vs:List V}{ds:Ξ1}(n:Nat),aH H vs ds->aH H (vs.take n) (ds.take n)
 |_,_,0,_=>by simpa using aH.nil
 |_,_,n+1,.nil=>by simpa using aH.nil
 |_,_,n+1,.cons h t=>.cons h (aH.take n t)
theorem aH.drop:∀{vs:List V}{ds:Ξ1}(n:Nat),aH H vs ds->aH H (vs.drop n) (ds.drop n)
 |_,_,0,h=>h
 |_,_,n+1,.nil=>by simpa using aH.nil
 |_,_,n+1,.cons h t=>aH.drop n t
theorem aH.at:∀{vs:List V}{ds:Ξ1}{i:Nat}{x:V},aH H vs ds->vs[i]?=some x->∃d,ds[i]?=some d/\ci H x d
 |_,_,0,_,.cons h t,e=>⟨_,(),by rw[<- Option.some.inj e];exact h⟩
 |_,_,i+1,x,.cons h t,e=>by
  let⟨d,h1,h2⟩:=aH.at (i:=i) (x:=x) t (by simpa using e);exact⟨d,by simpa using h1,h2⟩
theorem aH.get:∀{vs:List V}{ds:Ξ1}{i:Nat}{d:PyData},aH H vs ds->ds[i]?=some d->∃x,vs[i]?=some x/\ci H x d
 |_,_,0,_,.cons h t,e=>⟨_,(),by rw[<- Option.some.inj e];exact h⟩
 |_,_,i+1,x,.cons h t,e=>by
  let⟨d,h1,h2⟩:=aH.get (i:=i) (d:=x) t (by simpa using e);exact⟨d,by simpa using h1,h2⟩
mutual
def Cs:PyData->Bool
 |.list _=>false
 |.dict _=>false
 |.tuple ds=>qZ ds
 |_=>true
def qZ:Ξ1->Bool
 |[]=>true
 |d::ds=>Cs d&&qZ ds
end
mutual
theorem mh (k:∀a xs,H a=some (.tup xs)->g a=some (.tup xs)):∀{v:V}{d:PyData},Cs d=true->fH b H v d->ci g v d
 |_,_,_,.cg=>.cg
 |_,_,_,.bl c=>.bl c
 |_,_,_,.int i=>.int i
 |_,_,_,.str x o=>.str x o
 |_,_,n,.lst _ h t=>by cases n
 |_,_,n,.tup h t=>.tup (k _ _ h) (pW k n t)
theorem pW {b:Addr}{H g:Hp}(k:∀a xs,H a=some (.tup xs)->g a=some (.tup xs)):∀{vs:List V}{ds:Ξ1},qZ ds=true->cf b H vs ds->aH g vs ds
 |_,_,_,.nil=>.nil
 |_,_,n,.cons h t=>by
  let n':=(Z8 _ _).mp n;exact .cons (mh k n'.1 h) (pW k n'.2 t)
end
mutual
theorem ci.Sg:∀{v:V}{d:PyData},Cs d=true->ci H v d->fH b H v d
 |_,_,_,.cg=>.cg
 |_,_,_,.bl c=>.bl c
 |_,_,_,.int i=>.int i
 |_,_,_,.str x o=>.str x o
 |_,_,n,.lst h t=>by cases n
 |_,_,n,.tup h t=>.tup h (aH.Sg n t)
theorem aH.Sg {b:Addr}{H:Hp}:∀{vs:List V}{ds:Ξ1},qZ ds=true->aH H vs ds->cf b H vs ds
 |_,_,_,.nil=>.nil
 |_,_,n,.cons h t=>by
  let n':=(Z8 _ _).mp n;exact .cons (ci.Sg n'.1 h) (aH.Sg n'.2 t)
end
inductive AV where
 |im (d:PyData) |own (k:Nat) |bag (j:Nat) |tE (ns:Γ3) |vU (k:Nat)
abbrev Φ9(d:PyData):Option AV:=some (.im d)
abbrev bF:=List (Option (List AV))
abbrev j5:=List (Option AV)
structure Wd where
 di:List Addr
 bK:List Addr
 bM:List (Addr×HO)
 iE:List Nat
def jx (w:Wd)(O:bF)(a:Addr):Prop:=a∈w.di\/(∃o,(a,o)∈w.bM)\/∃(k:Nat) (c:List AV),w.bK[k]?=some a/\O[k]?=some (some c)
open Classical in
def G (w:Wd)(O:bF)(H:Hp):Hp:=λa=>if jx w O a then none else H a
def gQ (h:¬ jx w O a):G w O H a=H a:=if_neg h
def fc (h:G w O H a=some o):H a=some o/\¬ jx w O a:=by
 unfold G at h
 grind
def jy (K:Θ1)(w:Wd)(g:Hp)(v:V):AV->Prop
 |.im d=>ci g v d
 |.own k=>∃a,w.bK[k]?=some a/\k∉w.iE/\v=.ref a
 |.vU k=>∃a,w.bK[k]?=some a/\k∈w.iE/\v=.ref a
 |.bag j=>∃a,w.di[j]?=some a/\v=.ref a
 |.tE ns=>∃a,v=.ref a/\bG K g a (ns.map V.int)
def bi (K:Θ1)(w:Wd)(g:Hp)(vs:List V)(xs:List AV):Prop:=vs.length=xs.length/\∀(i:Nat) v x,vs[i]?=some v->xs[i]?=some x->jy K w g v x
def pairD (p:Int×PyData):AV:=.im (.tuple [.int p.1,p.2])
inductive tj (g:Hp):List (dE×V)->List AV->Prop
 |nil:tj g [] []
 |cons {n:Int}{v:V}{d:PyData}{kvs:List (dE×V)}{c:List AV}:ci g v d->tj g kvs c->tj g ((Sum.inl n,v)::kvs) (pairD (n,d)::c)
def rz (K:Θ1)(w:Wd)(g:Hp)(k:Nat)(o:HO)(c:List AV):Prop:=k<w.bK.length/\((k∉w.iE/\∃vs,o=.lst vs/\bi K w g vs c)\/(k∈w.iE/\∃kvs,o=.dK kvs/\tj g kvs c))
structure aF (K:Θ1)(w:Wd)(O:bF)(H:Hp):Prop where
 len:w.bK.length=O.length
 nd:w.bK.Nodup
 al:∀a∈w.bK,∃o,H a=some o
 nb:∀a∈w.di,a∉w.bK
 hn:(w.bM.map (·.1)).Nodup
 nh:∀p∈w.bM,p.1∉w.bK/\p.1∉w.di/\H p.1=some p.2/\∀xs,p.2≠.tup xs
 bg:∀a∈w.di,tq H a
 vV:∀(k:Nat) c,O[k]?=some (some c)->∃a o,w.bK[k]?=some a/\H a=some o/\rz K w (G w O H) k o c
 dl:∀k∈w.iE,k<O.length
structure jc (w:Wd)(O:bF)(H:Hp)(w':Wd)(O':bF)(H':Hp):Prop where
 bs:∃t,w'.di=w.di++t
 bK:∃t,w'.bK=w.bK++t
 hs:∃t,w'.bM=t++w.bM
 ak:aw (G w O H) (G w' O' H')
 dk:∀k,k<w.bK.length->(k∈w'.iE↔k∈w.iE)
structure cr (w:Wd)(O:bF)(H:Hp)(w':Wd)(O':bF)(H':Hp):Prop where
 ex:jc w O H w' O' H'
 bM:w'.bM=w.bM
def jc.refl (w:Wd)(O:bF)(H:Hp):jc w O H w O H:=⟨⟨[],by simp⟩,⟨[],by simp⟩,⟨[],by simp⟩,aw.refl _,λ_ _=>Iff.rfl⟩
def jc.trans (a:jc w O H w1 O1 H1)(b:jc w1 O1 H1 w2 O2 H2):jc w O H w2 O2 H2:=by
 let⟨t,ht⟩:=a.bK;let⟨u,hu⟩:=b.bK;let⟨t',ht'⟩:=a.hs;let⟨u',ZF⟩:=b.hs;let⟨t2,M8⟩:=a.bs;let⟨u2,ZE⟩:=b.bs;exact⟨⟨t2++u2,by rw[ZE,M8,Ys]⟩,⟨t++u,by rw[hu,ht,Ys]⟩,⟨u'++t',by rw[ZF,ht',Ys]⟩,a.ak.trans b.ak,λk hk=>(b.dk k (by rw[ht,Zu];omega)).trans (a.dk k hk)⟩
def cr.refl (w:Wd)(O:bF)(H:Hp):cr w O H w O H:=⟨jc.refl _ _ _,()⟩
def cr.trans (a:cr w O H w1 O1 H1)(b:cr w1 O1 H1 w2 O2 H2):cr w O H w2 O2 H2:=⟨a.ex.trans b.ex,b.bM.trans a.bM⟩
def jc.at (e:jc w O H w1 O1 H1){k:Nat}(h:w.bK[k]?=some a):w1.bK[k]?=some a:=by
 let⟨t,ht⟩:=e.bK;rw[ht,Zq (Zf.mp h).1];exact h
theorem jy.ex {H H1:Hp}(e:jc w O H w1 O1 H1):∀{x:AV},jy K w (G w O H) v x->jy K w1 (G w1 O1 H1) v x
 |.im d,h=>by
  exact ci.ak e.ak h
 |.own k,h=>by
  let⟨a,h1,h2,h3⟩:=h;exact⟨a,e.at h1,λz=>h2 ((e.dk k (Zf.mp h1).1).mp z),h3⟩
 |.vU k,h=>by
  let⟨a,h1,h2,h3⟩:=h;exact⟨a,e.at h1,(e.dk k (Zf.mp h1).1).mpr h2,h3⟩
 |.bag j,h=>by
  let⟨a,h1,h2⟩:=h;let⟨t,ht⟩:=e.bs;exact⟨a,by rw[ht,Zq (Zf.mp h1).1];exact h1,h2⟩
 |.tE ns,h=>by
  let⟨a,h1,h2⟩:=h;exact⟨a,h1,KG.bG.ak h2 e.ak⟩
def bi.ex (e:jc w O H w1 O1 H1)(h:bi K w (G w O H) vs xs):bi K w1 (G w1 O1 H1) vs xs:=⟨h.1,λi v x h1 h2=>(h.2 i v x h1 h2).ex e⟩
def tj.ak (s:aw g g')(h:tj g kvs c):tj g' kvs c:=by
 induction h with
 |nil=>exact .nil
 |cons t _ ih=>exact .cons (ci.ak s t) ih
def rz.ex (e:jc w O H w1 O1 H1)(h:rz K w (G w O H) k o c):rz K w1 (G w1 O1 H1) k o c:=by
 let⟨hk,h⟩:=h;apply⟨by let⟨t,ht⟩:=e.bK;rw[ht,Zu];omega,?_⟩;rcases h with ⟨h1,vs,h2,h3⟩ |⟨h1,kvs,h2,h3⟩
 .exact .inl ⟨λz=>h1 ((e.dk k hk).mp z),vs,h2,h3.ex e⟩
 .exact .inr ⟨(e.dk k hk).mpr h1,kvs,h2,h3.ak e.ak⟩
def aF.pe (r:aF K w O H)(hn:k∉w.iE)(h:O[k]?=some (some c)):∃a vs,w.bK[k]?=some a/\H a=some (.lst vs)/\bi K w (G w O H) vs c:=by
 let⟨a,o,h1,h2,_,h3⟩:=r.vV k c h;rcases h3 with ⟨_,vs,rfl,h4⟩ |⟨h4,_⟩
 .exact⟨a,vs,h1,h2,h4⟩
 .exact absurd h4 hn
def aF.UK (r:aF K w O H)(hn:k∈w.iE)(h:O[k]?=some (some c)):∃a kvs,w.bK[k]?=some a/\H a=some (.dK kvs)/\tj (G w O H) kvs c:=by
 let⟨a,o,h1,h2,_,h3⟩:=r.vV k c h;rcases h3 with ⟨h4,_⟩ |⟨_,kvs,rfl,h4⟩
 .exact absurd hn h4
 .exact⟨a,kvs,h1,h2,h4⟩
def bi.nil:bi K w g [] []:=⟨(),λi v x h=>by simp at h⟩
def bi.cons {K:Θ1}{w:Wd}{g:Hp}{v:V}{x:AV}{vs:List V}{xs:List AV}(h:jy K w g v x)(hs:bi K w g vs xs):bi K w g (v::vs) (x::xs):=by
 apply⟨by simp[hs.1],λi u y h1 h2=>?_⟩;cases i with
 |zero=>simp at h1 h2;rw[<- h1,<- h2];exact h
 |succ i=>exact hs.2 i u y (by simpa using h1) (by simpa using h2)
def bi.aW (h:bi K w g vs (x::xs)):∃v us,vs=v::us/\jy K w g v x/\bi K w g us xs:=by
 cases vs with
 |nil=>exact absurd h.1 (by simp)
 |cons v us =>
  apply⟨v,us,(),h.2 0 v x rfl rfl,by have:=h.1;simp at this;exact this,λi u y h1 h2=>h.2 (i+1) u y (by simpa using h1) (by simpa using h2)⟩
def bi.cj (h:bi K w g vs []):vs=[]:=Jd.mp h.1
def bi.app (h:bi K w g vs xs)(h':bi K w g us ys):bi K w g (vs++us) (xs++ys):=by
 apply⟨by simp[h.1,h'.1],λi v x h1 h2=>?_⟩;rcases Z2 i vs.length with y |y
 .rw[Zq y] at h1;rw[Zq (by rw[<- h.1];exact y)] at h2;exact h.2 i v x h1 h2
 .rw[Yh y] at h1;rw[Yh (by rw[<- h.1];exact y)] at h2;rw[<- h.1] at h2;exact h'.2 _ v x h1 h2
def bi.set (h:bi K w g vs xs)(hx:jy K w g v x)(j:Nat):bi K w g (vs.set j v) (xs.set j x):=by
 apply⟨by simp[h.1],λi u y h1 h2=>?_⟩;by_cases e:j=i
 .subst e;let hl:=(Zf.mp h1).1;rw[Yo] at hl;rw[Yk hl] at h1;rw[Yk (by rw[<- h.1];exact hl)] at h2;rw[<- Option.some.inj h1,<- Option.some.inj h2];exact hx
 .rw[Ya e] at h1 h2;exact h.2 i u y h1 h2
def bi.at {i:Nat}(h:bi K w g vs xs)(hx:xs[i]?=some x):∃v,vs[i]?=some v/\jy K w g v x:=by
 let hl:=(Zf.mp hx).1;let hv:i<vs.length:=by rw[h.1];exact hl
 exact⟨vs[i],Zc hv,h.2 i _ x (Zc hv) hx⟩
theorem aH.W2:∀{vs:List V}{ds:Ξ1},aH g vs ds->bi K w g vs (ds.map .im)
 |_,_,.nil=>bi.nil
 |_,_,.cons h t=>bi.cons h (aH.W2 t)
theorem bi.tr:∀{ds:Ξ1}{vs:List V},bi K w g vs (ds.map .im)->aH g vs ds
 |[],_,h=>by rw[bi.cj h];exact .nil
 |d::ds,_,h=>by
  let⟨v,us,rfl,h1,h2⟩:=bi.aW h;exact .cons h1 (bi.tr h2)
def bw (K:Θ1)(w:Wd)(g:Hp)(σ:St)(sl:j5):Prop:=σ.length=sl.length/\∀(i:Nat) x,sl[i]?=some (some x)->∃v,σ[i]?=some (some v)/\jy K w g v x
def bw.ex (e:jc w O H w1 O1 H1)(h:bw K w (G w O H) σ sl):bw K w1 (G w1 O1 H1) σ sl :=
 ⟨h.1,λi x hx=>by let⟨v,h1,h2⟩:=h.2 i x hx;exact⟨v,h1,h2.ex e⟩⟩
def bw.set (h:bw K w g σ sl)(hx:jy K w g v x)(j:Nat):bw K w g (σ.set j (some v)) (sl.set j (some x)):=by
 apply⟨by simp[h.1],λi y h2=>?_⟩;by_cases e:j=i
 .subst e;let hl:=(Zf.mp h2).1;rw[Yo] at hl;rw[Yk hl] at h2;let hy:x=y:=by injection (Option.some.inj h2)
  exact⟨v,by rw[Yk (by rw[h.1];exact hl)],hy▸hx⟩
 .rw[Ya e] at h2;rw[Ya e];exact h.2 i y h2
def c8 (own:Nat)(ix:List Nat)(sl:j5):j5:=List.replicate own none++ix.map λi=>(sl[i]?).getD none
def bw.W1 (h:bw K w g σ sl)(own:Nat)(ix:List Nat):bw K w g (dr own ix σ) (c8 own ix sl):=by
 apply⟨by simp[dr,c8],λi x hx=>?_⟩;unfold c8 at hx;unfold dr;rcases Z2 i own with y |y
 .rw[Zq (by simpa using y)] at hx;rw[Y7,if_pos y] at hx;cases Option.some.inj hx
 .rw[Yh (by simpa using y)] at hx ⊢;rw[Qn,Zo] at hx ⊢;cases hj:ix[i-own]? with
  |none=>rw[hj] at hx;cases hx
  |some j =>
   rw[hj] at hx;let vS:(sl[j]?).getD none=some x:=Option.some.inj hx;have:sl[j]?=some (some x):=by
    cases hs:sl[j]? with
    |none=>rw[hs] at vS;cases vS
    |some o=>rw[hs] at vS;exact congrArg some vS
   let⟨v,h1,h2⟩:=h.2 j x this;apply⟨v,?_,h2⟩;show some ((σ[j]?).getD none)=_;rw[h1];rfl
def Zx (K:Θ1)(QX:Addr->bF->Prop)(E:XK)(w:Wd)(O:bF)(H:Hp):Prop:=∀c O' w' H',QX c O'->jc w O H w' O' H'->aF K w' O' H'->E (.ref c) none H'
structure j2 (K:Θ1)(QX:Addr->bF->Prop)(E:XK)(w:Wd)(O:bF)(H:Hp)(σ:St)(sl:j5):Prop where
 ro:aF K w O H
 so:bw K w (G w O H) σ sl
 zx:Zx K QX E w O H
def j2.ex (c:j2 K QX E w O H σ sl)(e:jc w O H w1 O1 H1)(r:aF K w1 O1 H1):j2 K QX E w1 O1 H1 σ sl :=
 ⟨r,c.so.ex e,λk O' w' H' q e' r'=>c.zx k O' w' H' q (e.trans e') r'⟩
abbrev ME:=j5->bF->(AV->bF->Prop)->Prop
abbrev MT:=j5->bF->(Bool->bF->Prop)->Prop
abbrev MA:=j5->bF->(List AV->bF->Prop)->Prop
structure uA where
 nx:j5->bF->Prop
 rt:AV->bF->Prop
 bk:j5->bF->Prop:=λ_ _=>False
 ct:j5->bF->Prop:=λ_ _=>False
abbrev MS:=uA->j5->bF->Prop
section
variable (K:Θ1)(QX:Addr->bF->Prop)(E:XK)
def bR (M:ME):TE:=λσ H Q=>∃w O sl Q0,j2 K QX E w O H σ sl/\M sl O Q0/\∀x O' v w' H',Q0 x O'->cr w O H w' O' H'->aF K w' O' H'->jy K w' (G w' O' H') v x->Q v H'
def iB (M:MT):TT:=λσ H Q=>∃w O sl Q0,j2 K QX E w O H σ sl/\M sl O Q0/\∀c O' w' H',Q0 c O'->cr w O H w' O' H'->aF K w' O' H'->Q c H'
def vO (M:MA):TA:=λσ H Q=>∃w O sl Q0,j2 K QX E w O H σ sl/\M sl O Q0/\∀xs O' vs w' H',Q0 xs O'->cr w O H w' O' H'->aF K w' O' H'->bi K w' (G w' O' H') vs xs->Q vs H'
def jK (M:MS):TS:=λD σ H=>∃w O sl D0,j2 K QX E w O H σ sl/\M D0 sl O /\
 (∀dJ O' w' H' aS,D0.nx dJ O'->j2 K QX E w' O' H' aS dJ->cr w O H w' O' H'->D.nx aS H') /\
 (∀dJ O' w' H' aS,D0.bk dJ O'->j2 K QX E w' O' H' aS dJ->cr w O H w' O' H'->D.bk aS H') /\
 (∀dJ O' w' H' aS,D0.ct dJ O'->j2 K QX E w' O' H' aS dJ->cr w O H w' O' H'->D.ct aS H') /\
 (∀x O' w' H' v,D0.rt x O'->cr w O H w' O' H'->aF K w' O' H'->jy K w' (G w' O' H') v x->D.rt v H')
end
section
def aF.all (r:aF K w O H)(h:jx w O a):∃o,H a=some o:=by
 rcases h with h1 |⟨o,h1⟩ |⟨k,c,h1,h2⟩
 .obtain⟨c,d,e⟩:=r.bg _ h1;exact⟨_,e⟩
 .exact⟨_,(r.nh _ h1).2.2.1⟩
 .obtain⟨a',vs,e1,e2,_⟩:=r.vV k c h2;rw[h1] at e1;cases Option.some.inj e1;exact⟨_,e2⟩
def aF.fresh (r:aF K w O H)(h:H a=none):¬ jx w O a:=λz=>by let⟨o,e⟩:=r.all z;rw[h] at e;cases e
def aF.ak (r:aF K w O H)(s:aw H H'):aF K w O H'/\cr w O H w O H'/\∀a o,H a=none->H' a=some o->G w O H' a=some o:=by
 let sg:aw (G w O H) (G w O H'):=λa o h=>by
  let⟨h1,h2⟩:=fc h;rw[gQ h2];exact s _ _ h1
 let e:cr w O H w O H':=⟨⟨⟨[],by simp⟩,⟨[],by simp⟩,⟨[],by simp⟩,sg,λ_ _=>Iff.rfl⟩,()⟩;apply⟨⟨r.len,r.nd,λa ha=>(let ⟨o,h⟩:=r.al a ha;⟨o,s _ _ h⟩),r.nb,r.hn,λp hp=>⟨(r.nh p hp).1,(r.nh p hp).2.1,s _ _ (r.nh p hp).2.2.1,(r.nh p hp).2.2.2⟩,λa ha=>tq.ak (r.bg a ha) s,λk c hk=>?_,r.dl⟩,e,λa o h1 h2=>?_⟩
 .obtain⟨a,vs,h1,h2,h3⟩:=r.vV k c hk;exact⟨a,vs,h1,s _ _ h2,h3.ex e.ex⟩
 .rw[gQ (r.fresh h1)];exact h2
def aF.draw (r:aF K w O H)(hb:b∈w.di)(k:Kp b H H')(hB:tq H' b):aF K w O H'/\cr w O H w O H'/\∀a o,H a=none->H' a=some o->G w O H' a=some o:=by
 let sg:aw (G w O H) (G w O H'):=λa o h=>by
  let⟨h1,h2⟩:=fc h;rw[gQ h2];exact k _ _ (λz=>h2 (Or.inl (z▸hb))) h1
 let e:cr w O H w O H':=⟨⟨⟨[],by simp⟩,⟨[],by simp⟩,⟨[],by simp⟩,sg,λ_ _=>Iff.rfl⟩,()⟩;apply⟨⟨r.len,r.nd,λa ha=>(let ⟨o,h⟩:=r.al a ha;⟨o,k _ _ (λz=>r.nb b hb (z▸ha)) h⟩),r.nb,r.hn,λp hp=>⟨(r.nh p hp).1,(r.nh p hp).2.1,k _ _ (λz=>(r.nh p hp).2.1 (z▸hb)) (r.nh p hp).2.2.1,(r.nh p hp).2.2.2⟩,λa ha=>?_,λj c hk=>?_,r.dl⟩,e,λa o h1 h2=>?_⟩
 .by_cases z:a=b
  .rw[z];exact hB
  .obtain⟨x,y,q⟩:=r.bg a ha;exact⟨x,y,k _ _ z q⟩
 .obtain⟨a,vs,h1,h2,h3⟩:=r.vV j c hk;exact⟨a,vs,h1,k _ _ (λz=>r.nb b hb (z▸Z0 h1)) h2,h3.ex e.ex⟩
 .rw[gQ (r.fresh h1)];exact h2
def aF.bag (r:aF K w O H)(hp:H p=none):aF K { w with di:=w.di++[p] } O (aQ H p (.lst [.int x,.int y]))/\cr w O H { w with di:=w.di++[p] } O (aQ H p (.lst [.int x,.int y])):=by
 let kW:∀a,jx { w with di:=w.di++[p] } O a->jx w O a\/a=p:=λa h=>by
  rcases h with h |h
  .rcases Zw.mp h with h |h
   .exact .inl (.inl h)
   .exact .inr (Zy.mp h)
  .exact .inl (.inr h)
 let sg:aw (G w O H) (G { w with di:=w.di++[p] } O (aQ H p (.lst [.int x,.int y]))):=λa o h=>by
  let⟨h1,h2⟩:=fc h;let bv:a≠p:=λz=>by rw[z,hp] at h1;cases h1
  rw[gQ (λz=>(kW a z).elim h2 bv),dg bv];exact h1
 let e:cr w O H { w with di:=w.di++[p] } O (aQ H p (.lst [.int x,.int y])):=⟨⟨⟨[p],rfl⟩,⟨[],by simp⟩,⟨[],by simp⟩,sg,λ_ _=>Iff.rfl⟩,rfl⟩;let Sz:p∉w.bK:=λz=>by let⟨u,h⟩:=r.al p z;rw[hp] at h;cases h
 apply⟨⟨r.len,r.nd,λa ha=>?_,λa ha=>?_,r.hn,λq hq=>?_,λa ha=>?_,λk c hk=>?_,r.dl⟩,e⟩
 .obtain⟨u,h⟩:=r.al a ha;let bv:a≠p:=λz=>Sz (z▸ha)
  exact⟨u,by rw[dg bv];exact h⟩
 .rcases Zw.mp ha with h |h
  .exact r.nb a h
  .rw[Zy.mp h];exact Sz
 .obtain⟨h1,h2,h3,h4⟩:=r.nh q hq;let bv:q.1≠p:=λz=>by rw[z,hp] at h3;cases h3
  apply⟨h1,λz=>?_,by rw[dg bv];exact h3,h4⟩;rcases Zw.mp z with h |h
  .exact h2 h
  .exact bv (Zy.mp h)
 .rcases Zw.mp ha with h |h
  .exact(r.bg a h).new hp
  .rw[Zy.mp h];exact⟨x,y,dU⟩
 .obtain⟨a',vs,h1,h2,h3⟩:=r.vV k c hk;let bv:a'≠p:=λz=>by rw[z,hp] at h2;cases h2
  exact⟨a',vs,h1,by rw[dg bv];exact h2,h3.ex e.ex⟩
def aF.new (r:aF K w O H)(hp:H p=none):aF K w O (aQ H p o)/\cr w O H w O (aQ H p o)/\G w O (aQ H p o) p=some o:=by
 let⟨h1,h2,h3⟩:=r.ak ((aw.refl H).new (o:=o) hp);exact⟨h1,h2,h3 p o hp dU⟩
def jx.set (hk:O[k]?=some (some c)):jx w (O.set k (some c')) a↔jx w O a:=by
 let hl:=(Zf.mp hk).1;unfold jx;constructor
 .rintro(h |h |⟨j,d,h1,h2⟩)
  .exact .inl h
  .exact .inr (.inl h)
  .by_cases e:k=j
   .subst e;exact .inr (.inr ⟨k,c,h1,hk⟩)
   .rw[Ya e] at h2;exact .inr (.inr ⟨j,d,h1,h2⟩)
 .rintro(h |h |⟨j,d,h1,h2⟩)
  .exact .inl h
  .exact .inr (.inl h)
  .by_cases e:k=j
   .subst e;exact .inr (.inr ⟨k,c',h1,Yk hl⟩)
   .exact .inr (.inr ⟨j,d,h1,by rw[Ya e];exact h2⟩)
def aF.put (r:aF K w O H)(hk:O[k]?=some (some c))(hn:k∉w.iE)(ha:w.bK[k]?=some a)(hv:H a=some (.lst vs))(hc:bi K w (G w O H) vX c') :
  aF K w (O.set k (some c')) (aQ H a (.lst vX))/\cr w O H w (O.set k (some c')) (aQ H a (.lst vX)):=by
 let hl:=(Zf.mp hk).1;let N3:jx w O a:=.inr (.inr ⟨k,c,ha,hk⟩);let sg:aw (G w O H) (G w (O.set k (some c')) (aQ H a (.lst vX))):=λx o h=>by
  let⟨h1,h2⟩:=fc h;let bv:x≠a:=λz=>h2 (z▸N3)
  rw[gQ (λz=>h2 ((jx.set hk).mp z)),dg bv];exact h1
 let e:cr w O H w (O.set k (some c')) (aQ H a (.lst vX)):=⟨⟨⟨[],by simp⟩,⟨[],by simp⟩,⟨[],by simp⟩,sg,λ_ _=>Iff.rfl⟩,()⟩;apply⟨⟨by rw[Yo];exact r.len,r.nd,λx hx=>?_,r.nb,r.hn,λp hp=>?_,λb hb=>?_,λj d hj=>?_,λj hj=>by rw[Yo];exact r.dl j hj⟩,e⟩
 .obtain⟨o,h⟩:=r.al x hx;by_cases z:x=a
  .subst z;exact⟨_,dU⟩
  .exact⟨o,by rw[dg z];exact h⟩
 .obtain⟨h1,h2,h3,h4⟩:=r.nh p hp;let bv:p.1≠a:=λz=>h1 (z▸Z0 ha)
  exact⟨h1,h2,by rw[dg bv];exact h3,h4⟩
 .exact(r.bg b hb).acc (λz=>r.nb b hb (z▸Z0 ha))
 .by_cases ej:k=j
  .subst ej;rw[Yk hl] at hj;let hd:c'=d:=by injection (Option.some.inj hj)
   subst hd;exact⟨a,_,ha,dU,(Zf.mp ha).1,.inl ⟨hn,vX,(),hc.ex e.ex⟩⟩
  .rw[Ya ej] at hj;let⟨a',us,h1,h2,h3⟩:=r.vV j d hj;let bv:a'≠a:=λz=>by
    subst z;exact ej ((List.getElem?_inj (Zf.mp ha).1 r.nd).mp (ha.trans h1.symm))
   exact⟨a',us,h1,by rw[dg bv];exact h2,h3.ex e.ex⟩
def aF.putD (r:aF K w O H)(hk:O[k]?=some (some c))(hn:k∈w.iE)(ha:w.bK[k]?=some a)(hv:H a=some (.dK vs))(hc:tj (G w O H) vX c') :
  aF K w (O.set k (some c')) (aQ H a (.dK vX))/\cr w O H w (O.set k (some c')) (aQ H a (.dK vX)):=by
 let hl:=(Zf.mp hk).1;let N3:jx w O a:=.inr (.inr ⟨k,c,ha,hk⟩);let sg:aw (G w O H) (G w (O.set k (some c')) (aQ H a (.dK vX))):=λx o h=>by
  let⟨h1,h2⟩:=fc h;let bv:x≠a:=λz=>h2 (z▸N3)
  rw[gQ (λz=>h2 ((jx.set hk).mp z)),dg bv];exact h1
 let e:cr w O H w (O.set k (some c')) (aQ H a (.dK vX)):=⟨⟨⟨[],by simp⟩,⟨[],by simp⟩,⟨[],by simp⟩,sg,λ_ _=>Iff.rfl⟩,()⟩;apply⟨⟨by rw[Yo];exact r.len,r.nd,λx hx=>?_,r.nb,r.hn,λp hp=>?_,λb hb=>?_,λj d hj=>?_,λj hj=>by rw[Yo];exact r.dl j hj⟩,e⟩
 .obtain⟨o,h⟩:=r.al x hx;by_cases z:x=a
  .subst z;exact⟨_,dU⟩
  .exact⟨o,by rw[dg z];exact h⟩
 .obtain⟨h1,h2,h3,h4⟩:=r.nh p hp;let bv:p.1≠a:=λz=>h1 (z▸Z0 ha)
  exact⟨h1,h2,by rw[dg bv];exact h3,h4⟩
 .exact(r.bg b hb).acc (λz=>r.nb b hb (z▸Z0 ha))
 .by_cases ej:k=j
  .subst ej;rw[Yk hl] at hj;let hd:c'=d:=by injection (Option.some.inj hj)
   subst hd;exact⟨a,_,ha,dU,(Zf.mp ha).1,.inr ⟨hn,vX,(),hc.ak e.ex.ak⟩⟩
  .rw[Ya ej] at hj;let⟨a',us,h1,h2,h3⟩:=r.vV j d hj;let bv:a'≠a:=λz=>by
    subst z;exact ej ((List.getElem?_inj (Zf.mp ha).1 r.nd).mp (ha.trans h1.symm))
   exact⟨a',us,h1,by rw[dg bv];exact h2,h3.ex e.ex⟩
def aF.own (r:aF K w O H)(hp:H p=none)(hc:bi K w (G w O H) vs c) :
  aF K { w with bK:=w.bK++[p] } (O++[some c]) (aQ H p (.lst vs))/\cr w O H { w with bK:=w.bK++[p] } (O++[some c]) (aQ H p (.lst vs))/\({ w with bK:=w.bK++[p] }:Wd).bK[O.length]?=some p:=by
 let kW:∀x,jx { w with bK:=w.bK++[p] } (O++[some c]) x->jx w O x\/x=p:=λx h=>by
  rcases h with h |h |⟨j,d,h1,h2⟩
  .exact .inl (.inl h)
  .exact .inl (.inr (.inl h))
  .change (w.bK++[p])[j]?=some x at h1
   rcases Z2 j O.length with y |y
   .rw[Zq y] at h2;rw[Zq (by rw[r.len];exact y)] at h1;exact .inl (.inr (.inr ⟨j,d,h1,h2⟩))
   .let hj:=(Zf.mp h1).1;rw[Zu,r.len] at hj;have:j=O.length:=by simp at hj;omega
    subst this;rw[Yh (by rw[r.len];exact Ze _),r.len,X9] at h1;exact .inr (by simpa using h1.symm)
 let sg:aw (G w O H) (G { w with bK:=w.bK++[p] } (O++[some c]) (aQ H p (.lst vs))):=λx o h=>by
  let⟨h1,h2⟩:=fc h;let bv:x≠p:=λz=>by rw[z,hp] at h1;cases h1
  rw[gQ (λz=>(kW x z).elim h2 bv),dg bv];exact h1
 let e:cr w O H { w with bK:=w.bK++[p] } (O++[some c]) (aQ H p (.lst vs)):=⟨⟨⟨[],by simp⟩,⟨[p],rfl⟩,⟨[],by simp⟩,sg,λ_ _=>Iff.rfl⟩,rfl⟩;let tO:(w.bK++[p])[O.length]?=some p:=by rw[<- r.len];simp
 let tM:p∉w.bK:=λz=>by let⟨o,h⟩:=r.al p z;rw[hp] at h;cases h
 apply⟨⟨by simp[r.len],?_,λx hx=>?_,λb hb=>?_,r.hn,λq hq=>?_,λb hb=>(r.bg b hb).new hp,λj d hj=>?_,λj hj=>by have:=r.dl j hj;rw[Zu];omega⟩,e,tO⟩
 .show(w.bK++[p]).Nodup;rw[X8];exact⟨r.nd,by simp,λa ha b AY e=>by rw[Zy] at AY;rw[e,AY] at ha;exact tM ha⟩
 .rcases Zw.mp hx with y |y
  .obtain⟨o,h⟩:=r.al x y;let bv:x≠p:=λz=>by rw[z,hp] at h;cases h
   exact⟨o,by rw[dg bv];exact h⟩
  .rw[Zy.mp y];exact⟨_,dU⟩
 .intro z;rcases Zw.mp z with y |y
  .exact r.nb b hb y
  .exact(r.bg b hb).ne hp (Zy.mp y)
 .obtain⟨h1,h2,h3,h4⟩:=r.nh q hq;let bv:q.1≠p:=λz=>by rw[z,hp] at h3;cases h3
  apply⟨λz=>?_,h2,by rw[dg bv];exact h3,h4⟩;rcases Zw.mp z with y |y
  .exact h1 y
  .exact bv (Zy.mp y)
 .rcases Z2 j O.length with y |y
  .rw[Zq y] at hj;let⟨a',us,h1,h2,h3⟩:=r.vV j d hj;let bv:a'≠p:=λz=>by rw[z,hp] at h2;cases h2
   exact⟨a',us,e.ex.at h1,by rw[dg bv];exact h2,h3.ex e.ex⟩
  .let lX:=(Zf.mp hj).1;rw[Zu] at lX;have:j=O.length:=by simp at lX;omega
   subst this;rw[Yh (Ze _),X9] at hj;let hd:c=d:=by injection (Option.some.inj hj)
   subst hd;exact⟨p,_,tO,dU,(Zf.mp tO).1,.inl ⟨λz=>absurd (r.dl _ z) (Yj _),vs,(),hc.ex e.ex⟩⟩
def aF.hide (r:aF K w O H)(ha:H a=none)(ho:∀xs,o≠.tup xs):aF K { w with bM:=(a,o)::w.bM } O (aQ H a o)/\jc w O H { w with bM:=(a,o)::w.bM } O (aQ H a o):=by
 let kW:∀x,jx { w with bM:=(a,o)::w.bM } O x->jx w O x\/x=a:=λx h=>by
  rcases h with h |⟨u,h⟩ |h
  .exact .inl (.inl h)
  .rcases Zk.mp h with e |e
   .exact .inr (by injection e)
   .exact .inl (.inr (.inl ⟨u,e⟩))
  .exact .inl (.inr (.inr h))
 let sg:aw (G w O H) (G { w with bM:=(a,o)::w.bM } O (aQ H a o)):=λx u h=>by
  let⟨h1,h2⟩:=fc h;let bv:x≠a:=λz=>by rw[z,ha] at h1;cases h1
  rw[gQ (λz=>(kW x z).elim h2 bv),dg bv];exact h1
 let e:jc w O H { w with bM:=(a,o)::w.bM } O (aQ H a o):=⟨⟨[],by simp⟩,⟨[],by simp⟩,⟨[(a,o)],rfl⟩,sg,λ_ _=>Iff.rfl⟩;let Sz:a∉w.bK:=λz=>by let⟨u,h⟩:=r.al a z;rw[ha] at h;cases h
 apply⟨⟨r.len,r.nd,λx hx=>?_,r.nb,?_,λp hp=>?_,λb hb=>(r.bg b hb).new ha,λk c hk=>?_,r.dl⟩,e⟩
 .obtain⟨u,h⟩:=r.al x hx;let bv:x≠a:=λz=>Sz (z▸hx)
  exact⟨u,by rw[dg bv];exact h⟩
 .show(a::w.bM.map (·.1)).Nodup;rw[Yc];apply⟨λz=>?_,r.hn⟩;let⟨p,hp,e⟩:=Zd.mp z;have:=(r.nh p hp).2.2.1;rw[e,ha] at this;cases this
 .rcases Zk.mp hp with e |e
  .subst e;exact⟨Sz,λhb=>(r.bg a hb).ne ha rfl,dU,ho⟩
  .obtain⟨h1,h2,h3,h4⟩:=r.nh p e;let bv:p.1≠a:=λz=>by rw[z,ha] at h3;cases h3
   exact⟨h1,h2,by rw[dg bv];exact h3,h4⟩
 .obtain⟨a',vs,h1,h2,h3⟩:=r.vV k c hk;let bv:a'≠a:=λz=>by rw[z,ha] at h2;cases h2
  exact⟨a',vs,h1,by rw[dg bv];exact h2,h3.ex e⟩
def jx.eq (hh:w.bM=(a,o)::h0):jx { w with bM:=(a,o')::h0 } O x↔jx w O x:=by
 unfold jx
 grind
theorem jy.gm (hb:(w'.di,w'.iE)=(w.di,w.iE))(ha:w'.bK=w.bK)(s:aw g g'):∀{x:AV},jy K w g v x->jy K w' g' v x
 |.im d,h=>ci.ak s h
 |.own k,h=>by let⟨a,h1,h2,h3⟩:=h;exact⟨a,by rw[ha];exact h1,by rw[(Prod.mk.inj hb).2];exact h2,h3⟩
 |.vU k,h=>by let⟨a,h1,h2,h3⟩:=h;exact⟨a,by rw[ha];exact h1,by rw[(Prod.mk.inj hb).2];exact h2,h3⟩
 |.bag j,h=>by let⟨a,h1,h2⟩:=h;exact⟨a,by rw[(Prod.mk.inj hb).1];exact h1,h2⟩
 |.tE ns,h=>by let⟨p,q1,q2⟩:=h;exact⟨p,q1,KG.bG.ak q2 s⟩
def rz.gm (hb:(w'.di,w'.iE)=(w.di,w.iE))(ha:w'.bK=w.bK)(s:aw g g')(h:rz K w g k o c):rz K w' g' k o c:=by
 let⟨hk,h⟩:=h;apply⟨by rw[ha];exact hk,?_⟩;rw[(Prod.mk.inj hb).2];rcases h with ⟨h1,vs,h2,h3⟩ |⟨h1,kvs,h2,h3⟩
 .exact .inl ⟨h1,vs,h2,h3.1,λi v x e1 e2=>jy.gm hb ha s (h3.2 i v x e1 e2)⟩
 .exact .inr ⟨h1,kvs,h2,h3.ak s⟩
def aF.rG (r:aF K w O H)(hh:w.bM=(a,o)::h0)(ho:∀xs,o'≠.tup xs):aF K { w with bM:=(a,o')::h0 } O (aQ H a o')/\aw (G w O H) (G { w with bM:=(a,o')::h0 } O (aQ H a o')):=by
 let⟨n1,n2,n3,n4⟩:=r.nh (a,o) (by rw[hh];exact Zi);let tM:=r.hn;rw[hh,Zn,Yc] at tM;let sg:aw (G w O H) (G { w with bM:=(a,o')::h0 } O (aQ H a o')):=λx u h=>by
  let⟨h1,h2⟩:=fc h;let bv:x≠a:=λz=>h2 (.inr (.inl ⟨o,by rw[hh,z];exact Zi⟩))
  rw[gQ (λz=>h2 ((jx.eq hh).mp z)),dg bv];exact h1
 apply⟨⟨r.len,r.nd,λx hx=>?_,r.nb,?_,λp hp=>?_,λb hb=>(r.bg b hb).acc (λz=>n2 (z▸hb)),λk c hk=>?_,r.dl⟩,sg⟩
 .obtain⟨u,h⟩:=r.al x hx;let bv:x≠a:=λz=>n1 (z▸hx)
  exact⟨u,by rw[dg bv];exact h⟩
 .show(a::h0.map (·.1)).Nodup;rw[Yc];exact tM
 .rcases Zk.mp hp with e |e
  .subst e;exact⟨n1,n2,dU,ho⟩
  .obtain⟨h1,h2,h3,h4⟩:=r.nh p (by rw[hh];exact Zj _ e);let bv:p.1≠a:=λz=>tM.1 (Zd.mpr ⟨p,e,z⟩)
   exact⟨h1,h2,by rw[dg bv];exact h3,h4⟩
 .obtain⟨a',vs,h1,h2,h3⟩:=r.vV k c hk;let bv:a'≠a:=λz=>n1 (z▸Z0 h1)
  exact⟨a',vs,h1,by rw[dg bv];exact h2,rz.gm rfl rfl sg h3⟩
def aF.D3 (r:aF K w O H)(hh:w.bM=(a,o)::h0):aF K { w with bM:=h0 } O H/\aw (G w O H) (G { w with bM:=h0 } O H)/\G { w with bM:=h0 } O H a=some o:=by
 let⟨n1,n2,n3,n4⟩:=r.nh (a,o) (by rw[hh];exact Zi);let tM:=r.hn;rw[hh,Zn,Yc] at tM;let kW:∀x,jx { w with bM:=h0 } O x->jx w O x:=λx h=>by
  rcases h with h |⟨u,h⟩ |h
  .exact .inl h
  .exact .inr (.inl ⟨u,by rw[hh];exact Zj _ h⟩)
  .exact .inr (.inr h)
 let sg:aw (G w O H) (G { w with bM:=h0 } O H):=λx u h=>by
  let⟨h1,h2⟩:=fc h;rw[gQ (λz=>h2 (kW x z))];exact h1
 apply⟨⟨r.len,r.nd,r.al,r.nb,tM.2,λp hp=>r.nh p (by rw[hh];exact Zj _ hp),r.bg,λk c hk=>?_,r.dl⟩,sg,?_⟩
 .obtain⟨a',vs,h1,h2,h3⟩:=r.vV k c hk;exact⟨a',vs,h1,h2,rz.gm rfl rfl sg h3⟩
 .rw[gQ]
  .exact n3
  .rintro(h1 |⟨u,h⟩ |⟨j,d,h1,h2⟩)
   .exact n2 h1
   .exact tM.1 (Zd.mpr ⟨_,h,()⟩)
   .exact n1 (Z0 h1)
def aF.IT (r:aF K w O H)(hh:w.bM=(a,.lst ys)::h0)(hc:bi K w (G w O H) ys c) :
  aF K { w with bM:=h0,bK:=w.bK++[a] } (O++[some c]) H/\aw (G w O H) (G { w with bM:=h0,bK:=w.bK++[a] } (O++[some c]) H)/\(w.bK++[a])[O.length]?=some a:=by
 let⟨n1,n2,n3,n4⟩:=r.nh (a,.lst ys) (by rw[hh];exact Zi);let tM:=r.hn;rw[hh,Zn,Yc] at tM;let kW:∀x,jx { w with bM:=h0,bK:=w.bK++[a] } (O++[some c]) x->jx w O x:=λx h=>by
  rcases h with h |⟨u,h⟩ |⟨j,d,h1,h2⟩
  .exact .inl h
  .exact .inr (.inl ⟨u,by rw[hh];exact Zj _ h⟩)
  .change (w.bK++[a])[j]?=some x at h1
   rcases Z2 j O.length with y |y
   .rw[Zq y] at h2;rw[Zq (by rw[r.len];exact y)] at h1;exact .inr (.inr ⟨j,d,h1,h2⟩)
   .let hj:=(Zf.mp h1).1;rw[Zu,r.len] at hj;have:j=O.length:=by simp at hj;omega
    subst this;rw[Yh (by rw[r.len];exact Ze _),r.len,X9] at h1;let ex:x=a:=by simpa using h1.symm
    exact .inr (.inl ⟨_,by rw[hh,ex];exact Zi⟩)
 let sg:aw (G w O H) (G { w with bM:=h0,bK:=w.bK++[a] } (O++[some c]) H):=λx u h=>by
  let⟨h1,h2⟩:=fc h;rw[gQ (λz=>h2 (kW x z))];exact h1
 let tO:(w.bK++[a])[O.length]?=some a:=by rw[<- r.len];simp
 let av:∀{vs:List V}{xs:List AV},bi K w (G w O H) vs xs->bi K { w with bM:=h0,bK:=w.bK++[a] } (G { w with bM:=h0,bK:=w.bK++[a] } (O++[some c]) H) vs xs:=λh=>⟨h.1,λi v x e1 e2=>by
  have:=h.2 i v x e1 e2;cases x with
  |im d=>exact ci.ak sg this
  |own j=>let⟨p,q1,q2⟩:=this;exact⟨p,by show(w.bK++[a])[j]?=_;rw[Zq (Zf.mp q1).1];exact q1,q2⟩
  |vU j=>let⟨p,q1,q2⟩:=this;exact⟨p,by show(w.bK++[a])[j]?=_;rw[Zq (Zf.mp q1).1];exact q1,q2⟩
  |bag j=>exact this
  |tE ns=>let⟨p,q1,q2⟩:=this;exact⟨p,q1,KG.bG.ak q2 sg⟩⟩
 apply⟨⟨by simp[r.len],?_,λx hx=>?_,λb hb z=>?_,tM.2,λp hp=>?_,r.bg,λk d hk=>?_,λj hj=>by have:=r.dl j hj;rw[Zu];omega⟩,sg,tO⟩
 .show(w.bK++[a]).Nodup;rw[X8];exact⟨r.nd,by simp,λx hx b AY e=>by rw[Zy] at AY;rw[e,AY] at hx;exact n1 hx⟩
 .rcases Zw.mp hx with y |y
  .exact r.al x y
  .rw[Zy.mp y];exact⟨_,n3⟩
 .rcases Zw.mp z with y |y
  .exact r.nb b hb y
  .exact n2 (Zy.mp y▸hb)
 .obtain⟨h1,h2,h3,h4⟩:=r.nh p (by rw[hh];exact Zj _ hp);apply⟨λz=>?_,h2,h3,h4⟩;rcases Zw.mp z with y |y
  .exact h1 y
  .exact tM.1 (Zd.mpr ⟨p,hp,Zy.mp y⟩)
 .rcases Z2 k O.length with y |y
  .rw[Zq y] at hk;let⟨a',vs,h1,h2,h3⟩:=r.vV k d hk;exact⟨a',vs,by show(w.bK++[a])[k]?=_;rw[Zq (Zf.mp h1).1];exact h1,h2,by
    let⟨hk0,h3⟩:=h3;apply⟨by show k<(w.bK++[a]).length;rw[Zu];omega,?_⟩;rcases h3 with ⟨z1,vX,z2,z3⟩ |⟨z1,kvs,z2,z3⟩
    .exact .inl ⟨z1,vX,z2,av z3⟩
    .exact .inr ⟨z1,kvs,z2,z3.ak sg⟩⟩
  .let lX:=(Zf.mp hk).1;rw[Zu] at lX;have:k=O.length:=by simp at lX;omega
   subst this;rw[Yh (Ze _),X9] at hk;let hd:c=d:=by injection (Option.some.inj hk)
   subst hd;exact⟨a,_,tO,n3,(Zf.mp tO).1,.inl ⟨λz=>absurd (r.dl _ z) (Yj _),ys,(),av hc⟩⟩
def aF.IU (r:aF K w O H)(hh:w.bM=(a,.dK ys)::h0)(hc:tj (G w O H) ys c) :
  aF K { w with bM:=h0,bK:=w.bK++[a],iE:=O.length::w.iE } (O++[some c]) H/\aw (G w O H) (G { w with bM:=h0,bK:=w.bK++[a],iE:=O.length::w.iE } (O++[some c]) H)/\(w.bK++[a])[O.length]?=some a:=by
 let⟨n1,n2,n3,n4⟩:=r.nh (a,.dK ys) (by rw[hh];exact Zi);let tM:=r.hn;rw[hh,Zn,Yc] at tM;let kW:∀x,jx { w with bM:=h0,bK:=w.bK++[a],iE:=O.length::w.iE } (O++[some c]) x->jx w O x:=λx h=>by
  rcases h with h |⟨u,h⟩ |⟨j,d,h1,h2⟩
  .exact .inl h
  .exact .inr (.inl ⟨u,by rw[hh];exact Zj _ h⟩)
  .change (w.bK++[a])[j]?=some x at h1
   rcases Z2 j O.length with y |y
   .rw[Zq y] at h2;rw[Zq (by rw[r.len];exact y)] at h1;exact .inr (.inr ⟨j,d,h1,h2⟩)
   .let hj:=(Zf.mp h1).1;rw[Zu,r.len] at hj;have:j=O.length:=by simp at hj;omega
    subst this;rw[Yh (by rw[r.len];exact Ze _),r.len,X9] at h1;let ex:x=a:=by simpa using h1.symm
    exact .inr (.inl ⟨_,by rw[hh,ex];exact Zi⟩)
 let sg:aw (G w O H) (G { w with bM:=h0,bK:=w.bK++[a],iE:=O.length::w.iE } (O++[some c]) H):=λx u h=>by
  let⟨h1,h2⟩:=fc h;rw[gQ (λz=>h2 (kW x z))];exact h1
 let tO:(w.bK++[a])[O.length]?=some a:=by rw[<- r.len];simp
 let av:∀{vs:List V}{xs:List AV},bi K w (G w O H) vs xs->bi K { w with bM:=h0,bK:=w.bK++[a],iE:=O.length::w.iE } (G { w with bM:=h0,bK:=w.bK++[a],iE:=O.length::w.iE } (O++[some c]) H) vs xs:=λh=>⟨h.1,λi v x e1 e2=>by
  have:=h.2 i v x e1 e2;cases x with
  |im d=>exact ci.ak sg this
  |own j=>let⟨p,q1,q2⟩:=this;exact⟨p,by show(w.bK++[a])[j]?=_;rw[Zq (Zf.mp q1).1];exact q1,λz=>(Zk.mp z).elim (λe=>by have:=(Zf.mp q1).1;rw[r.len] at this;omega) q2.1,q2.2⟩
  |vU j=>let⟨p,q1,q2⟩:=this;exact⟨p,by show(w.bK++[a])[j]?=_;rw[Zq (Zf.mp q1).1];exact q1,Zj _ q2.1,q2.2⟩
  |bag j=>exact this
  |tE ns=>let⟨p,q1,q2⟩:=this;exact⟨p,q1,KG.bG.ak q2 sg⟩⟩
 apply⟨⟨by simp[r.len],?_,λx hx=>?_,λb hb z=>?_,tM.2,λp hp=>?_,r.bg,λk d hk=>?_,λj hj=>by
  rw[Zu];rcases Zk.mp hj with z |z
  .subst z;simp
  .have:=r.dl j z;omega⟩,sg,tO⟩
 .show(w.bK++[a]).Nodup;rw[X8];exact⟨r.nd,by simp,λx hx b AY e=>by rw[Zy] at AY;rw[e,AY] at hx;exact n1 hx⟩
 .rcases Zw.mp hx with y |y
  .exact r.al x y
  .rw[Zy.mp y];exact⟨_,n3⟩
 .rcases Zw.mp z with y |y
  .exact r.nb b hb y
  .exact n2 (Zy.mp y▸hb)
 .obtain⟨h1,h2,h3,h4⟩:=r.nh p (by rw[hh];exact Zj _ hp);apply⟨λz=>?_,h2,h3,h4⟩;rcases Zw.mp z with y |y
  .exact h1 y
  .exact tM.1 (Zd.mpr ⟨p,hp,Zy.mp y⟩)
 .rcases Z2 k O.length with y |y
  .rw[Zq y] at hk;let⟨a',vs,h1,h2,h3⟩:=r.vV k d hk;exact⟨a',vs,by show(w.bK++[a])[k]?=_;rw[Zq (Zf.mp h1).1];exact h1,h2,by
    let⟨hk0,h3⟩:=h3;apply⟨by show k<(w.bK++[a]).length;rw[Zu];omega,?_⟩;rcases h3 with ⟨z1,vX,z2,z3⟩ |⟨z1,kvs,z2,z3⟩
    .exact .inl ⟨λz=>(Zk.mp z).elim (λe=>⋯) z1,vX,z2,av z3⟩
    .exact .inr ⟨Zj _ z1,kvs,z2,z3.ak sg⟩⟩
  .let lX:=(Zf.mp hk).1;rw[Zu] at lX;have:k=O.length:=by simp at lX;omega
   subst this;rw[Yh (Ze _),X9] at hk;let hd:c=d:=by injection (Option.some.inj hk)
   subst hd;exact⟨a,_,tO,n3,(Zf.mp tO).1,.inr ⟨Zi,ys,(),hc.ak sg⟩⟩
def aF.m7 (r:aF K w O H):∀a xs,H a=some (.tup xs)->G w O H a=some (.tup xs):=by
 intro a xs h;rw[gQ]
 .exact h
 .rintro(h1 |⟨o,h1⟩ |⟨j,d,h1,h2⟩)
  .obtain⟨c,d,e⟩:=r.bg _ h1;rw[h] at e;cases e
  .obtain⟨_,_,h3,h4⟩:=r.nh _ h1;rw[h] at h3;exact h4 xs (Option.some.inj h3).symm
  .obtain⟨a',vs,e1,e2,_⟩:=r.vV j d h2;rw[h1] at e1;cases Option.some.inj e1;rw[h] at e2;cases Option.some.inj e2;rename_i hce;rcases hce.2 with ⟨_,vs,z,_⟩ |⟨_,kvs,z,_⟩<;>cases z
end
section
def PE.imp (h:PE X e t)(i:∀σ H Q,t' σ H Q->t σ H Q):PE X e t':=λae s σ H Q I q=>h ae s σ H Q I (i σ H Q q)
def PT.imp (h:PT X e t)(i:∀σ H Q,t' σ H Q->t σ H Q):PT X e t':=λae s σ H Q I q=>h ae s σ H Q I (i σ H Q q)
def PW.imp (h:PW X e t)(i:∀σ H Q,t' σ H Q->t σ H Q):PW X e t':=λwh ae s σ H Q I q=>h wh ae s σ H Q I (i σ H Q q)
def PA.imp (h:PA X es t)(i:∀σ H Q,t' σ H Q->t σ H Q):PA X es t':=λp ae s σ H Q I q=>h p ae s σ H Q I (i σ H Q q)
def PS.imp (h:PS X st t)(i:∀D σ H,t' D σ H->t D σ H):PS X st t':=λae s σ H D I q=>h ae s σ H D I (i D σ H q)
def jw.imp (h:jw X st t)(i:∀D σ H,t' D σ H->t D σ H):jw X st t':=λae s σ H D I q=>h ae s σ H D I (i D σ H q)
def ff (h:ci (G w O H) v (.tuple ds)):∃a xs,v=.ref a/\H a=some (.tup xs)/\aH (G w O H) xs ds:=by
 cases h with |tup h1 h2=>exact⟨_,_,rfl,(fc h1).1,h2⟩
def gw (h:ci (G w O H) v (.list ds)):∃a xs,v=.ref a/\H a=some (.lst xs)/\aH (G w O H) xs ds:=by
 cases h with |lst h1 h2=>exact⟨_,_,rfl,(fc h1).1,h2⟩
def iq (h:ci g v (.int i)):v=.int i:=by cases h;rfl
def Ix (h:ci g v (.bool i)):v=.bl i:=by cases h;rfl
def Mx (h:ci g v .none):v=.cg:=by cases h;rfl
theorem gZ:∀{ns:Γ3}{vs:List V},aH g vs (ns.map .int)->vs=ns.map V.int
 |[],_,h=>by cases h;rfl
 |n::ns,_,h=>by
  cases h with |cons h1 h2=>rw[iq h1,gZ h2];rfl
theorem Mz:∀{ns:List Bool}{vs:List V},aH g vs (ns.map .bool)->vs=ns.map V.bl
 |[],_,h=>by cases h;rfl
 |n::ns,_,h=>by
  cases h with |cons h1 h2=>rw[Ix h1,Mz h2];rfl
theorem wI:∀(ns:Γ3),aH g (ns.map V.int) (ns.map .int)
 |[]=>.nil
 |n::ns=>.cons (.int n) (wI ns)
def eV (r:aF K w O H)(hp:H p=none)(h:aH (G w O H) xs ds) :
  aF K w O (aQ H p (.tup xs))/\cr w O H w O (aQ H p (.tup xs))/\ci (G w O (aQ H p (.tup xs))) (.ref p) (.tuple ds):=by
 let⟨r1,e1,g1⟩:=r.new (o:=.tup xs) hp;exact⟨r1,e1,.tup g1 (aH.ak e1.ex.ak h)⟩
def mE (r:aF K w O H)(hp:H p=none)(h:aH (G w O H) xs ds) :
  aF K w O (aQ H p (.lst xs))/\cr w O H w O (aQ H p (.lst xs))/\ci (G w O (aQ H p (.lst xs))) (.ref p) (.list ds):=by
 let⟨r1,e1,g1⟩:=r.new (o:=.lst xs) hp;exact⟨r1,e1,.lst g1 (aH.ak e1.ex.ak h)⟩
def jt (r:aF K w O H)(s:aw H H')(hp:H' p=some (.tup xs))(h:aH (G w O H) xs ds) :
  aF K w O H'/\cr w O H w O H'/\ci (G w O H') (.ref p) (.tuple ds):=by
 let⟨r1,e1,g1⟩:=r.ak s;exact⟨r1,e1,.tup (r1.m7 _ _ hp) (aH.ak e1.ex.ak h)⟩
def ah (i:Nat):ME:=λsl O Q=>match sl[i]? with
 |some (some x)=>Q x O
 |_=>False
def P9 (h:PE X e (wA i)):PE X e (bR K QX E (ah i)):=PE.imp h λσ H Q ⟨w,O,sl,Q0,c,m,q⟩=>by
 unfold ah at m;split at m
 .rename_i x hx;let⟨v,h1,h2⟩:=c.so.2 i x hx;exact⟨v,h1,q x O v w H m (cr.refl _ _ _) c.ro h2⟩
 .exact m.elim
def mC (d:PyData):ME:=λ_ O Q=>Q (.im d) O
def NW (h:PE X e (tC v))(hv:∀g,ci g v d):PE X e (bR K QX E (mC d)):=PE.imp h λσ H Q ⟨w,O,sl,Q0,c,m,q⟩=>q _ O v w H m (cr.refl _ _ _) c.ro (hv _)
def cB:PE X (.Constant (.int i) j pos) (bR K QX E (mC (.int i))):=NW bC λ_=>.int _
def lM:PE X (.Constant (.bool i) j pos) (bR K QX E (mC (.bool i))):=NW iu λ_=>.bl _
def wZ:PE X (.Constant .none j pos) (bR K QX E (mC .none)):=NW wS λ_=>.cg
def ao:MA:=λ_ O Q=>Q [] O
def af (Me:ME)(Ms:MA):MA:=λsl O Q=>Me sl O λx O1=>Ms sl O1 λxs O2=>Q (x::xs) O2
def aV:PA X [] (vO K QX E ao):=PA.imp bP λσ H Q ⟨w,O,sl,Q0,c,m,q⟩=>q [] O [] w H m (cr.refl _ _ _) c.ro bi.nil
def aE (he:PE X e (bR K QX E Me))(hr:PA X es (vO K QX E Ms))(hs:starEach (e::es) X.env=(false,eval e X.env)::starEach es X.env:=by rfl):PA X (e::es) (vO K QX E (af Me Ms)) :=
 PA.imp (aU he hr hs) λσ H Q ⟨w,O,sl,Q0,c,m,q⟩=>⟨w,O,sl,_,c,m,λx O1 v w1 H1 h1 e1 r1 a1=>⟨w1,O1,sl,_,c.ex e1.ex r1,h1,λxs O2 vs w2 H2 h2 e2 r2 a2=>q _ O2 _ w2 H2 h2 (e1.trans e2) r2 (bi.cons (a1.ex e2.ex) a2)⟩⟩
def SG:List AV->Option (Ξ1)
 |[]=>some []
 |.im d::xs=>match SG xs with
  |some ds=>some (d::ds)
  |none=>none
 |_::_=>none
theorem xl:∀{xs:List AV}{ds:Ξ1},SG xs=some ds->xs=ds.map .im
 |[],_,h=>by cases h;rfl
 |.im d::xs,ds,h=>by
  unfold SG at h;split at h
  .rename_i es he;cases h;rw[xl he];rfl
  .cases h
 |.own _::_,_,h=>by cases h
 |.bag _::_,_,h=>by cases h
 |.tE _::_,_,h=>by cases h
 |.vU _::_,_,h=>by cases h
def gO (Ms:MA):ME:=λsl O Q=>Ms sl O λxs O1=>match SG xs with
 |some ds=>ds.length<=sizeLine/\Q (.im (.tuple ds)) O1
 |none=>False
def A7 (Ms:MA):ME:=λsl O Q=>Ms sl O λxs O1=>match SG xs with
 |some ds=>ds.length<=sizeLine/\Q (.im (.list ds)) O1
 |none=>False
def Ie (Ms:MA):ME:=λsl O Q=>Ms sl O λxs O1=>xs.length<=sizeLine/\Q (.own O1.length) (O1++[some xs])
def sX (h:PA X es (vO K QX E Ms)):PE X (.Tuple es x1 pos) (bR K QX E (gO Ms)):=PE.imp (gW h) λσ H Q ⟨w,O,sl,Q0,c,m,q⟩=>⟨w,O,sl,_,c,m,λxs O1 vs w1 H1 h1 e1 r1 a1=>by
 split at h1
 .rename_i ds hd;let hx:=xl hd;subst hx;apply⟨by rw[a1.1,Zb];exact h1.1,λp hp=>?_⟩;let⟨r2,e2,t2⟩:=eV r1 hp (bi.tr a1);exact q _ O1 _ w1 _ h1.2 (e1.trans e2) r2 t2
 .exact h1.elim⟩
def nL (h:PA X es (vO K QX E Ms)):PE X (.List es pos) (bR K QX E (A7 Ms)):=PE.imp (rM h) λσ H Q ⟨w,O,sl,Q0,c,m,q⟩=>⟨w,O,sl,_,c,m,λxs O1 vs w1 H1 h1 e1 r1 a1=>by
 split at h1
 .rename_i ds hd;let hx:=xl hd;subst hx;apply⟨by rw[a1.1,Zb];exact h1.1,λp hp=>?_⟩;let⟨r2,e2,t2⟩:=mE r1 hp (bi.tr a1);exact q _ O1 _ w1 _ h1.2 (e1.trans e2) r2 t2
 .exact h1.elim⟩
def wY (h:PA X es (vO K QX E Ms)):PE X (.List es pos) (bR K QX E (Ie Ms)):=PE.imp (rM h) λσ H Q ⟨w,O,sl,Q0,c,m,q⟩=>⟨w,O,sl,_,c,m,λxs O1 vs w1 H1 h1 e1 r1 a1=>by
 apply⟨by rw[a1.1];exact h1.1,λp hp=>?_⟩;let⟨r2,e2,t2⟩:=r1.own hp a1;exact q _ _ _ _ _ h1.2 (e1.trans e2) r2 ⟨p,t2,λz=>absurd (r1.dl _ z) (Yj _),()⟩⟩
abbrev tR:=bF->AV->AV->(AV->bF->Prop)->Prop
abbrev A1:=bF->List AV->(AV->bF->Prop)->Prop
def tS (K:Θ1)(r:R2)(f:tR):Prop:=∀(w:Wd) (O:bF) (H:Hp) (v u:V) (x y:AV) (P:AV->bF->Prop) (Q:VK),aF K w O H->jy K w (G w O H) v x->jy K w (G w O H) u y->f O x y P ->
 (∀z q O' w' H',P q O'->cr w O H w' O' H'->aF K w' O' H'->jy K w' (G w' O' H') z q->Q z H')->r v u H Q
def CA (K:Θ1)(r:List V->Hp->VK->Prop)(f:A1):Prop:=∀(w:Wd) (O:bF) (H:Hp) (vs:List V) (xs:List AV) (P:AV->bF->Prop) (Q:VK),aF K w O H->bi K w (G w O H) vs xs->f O xs P ->
 (∀z q O' w' H',P q O'->cr w O H w' O' H'->aF K w' O' H'->jy K w' (G w' O' H') z q->Q z H')->r vs H Q
def bB (f:tR)(Ma Mb:ME):ME:=λsl O Q=>Ma sl O λx O1=>Mb sl O1 λy O2=>f O2 x y Q
def jZ (f:A1)(Ms:MA):ME:=λsl O Q=>Ms sl O λxs O1=>f O1 xs Q
def yV (lk:tS K r f):∀σ H Q,bR K QX E (bB f Ma Mb) σ H Q->MR r (bR K QX E Ma) (bR K QX E Mb) σ H Q :=
 λσ H Q ⟨w,O,sl,Q0,c,m,q⟩=>⟨w,O,sl,_,c,m,λx O1 v w1 H1 h1 e1 r1 a1=>⟨w1,O1,sl,_,c.ex e1.ex r1,h1,λy O2 u w2 H2 h2 e2 r2 a2 =>
  lk w2 O2 H2 v u x y _ Q r2 (a1.ex e2.ex) a2 h2 λz z' O3 w3 H3 h3 e3 r3 a3=>q _ O3 z w3 H3 h3 ((e1.trans e2).trans e3) r3 a3⟩⟩
def ui (ho:eE X (binaryOp op) r)(lk:tS K r f)(ha:PE X a (bR K QX E Ma))(hb:PE X b (bR K QX E Mb)):PE X (.BinOp a op b pos) (bR K QX E (bB f Ma Mb)):=PE.imp (c6 ho ha hb) (yV lk)
def VP (ho:A2 X r)(lk:tS K r f)(ha:PE X a (bR K QX E Ma))(hb:PE X b (bR K QX E Mb))(hs:sM b:=by exact λ_ _=>rfl):PE X (.Subscript a b pos) (bR K QX E (bB f Ma Mb)):=PE.imp (d8 ho ha hb hs) (yV lk)
def w8 (ho:eE X (compareOp op) r)(lk:tS K r f)(ha:PE X a (bR K QX E Ma))(hb:PE X b (bR K QX E Mb))(hm:behindInMarks op b=false):PE X (.Compare a [op] [b] pos) (bR K QX E (bB f Ma Mb)):=PE.imp (eU ho ha hb hm) (yV lk)
def wf {id:String}(hc:cn X (.builtin id) r)(lk:CA K r f)(hg:Gl X x)(hm:X.mg x=none)(hv:bootBuiltins x=some (.builtin id))(ha:PA X (e::es) (vO K QX E Ms))(hn:x ≠ "__name__":=by decide)(wq:(x == ("__debug__" : Str))=false:=by decide)
  (he:starEach (e::es) X.env=(false,eval e X.env)::starEach es X.env:=by rfl) (lW:(backTo pos (starEach es X.env)).any (·.1)=false:=by rfl):PE X (.Call (.Name x p) (e::es) [] pos) (bR K QX E (jZ f Ms)) :=
 PE.imp (lH hc hg hm hv ha hn wq he lW) λσ H Q ⟨w,O,sl,Q0,c,m,q⟩=>⟨w,O,sl,_,c,m,λxs O1 vs w1 H1 h1 e1 r1 a1=>lk w1 O1 H1 vs xs _ Q r1 a1 h1 λz z' O3 w3 H3 h3 e3 r3 a3=>q _ O3 z w3 H3 h3 (e1.trans e3) r3 a3⟩
def AT (hc:cn X (.type T) r)(lk:CA K r f)(hg:Gl X x)(hm:X.mg x=none)(hv:bootBuiltins x=some (.type T))(ha:PA X (e::es) (vO K QX E Ms))(hn:x ≠ "__name__":=by decide)(wq:(x == ("__debug__" : Str))=false:=by decide)
  (he:starEach (e::es) X.env=(false,eval e X.env)::starEach es X.env:=by rfl) (lW:(backTo pos (starEach es X.env)).any (·.1)=false:=by rfl):PE X (.Call (.Name x p) (e::es) [] pos) (bR K QX E (jZ f Ms)) :=
 PE.imp (RF hc hg hm hv ha hn wq he lW) λσ H Q ⟨w,O,sl,Q0,c,m,q⟩=>⟨w,O,sl,_,c,m,λxs O1 vs w1 H1 h1 e1 r1 a1=>lk w1 O1 H1 vs xs _ Q r1 a1 h1 λz z' O3 w3 H3 h3 e3 r3 a3=>q _ O3 z w3 H3 h3 (e1.trans e3) r3 a3⟩
def cV (M:ME):MT:=λsl O Q=>M sl O λx O1=>match x with
 |.im (.bool c)=>Q c O1
 |_=>False
def u4 (h:∀σ H Q,bR K QX E M σ H Q->t σ H Q):∀σ H Q,iB K QX E (cV M) σ H Q->Dy t σ H Q:=λσ H Q ⟨w,O,sl,Q0,c,m,q⟩=>h σ H _ ⟨w,O,sl,_,c,m,λx O1 v w1 H1 h1 e1 r1 a1=>by
 split at h1
 .exact⟨_,Ix a1,q _ O1 w1 H1 h1 e1 r1⟩
 .exact h1.elim⟩
def sY (ho:eE X (compareOp op) r)(lk:tS K r f)(ha:PE X a (bR K QX E Ma))(hb:PE X b (bR K QX E Mb))(hm:behindInMarks op b=false):PT X (.Compare a [op] [b] pos) (iB K QX E (cV (bB f Ma Mb))):=PT.imp (mY ho ha hb hm) (u4 (yV lk))
def eD (h:PE X e (bR K QX E M))(he:∀gl,isTrue e X.env gl=(do let v <- gl;standAt e.pos;holding [v] (truthy v)):=by intro _;rfl):PT X e (iB K QX E (cV M)):=PT.imp (sZ h he) (u4 λ_ _ _ z=>z)
def aa6:PyData->Bool
 |.none=>false
 |.bool b=>b
 |.int i=>i != 0
 |.str s=>(s.length:Int) != 0
 |.list xs=>!xs.isEmpty
 |.tuple xs=>!xs.isEmpty
 |.dict xs=>!xs.isEmpty
def U7:PyData->Bool
 |.str _=>false
 |_=>true
def Dh (M:ME):MT:=λsl O Q=>M sl O λx O1=>match x with
 |.im d=>U7 d=true/\Q (aa6 d) O1
 |_=>False
def lS {α β : Type}{xs:List α}{ys:List β}(h:xs.length=ys.length):(!xs.isEmpty)=!ys.isEmpty:=by
 grind
def rQ (h:PE X e (bR K QX E M))(he:∀gl,isTrue e X.env gl=(do let v <- gl;standAt e.pos;holding [v] (truthy v)):=by intro _;rfl):PT X e (iB K QX E (Dh M)):=PT.imp (uO h he) λσ H Q ⟨w,O,sl,Q0,c,m,q⟩=>⟨w,O,sl,_,c,m,λx O1 v w1 H1 h1 e1 r1 a1=>by
 cases x with
 |im d =>
  cases d with
  |none=>exact⟨false,by rw[Mx a1];rfl,q _ O1 w1 H1 h1.2 e1 r1⟩
  |bool b=>exact⟨b,by rw[Ix a1];rfl,q _ O1 w1 H1 h1.2 e1 r1⟩
  |int i=>exact⟨i != 0,by rw[iq a1];rfl,q _ O1 w1 H1 h1.2 e1 r1⟩
  |str i=>cases h1.1
  |list xs =>
   let⟨a,us,rfl,h3,h4⟩:=gw a1;exact⟨!xs.isEmpty,.inl ⟨us,bG.of h3,lS h4.len.symm⟩,q _ O1 w1 H1 h1.2 e1 r1⟩
  |tuple xs =>
   let⟨a,us,rfl,h3,h4⟩:=ff a1;exact⟨!xs.isEmpty,.inr (.inl ⟨us,aK.of h3,lS h4.len.symm⟩),q _ O1 w1 H1 h1.2 e1 r1⟩
  |dict xs=>cases a1
 |own k=>exact h1.elim
 |vU k=>exact h1.elim
 |bag j=>exact h1.elim
 |tE ns=>exact h1.elim⟩
def Ig (M:MT):MT:=λsl O Q=>M sl O λc O1=>Q (!c) O1
def wU (h:PT X a (iB K QX E M)):PT X (.UnaryOp .Not a pos) (iB K QX E (Ig M)):=PT.imp (qH h) λσ H Q ⟨w,O,sl,Q0,c,m,q⟩=>⟨w,O,sl,_,c,m,λx O1 w1 H1 h1 e1 r1=>q _ O1 w1 H1 h1 e1 r1⟩
def pN (M N:MT):MT:=λsl O Q=>M sl O λc O1=>(c=true->N sl O1 Q)/\(c=false->Q false O1)
def Ud (M N:MT):MT:=λsl O Q=>M sl O λc O1=>(c=true->Q true O1)/\(c=false->N sl O1 Q)
def mF (h:PT X a (iB K QX E M)):PW X (.BoolOp .And [a] pos) (iB K QX E M):=pw_and1 h
def P7 (h:PT X a (iB K QX E M)):PW X (.BoolOp .Or [a] pos) (iB K QX E M):=pw_or1 h
def nJ {ga:Ξ2}(ha:PT X a (iB K QX E M))(hb:PW X (.BoolOp .And (b::ga) pos) (iB K QX E N)):PW X (.BoolOp .And (a::b::ga) pos) (iB K QX E (pN M N)):=PW.imp (pw_and ha hb) λσ H Q ⟨w,O,sl,Q0,c,m,q⟩=>⟨w,O,sl,_,c,m,λx O1 w1 H1 h1 e1 r1=>by
 cases x with
 |true=>exact bt ⟨w1,O1,sl,_,c.ex e1.ex r1,h1.1 rfl,λy O2 w2 H2 h2 e2 r2=>q _ O2 w2 H2 h2 (e1.trans e2) r2⟩
 |false=>exact bI (q _ O1 w1 H1 (h1.2 rfl) e1 r1)⟩
def VO {ga:Ξ2}(ha:PT X a (iB K QX E M))(hb:PW X (.BoolOp .Or (b::ga) pos) (iB K QX E N)):PW X (.BoolOp .Or (a::b::ga) pos) (iB K QX E (Ud M N)):=PW.imp (pw_or ha hb) λσ H Q ⟨w,O,sl,Q0,c,m,q⟩=>⟨w,O,sl,_,c,m,λx O1 w1 H1 h1 e1 r1=>by
 cases x with
 |true=>exact bt (q _ O1 w1 H1 (h1.1 rfl) e1 r1)
 |false=>exact bI ⟨w1,O1,sl,_,c.ex e1.ex r1,h1.2 rfl,λy O2 w2 H2 h2 e2 r2=>q _ O2 w2 H2 h2 (e1.trans e2) r2⟩⟩
def SA (C:MT)(M N:ME):ME:=λsl O Q=>C sl O λc O1=>(c=true->M sl O1 Q)/\(c=false->N sl O1 Q)
def yS (hc:PT X t (iB K QX E C))(ha:PE X a (bR K QX E M))(hb:PE X b (bR K QX E N)):PE X (.IfExp t a b pos) (bR K QX E (SA C M N)):=PE.imp (uR hc ha hb) λσ H Q ⟨w,O,sl,Q0,c,m,q⟩=>⟨w,O,sl,_,c,m,λx O1 w1 H1 h1 e1 r1=>by
 cases x with
 |true=>exact bt ⟨w1,O1,sl,_,c.ex e1.ex r1,h1.1 rfl,λy O2 u w2 H2 h2 e2 r2 a2=>q _ O2 u w2 H2 h2 (e1.trans e2) r2 a2⟩
 |false=>exact bI ⟨w1,O1,sl,_,c.ex e1.ex r1,h1.2 rfl,λy O2 u w2 H2 h2 e2 r2 a2=>q _ O2 u w2 H2 h2 (e1.trans e2) r2 a2⟩⟩
end
section
def ng:aw (G w O H) H:=λa o h=>(fc h).1
def Dk (C:Int->Int->Prop)(g:Int->Int->PyData):tR:=λO x y P=>match x,y with
 |.im (.int i),.im (.int j)=>C i j/\P (.im (g i j)) O
 |_,_=>False
def yX (g:Int->Int->PyData):tR:=λO x y P=>match x,y with
 |.im (.int i),.im (.int j)=>P (.im (g i j)) O
 |_,_=>False
def sB (hg:∀i j h,ci h (g i j) (f i j)):tS K (rI C g) (Dk C f):=λw O H v u x y P Q r a b hf q=>by
 unfold Dk at hf;split at hf
 .exact⟨_,_,iq a,iq b,hf.1,q _ _ O w H hf.2 (cr.refl _ _ _) r (hg _ _ _)⟩
 .exact hf.elim
def uY (hg:∀i j h,ci h (g i j) (f i j)):tS K (CH g) (yX f):=λw O H v u x y P Q r a b hf q=>by
 unfold yX at hf;split at hf
 .exact⟨_,_,iq a,iq b,q _ _ O w H hf (cr.refl _ _ _) r (hg _ _ _)⟩
 .exact hf.elim
def j7:tR:=λO x y P=>match x,y with
 |.im (.int i),.im (.int j)=>P (.im (.int (i+j))) O
 |.im (.tuple xs),.im (.tuple ys)=>xs.length+ys.length<=sizeLine/\P (.im (.tuple (xs++ys))) O
 |.im (.list xs),.im (.list ys)=>xs.length+ys.length<=sizeLine/\P (.im (.list (xs++ys))) O
 |_,_=>False
def QG:tS K (λx y H Q=>CH (λi j=>.int (i+j)) x y H Q\/(LQ x y H Q\/TX x y H Q)) j7:=λw O H v u x y P Q r a b hf q=>by
 unfold j7 at hf;split at hf
 .exact .inl ⟨_,_,iq a,iq b,q _ _ O w H hf (cr.refl _ _ _) r (.int _)⟩
 .obtain⟨p1,us,rfl,h1,t1⟩:=ff a;let⟨p2,vs,rfl,h2,t2⟩:=ff b;apply .inr (.inl ⟨p1,p2,us,vs,(),(),h1,h2,by rw[t1.len,t2.len];exact hf.1,λp H' s hp=>?_⟩);let⟨r1,e1,t⟩:=jt r s hp (t1.app t2);exact q _ _ O w H' hf.2 e1 r1 t
 .obtain⟨p1,us,rfl,h1,t1⟩:=gw a;let⟨p2,vs,rfl,h2,t2⟩:=gw b;apply .inr (.inr ⟨p1,p2,us,vs,(),(),h1,h2,by rw[t1.len,t2.len];exact hf.1,λp hp=>?_⟩);let⟨r1,e1,t⟩:=mE r hp (t1.app t2);exact q _ _ O w _ hf.2 e1 r1 t
 .exact hf.elim
def fq (ha:PE X a (bR K QX E Ma))(hb:PE X b (bR K QX E Mb)):PE X (.BinOp a .Add b pos) (bR K QX E (bB j7 Ma Mb)):=ui (d6.or (JQ.or PB)) QG ha hb
abbrev NG:tR:=yX λi j=>.int (i-j)
def Es (ha:PE X a (bR K QX E Ma))(hb:PE X b (bR K QX E Mb)):PE X (.BinOp a .Sub b pos) (bR K QX E (bB NG Ma Mb)):=ui rN (uY λ_ _ _=>.int _) ha hb
abbrev HV:tR:=Dk (λi j=>Bd 8000 i/\Bd 8000 j) λi j=>.int (i*j)
def wW (ha:PE X a (bR K QX E Ma))(hb:PE X b (bR K QX E Mb)):PE X (.BinOp a .Mult b pos) (bR K QX E (bB HV Ma Mb)):=ui qI (sB λ_ _ _=>.int _) ha hb
abbrev Oe:tR:=Dk (λ_ j=>0<j/\Bd 8000 j) λi j=>.int (i / j)
def Eu (ha:PE X a (bR K QX E Ma))(hb:PE X b (bR K QX E Mb)):PE X (.BinOp a .FloorDiv b pos) (bR K QX E (bB Oe Ma Mb)):=ui FF (sB λ_ _ _=>.int _) ha hb
abbrev G8:tR:=yX λi j=>.bool (decide (j<i))
def j9:tS K (CH λi j=>.bl (decide (j<i))) G8:=uY λ_ _ _=>.bl _
def vT:PyData->PyData->Bool
 |.int i,.int j=>decide (i=j)
 |d,e=>PyData.eqv d e
def nQ (d e:PyData):vT d e=PyData.eqv d e:=by
 cases d<;>cases e<;>first |rfl |(show decide _=_;rw[PyData.eqv];rfl)
def C3 (neg:Bool):tR:=λO x y P=>match x,y with
 |.im d,.im e=>min d.depth e.depth<=60/\P (.im (.bool (if neg then !vT d e else vT d e))) O
 |_,_=>False
def uk:tS K (HR K0) (C3 false):=λw O H v u x y P Q r a b hf q=>by
 unfold C3 at hf;split at hf
 .apply⟨_,_,(ci.ak ng a).dt,(ci.ak ng b).dt,hf.1,?_⟩;rw[<- nQ];exact q _ _ O w H hf.2 (cr.refl _ _ _) r (.bl _)
 .exact hf.elim
def Ml:tS K (HP K0) (C3 true):=λw O H v u x y P Q r a b hf q=>by
 unfold C3 at hf;split at hf
 .apply⟨_,_,(ci.ak ng a).dt,(ci.ak ng b).dt,hf.1,?_⟩;rw[<- nQ];exact q _ _ O w H hf.2 (cr.refl _ _ _) r (.bl _)
 .exact hf.elim
def ug (hu:X.A.units+64<cLine):eE X (compareOp .Eq) (HR K0):=En hu
def LV (hu:X.A.units+64<cLine):eE X (compareOp .NotEq) (HP K0):=PF hu
def RJ (neg:Bool):tR:=λO x y P=>match x,y with
 |.im (.int i),.im (.list ds)=>∃ns:Γ3,ds=ns.map .int/\P (.im (.bool (if neg then !ns.contains i else ns.contains i))) O
 |.im (.int i),.im (.tuple ds)=>∃ns:Γ3,ds=ns.map .int/\P (.im (.bool (if neg then !ns.contains i else ns.contains i))) O
 |_,_=>False
def qu (ns:Γ3):(ns.map V.int).all iK=true:=by
 rw[Xk];exact Yf.mpr λ_ _=>rfl
def yU (neg:Bool):tS K (Sl K0 neg) (RJ neg):=λw O H v u x y P Q r a b hf q=>by
 unfold RJ at hf;split at hf
 .obtain⟨ns,rfl,h⟩:=hf;let⟨p1,us,rfl,h1,t1⟩:=gw b;rw[gZ t1] at h1;apply⟨p1,_,(),.inl (bG.of h1),by rw[iq a];rfl,qu ns,?_⟩;rw[iq a,At];exact q _ _ O w H h (cr.refl _ _ _) r (.bl _)
 .obtain⟨ns,rfl,h⟩:=hf;let⟨p1,us,rfl,h1,t1⟩:=ff b;rw[gZ t1] at h1;apply⟨p1,_,(),.inr (aK.of h1),by rw[iq a];rfl,qu ns,?_⟩;rw[iq a,At];exact q _ _ O w H h (cr.refl _ _ _) r (.bl _)
 .exact hf.elim
def sD:PyData->Bool
 |.none=>true
 |_=>false
def sC (neg:Bool):tR:=λO x y P=>match x,y with
 |.im d,.im .none=>P (.im (.bool (if neg then !sD d else sD d))) O
 |_,_=>False
def Kx (h:ci g v d):decide (v=.cg)=sD d:=by
 cases h<;>rfl
def Ko:tS K (λx y H Q=>y=.cg/\Q (.bl (!decide (x=.cg))) H) (sC true):=λw O H v u x y P Q r a b hf q=>by
 unfold sC at hf;split at hf
 .apply⟨Mx b,?_⟩;rw[Kx a];exact q _ _ O w H hf (cr.refl _ _ _) r (.bl _)
 .exact hf.elim
def cO:tR:=λO x y P=>match x,y with
 |.im (.list ds),.im (.int i)=>∃d,fY ds i=some d/\P (.im d) O
 |.im (.tuple ds),.im (.int i)=>∃d,fY ds i=some d/\P (.im d) O
 |.own k,.im (.int i)=>∃c z,O[k]?=some (some c)/\fY c i=some z/\P z O
 |_,_=>False
def ET (t:aH g xs ds)(h:fY ds i=some d):∃v,fY xs i=some v/\ci g v d:=by
 unfold fY at h ⊢;rw[t.len];cases hj:tJ ds.length i with
 |none=>rw[hj] at h;cases h
 |some j =>
  rw[hj] at h;exact t.get h
def EV (t:bi K w g xs ds)(h:fY ds i=some d):∃v,fY xs i=some v/\jy K w g v d:=by
 unfold fY at h ⊢;rw[t.1];cases hj:tJ ds.length i with
 |none=>rw[hj] at h;cases h
 |some j =>
  rw[hj] at h;exact t.at h
def VT:tS K (λx y H Q=>HQ K0 x y H Q\/NR K0 x y H Q) cO:=λw O H v u x y P Q r a b hf q=>by
 unfold cO at hf;split at hf
 .obtain⟨d,hd,hf⟩:=hf;let⟨p1,us,rfl,h1,t1⟩:=gw a;let⟨z,hz,tz⟩:=ET t1 hd;exact .inl ⟨p1,us,_,z,(),iq b,bG.of h1,hz,q _ _ O w H hf (cr.refl _ _ _) r tz⟩
 .obtain⟨d,hd,hf⟩:=hf;let⟨p1,us,rfl,h1,t1⟩:=ff a;let⟨z,hz,tz⟩:=ET t1 hd;exact .inr ⟨p1,us,_,z,(),iq b,aK.of h1,hz,q _ _ O w H hf (cr.refl _ _ _) r tz⟩
 .obtain⟨c,d,hc,hd,hf⟩:=hf;let⟨p2,e1,pK,rfl⟩:=a;let⟨p1,us,h0,h1,t1⟩:=r.pe pK hc;rw[h0] at e1;cases Option.some.inj e1;let⟨z,hz,tz⟩:=EV t1 hd;exact .inl ⟨_,us,_,z,(),iq b,bG.of h1,hz,q _ _ O w H hf (cr.refl _ _ _) r tz⟩
 .exact hf.elim
def cU (ha:PE X a (bR K QX E Ma))(hb:PE X b (bR K QX E Mb))(hs:sM b:=by exact λ_ _=>rfl):PE X (.Subscript a b pos) (bR K QX E (bB cO Ma Mb)):=VP (tY.or bZ) VT ha hb hs
abbrev MO:=j5->bF->(Option Int->bF->Prop)->Prop
def Wq (K:Θ1)(QX:Addr->bF->Prop)(E:XK)(M:MO):TO:=λσ H Q=>∃w O sl Q0,j2 K QX E w O H σ sl/\M sl O Q0/\∀c O' w' H',Q0 c O'->cr w O H w' O' H'->aF K w' O' H'->Q c H'
def Ih:MO:=λ_ O Q=>Q none O
def Ia (M:ME):MO:=λsl O Q=>M sl O λx O1=>match x with
 |.im (.int i)=>Q (some i) O1
 |_=>False
def PO.imp (h:PO X e t)(i:∀σ H Q,t' σ H Q->t σ H Q):PO X e t':=λae s σ H Q I q=>h ae s σ H Q I (i σ H Q q)
def sv:PO X none (Wq K QX E Ih):=PO.imp JK λσ H Q ⟨w,O,sl,Q0,c,m,q⟩=>q none O w H m (cr.refl _ _ _) c.ro
def su (h:PE X e (bR K QX E M)):PO X (some e) (Wq K QX E (Ia M)):=PO.imp (JJ h) λσ H Q ⟨w,O,sl,Q0,c,m,q⟩=>⟨w,O,sl,_,c,m,λx O1 v w1 H1 h1 e1 r1 a1=>by
 split at h1
 .exact⟨_,iq a1,q _ O1 w1 H1 h1 e1 r1⟩
 .exact h1.elim⟩
def cutD (xs:Ξ1)(lo hi:Option Int):Ξ1:=(xs.drop (HT.oU xs.length 0 lo)).take (HT.oU xs.length xs.length hi-HT.oU xs.length 0 lo)
def Rc (t:aH g xs ds):aH g (Ba xs lo hi) (cutD ds lo hi):=by
 unfold Ba cutD;rw[t.len];exact(t.drop _).take _
def tX:A1:=λO xs P=>match xs with
 |[.im (.list ds)]=>P (.im (.int ds.length)) O
 |[.im (.tuple ds)]=>P (.im (.int ds.length)) O
 |[.own k]=>∃c,O[k]?=some (some c)/\P (.im (.int c.length)) O
 |_=>False
def k8:CA K LP tX:=λw O H vs xs P Q r a hf q=>by
 unfold tX at hf;split at hf
 .obtain⟨v,us,rfl,h1,h2⟩:=a.aW;rw[h2.cj];let⟨p1,lU,rfl,g1,t1⟩:=gw h1;exact⟨p1,lU,(),.inl (bG.of g1),by rw[t1.len];exact q _ _ O w H hf (cr.refl _ _ _) r (.int _)⟩
 .obtain⟨v,us,rfl,h1,h2⟩:=a.aW;rw[h2.cj];let⟨p1,lU,rfl,g1,t1⟩:=ff h1;exact⟨p1,lU,(),.inr (aK.of g1),by rw[t1.len];exact q _ _ O w H hf (cr.refl _ _ _) r (.int _)⟩
 .obtain⟨c,hc,hf⟩:=hf;let⟨v,us,rfl,h1,h2⟩:=a.aW;rw[h2.cj];let⟨p2,e1,pK,rfl⟩:=h1;let⟨p1,lU,h0,g1,t1⟩:=r.pe pK hc;rw[h0] at e1;cases Option.some.inj e1;exact⟨_,lU,(),.inl (bG.of g1),by rw[t1.1];exact q _ _ O w H hf (cr.refl _ _ _) r (.int _)⟩
 .exact hf.elim
def DM:A1:=λO xs P=>match xs with
 |[.tE ns]=>P (.im (.int ns.length)) O
 |_=>False
def Vy (K:Θ1):List V->Hp->VK->Prop:=λxs H Q=>∃p ys,xs=[.ref p]/\(bG K H p ys\/aK K H p ys)/\Q (.int ys.length) H
def Ks:CA K (Vy K) DM:=λw O H vs xs P Q r a hf q=>by
 unfold DM at hf;split at hf
 .obtain⟨v,us,rfl,h1,h2⟩:=a.aW;rw[h2.cj];let⟨p1,rfl,g1⟩:=h1;exact⟨p1,_,(),.inl (KG.bG.ak g1 ng),by rw[Zb];exact q _ _ O w H hf (cr.refl _ _ _) r (.int _)⟩
 .exact hf.elim
def DO (g:Int->Int->Int):A1:=λO xs P=>match xs with
 |[.im (.int i),.im (.int j)]=>P (.im (.int (g i j))) O
 |_=>False
def Kq:CA K (λxs H Q=>∃i j,xs=[.int i,.int j]/\Q (.int (if j<i then j else i)) H) (DO λi j=>if j<i then j else i):=λw O H vs xs P Q r a hf q=>by
 unfold DO at hf;split at hf
 .obtain⟨v,us,rfl,h1,h2⟩:=a.aW;let⟨v2,Rr,rfl,h3,h4⟩:=h2.aW;rw[h4.cj,iq h1,iq h3];exact⟨_,_,(),q _ _ O w H hf (cr.refl _ _ _) r (.int _)⟩
 .exact hf.elim
def o6:AV->Option (Ξ1)
 |.im (.list ds)=>some ds
 |.im (.tuple ds)=>some ds
 |_=>none
def hG (h:o6 x=some ds)(a:jy K w (G w O H) v x):∃p us,v=.ref p/\(bG K0 H p us\/aK K0 H p us)/\aH (G w O H) us ds:=by
 unfold o6 at h;split at h
 .cases h
  let⟨p,us,rfl,g1,t1⟩:=gw a;exact⟨p,us,(),.inl (bG.of g1),t1⟩
 .cases h
  let⟨p,us,rfl,g1,t1⟩:=ff a;exact⟨p,us,(),.inr (aK.of g1),t1⟩
 .cases h
def o7 (f:Ξ1->(PyData->Prop)->Prop):A1:=λO xs P=>match xs with
 |[x]=>match o6 x with
  |some ds=>f ds λd=>P (.im d) O
  |none=>False
 |_=>False
def NF:A1:=o7 λds P=>∃ns:Γ3,ds=ns.map .int/\P (.int ns.sum)
def QB:CA K LM NF:=λw O H vs xs P Q r a hf q=>by
 unfold NF o7 at hf;split at hf
 .split at hf
  .rename_i ds hd;let⟨v,us,rfl,h1,h2⟩:=a.aW;rw[h2.cj];let⟨p,lU,rfl,hs,t1⟩:=hG hd h1;let⟨ns,rfl,h⟩:=hf;rw[gZ t1] at hs;exact⟨p,ns,(),hs,q _ _ O w H h (cr.refl _ _ _) r (.int _)⟩
  .exact hf.elim
 .exact hf.elim
def HX:A1:=o7 λds P=>∃ns:Γ3,ds=ns.map .int/\ns≠[]/\∀m,m∈ns->(∀n∈ns,n<=m)->P (.int m)
def EE:CA K LO HX:=λw O H vs xs P Q r a hf q=>by
 unfold HX o7 at hf;split at hf
 .split at hf
  .rename_i ds hd;let⟨v,us,rfl,h1,h2⟩:=a.aW;rw[h2.cj];let⟨p,lU,rfl,hs,t1⟩:=hG hd h1;let⟨ns,rfl,bv,h⟩:=hf;rw[gZ t1] at hs;exact⟨p,ns,(),hs,bv,λm h3 h4=>q _ _ O w H (h m h3 h4) (cr.refl _ _ _) r (.int _)⟩
  .exact hf.elim
 .exact hf.elim
def Ds:A1:=o7 λds P=>∃ns:List Bool,ds=ns.map .bool/\P (.bool (ns.any id))
def Rg (ns:List Bool):(ns.map V.bl).any tv=ns.any id:=by induction ns with |nil=>rfl |cons n ns ih=>simp only[Zn,Xs,ih];rfl
def Fu (ns:List Bool):(ns.map V.bl).all fj=true:=by induction ns with |nil=>rfl |cons n ns ih=>simp only[Zn,Xy,ih];rfl
def xj:CA K LR Ds:=λw O H vs xs P Q r a hf q=>by
 unfold Ds o7 at hf;split at hf
 .split at hf
  .rename_i ds hd;let⟨v,us,rfl,h1,h2⟩:=a.aW;rw[h2.cj];let⟨p,lU,rfl,hs,t1⟩:=hG hd h1;let⟨ns,rfl,h⟩:=hf;rw[Mz t1] at hs;apply⟨p,_,(),hs,Fu ns,?_⟩;rw[Rg];exact q _ _ O w H h (cr.refl _ _ _) r (.bl _)
  .exact hf.elim
 .exact hf.elim
def lY:A1:=λO xs P=>match xs with
 |[.own k]=>∃ds:Ξ1,O[k]?=some (some (ds.map .im))/\P (.im (.tuple ds)) O
 |[x]=>match o6 x with
  |some ds=>P (.im (.tuple ds)) O
  |none=>False
 |_=>False
def gf:CA K LL lY:=λw O H vs xs P Q r a hf q=>by
 unfold lY at hf;split at hf
 .obtain⟨ds,hc,hf⟩:=hf;let⟨v,us,rfl,h1,h2⟩:=a.aW;rw[h2.cj];let⟨p2,e1,pK,rfl⟩:=h1;let⟨p1,lU,h0,g1,t1⟩:=r.pe pK hc;rw[h0] at e1;cases Option.some.inj e1;apply⟨_,lU,(),.inl ⟨bG.of g1,λl hl=>?_⟩⟩;let⟨r1,e1,t2⟩:=eV r hl (bi.tr t1);exact q _ _ O w _ hf e1 r1 t2
 .rename_i x _;split at hf
  .rename_i ds hd;let⟨v,us,rfl,h1,h2⟩:=a.aW;rw[h2.cj];unfold o6 at hd;split at hd
   .cases hd
    let⟨p,lU,rfl,g1,t1⟩:=gw h1;apply⟨p,lU,(),.inl ⟨bG.of g1,λl hl=>?_⟩⟩;let⟨r1,e1,t2⟩:=eV r hl t1;exact q _ _ O w _ hf e1 r1 t2
   .cases hd
    let⟨p,lU,rfl,g1,t1⟩:=ff h1;exact⟨p,lU,(),.inr ⟨aK.of g1,q _ _ O w _ hf (cr.refl _ _ _) r h1⟩⟩
   .cases hd
  .exact hf.elim
 .exact hf.elim
def Ik:A1:=o7 λds P=>P (.list ds)
def EF:CA K DG Ik:=λw O H vs xs P Q r a hf q=>by
 unfold Ik o7 at hf;split at hf
 .split at hf
  .rename_i ds hd;let⟨v,us,rfl,h1,h2⟩:=a.aW;rw[h2.cj];let⟨p,lU,rfl,hs,t1⟩:=hG hd h1;apply⟨p,lU,(),hs,λl hl=>?_⟩;let⟨r1,e1,t2⟩:=mE r hl t1;exact q _ _ O w _ hf e1 r1 t2
  .exact hf.elim
 .exact hf.elim
def NX:A1:=λO xs P=>match xs with
 |[x]=>match o6 x with
  |some ds=>P (.own O.length) (O++[some (ds.map .im)])
  |none=>False
 |_=>False
def Kr:CA K DG NX:=λw O H vs xs P Q r a hf q=>by
 unfold NX at hf;split at hf
 .split at hf
  .rename_i ds hd;let⟨v,us,rfl,h1,h2⟩:=a.aW;rw[h2.cj];let⟨p,lU,rfl,hs,t1⟩:=hG hd h1;apply⟨p,lU,(),hs,λl hl=>?_⟩;let⟨r1,e1,t2⟩:=r.own hl (aH.W2 t1);exact q _ _ _ _ _ hf e1 r1 ⟨l,t2,λz=>absurd (r.dl _ z) (Yj _),()⟩
  .exact hf.elim
 .exact hf.elim
end
section
structure Go (M:MS)(D:uA)(sl:j5)(O:bF):Prop where
 go:M D sl O
def be (M N:MS):MS:=λD sl O=>M { D with nx:=λdJ O'=>Go N D dJ O' } sl O
def eF:MS:=λD sl O=>D.nx sl O
def yz:jw X [] (jK K QX E eF):=jw.imp kR λD σ H ⟨w,O,sl,D0,c,m,hn,hb,hc,hr⟩=>hn sl O w H σ m c (cr.refl _ _ _)
def cY {ga:List Stmt}(h1:PS X st (jK K QX E M))(h2:jw X ga (jK K QX E N)):jw X (st::ga) (jK K QX E (be M N)):=jw.imp (dZ h1 h2) λD σ H ⟨w,O,sl,D0,c,m,hn,hb,hc,hr⟩ =>
 ⟨w,O,sl,_,c,m,λYG O1 w1 H1 KZ h1 c1 e1=>⟨w1,O1,YG,D0,c1,h1.go,λcx O2 w2 H2 cz h2 c2 e2=>hn cx O2 w2 H2 cz h2 c2 (e1.trans e2),λcx O2 w2 H2 cz h2 c2 e2=>hb cx O2 w2 H2 cz h2 c2 (e1.trans e2),λcx O2 w2 H2 cz h2 c2 e2=>hc cx O2 w2 H2 cz h2 c2 (e1.trans e2),λx O2 w2 H2 v h2 e2 r2 a2=>hr x O2 w2 H2 v h2 (e1.trans e2) r2 a2⟩,hb,hc,hr⟩
def dw (h1:PS X st (jK K QX E M)):jw X [st] (jK K QX E M):=cN h1
def uj (M:ME):MS:=λD sl O=>M sl O λ_ O1=>D.nx sl O1
def mH (he:PE X e (bR K QX E M))(hs:swapsWith e none pos.line X.env=pure false:=by rfl):PS X (.Expr e pos) (jK K QX E (uj M)):=PS.imp (zP he hs) λD σ H ⟨w,O,sl,D0,c,m,hn,hb,hc,hr⟩=>⟨w,O,sl,_,c,m,λx O1 v w1 H1 h1 e1 r1 a1=>hn sl O1 w1 H1 σ h1 (c.ex e1.ex r1) e1⟩
def cE (M:ME):MS:=λD sl O=>M sl O D.rt
def iC (he:PE X e (bR K QX E M)):PS X (.Return (some e) pos) (jK K QX E (cE M)):=PS.imp (dM he) λD σ H ⟨w,O,sl,D0,c,m,hn,hb,hc,hr⟩=>⟨w,O,sl,_,c,m,λx O1 v w1 H1 h1 e1 r1 a1=>hr x O1 w1 H1 v h1 e1 r1 a1⟩
def jz (C:MT)(M N:MS):MS:=λD sl O=>C sl O λc O1=>(c=true->M D sl O1)/\(c=false->N D sl O1)
def fJ (hc:PT X t (iB K QX E C))(ha:jw X a (jK K QX E M))(hb:jw X b (jK K QX E N)):PS X (.If t a b pos) (jK K QX E (jz C M N)):=PS.imp (kQ hc ha hb) λD σ H ⟨w,O,sl,D0,c,m,hn,hb,hc,hr⟩=>⟨w,O,sl,_,c,m,λx O1 w1 H1 h1 e1 r1=>by
 let z:∀{M:MS},M D0 sl O1->jK K QX E M D σ H1:=λh=>⟨w1,O1,sl,D0,c.ex e1.ex r1,h,λcx O2 w2 H2 cz h2 c2 e2=>hn cx O2 w2 H2 cz h2 c2 (e1.trans e2),λcx O2 w2 H2 cz h2 c2 e2=>hb cx O2 w2 H2 cz h2 c2 (e1.trans e2),λcx O2 w2 H2 cz h2 c2 e2=>hc cx O2 w2 H2 cz h2 c2 (e1.trans e2),λx O2 w2 H2 v h2 e2 r2 a2=>hr x O2 w2 H2 v h2 (e1.trans e2) r2 a2⟩
 cases x with
 |true=>exact bt (z (h1.1 rfl))
 |false=>exact bI (z (h1.2 rfl))⟩
abbrev MG:=AV->j5->bF->(j5->bF->Prop)->Prop
abbrev R7:=List AV->j5->bF->(j5->bF->Prop)->Prop
def oK (K:Θ1)(QX:Addr->bF->Prop)(E:XK)(mg:MG):TG:=λv σ H Q=>∃w O sl x Q0,j2 K QX E w O H σ sl/\jy K w (G w O H) v x/\mg x sl O Q0/\∀dJ O' w' H' aS,Q0 dJ O'->j2 K QX E w' O' H' aS dJ->cr w O H w' O' H'->Q aS H'
def C9 (K:Θ1)(QX:Addr->bF->Prop)(E:XK)(mg:R7):Nu:=λvs σ H Q=>∃w O sl xs Q0,j2 K QX E w O H σ sl/\bi K w (G w O H) vs xs/\mg xs sl O Q0/\∀dJ O' w' H' aS,Q0 dJ O'->j2 K QX E w' O' H' aS dJ->cr w O H w' O' H'->Q aS H'
def PG.imp (h:PG X tg t)(i:∀v σ H Q,t' v σ H Q->t v σ H Q):PG X tg t':=λae s σ H v u Q I r q=>h ae s σ H v u Q I r (i v σ H Q q)
def vW.imp (h:vW X tg t)(i:∀v σ H Q,t' v σ H Q->t v σ H Q):vW X tg t':=λae s σ H v u Q I r q=>h ae s σ H v u Q I r (i v σ H Q q)
def bm (i:Nat):MG:=λx sl O Q=>Q (sl.set i (some x)) O
def j2.put (c:j2 K QX E w O H σ sl)(a:jy K w (G w O H) v x)(i:Nat):j2 K QX E w O H (σ.set i (some v)) (sl.set i (some x)):=⟨c.ro,c.so.set a i,c.zx⟩
def eW (h:PG X tg (fg i)):PG X tg (oK K QX E (bm i)):=PG.imp h λv σ H Q ⟨w,O,sl,x,Q0,c,a,m,q⟩=>q _ O w H _ m (c.put a i) (cr.refl _ _ _)
def ck:R7:=λxs sl O Q=>match xs with
 |[]=>Q sl O
 |_=>False
def aG (t:MG)(u:R7):R7:=λxs sl O Q=>match xs with
 |x::r=>t x sl O λdJ O'=>u r dJ O' Q
 |_=>False
def vQ:vW X [] (C9 K QX E ck):=vW.imp eS λv σ H Q ⟨w,O,sl,x,Q0,c,a,m,q⟩=>by
 unfold ck at m;split at m
 .exact⟨a.cj,q _ O w H _ m c (cr.refl _ _ _)⟩
 .exact m.elim
def iF (h1:PG X e (oK K QX E t))(h2:vW X es (C9 K QX E u))(hs:(assignEach (e::es) X.env).map (·.2)=assign e X.env::(assignEach es X.env).map (·.2):=by rfl):vW X (e::es) (C9 K QX E (aG t u)):=vW.imp (qK h1 h2 hs) λv σ H Q ⟨w,O,sl,x,Q0,c,a,m,q⟩=>by
 unfold aG at m;split at m
 .obtain⟨v1,us,rfl,a1,a2⟩:=a.aW;exact⟨v1,us,(),w,O,sl,_,_,c,a1,m,λYG O1 w1 H1 KZ h1 c1 e1=>⟨w1,O1,YG,_,_,c1,a2.ex e1.ex,h1,λcx O2 w2 H2 cz h2 c2 e2=>q cx O2 w2 H2 cz h2 c2 (e1.trans e2)⟩⟩
 .exact m.elim
def kP (n:Nat)(t:R7):MG:=λx sl O Q=>match o6 x with
 |some ds=>ds.length=n/\t (ds.map .im) sl O Q
 |none=>False
def PG.or (h:PG X tg t)(h':PG X tg t'):PG X tg (λv σ H Q=>t v σ H Q\/t' v σ H Q):=λae s σ H v u Q I r q=>q.elim (λz=>h ae s σ H v u Q I r z) λz=>h' ae s σ H v u Q I r z
def vP (hc:X.calm=true)(h:vW X es (C9 K QX E t))(hn:(assignEach es X.env).length=n:=by rfl)(m4:(assignEach es X.env).findIdx? (·.1)=none:=by rfl):PG X (.Tuple es k pos) (oK K QX E (kP n t)) :=
 PG.imp (PG.or (gU hc h hn m4) (Ps hc h hn m4)) λv σ H Q ⟨w,O,sl,x,Q0,c,a,m,q⟩=>by
  unfold kP at m;split at m
  .rename_i ds hd;let⟨m1,m2⟩:=m;let⟨p,us,rfl,hs,t1⟩:=hG hd a;let hl:us.length=n:=by rw[t1.len];exact m1
   let hq:C9 K QX E t us σ H Q:=⟨w,O,sl,_,_,c,aH.W2 t1,m2,q⟩;rcases hs with hs |hs
   .exact .inr ⟨p,us,(),hs,hl,hq⟩
   .exact .inl ⟨p,us,(),hs,hl,hq⟩
  .exact m.elim
def mgS (Mo Mi:ME):MG:=λx sl O Q=>Mo sl O λo O1=>Mi sl O1 λi O2=>match o,i with
 |.own k,.im (.int i)=>∃c j,O2[k]?=some (some c)/\tJ c.length i=some j/\Q sl (O2.set k (some (c.set j x)))
 |_,_=>False
def P8 (ho:PE X o (bR K QX E Mo))(hi:PE X i (bR K QX E Mi))(ha:∀v,assign (.Subscript o i pos) X.env v=(do
  let ov <- holding [v] (eval o X.env);let iv <- holding [v,ov] (eval i X.env)
  standAt pos
  holding [v,ov,iv] (setItem ov iv v)
  release [v,ov,iv] []):=by intro _;rfl):PG X (.Subscript o i pos) (oK K QX E (mgS Mo Mi)):=PG.imp (wR ho hi ky ha) λv σ H Q ⟨w,O,sl,x,Q0,c,a,m,q⟩ =>
 ⟨w,O,sl,_,c,m,λo' O1 v1 w1 H1 h1 e1 r1 a1=>⟨w1,O1,sl,_,c.ex e1.ex r1,h1,λi' O2 v2 w2 H2 h2 e2 r2 a2=>by
  split at h2
  .obtain⟨c',j,qL,hj,h2⟩:=h2;let C5:=e1.trans e2;let⟨p2,e3,pK,rfl⟩:=a1.ex e2.ex;let⟨p1,us,h0,g1,t1⟩:=r2.pe pK qL;rw[h0] at e3;cases Option.some.inj e3;let⟨r3,e3⟩:=r2.put qL pK h0 g1 (t1.set (a.ex C5.ex) j);exact⟨_,us,_,j,(),iq a2,g1,by rw[t1.1];exact hj,q sl _ w2 _ σ h2 ((c.ex C5.ex r2).ex e3.ex r3) (C5.trans e3)⟩
  .exact h2.elim⟩⟩
def bH (M:ME)(mg:MG):MS:=λD sl O=>M sl O λx O1=>mg x sl O1 D.nx
def iU (ht:∀σ H Q,bR K QX E M σ H Q->t σ H Q)(hg:∀v σ H Q,oK K QX E mg v σ H Q->g v σ H Q):∀D σ H,jK K QX E (bH M mg) D σ H->Dc t g D σ H:=λD σ H ⟨w,O,sl,D0,c,m,hn,hb,hc,hr⟩ =>
 ht σ H _ ⟨w,O,sl,_,c,m,λx O1 v w1 H1 h1 e1 r1 a1=>hg v σ H1 _ ⟨w1,O1,sl,x,_,c.ex e1.ex r1,a1,h1,λcx O2 w2 H2 cz h2 c2 e2=>hn cx O2 w2 H2 cz h2 c2 (e1.trans e2)⟩⟩
def jR (he:PE X e (bR K QX E M))(hg:PG X tg (oK K QX E mg))(hs:swapsWithSole [tg] e pos.line X.env=pure false:=by rfl)(hw:swappedStores [tg] e X.env=pure none:=by rfl)(h1:(assignEach [tg] X.env).map (·.2)=[assign tg X.env]:=by rfl):PS X (.Assign [tg] e pos) (jK K QX E (bH M mg)):=PS.imp (iP he hg hs hw h1) (iU (λ_ _ _ z=>z) λ_ _ _ _ z=>z)
def kw:∀v σ H Q,oK K QX E (bm i) v σ H Q->fg i v σ H Q:=λv σ H Q ⟨w,O,sl,x,Q0,c,a,m,q⟩=>q _ O w H _ m (c.put a i) (cr.refl _ _ _)
def k6 (hN:X.N.Nodup)(hi:X.N[i]?=some x)(hx:Loc X.env.scope x)(he:PE X e (bR K QX E M))(hs:swapsWith e (some (.Name x kU)) pos.line X.env=pure false:=by rfl)(hf:X.fn x=true\/X.env.scope.names.lookup x=some .local:=by first |exact .inl rfl |exact .inr rfl |assumption) :
  PS X (.Assign [.Name x kU] e pos) (jK K QX E (bH M (bm i))):=PS.imp (oM hN hi hx he hs hf) (iU (λ_ _ _ z=>z) kw)
def lP (K:Θ1)(J:It)(w:Wd)(O:bF)(H:Hp)(items:List AV):Prop:=∀O2 w2 H2,jc w O H w2 O2 H2->aF K w2 O2 H2->∀i,(∀x,items[i]?=some x->J.go i H2/\∀v H3,J.tu i H2 v H3->cr w2 O2 H2 w2 O2 H3/\aF K w2 O2 H3/\jy K w2 (G w2 O2 H3) v x)/\(items.length<=i->J.stop i H2)
def vN (K:Θ1)(QX:Addr->bF->Prop)(E:XK)(M:MA):TI:=λσ H R=>∃w O sl Q0,j2 K QX E w O H σ sl/\M sl O Q0/\∀items O' w' H' J,Q0 items O'->cr w O H w' O' H'->aF K w' O' H'->lP K J w' O' H' items->R J H'
def PI.imp (h:PI X tg iter t)(i:∀σ H R,t' σ H R->t σ H R):PI X tg iter t':=λae s σ H R I q=>h ae s σ H R I (i σ H R q)
def BZ (t:ci (G w O H) (.ref a) (.list ds)):lP K (A3 K0 a) w O H (ds.map .im):=λO2 w2 H2 e r i=>by
 cases ci.ak e.ak t with |lst h1 t1=>?_
 rename_i xs;let hh:=(fc h1).1;apply⟨λx hx=>?_,λhl=>⟨xs,bG.of hh,by rw[Zb] at hl;rw[t1.len];exact hl⟩⟩;rw[Zo] at hx;cases hd:ds[i]? with
 |none=>rw[hd] at hx;cases hx
 |some d =>
  rw[hd] at hx;cases Option.some.inj hx;let⟨v,hv,tv⟩:=t1.get hd;apply⟨⟨xs,v,bG.of hh,hv⟩,?_⟩;rintro v' H3 ⟨rfl,hy⟩;have:=hy xs (bG.of hh);rw[hv] at this;cases Option.some.inj this;exact⟨cr.refl _ _ _,r,tv⟩
def BX (t:ci (G w O H) (.ref a) (.tuple ds)):lP K (yG K0 a) w O H (ds.map .im):=λO2 w2 H2 e r i=>by
 cases ci.ak e.ak t with |tup h1 t1=>?_
 rename_i xs;let hh:=(fc h1).1;apply⟨λx hx=>?_,λhl=>⟨xs,aK.of hh,by rw[Zb] at hl;rw[t1.len];exact hl⟩⟩;rw[Zo] at hx;cases hd:ds[i]? with
 |none=>rw[hd] at hx;cases hx
 |some d =>
  rw[hd] at hx;cases Option.some.inj hx;let⟨v,hv,tv⟩:=t1.get hd;apply⟨⟨xs,v,aK.of hh,hv⟩,?_⟩;rintro v' H3 ⟨rfl,hy⟩;have:=hy xs (aK.of hh);rw[hv] at this;cases Option.some.inj this;exact⟨cr.refl _ _ _,r,tv⟩
def cK (M:ME):MA:=λsl O Q=>M sl O λx O1=>match o6 x with
 |some ds=>Q (ds.map .im) O1
 |none=>False
def abH (tl:TE):TI:=λσ H R=>tl σ H λx H1=>(∃a,x=.ref a/\(∃xs,bG K0 H1 a xs)/\R (A3 K0 a) H1)\/(∃a,x=.ref a/\(∃xs,aK K0 H1 a xs)/\R (yG K0 a) H1)
def El (hl:PE X l tl):PI X tg l (abH tl):=by
 intro ae s σ H R I h;apply bE (hl ae s σ H _ I h) λv s1 ⟨x,H1,I1,r1,q1⟩=>?_
 rcases q1 with ⟨a,e,⟨xs,hq⟩,q⟩ |⟨a,e,⟨xs,hq⟩,q⟩
 .subst e;cases r1;let⟨its,rv,p,hz⟩:=I1.list hq.k0;apply wpAny_pyIter_list p.isList ⟨s1.heap.objs.size,[s1.heap.objs.size],_,A3 K0 a,H1,(),I1.kept (t':=s1.toks) λb o e=>Zm _ e,(pV (K:=X.K) a _).le Aj,⟨_,Zz _ rfl,(),()⟩,λb hb=>?_,q⟩;let e:b=s1.heap.objs.size:=by simpa using hb
  subst e;exact I1.jC (Ze _) (I1.cc.fresh (Ze _))
 .subst e;cases r1;let⟨its,rv,p,hz⟩:=I1.tuple hq.k0;apply wpAny_pyIter_tuple (show s1.heap.IsTuple a its.toArray from p) ⟨s1.heap.objs.size,[s1.heap.objs.size],_,yG K0 a,H1,(),I1.kept (t':=s1.toks) λb o e=>Zm _ e,(ot (K:=X.K) a _).le EH,⟨_,Zz _ rfl,(),()⟩,λb hb=>?_,q⟩;let e:b=s1.heap.objs.size:=by simpa using hb
  subst e;exact I1.jC (Ze _) (I1.cc.fresh (Ze _))
def oV (he:PE X e (bR K QX E M)):PI X tg e (vN K QX E (cK M)):=PI.imp (El he) λσ H R ⟨w,O,sl,Q0,c,m,q⟩=>⟨w,O,sl,_,c,m,λx O1 v w1 H1 h1 e1 r1 a1=>by
 split at h1
 .rename_i ds hd;unfold o6 at hd;split at hd
  .cases hd
   let⟨a,xs,rfl,g1,t1⟩:=gw a1;exact .inl ⟨a,(),⟨xs,bG.of g1⟩,q _ O1 w1 H1 _ h1 e1 r1 (BZ a1)⟩
  .cases hd
   let⟨a,xs,rfl,g1,t1⟩:=ff a1;exact .inr ⟨a,(),⟨xs,aK.of g1⟩,q _ O1 w1 H1 _ h1 e1 r1 (BX a1)⟩
  .cases hd
 .exact h1.elim⟩
def tV (lo:Int)(n:Nat):List AV:=(List.range n).map λi:Nat=>.im (.int (lo+(i:Int)))
def BY:lP K (Tk lo n) w O H (tV lo n):=λO2 w2 H2 e r i=>by
 unfold tV;apply⟨λx hx=>?_,λhl=>by show n<=i;simpa using hl⟩;let hi:i<n:=by have:=(Zf.mp hx).1;simpa using this
 rw[Zo,Yy hi] at hx;cases Option.some.inj hx;apply⟨hi,?_⟩;rintro v H3 ⟨rfl,rfl⟩;exact⟨cr.refl _ _ _,r,.int _⟩
def re (Ms:MA):MA:=λsl O Q=>Ms sl O λxs O1=>match xs with
 |[.im (.int n)]=>(-(2 ^ 62)<=n/\n<2 ^ 62)/\Q (tV 0 n.toNat) O1
 |_=>False
def K6 (hg:Gl X "range")(hm:X.mg "range"=none)(ha:PA X [a] (vO K QX E Ms))(hs:starEach [a] X.env=[(false,eval a X.env)]:=by rfl):PI X tg (.Call (.Name "range" p) [a] [] pos) (vN K QX E (re Ms)):=PI.imp (qi hg hm ha hs) λσ H R ⟨w,O,sl,Q0,c,m,q⟩=>⟨w,O,sl,_,c,m,λxs O1 vs w1 H1 h1 e1 r1 a1=>by
 split at h1
 .obtain⟨v,us,rfl,h3,h4⟩:=a1.aW;rw[h4.cj,iq h3];exact⟨_,(),h1.1.1,h1.1.2,q _ O1 w1 H1 _ h1.2 e1 r1 BY⟩
 .exact h1.elim⟩
def cQ (ds:Ξ1):List AV:=(List.range ds.length).map λi:Nat=>.im (.tuple [.int (i:Int),ds.getD i .none])
def ya (t:ci (G w O H) (.ref a) (.tuple ds)):lP K (C7 K0 a) w O H (cQ ds):=λO2 w2 H2 e r i=>by
 cases ci.ak e.ak t with |tup h1 t1=>?_
 rename_i xs;let hh:=(fc h1).1;unfold cQ;apply⟨λx hx=>?_,λhl=>⟨xs,aK.of hh,by rw[t1.len];simpa using hl⟩⟩;let hi:i<ds.length:=by have:=(Zf.mp hx).1;simpa using this
 rw[Zo,Yy hi] at hx;cases Option.some.inj hx;let hd:ds[i]?=some (ds.getD i .none):=by rw[ay (Zc hi)];exact Zc hi
 let⟨v,hv,tv⟩:=t1.get hd;apply⟨⟨xs,v,aK.of hh,hv⟩,?_⟩;rintro v' H3 ⟨p,hp,rfl,hy⟩;let⟨y,Lg,rfl⟩:=hy xs (aK.of hh);rw[hv] at Lg;cases Option.some.inj Lg;let⟨r4,e4,t4⟩:=eV r hp (.cons (.int (i:Int)) (.cons tv .nil));exact⟨e4,r4,t4⟩
def WC (Ms:MA):MA:=λsl O Q=>Ms sl O λxs O1=>match xs with
 |[.im (.tuple ds)]=>Q (cQ ds) O1
 |_=>False
def sx (hg:Gl X "enumerate")(hm:X.mg "enumerate"=none)(hb:bootBuiltins "enumerate"=some (.type "enumerate"))(ha:PA X [a] (vO K QX E Ms))(hs:starEach [a] X.env=[(false,eval a X.env)]:=by rfl):PI X (.Tuple t9 kk qQ) (.Call (.Name "enumerate" p) [a] [] pos) (vN K QX E (WC Ms)):=PI.imp (mB hg hm hb ha hs) λσ H R ⟨w,O,sl,Q0,c,m,q⟩=>⟨w,O,sl,_,c,m,λxs O1 vs w1 H1 h1 e1 r1 a1=>by
 split at h1
 .obtain⟨v,us,rfl,h3,h4⟩:=a1.aW;rw[h4.cj];let⟨a,Ro,rfl,g1,t1⟩:=ff h3;exact⟨a,(),⟨Ro,aK.of g1⟩,q _ O1 w1 H1 _ h1 e1 r1 (ya h3)⟩
 .exact h1.elim⟩
def ww (ds es:Ξ1):List AV:=(List.range ds.length).map λi:Nat=>.im (.tuple [ds.getD i .none,es.getD i .none])
def BW (t:ci (G w O H) (.ref a) (.tuple ds))(u:ci (G w O H) (.ref b) (.tuple es))(Hv:ds.length<=es.length):lP K (R9 K0 a b) w O H (ww ds es):=λO2 w2 H2 e r i=>by
 cases ci.ak e.ak t with |tup h1 t1=>?_
 rename_i xs;cases ci.ak e.ak u with |tup h2 t2=>?_
 rename_i ys;let hh:=(fc h1).1;let ZY:=(fc h2).1;unfold ww;apply⟨λx hx=>?_,λhl=>⟨xs,ys,aK.of hh,aK.of ZY,by rw[t1.len];simpa using hl⟩⟩;let hi:i<ds.length:=by have:=(Zf.mp hx).1;simpa using this
 rw[Zo,Yy hi] at hx;cases Option.some.inj hx;let hd:ds[i]?=some (ds.getD i .none):=by rw[ay (Zc hi)];exact Zc hi
 let he:es[i]?=some (es.getD i .none):=by rw[ay (Zc (show i<es.length by omega))];exact Zc ⋯
 let⟨v,hv,tv⟩:=t1.get hd;let⟨v2,hv2,tv2⟩:=t2.get he;apply⟨⟨xs,ys,v,v2,aK.of hh,aK.of ZY,hv,hv2⟩,?_⟩;rintro v' H3 ⟨p,hp,rfl,hy⟩;let⟨y,y2,Lg,hy2,rfl⟩:=hy xs ys (aK.of hh) (aK.of ZY);rw[hv] at Lg;rw[hv2] at hy2;cases Option.some.inj Lg;cases Option.some.inj hy2;let⟨r4,e4,t4⟩:=eV r hp (.cons tv (.cons tv2 .nil));exact⟨e4,r4,t4⟩
def YQ (Ms:MA):MA:=λsl O Q=>Ms sl O λxs O1=>match xs with
 |[.im (.tuple ds),.im (.tuple es)]=>ds.length<=es.length/\Q (ww ds es) O1
 |_=>False
def Ev (hg:Gl X "zip")(hm:X.mg "zip"=none)(hb:bootBuiltins "zip"=some (.type "zip"))(ha:PA X [a,b] (vO K QX E Ms))(hs:starEach [a,b] X.env=[(false,eval a X.env),(false,eval b X.env)]:=by rfl)(oN:starEach [b] X.env=[(false,eval b X.env)]:=by rfl):PI X (.Tuple t9 kk qQ) (.Call (.Name "zip" p) [a,b] [] pos) (vN K QX E (YQ Ms)):=PI.imp (JM hg hm hb ha hs oN) λσ H R ⟨w,O,sl,Q0,c,m,q⟩=>⟨w,O,sl,_,c,m,λxs O1 vs w1 H1 h1 e1 r1 a1=>by
 split at h1
 .obtain⟨v,us,rfl,h3,h4⟩:=a1.aW;let⟨v2,Rr,rfl,h5,h6⟩:=h4.aW;rw[h6.cj];let⟨a,Ro,rfl,g1,t1⟩:=ff h3;let⟨b,ys',rfl,g2,t2⟩:=ff h5;exact⟨a,b,(),⟨Ro,aK.of g1⟩,⟨ys',aK.of g2⟩,q _ O1 w1 H1 _ h1.2 e1 r1 (BW h3 h5 h1.1)⟩
 .exact h1.elim⟩
structure FB (tg:MG)(body:MS)(D:uA)(sl:j5)(items:List AV)(O1:bF):Prop where
 ex:∃Iv:Nat->j5->bF->Prop,Iv 0 sl O1 /\
 (∀i x dJ O',items[i]?=some x->Iv i dJ O'->tg x dJ O' λcx O2=>Go body { D with nx:=Iv (i+1),ct:=Iv (i+1),bk:=D.nx } cx O2)/\∀dJ O',Iv items.length dJ O'->D.nx dJ O'
def l3 (it:MA)(tg:MG)(body:MS):MS:=λD sl O=>it sl O (FB tg body D sl)
def fo (hp:PassesOwn (model X.prog X.w) X.A X.env X.xe)(hc:X.calm=true)(hi:PI X tg iter (vN K QX E it))(hg:PG X tg (oK K QX E mg))(hb:jw X body (jK K QX E M))(hs:∀x,foldedSetIterable iter X.env x=pure x:=by intro _;rfl):PS X (.For tg iter body [] pos) (jK K QX E (l3 it mg M)):=PS.imp (nE hp hc hi hg hb hs) λD σ H ⟨w,O,sl,D0,c,m,hn,hbk,hct,hr⟩=>⟨w,O,sl,_,c,m,λitems O1 w1 H1 J h1 e1 r1 CS=>by
 let⟨Iv,hI0,hIs,hIe⟩:=h1;apply⟨λi m aS H'=>m=items.length-i/\i<=items.length/\∃w' O' dJ,j2 K QX E w' O' H' aS dJ/\cr w1 O1 H1 w' O' H'/\Iv i dJ O',⟨items.length,by simp,Z7 _,w1,O1,sl,c.ex e1.ex r1,cr.refl _ _ _,hI0⟩,?_⟩;rintro i m aS H' ⟨rfl,Hv,w',O',dJ,c',e',hv⟩;let⟨ig,ie⟩:=CS O' w' H' e'.ex c'.ro i;rcases Z2 i items.length with y |y
 .obtain⟨G1,Hr⟩:=ig _ (Zc y);apply .inr ⟨G1,λcz H2=>∃w2 O2 cx,j2 K QX E w2 O2 H2 cz cx/\cr w1 O1 H1 w2 O2 H2/\Iv (i+1) cx O2,λcz H2 ⟨w2,O2,cx,c2,e2,h2⟩=>⟨items.length-(i+1),⋯,(),y,w2,O2,cx,c2,e2,h2⟩,λv H3 Hs=>?_⟩;let⟨e3,r3,a3⟩:=Hr v H3 Hs;apply⟨w',O',dJ,_,_,c'.ex e3.ex r3,a3,hIs i _ dJ O' (Zc y) hv,λoT O4 w4 H4 Wh h4 c4 e4=>⟨w4,O4,oT,_,c4,h4.go,λAM O5 w5 H5 AK h5 c5 e5=>⟨w5,O5,AM,c5,(e'.trans e3).trans (e4.trans e5),h5⟩,λAM O5 w5 H5 AK h5 c5 e5=>hn AM O5 w5 H5 AK h5 c5 (((e1.trans e').trans e3).trans (e4.trans e5)),λAM O5 w5 H5 AK h5 c5 e5=>⟨w5,O5,AM,c5,(e'.trans e3).trans (e4.trans e5),h5⟩,λx5 O5 w5 H5 v5 h5 e5 r5 a5=>hr x5 O5 w5 H5 v5 h5 (((e1.trans e').trans e3).trans (e4.trans e5)) r5 a5⟩⟩
 .let ei:i=items.length:=⋯;subst ei;exact .inl ⟨ie (Ze _),hn dJ O' w' H' aS (hIe dJ O' hv) c' (e1.trans e')⟩⟩
end
section
def rR (C:MT)(M:MS):MS:=λD sl O=>∃Iv:Nat->j5->bF->Prop,(∃m,Iv m sl O)/\∀m dJ O',Iv m dJ O'->C dJ O' λc O1=>(c=true->M { D with nx:=λs o=>∃m',m'<m/\Iv m' s o,ct:=λs o=>∃m',m'<m/\Iv m' s o,bk:=D.nx } dJ O1)/\(c=false->D.nx dJ O1)
def og (hp:PassesOwn (model X.prog X.w) X.A X.env X.xe)(hc:PT X t (iB K QX E C))(hb:jw X body (jK K QX E M)):PS X (.While t body [] pos) (jK K QX E (rR C M)):=PS.imp (kA hp hc hb) λD σ H h9=>by
 let⟨w,O,sl,D0,c,⟨Iv,⟨m0,ZR⟩,hs⟩,hn,hbk,hct,hr⟩:=h9;apply⟨λm aS H'=>∃w' O' dJ,j2 K QX E w' O' H' aS dJ/\cr w O H w' O' H'/\Iv m dJ O',⟨m0,w,O,sl,c,cr.refl _ _ _,ZR⟩,?_⟩;rintro m aS H' ⟨w',O',dJ,c',e',hv⟩;apply⟨w',O',dJ,_,c',hs m dJ O' hv,λb O1 w1 H1 h1 e1 r1=>?_⟩;cases b with
 |true =>
  apply bt ⟨λcz H2=>∃m',m'<m/\∃w2 O2 cx,j2 K QX E w2 O2 H2 cz cx/\cr w O H w2 O2 H2/\Iv m' cx O2,λcz H2 ⟨m',cD,z⟩=>⟨m',cD,z⟩,w1,O1,dJ,_,c'.ex e1.ex r1,h1.1 rfl,?_,?_,?_,?_⟩
  .rintro AM O5 w5 H5 AK ⟨m',cD,h5⟩ c5 e5;exact⟨m',cD,w5,O5,AM,c5,(e'.trans e1).trans e5,h5⟩
  .intro AM O5 w5 H5 AK h5 c5 e5;exact hn AM O5 w5 H5 AK h5 c5 ((e'.trans e1).trans e5)
  .rintro AM O5 w5 H5 AK ⟨m',cD,h5⟩ c5 e5;exact⟨m',cD,w5,O5,AM,c5,(e'.trans e1).trans e5,h5⟩
  .intro x5 O5 w5 H5 v5 h5 e5 r5 a5;exact hr x5 O5 w5 H5 v5 h5 ((e'.trans e1).trans e5) r5 a5
 |false=>exact bI (hn dJ O1 w1 H1 aS (h1.2 rfl) (c'.ex e1.ex r1) (e'.trans e1))
def Sub (n:Nat)(sl cx:j5):Prop:=cx.length=sl.length/\∀j,n<=j->cx[j]?=sl[j]?
def bw.sub (h:bw K w g σ cx)(s:Sub n (c8 n ix sl) cx):bw K w g σ (c8 n ix sl):=by
 apply⟨h.1.trans s.1,λi x hx=>?_⟩;rcases Z2 i n with y |y
 .unfold c8 at hx;rw[Zq (by simpa using y),Y7,if_pos y] at hx;cases Option.some.inj hx
 .exact h.2 i x (by rw[s.2 i y];exact hx)
def bi.gm (hb:(w'.di,w'.iE)=(w.di,w.iE))(ha:w'.bK=w.bK)(s:aw g g')(h:bi K w g vs xs):bi K w' g' vs xs:=⟨h.1,λi v x h1 h2=>jy.gm hb ha s (h.2 i v x h1 h2)⟩
def bw.gm (hb:(w'.di,w'.iE)=(w.di,w.iE))(ha:w'.bK=w.bK)(s:aw g g')(h:bw K w g σ sl):bw K w' g' σ sl:=⟨h.1,λi x h1=>by let⟨v,h2,h3⟩:=h.2 i x h1;exact⟨v,h2,jy.gm hb ha s h3⟩⟩
def Keeps (n:Nat)(mg:MG):Prop:=∀x sl O Q,mg x sl O Q->mg x sl O λcx O2=>Q cx O2/\Sub n sl cx
def pH (h:i<n):Keeps n (bm i):=λx sl O Q q=>⟨q,by simp,λj hj=>Ya ⋯⟩
def nT (n:Nat)(mg:R7):Prop:=∀x sl O Q,mg x sl O Q->mg x sl O λcx O2=>Q cx O2/\Sub n sl cx
def gG:nT n ck:=λx sl O Q q=>by
 cases x with
 |nil=>exact⟨q,(),λ_ _=>rfl⟩
 |cons y r=>exact q
def GU (h:i<n)(hu:nT n u):nT n (aG (bm i) u):=λx sl O Q q=>by
 cases x with
 |nil=>exact q
 |cons y r =>
  let q':u r (sl.set i (some y)) O Q:=q;have:=hu r _ O _ q';show u r (sl.set i (some y)) O _;let imp:u r (sl.set i (some y)) O (λcx O2=>Q cx O2/\Sub n (sl.set i (some y)) cx)->u r (sl.set i (some y)) O (λcx O2=>Q cx O2/\Sub n sl cx):=λz=>by
   let e:(λcx (O2:bF)=>Q cx O2/\Sub n (sl.set i (some y)) cx)=λcx (O2:bF)=>Q cx O2/\Sub n sl cx:=by
    funext cx O2
    apply propext;unfold Sub;rw[Yo];constructor
    .rintro⟨h1,h2,h3⟩;exact⟨h1,h2,λj hj=>by rw[h3 j hj,Ya ⋯]⟩
    .rintro⟨h1,h2,h3⟩;exact⟨h1,h2,λj hj=>by rw[h3 j hj,Ya ⋯]⟩
   rw[e] at z;exact z
  exact imp this
def RE (h:nT n t):Keeps n (kP m t):=λx sl O Q q=>by
 unfold kP at q ⊢;split
 .rename_i ds hd;rw[hd] at q;exact⟨q.1,h _ sl O Q q.2⟩
 .rename_i hd;rw[hd] at q;exact q
def Gx (c1:j2 K QX E w1 O1 H1 σ sl)(CS:lP K J w1 O1 H1 items)(cF:items.length<=1000000)(Iv:Nat->List AV->bF->Prop)(h0:Iv 0 [] O1)
  (hs:∀i x zs O',items[i]?=some x->Iv i zs O'->mg x (c8 n ix sl) O' λcx O2=>C cx O2 λc O3=>(c=true->M cx O3 λy O4=>Iv (i+1) (zs++[y]) O4)/\(c=false->Iv (i+1) zs O3))
  (hk:Keeps n mg) (acc:Addr) (bU:H1 acc=none)
  (he:∀zs ys O' w' H',Iv items.length zs O'->aF K w' O' H'->w'.bM=(acc,.lst ys)::w1.bM->jc w1 O1 H1 w' O' H'->bi K w' (G w' O' H') ys zs->Qf (.ref acc) H') :
  gR (oK K QX E mg) (iB K QX E C) (bR K QX E M) J acc (dr n ix σ) H1 Qf:=by
 let⟨r0,e0⟩:=c1.ro.hide (o:=.lst []) bU (λxs z=>by cases z);apply⟨λi m aS H'=>m=items.length-i/\i<=items.length/\∃w' O' ys zs,aF K w' O' H'/\w'.bM=(acc,.lst ys)::w1.bM/\jc w1 O1 H1 w' O' H'/\bw K w' (G w' O' H') aS (c8 n ix sl)/\bi K w' (G w' O' H') ys zs/\zs.length<=i/\Iv i zs O',
  ⟨items.length,by simp,Z7 _,_,O1,[],[],r0,(),e0,(c1.so.W1 n ix).ex e0,bi.nil,Ze _,h0⟩,?_⟩
 rintro i m aS H' ⟨rfl,Hv,w',O',ys,zs,r',tN,e',s',a',hz',hv⟩;let⟨ig,ie⟩:=CS O' w' H' e' r' i;rcases Z2 i items.length with y |y
 .obtain⟨G1,Hr⟩:=ig _ (Zc y);apply .inr ⟨G1,λcz H2=>∃w' O' ys zs,aF K w' O' H2/\w'.bM=(acc,.lst ys)::w1.bM/\jc w1 O1 H1 w' O' H2/\bw K w' (G w' O' H2) cz (c8 n ix sl)/\bi K w' (G w' O' H2) ys zs/\zs.length<=i+1/\Iv (i+1) zs O',λcz H2 z=>⟨items.length-(i+1),⋯,(),y,z⟩,λv H3 Hs=>?_⟩;let⟨e3,r3,a3⟩:=Hr v H3 Hs;let Nt:j2 K QX E w' O' H3 aS (c8 n ix sl):=⟨r3,s'.ex e3.ex,λk Nv MM Nx qx Nq MW=>c1.zx k Nv MM Nx qx ((e'.trans e3.ex).trans Nq) MW⟩;apply⟨w',O',_,_,_,Nt,a3,hk _ _ _ _ (hs i _ zs O' (Zc y) hv),λoT O4 w4 H4 Wh h4 c4 e4=>⟨w4,O4,oT,_,c4,h4.1,λb O5 w5 H5 h5 e5 r5=>?_⟩⟩;let qM:=e3.trans (e4.trans e5);cases b with
  |false=>exact bI ⟨w5,O5,ys,zs,r5,qM.bM.trans tN,e'.trans qM.ex,bw.sub (c4.so.ex e5.ex) h4.2,a'.ex qM.ex,⋯,h5.2 rfl⟩
  |true =>
   apply bt ⟨w5,O5,oT,_,c4.ex e5.ex r5,h5.1 rfl,λz O6 v6 w6 H6 h6 e6 r6 a6=>?_⟩;let C4:=qM.trans e6;let SY:w6.bM=(acc,.lst ys)::w1.bM:=C4.bM.trans tN;let⟨n1,n2,n3,n4⟩:=r6.nh (acc,.lst ys) (by rw[SY];exact Zi);let⟨r7,s7⟩:=r6.rG (o':=.lst (ys++[v6])) SY (λxs z=>by cases z);let HB:=e'.trans C4.ex;apply⟨ys,n3,by rw[a'.1,sz];omega,{ w6 with bM:=(acc,.lst (ys++[v6]))::w1.bM },O6,ys++[v6],zs++[z],r7,rfl,⟨HB.bs,HB.bK,⟨[(acc,.lst (ys++[v6]))],rfl⟩,HB.ak.trans s7,HB.dk⟩,?_,?_,by rw[Zu];simp;omega,h6⟩
   .exact bw.gm rfl rfl s7 (bw.sub ((c4.so.ex e5.ex).ex e6.ex) h4.2)
   .exact bi.gm rfl rfl s7 ((a'.ex C4.ex).app (bi.cons a6 bi.nil))
 .let ei:i=items.length:=⋯;subst ei;exact .inl ⟨ie (Ze _),he zs ys O' w' H' hv r' tN e' a'⟩
structure CB (n:Nat)(ix:List Nat)(mg:MG)(C:MT)(M:ME)(sl:j5)(Q:AV->bF->Prop)(items:List AV)(O1:bF):Prop where
 len:items.length<=1000000
 ex:∃Iv:Nat->Ξ1->bF->Prop,Iv 0 [] O1 /\
 (∀i x ds O',items[i]?=some x->Iv i ds O'->mg x (c8 n ix sl) O' λcx O2=>C cx O2 λc O3=>(c=true->M cx O3 λy O4=>match y with
   |.im d=>Iv (i+1) (ds++[d]) O4
   |_=>False)/\(c=false->Iv (i+1) ds O3))/\∀ds O',Iv items.length ds O'->Q (.im (.list ds)) O'
def cL (n:Nat)(ix:List Nat)(it:MA)(mg:MG)(C:MT)(M:ME):ME:=λsl O Q=>it sl O (CB n ix mg C M sl Q)
structure CBO (n:Nat)(ix:List Nat)(mg:MG)(C:MT)(M:ME)(sl:j5)(Q:AV->bF->Prop)(items:List AV)(O1:bF):Prop where
 len:items.length<=1000000
 ex:∃Iv:Nat->List AV->bF->Prop,Iv 0 [] O1 /\
 (∀i x zs O',items[i]?=some x->Iv i zs O'->mg x (c8 n ix sl) O' λcx O2=>C cx O2 λc O3=>(c=true->M cx O3 λy O4=>Iv (i+1) (zs++[y]) O4)/\(c=false->Iv (i+1) zs O3))/\∀zs O',Iv items.length zs O'->Q (.own O'.length) (O'++[some zs])
def k7 (n:Nat)(ix:List Nat)(it:MA)(mg:MG)(C:MT)(M:ME):ME:=λsl O Q=>it sl O (CBO n ix mg C M sl Q)
def oB (hk:Keeps n mg):∀σ H Q,bR K QX E (k7 n ix it mg C M) σ H Q->yH (vN K QX E it) (oK K QX E mg) (iB K QX E C) (bR K QX E M) n ix σ H Q :=
 λσ H Q ⟨w,O,sl,Q0,c,m,q⟩=>⟨w,O,sl,_,c,m,λitems O1 w1 H1 J h1 e1 r1 CS acc bU=>by
  let⟨hl,Iv,h0,hs,he⟩:=h1;apply Gx (c.ex e1.ex r1) CS hl Iv h0 hs hk acc bU λzs ys O' w' H' hv r' tN e' a'=>?_
  let⟨r2,s2,tO⟩:=r'.IT tN a';apply q _ _ _ { w' with bM:=w1.bM,bK:=w'.bK++[acc] } _ (he zs O' hv) ⟨e1.ex.trans ⟨e'.bs,?_,⟨[],rfl⟩,e'.ak.trans s2,e'.dk⟩,e1.bM⟩ r2 ⟨acc,tO,λz=>absurd (r'.dl _ z) (Yj _),rfl⟩;let⟨t,ht⟩:=e'.bK;exact⟨t++[acc],by show w'.bK++[acc]=_;rw[ht,Ys]⟩⟩
def qq (hk:Keeps n mg):∀σ H Q,bR K QX E (cL n ix it mg C M) σ H Q->yH (vN K QX E it) (oK K QX E mg) (iB K QX E C) (bR K QX E M) n ix σ H Q :=
 λσ H Q ⟨w,O,sl,Q0,c,m,q⟩=>⟨w,O,sl,_,c,m,λitems O1 w1 H1 J h1 e1 r1 CS acc bU=>by
  let⟨hl,Iv,h0,hs,he⟩:=h1;let hC:=c.ex e1.ex r1;let⟨r0,e0⟩:=hC.ro.hide (o:=.lst []) bU (λxs z=>by cases z);apply⟨λi m aS H'=>m=items.length-i/\i<=items.length/\∃w' O' ys zs,aF K w' O' H'/\w'.bM=(acc,.lst ys)::w1.bM/\jc w1 O1 H1 w' O' H'/\bw K w' (G w' O' H') aS (c8 n ix sl)/\aH (G w' O' H') ys zs/\zs.length<=i/\Iv i zs O',
   ⟨items.length,by simp,Z7 _,_,O1,[],[],r0,(),e0,(hC.so.W1 n ix).ex e0,.nil,Ze _,h0⟩,?_⟩
  rintro i m aS H' ⟨rfl,Hv,w',O',ys,zs,r',tN,e',s',a',hz',hv⟩;let⟨ig,ie⟩:=CS O' w' H' e' r' i;rcases Z2 i items.length with y |y
  .obtain⟨G1,Hr⟩:=ig _ (Zc y);apply .inr ⟨G1,λcz H2=>∃w' O' ys zs,aF K w' O' H2/\w'.bM=(acc,.lst ys)::w1.bM/\jc w1 O1 H1 w' O' H2/\bw K w' (G w' O' H2) cz (c8 n ix sl)/\aH (G w' O' H2) ys zs/\zs.length<=i+1/\Iv (i+1) zs O',λcz H2 z=>⟨items.length-(i+1),⋯,(),y,z⟩,λv H3 Hs=>?_⟩;let⟨e3,r3,a3⟩:=Hr v H3 Hs;let Nt:j2 K QX E w' O' H3 aS (c8 n ix sl):=⟨r3,s'.ex e3.ex,λk Nv MM Nx qx Nq MW=>hC.zx k Nv MM Nx qx ((e'.trans e3.ex).trans Nq) MW⟩;apply⟨w',O',_,_,_,Nt,a3,hk _ _ _ _ (hs i _ zs O' (Zc y) hv),λoT O4 w4 H4 Wh h4 c4 e4=>⟨w4,O4,oT,_,c4,h4.1,λb O5 w5 H5 h5 e5 r5=>?_⟩⟩;let qM:=e3.trans (e4.trans e5);cases b with
   |false=>exact bI ⟨w5,O5,ys,zs,r5,qM.bM.trans tN,e'.trans qM.ex,bw.sub (c4.so.ex e5.ex) h4.2,aH.ak qM.ex.ak a',⋯,h5.2 rfl⟩
   |true =>
    apply bt ⟨w5,O5,oT,_,c4.ex e5.ex r5,h5.1 rfl,λz O6 v6 w6 H6 h6 e6 r6 a6=>?_⟩;split at h6
    .rename_i d;let C4:=qM.trans e6;let SY:w6.bM=(acc,.lst ys)::w1.bM:=C4.bM.trans tN;let⟨n1,n2,n3,n4⟩:=r6.nh (acc,.lst ys) (by rw[SY];exact Zi);let⟨r7,s7⟩:=r6.rG (o':=.lst (ys++[v6])) SY (λxs z=>by cases z);let HB:=e'.trans C4.ex;apply⟨ys,n3,by rw[a'.len,sz];omega,{ w6 with bM:=(acc,.lst (ys++[v6]))::w1.bM },O6,ys++[v6],zs++[d],r7,rfl,⟨HB.bs,HB.bK,⟨[(acc,.lst (ys++[v6]))],rfl⟩,HB.ak.trans s7,HB.dk⟩,?_,?_,by rw[Zu];simp;omega,h6⟩
     .exact bw.gm rfl rfl s7 (bw.sub ((c4.so.ex e5.ex).ex e6.ex) h4.2)
     .exact aH.ak s7 ((aH.ak C4.ex.ak a').app (.cons a6 .nil))
    .exact h6.elim
  .let ei:i=items.length:=⋯;subst ei;apply .inl ⟨ie (Ze _),?_⟩;let⟨r2,s2,g2⟩:=r'.D3 tN;exact q _ _ _ { w' with bM:=w1.bM } _ (he zs O' hv) ⟨e1.ex.trans ⟨e'.bs,e'.bK,⟨[],rfl⟩,e'.ak.trans s2,e'.dk⟩,e1.bM⟩ r2 (.lst g2 (aH.ak s2 a'))⟩
def dj.imp (h:dj X eu t)(i:∀σ H Q,t' σ H Q->t σ H Q):dj X eu t':=λae s σ H Q I q=>h ae s σ H Q I (i σ H Q q)
def eC:MT:=λ_ O Q=>Q true O
def qG:dj X [] (iB K QX E eC):=dj.imp Cv λσ H Q ⟨w,O,sl,Q0,c,m,q⟩=>q true O w H m (cr.refl _ _ _) c.ro
def iR (h:PT X e (iB K QX E M)):dj X [e] (iB K QX E M):=kB h
section
def pF (B:aM X scope own cap ix)(hc:X.calm=true)(hi:PI X tg iter (vN K QX E it))(hk:Keeps own.length mg)
  (hb:∀C' fp s H,PG (cP X scope C' (own++cap) fp s H) tg (oK K QX E mg)/\dj (cP X scope C' (own++cap) fp s H) eu (iB K QX E C)/\PE (cP X scope C' (own++cap) fp s H) gk (bR K QX E M))
  (hs:∀x,foldedSetIterable iter X.env x=pure x:=by intro _;rfl):PE X (.ListComp gk [⟨tg,iter,eu,0⟩] scope pos) (bR K QX E (cL own.length ix it mg C M)):=PE.imp (yB B hc hi hb hs) (qq hk)
def FV (B:aM X scope own cap ix)(hc:X.calm=true)(hi:PI X tg iter (vN K QX E it))(hk:Keeps own.length mg)
  (hb:∀C' fp s H,PG (cP X scope C' (own++cap) fp s H) tg (oK K QX E mg)/\dj (cP X scope C' (own++cap) fp s H) eu (iB K QX E C)/\PE (cP X scope C' (own++cap) fp s H) gk (bR K QX E M))
  (hs:∀x,foldedSetIterable iter X.env x=pure x:=by intro _;rfl):PE X (.ListComp gk [⟨tg,iter,eu,0⟩] scope pos) (bR K QX E (k7 own.length ix it mg C M)):=PE.imp (yB B hc hi hb hs) (oB hk)
def Kg (hN:X.N.Nodup)(Hw:X.N[i]?=some y)(hx:X.env.scope.names.lookup y=some .local)(B:aM X scope own cap ix)(hc:X.calm=true)(hi:PI X tg iter (vN K QX E it))(hk:Keeps own.length mg)
  (hb:∀C' fp s H,PG (cP X scope C' (own++cap) fp s H) tg (oK K QX E mg)/\dj (cP X scope C' (own++cap) fp s H) eu (iB K QX E C)/\PE (cP X scope C' (own++cap) fp s H) gk (bR K QX E M))
  (CT:swapsWith (.ListComp gk [⟨tg,iter,eu,0⟩] scope pos) (some (.Name y py)) qR.line X.env=pure true:=by rfl)
  (hs:∀x,foldedSetIterable iter X.env x=pure x:=by intro _;rfl):PS X (.Assign [.Name y py] (.ListComp gk [⟨tg,iter,eu,0⟩] scope pos) qR) (jK K QX E (bH (cL own.length ix it mg C M) (bm i))):=PS.imp (zO hN Hw hx B hc hi hb CT hs) (iU (qq hk) kw)
def uV (hN:X.N.Nodup)(Hw:X.N[i]?=some y)(hx:X.env.scope.names.lookup y=some .local)(B:aM X scope own cap ix)(hc:X.calm=true)(hi:PI X tg iter (vN K QX E it))(hk:Keeps own.length mg)
  (hb:∀C' fp s H,PG (cP X scope C' (own++cap) fp s H) tg (oK K QX E mg)/\dj (cP X scope C' (own++cap) fp s H) eu (iB K QX E C)/\PE (cP X scope C' (own++cap) fp s H) gk (bR K QX E M))
  (CT:swapsWith (.ListComp gk [⟨tg,iter,eu,0⟩] scope pos) (some (.Name y py)) qR.line X.env=pure true:=by rfl)
  (hs:∀x,foldedSetIterable iter X.env x=pure x:=by intro _;rfl):PS X (.Assign [.Name y py] (.ListComp gk [⟨tg,iter,eu,0⟩] scope pos) qR) (jK K QX E (bH (k7 own.length ix it mg C M) (bm i))):=PS.imp (zO hN Hw hx B hc hi hb CT hs) (iU (oB hk) kw)
end
abbrev FM:=bF->List AV->(AV->bF->Prop)->(Addr->bF->Prop)->Prop
def pL (K:Θ1)(sp:Sp)(F:FM):Prop:=∀(w:Wd) (O:bF) (H:Hp) (vs:List V) (xs:List AV) (P:AV->bF->Prop) (PX:Addr->bF->Prop) (Q:VK) (E:XK),aF K w O H->bi K w (G w O H) vs xs->F O xs P PX ->
 (∀z q O' w' H',P q O'->cr w O H w' O' H'->aF K w' O' H'->jy K w' (G w' O' H') z q->Q z H')->(∀c O' w' H',PX c O'->jc w O H w' O' H'->aF K w' O' H'->E (.ref c) none H')->sp vs H Q E
def cT (K:Θ1)(F:FM):Sp:=λvs H Q E=>∃w O xs P PX,aF K w O H/\bi K w (G w O H) vs xs/\F O xs P PX/\(∀z q O' w' H',P q O'->cr w O H w' O' H'->aF K w' O' H'->jy K w' (G w' O' H') z q->Q z H')/\∀c O' w' H',PX c O'->jc w O H w' O' H'->aF K w' O' H'->E (.ref c) none H'
def ir:pL K (cT K F) F:=λw O H vs xs P PX Q E r a f q x=>⟨w,O,xs,P,PX,r,a,f,q,x⟩
def aC (F:FM)(QX:Addr->bF->Prop)(Ms:MA):ME:=λsl O Q=>Ms sl O λxs O1=>F O1 xs Q QX
def cb:Addr->bF->Prop:=λ_ _=>False
def FX (G':aI X.prog X.w X.K X.mg X.base bY k f fd ps sp)(lk:pL K sp F)(hr:db k X.A)(hg:Gl X x)(hm:X.mg x=some (.ref f))(hk:PySem.W.keepIn X.K (.ref f)=true)(hb:Binds X.K fd ps [])
  (ha:PA X (e::es) (vO K QX E Ms)) (wq:(x == ("__debug__" : Str))=false:=by decide) (he:starEach (e::es) X.env=(false,eval e X.env)::starEach es X.env:=by rfl) (lW:(backTo pos (starEach es X.env)).any (·.1)=false:=by rfl) :
  PE X (.Call (.Name x p) (e::es) [] pos) (bR K QX E (aC F cb Ms)):=PE.imp (du G' hr hg hm hk hb (Ha:=[]) .nil aO ha wq he lW) λσ H Q ⟨w,O,sl,Q0,c,m,q⟩=>⟨w,O,sl,_,c,m,λxs O1 vs w1 H1 h1 e1 r1 a1=>by
 show sp (vs++[]) H1 Q E0;rw[Ym];exact lk w1 O1 H1 vs xs _ cb Q E0 r1 a1 h1 (λz z' O3 w3 H3 h3 e3 r3 a3=>q _ O3 z w3 H3 h3 (e1.trans e3) r3 a3) λk O' w' H' qx e' r'=>qx.elim⟩
def bp (N:Δ2)(xs:List AV):j5:=xs.map some++List.replicate (N.length-xs.length) none
def vm (a:bi K w g vs xs):bw K w g (L2.start N vs) (bp N xs):=by
 unfold L2.start bp;apply⟨by simp[a.1],λi x hx=>?_⟩;rcases Z2 i xs.length with y |y
 .rw[Zq (by simpa using y),Zo,Zc y] at hx;let ex:xs[i]=x:=by injection (Option.some.inj hx)
  let yv:i<vs.length:=by rw[a.1];exact y
  apply⟨vs[i],?_,a.2 i _ x (Zc yv) (by rw[Zc y,ex])⟩;rw[Zq (by simpa using yv),Zo,Zc yv];rfl
 .rw[Yh (by simpa using y),Y7] at hx;split at hx
  .cases Option.some.inj hx
  .cases hx
def j3 (U:cG K x qual st f fd)(S:ai N ps (bA st))(hl:∀O xs P PX,F O xs P PX->xs.length=ps.length)
  (hb:∀(bD:Value) (A:Around) (outer:List Env) (s:Shared) (H:Hp) (E:XK) (QX:Addr->bF->Prop),db k (A.deeper (PyProof.Rows.envOfC qual (bA st) s.heap.objs.size f bD)) ->
   ∃M,jw (wK bY P wo K mg base N qual (bA st) f bD A outer s H E).Sv (tI st) (jK K QX E M)/\∀O xs Pq,F O xs Pq QX->M { nx:=λ_ O'=>Pq (.im .none) O',rt:=Pq } (bp N xs) O):aI P wo K mg base bY (k+1) f fd ps (cT K F):=by
 apply U.ok S (λvs H Q E h9=>by let⟨w,O,xs,P,PX,r,a,h,q⟩:=h9;rw[a.1];exact hl O xs P PX h) (λbD A outer s H vs Q E hr h9=>?_);let⟨w,O,xs,P',PX,r,a,h,q,x⟩:=h9;let⟨M,hM,hq⟩:=hb bD A outer s H E PX hr;exact⟨_,hM,w,O,bp N xs,_,⟨r,vm a,x⟩,hq O xs P' h,λdJ O' w' H' aS h' c' e'=>q _ _ O' w' H' h' e' c'.ro .cg,λdJ O' w' H' aS h' c' e'=>h'.elim,λdJ O' w' H' aS h' c' e'=>h'.elim,λx' O' w' H' v h' e' r' a'=>q v x' O' w' H' h' e' r' a'⟩
def Ij (Mo:ME)(Ms:MA):ME:=λsl O Q=>Mo sl O λo O1=>match o with
 |.own k=>(∃c,O1[k]?=some (some c))/\Ms sl O1 λxs O2=>match xs with
  |[y]=>∃c,O2[k]?=some (some c)/\c.length<sizeLine/\Q (.im .none) (O2.set k (some (c++[y])))
  |_=>False
 |_=>False
end
section
def xc (ho:PE X o (bR K QX E Mo))(ha:PA X [e] (vO K QX E Ms))
  (ut:attributeBase o "append" X.env (eval o X.env)=eval o X.env:=by rfl)
  (N4:((backTo jO (starEach [e] X.env)).all (λx=>!x.1)&&(backToKw jO (keywordEach [] X.env)).all (λx=>x.1.isSome)
   && decide ([e].length+([]:List Keyword).length+(if ([]:List Keyword).isEmpty then 0 else 1)<30))=true:=by rfl)
  (ur:(rq.endLine == jO.line)=true:=by rfl) (hs:starEach [e] X.env=(false,eval e X.env)::starEach [] X.env:=by rfl) (xm:(backTo jO (starEach [] X.env)).any (·.1)=false:=by rfl) :
  PE X (.Call (.Attribute o "append" rq) [e] [] jO) (bR K QX E (Ij Mo Ms)):=PE.imp (VD PySem.F.plainAttrs_list PySem.F.slot_list_append PySem.F.type_list_append ql ho ha ut N4 ur hs xm) λσ H Q ⟨w,O,sl,Q0,c,m,q⟩=>⟨w,O,sl,_,c,m,λo' O1 v w1 H1 h1 e1 r1 a1=>by
 split at h1
 .obtain⟨⟨c0,WN⟩,h1⟩:=h1;let⟨p,hp,pK,rfl⟩:=a1;let Iu:∀{w2:Wd}{O2:bF}{H2:Hp},cr w1 O1 H1 w2 O2 H2->_∉w2.iE:=λe z=>pK ((e.ex.dk _ (Zf.mp hp).1).mp z)
  apply⟨.inl ⟨(),?_⟩,w1,O1,sl,_,c.ex e1.ex r1,h1,λxs O2 vs w2 H2 h2 e2 r2 a2=>?_⟩
  .obtain⟨p1,lU,h0,g1,t1⟩:=r1.pe pK WN;rw[hp] at h0;cases Option.some.inj h0;exact⟨lU,bG.of g1⟩
  .split at h2
   .obtain⟨c',qL,h2⟩:=h2;let⟨v1,us,rfl,b1,b2⟩:=a2.aW;rw[b2.cj];let⟨p1,lU,h0,g1,t1⟩:=r2.pe (Iu e2) qL;rw[e2.ex.at hp] at h0;cases Option.some.inj h0;let⟨r3,e3⟩:=r2.put qL (Iu e2) (e2.ex.at hp) g1 (t1.app (bi.cons b1 bi.nil));exact⟨_,lU,v1,(),(),g1,by rw[t1.1];exact h2.1,q _ _ _ _ _ h2.2 ((e1.trans e2).trans e3) r3 .cg⟩
   .exact h2.elim
 .exact h1.elim⟩
structure nj (O O':bF):Prop where
 len:O'.length=O.length
 at':∀j:Nat,O'[j]?=O[j]? \/ O'[j]?=some none
def nj.refl (O:bF):nj O O:=⟨(),λ_=>.inl rfl⟩
def nj.set (h:nj O O')(k:Nat):nj O (O'.set k none):=⟨by rw[Yo];exact h.len,λj=>by
 by_cases e:k=j
 .subst e;rcases Z2 k O'.length with y |y
  .exact .inr (Yk y)
  .rw[List.set_eq_of_length_le y];exact h.at' k
 .rw[Ya e];exact h.at' j⟩
def aF.less (r:aF K w O H)(h:nj O O'):aF K w O' H/\cr w O H w O' H/\∀(j:Nat) a,O'[j]?=some none->w.bK[j]?=some a->G w O' H a=H a:=by
 let back:∀(j:Nat) c,O'[j]?=some (some c)->O[j]?=some (some c):=λj c hj=>by
  rcases h.at' j with e |e
  .grind
  grind
 let kW:∀x,jx w O' x->jx w O x:=λx h=>by
  rcases h with h |h |⟨j,d,h1,h2⟩
  .exact .inl h
  .exact .inr (.inl h)
  .exact .inr (.inr ⟨j,d,h1,back j d h2⟩)
 let sg:aw (G w O H) (G w O' H):=λx o h=>by
  let⟨h1,h2⟩:=fc h;rw[gQ (λz=>h2 (kW x z))];exact h1
 let e:cr w O H w O' H:=⟨⟨⟨[],by simp⟩,⟨[],by simp⟩,⟨[],by simp⟩,sg,λ_ _=>Iff.rfl⟩,()⟩;apply⟨⟨by rw[h.len];exact r.len,r.nd,r.al,r.nb,r.hn,r.nh,r.bg,λj d hj=>?_,λj hj=>by rw[h.len];exact r.dl j hj⟩,e,λj a hj ha=>?_⟩
 .obtain⟨a',us,h1,h2,h3⟩:=r.vV j d (back j d hj);exact⟨a',us,h1,h2,h3.ex e.ex⟩
 .rw[gQ];rintro(h1 |⟨o,h1⟩ |⟨i,d,h1,h2⟩)
  .exact r.nb _ h1 (Z0 ha)
  .exact(r.nh _ h1).1 (Z0 ha)
  .have:j=i:=(List.getElem?_inj (Zf.mp ha).1 r.nd).mp (ha.trans h1.symm)
   grind
def aF.MF (r:aF K w O H)(h:nj O O')(hk:O[k]?=some (some (ds.map .im)))(gI:O'[k]?=some none)(pK:k∉w.iE)(ha:w.bK[k]?=some a):ci (G w O' H) (.ref a) (.list ds):=by
 let⟨r1,e1,g1⟩:=r.less h;let⟨a',vs,h1,h2,h3⟩:=r.pe pK hk;rw[ha] at h1;cases Option.some.inj h1;exact .lst (xs:=vs) (by rw[g1 k a gI ha];exact h2) (bi.tr (h3.ex e1.ex))
def uI {α : Type}{xs:List α}{i:Nat}{x:α}(h:xs[i]?=some x):xs.set i x=xs:=by
 apply Qk;intro j;by_cases e:i=j
 .subst e;rw[Yk (Zf.mp h).1,h]
 .rw[Ya e]
def Ii (i:Nat)(M:MS):MS:=λD sl O=>∃(k:Nat) (ds:Ξ1),sl[i]?=some (some (.own k))/\O[k]?=some (some (ds.map .im))/\M D (sl.set i (some (.im (.list ds)))) (O.set k none)
def wV (i:Nat){Si:List Stmt}(h:jw X Si (jK K QX E M)):jw X Si (jK K QX E (Ii i M)):=jw.imp h λD σ H h9=>by
 let⟨w,O,sl,D0,c,⟨k,ds,h1,h2,m⟩,hn,hb,hc,hr⟩:=h9;let hL:=(nj.refl O).set k;let⟨r1,e1,_⟩:=c.ro.less hL;let⟨v,hv,a,ha,pK,rfl⟩:=c.so.2 i _ h1;let t:=c.ro.MF hL h2 (Yk (Zf.mp h2).1) pK ha;let c2:=(c.ex e1.ex r1).put (x:=.im (.list ds)) t i;rw[uI hv] at c2;exact⟨w,_,_,D0,c2,m,λcx O2 w2 H2 cz h2 c2 e2=>hn cx O2 w2 H2 cz h2 c2 (e1.trans e2),λcx O2 w2 H2 cz h2 c2 e2=>hb cx O2 w2 H2 cz h2 c2 (e1.trans e2),λcx O2 w2 H2 cz h2 c2 e2=>hc cx O2 w2 H2 cz h2 c2 (e1.trans e2),λx O2 w2 H2 v h2 e2 r2 a2=>hr x O2 w2 H2 v h2 (e1.trans e2) r2 a2⟩
def hX (O:bF):List Nat->bF
 |[]=>O
 |k::ks=>hX (O.set k none) ks
theorem kJ:∀(ks:List Nat) {O O':bF},nj O O'->nj O (hX O' ks)
 |[],_,_,h=>h
 |k::ks,_,_,h=>kJ ks (h.set k)
theorem kK:∀(ks:List Nat) {O:bF}{j:Nat},O[j]?=some none->(hX O ks)[j]?=some none
 |[],_,_,h=>h
 |k::ks,O,j,h=>kK ks (by
  by_cases e:k=j
  .subst e;exact Yk (Zf.mp h).1
  .rw[Ya e];exact h)
theorem jV:∀(ks:List Nat) {O:bF}{j:Nat},j∈ks->j<O.length->(hX O ks)[j]?=some none
 |k::ks,O,j,h,hl=>by
  rcases Zk.mp h with e |e
  .subst e;exact kK ks (Yk hl)
  .exact jV ks e (by rw[Yo];exact hl)
def DK (i:Nat)(M:MS):MS:=λD sl O=>∃(k:Nat) (ks:List Nat) (Lq:List (Ξ1)),sl[i]?=some (some (.own k))/\O[k]?=some (some (ks.map .own))/\ks.length=Lq.length/\(∀(j:Nat) kj,ks[j]?=some kj->O[kj]?=some (some ((Lq.getD j []).map .im))) /\
 M D (sl.set i (some (.im (.list (Lq.map .list))))) (hX O (k::ks))
theorem zA:∀{vs:List V}{ds:Ξ1},vs.length=ds.length->(∀(j:Nat) v d,vs[j]?=some v->ds[j]?=some d->ci g v d)->aH g vs ds
 |[],[],_,_=>.nil
 |v::vs,d::ds,h,f=>.cons (f 0 v d rfl rfl) (zA (by simpa using h) λj v' d' h1 h2=>f (j+1) v' d' (by simpa using h1) (by simpa using h2))
def Kh (i:Nat){Si:List Stmt}(h:jw X Si (jK K QX E M)):jw X Si (jK K QX E (DK i M)):=jw.imp h λD σ H h9=>by
 let⟨w,O,sl,D0,c,⟨k,ks,Lq,h1,h2,hl,h3,m⟩,hn,hb,hc,hr⟩:=h9;let hL:=kJ (k::ks) (nj.refl O);let⟨r1,e1,g1⟩:=c.ro.less hL;let⟨v,hv,a,ha,pK,rfl⟩:=c.so.2 i _ h1;let RP:=(Zf.mp h2).1;let⟨a',vs,q1,q2,q3⟩:=c.ro.pe pK h2;rw[ha] at q1;cases Option.some.inj q1;let t:ci (G w (hX O (k::ks)) H) (.ref a) (.list (Lq.map .list)):=by
  apply .lst (xs:=vs) (by rw[g1 k a (jV _ Zi RP) ha];exact q2) (zA (by rw[q3.1,Zb,Zb,hl]) λj v d hv hd=>?_);let hj:j<Lq.length:=by have:=(Zf.mp hd).1;simpa using this
  let gI:ks[j]?=some ks[j]:=Zc ⋯;have:=q3.2 j v (.own ks[j]) hv (by rw[Zo,gI];rfl);let⟨p,hp,Iu,rfl⟩:=this;let hO:=h3 j _ gI;rw[Zo,Zc hj] at hd;let W':d=.list (Lq.getD j []):=by rw[ay (Zc hj)];exact(Option.some.inj hd).symm
  rw[W'];exact c.ro.MF hL hO (jV _ (Zj _ (Z0 gI)) (Zf.mp hO).1) Iu hp
 let c2:=(c.ex e1.ex r1).put (x:=.im (.list (Lq.map .list))) t i;rw[uI hv] at c2;exact⟨w,_,_,D0,c2,m,λcx O2 w2 H2 cz h2 c2 e2=>hn cx O2 w2 H2 cz h2 c2 (e1.trans e2),λcx O2 w2 H2 cz h2 c2 e2=>hb cx O2 w2 H2 cz h2 c2 (e1.trans e2),λcx O2 w2 H2 cz h2 c2 e2=>hc cx O2 w2 H2 cz h2 c2 (e1.trans e2),λx O2 w2 H2 v h2 e2 r2 a2=>hr x O2 w2 H2 v h2 (e1.trans e2) r2 a2⟩
def A6 (M:ME):ME:=λsl O Q=>M sl O λx O1=>match x with
 |.im (.int i)=>Q (.im (.int (-i))) O1
 |_=>False
def nK (h:PE X a (bR K QX E M)):PE X (.UnaryOp .USub a pos) (bR K QX E (A6 M)):=PE.imp (LU D4 h) λσ H Q ⟨w,O,sl,Q0,c,m,q⟩=>⟨w,O,sl,_,c,m,λx O1 v w1 H1 h1 e1 r1 a1=>by
 split at h1
 .exact⟨_,iq a1,q _ O1 _ w1 H1 h1 e1 r1 (.int _)⟩
 .exact h1.elim⟩
def jH:FM:=λO xs P _=>match xs with
 |[.bag _,.im (.int m)]=>(0<m/\m<1073741824)/\∀r:Int,0<=r->r<m->P (.im (.int r)) O
 |_=>False
def fU:pL K rA jH:=λw O H vs xs P PX Q E r a hf q x=>by
 unfold jH at hf;split at hf
 .obtain⟨v,us,rfl,h1,h2⟩:=a.aW;let⟨v2,Rr,rfl,h3,h4⟩:=h2.aW;rw[h4.cj];let⟨b,hb,rfl⟩:=h1;rw[iq h3];let gJ:=Z0 hb;apply⟨b,_,(),r.bg b gJ,hf.1.1,hf.1.2,λi H' h0 hm hB hK=>?_⟩;let⟨r1,e1,_⟩:=r.draw gJ hK hB;exact q _ _ O w H' (hf.2 i h0 hm) e1 r1 (.int _)
 .exact hf.elim
def N9:FM:=λO xs P _=>match xs with
 |[.tE _,.im (.int k)]=>(0<=k/\k<100)/\∀j,P (.bag j) O
 |_=>False
def QF:pL K (DC K) N9:=λw O H vs xs P PX Q E r a hf q x=>by
 unfold N9 at hf;split at hf
 .obtain⟨v,us,rfl,h1,h2⟩:=a.aW;let⟨v2,Rr,rfl,h3,h4⟩:=h2.aW;rw[h4.cj];let⟨b,rfl,hb⟩:=h1;rw[iq h3];apply⟨b,_,_,(),KG.bG.ak hb ng,hf.1.1,hf.1.2,λp c d hp=>?_⟩;let⟨r1,e1⟩:=r.bag (x:=c) (y:=d) hp;exact q _ _ O _ _ (hf.2 w.di.length) e1 r1 ⟨p,by simp,()⟩
 .exact hf.elim
def DJ (r:aF K w O H)(hp:H p=none):aF K w O (aQ H p (qO q))/\cr w O H w O (aQ H p (qO q))/\ci (G w O (aQ H p (qO q))) (.ref p) (qD q):=eV r hp (.cons (.int _) (.cons (.int _) .nil))
def KA (r:aF K w O H)(s:aw H H')(hp:H' p=some (qO q)):aF K w O H'/\cr w O H w O H'/\ci (G w O H') (.ref p) (qD q):=jt r s hp (.cons (.int _) (.cons (.int _) .nil))
def R0 (h:ci (G w O H) v (qD q)):∃p,v=.ref p/\H p=some (qO q):=by
 let⟨a,xs,rfl,h1,t⟩:=ff h;cases t with |cons t1 t2=>cases t2 with |cons t2 t3=>cases t3;cases t1;cases t2;exact⟨a,(),h1⟩
def Lp:FM:=λO xs P _=>match xs with
 |[.im (.int t),.im (.int u)]=>(0<u/\Bd 8000 u)/\P (.im (qD (Rat.divInt t u))) O
 |_=>False
def Mm:pL K qS Lp:=λw O H vs xs P PX Q E r a hf q x=>by
 unfold Lp at hf;split at hf
 .obtain⟨v,us,rfl,h1,h2⟩:=a.aW;let⟨v2,Rr,rfl,h3,h4⟩:=h2.aW;rw[h4.cj,iq h1,iq h3];apply⟨_,_,(),hf.1.1,hf.1.2,λp hp=>?_⟩;let⟨r1,e1,t1⟩:=DJ r hp;exact q _ _ O w _ hf.2 e1 r1 t1
 .exact hf.elim
def f2 (op:Rat->Rat->Rat):FM:=λO xs P _=>∃a b,xs=[.im (qD a),.im (qD b)]/\(Rb 3000 a/\Rb 3000 b)/\P (.im (qD (op a b))) O
def rf:pL K (AL op) (f2 op):=λw O H vs xs P PX Q E r a hf q x=>by
 let⟨a1,b1,rfl,h0,hf⟩:=hf;let⟨v,us,rfl,h1,h2⟩:=a.aW;let⟨v2,Rr,rfl,h3,h4⟩:=h2.aW;rw[h4.cj];let⟨p1,rfl,g1⟩:=R0 h1;let⟨p2,rfl,g2⟩:=R0 h3;apply⟨p1,p2,a1,b1,(),g1,g2,h0.1,h0.2,λp hp=>?_⟩;let⟨r1,e1,t1⟩:=DJ r hp;exact q _ _ O w _ hf e1 r1 t1
def lN:FM:=λO xs P _=>∃a b,xs=[.im (qD a),.im (qD b)]/\(Rb 3000 a/\Rb 3000 b)/\P (.im (.bool (decide (a<b)))) O
def ia:pL K iM lN:=λw O H vs xs P PX Q E r a hf q x=>by
 let⟨a1,b1,rfl,h0,hf⟩:=hf;let⟨v,us,rfl,h1,h2⟩:=a.aW;let⟨v2,Rr,rfl,h3,h4⟩:=h2.aW;rw[h4.cj];let⟨p1,rfl,g1⟩:=R0 h1;let⟨p2,rfl,g2⟩:=R0 h3;exact⟨p1,p2,a1,b1,(),g1,g2,h0.1,h0.2,q _ _ O w H hf (cr.refl _ _ _) r (.bl _)⟩
theorem My:∀{qs:Δ1}{ys:List V},aH g ys (qs.map qD)->kO g ys qs
 |[],_,h=>by cases h;exact⟨(),λj y h=>by simp at h⟩
 |q::qs,_,h=>by
  cases h with |cons h1 h2=>?_
  let ih:=My h2;cases h1 with |tup h3 h4=>?_
  cases h4 with |cons t1 t2=>?_
  cases t2 with |cons t2 t3=>?_
  cases t3
  cases t1
  cases t2
  apply⟨by simp[ih.1],λj y hy=>?_⟩;cases j with
  |zero=>exact⟨_,(Option.some.inj hy).symm,h3⟩
  |succ j=>exact ih.2 j y (by simpa using hy)
def Iz:FM:=λO xs P _=>∃qs:Δ1,xs=[.im (.list (qs.map qD))]/\((∀q∈qs,Rb 300 q)/\qs.length<=8)/\P (.im (qD (bu qs))) O
def sA:pL K DA Iz:=λw O H vs xs P PX Q E r a hf q x=>by
 let⟨qs,rfl,h0,hf⟩:=hf;let⟨v,us,rfl,h1,h2⟩:=a.aW;rw[h2.cj];let⟨p,ys,rfl,g1,t1⟩:=gw h1;apply⟨p,ys,qs,(),g1,(My t1).ak ng,h0.1,h0.2,λr' H' s jM=>?_⟩;let⟨r1,e1,t2⟩:=KA r s jM;exact q _ _ O w H' hf e1 r1 t2
end
section
def vf (R:Nat->PyData->Prop)(hl:items.length<=1000000)
  (hs:∀(i:Nat) x (Z:AV->bF->Prop),items[i]?=some x->(∀d,R i d->Z (.im d) O)->M ((c8 n ix sl).set 0 (some x)) O Z)
  (hd:∀ds:Ξ1,ds.length=items.length->(∀j,j<ds.length->R j (ds.getD j .none))->Q (.im (.list ds)) O):CB n ix (bm 0) eC M sl Q items O:=by
 apply⟨hl,λi ds O'=>O'=O/\ds.length=i/\∀j,j<ds.length->R j (ds.getD j .none),⟨(),(),λj hj=>absurd hj (by simp)⟩,?_,λds O' ⟨e,h1,h2⟩=>e▸hd ds h1 h2⟩;rintro i x ds O' hx ⟨rfl,SU,hR⟩;apply⟨λ_=>hs i x _ hx λd U'=>⟨(),by simp[SU],λj hj=>?_⟩,λz=>by cases z⟩;rcases Z2 j ds.length with y |y
 .have:(ds++[d]).getD j .none=ds.getD j .none:=by simp[List.getD,Zq y]
  rw[this];exact hR j y
 .let lX:j=ds.length:=by simp at hj;omega
  subst lX;have:(ds++[d]).getD ds.length .none=d:=by simp[List.getD]
  rw[this,SU];exact U'
def Ku {f:Nat->PyData}(h:∀j,j<ds.length->ds.getD j .none=f j):ds=(List.range ds.length).map f:=by
 apply Qk;intro j;rw[Zo];rcases Z2 j ds.length with y |y
 .rw[Yy y,Y1,<- h j y,ay (Zc y)];exact Zc y
 .rw[Yu y,Yu (by simpa using y)];rfl
def Hi (f:Nat->PyData)(hl:items.length<=1000000)
  (hs:∀(i:Nat) x (Z:AV->bF->Prop),items[i]?=some x->Z (.im (f i)) O->M ((c8 n ix sl).set 0 (some x)) O Z)
  (hd:Q (.im (.list ((List.range items.length).map f))) O):CB n ix (bm 0) eC M sl Q items O :=
 vf (λi d=>d=f i) hl (λi x Z hx h=>hs i x Z hx (h _ rfl)) λds h1 h2=>by rw[Ku h2,h1];exact hd
def gH (c:Nat->Bool)(f:Nat->PyData)(hl:items.length<=1000000)
  (hc:∀(i:Nat) x (Z:Bool->bF->Prop),items[i]?=some x->Z (c i) O->C ((c8 n ix sl).set 0 (some x)) O Z)
  (hs:∀(i:Nat) x (Z:AV->bF->Prop),items[i]?=some x->c i=true->Z (.im (f i)) O->M ((c8 n ix sl).set 0 (some x)) O Z)
  (hd:Q (.im (.list (((List.range items.length).filter c).map f))) O):CB n ix (bm 0) C M sl Q items O:=by
 apply⟨hl,λi ds O'=>O'=O/\ds=((List.range i).filter c).map f,⟨(),()⟩,?_,λds O' ⟨e,h1⟩=>by rw[e,h1];exact hd⟩;rintro i x ds O' hx ⟨rfl,rfl⟩;exact hc i x _ hx ⟨λh=>hs i x _ hx h ⟨(),by rw[ju,h,if_pos rfl]⟩,λh=>⟨(),by rw[ju,h,if_neg ∅,Ym]⟩⟩
def qA (R:Nat->AV->Prop)(hl:items.length<=1000000)
  (hs:∀(i:Nat) x (Z:AV->bF->Prop),items[i]?=some x->(∀d,R i d->Z d O)->M ((c8 n ix sl).set 0 (some x)) O Z)
  (hd:∀zs:List AV,zs.length=items.length->(∀j z,zs[j]?=some z->R j z)->Q (.own O.length) (O++[some zs])):CBO n ix (bm 0) eC M sl Q items O:=by
 apply⟨hl,λi zs O'=>O'=O/\zs.length=i/\∀(j:Nat) z,zs[j]?=some z->R j z,⟨(),(),λj z hj=>by simp at hj⟩,?_,λzs O' ⟨e,h1,h2⟩=>e▸hd zs h1 h2⟩;rintro i x zs O' hx ⟨rfl,SU,hR⟩;apply⟨λ_=>hs i x _ hx λd U'=>⟨(),by simp[SU],λj z hj=>?_⟩,λz=>by cases z⟩;rcases Z2 j zs.length with y |y
 .rw[Zq y] at hj;exact hR j z hj
 .let lX:=(Zf.mp hj).1;have:j=zs.length:=by simp at lX;omega
  subst this;simp at hj;rw[<- hj,SU];exact U'
def CK (lo:Int)(n:Nat):(tV lo n).length=n:=by unfold tV;simp
def OS (h:(tV lo n)[i]?=some x):i<n/\x=.im (.int (lo+(i:Int))):=by
 unfold tV at h;let hi:i<n:=by have:=(Zf.mp h).1;simpa using this
 rw[Zo,Yy hi] at h;exact⟨hi,(Option.some.inj h).symm⟩
def GO (h:(tV 0 n)[i]?=some x):i<n/\x=.im (.int (i:Int)):=by
 let⟨h1,h2⟩:=OS h;exact⟨h1,by rw[h2,Int.zero_add]⟩
def dI:min (PyData.int i).depth (PyData.int j).depth<=60:=by show min 0 0<=60;decide
def Il {α : Type}{x:α}:[x].length<=sizeLine:=by show 1<=sizeLine;decide
def jA {α : Type}{x y:α}:[x,y].length<=sizeLine:=by show 2<=sizeLine;decide
def Uo {α : Type}{x y z:α}:[x,y,z].length<=sizeLine:=by show 3<=sizeLine;decide
def IK {n:Int}(h:n.natAbs<2 ^ 40):Bd 8000 n:=Yg h (Y9 ∅ ∅)
def bT {α : Type}{xs:List α}{i:Nat}{x:α}(h:xs[i]?=some x):fY xs (i:Int)=some x:=mU h
def d5 (O O':bF):Prop:=∃t,O'=O++t
def d5.app (h:d5 O O')(c:Option (List AV)):d5 O (O'++[c]):=by let⟨t,rfl⟩:=h;exact⟨t++[c],by simp⟩
def d5.set (h:d5 O O')(hk:O.length<=k)(c:Option (List AV)):d5 O (O'.set k c):=by
 let⟨t,rfl⟩:=h;exact⟨t.set (k-O.length) c,by rw[List.set_append,if_neg ⋯]⟩
theorem d5.none:∀{ks:List Nat}{O':bF},d5 O O'->(∀k∈ks,O.length<=k)->d5 O (hX O' ks)
 |[],_,h,_=>h
 |k::ks,_,h,hk=>d5.none (ks:=ks) (h.set (hk k Zi) _) λj hj=>hk j (Zj _ hj)
def fw (A:Γ3)(Pu:Δ1)(W:Γ1):PyData:=.tuple [.tuple (A.map .int),.tuple (Pu.map qD),.tuple (W.map aP)]
def Gz {R:Nat->Rat->Prop}:∀{ds:Ξ1},(∀j,j<ds.length->∃q:Rat,ds.getD j .none=qD q/\R j q)->∃qs:Δ1,ds=qs.map qD/\∀j,j<qs.length->R j (qs.getD j 0):=by
 intro ds;induction ds generalizing R with
 |nil=>intro _;exact⟨[],(),λj hj=>absurd hj (by simp)⟩
 |cons d ds ih =>
  intro h;let⟨q,e,hq⟩:=h 0 (by simp);let⟨qs,e2,h2⟩:=ih (R:=λj=>R (j+1)) λj hj=>by
   let⟨q',e',h'⟩:=h (j+1) (by simp;omega);exact⟨q',by simpa[List.getD] using e',h'⟩
  apply⟨q::qs,?_,λj hj=>?_⟩
  .let e':d=qD q:=by simpa[List.getD] using e
   rw[e',e2];rfl
  .cases j with
   |zero=>exact hq
   |succ j=>exact h2 j (by simpa using hj)
def mX {α β : Type}{f:α->β}{xs:List α}{j:Nat}{d:α}(h:j<xs.length):(xs.map f)[j]?=some (f (xs.getD j d)):=by
 rw[Zo,Zc h,ay (Zc h)];rfl
end
section
abbrev NS:tR:=Dk U6 λi j=>.int (i ^ j.toNat)
def Et (ha:PE X a (bR K QX E Ma))(hb:PE X b (bR K QX E Mb)):PE X (.BinOp a .Pow b pos) (bR K QX E (bB NS Ma Mb)):=ui kZ (sB λ_ _ _=>.int _) ha hb
section
end
def qy (h0:0<=r)(h1:r<=xs.length):cutD xs (some r) none=xs.drop r.toNat:=by
 let e1:HT.oU xs.length 0 (some r)=r.toNat:=by
  show(if r<0 then (r+(xs.length:Int)).toNat else min r.toNat xs.length)=_
  grind
 unfold cutD;rw[HT.uK,e1,List.take_of_length_le]
 grind
mutual
theorem ci.R4:∀{v:V}{d:PyData},ci g v d->∃n:Nat,∀b,n<=b->fH b g v d
 |_,_,.cg=>⟨0,λb _=>.cg⟩
 |_,_,.bl c=>⟨0,λb _=>.bl c⟩
 |_,_,.int i=>⟨0,λb _=>.int i⟩
 |_,_,.str x o=>⟨0,λb _=>.str x o⟩
 |_,_,.lst (a:=a) h t=>by
  let⟨n,hn⟩:=aH.R4 t;exact⟨n+a+1,λb hb=>.lst (Ye ⋯) h (hn b ⋯)⟩
 |_,_,.tup h t=>by
  let⟨n,hn⟩:=aH.R4 t;exact⟨n,λb hb=>.tup h (hn b hb)⟩
theorem aH.R4 {g:Hp}:∀{vs:List V}{ds:Ξ1},aH g vs ds->∃n:Nat,∀b,n<=b->cf b g vs ds
 |_,_,.nil=>⟨0,λb _=>.nil⟩
 |_,_,.cons h t=>by
  let⟨n,hn⟩:=ci.R4 h;let⟨m,hm⟩:=aH.R4 t;exact⟨n+m,λb hb=>.cons (hn b ⋯) (hm b ⋯)⟩
end
def UL (a:bi K w g vs [x]):∃v,vs=[v]/\jy K w g v x:=by
 let⟨v,us,rfl,h1,h2⟩:=a.aW;rw[h2.cj];exact⟨v,(),h1⟩
def wL (a:bi K w g vs [x,y]):∃v u,vs=[v,u]/\jy K w g v x/\jy K w g u y:=by
 let⟨v,us,rfl,h1,h2⟩:=a.aW;let⟨u,rfl,h3⟩:=UL h2;exact⟨v,u,(),h1,h3⟩
def fT (m:PyData->Bool):FM:=λO xs P _=>match xs with
 |[.im d]=>P (.im (.bool (m d))) O
 |_=>False
def abB:pL K (spT m) (fT m):=λw O H vs xs P PX Q E r a hf q x=>by
 unfold fT at hf;split at hf
 .obtain⟨v,rfl,h1⟩:=UL a;let⟨n,hn⟩:=ci.R4 (ci.ak ng h1);apply⟨n,v,_,(),hn n (Ze _),λH' s=>?_⟩;let⟨r1,e1,_⟩:=r.ak s;exact q _ _ O w H' hf e1 r1 (.bl _)
 .exact hf.elim
theorem fu {α : Type}{f:α->PyData}(h:∀a,Cs (f a)=true):∀xs:List α,qZ (xs.map f)=true
 |[]=>rfl
 |a::xs=>by show(Cs (f a)&&qZ (xs.map f))=true;rw[h a,fu h xs];rfl
def LX (q:Rat):Cs (qD q)=true:=rfl
def rO (qs:Δ1):Cs (.tuple (qs.map qD))=true:=fu LX qs
def Aa (r:Γ3):Cs (aP r)=true:=fu (f:=PyData.int) (λ_=>rfl) r
def Er (A:Γ3)(Pu:Δ1)(W:Γ1):Cs (fw A Pu W)=true:=by
 show(qZ (A.map .int)&&(qZ (Pu.map qD)&&(qZ (W.map aP)&&true)))=true;rw[fu (f:=PyData.int) (λ_=>rfl),fu LX,fu Aa];rfl
def XO (b:Addr)(h:ci (G w O H) v d)(n:Cs d=true):fH b H v d:=ci.Sg n (ci.ak ng h)
def XQ (r:aF K w O H)(h:fH b H v d)(n:Cs d=true):ci (G w O H) v d:=mh r.m7 n h
end
section
def gF (Pu:Δ1):qJ (Pu.map qD)=Pu:=by
 unfold qJ;rw[Zp];have:(Rx ∘ qD)=id:=funext λq=>iO q
 simp_all
def M3 (W:Γ1):rowsOf (W.map aP)=W:=by
 unfold rowsOf;rw[Zp];have:(uf ∘ aP)=id:=funext λr=>by
  show(r.map PyData.int).map aZ=r;rw[Zp];have:(aZ ∘ PyData.int)=id:=rfl
  simp_all
 simp_all
def oi (A:Γ3):(A.map PyData.int).map aZ=A:=by
 rw[Zp];have:(aZ ∘ PyData.int)=id:=rfl
 simp_all
def NU (b:Addr)(h:ci (G w O H) v (fw A Pu W))(m:eO (fw A Pu W)=true) :
  ∃p pa pp pw xa xp xw,v=.ref p/\eh b H p pa pp pw xa xp xw (A.map .int) (Pu.map qD) (W.map aP)/\xa.length=A.length/\xp.length=Pu.length:=by
 let t:=XO b h (Er A Pu W);cases v with
 |ref p =>
  let⟨pa,pp,pw,xa,xp,xw,mk⟩:=eh.of t m;exact⟨p,pa,pp,pw,xa,xp,xw,(),mk,by rw[mk.ta.len,Zb],by rw[mk.tp.len,Zb]⟩
 |_=>cases t
def abp (b:Addr)(h:ci (G w O H) v (.tuple (qs.map qD)))(hb:∀z∈qs,Rb 293 z):∃q ys,v=.ref q/\Bf b H q ys qs:=by
 cases XO b h (rO qs) with |tup h1 h2=>exact⟨_,_,rfl,h1,h2,hb⟩
structure nR (A:Γ3)(Pu:Δ1)(W:Γ1)(qs:Δ1):Prop where
 ok:eO (fw A Pu W)=true
 len:qs.length=A.length
 kM:Hd W qs
 bd:∀z∈qs,Rb 293 z
def N7:FM:=λO xs P _=>∃ns:Γ3,xs=[.tE ns]/\ns.length<=63/\∀O',P (.im (.bool true)) O'
def QJ (F:aI Pg wo K mg base bY k f fd ["script"] (cT K N7)):aI Pg wo K mg base bY k f fd ["script"] (yJ K):=F.imp λvs H Q E ⟨a,ns,e,hS,hl,hq⟩=>by
 subst e;let bM:∀x,¬ jx ⟨[],[],[],[]⟩ [] x:=λx h=>by
  rcases h with h |⟨o,h⟩ |⟨k,c,h,_⟩
  .cases h
  .cases h
  .simp at h
 let sg:aw H (G ⟨[],[],[],[]⟩ [] H):=λx o h=>by rw[gQ (bM x)];exact h
 apply⟨⟨[],[],[],[]⟩,[],[.tE ns],λz _=>z=.im (.bool true),λ_ _=>False,⟨(),X4,λa h=>(by cases h),λa h=>(by cases h),X4,λp h=>(by cases h),λa h=>(by cases h),λk c h=>(by simp at h),λk h=>(by cases h)⟩,bi.cons ⟨a,(),KG.bG.ak hS sg⟩ bi.nil,⟨ns,(),hl,λO'=>rfl⟩,λz q O' w' H' hz e r av=>?_,λc O' w' H' h=>h.elim⟩;subst hz;rw[Ix av];exact hq H'
end
def cI (r:Γ3):Option (List AV):=some (r.map λx=>AV.im (.int x))
def qX (k n:Nat):List AV:=(List.range n).map λt=>AV.own (k+t)
def BG (k n:Nat):qX k (n+1)=qX k n++[AV.own (k+n)]:=by unfold qX;rw[Xc,Zs];rfl
def FE (k n:Nat):qX k n=((List.range n).map λt=>k+t).map AV.own:=by unfold qX;rw[Zp];rfl
def mj {α : Type}(O:List α)(x y:α):(O++[x]).set O.length y=O++[y]:=by rw[List.set_append,if_neg ⋯,X9];rfl
def lc {α : Type}(O:List α)(x:α):(O++[x])[O.length]?=some x:=by simp
def KQ {α β : Type}(f:α->β)(O:List β)(x:β)(W:List α)(i:Nat)(d:α)(h:i<W.length):(O++(W.map f++[x]))[O.length+i]?=some (f (W.getD i d)):=by
 rw[Yh ⋯,Nat.add_sub_cancel_left,Zq (by simpa using h)];exact mX h
def GH {α β : Type}(f:α->β)(O:List β)(x:β)(W:List α):(O++(W.map f++[x]))[O.length+W.length]?=some x:=by
 rw[Yh ⋯,Nat.add_sub_cancel_left,Yh (by simp)];simp
def yW (h:i<n):tJ n (i:Int)=some i:=by unfold tJ;rw[if_pos ⋯,if_pos ⋯,Z1]
def rH (r:Γ3)(j:Nat)(x:Int):((r.map λx=>AV.im (.int x)).set j (.im (.int x)))=(r.set j x).map λx=>AV.im (.int x):=by rw[List.map_set]
def Hl {α β : Type}(f:α->β)(xs:List α)(d:α):(List.range xs.length).map (λi=>f (xs.getD i d))=xs.map f:=by
 apply Qk;intro j;rw[Zo];rcases Z2 j xs.length with y |y
 .rw[Yy y,mX (d:=d) y];rfl
 .rw[Yu (by simpa using y),Yu (by simpa using y)];rfl
def DZ (h:(ww ds es)[i]?=some x):i<ds.length/\x=.im (.tuple [ds.getD i .none,es.getD i .none]):=by
 unfold ww at h;let hi:i<ds.length:=by have:=(Zf.mp h).1;simpa using this
 rw[Zo,Yy hi] at h;exact⟨hi,(Option.some.inj h).symm⟩
def ma (ds es:Ξ1):(ww ds es).length=ds.length:=by unfold ww;simp
structure oR (O:bF)(k:Nat)(ks:List Nat)(W:Γ1):Prop where
 hd:O[k]?=some (some (ks.map AV.own))
 len:ks.length=W.length
 row:∀i,i<W.length->O[ks.getD i 0]?=some (cI (W.getD i []))
def mem_getD {ks:List Nat}(h:i<ks.length):ks.getD i 0∈ks:=by
 rw[ay (Zc h)];exact Zv h
def oR.app (t:oR O k ks W)(c:Option (List AV)):oR (O++[c]) k ks W:=by
 apply⟨?_,t.len,λi hi=>?_⟩
 .rw[Zq (Zf.mp t.hd).1];exact t.hd
 .rw[Zq (Zf.mp (t.row i hi)).1];exact t.row i hi
def oR.other {O:bF}(t:oR O k ks W)(c:Option (List AV))(h:m∉k::ks):oR (O.set m c) k ks W:=by
 apply⟨?_,t.len,λi hi=>?_⟩
 .rw[Ya (λe=>h (by rw[e];exact Zi))];exact t.hd
 .rw[Ya (λe=>h (by rw[e];exact Zj _ (mem_getD (by rw[t.len];exact hi))))];exact t.row i hi
def oR.put {O:bF}(t:oR O k ks W)(r:Γ3)(hi:i<W.length)(nd:(k::ks).Nodup):oR (O.set (ks.getD i 0) (cI r)) k ks (W.set i r):=by
 let hn:=Yc.mp nd;let hik:i<ks.length:=by rw[t.len];exact hi
 apply⟨?_,by rw[Yo];exact t.len,λj hj=>?_⟩
 .rw[Ya (λe=>hn.1 (by rw[<- e];exact mem_getD hik))];exact t.hd
 .rw[Yo] at hj;let ZU:j<ks.length:=by rw[t.len];exact hj
  by_cases e:i=j
  .subst e;rw[Yk (Zf.mp (t.row i hi)).1];have:(W.set i r).getD i []=r:=by rw[List.getD,Yk hi];rfl
   rw[this]
  .have:(W.set i r).getD j []=W.getD j []:=by rw[List.getD,Ya e];rfl
   rw[this,Ya (λz=>e ?_)]
   .exact t.row j hj
   .rw[ay (Zc hik),ay (Zc ZU)] at z;exact(List.getElem_inj hn.2).mp z
section
end
section
end
section
end
def N8:FM:=λO xs P _=>∃a b,xs=[.im (qD a),.im (qD b)]/\(Rb 3000 a/\Rb 3000 b/\0<b)/\P (.im (qD (a / b))) O
def eI (B:Γ1)(i j:Nat):Int:=(B.getD i []).getD j 0
structure One (O O':bF)(k:Nat)(ks:List Nat)(W:Γ1):Prop where
 kX:d5 O O'
 ge:∀x∈k::ks,O.length<=x
 nd:(k::ks).Nodup
 t:oR O' k ks W
def One.iz {O O':bF}{k i:Nat}{ks:List Nat}{W:Γ1}{sl:j5}{M:MS}{E:uA}(h:One O O' k ks W)(hs:sl[i]?=some (some (.own k)))(hm:∀O2,d5 O O2->M E (sl.set i (some (.im (.list (W.map λr=>.list (r.map .int)))))) O2):DK i M E sl O':=by
 apply⟨k,ks,W.map (λr=>r.map .int),hs,h.t.hd,by rw[Zb];exact h.t.len,λj kj hj=>?_,?_⟩
 .let ZU:=(Zf.mp hj).1;let hjW:j<W.length:=by rw[<- h.t.len];exact ZU
  have:=h.t.row j hjW;rw[ay hj] at this;rw[this,mZ (a:=[]) hjW,Zp];rfl
 .rw[Zp];exact hm _ (d5.none h.kX λx hx=>h.ge x hx)
section
end
def ud (g:Nat)(W:Γ1):Γ3:=((List.range g).filter (has W)).map λj:Nat=>(j:Int)
def hV {W:Γ1}(h:((W.map aP).map AV.im)[i]?=some x):i<W.length/\x=.im (.tuple ((W.getD i []).map .int)):=by
 let hi:i<W.length:=by have:=(Zf.mp h).1;simpa using this
 rw[Zo,mX (d:=[]) hi] at h;exact⟨hi,(Option.some.inj h).symm⟩
section
end
def EN (q:Rat)(x:Int):vT (qD q) (.tuple [.int x,.int 1])=decide (q=(x:Rat)):=by
 let e:PyData.tuple [.int x,.int 1]=qD (x:Rat):=rfl;rw[e,nQ,xr]
def xt (p q:Rat):vT (qD p) (qD q)=decide (p=q):=by rw[nQ,xr]
def dQ:min (qD p).depth (qD q).depth<=60:=by show min 1 1<=60;decide
def yi (h1:d5 O O1)(h2:d5 O1 O2):d5 O O2:=by
 let⟨t,rfl⟩:=h1;let⟨u,rfl⟩:=h2;exact⟨t++u,by rw[Ys]⟩
def Dn:FM:=λO xs P _=>∃(A:Γ3) (Pu:Δ1) (W:Γ1),xs=[.im (fw A Pu W)]/\A.length<=6/\W.length<=6/\(∀i,i<W.length->(W.getD i []).length=A.length)/\P (.im (.tuple ((ud A.length W).map .int))) O
abbrev NWp:Δ2:=["market","amounts","purses","wishes"]
def T7:MS:=(be (bH (ah 0) (kP 3 (aG (bm 1) (aG (bm 2) (aG (bm 3) ck)))))
 (cE (jZ lY (af (cL 1 [3] (re (af (jZ tX (af (ah 1) ao)) ao)) (bm 0) (cV (jZ Ds (af (cL 1 [0] (cK (ah 1)) (bm 0) eC (bB G8 (bB cO (ah 0) (ah 1)) (mC (.int 0)))) ao))) (ah 0)) ao))))
def KR:(W.map λr:Γ3=>decide (0<r.getD j 0)).any id=has W j:=by
 unfold has;rw[X1];rfl
def OT:∀O xs Pq QX,Dn O xs Pq QX->T7 { nx:=λ_ O'=>Pq (.im .none) O',rt:=Pq } (bp NWp xs) O:=by
 intro O xs Pq QX h;let⟨A,Pu,W,rfl,g6,n6,hr,h⟩:=h;apply⟨(),⟨⟨by rw[Zb];omega,by rw[Zb];omega⟩,gH (has W) (λj=>.int (j:Int)) (by rw[CK,Zb];omega) (λj x Z hx hZ=>?_) (λj x Z hx _ hZ=>?_) ?_⟩⟩
 .obtain⟨hj,rfl⟩:=GO hx;rw[Zb,Z1] at hj;conv=>whnf
  apply Hi (λi=>.bool (decide (0<(W.getD i []).getD j 0))) (by simp;omega) (λi x Z hx hZ=>?_) ?_
  .obtain⟨hi,rfl⟩:=hV hx;exact⟨_,bT (mX (f:=PyData.int) (d:=0) (by rw[hr i hi];omega)),hZ⟩
  .apply⟨W.map λr=>decide (0<r.getD j 0),?_,?_⟩
   .rw[Zb,Zb,Hl (λr:Γ3=>PyData.bool (decide (0<r.getD j 0))) W [],Zp];rfl
   .rw[KR];exact hZ
 .obtain⟨hj,rfl⟩:=GO hx;exact hZ
 .rw[CK,Zb,Z1];unfold ud at h;rw[Zp] at h;exact h
section
end
section
def lA (f:Nat->PyData)(a b:Nat->PyData)(hl:items.length<=1000000)(hi:∀(i:Nat) (x:AV),items[i]?=some x->x=.im (.tuple [a i,b i]))
  (hs:∀(i:Nat) (Z:AV->bF->Prop),i<items.length->Z (.im (f i)) O->M (((c8 n ix sl).set 0 (some (.im (a i)))).set 1 (some (.im (b i)))) O Z)
  (hd:Q (.im (.list ((List.range items.length).map f))) O):CB n ix (kP 2 (aG (bm 0) (aG (bm 1) ck))) eC M sl Q items O:=by
 apply⟨hl,λi ds O'=>O'=O/\ds=(List.range i).map f,⟨(),()⟩,?_,λds O' ⟨e,h1⟩=>by rw[e,h1];exact hd⟩;rintro i x ds O' hx ⟨rfl,rfl⟩;let cD:=(Zf.mp hx).1;rw[hi i x hx];apply⟨(),λ_=>hs i _ cD ⟨(),by rw[Xc,Zs];rfl⟩,λz=>(by cases z)⟩
end
def ji (h:(cQ ds)[i]?=some x):i<ds.length/\x=.im (.tuple [.int (i:Int),ds.getD i .none]):=by
 unfold cQ at h;let hi:i<ds.length:=by have:=(Zf.mp h).1;simpa using this
 rw[Zo,Yy hi] at h;exact⟨hi,(Option.some.inj h).symm⟩
section
def cM (C:bN X.K X.mg X.prog X.w X.base x k ps sp f fd)(lk:pL K sp F)(hr:db n X.A)
  (ha:PA X (e::es) (vO K QX E Ms)) (hn:k<=n:=by decide) (hg:Gl X x:=by rfl) (wq:(x == ("__debug__" : Str))=false:=by decide) (he:starEach (e::es) X.env=(false,eval e X.env)::starEach es X.env:=by rfl) (lW:(backTo pos (starEach es X.env)).any (·.1)=false:=by rfl) :
  PE X (.Call (.Name x p) (e::es) [] pos) (bR K QX E (aC F cb Ms)):=FX C.ok lk (hr.mono hn) hg C.mg C.kp C.bd ha wq he lW
def mv (i:Nat)(hN:X.N[i]?=some x:=by rfl)(hv:Th X.env.scope x:=by first |exact Or.inl rfl |exact Or.inr (Or.inl rfl) |exact Or.inr (Or.inr rfl))(hd:(x == ("__debug__" : Str))=false:=by decide)
  (wt:(x == ("__classdict__" : Str))=false:=by decide):PE X (.Name x pos) (bR K QX E (ah i)):=P9 (pv i hN hv hd wt)
def ja (hN:X.N.Nodup)(he:PE X e (bR K QX E M))(hi:X.N[i]?=some x:=by rfl)(hx:Loc X.env.scope x:=by exact Or.inl rfl)(hs:swapsWith e (some (.Name x kU)) pos.line X.env=pure false:=by rfl)(hf:X.fn x=true\/X.env.scope.names.lookup x=some .local:=by first |exact .inl rfl |exact .inr rfl |assumption) :
  PS X (.Assign [.Name x kU] e pos) (jK K QX E (bH M (bm i))):=k6 hN hi hx he hs hf
def dY (hN:X.N.Nodup)(hi:X.N[i]?=some x:=by rfl)(hx:Loc X.env.scope x:=by exact Or.inl rfl)(hf:X.fn x=true\/X.env.scope.names.lookup x=some .local:=by first |exact .inl rfl |exact .inr rfl |assumption):PG X (.Name x pos) (oK K QX E (bm i)):=eW (gj hN hi hx hf)
end
end MI
namespace L2
def lV (sp:Sp):Sp:=λvs H Q _=>sp vs H Q E0
def rL:PS X st (λ_ _ _=>False):=λae s σ H D I h=>h.elim
end L2
namespace MI
open L2 KG EX KM
section
def Hh (C:bN X.K X.mg X.prog X.w X.base x k ps (lV sp) f fd)(lk:pL K sp F)(hr:db n X.A)
  (ha:PA X (e::es) (vO K QX E Ms)) (hn:k<=n:=by decide) (hg:Gl X x:=by rfl) (wq:(x == ("__debug__" : Str))=false:=by decide) (he:starEach (e::es) X.env=(false,eval e X.env)::starEach es X.env:=by rfl) (lW:(backTo pos (starEach es X.env)).any (·.1)=false:=by rfl) :
  PE X (.Call (.Name x p) (e::es) [] pos) (bR K QX E (aC F cb Ms)):=PE.imp (du C.ok (hr.mono hn) hg C.mg C.kp C.bd (Ha:=[]) .nil aO ha wq he lW) λσ H Q ⟨w,O,sl,Q0,c,m,q⟩=>⟨w,O,sl,_,c,m,λxs O1 vs w1 H1 h1 e1 r1 a1=>by
 show sp (vs++[]) H1 Q E0;rw[Ym];exact lk w1 O1 H1 vs xs _ cb Q E0 r1 a1 h1 (λz z' O3 w3 H3 h3 e3 r3 a3=>q _ O3 z w3 H3 h3 (e1.trans e3) r3 a3) λk O' w' H' qx e' r'=>qx.elim⟩
end
end MI
namespace C6
open L2 KG EX KM
def top (i:Nat):Stmt:=PySem.Challenge.pw_wishmart_k42_whole_two_goods_by_the_midd.main.body.getD i (.Pass ⟨0,0,0,0⟩)
section
def Jj:ai ["thing"] ["thing"] (bA (top 7)):=L2.cZ
def FH (F:cG K "is_whole" "is_whole" (top 7) f fd)(N:Nm mg)(Z:CC K):aI P w K mg base bY 1 f fd ["thing"] (spT ib):=by
 apply F.ok Jj (λvs H Q E h=>?_) (λbD A outer s H vs Q E hr h=>?_)
 .obtain⟨b,v,d,rfl,_⟩:=h;rfl
 .obtain⟨b,v,d,rfl,hT,k⟩:=h;apply⟨_,cN (dM (nH (qW K (pv 0) rfl N.isinstance rfl N.int boot_int Hn) (nG (Pw (qW K (pv 0) rfl N.isinstance rfl N.bool boot_bool Hn))))),?_⟩;let⟨t1,vY,e1⟩:=isi Z hT;let⟨t2,ty2,e2⟩:=isb Z hT;apply⟨_,(),t1,_,vY,e1,_,(),?_⟩;let hk:=k H (aw.refl H);rw[yd] at hk;cases hi:YV d with
  |true =>
   rw[hi] at hk;apply bt ⟨_,(),t2,_,ty2,e2,_,(),hk⟩
  |false =>
   rw[hi] at hk;exact bI hk
def LI:ai ["one","other"] ["one","other"] (bA (top 9)):=L2.cZ
def PV (F:cG K "common_divisor" "common_divisor" (top 9) f fd)(N:Nm mg):aI P w K mg base bY 1 f fd ["one","other"] LD:=by
 apply F.ok LI (λvs H Q E h=>?_) (λbD A outer s H vs Q E hr h=>?_)
 .obtain⟨t,u,rfl,_⟩:=h;rfl
 .obtain⟨t,u,rfl,u0,k⟩:=h;apply⟨_,dZ (kA PassesOwn.never (mY lL (pv 1) bC (aJ _)) (cN (rK (i:=0) (j:=1) rfl LI.nd rfl rfl ∅ rfl rfl (aU (pv 1) (aU (c6 gX (pv 0) (pv 1)) bP)) (by rfl))))
   (cN (dM (lH om (by rfl) N.abs boot_abs (aU (pv 0) bP)))),?_⟩
  apply nU (λσ H'=>H'=H/\∃a c:Int,σ=[some (.int a),some (.int c)]/\0<=c/\Int.gcd a c=Int.gcd t u)
   (λσ _=>match σ with |[_,some (.int c)]=>c.toNat |_=>0) ⟨rfl,t,u,rfl,u0,rfl⟩ ?_ ?_
  .rintro σ H' ⟨rfl,a,c,rfl,c0,e⟩;apply⟨_,(),(),_,(),?_⟩;by_cases hc:c=0
   .subst hc;apply bI ?_;apply⟨_,(),_,(),?_⟩;rw[KS,e];exact k
   .let e1:(!decide (V.int c=V.int 0))=true:=by simp[hc]
    rw[e1];apply bt ?_;let cp:0<c:=⋯;apply⟨_,(),_,(),_,(),_,_,(),(),cp,_,_,(),⟨(),c,a % c,(),Int.emod_nonneg _ hc,Gk.trans e⟩,?_⟩;let h1:=Int.emod_lt_of_pos a cp;let h2:=Int.emod_nonneg a hc;show(a % c).toNat<c.toNat;omega
  .rintro σ H' Q1 Q2 Dm ⟨v,e,sc,kk,ek,q⟩;exact⟨v,e,sc,kk,ek,Dm _ _ q⟩
def wP:ai ["thing","top","bottom"] ["thing"] (bA (top 8)):=L2.cZ
def BK (F:cG K "is_fraction" "is_fraction" (top 8) f fd)(N:Nm mg)(Z:CC K)(W:bN K mg P w base "is_whole" 1 ["thing"] (spT ib) fW dW)(G:bN K mg P w base "common_divisor" 1 ["one","other"] LD fG dG):aI P w K mg base bY 2 f fd ["thing"] (spT bL):=by
 apply F.ok wP (λvs H Q E h=>?_) (λbD A outer s H vs Q E hr h=>?_)
 .obtain⟨b,v,d,rfl,_⟩:=h;rfl
 .obtain⟨b,v,d,rfl,hT,k⟩:=h;apply⟨_,dZ (kQ (PW.pt (pw_or (qH (sZ (qW K (pv 0) rfl N.isinstance rfl N.tuple pG Hn))) (pw_or1 (mY lL (lH et (by rfl) N.len Yi (aU (pv 0) bP)) bC (aJ _))))) (cN (dM iu)) kR)
   (dZ (iP (pv 0) (gU rfl (qK (gj (i:=1) wP.nd rfl (Or.inl rfl)) (qK (gj (i:=2) wP.nd rfl (Or.inl rfl)) eS))))
   (dZ (kQ (PW.pt (pw_or (qH (sZ (du W.ok hr rfl W.mg W.kp W.bd .nil aO (aU (pv 1) bP)))) (pw_or1 (qH (sZ (du W.ok hr rfl W.mg W.kp W.bd .nil aO (aU (pv 2) bP))))))) (cN (dM iu)) kR)
   (cN (dM (nH (eU VE (pv 2) bC (aJ _)) (nG (eU nq (du G.ok hr rfl G.mg G.kp G.bd .nil aO (aU (pv 1) (aU (pv 2) bP))) bC (aJ _)))))))),?_⟩
  let⟨t1,vY,e1⟩:=M5 Z hT;apply⟨_,(),t1,_,vY,e1,_,(),?_⟩;let hk:=k H (aw.refl H);rcases g9 hT with hn |⟨a,xs,ds,rfl,rfl,ha,hs⟩
  .rw[hn];rw[B1 hn] at hk;exact bt (bt hk)
  apply bI ?_;apply⟨_,(),a,xs,(),.inr (aK.of ha),(),_,(),?_⟩;by_cases hl:xs.length=2
  case neg =>
   let e2:(!decide (V.int (xs.length:Int)=V.int 2))=true:=ke (b:=2) hl;rw[e2];let SW:ds.length≠2:=by rw[<- hs.len];exact hl
   let e3:bL (.tuple ds)=false:=yf SW;rw[e3] at hk;exact bt hk
  let e2:(!decide (V.int (xs.length:Int)=V.int 2))=false:=by rw[hl];rfl
  rw[e2];apply bI ?_;let⟨x,y,dx,dy,rfl,rfl,hx,hy⟩:=uD hs hl;apply⟨_,(),a,_,(),aK.of ha,(),_,_,(),_,_,(),(),?_⟩;apply⟨_,(),b,x,dx,(),hx,λH1 s1=>?_⟩;apply⟨_,(),?_⟩;rcases ko hx with hn |⟨i,rfl,rfl⟩
  .rw[hn];apply bt (bt ?_);let e3:bL (.tuple [dx,dy])=false:=by cases dx<;>first |rfl |cases hn
   rw[e3] at k;exact k H1 s1
  apply bI ?_;apply⟨_,(),b,y,dy,(),hy.ak s1,λH2 s2=>?_⟩;apply⟨_,(),?_⟩;rcases ko hy with hn |⟨j,rfl,rfl⟩
  .rw[hn];apply bt ?_;let e3:bL (.tuple [.int i,dy])=false:=by cases dy<;>first |rfl |cases hn
   rw[e3] at k;exact k H2 (s1.trans s2)
  apply bI ?_;apply⟨_,(),_,_,(),(),_,(),?_⟩;let Nb:Q (.bl (decide ((1:Int)<=j)&&decide (Int.gcd i j=1))) H2:=k H2 (s1.trans s2);by_cases hj:1<=j
  .let e4:decide ((1:Int)<=j)=true:=by simpa using hj
   rw[e4] at Nb ⊢;apply bt ⟨_,(),_,(),i,j,(),⋯,(),?_⟩;let e5:decide (V.int ((Int.gcd i j:Nat):Int)=V.int 1)=decide (Int.gcd i j=1):=by
    rw[decide_eq_decide];constructor
    .intro h;injection h with h;omega
    .intro h;rw[h];rfl
   rw[e5];simpa using Nb
  .let e4:decide ((1:Int)<=j)=false:=by simpa using hj
   rw[e4] at Nb ⊢;exact bI Nb
def Ef:ai ["bag","many","found"] ["bag","many"] (bA (top 69)):=L2.cZ
def JU (F:cG K "_law_take" "_law_take" (top 69) f fd):aI P w K mg base bY 1 f fd ["bag","many"] rA:=by
 apply F.ok Ef (λvs H Q E h=>?_) (λbD A outer s H vs Q E hr h=>?_)
 .obtain⟨b,m,rfl,_⟩:=h;rfl
 .obtain⟨b,m,rfl,⟨c,d,hb⟩,h0,h1,k⟩:=h;apply⟨_,dZ (kQ (mY gq (d8 tY (pv 0) bC (λ_ _=>rfl)) bC (aJ _))
    (dZ (oM (i:=2) Ef.nd rfl (Or.inl rfl) (c6 gX (d8 tY (pv 0) bC (λ_ _=>rfl)) (pv 1)))
     (dZ (iP (c6 sr (d8 tY (pv 0) bC (λ_ _=>rfl)) (pv 1)) (wR (pv 0) bC ky)) (cN (dM (pv 2))))) kR)
   (dZ (iP (c6 gX (c6 iQ (d8 tY (pv 0) bC (λ_ _=>rfl)) bC) bC) (wR (pv 0) bC ky))
    (cN (dM (c6 gX (c6 sr (c6 gX (c6 iQ (c6 sr (d8 tY (pv 0) bC (λ_ _=>rfl)) bC) (c6 d6 (c6 gX (d8 tY (pv 0) bC (λ_ _=>rfl)) bC) bC)) bC) bC) (pv 1))))),?_⟩
  apply⟨_,(),b,_,_,_,(),(),bG.of hb,(),_,_,(),(),_,(),?_⟩;apply A8 (λhc=>?_) (λhc=>?_)
  .apply⟨_,(),b,_,_,_,(),(),bG.of hb,(),_,(),_,_,(),(),h0,?_⟩;apply⟨_,(),b,_,_,_,(),(),bG.of hb,(),_,(),_,_,(),(),⟨h0,h1⟩,?_⟩;apply⟨_,(),b,_,_,0,(),(),hb,(),?_⟩;apply⟨_,(),k _ _ (Int.emod_nonneg _ ⋯) (Int.emod_lt_of_pos _ h0) ⟨_,_,dU⟩ (Kp.refl b H).bag⟩
  .apply⟨_,(),b,_,_,_,(),(),bG.of hb,(),_,_,(),(),.inr ⟨∅,∅⟩,_,_,(),(),(by show(0:Int)<2147483647;decide),?_⟩;apply⟨_,(),b,_,_,1,(),(),hb,(),?_⟩;let oP:(aQ H b (.lst [V.int c,V.int (d*48271 % 2147483647)])) b=some (.lst [V.int c,V.int (d*48271 % 2147483647)]):=dU;apply⟨_,(),b,_,_,_,(),(),bG.of oP,(),_,_,(),(),⟨∅,∅⟩,?_⟩;apply⟨_,(),b,_,_,_,(),(),bG.of oP,(),_,_,(),(),(by show(0:Int)<32749;decide),_,_,(),(),?_⟩;apply⟨_,_,(),(),.inr ⟨?_,?_⟩,?_⟩
   .omega
   .omega
   apply⟨_,_,(),(),(by show(0:Int)<2147483629;decide),_,_,(),(),⟨∅,∅⟩,_,(),_,_,(),(),h0,?_⟩;exact k _ _ (Int.emod_nonneg _ ⋯) (Int.emod_lt_of_pos _ h0) ⟨_,_,dU⟩ (Kp.refl b H).bag
def yP:ai ["script","k","cell","seed"] ["script","k"] (bA (top 68)):=L2.cZ
def P1 (F:cG K "_law_bag" "_law_bag" (top 68) f fd)(B:Nm mg):aI P w K mg base bY 1 f fd ["script","k"] (DC K):=by
 apply F.ok yP (λvs H Q E h=>?_) (λbD A outer s H vs Q E hr h=>?_)
 .obtain⟨a,ns,k,rfl,_⟩:=h;rfl
 .obtain⟨a,ns,k,rfl,hS,h0,h1,q⟩:=h;apply⟨_,dZ (oM (i:=2) yP.nd rfl (Or.inl rfl) bC)
   (dZ (kQ (mY pM (pv 1) (lH io (by rfl) B.len Yi (aU (pv 0) bP)) (aJ _))
    (cN (oM (i:=2) yP.nd rfl (Or.inl rfl) (c6 gX (d8 Am (pv 0) (pv 1) (λ_ _=>rfl)) (c6 kZ bC bC)))) kR)
   (dZ (oM (i:=3) yP.nd rfl (Or.inl rfl) (c6 d6 bC (c6 gX (c6 d6 (c6 d6 (c6 d6 (c6 iQ (c6 gX (pv 2) bC) bC) (c6 iQ (c6 iQ bC (pv 1)) (pv 1))) (c6 iQ bC (pv 1))) bC) bC)))
   (dZ (kQ (mY pM (pv 2) (c6 kZ bC bC) (aJ _)) (cN (dM (rM (aU bC (aU (pv 3) bP))))) kR)
   (cN (dM (rM (aU (pv 2) (aU (pv 3) bP)))))))),?_⟩
  apply⟨_,(),_,(),a,_,(),.inl hS,_,_,(),(),_,(),?_⟩;apply A8 (λhc=>?aa5) (λhc=>?aja)
  case' aa5 =>
   let hk:k<(ns.length:Int):=by simpa using of_decide_eq_true hc
   let tO:fY (ns.map V.int) k=some (V.int (ns.getD k.toNat 0)):=by
    let e:(ns.map V.int)[k.toNat]?=some (V.int (ns.getD k.toNat 0)):=by
     let hl:k.toNat<ns.length:=⋯;rw[Zo,Zc hl];simp[List.getD,Zc hl]
    have:=mU e;rw[Y8 h0] at this;exact this
   apply⟨_,(),_,(),a,_,_,_,(),(),hS,tO,_,_,(),(),⟨∅,∅,∅⟩,_,_,(),(),(by show(0:Int)<10 ^ 60;decide),?_⟩
  all_goals
   apply⟨_,(),_,_,(),(),(by show(0:Int)<2147483629;decide),_,_,(),(),.inr ⟨∅,∅⟩,?_⟩;apply⟨_,(),_,_,(),(),.inl ⟨∅,∅⟩,_,(),_,_,(),(),.inr ⟨⋯,⋯⟩,_,_,(),(),?_⟩;apply⟨_,(),_,_,(),(),.inl ⟨∅,∅⟩,_,_,(),(),_,_,(),(),_,_,(),(),(by show(0:Int)<2147483645;decide),_,_,(),(),?_⟩;apply⟨_,(),_,_,(),(),⟨∅,∅,∅⟩,_,_,(),(),_,(),?_⟩;apply A8 (λhc=>?_) (λhc=>?_)
   .exact⟨_,(),by show 2<=sizeLine;decide,λp hp=>q p _ _ hp⟩
   .exact⟨_,(),_,(),by show 2<=sizeLine;decide,λp hp=>q p _ _ hp⟩
def uJ:ai ["bag","way"] ["bag"] (bA (top 77)):=L2.cZ
def BJ (F:cG K "_law_purse" "_law_purse" (top 77) f fd)(T:bN K mg P w base "_law_take" 1 ["bag","many"] rA fT dT)(R:bN K mg P w base "_law_frac" 1 ["top","bottom"] Ed fF dF):aI P w K mg base bY 2 f fd ["bag"] NI:=by
 apply F.ok uJ (λvs H Q E h=>?_) (λbD A outer s H vs Q E hr h=>?_)
 .obtain⟨b,rfl,_⟩:=h;rfl
 .obtain⟨b,rfl,hb,k⟩:=h;apply⟨_,dZ (oM (i:=1) uJ.nd rfl (Or.inl rfl) (du T.ok hr rfl T.mg T.kp T.bd .nil aO (aU (pv 0) (aU bC bP))))
   (dZ (kQ (mY nq (pv 1) bC (aJ _)) (cN (dM (gW (aU (c6 d6 bC (du T.ok hr rfl T.mg T.kp T.bd .nil aO (aU (pv 0) (aU bC bP)))) (aU bC bP))))) kR)
   (dZ (kQ (mY nq (pv 1) bC (aJ _)) (cN (dM (gW (aU (c6 d6 bC (du T.ok hr rfl T.mg T.kp T.bd .nil aO (aU (pv 0) (aU (c6 kZ bC bC) bP)))) (aU bC bP))))) kR)
   (dZ (kQ (mY nq (pv 1) bC (aJ _)) (cN (dM (du R.ok hr rfl R.mg R.kp R.bd .nil aO (aU (c6 d6 bC (du T.ok hr rfl T.mg T.kp T.bd .nil aO (aU (pv 0) (aU (c6 kZ bC bC) bP)))) (aU (c6 d6 bC (du T.ok hr rfl T.mg T.kp T.bd .nil aO (aU (pv 0) (aU (c6 kZ bC bC) bP)))) bP))))) kR)
   (cN (dM (du R.ok hr rfl R.mg R.kp R.bd .nil aO (aU (c6 d6 bC (du T.ok hr rfl T.mg T.kp T.bd .nil aO (aU (pv 0) (aU bC bP)))) (aU (c6 d6 bC (du T.ok hr rfl T.mg T.kp T.bd .nil aO (aU (pv 0) (aU bC bP)))) bP)))))))),?_⟩
  apply⟨_,(),b,_,(),hb,∅,∅,λr H1 r0 r1 oX WD=>?_⟩;apply⟨_,(),(),_,(),A8 (λ_=>?_) (λ_=>?_)⟩
  .apply⟨_,(),b,_,(),oX,∅,∅,λr2 H2 p0 p1 oP MY=>⟨_,_,(),(),by show 2<=sizeLine;decide,λp hp=>k _ _ _ (oP.new hp) ((WD.trans MY).new hp) HH (qd ⋯ ⋯)⟩⟩
  apply⟨_,(),(),_,(),A8 (λ_=>?_) (λ_=>?_)⟩
  .apply⟨_,(),_,_,(),(),⟨∅,∅,∅⟩,b,_,(),oX,∅,∅,λr2 H2 p0 p1 oP MY=>⟨_,_,(),(),by show 2<=sizeLine;decide,λp hp=>?_⟩⟩;let p1':r2<1000000:=p1;exact k _ _ _ (oP.new hp) ((WD.trans MY).new hp) HH (qd ⋯ ⋯)
  apply⟨_,(),(),_,(),A8 (λ_=>?_) (λ_=>?_)⟩
  .apply⟨_,(),_,_,(),(),⟨∅,∅,∅⟩,b,_,(),oX,∅,∅,λr2 H2 p0 p1 oP MY=>⟨_,_,(),(),?_⟩⟩;apply⟨_,(),_,_,(),(),⟨∅,∅,∅⟩,b,_,(),oP,∅,∅,λr3 H3 q0 q1 γ YR=>⟨_,_,(),(),?_⟩⟩;let p1':r2<1000000:=p1;let q1':r3<1000000:=q1;exact⟨_,_,(),⋯,⋯,λp hp=>k _ _ _ (γ.new hp) (((WD.trans MY).trans YR).new hp) HH (qe ⋯ ⋯ ⋯ ⋯)⟩
  .apply⟨_,(),b,_,(),oX,∅,∅,λr2 H2 p0 p1 oP MY=>⟨_,_,(),(),?_⟩⟩;apply⟨_,(),b,_,(),oP,∅,∅,λr3 H3 q0 q1 γ YR=>⟨_,_,(),(),?_⟩⟩;exact⟨_,_,(),⋯,⋯,λp hp=>k _ _ _ (γ.new hp) (((WD.trans MY).trans YR).new hp) HH (qe ⋯ ⋯ ⋯ ⋯)⟩
end
section
def Eg:ai ["one","other"] ["one","other"] (bA (top 9)):=L2.cZ
def Kb (F:cG K "common_divisor" "common_divisor" (top 9) f fd)(N:Nm mg):aI P w K mg base bY 1 f fd ["one","other"] rC:=by
 apply F.ok Eg (λvs H Q E h=>?_) (λbD A outer s H vs Q E hr h=>?_)
 .obtain⟨t,u,rfl,_⟩:=h;rfl
 .obtain⟨t,u,rfl,k⟩:=h;apply⟨_,dZ (kA PassesOwn.never (mY lL (pv 1) bC (aJ _)) (cN (rK (i:=0) (j:=1) rfl Eg.nd rfl rfl ∅ rfl rfl (aU (pv 1) (aU (c6 zW (pv 0) (pv 1)) bP)) (by rfl))))
   (cN (dM (lH om (by rfl) N.abs boot_abs (aU (pv 0) bP)))),?_⟩
  apply nU (λσ H'=>H'=H/\∃a c:Int,σ=[some (.int a),some (.int c)]/\Int.gcd a c=Int.gcd t u)
   (λσ _=>match σ with |[_,some (.int c)]=>c.natAbs |_=>0) ⟨rfl,t,u,rfl,rfl⟩ ?_ ?_
  .rintro σ H' ⟨rfl,a,c,rfl,e⟩;apply⟨_,(),(),_,(),?_⟩;by_cases hc:c=0
   .subst hc;apply bI ?_;apply⟨_,(),_,(),?_⟩;rw[vk,e];exact k
   .let e1:(!decide (V.int c=V.int 0))=true:=by simp[hc]
    rw[e1];apply bt ?_;exact⟨_,(),_,(),_,(),_,_,(),(),hc,_,_,(),⟨(),c,a.fmod c,(),u7.trans e⟩,Av hc⟩
  .rintro σ H' Q1 Q2 Dm ⟨v,e,sc,kk,ek,q⟩;exact⟨v,e,sc,kk,ek,Dm _ _ q⟩
def NM:ai ["top","bottom","divisor"] ["top","bottom"] (bA (top 10)):=L2.cZ
def vy (F:cG K "fraction" "fraction" (top 10) f fd)(T3:mg "NoNumber"=some (.ref Nn))(exN:PySem.W.excIn K Nn [.type "ValueError",.type "Exception",.type "BaseException",.type "object"] "ValueError.__new__"=true)(G:bN K mg P w base "common_divisor" 1 ["one","other"] rC fG dG):aI P w K mg base bY 2 f fd ["top","bottom"] (lV (wC Nn)):=by
 apply F.ok NM (λvs H Q E h=>?_) (λbD A outer s H vs Q E hr h=>?_)
 .obtain⟨t,u,rfl,_⟩:=h;rfl
 .obtain⟨t,u,rfl,hb,k0,k1⟩:=h;apply⟨_,dZ (kQ (mY nq (pv 1) bC (aJ _)) (cN (rL)) kR)
   (dZ (oM (i:=2) NM.nd rfl (Or.inl rfl) (du G.ok hr rfl G.mg G.kp G.bd .nil aO (aU (pv 0) (aU (pv 1) bP))))
   (dZ (kQ (mY pM (pv 1) bC (aJ _)) (cN (oM (i:=2) NM.nd rfl (Or.inl rfl) (LU D4 (pv 2)))) kR)
   (cN (dM (gW (aU (c6 jr (pv 0) (pv 2)) (aU (c6 jr (pv 1) (pv 2)) bP))))))),?_⟩
  apply⟨_,(),(),_,(),?_⟩;by_cases hu:u=0
  .subst hu;exact bt (k0 rfl)
  let e1:decide (V.int u=V.int 0)=false:=by simp[hu]
  rw[e1];apply bI ?_;apply⟨_,(),_,(),t,u,(),?_⟩;apply⟨_,(),_,_,(),(),_,(),?_⟩;let hs:=(km (t:=t) hu).2.2.2.1;let tK:=LH (t:=t) hb hu;let⟨q1,q2⟩:=k4 (T:=t) hu;let k1':∀p,H p=none->Q (.ref p) (aQ H p (.tup [.int (nx t u),.int (ny t u)])):=λp hp=>by rw[q1,q2];exact k1 hu p hp
  let iD:∀d:Int,d=sg t u->(Ts (Tr (Dz (MR (rI (λ_ j=>j≠0/\Bd 8000 j) λi j=>.int (i.fdiv j)) (wA 0) (wA 2)) (Dz (MR (rI (λ_ j=>j≠0/\Bd 8000 j) λi j=>.int (i.fdiv j)) (wA 1) (wA 2)) Tt)))) { nx:=λ_ H'=>Q .cg H',rt:=Q } [some (.int t),some (.int u),some (.int d)] H:=λd hd=>by
   subst hd;exact⟨_,(),_,(),_,_,(),(),⟨hs,tK⟩,_,(),_,(),_,_,(),(),⟨hs,tK⟩,by show 2<=sizeLine;decide,λp hp=>k1' p hp⟩
  by_cases hn:u<0
  .rw[decide_eq_true hn];exact bt ⟨_,(),_,(),iD _ (by unfold sg;rw[if_pos hn])⟩
  .rw[decide_eq_false hn];exact bI (iD _ (by unfold sg;rw[if_neg hn]))
def HM:ai ["top","bottom","one","other","by"] ["top","bottom"] (bA (top 70)):=L2.cZ
def LW (F:cG K "_law_frac" "_law_frac" (top 70) f fd)(B:Nm mg):aI P w K mg base bY 1 f fd ["top","bottom"] qS:=by
 apply F.ok HM (λvs H Q E h=>?_) (λbD A outer s H vs Q E hr h=>?_)
 .obtain⟨t,u,rfl,_⟩:=h;rfl
 .obtain⟨t,u,rfl,u0,u1,k⟩:=h;apply⟨_,dZ (rK (i:=2) (j:=3) rfl HM.nd rfl rfl ∅ rfl rfl (aU (pv 0) (aU (pv 1) bP)) (by rfl))
   (dZ (kA PassesOwn.never (mY lL (pv 3) bC (aJ _)) (cN (rK (i:=2) (j:=3) rfl HM.nd rfl rfl ∅ rfl rfl (aU (pv 3) (aU (c6 zW (pv 2) (pv 3)) bP)) (by rfl))))
   (dZ (oM (i:=4) HM.nd rfl (Or.inl rfl) (c6 iQ (lH om (by rfl) B.abs boot_abs (aU (pv 2) bP)) (c6 rN bC (c6 iQ bC (RF Cj (by rfl) B.int boot_int (aU (eU pM (pv 1) bC (aJ _)) bP))))))
   (cN (dM (gW (aU (c6 jr (pv 0) (pv 4)) (aU (c6 jr (pv 1) (pv 4)) bP))))))),?_⟩
  let hu:u≠0:=⋯;let⟨q1,q2⟩:=k4 (T:=t) hu;let k':∀p,H p=none->Q (.ref p) (aQ H p (.tup [.int (nx t u),.int (ny t u)])):=λp hp=>by rw[q1,q2];exact k p hp
  let hs:=(km (t:=t) hu).2.2.2.1;let tK:=LH (t:=t) u1 hu;let esg:(Int.gcd t u:Int)=sg t u:=by unfold sg;rw[if_neg ⋯]
  apply⟨_,(),_,(),_,_,(),?_⟩;apply nU (λσ H'=>H'=H/\∃a c:Int,σ=[some (.int t),some (.int u),some (.int a),some (.int c),none]/\Int.gcd a c=Int.gcd t u)
   (λσ _=>match σ with |[_,_,_,some (.int c),_]=>c.natAbs |_=>0) ⟨rfl,t,u,rfl,rfl⟩ ?_ ?_
  .rintro σ H' ⟨rfl,a,c,rfl,e⟩;apply⟨_,(),(),_,(),?_⟩;by_cases hc:c=0
   .subst hc;apply bI ?_;apply⟨_,(),_,(),_,(),_,_,(),(),.inr ⟨_,(),_,_,(),(),.inl ⟨∅,∅⟩,_,_,(),(),?_⟩⟩;let e2:decide (u<0)=false:=decide_eq_false ⋯;rw[vk,e,e2,esg];let e3:sg t u*(1-2*(if false=true then (1:Int) else 0))=sg t u:=by simp
    apply⟨_,_,(),(),.inr ⟨∅,∅⟩,?_⟩;show fg 4 (V.int (sg t u*(1-2*(if false=true then (1:Int) else 0)))) _ _ _;rw[e3];exact⟨_,(),_,(),_,_,(),(),⟨hs,tK⟩,_,(),_,(),_,_,(),(),⟨hs,tK⟩,by show 2<=sizeLine;decide,λp hp=>k' p hp⟩
   .let e1:(!decide (V.int c=V.int 0))=true:=by simp[hc]
    rw[e1];apply bt ?_;exact⟨_,(),_,(),_,(),_,_,(),(),hc,_,_,(),⟨(),c,a.fmod c,(),u7.trans e⟩,Av hc⟩
  .rintro σ H' Q1 Q2 Dm ⟨v,e,sc,kk,ek,q⟩;exact⟨v,e,sc,kk,ek,Dm _ _ q⟩
def Fb:ai ["one","other"] ["one","other"] (bA (top 11)):=L2.cZ
def FI (F:cG K "times" "times" (top 11) f fd)(G:bN K mg P w base "fraction" 2 ["top","bottom"] (lV (wC Nn)) fF dF):aI P w K mg base bY 3 f fd ["one","other"] (lV (AL pE)):=by
 apply F.ok Fb (λvs H Q E h=>?_) (λbD A outer s H vs Q E hr h=>?_)
 .obtain⟨p,q,a,b,rfl,_⟩:=h;rfl
 .obtain⟨p,q,a,b,rfl,hp,hq,⟨ba,bb⟩,⟨bc,bd⟩,k⟩:=h;let hb:=den_pos a;let hd:=den_pos b;apply⟨_,cN (dM (du G.ok hr rfl G.mg G.kp G.bd .nil aO (aU (c6 qI (d8 bZ (pv 0) bC (λ_ _=>rfl)) (d8 bZ (pv 1) bC (λ_ _=>rfl))) (aU (c6 qI (d8 bZ (pv 0) bC (λ_ _=>rfl)) (d8 bZ (pv 1) bC (λ_ _=>rfl))) bP)))),?_⟩;apply⟨_,(),p,_,_,_,(),(),aK.of hp,(),_,(),q,_,_,_,(),(),aK.of hq,(),_,_,(),(),⟨b3 ba,b3 bc⟩,_,(),p,_,_,_,(),(),aK.of hp,(),_,(),q,_,_,_,(),(),aK.of hq,(),_,_,(),(),⟨b3 bb,b3 bd⟩,?_⟩;exact⟨_,_,(),b6 (bb.mul bd),λh0=>absurd h0 (Int.ne_of_gt (Xd hb hd)),λ_ r jM=>by rw[mG];exact k r jM⟩
def xI:ai ["one","other"] ["one","other"] (bA (top 71)):=L2.cZ
def xR (F:cG K "_law_add" "_law_add" (top 71) f fd)(G:bN K mg P w base "_law_frac" 1 ["top","bottom"] qS fF dF):aI P w K mg base bY 2 f fd ["one","other"] (AL Sm):=by
 apply F.ok xI (λvs H Q E h=>?_) (λbD A outer s H vs Q E hr h=>?_)
 .obtain⟨p,q,a,b,rfl,_⟩:=h;rfl
 .obtain⟨p,q,a,b,rfl,hp,hq,⟨ba,bb⟩,⟨bc,bd⟩,k⟩:=h;let hb:=den_pos a;let hd:=den_pos b;apply⟨_,cN (dM (du G.ok hr rfl G.mg G.kp G.bd .nil aO (aU (c6 d6 (c6 qI (d8 bZ (pv 0) bC (λ_ _=>rfl)) (d8 bZ (pv 1) bC (λ_ _=>rfl))) (c6 qI (d8 bZ (pv 1) bC (λ_ _=>rfl)) (d8 bZ (pv 0) bC (λ_ _=>rfl)))) (aU (c6 qI (d8 bZ (pv 0) bC (λ_ _=>rfl)) (d8 bZ (pv 1) bC (λ_ _=>rfl))) bP)))),?_⟩;apply⟨_,(),p,_,_,_,(),(),aK.of hp,(),_,(),q,_,_,_,(),(),aK.of hq,(),_,_,(),(),⟨b3 ba,b3 bd⟩,_,(),q,_,_,_,(),(),aK.of hq,(),_,(),p,_,_,_,(),(),aK.of hp,(),_,_,(),(),⟨b3 bc,b3 bb⟩,_,_,(),(),_,(),p,_,_,_,(),(),aK.of hp,(),_,(),q,_,_,_,(),(),aK.of hq,(),_,_,(),(),⟨b3 bb,b3 bd⟩,?_⟩;exact⟨_,_,(),Xd hb hd,b6 (bb.mul bd),λr jM=>by rw[mV];exact k r jM⟩
def xF:ai ["one","other"] ["one","other"] (bA (top 72)):=L2.cZ
def xO (F:cG K "_law_sub" "_law_sub" (top 72) f fd)(G:bN K mg P w base "_law_frac" 1 ["top","bottom"] qS fF dF):aI P w K mg base bY 2 f fd ["one","other"] (AL YL):=by
 apply F.ok xF (λvs H Q E h=>?_) (λbD A outer s H vs Q E hr h=>?_)
 .obtain⟨p,q,a,b,rfl,_⟩:=h;rfl
 .obtain⟨p,q,a,b,rfl,hp,hq,⟨ba,bb⟩,⟨bc,bd⟩,k⟩:=h;let hb:=den_pos a;let hd:=den_pos b;apply⟨_,cN (dM (du G.ok hr rfl G.mg G.kp G.bd .nil aO (aU (c6 rN (c6 qI (d8 bZ (pv 0) bC (λ_ _=>rfl)) (d8 bZ (pv 1) bC (λ_ _=>rfl))) (c6 qI (d8 bZ (pv 1) bC (λ_ _=>rfl)) (d8 bZ (pv 0) bC (λ_ _=>rfl)))) (aU (c6 qI (d8 bZ (pv 0) bC (λ_ _=>rfl)) (d8 bZ (pv 1) bC (λ_ _=>rfl))) bP)))),?_⟩;apply⟨_,(),p,_,_,_,(),(),aK.of hp,(),_,(),q,_,_,_,(),(),aK.of hq,(),_,_,(),(),⟨b3 ba,b3 bd⟩,_,(),q,_,_,_,(),(),aK.of hq,(),_,(),p,_,_,_,(),(),aK.of hp,(),_,_,(),(),⟨b3 bc,b3 bb⟩,_,_,(),(),_,(),p,_,_,_,(),(),aK.of hp,(),_,(),q,_,_,_,(),(),aK.of hq,(),_,_,(),(),⟨b3 bb,b3 bd⟩,?_⟩;exact⟨_,_,(),Xd hb hd,b6 (bb.mul bd),λr jM=>by rw[I0];exact k r jM⟩
def xG:ai ["one","other"] ["one","other"] (bA (top 73)):=L2.cZ
def xP (F:cG K "_law_mul" "_law_mul" (top 73) f fd)(G:bN K mg P w base "_law_frac" 1 ["top","bottom"] qS fF dF):aI P w K mg base bY 2 f fd ["one","other"] (AL pE):=by
 apply F.ok xG (λvs H Q E h=>?_) (λbD A outer s H vs Q E hr h=>?_)
 .obtain⟨p,q,a,b,rfl,_⟩:=h;rfl
 .obtain⟨p,q,a,b,rfl,hp,hq,⟨ba,bb⟩,⟨bc,bd⟩,k⟩:=h;let hb:=den_pos a;let hd:=den_pos b;apply⟨_,cN (dM (du G.ok hr rfl G.mg G.kp G.bd .nil aO (aU (c6 qI (d8 bZ (pv 0) bC (λ_ _=>rfl)) (d8 bZ (pv 1) bC (λ_ _=>rfl))) (aU (c6 qI (d8 bZ (pv 0) bC (λ_ _=>rfl)) (d8 bZ (pv 1) bC (λ_ _=>rfl))) bP)))),?_⟩;apply⟨_,(),p,_,_,_,(),(),aK.of hp,(),_,(),q,_,_,_,(),(),aK.of hq,(),_,_,(),(),⟨b3 ba,b3 bc⟩,_,(),p,_,_,_,(),(),aK.of hp,(),_,(),q,_,_,_,(),(),aK.of hq,(),_,_,(),(),⟨b3 bb,b3 bd⟩,?_⟩;exact⟨_,_,(),Xd hb hd,b6 (bb.mul bd),λr jM=>by rw[mG];exact k r jM⟩
def Bw:ai ["one","other"] ["one","other"] (bA (top 13)):=L2.cZ
def J8 (F:cG K "less" "less" (top 13) f fd):aI P w K mg base bY 1 f fd ["one","other"] iM:=by
 apply F.ok Bw (λvs H Q E h=>?_) (λbD A outer s H vs Q E hr h=>?_)
 .obtain⟨p,q,a,b,rfl,_⟩:=h;rfl
 .obtain⟨p,q,a,b,rfl,hp,hq,⟨ba,bb⟩,⟨bc,bd⟩,k⟩:=h;let hb:=den_pos a;let hd:=den_pos b;apply⟨_,cN (dM (eU pM (c6 qI (d8 bZ (pv 0) bC (λ_ _=>rfl)) (d8 bZ (pv 1) bC (λ_ _=>rfl))) (c6 qI (d8 bZ (pv 1) bC (λ_ _=>rfl)) (d8 bZ (pv 0) bC (λ_ _=>rfl))) (aJ _))),?_⟩;exact⟨_,(),p,_,_,_,(),(),aK.of hp,(),_,(),q,_,_,_,(),(),aK.of hq,(),_,_,(),(),⟨b3 ba,b3 bd⟩,_,(),q,_,_,_,(),(),aK.of hq,(),_,(),p,_,_,_,(),(),aK.of hp,(),_,_,(),(),⟨b3 bc,b3 bb⟩,_,_,(),(),by simp only[EC];exact k⟩
def ph:ai ["one","other"] ["one","other"] (bA (top 75)):=L2.cZ
def vq (F:cG K "_law_less" "_law_less" (top 75) f fd):aI P w K mg base bY 1 f fd ["one","other"] iM:=by
 apply F.ok ph (λvs H Q E h=>?_) (λbD A outer s H vs Q E hr h=>?_)
 .obtain⟨p,q,a,b,rfl,_⟩:=h;rfl
 .obtain⟨p,q,a,b,rfl,hp,hq,⟨ba,bb⟩,⟨bc,bd⟩,k⟩:=h;let hb:=den_pos a;let hd:=den_pos b;apply⟨_,cN (dM (eU pM (c6 qI (d8 bZ (pv 0) bC (λ_ _=>rfl)) (d8 bZ (pv 1) bC (λ_ _=>rfl))) (c6 qI (d8 bZ (pv 1) bC (λ_ _=>rfl)) (d8 bZ (pv 0) bC (λ_ _=>rfl))) (aJ _))),?_⟩;exact⟨_,(),p,_,_,_,(),(),aK.of hp,(),_,(),q,_,_,_,(),(),aK.of hq,(),_,_,(),(),⟨b3 ba,b3 bd⟩,_,(),q,_,_,_,(),(),aK.of hq,(),_,(),p,_,_,_,(),(),aK.of hp,(),_,_,(),(),⟨b3 bc,b3 bb⟩,_,_,(),(),by simp only[EC];exact k⟩
def OO:ai ["one","other"] ["one","other"] (bA (top 12)):=L2.cZ
def J0 (F:cG K "over" "over" (top 12) f fd)(G:bN K mg P w base "fraction" 2 ["top","bottom"] (lV (wC Nn)) fF dF):aI P w K mg base bY 3 f fd ["one","other"] (lV (nA Nn)):=by
 apply F.ok OO (λvs H Q E h=>?_) (λbD A outer s H vs Q E hr h=>?_)
 .obtain⟨p,q,a,b,rfl,_⟩:=h;rfl
 .obtain⟨p,q,a,b,rfl,hp,hq,⟨ba,bb⟩,⟨bc,bd⟩,k0,k1⟩:=h;let hb:=den_pos a;let hd:=den_pos b;apply⟨_,cN (dM (du G.ok hr rfl G.mg G.kp G.bd .nil aO (aU (c6 qI (d8 bZ (pv 0) bC (λ_ _=>rfl)) (d8 bZ (pv 1) bC (λ_ _=>rfl))) (aU (c6 qI (d8 bZ (pv 0) bC (λ_ _=>rfl)) (d8 bZ (pv 1) bC (λ_ _=>rfl))) bP)))),?_⟩;apply⟨_,(),p,_,_,_,(),(),aK.of hp,(),_,(),q,_,_,_,(),(),aK.of hq,(),_,_,(),(),⟨b3 ba,b3 bd⟩,?_⟩;apply⟨_,(),p,_,_,_,(),(),aK.of hp,(),_,(),q,_,_,_,(),(),aK.of hq,(),_,_,(),(),⟨b3 bb,b3 bc⟩,?_⟩;apply⟨_,_,(),b6 (bb.mul bc),λh0=>k0 ?_,λh0 r jM=>?_⟩
  .rcases Int.mul_eq_zero.mp h0 with z |z
   .omega
   .exact Rat.num_eq_zero.mp z
  .let hn:b.num≠0:=λz=>h0 (by rw[z,Int.mul_zero])
   rw[mO hn];exact k1 (λz=>hn (by rw[z];rfl)) r jM
end
section
def yO:ai ["parts","found","part"] ["parts"] (bA (top 15)):=L2.cZ
def vw (F:cG K "greatest" "greatest" (top 15) f fd)(A:bN K mg P w base "less" 1 ["one","other"] iM fA dA):aI P w K mg base bY 2 f fd ["parts"] DB:=by
 apply F.ok yO (λvs H Q E h=>?_) (λbD A' outer s H vs Q E hr h=>?_)
 .obtain⟨l,ys,qs,rfl,_⟩:=h;rfl
 .obtain⟨l,ys,qs,rfl,hl,hf,bv,hb,k⟩:=h;apply⟨_,dZ (oM (i:=1) yO.nd rfl (Or.inl rfl) (d8 tY (pv 0) bC (λ_ _=>rfl)))
   (dZ (nE PassesOwn.never rfl (NT (pv 0)) (gj (i:=2) yO.nd rfl (Or.inl rfl))
    (cN (kQ (sZ (du A.ok hr rfl A.mg A.kp A.bd .nil aO (aU (pv 1) (aU (pv 2) bP)))) (cN (oM (i:=1) yO.nd rfl (Or.inl rfl) (pv 2))) kR)))
   (cN (dM (pv 1)))),?_⟩
  let eP:0<qs.length:=Xi.mpr bv;let⟨a0,Δ,ε⟩:=hf.at (g:=0) eP;let m0:qs.getD 0 0∈qs:=by simp[List.getD,Zc eP]
  apply⟨_,(),l,_,_,_,(),(),bG.of hl,Δ,?_⟩;apply⟨_,(),l,(),⟨_,bG.of hl⟩,?_⟩;apply u8 (xs:=ys) (λi σ H'=>H'=H/\∃a q y2,σ=[some (.ref l),some (.ref a),y2]/\H a=some (qO q)/\q∈qs/\∀z∈qs.take i,z<=q) ⟨(),a0,_,_,(),ε,m0,λz hz=>by simp at hz⟩ (λi σ H' _ z=>by let⟨rfl,_⟩:=z;exact bG.of hl) ?_ ?_
  .rintro i x σ H1 hx ⟨rfl,a,q,y2,rfl,ha,hq,d4⟩;let⟨c,z,rfl,hc,hz⟩:=sE hf hx;let SH:=Z0 hz;apply⟨_,(),_,(),a,c,q,z,(),ha,hc,hb q hq,hb z SH,_,(),?_⟩;by_cases cD:q<z
   .rw[decide_eq_true cD];apply bt ⟨_,(),(),c,z,_,(),hc,SH,λy hy=>?_⟩;rw[yC hz] at hy;rcases Zw.mp hy with h |h
    .exact Yn (d4 y h) (Zt cD)
    .rw[Zy.mp h];exact Yr
   .rw[decide_eq_false cD];apply bI ⟨(),a,q,_,(),ha,hq,λy hy=>?_⟩;rw[yC hz] at hy;rcases Zw.mp hy with h |h
    .exact d4 y h
    .rw[Zy.mp h];exact Yx.mp cD
  .rintro σ H1 ⟨rfl,a,q,y2,rfl,ha,hq,d4⟩;rw[hf.1,Yp] at d4;exact⟨_,(),k a q ha hq d4⟩
def ON:ai ["wish","price"] ["wish","price"] (bA (top 39)):=L2.cZ
def JX (F:cG K "rate" "rate" (top 39) f fd)(A:bN K mg P w base "over" 3 ["one","other"] (lV (nA Nn)) fA dA):aI P w K mg base bY 4 f fd ["wish","price"] rB:=by
 apply F.ok ON (λvs H Q E h=>?_) (λbD A' outer s H vs Q E hr h=>?_)
 .obtain⟨n,q,x,rfl,_⟩:=h;rfl
 .obtain⟨n,q,x,rfl,hq,bx,x0,n0,n1,k⟩:=h;apply⟨_,cN (dM (du A.ok hr rfl A.mg A.kp A.bd .nil aO (aU (gW (aU (pv 0) (aU bC bP))) (aU (pv 1) bP)))),?_⟩;apply⟨_,(),by show 2<=sizeLine;decide,λp hp=>?_⟩;let s0:=(aw.refl H).new (o:=.tup [.int n,.int 1]) hp;let bn:Rb 3000 (n:Rat):=iN (Bd.mono (j:=7) (by unfold Bd;omega) ∅) ∅;let hx:x≠0:=λz=>by rw[z] at x0;exact absurd x0 ∅
  apply⟨_,(),p,q,(n:Rat),x,(),dU,s0 _ _ hq,bn,bx.mono ∅,λz=>absurd z hx,λ_ r jM=>?_⟩;exact k r _ (s0.new jM) dU
end
section
abbrev NBB:Δ2:=["row","prices","rates","most"]
def NO:ai NBB ["row","prices"] (bA (top 38)):=L2.cZ
def VM (F:cG K "best_by_wishes" "best_by_wishes" (top 38) f fd)(N:Nm mg)(R:bN K mg P w base "rate" 4 ["wish","price"] rB fR dR)(G:bN K mg P w base "greatest" 2 ["parts"] DB fG dG):aI P w K mg base bY 5 f fd ["row","prices"] TH:=by
 apply F.ok NO (λvs H Q E h=>?_) (λbD A' outer s H vs Q E hr h=>?_)
 .obtain⟨r,q,ns,ys,qs,rfl,_⟩:=h;rfl
 .obtain⟨r,q,ns,ys,qs,rfl,RK,hq,hf,cF,h6,Y',WP,eP,k⟩:=h;let Hu:db 2 _:=hr.mono ∅;let hu:=hr.units;let WG:=yY hr;apply⟨_,dZ (oM (i:=2) NO.nd rfl (Or.inr rfl) (FA (own:=["good","wish"]) (cap:=["prices"]) (ix:=[1]) (aM.of (bA (top 38)).names NBB) rfl (mB rfl N.enumerate Hm (aU (pv 0) bP))
    (λC fp s H=>⟨gU (n:=2) rfl (qK (gj (i:=0) (Ψ9 ["good","wish","prices"]) rfl (Or.inl rfl)) (qK (gj (i:=1) (Ψ9 ["good","wish","prices"]) rfl (Or.inl rfl)) eS)),
     kB (mY gq (pv 1) bC (aJ _)),pv 0,du R.ok hr rfl R.mg R.kp R.bd .nil aO (aU (pv 1) (aU (d8 bZ (pv 2) (pv 0) (λ_ _=>rfl)) bP))⟩)))
   (dZ (kQ (qH (uO (pv 2) (λ_=>rfl))) (cN (dM (gW bP))) kR)
   (dZ (oM (i:=3) NO.nd rfl (Or.inr rfl) (du G.ok Hu rfl G.mg G.kp G.bd .nil aO (aU (RF (lE rfl) (by rfl) N.list boot_list (aU (Em PySem.F.plainAttrs_dict PySem.F.slot_dict_values PySem.F.type_dict_values BO (pv 2)) bP)) bP)))
   (cN (dM (RF gx (by rfl) N.tuple pG (aU (yB (own:=["good"]) (cap:=["most","rates"]) (ix:=[3,2]) (aM.of (bA (top 38)).names NBB) rfl (JN (pv 2))
    (λC fp s H=>⟨gj (i:=0) (Ψ9 ["good","most","rates"]) rfl (Or.inl rfl),kB (mY (En hu) (zR WG (pv 2) (pv 0) (λ_ _=>rfl)) (pv 1) (aJ _)),pv 0⟩)) bP)))))),?_⟩
  let G0:∀j,0<=ns.getD j 0:=λj=>by
   by_cases hj:j<ns.length
   .have:ns.getD j 0∈ns:=by simp[List.getD,Zc hj]
    exact(Y' _ this).1
   .simp[List.getD,Yu (Xb hj)]
  apply⟨_,(),r,(),⟨_,aK.of RK⟩,λacc bU=>?_⟩;apply ym (xs:=ns.map V.int) (λi kvs H'=>aw H H'/\tQ ns qs i kvs H') ⟨(aw.refl H).acc bU,⟨(),⟨(),λj y z=>by simp at z⟩⟩⟩ (λi zs H' _ _ z=>aK.of (z.1 _ _ RK)) ?_ ?_
  .rintro i x kvs H1 H2 hx hy ⟨s1,rt⟩ s2;obtain⟨n,hn,rfl⟩:∃n:Int,ns[i]?=some n/\x=V.int n:=by
    rw[Zo] at hx;cases e:ns[i]? with
    |none=>rw[e] at hx;cases hx
    |some n=>rw[e] at hx;exact⟨n,(),by simpa using hx.symm⟩
   let hi:i<ns.length:=(Zf.mp hn).1;let R5:ns.getD i 0=n:=by simp[List.getD,hn]
   let v9:=s1.trans s2;apply⟨_,(),_,_,(),(),_,(),?_⟩;by_cases h0:0<n
   .rw[decide_eq_true h0];let⟨aq,eq1,Lj⟩:=hf.at (g:=i) ⋯;let bn:=Y' n (Z0 hn);let x0:=eP i (by rw[R5];exact h0);let bx:Rb 300 (qs.getD i 0):=by
     have:qs.getD i 0∈qs:=by simp[List.getD,Zc (show i<qs.length by omega)]
     exact WP _ this
    apply bt ⟨_,(),_,(),_,(),_,(),q,_,_,_,(),(),aK.of (v9 _ _ hq),eq1,n,aq,_,(),v9 _ _ Lj,bx,x0,bn.1,bn.2,λt H3 s3 ht=>?_⟩;let SK:=s3 _ _ (s2 _ _ hy);let ki:(V.int (i:Int))=kV (na i):=rfl;let Sk:=(rt.ak s2).ak s3;let tm3:Tm H3 (aQ H3 acc (.dK (dh kvs (na i) (.ref t)))):=λa xs ha=>by rw[dg (uh ha SK (by intro z;cases z))];exact ha
    apply⟨kvs,na i,SK,ki,?_,Lw.of dU ⟨(v9.trans s3).acc bU,(Sk.put (by rw[R5];exact h0) ?_).tm tm3⟩⟩
    .have:=rt.len;have:=uQ ns i;rw[sz];omega
    .unfold dX;rw[R5];exact ht
   .rw[decide_eq_false h0];apply bI (Lw.of (s2 _ _ hy) ⟨v9,(rt.skip (by rw[R5];exact h0)).ak s2⟩)
  .rintro kvs H1 hy ⟨s1,rt⟩;rw[Zb] at rt;let RP:=rt.len;let lW:=uQ ns ns.length;apply⟨_,(),_,.inr (.inr ⟨kvs,hy,()⟩),?_⟩;cases B':kvs.isEmpty with
   |true =>
    let N2:kvs=[]:=List.isEmpty_iff.mp B';subst N2;let SO:eN ns ns.length=[]:=Jd.mp RP.symm;apply bt ⟨by show 0<=sizeLine;decide,λt ht=>k t _ (s1.new ht) ?_⟩;rw[Cp G0 SO];exact dU
   |false =>
   let N2:kvs≠[]:=λz=>by rw[z] at B';cases B'
   apply bI ?_;apply⟨_,(),.inr (.inr (.inl ⟨(),.inl ⟨_,hy⟩⟩)),acc,kvs,(),(),hy,λv hv=>?_⟩;let s2:=(aw.refl H1).new (o:=gd v acc) hv;apply⟨v,acc,kvs,(),dU,.inl (s2 _ _ hy),λl hl=>?_⟩;let s3:=s2.new (o:=.lst (kvs.map (·.2))) hl;let Sk:=rt.ak s3;apply⟨l,_,_,(),dU,Sk.fr,?_,?_,λa m ha hm d4=>?_⟩
   .intro z;have:=congrArg List.length z;rw[Zb,<- RP] at this;exact N2 (Jd.mp this)
   .intro z hz;let⟨j,hj,rfl⟩:=Zd.mp hz;let⟨jl,jp⟩:=sq hj;unfold dX;let bq:Rb 300 (qs.getD j 0):=by
     have:qs.getD j 0∈qs:=by simp[List.getD,Zc (show j<qs.length by omega)]
     exact WP _ this
    let bn:Bd 300 (ns.getD j 0):=by
     have:ns.getD j 0∈ns:=by simp[List.getD,Zc jl]
     have:=Y' _ this;exact Bd.mono (j:=7) (by unfold Bd;omega) ∅
    exact(Jx bn bq (eP j jp)).mono ∅
   generalize aQ (aQ H1 v (gd v acc)) l (.lst (kvs.map (·.2)))=H3 at s3 Sk ha ⊢;let SK:=s3 _ _ hy;apply⟨_,(),acc,kvs,(),SK,λo Og nv=>?_⟩;let aeR:H acc=none:=bU;let bv:Og≠acc:=λz=>by rw[z,dU] at nv;cases nv
   let h3n:H3 Og=none:=by rw[dg bv] at nv;exact nv
   let Hg:=s1.trans s3;let tm4:Tm H3 (aQ H3 acc (.iz o (.dK kvs))):=λa xs ha=>by rw[dg (uh ha SK (by intro z;cases z))];exact ha
   let s4:aw H (aQ H3 acc (.iz o (.dK kvs))):=Hg.acc bU;let rt4:=Sk.tm tm4;let ha4:=tm4 _ _ ha;let Nf:(aQ H3 acc (.iz o (.dK kvs))) acc=some (.iz o (.dK kvs)):=dU;generalize aQ H3 acc (.iz o (.dK kvs))=H4 at s4 rt4 ha4 Nf nv ⊢;apply Ce (kvs:=kvs) (λi zs H'=>aw H4 H'/\zs=cX (((eN ns ns.length).take i).filter λj=>decide (dX ns qs j=m))) ⟨(aw.refl H4).acc nv,()⟩ (λi zs H' _ _ z=>z.1 _ _ Nf) ?_ ?_
   .rintro i kk vv zs H5 RO hz ⟨s5,rfl⟩;let⟨j,aj,hj,rfl,rfl,haj,wH⟩:=rt4.at RO;let hjm:=Z0 hj;apply⟨_,(),_,(),acc,_,(),.inl ⟨kvs,na j,.inr ⟨o,s5 _ _ Nf⟩,(),wH.symm⟩,_,(),?_⟩;apply⟨qD (dX ns qs j),qD m,LS (s5 _ _ haj),LS (s5 _ _ ha4),Zl (Nat.min_le_left _ _) (Zl (DW _) ∅),_,(),?_⟩;rw[xr];let hil:i<(eN ns ns.length).length:=(Zf.mp hj).1;cases hd:decide (dX ns qs j=m) with
    |true =>
     apply bt ⟨_,(),_,hz,?_,Cn.of dU ⟨s5.acc nv,?_⟩⟩
     .unfold cX;have:=Yv (λj=>decide (dX ns qs j=m)) ((eN ns ns.length).take i);let h3:((eN ns ns.length).take i).length<=i:=List.length_take_le _ _;rw[Zb,sz];omega
     .rw[yC hj,Xj];let e1:[j].filter (λj=>decide (dX ns qs j=m))=[j]:=by simp only[List.filter,hd]
      rw[e1];unfold cX;rw[Zs];rfl
    |false =>
     apply bI (Cn.of hz ⟨s5,?_⟩);rw[yC hj,Xj];let e1:[j].filter (λj=>decide (dX ns qs j=m))=[]:=by simp only[List.filter,hd]
     rw[e1,Ym]
   .rintro zs H5 hz ⟨s5,rfl⟩;rw[RP,Yp] at hz;apply⟨Og,_,(),.inl ⟨bG.of hz,λt ht=>?_⟩⟩;apply k t _ ((s4.trans s5).new ht) ?_;rw[GG eP G0 hm d4];exact dU
end
section
abbrev NAr:Δ2:=["market","thing","goods"]
def LJ:ai NAr ["market","thing"] (bA (top 34)):=L2.cZ
def P2 (F:cG K "are_prices" "are_prices" (top 34) f fd)(N:Nm mg)(Z:CC K)(I:bN K mg P w base "is_fraction" 2 ["thing"] (spT bL) fI dI)(W:bN K mg P w base "wished" 1 ["market"] yI fW dW):aI P w K mg base bY 3 f fd ["market","thing"] LF:=by
 apply F.ok LJ (λvs H Q E h=>?_) (λbD A' outer s H vs Q E hr h=>?_)
 .obtain⟨b,p,pa,pp,pw,xa,xp,xw,am,pu,wi,v,d,rfl,_⟩:=h;rfl
 .obtain⟨b,p,pa,pp,pw,xa,xp,xw,am,pu,wi,v,d,rfl,m,hT,k⟩:=h;let tL:db 1 _:=hr.mono ∅;let hu:=hr.units;let⟨CG,K2,Df,Wz,a1,a6,w1,w6,_⟩:=m.lw;apply⟨_,dZ (kQ (PW.pt (pw_or (qH (sZ (qW K (pv 1) rfl N.isinstance rfl N.tuple pG Hn))) (pw_or1 (mY lL (lH et (by rfl) N.len Yi (aU (pv 1) bP)) (lH et (by rfl) N.len Yi (aU (d8 bZ (pv 0) bC (λ_ _=>rfl)) bP)) (aJ _))))) (cN (dM iu)) kR)
   (dZ (kQ (qH (sZ (lH (pS rfl) (by rfl) N.all boot_all (aU (yB (own:=["part"]) (cap:=[]) (ix:=[]) (aM.of (bA (top 34)).names NAr) rfl (qU (pv 1))
     (λC fp s H=>⟨gj (i:=0) (Ψ9 ["part"]) rfl (Or.inl rfl),Cv,du I.ok hr rfl I.mg I.kp I.bd .nil aO (aU (pv 0) bP)⟩)) bP)))) (cN (dM iu)) kR)
   (dZ (oM (i:=2) LJ.nd rfl (Or.inr rfl) (du W.ok tL rfl W.mg W.kp W.bd .nil aO (aU (pv 0) bP)))
   (cN (dM (lH (pS rfl) (by rfl) N.all boot_all (aU (yB (own:=["good","price"]) (cap:=["goods"]) (ix:=[2]) (aM.of (bA (top 34)).names NAr) rfl (mB rfl N.enumerate Hm (aU (pv 1) bP))
     (λC fp s H=>⟨gU (n:=2) rfl (qK (gj (i:=0) (Ψ9 ["good","price","goods"]) rfl (Or.inl rfl)) (qK (gj (i:=1) (Ψ9 ["good","price","goods"]) rfl (Or.inl rfl)) eS)),
      Cv,uR (mY yR (pv 0) (pv 2) (by with_unfolding_all rfl)) (eU gq (d8 bZ (pv 1) bC (λ_ _=>rfl)) bC (aJ _)) (eU nq (d8 bZ (pv 1) bC (λ_ _=>rfl)) bC (aJ _))⟩)) bP)))))),?_⟩
  let⟨t1,vY,e1⟩:=M5 Z hT;apply⟨_,(),t1,_,vY,e1,_,(),?_⟩;let hk:=k H (aw.refl H);rcases g9 hT with hn |⟨a,xs,ds,rfl,rfl,ha,hs⟩
  .rw[hn];rw[Gd hn] at hk;exact bt (bt hk)
  apply bI ?_;let cF:=hs.len;apply⟨_,(),a,xs,(),.inr (aK.of ha),_,(),p,_,_,_,(),(),aK.of m.hp,(),pa,xa,(),.inr (aK.of m.ha),(),_,(),?_⟩;by_cases hl:xs.length=xa.length
  case neg =>
   rw[ke hl];let e3:eJ xa.length (rowsOf wi) (.tuple ds)=false:=by
    cases e:eJ xa.length (rowsOf wi) (.tuple ds) with
    |false=>rfl
    |true=>exact absurd (cF.trans (mw.mp e).1) hl
   rw[e3] at hk;exact bt hk
  rw[hl,rY];apply bI ?_;apply⟨_,(),a,(),⟨_,aK.of ha⟩,λacc bU=>?_⟩;apply iX (xs:=xs) (λj zs H2=>aw H H2/\zs=(ds.take j).map λd=>V.bl (bL d)) ⟨(aw.refl H).acc bU,()⟩ (λj zs H2 _ _ z=>aK.of (z.1 _ _ ha)) ?_ ?_
  .rintro j x zs H2 hx hz ⟨s2,rfl⟩;let⟨dx,Ni,tx⟩:=hs.at hx;apply lI ⟨_,(),b,x,dx,(),tx.ak s2,λH3 s3=>?_⟩;let hj:j<ds.length:=(Zf.mp Ni).1;apply⟨_,s3 _ _ hz,?_,Cn.of dU ⟨(s2.trans s3).acc bU,?_⟩⟩
   .rw[Zb,Yz,sz];omega
   .rw[yC Ni,Zs];rfl
  rintro zs H2 hz ⟨s2,rfl⟩;rw[cF,Yp] at hz;apply⟨acc,_,(),.inl (bG.of hz),?_,_,(),?_⟩
  .rw[Xk];simp[Function.comp_def,fj]
  let e:(ds.map λd=>V.bl (bL d)).all tv=ds.all bL:=by rw[Xk];rfl
  rw[e];let Nb:=k H2 s2;cases Lk:ds.all bL with
  |false =>
   apply bt ?_;let e3:eJ xa.length (rowsOf wi) (.tuple ds)=false:=by
    cases e:eJ xa.length (rowsOf wi) (.tuple ds) with
    |false=>rfl
    |true =>
     let⟨h1,h2⟩:=mw.mp e;have:ds.all bL=true:=Yf.mpr λd hd=>by
      let⟨j,hj,ej⟩:=Yq hd;let h3:=h2 j ⋯;let e2:ds.getD j .none=d:=by simp[List.getD,Zc hj,ej]
      rw[e2] at h3;cases hf:bL d with
      |true=>rfl
      |false=>rw[oD hf] at h3;cases h3
     rw[this] at Lk;cases Lk
   rw[e3] at Nb;exact Nb
  |true =>
  apply bI ?_;let m2:=m.ak s2;apply⟨_,(),b,p,pa,pp,pw,xa,xp,xw,am,pu,wi,(),m2,λqg H3 s3 hqg=>?_⟩;let Ww:=s2.trans s3;apply⟨_,(),a,(),⟨_,aK.of (Ww _ _ ha)⟩,λIL Mw=>?_⟩;let price:∀(i:Nat) (dx:PyData),ds[i]?=some dx->∃t u:Int,dx=.tuple [.int t,.int u]/\∀wd,Cu wd dx=(if wd=true then decide (0<t) else decide (t=0)):=λi dx Ni=>by
   let hf:bL dx=true:=Yf.mp Lk dx (Z0 Ni);let⟨t,u,rfl,WG,hg1⟩:=lz hf;apply⟨t,u,(),λwd=>?_⟩;show(bL (.tuple [.int t,.int u])&&(if wd then decide (0<t) else decide (t=0)&&decide (u=1)))=_;rw[hf,Xm];cases wd with
   |true=>rfl
   |false =>
    show(decide (t=0)&&decide (u=1))=decide (t=0);by_cases h0:t=0
    .have:u=1:=by
      subst h0;simp at hg1;omega
     rw[decide_eq_true h0,decide_eq_true this];rfl
    .rw[decide_eq_false h0];rfl
  apply Cd (xs:=xs) (λi ys H'=>aw H3 H'/\ys=(List.range i).map λj=>V.bl (Cu (has (rowsOf wi) j) (ds.getD j .none))) ⟨(aw.refl H3).acc Mw,()⟩ (λi ys H' _ _ z=>aK.of (z.1 _ _ (Ww _ _ ha))) ?_ ?_
  .rintro i x ys H4 H5 hx hy ⟨s4,rfl⟩ s5;let⟨dx,Ni,tx⟩:=hs.at hx;let⟨t,u,rfl,hpr⟩:=price i dx Ni;let hi:i<xa.length:=by have:=(Zf.mp hx).1;omega
   let Wv:=s4.trans s5;let R5:ds.getD i .none=.tuple [.int t,.int u]:=by simp[List.getD,Ni]
   let tx5:=(tx.ak Ww).ak Wv;let⟨ax,_,rfl,WQ,vR⟩:=jf tx5;let⟨_,_,rfl,ZX,vR⟩:=M1 vR;let⟨_,_,rfl,hi3,vR⟩:=M1 vR;cases nV vR;cases mi ZX;cases mi hi3;apply lI ⟨_,(),_,(),qg,_,(),.inr (aK.of (Wv _ _ hqg)),(),vF _ _,_,(),?_⟩;let Γ:(if false=true then !Hq (V.int (i:Int)) (GQ xa.length (rowsOf wi)) else Hq (V.int (i:Int)) (GQ xa.length (rowsOf wi)))=has (rowsOf wi) i:=by
    rw[if_neg ∅];have:=B3 (M:=rowsOf wi) hi;rw[show(0+(i:Int))=(i:Int) by omega] at this;exact this
   rw[Γ];let hy5:=s5 _ _ hy;let iD:∀c:Bool,c=Cu (has (rowsOf wi) i) (.tuple [.int t,.int u])->∃zs,H5 IL=some (.lst zs)/\zs.length<sizeLine/\Lx (dr 2 [2] [some (.ref p),some (.ref a),some (.ref qg)]) IL (λys H'=>aw H3 H'/\ys=(List.range (i+1)).map λj=>V.bl (Cu (has (rowsOf wi) j) (ds.getD j .none)))
     (((dr 2 [2] [some (.ref p),some (.ref a),some (.ref qg)]).set 0 (some (.int i))).set 1 (some (.ref ax))) (aQ H5 IL (.lst (zs++[.bl c]))):=λc hc=>by
    apply⟨_,hy5,?_,Lx.of dU ⟨Wv.acc Mw,?_⟩⟩
    .rw[Zb,Y3,sz];omega
    .rw[Xc,Zs,hc];simp only[Zn,List.map_nil];rw[R5]
   cases hh:has (rowsOf wi) i with
   |true =>
    apply bt ⟨_,(),ax,_,_,_,(),(),aK.of WQ,(),_,_,(),(),?_⟩;exact iD _ (by rw[hpr,hh];rfl)
   |false =>
    apply bI ⟨_,(),ax,_,_,_,(),(),aK.of WQ,(),(),?_⟩;apply iD _ ?_;rw[hpr,hh];by_cases h0:t=0
    .subst h0;rfl
    .rw[if_neg ∅,decide_eq_false h0];simp[h0]
  .rintro ys H4 hy ⟨s4,rfl⟩;apply⟨IL,_,(),.inl (bG.of hy),?_,?_⟩
   .rw[Xk];simp[Function.comp_def,fj]
   let e4:((List.range xs.length).map λj=>V.bl (Cu (has (rowsOf wi) j) (ds.getD j .none))).all tv=eJ xa.length (rowsOf wi) (.tuple ds):=by
    rw[Xk];show _=(decide (ds.length=xa.length)&&(List.range xa.length).all λj=>Cu (has (rowsOf wi) j) (ds.getD j .none));rw[decide_eq_true ⋯,Xm,hl];rfl
   rw[e4];exact k H4 (Ww.trans s4)
end
section
def OP:ai ["market","thing"] ["market","thing"] (bA (top 35)):=L2.cZ
def J3 (F:cG K "need_prices" "need_prices" (top 35) f fd)(mgP:mg "NoPrices"=some (.ref Pr))(exP:PySem.W.excIn K Pr [.type "ValueError",.type "Exception",.type "BaseException",.type "object"] "ValueError.__new__"=true)
  (A:bN K mg P w base "are_prices" 3 ["market","thing"] LF fA dA):aI P w K mg base bY 4 f fd ["market","thing"] (lV (Eb Pr)):=by
 apply F.ok OP (λvs H Q E h=>?_) (λbD A' outer s H vs Q E hr h=>?_)
 .obtain⟨b,p,pa,pp,pw,xa,xp,xw,am,pu,wi,v,d,rfl,_⟩:=h;rfl
 .obtain⟨b,p,pa,pp,pw,xa,xp,xw,am,pu,wi,v,d,rfl,m,hT,k0,k1⟩:=h;apply⟨_,cN (kQ (qH (sZ (du A.ok hr rfl A.mg A.kp A.bd .nil aO (aU (pv 0) (aU (pv 1) bP))))) (cN (rL)) kR),?_⟩;apply⟨_,(),_,(),b,p,pa,pp,pw,xa,xp,xw,am,pu,wi,v,d,(),m,hT,λH1 s1=>⟨_,(),?_⟩⟩;cases hp:eJ xa.length (rowsOf wi) d with
  |false=>exact bt (k0 hp H1 s1)
  |true=>exact bI (k1 hp H1 s1)
def abm:ai Ψ8 Ψ8 (bA (top 37)):=L2.cZ
def VL (F:cG K "best_goods" "best_goods" (top 37) f fd)(N:Nm mg)(Ne:bN K mg P w base "need_prices" 4 ["market","thing"] (lV (Eb Pr)) fN dN)(B:bN K mg P w base "best_by_wishes" 5 ["row","prices"] TH fB dB) :
  aI P w K mg base bY 6 f fd Ψ8 (lV (nB Pr)):=by
 apply F.ok abm (λvs H Q E h=>?_) (λbD A' outer s H vs Q E hr h=>?_)
 .obtain⟨b,p,pa,pp,pw,xa,xp,xw,am,pu,wi,v,d,rfl,_⟩:=h;rfl
 .obtain⟨b,p,pa,pp,pw,xa,xp,xw,am,pu,wi,v,d,rfl,ag,k0,k1⟩:=h;let hr4:db 4 _:=hr.mono ∅;apply⟨_,dZ (zP (du Ne.ok hr4 rfl Ne.mg Ne.kp Ne.bd .nil aO (aU (pv 0) (aU (pv 1) bP))))
   (cN (dM (RF gx (by rfl) N.tuple pG (aU (yB (own:=["row"]) (cap:=["prices"]) (ix:=[1]) (aM.of (bA (top 37)).names Ψ8) rfl (qU (d8 bZ (pv 0) bC (λ_ _=>rfl)))
    (λC fp s H=>⟨gj (i:=0) (Ψ9 ["row","prices"]) rfl (Or.inl rfl),Cv,du B.ok hr rfl B.mg B.kp B.bd .nil aO (aU (pv 0) (aU (pv 1) bP))⟩)) bP)))),?_⟩
  apply⟨_,(),_,(),b,p,pa,pp,pw,xa,xp,xw,am,pu,wi,v,d,(),ag.m,ag.tr,k0,λhp H1 s1=>?_⟩;let⟨qs,rfl,GZ,hpq⟩:=Ft hp;let Tf:=ag.ak s1;let WP:=ag.wd qs rfl;let htr:=Tf.tr;let⟨CG,K2,Df,Wz,a1,a6,w1,w6,_⟩:=Tf.m.lw;cases htr with
  |@tup a ys _ ha SJ =>
  let fr:=kO.of SJ;apply⟨_,(),p,_,_,_,(),(),aK.of Tf.m.hp,(),pw,(),⟨_,aK.of Tf.m.hw⟩,λacc bU=>?_⟩;apply iX (xs:=xw) (λi ws H'=>aw H1 H'/\qP H' ws ((ar (rowsOf wi) qs).take i)) ⟨(aw.refl H1).acc bU,.nil⟩ (λi ws H' _ _ z=>aK.of (z.1 _ _ Tf.m.hw)) ?_ ?_
  .rintro i x ws H2 hx hz ⟨s2,rs⟩;let⟨ns,c,RX,rfl,hc⟩:=CG.at hx;let ZN:=Z0 RX;let hnl:=Df ns ZN;let eP:∀j,0<ns.getD j 0->0<qs.getD j 0:=λj hj=>by
    let hjl:j<ns.length:=by
     rcases Z2 j ns.length with z |z
     .exact z
     .simp[List.getD,Yu z] at hj
    apply hpq.pos j ⋯ ?_;unfold has;exact Z6.mpr ⟨ns,ZN,by simpa using hj⟩
   apply lI ⟨_,(),_,(),c,a,ns,ys,qs,(),s2 _ _ hc,s2 _ _ ha,fr.ak s2,⋯,⋯,Wz ns ZN,WP,eP,λt H3 s3 ht=>?_⟩;let ZA:=s3 _ _ hz;let hi:i<(rowsOf wi).length:=(Zf.mp RX).1;let eB:(ar (rowsOf wi) qs)[i]?=some ((aR ns qs).map λg:Nat=>(g:Int)):=by
    unfold ar;rw[Zo,RX];rfl
   let tl:Tm H3 (aQ H3 acc (.lst (ws++[.ref t]))):=Tm.lst ZA;apply⟨ws,ZA,?_,Cn.of dU ⟨(s2.trans s3).acc bU,?_⟩⟩
   .rw[rs.len,Yz,sz];have:(rowsOf wi).length=xw.length:=CG.len.symm;omega
   .rw[yC eB];exact zI ((rs.keep s3.tm).keep tl) (tl _ _ (by rw[ht,xU]))
  .rintro ws H2 hz ⟨s2,rs⟩;let e:xw.length=(ar (rowsOf wi) qs).length:=by unfold ar;rw[Zb,CG.len]
   rw[e,Yp] at rs;apply⟨acc,ws,(),.inl ⟨bG.of hz,λl hl=>?_⟩⟩;let s3:=(aw.refl H2).new (o:=.tup ws) hl;exact k1 qs rfl GZ hpq l ws _ (s1.trans (s2.trans s3)) dU (rs.keep s3.tm)
end
section
end
section
def yL:ai ["some","found","one"] ["some"] (bA (top 76)):=L2.cZ
def PM (F:cG K "_law_sum" "_law_sum" (top 76) f fd)(A:bN K mg P w base "_law_add" 2 ["one","other"] (AL Sm) fA dA):aI P w K mg base bY 3 f fd ["some"] DA:=by
 apply F.ok yL (λvs H Q E h=>?_) (λbD A' outer s H vs Q E hr h=>?_)
 .obtain⟨l,ys,qs,rfl,_⟩:=h;rfl
 .obtain⟨l,ys,qs,rfl,hl,hf,hb,hn,k⟩:=h;apply⟨_,dZ (oM (i:=1) yL.nd rfl (Or.inl rfl) (gW (aU bC (aU bC bP))))
   (dZ (nE PassesOwn.never rfl (NT (pv 0)) (gj (i:=2) yL.nd rfl (Or.inl rfl)) (cN (oM (i:=1) yL.nd rfl (Or.inl rfl) (du A.ok hr rfl A.mg A.kp A.bd .nil aO (aU (pv 1) (aU (pv 2) bP))))))
   (cN (dM (pv 1)))),?_⟩
  apply⟨by show 2<=sizeLine;decide,λp0 SO=>?_⟩;let s0:=(aw.refl H).new (o:=.tup [.int 0,.int 1]) SO;apply⟨_,(),l,(),⟨ys,bG.of (s0 _ _ hl)⟩,?_⟩;apply u8 (xs:=ys) (λi σ H'=>(∃r y2,σ=[some (.ref l),some (.ref r),y2]/\H' r=some (qO (bu (qs.take i))))/\aw H H') ⟨⟨p0,_,(),dU⟩,s0⟩ (λj σ H' _ q=>bG.of (q.2 _ _ hl)) ?_ ?_
  .rintro i y σ H1 hy ⟨⟨r,y2,rfl,tL⟩,s1⟩;let⟨a,rfl,ha⟩:=(hf.ak s1).2 i y hy;let hi:i<qs.length:=by have:=(Zf.mp hy).1;rw[hf.1] at this;exact this
   let eq:qs[i]?=some (qs.getD i 0):=by simp[List.getD,Zc hi]
   let b1:Rb 3000 (bu (qs.take i)):=(sf hb i).mono ⋯;let b2:Rb 3000 (qs.getD i 0):=(hb _ (Z0 eq)).mono ∅;apply⟨_,(),_,(),r,a,_,_,(),tL,ha,b1,b2,λr2 Hu=>?_⟩;exact⟨⟨r2,_,(),by rw[yC eq,pZ];exact dU⟩,s1.new Hu⟩
  .rintro σ H1 ⟨⟨r,y2,rfl,tL⟩,s1⟩;rw[List.take_of_length_le (by rw[hf.1];exact Ze _)] at tL;exact⟨_,(),k r H1 s1 tL⟩
end
section
end
def FQ {α : Type}{L:List α}(nd:L.Nodup){i:Nat}{r:α}(h:L[i]?=some r):r∉L.take i:=by
 intro z;let⟨j,hj,e⟩:=Qg.mp z;rw[Yz] at hj;let⟨hi,ei⟩:=Zf.mp h;rw[List.getElem_take,<- ei] at e;have:=(List.getElem_inj nd).mp e;omega
def xA {k:List dE}(h:k∉kvs.map (·.1)):ef kvs k=none:=by
 cases e:ef kvs k with
 |none=>rfl
 |some v=>exact absurd (zz e) h
def V3:∀{rows:List (Int×Γ3)},(rows.map (·.2)).Nodup->∀{i:Nat}{k:List dE}{v:V},(l8 rows)[i]?=some (k,v)->∃row,rows[i]?=some row/\k=row.2.map m9/\v=.int row.1/\ef (l8 rows) k=some v:=by
 intro rows nd i k v h;let h1:∃row,rows[i]?=some row/\k=row.2.map m9/\v=.int row.1:=by
  unfold l8 at h;rw[Zo] at h;cases e:rows[i]? with
  |none=>rw[e] at h;cases h
  |some row =>
   rw[e] at h;simp only[Y1,Option.some.injEq,Prod.mk.injEq] at h;exact⟨row,(),h.1.symm,h.2.symm⟩
 let⟨row,e1,e2,e3⟩:=h1;apply⟨row,e1,e2,e3,?_⟩
 clear h
 induction rows generalizing i with
 |nil=>simp at e1
 |cons p r ih =>
  rw[Zn,Yc] at nd;cases i with
  |zero =>
   let e':p=row:=by simpa using e1
   subst e';show ef ((p.2.map m9,V.int p.1)::l8 r) k=some v;rw[e3];exact gB e2.symm
  |succ i =>
   let e':r[i]?=some row:=by simpa using e1
   let hm:row.2∈r.map (·.2):=Zd.mpr ⟨row,Z0 e',()⟩;show ef ((p.2.map m9,V.int p.1)::l8 r) k=some v;rw[gC (λz=>nd.1 (by rw[e2] at z;rw[u5 z];exact hm))];exact ih nd.2 e'
def wD (rows:List (Int×Γ3))(m:Int):Γ1:=(rows.filter λx=>decide (x.1=m)).map (·.2)
def sj:r∈wD rows m↔∃row∈rows,row.1=m/\row.2=r:=by
 unfold wD
 simp_all
def p9 {rows:List (Int×Γ3)}(h:rows[i]?=some row):wD (rows.take (i+1)) m=wD (rows.take i) m++if decide (row.1=m)=true then [row.2] else []:=by
 unfold wD;rw[yC h,Xj,V5,Zs]
 congr 1
 split<;>simp_all
def E4 (h:qN H zs M)(e:zs[i]?=some (.ref b)):∃r,M[i]?=some r/\H b=some (.tup (r.map V.int))/\((M.map λr=>r.map V.int).getD i []).length=r.length:=by
 let⟨a,r,e1,e2,e3⟩:=h.2 i _ e
 simp_all
def Gj {M:Γ1}(h:r∈M):∃j,j<M.length/\((M.map λr=>r.map V.int).getD j []).length=r.length:=by
 let⟨j,hj,rfl⟩:=Qg.mp h;exact⟨j,hj,by simp[List.getD,Zo,Zc hj]⟩
section
abbrev NGA:Δ2:=["market","prices","best","money","purses"]
def HN:ai NGA Ψ8 (bA (top 45)):=L2.cZ
def VI {f fB fI fC fT fA fW Pr:Addr}{fd dB dI dC dT dA dW:FuncData}(F:cG K "goods_above" "goods_above" (top 45) f fd)(B:bN K mg P w base "best_goods" 6 Ψ8 (lV (nB Pr)) fB dB)(I:bN K mg P w base "in_coins" 5 Ψ8 zG fI dI)
  (Co:bN K mg P w base "coins_of" 1 ["coins","some"] TF fC dC) (T:bN K mg P w base "takers_by_best" 1 ["best","goods"] TC fT dT) (A:bN K mg P w base "all_sets" 1 ["members"] Ee fA dA) (W:bN K mg P w base "wished" 1 ["market"] yI fW dW):aI P w K mg base bY 7 f fd Ψ8 TJ:=by
 apply F.ok HN (λvs H Q E h=>?_) (λbD A' outer s H vs Q E hr h=>?_)
 .obtain⟨b,p,pa,pp,pw,q,xa,xp,xw,ys,am,pu,wi,qs,rfl,_⟩:=h;rfl
 .obtain⟨b,p,pa,pp,pw,q,xa,xp,xw,ys,am,pu,wi,qs,rfl,mp,k⟩:=h;let m:=mp.m;let pr:=mp.pr;let GZ:=mp.l;let tL:db 1 _:=hr.mono ∅;let ZG:db 5 _:=hr.mono ∅;let⟨CG,K2,Df,Wz,a1,a6,w1,w6,wp⟩:=m.lw;apply⟨_,dZ (oM (i:=2) HN.nd rfl (Or.inr rfl) (du B.ok hr rfl B.mg B.kp B.bd .nil aO (aU (pv 0) (aU (pv 1) bP))))
   (dZ (iP (du I.ok ZG rfl I.mg I.kp I.bd .nil aO (aU (pv 0) (aU (pv 1) bP))) (gU rfl (qK (gj (i:=3) HN.nd rfl (Or.inr rfl)) (qK (gj (i:=4) HN.nd rfl (Or.inr rfl)) eS))))
   (cN (dM (BD (own:=["some"]) (cap:=["best","money","purses"]) (ix:=[2,3,4]) hr.OI (aM.of (bA (top 45)).names NGA) rfl (NT (du A.ok tL rfl A.mg A.kp A.bd .nil aO (aU (du W.ok tL rfl W.mg W.kp W.bd .nil aO (aU (pv 0) bP)) bP)))
    (λC fp s H=>⟨gj (i:=0) (Ψ9 ["some","best","money","purses"]) rfl (Or.inl rfl),Cv,pv 0,
     c6 rN (du Co.ok tL rfl Co.mg Co.kp Co.bd .nil aO (aU (pv 2) (aU (pv 0) bP))) (du Co.ok tL rfl Co.mg Co.kp Co.bd .nil aO (aU (pv 3) (aU (du T.ok tL rfl T.mg T.kp T.bd .nil aO (aU (pv 1) (aU (pv 0) bP))) bP)))⟩))))),?_⟩
  let hM6:(rowsOf wi).length<=6:=by rw[<- CG.len];exact w6
  let hr6:∀r∈ar (rowsOf wi) qs,r.length<=6:=λr jM=>by
   unfold ar at jM;let⟨row,gP,rfl⟩:=Zd.mp jM;rw[Zb];let h1:=Df row gP;let h2:(aR row qs).length<=row.length:=by unfold aR;exact Zl (Yv _ _) (by simp)
   omega
  let hPr:eJ xa.length (rowsOf wi) (.tuple (qs.map qD))=true:=DI.mpr ⟨GZ,mp.ok⟩;let ag:Dw b H p pa pp pw xa xp xw am pu wi (.ref q) (.tuple (qs.map qD)):=⟨m,.tup pr.hq pr.tr,λCr e z hz=>by
   injection e with e
   have:Cr=qs:=(List.map_inj_right (λa b h=>by have h1:=congrArg Rx h;rw[iO,iO] at h1;exact h1)).mp e.symm;rw[this] at hz;exact(pr.bd z hz).mono ∅⟩
  apply⟨_,(),_,(),b,p,pa,pp,pw,xa,xp,xw,am,pu,wi,.ref q,_,(),ag,λhn=>by(rw[hPr] at hn;cases hn),λCr e _ _ rb xb H1 s1 oX ls1=>?_⟩;injection e with e
  let e':qs=Cr:=(List.map_inj_right (λa b h=>by have h1:=congrArg Rx h;rw[iO,iO] at h1;exact h1)).mp e;subst e';apply⟨_,(),_,(),b,p,pa,pp,pw,q,xa,xp,xw,ys,am,pu,wi,qs,(),m.ak s1,pr.ak s1,GZ,λr2 rm rp c ms ps H2 s2 hc hms AX Hu hrm hrp=>?_⟩;apply⟨r2,_,(),aK.of Hu,(),_,_,(),_,_,(),(),?_⟩;let v9:=s1.trans s2;apply⟨_,(),b,p,pa,pp,pw,xa,xp,xw,am,pu,wi,(),m.ak v9,λqw H3 s3 hw3=>?_⟩;rw[li] at hw3;let GX:(aD xa.length (rowsOf wi)).length<=6:=by
   unfold aD;rw[Zb];exact Zl (jk _ _) a6
  let hwz:∀x∈aD xa.length (rowsOf wi),0<=x/\x.toNat<xa.length:=λx hx=>by
   unfold aD at hx;let⟨j,hj,rfl⟩:=Zd.mp hx;have:=(gz hj).1;exact⟨⋯,⋯⟩
  apply⟨qw,aD xa.length (rowsOf wi),(),hw3,GX,λqse xs H4 s4 e4 ts4=>?_⟩;let s24:=s3.trans s4;let s04:=v9.trans s24;let hnd:=iZ (CP xa.length (rowsOf wi));let ajh:(aT (aD xa.length (rowsOf wi))).length<=64:=by
   rw[RG];exact Zl (Y9 ∅ GX) ∅
  let hMl:(ar (rowsOf wi) qs).length=(rowsOf wi).length:=by unfold ar;rw[Zb]
  let lW:(qJ pu).length=(rowsOf wi).length:=by
   let h1:=(m.fp).1;let h2:=CG.len;omega
  let RN:(gL (am.map aZ) qs).length=xa.length:=by unfold gL;rw[Zb,Y3,GZ]
  apply⟨qse,(),⟨_,bG.of e4⟩,λacc bU=>?_⟩;apply vJ (xs:=xs) (λi kvs H'=>aw H4 H'/\∃rows:List (Int×Γ3),kvs=l8 rows/\rows.map (·.2)=(aT (aD xa.length (rowsOf wi))).take i/\∀x∈rows,((x.1:Int):Rat)=(c:Rat)*aN (am.map aZ) (qJ pu) qs (rowsOf wi) (az x.2))
   ⟨(aw.refl H4).acc bU,[],(),(),λx hx=>nomatch hx⟩ (λi zs H' _ _ z=>bG.of (z.1 _ _ e4)) ?_ ?_
  .rintro i x kvs H5 hx hy ⟨s5,rows,rfl,A9,wH⟩;let⟨a,S,WR,rfl,ha⟩:=ts4.2 i x hx;let hSm:=Z0 WR;let hSs:=bV.mp hSm;let hS1:∀x∈S,0<=x/\x.toNat<xa.length:=λx hx=>hwz x (hSs.subset hx)
   let hS6:(az S).length<=6:=by unfold az;rw[Zb];exact Zl hSs.length_le GX
   let G0:∀x∈S,0<=x:=λx hx=>(hS1 x hx).1
   let hSx:∀g∈az S,g<xa.length:=λg hg=>by
    unfold az at hg;let⟨x,hx,rfl⟩:=Zd.mp hg;exact(hS1 x hx).2
   let Wv:=s5;let HI:aw H2 H5:=s24.trans s5;let ha5:H5 a=some (.tup (cX (az S))):=by rw[<- P5 G0];exact s5 _ _ ha
   apply lI ⟨_,(),_,(),_,(),rm,a,ms,az S,(),HI _ _ hrm,ha5,hS6,λg hg=>by rw[hms.1,RN];exact hSx g hg,λH6 s6=>?_⟩;apply⟨_,(),_,(),_,(),rb,a,xb,ar (rowsOf wi) qs,az S,(),s6 _ _ (HI _ _ (s2 _ _ oX)),ls1.keep ((s2.trans HI).trans s6).tm,s6 _ _ ha5,by rw[hMl];exact hM6,hr6,λrt H7 s7 ht7=>?_⟩;rw[hMl] at ht7;let Uq:H7 rt=some (.tup (cX (fz (rowsOf wi) qs (az S)))):=ht7;generalize Lh:fz (rowsOf wi) qs (az S)=tk at Uq;let htl:∀i∈tk,i<(rowsOf wi).length:=λi hi=>by rw[<- Lh] at hi;exact ou hi
   let htn:tk.length<=6:=by rw[<- Lh];exact Zl (lQ _ _ _) hM6
   apply⟨rp,rt,ps,tk,(),s7 _ _ (s6 _ _ (HI _ _ hrp)),Uq,htn,λg hg=>by rw[AX.1,lW];exact htl g hg,λH8 s8=>?_⟩;let YH:=(s6.trans s7).trans s8;let abM:S.map m9∉(l8 rows).map (·.1):=λz=>by
    unfold l8 at z;rw[Zp] at z;let⟨row,gP,e⟩:=Zd.mp z;let e2:row.2=S:=u5 e;have:row.2∈rows.map (·.2):=Zd.mpr ⟨row,gP,()⟩;rw[A9,e2] at this;exact FQ hnd WR this
   let hi:i<(aT (aD xa.length (rowsOf wi))).length:=(Zf.mp WR).1;let M9:rows.length=i:=by
    have:=congrArg List.length A9;rw[Zb,Yz] at this;omega
   apply⟨_,_,(),(),l8 rows,S.map m9,a,YH _ _ hy,(),?_,?_,Ny.of dU ⟨(s5.trans YH).acc bU,rows++[(((az S).map λg=>ms.getD g 0).sum-(tk.map λi=>ps.getD i 0).sum,S)],?_,?_,?_⟩⟩
   .rw[EJ];exact YH _ _ (s5 _ _ ha)
   .unfold l8;rw[Zb,M9,sz];omega
   .rw[nZ _ (xA abM)];unfold l8;rw[Zs];rfl
   .rw[Zs,A9,yC WR];rfl
   .intro x hx;rcases Zw.mp hx with h |h
    .exact wH x h
    .rw[Zy.mp h];show(((((az S).map λg=>ms.getD g 0).sum-(tk.map λi=>ps.getD i 0).sum:Int)):Rat)=_;let h1:=kF hms (ix:=az S) (λg hg=>by rw[RN];exact hSx g hg);let h2:=kF AX (ix:=tk) (λi hi=>by rw[lW];exact htl i hi);rw[Rat.intCast_sub,h1,h2];unfold aN dD aY;rw[Lh,Q4,Q4,Rat.mul_add,Rat.mul_neg]
  .rintro kvs H5 hy ⟨s5,rows,rfl,A9,wH⟩;rw[ts4.1,Yp] at A9;exact k acc c rows H5 (s04.trans s5) (s04.free bU) ⟨hc,A9,wH⟩ hy
abbrev NPG:Δ2:=["market","prices","above"]
def TQ:ai NPG Ψ8 (bA (top 46)):=L2.cZ
def VG {f fA De:Addr}(F:cG K "paid_goods" "paid_goods" (top 46) f fd)(N:Nm mg)(mgD:mg "Dear"=some (.ref De))(exD:PySem.W.excIn K De [.type "ValueError",.type "Exception",.type "BaseException",.type "object"] "ValueError.__new__"=true)
  (A:bN K mg P w base "goods_above" 7 Ψ8 TJ fA dA):aI P w K mg base bY 8 f fd Ψ8 (lV (NJ De)):=by
 apply F.ok TQ (λvs H Q E h=>?_) (λbD A' outer s H vs Q E hr h=>?_)
 .obtain⟨b,p,pa,pp,pw,q,xa,xp,xw,ys,am,pu,wi,qs,rfl,_⟩:=h;rfl
 .obtain⟨b,p,pa,pp,pw,q,xa,xp,xw,ys,am,pu,wi,qs,rfl,mp,k⟩:=h;let WG:=yY hr;apply⟨_,dZ (oM (i:=2) TQ.nd rfl (Or.inr rfl) (du A.ok hr rfl A.mg A.kp A.bd .nil aO (aU (pv 0) (aU (pv 1) bP))))
   (dZ (kQ (mY gq (lH (lD rfl) (by rfl) N.max boot_max (aU (Em PySem.F.plainAttrs_dict PySem.F.slot_dict_values PySem.F.type_dict_values xW (pv 2)) bP)) bC (aJ _)) (cN (rL)) kR)
   (cN (dM (BC K rfl (by rfl) N.max (by rfl) N.len (aU (yB (own:=["some"]) (cap:=["above"]) (ix:=[2]) (aM.of (bA (top 46)).names NPG) rfl (Fx (pv 2))
    (λC fp s H=>⟨gj (i:=0) (Ψ9 ["some","above"]) rfl (Or.inl rfl),kB (mY nq (zR WG (pv 1) (pv 0) (λ_ _=>rfl)) bC (aJ _)),pv 0⟩)) bP))))),?_⟩
  apply⟨_,(),_,(),b,p,pa,pp,pw,q,xa,xp,xw,ys,am,pu,wi,qs,(),mp,λd c rows H1 s1 hd0 ab V'=>?_⟩;let⟨k0,k1⟩:=k c rows ab;let nd:(rows.map (·.2)).Nodup:=by rw[ab.2.1];exact iZ (CP xa.length (rowsOf wi))
  let M9:rows.length=(aT (aD xa.length (rowsOf wi))).length:=by rw[<- ab.2.1,Zb]
  let GX:(aD xa.length (rowsOf wi)).length<=6:=by
   unfold aD;rw[Zb];exact Zl (jk _ _) mp.m.lw.2.2.2.2.2.1
  rw[RG] at M9;let h64:rows.length<=64:=by rw[M9];exact Zl (Y9 ∅ GX) ∅
  let bv:rows≠[]:=λz=>by
   rw[z] at M9;exact absurd M9.symm (Xr (Nat.pow_pos ∅))
  apply⟨_,(),.inr (.inr (.inl ⟨(),.inr ⟨_,V'⟩⟩)),d,l8 rows,(),(),V',λv hv=>?_⟩;let s2:=(aw.refl H1).new (o:=gd v d) hv;let Hy:=s2 _ _ V';let YI:=s1.trans s2;apply⟨v,d,l8 rows,rows.map (·.1),(),dU,.inl Hy,by unfold l8;rw[Zp,Zp];rfl,λz=>bv (Qa.mp z),λmx hm d4=>?_⟩;generalize aQ H1 v (gd v d)=H2 at s2 YI Hy ⊢;apply⟨_,_,(),(),_,(),?_⟩;let⟨NP,V0,er0⟩:=Zd.mp hm;by_cases h0:0<mx
  .rw[decide_eq_true h0];exact bt (k0 ⟨NP,V0,by rw[er0];exact h0⟩ H2 YI)
  rw[decide_eq_false h0];apply bI ?_;let Hv:∀x∈rows,x.1<=0:=λx hx=>by have:=d4 _ (Zd.mpr ⟨x,hx,()⟩);omega
  apply⟨_,(),d,l8 rows,(),Hy,λo acc bU=>?_⟩;let Nf:(aQ H2 d (.iz o (.dT (l8 rows)))) d=some (.iz o (.dT (l8 rows))):=dU;let s4:aw H (aQ H2 d (.iz o (.dT (l8 rows)))):=YI.acc hd0;generalize aQ H2 d (.iz o (.dT (l8 rows)))=H4 at Nf s4 bU ⊢;let S0:(l8 rows).length=rows.length:=by unfold l8;rw[Zb]
  apply yr (kvs:=l8 rows) (λi zs H'=>aw H4 H'/\qN H' zs (wD (rows.take i) 0)/\zs.length<=i) ⟨(aw.refl H4).acc bU,qN.nil,Ze _⟩ (λi zs H' _ _ z=>z.1 _ _ Nf) ?_ ?_
  .rintro i kk vv b zs H5 RO hb hz ⟨s5,tz,YX⟩;let⟨row,gP,rfl,rfl,wH⟩:=V3 nd RO;let hi:i<rows.length:=(Zf.mp gP).1;apply⟨_,(),_,(),d,_,(),.inr ⟨l8 rows,_,b,.inr ⟨o,s5 _ _ Nf⟩,(),hb,wH.symm⟩,(),_,(),?_⟩;let ev:decide (V.int row.1=V.int 0)=decide (row.1=0):=by rw[Yb];simp
   rw[ev];rw[EJ] at hb;cases hc:decide (row.1=0) with
   |true =>
    apply bt ⟨_,(),zs,hz,by rw[sz];omega,Cn.of dU ⟨s5.acc bU,?_,by rw[Zu];show zs.length+1<=i+1;omega⟩⟩;rw[p9 gP,hc,if_pos rfl];exact(tz.app hb).tm (Tm.lst hz)
   |false =>
    apply bI (Cn.of hz ⟨s5,?_,⋯⟩);rw[p9 gP,hc,if_neg ∅,Ym];exact tz
  .rintro zs H5 hz ⟨s5,tz,YX⟩;rw[S0,Yp] at tz;let QS:wD rows 0≠[]:=λz=>by
    let hn:([]:Γ3)∈rows.map (·.2):=by rw[ab.2.1];exact bV.mpr (List.nil_sublist _)
    let⟨x,hx,ex⟩:=Zd.mp hn;let hv:=ab.2.2 x hx;rw[ex] at hv;have:aN (am.map aZ) (qJ pu) qs (rowsOf wi) (az [])=0:=lC;rw[this,X6] at hv;let h00:x.1=0:=by simpa using hv
    have:=sj.mpr ⟨x,hx,h00,()⟩;rw[z] at this;cases this
   apply⟨acc,zs,_,(),bG.of hz,λz=>QS (Qa.mp z),tz.ks,λi b hb hi jF=>?_⟩;let⟨r,tL,WO,cF⟩:=E4 tz hb;let⟨row,gP,e1,e2⟩:=sj.mp (Z0 tL);subst e2;apply k1 Hv b row H5 (s4.trans s5) gP e1 (λx hx ex=>?_) WO;let⟨j,hj,hjl⟩:=Gj (sj.mpr ⟨x,hx,ex,()⟩);have:=(jF j (by rw[Zb];exact hj)).1;omega
end
end C6
namespace MI
open PySem.Spec PyProof.Rows L2 KG
section
variable {K:Θ1}
def TK (O:bF)(x:AV)(lo hi:Option Int)(P:AV->bF->Prop):Prop:=match x with
 |.im (.list ds)=>P (.im (.list (cutD ds lo hi))) O
 |_=>False
def Ib (M:ME)(L U:MO):ME:=λsl O Q=>M sl O λx O1=>L sl O1 λl O2=>U sl O2 λu O3=>TK O3 x l u Q
def lu {lo hi:Option Expr}(he:PE X e (bR K QX E M))(hl:PO X lo (Wq K QX E L))(hu:PO X hi (Wq K QX E U)):PE X (.Subscript e (.Slice lo hi none p2) pos) (bR K QX E (Ib M L U)) :=
 PE.imp (Fz abh he hl hu) λσ H Q ⟨w,O,sl,Q0,c,m,q⟩=>⟨w,O,sl,_,c,m,λx O1 v w1 H1 h1 e1 r1 a1=>⟨w1,O1,sl,_,c.ex e1.ex r1,h1,λl O2 w2 H2 h2 e2 r2=>⟨w2,O2,sl,_,(c.ex e1.ex r1).ex e2.ex r2,h2,λu O3 w3 H3 h3 e3 r3=>by
  unfold TK at h3;split at h3
  .obtain⟨p1,us,rfl,g1,t1⟩:=gw ((a1.ex e2.ex).ex e3.ex);apply⟨p1,us,(),bG.of g1,λp hp=>?_⟩;let⟨r4,e4,t4⟩:=mE r3 hp (Rc t1);exact q _ O3 _ w3 _ h3 (((e1.trans e2).trans e3).trans e4) r4 t4
  .exact h3.elim⟩⟩⟩
end
end MI
namespace MI
open L2 KG EX KM
section
structure HF (w:Wd)(O:bF)(H:Hp)(w':Wd)(O':bF)(H':Hp):Prop where
 bs:∃t,w'.di=w.di++t
 bK:∃t,w'.bK=w.bK++t
 ak:aw (G w O H) (G w' O' H')
def HF.refl (w:Wd)(O:bF)(H:Hp):HF w O H w O H:=⟨⟨[],by simp⟩,⟨[],by simp⟩,aw.refl _⟩
def HF.ex (a:HF w O H w1 O1 H1)(b:jc w1 O1 H1 w2 O2 H2):HF w O H w2 O2 H2:=by
 let⟨t,ht⟩:=a.bK;let⟨u,hu⟩:=b.bK;let⟨t2,M8⟩:=a.bs;let⟨u2,ZE⟩:=b.bs;exact⟨⟨t2++u2,by rw[ZE,M8,Ys]⟩,⟨t++u,by rw[hu,ht,Ys]⟩,a.ak.trans b.ak⟩
def xz (K:Θ1)(J:It)(w:Wd)(O:bF)(H:Hp)(items:List AV):Prop:=∀O2 w2 H2,HF w O H w2 O2 H2->aF K w2 O2 H2->∀i,(∀x,items[i]?=some x->J.go i H2/\∀v H3,J.tu i H2 v H3->H3=H2/\jy K w2 (G w2 O2 H2) v x)/\(items.length<=i->J.stop i H2)
def NC (K:Θ1)(QX:Addr->bF->Prop)(E:XK)(M:MA):TI:=λσ H R=>∃w O sl Q0,j2 K QX E w O H σ sl/\M sl O Q0/\∀items O' w' H' J,Q0 items O'->cr w O H w' O' H'->aF K w' O' H'->xz K J w' O' H' items->R J H'
def yc (t:ci (G w O H) (.ref a) (.list ds)):xz K (A3 K0 a) w O H (ds.map .im):=λO2 w2 H2 e r i=>by
 cases ci.ak e.ak t with |lst h1 t1=>?_
 rename_i xs;let hh:=(fc h1).1;apply⟨λx hx=>?_,λhl=>⟨xs,bG.of hh,by rw[Zb] at hl;rw[t1.len];exact hl⟩⟩;rw[Zo] at hx;cases hd:ds[i]? with
 |none=>rw[hd] at hx;cases hx
 |some d =>
  rw[hd] at hx;cases Option.some.inj hx;let⟨v,hv,tv⟩:=t1.get hd;apply⟨⟨xs,v,bG.of hh,hv⟩,?_⟩;rintro v' H3 ⟨rfl,hy⟩;have:=hy xs (bG.of hh);rw[hv] at this;cases Option.some.inj this;exact⟨(),tv⟩
def yb (t:ci (G w O H) (.ref a) (.tuple ds)):xz K (yG K0 a) w O H (ds.map .im):=λO2 w2 H2 e r i=>by
 cases ci.ak e.ak t with |tup h1 t1=>?_
 rename_i xs;let hh:=(fc h1).1;apply⟨λx hx=>?_,λhl=>⟨xs,aK.of hh,by rw[Zb] at hl;rw[t1.len];exact hl⟩⟩;rw[Zo] at hx;cases hd:ds[i]? with
 |none=>rw[hd] at hx;cases hx
 |some d =>
  rw[hd] at hx;cases Option.some.inj hx;let⟨v,hv,tv⟩:=t1.get hd;apply⟨⟨xs,v,aK.of hh,hv⟩,?_⟩;rintro v' H3 ⟨rfl,hy⟩;have:=hy xs (aK.of hh);rw[hv] at this;cases Option.some.inj this;exact⟨(),tv⟩
def Kk (he:PE X e (bR K QX E M)):PI X tg e (NC K QX E (cK M)):=PI.imp (El he) λσ H R ⟨w,O,sl,Q0,c,m,q⟩=>⟨w,O,sl,_,c,m,λx O1 v w1 H1 h1 e1 r1 a1=>by
 split at h1
 .rename_i ds hd;unfold o6 at hd;split at hd
  .cases Option.some.inj hd
   let⟨a,xs,rfl,hx,hs⟩:=gw a1;exact .inl ⟨a,(),⟨xs,bG.of hx⟩,q _ O1 w1 H1 _ h1 e1 r1 (yc a1)⟩
  .cases Option.some.inj hd
   let⟨a,xs,rfl,hx,hs⟩:=ff a1;exact .inr ⟨a,(),⟨xs,aK.of hx⟩,q _ O1 w1 H1 _ h1 e1 r1 (yb a1)⟩
  .cases hd
 .exact h1.elim⟩
structure CI (k:Nat)(C:MT)(M:ME)(sl:j5)(ds:Ξ1)(Z:Ξ1->bF->Prop)(items:List AV)(O1:bF):Prop where
 fr:sl[k]?=some none
 ex:∃Jv:Nat->Ξ1->bF->Prop,Jv 0 ds O1/\(∀j es O',Jv j es O'->es.length<1000000) /\
  (∀j y es O',items[j]?=some y->Jv j es O'->C (sl.set k (some y)) O' λc O3=>(c=true->M (sl.set k (some y)) O3 λz O4=>match z with
   |.im d=>Jv (j+1) (es++[d]) O4
   |_=>False)/\(c=false->Jv (j+1) es O3))/\∀es O',Jv items.length es O'->Z es O'
structure CB2 (n:Nat)(ix:List Nat)(mg:MG)(C1:MT)(CQ:MA)(k:Nat)(C2:MT)(M:ME)(sl:j5)(Q:AV->bF->Prop)(items:List AV)(O1:bF):Prop where
 ex:∃Iv:Nat->Ξ1->bF->Prop,Iv 0 [] O1 /\
  (∀i x ds O',items[i]?=some x->Iv i ds O'->mg x (c8 n ix sl) O' λcx O2=>C1 cx O2 λc O3=>(c=true->CQ cx O3 (CI k C2 M cx ds (Iv (i+1))))/\(c=false->Iv (i+1) ds O3))/\∀ds O',Iv items.length ds O'->Q (.im (.list ds)) O'
def xi (n:Nat)(ix:List Nat)(it:MA)(mg:MG)(C1:MT)(CQ:MA)(k:Nat)(C2:MT)(M:ME):ME:=λsl O Q=>it sl O (CB2 n ix mg C1 CQ k C2 M sl Q)
def x8 (hk:Keeps n mg):∀σ H Q,bR K QX E (xi n ix it mg C1 CQ k C2 M) σ H Q->D8 (vN K QX E it) (oK K QX E mg) (iB K QX E C1) (NC K QX E CQ) (oK K QX E (bm k)) (iB K QX E C2) (bR K QX E M) n ix σ H Q :=
 λσ H Q ⟨w,O,sl,Q0,c,m,q⟩=>⟨w,O,sl,_,c,m,λitems O1 w1 H1 J h1 e1 r1 CS acc bU=>by
  let⟨Iv,h0,hs,he⟩:=h1;let hC:=c.ex e1.ex r1;let⟨r0,e0⟩:=hC.ro.hide (o:=.lst []) bU (λxs z=>by cases z);apply⟨λi m aS H'=>m=items.length-i/\i<=items.length/\∃w' O' ys zs,aF K w' O' H'/\w'.bM=(acc,.lst ys)::w1.bM/\jc w1 O1 H1 w' O' H'/\bw K w' (G w' O' H') aS (c8 n ix sl)/\aH (G w' O' H') ys zs/\Iv i zs O',
   ⟨items.length,by simp,Z7 _,_,O1,[],[],r0,(),e0,(hC.so.W1 n ix).ex e0,.nil,h0⟩,?_⟩
  rintro i m aS H' ⟨rfl,Hv,w',O',ys,zs,r',tN,e',s',a',hv⟩;let⟨ig,ie⟩:=CS O' w' H' e' r' i;rcases Z2 i items.length with y |y
  .obtain⟨G1,Hr⟩:=ig _ (Zc y);apply .inr ⟨G1,λcz H2=>∃w' O' ys zs,aF K w' O' H2/\w'.bM=(acc,.lst ys)::w1.bM/\jc w1 O1 H1 w' O' H2/\bw K w' (G w' O' H2) cz (c8 n ix sl)/\aH (G w' O' H2) ys zs/\Iv (i+1) zs O',λcz H2 z=>⟨items.length-(i+1),⋯,(),y,z⟩,λv H3 Hs=>?_⟩;let⟨e3,r3,a3⟩:=Hr v H3 Hs;let zx:∀{w2:Wd}{O2:bF}{H2:Hp},jc w1 O1 H1 w2 O2 H2->Zx K QX E w2 O2 H2:=λe k Nv MM Nx qx Nq MW=>hC.zx k Nv MM Nx qx (e.trans Nq) MW
   let Nt:j2 K QX E w' O' H3 aS (c8 n ix sl):=⟨r3,s'.ex e3.ex,zx (e'.trans e3.ex)⟩;apply⟨w',O',_,_,_,Nt,a3,hk _ _ _ _ (hs i _ zs O' (Zc y) hv),λoT O4 w4 H4 Wh h4 c4 e4=>⟨w4,O4,oT,_,c4,h4.1,λb O5 w5 H5 h5 e5 r5=>?_⟩⟩;let qM:=e3.trans (e4.trans e5);cases b with
   |false=>exact bI ⟨w5,O5,ys,zs,r5,qM.bM.trans tN,e'.trans qM.ex,bw.sub (c4.so.ex e5.ex) h4.2,aH.ak qM.ex.ak a',h5.2 rfl⟩
   |true =>
    apply bt ⟨w5,O5,oT,_,c4.ex e5.ex r5,h5.1 rfl,λgY O6 w6 H6 J2 h6 e6 r6 it6=>?_⟩;let⟨Lk,Jv,j0,jl,js,je⟩:=h6;let C4:=qM.trans e6;apply⟨λj m aS H'=>m=gY.length-j/\j<=gY.length/\∃w' O' ys zs,aF K w' O' H'/\w'.bM=(acc,.lst ys)::w1.bM/\jc w1 O1 H1 w' O' H'/\HF w6 O6 H6 w' O' H'/\bw K w' (G w' O' H') aS oT/\aH (G w' O' H') ys zs/\Jv j zs O',
     ⟨gY.length,by simp,Z7 _,w6,O6,ys,zs,r6,C4.bM.trans tN,e'.trans C4.ex,HF.refl _ _ _,(c4.so.ex e5.ex).ex e6.ex,aH.ak C4.ex.ak a',j0⟩,?_⟩
    rintro j m AJ H7 ⟨rfl,ajj,w7,O7,Hf,Rm,r7,RQ,e7,x7,s7,a7,ZC⟩;let⟨ig7,ie7⟩:=it6 O7 w7 H7 x7 r7 j;rcases Z2 j gY.length with y7 |y7
    .obtain⟨abR,abI⟩:=ig7 _ (Zc y7);apply .inr ⟨abR,λcz H2=>∃w' O' ys zs,aF K w' O' H2/\w'.bM=(acc,.lst ys)::w1.bM/\jc w1 O1 H1 w' O' H2/\HF w6 O6 H6 w' O' H2/\bw K w' (G w' O' H2) cz oT/\aH (G w' O' H2) ys zs/\Jv (j+1) zs O',λcz H2 z=>⟨gY.length-(j+1),⋯,(),y7,z⟩,λv8 H8 hv8=>?_⟩;let⟨rfl,a8⟩:=abI v8 H8 hv8;let ab5:j2 K QX E w7 O7 H8 AJ oT:=⟨r7,s7,zx e7⟩;apply⟨w7,O7,oT,gY[j],λAM O5'=>AM=oT.set k (some gY[j])/\O5'=O7,ab5,a8,⟨(),()⟩,λsl9 O9 w9 H9 σ9 h9 c9 e9=>?_⟩;let⟨rfl,rfl⟩:=h9;let back:∀{w2:Wd}{g2:Hp}{cz:St},bw K w2 g2 cz (oT.set k (some gY[j]))->bw K w2 g2 cz oT:=λh=>by
      apply⟨h.1.trans (by simp),λi' x' vS=>h.2 i' x' ?_⟩;have:k≠i':=λe=>by subst e;rw[Lk] at vS;cases Option.some.inj vS
      rw[Ya this];exact vS
     apply⟨w9,O9,_,_,c9,js j _ Rm O9 (Zc y7) ZC,λb O10 w10 Sa WS WZ K3=>?_⟩;let e8:=e9.trans WZ;cases b with
     |false=>exact bI ⟨w10,O10,Hf,Rm,K3,e8.bM.trans RQ,e7.trans e8.ex,x7.ex e8.ex,back (c9.so.ex WZ.ex),aH.ak e8.ex.ak a7,WS.2 rfl⟩
     |true =>
      apply bt ⟨w10,O10,_,_,c9.ex WZ.ex K3,WS.1 rfl,λz O11 Wn w11 W6 S8 WY Rv Tg=>?_⟩;split at S8
      .rename_i d;let C5:=e8.trans WY;let Uy:w11.bM=(acc,.lst Hf)::w1.bM:=C5.bM.trans RQ;let⟨n1,n2,n3,n4⟩:=Rv.nh (acc,.lst Hf) (by rw[Uy];exact Zi);let⟨r13,Hg⟩:=Rv.rG (o':=.lst (Hf++[Wn])) Uy (λxs z=>by cases z);let IJ:=e7.trans C5.ex;let NA:=x7.ex C5.ex;let hl7:=jl j Rm O9 ZC;apply⟨Hf,n3,by rw[a7.len,sz];omega,{ w11 with bM:=(acc,.lst (Hf++[Wn]))::w1.bM },O11,Hf++[Wn],Rm++[d],r13,rfl,⟨IJ.bs,IJ.bK,⟨[(acc,.lst (Hf++[Wn]))],rfl⟩,IJ.ak.trans Hg,IJ.dk⟩,⟨NA.bs,NA.bK,NA.ak.trans Hg⟩,?_,?_,S8⟩
       .exact bw.gm rfl rfl Hg (back ((c9.so.ex WZ.ex).ex WY.ex))
       .exact aH.ak Hg ((aH.ak C5.ex.ak a7).app (.cons Tg .nil))
      .exact S8.elim
    .let ej:j=gY.length:=⋯;subst ej;exact .inl ⟨ie7 (Ze _),w7,O7,Hf,Rm,r7,RQ,e7,bw.sub s7 h4.2,a7,je Rm O7 ZC⟩
  .let ei:i=items.length:=⋯;subst ei;apply .inl ⟨ie (Ze _),?_⟩;let⟨r2,s2,g2⟩:=r'.D3 tN;exact q _ _ _ { w' with bM:=w1.bM } _ (he zs O' hv) ⟨e1.ex.trans ⟨e'.bs,e'.bK,⟨[],rfl⟩,e'.ak.trans s2,e'.dk⟩,e1.bM⟩ r2 (.lst g2 (aH.ak s2 a'))⟩
def FW {f1 f2:Ξ2}(B:aM X scope own cap ix)(hc:X.calm=true)(hi:PI X t1 i1 (vN K QX E it))(hk:Keeps own.length mg)
  (hb:∀C' fp s H,PG (cP X scope C' (own++cap) fp s H) t1 (oK K QX E mg)/\dj (cP X scope C' (own++cap) fp s H) f1 (iB K QX E C1)/\PI (cP X scope C' (own++cap) fp s H) t2 i2 (NC K QX E CQ)/\PG (cP X scope C' (own++cap) fp s H) t2 (oK K QX E (bm k))/\dj (cP X scope C' (own++cap) fp s H) f2 (iB K QX E C2)/\PE (cP X scope C' (own++cap) fp s H) gk (bR K QX E M))
  (hs:∀x,foldedSetIterable i1 X.env x=pure x:=by intro _;rfl) (oN:∀(env:Env) x,foldedSetIterable i2 env x=pure x:=by intro _ _;rfl):PE X (.ListComp gk [⟨t1,i1,f1,0⟩,⟨t2,i2,f2,0⟩] scope pos) (bR K QX E (xi own.length ix it mg C1 CQ k C2 M)):=PE.imp (FC B hc hi hb hs oN) (x8 hk)
end
section
end
def cy (r:Γ3):PyData:=.list (r.map .int)
def oZ (M:Γ1)(S:Γ3):List Nat:=(List.range M.length).filter λi=>(M.getD i []).any λg=>S.contains g
end MI
namespace RZ
open L2 KG EX KM
theorem ic:∀{A B:Γ3},A.Pairwise (λa b=>a<b)->B.Pairwise (λa b=>a<b)->(∀x,x∈A↔x∈B)->A=B
 |[],[],_,_,_=>rfl
 |[],b::B,_,_,h=>by have:=(h b).mpr Zi;cases this
 |a::A,[],_,_,h=>by have:=(h a).mp Zi;cases this
 |a::A,b::B,hA,hB,h=>by
  let pA:=List.pairwise_cons.mp hA;let pB:=List.pairwise_cons.mp hB;let e:a=b:=by
   rcases Zk.mp ((h a).mp Zi) with z |z
   .exact z
   .rcases Zk.mp ((h b).mpr Zi) with y |y
    .exact y.symm
    .let h1:=pB.1 a z;let h2:=pA.1 b y;omega
  subst e
  congr 1
  apply ic pA.2 pB.2 λx=>?_
  constructor
  .intro hx;rcases Zk.mp ((h x).mp (Zj _ hx)) with z |z
   .have:=pA.1 x hx;omega
   .exact z
  .intro hx;rcases Zk.mp ((h x).mpr (Zj _ hx)) with z |z
   .have:=pB.1 x hx;omega
   .exact z
def gy (g:Nat)(M:Γ1):(aD g M).Pairwise (λa b=>a<b):=by
 unfold aD aB;rw[List.pairwise_map];exact(List.Pairwise.sublist Z4 List.pairwise_lt_range).imp λh=>⋯
section
def Rj (ab:Above am ps qs M (aD g M) c rows)(hS:S.Sublist (aD g M)):∃x∈rows,x.2=S:=by
 have:S∈rows.map (·.2):=by rw[ab.2.1];exact bV.mpr hS
 let⟨x,hx,e⟩:=Zd.mp this;exact⟨x,hx,e⟩
def EY (ab:Above am ps qs M (aD g M) c rows)(hx:x∈rows):x.2.Sublist (aD g M):=bV.mp (by rw[<- ab.2.1];exact Zd.mpr ⟨x,hx,()⟩)
def AH (ab:Above am ps qs M (aD g M) c rows)(hx:x∈rows):x.1=0↔aN am ps qs M (az x.2)=0:=by
 let hc:(0:Rat)<(c:Rat):=Xa.mpr ab.1;let WN:(c:Rat)≠0:=λz=>by rw[z] at hc;exact absurd hc ∅
 let hv:=ab.2.2 x hx;constructor
 .intro z;rw[z] at hv
  grind
 .intro z
  simp_all
end
def l7 (am:Γ3)(ps qs:Δ1)(M:Γ1)(g:Nat):Prop:=∀S:Γ3,S.Sublist (aD g M)->aN am ps qs M (az S)<=0
structure cC (am:Γ3)(ps qs:Δ1)(M:Γ1)(g:Nat)(Pd:Γ3):Prop where
 sub:Pd.Sublist (aD g M)
 zero:aN am ps qs M (az Pd)=0
 top:∀T:Γ3,T.Sublist (aD g M)->aN am ps qs M (az T)=0->∀x∈T,x∈Pd
section
def cC.uniq (a:cC am ps qs M g A)(b:cC am ps qs M g B):A=B :=
 ic ((gy g M).sublist a.sub) ((gy g M).sublist b.sub) λx=>⟨λh=>b.top A a.sub a.zero x h,λh=>a.top B b.sub b.zero x h⟩
def FD (hp:∀q∈ps,0<=q)(ab:Above am ps qs M (aD g M) c rows)(hM:l7 am ps qs M g)(gP:row∈rows)(h0:row.1=0)(cF:∀x∈rows,x.1=0->x.2.length<=row.2.length):cC am ps qs M g row.2:=by
 let f0:=(AH ab gP).mp h0;let hR:=EY ab gP;apply⟨hR,f0,λT hT fT x hx=>?_⟩;apply uW (f:=λS=>aN am ps qs M (az S)) (CP g M) (lT hp) hR (λS hS=>by show _<=aN am ps qs M (az row.2);rw[f0];exact hM S hS) (λS hS fS=>?_) hT (by show aN am ps qs M (az T)=aN am ps qs M (az row.2);rw[f0,fT]) x hx;let⟨y,hy,rfl⟩:=Rj ab hS;exact cF y hy ((AH ab hy).mpr (fS.trans f0))
theorem Ag:∀{rs:List (Int×Γ3)},(∃x∈rs,x.1=0)->∃row∈rs,row.1=0/\∀x∈rs,x.1=0->x.2.length<=row.2.length
 |[],h=>by let⟨x,hx,_⟩:=h;cases hx
 |r::rs,h=>by
  by_cases e:∃x∈rs,x.1=0
  .obtain⟨row,h1,h2,h3⟩:=Ag e;by_cases z:r.1=0/\row.2.length<r.2.length
   .apply⟨r,Zi,z.1,λx hx x0=>?_⟩;rcases Zk.mp hx with rfl |hx
    .exact Ze _
    .have:=h3 x hx x0;omega
   .apply⟨row,Zj _ h1,h2,λx hx x0=>?_⟩;rcases Zk.mp hx with rfl |hx
    .rcases Z2 row.2.length x.2.length with y |y
     .exact absurd ⟨x0,y⟩ z
     .exact y
    .exact h3 x hx x0
  .obtain⟨x,hx,x0⟩:=h;rcases Zk.mp hx with rfl |hx
   .exact⟨x,Zi,x0,λy hy y0=>by
     rcases Zk.mp hy with rfl |hy
     .exact Ze _
     .exact absurd ⟨y,hy,y0⟩ e⟩
   .exact absurd ⟨x,hx,x0⟩ e
end
def loose (M:Γ1)(qs:Δ1)(Pd S:Γ3):List Nat:=(fz M qs (az S)).filter λi=>!(fz M qs (az Pd)).contains i
def qV (am:Γ3)(ps qs:Δ1)(M:Γ1)(Pd S:Γ3):Rat:=aY ps (loose M qs Pd S) / dD am qs (az S)
def bW (row:Γ3)(qs:Δ1)(g:Nat):Rat:=((row.getD g 0:Int):Rat) / qs.getD g 0
def kT (row:Γ3)(qs:Δ1)(Pd:Γ3)(b:Nat):Δ1:=(Pd.filter λg=>decide (0<row.getD g.toNat 0)).map λg=>bW row qs b / bW row qs g.toNat
def iw (M:Γ1)(qs:Δ1)(Pd:Γ3)(n:Nat):Δ1:=(List.range n).flatMap λi=>if !(fz M qs (az Pd)).contains i&&!((ar M qs).getD i []).isEmpty then kT (M.getD i []) qs Pd (((ar M qs).getD i []).getD 0 0).toNat else []
def aL (g:Nat)(M:Γ1)(Pd:Γ3):Γ3:=(aD g M).filter λx=>!Pd.contains x
def iy (am:Γ3)(ps qs:Δ1)(M:Γ1)(g:Nat)(Pd:Γ3):Δ1:=((aT (aL g M Pd)).drop 1).map (qV am ps qs M Pd)++iw M qs Pd M.length
def K9 (L:List Nat)(w:Nat->Rat)(p q:Nat->Bool):wsum L w (λx=>p x||q x)=wsum L w q+wsum L w (λx=>p x&&!q x):=by
 induction L with
 |nil=>show(0:Rat)=0+0;rw[Qh]
 |cons x L ih =>
  rw[CO,CO,CO,ih];cases p x<;>cases q x<;>simp<;>grind
def lf (h:∀x∈L,p x=false):wsum L w p=0:=by
 unfold wsum;rw[Xv.mpr λx hx=>by rw[h x hx];decide];rfl
def div_le_div {a b c d:Rat}(hc:0<c)(hd:0<d)(h:a*d<=b*c):a / c<=b / d:=by
 let nc:c≠0:=λz=>by rw[z] at hc;exact absurd hc ∅
 let nd:d≠0:=λz=>by rw[z] at hd;exact absurd hd ∅
 let e1:a / c*(c*d)=a*d:=by grind
 let e2:b / d*(c*d)=b*c:=by grind
 let wt:=Yd hc hd;let h3:a / c*(c*d)<=b / d*(c*d):=by rw[e1,e2];exact h
 exact Rat.le_of_mul_le_mul_right h3 wt
section
def sw (nd:N.Nodup)(h:S.Sublist N):dD am qs S=wsum N (λg=>(gL am qs).getD g 0) (λx=>S.contains x):=by
 unfold dD wsum;rw[sub_eq h nd]
def CJ (S:List Nat):aY ps (fz M qs S)=wsum (List.range M.length) (λi=>ps.getD i 0) (λi=>bQ S ((ar M qs).getD i [])):=rfl
def SD (hi:i<M.length):(fz M qs S).contains i=bQ S ((ar M qs).getD i []):=by
 rw[Yb,Z9];unfold fz;rw[Zg,Zh];exact⟨λh=>h.2,λh=>⟨hi,h⟩⟩
def mK (Pd S:Γ3):aY ps (loose M qs Pd S)=wsum (List.range M.length) (λi=>ps.getD i 0) (λi=>bQ (az S) ((ar M qs).getD i [])&&!bQ (az Pd) ((ar M qs).getD i [])):=by
 unfold loose aY wsum
 congr 2
 show(List.filter _ ((List.range M.length).filter _))=_;rw[Qq];apply Y0 λi hi=>?_
 rw[SD (Zh.mp hi),Bool.and_comm]
def BQ (hl:am.length=qs.length)(Lm:∀a∈am,1<=a)(hq:∀g∈S,g<qs.length/\0<qs.getD g 0)(bv:S≠[]):0<dD am qs S:=by
 let one:∀g∈S,0<(gL am qs).getD g 0:=λg hg=>by
  let⟨h1,h2⟩:=hq g hg;let e:(gL am qs).getD g 0=qs.getD g 0*((am.getD g 0:Int):Rat):=by
   unfold gL;simp[List.getD,Yy h1]
  rw[e];let ha:1<=am.getD g 0:=Lm _ (by rw[List.getD,Zc (show g<am.length by omega)];exact Zv _);exact Yd h2 (by have:(0:Int)<am.getD g 0:=⋯;exact Xa.mpr this)
 unfold dD;let key:∀T:List Nat,(∀g∈T,0<(gL am qs).getD g 0)->0<=bu (T.map λg=>(gL am qs).getD g 0):=by
  intro T;induction T with
  |nil=>intro _;exact Yr
  |cons x T ih =>
   intro h;rw[Zn,AU];let h1:=h x Zi;let h2:=ih λg hg=>h g (Zj _ hg)
   grind
 cases S with
 |nil=>exact absurd rfl bv
 |cons x T =>
  rw[Zn,AU];let h1:=one x Zi;let h2:=key T λg hg=>one g (Zj _ hg)
  grind
def Px (hp:∀q∈ps,0<=q)(d9:l7 am ps qs M g)(pd:cC am ps qs M g Pd)(hS:S.Sublist (aL g M Pd))(bv:S≠[])(hm:0<dD am qs (az S)):1<qV am ps qs M Pd S:=by
 let Hz:S.Sublist (aD g M):=hS.trans Z4;let dis:∀x∈S,x∉Pd:=λx hx=>by
  have:=(Zg.mp (hS.subset hx)).2;simpa using this
 let nd:(aB g M).Nodup:=by unfold aB;exact(X5).sublist Z4
 letI J:Γ3:=(aD g M).filter λx=>S.contains x||Pd.contains x
 let hJ:J.Sublist (aD g M):=Z4;let T4:∀x,x∈J↔x∈S\/x∈Pd:=λx=>by
  rw[Zg];constructor
  .rintro⟨_,h⟩;simpa using h
  .intro h;apply⟨?_,by simpa using h⟩;rcases h with h |h
   .exact Hz.subset h
   .exact pd.sub.subset h
 let lt:aN am ps qs M (az J)<0:=by
  let le:=d9 J hJ;by_cases e:aN am ps qs M (az J)=0
  .obtain⟨x,hx⟩:=List.exists_mem_of_ne_nil S bv;exact absurd (pd.top J hJ e x ((T4 x).mpr (.inl hx))) (dis x hx)
  .grind
 let cJ:∀x:Nat,(az J).contains x=((az S).contains x||(az Pd).contains x):=λx=>by
  rw[Yb,Qp,Z9,Z9,Z9,CN hJ,CN Hz,CN pd.sub];exact T4 _
 let mJ:dD am qs (az J)=dD am qs (az Pd)+dD am qs (az S):=by
  rw[sw nd (MZ hJ),sw nd (MZ Hz),sw nd (MZ pd.sub)];rw[AW (q:=λx=>(az S).contains x||(az Pd).contains x) λx _=>cJ x,K9]
  congr 1
  apply AW λx _=>?_
  cases h:(az S).contains x with
  |false=>rfl
  |true =>
   let h1:=(CN Hz x).mp (Z9.mp h);let h2:(az Pd).contains x=false:=by
    rw[Bool.eq_false_iff,Ne,Z9,CN pd.sub];exact dis _ h1
   rw[h2];rfl
 let pJ:aY ps (fz M qs (az J))=aY ps (fz M qs (az Pd))+aY ps (loose M qs Pd S):=by
  rw[CJ,CJ,mK,<- K9];apply AW λi _=>?_
  rw[M0,M0,M0,Yb,Qp,Z6,Z6,Z6];constructor
  .rintro⟨x,hx,h⟩;have:=cJ x;rw[Z9.mpr hx] at this;rcases(Qp _ _).mp this.symm with z |z
   .exact .inl ⟨x,Z9.mp z,h⟩
   .exact .inr ⟨x,Z9.mp z,h⟩
  .rintro(⟨x,hx,h⟩ |⟨x,hx,h⟩)
   .apply⟨x,Z9.mp ?_,h⟩;rw[cJ,Z9.mpr hx];rfl
   .apply⟨x,Z9.mp ?_,h⟩;rw[cJ,Z9.mpr hx,Bool.or_true]
 let z:=pd.zero;unfold aN at lt z;rw[mJ,pJ] at lt;let h3:dD am qs (az S)<aY ps (loose M qs Pd S):=by grind
 unfold qV;rw[Rat.lt_div_iff hm,Rat.one_mul];exact h3
def Cm {row:Γ3}(gP:∀x∈row,0<=x)(hb:b∈aR row qs)(ho:o<row.length)(hw:0<row.getD o 0)(WI:0<qs.getD b 0)(WH:0<qs.getD o 0):bW row qs o<=bW row qs b/\(bW row qs o=bW row qs b->o∈aR row qs):=by
 unfold aR at hb ⊢;let⟨h1,h2⟩:=Zg.mp hb;unfold lO at h2;rw[Z8,Yf] at h2;let nw:∀x:Nat,x<row.length->0<row.getD x 0->((row.getD x 0:Int):Rat)*qs.getD b 0<=((row.getD b 0:Int):Rat)*qs.getD x 0:=λx hx WF=>by
  have:=h2.2 x (Zh.mpr hx);unfold lJ at this;rw[decide_eq_true WF,Xm] at this;have:=of_decide_eq_false (by simpa using this:decide _=false);exact Yx.mp this
 let le:bW row qs o<=bW row qs b:=by
  unfold bW;let h3:=nw o ho hw;exact div_le_div WH WI h3
 apply⟨le,λe=>Zg.mpr ⟨Zh.mpr ho,?_⟩⟩;unfold lO;rw[Z8];apply⟨decide_eq_true ⋯,Yf.mpr λx hx=>?_⟩;let hx:=Zh.mp hx;unfold lJ;rw[Bool.not_eq_true',Bool.and_eq_false_iff];by_cases WF:0<row.getD x 0
 .right
  rw[decide_eq_false_iff_not,Yx];let h3:=nw x hx WF;unfold bW at e;let nb:qs.getD b 0≠0:=λz=>by rw[z] at WI;exact absurd WI ∅
  let no:qs.getD o 0≠0:=λz=>by rw[z] at WH;exact absurd WH ∅
  let e2:((row.getD o 0:Int):Rat)*qs.getD b 0=((row.getD b 0:Int):Rat)*qs.getD o 0:=by grind
  let h4:((row.getD x 0:Int):Rat)*qs.getD o 0*qs.getD b 0<=((row.getD o 0:Int):Rat)*qs.getD x 0*qs.getD b 0:=by
   let h5:=Y4 h3 (Zt WH);let h6:((row.getD x 0:Int):Rat)*qs.getD o 0*qs.getD b 0=((row.getD x 0:Int):Rat)*qs.getD b 0*qs.getD o 0:=by grind
   let h7:((row.getD o 0:Int):Rat)*qs.getD x 0*qs.getD b 0=((row.getD b 0:Int):Rat)*qs.getD x 0*qs.getD o 0:=by grind
   rw[h6,h7];exact h5
  exact Rat.le_of_mul_le_mul_right h4 WI
 .left;exact decide_eq_false WF
end
end RZ
namespace MI
open L2 KG EX KM
def AQ {ns:Γ3}(h:i<ns.length):fY (ns.map PyData.int) (i:Int)=some (.int (ns.getD i 0)):=bT (mX (f:=PyData.int) (d:=0) h)
def eX {ns:Γ3}(h:((ns.map PyData.int).map AV.im)[i]?=some x):i<ns.length/\x=.im (.int (ns.getD i 0)):=by
 let hi:i<ns.length:=by have:=(Zf.mp h).1;simpa using this
 rw[Zo,mX (f:=PyData.int) (d:=0) hi] at h;exact⟨hi,(Option.some.inj h).symm⟩
def KH (ns:Γ3)(p:Int->Bool):((List.range ns.length).filter λj=>p (ns.getD j 0)).map (λj=>ns.getD j 0)=ns.filter p:=by
 have:=Hl (λx:Int=>x) ns 0;let e:ns.filter p=((List.range ns.length).map λi=>ns.getD i 0).filter p:=by rw[this,List.map_id']
 rw[e,List.filter_map];rfl
def Gp (ns:Γ3)(p:Int->Bool):((List.range ns.length).filter λj=>p (ns.getD j 0)).map (λj=>PyData.int (ns.getD j 0))=(ns.filter p).map .int:=by
 rw[<- KH ns p,Zp];rfl
def Gq {α : Type}(s:List α)(d:α)(p:α->Bool)(f:α->PyData):((List.range s.length).filter λj=>p (s.getD j d)).map (λj=>f (s.getD j d))=(s.filter p).map f:=by
 have:=Hl (λx:α=>x) s d;let e:s.filter p=((List.range s.length).map λi=>s.getD i d).filter p:=by rw[this,List.map_id']
 rw[e,List.filter_map,Zp];rfl
def Im {α : Type}:([]:List α).length<=sizeLine:=by show 0<=sizeLine;decide
def Gw {r:Nat}(h1:r<=xs.length):cutD xs none (some (r:Int))=xs.take r:=by
 let e1:HT.oU xs.length xs.length (some (r:Int))=r:=by
  show(if (r:Int)<0 then ((r:Int)+(xs.length:Int)).toNat else min ((r:Int)).toNat xs.length)=_
  grind
 unfold cutD;rw[HT.uK,e1];simp
def JF (h:lF (qD z)=true):0<z/\Rb 20 z:=by
 let⟨q,e,h1,h2⟩:=mr h;have:z=q:=by rw[<- iO z,e,iO]
 rw[this];exact⟨h1,h2⟩
structure kS (A:Γ3)(Pu:Δ1)(W:Γ1):Prop where
 g1:1<=A.length
 g6:A.length<=6
 n1:1<=Pu.length
 n6:Pu.length<=6
 wl:W.length=Pu.length
 am:∀a∈A,1<=a/\a<=60
 pu:∀z∈Pu,0<z/\Rb 20 z
 wr:∀i,i<W.length->(W.getD i []).length=A.length
 w0:∀i j,i<W.length->j<A.length->0<=eI W i j/\eI W i j<=100
def AR (h:eO (fw A Pu W)=true):kS A Pu W:=by
 let⟨h1,h2,h3,h4,h5,h6,h7,h8⟩:=iV h;rw[Zb] at h1 h2 h4 h5;rw[Zb,Zb] at h7;rw[Zb] at h8;let row:∀r∈W,r.length=A.length/\∀x∈r,0<=x/\x<=100:=λr hr=>by
  have:=Yf.mp h8 (aP r) (Zd.mpr ⟨r,hr,()⟩);let e:(decide ((r.map PyData.int).length=A.length)&&(r.map PyData.int).all (within 0 100))=true:=this;rw[Z8,decide_eq_true_eq,Zb,Yf] at e;apply⟨e.1,λx hx=>?_⟩;have:=e.2 (.int x) (Zd.mpr ⟨x,hx,()⟩);let e2:(decide ((0:Int)<=x)&&decide (x<=100))=true:=this;rw[Z8,decide_eq_true_eq,decide_eq_true_eq] at e2;exact e2
 let wm:∀i,i<W.length->W.getD i []∈W:=λi hi=>by rw[ay (Zc hi)];exact Zv _
 apply⟨h1,h2,h4,h5,h7,λa ha=>?_,λz hz=>?_,λi hi=>(row _ (wm i hi)).1,λi j hi hj=>?_⟩
 .have:=Yf.mp h3 (.int a) (Zd.mpr ⟨a,ha,()⟩);let e2:(decide ((1:Int)<=a)&&decide (a<=60))=true:=this;rw[Z8,decide_eq_true_eq,decide_eq_true_eq] at e2;exact e2
 .exact JF (Yf.mp h6 (qD z) (Zd.mpr ⟨z,hz,()⟩))
 .let hr:=row _ (wm i hi);let lX:j<(W.getD i []).length:=by rw[hr.1];exact hj
  exact hr.2 _ (by show(W.getD i []).getD j 0∈_;rw[ay (Zc lX)];exact Zv _)
open RZ
def eR (h:x∈aD g W):0<=x/\x.toNat<g/\((x.toNat:Nat):Int)=x/\has W x.toNat=true:=by
 unfold aD at h;let⟨j,hj,rfl⟩:=Zd.mp h;let hj:=Zg.mp hj;let h1:=Zh.mp hj.1;rw[Z1];exact⟨⋯,h1,(),hj.2⟩
def K5 (g:Nat)(W:Γ1):(aD g W).length<=g:=by
 unfold aD aB;rw[Zb];exact Zl (Yv _ _) (by simp)
def Hj (W:Γ1)(qs:Δ1):(ar W qs).length=W.length:=by unfold ar;simp
def AS (hi:i<W.length):(ar W qs).getD i []=(aR (W.getD i []) qs).map λg:Nat=>(g:Int):=by unfold ar;exact mZ hi
def on (hi:i<W.length)(hr:(W.getD i []).length=g):((ar W qs).getD i []).length<=g:=by
 rw[AS hi,Zb];unfold aR;rw[<- hr];exact Zl (Yv _ _) (by simp)
def rZ (hS:∀x∈S,0<=x):oZ (ar W qs) S=fz W qs (az S):=by
 unfold oZ fz;rw[Hj];apply Y0 λi _=>?_
 unfold bQ az;rw[Yb,Z6,Z6];constructor
 .rintro⟨x,hx,h⟩;let hm:=Z9.mp h;exact⟨x,hx,Z6.mpr ⟨x.toNat,Zd.mpr ⟨x,hm,()⟩,decide_eq_true (Y8 (hS x hm))⟩⟩
 .rintro⟨x,hx,h⟩;let⟨y,hy,e⟩:=Z6.mp h;let⟨z,hz,rfl⟩:=Zd.mp hy;let e:=of_decide_eq_true e;rw[Y8 (hS z hz)] at e;exact⟨x,hx,Z9.mpr (e▸hz)⟩
def Ke {s:List Nat}(h:((s.map λk:Nat=>PyData.int (k:Int)).map AV.im)[i]?=some x):i<s.length/\x=.im (.int ((s.getD i 0:Nat):Int))/\s.getD i 0∈s:=by
 let hi:i<s.length:=by have:=(Zf.mp h).1;simpa using this
 rw[Zo,mX (f:=λk:Nat=>PyData.int (k:Int)) (d:=0) hi] at h;exact⟨hi,(Option.some.inj h).symm,by rw[ay (Zc hi)];exact Zv _⟩
def aa4 {ns:Γ3}(h0:0<=x)(h:x.toNat<ns.length):fY (ns.map PyData.int) x=some (.int (ns.getD x.toNat 0)):=by
 have:=AQ h
 rwa [Y8 h0] at this
def Ae {α : Type}(s:List α)(d:α)(f:α->Int):(List.range s.length).map (λj=>PyData.int (f (s.getD j d)))=(s.map f).map .int:=by
 rw[Zp];exact Hl (λx=>PyData.int (f x)) s d
theorem wT:∀{A B:Γ3},A.Nodup->(∀x∈A,x∈B)->A.length<=B.length
 |[],_,_,_=>Z7 _
 |a::A,B,nd,h=>by
  let wc:=Yc.mp nd;let ha:=h a Zi;let ih:=wT (A:=A) (B:=B.erase a) wc.2 λx hx=>(List.mem_erase_of_ne (λ(e:x=a)=>wc.1 (e▸hx))).mpr (h x (Zj _ hx))
  let e:=List.length_erase_of_mem ha;have:=List.length_pos_of_mem ha;rw[Y2];omega
def A4 (ps:Γ3)(s:List Nat):Int:=(s.map λi=>ps.getD i 0).sum
def kz (h:0<=row.getD g 0/\row.getD g 0<=100)(hb:Rb 293 (qs.getD g 0))(h0:0<qs.getD g 0):Rb 300 (bW row qs g):=by
 unfold bW;exact hW (j:=7) (k:=293) (iN (by unfold Bd;omega) ∅) hb (λz=>by rw[z] at h0;exact absurd h0 ∅)
def Rf:∀{xs:Γ3},(∀x∈xs,Bd k x)->xs.length<=6->Bd (k+3) xs.sum:=by
 let key:∀{xs:Γ3},(∀x∈xs,Bd k x)->xs.sum.natAbs<=xs.length*2 ^ k:=by
  intro xs;induction xs with
  |nil=>intro _;exact Z7 _
  |cons x xs ih =>
   intro h;let h1:x.natAbs<2 ^ k:=h x Zi;let h2:=ih λy hy=>h y (Zj _ hy)
   let h3:=Int.natAbs_add_le x xs.sum;rw[Qi,Y2,Nat.succ_mul];omega
 intro xs h h6;let h1:=key h;unfold Bd;let h2:xs.length*2 ^ k<=6*2 ^ k:=Nat.mul_le_mul_right _ h6
 grind
def B9 {c t u:Int}(hc:0<c)(ht:((t:Int):Rat)=(c:Rat)*x)(hu:((u:Int):Rat)=(c:Rat)*y)(hy:0<y):Rat.divInt t u=x / y:=by
 rw[X7,ht,hu];let c0:(c:Rat)≠0:=λz=>by have:(c:Int)=0:=(by exact_mod_cast z);omega
 grind
structure cA (A:Γ3)(Pu:Δ1)(W:Γ1)(qs:Δ1):Prop where
 pr:nR A Pu W qs
 bd:∀z∈qs,Rb 280 z
def cA.pos (h:cA A Pu W qs)(hx:x∈aD A.length W):0<=x/\x.toNat<qs.length/\0<qs.getD x.toNat 0:=by
 let⟨h1,h2,h3,h4⟩:=eR hx;let hl:=h.pr.len;exact⟨h1,⋯,h.pr.kM.pos _ ⋯ h4⟩
def cA.money (h:cA A Pu W qs)(hS:S.Sublist (aD A.length W))(bv:S≠[]):0<dD A qs (az S):=by
 let mf:=AR h.pr.ok;apply BQ h.pr.len.symm (λa ha=>(mf.am a ha).1) (λg hg=>?_) (λz=>bv ?_)
 .obtain⟨x,hx,rfl⟩:=Zd.mp hg;exact(h.pos (hS.subset hx)).2
 .exact Qa.mp z
def ln (ns:Γ3):aT ns=[]::(aT ns).drop 1:=by
 obtain⟨m,hm⟩:∃m,2 ^ ns.length=m+1:=⟨2 ^ ns.length-1,by have:0<2 ^ ns.length:=Nat.pow_pos ∅;omega⟩;let z:dm ns 0=[]:=by
  unfold dm
  simp_all
 unfold aT;rw[hm,List.range_succ_eq_map,Zn,z];rfl
def jo (nd:ns.Nodup)(h:S∈(aT ns).drop 1):S.Sublist ns/\S≠[]:=by
 apply⟨bV.mp (List.mem_of_mem_drop h),λe=>?_⟩;let e0:=ln ns;have:=iZ nd;rw[e0,Yc] at this;exact this.1 (e▸h)
def sL (mf:kS A Pu W)(kM:Hd W qs)(hl:qs.length=A.length)(kN:i<W.length)(hb:b∈aR (W.getD i []) qs):b<A.length/\0<qs.getD b 0:=by
 let UB:=Zg.mp hb;let N5:=Zh.mp UB.1;rw[mf.wr i kN] at N5;let hbw:(W.getD i []).getD b 0≠0:=by
  have:=UB.2;unfold lO at this;rw[Z8] at this;exact of_decide_eq_true this.1
 let hwb:=mf.w0 i b kN N5;let abQ:has W b=true:=by
  unfold has;rw[Z6];exact⟨W.getD i [],by rw[ay (Zc kN)];exact Zv _,decide_eq_true (by unfold eI at hwb;omega)⟩
 exact⟨N5,kM.pos b ⋯ abQ⟩
def dS (qs:Δ1)(Pd:Γ3)(f:Rat):Δ1:=(List.range qs.length).map λg:Nat=>if Pd.contains (g:Int)=true then qs.getD g 0 else qs.getD g 0*f
def uL (h:Pd.Sublist (aD g W)):aL g W Pd=[]↔Pd=aD g W:=by
 unfold aL;rw[Xv];constructor
 .intro z;apply Je h (List.Sublist.refl _) (CP g W) λx=>⟨λhx=>h.subset hx,λhx=>?_⟩
  have:=z x hx;simpa using this
 .intro e x hx;rw[e];simpa using hx
def Fm (rp:cA A Pu W qs)(Nl:Pd.Sublist (aD A.length W)):∀z∈iy A Pu qs W A.length Pd,Rb 3000 z:=by
 let mf:=AR rp.pr.ok;let hl:=rp.pr.len;let hR:(aL A.length W Pd).Sublist (aD A.length W):=Z4;let Nk:(aL A.length W Pd).Nodup:=(CP A.length W).sublist hR;intro z hz;unfold iy at hz;rcases Zw.mp hz with hz |hz
 .obtain⟨S,hS,rfl⟩:=Zd.mp hz;let⟨h1,h2⟩:=jo Nk hS;let hs:=h1.trans hR;let mS:=rp.money hs h2;let b1:Rb 127 (aY Pu (loose W qs Pd S)):=by
   unfold aY;let h3:=sn (k:=20) (qs:=(loose W qs Pd S).map λi=>Pu.getD i 0) λq hq=>by
    let⟨i,hi,rfl⟩:=Zd.mp hq;exact zL ∅ (λq hq=>(mf.pu q hq).2) i
   apply h3.mono ?_;rw[Zb];let h4:=Yv (λi=>!(fz W qs (az Pd)).contains i) (fz W qs (az S));let h5:=lQ W qs (az S);have:=mf.wl;have:=mf.n6;unfold loose;omega
  let b2:Rb 1801 (dD A qs (az S)):=by
   unfold dD;let h3:=sn (k:=299) (qs:=(az S).map λg=>(gL A qs).getD g 0) λq hq=>by
    let⟨i,hi,rfl⟩:=Zd.mp hq;apply zL ∅ (λq hq=>?_) i;let⟨j,hj,rfl⟩:=Zd.mp hq;let hj:=Zh.mp hj;let ha:=mf.am (A.getD j 0) (by rw[ay (Zc (show j<A.length by omega))];exact Zv _);exact jP (j:=293) (k:=6) (rp.pr.bd _ (by rw[ay (Zc hj)];exact Zv _)) (iN (by unfold Bd;omega) ∅)
   apply h3.mono ?_;unfold az;rw[Zb,Zb];have:=hs.length_le;have:=K5 A.length W;have:=mf.g6;omega
  unfold qV;exact(hW b1 b2 (λz=>by rw[z] at mS;exact absurd mS ∅)).mono ∅
 .unfold iw at hz;let⟨i,hi,hz⟩:=Ja.mp hz;let kN:=Zh.mp hi;split at hz
  .rename_i hc;rw[Z8] at hc;let bv:0<((ar W qs).getD i []).length:=by
    cases hb:(ar W qs).getD i [] with
    |nil=>rw[hb] at hc;exact absurd hc.2 ∅
    |cons _ _=>simp
   let G7:((ar W qs).getD i []).getD 0 0∈(ar W qs).getD i []:=by rw[ay (Zc bv)];exact Zv _
   rw[AS kN] at G7;let⟨b,hb,eb⟩:=Zd.mp G7;rw[<- AS kN] at eb;rw[<- eb,Z1] at hz;unfold kT at hz;let⟨x,hx,rfl⟩:=Zd.mp hz;let⟨M7,vR⟩:=Zg.mp hx;let vR:=of_decide_eq_true vR;let⟨p0,p1,p2⟩:=rp.pos (Nl.subset M7);let⟨oX,oP⟩:=sL mf rp.pr.kM hl kN hb;let r1:=kz (row:=W.getD i []) (mf.w0 i b kN oX) (rp.pr.bd _ (by rw[ay (Zc (show b<qs.length by omega))];exact Zv _)) oP;let r2:=kz (row:=W.getD i []) (mf.w0 i x.toNat kN ⋯) (rp.pr.bd _ (by rw[ay (Zc p1)];exact Zv _)) p2;apply(hW r1 r2 λz=>?_).mono ∅;have:0<bW (W.getD i []) qs x.toNat:=by unfold bW;exact tH (Xa.mpr vR) p2
   rw[z] at this;exact absurd this ∅
  .cases hz
def KI (rp:cA A Pu W qs)(d9:l7 A Pu qs W A.length)(pd:cC A Pu qs W A.length Pd):∀z∈iy A Pu qs W A.length Pd,1<z:=by
 let mf:=AR rp.pr.ok;let hl:=rp.pr.len;let hR:(aL A.length W Pd).Sublist (aD A.length W):=Z4;let Nk:(aL A.length W Pd).Nodup:=(CP A.length W).sublist hR;intro z hz;unfold iy at hz;rcases Zw.mp hz with hz |hz
 .obtain⟨S,hS,rfl⟩:=Zd.mp hz;let⟨h1,h2⟩:=jo Nk hS;exact Px (λq hq=>Zt (mf.pu q hq).1) d9 pd h1 h2 (rp.money (h1.trans hR) h2)
 .unfold iw at hz;let⟨i,hi,hz⟩:=Ja.mp hz;let kN:=Zh.mp hi;split at hz
  .rename_i hc;rw[Z8] at hc;let bv:0<((ar W qs).getD i []).length:=by
    cases hb:(ar W qs).getD i [] with
    |nil=>rw[hb] at hc;exact absurd hc.2 ∅
    |cons _ _=>simp
   let G7:((ar W qs).getD i []).getD 0 0∈(ar W qs).getD i []:=by rw[ay (Zc bv)];exact Zv _
   rw[AS kN] at G7;let⟨b,hb,eb⟩:=Zd.mp G7;rw[<- AS kN] at eb;rw[<- eb,Z1] at hz;unfold kT at hz;let⟨x,hx,rfl⟩:=Zd.mp hz;let⟨M7,vR⟩:=Zg.mp hx;let vR:=of_decide_eq_true vR;let⟨p0,p1,p2⟩:=rp.pos (pd.sub.subset M7);let⟨oX,oP⟩:=sL mf rp.pr.kM hl kN hb;let hxl:x.toNat<(W.getD i []).length:=by rw[mf.wr i kN];omega
   let⟨le,eqv⟩:=Cm (qs:=qs) (row:=W.getD i []) (b:=b) (o:=x.toNat) (λy hy=>by
    let⟨k,hk,rfl⟩:=Yq hy;have:=mf.w0 i k kN (by rw[<- mf.wr i kN];exact hk);unfold eI at this;rw[ay (Zc hk)] at this;exact this.1) hb hxl vR oP p2
   let np:x.toNat∉aR (W.getD i []) qs:=λz=>by
    let h1:=hc.1;rw[SD kN,AS kN] at h1;have:bQ (az Pd) ((aR (W.getD i []) qs).map λg:Nat=>(g:Int))=true:=by
     rw[M0,Z6];exact⟨x.toNat,Zd.mpr ⟨x,M7,()⟩,Z9.mpr (Zd.mpr ⟨_,z,()⟩)⟩
    rw[this] at h1;cases h1
   let rp':0<bW (W.getD i []) qs x.toNat:=by unfold bW;exact tH (Xa.mpr vR) p2
   rw[Rat.lt_div_iff rp',Rat.one_mul];by_cases e:bW (W.getD i []) qs x.toNat=bW (W.getD i []) qs b
   .exact absurd (eqv e) np
   .grind
  .cases hz
def Aw (h:aL g W Pd≠[]):iy A Pu qs W g Pd≠[]:=by
 unfold iy;intro z;let z1:=(List.append_eq_nil_iff.mp z).1;let z2:=Qa.mp z1;let z3:((aT (aL g W Pd)).drop 1).length=0:=by rw[z2];rfl
 rw[Qo,RG] at z3;have:2 ^ 1<=2 ^ (aL g W Pd).length:=Y9 ∅ (Xi.mpr h);omega
def RH {α : Type}{L:List α}{i:Nat}(d:α)(hi:i<L.length):L.take (i+1)=L.take i++[L.getD i d]:=by rw[List.take_succ,Zc hi,ay (Zc hi)];rfl
def tW (gs:List Nat):PyData:=.tuple (gs.map λg:Nat=>.int (g:Int))
end MI
namespace MI
open L2 KG EX KM RZ
section
def yw (c:Nat->Bool)(f a b:Nat->PyData)(hl:items.length<=1000000)(hi:∀(i:Nat) (x:AV),items[i]?=some x->x=.im (.tuple [a i,b i]))
  (hc:∀(i:Nat) (Z:Bool->bF->Prop),i<items.length->Z (c i) O->C (((c8 n ix sl).set 0 (some (.im (a i)))).set 1 (some (.im (b i)))) O Z)
  (hs:∀(i:Nat) (Z:AV->bF->Prop),i<items.length->c i=true->Z (.im (f i)) O->M (((c8 n ix sl).set 0 (some (.im (a i)))).set 1 (some (.im (b i)))) O Z)
  (hd:Q (.im (.list (((List.range items.length).filter c).map f))) O):CB n ix (kP 2 (aG (bm 0) (aG (bm 1) ck))) C M sl Q items O:=by
 apply⟨hl,λi ds O'=>O'=O/\ds=((List.range i).filter c).map f,⟨(),()⟩,?_,λds O' ⟨e,h1⟩=>by rw[e,h1];exact hd⟩;rintro i x ds O' hx ⟨rfl,rfl⟩;let cD:=(Zf.mp hx).1;rw[hi i x hx];exact⟨(),hc i _ cD ⟨λh=>hs i _ cD h ⟨(),by rw[ju,h,if_pos rfl]⟩,λh=>⟨(),by rw[ju,h,if_neg ∅,Ym]⟩⟩⟩
end
section
def xV {c y:Rat}(hc:0<c)(hy:y<=0):c*y<=0:=by
 let h:=Xg hy (Zt hc)
 rwa [X6] at h
def JI (pr:nR A Pu W qs):eJ A.length W (.tuple (qs.map qD))=true:=DI.mpr ⟨pr.len,pr.kM⟩
def DV:FM:=λO xs P _=>match xs with
 |[.im (.int t),.im (.int u)]=>P (.im (.int (Int.gcd t u))) O
 |_=>False
def Kt:pL K rC DV:=λw O H vs xs P PX Q E r a hf q x=>by
 unfold DV at hf;split at hf
 .obtain⟨v,u,rfl,h1,h2⟩:=wL a;rw[iq h1,iq h2];exact⟨_,_,(),q _ _ O w H hf (cr.refl _ _ _) r (.int _)⟩
 .exact hf.elim
def IG:FM:=λO xs P _=>match xs with
 |[.im (.int t),.im (.int u)]=>(u≠0/\Bd 8000 u)/\P (.im (qD (Rat.divInt t u))) O
 |_=>False
def Mn:pL K (wC Nn) IG:=λw O H vs xs P PX Q E r a hf q x=>by
 unfold IG at hf;split at hf
 .obtain⟨v,u,rfl,h1,h2⟩:=wL a;rw[iq h1,iq h2];apply⟨_,_,(),hf.1.2,λz=>absurd z hf.1.1,λ_ p hp=>?_⟩;let⟨r1,e1,t1⟩:=eV r hp (aH.cons (.int (Rat.divInt _ _).num) (.cons (.int ((Rat.divInt _ _).den:Int)) .nil));exact q _ _ O w _ hf.2 e1 r1 t1
 .exact hf.elim
def DH (h:ci (G w O H) v (qD a)):∃p,v=.ref p/\H p=some (qO a):=by
 let⟨p,xs,rfl,h1,t⟩:=ff h;cases t with |cons t1 t2=>cases t2 with |cons t2 t3=>cases t3;cases t1;cases t2;exact⟨p,(),h1⟩
def VB (r:aF K w O H)(hp:H p=none)(a:Rat):aF K w O (aQ H p (qO a))/\cr w O H w O (aQ H p (qO a))/\ci (G w O (aQ H p (qO a))) (.ref p) (qD a):=eV r hp (aH.cons (.int a.num) (.cons (.int (a.den:Int)) .nil))
def JE (r:aF K w O H)(s:aw H H')(hp:H' p=some (qO a)):aF K w O H'/\cr w O H w O H'/\ci (G w O H') (.ref p) (qD a):=jt r s hp (aH.cons (.int a.num) (.cons (.int (a.den:Int)) .nil))
def UI:FM:=λO xs P _=>∃a b,xs=[.im (qD a),.im (qD b)]/\(Rb 3000 a/\Rb 3000 b/\b≠0)/\P (.im (qD (a / b))) O
def Kn:pL K (nA Nn) UI:=λw O H vs xs P PX Q E r a hf q x=>by
 let⟨a1,b1,rfl,⟨h1,h2,h3⟩,hf⟩:=hf;let⟨v,u,rfl,g1,g2⟩:=wL a;let⟨p1,rfl,e1⟩:=DH g1;let⟨p2,rfl,e2⟩:=DH g2;apply⟨p1,p2,a1,b1,(),e1,e2,h1,h2,λz=>absurd z h3,λ_ p hp=>?_⟩;let⟨r1,ψ,t1⟩:=VB r hp (a1 / b1);exact q _ _ O w _ hf ψ r1 t1
def DT:FM:=λO xs P _=>∃(n:Int) (y:Rat),xs=[.im (.int n),.im (qD y)]/\(Rb 300 y/\0<y/\0<=n/\n<=100)/\P (.im (qD ((n:Rat) / y))) O
def Ah:pL K rB DT:=λw O H vs xs P PX Q E r a hf q x=>by
 let⟨n,y,rfl,⟨h1,h2,h3,h4⟩,hf⟩:=hf;let⟨v,u,rfl,g1,g2⟩:=wL a;let⟨p2,rfl,e2⟩:=DH g2;rw[iq g1];apply⟨n,p2,y,(),e2,h1,h2,h3,h4,λt H' s ht=>?_⟩;let⟨r1,ψ,t1⟩:=JE r s ht;exact q _ _ O w _ hf ψ r1 t1
def FR (M:Γ1):Cs (.tuple (M.map aP))=true:=fu Aa M
def xq:FM:=λO xs P _=>∃(A:Γ3) (Pu:Δ1) (W:Γ1) (qs:Δ1),xs=[.im (fw A Pu W),.im (.tuple (qs.map qD))]/\nR A Pu W qs/\P (.im (.tuple ((ar W qs).map aP))) O
def uZ:pL K (nB Pr) xq:=λw O H vs xs P PX Q E r a hf q x=>by
 let⟨A,Pu,W,qs,rfl,pr,hf⟩:=hf;let⟨v1,v2,rfl,a1,a2⟩:=wL a;let⟨p,pa,pp,pw,xa,xp,xw,rfl,mk,la,lp⟩:=NU 0 a1 pr.ok;let inj:∀Cr:Δ1,PyData.tuple (qs.map qD)=.tuple (Cr.map qD)->qs=Cr:=λCr h=>by
  let h1:qJ (qs.map qD)=qJ (Cr.map qD):=by injection h with h;rw[h]
  rwa [gF,gF] at h1
 apply⟨0,p,pa,pp,pw,xa,xp,xw,_,_,_,v2,.tuple (qs.map qD),(),⟨mk,XO 0 a2 (rO qs),λCr h z hz=>?_⟩,λhn=>?_,λCr h hl hp t Ro H' s ht hr=>?_⟩
 .rw[<- inj Cr h] at hz;exact(pr.bd z hz).mono ∅
 .exfalso;rw[M3,la] at hn;rw[JI pr] at hn;cases hn
 .let e:=inj Cr h;subst e;rw[M3] at hr;let⟨r1,e1,_⟩:=r.ak s;let tr:fH 0 H' (.ref t) (.tuple ((ar W qs).map aP)):=.tup ht (Eh hr);exact q _ _ O w H' hf e1 r1 (XQ r1 tr (FR _))
def fPG:FM:=λO xs P _=>∃(A:Γ3) (Pu:Δ1) (W:Γ1) (qs:Δ1),xs=[.im (fw A Pu W),.im (.tuple (qs.map qD))]/\nR A Pu W qs/\l7 A Pu qs W A.length/\∀Pd,cC A Pu qs W A.length Pd->P (.im (aP Pd)) O
def VS {De:Addr}:pL K (NJ De) fPG:=λw O H vs xs P PX Q E r a hf q x=>by
 let⟨A,Pu,W,qs,rfl,pr,d9,hf⟩:=hf;let⟨v1,v2,rfl,a1,a2⟩:=wL a;let⟨p,pa,pp,pw,xa,xp,xw,rfl,mk,la,lp⟩:=NU 0 a1 pr.ok;let⟨qp,yp,rfl,pa'⟩:=abp 0 a2 pr.bd;apply⟨0,p,pa,pp,pw,qp,xa,xp,xw,yp,_,_,_,qs,(),⟨mk,pa',by rw[pr.len,la],by rw[M3];exact pr.kM⟩,λc rows ab=>?_⟩;rw[oi,gF,M3,la] at ab;let mf:=AR pr.ok;let hp:∀q∈Pu,0<=q:=λq hq=>Zt (mf.pu q hq).1
 let le0:∀y∈rows,y.1<=0:=λy hy=>by
  let h1:=ab.2.2 y hy;let h2:=d9 y.2 (EY ab hy);let hc:(0:Rat)<(c:Rat):=Xa.mpr ab.1;let h3:((y.1:Int):Rat)<=0:=by rw[h1];exact xV hc h2
  exact_mod_cast h3
 apply⟨λ⟨y,hy,h0⟩=>?_,λ_ t row H' s gP h0 cF ht=>?_⟩
 .have:=le0 y hy;omega
 .let pd:=FD hp ab d9 gP h0 cF;let⟨r1,e1,t1⟩:=jt r s ht (wI row.2);exact q _ _ O w H' (hf _ pd) e1 r1 t1
end
def any_map (ns:Γ3)(p:Int->Bool):(ns.map p).any id=ns.any p:=by rw[X1];rfl
def Dp:FM:=λO xs P _=>∃(M:Γ1) (S:Γ3),xs=[.im (.tuple (M.map aP)),.im (aP S)]/\M.length<=6/\(∀i,i<M.length->(M.getD i []).length<=6)/\P (.im (tW (oZ M S))) O
abbrev Op:Δ2:=["best","goods"]
def T9:MS:=(cE (jZ lY (af (cL 2 [1] (WC (af (ah 0) ao)) (kP 2 (aG (bm 0) (aG (bm 1) ck))) (cV (jZ Ds (af (cL 1 [2] (cK (ah 1)) (bm 0) eC (bB (RJ false) (ah 0) (ah 1))) ao))) (ah 0)) ao)))
def EW {S:Γ3}{r:Γ3}(hl:r.length<=6)(hM:∀(i:Nat) (x:AV) (Z:AV->bF->Prop),((r.map PyData.int).map AV.im)[i]?=some x->Z (.im (.bool (S.contains (r.getD i 0)))) O->M ((c8 n ix sl).set 0 (some x)) O Z)(hZ:Z (.im (.list ((r.map λg=>S.contains g).map .bool))) O):CB n ix (bm 0) eC M sl Z ((r.map PyData.int).map AV.im) O:=by
 apply Hi (λj=>.bool (S.contains (r.getD j 0))) (by rw[Zb,Zb];omega) (λj x Z hx hZ=>hM j x Z hx hZ) ?_;rw[Zb,Zb];let e:(List.range r.length).map (λj=>PyData.bool (S.contains (r.getD j 0)))=(r.map λg=>S.contains g).map .bool:=by
  rw[Zp];exact Hl (λg:Int=>PyData.bool (S.contains g)) r 0
 rw[e];exact hZ
def OV:∀O xs Pq QX,Dp O xs Pq QX->T9 { nx:=λ_ O'=>Pq (.im .none) O',rt:=Pq } (bp Op xs) O:=by
 intro O xs Pq QX h;let⟨M,S,rfl,n6,r6,h⟩:=h;apply yw (λi=>(M.getD i []).any λg=>S.contains g) (λi=>.int (i:Int)) (λi=>.int (i:Int)) (λi=>aP (M.getD i [])) (by unfold cQ;simp;omega) (λi x hx=>?_) (λi Z hi hZ=>?_) (λi Z hi _ hZ=>hZ) ?_
 .obtain⟨hi,rfl⟩:=ji hx;rw[Zb] at hi;rw[show(M.map aP).getD i .none=aP (M.getD i []) from mZ hi]
 .let hi:i<M.length:=by unfold cQ at hi;simpa using hi
  conv=>whnf
  apply EW (S:=S) (r6 i hi) (λj x Z hx hZ=>?_) ⟨_,(),?_⟩
  .obtain⟨hj,rfl⟩:=eX hx;exact⟨S,(),hZ⟩
  .show Z (List.any _ id) O;rw[any_map];exact hZ
 .let e:(cQ (M.map aP)).length=M.length:=by unfold cQ;simp
  rw[e];exact h
def uw:FM:=λO xs P _=>∃ns:Γ3,xs=[.im (aP ns)]/\ns.length<=6/\P (.im (.list ((aT ns).map aP))) O
abbrev OF:Δ2:=["members","sets","member"]
def Mg:MS:=(be (bH (A7 (af (gO ao) ao)) (bm 1))
 (be (l3 (cK (ah 0)) (bm 2) (bH (bB j7 (ah 1) (cL 1 [2] (cK (ah 1)) (bm 0) eC (bB j7 (ah 0) (gO (af (ah 1) ao))))) (bm 1)))
 (cE (ah 1))))
def Jw:∀O xs Pq QX,uw O xs Pq QX->Mg { nx:=λ_ O'=>Pq (.im .none) O',rt:=Pq } (bp OF xs) O:=by
 intro O xs Pq QX h;let⟨ns,rfl,n6,h⟩:=h;apply⟨Im,Il,?_⟩;apply⟨?_⟩;conv=>whnf
 apply⟨λi sl O'=>O'=O/\∃y,sl=[Φ9 (aP ns),Φ9 (.list ((aT (ns.take i)).map aP)),y],⟨(),_,()⟩,?_,?_⟩
 .rintro i x sl O' hx ⟨rfl,y,rfl⟩;let⟨hi,rfl⟩:=eX hx;let ht:=RH (0:Int) hi;let hl:(aT (ns.take i)).length<=64:=by
   rw[RG];exact Y9 (n:=2) ∅ (show(ns.take i).length<=6 by rw[Yz];omega)
  apply⟨?_⟩;conv=>whnf
  apply Hi (λj=>aP ((aT (ns.take i)).getD j []++[ns.getD i 0])) (by rw[Zb,Zb];omega) (λj x Z hx hZ=>?_) ?_
  .obtain⟨hj,rfl⟩:=hV hx;let hm:=(Bu (show(aT (ns.take i)).getD j []∈aT (ns.take i) by rw[ay (Zc hj)];exact Zv _)).2;let WL:((aT (ns.take i)).getD j []).length<=6:=by rw[Yz] at hm;omega
   apply⟨Il,by rw[Zb,sz];show _+1<=_;omega,?_⟩;let e:aP ((aT (ns.take i)).getD j []++[ns.getD i 0])=.tuple (((aT (ns.take i)).getD j []).map .int++[.int (ns.getD i 0)]):=by unfold aP;rw[Zs];rfl
   rw[e] at hZ;exact hZ
  .rw[Zb,Zb,Hl (λr:Γ3=>aP (r++[ns.getD i 0])) (aT (ns.take i)) []];apply⟨by rw[Zb,Zb,sz];omega,(),Φ9 (.int (ns.getD i 0)),?_⟩;rw[ht,jU,Zs,Zp];rfl
 .rintro sl O' ⟨rfl,y,rfl⟩;rw[Zb,Zb,Yp];exact⟨h⟩
def Kf {s:List Nat}(h:((s.map λg:Nat=>PyData.int (g:Int)).map AV.im)[i]?=some x):i<s.length/\x=.im (.int ((s.getD i 0:Nat):Int))/\s.getD i 0∈s:=Ke h
def k9:FM:=λO xs P _=>∃(cs:Γ3) (s:List Nat),xs=[.im (cy cs),.im (tW s)]/\s.length<=6/\(∀i∈s,i<cs.length)/\P (.im (.int (A4 cs s))) O
abbrev OB:Δ2:=["coins","some"]
def EA:MS:=(cE (jZ NF (af (cL 1 [0] (cK (ah 1)) (bm 0) eC (bB cO (ah 1) (ah 0))) ao)))
def Fk:∀O xs Pq QX,k9 O xs Pq QX->EA { nx:=λ_ O'=>Pq (.im .none) O',rt:=Pq } (bp OB xs) O:=by
 intro O xs Pq QX h;let⟨cs,s,rfl,s6,hs,h⟩:=h;conv=>whnf
 apply Hi (λj=>.int (cs.getD (s.getD j 0) 0)) (by rw[Zb,Zb];omega) (λj x Z hx hZ=>?_) ?_
 .obtain⟨hj,rfl,hm⟩:=Kf hx;exact⟨_,AQ (hs _ hm),hZ⟩
 .rw[Zb,Zb,Ae s 0 (λb=>cs.getD b 0)];exact⟨_,(),h⟩
def IE:FM:=λO xs P _=>∃(A:Γ3) (Pu:Δ1) (W:Γ1) (qs:Δ1),xs=[.im (fw A Pu W),.im (.tuple (qs.map qD))]/\qs.length=A.length/\A.length<=6/\(∀a∈A,1<=a/\a<=60)/\(∀z∈qs,Rb 293 z)/\P (.im (.list ((gL A qs).map qD))) O
abbrev Oy:Δ2:=Ψ8
def Uf:MS:=(cE (cL 2 [] (YQ (af (bB cO (ah 0) (mC (.int 0))) (af (ah 1) ao))) (kP 2 (aG (bm 0) (aG (bm 1) ck))) eC (aC (f2 pE) cb (af (gO (af (ah 0) (af (mC (.int 1)) ao))) (af (ah 1) ao)))))
def O0:∀O xs Pq QX,IE O xs Pq QX->Uf { nx:=λ_ O'=>Pq (.im .none) O',rt:=Pq } (bp Oy xs) O:=by
 intro O xs Pq QX h;let⟨A,Pu,W,qs,rfl,hl,g6,hA,hq,h⟩:=h;apply⟨_,(),by rw[Zb,Zb];omega,?_⟩;apply lA (λj=>qD (((A.getD j 0:Int):Rat)*qs.getD j 0)) (λj=>.int (A.getD j 0)) (λj=>qD (qs.getD j 0)) (by rw[ma,Zb];omega) (λi x hx=>?_) (λi Z hi hZ=>?_) ?_
 .obtain⟨hi,rfl⟩:=DZ hx;rw[Zb] at hi;rw[show(A.map PyData.int).getD i .none=.int (A.getD i 0) from mZ hi,show(qs.map qD).getD i .none=qD (qs.getD i 0) from mZ ⋯]
 .rw[ma,Zb] at hi;let ha:=hA (A.getD i 0) (by rw[ay (Zc hi)];exact Zv _);let hb:=hq (qs.getD i 0) (by rw[ay (Zc (show i<qs.length by omega))];exact Zv _);exact⟨jA,((A.getD i 0:Int):Rat),qs.getD i 0,(),⟨(iN (k:=6) (by unfold Bd;omega) ∅).mono ∅,hb.mono ∅⟩,hZ⟩
 .rw[ma,Zb];let e:(List.range A.length).map (λj=>qD (((A.getD j 0:Int):Rat)*qs.getD j 0))=(gL A qs).map qD:=by
   unfold gL;rw[Zp,hl];exact Xf λj _=>by show qD _=qD _;rw[Rat.mul_comm]
  rw[e];exact h
def ID:FM:=λO xs P _=>∃(ls:Δ1) (kb:Nat),xs=[.im (.list (ls.map qD))]/\ls.length<=12/\kb<=300/\(∀z∈ls,Rb kb z)/\∀(c:Int) (ms:Γ3),0<c->cR c ms ls->(∀m∈ms,Bd (13*kb+1) m)->P (.im (cy ms)) O
abbrev Ow:Δ2:=["parts","bottom","part"]
def Ue:MS:=(be (bH (mC (.int 1)) (bm 1))
 (be (l3 (cK (ah 0)) (bm 2) (bH (bB HV (bB Oe (ah 1) (aC DV cb (af (ah 1) (af (bB cO (ah 2) (mC (.int 1))) ao)))) (bB cO (ah 2) (mC (.int 1)))) (bm 1)))
 (cE (cL 1 [1] (cK (ah 0)) (bm 0) eC (bB HV (bB cO (ah 0) (mC (.int 0))) (bB Oe (ah 1) (bB cO (ah 0) (mC (.int 1)))))))))
def OZ:∀O xs Pq QX,ID O xs Pq QX->Ue { nx:=λ_ O'=>Pq (.im .none) O',rt:=Pq } (bp Ow xs) O:=by
 intro O xs Pq QX h;let⟨ls,kn,rfl,ll,k3,lb,iD⟩:=h;apply⟨?_⟩;conv=>whnf
 let lat:∀{j:Nat}{x:AV},((ls.map qD).map AV.im)[j]?=some x->j<ls.length/\x=.im (qD (ls.getD j 0))/\Rb kn (ls.getD j 0):=λ{j x} hx=>by
  let hj:j<ls.length:=by have:=(Zf.mp hx).1;simpa using this
  rw[Zo,mX (f:=qD) (d:=0) hj] at hx;exact⟨hj,(Option.some.inj hx).symm,lb _ (by rw[ay (Zc hj)];exact Zv _)⟩
 apply⟨λi sl O'=>O'=O/\∃(oQ:Int) (y4:Option AV),sl=[Φ9 (.list (ls.map qD)),Φ9 (.int oQ),y4]/\0<oQ/\Bd (kn*i+1) oQ/\∀j,j<i->((ls.getD j 0).den:Int)∣oQ,⟨(),1,none,(),∅,by rw[Nat.mul_zero];unfold Bd;decide,λj hj=>absurd hj ⋯⟩,?_,?_⟩
 .rintro i x sl O' hx ⟨rfl,oQ,y4,rfl,b0,bb,bd⟩;let⟨hi,rfl,hb⟩:=lat hx;let dp:(0:Int)<((ls.getD i 0).den:Int):=by have:=(ls.getD i 0).den_pos;omega
  let gp:(0:Int)<(Int.gcd oQ ((ls.getD i 0).den:Int):Int):=by have:=Qx oQ (show((ls.getD i 0).den:Int)≠0 by omega);omega
  let g1:(Int.gcd oQ ((ls.getD i 0).den:Int):Int)∣oQ:=Int.gcd_dvd_left ..;let g2:(Int.gcd oQ ((ls.getD i 0).den:Int):Int)∣((ls.getD i 0).den:Int):=Qy ..;generalize l':(Int.gcd oQ ((ls.getD i 0).den:Int):Int)=gg at gp g1 g2;let gb:Bd 8000 gg:=by
   apply(hb.2.mono (show kn<=8000 by omega)).le ?_;have:=Int.le_of_dvd dp g2;omega
  let⟨k,hk⟩:=g1;let k0:0<k:=by
   rcases Int.lt_or_le 0 k with z |z
   .exact z
   .have:gg*k<=0:=Int.mul_nonpos_of_nonneg_of_nonpos ⋯ z;omega
  let ek:oQ / gg=k:=by rw[hk,Int.mul_ediv_cancel_left _ ⋯]
  let kl:kn*i<=3600:=Qb k3 (show i<=12 by omega);let kb:Bd (kn*i+1) k:=bb.le (by
   have:k<=gg*k:=by
    have:=Int.mul_le_mul_of_nonneg_right (show 1<=gg by omega) (show 0<=k by omega)
    rwa [Int.one_mul] at this
   omega)
  apply⟨_,(),⟨by rw[l'];exact gp,by rw[l'];exact gb⟩,_,(),?_⟩;dsimp only;rw[l',ek];apply⟨⟨kb.mono ⋯,hb.2.mono ⋯⟩,(),_,_,(),Xd k0 dp,(kb.mul hb.2).mono (by rw[Nat.mul_succ];omega),λj hj=>?_⟩;rcases Z2 j i with y |y
  .let h1:=bd j y;let⟨m,hm⟩:=g2;have:k*((ls.getD i 0).den:Int)=oQ*m:=by rw[hm,hk];grind
   rw[this];exact Int.dvd_trans h1 (Int.dvd_mul_right _ _)
  .obtain rfl:j=i:=⋯;exact Int.dvd_mul_left _ _
 .rintro sl O' ⟨rfl,oQ,y4,rfl,b0,bb,bd⟩;rw[Zb,Zb] at bb bd;let kl:kn*ls.length<=kn*12:=Nat.mul_le_mul_left kn ll;let bdv:∀j,j<ls.length->Bd (kn*ls.length+1) (oQ / ((ls.getD j 0).den:Int)):=λj hj=>by
   let dp:(0:Int)<((ls.getD j 0).den:Int):=by have:=(ls.getD j 0).den_pos;omega
   apply bb.le ?_;let h1:=Int.ediv_nonneg (show 0<=oQ by omega) (show(0:Int)<=((ls.getD j 0).den:Int) by omega);let h2:=Int.ediv_le_self ((ls.getD j 0).den:Int) (show 0<=oQ by omega);omega
  apply⟨?_⟩;conv=>whnf
  apply Hi (λj=>.int ((ls.getD j 0).num*(oQ / ((ls.getD j 0).den:Int)))) (by rw[Zb,Zb];omega) (λj x Z hx hZ=>?_) ?_
  .obtain⟨hj,rfl,hb⟩:=lat hx;let dp:(0:Int)<((ls.getD j 0).den:Int):=by have:=(ls.getD j 0).den_pos;omega
   exact⟨_,(),_,(),⟨dp,hb.2.mono ⋯⟩,⟨hb.1.mono ⋯,(bdv j hj).mono ⋯⟩,hZ⟩
  rw[Zb,Zb,Ae ls 0 (λq:Rat=>q.num*(oQ / (q.den:Int)))];apply iD oQ _ b0 ⟨by simp,λj hj=>?_⟩ λm hm=>?_
  .rw[show(ls.map λq:Rat=>q.num*(oQ / (q.den:Int))).getD j 0=(ls.getD j 0).num*(oQ / ((ls.getD j 0).den:Int)) from mZ hj];let bj:=bd j hj;generalize ls.getD j 0=q at bj ⊢;let⟨k,hk⟩:=bj;let dp:(q.den:Int)≠0:=by have:=q.den_pos;omega
   rw[hk,Int.mul_ediv_cancel_left _ dp,Xx,Xx];let e:q=((q.num:Int):Rat) / ((q.den:Int):Rat):=by rw[<- X7];exact(Xl q).symm
   let dq:((q.den:Int):Rat)≠0:=λz=>dp (by exact_mod_cast z)
   let e2:q*((q.den:Int):Rat)=((q.num:Int):Rat):=by
    conv=>lhs;rw[e]
    grind
   rw[<- e2]
   grind
  .obtain⟨q,hq',rfl⟩:=Zd.mp hm;let⟨j,hj,rfl⟩:=Yq hq';let hb:=lb _ hq';have:=bdv j hj;rw[ay (Zc hj)] at this;exact(hb.1.mul this).mono ⋯
def wJ:FM:=λO xs P _=>∃(A:Γ3) (Pu:Δ1) (W:Γ1) (qs:Δ1) (kb:Nat),xs=[.im (fw A Pu W),.im (.tuple (qs.map qD))]/\qs.length=A.length/\A.length<=6/\Pu.length<=6/\(∀a∈A,1<=a/\a<=60)/\(∀z∈Pu,Rb 20 z)/\kb<=293/\20<=kb/\(∀z∈qs,Rb kb z)/\∀(c:Int) (ms ps:Γ3),0<c->cR c ms (gL A qs)->cR c ps Pu->(∀m∈ms,Bd (13*kb+79) m)->(∀m∈ps,Bd (13*kb+79) m)->P (.im (.tuple [cy ms,cy ps])) O
abbrev UV:Δ2:=["market","prices","coins","goods"]
def Uh:MS:=(be (bH (aC ID cb (af (bB j7 (aC IE cb (af (ah 0) (af (ah 1) ao))) (jZ Ik (af (bB cO (ah 0) (mC (.int 1))) ao))) ao)) (bm 2))
 (be (bH (jZ tX (af (bB cO (ah 0) (mC (.int 0))) ao)) (bm 3))
 (cE (gO (af (Ib (ah 2) Ih (Ia (ah 3))) (af (Ib (ah 2) (Ia (ah 3)) Ih) ao))))))
def Pa:∀O xs Pq QX,wJ O xs Pq QX->Uh { nx:=λ_ O'=>Pq (.im .none) O',rt:=Pq } (bp UV xs) O:=by
 intro O xs Pq QX h;let⟨A,Pu,W,qs,kn,rfl,hl,g6,n6,hA,hP,k3,k2,hq,h⟩:=h;let hAa:∀j,j<A.length->1<=A.getD j 0/\A.getD j 0<=60:=λj hj=>hA _ (by rw[ay (Zc hj)];exact Zv _)
 let ml:(gL A qs).length=qs.length:=by unfold gL;simp
 apply⟨A,Pu,W,qs,(),hl,g6,hA,λz hz=>(hq z hz).mono k3,_,(),by rw[Zb,Zb,ml,sz];omega,gL A qs++Pu,kn+6,by rw[Zs],by rw[Zu];omega,⋯,λz hz=>?_,λc ms hc hi hmb=>?_⟩
 .rcases Zw.mp hz with hz |hz
  .obtain⟨j,hj,rfl⟩:=Zd.mp hz;let hj:=Zh.mp hj;let ha:=hAa j ⋯;exact(jP (j:=kn) (k:=6) (hq _ (by rw[ay (Zc hj)];exact Zv _)) (iN (by unfold Bd;omega) ∅)).mono (Ze _)
  .exact(hP z hz).mono ⋯
 let⟨i1,i2⟩:=yh hi;let RN:ms.length=qs.length+Pu.length:=by rw[hi.1,Zu,ml]
 rw[ml] at i1 i2;let fi:=h c _ _ hc i1 i2 (λm hm=>(hmb m (List.mem_of_mem_take hm)).mono ⋯) λm hm=>(hmb m (List.mem_of_mem_drop hm)).mono ⋯
 apply⟨⟨_,(),⟨?_⟩⟩⟩;let hqm:(((A.map PyData.int).length:Nat):Int)=((qs.length:Nat):Int):=by rw[Zb,hl]
 let hto:=Gw (xs:=ms.map PyData.int) (r:=qs.length) (by rw[Zb];omega);let Lk:=qy (xs:=ms.map PyData.int) (r:=((qs.length:Nat):Int)) ⋯ (by rw[Zb];omega);rw[Z1] at Lk;show[PyData.list (cutD (ms.map .int) none (some (((A.map PyData.int).length:Nat):Int))),PyData.list (cutD (ms.map .int) (some (((A.map PyData.int).length:Nat):Int)) none)].length<=sizeLine/\Pq (.im (.tuple [PyData.list (cutD (ms.map .int) none (some (((A.map PyData.int).length:Nat):Int))),PyData.list (cutD (ms.map .int) (some (((A.map PyData.int).length:Nat):Int)) none)])) _;rw[hqm,hto,Lk];apply⟨jA,?_⟩;unfold cy at fi;rw[List.map_take,List.map_drop] at fi;exact fi
def bO (M:Γ1)(Pd:Γ3):Γ1:=M.map λr=>if (r.any λg=>Pd.contains g)=true then [] else r
def uv:FM:=λO xs P _=>∃(M:Γ1) (Pd:Γ3),xs=[.im (.tuple (M.map aP)),.im (aP Pd)]/\M.length<=6/\(∀i,i<M.length->(M.getD i []).length<=6)/\P (.im (.tuple ((bO M Pd).map aP))) O
abbrev OA:Δ2:=["best","paid"]
def L8:MS:=(cE (jZ lY (af (cL 1 [1] (cK (ah 0)) (bm 0) eC (SA (cV (jZ Ds (af (cL 1 [1] (cK (ah 0)) (bm 0) eC (bB (RJ false) (ah 0) (ah 1))) ao))) (gO ao) (ah 0))) ao)))
def Js:∀O xs Pq QX,uv O xs Pq QX->L8 { nx:=λ_ O'=>Pq (.im .none) O',rt:=Pq } (bp OA xs) O:=by
 intro O xs Pq QX h;let⟨M,Pd,rfl,n6,r6,h⟩:=h;conv=>whnf
 apply Hi (λi=>aP (if ((M.getD i []).any λg=>Pd.contains g)=true then [] else M.getD i [])) (by rw[Zb,Zb];omega) (λi x Z hx hZ=>?_) ?_
 .obtain⟨hi,rfl⟩:=hV hx;conv=>whnf
  apply EW (S:=Pd) (r6 i hi) (λj x Z hx hZ=>?_) ⟨_,(),?_⟩
  .obtain⟨hj,rfl⟩:=eX hx;exact⟨Pd,(),hZ⟩
  .show(List.any _ id=true->_)/\(List.any _ id=false->_);rw[any_map];apply⟨λhc=>⟨Im,?_⟩,λhc=>?_⟩
   .rw[if_pos hc] at hZ;exact hZ
   .rw[if_neg (by rw[hc];decide)] at hZ;exact hZ
 .rw[Zb,Zb,Hl (λr:Γ3=>aP (if (r.any λg=>Pd.contains g)=true then [] else r)) M []];unfold bO at h;rw[Zp] at h;exact h
def BR (hP:∀x∈Pd,0<=x)(hS:∀x∈S,0<=x):oZ (bO (ar W qs) Pd) S=loose W qs Pd S:=by
 unfold loose;rw[<- rZ (W:=W) (qs:=qs) hS,<- rZ (W:=W) (qs:=qs) hP];unfold oZ;let hl:(bO (ar W qs) Pd).length=(ar W qs).length:=by unfold bO;simp
 rw[hl,Qq];apply Y0 λi hi=>?_
 let hi:=Zh.mp hi;let e:(bO (ar W qs) Pd).getD i []=if (((ar W qs).getD i []).any λg=>Pd.contains g)=true then [] else (ar W qs).getD i []:=by unfold bO;exact mZ hi
 rw[e];let ec:((List.range (ar W qs).length).filter λi=>((ar W qs).getD i []).any λg=>Pd.contains g).contains i=((ar W qs).getD i []).any λg=>Pd.contains g:=by
  rw[Yb,Z9,Zg,Zh];exact⟨λh=>h.2,λh=>⟨hi,h⟩⟩
 rw[ec];cases ((ar W qs).getD i []).any λg=>Pd.contains g with
 |true=>rw[if_pos rfl];simp
 |false=>rw[if_neg ∅];simp
def zb:FM:=λO xs P _=>∃(qs:Δ1) (R:Γ3) (f:Rat),xs=[.im (.tuple (qs.map qD)),.im (aP R),.im (qD f)]/\qs.length<=6/\(∀z∈qs,Rb 3000 z)/\Rb 3000 f/\P (.im (.tuple (((List.range qs.length).map λg:Nat=>if R.contains (g:Int)=true then qs.getD g 0*f else qs.getD g 0).map qD))) O
abbrev Ot:Δ2:=["prices","rising","factor"]
def L4:MS:=(cE (jZ lY (af (cL 2 [2,1] (WC (af (ah 0) ao)) (kP 2 (aG (bm 0) (aG (bm 1) ck))) eC (SA (cV (bB (RJ false) (ah 0) (ah 3))) (aC (f2 pE) cb (af (ah 1) (af (ah 2) ao))) (ah 1))) ao)))
def Jo:∀O xs Pq QX,zb O xs Pq QX->L4 { nx:=λ_ O'=>Pq (.im .none) O',rt:=Pq } (bp Ot xs) O:=by
 intro O xs Pq QX h;let⟨qs,R,f,rfl,g6,hq,hf,h⟩:=h;let el:(cQ (qs.map qD)).length=qs.length:=by unfold cQ;simp
 apply lA (λi=>qD (if R.contains ((i:Nat):Int)=true then qs.getD i 0*f else qs.getD i 0)) (λi=>.int (i:Int)) (λi=>qD (qs.getD i 0)) (by rw[el];omega) (λi x hx=>?_) (λi Z hi hZ=>?_) ?_
 .obtain⟨hi,rfl⟩:=ji hx;rw[Zb] at hi;rw[show(qs.map qD).getD i .none=qD (qs.getD i 0) from mZ hi]
 .rw[el] at hi;let hb:=hq (qs.getD i 0) (by rw[ay (Zc hi)];exact Zv _);apply⟨R,(),λhc=>⟨qs.getD i 0,f,(),⟨hb,hf⟩,?_⟩,λhc=>?_⟩
  .let hc:R.contains ((i:Nat):Int)=true:=hc;rw[if_pos hc] at hZ;exact hZ
  .let hc:R.contains ((i:Nat):Int)=false:=hc;rw[if_neg (by rw[hc];decide)] at hZ;exact hZ
 .rw[el];rw[Zp] at h;exact h
def rV:FM:=λO xs P _=>∃L:Δ1,xs=[.im (.list (L.map qD))]/\L≠[]/\(∀z∈L,Rb 3000 z)/\∀f,jI L f->P (.im (qD f)) O
abbrev UU:Δ2:=["parts","found","part"]
def Ey:MS:=(be (bH (bB cO (ah 0) (mC (.int 0))) (bm 1))
 (be (l3 (cK (ah 0)) (bm 2) (jz (cV (aC lN cb (af (ah 2) (af (ah 1) ao)))) (bH (ah 2) (bm 1)) eF))
 (cE (ah 1))))
def Fi:∀O xs Pq QX,rV O xs Pq QX->Ey { nx:=λ_ O'=>Pq (.im .none) O',rt:=Pq } (bp UU xs) O:=by
 intro O xs Pq QX h;let⟨L,rfl,bv,hb,h⟩:=h;let h0:0<L.length:=Xi.mpr bv;let hm:∀i,i<L.length->L.getD i 0∈L:=λi hi=>by rw[ay (Zc hi)];exact Zv _
 apply⟨_,bT (i:=0) (mX (f:=qD) (d:=(0:Rat)) h0),?_⟩;apply⟨?_⟩;conv=>whnf
 apply⟨λi sl O'=>O'=O/\∃(f:Rat) (y:Option AV),sl=[Φ9 (.list (L.map qD)),Φ9 (qD f),y]/\f∈L/\∀z∈L.take i,f<=z,⟨(),_,_,(),hm 0 h0,λz hz=>(by cases hz)⟩,?_,?_⟩
 .rintro i x sl O' hx ⟨rfl,f,y,rfl,f1,f2⟩;let hi:i<L.length:=by have:=(Zf.mp hx).1;simpa using this
  rw[Zo,mX (f:=qD) (d:=(0:Rat)) hi] at hx;cases Option.some.inj hx;let ht:=RH (0:Rat) hi;apply⟨L.getD i 0,f,(),⟨hb _ (hm i hi),hb _ f1⟩,λhc=>⟨(),_,_,(),hm i hi,?_⟩,λhc=>⟨(),_,_,(),f1,?_⟩⟩
  .grind
  grind
 .rintro sl O' ⟨rfl,f,y,rfl,f1,f2⟩;rw[Zb,Zb,Yp] at f2;exact⟨h f ⟨f1,f2⟩⟩
def Fe (h:∀x∈S,0<=x):aP S=tW (az S):=by
 unfold aP tW az;rw[Zp]
 congr 1
 exact Xf λx hx=>by show PyData.int x=PyData.int ((x.toNat:Nat):Int);rw[Y8 (h x hx)]
def Jh (nd:ns.Nodup):(aT ns).filter (λS=>!S.isEmpty)=(aT ns).drop 1:=by
 let e0:aT ns=[]::(aT ns).drop 1:=ln ns;let h:∀S∈(aT ns).drop 1,(!S.isEmpty)=true:=λS hS=>by
  have:=(jo nd hS).2;cases S with
  |nil=>exact absurd rfl this
  |cons _ _=>rfl
 conv=>lhs;rw[e0]
 rw[Qu ∅,Qc.mpr h]
def ze:FM:=λO xs P _=>∃(A:Γ3) (Pu:Δ1) (W:Γ1) (qs:Δ1) (Pd:Γ3),xs=[.im (fw A Pu W),.im (.tuple (qs.map qD)),.im (.tuple ((bO (ar W qs) Pd).map aP)),.im (aP (aL A.length W Pd))]/\cA A Pu W qs/\Pd.Sublist (aD A.length W)/\P (.im (.list ((((aT (aL A.length W Pd)).drop 1).map (qV A Pu qs W Pd)).map qD))) O
abbrev Ou:Δ2:=["market","prices","loose","rising","money","purses"]
def L6:MS:=(be (bH (aC wJ cb (af (ah 0) (af (ah 1) ao))) (kP 2 (aG (bm 4) (aG (bm 5) ck))))
 (cE (cL 1 [2,4,5] (cK (aC uw cb (af (ah 3) ao))) (bm 0) (Dh (ah 0)) (aC IG cb (af (aC k9 cb (af (ah 3) (af (aC Dp cb (af (ah 1) (af (ah 0) ao))) ao))) (af (aC k9 cb (af (ah 2) (af (ah 0) ao))) ao))))))
def Jq:∀O xs Pq QX,ze O xs Pq QX->L6 { nx:=λ_ O'=>Pq (.im .none) O',rt:=Pq } (bp Ou xs) O:=by
 intro O xs Pq QX h;let⟨A,Pu,W,qs,Pd,rfl,rp,Nl,h⟩:=h;let pr:=rp.pr;let mf:=AR pr.ok;let hl:=pr.len;let g6:=mf.g6;let n6:=mf.n6;let wl:=mf.wl;let hR:(aL A.length W Pd).Sublist (aD A.length W):=Z4;let Nk:(aL A.length W Pd).Nodup:=(CP A.length W).sublist hR;let CZ:(aL A.length W Pd).length<=6:=by have:=hR.length_le;have:=K5 A.length W;omega
 apply⟨A,Pu,W,qs,293,(),hl,g6,n6,mf.am,λz hz=>(mf.pu z hz).2,Ze _,∅,pr.bd,λc ms ps hc im ip imb _=>?_⟩;let mm:(gL A qs).length=qs.length:=by unfold gL;simp
 let iml:ms.length=A.length:=by rw[im.1,mm,hl]
 let ipl:ps.length=Pu.length:=ip.1;apply⟨(),⟨_,(),CZ,?_⟩⟩;conv=>whnf
 let ajm:(aT (aL A.length W Pd)).length<=64:=by rw[RG];exact Y9 (n:=2) ∅ CZ
 apply gH (λj=>!((aT (aL A.length W Pd)).getD j []).isEmpty) (λj=>qD (qV A Pu qs W Pd ((aT (aL A.length W Pd)).getD j []))) (by rw[Zb,Zb];omega) (λj x Z hx hZ=>?_) (λj x Z hx qL hZ=>?_) ?_
 .obtain⟨hj,rfl⟩:=hV hx;apply⟨(),?_⟩;show Z (!_) O;rw[Jb];exact hZ
 .obtain⟨hj,rfl⟩:=hV hx;let hS:(aT (aL A.length W Pd)).getD j []∈aT (aL A.length W Pd):=by rw[ay (Zc hj)];exact Zv _
  generalize (aT (aL A.length W Pd)).getD j []=S at hS hZ qL ⊢;let S7:S≠[]:=λz=>by rw[z] at qL;cases qL
  let hSr:=bV.mp hS;let hs:=hSr.trans hR;let hsl:S.length<=6:=by have:=hSr.length_le;omega
  let hs0:∀x∈S,0<=x:=λx hx=>(eR (hs.subset hx)).1
  let SO:∀x∈Pd,0<=x:=λx hx=>(eR (Nl.subset hx)).1
  let lol:(bO (ar W qs) Pd).length=W.length:=by unfold bO;rw[Zb,Hj]
  let lor:∀i,i<(bO (ar W qs) Pd).length->((bO (ar W qs) Pd).getD i []).length<=6:=λi hi=>by
   let kN:i<W.length:=⋯;let e:(bO (ar W qs) Pd).getD i []=if (((ar W qs).getD i []).any λg=>Pd.contains g)=true then [] else (ar W qs).getD i []:=by unfold bO;exact mZ (by rw[Hj];exact kN)
   rw[e];split
   .exact Z7 _
   .exact Zl (on kN (mf.wr i kN)) g6
  let mS:=rp.money hs S7;let um:(((A4 ms (az S):Int)):Rat)=(c:Rat)*dD A qs (az S):=kF im λi hi=>by
   let⟨x,hx,rfl⟩:=Zd.mp hi;have:=(eR (hs.subset hx)).2.1;omega
  let tm:(((A4 ps (loose W qs Pd S):Int)):Rat)=(c:Rat)*aY Pu (loose W qs Pd S):=kF ip λi hi=>by
   have:=ou (Zg.mp hi).1;omega
  let u0:0<A4 ms (az S):=by
   have:(0:Rat)<((A4 ms (az S):Int):Rat):=by rw[um];exact Yd (Xa.mpr hc) mS
   exact Xa.mp this
  let ub:Bd 8000 (A4 ms (az S)):=by
   apply(Rf (k:=4000) (λx hx=>?_) ?_).mono ∅
   .obtain⟨i,hi,rfl⟩:=Zd.mp hx;let⟨y,hy,rfl⟩:=Zd.mp hi;have:=(eR (hs.subset hy)).2.1;exact(imb _ (by rw[ay (Zc (show y.toNat<ms.length by omega))];exact Zv _)).mono ∅
   .unfold az;rw[Zb,Zb];exact hsl
  apply⟨bO (ar W qs) Pd,S,(),⋯,lor,ps,oZ (bO (ar W qs) Pd) S,(),?_,?_,ms,az S,?_,?_,?_,⟨⋯,ub⟩,?_⟩
  .unfold oZ;apply Zl (Yv _ _) ?_;rw[Y3];omega
  .intro i hi;have:=Zh.mp (Zg.mp hi).1;omega
  .rw[<- Fe hs0];rfl
  .unfold az;rw[Zb];exact hsl
  .intro i hi;let⟨x,hx,rfl⟩:=Zd.mp hi;have:=(eR (hs.subset hx)).2.1;omega
  .rw[BR SO hs0,B9 hc tm um mS];exact hZ
 .rw[Zb,Zb,Gq (aT (aL A.length W Pd)) [] (λS=>!S.isEmpty) (λS=>qD (qV A Pu qs W Pd S)),Jh Nk];rw[Zp] at h;exact h
def rT:FM:=λO xs P _=>∃(A:Γ3) (Pu:Δ1) (W:Γ1) (qs:Δ1) (Pd:Γ3),xs=[.im (fw A Pu W),.im (.tuple (qs.map qD)),.im (.tuple ((bO (ar W qs) Pd).map aP)),.im (aP Pd)]/\cA A Pu W qs/\Pd.Sublist (aD A.length W)/\P (.im (.list ((iw W qs Pd W.length).map qD))) O
abbrev Ox:Δ2:=["market","prices","loose","paid"]
def Ex:MS:=(cE (xi 3 [3,1] (YQ (af (bB cO (ah 0) (mC (.int 2))) (af (ah 2) ao))) (kP 2 (aG (bm 0) (aG (bm 1) ck))) (Dh (ah 1)) (cK (ah 3)) 2 (cV (bB G8 (bB cO (ah 0) (ah 2)) (mC (.int 0)))) (aC UI cb (af (aC DT cb (af (bB cO (ah 0) (bB cO (ah 1) (mC (.int 0)))) (af (bB cO (ah 4) (bB cO (ah 1) (mC (.int 0)))) ao))) (af (aC DT cb (af (bB cO (ah 0) (ah 2)) (af (bB cO (ah 4) (ah 2)) ao))) ao)))))
def lr (i:Nat):iw W qs Pd (i+1)=iw W qs Pd i++(if !(fz W qs (az Pd)).contains i&&!((ar W qs).getD i []).isEmpty then kT (W.getD i []) qs Pd (((ar W qs).getD i []).getD 0 0).toNat else []):=by
 unfold iw;rw[Xc,List.flatMap_append,List.flatMap_singleton]
def zD:(kT row qs Pd b).length<=Pd.length:=by
 unfold kT;rw[Zb];exact Yv _ _
def uX (h:Pd.length<=6)(m:Nat):(iw W qs Pd m).length<=6*m:=by
 induction m with
 |zero=>exact Ze _
 |succ m ih =>
  rw[lr,Zu];let h5:(if (!(fz W qs (az Pd)).contains m&&!((ar W qs).getD m []).isEmpty)=true then kT (W.getD m []) qs Pd (((ar W qs).getD m []).getD 0 0).toNat else []).length<=6:=by
   split
   .exact Zl zD h
   .exact Z7 _
  omega
def E5 {Pd:Γ3}(hj:j<Pd.length):kT row qs (Pd.take (j+1)) b=kT row qs (Pd.take j) b++(if 0<row.getD (Pd.getD j 0).toNat 0 then [bW row qs b / bW row qs (Pd.getD j 0).toNat] else []):=by
 unfold kT;rw[RH (0:Int) hj,Xj,Zs]
 grind
def Fh:∀O xs Pq QX,rT O xs Pq QX->Ex { nx:=λ_ O'=>Pq (.im .none) O',rt:=Pq } (bp Ox xs) O:=by
 intro O xs Pq QX h;let⟨A,Pu,W,qs,Pd,rfl,rp,Nl,h⟩:=h;let pr:=rp.pr;let mf:=AR pr.ok;let hl:=pr.len;let g6:=mf.g6;let n6:=mf.n6;let wl:=mf.wl;let ZI:Pd.length<=6:=by have:=Nl.length_le;have:=K5 A.length W;omega
 let lol:(bO (ar W qs) Pd).length=W.length:=by unfold bO;rw[Zb,Hj]
 let WJ:∀j,j<qs.length->Rb 293 (qs.getD j 0):=λj hj=>pr.bd _ (by rw[ay (Zc hj)];exact Zv _)
 apply⟨_,(),by rw[Zb,Zb,lol];exact Ze _,?_⟩;apply⟨λi ds O'=>O'=O/\ds=(iw W qs Pd i).map qD,⟨(),()⟩,?_,?_⟩
 .rintro i x ds Oz hx ⟨rfl,rfl⟩;let⟨hi,rfl⟩:=DZ hx;rw[Zb] at hi;let e1:(W.map aP).getD i .none=aP (W.getD i []):=mZ hi;let e2:((bO (ar W qs) Pd).map aP).getD i .none=aP ((bO (ar W qs) Pd).getD i []):=mZ ⋯;rw[e1,e2];let elo:(bO (ar W qs) Pd).getD i []=if (((ar W qs).getD i []).any λg=>Pd.contains g)=true then [] else (ar W qs).getD i []:=by unfold bO;exact mZ (by rw[Hj];exact hi)
  let etk:(fz W qs (az Pd)).contains i=((ar W qs).getD i []).any λg=>Pd.contains g:=by
   rw[SD hi];have:=rZ (W:=W) (qs:=qs) (S:=Pd) λx hx=>(eR (Nl.subset hx)).1
   let h2:(oZ (ar W qs) Pd).contains i=(fz W qs (az Pd)).contains i:=by rw[this]
   rw[SD hi] at h2;rw[<- h2,Yb,Z9];unfold oZ;rw[Zg,Zh,Hj];exact⟨λh=>h.2,λh=>⟨hi,h⟩⟩
  apply⟨(),(),?_⟩;show((!(((bO (ar W qs) Pd).getD i []).map PyData.int).isEmpty)=true->_)/\((!(((bO (ar W qs) Pd).getD i []).map PyData.int).isEmpty)=false->_);rw[Jb];let ec:(!((bO (ar W qs) Pd).getD i []).isEmpty)=(!(fz W qs (az Pd)).contains i&&!((ar W qs).getD i []).isEmpty):=by
   rw[elo,etk];cases ((ar W qs).getD i []).any λg=>Pd.contains g with
   |true=>rw[if_pos rfl];rfl
   |false=>rw[if_neg ∅];rfl
  apply⟨λhc=>?_,λhc=>⟨(),?_⟩⟩
  .rw[ec] at hc;let G5:=(Z8 _ _).mp hc;let hnt:(((ar W qs).getD i []).any λg=>Pd.contains g)=false:=by
    rw[<- etk];cases h5:(fz W qs (az Pd)).contains i with
    |true=>rw[h5] at G5;exact absurd G5.1 ∅
    |false=>rfl
   rw[elo,hnt,if_neg ∅];let bv:0<((ar W qs).getD i []).length:=by
    cases hb:(ar W qs).getD i [] with
    |nil=>rw[hb] at G5;exact absurd G5.2 ∅
    |cons _ _=>simp
   let G7:((ar W qs).getD i []).getD 0 0∈(ar W qs).getD i []:=by rw[ay (Zc bv)];exact Zv _
   rw[AS hi] at G7;let⟨b,hb,eb⟩:=Zd.mp G7;rw[<- AS hi] at eb;let⟨oX,oP⟩:=sL mf pr.kM hl hi hb;let ba:fY (((ar W qs).getD i []).map PyData.int) 0=some (.int (b:Int)):=by
    have:=AQ bv;rw[<- eb] at this;exact this
   let ajc:=mf.wr i hi;let wb:=mf.w0 i b hi oX;let msu:=lr (W:=W) (qs:=qs) (Pd:=Pd) i;rw[hc,if_pos rfl,<- eb,Z1] at msu;let qb:fY (qs.map qD) (b:Int)=some (qD (qs.getD b 0)):=bT (mX (f:=qD) (d:=(0:Rat)) ⋯);apply⟨(),λj es O'=>O'=Oz/\es=(iw W qs Pd i++kT (W.getD i []) qs (Pd.take j) b).map qD/\j<=6,⟨(),?_,⋯⟩,λj es O' ⟨_,h2,h3⟩=>?_,?_,?_⟩
   .show _=(iw W qs Pd i++[]).map qD;rw[Ym]
   .rw[h2,Zb,Zu];let h4:=uX (W:=W) (qs:=qs) ZI i;let h5:=zD (row:=W.getD i []) (qs:=qs) (Pd:=Pd.take j) (b:=b);rw[Yz] at h5;omega
   .rintro j y es O' hy ⟨rfl,rfl,hj6⟩;let⟨hj,rfl⟩:=eX hy;let⟨p0,p1,p2⟩:=rp.pos (Nl.subset (show Pd.getD j 0∈Pd by rw[ay (Zc hj)];exact Zv _));let wg:=mf.w0 i (Pd.getD j 0).toNat hi ⋯;let ra:fY ((W.getD i []).map PyData.int) (Pd.getD j 0)=some (.int ((W.getD i []).getD (Pd.getD j 0).toNat 0)):=aa4 p0 ⋯;let qa:fY (qs.map qD) (Pd.getD j 0)=some (qD (qs.getD (Pd.getD j 0).toNat 0)):=by
     have:=bT (mX (f:=qD) (d:=(0:Rat)) p1)
     rwa [Y8 p0] at this
    let ts:=E5 (row:=W.getD i []) (qs:=qs) (b:=b) hj;apply⟨_,ra,λhg=>?_,λhg=>⟨(),?_,⋯⟩⟩
    .let hg:0<(W.getD i []).getD (Pd.getD j 0).toNat 0:=of_decide_eq_true hg;let r1:=kz (row:=W.getD i []) wb (WJ b ⋯) oP;let r2:=kz (row:=W.getD i []) wg (WJ _ p1) p2;let TV:0<bW (W.getD i []) qs (Pd.getD j 0).toNat:=by unfold bW;exact tH (Xa.mpr hg) p2
     apply⟨_,ba,_,AQ ⋯,_,ba,_,qb,_,qs.getD b 0,(),⟨(WJ b ⋯).mono ∅,oP,wb.1,wb.2⟩,_,ra,_,qa,_,qs.getD (Pd.getD j 0).toNat 0,(),⟨(WJ _ p1).mono ∅,p2,wg.1,wg.2⟩,bW (W.getD i []) qs b,bW (W.getD i []) qs (Pd.getD j 0).toNat,(),⟨r1.mono ∅,r2.mono ∅,λz=>by rw[z] at TV;exact absurd TV ∅⟩,(),?_,⋯⟩;rw[ts,if_pos hg,<- Ys,Zs (l₁:=iw W qs Pd i++kT (W.getD i []) qs (Pd.take j) b)];rfl
    .let hg:¬ 0<(W.getD i []).getD (Pd.getD j 0).toNat 0:=of_decide_eq_false hg;rw[ts,if_neg hg,Ym]
   .rintro es O' ⟨rfl,rfl,_⟩;rw[Zb,Zb,Yp];exact⟨(),by rw[msu]⟩
  .rw[ec] at hc;rw[lr,hc,if_neg ∅,Ym]
 .rintro ds O' ⟨rfl,rfl⟩;rw[ma,Zb];exact h
def pQ:FM:=λO xs P _=>∃(A:Γ3) (Pu:Δ1) (W:Γ1) (qs:Δ1),xs=[.im (fw A Pu W),.im (.tuple (qs.map qD))]/\cA A Pu W qs/\l7 A Pu qs W A.length/\(∀Pd,cC A Pu qs W A.length Pd->aL A.length W Pd=[]->P (.im .none) O) /\
 ∀Pd f,cC A Pu qs W A.length Pd->aL A.length W Pd≠[]->jI (iy A Pu qs W A.length Pd) f->P (.im (.tuple [aP Pd,qD f,.tuple ((dS qs Pd f).map qD)])) O
abbrev Oq:Δ2:=["market","prices","paid","rising","best","paying","meeting","factor"]
def LZ:MS:=(be (bH (aC fPG cb (af (ah 0) (af (ah 1) ao))) (bm 2))
 (be (bH (jZ lY (af (cL 1 [2] (cK (aC Dn cb (af (ah 0) ao))) (bm 0) (cV (bB (RJ true) (ah 0) (ah 1))) (ah 0)) ao)) (bm 3))
 (be (jz (Ig (Dh (ah 3))) (cE (mC .none)) eF)
 (be (bH (aC xq cb (af (ah 0) (af (ah 1) ao))) (bm 4))
 (be (bH (aC ze cb (af (ah 0) (af (ah 1) (af (aC uv cb (af (ah 4) (af (ah 2) ao))) (af (ah 3) ao))))) (bm 5))
 (be (bH (aC rT cb (af (ah 0) (af (ah 1) (af (aC uv cb (af (ah 4) (af (ah 2) ao))) (af (ah 2) ao))))) (bm 6))
 (be (bH (aC rV cb (af (bB j7 (ah 5) (ah 6)) ao)) (bm 7))
 (cE (gO (af (ah 2) (af (ah 7) (af (aC zb cb (af (ah 1) (af (ah 3) (af (ah 7) ao)))) ao))))))))))))
def Jn:∀O xs Pq QX,pQ O xs Pq QX->LZ { nx:=λ_ O'=>Pq (.im .none) O',rt:=Pq } (bp Oq xs) O:=by
 intro O xs Pq QX h;let⟨A,Pu,W,qs,rfl,rp,d9,hn,hf⟩:=h;let pr:=rp.pr;let mf:=AR pr.ok;let hl:=pr.len;let g6:=mf.g6;let n6:=mf.n6;let n1:=mf.n1;let wl:=mf.wl;apply⟨A,Pu,W,qs,(),pr,d9,λPd pd=>?_⟩;apply⟨A,Pu,W,(),g6,⋯,mf.wr,?_⟩;conv=>whnf
 apply gH (λj=>!Pd.contains ((ud A.length W).getD j 0)) (λj=>.int ((ud A.length W).getD j 0)) (by rw[Zb,Zb];have:=K5 A.length W;exact Zl this ⋯) (λj x Z hx hZ=>?_) (λj x Z hx _ hZ=>?_) ?_
 .obtain⟨hj,rfl⟩:=eX hx;exact⟨Pd,(),hZ⟩
 .obtain⟨hj,rfl⟩:=eX hx;exact hZ
 rw[Zb,Zb,Gp (ud A.length W) (λx=>!Pd.contains x)];apply⟨(),?_⟩;show((!(!((aL A.length W Pd).map PyData.int).isEmpty))=true->_)/\((!(!((aL A.length W Pd).map PyData.int).isEmpty))=false->_);rw[Bool.not_not,Jb];apply⟨λe=>hn Pd pd (List.isEmpty_iff.mp e),λe=>?_⟩;let hrn:aL A.length W Pd≠[]:=λz=>by rw[z] at e;cases e
 let hbl:(ar W qs).length<=6:=by rw[Hj];omega
 let WO:∀k,k<(ar W qs).length->((ar W qs).getD k []).length<=6:=λk hk=>by rw[Hj] at hk;exact Zl (on hk (mf.wr k hk)) g6
 let ZI:Pd.length<=6:=by have:=pd.sub.length_le;have:=K5 A.length W;omega
 let hR:(aL A.length W Pd).Sublist (aD A.length W):=Z4;let CZ:(aL A.length W Pd).length<=6:=by have:=hR.length_le;have:=K5 A.length W;omega
 apply⟨A,Pu,W,qs,(),pr,⟨ar W qs,Pd,(),hbl,WO,A,Pu,W,qs,Pd,(),rp,pd.sub,⟨ar W qs,Pd,(),hbl,WO,A,Pu,W,qs,Pd,(),rp,pd.sub,?_⟩⟩⟩;let S1:=Aw (A:=A) (Pu:=Pu) (qs:=qs) hrn;let hfb:=Fm rp pd.sub;let RN:=uX (W:=W) (qs:=qs) ZI W.length;apply⟨by
  rw[Zb,Zb,Zb,Qo,RG,sz];have:2 ^ (aL A.length W Pd).length<=64:=Y9 (n:=2) ∅ CZ;omega,iy A Pu qs W A.length Pd,by unfold iy;rw[Zs],S1,hfb,λf Uu=>?_⟩
 apply⟨qs,aL A.length W Pd,f,(),⋯,λz hz=>(pr.bd z hz).mono ∅,hfb f Uu.1,Uo,?_⟩;let er:(List.range qs.length).map (λg:Nat=>if (aL A.length W Pd).contains (g:Int)=true then qs.getD g 0*f else qs.getD g 0)=dS qs Pd f:=by
  unfold dS;apply Xf λg hg=>?_
  let hg:=Zh.mp hg;let hwm:((g:Int)∈aD A.length W)↔has W g=true:=by
   unfold aD aB;rw[Zd];constructor
   .rintro⟨x,hx,e⟩;have:x=g:=⋯;rw[<- this];exact(Zg.mp hx).2
   .intro hh;exact⟨g,Zg.mpr ⟨Zh.mpr ⋯,hh⟩,()⟩
  by_cases hp:Pd.contains (g:Int)=true
  .let hr:¬ (aL A.length W Pd).contains (g:Int)=true:=λz=>by
    have:=(Zg.mp (Z9.mp z)).2;rw[hp] at this;cases this
   rw[if_pos hp,if_neg hr]
  .rw[if_neg hp];by_cases hh:has W g=true
   .let hr:(aL A.length W Pd).contains (g:Int)=true:=Z9.mpr (Zg.mpr ⟨hwm.mpr hh,by simpa using hp⟩);rw[if_pos hr]
   .let hq0:=pr.kM.nil g hg (by simpa using hh);rw[hq0,Xw];split<;>rfl
 rw[er];exact hf Pd f pd hrn Uu
end MI
namespace L2
open PySem.Spec PyProof.Rows KG
section
def Bh (K:Θ1)(a:Addr):It :=
 ⟨λi H=>∃xs x,bG K H a xs/\xs[i]?=some x,λi H x H'=>∃p,H p=none/\x=.ref p/\∀xs,bG K H a xs->∃y,xs[i]?=some y/\H'=aQ H p (.tup [.int i,y]),λi H=>∃xs,bG K H a xs/\xs.length<=i⟩
def xC {K:Θ1}(a e it:Addr)(Nh:e≠it):Turn P w K (.Tuple t9 kk pos) (Bh K a) [e,it] e (λi h=>(∃old,IsEnum h e it (i:Nat) old)/\h.IsListIter it a i) where
 mem:=by simp
 obj:=λi h st b hb=>by
  let⟨⟨old,he⟩,o,e1,c,d⟩:=st;rcases Zk.mp hb with rfl |hb
  .exact⟨_,he,λv z=>by cases z⟩
  .obtain rfl:b=it:=by simpa using hb
   exact⟨o,e1,λv z=>by rw[d] at z;cases z⟩
 keep:=λi h h' st k=>by
  let⟨⟨old,he⟩,o,e1,c,d⟩:=st;exact⟨⟨old,k e (by simp) _ he⟩,o,k it (by simp) _ e1,c,d⟩
 item:=by
  intro X hP hw hK hc i ae s σ H E I hf st hg;subst hP hw hK;let⟨xs,x,hq,hx⟩:=hg;let⟨its,rv,p,hz⟩:=I.list hq;let⟨u,hu,ru⟩:=rv.get hx;let⟨⟨old,he⟩,fE⟩:=st;let pt:s.heap.IsList a its.toArray:=p.isList;let δ:e≠a:=λz=>by
   let⟨o,e1,c,_⟩:=pt;rw[<- z,he] at e1;cases e1;exact absurd (show Value.type "enumerate"=Value.type "list" from c) ∅
  let S6:a≠it:=λz=>by
   let⟨o,e1,c,_⟩:=pt;let⟨o',e2,c',_⟩:=id fE;rw[z,e2] at e1;cases e1;rw[c] at c';exact absurd c' ∅
  let cD:i<its.toArray.size:=by simpa using(Zf.mp hu).1
  let D:=Draws.list (prog:=X.prog) (w:=X.w) (A:=X.A.in1) (I.ok.hd hc) it a S6 its.toArray;apply wpAny_pyNext_enum_itemD D he ⟨fE,pt⟩ cD Nh (by simp[Nh,δ]) λy h' tk hP G3 m4 ht hsz hk=>?_
  let hy:y=u:=by
   let hP:its.toArray[i]?=some y:=hP;rw[List.getElem?_toArray,hu] at hP;exact(Option.some.inj hP).symm
  subst hy;apply⟨_,(),?_⟩;apply wpAny_letOwnedTupleGo_enum G3 λh2 F' oN=>?_
  replace oN:Heap.SameBut e h' h2:=oN
  let bv:s.heap.objs.size≠e:=Xr (Zr he);let I1:Inv X ae σ H { s with heap:=h2,toks:=tk+1 }:=I.jd (ch:=[e,it]) (λb o hb q=>by
   let b1:b≠e:=λz=>hb (by simp[z])
   let b2:b≠it:=λz=>hb (by simp[z])
   exact oN.extBut b o b1 (hk b o b1 b2 q)) hf
  let M8:=oN.extBut _ _ bv ht;let fp:eQ X ae H s.heap.objs.size:=I.jC (Ze _) I.fresh;let I2:=I1.Dx (p:=s.heap.objs.size) (o:=.tup [.int i,x]) fp ⟨by show 2<=sizeLine;decide,[.int i tk,y],.cons ⟨tk,()⟩ (.cons ru .nil),⟨_,M8,(),_,()⟩⟩;apply⟨.ref s.heap.objs.size,_,I2,(),⟨_,I.fresh,(),λys hy=>by rw[I.u3 hy hq];exact⟨x,hx,()⟩⟩,⟨⟨_,F'⟩,?_⟩,λb hb=>?_⟩
  .obtain⟨⟨o,e1,c,d⟩,_⟩:=m4;exact⟨o,oN.extBut _ _ (Ne.symm Nh) e1,c,d⟩
  .rw[dg]
   .exact(hf b hb).1
   .rcases Zk.mp hb with rfl |hb
    .exact bv.symm
    .obtain rfl:b=it:=by simpa using hb
     let⟨o,e1,_⟩:=fE;exact Ye (Zr e1)
 done:=by
  intro X hP hw hK hc i ae s σ H E I hf st hg;subst hP hw hK;let⟨xs,hq,hx⟩:=hg;let⟨its,rv,p,hz⟩:=I.list hq;let⟨⟨old,he⟩,fE⟩:=st;let pt:s.heap.IsList a its.toArray:=p.isList;let S6:a≠it:=λz=>by
   let⟨o,e1,c,_⟩:=pt;let⟨o',e2,c',_⟩:=id fE;rw[z,e2] at e1;cases e1;rw[c] at c';exact absurd c' ∅
  let hl:=rv.length;let hT:s.TypeIs (.ref e) "enumerate":=⟨_,he,()⟩;unfold pyNext;apply Za (wpAny_attempt (wpAny_callSpecial?_slot (name:=Str.ofString "__next__") hT F.slot_enumerate_next
   (wpAny_call_entry F.slot_enumerate_next hT F.entry_enumerate_next ?_ (F.args_enumerate_next_1 _))))
  show wpAny _ _ (field (.ref e) 2 >>= _) _ _ _;apply Za (wpAny_field he rfl (x:=.ref it) rfl ?_);apply Za (wpAny_nextOf_list_end (A:=X.A.in1) (I.ok.hd hc) fE pt (by simp;omega) λh' ex K' vS=>?_);let⟨o,ho,qL⟩:=vS;apply Za (wpAny_isInstance (T:="StopIteration") (b:=true) ⟨o,ho,qL⟩ isSubtype_stop ?_);exact wpAny_pure ⟨(),I.jd (t':=s.toks) (ch:=[it]) (λb o hb q=>K' b o (λz=>hb (by simp[z])) q) (λb hb=>hf b (Zj _ hb))⟩
 self:=λA i s Q E st h=>by
  let⟨⟨old,he⟩,_⟩:=st;exact wpAny_pyIter_enum he h
def QQ (K:Θ1)(ta:TA):TI:=λσ H R=>ta σ H λvs H1=>∃a,vs=[.ref a]/\(∃xs,bG K H1 a xs)/\R (Bh K a) H1
def FZ {K:Θ1}:(Bh K a).Le (Bh K0 a):=⟨λi H ⟨xs,x,h,e⟩=>⟨xs,x,h.k0,e⟩,λi H x H' ⟨p,e1,e2,h⟩=>⟨p,e1,e2,λxs hx=>h xs hx.k0⟩,λi H ⟨xs,h,e⟩=>⟨xs,h.k0,e⟩⟩
def Fy {p pos:Pos}(hg:Gl X "enumerate")(hm:X.mg "enumerate"=none)(hb:bootBuiltins "enumerate"=some (.type "enumerate"))(ha:PA X [a] ta)(hs:starEach [a] X.env=[(false,eval a X.env)]:=by rfl) :
  PI X (.Tuple t9 kk qQ) (.Call (.Name "enumerate" p) [a] [] pos) (QQ K0 ta):=by
 intro ae s σ H R I h;apply Call_ (gh I hg hm hb (PyProof.Rows.callWith_type1 (bE (ha pos ae s σ H _ I h) λus s1 ⟨vs,H1,I1,r1,t,e,⟨xs,hq⟩,q⟩=>?_) hs rfl));subst e;let⟨u,rfl,ru⟩:=vals1 r1;cases ru;let⟨its,rv,pl,hz⟩:=I1.list hq.k0;apply call_enumerate_list (show s1.heap.IsList t its.toArray from pl.isList) λh' he Nd hsz hk=>wpAny_pyIter_enum he ?_
 apply⟨s1.heap.objs.size+1,[s1.heap.objs.size+1,s1.heap.objs.size],_,Bh K0 t,H1,(),I1.kept (t':=s1.toks) hk,(xC (K:=X.K) t _ s1.heap.objs.size (Nat.succ_ne_self _)).le FZ,⟨⟨_,he⟩,Nd⟩,λb hb=>?_,q⟩;rcases Zk.mp hb with rfl |hb
 .exact I1.jC (Xt _) (I1.cc.fresh (Xt _))
 .obtain rfl:b=s1.heap.objs.size:=by simpa using hb
  exact I1.jC (Ze _) I1.fresh
def Cg (hc:X.calm=true):cn X (.builtin "min") (λxs H Q=>∃(p:Addr) (ns:Γ3),xs=[.ref p]/\(bG X.K H p (ns.map V.int)\/aK X.K H p (ns.map V.int))/\ns≠[]/\∀m,m∈ns->(∀n∈ns,m<=n)->Q (.int m) H):=by
 intro ae s σ H xs us Q I r h;let⟨p,ns,rfl,hs,bv,q⟩:=h;let⟨u,rfl,ru⟩:=vals1 r;cases ru;apply call_min_walk (gE I (A:=X.A.in1) (I.ok.hd hc) hs λit fp wr its St s2 rv W st CW hk=>?_);let hl:its.length=ns.length:=by rw[<- rv.length,Zb]
 let eP:0<ns.length:=Xi.mpr bv;let val:∀(i:Nat) (v:Value),its[i]?=some v->∃t,v=Value.int ((ns[i]?).getD 0) t:=λi v hv=>by
  let⟨x,ex,rx⟩:=rv.at hv;rw[Zo] at ex;cases e:ns[i]? with
  |none=>rw[e] at ex;cases ex
  |some n =>
   rw[e] at ex;cases ex;exact rx
 apply⟨it,fp,wr,its.length,_,St,(λi j=>decide ((ns[i]?).getD 0<(ns[j]?).getD 0)),(),W,st,CW,⋯,CmpOf.ints_lt (λi=>(ns[i]?).getD 0) val,λv h' tk hP kk=>?_⟩;let⟨t,rfl⟩:=val _ _ hP;let⟨h1,h2⟩:=argBest_lt (λi=>(ns[i]?).getD 0) (its.length-1);let cD:argBest (λi j=>decide ((ns[i]?).getD 0<(ns[j]?).getD 0)) (its.length-1)<ns.length:=by
  omega
 apply⟨.int _,H,hk h' tk kk,⟨t,()⟩,q _ ?_ λn hn=>?_⟩
 .rw[Zc cD];exact Zv cD
 .obtain⟨i,hi,e⟩:=Qg.mp hn;have:=h2 i ⋯;simp only[Zc hi,Xz] at this;rw[<- e];exact this
def LN:List V->Hp->VK->Prop:=λxs H Q=>∃(p:Addr) (ns:Γ3),xs=[.ref p]/\(bG K0 H p (ns.map V.int)\/aK K0 H p (ns.map V.int))/\ns≠[]/\∀m,m∈ns->(∀n∈ns,m<=n)->Q (.int m) H
def Wa (hc:X.calm=true):cn X (.builtin "min") LN:=(Cg hc).imp λ_ _ _ ⟨p,ys,e,h,q⟩=>⟨p,ys,e,Sq.k0 h,q⟩
end
end L2
namespace MI
open L2 KG EX KM
section
def vE (t:ci (G w O H) (.ref a) (.list ds)):lP K (Bh K0 a) w O H (cQ ds):=λO2 w2 H2 e r i=>by
 cases ci.ak e.ak t with |lst h1 t1=>?_
 rename_i xs;let hh:=(fc h1).1;unfold cQ;apply⟨λx hx=>?_,λhl=>⟨xs,bG.of hh,by rw[t1.len];simpa using hl⟩⟩;let hi:i<ds.length:=by have:=(Zf.mp hx).1;simpa using this
 rw[Zo,Yy hi] at hx;cases Option.some.inj hx;let hd:ds[i]?=some (ds.getD i .none):=by rw[ay (Zc hi)];exact Zc hi
 let⟨v,hv,tv⟩:=t1.get hd;apply⟨⟨xs,v,bG.of hh,hv⟩,?_⟩;rintro v' H3 ⟨p,hp,rfl,hy⟩;let⟨y,Lg,rfl⟩:=hy xs (bG.of hh);rw[hv] at Lg;cases Option.some.inj Lg;let⟨r4,e4,t4⟩:=eV r hp (.cons (.int (i:Int)) (.cons tv .nil));exact⟨e4,r4,t4⟩
def HW (Ms:MA):MA:=λsl O Q=>Ms sl O λxs O1=>match xs with
 |[.im (.list ds)]=>Q (cQ ds) O1
 |_=>False
def oh (hg:Gl X "enumerate")(hm:X.mg "enumerate"=none)(hb:bootBuiltins "enumerate"=some (.type "enumerate"))(ha:PA X [a] (vO K QX E Ms))(hs:starEach [a] X.env=[(false,eval a X.env)]:=by rfl):PI X (.Tuple t9 kk qQ) (.Call (.Name "enumerate" p) [a] [] pos) (vN K QX E (HW Ms)):=PI.imp (Fy hg hm hb ha hs) λσ H R ⟨w,O,sl,Q0,c,m,q⟩=>⟨w,O,sl,_,c,m,λxs O1 vs w1 H1 h1 e1 r1 a1=>by
 split at h1
 .obtain⟨v,us,rfl,h3,h4⟩:=a1.aW;rw[h4.cj];let⟨a,Ro,rfl,g1,t1⟩:=gw h3;exact⟨a,(),⟨Ro,bG.of g1⟩,q _ O1 w1 H1 _ h1 e1 r1 (vE h3)⟩
 .exact h1.elim⟩
def NV:A1:=o7 λds P=>∃ns:Γ3,ds=ns.map .int/\ns≠[]/\∀m,m∈ns->(∀n∈ns,m<=n)->P (.int m)
def QD:CA K LN NV:=λw O H vs xs P Q r a hf q=>by
 unfold NV o7 at hf;split at hf
 .split at hf
  .rename_i ds hd;let⟨v,us,rfl,h1,h2⟩:=a.aW;rw[h2.cj];let⟨p,lU,rfl,hs,t1⟩:=hG hd h1;let⟨ns,rfl,bv,h⟩:=hf;rw[gZ t1] at hs;exact⟨p,ns,(),hs,bv,λm h3 h4=>q _ _ O w H (h m h3 h4) (cr.refl _ _ _) r (.int _)⟩
  .exact hf.elim
 .exact hf.elim
end
end MI
namespace L2
open PySem.Spec PyProof.Rows EX
end L2
namespace MI
open L2 KG EX KM
def jB (ps:List (Int×PyData))(k:Int):Bool:=ps.any λp=>decide (p.1=k)
def pP (ps:List (Int×PyData))(k:Int):Option PyData:=(ps.find? λp=>decide (p.1=k)).map (·.2)
def putD (ps:List (Int×PyData))(k:Int)(d:PyData):List (Int×PyData):=if jB ps k=true then ps.map (λp=>if p.1=k then (p.1,d) else p) else ps++[(k,d)]
def AA (h:tj g kvs (ps.map pairD))(k:Int):(ef kvs (Sum.inl k)=none/\pP ps k=none/\jB ps k=false)\/∃v d,ef kvs (Sum.inl k)=some v/\pP ps k=some d/\jB ps k=true/\ci g v d:=by
 induction ps generalizing kvs with
 |nil=>cases h;exact .inl ⟨(),(),()⟩
 |cons p ps ih =>
  generalize hc:(p::ps).map pairD=c at h;cases h with
  |nil=>cases hc
  |@cons n v d N0 c' t h' =>
   rw[Zn] at hc;injection hc with h1 h2
   subst h2;let⟨pn,pd⟩:=p;unfold pairD at h1;let e1:pn=n:=by injection h1 with h1;injection h1 with h1;injection h1 with h1 h2;injection h1
   let e2:pd=d:=by injection h1 with h1;injection h1 with h1;injection h1 with h1 h2;injection h2
   subst e1;subst e2;by_cases e:pn=k
   .subst e;apply .inr ⟨v,pd,gB rfl,?_,?_,t⟩
    .simp[pP]
    .simp[jB]
   .let a1:ef ((Sum.inl pn,v)::N0) (Sum.inl k)=ef N0 (Sum.inl k):=gC (λz=>e (by injection z));let a2:pP ((pn,pd)::ps) k=pP ps k:=by simp[pP,X3,e]
    let a3:jB ((pn,pd)::ps) k=jB ps k:=by simp[jB,e]
    rw[a1,a2,a3];exact ih h'
def Az (h:tj g kvs c):kvs.length=c.length:=by
 induction h with
 |nil=>rfl
 |cons _ _ ih=>simp[ih]
def Gu (h:tj g kvs c)(t:ci g v d):tj g (kvs++[(Sum.inl n,v)]) (c++[pairD (n,d)]):=by
 induction h with
 |nil=>exact .cons t .nil
 |cons t' _ ih=>exact .cons t' ih
def Ay (h:tj g kvs (ps.map pairD))(t:ci g v d):tj g (dh kvs (Sum.inl k) v) ((putD ps k d).map pairD):=by
 rcases AA h k with ⟨h1,_,h3⟩ |⟨v0,d0,h1,ZT,h3,_⟩
 .rw[nZ v h1];unfold putD;rw[h3,if_neg ∅,Zs];exact Gu h t
 .unfold putD dh;let h4:(kvs.any λkv=>decide (kv.1=(Sum.inl k:dE)))=true:=by rw[iS,h1];rfl
  rw[h3,if_pos rfl,h4,if_pos rfl]
  clear h1 h3 h4 ZT
  induction ps generalizing kvs with
  |nil=>cases h;exact .nil
  |cons p ps ih =>
   generalize hc:(p::ps).map pairD=c at h;cases h with
   |nil=>cases hc
   |@cons n w e N0 c' t' h' =>
    rw[Zn] at hc;injection hc with h1 h2
    subst h2;let⟨pn,pd⟩:=p;unfold pairD at h1;let e1:pn=n:=by injection h1 with h1;injection h1 with h1;injection h1 with h1 h2;injection h1
    let e2:pd=e:=by injection h1 with h1;injection h1 with h1;injection h1 with h1 h2;injection h2
    subst e1;subst e2;rw[Zn,Zn,Zn];let M6:=ih h';by_cases z:pn=k
    .subst z;rw[if_pos rfl,if_pos rfl];exact .cons t M6
    .rw[if_neg z,if_neg (λy=>z (by injection y))];exact .cons t' M6
section
structure CBD (n:Nat)(ix:List Nat)(mg:MG)(C:MT)(Mk Mv:ME)(sl:j5)(Q:AV->bF->Prop)(items:List AV)(O1:bF):Prop where
 len:items.length<=1000000
 ex:∃Iv:Nat->List (Int×PyData)->bF->Prop,Iv 0 [] O1 /\
 (∀i x ps O',items[i]?=some x->Iv i ps O'->mg x (c8 n ix sl) O' λcx O2=>C cx O2 λc O3=>(c=true->Mk cx O3 λy O4=>Mv cx O4 λz O5=>match y,z with
   |.im (.int k),.im d=>Iv (i+1) (putD ps k d) O5
   |_,_=>False)/\(c=false->Iv (i+1) ps O3))/\∀ps O',Iv items.length ps O'->Q (.vU O'.length) (O'++[some (ps.map pairD)])
def xh (n:Nat)(ix:List Nat)(it:MA)(mg:MG)(C:MT)(Mk Mv:ME):ME:=λsl O Q=>it sl O (CBD n ix mg C Mk Mv sl Q)
def Fq (ps:List (Int×PyData))(k:Int)(d:PyData):(putD ps k d).length<=ps.length+1:=by
 unfold putD
 grind
def x6 {Mk Mv:ME}(hk:Keeps n mg):∀σ H Q,bR K QX E (xh n ix it mg C Mk Mv) σ H Q->wN (vN K QX E it) (oK K QX E mg) (iB K QX E C) (bR K QX E Mk) (bR K QX E Mv) n ix σ H Q :=
 λσ H Q ⟨w,O,sl,Q0,c,m,q⟩=>⟨w,O,sl,_,c,m,λitems O1 w1 H1 J h1 e1 r1 CS acc bU=>by
  let⟨hl,Iv,h0,hs,he⟩:=h1;let hC:=c.ex e1.ex r1;let⟨r0,e0⟩:=hC.ro.hide (o:=.dK []) bU (λxs z=>by cases z);apply⟨λi m aS H'=>m=items.length-i/\i<=items.length/\∃w' O' ys zs,aF K w' O' H'/\w'.bM=(acc,.dK ys)::w1.bM/\jc w1 O1 H1 w' O' H'/\bw K w' (G w' O' H') aS (c8 n ix sl)/\tj (G w' O' H') ys (zs.map pairD)/\zs.length<=i/\Iv i zs O',
   ⟨items.length,by simp,Z7 _,_,O1,[],[],r0,(),e0,(hC.so.W1 n ix).ex e0,.nil,Ze _,h0⟩,?_⟩
  rintro i m aS H' ⟨rfl,Hv,w',O',ys,zs,r',tN,e',s',a',hz',hv⟩;let⟨ig,ie⟩:=CS O' w' H' e' r' i;rcases Z2 i items.length with y |y
  .obtain⟨G1,Hr⟩:=ig _ (Zc y);apply .inr ⟨G1,λcz H2=>∃w' O' ys zs,aF K w' O' H2/\w'.bM=(acc,.dK ys)::w1.bM/\jc w1 O1 H1 w' O' H2/\bw K w' (G w' O' H2) cz (c8 n ix sl)/\tj (G w' O' H2) ys (zs.map pairD)/\zs.length<=i+1/\Iv (i+1) zs O',λcz H2 z=>⟨items.length-(i+1),⋯,(),y,z⟩,λv H3 Hs=>?_⟩;let⟨e3,r3,a3⟩:=Hr v H3 Hs;let Nt:j2 K QX E w' O' H3 aS (c8 n ix sl):=⟨r3,s'.ex e3.ex,λk Nv MM Nx qx Nq MW=>hC.zx k Nv MM Nx qx ((e'.trans e3.ex).trans Nq) MW⟩;apply⟨w',O',_,_,_,Nt,a3,hk _ _ _ _ (hs i _ zs O' (Zc y) hv),λoT O4 w4 H4 Wh h4 c4 e4=>⟨w4,O4,oT,_,c4,h4.1,λb O5 w5 H5 h5 e5 r5=>?_⟩⟩;let qM:=e3.trans (e4.trans e5);cases b with
   |false=>exact bI ⟨w5,O5,ys,zs,r5,qM.bM.trans tN,e'.trans qM.ex,bw.sub (c4.so.ex e5.ex) h4.2,a'.ak qM.ex.ak,⋯,h5.2 rfl⟩
   |true =>
    apply bt ⟨w5,O5,oT,_,c4.ex e5.ex r5,h5.1 rfl,λz O6 v6 w6 H6 h6 e6 r6 a6=>⟨w6,O6,oT,_,(c4.ex e5.ex r5).ex e6.ex r6,h6,λz7 O7 v7 w7 H7 h7 e7 r7 a7=>?_⟩⟩;split at h7
    .rename_i k d;let Θ:=(qM.trans e6).trans e7;let RQ:w7.bM=(acc,.dK ys)::w1.bM:=Θ.bM.trans tN;let⟨n1,n2,n3,n4⟩:=r7.nh (acc,.dK ys) (by rw[RQ];exact Zi);let⟨r8,s8⟩:=r7.rG (o':=.dK (dh ys (Sum.inl k) v7)) RQ (λxs z=>by cases z);let WX:=e'.trans Θ.ex;let WE:=Fq zs k d;let kv:v6=kV (Sum.inl k):=iq a6;apply⟨ys,Sum.inl k,n3,kv,by rw[Az a',Zb,sz];omega,{ w7 with bM:=(acc,.dK (dh ys (Sum.inl k) v7))::w1.bM },O7,_,putD zs k d,r8,rfl,⟨WX.bs,WX.bK,⟨[(acc,.dK (dh ys (Sum.inl k) v7))],rfl⟩,WX.ak.trans s8,WX.dk⟩,?_,?_,⋯,h7⟩
     .exact bw.gm rfl rfl s8 (bw.sub (((c4.so.ex e5.ex).ex e6.ex).ex e7.ex) h4.2)
     .exact(Ay (a'.ak Θ.ex.ak) a7).ak s8
    .exact h7.elim
  .let ei:i=items.length:=⋯;subst ei;apply .inl ⟨ie (Ze _),?_⟩;let⟨r2,s2,tO⟩:=r'.IU tN a';apply q _ _ _ { w' with bM:=w1.bM,bK:=w'.bK++[acc],iE:=O'.length::w'.iE } _ (he zs O' hv) ⟨e1.ex.trans ⟨e'.bs,?_,⟨[],rfl⟩,e'.ak.trans s2,λk hk=>?_⟩,e1.bM⟩ r2 ⟨acc,tO,Zi,rfl⟩
   .obtain⟨t,ht⟩:=e'.bK;exact⟨t++[acc],by show w'.bK++[acc]=_;rw[ht,Ys]⟩
   .apply Iff.trans ⟨λz=>?_,λz=>Zj _ z⟩ (e'.dk k hk);rcases Zk.mp z with y |y
    .obtain⟨t,ht⟩:=e'.bK;have:=r'.len;rw[ht,Zu] at this;omega
    .exact y⟩
section
variable {Mk Mv:ME}
end
def Uk (neg:Bool)(Mk Md:ME):MT:=λsl O Q=>Mk sl O λy O1=>Md sl O1 λx O2=>match y,x with
 |.im (.int k),.vU j=>∃ps,O2[j]?=some (some (ps.map pairD))/\Q (if neg then !jB ps k else jB ps k) O2
 |_,_=>False
def BP {Mk Md:ME}(hu:X.A.units+1<cLine)(hi:PE X i (bR K QX E Mk))(ho:PE X o (bR K QX E Md))(hm:behindInMarks .NotIn o=false:=by rfl):PT X (.Compare i [.NotIn] [o] pos) (iB K QX E (Uk true Mk Md)) :=
 PT.imp (Pl (BE hu hi ho) hm) λσ H Q ⟨w,O,sl,Q0,c,m,q⟩=>⟨w,O,sl,_,c,m,λy O1 v1 w1 H1 h1 e1 r1 a1=>⟨w1,O1,sl,_,c.ex e1.ex r1,h1,λx O2 v2 w2 H2 h2 e2 r2 a2=>by
  split at h2
  .rename_i k j;let⟨ps,hp,h2⟩:=h2;let⟨a,ha,hd,rfl⟩:=a2;let⟨a',kvs,h3,h4,h5⟩:=r2.UK hd hp;rw[ha] at h3;cases Option.some.inj h3;let kv:v1=kV (Sum.inl k):=iq (a1.ex e2.ex);subst kv;apply⟨a,_,(),uc.k h4,_,(),?_⟩;let e:(ef kvs (Sum.inl k)).isSome=jB ps k:=by
    rcases AA h5 k with ⟨z1,_,z3⟩ |⟨_,_,z1,_,z3,_⟩<;>rw[z1,z3]<;>rfl
   rw[e];exact q _ O2 w2 H2 h2 (e1.trans e2) r2
  .exact h2.elim⟩⟩
def Mc (Md Mk Mv:ME):MS:=λD sl O=>Mv sl O λv O1=>Md sl O1 λx O2=>Mk sl O2 λy O3=>match v,x,y with
 |.im d,.vU j,.im (.int k)=>∃ps,O3[j]?=some (some (ps.map pairD))/\ps.length<1000000/\D.nx sl (O3.set j (some ((putD ps k d).map pairD)))
 |_,_,_=>False
def Ki {Mk Md Mv:ME}(hu:X.A.units+1<cLine)(ho:PE X o (bR K QX E Md))(hi:PE X i (bR K QX E Mk))(hv:PE X e (bR K QX E Mv))(hs:swapsWith e (some (.Subscript o i kU)) pos.line X.env=pure false:=by rfl) :
  PS X (.Assign [.Subscript o i kU] e pos) (jK K QX E (Mc Md Mk Mv)):=PS.imp (JG hu ho hi hv hs) λD σ H ⟨w,O,sl,D0,c,m,hn,hb,hc,hr⟩ =>
 ⟨w,O,sl,_,c,m,λv O1 v1 w1 H1 h1 e1 r1 a1=>⟨w1,O1,sl,_,c.ex e1.ex r1,h1,λx O2 v2 w2 H2 h2 e2 r2 a2=>⟨w2,O2,sl,_,(c.ex e1.ex r1).ex e2.ex r2,h2,λy O3 v3 w3 H3 h3 e3 r3 a3=>by
  split at h3
  .rename_i d j k;let⟨ps,hp,cF,h3⟩:=h3;let⟨a,ha,hd,rfl⟩:=a2.ex e3.ex;let⟨a',kvs,h4,h5,h6⟩:=r3.UK hd hp;rw[ha] at h4;cases Option.some.inj h4;let kv:v3=kV (Sum.inl k):=iq a3;subst kv;let t:ci (G w3 O3 H3) v1 d:=(a1.ex e2.ex).ex e3.ex;let⟨r4,e4⟩:=r3.putD hp hd ha h5 (Ay (k:=k) h6 t);let e14:=((e1.trans e2).trans e3).trans e4;exact⟨a,_,(),Dv.k h5 (by rw[Az h6,Zb,sz];omega),hn sl _ w3 _ σ h3 (c.ex e14.ex r4) e14⟩
  .exact h3.elim⟩⟩⟩
def B6:UQ X (HQ K0):=by
 intro ae s σ H x y v u Q I rx ry h;let⟨p,xs,i,z,rfl,rfl,hq,he,q⟩:=h;cases rx;let⟨t,rfl⟩:=ry;let⟨its,r,pl,hz⟩:=I.list hq.k0;let⟨j,h1,h2,h3,h4,h5⟩:=L2.bT he;let⟨w,ew,AN⟩:=r.get h2;let hl:=r.length;let hn:=jS;let iD:EP X ae σ Q w s:=⟨z,H,I,AN,q⟩;by_cases h0:0<=i
 .let hj:i.toNat=j:=by
   rw[seqIndex_of h0 h5] at h1;exact Option.some.inj h1
  exact wpAny_getItem_list pl.isList h0 ⋯ (by rw[hj];simpa using ew) iD
 .let hj:(i+(its.toArray.size:Int)).toNat=j:=by
   rw[seqIndex_neg ⋯ h4] at h1;rw[Z5,<- hl];exact Option.some.inj h1
  exact wpAny_getItem_list_neg pl.isList ⋯ (by rw[Z5]<;>omega) ⋯ (by rw[hj];simpa using ew) iD
def wM (g:Int->Int->Int):tR:=λO x y P=>match x,y with
 |.im (.int i),.im (.int j)=>P (.im (.int (g i j))) O
 |_,_=>False
def nN:tS K (YW g) (wM g):=λw O H v u x y P Q r a b hf q=>by
 unfold wM at hf;split at hf
 .exact⟨_,_,iq a,iq b,q _ _ O w H hf (cr.refl _ _ _) r (.int _)⟩
 .exact hf.elim
def DL (i:Nat)(f:tR)(M:ME):MS:=λD sl O=>∃x,sl[i]?=some (some x)/\M sl O λy O1=>f O1 x y λz O2=>D.nx (sl.set i (some z)) O2
def Ac (hN:X.N.Nodup)(hi:X.N[i]?=some x)(hx:Loc X.env.scope x)(hp:R6 X op ti)(lk:tS K ti f)(he:PE X e (bR K QX E M))(hf:X.fn x=true\/X.env.scope.names.lookup x=some .local:=by first |exact .inl rfl |exact .inr rfl |assumption) :
  PS X (.AugAssign (.Name x kU) op e pos) (jK K QX E (DL i f M)):=PS.imp (Pm hN hi hx he hp hf) λD σ H h9=>by
 let⟨w,O,sl,D0,c,⟨x,hx,m⟩,hn,hb,hc,hr⟩:=h9;let⟨v,hv,a⟩:=c.so.2 i x hx;apply⟨v,hv,w,O,sl,_,c,m,λy O1 v1 w1 H1 h1 e1 r1 a1=>lk w1 O1 H1 v v1 x y _ _ r1 (a.ex e1.ex) a1 h1 λz z' O3 w3 H3 h3 e3 r3 a3=>?_⟩;exact hn _ O3 w3 H3 _ h3 ((c.ex (e1.trans e3).ex r3).put a3 i) (e1.trans e3)
def yT (Mo Mi:ME)(f:tR)(M:ME):MS:=λD sl O=>Mo sl O λo O1=>Mi sl O1 λi O2=>match o,i with
 |.own k,.im (.int i)=>∃c x j,O2[k]?=some (some c)/\fY c i=some x/\tJ c.length i=some j/\M sl O2 λy O3=>f O3 x y λz O4=>∃c',O4[k]?=some (some c')/\c'.length=c.length/\D.nx sl (O4.set k (some (c'.set j z)))
 |_,_=>False
def ss (ho:PE X o (bR K QX E Mo))(hi:PE X i (bR K QX E Mi))(hp:R6 X op ti)(lk:tS K ti f)(he:PE X e (bR K QX E M))
  (ha:∀ov iv new,augStore i ov iv new=(do holding [new,ov,iv] (setItem ov iv new);release [new,ov,iv] [];pure .next):=by intros;rfl):PS X (.AugAssign (.Subscript o i qQ) op e pos) (jK K QX E (yT Mo Mi f M)) :=
 PS.imp (JH ho hi B6 he hp ky ha) λD σ H h9=>by let⟨w,O,sl,D0,c,m,hn,hb,hc,hr⟩:=h9;exact⟨w,O,sl,_,c,m,λo' O1 v1 w1 H1 h1 e1 r1 a1=>⟨w1,O1,sl,_,c.ex e1.ex r1,h1,λi' O2 v2 w2 H2 h2 e2 r2 a2=>by
  split at h2
  .obtain⟨c0,x,j,WN,hx,hj,h2⟩:=h2;let C5:=e1.trans e2;let⟨p,ZK,pK,rfl⟩:=a1.ex e2.ex;let⟨p1,us,q0,g1,t1⟩:=r2.pe pK WN;rw[ZK] at q0;cases Option.some.inj q0;let⟨z,hz,tz⟩:=EV t1 hx;apply⟨p,us,_,z,(),iq a2,bG.of g1,hz,w2,O2,sl,_,c.ex C5.ex r2,h2,λy O3 v3 w3 H3 h3 e3 r3 a3=>lk w3 O3 H3 z v3 x y _ _ r3 (tz.ex e3.ex) a3 h3 λz4 x4 O4 w4 H4 h4 e4 r4 a4=>?_⟩;let⟨c',qL,Cz,h4⟩:=h4;let SN:=e4.ex.at (e3.ex.at ZK);let UA:_∉w4.iE:=λz=>pK (((e3.trans e4).ex.dk _ (Zf.mp ZK).1).mp z)
   let⟨p2,lU,q0,g2,t2⟩:=r4.pe UA qL;rw[SN] at q0;cases Option.some.inj q0;let⟨r5,e5⟩:=r4.put qL UA SN g2 (t2.set a4 j);let e15:=((C5.trans e3).trans e4).trans e5;exact⟨p,lU,_,j,(),iq a2,g2,by rw[t2.1,Cz];exact hj,hn sl _ w4 _ σ h4 (c.ex e15.ex r5) e15⟩
  .exact h2.elim⟩⟩
end
end MI
namespace L2
open PySem.Spec PyProof.Rows
section
variable {tk tv:TE}
def Fs (hN:X.N.Nodup)(Hw:X.N[i]?=some y)(hx:X.env.scope.names.lookup y=some .local)(B:aM X scope own cap ix)(hc:X.calm=true)(hi:PI X tg iter wi)
  (hb:∀C fp s H,PG (cP X scope C (own++cap) fp s H) tg g/\dj (cP X scope C (own++cap) fp s H) eu tt/\PE (cP X scope C (own++cap) fp s H) kx tk/\PE (cP X scope C (own++cap) fp s H) vx tv)
  (CT:swapsWith (.DictComp kx vx [⟨tg,iter,eu,0⟩] scope pos) (some (.Name y py)) qR.line X.env=pure true:=by rfl)
  (hs:∀x,foldedSetIterable iter X.env x=pure x:=by intro _;rfl):PS X (.Assign [.Name y py] (.DictComp kx vx [⟨tg,iter,eu,0⟩] scope pos) qR) (Dc (wN wi g tt tk tv own.length ix) (fg i)):=by
 intro ae s σ H D I h;rw[exec_Assign_Name_used _ _ _ _ CT];let has:∀x∈scope.names,x.2=.free->(X.env.cells.lookup x.1).isSome=true:=λx hx hk=>by
  let⟨c,e⟩:=I.ok.has x.1 (B.frees x hx hk);rw[e];rfl
 apply Za (wpAny_standAt (Za ?_));show wpAny _ X.A (do let _ <- comprehension (.DictComp kx vx [⟨tg,iter,eu,0⟩] scope pos) scope X.env _ newDict false (eval iter X.env) (some (assign (.Name y py) X.env))) _ _ s;apply Za (wpAny_mono (wpAny_comprehension_free (use:=some (assign (.Name y py) X.env)) (Q:=λ_ s'=>SP X ae D .next s') rfl hs (RI has) B.kind B.names ?_) (λ_ s' hq=>wpAny_pure (wpAny_pure hq)) λ_ _ e=>e);apply bE (hi ae s σ H _ I h) λv s1 h1=>bE h1 λHo s2 h2=>?_
 let⟨it,fp,tn,J,H2,e,I2,T,fE,f2,q⟩:=h2;subst e;apply oG (RR:=λacc C=>compPost (model X.prog X.w) X.A X.xe (some (assign (.Name y py) X.env)) (λ_ s'=>SP X ae D .next s') acc C) B hc hb I2 T fE f2 q ?_;intro Da C H' s' m I' q' hn fC;show wpAny _ X.A (assign (.Name y py) X.env (.ref Da)) _ _ s';let⟨oC,es,ep,ZM,S4,r⟩:=id hn;let Ip:Inv X (ae++[(C,oC)]) σ H' s':=I'.my λp hp=>by
  rcases Zw.mp hp with z |z
  .exact I'.pin p (Yl _ z)
  .obtain rfl:p=(C,oC):=by simpa using z
   exact⟨ZM,fC.1,fC.2.1,fC.2.2.1,λv e=>by rw[S4] at e;cases e⟩
 apply wpAny_assign_Name (ft Ip hN Hw (.inl hx) (v:=.ref Da) rfl (λMV Tn=>?_) (.inr hx));let pC:=(Tn.pin (C,oC) (Yl _ (Yl _ (by simp)))).1;apply⟨m,⟨oC,es,ep,pC,S4,r⟩,λh' tK=>⟨_,H',?_,q'⟩⟩;exact Tn.gD.turned (t':=MV.toks) (it:=C) (λb o CY e=>(tK.2 b CY).trans e) fC.1 fC.2.1 fC.2.2.2.1 fC.2.2.2.2.1 fC.2.2.2.2.2
end
end L2
namespace MI
open L2 KG EX KM
section
variable {Mk Mv:ME}
def FT (hN:X.N.Nodup)(Hw:X.N[i]?=some y)(hx:X.env.scope.names.lookup y=some .local)(B:aM X scope own cap ix)(hc:X.calm=true)(hi:PI X tg iter (vN K QX E it))(hk:Keeps own.length mg)
  (hb:∀C' fp s H,PG (cP X scope C' (own++cap) fp s H) tg (oK K QX E mg)/\dj (cP X scope C' (own++cap) fp s H) eu (iB K QX E C)/\PE (cP X scope C' (own++cap) fp s H) kx (bR K QX E Mk)/\PE (cP X scope C' (own++cap) fp s H) vx (bR K QX E Mv))
  (CT:swapsWith (.DictComp kx vx [⟨tg,iter,eu,0⟩] scope pos) (some (.Name y py)) qR.line X.env=pure true:=by rfl)
  (hs:∀x,foldedSetIterable iter X.env x=pure x:=by intro _;rfl):PS X (.Assign [.Name y py] (.DictComp kx vx [⟨tg,iter,eu,0⟩] scope pos) qR) (jK K QX E (bH (xh own.length ix it mg C Mk Mv) (bm i))):=PS.imp (Fs hN Hw hx B hc hi hb CT hs) (iU (x6 hk) kw)
end
def x9 (ha:a<n)(hb:b<n)(hc:c<n):nT n (aG (bm a) (aG (kP 2 (aG (bm b) (aG (bm c) ck))) ck)):=λx sl O Q q=>by
 match x,q with
 |[x1,x2],q =>
  let q:kP 2 (aG (bm b) (aG (bm c) ck)) x2 (sl.set a (some x1)) O λdJ O'=>ck [] dJ O' Q:=q
  show kP 2 (aG (bm b) (aG (bm c) ck)) x2 (sl.set a (some x1)) O λdJ O'=>ck [] dJ O' λcx O2=>Q cx O2/\Sub n sl cx
  unfold kP at q ⊢;split
  .rename_i ds hd;rw[hd] at q
   match ds,q with
   |[d1,d2],⟨_,q⟩ =>
    apply⟨(),q,by simp,λj hj=>?_⟩;rw[Ya ⋯,Ya ⋯,Ya ⋯]
  .rename_i hd;rw[hd] at q;exact q
 |[],q=>exact q
 |[_],q=>exact q
 |x1::x2::x3::r,q =>
  let q:kP 2 (aG (bm b) (aG (bm c) ck)) x2 (sl.set a (some x1)) O λdJ O'=>ck (x3::r) dJ O' Q:=q
  exact q
end MI
namespace SP
def sm:Nat->(Nat->Int)->Int
 |0,_=>0
 |n+1,f=>sm n f+f n
theorem GR:∀{n:Nat},(∀i,i<n->f i=g i)->sm n f=sm n g
 |0,_=>rfl
 |n+1,h=>by unfold sm;rw[GR (n:=n) λi hi=>h i ⋯,h n ⋯]
theorem ue:∀{n:Nat},(∀i,i<n->f i<=g i)->sm n f<=sm n g
 |0,_=>Xn _
 |n+1,h=>by
  unfold sm;let h1:=ue (n:=n) λi hi=>h i ⋯
  let h2:=h n ⋯;omega
theorem LG:∀{n k:Nat},k<n->f k<g k->(∀i,i<n->f i<=g i)->sm n f<sm n g
 |0,_,hk,_,_=>absurd hk ⋯
 |n+1,k,hk,cD,h=>by
  unfold sm;let h2:=h n ⋯;by_cases e:k=n
  .subst e;let h1:=ue (n:=k) λi hi=>h i ⋯
   omega
  .let h1:=LG (n:=n) (k:=k) ⋯ cD λi hi=>h i ⋯
   omega
theorem nC (f g:Nat->Int):∀n,sm n (λi=>f i+g i)=sm n f+sm n g
 |0=>rfl
 |n+1=>by
  show sm n (λi=>f i+g i)+(f n+g n)=(sm n f+f n)+(sm n g+g n);rw[nC f g n];omega
theorem fM:∀{n:Nat},(∀i,i<n->f i=0)->sm n f=0
 |0,_=>rfl
 |n+1,h=>by unfold sm;rw[fM (n:=n) λi hi=>h i ⋯,h n ⋯];rfl
theorem rD (k:Nat)(d:Int):∀n,sm n (λi=>if i=k then d else 0)=if k<n then d else 0
 |0=>by simp[sm]
 |n+1=>by
  unfold sm;rw[rD k d n];by_cases e:n=k
  .subst e;simp
  .have:(k<n+1)↔k<n:=⋯;simp[e,this]
theorem si (f:Nat->Nat->Int)(m:Nat):∀n,sm n (λi=>sm m (λj=>f i j))=sm m (λj=>sm n (λi=>f i j))
 |0=>by show(0:Int)=_;exact(fM λ_ _=>rfl).symm
 |n+1=>by
  show sm n (λi=>sm m (λj=>f i j))+sm m (λj=>f n j)=sm m (λj=>sm n (λi=>f i j)+f n j);rw[nC,si f m n]
def lm (h:∀i,i<n->0<=f i)(hk:k<n):f k<=sm n f:=by
 have:=ue (n:=n) (f:=λi=>if i=k then f k else 0) (g:=f) λi hi=>by
  show(if i=k then f k else 0)<=f i;split
  .rename_i e;subst e;exact Xn _
  .exact h i hi
 rw[rD,if_pos hk] at this;exact this
def xE (h:∀i,i<n->0<=f i)(e:sm n f=0):∀i,i<n->f i=0:=λi hi=>by
 let h1:=lm h hi;let h2:=h i hi;omega
def en (M:Γ1)(i j:Nat):Int:=(M.getD i []).getD j 0
def gc (M:Γ1)(i j:Nat)(d:Int):Γ1:=M.set i ((M.getD i []).set j (en M i j+d))
structure yF (M:Γ1)(n g:Nat):Prop where
 len:M.length=n
 row:∀i,i<n->(M.getD i []).length=g
def iW {α : Type}(l:List α)(i j:Nat)(x d:α)(hi:i<l.length):(l.set i x).getD j d=if j=i then x else l.getD j d:=by
 by_cases e:i=j
 .subst e;simp[List.getD,Yk hi]
 .let e':¬ j=i:=λz=>e z.symm
  simp[List.getD,Ya e,e']
def mN (s:yF M n g)(hi:i<n)(hj:j<g)(d:Int)(a b:Nat):en (gc M i j d) a b=en M a b+(if a=i then (if b=j then d else 0) else 0):=by
 unfold gc;let h1:i<M.length:=by rw[s.len];exact hi
 let h2:j<(M.getD i []).length:=by rw[s.row i hi];exact hj
 show((M.set i _).getD a []).getD b 0=_;rw[iW _ _ _ _ _ h1];by_cases e:a=i
 .subst e;rw[if_pos rfl,if_pos rfl,iW _ _ _ _ _ h2];by_cases e2:b=j
  .subst e2;rw[if_pos rfl,if_pos rfl]
  .rw[if_neg e2,if_neg e2,Int.add_zero];rfl
 .rw[if_neg e,if_neg e,Int.add_zero];rfl
def jg (s:yF M n g)(hi:i<n)(d:Int):yF (gc M i j d) n g:=by
 let h1:i<M.length:=by rw[s.len];exact hi
 apply⟨by unfold gc;rw[Yo];exact s.len,λa ha=>?_⟩;unfold gc;rw[iW _ _ _ _ _ h1];split
 .rw[Yo];exact s.row i hi
 .exact s.row a ha
def fb (M:Γ1)(g i:Nat):Int:=sm g λj=>en M i j
def pc (M:Γ1)(n j:Nat):Int:=sm n λi=>en M i j
def zK (s:yF M n g)(hi:i<n)(hj:j<g)(d:Int)(a:Nat):fb (gc M i j d) g a=fb M g a+if a=i then d else 0:=by
 unfold fb;rw[GR λb _=>mN s hi hj d a b,nC]
 congr 1
 by_cases e:a=i
 .subst e;rw[if_pos rfl,GR (g:=λb=>if b=j then d else 0) λb _=>by simp,rD,if_pos hj]
 .rw[if_neg e,fM λb _=>by simp[e]]
def AF (s:yF M n g)(hi:i<n)(hj:j<g)(d:Int)(b:Nat):pc (gc M i j d) n b=pc M n b+if b=j then d else 0:=by
 unfold pc;rw[GR λa _=>mN s hi hj d a b,nC]
 congr 1
 by_cases e:b=j
 .subst e;rw[if_pos rfl,GR (g:=λa=>if a=i then d else 0) λa _=>by simp,rD,if_pos hi]
 .rw[if_neg e,fM λa _=>by simp[e]]
abbrev m5:=List (Nat×Nat)
def bJ (w:m5)(t:Nat):Nat×Nat:=w.getD t (0,0)
structure kc (B M:Γ1)(n g b:Nat)(w:m5):Prop where
 ne:0<w.length
 hd:(bJ w 0).1=b
 wv:∀t,t<w.length->(bJ w t).1<n/\(bJ w t).2<g/\(((bJ w t).2:Nat):Int)∈B.getD (bJ w t).1 []
 lnk:∀t,t+1<w.length->0<en M (bJ w (t+1)).1 (bJ w t).2
 nd:∀t u,t<w.length->u<w.length->(bJ w t).2=(bJ w u).2->t=u
def b9 (M:Γ1)(w:m5)(c:Int):Nat->Γ1
 |0=>M
 |t+1=>if 0<t then gc (gc (b9 M w c t) (bJ w t).1 (bJ w t).2 c) (bJ w t).1 (bJ w (t-1)).2 (-c) else gc (b9 M w c t) (bJ w t).1 (bJ w t).2 c
structure ace (B M M':Γ1)(w:m5)(c:Int)(n g b t:Nat):Prop where
 v4:yF M' n g
 row:∀i,fb M' g i=fb M g i+if 0<t then (if i=b then c else 0) else 0
 col:∀j,pc M' n j=pc M n j+if 0<t then (if j=(bJ w (t-1)).2 then c else 0) else 0
 nn:∀i j,0<=en M' i j
 sup:∀i j,0<en M' i j->0<en M i j\/((j:Nat):Int)∈B.getD i []
 low:∀i j,(∀s,s+1<t->j≠(bJ w s).2)->en M i j<=en M' i j
theorem TL (s:yF M n g)(nn:∀i j,0<=en M i j)(ok:kc B M n g b w)(c0:0<=c)(hc:∀t,t+1<w.length->c<=en M (bJ w (t+1)).1 (bJ w t).2):∀t,t<=w.length->ace B M (b9 M w c t) w c n g b t
 |0,_=>⟨s,λi=>by simp;rfl,λj=>by simp;rfl,nn,λi j h=>.inl h,λi j _=>Xn _⟩
 |t+1,ht=>by
  let ih:=TL s nn ok c0 hc t ⋯;let⟨d1,d2,d3⟩:=ok.wv t ⋯;let s1:=jg (j:=(bJ w t).2) ih.v4 d1 c;let e1:=mN ih.v4 d1 d2 c;let r1:=zK ih.v4 d1 d2 c;let k1:=AF ih.v4 d1 d2 c;by_cases t0:0<t
  .obtain⟨f1,f2,f3⟩:=ok.wv (t-1) ⋯;let bv:(bJ w t).2≠(bJ w (t-1)).2:=λz=>by
    have:=ok.nd t (t-1) ⋯ ⋯ z;omega
   let e2:=mN s1 d1 f2 (-c);let r2:=zK s1 d1 f2 (-c);let k2:=AF s1 d1 f2 (-c);let un:b9 M w c (t+1)=gc (gc (b9 M w c t) (bJ w t).1 (bJ w t).2 c) (bJ w t).1 (bJ w (t-1)).2 (-c):=by show(if 0<t then _ else _)=_;rw[if_pos t0]
   rw[un];let ZT:c<=en M (bJ w t).1 (bJ w (t-1)).2:=by
    have:=hc (t-1) ⋯
    rwa [show t-1+1=t by omega] at this
   let hlo:en M (bJ w t).1 (bJ w (t-1)).2<=en (b9 M w c t) (bJ w t).1 (bJ w (t-1)).2:=ih.low _ _ λu hu z=>by
    have:=ok.nd (t-1) u ⋯ ⋯ z;omega
   let ee:∀i j,en (gc (gc (b9 M w c t) (bJ w t).1 (bJ w t).2 c) (bJ w t).1 (bJ w (t-1)).2 (-c)) i j=en (b9 M w c t) i j+(if i=(bJ w t).1 then (if j=(bJ w t).2 then c else 0) else 0)+(if i=(bJ w t).1 then (if j=(bJ w (t-1)).2 then -c else 0) else 0):=λi j=>by rw[e2,e1]
   apply⟨jg s1 d1 _,λi=>?_,λj=>?_,λi j=>?_,λi j h=>?_,λi j h=>?_⟩
   .rw[r2,r1,ih.row,if_pos t0,if_pos (show 0<t+1 by omega)];split<;>omega
   .rw[k2,k1,ih.col,if_pos t0,if_pos (show 0<t+1 by omega),Nat.add_sub_cancel]
    (repeat' split)<;>omega
   .rw[ee];let h0:=ih.nn i j;by_cases a1:i=(bJ w t).1
    .subst a1;rw[if_pos rfl,if_pos rfl];by_cases a2:j=(bJ w (t-1)).2
     .subst a2;rw[if_neg (Ne.symm bv),if_pos rfl];omega
     .rw[if_neg a2];split<;>omega
    .rw[if_neg a1,if_neg a1];omega
   .rw[ee] at h;by_cases a1:i=(bJ w t).1
    .subst a1;rw[if_pos rfl,if_pos rfl] at h;by_cases a2:j=(bJ w t).2
     .subst a2;exact .inr d3
     .rw[if_neg a2] at h;apply ih.sup _ _ ?_;split at h<;>omega
    .rw[if_neg a1,if_neg a1] at h;exact ih.sup i j ⋯
   .rw[ee];let h1:=ih.low i j λu hu=>h u ⋯
    let h2:j≠(bJ w (t-1)).2:=h (t-1) ⋯;rw[if_neg h2]
    (repeat' split)<;>omega
  .let t0':t=0:=⋯;subst t0';let un:b9 M w c 1=gc (b9 M w c 0) (bJ w 0).1 (bJ w 0).2 c:=rfl;rw[un];apply⟨s1,λi=>?_,λj=>?_,λi j=>?_,λi j h=>?_,λi j h=>?_⟩
   .rw[r1,ih.row,ok.hd];simp
   .rw[k1,ih.col];simp
   .rw[e1];let h0:=ih.nn i j
    (repeat' split)<;>omega
   .rw[e1] at h;by_cases a1:i=(bJ w 0).1
    .subst a1;by_cases a2:j=(bJ w 0).2
     .subst a2;exact .inr d3
     .rw[if_pos rfl,if_neg a2] at h;exact ih.sup _ _ ⋯
    .rw[if_neg a1] at h;exact ih.sup i j ⋯
   .rw[e1];let h1:=ih.low i j λu hu=>absurd hu ⋯
    (repeat' split)<;>omega
end SP
namespace SP
def aX (w:m5):Nat:=(bJ w (w.length-1)).2
def bX (Ws:List m5):List Nat:=Ws.map aX
structure BF (B M:Γ1)(n g b:Nat)(Ws:List m5):Prop where
 ok:∀w∈Ws,kc B M n g b w
 nd:(bX Ws).Nodup
 sub:∀w∈Ws,∀t,t<w.length->(bJ w t).2∈bX Ws
def GP (h:t<w.length):bJ (w++[p]) t=bJ w t:=by
 unfold bJ;simp[List.getD,Zq h]
def gA:bJ (w++[p]) w.length=p:=by
 unfold bJ;simp[List.getD]
def qr:aX (w++[p])=p.2:=by
 unfold aX;rw[Zu];show(bJ (w++[p]) (w.length+1-1)).2=_;rw[Nat.add_sub_cancel,gA]
def BF.push (h:BF B M n g b Ws)(hw:w∈Ws)(hp:p<n)(hx:x<g)(hb:(x:Int)∈B.getD p [])(eP:0<en M p (aX w))(hn:x∉bX Ws):BF B M n g b (Ws++[w++[(p,x)]]):=by
 let ow:=h.ok w hw;let e:bX (Ws++[w++[(p,x)]])=bX Ws++[x]:=by unfold bX;rw[Zs];simp[qr]
 apply⟨λv hv=>?_,?_,λv hv t ht=>?_⟩
 .rcases Zw.mp hv with hv |hv
  .exact h.ok v hv
  .rw[Zy.mp hv];let hl:(w++[(p,x)]).length=w.length+1:=by simp
   let o0:=ow.ne;apply⟨⋯,by rw[GP o0];exact ow.hd,λt ht=>?_,λt ht=>?_,λt u ht hu z=>?_⟩
   .by_cases y:t<w.length
    .rw[GP y];exact ow.wv t y
    .have:t=w.length:=⋯;subst this;rw[gA];exact⟨hp,hx,hb⟩
   .by_cases y:t+1<w.length
    .rw[GP y,GP ⋯];exact ow.lnk t y
    .have:t+1=w.length:=⋯;rw[this,gA,GP ⋯];have:t=w.length-1:=⋯;rw[this];exact eP
   .by_cases yt:t<w.length
    .by_cases yu:u<w.length
     .rw[GP yt,GP yu] at z;exact ow.nd t u yt yu z
     .have:u=w.length:=⋯;subst this;rw[GP yt,gA] at z;exact absurd (by have:=h.sub w hw t yt;rw[z] at this;exact this) hn
    .have:t=w.length:=⋯;subst this;by_cases yu:u<w.length
     .rw[GP yu,gA] at z;exact absurd (by have:=h.sub w hw u yu;rw[<- z] at this;exact this) hn
     .omega
 .rw[e,X8];exact⟨h.nd,by simp,λa ha c hc z=>by rw[Zy.mp hc] at z;exact hn (z▸ha)⟩
 .rw[e];rcases Zw.mp hv with hv |hv
  .exact Y6 _ (h.sub v hv t ht)
  .rw[Zy.mp hv] at ht ⊢;by_cases y:t<w.length
   .rw[GP y];exact Y6 _ (h.sub w hw t y)
   .have:t=w.length:=by simp at ht;omega
    subst this;rw[gA];exact Yl _ (by simp)
theorem oa:∀{l:List Nat}{g:Nat},l.Nodup->(∀x∈l,x<g)->l.length<=g
 |l,0,_,h=>by
  cases l with
  |nil=>exact Ze _
  |cons x l=>exact absurd (h x Zi) ⋯
 |l,g+1,nd,h=>by
  let h1:(l.filter λx=>decide (x≠g)).length<=g:=oa (nd.sublist Z4) λx hx=>by
   let⟨a,b⟩:=Zg.mp hx;have:=h x a;have:=of_decide_eq_true b;omega
  let h2:l.length<=(l.filter λx=>decide (x≠g)).length+1:=by
   clear h h1
   induction l with
   |nil=>exact Z7 _
   |cons x l ih =>
    let wc:=Yc.mp nd;let M6:=ih wc.2;by_cases e:x=g
    .subst e;have:l.filter (λy=>decide (y≠x))=l:=Qc.mpr λy hy=>decide_eq_true λz=>wc.1 (z▸hy)
     rw[Qu (by simp),this];simp
    .rw[Q9 (by simpa using e),Y2,Y2];omega
  omega
def BF.len (h:BF B M n g b Ws):Ws.length<=g:=by
 have:(bX Ws).length<=g:=oa h.nd λx hx=>by
  let⟨w,hw,rfl⟩:=Zd.mp hx;let o:=h.ok w hw;have:=o.ne;exact(o.wv (w.length-1) ⋯).2.1
 unfold bX at this
 rwa [Zb] at this
def kc.len (o:kc B M n g b w):w.length<=g:=by
 let h1:(w.map (·.2)).length<=g:=oa ?_ ?_
 .rwa [Zb] at h1
 .unfold List.Nodup;rw[List.pairwise_iff_getElem];intro s t hs ht m4 e;rw[Zb] at hs ht;have:s=t:=o.nd s t hs ht (by
   unfold bJ;simp only[List.getD,Zc hs,Zc ht,Xz];simpa using e)
  omega
 .intro x hx;let⟨p,hp,rfl⟩:=Zd.mp hx;let⟨t,ht,rfl⟩:=Yq hp;have:=(o.wv t ht).2.1;unfold bJ at this;simpa[List.getD,Zc ht] using this
structure Lv (B M:Γ1)(U ms:Γ3)(n g:Nat):Prop where
 v4:yF M n g
 nn:∀i j,0<=en M i j
 sup:∀i j,i<n->j<g->0<en M i j->(j:Int)∈B.getD i []
 ul:U.length=g
 u0:∀j,j<g->0<=U.getD j 0
 col:∀j,j<g->U.getD j 0+pc M n j=ms.getD j 0
def OG (B:Γ1)(ms ps:Γ3)(n g:Nat):Prop:=∀T S:Nat->Bool,(∀i,i<n->T i=true->∀x∈B.getD i [],S x.toNat=true)->sm n (λi=>if T i=true then ps.getD i 0 else 0)<=sm g (λj=>if S j=true then ms.getD j 0 else 0)
def Dt (B M:Γ1)(U:Γ3)(n:Nat)(Ws:List m5)(k:Nat):Prop:=∀t,t<k->U.getD (aX (Ws.getD t [])) 0=0/\∀p,p<n->0<en M p (aX (Ws.getD t []))->∀x∈B.getD p [],x.toNat∈bX Ws
def oj {α : Type}{l m:List α}{t:Nat}{d:α}(h:t<l.length):(l++m).getD t d=l.getD t d:=by simp[List.getD,Zq h]
def Dt.app {B M:Γ1}{n k:Nat}(h:Dt B M U n Ws k)(hk:k<=Ws.length)(Vs:List m5):Dt B M U n (Ws++Vs) k:=λt ht=>by
 rw[oj ⋯];let⟨h1,h2⟩:=h t ht;exact⟨h1,λp hp h0 x hx=>by unfold bX;rw[Zs];exact Y6 _ (h2 p hp h0 x hx)⟩
open Classical in
def BN (s:Lv B M U ms n g)(o9:OG B ms ps n g)(bn:b<n)(hB:∀i,i<n->∀x∈B.getD i [],0<=x/\x.toNat<g)
  (rl:∀i,i<n->fb M g i<=ps.getD i 0) (rb:fb M g b<ps.getD b 0) (lg:∀x∈bX Ws,x<g) (base:∀x∈B.getD b [],x.toNat∈bX Ws) (dn:Dt B M U n Ws Ws.length):False:=by
 let mem:∀j,j∈bX Ws->∃t,t<Ws.length/\aX (Ws.getD t [])=j:=λj hj=>by
  let⟨w,hw,rfl⟩:=Zd.mp hj;let⟨t,ht,rfl⟩:=Yq hw;exact⟨t,ht,by simp[List.getD,Zc ht]⟩
 letI S:Nat->Bool:=λj=>decide (j∈bX Ws)
 letI T:Nat->Bool:=λi=>decide (i=b\/∃j∈bX Ws,0<en M i j)
 let h1:=o9 T S λi hi hT x hx=>by
  apply decide_eq_true ?_;rcases of_decide_eq_true hT with rfl |⟨j,hj,h0⟩
  .exact base x hx
  .obtain⟨t,ht,rfl⟩:=mem j hj;exact(dn t ht).2 i hi h0 x hx
 let h2:sm g (λj=>if S j=true then ms.getD j 0 else 0)=sm n (λi=>sm g (λj=>if S j=true then en M i j else 0)):=by
  rw[si];apply GR λj hj=>?_
  by_cases e:S j=true
  .rw[if_pos e];let⟨t,ht,el⟩:=mem j (of_decide_eq_true e);let h3:=(dn t ht).1;rw[el] at h3;let h4:=s.col j hj;rw[h3,Int.zero_add] at h4;rw[<- h4];exact GR λi _=>by rw[if_pos e]
  .rw[if_neg e];exact(fM λi _=>by rw[if_neg e]).symm
 let h3:∀i,i<n->sm g (λj=>if S j=true then en M i j else 0)<=if T i=true then fb M g i else 0:=λi hi=>by
  by_cases e:T i=true
  .rw[if_pos e];apply ue λj hj=>?_
   have:=s.nn i j;split<;>omega
  .rw[if_neg e];have:sm g (λj=>if S j=true then en M i j else 0)=0:=fM λj hj=>by
    split
    .rename_i hs;let h4:=s.nn i j;rcases Int.lt_or_eq_of_le h4 with y |y
     .exact absurd (decide_eq_true (Or.inr ⟨j,of_decide_eq_true hs,y⟩)) e
     .exact y.symm
    .rfl
   omega
 let h4:sm n (λi=>sm g (λj=>if S j=true then en M i j else 0))<sm n (λi=>if T i=true then ps.getD i 0 else 0):=by
  apply Int.lt_of_le_of_lt (ue (g:=λi=>if T i=true then fb M g i else 0) h3) (LG bn ?_ λi hi=>?_)
  .have:T b=true:=decide_eq_true (Or.inl rfl);show(if T b=true then fb M g b else 0)<if T b=true then ps.getD b 0 else 0
   rw[if_pos this,if_pos this];exact rb
  .show(if T i=true then fb M g i else 0)<=if T i=true then ps.getD i 0 else 0
   have:=rl i hi;split<;>omega
 rw[h2] at h1;omega
structure SpO (M:Γ1)(ps:Γ3)(g n b:Nat)(left:Int):Prop where
 old:∀i,i<b->i<n->fb M g i=ps.getD i 0
 now:b<n->fb M g b+left=ps.getD b 0
 new:∀i,b<i->i<n->fb M g i=0
structure zn (B M:Γ1)(ms ps:Γ3)(n g:Nat):Prop where
 v4:yF M n g
 nn:∀i j,0<=en M i j
 sup:∀i j,i<n->j<g->0<en M i j->(j:Int)∈B.getD i []
 row:∀i,i<n->fb M g i=ps.getD i 0
 col:∀j,j<g->pc M n j=ms.getD j 0
def Br (s:Lv B M U ms n g)(row:∀i,i<n->fb M g i=ps.getD i 0)(GK:sm g (λj=>ms.getD j 0)=sm n (λi=>ps.getD i 0)):zn B M ms ps n g:=by
 apply⟨s.v4,s.nn,s.sup,row,?_⟩;let h1:sm g (λj=>U.getD j 0+pc M n j)=sm g (λj=>ms.getD j 0):=GR λj hj=>s.col j hj
 rw[nC] at h1;let h2:sm g (λj=>pc M n j)=sm n (λi=>fb M g i):=(si (λi j=>en M i j) g n).symm;let h3:sm n (λi=>fb M g i)=sm n (λi=>ps.getD i 0):=GR λi hi=>row i hi
 let h4:sm g (λj=>U.getD j 0)=0:=by
  grind
 intro j hj;let h5:=xE s.u0 h4 j hj;let h6:=s.col j hj;omega
def Ji (s:Lv B M U ms n g)(o:SpO M ps g n b left)(ok:kc B M n g b w)(c0:0<=c)(hc:∀t,t+1<w.length->c<=en M (bJ w (t+1)).1 (bJ w t).2)(hu:c<=U.getD (aX w) 0) :
  Lv B (b9 M w c w.length) (U.set (aX w) (U.getD (aX w) 0-c)) ms n g/\SpO (b9 M w c w.length) ps g n b (left-c):=by
 let st:=TL s.v4 s.nn ok c0 hc w.length (Ze _);let o0:=ok.ne;let SV:aX w<g:=(ok.wv (w.length-1) ⋯).2.1;let hul:aX w<U.length:=by rw[s.ul];exact SV
 apply⟨⟨st.v4,st.nn,λi j hi hj h=>?_,by rw[Yo];exact s.ul,λj hj=>?_,λj hj=>?_⟩,λi hi hn=>?_,λhb=>?_,λi hi hn=>?_⟩
 .rcases st.sup i j h with z |z
  .exact s.sup i j hi hj z
  .exact z
 .rw[iW _ _ _ _ _ hul];have:=s.u0 j hj;split
  .rename_i e;subst e;omega
  .exact this
 .rw[iW _ _ _ _ _ hul,st.col,if_pos o0];show _+(_+if j=aX w then c else 0)=_;have:=s.col j hj;by_cases e:j=aX w
  .subst e;rw[if_pos rfl,if_pos rfl];omega
  .rw[if_neg e,if_neg e];omega
 .rw[st.row,if_pos o0,if_neg ⋯];have:=o.old i hi hn;omega
 .rw[st.row,if_pos o0,if_pos rfl];have:=o.now hb;omega
 .rw[st.row,if_pos o0,if_neg ⋯];have:=o.new i hi hn;omega
end SP
namespace MI
open L2 KG EX KM RZ SP
def j4 {α : Type}{l:List α}{i:Nat}{d:α}(h:i<l.length):l.getD i d∈l:=by rw[ay (Zc h)];exact Zv _
def Ry (c m a:Int):Rat:=if 0<c then Rat.divInt (c*a) m else 0
def IA:FM:=λO xs P _=>∃c m a:Int,xs=[.im (.int c),.im (.int m),.im (.int a)]/\(0<c->(m≠0/\Bd 8000 m)/\Bd 8000 c/\Bd 8000 a)/\P (.im (qD (Ry c m a))) O
abbrev UY:Δ2:=["coins","money","amount"]
def Ub:MS:=(cE (SA (cV (bB G8 (ah 0) (mC (.int 0)))) (aC IG cb (af (bB HV (ah 0) (ah 2)) (af (ah 1) ao))) (gO (af (mC (.int 0)) (af (mC (.int 1)) ao)))))
def OX:∀O xs Pq QX,IA O xs Pq QX->Ub { nx:=λ_ O'=>Pq (.im .none) O',rt:=Pq } (bp UY xs) O:=by
 intro O xs Pq QX h;let⟨c,m,a,rfl,hc,h⟩:=h;apply⟨λe=>?_,λe=>?_⟩
 .let e:0<c:=of_decide_eq_true e;let⟨h1,h2,h3⟩:=hc e;apply⟨⟨h2,h3⟩,h1,?_⟩;unfold Ry at h;rw[if_pos e] at h;exact h
 .let e:¬ 0<c:=of_decide_eq_false e;apply⟨jA,?_⟩;unfold Ry at h;rw[if_neg e] at h;exact h
def T5 (M:Γ1):PyData:=.list (M.map λr=>.list (r.map .int))
def zi (A ms:Γ3)(M:Γ1):List (Δ1):=(List.range M.length).map λi=>(List.range A.length).map λj=>Ry (en M i j) (ms.getD j 0) (A.getD j 0)
def IH:FM:=λO xs P _=>∃(A:Γ3) (Pu:Δ1) (W:Γ1) (ms:Γ3) (M:Γ1),xs=[.im (fw A Pu W),.im (cy ms),.im (T5 M)]/\A.length<=6/\M.length<=6/\ms.length=A.length/\(∀i,i<M.length->(M.getD i []).length=A.length)/\(∀i j,i<M.length->j<A.length->0<en M i j->(ms.getD j 0≠0/\Bd 8000 (ms.getD j 0))/\Bd 8000 (en M i j)/\Bd 8000 (A.getD j 0))/\P (.im (HY (zi A ms M))) O
abbrev OE:Δ2:=["market","money","spent"]
def Ui:MS:=(cE (jZ lY (af (cL 1 [0,1] (cK (ah 2)) (bm 0) eC (jZ lY (af (cL 2 [2,0] (WC (af (bB cO (ah 1) (mC (.int 0))) ao)) (kP 2 (aG (bm 0) (aG (bm 1) ck))) eC (aC IA cb (af (bB cO (ah 3) (ah 0)) (af (bB cO (ah 2) (ah 0)) (af (ah 1) ao))))) ao))) ao)))
def Pe:∀O xs Pq QX,IH O xs Pq QX->Ui { nx:=λ_ O'=>Pq (.im .none) O',rt:=Pq } (bp OE xs) O:=by
 intro O xs Pq QX h;let⟨A,Pu,W,ms,M,rfl,g6,n6,hm,hr,hb,h⟩:=h;conv=>whnf
 apply Hi (λi=>.tuple (((List.range A.length).map λj=>Ry (en M i j) (ms.getD j 0) (A.getD j 0)).map qD)) (by rw[Zb,Zb];omega) (λi x Z hx hZ=>?_) ?_
 .let hi:i<M.length:=by have:=(Zf.mp hx).1;simpa using this
  rw[Zo,mX (d:=([]:Γ3)) hi] at hx;cases Option.some.inj hx;let M9:=hr i hi;let el:(cQ (A.map PyData.int)).length=A.length:=by unfold cQ;simp
  apply⟨_,(),?_⟩;apply lA (λj=>qD (Ry (en M i j) (ms.getD j 0) (A.getD j 0))) (λj=>.int (j:Int)) (λj=>.int (A.getD j 0)) (by rw[el];omega) (λj x hx=>?_) (λj Z hj hZ=>?_) ?_
  .obtain⟨hj,rfl⟩:=ji hx;rw[Zb] at hj;rw[show(A.map PyData.int).getD j .none=.int (A.getD j 0) from mZ hj]
  .rw[el] at hj;apply⟨_,AQ (show j<(M.getD i []).length by omega),_,AQ (show j<ms.length by omega),_,_,_,(),λh0=>hb i j hi hj h0,hZ⟩
  .rw[el];rw[Zp] at hZ;exact hZ
 .rw[Zb,Zb];unfold HY zi at h;rw[Zp] at h;exact h
def de (p:Nat×Nat):PyData:=.tuple [.int (p.1:Int),.int (p.2:Int)]
def eK (w:m5):PyData:=.list (w.map de)
def gN (Ws:List m5):List (Int×PyData):=(bX Ws).map λx:Nat=>((x:Int),PyData.bool true)
def EU {α : Type}{xs:List α}{d:α}(h:0<xs.length):fY xs (-1)=some (xs.getD (xs.length-1) d):=by
 unfold fY tJ;rw[if_neg ⋯,if_pos ⋯,ay (Zc (show xs.length-1<xs.length by omega))];have:(-1+(xs.length:Int)).toNat=xs.length-1:=⋯;rw[this];exact Zc ⋯
def kr {w:m5}(h:0<w.length):fY (w.map de) (-1)=some (de (bJ w (w.length-1))):=by
 rw[EU (d:=.none) (by rw[Zb];exact h),Zb];rw[show(w.map de).getD (w.length-1) .none=de (bJ w (w.length-1)) from mZ ⋯]
def Bc:(O++[a,b])[O.length]?=some a:=by simp
def UM:(O++[a,b])[O.length+1]?=some b:=by
 rw[Yh ⋯];simp
def ab9 {k:Nat}(h:O[k]?=some c):(O++[a,b])[k]?=some c:=by
 rw[Zq (Zf.mp h).1];exact h
def Vi:(O++[a,b]).set O.length c=O++[c,b]:=by
 rw[List.set_append,if_neg ⋯];simp
def Vh:(O++[a,b]).set (O.length+1) c=O++[a,c]:=by
 rw[List.set_append,if_neg ⋯];simp
def oR.kX (t:oR O k ks W)(h:d5 O O'):oR O' k ks W:=by
 let⟨u,rfl⟩:=h;apply⟨?_,t.len,λi hi=>?_⟩
 .rw[Zq (Zf.mp t.hd).1];exact t.hd
 .rw[Zq (Zf.mp (t.row i hi)).1];exact t.row i hi
def oR.get (h:oR O k ks W)(hi:i<W.length)(hj:j<(W.getD i []).length):fY (ks.map AV.own) (i:Int)=some (.own (ks.getD i 0))/\O[ks.getD i 0]?=some (some ((W.getD i []).map λx=>AV.im (.int x)))/\fY ((W.getD i []).map λx=>AV.im (.int x)) (j:Int)=some (.im (.int (en W i j))) :=
 ⟨bT (mX (by rw[h.len];exact hi)),h.row i hi,bT (mX hj)⟩
def sy (Ws:List m5)(y:Nat):jB (gN Ws) (y:Int)=true↔y∈bX Ws:=by
 unfold jB gN;rw[X1,Z6];constructor
 .rintro⟨x,hx,e⟩;let e:(x:Int)=(y:Int):=of_decide_eq_true e;have:x=y:=⋯;exact this▸hx
 .intro h;exact⟨y,h,decide_eq_true rfl⟩
def Kl (hn:aX w∉bX Ws):putD (gN Ws) (aX w:Int) (.bool true)=gN (Ws++[w]):=by
 unfold putD;rw[if_neg (λz=>hn ((sy Ws _).mp z))];unfold gN bX;rw[Zs,Zs];rfl
theorem qk:∀{l:Γ3},l.Nodup->(∀x∈l,0<=x)->(l.map Int.toNat).Nodup
 |[],_,_=>X4
 |x::l,nd,h=>by
  let wc:=Yc.mp nd;rw[Zn,Yc];apply⟨λz=>?_,qk wc.2 λy hy=>h y (Zj _ hy)⟩;let⟨y,hy,e⟩:=Zd.mp z;let h1:=h x Zi;let h2:=h y (Zj _ hy);have:y=x:=⋯;exact wc.1 (this▸hy)
structure UO (B M:Γ1)(U ms ps:Γ3)(n g b:Nat):Prop where
 sp:Lv B M U ms n g
 o9:OG B ms ps n g
 bn:b<n
 bl:B.length=n
 n6:n<=6
 g6:g<=6
 hB:∀i,i<n->∀x∈B.getD i [],0<=x/\x.toNat<g
 b6:∀i,i<n->(B.getD i []).length<=6
 nd:∀i,i<n->(B.getD i []).Nodup
 rl:∀i,i<n->fb M g i<=ps.getD i 0
 rb:fb M g b<ps.getD b 0
def Iy:FM:=λO xs P _=>∃(B M:Γ1) (U ms ps:Γ3) (n g b k ku:Nat) (ks:List Nat),xs=[.im (.tuple (B.map aP)),.own k,.own ku,.im (.int (b:Int))]/\oR O k ks M/\O[ku]?=some (cI U)/\UO B M U ms ps n g b/\∀(w:m5) (O':bF),kc B M n g b w->U.getD (aX w) 0≠0->d5 O O'->P (.im (eK w)) O'
abbrev IN:Δ2:=["best","spent","unsold","buyer","ways","met","at","last","payer","good"]
def T8:MS:=(be (bH (k7 1 [3] (cK (bB cO (ah 0) (ah 3))) (bm 0) eC (A7 (af (gO (af (ah 1) (af (ah 0) ao))) ao))) (bm 4))
 (be (bH (xh 1 [] (cK (bB cO (ah 0) (ah 3))) (bm 0) eC (ah 0) (mC (.bool true))) (bm 5))
 (be (bH (mC (.int 0)) (bm 6))
 (be (rR (cV (bB (C3 false) (bB cO (ah 2) (bB cO (bB cO (bB cO (ah 4) (ah 6)) (A6 (mC (.int 1)))) (mC (.int 1)))) (mC (.int 0)))) (be (bH (bB cO (bB cO (bB cO (ah 4) (ah 6)) (A6 (mC (.int 1)))) (mC (.int 1))) (bm 7))
 (be (l3 (re (af (jZ tX (af (ah 1) ao)) ao)) (bm 8) (jz (cV (bB G8 (bB cO (bB cO (ah 1) (ah 8)) (ah 7)) (mC (.int 0)))) (l3 (cK (bB cO (ah 0) (ah 8))) (bm 9) (jz (Uk true (ah 9) (ah 5)) (be (Mc (ah 5) (ah 9) (mC (.bool true)))
 (uj (Ij (ah 4) (af (bB j7 (bB cO (ah 4) (ah 6)) (A7 (af (gO (af (ah 8) (af (ah 9) ao))) ao))) ao)))) eF)) eF))
 (DL 6 (wM λi j=>i+j) (mC (.int 1))))))
 (cE (bB cO (ah 4) (ah 6)))))))
def rP (h:0<=x):((x.toNat:Nat):Int)=x:=Y8 h
def OU:∀O xs Pq QX,Iy O xs Pq QX->T8 { nx:=λ_ O'=>Pq (.im .none) O',rt:=Pq } (bp IN xs) O:=by
 intro O xs Pq QX h;let⟨B,M,U,ms,ps,n,g,b,k,ku,ks,rfl,tb,hu,ok,h⟩:=h;let bl:=ok.bl;let bn:=ok.bn;let n6:=ok.n6;let g6:=ok.g6;let DF:∀i,i<n->fY (B.map aP) (i:Int)=some (aP (B.getD i [])):=λi hi=>bT (mX ⋯)
 let hb6:=ok.b6 b bn;apply⟨_,DF b bn,?_⟩;conv=>whnf
 apply qA (λi d=>d=.im (eK [(b,((B.getD b []).getD i 0).toNat)])) (by rw[Zb,Zb];omega) (λi x Z hx hZ=>?_) (λzs hl hz=>?_)
 .obtain⟨hi,rfl⟩:=eX hx;let h0:=(ok.hB b bn _ (j4 (d:=0) hi)).1;apply⟨jA,Il,hZ _ ?_⟩;unfold eK de;rw[Zn,List.map_nil,rP h0]
 rw[Zb,Zb] at hl;letI yE:List m5:=(B.getD b []).map λx=>[(b,x.toNat)]
 let ez:zs=yE.map λw=>AV.im (eK w):=by
  apply Qk λi=>?_
  rw[Zp,Zo];by_cases hi:i<zs.length
  .have:=hz i _ (Zc hi);rw[Zc hi,this,Zc (show i<(B.getD b []).length by omega),ay (Zc (show i<(B.getD b []).length by omega))];rfl
  .rw[Yu (Xb hi),Yu ⋯];rfl
 subst ez;let e0:bX yE=(B.getD b []).map Int.toNat:=by
  show((B.getD b []).map λx=>[(b,x.toNat)]).map aX=_;rw[Zp];rfl
 let bf0:BF B M n g b yE:=by
  apply⟨λw hw=>?_,?_,λw hw t ht=>?_⟩
  .obtain⟨x,hx,rfl⟩:=Zd.mp hw;let⟨h0,h1⟩:=ok.hB b bn x hx;apply⟨by simp,(),λt ht=>?_,λt ht=>absurd ht (by simp),λt u ht hu _=>by simp at ht hu;omega⟩;have:t=0:=by simp at ht;exact ht
   subst this;exact⟨bn,h1,by show((x.toNat:Nat):Int)∈_;rw[rP h0];exact hx⟩
  .rw[e0];exact qk (ok.nd b bn) λx hx=>(ok.hB b bn x hx).1
  .obtain⟨x,hx,rfl⟩:=Zd.mp hw;have:t=0:=by simp at ht;exact ht
   subst this;rw[e0];exact Zd.mpr ⟨x,hx,()⟩
 let Wc:∀x∈B.getD b [],x.toNat∈bX yE:=λx hx=>by rw[e0];exact Zd.mpr ⟨x,hx,()⟩
 show Go _ _ [Φ9 (.tuple (B.map aP)),some (.own k),some (.own ku),Φ9 (.int (b:Int)),some (.own O.length),none,none,none,none,none] (O++[some (yE.map λw=>AV.im (eK w))]);apply⟨⟨_,DF b bn,?_⟩⟩;conv=>whnf
 apply⟨by rw[Zb,Zb];omega,λi YM O'=>O'=O++[some (yE.map λw=>AV.im (eK w))]/\YM=((B.getD b []).take i).map λx=>(x,PyData.bool true),⟨(),()⟩,?_,?_⟩
 .rintro i x YM O' hx ⟨rfl,rfl⟩;let⟨hi,rfl⟩:=eX hx;apply⟨λ_=>⟨(),?_⟩,λz=>(by cases z)⟩;rw[RH (0:Int) hi,Zs];unfold putD;rw[if_neg]
  .rfl
  .intro z;unfold jB at z;rw[X1,Z6] at z;let⟨y,hy,e⟩:=z;let e:y=(B.getD b []).getD i 0:=of_decide_eq_true e;let nd:=ok.nd b bn;have:(B.getD b [])=(B.getD b []).take i++(B.getD b []).drop i:=(List.take_append_drop i _).symm;rw[this,X8] at nd;apply nd.2.2 y hy _ ?_ e;rw[List.mem_iff_getElem?];exact⟨0,by rw[List.getElem?_drop,Nat.add_zero,Zc hi,ay (Zc hi)]⟩
 rintro YM O' ⟨rfl,rfl⟩;rw[Zb,Zb,Yp,Ys];let em:(((B.getD b []).map λx=>(x,PyData.bool true)).map pairD)=(gN yE).map pairD:=by
  unfold gN;rw[e0,Zp,Zp,Zp];apply Xf λx hx=>?_
  show pairD (x,_)=pairD (((x.toNat:Nat):Int),_);rw[rP (ok.hB b bn x hx).1]
 rw[em];show Go _ _ [Φ9 (.tuple (B.map aP)),some (.own k),some (.own ku),Φ9 (.int (b:Int)),some (.own O.length),some (.vU (O++[some (yE.map λw=>AV.im (eK w))]).length),none,none,none,none] (O++[some (yE.map λw=>AV.im (eK w)),some ((gN yE).map pairD)]);rw[show(O++[some (yE.map λw=>AV.im (eK w))]).length=O.length+1 by simp];apply⟨?_⟩;show Go _ _ [Φ9 (.tuple (B.map aP)),some (.own k),some (.own ku),Φ9 (.int (b:Int)),some (.own O.length),some (.vU (O.length+1)),Φ9 (.int ((0:Nat):Int)),none,none,none] (O++[some (yE.map λw=>AV.im (eK w)),some ((gN yE).map pairD)]);letI St:List m5->bF:=λWs=>O++[some (Ws.map λw=>AV.im (eK w)),some ((gN Ws).map pairD)]
 let gr:∀Ws,d5 O (St Ws):=λWs=>⟨_,()⟩
 apply⟨⟨λm sl O'=>∃(Ws:List m5) (a:Nat) (y7 y8 y9:Option AV),m+a=g+1/\sl=[Φ9 (.tuple (B.map aP)),some (.own k),some (.own ku),Φ9 (.int (b:Int)),some (.own O.length),some (.vU (O.length+1)),Φ9 (.int ((a:Nat):Int)),y7,y8,y9]/\O'=St Ws/\BF B M n g b Ws/\(∀x∈B.getD b [],x.toNat∈bX Ws)/\Dt B M U n Ws a/\a<=Ws.length,⟨g+1,yE,0,none,none,none,⋯,(),(),bf0,Wc,λt ht=>absurd ht ⋯,Z7 _⟩,?_⟩⟩;rintro m sl O' ⟨Ws,a,y7,y8,y9,hm,rfl,rfl,bf,base,dn,ha⟩;let cD:a<Ws.length:=by
  rcases Z2 a Ws.length with z |z
  .exact z
  .exfalso;let e:a=Ws.length:=⋯;subst e;apply BN ok.sp ok.o9 bn ok.hB ok.rl ok.rb (λx hx=>?_) base dn;let⟨w,hw,rfl⟩:=Zd.mp hx;let o:=bf.ok w hw;have:=o.ne;exact(o.wv (w.length-1) ⋯).2.1
 let wm:Ws.getD a []∈Ws:=j4 cD;let ajf:=bf.len;generalize hw:Ws.getD a []=w at wm;let ow:=bf.ok w wm;let ow0:=ow.ne;let SV:aX w<g:=(ow.wv (w.length-1) ⋯).2.1;let To:∀Vs:List m5,fY ((Ws++Vs).map λw=>AV.im (eK w)) ((a:Nat):Int)=some (AV.im (eK w)):=λVs=>by
  rw[bT (mX (d:=([]:m5)) (show a<(Ws++Vs).length by rw[Zu];omega)),oj cD,hw]
 let HG:=To [];rw[Ym] at HG;let ul:=ok.sp.ul;let Sf:fY (U.map λx=>AV.im (PyData.int x)) ((aX w:Nat):Int)=some (AV.im (.int (U.getD (aX w) 0))):=bT (mX ⋯);apply⟨_,_,Bc,HG,_,kr ow0,_,(),_,_,ab9 hu,Sf,dI,λhc=>?_,λhc=>?_⟩
 .let hc:U.getD (aX w) 0=0:=of_decide_eq_true hc;apply⟨_,_,Bc,HG,_,kr ow0,_,(),?_⟩;show Go _ _ [Φ9 (.tuple (B.map aP)),some (.own k),some (.own ku),Φ9 (.int (b:Int)),some (.own O.length),some (.vU (O.length+1)),Φ9 (.int ((a:Nat):Int)),Φ9 (.int ((aX w:Nat):Int)),y8,y9] (St Ws);let Tq:=tb.len;let ml:=ok.sp.v4.len;apply⟨_,(tb.kX (gr Ws)).hd,⟨by rw[Zb];omega,by rw[Zb];omega⟩,?_⟩;rw[Zb,Z1];apply⟨λi sl O'=>∃(Vs:List m5) (y8 y9:Option AV),sl=[Φ9 (.tuple (B.map aP)),some (.own k),some (.own ku),Φ9 (.int (b:Int)),some (.own O.length),some (.vU (O.length+1)),Φ9 (.int ((a:Nat):Int)),Φ9 (.int ((aX w:Nat):Int)),y8,y9]/\O'=St (Ws++Vs)/\BF B M n g b (Ws++Vs)/\∀p,p<i->0<en M p (aX w)->∀x∈B.getD p [],x.toNat∈bX (Ws++Vs),⟨[],y8,y9,(),by rw[Ym],by rw[Ym];exact bf,λp hp=>absurd hp ⋯⟩,?_,?_⟩
  .rintro i x sl O' hx ⟨Vs,y8,y9,rfl,rfl,Hb,pr⟩;let⟨hi,rfl⟩:=GO hx;rw[Tq,ml] at hi;let⟨g1,g2,g3⟩:=(tb.kX (gr (Ws++Vs))).get (i:=i) (j:=aX w) ⋯ (by rw[ok.sp.v4.row i hi];exact SV);apply⟨_,_,(tb.kX (gr (Ws++Vs))).hd,g1,_,_,g2,g3,λhp=>?_,λhp=>?_⟩
   .let hp:0<en M i (aX w):=of_decide_eq_true hp;apply⟨_,DF i hi,?_⟩;conv=>whnf
    apply⟨λj sl O'=>∃(Vs:List m5) (y9:Option AV),sl=[Φ9 (.tuple (B.map aP)),some (.own k),some (.own ku),Φ9 (.int (b:Int)),some (.own O.length),some (.vU (O.length+1)),Φ9 (.int ((a:Nat):Int)),Φ9 (.int ((aX w:Nat):Int)),Φ9 (.int (i:Int)),y9]/\O'=St (Ws++Vs)/\BF B M n g b (Ws++Vs)/\(∀p,p<i->0<en M p (aX w)->∀x∈B.getD p [],x.toNat∈bX (Ws++Vs))/\∀x∈(B.getD i []).take j,x.toNat∈bX (Ws++Vs),⟨Vs,y9,(),(),Hb,pr,λx hx=>(by cases hx)⟩,?_,?_⟩
    .rintro j x sl O' hx ⟨Vs,y9,rfl,rfl,Hb,pr,pj⟩;let⟨hj,rfl⟩:=eX hx;let hxm:(B.getD i []).getD j 0∈B.getD i []:=j4 hj;let⟨x0,xg⟩:=ok.hB i hi _ hxm;let xn:=rP x0;let Um:=Hb.len;let ml2:(gN (Ws++Vs)).length=(Ws++Vs).length:=by unfold gN bX;simp
     apply⟨gN (Ws++Vs),UM,λhk=>?_,λhk=>?_⟩
     .let hk:(!jB (gN (Ws++Vs)) ((B.getD i []).getD j 0))=true:=hk;let hn:((B.getD i []).getD j 0).toNat∉bX (Ws++Vs):=λz=>by
       have:=(sy (Ws++Vs) _).mpr z;rw[xn] at this;rw[this] at hk;cases hk
      apply⟨gN (Ws++Vs),UM,⋯,?_⟩;rw[Vh];apply⟨⟨⟨_,Bc⟩,_,_,Bc,To Vs,jA,Il,?_,?_⟩⟩
      .rw[Zb,sz];have:=ow.len;show w.length+1<=_;omega
      .apply⟨_,Bc,by rw[Zb,sz];omega,?_⟩;let ZS:aX (w++[(i,((B.getD i []).getD j 0).toNat)])=((B.getD i []).getD j 0).toNat:=qr;let bf2:=Hb.push (Y6 Vs wm) hi xg (by rw[xn];exact hxm) hp hn;let e2:putD (gN (Ws++Vs)) ((B.getD i []).getD j 0) (.bool true)=gN (Ws++Vs++[w++[(i,((B.getD i []).getD j 0).toNat)]]):=by
        rw[<- Kl (by rw[ZS];exact hn),ZS,xn]
       let l2:bX (Ws++Vs++[w++[(i,((B.getD i []).getD j 0).toNat)]])=bX (Ws++Vs)++[((B.getD i []).getD j 0).toNat]:=by
        unfold bX;rw[Zs (l₁:=Ws++Vs),Zn,List.map_nil,ZS]
       apply⟨Vs++[w++[(i,((B.getD i []).getD j 0).toNat)]],Φ9 (.int ((B.getD i []).getD j 0)),(),?_,by rw[<- Ys];exact bf2,λp hp h0 x hx=>?_,λx hx=>?_⟩
       .rw[Vi,e2,<- Ys];show O++[some (_++[_]),_]=O++[some ((Ws++Vs++[w++[(i,((B.getD i []).getD j 0).toNat)]]).map λw=>AV.im (eK w)),_];rw[Zs (l₁:=Ws++Vs)]
        congr 4
        show _=[AV.im (eK (w++[(i,((B.getD i []).getD j 0).toNat)]))];unfold eK;rw[Zs (l₁:=w)];show _=[AV.im (.list (w.map de++[.tuple [.int (i:Int),.int ((((B.getD i []).getD j 0).toNat:Nat):Int)]]))];rw[xn]
       .rw[<- Ys,l2];exact Y6 _ (pr p hp h0 x hx)
       .rw[<- Ys,l2];rw[RH (0:Int) hj] at hx;rcases Zw.mp hx with hx |hx
        .exact Y6 _ (pj x hx)
        .rw[Zy.mp hx];exact Yl _ (by simp)
     .let hk:(!jB (gN (Ws++Vs)) ((B.getD i []).getD j 0))=false:=hk;apply⟨Vs,Φ9 (.int ((B.getD i []).getD j 0)),(),(),Hb,pr,λx hx=>?_⟩;rw[RH (0:Int) hj] at hx;rcases Zw.mp hx with hx |hx
      .exact pj x hx
      .rw[Zy.mp hx];apply(sy (Ws++Vs) _).mp ?_;rw[xn];cases z:jB (gN (Ws++Vs)) ((B.getD i []).getD j 0) with
       |true=>rfl
       |false=>rw[z] at hk;cases hk
    .rintro sl O' ⟨Vs,y9,rfl,rfl,Hb,pr,pj⟩;rw[Zb,Zb,Yp] at pj;apply⟨Vs,_,_,(),(),Hb,λp ZJ h0 z hz=>?_⟩;by_cases e:p=i
     .subst e;exact pj z hz
     .exact pr p ⋯ h0 z hz
   .let hp:¬ 0<en M i (aX w):=of_decide_eq_false hp;apply⟨Vs,_,_,(),(),Hb,λp ZJ h0 x hx=>?_⟩;by_cases e:p=i
    .subst e;exact absurd h0 hp
    .exact pr p ⋯ h0 x hx
  .rintro sl O' ⟨Vs,y8,y9,rfl,rfl,Hb,pr⟩;rw[CK,Tq,ml] at pr;apply⟨⟨_,(),g-a,⋯,Ws++Vs,a+1,Φ9 (.int ((aX w:Nat):Int)),y8,y9,⋯,?_,(),Hb,λx hx=>?_,λt ht=>?_,by rw[Zu];omega⟩⟩
   .rfl
   .unfold bX;rw[Zs];exact Y6 _ (base x hx)
   .rcases Z2 t a with z |z
    .exact dn.app ha Vs t z
    .have:t=a:=⋯;subst this;rw[oj cD,hw];exact⟨hc,pr⟩
 .let hc:U.getD (aX w) 0≠0:=of_decide_eq_false hc;exact⟨⟨_,_,Bc,HG,h w _ ow hc (gr Ws)⟩⟩
def D2 (h:t<w.length):fY (w.map de) ((t:Nat):Int)=some (de (bJ w t)):=bT (mX h)
def zf:FM:=λO xs P _=>∃(B M:Γ1) (U:Γ3) (n g b k ku:Nat) (ks:List Nat) (w:m5) (left:Int),xs=[.im (eK w),.own k,.own ku,.im (.int left)]/\oR O k ks M/\O[ku]?=some (cI U)/\yF M n g/\U.length=g/\g<=6/\kc B M n g b w/\0<left/\0<U.getD (aX w) 0/\∀c:Int,0<c->c<=left->c<=U.getD (aX w) 0->(∀t,t+1<w.length->c<=en M (bJ w (t+1)).1 (bJ w t).2)->P (.im (.int c)) O
abbrev OD:Δ2:=["way","spent","unsold","left","bounds"]
def L7:MS:=(be (bH (cL 3 [1,0] (HW (af (Ib (ah 0) (Ia (mC (.int 1))) Ih) ao)) (kP 2 (aG (bm 0) (aG (kP 2 (aG (bm 1) (aG (bm 2) ck))) ck))) eC (bB cO (bB cO (ah 3) (ah 1)) (bB cO (bB cO (ah 4) (ah 0)) (mC (.int 1))))) (bm 4))
 (cE (jZ NV (af (bB j7 (ah 4) (A7 (af (bB cO (ah 2) (bB cO (bB cO (ah 0) (A6 (mC (.int 1)))) (mC (.int 1)))) (af (ah 3) ao)))) ao))))
def Jr:∀O xs Pq QX,zf O xs Pq QX->L7 { nx:=λ_ O'=>Pq (.im .none) O',rt:=Pq } (bp OD xs) O:=by
 intro O xs Pq QX h;let⟨B,M,U,n,g,b,k,ku,ks,w,left,rfl,tb,hu,sh,ul,g6,ok,l0,u0,h⟩:=h;let w0:=ok.ne;let wl:=ok.len;let abS:cutD (w.map de) (some 1) none=(w.drop 1).map de:=by
  have:=qy (xs:=w.map de) (r:=1) ⋯ (by rw[Zb];omega);rw[this,List.map_drop];rfl
 let RS:(w.drop 1).length=w.length-1:=by rw[Qo]
 let el:(cQ ((w.drop 1).map de)).length=w.length-1:=by unfold cQ;simp
 show CB 3 [1,0] _ _ _ _ _ (cQ (cutD (w.map de) (some 1) none)) O;rw[abS];apply⟨by rw[el];omega,λi ds O'=>O'=O/\ds=(List.range i).map λt=>.int (en M (bJ w (t+1)).1 (bJ w t).2),⟨(),()⟩,?_,?_⟩
 .rintro i x ds O' hx ⟨rfl,rfl⟩;let⟨hi,rfl⟩:=ji hx;rw[Zb,RS] at hi;let ed:((w.drop 1).map de).getD i .none=de (bJ w (i+1)):=by
   rw[mZ (a:=((0,0):Nat×Nat)) (by rw[RS];exact hi)];unfold bJ
   congr 1
   simp[List.getD,List.getElem?_drop,Nat.add_comm]
  rw[ed];let⟨d1,d2,_⟩:=ok.wv (i+1) ⋯;let⟨e1,e2,_⟩:=ok.wv i ⋯;let⟨g1,g2,g3⟩:=tb.get (i:=(bJ w (i+1)).1) (j:=(bJ w i).2) (by rw[sh.len];exact d1) (by rw[sh.row _ d1];exact e2);apply⟨(),(),λ_=>⟨_,_,tb.hd,g1,_,D2 ⋯,_,(),_,_,g2,g3,(),?_⟩,λz=>(by cases z)⟩;rw[Xc,Zs];rfl
 .rintro ds O' ⟨rfl,rfl⟩;rw[el];let Sf:fY (U.map λx=>AV.im (PyData.int x)) ((aX w:Nat):Int)=some (AV.im (.int (U.getD (aX w) 0))):=bT (mX (by rw[ul];exact(ok.wv (w.length-1) ⋯).2.1));apply⟨_,kr w0,_,(),_,_,hu,Sf,jA,?_,((List.range (w.length-1)).map λt=>en M (bJ w (t+1)).1 (bJ w t).2)++[U.getD (aX w) 0,left],?_,by simp,λc hc hm=>?_⟩
  .rw[Zb,Y3,sz];show w.length-1+2<=_;omega
  .rw[Zs,Zp];rfl
  .let eP:0<c:=by
    rcases Zw.mp hc with z |z
    .obtain⟨t,ht,rfl⟩:=Zd.mp z;have:=Zh.mp ht;exact ok.lnk t ⋯
    .rcases Zk.mp z with rfl |z
     .exact u0
     .rw[Zy.mp z];exact l0
   exact h c eP (hm _ (Yl _ (by simp))) (hm _ (Yl _ (by simp))) λt ht=>hm _ (Y6 _ (Zd.mpr ⟨t,Zh.mpr ⋯,()⟩))
structure HD (O O':bF)(ks:List Nat):Prop where
 len:O'.length=O.length
 GN:∀m:Nat,m∉ks->O'[m]?=O[m]?
def HD.refl (O:bF)(ks:List Nat):HD O O ks:=⟨(),λ_ _=>rfl⟩
def HD.set (h:HD O O' ks)(hm:m∈ks)(c:Option (List AV)):HD O (O'.set m c) ks:=⟨by rw[Yo];exact h.len,λj hj=>by rw[Ya (λ(e:m=j)=>hj (e▸hm))];exact h.GN j hj⟩
def za:FM:=λO xs P _=>∃(B M:Γ1) (n g b k:Nat) (ks:List Nat) (w:m5) (c:Int),xs=[.im (eK w),.own k,.im (.int c)]/\oR O k ks M/\(k::ks).Nodup/\yF M n g/\kc B M n g b w/\∀O',oR O' k ks (b9 M w c w.length)->HD O O' ks->P (.im .none) O'
abbrev UW:Δ2:=["way","spent","coins","at","payer","good"]
def LY:MS:=(l3 (HW (af (ah 0) ao)) (kP 2 (aG (bm 3) (aG (kP 2 (aG (bm 4) (aG (bm 5) ck))) ck))) (be (yT (bB cO (ah 1) (ah 4)) (ah 5) (wM λi j=>i+j) (ah 2))
 (jz (cV (bB G8 (ah 3) (mC (.int 0)))) (yT (bB cO (ah 1) (ah 4)) (bB cO (bB cO (ah 0) (bB NG (ah 3) (mC (.int 1)))) (mC (.int 1))) (wM λi j=>i-j) (ah 2)) eF)))
theorem uH (s:yF M n g)(ok:kc B M n g b w):∀t,t<=w.length->yF (b9 M w c t) n g
 |0,_=>s
 |t+1,ht=>by
  let ih:=uH (c:=c) s ok t ⋯;let d1:=(ok.wv t ⋯).1;show yF (if 0<t then _ else _) n g;split
  .exact jg (jg ih d1 _) d1 _
  .exact jg ih d1 _
def Jm:∀O xs Pq QX,za O xs Pq QX->LY { nx:=λ_ O'=>Pq (.im .none) O',rt:=Pq } (bp UW xs) O:=by
 intro O xs Pq QX h;let⟨B,M,n,g,b,k,ks,w,c,rfl,tb,nd,sh,ok,h⟩:=h;let el:(cQ (w.map de)).length=w.length:=by unfold cQ;simp
 conv=>whnf
 apply⟨λi sl O'=>∃y3 y4 y5:Option AV,sl=[Φ9 (eK w),some (.own k),Φ9 (.int c),y3,y4,y5]/\oR O' k ks (b9 M w c i)/\HD O O' ks,⟨none,none,none,(),tb,HD.refl _ _⟩,?_,?_⟩
 .rintro i x sl O' hx ⟨y3,y4,y5,rfl,t1,GN⟩;let⟨hi,rfl⟩:=ji hx;rw[Zb] at hi;rw[show(w.map de).getD i .none=de (bJ w i) from mZ hi];let⟨d1,d2,_⟩:=ok.wv i hi;let s1:=uH (c:=c) sh ok i ⋯;let kl:ks.length=n:=by rw[t1.len,s1.len]
  let Up:ks.getD (bJ w i).1 0∈ks:=mem_getD ⋯;let⟨g1,g2,g3⟩:=t1.get (i:=(bJ w i).1) (j:=(bJ w i).2) (by rw[s1.len];exact d1) (by rw[s1.row _ d1];exact d2);apply⟨(),(),_,_,t1.hd,g1,_,_,_,g2,g3,yW (by rw[Zb,s1.row _ d1];exact d2),_,g2,(),?_⟩;show Go _ _ [Φ9 (eK w),some (.own k),Φ9 (.int c),Φ9 (.int (i:Int)),Φ9 (.int ((bJ w i).1:Int)),Φ9 (.int ((bJ w i).2:Int))] (O'.set (ks.getD (bJ w i).1 0) (some ((((b9 M w c i).getD (bJ w i).1 []).map λx=>AV.im (PyData.int x)).set (bJ w i).2 (.im (.int (en (b9 M w c i) (bJ w i).1 (bJ w i).2+c))))));rw[rH];let t2:=t1.put (((b9 M w c i).getD (bJ w i).1 []).set (bJ w i).2 (en (b9 M w c i) (bJ w i).1 (bJ w i).2+c)) (i:=(bJ w i).1) (by rw[s1.len];exact d1) nd;let TY:=GN.set Up (cI (((b9 M w c i).getD (bJ w i).1 []).set (bJ w i).2 (en (b9 M w c i) (bJ w i).1 (bJ w i).2+c)))
  change oR _ k ks (gc (b9 M w c i) (bJ w i).1 (bJ w i).2 c) at t2
  let s2:=jg (j:=(bJ w i).2) s1 d1 c;apply⟨λhc=>?_,λhc=>?_⟩
  .let hc:0<i:=by have:=of_decide_eq_true hc;omega
   let⟨e1,e2,_⟩:=ok.wv (i-1) ⋯;let⟨g1,g2,g3⟩:=t2.get (i:=(bJ w i).1) (j:=(bJ w (i-1)).2) (by rw[s2.len];exact d1) (by rw[s2.row _ d1];exact e2);let wa:fY (w.map de) ((i:Int)-1)=some (de (bJ w (i-1))):=by
    have:=D2 (w:=w) (t:=i-1) ⋯
    rwa [show((i-1:Nat):Int)=(i:Int)-1 by omega] at this
   apply⟨_,_,t2.hd,g1,_,wa,_,(),_,_,_,g2,g3,yW (by rw[Zb,s2.row _ d1];exact e2),_,g2,(),?_⟩;apply⟨_,_,_,(),?_,?_⟩
   .show oR (List.set _ _ (some ((((gc (b9 M w c i) (bJ w i).1 (bJ w i).2 c).getD (bJ w i).1 []).map λx=>AV.im (PyData.int x)).set (bJ w (i-1)).2 (.im (.int (en (gc (b9 M w c i) (bJ w i).1 (bJ w i).2 c) (bJ w i).1 (bJ w (i-1)).2-c)))))) k ks _;rw[rH,Int.sub_eq_add_neg];let un:b9 M w c (i+1)=gc (gc (b9 M w c i) (bJ w i).1 (bJ w i).2 c) (bJ w i).1 (bJ w (i-1)).2 (-c):=by show(if 0<i then _ else _)=_;rw[if_pos hc]
    rw[un];exact t2.put _ (by rw[s2.len];exact d1) nd
   .exact TY.set Up _
  .let hc:¬ 0<i:=by have:=of_decide_eq_false hc;omega
   let un:b9 M w c (i+1)=gc (b9 M w c i) (bJ w i).1 (bJ w i).2 c:=by show(if 0<i then _ else _)=_;rw[if_neg hc]
   exact⟨_,_,_,(),by rw[un];exact t2,TY⟩
 .rintro sl O' ⟨y3,y4,y5,rfl,t1,GN⟩;rw[el] at t1;exact h O' t1 GN
structure Oi (B:Γ1)(ms ps:Γ3)(n g:Nat):Prop where
 ml:ms.length=g
 pl:ps.length=n
 bl:B.length=n
 n6:n<=6
 g6:g<=6
 m0:∀j,j<g->0<=ms.getD j 0
 p0:∀i,i<n->0<=ps.getD i 0
 hB:∀i,i<n->∀x∈B.getD i [],0<=x/\x.toNat<g
 b6:∀i,i<n->(B.getD i []).length<=6
 nd:∀i,i<n->(B.getD i []).Nodup
 o9:OG B ms ps n g
 GK:sm g (λj=>ms.getD j 0)=sm n (λi=>ps.getD i 0)
def rS:FM:=λO xs P _=>∃(B:Γ1) (ms ps:Γ3) (n g:Nat),xs=[.im (.tuple (B.map aP)),.im (cy ms),.im (cy ps)]/\Oi B ms ps n g/\∀(M:Γ1) (O':bF),zn B M ms ps n g->d5 O O'->P (.im (T5 M)) O'
abbrev OC:Δ2:=["best","money","purses","spent","unsold","buyer","purse","left","way","coins"]
def Ew:MS:=(be (bH (k7 1 [1] (cK (ah 2)) (bm 0) eC (k7 1 [] (cK (ah 1)) (bm 0) eC (mC (.int 0)))) (bm 3))
 (be (bH (jZ NX (af (ah 1) ao)) (bm 4))
 (be (l3 (HW (af (ah 2) ao)) (kP 2 (aG (bm 5) (aG (bm 6) ck))) (be (bH (ah 6) (bm 7))
 (rR (cV (bB G8 (ah 7) (mC (.int 0)))) (be (bH (aC Iy cb (af (ah 0) (af (ah 3) (af (ah 4) (af (ah 5) ao))))) (bm 8))
 (be (bH (aC zf cb (af (ah 8) (af (ah 3) (af (ah 4) (af (ah 7) ao))))) (bm 9))
 (be (uj (aC za cb (af (ah 8) (af (ah 3) (af (ah 9) ao)))))
 (be (yT (ah 4) (bB cO (bB cO (ah 8) (A6 (mC (.int 1)))) (mC (.int 1))) (wM λi j=>i-j) (ah 9))
 (DL 7 (wM λi j=>i-j) (ah 9)))))))))
 (DK 3 (cE (ah 3))))))
structure ua (O O':bF)(k ku:Nat)(ks:List Nat)(M:Γ1)(U:Γ3):Prop where
 one:One O O' k ks M
 Wo:O.length<=ku
 Sd:ku∉k::ks
 u:O'[ku]?=some (cI U)
def ua.kX (s:ua O O1 k ku ks M U)(h:d5 O1 O2):ua O O2 k ku ks M U:=by
 apply⟨⟨?_,s.one.ge,s.one.nd,s.one.t.kX h⟩,s.Wo,s.Sd,?_⟩
 .obtain⟨a,rfl⟩:=s.one.kX;let⟨b,rfl⟩:=h;exact⟨a++b,by rw[Ys]⟩
 .obtain⟨b,rfl⟩:=h;rw[Zq (Zf.mp s.u).1];exact s.u
def Gi (g:d5 O O1)(o:HD O1 O2 ks)(h:∀x∈ks,O.length<=x):d5 O O2:=by
 let⟨a,rfl⟩:=g;apply⟨O2.drop O.length,?_⟩;let e:O2.take O.length=O:=by
  apply Qk λi=>?_
  rw[List.getElem?_take];split
  .rename_i hi;rw[o.GN i (λz=>by have:=h i z;omega),Zq hi]
  .rename_i hi;rw[Yu (Xb hi)]
 have:=(List.take_append_drop O.length O2).symm;rw[e] at this;exact this
def jj:en (List.replicate n (List.replicate g (0:Int))) i j=0:=by
 unfold en;by_cases hi:i<n
 .rw[show(List.replicate n (List.replicate g (0:Int))).getD i []=List.replicate g 0 by simp[List.getD,Y7,hi]];by_cases hj:j<g
  .simp[List.getD,Y7,hj]
  .simp[List.getD,Y7,hj]
 .rw[show(List.replicate n (List.replicate g (0:Int))).getD i []=[] by simp[List.getD,Y7,hi]];simp[List.getD]
def Ff:∀O xs Pq QX,rS O xs Pq QX->Ew { nx:=λ_ O'=>Pq (.im .none) O',rt:=Pq } (bp OC xs) O:=by
 intro O xs Pq QX h;let⟨B,ms,ps,n,g,rfl,ok,h⟩:=h;let ml:=ok.ml;let pl:=ok.pl;let n6:=ok.n6;let g6:=ok.g6;letI Z:Γ1:=List.replicate n (List.replicate g (0:Int));let zl:Z.length=n:=Qn;let zr:∀i,i<n->Z.getD i []=List.replicate g 0:=λi hi=>by simp[Z,List.getD,Y7,hi]
 conv=>whnf
 let hl:((ps.map PyData.int).map AV.im).length=n:=by simp[pl]
 apply⟨⋯,λi zs O'=>zs=qX O.length i/\O'=O++(Z.take i).map cI,⟨(),by simp⟩,?_,?_⟩
 .rintro i x zs O' hx ⟨rfl,rfl⟩;let hi:i<n:=by have:=(Zf.mp hx).1;omega
  apply⟨λ_=>?_,λz=>(by cases z)⟩;conv=>whnf
  apply qA (λ_ d=>d=.im (.int 0)) (by rw[Zb,Zb];omega) (λj x Z hx hZ=>hZ _ rfl) (λzs YX hz=>?_);rw[Zb,Zb,ml] at YX;let ez:zs=(List.replicate g (0:Int)).map λx=>AV.im (PyData.int x):=by
   apply Qk λj=>?_
   rw[List.map_replicate,Y7];by_cases hj:j<zs.length
   .rw[if_pos ⋯,Zc hj,hz j _ (Zc hj)]
   .rw[if_neg ⋯,Yu (Xb hj)]
  subst ez;apply⟨?_,?_⟩
  .rw[BG];simp[Nat.min_eq_left (Nat.le_of_lt hi),zl]
  .rw[List.take_add_one,Zc (show i<Z.length by omega),Zs,<- Ys]
   congr 1
   have:=zr i hi;rw[ay (Zc (show i<Z.length by omega))] at this;show _=[cI Z[i]];rw[this];rfl
 rintro zs O' ⟨rfl,rfl⟩;rw[hl,show Z.take n=Z by rw[<- zl,Yp],Ys];let eL:(O++Z.map cI).length=O.length+n:=by simp[zl]
 rw[eL];let qY:One O (O++(Z.map cI++[some (qX O.length n)])) (O.length+n) ((List.range n).map λt=>O.length+t) Z:=by
  apply⟨⟨_,()⟩,λx hx=>?_,?_,⟨?_,by simp[zl],λi hi=>?_⟩⟩
  .rcases Zk.mp hx with rfl |hx
   .omega
   .obtain⟨t,_,rfl⟩:=Zd.mp hx;omega
  .apply Yc.mpr ⟨λhx=>?_,?_⟩
   .obtain⟨t,ht,e⟩:=Zd.mp hx;have:=Zh.mp ht;omega
   .exact List.Pairwise.map _ (λa b RV=>⋯) X5
  .have:=GH cI O (some (qX O.length n)) Z;rw[zl] at this;rw[this,FE]
  .rw[zl] at hi;have:((List.range n).map λt=>O.length+t).getD i 0=O.length+i:=by simp[List.getD,Yy hi]
   rw[this];exact KQ cI O _ Z i [] ⋯
 generalize hk:O.length+n=k at qY ⊢;generalize hks:((List.range n).map λt=>O.length+t)=ks at qY;generalize hO1:O++(Z.map cI++[some (qX O.length n)])=O1 at qY ⊢;show Go _ _ [Φ9 (.tuple (B.map aP)),Φ9 (cy ms),Φ9 (cy ps),some (.own k),none,none,none,none,none,none] O1;apply⟨?_⟩;let l1:k<O1.length:=(Zf.mp qY.t.hd).1;let MU:ua O (O1++[cI ms]) k O1.length ks Z ms:=by
  apply⟨⟨qY.kX.app _,qY.ge,qY.nd,qY.t.app _⟩,?_,λz=>?_,by simp⟩
  .obtain⟨t,rfl⟩:=qY.kX;simp
  .rcases Zk.mp z with e |z
   .omega
   .rw[<- hks] at z;let⟨t,ht,e⟩:=Zd.mp z;have:=Zh.mp ht;omega
 let sp0:Lv B Z ms ms n g:=by
  apply⟨⟨zl,λi hi=>by rw[zr i hi];simp⟩,λi j=>by rw[jj];exact Xn _,λi j _ _ h0=>?_,ml,ok.m0,λj hj=>?_⟩
  .rw[jj] at h0;omega
  .have:pc Z n j=0:=fM λi _=>jj
   omega
 let NP:∀i,fb Z g i=0:=λi=>fM λj _=>jj
 show Go _ _ [Φ9 (.tuple (B.map aP)),Φ9 (cy ms),Φ9 (cy ps),some (.own k),some (.own O1.length),none,none,none,none,none] (O1++[some ((ms.map PyData.int).map AV.im)]);rw[show(some ((ms.map PyData.int).map AV.im):Option (List AV))=cI ms by rw[Zp];rfl];generalize O1.length=ku at MU ⊢;generalize O1++[cI ms]=O2 at MU ⊢;let el:(cQ (ps.map PyData.int)).length=n:=by unfold cQ;simp[pl]
 apply⟨?_⟩;conv=>whnf
 apply⟨λi sl O'=>∃(M:Γ1) (U:Γ3) (y5 y6 y7 y8 y9:Option AV),sl=[Φ9 (.tuple (B.map aP)),Φ9 (cy ms),Φ9 (cy ps),some (.own k),some (.own ku),y5,y6,y7,y8,y9]/\ua O O' k ku ks M U/\Lv B M U ms n g/\(∀j,j<i->j<n->fb M g j=ps.getD j 0)/\∀j,i<=j->j<n->fb M g j=0,⟨Z,ms,none,none,none,none,none,(),MU,sp0,λj hj=>absurd hj ⋯,λj _ _=>NP j⟩,?_,?_⟩
 .rintro i x sl O' hx ⟨M,U,y5,y6,y7,y8,y9,rfl,st,sp,old,new⟩;let⟨hi,rfl⟩:=ji hx;rw[Zb,pl] at hi;rw[show(ps.map PyData.int).getD i .none=.int (ps.getD i 0) from mZ ⋯];apply⟨(),⟨?_⟩⟩;show Go _ _ [Φ9 (.tuple (B.map aP)),Φ9 (cy ms),Φ9 (cy ps),some (.own k),some (.own ku),Φ9 (.int (i:Int)),Φ9 (.int (ps.getD i 0)),Φ9 (.int (ps.getD i 0)),y8,y9] O';apply⟨⟨λm sl O'=>∃(M:Γ1) (U:Γ3) (left:Int) (y8 y9:Option AV),m=left.toNat/\0<=left/\sl=[Φ9 (.tuple (B.map aP)),Φ9 (cy ms),Φ9 (cy ps),some (.own k),some (.own ku),Φ9 (.int (i:Int)),Φ9 (.int (ps.getD i 0)),Φ9 (.int left),y8,y9]/\ua O O' k ku ks M U/\Lv B M U ms n g/\SpO M ps g n i left,⟨_,M,U,ps.getD i 0,y8,y9,(),ok.p0 i hi,(),st,sp,⟨λj hj hn=>old j hj hn,λ_=>by rw[new i (Ze _) hi];omega,λj hj hn=>new j ⋯ hn⟩⟩,?_⟩⟩;rintro m sl O3 ⟨M,U,left,y8,y9,rfl,l0,rfl,st,sp,so⟩;apply⟨λhc=>?_,λhc=>?_⟩
  .let hc:0<left:=of_decide_eq_true hc;let wy:UO B M U ms ps n g i:=by
    apply⟨sp,ok.o9,hi,ok.bl,n6,g6,ok.hB,ok.b6,ok.nd,λj hj=>?_,by have:=so.now hi;omega⟩;rcases Nat.lt_trichotomy j i with z |z |z
    .rw[so.old j z hj];exact Xn _
    .subst z;have:=so.now hi;omega
    .rw[so.new j z hj];exact ok.p0 j hj
   apply⟨B,M,U,ms,ps,n,g,i,k,ku,ks,(),st.one.t,st.u,wy,λw O4 Ss hu4 gr4=>?_⟩;let vZ:=st.kX gr4;let w0:=Ss.ne;let SV:aX w<g:=(Ss.wv (w.length-1) ⋯).2.1;let hu0:0<U.getD (aX w) 0:=by have:=sp.u0 _ SV;omega
   show Go _ _ [Φ9 (.tuple (B.map aP)),Φ9 (cy ms),Φ9 (cy ps),some (.own k),some (.own ku),Φ9 (.int (i:Int)),Φ9 (.int (ps.getD i 0)),Φ9 (.int left),Φ9 (eK w),y9] O4;apply⟨⟨B,M,U,n,g,i,k,ku,ks,w,left,(),vZ.one.t,vZ.u,sp.v4,sp.ul,g6,Ss,hc,hu0,λc c0 cl cu cw=>?_⟩⟩;show Go _ _ [Φ9 (.tuple (B.map aP)),Φ9 (cy ms),Φ9 (cy ps),some (.own k),some (.own ku),Φ9 (.int (i:Int)),Φ9 (.int (ps.getD i 0)),Φ9 (.int left),Φ9 (eK w),Φ9 (.int c)] O4;apply⟨⟨B,M,n,g,i,k,ks,w,c,(),vZ.one.t,vZ.one.nd,sp.v4,Ss,λO5 t5 GN=>?_⟩⟩;let oS:ua O O5 k ku ks (b9 M w c w.length) U:=⟨⟨Gi vZ.one.kX GN λx hx=>vZ.one.ge x (Zj _ hx),vZ.one.ge,vZ.one.nd,t5⟩,vZ.Wo,vZ.Sd,by rw[GN.GN ku (λz=>vZ.Sd (Zj _ z))];exact vZ.u⟩;let⟨sp6,so6⟩:=Ji sp so Ss ⋯ cw cu;let ul:=sp.ul;let Sf:fY (U.map λx=>AV.im (PyData.int x)) ((aX w:Nat):Int)=some (AV.im (.int (U.getD (aX w) 0))):=bT (mX ⋯);apply⟨⟨_,kr w0,_,(),_,_,_,oS.u,Sf,yW (by rw[Zb];show aX w<_;omega),_,oS.u,(),?_⟩⟩;show Go _ _ [Φ9 (.tuple (B.map aP)),Φ9 (cy ms),Φ9 (cy ps),some (.own k),some (.own ku),Φ9 (.int (i:Int)),Φ9 (.int (ps.getD i 0)),Φ9 (.int left),Φ9 (eK w),Φ9 (.int c)] (O5.set ku (some ((U.map λx=>AV.im (PyData.int x)).set (aX w) (.im (.int (U.getD (aX w) 0-c))))));rw[rH];let st6:ua O (O5.set ku (cI (U.set (aX w) (U.getD (aX w) 0-c)))) k ku ks (b9 M w c w.length) (U.set (aX w) (U.getD (aX w) 0-c)):=⟨⟨oS.one.kX.set oS.Wo _,oS.one.ge,oS.one.nd,oS.one.t.other _ oS.Sd⟩,oS.Wo,oS.Sd,by rw[Yk (Zf.mp oS.u).1]⟩;exact⟨⟨_,(),(left-c).toNat,⋯,_,_,left-c,Φ9 (eK w),Φ9 (.int c),(),⋯,(),st6,sp6,so6⟩⟩
  .let hc:¬ 0<left:=of_decide_eq_false hc;let e0:left=0:=⋯;subst e0;apply⟨M,U,_,_,_,_,_,(),st,sp,λj hj hn=>?_,λj hj hn=>so.new j ⋯ hn⟩;rcases Z2 j i with z |z
   .exact so.old j z hn
   .have:j=i:=⋯;subst this;have:=so.now hi;omega
 .rintro sl O' ⟨M,U,y5,y6,y7,y8,y9,rfl,st,sp,old,new⟩;rw[el] at old;apply⟨st.one.iz rfl λO2 gr=>?_⟩;exact h M O2 (Br sp (λj hj=>old j hj hj) ok.GK) gr
structure EZ (A:Γ3)(Pu:Δ1)(W:Γ1)(qs:Δ1)(kb:Nat)(c:Int)(ms ps:Γ3)(M:Γ1):Prop where
 c0:0<c
 im:cR c ms (gL A qs)
 ip:cR c ps Pu
 mb:∀m∈ms,Bd (13*kb+79) m
 pb:∀m∈ps,Bd (13*kb+79) m
 sp:zn (ar W qs) M ms ps Pu.length A.length
structure U4 (A:Γ3)(Pu:Δ1)(W:Γ1)(qs:Δ1)(kb:Nat):Prop where
 pr:nR A Pu W qs
 k2:20<=kb
 k3:kb<=293
 bd:∀z∈qs,Rb kb z
 ok:∀(c:Int) (ms ps:Γ3),0<c->cR c ms (gL A qs)->cR c ps Pu->Oi (ar W qs) ms ps Pu.length A.length
def II:FM:=λO xs P _=>∃(A:Γ3) (Pu:Δ1) (W:Γ1) (qs:Δ1) (kb:Nat),xs=[.im (fw A Pu W),.im (.tuple (qs.map qD))]/\U4 A Pu W qs kb/\∀(c:Int) (ms ps:Γ3) (M:Γ1) (O':bF),EZ A Pu W qs kb c ms ps M->d5 O O'->P (.im (HY (zi A ms M))) O'
abbrev U1:Δ2:=["market","prices","money","purses"]
def Uj:MS:=(be (bH (aC wJ cb (af (ah 0) (af (ah 1) ao))) (kP 2 (aG (bm 2) (aG (bm 3) ck))))
 (cE (aC IH cb (af (ah 0) (af (ah 2) (af (aC rS cb (af (aC xq cb (af (ah 0) (af (ah 1) ao))) (af (ah 2) (af (ah 3) ao)))) ao))))))
def V6 (s:zn B M ms ps n g)(hi:i<n)(hj:j<g):en M i j<=ms.getD j 0/\en M i j<=ps.getD i 0:=by
 constructor
 .rw[<- s.col j hj];exact lm (f:=λi=>en M i j) (λi _=>s.nn i j) hi
 .rw[<- s.row i hi];exact lm (f:=λj=>en M i j) (λj _=>s.nn i j) hj
def Ph:∀O xs Pq QX,II O xs Pq QX->Uj { nx:=λ_ O'=>Pq (.im .none) O',rt:=Pq } (bp U1 xs) O:=by
 intro O xs Pq QX h;let⟨A,Pu,W,qs,kb,rfl,ok,h⟩:=h;let mf:=AR ok.pr.ok;let hl:=ok.pr.len;apply⟨A,Pu,W,qs,kb,(),hl,mf.g6,mf.n6,mf.am,λz hz=>(mf.pu z hz).2,ok.k3,ok.k2,ok.bd,λc ms ps hc im ip mb pb=>?_⟩;apply⟨(),?_⟩;show Go _ _ [Φ9 (fw A Pu W),Φ9 (.tuple (qs.map qD)),Φ9 (cy ms),Φ9 (cy ps)] O;let so:=ok.ok c ms ps hc im ip;let k3:=ok.k3;apply⟨⟨A,Pu,W,qs,(),ok.pr,ar W qs,ms,ps,_,_,(),so,λM O' sp gr=>?_⟩⟩;let ml:=sp.v4.len;apply⟨A,Pu,W,ms,M,(),mf.g6,by rw[ml];exact mf.n6,so.ml,λi hi=>sp.v4.row i ⋯,λi j hi hj h0=>?_,h c ms ps M O' ⟨hc,im,ip,mb,pb,sp⟩ gr⟩;rw[ml] at hi;let h1:=(V6 sp hi hj).1;let h2:=mb _ (j4 (d:=0) (show j<ms.length by rw[so.ml];exact hj));let h3:=mf.am _ (j4 (d:=0) hj);apply⟨⟨⋯,h2.mono ⋯⟩,(h2.mono (show _<=8000 by omega)).le ⋯,?_⟩;exact IK ⋯
abbrev Hc:=Γ3×Rat×Δ1
inductive fK (A:Γ3) (Pu:Δ1) (W:Γ1):Δ1->List Hc->Prop
 |stop {qs:Δ1}:cA A Pu W qs->l7 A Pu qs W A.length->(∀Pd,cC A Pu qs W A.length Pd->aL A.length W Pd=[])->fK A Pu W qs []
 |step {qs:Δ1}{Pd:Γ3}{f:Rat}{L:List Hc}:cA A Pu W qs->l7 A Pu qs W A.length->cC A Pu qs W A.length Pd->aL A.length W Pd≠[]->jI (iy A Pu qs W A.length Pd) f->fK A Pu W (dS qs Pd f) L->fK A Pu W qs ((Pd,f,dS qs Pd f)::L)
def j8 (s:Hc):PyData:=.tuple [aP s.1,qD s.2.1,.tuple (s.2.2.map qD)]
def headD (L:List Hc):PyData:=match L with
 |[]=>.none
 |s::_=>j8 s
def eG (qs:Δ1)(L:List Hc):Δ1:=match L.getLast? with
 |some s=>s.2.2
 |none=>qs
def qc (s:fK A Pu W qs L)(h:P (.im (headD L)) O):pQ O [.im (fw A Pu W),.im (.tuple (qs.map qD))] P X:=by
 cases s with
 |stop rp d9 no=>exact⟨A,Pu,W,qs,(),rp,d9,λ_ _ _=>h,λPd f pd hr _=>absurd (no Pd pd) hr⟩
 |step rp d9 pd hr hm _=>exact⟨A,Pu,W,qs,(),rp,d9,λPd' Sr jM=>absurd (Sr.uniq pd▸jM) hr,λPd' f' Sr _ WL=>by
   let e1:=Sr.uniq pd;subst e1;let e2:=WL.uniq hm;subst e2;exact h⟩
def mM:FM:=λO xs P _=>∃(A:Γ3) (Pu:Δ1) (W:Γ1) (qs:Δ1) (L:List Hc),xs=[.im (fw A Pu W),.im (.tuple (qs.map qD))]/\fK A Pu W qs L/\L.length<=1000000/\∀O',d5 O O'->P (.im (.list (L.map j8))) O'
abbrev UX:Δ2:=["market","prices","told","step"]
def Af:MS:=(be (bH (Ie ao) (bm 2))
 (be (bH (aC pQ cb (af (ah 0) (af (ah 1) ao))) (bm 3))
 (be (rR (cV (bB (sC true) (ah 3) (mC .none))) (be (uj (Ij (ah 2) (af (ah 3) ao)))
 (bH (aC pQ cb (af (ah 0) (af (bB cO (ah 3) (mC (.int 2))) ao))) (bm 3))))
 (Ii 2 (cE (ah 2))))))
def By:∀O xs Pq QX,mM O xs Pq QX->Af { nx:=λ_ O'=>Pq (.im .none) O',rt:=Pq } (bp UX xs) O:=by
 intro O xs Pq QX h;let⟨A,Pu,W,qs,L,rfl,st,hL,h⟩:=h;apply⟨Im,?_⟩;show Go _ _ [Φ9 (fw A Pu W),Φ9 (.tuple (qs.map qD)),some (.own O.length),none] (O++[some []]);apply⟨qc (X:=cb) (P:=λx O1=>Go _ _ [Φ9 (fw A Pu W),Φ9 (.tuple (qs.map qD)),some (.own O.length),some x] O1) st ?_⟩;show Go _ _ [Φ9 (fw A Pu W),Φ9 (.tuple (qs.map qD)),some (.own O.length),Φ9 (headD L)] (O++[some []]);letI Iv:Nat->j5->bF->Prop:=λm sl O'=>∃(L1 L2:List Hc) (q2:Δ1),L=L1++L2/\m=L2.length/\sl=[Φ9 (fw A Pu W),Φ9 (.tuple (qs.map qD)),some (.own O.length),Φ9 (headD L2)]/\O'=O++[some ((L1.map j8).map AV.im)]/\fK A Pu W q2 L2
 apply⟨⟨Iv,⟨L.length,[],L,qs,(),(),(),(),st⟩,?_⟩⟩;rintro m sl O' ⟨L1,L2,q2,eL,rfl,rfl,rfl,fE⟩;cases fE with
 |stop rp d9 no =>
  apply⟨λz=>absurd z ∅,λ_=>⟨⟨O.length,L1.map j8,(),lc _ _,?_⟩⟩⟩;rw[Ym] at eL;subst eL;rw[mj];exact h _ ⟨_,()⟩
 |step rp d9 pd hr hm Sj =>
  rename_i Pd f L3;apply⟨λ_=>?_,λz=>(by cases z)⟩;let cF:L1.length+(L3.length+1)<=1000000:=by rw[eL] at hL;simpa using hL
  apply⟨⟨_,lc _ _⟩,_,lc _ _,by rw[Zb,Zb,sz];omega,?_⟩;rw[mj];show Go _ _ [Φ9 (fw A Pu W),Φ9 (.tuple (qs.map qD)),some (.own O.length),Φ9 (headD ((Pd,f,dS q2 Pd f)::L3))] _;apply⟨⟨_,(),qc (X:=cb) (P:=λx O1=>∃m',m'<((Pd,f,dS q2 Pd f)::L3).length/\Iv m' [Φ9 (fw A Pu W),Φ9 (.tuple (qs.map qD)),some (.own O.length),some x] O1) Sj ⟨L3.length,by simp,L1++[(Pd,f,dS q2 Pd f)],L3,_,by rw[eL];simp,(),(),?_,Sj⟩⟩⟩;rw[Zs,Zs];rfl
def IB:FM:=λO xs P _=>∃(qs:Δ1) (L:List Hc),xs=[.im (.tuple (qs.map qD)),.im (.list (L.map j8))]/\P (.im (.tuple ((eG qs L).map qD))) O
abbrev U0:Δ2:=["prices","told"]
def Uc:MS:=(cE (SA (Dh (ah 1)) (bB cO (bB cO (ah 1) (A6 (mC (.int 1)))) (mC (.int 2))) (ah 0)))
def OY:∀O xs Pq QX,IB O xs Pq QX->Uc { nx:=λ_ O'=>Pq (.im .none) O',rt:=Pq } (bp U0 xs) O:=by
 intro O xs Pq QX h;let⟨qs,L,rfl,h⟩:=h;apply⟨(),?_⟩;show((!(L.map j8).isEmpty)=true->_)/\((!(L.map j8).isEmpty)=false->_);rw[Jb];apply⟨λe=>?_,λe=>?_⟩
 .let bv:L≠[]:=λz=>by subst z;cases e
  obtain⟨s,hs⟩:∃s,L.getLast?=some s:=by
   cases hg:L.getLast? with
   |none=>exact absurd (List.getLast?_eq_none_iff.mp hg) bv
   |some s=>exact⟨s,()⟩
  let hp:0<L.length:=Xi.mpr bv;let hL:L.getD (L.length-1) ([],0,[])=s:=by
   rw[List.getLast?_eq_getElem?] at hs;exact ay hs
  let ha:fY (L.map j8) (-1)=some (j8 s):=by
   rw[EU (d:=.none) (by rw[Zb];exact hp),Zb,mZ (a:=([],0,[])) ⋯,hL]
  apply⟨_,ha,_,(),?_⟩;unfold eG at h;rw[hs] at h;exact h
 .let bv:L=[]:=by cases L with |nil=>rfl |cons _ _=>cases e
  subst bv;exact h
def MB:FM:=λO xs P _=>∃(A:Γ3) (Pu:Δ1) (W:Γ1),xs=[.im (fw A Pu W)]/\eO (fw A Pu W)=true/\(∀r∈W,br A.length r)/\∀qs,jJ A Pu W A.length qs->P (.im (.tuple (qs.map qD))) O
def VU:pL K NK MB:=λw O H vs xs P PX Q E r a hf q x=>by
 let⟨A,Pu,W,rfl,ok,good,hf⟩:=hf;let⟨v,us,rfl,a1,a2⟩:=a.aW;rw[a2.cj];let⟨p,pa,pp,pw,xa,xp,xw,rfl,mk,la,lp⟩:=NU 0 a1 ok;apply⟨0,p,pa,pp,pw,xa,xp,xw,_,_,_,(),mk,by rw[M3,la];exact good,λt ys qs H' s ht fr hF=>?_⟩;rw[oi,gF,M3,la] at hF;let⟨r1,e1,_⟩:=r.ak s;exact q _ _ O w H' (hf qs hF) e1 r1 (XQ r1 (.tup ht (EM (b:=0) fr)) (rO qs))
def zd:FM:=λO xs P _=>∃(A:Γ3) (Pu:Δ1) (W:Γ1),xs=[.im (fw A Pu W)]/\eO (fw A Pu W)=true/\(∀r∈W,br A.length r)/\∀qs,jJ A Pu W A.length qs->∃L,fK A Pu W qs L/\L.length<=1000000/\∀O',d5 O O'->P (.im (.tuple ((eG qs L).map qD))) O'
abbrev UZ:Δ2:=["market","first"]
def L5:MS:=(be (bH (aC MB cb (af (ah 0) ao)) (bm 1))
 (cE (aC IB cb (af (ah 1) (af (aC mM cb (af (ah 0) (af (ah 1) ao))) ao)))))
def Jp:∀O xs Pq QX,zd O xs Pq QX->L5 { nx:=λ_ O'=>Pq (.im .none) O',rt:=Pq } (bp UZ xs) O:=by
 intro O xs Pq QX h;let⟨A,Pu,W,rfl,ok,good,h⟩:=h;apply⟨A,Pu,W,(),ok,good,λqs hF=>?_⟩;let⟨L,st,hL,h⟩:=h qs hF;show Go _ _ [Φ9 (fw A Pu W),Φ9 (.tuple (qs.map qD))] O;exact⟨⟨A,Pu,W,qs,L,(),st,hL,λO' gr=>⟨qs,L,(),h O' gr⟩⟩⟩
structure U5 (A:Γ3)(Pu:Δ1)(W:Γ1)(kb:Nat):Prop where
 ism:eO (fw A Pu W)=true
 good:∀r∈W,br A.length r
 go:∀qs,jJ A Pu W A.length qs->∃L,fK A Pu W qs L/\L.length<=1000000/\U4 A Pu W (eG qs L) kb
def rW:FM:=λO xs P _=>∃(A:Γ3) (Pu:Δ1) (W:Γ1) (kb:Nat),xs=[.im (fw A Pu W)]/\U5 A Pu W kb/\∀(fs:Δ1) (L:List Hc) (c:Int) (ms ps:Γ3) (M:Γ1) (O':bF),jJ A Pu W A.length fs->fK A Pu W fs L->EZ A Pu W (eG fs L) kb c ms ps M->d5 O O'->P (.im (.tuple [.tuple ((eG fs L).map qD),HY (zi A ms M)])) O'
abbrev U2:Δ2:=Ψ8
def EB:MS:=(be (bH (aC zd cb (af (ah 0) ao)) (bm 1))
 (cE (gO (af (ah 1) (af (aC II cb (af (ah 0) (af (ah 1) ao))) ao)))))
def Fl:∀O xs Pq QX,rW O xs Pq QX->EB { nx:=λ_ O'=>Pq (.im .none) O',rt:=Pq } (bp U2 xs) O:=by
 intro O xs Pq QX h;let⟨A,Pu,W,kb,rfl,ok,h⟩:=h;apply⟨A,Pu,W,(),ok.ism,ok.good,λfs hF=>?_⟩;let⟨L,st,hL,da⟩:=ok.go fs hF;apply⟨L,st,hL,λO1 g1=>?_⟩;show Go _ _ [Φ9 (fw A Pu W),Φ9 (.tuple ((eG fs L).map qD))] O1;exact⟨⟨A,Pu,W,eG fs L,kb,(),da,λc ms ps M O2 dl g2=>⟨jA,h fs L c ms ps M O2 hF st dl (yi g1 g2)⟩⟩⟩
end MI
namespace C6
open L2 KG EX KM MI
section
def abi:ai UY ["coins","money","amount"] (bA (top 62)):=L2.cZ
def PQ (F:cG K "pieces_for" "pieces_for" (top 62) f fd)(N:Nm mg)(Fr:bN K mg P w base "fraction" 2 ["top","bottom"] (lV (wC Nn)) fFr dFr):aI P w K mg base bY 3 f fd ["coins","money","amount"] (cT K IA) :=
 j3 F abi (λO xs P PX h=>by let⟨_,_,_,rfl,_⟩:=h;rfl) (λbD A outer s H E QX hr=>⟨Ub,(dw (iC (yS (sY gq j9 (mv 0) cB (aJ _)) (Hh Fr Mn hr (aE (wW (mv 0) (mv 2)) (aE (mv 1) aV))) (sX (aE cB (aE cB aV)))))),λO xs Pq h=>OX O xs Pq QX h⟩)
def abl:ai OE ["market","money","spent"] (bA (top 61)):=L2.cZ
def PY (F:cG K "dealing_by" "dealing_by" (top 61) f fd)(N:Nm mg)(Pf:bN K mg P w base "pieces_for" 3 ["coins","money","amount"] (cT K IA) fPf dPf):aI P w K mg base bY 4 f fd ["market","money","spent"] (cT K IH) :=
 j3 F abl (λO xs P PX h=>by let⟨_,_,_,_,_,rfl,_⟩:=h;rfl) (λbD A outer s H E QX hr=>⟨Ui,(dw (iC (AT gx gf (by rfl) N.tuple pG (aE (pF (own:=["row"]) (cap:=["market","money"]) (ix:=[0,1]) (aM.of (bA (top 61)).names OE) rfl (oV (mv 2)) (pH ∅)
 (λC fp s H=>⟨(eW (gj (i:=0) (Ψ9 ["row","market","money"]) rfl (Or.inr rfl))),qG,(AT gx gf (by rfl) N.tuple pG (aE (pF (own:=["good","amount"]) (cap:=["money","row"]) (ix:=[2,0]) (aM.of [(".0",.local),("row",.cell),("tuple",.globalImplicit),("enumerate",.globalImplicit),("market",.cell),("money",.cell)] ["row","market","money"]) rfl (sx rfl N.enumerate Hm (aE (cU (mv 1) cB) aV)) (RE (GU ∅ (GU ∅ gG)))
 (λC fp s H=>⟨(vP rfl (iF (dY (i:=0) (Ψ9 ["good","amount","money","row"])) (iF (dY (i:=1) (Ψ9 ["good","amount","money","row"])) vQ))),qG,(cM Pf ir hr (aE (cU (mv 3) (mv 0)) (aE (cU (mv 2) (mv 0)) (aE (mv 1) aV))))⟩)) aV))⟩)) aV)))),λO xs Pq h=>Pe O xs Pq QX h⟩)
def tU:ai IN ["best","spent","unsold","buyer"] (bA (top 64)):=L2.cZ
def PL (F:cG K "way_to_unsold" "way_to_unsold" (top 64) f fd)(N:Nm mg)  : aI P w K mg base bY 1 f fd ["best","spent","unsold","buyer"] (cT K Iy) :=
 j3 F tU (λO xs P PX h=>by let⟨_,_,_,_,_,_,_,_,_,_,_,rfl,_⟩:=h;rfl) (λbD A outer s H E QX hr=>⟨T8,(cY (uV (i:=4) tU.nd rfl rfl (own:=["good"]) (cap:=["buyer"]) (ix:=[3]) (aM.of (bA (top 64)).names IN) rfl (oV (cU (mv 0) (mv 3))) (pH ∅)
 (λC fp s H=>⟨(dY (i:=0) (Ψ9 ["good","buyer"])),qG,(nL (aE (sX (aE (mv 1) (aE (mv 0) aV))) aV))⟩))
 (cY (FT (i:=5) tU.nd rfl rfl (own:=["good"]) (cap:=[]) (ix:=[]) (aM.of (bA (top 64)).names IN) rfl (oV (cU (mv 0) (mv 3))) (pH ∅)
 (λC fp s H=>⟨(dY (i:=0) (Ψ9 ["good"])),qG,(mv 0),lM⟩))
 (cY (ja (i:=6) tU.nd cB)
 (cY (og PassesOwn.never (sY (ug hr.units) uk (cU (mv 2) (cU (cU (cU (mv 4) (mv 6)) (nK cB)) cB)) cB (aJ _)) (cY (ja (i:=7) tU.nd (cU (cU (cU (mv 4) (mv 6)) (nK cB)) cB))
 (cY (fo PassesOwn.never rfl (K6 rfl N.range (aE (wf et k8 (by rfl) N.len Yi (aE (mv 1) aV)) aV)) (dY (i:=8) tU.nd) (dw (fJ (sY gq j9 (cU (cU (mv 1) (mv 8)) (mv 7)) cB (aJ _)) (dw (fo PassesOwn.never rfl (oV (cU (mv 0) (mv 8))) (dY (i:=9) tU.nd) (dw (fJ (BP (yY hr) (mv 9) (mv 5)) (cY (Ki (yY hr) (mv 5) (mv 9) lM)
 (dw (mH (xc (mv 4) (aE (fq (cU (mv 4) (mv 6)) (nL (aE (sX (aE (mv 8) (aE (mv 9) aV))) aV))) aV))))) yz)))) yz)))
 (dw (Ac (i:=6) tU.nd rfl (Or.inl rfl) EK nN cB)))))
 (dw (iC (cU (mv 4) (mv 6)))))))),λO xs Pq h=>OU O xs Pq QX h⟩)
def TR:ai OD ["way","spent","unsold","left"] (bA (top 65)):=L2.cZ
def J4 (F:cG K "most_along" "most_along" (top 65) f fd)(N:Nm mg)  : aI P w K mg base bY 1 f fd ["way","spent","unsold","left"] (cT K zf) :=
 j3 F TR (λO xs P PX h=>by let⟨_,_,_,_,_,_,_,_,_,_,_,rfl,_⟩:=h;rfl) (λbD A outer s H E QX hr=>⟨L7,(cY (Kg (i:=4) TR.nd rfl rfl (own:=["at","payer","good"]) (cap:=["spent","way"]) (ix:=[1,0]) (aM.of (bA (top 65)).names OD) rfl (oh rfl N.enumerate Hm (aE (lu (mv 0) (su cB) sv) aV)) (RE (x9 ∅ ∅ ∅))
 (λC fp s H=>⟨(vP rfl (iF (dY (i:=0) (Ψ9 ["at","payer","good","spent","way"])) (iF (vP rfl (iF (dY (i:=1) (Ψ9 ["at","payer","good","spent","way"])) (iF (dY (i:=2) (Ψ9 ["at","payer","good","spent","way"])) vQ))) vQ))),qG,(cU (cU (mv 3) (mv 1)) (cU (cU (mv 4) (mv 0)) cB))⟩))
 (dw (iC (wf (Wa rfl) QD (by rfl) N.min boot_min (aE (fq (mv 4) (nL (aE (cU (mv 2) (cU (cU (mv 0) (nK cB)) cB)) (aE (mv 3) aV)))) aV))))),λO xs Pq h=>Jr O xs Pq QX h⟩)
def HK:ai UW ["way","spent","coins"] (bA (top 66)):=L2.cZ
def JV (F:cG K "send_along" "send_along" (top 66) f fd)(N:Nm mg)  : aI P w K mg base bY 1 f fd ["way","spent","coins"] (cT K za) :=
 j3 F HK (λO xs P PX h=>by let⟨_,_,_,_,_,_,_,_,_,rfl,_⟩:=h;rfl) (λbD A outer s H E QX hr=>⟨LY,(dw (fo PassesOwn.never rfl (oh rfl N.enumerate Hm (aE (mv 0) aV)) (vP rfl (iF (dY (i:=3) HK.nd) (iF (vP rfl (iF (dY (i:=4) HK.nd) (iF (dY (i:=5) HK.nd) vQ))) vQ))) (cY (ss (cU (mv 1) (mv 4)) (mv 5) EK nN (mv 2))
 (dw (fJ (sY gq j9 (mv 3) cB (aJ _)) (dw (ss (cU (mv 1) (mv 4)) (cU (cU (mv 0) (Es (mv 3) cB)) cB) xk nN (mv 2))) yz))))),λO xs Pq h=>Jm O xs Pq QX h⟩)
def qT:ai OC ["best","money","purses"] (bA (top 63)):=L2.cZ
def FJ (F:cG K "spend" "spend" (top 63) f fd)(N:Nm mg)(Wy:bN K mg P w base "way_to_unsold" 1 ["best","spent","unsold","buyer"] (cT K Iy) fWy dWy)(Mo:bN K mg P w base "most_along" 1 ["way","spent","unsold","left"] (cT K zf) fMo dMo)(Se:bN K mg P w base "send_along" 1 ["way","spent","coins"] (cT K za) fSe dSe):aI P w K mg base bY 2 f fd ["best","money","purses"] (cT K rS) :=
 j3 F qT (λO xs P PX h=>by let⟨_,_,_,_,_,rfl,_⟩:=h;rfl) (λbD A outer s H E QX hr=>⟨Ew,(cY (uV (i:=3) qT.nd rfl rfl (own:=["purse"]) (cap:=["money"]) (ix:=[1]) (aM.of (bA (top 63)).names OC) rfl (oV (mv 2)) (pH ∅)
 (λC fp s H=>⟨(dY (i:=0) (Ψ9 ["purse","money"])),qG,(FV (own:=["coins"]) (cap:=[]) (ix:=[]) (aM.of [(".0",.local),("purse",.local),("money",.cell)] ["purse","money"]) rfl (oV (mv 1)) (pH ∅)
 (λC fp s H=>⟨(dY (i:=0) (Ψ9 ["coins"])),qG,cB⟩))⟩))
 (cY (ja (i:=4) qT.nd (AT DY Kr (by rfl) N.list boot_list (aE (mv 1) aV)))
 (cY (fo PassesOwn.never rfl (oh rfl N.enumerate Hm (aE (mv 2) aV)) (vP rfl (iF (dY (i:=5) qT.nd) (iF (dY (i:=6) qT.nd) vQ))) (cY (ja (i:=7) qT.nd (mv 6))
 (dw (og PassesOwn.never (sY gq j9 (mv 7) cB (aJ _)) (cY (ja (i:=8) qT.nd (cM Wy ir hr (aE (mv 0) (aE (mv 3) (aE (mv 4) (aE (mv 5) aV))))))
 (cY (ja (i:=9) qT.nd (cM Mo ir hr (aE (mv 8) (aE (mv 3) (aE (mv 4) (aE (mv 7) aV))))))
 (cY (mH (cM Se ir hr (aE (mv 8) (aE (mv 3) (aE (mv 9) aV)))))
 (cY (ss (mv 4) (cU (cU (mv 8) (nK cB)) cB) xk nN (mv 9))
 (dw (Ac (i:=7) qT.nd rfl (Or.inl rfl) xk nN (mv 9)))))))))))
 (Kh 3 (dw (iC (mv 3))))))),λO xs Pq h=>Ff O xs Pq QX h⟩)
def NN:ai U1 Ψ8 (bA (top 60)):=L2.cZ
def PZ (F:cG K "dealing_at" "dealing_at" (top 60) f fd)(N:Nm mg)(Ic:bN K mg P w base "in_coins" 5 Ψ8 (cT K wJ) fIc dIc)(Bg:bN K mg P w base "best_goods" 6 Ψ8 (lV (nB Pr)) χ dBg)(Sp:bN K mg P w base "spend" 2 ["best","money","purses"] (cT K rS) τ dSp)(Db:bN K mg P w base "dealing_by" 4 ["market","money","spent"] (cT K IH) fDb dDb):aI P w K mg base bY 7 f fd Ψ8 (cT K II) :=
 j3 F NN (λO xs P PX h=>by let⟨_,_,_,_,_,rfl,_⟩:=h;rfl) (λbD A outer s H E QX hr=>⟨Uj,(cY (jR (cM Ic ir hr (aE (mv 0) (aE (mv 1) aV))) (vP rfl (iF (dY (i:=2) NN.nd) (iF (dY (i:=3) NN.nd) vQ))))
 (dw (iC (cM Db ir hr (aE (mv 0) (aE (mv 2) (aE (cM Sp ir hr (aE (Hh Bg uZ hr (aE (mv 0) (aE (mv 1) aV))) (aE (mv 2) (aE (mv 3) aV)))) aV))))))),λO xs Pq h=>Ph O xs Pq QX h⟩)
def HL:ai UX Ψ8 (bA (top 55)):=L2.cZ
def FK (F:cG K "rises" "rises" (top 55) f fd)(N:Nm mg)(Ri:bN K mg P w base "rise" 9 Ψ8 (cT K pQ) fRi dRi):aI P w K mg base bY 10 f fd Ψ8 (cT K mM) :=
 j3 F HL (λO xs P PX h=>by let⟨_,_,_,_,_,rfl,_⟩:=h;rfl) (λbD A outer s H E QX hr=>⟨Af,(cY (ja (i:=2) HL.nd (wY aV))
 (cY (ja (i:=3) HL.nd (cM Ri ir hr (aE (mv 0) (aE (mv 1) aV))))
 (cY (og PassesOwn.never (sY zV Ko (mv 3) wZ (aJ _)) (cY (mH (xc (mv 2) (aE (mv 3) aV)))
 (dw (ja (i:=3) HL.nd (cM Ri ir hr (aE (mv 0) (aE (cU (mv 3) cB) aV)))))))
 (wV 2 (dw (iC (mv 2))))))),λO xs Pq h=>By O xs Pq QX h⟩)
def abj:ai U0 ["prices","told"] (bA (top 56)):=L2.cZ
def PR (F:cG K "prices_behind" "prices_behind" (top 56) f fd)(N:Nm mg)  : aI P w K mg base bY 1 f fd ["prices","told"] (cT K IB) :=
 j3 F abj (λO xs P PX h=>by let⟨_,_,rfl,_⟩:=h;rfl) (λbD A outer s H E QX hr=>⟨Uc,(dw (iC (yS (rQ (mv 1)) (cU (cU (mv 1) (nK cB)) cB) (mv 0)))),λO xs Pq h=>OY O xs Pq QX h⟩)
def TN:ai UZ ["market"] (bA (top 59)):=L2.cZ
def PP (F:cG K "prices_that_clear" "prices_that_clear" (top 59) f fd)(N:Nm mg)(FP:bN K mg P w base "first_prices" 4 ["market"] (lV NK) fFP dFP)(Rs:bN K mg P w base "rises" 10 Ψ8 (cT K mM) fRs dRs)(Pb:bN K mg P w base "prices_behind" 1 ["prices","told"] (cT K IB) fPb dPb):aI P w K mg base bY 11 f fd ["market"] (cT K zd) :=
 j3 F TN (λO xs P PX h=>by let⟨_,_,_,rfl,_⟩:=h;rfl) (λbD A outer s H E QX hr=>⟨L5,(cY (ja (i:=1) TN.nd (Hh FP VU hr (aE (mv 0) aV)))
 (dw (iC (cM Pb ir hr (aE (mv 1) (aE (cM Rs ir hr (aE (mv 0) (aE (mv 1) aV))) aV)))))),λO xs Pq h=>Jp O xs Pq QX h⟩)
def TU:ai U2 ["market"] (bA (top 58)):=L2.cZ
def FO (F:cG K "clear" "clear" (top 58) f fd)(N:Nm mg)(Pc:bN K mg P w base "prices_that_clear" 11 ["market"] (cT K zd) fPc dPc)(Da:bN K mg P w base "dealing_at" 7 Ψ8 (cT K II) fDa dDa):aI P w K mg base bY 12 f fd ["market"] (cT K rW) :=
 j3 F TU (λO xs P PX h=>by let⟨_,_,_,_,rfl,_⟩:=h;rfl) (λbD A outer s H E QX hr=>⟨EB,(cY (ja (i:=1) TU.nd (cM Pc ir hr (aE (mv 0) aV)))
 (dw (iC (sX (aE (mv 1) (aE (cM Da ir hr (aE (mv 0) (aE (mv 1) aV))) aV)))))),λO xs Pq h=>Fl O xs Pq QX h⟩)
end
section
def HJ:ai NWp ["market"] (bA (top 31)):=L2.cZ
def Eo (F:cG K "wished" "wished" (top 31) f fd)(N:Nm mg)  : aI P w K mg base bY 1 f fd ["market"] (cT K Dn) :=
 j3 F HJ (λO xs P PX h=>by let⟨_,_,_,rfl,_⟩:=h;rfl) (λbD A outer s H E QX hr=>⟨T7,(cY (jR (mv 0) (vP rfl (iF (dY (i:=1) HJ.nd) (iF (dY (i:=2) HJ.nd) (iF (eW (gj (i:=3) HJ.nd rfl (Or.inr rfl))) vQ)))))
 (dw (iC (AT gx gf (by rfl) N.tuple pG (aE (pF (own:=["good"]) (cap:=["wishes"]) (ix:=[3]) (aM.of (bA (top 31)).names NWp) rfl (K6 rfl N.range (aE (wf et k8 (by rfl) N.len Yi (aE (mv 1) aV)) aV)) (pH ∅)
 (λC fp s H=>⟨(eW (gj (i:=0) (Ψ9 ["good","wishes"]) rfl (Or.inr rfl))),(iR (eD (wf (zm rfl) xj (by rfl) N.any boot_any (aE (pF (own:=["row"]) (cap:=["good"]) (ix:=[0]) (aM.of [(".0",.local),("good",.cell),("any",.globalImplicit),("wishes",.cell)] ["good","wishes"]) rfl (oV (mv 1)) (pH ∅)
 (λC fp s H=>⟨(dY (i:=0) (Ψ9 ["row","good"])),qG,(w8 gq j9 (cU (mv 0) (mv 1)) cB (aJ _))⟩)) aV)))),(mv 0)⟩)) aV))))),λO xs Pq h=>OT O xs Pq QX h⟩)
def Vj:ai Op ["best","goods"] (bA (top 40)):=L2.cZ
def Ep (F:cG K "takers_by_best" "takers_by_best" (top 40) f fd)(N:Nm mg)  : aI P w K mg base bY 1 f fd ["best","goods"] (cT K Dp) :=
 j3 F Vj (λO xs P PX h=>by let⟨_,_,rfl,_⟩:=h;rfl) (λbD A outer s H E QX hr=>⟨T9,(dw (iC (AT gx gf (by rfl) N.tuple pG (aE (pF (own:=["buyer","row"]) (cap:=["goods"]) (ix:=[1]) (aM.of (bA (top 40)).names Op) rfl (sx rfl N.enumerate Hm (aE (mv 0) aV)) (RE (GU ∅ (GU ∅ gG)))
 (λC fp s H=>⟨(vP rfl (iF (dY (i:=0) (Ψ9 ["buyer","row","goods"])) (iF (dY (i:=1) (Ψ9 ["buyer","row","goods"])) vQ))),(iR (eD (wf (zm rfl) xj (by rfl) N.any boot_any (aE (pF (own:=["good"]) (cap:=["goods"]) (ix:=[2]) (aM.of [(".0",.local),("buyer",.local),("row",.local),("any",.globalImplicit),("goods",.cell)] ["buyer","row","goods"]) rfl (oV (mv 1)) (pH ∅)
 (λC fp s H=>⟨(dY (i:=0) (Ψ9 ["good","goods"])),qG,(w8 yR (yU false) (mv 0) (mv 1) (by rfl))⟩)) aV)))),(mv 0)⟩)) aV)))),λO xs Pq h=>OV O xs Pq QX h⟩)
def yQ:ai OF ["members"] (bA (top 42)):=L2.cZ
def zY (F:cG K "all_sets" "all_sets" (top 42) f fd)(N:Nm mg)  : aI P w K mg base bY 1 f fd ["members"] (cT K uw) :=
 j3 F yQ (λO xs P PX h=>by let⟨_,rfl,_⟩:=h;rfl) (λbD A outer s H E QX hr=>⟨Mg,(cY (ja (i:=1) yQ.nd (nL (aE (sX aV) aV)))
 (cY (fo PassesOwn.never rfl (oV (mv 0)) (eW (gj (i:=2) yQ.nd rfl (Or.inr rfl))) (dw (ja (i:=1) yQ.nd (fq (mv 1) (pF (own:=["some"]) (cap:=["member"]) (ix:=[2]) (aM.of (bA (top 42)).names OF) rfl (oV (mv 1)) (pH ∅)
 (λC fp s H=>⟨(dY (i:=0) (Ψ9 ["some","member"])),qG,(fq (mv 0) (sX (aE (mv 1) aV)))⟩))))))
 (dw (iC (mv 1))))),λO xs Pq h=>Jw O xs Pq QX h⟩)
def Vu:ai OB ["coins","some"] (bA (top 44)):=L2.cZ
def uT (F:cG K "coins_of" "coins_of" (top 44) f fd)(N:Nm mg)  : aI P w K mg base bY 1 f fd ["coins","some"] (cT K k9) :=
 j3 F Vu (λO xs P PX h=>by let⟨_,_,rfl,_⟩:=h;rfl) (λbD A outer s H E QX hr=>⟨EA,(dw (iC (wf (MJ rfl) QB (by rfl) N.sum boot_sum (aE (pF (own:=["number"]) (cap:=["coins"]) (ix:=[0]) (aM.of (bA (top 44)).names OB) rfl (oV (mv 1)) (pH ∅)
 (λC fp s H=>⟨(dY (i:=0) (Ψ9 ["number","coins"])),qG,(cU (mv 1) (mv 0))⟩)) aV)))),λO xs Pq h=>Fk O xs Pq QX h⟩)
def Vp:ai Oy Ψ8 (bA (top 36)):=L2.cZ
def J5 (F:cG K "money_by_good" "money_by_good" (top 36) f fd)(N:Nm mg)(mz:mg "zip"=none)(Ti:bN K mg P w base "times" 3 ["one","other"] (lV (AL pE)) fTi dTi):aI P w K mg base bY 4 f fd Ψ8 (cT K IE) :=
 j3 F Vp (λO xs P PX h=>by let⟨_,_,_,_,rfl,_⟩:=h;rfl) (λbD A outer s H E QX hr=>⟨Uf,(dw (iC (pF (own:=["amount","price"]) (cap:=[]) (ix:=[]) (aM.of (bA (top 36)).names Oy) rfl (Ev rfl mz boot_zip (aE (cU (mv 0) cB) (aE (mv 1) aV))) (RE (GU ∅ (GU ∅ gG)))
 (λC fp s H=>⟨(vP rfl (iF (dY (i:=0) (Ψ9 ["amount","price"])) (iF (dY (i:=1) (Ψ9 ["amount","price"])) vQ))),qG,(Hh Ti rf hr (aE (sX (aE (mv 0) (aE cB aV))) (aE (mv 1) aV)))⟩)))),λO xs Pq h=>O0 O xs Pq QX h⟩)
def yM:ai Ow ["parts"] (bA (top 16)):=L2.cZ
def J1 (F:cG K "on_one_bottom" "on_one_bottom" (top 16) f fd)(N:Nm mg)(Gn:bN K mg P w base "common_divisor" 1 ["one","other"] rC fGn dGn):aI P w K mg base bY 2 f fd ["parts"] (cT K ID) :=
 j3 F yM (λO xs P PX h=>by let⟨_,_,rfl,_⟩:=h;rfl) (λbD A outer s H E QX hr=>⟨Ue,(cY (k6 (i:=1) yM.nd rfl (Or.inr rfl) cB)
 (cY (fo PassesOwn.never rfl (oV (mv 0)) (dY (i:=2) yM.nd) (dw (k6 (i:=1) yM.nd rfl (Or.inr rfl) (wW (Eu (mv 1) (cM Gn Kt hr (aE (mv 1) (aE (cU (mv 2) cB) aV)))) (cU (mv 2) cB)))))
 (dw (iC (pF (own:=["part"]) (cap:=["bottom"]) (ix:=[1]) (aM.of (bA (top 16)).names Ow) rfl (oV (mv 0)) (pH ∅)
 (λC fp s H=>⟨(dY (i:=0) (Ψ9 ["part","bottom"])),qG,(wW (cU (mv 0) cB) (Eu (mv 1) (cU (mv 0) cB)))⟩)))))),λO xs Pq h=>OZ O xs Pq QX h⟩)
def DE:ai UV Ψ8 (bA (top 43)):=L2.cZ
def zX (F:cG K "in_coins" "in_coins" (top 43) f fd)(N:Nm mg)(Oo:bN K mg P w base "on_one_bottom" 2 ["parts"] (cT K ID) fOo dOo)(Mb:bN K mg P w base "money_by_good" 4 Ψ8 (cT K IE) fMb dMb):aI P w K mg base bY 5 f fd Ψ8 (cT K wJ) :=
 j3 F DE (λO xs P PX h=>by let⟨_,_,_,_,_,rfl,_⟩:=h;rfl) (λbD A outer s H E QX hr=>⟨Uh,(cY (ja (i:=2) DE.nd (cM Oo ir hr (aE (fq (cM Mb ir hr (aE (mv 0) (aE (mv 1) aV))) (AT DY EF (by rfl) N.list boot_list (aE (cU (mv 0) cB) aV))) aV)))
 (cY (ja (i:=3) DE.nd (wf et k8 (by rfl) N.len Yi (aE (cU (mv 0) cB) aV)))
 (dw (iC (sX (aE (lu (mv 2) sv (su (mv 3))) (aE (lu (mv 2) (su (mv 3)) sv) aV))))))),λO xs Pq h=>Pa O xs Pq QX h⟩)
def Vr:ai OA ["best","paid"] (bA (top 49)):=L2.cZ
def J7 (F:cG K "loosened" "loosened" (top 49) f fd)(N:Nm mg)  : aI P w K mg base bY 1 f fd ["best","paid"] (cT K uv) :=
 j3 F Vr (λO xs P PX h=>by let⟨_,_,rfl,_⟩:=h;rfl) (λbD A outer s H E QX hr=>⟨L8,(dw (iC (AT gx gf (by rfl) N.tuple pG (aE (pF (own:=["row"]) (cap:=["paid"]) (ix:=[1]) (aM.of (bA (top 49)).names OA) rfl (oV (mv 0)) (pH ∅)
 (λC fp s H=>⟨(dY (i:=0) (Ψ9 ["row","paid"])),qG,(yS (eD (wf (zm rfl) xj (by rfl) N.any boot_any (aE (pF (own:=["good"]) (cap:=["paid"]) (ix:=[1]) (aM.of [(".0",.local),("row",.local),("any",.globalImplicit),("paid",.cell)] ["row","paid"]) rfl (oV (mv 0)) (pH ∅)
 (λC fp s H=>⟨(dY (i:=0) (Ψ9 ["good","paid"])),qG,(w8 yR (yU false) (mv 0) (mv 1) (by rfl))⟩)) aV))) (sX aV) (mv 0))⟩)) aV)))),λO xs Pq h=>Js O xs Pq QX h⟩)
def Vl:ai Ot ["prices","rising","factor"] (bA (top 52)):=L2.cZ
def JY (F:cG K "raised" "raised" (top 52) f fd)(N:Nm mg)(Ti:bN K mg P w base "times" 3 ["one","other"] (lV (AL pE)) fTi dTi):aI P w K mg base bY 4 f fd ["prices","rising","factor"] (cT K zb) :=
 j3 F Vl (λO xs P PX h=>by let⟨_,_,_,rfl,_⟩:=h;rfl) (λbD A outer s H E QX hr=>⟨L4,(dw (iC (AT gx gf (by rfl) N.tuple pG (aE (pF (own:=["good","price"]) (cap:=["factor","rising"]) (ix:=[2,1]) (aM.of (bA (top 52)).names Ot) rfl (sx rfl N.enumerate Hm (aE (mv 0) aV)) (RE (GU ∅ (GU ∅ gG)))
 (λC fp s H=>⟨(vP rfl (iF (dY (i:=0) (Ψ9 ["good","price","factor","rising"])) (iF (dY (i:=1) (Ψ9 ["good","price","factor","rising"])) vQ))),qG,(yS (sY yR (yU false) (mv 0) (mv 3) (by rfl)) (Hh Ti rf hr (aE (mv 1) (aE (mv 2) aV))) (mv 1))⟩)) aV)))),λO xs Pq h=>Jo O xs Pq QX h⟩)
def yN:ai UU ["parts"] (bA (top 14)):=L2.cZ
def FN (F:cG K "least" "least" (top 14) f fd)(N:Nm mg)(Ls:bN K mg P w base "less" 1 ["one","other"] iM υ dLs):aI P w K mg base bY 2 f fd ["parts"] (cT K rV) :=
 j3 F yN (λO xs P PX h=>by let⟨_,rfl,_⟩:=h;rfl) (λbD A outer s H E QX hr=>⟨Ey,(cY (ja (i:=1) yN.nd (cU (mv 0) cB))
 (cY (fo PassesOwn.never rfl (oV (mv 0)) (dY (i:=2) yN.nd) (dw (fJ (eD (cM Ls ia hr (aE (mv 2) (aE (mv 1) aV)))) (dw (ja (i:=1) yN.nd (mv 2))) yz)))
 (dw (iC (mv 1))))),λO xs Pq h=>Fi O xs Pq QX h⟩)
def DD:ai Ou ["market","prices","loose","rising"] (bA (top 50)):=L2.cZ
def JZ (F:cG K "paying_factors" "paying_factors" (top 50) f fd)(N:Nm mg)(Ic:bN K mg P w base "in_coins" 5 Ψ8 (cT K wJ) fIc dIc)(Fr:bN K mg P w base "fraction" 2 ["top","bottom"] (lV (wC Nn)) fFr dFr)(Co:bN K mg P w base "coins_of" 1 ["coins","some"] (cT K k9) fCo dCo)(Tb:bN K mg P w base "takers_by_best" 1 ["best","goods"] (cT K Dp) fTb dTb)(As:bN K mg P w base "all_sets" 1 ["members"] (cT K uw) fAs dAs):aI P w K mg base bY 6 f fd ["market","prices","loose","rising"] (cT K ze) :=
 j3 F DD (λO xs P PX h=>by let⟨_,_,_,_,_,rfl,_⟩:=h;rfl) (λbD A outer s H E QX hr=>⟨L6,(cY (jR (cM Ic ir hr (aE (mv 0) (aE (mv 1) aV))) (vP rfl (iF (eW (gj (i:=4) DD.nd rfl (Or.inr rfl))) (iF (eW (gj (i:=5) DD.nd rfl (Or.inr rfl))) vQ))))
 (dw (iC (pF (own:=["some"]) (cap:=["loose","money","purses"]) (ix:=[2,4,5]) (aM.of (bA (top 50)).names Ou) rfl (oV (cM As ir hr (aE (mv 3) aV))) (pH ∅)
 (λC fp s H=>⟨(dY (i:=0) (Ψ9 ["some","loose","money","purses"])),(iR (rQ (mv 0))),(Hh Fr Mn hr (aE (cM Co ir hr (aE (mv 3) (aE (cM Tb ir hr (aE (mv 1) (aE (mv 0) aV))) aV))) (aE (cM Co ir hr (aE (mv 2) (aE (mv 0) aV))) aV)))⟩))))),λO xs Pq h=>Jq O xs Pq QX h⟩)
def Vo:ai Ox ["market","prices","loose","paid"] (bA (top 51)):=L2.cZ
def FL (F:cG K "meeting_factors" "meeting_factors" (top 51) f fd)(N:Nm mg)(mz:mg "zip"=none)(Ov:bN K mg P w base "over" 3 ["one","other"] (lV (nA Nn)) fOv dOv)(Ra:bN K mg P w base "rate" 4 ["wish","price"] rB fRa dRa):aI P w K mg base bY 5 f fd ["market","prices","loose","paid"] (cT K rT) :=
 j3 F Vo (λO xs P PX h=>by let⟨_,_,_,_,_,rfl,_⟩:=h;rfl) (λbD A outer s H E QX hr=>⟨Ex,(dw (iC (FW (own:=["row","best","good"]) (cap:=["paid","prices"]) (ix:=[3,1]) (aM.of (bA (top 51)).names Ox) rfl (Ev rfl mz boot_zip (aE (cU (mv 0) cB) (aE (mv 2) aV))) (RE (GU ∅ (GU ∅ gG)))
 (λC fp s H=>⟨(vP rfl (iF (dY (i:=0) (Ψ9 ["row","best","good","paid","prices"])) (iF (dY (i:=1) (Ψ9 ["row","best","good","paid","prices"])) vQ))),(iR (rQ (mv 1))),(Kk (mv 3)),(dY (i:=2) (Ψ9 ["row","best","good","paid","prices"])),(iR (sY gq j9 (cU (mv 0) (mv 2)) cB (aJ _))),(Hh Ov Kn hr (aE (cM Ra Ah hr (aE (cU (mv 0) (cU (mv 1) cB)) (aE (cU (mv 4) (cU (mv 1) cB)) aV))) (aE (cM Ra Ah hr (aE (cU (mv 0) (mv 2)) (aE (cU (mv 4) (mv 2)) aV))) aV)))⟩)))),λO xs Pq h=>Fh O xs Pq QX h⟩)
def nk:ai Oq Ψ8 (bA (top 48)):=L2.cZ
def JW (F:cG K "rise" "rise" (top 48) f fd)(N:Nm mg)(Pg:bN K mg P w base "paid_goods" 8 Ψ8 (lV (NJ De)) fPg dPg)(Wi:bN K mg P w base "wished" 1 ["market"] (cT K Dn) fWi dWi)(Bg:bN K mg P w base "best_goods" 6 Ψ8 (lV (nB Pr)) χ dBg)(Lo:bN K mg P w base "loosened" 1 ["best","paid"] (cT K uv) fLo dLo)(Pf:bN K mg P w base "paying_factors" 6 ["market","prices","loose","rising"] (cT K ze) fPf dPf)(Mf:bN K mg P w base "meeting_factors" 5 ["market","prices","loose","paid"] (cT K rT) fMf dMf)(Le:bN K mg P w base "least" 2 ["parts"] (cT K rV) fLe dLe)(Rs:bN K mg P w base "raised" 4 ["prices","rising","factor"] (cT K zb) fRs dRs):aI P w K mg base bY 9 f fd Ψ8 (cT K pQ) :=
 j3 F nk (λO xs P PX h=>by let⟨_,_,_,_,rfl,_⟩:=h;rfl) (λbD A outer s H E QX hr=>⟨LZ,(cY (k6 (i:=2) nk.nd rfl (Or.inr rfl) (Hh Pg VS hr (aE (mv 0) (aE (mv 1) aV))))
 (cY (ja (i:=3) nk.nd (AT gx gf (by rfl) N.tuple pG (aE (pF (own:=["good"]) (cap:=["paid"]) (ix:=[2]) (aM.of (bA (top 48)).names Oq) rfl (oV (cM Wi ir hr (aE (mv 0) aV))) (pH ∅)
 (λC fp s H=>⟨(dY (i:=0) (Ψ9 ["good","paid"])),(iR (sY PD (yU true) (mv 0) (mv 1) (by rfl))),(mv 0)⟩)) aV)))
 (cY (fJ (wU (rQ (mv 3))) (dw (iC wZ)) yz)
 (cY (ja (i:=4) nk.nd (Hh Bg uZ hr (aE (mv 0) (aE (mv 1) aV))))
 (cY (ja (i:=5) nk.nd (cM Pf ir hr (aE (mv 0) (aE (mv 1) (aE (cM Lo ir hr (aE (mv 4) (aE (mv 2) aV))) (aE (mv 3) aV))))))
 (cY (ja (i:=6) nk.nd (cM Mf ir hr (aE (mv 0) (aE (mv 1) (aE (cM Lo ir hr (aE (mv 4) (aE (mv 2) aV))) (aE (mv 2) aV))))))
 (cY (ja (i:=7) nk.nd (cM Le ir hr (aE (fq (mv 5) (mv 6)) aV)))
 (dw (iC (sX (aE (mv 2) (aE (mv 7) (aE (cM Rs ir hr (aE (mv 1) (aE (mv 3) (aE (mv 7) aV)))) aV))))))))))))),λO xs Pq h=>Jn O xs Pq QX h⟩)
end
end C6
namespace C6
open L2 KG EX KM
section
def NL:ai ["market","buyer","row"] ["market"] (bA (top 32)):=L2.cZ
def VF (F:cG K "wishless" "wishless" (top 32) f fd)(N:Nm mg):aI P w K mg base bY 1 f fd ["market"] TB:=by
 apply F.ok NL (λvs H Q E h=>?_) (λbD A outer s H vs Q E hr h=>?_)
 .obtain⟨b,p,pa,pp,pw,xa,xp,xw,am,pu,wi,rfl,_⟩:=h;rfl
 .obtain⟨b,p,pa,pp,pw,xa,xp,xw,am,pu,wi,rfl,m,ka,k⟩:=h;let⟨CG,_⟩:=m.lw;apply⟨_,dZ (nE PassesOwn.never rfl (mB rfl N.enumerate Hm (aU (d8 bZ (pv 0) bC (λ_ _=>rfl)) bP))
    (gU (n:=2) rfl (qK (gj (i:=1) NL.nd rfl (Or.inl rfl)) (qK (gj (i:=2) NL.nd rfl (Or.inl rfl)) eS)))
    (cN (kQ (qH (sZ (lH (zm rfl) (by rfl) N.any boot_any (aU (pv 2) bP)))) (cN (dM (pv 1))) kR)))
   (cN (dM wS)),?_⟩
  apply⟨_,(),p,_,_,_,(),(),aK.of m.hp,(),pw,(),⟨xw,aK.of m.hw⟩,?_⟩;apply Gm (xs:=xw) (λi σ H'=>aw H H'/\(∃a c,σ=[some (.ref p),a,c])) ⟨aw.refl H,⟨none,none,()⟩⟩ (λi σ H' _ q=>q.1 _ _ m.hw) ?_ ?_
  .rintro i x q σ H' hx hq ⟨st,⟨a,c,rfl⟩⟩;let⟨ns,aa,hM,rfl,hA⟩:=CG.at hx;let fE:aw H (aQ H' q (.tup [.int i,.ref aa])):=st.new hq;apply⟨q,_,(),aK.of dU,(),_,_,(),_,_,(),(),?_⟩;apply⟨_,(),aa,_,(),.inr (aK.of (fE _ _ hA)),?_,_,(),?_⟩
   .rw[Xk];simp[Function.comp_def,fj]
   .let e:(List.map V.int ns).any tv=true:=by
     rw[X1];let⟨k1,hk1,hp1⟩:=(ka ns (Z0 hM)).pos;apply Z6.mpr ⟨k1,hk1,?_⟩;show(k1 != 0)=true
     grind
    rw[e];exact bI ⟨fE,⟨_,_,()⟩⟩
  .rintro σ H' ⟨st,_⟩;exact k _ st
def rE:ai ["parts","found","part"] ["parts"] (bA (top 14)):=L2.cZ
def J9 (F:cG K "least" "least" (top 14) f fd)(A:bN K mg P w base "less" 1 ["one","other"] iM fA dA):aI P w K mg base bY 2 f fd ["parts"] Ec:=by
 apply F.ok rE (λvs H Q E h=>?_) (λbD A' outer s H vs Q E hr h=>?_)
 .obtain⟨l,ys,qs,rfl,_⟩:=h;rfl
 .obtain⟨l,ys,qs,rfl,hl,hf,bv,hb,k⟩:=h;apply⟨_,dZ (oM (i:=1) rE.nd rfl (Or.inl rfl) (d8 bZ (pv 0) bC (λ_ _=>rfl)))
   (dZ (nE PassesOwn.never rfl (qU (pv 0)) (gj (i:=2) rE.nd rfl (Or.inl rfl))
    (cN (kQ (sZ (du A.ok hr rfl A.mg A.kp A.bd .nil aO (aU (pv 2) (aU (pv 1) bP)))) (cN (oM (i:=1) rE.nd rfl (Or.inl rfl) (pv 2))) kR)))
   (cN (dM (pv 1)))),?_⟩
  let eP:0<qs.length:=Xi.mpr bv;let⟨a0,Δ,ε⟩:=hf.at (g:=0) eP;let m0:qs.getD 0 0∈qs:=by simp[List.getD,Zc eP]
  apply⟨_,(),l,_,_,_,(),(),aK.of hl,Δ,?_⟩;apply⟨_,(),l,(),⟨_,aK.of hl⟩,?_⟩;apply KD (xs:=ys) (λi σ H'=>H'=H/\∃a q y2,σ=[some (.ref l),some (.ref a),y2]/\H a=some (qO q)/\q∈qs/\∀z∈qs.take i,q<=z) ⟨(),a0,_,_,(),ε,m0,λz hz=>by simp at hz⟩ (λi σ H' _ z=>by let⟨rfl,_⟩:=z;exact aK.of hl) ?_ ?_
  .rintro i x σ H1 hx ⟨rfl,a,q,y2,rfl,ha,hq,d4⟩;let⟨c,z,rfl,hc,hz⟩:=sE hf hx;let SH:=Z0 hz;apply⟨_,(),_,(),c,a,z,q,(),hc,ha,hb z SH,hb q hq,_,(),?_⟩;by_cases cD:z<q
   .rw[decide_eq_true cD];apply bt ⟨_,(),(),c,z,_,(),hc,SH,λy hy=>?_⟩;rw[yC hz] at hy;rcases Zw.mp hy with h |h
    .exact Yn (Zt cD) (d4 y h)
    .rw[Zy.mp h];exact Yr
   .rw[decide_eq_false cD];apply bI ⟨(),a,q,_,(),ha,hq,λy hy=>?_⟩;rw[yC hz] at hy;rcases Zw.mp hy with h |h
    .exact d4 y h
    .rw[Zy.mp h];exact Yx.mp cD
  .rintro σ H1 ⟨rfl,a,q,y2,rfl,ha,hq,d4⟩;rw[hf.1,Yp] at d4;exact⟨_,(),k a q ha ⟨hq,d4⟩⟩
def abk:ai ["wishes","good"] ["wishes","good"] (bA (top 54)):=L2.cZ
def VH (F:cG K "greatest_share" "greatest_share" (top 54) f fd)(N:Nm mg)(Fr:bN K mg P w base "fraction" 2 ["top","bottom"] (lV (wC Nn)) fF dF)(G:bN K mg P w base "greatest" 2 ["parts"] DB fG dG):aI P w K mg base bY 3 f fd ["wishes","good"] TD:=by
 apply F.ok abk (λvs H Q E h=>?_) (λbD A' outer s H vs Q E hr h=>?_)
 .obtain⟨pw,xw,M,n,g,rfl,_⟩:=h;rfl
 .obtain⟨pw,xw,M,n,g,rfl,hw,hR,ZZ,ka,bv,h6,k⟩:=h;apply⟨_,cN (dM (du G.ok hr rfl G.mg G.kp G.bd .nil aO (aU (yB (own:=["row"]) (cap:=["good"]) (ix:=[1]) (aM.of (bA (top 54)).names ["wishes","good"]) rfl (qU (pv 0))
    (λC fp s H=>⟨gj (i:=0) (Ψ9 ["row","good"]) rfl (Or.inl rfl),Cv,du Fr.ok hr rfl Fr.mg Fr.kp Fr.bd .nil aO (aU (d8 bZ (pv 0) (pv 1) (λ_ _=>rfl)) (aU (lH (DX rfl) (by rfl) N.max boot_max (aU (pv 0) bP)) bP))⟩)) bP))),?_⟩
  apply⟨_,(),pw,(),⟨_,aK.of hw⟩,λacc bU=>?_⟩;apply iX (xs:=xw) (λi zs H'=>aw H H'/\kO H' zs ((M.take i).map (cv g))) ⟨(aw.refl H).acc bU,⟨(),λj y z=>by simp at z⟩⟩ (λi zs H' _ _ z=>aK.of (z.1 _ _ hw)) ?_ ?_
  .rintro i x zs H1 hx hz ⟨s1,fr⟩;let⟨ns,a,hM,rfl,hA⟩:=hR.at hx;let gr:=ka ns (Z0 hM);let⟨ea,_,_⟩:=vj (ns:=ns) (r:=(g:Int)) ⋯ (by have:=gr.len;omega);rw[Z1] at ea;let hi:i<M.length:=(Zf.mp hM).1;apply lI ⟨_,(),_,(),a,_,_,_,(),(),aK.of (s1 _ _ hA),ea,_,(),a,ns,(),.inr (aK.of (s1 _ _ hA)),?_,λm hm d4=>?_⟩
   .grind
   let em:=Km hm d4 λn hn=>(gr.bd n hn).1
   subst em;let mx:=gr.mx;apply⟨_,_,(),Bd.mono (j:=7) (by unfold Bd;omega) ∅,λz=>absurd z ⋯,λ_ r jM=>?_⟩;rw[p7];let s2:=(aw.refl H1).new (o:=qO (cv g ns)) jM;let WE:=s2 _ _ hz;let er:(aQ H1 r (qO (cv g ns))) r=some (qO (cv g ns)):=dU;let fr2:=fr.ak s2;generalize aQ H1 r (qO (cv g ns))=H2 at s2 WE er fr2 ⊢;let tl:Tm H2 (aQ H2 acc (.lst (zs++[.ref r]))):=Tm.lst WE;apply⟨zs,WE,?_,Cn.of dU ⟨(s1.trans s2).acc bU,?_⟩⟩
   .rw[fr.1,Zb,Yz,sz];omega
   .rw[yC hM,Zs];exact(fr2.app er).tm tl
  .rintro zs H1 hz ⟨s1,fr⟩;rw[hR.len,Yp] at fr;apply⟨acc,zs,_,(),hz,fr,by simpa using bv,λq hq=>?_,λa q ha hq d4=>k a q H1 s1 ha ⟨hq,d4⟩⟩;let⟨r,jM,rfl⟩:=Zd.mp hq;exact(nY (ka r jM)).mono ∅
abbrev NFP:Δ2:=["market","amounts","purses","wishes","pieces","even"]
def A5:ai NFP ["market"] (bA (top 53)):=L2.cZ
def VJ {f fW fWl fL fO fT fG Nn Un:Addr}(F:cG K "first_prices" "first_prices" (top 53) f fd)(N:Nm mg)(mgU:mg "Unwished"=some (.ref Un))(exU:PySem.W.excIn K Un [.type "ValueError",.type "Exception",.type "BaseException",.type "object"] "ValueError.__new__"=true)
  (W:bN K mg P w base "wished" 1 ["market"] yI fW dW) (Wl:bN K mg P w base "wishless" 1 ["market"] TB fWl dWl) (L:bN K mg P w base "least" 2 ["parts"] Ec fL dL) (O:bN K mg P w base "over" 3 ["one","other"] (lV (nA Nn)) fO dO) (T:bN K mg P w base "times" 3 ["one","other"] (lV (AL pE)) fT dT) (G:bN K mg P w base "greatest_share" 3 ["wishes","good"] TD fG dG) :
  aI P w K mg base bY 4 f fd ["market"] (lV NK):=by
 apply F.ok A5 (λvs H Q E h=>?_) (λbD A' outer s H vs Q E hr h=>?_)
 .obtain⟨b,p,pa,pp,pw,xa,xp,xw,am,pu,wi,rfl,_⟩:=h;rfl
 .obtain⟨b,p,pa,pp,pw,xa,xp,xw,am,pu,wi,rfl,m,ka,k⟩:=h;let tL:db 1 _:=hr.mono ∅;let Hu:db 2 _:=hr.mono ∅;let⟨CG,K2,Df,Wz,a1,a6,w1,w6,wp⟩:=m.lw;let⟨exa,amb⟩:=m.am;let⟨epu,pub⟩:=m.pu;let S5:(am.map aZ).length=xa.length:=by have:=congrArg List.length exa;rw[Zb] at this;exact this.symm
  apply⟨_,dZ (kQ (mY zV (du Wl.ok tL rfl Wl.mg Wl.kp Wl.bd .nil aO (aU (pv 0) bP)) wS (aJ _)) (cN (rL)) kR)
   (dZ (iP (pv 0) (gU rfl (qK (gj (i:=1) A5.nd rfl (Or.inr rfl)) (qK (gj (i:=2) A5.nd rfl (Or.inl rfl)) (qK (gj (i:=3) A5.nd rfl (Or.inr rfl)) eS)))))
   (dZ (oM (i:=4) A5.nd rfl (Or.inl rfl) (lH (MJ rfl) (by rfl) N.sum boot_sum (aU (yB (own:=["good"]) (cap:=["amounts"]) (ix:=[1]) (aM.of (bA (top 53)).names NFP) rfl (qU (du W.ok tL rfl W.mg W.kp W.bd .nil aO (aU (pv 0) bP)))
     (λC fp s H=>⟨gj (i:=0) (Ψ9 ["good","amounts"]) rfl (Or.inl rfl),Cv,d8 bZ (pv 1) (pv 0) (λ_ _=>rfl)⟩)) bP)))
   (dZ (oM (i:=5) A5.nd rfl (Or.inr rfl) (du O.ok hr rfl O.mg O.kp O.bd .nil aO (aU (du L.ok Hu rfl L.mg L.kp L.bd .nil aO (aU (pv 2) bP)) (aU (gW (aU (pv 4) (aU bC bP))) bP))))
   (cN (dM (RF gx (by rfl) N.tuple pG (aU (yB (own:=["good"]) (cap:=["even","wishes"]) (ix:=[5,3]) (aM.of (bA (top 53)).names NFP) rfl (qi rfl N.range (aU (lH et (by rfl) N.len Yi (aU (pv 1) bP)) bP))
     (λC fp s H=>⟨gj (i:=0) (Ψ9 ["good","even","wishes"]) rfl (Or.inl rfl),Cv,du T.ok hr rfl T.mg T.kp T.bd .nil aO (aU (pv 1) (aU (du G.ok hr rfl G.mg G.kp G.bd .nil aO (aU (pv 2) (aU (pv 0) bP))) bP))⟩)) bP))))))),?_⟩
  apply⟨_,(),b,p,pa,pp,pw,xa,xp,xw,am,pu,wi,(),m,ka,λH1 s1=>?_⟩;apply⟨(),_,(),bI ?_⟩;let m1:=m.ak s1;apply⟨_,(),p,_,(),aK.of m1.hp,(),_,_,(),_,_,(),_,_,(),(),?_⟩;apply⟨_,(),b,p,pa,pp,pw,xa,xp,xw,am,pu,wi,(),m1,λq2 H2 s2 e2=>?_⟩;rw[Bm] at e2;apply⟨q2,(),⟨_,aK.of e2⟩,λacc bU=>?_⟩;let v9:=s1.trans s2;apply iX (xs:=cX (aB xa.length (rowsOf wi))) (λi zs H'=>aw H2 H'/\zs=(((aB xa.length (rowsOf wi)).take i).map λg=>(am.map aZ).getD g 0).map V.int) ⟨(aw.refl H2).acc bU,()⟩ (λi zs H' _ _ z=>aK.of (z.1 _ _ e2)) ?_ ?_
  .rintro i x zs H3 hx hz ⟨s3,rfl⟩;let⟨g,hg,rfl⟩:=P6 hx;let hgx:=(gz (Z0 hg)).1;let⟨ea,_,_⟩:=vj (ns:=am.map aZ) (r:=(g:Int)) ⋯ ⋯;rw[Z1,<- exa] at ea;let hi:i<(aB xa.length (rowsOf wi)).length:=(Zf.mp hg).1;let GX:=jk xa.length (rowsOf wi);apply lI ⟨_,(),_,(),pa,_,_,_,(),(),aK.of (s3 _ _ (v9 _ _ m.ha)),ea,_,hz,?_,Cn.of dU ⟨s3.acc bU,?_⟩⟩
   .rw[Zb,Zb,Yz,sz];omega
   .rw[yC hg,Zs,Zs];rfl
  rintro zs H3 hz ⟨s3,rfl⟩;rw[FS,Yp] at hz;apply⟨acc,_,(),.inl (bG.of hz),?_⟩;let epc:((aB xa.length (rowsOf wi)).map λg=>(am.map aZ).getD g 0).sum=eY (am.map aZ) (aB xa.length (rowsOf wi)):=rfl;rw[epc];let Hg:=v9.trans s3;let SM:=ox (am:=am.map aZ) ka K2 S5 (λa ha=>(amb a ha).1);let aji:eY (am.map aZ) (aB xa.length (rowsOf wi))<=360:=qf S5 a6 (λa ha=>(amb a ha).2);let m3:=m.ak Hg;let fp3:=m3.fp;let pne:qJ pu≠[]:=λz=>by
   let h1:=fp3.1;rw[z,List.length_nil] at h1;omega
  apply⟨_,(),pp,xp,qJ pu,(),m3.Cy,fp3,pne,λz hz=>(pub z hz).2.mono ∅,λal mn abV CV=>?_⟩;apply⟨_,(),by show 2<=sizeLine;decide,λp4 SN=>?_⟩;let s4:=Hg.new (o:=.tup [.int (eY (am.map aZ) (aB xa.length (rowsOf wi))),.int 1]) SN;let s34:=(aw.refl H3).new (o:=.tup [.int (eY (am.map aZ) (aB xa.length (rowsOf wi))),.int 1]) SN;let Ur:=oW (z:=eY (am.map aZ) (aB xa.length (rowsOf wi))) ⋯;let bpc:Rb 9 ((eY (am.map aZ) (aB xa.length (rowsOf wi)):Int):Rat):=iN (by unfold Bd;omega) ∅;let Ut:=(pub mn CV.1);let Us:((eY (am.map aZ) (aB xa.length (rowsOf wi)):Int):Rat)≠0:=λz=>by rw[z] at Ur;exact absurd Ur ∅
  apply⟨al,p4,mn,_,(),s34 _ _ abV,dU,Ut.2.mono ∅,bpc.mono ∅,λz=>absurd z Us,λ_ r5 ZG=>?_⟩;let s5:=s4.new (o:=qO (mn / ((eY (am.map aZ) (aB xa.length (rowsOf wi)):Int):Rat))) ZG;let e5:(aQ (aQ H3 p4 (.tup [.int (eY (am.map aZ) (aB xa.length (rowsOf wi))),.int 1])) r5 (qO (mn / ((eY (am.map aZ) (aB xa.length (rowsOf wi)):Int):Rat)))) r5=some (qO (mn / ((eY (am.map aZ) (aB xa.length (rowsOf wi)):Int):Rat))):=dU;let Wb:Rb 29 (mn / ((eY (am.map aZ) (aB xa.length (rowsOf wi)):Int):Rat)):=hW Ut.2 bpc Us;generalize aQ (aQ H3 p4 (.tup [.int (eY (am.map aZ) (aB xa.length (rowsOf wi))),.int 1])) r5 (qO (mn / ((eY (am.map aZ) (aB xa.length (rowsOf wi)):Int):Rat)))=H5 at s5 e5 ⊢;apply⟨_,(),pa,xa,(),.inr (aK.of (s5 _ _ m.ha)),(xa.length:Int),(),⋯,⋯,λUN Mt=>?_⟩;let exl:((xa.length:Int)).toNat=xa.length:=by simp
  rw[exl];apply yq (λi zs H'=>aw H5 H'/\∃qs:Δ1,qs.length=i/\kO H' zs qs/\∀g,g<i->∃sh,zw ((rowsOf wi).map (cv g)) sh/\qs.getD g 0=mn / ((eY (am.map aZ) (aB xa.length (rowsOf wi)):Int):Rat)*sh) ⟨(aw.refl H5).acc Mt,[],(),⟨(),λj y z=>by simp at z⟩,λg hg=>absurd hg ⋯⟩ ?_ ?_
  .rintro i zs H6 hi YZ ⟨s6,qs,GZ,fr,ZH⟩;let hii:(0+(i:Int))=(i:Int):=⋯;let s56:=s5.trans s6;let m6:=m.ak s56;let⟨rw6,_⟩:=m6.lw;apply lI ⟨_,(),_,(),_,(),pw,xw,rowsOf wi,xa.length,i,by show[V.ref pw,V.int (0+(i:Int))]=_;rw[hii],m6.hw,rw6,hi,ka,K2,by rw[<- CG.len];exact w6,λa7 sh H7 s7 ha7 yD=>?_⟩;let bsh:Rb 7 sh:=by
    let⟨r,jM,rfl⟩:=Zd.mp yD.1;exact nY (ka r jM)
   apply⟨r5,a7,_,sh,(),s7 _ _ (s6 _ _ e5),ha7,Wb.mono ∅,bsh.mono ∅,λr8 hr8=>?_⟩;let s8:=(aw.refl H7).new (o:=qO (pE (mn / ((eY (am.map aZ) (aB xa.length (rowsOf wi)):Int):Rat)) sh)) hr8;let YY:=s8 _ _ (s7 _ _ YZ);let e8:(aQ H7 r8 (qO (pE (mn / ((eY (am.map aZ) (aB xa.length (rowsOf wi)):Int):Rat)) sh))) r8=some (qO (pE (mn / ((eY (am.map aZ) (aB xa.length (rowsOf wi)):Int):Rat)) sh)):=dU;let fr8:=(fr.ak s7).ak s8;generalize aQ H7 r8 (qO (pE (mn / ((eY (am.map aZ) (aB xa.length (rowsOf wi)):Int):Rat)) sh))=H8 at s8 YY e8 fr8 ⊢;let tl:Tm H8 (aQ H8 UN (.lst (zs++[.ref r8]))):=Tm.lst YY;apply⟨zs,YY,?_,Cn.of dU ⟨(s6.trans (s7.trans s8)).acc Mt,qs++[_],by rw[Zu,GZ];rfl,(fr8.app e8).tm tl,λg hg=>?_⟩⟩
   .rw[fr.1,sz];omega
   .rcases Z2 g i with z |z
    .obtain⟨sh',h1,h2⟩:=ZH g z;apply⟨sh',h1,?_⟩;have:(qs++[pE (mn / ((eY (am.map aZ) (aB xa.length (rowsOf wi)):Int):Rat)) sh]).getD g 0=qs.getD g 0:=by simp[List.getD,Zq (show g<qs.length by omega)]
     rw[this];exact h2
    .obtain rfl:g=i:=⋯;apply⟨sh,yD,?_⟩;have:(qs++[pE (mn / ((eY (am.map aZ) (aB xa.length (rowsOf wi)):Int):Rat)) sh]).getD g 0=pE (mn / ((eY (am.map aZ) (aB xa.length (rowsOf wi)):Int):Rat)) sh:=by rw[<- GZ];simp[List.getD]
     rw[this];rfl
  .rintro zs H6 YZ ⟨s6,qs,GZ,fr,ZH⟩;apply⟨UN,zs,(),.inl ⟨bG.of YZ,λl hl=>?_⟩⟩;let s7:=(aw.refl H6).new (o:=.tup zs) hl;exact k l zs qs _ (s5.trans (s6.trans s7)) dU (fr.ak s7) ⟨GZ,mn,CV,ZH⟩
end
section
def xH:ai ["one","other"] ["one","other"] (bA (top 74)):=L2.cZ
def xQ (F:cG K "_law_div" "_law_div" (top 74) f fd)(G:bN K mg P w base "_law_frac" 1 ["top","bottom"] qS fF dF):aI P w K mg base bY 2 f fd ["one","other"] yK:=by
 apply F.ok xH (λvs H Q E h=>?_) (λbD A outer s H vs Q E hr h=>?_)
 .obtain⟨p,q,a,b,rfl,_⟩:=h;rfl
 .obtain⟨p,q,a,b,rfl,hp,hq,⟨ba,bb⟩,⟨bc,bd⟩,G7,k⟩:=h;let hb:=den_pos a;let hn:=mq.mp G7;apply⟨_,cN (dM (du G.ok hr rfl G.mg G.kp G.bd .nil aO (aU (c6 qI (d8 bZ (pv 0) bC (λ_ _=>rfl)) (d8 bZ (pv 1) bC (λ_ _=>rfl))) (aU (c6 qI (d8 bZ (pv 0) bC (λ_ _=>rfl)) (d8 bZ (pv 1) bC (λ_ _=>rfl))) bP)))),?_⟩;apply⟨_,(),p,_,_,_,(),(),aK.of hp,(),_,(),q,_,_,_,(),(),aK.of hq,(),_,_,(),(),⟨b3 ba,b3 bd⟩,_,(),p,_,_,_,(),(),aK.of hp,(),_,(),q,_,_,_,(),(),aK.of hq,(),_,_,(),(),⟨b3 bb,b3 bc⟩,?_⟩;exact⟨_,_,(),Xd hb hn,b6 (bb.mul bc),λr jM=>by rw[mO ⋯];exact k r jM⟩
end
section
def Fc:ai ["thing"] ["thing"] (bA (top 28)):=L2.cZ
def BL (F:cG K "is_amount" "is_amount" (top 28) f fd)(N:Nm mg)(hc:mg "MOST_PIECES"=some (.int 60 tk))(W:bN K mg P w base "is_whole" 1 ["thing"] (spT ib) fW dW):aI P w K mg base bY 2 f fd ["thing"] (spT (within 1 60)):=by
 apply F.ok Fc (λvs H Q E h=>?_) (λbD A outer s H vs Q E hr h=>?_)
 .obtain⟨b,v,d,rfl,_⟩:=h;rfl
 .obtain⟨b,v,d,rfl,hT,k⟩:=h;apply⟨_,cN (dM (nH (du W.ok hr rfl W.mg W.kp W.bd .nil aO (aU (pv 0) bP)) (nG (n8 iI iI bC (pv 0) (jh (v:=.int 60) rfl hc ⟨_,()⟩))))),?_⟩;apply⟨_,(),b,v,d,(),hT,λH1 s1=>?_⟩;apply⟨_,(),?_⟩;let hk:=k H1 s1;rcases ko hT with hn |⟨i,rfl,rfl⟩
  .rw[hn];rw[lh hn] at hk;exact bI hk
  .apply bt ⟨_,(),_,_,(),(),_,(),?_⟩;let gI:Q (.bl (decide ((1:Int)<=i)&&decide (i<=60))) H1:=hk;cases h1:decide ((1:Int)<=i) with
   |true=>rw[h1] at gI;exact bt ⟨_,_,(),(),gI⟩
   |false=>rw[h1] at gI;exact bI gI
def Jk:ai ["thing"] ["thing"] (bA (top 30)):=L2.cZ
def JT (F:cG K "is_wish" "is_wish" (top 30) f fd)(N:Nm mg)(hc:mg "MOST_WISH"=some (.int 100 tk))(W:bN K mg P w base "is_whole" 1 ["thing"] (spT ib) fW dW):aI P w K mg base bY 2 f fd ["thing"] (spT (within 0 100)):=by
 apply F.ok Jk (λvs H Q E h=>?_) (λbD A outer s H vs Q E hr h=>?_)
 .obtain⟨b,v,d,rfl,_⟩:=h;rfl
 .obtain⟨b,v,d,rfl,hT,k⟩:=h;apply⟨_,cN (dM (nH (du W.ok hr rfl W.mg W.kp W.bd .nil aO (aU (pv 0) bP)) (nG (n8 iI iI bC (pv 0) (jh (v:=.int 100) rfl hc ⟨_,()⟩))))),?_⟩;apply⟨_,(),b,v,d,(),hT,λH1 s1=>?_⟩;apply⟨_,(),?_⟩;let hk:=k H1 s1;rcases ko hT with hn |⟨i,rfl,rfl⟩
  .rw[hn];rw[lh hn] at hk;exact bI hk
  .apply bt ⟨_,(),_,_,(),(),_,(),?_⟩;let gI:Q (.bl (decide ((0:Int)<=i)&&decide (i<=100))) H1:=hk;cases h1:decide ((0:Int)<=i) with
   |true=>rw[h1] at gI;exact bt ⟨_,_,(),(),gI⟩
   |false=>rw[h1] at gI;exact bI gI
def nX:ai ["thing","top","bottom"] ["thing"] (bA (top 29)):=L2.cZ
def xS (F:cG K "is_purse" "is_purse" (top 29) f fd)(N:Nm mg)(hc:mg "MOST_IN_PURSE"=some (.int 1000000 tk))(W:bN K mg P w base "is_fraction" 2 ["thing"] (spT bL) fW dW):aI P w K mg base bY 3 f fd ["thing"] (spT lF):=by
 apply F.ok nX (λvs H Q E h=>?_) (λbD A outer s H vs Q E hr h=>?_)
 .obtain⟨b,v,d,rfl,_⟩:=h;rfl
 .obtain⟨b,v,d,rfl,hT,k⟩:=h;apply⟨_,dZ (kQ (qH (sZ (du W.ok hr rfl W.mg W.kp W.bd .nil aO (aU (pv 0) bP)))) (cN (dM iu)) kR)
   (dZ (iP (pv 0) (gU rfl (qK (gj (i:=1) nX.nd rfl (Or.inl rfl)) (qK (gj (i:=2) nX.nd rfl (Or.inl rfl)) eS))))
   (cN (dM (nH (n8 iI iI bC (pv 1) (jh (v:=.int 1000000) rfl hc ⟨_,()⟩)) (nG (eU iI (pv 2) (jh (v:=.int 1000000) rfl hc ⟨_,()⟩) (aJ _))))))),?_⟩
  apply⟨_,(),b,v,d,(),hT,λH1 s1=>?_⟩;apply⟨_,(),?_⟩;let hk:=k H1 s1;cases hf:bL d with
  |false=>rw[xK hf] at hk;exact bt hk
  |true =>
   apply bI ?_;let⟨t,u,rfl,hu,hg⟩:=lz hf;let η:=hT.ak s1;cases η with
   |tup ha hs =>
   cases hs with
   |cons hx hs =>
   cases hs with
   |cons hy hs =>
   cases hs
   cases hx
   cases hy
   apply⟨_,(),_,_,(),aK.of ha,(),_,_,(),_,_,(),(),?_⟩;let e:lF (.tuple [.int t,.int u])=(decide (1<=t)&&decide (t<=1000000)&&decide (u<=1000000)):=by
    show(decide (1<=u)&&decide (Int.gcd t u=1)&&decide (1<=t)&&decide (t<=1000000)&&decide (u<=1000000))=_;rw[decide_eq_true hu,decide_eq_true hg];rfl
   rw[e] at hk;apply⟨_,(),_,_,(),(),_,(),?_⟩;cases h1:decide (1<=t) with
   |false=>rw[h1] at hk;exact bI ⟨_,(),bI hk⟩
   |true =>
    rw[h1] at hk;apply bt ⟨_,_,(),(),_,(),?_⟩;cases h2:decide (t<=1000000) with
    |false=>rw[h2] at hk;exact bI hk
    |true=>rw[h2] at hk;exact bt ⟨_,(),_,_,(),(),hk⟩
def OQ:ai ["thing","goods"] ["thing","goods"] (bA (top 27)):=L2.cZ
def xN (F:cG K "is_wish_row" "is_wish_row" (top 27) f fd)(N:Nm mg)(Z:CC K)(W:bN K mg P w base "is_wish" 2 ["thing"] (spT (within 0 100)) fW dW):aI P w K mg base bY 3 f fd ["thing","goods"] (LC 0 100):=by
 apply F.ok OQ (λvs H Q E h=>?_) (λbD A outer s H vs Q E hr h=>?_)
 .obtain⟨b,v,d,n,rfl,_⟩:=h;rfl
 .obtain⟨b,v,d,n,rfl,hn6,hT,k⟩:=h;apply⟨_,dZ (kQ (PW.pt (pw_or (qH (sZ (qW K (pv 0) rfl N.isinstance rfl N.tuple pG Hn))) (pw_or1 (mY lL (lH et (by rfl) N.len Yi (aU (pv 0) bP)) (pv 1) (aJ _))))) (cN (dM iu)) kR)
   (cN (dM (lH (pS rfl) (by rfl) N.all boot_all (aU (yB (own:=["part"]) (cap:=[]) (ix:=[]) (aM.of (bA (top 27)).names ["thing","goods"]) rfl (qU (pv 0))
    (λC fp s H=>⟨gj (i:=0) (Ψ9 ["part"]) rfl (Or.inl rfl),Cv,du W.ok hr rfl W.mg W.kp W.bd .nil aO (aU (pv 0) bP)⟩)) bP)))),?_⟩
  let⟨t1,vY,e1⟩:=M5 Z hT;apply⟨_,(),t1,_,vY,e1,_,(),?_⟩;rcases g9 hT with hn |⟨a,xs,ds,rfl,rfl,ha,hs⟩
  .let hk:=k H (aw.refl H);rw[hn];rw[Gb hn] at hk;exact bt (bt hk)
  apply bI ?_;let cF:=hs.len;apply⟨_,(),a,xs,(),.inr (aK.of ha),_,(),(),_,(),?_⟩;by_cases hl:xs.length=n
  case neg =>
   rw[ke hl];let e3:gv n 0 100 (.tuple ds)=false:=by
    show(decide (ds.length=n)&&_)=false;rw[decide_eq_false ⋯];rfl
   let hk:=k H (aw.refl H);rw[e3] at hk;exact bt hk
  rw[hl,rY];apply bI ?_;apply⟨_,(),a,(),⟨xs,aK.of ha⟩,λacc bU=>?_⟩;apply ii (within 0 100) hs ha bU ⋯ (λx d H' st hx _ Z hZ=>⟨_,(),b,x,d,(),hx,λH5 s5=>hZ H5 s5⟩) (λH' st hy=>?_);apply⟨acc,_,(),.inl (bG.of hy),fV,?_⟩;rw[jv];let hk:=k H' st;let e3:gv n 0 100 (.tuple ds)=ds.all (within 0 100):=by
   show(decide (ds.length=n)&&_)=_
   grind
  grind
def Vq:ai ["thing"] ["thing"] (bA (top 24)):=L2.cZ
def xT (F:cG K "are_amounts" "are_amounts" (top 24) f fd)(N:Nm mg)(hc:mg "MOST_GOODS"=some (.int 6 tk))(Z:CC K)(W:bN K mg P w base "is_amount" 2 ["thing"] (spT (within 1 60)) fW dW):aI P w K mg base bY 3 f fd ["thing"] (spT (iA (within 1 60))):=by
 apply F.ok Vq (λvs H Q E h=>?_) (λbD A outer s H vs Q E hr h=>?_)
 .obtain⟨b,v,d,rfl,_⟩:=h;rfl
 .obtain⟨b,v,d,rfl,hT,k⟩:=h;apply⟨_,dZ (kQ (PW.pt (pw_or (qH (sZ (qW K (pv 0) rfl N.isinstance rfl N.tuple pG Hn))) (pw_or1 (qH (uP iI iI bC (lH et (by rfl) N.len Yi (aU (pv 0) bP)) (jh (v:=.int 6) rfl hc ⟨_,()⟩)))))) (cN (dM iu)) kR)
   (cN (dM (lH (pS rfl) (by rfl) N.all boot_all (aU (yB (own:=["part"]) (cap:=[]) (ix:=[]) (aM.of (bA (top 24)).names ["thing"]) rfl (qU (pv 0))
    (λC fp s H=>⟨gj (i:=0) (Ψ9 ["part"]) rfl (Or.inl rfl),Cv,du W.ok hr rfl W.mg W.kp W.bd .nil aO (aU (pv 0) bP)⟩)) bP)))),?_⟩
  let⟨t1,vY,e1⟩:=M5 Z hT;apply⟨_,(),t1,_,vY,e1,_,(),?_⟩;rcases g9 hT with hn |⟨a,xs,ds,rfl,rfl,ha,hs⟩
  .let hk:=k H (aw.refl H);rw[hn];rw[Ao hn] at hk;exact bt (bt hk)
  apply bI ?_;let cF:=hs.len;apply⟨_,(),a,xs,(),.inr (aK.of ha),_,_,(),(),_,(),?_⟩;let no:¬ (1<=ds.length/\ds.length<=6)->Q (.bl false) H:=λhz=>by
   let hk:=k H (aw.refl H);let e3:iA (within 1 60) (.tuple ds)=false:=by
    show(decide (1<=ds.length)&&decide (ds.length<=6)&&_)=false;cases h1:decide (1<=ds.length) with
    |false=>rfl
    |true =>
     rw[decide_eq_false (λz=>hz ⟨of_decide_eq_true h1,z⟩)];rfl
   rw[e3] at hk;exact hk
  by_cases h1:(1:Int)<=(xs.length:Int)
  case neg =>
   rw[decide_eq_false h1];exact bI ⟨_,(),bt (no ⋯)⟩
  rw[decide_eq_true h1];apply bt ⟨_,_,(),(),_,(),?_⟩;by_cases h2:(xs.length:Int)<=6
  case neg =>
   rw[decide_eq_false h2];exact bt (no ⋯)
  rw[decide_eq_true h2];apply bI ?_;apply⟨_,(),a,(),⟨xs,aK.of ha⟩,λacc bU=>?_⟩;apply ii (within 1 60) hs ha bU ⋯ (λx d H' st hx _ Z hZ=>⟨_,(),b,x,d,(),hx,λH5 s5=>hZ H5 s5⟩) (λH' st hy=>?_);apply⟨acc,_,(),.inl (bG.of hy),fV,?_⟩;rw[jv];let hk:=k H' st;let e3:iA (within 1 60) (.tuple ds)=ds.all (within 1 60):=by
   show(decide (1<=ds.length)&&decide (ds.length<=6)&&_)=_;rw[decide_eq_true (show 1<=ds.length by omega),decide_eq_true (show ds.length<=6 by omega)];rfl
  rw[e3] at hk;exact hk
def Vn:ai ["thing"] ["thing"] (bA (top 25)):=L2.cZ
def BI (F:cG K "are_purses" "are_purses" (top 25) f fd)(N:Nm mg)(hc:mg "MOST_BUYERS"=some (.int 6 tk))(Z:CC K)(W:bN K mg P w base "is_purse" 3 ["thing"] (spT lF) fW dW):aI P w K mg base bY 4 f fd ["thing"] (spT (iA lF)):=by
 apply F.ok Vn (λvs H Q E h=>?_) (λbD A outer s H vs Q E hr h=>?_)
 .obtain⟨b,v,d,rfl,_⟩:=h;rfl
 .obtain⟨b,v,d,rfl,hT,k⟩:=h;apply⟨_,dZ (kQ (PW.pt (pw_or (qH (sZ (qW K (pv 0) rfl N.isinstance rfl N.tuple pG Hn))) (pw_or1 (qH (uP iI iI bC (lH et (by rfl) N.len Yi (aU (pv 0) bP)) (jh (v:=.int 6) rfl hc ⟨_,()⟩)))))) (cN (dM iu)) kR)
   (cN (dM (lH (pS rfl) (by rfl) N.all boot_all (aU (yB (own:=["part"]) (cap:=[]) (ix:=[]) (aM.of (bA (top 25)).names ["thing"]) rfl (qU (pv 0))
    (λC fp s H=>⟨gj (i:=0) (Ψ9 ["part"]) rfl (Or.inl rfl),Cv,du W.ok hr rfl W.mg W.kp W.bd .nil aO (aU (pv 0) bP)⟩)) bP)))),?_⟩
  let⟨t1,vY,e1⟩:=M5 Z hT;apply⟨_,(),t1,_,vY,e1,_,(),?_⟩;rcases g9 hT with hn |⟨a,xs,ds,rfl,rfl,ha,hs⟩
  .let hk:=k H (aw.refl H);rw[hn];rw[Ao hn] at hk;exact bt (bt hk)
  apply bI ?_;let cF:=hs.len;apply⟨_,(),a,xs,(),.inr (aK.of ha),_,_,(),(),_,(),?_⟩;let no:¬ (1<=ds.length/\ds.length<=6)->Q (.bl false) H:=λhz=>by
   let hk:=k H (aw.refl H);let e3:iA lF (.tuple ds)=false:=by
    show(decide (1<=ds.length)&&decide (ds.length<=6)&&_)=false;cases h1:decide (1<=ds.length) with
    |false=>rfl
    |true =>
     rw[decide_eq_false (λz=>hz ⟨of_decide_eq_true h1,z⟩)];rfl
   rw[e3] at hk;exact hk
  by_cases h1:(1:Int)<=(xs.length:Int)
  case neg =>
   rw[decide_eq_false h1];exact bI ⟨_,(),bt (no ⋯)⟩
  rw[decide_eq_true h1];apply bt ⟨_,_,(),(),_,(),?_⟩;by_cases h2:(xs.length:Int)<=6
  case neg =>
   rw[decide_eq_false h2];exact bt (no ⋯)
  rw[decide_eq_true h2];apply bI ?_;apply⟨_,(),a,(),⟨xs,aK.of ha⟩,λacc bU=>?_⟩;apply ii lF hs ha bU ⋯ (λx d H' st hx _ Z hZ=>⟨_,(),b,x,d,(),hx,λH5 s5=>hZ H5 s5⟩) (λH' st hy=>?_);apply⟨acc,_,(),.inl (bG.of hy),fV,?_⟩;rw[jv];let hk:=k H' st;let e3:iA lF (.tuple ds)=ds.all lF:=by
   show(decide (1<=ds.length)&&decide (ds.length<=6)&&_)=_;rw[decide_eq_true (show 1<=ds.length by omega),decide_eq_true (show ds.length<=6 by omega)];rfl
  rw[e3] at hk;exact hk
def Vm:ai ["thing","buyers","goods"] ["thing","buyers","goods"] (bA (top 26)):=L2.cZ
def sQ (F:cG K "are_wishes" "are_wishes" (top 26) f fd)(N:Nm mg)(Z:CC K)(W:bN K mg P w base "is_wish_row" 3 ["thing","goods"] (LC 0 100) fW dW):aI P w K mg base bY 4 f fd ["thing","buyers","goods"] Tz:=by
 apply F.ok Vm (λvs H Q E h=>?_) (λbD A outer s H vs Q E hr h=>?_)
 .obtain⟨b,v,d,m,n,rfl,_⟩:=h;rfl
 .obtain⟨b,v,d,m,n,rfl,hm6,hn6,hT,k⟩:=h;apply⟨_,dZ (kQ (PW.pt (pw_or (qH (sZ (qW K (pv 0) rfl N.isinstance rfl N.tuple pG Hn))) (pw_or1 (mY lL (lH et (by rfl) N.len Yi (aU (pv 0) bP)) (pv 1) (aJ _))))) (cN (dM iu)) kR)
   (cN (dM (lH (pS rfl) (by rfl) N.all boot_all (aU (yB (own:=["row"]) (cap:=["goods"]) (ix:=[2]) (aM.of (bA (top 26)).names ["thing","buyers","goods"]) rfl (qU (pv 0))
    (λC fp s H=>⟨gj (i:=0) (Ψ9 ["row","goods"]) rfl (Or.inl rfl),Cv,du W.ok hr rfl W.mg W.kp W.bd .nil aO (aU (pv 0) (aU (pv 1) bP))⟩)) bP)))),?_⟩
  let⟨t1,vY,e1⟩:=M5 Z hT;apply⟨_,(),t1,_,vY,e1,_,(),?_⟩;rcases g9 hT with hn |⟨a,xs,ds,rfl,rfl,ha,hs⟩
  .let hk:=k H (aw.refl H);rw[hn];rw[Kw hn] at hk;exact bt (bt hk)
  apply bI ?_;let cF:=hs.len;apply⟨_,(),a,xs,(),.inr (aK.of ha),_,(),(),_,(),?_⟩;by_cases hl:xs.length=m
  case neg =>
   rw[ke hl];let e3:tZ m n (.tuple ds)=false:=by
    show(decide (ds.length=m)&&_)=false;rw[decide_eq_false ⋯];rfl
   let hk:=k H (aw.refl H);rw[e3] at hk;exact bt hk
  rw[hl,rY];apply bI ?_;apply⟨_,(),a,(),⟨xs,aK.of ha⟩,λacc bU=>?_⟩;apply ii (gv n 0 100) hs ha bU ⋯ (λx d H' st hx _ Z hZ=>⟨_,(),_,(),b,x,d,n,(),hn6,hx,λH5 s5=>hZ H5 s5⟩) (λH' st hy=>?_);apply⟨acc,_,(),.inl (bG.of hy),fV,?_⟩;rw[jv];let hk:=k H' st;let e3:tZ m n (.tuple ds)=ds.all (gv n 0 100):=by
   show(decide (ds.length=m)&&_)=_;rw[decide_eq_true ⋯];rfl
  rw[e3] at hk;exact hk
def rF:ai ["thing","amounts","purses","wishes"] ["thing"] (bA (top 23)):=L2.cZ
def vt (F:cG K "is_market" "is_market" (top 23) f fd)(N:Nm mg)(Z:CC K)(A':bN K mg P w base "are_amounts" 3 ["thing"] (spT (iA (within 1 60))) fA dA)
  (P':bN K mg P w base "are_purses" 4 ["thing"] (spT (iA lF)) fP dP) (W:bN K mg P w base "are_wishes" 4 ["thing","buyers","goods"] Tz fW dW):aI P w K mg base bY 5 f fd ["thing"] (spT eO):=by
 apply F.ok rF (λvs H Q E h=>?_) (λbD A outer s H vs Q E hr h=>?_)
 .obtain⟨b,v,d,rfl,_⟩:=h;rfl
 .obtain⟨b,v,d,rfl,hT,k⟩:=h;let hr3:db 3 _:=hr.mono ∅;apply⟨_,dZ (kQ (PW.pt (pw_or (qH (sZ (qW K (pv 0) rfl N.isinstance rfl N.tuple pG Hn))) (pw_or1 (mY lL (lH et (by rfl) N.len Yi (aU (pv 0) bP)) bC (aJ _))))) (cN (dM iu)) kR)
   (dZ (iP (pv 0) (gU rfl (qK (gj (i:=1) rF.nd rfl (Or.inl rfl)) (qK (gj (i:=2) rF.nd rfl (Or.inl rfl)) (qK (gj (i:=3) rF.nd rfl (Or.inl rfl)) eS)))))
   (dZ (kQ (PW.pt (pw_or (qH (sZ (du A'.ok hr3 rfl A'.mg A'.kp A'.bd .nil aO (aU (pv 1) bP)))) (pw_or1 (qH (sZ (du P'.ok hr rfl P'.mg P'.kp P'.bd .nil aO (aU (pv 2) bP))))))) (cN (dM iu)) kR)
   (cN (dM (du W.ok hr rfl W.mg W.kp W.bd .nil aO (aU (pv 3) (aU (lH et (by rfl) N.len Yi (aU (pv 2) bP)) (aU (lH et (by rfl) N.len Yi (aU (pv 1) bP)) bP)))))))),?_⟩
  let⟨t1,vY,e1⟩:=M5 Z hT;apply⟨_,(),t1,_,vY,e1,_,(),?_⟩;let hk:=k H (aw.refl H);rcases g9 hT with hn |⟨a,xs,ds,rfl,rfl,ha,hs⟩
  .rw[hn];rw[Ky hn] at hk;exact bt (bt hk)
  apply bI ?_;apply⟨_,(),a,xs,(),.inr (aK.of ha),(),_,(),?_⟩;by_cases hl:xs.length=3
  case neg =>
   let e2:(!decide (V.int (xs.length:Int)=V.int 3))=true:=ke (b:=3) hl;rw[e2];rw[Ge (by rw[<- hs.len];exact hl)] at hk;exact bt hk
  let e2:(!decide (V.int (xs.length:Int)=V.int 3))=false:=by rw[hl];rfl
  rw[e2];apply bI ?_;let⟨x,_,dx,_,rfl,rfl,hx,hs⟩:=jT hs ⋯;let⟨y,z,dy,dz,rfl,rfl,hy,hz⟩:=uD hs (by simpa using hl);apply⟨_,(),a,_,(),aK.of ha,(),_,_,(),_,_,(),_,_,(),(),?_⟩;rw[ye] at k;apply⟨_,(),b,x,dx,(),hx,λH1 s1=>?_⟩;apply⟨_,(),?_⟩;cases h1:iA (within 1 60) dx with
  |false =>
   rw[h1] at k;exact bt (bt (k H1 s1))
  |true =>
  apply bI ?_;apply⟨_,(),b,y,dy,(),hy.ak s1,λH2 s2=>?_⟩;apply⟨_,(),?_⟩;cases h2:iA lF dy with
  |false =>
   rw[h1,h2] at k;exact bt (k H2 (s1.trans s2))
  |true =>
  apply bI ?_;let⟨la,rfl,la1,la2,la3⟩:=oF h1;let⟨lp,rfl,lp1,lp2,lp3⟩:=oF h2;let v9:=s1.trans s2;cases hx.ak v9 with
  |tup WQ hxs =>
  cases hy.ak v9 with
  |tup hay SJ =>
  rw[h1,h2] at k;apply⟨_,(),_,(),_,_,(),.inr (aK.of hay),_,(),_,_,(),.inr (aK.of WQ),b,z,dz,lp.length,la.length,?_,⋯,⋯,hz.ak v9,λH3 s3=>k H3 (v9.trans s3)⟩;rw[hxs.len,SJ.len];rfl
end
end C6
namespace RZ
open L2 KG EX KM
def ay {α : Type}{xs:List α}{i:Nat}{x d:α}(h:xs[i]?=some x):xs.getD i d=x:=by rw[List.getD,h];rfl
def kH:g∈aR row qs↔g<row.length/\row.getD g 0≠0/\∀o,o<row.length->0<row.getD o 0->((row.getD o 0:Int):Rat)*qs.getD g 0<=((row.getD g 0:Int):Rat)*qs.getD o 0:=by
 unfold aR;rw[Zg,Zh];unfold lO;rw[Z8,Yf,decide_eq_true_eq];apply⟨λ⟨h1,h2,h3⟩=>⟨h1,h2,λo ho hw=>?_⟩,λ⟨h1,h2,h3⟩=>⟨h1,h2,λo ho=>?_⟩⟩
 .have:=h3 o (Zh.mpr ho);unfold lJ at this;rw[decide_eq_true hw,Xm] at this;exact Yx.mp (of_decide_eq_false (by simpa using this:decide _=false))
 .unfold lJ;rw[Bool.not_eq_true',Bool.and_eq_false_iff];by_cases hw:0<row.getD o 0
  .right
   rw[decide_eq_false_iff_not,Yx];exact h3 o (Zh.mp ho) hw
  .left;rw[decide_eq_false hw]
def KP (hw:∃o,o<row.length/\0<row.getD o 0)(hq:∀o,o<row.length->0<row.getD o 0->0<qs.getD o 0):aR row qs≠[]:=by
 let⟨o0,h0,w0⟩:=hw;let⟨m,hm⟩:=xf (l:=(((List.range row.length).filter λo=>decide (0<row.getD o 0)).map (bW row qs))) (by
  intro z;have:=Qa.mp z;let h1:o0∈(List.range row.length).filter λo=>decide (0<row.getD o 0):=Zg.mpr ⟨Zh.mpr h0,decide_eq_true w0⟩
  rw[this] at h1;cases h1)
 let⟨b,hb,rfl⟩:=Zd.mp hm.1;let⟨oX,oP⟩:=Zg.mp hb;let oX:=Zh.mp oX;let oP:0<row.getD b 0:=of_decide_eq_true oP;intro z;have:b∈aR row qs:=kH.mpr ⟨oX,⋯,λo ho hw=>?_⟩
 .rw[z] at this;cases this
 .let h1:=hm.2 (bW row qs o) (Zd.mpr ⟨o,Zg.mpr ⟨Zh.mpr ho,decide_eq_true hw⟩,()⟩);unfold bW at h1;let q1:=hq o ho hw;let q2:=hq b oX oP;let e1:((row.getD o 0:Int):Rat) / qs.getD o 0*(qs.getD o 0*qs.getD b 0)=((row.getD o 0:Int):Rat)*qs.getD b 0:=by
   have:qs.getD o 0≠0:=λz=>by rw[z] at q1;exact absurd q1 ∅
   grind
  let e2:((row.getD b 0:Int):Rat) / qs.getD b 0*(qs.getD o 0*qs.getD b 0)=((row.getD b 0:Int):Rat)*qs.getD o 0:=by
   have:qs.getD b 0≠0:=λz=>by rw[z] at q2;exact absurd q2 ∅
   grind
  rw[<- e1,<- e2];exact Y4 h1 (Zt (Yd q1 q2))
section
def nP {i j:Nat}(hi:i<W.length)(h:0<(W.getD i []).getD j 0):has W j=true:=by
 unfold has;apply Z6.mpr ⟨W.getD i [],by rw[ay (Zc hi)];exact Zv _,?_⟩;exact decide_eq_true ⋯
def Gh (h:has W g=true):∃i,i<W.length/\0<(W.getD i []).getD g 0:=by
 unfold has at h;let⟨r,hr,h⟩:=Z6.mp h;let⟨i,hi,rfl⟩:=Yq hr;exact⟨i,hi,by rw[ay (Zc hi)];have:=of_decide_eq_true h;omega⟩
end
end RZ
namespace MI
open L2 KG EX KM RZ SP
def Bk (L:List Nat)(n:Nat)(w:Nat->Rat)(p:Nat->Bool):wsum (L++[n]) w p=wsum L w p+if p n=true then w n else 0:=by
 unfold wsum;rw[Xj,Zs,uG]
 congr 1
 cases h:p n with
 |true=>rw[Q9 h,if_pos rfl];show bu [w n]=w n;rw[AU];show w n+0=_;rw[Qh]
 |false=>rw[Qu (by rw[h];decide),if_neg ∅];rfl
theorem kh (h:cR c ms qs)(p:Nat->Bool):∀n,n<=qs.length->((sm n (λi=>if p i=true then ms.getD i 0 else 0):Int):Rat)=(c:Rat)*wsum (List.range n) (λi=>qs.getD i 0) p
 |0,_=>by show((0:Int):Rat)=(c:Rat)*0;rw[X6];rfl
 |n+1,hn=>by
  rw[Xc,Bk];show((sm n _+(if p n=true then ms.getD n 0 else 0):Int):Rat)=_;rw[Qr,kh h p n ⋯,Rat.mul_add]
  congr 1
  split
  .exact h.2 n ⋯
  .rw[X6];rfl
def oo (L:List Nat)(w:Nat->Rat)(p:Nat->Bool):wsum L w (λ_=>true)=wsum L w p+wsum L w (λx=>!p x):=by
 have:=K9 L w (λ_=>true) p
 grind
def Bl (h:∀x∈L,p x≠q x->w x=0):wsum L w p=wsum L w q:=by
 induction L with
 |nil=>rfl
 |cons x L ih =>
  rw[CO,CO,ih λy hy=>h y (Zj _ hy)]
  congr 1
  by_cases e:p x=q x
  .rw[e]
  .rw[h x Zi e];split<;>split<;>rfl
def B7 (L:List Nat)(w:Nat->Rat)(p q:Nat->Bool):wsum (L.filter p) w q=wsum L w (λx=>p x&&q x):=by
 unfold wsum;rw[Qq]
 congr 2
 apply Y0 λx _=>Bool.and_comm _ _
section
def GF (hi:i<W.length)(hx:x∈(ar W qs).getD i []):0<=x/\x.toNat∈aR (W.getD i []) qs/\((x.toNat:Nat):Int)=x:=by
 rw[AS hi] at hx
 grind
def vi (mf:kS A Pu W)(hi:i<W.length)(hy:y∈aR (W.getD i []) qs):y<A.length/\has W y=true/\0<(W.getD i []).getD y 0:=by
 let⟨h1,h2,_⟩:=kH.mp hy;let hr:=mf.wr i hi;let h3:=(mf.w0 i y hi ⋯).1;let h4:0<(W.getD i []).getD y 0:=by have:(W.getD i []).getD y 0=eI W i y:=rfl;omega
 exact⟨⋯,nP hi h4,h4⟩
def M2 (h:g<qs.length):(gL A qs).getD g 0=qs.getD g 0*((A.getD g 0:Int):Rat):=by
 unfold gL;simp[List.getD,Yy h]
def lj:bQ S r=true↔∃x∈S,(x:Int)∈r:=by
 unfold bQ
 grind
def Bx (mf:kS A Pu W)(kM:Hd W qs)(hl:qs.length=A.length)(good:∀r∈W,br A.length r)(d9:l7 A Pu qs W A.length)(zero:aN A Pu qs W (aB A.length W)=0) :
  wsum (List.range A.length) (λj=>(gL A qs).getD j 0) (λ_=>true)=wsum (List.range Pu.length) (λi=>Pu.getD i 0) (λ_=>true) /\
  ∀T S:Nat->Bool,(∀i,i<Pu.length->T i=true->∀x∈(ar W qs).getD i [],S x.toNat=true)->wsum (List.range Pu.length) (λi=>Pu.getD i 0) T<=wsum (List.range A.length) (λj=>(gL A qs).getD j 0) S:=by
 let nd:(aB A.length W).Nodup:=by unfold aB;exact X5.sublist Z4
 let wl:=mf.wl;let mon:∀p:Nat->Bool,dD A qs ((aB A.length W).filter p)=wsum (List.range A.length) (λj=>(gL A qs).getD j 0) p:=λp=>by
  show wsum (aB A.length W) _ p=_;unfold aB;rw[B7];apply Bl λx hx bv=>?_
  let hx:=Zh.mp hx;rw[M2 ⋯];have:has W x=false:=by
   cases hh:has W x with
   |false=>rfl
   |true=>rw[hh,Xm] at bv;exact absurd rfl bv
  rw[kM.nil x ⋯ this,Xw]
 let pur:∀S:List Nat,aY Pu (fz W qs S)=wsum (List.range Pu.length) (λi=>Pu.getD i 0) (λi=>bQ S ((ar W qs).getD i [])):=λS=>by rw[<- wl];rfl
 let all:dD A qs (aB A.length W)=wsum (List.range A.length) (λj=>(gL A qs).getD j 0) (λ_=>true):=by
  have:=mon λ_=>true
  rwa [Qc.mpr λ_ _=>rfl] at this
 let tk:∀i,i<Pu.length->bQ (aB A.length W) ((ar W qs).getD i [])=true:=λi hi=>by
  let kN:i<W.length:=⋯;let hg:=good _ (j4 (d:=[]) kN);let⟨k,hk,k1⟩:=hg.pos;let⟨o,ho,eo⟩:=Yq hk;let bv:aR (W.getD i []) qs≠[]:=KP ⟨o,ho,by rw[KM.ay (Zc ho),eo];omega⟩ λo ho hw=>kM.pos o (by have:=mf.wr i kN;omega) (nP kN hw)
  let⟨y,hy⟩:=List.exists_mem_of_ne_nil _ bv;let⟨h1,h2,_⟩:=vi mf kN hy;exact lj.mpr ⟨y,by unfold aB;exact Zg.mpr ⟨Zh.mpr h1,h2⟩,by rw[AS kN];exact Zd.mpr ⟨y,hy,()⟩⟩
 let GK:wsum (List.range A.length) (λj=>(gL A qs).getD j 0) (λ_=>true)=wsum (List.range Pu.length) (λi=>Pu.getD i 0) (λ_=>true):=by
  unfold aN at zero;rw[all,pur] at zero;rw[AW (q:=λ_=>true) λi hi=>tk i (Zh.mp hi)] at zero
  grind
 apply⟨GK,λT S h=>?_⟩;let hS:=d9 (((aB A.length W).filter λx=>!S x).map λj:Nat=>(j:Int)) (List.Sublist.map _ Z4);let en':az (((aB A.length W).filter λx=>!S x).map λj:Nat=>(j:Int))=(aB A.length W).filter λx=>!S x:=by
  unfold az;rw[Zp];conv=>rhs;rw[<- X0 ((aB A.length W).filter λx=>!S x)]
  apply Xf λx _=>?_
  grind
 rw[en'] at hS;unfold aN at hS;rw[mon,pur] at hS;let le:wsum (List.range Pu.length) (λi=>Pu.getD i 0) (λi=>bQ ((aB A.length W).filter λx=>!S x) ((ar W qs).getD i []))<=wsum (List.range Pu.length) (λi=>Pu.getD i 0) (λi=>!T i):=by
  apply CM (λi hi=>Zt (mf.pu _ (j4 (Zh.mp hi))).1) λi hi ht=>?_
  let⟨x,hx,hb⟩:=lj.mp ht;cases hT:T i with
  |false=>rfl
  |true =>
   let h1:=h i (Zh.mp hi) hT _ hb;let h2:=(Zg.mp hx).2;rw[Z1] at h1;rw[h1] at h2;cases h2
 let p1:=oo (List.range A.length) (λj=>(gL A qs).getD j 0) S;let p2:=oo (List.range Pu.length) (λi=>Pu.getD i 0) T
 grind
def Vg (mf:kS A Pu W)(kM:Hd W qs)(hl:qs.length=A.length)(good:∀r∈W,br A.length r)(d9:l7 A Pu qs W A.length)(zero:aN A Pu qs W (aB A.length W)=0)
  (hc:0<c) (im:cR c ms (gL A qs)) (ip:cR c ps Pu):Oi (ar W qs) ms ps Pu.length A.length:=by
 let⟨GK,abo⟩:=Bx mf kM hl good d9 zero;let wl:=mf.wl;let ml:(gL A qs).length=A.length:=by unfold gL;simp[hl]
 let cq:(0:Rat)<(c:Rat):=Xa.mpr hc;let abn:∀i,i<Pu.length->(ar W qs).getD i []=(aR (W.getD i []) qs).map λg:Nat=>(g:Int):=λi hi=>AS ⋯
 let Lz:∀{n:Nat}{l:Γ3},sm n (λi=>l.getD i 0)=sm n (λi=>if (λ_:Nat=>true) i=true then l.getD i 0 else 0):=GR λi _=>by simp
 let nnI:∀{ls:Γ3}{q:Δ1},cR c ls q->(∀i,i<q.length->0<=q.getD i 0)->∀i,i<q.length->0<=ls.getD i 0:=λ{ls q} h h0 i hi=>by
  let h1:=h.2 i hi;let h2:(0:Rat)<=(c:Rat)*q.getD i 0:=Qs (Zt cq) (h0 i hi);rw[<- h1] at h2
  exact_mod_cast h2
 apply⟨im.1.trans ml,ip.1,by rw[Hj,wl],mf.n6,mf.g6,λj hj=>nnI im (λi hi=>?_) j ⋯,λi hi=>nnI ip (λi hi=>Zt (mf.pu _ (j4 hi)).1) i hi,λi hi x hx=>?_,λi hi=>?_,λi hi=>?_,λT S h=>?_,?_⟩
 .rw[ml] at hi;rw[M2 ⋯];let ha:=mf.am _ (j4 (d:=0) hi);let hq:0<=qs.getD i 0:=by
   cases hh:has W i with
   |true=>exact Zt (kM.pos i ⋯ hh)
   |false=>rw[kM.nil i ⋯ hh];exact Yr
  exact Qs hq (by exact_mod_cast (show(0:Int)<=A.getD i 0 by omega))
 .obtain⟨h1,h2,_⟩:=GF (show i<W.length by omega) hx;exact⟨h1,(vi mf ⋯ h2).1⟩
 .exact Zl (on ⋯ (mf.wr i ⋯)) mf.g6
 .rw[abn i hi];unfold aR;exact List.Pairwise.map _ (λa b RV z=>RV ⋯) (X5.sublist Z4)
 .let h1:=abo T S h;let e1:=kh ip T Pu.length (Ze _);let e2:=kh im S A.length ⋯;let h2:=Xg h1 (Zt cq);rw[<- e1,<- e2] at h2
  exact_mod_cast h2
 .let e1:=kh ip (λ_=>true) Pu.length (Ze _);let e2:=kh im (λ_=>true) A.length ⋯;rw[GK,<- e1] at e2;rw[Lz,Lz]
  exact_mod_cast e2
end
def fK.uniq (h:fK A Pu W qs L):∀{L':List Hc},fK A Pu W qs L'->L=L':=by
 induction h with
 |stop rp d9 no =>
  intro L' h';cases h' with
  |stop _ _ _=>rfl
  |step _ _ pd hr _ _=>exact absurd (no _ pd) hr
 |step rp d9 pd hr hm _ ih =>
  intro L' h';cases h' with
  |stop _ _ no=>exact absurd (no _ pd) hr
  |step _ _ Sr _ WL tD =>
   let e1:=Sr.uniq pd;subst e1;let e2:=WL.uniq hm;subst e2;rw[ih tD]
section
end
end MI
namespace RZ
open L2 KG EX KM
def Ab (N D:Nat)(z:Rat):Prop:=z.num.natAbs<=N/\z.den<=D
def Ab.mono (h:Ab N D z)(h1:N<=N')(h2:D<=D'):Ab N' D' z:=⟨Zl h.1 h1,Zl h.2 h2⟩
def xx (hU:U≠0):Ab T.natAbs U.natAbs (Rat.divInt T U):=by
 let⟨e1,e2⟩:=k4 (T:=T) hU;let⟨_,_,_,_,n5,n6⟩:=km (t:=T) hU;rw[e1] at n5;rw[e2] at n6;exact⟨n5,⋯⟩
def Rh (hx:Ab a b x)(hy:Ab c d y):Ab (a*c) (b*d) (x*y):=by
 rw[<- mG];let h2:(x.den:Int)*y.den≠0:=Int.ne_of_gt (Xd (den_pos x) (den_pos y));apply(xx h2).mono ?_ ?_
 .rw[Xu];exact Qb hx.1 hy.1
 .rw[Xu,Xp,Xp];exact Qb hx.2 hy.2
def Rk (hx:Ab a b x)(hy:Ab c d y):Ab (a*d+c*b) (b*d) (x+y):=by
 rw[<- mV];let h2:(x.den:Int)*y.den≠0:=Int.ne_of_gt (Xd (den_pos x) (den_pos y));apply(xx h2).mono ?_ ?_
 .apply Zl (Int.natAbs_add_le _ _) ?_;rw[Xu,Xu,Xp,Xp];exact Nat.add_le_add (Qb hx.1 hy.2) (Qb hy.1 hx.2)
 .rw[Xu,Xp,Xp];exact Qb hx.2 hy.2
theorem AI:∀{l:Δ1},(∀z∈l,Ab N D z)->(bu l).den<=D ^ l.length/\D*(bu l).num.natAbs<=l.length*N*D ^ l.length
 |[],_=>by
  have:bu []=0:=rfl;rw[this];exact⟨Ze _,by show D*0<=_;omega⟩
 |x::l,h=>by
  let⟨i1,i2⟩:=AI (l:=l) λz hz=>h z (Zj _ hz)
  let hx:=h x Zi;rw[AU,Y2];let⟨h1,h2⟩:=Rk hx (show Ab (bu l).num.natAbs (D ^ l.length) (bu l) from⟨Ze _,i1⟩);apply⟨by rw[Nat.pow_succ,Nat.mul_comm];exact h2,?_⟩;apply Zl (Nat.mul_le_mul_left D h1) ?_;rw[Nat.mul_add,Nat.pow_succ];let e1:D*((bu l).num.natAbs*D)=(D*(bu l).num.natAbs)*D:=(Nat.mul_assoc _ _ _).symm;rw[e1];let h3:=Nat.mul_le_mul_right D i2;let e2:(l.length+1)*N*(D ^ l.length*D)=D*(N*D ^ l.length)+l.length*N*D ^ l.length*D:=by grind
  rw[e2];exact Nat.add_le_add_left h3 _
def KU (hD:1<=D)(h:∀z∈l,Ab N D z)(hl:l.length<=6):Ab (6*N*D ^ 5) (D ^ 6) (bu l):=by
 let⟨h1,h2⟩:=AI h;let hp:D ^ l.length<=D ^ 6:=Y9 hD hl;apply⟨?_,Zl h1 hp⟩;let h3:l.length*N*D ^ l.length<=6*N*D ^ 6:=Qb (Nat.mul_le_mul_right N hl) hp;let e:6*N*D ^ 6=D*(6*N*D ^ 5):=by grind
 have:=Zl h2 h3;rw[e] at this;exact Nat.le_of_mul_le_mul_left this hD
def We (h:Ab N D z)(h1:N<2 ^ k)(h2:D<2 ^ k):Rb k z:=⟨by unfold Bd;have:=h.1;omega,by unfold Bd;have:=h.2;rw[Xp];omega⟩
def Vw (h:Rb k z):Ab (2 ^ k) (2 ^ k) z:=by
 let⟨h1,h2⟩:=h;unfold Bd at h1 h2;rw[Xp] at h2;exact⟨⋯,⋯⟩
def KY {qs:Δ1}(h:∀z∈qs,Ab N D z)(hD:1<=D)(g:Nat):Ab N D (qs.getD g 0):=by
 by_cases hg:g<qs.length
 .rw[ay (Zc hg)];exact h _ (Zv _)
 .rw[List.getD,Yu (Xb hg)];exact⟨Z7 _,hD⟩
section
end
section
end
end RZ
namespace MI
open L2 KG EX KM
open RZ (l7 cC aL iy)
theorem nM {α : Type}{f:α->PyData}:∀{ds:Ξ1},(∀d∈ds,∃x,d=f x)->∃xs:List α,ds=xs.map f
 |[],_=>⟨[],()⟩
 |d::ds,h=>by
  let⟨x,rfl⟩:=h d Zi;let⟨xs,rfl⟩:=nM (ds:=ds) λd hd=>h d (Zj _ hd)
  exact⟨x::xs,()⟩
def oq (h:within a b d=true):∃x,d=.int x:=by
 cases d with
 |int n=>exact⟨n,()⟩
 |_=>cases h
def Kj {am pu wi:Ξ1}(h:eO (.tuple [.tuple am,.tuple pu,.tuple wi])=true):∃A Pu W,(PyData.tuple [.tuple am,.tuple pu,.tuple wi])=fw A Pu W:=by
 let⟨h1,h2,h3,h4,h5,h6,h7,h8⟩:=iV h;let⟨A,rfl⟩:=nM (f:=PyData.int) λd hd=>oq (Yf.mp h3 d hd)
 let⟨Pu,rfl⟩:=nM (f:=qD) (ds:=pu) λd hd=>by
  let⟨q,e,_⟩:=mr (Yf.mp h6 d hd);exact⟨q,e⟩
 let⟨W,rfl⟩:=nM (f:=aP) (ds:=wi) λd hd=>by
  have:=Yf.mp h8 d hd;cases d with
  |tuple ds =>
   let e:(decide (ds.length=(A.map PyData.int).length)&&ds.all (within 0 100))=true:=this;rw[Z8] at e;let⟨r,rfl⟩:=nM (f:=PyData.int) λd hd=>oq (Yf.mp e.2 d hd)
   exact⟨r,()⟩
  |_=>cases this
 exact⟨A,Pu,W,()⟩
section
end
section
end
def B5 (mf:kS A Pu W)(hp:∀r∈W,∃k∈r,1<=k):∀r∈W,br A.length r:=λr hr=>by
 let⟨i,hi,e⟩:=Yq hr;let er:W.getD i []=r:=by rw[ay (Zc hi)];exact e
 let hl:=mf.wr i hi;rw[er] at hl;apply⟨hl,λk hk=>?_,hp r hr⟩;let⟨o,ho,rfl⟩:=Yq hk;have:=mf.w0 i o hi ⋯;unfold eI at this;rw[er,ay (Zc ho)] at this;exact this
def yj (ok:eO (fw A Pu W)=true)(hp:∀r∈W,∃k∈r,1<=k)(hF:jJ A Pu W A.length qs):cA A Pu W qs/\l7 A Pu qs W A.length:=by
 let mf:=AR ok;let hM:=B5 mf hp;let wl:=mf.wl;let n1:=mf.n1;let wne:W≠[]:=λz=>by rw[z] at wl;simp at wl;omega
 let SM:=ox (am:=A) hM wne rfl (λa ha=>(mf.am a ha).1);let hpu:=qf (am:=A) (M:=W) rfl mf.g6 (λa ha=>(mf.am a ha).2);let AX:∀p∈Pu,0<p:=λp h=>(mf.pu p h).1
 let Cy:=oW (z:=eY A (aB A.length W)) ⋯;let bv:((eY A (aB A.length W):Int):Rat)≠0:=λz=>by rw[z] at Cy;exact absurd Cy ∅
 let b1:Rb 9 ((eY A (aB A.length W):Int):Rat):=iN (by unfold Bd;omega) ∅;let⟨mn,CV,hq⟩:=hF.ex;let hb:0<mn / ((eY A (aB A.length W):Int):Rat):=tH (AX mn CV.1) Cy;let bd:∀z∈qs,Rb 280 z:=λz hz=>by
  let⟨g,hg,rfl⟩:=Yq hz;let⟨sh,yD,e⟩:=hq g (by rw[<- hF.len];exact hg);rw[ay (Zc hg)] at e;rw[e];let⟨r,hr,rfl⟩:=Zd.mp yD.1;exact(jP (hW (mf.pu mn CV.1).2 b1 bv) (nY (hM r hr))).mono ∅
 let hr0:∀{i:Nat},i<W.length->W.getD i []∈W:=λhi=>by rw[ay (Zc hi)];exact Zv _
 let kM:Hd W qs:=by
  apply⟨λj hj hh=>?_,λj hj hh=>?_⟩
  .obtain⟨sh,yD,e⟩:=hq j (by rw[<- hF.len];exact hj);rw[e];let⟨i,hi,hw⟩:=RZ.Gh hh;let h1:=yD.2 _ (Zd.mpr ⟨_,hr0 hi,()⟩);let h2:0<cv j (W.getD i []):=tH (oW hw) (oW (by have:=(hM _ (hr0 hi)).mx.1;omega));exact Yd hb (Rat.not_le.mp λz=>absurd h2 (Yx.mpr (Yn h1 z)))
  .obtain⟨sh,yD,e⟩:=hq j (by rw[<- hF.len];exact hj);rw[e];let⟨r,hr,rfl⟩:=Zd.mp yD.1;let⟨i,hi,e2⟩:=Yq hr;let er:W.getD i []=r:=by rw[ay (Zc hi)];exact e2
   let h0:=(hM r hr).at j;have:r.getD j 0=0:=by
    rcases Int.lt_or_le 0 (r.getD j 0) with y |y
    .rw[RZ.nP hi (by rw[er];exact y)] at hh;cases hh
    .omega
   let hz:cv j r=0:=by unfold cv;rw[this];show(0:Rat) / _=0;rw[X2,Xw]
   rw[hz,X6]
 apply⟨⟨⟨ok,hF.len,kM,λz hz=>(bd z hz).mono ∅⟩,bd⟩,λS hS=>?_⟩;apply vG hM hF AX ⋯ rfl (λa ha=>(mf.am a ha).1) SM ?_;have:=hS.map Int.toNat;unfold aD at this;rw[Zp] at this;let e:(aB A.length W).map (Int.toNat ∘ λj:Nat=>(j:Int))=aB A.length W:=by
  have:(Int.toNat ∘ λj:Nat=>(j:Int))=id:=funext λj=>Z1 j
  rw[this,X0]
 rw[e] at this;exact this
theorem EI:∀qs:Δ1,PyData.canLayAll0 (qs.map qD)=true
 |[]=>rfl
 |q::qs=>by rw[Zn,PyData.canLayAll0,EI qs];rfl
end MI
namespace RT
open L2 KG EX KM RZ SP MI
structure jb (A:Γ3)(Pu:Δ1)(W:Γ1)(qs:Δ1):Prop where
 mf:kS A Pu W
 len:qs.length=A.length
 kM:Hd W qs
 good:∀i,i<W.length->∃o,o<A.length/\0<(W.getD i []).getD o 0
section
def wi (W:Γ1)(i g:Nat):Int:=(W.getD i []).getD g 0
def rt (W:Γ1)(qs:Δ1)(i g:Nat):Rat:=bW (W.getD i []) qs g
structure Top (A:Γ3)(W:Γ1)(qs:Δ1)(i:Nat)(r:Rat):Prop where
 ex:∃g,g<A.length/\0<wi W i g/\rt W qs i g=r
 le:∀o,o<A.length->0<wi W i o->rt W qs i o<=r
def jb.q0 (m:jb A Pu W qs)(hi:i<W.length)(hg:g<A.length)(h:0<wi W i g):0<qs.getD g 0:=m.kM.pos g (by rw[m.len];exact hg) (nP hi h)
def jb.r0 (m:jb A Pu W qs)(hi:i<W.length)(hg:g<A.length)(h:0<wi W i g):0<rt W qs i g:=by
 unfold rt bW;exact KM.tH (Xa.mpr h) (m.q0 hi hg h)
def zj {a b p q:Rat}(hp:0<p)(hq:0<q):a*q<=b*p↔a / p<=b / q:=by
 let pn:p≠0:=λz=>by rw[z] at hp;exact absurd hp ∅
 let qn:q≠0:=λz=>by rw[z] at hq;exact absurd hq ∅
 constructor
 .exact λh=>RZ.div_le_div hp hq h
 .intro h;let h1:=Y4 h (Zt (Yd hp hq));let e1:a / p*(p*q)=a*q:=by grind
  let e2:b / q*(p*q)=b*p:=by grind
  rw[e1,e2] at h1;exact h1
def jb.best (m:jb A Pu W qs){i g:Nat}(hi:i<W.length):g∈aR (W.getD i []) qs↔g<A.length/\0<wi W i g/\∀o,o<A.length->0<wi W i o->rt W qs i o<=rt W qs i g:=by
 let rl:=m.mf.wr i hi;rw[kH,rl];constructor
 .rintro⟨h1,h2,h3⟩;let h0:0<wi W i g:=by
   have:=(m.mf.w0 i g hi h1).1;let e:(W.getD i []).getD g 0=eI W i g:=rfl;unfold wi;omega
  exact⟨h1,h0,λo ho hw=>(zj (m.q0 hi ho hw) (m.q0 hi h1 h0)).mp (h3 o ho hw)⟩
 .rintro⟨h1,h2,h3⟩;exact⟨h1,by unfold wi at h2;omega,λo ho hw=>(zj (m.q0 hi ho hw) (m.q0 hi h1 h2)).mpr (h3 o ho hw)⟩
def jb.top (m:jb A Pu W qs)(hi:i<W.length):∃r,Top A W qs i r:=by
 let⟨o,ho,hw⟩:=m.good i hi;let⟨r,h1,h2⟩:=xf (l:=((List.range A.length).filter λg=>decide (0<wi W i g)).map (rt W qs i)) (λz=>by
  have:o∈(List.range A.length).filter λg=>decide (0<wi W i g):=Zg.mpr ⟨Zh.mpr ho,decide_eq_true hw⟩
  rw[Qa.mp z] at this;cases this)
 let⟨g,hg,e⟩:=Zd.mp h1;let⟨a,b⟩:=Zg.mp hg;exact⟨r,⟨g,Zh.mp a,of_decide_eq_true b,e⟩,λo ho hw=>h2 _ (Zd.mpr ⟨o,Zg.mpr ⟨Zh.mpr ho,decide_eq_true hw⟩,()⟩)⟩
def Top.best (t:Top A W qs i r)(m:jb A Pu W qs)(hi:i<W.length):g∈aR (W.getD i []) qs↔g<A.length/\0<wi W i g/\rt W qs i g=r:=by
 rw[m.best hi];constructor
 .rintro⟨h1,h2,h3⟩;let⟨b,b1,b2,b3⟩:=t.ex;exact⟨h1,h2,Rat.le_antisymm (t.le g h1 h2) (by rw[<- b3];exact h3 b b1 b2)⟩
 .rintro⟨h1,h2,h3⟩;exact⟨h1,h2,λo ho hw=>by rw[h3];exact t.le o ho hw⟩
def Top.pos (t:Top A W qs i r)(m:jb A Pu W qs)(hi:i<W.length):0<r:=by
 let⟨b,b1,b2,b3⟩:=t.ex;rw[<- b3];exact m.r0 hi b1 b2
def tk (W:Γ1)(qs:Δ1)(i:Nat)(S:Γ3):Bool:=bQ (az S) ((ar W qs).getD i [])
def yA (hi:i<W.length)(hS:∀x∈S,0<=x):tk W qs i S=true↔∃g,((g:Nat):Int)∈S/\g∈aR (W.getD i []) qs:=by
 unfold tk;rw[lj,AS hi];constructor
 .rintro⟨x,hx,h⟩;let⟨y,hy,rfl⟩:=Zd.mp hx
  grind
 .rintro⟨g,h1,h2⟩;exact⟨g,Zd.mpr ⟨_,h1,⋯⟩,Zd.mpr ⟨g,h2,()⟩⟩
def K7 (hg:g<qs.length):(dS qs Pd f).getD g 0=if (g:Int)∈Pd then qs.getD g 0 else qs.getD g 0*f:=by
 unfold dS;rw[mZ (a:=0) (by rw[Y3];exact hg),show(List.range qs.length).getD g 0=g by simp[List.getD,Yy hg]];simp
def d7:(dS qs Pd f).length=qs.length:=by unfold dS;simp
def jb.raised (m:jb A Pu W qs)(hf:0<f):jb A Pu W (dS qs Pd f):=by
 apply⟨m.mf,d7.trans m.len,⟨λj hj hh=>?_,λj hj hh=>?_⟩,m.good⟩
 .rw[d7] at hj;rw[K7 hj];have:=m.kM.pos j hj hh;split
  .exact this
  .exact Yd this hf
 .rw[d7] at hj;rw[K7 hj,m.kM.nil j hj hh];split
  .rfl
  .exact Xw _
def Hk (hg:g<qs.length):rt W (dS qs Pd f) i g=if (g:Int)∈Pd then rt W qs i g else rt W qs i g / f:=by
 unfold rt bW;rw[K7 hg];split
 .rfl
 .rw[X2,X2,X2,Rat.inv_mul_rev]
  grind
def u9 {a b f:Rat}(hf:0<f)(h:a<=b):a / f<=b / f:=by
 rw[X2,X2];exact Y4 h (Zt (Rat.inv_pos.mpr hf))
def va {a f:Rat}(hf:1<f)(ha:0<a):a / f<a:=by
 let f0:0<f:=by grind
 let fn:f≠0:=λz=>by rw[z] at f0;exact absurd f0 ∅
 let h1:a / f*f=a:=by grind
 let h2:0<a / f:=KM.tH ha f0;let h3:a / f*1<a / f*f:=Rat.mul_lt_mul_of_pos_left hf h2
 grind
def Ck (m:jb A Pu W qs){Pd:Γ3}(p0:∀x∈Pd,0<=x)(hf:1<f)(hi:i<W.length)(ht:tk W qs i Pd=true)(g:Nat) :
  g∈aR (W.getD i []) (dS qs Pd f)↔g∈aR (W.getD i []) qs/\(g:Int)∈Pd:=by
 let f0:0<f:=by grind
 let m':=m.raised (Pd:=Pd) f0;let⟨r,t⟩:=m.top hi;let r0:=t.pos m hi;let⟨h,hp,hb⟩:=(yA hi p0).mp ht;let⟨h1,h2,h3⟩:=(t.best m hi).mp hb;let le:∀o,o<A.length->0<wi W i o->rt W (dS qs Pd f) i o<=r:=λo ho hw=>by
  rw[Hk (by rw[m.len];exact ho)];have:=t.le o ho hw;split
  .exact this
  .exact Yn (Zt (va hf (m.r0 hi ho hw))) this
 let t':Top A W (dS qs Pd f) i r:=⟨⟨h,h1,h2,by rw[Hk (by rw[m.len];exact h1),if_pos hp,h3]⟩,le⟩;rw[t'.best m' hi,t.best m hi];constructor
 .rintro⟨a,b,c⟩;rw[Hk (by rw[m.len];exact a)] at c;split at c
  .exact⟨⟨a,b,c⟩,by assumption⟩
  .exfalso;let h5:=t.le g a b;let h6:=va hf (m.r0 hi a b)
   grind
 .rintro⟨⟨a,b,c⟩,d⟩;exact⟨a,b,by rw[Hk (by rw[m.len];exact a),if_pos d,c]⟩
def Meets (A:Γ3)(W:Γ1)(qs:Δ1)(Pd:Γ3)(f:Rat):Prop:=∀i,i<W.length->tk W qs i Pd=false->∀b o,b∈aR (W.getD i []) qs->o<A.length->(o:Int)∈Pd->0<wi W i o->f<=rt W qs i b / rt W qs i o
def oH (m:jb A Pu W qs){Pd:Γ3}(p0:∀x∈Pd,0<=x)(hf:1<f)(me:Meets A W qs Pd f)(hi:i<W.length)(ht:tk W qs i Pd=false)(g:Nat) :
  g∈aR (W.getD i []) (dS qs Pd f)↔g∈aR (W.getD i []) qs\/((g:Int)∈Pd/\g<A.length/\0<wi W i g/\∃b,b∈aR (W.getD i []) qs/\f=rt W qs i b / rt W qs i g):=by
 let f0:0<f:=by grind
 let fn:f≠0:=λz=>by rw[z] at f0;exact absurd f0 ∅
 let m':=m.raised (Pd:=Pd) f0;let⟨r,t⟩:=m.top hi;let⟨b,b1,b2,b3⟩:=t.ex;let hb:=(t.best m hi).mpr ⟨b1,b2,b3⟩;let Rz:∀g,g∈aR (W.getD i []) qs->(g:Int)∉Pd:=λg hg hp=>by
  have:=(yA hi p0).mpr ⟨g,hp,hg⟩;rw[ht] at this;cases this
 let le:∀o,o<A.length->0<wi W i o->rt W (dS qs Pd f) i o<=r / f:=λo ho hw=>by
  rw[Hk (by rw[m.len];exact ho)];split
  .rename_i hp;let h1:=me i hi ht b o hb ho hp hw;rw[b3] at h1;let ro:=m.r0 hi ho hw;let h2:f*rt W qs i o<=r:=by
    have:=Y4 h1 (Zt ro)
    rwa [Lb ro] at this
   let h3:=u9 f0 h2;let e:f*rt W qs i o / f=rt W qs i o:=by grind
   rwa [e] at h3
  .exact u9 f0 (t.le o ho hw)
 let t':Top A W (dS qs Pd f) i (r / f):=⟨⟨b,b1,b2,by rw[Hk (by rw[m.len];exact b1),if_neg (Rz b hb),b3]⟩,le⟩;rw[t'.best m' hi,t.best m hi];constructor
 .rintro⟨a,c,d⟩;rw[Hk (by rw[m.len];exact a)] at d;split at d
  .rename_i hp;apply .inr ⟨hp,a,c,b,hb,?_⟩;let ro:=m.r0 hi a c;let rn:rt W qs i g≠0:=λz=>by rw[z] at ro;exact absurd ro ∅
   rw[b3]
   grind
  .left
   apply⟨a,c,?_⟩;let e1:rt W qs i g / f*f=rt W qs i g:=by grind
   let e2:r / f*f=r:=by grind
   rw[<- e1,d,e2]
 .rintro(⟨a,c,d⟩ |⟨hp,a,c,b',AY,e⟩)
  .apply⟨a,c,?_⟩;rw[Hk (by rw[m.len];exact a),if_neg (Rz g ((t.best m hi).mpr ⟨a,c,d⟩)),d]
  .apply⟨a,c,?_⟩;let⟨_,_,b3'⟩:=(t.best m hi).mp AY;let ro:=m.r0 hi a c;let rn:rt W qs i g≠0:=λz=>by rw[z] at ro;exact absurd ro ∅
   rw[Hk (by rw[m.len];exact a),if_pos hp];rw[b3'] at e
   grind
end
section
variable {A:Γ3}
def K8 (x:Int)(S:Γ3):dD A qs (az (x::S))=(gL A qs).getD x.toNat 0+dD A qs (az S):=by
 unfold dD az;rw[Zn,Zn,AU]
def wj (Pd S:Γ3):Γ3:=S.filter λx=>Pd.contains x
def eA (Pd S:Γ3):Γ3:=S.filter λx=>!Pd.contains x
theorem M4:∀{S:Γ3},(∀x∈S,0<=x/\x.toNat<qs.length)->dD A (dS qs Pd f) (az S)=dD A qs (az (wj Pd S))+f*dD A qs (az (eA Pd S))
 |[],_=>by show(0:Rat)=0+f*0;grind
 |x::S,h=>by
  let ih:=M4 (Pd:=Pd) (f:=f) (S:=S) (λy hy=>h y (Zj _ hy));let⟨h0,h1⟩:=h x (.head _);let e:((x.toNat:Nat):Int)=x:=⋯;unfold wj eA at ih ⊢;rw[K8,ih,M2 (by rw[d7];exact h1),K7 h1,e,Ql,Ql];by_cases hp:x∈Pd
  .rw[if_pos hp,if_pos (by simpa using hp),if_neg (by simpa using hp),K8,M2 h1];grind
  .rw[if_neg hp,if_neg (by simpa using hp),if_pos (by simpa using hp),K8,M2 h1];grind
def IW (hi:i<W.length)(hT:∀x∈T,0<=x)(h:∀x∈S,x∈T)(ht:tk W qs i S=true):tk W qs i T=true:=by
 let⟨g,h1,h2⟩:=(yA hi λx hx=>hT x (h x hx)).mp ht;exact(yA hi hT).mpr ⟨g,h _ h1,h2⟩
def pX (m:jb A Pu W qs)(p0:∀x∈Pd,0<=x)(hf:1<f)(me:Meets A W qs Pd f)(hi:i<W.length)(hS:∀x∈S,0<=x)
  (h:tk W qs i (wj Pd S)=true\/(tk W qs i (eA Pd S)=true/\tk W qs i Pd=false)):tk W (dS qs Pd f) i S=true:=by
 rw[yA hi hS];rcases h with h |⟨h,hl⟩
 .obtain⟨g,h1,h2⟩:=(yA hi λx hx=>hS x (Zg.mp hx).1).mp h;let⟨h3,h4⟩:=Zg.mp h1;let h5:(g:Int)∈Pd:=by simpa using h4
  exact⟨g,h3,(Ck m p0 hf hi ((yA hi p0).mpr ⟨g,h5,h2⟩) g).mpr ⟨h2,h5⟩⟩
 .obtain⟨g,h1,h2⟩:=(yA hi λx hx=>hS x (Zg.mp hx).1).mp h;exact⟨g,(Zg.mp h1).1,(oH m p0 hf me hi hl g).mpr (.inl h2)⟩
def jb.p0 (m:jb A Pu W qs)(i:Nat)(hi:i<W.length):0<Pu.getD i 0:=by
 let hl:i<Pu.length:=by rw[<- m.mf.wl];exact hi
 rw[RZ.ay (Zc hl)];exact(m.mf.pu _ (Zv _)).1
def Cw {S:Γ3}(m:jb A Pu W qs)(hS:S.Sublist (aD A.length W)):∀x∈S,0<=x/\x.toNat<qs.length:=λx hx=>by
 let⟨h0,h1,_⟩:=eR (hS.subset hx);exact⟨h0,by rw[m.len];exact h1⟩
def kL (m:jb A Pu W qs){Pd:Γ3}(hP:Pd.Sublist (aD A.length W))(hf:1<f)(me:Meets A W qs Pd f)(hS:S.Sublist (aD A.length W)) :
  aN A Pu (dS qs Pd f) W (az S)<=aN A Pu qs W (az (wj Pd S))+(f*dD A qs (az (eA Pd S))-aY Pu (loose W qs Pd (eA Pd S))):=by
 let s0:=λx hx=>(Cw m hS x hx).1
 let p0:=λx hx=>(Cw m hP x hx).1
 unfold aN;rw[M4 (Cw m hS)];let h:aY Pu (fz W qs (az (wj Pd S)))+aY Pu (loose W qs Pd (eA Pd S))<=aY Pu (fz W (dS qs Pd f) (az S)):=by
  rw[CJ,CJ,mK];let e:wsum (List.range W.length) (λi=>Pu.getD i 0) (λi=>tk W qs i (eA Pd S)&&!tk W qs i Pd)=wsum (List.range W.length) (λi=>Pu.getD i 0) (λi=>(tk W qs i (eA Pd S)&&!tk W qs i Pd)&&!tk W qs i (wj Pd S)):=AW λi hi=>by
   let hi:=Zh.mp hi;cases h1:tk W qs i (wj Pd S) with
   |false=>simp
   |true =>
    rw[IW hi p0 (λx hx=>by simpa using(Zg.mp hx).2) h1];simp
  show wsum (List.range W.length) (λi=>Pu.getD i 0) (λi=>tk W qs i (wj Pd S))+wsum (List.range W.length) (λi=>Pu.getD i 0) (λi=>tk W qs i (eA Pd S)&&!tk W qs i Pd)<=wsum (List.range W.length) (λi=>Pu.getD i 0) (λi=>tk W (dS qs Pd f) i S);rw[e,<- K9];apply CM (λi hi=>Zt (m.p0 i (Zh.mp hi))) λi hi h=>?_
  let hi:=Zh.mp hi;apply pX m p0 hf me hi s0 ?_
  grind
 grind
structure C8 (A:Γ3)(Pu:Δ1)(W:Γ1)(qs:Δ1)(Pd:Γ3)(f:Rat):Prop where
 gt:1<f
 me:Meets A W qs Pd f
 d9:∀S:Γ3,S.Sublist (aL A.length W Pd)->S≠[]->f*dD A qs (az S)<=aY Pu (loose W qs Pd S)
 ev:(∃S:Γ3,S.Sublist (aL A.length W Pd)/\S≠[]/\f*dD A qs (az S)=aY Pu (loose W qs Pd S)) \/
  (∃i o b,i<W.length/\tk W qs i Pd=false/\b∈aR (W.getD i []) qs/\o<A.length/\(o:Int)∈Pd/\0<wi W i o/\f=rt W qs i b / rt W qs i o)
def n9 (hS:S.Sublist (aD A.length W)):(eA Pd S).Sublist (aL A.length W Pd):=hS.filter _
def Aq (hS:S.Sublist (aD A.length W)):(wj Pd S).Sublist (aD A.length W):=Z4.trans hS
def C8.off (F:C8 A Pu W qs Pd f)(hS:S.Sublist (aD A.length W)):f*dD A qs (az (eA Pd S))-aY Pu (loose W qs Pd (eA Pd S))<=0:=by
 by_cases e:eA Pd S=[]
 .rw[e,mK];have:wsum (List.range W.length) (λi=>Pu.getD i 0) (λi=>bQ (az []) ((ar W qs).getD i [])&&!bQ (az Pd) ((ar W qs).getD i []))=0:=lf λi _=>by
   rw[M0];rfl
  rw[this];show f*0-0<=0
  grind
 .have:=F.d9 _ (n9 hS) e
  grind
def i8 (m:jb A Pu W qs)(d9:l7 A Pu qs W A.length)(hP:Pd.Sublist (aD A.length W))(F:C8 A Pu W qs Pd f):l7 A Pu (dS qs Pd f) W A.length:=λS hS=>by
 let h1:=kL m hP F.gt F.me hS;let h2:=d9 _ (Aq (Pd:=Pd) hS);let h3:=F.off (S:=S) hS
 grind
def sO (m:jb A Pu W qs)(d9:l7 A Pu qs W A.length){Pd:Γ3}(pd:cC A Pu qs W A.length Pd)(F:C8 A Pu W qs Pd f)(no:¬ ∃S:Γ3,S.Sublist (aL A.length W Pd)/\S≠[]/\f*dD A qs (az S)=aY Pu (loose W qs Pd S))(q:cC A Pu (dS qs Pd f) W A.length Q):Q.length<Pd.length:=by
 let hP:=pd.sub;let p0:=λx hx=>(Cw m hP x hx).1
 let sub:∀x∈Q,x∈Pd:=λx hx=>by
  let h1:=kL m hP F.gt F.me q.sub;rw[q.zero] at h1;let h2:=d9 _ (Aq (Pd:=Pd) q.sub);by_cases e:eA Pd Q=[]
  .by_cases hp:x∈Pd
   .exact hp
   .have:x∈eA Pd Q:=Zg.mpr ⟨hx,by simpa using hp⟩
    grind
  .let h3:=F.d9 _ (n9 (Pd:=Pd) q.sub) e;let h4:f*dD A qs (az (eA Pd Q))≠aY Pu (loose W qs Pd (eA Pd Q)):=λz=>no ⟨_,n9 q.sub,e,z⟩
   grind
 let ndQ:=(CP A.length W).sublist q.sub;let YO:=(CP A.length W).sublist hP;let le:=wT ndQ sub;rcases Nat.lt_or_eq_of_le le with h |h
 .exact h
 exfalso;let eq:Q=Pd:=by
  apply ic ((gy _ _).sublist q.sub) ((gy _ _).sublist hP) λx=>⟨sub x,λhx=>?_⟩
  by_cases hq:x∈Q
  .exact hq
  .have:(x::Q).length<=Pd.length:=wT (Yc.mpr ⟨hq,ndQ⟩) λy hy=>by
    grind
   grind
 subst eq;rcases F.ev with h |⟨i,o,b,hi,hl,hb,ho,WK,hw,e⟩
 .exact no h
 let bo:o∈aR (W.getD i []) (dS qs Q f):=(oH m p0 F.gt F.me hi hl o).mpr (.inr ⟨WK,ho,hw,b,hb,e⟩);let ti:tk W (dS qs Q f) i Q=true:=(yA hi p0).mpr ⟨o,WK,bo⟩;let zq:=q.zero;let zp:=pd.zero;unfold aN at zq zp;rw[M4 (Cw m hP)] at zq;let e1:wj Q Q=Q:=Qc.mpr λx hx=>by simpa using hx
 let e2:eA Q Q=[]:=Xv.mpr λx hx=>by simpa using hx
 let e3:dD A qs (az [])=0:=rfl;rw[e1,e2,e3] at zq;let lt:aY Pu (fz W qs (az Q))<aY Pu (fz W (dS qs Q f) (az Q)):=by
  rw[CJ,CJ];let e4:wsum (List.range W.length) (λi=>Pu.getD i 0) (λi=>tk W (dS qs Q f) i Q)=wsum (List.range W.length) (λi=>Pu.getD i 0) (λi=>tk W (dS qs Q f) i Q||tk W qs i Q):=AW λj hj=>by
   let hj:=Zh.mp hj;cases h1:tk W qs j Q with
   |false=>simp
   |true=>rw[pX m p0 F.gt F.me hj p0 (.inl (by rw[e1];exact h1))];rfl
  show wsum (List.range W.length) (λi=>Pu.getD i 0) (λi=>tk W qs i Q)<wsum (List.range W.length) (λi=>Pu.getD i 0) (λi=>tk W (dS qs Q f) i Q);rw[e4,K9];have:0<wsum (List.range W.length) (λi=>Pu.getD i 0) (λi=>tk W (dS qs Q f) i Q&&!tk W qs i Q):=by
   unfold wsum;apply E7 (λz=>?_) λq hq=>?_
   .simp_all
   .obtain⟨j,hj,rfl⟩:=Zd.mp hq;exact m.p0 j (Zh.mp (Zg.mp hj).1)
  grind
 grind
end
end RT
namespace KM
open L2 KG EX
end KM
namespace RT
open L2 KG EX KM RZ SP MI
section
variable {A:Γ3}{Pu qs:Δ1}
def lC:aN A Pu qs W (az [])=0:=by
 unfold aN;rw[CJ,lf λi _=>by rw[M0];rfl];show(0:Rat)-0=0
 grind
def zU (hp:∀z∈Pu,0<=z)(d9:l7 A Pu qs W A.length):∃Pd,cC A Pu qs W A.length Pd:=by
 let⟨row,hr,h0,hm⟩:=Ag (rs:=(aT (aD A.length W)).map λS=>(if aN A Pu qs W (az S)=0 then (0:Int) else 1,S)) ⟨_,Zd.mpr ⟨[],bV.mpr (List.nil_sublist _),()⟩,if_pos lC⟩;let⟨R,hR,rfl⟩:=Zd.mp hr;let hz:aN A Pu qs W (az R)=0:=by
  grind
 let hR:=bV.mp hR;apply⟨R,hR,hz,λT hT zT=>?_⟩;apply uW (CP A.length W) (lT (am:=A) (ps:=Pu) (qs:=qs) (M:=W) (g:=A.length) hp) hR (λS hS=>by rw[hz];exact d9 S hS) (λS hS e=>?_) hT (by rw[hz];exact zT);exact hm _ (Zd.mpr ⟨S,bV.mpr hS,()⟩) (if_pos (by rw[hz] at e;exact e))
def FU (hS:S.Sublist ns)(bv:S≠[]):S∈(aT ns).drop 1:=by
 let h:=bV.mpr hS;rw[ln ns] at h
 grind
def jb.of (rp:cA A Pu W qs)(good:∀r∈W,br A.length r):jb A Pu W qs:=by
 let mf:=AR rp.pr.ok;apply⟨mf,rp.pr.len,rp.pr.kM,λi hi=>?_⟩;let⟨h1,h2,k,hk,h3⟩:=good _ (j4 (d:=[]) hi);let⟨o,ho,rfl⟩:=Yq hk;exact⟨o,by rw[<- h1];exact ho,by rw[RZ.ay (Zc ho)];omega⟩
def C8.of (rp:cA A Pu W qs)(m:jb A Pu W qs)(d9:l7 A Pu qs W A.length)(pd:cC A Pu qs W A.length Pd)(hf:jI (iy A Pu qs W A.length Pd) f):C8 A Pu W qs Pd f:=by
 let hR:(aL A.length W Pd).Sublist (aD A.length W):=Z4;let Nk:(aL A.length W Pd).Nodup:=(CP A.length W).sublist hR;let p0:=λx hx=>(Cw m pd.sub x hx).1
 let mine:∀i,i<W.length->(((ar W qs).getD i []).getD 0 0).toNat∈aR (W.getD i []) qs/\((ar W qs).getD i []).isEmpty=false:=λi hi=>by
  let⟨r,t⟩:=m.top hi;let⟨g,h1,h2,h3⟩:=t.ex;let hg:=(t.best m hi).mpr ⟨h1,h2,h3⟩;rw[AS hi];cases e:aR (W.getD i []) qs with
  |nil=>rw[e] at hg;cases hg
  |cons a l=>exact⟨by simp,()⟩
 let lo:∀i,i<W.length->((fz W qs (az Pd)).contains i=tk W qs i Pd):=λi hi=>SD hi
 apply⟨KI rp d9 pd f hf.1,λi hi ht b o hb ho WK hw=>?_,λS hS bv=>?_,?_⟩
 .obtain⟨hm,he⟩:=mine i hi;let⟨r,t⟩:=m.top hi;rw[((t.best m hi).mp hb).2.2,<- ((t.best m hi).mp hm).2.2];apply hf.2 _ (Zw.mpr (.inr (Ja.mpr ⟨i,Zh.mpr hi,?_⟩)));rw[lo i hi,ht,he];show _∈kT _ _ _ _;apply Zd.mpr ⟨(o:Int),Zg.mpr ⟨WK,decide_eq_true hw⟩,()⟩
 .let h1:=hf.2 _ (Zw.mpr (.inl (Zd.mpr ⟨S,FU hS bv,()⟩)));let h2:=rp.money (hS.trans hR) bv;unfold qV at h1;let h3:=Y4 h1 (Zt h2)
  rwa [Lb h2] at h3
 .rcases Zw.mp hf.1 with h |h
  .obtain⟨S,hS,e⟩:=Zd.mp h;let⟨h1,h2⟩:=jo Nk hS;apply .inl ⟨S,h1,h2,?_⟩;rw[<- e];unfold qV;exact Lb (rp.money (h1.trans hR) h2)
  .obtain⟨i,hi,h⟩:=Ja.mp h;let hi:=Zh.mp hi;let⟨hm,he⟩:=mine i hi;rw[lo i hi] at h;split at h
   .rename_i hc;rw[Z8] at hc;let⟨x,hx,e⟩:=Zd.mp h;let⟨M7,vR⟩:=Zg.mp hx;let⟨x0,x1⟩:=Cw m pd.sub x M7;apply .inr ⟨i,x.toNat,_,hi,by simpa using hc.1,hm,by rw[<- m.len];exact x1,by rw[Y8 x0];exact M7,of_decide_eq_true vR,e.symm⟩
   .cases h
def bz (n:Nat):Γ3:=(List.range n).map λi:Nat=>(i:Int)
def nt (A:Γ3)(Pu:Δ1)(W:Γ1)(qs:Δ1)(k:Nat):Bool:=decide (dD A qs (az (dm (aD A.length W) (k / 64)))<aY Pu (az (dm (bz W.length) (k % 64))))
def cnt (A:Γ3)(Pu:Δ1)(W:Γ1)(qs:Δ1):Nat:=(List.range 4096).countP (nt A Pu W qs)
def Re:cnt A Pu W qs<=4096:=by
 have:=List.countP_le_length (p:=nt A Pu W qs) (l:=List.range 4096)
 rwa [Y3] at this
def ve:∀{l:List Nat},(∀x∈l,p x=true->q x=true)->l.countP p<=l.countP q:=λh=>List.countP_mono_left h
theorem vd:∀{l:List Nat},(∀x∈l,p x=true->q x=true)->∀{x:Nat},x∈l->q x=true->p x=false->l.countP p<l.countP q
 |[],_,_,h,_,_=>by cases h
 |y::l,h,x,hx,hq,hp=>by
  rw[List.countP_cons,List.countP_cons];let t:∀z∈l,p z=true->q z=true:=λz hz=>h z (Zj _ hz)
  rcases Zk.mp hx with rfl |hx
  .rw[hq,hp];have:=ve t;simp;omega
  .let ih:=vd t hx hq hp;let hy:=h y (.head _);cases e:p y with
   |false=>simp;split<;>omega
   |true=>rw[hy e];simp;omega
theorem qm:∀{S:Γ3},dD A qs (az S)=dD A qs (az (wj Pd S))+dD A qs (az (eA Pd S))
 |[]=>by show(0:Rat)=0+0;grind
 |x::S=>by
  let ih:=qm (Pd:=Pd) (S:=S);unfold wj eA at ih ⊢;rw[K8,ih,Ql,Ql];by_cases hp:x∈Pd
  .rw[if_pos (by simpa using hp),if_neg (by simpa using hp),K8];grind
  .rw[if_neg (by simpa using hp),if_pos (by simpa using hp),K8];grind
def vA (rp:cA A Pu W qs)(m:jb A Pu W qs)(hf:1<f)(hS:S.Sublist (aD A.length W)):dD A qs (az S)<=dD A (dS qs Pd f) (az S):=by
 rw[M4 (Cw m hS),qm (Pd:=Pd)];by_cases e:eA Pd S=[]
 .rw[e];have:dD A qs (az [])=0:=rfl
  simp_all
 .let h:0<dD A qs (az (eA Pd S)):=rp.money (Z4.trans hS) e;have:=Jc hf h
  grind
def zQ (hn:ns.length<=6)(hS:S.Sublist ns):∃a,a<64/\S=dm ns a:=by
 let⟨a,ha,e⟩:=Zd.mp (bV.mpr hS);let h1:=Zh.mp ha;let h2:2 ^ ns.length<=2 ^ 6:=Y9 ∅ hn;exact⟨a,⋯,e.symm⟩
def vg (rp:cA A Pu W qs)(m:jb A Pu W qs)(hf:1<f):∀k∈List.range 4096,nt A Pu W (dS qs Pd f) k=true->nt A Pu W qs k=true:=λk _ h=>by
 unfold nt at h ⊢;let h1:=of_decide_eq_true h;let h2:=vA rp m (Pd:=Pd) hf (qh (aD A.length W) (k / 64));exact decide_eq_true (by grind)
def Gy (rp:cA A Pu W qs)(m:jb A Pu W qs)(F:C8 A Pu W qs Pd f)(hS:S.Sublist (aL A.length W Pd))(bv:S≠[])(e:f*dD A qs (az S)=aY Pu (loose W qs Pd S)):cnt A Pu W (dS qs Pd f)<cnt A Pu W qs:=by
 let hw:S.Sublist (aD A.length W):=hS.trans Z4;let⟨a,ha,ea⟩:=zQ (Zl (K5 A.length W) m.mf.g6) hw;let lb:(loose W qs Pd S).Sublist (List.range W.length):=Z4.trans Z4;let⟨b,hb,eb⟩:=zQ (ns:=bz W.length) (by unfold bz;rw[Zb,Y3,m.mf.wl];exact m.mf.n6) (lb.map λi:Nat=>(i:Int));let nb:az ((loose W qs Pd S).map λi:Nat=>(i:Int))=loose W qs Pd S:=by
  unfold az;rw[Zp];have:(Int.toNat ∘ λi:Nat=>(i:Int))=id:=funext λi=>Z1 i
  simp_all
 let k1:(a*64+b) / 64=a:=⋯;let k2:(a*64+b) % 64=b:=⋯;let mp:=rp.money hw bv;let off:eA Pd S=S:=Qc.mpr λx hx=>(Zg.mp (hS.subset hx)).2
 let inn:wj Pd S=[]:=Xv.mpr λx hx=>by
  have:=(Zg.mp (hS.subset hx)).2
  grind
 apply vd (vg rp m F.gt) (x:=a*64+b) (Zh.mpr ⋯) ?_ ?_
 .unfold nt;rw[k1,k2,<- ea,<- eb,nb,<- e];have:=Jc F.gt mp
  grind
 .unfold nt;rw[k1,k2,<- ea,<- eb,nb,<- e,M4 (Cw m hw),off,inn];have:dD A qs (az [])=0:=rfl
  grind
theorem wX:∀{l:Δ1},l≠[]->∃q,jI l q
 |[],h=>absurd rfl h
 |[x],_=>⟨x,.head _,λz hz=>by rw[Zy.mp hz];exact Yr⟩
 |x::y::l,_=>by
  let⟨q,h1,h2⟩:=wX (l:=y::l) (by simp);rcases Rat.le_total (a:=x) (b:=q) with h |h
  .exact⟨x,.head _,λz hz=>by
    rcases Zk.mp hz with rfl |hz
    .exact Yr
    .exact Yn h (h2 z hz)⟩
  .exact⟨q,.tail _ h1,λz hz=>by
    rcases Zk.mp hz with rfl |hz
    .exact h
    .exact h2 z hz⟩
def E8 (good:∀r∈W,br A.length r){J:Δ1->Prop}(hJ:∀qs,J qs->cA A Pu W qs)
  (YN:∀qs Pd f,J qs->l7 A Pu qs W A.length->cC A Pu qs W A.length Pd->aL A.length W Pd≠[]->C8 A Pu W qs Pd f->J (dS qs Pd f)) :
  ∀n qs Pd,J qs->l7 A Pu qs W A.length->cC A Pu qs W A.length Pd->cnt A Pu W qs*7+Pd.length<n ->
   ∃L,fK A Pu W qs L/\L.length<=n/\J (eG qs L)/\l7 A Pu (eG qs L) W A.length/\cC A Pu (eG qs L) W A.length (aD A.length W):=by
 intro n;induction n with
 |zero =>
  intro qs Pd j d9 pd h;omega
 |succ n ih =>
  intro qs Pd j d9 pd h;let rp:=hJ qs j;let m:=jb.of rp good;by_cases hr:aL A.length W Pd=[]
  .let e:=(uL pd.sub).mp hr;subst e;exact⟨[],.stop rp d9 λQ hQ=>by rw[hQ.uniq pd];exact hr,by simp,j,d9,pd⟩
  .obtain⟨f,hf⟩:=wX (Aw (A:=A) (Pu:=Pu) (qs:=qs) hr);let F:=C8.of rp m d9 pd hf;let HS:=i8 m d9 pd.sub F;let⟨Q,hQ⟩:=zU (λz hz=>Zt (m.mf.pu z hz).1) HS;let q6:Q.length<=6:=Zl hQ.sub.length_le (Zl (K5 A.length W) m.mf.g6);let less:cnt A Pu W (dS qs Pd f)*7+Q.length<n:=by
    by_cases ev:∃S:Γ3,S.Sublist (aL A.length W Pd)/\S≠[]/\f*dD A qs (az S)=aY Pu (loose W qs Pd S)
    .obtain⟨S,h1,h2,h3⟩:=ev;have:=Gy rp m F h1 h2 h3;omega
    .let h1:=sO m d9 pd F ev hQ;let h2:cnt A Pu W (dS qs Pd f)<=cnt A Pu W qs:=ve (vg rp m F.gt);omega
   let⟨L,st,hL,e⟩:=ih _ Q (YN qs Pd f j d9 pd hr F) HS hQ less;apply⟨_,.step rp d9 pd hr hf st,by rw[Y2];omega,?_⟩;have:eG qs ((Pd,f,dS qs Pd f)::L)=eG (dS qs Pd f) L:=by
    unfold eG;cases L with
    |nil=>rfl
    |cons a l=>rw[List.getLast?_cons_cons,List.getLast?_cons]
   rw[this];exact e
end
structure fD (A:Γ3)(Pu:Δ1)(W:Γ1):Prop where
 ok:eO (fw A Pu W)=true
 two:A.length=2
 good:∀r∈W,br A.length r
 h0:has W 0=true
 h1:has W 1=true
section
def fD.wn (t:fD A Pu W):aB A.length W=[0,1]:=by
 unfold aB;rw[t.two,show List.range 2=[0,1] from rfl,Ql,Ql,t.h0,t.h1];rfl
def fD.wz (t:fD A Pu W):aD A.length W=[0,1]:=by unfold aD;rw[t.wn];rfl
def fD.mf (t:fD A Pu W):kS A Pu W:=AR t.ok
def Tw {S:Γ3}(h:S.Sublist [0,1]):S=[]\/S=[0]\/S=[1]\/S=[0,1]:=by
 have:=bV.mpr h;rw[show aT [0,1]=[[],[0],[1],[0,1]] from ∅] at this;simpa using this
def am (A:Γ3)(g:Nat):Rat:=((A.getD g 0:Int):Rat)
def rc (hl:qs.length=2){g:Nat}(hg:g<2):dD A qs (az [(g:Int)])=qs.getD g 0*am A g:=by
 rw[K8,Z1,M2 ⋯];show _+(0:Rat)=_;unfold am;grind
def T1 (hl:qs.length=2):dD A qs (az [0,1])=qs.getD 0 0*am A 0+qs.getD 1 0*am A 1:=by
 let h:=rc (A:=A) hl (g:=1) ∅;let e:dD A qs (az [0,1])=(gL A qs).getD (0:Int).toNat 0+dD A qs (az [1]):=K8 0 [1];rw[e,show dD A qs (az [1])=_ from h,show(0:Int).toNat=0 from rfl,M2 ⋯];rfl
def Rel (qs:Δ1):Prop:=∃c d:Int,(1<=c/\c<=10000)/\(1<=d/\d<=10000)/\qs.getD 0 0*(c:Rat)=qs.getD 1 0*(d:Rat)
structure Jt (A:Γ3)(Pu:Δ1)(W:Γ1)(qs:Δ1):Prop where
 rp:cA A Pu W qs
 or:Rel qs\/cC A Pu qs W A.length (aD A.length W)
def KW (mf:kS A Pu W)(hT:T.length<=6):Ab (6*2 ^ 20*(2 ^ 20) ^ 5) ((2 ^ 20) ^ 6) (aY Pu T):=by
 unfold aY;apply KU ∅ (λz hz=>?_) (by rw[Zb];exact hT);let⟨i,_,rfl⟩:=Zd.mp hz;exact KY (λz hz=>Vw (mf.pu z hz).2) ∅ i
def jQ (mf:kS A Pu W)(hT:T.length<=6){u v:Int}(hu:1<=u/\u<=10000)(hv:1<=v/\v<=2000000)(e:q*(v:Rat)=aY Pu T*(u:Rat)):Rb 280 q:=by
 let v0:(v:Rat)≠0:=λz=>by
  have:=oW (z:=v) ⋯;rw[z] at this;exact absurd this ∅
 let eq:q=aY Pu T*Rat.divInt u v:=by
  rw[X7]
  grind
 rw[eq];apply We (Rh (KW mf hT) ((xx (T:=u) (U:=v) ⋯).mono (show u.natAbs<=10000 by omega) (show v.natAbs<=2000000 by omega))) ∅ ∅
def wQ (mf:kS A Pu W)(h2:A.length=2)(hl:qs.length=2)(R:Rel qs)(hT:T.length<=6)(hS:S=[0]\/S=[1]\/S=[0,1])(RD:dD A qs (az S)=aY Pu T):Rb 280 (qs.getD 0 0)/\Rb 280 (qs.getD 1 0):=by
 let⟨c,d,hc,hd,e⟩:=R;let a0:=mf.am _ (MI.j4 (d:=0) (show 0<A.length by omega));let a1:=mf.am _ (MI.j4 (d:=0) (show 1<A.length by omega));generalize ea:A.getD 0 0=a at a0;generalize eb:A.getD 1 0=b at a1;let m0:=rc (A:=A) hl (g:=0) ∅;let m1:=rc (A:=A) hl (g:=1) ∅;let m2:=T1 (A:=A) hl;unfold am at m0 m1 m2;rw[ea] at m0 m2;rw[eb] at m1 m2;let p1:∀{x y:Int},1<=x/\x<=10000->1<=y/\y<=60->1<=x*y/\x*y<=600000:=λ{x y} hx hy=>by
  have:=Int.mul_le_mul hx.1 hy.1 ∅ ⋯;have:=Int.mul_le_mul hx.2 hy.2 ⋯ ∅;omega
 rcases hS with rfl |rfl |rfl
 .let z:qs.getD 0 0*(a:Rat)=aY Pu T:=m0.symm.trans RD;have:=p1 hd a0;apply⟨jQ mf hT (u:=1) (v:=a) ∅ ⋯ (by rw[z];exact(Rat.mul_one _).symm),jQ mf hT (u:=c) (v:=d*a) hc ⋯ ?_⟩;rw[Xx,<- Rat.mul_assoc,<- e,<- z];grind
 .let z:qs.getD 1 0*(b:Rat)=aY Pu T:=m1.symm.trans RD;have:=p1 hc a1;apply⟨jQ mf hT (u:=d) (v:=c*b) hd ⋯ ?_,jQ mf hT (u:=1) (v:=b) ∅ ⋯ (by rw[z];exact(Rat.mul_one _).symm)⟩;rw[Xx,<- Rat.mul_assoc,e,<- z];grind
 .let z:qs.getD 0 0*(a:Rat)+qs.getD 1 0*(b:Rat)=aY Pu T:=m2.symm.trans RD;let h1:=p1 hc a1;let h2:=p1 hd a0;apply⟨jQ mf hT (u:=d) (v:=d*a+c*b) hd ⋯ ?_,jQ mf hT (u:=c) (v:=d*a+c*b) hc ⋯ ?_⟩
  .rw[Qr,Xx,Xx,<- z];grind
  .rw[Qr,Xx,Xx,<- z];grind
def GI (m:jb A Pu W qs)(pd:cC A Pu qs W A.length Pd)(HS:l7 A Pu (dS qs Pd f) W A.length)(e:f*dD A qs (az (aL A.length W Pd))=aY Pu (loose W qs Pd (aL A.length W Pd))):cC A Pu (dS qs Pd f) W A.length (aD A.length W):=by
 apply⟨List.Sublist.refl _,?_,λT hT _ x hx=>hT.subset hx⟩;let h1:=HS _ (List.Sublist.refl _);unfold aN at h1 ⊢;rw[M4 (Cw m (List.Sublist.refl _))] at h1 ⊢;let Γ:wj Pd (aD A.length W)=Pd:=by
  apply ic ((gy _ _).sublist Z4) ((gy _ _).sublist pd.sub) λx=>⟨λhx=>by simpa using(Zg.mp hx).2,λhx=>Zg.mpr ⟨pd.sub.subset hx,by simpa using hx⟩⟩
 let abX:eA Pd (aD A.length W)=aL A.length W Pd:=rfl;let z:=pd.zero;unfold aN at z;rw[Γ,abX,e] at h1 ⊢;let p0:=λx hx=>(Cw m pd.sub x hx).1
 let h2:aY Pu (fz W (dS qs Pd f) (az (aD A.length W)))<=aY Pu (fz W qs (az Pd))+aY Pu (loose W qs Pd (aL A.length W Pd)):=by
  rw[CJ,CJ,mK,<- K9];apply CM (λi hi=>Zt (m.p0 i (Zh.mp hi))) λi hi _=>?_
  let hi:=Zh.mp hi;show(tk W qs i (aL A.length W Pd)||tk W qs i Pd)=true;let⟨r,t⟩:=m.top hi;let⟨g,g1,g2,g3⟩:=t.ex;let hb:=(t.best m hi).mpr ⟨g1,g2,g3⟩;by_cases hp:(g:Int)∈Pd
  .rw[(yA hi p0).mpr ⟨g,hp,hb⟩,Bool.or_true]
  .let hw:(g:Int)∈aD A.length W:=Zd.mpr ⟨g,Zg.mpr ⟨Zh.mpr g1,nP hi g2⟩,()⟩;let hr:(g:Int)∈aL A.length W Pd:=Zg.mpr ⟨hw,by simpa using hp⟩;let ht:tk W qs i (aL A.length W Pd)=true:=(yA hi λx hx=>(eR (Zg.mp hx).1).1).mpr ⟨g,hr,hb⟩;rw[ht];rfl
 grind
def LA (mf:kS A Pu W)(qs:Δ1)(S:List Nat):(fz W qs S).length<=6:=by
 have:(fz W qs S).length<=W.length:=by unfold fz;exact Zl (Yv _ _) (by rw[Y3];exact Ze _)
 have:=mf.wl;have:=mf.n6;omega
def ED (mf:kS A Pu W)(qs:Δ1)(Pd S:Γ3):(loose W qs Pd S).length<=6:=Zl (Yv _ _) (LA mf qs _)
end
section
def cA.two (t:fD A Pu W)(m:jb A Pu W qs)(h:Rb 280 (qs.getD 0 0)/\Rb 280 (qs.getD 1 0)):cA A Pu W qs:=by
 let bd:∀z∈qs,Rb 280 z:=λz hz=>by
  let⟨i,hi,rfl⟩:=Yq hz;let hl:i<2:=by rw[<- t.two,<- m.len];exact hi
  rw[<- RZ.ay (d:=0) (Zc hi)];rcases(by omega:i=0\/i=1) with rfl |rfl
  .exact h.1
  .exact h.2
 exact⟨⟨t.ok,m.len,m.kM,λz hz=>(bd z hz).mono ∅⟩,bd⟩
def rJ (t:fD A Pu W)(hl:qs.length=2){g:Nat}(hg:g<2)(hT:T.length<=6)(RD:dD A qs (az [(g:Int)])=aY Pu T):Rb 280 (qs.getD g 0):=by
 let a0:=t.mf.am _ (MI.j4 (d:=0) (show g<A.length by rw[t.two];exact hg));rw[rc hl hg] at RD;exact jQ t.mf hT (u:=1) (v:=A.getD g 0) ∅ ⋯ (RD.trans (Rat.mul_one _).symm)
def qj (t:fD A Pu W)(m:jb A Pu W qs)(d9:l7 A Pu qs W A.length){g o:Nat}(hg:g<2)(ho:o<2)(G1:g≠o)(ga:aL A.length W [(g:Int)]=[(o:Int)])(pd:cC A Pu qs W A.length [(g:Int)])(F:C8 A Pu W qs [(g:Int)] f) :
  (∃T:List Nat,T.length<=6/\dD A (dS qs [(g:Int)] f) (az [(g:Int)])=aY Pu T) /\
  ((cC A Pu (dS qs [(g:Int)] f) W A.length (aD A.length W)/\∃T:List Nat,T.length<=6/\dD A (dS qs [(g:Int)] f) (az [(o:Int)])=aY Pu T) \/
   ∃c d:Int,(1<=c/\c<=10000)/\(1<=d/\d<=10000)/\(dS qs [(g:Int)] f).getD g 0*(c:Rat)=(dS qs [(g:Int)] f).getD o 0*(d:Rat)):=by
 let hl:qs.length=2:=m.len.trans t.two;let Cz:(dS qs [(g:Int)] f).length=2:=d7.trans hl;let eg:(dS qs [(g:Int)] f).getD g 0=qs.getD g 0:=by rw[K7 ⋯,if_pos (by simp)]
 let eo:(dS qs [(g:Int)] f).getD o 0=qs.getD o 0*f:=by rw[K7 ⋯,if_neg (by simp;omega)]
 let p0:∀x∈[(g:Int)],0<=x:=λx hx=>by rw[Zy.mp hx];omega
 apply⟨⟨_,LA t.mf qs (az [(g:Int)]),?_⟩,?_⟩
 .let z:=pd.zero;unfold aN at z;rw[rc Cz hg,eg,<- rc hl hg]
  grind
 .rcases F.ev with ⟨S,hS,bv,e⟩ |⟨i,o',b,hi,ht,hb,oO,hp,hw,e⟩
  .rw[ga] at hS;let hS:S=[(o:Int)]:=by
    cases hS with
    |cons _ h=>exact absurd (Qt.mp h) bv
    |cons_cons _ h=>rw[Qt.mp h]
   subst hS
   left
   apply⟨GI m pd (i8 m d9 pd.sub F) (by rw[ga];exact e),_,ED t.mf qs [(g:Int)] [(o:Int)],?_⟩;rw[rc Cz ho,eo,<- e,rc hl ho];grind
  .right
   let hog:o'=g:=by have:=Zy.mp hp;omega
   subst hog;let RU:=(m.best hi).mp hb;let hbo:b=o:=by
    let h1:b<2:=by rw[<- t.two];exact RU.1
    let h2:b≠o':=λz=>by
     subst z;rw[(yA hi p0).mpr ⟨b,hp,hb⟩] at ht;cases ht
    omega
   subst hbo;let w1:=(t.mf.w0 i o' hi oO).2;let w2:=(t.mf.w0 i b hi RU.1).2;let hw2:=RU.2.1;apply⟨wi W i b,wi W i o',⟨⋯,?_⟩,⟨⋯,?_⟩,?_⟩
   .have:wi W i b=eI W i b:=rfl;omega
   .have:wi W i o'=eI W i o':=rfl;omega
   .rw[eg,eo,e];let q1:=m.q0 hi oO hw;let q2:=m.q0 hi RU.1 hw2;let c1:=oW hw;let n1:qs.getD o' 0≠0:=λz=>by rw[z] at q1;exact absurd q1 ∅
    let n2:qs.getD b 0≠0:=λz=>by rw[z] at q2;exact absurd q2 ∅
    let n3:((wi W i o':Int):Rat)≠0:=λz=>by rw[z] at c1;exact absurd c1 ∅
    unfold rt bW;show _=qs.getD b 0*((((wi W i b:Int):Rat) / qs.getD b 0) / (((wi W i o':Int):Rat) / qs.getD o' 0))*_
    grind
def fD.YN (t:fD A Pu W):∀qs Pd f,Jt A Pu W qs->l7 A Pu qs W A.length->cC A Pu qs W A.length Pd->aL A.length W Pd≠[]->C8 A Pu W qs Pd f->Jt A Pu W (dS qs Pd f):=by
 intro qs Pd f j d9 pd hr F;let f0:0<f:=by have:=F.gt;grind
 let m:=jb.of j.rp t.good;let m':=m.raised (Pd:=Pd) f0;let hl:qs.length=2:=m.len.trans t.two;let Cz:(dS qs Pd f).length=2:=d7.trans hl;rcases j.or with R |all
 rotate_left
 .exact absurd ((uL pd.sub).mpr (pd.uniq all)) hr
 rcases Tw (by have:=pd.sub;rw[t.wz] at this;exact this) with rfl |rfl |rfl |rfl
 .let R':Rel (dS qs [] f):=by
   let⟨c,d,hc,hd,e⟩:=R;apply⟨c,d,hc,hd,?_⟩;rw[K7 ⋯,K7 ⋯,if_neg (by simp),if_neg (by simp)]
   grind
  rcases F.ev with ⟨S,hS,bv,e⟩ |⟨i,o,b,hi,ht,hb,ho,hp,_⟩
  .let hS2:S.Sublist [0,1]:=by rw[<- t.wz];exact hS.trans Z4
   apply⟨cA.two t m' (wQ t.mf t.two Cz R' (ED t.mf qs [] S) (S:=S) ?_ ?_),.inl R'⟩
   .rcases Tw hS2 with h |h
    .exact absurd h bv
    .exact h
   .rw[M4 (Cw m (by rw[t.wz];exact hS2)),<- e];let e1:wj [] S=[]:=Xv.mpr λx _=>by simp
    let e2:eA [] S=S:=Qc.mpr λx _=>by simp
    rw[e1,e2];show(0:Rat)+_=_
    grind
  .cases hp
 .obtain⟨⟨T,hT,eT⟩,h |h⟩:=qj t m d9 (g:=0) (o:=1) ∅ ∅ ∅ (by unfold aL;rw[t.wz];rfl) pd F
  .obtain⟨ap,T2,ζ,e2⟩:=h;apply⟨cA.two t m' ⟨?_,?_⟩,.inr ap⟩
   .exact rJ t Cz (g:=0) ∅ hT eT
   .exact rJ t Cz (g:=1) ∅ ζ e2
  .exact⟨cA.two t m' (wQ t.mf t.two Cz h hT (.inl rfl) eT),.inl h⟩
 .obtain⟨⟨T,hT,eT⟩,h |h⟩:=qj t m d9 (g:=1) (o:=0) ∅ ∅ ∅ (by unfold aL;rw[t.wz];rfl) pd F
  .obtain⟨ap,T2,ζ,e2⟩:=h;apply⟨cA.two t m' ⟨?_,?_⟩,.inr ap⟩
   .exact rJ t Cz (g:=0) ∅ ζ e2
   .exact rJ t Cz (g:=1) ∅ hT eT
  .obtain⟨c,d,hc,hd,e⟩:=h;exact⟨cA.two t m' (wQ t.mf t.two Cz ⟨d,c,hd,hc,e.symm⟩ hT (.inr (.inl rfl)) eT),.inl ⟨d,c,hd,hc,e.symm⟩⟩
 .exact absurd (by unfold aL;rw[t.wz];rfl) hr
def KO {z:Int}(h:1<=z):(z:Rat)≠0:=λe=>by
 have:=oW (z:=z) ⋯;rw[e] at this;exact absurd this ∅
def fD.first (t:fD A Pu W)(hF:jJ A Pu W A.length qs):Jt A Pu W qs/\l7 A Pu qs W A.length:=by
 let⟨rp,d9⟩:=yj t.ok (λr hr=>(t.good r hr).pos) hF;apply⟨⟨rp,.inl ?_⟩,d9⟩;let⟨mn,CV,hq⟩:=hF.ex;let one:∀g,g<2->∃u v:Int,(1<=u/\u<=100)/\(1<=v/\v<=100)/\qs.getD g 0*(v:Rat)=mn / ((eY A (aB A.length W):Int):Rat)*(u:Rat):=λg hg=>by
  let⟨sh,yD,e⟩:=hq g (by rw[t.two];exact hg);let⟨r,hr,rfl⟩:=Zd.mp yD.1;let gr:=t.good r hr;let mx:=gr.mx;let qp:0<qs.getD g 0:=rp.pr.kM.pos g (by rw[hF.len,t.two];exact hg) (by rcases(by omega:g=0\/g=1) with rfl |rfl;exact t.h0;exact t.h1);let hl:g<r.length:=by rw[gr.len,t.two];exact hg
  let gb:=gr.bd _ (MI.j4 (d:=0) hl);let gn:r.getD g 0≠0:=λz=>by
   rw[e] at qp;unfold cv at qp;rw[z] at qp
   grind
  let mne:=KO mx.1;apply⟨r.getD g 0,lZ r,⟨⋯,gb.2⟩,mx,?_⟩;rw[e];unfold cv
  grind
 let⟨u,v,hu,hv,e0⟩:=one 0 ∅;let⟨u',v',ZF,ZD,e1⟩:=one 1 ∅;let p1:∀{x y:Int},1<=x/\x<=100->1<=y/\y<=100->1<=x*y/\x*y<=10000:=λ{x y} hx hy=>by
  have:=Int.mul_le_mul hx.1 hy.1 ∅ ⋯;have:=Int.mul_le_mul hx.2 hy.2 ⋯ ∅;omega
 apply⟨v*u',v'*u,p1 hv ZF,p1 ZD hu,?_⟩
 grind
structure E1 (A:Γ3)(Pu:Δ1)(W:Γ1)(qs:Δ1):Prop where
 rp:cA A Pu W qs
 d9:l7 A Pu qs W A.length
 all:cC A Pu qs W A.length (aD A.length W)
def fD.steps (t:fD A Pu W)(hF:jJ A Pu W A.length qs):∃L,fK A Pu W qs L/\L.length<=1000000/\E1 A Pu W (eG qs L):=by
 let⟨j,d9⟩:=t.first hF;let⟨Pd,pd⟩:=zU (λz hz=>Zt (t.mf.pu z hz).1) d9;let c:=Re (A:=A) (Pu:=Pu) (W:=W) (qs:=qs);let l:Pd.length<=2:=by have:=pd.sub.length_le;rw[t.wz] at this;exact this
 let⟨L,st,hL,j',p',a'⟩:=E8 t.good (λqs h=>h.rp) t.YN 100000 qs Pd j d9 pd ⋯;exact⟨L,st,Zl hL ∅,j'.rp,p',a'⟩
def fD.clear (t:fD A Pu W):U5 A Pu W 280:=⟨t.ok,t.good,λfs hF=>by
 let⟨L,st,hL,c⟩:=t.steps hF;apply⟨L,st,hL,c.rp.pr,∅,∅,c.rp.bd,λk ms ps hk im ip=>?_⟩;exact Vg t.mf c.rp.pr.kM c.rp.pr.len t.good c.d9 (by rw[<- oz];exact c.all.zero) hk im ip⟩
end
section
def RB (r:Γ3):Rat:=if r.getD 1 0=0 then ((10 ^ 30:Int):Rat) else Rat.divInt (r.getD 0 0) (r.getD 1 0)
def lk (W:Γ1)(i:Nat):Rat:=RB (W.getD i [])
def ws (Pu:Δ1)(p:Nat->Bool):Rat:=wsum (List.range Pu.length) (λk=>Pu.getD k 0) p
def aA (Pu:Δ1):Rat:=ws Pu λ_=>true
structure HE (A:Γ3)(Pu:Δ1)(W:Γ1)(r M:Rat):Prop where
 r0:0<r
 m0:0<M
 m1:M<aA Pu
 lo:ws Pu (λk=>decide (r<lk W k))<=M
 hi:M<=ws Pu (λk=>decide (r<=lk W k))
 eq:M*am A 1=r*(aA Pu-M)*am A 0
def kS.GL (mf:kS A Pu W)(i:Nat)(hi:i∈List.range Pu.length):0<=Pu.getD i 0:=Zt (mf.pu _ (MI.j4 (Zh.mp hi))).1
def fD.tP (t:fD A Pu W)(hg:g<2):0<am A g:=by
 let a0:=t.mf.am _ (MI.j4 (d:=0) (show g<A.length by rw[t.two];exact hg));exact oW ⋯
def HE.lt (t:fD A Pu W)(a:HE A Pu W r M)(b:HE A Pu W r' M')(h:r<r'):False:=by
 let h1:M'<=M:=Yn b.hi (Yn (CM (kS.GL t.mf) λk _ hk=>by
  have:=of_decide_eq_true hk;exact decide_eq_true (by grind)) a.lo)
 let a1:=t.tP (g:=1) ∅;let a0:=t.tP (g:=0) ∅;let h2:M'*am A 1<=M*am A 1:=Y4 h1 (Zt a1);rw[a.eq,b.eq] at h2;let h3:r*(aA Pu-M)<r'*(aA Pu-M):=Jc h (by have:=a.m1;grind);let h4:r'*(aA Pu-M)<=r'*(aA Pu-M'):=Xg (by grind) (Zt b.r0);let h5:r*(aA Pu-M)*am A 0<r'*(aA Pu-M')*am A 0:=Jc (by grind) a0
 grind
def HE.uniq (t:fD A Pu W)(a:HE A Pu W r M)(b:HE A Pu W r' M'):M=M':=by
 rcases(by by_cases h:r<r';exact .inl h;by_cases h2:r=r';exact .inr (.inl h2);exact .inr (.inr (by grind)):r<r'\/r=r'\/r'<r) with h |h |h
 .exact(a.lt t b h).elim
 .subst h;let a1:=t.tP (g:=1) ∅;let a0:=t.tP (g:=0) ∅;let h1:=a.eq;let h2:=b.eq;let h3:(M-M')*(am A 1+r*am A 0)=0:=by grind
  let h4:0<am A 1+r*am A 0:=by have:=Yd a.r0 a0;grind
  rcases Rat.mul_eq_zero.mp h3 with z |z<;>grind
 .exact(b.lt t a h).elim
def uN (h:0<p)(hb:Rb 20 p):1<=p*((1048576:Int):Rat)/\p<=((1048576:Int):Rat):=by
 let h1:=hb.1;let h2:=hb.2;unfold Bd at h1 h2;let d0:=p.den_pos;rw[Xp] at h2;let dp:(0:Rat)<((p.den:Int):Rat):=oW ⋯;let e2:p*((p.den:Int):Rat)=((p.num:Int):Rat):=by
  let e:p=((p.num:Int):Rat) / ((p.den:Int):Rat):=by rw[<- X7];exact(Xl p).symm
  have:=Lb (a:=((p.num:Int):Rat)) dp
  rwa [<- e] at this
 let hn:0<p.num:=Xa.mp (by rw[<- e2];exact Yd h dp);constructor
 .let h3:((p.den:Int):Rat)<=((1048576:Int):Rat):=Xo.mpr ⋯;let h4:((1:Int):Rat)<=((p.num:Int):Rat):=Xo.mpr ⋯;let h5:=Xg h3 (Zt h)
  grind
 .let h3:((p.num:Int):Rat)<=((1048576:Int):Rat):=Xo.mpr ⋯;let h4:((1:Int):Rat)<=((p.den:Int):Rat):=Xo.mpr ⋯;let h5:=Xg h4 (Zt h)
  grind
def OL {g i:Nat}(hi:i<W.length):bQ (az [(g:Int)]) ((ar W qs).getD i [])=true↔g∈aR (W.getD i []) qs:=by
 have:=yA (qs:=qs) hi (S:=[(g:Int)]) (λx hx=>by rw[Zy.mp hx];omega);unfold tk at this
 grind
def fD.best (t:fD A Pu W)(hg:g<2)(ho:o<2)(hi:i<W.length)(q0:0<qs.getD o 0)(h:g∈aR (W.getD i []) qs):0<wi W i g/\wi W i g<=100/\0<=wi W i o/\(wi W i o:Rat)*qs.getD g 0<=(wi W i g:Rat)*qs.getD o 0:=by
 let⟨h1,h2,h3⟩:=kH.mp h;rw[t.mf.wr i hi] at h1 h3;let a:=t.mf.w0 i g hi h1;let b:=t.mf.w0 i o hi (by rw[t.two];exact ho);let eg:(W.getD i []).getD g 0=wi W i g:=rfl;let eo:(W.getD i []).getD o 0=wi W i o:=rfl;let eg':eI W i g=wi W i g:=rfl;let eo':eI W i o=wi W i o:=rfl;let h4:0<wi W i g:=⋯;apply⟨h4,⋯,⋯,?_⟩;by_cases e:wi W i o=0
 .rw[e];show(0:Rat)*_<=_;rw[Xw];exact Zt (Yd (oW h4) q0)
 .exact h3 o (by rw[t.two];exact ho) ⋯
structure Ly (A:Γ3)(Pu:Δ1)(W:Γ1)(qs:Δ1):Prop where
 x0:0<qs.getD 0 0
 y0:0<qs.getD 1 0
 GK:qs.getD 0 0*am A 0+qs.getD 1 0*am A 1=aA Pu
 le:∀g:Nat,g<2->qs.getD g 0*am A g<=ws Pu (λi=>decide (g∈aR (W.getD i []) qs))
def fD.cl2 (t:fD A Pu W)(c:E1 A Pu W qs):Ly A Pu W qs:=by
 let m:=jb.of c.rp t.good;let hl:qs.length=2:=m.len.trans t.two;let wl:=t.mf.wl;apply⟨m.kM.pos 0 ⋯ t.h0,m.kM.pos 1 ⋯ t.h1,?_,λg hg=>?_⟩
 .let z:=c.all.zero;unfold aN at z;rw[CJ,t.wz,T1 hl] at z;let e:wsum (List.range W.length) (λi=>Pu.getD i 0) (λi=>bQ (az [0,1]) ((ar W qs).getD i []))=aA Pu:=by
   unfold aA ws;rw[wl];apply AW λi hi=>?_
   let hi:i<W.length:=by rw[wl];exact Zh.mp hi
   let⟨r,tp⟩:=m.top hi;let⟨g,g1,g2,g3⟩:=tp.ex;apply(yA hi (S:=[0,1]) ∅).mpr ⟨g,?_,(tp.best m hi).mpr ⟨g1,g2,g3⟩⟩;rw[t.two] at g1
   grind
  grind
 .let h:=c.d9 [(g:Int)] (by rw[t.wz];rcases(by omega:g=0\/g=1) with rfl |rfl;exact(List.Sublist.refl [(0:Int)]).trans ∅;decide);unfold aN at h;rw[CJ,rc hl hg] at h;let e:wsum (List.range W.length) (λi=>Pu.getD i 0) (λi=>bQ (az [(g:Int)]) ((ar W qs).getD i []))=ws Pu (λi=>decide (g∈aR (W.getD i []) qs)):=by
   unfold ws;rw[wl];apply AW λi hi=>?_
   let hi:i<W.length:=by rw[wl];exact Zh.mp hi
   rw[Yb,OL hi,decide_eq_true_iff]
  grind
def pT (mf:kS A Pu W)(h:0<ws Pu p):∃i,i<Pu.length/\p i=true:=by
 by_cases e:∃i,i<Pu.length/\p i=true
 .exact e
 .exfalso;have:ws Pu p=0:=lf λi hi=>by
   cases hp:p i with
   |false=>rfl
   |true=>exact absurd ⟨i,Zh.mp hi,hp⟩ e
  rw[this] at h;exact absurd h ∅
theorem oA:∀{l:Δ1},(∀q∈l,0<=q)->x∈l->x<=bu l
 |[],_,h=>by cases h
 |y::l,h0,h=>by
  rw[AU];let h1:=h0 y (.head _);let t:∀q∈l,0<=q:=λq hq=>h0 q (.tail _ hq)
  rcases Zk.mp h with rfl |h
  .have:=SE t;grind
  .have:=oA t h;grind
def D1 (mf:kS A Pu W)(hi:i<Pu.length)(hp:p i=true):Pu.getD i 0<=ws Pu p:=by
 apply oA (λq hq=>?_) (Zd.mpr ⟨i,Zg.mpr ⟨Zh.mpr hi,hp⟩,()⟩);let⟨k,hk,rfl⟩:=Zd.mp hq;exact kS.GL mf k (Zg.mp hk).1
def zy (p:Nat->Bool):ws Pu p+ws Pu (λk=>!p k)=aA Pu:=by
 unfold aA ws;have:=K9 (List.range Pu.length) (λk=>Pu.getD k 0) (λ_=>true) p
 grind
end
section
theorem nz (k0:0<=k):∀{l:Δ1}{n:Nat},(∀q∈l,q<=k)->l.length<=n->bu l<=(n:Rat)*k
 |[],n,_,_=>by
  show(0:Rat)<=_;exact Qs Rat.natCast_nonneg k0
 |y::l,n+1,h,hn=>by
  rw[AU];let h1:=h y (.head _);have:=nz k0 (n:=n) (λq hq=>h q (.tail _ hq)) (by rw[Y2] at hn;omega);rw[show((n+1:Nat):Rat)=(n:Rat)+1 from Rat.natCast_add n 1]
  grind
def fD.rho (t:fD A Pu W)(c:Ly A Pu W qs):qs.getD 0 0 / qs.getD 1 0<((10 ^ 30:Int):Rat):=by
 let x0:=c.x0;let y0:=c.y0;let a0:=t.mf.am _ (MI.j4 (d:=0) (show 0<A.length by rw[t.two];decide));let a1:=t.mf.am _ (MI.j4 (d:=0) (show 1<A.length by rw[t.two];decide));let e0:(1:Rat)<=am A 0:=Xo.mpr a0.1;let e1:am A 1<=60:=Xo.mpr a1.2;let wl:=t.mf.wl;rw[Rat.div_lt_iff y0,show((10 ^ 30:Int):Rat)=10 ^ 30 from rfl];generalize hx:qs.getD 0 0=x at *;generalize hy:qs.getD 1 0=y at *;by_cases ex:∃i,i<Pu.length/\0∈aR (W.getD i []) qs/\1∈aR (W.getD i []) qs
 .obtain⟨i,hi,b0,b1⟩:=ex;let hi:i<W.length:=⋯;let⟨h1,h2,h3,h4⟩:=t.best (g:=0) (o:=1) ∅ ∅ hi (by rw[hy];exact y0) b0;let⟨h5,_⟩:=t.best (g:=1) (o:=0) ∅ ∅ hi (by rw[hx];exact x0) b1;rw[hx,hy] at h4;let h6:(1:Rat)*x<=(wi W i 1:Rat)*x:=Y4 (Xo.mpr (by omega:(1:Int)<=wi W i 1)) (Zt x0);let h7:(wi W i 0:Rat)*y<=(100:Rat)*y:=Y4 (Xo.mpr h2) (Zt y0)
  grind
 .let m1:=c.le 1 ∅;let m0:=c.le 0 ∅;let tt:=c.GK;rw[hx,hy] at tt;rw[hy] at m1;rw[hx] at m0;let a1p:=t.tP (g:=1) ∅;let h9:=Yd y0 a1p;let⟨i,hi,hb⟩:=pT t.mf (p:=λi=>decide (1∈aR (W.getD i []) qs)) (by grind);let hb:=of_decide_eq_true hb;let cm:=zy (Pu:=Pu) (λi=>decide (0∈aR (W.getD i []) qs));let h1:=D1 t.mf (p:=λk=>!decide (0∈aR (W.getD k []) qs)) hi (by show(!decide (0∈aR (W.getD i []) qs))=true;rw[decide_eq_false (λz=>ex ⟨i,hi,z,hb⟩)];rfl);let pi:=t.mf.pu _ (MI.j4 (d:=0) hi);let h2:=(uN pi.1 pi.2).1;let ev:aA Pu<=((6:Nat):Rat)*((1048576:Int):Rat):=by
   apply nz ∅ (λq hq=>?_) (by rw[Zb];exact Zl (Yv _ _) (by rw[Y3];exact t.mf.n6));let⟨k,hk,rfl⟩:=Zd.mp hq;let pk:=t.mf.pu _ (MI.j4 (d:=0) (Zh.mp (Zg.mp hk).1));exact(uN pk.1 pk.2).2
  let h3:x*1<=x*am A 0:=Xg e0 (Zt x0);let h4:y*am A 1<=y*60:=Xg e1 (Zt y0)
  grind
def Mp (h:wi W i 1≠0):lk W i=((wi W i 0:Int):Rat) / ((wi W i 1:Int):Rat):=by
 unfold lk RB;rw[if_neg (show ¬ (W.getD i []).getD 1 0=0 from h),X7];rfl
def QE (h:wi W i 1=0):lk W i=((10 ^ 30:Int):Rat):=by
 unfold lk RB;rw[if_pos (show(W.getD i []).getD 1 0=0 from h)]
def fD.mid (t:fD A Pu W)(c:Ly A Pu W qs):HE A Pu W (qs.getD 0 0 / qs.getD 1 0) (qs.getD 0 0*am A 0):=by
 let x0:=c.x0;let y0:=c.y0;let a0:=t.tP (g:=0) ∅;let a1:=t.tP (g:=1) ∅;let wl:=t.mf.wl;let yn:qs.getD 1 0≠0:=λz=>by rw[z] at y0;exact absurd y0 ∅
 let p1:=Yd y0 a1;let tt:=c.GK;apply⟨tH x0 y0,Yd x0 a0,by grind,?_,?_,by grind⟩
 .let cm:=zy (Pu:=Pu) (λk=>decide (qs.getD 0 0 / qs.getD 1 0<lk W k));let h:=c.le 1 ∅;let h2:ws Pu (λi=>decide (1∈aR (W.getD i []) qs))<=ws Pu (λk=>!decide (qs.getD 0 0 / qs.getD 1 0<lk W k)):=CM (kS.GL t.mf) λi hi hb=>by
   let hi:=Zh.mp hi;let⟨h1,_,_,h4⟩:=t.best (g:=1) (o:=0) ∅ ∅ ⋯ x0 (of_decide_eq_true hb);rw[decide_eq_false];rfl;rw[Mp ⋯];have:=(zj (a:=((wi W i 0:Int):Rat)) (b:=qs.getD 0 0) (oW h1) y0).mp (by grind)
   grind
  grind
 .apply Yn (c.le 0 ∅) (CM (kS.GL t.mf) λi hi hb=>?_);let hi:=Zh.mp hi;let⟨h1,_,h3,h4⟩:=t.best (g:=0) (o:=1) ∅ ∅ ⋯ y0 (of_decide_eq_true hb);apply decide_eq_true ?_;by_cases e:wi W i 1=0
  .rw[QE e];exact Zt (t.rho c)
  .rw[Mp e];exact(zj y0 (oW ⋯)).mp (by grind)
def iJ (Pu:Δ1)(W:Γ1)(i:Nat):Rat:=ws Pu λk=>decide (lk W i<lk W k)
def cH (Pu:Δ1)(W:Γ1)(i:Nat):Rat:=iJ Pu W i+ws Pu λk=>decide (lk W k=lk W i)
def pD (A:Γ3)(r:Rat):Rat:=r*Rat.divInt (A.getD 0 0) (A.getD 1 0)
def tF (A:Γ3)(E r:Rat):Rat:=E*(pD A r / (1+pD A r))
def Dd (A:Γ3)(E M:Rat):Δ1:=[M*Rat.divInt 1 (A.getD 0 0),(E-M)*Rat.divInt 1 (A.getD 1 0)]
def iH (A:Γ3)(E M:Rat):Rat:=M*Rat.divInt 1 (A.getD 0 0) / ((E-M)*Rat.divInt 1 (A.getD 1 0))
structure C1 (A:Γ3)(Pu:Δ1)(W:Γ1)(i:Nat):Prop where
 pos:0<lk W i
 lo:¬ tF A (aA Pu) (lk W i)<iJ Pu W i
 hi:¬ cH Pu W i<tF A (aA Pu) (lk W i)
structure C2 (A:Γ3)(Pu:Δ1)(W:Γ1)(i:Nat):Prop where
 n0:cH Pu W i≠0
 n1:cH Pu W i≠aA Pu
 le:¬ lk W i<iH A (aA Pu) (cH Pu W i)
 no:∀k,k<Pu.length->¬ (lk W k<lk W i/\iH A (aA Pu) (cH Pu W i)<lk W k)
def fQ (i:Nat):cH Pu W i=ws Pu λk=>decide (lk W i<=lk W k):=by
 let h:=K9 (List.range Pu.length) (λk=>Pu.getD k 0) (λk=>decide (lk W i<=lk W k)) (λk=>decide (lk W i<lk W k));let e1:(λk=>decide (lk W i<=lk W k)||decide (lk W i<lk W k))=λk=>decide (lk W i<=lk W k):=funext λk=>by
  grind
 let e2:(λk=>decide (lk W i<=lk W k)&&!decide (lk W i<lk W k))=λk=>decide (lk W k=lk W i):=funext λk=>by
  grind
 rw[e1,e2] at h;exact h.symm
def QV (t:fD A Pu W):0<aA Pu:=by
 have:=D1 t.mf (p:=λ_=>true) (i:=0) (by have:=t.mf.n1;omega) rfl;let h:=(t.mf.pu _ (MI.j4 (d:=0) (show 0<Pu.length by have:=t.mf.n1;omega))).1;unfold aA
 grind
def dv (a b:Int):Rat.divInt a b=(a:Rat) / (b:Rat):=X7 a b
def C1.mid (t:fD A Pu W)(c:C1 A Pu W i):HE A Pu W (lk W i) (tF A (aA Pu) (lk W i)):=by
 let a0:=t.tP (g:=0) ∅;let a1:=t.tP (g:=1) ∅;let ep:=QV t;let lo:=c.lo;let hi:=c.hi;let lp:=c.pos;let es:pD A (lk W i)*am A 1=lk W i*am A 0:=by
  unfold pD;rw[dv];show lk W i*(am A 0 / am A 1)*am A 1=_
  grind
 let s0:0<pD A (lk W i):=by
  unfold pD;rw[dv];exact Yd lp (tH a0 a1)
 generalize hs:pD A (lk W i)=s at *;let em:tF A (aA Pu) (lk W i)*(1+s)=aA Pu*s:=by
  unfold tF;rw[hs,Rat.mul_assoc,Lb (by grind)]
 generalize tF A (aA Pu) (lk W i)=M at *;let m0:0<M:=by
  rcases Rat.le_total (a:=M) (b:=0) with h |h
  .let h1:=Y4 h (by grind:(0:Rat)<=1+s);let h2:=Yd ep s0
   grind
  .by_cases e:M=0
   .let h2:=Yd ep s0
    grind
   .grind
 apply⟨lp,m0,?_,?_,?_,?_⟩
 .let e3:(aA Pu-M)*s=M:=by grind
  by_cases h:M<aA Pu
  .exact h
  .have:=Y4 (show aA Pu-M<=0 by grind) (Zt s0)
   grind
 .unfold iJ at lo;grind
 .rw[fQ] at hi;grind
 grind
def Ek (t:fD A Pu W)(m1:M≠aA Pu):M*am A 1=iH A (aA Pu) M*(aA Pu-M)*am A 0:=by
 let a0:=t.tP (g:=0) ∅;let a1:=t.tP (g:=1) ∅;let n0:am A 0≠0:=λz=>by rw[z] at a0;exact absurd a0 ∅
 let n1:am A 1≠0:=λz=>by rw[z] at a1;exact absurd a1 ∅
 let n2:aA Pu-M≠0:=λz=>m1 (by grind)
 unfold iH;rw[dv,dv];show _=M*(1 / am A 0) / ((aA Pu-M)*(1 / am A 1))*(aA Pu-M)*am A 0
 grind
def C2.mid (t:fD A Pu W)(c:C2 A Pu W i):HE A Pu W (iH A (aA Pu) (cH Pu W i)) (cH Pu W i):=by
 let a0:=t.tP (g:=0) ∅;let a1:=t.tP (g:=1) ∅;let e:=Ek t c.n1;let s0:0<=cH Pu W i:=by
  rw[fQ];apply SE λq hq=>?_
  let⟨k,hk,rfl⟩:=Zd.mp hq;exact kS.GL t.mf k (Zg.mp hk).1
 let sp:0<cH Pu W i:=by have:=c.n0;grind
 let sl:cH Pu W i<aA Pu:=by
  let h:cH Pu W i<=aA Pu:=by rw[fQ];exact CM (kS.GL t.mf) λ_ _ _=>rfl
  have:=c.n1;grind
 let le:=c.le;let no:=c.no;rw[fQ] at *;generalize hS:(ws Pu λk=>decide (lk W i<=lk W k))=S at *;let r0:0<iH A (aA Pu) S:=by
  unfold iH;rw[dv,dv];exact tH (Yd sp (tH ∅ a0)) (Yd (by grind) (tH ∅ a1))
 apply⟨r0,sp,sl,?_,?_,e⟩
 .rw[<- hS];apply CM (kS.GL t.mf) λk hk h=>?_
  grind
 .rw[<- hS];apply CM (kS.GL t.mf) λk hk h=>?_
  grind
end
section
def fD.spl (t:fD A Pu W)(c:Ly A Pu W qs)(hl:qs.length=2):Dd A (aA Pu) (qs.getD 0 0*am A 0)=qs:=by
 let a0:=t.tP (g:=0) ∅;let a1:=t.tP (g:=1) ∅;let n0:am A 0≠0:=λz=>by rw[z] at a0;exact absurd a0 ∅
 let n1:am A 1≠0:=λz=>by rw[z] at a1;exact absurd a1 ∅
 let tt:=c.GK;unfold Dd;rw[dv,dv];let e1:qs.getD 0 0*am A 0*(((1:Int):Rat) / ((A.getD 0 0:Int):Rat))=qs.getD 0 0:=by
  show qs.getD 0 0*am A 0*(1 / am A 0)=_
  grind
 let e2:(aA Pu-qs.getD 0 0*am A 0)*(((1:Int):Rat) / ((A.getD 1 0:Int):Rat))=qs.getD 1 0:=by
  show(aA Pu-qs.getD 0 0*am A 0)*(1 / am A 1)=_;rw[<- tt];grind
 rw[e1,e2]
 match qs,hl with
 |[a,b],_=>rfl
def fD.found (t:fD A Pu W)(c:Ly A Pu W qs):∃i,i<Pu.length/\((C1 A Pu W i/\lk W i≠((10 ^ 30:Int):Rat))\/C2 A Pu W i):=by
 let md:=t.mid c;let rh:=t.rho c;let a0:=t.tP (g:=0) ∅;let a1:=t.tP (g:=1) ∅;let n1:am A 1≠0:=λz=>by rw[z] at a1;exact absurd a1 ∅
 generalize qs.getD 0 0 / qs.getD 1 0=r at *;generalize qs.getD 0 0*am A 0=M at *;let r0:=md.r0;let me:=md.eq;by_cases ex:∃i,i<Pu.length/\lk W i=r
 .obtain⟨i,hi,e⟩:=ex;let s0:0<pD A r:=by unfold pD;rw[dv];exact Yd r0 (tH a0 a1)
  let es:pD A r*am A 1=r*am A 0:=by
   unfold pD;rw[dv];show r*(am A 0 / am A 1)*am A 1=_
   grind
  let em:tF A (aA Pu) r=M:=by
   unfold tF
   grind
  apply⟨i,hi,.inl ⟨⟨by rw[e];exact r0,?_,?_⟩,by rw[e];grind⟩⟩
  .rw[e,em];unfold iJ;rw[e];have:=md.lo;grind
  .rw[fQ,e,em];have:=md.hi;grind
 .let eq:ws Pu (λk=>decide (r<=lk W k))=ws Pu (λk=>decide (r<lk W k)):=AW λk hk=>by
   grind
  let eM:ws Pu (λk=>decide (r<lk W k))=M:=by have:=md.lo;have:=md.hi;grind
  let⟨i0,WM,h0⟩:=pT t.mf (p:=λk=>decide (r<lk W k)) (by rw[eM];exact md.m0);let⟨q,h1,h2⟩:=wX (l:=((List.range Pu.length).filter λk=>decide (r<lk W k)).map (lk W)) (λz=>by
   have:i0∈(List.range Pu.length).filter λk=>decide (r<lk W k):=Zg.mpr ⟨Zh.mpr WM,h0⟩
   rw[Qa.mp z] at this;cases this)
  let⟨i,hi,rfl⟩:=Zd.mp h1;let⟨hi,hr⟩:=Zg.mp hi;let hr:=of_decide_eq_true hr;let mn:∀k,k<Pu.length->r<lk W k->lk W i<=lk W k:=λk hk h=>h2 _ (Zd.mpr ⟨k,Zg.mpr ⟨Zh.mpr hk,decide_eq_true h⟩,()⟩)
  let es:cH Pu W i=M:=by
   rw[fQ,<- eM];apply AW λk hk=>?_
   have:=mn k (Zh.mp hk);rw[Yb,decide_eq_true_iff,decide_eq_true_iff];grind
  let m0:=md.m0;let m1:=md.m1;let ep:iH A (aA Pu) M=r:=by
   let h:=Ek t (M:=M) (by grind);rw[me] at h;let h3:0<(aA Pu-M)*am A 0:=Yd (by grind) a0;let h4:(aA Pu-M)*am A 0≠0:=by grind
   grind
  apply⟨i,Zh.mp hi,.inr ⟨by rw[es];grind,by rw[es];grind,by rw[es,ep];grind,λk hk=>?_⟩⟩;rw[es,ep];rintro⟨h5,h6⟩;have:=mn k hk h6
  grind
def fD.ab0 (t:fD A Pu W)(c:Ly A Pu W qs)(hl:qs.length=2)(h:C1 A Pu W i):Dd A (aA Pu) (tF A (aA Pu) (lk W i))=qs:=by
 rw[(h.mid t).uniq t (t.mid c)];exact t.spl c hl
def fD.abZ (t:fD A Pu W)(c:Ly A Pu W qs)(hl:qs.length=2)(h:C2 A Pu W i):Dd A (aA Pu) (cH Pu W i)=qs:=by
 rw[(h.mid t).uniq t (t.mid c)];exact t.spl c hl
end
end RT
namespace KM
open L2 KG EX
section
variable {row am:Γ3}
end
section
end
section
end
section
end
end KM
namespace MI
open L2 KG EX KM RZ SP
section
end
section
def EG:pL K yK N8:=λw O H vs xs P PX Q E r a hf q x=>by
 let⟨a1,b1,rfl,h0,hf⟩:=hf;let⟨v,v2,rfl,h1,h3⟩:=wL a;let⟨p1,rfl,g1⟩:=R0 h1;let⟨p2,rfl,g2⟩:=R0 h3;apply⟨p1,p2,a1,b1,(),g1,g2,h0.1,h0.2.1,h0.2.2,λp hp=>?_⟩;let⟨r1,e1,t1⟩:=DJ r hp;exact q _ _ O w _ hf e1 r1 t1
def UH:FM:=λO xs P _=>∃j,xs=[.bag j]/\∀z:Rat,lF (qD z)=true->P (.im (qD z)) O
def QC:pL K NI UH:=λw O H vs xs P PX Q E r a hf q x=>by
 let⟨j,rfl,hf⟩:=hf;let⟨v,us,rfl,h1,h2⟩:=a.aW;rw[h2.cj];let⟨b,hb,rfl⟩:=h1;let gJ:=Z0 hb;apply⟨b,(),r.bg b gJ,λv d H' hB hK t m=>?_⟩;let⟨r1,e1,_⟩:=r.draw gJ hK hB;let⟨z,rfl,_,_⟩:=mr m;exact q _ _ O w H' (hf z m) e1 r1 (XQ r1 t rfl)
end
def uS (h:0<w):PyData.tuple [.int 1,.int w]=qD (Rat.divInt 1 w):=by
 let⟨e1,e2⟩:=k4 (T:=1) (U:=w) ⋯;unfold qD;let h1:(Rat.divInt 1 w).num=1:=by
  rw[Rat.num_divInt]
  simp_all
 let h2:((Rat.divInt 1 w).den:Int)=w:=by
  rw[Rat.den_divInt,if_neg ⋯,Int.gcd_one_right];omega
 rw[h1,h2]
def QI (qs:Δ1):(PyData.tuple (qs.map qD)).canLay0=true:=by rw[PyData.canLay0];exact EI qs
def Jl (qs:Δ1):vT (.tuple (qs.map qD)) (.tuple (qs.map qD))=true:=by rw[nQ,SeqAt.eqv_refl _ (QI qs)]
def KJ {qs zs:Δ1}:min (PyData.tuple (qs.map qD)).depth (PyData.tuple (zs.map qD)).depth<=60:=Zl (Nat.min_le_left _ _) (Zl (QZ qs) ∅)
end MI
namespace MI
open L2 KG EX KM RZ SP RT
def xu (i j:Int):vT (.int i) (.int j)=decide (i=j):=rfl
def rk:FM:=λO xs P _=>∃r:Γ3,xs=[.im (aP r)]/\r.length=2/\(∀j,j<2->0<=r.getD j 0/\r.getD j 0<=100)/\P (.im (qD (RB r))) O
abbrev UT:Δ2:=["row"]
def Ug:MS:=(be (jz (cV (bB (C3 false) (bB cO (ah 0) (mC (.int 1))) (mC (.int 0)))) (cE (gO (af (bB NS (mC (.int 10)) (mC (.int 30))) (af (mC (.int 1)) ao)))) eF)
 (cE (aC Lp cb (af (bB cO (ah 0) (mC (.int 0))) (af (bB cO (ah 0) (mC (.int 1))) ao)))))
def O8:∀O xs Pq QX,rk O xs Pq QX->Ug { nx:=λ_ O'=>Pq (.im .none) O',rt:=Pq } (bp UT xs) O:=by
 intro O xs Pq QX h;let⟨r,rfl,hl,hb,h⟩:=h;let a0:=AQ (ns:=r) (i:=0) ⋯;let a1:=AQ (ns:=r) (i:=1) ⋯;let b1:=hb 1 ∅;apply⟨_,a1,dI,?_⟩;unfold RB at h;apply⟨λz=>?_,λz=>?_⟩
 .let z:vT (.int (r.getD 1 0)) (.int 0)=true:=z;rw[xu] at z;rw[if_pos (of_decide_eq_true z)] at h;apply⟨⟨∅,∅,∅⟩,jA,?_⟩;exact h
 .let z:vT (.int (r.getD 1 0)) (.int 0)=false:=z;rw[xu] at z;let z:=of_decide_eq_false z;rw[if_neg z] at h;exact⟨_,a0,_,a1,⟨⋯,IK ⋯⟩,h⟩
def DU (W:Γ1)(k:Nat):Prop:=(W.getD k []).length=2/\(∀j,j<2->0<=(W.getD k []).getD j 0/\(W.getD k []).getD j 0<=100)/\Rb 101 (lk W k)
def Ai (t:RT.fD A Pu W)(hk:k<W.length):DU W k:=by
 let b:∀j,j<2->0<=(W.getD k []).getD j 0/\(W.getD k []).getD j 0<=100:=λj hj=>t.mf.w0 k j hk (by rw[t.two];exact hj)
 apply⟨(t.mf.wr k hk).trans t.two,b,?_⟩;unfold lk RB;split
 .exact iN (by unfold Bd;decide) ∅
 .have:=b 0 ∅;have:=b 1 ∅;exact(gT (k:=7) (by assumption) (by unfold Bd;omega) (by unfold Bd;omega)).mono ∅
def t8:FM:=λO xs P _=>∃(A:Γ3) (M E:Rat),xs=[.im (.tuple (A.map .int)),.im (qD M),.im (qD E)]/\A.length=2/\(∀a∈A,1<=a/\a<=60)/\Rb 500 M/\Rb 500 E/\P (.im (.tuple ((Dd A E M).map qD))) O
abbrev US:Δ2:=["amounts","money","every"]
def Ua:MS:=(cE (gO (af (aC (f2 pE) cb (af (ah 1) (af (gO (af (mC (.int 1)) (af (bB cO (ah 0) (mC (.int 0))) ao))) ao))) (af (aC (f2 pE) cb (af (aC (f2 YL) cb (af (ah 2) (af (ah 1) ao))) (af (gO (af (mC (.int 1)) (af (bB cO (ah 0) (mC (.int 1))) ao))) ao))) ao))))
def OW:∀O xs Pq QX,t8 O xs Pq QX->Ua { nx:=λ_ O'=>Pq (.im .none) O',rt:=Pq } (bp US xs) O:=by
 intro O xs Pq QX h;let⟨A,M,E,rfl,hl,ha,hM,hE,h⟩:=h;let a0:=AQ (ns:=A) (i:=0) ⋯;let a1:=AQ (ns:=A) (i:=1) ⋯;let g0:=ha _ (j4 (d:=0) (show 0<A.length by omega));let g1:=ha _ (j4 (d:=0) (show 1<A.length by omega));let rd:∀{a:Int},1<=a/\a<=60->Rb 3000 (Rat.divInt 1 a):=λ{a} h=>(gT (k:=6) ⋯ (by unfold Bd;decide) (by unfold Bd;omega)).mono ∅
 apply⟨_,a0,jA,M,Rat.divInt 1 (A.getD 0 0),by rw[uS ⋯],⟨hM.mono ∅,rd g0⟩,?_⟩;apply⟨E,M,(),⟨hE.mono ∅,hM.mono ∅⟩,_,a1,jA,E-M,Rat.divInt 1 (A.getD 1 0),by rw[uS ⋯];rfl,⟨(Ei hE hM).mono ∅,rd g1⟩,jA,?_⟩;exact h
def Dq:FM:=λO xs P _=>∃(A:Γ3) (Pu:Δ1) (W:Γ1) (M E z:Rat),xs=[.im (fw A Pu W),.im (qD M),.im (qD E),.im (qD z)]/\RT.fD A Pu W/\Rb 500 M/\Rb 500 E/\Rb 500 z/\0<=M/\M<=E /\
 ∀b:Bool,(b=true↔M≠0/\M≠E/\¬ z<iH A E M/\∀k,k<Pu.length->¬ (lk W k<z/\iH A E M<lk W k))->P (.im (.bool b)) O
abbrev U3:Δ2:=["market","money","every","mine","amounts","purses","wishes","one","other","price","row"]
def Ul:MS:=(be (bH (ah 0) (kP 3 (aG (bm 4) (aG (bm 5) (aG (bm 6) ck)))))
 (be (jz (Ud (cV (bB (C3 false) (bB cO (ah 1) (mC (.int 0))) (mC (.int 0)))) (cV (bB (C3 false) (ah 1) (ah 2)))) (cE (mC (.bool false))) eF)
 (be (bH (aC t8 cb (af (ah 4) (af (ah 1) (af (ah 2) ao)))) (kP 2 (aG (bm 7) (aG (bm 8) ck))))
 (be (bH (aC N8 cb (af (ah 7) (af (ah 8) ao))) (bm 9))
 (be (jz (cV (aC lN cb (af (ah 3) (af (ah 9) ao)))) (cE (mC (.bool false))) eF)
 (be (l3 (cK (ah 6)) (bm 10) (jz (pN (cV (aC lN cb (af (aC rk cb (af (ah 10) ao)) (af (ah 3) ao)))) (cV (aC lN cb (af (ah 9) (af (aC rk cb (af (ah 10) ao)) ao))))) (cE (mC (.bool false))) eF))
 (cE (mC (.bool true)))))))))
def Pj:∀O xs Pq QX,Dq O xs Pq QX->Ul { nx:=λ_ O'=>Pq (.im .none) O',rt:=Pq } (bp U3 xs) O:=by
 intro O xs Pq QX h;let⟨A,Pu,W,M,E,z,rfl,t,hM,hE,hz,m0,m1,h⟩:=h;let wl:=t.mf.wl;let ha:=t.mf.am;let hA:=t.two;let en:vT (.int M.num) (.int 0)=decide (M=0):=by rw[xu];exact decide_eq_decide.mpr Rat.num_eq_zero
 apply⟨(),_,(),dI,⟨λz1=>⟨λ_=>?_,λy=>by cases y⟩,λz1=>⟨dQ,⟨λz2=>?_,λz2=>?_⟩⟩⟩⟩
 .let z1:vT (.int M.num) (.int 0)=true:=z1;rw[en] at z1;exact h false ⟨λy=>(by cases y),λy=>absurd (of_decide_eq_true z1) y.1⟩
 .let z2:vT (qD M) (qD E)=true:=z2;rw[xt] at z2;exact h false ⟨λy=>(by cases y),λy=>absurd (of_decide_eq_true z2) y.2.1⟩
 let z1:vT (.int M.num) (.int 0)=false:=z1;let z2:vT (qD M) (qD E)=false:=z2;rw[en] at z1;rw[xt] at z2;let z1:=of_decide_eq_false z1;let z2:=of_decide_eq_false z2;let a0:=ha _ (j4 (d:=0) (show 0<A.length by omega));let a1:=ha _ (j4 (d:=0) (show 1<A.length by omega));let rd:∀{a:Int},1<=a/\a<=60->0<Rat.divInt 1 a/\Rb 6 (Rat.divInt 1 a):=λ{a} h=>⟨by rw[dv];exact tH ∅ (oW ⋯),gT ⋯ (by unfold Bd;decide) (by unfold Bd;omega)⟩
 let em:0<E-M:=by grind
 let o0:=jP hM (rd a0).2;let o1:=jP (Ei hE hM) (rd a1).2;let p1:=Yd em (rd a1).1;let RC:∀k,k<W.length->DU W k:=λk hk=>Ai t hk
 apply⟨⟨A,M,E,(),hA,ha,hM,hE,(),?_⟩⟩;apply⟨⟨_,_,(),⟨o0.mono ∅,o1.mono ∅,p1⟩,?_⟩⟩;let pR:Rb 3000 (iH A E M):=(hW o0 o1 (λz=>by rw[z] at p1;exact absurd p1 ∅)).mono ∅;apply⟨⟨z,iH A E M,(),⟨hz.mono ∅,pR⟩,λc=>?_,λc=>?_⟩⟩
 .let c:=of_decide_eq_true c;exact h false ⟨λy=>(by cases y),λy=>absurd c y.2.2.1⟩
 let c:=of_decide_eq_false c;conv=>whnf
 apply⟨λi sl O'=>O'=O/\∃GJ,sl=[Φ9 (fw A Pu W),Φ9 (qD M),Φ9 (qD E),Φ9 (qD z),Φ9 (.tuple (A.map .int)),Φ9 (.tuple (Pu.map qD)),Φ9 (.tuple (W.map aP)),Φ9 (qD (M*Rat.divInt 1 (A.getD 0 0))),Φ9 (qD ((E-M)*Rat.divInt 1 (A.getD 1 0))),Φ9 (qD (iH A E M)),GJ]/\∀k,k<i->¬ (lk W k<z/\iH A E M<lk W k),⟨(),_,(),λk hk=>⋯⟩,?_,?_⟩
 .rintro i x sl O' hx ⟨rfl,GJ,rfl,hk⟩;let⟨hi,rfl⟩:=hV hx;let⟨r1,r2,r3⟩:=RC i hi;let nx:¬ (lk W i<z/\iH A E M<lk W i)->∀k,k<i+1->¬ (lk W k<z/\iH A E M<lk W k):=λh k h2=>by
   grind
  apply⟨⟨W.getD i [],(),r1,r2,lk W i,z,(),⟨r3.mono ∅,hz.mono ∅⟩,λc1=>⟨W.getD i [],(),r1,r2,iH A E M,lk W i,(),⟨pR,r3.mono ∅⟩,λc2=>?_,λc2=>?_⟩,λc1=>⟨λy=>(by cases y),λ_=>?_⟩⟩⟩
  .let c1:=of_decide_eq_true c1;let c2:=of_decide_eq_true c2;exact h false ⟨λy=>(by cases y),λy=>absurd ⟨c1,c2⟩ (y.2.2.2 i ⋯)⟩
  .let c2:=of_decide_eq_false c2;exact⟨(),_,(),nx λy=>c2 y.2⟩
  .let c1:=of_decide_eq_false c1;exact⟨(),_,(),nx λy=>c1 y.1⟩
 .rintro sl O' ⟨rfl,GJ,rfl,hk⟩;rw[Zb,Zb,wl] at hk;exact⟨h true ⟨λ_=>⟨z1,z2,c,hk⟩,λ_=>rfl⟩⟩
def zZ {q:Rat}:0<q.num↔0<q:=by
 let a:=Rat.num_nonneg (q:=q);let b:=Rat.num_eq_zero (q:=q)
 grind
def QU (Pu:Δ1):bu Pu=aA Pu:=by
 unfold aA ws wsum;rw[Qc.mpr λ_ _=>rfl];have:=Hl (λq:Rat=>q) Pu 0;rw[this,List.map_id']
def VR:MS:=(jz (cV (aC Dq cb (af (ah 0) (af (ah 8) (af (ah 4) (af (ah 6) ao)))))) (cE (aC t8 cb (af (ah 1) (af (ah 8) (af (ah 4) ao))))) eF)
def zg:FM:=λO xs P _=>∃(A:Γ3) (Pu:Δ1) (W:Γ1) (qs:Δ1),xs=[.im (fw A Pu W)]/\RT.fD A Pu W/\Ly A Pu W qs/\qs.length=2/\P (.im (.tuple (qs.map qD))) O
abbrev zo:Δ2:=["market","amounts","purses","wishes","every","buyer","mine","more","same","share","money"]
def L9:MS:=(be (bH (ah 0) (kP 3 (aG (bm 1) (aG (bm 2) (aG (bm 3) ck)))))
 (be (bH (aC Iz cb (af (jZ Ik (af (ah 2) ao)) ao)) (bm 4))
 (be (l3 (re (af (jZ tX (af (ah 2) ao)) ao)) (bm 5) (be (bH (aC rk cb (af (bB cO (ah 3) (ah 5)) ao)) (bm 6))
 (be (bH (aC Iz cb (af (cL 1 [6,2,3] (re (af (jZ tX (af (ah 2) ao)) ao)) (bm 0) (cV (aC lN cb (af (ah 1) (af (aC rk cb (af (bB cO (ah 3) (ah 0)) ao)) ao)))) (bB cO (ah 2) (ah 0))) ao)) (bm 7))
 (be (bH (aC (f2 Sm) cb (af (ah 7) (af (aC Iz cb (af (cL 1 [6,2,3] (re (af (jZ tX (af (ah 2) ao)) ao)) (bm 0) (cV (bB (C3 false) (aC rk cb (af (bB cO (ah 3) (ah 0)) ao)) (ah 1))) (bB cO (ah 2) (ah 0))) ao)) ao))) (bm 8))
 (be (jz (pN (cV (bB G8 (bB cO (ah 6) (mC (.int 0))) (mC (.int 0)))) (cV (bB (C3 true) (ah 6) (gO (af (bB NS (mC (.int 10)) (mC (.int 30))) (af (mC (.int 1)) ao)))))) (be (bH (aC (f2 pE) cb (af (ah 6) (af (aC Lp cb (af (bB cO (ah 1) (mC (.int 0))) (af (bB cO (ah 1) (mC (.int 1))) ao))) ao))) (bm 9))
 (be (bH (aC (f2 pE) cb (af (ah 4) (af (aC N8 cb (af (ah 9) (af (aC (f2 Sm) cb (af (gO (af (mC (.int 1)) (af (mC (.int 1)) ao))) (af (ah 9) ao))) ao))) ao))) (bm 10))
 (jz (pN (Ig (cV (aC lN cb (af (ah 10) (af (ah 7) ao))))) (Ig (cV (aC lN cb (af (ah 8) (af (ah 10) ao)))))) (cE (aC t8 cb (af (ah 1) (af (ah 10) (af (ah 4) ao))))) eF))) eF)
 (jz (cV (aC Dq cb (af (ah 0) (af (ah 8) (af (ah 4) (af (ah 6) ao)))))) (cE (aC t8 cb (af (ah 1) (af (ah 8) (af (ah 4) ao))))) eF))))))
 (cE (mC .none)))))
def Ju:∀O xs Pq QX,zg O xs Pq QX->L9 { nx:=λ_ O'=>Pq (.im .none) O',rt:=Pq } (bp zo xs) O:=by
 intro O xs Pq QX h;let⟨A,Pu,W,qs,rfl,t,c,hl,h⟩:=h;let wl:=t.mf.wl;let n6:=t.mf.n6;let ha:=t.mf.am;let hA:=t.two;let wsl:∀c:Nat->Bool,(((List.range Pu.length).filter c).map λk=>qD (Pu.getD k 0))=(((List.range Pu.length).filter c).map λk=>Pu.getD k 0).map qD:=λc=>by rw[Zp];rfl
 let Rp:∀c:Nat->Bool,(∀q∈((List.range Pu.length).filter c).map λk=>Pu.getD k 0,Rb 20 q)/\(((List.range Pu.length).filter c).map λk=>Pu.getD k 0).length<=6:=λc=>⟨λq hq=>by
  let⟨k,hk,rfl⟩:=Zd.mp hq;exact(t.mf.pu _ (j4 (d:=0) (Zh.mp (Zg.mp hk).1))).2,by
  rw[Zb];exact Zl (Yv _ _) (by rw[Y3];exact n6)⟩
 let Rq:∀c:Nat->Bool,Rb 127 (ws Pu c):=λc=>E6 (k:=20) (n:=6) (Rp c).1 (Rp c).2
 let YF:∀i,Rb 255 (cH Pu W i):=λi=>nD (Rq _) (Rq _)
 let Ta:Rb 127 (aA Pu):=Rq _;let pat:∀k,k<Pu.length->fY (Pu.map qD) (k:Int)=some (qD (Pu.getD k 0)):=λk hk=>bT (mX (f:=qD) (d:=(0:Rat)) hk)
 let YK:∀k,k<Pu.length->fY (W.map aP) (k:Int)=some (aP (W.getD k [])):=λk hk=>bT (mX (f:=aP) (d:=[]) ⋯)
 let RC:∀k,k<Pu.length->DU W k:=λk hk=>Ai t ⋯
 let WT:∀(D:uA) (i:Nat) y9 GJ,i<Pu.length->D.rt=Pq->(¬ C2 A Pu W i->D.nx [Φ9 (fw A Pu W),Φ9 (.tuple (A.map .int)),Φ9 (.tuple (Pu.map qD)),Φ9 (.tuple (W.map aP)),Φ9 (qD (aA Pu)),Φ9 (.int (i:Int)),Φ9 (qD (lk W i)),Φ9 (qD (iJ Pu W i)),Φ9 (qD (cH Pu W i)),y9,GJ] O)->Go VR D [Φ9 (fw A Pu W),Φ9 (.tuple (A.map .int)),Φ9 (.tuple (Pu.map qD)),Φ9 (.tuple (W.map aP)),Φ9 (qD (aA Pu)),Φ9 (.int (i:Int)),Φ9 (qD (lk W i)),Φ9 (qD (iJ Pu W i)),Φ9 (qD (cH Pu W i)),y9,GJ] O:=λD i y9 GJ hi hD hn=>by
  let s0:0<=cH Pu W i:=by
   rw[fQ];apply SE λq hq=>?_
   let⟨k,hk,rfl⟩:=Zd.mp hq;exact RT.kS.GL t.mf k (Zg.mp hk).1
  let s1:cH Pu W i<=aA Pu:=by rw[fQ];exact CM (RT.kS.GL t.mf) λ_ _ _=>rfl
  apply⟨⟨A,Pu,W,cH Pu W i,aA Pu,lk W i,(),t,(YF i).mono ∅,Ta.mono ∅,(RC i hi).2.2.mono ∅,s0,s1,λb hb=>⟨λe=>?_,λe=>?_⟩⟩⟩
  .obtain⟨h1,h2,h3,h4⟩:=hb.mp e;let c2:C2 A Pu W i:=⟨h1,h2,h3,h4⟩;apply⟨A,cH Pu W i,aA Pu,(),hA,ha,(YF i).mono ∅,Ta.mono ∅,?_⟩;rw[t.abZ c hl c2];rw[hD];exact h
  .apply hn λc2=>?_
   have:=hb.mpr ⟨c2.n0,c2.n1,c2.le,c2.no⟩;rw[e] at this;cases this
 apply⟨(),⟨Pu,(),⟨λq hq=>(t.mf.pu q hq).2.mono ∅,⋯⟩,?_⟩⟩;rw[QU];apply⟨⟨⟨by rw[Zb];omega,by rw[Zb];omega⟩,λi sl O'=>O'=O/\(∃y5 y6 y7 y8 y9 GJ,sl=[Φ9 (fw A Pu W),Φ9 (.tuple (A.map .int)),Φ9 (.tuple (Pu.map qD)),Φ9 (.tuple (W.map aP)),Φ9 (qD (aA Pu)),y5,y6,y7,y8,y9,GJ])/\∀j,j<i->¬ ((C1 A Pu W j/\lk W j≠((10 ^ 30:Int):Rat))\/C2 A Pu W j),⟨(),⟨_,_,_,_,_,_,()⟩,λk hk=>⋯⟩,?_,?_⟩⟩
 rotate_left
 .rintro sl O' ⟨rfl,_,hk⟩;let⟨i,hi,hc⟩:=t.found c;rw[CK,Zb,Z1] at hk;exact absurd hc (hk i hi)
 rintro i x sl O' hx ⟨rfl,⟨y5,y6,y7,y8,y9,GJ,rfl⟩,hk⟩;let⟨hi,rfl⟩:=GO hx;rw[Zb,Z1] at hi;let⟨r1,r2,r3⟩:=RC i hi;apply⟨_,YK i hi,W.getD i [],(),r1,r2,?_⟩;apply⟨⟨⟨by rw[Zb];omega,by rw[Zb];omega⟩,gH (λk=>decide (lk W i<lk W k)) (λk=>qD (Pu.getD k 0)) (by rw[CK,Zb];omega) (λk x Z hx hZ=>?_) (λk x Z hx _ hZ=>?_) ?_⟩⟩
 .obtain⟨gI,rfl⟩:=GO hx;rw[Zb,Z1] at gI;let⟨q1,q2,q3⟩:=RC k gI;exact⟨_,YK k gI,W.getD k [],(),q1,q2,lk W i,lk W k,(),⟨r3.mono ∅,q3.mono ∅⟩,hZ⟩
 .obtain⟨gI,rfl⟩:=GO hx;rw[Zb,Z1] at gI;exact⟨_,pat k gI,hZ⟩
 rw[CK,Zb,Z1,wsl];apply⟨_,(),⟨λq hq=>((Rp _).1 q hq).mono ∅,Zl (Rp _).2 ∅⟩,?_⟩;apply⟨⟨⟨by rw[Zb];omega,by rw[Zb];omega⟩,gH (λk=>decide (lk W k=lk W i)) (λk=>qD (Pu.getD k 0)) (by rw[CK,Zb];omega) (λk x Z hx hZ=>?_) (λk x Z hx _ hZ=>?_) ?_⟩⟩
 .obtain⟨gI,rfl⟩:=GO hx;rw[Zb,Z1] at gI;let⟨q1,q2,q3⟩:=RC k gI;apply⟨_,YK k gI,W.getD k [],(),q1,q2,dQ,?_⟩;rw[xt];exact hZ
 .obtain⟨gI,rfl⟩:=GO hx;rw[Zb,Z1] at gI;exact⟨_,pat k gI,hZ⟩
 rw[CK,Zb,Z1,wsl];apply⟨_,(),⟨λq hq=>((Rp _).1 q hq).mono ∅,Zl (Rp _).2 ∅⟩,?_⟩;apply⟨iJ Pu W i,ws Pu λk=>decide (lk W k=lk W i),(),⟨(Rq _).mono ∅,(Rq _).mono ∅⟩,?_⟩;let iD:¬ (C1 A Pu W i/\lk W i≠((10 ^ 30:Int):Rat))->¬ C2 A Pu W i->∀j,j<i+1->¬ ((C1 A Pu W j/\lk W j≠((10 ^ 30:Int):Rat))\/C2 A Pu W j):=λn1 n2 j hj=>by
  rcases Z2 j i with y |y
  .exact hk j y
  .rw[show j=i by omega];rintro(z |z)
   .exact n1 z
   .exact n2 z
 apply⟨⟨_,(),λc1=>⟨⟨∅,∅,∅⟩,jA,?_,λc2=>?_,λc2=>?_⟩,λc1=>⟨λy=>(by cases y),λ_=>?_⟩⟩⟩
 .exact Zl (Nat.min_le_left _ _) (Zl (DW _) ∅)
 .let c1:0<(lk W i).num:=of_decide_eq_true c1;let lp:=zZ.mp c1;let c2:(!vT (qD (lk W i)) (.tuple [.int (10 ^ 30),.int 1]))=true:=c2;rw[EN] at c2;let c2:lk W i≠((10 ^ 30:Int):Rat):=by simpa using c2
  let a0:=ha _ (j4 (d:=0) (show 0<A.length by omega));let a1:=ha _ (j4 (d:=0) (show 1<A.length by omega));let sp:0<Rat.divInt (A.getD 0 0) (A.getD 1 0):=by rw[dv];exact tH (oW ⋯) (oW ⋯)
  let sR:Rb 6 (Rat.divInt (A.getD 0 0) (A.getD 1 0)):=gT ⋯ (by unfold Bd;omega) (by unfold Bd;omega);let s0:0<pD A (lk W i):=Yd lp sp;let Wu:Rb 107 (pD A (lk W i)):=jP r3 sR;let s1R:Rb 109 (1+pD A (lk W i)):=nD (j:=1) (by unfold Rb Bd;decide+kernel) Wu;let s1:0<1+pD A (lk W i):=by grind
  let dR:=hW Wu s1R (λz=>by rw[z] at s1;exact absurd s1 ∅);let mR:Rb 400 (tF A (aA Pu) (lk W i)):=(jP Ta dR).mono ∅;let at0:=AQ (ns:=A) (i:=0) ⋯;let at1:=AQ (ns:=A) (i:=1) ⋯;apply⟨_,at0,_,at1,⟨⋯,IK ⋯⟩,lk W i,Rat.divInt (A.getD 0 0) (A.getD 1 0),(),⟨r3.mono ∅,sR.mono ∅⟩,?_⟩;apply⟨⟨jA,1,pD A (lk W i),(),⟨by unfold Rb Bd;decide+kernel,Wu.mono ∅⟩,pD A (lk W i),1+pD A (lk W i),(),⟨Wu.mono ∅,s1R.mono ∅,s1⟩,aA Pu,pD A (lk W i) / (1+pD A (lk W i)),(),⟨Ta.mono ∅,dR.mono ∅⟩,?_⟩⟩;let mrR:Rb 127 (iJ Pu W i):=Rq _;apply⟨⟨tF A (aA Pu) (lk W i),iJ Pu W i,(),⟨mR.mono ∅,mrR.mono ∅⟩,λc3=>⟨cH Pu W i,tF A (aA Pu) (lk W i),(),⟨(YF i).mono ∅,mR.mono ∅⟩,λc4=>?_,λc4=>?_⟩,λc3=>⟨λy=>(by cases y),λ_=>?_⟩⟩⟩
  .let c3:¬ tF A (aA Pu) (lk W i)<iJ Pu W i:=by simpa using c3
   let c4:¬ cH Pu W i<tF A (aA Pu) (lk W i):=by simpa using c4
   apply⟨A,tF A (aA Pu) (lk W i),aA Pu,(),hA,ha,mR.mono ∅,Ta.mono ∅,?_⟩;rw[t.ab0 c hl ⟨lp,c3,c4⟩];exact h
  .let c4:cH Pu W i<tF A (aA Pu) (lk W i):=by simpa using c4
   exact WT _ i _ _ hi rfl λn2=>⟨(),⟨_,_,_,_,_,_,()⟩,iD (λz=>z.1.hi c4) n2⟩
  .let c3:tF A (aA Pu) (lk W i)<iJ Pu W i:=by simpa using c3
   exact WT _ i _ _ hi rfl λn2=>⟨(),⟨_,_,_,_,_,_,()⟩,iD (λz=>z.1.lo c3) n2⟩
 .let c2:(!vT (qD (lk W i)) (.tuple [.int (10 ^ 30),.int 1]))=false:=c2;rw[EN] at c2;let c2:lk W i=((10 ^ 30:Int):Rat):=by simpa using c2
  exact WT _ i _ _ hi rfl λn2=>⟨(),⟨_,_,_,_,_,_,()⟩,iD (λz=>z.2 c2) n2⟩
 .let c1:¬ 0<(lk W i).num:=of_decide_eq_false c1;exact WT _ i _ _ hi rfl λn2=>⟨(),⟨_,_,_,_,_,_,()⟩,iD (λz=>c1 (zZ.mpr z.1.pos)) n2⟩
def Pn (h0:0<=r)(h1:r<2):∃mo:Int,(mo=3\/mo=101)/\fY [PyData.int 3,.int 101] r=some (.int mo):=by
 rcases(by omega:r=0\/r=1) with rfl |rfl
 .exact⟨3,.inl rfl,()⟩
 .exact⟨101,.inr rfl,()⟩
abbrev nS:Δ2:=["script","k","bag","many","most","rows","buyer","row","amounts","market"]
def Ez:MS:=(be (l3 (re (af (bB j7 (jZ (DO λi j=>if j<i then j else i) (af (jZ DM (af (ah 0) ao)) (af (mC (.int 30)) ao))) (mC (.int 2))) ao)) (bm 1) (be (bH (aC N9 cb (af (ah 0) (af (ah 1) ao))) (bm 2))
 (be (bH (bB j7 (mC (.int 1)) (aC jH cb (af (ah 2) (af (mC (.int 6)) ao)))) (bm 3))
 (be (bH (bB cO (A7 (af (mC (.int 3)) (af (mC (.int 101)) ao))) (aC jH cb (af (ah 2) (af (mC (.int 2)) ao)))) (bm 4))
 (be (bH (Ie ao) (bm 5))
 (be (l3 (re (af (ah 3) ao)) (bm 6) (be (bH (Ie (af (aC jH cb (af (ah 2) (af (ah 4) ao))) (af (aC jH cb (af (ah 2) (af (ah 4) ao))) ao))) (bm 7))
 (be (bH (bB j7 (mC (.int 1)) (aC jH cb (af (ah 2) (af (bB NG (ah 4) (mC (.int 1))) ao)))) (mgS (ah 7) (aC jH cb (af (ah 2) (af (mC (.int 2)) ao)))))
 (Ii 7 (uj (Ij (ah 5) (af (jZ lY (af (ah 7) ao)) ao)))))))
 (Ii 5 (be (bH (gO (af (bB j7 (mC (.int 1)) (aC jH cb (af (ah 2) (af (mC (.int 9)) ao)))) (af (bB j7 (mC (.int 1)) (aC jH cb (af (ah 2) (af (mC (.int 60)) ao)))) ao))) (bm 8))
 (be (bH (gO (af (ah 8) (af (jZ lY (af (cL 1 [2] (re (af (ah 3) ao)) (bm 0) eC (aC UH cb (af (ah 1) ao))) ao)) (af (jZ lY (af (ah 5) ao)) ao)))) (bm 9))
 (jz (pN (cV (aC (fT eO) cb (af (ah 9) ao))) (pN (cV (bB G8 (jZ HX (af (cL 1 [] (cK (ah 5)) (bm 0) eC (bB cO (ah 0) (mC (.int 0)))) ao)) (mC (.int 0)))) (cV (bB G8 (jZ HX (af (cL 1 [] (cK (ah 5)) (bm 0) eC (bB cO (ah 0) (mC (.int 1)))) ao)) (mC (.int 0)))))) (jz (cV (bB (C3 true) (bB cO (aC rW cb (af (ah 9) ao)) (mC (.int 0))) (aC zg cb (af (ah 9) ao)))) (cE (mC (.bool false))) eF) eF))))))))))
 (cE (mC (.bool true))))
def Fj:∀O xs Pq QX,N7 O xs Pq QX->Ez { nx:=λ_ O'=>Pq (.im .none) O',rt:=Pq } (bp nS xs) O:=by
 intro O xs Pq QX h;let⟨ns,rfl,RM,h⟩:=h;let cF:(if (30:Int)<(ns.length:Int) then (30:Int) else (ns.length:Int))+2<=32:=by split<;>omega
 let aeQ:0<=(if (30:Int)<(ns.length:Int) then (30:Int) else (ns.length:Int))+2:=by split<;>omega
 apply⟨⟨by dsimp only;omega,by dsimp only;omega⟩,λi sl O'=>∃y1 y2 y3 y4 y5 y6 y7 y8 y9,sl=[some (.tE ns),y1,y2,y3,y4,y5,y6,y7,y8,y9],⟨_,_,_,_,_,_,_,_,_,()⟩,?_,?_⟩
 rotate_left
 .rintro sl O' _;exact⟨h O'⟩
 rintro i x sl O' hx ⟨y1,y2,y3,y4,y5,y6,y7,y8,y9,rfl⟩;let⟨hi,rfl⟩:=GO hx;let ajl:i<42:=by dsimp only at hi;omega
 clear hx hi
 apply⟨⟨⋯,⋯⟩,λbj=>?_⟩;apply⟨⟨⟨∅,∅⟩,λr r0 r1=>?_⟩⟩;apply⟨⟨jA,⟨∅,∅⟩,λs s0 s1=>?_⟩⟩;let⟨mo,hmo,em⟩:=Pn s0 s1;apply⟨_,em,?_⟩;apply⟨Im,?_⟩;apply⟨⟨⟨⋯,⋯⟩,λj sl O2=>∃(Rw:Γ1) (y6 y7:Option AV),sl=[some (.tE ns),Φ9 (.int (i:Int)),some (.bag bj),Φ9 (.int (1+r)),Φ9 (.int mo),some (.own O'.length),y6,y7,y8,y9]/\O2[O'.length]?=some (some (Rw.map λr=>AV.im (aP r)))/\Rw.length=j/\∀r∈Rw,br 2 r,⟨[],_,_,(),lc _ _,(),λr hr=>(by cases hr)⟩,?_,?_⟩⟩
 .rintro j x sl O2 hx ⟨Rw,z6,z7,rfl,hO,CZ,hR⟩;let⟨hj,rfl⟩:=GO hx;apply⟨⟨⋯,⋯⟩,λa a0 a1=>⟨⟨⋯,⋯⟩,λb b0 b1=>⟨jA,?_⟩⟩⟩;show Go _ _ [some (.tE ns),Φ9 (.int (i:Int)),some (.bag bj),Φ9 (.int (1+r)),Φ9 (.int mo),some (.own O'.length),Φ9 (.int (j:Int)),some (.own O2.length),y8,y9] (O2++[some ([a,b].map λx=>AV.im (PyData.int x))]);apply⟨⟨⋯,⋯⟩,λv v0 v1=>⟨⟨∅,∅⟩,λt t0 t1=>?_⟩⟩;let tn:((t.toNat:Nat):Int)=t:=Y8 t0;let tl:t.toNat<2:=⋯;let Nc:tJ ([a,b].map λx=>AV.im (PyData.int x)).length t=some t.toNat:=by
   have:=yW (n:=([a,b].map λx=>AV.im (PyData.int x)).length) (i:=t.toNat) (by rw[Zb];exact tl)
   rwa [tn] at this
  apply⟨_,_,lc _ _,Nc,?_⟩;rw[mj,rH];generalize RK:[a,b].set t.toNat (1+v)=row;let gr:br 2 row:=by
   apply⟨by rw[<- RK,Yo];rfl,λk hk=>?_,1+v,by rw[<- RK];exact List.mem_set tl _,⋯⟩;rw[<- RK] at hk;rcases List.mem_or_eq_of_mem_set hk with z |z
   .simp at z;rcases z with rfl |rfl<;>omega
   .omega
  apply⟨⟨O2.length,row.map .int,(),by rw[lc,Zp];rfl,?_⟩⟩;rw[mj];let θ:(O2++[none])[O'.length]?=some (some (Rw.map λr=>AV.im (aP r))):=by
   rw[Zq (Zf.mp hO).1];exact hO
  let hll:O'.length<(O2++[none]).length:=(Zf.mp θ).1;apply⟨⟨_,θ⟩,_,θ,by rw[Zb,CZ,sz];omega,Rw++[row],_,_,(),?_,by rw[Zu,CZ];rfl,λq hq=>?_⟩
  .rw[Yk hll,Zs];rfl
  .rcases Zw.mp hq with z |z
   .exact hR q z
   .rw[Zy.mp z];exact gr
 .rintro sl O2 ⟨Rw,z6,z7,rfl,hO,CZ,hR⟩;rw[CK] at CZ;apply⟨⟨O'.length,Rw.map aP,(),by rw[hO,Zp];rfl,?_⟩⟩;generalize O2.set O'.length none=O3;apply⟨⟨∅,∅⟩,λa a0 a1=>⟨⟨∅,∅⟩,λb b0 b1=>⟨jA,?_⟩⟩⟩;show Go _ _ [some (.tE ns),Φ9 (.int (i:Int)),some (.bag bj),Φ9 (.int (1+r)),Φ9 (.int mo),Φ9 (.list (Rw.map aP)),z6,z7,Φ9 (.tuple ([1+a,1+b].map .int)),y9] O3;apply⟨⟨⟨⋯,⋯⟩,vf (λ_ d=>∃z:Rat,d=qD z/\lF (qD z)=true) (by rw[CK];omega) (λj x Z hx hZ=>⟨bj,(),λz hz=>hZ _ ⟨z,(),hz⟩⟩) (λds pl pR=>?_)⟩⟩;let⟨Pu,rfl,hPu⟩:=Gz pR;rw[CK,Zb] at pl;apply⟨Uo,?_⟩;generalize hA:[1+a,1+b]=A;apply⟨⟨λc1=>?_,λc1=>⟨λy=>(by cases y),λ_=>⟨_,_,_,_,_,_,_,_,_,()⟩⟩⟩⟩;let c1:eO (fw A Pu Rw)=true:=c1;let ν:A.length=2:=by rw[<- hA];rfl
  let K2:Rw≠[]:=λz=>by rw[z] at CZ;simp at CZ;omega
  let col:∀g:Nat,(List.range Rw.length).map (λj=>PyData.int ((Rw.getD j []).getD g 0))=(Rw.map λr=>r.getD g 0).map .int:=λg=>by
   rw[Zp];exact Hl (λr:Γ3=>PyData.int (r.getD g 0)) Rw []
  let UC:∀(g:Nat) (m:Int),m∈(Rw.map λr=>r.getD g 0)->0<m->has Rw g=true:=λg m hm h0=>by
   let⟨r,hr,rfl⟩:=Zd.mp hm;exact Z6.mpr ⟨r,hr,decide_eq_true h0⟩
  let rw2:∀(j:Nat) (x:AV),((Rw.map aP).map AV.im)[j]?=some x->∀g:Nat,g<2->x=.im (.tuple ((Rw.getD j []).map .int))/\fY ((Rw.getD j []).map PyData.int) (g:Int)=some (.int ((Rw.getD j []).getD g 0)):=λj x hx g hg=>by
   let⟨hj,rfl⟩:=hV hx;exact⟨(),AQ (by rw[(hR _ (j4 (d:=[]) hj)).len];exact hg)⟩
  let Rz:∃y1 y2 y3 y4 y5 y6 y7 y8 y9,[some (.tE ns),Φ9 (.int (i:Int)),some (.bag bj),Φ9 (.int (1+r)),Φ9 (.int mo),Φ9 (.list (Rw.map aP)),z6,z7,Φ9 (.tuple (A.map .int)),Φ9 (fw A Pu Rw)]=[some (.tE ns),y1,y2,y3,y4,y5,y6,y7,y8,(y9:Option AV)]:=⟨_,_,_,_,_,_,_,_,_,()⟩;conv=>whnf
  apply Hi (λj=>.int ((Rw.getD j []).getD 0 0)) (by rw[Zb,Zb];omega) (λj x Z hx hZ=>?_) ?_
  .obtain⟨rfl,e⟩:=rw2 j x hx 0 ∅;exact⟨_,e,hZ⟩
  rw[Zb,Zb,col 0];apply⟨_,(),by simpa using K2,λm0 ZR _=>⟨λc2=>?_,λc2=>⟨λy=>(by cases y),λ_=>Rz⟩⟩⟩;let c2:=of_decide_eq_true c2;conv=>whnf
  apply Hi (λj=>.int ((Rw.getD j []).getD 1 0)) (by rw[Zb,Zb];omega) (λj x Z hx hZ=>?_) ?_
  .obtain⟨rfl,e⟩:=rw2 j x hx 1 ∅;exact⟨_,e,hZ⟩
  rw[Zb,Zb,col 1];apply⟨_,(),by simpa using K2,λm1 ZQ _=>⟨λc3=>?_,λc3=>Rz⟩⟩;let c3:=of_decide_eq_true c3;let tw:RT.fD A Pu Rw:=⟨c1,ν,by rw[ν];exact hR,UC 0 m0 ZR c2,UC 1 m1 ZQ c3⟩;apply⟨A,Pu,Rw,280,(),tw.clear,λfs L c ms ps M O4 hF st dl gr=>?_⟩;let⟨L0,MU,_,cl⟩:=tw.steps hF;let eLL:=st.uniq MU;subst eLL;apply⟨_,(),A,Pu,Rw,eG fs L,(),tw,tw.cl2 cl,cl.rp.pr.len.trans ν,KJ,?_⟩;rw[Jl];exact⟨λz=>(by cases z),λ_=>Rz⟩
end MI
namespace C6
open L2 KG EX KM MI
section
def Vt:ai UT ["row"] (bA (top 78)):=L2.cZ
def PU {f Lp  : Addr}(F:cG K "_law_liked" "_law_liked" (top 78) f fd)(N:Nm mg)(Lf:bN K mg P w base "_law_frac" 1 ["top","bottom"] qS Lp dLf):aI P w K mg base bY 2 f fd ["row"] (cT K rk) :=
 j3 F Vt (λO xs P PX h=>by let⟨_,rfl,_⟩:=h;rfl) (λbD A outer s H E QX hr=>⟨Ug,(cY (fJ (sY (ug hr.units) uk (cU (mv 0) cB) cB (aJ _)) (dw (iC (sX (aE (Et cB cB) (aE cB aV))))) yz)
 (dw (iC (cM Lf Mm hr (aE (cU (mv 0) cB) (aE (cU (mv 0) cB) aV)))))),λO xs Pq h=>O8 O xs Pq QX h⟩)
def Vk:ai US ["amounts","money","every"] (bA (top 80)):=L2.cZ
def PN (F:cG K "_law_split" "_law_split" (top 80) f fd)(N:Nm mg)(Mu:bN K mg P w base "_law_mul" 2 ["one","other"] (AL pE) fMu dMu)(Sb:bN K mg P w base "_law_sub" 2 ["one","other"] (AL YL) fSb dSb):aI P w K mg base bY 3 f fd ["amounts","money","every"] (cT K t8) :=
 j3 F Vk (λO xs P PX h=>by let⟨_,_,_,rfl,_⟩:=h;rfl) (λbD A outer s H E QX hr=>⟨Ua,(dw (iC (sX (aE (cM Mu rf hr (aE (mv 1) (aE (sX (aE cB (aE (cU (mv 0) cB) aV))) aV))) (aE (cM Mu rf hr (aE (cM Sb rf hr (aE (mv 2) (aE (mv 1) aV))) (aE (sX (aE cB (aE (cU (mv 0) cB) aV))) aV))) aV))))),λO xs Pq h=>OW O xs Pq QX h⟩)
def lK:ai U3 ["market","money","every","mine"] (bA (top 81)):=L2.cZ
def P0 (F:cG K "_law_between" "_law_between" (top 81) f fd)(N:Nm mg)(Sp:bN K mg P w base "_law_split" 3 ["amounts","money","every"] (cT K t8) τ dSp)(Di:bN K mg P w base "_law_div" 2 ["one","other"] yK fDi dDi)(Ls:bN K mg P w base "_law_less" 1 ["one","other"] iM υ dLs)(Li:bN K mg P w base "_law_liked" 2 ["row"] (cT K rk) fLi dLi):aI P w K mg base bY 4 f fd ["market","money","every","mine"] (cT K Dq) :=
 j3 F lK (λO xs P PX h=>by let⟨_,_,_,_,_,_,rfl,_⟩:=h;rfl) (λbD A outer s H E QX hr=>⟨Ul,(cY (jR (mv 0) (vP rfl (iF (dY (i:=4) lK.nd) (iF (dY (i:=5) lK.nd) (iF (dY (i:=6) lK.nd) vQ)))))
 (cY (fJ (PW.pt (VO (sY (ug hr.units) uk (cU (mv 1) cB) cB (aJ _)) (P7 (sY (ug hr.units) uk (mv 1) (mv 2) (aJ _))))) (dw (iC lM)) yz)
 (cY (jR (cM Sp ir hr (aE (mv 4) (aE (mv 1) (aE (mv 2) aV)))) (vP rfl (iF (dY (i:=7) lK.nd) (iF (dY (i:=8) lK.nd) vQ))))
 (cY (ja (i:=9) lK.nd (cM Di EG hr (aE (mv 7) (aE (mv 8) aV))))
 (cY (fJ (eD (cM Ls ia hr (aE (mv 3) (aE (mv 9) aV)))) (dw (iC lM)) yz)
 (cY (fo PassesOwn.never rfl (oV (mv 6)) (dY (i:=10) lK.nd) (dw (fJ (PW.pt (nJ (eD (cM Ls ia hr (aE (cM Li ir hr (aE (mv 10) aV)) (aE (mv 3) aV)))) (mF (eD (cM Ls ia hr (aE (mv 9) (aE (cM Li ir hr (aE (mv 10) aV)) aV))))))) (dw (iC lM)) yz)))
 (dw (iC lM)))))))),λO xs Pq h=>Pj O xs Pq QX h⟩)
def fh:ai zo ["market"] (bA (top 79)):=L2.cZ
def Kc {f fSu fLi υ fAd fMu Lp fDi τ fBt  : Addr}(F:cG K "_law_due" "_law_due" (top 79) f fd)(N:Nm mg)(Su:bN K mg P w base "_law_sum" 3 ["some"] DA fSu dSu)(Li:bN K mg P w base "_law_liked" 2 ["row"] (cT K rk) fLi dLi)(Ls:bN K mg P w base "_law_less" 1 ["one","other"] iM υ dLs)(Ad:bN K mg P w base "_law_add" 2 ["one","other"] (AL Sm) fAd dAd)(Mu:bN K mg P w base "_law_mul" 2 ["one","other"] (AL pE) fMu dMu)(Lf:bN K mg P w base "_law_frac" 1 ["top","bottom"] qS Lp dLf)(Di:bN K mg P w base "_law_div" 2 ["one","other"] yK fDi dDi)(Sp:bN K mg P w base "_law_split" 3 ["amounts","money","every"] (cT K t8) τ dSp)(Bt:bN K mg P w base "_law_between" 4 ["market","money","every","mine"] (cT K Dq) fBt dBt):aI P w K mg base bY 5 f fd ["market"] (cT K zg) :=
 j3 F fh (λO xs P PX h=>by let⟨_,_,_,_,rfl,_⟩:=h;rfl) (λbD A outer s H E QX hr=>⟨L9,(cY (jR (mv 0) (vP rfl (iF (dY (i:=1) fh.nd) (iF (eW (gj (i:=2) fh.nd rfl (Or.inr rfl))) (iF (eW (gj (i:=3) fh.nd rfl (Or.inr rfl))) vQ)))))
 (cY (ja (i:=4) fh.nd (cM Su sA hr (aE (AT DY EF (by rfl) N.list boot_list (aE (mv 2) aV)) aV)))
 (cY (fo PassesOwn.never rfl (K6 rfl N.range (aE (wf et k8 (by rfl) N.len Yi (aE (mv 2) aV)) aV)) (dY (i:=5) fh.nd) (cY (k6 (i:=6) fh.nd rfl (Or.inr rfl) (cM Li ir hr (aE (cU (mv 3) (mv 5)) aV)))
 (cY (ja (i:=7) fh.nd (cM Su sA hr (aE (pF (own:=["k"]) (cap:=["mine","purses","wishes"]) (ix:=[6,2,3]) (aM.of (bA (top 79)).names zo) rfl (K6 rfl N.range (aE (wf et k8 (by rfl) N.len Yi (aE (mv 2) aV)) aV)) (pH ∅)
 (λC fp s H=>⟨(dY (i:=0) (Ψ9 ["k","mine","purses","wishes"])),(iR (eD (cM Ls ia hr (aE (mv 1) (aE (cM Li ir hr (aE (cU (mv 3) (mv 0)) aV)) aV))))),(cU (mv 2) (mv 0))⟩)) aV)))
 (cY (ja (i:=8) fh.nd (cM Ad rf hr (aE (mv 7) (aE (cM Su sA hr (aE (pF (own:=["k"]) (cap:=["mine","purses","wishes"]) (ix:=[6,2,3]) (aM.of (bA (top 79)).names zo) rfl (K6 rfl N.range (aE (wf et k8 (by rfl) N.len Yi (aE (mv 2) aV)) aV)) (pH ∅)
 (λC fp s H=>⟨(dY (i:=0) (Ψ9 ["k","mine","purses","wishes"])),(iR (sY (ug hr.units) uk (cM Li ir hr (aE (cU (mv 3) (mv 0)) aV)) (mv 1) (aJ _))),(cU (mv 2) (mv 0))⟩)) aV)) aV))))
 (cY (fJ (PW.pt (nJ (sY gq j9 (cU (mv 6) cB) cB (aJ _)) (mF (sY (LV hr.units) Ml (mv 6) (sX (aE (Et cB cB) (aE cB aV))) (aJ _))))) (cY (ja (i:=9) fh.nd (cM Mu rf hr (aE (mv 6) (aE (cM Lf Mm hr (aE (cU (mv 1) cB) (aE (cU (mv 1) cB) aV))) aV))))
 (cY (ja (i:=10) fh.nd (cM Mu rf hr (aE (mv 4) (aE (cM Di EG hr (aE (mv 9) (aE (cM Ad rf hr (aE (sX (aE cB (aE cB aV))) (aE (mv 9) aV))) aV))) aV))))
 (dw (fJ (PW.pt (nJ (wU (eD (cM Ls ia hr (aE (mv 10) (aE (mv 7) aV))))) (mF (wU (eD (cM Ls ia hr (aE (mv 8) (aE (mv 10) aV)))))))) (dw (iC (cM Sp ir hr (aE (mv 1) (aE (mv 10) (aE (mv 4) aV)))))) yz)))) yz)
 (dw (fJ (eD (cM Bt ir hr (aE (mv 0) (aE (mv 8) (aE (mv 4) (aE (mv 6) aV)))))) (dw (iC (cM Sp ir hr (aE (mv 1) (aE (mv 8) (aE (mv 4) aV)))))) yz)))))))
 (dw (iC wZ))))),λO xs Pq h=>Ju O xs Pq QX h⟩)
def jE:ai nS ["script"] (bA (top 82)):=L2.cZ
def Ka {f χ fT fPu fIM fCl fDu  : Addr}(F:cG K "law" "law" (top 82) f fd)(N:Nm mg)(Bg:bN K mg P w base "_law_bag" 1 ["script","k"] (DC K) χ dBg)(T:bN K mg P w base "_law_take" 1 ["bag","many"] rA fT dT)(Pu:bN K mg P w base "_law_purse" 2 ["bag"] NI fPu dPu)(IM:bN K mg P w base "is_market" 5 ["thing"] (spT eO) fIM dIM)(Cl:bN K mg P w base "clear" 12 ["market"] (cT K rW) fCl dCl)(Du:bN K mg P w base "_law_due" 5 ["market"] (cT K zg) fDu dDu):aI P w K mg base bY 14 f fd ["script"] (cT K N7) :=
 j3 F jE (λO xs P PX h=>by let⟨_,rfl,_⟩:=h;rfl) (λbD A outer s H E QX hr=>⟨Ez,(cY (fo PassesOwn.never rfl (K6 rfl N.range (aE (fq (wf (Ch rfl) Kq (by rfl) N.min boot_min (aE (wf (ab8 K) Ks (by rfl) N.len Yi (aE (mv 0) aV)) (aE cB aV))) cB) aV)) (dY (i:=1) jE.nd) (cY (k6 (i:=2) jE.nd rfl (Or.inr rfl) (cM Bg QF hr (aE (mv 0) (aE (mv 1) aV))))
 (cY (ja (i:=3) jE.nd (fq cB (cM T fU hr (aE (mv 2) (aE cB aV)))))
 (cY (ja (i:=4) jE.nd (cU (nL (aE cB (aE cB aV))) (cM T fU hr (aE (mv 2) (aE cB aV)))))
 (cY (ja (i:=5) jE.nd (wY aV))
 (cY (fo PassesOwn.never rfl (K6 rfl N.range (aE (mv 3) aV)) (dY (i:=6) jE.nd) (cY (ja (i:=7) jE.nd (wY (aE (cM T fU hr (aE (mv 2) (aE (mv 4) aV))) (aE (cM T fU hr (aE (mv 2) (aE (mv 4) aV))) aV))))
 (cY (jR (fq cB (cM T fU hr (aE (mv 2) (aE (Es (mv 4) cB) aV)))) (P8 (mv 7) (cM T fU hr (aE (mv 2) (aE cB aV)))))
 (wV 7 (dw (mH (xc (mv 5) (aE (AT gx gf (by rfl) N.tuple pG (aE (mv 7) aV)) aV))))))))
 (wV 5 (cY (ja (i:=8) jE.nd (sX (aE (fq cB (cM T fU hr (aE (mv 2) (aE cB aV)))) (aE (fq cB (cM T fU hr (aE (mv 2) (aE cB aV)))) aV))))
 (cY (ja (i:=9) jE.nd (sX (aE (mv 8) (aE (AT gx gf (by rfl) N.tuple pG (aE (pF (own:=["buyer"]) (cap:=["bag"]) (ix:=[2]) (aM.of (bA (top 82)).names nS) rfl (K6 rfl N.range (aE (mv 3) aV)) (pH ∅)
 (λC fp s H=>⟨(dY (i:=0) (Ψ9 ["buyer","bag"])),qG,(cM Pu QC hr (aE (mv 1) aV))⟩)) aV)) (aE (AT gx gf (by rfl) N.tuple pG (aE (mv 5) aV)) aV)))))
 (dw (fJ (PW.pt (nJ (eD (cM IM abB hr (aE (mv 9) aV))) (nJ (sY gq j9 (wf (DX rfl) EE (by rfl) N.max boot_max (aE (pF (own:=["row"]) (cap:=[]) (ix:=[]) (aM.of (bA (top 82)).names nS) rfl (oV (mv 5)) (pH ∅)
 (λC fp s H=>⟨(dY (i:=0) (Ψ9 ["row"])),qG,(cU (mv 0) cB)⟩)) aV)) cB (aJ _)) (mF (sY gq j9 (wf (DX rfl) EE (by rfl) N.max boot_max (aE (pF (own:=["row"]) (cap:=[]) (ix:=[]) (aM.of (bA (top 82)).names nS) rfl (oV (mv 5)) (pH ∅)
 (λC fp s H=>⟨(dY (i:=0) (Ψ9 ["row"])),qG,(cU (mv 0) cB)⟩)) aV)) cB (aJ _)))))) (dw (fJ (sY (LV hr.units) Ml (cU (cM Cl ir hr (aE (mv 9) aV)) cB) (cM Du ir hr (aE (mv 9) aV)) (aJ _)) (dw (iC lM)) yz)) yz)))))))))))
 (dw (iC lM))),λO xs Pq h=>Fj O xs Pq QX h⟩)
end
end C6
namespace MI
open L2 KG EX KM RZ
def getD_mem' {α : Type}{l:List α}{i:Nat}{d:α}(h:i<l.length):l.getD i d∈l:=by rw[KM.ay (Zc h)];exact Zv _
def yy {α : Type}{l:List α}{p q:α->Bool}(h:∀x∈l,p x=q x):l.any p=l.any q:=by
 induction l with
 |nil=>rfl
 |cons x l ih=>rw[Xs,Xs,h x Zi,ih λy hy=>h y (Zj _ hy)]
theorem zH:∀{xs:List V}{M:Γ1},qP H xs M->aH H xs (M.map aP)
 |_,_,.nil=>.nil
 |_,_,.cons ⟨a,e,h⟩ t=>by subst e;exact .cons (.tup h (wI _)) (zH t)
def IV (h:aH H xs (M.map aP)):qN H xs M:=by
 apply⟨by rw[h.len,Zb],λj x hx=>?_⟩;let⟨d,hd,t⟩:=h.at hx;rw[Zo] at hd;cases hm:M[j]? with
 |none=>rw[hm] at hd;cases hd
 |some r =>
  rw[hm] at hd;cases Option.some.inj hd;cases t with |tup h1 h2=>exact⟨_,r,rfl,rfl,by rw[<- gZ h2];exact h1⟩
section
def Ux:aw H (G ⟨[],[],[],[]⟩ [] H):=λx o h=>by
 rw[gQ]
 .exact h
 .rintro(h |⟨o,h⟩ |⟨k,c,h,_⟩)
  .cases h
  .cases h
  .simp at h
def nI (h:aI Pg wo K mg base bY k f fd ps (cT K F))(c:∀vs H Q E,sp vs H Q E->∃ds:Ξ1,aH H vs ds/\F [] (ds.map .im) (λq O'=>∃d,q=.im d/\O'=[]/\∀z H',aw H H'->ci H' z d->Q z H') λ_ _=>False):aI Pg wo K mg base bY k f fd ps sp:=h.imp λvs H Q E hs=>by
 let⟨ds,t,hF⟩:=c vs H Q E hs;apply⟨⟨[],[],[],[]⟩,[],ds.map .im,_,λ_ _=>False,⟨(),X4,λa h=>(by cases h),λa h=>(by cases h),X4,λp h=>(by cases h),λa h=>(by cases h),λk c h=>(by simp at h),λk h=>(by cases h)⟩,aH.W2 (aH.ak Ux t),hF,λz q O' w' H' hz e r av=>?_,λc O' w' H' h=>h.elim⟩;let⟨d,rfl,rfl,hQ⟩:=hz;exact hQ z H' (Ux.trans (e.ex.ak.trans ng)) (ci.ak ng av)
def uE (h:ci H z (aP ns)):∃a,z=.ref a/\H a=some (.tup (ns.map V.int)):=by
 cases h with |tup h1 h2=>exact⟨_,rfl,by rw[<- gZ h2];exact h1⟩
def zB (h:ci H z (cy ns)):∃a,z=.ref a/\H a=some (.lst (ns.map V.int)):=by
 cases h with |lst h1 h2=>exact⟨_,rfl,by rw[<- gZ h2];exact h1⟩
def kD (gs:List Nat):tW gs=aP (gs.map λg:Nat=>(g:Int)):=by unfold tW aP;rw[Zp];rfl
def lq (gs:List Nat):cX gs=(gs.map λg:Nat=>(g:Int)).map V.int:=by unfold cX;rw[Zp];rfl
def D6 (m:eh b H p pa pp pw xa xp xw am pu wi):∃A Pu W,ci H (.ref p) (fw A Pu W)/\eO (fw A Pu W)=true/\am.map aZ=A/\qJ pu=Pu/\rowsOf wi=W/\xa.length=A.length:=by
 let⟨A,Pu,W,e⟩:=Kj m.ok;let t:=m.tr;let ok:=m.ok;rw[e] at t ok;let e1:am=A.map .int:=by have:=congrArg (λd=>match d with |PyData.tuple [.tuple x,_,_]=>x |_=>[]) e;exact this
 let e2:pu=Pu.map qD:=by have:=congrArg (λd=>match d with |PyData.tuple [_,.tuple x,_]=>x |_=>[]) e;exact this
 let e3:wi=W.map aP:=by have:=congrArg (λd=>match d with |PyData.tuple [_,_,.tuple x]=>x |_=>[]) e;exact this
 apply⟨A,Pu,W,mh (λ_ _ h=>h) (Er A Pu W) t,ok,?_,?_,?_,?_⟩
 .rw[e1];exact oi A
 .rw[e2];exact gF Pu
 .rw[e3];exact M3 W
 .rw[m.ta.len,e1,Zb]
def JR (h:aI Pg wo K mg base bY k f fd ps (cT K Dn)):aI Pg wo K mg base bY k f fd ps yI:=nI h λvs H Q E h9=>by
 let⟨b,p,pa,pp,pw,xa,xp,xw,am,pu,wi,e,m,q⟩:=h9;subst e;let⟨A,Pu,W,t,ok,rfl,rfl,rfl,la⟩:=D6 m;let mf:=AR ok;apply⟨[_],.cons t .nil,_,_,_,(),mf.g6,by rw[mf.wl];exact mf.n6,mf.wr,_,(),(),λz H' s tz=>?_⟩;let⟨a,rfl,ha⟩:=uE tz;exact q a H' s (by rw[ha,li,la];rfl)
def PH (h:aI Pg wo K mg base bY k f fd ps (cT K Dp)):aI Pg wo K mg base bY k f fd ps TC:=nI h λvs H Q E h9=>by
 let⟨pb,pg,xs,M,gs,e,h1,h2,h3,m6,r6,q⟩:=h9;subst e;apply⟨[.tuple (M.map aP),tW gs],.cons (.tup h1 ?_) (.cons (by rw[kD];exact .tup h3 (by rw[lq];exact wI _)) .nil),M,gs.map λg:Nat=>(g:Int),by rw[kD];rfl,m6,λi hi=>r6 _ (getD_mem' hi),_,(),(),λz H' s tz=>?_⟩
 .exact zH h2
 .rw[kD] at tz;let⟨a,rfl,ha⟩:=uE tz;apply q a H' s ?_;rw[ha,lq]
  congr 4
  unfold oZ;apply Y0 λi _=>?_
  unfold bQ;apply yy λg _=>?_
  rw[Yb,Z9,Zd,Z6];exact⟨λ⟨x,hx,e⟩=>⟨x,hx,decide_eq_true e⟩,λ⟨x,hx,e⟩=>⟨x,hx,of_decide_eq_true e⟩⟩
def JS (h:aI Pg wo K mg base bY k f fd ps (cT K uw)):aI Pg wo K mg base bY k f fd ps Ee:=nI h λvs H Q E h9=>by
 let⟨l,ns,e,h1,n6,q⟩:=h9;subst e;apply⟨[aP ns],.cons (.tup h1 (wI _)) .nil,ns,(),n6,_,(),(),λz H' s tz=>?_⟩;cases tz with |lst a1 a2=>exact q _ _ H' s a1 (IV a2)
def PK (h:aI Pg wo K mg base bY k f fd ps (cT K k9)):aI Pg wo K mg base bY k f fd ps TF:=nI h λvs H Q E h9=>by
 let⟨l,t,ms,S,e,h1,h2,s6,sl,q⟩:=h9;subst e;apply⟨[cy ms,tW S],.cons (.lst h1 (wI _)) (.cons (by rw[kD];exact .tup h2 (by rw[lq];exact wI _)) .nil),ms,S,(),s6,sl,_,(),(),λz H' s tz=>?_⟩;rw[iq tz];exact q H' s
def PJ (h:aI Pg wo K mg base bY k f fd ps (cT K wJ)):aI Pg wo K mg base bY k f fd ps zG:=nI h λvs H Q E h9=>by
 let⟨b,p,pa,pp,pw,qa,xa,xp,xw,ys,am,pu,wi,qs,e,m,pr,hl,q⟩:=h9;subst e;let⟨A,Pu,W,t,ok,rfl,rfl,rfl,la⟩:=D6 m;let mf:=AR ok;apply⟨[_,.tuple (qs.map qD)],.cons t (.cons (mh (b:=b) (λ_ _ h=>h) (rO qs) (.tup pr.hq pr.tr)) .nil),_,_,_,qs,293,(),⋯,mf.g6,mf.n6,mf.am,λz hz=>(mf.pu z hz).2,Ze _,∅,pr.bd,λc ms ps hc im ip _ _=>⟨_,(),(),λz H' s tz=>?_⟩⟩;cases tz with |tup a1 a2=>?_
 cases a2 with |cons b1 a2=>?_
 cases a2 with |cons b2 a2=>?_
 cases a2
 let⟨r1,rfl,h1⟩:=zB b1;let⟨r2,rfl,h2⟩:=zB b2;exact q _ r1 r2 c ms ps H' s hc im ip a1 h1 h2
def FG (h:aI Pg wo K mg base bY k f fd ps qS):aI Pg wo K mg base bY k f fd ps Ed:=h.imp λvs H Q E ⟨t,u,e,u0,u1,q⟩=>by
 apply⟨t,u,e,u0,IK ⋯,λp hp=>?_⟩;let hg:=(Au (t:=t) u0).1;let⟨e1,e2⟩:=k4 (T:=t) (U:=u) ⋯;let es:sg t u=(Int.gcd t u:Int):=by unfold sg;rw[if_neg ⋯]
 unfold qO;rw[<- e1,<- e2];unfold nx ny;rw[es,Qv _ ⋯,Qv _ ⋯];exact q p hp
end
end MI
namespace MI
open L2 KG EX KM
def cS (K:Θ1)(nm:Str)(st:Stmt)(f:Addr):Prop:=∃(oc:Value) (od:Option Addr) (kV dc pm:Value) (an:Option Addr) (cd ct:Value) (sl:Array (Option Value)),PySem.W.nsIn K mainGlobals nm=some (some (.ref f))/\K.lookup f=some ⟨oc,od,.func (PySem.W.fnOf nm nm (we st) (tI st) (bA st) .none kV dc pm an cd ct),sl⟩/\PySem.W.codeIn K cd nm=true/\PySem.W.keepIn K (.ref f)=true
def WW {P:Δ3->Prop}{n:Nat}(h:∀a us,us.length=n->P (a::us))(us:Δ3)(e:us.length=n+1):P us:=by
 cases us with
 |nil=>cases e
 |cons a us=>exact h a us (by simpa using e)
def el1 {P:Δ3->Prop}(h:∀a,P [a]):∀us:Δ3,us.length=1->P us:=WW λa us e=>by rw[List.eq_nil_of_length_eq_zero e];exact h a
def el2 {P:Δ3->Prop}(h:∀a b,P [a,b]):∀us:Δ3,us.length=2->P us:=WW λa=>el1 (h a)
def el3 {P:Δ3->Prop}(h:∀a b c,P [a,b,c]):∀us:Δ3,us.length=3->P us:=WW λa=>el2 (h a)
def el4 {P:Δ3->Prop}(h:∀a b c d,P [a,b,c,d]):∀us:Δ3,us.length=4->P us:=WW λa=>el3 (h a)
structure Fg (K:Θ1)(mg:Θ3)(nm:Str)(ps:Δ2)(st:Stmt)(f:Addr)(fd:FuncData):Prop where
 F:cG K nm nm st f fd
 mg:mg nm=some (.ref f)
 kp:PySem.W.keepIn K (.ref f)=true
 bd:Binds K fd ps []
section
variable {mg:Θ3}
def Fg.c (a:Fg K mg nm ps st f fd)(l:PySem.W.OpenLaw)(w:World)(base:Heap)(o:aI l.prog w K mg base bY k f fd ps sp):bN K mg l.prog w base nm k ps sp f fd:=⟨o,a.mg,a.kp,a.bd⟩
def Fg.of (X:K.In hh)(G:hh.Ns mainGlobals mg)(a:cS K nm st f)(hb:∀(kV gK pm:Value) (an:Option Addr) (bD ct:Value) (us:Δ3),us.length=ps.length->bindArgs (PySem.W.fnOf nm nm (we st) (tI st) (bA st) .none kV gK pm an bD ct) ⟨us,[]⟩=pure (ps.zip us)):∃fd,Fg K mg nm ps st f fd:=by
 let⟨_,_,_,_,_,_,_,_,_,a,l,c,k⟩:=a;exact⟨_,xo l c k,PySem.W.mg_of X G a,k,(xo l c k).binds hb⟩
def oY (ps:Δ2)(X:K.In hh)(G:hh.Ns mainGlobals mg)(a:cS K nm st f)(hb:∀(kV gK pm:Value) (an:Option Addr) (bD ct a:Value),bindArgs (PySem.W.fnOf nm nm (we st) (tI st) (bA st) .none kV gK pm an bD ct) ⟨[a],[]⟩=pure (ps.zip [a]):=by intros;rfl)(hl:ps.length=1:=by rfl):∃fd,Fg K mg nm ps st f fd:=Fg.of X G a λkV gK pm an bD ct us hu=>el1 (P:=λus=>bindArgs (PySem.W.fnOf nm nm (we st) (tI st) (bA st) .none kV gK pm an bD ct) ⟨us,[]⟩=pure (ps.zip us)) (hb kV gK pm an bD ct) us (hu.trans hl)
def jN (ps:Δ2)(X:K.In hh)(G:hh.Ns mainGlobals mg)(a:cS K nm st f)(hb:∀(kV gK pm:Value) (an:Option Addr) (bD ct a b:Value),bindArgs (PySem.W.fnOf nm nm (we st) (tI st) (bA st) .none kV gK pm an bD ct) ⟨[a,b],[]⟩=pure (ps.zip [a,b]):=by intros;rfl)(hl:ps.length=2:=by rfl):∃fd,Fg K mg nm ps st f fd:=Fg.of X G a λkV gK pm an bD ct us hu=>el2 (P:=λus=>bindArgs (PySem.W.fnOf nm nm (we st) (tI st) (bA st) .none kV gK pm an bD ct) ⟨us,[]⟩=pure (ps.zip us)) (hb kV gK pm an bD ct) us (hu.trans hl)
def No (ps:Δ2)(X:K.In hh)(G:hh.Ns mainGlobals mg)(a:cS K nm st f)(hb:∀(kV gK pm:Value) (an:Option Addr) (bD ct a b c:Value),bindArgs (PySem.W.fnOf nm nm (we st) (tI st) (bA st) .none kV gK pm an bD ct) ⟨[a,b,c],[]⟩=pure (ps.zip [a,b,c]):=by intros;rfl)(hl:ps.length=3:=by rfl):∃fd,Fg K mg nm ps st f fd:=Fg.of X G a λkV gK pm an bD ct us hu=>el3 (P:=λus=>bindArgs (PySem.W.fnOf nm nm (we st) (tI st) (bA st) .none kV gK pm an bD ct) ⟨us,[]⟩=pure (ps.zip us)) (hb kV gK pm an bD ct) us (hu.trans hl)
def S9 (ps:Δ2)(X:K.In hh)(G:hh.Ns mainGlobals mg)(a:cS K nm st f)(hb:∀(kV gK pm:Value) (an:Option Addr) (bD ct a b c d:Value),bindArgs (PySem.W.fnOf nm nm (we st) (tI st) (bA st) .none kV gK pm an bD ct) ⟨[a,b,c,d],[]⟩=pure (ps.zip [a,b,c,d]):=by intros;rfl)(hl:ps.length=4:=by rfl):∃fd,Fg K mg nm ps st f fd:=Fg.of X G a λkV gK pm an bD ct us hu=>el4 (P:=λus=>bindArgs (PySem.W.fnOf nm nm (we st) (tI st) (bA st) .none kV gK pm an bD ct) ⟨us,[]⟩=pure (ps.zip us)) (hb kV gK pm an bD ct) us (hu.trans hl)
end
end MI
namespace C6
open L2 KG EX KM MI
def all_mk {l:PySem.W.OpenLaw}{w:World}{K:Θ1}{h:Heap}{mg:Θ3}{fa:Addr}(X:K.In h)(G:h.Ns mainGlobals mg)(hfa:mg "law"=some (.ref fa))
  {f0 f1 f2 f3 f4 f5 f6 f7 f8 f9 f10 f11 f12 f13 f14 f15 f16 f17 f18 f19 f20 f21 f22 f23 f24 f25 f26 f27 f28 f29 f30 f31 f32 f33 f34 f35 f36 f37 f38 f39 f40 f41 f42 f43 f44 f45 f46 f47 f48 f49 f50 f51 f52 f53 f54 f55 f56 f57 f58 f59 f60 f61 f62 f63 f64 M Nn Pr De Un:Addr}{tk0:Tok}{tk1:Tok}{MN:Tok}{Sh:Tok}{tk4:Tok}
  (a0:cS K "is_whole" (top 7) f0)
  (a1:cS K "is_fraction" (top 8) f1)
  (a2:cS K "common_divisor" (top 9) f2)
  (a3:cS K "fraction" (top 10) f3)
  (a4:cS K "times" (top 11) f4)
  (a5:cS K "over" (top 12) f5)
  (a6:cS K "less" (top 13) f6)
  (a7:cS K "least" (top 14) f7)
  (a8:cS K "greatest" (top 15) f8)
  (a9:cS K "on_one_bottom" (top 16) f9)
  (a10:cS K "is_market" (top 23) f10)
  (Tg:cS K "are_amounts" (top 24) f11)
  (a12:cS K "are_purses" (top 25) f12)
  (a13:cS K "are_wishes" (top 26) f13)
  (a14:cS K "is_wish_row" (top 27) f14)
  (a15:cS K "is_amount" (top 28) f15)
  (a16:cS K "is_purse" (top 29) f16)
  (a17:cS K "is_wish" (top 30) f17)
  (a18:cS K "wished" (top 31) f18)
  (a19:cS K "wishless" (top 32) f19)
  (a20:cS K "are_prices" (top 34) f20)
  (a21:cS K "need_prices" (top 35) f21)
  (a22:cS K "money_by_good" (top 36) f22)
  (a23:cS K "best_goods" (top 37) f23)
  (a24:cS K "best_by_wishes" (top 38) f24)
  (a25:cS K "rate" (top 39) f25)
  (a26:cS K "takers_by_best" (top 40) f26)
  (a27:cS K "all_sets" (top 42) f27)
  (a28:cS K "in_coins" (top 43) f28)
  (a29:cS K "coins_of" (top 44) f29)
  (a30:cS K "goods_above" (top 45) f30)
  (a31:cS K "paid_goods" (top 46) f31)
  (a32:cS K "rise" (top 48) f32)
  (a33:cS K "loosened" (top 49) f33)
  (a34:cS K "paying_factors" (top 50) f34)
  (a35:cS K "meeting_factors" (top 51) f35)
  (a36:cS K "raised" (top 52) f36)
  (a37:cS K "first_prices" (top 53) f37)
  (a38:cS K "greatest_share" (top 54) f38)
  (a39:cS K "rises" (top 55) f39)
  (a40:cS K "prices_behind" (top 56) f40)
  (a41:cS K "clear" (top 58) f41)
  (a42:cS K "prices_that_clear" (top 59) f42)
  (a43:cS K "dealing_at" (top 60) f43)
  (a44:cS K "dealing_by" (top 61) f44)
  (a45:cS K "pieces_for" (top 62) f45)
  (a46:cS K "spend" (top 63) f46)
  (a47:cS K "way_to_unsold" (top 64) f47)
  (a48:cS K "most_along" (top 65) f48)
  (a49:cS K "send_along" (top 66) f49)
  (a50:cS K "_law_bag" (top 68) f50)
  (a51:cS K "_law_take" (top 69) f51)
  (a52:cS K "_law_frac" (top 70) f52)
  (a53:cS K "_law_add" (top 71) f53)
  (a54:cS K "_law_sub" (top 72) f54)
  (a55:cS K "_law_mul" (top 73) f55)
  (a56:cS K "_law_div" (top 74) f56)
  (a57:cS K "_law_less" (top 75) f57)
  (a58:cS K "_law_sum" (top 76) f58)
  (a59:cS K "_law_purse" (top 77) f59)
  (Ω:cS K "_law_liked" (top 78) f60)
  (Ψ:cS K "_law_due" (top 79) f61)
  (Φ:cS K "_law_split" (top 80) f62)
  (Ξ:cS K "_law_between" (top 81) f63)
  (a64:cS K "law" (top 82) f64)
  (z0:PySem.W.nsIn K mainGlobals "len"=some none)
  (z1:PySem.W.nsIn K mainGlobals "range"=some none)
  (z2:PySem.W.nsIn K mainGlobals "tuple"=some none)
  (z3:PySem.W.nsIn K mainGlobals "list"=some none)
  (z4:PySem.W.nsIn K mainGlobals "all"=some none)
  (z5:PySem.W.nsIn K mainGlobals "any"=some none)
  (z6:PySem.W.nsIn K mainGlobals "max"=some none)
  (z7:PySem.W.nsIn K mainGlobals "min"=some none)
  (z8:PySem.W.nsIn K mainGlobals "sum"=some none)
  (z9:PySem.W.nsIn K mainGlobals "abs"=some none)
  (XH:PySem.W.nsIn K mainGlobals "int"=some none)
  (XG:PySem.W.nsIn K mainGlobals "isinstance"=some none)
  (XF:PySem.W.nsIn K mainGlobals "bool"=some none)
  (XE:PySem.W.nsIn K mainGlobals "enumerate"=some none)
  (XD:PySem.W.nsIn K mainGlobals "ValueError"=some none)
  (Nz:PySem.W.nsIn K mainGlobals "zip"=some none)
  (i7:PySem.W.nsIn K mainGlobals "MOST_GOODS"=some (some (.int 6 tk0)))
  (il:PySem.W.nsIn K mainGlobals "MOST_BUYERS"=some (some (.int 6 tk1)))
  (ik:PySem.W.nsIn K mainGlobals "MOST_PIECES"=some (some (.int 60 MN)))
  (jW:PySem.W.nsIn K mainGlobals "MOST_WISH"=some (some (.int 100 Sh)))
  (fv:PySem.W.nsIn K mainGlobals "MOST_IN_PURSE"=some (some (.int 1000000 tk4)))
  (gM:PySem.W.nsIn K mainGlobals "MartError"=some (some (.ref M)))
  (π:PySem.W.nsIn K mainGlobals "NoNumber"=some (some (.ref Nn)))
  (ο:PySem.W.nsIn K mainGlobals "NoPrices"=some (some (.ref Pr)))
  (ρ:PySem.W.nsIn K mainGlobals "Dear"=some (some (.ref De)))
  (ξ:PySem.W.nsIn K mainGlobals "Unwished"=some (some (.ref Un)))
  (ti1:PySem.W.kitOne K (.type "NoneType") (.type "int")=some false)
  (ti2:PySem.W.kitOne K (.type "bool") (.type "int")=some true)
  (XV:PySem.W.kitOne K (.type "int") (.type "int")=some true)
  (XU:PySem.W.kitOne K (.type "str") (.type "int")=some false)
  (XT:PySem.W.kitOne K (.type "list") (.type "int")=some false)
  (XS:PySem.W.kitOne K (.type "tuple") (.type "int")=some false)
  (YB:PySem.W.kitOne K (.type "NoneType") (.type "bool")=some false)
  (YA:PySem.W.kitOne K (.type "bool") (.type "bool")=some true)
  (XZ:PySem.W.kitOne K (.type "int") (.type "bool")=some false)
  (XY:PySem.W.kitOne K (.type "str") (.type "bool")=some false)
  (XX:PySem.W.kitOne K (.type "list") (.type "bool")=some false)
  (XW:PySem.W.kitOne K (.type "tuple") (.type "bool")=some false)
  (CD:PySem.W.kitOne K (.type "NoneType") (.type "tuple")=some false)
  (Cq:PySem.W.kitOne K (.type "bool") (.type "tuple")=some false)
  (XN:PySem.W.kitOne K (.type "int") (.type "tuple")=some false)
  (XM:PySem.W.kitOne K (.type "str") (.type "tuple")=some false)
  (XJ:PySem.W.kitOne K (.type "list") (.type "tuple")=some false)
  (XI:PySem.W.kitOne K (.type "tuple") (.type "tuple")=some true)
  (Oc:PySem.W.excIn K Nn [.type "ValueError",.type "Exception",.type "BaseException",.type "object"] "ValueError.__new__"=true)
  (Ob:PySem.W.excIn K Pr [.type "ValueError",.type "Exception",.type "BaseException",.type "object"] "ValueError.__new__"=true)
  (Od:PySem.W.excIn K De [.type "ValueError",.type "Exception",.type "BaseException",.type "object"] "ValueError.__new__"=true)
  (Oa:PySem.W.excIn K Un [.type "ValueError",.type "Exception",.type "BaseException",.type "object"] "ValueError.__new__"=true) :
  ∃fd:FuncData,(∀(s:Shared) (v:Value),BindsTo s fd ⟨[v],[]⟩ [("script",v)])/\∀base:Heap,K.In base->base.Ns mainGlobals mg->aI l.prog w K mg base bY 14 fa fd ["script"] (yJ K):=by
 let⟨_,F0⟩:=oY ["thing"] X G a0;let⟨_,F1⟩:=oY ["thing"] X G a1;let⟨_,F2⟩:=jN ["one","other"] X G a2;let⟨_,F3⟩:=jN ["top","bottom"] X G a3;let⟨_,F4⟩:=jN ["one","other"] X G a4;let⟨_,F5⟩:=jN ["one","other"] X G a5;let⟨_,F6⟩:=jN ["one","other"] X G a6;let⟨_,F7⟩:=oY ["parts"] X G a7;let⟨_,F8⟩:=oY ["parts"] X G a8;let⟨_,F9⟩:=oY ["parts"] X G a9;let⟨_,F10⟩:=oY ["thing"] X G a10;let⟨_,F11⟩:=oY ["thing"] X G Tg;let⟨_,F12⟩:=oY ["thing"] X G a12;let⟨_,F13⟩:=No ["thing","buyers","goods"] X G a13;let⟨_,F14⟩:=jN ["thing","goods"] X G a14;let⟨_,F15⟩:=oY ["thing"] X G a15;let⟨_,F16⟩:=oY ["thing"] X G a16;let⟨_,F17⟩:=oY ["thing"] X G a17;let⟨_,XC⟩:=oY ["market"] X G a18;let⟨_,F19⟩:=oY ["market"] X G a19;let⟨_,F20⟩:=jN ["market","thing"] X G a20;let⟨_,F21⟩:=jN ["market","thing"] X G a21;let⟨_,F22⟩:=jN Ψ8 X G a22;let⟨_,F23⟩:=jN Ψ8 X G a23;let⟨_,F24⟩:=jN ["row","prices"] X G a24;let⟨_,F25⟩:=jN ["wish","price"] X G a25;let⟨_,XB⟩:=jN ["best","goods"] X G a26;let⟨_,XA⟩:=oY ["members"] X G a27;let⟨_,W9⟩:=jN Ψ8 X G a28;let⟨_,W8⟩:=jN ["coins","some"] X G a29;let⟨_,F30⟩:=jN Ψ8 X G a30;let⟨_,F31⟩:=jN Ψ8 X G a31;let⟨_,F32⟩:=jN Ψ8 X G a32;let⟨_,F33⟩:=jN ["best","paid"] X G a33;let⟨_,F34⟩:=S9 ["market","prices","loose","rising"] X G a34;let⟨_,F35⟩:=S9 ["market","prices","loose","paid"] X G a35;let⟨_,F36⟩:=No ["prices","rising","factor"] X G a36;let⟨_,F37⟩:=oY ["market"] X G a37;let⟨_,F38⟩:=jN ["wishes","good"] X G a38;let⟨_,F39⟩:=jN Ψ8 X G a39;let⟨_,F40⟩:=jN ["prices","told"] X G a40;let⟨_,F41⟩:=oY ["market"] X G a41;let⟨_,F42⟩:=oY ["market"] X G a42;let⟨_,F43⟩:=jN Ψ8 X G a43;let⟨_,F44⟩:=No ["market","money","spent"] X G a44;let⟨_,F45⟩:=No ["coins","money","amount"] X G a45;let⟨_,F46⟩:=No ["best","money","purses"] X G a46;let⟨_,F47⟩:=S9 ["best","spent","unsold","buyer"] X G a47;let⟨_,F48⟩:=S9 ["way","spent","unsold","left"] X G a48;let⟨_,F49⟩:=No ["way","spent","coins"] X G a49;let⟨_,F50⟩:=jN ["script","k"] X G a50;let⟨_,F51⟩:=jN ["bag","many"] X G a51;let⟨_,W7⟩:=jN ["top","bottom"] X G a52;let⟨_,F53⟩:=jN ["one","other"] X G a53;let⟨_,F54⟩:=jN ["one","other"] X G a54;let⟨_,F55⟩:=jN ["one","other"] X G a55;let⟨_,F56⟩:=jN ["one","other"] X G a56;let⟨_,F57⟩:=jN ["one","other"] X G a57;let⟨_,F58⟩:=oY ["some"] X G a58;let⟨_,F59⟩:=oY ["bag"] X G a59;let⟨_,F60⟩:=oY ["row"] X G Ω;let⟨_,F61⟩:=oY ["market"] X G Ψ;let⟨_,F62⟩:=No ["amounts","money","every"] X G Φ;let⟨_,F63⟩:=S9 ["market","money","every","mine"] X G Ξ;let⟨aje,ajd,abD,ab1,abq,aca,ab6,ab2,ajb,a64,l64,c64,k64⟩:=a64;let e:=hfa.symm.trans (PySem.W.mg_of X G a64);cases e;let N:Nm mg:=⟨Yt X G z0,Yt X G z1,Yt X G z2,Yt X G z3,Yt X G z4,Yt X G z5,Yt X G z6,Yt X G z7,Yt X G z8,Yt X G z9,Yt X G XH,Yt X G XG,Yt X G XF,Yt X G XE,Yt X G XD⟩;let T6:=Yt X G Nz;let Z:CC K:=⟨ti1,ti2,XV,XU,XT,XS,YB,YA,XZ,XY,XX,XW,CD,Cq,XN,XM,XJ,XI⟩;let vD:=PySem.W.mg_of X G i7;let sT:=PySem.W.mg_of X G il;let sS:=PySem.W.mg_of X G ik;let xZ:=PySem.W.mg_of X G jW;let oI:=PySem.W.mg_of X G fv;let mgM:=PySem.W.mg_of X G gM;let T3:=PySem.W.mg_of X G π;let abw:=PySem.W.mg_of X G ο;let abx:=PySem.W.mg_of X G ρ;let abv:=PySem.W.mg_of X G ξ;let F64:=xo (st:=top 82) l64 c64 k64;apply⟨PySem.W.fnOf "law" "law" (we (top 82)) (tI (top 82)) (bA (top 82)) .none abD ab1 abq aca ab6 ab2,λs v=>.of_eq rfl,λbase _ _=>?_⟩;let W:=F0.c l w base (FH F0.F N Z);let Gc:=F2.c l w base (PV F2.F N);let Gn:=F2.c l w base (Kb F2.F N);let IF:=F1.c l w base (BK F1.F N Z W Gc);let Fr:=F3.c l w base (vy F3.F T3 Oc Gn);let Ti:=F4.c l w base (FI F4.F Fr);let Ov:=F5.c l w base (J0 F5.F Fr);let Ls:=F6.c l w base (J8 F6.F);let Gr:=F8.c l w base (vw F8.F Ls);let Ra:=F25.c l w base (JX F25.F Ov);let Wi:=XC.c l w base (JR (Eo XC.F N));let Ar:=F20.c l w base (P2 F20.F N Z IF Wi);let Ne:=F21.c l w base (J3 F21.F abw Ob Ar);let Bb:=F24.c l w base (VM F24.F N Ra Gr);let Be:=F23.c l w base (VL F23.F N Ne Bb);let Tb:=XB.c l w base (PH (Ep XB.F N));let WiM:=XC.c l w base (Eo XC.F N);let TbM:=XB.c l w base (Ep XB.F N);let AsM:=XA.c l w base (zY XA.F N);let CoM:=W8.c l w base (uT W8.F N);let MbM:=F22.c l w base (J5 F22.F N T6 Ti);let OOM:=F9.c l w base (J1 F9.F N Gn);let ICM:=W9.c l w base (zX W9.F N OOM MbM);let As:=XA.c l w base (JS (zY XA.F N));let IC:=W9.c l w base (PJ (zX W9.F N OOM MbM));let Co:=W8.c l w base (PK (uT W8.F N));let GA:=F30.c l w base (VI F30.F Be IC Co Tb As Wi);let PG:=F31.c l w base (VG F31.F N abx Od GA);let LoM:=F33.c l w base (J7 F33.F N);let RsM:=F36.c l w base (JY F36.F N Ti);let LeM:=F7.c l w base (FN F7.F N Ls);let PfM:=F34.c l w base (JZ F34.F N ICM Fr CoM TbM AsM);let MfM:=F35.c l w base (FL F35.F N T6 Ov Ra);let Ri:=F32.c l w base (JW F32.F N PG WiM Be LoM PfM MfM LeM RsM);let Iam:=F15.c l w base (BL F15.F N sS W);let Iwi:=F17.c l w base (JT F17.F N xZ W);let Ipu:=F16.c l w base (xS F16.F N oI IF);let Iwr:=F14.c l w base (xN F14.F N Z Iwi);let Iaa:=F11.c l w base (xT F11.F N vD Z Iam);let Iap:=F12.c l w base (BI F12.F N sT Z Ipu);let Iaw:=F13.c l w base (sQ F13.F N Z Iwr);let IM:=F10.c l w base (vt F10.F N Z Iaa Iap Iaw);let Wl:=F19.c l w base (VF F19.F N);let Le:=F7.c l w base (J9 F7.F Ls);let GS:=F38.c l w base (VH F38.F N Fr Gr);let FP:=F37.c l w base (VJ F37.F N abv Oa Wi Wl Le Ov Ti GS);let PfP:=F45.c l w base (PQ F45.F N Fr);let DbP:=F44.c l w base (PY F44.F N PfP);let Wy:=F47.c l w base (PL F47.F N);let Mst:=F48.c l w base (J4 F48.F N);let Snd:=F49.c l w base (JV F49.F N);let Spd:=F46.c l w base (FJ F46.F N Wy Mst Snd);let Dat:=F43.c l w base (PZ F43.F N ICM Be Spd DbP);let Ris:=F39.c l w base (FK F39.F N Ri);let Pbh:=F40.c l w base (PR F40.F N);let Ptc:=F42.c l w base (PP F42.F N FP Ris Pbh);let Clr:=F41.c l w base (FO F41.F N Ptc Dat);let Bg:=F50.c l w base (P1 F50.F N);let T:=F51.c l w base (JU F51.F);let R8:=W7.c l w base (LW W7.F N);let Lf:=W7.c l w base (FG (LW W7.F N));let Lu:=F59.c l w base (BJ F59.F T Lf);let LmQ:=F55.c l w base (xP F55.F R8);let La:=F53.c l w base (xR F53.F R8);let Su:=F58.c l w base (PM F58.F La);let Ld:=F56.c l w base (xQ F56.F R8);let Lsu:=F54.c l w base (xO F54.F R8);let Ll:=F57.c l w base (vq F57.F)
 let Lik:=F60.c l w base (PU F60.F N R8);let Spl:=F62.c l w base (PN F62.F N LmQ Lsu);let Btw:=F63.c l w base (P0 F63.F N Spl Ld Ll Lik);let DuL:=F61.c l w base (Kc F61.F N Su Lik Ll La LmQ R8 Ld Spl Btw);exact QJ (Ka F64 N Bg T Lu IM Clr DuL)
def walk {l:PySem.W.OpenLaw}{q:Program}{loose:Δ2}{XP:(Θ3)->Heap->Prop}{YP:World->Heap->Prop}{d:DefRec}{K:Params->Θ1}(hn:l.most=some 63)(S3:d.params.defaults=[])
  (hY:∀(w:World) (h:Heap),YP w h->(K w.params).In h)
  (F:∀(w:World) (mg:Θ3) (fa:Addr) (h:Heap),(K w.params).In h->h.Ns mainGlobals mg->mg d.name=some (.ref fa) ->
   ∃fd:FuncData,(∀(s:Shared) (u:Value),BindsTo s fd ⟨[u],[]⟩ [("script",u)])/\∀base:Heap,(K w.params).In base->base.Ns mainGlobals mg->aI l.prog w (K w.params) mg base bY 14 fa fd ["script"] (yJ (K w.params))) :
  PySem.W.WalkO q loose XP YP l.row.toRowW d [] (λf vs=>PySem.call f vs) :=
 L2.IS (n:=63) (k:=14) (x:="script") (CX:=λ_=>bY) (sp:=λw=>yJ (K w.params)) hn ∅ S3 ⟨(),∅,∅⟩ hY F (λ_ _ a ns hl _ hS=>⟨a,ns,(),hS,hl,λ_=>rfl⟩) λ_ _ _ _ _ z=>z
end C6
end
end
open PySem PySem.W PyProof.Rows
namespace PySem.W.Fast
def tw8453569830275649443:=0
def tw4674966261357791318:=0
def tw1706148945489988559:=0
def tw990667966314849041:=0
def tw3483844006036063995:=0
def tw3380014779451967505:=0
def tw4282458932667655759:=0
def tw1875178422095169573:=0
def tw2422243195025785143:=0
def tw12191959416657847777:=0
def tw872787220771466850:=0
def tw14133107821511158838:=0
def tw1127506634392029598:=0
def tw14418788186691678443:=0
def tw4883645822745100927:=0
def tw13134103049603956203:=0
def tw3546246015440512821:=0
def tw15842456947166049146:=0
def tw682306839904283921:=0
def tw6272280061563026134:=0
def tw3316806846455878472:=0
def tw1839179382812163005:=0
def tw6502822647502275053:=0
def tw1412041016585788819:=0
def tw17724222182778060467:=0
def tw8903326361035145043:=0
def tw14335089556776752465:=0
def tw16515608803313719762:=0
def tw11594556972232129117:=0
def tw11860410138557993843:=0
def tw15249446627484075217:=0
def tw5880503345927993493:=0
def tw4325607515707795166:=0
def tw18435152189777266012:=0
def tw17410215827810950591:=0
def tw2278109808483664792:=0
def tw4948608199425356779:=0
def tw15020682983602441714:=0
def tw1102004063457462743:=0
def tw9629264058406215992:=0
def tw11102969892661235734:=0
def tw15801394085691220186:=0
def tw9272347600687578440:=0
def tw9069183157251826405:=0
def tw550069114879981241:=0
def tw11020940531043293949:=0
def tw812807232101166579:=0
def tw6250585114949257834:=0
def tw12981682073567517974:=0
def tw7144086869390659819:=0
def tw5736769978867503250:=0
def tw14315658262698945262:=0
def tw12804566750035647471:=0
def tw17953029949824571849:=0
def tw6087304764075005058:=0
def tw10601811078982158074:=0
def tw694473399733973303:=0
def tw15392414067681855156:=0
def tw1686818537369045003:=0
def tw4582271634591544713:=0
def tw5009568395079370357:=0
def tw14570972924257978489:=0
def tw9825992480450177016:=0
def tw4818122522529182051:=0
def tw4326818433598365080:=0
def tw3593978766065096310:=0
def tw6350942613814061705:=0
def tw2092975406412729589:=0
def tw5974248554571608795:=0
def tw10933038784932448114:=0
def tw3556741806183302625:=0
def tw8540152155394896741:=0
def tw2260594498994088507:=0
def tw6466790477271719134:=0
def tw9663100462629572313:=0
def tw15530320516675426150:=0
def tw3770914906021152215:=0
def tw7042615537078159339:=0
def tw180224482322847138:=0
def tw2883991182387960774:=0
def tw7473108178877694700:=0
def tw12030686658167237707:=0
def tw14522624185186429860:=0
def tw13271155655028761687:=0
def tw4082538836948207563:=0
def tw12361825641139797520:=0
def tw10875710546264620165:=0
def tw9513604345677771307:=0
def tw9508591581018562243:=0
def tw1934060400448091991:=0
def tw8740505330458225403:=0
def tw3271599453609588348:=0
def tw10182928619671544890:=0
def tw16935937663314942946:=0
def tw16043974768058313091:=0
def tw17317754584336759773:=0
def tw12474268101818518852:=0
def tw7510264711914022139:=0
def tw5785229147666515008:=0
def tw706118522743905408:=0
def tw10085952957665675416:=0
def tw265260534539895454:=0
def tw1308757354340428434:=0
def tw13669221151694968669:=0
def tw11227707556462218064:=0
def tw3422038588431581090:=0
def tw7785148333699418417:=0
def tw3128436239343417906:=0
def tw5316368247697454515:=0
def tw1977062099970434004:=0
def tw12633467692993767209:=0
def tw7449357451605985611:=0
def tw5543409628686180583:=0
def tw12473941642397328760:=0
def tw15059748491465799716:=0
def tw16148733588515766505:=0
def tw6961105999440112758:=0
def tw12091701941260869682:=0
def tw11549815214237483142:=0
def tw2925264144921211627:=0
def tw5102051630344614074:=0
def tw18435609925568573424:=0
def tw7226555964361812454:=0
def tw15495630918610706063:=0
def tw8248599984176602250:=0
def tw18028215723951638667:=0
def tw12200324413965480681:=0
def tw4940278996834073112:=0
def tw581089901337558654:=0
def tw12786937102718895211:=0
def tw6935179687679087880:=0
def tw6150886987398732677:=0
def tw11967104744024651986:=0
def tw5184634722709664301:=0
def tw14741022452401631966:=0
def tw37131159963815496:=0
def tw9371452469943443799:=0
def tw14032184830677796785:=0
def tw14472319771517293780:=0
def tw1268676197425112985:=0
def tw9418779726691984748:=0
def tw10283287348433057783:=0
def tw9444238971002061650:=0
def tw1825506613556330089:=0
def tw13056711562303046657:=0
def tw13380164804024799406:=0
def tw9177705250953861553:=0
def tw12169227893436894966:=0
def tw10473686375346407332:=0
def tw3326563183105515043:=0
def tw10760114497016738950:=0
def tw12038020313175249235:=0
def tw14293071680867034940:=0
def tw7245094015981452522:=0
def tw10790341774793871628:=0
def tw7614540762786769494:=0
def tw1593900356512926698:=0
def tw17814885071073182595:=0
def tw12206384483069244802:=0
def tw5023246733370294935:=0
def tw13643600307980567534:=0
def tw2162319701621117970:=0
def tw2775819261867264672:=0
def tw18250669764831754790:=0
def tw966450320770876491:=0
def tw2765689540893298992:=0
def tw3910750031002338970:=0
def tw7102476210458697949:=0
def tw1782388283739509405:=0
def tw3898424488802325978:=0
def tw9577195293539702357:=0
def tw15394195252617500856:=0
def tw8154776852777987439:=0
def tw15146038145330833739:=0
def tw16648442748213148826:=0
def tw11795750447345407327:=0
def tw474401637366309703:=0
def tw14049535190107875483:=0
def tw17518207319855961133:=0
def tw2080177121877635206:=0
def tw11053585401988437524:=0
end PySem.W.Fast
set_option maxRecDepth 100000 in
set_option maxHeartbeats 0 in
theorem PySem.Challenge.cw_wishmart_k42_whole_two_goods_by_the_midd_holds : PySem.Challenge.rw_wishmart_k42_whole_two_goods_by_the_midd.Holds := by
 w_on;o_law;k_head;(case hw=>w_witness2)
 k_fill
 refine C6.walk (l:=PySem.Challenge.rw_wishmart_k42_whole_two_goods_by_the_midd) rfl rfl (λw h Y=>PySem.W.kIn_of Y) ?F
 case F =>
  intro w mg fa h KX G SS;refine' C6.all_mk KX G SS ?a0 ?a1 ?a2 ?a3 ?a4 ?a5 ?a6 ?a7 ?a8 ?a9 ?a10 ?Tg ?a12 ?a13 ?a14 ?a15 ?a16 ?a17 ?a18 ?a19 ?a20 ?a21 ?a22 ?a23 ?a24 ?a25 ?a26 ?a27 ?a28 ?a29 ?a30 ?a31 ?a32 ?a33 ?a34 ?a35 ?a36 ?a37 ?a38 ?a39 ?a40 ?a41 ?a42 ?a43 ?a44 ?a45 ?a46 ?a47 ?a48 ?a49 ?a50 ?a51 ?a52 ?a53 ?a54 ?a55 ?a56 ?a57 ?a58 ?a59 ?Ω ?Ψ ?Φ ?Ξ ?a64 ?z0 ?z1 ?z2 ?z3 ?z4 ?z5 ?z6 ?z7 ?z8 ?z9 ?XH ?XG ?XF ?XE ?XD ?Nz ?i7 ?il ?ik ?jW ?fv ?gM ?π ?ο ?ρ ?ξ ?ti1 ?ti2 ?XV ?XU ?XT ?XS ?YB ?YA ?XZ ?XY ?XX ?XW ?CD ?Cq ?XN ?XM ?XJ ?XI ?Oc ?Ob ?Od ?Oa
  (case a0 |a1 |a2 |a3 |a4 |a5 |a6 |a7 |a8 |a9 |a10 |Tg |a12 |a13 |a14 |a15 |a16 |a17 |a18 |a19 |a20 |a21 |a22 |a23 |a24 |a25 |a26 |a27 |a28 |a29 |a30 |a31 |a32 |a33 |a34 |a35 |a36 |a37 |a38 |a39 |a40 |a41 |a42 |a43 |a44 |a45 |a46 |a47 |a48 |a49 |a50 |a51 |a52 |a53 |a54 |a55 |a56 |a57 |a58 |a59 | Ω | Ψ | Φ | Ξ |a64=>exact⟨_,_,_,_,_,_,_,_,_,by k_is,by k_is,by k_is,by k_is⟩)
  (case z0 |z1 |z2 |z3 |z4 |z5 |z6 |z7 |z8 |z9 |XH |XG |XF |XE |XD |Nz |i7 |il |ik |jW |fv |gM | π | ο | ρ | ξ=>k_is)
  (case ti1 |ti2 |XV |XU |XT |XS |YB |YA |XZ |XY |XX |XW |CD |Cq |XN |XM |XJ |XI=>first |rfl |kit_is |k_is)
  (case Oc |Ob |Od |Oa=>first |k_is |kit_is |rfl |kernel_rfl |decide+kernel)
