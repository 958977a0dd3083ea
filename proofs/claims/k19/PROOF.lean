import PyProof.Rows.All
import Wide.All
import OpenK.AllK
import Wide.FinOn
import Lean
import PyProof.EqAt
import PyProof.EqKinds
import PyProof.TupleCall
import KE.KMinKey
import PyProof.Rows.CallKwBuiltin
import PyProof.ListRange
import PyProof.Rows.SortWalk
import PySem.Challenge.RW_wishmart_k19_worths_told
set_option Elab.async false
set_option linter.all false
set_option maxRecDepth 100000
set_option maxHeartbeats 8000000
open Lean in
def cvP:Nat->Syntax->MacroM (TSyntax `rcasesPat)
 |0,_=>Macro.throwUnsupported
 |n+1,s=>match s with
  | `(⟨$a,*⟩)=>do
   let b<-a.getElems.mapM fun x=>do `(Lean.Parser.Tactic.rcasesPatLo| $(<-cvP n x):rcasesPat)
   `(rcasesPat| ⟨$b,*⟩)
  | `(_)=>`(rcasesPat| _)
  | _=>if s.isIdent then `(rcasesPat| $(⟨s⟩):ident) else Macro.throwUnsupported
section
open PySem
local macro_rules
 | `(tactic| let $p:term := $e)=>do match p with
  | `(⟨$_,*⟩)=>`(tactic| obtain $(<-cvP 99 p):rcasesPat := $e)
  | _=>Lean.Macro.throwUnsupported
local macro_rules | `(tactic| let $i:ident := $e)=>`(tactic| have $i:ident := $e)
local macro_rules | `(tactic| let $i:ident : $t := $e)=>`(tactic| have $i:ident : $t := $e)
local macro_rules | `(tactic| apply $e)=>`(tactic| refine $e)
local macro_rules | `(())=>`(rfl)
local macro_rules | `(⋯)=>`(by omega)
local macro_rules | `(∅)=>`(by decide)
set_option compiler.extract_closed false
noncomputable section
abbrev Γ1:=List (List Int)
abbrev Γ2:=List (PySem.Addr×PySem.Obj)
abbrev Γ3:=List Int
abbrev Δ1:=List Rat
abbrev Δ2:=List PySem.Str
abbrev Δ3:=List PySem.Value
abbrev Θ1:=PySem.W.Frag
abbrev Θ2:=PySem.Value->PySem.Shared->Prop
abbrev Θ3:=PySem.Str->Option PySem.Value
abbrev Ξ1:=List PySem.PyData
abbrev Ξ2:=List PySem.Expr
abbrev Ψ8:List PySem.Str:=["market","prices"]
theorem Ψ9(N:List PySem.Str)(h:N.Nodup:=by decide+kernel):N.Nodup:=h
abbrev Za:=@PySem.wpAny_bind
abbrev Zb:=@List.length_map
abbrev Zc:=@List.getElem?_eq_getElem
abbrev Zd:=@List.mem_map
abbrev Ze:=@Nat.le_refl
abbrev Zf:=@List.getElem?_eq_some_iff
abbrev Zg:=@List.mem_filter
abbrev Zh:=@List.mem_cons_self
abbrev Zi:=@List.mem_range
abbrev Zj:=@List.mem_cons
abbrev Zk:=@List.mem_cons_of_mem
abbrev Zl:=@Nat.le_trans
abbrev Zm:=@List.map_cons
abbrev Zn:=@PySem.Heap.get?_push_of_some
abbrev Zo:=@List.getElem?_map
abbrev Zp:=@List.map_map
abbrev Zq:=@List.getElem?_append_left
abbrev Zr:=@PySem.Heap.lt_size
abbrev Zs:=@List.map_append
abbrev Zt:=@List.length_append
abbrev Zu:=@List.filter_sublist
abbrev Zv:=@List.mem_append
abbrev Zw:=@List.getElem_mem
abbrev Zy:=@Rat.le_of_lt
abbrev Zz:=@PySem.Heap.get?_push_size
abbrev Z0:=@Int.toNat_natCast
abbrev Z1:=@List.mem_singleton
abbrev Z2:=@List.mem_of_getElem?
abbrev Z3:=@Nat.lt_or_ge
abbrev Z4:=@Bool.false_ne_true
abbrev Z5:=@Bool.and_eq_true
abbrev Z6:=@List.any_eq_true
abbrev Z7:=@List.getElem?_set_ne
abbrev Z8:=@List.size_toArray
abbrev Z9:=@List.nodup_cons
abbrev Ya:=@List.contains_iff_mem
abbrev Yb:=@Nat.zero_le
abbrev Yc:=@Bool.eq_iff_iff
abbrev Yd:=@List.all_eq_true
abbrev Ye:=@Nat.ne_of_lt
abbrev Yf:=@List.take_length
abbrev Yg:=@List.getElem?_set_self
abbrev Yh:=@List.append_nil
abbrev Yi:=@List.getElem?_append_right
abbrev Yj:=@List.getElem_of_mem
abbrev Yk:=@List.length_range
abbrev Yl:=@Nat.lt_of_lt_of_le
abbrev Ym:=@Nat.lt_irrefl
abbrev Yn:=@List.mem_append_right
abbrev Yo:=@Rat.le_refl
abbrev Yp:=@List.length_set
abbrev Yq:=@List.getElem?_range
abbrev Yr:=@List.append_assoc
abbrev Ys:=@PySem.boot_len
abbrev Yt:=@PySem.W.mg_none_of
abbrev Yu:=@List.getElem?_eq_none
abbrev Yv:=@Rat.not_lt
abbrev Yw:=@Rat.zero_add
abbrev Yx:=@Rat.le_trans
abbrev Yy:=@List.length_take
abbrev Yz:=@List.length_filter_le
abbrev Y0:=@List.filter_congr
abbrev Y1:=@Rat.intCast_pos
abbrev Y2:=@Option.map_some
abbrev Y3:=@List.range_succ
abbrev Y4:=@List.length_cons
abbrev Y5:=@Int.le_refl
abbrev Y6:=@PySem.Heap.size_push
abbrev Y7:=@List.mem_append_left
abbrev Y8:=@List.getElem?_replicate
abbrev Y9:=@List.all_cons
abbrev Xa:=@Nat.pow_le_pow_right
abbrev Xb:=@Int.mul_pos
abbrev Xc:=@List.map_congr_left
abbrev Xd:=@Nat.le_of_not_lt
abbrev Xe:=@Int.toNat_of_nonneg
abbrev Xf:=@Int.natAbs_mul
abbrev Xg:=@Rat.num_divInt_den
abbrev Xh:=@Bool.true_and
abbrev Xi:=@List.foldl_cons
abbrev Xj:=@Rat.zero_mul
abbrev Xk:=@Rat.mul_le_mul_of_nonneg_right
abbrev Xl:=@Int.natAbs_natCast
abbrev Xm:=@PySem.mem_of_lookup
abbrev Xn:=@List.length_pos_iff
abbrev Xo:=@List.filter_append
abbrev Xp:=@Rat.intCast_mul
abbrev Xq:=@Rat.mul_pos
abbrev Xr:=@List.filter_eq_nil_iff
abbrev Xs:=@Rat.mul_zero
abbrev Xt:=@Nat.mul_le_mul
abbrev Xu:=@PySem.Heap.get?_update_other
abbrev Xv:=@Nat.ne_of_gt
abbrev Xw:=@List.any_cons
abbrev Xx:=@Nat.le_succ
abbrev Xy:=@List.all_map
abbrev Xz:=@List.nodup_range
abbrev X0:=@List.nodup_append
abbrev X1:=@List.filter_eq_self
abbrev X2:=@Option.getD_some
abbrev X3:=@Bool.or_eq_true
abbrev X4:=@Int.ne_of_gt
abbrev X5:=@List.map_id
abbrev X6:=@List.any_map
abbrev X7:=@Rat.div_def
abbrev X8:=@List.find?_cons
abbrev X9:=@List.nodup_nil
abbrev Qa:=@Rat.add_zero
abbrev Qb:=@Rat.divInt_eq_div
abbrev Qc:=@Nat.sub_self
abbrev Qd:=@List.map_eq_nil_iff
abbrev Qe:=@Option.isSome_iff_exists
abbrev Qg:=@List.lookup_cons
abbrev Qh:=@List.mem_iff_getElem
abbrev Qi:=@List.sum_cons
abbrev Qj:=@Rat.mul_nonneg
abbrev Qk:=@Bool.false_eq_true
abbrev Ql:=@List.ext_getElem?
abbrev Qm:=@PySem.Heap.get?_update_self
abbrev Qn:=@List.length_replicate
abbrev Qo:=@List.length_drop
abbrev Qp:=@Rat.intCast_lt_intCast
abbrev Qq:=@List.not_mem_nil
abbrev Qr:=@List.filter_filter
abbrev Qs:=@Rat.le_antisymm
abbrev Qt:=@Rat.mul_le_mul_of_nonneg_left
abbrev Qu:=@List.filter_cons_of_neg
abbrev Qv:=@Int.emod_nonneg
abbrev Qw:=@Int.fdiv_eq_ediv_of_nonneg
abbrev Qx:=@List.length_singleton
abbrev Qy:=@Int.gcd_pos_of_ne_zero_right
abbrev Qz:=@Int.gcd_dvd_right
abbrev Q4:=@Int.mul_fdiv_cancel_left
abbrev Q5:=@Bool.not_eq_true
abbrev Q6:=@Rat.add_le_add_left
abbrev Q7:=@Rat.add_le_add_right
abbrev Q8:=@List.filter_cons_of_pos
abbrev Q9:=@Int.emod_lt_of_pos
abbrev Ja:=@List.mem_flatMap
abbrev Jc:=@List.isEmpty_map
abbrev Jd:=@List.filter_cons
abbrev Je:=@List.length_eq_zero_iff
namespace L2
open PySem.Spec PyProof.Rows
abbrev dZ:=Sum Int Str
def nA:dZ->Value->Bool
 |.inl k,v=>Value.isInt k v
 |.inr x,v=>Value.isStrOf x v
def aby (w:World):dZ->Int
 |.inl k=>hashInt k
 |.inr x=>hashStr w x
theorem GI:∀{k:dZ}{v:Value},nA k v=true->(∃i t,k=Sum.inl i/\v=Value.int i t)\/(∃x t,k=Sum.inr x/\v=Value.str x t)
 |.inl i,v,h=>by
  let⟨t,e⟩:=Value.isInt_shape (k:=i) (v:=v) h;exact .inl ⟨i,t,(),e⟩
 |.inr x,v,h=>by
  let⟨t,e⟩:=Value.isStrOf_shape (x:=x) (v:=v) h;exact .inr ⟨x,t,(),e⟩
def BI (i:Int)(t:Tok):nA (.inl i) (.int i t)=true:=by simp[nA,Value.isInt]
def BH (x:Str)(t:Tok):nA (.inr x) (.str x t)=true:=by simp[nA,Value.isStrOf]
def QF (a b:Int):decide ((Sum.inl a:dZ)=Sum.inl b)=(a == b):=by
 by_cases e:a=b
 .subst e;simp
 .let h:¬ (Sum.inl a:dZ)=Sum.inl b:=λq=>e (Sum.inl.inj q)
  rw[decide_eq_false h];exact(beq_eq_false_iff_ne.mpr e).symm
def QC (a b:Str):decide ((Sum.inr a:dZ)=Sum.inr b)=decide (a=b):=by
 by_cases e:a=b
 .subst e;simp
 .let h:¬ (Sum.inr a:dZ)=Sum.inr b:=λq=>e (Sum.inr.inj q)
  rw[decide_eq_false h,decide_eq_false e]
def QE (a:Int)(b:Str):decide ((Sum.inl a:dZ)=Sum.inr b)=false:=decide_eq_false (λq=>nomatch q)
def QD (a:Str)(b:Int):decide ((Sum.inr a:dZ)=Sum.inl b)=false:=decide_eq_false (λq=>nomatch q)
def lS (prog:Program)(w:World):PySem.KeyKind prog w dZ where
 is:=nA
 hash:=aby w
 inj:=λv a b ha hb=>by
  rcases GI ha with ⟨i,t,rfl,rfl⟩ |⟨x,t,rfl,rfl⟩
  .rcases GI hb with ⟨j,u,rfl,e⟩ |⟨y,u,rfl,e⟩
   .injection e with e1 _;rw[e1]
   .exact nomatch e
  .rcases GI hb with ⟨j,u,rfl,e⟩ |⟨y,u,rfl,e⟩
   .exact nomatch e
   .injection e with e1 _;rw[e1]
 byValue:=λk v h=>by
  rcases GI h with ⟨i,t,rfl,rfl⟩ |⟨x,t,rfl,rfl⟩<;>rfl
 pyHash:=λhv h=>by
  rcases GI hv with ⟨i,t,rfl,rfl⟩ |⟨x,t,rfl,rfl⟩
  .exact wpAny_pyHash_int h
  .exact wpAny_pyHash_str h
 eqBool:=λhu hv h=>by
  rcases GI hu with ⟨i,t,rfl,rfl⟩ |⟨x,t,rfl,rfl⟩
  .rcases GI hv with ⟨j,u,rfl,rfl⟩ |⟨y,u,rfl,rfl⟩
   .rw[QF] at h;exact wpAny_eqBool_int h
   .rw[QE] at h;exact SeqAt.EqAt.int_str i t y u _ _ _ _ h
  .rcases GI hv with ⟨j,u,rfl,rfl⟩ |⟨y,u,rfl,rfl⟩
   .rw[QD] at h;exact SeqAt.EqAt.str_int x t j u _ _ _ _ h
   .rw[QC] at h;exact wpAny_eqBool_str h
 «strs»:=λk x t v h=>by
  rcases GI h with ⟨i,u,rfl,e⟩ |⟨y,u,rfl,e⟩
  .exact nomatch e
  .injection e with e1 _
   subst e1;cases v<;>rfl
def vi (prog:Program)(w:World)(i:Int)(t:Tok):(lS prog w).is (.inl i) (.int i t)=true:=BI i t
def vh (prog:Program)(w:World)(x:Str)(t:Tok):(lS prog w).is (.inr x) (.str x t)=true:=BH x t
inductive V where
 |cj |bl (b:Bool) |int (i:Int) |str (x:Str) |AB (b:Array UInt8) |RO (b:UInt64) |ref (a:Addr) |ty (n:String)
 deriving DecidableEq
def RelV:V->Value->Prop
 |.cj,u=>u=Value.none
 |.bl b,u=>u=Value.bool b
 |.int i,u=>∃t,u=Value.int i t
 |.str x,u=>∃t,u=Value.str x t
 |.AB b,u=>∃t,u=Value.bytes b t
 |.RO b,u=>∃t,u=Value.float b t
 |.ref a,u=>u=Value.ref a
 |.ty n,u=>u=Value.type n
abbrev bp:List V->Δ3->Prop:=Paired RelV
def bp.length {xs:List V}{us:Δ3}(r:bp xs us):xs.length=us.length:=Paired.length r
theorem bp.get:∀{xs:List V}{us:Δ3}{i:Nat}{x:V},bp xs us->xs[i]?=some x->∃u,us[i]?=some u/\RelV x u
 |_,_,_,_,.nil,e=>by simp at e
 |_,_,0,_,.cons r _,e=>by simp at e;subst e;exact⟨_,(),r⟩
 |_,_,i+1,x,.cons _ t,e=>by
  let⟨u,h1,h2⟩:=bp.get (i:=i) (x:=x) t (by simpa using e);exact⟨u,by simpa using h1,h2⟩
theorem bp.set (r:RelV x u):∀{xs:List V}{us:Δ3}(i:Nat),bp xs us->bp (xs.set i x) (us.set i u)
 |_,_,_,.nil=>.nil
 |_,_,0,.cons _ t=>.cons r t
 |_,_,i+1,.cons q t=>.cons q (bp.set r i t)
theorem bp.append:∀{xs ys:List V}{us ws:Δ3},bp xs us->bp ys ws->bp (xs++ys) (us++ws)
 |_,_,_,_,.nil,s=>s
 |_,_,_,_,.cons r t,s=>.cons r (bp.append t s)
theorem bp.take:∀{xs:List V}{us:Δ3}(n:Nat),bp xs us->bp (xs.take n) (us.take n)
 |_,_,0,_=>.nil
 |_,_,_+1,.nil=>.nil
 |_,_,n+1,.cons r t=>.cons r (bp.take n t)
theorem bp.drop:∀{xs:List V}{us:Δ3}(n:Nat),bp xs us->bp (xs.drop n) (us.drop n)
 |_,_,0,r=>r
 |_,_,_+1,.nil=>.nil
 |_,_,n+1,.cons _ t=>bp.drop n t
def aB:Option V->Option Value->Prop
 |some v,some u=>RelV v u
 |none,none=>True
 |_,_=>False
def KV {κ : Type}:List (κ × V)->List (κ × Value)->Prop:=Paired λ(p:κ × V) (q:κ × Value)=>p.1=q.1/\RelV p.2 q.2
def kV:dZ->V
 |.inl i=>.int i
 |.inr x=>.str x
inductive HO where
 |lst (xs:List V)
 |tup (xs:List V)
 |dK (kvs:List (dZ×V)) |dT (kvs:List (List dZ×V))
 |set (S:Int->Bool) (n:Nat)
 |ins (C dx:Addr) (fs:List (Str×V))
 |own (x:Addr)
 |xd (fs:List (Str×V))
 |met (f x:Addr)
 |YK (lo hi:Int)
 |ic (o:Obj) (u:HO)
 |Ml (ps:Array Value)
 |ext (φ : Heap->Prop)
abbrev Hp:=Addr->Option HO
def aK (H:Hp)(a:Addr)(o:HO):Hp:=λb=>if b=a then some o else H b
def de:aK H a o a=some o:=by unfold aK;rw[if_pos rfl]
def c7 (h:b≠a):aK H a o b=H b:=by unfold aK;rw[if_neg h]
def ua {H:Hp}{a b:Addr}(h:H a=some o)(h':H b=some u)(d:o≠u):a≠b:=by
 intro e;subst e;rw[h] at h';exact d (Option.some.inj h')
def Ci {H:Hp}{a b:Addr}(h:H a=some o)(h':H b=none):a≠b:=by
 intro e;subst e;rw[h] at h';cases h'
section
variable (P:Program)(w:World)
def b9 (H:Hp)(h:Heap)(a:Addr):HO->Prop
 |.lst xs=>xs.length<=sizeLine/\∃(its:Δ3) (n:Nat),bp xs its/\h.get? a=some { cls:=.type "list",data:=.seq its.toArray n }
 |.tup xs=>xs.length<=sizeLine/\∃its:Δ3,bp xs its/\IsTup h a its.toArray
 |.dK kvs=>kvs.length<=sizeLine/\(a == sysModules)=false/\∃vs,KV kvs vs/\h.DictOf (lS P w) a vs
 |.dT kvs=>kvs.length<=sizeLine/\(a == sysModules)=false/\∃xs:List (List dZ×Addr×Value),
   Paired (λ(p:List dZ×V) (q:List dZ×Addr×Value)=>p.1=q.1/\H q.2.1=some (.tup (p.1.map kV))/\RelV p.2 q.2.2) kvs xs /\
   ∃o es ep,h.get? a=some o/\o.ExactDict/\o.data=.dict es ep/\es.toList=xs.map (entryOfKey (tupleKind (lS P w)))/\(xs.map (·.1)).Nodup
 |.set S n=>h.SetOf (intKind P w) a S n
 |.ins C dx fs=>H dx=some (.own a)/\fs.length<=1000/\dx≠a/\h.get? a=some (PySem.W.instObj C dx) /\
   ∃mA,h.Ns1 dx mA/\(∀f,aB (fs.lookup f) (mA f))/\PySem.Within mA (fs.map (·.1))
 |.own _=>∃o,h.get? a=some o
 |.xd fs=>∃mA,h.Ns1 a mA/\∀f,aB (fs.lookup f) (mA f)
 |.YK lo hi=>∃t u v,h.get? a=some { cls:=.type "range",data:=.fields #[.int lo t,.int hi u,.int 1 v] }
 |.ic o u=>h.get? a=some o/\b9 H h a u
 |.Ml ps=>h.get? a=some { cls:=.none,data:=.fields ps }
 |.met f x=>h.get? a=some (PySem.W.methodObj (.ref f) (.ref x))
 |.ext φ=>φ h/\(∃o,h.get? a=some o)/\∀h1 h2:Heap,φ h1->(∀o,h1.get? a=some o->h2.get? a=some o)->φ h2
def j4 (H:Hp)(h:Heap):Prop:=∀a o,H a=some o->b9 P w H h a o
end
section
variable {P:Program}{w:World}{H H':Hp}{h h':Heap}{a:Addr}{o:HO}
def b9.lt (x:b9 P w H h a o):a<h.objs.size:=by
 cases o with
 |lst xs=>let⟨_,_,_,_,e⟩:=x;exact Zr e
 |tup xs=>let⟨_,_,_,p⟩:=x;exact p.lt
 |dK kvs=>let⟨_,_,_,_,o,_,_,e,_⟩:=x;exact Zr e
 |dT kvs=>let⟨_,_,_,_,o,_,_,e,_⟩:=x;exact Zr e
 |set S n=>let⟨o,_,_,_,e,_⟩:=x;exact Zr e
 |ins C dx fs=>let⟨_,_,_,e,_⟩:=x;exact Zr e
 |own y=>let⟨_,e⟩:=x;exact Zr e
 |xd fs=>let⟨_,⟨_,_,_,e,_⟩,_⟩:=x;exact Zr e
 |YK lo hi=>let⟨_,_,_,e⟩:=x;exact Zr e
 |ic ob u=>let⟨e,_⟩:=x;exact Zr e
 |Ml ps=>exact Zr (show h.get? a=some _ from x)
 |met f y=>exact Zr (show h.get? a=some _ from x)
 |ext φ=>let⟨_,⟨_,e⟩,_⟩:=x;exact Zr e
theorem Paired.HF {α β : Type}{F G:α->β->Prop}:∀{l₁:List α}{l₂:List β},Paired F l₁ l₂->(∀a b,F a b->G a b)->Paired G l₁ l₂
 |_,_,.nil,_=>.nil
 |_,_,.cons r t,f=>.cons (f _ _ r) (Paired.HF t f)
def b9.ar (x:b9 P w H h a o)(k:∀b u,(b=a\/H b=some (.own a))->h.get? b=some u->h'.get? b=some u)
  (ho:∀b,H b=some (.own a)->H' b=some (.own a)) (ht:∀b xs,H b=some (.tup xs)->H' b=some (.tup xs)):b9 P w H' h' a o:=by
 induction o with
 |lst xs=>let⟨z,its,n,r,e⟩:=x;exact⟨z,its,n,r,k _ _ (.inl rfl) e⟩
 |tup xs=>let⟨z,its,r,ob,e,c⟩:=x;exact⟨z,its,r,ob,k _ _ (.inl rfl) e,c⟩
 |dK kvs=>let⟨z,y,vs,r,ob,es,ep,e,c⟩:=x;exact⟨z,y,vs,r,ob,es,ep,k _ _ (.inl rfl) e,c⟩
 |dT kvs =>
  let⟨z,y,xs,r,ob,es,ep,e,c⟩:=x;exact⟨z,y,xs,Paired.HF r λp q z=>⟨z.1,ht _ _ z.2.1,z.2.2⟩,ob,es,ep,k _ _ (.inl rfl) e,c⟩
 |set S n=>let⟨ob,es,ep,t,e,c⟩:=x;exact⟨ob,es,ep,t,k _ _ (.inl rfl) e,c⟩
 |ins C dx fs =>
  let⟨d,z,ne,e,mA,⟨od,es,ep,e2,c⟩,r⟩:=x;exact⟨ho _ d,z,ne,k _ _ (.inl rfl) e,mA,⟨od,es,ep,k _ _ (.inr d) e2,c⟩,r⟩
 |own y=>let⟨ob,e⟩:=x;exact⟨ob,k _ _ (.inl rfl) e⟩
 |xd fs=>let⟨mA,⟨od,es,ep,e,c⟩,r⟩:=x;exact⟨mA,⟨od,es,ep,k _ _ (.inl rfl) e,c⟩,r⟩
 |YK lo hi=>let⟨t,u,v,e⟩:=x;exact⟨t,u,v,k _ _ (.inl rfl) e⟩
 |ic ob u ih=>let⟨e,q⟩:=x;exact⟨k _ _ (.inl rfl) e,ih q⟩
 |Ml ps =>
  let e:h.get? a=some { cls:=.none,data:=.fields ps }:=x;show h'.get? a=some { cls:=.none,data:=.fields ps };exact k a _ (.inl rfl) e
 |met f y =>
  let e:h.get? a=some (PySem.W.methodObj (.ref f) (.ref y)):=x;show h'.get? a=some (PySem.W.methodObj (.ref f) (.ref y));exact k a _ (.inl rfl) e
 |ext φ=>let⟨p,⟨o,e⟩,st⟩:=x;exact⟨st _ _ p λo q=>k _ _ (.inl rfl) q,⟨o,k _ _ (.inl rfl) e⟩,st⟩
def j4.lt (x:j4 P w H h)(e:H a=some o):a<h.objs.size:=(x a o e).lt
def j4.fresh (x:j4 P w H h)(e:h.objs.size<=a):H a=none:=by
 cases q:H a with
 |none=>rfl
 |some u=>exact absurd (Yl (x.lt q) e) (Ym _)
def j4.kept (x:j4 P w H h)(k:∀b u,h.get? b=some u->h'.get? b=some u):j4 P w H h':=λa o e =>
 (x a o e).ar (λb u _ q=>k b u q) (λ_ q=>q) λ_ _ q=>q
def j4.laid (x:j4 P w H h)(k:∀b u,h.get? b=some u->h'.get? b=some u)(hp:h.objs.size<=a)(new:b9 P w (aK H a o) h' a o):j4 P w (aK H a o) h':=λb u e=>by
 let hn:=x.fresh hp;by_cases hb:b=a
 .subst hb;rw[de] at e;cases e;exact new
 .rw[c7 hb] at e;exact(x b u e).ar (λc v _ q=>k c v q) (λc q=>by rw[c7 (Ci q hn)];exact q) λc xs q=>by rw[c7 (Ci q hn)];exact q
end
def Rd (H:Hp)(a:Addr)(u:HO):Prop:=H a=some u\/∃o,H a=some (.ic o u)
def Rd.ok (r:Rd H a u)(x:j4 P w H h):b9 P w H h a u:=by
 rcases r with r |⟨o,r⟩
 .exact x a u r
 .obtain⟨_,q⟩:=x a _ r;exact q
def Te:Option HO->Prop
 |some (.lst _)=>True
 |some (.dK _)=>True
 |some (.dT _)=>True
 |some (.set _ _)=>True
 |some (.ins _ _ _)=>True
 |some (.ext _)=>True
 |_=>False
section
variable {P:Program}{w:World}{H:Hp}{h h':Heap}{x e:Addr}{o':HO}
def j4.write (ok:j4 P w H h)(mu:Te (H x))(he:e=x\/H e=some (.own x))(k:∀b u,b≠e->h.get? b=some u->h'.get? b=some u)(GO:∃u,h'.get? e=some u)
  (new:b9 P w (aK H x o') h' x o'):j4 P w (aK H x o') h':=λb u q=>by
 let TY:∀c y,H c=some (.own y)->c≠x:=λc y r z=>by subst z;rw[r] at mu;exact mu
 let abn:∀c xs,H c=some (.tup xs)->c≠x:=λc xs r z=>by subst z;rw[r] at mu;exact mu
 by_cases hb:b=x
 .subst hb;rw[de] at q;cases q;exact new
 .rw[c7 hb] at q;by_cases M0:b=e
  .let q':H b=some (.own x):=by
    rcases he with z |z
    .exact absurd (M0.trans z) hb
    .rw[M0];exact z
   rw[q] at q';cases q';let⟨v,hv⟩:=GO;exact⟨v,by rw[M0];exact hv⟩
  .apply(ok b u q).ar (λc v hc r=>k c v ?_ r) (λc r=>by rw[c7 (TY c b r)];exact r) λc xs r=>by rw[c7 (abn c xs r)];exact r
   rcases hc with rfl |hc
   .exact M0
   .rintro rfl;rcases he with z |z
    .exact TY c b hc z
    .rw[hc] at z;cases z;exact hb rfl
end
structure Un (fs ex:List Addr)(H H':Hp)(h h':Heap):Prop where
 keep:∀b o,h.get? b=some o->H b=none->b∉fs->b∉ex->h'.get? b=some o
 slot:∀b o,h.get? b=some o->H b=none->b∈fs->b∉ex->∃sl,h'.get? b=some { o with slots:=sl }
 free:∀b o,h.get? b=some o->H b=none->b∉ex->H' b=none
 there:∀b o,h.get? b=some o->b∉ex->∃o',h'.get? b=some o'
 m8:∀b xs,H b=some (.tup xs)->H' b=some (.tup xs)
 qT:∀b o u,H b=some (.ic o u)->H' b=some (.ic o u)
 tI:∀b ps,H b=some (.Ml ps)->∃NC,H' b=some (.Ml (ps++NC))
section
variable {fs fs' ex ex':List Addr}{H H1 H2:Hp}{h h1 h2 h':Heap}{a x e:Addr}{o:HO}
def Un.any (u:Un fs ex H H1 h h1)(q:h.get? b=some ob)(n:H b=none)(hx:b∉ex):∃sl,h1.get? b=some { ob with slots:=sl }:=by
 by_cases hb:b∈fs
 .exact u.slot b ob q n hb hx
 .exact⟨ob.slots,u.keep b ob q n hb hx⟩
def Un.kept (k:∀b u,h.get? b=some u->h'.get? b=some u):Un fs ex H H h h' :=
 ⟨λb ob q _ _ _=>k b ob q,λb ob q _ _ _=>⟨ob.slots,k b ob q⟩,λ_ _ _ n _=>n,λb ob q _=>⟨ob,k b ob q⟩,λ_ _ q=>q,λ_ _ _ q=>q,λ_ ps q=>⟨#[],by rw[q];simp⟩⟩
def Un.refl:Un fs ex H H h h:=Un.kept λ_ _ q=>q
def Un.laid (k:∀b u,h.get? b=some u->h'.get? b=some u)(hp:h.objs.size<=a)(hn:H a=none):Un fs ex H (aK H a o) h h' where
 keep:=λb u q _ _ _=>k b u q
 slot:=λb u q _ _ _=>⟨u.slots,k b u q⟩
 free:=λb u q n _=>by rw[c7 (Ye (Yl (Zr q) hp))];exact n
 there:=λb u q _=>⟨u,k b u q⟩
 m8:=λb xs q=>by rw[c7 (Ci q hn)];exact q
 qT:=λb u xs q=>by rw[c7 (Ci q hn)];exact q
 tI:=λb ps q=>⟨#[],by rw[c7 (Ci q hn),q];simp⟩
def Un.write (mu:Te (H x))(he:e=x\/H e=some (.own x))(k:∀b u,b≠e->h.get? b=some u->h'.get? b=some u)(GO:∃u,h'.get? e=some u):Un fs ex H (aK H x o) h h':=by
 let hx:∀b,H b=none->b≠x:=λb n z=>by subst z;rw[n] at mu;exact mu
 let hb:∀b,H b=none->b≠e:=λb n z=>by
  subst z;rcases he with r |r
  .exact hx b n r
  .rw[n] at r;cases r
 let hm:∀b u,H b=some u->¬ Te (some u)->b≠x:=λb u q nm z=>by subst z;rw[q] at mu;exact nm mu
 apply⟨λb u q n _ _=>k b u (hb b n) q,λb u q n _ _=>⟨u.slots,k b u (hb b n) q⟩,λb u q n _=>by rw[c7 (hx b n)];exact n,λb u q _=>?_,
  λb xs q=>by rw[c7 (hm b _ q λz=>z)];exact q,λb u xs q=>by rw[c7 (hm b _ q λz=>z)];exact q,λb ps q=>⟨#[],by rw[c7 (hm b _ q λz=>z),q];simp⟩⟩
 by_cases M0:b=e
 .subst M0;exact GO
 .exact⟨u,k b u M0 q⟩
end
def Wp (h:Heap)(H:Hp):List Addr:=(List.range h.objs.size).filter λa=>(H a).isSome
def qQ (h:Heap)(H:Hp):Heap:=PySem.W.hideAll h (Wp h H)
def BR (h:Heap)(H:Hp):(qQ h H).objs.size=h.objs.size:=PySem.W.hideAll_size _ _
def FT (e:h.get? b=some o)(n:H b=none):(qQ h H).get? b=some o :=
 PySem.W.hideAll_get _ e λhm=>by
  let q:(H b).isSome=true:=(Zg.mp hm).2;rw[n] at q;simp at q
def JR (e:(qQ h H).get? b=some o):h.get? b=some o/\H b=none:=by
 let e':h.get? b=some o:=PySem.W.of_hideAll (Wp h H) e;apply⟨e',?_⟩;cases q:H b with
 |none=>rfl
 |some x =>
  let hm:b∈Wp h H:=Zg.mpr ⟨Zi.mpr (Zr e'),by simp[q]⟩;let z:(qQ h H).get? b=none:=PySem.W.hideAll_none (Wp h H) hm;rw[z] at e;cases e
structure Mod (K:Θ1)(mg:Θ3)(base:Heap):Prop where
 YN:K.In base
 glob:base.Ns mainGlobals mg
 blt:∃mb,base.Ns builtinsNs mb/\∀x:Str,x ≠ "__name__"->mb x=bootBuiltins x
 nolimit:base.NoLimit
 wO:base.NoSeer
structure Cx where
 prog:Program
 w:World
 K:Θ1
 mg:Str->Option Value
 base:Heap
 A:Around
 N:Δ2
 eV:Shared
 dm:Hp
 env:Env
 outer:List Env
 stack:List Env
 ex:List Addr
 fn:Str->Bool
 calm:Bool
 pn:Γ2
 xe:Value->Shared->Prop
def CQ (l:List Env):List Addr:=l.filterMap (·.frame)
abbrev Cx.fs (X:Cx):List Addr:=CQ X.outer
def Td (sc:Scope)(x:Str):Prop:=sc.names.lookup x=some .local\/sc.names.lookup x=some .cell\/sc.names.lookup x=some .free
def Loc (sc:Scope)(x:Str):Prop:=sc.names.lookup x=some .local\/sc.names.lookup x=some .cell
def Look (env:Env)(h:Heap)(m:Θ3)(x:Str)(u:Value):Prop :=
 (env.kindOf x=some .local/\m x=some u)\/((env.kindOf x=some .cell\/env.kindOf x=some .free)/\∃c,env.cells.lookup x=some c/\h.IsCell c (some u))
structure Cx.Ok (X:Cx):Prop where
 mod:Mod X.K X.mg X.base
 kind:X.env.scope.kind=.function
 glob:X.env.globals=mainGlobals
 blt:X.env.builtins=builtinsNs
 above:X.eV.heap.objs.size<=X.env.locals
 inj:∀x y c,X.env.cells.lookup x=some c->X.env.cells.lookup y=some c->x=y
 has:∀x,(X.env.kindOf x=some .cell\/X.env.kindOf x=some .free)->∃c,X.env.cells.lookup x=some c
 S7:∀x c,X.fn x=true->X.env.cells.lookup x=some c->X.eV.heap.objs.size<=c
 hd:X.calm=true->X.A.handled=none
 frames:X.A.frames=some X.stack
 Wu:X.stack=X.outer\/(X.stack=X.env::X.outer/\X.env.frame=some X.env.locals)
 WZ:∀b∈X.ex,b≠X.env.locals/\∀x c,X.env.cells.lookup x=some c->c≠b
 bs:∀b o,X.base.get? b=some o->X.eV.heap.get? b=some o/\X.dm b=none
 KU:X.base.objs.size<=X.eV.heap.objs.size
 C5:∀b o,X.base.get? b=some o->b∉X.ex
 Dh:∀b∈X.ex,b∉X.fs
 nk:X.eV.heap.FunFrames X.base X.outer
 RN:∀b∈X.fs,X.dm b=none
structure Inv (X:Cx)(ae:Γ2)(σ:List (Option V))(H:Hp)(s:Shared):Prop where
 ok:X.Ok
 os:s.os=X.eV.os
 bare:AllBare s.gens
 base:Un X.fs X.ex X.dm H X.eV.heap s.heap
 loc:∃m,s.heap.Ns X.env.locals m/\∀(i:Nat) (x:Str) (v:V),X.N[i]?=some x->σ[i]?=some (some v)->Td X.env.scope x->∃u,RelV v u/\Look X.env s.heap m x u
 cell:∀x c,X.env.cells.lookup x=some c->∃v,s.heap.IsCell c v
 free:H X.env.locals=none
 jy:∀x c,X.env.cells.lookup x=some c->H c=none
 pin:∀p∈X.pn++ae,s.heap.get? p.1=some p.2/\H p.1=none/\p.1≠X.env.locals/\p.1∉X.fs/\∀v,p.2.data≠.cell v
 cb:j4 X.prog X.w H s.heap
 len:σ.length=X.N.length
section
variable {X:Cx}{ae:Γ2}{σ:List (Option V)}{H H':Hp}{s:Shared}{h':Heap}
def Cx.Ok.abp (ok:X.Ok)(e:X.base.get? b=some o):b∉X.fs:=λhb=>by
 have:=(ok.nk.mem hb).1;rw[e] at this;cases this
def Inv.bs (I:Inv X ae σ H s):∀b o,X.base.get? b=some o->s.heap.get? b=some o/\H b=none:=λb o e =>
 ⟨I.base.keep b o (I.ok.bs b o e).1 (I.ok.bs b o e).2 (I.ok.abp e) (I.ok.C5 b o e),I.base.free b o (I.ok.bs b o e).1 (I.ok.bs b o e).2 (I.ok.C5 b o e)⟩
def Inv.bk (I:Inv X ae σ H s):∀b o,X.base.get? b=some o->s.heap.get? b=some o:=λb o e=>(I.bs b o e).1
def Inv.mod (I:Inv X ae σ H s):Mod X.K X.mg X.base:=I.ok.mod
def Inv.sT (I:Inv X ae σ H s):X.K.In s.heap:=I.ok.mod.YN.keeps I.bk
def Inv.nolimit (I:Inv X ae σ H s):s.heap.NoLimit:=I.ok.mod.nolimit.keeps I.bk
def Inv.wO (I:Inv X ae σ H s):s.heap.NoSeer:=I.ok.mod.wO.keeps I.bk
def Inv.lt (I:Inv X ae σ H s):X.env.locals<s.heap.objs.size:=let ⟨_,hn,_⟩:=I.loc;hn.lt
def Inv.sz (I:Inv X ae σ H s):X.eV.heap.objs.size<=s.heap.objs.size:=Zl I.ok.above (Nat.le_of_lt I.lt)
def Inv.abo (I:Inv X ae σ H s)(h:s.heap.objs.size<=a):a∉X.fs:=λhb=>by
 let⟨_,o,ho,_⟩:=I.ok.nk.mem hb;exact absurd (Yl (Zr ho) (Zl I.sz h)) (Ym _)
def Inv.M7 (I:Inv X ae σ H s):∀x c,X.env.cells.lookup x=some c->c≠X.env.locals:=λx c e z=>by
 let⟨v,o,ho,hd⟩:=I.cell x c e;let⟨m,⟨o',es,ep,vU,SW,_⟩,_⟩:=I.loc;rw[z,vU] at ho;cases ho;rw[SW] at hd;cases hd
def Inv.nk (I:Inv X ae σ H s):s.heap.FunFrames X.base X.outer:=by
 let all:∀(l:List Env),(∀b∈CQ l,b∈X.fs)->X.eV.heap.FunFrames X.base l->s.heap.FunFrames X.base l:=by
  intro l;induction l with
  |nil=>intro _ _;trivial
  |cons env r ih =>
   intro hs hl;let⟨hk,⟨L,o,hf,hn,ho,hd⟩,hr⟩:=hl;let hL:L∈X.fs:=hs L (by unfold CQ;rw[List.filterMap_cons,hf];exact Zh);let⟨sl,e⟩:=I.base.slot L o ho (I.ok.RN L hL) hL λz=>I.ok.Dh L z hL
   exact⟨hk,⟨L,_,hf,hn,e,hd⟩,ih (λb hb=>hs b (by unfold CQ;rw[List.filterMap_cons,hf];exact Zk _ hb)) hr⟩
 exact all X.outer (λ_ hb=>hb) I.ok.nk
def Inv.stack (I:Inv X ae σ H s):s.heap.FunFrames X.base X.stack:=by
 rcases I.ok.Wu with e |⟨e,hf⟩
 .rw[e];exact I.nk
 .rw[e];let⟨m,hn,_⟩:=I.loc;apply .cons (by rw[I.ok.kind];decide) hf hn ?_ I.nk;exact Heap.get?_none_of_le (Zl I.ok.KU I.ok.above)
def Inv.wG (I:Inv X ae σ H s):∀b∈CQ X.stack,b∈X.env.locals::X.fs:=λb hb=>by
 rcases I.ok.Wu with e |⟨e,hf⟩
 .rw[e] at hb;exact Zk _ hb
 .rw[e] at hb;unfold CQ at hb;rw[List.filterMap_cons,hf] at hb;exact hb
def Inv.zb (I:Inv X ae σ H s):∀b∈CQ X.stack,H b=none:=λb hb=>by
 rcases Zj.mp (I.wG b hb) with e |hb
 .rw[e];exact I.free
 .obtain⟨_,o,ho,_⟩:=I.ok.nk.mem hb;exact I.base.free b o ho (I.ok.RN b hb) λz=>I.ok.Dh b z hb
def Inv.step {g':Array GenState}{t':Nat}{ch:List Addr}(I:Inv X ae σ H s)
  (GP:∀b∈ch,(b∈X.ex\/X.eV.heap.objs.size<=b)/\b≠X.env.locals/\(∀x c,X.env.cells.lookup x=some c->c≠b)/\∀p∈X.pn++ae,p.1≠b)
  (keep:∀b o,b≠X.env.locals->b∉X.fs->b∉ch->s.heap.get? b=some o->H b=none->h'.get? b=some o)
  (slot:∀b o,b≠X.env.locals->b∈X.fs->b∉ch->s.heap.get? b=some o->H b=none->∃sl,h'.get? b=some { o with slots:=sl }) (free:∀b o,b∉ch->s.heap.get? b=some o->H b=none->H' b=none)
  (there:∀b o,b∉ch->s.heap.get? b=some o->∃o',h'.get? b=some o')
  (m8:∀b xs,H b=some (.tup xs)->H' b=some (.tup xs)) (qT:∀b o u,H b=some (.ic o u)->H' b=some (.ic o u)) (tI:∀b ps,H b=some (.Ml ps)->∃NC,H' b=some (.Ml (ps++NC)))
  (ns:∀m,s.heap.Ns X.env.locals m->h'.Ns X.env.locals m) (cb:j4 X.prog X.w H' h') (hg:AllBare g') :
  Inv X ae σ H' { s with heap:=h',gens:=g',drawn:=d',toks:=t' }:=by
 let neL:∀b o,X.eV.heap.get? b=some o->b≠X.env.locals:=λb o e=>Ye (Yl (Zr e) I.ok.above)
 let WB:∀b o,X.eV.heap.get? b=some o->b∉X.ex->b∉ch:=λb o e hx hb=>by
  rcases(GP b hb).1 with z |z
  .exact hx z
  .exact absurd (Yl (Zr e) z) (Ym _)
 let LY:∀x c,X.env.cells.lookup x=some c->∀v,s.heap.IsCell c v->h'.IsCell c v:=λx c e v ⟨o,ho,hd⟩=>by
  let Sn:c∉ch:=λz=>(GP c z).2.2.1 x c e rfl
  by_cases hc:c∈X.fs
  .obtain⟨sl,q⟩:=slot c o (I.M7 x c e) hc Sn ho (I.jy x c e);exact⟨_,q,hd⟩
  .exact⟨o,keep c o (I.M7 x c e) hc Sn ho (I.jy x c e),hd⟩
 apply⟨I.ok,I.os,hg,⟨λb o e n hb hx=>?_,λb o e n hb hx=>?_,λb o e n hx=>?_,λb o e hx=>?_,λb xs e=>m8 b xs (I.base.m8 b xs e),λb o xs e=>qT b o xs (I.base.qT b o xs e),λb ps e=>?_⟩,?_,λx c e=>?_,?_,λx c e=>?_,λp hp=>?_,cb,I.len⟩
 .exact keep b o (neL b o e) hb (WB b o e hx) (I.base.keep b o e n hb hx) (I.base.free b o e n hx)
 .obtain⟨sl,e1⟩:=I.base.slot b o e n hb hx;let⟨d6,e2⟩:=slot b _ (neL b o e) hb (WB b o e hx) e1 (I.base.free b o e n hx);exact⟨d6,e2⟩
 .obtain⟨o',e1⟩:=I.base.there b o e hx;exact free b o' (WB b o e hx) e1 (I.base.free b o e n hx)
 .obtain⟨o',e1⟩:=I.base.there b o e hx;exact there b o' (WB b o e hx) e1
 .obtain⟨m1,e1⟩:=I.base.tI b ps e;let⟨m2,e2⟩:=tI b _ e1;exact⟨m1++m2,by rw[e2,Array.append_assoc]⟩
 .obtain⟨m,hn,hl⟩:=I.loc;apply⟨m,ns m hn,λi x v e1 e2 e3=>?_⟩;let⟨u,r,l⟩:=hl i x v e1 e2 e3;apply⟨u,r,?_⟩;rcases l with l |⟨k,c,e,z⟩
  .exact .inl l
  .exact .inr ⟨k,c,e,LY x c e _ z⟩
 .obtain⟨v,z⟩:=I.cell x c e;exact⟨v,LY x c e v z⟩
 .obtain⟨m,⟨o,_,_,ho,_⟩,_⟩:=I.loc;exact free _ o (λz=>(GP _ z).2.1 rfl) ho I.free
 .obtain⟨v,o,ho,hd⟩:=I.cell x c e;exact free c o (λz=>(GP c z).2.2.1 x c e rfl) ho (I.jy x c e)
 .obtain⟨e,n,ne,nf,d⟩:=I.pin p hp;let Sn:p.1∉ch:=λz=>(GP p.1 z).2.2.2 p hp rfl
  exact⟨keep p.1 p.2 ne nf Sn e n,free p.1 p.2 Sn e n,ne,nf,d⟩
def Inv.un {t':Nat}(I:Inv X ae σ H s)(u:Un X.fs [] H H' s.heap h')(cb:j4 X.prog X.w H' h'):Inv X ae σ H' { s with heap:=h',toks:=t' }:=by
 let⟨m,⟨o,es,ep,ho,r⟩,_⟩:=id I.loc;let⟨sl,hL⟩:=u.any ho I.free (by simp);exact I.step (g':=s.gens) (d':=s.drawn) (ch:=[]) (λ_ z=>nomatch z) (λb o _ hb _ e n=>u.keep b o e n hb (by simp)) (λb o _ hb _ e n=>u.slot b o e n hb (by simp)) (λb o _ e n=>u.free b o e n (by simp)) (λb o _ e=>u.there b o e (by simp)) u.m8 u.qT u.tI (λm' hm=>by
  let⟨o',π,S6,vU,r'⟩:=hm;rw[ho] at vU;cases vU;exact⟨_,π,S6,hL,r'⟩) cb I.bare
def Inv.call {g':Array GenState}{t':Nat}{ch:List Addr}(I:Inv X ae σ H s)(u:Un (CQ X.stack) ch H H' s.heap h')(cb:j4 X.prog X.w H' h')(hg:AllBare g')
  (GP:∀b∈ch,(b∈X.ex\/X.eV.heap.objs.size<=b)/\b≠X.env.locals/\(∀x c,X.env.cells.lookup x=some c->c≠b)/\∀p∈X.pn++ae,p.1≠b) :
  Inv X ae σ H' { s with heap:=h',gens:=g',drawn:=d',toks:=t' }:=by
 let⟨m,⟨o,es,ep,ho,r⟩,_⟩:=id I.loc;let⟨sl,hL⟩:=u.any ho I.free λz=>(GP _ z).2.1 rfl
 exact I.step (ch:=ch) GP (λb o hL hb hc e n=>u.keep b o e n (λz=>(Zj.mp (I.wG b z)).elim hL hb) hc) (λb o _ _ hc e n=>u.any e n hc) (λb o hc e n=>u.free b o e n hc) (λb o hc e=>u.there b o e hc) u.m8 u.qT u.tI (λm' hm=>by
  let⟨o',π,S6,vU,r'⟩:=hm;rw[ho] at vU;cases vU;exact⟨_,π,S6,hL,r'⟩) cb hg
def Inv.turned {t':Nat}{it:Addr}(I:Inv X ae σ H s)(k:∀b o,b≠it->s.heap.get? b=some o->h'.get? b=some o)(hn:H it=none)(hL:it≠X.env.locals)
  (h1:it∈X.ex\/X.eV.heap.objs.size<=it) (h2:∀x c,X.env.cells.lookup x=some c->c≠it) (h3:∀p∈X.pn++ae,p.1≠it):Inv X ae σ H { s with heap:=h',toks:=t' }:=by
 let Sl:∀b u,H b=some u->b≠it:=λb u e z=>by rw[z,hn] at e;cases e
 apply I.step (g':=s.gens) (d':=s.drawn) (ch:=[it]) (λb hb=>?_) (λb o _ _ hc e _=>k b o (λz=>hc (by simp[z])) e) (λb o _ _ hc e _=>⟨o.slots,k b o (λz=>hc (by simp[z])) e⟩) (λ_ _ _ _ n=>n)
  (λb o hc e=>⟨o,k b o (λz=>hc (by simp[z])) e⟩) (λ_ _ e=>e) (λ_ _ _ e=>e) (λb ps e=>⟨#[],by rw[e];simp⟩) (λm hm=>?_) (λb u e=>?_) I.bare
 .let e:b=it:=by simpa using hb
  subst e;exact⟨h1,hL,h2,h3⟩
 .obtain⟨o,es,ep,ho,r⟩:=hm;exact⟨o,es,ep,k _ o (Ne.symm hL) ho,r⟩
 .apply(I.cb b u e).ar (λc v hc q=>k c v ?_ q) (λ_ q=>q) λ_ _ q=>q
  rcases hc with z |z
  .rw[z];exact Sl b u e
  .exact Sl c _ z
def Inv.tok (I:Inv X ae σ H s)(t:Nat):Inv X ae σ H { s with toks:=t }:=I.un (h':=s.heap) (t':=t) Un.refl I.cb
def Inv.kept (I:Inv X ae σ H s)(k:∀b u,s.heap.get? b=some u->h'.get? b=some u):Inv X ae σ H { s with heap:=h',toks:=t' }:=I.un (Un.kept k) (I.cb.kept k)
def Inv.laid (I:Inv X ae σ H s)(k:∀b u,s.heap.get? b=some u->h'.get? b=some u)(hp:s.heap.objs.size<=a)(new:b9 X.prog X.w (aK H a o) h' a o) :
  Inv X ae σ (aK H a o) { s with heap:=h',toks:=t' }:=I.un (Un.laid k hp (I.cb.fresh hp)) (I.cb.laid k hp new)
def Inv.write (I:Inv X ae σ H s)(mu:Te (H x))(he:e=x\/H e=some (.own x))(k:∀b u,b≠e->s.heap.get? b=some u->h'.get? b=some u)(GO:∃u,h'.get? e=some u)
  (new:b9 X.prog X.w (aK H x o) h' x o):Inv X ae σ (aK H x o) { s with heap:=h',toks:=t' }:=I.un (Un.write mu he k GO) (I.cb.write mu he k GO new)
def Inv.mF (I:Inv X ae σ H s)(h:∀p∈VA,s.heap.get? p.1=some p.2/\H p.1=none/\p.1≠X.env.locals/\p.1∉X.fs/\∀v,p.2.data≠.cell v):Inv X VA σ H s :=
 ⟨I.ok,I.os,I.bare,I.base,I.loc,I.cell,I.free,I.jy,λp hp=>(Zv.mp hp).elim (λz=>I.pin p (Y7 _ z)) (h p),I.cb,I.len⟩
def uJ {N:Δ2}(hN:N.Nodup){i j:Nat}(a:N[i]?=some x)(b:N[j]?=some x):i=j:=by
 let⟨h1,e1⟩:=Zf.mp a;let⟨h2,e2⟩:=Zf.mp b;exact(List.getElem_inj hN).mp (e1.trans e2.symm)
def A7 {M:Model}{A:Around}(I:Inv X ae σ H s)(hN:X.N.Nodup)(hi:X.N[i]?=some x)(hx:Loc X.env.scope x)(r:RelV v u)
  (h:∀s',Inv X ae (σ.set i (some v)) H s'->(∃a,Heap.SameBut a s.heap s'.heap/\(a=X.env.locals\/X.env.cells.lookup x=some a))->Q ⟨⟩ s') (hf:X.fn x=true\/X.env.scope.names.lookup x=some .local:=by first |exact .inl rfl |exact .inr rfl |assumption):wpAny M A (storeName X.env x u) Q E s:=by
 let⟨m,hn,hl⟩:=id I.loc;let abS:(X.env.scope.kind == .class||(X.env.scope.kind == .module&&X.env.locals != X.env.globals))=false:=by rw[I.ok.kind];rfl
 let Uv:i < σ.length:=by rw[I.len];exact(Zf.mp hi).1
 let M7:=I.M7;let yW:∀{a:Addr}{h':Heap},(∃o,s.heap.get? a=some o/\H a=none)->Heap.SameBut a s.heap h'->j4 X.prog X.w H h':=λ{a h'} ha hs b ob e=>by
  let⟨_,_,LO⟩:=ha;apply(I.cb b ob e).ar (λc w' hc q=>(hs.2 c ?_).trans q) (λ_ q=>q) λ_ _ q=>q
  rintro rfl;rcases hc with rfl |hc
  .rw[LO] at e;cases e
  .rw[LO] at hc;cases hc
 rcases hx with hk |hk
 .apply wpAny_storeName_local hk hn (λh' GL hs=>?_) abS;let⟨oL,_,_,hoL,_⟩:=id hn;apply h _ ⟨I.ok,I.os,I.bare,⟨λb o e n hb hx=>?_,λb o e n hb hx=>?_,I.base.free,λb o e hx=>?_,I.base.m8,I.base.qT,I.base.tI⟩,⟨_,GL,λj y v' e1 e2 e3=>?_⟩,λy c e=>?_,I.free,I.jy,λp hp=>?_,yW ⟨oL,hoL,I.free⟩ hs,by simpa using I.len⟩ ⟨_,hs,.inl rfl⟩
  .exact(hs.2 b (Ye (Yl (Zr e) I.ok.above))).trans (I.base.keep b o e n hb hx)
  .obtain⟨sl,e1⟩:=I.base.slot b o e n hb hx;exact⟨sl,(hs.2 b (Ye (Yl (Zr e) I.ok.above))).trans e1⟩
  .obtain⟨o',e1⟩:=I.base.there b o e hx;exact⟨o',(hs.2 b (Ye (Yl (Zr e) I.ok.above))).trans e1⟩
  .by_cases hj:j=i
   .subst hj;rw[hi] at e1;cases e1;rw[Yg Uv] at e2;cases e2;exact⟨u,r,.inl ⟨hk,by simp⟩⟩
   .rw[Z7 (Ne.symm hj)] at e2;let⟨u',r',q⟩:=hl j y v' e1 e2 e3;apply⟨u',r',?_⟩;rcases q with ⟨k,e⟩ |⟨k,c,e,z⟩
    .apply .inl ⟨k,?_⟩;have:y≠x:=λe=>hj (uJ hN e1 (e▸hi))
     simp[this,e]
    .exact .inr ⟨k,c,e,z.sameBut hs (M7 y c e)⟩
  .obtain⟨w',z⟩:=I.cell y c e;exact⟨w',z.sameBut hs (M7 y c e)⟩
  .obtain⟨e,n,ne,nf,d⟩:=I.pin p hp;exact⟨(hs.2 p.1 ne).trans e,n,ne,nf,d⟩
 .let SS:X.fn x=true:=by
   rcases hf with z |z
   .exact z
   .rw[z] at hk;cases hk
  let⟨c,hc⟩:=I.ok.has x (.inl hk);let⟨w',z⟩:=I.cell x c hc;apply wpAny_storeName_cell I.ok.kind hk hc z (λh' sP hs=>?_);let⟨oc,hoc,abK⟩:=id z;apply h { s with heap:=h' } ⟨I.ok,I.os,I.bare,⟨λb o e n hb hx=>?_,λb o e n hb hx=>?_,I.base.free,λb o e hx=>?_,I.base.m8,I.base.qT,I.base.tI⟩,⟨m,hn.sameBut hs (Ne.symm (M7 x c hc)),λj y v' e1 e2 e3=>?_⟩,λy c' e=>?_,I.free,I.jy,λp hp=>?_,yW ⟨oc,hoc,I.jy x c hc⟩ hs,by simpa using I.len⟩ ⟨c,hs,.inr hc⟩
  .exact(hs.2 b (Ye (Yl (Zr e) (I.ok.S7 x c SS hc)))).trans (I.base.keep b o e n hb hx)
  .obtain⟨sl,e1⟩:=I.base.slot b o e n hb hx;exact⟨sl,(hs.2 b (Ye (Yl (Zr e) (I.ok.S7 x c SS hc)))).trans e1⟩
  .obtain⟨o',e1⟩:=I.base.there b o e hx;exact⟨o',(hs.2 b (Ye (Yl (Zr e) (I.ok.S7 x c SS hc)))).trans e1⟩
  .by_cases hj:j=i
   .subst hj;rw[hi] at e1;cases e1;rw[Yg Uv] at e2;cases e2;exact⟨u,r,.inr ⟨.inl hk,c,hc,sP⟩⟩
   .rw[Z7 (Ne.symm hj)] at e2;let⟨u',r',q⟩:=hl j y v' e1 e2 e3;apply⟨u',r',?_⟩;rcases q with q |⟨k,c',e,z'⟩
    .exact .inl q
    .apply .inr ⟨k,c',e,z'.sameBut hs ?_⟩;rintro rfl;exact hj (uJ hN e1 (I.ok.inj _ _ _ e hc▸hi))
  .by_cases hcc:c'=c
   .subst hcc;exact⟨_,sP⟩
   .obtain⟨w2,z2⟩:=I.cell y c' e;exact⟨w2,z2.sameBut hs hcc⟩
  .obtain⟨e,n,ne,nf,d⟩:=I.pin p hp;apply⟨(hs.2 p.1 ?_).trans e,n,ne,nf,d⟩;intro q;rw[q,hoc] at e;let q':oc=p.2:=Option.some.inj e;exact d w' (by rw[<- q'];exact abK)
def fe (I:Inv X ae σ H s)(hN:X.N.Nodup)(hi:X.N[i]?=some x)(hx:Loc X.env.scope x)(r:RelV v u)
  (h:∀s',Inv X ae (σ.set i (some v)) H s'->Q ⟨⟩ s') (hf:X.fn x=true\/X.env.scope.names.lookup x=some .local:=by first |exact .inl rfl |exact .inr rfl |assumption):wpAny M A (storeName X.env x u) Q E s :=
 A7 I hN hi hx r (λs' I' _=>h s' I') hf
def Inv.V7 (I:Inv X ae σ H s)(ho:s'.os=s.os)(u:Un (CQ X.stack) ch H H' s.heap s'.heap)(cb:j4 X.prog X.w H' s'.heap)(hg:AllBare s'.gens)
  (GP:∀b∈ch,(b∈X.ex\/X.eV.heap.objs.size<=b)/\b≠X.env.locals/\(∀x c,X.env.cells.lookup x=some c->c≠b)/\∀p∈X.pn++ae,p.1≠b):Inv X ae σ H' s':=by
 let⟨h',g',d',t',o'⟩:=s';let e:o'=s.os:=ho;subst e;exact I.call (g':=g') (t':=t') (d':=d') u cb hg GP
end
abbrev XK:=Value->Option Addr->Hp->Prop
abbrev St:=List (Option V)
abbrev VK:=V->Hp->Prop
abbrev TE:=St->Hp->VK->Prop
abbrev TT:=St->Hp->(Bool->Hp->Prop)->Prop
abbrev TA:=St->Hp->(List V->Hp->Prop)->Prop
structure Ends where
 nx:St->Hp->Prop
 rt:VK
 bk:St->Hp->Prop:=λ_ _=>False
 ct:St->Hp->Prop:=λ_ _=>False
abbrev TS:=Ends->St->Hp->Prop
def EP (X:Cx)(ae:Γ2)(σ:St)(Q:VK)(u:Value)(s':Shared):Prop:=∃v H',Inv X ae σ H' s'/\RelV v u/\Q v H'
def TP (X:Cx)(ae:Γ2)(σ:St)(Q:Bool->Hp->Prop)(b:Bool)(s':Shared):Prop:=∃H',Inv X ae σ H' s'/\Q b H'
def AP (X:Cx)(ae:Γ2)(σ:St)(Q:List V->Hp->Prop)(us:Δ3)(s':Shared):Prop:=∃vs H',Inv X ae σ H' s'/\bp vs us/\Q vs H'
def SP (X:Cx)(ae:Γ2)(D:Ends)(f:Flow)(s':Shared):Prop :=
 match f with
 |.next=>∃aR H',Inv X ae aR H' s'/\D.nx aR H'
 |.brk=>∃aR H',Inv X ae aR H' s'/\D.bk aR H'
 |.cont=>∃aR H',Inv X ae aR H' s'/\D.ct aR H'
 |.ret u=>∃v aR H',Inv X ae aR H' s'/\RelV v u/\D.rt v H'
def PE (X:Cx)(e:Expr)(t:TE):Prop :=
 ∀(ae:Γ2) (s:Shared) (σ:St) (H:Hp) (Q:VK),Inv X ae σ H s->t σ H Q->wpAny (model X.prog X.w) X.A (eval e X.env) (EP X ae σ Q) X.xe s
def PT (X:Cx)(e:Expr)(t:TT):Prop :=
 ∀(ae:Γ2) (s:Shared) (σ:St) (H:Hp) (Q:Bool->Hp->Prop),Inv X ae σ H s->t σ H Q->wpAny (model X.prog X.w) X.A (isTrue e X.env (eval e X.env)) (TP X ae σ Q) X.xe s
def PW (X:Cx)(e:Expr)(t:TT):Prop :=
 ∀(whole:Sem Value) (ae:Γ2) (s:Shared) (σ:St) (H:Hp) (Q:Bool->Hp->Prop),Inv X ae σ H s->t σ H Q->wpAny (model X.prog X.w) X.A (isTrue e X.env whole) (TP X ae σ Q) X.xe s
def PW.pt (h:PW X e t):PT X e t:=h _
def PA (X:Cx)(es:Ξ2)(t:TA):Prop :=
 ∀(pos:Pos) (ae:Γ2) (s:Shared) (σ:St) (H:Hp) (Q:List V->Hp->Prop),Inv X ae σ H s->t σ H Q->wpAny (model X.prog X.w) X.A (spliced (backTo pos (starEach es X.env))) (AP X ae σ Q) X.xe s
def PS (X:Cx)(st:Stmt)(t:TS):Prop :=
 ∀(ae:Γ2) (s:Shared) (σ:St) (H:Hp) (D:Ends),Inv X ae σ H s->t D σ H->wpAny (model X.prog X.w) X.A (exec st X.env) (SP X ae D) X.xe s
def jm (X:Cx)(st:List Stmt)(t:TS):Prop :=
 ∀(ae:Γ2) (s:Shared) (σ:St) (H:Hp) (D:Ends),Inv X ae σ H s->t D σ H->wpAny (model X.prog X.w) X.A (execs st X.env) (SP X ae D) X.xe s
def bM {α : Type}{t:Sem α}{Q Q':α->Shared->Prop}(h:wpAny M A t Q E s)(hQ:∀a s,Q a s->Q' a s):wpAny M A t Q' E s:=wpAny_mono h hQ λ_ _ x=>x
section
variable {X:Cx}
def wc (i:Nat):TE:=λσ H Q=>∃v,σ[i]?=some (some v)/\Q v H
def tC (v:V):TE:=λ_ H Q=>Q v H
def O0 (hN:X.N[i]?=some x)(hv:Td X.env.scope x)(hd:(x == ("__debug__" : Str))=false:=by decide)(vX:(x == ("__classdict__" : Str))=false:=by decide):PE X (.Name x pos) (wc i):=by
 intro ae s σ H Q I h;let⟨v,e,h⟩:=h;let⟨m,hn,hl⟩:=I.loc;let⟨u,r,l⟩:=hl i x v hN e hv;let jk:EP X ae σ Q u s:=⟨v,H,I,r,h⟩;rcases l with ⟨hk,hm⟩ |⟨hk,c,hc,yF⟩
 .exact wpAny_Name (wpAny_loadName_local I.ok.kind hk hn hm jk) hd
 .rcases hk with hk |hk
  .exact wpAny_Name (wpAny_loadName_cell I.ok.kind hk hc yF jk) hd
  .exact wpAny_Name (wpAny_loadName_free I.ok.kind hk hc yF jk vX) hd
def bB:PE X (.Constant (.int i) j pos) (tC (.int i)):=λ_ _ _ H _ I h=>wpAny_Constant_int ⟨.int i,H,I.tok _,⟨_,()⟩,h⟩
def t7:PE X (.Constant (.bool b) j pos) (tC (.bl b)):=λ_ _ _ H _ I h=>Constant_bool ⟨.bl b,H,I,(),h⟩
def wL:PE X (.Constant .none j pos) (tC .cj):=λ_ _ _ H _ I h=>Constant_none ⟨.cj,H,I,(),h⟩
def Gl (X:Cx)(x:Str):Prop:=X.env.kindOf x=some .globalImplicit
def Ka (I:Inv X ae σ H s)(hg:Gl X x)(hm:X.mg x=some u)(h:Q u s)
  (hd:(x == ("__debug__" : Str))=false:=by decide):wpAny (model X.prog X.w) X.A (eval (.Name x pos) X.env) Q E s :=
 Calls.Name_function_global I.ok.kind hg (Calls.loadGlobal_global (by rw[I.ok.glob];exact I.mod.glob.keeps I.bk) hm h) hd
def fZ (I:Inv X ae σ H s)(hg:Gl X x)(hm:X.mg x=none)(hv:bootBuiltins x=some u)(h:Q u s)
  (hn:x ≠ "__name__":=by decide) (hd:(x == ("__debug__" : Str))=false:=by decide):wpAny (model X.prog X.w) X.A (eval (.Name x pos) X.env) Q E s:=by
 let⟨mb,h1,h2⟩:=I.mod.blt;exact Calls.Name_function_global I.ok.kind hg (Calls.loadGlobal_builtin (by rw[I.ok.glob];exact I.mod.glob.keeps I.bk) hm (by rw[I.ok.blt];exact h1.keeps I.bk) ((h2 x hn).trans hv) h) hd
variable {a b:Expr}{ta tb:TE}{pos:Pos}
def PC (X:Cx)(op:CmpOp)(a b:Expr)(t:TE):Prop :=
 ∀(ae:Γ2) (s:Shared) (σ:St) (H:Hp) (Q:VK),Inv X ae σ H s->t σ H Q ->
  wpAny (model X.prog X.w) X.A (eval a X.env) (λv bQ=>wpAny (model X.prog X.w) X.A (eval b X.env) (λu df=>wpAny (model X.prog X.w) X.A (compareOp op v u) (EP X ae σ Q) X.xe df) X.xe bQ) X.xe s
def tB (t:TE):TT:=λσ H Q=>t σ H λx H1=>∃c,x=.bl c/\Q c H1
def OV {op:CmpOp}{t:TE}(h:PC X op a b t)(h1:behindInMarks op b=false:=by first |exact Wf _ ∅ ∅ |rfl):PT X (.Compare a [op] [b] pos) (tB t):=by
 intro ae s σ H Q I hw;apply wpAny_isTrue_Compare1 (bM (h ae s σ H _ I hw) λv s1 h1=>bM h1 λu s2 h2=>bM h2 λc s3 ⟨x,H1,I1,r1,q1⟩=>?_) h1;let⟨d,rfl,q⟩:=q1;cases r1;exact wpAny_truthy_bool ⟨H1,I1,q⟩
def fV {e:Expr}{t:TE}(h:PE X e t)(he:∀whole,isTrue e X.env whole=(do let v <- whole;standAt e.pos;holding [v] (truthy v)):=by intro _;rfl):PT X e (tB t):=by
 intro ae s σ H Q I hw;apply isTrue_plain (bM (h ae s σ H _ I hw) λv s1 ⟨x,H1,I1,r1,q1⟩=>?_) (he _);let⟨d,rfl,q⟩:=q1;cases r1;exact wpAny_truthy_bool ⟨H1,I1,q⟩
variable {tA Wr:TT}{fK:Ξ2}
def aa7 (t u:TT):TT:=λσ H Q=>t σ H λc H1=>if c=true then u σ H1 Q else Q false H1
def tOr (t u:TT):TT:=λσ H Q=>t σ H λc H1=>if c=true then Q true H1 else u σ H1 Q
def aa1 (t:TT):TT:=λσ H Q=>t σ H λc H1=>Q (!c) H1
def pw_and1 (ha:PT X a tA):PW X (.BoolOp .And [a] pos) tA:=by
 intro wh ae s σ H Q I h;apply isTrue_and (bM (ha ae s σ H Q I h) λc s1 e=>?_);cases c with
 |true=>exact isTrue_and_nil e
 |false=>exact e
def pw_or1 (ha:PT X a tA):PW X (.BoolOp .Or [a] pos) tA:=by
 intro wh ae s σ H Q I h;apply isTrue_or (bM (ha ae s σ H Q I h) λc s1 e=>?_);cases c with
 |false=>exact isTrue_or_nil e
 |true=>exact e
def pw_and (ha:PT X a tA)(hb:PW X (.BoolOp .And (b::fK) pos) Wr):PW X (.BoolOp .And (a::b::fK) pos) (aa7 tA Wr):=by
 intro wh ae s σ H Q I h;apply isTrue_and (bM (ha ae s σ H _ I h) λc s1 ⟨H1,I1,q1⟩=>?_);cases c with
 |true=>exact hb wh ae s1 σ H1 Q I1 q1
 |false=>exact⟨H1,I1,q1⟩
def pw_or (ha:PT X a tA)(hb:PW X (.BoolOp .Or (b::fK) pos) Wr):PW X (.BoolOp .Or (a::b::fK) pos) (tOr tA Wr):=by
 intro wh ae s σ H Q I h;apply isTrue_or (bM (ha ae s σ H _ I h) λc s1 ⟨H1,I1,q1⟩=>?_);cases c with
 |true=>exact⟨H1,I1,q1⟩
 |false=>exact hb wh ae s1 σ H1 Q I1 q1
def gL (ha:PT X a tA):PT X (.UnaryOp .Not a pos) (aa1 tA):=by
 intro ae s σ H Q I h;exact isTrue_not (ha ae s σ H (λc H1=>Q (!c) H1) I h)
def Ve (ta tb:TE):TE:=λσ H Q=>ta σ H λx H1=>∃c,x=.bl c/\if c=true then tb σ H1 Q else Q (.bl false) H1
def U8 (ta:TE):TE:=λσ H Q=>ta σ H λx H1=>∃c,x=.bl c/\Q (.bl (!c)) H1
def wK (h:PE X a t):PE X (.BoolOp op [a] pos) t:=λae s σ H Q I hw=>BoolOp_one (h ae s σ H Q I hw)
def wM (ha:PE X a ta)(hb:PE X (.BoolOp .And (b::fK) pos) tb):PE X (.BoolOp .And (a::b::fK) pos) (Ve ta tb):=by
 intro ae s σ H Q I h;apply BoolOp_and (bM (ha ae s σ H _ I h) λv s1 ⟨x,H1,I1,r1,q1⟩=>?_);let⟨c,rfl,q1⟩:=q1;cases r1;apply wpAny_truthy_bool ?_;cases c with
 |true=>exact hb ae s1 σ H1 Q I1 q1
 |false=>exact⟨.bl false,H1,I1,(),q1⟩
def O8 (ha:PE X a ta):PE X (.UnaryOp .Not a pos) (U8 ta):=by
 intro ae s σ H Q I h;apply UnaryOp_ (bM (ha ae s σ H _ I h) λv s1 ⟨x,H1,I1,r1,q1⟩=>?_);let⟨c,rfl,q1⟩:=q1;cases r1;exact not_of (wpAny_truthy_bool ⟨.bl (!c),H1,I1,(),q1⟩)
def tIf (t:TT)(ta tb:TE):TE:=λσ H Q=>t σ H λc H1=>if c=true then ta σ H1 Q else tb σ H1 Q
def uH {c:Expr}(hc:PT X c tA)(ha:PE X a ta)(hb:PE X b tb):PE X (.IfExp c a b pos) (tIf tA ta tb):=by
 intro ae s σ H Q I h;apply wpAny_IfExp (bM (hc ae s σ H _ I h) λd s1 ⟨H1,I1,q1⟩=>?_);cases d with
 |true=>exact ha ae s1 σ H1 Q I1 q1
 |false=>exact hb ae s1 σ H1 Q I1 q1
end
def bG (K:Θ1)(H:Hp)(a:Addr)(xs:List V):Prop :=
 Rd H a (.lst xs) \/
  ∃(o:Obj) (its:Array Value) (n:Nat),K.lookup a=some o/\o.cls=.type "list"/\o.dict=none/\o.data=.seq its n/\its.size<=sizeLine/\bp xs its.toList
def aQ (K:Θ1)(H:Hp)(a:Addr)(xs:List V):Prop :=
 Rd H a (.tup xs) \/
  ∃(o:Obj) (its:Array Value) (n:Nat),K.lookup a=some o/\o.cls=.type "tuple"/\o.data=.seq its n/\its.size<=sizeLine/\bp xs its.toList
def ab8:Value->Option V
 |.none=>some .cj
 |.bool b=>some (.bl b)
 |.int i _=>some (.int i)
 |.str x _=>some (.str x)
 |.bytes b _=>some (.AB b)
 |.float b _=>some (.RO b)
 |.ref a=>some (.ref a)
 |.type n=>some (.ty n)
 |_=>none
def RelV.abs (r:RelV x u):ab8 u=some x:=by
 cases x with
 |cj=>cases r;rfl
 |bl _=>cases r;rfl
 |int _=>let⟨t,rfl⟩:=r;rfl
 |str _=>let⟨t,rfl⟩:=r;rfl
 |AB _=>let⟨t,rfl⟩:=r;rfl
 |RO _=>let⟨t,rfl⟩:=r;rfl
 |ref _=>cases r;rfl
 |ty _=>cases r;rfl
def RelV.inj {x y:V}{u:Value}(r:RelV x u)(q:RelV y u):x=y:=Option.some.inj (r.abs.symm.trans q.abs)
theorem bp.inj:∀{xs ys:List V}{us:Δ3},bp xs us->bp ys us->xs=ys
 |_,_,_,.nil,.nil=>rfl
 |_,_,_,.cons r t,.cons r' t'=>by rw[r.inj r',bp.inj t t']
section
variable {X:Cx}{ae:Γ2}{σ:St}{H:Hp}{s:Shared}{a:Addr}{xs ys:List V}
def bG.of {K:Θ1}(h:H a=some (.lst xs)):bG K H a xs:=.inl (.inl h)
def aQ.of {K:Θ1}(h:H a=some (.tup xs)):aQ K H a xs:=.inl (.inl h)
def Inv.list (I:Inv X ae σ H s)(h:bG X.K H a xs):∃its:Δ3,bp xs its/\PlainL s.heap a its.toArray/\xs.length<=sizeLine:=by
 rcases h with h |⟨o,its,n,hk,hc,hd,hs,hz,r⟩
 .obtain⟨z,its,n,r,e⟩:=h.ok I.cb;exact⟨its,r,⟨_,n,e,(),(),()⟩,z⟩
 .apply⟨its.toList,r,⟨o,n,I.sT a o hk,hc,hd,by simpa using hs⟩,?_⟩;let e:=r.length;simp only[Array.length_toList] at e;omega
def Inv.tuple (I:Inv X ae σ H s)(h:aQ X.K H a xs):∃its:Δ3,bp xs its/\IsTup s.heap a its.toArray/\xs.length<=sizeLine:=by
 rcases h with h |⟨o,its,n,hk,hc,hs,hz,r⟩
 .obtain⟨z,its,r,p⟩:=h.ok I.cb;exact⟨its,r,p,z⟩
 .apply⟨its.toList,r,⟨o,I.sT a o hk,hc,n,by simpa using hs⟩,?_⟩;let e:=r.length;simp only[Array.length_toList] at e;omega
def Inv.uO (I:Inv X ae σ H s)(h:bG X.K H a xs)(h':bG X.K H a ys):xs=ys:=by
 let⟨its,r,⟨o,n,e,_,_,d⟩,_⟩:=I.list h;let⟨its',r',⟨o',n',e',_,_,d'⟩,_⟩:=I.list h';rw[e] at e';cases e';rw[d] at d';injection d' with d1 _
 have:its=its':=by simpa using congrArg Array.toList d1
 subst this;exact r.inj r'
def Inv.ja (I:Inv X ae σ H s)(h:aQ X.K H a xs)(h':aQ X.K H a ys):xs=ys:=by
 let⟨its,r,⟨o,e,_,n,d⟩,_⟩:=I.tuple h;let⟨its',r',⟨o',e',_,n',d'⟩,_⟩:=I.tuple h';rw[e] at e';cases e';rw[d] at d';injection d' with d1 _
 have:its=its':=by simpa using congrArg Array.toList d1
 subst this;exact r.inj r'
end
abbrev Cx.wish (X:Cx)(E:Θ2):Cx:={ X with xe:=E }
abbrev Cx.Ro (X:Cx):Cx:=X.wish λ_ _=>False
def Cx.Ok.wish {X:Cx}(ok:X.Ok)(E:Θ2):(X.wish E).Ok :=
 ⟨ok.mod,ok.kind,ok.glob,ok.blt,ok.above,ok.inj,ok.has,ok.S7,ok.hd,ok.frames,ok.Wu,ok.WZ,ok.bs,ok.KU,ok.C5,ok.Dh,ok.nk,ok.RN⟩
def Cx.Ok.iD {X:Cx}{E:Θ2}(ok:(X.wish E).Ok):X.Ok :=
 ⟨ok.mod,ok.kind,ok.glob,ok.blt,ok.above,ok.inj,ok.has,ok.S7,ok.hd,ok.frames,ok.Wu,ok.WZ,ok.bs,ok.KU,ok.C5,ok.Dh,ok.nk,ok.RN⟩
section
variable {X:Cx}{ae:Γ2}{σ:St}{H:Hp}{s:Shared}{E:Θ2}
def Inv.wish (I:Inv X ae σ H s)(E:Θ2):Inv (X.wish E) ae σ H s:=⟨I.ok.wish E,I.os,I.bare,I.base,I.loc,I.cell,I.free,I.jy,I.pin,I.cb,I.len⟩
def Inv.iD (I:Inv (X.wish E) ae σ H s):Inv X ae σ H s:=⟨I.ok.iD,I.os,I.bare,I.base,I.loc,I.cell,I.free,I.jy,I.pin,I.cb,I.len⟩
def SP.iD (h:SP (X.wish E) ae D f s'):SP X ae D f s':=by
 cases f with
 |next=>let⟨aR,H',I,q⟩:=h;exact⟨aR,H',I.iD,q⟩
 |brk=>let⟨aR,H',I,q⟩:=h;exact⟨aR,H',I.iD,q⟩
 |cont=>let⟨aR,H',I,q⟩:=h;exact⟨aR,H',I.iD,q⟩
 |ret u=>let⟨v,aR,H',I,r,q⟩:=h;exact⟨v,aR,H',I.iD,r,q⟩
def jm.Ro {st:List Stmt}{t:TS}(h:jm X.Ro st t):jm X st t:=λae s σ H D I hw =>
 wpAny_mono (h ae s σ H D (I.wish _) hw) (λ_ _ q=>q.iD) λ_ _ z=>False.elim z
end
section
variable {X:Cx}{st:Stmt}{fK:List Stmt}{t u:TS}{e:Expr}{te:TE}{pos:Pos}
def U9:TS:=λD σ H=>D.nx σ H
def aaZ (t u:TS):TS:=λD σ H=>t { D with nx:=u D } σ H
def pq:jm X [] U9:=λ_ _ σ H _ I h=>wpAny_execs_nil ⟨σ,H,I,h⟩
def d9 (h1:PS X st t)(h2:jm X fK u):jm X (st::fK) (aaZ t u):=by
 intro ae s σ H D I h;apply wpAny_execs_cons (bM (h1 ae s σ H { D with nx:=u D } I h) λf s1 q=>?_);cases f with
 |next =>
  let⟨aR,H',I',q⟩:=q;exact h2 ae s1 aR H' D I' q
 |ret v=>exact q
 |brk=>exact q
 |cont=>exact q
def dY (h1:PS X st t):jm X [st] t:=by
 intro ae s σ H D I h;apply wpAny_execs_cons (bM (h1 ae s σ H D I h) λf s1 q=>?_);cases f with
 |next=>exact wpAny_execs_nil q
 |ret v=>exact q
 |brk=>exact q
 |cont=>exact q
def Inv.quiet (I:Inv X ae σ H s):interactive X.env=false:=by simp[interactive,I.ok.kind]
def Va (te:TE):TS:=λD σ H=>te σ H λ_ H1=>D.nx σ H1
def zn (he:PE X e te)(hs:swapsWith e none pos.line X.env=pure false:=by rfl):PS X (.Expr e pos) (Va te):=by
 intro ae s σ H D I h;exact wpAny_Expr_any (bM (he ae s σ H _ I h) λv s1 ⟨x,H1,I1,r1,q1⟩=>⟨σ,H1,I1,q1⟩) I.quiet hs
def Tn (te:TE):TS:=λD σ H=>te σ H D.rt
def gc (he:PE X e te):PS X (.Return (some e) pos) (Tn te):=by
 intro ae s σ H D I h;exact wpAny_Return_some (bM (he ae s σ H _ I h) λv s1 ⟨x,H1,I1,r1,q1⟩=>⟨x,σ,H1,I1,r1,q1⟩)
def aa3 (c:TT)(t u:TS):TS:=λD σ H=>c σ H λb H1=>if b=true then t D σ H1 else u D σ H1
def ph {c:Expr}{a b:List Stmt}(hc:PT X c tc)(ha:jm X a t)(hb:jm X b u):PS X (.If c a b pos) (aa3 tc t u):=by
 intro ae s σ H D I h;apply wpAny_If (bM (hc ae s σ H _ I h) λd s1 ⟨H1,I1,q1⟩=>?_);cases d with
 |true=>exact ha ae s1 σ H1 D I1 q1
 |false=>exact hb ae s1 σ H1 D I1 q1
end
abbrev TG:=V->St->Hp->(St->Hp->Prop)->Prop
abbrev M9:=List V->St->Hp->(St->Hp->Prop)->Prop
def PG (X:Cx)(Oy:Expr)(t:TG):Prop :=
 ∀(ae:Γ2) (s:Shared) (σ:St) (H:Hp) (v:V) (u:Value) (Q:St->Hp->Prop),Inv X ae σ H s->RelV v u->t v σ H Q ->
  wpAny (model X.prog X.w) X.A (assign Oy X.env u) (λ_ s'=>∃aR H',Inv X ae aR H' s'/\Q aR H') X.xe s
def vK (X:Cx)(ts:Ξ2)(t:M9):Prop :=
 ∀(ae:Γ2) (s:Shared) (σ:St) (H:Hp) (vs:List V) (us:Δ3) (Q:St->Hp->Prop),Inv X ae σ H s->bp vs us->t vs σ H Q ->
  wpAny (model X.prog X.w) X.A (assignInOrder ((assignEach ts X.env).map (·.2)) us) (λ_ s'=>∃aR H',Inv X ae aR H' s'/\Q aR H') X.xe s
abbrev N1:=V->V->V->Hp->(Hp->Prop)->Prop
def N3 (X:Cx)(t:N1):Prop :=
 ∀(ae:Γ2) (s:Shared) (σ:St) (H:Hp) (o i v:V) (ov iv u:Value) (Q:Hp->Prop),Inv X ae σ H s->RelV o ov->RelV i iv->RelV v u->t o i v H Q ->
  wpAny (model X.prog X.w) X.A (setItem ov iv u) (λ_ s'=>∃H',Inv X ae σ H' s'/\Q H') X.xe s
abbrev W6:=V->V->Hp->VK->Prop
def RV (X:Cx)(op:Operator)(t:W6):Prop :=
 ∀(ae:Γ2) (s:Shared) (σ:St) (H:Hp) (x y:V) (v u:Value) (Q:VK),Inv X ae σ H s->RelV x v->RelV y u->t x y H Q ->
  wpAny (model X.prog X.w) X.A (inplaceOp op v u) (EP X ae σ Q) X.xe s
section
variable {X:Cx}{pos:Pos}
def eZ (i:Nat):TG:=λv σ H Q=>Q (σ.set i (some v)) H
def iT (hN:X.N.Nodup)(hi:X.N[i]?=some x)(hx:Loc X.env.scope x)(hf:X.fn x=true\/X.env.scope.names.lookup x=some .local:=by first |exact .inl rfl |exact .inr rfl |assumption):PG X (.Name x pos) (eZ i):=by
 intro ae s σ H v u Q I r h;exact wpAny_assign_Name (fe I hN hi hx r (λs' I'=>⟨_,H,I',h⟩) hf)
def UD:M9:=λvs σ H Q=>vs=[]/\Q σ H
def DL (t:TG)(u:M9):M9:=λvs σ H Q=>∃v r,vs=v::r/\t v σ H λaR H'=>u r aR H' Q
def gU:vK X [] UD:=by
 intro ae s σ H vs us Q I r h;let⟨e,h⟩:=h;subst e;cases r;exact assignInOrder_nil ⟨σ,H,I,h⟩
def ye {e:Expr}{es:Ξ2}(h1:PG X e t)(h2:vK X es u)
  (hs:(assignEach (e::es) X.env).map (·.2)=assign e X.env::(assignEach es X.env).map (·.2):=by rfl):vK X (e::es) (DL t u):=by
 intro ae s σ H vs us Q I r h;let⟨v,vr,e1,h⟩:=h;subst e1;cases r with
 |cons r rr =>
  rw[hs];apply assignInOrder_cons (bM (h1 ae s σ H _ _ _ I r h) λ_ s1 ⟨Kt,H1,I1,q1⟩=>?_);exact h2 ae s1 Kt H1 _ _ Q I1 rr q1
def NQ (K:Θ1)(n:Nat)(t:M9):TG:=λv σ H Q=>∃a xs,v=.ref a/\aQ K H a xs/\xs.length=n/\t xs σ H Q
def OX (hc:X.calm=true)(h:vK X es t)
  (hn:(assignEach es X.env).length=n:=by rfl) (m4:(assignEach es X.env).findIdx? (·.1)=none:=by rfl):PG X (.Tuple es k pos) (NQ X.K n t):=by
 intro ae s σ H v u Q I r hw;let⟨a,xs,e1,hq,hl,hw⟩:=hw;subst e1;cases r;let⟨its,rv,ht,hz⟩:=I.tuple hq;apply assign_Tuple_tuple (I.ok.hd hc) ht (by simp[hn,<- hl,rv.length]) m4 λh' hx=>?_
 let I1:Inv X ae σ H { s with heap:=h' }:=I.kept (t':=s.toks) λb o e=>hx b o (Ye (Zr e)) e
 exact h ae _ σ H xs _ Q I1 (by simpa using rv) hw
def abV (to ti:TE)(t:N1):TG:=λv σ H Q=>to σ H λo H1=>ti σ H1 λi H2=>t o i v H2 λH3=>Q σ H3
def wJ {o i:Expr}{to ti:TE}(ho:PE X o to)(hi:PE X i ti)(hs:N3 X t)
  (ha:∀v,assign (.Subscript o i pos) X.env v=(do
   let ov <- holding [v] (eval o X.env);let iv <- holding [v,ov] (eval i X.env)
   standAt pos
   holding [v,ov,iv] (setItem ov iv v)
   release [v,ov,iv] []):=by intro _;rfl):PG X (.Subscript o i pos) (abV to ti t):=by
 intro ae s σ H v u Q I r h;rw[ha];apply Za (wpAny_holding (bM (ho ae s σ H _ I h) λov s1 ⟨x,H1,I1,r1,q1⟩=>?_));apply Za (wpAny_holding (bM (hi ae s1 σ H1 _ I1 q1) λiv s2 ⟨y,H2,I2,r2,q2⟩=>?_));apply Za (wpAny_standAt (Za (wpAny_holding (bM (hs ae s2 σ H2 x y v ov iv u _ I2 r1 r2 r q2) λ_ s3 ⟨H3,I3,q3⟩=>?_))));exact wpAny_release ⟨σ,H3,I3,q3⟩
def CZ (te:TE)(g:TG):TS:=λD σ H=>te σ H λx H1=>g x σ H1 D.nx
def jI {tg e:Expr}{te:TE}(he:PE X e te)(hg:PG X tg g)(hs:swapsWithSole [tg] e pos.line X.env=pure false:=by rfl)(hw:swappedStores [tg] e X.env=pure none:=by rfl)
  (h1:(assignEach [tg] X.env).map (·.2)=[assign tg X.env]:=by rfl):PS X (.Assign [tg] e pos) (CZ te g):=by
 intro ae s σ H D I h;apply wpAny_Assign_stores (bM (he ae s σ H _ I h) λv s1 ⟨x,H1,I1,r1,q1⟩=>?_) hs hw;rw[h1];exact bM (hg ae s1 σ H1 x v _ I1 r1 q1) λ_ s2 q=>q
def k9 {i:Nat}{x:Str}(hN:X.N.Nodup)(hi:X.N[i]?=some x)(hx:Loc X.env.scope x)(he:PE X e te)(hs:swapsWith e (some (.Name x lh)) pos.line X.env=pure false:=by rfl)(hf:X.fn x=true\/X.env.scope.names.lookup x=some .local:=by first |exact .inl rfl |exact .inr rfl |assumption) :
  PS X (.Assign [.Name x lh] e pos) (CZ te (eZ i)):=by
 intro ae s σ H D I h;apply wpAny_Assign_Name (bM (he ae s σ H _ I h) λv s1 ⟨y,H1,I1,r1,q1⟩=>?_) hs;exact fe I1 hN hi hx r1 (λs2 I2=>⟨_,H1,I2,q1⟩) hf
def aa0 (i j:Nat)(ta:TA):TS:=λD σ H=>ta σ H λvs H1=>∃v w,vs=[v,w]/\D.nx ((σ.set i (some v)).set j (some w)) H1
def rg {i j:Nat}{x y:Str}(hc:X.calm=true)(hN:X.N.Nodup)(hi:X.N[i]?=some x)(hj:X.N[j]?=some y)(ZT:i≠j)
  (hx:X.env.scope.names.lookup x=some .local) (hy:X.env.scope.names.lookup y=some .local) (ha:PA X [a,b] ta)
  (hw:swappedStores [.Tuple [.Name x px,.Name y py] kt pt] (.Tuple [a,b] k2 pt2) X.env=pure (some [x,y]))
  (hs:swapsWithSole [.Tuple [.Name x px,.Name y py] kt pt] (.Tuple [a,b] k2 pt2) pos.line X.env=pure false:=by rfl) :
  PS X (.Assign [.Tuple [.Name x px,.Name y py] kt pt] (.Tuple [a,b] k2 pt2) pos) (aa0 i j ta):=by
 intro ae s σ H D I h;rw[exec_Assign_arm];apply Za (wpAny_standAt ?_);rw[hs];apply Za (wpAny_pure ?_);rw[if_neg ∅];apply Za (Tuple_ (bM (ha _ ae s σ H _ I h) λus s1 ⟨vs,H1,I1,r1,q1⟩=>?_));let⟨v,w,e1,q1⟩:=q1;subst e1;obtain⟨u1,u2,rfl,rv,Au⟩:∃u1 u2,us=[u1,u2]/\RelV v u1/\RelV w u2:=by
  cases r1 with
  |cons p q =>
   cases q with
   |cons p' q' =>
    cases q'
    exact⟨_,_,(),p,p'⟩
 apply wpAny_newObj_type ?_ (by show 2<=sizeLine;decide);let I2:Inv X ae σ H1 { s1 with heap:=s1.heap.push { cls:=.type "tuple",data:=.seq [u1,u2].toArray } }:=I1.kept (t':=s1.toks) λb o e=>Zn _ e
 rw[hw];apply Za (wpAny_pure ?_);show wpAny (model X.prog X.w) X.A (do rule "assign.swapped-stores";let items <- unpackItems (.ref s1.heap.objs.size) 2 none;assignInOrder [λv=>bindName X.env y v,λv=>bindName X.env x v] items.reverse;pure Flow.next) _ _ _;apply Za (wpAny_rule (Za (unpackItems_tuple (items:=#[u1,u2]) (I.ok.hd hc) (IsTup.new s1.heap _) λh' vE=>?_)));let I3:=I2.kept (h':=h') (t':=s1.toks) λb o e=>vE b o (Ye (Zr e)) e
 show wpAny _ _ (assignInOrder [λv=>bindName X.env y v,λv=>bindName X.env x v] [u2,u1] >>= λ_=>pure Flow.next) _ _ _;apply Za (assignInOrder_cons (wpAny_bindName (fe I3 hN hj (.inl hy) Au (λs2 I4=>?_) (.inr hy))));apply assignInOrder_cons (wpAny_bindName (fe I4 hN hi (.inl hx) rv (λs3 I5=>assignInOrder_nil (wpAny_pure ?_)) (.inr hx)));rw[List.set_comm _ _ (Ne.symm ZT)] at I5;exact⟨_,H1,I5,q1⟩
def aa6 (i:Nat)(te:TE)(ti:W6):TS:=λD σ H=>∃x,σ[i]?=some (some x)/\te σ H λy H1=>ti x y H1 λz H2=>D.nx (σ.set i (some z)) H2
def OW {i:Nat}{x:Str}(hN:X.N.Nodup)(hi:X.N[i]?=some x)(hx:Loc X.env.scope x)(he:PE X e te)(ho:RV X op ti)(hf:X.fn x=true\/X.env.scope.names.lookup x=some .local:=by first |exact .inl rfl |exact .inr rfl |assumption) :
  PS X (.AugAssign (.Name x lh) op e pos) (aa6 i te ti):=by
 intro ae s σ H D I h;let⟨v,e1,h⟩:=h;let⟨m,hn,hl⟩:=I.loc;let vis:Td X.env.scope x:=by rcases hx with k |k;exact .inl k;exact .inr (.inl k)
 let⟨u,r,l⟩:=hl i x v hi e1 vis;apply wpAny_AugAssign_Name ?_;let go:wpAny (model X.prog X.w) X.A (eval e X.env) (λw df=>wpAny (model X.prog X.w) X.A (inplaceOp op u w) (λr iA=>wpAny (model X.prog X.w) X.A (storeName X.env x r) (λ_=>SP X ae D .next) X.xe iA) X.xe df) X.xe s:=by
  apply bM (he ae s σ H _ I h) λw s1 ⟨y,H1,I1,r1,q1⟩=>?_
  apply bM (ho ae s1 σ H1 v y u w _ I1 r r1 q1) λz s2 ⟨zv,H2,I2,r2,q2⟩=>?_
  exact fe I2 hN hi hx r2 (λs3 I3=>⟨_,H2,I3,q2⟩) hf
 rcases l with ⟨hk,hm⟩ |⟨hk,c,hc,yF⟩
 .exact wpAny_loadName_local I.ok.kind hk hn hm go
 .rcases hk with hk |hk
  .exact wpAny_loadName_cell I.ok.kind hk hc yF go
  .rcases hx with k |k
   .have:X.env.scope.names.lookup x=some .free:=hk;rw[k] at this;cases this
   .have:X.env.scope.names.lookup x=some .free:=hk;rw[k] at this;cases this
def Vd (to ti te:TE)(Nk:V->V->Hp->VK->Prop)(XT:W6)(Ni:N1):TS:=λD σ H=>to σ H λo H1=>ti σ H1 λi H2=>Nk o i H2 λx H3=>te σ H3 λy H4=>XT x y H4 λz H5=>Ni o i z H5 λH6=>D.nx σ H6
def UR (X:Cx)(t:V->V->Hp->VK->Prop):Prop :=
 ∀(ae:Γ2) (s:Shared) (σ:St) (H:Hp) (o i:V) (ov iv:Value) (Q:VK),Inv X ae σ H s->RelV o ov->RelV i iv->t o i H Q ->
  wpAny (model X.prog X.w) X.A (getItem ov iv) (EP X ae σ Q) X.xe s
def Jl {o i e:Expr}{to ti te:TE}(ho:PE X o to)(hi:PE X i ti)(hg:UR X Nk)(he:PE X e te)(hp:RV X op XT)(hs:N3 X Ni)
  (ha:∀ov iv new,augStore i ov iv new=(do holding [new,ov,iv] (setItem ov iv new);release [new,ov,iv] [];pure .next):=by intros;rfl):PS X (.AugAssign (.Subscript o i qH) op e pos) (Vd to ti te Nk XT Ni):=by
 intro ae s σ H D I h;apply wpAny_AugAssign_SubscriptAny (bM (ho ae s σ H _ I h) λov s1 ⟨x1,H1,I1,r1,q1⟩=>?_) ha;apply bM (hi ae s1 σ H1 _ I1 q1) λiv s2 ⟨x2,H2,I2,r2,q2⟩=>?_
 apply bM (hg ae s2 σ H2 x1 x2 ov iv _ I2 r1 r2 q2) λold s3 ⟨x3,H3,I3,r3,q3⟩=>?_
 apply bM (he ae s3 σ H3 _ I3 q3) λv s4 ⟨x4,H4,I4,r4,q4⟩=>?_
 apply bM (hp ae s4 σ H4 x3 x4 old v _ I4 r3 r4 q4) λnew s5 ⟨x5,H5,I5,r5,q5⟩=>?_
 exact bM (hs ae s5 σ H5 x1 x2 x5 ov iv new _ I5 r1 r2 r5 q5) λ_ s6 ⟨H6,I6,q6⟩=>⟨σ,H6,I6,q6⟩
def YS (f:Int->Int->Int):W6:=λx y H Q=>∃i j,x=.int i/\y=.int j/\Q (.int (f i j)) H
def Ey:RV X .Add (YS λi j=>i+j):=by
 intro ae s σ H x y v u Q I r1 r2 h;let⟨i,j,e1,e2,q⟩:=h;subst e1;subst e2;let⟨t,rfl⟩:=r1;let⟨t',rfl⟩:=r2;exact iadd_int ⟨.int _,H,I.tok _,⟨_,()⟩,q⟩
def wW:RV X .Sub (YS λi j=>i-j):=by
 intro ae s σ H x y v u Q I r1 r2 h;let⟨i,j,e1,e2,q⟩:=h;subst e1;subst e2;let⟨t,rfl⟩:=r1;let⟨t',rfl⟩:=r2;exact isub_int ⟨.int _,H,I.tok _,⟨_,()⟩,q⟩
def D1 (c:TT)(tb:TS):TS:=λD σ H=>∃W:Nat->St->Hp->Prop,(∃m,W m σ H)/\∀m σ H,W m σ H ->
 c σ H λb H1=>if b=true then ∃N:St->Hp->Prop,(∀aR H',N aR H'->∃m',m'<m/\W m' aR H')/\tb { D with nx:=N,ct:=N,bk:=D.nx } σ H1 else D.nx σ H1
def kM {c:Expr}{body:List Stmt}(hp:PassesOwn (model X.prog X.w) X.A X.env X.xe)(hc:PT X c tc)(hb:jm X body tb):PS X (.While c body [] pos) (D1 tc tb):=by
 intro ae s σ H D I h;let⟨W,⟨m0,w0⟩,v9⟩:=h;apply wpAny_While (codeAny_whileLoop (λn s'=>∃aR H',Inv X ae aR H' s'/\W n aR H') ?_ m0 ⟨σ,H,I,w0⟩);rintro n s1 ⟨Kt,H1,I1,w1⟩;apply wpAny_passesOwn hp (bM (hc ae s1 Kt H1 _ I1 (v9 n Kt H1 w1)) λb s2 ⟨H2,I2,q2⟩=>?_);cases b with
 |true =>
  let⟨N,hN,q2⟩:=q2;rw[if_pos rfl];apply wpAny_passesOwn hp (bM (hb ae s2 Kt H2 _ I2 q2) λf s3 q3=>?_);cases f with
  |next =>
   let⟨ga,H3,I3,n3⟩:=q3;let⟨m',hm,w3⟩:=hN ga H3 n3;exact⟨m',hm,ga,H3,I3,w3⟩
  |cont =>
   let⟨ga,H3,I3,n3⟩:=q3;let⟨m',hm,w3⟩:=hN ga H3 n3;exact⟨m',hm,ga,H3,I3,w3⟩
  |brk=>exact q3
  |ret v=>exact q3
 |false =>
  rw[if_neg Z4];exact wpAny_execs_nil ⟨Kt,H2,I2,q2⟩
end
structure It where
 go:Nat->Hp->Prop
 sS:Nat->Hp->V->Hp->Prop
 stop:Nat->Hp->Prop
def eR (X:Cx)(ae:Γ2)(H:Hp)(b:Addr):Prop :=
 H b=none/\b≠X.env.locals/\b∉X.fs/\(b∈X.ex\/X.eV.heap.objs.size<=b)/\(∀x c,X.env.cells.lookup x=some c->c≠b)/\∀p∈X.pn++ae,p.1≠b
def Inv.ju (I:Inv X ae σ H s)(hb:s.heap.objs.size<=b)(hn:H' b=none):eR X ae H' b:=by
 apply⟨hn,Xv (Yl I.lt hb),I.abo hb,.inr (Zl I.sz hb),λx c e z=>?_,λp hp z=>?_⟩
 .obtain⟨v,q⟩:=I.cell x c e;exact absurd (Yl q.lt (by rw[z];exact hb)) (Ym _)
 .exact absurd (Yl (Zr (I.pin p hp).1) (by rw[z];exact hb)) (Ym _)
structure Turn (P:Program)(w:World)(K:Θ1)(tg:Expr)(J:It)(fp:List Addr)(it:Addr)(tn:Nat->Heap->Prop):Prop where
 mem:it∈fp
 obj:∀i h,tn i h->∀b∈fp,∃o,h.get? b=some o/\∀v,o.data≠.cell v
 keep:∀i h h',tn i h->(∀b∈fp,∀o,h.get? b=some o->h'.get? b=some o)->tn i h'
 item:∀(X:Cx),X.prog=P->X.w=w->X.K=K->X.calm=true->∀(i:Nat) (ae:Γ2) (s:Shared) (σ:St) (H:Hp) (E:Θ2),Inv X ae σ H s->(∀b∈fp,eR X ae H b)->tn i s.heap->J.go i H ->
  wpAny (model P w) X.A (pyNext (.ref it)) (λr s1=>∃u,r=some u /\
   wpAny (model P w) X.A (letOwnedTupleGo tg (.ref it) u) (λ_ s2=>∃x H',Inv X ae σ H' s2/\RelV x u/\J.sS i H x H'/\tn (i+1) s2.heap/\∀b∈fp,H' b=none) E s1) E s
 done:∀(X:Cx),X.prog=P->X.w=w->X.K=K->X.calm=true->∀(i:Nat) (ae:Γ2) (s:Shared) (σ:St) (H:Hp) (E:Θ2),Inv X ae σ H s->(∀b∈fp,eR X ae H b)->tn i s.heap->J.stop i H ->
  wpAny (model P w) X.A (pyNext (.ref it)) (λr s1=>r=none/\Inv X ae σ H s1) E s
 self:∀(A:Around) (i:Nat) (s:Shared) (Q:Θ2) (E:Θ2),tn i s.heap->Q (.ref it) s->wpAny (model P w) A (pyIter (.ref it)) Q E s
abbrev TI:=St->Hp->(It->Hp->Prop)->Prop
def PIE (X:Cx)(ae:Γ2)(σ:St)(tg:Expr)(R:It->Hp->Prop)(G8:Value)(s2:Shared):Prop :=
 ∃(it:Addr) (fp:List Addr) (tn:Nat->Heap->Prop) (J:It) (H':Hp),G8=.ref it/\Inv X ae σ H' s2/\Turn X.prog X.w X.K tg J fp it tn/\tn 0 s2.heap/\(∀b∈fp,eR X ae H' b)/\R J H'
def PI (X:Cx)(tg iter:Expr)(wi:TI):Prop :=
 ∀(ae:Γ2) (s:Shared) (σ:St) (H:Hp) (R:It->Hp->Prop),Inv X ae σ H s->wi σ H R ->
  wpAny (model X.prog X.w) X.A (eval iter X.env) (λv s1=>wpAny (model X.prog X.w) X.A (pyIter v) (PIE X ae σ tg R) X.xe s1) X.xe s
def uj (ho:s.heap.get? it=some o)(hc:o.cls=.type n)(hd:o.data=.fields vs)
  (hn:["enumerate","zip","dict_itemiterator","dict_reverseitemiterator","odict_iterator","itertools.zip_longest","itertools.pairwise"].contains n=false) (hQ:Q ⟨⟩ s):wpAny M A (letOwnedTupleGo tg (.ref it) u) Q E s:=by
 unfold letOwnedTupleGo;cases tg<;>first
  |exact wpAny_pure hQ
  |(cases u<;>first
    |exact wpAny_pure hQ
    |(apply Za (wpAny_load ho ?_);rw[hc,hd];show wpAny M A (if (["enumerate","zip","dict_itemiterator","dict_reverseitemiterator","odict_iterator","itertools.zip_longest","itertools.pairwise"].contains n&&vs[0]? == some (rawInt _))=true then _ else _) Q E s;rw[if_neg (by intro h;rw[hn,Bool.false_and] at h;cases h)];exact wpAny_pure hQ))
def AF (K:Θ1)(a:Addr):It :=
 ⟨λi H=>∃xs x,bG K H a xs/\xs[i]?=some x,λi H x H'=>H'=H/\∀xs,bG K H a xs->xs[i]?=some x,λi H=>∃xs,bG K H a xs/\xs.length<=i⟩
def AE (K:Θ1)(a:Addr):It :=
 ⟨λi H=>∃xs x,aQ K H a xs/\xs[i]?=some x,λi H x H'=>H'=H/\∀xs,aQ K H a xs->xs[i]?=some x,λi H=>∃xs,aQ K H a xs/\xs.length<=i⟩
def R0 (lo:Int)(n:Nat):It:=⟨λi _=>i<n,λi H x H'=>H'=H/\x=.int (lo+i),λi _=>n<=i⟩
def pM {P:Program}{w:World}{K:Θ1}(a it:Addr):Turn P w K tg (AF K a) [it] it (λi h=>h.IsListIter it a i) where
 mem:=by simp
 obj:=λi h st b hb=>by
  let e:b=it:=by simpa using hb
  subst e;let⟨o,e,c,d⟩:=st;exact⟨o,e,λv z=>by rw[d] at z;cases z⟩
 keep:=λi h h' st k=>st.at λo e=>k it (by simp) o e
 item:=by
  intro X hP hw hK hc i ae s σ H E I hf st hg;subst hP hw hK;let⟨xs,x,hq,hx⟩:=hg;let⟨its,rv,p,hz⟩:=I.list hq;let⟨u,hu,ru⟩:=rv.get hx;let⟨f0,f1,f2,f3,f4,f5⟩:=hf it (by simp);apply wpAny_pyNext_list_item st p.isList (x:=u) (by simpa using hu) λh' pf sb=>?_
  let I1:Inv X ae σ H { s with heap:=h' }:=I.turned (t':=s.toks) (λb o hb e=>(sb.2 b hb).trans e) f0 f1 f3 f4 f5;let⟨o,e,c,d⟩:=id pf;exact⟨u,(),uj (s:={ s with heap:=h' }) e c d ∅ ⟨x,H,I1,ru,⟨rfl,λys hy=>by rw[I.uO hy hq];exact hx⟩,pf,λb hb=>(hf b hb).1⟩⟩
 done:=by
  intro X hP hw hK hc i ae s σ H E I hf st hg;subst hP hw hK;let⟨xs,hq,hx⟩:=hg;let⟨its,rv,p,hz⟩:=I.list hq;let⟨f0,f1,f2,f3,f4,f5⟩:=hf it (by simp);let hl:=rv.length;exact wpAny_pyNext_list_end (I.ok.hd hc) st p.isList (by simp;omega) λh' eb=>⟨(),I.turned (t':=s.toks) (λb o hb e=>eb b o hb e) f0 f1 f3 f4 f5⟩
 self:=λ_ _ _ _ _ st h=>wpAny_pyIter_listiter st h
def oB {P:Program}{w:World}{K:Θ1}(a it:Addr):Turn P w K tg (AE K a) [it] it (λi h=>h.IsTupleIter it a i) where
 mem:=by simp
 obj:=λi h st b hb=>by
  let e:b=it:=by simpa using hb
  subst e;let⟨o,e,c,d⟩:=st;exact⟨o,e,λv z=>by rw[d] at z;cases z⟩
 keep:=λi h h' st k=>st.at λo e=>k it (by simp) o e
 item:=by
  intro X hP hw hK hc i ae s σ H E I hf st hg;subst hP hw hK;let⟨xs,x,hq,hx⟩:=hg;let⟨its,rv,p,hz⟩:=I.tuple hq;let⟨u,hu,ru⟩:=rv.get hx;let⟨f0,f1,f2,f3,f4,f5⟩:=hf it (by simp);apply wpAny_pyNext_tuple_item st (show s.heap.IsTuple a its.toArray from p) (x:=u) (by simpa using hu) λh' pf sb=>?_
  let I1:Inv X ae σ H { s with heap:=h' }:=I.turned (t':=s.toks) (λb o hb e=>(sb.2 b hb).trans e) f0 f1 f3 f4 f5;let⟨o,e,c,d⟩:=id pf;exact⟨u,(),uj (s:={ s with heap:=h' }) e c d ∅ ⟨x,H,I1,ru,⟨rfl,λys hy=>by rw[I.ja hy hq];exact hx⟩,pf,λb hb=>(hf b hb).1⟩⟩
 done:=by
  intro X hP hw hK hc i ae s σ H E I hf st hg;subst hP hw hK;let⟨xs,hq,hx⟩:=hg;let⟨its,rv,p,hz⟩:=I.tuple hq;let⟨f0,f1,f2,f3,f4,f5⟩:=hf it (by simp);let hl:=rv.length;exact wpAny_pyNext_tuple_end (I.ok.hd hc) st (show s.heap.IsTuple a its.toArray from p) (by simp;omega) λh' eb=>⟨(),I.turned (t':=s.toks) (λb o hb e=>eb b o hb e) f0 f1 f3 f4 f5⟩
 self:=λ_ _ _ _ _ st h=>wpAny_pyIter_tupleiter st h
def xl {P:Program}{w:World}{K:Θ1}(it:Addr)(lo:Int)(n:Nat):Turn P w K tg (R0 lo n) [it] it (λi h=>IsRangeIter h it (lo+(i:Nat)*1) ((n:Int)-(i:Nat)) 1) where
 mem:=by simp
 obj:=λi h st b hb=>by
  let e:b=it:=by simpa using hb
  subst e;exact⟨_,st,λv z=>by
   let z':Data.fields _=Data.cell v:=z;cases z'⟩
 keep:=λi h h' st k=>k it (by simp) _ st
 item:=by
  intro X hP hw hK hc i ae s σ H E I hf st hg;subst hP hw hK;let⟨f0,f1,f2,f3,f4,f5⟩:=hf it (by simp);let W:=Walks.range (prog:=X.prog) (w:=X.w) (I.ok.hd hc) it lo 1 n;apply W.item i s _ _ hg st λv h' tk hv pf kk=>?_
  let⟨t,rfl⟩:=hv;let I1:Inv X ae σ H { s with heap:=h',toks:=tk }:=I.turned (λb o hb e=>kk b o (by simpa using hb) e) f0 f1 f3 f4 f5;apply⟨_,(),uj (s:={ s with heap:=h',toks:=tk }) (n:="range_iterator") pf rfl rfl ∅ ⟨.int (lo+i),H,I1,⟨t,?_⟩,⟨(),()⟩,pf,λb hb=>(hf b hb).1⟩⟩;rw[Int.mul_one]
 done:=by
  intro X hP hw hK hc i ae s σ H E I hf st hg;subst hP hw hK;let⟨f0,f1,f2,f3,f4,f5⟩:=hf it (by simp);exact wpAny_pyNext_range_end (I.ok.hd hc) st (by have:n<=i:=hg;omega) λh' eb=>⟨(),I.turned (t':=s.toks) (λb o hb e=>eb b o hb e) f0 f1 f3 f4 f5⟩
 self:=λ_ _ _ _ _ st h=>wpAny_pyIter_rangeiter st h
section
variable {X:Cx}{tg:Expr}
def VV (K:Θ1)(tl:TE):TI:=λσ H R=>tl σ H λx H1=>∃a,x=.ref a/\(∃xs,bG K H1 a xs)/\R (AF K a) H1
def abC (K:Θ1)(tl:TE):TI:=λσ H R=>tl σ H λx H1=>∃a,x=.ref a/\(∃xs,aQ K H1 a xs)/\R (AE K a) H1
def Fd {ae:Γ2}{σ:St}{lo hi:Int}(I:Inv X ae σ H s)(h1:-(2 ^ 62)<=lo)(h2:lo<2 ^ 62)(h3:-(2 ^ 62)<=hi)(h4:hi<2 ^ 62)
  (q:R (R0 lo (hi-lo).toNat) H):wpAny (model X.prog X.w) X.A (pyIter (.ref s.heap.objs.size)) (PIE X ae σ tg R) E { s with heap:=s.heap.push { cls:=.type "range",data:=.fields #[.int lo t,.int hi u,.int 1 v] },toks:=tk }:=by
 apply wpAny_pyIter_range (IsRange.new ..) (small_one h1 h2 h3 h4) ?_;let I1:Inv X ae σ H { s with heap:=s.heap.push { cls:=.type "range",data:=.fields #[.int lo t,.int hi u,.int 1 v] },toks:=tk }:=I.kept λb o e=>Zn _ e
 apply⟨(s.heap.push { cls:=.type "range",data:=.fields #[.int lo t,.int hi u,.int 1 v] }).objs.size,[(s.heap.push { cls:=.type "range",data:=.fields #[.int lo t,.int hi u,.int 1 v] }).objs.size],_,_,H,(),
  I1.kept (t':=tk) λb o e=>Zn _ e,xl _ lo (hi-lo).toNat,?_,λb hb=>?_,q⟩
 .let e1:lo+((0:Nat):Int)*1=lo:=by simp
  let e2:(((hi-lo).toNat:Nat):Int)-((0:Nat):Int)=Builtin.Range.rangeSize lo hi 1:=by rw[rangeSize_one];split<;>omega
  show IsRangeIter _ _ (lo+((0:Nat):Int)*1) ((((hi-lo).toNat:Nat):Int)-((0:Nat):Int)) 1;rw[e1,e2];exact Zz _ rfl
 .let e:b=(s.heap.push { cls:=.type "range",data:=.fields #[.int lo t,.int hi u,.int 1 v] }).objs.size:=by simpa using hb
  subst e;exact I1.ju (Ze _) (I1.cb.fresh (Ze _))
def VU (ta:TA):TI:=λσ H R=>ta σ H λvs H1=>∃j:Int,vs=[.int j]/\-(2 ^ 62)<=j/\j<2 ^ 62/\R (R0 0 j.toNat) H1
def Rq {a:Expr}{ta:TA}(hg:Gl X "range")(hm:X.mg "range"=none)(ha:PA X [a] ta)(hs:starEach [a] X.env=[(false,eval a X.env)]:=by rfl):PI X tg (.Call (.Name "range" p) [a] [] pos) (VU ta):=by
 intro ae s σ H R I h;apply Call_ (fZ I hg hm boot_range (PyProof.Rows.callWith_type1 (bM (ha pos ae s σ H _ I h) λus s1 ⟨vs,H1,I1,r1,q1⟩=>?_) hs rfl));let⟨j,e,q1,q2,q⟩:=q1;subst e;cases r1 with
 |cons r rr =>
  cases rr
  let⟨t,rfl⟩:=r;exact call_range_1 (Fd I1 ⋯ ⋯ q1 q2 (by simpa using q))
def aa4 (wi:TI)(g:TG)(tb:TS):TS:=λD σ H=>wi σ H λJ H1=>∃W:Nat->Nat->St->Hp->Prop,(∃m,W 0 m σ H1)/\∀i m σ H,W i m σ H ->
 (J.stop i H/\D.nx σ H)\/(J.go i H/\∃N:St->Hp->Prop,(∀aR H',N aR H'->∃m',m'<m/\W (i+1) m' aR H')/\∀x H',J.sS i H x H'->g x σ H' λcA H2=>tb { D with nx:=N,ct:=N,bk:=D.nx } cA H2)
def nI (fp:List Addr)(h:Heap):Γ2:=fp.filterMap λb=>(h.get? b).map λo=>(b,o)
def jU (hb:b∈fp)(e:h.get? b=some o):(b,o)∈nI fp h:=List.mem_filterMap.mpr ⟨b,hb,by rw[e];rfl⟩
def Bz (hp:p∈nI fp h):p.1∈fp/\h.get? p.1=some p.2:=by
 let⟨b,hb,e⟩:=List.mem_filterMap.mp hp;cases q:h.get? b with
 |none=>rw[q] at e;cases e
 |some o =>
  rw[q] at e;let e':(b,o)=p:=Option.some.inj e;subst e';exact⟨hb,q⟩
def Inv.pinned (I:Inv X ae σ H s)(hf:∀b∈fp,eR X ae H b)(ho:∀b∈fp,∃o,s.heap.get? b=some o/\∀v,o.data≠.cell v):Inv X (ae++nI fp s.heap) σ H s :=
 I.mF λp hp=>(Zv.mp hp).elim (λz=>I.pin p (Yn _ z)) λz=>by
  let⟨hb,e⟩:=Bz z;let⟨f0,f1,f2,_⟩:=hf p.1 hb;let⟨o,e',d⟩:=ho p.1 hb;rw[e] at e';cases e';exact⟨e,f0,f1,f2,d⟩
def Inv.gx (I:Inv X (ae++pl) σ H s):Inv X ae σ H s:=I.mF λp hp=>I.pin p (Yn _ (Y7 _ hp))
def rj {iter:Expr}{body:List Stmt}(hp:PassesOwn (model X.prog X.w) X.A X.env X.xe)(hc:X.calm=true)(hi:PI X tg iter wi)(hg:PG X tg g)(hb:jm X body tb)
  (hs:∀x,foldedSetIterable iter X.env x=pure x:=by intro _;rfl):PS X (.For tg iter body [] pos) (aa4 wi g tb):=by
 intro ae s σ H D I h;apply wpAny_For (bM (hi ae s σ H _ I h) λv s1 h1=>bM h1 λG8 s2 h2=>?_) hs;let⟨it,fp,tn,J,H2,e,I2,T,fu,f2,W,⟨m0,w0⟩,v9⟩:=h2;subst e;let Nq:∀{H':Hp},(∀b∈fp,H' b=none)->∀b∈fp,eR X ae H' b:=λhn b hb=>⟨hn b hb,(f2 b hb).2⟩
 apply codeAny_forLoop_any (λn s'=>∃i aR H',Inv X ae aR H' s'/\tn i s'.heap/\(∀b∈fp,H' b=none)/\W i n aR H') ?_ m0 ⟨0,σ,H2,I2,fu,λb hb=>(f2 b hb).1,w0⟩;rintro n s3 ⟨i,ga,H3,I3,Sb,fr3,w3⟩;rcases v9 i n ga H3 w3 with ⟨stop,qn⟩ |⟨go,N,hN,step⟩
 .apply wpAny_passesOwn hp (bM (T.done X rfl rfl rfl hc i ae s3 ga H3 X.xe I3 (Nq fr3) Sb stop) λr s4 ⟨hr,I4⟩=>?_);subst hr;exact wpAny_execs_nil ⟨ga,H3,I4,qn⟩
 .apply wpAny_passesOwn hp (bM (T.item X rfl rfl rfl hc i ae s3 ga H3 X.xe I3 (Nq fr3) Sb go) λr s4 ⟨u,hr,h4⟩=>?_);subst hr;apply wpAny_passesOwn hp (bM h4 λ_ s5 ⟨x,H5,I5,r5,y5,sK,WX⟩=>?_);let I5':=I5.pinned (Nq WX) (T.obj _ _ sK);apply wpAny_passesOwn hp (bM (hg _ s5 ga H5 x u _ I5' r5 (step x H5 y5)) λ_ s6 ⟨σ6,H6,I6,q6⟩=>?_);apply wpAny_passesOwn hp (bM (hb _ s6 σ6 H6 _ I6 q6) λf s7 q7=>?_);let again:∀{An:St}{H7:Hp},Inv X (ae++nI fp s5.heap) An H7 s7->N An H7->∃m,m<n/\∃i aR H',Inv X ae aR H' s7/\tn i s7.heap/\(∀b∈fp,H' b=none)/\W i m aR H':=λ{An H7} I7 n7=>by
   let⟨m',hm,w7⟩:=hN An H7 n7;apply⟨m',hm,i+1,An,H7,I7.gx,T.keep _ _ _ sK λb hb o e=>(I7.pin (b,o) (Yn _ (Yn _ (jU hb e)))).1,λb hb=>?_,w7⟩;let⟨o,e,d⟩:=T.obj _ _ sK b hb;exact(I7.pin (b,o) (Yn _ (Yn _ (jU hb e)))).2.1
  cases f with
  |next=>let⟨An,H7,I7,n7⟩:=q7;exact again I7 n7
  |cont=>let⟨An,H7,I7,n7⟩:=q7;exact again I7 n7
  |brk=>let⟨An,H7,I7,q7⟩:=q7;exact⟨An,H7,I7.gx,q7⟩
  |ret v=>let⟨x7,An,H7,I7,r7,q7⟩:=q7;exact⟨x7,An,H7,I7.gx,r7,q7⟩
end
def FY {K:Θ1}{a:Addr}{g:TG}{tb:TS}{D:Ends}(Pv:Nat->St->Hp->Prop)(h0:Pv 0 σ H)(hl:∀i σ H,i<=xs.length->Pv i σ H->bG K H a xs)
  (hs:∀i x σ H,xs[i]?=some x->Pv i σ H->g x σ H λcA H2=>tb { D with nx:=Pv (i+1),ct:=Pv (i+1),bk:=D.nx } cA H2) (hd:∀σ H,Pv xs.length σ H->D.nx σ H) :
  ∃W:Nat->Nat->St->Hp->Prop,(∃m,W 0 m σ H)/\∀i m σ H,W i m σ H ->
   ((AF K a).stop i H/\D.nx σ H)\/((AF K a).go i H/\∃N:St->Hp->Prop,(∀aR H',N aR H'->∃m',m'<m/\W (i+1) m' aR H')/\∀x H',(AF K a).sS i H x H'->g x σ H' λcA H2=>tb { D with nx:=N,ct:=N,bk:=D.nx } cA H2):=by
 apply⟨λi m σ H=>m=xs.length-i/\i<=xs.length/\Pv i σ H,⟨xs.length,by simp,Yb _,h0⟩,?_⟩;rintro i m σ H ⟨rfl,hi,p⟩;let q:=hl i σ H hi p;by_cases cG:i<xs.length
 .apply .inr ⟨⟨xs,xs[i],q,by simp[cG]⟩,Pv (i+1),λaR H' p'=>⟨xs.length-(i+1),⋯,(),cG,p'⟩,λx H' y=>?_⟩;let⟨e,y⟩:=y;subst e;exact hs i x σ _ (y xs q) p
 .let e:i=xs.length:=⋯;subst e;exact .inl ⟨⟨xs,q,Ze _⟩,hd σ H p⟩
def Kf {K:Θ1}{a:Addr}{g:TG}{tb:TS}{D:Ends}(Pv:Nat->St->Hp->Prop)(h0:Pv 0 σ H)(hl:∀i σ H,i<=xs.length->Pv i σ H->aQ K H a xs)
  (hs:∀i x σ H,xs[i]?=some x->Pv i σ H->g x σ H λcA H2=>tb { D with nx:=Pv (i+1),ct:=Pv (i+1),bk:=D.nx } cA H2) (hd:∀σ H,Pv xs.length σ H->D.nx σ H) :
  ∃W:Nat->Nat->St->Hp->Prop,(∃m,W 0 m σ H)/\∀i m σ H,W i m σ H ->
   ((AE K a).stop i H/\D.nx σ H)\/((AE K a).go i H/\∃N:St->Hp->Prop,(∀aR H',N aR H'->∃m',m'<m/\W (i+1) m' aR H')/\∀x H',(AE K a).sS i H x H'->g x σ H' λcA H2=>tb { D with nx:=N,ct:=N,bk:=D.nx } cA H2):=by
 apply⟨λi m σ H=>m=xs.length-i/\i<=xs.length/\Pv i σ H,⟨xs.length,by simp,Yb _,h0⟩,?_⟩;rintro i m σ H ⟨rfl,hi,p⟩;let q:=hl i σ H hi p;by_cases cG:i<xs.length
 .apply .inr ⟨⟨xs,xs[i],q,by simp[cG]⟩,Pv (i+1),λaR H' p'=>⟨xs.length-(i+1),⋯,(),cG,p'⟩,λx H' y=>?_⟩;let⟨e,y⟩:=y;subst e;exact hs i x σ _ (y xs q) p
 .let e:i=xs.length:=⋯;subst e;exact .inl ⟨⟨xs,q,Ze _⟩,hd σ H p⟩
def nX (Pv:St->Hp->Prop)(μ : St->Hp->Nat)(h0:Pv σ H)
  (hs:∀σ H,Pv σ H->c σ H λb H1=>if b=true then tb { D with nx:=λaR H'=>Pv aR H'/\μ aR H' < μ σ H,ct:=λaR H'=>Pv aR H'/\μ aR H' < μ σ H,bk:=D.nx } σ H1 else D.nx σ H1)
  (mono:∀σ H Q Q',(∀b H1,Q b H1->Q' b H1)->c σ H Q->c σ H Q'):D1 c tb D σ H:=by
 apply⟨λm σ H=>m=μ σ H/\Pv σ H,⟨_,(),h0⟩,?_⟩;rintro m σ H ⟨rfl,p⟩;apply mono σ H _ _ (λb H1 q=>?_) (hs σ H p);cases b with
 |true=>exact⟨_,λaR H' ⟨p',l⟩=>⟨_,l,(),p'⟩,q⟩
 |false=>exact q
abbrev R2:=V->V->Hp->VK->Prop
def fq (X:Cx)(f:Value->Value->Sem Value)(r:R2):Prop :=
 ∀(ae:Γ2) (s:Shared) (σ:St) (H:Hp) (x y:V) (v u:Value) (Q:VK),Inv X ae σ H s->RelV x v->RelV y u->r x y H Q ->
  wpAny (model X.prog X.w) X.A (f v u) (EP X ae σ Q) X.xe s
def UnR (X:Cx)(f:Value->Sem Value)(r:V->Hp->VK->Prop):Prop :=
 ∀(ae:Γ2) (s:Shared) (σ:St) (H:Hp) (x:V) (v:Value) (Q:VK),Inv X ae σ H s->RelV x v->r x H Q ->
  wpAny (model X.prog X.w) X.A (f v) (EP X ae σ Q) X.xe s
def ca (X:Cx)(f:Value)(r:List V->Hp->VK->Prop):Prop :=
 ∀(ae:Γ2) (s:Shared) (σ:St) (H:Hp) (xs:List V) (us:Δ3) (Q:VK),Inv X ae σ H s->bp xs us->r xs H Q ->
  wpAny (model X.prog X.w) X.A (call f us) (EP X ae σ Q) X.xe s
def ab9 (X:Cx)(r:V->Hp->(Bool->Hp->Prop)->Prop):Prop :=
 ∀(ae:Γ2) (s:Shared) (σ:St) (H:Hp) (x:V) (v:Value) (Q:Bool->Hp->Prop),Inv X ae σ H s->RelV x v->r x H Q ->
  wpAny (model X.prog X.w) X.A (truthy v) (TP X ae σ Q) X.xe s
def Mm (r:R2)(ta tb:TE):TE:=λσ H Q=>ta σ H λx H1=>tb σ H1 λy H2=>r x y H2 Q
def tUn (r:V->Hp->VK->Prop)(ta:TE):TE:=λσ H Q=>ta σ H λx H1=>r x H1 Q
def rI (C:Int->Int->Prop)(g:Int->Int->V):R2:=λx y H Q=>∃i j,x=.int i/\y=.int j/\C i j/\Q (g i j) H
def Cw (g:Int->Int->V):R2:=λx y H Q=>∃i j,x=.int i/\y=.int j/\Q (g i j) H
def rU (g:Int->V):V->Hp->VK->Prop:=λx H Q=>∃i,x=.int i/\Q (g i) H
section
variable {X:Cx}{a b c:Expr}{ta tb tc:TE}{pos:Pos}
def NZ (ha:PE X a ta)(hb:PE X b tb){ae:Γ2}{s:Shared}{R:V->V->Hp->Prop}(I:Inv X ae σ H s)
  (h:ta σ H λx H1=>tb σ H1 λy H2=>R x y H2) {f:Value->Value->Sem Value}
  (hf:∀v u s2 x y H2,Inv X ae σ H2 s2->RelV x v->RelV y u->R x y H2->wpAny (model X.prog X.w) X.A (f v u) Q X.xe s2) :
  wpAny (model X.prog X.w) X.A (eval a X.env) (λv bQ=>wpAny (model X.prog X.w) X.A (eval b X.env) (λu df=>wpAny (model X.prog X.w) X.A (f v u) Q X.xe df) X.xe bQ) X.xe s:=by
 apply bM (ha ae s σ H _ I h) λv s1 ⟨x,H1,I1,r1,q1⟩=>?_
 apply bM (hb ae s1 σ H1 _ I1 q1) λu s2 ⟨y,H2,I2,r2,q2⟩=>?_
 exact hf v u s2 x y H2 I2 r1 r2 q2
def cY {op:Operator}{r:R2}(ho:fq X (binaryOp op) r)(ha:PE X a ta)(hb:PE X b tb):PE X (.BinOp a op b pos) (Mm r ta tb):=by
 intro ae s σ H Q I h;exact wpAny_BinOp (NZ ha hb I h λv u s2 x y H2 I2 rx ry q=>ho ae s2 σ H2 x y v u Q I2 rx ry q)
def Ln {op:UnaryOp}{r:V->Hp->VK->Prop}(ho:UnR X (unaryOp op) r)(ha:PE X a ta):PE X (.UnaryOp op a pos) (tUn r ta):=by
 intro ae s σ H Q I h;exact UnaryOp_ (bM (ha ae s σ H _ I h) λv s1 ⟨x,H1,I1,r1,q1⟩=>ho ae s1 σ H1 x v Q I1 r1 q1)
def Rn {f:Value->Value->Sem Value}{C:Int->Int->Prop}{g:Int->Int->Int}
  (rule:∀(i j:Int) (t u:Tok) (s:Shared) (Q:Θ2) (E:Θ2),C i j->Q (.int (g i j) s.toks) { s with toks:=s.toks+1 }->wpAny (model X.prog X.w) X.A (f (.int i t) (.int j u)) Q E s) :
  fq X f (rI C λi j=>.int (g i j)):=by
 intro ae s σ H x y v u Q I rx ry h;let⟨i,j,rfl,rfl,hc,q⟩:=h;let⟨t,rfl⟩:=rx;let⟨t',rfl⟩:=ry;exact rule i j t t' s _ _ hc ⟨.int (g i j),H,I.tok _,⟨_,()⟩,q⟩
def TW {f:Value->Value->Sem Value}{g:Int->Int->Int}
  (rule:∀(i j:Int) (t u:Tok) (s:Shared) (Q:Θ2) (E:Θ2),Q (.int (g i j) s.toks) { s with toks:=s.toks+1 }->wpAny (model X.prog X.w) X.A (f (.int i t) (.int j u)) Q E s) :
  fq X f (Cw λi j=>.int (g i j)):=by
 intro ae s σ H x y v u Q I rx ry h;let⟨i,j,rfl,rfl,q⟩:=h;let⟨t,rfl⟩:=rx;let⟨t',rfl⟩:=ry;exact rule i j t t' s _ _ ⟨.int (g i j),H,I.tok _,⟨_,()⟩,q⟩
def NB {f:Value->Value->Sem Value}{g:Int->Int->Bool}
  (rule:∀(i j:Int) (t u:Tok) (s:Shared) (Q:Θ2) (E:Θ2),Q (.bool (g i j)) s->wpAny (model X.prog X.w) X.A (f (.int i t) (.int j u)) Q E s) :
  fq X f (Cw λi j=>.bl (g i j)):=by
 intro ae s σ H x y v u Q I rx ry h;let⟨i,j,rfl,rfl,q⟩:=h;let⟨t,rfl⟩:=rx;let⟨t',rfl⟩:=ry;exact rule i j t t' s _ _ ⟨.bl (g i j),H,I,(),q⟩
def ace (i j:Int):Prop:=0<j/\j<1073741824
def acd (i j:Int):Prop:=0<=j/\j<=1000000/\i.natAbs<2 ^ 64
def Ou (i j:Int):Prop:=(-(2 ^ 64)<i/\i<2 ^ 64)\/(-(2 ^ 64)<j/\j<2 ^ 64)
def Ou.ok (h:Ou i j):IntMulOk i j:=by
 rcases h with ⟨h1,h2⟩ |⟨h1,h2⟩
 .exact .of_left (intBits_le_64 h1 h2)
 .exact .of_right (intBits_le_64 h1 h2)
def cV:fq X (binaryOp .Add) (Cw λi j=>.int (i+j)):=TW λ_ _ _ _ _ _ _ q=>add_int q
def wN:fq X (binaryOp .Sub) (Cw λi j=>.int (i-j)):=TW λ_ _ _ _ _ _ _ q=>sub_int q
def iH:fq X (binaryOp .Mult) (rI Ou λi j=>.int (i*j)):=Rn λ_ _ _ _ _ _ _ hc q=>mul_int q hc.ok
def rY:fq X (binaryOp .FloorDiv) (rI ace λi j=>.int (i / j)):=Rn λi j _ _ _ _ _ hc q=>by
 let h1:(0:Int)<j:=hc.1;let h2:j<1073741824:=hc.2;exact floordiv_int ⋯ (by rw[Qw i ⋯];exact q) (.inl (PyProof.noPylong_small ⋯))
def gP:fq X (binaryOp .Mod) (rI (λ_ j=>0<j) λi j=>.int (i % j)):=Rn λi j _ _ _ _ _ hc q=>by
 let h1:(0:Int)<j:=hc;exact mod_int' ⋯ (by rw[Int.fmod_eq_emod_of_nonneg i ⋯];exact q)
def zz:fq X (binaryOp .Mod) (rI (λ_ j=>j≠0) λi j=>.int (i.fmod j)):=Rn λ_ _ _ _ _ _ _ hc q=>mod_int' hc q
def nJ:fq X (binaryOp .Pow) (rI acd λi j=>.int (i ^ j.toNat)):=Rn λ_ _ _ _ _ _ _ hc q=>pow_int_small hc.1 hc.2.1 hc.2.2 q
def unI {f:Value->Sem Value}{g:Int->Int}
  (rule:∀(i:Int) (t:Tok) (s:Shared) (Q:Θ2) (E:Θ2),Q (.int (g i) s.toks) { s with toks:=s.toks+1 }->wpAny (model X.prog X.w) X.A (f (.int i t)) Q E s) :
  UnR X f (rU λi=>.int (g i)):=by
 intro ae s σ H x v Q I rx h;let⟨i,rfl,q⟩:=h;let⟨t,rfl⟩:=rx;exact rule i t s _ _ ⟨.int (g i),H,I.tok _,⟨_,()⟩,q⟩
def DV:UnR X (unaryOp .USub) (rU λi=>.int (-i)):=unI λ_ _ _ _ _ q=>neg_int q
end
def TH:V->V->Bool
 |.cj,.cj=>true |.cj,.int _=>true |.int _,.cj=>true |.cj,.bl _=>true |.bl _,.cj=>true |.cj,.str _=>true |.str _,.cj=>true
 |.int _,.int _=>true |.bl _,.bl _=>true |.str _,.str _=>true |.AB _,.AB _=>true
 |.int _,.str _=>true |.str _,.int _=>true |.bl _,.str _=>true |.str _,.bl _=>true
 |_,_=>false
def rEq:R2:=λx y H Q=>TH x y=true/\Q (.bl (decide (x=y))) H
def rNe:R2:=λx y H Q=>TH x y=true/\Q (.bl (!decide (x=y))) H
def Ag:decide (V.int i=V.int j)=(i == j):=by
 rw[Yc];simp
def EG:decide (V.bl i=V.bl j)=(i == j):=by
 rw[Yc];simp
def Af:decide (V.str i=V.str j)=(i == j):=by
 rw[Yc];simp
def Ah:decide (V.AB i=V.AB j)=(i.toList == j.toList):=by
 rw[Yc];cases i;cases j;simp
section
variable {X:Cx}{a b c:Expr}{ta tb tc:TE}{pos:Pos}
def jD (I:Inv X ae σ H s)(q:Q (.bl k) H)(e:k=k'):EP X ae σ Q (.bool k') s:=by
 subst e;exact⟨.bl k,H,I,(),q⟩
def nv:fq X (compareOp .Eq) rEq:=by
 intro ae s σ H x y v u Q I rx ry h;let⟨hs,q⟩:=h;cases x with
 |cj =>
  cases rx
  cases y with
  |cj=>cases ry;exact PySem.EqNone.eq_none_none (jD I q (by simp))
  |bl j=>cases ry;exact PySem.EqNone.eq_none_bool (jD I q (by simp))
  |int j=>let⟨t',rfl⟩:=ry;exact PySem.EqNone.eq_none_int (jD I q (by simp))
  |str j=>let⟨t',rfl⟩:=ry;exact PySem.EqNone.eq_none_str (jD I q (by simp))
  |_=>exact absurd (show false=true from hs) Z4
 |bl i =>
  cases rx
  cases y with
  |cj=>cases ry;exact PySem.EqNone.eq_bool_none (jD I q (by simp))
  |bl j=>cases ry;exact eq_bool (jD I q EG)
  |str j=>let⟨t',rfl⟩:=ry;exact PySem.EqMixed.eq_bool_str (jD I q (by simp))
  |_=>exact absurd (show false=true from hs) Z4
 |int i =>
  let⟨t,rfl⟩:=rx;cases y with
  |cj=>cases ry;exact PySem.EqNone.eq_int_none (jD I q (by simp))
  |int j=>let⟨t',rfl⟩:=ry;exact eq_int (jD I q Ag)
  |str j=>let⟨t',rfl⟩:=ry;exact PySem.EqMixed.eq_int_str (jD I q (by simp))
  |_=>exact absurd (show false=true from hs) Z4
 |str i =>
  let⟨t,rfl⟩:=rx;cases y with
  |cj=>cases ry;exact PySem.EqNone.eq_str_none (jD I q (by simp))
  |bl j=>cases ry;exact PySem.EqMixed.eq_str_bool (jD I q (by simp))
  |int j=>let⟨t',rfl⟩:=ry;exact PySem.EqMixed.eq_str_int (jD I q (by simp))
  |str j=>let⟨t',rfl⟩:=ry;exact eq_str (jD I q Af)
  |_=>exact absurd (show false=true from hs) Z4
 |AB i =>
  let⟨t,rfl⟩:=rx;cases y with
  |AB j=>let⟨t',rfl⟩:=ry;exact PySem.W.eq_bytes (jD I q Ah)
  |_=>exact absurd (show false=true from hs) Z4
 |_=>cases y<;>exact absurd (show false=true from hs) Z4
def t9:fq X (compareOp .NotEq) rNe:=by
 intro ae s σ H x y v u Q I rx ry h;let⟨hs,q⟩:=h;cases x with
 |cj =>
  cases rx
  cases y with
  |cj=>cases ry;exact PySem.EqNone.ne_none_none (jD I q (by simp))
  |bl j=>cases ry;exact PySem.EqNone.ne_none_bool (jD I q (by simp))
  |int j=>let⟨t',rfl⟩:=ry;exact PySem.EqNone.ne_none_int (jD I q (by simp))
  |str j=>let⟨t',rfl⟩:=ry;exact PySem.EqNone.ne_none_str (jD I q (by simp))
  |_=>exact absurd (show false=true from hs) Z4
 |bl i =>
  cases rx
  cases y with
  |cj=>cases ry;exact PySem.EqNone.ne_bool_none (jD I q (by simp))
  |bl j=>cases ry;exact ne_bool (jD I q (congrArg not EG))
  |str j=>let⟨t',rfl⟩:=ry;exact PySem.EqMixed.ne_bool_str (jD I q (by simp))
  |_=>exact absurd (show false=true from hs) Z4
 |int i =>
  let⟨t,rfl⟩:=rx;cases y with
  |cj=>cases ry;exact PySem.EqNone.ne_int_none (jD I q (by simp))
  |int j=>let⟨t',rfl⟩:=ry;exact ne_int (jD I q (congrArg not Ag))
  |str j=>let⟨t',rfl⟩:=ry;exact PySem.EqMixed.ne_int_str (jD I q (by simp))
  |_=>exact absurd (show false=true from hs) Z4
 |str i =>
  let⟨t,rfl⟩:=rx;cases y with
  |cj=>cases ry;exact PySem.EqNone.ne_str_none (jD I q (by simp))
  |bl j=>cases ry;exact PySem.EqMixed.ne_str_bool (jD I q (by simp))
  |int j=>let⟨t',rfl⟩:=ry;exact PySem.EqMixed.ne_str_int (jD I q (by simp))
  |str j=>let⟨t',rfl⟩:=ry;exact ne_str (jD I q (congrArg not Af))
  |_=>exact absurd (show false=true from hs) Z4
 |AB i =>
  let⟨t,rfl⟩:=rx;cases y with
  |AB j=>let⟨t',rfl⟩:=ry;exact PySem.W.ne_bytes (jD I q (congrArg not Ah))
  |_=>exact absurd (show false=true from hs) Z4
 |_=>cases y<;>exact absurd (show false=true from hs) Z4
def nu:fq X (compareOp .Lt) (Cw λi j=>.bl (decide (i<j))):=NB λ_ _ _ _ _ _ _ q=>lt_int q
def ii:fq X (compareOp .Gt) (Cw λi j=>.bl (decide (j<i))):=NB λ_ _ _ _ _ _ _ q=>gt_int q
def VC:fq X (compareOp .GtE) (Cw λi j=>.bl (decide (j<=i))):=NB λ_ _ _ _ _ _ _ q=>ge_int q
def zy:fq X (compareOp .IsNot) (λx y H Q=>y=.cj/\Q (.bl (!decide (x=.cj))) H):=by
 intro ae s σ H x y v u Q I rx ry h;let⟨rfl,q⟩:=h;cases ry;apply isnot_none_gen (jD I q ?_);cases x<;>first
  |(cases rx;rfl)
  |(let⟨t,rfl⟩:=rx;rfl)
def fq.or (h:fq X f r)(h':fq X f r'):fq X f (λx y H Q=>r x y H Q\/r' x y H Q):=by
 intro ae s σ H x y v u Q I rx ry q;rcases q with q |q
 .exact h ae s σ H x y v u Q I rx ry q
 .exact h' ae s σ H x y v u Q I rx ry q
def aO (b:Expr)(h:op≠.In:=by decide)(h2:op≠.NotIn:=by decide):behindInMarks op b=false:=by
 let e1:(op == CmpOp.In)=false:=by cases op<;>first |rfl |exact absurd rfl h
 let e2:(op == CmpOp.NotIn)=false:=by cases op<;>first |rfl |exact absurd rfl h2
 cases b<;>simp[behindInMarks,e1,e2]
def fE (ho:fq X (compareOp op) r)(ha:PE X a ta)(hb:PE X b tb)(hm:behindInMarks op b=false):PE X (.Compare a [op] [b] pos) (Mm r ta tb):=by
 intro ae s σ H Q I h;exact wpAny_Compare1 (NZ ha hb I h λv u s2 x y H2 I2 rx ry q=>ho ae s2 σ H2 x y v u Q I2 rx ry q) hm
def K2 (t:TE):TT:=λσ H Q=>t σ H λx H'=>∃k,x=.bl k/\Q k H'
def pz {op:CmpOp}{r:R2}(ho:fq X (compareOp op) r)(ha:PE X a ta)(hb:PE X b tb)(hm:behindInMarks op b=false):PT X (.Compare a [op] [b] pos) (K2 (Mm r ta tb)):=by
 intro ae s σ H Q I h;apply wpAny_isTrue_Compare1 (bM (ha ae s σ H _ I h) λv s1 ⟨x,H1,I1,r1,q1⟩=>bM (hb ae s1 σ H1 _ I1 q1) λu s2 ⟨y,H2,I2,r2,q2⟩ =>
  bM (ho ae s2 σ H2 x y v u _ I2 r1 r2 q2) λc s3 ⟨z,H3,I3,r3,k,e,q3⟩=>?_) hm
 subst e;cases r3;exact wpAny_truthy_bool ⟨H3,I3,q3⟩
def UQ (K:Θ1)(x:V)(H:Hp)(k:Bool):Prop :=
 match x with
 |.cj=>k=false
 |.bl b=>k=b
 |.int i=>k=(i != 0)
 |.str y=>y.length<=sizeLine/\k=((y.length:Int) != 0)
 |.AB y=>y.size<=sizeLine/\k=((y.size:Int) != 0)
 |.ref p=>(∃xs,bG K H p xs/\k=!xs.isEmpty)\/(∃xs,aQ K H p xs/\k=!xs.isEmpty)\/∃kvs,H p=some (.dK kvs)/\k=!kvs.isEmpty
 |_=>False
def xQ {κ : Type}{kvs:List (κ × V)}{vs:List (κ × Value)}(r:KV kvs vs):(!vs.isEmpty)=!kvs.isEmpty:=by
 cases r<;>rfl
def oJ {xs:List V}{its:Δ3}(r:bp xs its):(!its.toArray.isEmpty)=!xs.isEmpty:=by
 cases r<;>simp
def jN:(sizeLine:Nat)<2 ^ 63:=by rw[sizeLine_eq];decide
def Ox:ab9 X (λx H Q=>∃k,UQ X.K x H k/\Q k H):=by
 intro ae s σ H x v Q I rx h;let⟨k,e,q⟩:=h;let hl:=jN;let hs:sizeLine=16777216:=sizeLine_eq;cases x with
 |cj =>
  cases rx
  let e':k=false:=e;subst e';exact truthy_none ⟨H,I,q⟩
 |bl b =>
  cases rx
  let e':k=b:=e;subst e';exact wpAny_truthy_bool ⟨H,I,q⟩
 |int i =>
  let⟨t,rfl⟩:=rx;let e':k=(i != 0):=e;subst e';exact PySem.P.truthy_int ⟨H,I,q⟩
 |str y =>
  let⟨t,rfl⟩:=rx;obtain⟨hy,e'⟩:y.length<=sizeLine/\k=((y.length:Int) != 0):=e;subst e';exact PySem.P.truthy_str ⋯ ⟨H,I.tok _,q⟩
 |AB y =>
  let⟨t,rfl⟩:=rx;obtain⟨hy,e'⟩:y.size<=sizeLine/\k=((y.size:Int) != 0):=e;subst e';exact PySem.W.truthy_bytes ⋯ ⟨H,I.tok _,q⟩
 |ref p =>
  cases rx
  let e':(∃xs,bG X.K H p xs/\k=!xs.isEmpty)\/(∃xs,aQ X.K H p xs/\k=!xs.isEmpty)\/∃kvs,H p=some (.dK kvs)/\k=!kvs.isEmpty:=e;rcases e' with ⟨xs,hx,e'⟩ |⟨xs,hx,e'⟩ |⟨kvs,hx,e'⟩
  .subst e';let⟨its,r,pl,hz⟩:=I.list hx;let dg:=r.length;exact wpAny_truthy_list pl.isList (by simp only[Z8];omega) ⟨H,I.tok _,by rw[oJ r];exact q⟩
  .subst e';let⟨its,r,pl,hz⟩:=I.tuple hx;let dg:=r.length;exact truthy_tuple pl (by simp only[Z8];omega) ⟨H,I.tok _,by rw[oJ r];exact q⟩
  .subst e';obtain⟨hz,hS,vs,r,m⟩:kvs.length<=sizeLine/\(p == sysModules)=false/\∃vs,KV kvs vs/\s.heap.DictOf (lS X.prog X.w) p vs:=I.cb p _ hx;let dg:kvs.length=vs.length:=Paired.length r;exact wpAny_truthy_dict hS m ⋯ ⟨H,I.tok _,by rw[xQ r];exact q⟩
 |_=>exact(show False from e).elim
def uE (ha:PE X a ta)(he:∀whole,isTrue a X.env whole=(do let v <- whole;standAt a.pos;holding [v] (truthy v))) :
  PT X a (λσ H Q=>ta σ H λx H'=>∃k,UQ X.K x H' k/\Q k H'):=by
 intro ae s σ H Q I h;exact isTrue_plain (bM (ha ae s σ H _ I h) λv s1 ⟨x,H1,I1,r1,q1⟩=>Ox ae s1 σ H1 x v Q I1 r1 q1) (he _)
def vals1 (r:bp [x] us):∃u,us=[u]/\RelV x u:=by
 cases r with
 |cons r1 r2=>cases r2;exact⟨_,(),r1⟩
def vals2 (r:bp [x,y] us):∃u w',us=[u,w']/\RelV x u/\RelV y w':=by
 cases r with
 |cons r1 r2 =>
  cases r2 with
  |cons r3 r4=>cases r4;exact⟨_,_,(),r1,r3⟩
def ot:ca X (.builtin "abs") (λxs H Q=>∃i,xs=[.int i]/\Q (.int (if i<0 then -i else i)) H):=by
 intro ae s σ H xs us Q I r h;let⟨i,rfl,q⟩:=h;let⟨u,rfl,t,rfl⟩:=vals1 r;exact call_abs_int λu tk=>⟨.int (if i<0 then -i else i),H,I.tok _,⟨_,()⟩,q⟩
def B7 (hc:X.calm=true):ca X (.builtin "max") (λxs H Q=>∃i j,xs=[.int i,.int j]/\Q (.int (if j>i then j else i)) H):=by
 intro ae s σ H xs us Q I r h;let⟨i,j,rfl,q⟩:=h;let⟨u,w',rfl,⟨t,rfl⟩,⟨t',rfl⟩⟩:=vals2 r;apply max_two_ints (I.ok.hd hc) λh' tk k=>⟨_,H,I.kept k,?_,q⟩
 by_cases hj:j>i
 .rw[if_pos hj,if_pos hj];exact⟨_,()⟩
 .rw[if_neg hj,if_neg hj];exact⟨_,()⟩
def B5 (hc:X.calm=true):ca X (.builtin "min") (λxs H Q=>∃i j,xs=[.int i,.int j]/\Q (.int (if j<i then j else i)) H):=by
 intro ae s σ H xs us Q I r h;let⟨i,j,rfl,q⟩:=h;let⟨u,w',rfl,⟨t,rfl⟩,⟨t',rfl⟩⟩:=vals2 r;apply min_two_ints (I.ok.hd hc) λh' tk k=>⟨_,H,I.kept k,?_,q⟩
 by_cases hj:j<i
 .rw[if_pos hj,if_pos hj];exact⟨_,()⟩
 .rw[if_neg hj,if_neg hj];exact⟨_,()⟩
def B8:ca X (.type "int") (λxs H Q=>(∃i,xs=[.int i]/\Q (.int i) H)\/∃k,xs=[.bl k]/\Q (.int (if k then 1 else 0)) H):=by
 intro ae s σ H xs us Q I r h;rcases h with ⟨i,rfl,q⟩ |⟨k,rfl,q⟩
 .obtain⟨u,rfl,t,rfl⟩:=vals1 r;exact call_int_int ⟨.int i,H,I,⟨_,()⟩,q⟩
 .obtain⟨u,rfl,r1⟩:=vals1 r;cases r1;exact call_int_bool ⟨.int (if k then 1 else 0),H,I.tok _,⟨_,()⟩,q⟩
end
structure N5 (h:Heap)(x dx C:Addr)(mA:Θ3):Prop where
 obj:h.get? x=some (PySem.W.instObj C dx)
 ns:h.Ns1 dx mA
 ne:dx≠x
def BG {h:Heap}{dx:Addr}(n:h.Ns1 dx mA):∃od,h.get? dx=some od/\∀name,PySem.W.lookIn name od=some (mA name):=by
 let⟨o,es,ep,ho,hd,hk,_,hm⟩:=n;apply⟨o,ho,λname=>?_⟩;let e:=hm name;unfold nsFind findBy at e;rw[<- Array.find?_toList] at e;unfold PySem.W.lookIn;rw[hd];dsimp only;split
 .rename_i y q;rw[q] at e;exact congrArg some e
 .rename_i q;rw[q] at e;let a:es.toList.any (·.refKey)=false:=by
   rw[List.any_eq_false];intro y hy;let⟨z,t,tS⟩:=hk y (Array.mem_toList_iff.mp hy);simp[DictEntry.refKey,tS]
  let a':¬ es.toList.any (·.refKey)=true:=by rw[a];exact Z4
  rw[if_neg a'];exact congrArg some e
def N5.look (I:N5 h x dx C mA):∃od,PySem.W.InstAt h x (PySem.W.instObj C dx) C (some od)/\∀name,PySem.W.lookIn name od=some (mA name) :=
 let ⟨od,ho,hl⟩:=BG I.ns
 ⟨od,⟨I.obj,(),(),ho⟩,hl⟩
section
variable {prog:Program}{w:World}{A:Around}{E:Θ2}{s:Shared}{K:Θ1}{x dx C f:Addr}{mA:Θ3}{name:Str}{v:Value}
end
def aB.some_of (r:aB (some v) o):∃u,o=some u/\RelV v u:=by
 cases o with
 |none=>exact(show False from r).elim
 |some u=>exact⟨u,(),r⟩
section
variable {P:Program}{w:World}{H H':Hp}{h h':Heap}{a C dx:Addr}{fs fs':List (Str×V)}
def Kd (cb:j4 P w H h)(e:H a=some (.ins C dx fs)):∃mA,N5 h a dx C mA/\(∀f,aB (fs.lookup f) (mA f))/\PySem.Within mA (fs.map (·.1))/\fs.length<=1000/\H dx=some (.own a):=by
 let⟨d,z,ne,ob,mA,n,r,q⟩:=(show b9 P w H h a (.ins C dx fs) from cb a _ e);exact⟨mA,⟨ob,n,ne⟩,r,q,z,d⟩
end
structure Cls (K:Θ1)(C:Addr):Prop where
 pg:PySem.W.plainGet K C Str.empty=true
 hd:PySem.W.hasDictIn K C=true
 po:PySem.W.plainOver K C=true
 sa:PySem.W.findIn K (.ref C) "__setattr__"=some (some (.builtin "object.__setattr__"))
def Cls.get {K:Θ1}{C:Addr}(c:Cls K C)(f:Str):PySem.W.plainGet K C f=true:=c.pg
section
variable {X:Cx}{ae:Γ2}{σ:St}{H:Hp}{s:Shared}{a C dx:Addr}{fs:List (Str×V)}{f:Str}{v:V}{A:Around}{E:Θ2}
end
section
variable {X:Cx}{o e value:Expr}{f:Str}{pos lh qH:Pos}{ta tv:TE}
end
section
variable {X:Cx}{ae:Γ2}{σ:St}{H:Hp}{s:Shared}{A:Around}{E:Θ2}{Q:Θ2}{c:Value}{b:Bool}
inductive iB (K:Θ1) (H:Hp):V->Value->Prop where
 |cj:iB K H .cj (.type "NoneType")
 |bl (x:Bool):iB K H (.bl x) (.type "bool")
 |int (i:Int):iB K H (.int i) (.type "int")
 |str (x:Str):iB K H (.str x) (.type "str")
 |RO (x:UInt64):iB K H (.RO x) (.type "float")
 |lst {a:Addr}{xs:List V}(e:H a=some (.lst xs)):iB K H (.ref a) (.type "list")
 |ic {a:Addr}{o:Obj}{xs:List V}(e:H a=some (.ic o (.lst xs))):iB K H (.ref a) (.type "list")
 |tup {a:Addr}{xs:List V}(e:H a=some (.tup xs)):iB K H (.ref a) (.type "tuple")
 |dK {a:Addr}{kvs:List (dZ×V)}(e:H a=some (.dK kvs)):iB K H (.ref a) (.type "dict")
 |dT {a:Addr}{kvs:List (List dZ×V)}(e:H a=some (.dT kvs)):iB K H (.ref a) (.type "dict")
 |ins {a C dx:Addr}{fs:List (Str×V)}(e:H a=some (.ins C dx fs)) (cl:Cls K C) (ha:PySem.W.findIn K (.ref C) "__class__"=some (some (.builtin "object.__class__")))
   (hn:PySem.W.specialIn K (.builtin "object.__class__") "__get__"=some (some (.builtin "getset_descriptor.__get__"))) (KJ:PySem.W.takesIn K (.builtin "object.__class__")=some true)
   (hm:PySem.W.mroIn K C (.type "object")=some true):iB K H (.ref a) (.ref C)
def BN (I:Inv X ae σ H s)(rx:RelV x u)(ty:iB X.K H x t)(e:PySem.W.kitOne X.K t c=some b)(h:∀tk,Q (.bool b) { s with toks:=tk }) :
  wpAny (model X.prog X.w) A (call (.builtin "isinstance") [u,c]) Q E s:=by
 cases ty with
 |cj=>cases (show u=Value.none from rx);exact PySem.W.kia_one PySem.W.kitx_none I.sT True.intro e (λz=>nomatch z) h
 |bl y=>cases (show u=Value.bool y from rx);exact PySem.W.kia_one PySem.W.kitx_bool I.sT True.intro e (λz=>nomatch z) h
 |int i=>let⟨t,q⟩:=(show ∃t,u=Value.int i t from rx);cases q;exact PySem.W.kia_one PySem.W.kitx_int I.sT True.intro e (λz=>nomatch z) h
 |str y=>let⟨t,q⟩:=(show ∃t,u=Value.str y t from rx);cases q;exact PySem.W.kia_one PySem.W.kitx_str I.sT True.intro e (λz=>nomatch z) h
 |RO y=>let⟨t,q⟩:=(show ∃t,u=Value.float y t from rx);cases q;exact PySem.W.kia_one PySem.W.kitx_float I.sT True.intro e (λz=>nomatch z) h
 |@lst a xs ea =>
  cases (show u=Value.ref a from rx)
  let⟨_,_,n,_,h1⟩:=(show b9 X.prog X.w H s.heap a (.lst xs) from I.cb a _ ea);exact PySem.W.kia_one PySem.W.kitx_list I.sT ⟨_,h1,()⟩ e (λz=>nomatch z) h
 |@ic a ob xs ea =>
  cases (show u=Value.ref a from rx)
  let⟨_,_,_,n,_,h1⟩:=(show b9 X.prog X.w H s.heap a (.ic ob (.lst xs)) from I.cb a _ ea);exact PySem.W.kia_one PySem.W.kitx_list I.sT ⟨_,h1,()⟩ e (λz=>nomatch z) h
 |@tup a xs ea =>
  cases (show u=Value.ref a from rx)
  let⟨_,_,_,p⟩:=(show b9 X.prog X.w H s.heap a (.tup xs) from I.cb a _ ea);let⟨o,h1,h2,_⟩:=p;exact PySem.W.kia_one PySem.W.kitx_tuple I.sT ⟨o,h1,h2⟩ e (λz=>nomatch z) h
 |@dK a kvs ea =>
  cases (show u=Value.ref a from rx)
  let⟨_,_,vs,_,p⟩:=(show b9 X.prog X.w H s.heap a (.dK kvs) from I.cb a _ ea);let⟨o,es,ep,h1,h2,_⟩:=p;exact PySem.W.kia_one PySem.W.kitx_dict I.sT ⟨o,h1,h2.1⟩ e (λz=>nomatch z) h
 |@dT a kvs ea =>
  cases (show u=Value.ref a from rx)
  let⟨_,_,xs,_,o,es,ep,h1,h2,_⟩:=(show b9 X.prog X.w H s.heap a (.dT kvs) from I.cb a _ ea);exact PySem.W.kia_one PySem.W.kitx_dict I.sT ⟨o,h1,h2.1⟩ e (λz=>nomatch z) h
 |@ins a C dx fs ea cl ha hn KJ hm =>
  cases (show u=Value.ref a from rx)
  let⟨mA,O,_⟩:=Kd I.cb ea;let⟨od,J,_⟩:=O.look;exact PySem.W.kia_one (PySem.W.kitx_own (cl.get _) cl.hd ha hn KJ hm) I.sT J e (λz=>nomatch z) h
end
structure cS (k:Nat)(A:Around):Prop where
 hd:A.handled=none
 dp:A.depth+3*k+105<recursionLimit
 un:A.units+16*k+200<cLine
def cS.mono (r:cS k A)(h:j<=k):cS j A:=⟨r.hd,by have:=r.dp;omega,by have:=r.un;omega⟩
def cS.deeper {k:Nat}{A:Around}(r:cS (k+1) A)(env:Env):cS k (A.deeper env) :=
 ⟨r.hd,by have:=r.dp;show A.depth+1+3*k+105<_;omega,by have:=r.un;show A.units+3+16*k+200<_;omega⟩
def cS.depth (r:cS k A):A.depth<recursionLimit:=by have:=r.dp;omega
def cS.units (r:cS k A):A.units+64<cLine:=by have:=r.un;omega
def cS.Ow (r:cS k A):A.units<cLine:=by have:=r.un;omega
def Tp:TA:=λ_ H Q=>Q [] H
def Dp (ta:TE)(tr:TA):TA:=λσ H Q=>ta σ H λx H1=>tr σ H1 λxs H2=>Q (x::xs) H2
section
variable {X:Cx}{e:Expr}{es:Ξ2}{te:TE}{t:TA}{pos:Pos}
def bN:PA X [] Tp:=λ_ _ _ _ H Q I h=>Calls.spliced_nil ⟨[],H,I,.nil,h⟩
def aP (ha:PE X e te)(hr:PA X es t)(hs:starEach (e::es) X.env=(false,eval e X.env)::starEach es X.env:=by rfl):PA X (e::es) (Dp te t):=by
 intro pos ae s σ H Q I h;rw[hs];show wpAny _ _ (spliced ((false,eval e X.env)::backTo pos (starEach es X.env))) _ _ s;apply Calls.spliced_cons (bM (ha ae s σ H _ I h) λu s1 ⟨x,H1,I1,r1,q1⟩=>?_);exact bM (hr pos ae s1 σ H1 _ I1 q1) λus s2 ⟨xs,H2,I2,r2,q2⟩=>⟨x::xs,H2,I2,.cons r1 r2,q2⟩
def Tl (t:TA):TE:=λσ H Q=>t σ H λxs H1=>xs.length<=sizeLine/\∀p,H1 p=none->Q (.ref p) (aK H1 p (.tup xs))
def aa2 (t:TA):TE:=λσ H Q=>t σ H λxs H1=>xs.length<=sizeLine/\∀p,H1 p=none->Q (.ref p) (aK H1 p (.lst xs))
def gO {x1}(h:PA X es t):PE X (.Tuple es x1 pos) (Tl t):=by
 intro ae s σ H Q I hq;apply wpAny_Tuple_spliced (bM (h pos ae s σ H _ I hq) λus s1 ⟨xs,H1,I1,r,z,q⟩=>⟨by rw[<- r.length];exact z,?_⟩);let hf:H1 s1.heap.objs.size=none:=I1.cb.fresh (Ze _);apply⟨.ref s1.heap.objs.size,aK H1 s1.heap.objs.size (.tup xs),I1.laid (t':=s1.toks) (λb u e=>Zn _ e) (Ze _) ?_,(),q _ hf⟩;exact⟨z,us,r,⟨_,Zz _ rfl,(),_,()⟩⟩
def iG (h:PA X es t):PE X (.List es pos) (aa2 t):=by
 intro ae s σ H Q I hq;apply wpAny_List_spliced (bM (h pos ae s σ H _ I hq) λus s1 ⟨xs,H1,I1,r,z,q⟩=>⟨by rw[<- r.length];exact z,?_⟩);let hf:H1 s1.heap.objs.size=none:=I1.cb.fresh (Ze _);apply⟨.ref s1.heap.objs.size,aK H1 s1.heap.objs.size (.lst xs),I1.laid (t':=s1.toks) (λb u e=>Zn _ e) (Ze _) ?_,(),q _ hf⟩;exact⟨z,us,0,r,Zz _ rfl⟩
end
abbrev Sp:=List V->Hp->VK->XK->Prop
abbrev Cs:=List Env->Hp->Shared->XK->Value->Shared->Prop
structure Ir (P:Program)(w:World)(K:Θ1)(mg:Θ3)(base:Heap)(A:Around)(outer:List Env)(s:Shared)(H:Hp):Prop where
 frames:A.frames=some outer
 mod:Mod K mg base
 bs:∀b o,base.get? b=some o->s.heap.get? b=some o/\H b=none
 KU:base.objs.size<=s.heap.objs.size
 nk:s.heap.FunFrames base outer
 RN:∀b∈CQ outer,H b=none
 cb:j4 P w H s.heap
 bare:AllBare s.gens
def CE (outer:List Env)(P:Program)(w:World)(H:Hp)(s:Shared)(Q:VK)(u:Value)(s':Shared):Prop :=
 ∃v H',s'.os=s.os/\AllBare s'.gens/\Un (CQ outer) [] H H' s.heap s'.heap/\j4 P w H' s'.heap/\RelV v u/\Q v H'
def CR (CX:Cs)(outer:List Env)(P:Program)(w:World)(H:Hp)(s:Shared)(Q:VK)(E:XK)(r:Result)(s':Shared):Prop :=
 match r with
 |.ok (.ret u)=>CE outer P w H s Q u s'
 |.ok _=>False
 |.error e=>CX outer H s E e s'
structure aI (P:Program)(w:World)(K:Θ1)(mg:Θ3)(base:Heap)(CX:Cs)(k:Nat)(f:Addr)(fd:FuncData)(ps:Δ2)(sp:Sp):Prop where
 len:∀vs H Q E,sp vs H Q E->vs.length=ps.length
 run:∀(A:Around) (outer:List Env) (s:Shared) (H:Hp) (args:Args) (us:Δ3) (vs:List V) (Q:VK) (E:XK),cS k A->Ir P w K mg base A outer s H->BindsTo s fd args (ps.zip us)->bp vs us->sp vs H Q E ->
  codeAny (model P w) A (.call (.ref f) args) (CR CX outer P w H s Q E) s
def aI.imp {P:Program}{w:World}{K:Θ1}(F:aI P w K mg base CX k f fd ps sp)
  (h:∀vs H Q E,sp' vs H Q E->sp vs H Q E):aI P w K mg base CX k f fd ps sp' :=
 ⟨λvs H Q E q=>F.len vs H Q E (h _ _ _ _ q),λA outer s H args us vs Q E hr he hb hv hs=>F.run A outer s H args us vs Q E hr he hb hv (h _ _ _ _ hs)⟩
section
variable {X:Cx}{ae:Γ2}{σ:St}{H:Hp}{s s':Shared}
def Inv.abW (I:Inv X ae σ H s):Ir X.prog X.w X.K X.mg X.base X.A X.stack s H :=
 ⟨I.ok.frames,I.ok.mod,I.bs,Zl I.ok.KU I.sz,I.stack,I.zb,I.cb,I.bare⟩
def Inv.after (I:Inv X ae σ H s)(h:CE X.stack X.prog X.w H s Q u s'):EP X ae σ Q u s':=by
 let⟨v,H',os,bare,un,cb,r,q⟩:=h;let⟨hh,g,d,t,os'⟩:=s';obtain rfl:os'=s.os:=os;exact⟨v,H',I.call (h':=hh) (g':=g) (d':=d) (t':=t) (ch:=[]) un cb bare (λb z=>absurd z (by simp)),r,q⟩
end
def Vc (sp:Sp)(GW:List V)(E:XK)(t:TA):TE:=λσ H Q=>t σ H λvs H1=>sp (vs++GW) H1 Q E
def Binds (K:Θ1)(fd:FuncData)(ps:Δ2)(ds:Δ3):Prop :=
 ∀(s:Shared) (us:Δ3),K.In s.heap->(us++ds).length=ps.length->BindsTo s fd ⟨us,[]⟩ (ps.zip (us++ds))
def Binds.all {K:Θ1}{fd:FuncData}(h:∀us:Δ3,us.length=ps.length->bindArgs fd ⟨us,[]⟩=pure (ps.zip us)):Binds K fd ps []:=λs us _ hl=>by
 rw[Yh] at hl ⊢;exact .of_eq (h us hl)
def xh (CX:Cs)(X:Cx)(E:XK):Prop:=∀(ae:Γ2) (σ:St) (H:Hp) (s:Shared) (e:Value) (s':Shared),Inv X ae σ H s->CX X.stack H s E e s'->X.xe e s'
section
variable {X:Cx}{CX:Cs}{k:Nat}{f C:Addr}{fd:FuncData}{ps:Δ2}{sp:Sp}{GW:List V}{ds:Δ3}{E:XK}{x m:Str}{p pos qV:Pos}{e o:Expr}{es:Ξ2}{ta:TE}{t:TA}
def OE (F:aI X.prog X.w X.K X.mg X.base CX k f fd ps sp)(hr:cS k X.A)(hb:Binds X.K fd ps ds)(hd:bp GW ds)(hx:xh CX X E)
  (I:Inv X ae σ H s) (r:bp vs us) (h:sp (vs++GW) H Q E):wpAny (model X.prog X.w) X.A (call (.ref f) us) (EP X ae σ Q) X.xe s:=by
 let r2:bp (vs++GW) (us++ds):=r.append hd;let hl:(us++ds).length=ps.length:=by rw[<- r2.length];exact F.len _ _ _ _ h
 apply wpAny_call (codeAny_mono (F.run X.A X.stack s H ⟨us,[]⟩ (us++ds) (vs++GW) Q E hr I.abW (hb s us I.sT hl) r2 h) λr s' hq=>?_);cases r with
 |error e=>exact hx ae σ H s e s' I hq
 |ok fl =>
  cases fl with
  |ret u=>exact I.after hq
  |next=>exact False.elim hq
  |brk=>exact False.elim hq
  |cont=>exact False.elim hq
def dX (F:aI X.prog X.w X.K X.mg X.base CX k f fd ps sp)(hr:cS k X.A)(hg:Gl X x)(hm:X.mg x=some (.ref f))(hk:PySem.W.keepIn X.K (.ref f)=true)(hb:Binds X.K fd ps ds)(hd:bp GW ds)(hx:xh CX X E)
  (ha:PA X (e::es) t) (vW:(x == ("__debug__" : Str))=false:=by decide) (he:starEach (e::es) X.env=(false,eval e X.env)::starEach es X.env:=by rfl) (jE:(backTo pos (starEach es X.env)).any (·.1)=false:=by rfl) :
  PE X (.Call (.Name x p) (e::es) [] pos) (Vc sp GW E t):=by
 intro ae s σ H Q I h;apply wpAny_Call_Name_kw (Ka I hg hm ?_ vW);apply PySem.W.callWith_K (h₀:=X.base) I.ok.mod.YN hk (bM (ha pos ae s σ H _ I h) λus s1 ⟨vs,H1,I1,r,q⟩=>⟨I1.sT,?_⟩) he jE;exact OE F hr hb hd hx I1 r q
end
section
variable {X:Cx}{CX:Cs}{k:Nat}{f C:Addr}{fd:FuncData}{ps ks:Δ2}{sp:Sp}{E:XK}{x m:Str}{p pos qV ajH:Pos}{e o:Expr}{es:Ξ2}{kws:List Keyword}{te ta:TE}{t tk:TA}{nm:Option Str}
variable {g:Δ3->Δ3->Δ3}{gV:List V->List V->List V}
end
structure ai (N P:Δ2)(sc:Scope):Prop where
 kind:sc.kind=.function
 co:sc.isCoroutine=false
 gen:sc.isGenerator=false
 nd:N.Nodup
 pre:N.take P.length=P
 par:∀x∈P,sc.names.lookup x=some .local\/sc.names.lookup x=some .cell
 PP:∀y∈sc.names,y.2≠.free
def dj {N P:Δ2}{sc:Scope}(a:sc.kind=.function:=by rfl)(b:sc.isCoroutine=false:=by rfl)(c:sc.isGenerator=false:=by rfl)(d:N.Nodup:=by decide+kernel)(e:N.take P.length=P:=by rfl)(f:∀x∈P,sc.names.lookup x=some .local\/sc.names.lookup x=some .cell:=by decide+kernel)(g:∀y∈sc.names,y.2≠.free:=by decide+kernel):ai N P sc:=⟨a,b,c,d,e,f,g⟩
theorem qr {kindOf:Str->Option NameKind}{x:Str}:∀{binds:List (Str×Value)}{m:Θ3},(∀v,(x,v)∉binds)->bindL kindOf binds m x=m x
 |[],_,_=>rfl
 |(n,v)::r,m,h=>by
  unfold bindL;rw[qr λw hw=>h w (Zk _ hw)];split
  .have:x≠n:=by rintro rfl;exact h v Zh
   simp[this]
  .rfl
theorem qu {kindOf:Str->Option NameKind}{x:Str}:∀{binds:List (Str×Value)}{m:Θ3},(∀v,(x,v)∉binds)->bindC kindOf binds m x=m x
 |[],_,_=>rfl
 |(n,v)::r,m,h=>by
  unfold bindC;rw[qu λw hw=>h w (Zk _ hw)];split
  .rfl
  .have:x≠n:=by rintro rfl;exact h v Zh
   simp[this]
theorem qt {kindOf:Str->Option NameKind}{x:Str}:∀{P:Δ2}{vs:Δ3}{i:Nat}{m:Θ3},P.Nodup->P[i]?=some x->vs[i]?=some v->kindOf x=some .local ->
  bindL kindOf (P.zip vs) m x=some v
 |[],_,_,_,_,h,_,_=>by simp at h
 |_::_,[],_,_,_,_,h,_=>by simp at h
 |p::P,w::vs,0,m,nd,h1,h2,hk=>by
  simp at h1 h2;subst h1;subst h2;show bindL kindOf ((p,w)::P.zip vs) m p=_;unfold bindL;rw[qr λv hv=>(Z9.mp nd).1 (List.of_mem_zip hv).1,if_pos hk];simp
 |p::P,w::vs,i+1,m,nd,h1,h2,hk=>by
  show bindL kindOf ((p,w)::P.zip vs) m x=_;unfold bindL;exact qt (i:=i) (Z9.mp nd).2 (by simpa using h1) (by simpa using h2) hk
theorem qv {kindOf:Str->Option NameKind}{x:Str}:∀{P:Δ2}{vs:Δ3}{i:Nat}{m:Θ3},P.Nodup->P[i]?=some x->vs[i]?=some v->kindOf x≠some .local ->
  bindC kindOf (P.zip vs) m x=some v
 |[],_,_,_,_,h,_,_=>by simp at h
 |_::_,[],_,_,_,_,h,_=>by simp at h
 |p::P,w::vs,0,m,nd,h1,h2,hk=>by
  simp at h1 h2;subst h1;subst h2;show bindC kindOf ((p,w)::P.zip vs) m p=_;unfold bindC;rw[qu λv hv=>(Z9.mp nd).1 (List.of_mem_zip hv).1,if_neg hk];simp
 |p::P,w::vs,i+1,m,nd,h1,h2,hk=>by
  show bindC kindOf ((p,w)::P.zip vs) m x=_;unfold bindC;exact qv (i:=i) (Z9.mp nd).2 (by simpa using h1) (by simpa using h2) hk
def start (N:Δ2)(vs:List V):St:=vs.map some++List.replicate (N.length-vs.length) none
def tU (CX:Cs)(P:Program)(w:World)(K:Θ1)(mg:Θ3)(base:Heap)(N:Δ2)(qual:Str)(scope:Scope)(f:Addr)(cd:Value)(A:Around)(outer:List Env)(s:Shared)(H:Hp)(E:XK):Cx where
 prog:=P
 w:=w
 K:=K
 mg:=mg
 base:=base
 A:=A.deeper (envOfC qual scope s.heap.objs.size f cd)
 N:=N
 eV:=s
 dm:=H
 env:=envOfC qual scope s.heap.objs.size f cd
 outer:=outer
 stack:=envOfC qual scope s.heap.objs.size f cd::outer
 ex:=[]
 calm:=true
 fn:=λ_=>true
 pn:=[]
 xe:=λe s'=>wpAny (model P w) (A.deeper (envOfC qual scope s.heap.objs.size f cd)) (leaving (envOfC qual scope s.heap.objs.size f cd) e) (λ_ Mn=>CX outer H s E e Mn) (λe' Mn=>CX outer H s E e' Mn) s'
def uZ {sc:Scope}{n:Nat}(h:sc.names.lookup x=some .cell):∃c,(cellsFrom n sc.names []).lookup x=some c:=by
 let q:=PySem.W.cellsFrom_some sc.names n [] (.inl h);exact Qe.mp q
def BP {CX:Cs}{P:Program}{K:Θ1}
  (S:ai N ps scope) (hd:A.handled=none) (e0:Ir P w K mg base A outer s H) (hl:vs.length=ps.length) (r:bp vs us)
  (x:InCallC s s.heap.objs.size (bindL (envOfC qual scope s.heap.objs.size f cd).kindOf (ps.zip us) λ_=>none) (cellsFrom (s.heap.objs.size+1) scope.names []) (bindC (envOfC qual scope s.heap.objs.size f cd).kindOf (ps.zip us) λ_=>none) s1) :
  Inv (tU CX P w K mg base N qual scope f cd A outer s H E) [] (start N vs) H s1:=by
 let jE:ps.length<=N.length:=by have:=congrArg List.length S.pre;rw[Yy] at this;omega
 let⟨h1,tk,rfl,hk⟩:=x.done;let Sk:∀b:Addr,b∉(tU CX P w K mg base N qual scope f cd A outer s H E).ex:=λb z=>absurd (show b∈([]:List Addr) from z) (by simp)
 apply⟨⟨e0.mod,S.kind,(),(),Ze _,λy z c h1 h2=>?_,λy hy=>?_,λy c _ h=>?_,λ_=>hd,Around.frames_deeper e0.frames,.inr ⟨(),()⟩,λb z=>absurd z (Sk b),e0.bs,e0.KU,λb _ _=>Sk b,λb z=>absurd z (Sk b),e0.nk,e0.RN⟩,
  rfl,e0.bare,Un.kept hk,⟨_,x.toInCall.ns,λi y v h1 h2 h3=>?_⟩,λy c h=>⟨_,x.cell y c h⟩,e0.cb.fresh (Ze _),λy c h=>?_,λp hp=>absurd (show p∈([]:Γ2) from hp) (by simp),e0.cb.kept hk,?_⟩
 .exact name_of_addr x.apart (Xm h1) (Xm h2)
 .let hy:scope.names.lookup y=some .cell\/scope.names.lookup y=some .free:=hy;rcases hy with hy |hy
  .exact uZ hy
  .exact absurd rfl (S.PP _ (Xm hy))
 .exact Nat.le_of_lt (x.above y c (Xm h))
 .let hi:i<vs.length:=by
   unfold start at h2;by_cases hi:i<vs.length
   .exact hi
   .rw[Yi (by simpa using hi)] at h2;rw[Y8] at h2;split at h2<;>cases h2
  let ha:vs[i]?=some v:=by
   unfold start at h2;rw[Zq (by simpa using hi),Zo] at h2;cases e:vs[i]? with
   |none=>rw[e] at h2;cases h2
   |some a=>rw[e] at h2;cases h2;rfl
  let⟨u,hu,rv⟩:=r.get ha;let hp:ps[i]?=some y:=by
   rw[<- S.pre,List.getElem?_take_of_lt ⋯];exact h1
  let YM:ps.Nodup:=by rw[<- S.pre];exact S.nd.sublist (List.take_sublist _ _)
  apply⟨u,rv,?_⟩;rcases S.par y (Z2 hp) with k |k
  .exact .inl ⟨k,qt YM hp hu k⟩
  .obtain⟨c,e⟩:=uZ (n:=s.heap.objs.size+1) k;apply .inr ⟨.inl k,c,e,?_⟩;let q:=x.cell y c e;rw[qv YM hp hu (by show scope.names.lookup y≠_;rw[k];decide)] at q;exact q
 .exact e0.cb.fresh (Nat.le_of_lt (x.above y c (Xm h)))
 .unfold start;show _=N.length;rw[Zt,Zb,Qn];omega
def V3 {CX:Cs}{P:Program}{K:Θ1}{dV kV gE pm bH ct oc:Value}
  (lk:K.lookup f=some ⟨oc,od,.func (PySem.W.fnOf name qual params body scope dV kV gE pm an bH ct),Rm⟩) (vX:PySem.W.codeIn K bH qual=true) (S:ai N ps scope)
  (len:∀vs H Q E,sp vs H Q E->vs.length=ps.length)
  (DK:∀(A:Around) (outer:List Env) (s:Shared) (H:Hp) (vs:List V) (Q:VK) (E:XK),cS k (A.deeper (envOfC qual scope s.heap.objs.size f bH))->sp vs H Q E ->
   ∃t,jm (tU CX P w K mg base N qual scope f bH A outer s H E) body t/\t { nx:=λ_ H'=>Q .cj H',rt:=Q } (start N vs) H) :
  aI P w K mg base CX (k+1) f (PySem.W.fnOf name qual params body scope dV kV gE pm an bH ct) ps sp:=by
 apply⟨len,λA outer s H args us vs Q E hr e0 hb r GJ=>?_⟩;let hl:=len _ _ _ _ GJ;let KX:K.In s.heap:=e0.mod.YN.keeps λb o e=>(e0.bs b o e).1
 let lim:s.heap.NoLimit:=e0.mod.nolimit.keeps λb o e=>(e0.bs b o e).1
 let V0:∀y∈ps.zip us,scope.names.lookup y.1=some .local\/(scope.names.lookup y.1=some .cell/\((cellsFrom (s.heap.objs.size+1) scope.names []).lookup y.1).isSome=true):=λ⟨n,v⟩ hy=>by
  rcases S.par n (List.of_mem_zip hy).1 with q |q
  .exact .inl q
  .exact .inr ⟨q,PySem.W.cellsFrom_some _ _ _ (.inl q)⟩
 apply codeAny_call_function hr.depth (KX _ _ lk) rfl S.co S.gen rfl (PySem.W.codeRec_of KX vX) (hb _ _ _ _ ?_);apply wpAny_newFunctionEnv_cells S.kind V0 λenv he s1 x=>?_
 subst he;apply⟨lim.keeps x.toInCall.keep,codeAny_func ?_⟩;let⟨t,ht,hq⟩:=DK A outer s H vs Q E (hr.deeper _) GJ;let I:Inv (tU CX P w K mg base N qual scope f bH A outer s H E) [] (start N vs) H s1:=BP S hr.hd e0 hl r x;apply wpAny_mono (ht [] s1 (start N vs) H _ I hq) (λfl s' hs=>?_) λe s' hs=>hs
 let jk:∀{aR:St}{H':Hp}{v:V}{u:Value},Inv (tU CX P w K mg base N qual scope f bH A outer s H E) [] aR H' s'->RelV v u->Q v H'->CE outer P w H s Q u s' :=
  λ{aR H' v u} J rv q=>⟨v,H',J.os,J.bare,J.base,J.cb,rv,q⟩
 cases fl with
 |ret u =>
  let⟨v,aR,H',J,rv,q⟩:=hs;exact jk J rv q
 |next =>
  let⟨aR,H',J,q⟩:=hs;exact jk (v:=V.cj) (u:=Value.none) J rfl q
 |brk =>
  let⟨_,_,_,q⟩:=hs;exact False.elim q
 |cont =>
  let⟨_,_,_,q⟩:=hs;exact False.elim q
section
variable {X:Cx}{x:Str}{p pos:Pos}{e:Expr}{es:Ξ2}{t:TA}{id T:String}{r:List V->Hp->VK->Prop}
def YE (r:List V->Hp->VK->Prop)(t:TA):TE:=λσ H Q=>t σ H λvs H1=>r vs H1 Q
def vC (hc:ca X (.builtin id) r)(hg:Gl X x)(hm:X.mg x=none)(hv:bootBuiltins x=some (.builtin id))(ha:PA X (e::es) t)(hn:x ≠ "__name__":=by decide)(vW:(x == ("__debug__" : Str))=false:=by decide)
  (he:starEach (e::es) X.env=(false,eval e X.env)::starEach es X.env:=by rfl) (jE:(backTo pos (starEach es X.env)).any (·.1)=false:=by rfl):PE X (.Call (.Name x p) (e::es) [] pos) (YE r t):=by
 intro ae s σ H Q I h;apply wpAny_Call_Name_kw (fZ I hg hm hv ?_ hn vW);exact PyProof.Rows.callWith_builtin1 (bM (ha pos ae s σ H _ I h) λus s1 ⟨vs,H1,I1,r1,q1⟩=>hc ae s1 σ H1 vs us Q I1 r1 q1) he jE
def GH (hc:ca X (.type T) r)(hg:Gl X x)(hm:X.mg x=none)(hv:bootBuiltins x=some (.type T))(ha:PA X (e::es) t)(hn:x ≠ "__name__":=by decide)(vW:(x == ("__debug__" : Str))=false:=by decide)
  (he:starEach (e::es) X.env=(false,eval e X.env)::starEach es X.env:=by rfl) (jE:(backTo pos (starEach es X.env)).any (·.1)=false:=by rfl):PE X (.Call (.Name x p) (e::es) [] pos) (YE r t):=by
 intro ae s σ H Q I h;apply wpAny_Call_Name_kw (fZ I hg hm hv ?_ hn vW);exact PyProof.Rows.callWith_type1 (bM (ha pos ae s σ H _ I h) λus s1 ⟨vs,H1,I1,r1,q1⟩=>hc ae s1 σ H1 vs us Q I1 r1 q1) he jE
end
end L2
namespace HT
open PyProof.Rows
section
open PySem.SeqAt
open PySem.MeetsSeq PySem.MeetsSeq2 PySem.MeetsSeq3
end
section
variable {prog:Program}{w:World}{A:Around}{E:Θ2}{s:Shared}
def Kj (ht:IsTup s.heap t vs.toArray)(hb:IsTup s.heap b ws.toArray)(hv:vs≠[])
  (h1:ws=[]->Q (.ref t) s) (h2:ws≠[]->Q (.ref s.heap.objs.size) { s with heap:=s.heap.push { cls:=.type "tuple",data:=.seq (vs++ws).toArray } })
  (hsz:vs.length+ws.length<=sizeLine):wpAny (model prog w) A (binaryOp .Add (.ref t) (.ref b)) Q E s:=by
 let⟨⟨cls,dd,data,sl⟩,ho,hc,n,hd⟩:=id ht;let⟨⟨abZ,W4,data2,cr⟩,MR,GQ,n2,Hj⟩:=id hb;simp only at hc hd GQ Hj;subst hc hd GQ Hj;let e:vs.toArray++ws.toArray=(vs++ws).toArray:=by simp
 by_cases hw:ws=[]
 .exact concat_meets ⟨_,ho,()⟩ ⟨_,MR,()⟩ noFill_tuple_add seq_tuple_add PySem.F.slot_tuple_add PySem.F.entry_tuple_add (PySem.F.args_tuple_add_2 _ _)
   (tuple_addW1 t b vs.toArray ws.toArray n n2 dd W4 sl cr (by simpa using hv) (by simp[hw])) ⟨ho,MR,h1 hw⟩
 .apply concat_meets ⟨_,ho,()⟩ ⟨_,MR,()⟩ noFill_tuple_add seq_tuple_add PySem.F.slot_tuple_add PySem.F.entry_tuple_add (PySem.F.args_tuple_add_2 _ _)
   (tuple_addW2 t b vs.toArray ws.toArray n n2 dd W4 sl cr (by simpa using hv) (by simpa using hw) (by rw[Z8,Z8];exact hsz)) ⟨ho,MR,?_⟩
  rw[e];exact h2 hw
def oT (n d:Nat):Option Int->Nat
 |none=>d
 |some v=>if v<0 then (v+(n:Int)).toNat else min v.toNat n
def uC (n d:Nat):oT n d none=d:=rfl
end
end HT
namespace L2
open PySem.Spec PyProof.Rows
abbrev TO:=St->Hp->(Option Int->Hp->Prop)->Prop
def PO (X:Cx)(e:Option Expr)(t:TO):Prop :=
 ∀(ae:Γ2) (s:Shared) (σ:St) (H:Hp) (Q:Option Int->Hp->Prop),Inv X ae σ H s->t σ H Q ->
  wpAny (model X.prog X.w) X.A (evalPart e X.env) (λu s'=>∃o H',Inv X ae σ H' s'/\IsPart u o/\Q o H') X.xe s
def Iz:TO:=λ_ H Q=>Q none H
def U7 (t:TE):TO:=λσ H Q=>t σ H λx H1=>∃i,x=.int i/\Q (some i) H1
section
variable {X:Cx}{e:Expr}{te:TE}{lo hi:Option Expr}{tl th:TO}{pos p2:Pos}
def Jp:PO X none Iz:=by
 intro ae s σ H Q I h;rw[evalPart_none];exact wpAny_pure ⟨none,H,I,.none,h⟩
def Jo (h:PE X e te):PO X (some e) (U7 te):=by
 intro ae s σ H Q I hw;rw[evalPart_some];apply bM (h ae s σ H _ I hw) λu s1 ⟨x,H1,I1,r1,q1⟩=>?_
 let⟨i,rfl,q⟩:=q1;let⟨t,rfl⟩:=r1;exact⟨some i,H1,I1,.int i t,q⟩
def SlR (X:Cx)(r:V->Option Int->Option Int->Hp->VK->Prop):Prop :=
 ∀(ae:Γ2) (s:Shared) (σ:St) (H:Hp) (x:V) (v vl vu:Value) (lo hi:Option Int) (sl:Addr) (Q:VK),Inv X ae σ H s->RelV x v->s.heap.IsSliceOf sl vl vu .none->IsPart vl lo->IsPart vu hi->r x lo hi H Q ->
  ∃T id,typeLookup (.type T) "__getitem__"=pure (some (.builtin id))/\s.TypeIs v T/\wpAny (model X.prog X.w) X.A (getItem v (.ref sl)) (EP X ae σ Q) X.xe s
def tSl (r:V->Option Int->Option Int->Hp->VK->Prop)(te:TE)(tl th:TO):TE:=λσ H Q=>te σ H λx H1=>tl σ H1 λl H2=>th σ H2 λu H3=>r x l u H3 Q
def Fo (hr:SlR X r)(he:PE X e te)(hl:PO X lo tl)(hu:PO X hi th):PE X (.Subscript e (.Slice lo hi none p2) pos) (tSl r te tl th):=by
 intro ae s σ H Q I h;apply Subscript_ (bM (he ae s σ H _ I h) λv s1 ⟨x,H1,I1,r1,q1⟩=>?_);apply wpAny_Slice (bM (hl ae s1 σ H1 _ I1 q1) λvl s2 ⟨l,H2,I2,pl,q2⟩=>bM (hu ae s2 σ H2 _ I2 q2) λvu s3 ⟨u,H3,I3,pu,q3⟩=>?_);rw[evalPart_none];apply wpAny_pure ?_;let I4:Inv X ae σ H3 { s3 with heap:=s3.heap.push { cls:=.type "slice",data:=.fields #[vl,vu,.none] } }:=I3.kept (t':=s3.toks) λb ob q=>Zn _ q
 let⟨T,id,hT,ht,hg⟩:=hr ae { s3 with heap:=s3.heap.push { cls:=.type "slice",data:=.fields #[vl,vu,.none] } } σ H3 x v vl vu l u s3.heap.objs.size Q I4 r1 (Heap.IsSliceOf.new ..) pl pu q3;show wpAny (model X.prog X.w) X.A (subscriptTail e (.Slice lo hi none p2) v (.ref s3.heap.objs.size)) (EP X ae σ Q) X.xe { s3 with heap:=s3.heap.push { cls:=.type "slice",data:=.fields #[vl,vu,.none] } };exact tail_any (ops:=[.ref s3.heap.objs.size,v]) ht hT hg (by with_unfolding_all rfl)
def AR (xs:List V)(lo hi:Option Int):List V:=(xs.drop (HT.oT xs.length 0 lo)).take (HT.oT xs.length xs.length hi-HT.oT xs.length 0 lo)
def vt (xs:List V)(lo hi:Option Int):(AR xs lo hi).length<=xs.length:=by
 unfold AR;rw[Yy,Qo];omega
def Vx (K:Θ1):R2:=λx y H Q=>∃a b xs ys,x=.ref a/\y=.ref b/\aQ K H a xs/\aQ K H b ys/\xs≠[]/\xs.length+ys.length<=sizeLine /\
 (ys=[]->Q (.ref a) H)/\(ys≠[]->∀p,H p=none->Q (.ref p) (aK H p (.tup (xs++ys))))
def bp.mK (r:bp xs us):us=[]↔xs=[]:=by
 cases r with
 |nil=>simp
 |cons _ _=>simp
def Ju:fq X (binaryOp .Add) (Vx X.K):=by
 intro ae s σ H x y v u Q I rx ry h;let⟨a,b,xs,ys,rfl,rfl,ha,hb,hx,hz,q1,q2⟩:=h;cases rx;cases ry;let⟨its,r1,p1,_⟩:=I.tuple ha;let⟨C8,r2,p2,_⟩:=I.tuple hb;apply HT.Kj p1 p2 (λz=>hx (r1.mK.mp z)) (λz=>⟨.ref a,H,I,(),q1 (r2.mK.mp z)⟩) (λz=>?_) (by rw[<- r1.length,<- r2.length];exact hz);apply⟨.ref s.heap.objs.size,_,I.laid (t':=s.toks) (o:=.tup (xs++ys)) (λb ob q=>Zn _ q) (Ze _) ?_,(),q2 (λw=>z (r2.mK.mpr w)) _ (I.cb.fresh (Ze _))⟩;exact⟨by rw[Zt];exact hz,_,r1.append r2,IsTup.new _ _⟩
end
def vS (n:Nat)(i:Int):Option Nat:=if 0<=i then (if i<n then some i.toNat else none) else if -(n:Int)<=i then some (i+n).toNat else none
def fj {α : Type}(xs:List α)(i:Int):Option α:=(vS xs.length i).bind λj=>xs[j]?
def zR (h:vS n i=some j):seqIndex? i n=some j/\j<n/\-(n:Int)<=i/\i<n:=by
 unfold vS at h;by_cases h0:0<=i
 .rw[if_pos h0] at h;by_cases h1:i<n
  .rw[if_pos h1] at h;let e:i.toNat=j:=Option.some.inj h;exact⟨by rw[seqIndex_of h0 h1,e],⋯,⋯,h1⟩
  .rw[if_neg h1] at h;cases h
 .rw[if_neg h0] at h;by_cases h1:-(n:Int)<=i
  .rw[if_pos h1] at h;let e:(i+n).toNat=j:=Option.some.inj h;exact⟨by rw[seqIndex_neg ⋯ h1,e],⋯,h1,⋯⟩
  .rw[if_neg h1] at h;cases h
def aZ {α : Type}{xs:List α}{i:Int}{v:α}(h:fj xs i=some v):∃j,seqIndex? i xs.length=some j/\xs[j]?=some v/\j<xs.length/\-(xs.length:Int)<=i/\i<xs.length:=by
 unfold fj at h;cases e:vS xs.length i with
 |none=>rw[e] at h;cases h
 |some j =>
  rw[e] at h;let⟨h1,h2,h3,h4⟩:=zR e;exact⟨j,h1,h,h2,h3,h4⟩
def mW {α : Type}{xs:List α}{j:Nat}{v:α}(h:xs[j]?=some v):fj xs (j:Int)=some v:=by
 let hj:j<xs.length:=(Zf.mp h).1;let e:vS xs.length (j:Int)=some j:=by
  unfold vS;rw[if_pos ⋯,if_pos ⋯];simp
 unfold fj;rw[e];exact h
def sB (b:Expr):Prop:=∀o i,subscripted b false o i=operate [o,i] (getItem o i)
def AD (X:Cx)(r:R2):Prop :=
 ∀(value slice:Expr) (ae:Γ2) (s:Shared) (σ:St) (H:Hp) (x y:V) (v u:Value) (Q:VK),Inv X ae σ H s->RelV x v->RelV y u->r x y H Q ->
  subscripted slice false v u=operate [v,u] (getItem v u)->wpAny (model X.prog X.w) X.A (subscriptTail value slice v u) (EP X ae σ Q) X.xe s
def W7 (X:Cx)(id:String)(r:V->List V->Hp->VK->Prop):Prop :=
 ∀(ae:Γ2) (s:Shared) (σ:St) (H:Hp) (x:V) (xs:List V) (v:Value) (us:Δ3) (Q:VK),Inv X ae σ H s->RelV x v->bp xs us->r x xs H Q ->
  wpAny (model X.prog X.w) X.A (call (.builtin id) (v::us)) (EP X ae σ Q) X.xe s
section
variable {X:Cx}{a b:Expr}{ta tb:TE}{pos:Pos}
def AD.or (h:AD X r)(h':AD X r'):AD X (λx y H Q=>r x y H Q\/r' x y H Q):=by
 intro value slice ae s σ H x y v u Q I rx ry q hs;rcases q with q |q
 .exact h value slice ae s σ H x y v u Q I rx ry q hs
 .exact h' value slice ae s σ H x y v u Q I rx ry q hs
def dz (hr:AD X r)(ha:PE X a ta)(hb:PE X b tb)(hs:sB b):PE X (.Subscript a b pos) (Mm r ta tb):=by
 intro ae s σ H Q I h;exact Subscript_ (NZ ha hb I h λv u s2 x y H2 I2 rx ry q=>hr a b ae s2 σ H2 x y v u Q I2 rx ry q (hs _ _))
def HB (K:Θ1):R2:=λx y H Q=>∃p xs i v,x=.ref p/\y=.int i/\bG K H p xs/\fj xs i=some v/\Q v H
def NA (K:Θ1):R2:=λx y H Q=>∃p xs i v,x=.ref p/\y=.int i/\aQ K H p xs/\fj xs i=some v/\Q v H
def zQ:AD X (HB X.K):=by
 intro value slice ae s σ H x y v u Q I rx ry h hs;let⟨p,xs,i,z,rfl,rfl,hq,he,q⟩:=h;cases rx;let⟨t,rfl⟩:=ry;let⟨its,r,pl,hz⟩:=I.list hq;let⟨j,h1,h2,h3,h4,h5⟩:=aZ he;let⟨w,ew,Au⟩:=r.get h2;let hl:=r.length;let hn:=jN;let jk:EP X ae σ Q w s:=⟨z,H,I,Au,q⟩;by_cases h0:0<=i
 .let hj:i.toNat=j:=by
   rw[seqIndex_of h0 h5] at h1;exact Option.some.inj h1
  exact item_listR pl.isList h0 ⋯ (by rw[hj];simpa using ew) jk hs
 .let hj:(i+(its.toArray.size:Int)).toNat=j:=by
   rw[seqIndex_neg ⋯ h4] at h1;rw[Z8,<- hl];exact Option.some.inj h1
  exact subscriptTail_builtinR (x:=w) pl.isList.typeIs slot_list_getitem.lookup
   (wpAny_getItem_list_neg (Q:=λr s'=>r=w/\EP X ae σ Q r s') pl.isList ⋯ (by rw[Z8]<;>omega) ⋯ (by rw[hj];simpa using ew) ⟨(),jk⟩) hs
def QH:AD X (NA X.K):=by
 intro value slice ae s σ H x y v u Q I rx ry h hs;let⟨p,xs,i,z,rfl,rfl,hq,he,q⟩:=h;cases rx;let⟨t,rfl⟩:=ry;let⟨its,r,pl,hz⟩:=I.tuple hq;let⟨j,h1,h2,h3,h4,h5⟩:=aZ he;let⟨w,ew,Au⟩:=r.get h2;let hl:=r.length;let hn:=jN;let jk:EP X ae σ Q w s:=⟨z,H,I,Au,q⟩;exact subscriptTail_builtinR (x:=w) pl.typeIs slot_tuple_getitem.lookup
  (getItem_tuple (j:=j) (Q:=λr s'=>r=w/\EP X ae σ Q r s') pl ⋯ ⋯ (by rw[Z8,<- hl];exact h1) (by simpa using ew) ⟨(),jk⟩) hs
def xH (its:Δ3)(n j:Nat)(u:Value):Obj.mapSeq (·.setIfInBounds j u) { cls:=.type "list",data:=.seq its.toArray n }={ cls:=.type "list",data:=.seq (its.set j u).toArray n }:=by
 simp[Obj.mapSeq]
def Inv.lst {ae:Γ2}{σ:St}{H:Hp}{s:Shared}{p:Addr}{xs:List V}(I:Inv X ae σ H s)(h:H p=some (.lst xs)) :
  ∃(its:Δ3) (n:Nat),bp xs its/\s.heap.get? p=some { cls:=.type "list",data:=.seq its.toArray n }/\xs.length<=sizeLine:=by
 let⟨z,its,n,r,e⟩:=I.cb p _ h;exact⟨its,n,r,e,z⟩
def Inv.P5 {ae:Γ2}{σ:St}{its its':Δ3}(I:Inv X ae σ H s)(h:H p=some (.lst xs))
  (ho:s.heap.get? p=some { cls:=.type "list",data:=.seq its.toArray n }) (hf:f { cls:=.type "list",data:=.seq its.toArray n }={ cls:=.type "list",data:=.seq its'.toArray n' }) (r:bp ys its') (hz:ys.length<=sizeLine) (t:Nat) :
  Inv X ae σ (aK H p (.lst ys)) { s with heap:=s.heap.update p f,toks:=t }:=by
 let e:(s.heap.update p f).get? p=some { cls:=.type "list",data:=.seq its'.toArray n' }:=by
  rw[Qm f ho (by rw[hf]<;>rfl),hf]
 apply I.write (x:=p) (e:=p) (by rw[h];trivial) (.inl rfl) (λb u hb q=>(Xu _ _ (Ne.symm hb)).trans q) ⟨_,e⟩ ?_;exact⟨hz,its',n',r,e⟩
def Vu:V->V->V->Hp->(Hp->Prop)->Prop:=λo i v H Q=>∃p xs k j,o=.ref p/\i=.int k/\H p=some (.lst xs)/\vS xs.length k=some j/\Q (aK H p (.lst (xs.set j v)))
def kJ:N3 X Vu:=by
 intro ae s σ H o i v ov iv u Q I ro ri rv h;let⟨p,xs,k,j,rfl,rfl,hp,hj,q⟩:=h;cases ro;let⟨t,rfl⟩:=ri;let⟨its,n,r,ho,hz⟩:=I.lst hp;let⟨h1,h2,h3,h4⟩:=zR hj;let hl:=r.length;let hn:=jN;let I':Inv X ae σ (aK H p (.lst (xs.set j v))) { s with heap:=s.heap.update p (Obj.mapSeq (·.setIfInBounds j u)) } :=
  I.P5 hp ho (xH its n j u) (r.set rv j) (by rw[Yp];exact hz) s.toks
 by_cases h0:0<=k
 .let hk:k.toNat=j:=by
   rw[seqIndex_of h0 h4] at h1;exact Option.some.inj h1
  exact PySem.W.ki_setAt ho h0 ⋯ (by rw[Z8,<- hl];exact h4) (by rw[hk];exact⟨_,I',q⟩)
 .let hk:(k+(its.toArray.size:Int)).toNat=j:=by
   rw[seqIndex_neg ⋯ h3] at h1;rw[Z8,<- hl];exact Option.some.inj h1
  exact PySem.W.ki_setBack ho ⋯ (by rw[Z8,<- hl];exact h3) ⋯ (by rw[hk];exact⟨_,I',q⟩)
def sC (lo hi:Option Int)(n:Nat):(sliceBounds lo hi none n).1=((HT.oT n 0 lo:Nat):Int)/\(sliceBounds lo hi none n).2.1=((HT.oT n n hi:Nat):Int)/\(sliceBounds lo hi none n).2.2=1:=by
 apply⟨?_,?_,()⟩
 .cases lo with
  |none=>simp[sliceBounds,HT.oT]
  |some i =>
   simp only[sliceBounds,HT.oT,Option.getD_none,show(1:Int)>0 by decide,if_true];by_cases h:i<0
   .simp only[h,if_true]<;>omega
   .simp only[h,if_false]<;>omega
 .cases hi with
  |none=>simp[sliceBounds,HT.oT]
  |some i =>
   simp only[sliceBounds,HT.oT,Option.getD_none,show(1:Int)>0 by decide,if_true];by_cases h:i<0
   .simp only[h,if_true]<;>omega
   .simp only[h,if_false]<;>omega
def o7 (its:Δ3)(lo hi:Option Int):slicePick its.toArray lo hi none=((its.drop (HT.oT its.length 0 lo)).take (HT.oT its.length its.length hi-HT.oT its.length 0 lo)).toArray:=by
 let⟨h1,h2,h3⟩:=sC lo hi its.toArray.size;unfold slicePick;rw[h1,h2,h3];simp only[sliceRange_one,pick_run,Z8]<;>rfl
def TQ (K:Θ1):V->Option Int->Option Int->Hp->VK->Prop:=λx lo hi H Q=>∃a xs,x=.ref a/\bG K H a xs/\∀p,H p=none->Q (.ref p) (aK H p (.lst (AR xs lo hi)))
def IH:SlR X (TQ X.K):=by
 intro ae s σ H x v vl vu lo hi sl Q I rx hs pl pu h;let⟨a,xs,rfl,hx,q⟩:=h;cases rx;let⟨its,r,ht,hz⟩:=I.list hx;let dg:=r.length;apply⟨"list",_,slot_list_getitem.lookup,ht.isList.typeIs,?_⟩;apply wpAny_getItem_list_slice ht.isList hs pl pu .none (by simp) ?_ (by rw[Z8]<;>omega);rw[o7,<- dg];apply⟨.ref s.heap.objs.size,_,I.laid (t':=s.toks) (o:=.lst (AR xs lo hi)) (λb ob q=>Zn _ q) (Ze _) ?_,(),q _ (I.cb.fresh (Ze _))⟩;exact⟨Zl (vt xs lo hi) hz,_,0,(r.drop (HT.oT xs.length 0 lo)).take (HT.oT xs.length xs.length hi-HT.oT xs.length 0 lo),Zz _ rfl⟩
def iC:V->Bool
 |.cj=>true
 |.bl _=>true
 |.int _=>true
 |.str _=>true
 |_=>false
def GV:V->V->Bool
 |.cj,.cj=>true
 |.bl a,.bl b=>a == b
 |.bl a,.int b=>(if a then 1 else 0) == b
 |.int a,.bl b=>a == (if b then 1 else 0)
 |.int a,.int b=>a == b
 |.str a,.str b=>a == b
 |_,_=>false
def QM (ry:RelV y u)(rx:RelV x v)(fy:iC y=true)(fx:iC x=true):SeqAt.EqAt A s u v (GV y x):=by
 cases y with
 |cj =>
  cases ry
  cases x with
  |cj=>cases rx;exact SeqAt.EqAt.same _
  |bl b=>cases rx;exact SeqAt.EqAt.none_bool b
  |int b=>let⟨t,rfl⟩:=rx;exact SeqAt.EqAt.none_int b t
  |str b=>let⟨t,rfl⟩:=rx;exact SeqAt.EqAt.none_str b t
  |_=>exact absurd (show false=true from fx) Z4
 |bl a =>
  cases ry
  cases x with
  |cj=>cases rx;exact SeqAt.EqAt.bool_none a
  |bl b=>cases rx;exact SeqAt.EqAt.bool_bool a b
  |int b=>let⟨t,rfl⟩:=rx;exact SeqAt.EqAt.bool_int a b t
  |str b=>let⟨t,rfl⟩:=rx;exact SeqAt.EqAt.bool_str a b t
  |_=>exact absurd (show false=true from fx) Z4
 |int a =>
  let⟨t',rfl⟩:=ry;cases x with
  |cj=>cases rx;exact SeqAt.EqAt.int_none a t'
  |bl b=>cases rx;exact SeqAt.EqAt.int_bool a t' b
  |int b=>let⟨t,rfl⟩:=rx;exact SeqAt.EqAt.int_int a t' b t
  |str b=>let⟨t,rfl⟩:=rx;exact SeqAt.EqAt.int_str a t' b t
  |_=>exact absurd (show false=true from fx) Z4
 |str a =>
  let⟨t',rfl⟩:=ry;cases x with
  |cj=>cases rx;exact SeqAt.EqAt.str_none a t'
  |bl b=>cases rx;exact SeqAt.EqAt.str_bool a t' b
  |int b=>let⟨t,rfl⟩:=rx;exact SeqAt.EqAt.str_int a t' b t
  |str b=>let⟨t,rfl⟩:=rx;exact SeqAt.EqAt.str_str a t' b t
  |_=>exact absurd (show false=true from fx) Z4
 |_=>exact absurd (show false=true from fy) Z4
def vY (x:V)(u:Value):Bool:=match u with
 |.none=>GV .cj x
 |.bool b=>GV (.bl b) x
 |.int i _=>GV (.int i) x
 |.str z _=>GV (.str z) x
 |_=>false
def ED (r:RelV y u)(f:iC y=true):vY x u=GV y x:=by
 cases y with
 |cj=>cases r;rfl
 |bl b=>cases r;rfl
 |int i=>let⟨t,rfl⟩:=r;rfl
 |str z=>let⟨t,rfl⟩:=r;rfl
 |_=>exact absurd (show false=true from f) Z4
theorem kG:∀{xs:List V}{us:Δ3},bp xs us->xs.all iC=true->us.any (vY x)=xs.any λy=>GV y x
 |_,_,.nil,_=>rfl
 |y::xs,u::us,.cons r t,f=>by
  rw[Y9,Z5] at f;rw[Xw,Xw,ED r f.1,kG t f.2]
theorem iM (rx:RelV x v)(fx:iC x=true):∀{xs:List V}{us:Δ3},bp xs us->xs.all iC=true->∀u∈us,SeqAt.EqAt A s u v (vY x u)
 |_,_,.nil,_=>λu hu=>by cases hu
 |y::xs,u::us,.cons r t,f=>λu' hu=>by
  rw[Y9,Z5] at f;rcases Zj.mp hu with rfl |hu
  .rw[ED r f.1];exact QM r rx f.1 fx
  .exact iM rx fx t f.2 u' hu
def G9 (x:V)(xs:List V):Bool:=xs.any λy=>GV y x
def Sf (K:Θ1)(neg:Bool):R2:=λx y H Q=>∃p xs,y=.ref p/\(bG K H p xs\/aQ K H p xs)/\iC x=true/\xs.all iC=true/\Q (.bl (if neg then !G9 x xs else G9 x xs)) H
def Bt:fq X (compareOp .In) (Sf X.K false):=by
 intro ae s σ H x y v u Q I rx ry h;let⟨p,xs,rfl,hq,fx,fs,q⟩:=h;cases ry;rcases hq with hq |hq
 .obtain⟨its,r,pl,hz⟩:=I.list hq;apply SeqAt.in_listAt (vY x) pl.isList (λw hw=>iM rx fx r fs w (by simpa using hw)) ⟨.bl _,H,I,(),?_⟩;rw[show its.toArray.any (vY x)=its.any (vY x) by simp,kG r fs];exact q
 .obtain⟨its,r,pl,hz⟩:=I.tuple hq;apply SeqAt.in_tupleAt (vY x) pl (λw hw=>iM rx fx r fs w (by simpa using hw)) ⟨.bl _,H,I,(),?_⟩;rw[show its.toArray.any (vY x)=its.any (vY x) by simp,kG r fs];exact q
def sE:fq X (compareOp .NotIn) (Sf X.K true):=by
 intro ae s σ H x y v u Q I rx ry h;let⟨p,xs,rfl,hq,fx,fs,q⟩:=h;cases ry;rcases hq with hq |hq
 .obtain⟨its,r,pl,hz⟩:=I.list hq;apply SeqAt.notIn_listAt (vY x) pl.isList (λw hw=>iM rx fx r fs w (by simpa using hw)) ⟨.bl _,H,I,(),?_⟩;rw[show its.toArray.any (vY x)=its.any (vY x) by simp,kG r fs];exact q
 .obtain⟨its,r,pl,hz⟩:=I.tuple hq;apply SeqAt.notIn_tupleAt (vY x) pl (λw hw=>iM rx fx r fs w (by simpa using hw)) ⟨.bl _,H,I,(),?_⟩;rw[show its.toArray.any (vY x)=its.any (vY x) by simp,kG r fs];exact q
def ia:ca X (.builtin "len") (λxs H Q=>∃p ys,xs=[.ref p]/\(bG X.K H p ys\/aQ X.K H p ys)/\Q (.int ys.length) H):=by
 intro ae s σ H xs us Q I r h;let⟨p,ys,rfl,hq,q⟩:=h;let⟨u,rfl,rx⟩:=vals1 r;cases rx;let hn:=jN;rcases hq with hq |hq
 .obtain⟨its,r',pl,hz⟩:=I.list hq;let dg:=r'.length;exact Calls.call_len_list pl.isList (by simp only[Z8]<;>omega) ⟨.int ys.length,H,I.tok _,⟨s.toks+1,by rw[Z8,dg]⟩,q⟩
 .obtain⟨its,r',pl,hz⟩:=I.tuple hq;let dg:=r'.length;exact len_tuple pl (by simp only[Z8]<;>omega) ⟨.int ys.length,H,I.tok _,⟨s.toks+1,by rw[Z8,dg]⟩,q⟩
def sH:ca X (.type "list") (λxs H Q=>∃p ys,xs=[.ref p]/\(bG X.K H p ys\/aQ X.K H p ys)/\∀l,H l=none->Q (.ref l) (aK H l (.lst ys))):=by
 intro ae s σ H xs us Q I r h;let⟨p,ys,rfl,hq,q⟩:=h;let⟨u,rfl,rx⟩:=vals1 r;cases rx;let jk:∀(its:Δ3),bp ys its->ys.length<=sizeLine->∀(h':Heap) (c':Nat),(∀b o',s.heap.get? b=some o'->h'.get? b=some o') ->
   h'.get? s.heap.objs.size=some { cls:=.type "list",dict:=none,data:=.seq its.toArray c',slots:=#[] }->EP X ae σ Q (.ref s.heap.objs.size) { s with heap:=h' }:=λits r' hz h' c' kp e =>
  ⟨.ref s.heap.objs.size,_,I.laid (t':=s.toks) kp (Ze _) (show b9 X.prog X.w _ h' _ (.lst ys) from⟨hz,its,c',r',e⟩),(),q _ (I.cb.fresh (Ze _))⟩
 rcases hq with hq |hq
 .obtain⟨its,r',pl,hz⟩:=I.list hq;let dg:=r'.length;let⟨o,ho,hc,n,hd⟩:=pl.isList;exact call_list_seq p (.inl rfl) ho hc hd (λh' c' kp e=>jk its r' hz h' c' kp e) (by simp only[Z8]<;>omega)
 .obtain⟨its,r',pl,hz⟩:=I.tuple hq;let dg:=r'.length;let⟨o,ho,hc,n,hd⟩:=pl;exact call_list_seq p (.inr rfl) ho hc hd (λh' c' kp e=>jk its r' hz h' c' kp e) (by simp only[Z8]<;>omega)
def pe:ca X (.type "tuple") (λxs H Q=>∃p ys,xs=[.ref p]/\((bG X.K H p ys/\∀l,H l=none->Q (.ref l) (aK H l (.tup ys)))\/(aQ X.K H p ys/\Q (.ref p) H))):=by
 intro ae s σ H xs us Q I r h;let⟨p,ys,rfl,h⟩:=h;let⟨u,rfl,rx⟩:=vals1 r;cases rx;rcases h with ⟨hq,q⟩ |⟨hq,q⟩
 .obtain⟨its,r',pl,hz⟩:=I.list hq;let dg:=r'.length;apply call_tuple_list pl.isList (λh' kp=>?_) (by simp only[Z8]<;>omega);let I1:Inv X ae σ H { s with heap:=h' }:=I.kept (t':=s.toks) kp;let I2:Inv X ae σ (aK H h'.objs.size (.tup ys)) { s with heap:=h'.push { cls:=.type "tuple",data:=.seq its.toArray } } :=
   I1.laid (t':=s.toks) (λb o e=>Zn _ e) (Ze _) (show b9 X.prog X.w _ _ _ (.tup ys) from⟨hz,its,r',IsTup.new _ _⟩)
  exact⟨.ref h'.objs.size,_,I2,(),q _ (I1.cb.fresh (Ze _))⟩
 .obtain⟨its,r',pl,hz⟩:=I.tuple hq;exact call_tuple_same pl ⟨.ref p,H,I,(),q⟩
def Re (K:Θ1)(T:String)(x:V)(H:Hp):Prop:=match x with
 |.str _=>T="str"
 |.int _=>T="int"
 |.ref p=>(T="list"/\∃xs,bG K H p xs)\/(T="tuple"/\∃o,K.lookup p=some o/\o.cls=.type "tuple"/\o.dict=none) \/
   (T="dict"/\((∃kvs,H p=some (.dK kvs))\/∃kvs,H p=some (.dT kvs)))\/(T="set"/\∃S n,H p=some (.set S n))
 |_=>False
def DW (I:Inv X ae σ H s)(r:RelV x v)(ty:Re X.K T x H) :
  s.TypeIs v T/\∀a,v=.ref a->∃ob,s.heap.get? a=some ob/\ob.dict=none:=by
 cases x with
 |str z =>
  let⟨t,rfl⟩:=r;cases (show T="str" from ty);exact⟨typeIs_str s z t,λ_ e=>nomatch e⟩
 |int i =>
  let⟨t,rfl⟩:=r;cases (show T="int" from ty);exact⟨typeIs_int s i t,λ_ e=>nomatch e⟩
 |ref p =>
  cases r
  rcases ty with ⟨rfl,xs,hq⟩ |⟨rfl,o,hk,hc,hd⟩ |⟨rfl,hk⟩ |⟨rfl,S,n,hk⟩
  .obtain⟨its,_,pl,_⟩:=I.list hq;apply⟨pl.isList.typeIs,λa e=>?_⟩;cases e;let⟨o,n,e,c,hd,_⟩:=pl;exact⟨o,e,hd⟩
  .apply⟨⟨o,I.sT p o hk,hc⟩,λa e=>?_⟩;cases e;exact⟨o,I.sT _ o hk,hd⟩
  .let z:∃o,s.heap.get? p=some o/\o.ExactDict:=by
    rcases hk with ⟨kvs,hk⟩ |⟨kvs,hk⟩
    .obtain⟨_,_,_,_,o,_,_,e,ex,_⟩:=I.cb p _ hk;exact⟨o,e,ex⟩
    .obtain⟨_,_,_,_,o,_,_,e,ex,_⟩:=I.cb p _ hk;exact⟨o,e,ex⟩
   let⟨o,e,ex⟩:=z;apply⟨⟨o,e,ex.1⟩,λa e2=>?_⟩;cases e2;exact⟨o,e,ex.2.1⟩
  .obtain⟨o,_,_,_,e,ex,_⟩:=I.cb p _ hk;apply⟨⟨o,e,ex.1⟩,λa e2=>?_⟩;cases e2;exact⟨o,e,ex.2.1⟩
 |_=>exact False.elim ty
def aa5 (K:Θ1)(T:String)(r:V->List V->Hp->VK->Prop)(to:TE):TE:=λσ H Q=>to σ H λx H1=>Re K T x H1/\r x [] H1 Q
def tBM (K:Θ1)(T:String)(r:V->List V->Hp->VK->Prop)(to:TE)(t:TA):TE:=λσ H Q=>to σ H λx H1=>Re K T x H1/\t σ H1 λxs H2=>r x xs H2 Q
variable {o e:Expr}{es:Ξ2}{to:TE}{t:TA}{name:Str}{qV jG:Pos}{T id:String}{r:V->List V->Hp->VK->Prop}
def Ef (pa:PlainAttrs T)(slot:Slot T name id)(Hc:typeOf (.builtin id)=pure (.type "method_descriptor"))(hm:W7 X id r)(ho:PE X o to)
  (ui:attributeBase o name X.env (eval o X.env)=eval o X.env:=by rfl) (uh:(qV.endLine == jG.line)=true:=by rfl):PE X (.Call (.Attribute o name qV) [] [] jG) (aa5 X.K T r to):=by
 intro ae s σ H Q I h;apply wpAny_Call_method0_late ui uh (bM (ho ae s σ H _ I h) λv s1 ⟨x,H1,I1,r1,ty,q1⟩=>?_);let⟨h1,h2⟩:=DW I1 r1 ty;exact⟨T,id,pa,slot,Hc,h1,h2,Calls.callWith_builtin rfl (PySem.evalArgs_none (hm ae s1 σ H1 x [] v [] Q I1 r1 .nil q1))⟩
end
def MtM (X:Cx)(id:String)(r:V->List V->Hp->VK->Prop):Prop :=
 ∀(ae:Γ2) (s:Shared) (σ:St) (H:Hp) (x:V) (xs:List V) (v:Value) (us:Δ3) (Q:VK),Inv X ae σ H s->RelV x v->bp xs us->r x xs H Q ->
  wpAny (model X.prog X.w) X.A (call (.builtin id) (v::us)) (EP X ae σ Q) X.xe s
theorem bp.one:∀{x:V}{us:Δ3},bp [x] us->∃u,us=[u]/\RelV x u
 |_,_,.cons r .nil=>⟨_,(),r⟩
section
variable {X:Cx}{ae:Γ2}{σ:St}{H:Hp}{s:Shared}{l b:Addr}{xs ys zs:List V}
def Inv.abw {its its':Δ3}{n:Nat}(I:Inv X ae σ H s)(hH:H l=some (.lst xs))
  (e:s.heap.get? l=some { cls:=.type "list",data:=.seq its.toArray n }) (hf:f its.toArray=its'.toArray) (hv:bp ys its') (hz:ys.length<=sizeLine) :
  Inv X ae σ (aK H l (.lst ys)) { s with heap:=s.heap.update l (Obj.mapSeq f),toks:=t' }:=by
 let q:=PySem.IsL.update e f;rw[hf] at q;apply I.write (x:=l) (e:=l) (by rw[hH];exact trivial) (.inl rfl) (λb' u hb hu=>(Xu s.heap (Obj.mapSeq f) (Ne.symm hb)).trans hu) ⟨_,q⟩ ?_;exact⟨hz,its',_,hv,q⟩
def Inv.NI (I:Inv X ae σ H s)(hv:bp ys its)(hz:ys.length<=sizeLine) :
  Inv X ae σ (aK H s.heap.objs.size (.lst ys)) { s with heap:=s.heap.push { cls:=.type "list",data:=.seq its.toArray },toks:=t' } :=
 I.laid (λ_ _ q=>Zn _ q) (Ze _) ⟨hz,its,0,hv,Zz _ rfl⟩
def Inv.fresh (I:Inv X ae σ H s):H s.heap.objs.size=none:=I.cb.fresh (Ze _)
def Inv.NH (I:Inv X ae σ H s)(hH:H l=some (.lst xs)):xs.length<=sizeLine/\∃(its:Δ3) (n:Nat),bp xs its/\xs.length=its.length/\s.heap.get? l=some { cls:=.type "list",data:=.seq its.toArray n }:=by
 let⟨z,its,n,r,e⟩:=I.cb l _ hH;exact⟨z,its,n,r,r.length,e⟩
end
section
variable {X:Cx}
def Jh:V->List V->Hp->VK->Prop:=λx vs H Q=>∃l xs y,x=.ref l/\vs=[y]/\H l=some (.lst xs)/\xs.length<sizeLine/\Q .cj (aK H l (.lst (xs++[y])))
def p6:MtM X "list.append" Jh:=by
 intro ae s σ H x vs v us Q I rx rv h;let⟨l,xs,y,rfl,rfl,hH,hz,q⟩:=h;cases rx;let⟨u,rfl,ru⟩:=rv.one;let⟨z,its,n,r,hl,e⟩:=I.NH hH;apply call_meets F.slot_list_append ⟨_,e,()⟩ F.entry_list_append (F.args_list_append_2 _ _) (PySem.list_append l its.toArray n u (by rw[Z8];omega)) ⟨e,?_⟩;apply⟨.cj,_,I.abw (its':=its++[u]) hH e (by simp) (r.append (.cons ru .nil)) ?_,(),q⟩;rw[Zt,Qx];omega
def TR:R2:=λx y H Q=>∃l b xs zs,x=.ref l/\y=.ref b/\H l=some (.lst xs)/\H b=some (.lst zs)/\xs.length+zs.length<=sizeLine/\∀p,H p=none->Q (.ref p) (aK H p (.lst (xs++zs)))
def Pj:fq X (binaryOp .Add) TR:=by
 intro ae s σ H x y v u Q I rx ry h;let⟨l,b,xs,zs,rfl,rfl,hH,hB,hz,q⟩:=h;cases rx;cases ry;let⟨z,its,n,r,hl,e⟩:=I.NH hH;let⟨z2,C8,n2,r2,KO,e2⟩:=I.NH hB;apply PySem.P.add_list e e2 ?_ (by rw[Z8,Z8];omega);let ea:its.toArray++C8.toArray=(its++C8).toArray:=by simp
 rw[ea];exact⟨.ref _,_,I.NI (t':=s.toks) (r.append r2) (by rw[Zt];omega),(),q _ I.fresh⟩
end
section
variable {prog:Program}{w:World}{A:Around}{E:Θ2}{s:Shared}
end
section
variable {X:Cx}
end
end L2
namespace Att
open PySem.W PySem.Calls PyProof.Rows
def mi:∀(ns:Γ3) (vs:Δ3),WellAll P h vs (ns.map WData.int)->IntsAre vs ns:=by
 intro ns;induction ns with
 |nil =>
  intro vs w;rw[List.map_nil] at w;cases w;exact .nil
 |cons n ns ih =>
  intro vs w;rw[Zm] at w;cases w with
  |cons a b =>
   cases a
   exact .cons _ _ (ih _ b)
def Bc {l:OpenLaw}{n:Nat}(hn:l.most=some n)
  (HS:l.row.toRowW.claim.pre args=true) (Ay:WellAll P h Tj args) :
  ∃a vs ns,Tj=[Value.ref a]/\args=[WData.list (ns.map WData.int)]/\h.get? a=some { cls:=.type "list",data:=.seq vs.toArray }/\IntsAre vs ns/\ns.length<=n:=by
 let vF:WShape.hasAll [] args [.list .int]=true:=(pre_splitW HS).1;let hc:l.pre.holds [] { args:=args }=true:=(pre_splitW HS).2;let⟨d,r,rfl,h1,h2⟩:=hasAllW_cons vF;obtain rfl:=hasAllW_nil h2;let⟨xs,rfl,h3⟩:=hasW_list h1;let⟨ns,rfl⟩:=items_int h3;let dg:ns.length<=n:=by
  unfold OpenLaw.pre at hc;let h4:(WTm.not (.lt (.lit (.int (n:Int))) (.len (.arg 0)))).holds [] { args:=[.list (ns.map .int)] }=true:=by
   let h4:=(holds_andW hc).1;rw[hn] at h4;exact h4
  let h5:=condW_of h4 (w_not (w_lt w_lit (w_len_list (w_arg rfl))));rw[Zb] at h5;apply Xd λq=>?_
  let q':(n:Int)<((ns.length:Nat):Int):=⋯
  first
   |(rw[decide_eq_true q'] at h5;exact absurd h5 ∅)
   |(simp at h5;omega)
 cases Ay with
 |cons w1 w2 =>
  cases w2
  cases w1 with
  |list ho oY=>exact⟨_,_,ns,(),(),ho,mi ns _ oY,dg⟩
def Bk (l:OpenLaw)(args:List WData):l.row.toRowW.claim.post args (.bool true) args=true :=
 postW_of (r:=l.row.toRowW) (X:=(true == true))
  (show WShape.has [] (.bool true) .bool=true by first |rfl |decide |simp[WShape.has,WShape.arms,WShape.armsAll])
  (show(WTm.eq .res (.lit (.bool true))).value [] { args:=args,res:=some (.bool true),after:=args }=some (.bool (true == true)) from w_eq_bool (w_res rfl) w_lit) rfl
def vw {l:OpenLaw}{n:Nat}
  (hn:l.most=some n) (SU:d.params.defaults=[])
  (call:∀(w:World) (eV bQ:Shared) (mg mb:Θ3) (fa:Addr) (o:Obj) (pm cd gE:Value) (a:Addr) (vs:Δ3) (ns:Γ3),
   Ground q loose [] XP w eV mg mb bQ.heap->YP w bQ.heap ->
   bQ.heap.get? fa=some o->o.data=.func (docDef d.name d.params d.body d.scope pm cd gE)->bQ.heap.CodeRec cd d.name->mg d.name=some (.ref fa) ->
   bQ.heap.get? a=some { cls:=.type "list",data:=.seq vs.toArray }->IntsAre vs ns->ns.length<=n->bQ.gens=#[] ->
   codeAny (model l.prog w) callerA (.call (.ref fa) ⟨[.ref a],[]⟩) (λr s'=>r=.ok (.ret (.bool true))/\OldK bQ.heap s'.heap/\s'.os=bQ.os/\AllBare s'.gens) bQ) :
  WalkO q loose XP YP l.row.toRowW d [] (λf vs=>PySem.call f vs):=by
 intro w eV bQ mg mb G Y fa o pm cd gE dV kV ho hd vX hD SJ hg args Tj as HS ajL hrd Ay hlo;obtain rfl:dV=.none:=Dflts.none hD SU;obtain rfl:kV=.none:=Dflts.noKw hD;let⟨a,vs,ns,rfl,rfl,NL,DJ,dg⟩:=Bc hn HS Ay;apply enter_call (codeAny_mono (call w eV bQ mg mb fa o pm cd gE a vs ns G Y ho (fd_plain hd) vX SJ NL DJ dg hg) λr s' hq=>?_);let⟨rfl,h2,h3,h4⟩:=hq;exact⟨.inl ⟨.bool true,.bool true,[],(),λ_=>rfl,.bool true,Bk l _,λ_=>⟨List.Pairwise.nil,λ_ hm=>(nomatch hm)⟩⟩,h2,h3,h4⟩
section
variable {prog:Program}{w:World}{A:Around}{E:Θ2}{s:Shared}{K:Frag}
end
end Att
namespace L2
open PySem.Spec PyProof.Rows
theorem pL:∀{vs:Δ3}{ns:Γ3},IntsAre vs ns->bp (ns.map V.int) vs
 |_,_,.nil=>.nil
 |_,_,.cons n t h=>.cons ⟨t,()⟩ (pL h)
def N4 (H:Hp):Prop:=∀b,H b=none\/∃o xs,H b=some (.ic o (.lst xs))
def FQ {P:Program}{w:World}{K:Θ1}{mg mb:Θ3}{CX:Cs}{k:Nat}{fa a:Addr}{fd:FuncData}{x:Str}{sp:Sp}{bQ:Shared}{vs:Δ3}{ns:Γ3}
  (KX:K.In bQ.heap) (RB:bQ.heap.Ns mainGlobals mg) (hb:bQ.heap.Ns builtinsNs mb) (hbb:∀x:Str,x ≠ "__name__"->mb x=bootBuiltins x) (abM:bQ.heap.NoLimit) (hse:bQ.heap.NoSeer) (hg:bQ.gens=#[])
  (ha:bQ.heap.get? a=some { cls:=.type "list",data:=.seq vs.toArray }) (hi:IntsAre vs ns) (hl:ns.length<=sizeLine) (hr:cS k callerA)
  (F:∀base:Heap,K.In base->base.Ns mainGlobals mg->aI P w K mg base CX k fa fd [x] sp) (V1:∀(s:Shared) (u:Value),BindsTo s fd ⟨[u],[]⟩ [(x,u)])
  (GJ:∀H:Hp,N4 H->bG K H a (ns.map V.int)->sp [.ref a] H (λv _=>v=.bl true) λ_ _ _=>False)
  (ε:∀H e s',CX [] H bQ (λ_ _ _=>False) e s'->False) :
  codeAny (model P w) callerA (.call (.ref fa) ⟨[.ref a],[]⟩) (λr s'=>r=.ok (.ret (.bool true))/\OldK bQ.heap s'.heap/\s'.os=bQ.os/\AllBare s'.gens) bQ:=by
 let rv:=pL hi;let Um:=hi.length;let UJ:∀H:Hp,N4 H->bG K H a (ns.map V.int)->j4 P w H bQ.heap->(∀b,H b≠none->b=a)->(H a≠none->K.lookup a=none) ->
   codeAny (model P w) callerA (.call (.ref fa) ⟨[.ref a],[]⟩) (λr s'=>r=.ok (.ret (.bool true))/\OldK bQ.heap s'.heap/\s'.os=bQ.os/\AllBare s'.gens) bQ:=by
  intro H hO hS cb hA hK;let sA:∀{b:Addr}{o:Obj},bQ.heap.get? b=some o->H b=none->(qQ bQ.heap H).get? b=some o:=λe n=>FT e n
  let Sk:∀{b:Addr}{o:Obj}{es:Array DictEntry}{ep:Nat},bQ.heap.get? b=some o->o.data=.dict es ep->H b=none:=λ{b o es ep} e d=>by
   cases q:H b with
   |none=>rfl
   |some u =>
    let e':b=a:=hA b (by rw[q];simp);subst e';rw[ha] at e;cases e;let d':Data.seq vs.toArray _=Data.dict es ep:=d;cases d'
  let Kz:∀{b:Addr}{m:Θ3},bQ.heap.Ns b m->(qQ bQ.heap H).Ns b m:=λ{b m} ⟨o,es,ep,e,d,r⟩=>⟨o,es,ep,sA e (Sk e d),d,r⟩
  let hKb:K.In (qQ bQ.heap H):=λb o e=>sA (KX b o e) (by
   cases q:H b with
   |none=>rfl
   |some u =>
    let e':b=a:=hA b (by rw[q];simp);subst e';rw[hK (by rw[q];simp)] at e;cases e)
  let noM:∀{b:Addr}{o:Obj},bQ.heap.get? b=some o->o.cls=.type "module"->H b=none:=λ{b o} e d=>by
   cases q:H b with
   |none=>rfl
   |some u =>
    let e':b=a:=hA b (by rw[q];simp);subst e';rw[ha] at e;cases e;exact absurd (show Value.type "list"=Value.type "module" from d) ∅
  let hM:Mod K mg (qQ bQ.heap H):=⟨hKb,Kz RB,⟨mb,Kz hb,hbb⟩,let ⟨mc,h1,h2⟩:=abM;⟨mc,Kz h1,h2⟩,let ⟨⟨mc,q1,q2⟩,⟨mm,q3,q4⟩,⟨mb',q5,q6⟩,⟨mg',bm,ob,q7,q8,q9,Ky,Mq⟩⟩:=hse;⟨⟨mc,Kz q1,q2⟩,⟨mm,Kz q3,q4⟩,⟨mb',Kz q5,q6⟩,⟨mg',bm,ob,Kz q7,q8,sA q9 (noM q9 Ky),Ky,Mq⟩⟩⟩;let e0:Ir P w K mg (qQ bQ.heap H) callerA [] bQ H:=⟨(),hM,λb o e=>JR e,Nat.le_of_eq (BR _ _),trivial,λb hb=>absurd (show b∈([]:List Addr) from hb) (by simp),cb,.of_eq hg⟩;apply codeAny_mono ((F _ hKb (Kz RB)).run callerA [] bQ H ⟨[.ref a],[]⟩ [.ref a] [.ref a] _ _ hr e0 (V1 bQ (.ref a)) (.cons rfl .nil) (GJ H hO hS)) λr s' h=>?_
  cases r with
  |error e=>exact(ε H e s' h).elim
  |ok fl =>
   cases fl with
   |next=>exact False.elim h
   |brk=>exact False.elim h
   |cont=>exact False.elim h
   |ret u =>
    let⟨v,H',os,bare,un,abJ,r',q⟩:=h;let q':v=.bl true:=q;subst q';obtain rfl:u=Value.bool true:=r';apply⟨(),OldK.of_keep λb o e=>?_,os,bare⟩;cases q:H b with
    |none=>exact un.keep b o e q (by intro z;exact absurd (show b∈([]:List Addr) from z) (by simp)) (by simp)
    |some u =>
     rcases hO b with z |⟨ob,xs,z⟩
     .rw[q] at z;cases z
     .let z2:=un.qT b ob _ z;let⟨e1,_⟩:=cb b _ z;let⟨e2,_⟩:=abJ b _ z2;rw[e] at e1;cases e1;exact e2
 cases hk:K.lookup a with
 |some o =>
  let e:=KX a o hk;rw[ha] at e;cases e;apply UJ (λ_=>none) (λ_=>.inl rfl) (.inr ⟨_,vs.toArray,_,hk,(),(),(),by rw[Z8,Um];exact hl,by simpa using rv⟩) (λb u z=>by have z':(none:Option HO)=some u:=z;cases z') (λb z=>absurd rfl z) λz=>absurd rfl z
 |none =>
  apply UJ (λb=>if b=a then some (.ic { cls:=.type "list",data:=.seq vs.toArray } (.lst (ns.map V.int))) else none) (λb=>?_) (.inl (.inr ⟨{ cls:=.type "list",data:=.seq vs.toArray },if_pos rfl⟩)) (λb u z=>?_) (λb z=>?_) λ_=>hk
  .by_cases hb:b=a
   .exact .inr ⟨_,_,if_pos hb⟩
   .exact .inl (if_neg hb)
  .by_cases hb:b=a
   .let z':=(if_pos hb).symm.trans z;cases z';subst hb;exact⟨ha,by rw[Zb];exact hl,vs,_,rv,ha⟩
   .let z':=(if_neg hb).symm.trans z;cases z'
  .by_cases hb:b=a
   .exact hb
   .exact absurd (if_neg hb) z
def Is {l:PySem.W.OpenLaw}{n k:Nat}{q:Program}{loose:Δ2}{XP:(Θ3)->Heap->Prop}{YP:World->Heap->Prop}{d:DefRec}{K:Params->Θ1}{CX:World->Cs}{sp:World->Sp}{x:Str}
  (qP:importsNone q=true) (hn:l.most=some n) (hn2:n<=sizeLine) (SU:d.params.defaults=[]) (hr:cS k callerA)
  (hY:∀(w:World) (h:Heap),YP w h->(K w.params).In h)
  (F:∀(w:World) (mg:Θ3) (fa:Addr) (h:Heap),(K w.params).In h->h.Ns mainGlobals mg->mg d.name=some (.ref fa) ->
   ∃fd:FuncData,(∀(s:Shared) (u:Value),BindsTo s fd ⟨[u],[]⟩ [(x,u)]) /\
    ∀base:Heap,(K w.params).In base->base.Ns mainGlobals mg->aI l.prog w (K w.params) mg base (CX w) k fa fd [x] (sp w))
  (GJ:∀(w:World) (H:Hp) (a:Addr) (ns:Γ3),ns.length<=n->N4 H->bG (K w.params) H a (ns.map V.int)->sp w [.ref a] H (λv _=>v=.bl true) λ_ _ _=>False)
  (ε:∀(w:World) (H:Hp) (s:Shared) (e:Value) (s':Shared),CX w [] H s (λ_ _ _=>False) e s'->False) :
  PySem.W.WalkO q loose XP YP l.row.toRowW d [] (λf vs=>PySem.call f vs):=by
 apply Att.vw hn SU λw eV bQ mg mb fa o pm cd gE a vs ns G Y ho hd vX SJ NL DJ dg hg=>?_
 let KX:=hY w _ Y;let⟨fd,hb,hF⟩:=F w mg fa _ KX G.T.g SJ;exact FQ KX G.T.g G.T.b G.T.builtins G.T.nolimit (G.T.seer qP) hg NL DJ (Zl dg hn2) hr hF hb (λH hO hS=>GJ w H a ns dg hO hS) λH e s'=>ε w H bQ e s'
def vO (s:Stmt):Arguments:=match s with
 |.FunctionDef _ a _ _ _ _ _ _ _ _=>a
 |_=>{ posonlyargs:=[],args:=[],vararg:=none,kwonlyargs:=[],kw_defaults:=[],kwarg:=none,defaults:=[] }
def sV (s:Stmt):List Stmt:=match s with
 |.FunctionDef _ _ b _ _ _ _ _ _ _=>b
 |_=>[]
def bF (s:Stmt):Scope:=match s with
 |.FunctionDef _ _ _ _ _ _ sc _ _ _=>sc
 |_=>{ kind:=.function,names:=[],isGenerator:=false,isCoroutine:=false }
abbrev cf:Cs:=λ_ _ _ _ _ _=>False
abbrev E0:XK:=λ_ _ _=>False
def aN:xh cf X E0:=λ_ _ _ _ _ _ _ h=>h.elim
structure cR (K:Θ1)(x qual:Str)(st:Stmt)(f:Addr)(fd:FuncData):Prop where
 ex:∃(oc:Value) (od:Option Addr) (kV gE pm:Value) (an:Option Addr) (bH ct:Value) (Rm:Array (Option Value)),
  fd=PySem.W.fnOf x qual (vO st) (sV st) (bF st) .none kV gE pm an bH ct/\K.lookup f=some ⟨oc,od,.func fd,Rm⟩/\PySem.W.codeIn K bH qual=true
 kp:PySem.W.keepIn K (.ref f)=true
section
variable {P:Program}{w:World}{K:Θ1}{mg:Θ3}{base:Heap}
def cR.ok {x qual:Str}{st:Stmt}{fd:FuncData}(F:cR K x qual st f fd)(S:ai N ps (bF st))(len:∀vs H Q E,sp vs H Q E->vs.length=ps.length)
  (DK:∀(bH:Value) (A:Around) (outer:List Env) (s:Shared) (H:Hp) (vs:List V) (Q:VK) (E:XK),cS k (A.deeper (envOfC qual (bF st) s.heap.objs.size f bH))->sp vs H Q E ->
   ∃t,jm (tU cf P w K mg base N qual (bF st) f bH A outer s H E).Ro (sV st) t/\t { nx:=λ_ H'=>Q .cj H',rt:=Q } (start N vs) H):aI P w K mg base cf (k+1) f fd ps sp:=by
 let⟨oc,od,kV,gE,pm,an,bH,ct,Rm,rfl,lk,vX⟩:=F.ex;apply V3 lk vX S len λA outer s H vs Q E hr GJ=>?_
 let⟨t,h,q⟩:=DK bH A outer s H vs Q E hr GJ;exact⟨t,h.Ro,q⟩
def cR.binds {x qual:Str}{st:Stmt}(F:cR K x qual st f fd)
  (h:∀(kV gE pm:Value) (an:Option Addr) (bH ct:Value) (us:Δ3),us.length=ps.length->bindArgs (PySem.W.fnOf x qual (vO st) (sV st) (bF st) .none kV gE pm an bH ct) ⟨us,[]⟩=pure (ps.zip us)):Binds K fd ps []:=by
 let⟨oc,od,kV,gE,pm,an,bH,ct,Rm,rfl,lk,vX⟩:=F.ex;exact .all (h kV gE pm an bH ct)
def wZ {x qual:Str}{st:Stmt}{kV gE pm bH ct:Value}(l:K.lookup f=some ⟨oc,od,.func (PySem.W.fnOf x qual (vO st) (sV st) (bF st) .none kV gE pm an bH ct),Rm⟩)
  (c:PySem.W.codeIn K bH qual=true) (k:PySem.W.keepIn K (.ref f)=true):cR K x qual st f (PySem.W.fnOf x qual (vO st) (sV st) (bF st) .none kV gE pm an bH ct):=⟨⟨oc,od,kV,gE,pm,an,bH,ct,Rm,(),l,c⟩,k⟩
end
def yE (hr:cS k A):A.units+1<cLine:=Nat.lt_of_le_of_lt (Nat.add_le_add_left (by decide:1<=64) _) hr.units
section
variable {X:Cx}
def pv (i:Nat)(hN:X.N[i]?=some x:=by rfl)(hv:Td X.env.scope x:=by first |exact Or.inl rfl |exact Or.inr (Or.inl rfl) |exact Or.inr (Or.inr rfl))(hd:(x == ("__debug__" : Str))=false:=by decide)
  (vX:(x == ("__classdict__" : Str))=false:=by decide):PE X (.Name x pos) (wc i):=O0 hN hv hd vX
end
def cP {A B:Prop}(h:B):if false=true then A else B:=by
 rw[if_neg Z4];exact h
def cL {A B:Prop}(h:A):if true=true then A else B:=by
 rw[if_pos rfl];exact h
def AO {c A B:Prop}[Decidable c](h1:c->A)(h2:¬ c->B):if c then A else B:=by
 by_cases h:c
 .rw[if_pos h];exact h1 h
 .rw[if_neg h];exact h2 h
def d5 (env:Env):List (Str×NameKind)->List (Str×Addr)->List (Str×Addr)
 |[],acc=>acc
 |(n,k)::r,acc=>if k == .free then d5 env r ((n,(env.cells.lookup n).getD 0)::acc) else d5 env r acc
theorem lN (f:Str×NameKind->List (Str×Addr)->Sem (ForInStep (List (Str×Addr))))
  (hf:∀n k cs,f (n,k) cs=if k == .free then (do let a <- cellOf env n;pure (.yield ((n,a)::cs))) else pure (.yield cs)) :
  ∀(names:List (Str×NameKind)) (acc:List (Str×Addr)),(∀x∈names,x.2=.free->(env.cells.lookup x.1).isSome=true)->forIn names acc f=pure (d5 env names acc)
 |[],acc,_=>by rw[List.forIn_nil];rfl
 |(n,k)::r,acc,h=>by
  rw[List.forIn_cons,hf];unfold d5;let hr:∀x∈r,x.2=.free->(env.cells.lookup x.1).isSome=true:=λx hx=>h x (Zk _ hx)
  by_cases hk:(k == NameKind.free)=true
  .rw[if_pos hk,if_pos hk];let e:=h (n,k) Zh (by simpa using hk);let⟨c,hc⟩:=Qe.mp e;unfold cellOf;simp only at hc;rw[hc];simp only[pure_bind,X2];exact lN f hf r _ hr
  .rw[if_neg hk,if_neg hk,pure_bind];exact lN f hf r _ hr
def Rv (h:∀x∈scope.names,x.2=.free->(env.cells.lookup x.1).isSome=true):closureFor scope env=pure (d5 env scope.names []):=by
 show(forIn scope.names ([]:List (Str×Addr)) _ >>= λcs=>pure cs)=_;rw[lN (env:=env) _ (λn k cs=>by cases hk:k == NameKind.free<;>simp[hk]) scope.names [] h];simp only[pure_bind]
theorem iQ:∀(names:List (Str×NameKind)) (acc:List (Str×Addr)),(∀x∈names,x.2=.free->(env.cells.lookup x.1).isSome=true) ->
  (d5 env names acc).lookup x=some c->env.cells.lookup x=some c\/acc.lookup x=some c
 |[],_,_,e=>.inr e
 |(n,k)::r,acc,h,e=>by
  unfold d5 at e;let hr:∀x∈r,x.2=.free->(env.cells.lookup x.1).isSome=true:=λx hx=>h x (Zk _ hx)
  by_cases hk:(k == NameKind.free)=true
  .rw[if_pos hk] at e;rcases iQ r _ hr e with q |q
   .exact .inl q
   .rw[Qg] at q;cases hb:x == n with
    |true =>
     rw[hb] at q;let hx:x=n:=by simpa using hb
     let⟨c',hc⟩:=Qe.mp (h (n,k) Zh (by simpa using hk));simp only at hc;rw[hc] at q;subst hx;rw[hc];exact .inl (by simpa using q)
    |false=>rw[hb] at q;exact .inr q
  .rw[if_neg hk] at e;exact iQ r _ hr e
theorem kT:∀(names:List (Str×NameKind)) (acc:List (Str×Addr)),((x,NameKind.free)∈names\/(acc.lookup x).isSome=true)->((d5 env names acc).lookup x).isSome=true
 |[],_,h=>h.elim (λe=>nomatch e) id
 |(n,k)::r,acc,h=>by
  unfold d5;by_cases hk:(k == NameKind.free)=true
  .rw[if_pos hk];apply kT r _ ?_;rcases h with h |h
   .rcases Zj.mp h with e |h
    .cases e;exact .inr (by rw[Qg];simp)
    .exact .inl h
   .apply .inr ?_;rw[Qg];split
    .rfl
    .exact h
  .rw[if_neg hk];apply kT r _ ?_;rcases h with h |h
   .rcases Zj.mp h with e |h
    .cases e;exact absurd ∅ hk
    .exact .inl h
   .exact .inr h
theorem mV:∀(names:List (Str×NameKind)) (k:Nat) (acc:List (Str×Addr)),(cellsFrom k names acc).lookup x=some c->k<=c\/(acc.lookup x=some c/\(x,NameKind.cell)∉names)
 |[],_,_,e=>.inr ⟨e,by simp⟩
 |(n,kd)::r,k,acc,e=>by
  unfold cellsFrom at e;by_cases hk:(kd == NameKind.cell)=true
  .rw[if_pos hk] at e;rcases mV r _ _ e with q |⟨q,nr⟩
   .exact .inl ⋯
   .rw[Qg] at q;cases hb:x == n with
    |true=>rw[hb] at q;cases q;exact .inl (Ze _)
    |false =>
     rw[hb] at q;apply .inr ⟨q,λz=>?_⟩;rcases Zj.mp z with z |z
     .cases z;simp at hb
     .exact nr z
  .rw[if_neg hk] at e;rcases mV r _ _ e with q |⟨q,nr⟩
   .exact .inl q
   .apply .inr ⟨q,λz=>?_⟩;rcases Zj.mp z with z |z
    .cases z;exact hk (by simp)
    .exact nr z
theorem xf:∀(names:List (Str×NameKind)) (k:Nat) (acc:List (Str×Addr)),(∀p∈acc,p.2<k)->(∀p q,p∈acc->q∈acc->p.2=q.2->p.1=q.1)->∀p q,p∈cellsFrom k names acc->q∈cellsFrom k names acc->p.2=q.2->p.1=q.1
 |[],_,_,_,hi,p,q,hp,hq,e=>hi p q hp hq e
 |(n,kd)::r,k,acc,hb,hi,p,q,hp,hq,e=>by
  unfold cellsFrom at hp hq;by_cases hk:(kd == NameKind.cell)=true
  .rw[if_pos hk] at hp hq;apply xf r (k+1) ((n,k)::acc) (λz hz=>?_) (λy z hy hz e=>?_) p q hp hq e
   .rcases Zj.mp hz with rfl |hz
    .exact Nat.lt_succ_self _
    .exact Nat.lt_succ_of_lt (hb z hz)
   .rcases Zj.mp hy with hy |hy<;>rcases Zj.mp hz with hz |hz
    .rw[hy,hz]
    .subst hy;exact absurd (hb z hz) (by rw[<- e];exact Ym _)
    .subst hz;exact absurd (hb y hy) (by rw[e];exact Ym _)
    .exact hi y z hy hz e
  .rw[if_neg hk] at hp hq;exact xf r k acc hb hi p q hp hq e
theorem sv:∀(names:List (Str×NameKind)) (h:Heap) (acc:List (Str×Addr)) (p:Str×Addr),p∈cellsFrom h.objs.size names acc->p∈acc\/((pushCells h names).IsCell p.2 none/\h.objs.size<=p.2)
 |[],_,_,_,e=>.inl e
 |(n,kd)::r,h,acc,p,e=>by
  unfold cellsFrom at e;unfold pushCells;by_cases hk:(kd == NameKind.cell)=true
  .rw[if_pos hk] at e ⊢;let hs:(h.push { cls:=.type "cell",data:=.cell none }).objs.size=h.objs.size+1:=Y6 ..;rw[<- hs] at e;rcases sv r _ _ p e with q |⟨q,l⟩
   .rcases Zj.mp q with rfl |q
    .exact .inr ⟨Heap.IsCell.keeps ⟨_,Zz _ rfl,()⟩ (pushCells_keeps _ _),Ze _⟩
    .exact .inl q
   .exact .inr ⟨q,⋯⟩
  .rw[if_neg hk] at e ⊢;exact sv r h acc p e
def vf
  (hQ:Q (newEnv scope s.heap.objs.size globals (cellsFrom (s.heap.objs.size+1) scope.names cl) qual none .none (some outer) builtinsNs) { s with heap:=pushCells (s.heap.push { cls:=.type "dict",data:=.dict #[] }) scope.names }) :
  wpAny M A (newFunctionEnv scope globals cl [] qual none .none (some outer)) Q E s:=by
 simp only[newFunctionEnv,Option.isSome_some,if_true];apply Za (wpAny_alloc ?_);apply Za (wpAny_layCells _ (λname kind cells=>by cases hkc:kind == NameKind.cell<;>simp[hkc]) _ _ _ _ ?_);rw[show({ s with heap:=s.heap.push { cls:=.type "dict",data:=.dict #[] } }:Shared).heap.objs.size=s.heap.objs.size+1 from Y6 ..];rw[List.forIn_nil];exact Za (wpAny_pure (wpAny_pure hQ))
def ut (scope:Scope)(C:Addr)(env:Env):Env:=compEnvC scope (cellsFrom (C+1) scope.names (d5 env scope.names [])) C env
def cO (X:Cx)(scope:Scope)(C:Addr)(N:Δ2)(fp:List Addr)(s:Shared)(H:Hp):Cx where
 prog:=X.prog
 w:=X.w
 K:=X.K
 mg:=X.mg
 base:=X.base
 A:=X.A
 N:=N
 eV:=s
 dm:=H
 env:=ut scope C X.env
 outer:=X.stack
 stack:=X.stack
 ex:=fp
 fn:=λx=>decide ((x,NameKind.cell)∈scope.names)
 calm:=X.calm
 pn:=[]
 xe:=λ_ _=>False
def dH (X:Cx)(eG:Ξ2)(t:TT):Prop :=
 ∀(ae:Γ2) (s:Shared) (σ:St) (H:Hp) (Q:Bool->Hp->Prop),Inv X ae σ H s->t σ H Q ->
  wpAny (model X.prog X.w) X.A (forIn eG true λc r=>if r=true then do let ok <- isTrue c X.env (eval c X.env);pure (ForInStep.yield ok) else pure (ForInStep.yield r)) (TP X ae σ Q) X.xe s
def Nl:TT:=λ_ H Q=>Q true H
def Ch:dH X [] Nl:=λ_ s σ H Q I h=>wpAny_tests_nil ⟨H,I,h⟩
def kN (h:PT X c t):dH X [c] t:=λae s σ H Q I q=>wpAny_tests_one (h ae s σ H Q I q)
def dS (own:Nat)(cap:List Nat)(σ:St):St:=List.replicate own none++cap.map λi=>(σ[i]?).getD none
structure aL (X:Cx)(scope:Scope)(own:Δ2)(cap:Δ2)(ix:List Nat):Prop where
 kind:scope.kind=.function
 names:∀x∈scope.names,x.2=.local->scope.names.lookup x.1=some .local
 nd:(scope.names.map (·.1)).Nodup
 frees:∀x∈scope.names,x.2=.free->X.env.kindOf x.1=some .cell\/X.env.kindOf x.1=some .free
 ab3:∀(j:Nat) (x:Str),cap[j]?=some x->(x,NameKind.free)∈scope.names
 at':∀(j:Nat) (x:Str),cap[j]?=some x->∃i,ix[j]?=some i/\X.N[i]?=some x
 len:cap.length=ix.length
def hW (h:(relabel scope env).names.lookup x=some k):(x,k)∈scope.names\/(k=.cell/\(x,NameKind.free)∈scope.names):=by
 let m:=Xm h;let⟨⟨n,k'⟩,hm,e⟩:=Zd.mp m
 grind
def oG {names:List (Str×NameKind)}(nd:(names.map (·.1)).Nodup)(h:(x,k)∈names)(h':(x,k')∈names):k=k':=by
 induction names with
 |nil=>cases h
 |cons p r ih =>
  rw[Zm,Z9] at nd;rcases Zj.mp h with e |h<;>rcases Zj.mp h' with e' |h'
  .rw[<- e'] at e;cases e;rfl
  .exact absurd (Zd.mpr ⟨_,h',by rw[<- e]⟩) nd.1
  .exact absurd (Zd.mpr ⟨_,h,by rw[<- e']⟩) nd.1
  .exact ih nd.2 h h'
section
def Inv.block (I:Inv X ae σ H s)(B:aL X scope own cap ix){fp:List Addr}(hf:∀b∈fp,eR X ae H b)(ho:∀b∈fp,∃o,s.heap.get? b=some o) :
  Inv (cO X scope s.heap.objs.size (own++cap) fp s H) [] (dS own.length ix σ) H { s with heap:=pushCells (s.heap.push { cls:=.type "dict",data:=.dict #[] }) scope.names }:=by
 let has:∀x∈scope.names,x.2=.free->(X.env.cells.lookup x.1).isSome=true:=λx hx hk=>by
  let⟨c,e⟩:=I.ok.has x.1 (B.frees x hx hk);rw[e];rfl
 let keep:∀b o,s.heap.get? b=some o->(pushCells (s.heap.push { cls:=.type "dict",data:=.dict #[] }) scope.names).get? b=some o:=λb o e=>pushCells_keeps _ _ b o (Zn _ e)
 let old:∀x c,X.env.cells.lookup x=some c->c<s.heap.objs.size:=λx c e=>let ⟨v,q⟩:=I.cell x c e;q.lt
 let su:∀x c,(cellsFrom (s.heap.objs.size+1) scope.names (d5 X.env scope.names [])).lookup x=some c->s.heap.objs.size+1<=c\/(X.env.cells.lookup x=some c/\(x,NameKind.cell)∉scope.names):=λx c e=>by
  rcases mV _ _ _ e with q |⟨q,nm⟩
  .exact .inl q
  .rcases iQ _ _ has q with q |q
   .exact .inr ⟨q,nm⟩
   .cases q
 let mU:∀p∈d5 X.env scope.names [],X.env.cells.lookup p.1=some p.2:=by
  let S8:∀(names:List (Str×NameKind)) (acc:List (Str×Addr)),(∀x∈names,x.2=.free->(X.env.cells.lookup x.1).isSome=true)->(∀p∈acc,X.env.cells.lookup p.1=some p.2)->∀p∈d5 X.env names acc,X.env.cells.lookup p.1=some p.2:=by
   intro names;induction names with
   |nil=>intro acc _ h p hp;exact h p hp
   |cons y r ih =>
    intro acc h h2 p hp;let⟨n,k⟩:=y;unfold d5 at hp;by_cases hk:(k == NameKind.free)=true
    .rw[if_pos hk] at hp;apply ih _ (λx hx=>h x (Zk _ hx)) (λq hq=>?_) p hp;rcases Zj.mp hq with rfl |hq
     .obtain⟨c,e⟩:=Qe.mp (h (n,k) Zh (by simpa using hk));simp only at e ⊢;rw[e];rfl
     .exact h2 q hq
    .rw[if_neg hk] at hp;exact ih _ (λx hx=>h x (Zk _ hx)) h2 p hp
  exact S8 _ _ has (λp hp=>nomatch hp)
 let ab0:∀x y c,(cellsFrom (s.heap.objs.size+1) scope.names (d5 X.env scope.names [])).lookup x=some c->(cellsFrom (s.heap.objs.size+1) scope.names (d5 X.env scope.names [])).lookup y=some c->x=y:=λx y c e1 e2 =>
  xf scope.names (s.heap.objs.size+1) (d5 X.env scope.names []) (λp hp=>Nat.lt_succ_of_lt (old p.1 p.2 (mU p hp)))
   (λp q hp hq e=>I.ok.inj p.1 q.1 p.2 (mU p hp) (by rw[e];exact mU q hq)) (x,c) (y,c) (Xm e1) (Xm e2) rfl
 let V6:∀x c,(cellsFrom (s.heap.objs.size+1) scope.names (d5 X.env scope.names [])).lookup x=some c->∃v,(pushCells (s.heap.push { cls:=.type "dict",data:=.dict #[] }) scope.names).IsCell c v:=λx c e=>by
  let m:=Xm e;let hs:(s.heap.push { cls:=.type "dict",data:=.dict #[] }).objs.size=s.heap.objs.size+1:=Y6 ..;rw[<- hs] at m;rcases sv _ _ _ _ m with q |⟨q,_⟩
  .obtain⟨v,z⟩:=I.cell _ _ (mU _ q);exact⟨v,z.keeps keep⟩
  .exact⟨none,q⟩
 let UF:∀b∈fp,b<s.heap.objs.size:=λb hb=>let ⟨o,e⟩:=ho b hb;Zr e
 apply⟨⟨I.ok.mod,?_,I.ok.glob,I.ok.blt,Ze _,ab0,λx hx=>?_,λx c hfx e=>?_,I.ok.hd,I.ok.frames,.inl rfl,λb hb=>⟨?_,λx c e=>?_⟩,I.bs,Zl I.ok.KU I.sz,λb o e hb=>?_,λb hb hz=>?_,I.stack,I.zb⟩,
  rfl,I.bare,Un.kept keep,⟨λ_=>none,(Heap.Ns.new s.heap (.type "dict")).keeps (pushCells_keeps _ _),λi x v h1 h2 h3=>?_⟩,V6,I.cb.fresh (Ze _),λx c e=>?_,λp hp=>absurd (show p∈([]:Γ2) from hp) (by simp),I.cb.kept keep,?_⟩
 .exact B.kind
 .let vE:(relabel scope X.env).names.lookup x=some .cell\/(relabel scope X.env).names.lookup x=some .free:=hx;have:((cellsFrom (s.heap.objs.size+1) scope.names (d5 X.env scope.names [])).lookup x).isSome=true:=by
   let fr:(x,NameKind.free)∈scope.names->((cellsFrom (s.heap.objs.size+1) scope.names (d5 X.env scope.names [])).lookup x).isSome=true:=λz=>PySem.W.cellsFrom_some _ _ _ (.inr (kT _ _ (.inl z)))
   let ce:(x,NameKind.cell)∈scope.names->((cellsFrom (s.heap.objs.size+1) scope.names (d5 X.env scope.names [])).lookup x).isSome=true:=λz=>by
    let S8:∀(names:List (Str×NameKind)) (k:Nat) (acc:List (Str×Addr)),(x,NameKind.cell)∈names->((cellsFrom k names acc).lookup x).isSome=true:=by
     intro names;induction names with
     |nil=>intro _ _ z;cases z
     |cons y r ih =>
      intro k acc z;let⟨n,kd⟩:=y;unfold cellsFrom;by_cases hk:(kd == NameKind.cell)=true
      .rw[if_pos hk];rcases Zj.mp z with e |z
       .cases e
        exact PySem.W.cellsFrom_some _ _ _ (.inr (by rw[Qg];simp))
       .exact ih _ _ z
      .rw[if_neg hk];rcases Zj.mp z with e |z
       .cases e;exact absurd ∅ hk
       .exact ih _ _ z
    exact S8 _ _ _ z
   rcases vE with q |q
   .rcases hW q with q |⟨_,q⟩
    .exact ce q
    .exact fr q
   .rcases hW q with q |⟨e,_⟩
    .exact fr q
    .cases e
  exact Qe.mp this
 .let hm:(x,NameKind.cell)∈scope.names:=of_decide_eq_true hfx;rcases su x c e with q |⟨_,nm⟩
  .exact Zl (Xx _) q
  .exact absurd hm nm
 .exact Ye (UF b hb)
 .rcases su x c e with q |⟨q,_⟩
  .exact Xv (Yl (UF b hb) (Zl (Xx _) q))
  .exact(hf b hb).2.2.2.2.1 x c q
 .rcases(hf b hb).2.2.2.1 with z |z
  .exact I.ok.C5 b o e z
  .exact absurd (Yl (Zr e) (Zl I.ok.KU z)) (Ym _)
 .rcases Zj.mp (I.wG b hz) with e |z
  .exact(hf b hb).2.1 e
  .exact(hf b hb).2.2.1 z
 .
  let h1:(own++cap)[i]?=some x:=h1;let hi:own.length<=i:=by
   by_cases hi:i<own.length
   .unfold dS at h2;rw[Zq (by simpa using hi),Y8,if_pos hi] at h2;cases h2
   .omega
  rw[Yi hi] at h1;unfold dS at h2;rw[Yi (by simpa using hi),Qn,Zo] at h2;let⟨j,hj,hN⟩:=B.at' _ _ h1;rw[hj] at h2;simp only[Y2,Option.some.injEq] at h2;let η:σ[j]?=some (some v):=by
   cases q:σ[j]? with
   |none=>rw[q] at h2;simp at h2
   |some o=>rw[q] at h2;simp at h2;rw[h2]
  let fm:=B.ab3 _ _ h1;let kd:=B.frees _ fm rfl;let⟨m,hn,hl⟩:=I.loc;let⟨u,r,l⟩:=hl j x v hN η (by rcases kd with k |k;exact .inr (.inl k);exact .inr (.inr k));apply⟨u,r,.inr ?_⟩;let V5:∃c,X.env.cells.lookup x=some c/\s.heap.IsCell c (some u):=by
   rcases l with ⟨k,_⟩ |⟨_,c,e,z⟩
   .simp only at kd;rw[k] at kd;rcases kd with k |k<;>cases k
   .exact⟨c,e,z⟩
  let⟨c,ec,zc⟩:=V5;let VL:(x,NameKind.cell)∉scope.names:=λz=>by have:=oG B.nd z fm;cases this
  apply⟨?_,c,?_,zc.keeps keep⟩
  .let ζ:(relabel scope X.env).names.lookup x=some .local\/(relabel scope X.env).names.lookup x=some .cell\/(relabel scope X.env).names.lookup x=some .free:=h3;rcases ζ with q |q |q
   .rcases hW q with q |⟨e,_⟩
    .have:=oG B.nd q fm;cases this
    .cases e
   .exact .inl q
   .exact .inr q
  .show(cellsFrom (s.heap.objs.size+1) scope.names (d5 X.env scope.names [])).lookup x=some c;let⟨c',e'⟩:=Qe.mp (PySem.W.cellsFrom_some (x:=x) scope.names (s.heap.objs.size+1) (d5 X.env scope.names []) (.inr (kT _ _ (.inl fm))));rw[e'];rcases mV _ _ _ e' with q |⟨q,_⟩
   .exfalso;let m:=Xm e';let S8:∀(names:List (Str×NameKind)) (k:Nat) (acc:List (Str×Addr)),(x,NameKind.cell)∉names->(cellsFrom k names acc).lookup x=acc.lookup x:=by
     intro names;induction names with
     |nil=>intro _ _ _;rfl
     |cons y r ih =>
      intro k acc nm;let⟨n,kd⟩:=y;unfold cellsFrom;by_cases hk:(kd == NameKind.cell)=true
      .rw[if_pos hk,ih _ _ (λz=>nm (Zk _ z)),Qg];have:(x == n)=false:=by
        simp only[beq_eq_false_iff_ne];intro e;subst e;have:kd=.cell:=by simpa using hk
        subst this;exact nm Zh
       rw[this]
      .rw[if_neg hk,ih _ _ (λz=>nm (Zk _ z))]
    rw[S8 _ _ _ VL] at e';rcases iQ _ _ has e' with z |z
    .exact absurd (Yl (old _ _ z) (Zl (Xx _) q)) (Ym _)
    .cases z
   .rcases iQ _ _ has q with z |z
    .rw[ec] at z;rw[z]
    .cases z
 .rcases su x c e with q |⟨q,_⟩
  .exact I.cb.fresh (Zl (Xx _) q)
  .exact I.jy x c q
 .unfold dS;show _=(own++cap).length;rw[Zt,Zt,Qn,Zb,B.len]
end
def gK (g:TG)(tt:TT)(te:TE)(J:It)(acc:Addr)(ao:St)(dm:Hp)(Q:VK):Prop :=
 ∃W:Nat->Nat->St->Hp->Prop,(∃m,W 0 m ao (aK dm acc (.lst [])))/\∀i m aR H',W i m aR H' ->
  (J.stop i H'/\Q (.ref acc) H') \/
  (J.go i H'/\∃N:St->Hp->Prop,(∀cA H2,N cA H2->∃m',m'<m/\W (i+1) m' cA H2)/\∀x H2,J.sS i H' x H2->g x aR H2 λga H3=>tt ga H3 λb H4 =>
   if b=true then te ga H4 λy H5=>∃ys,H5 acc=some (.lst ys)/\ys.length<sizeLine/\N ga (aK H5 acc (.lst (ys++[y]))) else N ga H4)
def yj (wi:TI)(g:TG)(tt:TT)(te:TE)(own:Nat)(ix:List Nat):TE:=λσ H Q=>wi σ H λJ H1=>∀acc,H1 acc=none->gK g tt te J acc (dS own ix σ) H1 Q
def We (prog:Program)(w:World)(A:Around)(tg:Expr)(eG:Ξ2)(env:Env)(it:Value)(R:Result->Shared->Prop)(ST:(Shared->Prop)->Shared->Prop)(I:Nat->Shared->Prop):Prop :=
 ∀n s,I n s->wpAny (model prog w) A (pyNext it) (λr bQ=>match r with
   |none=>R (.ok .next) bQ
   |some v=>wpAny (model prog w) A (letOwnedTupleGo tg it v) (λ_ K3=>wpAny (model prog w) A (assign tg env v) (λ_ df =>
     wpAny (model prog w) A (forIn eG true λc r=>if r=true then do let ok <- isTrue c env (eval c env);pure (ForInStep.yield ok) else pure (ForInStep.yield r)) (λok iA =>
      if ok=true then ST (λs'=>∃m,m<n/\I m s') iA else ∃m,m<n/\I m iA) (λ_ _=>False) df) (λ_ _=>False) K3) (λ_ _=>False) bQ) (λ_ _=>False) s
def yQ (prog:Program)(w:World)(A:Around)(tg:Expr)(eG:Ξ2)(env:Env)(it:Value)(ce:Expr)(lv:Nat)(acc:Value)(ST:(Shared->Prop)->Shared->Prop):Prop :=
 ∀R I,We prog w A tg eG env it R ST I->∀n s,I n s->codeAny (model prog w) A (.compLoop ce lv it acc env) R s
def mO {prog:Program}{w:World}{A:Around}{ce tg:Expr}{eG:Ξ2}{lv:Nat}{it acc:Value}{env:Env}{ps:Pos}{ST:(Shared->Prop)->Shared->Prop}{tail:Bool->Sem Fin}(hT:compTurn ce lv it acc env=(do
   standAt ps
   match <- pyNext it with
   |none=>pure (.done .next)
   |some v =>
    letOwnedTupleGo tg it v
    assign tg env v
    let ok <- forIn eG true λc r=>if r=true then do let ok <- isTrue c env (eval c env);pure (ForInStep.yield ok) else pure (ForInStep.yield r)
    tail ok))
  (h1:∀(G:Shared->Prop) (R:Fin->Shared->Prop) E s,ST G s->(∀s,G s->R (.again (.compLoop ce lv it acc env)) s)->wpAny (model prog w) A (tail true) R E s)
  (h0:tail false=again (.compLoop ce lv it acc env):=by rfl) (hd:(model prog w).den (.compLoop ce lv it acc env)=(compTurn ce lv it acc env).onRaise (λx=>do noteFrame x env;theTreesLotGoes x):=by rfl) (hA:A.under (.compLoop ce lv it acc env)=A:=by rfl):yQ prog w A tg eG env it ce lv acc ST:=by
 intro R I v9 n s h;apply codeAny_loop rfl I (λn s hI=>?_) n h;rw[hd,hA,hT];apply wpAny_noted ?_;apply Za (wpAny_standAt (Za (wpAny_mono (v9 n s hI) (λr bQ HQ=>?_) λ_ _ h'=>h'.elim)));cases r with
 |none=>exact wpAny_pure HQ
 |some v =>
  apply Za (wpAny_mono HQ (λ_ K3 VY=>?_) λ_ _ h'=>h'.elim);apply Za (wpAny_mono VY (λ_ df wx=>Za (wpAny_mono wx (λok iA HP=>?_) λ_ _ h'=>h'.elim)) λ_ _ h'=>h'.elim);cases ok with
  |false=>rw[h0];exact wpAny_pure ⟨(),HP⟩
  |true=>exact h1 _ _ _ iA HP λs h=>⟨(),h⟩
def tLp (g:TG)(tt:TT)(Cu:St->Hp->(St->Hp->Prop)->Prop)(J:It)(ao:St)(dm:Hp)(Z:St->Hp->Prop):Prop :=
 ∃W:Nat->Nat->St->Hp->Prop,(∃m,W 0 m ao dm)/\∀i m aR H',W i m aR H' ->
  (J.stop i H'/\Z aR H') \/
  (J.go i H'/\∃N:St->Hp->Prop,(∀cA H2,N cA H2->∃m',m'<m/\W (i+1) m' cA H2)/\∀x H2,J.sS i H' x H2->g x aR H2 λga H3=>tt ga H3 λb H4=>if b=true then Cu ga H4 N else N ga H4)
def LK {X:Cx}{P:Γ2}{σ:St}{H:Hp}{s:Shared}{tg ce:Expr}{eG:Ξ2}{g:TG}{tt:TT}{Cu:St->Hp->(St->Hp->Prop)->Prop}{J:It}{fp:List Addr}{it:Addr}{tn:Nat->Heap->Prop}{lv:Nat}{acc:Value}{ST:(Shared->Prop)->Shared->Prop}{Z:St->Hp->Prop}{R:Result->Shared->Prop}
  (hc:X.calm=true) (ex:X.xe=λ_ _=>False) (L:yQ X.prog X.w X.A tg eG X.env (.ref it) ce lv acc ST) (hg:PG X tg g) (ZU:dH X eG tt)
  (hel:∀P σ H s N (G:Shared->Prop),Inv X P σ H s->Cu σ H N->(∀aR H' s',Inv X P aR H' s'->N aR H'->G s')->ST G s)
  (T:Turn X.prog X.w X.K tg J fp it tn) (st:tn 0 s.heap) (fk:∀H',(∀b∈fp,H' b=none)->∀b∈fp,eR X P H' b) (fr:∀b∈fp,H b=none) (I:Inv X P σ H s) (q:tLp g tt Cu J σ H Z)
  (hR:∀aR H' s',Inv X P aR H' s'->Z aR H'->R (.ok .next) s'):codeAny (model X.prog X.w) X.A (.compLoop ce lv (.ref it) acc X.env) R s:=by
 let⟨W,⟨m0,w0⟩,v9⟩:=q;apply L R (λn s'=>∃i aR H',Inv X P aR H' s'/\tn i s'.heap/\(∀b∈fp,H' b=none)/\W i n aR H') ?_ m0 s ⟨0,_,_,I,st,fr,w0⟩;rintro n s5 ⟨i,Ao,H5,I5,sK,WX,w5⟩;rcases v9 i n Ao H5 w5 with ⟨stop,qn⟩ |⟨go,N,hN,step⟩
 .apply bM (T.done X rfl rfl rfl hc i P s5 Ao H5 (λ_ _=>False) I5 (fk _ WX) sK stop) λr s6 ⟨hr,I6⟩=>?_
  subst hr;exact hR _ _ _ I6 qn
 .apply bM (T.item X rfl rfl rfl hc i P s5 Ao H5 (λ_ _=>False) I5 (fk _ WX) sK go) λr s6 ⟨u,hr,h6⟩=>?_
  subst hr;apply bM h6 λ_ s7 ⟨x,H7,I7,r7,y7,YG,fr7⟩=>?_
  let a1:=hg _ s7 Ao H7 x u _ (I7.pinned (fk _ fr7) (T.obj _ _ YG)) r7 (step x H7 y7);rw[ex] at a1;apply bM a1 λ_ s8 ⟨σ8,H8,I8,q8⟩=>?_
  let a2:=ZU _ s8 σ8 H8 _ I8 q8;rw[ex] at a2;apply bM a2 λb s9 ⟨H9,I9,q9⟩=>?_
  let again:∀aR H' s',Inv X (P++nI fp s7.heap) aR H' s'->N aR H'->∃m,m<n/\∃i aR H',Inv X P aR H' s'/\tn i s'.heap/\(∀b∈fp,H' b=none)/\W i m aR H':=λaR H' s' I' n'=>by
   let⟨m',hm,w'⟩:=hN aR H' n';let pn:∀b∈fp,∀o,s7.heap.get? b=some o->_:=λb iq o e=>I'.pin (b,o) (Yn _ (Yn _ (jU iq e)))
   apply⟨m',hm,i+1,aR,H',I'.gx,T.keep _ _ _ YG λb iq o e=>(pn b iq o e).1,λb iq=>?_,w'⟩;let⟨o,e,d⟩:=T.obj _ _ YG b iq;exact(pn b iq o e).2.1
  cases b with
  |false=>exact again _ _ _ I9 q9
  |true=>exact hel _ _ _ _ _ _ I9 q9 again
section
def yM {ce:Expr}{Cu:Addr->St->Hp->(St->Hp->Prop)->Prop}{ST:Env->Addr->(Shared->Prop)->Shared->Prop}{o:HO}{ob:Obj}{ae:Γ2}{σ:St}{H2:Hp}{s2:Shared}{J:It}{fp:List Addr}{it:Addr}{tn:Nat->Heap->Prop}{Q:VK}{E:Θ2}{RR:Value->Addr->Result->Shared->Prop}
  (B:aL X scope own cap ix) (hc:X.calm=true) (L:∀C D,yQ X.prog X.w X.A tg eG (ut scope C X.env) (.ref it) ce 0 (.ref D) (ST (ut scope C X.env) D))
  (m4:∀acc env R s,codeAny (model X.prog X.w) X.A (.compLoop ce 0 (.ref it) acc env) R s->wpAny (model X.prog X.w) X.A (pyIter (.ref it)) (λSx s'=>codeAny (model X.prog X.w) X.A (.compLoop ce 0 Sx acc env) R s') (notedBy (model X.prog X.w) X.A env λx s'=>R (.error x) s') s->codeAny (model X.prog X.w) X.A (.compStart ce 0 (.ref it) acc env) R s)
  (hb:∀C fp s H,PG (cO X scope C (own++cap) fp s H) tg g/\dH (cO X scope C (own++cap) fp s H) eG tt/\∀D P σ H' s' N (G:Shared->Prop),Inv (cO X scope C (own++cap) fp s H) P σ H' s'->Cu D σ H' N->(∀aR H' s',Inv (cO X scope C (own++cap) fp s H) P aR H' s'->N aR H'->G s')->ST (ut scope C X.env) D G s')
  (I2:Inv X ae σ H2 s2) (I3:Inv X ae σ (aK H2 s2.heap.objs.size o) { s2 with heap:=s2.heap.push ob }) (T:Turn X.prog X.w X.K tg J fp it tn) (fu:tn 0 s2.heap) (f2:∀b∈fp,eR X ae H2 b)
  (q:∀acc,H2 acc=none->tLp g tt (Cu acc) J (dS own.length ix σ) (aK H2 acc o) λ_ H'=>Q (.ref acc) H')
  (Hl:∀D C H' s' m,Inv X ae σ H' s'->Q (.ref D) H'->s'.heap.Ns C m->eR X ae H' C->RR (.ref D) C (.ok .next) s') :
  wpAny (model X.prog X.w) X.A (newFunctionEnv scope X.env.globals (d5 X.env scope.names []) [] X.env.qual none .none (some X.env)) (λke fJ =>
   codeAny (model X.prog X.w) X.A (.compStart ce 0 (.ref it) (.ref s2.heap.objs.size) { ke with scope:=relabel scope X.env }) (RR (.ref s2.heap.objs.size) ke.locals) fJ) E { s2 with heap:=s2.heap.push ob }:=by
 apply vf ?_;let q:=q s2.heap.objs.size I2.fresh;generalize hD:s2.heap.objs.size=D at I3 q ⊢;let cG:∀b∈fp,b<D:=λb iq=>by
  let⟨o,e,_⟩:=T.obj 0 _ fu b iq;rw[<- hD];exact Zr e
 generalize hs3:({ s2 with heap:=s2.heap.push ob }:Shared)=s3 at I3 ⊢;let LN:∀b o,s2.heap.get? b=some o->s3.heap.get? b=some o:=λb o e=>by rw[<- hs3];exact Zn _ e
 let f3:∀b∈fp,eR X ae (aK H2 D o) b:=λb iq=>⟨by rw[c7 (Ye (cG b iq))];exact(f2 b iq).1,(f2 b iq).2⟩
 let I4:=I3.block B f3 λb iq=>let ⟨o,e,_⟩:=T.obj 0 _ fu b iq;⟨o,LN b o e⟩
 let vM:tn 0 (pushCells (s3.heap.push { cls:=.type "dict",data:=.dict #[] }) scope.names):=T.keep 0 _ _ fu λb _ o e=>pushCells_keeps _ _ b o (Zn _ (LN b o e))
 let⟨hg,ZU,he⟩:=hb s3.heap.objs.size fp s3 (aK H2 D o);let loop:codeAny (model X.prog X.w) X.A (.compLoop ce 0 (.ref it) (.ref D) (ut scope s3.heap.objs.size X.env)) (RR (.ref D) s3.heap.objs.size) { s3 with heap:=pushCells (s3.heap.push { cls:=.type "dict",data:=.dict #[] }) scope.names }:=by
  apply LK (X:=cO X scope s3.heap.objs.size (own++cap) fp s3 (aK H2 D o)) hc rfl (L s3.heap.objs.size D) hg ZU (he D) T vM (λH' hn b iq=>⟨hn b iq,(I4.ok.WZ b iq).1,I4.ok.Dh b iq,.inl iq,(I4.ok.WZ b iq).2,λp hp=>absurd (show p∈([]:Γ2) from hp) (by simp)⟩) (λb iq=>(f3 b iq).1) I4 q λAo H5 s6 I6 qn=>?_
  let J6:Inv X ae σ H5 s6:=I3.V7 (ch:=fp) I6.os I6.base I6.cb I6.bare λb iq=>⟨(f3 b iq).2.2.2.1,(f3 b iq).2.1,(f3 b iq).2.2.2.2.1,(f3 b iq).2.2.2.2.2⟩
  let⟨m,hn,_⟩:=I6.loc;exact Hl D _ H5 s6 m J6 qn hn (I3.ju (Ze _) I6.free)
 exact m4 _ _ _ _ loop (T.self X.A 0 _ _ _ vM loop)
def zZ {X':Cx}{P:Γ2}{D:Addr}{σ:St}{H:Hp}{s:Shared}{N:St->Hp->Prop}{G:Shared->Prop}(he:PE X' gf te)(ex:X'.xe=λ_ _=>False)(I:Inv X' P σ H s)(q:te σ H λy H5=>∃ys,H5 D=some (.lst ys)/\ys.length<sizeLine/\N σ (aK H5 D (.lst (ys++[y]))))(k:∀aR H' s',Inv X' P aR H' s'->N aR H'->G s') :
  wpAny (model X'.prog X'.w) X'.A (eval gf X'.env) (λx fJ=>wpAny (model X'.prog X'.w) X'.A (call (.builtin "list.append") [.ref D,x]) (λ_ m9=>G m9) (λ_ _=>False) fJ) (λ_ _=>False) s:=by
 let a3:=he _ s σ H _ I q;rw[ex] at a3;apply bM a3 λyv Rg ⟨y,R1,Tf,Kx,ys,YX,hz,Ky⟩=>?_
 let a4:=p6 (X:=X') _ Rg σ R1 (.ref D) [y] (.ref D) [yv] (λv H'=>v=.cj/\N σ H') Tf rfl (.cons Kx .nil) ⟨D,ys,y,(),(),YX,hz,(),Ky⟩;rw[ex] at a4;exact bM a4 λ_ Wx ⟨_,XA,Nc,_,_,Mq⟩=>k _ _ _ Nc Mq
def qo {ae:Γ2}{σ:St}{H2:Hp}{s2:Shared}{it:Addr}{fp:List Addr}{tn:Nat->Heap->Prop}{J:It}{Q:VK}{E:Θ2}{RR:Value->Addr->Result->Shared->Prop}
  (B:aL X scope own cap ix) (hc:X.calm=true)
  (hb:∀C fp s H,PG (cO X scope C (own++cap) fp s H) tg g/\dH (cO X scope C (own++cap) fp s H) eG tt/\PE (cO X scope C (own++cap) fp s H) gf te)
  (I2:Inv X ae σ H2 s2) (T:Turn X.prog X.w X.K tg J fp it tn) (fu:tn 0 s2.heap) (f2:∀b∈fp,eR X ae H2 b)
  (q:∀acc,H2 acc=none->gK g tt te J acc (dS own.length ix σ) H2 Q)
  (Hl:∀D C H' s' m,Inv X ae σ H' s'->Q (.ref D) H'->s'.heap.Ns C m->eR X ae H' C->RR (.ref D) C (.ok .next) s') :
  wpAny (model X.prog X.w) X.A (newList []) (λacc iA=>wpAny (model X.prog X.w) X.A (newFunctionEnv scope X.env.globals (d5 X.env scope.names []) [] X.env.qual none .none (some X.env)) (λke fJ =>
   codeAny (model X.prog X.w) X.A (.compStart (.ListComp gf [⟨tg,iter,eG,0⟩] scope pos) 0 (.ref it) acc { ke with scope:=relabel scope X.env }) (RR acc ke.locals) fJ) E iA) E s2 :=
 wpAny_newObj_type (yM (Cu:=λD σ H N=>te σ H λy H5=>∃ys,H5 D=some (.lst ys)/\ys.length<sizeLine/\N σ (aK H5 D (.lst (ys++[y]))))
  (ST:=λenv D G=>wpAny (model X.prog X.w) X.A (eval gf env) (λx fJ=>wpAny (model X.prog X.w) X.A (call (.builtin "list.append") [.ref D,x]) (λ_ m9=>G m9) (λ_ _=>False) fJ) (λ_ _=>False)) B hc
  (λC D=>mO (compTurn_list ..) λG R E s h k=>Za (Za (wpAny_mono h (λx fJ ww=>Za (wpAny_mono ww (λ_ m9 wv=>wpAny_pure (wpAny_pure (k _ wv))) λ_ _ h'=>h'.elim)) λ_ _ h'=>h'.elim)))
  (λ_ _ _ _=>codeAny_compStart_list) (λC fp s H=>⟨(hb C fp s H).1,(hb C fp s H).2.1,λD P σ H' s' N G I q k=>zZ (hb C fp s H).2.2 rfl I q k⟩) I2 (I2.NI (its:=[]) (ys:=[]) (t':=s2.toks) .nil (Yb _)) T fu f2 q Hl)
def Aw (B:aL X scope own cap ix)(hc:X.calm=true)(hi:PI X tg iter wi)
  (hb:∀C fp s H,PG (cO X scope C (own++cap) fp s H) tg g/\dH (cO X scope C (own++cap) fp s H) eG tt/\PE (cO X scope C (own++cap) fp s H) gf te)
  (hs:∀x,foldedSetIterable iter X.env x=pure x:=by intro _;rfl):PE X (.ListComp gf [⟨tg,iter,eG,0⟩] scope pos) (yj wi g tt te own.length ix):=by
 intro ae s σ H Q I h;rw[eval_ListComp];let has:∀x∈scope.names,x.2=.free->(X.env.cells.lookup x.1).isSome=true:=λx hx hk=>by
  let⟨c,e⟩:=I.ok.has x.1 (B.frees x hx hk);rw[e];rfl
 apply wpAny_comprehension_free (use:=none) rfl hs (Rv has) B.kind B.names ?_;show wpAny _ _ (eval iter X.env) _ _ s;apply bM (hi ae s σ H _ I h) λv s1 h1=>bM h1 λG8 s2 h2=>?_
 let⟨it,fp,tn,J,H2,e,I2,T,fu,f2,q⟩:=h2;subst e;apply qo (RR:=λacc C=>compPost (model X.prog X.w) X.A X.xe none (EP X ae σ Q) acc C) B hc hb I2 T fu f2 q ?_;intro D C H' s' m I' q' hn fC;apply⟨m,hn,λh' tf=>⟨.ref D,H',?_,(),q'⟩⟩;exact I'.turned (t':=s'.toks) (it:=C) (λb o CP e=>(tf.2 b CP).trans e) fC.1 fC.2.1 fC.2.2.2.1 fC.2.2.2.2.1 fC.2.2.2.2.2
def rW (hN:X.N.Nodup)(Hf:X.N[i]?=some y)(hx:X.env.scope.names.lookup y=some .local)(B:aL X scope own cap ix)(hc:X.calm=true)(hi:PI X tg iter wi)
  (hb:∀C fp s H,PG (cO X scope C (own++cap) fp s H) tg g/\dH (cO X scope C (own++cap) fp s H) eG tt/\PE (cO X scope C (own++cap) fp s H) gf te)
  (CL:swapsWith (.ListComp gf [⟨tg,iter,eG,0⟩] scope pos) (some (.Name y py)) qI.line X.env=pure true:=by rfl)
  (hs:∀x,foldedSetIterable iter X.env x=pure x:=by intro _;rfl):PS X (.Assign [.Name y py] (.ListComp gf [⟨tg,iter,eG,0⟩] scope pos) qI) (CZ (yj wi g tt te own.length ix) (eZ i)):=by
 intro ae s σ H D I h;rw[exec_Assign_Name_used _ _ _ _ CL];let has:∀x∈scope.names,x.2=.free->(X.env.cells.lookup x.1).isSome=true:=λx hx hk=>by
  let⟨c,e⟩:=I.ok.has x.1 (B.frees x hx hk);rw[e];rfl
 apply Za (wpAny_standAt (Za ?_));show wpAny _ X.A (do let _ <- comprehension (.ListComp gf [⟨tg,iter,eG,0⟩] scope pos) scope X.env _ (newList []) false (eval iter X.env) (some (assign (.Name y py) X.env))) _ _ s;apply Za (wpAny_mono (wpAny_comprehension_free (use:=some (assign (.Name y py) X.env)) (Q:=λ_ s'=>SP X ae D .next s') rfl hs (Rv has) B.kind B.names ?_) (λ_ s' hq=>wpAny_pure (wpAny_pure hq)) λ_ _ e=>e);apply bM (hi ae s σ H _ I h) λv s1 h1=>bM h1 λG8 s2 h2=>?_
 let⟨it,fp,tn,J,H2,e,I2,T,fu,f2,q⟩:=h2;subst e;apply qo (RR:=λacc C=>compPost (model X.prog X.w) X.A X.xe (some (assign (.Name y py) X.env)) (λ_ s'=>SP X ae D .next s') acc C) B hc hb I2 T fu f2 q ?_;intro Da C H' s' m I' q' hn fC;show wpAny _ X.A (assign (.Name y py) X.env (.ref Da)) _ _ s';let⟨oC,es,ep,ZN,SV,r⟩:=id hn;let Ip:Inv X (ae++[(C,oC)]) σ H' s':=I'.mF λp hp=>by
  rcases Zv.mp hp with z |z
  .exact I'.pin p (Yn _ z)
  .obtain rfl:p=(C,oC):=by simpa using z
   exact⟨ZN,fC.1,fC.2.1,fC.2.2.1,λv e=>by rw[SV] at e;cases e⟩
 apply wpAny_assign_Name (fe Ip hN Hf (.inl hx) (v:=.ref Da) rfl (λMn Tg=>?_) (.inr hx));let pC:=(Tg.pin (C,oC) (Yn _ (Yn _ (by simp)))).1;apply⟨m,⟨oC,es,ep,pC,SV,r⟩,λh' tf=>⟨_,H',?_,q'⟩⟩;exact Tg.gx.turned (t':=Mn.toks) (it:=C) (λb o CP e=>(tf.2 b CP).trans e) fC.1 fC.2.1 fC.2.2.2.1 fC.2.2.2.2.1 fC.2.2.2.2.2
end
def tv:V->Bool
 |.bl b=>b
 |.int i=>i != 0
 |_=>false
def gN:V->Bool
 |.bl _=>true
 |.int _=>true
 |.cj=>true
 |_=>false
def kU (r:RelV x v)(p:gN x=true)(h:Q (tv x) s):wpAny (model prog w) A (truthy v) Q E s:=by
 cases x with
 |cj=>cases r;exact truthy_none h
 |bl b=>cases r;exact wpAny_truthy_bool h
 |int i=>let⟨t,rfl⟩:=r;exact PySem.P.truthy_int h
 |_=>cases p
def all_range {xs:List V}(hn:n=xs.length)(f:V->Bool):(List.range n).all (λi=>(xs[i]?.map f).getD true)=xs.all f:=by
 subst hn;rw[Yc];simp only[Yd,Zi];constructor
 .intro h x hx;let⟨i,hi,e⟩:=Qh.mp hx;have:=h i hi;rw[Zc hi,e] at this;simpa using this
 .intro h i hi;rw[Zc hi];simpa using h _ (Zw hi)
def any_range {xs:List V}(hn:n=xs.length)(f:V->Bool):(List.range n).any (λi=>(xs[i]?.map f).getD false)=xs.any f:=by
 subst hn;rw[Yc];simp only[Z6,Zi];constructor
 .rintro⟨i,hi,h⟩;rw[Zc hi] at h;exact⟨_,Zw hi,by simpa using h⟩
 .rintro⟨x,hx,h⟩;let⟨i,hi,e⟩:=Qh.mp hx;exact⟨i,hi,by rw[Zc hi,e];simpa using h⟩
section
def gy (I:Inv X ae σ H s)(hA:A.handled=none)(h:bG X.K H p xs\/aQ X.K H p xs)
  (k:∀(it:Addr) (fp wr:List Addr) (its:Δ3) (St:Nat->Heap->Prop) (s2:Shared),bp xs its->Walks X.prog X.w A it fp wr its.length (λi v=>its[i]?=some v) St->St 0 s2.heap->(∀b∈fp,b<s2.heap.objs.size) ->
   (∀h' tk,(∀b o,b∉wr->s2.heap.get? b=some o->h'.get? b=some o)->Inv X ae σ H { s2 with heap:=h',toks:=tk })->Q (.ref it) s2) :
  wpAny (model X.prog X.w) A (pyIter (.ref p)) Q E s:=by
 rcases h with h |h
 .obtain⟨its,rv,pl,hz⟩:=I.list h;let hp:p<s.heap.objs.size:=by let⟨o,n,e,_⟩:=pl;exact Zr e
  apply wpAny_pyIter_list pl.isList ?_;let W:=Walks.list (prog:=X.prog) (w:=X.w) (A:=A) hA s.heap.objs.size p (Ye hp) its.toArray;apply k s.heap.objs.size [s.heap.objs.size,p] [s.heap.objs.size] its (λi h=>h.IsListIter s.heap.objs.size p i/\h.IsList p its.toArray) _ rv (by simpa using W) ⟨⟨_,Zz _ rfl,(),()⟩,pl.isList.push _⟩ (λb hb=>?_) (λh' tk hk=>?_)
  .show b<(s.heap.push _).objs.size;rw[Y6]
   grind
  .exact I.kept (t':=tk) λb o e=>hk b o (λz=>Ym _ (by have:=Zr e;simp at z;rw[z] at this;exact this)) (Zn _ e)
 .obtain⟨its,rv,pl,hz⟩:=I.tuple h;let hp:p<s.heap.objs.size:=by let⟨o,e,_⟩:=pl;exact Zr e
  let pt:s.heap.IsTuple p its.toArray:=pl;apply wpAny_pyIter_tuple pt ?_;let W:=Walks.tuple (prog:=X.prog) (w:=X.w) (A:=A) hA s.heap.objs.size p (Ye hp) its.toArray;apply k s.heap.objs.size [s.heap.objs.size,p] [s.heap.objs.size] its (λi h=>h.IsTupleIter s.heap.objs.size p i/\h.IsTuple p its.toArray) _ rv (by simpa using W) ⟨⟨_,Zz _ rfl,(),()⟩,?_⟩ (λb hb=>?_) (λh' tk hk=>?_)
  .obtain⟨o,e,r⟩:=pt;exact⟨o,Zn _ e,r⟩
  .show b<(s.heap.push _).objs.size;rw[Y6]
   grind
  .exact I.kept (t':=tk) λb o e=>hk b o (λz=>Ym _ (by have:=Zr e;simp at z;rw[z] at this;exact this)) (Zn _ e)
def bp.at {i:Nat}(r:bp xs us)(e:us[i]?=some v):∃x,xs[i]?=some x/\RelV x v:=by
 let hi:i<us.length:=(Zf.mp e).1;let hx:i<xs.length:=by rw[r.length];exact hi
 let⟨u,h1,h2⟩:=r.get (Zc hx);rw[e] at h1;cases h1;exact⟨_,Zc hx,h2⟩
def Gs (hc:X.calm=true):ca X (.builtin "all") (λxs H Q=>∃p ys,xs=[.ref p]/\(bG X.K H p ys\/aQ X.K H p ys)/\ys.all gN=true/\Q (.bl (ys.all tv)) H):=by
 intro ae s σ H xs us Q I r h;let⟨p,ys,rfl,hs,hp,q⟩:=h;let⟨u,rfl,ru⟩:=vals1 r;cases ru;apply call_all_walk (gy I (A:=X.A.in1) (I.ok.hd hc) hs λit fp wr its St s2 rv W st CO hk=>?_);apply⟨it,fp,wr,its.length,_,St,(λi=>(ys[i]?.map tv).getD true),(),W,st,λi v s' Q' E' hv hq=>?_,λh' tk kk=>⟨.bl (ys.all tv),H,hk h' tk kk,?_,q⟩⟩
 .obtain⟨x,ex,rx⟩:=rv.at hv;simp only[ex,Y2,X2] at hq;exact kU rx (Yd.mp hp x (Z2 ex)) hq
 .rw[all_range rv.length.symm];rfl
def Gq (hc:X.calm=true):ca X (.builtin "any") (λxs H Q=>∃p ys,xs=[.ref p]/\(bG X.K H p ys\/aQ X.K H p ys)/\ys.all gN=true/\Q (.bl (ys.any tv)) H):=by
 intro ae s σ H xs us Q I r h;let⟨p,ys,rfl,hs,hp,q⟩:=h;let⟨u,rfl,ru⟩:=vals1 r;cases ru;apply call_any_walk (gy I (A:=X.A.in1) (I.ok.hd hc) hs λit fp wr its St s2 rv W st CO hk=>?_);apply⟨it,fp,wr,its.length,_,St,(λi=>(ys[i]?.map tv).getD false),(),W,st,λi v s' Q' E' hv hq=>?_,λh' tk kk=>⟨.bl (ys.any tv),H,hk h' tk kk,?_,q⟩⟩
 .obtain⟨x,ex,rx⟩:=rv.at hv;simp only[ex,Y2,X2] at hq;exact kU rx (Yd.mp hp x (Z2 ex)) hq
 .rw[any_range rv.length.symm];rfl
theorem lY (ns:Γ3):∀k,k<=ns.length->preSum (λi=>(ns[i]?).getD 0) k=(ns.take k).sum
 |0,_=>by simp[preSum]
 |k+1,h=>by
  let hk:k<ns.length:=h;rw[preSum,lY ns k (Nat.le_of_lt hk),Zc hk];let e:ns.take (k+1)=ns.take k++[ns[k]]:=by rw[List.take_add_one,Zc hk];rfl
  rw[e,List.sum_append];simp
def Gp (hc:X.calm=true):ca X (.builtin "sum") (λxs H Q=>∃(p:Addr) (ns:Γ3),xs=[.ref p]/\(bG X.K H p (ns.map V.int)\/aQ X.K H p (ns.map V.int))/\Q (.int ns.sum) H):=by
 intro ae s σ H xs us Q I r h;let⟨p,ns,rfl,hs,q⟩:=h;let⟨u,rfl,ru⟩:=vals1 r;cases ru;apply call_sum_walkG (gy I (A:=X.A.in1) (I.ok.hd hc) hs λit fp wr its St s2 rv W st CO hk=>?_);apply⟨it,fp,wr,its.length,_,St,(λi=>(ns[i]?).getD 0),(),W,st,CO,λi v hv=>?_,λh' tk t' kk=>⟨.int ns.sum,H,hk h' tk kk,⟨t',?_⟩,q⟩⟩
 .obtain⟨x,ex,rx⟩:=rv.at hv;rw[Zo] at ex;cases e:ns[i]? with
  |none=>rw[e] at ex;cases ex
  |some n =>
   rw[e] at ex;cases ex;simp only[e,X2];exact rx
 .let hl:its.length=ns.length:=by rw[<- rv.length,Zb]
  rw[hl,lY ns _ (Ze _),Yf]
def B6 (hc:X.calm=true):ca X (.builtin "max") (λxs H Q=>∃(p:Addr) (ns:Γ3),xs=[.ref p]/\(bG X.K H p (ns.map V.int)\/aQ X.K H p (ns.map V.int))/\ns≠[]/\∀m,m∈ns->(∀n∈ns,n<=m)->Q (.int m) H):=by
 intro ae s σ H xs us Q I r h;let⟨p,ns,rfl,hs,bD,q⟩:=h;let⟨u,rfl,ru⟩:=vals1 r;cases ru;apply call_max_walk (gy I (A:=X.A.in1) (I.ok.hd hc) hs λit fp wr its St s2 rv W st CO hk=>?_);let hl:its.length=ns.length:=by rw[<- rv.length,Zb]
 let d4:0<ns.length:=Xn.mpr bD;let val:∀(i:Nat) (v:Value),its[i]?=some v->∃t,v=Value.int ((ns[i]?).getD 0) t:=λi v hv=>by
  let⟨x,ex,rx⟩:=rv.at hv;rw[Zo] at ex;cases e:ns[i]? with
  |none=>rw[e] at ex;cases ex
  |some n =>
   rw[e] at ex;cases ex;exact rx
 apply⟨it,fp,wr,its.length,_,St,(λi j=>decide ((ns[i]?).getD 0>(ns[j]?).getD 0)),(),W,st,CO,⋯,CmpOf.ints_gt (λi=>(ns[i]?).getD 0) val,λv h' tk hP kk=>?_⟩;let⟨t,rfl⟩:=val _ _ hP;let⟨h1,h2⟩:=argBest_gt (λi=>(ns[i]?).getD 0) (its.length-1);let cG:argBest (λi j=>decide ((ns[i]?).getD 0>(ns[j]?).getD 0)) (its.length-1)<ns.length:=by
  omega
 apply⟨.int _,H,hk h' tk kk,⟨t,()⟩,q _ ?_ λn hn=>?_⟩
 .rw[Zc cG];exact Zw cG
 .obtain⟨i,hi,e⟩:=Qh.mp hn;have:=h2 i ⋯;simp only[Zc hi,X2] at this;rw[<- e];exact this
end
def No (K:Θ1)(c:Value)(te:TE):TE:=λσ H Q=>te σ H λx H1=>∃t b,iB K H1 x t/\PySem.W.kitOne K t c=some b/\Q (.bl b) H1
section
def aa8 (ha:PE X a ta)(I:Inv X ae σ H s)(h:ta σ H R)
  (hs:starEach [a,b] X.env=[(false,eval a X.env),(false,eval b X.env)]) (k:∀u s1 x H1,Inv X ae σ H1 s1->RelV x u->R x H1->wpAny (model X.prog X.w) X.A (eval b X.env) (λv s2=>Q [u,v] s2) X.xe s1) :
  wpAny (model X.prog X.w) X.A (spliced (backTo pos (starEach [a,b] X.env))) Q X.xe s:=by
 rw[hs];apply Calls.spliced_cons (bM (ha ae s σ H _ I h) λu s1 ⟨x,H1,I1,r,q⟩=>?_);exact Calls.spliced_cons (bM (k u s1 x H1 I1 r q) λv s2 h2=>Calls.spliced_nil h2)
def Jt (he:PE X e te)(hg:Gl X "isinstance")(hm:X.mg "isinstance"=none)(Hh:Gl X T)(Hd:X.mg T=none)(hv:bootBuiltins T=some (.type n))
  (hb:bootBuiltins "isinstance"=some (.builtin "isinstance")) (ZP:T ≠ "__name__":=by decide) (K':(T == ("__debug__" : Str))=false:=by decide)
  (hs:starEach [e,.Name T p2] X.env=[(false,eval e X.env),(false,eval (.Name T p2) X.env)]:=by rfl)
  (jE:(backTo pos (starEach [.Name T p2] X.env)).any (·.1)=false:=by rfl):PE X (.Call (.Name "isinstance" p) [e,.Name T p2] [] pos) (No X.K (.type n) te):=by
 intro ae s σ H Q I h;apply Call_ (fZ I hg hm hb (PyProof.Rows.callWith_builtin1 (aa8 (Q:=λus s1=>wpAny (model X.prog X.w) X.A (call (.builtin "isinstance") us) (EP X ae σ Q) X.xe s1) he I h hs λu s1 x H1 I1 r q=>?_) ?_ jE))
 .apply fZ I1 Hh Hd hv ?_ ZP K';let⟨t,b,ty,ek,q⟩:=q;exact BN I1 r ty ek λtk=>⟨.bl b,H1,I1.tok tk,(),q⟩
 .rw[hs];rfl
end
mutual
inductive mr (K:Θ1) (H:Hp):V->PyData->Prop
 |cj:mr K H .cj .none
 |bl (b:Bool):mr K H (.bl b) (.bool b)
 |int (i:Int):mr K H (.int i) (.int i)
 |str (x:Str) (ok:(PyData.str x).canLay0=true):mr K H (.str x) (.str x)
 |lst {a:Addr}{xs:List V}{ds:Ξ1}:bG K H a xs->eX K H xs ds->mr K H (.ref a) (.list ds)
 |tup {a:Addr}{xs:List V}{ds:Ξ1}:aQ K H a xs->eX K H xs ds->mr K H (.ref a) (.tuple ds)
inductive eX (K:Θ1) (H:Hp):List V->Ξ1->Prop
 |nil:eX K H [] []
 |cons {x:V}{xs:List V}{d:PyData}{ds:Ξ1}:mr K H x d->eX K H xs ds->eX K H (x::xs) (d::ds)
end
section
mutual
theorem mr.reads (I:Inv X ae σ H s):∀{x:V}{d:PyData}{u:Value},mr X.K H x d->RelV x u->∃as,Reads s.heap u d as
 |_,_,_,.cj,r=>by cases r;exact⟨_,.none⟩
 |_,_,_,.bl b,r=>by cases r;exact⟨_,.bool b⟩
 |_,_,_,.int i,r=>by let⟨t,rfl⟩:=r;exact⟨_,.int i t⟩
 |_,_,_,.str x _,r=>by let⟨t,rfl⟩:=r;exact⟨_,.str x t⟩
 |_,_,_,.lst hq h,r=>by
  cases r
  let⟨its,rv,⟨o,n,e,c,_,d⟩,_⟩:=I.list hq;let⟨as,ra⟩:=eX.reads I h rv;exact⟨_,.list e c d (by simpa using ra)⟩
 |_,_,_,.tup hq h,r=>by
  cases r
  let⟨its,rv,⟨o,e,c,n,d⟩,_⟩:=I.tuple hq;let⟨as,ra⟩:=eX.reads I h rv;exact⟨_,.tuple e c d (by simpa using ra)⟩
theorem eX.reads (I:Inv X ae σ H s):∀{xs:List V}{ds:Ξ1}{us:Δ3},eX X.K H xs ds->bp xs us->∃as,ReadsAll s.heap us ds as
 |_,_,_,.nil,r=>by cases r;exact⟨_,.nil⟩
 |_,_,_,.cons h t,r=>by
  cases r with
  |cons r1 r2 =>
   let⟨as,ra⟩:=mr.reads I h r1;let⟨bs,rb⟩:=eX.reads I t r2;exact⟨_,.cons ra rb⟩
end
mutual
theorem mr.lay {K:Θ1}:∀{x:V}{d:PyData},mr K H x d->d.canLay0=true
 |_,_,.cj=>rfl
 |_,_,.bl b=>rfl
 |_,_,.int i=>rfl
 |_,_,.str x ok=>ok
 |_,_,.lst hq h=>by have:=eX.lay h;simpa[PyData.canLay0] using this
 |_,_,.tup hq h=>by have:=eX.lay h;simpa[PyData.canLay0] using this
theorem eX.lay {K:Θ1}:∀{xs:List V}{ds:Ξ1},eX K H xs ds->PyData.canLayAll0 ds=true
 |_,_,.nil=>rfl
 |_,_,.cons h t=>by have h1:=mr.lay h;let h2:=eX.lay t;simp[PyData.canLayAll0,h1,h2]
end
end
section
def HC (K:Θ1):R2:=λx y H Q=>∃dx dy,mr K H x dx/\mr K H y dy/\min dx.depth dy.depth<=60/\Q (.bl (PyData.eqv dx dy)) H
def HA (K:Θ1):R2:=λx y H Q=>∃dx dy,mr K H x dx/\mr K H y dy/\min dx.depth dy.depth<=60/\Q (.bl (!PyData.eqv dx dy)) H
def Ph (hu:X.A.units+64<cLine):fq X (compareOp .Eq) (HC X.K):=by
 intro ae s σ H x y v u Q I rx ry h;let⟨dx,dy,hx,hy,hd,q⟩:=h;let⟨as,ra⟩:=hx.reads I rx;let⟨bs,rb⟩:=hy.reads I ry;exact SeqAt.eqOverData X.prog X.w X.A X.xe s v u dx dy as bs _ ra rb hx.lay hy.lay ⋯ ⟨.bl (PyData.eqv dx dy),H,I,(),q⟩
def Pe (hu:X.A.units+64<cLine):fq X (compareOp .NotEq) (HA X.K):=by
 intro ae s σ H x y v u Q I rx ry h;let⟨dx,dy,hx,hy,hd,q⟩:=h;let⟨as,ra⟩:=hx.reads I rx;let⟨bs,rb⟩:=hy.reads I ry;exact SeqAt.neOverData X.prog X.w X.A X.xe s v u dx dy as bs _ ra rb hx.lay hy.lay ⋯ ⟨.bl (!PyData.eqv dx dy),H,I,(),q⟩
end
end L2
namespace PySem
def YR (MV:s.heap.IsTupleIter it l i)
  (hl:s.heap.IsTuple l items) (hx:items[i]?=some x)
  (hQ:∀h',h'.IsTupleIter it l (i+1)->Heap.SameBut it s.heap h'->Q x { s with heap:=h' }) :
  wpAny (model prog w) A (Builtin.SmallTypes.nextOf (.ref it)) Q E s:=by
 let⟨o,ho,hc,hd⟩:=id MV;let⟨ol,ZM,_,nl,RG⟩:=hl;let Hc:s.TypeIs (.ref it) "tuple_iterator":=⟨o,ho,hc⟩;unfold Builtin.SmallTypes.nextOf;apply Za (wpAny_callSpecial?_slot (name:=Str.ofString "__next__") Hc PyProof.Rows.slot_tupleiter_next
  (wpAny_call_entry PyProof.Rows.slot_tupleiter_next Hc PyProof.Rows.entry_tupleiter_next ?_ (PyProof.Rows.args_tupleiter_next _)))
 show wpAny _ _ (field (.ref it) 0 >>= _) _ _ s;apply Za (wpAny_field ho hd (x:=.ref l) rfl ?_);show wpAny _ _ (if (Value.ref l == Value.none)=true then _ else _) _ _ s;rw[if_neg (show ¬ ((Value.ref l == Value.none)=true) from Z4)];show wpAny _ _ (field (.ref it) 1 >>= _) _ _ s;apply Za (wpAny_field ho hd (x:=.int i 0) rfl ?_);show wpAny _ _ (seqItems? (.ref l) >>= _) _ _ s;apply Za (wpAny_seqItems ZM RG ?_);simp only[Z0,hx];apply Za (wpAny_setField ho hd (by simp) (wpAny_pure ⟨x,(),wpAny_pure (hQ _ ?_ (Heap.SameBut.update ..))⟩));exact⟨_,Qm _ ho (Obj.isFreed_of_fields (Obj.data_mapFields hd _)),(Obj.cls_mapFields ..).trans hc,by
  rw[Obj.data_mapFields hd];simp[rawInt]⟩
def YO (hh:A.handled=none)
  (MV:s.heap.IsTupleIter it l i) (hl:s.heap.IsTuple l items) (hx:items[i]?=none)
  (hE:∀h' e,Heap.ExtBut it s.heap h'->(∃o,h'.get? e=some o/\o.cls=.type "StopIteration")->E (.ref e) { s with heap:=h' }) :
  wpAny (model prog w) A (Builtin.SmallTypes.nextOf (.ref it)) Q E s:=by
 let⟨o,ho,hc,hd⟩:=id MV;let⟨ol,ZM,_,nl,RG⟩:=hl;let Hc:s.TypeIs (.ref it) "tuple_iterator":=⟨o,ho,hc⟩;unfold Builtin.SmallTypes.nextOf;apply Za (wpAny_callSpecial?_slot (name:=Str.ofString "__next__") Hc PyProof.Rows.slot_tupleiter_next
  (wpAny_call_entry PyProof.Rows.slot_tupleiter_next Hc PyProof.Rows.entry_tupleiter_next ?_ (PyProof.Rows.args_tupleiter_next _)))
 show wpAny _ _ (field (.ref it) 0 >>= _) _ _ s;apply Za (wpAny_field ho hd (x:=.ref l) rfl ?_);show wpAny _ _ (if (Value.ref l == Value.none)=true then _ else _) _ _ s;rw[if_neg (show ¬ ((Value.ref l == Value.none)=true) from Z4)];show wpAny _ _ (field (.ref it) 1 >>= _) _ _ s;apply Za (wpAny_field ho hd (x:=.int i 0) rfl ?_);show wpAny _ _ (seqItems? (.ref l) >>= _) _ _ s;apply Za (wpAny_seqItems ZM RG ?_);simp only[Z0,hx];apply Za (wpAny_rule (Za (wpAny_setField ho hd (by simp) ?_)));show wpAny _ _ (newExc (.type "StopIteration") [] >>= _) _ _ _;apply Za ?_;simp only[newExc,newTuple];apply Za (wpAny_newObj_type ?_ (by size_fits));apply Za (m:=firstArgMember _ _) (wpAny_of_eq (a:=Value.none) (by first |rfl |(simp only[firstArgMember];rfl)) ?_);apply wpAny_newObj_type ?_ (by size_fits);simp only[raiseNew];apply Za (wpAny_handled ?_)
 first |rw[show A.in1.handled=none from hh] |rw[hh]
 apply Za (wpAny_pure (wpAny_throw ?_));exact hE _ _ (((Heap.SameBut.update ..).extBut.push _).push _) ⟨_,Zz _ rfl,()⟩
def Draws.tup {prog:Program}{w:World}{A:Around}(hh:A.handled=none)(it l:Addr)(bD:l≠it)(items:Array Value) :
  Draws prog w A it [it,l] items.size (λi v=>items[i]?=some v) (λi h=>h.IsTupleIter it l i/\h.IsTuple l items) where
 live:=λ_ _ st=>let ⟨o,ho,_⟩:=st.1;⟨o,ho⟩
 frame:=λ_ _ _ st hk=>⟨let ⟨o,e,r⟩:=st.1;⟨o,hk it (by simp) o e,r⟩,let ⟨o,e,r⟩:=st.2;⟨o,hk l (by simp) o e,r⟩⟩
 item:=λi s Q E hi st hQ=>by
  apply YR st.1 st.2 (x:=items[i]) (by simp[hi]) λh' abN hs'=>?_
  let⟨o,e,r⟩:=st.2;exact hQ _ h' s.toks (by simp[hi]) ⟨abN,⟨o,hs'.extBut l o bD e,r⟩⟩ hs'
 done:=λs Q E st hE=>YO hh st.1 st.2 (by simp) hE
set_option maxHeartbeats 1000000 in
def iS (l:Addr)(items:Array Value)(n:Nat)(χ:Option Addr)(sl:Array (Option Value)) :
  Meets (Builtin.«enumerate.__new__» ⟨[.type "enumerate",.ref l],[]⟩) (λ_ R s=>s.heap.get? l=some { cls:=.type "tuple",dict:=χ,data:=.seq items n,slots:=sl } /\
   R (.ok (.ret (.ref (s.heap.push { cls:=.type "tuple_iterator",data:=.fields #[.ref l,.int 0 0] }).objs.size)))
    { s with heap:=(s.heap.push { cls:=.type "tuple_iterator",data:=.fields #[.ref l,.int 0 0] }).push { cls:=.type "enumerate",data:=.fields #[.none,.bool false,.ref s.heap.objs.size,rawInt 0,.none,.none] } }) :=
 .of_wp λprog w A R s h=>by
  let⟨hp,g,d,tk,os⟩:=s;let⟨hl,h⟩:=h;let abF:=sub_enumerate;let hL:Heap.IsTuple (Shared.heap ⟨hp,g,d,tk,os⟩) l items:=⟨_,hl,(),n,()⟩
  wp_walk using AutoSeq1.wpAny_loadPart' hl
  apply wpAny_stack_any λst=>wpAny_pure ?_
  split
  .rename_i c _ _ _ _ _;cases (c == Value.type "enumerate")
   .wp_walk using AutoSeq1.wpAny_loadPart' hl,wpAny_pyIter_tuple hL
    exact⟨_,(),h⟩
   .wp_walk using AutoSeq1.wpAny_loadPart' hl,wpAny_pyIter_tuple hL
    exact⟨_,(),h⟩
  .wp_walk using AutoSeq1.wpAny_loadPart' hl,wpAny_pyIter_tuple hL
   exact⟨_,(),h⟩
def jW (hL:s.heap.IsTuple l items)
  (h:∀h',IsEnum h' (s.heap.objs.size+1) s.heap.objs.size 0 .none->h'.IsTupleIter s.heap.objs.size l 0->h'.objs.size=s.heap.objs.size+2 ->
   (∀b o,s.heap.get? b=some o->h'.get? b=some o)->Q (.ref (s.heap.objs.size+1)) { s with heap:=h' }) :
  wpAny (model prog w) A (call (.type "enumerate") [.ref l]) Q E s:=by
 let⟨⟨c,χ,dt,sl⟩,hl,hc,n,hd⟩:=hL
 replace hc:c=.type "tuple":=hc
 replace hd:dt=.seq items n:=hd
 subst hc hd;apply callType_new F.called_enumerate ∅ (F.typeCall_enumerate_1 _) (F.newCall_enumerate_1 _) (λobj=>F.args_object_init_2 obj _) F.entry_enumerate_new
  (iS l items n χ sl) ⟨hl,?_⟩
 let hz:(s.heap.push { cls:=.type "tuple_iterator",data:=.fields #[.ref l,.int 0 0] }).objs.size=s.heap.objs.size+1:=Y6 ..;show _/\_;rw[hz];let he:IsEnum ((s.heap.push { cls:=.type "tuple_iterator",data:=.fields #[.ref l,.int 0 0] }).push
   { cls:=.type "enumerate",data:=.fields #[.none,.bool false,.ref s.heap.objs.size,rawInt 0,.none,.none] }) (s.heap.objs.size+1) s.heap.objs.size 0 .none:=by
  have:=Zz (s.heap.push { cls:=.type "tuple_iterator",data:=.fields #[.ref l,.int 0 0] })
   (o:={ cls:=.type "enumerate",data:=.fields #[.none,.bool false,.ref s.heap.objs.size,rawInt 0,.none,.none] }) rfl
  rw[hz] at this;exact this
 apply⟨⟨_,he,()⟩,h _ he ⟨_,Zn _ (Zz _ rfl),(),()⟩ (by rw[Y6,hz]) λb o x=>Zn _ (Zn _ x)⟩
end PySem
namespace PySem
end PySem
namespace PySem
end PySem
namespace L2
open PySem.Spec PyProof.Rows
section
def CW (K:Θ1)(a:Addr):It :=
 ⟨λi H=>∃xs x,aQ K H a xs/\xs[i]?=some x,λi H x H'=>∃p,H p=none/\x=.ref p/\∀xs,aQ K H a xs->∃y,xs[i]?=some y/\H'=aK H p (.tup [.int i,y]),λi H=>∃xs,aQ K H a xs/\xs.length<=i⟩
def Inv.iW {ch:List Addr}(I:Inv X ae σ H s)(k:∀b o,b∉ch->s.heap.get? b=some o->h'.get? b=some o)(hf:∀b∈ch,eR X ae H b) :
  Inv X ae σ H { s with heap:=h',toks:=t' }:=by
 let Sl:∀b u,H b=some u->b∉ch:=λb u e z=>by rw[(hf b z).1] at e;cases e
 apply I.step (g':=s.gens) (d':=s.drawn) (ch:=ch) (λb hb=>⟨(hf b hb).2.2.2.1,(hf b hb).2.1,(hf b hb).2.2.2.2.1,(hf b hb).2.2.2.2.2⟩) (λb o _ _ hc e _=>k b o hc e) (λb o _ _ hc e _=>⟨o.slots,k b o hc e⟩) (λ_ _ _ _ n=>n)
  (λb o hc e=>⟨o,k b o hc e⟩) (λ_ _ e=>e) (λ_ _ _ e=>e) (λb ps e=>⟨#[],by rw[e];simp⟩) (λm hm=>?_) (λb u e=>?_) I.bare
 .obtain⟨o,es,ep,ho,r⟩:=hm;exact⟨o,es,ep,k _ o (λz=>(hf _ z).2.1 rfl) ho,r⟩
 .apply(I.cb b u e).ar (λc v hc q=>k c v ?_ q) (λ_ q=>q) λ_ _ q=>q
  rcases hc with z |z
  .rw[z];exact Sl b u e
  .exact Sl c _ z
def Inv.Dn (I:Inv X ae σ H s)(f:eR X ae H p)(new:b9 X.prog X.w (aK H p o) s.heap p o):Inv X ae σ (aK H p o) s:=by
 let ne:∀b u,H b=some u->b≠p:=λb u e z=>by rw[z,f.1] at e;cases e
 have:=I.step (g':=s.gens) (d':=s.drawn) (t':=s.toks) (h':=s.heap) (H':=aK H p o) (ch:=[p]) (λb hb=>by
   obtain rfl:b=p:=by simpa using hb
   exact⟨f.2.2.2.1,f.2.1,f.2.2.2.2.1,f.2.2.2.2.2⟩) (λb o _ _ _ e _=>e) (λb o _ _ _ e _=>⟨o.slots,e⟩)
  (λb o hc _ n=>by rw[c7 (λz=>hc (by simp[z]))];exact n) (λb o _ e=>⟨o,e⟩) (λb xs e=>by rw[c7 (ne b _ e)];exact e) (λb o u e=>by rw[c7 (ne b _ e)];exact e)
  (λb ps e=>⟨#[],by rw[c7 (ne b _ e),e];simp⟩) (λm hm=>hm) (λb u e=>by
   by_cases hb:b=p
   .subst hb;rw[de] at e;cases e;exact new
   .rw[c7 hb] at e;exact(I.cb b u e).ar (λc v _ q=>q) (λc q=>by rw[c7 (ne c _ q)];exact q) λc xs q=>by rw[c7 (ne c _ q)];exact q) I.bare
 exact this
def A5 {K:Θ1}(a e it:Addr)(MY:e≠it):Turn P w K (.Tuple tT kk pos) (CW K a) [e,it] e (λi h=>(∃old,IsEnum h e it (i:Nat) old)/\h.IsTupleIter it a i) where
 mem:=by simp
 obj:=λi h st b hb=>by
  let⟨⟨old,he⟩,o,e1,c,d⟩:=st;rcases Zj.mp hb with rfl |hb
  .exact⟨_,he,λv z=>by cases z⟩
  .obtain rfl:b=it:=by simpa using hb
   exact⟨o,e1,λv z=>by rw[d] at z;cases z⟩
 keep:=λi h h' st k=>by
  let⟨⟨old,he⟩,o,e1,c,d⟩:=st;exact⟨⟨old,k e (by simp) _ he⟩,o,k it (by simp) _ e1,c,d⟩
 item:=by
  intro X hP hw hK hc i ae s σ H E I hf st hg;subst hP hw hK;let⟨xs,x,hq,hx⟩:=hg;let⟨its,rv,p,hz⟩:=I.tuple hq;let⟨u,hu,ru⟩:=rv.get hx;let⟨⟨old,he⟩,fu⟩:=st;let pt:s.heap.IsTuple a its.toArray:=p;let Z':e≠a:=λz=>by
   let⟨o,e1,c,_⟩:=pt;rw[<- z,he] at e1;cases e1;exact absurd (show Value.type "enumerate"=Value.type "tuple" from c) ∅
  let S0:a≠it:=λz=>by
   let⟨o,e1,c,_⟩:=pt;let⟨o',e2,c',_⟩:=id fu;rw[z,e2] at e1;cases e1;rw[c] at c';exact absurd c' ∅
  let cG:i<its.toArray.size:=by simpa using(Zf.mp hu).1
  let D:=Draws.tup (prog:=X.prog) (w:=X.w) (A:=X.A.in1) (I.ok.hd hc) it a S0 its.toArray;apply wpAny_pyNext_enum_itemD D he ⟨fu,pt⟩ cG MY (by simp[MY,Z']) λy h' tk hP GO m4 ht hsz hk=>?_
  let hy:y=u:=by
   let hP:its.toArray[i]?=some y:=hP;rw[List.getElem?_toArray,hu] at hP;exact(Option.some.inj hP).symm
  subst hy;apply⟨_,(),?_⟩;apply wpAny_letOwnedTupleGo_enum GO λh2 B' oP=>?_
  replace oP:Heap.SameBut e h' h2:=oP
  let bD:s.heap.objs.size≠e:=Xv (Zr he);let I1:Inv X ae σ H { s with heap:=h2,toks:=tk+1 }:=I.iW (ch:=[e,it]) (λb o hb q=>by
   let b1:b≠e:=λz=>hb (by simp[z])
   let b2:b≠it:=λz=>hb (by simp[z])
   exact oP.extBut b o b1 (hk b o b1 b2 q)) hf
  let ML:=oP.extBut _ _ bD ht;let fp:eR X ae H s.heap.objs.size:=I.ju (Ze _) I.fresh;let I2:=I1.Dn (p:=s.heap.objs.size) (o:=.tup [.int i,x]) fp ⟨by show 2<=sizeLine;decide,[.int i tk,y],.cons ⟨tk,()⟩ (.cons ru .nil),⟨_,ML,(),_,()⟩⟩;apply⟨.ref s.heap.objs.size,_,I2,(),⟨_,I.fresh,(),λys hy=>by rw[I.ja hy hq];exact⟨x,hx,()⟩⟩,⟨⟨_,B'⟩,?_⟩,λb hb=>?_⟩
  .obtain⟨⟨o,e1,c,d⟩,_⟩:=m4;exact⟨o,oP.extBut _ _ (Ne.symm MY) e1,c,d⟩
  .rw[c7]
   .exact(hf b hb).1
   .rcases Zj.mp hb with rfl |hb
    .exact bD.symm
    .obtain rfl:b=it:=by simpa using hb
     let⟨o,e1,_⟩:=fu;exact Ye (Zr e1)
 done:=by
  intro X hP hw hK hc i ae s σ H E I hf st hg;subst hP hw hK;let⟨xs,hq,hx⟩:=hg;let⟨its,rv,p,hz⟩:=I.tuple hq;let⟨⟨old,he⟩,fu⟩:=st;let pt:s.heap.IsTuple a its.toArray:=p;let S0:a≠it:=λz=>by
   let⟨o,e1,c,_⟩:=pt;let⟨o',e2,c',_⟩:=id fu;rw[z,e2] at e1;cases e1;rw[c] at c';exact absurd c' ∅
  let hl:=rv.length;let hT:s.TypeIs (.ref e) "enumerate":=⟨_,he,()⟩;unfold pyNext;apply Za (wpAny_attempt (wpAny_callSpecial?_slot (name:=Str.ofString "__next__") hT F.slot_enumerate_next
   (wpAny_call_entry F.slot_enumerate_next hT F.entry_enumerate_next ?_ (F.args_enumerate_next_1 _))))
  show wpAny _ _ (field (.ref e) 2 >>= _) _ _ _;apply Za (wpAny_field he rfl (x:=.ref it) rfl ?_);apply Za (YO (A:=X.A.in1) (I.ok.hd hc) fu pt (by simp;omega) λh' ex F' vE=>?_);let⟨o,ho,sP⟩:=vE;apply Za (wpAny_isInstance (T:="StopIteration") (b:=true) ⟨o,ho,sP⟩ isSubtype_stop ?_);exact wpAny_pure ⟨(),I.iW (t':=s.toks) (ch:=[it]) (λb o hb q=>F' b o (λz=>hb (by simp[z])) q) (λb hb=>hf b (Zk _ hb))⟩
 self:=λA i s Q E st h=>by
  let⟨⟨old,he⟩,_⟩:=st;exact wpAny_pyIter_enum he h
def VW (K:Θ1)(ta:TA):TI:=λσ H R=>ta σ H λvs H1=>∃a,vs=[.ref a]/\(∃xs,aQ K H1 a xs)/\R (CW K a) H1
end
def Cn (ao:St)(acc:Addr)(P:List V->Hp->Prop)(σ:St)(H:Hp):Prop:=(∀v,σ.set 0 v=ao.set 0 v)/\∃ys,H acc=some (.lst ys)/\P ys H
def Cn.of (h:H acc=some (.lst ys))(p:P ys H):Cn ao acc P (ao.set 0 w) H:=⟨λv=>by rw[List.set_set],ys,h,p⟩
def L4 (outer:List (Str×NameKind))(N:Δ2)(scope:Scope)(cap:Δ2)(ix:List Nat):Bool :=
 (scope.kind == .function)&&(scope.names.all λx=>x.2 != .local||scope.names.lookup x.1 == some .local)&&decide (scope.names.map (·.1)).Nodup &&
 (scope.names.all λx=>x.2 != .free||outer.lookup x.1 == some .cell||outer.lookup x.1 == some .free)&&(cap.all λx=>decide ((x,NameKind.free)∈scope.names))&&(cap.zip ix).all (λp=>N[p.2]? == some p.1)&&cap.length == ix.length
def aL.of (outer:List (Str×NameKind))(N:Δ2)(hsc:X.env.scope.names=outer:=by rfl)(hN:X.N=N:=by rfl)(h:L4 outer N scope cap ix=true:=by decide+kernel):aL X scope own cap ix:=by
 unfold L4 at h;simp only[Z5,Yd,beq_iff_eq,decide_eq_true_eq,X3,bne_iff_ne,ne_eq] at h;let⟨⟨⟨⟨⟨⟨h1,h2⟩,h3⟩,h4⟩,h5⟩,h6⟩,h7⟩:=h;apply⟨h1,λx hx hl=>?_,h3,λx hx hl=>?_,λj x e=>h5 x (Z2 e),λj x e=>?_,h7⟩
 .rcases h2 x hx with z |z
  .exact absurd hl z
  .exact z
 .show X.env.scope.names.lookup x.1=_\/X.env.scope.names.lookup x.1=_;rw[hsc];rcases h4 x hx with (z |z) |z
  .exact absurd hl z
  .exact .inl z
  .exact .inr z
 .let hj:j<cap.length:=(Zf.mp e).1;let l5:j<ix.length:=⋯;apply⟨ix[j],Zc l5,?_⟩;rw[hN];let hz:(cap.zip ix)[j]?=some (x,ix[j]):=by
   rw[List.getElem?_zip_eq_some];exact⟨e,Zc l5⟩
  exact h6 _ (Z2 hz)
section
variable {K:Θ1}{lo:Int}
def jV (Pv:Nat->List V->Hp->Prop)(h0:Pv 0 [] (aK dm acc (.lst [])))
  (hs:∀(i:Nat) ys H,i<n->H acc=some (.lst ys)->Pv i ys H->tt (ao.set 0 (some (.int (lo+i)))) H λb H4 =>
   if b=true then te (ao.set 0 (some (.int (lo+i)))) H4 λy H5=>∃zs,H5 acc=some (.lst zs)/\zs.length<sizeLine/\Cn ao acc (Pv (i+1)) (ao.set 0 (some (.int (lo+i)))) (aK H5 acc (.lst (zs++[y]))) else Cn ao acc (Pv (i+1)) (ao.set 0 (some (.int (lo+i)))) H4)
  (hd:∀ys H,H acc=some (.lst ys)->Pv n ys H->Q (.ref acc) H):gK (eZ 0) tt te (R0 lo n) acc ao dm Q:=by
 apply⟨λi m σ H=>m=n-i/\i<=n/\Cn ao acc (Pv i) σ H,⟨n,by simp,Yb _,λ_=>rfl,[],de,h0⟩,?_⟩;rintro i m σ H ⟨rfl,hi,vT,ys,hy,p⟩;by_cases cG:i<n
 .apply .inr ⟨cG,Cn ao acc (Pv (i+1)),λaR H' c=>⟨n-(i+1),⋯,(),cG,c⟩,λx H' y=>?_⟩;let⟨e,y⟩:=y;subst e y;show tt (σ.set 0 _) _ _;rw[vT];exact hs i ys _ cG hy p
 .let e:i=n:=⋯;subst e;exact .inl ⟨Ze _,hd ys H hy p⟩
def kS (Pv:Nat->List V->Hp->Prop)(h0:Pv 0 [] (aK dm acc (.lst [])))(hl:∀(i:Nat) ys H,i<=xs.length->H acc=some (.lst ys)->Pv i ys H->aQ K H a xs)
  (hs:∀(i:Nat) x ys H,xs[i]?=some x->H acc=some (.lst ys)->Pv i ys H->tt (ao.set 0 (some x)) H λb H4 =>
   if b=true then te (ao.set 0 (some x)) H4 λy H5=>∃zs,H5 acc=some (.lst zs)/\zs.length<sizeLine/\Cn ao acc (Pv (i+1)) (ao.set 0 (some x)) (aK H5 acc (.lst (zs++[y]))) else Cn ao acc (Pv (i+1)) (ao.set 0 (some x)) H4)
  (hd:∀ys H,H acc=some (.lst ys)->Pv xs.length ys H->Q (.ref acc) H):gK (eZ 0) tt te (AE K a) acc ao dm Q:=by
 apply⟨λi m σ H=>m=xs.length-i/\i<=xs.length/\Cn ao acc (Pv i) σ H,⟨xs.length,by simp,Yb _,λ_=>rfl,[],de,h0⟩,?_⟩;rintro i m σ H ⟨rfl,hi,vT,ys,hy,p⟩;let q:=hl i ys H hi hy p;by_cases cG:i<xs.length
 .apply .inr ⟨⟨xs,xs[i],q,by simp[cG]⟩,Cn ao acc (Pv (i+1)),λaR H' c=>⟨xs.length-(i+1),⋯,(),cG,c⟩,λx H' y=>?_⟩;let⟨e,y⟩:=y;subst e;show tt (σ.set 0 _) _ _;rw[vT];exact hs i x ys _ (y xs q) hy p
 .let e:i=xs.length:=⋯;subst e;exact .inl ⟨⟨xs,q,Ze _⟩,hd ys H hy p⟩
def FZ {g:TG}{tb:TS}{D:Ends}(Pv:Nat->St->Hp->Prop)(h0:Pv 0 σ H)(hl:∀i σ H,i<=xs.length->Pv i σ H->H a=some (.tup xs))
  (hs:∀(i:Nat) x p σ H,xs[i]?=some x->H p=none->Pv i σ H->g (.ref p) σ (aK H p (.tup [.int i,x])) λcA H2=>tb { D with nx:=Pv (i+1),ct:=Pv (i+1),bk:=D.nx } cA H2) (hd:∀σ H,Pv xs.length σ H->D.nx σ H) :
  ∃W:Nat->Nat->St->Hp->Prop,(∃m,W 0 m σ H)/\∀i m σ H,W i m σ H ->
   ((CW K a).stop i H/\D.nx σ H)\/((CW K a).go i H/\∃N:St->Hp->Prop,(∀aR H',N aR H'->∃m',m'<m/\W (i+1) m' aR H')/\∀x H',(CW K a).sS i H x H'->g x σ H' λcA H2=>tb { D with nx:=N,ct:=N,bk:=D.nx } cA H2):=by
 apply⟨λi m σ H=>m=xs.length-i/\i<=xs.length/\Pv i σ H,⟨xs.length,by simp,Yb _,h0⟩,?_⟩;rintro i m σ H ⟨rfl,hi,p⟩;let q:=hl i σ H hi p;by_cases cG:i<xs.length
 .apply .inr ⟨⟨xs,xs[i],aQ.of q,by simp[cG]⟩,Pv (i+1),λaR H' p'=>⟨xs.length-(i+1),⋯,(),cG,p'⟩,λx H' y=>?_⟩;let⟨pp,hp,e,SE⟩:=y;let⟨z,hy,e2⟩:=SE xs (aQ.of q);subst e e2;exact hs i z pp σ H hy hp p
 .let e:i=xs.length:=⋯;subst e;exact .inl ⟨⟨xs,aQ.of q,Ze _⟩,hd σ H p⟩
end
section
def ab4 (K:Θ1)(h:X.K=K:=by rfl):ca X (.builtin "len") (λxs H Q=>∃p ys,xs=[.ref p]/\(bG K H p ys\/aQ K H p ys)/\Q (.int ys.length) H):=by subst h;exact ia
end
end L2
namespace KG
open L2
def sM:bootBuiltins "tuple"=some (.type "tuple"):=by first |rfl |kernel_rfl |decide+kernel
def boot_int:bootBuiltins "int"=some (.type "int"):=by first |rfl |kernel_rfl |decide+kernel
def boot_abs:bootBuiltins "abs"=some (.builtin "abs"):=by first |rfl |kernel_rfl |decide+kernel
def boot_max:bootBuiltins "max"=some (.builtin "max"):=by first |rfl |kernel_rfl |decide+kernel
def boot_min:bootBuiltins "min"=some (.builtin "min"):=by first |rfl |kernel_rfl |decide+kernel
def boot_any:bootBuiltins "any"=some (.builtin "any"):=by first |rfl |kernel_rfl |decide+kernel
def boot_sum:bootBuiltins "sum"=some (.builtin "sum"):=by first |rfl |kernel_rfl |decide+kernel
def G7:bootBuiltins "enumerate"=some (.type "enumerate"):=by first |rfl |kernel_rfl |decide+kernel
def MD:bootBuiltins "isinstance"=some (.builtin "isinstance"):=by first |rfl |kernel_rfl |decide+kernel
def boot_bool:bootBuiltins "bool"=some (.type "bool"):=by first |rfl |kernel_rfl |decide+kernel
def jw (H:Hp)(b:Addr):Prop:=∃c d:Int,H b=some (.lst [.int c,.int d])
def Kp (b:Addr)(H H':Hp):Prop:=∀a o,a≠b->H a=some o->H' a=some o
def Kp.refl (b:Addr)(H:Hp):Kp b H H:=λ_ _ _ h=>h
def Kp.trans (x:Kp b H H1)(y:Kp b H1 H2):Kp b H H2:=λa o n h=>y a o n (x a o n h)
def Kp.bag (x:Kp b H H'):Kp b H (aK H' b o):=λa u n h=>by rw[c7 n];exact x a u n h
def Kp.new (x:Kp b H H')(hp:H' p=none):Kp b H (aK H' p o):=λa u n h=>by rw[c7 (Ci (x a u n h) hp)];exact x a u n h
def Kp.acc {b p:Addr}{H H':Hp}{o:HO}(x:Kp b H H')(hp:H p=none):Kp b H (aK H' p o):=λa u n h=>by rw[c7 (Ci h hp)];exact x a u n h
def Kp.free {b p:Addr}{H H':Hp}(x:Kp b H H')(hb:jw H b)(hp:H' p=none)(j3:jw H' b):H p=none:=by
 cases q:H p with
 |none=>rfl
 |some o =>
  by_cases e:p=b
  .subst e;let⟨c,d,h⟩:=j3;rw[h] at hp;cases hp
  .rw[x p o e q] at hp;cases hp
def jw.new (h:jw H b)(hp:H p=none):jw (aK H p o) b:=by
 let⟨c,d,e⟩:=h;exact⟨c,d,by rw[c7 (Ci e hp)];exact e⟩
def jw.ne (h:jw H b)(hp:H p=none):b≠p:=by
 let⟨c,d,e⟩:=h;exact Ci e hp
def qY:Sp:=λvs H Q _=>∃(b:Addr) (m:Int),vs=[.ref b,.int m]/\jw H b/\0<m/\m<1073741824/\∀(r:Int) (H':Hp),0<=r->r<m->jw H' b->Kp b H H'->Q (.int r) H'
def Ds (K:Θ1):Sp:=λvs H Q _=>∃(a:Addr) (ns:Γ3) (k:Int),vs=[.ref a,.int k]/\bG K H a (ns.map V.int)/\0<=k/\k<100/\∀(p:Addr) (c d:Int),H p=none->Q (.ref p) (aK H p (.lst [.int c,.int d]))
structure bS (K:Θ1)(mg:Θ3)(P:Program)(w:World)(base:Heap)(x:Str)(k:Nat)(ps:Δ2)(sp:Sp)(f:Addr)(fd:FuncData):Prop where
 ok:aI P w K mg base cf k f fd ps sp
 mg:mg x=some (.ref f)
 kp:PySem.W.keepIn K (.ref f)=true
 bd:Binds K fd ps []
def sz:sizeLine=16777216:=PySem.sizeLine_eq
def kg {A B:Hp->Prop}(h:A H):Nl σ H (λb H4=>if b=true then A H4 else B H4):=cL (B:=B H) h
def Lv {r:Int}(h0:0<=r)(h1:r<2):∃m:Int,fj [V.int 3,V.int 6] r=some (.int m)/\0<m/\m<=6:=by
 have:r=0\/r=1:=⋯;rcases this with rfl |rfl
 .exact⟨3,(),∅,∅⟩
 .exact⟨6,(),∅,∅⟩
def oy {ns:Γ3}{r:Int}(h0:0<=r)(h1:r<ns.length):fj (ns.map V.int) r=some (V.int (ns.getD r.toNat 0))/\vS (ns.map V.int).length r=some r.toNat/\ns.getD r.toNat 0∈ns:=by
 let hl:r.toNat<ns.length:=⋯;let e:(ns.map V.int)[r.toNat]?=some (V.int (ns.getD r.toNat 0)):=by
  rw[Zo,Zc hl];simp[List.getD,Zc hl]
 apply⟨?_,?_,?_⟩
 .have:=mW e;rw[Xe h0] at this;exact this
 .unfold vS;rw[if_pos h0,if_pos (by rw[Zb];exact h1)]
 .simp[List.getD,Zc hl]
def Tm (H H':Hp):Prop:=∀a xs,H a=some (.tup xs)->H' a=some (.tup xs)
def Kp.tm {b:Addr}{H H':Hp}(x:Kp b H H')(hb:jw H b):Tm H H':=λa xs h=>x a _ (λz=>by let⟨c,d,e⟩:=hb;rw[z,e] at h;cases h) h
def Tm.lst {p:Addr}{H:Hp}{xs:List V}{o:HO}(h:H p=some (.lst xs)):Tm H (aK H p o):=λa ys e=>by
 rw[c7 (λz=>by rw[z,h] at e;cases e)];exact e
def Tm.new {p:Addr}{H:Hp}{o:HO}(h:H p=none):Tm H (aK H p o):=λa ys e=>by rw[c7 (Ci e h)];exact e
def Tm.trans {H H1 H2:Hp}(a:Tm H H1)(b:Tm H1 H2):Tm H H2:=λx xs h=>b x xs (a x xs h)
def jw.acc (h:jw H b)(hp:b≠p):jw (aK H p o) b:=by
 let⟨c,d,e⟩:=h;exact⟨c,d,by rw[c7 hp];exact e⟩
def oq {te:TE}{ao:St}{acc b:Addr}{H1:Hp}{n:Nat}{Q:VK}(jZ:jw H1 b)(bU:H1 acc=none)(hn:n<=100)(R:Hp->V->Prop)(hR:∀H H' v,Tm H H'->R H v->R H' v)
  (ht:∀(i:Nat) H',i<n->jw H' b->Kp b H1 H'->∀(Z:V->Hp->Prop),(∀y H5,jw H5 b->Kp b H' H5->R H5 y->Z y H5)->te (ao.set 0 (some (.int (0+i)))) H' Z)
  (hd:∀ys H',jw H' b->Kp b H1 H'->ys.length=n->(∀y∈ys,R H' y)->H' acc=some (.lst ys)->Q (.ref acc) H'):gK (eZ 0) Nl te (R0 0 n) acc ao H1 Q:=by
 let wq:=jZ.ne bU;apply jV (λi ys H'=>jw H' b/\Kp b H1 H'/\ys.length=i/\∀y∈ys,R H' y) ⟨jZ.new bU,(Kp.refl b H1).new bU,(),λy hy=>nomatch hy⟩ ?_ ?_
 .rintro i ys H' hi hy ⟨j3,Cz,hl,hr⟩;apply kg ?_;apply ht i H' hi j3 Cz _ λy H5 M1 Cf r5=>?_
  let MJ:=Cf acc _ wq.symm hy;apply⟨ys,MJ,by rw[hl,sz];omega,Cn.of de ⟨M1.acc wq,(Cz.trans Cf).acc bU,by rw[Zt,hl];rfl,λz hz=>?_⟩⟩;let tm:=Tm.lst (o:=.lst (ys++[y])) MJ;rcases Zv.mp hz with q |q
  .exact hR _ _ z tm (hR _ _ z (Cf.tm j3) (hr z q))
  .obtain rfl:z=y:=by simpa using q
   exact hR _ _ z tm r5
 .rintro ys H' hy ⟨j3,Cz,hl,hr⟩;exact hd ys H' j3 Cz hl hr hy
def qG (H:Hp)(ws:List V)(M:Γ1):Prop:=Paired (λv ns=>∃a,v=V.ref a/\H a=some (.tup (List.map V.int ns))) ws M
def qG.keep (h:qG H ws M)(t:Tm H H'):qG H' ws M:=Paired.HF h λv ns ⟨a,e,q⟩=>⟨a,e,t a _ q⟩
def qG.len (h:qG H ws M):ws.length=M.length:=Paired.length h
theorem qG.at:∀{H:Hp}{ws:List V}{M:Γ1}{i:Nat}{x:V},qG H ws M->ws[i]?=some x->∃ns a,M[i]?=some ns/\x=V.ref a/\H a=some (.tup (List.map V.int ns))
 |_,_,_,_,_,.nil,e=>by simp at e
 |_,_,_,0,_,.cons ⟨a,h1,h2⟩ _,e=>by simp at e;subst e;exact⟨_,a,(),h1,h2⟩
 |_,_,_,i+1,_,.cons _ t,e=>by
  let⟨ns,a,h1,h2,h3⟩:=qG.at (i:=i) t (by simpa using e);exact⟨ns,a,by simpa using h1,h2,h3⟩
def aA (H H':Hp):Prop:=∀a o,H a=some o->H' a=some o
def aA.refl (H:Hp):aA H H:=λ_ _ h=>h
def aA.trans (a:aA H H1)(b:aA H1 H2):aA H H2:=λx o h=>b x o (a x o h)
def aA.new (a:aA H H')(hp:H' p=none):aA H (aK H' p o):=λx u h=>by rw[c7 (Ci (a x u h) hp)];exact a x u h
def aA.acc (a:aA H H')(hp:H p=none):aA H (aK H' p o):=λx u h=>by rw[c7 (Ci h hp)];exact a x u h
def aA.tm (a:aA H H'):Tm H H':=λx xs h=>a x _ h
def has (M:Γ1)(j:Nat):Bool:=M.any λr=>decide (0<r.getD j 0)
def GD (g:Nat)(M:Γ1):List V:=((List.range g).filter (has M)).map λ(j:Nat)=>V.int (0+(j:Int))
def vn (f:Nat->Bool)(n:Nat):(List.range (n+1)).filter f=(List.range n).filter f++if f n=true then [n] else []:=by
 rw[Y3,Xo]
 grind
def aA.free (s:aA H0 H)(h:H p=none):H0 p=none:=by
 cases q:H0 p with
 |none=>rfl
 |some o=>rw[s p o q] at h;cases h
def ym (K:Θ1):Sp:=λvs H Q _=>∃(a:Addr) (ns:Γ3),vs=[.ref a]/\bG K H a (ns.map V.int)/\ns.length<=63/\∀H',Q (.bl true) H'
def bG.ar (h:bG K H a xs)(s:aA H H'):bG K H' a xs:=by
 rcases h with (h |⟨o,h⟩) |h
 .exact .inl (.inl (s _ _ h))
 .exact .inl (.inr ⟨o,s _ _ h⟩)
 .exact .inr h
def boot_list:bootBuiltins "list"=some (.type "list"):=by first |rfl |kernel_rfl |decide+kernel
def boot_all:bootBuiltins "all"=some (.builtin "all"):=by first |rfl |kernel_rfl |decide+kernel
mutual
inductive fo (b:Addr) (H:Hp):V->PyData->Prop
 |cj:fo b H .cj .none
 |bl (c:Bool):fo b H (.bl c) (.bool c)
 |int (i:Int):fo b H (.int i) (.int i)
 |str (x:Str) (ok:(PyData.str x).canLay0=true):fo b H (.str x) (.str x)
 |lst {a:Addr}{xs:List V}{ds:Ξ1}:a≠b->H a=some (.lst xs)->cg b H xs ds->fo b H (.ref a) (.list ds)
 |tup {a:Addr}{xs:List V}{ds:Ξ1}:H a=some (.tup xs)->cg b H xs ds->fo b H (.ref a) (.tuple ds)
inductive cg (b:Addr) (H:Hp):List V->Ξ1->Prop
 |nil:cg b H [] []
 |cons {x:V}{xs:List V}{d:PyData}{ds:Ξ1}:fo b H x d->cg b H xs ds->cg b H (x::xs) (d::ds)
end
mutual
theorem fo.ar (k:aA H H'):∀{v:V}{d:PyData},fo b H v d->fo b H' v d
 |_,_,.cj=>.cj
 |_,_,.bl c=>.bl c
 |_,_,.int i=>.int i
 |_,_,.str x ok=>.str x ok
 |_,_,.lst n h t=>.lst n (k _ _ h) (cg.ar k t)
 |_,_,.tup h t=>.tup (k _ _ h) (cg.ar k t)
theorem cg.ar (k:aA H H'):∀{vs:List V}{ds:Ξ1},cg b H vs ds->cg b H' vs ds
 |_,_,.nil=>.nil
 |_,_,.cons h t=>.cons (fo.ar k h) (cg.ar k t)
end
mutual
theorem fo.dt:∀{v:V}{d:PyData},fo b H v d->mr K H v d
 |_,_,.cj=>.cj
 |_,_,.bl c=>.bl c
 |_,_,.int i=>.int i
 |_,_,.str x ok=>.str x ok
 |_,_,.lst n h t=>.lst (bG.of h) (cg.dt t)
 |_,_,.tup h t=>.tup (aQ.of h) (cg.dt t)
theorem cg.dt {K:Θ1}{b:Addr}{H:Hp}:∀{vs:List V}{ds:Ξ1},cg b H vs ds->eX K H vs ds
 |_,_,.nil=>.nil
 |_,_,.cons h t=>.cons (fo.dt h) (cg.dt t)
end
theorem cg.len:∀{vs:List V}{ds:Ξ1},cg b H vs ds->vs.length=ds.length
 |_,_,.nil=>rfl
 |_,_,.cons _ t=>congrArg (· + 1) (cg.len t)
theorem cg.at:∀{vs:List V}{ds:Ξ1}{i:Nat}{x:V},cg b H vs ds->vs[i]?=some x->∃d,ds[i]?=some d/\fo b H x d
 |_,_,_,_,.nil,e=>by simp at e
 |_,_,0,_,.cons h _,e=>by simp at e;subst e;exact⟨_,(),h⟩
 |_,_,i+1,_,.cons _ t,e=>by
  let⟨d,h1,h2⟩:=cg.at (i:=i) t (by simpa using e);exact⟨d,by simpa using h1,h2⟩
def kE:PyData->Bool
 |.int _=>true
 |_=>false
def within (lo hi:Int):PyData->Bool
 |.int i=>decide (lo<=i)&&decide (i<=hi)
 |_=>false
def bT:PyData->Bool
 |.tuple [.int t,.int u]=>decide (1<=u)&&decide (Int.gcd t u=1)
 |_=>false
def vP:PyData->Bool
 |.tuple [.int t,.int u]=>decide (1<=u)&&decide (Int.gcd t u=1)&&decide (1<=t)&&decide (t<=1000000)&&decide (u<=1000000)
 |_=>false
def ko (n:Nat)(lo hi:Int):PyData->Bool
 |.tuple ds=>decide (ds.length=n)&&ds.all (within lo hi)
 |_=>false
def gh:PyData->Bool
 |.tuple [.tuple a,.tuple p,.tuple w]=>decide (1<=a.length)&&decide (a.length<=6)&&a.all (within 1 60)&&(decide (1<=p.length)&&decide (p.length<=6)&&p.all vP)&&(decide (w.length=p.length)&&w.all (ko a.length 0 100))
 |_=>false
section
def My (h:cg b H xs (d::ds)):∃x ys,xs=x::ys/\fo b H x d/\cg b H ys ds:=by cases h with |cons a t=>exact⟨_,_,rfl,a,t⟩
def nY (h:cg b H xs []):xs=[]:=by cases h;rfl
def iX {v:V}(h:fo b H v (.tuple ds)):∃a xs,v=.ref a/\H a=some (.tup xs)/\cg b H xs ds:=by cases h with |tup h t=>exact⟨_,_,rfl,h,t⟩
def my {v:V}{i:Int}(h:fo b H v (.int i)):v=.int i:=by cases h;rfl
def oD (h:cg b H xs ds)(hl:0<xs.length):∃x ys d es,xs=x::ys/\ds=d::es/\fo b H x d/\cg b H ys es:=by
 cases h with
 |nil=>exact absurd hl ∅
 |cons a t=>exact⟨_,_,_,_,(),(),a,t⟩
def ET (h:cg b H xs ds)(hl:xs.length=2):∃x y dx dy,xs=[x,y]/\ds=[dx,dy]/\fo b H x dx/\fo b H y dy:=by
 let⟨x,ys,d,es,rfl,rfl,a,h⟩:=oD h ⋯;rw[Y4] at hl;let⟨y,zs,e,fs,rfl,rfl,c,h⟩:=oD h ⋯;rw[Y4] at hl;cases h with
 |nil=>exact⟨_,_,_,_,(),(),a,c⟩
 |cons _ _=>rw[Y4] at hl;omega
end
end KG
namespace HT
open PySem.Spec PyProof.Rows
section
end
end HT
namespace L2
open PySem.Spec PyProof.Rows
section
def Lj:R2:=λx y H Q=>∃a b xs ys,x=.ref a/\y=.ref b/\H a=some (.tup xs)/\H b=some (.tup ys)/\xs.length+ys.length<=sizeLine/\∀p H',KG.aA H H'->H' p=some (.tup (xs++ys))->Q (.ref p) H'
def Jw:fq X (binaryOp .Add) Lj:=by
 intro ae s σ H x y v u Q I rx ry h;let⟨a,b,xs,ys,rfl,rfl,ha,hb,hz,q⟩:=h;by_cases hx:xs=[]
 .cases rx
  cases ry
  let⟨its,r1,p1,_⟩:=I.tuple (aQ.of ha);let⟨C8,r2,p2,_⟩:=I.tuple (aQ.of hb);let⟨⟨cls,dd,data,sl⟩,ho,hc,n,hd⟩:=id p1;let⟨⟨abZ,W4,data2,cr⟩,MR,GQ,n2,Hj⟩:=id p2;simp only at hc hd GQ Hj;subst hc hd GQ Hj;let e0:its=[]:=r1.mK.mpr hx;exact concat_meets ⟨_,ho,()⟩ ⟨_,MR,()⟩ noFill_tuple_add seq_tuple_add PySem.F.slot_tuple_add PySem.F.entry_tuple_add (PySem.F.args_tuple_add_2 _ _)
   (tuple_addW0 a b its.toArray C8.toArray n n2 dd W4 sl cr (by simp[e0])) ⟨ho,MR,⟨.ref b,H,I,(),q b H (KG.aA.refl H) (by rw[hx];exact hb)⟩⟩
 .apply Ju ae s σ H _ _ v u Q I rx ry ⟨a,b,xs,ys,(),(),aQ.of ha,aQ.of hb,hx,hz,λe=>q a H (KG.aA.refl H) (by rw[e,Yh];exact ha),λ_ p hp=>q p _ ((KG.aA.refl H).new hp) de⟩
end
end L2
namespace L2
open PySem.Spec PyProof.Rows KG
end L2
namespace EX
open PySem.Spec PyProof.Rows
section
end
end EX
namespace L2
open PySem.Spec PyProof.Rows EX
section
variable {K:Θ1}
end
end L2
namespace EX
open PySem.Spec PyProof.Rows
section
end
end EX
namespace L2
open PySem.Spec PyProof.Rows EX
section
end
section
end
end L2
namespace EX
open PySem.Spec PyProof.Rows PySem.W
section
variable {K:Frag}
end
end EX
namespace L2
open PySem.Spec PyProof.Rows EX
section
end
end L2
namespace EX
open PySem.Spec PyProof.Rows PySem.W
section
variable {K:Frag}
end
end EX
namespace L2
open PySem.Spec PyProof.Rows EX
section
variable {K:Θ1}
end
section
end
end L2
namespace KG
def Bd (k:Nat)(n:Int):Prop:=n.natAbs<2 ^ k
def Bd.mono (h:Bd j n)(hj:j<=k):Bd k n:=Yl h (Xa ∅ hj)
def Bd.mul (h:Bd j a)(h':Bd k b):Bd (j+k) (a*b):=by
 unfold Bd at *;rw[Xf,Nat.pow_add];exact Nat.mul_lt_mul'' h h'
def Bd.le (h:Bd k b)(hl:a.natAbs<=b.natAbs):Bd k a:=Nat.lt_of_le_of_lt hl h
def sg (t u:Int):Int:=if u<0 then -(Int.gcd t u:Int) else (Int.gcd t u:Int)
def nx (t u:Int):Int:=t.fdiv (sg t u)
def ny (t u:Int):Int:=u.fdiv (sg t u)
def kB (h:u≠0):nx t u*u=t*ny t u/\0<ny t u/\Int.gcd (nx t u) (ny t u)=1/\sg t u≠0/\(nx t u).natAbs<=t.natAbs/\(ny t u).natAbs<=u.natAbs:=by
 let g0:0<Int.gcd t u:=Qy t h;obtain⟨a,ha⟩:(Int.gcd t u:Int)∣t:=Int.gcd_dvd_left ..;obtain⟨b,hb⟩:(Int.gcd t u:Int)∣u:=Qz ..;generalize hg:Int.gcd t u=g at *;let hc:Int.gcd a b=1:=by
  let e:Int.gcd t u=Int.gcd ((g:Int)*a) ((g:Int)*b):=by rw[<- ha,<- hb]
  rw[hg,Int.gcd_mul_left] at e;simp at e;let e2:g*1=g*Int.gcd a b:=by rw[Nat.mul_one];exact e
  exact(Nat.eq_of_mul_eq_mul_left g0 e2).symm
 let gp:(0:Int)<g:=⋯;let la:a.natAbs<=t.natAbs:=by
  rw[ha,Xf];simp;exact Nat.le_mul_of_pos_left _ g0
 let lb:b.natAbs<=u.natAbs:=by
  rw[hb,Xf];simp;exact Nat.le_mul_of_pos_left _ g0
 unfold nx ny sg;rw[hg];by_cases hu:u<0
 .rw[if_pos hu];let dn:(-(g:Int))≠0:=⋯;let e1:t.fdiv (-(g:Int))=-a:=by
   have:t=(-(g:Int))*(-a):=by rw[Int.neg_mul_neg];exact ha
   rw[this,Q4 _ dn]
  let e2:u.fdiv (-(g:Int))=-b:=by
   have:u=(-(g:Int))*(-b):=by rw[Int.neg_mul_neg];exact hb
   rw[this,Q4 _ dn]
  rw[e1,e2];apply⟨?_,?_,by rw[Int.neg_gcd,Int.gcd_neg];exact hc,dn,by rw[Int.natAbs_neg];exact la,by rw[Int.natAbs_neg];exact lb⟩
  .let q:a*u=t*b:=by rw[hb,ha];rw[Int.mul_left_comm,Int.mul_assoc]
   rw[Int.neg_mul,q,Int.mul_neg]
  .rcases Int.lt_or_le b 0 with z |z
   .omega
   .have:0<=(g:Int)*b:=Int.mul_nonneg ⋯ z;omega
 .rw[if_neg hu];let dn:(g:Int)≠0:=⋯;let e1:t.fdiv (g:Int)=a:=by rw[ha,Q4 _ dn]
  let e2:u.fdiv (g:Int)=b:=by rw[hb,Q4 _ dn]
  rw[e1,e2];apply⟨?_,?_,hc,dn,la,lb⟩
  .rw[hb,ha,Int.mul_left_comm,Int.mul_assoc]
  .rcases Int.lt_or_le 0 b with z |z
   .exact z
   .have:(g:Int)*b<=0:=Int.mul_nonpos_of_nonneg_of_nonpos ⋯ z;omega
def zX {a c:Int}(h:c≠0):(a.fmod c).natAbs<c.natAbs:=by
 rcases Int.lt_or_gt_of_ne h with z |z
 .let e:(-a).fmod (-c)=-(a.fmod c):=Int.neg_fmod_neg a c;let h1:=Int.fmod_nonneg_of_pos (-a) (show 0 < -c by omega);let h2:=Int.fmod_lt_of_pos (-a) (show 0 < -c by omega);omega
 .let h1:=Int.fmod_nonneg_of_pos a z;let h2:=Int.fmod_lt_of_pos a z;omega
def uS:Int.gcd c (a.fmod c)=Int.gcd a c:=by
 rw[Int.gcd_comm a c,Int.fmod_def,Int.gcd_sub_mul_left_right]
end KG
namespace L2
open PySem.Spec PyProof.Rows KG
section
structure Na (X:Cx):Prop where
 tree:X.prog.given.tree=none
 st:∃env l,X.stack=env::l/\env.scope.isGenerator=false/\env.scope.isCoroutine=false/\env.builtins=builtinsNs/\env.globals=mainGlobals
def lq {CX:Cs}{P:Program}{w:World}{K:Θ1}{mg:Θ3}{base:Heap}{N ps:Δ2}{qual:Str}{sc:Scope}{f:Addr}{cd:Value}{A:Around}{outer:List Env}{s:Shared}{H:Hp}{E:XK}(tr:P.given.tree=none)(S:ai N ps sc):Na (tU CX P w K mg base N qual sc f cd A outer s H E).Ro:=⟨tr,_,_,(),S.gen,S.co,(),()⟩
def gA {k:Nat}(hr:cS k X.A)(hp:Na X):fq X (binaryOp .FloorDiv) (rI (λ_ j=>j≠0/\Bd 66000000 j) λi j=>.int (i.fdiv j)):=by
 intro ae s σ H x y v u Q I rx ry h;let⟨i,j,rfl,rfl,hc,q⟩:=h;let⟨t,rfl⟩:=rx;let⟨t',rfl⟩:=ry;let⟨env,l,e1,e2,e3,e4,e5⟩:=hp.st;apply floordiv_int hc.1 ⟨.int (i.fdiv j),H,I.tok _,⟨_,()⟩,q⟩ (.inr (PylongRoom.of I.nolimit ?_ (SeerAt.of I.wO hp.tree (by rw[<- e1];exact I.ok.frames) e2 e3 e4 e5)));have:=hr.dp;show X.A.depth+100<_;omega
def Fu {k:Nat}(hr:cS k X.A)(hp:Na X):fq X (binaryOp .FloorDiv) (rI (λ_ j=>0<j/\Bd 66000000 j) λi j=>.int (i / j)):=λae s σ H x y v u Q I rx ry ⟨i,j,ei,ej,hc,q⟩=>gA hr hp ae s σ H x y v u Q I rx ry ⟨i,j,ei,ej,⟨X4 hc.1,hc.2⟩,by show Q (.int (i.fdiv j)) H;rw[Qw i (Int.le_of_lt hc.1)];exact q⟩
def qz:fq X (binaryOp .Mult) (rI (λi j=>Bd 66000000 i/\Bd 66000000 j) λi j=>.int (i*j)):=Rn λi j _ _ _ _ _ hc q=>mul_int q (by
 let h1:=intBits_le hc.1;let h2:=intBits_le hc.2;unfold IntMulOk;intro z;simp only[Z5] at z;let z2:=z.2;unfold Builtin.Int.intTooBig at z2;let z3:=of_decide_eq_true z2;let e2:(132000000:Int)<=(bitsLine:Int):=by decide+kernel
 omega)
end
end L2
namespace KG
open L2
end KG
namespace L2
open PySem.Spec PyProof.Rows
def UE (K:Θ1)(n:Nat)(t:M9):TG:=λv σ H Q=>∃a xs,v=.ref a/\bG K H a xs/\xs.length=n/\t xs σ H Q
def OY (hc:X.calm=true)(h:vK X es t)
  (hn:(assignEach es X.env).length=n:=by rfl) (m4:(assignEach es X.env).findIdx? (·.1)=none:=by rfl):PG X (.Tuple es k pos) (UE X.K n t):=by
 intro ae s σ H v u Q I r hw;let⟨a,xs,e1,hq,hl,hw⟩:=hw;subst e1;cases r;let⟨its,rv,ht,hz⟩:=I.list hq;rw[assign_Tuple];apply Za (wpAny_standAt ?_);unfold unpack;rw[hn,m4];let hsz:n=its.toArray.size:=by rw[Z8,<- rv.length,hl]
 rw[hsz];apply Za (wpAny_holding (PySem.W.kun_itemsOf (I.ok.hd hc) ht.isList λh' hx=>?_));let I1:Inv X ae σ H { s with heap:=h' }:=I.kept (t':=s.toks) λb o e=>hx b o (Ye (Zr e)) e
 exact h ae _ σ H xs _ Q I1 (by simpa using rv) hw
def wn (K:Θ1)(he:PE X e te)(hg:Gl X "isinstance")(hm:X.mg "isinstance"=none)(Hh:Gl X T)(Hd:X.mg T=none)(hv:bootBuiltins T=some (.type n))
  (hb:bootBuiltins "isinstance"=some (.builtin "isinstance")) (h:X.K=K:=by rfl) (ZP:T ≠ "__name__":=by decide) (K':(T == ("__debug__" : Str))=false:=by decide)
  (hs:starEach [e,.Name T p2] X.env=[(false,eval e X.env),(false,eval (.Name T p2) X.env)]:=by rfl)
  (jE:(backTo pos (starEach [.Name T p2] X.env)).any (·.1)=false:=by rfl):PE X (.Call (.Name "isinstance" p) [e,.Name T p2] [] pos) (No K (.type n) te):=by
 subst h;exact Jt he hg hm Hh Hd hv hb ZP K' hs jE
end L2
namespace KM
open L2 KG EX
def tyD:PyData->String
 |.none=>"NoneType"
 |.bool _=>"bool"
 |.int _=>"int"
 |.str _=>"str"
 |.list _=>"list"
 |.tuple _=>"tuple"
 |.dict _=>"dict"
def Sy:PyData->Bool
 |.int _=>true
 |.bool _=>true
 |_=>false
def WE:PyData->Bool
 |.bool _=>true
 |_=>false
def MF:PyData->Bool
 |.tuple _=>true
 |_=>false
structure Cr (K:Θ1):Prop where
 i1:PySem.W.kitOne K (.type "NoneType") (.type "int")=some false
 i2:PySem.W.kitOne K (.type "bool") (.type "int")=some true
 i3:PySem.W.kitOne K (.type "int") (.type "int")=some true
 i4:PySem.W.kitOne K (.type "str") (.type "int")=some false
 i5:PySem.W.kitOne K (.type "list") (.type "int")=some false
 i6:PySem.W.kitOne K (.type "tuple") (.type "int")=some false
 b1:PySem.W.kitOne K (.type "NoneType") (.type "bool")=some false
 b2:PySem.W.kitOne K (.type "bool") (.type "bool")=some true
 b3:PySem.W.kitOne K (.type "int") (.type "bool")=some false
 b4:PySem.W.kitOne K (.type "str") (.type "bool")=some false
 b5:PySem.W.kitOne K (.type "list") (.type "bool")=some false
 b6:PySem.W.kitOne K (.type "tuple") (.type "bool")=some false
 t1:PySem.W.kitOne K (.type "NoneType") (.type "tuple")=some false
 t2:PySem.W.kitOne K (.type "bool") (.type "tuple")=some false
 t3:PySem.W.kitOne K (.type "int") (.type "tuple")=some false
 t4:PySem.W.kitOne K (.type "str") (.type "tuple")=some false
 t5:PySem.W.kitOne K (.type "list") (.type "tuple")=some false
 t6:PySem.W.kitOne K (.type "tuple") (.type "tuple")=some true
def isi (Z:Cr K)(h:fo b H v d):∃t,iB K H v t/\PySem.W.kitOne K t (.type "int")=some (Sy d):=by
 cases h with
 |cj=>exact⟨_,.cj,Z.i1⟩
 |bl c=>exact⟨_,.bl _,Z.i2⟩
 |int c=>exact⟨_,.int _,Z.i3⟩
 |str x ok=>exact⟨_,.str _,Z.i4⟩
 |lst n e t=>exact⟨_,.lst e,Z.i5⟩
 |tup e t=>exact⟨_,.tup e,Z.i6⟩
def isb (Z:Cr K)(h:fo b H v d):∃t,iB K H v t/\PySem.W.kitOne K t (.type "bool")=some (WE d):=by
 cases h with
 |cj=>exact⟨_,.cj,Z.b1⟩
 |bl c=>exact⟨_,.bl _,Z.b2⟩
 |int c=>exact⟨_,.int _,Z.b3⟩
 |str x ok=>exact⟨_,.str _,Z.b4⟩
 |lst n e t=>exact⟨_,.lst e,Z.b5⟩
 |tup e t=>exact⟨_,.tup e,Z.b6⟩
def ist (Z:Cr K)(h:fo b H v d):∃t,iB K H v t/\PySem.W.kitOne K t (.type "tuple")=some (MF d):=by
 cases h with
 |cj=>exact⟨_,.cj,Z.t1⟩
 |bl c=>exact⟨_,.bl _,Z.t2⟩
 |int c=>exact⟨_,.int _,Z.t3⟩
 |str x ok=>exact⟨_,.str _,Z.t4⟩
 |lst n e t=>exact⟨_,.lst e,Z.t5⟩
 |tup e t=>exact⟨_,.tup e,Z.t6⟩
def yT (h:fo b H v d):MF d=false\/∃a xs ds,v=.ref a/\d=.tuple ds/\H a=some (.tup xs)/\cg b H xs ds:=by
 cases h with
 |cj=>exact .inl rfl
 |bl c=>exact .inl rfl
 |int c=>exact .inl rfl
 |str x ok=>exact .inl rfl
 |lst n e t=>exact .inl rfl
 |tup e t=>exact .inr ⟨_,_,_,(),(),e,t⟩
def sk (h:fo b H v d):kE d=false\/∃i,v=.int i/\d=.int i:=by
 cases h with
 |cj=>exact .inl rfl
 |bl c=>exact .inl rfl
 |int c=>exact .inr ⟨_,(),()⟩
 |str x ok=>exact .inl rfl
 |lst n e t=>exact .inl rfl
 |tup e t=>exact .inl rfl
def xO (d:PyData):kE d=(Sy d&&!WE d):=by cases d<;>rfl
def A2 (h:kE d=false):within lo hi d=false:=by cases d<;>first |rfl |cases h
def BO (h:MF d=false):bT d=false:=by cases d<;>first |rfl |cases h
def spT (m:PyData->Bool):Sp:=λvs H Q _=>∃(b:Addr) (v:V) (d:PyData),vs=[v]/\fo b H v d/\∀H',aA H H'->Q (.bl (m d)) H'
def K4:Sp:=λvs H Q _=>∃(t u:Int),vs=[.int t,.int u]/\0<=u/\Q (.int (Int.gcd t u)) H
def FX:Int.gcd c (a % c)=Int.gcd a c:=by
 rw[Int.gcd_comm a c,Int.emod_def,Int.gcd_sub_mul_left_right]
def Kn:(if a<0 then -a else a)=(Int.gcd a 0:Int):=by
 rw[Int.gcd_zero_right];omega
def xP (h:ds.length≠2):bT (.tuple ds)=false:=by
 unfold bT;split
 .next ZZ=>injection ZZ with ZZ;subst ZZ;exact absurd rfl h
 .rfl
def yR {a b:Nat}(h:a≠b):(!decide (V.int (a:Int)=V.int (b:Int)))=true:=by
 grind
def Iu (a:Int):(!decide (V.int a=V.int a))=false:=by simp
def qj (h:bT d=true):∃t u:Int,d=.tuple [.int t,.int u]/\1<=u/\Int.gcd t u=1:=by
 unfold bT at h;split at h
 .next t u=>simp at h;exact⟨t,u,(),h.1,h.2⟩
 .cases h
def D6:Sp:=λvs H Q _=>∃(t u:Int),vs=[.int t,.int u]/\0<u/\u<1073741824/\∀(p:Addr),H p=none->Q (.ref p) (aK H p (.tup [.int (t / (Int.gcd t u:Int)),.int (u / (Int.gcd t u:Int))]))
def zW (h:0<u):0<(Int.gcd t u:Int)/\(Int.gcd t u:Int)<=u:=by
 let h1:0<Int.gcd t u:=Qy t ⋯;let h2:(Int.gcd t u:Int)∣u:=Qz ..;exact⟨⋯,Int.le_of_dvd h h2⟩
def Tw:Sp:=λvs H Q _=>∃(b:Addr),vs=[.ref b]/\jw H b/\∀(v:V) (d:PyData) (H':Hp),jw H' b->Kp b H H'->fo b H' v d->vP d=true->Q v H'
def pW (h1:1<=t)(h2:t<=1000000):vP (.tuple [.int t,.int 1])=true:=by
 show(decide ((1:Int)<=1)&&decide (Int.gcd t 1=1)&&decide (1<=t)&&decide (t<=1000000)&&decide ((1:Int)<=1000000))=true
 simp_all
def pX (h1:1<=t)(h2:t<=1000000)(h3:1<=u)(h4:u<=1000000):vP (.tuple [.int (t / (Int.gcd t u:Int)),.int (u / (Int.gcd t u:Int))])=true:=by
 let⟨g0,g1⟩:=zW (t:=t) (u:=u) ⋯;let gt:(Int.gcd t u:Int)∣t:=Int.gcd_dvd_left ..;let gu:(Int.gcd t u:Int)∣u:=Qz ..;let e:Int.gcd (t / (Int.gcd t u:Int)) (u / (Int.gcd t u:Int))=1:=Int.gcd_ediv_gcd_ediv_gcd ⋯;let lo:∀n:Int,1<=n->n<=1000000->(Int.gcd t u:Int)∣n->1<=n / (Int.gcd t u:Int)/\n / (Int.gcd t u:Int)<=1000000:=λn n1 n2 hd=>by
  let a1:n / (Int.gcd t u:Int)*(Int.gcd t u:Int)=n:=Int.ediv_mul_cancel hd;let a2:n / (Int.gcd t u:Int)<=n:=Int.ediv_le_self _ ⋯;let a3:0<=n / (Int.gcd t u:Int):=Int.ediv_nonneg ⋯ ⋯
  grind
 let⟨t1,t2⟩:=lo t h1 h2 gt;let⟨u1,u2⟩:=lo u h3 h4 gu;show(decide _&&decide (Int.gcd _ _=1)&&decide _&&decide _&&decide _)=true
 grind
def Ht:fo b (aK H p (.tup [.int x,.int y])) (.ref p) (.tuple [.int x,.int y]):=.tup de (.cons (.int x) (.cons (.int y) .nil))
def Tu:Sp:=λvs H Q _=>∃(b:Addr) (g:Int),vs=[.ref b,.int g]/\jw H b/\0<g/\g<=6 /\
 ∀(p:Addr) (ns:Γ3) (H':Hp),jw H' b->Kp b H H'->H' p=some (.tup (ns.map V.int))->(ns.length:Int)=g->(∀n∈ns,0<=n/\n<=100)->(∃n∈ns,1<=n)->Q (.ref p) H'
def PZ {r:Int}(h0:0<=r)(h1:r<5):∃m:Int,fj [V.int 3,V.int 101,V.int 2,V.int 10,V.int 101] r=some (.int m)/\0<m/\m<=101:=by
 have:r=0\/r=1\/r=2\/r=3\/r=4:=⋯;rcases this with rfl |rfl |rfl |rfl |rfl
 .exact⟨3,(),∅,∅⟩
 .exact⟨101,(),∅,∅⟩
 .exact⟨2,(),∅,∅⟩
 .exact⟨10,(),∅,∅⟩
 .exact⟨101,(),∅,∅⟩
def P0 {r:Int}(h0:0<=r)(h1:r<3):∃m:Int,fj [V.int 1,V.int 9,V.int 60] r=some (.int m)/\0<m/\m<=60:=by
 have:r=0\/r=1\/r=2:=⋯;rcases this with rfl |rfl |rfl
 .exact⟨1,(),∅,∅⟩
 .exact⟨9,(),∅,∅⟩
 .exact⟨60,(),∅,∅⟩
theorem yi {b:Addr}{H:Hp}{m:PyData->Bool}:∀{ys:List V},(∀y∈ys,∃d,fo b H y d/\m d=true)->∃ds,cg b H ys ds/\ds.all m=true
 |[],_=>⟨[],.nil,()⟩
 |y::ys,h=>by
  let⟨ds,h1,h2⟩:=yi (ys:=ys) λz hz=>h z (Zk _ hz)
  let⟨d,h3,h4⟩:=h y Zh;exact⟨d::ds,.cons h3 h1,by rw[Y9,h4,h2];rfl⟩
def TX:PyData->Bool
 |.int n=>decide (1<=n)
 |_=>false
def HD:PyData->Bool
 |.tuple ds=>ds.any TX
 |_=>false
theorem u5 {α : Type}{f g:α->Bool}:∀{xs:List α},(xs.all λx=>f x&&g x)=true->xs.all f=true/\xs.all g=true
 |[],_=>⟨(),()⟩
 |x::xs,h=>by
  rw[Y9,Z5,Z5] at h;let⟨h1,h2⟩:=u5 h.2;exact⟨by rw[Y9,h.1.1,h1];rfl,by rw[Y9,h.1.2,h2];rfl⟩
def Nt:Sp:=λvs H Q _=>∃(b:Addr),vs=[.ref b]/\jw H b/\∀(p:Addr) (am pu wi:Ξ1) (H':Hp),jw H' b->Kp b H H'->fo b H' (.ref p) (.tuple [.tuple am,.tuple pu,.tuple wi])->gh (.tuple [.tuple am,.tuple pu,.tuple wi])=true->wi.all HD=true->Q (.ref p) H'
def RA (_:Hp)(v:V):Prop:=∃n:Int,v=.int n/\1<=n/\n<=60
def RP (H:Hp)(v:V):Prop:=∃(a:Addr) (t u:Int),v=.ref a/\H a=some (.tup [.int t,.int u])/\vP (.tuple [.int t,.int u])=true
def RW (g:Int)(H:Hp)(v:V):Prop:=∃(a:Addr) (ns:Γ3),v=.ref a/\H a=some (.tup (List.map V.int ns))/\(ns.length:Int)=g/\(∀n∈ns,0<=n/\n<=100)/\∃n∈ns,1<=n
def oF (h:vP d=true):∃t u:Int,d=.tuple [.int t,.int u]:=by
 unfold vP at h;split at h
 .exact⟨_,_,()⟩
 .cases h
def RP.of {b:Addr}{H:Hp}{v:V}{d:PyData}(h:fo b H v d)(hp:vP d=true):RP H v:=by
 let⟨t,u,rfl⟩:=oF hp;cases h with
 |tup ha hs =>
 cases hs with
 |cons hx hs =>
 cases hs with
 |cons hy hs =>
 cases hs
 cases hx
 cases hy
 exact⟨_,t,u,(),ha,hp⟩
def RA.tr {b:Addr}{H:Hp}{v:V}(h:RA H v):∃d,fo b H v d/\within 1 60 d=true:=by
 let⟨n,rfl,h1,h2⟩:=h;exact⟨.int n,.int n,by show(decide _&&decide _)=true;rw[decide_eq_true h1,decide_eq_true h2];rfl⟩
def RP.tr {b:Addr}{H:Hp}{v:V}(h:RP H v):∃d,fo b H v d/\vP d=true:=by
 let⟨a,t,u,rfl,h1,h2⟩:=h;exact⟨_,.tup h1 (.cons (.int t) (.cons (.int u) .nil)),h2⟩
theorem DY {b:Addr}{H:Hp}:∀ns:Γ3,cg b H (ns.map V.int) (ns.map PyData.int)
 |[]=>.nil
 |n::ns=>.cons (.int n) (DY ns)
def x8 {lo hi:Int}{ns:Γ3}(h:∀n∈ns,lo<=n/\n<=hi):(ns.map PyData.int).all (within lo hi)=true:=by
 rw[Xy,Yd];intro n hn;let⟨h1,h2⟩:=h n hn;show(decide _&&decide _)=true;rw[decide_eq_true h1,decide_eq_true h2];rfl
def RW.tr {b:Addr}{H:Hp}{v:V}{g:Nat}(h:RW g H v):∃d,fo b H v d/\(ko g 0 100 d&&HD d)=true:=by
 let⟨a,ns,rfl,h1,h2,h3,n,hn,hp⟩:=h;apply⟨_,.tup h1 (DY ns),?_⟩;let e1:ko g 0 100 (.tuple (ns.map PyData.int))=true:=by
  show(decide _&&_)=true;rw[decide_eq_true (show(ns.map PyData.int).length=g by rw[Zb];omega),x8 h3];rfl
 let e2:HD (.tuple (ns.map PyData.int))=true:=Z6.mpr ⟨.int n,Zd.mpr ⟨n,hn,()⟩,by show decide (1<=n)=true;exact decide_eq_true hp⟩;rw[e1,e2];rfl
def Kc {a p w:Ξ1}(h1:1<=a.length)(h2:a.length<=6)(h3:a.all (within 1 60)=true)(h4:1<=p.length)(h5:p.length<=6)(h6:p.all vP=true)(h7:w.length=p.length)(h8:w.all (ko a.length 0 100)=true):gh (.tuple [.tuple a,.tuple p,.tuple w])=true:=by
 show(decide _&&decide _&&_&&(decide _&&decide _&&_)&&(decide _&&_))=true;rw[decide_eq_true h1,decide_eq_true h2,h3,decide_eq_true h4,decide_eq_true h5,h6,decide_eq_true h7,h8];rfl
def iO (h:gh (.tuple [.tuple a,.tuple p,.tuple w])=true):1<=a.length/\a.length<=6/\a.all (within 1 60)=true/\1<=p.length/\p.length<=6/\p.all vP=true/\w.length=p.length/\w.all (ko a.length 0 100)=true:=by
 let h':(decide (1<=a.length)&&decide (a.length<=6)&&a.all (within 1 60)&&(decide (1<=p.length)&&decide (p.length<=6)&&p.all vP)&&(decide (w.length=p.length)&&w.all (ko a.length 0 100)))=true:=h;simp only[Z5,decide_eq_true_eq] at h';let⟨⟨⟨⟨h1,h2⟩,h3⟩,⟨h4,h5⟩,h6⟩,h7,h8⟩:=h';exact⟨h1,h2,h3,h4,h5,h6,h7,h8⟩
def jw.ar (h:jw H b)(s:aA H H'):jw H' b:=by let⟨c,d,e⟩:=h;exact⟨c,d,s _ _ e⟩
def E1 (h:ko n lo hi d=true):∃rs,d=.tuple rs/\rs.length=n/\rs.all (within lo hi)=true:=by
 unfold ko at h
 grind
theorem Ez:∀{xs:List V}{ds:Ξ1},cg b H xs ds->ds.all (within 0 100)=true->∃ns:Γ3,xs=ns.map V.int/\∀n∈ns,0<=n/\n<=100
 |_,_,.nil,_=>⟨[],(),λn h=>nomatch h⟩
 |_,_,.cons (x:=x) (d:=d) h t,e=>by
  rw[Y9,Z5] at e;let⟨ns,rfl,h2⟩:=Ez t e.2;rcases sk h with hn |⟨i,rfl,rfl⟩
  .rw[A2 hn] at e;cases e.1
  .let h1:(decide (0<=i)&&decide (i<=100))=true:=e.1;simp only[Z5,decide_eq_true_eq] at h1;apply⟨i::ns,(),λn hn=>?_⟩;rcases Zj.mp hn with rfl |hn
   .exact h1
   .exact h2 n hn
structure Nm (mg:Θ3):Prop where
 len:mg "len"=none
 range:mg "range"=none
 tuple:mg "tuple"=none
 list:mg "list"=none
 all:mg "all"=none
 any:mg "any"=none
 max:mg "max"=none
 min:mg "min"=none
 sum:mg "sum"=none
 abs:mg "abs"=none
 int:mg "int"=none
 isinstance:mg "isinstance"=none
 bool:mg "bool"=none
 enumerate:mg "enumerate"=none
 QW:mg "ValueError"=none
def be:PyData->Int
 |.int i=>i
 |_=>0
def tZ:PyData->Γ3
 |.tuple rs=>rs.map be
 |_=>[]
def rowsOf (wi:Ξ1):Γ1:=wi.map tZ
theorem zg:∀{xw:List V}{wi:Ξ1},cg b H xw wi->wi.all (ko n 0 100)=true->qG H xw (rowsOf wi)/\∀r∈rowsOf wi,r.length=n/\∀k∈r,0<=k/\k<=100
 |_,_,.nil,_=>⟨.nil,λr h=>nomatch h⟩
 |_,_,.cons (d:=d) h t,e=>by
  rw[Y9,Z5] at e;let⟨h1,h2⟩:=zg t e.2;let⟨rs,rfl,hl,hr⟩:=E1 e.1;cases h with
  |@tup a xs _ ha hs =>
  let⟨ns,rfl,hn⟩:=Ez hs hr;let er:rs=ns.map PyData.int:=by
   clear ha hn hr hl e
   induction ns generalizing rs with
   |nil=>cases hs;rfl
   |cons m ns ih =>
    cases hs with
    |cons hx ht=>cases hx;rw[ih _ ht];rfl
  subst er;let eo:tZ (.tuple (ns.map PyData.int))=ns:=by
   show(ns.map PyData.int).map be=ns;rw[Zp];have:(be ∘ PyData.int)=λi=>i:=rfl
   rw[this,List.map_id']
  apply⟨?_,λr j8=>?_⟩
  .show qG H _ (tZ (.tuple (ns.map PyData.int))::rowsOf _);rw[eo];exact .cons ⟨a,(),ha⟩ h1
  .let MM:r=tZ (.tuple (ns.map PyData.int))\/r∈rowsOf _:=Zj.mp j8;rcases MM with z |z
   .rw[z,eo];rw[Zb] at hl;exact⟨hl,hn⟩
   .exact h2 r z
structure eA (b:Addr)(H:Hp)(p pa pp pw:Addr)(xa xp xw:List V)(am pu wi:Ξ1):Prop where
 hp:H p=some (.tup [.ref pa,.ref pp,.ref pw])
 ha:H pa=some (.tup xa)
 vG:H pp=some (.tup xp)
 hw:H pw=some (.tup xw)
 ta:cg b H xa am
 tp:cg b H xp pu
 tw:cg b H xw wi
 ok:gh (.tuple [.tuple am,.tuple pu,.tuple wi])=true
def eA.of (h:fo b H (.ref p) (.tuple [.tuple am,.tuple pu,.tuple wi]))(m:gh (.tuple [.tuple am,.tuple pu,.tuple wi])=true):∃pa pp pw xa xp xw,eA b H p pa pp pw xa xp xw am pu wi:=by
 let⟨_,_,e,hp,t⟩:=iX h;cases e;let⟨_,_,rfl,h1,t⟩:=My t;let⟨_,_,rfl,h2,t⟩:=My t;let⟨_,_,rfl,h3,t⟩:=My t;cases nY t;let⟨_,_,rfl,ha,hsa⟩:=iX h1;let⟨_,_,rfl,vG,GJ⟩:=iX h2;let⟨_,_,rfl,MQ,CL⟩:=iX h3;exact⟨_,_,_,_,_,_,hp,ha,vG,MQ,hsa,GJ,CL,m⟩
def eA.ar (m:eA b H p pa pp pw xa xp xw am pu wi)(s:aA H H'):eA b H' p pa pp pw xa xp xw am pu wi :=
 ⟨s _ _ m.hp,s _ _ m.ha,s _ _ m.vG,s _ _ m.hw,m.ta.ar s,m.tp.ar s,m.tw.ar s,m.ok⟩
def eA.tr (m:eA b H p pa pp pw xa xp xw am pu wi):fo b H (.ref p) (.tuple [.tuple am,.tuple pu,.tuple wi]) :=
 .tup m.hp (.cons (.tup m.ha m.ta) (.cons (.tup m.vG m.tp) (.cons (.tup m.hw m.tw) .nil)))
def eA.lw (m:eA b H p pa pp pw xa xp xw am pu wi):qG H xw (rowsOf wi)/\rowsOf wi≠[]/\(∀r∈rowsOf wi,r.length=xa.length)/\(∀r∈rowsOf wi,∀k∈r,0<=k/\k<=100)/\1<=xa.length/\xa.length<=6/\1<=xw.length/\xw.length<=6/\xp.length=xw.length:=by
 let⟨h1,h2,h3,h4,h5,h6,h7,h8⟩:=iO m.ok;let⟨r1,r2⟩:=zg m.tw h8;let la:=m.ta.len;let lp:=m.tp.len;let lw:=m.tw.len;apply⟨r1,?_,λr hr=>by rw[(r2 r hr).1,la],λr hr=>(r2 r hr).2,⋯,⋯,⋯,⋯,⋯⟩;intro z;have:=congrArg List.length z;unfold rowsOf at this
 grind
def BQ {g j:Nat}(hj:j<g):G9 (V.int (0+(j:Int))) (GD g M)=has M j:=by
 unfold G9 GD;rw[X6,Yc,Z6];constructor
 .rintro⟨k,hk,e⟩;rw[Zg] at hk;let e':(0+(k:Int))=0+(j:Int):=by simpa[GV] using e
  grind
 .intro h;apply⟨j,by rw[Zg];exact⟨by simpa using hj,h⟩,by simp[GV]⟩
def vk (g:Nat)(M:Γ1):(GD g M).all iC=true:=by
 unfold GD;rw[Xy];simp[Function.comp_def,iC]
def Cg (wd:Bool):PyData->Bool
 |.tuple [.int t,.int u]=>bT (.tuple [.int t,.int u])&&(if wd then decide (0<t) else decide (t=0)&&decide (u=1))
 |_=>false
def eM (g:Nat)(M:Γ1):PyData->Bool
 |.tuple ds=>decide (ds.length=g)&&(List.range g).all λj=>Cg (has M j) (ds.getD j .none)
 |_=>false
def oI (h:bT d=false):Cg wd d=false:=by
 unfold Cg;split
 .rw[h];rfl
 .rfl
def FR (h:MF d=false):eM g M d=false:=by cases d<;>first |rfl |cases h
def FN (hb:0<b)(hY:0<Y)(g1:Int.gcd a b=1)(g2:Int.gcd X Y=1)(h:X*b=a*Y):X=a/\Y=b:=by
 let d1:Y∣b:=by
  let q:Y∣X*b:=⟨a,by rw[h,Int.mul_comm]⟩;rw[<- Int.dvd_gcd_mul_iff_dvd_mul,Int.gcd_comm,g2] at q;simpa using q
 let d2:b∣Y:=by
  let q:b∣a*Y:=⟨X,by rw[<- h,Int.mul_comm]⟩;rw[<- Int.dvd_gcd_mul_iff_dvd_mul,Int.gcd_comm,g1] at q;simpa using q
 let e:Y=b:=Int.dvd_antisymm ⋯ ⋯ d1 d2;subst e;exact⟨Int.eq_of_mul_eq_mul_right ⋯ h,()⟩
def den_pos (q:Rat):(0:Int)<(q.den:Int):=by have:=q.den_nz;omega
def zm (q:Rat):Int.gcd q.num (q.den:Int)=1:=q.reduced
def nL (hU:U≠0):nx T U=(Rat.divInt T U).num/\ny T U=((Rat.divInt T U).den:Int):=by
 let⟨n1,n2,n3,_⟩:=kB (t:=T) hU;let hd:=den_pos (Rat.divInt T U);let h1:T*((Rat.divInt T U).den:Int)=(Rat.divInt T U).num*U:=by
  rw[<- Rat.divInt_eq_divInt_iff hU ⋯,Xg]
 apply FN hd n2 (zm _) n3 ?_;let e:nx T U*((Rat.divInt T U).den:Int)*U=(Rat.divInt T U).num*ny T U*U:=by
  grind
 exact Int.eq_of_mul_eq_mul_right hU e
abbrev qO (q:Rat):HO:=.tup [.int q.num,.int (q.den:Int)]
def Rb (k:Nat)(q:Rat):Prop:=Bd k q.num/\Bd k (q.den:Int)
def Rb.mono (h:Rb j q)(hk:j<=k):Rb k q:=⟨h.1.mono hk,h.2.mono hk⟩
def mD {q:Rat}:0<q↔0<q.num:=by
 rw[Rat.lt_iff];simp
def Ed (hu:0<u)(hg:Int.gcd t u=1):∃q:Rat,q.num=t/\(q.den:Int)=u:=by
 apply⟨⟨t,u.toNat,⋯,?_⟩,(),by show((u.toNat:Nat):Int)=u;omega⟩;show Nat.gcd t.natAbs u.toNat=1;have:u.toNat=u.natAbs:=⋯;rw[this];exact hg
def mX (a b:Rat):Rat.divInt (a.num*b.den+b.num*a.den) (a.den*b.den)=a+b:=by
 rw[<- Rat.divInt_add_divInt _ _ (by have:=den_pos a;omega) (by have:=den_pos b;omega),Xg,Xg]
def kC (a b:Rat):Rat.divInt (a.num*b.num) (a.den*b.den)=a*b:=by
 rw[<- Rat.divInt_mul_divInt,Xg,Xg]
def kF (hb:b.num≠0):Rat.divInt (a.num*b.den) (a.den*b.num)=a / b:=by
 rw[X7,Rat.inv_def];conv=>rhs;rw[<- Xg a]
 rw[Rat.divInt_mul_divInt]
def Et (a b:Rat):(a.num*b.den<b.num*a.den)=(a<b):=propext (Rat.lt_iff a b).symm
def iE (hU:U≠0)(h1:Bd k T)(h2:Bd k U):Rb k (Rat.divInt T U):=by
 let⟨e1,e2⟩:=nL (T:=T) hU;let⟨_,_,_,_,n5,n6⟩:=kB (t:=T) hU;apply⟨?_,?_⟩
 .rw[<- e1];exact h1.le n5
 .rw[<- e2];exact h2.le n6
def Bd.add (ha:Bd j a)(hb:Bd j b):Bd (j+1) (a+b):=by
 unfold Bd at *;omega
def Ec (ha:Rb j a)(hb:Rb k b):Rb (j+k+1) (a+b):=by
 rw[<- mX];let h2:(a.den:Int)*b.den≠0:=X4 (Xb (den_pos a) (den_pos b));apply iE h2 (Bd.add (ha.1.mul hb.2) ?_) ((ha.2.mul hb.2).mono ⋯);have:=hb.1.mul ha.2
 grind
def fU (ha:Rb j a)(hb:Rb k b):Rb (j+k) (a*b):=by
 rw[<- kC];let h2:(a.den:Int)*b.den≠0:=X4 (Xb (den_pos a) (den_pos b));exact iE h2 (ha.1.mul hb.1) (ha.2.mul hb.2)
def tJ (Nn:Addr):Sp:=λvs H Q E=>∃(t u:Int),vs=[.int t,.int u]/\Bd 66000000 u/\(u=0->E (.ref Nn) none H)/\(u≠0->∀p,H p=none->Q (.ref p) (aK H p (qO (Rat.divInt t u))))
def wj:Sp:=λvs H Q _=>∃(t u:Int),vs=[.int t,.int u]/\0<u/\Bd 66000000 u/\∀p,H p=none->Q (.ref p) (aK H p (qO (Rat.divInt t u)))
def Ap (op:Rat->Rat->Rat):Sp:=λvs H Q _=>∃(p q:Addr) (a b:Rat),vs=[.ref p,.ref q]/\H p=some (qO a)/\H q=some (qO b)/\Rb 32000000 a/\Rb 32000000 b/\∀r,H r=none->Q (.ref r) (aK H r (qO (op a b)))
def nF (Nn:Addr):Sp:=λvs H Q E=>∃(p q:Addr) (a b:Rat),vs=[.ref p,.ref q]/\H p=some (qO a)/\H q=some (qO b)/\Rb 32000000 a/\Rb 32000000 b/\(b=0->E (.ref Nn) none H)/\(b≠0->∀r,H r=none->Q (.ref r) (aK H r (qO (a / b))))
def jH:Sp:=λvs H Q _=>∃(p q:Addr) (a b:Rat),vs=[.ref p,.ref q]/\H p=some (qO a)/\H q=some (qO b)/\Rb 32000000 a/\Rb 32000000 b/\Q (.bl (decide (a<b))) H
def Sg:Rat->Rat->Rat:=λa b=>a+b
def oN:Rat->Rat->Rat:=λa b=>a*b
def b3 (h:Bd 32000000 n):Bd 66000000 n:=h.mono ∅
def b6 (h:Bd (32000000+32000000) n):Bd 66000000 n:=h.mono ∅
def K7 (h:Bd k u)(hu:u≠0):Bd k (sg t u):=by
 apply h.le ?_;let g0:0<Int.gcd t u:=Qy t hu;let e:(sg t u).natAbs=Int.gcd t u:=by unfold sg;split<;>omega
 rw[e];exact Nat.le_of_dvd ⋯ (Int.gcd_dvd_natAbs_right t u)
def u6:(if a<0 then -a else a)=(Int.gcd a 0:Int):=by
 rw[Int.gcd_zero_right];omega
def rc:Sp:=λvs H Q _=>∃(t u:Int),vs=[.int t,.int u]/\Q (.int (Int.gcd t u)) H
def mE:eM g M (.tuple ds)=true↔ds.length=g/\∀j,j<g->Cg (has M j) (ds.getD j .none)=true:=by
 show(decide (ds.length=g)&&(List.range g).all λj=>Cg (has M j) (ds.getD j .none))=true↔_;rw[Z5,decide_eq_true_eq,Yd];constructor
 .rintro⟨h1,h2⟩;exact⟨h1,λj hj=>h2 j (by simpa using hj)⟩
 .rintro⟨h1,h2⟩;exact⟨h1,λj hj=>h2 j (by simpa using hj)⟩
def qD (q:Rat):PyData:=.tuple [.int q.num,.int (q.den:Int)]
def FS (q:Rat):bT (qD q)=true:=by
 let h:=den_pos q;show(decide (1<=(q.den:Int))&&decide (Int.gcd q.num (q.den:Int)=1))=true;rw[decide_eq_true (show 1<=(q.den:Int) by omega),decide_eq_true (zm q)];rfl
def QL (h:bT d=true):∃q:Rat,d=qD q:=by
 let⟨t,u,rfl,hu,hg⟩:=qj h;let⟨q,e1,e2⟩:=Ed (t:=t) (u:=u) ⋯ ⋯;exact⟨q,by unfold qD;rw[e1,e2]⟩
def lL:Cg wd (qD q)=true↔(if wd=true then 0<q else q=0):=by
 show(bT (qD q)&&(if wd then decide (0<q.num) else decide (q.num=0)&&decide ((q.den:Int)=1)))=true↔_;rw[FS];cases wd with
 |true=>simp[mD]
 |false =>
  simp;rintro rfl;rfl
structure GY (M:Γ1)(qs:Δ1):Prop where
 pos:∀j,j<qs.length->has M j=true->0<qs.getD j 0
 nil:∀j,j<qs.length->has M j=false->qs.getD j 0=0
def jv {α β : Type}{f:α->β}{xs:List α}{j:Nat}{a:α}{b:β}(h:j<xs.length):(xs.map f).getD j b=f (xs.getD j a):=by
 simp[List.getD,Zo,Zc h]
def Dy {g:Nat}:eM g M (.tuple (qs.map qD))=true↔qs.length=g/\GY M qs:=by
 rw[mE,Zb];constructor
 .rintro⟨h1,h2⟩;apply⟨h1,⟨λj hj hh=>?_,λj hj hh=>?_⟩⟩
  .have:=h2 j ⋯;rw[jv (a:=0) hj,lL,hh] at this;exact this
  .have:=h2 j ⋯;rw[jv (a:=0) hj,lL,hh] at this;exact this
 .rintro⟨h1,h2⟩;apply⟨h1,λj hj=>?_⟩;rw[jv (a:=0) ⋯,lL];cases hh:has M j with
  |true=>exact h2.pos j ⋯ hh
  |false=>exact h2.nil j ⋯ hh
def Fi (h:eM g M d=true):∃qs:Δ1,d=.tuple (qs.map qD)/\qs.length=g/\GY M qs:=by
 cases d with
 |tuple ds =>
  let⟨h1,h2⟩:=mE.mp h;have:∃qs:Δ1,ds=qs.map qD:=by
   let oY:∀d∈ds,∃q:Rat,d=qD q:=λd hd=>by
    let⟨j,hj,e⟩:=Yj hd;have:=h2 j ⋯;let e2:ds.getD j .none=d:=by simp[List.getD,Zc hj,e]
    rw[e2] at this;cases hf:bT d with
    |true=>exact QL hf
    |false=>rw[oI hf] at this;cases this
   clear h h1 h2
   induction ds with
   |nil=>exact⟨[],()⟩
   |cons d ds ih =>
    let⟨q,rfl⟩:=oY d (Zh);let⟨qs,rfl⟩:=ih λd hd=>oY d (Zk _ hd)
    exact⟨q::qs,()⟩
  let⟨qs,rfl⟩:=this;exact⟨qs,(),Dy.mp h⟩
 |_=>cases h
def worse (row:Γ3)(qs:Δ1)(g o:Nat):Bool:=decide (0<row.getD o 0)&&decide ((row.getD g 0:Rat)*qs.getD o 0<(row.getD o 0:Rat)*qs.getD g 0)
def du (row:Γ3)(qs:Δ1)(g:Nat):Bool:=decide (row.getD g 0≠0)&&(List.range row.length).all λo=>!worse row qs g o
def aV (row:Γ3)(qs:Δ1):List Nat:=(List.range row.length).filter (du row qs)
def ak (M:Γ1)(qs:Δ1):Γ1:=M.map λrow=>(aV row qs).map λg:Nat=>(g:Int)
def ci (gs:List Nat)(best:Γ3):Bool:=best.any λg=>gs.any λh=>decide ((h:Int)=g)
def eF (M:Γ1)(qs:Δ1)(gs:List Nat):List Nat:=(List.range M.length).filter λi=>ci gs ((ak M qs).getD i [])
def c3 (gs:List Nat):List V:=gs.map λg:Nat=>V.int (g:Int)
structure Dm (b:Addr)(H:Hp)(p pa pp pw:Addr)(xa xp xw:List V)(am pu wi:Ξ1)(v:V)(d:PyData):Prop where
 m:eA b H p pa pp pw xa xp xw am pu wi
 tr:fo b H v d
 wd:∀qs:Δ1,d=.tuple (qs.map qD)->∀z∈qs,Rb 2010007 z
def Dm.ar (a:Dm b H p pa pp pw xa xp xw am pu wi v d)(s:aA H H'):Dm b H' p pa pp pw xa xp xw am pu wi v d:=⟨a.m.ar s,a.tr.ar s,a.wd⟩
def K5:Sp:=λvs H Q _=>∃(b p pa pp pw:Addr) (xa xp xw:List V) (am pu wi:Ξ1) (v:V) (d:PyData),vs=[.ref p,v]/\eA b H p pa pp pw xa xp xw am pu wi/\fo b H v d/\∀H',aA H H'->Q (.bl (eM xa.length (rowsOf wi) d)) H'
def nG (Pr:Addr):Sp:=λvs H Q E=>∃(b p pa pp pw:Addr) (xa xp xw:List V) (am pu wi:Ξ1) (v:V) (d:PyData),vs=[.ref p,v]/\Dm b H p pa pp pw xa xp xw am pu wi v d /\
 (eM xa.length (rowsOf wi) d=false->∀H',aA H H'->E (.ref Pr) none H') /\
 (∀qs:Δ1,d=.tuple (qs.map qD)->qs.length=xa.length->GY (rowsOf wi) qs->∀(r:Addr) (xs:List V) (H':Hp),aA H H'->H' r=some (.tup xs)->qG H' xs (ak (rowsOf wi) qs)->Q (.ref r) H')
def zD (x:Rat):x*(((x.den:Int):Int):Rat)=(x.num:Rat):=by
 let hd:=den_pos x;rw[<- kC,Rat.num_intCast,Rat.den_intCast,<- Xg (x.num:Rat),Rat.num_intCast,Rat.den_intCast,Rat.divInt_eq_divInt_iff (by simpa using(by omega:(x.den:Int)≠0)) ∅];simp
def A1 {a b:Int}{x y:Rat}:((a:Rat)*x<(b:Rat)*y)↔(a*x.num*y.den<b*y.num*x.den):=by
 let hx:=den_pos x;let hy:=den_pos y;let pc:(0:Rat)<(((x.den:Int)*(y.den:Int):Int):Rat):=by
  have:(0:Rat)=((0:Int):Rat):=rfl;rw[this,Qp];exact Xb hx hy
 rw[<- Rat.mul_lt_mul_left pc,<- Qp];let e1:(((x.den:Int)*(y.den:Int):Int):Rat)*((a:Rat)*x)=((a*x.num*y.den:Int):Rat):=by
  rw[Xp,Xp,Xp,<- zD x];simp only[Rat.mul_assoc,Rat.mul_comm]
  grind
 let e2:(((x.den:Int)*(y.den:Int):Int):Rat)*((b:Rat)*y)=((b*y.num*x.den:Int):Rat):=by
  rw[Xp,Xp,Xp,<- zD y]
  grind
 rw[e1,e2]
def yb (h:Bd k n)(hk:1<=k):Rb k (n:Rat):=⟨h,by
 show Bd k ((1:Nat):Int);unfold Bd;exact Nat.one_lt_two_pow ⋯⟩
def lT (H:Hp)(ys:List V)(qs:Δ1):Prop:=ys.length=qs.length/\∀(j:Nat) y,ys[j]?=some y->∃a,y=.ref a/\H a=some (qO (qs.getD j 0))
def lT.ar (h:lT H ys qs)(s:aA H H'):lT H' ys qs:=⟨h.1,λj y hy=>by let⟨a,e,z⟩:=h.2 j y hy;exact⟨a,e,s _ _ z⟩⟩
theorem lT.of:∀{ys:List V}{qs:Δ1},cg b H ys (qs.map qD)->lT H ys qs
 |[],[],_=>⟨(),λj y h=>by simp at h⟩
 |y::ys,q::qs,.cons h t=>by
  let ih:=lT.of t;apply⟨by simp[ih.1],λj z hz=>?_⟩;cases j with
  |zero =>
   let e:y=z:=by simpa using hz
   subst e;unfold qD at h;let⟨a,_,e,ha,hs⟩:=iX h;let⟨_,_,rfl,h1,hs⟩:=My hs;let⟨_,_,rfl,h2,hs⟩:=My hs;cases nY hs;cases my h1;cases my h2;exact⟨a,e,ha⟩
  |succ j=>exact ih.2 j z (by simpa using hz)
def lT.at (h:lT H ys qs)(hg:g<qs.length):∃a,fj ys (g:Int)=some (.ref a)/\H a=some (qO (qs.getD g 0)):=by
 let hl:g<ys.length:=by rw[h.1];exact hg
 let e:=Zc hl;let⟨a,e2,z⟩:=h.2 g _ e;rw[e2] at e;exact⟨a,mW e,z⟩
def lT.app (h:lT H ys qs)(ha:H a=some (qO q)):lT H (ys++[.ref a]) (qs++[q]):=by
 apply⟨by simp[h.1],λj y hy=>?_⟩;rcases Z3 j ys.length with z |z
 .rw[Zq z] at hy;let⟨c,e,hc⟩:=h.2 j y hy;apply⟨c,e,?_⟩;have:(qs++[q]).getD j 0=qs.getD j 0:=by simp[List.getD,Zq (h.1▸z)]
  rw[this];exact hc
 .have:j=ys.length:=by
   have:=(Zf.mp hy).1;simp at this;omega
  subst this;simp at hy;subst hy;apply⟨a,(),?_⟩;have:(qs++[q]).getD ys.length 0=q:=by rw[h.1];simp[List.getD]
  rw[this];exact ha
def lT.tm (h:lT H ys qs)(s:Tm H H'):lT H' ys qs:=⟨h.1,λj y hy=>by let⟨a,e,z⟩:=h.2 j y hy;exact⟨a,e,s _ _ z⟩⟩
def aH (qs:Δ1):Rat:=qs.foldl (λs q=>s+q) 0
def Ax {α : Type}{xs:List α}{i:Nat}{x:α}(h:xs[i]?=some x):xs.take (i+1)=xs.take i++[x]:=by rw[List.take_succ,h];rfl
def pR (qs:Δ1)(q:Rat):aH (qs++[q])=aH qs+q:=by unfold aH;rw[List.foldl_append];rfl
def kA:Rb 1 (0:Rat):=by unfold Rb Bd;decide+kernel
theorem mB {qs:Δ1}(h:∀q∈qs,Rb k q):∀i,Rb (1+(k+1)*i) (aH (qs.take i))
 |0=>kA
 |i+1=>by
  let ih:=mB h i;cases e:qs[i]? with
  |none =>
   have:qs.take (i+1)=qs.take i:=by rw[List.take_succ,e];simp
   rw[this];exact ih.mono (by rw[Nat.mul_succ];omega)
  |some q =>
   rw[Ax e,pR];apply(Ec ih (h q (Z2 e))).mono ?_;rw[Nat.mul_succ];omega
theorem L7:∀{xa:List V}{am:Ξ1},cg b H xa am->am.all (within 1 60)=true->xa=(am.map be).map V.int/\∀n∈am.map be,1<=n/\n<=60
 |_,_,.nil,_=>⟨(),λn hn=>nomatch hn⟩
 |_,_,.cons (d:=d) h t,h3=>by
  rw[Y9,Z5] at h3;let⟨e,hb⟩:=L7 t h3.2;obtain⟨n,rfl,n1,n2⟩:∃n:Int,d=.int n/\1<=n/\n<=60:=by
   have:=h3.1;unfold within at this;split at this
   .simp at this;exact⟨_,(),this⟩
   .cases this
  cases h
  apply⟨by rw[e];simp[be],λk hk=>?_⟩;rcases Zj.mp hk with rfl |hk
  .exact⟨n1,n2⟩
  .exact hb k hk
theorem eA.am {am pu wi:Ξ1}(m:eA b H p pa pp pw xa xp xw am pu wi):xa=(am.map be).map V.int/\∀n∈am.map be,1<=n/\n<=60:=by
 let⟨_,_,h3,_⟩:=iO m.ok;exact L7 m.ta h3
structure AT (b:Addr)(H:Hp)(q:Addr)(ys:List V)(qs:Δ1):Prop where
 hq:H q=some (.tup ys)
 tr:cg b H ys (qs.map qD)
 bd:∀z∈qs,Rb 2010000 z
def AT.ar (h:AT b H q ys qs)(s:aA H H'):AT b H' q ys qs:=⟨s _ _ h.hq,h.tr.ar s,h.bd⟩
end KM
namespace L2
open PySem.Spec PyProof.Rows
end L2
namespace KM
open L2 KG EX
theorem zS:∀(ns:Γ3),cg b H (ns.map V.int) (ns.map PyData.int)
 |[]=>.nil
 |n::ns=>.cons (.int n) (zS ns)
def aS (ns:Γ3):PyData:=.tuple (ns.map PyData.int)
theorem Ea:∀{xs:List V}{M:Γ1},qG H xs M->cg b H xs (M.map aS)
 |_,_,.nil=>.nil
 |_,_,.cons ⟨a,e,h⟩ t=>by
  subst e;exact .cons (.tup h (zS _)) (Ea t)
def DQ (q:Rat):(qD q).depth<=1:=by unfold qD;simp[PyData.depth,PyData.depthAll]
def xC (gs:List Nat):c3 gs=(gs.map λg:Nat=>(g:Int)).map V.int:=by unfold c3;rw[Zp];rfl
def rV (h:vP d=true):∃q:Rat,d=qD q/\0<q/\Rb 20 q:=by
 let⟨t,u,rfl⟩:=oF h;let h':(decide (1<=u)&&decide (Int.gcd t u=1)&&decide (1<=t)&&decide (t<=1000000)&&decide (u<=1000000))=true:=h;simp only[Z5,decide_eq_true_eq] at h';let⟨⟨⟨⟨h1,h2⟩,h3⟩,h4⟩,h5⟩:=h';let⟨q,e1,e2⟩:=Ed (t:=t) (u:=u) ⋯ h2;apply⟨q,by unfold qD;rw[e1,e2],mD.mpr ⋯,?_,?_⟩
 .unfold Bd;omega
 .unfold Bd;omega
theorem uD:∀{pu:Ξ1},pu.all vP=true->∃ps:Δ1,pu=ps.map qD/\∀q∈ps,0<q/\Rb 20 q
 |[],_=>⟨[],(),λq h=>nomatch h⟩
 |d::pu,h=>by
  rw[Y9,Z5] at h;let⟨q,rfl,h1,h2⟩:=rV h.1;let⟨ps,rfl,hp⟩:=uD h.2;apply⟨q::ps,(),λz hz=>?_⟩;rcases Zj.mp hz with rfl |hz
  .exact⟨h1,h2⟩
  .exact hp z hz
def Rj:PyData->Rat
 |.tuple [.int t,.int u]=>Rat.divInt t u
 |_=>0
def iF (q:Rat):Rj (qD q)=q:=Xg q
def qA (pu:Ξ1):Δ1:=pu.map Rj
theorem eA.pu {am pu wi:Ξ1}(m:eA b H p pa pp pw xa xp xw am pu wi):pu=(qA pu).map qD/\∀q∈qA pu,0<q/\Rb 20 q:=by
 let⟨_,_,_,_,_,h6,_⟩:=iO m.ok;let⟨ps,e,hp⟩:=uD h6;have:qA pu=ps:=by
  rw[e];unfold qA;rw[Zp];have:(Rj ∘ qD)=id:=by funext q;exact iF q
  rw[this,X5]
 rw[this];exact⟨e,hp⟩
def eA.fp {am pu wi:Ξ1}(m:eA b H p pa pp pw xa xp xw am pu wi):lT H xp (qA pu):=by
 let h:=m.tp;rw[m.pu.1] at h;exact lT.of h
def zj {qs:Δ1}(hk:1<=k)(h:∀q∈qs,Rb k q)(g:Nat):Rb k (qs.getD g 0):=by
 by_cases hg:g<qs.length
 .have:qs.getD g 0∈qs:=by simp[List.getD,Zc hg]
  exact h _ this
 .have:qs.getD g 0=0:=by simp[List.getD,Yu (Xd hg)]
  rw[this];exact kA.mono hk
def bt (ps:Δ1)(bs:List Nat):Rat:=aH (bs.map λi=>ps.getD i 0)
def Dr:Sp:=λvs H Q _=>∃(p q:Addr) (a b:Rat),vs=[.ref p,.ref q]/\H p=some (qO a)/\H q=some (qO b)/\Rb 32000000 a/\Rb 32000000 b/\0<b/\∀r,H r=none->Q (.ref r) (aK H r (qO (a / b)))
def gT (ha:Rb j a)(hb:Rb k b)(h:b≠0):Rb (j+k) (a / b):=by
 let hn:b.num≠0:=λz=>h (Rat.num_eq_zero.mp z)
 rw[<- kF hn];apply iE ?_ (ha.1.mul hb.2) (ha.2.mul hb.1);intro z;rcases Int.mul_eq_zero.mp z with y |y
 .have:=den_pos a;omega
 .exact hn y
def dM (ns:Γ3)(oX:Nat):Γ3:=((List.range ns.length).filter λk=>decide (oX / 2 ^ k % 2=1)).map λk=>ns.getD k 0
def aU (ns:Γ3):Γ1:=(List.range (2 ^ ns.length)).map (dM ns)
def cW (c:Int)(ms:Γ3)(qs:Δ1):Prop:=ms.length=qs.length/\∀j,j<qs.length->((ms.getD j 0:Int):Rat)=(c:Rat)*qs.getD j 0
def gd (am:Γ3)(qs:Δ1):Δ1:=(List.range qs.length).map λg=>qs.getD g 0*((am.getD g 0:Int):Rat)
end KM
namespace L2
open PySem.Spec PyProof.Rows
section
variable {κ : Type}[DecidableEq κ]
def et (kvs:List (κ × V))(k:κ):Option V:=(kvs.find? λkv=>decide (kv.1=k)).map (·.2)
def dv (kvs:List (κ × V))(k:κ)(v:V):List (κ × V) :=
 if (kvs.any λkv=>decide (kv.1=k))=true then kvs.map (λkv=>if kv.1=k then (kv.1,v) else kv) else kvs++[(k,v)]
def gv {k:κ}(e:p.1=k):et (p::r) k=some p.2:=by simp[et,X8,e]
def gw {k:κ}(e:¬ p.1=k):et (p::r) k=et r k:=by simp[et,X8,e]
theorem iK (k:κ):∀kvs:List (κ × V),(kvs.any λkv=>decide (kv.1=k))=(et kvs k).isSome
 |[]=>rfl
 |p::r=>by
  rw[Xw];by_cases e:p.1=k
  .simp only[gv e,decide_eq_true e,Bool.true_or,Option.isSome_some]
  .rw[gw e,decide_eq_false e,Bool.false_or];exact iK k r
def fH (kvs:List (κ × V))(k:κ)(v:V):(dv kvs k v).length<=kvs.length+1:=by
 unfold dv
 grind
def n9 {k:κ}(v:V)(h:et kvs k=none):dv kvs k v=kvs++[(k,v)]:=by
 unfold dv;rw[iK,h];exact if_neg ∅
def aB.lK (r:aB o u):o.isSome=u.isSome:=by
 cases o with
 |none=>cases u with
  |none=>rfl
  |some _=>exact(show False from r).elim
 |some _=>cases u with
  |none=>exact(show False from r).elim
  |some _=>rfl
def KV.val (r:KV kvs vs)(k:κ):aB (et kvs k) (valueAt vs k):=by
 unfold KV at r;induction r with
 |nil=>exact True.intro
 |@cons p q ps qs h t ih =>
  let⟨h1,h2⟩:=h;by_cases e:p.1=k
  .let e':q.1=k:=h1.symm.trans e;let b:valueAt (q::qs) k=some q.2:=by simp[valueAt,X8,e']
   rw[gv e,b];exact h2
  .let e':¬ q.1=k:=λz=>e (h1.trans z)
   let b:valueAt (q::qs) k=valueAt qs k:=by simp[valueAt,X8,e']
   rw[gw e,b];exact ih
def KV.any (r:KV kvs vs)(k:κ):(kvs.any λkv=>decide (kv.1=k))=vs.any λkv=>decide (kv.1=k):=by
 unfold KV at r;induction r with
 |nil=>rfl
 |cons h t ih=>rw[Xw,Xw,ih,h.1]
def KV.Nz (r:KV kvs vs)(k:κ)(ry:RelV y u) :
  KV (kvs.map λkv=>if kv.1=k then (kv.1,y) else kv) (vs.map λkv=>if kv.1=k then (kv.1,u) else kv):=by
 unfold KV at r ⊢;induction r with
 |nil=>exact .nil
 |@cons p q ps qs h t ih =>
  rw[Zm,Zm];apply .cons ?_ ih;let⟨h1,h2⟩:=h;by_cases e:p.1=k
  .rw[if_pos e,if_pos (h1.symm.trans e)];exact⟨h1,ry⟩
  .rw[if_neg e,if_neg (λz=>e (h1.trans z))];exact⟨h1,h2⟩
def KV.put (r:KV kvs vs)(k:κ)(ry:RelV y u):KV (dv kvs k y) (stored vs k u):=by
 unfold dv stored;rw[r.any k];by_cases e:(vs.any λkv=>decide (kv.1=k))=true
 .rw[if_pos e,if_pos e];exact r.Nz k ry
 .rw[if_neg e,if_neg e];exact Paired.snoc r ⟨(),ry⟩
def KV.keys {vs:List (κ × Value)}(r:KV kvs vs):kvs.map (·.1)=vs.map (·.1):=by
 unfold KV at r;induction r with
 |nil=>rfl
 |cons h t ih=>rw[Zm,Zm,ih,h.1]
def KV.length (r:KV kvs vs):kvs.length=vs.length:=Paired.length r
end
def ue (r:RelV (kV k) u):(lS P w).is k u=true:=by
 cases k with
 |inl i=>let⟨t,e⟩:=(show ∃t,u=Value.int i t from r);subst e;exact vi P w i t
 |inr x=>let⟨t,e⟩:=(show ∃t,u=Value.str x t from r);subst e;exact vh P w x t
theorem qf:∀{ks:List dZ}{us:Δ3},bp (ks.map kV) us->ItemsAre (lS P w) ks us
 |[],_,r=>by rw[List.map_nil] at r;cases r;exact .nil
 |k::ks,_,r=>by
  rw[Zm] at r;cases r with
  |cons h t=>exact .cons (ue h) (qf t)
abbrev KT (H:Hp):List (List dZ×V)->List (List dZ×Addr×Value)->Prop:=Paired λp q=>p.1=q.1/\H q.2.1=some (.tup (p.1.map kV))/\RelV p.2 q.2.2
def KT.val {xs:List (List dZ×Addr×Value)}(r:KT H kvs xs)(k:List dZ):aB (et kvs k) ((atKey xs k).map (·.2)):=by
 induction r with
 |nil=>exact True.intro
 |@cons p q ps qs h t ih =>
  let⟨h1,_,h2⟩:=h;by_cases e:p.1=k
  .let e':q.1=k:=h1.symm.trans e;let b:atKey (q::qs) k=some q.2:=by simp[atKey,X8,e']
   rw[gv e,b];exact h2
  .let e':¬ q.1=k:=λz=>e (h1.trans z)
   let b:atKey (q::qs) k=atKey qs k:=by simp[atKey,X8,e']
   rw[gw e,b];exact ih
def KT.Nz (r:KT H kvs xs)(k:List dZ)(ry:RelV y u) :
  KT H (kvs.map λkv=>if kv.1=k then (kv.1,y) else kv) (xs.map (putAt k u)):=by
 induction r with
 |nil=>exact .nil
 |@cons p q ps qs h t ih =>
  rw[Zm,Zm];apply .cons ?_ ih;let⟨h1,h2,h3⟩:=h;unfold putAt;by_cases e:p.1=k
  .rw[if_pos e,if_pos (h1.symm.trans e)];exact⟨h1,h2,ry⟩
  .rw[if_neg e,if_neg (λz=>e (h1.trans z))];exact⟨h1,h2,h3⟩
def KT.put (r:KT H kvs xs)(k:List dZ)(hb:H b=some (.tup (k.map kV)))(ry:RelV y u) :
  KT H (dv kvs k y) (storedH xs k b u):=by
 let e:(kvs.any λkv=>decide (kv.1=k))=(atKey xs k).isSome:=by
  rw[iK,(r.val k).lK,Option.isSome_map]
 unfold dv storedH;rw[e];by_cases q:(atKey xs k).isSome=true
 .rw[if_pos q,if_pos q];exact r.Nz k ry
 .rw[if_neg q,if_neg q];exact Paired.snoc r ⟨(),hb,ry⟩
def KT.keeps (r:KT H kvs xs)(ht:∀b ys,H b=some (.tup ys)->H' b=some (.tup ys)):KT H' kvs xs :=
 Paired.HF r λ_ _ z=>⟨z.1,ht _ _ z.2.1,z.2.2⟩
section
variable {P:Program}{w:World}{H:Hp}{h:Heap}{a:Addr}
def Lb (ok:j4 P w H h)(e:Rd H a u):b9 P w H h a u:=e.ok ok
def ur (ok:j4 P w H h)(e:Rd H a (.dK kvs)):kvs.length<=sizeLine/\(a == sysModules)=false/\∃vs,KV kvs vs/\h.DictOf (lS P w) a vs :=
 show b9 P w H h a (.dK kvs) from Lb ok e
def yL (ok:j4 P w H h)(e:H a=some (.dK kvs)):kvs.length<=sizeLine/\(a == sysModules)=false/\∃vs,KV kvs vs/\h.DictOf (lS P w) a vs:=ur ok (.inl e)
def nS (ok:j4 P w H h)(e:H a=some (.tup (ks.map kV))):(tupleKind (lS P w)).is h ks a:=by
 let⟨_,its,r,o,h1,h2,n,h3⟩:=(show b9 P w H h a (.tup (ks.map kV)) from ok a _ e);exact⟨o,its.toArray,n,h1,h2,h3,by simpa using qf r⟩
def uq (ok:j4 P w H h)(e:Rd H a (.dT kvs)):kvs.length<=sizeLine/\(a == sysModules)=false /\
  ∃xs,KT H kvs xs/\h.DictOfH (tupleKind (lS P w)) a xs:=by
 let⟨z,y,xs,r,o,es,ep,h1,h2,h3,h4,h5⟩:=(show b9 P w H h a (.dT kvs) from Lb ok e);apply⟨z,y,xs,r,o,es,ep,h1,h2,h3,h4,λx hx=>?_,h5⟩;let all:∀{l:List (List dZ×V)}{m:List (List dZ×Addr×Value)},KT H l m->∀x∈m,(tupleKind (lS P w)).is h x.1 x.2.1:=by
  intro l m q;induction q with
  |nil=>intro x hx;exact nomatch hx
  |@cons p q ps qs hq t ih =>
   intro x hx;rcases Zj.mp hx with e |hx
   .subst e;exact nS ok (by rw[<- hq.1];exact hq.2.1)
   .exact ih x hx
 exact all r x hx
def LW (ok:j4 P w H h)(e:H a=some (.dT kvs)):kvs.length<=sizeLine/\(a == sysModules)=false /\
  ∃xs,KT H kvs xs/\h.DictOfH (tupleKind (lS P w)) a xs:=uq ok (.inl e)
end
def tX (H:Hp)(a:Addr)(y:V)(r:Option V):Prop :=
 (∃kvs k,Rd H a (.dK kvs)/\y=kV k/\r=et kvs k)\/∃kvs k b,Rd H a (.dT kvs)/\y=.ref b/\H b=some (.tup (k.map kV))/\r=et kvs k
def Dl (H:Hp)(a:Addr)(y v:V)(H':Hp):Prop :=
 (∃kvs k,H a=some (.dK kvs)/\y=kV k/\kvs.length<sizeLine/\H'=aK H a (.dK (dv kvs k v))) \/
 ∃kvs k b,H a=some (.dT kvs)/\y=.ref b/\H b=some (.tup (k.map kV))/\kvs.length<sizeLine/\H'=aK H a (.dT (dv kvs k v))
theorem tX.k {k:dZ}(e:H a=some (.dK kvs)):tX H a (kV k) (et kvs k):=.inl ⟨kvs,k,.inl e,(),()⟩
theorem Dl.k {k:dZ}(e:H a=some (.dK kvs))(hl:kvs.length<sizeLine):Dl H a (kV k) v (aK H a (.dK (dv kvs k v))):=.inl ⟨kvs,k,e,(),hl,()⟩
section
variable {X:Cx}{ae:Γ2}{σ:St}{H:Hp}{s:Shared}{a:Addr}{y v:V}{u r:Value}{o:Option V}{A:Around}{E:Θ2}
def Inv.big (I:Inv X ae σ H s):sysModules<s.heap.objs.size:=by
 let h:mainGlobals<s.heap.objs.size:=(I.mod.glob.keeps I.bk).lt;exact Nat.lt_trans ∅ h
def BZ (hu:A.units+1<cLine)(I:Inv X ae σ H s)(g:tX H a y (some v))(ry:RelV y u)(h:∀w' s',Inv X ae σ H s'->RelV v w'->Q w' s') :
  wpAny (model X.prog X.w) A (getItem (.ref a) u) Q E s:=by
 rcases g with ⟨kvs,k,e,ey,l⟩ |⟨kvs,k,b,e,ey,eb,l⟩
 .subst ey;let⟨z,hd,vs,rel,dd⟩:=ur I.cb e;let⟨w',hw,Au⟩:=aB.some_of (v:=v) (o:=valueAt vs k) (by rw[l];exact rel.val k);exact wpAny_getItem_of (ue ry) dd.mapOf hw (h w' _ (I.tok _) Au)
 .subst ey;cases (show u=Value.ref b from ry);let⟨z,hd,xs,rel,dd⟩:=uq I.cb e;let⟨w',hw,Au⟩:=aB.some_of (v:=v) (o:=(atKey xs k).map (·.2)) (by rw[l];exact rel.val k);let⟨p,hp,ZK⟩:=Option.map_eq_some_iff.mp hw;apply wpAny_getItem_heap (tupleKind_room_in1 hu) (nS I.cb eb) dd hp ?_;rw[ZK];exact h w' _ (I.tok _) Au
def Ki (hu:A.units+1<cLine)(I:Inv X ae σ H s)(g:tX H a y o)(ry:RelV y u)(h:∀s',Inv X ae σ H s'->Q (.bool (!o.isSome)) s') :
  wpAny (model X.prog X.w) A (compareOp .NotIn u (.ref a)) Q E s:=by
 rcases g with ⟨kvs,k,e,ey,l⟩ |⟨kvs,k,b,e,ey,eb,l⟩
 .subst ey;let⟨z,hd,vs,rel,dd⟩:=ur I.cb e;apply wpAny_notIn_of (ue ry) hd dd.mapOf ?_;rw[<- (rel.val k).lK,<- l];exact h _ (I.tok _)
 .subst ey;cases (show u=Value.ref b from ry);let⟨z,hd,xs,rel,dd⟩:=uq I.cb e;apply wpAny_notIn_heap (tupleKind_room_in1 hu) (nS I.cb eb) hd dd ?_;let q:=(rel.val k).lK;rw[Option.isSome_map] at q;rw[<- q,<- l];exact h _ (I.tok _)
def mT (I:Inv X ae σ H s)(mu:Te (H a))(hs:Heap.SameBut a s.heap h')(he:∃q,h'.get? a=some q)(new:b9 X.prog X.w (aK H a ob) h' a ob) :
  Inv X ae σ (aK H a ob) { s with heap:=h',toks:=t' } :=
 I.write (x:=a) (e:=a) mu (.inl rfl) (λb q hb z=>(hs.2 b hb).trans z) he new
def EE (z:kvs.length<=sizeLine)(hd:(a == sysModules)=false)(rel:KV kvs vs)(dd:h'.DictOf (lS P w) a vs) :
  b9 P w H' h' a (.dK kvs):=⟨z,hd,vs,rel,dd⟩
def BY (hu:A.units+1<cLine)(I:Inv X ae σ H s)(g:Dl H a y v H')(ry:RelV y u)(rv:RelV v r)(h:∀s',Inv X ae σ H' s'->Q ⟨⟩ s') :
  wpAny (model X.prog X.w) A (setItem (.ref a) u r) Q E s:=by
 rcases g with ⟨kvs,k,e,ey,l,eH⟩ |⟨kvs,k,b,e,ey,eb,l,eH⟩
 .subst ey eH;let⟨z,hd,vs,rel,dd⟩:=yL I.cb e;let hz:vs.length<=sizeLine:=by rw[<- rel.length];exact z
  let hl:(dv kvs k v).length<=sizeLine:=by have:=fH kvs k v;omega
  apply wpAny_setItem_pairs (hsz:=hz) (ue ry) dd λh' Ho hs=>h _ ?_
  let he:∃q,h'.get? a=some q:=let ⟨q,_,_,hq,_⟩:=Ho;⟨q,hq⟩;exact mT I (by rw[e];exact True.intro) hs he (EE hl hd (rel.put k rv) Ho)
 .subst ey eH;cases (show u=Value.ref b from ry);let⟨z,hd,xs,rel,dd⟩:=LW I.cb e;let hz:xs.length<=sizeLine:=by rw[<- Paired.length rel];exact z
  let hl:(dv kvs k v).length<=sizeLine:=by have:=fH kvs k v;omega
  apply wpAny_setItem_heap (hsz:=hz) (tupleKind_room_in1 hu) (nS I.cb eb) dd λh' Ho hs=>h _ ?_
  let⟨q,es,ep,hq,h2,h3,h4,_,h5⟩:=Ho;apply mT I (by rw[e];exact True.intro) hs ⟨q,hq⟩ ⟨hl,hd,_,(rel.put k eb rv).keeps λc ys ec=>?_,q,es,ep,hq,h2,h3,h4,h5⟩;rw[c7 (ua ec e (λz=>nomatch z))];exact ec
end
section
variable {X:Cx}{ae:Γ2}{σ:St}{H:Hp}{s:Shared}{a:Addr}{kvs:List (dZ×V)}{k:dZ}{u:Value}{A:Around}{E:Θ2}
end
def US (i:Expr):Prop:=∀ov iv,subscripted i false ov iv=operate [ov,iv] (getItem ov iv)
def IE {T id:String}
  (hl:typeLookup (.type T) "__getitem__"=pure (some (.builtin id))) (hs:US slice)
  (h:wpAny (model prog w) A (eval value env) (λo bQ=>wpAny (model prog w) A (eval slice env) (λi df=>df.TypeIs o T/\wpAny (model prog w) A (getItem o i) Q E df) E bQ) E s) :
  wpAny (model prog w) A (eval (.Subscript value slice pos) env) Q E s:=by
 apply Subscript_ (wpAny_mono h (λo bQ HQ=>wpAny_mono HQ (λi df wx=>?_) λ_ _ x=>x) λ_ _ x=>x);let⟨hT,wx⟩:=wx;unfold subscriptTail;apply Za ?_;rw[getitemInPython_of_ne hT.not_modules];apply Za (wpAny_specialOf hT hl ?_);let jk:wpAny (model prog w) A (subscripted slice false o i) (λr iA=>wpAny (model prog w) A (letTemporaryGo value o r >>= λ_=>pure r) Q E iA) E df:=by
  rw[hs o i];exact wpAny_operating (wpAny_mono wx (λr iA HP=>Za (wpAny_letTemporaryGo (wpAny_pure HP))) λ_ _ x=>x)
 first
  |exact wpAny_pure (Za jk)
  |exact Za (wpAny_pure (Za jk))
  |exact Za jk
def vo (I:Inv X ae σ H s)(g:tX H a y o):s.TypeIs (.ref a) "dict":=by
 rcases g with ⟨kvs,k,e,_,_⟩ |⟨kvs,k,b,e,_,_,_⟩
 .obtain⟨_,_,vs,_,dd⟩:=ur I.cb e;exact dd.typeIs
 .obtain⟨_,_,xs,_,dd⟩:=uq I.cb e;exact dd.typeIs
def Vb (td ty:TE):TE:=λσ H Q=>td σ H λx H1=>ty σ H1 λy H2=>∃a v,x=.ref a/\tX H2 a y (some v)/\Q v H2
def IA (ty td:TE):TE:=λσ H Q=>ty σ H λy H1=>td σ H1 λx H2=>∃a o,x=.ref a/\tX H2 a y o/\Q (.bl (!o.isSome)) H2
def Vr (td ty tv:TE):TS:=λD σ H=>tv σ H λv H1=>td σ H1 λx H2=>ty σ H2 λy H3=>∃a H4,x=.ref a/\Dl H3 a y v H4/\D.nx σ H4
section
variable {X:Cx}{o i e value:Expr}{pos lh qH:Pos}{td ty tv:TE}
def zt (hu:X.A.units+1<cLine)(ho:PE X o td)(hi:PE X i ty)(hs:US i):PE X (.Subscript o i pos) (Vb td ty):=by
 intro ae s σ H Q I h;apply IE PySem.F.slot_dict_getitem.lookup hs (bM (ho ae s σ H _ I h) λu s1 ⟨x,H1,I1,rx,q1⟩=>bM (hi ae s1 σ H1 _ I1 q1) λiv s2 ⟨y,H2,I2,ry,a,v,ex,g,q2⟩=>?_);subst ex;obtain rfl:u=Value.ref a:=rx;exact⟨vo I2 g,BZ hu I2 g ry λw' s3 I3 Au=>⟨v,H2,I3,Au,q2⟩⟩
def Bp (hu:X.A.units+1<cLine)(hi:PE X i ty)(ho:PE X o td):PC X .NotIn i o (IA ty td):=by
 intro ae s σ H Q I h;apply bM (hi ae s σ H _ I h) λiv s1 ⟨y,H1,I1,ry,q1⟩=>bM (ho ae s1 σ H1 _ I1 q1) λu s2 ⟨x,H2,I2,rx,a,ov,ex,g,q2⟩=>?_
 subst ex;obtain rfl:u=Value.ref a:=rx;exact Ki hu I2 g ry λs3 I3=>⟨.bl (!ov.isSome),H2,I3,(),q2⟩
def Jk (hu:X.A.units+1<cLine)(ho:PE X o td)(hi:PE X i ty)(hv:PE X value tv)(hs:swapsWith value (some (.Subscript o i lh)) pos.line X.env=pure false) :
  PS X (.Assign [.Subscript o i lh] value pos) (Vr td ty tv):=by
 intro ae s σ H D I h;apply wpAny_Assign_Subscript (bM (hv ae s σ H _ I h) λr s1 ⟨v,H1,I1,rv,q1⟩=>bM (ho ae s1 σ H1 _ I1 q1) λu s2 ⟨x,H2,I2,rx,q2⟩=>bM (hi ae s2 σ H2 _ I2 q2) λiv s3 ⟨y,H3,I3,ry,a,H4,ex,g,q3⟩=>?_) hs;subst ex;obtain rfl:u=Value.ref a:=rx;exact BY hu I3 g ry rv λs4 I4=>⟨σ,H4,I4,q3⟩
end
def Gh (h:Heap)(hb:sysModules<h.objs.size):b9 P w H (h.push { cls:=.type "dict",data:=.dict #[] }) h.objs.size (.dK []) :=
 ⟨Yb _,beq_eq_false_iff_ne.mpr (Ne.symm (Ye hb)),[],.nil,Heap.DictOf.new h⟩
def Gf (h:Heap)(hb:sysModules<h.objs.size):b9 P w H (h.push { cls:=.type "dict",data:=.dict #[] }) h.objs.size (.dT []) :=
 ⟨Yb _,beq_eq_false_iff_ne.mpr (Ne.symm (Ye hb)),[],.nil,_,#[],0,Zz _ rfl,⟨(),(),()⟩,(),(),X9⟩
section
variable {X:Cx}{pos:Pos}
end
section
variable {X:Cx}{ae:Γ2}{σ:St}{H:Hp}{s:Shared}{a:Addr}{y d:V}{u r:Value}{o:Option V}{A:Around}{E:Θ2}
end
section
variable {X:Cx}{o e f:Expr}{qV jG:Pos}{td ty tx:TE}
end
section
variable {X:Cx}{ae:Γ2}{σ:St}{H:Hp}{s:Shared}{a:Addr}{kvs:List (dZ×V)}{A:Around}{E:Θ2}
end
section
variable {X:Cx}{ae:Γ2}{σ:St}{H:Hp}{s:Shared}{a:Addr}{y:V}{u:Value}{A:Around}{E:Θ2}
end
section
variable {X:Cx}
end
section
variable {κ : Type}[DecidableEq κ]
def yS {k:κ}(h:et kvs k=some v):k∈kvs.map (·.1):=by
 let q:(kvs.any λkv=>decide (kv.1=k))=true:=by
  rw[iK,h]
  all_goals rfl
 grind
end
def rM (g:TG)(tt:TT)(tk tv:TE)(J:It)(acc:Addr)(ao:St)(dm:Hp)(Q:VK):Prop :=
 ∃W:Nat->Nat->St->Hp->Prop,(∃m,W 0 m ao (aK dm acc (.dK [])))/\∀i m aR H',W i m aR H' ->
  (J.stop i H'/\Q (.ref acc) H') \/
  (J.go i H'/\∃N:St->Hp->Prop,(∀cA H2,N cA H2->∃m',m'<m/\W (i+1) m' cA H2)/\∀x H2,J.sS i H' x H2->g x aR H2 λga H3=>tt ga H3 λb H4 =>
   if b=true then tk ga H4 λkx H5=>tv ga H5 λy H6=>∃kvs k,H6 acc=some (.dK kvs)/\kx=kV k/\kvs.length<sizeLine/\N ga (aK H6 acc (.dK (dv kvs k y))) else N ga H4)
def wF (wi:TI)(g:TG)(tt:TT)(tk tv:TE)(own:Nat)(ix:List Nat):TE:=λσ H Q=>wi σ H λJ H1=>∀acc,H1 acc=none->rM g tt tk tv J acc (dS own ix σ) H1 Q
def B0 (I:Inv X ae σ H s)
  (e:H a=some (.dK kvs)) (ry:RelV (kV k) u) (rv:RelV v r) (l:kvs.length<sizeLine) (h:∀s',Inv X ae σ (aK H a (.dK (dv kvs k v))) s'->Q ⟨⟩ s'):wpAny (model X.prog X.w) A (dictSet a u r) Q E s:=by
 let⟨z,hd,vs,rel,dd⟩:=yL I.cb e;let z1:vs.length<=sizeLine:=by rw[<- rel.length];exact z
 let z2:(dv kvs k v).length<=sizeLine:=Zl (fH kvs k v) l;apply wpAny_dictSet_pairs (hsz:=z1) (ue ry) dd λh' Ho hs=>h _ ?_
 let he:∃q,h'.get? a=some q:=let ⟨q,_,_,hq,_⟩:=Ho;⟨q,hq⟩;exact mT I (by rw[e];exact True.intro) hs he (EE z2 hd (rel.put k rv) Ho)
def YF (prog:Program)(w:World)(A:Around)(kx vx:Expr)(env:Env)(D:Addr)(G:Shared->Prop):Shared->Prop:=wpAny (model prog w) A (eval kx env) (λkv fJ=>wpAny (model prog w) A (eval vx env) (λvv m9=>wpAny (model prog w) A (dictSet D kv vv) (λ_ wf=>G wf) (λ_ _=>False) m9) (λ_ _=>False) fJ) (λ_ _=>False)
def qc {prog:Program}{w:World}{A:Around}{kx vx tg iter:Expr}{eG:Ξ2}{scope:Scope}{pos:Pos}{it:Value}{D:Addr}{env:Env}:yQ prog w A tg eG env it (.DictComp kx vx [⟨tg,iter,eG,0⟩] scope pos) 0 (.ref D) (YF prog w A kx vx env D) :=
 mO (compTurn_dict ..) λG R E s h k=>Za (Za (wpAny_mono h (λkv fJ ww=>Za (wpAny_holding (wpAny_mono ww (λvv m9 wv=>Za (wpAny_standAt (wpAny_holding (wpAny_mono wv (λ_ wf C9=>wpAny_pure (k _ C9)) λ_ _ z=>z.elim)))) λ_ _ z=>z.elim))) λ_ _ z=>z.elim))
section
variable {tk tv:TE}
def oK {RR:Value->Addr->Result->Shared->Prop}
  (B:aL X scope own cap ix) (hc:X.calm=true)
  (hb:∀C fp s H,PG (cO X scope C (own++cap) fp s H) tg g/\dH (cO X scope C (own++cap) fp s H) eG tt/\PE (cO X scope C (own++cap) fp s H) kx tk/\PE (cO X scope C (own++cap) fp s H) vx tv)
  (I2:Inv X ae σ H2 s2) (T:Turn X.prog X.w X.K tg J fp it tn) (fu:tn 0 s2.heap) (f2:∀b∈fp,eR X ae H2 b)
  (q:∀acc,H2 acc=none->rM g tt tk tv J acc (dS own.length ix σ) H2 Q)
  (Hl:∀D C H' s' m,Inv X ae σ H' s'->Q (.ref D) H'->s'.heap.Ns C m->eR X ae H' C->RR (.ref D) C (.ok .next) s') :
  wpAny (model X.prog X.w) X.A newDict (λacc iA=>wpAny (model X.prog X.w) X.A (newFunctionEnv scope X.env.globals (d5 X.env scope.names []) [] X.env.qual none .none (some X.env)) (λke fJ =>
   codeAny (model X.prog X.w) X.A (.compStart (.DictComp kx vx [⟨tg,iter,eG,0⟩] scope pos) 0 (.ref it) acc { ke with scope:=relabel scope X.env }) (RR acc ke.locals) fJ) E iA) E s2:=by
 apply wpAny_newObj_type (yM (Cu:=λD σ H N=>tk σ H λkx H5=>tv σ H5 λy H6=>∃kvs k,H6 D=some (.dK kvs)/\kx=kV k/\kvs.length<sizeLine/\N σ (aK H6 D (.dK (dv kvs k y)))) (ST:=YF X.prog X.w X.A kx vx) B hc (λC D=>qc) (λ_ _ _ _=>codeAny_compStart_dict) (λC fp s H=>⟨(hb C fp s H).1,(hb C fp s H).2.1,λD P σ H' s' N G I q k=>?_⟩) I2
  (I2.laid (a:=s2.heap.objs.size) (o:=.dK []) (h':=s2.heap.push { cls:=.type "dict",data:=.dict #[] }) (t':=s2.toks) (λ_ _ q=>Zn _ q) (Ze _) (Gh s2.heap I2.big)) T fu f2 q Hl)
 apply bM ((hb C fp s H).2.2.1 _ s' σ H' _ I q) λkv Rg h9=>?_
 let⟨yk,R1,Tf,Kx,Ky⟩:=h9;apply bM ((hb C fp s H).2.2.2 _ Rg σ R1 _ Tf Ky) λvv Wx h9=>?_
 let⟨yv,XA,Nc,Rh,kvs,k',hk,ek,hz,Mq⟩:=h9;subst ek;exact B0 (X:=cO X scope C (own++cap) fp s H) (E:=λ_ _=>False) (A:=X.A) Nc hk Kx Rh hz λs' I'=>k _ _ _ I' Mq
def Fp (B:aL X scope own cap ix)(hc:X.calm=true)(hi:PI X tg iter wi)
  (hb:∀C fp s H,PG (cO X scope C (own++cap) fp s H) tg g/\dH (cO X scope C (own++cap) fp s H) eG tt/\PE (cO X scope C (own++cap) fp s H) kx tk/\PE (cO X scope C (own++cap) fp s H) vx tv)
  (hs:∀x,foldedSetIterable iter X.env x=pure x:=by intro _;rfl):PE X (.DictComp kx vx [⟨tg,iter,eG,0⟩] scope pos) (wF wi g tt tk tv own.length ix):=by
 intro ae s σ H Q I h;rw[arm_eval_DictComp];let has:∀x∈scope.names,x.2=.free->(X.env.cells.lookup x.1).isSome=true:=λx hx hk=>by
  let⟨c,e⟩:=I.ok.has x.1 (B.frees x hx hk);rw[e];rfl
 apply wpAny_comprehension_free (use:=none) rfl hs (Rv has) B.kind B.names ?_;show wpAny _ _ (eval iter X.env) _ _ s;apply bM (hi ae s σ H _ I h) λv s1 h1=>bM h1 λG8 s2 h2=>?_
 let⟨it,fp,tn,J,H2,e,I2,T,fu,f2,q⟩:=h2;subst e;apply oK (RR:=λacc C=>compPost (model X.prog X.w) X.A X.xe none (EP X ae σ Q) acc C) B hc hb I2 T fu f2 q ?_;intro D C H' s' m I' q' hn fC;apply⟨m,hn,λh' tf=>⟨.ref D,H',?_,(),q'⟩⟩;exact I'.turned (t':=s'.toks) (it:=C) (λb o CP e=>(tf.2 b CP).trans e) fC.1 fC.2.1 fC.2.2.2.1 fC.2.2.2.2.1 fC.2.2.2.2.2
end
section
def fQ (v a:Addr):HO:=.ext λh=>h.IsValuesView v a
def Jf:V->List V->Hp->VK->Prop:=λx xs H Q=>∃a kvs,x=.ref a/\xs=[]/\H a=some (.dK kvs)/\∀v,H v=none->Q (.ref v) (aK H v (fQ v a))
def BB:W7 X "dict.values" Jf:=by
 intro ae s σ H x xs v us Q I r rs h;let⟨a,kvs,rfl,rfl,ha,q⟩:=h;cases rs;cases r;let⟨z,hd,vs,rel,dd⟩:=yL I.cb ha;apply call_meetsIn PySem.F.slot_dict_values dd.typeIs PySem.F.entry_dict_values (PySem.F.args_dict_values_1 _) (meets_dict_values (lS X.prog X.w) a hd) ⟨⟨vs,dd⟩,?_⟩;let hv:(s.heap.push { cls:=.type "dict_values",data:=.fields #[.ref a] }).IsValuesView s.heap.objs.size a:=⟨_,Zz _ rfl,(),()⟩;apply⟨.ref s.heap.objs.size,_,I.laid (t':=s.toks) (o:=fQ s.heap.objs.size a) (λ_ _ q=>Zn _ q) (Ze _) ⟨hv,⟨_,Zz _ rfl⟩,λh1 h2 w1 hk=>?_⟩,(),q _ I.fresh⟩;let⟨o,e,c⟩:=w1;exact⟨o,hk o e,c⟩
def ss (I:Inv X ae σ H s)(ha:Rd H a (.dK kvs)) :
  kvs.length<=sizeLine/\(a == sysModules)=false/\∃vs ep,KV kvs vs/\s.heap.DictAt (lS X.prog X.w) a vs ep:=by
 let⟨z,hd,vs,rel,o,es,ep,r⟩:=ur I.cb ha;exact⟨z,hd,vs,ep,rel,o,es,r⟩
theorem zP:∀{kvs:List (dZ×V)}{vs:List (dZ×Value)}{us:Δ3},KV kvs vs->us.length=vs.length->(∀(j:Nat) (v:Value),us[j]?=some v->∃k,vs[j]?=some (k,v))->bp (kvs.map (·.2)) us
 |_,_,us,.nil,hl,_=>by
  cases us with
  |nil=>exact .nil
  |cons _ _=>simp at hl
 |_,_,us,.cons h hs,hl,hu=>by
  cases us with
  |nil=>simp at hl
  |cons u us =>
   apply .cons ?_ (zP hs (by simpa using hl) λj v hj=>hu (j+1) v (by simpa using hj));let⟨k,e⟩:=hu 0 u rfl;simp at e;have:=h.2;rw[e] at this;exact this
def lR (hc:X.calm=true):ca X (.type "list") (λxs H Q=>∃v a kvs,xs=[.ref v]/\H v=some (fQ v a)/\Rd H a (.dK kvs)/\∀l,H l=none->Q (.ref l) (aK H l (.lst (kvs.map (·.2))))):=by
 intro ae s σ H xs us Q I r h;let⟨v,a,kvs,rfl,hv,ha,q⟩:=h;let⟨u,rfl,rx⟩:=vals1 r;cases rx;let⟨z,hd,vs,ep,rel,at'⟩:=ss I ha;let DI:s.heap.IsValuesView v a:=(I.cb v _ hv).1;let hl:=rel.length;apply PySem.W.kdl_call (PySem.W.kdl_values (knd:=lS X.prog X.w) (kvs:=vs) (ep:=ep) (r:=v) (d:=a)) (I.ok.hd hc) ⟨DI,at'⟩ (by rw[<- hl];exact z) λh' tk acc c' hk hD bU=>?_
 let hvs:bp (kvs.map (·.2)) acc.toList:=zP rel (by rw[Array.length_toList];exact bU.1) λj x e=>bU.2 j x (by rw[<- Array.getElem?_toList];exact e)
 apply⟨.ref s.heap.objs.size,_,I.laid (t':=tk) (o:=.lst (kvs.map (·.2))) hk (Ze _) ⟨by rw[Zb];exact z,acc.toList,c',hvs,?_⟩,(),q _ I.fresh⟩;simpa using hD
def Inv.freeze (I:Inv X ae σ H s)(ha:H a=some (.dK kvs))(ho:s.heap.get? a=some o):Inv X ae σ (aK H a (.ic o (.dK kvs))) s:=by
 apply I.write (x:=a) (e:=a) (t':=s.toks) (h':=s.heap) (by rw[ha];exact True.intro) (.inl rfl) (λ_ _ _ e=>e) ⟨o,ho⟩ ⟨ho,?_⟩;let⟨z,hd,vs,rel,dd⟩:=yL I.cb ha;exact⟨z,hd,vs,rel,dd⟩
def QG (h:nA k v=true):RelV (kV k) v:=by
 rcases GI h with ⟨i,t,rfl,rfl⟩ |⟨x,t,rfl,rfl⟩
 .exact⟨t,()⟩
 .exact⟨t,()⟩
def W9 (a:Addr)(o:Obj)(kvs:List (dZ×V)):It :=
 ⟨λi H=>H a=some (.ic o (.dK kvs))/\i<kvs.length,λi H x H'=>H'=H/\∃k v,kvs[i]?=some (k,v)/\x=kV k,λi H=>H a=some (.ic o (.dK kvs))/\kvs.length<=i⟩
def uV (I:Inv X ae σ H s)(hg:H a=some (.ic o (.dK kvs)))(GN:o.data=.dict AA ep) :
  ∃vs,KV kvs vs/\vs.length=kvs.length/\s.heap.DictAt (lS X.prog X.w) a vs ep:=by
 let⟨z,hd,vs,S6,rel,o',es,vU,r⟩:=ss I (.inr ⟨o,hg⟩);let⟨ho,_⟩:=I.cb a _ hg;have:o'=o:=by rw[ho] at vU;exact(Option.some.inj vU).symm
 subst this;let h2:=r.2.1;rw[GN] at h2;injection h2 with _ h2
 subst h2;exact⟨vs,rel,rel.length.symm,o',es,vU,r⟩
def A6 {K:Θ1}(a it:Addr)(o:Obj)(kvs:List (dZ×V))(AA:Array DictEntry)(ep:Nat)(GN:o.data=.dict AA ep):Turn P w K tg (W9 a o kvs) [it] it (λi h=>h.IsKeyIter it a i kvs.length ep) where
 mem:=by simp
 obj:=λi h st b hb=>by
  obtain rfl:b=it:=by simpa using hb
  let⟨o',e,c,d⟩:=st;exact⟨o',e,λv z=>by rw[d] at z;cases z⟩
 keep:=λi h h' st k=>st.at λo e=>k it (by simp) o e
 item:=by
  intro X hP hw hK hc i ae s σ H E I hf st hg;subst hP hw hK;let⟨hg,hi⟩:=hg;let⟨vs,rel,hl,at'⟩:=uV I hg GN;let⟨f0,f1,f2,f3,f4,f5⟩:=hf it (by simp);obtain⟨⟨k,v⟩,RD⟩:∃p,vs[i]?=some p:=⟨vs[i],by simp[show i<vs.length by omega]⟩;apply wpAny_pyNext_dict_item (by rw[hl];exact st) at' RD λkey h' tS pf sb=>?_
  let I1:Inv X ae σ H { s with heap:=h' }:=I.turned (t':=s.toks) (λb o hb e=>(sb.2 b hb).trans e) f0 f1 f3 f4 f5;rw[hl] at pf;let⟨o1,e1,c1,d1⟩:=id pf;let hkk:∃v',kvs[i]?=some (k,v'):=by
   let e2:=rel.keys;let e3:=congrArg (λl=>l[i]?) e2;simp only[Zo,RD,Y2] at e3;cases e4:kvs[i]? with
   |none=>rw[e4] at e3;cases e3
   |some p =>
    rw[e4] at e3;simp only[Y2,Option.some.injEq] at e3;exact⟨p.2,by rw[<- e3]⟩
  let⟨v',ZA⟩:=hkk;exact⟨key,(),uj (s:={ s with heap:=h' }) e1 c1 d1 ∅ ⟨kV k,H,I1,QG tS,⟨rfl,k,v',ZA,rfl⟩,pf,λb hb=>(hf b hb).1⟩⟩
 done:=by
  intro X hP hw hK hc i ae s σ H E I hf st hg;subst hP hw hK;let⟨hg,hi⟩:=hg;let⟨vs,rel,hl,at'⟩:=uV I hg GN;let⟨f0,f1,f2,f3,f4,f5⟩:=hf it (by simp);exact wpAny_pyNext_dict_end (I.ok.hd hc) (by rw[hl];exact st) at' (by simp;omega) λh' eb=>⟨(),I.turned (t':=s.toks) (λb o hb e=>eb b o hb e) f0 f1 f3 f4 f5⟩
 self:=λ_ _ _ _ _ st h=>wpAny_pyIter_keyiter st h
def VX (td:TE):TI:=λσ H R=>td σ H λx H1=>∃a kvs,x=.ref a/\H1 a=some (.dK kvs)/\∀o,R (W9 a o kvs) (aK H1 a (.ic o (.dK kvs)))
def Js (hl:PE X l td):PI X tg l (VX td):=by
 intro ae s σ H R I h;apply bM (hl ae s σ H _ I h) λv s1 ⟨x,H1,I1,r1,q1⟩=>?_
 let⟨a,kvs,e,ha,q⟩:=q1;subst e;cases r1;let⟨z,hd,vs,ep,rel,o,es,ho,r⟩:=ss I1 (.inl ha);let at':s1.heap.DictAt (lS X.prog X.w) a vs ep:=⟨o,es,ho,r⟩;apply wpAny_pyIter_dict hd at' ?_;let I2:=I1.freeze ha ho;let KO:=rel.length;apply⟨s1.heap.objs.size,[s1.heap.objs.size],_,W9 a o kvs,_,(),I2.kept (t':=s1.toks) λb o e=>Zn _ e,A6 a _ o kvs es ep r.2.1,⟨_,Zz _ rfl,(),by rw[KO];rfl⟩,λb hb=>?_,q o⟩;obtain rfl:b=s1.heap.objs.size:=by simpa using hb
 exact I2.ju (Ze _) (I2.cb.fresh (Ze _))
end
end L2
namespace PySem
def uv (hT:IsPair s.heap T a b)
  (q:∀g,g.get? T=some { cls:=.type "tuple",data:=.seq ((#[a,b]:Array Value).setIfInBounds k x) }->Heap.SameBut T s.heap g->Q ⟨⟩ { s with heap:=g }):wpAny (model prog w) A (updateSeq T (·.setIfInBounds k x)) Q E s :=
 wpAny_updateSeq_pair hT q
section
def CA (t:h.IsTupleIter it l i)(sb:Heap.ExtBut c h g)(ne:it≠c):g.IsTupleIter it l i:=let ⟨o,e,r⟩:=t;⟨o,sb it o ne e,r⟩
def ky (t:h.IsTuple l v)(sb:Heap.ExtBut c h g)(ne:l≠c):g.IsTuple l v:=let ⟨o,e,r⟩:=t;⟨o,sb l o ne e,r⟩
def AX {Q:Θ2}(D:ZipApart z TI TO i1 i2 l1 l2)(hz:IsZip s.heap z TI TO .none)(pI:IsPair s.heap TI (.ref i1) (.ref i2))(pO:IsPair s.heap TO a b)
  (t1:s.heap.IsTupleIter i1 l1 k1) (t2:s.heap.IsTupleIter i2 l2 k2) (u1:s.heap.IsTuple l1 xs) (u2:s.heap.IsTuple l2 ys) (hx:xs[k1]?=some x) (hy:ys[k2]?=some y)
  (q:∀g,IsZip g z TI TO (rawInt s.heap.objs.size)->IsPair g TO x y->g.IsTupleIter i1 l1 (k1+1)->g.IsTupleIter i2 l2 (k2+1)->IsPair g s.heap.objs.size x y ->
   (∀c o,c≠z->c≠TO->c≠i1->c≠i2->s.heap.get? c=some o->g.get? c=some o)->Q (.ref s.heap.objs.size) { s with heap:=g }) :
  wpAny (model prog w) A (Builtin.«zip.__next__» ⟨[.ref z],[]⟩) (λjk s'=>∃v,jk=.done (.ret v)/\Q v s') E s:=by
 show wpAny _ _ (field (.ref z) 2 >>= _) _ _ _;apply Za (wpAny_field hz rfl (x:=.bool false) rfl ?_);show wpAny _ _ (field (.ref z) 3 >>= _) _ _ _;apply Za (wpAny_field hz rfl (x:=.ref TI) rfl (Za (wpAny_seqItems pI rfl ?_)));show wpAny _ _ (Builtin.SmallTypes.ownedTupleIsFree (.ref z) >>= _) _ _ _;apply Za ?_;unfold Builtin.SmallTypes.ownedTupleIsFree;apply Za (wpAny_field hz rfl (x:=.none) rfl (wpAny_pure ?_));simp only[if_true];apply Za (wpAny_rule (Za (wpAny_field hz rfl (x:=.ref TO) rfl ?_)));apply Za (wpAny_setField_rec hz (by simp) λg1 z1 b1=>?_);replace z1:IsZip g1 z TI TO .ellipsis:=z1;apply Za ?_;simp only[List.zipIdx_cons,List.zipIdx_nil,List.forIn_cons,List.forIn_nil];apply Za (Za (wpAny_onRaise ?_));show wpAny _ _ (Builtin.SmallTypes.nextOf (.ref i1) >>= _) _ _ _;apply Za (YR (CA t1 b1.extBut D.i1z) (ky u1 b1.extBut D.l1z) hx λg2 n1 b2=>wpAny_pure ?_);let o2:IsPair g2 TO a b:=b2.extBut _ _ D.TOi1 (b1.extBut _ _ D.TOz pO);apply Za (wpAny_seqItems o2 rfl (Za (uv o2 λg3 o3 b3=>Za (wpAny_letGo (wpAny_pure ?_)))))
 replace o3:IsPair g3 TO x b:=o3
 apply Za (Za (wpAny_onRaise ?_));show wpAny _ _ (Builtin.SmallTypes.nextOf (.ref i2) >>= _) _ _ _;apply Za (YR (CA (CA (CA t2 b1.extBut D.i2z) b2.extBut D.i12.symm) b3.extBut D.TOi2.symm) (ky (ky (ky u2 b1.extBut D.l2z) b2.extBut D.l2i1) b3.extBut D.l2TO) hy λg4 n2 b4=>wpAny_pure ?_);let o4:IsPair g4 TO x b:=b4.extBut _ _ D.TOi2 o3;apply Za (wpAny_seqItems o4 rfl (Za (uv o4 λg5 o5 b5=>Za (wpAny_letGo (wpAny_pure (wpAny_pure ?_))))))
 replace o5:IsPair g5 TO x y:=o5
 apply Za (wpAny_seqItems o5 rfl (Za (wpAny_newTuple ?_)));let sz:g5.objs.size=s.heap.objs.size:=by rw[b5.1,b4.1,b3.1,b2.1,b1.1]
 let z5:IsZip g5 z TI TO .ellipsis:=b5.extBut _ _ D.TOz.symm (b4.extBut _ _ D.i2z.symm (b3.extBut _ _ D.TOz.symm (b2.extBut _ _ D.i1z.symm z1)));let k5:∀c o,c≠z->c≠TO->c≠i1->c≠i2->s.heap.get? c=some o->g5.get? c=some o:=λc o e1 e2 e3 e4 e=>b5.extBut _ _ e2 (b4.extBut _ _ e4 (b3.extBut _ _ e2 (b2.extBut _ _ e3 (b1.extBut _ _ e1 e))))
 let m1:g5.IsTupleIter i1 l1 (k1+1):=CA (CA (CA n1 b3.extBut D.TOi1.symm) b4.extBut D.i12) b5.extBut D.TOi1.symm;let m2:g5.IsTupleIter i2 l2 (k2+1):=CA n2 b5.extBut D.TOi2.symm;let zlt:z<g5.objs.size:=Zr z5;show wpAny _ _ (Builtin.SmallTypes.ownedTupleHandOut (.ref z) (.ref g5.objs.size) >>= _) _ _ _;apply Za ?_;unfold Builtin.SmallTypes.ownedTupleHandOut;let z6:IsZip (g5.push { cls:=.type "tuple",data:=.seq #[x,y] }) z TI TO .ellipsis:=Zn _ z5;apply Za (wpAny_setField_rec z6 (by simp) λg7 z7 b7=>?_);replace z7:IsZip g7 z TI TO (rawInt g5.objs.size):=z7;apply wpAny_setField_rec z7 (by simp) λg8 z8 b8=>?_;replace z8:IsZip g8 z TI TO (rawInt g5.objs.size):=z8
 let up:∀c o,c≠z->g5.get? c=some o->g8.get? c=some o:=λc o e1 e=>b8.extBut _ _ e1 (b7.extBut _ _ e1 (Zn _ e))
 let p8:IsPair g8 g5.objs.size x y:=b8.extBut _ _ (Xv zlt) (b7.extBut _ _ (Xv zlt) (Zz _ rfl));rw[sz] at z8 p8;apply wpAny_pure ⟨_,(),?_⟩;show Q (.ref g5.objs.size) _;rw[sz];exact q g8 z8 (up _ _ D.TOz o5) (let ⟨o,e,r⟩:=m1;⟨o,up _ o D.i1z e,r⟩) (let ⟨o,e,r⟩:=m2;⟨o,up _ o D.i2z e,r⟩) p8 λc o e1 e2 e3 e4 e=>up c o e1 (k5 c o e1 e2 e3 e4 e)
def AW (hh:A.handled=none)(D:ZipApart z TI TO i1 i2 l1 l2)(hz:IsZip s.heap z TI TO .none)(pI:IsPair s.heap TI (.ref i1) (.ref i2))(pO:IsPair s.heap TO a b)
  (t1:s.heap.IsTupleIter i1 l1 k1) (t2:s.heap.IsTupleIter i2 l2 k2) (u1:s.heap.IsTuple l1 xs) (u2:s.heap.IsTuple l2 ys) (hx:xs[k1]?=none)
  (q:∀g e,(∀c o,c≠z->c≠TO->c≠i1->c≠i2->s.heap.get? c=some o->g.get? c=some o)->(∃o,g.get? e=some o/\o.cls=.type "StopIteration")->E (.ref e) { s with heap:=g }) :
  wpAny (model prog w) A (Builtin.«zip.__next__» ⟨[.ref z],[]⟩) Q E s:=by
 show wpAny _ _ (field (.ref z) 2 >>= _) _ _ _;apply Za (wpAny_field hz rfl (x:=.bool false) rfl ?_);show wpAny _ _ (field (.ref z) 3 >>= _) _ _ _;apply Za (wpAny_field hz rfl (x:=.ref TI) rfl (Za (wpAny_seqItems pI rfl ?_)));show wpAny _ _ (Builtin.SmallTypes.ownedTupleIsFree (.ref z) >>= _) _ _ _;apply Za ?_;unfold Builtin.SmallTypes.ownedTupleIsFree;apply Za (wpAny_field hz rfl (x:=.none) rfl (wpAny_pure ?_));simp only[if_true];apply Za (wpAny_rule (Za (wpAny_field hz rfl (x:=.ref TO) rfl ?_)));apply Za (wpAny_setField_rec hz (by simp) λg1 z1 b1=>?_);replace z1:IsZip g1 z TI TO .ellipsis:=z1;apply Za ?_;simp only[List.zipIdx_cons,List.zipIdx_nil,List.forIn_cons,List.forIn_nil];apply Za (Za (wpAny_onRaise ?_));show wpAny _ _ (Builtin.SmallTypes.nextOf (.ref i1) >>= _) _ _ _;apply Za (YO hh (CA t1 b1.extBut D.i1z) (ky u1 b1.extBut D.l1z) hx λg2 e b2 ⟨oe,he,ce⟩=>?_);let z2:IsZip g2 z TI TO .ellipsis:=b2 _ _ D.i1z.symm z1;let ez:e≠z:=λh=>by subst h;rw[z2] at he;cases he;simp at ce
 exact wpAny_setField_rec z2 (by simp) λg3 _ b3=>q g3 e (λc o e1 _ e3 _ h=>b3.extBut _ _ e1 (b2 _ _ e3 (b1.extBut _ _ e1 h))) ⟨oe,b3.extBut _ _ ez he,ce⟩
def va (D:ZipApart z TI TO i1 i2 l1 l2)(hz:IsZip s.heap z TI TO .none)(pI:IsPair s.heap TI (.ref i1) (.ref i2))(pO:IsPair s.heap TO a b)
  (t1:s.heap.IsTupleIter i1 l1 k1) (t2:s.heap.IsTupleIter i2 l2 k2) (u1:s.heap.IsTuple l1 xs) (u2:s.heap.IsTuple l2 ys) (hx:xs[k1]?=some x) (hy:ys[k2]?=some y)
  (q:∀g,IsZip g z TI TO (rawInt s.heap.objs.size)->IsPair g TO x y->g.IsTupleIter i1 l1 (k1+1)->g.IsTupleIter i2 l2 (k2+1)->IsPair g s.heap.objs.size x y ->
   (∀c o,c≠z->c≠TO->c≠i1->c≠i2->s.heap.get? c=some o->g.get? c=some o)->Q (some (.ref s.heap.objs.size)) { s with heap:=g }):wpAny (model prog w) A (pyNext (.ref z)) Q E s:=by
 let ty:s.TypeIs (.ref z) "zip":=⟨_,hz,()⟩;unfold pyNext;exact Za (wpAny_attempt (wpAny_callSpecial?_slot (name:=Str.ofString "__next__") ty F.slot_zip_next (wpAny_call_entry F.slot_zip_next ty F.entry_zip_next
  (AX D hz pI pO t1 t2 u1 u2 hx hy λg a1 a2 a3 a4 a5 a6=>wpAny_pure (q g a1 a2 a3 a4 a5 a6)) (F.args_zip_next_1 _))))
def mh (hh:A.handled=none)(D:ZipApart z TI TO i1 i2 l1 l2)(hz:IsZip s.heap z TI TO .none)(pI:IsPair s.heap TI (.ref i1) (.ref i2))(pO:IsPair s.heap TO a b)
  (t1:s.heap.IsTupleIter i1 l1 k1) (t2:s.heap.IsTupleIter i2 l2 k2) (u1:s.heap.IsTuple l1 xs) (u2:s.heap.IsTuple l2 ys) (hx:xs[k1]?=none)
  (q:∀g,(∀c o,c≠z->c≠TO->c≠i1->c≠i2->s.heap.get? c=some o->g.get? c=some o)->Q none { s with heap:=g }):wpAny (model prog w) A (pyNext (.ref z)) Q E s:=by
 let ty:s.TypeIs (.ref z) "zip":=⟨_,hz,()⟩;unfold pyNext;exact Za (wpAny_attempt (wpAny_callSpecial?_slot (name:=Str.ofString "__next__") ty F.slot_zip_next (wpAny_call_entry F.slot_zip_next ty F.entry_zip_next
  (AW hh D hz pI pO t1 t2 u1 u2 hx λg e hk ⟨o,ho,hc⟩=>Za (wpAny_isInstance (T:="StopIteration") (b:=true) ⟨o,ho,hc⟩ isSubtype_stop (wpAny_pure (q _ hk)))) (F.args_zip_next_1 _))))
end
abbrev R3 (h:Heap)(l1:Addr):Heap:=h.push { cls:=.type "tuple_iterator",data:=.fields #[.ref l1,.int 0 0] }
abbrev Wk (h:Heap)(l1 l2:Addr):Heap:=(R3 h l1).push { cls:=.type "tuple_iterator",data:=.fields #[.ref l2,.int 0 0] }
abbrev Wj (h:Heap)(l1 l2:Addr):Heap:=(Wk h l1 l2).push { cls:=.type "tuple",data:=.seq #[.ref h.objs.size,.ref (R3 h l1).objs.size] }
abbrev Wh (h:Heap)(l1 l2:Addr):Heap:=(Wj h l1 l2).push { cls:=.type "tuple",data:=.seq #[.none,.none] }
abbrev QZ (h:Heap)(l1 l2:Addr):Heap:=(Wh h l1 l2).push { cls:=.type "zip",data:=.fields #[.none,.bool false,.bool false,.ref (Wk h l1 l2).objs.size,.ref (Wj h l1 l2).objs.size] }
def xF (l1 l2:Addr)(xs ys:Array Value):Meets (Builtin.«zip.__new__» ⟨[.type "zip",.ref l1,.ref l2],[]⟩) (λ_ R s=>s.heap.IsTuple l1 xs/\s.heap.IsTuple l2 ys/\R (.ok (.ret (.ref (Wh s.heap l1 l2).objs.size))) { s with heap:=QZ s.heap l1 l2 }) :=
 .of_wp λprog w A R s h=>by
  let⟨hp,g,d,tk,os⟩:=s;let⟨v1,v2,h⟩:=h;let abF:=sub_zip;let w1:Heap.IsTuple (Shared.heap ⟨hp,g,d,tk,os⟩) l1 xs:=v1;let w2:Heap.IsTuple (Shared.heap ⟨R3 hp l1,g,d,tk,os⟩) l2 ys:=let ⟨o,e,r⟩:=v2;⟨o,Zn _ e,r⟩
  wp_walk using wpAny_pyIter_tuple w1,wpAny_pyIter_tuple w2
  exact⟨_,(),h⟩
def B3 (v1:s.heap.IsTuple l1 xs)(v2:s.heap.IsTuple l2 ys)
  (q:∀g,IsZip g (s.heap.objs.size+4) (s.heap.objs.size+2) (s.heap.objs.size+3) .none->IsPair g (s.heap.objs.size+2) (.ref s.heap.objs.size) (.ref (s.heap.objs.size+1))->IsPair g (s.heap.objs.size+3) .none .none ->
   g.IsTupleIter s.heap.objs.size l1 0->g.IsTupleIter (s.heap.objs.size+1) l2 0->(∀c o,s.heap.get? c=some o->g.get? c=some o)->Q (.ref (s.heap.objs.size+4)) { s with heap:=g }):wpAny (model prog w) A (call (.type "zip") [.ref l1,.ref l2]) Q E s:=by
 apply callType_new F.called_zip ∅ (F.typeCall_zip_2 _ _) (F.newCall_zip_2 _ _) (λobj=>F.args_object_init_3 obj _ _) F.entry_zip_new (xF l1 l2 xs ys) ⟨v1,v2,?_⟩;let e1:(R3 s.heap l1).objs.size=s.heap.objs.size+1:=Y6 ..;let e2:(Wk s.heap l1 l2).objs.size=s.heap.objs.size+2:=by rw[Y6,e1]
 let e3:(Wj s.heap l1 l2).objs.size=s.heap.objs.size+3:=by rw[Y6,e2]
 let e4:(Wh s.heap l1 l2).objs.size=s.heap.objs.size+4:=by rw[Y6,e3]
 let p5:(QZ s.heap l1 l2).get? (Wh s.heap l1 l2).objs.size=some _:=Zz _ rfl;let p4:(QZ s.heap l1 l2).get? (Wj s.heap l1 l2).objs.size=some _:=Zn _ (Zz _ rfl);let p3:(QZ s.heap l1 l2).get? (Wk s.heap l1 l2).objs.size=some _:=Zn _ (Zn _ (Zz _ rfl));let p2:(QZ s.heap l1 l2).get? (R3 s.heap l1).objs.size=some _:=Zn _ (Zn _ (Zn _ (Zz _ rfl)));let p1:(QZ s.heap l1 l2).get? s.heap.objs.size=some _:=Zn _ (Zn _ (Zn _ (Zn _ (Zz _ rfl))));show _/\_;rw[e2,e3,e4] at p5;rw[e1,e2] at p3;rw[e3] at p4;rw[e1] at p2;rw[e4];exact⟨⟨_,p5,()⟩,q _ p5 p3 p4 ⟨_,p1,(),()⟩ ⟨_,p2,(),()⟩ λc o h=>Zn _ (Zn _ (Zn _ (Zn _ (Zn _ h))))⟩
end PySem
namespace L2
open PySem.Spec PyProof.Rows
section
def RY (K:Θ1)(a b:Addr):It :=
 ⟨λi H=>∃xs ys x y,aQ K H a xs/\aQ K H b ys/\xs[i]?=some x/\ys[i]?=some y,
  λi H v H'=>∃p,H p=none/\v=.ref p/\∀xs ys,aQ K H a xs->aQ K H b ys->∃x y,xs[i]?=some x/\ys[i]?=some y/\H'=aK H p (.tup [x,y]),
  λi H=>∃xs ys,aQ K H a xs/\aQ K H b ys/\xs.length<=i⟩
def ER {K:Θ1}(a b z TI TO i1 i2:Addr)(D:ZipApart z TI TO i1 i2 a b) :
  Turn P w K (.Tuple tT kk pos) (RY K a b) [z,TI,TO,i1,i2] z (λi h=>IsZip h z TI TO .none/\IsPair h TI (.ref i1) (.ref i2)/\(∃u v,IsPair h TO u v)/\h.IsTupleIter i1 a i/\h.IsTupleIter i2 b i) where
 mem:=by simp
 obj:=λi h st c hc=>by
  let⟨hz,pI,⟨u,v,pO⟩,⟨o1,e1,c1,d1⟩,o2,e2,c2,d2⟩:=st;simp only[Zj,Qq,or_false] at hc;rcases hc with rfl |rfl |rfl |rfl |rfl
  .exact⟨_,hz,λv z=>by cases z⟩
  .exact⟨_,pI,λv z=>by cases z⟩
  .exact⟨_,pO,λv z=>by cases z⟩
  .exact⟨o1,e1,λv z=>by rw[d1] at z;cases z⟩
  .exact⟨o2,e2,λv z=>by rw[d2] at z;cases z⟩
 keep:=λi h h' st k=>by
  let⟨hz,pI,⟨u,v,pO⟩,⟨o1,e1,r1⟩,o2,e2,r2⟩:=st;exact⟨k z (by simp) _ hz,k TI (by simp) _ pI,⟨u,v,k TO (by simp) _ pO⟩,⟨o1,k i1 (by simp) _ e1,r1⟩,o2,k i2 (by simp) _ e2,r2⟩
 item:=by
  intro X hP hw hK hc i ae s σ H E I hf st hg;subst hP hw hK;let⟨xs,ys,x,y,KL,Ry,hx,hy⟩:=hg;let⟨us,ru,pu,zu⟩:=I.tuple KL;let⟨vs,rv,pv,zv⟩:=I.tuple Ry;let⟨u,hu,rxu⟩:=ru.get hx;let⟨v,hv,ryv⟩:=rv.get hy;let⟨hz,pI,⟨u0,v0,pO⟩,t1,t2⟩:=st;apply va D hz pI pO t1 t2 (show s.heap.IsTuple a us.toArray from pu) (show s.heap.IsTuple b vs.toArray from pv) (x:=u) (y:=v) (by simpa using hu) (by simpa using hv) λg z1 o1 n1 n2 p1 hk=>?_
  apply⟨_,(),?_⟩;apply wpAny_letOwnedTupleGo_zip z1 λg2 z2 b2=>?_
  replace b2:Heap.SameBut z g g2:=b2
  let lt:∀{c o},s.heap.get? c=some o->s.heap.objs.size≠c:=λe=>Xv (Zr e)
  let bD:s.heap.objs.size≠z:=lt hz;let I1:Inv X ae σ H { s with heap:=g2,toks:=s.toks }:=I.iW (ch:=[z,TI,TO,i1,i2]) (λc o hc q=>by
   let c1:c≠z:=λh=>hc (by simp[h])
   exact b2.extBut c o c1 (hk c o c1 (λh=>hc (by simp[h])) (λh=>hc (by simp[h])) (λh=>hc (by simp[h])) q)) hf
  let p2:=b2.extBut _ _ bD p1;let fp:eR X ae H s.heap.objs.size:=I.ju (Ze _) I.fresh;let I2:=I1.Dn (p:=s.heap.objs.size) (o:=.tup [x,y]) fp ⟨by show 2<=sizeLine;decide,[u,v],.cons rxu (.cons ryv .nil),⟨_,p2,(),_,()⟩⟩;apply⟨.ref s.heap.objs.size,_,I2,(),⟨_,I.fresh,(),λys1 ys2 h1 h2=>?_⟩,⟨z2,b2.extBut _ _ D.TIz (hk _ _ D.TIz D.TITO D.TIi1 D.TIi2 pI),⟨_,_,b2.extBut _ _ D.TOz o1⟩,CA n1 b2.extBut D.i1z,CA n2 b2.extBut D.i2z⟩,λc hc=>?_⟩
  .rw[I.ja h1 KL,I.ja h2 Ry];exact⟨x,y,hx,hy,()⟩
  .rw[c7]
   .exact(hf c hc).1
   .simp only[Zj,Qq,or_false] at hc;rcases hc with rfl |rfl |rfl |rfl |rfl
    .exact bD.symm
    .exact(lt pI).symm
    .exact(lt pO).symm
    .obtain⟨_,e,_⟩:=t1;exact(lt e).symm
    .obtain⟨_,e,_⟩:=t2;exact(lt e).symm
 done:=by
  intro X hP hw hK hc i ae s σ H E I hf st hg;subst hP hw hK;let⟨xs,ys,KL,Ry,hx⟩:=hg;let⟨us,ru,pu,zu⟩:=I.tuple KL;let⟨vs,rv,pv,zv⟩:=I.tuple Ry;let⟨hz,pI,⟨u0,v0,pO⟩,t1,t2⟩:=st;let hl:=ru.length;exact mh (I.ok.hd hc) D hz pI pO t1 t2 (show s.heap.IsTuple a us.toArray from pu) (show s.heap.IsTuple b vs.toArray from pv) (by simp;omega) λg hk =>
   ⟨(),I.iW (t':=s.toks) (ch:=[z,TI,TO,i1,i2]) (λc o hc q=>hk c o (λh=>hc (by simp[h])) (λh=>hc (by simp[h])) (λh=>hc (by simp[h])) (λh=>hc (by simp[h])) q) hf⟩
 self:=λA i s Q E st h=>wpAny_pyIter_zip st.1 h
def abB (K:Θ1)(ta:TA):TI:=λσ H R=>ta σ H λvs H1=>∃a b,vs=[.ref a,.ref b]/\(∃xs,aQ K H1 a xs)/\(∃ys,aQ K H1 b ys)/\R (RY K a b) H1
end
end L2
namespace L2
open PySem.Spec PyProof.Rows KG
abbrev g2 (K:Θ1):TG:=NQ K 2 (DL (eZ 0) (DL (eZ 1) UD))
def S2 (ao σ:St):Prop:=∀u v,(σ.set 0 u).set 1 v=(ao.set 0 u).set 1 v
def S2.of:S2 ao ((ao.set 0 u).set 1 v):=λu' v'=>by
 match ao with
 |[]=>rfl
 |[_]=>rfl
 |_::_::_=>rfl
def KZ (ao:St)(acc:Addr)(P:List V->Hp->Prop)(σ:St)(H:Hp):Prop:=S2 ao σ/\∃ys,H acc=some (.lst ys)/\P ys H
def KZ.of (h:H acc=some (.lst ys))(p:P ys H):KZ ao acc P ((ao.set 0 u).set 1 v) H:=⟨S2.of,ys,h,p⟩
def KY (ao:St)(acc:Addr)(P:List (dZ×V)->Hp->Prop)(σ:St)(H:Hp):Prop:=S2 ao σ/\∃ys,H acc=some (.dK ys)/\P ys H
def KY.of (h:H acc=some (.dK ys))(p:P ys H):KY ao acc P ((ao.set 0 u).set 1 v) H:=⟨S2.of,ys,h,p⟩
def zw {K:Θ1}(vT:S2 ao σ)(hp:H p=none)(h:∀H1,aA H H1->Z ((ao.set 0 (some x)).set 1 (some y)) H1):g2 K (.ref p) σ (aK H p (.tup [x,y])) Z:=by
 apply⟨p,_,(),aQ.of de,(),_,_,(),_,_,(),(),?_⟩;show Z ((σ.set 0 (some x)).set 1 (some y)) _;rw[vT];exact h _ ((aA.refl H).new hp)
section
variable {K:Θ1}{te tk tv:TE}
def B1 (Pv:Nat->List V->Hp->Prop)(h0:Pv 0 [] (aK dm acc (.lst [])))(hl:∀(i:Nat) zs H,i<=xs.length->H acc=some (.lst zs)->Pv i zs H->aQ K H a xs)
  (hs:∀(i:Nat) x zs H H1,xs[i]?=some x->H acc=some (.lst zs)->Pv i zs H->aA H H1->tt ((ao.set 0 (some (.int i))).set 1 (some x)) H1 λb H4 =>
   if b=true then te ((ao.set 0 (some (.int i))).set 1 (some x)) H4 λy H5=>∃us,H5 acc=some (.lst us)/\us.length<sizeLine/\KZ ao acc (Pv (i+1)) ((ao.set 0 (some (.int i))).set 1 (some x)) (aK H5 acc (.lst (us++[y])))
   else KZ ao acc (Pv (i+1)) ((ao.set 0 (some (.int i))).set 1 (some x)) H4)
  (hd:∀zs H,H acc=some (.lst zs)->Pv xs.length zs H->Q (.ref acc) H):gK (g2 K) tt te (CW K a) acc ao dm Q:=by
 apply⟨λi m σ H=>m=xs.length-i/\i<=xs.length/\KZ ao acc (Pv i) σ H,⟨xs.length,by simp,Yb _,λ_ _=>rfl,[],de,h0⟩,?_⟩;rintro i m σ H ⟨rfl,hi,vT,zs,hy,p⟩;let q:=hl i zs H hi hy p;by_cases cG:i<xs.length
 .apply .inr ⟨⟨xs,xs[i],q,by simp[cG]⟩,KZ ao acc (Pv (i+1)),λaR H' c=>⟨xs.length-(i+1),⋯,(),cG,c⟩,λx H' y=>?_⟩;let⟨pp,hp,rfl,SE⟩:=y;let⟨z,hz,rfl⟩:=SE xs q;exact zw vT hp λH1 s1=>hs i z zs H H1 hz hy p s1
 .let e:i=xs.length:=⋯;subst e;exact .inl ⟨⟨xs,q,Ze _⟩,hd zs H hy p⟩
def B2 (Pv:Nat->List V->Hp->Prop)(h0:Pv 0 [] (aK dm acc (.lst [])))(hl:∀(i:Nat) zs H,i<=kvs.length->H acc=some (.lst zs)->Pv i zs H->H a=some (.ic o (.dK kvs)))
  (hs:∀(i:Nat) k v zs H,kvs[i]?=some (k,v)->H acc=some (.lst zs)->Pv i zs H->tt (ao.set 0 (some (kV k))) H λb H4 =>
   if b=true then te (ao.set 0 (some (kV k))) H4 λy H5=>∃us,H5 acc=some (.lst us)/\us.length<sizeLine/\Cn ao acc (Pv (i+1)) (ao.set 0 (some (kV k))) (aK H5 acc (.lst (us++[y]))) else Cn ao acc (Pv (i+1)) (ao.set 0 (some (kV k))) H4)
  (hd:∀zs H,H acc=some (.lst zs)->Pv kvs.length zs H->Q (.ref acc) H):gK (eZ 0) tt te (W9 a o kvs) acc ao dm Q:=by
 apply⟨λi m σ H=>m=kvs.length-i/\i<=kvs.length/\Cn ao acc (Pv i) σ H,⟨kvs.length,by simp,Yb _,λ_=>rfl,[],de,h0⟩,?_⟩;rintro i m σ H ⟨rfl,hi,vT,zs,hy,p⟩;let q:=hl i zs H hi hy p;by_cases cG:i<kvs.length
 .apply .inr ⟨⟨q,cG⟩,Cn ao acc (Pv (i+1)),λaR H' c=>⟨kvs.length-(i+1),⋯,(),cG,c⟩,λx H' y=>?_⟩;let⟨e,k,v,hk,ek⟩:=y;subst e ek;show tt (σ.set 0 _) _ _;rw[vT];exact hs i k v zs _ hk hy p
 .let e:i=kvs.length:=⋯;subst e;exact .inl ⟨⟨q,Ze _⟩,hd zs H hy p⟩
def xV (Pv:Nat->List (dZ×V)->Hp->Prop)(h0:Pv 0 [] (aK dm acc (.dK [])))(hl:∀(i:Nat) zs H,i<=xs.length->H acc=some (.dK zs)->Pv i zs H->aQ K H a xs)
  (hs:∀(i:Nat) x zs H H1,xs[i]?=some x->H acc=some (.dK zs)->Pv i zs H->aA H H1->tt ((ao.set 0 (some (.int i))).set 1 (some x)) H1 λb H4 =>
   if b=true then tk ((ao.set 0 (some (.int i))).set 1 (some x)) H4 λkx H5=>tv ((ao.set 0 (some (.int i))).set 1 (some x)) H5 λy H6=>∃us k,H6 acc=some (.dK us)/\kx=kV k/\us.length<sizeLine/\KY ao acc (Pv (i+1)) ((ao.set 0 (some (.int i))).set 1 (some x)) (aK H6 acc (.dK (dv us k y)))
   else KY ao acc (Pv (i+1)) ((ao.set 0 (some (.int i))).set 1 (some x)) H4)
  (hd:∀zs H,H acc=some (.dK zs)->Pv xs.length zs H->Q (.ref acc) H):rM (g2 K) tt tk tv (CW K a) acc ao dm Q:=by
 apply⟨λi m σ H=>m=xs.length-i/\i<=xs.length/\KY ao acc (Pv i) σ H,⟨xs.length,by simp,Yb _,λ_ _=>rfl,[],de,h0⟩,?_⟩;rintro i m σ H ⟨rfl,hi,vT,zs,hy,p⟩;let q:=hl i zs H hi hy p;by_cases cG:i<xs.length
 .apply .inr ⟨⟨xs,xs[i],q,by simp[cG]⟩,KY ao acc (Pv (i+1)),λaR H' c=>⟨xs.length-(i+1),⋯,(),cG,c⟩,λx H' y=>?_⟩;let⟨pp,hp,rfl,SE⟩:=y;let⟨z,hz,rfl⟩:=SE xs q;exact zw vT hp λH1 s1=>hs i z zs H H1 hz hy p s1
 .let e:i=xs.length:=⋯;subst e;exact .inl ⟨⟨xs,q,Ze _⟩,hd zs H hy p⟩
end
section
end
end L2
namespace KM
open L2 KG EX
def boot_zip:bootBuiltins "zip"=some (.type "zip"):=by first |rfl |kernel_rfl |decide+kernel
def yl:Sp:=λvs H Q _=>∃(b p pa pp pw:Addr) (xa xp xw:List V) (am pu wi:Ξ1),vs=[.ref p]/\eA b H p pa pp pw xa xp xw am pu wi/\∀(q:Addr) (H':Hp),aA H H'->H' q=some (.tup (GD xa.length (rowsOf wi)))->Q (.ref q) H'
def Dq:Sp:=λvs H Q _=>∃(l:Addr) (ys:List V) (qs:Δ1),vs=[.ref l]/\H l=some (.lst ys)/\lT H ys qs/\qs≠[]/\(∀q∈qs,Rb 32000000 q)/\∀(a:Addr) (q:Rat),H a=some (qO q)->q∈qs->(∀z∈qs,z<=q)->Q (.ref a) H
def sq (h:lT H ys qs){i:Nat}(hy:ys[i]?=some y):∃(a:Addr) (q:Rat),y=.ref a/\H a=some (qO q)/\qs[i]?=some q:=by
 let⟨a,e,z⟩:=h.2 i y hy;let hi:i<qs.length:=by rw[<- h.1];exact(Zf.mp hy).1
 apply⟨a,qs[i],e,?_,Zc hi⟩;have:qs.getD i 0=qs[i]:=by simp[List.getD,Zc hi]
 rw[this] at z;exact z
def TB:Sp:=λvs H Q _=>∃(r q:Addr) (ns:Γ3) (ys:List V) (qs:Δ1),vs=[.ref r,.ref q]/\H r=some (.tup (ns.map V.int))/\H q=some (.tup ys)/\lT H ys qs/\ns.length=qs.length/\ns.length<=6/\(∀k∈ns,0<=k/\k<=100)/\(∀z∈qs,Rb 2010007 z) /\
 (∀j,0<ns.getD j 0->0<qs.getD j 0)/\∀(t:Addr) (H':Hp),aA H H'->H' t=some (.tup (c3 (aV ns qs)))->Q (.ref t) H'
def qZ:Sp:=λvs H Q _=>∃(n:Int) (q:Addr) (x:Rat),vs=[.int n,.ref q]/\H q=some (qO x)/\Rb 2010007 x/\0<x/\0<=n/\n<=100/\∀(t:Addr) (H':Hp),aA H H'->H' t=some (qO ((n:Rat) / x))->Q (.ref t) H'
def Tv:Sp:=λvs H Q _=>∃(pb pg:Addr) (xs:List V) (M:Γ1) (gs:List Nat),vs=[.ref pb,.ref pg]/\H pb=some (.tup xs)/\qG H xs M/\H pg=some (.tup (c3 gs))/\M.length<=6/\(∀r∈M,r.length<=6) /\
 ∀(r:Addr) (H':Hp),aA H H'->H' r=some (.tup (c3 ((List.range M.length).filter λi=>ci gs (M.getD i []))))->Q (.ref r) H'
def D4 (Pr:Addr):Sp:=λvs H Q E=>∃(b p pa pp pw:Addr) (xa xp xw:List V) (am pu wi:Ξ1) (v:V) (d:PyData),vs=[.ref p,v]/\eA b H p pa pp pw xa xp xw am pu wi/\fo b H v d /\
 (eM xa.length (rowsOf wi) d=false->∀H',aA H H'->E (.ref Pr) none H')/\(eM xa.length (rowsOf wi) d=true->∀H',aA H H'->Q .cj H')
def EB (p q:Rat):PyData.eqv (qD p) (qD q)=decide (p=q):=by
 unfold qD;simp only[PyData.eqv,PyData.eqvAll];rw[Yc];simp;constructor
 .rintro⟨h1,h2⟩;exact Rat.ext h1 ⋯
 .rintro rfl;exact⟨(),()⟩
def Lm (h:H a=some (qO q)):mr K H (.ref a) (qD q):=(fo.tup (b:=a+1) h (.cons (.int _) (.cons (.int _) .nil))).dt
def eQ (ns:Γ3)(i:Nat):List Nat:=(List.range i).filter λj=>decide (0<ns.getD j 0)
def d7 (ns:Γ3)(qs:Δ1)(j:Nat):Rat:=((ns.getD j 0:Int):Rat) / qs.getD j 0
def jf (ns:Γ3)(i:Nat):eQ ns (i+1)=eQ ns i++if 0<ns.getD i 0 then [i] else []:=by
 unfold eQ;rw[Y3,Xo]
 grind
def rX (h:j∈eQ ns i):j<i/\0<ns.getD j 0:=by
 unfold eQ at h;rw[Zg] at h;exact⟨by simpa using h.1,by simpa using h.2⟩
def uG (ns:Γ3)(i:Nat):(eQ ns i).length<=i:=by
 unfold eQ;exact Zl (Yz _ _) (by simp)
def xy (ns:Γ3)(i:Nat):(eQ ns i).Nodup:=(Xz).sublist Zu
def nj (j:Nat):dZ:=.inl (j:Int)
def uR (h:nj i=nj j):i=j:=by unfold nj at h;injection h with h;omega
structure tF (ns:Γ3)(qs:Δ1)(i:Nat)(kvs:List (dZ×V))(H:Hp):Prop where
 ks:kvs.map (·.1)=(eQ ns i).map nj
 fr:lT H (kvs.map (·.2)) ((eQ ns i).map (d7 ns qs))
def tF.len (h:tF ns qs i kvs H):kvs.length=(eQ ns i).length:=by
 have:=congrArg List.length h.ks;simpa using this
def tF.ar (h:tF ns qs i kvs H)(s:aA H H'):tF ns qs i kvs H':=⟨h.ks,h.fr.ar s⟩
def tF.tm (h:tF ns qs i kvs H)(s:Tm H H'):tF ns qs i kvs H':=⟨h.ks,h.fr.tm s⟩
def A4 {k:dZ}(h:k∉kvs.map (·.1)):et kvs k=none:=by
 cases e:et kvs k with
 |none=>rfl
 |some v=>exact absurd (yS e) h
def tF.put {qs:Δ1}(h:tF ns qs i kvs H)(hp:0<ns.getD i 0)(ha:H a=some (qO (d7 ns qs i))):tF ns qs (i+1) (dv kvs (nj i) (.ref a)) H:=by
 let hn:nj i∉kvs.map (·.1):=by
  rw[h.ks];intro z;let⟨j,hj,e⟩:=Zd.mp z;have:=(rX hj).1;have:=uR e;omega
 rw[n9 _ (A4 hn)];apply⟨?_,?_⟩
 .rw[Zs,h.ks,jf,if_pos hp,Zs];rfl
 .rw[Zs,jf,if_pos hp,Zs];exact h.fr.app ha
def tF.skip (h:tF ns qs i kvs H)(hp:¬ 0<ns.getD i 0):tF ns qs (i+1) kvs H:=by
 apply⟨?_,?_⟩
 .rw[jf,if_neg hp,Yh];exact h.ks
 .rw[jf,if_neg hp,Yh];exact h.fr
theorem tF.at {n i:Nat}{kvs:List (dZ×V)}(h:tF ns qs n kvs H)(e:kvs[i]?=some (k,v)):∃(j:Nat) (a:Addr),(eQ ns n)[i]?=some j/\k=nj j/\v=.ref a/\H a=some (qO (d7 ns qs j))/\et kvs k=some v:=by
 let e1:=congrArg (λl=>l[i]?) h.ks;simp only[Zo,e,Y2] at e1;cases ej:(eQ ns n)[i]? with
 |none=>rw[ej] at e1;cases e1
 |some j =>
  rw[ej] at e1;simp only[Y2,Option.some.injEq] at e1;let e2:(kvs.map (·.2))[i]?=some v:=by rw[Zo,e];rfl
  let⟨a,q,ea,hq,eq⟩:=sq h.fr e2;rw[Zo,ej] at eq;simp only[Y2,Option.some.injEq] at eq;apply⟨j,a,(),e1,ea,by rw[eq];exact hq,?_⟩;let nd:(kvs.map (·.1)).Nodup:=by
   rw[h.ks];exact(xy ns n).map _ λ_ _ RI z=>RI (uR z)
  clear e1 ej e2 ea hq eq h
  induction kvs generalizing i with
  |nil=>simp at e
  |cons p r ih =>
   rw[Zm,Z9] at nd;cases i with
   |zero =>
    let e':p=(k,v):=by simpa using e
    rw[e'];exact gv rfl
   |succ i =>
    let e':r[i]?=some (k,v):=by simpa using e
    let hm:k∈r.map (·.1):=Zd.mpr ⟨(k,v),Z2 e',()⟩;rw[gw (λz=>nd.1 (by rw[z];exact hm))];exact ih e' nd.2
def zk (hg:0<qs.getD g 0)(ho:0<qs.getD o 0):(d7 ns qs g<d7 ns qs o)↔(((ns.getD g 0:Int):Rat)*qs.getD o 0<((ns.getD o 0:Int):Rat)*qs.getD g 0):=by
 unfold d7;generalize ((ns.getD g 0:Int):Rat)=a;generalize ((ns.getD o 0:Int):Rat)=b;generalize qs.getD g 0=x at hg ⊢;generalize qs.getD o 0=y at ho ⊢;let hxy:(0:Rat)<x*y:=Xq hg ho;rw[<- Rat.mul_lt_mul_left hxy];let hx:x≠0:=λz=>by rw[z] at hg;exact absurd hg ∅
 let hy:y≠0:=λz=>by rw[z] at ho;exact absurd ho ∅
 let e1:x*y*(a / x)=a*y:=by grind
 let e2:x*y*(b / y)=b*x:=by grind
 rw[e1,e2]
def Gu (d4:∀j,0<ns.getD j 0->0<qs.getD j 0)(vV:∀j,0<=ns.getD j 0)(hm:m∈(eQ ns ns.length).map (d7 ns qs))(d8:∀z∈(eQ ns ns.length).map (d7 ns qs),z<=m) :
  aV ns qs=(eQ ns ns.length).filter λj=>decide (d7 ns qs j=m):=by
 unfold aV eQ;rw[Qr];apply Y0 λg hg=>?_
 let SR:g<ns.length:=by simpa using hg
 unfold du;by_cases h0:0<ns.getD g 0
 .let h1:ns.getD g 0≠0:=⋯;rw[decide_eq_true h1,decide_eq_true h0,Xh,Bool.and_true,Yc,Yd,decide_eq_true_eq];constructor
  .intro h;let⟨o,ho,eo⟩:=Zd.mp hm;let⟨ol,op⟩:=rX ho;have:=h o (by simpa using ol);unfold worse at this;rw[decide_eq_true op,Xh,Bool.not_eq_true',decide_eq_false_iff_not,<- zk (d4 g h0) (d4 o op),eo] at this;let h2:d7 ns qs g<=m:=d8 _ (Zd.mpr ⟨g,Zg.mpr ⟨hg,by simpa using h0⟩,()⟩);exact Qs h2 (Yv.mp this)
  .intro h o ho;unfold worse;by_cases op:0<ns.getD o 0
   .rw[decide_eq_true op,Xh,Bool.not_eq_true',decide_eq_false_iff_not,<- zk (d4 g h0) (d4 o op),h];exact Yv.mpr (d8 _ (Zd.mpr ⟨o,Zg.mpr ⟨ho,by simpa using op⟩,()⟩))
   .rw[decide_eq_false op];rfl
 .let h1:ns.getD g 0=0:=by have:=vV g;omega
  rw[decide_eq_false h0,Bool.and_false];rw[decide_eq_false (λz=>z h1)];rfl
def Ca (vV:∀j,0<=ns.getD j 0)(h:eQ ns ns.length=[]):aV ns qs=[]:=by
 unfold aV;rw[Xr];intro g hg;let SR:g<ns.length:=by simpa using hg
 unfold du;let h0:¬ 0<ns.getD g 0:=λz=>by
  have:g∈eQ ns ns.length:=Zg.mpr ⟨hg,by simpa using z⟩;rw[h] at this;cases this
 let h1:ns.getD g 0=0:=by have:=vV g;omega
 rw[decide_eq_false (λz=>z h1)];simp
def IX (hn:Bd k n)(hx:Rb j x)(h0:0<x):Rb (k+j) ((n:Rat) / x):=by
 let hp:=mD.mp h0;let hd:=den_pos x;let e:=kF (a:=(n:Rat)) (b:=x) ⋯;let en:((n:Rat)).num=n:=Rat.num_intCast n;let ed:(((n:Rat)).den:Int)=1:=rfl;rw[en,ed,Int.one_mul] at e;rw[<- e];exact iE ⋯ (hn.mul hx.2) (hx.1.mono ⋯)
theorem zf:∀{ws:List V}{M:Γ1}{a:Addr}{ns:Γ3},qG H ws M->H a=some (.tup (ns.map V.int))->qG H (ws++[.ref a]) (M++[ns])
 |_,_,a,_,.nil,ha=>.cons ⟨a,(),ha⟩ .nil
 |_,_,_,_,.cons h t,ha=>.cons h (zf t ha)
end KM
namespace KM
def V4 {α : Type}(f:α->Bool)(x:α):[x].filter f=if f x=true then [x] else []:=by cases h:f x<;>simp[List.filter,h]
end KM
namespace KM
open L2 KG EX
def az (g:Nat)(M:Γ1):List Nat:=(List.range g).filter (has M)
def aw (g:Nat)(M:Γ1):Γ3:=(az g M).map λj:Nat=>(j:Int)
def lD (g:Nat)(M:Γ1):GD g M=(aw g M).map V.int:=by
 unfold GD aw az
 simp_all
def A3 (g:Nat)(M:Γ1):GD g M=c3 (az g M):=by rw[lD];unfold aw c3;rw[Zp];rfl
def gl (h:j∈az g M):j<g/\has M j=true:=by
 unfold az at h;rw[Zg] at h;exact⟨by simpa using h.1,h.2⟩
def i9 (g:Nat)(M:Γ1):(az g M).length<=g:=by
 unfold az;exact Zl (Yz _ _) (by simp)
def kR (h:cW c ms qs):∀{ix:List Nat},(∀i∈ix,i<qs.length)->(((ix.map λi=>ms.getD i 0).sum:Int):Rat)=(c:Rat)*aH (ix.map λi=>qs.getD i 0):=by
 intro ix;let key:∀(ix:List Nat) (z:Rat),(∀i∈ix,i<qs.length)->((ix.map λi=>qs.getD i 0).foldl (λs q=>s+q) z)=z+aH (ix.map λi=>qs.getD i 0):=by
  intro ix;induction ix with
  |nil=>intro z _;unfold aH;simp[Qa]
  |cons i ix ih =>
   intro z hi;let MW:∀j∈ix,j<qs.length:=λj hj=>hi j (Zk _ hj)
   unfold aH;rw[Zm,Xi,Xi,ih _ MW,ih _ MW,Yw,Rat.add_assoc]
 induction ix with
 |nil=>intro _;unfold aH;simp[Xs]
 |cons i ix ih =>
  intro hi;let MW:∀j∈ix,j<qs.length:=λj hj=>hi j (Zk _ hj)
  rw[Zm,Qi,Rat.intCast_add,ih MW,h.2 i (hi i Zh)];have:aH ((i::ix).map λi=>qs.getD i 0)=qs.getD i 0+aH (ix.map λi=>qs.getD i 0):=by
   conv=>lhs;unfold aH
   rw[Zm,Xi,key ix _ MW,Yw]
  rw[this,Rat.mul_add]
def eh (am:Γ3)(qs:Δ1)(S:List Nat):Rat:=aH (S.map λg=>(gd am qs).getD g 0)
def aF (am:Γ3)(ps qs:Δ1)(M:Γ1)(S:List Nat):Rat:=eh am qs S-bt ps (eF M qs S)
def au (S:Γ3):List Nat:=S.map Int.toNat
def PQ (h:∀x∈S,0<=x):S.map V.int=c3 (au S):=by
 unfold c3 au;rw[Zp];apply Xc λx hx=>?_
 show V.int x=V.int ((x.toNat:Nat):Int);rw[Xe (h x hx)]
def Bl (h:x∈dM ns oX):x∈ns:=by
 unfold dM at h;let⟨k,hk,rfl⟩:=Zd.mp h;have:k<ns.length:=by simpa using(Zg.mp hk).1
 simp[List.getD,Zc this]
def Bm (ns:Γ3)(oX:Nat):(dM ns oX).length<=ns.length:=by
 unfold dM;rw[Zb];exact Zl (Yz _ _) (by simp)
def Ba (h:S∈aU ns):(∀x∈S,x∈ns)/\S.length<=ns.length:=by
 unfold aU at h;let⟨k,_,rfl⟩:=Zd.mp h;exact⟨λx hx=>Bl hx,Bm ns k⟩
def oE (h:i∈eF M qs S):i<M.length:=by
 unfold eF at h;simpa using(Zg.mp h).1
def lW (M:Γ1)(qs:Δ1)(S:List Nat):(eF M qs S).length<=M.length:=by
 unfold eF;exact Zl (Yz _ _) (by simp)
def PR {i:Nat}(h:(c3 gs)[i]?=some x):∃g:Nat,gs[i]?=some g/\x=V.int (g:Int):=by
 unfold c3 at h;rw[Zo] at h;cases e:gs[i]? with
 |none=>rw[e] at h;cases h
 |some g=>rw[e] at h;exact⟨g,(),by simpa using h.symm⟩
def FG (gs:List Nat):(c3 gs).length=gs.length:=by unfold c3;rw[Zb]
def nD (l:Δ1)(q:Rat):Prop:=q∈l/\∀z∈l,z<=q
def jA (l:Δ1)(q:Rat):Prop:=q∈l/\∀z∈l,q<=z
def nD.uniq {l:Δ1}{p q:Rat}(h1:nD l p)(h2:nD l q):p=q:=Qs (h2.2 p h1.1) (h1.2 q h2.1)
def jA.uniq (h1:jA l p)(h2:jA l q):p=q:=Qs (h1.2 q h2.1) (h2.2 p h1.1)
theorem wS:∀{l:Δ1},l≠[]->∃q,nD l q
 |[],h=>absurd rfl h
 |[x],_=>⟨x,Zh,λz hz=>by rw[Z1.mp hz];exact Yo⟩
 |x::y::l,_=>by
  let⟨q,h1,h2⟩:=wS (l:=y::l) (by simp);by_cases h:q<x
  .exact⟨x,Zh,λz hz=>by
    rcases Zj.mp hz with rfl |hz
    .exact Yo
    .exact Yx (h2 z hz) (Zy h)⟩
  .exact⟨q,Zk _ h1,λz hz=>by
    rcases Zj.mp hz with rfl |hz
    .exact Yv.mp h
    .exact h2 z hz⟩
def mI (a b:Int):Int:=if a<b then b else a
def abv (a b:Int):a<=mI a b:=by unfold mI;split<;>omega
def abu (a b:Int):b<=mI a b:=by unfold mI;split<;>omega
def VN (a b:Int):mI a b=a\/mI a b=b:=by unfold mI;split<;>simp
def l9 (row:Γ3):Int:=row.foldl mI 0
theorem kQ:∀(row:Γ3) (a:Int),a<=row.foldl mI a/\(∀n∈row,n<=row.foldl mI a)/\(row.foldl mI a=a\/row.foldl mI a∈row)
 |[],a=>⟨Y5 _,(λn h=>by cases h),Or.inl rfl⟩
 |x::row,a=>by
  let⟨h1,h2,h3⟩:=kQ row (mI a x);rw[Xi];apply⟨Int.le_trans (abv a x) h1,λn hn=>?_,?_⟩
  .rcases Zj.mp hn with rfl |hn
   .exact Int.le_trans (abu a n) h1
   .exact h2 n hn
  .rcases h3 with h |h
   .rcases VN a x with e |e
    .rw[h];exact .inl e
    .rw[h,e];exact .inr Zh
   .exact .inr (Zk _ h)
def JZ (hm:m∈row)(d8:∀n∈row,n<=m)(vV:∀n∈row,0<=n):m=l9 row:=by
 let⟨h1,h2,h3⟩:=kQ row 0;let a1:=h2 m hm;let a2:=vV m hm;show m=row.foldl _ 0
 grind
structure bw (n:Nat)(row:Γ3):Prop where
 len:row.length=n
 bd:∀k∈row,0<=k/\k<=100
 pos:∃k∈row,1<=k
def bw.mx (h:bw n row):1<=l9 row/\l9 row<=100:=by
 let⟨h1,h2,h3⟩:=kQ row 0;let⟨k,hk,k1⟩:=h.pos;have:=h2 k hk;apply⟨by show 1<=row.foldl _ 0;omega,?_⟩;show row.foldl _ 0<=100;rcases h3 with e |e
 .omega
 .exact(h.bd _ e).2
def bw.at (h:bw n row)(g:Nat):0<=row.getD g 0/\row.getD g 0<=l9 row:=by
 let⟨h1,h2,h3⟩:=kQ row 0;by_cases hg:g<row.length
 .have:row.getD g 0∈row:=by simp[List.getD,Zc hg]
  exact⟨(h.bd _ this).1,h2 _ this⟩
 .have:row.getD g 0=0:=by simp[List.getD,Yu (Xd hg)]
  rw[this];exact⟨Y5 _,h1⟩
def cm (g:Nat)(row:Γ3):Rat:=((row.getD g 0:Int):Rat) / ((l9 row:Int):Rat)
def pT:Rat.divInt (row.getD g 0) (l9 row)=cm g row:=Qb _ _
def yd {z:Int}(h:0<z):(0:Rat)<(z:Rat):=by
 let e:(0:Rat)=((0:Int):Rat):=rfl;rw[e,Qp];exact h
def sx {z:Int}(h:0<=z):(0:Rat)<=(z:Rat):=by
 let e:(0:Rat)=((0:Int):Rat):=rfl;rw[e,Rat.intCast_le_intCast];exact h
def KH {a b:Rat}(hb:0<b):a / b*b=a:=by
 grind
def QN {a b:Rat}(ha:0<=a)(hb:0<b):0<=a / b:=by
 rcases Classical.em (0<=a / b) with h |h
 .exact h
 .exfalso;let h1:a / b<0:=Rat.not_le.mp h;let h2:a / b*b<0*b:=(Rat.mul_lt_mul_right hb).mpr h1;rw[KH hb,Xj] at h2;exact absurd h2 (Yv.mpr ha)
def EW {n:Nat}(h:bw n row):0<=cm g row:=QN (sx (h.at g).1) (yd (by have:=h.mx.1;omega))
def jc {n:Nat}(h:bw n row):cm g row*((l9 row:Int):Rat)=((row.getD g 0:Int):Rat):=KH (yd (by have:=h.mx.1;omega))
def EY {n:Nat}(h:bw n row):cm g row<=1:=by
 let hp:=yd (z:=l9 row) (by have:=h.mx.1;omega);apply Yv.mp λz=>?_
 let h2:=(Rat.mul_lt_mul_right hp).mpr z;rw[jc h,Rat.one_mul,Qp] at h2;have:=(h.at g).2;omega
def pS {n:Nat}(h:bw n row):0<cm g row↔0<row.getD g 0:=by
 let hp:=yd (z:=l9 row) (by have:=h.mx.1;omega);rw[<- Rat.mul_lt_mul_right hp,jc h,Xj];let e:(0:Rat)=((0:Int):Rat):=rfl;rw[e,Qp]
def kL (h:bw n row):Rb 7 (cm g row):=by
 rw[<- pT];let h1:=h.at g;let h2:=h.mx;exact iE ⋯ (by unfold Bd;omega) (by unfold Bd;omega)
def eU (am:Γ3)(W:List Nat):Int:=(W.map λg=>am.getD g 0).sum
structure fz (am:Γ3)(ps:Δ1)(M:Γ1)(n:Nat)(qs:Δ1):Prop where
 len:qs.length=n
 ex:∃mn,jA ps mn/\∀g,g<n->∃sh,nD (M.map (cm g)) sh/\qs.getD g 0=mn / ((eU am (az n M):Int):Rat)*sh
def fz.uniq {am:Γ3}{ps:Δ1}{M:Γ1}{n:Nat}{p q:Δ1}(h1:fz am ps M n p)(h2:fz am ps M n q):p=q:=by
 let⟨m1,i1,e1⟩:=h1.ex;let⟨m2,i2,e2⟩:=h2.ex;let em:=i1.uniq i2;subst em;apply List.ext_getElem (by rw[h1.len,h2.len]) λg WP ZY=>?_
 let hg:g<n:=by rw[<- h1.len];exact WP
 let⟨s1,j1,f1⟩:=e1 g hg;let⟨s2,j2,f2⟩:=e2 g hg;let es:=j1.uniq j2;subst es;let a1:p.getD g 0=p[g]:=by simp[List.getD,Zc WP]
 let a2:q.getD g 0=q[g]:=by simp[List.getD,Zc ZY]
 rw[<- a1,<- a2,f1,f2]
theorem rO:∀(l:Δ1) (z:Rat),l.foldl (λs q=>s+q) z=z+aH l
 |[],z=>by unfold aH;simp[Qa]
 |x::l,z=>by
  let h1:=rO l (z+x);let h2:=rO l (0+x);unfold aH;rw[Xi,Xi,h1,h2,Yw,Rat.add_assoc]
def sum_cons (x:Rat)(l:Δ1):aH (x::l)=x+aH l:=by
 conv=>lhs;unfold aH
 rw[Xi,rO,Yw]
theorem D3:∀{l:Δ1},(∀x∈l,0<=x)->0<=aH l
 |[],_=>Yo
 |x::l,h=>by
  rw[sum_cons];let h1:=h x Zh;let h2:=D3 (l:=l) λy hy=>h y (Zk _ hy)
  exact Rat.add_nonneg h1 h2
def OA (h:∀y∈l,0<=y)(hx:x∈l):x<=aH l:=by
 induction l with
 |nil=>cases hx
 |cons y l ih =>
  rw[sum_cons];let hl:=λz hz=>h z (Zk y hz)
  rcases Zj.mp hx with rfl |hx
  .have:=D3 hl;let h2:=(Q6 (c:=x)).mpr this;rw[Qa] at h2;exact h2
  .let h1:=ih hl hx;let h2:=(Q7 (c:=aH l)).mpr (h y Zh);rw[Yw] at h2;exact Yx h1 h2
theorem nE:∀{ix:List Nat},(∀i∈ix,f i<=g i)->aH (ix.map f)<=aH (ix.map g)
 |[],_=>Yo
 |i::ix,h=>by
  rw[Zm,Zm,sum_cons,sum_cons];let h1:=h i Zh;let h2:=nE (ix:=ix) λj hj=>h j (Zk _ hj)
  exact Yx ((Q7 (c:=aH (ix.map f))).mpr h1) ((Q6 (c:=g i)).mpr h2)
theorem rN:∀{xs ys:List Nat},xs.Sublist ys->(∀i∈ys,0<=f i)->aH (xs.map f)<=aH (ys.map f)
 |_,_,.slnil,_=>Yo
 |_,y::ys,.cons _ h,hn=>by
  rw[Zm,sum_cons];let h1:=rN h λi hi=>hn i (Zk _ hi)
  let h2:=(Q7 (c:=aH (ys.map f))).mpr (hn y Zh);rw[Yw] at h2;exact Yx h1 h2
 |x::xs,_::ys,.cons₂ _ h,hn=>by
  rw[Zm,Zm,sum_cons,sum_cons];exact(Q6 (c:=f x)).mpr (rN h λi hi=>hn i (Zk _ hi))
theorem pQ:∀(ix:List Nat),aH (ix.map λi=>c*f i)=c*aH (ix.map f)
 |[]=>by unfold aH;simp[Xs]
 |i::ix=>by rw[Zm,Zm,sum_cons,sum_cons,pQ ix,Rat.mul_add]
theorem ux:∀(ix:List Nat),aH (ix.map λi=>((f i:Int):Rat))=(((ix.map f).sum:Int):Rat)
 |[]=>rfl
 |i::ix=>by rw[Zm,Zm,sum_cons,ux ix,Qi,Rat.intCast_add]
def pY (ns:Γ3)(oX:Nat):(dM ns oX).Sublist ns:=by
 let e:ns=(List.range ns.length).map λk=>ns.getD k 0:=by
  apply List.ext_getElem (by simp) λi h1 h2=>?_
  simp[List.getD,Zc h1]
 let h:(dM ns oX).Sublist ((List.range ns.length).map λk=>ns.getD k 0):=by
  unfold dM;exact List.Sublist.map _ Zu
 rw[<- e] at h;exact h
def A9 (h:S∈aU ns):S.Sublist ns:=by
 unfold aU at h;let⟨k,_,rfl⟩:=Zd.mp h;exact pY ns k
def jT (g:Nat)(M:Γ1):au (aw g M)=az g M:=by
 unfold au aw;rw[Zp];have:(Int.toNat ∘ λj:Nat=>(j:Int))=id:=by funext j;simp
 simp_all
def div_pos {a b:Rat}(ha:0<a)(hb:0<b):0<a / b:=by
 let h:=(Rat.lt_div_iff (a:=0) (b:=a) (c:=b) hb);rw[h,Xj];exact ha
section
variable {ps qs:Δ1}
def jR (hM:∀r∈M,bw n r)(bD:M≠[])(SY:am.length=n)(KQ:∀a∈am,1<=a):1<=eU am (az n M):=by
 let⟨row,M',rfl⟩:=List.exists_cons_of_ne_nil bD;let hr:=hM row Zh;let⟨k,hk,k1⟩:=hr.pos;let⟨j,hj,ej⟩:=Yj hk;let hjn:j<n:=by rw[<- hr.len];exact hj
 let hw:j∈az n (row::M'):=by
  unfold az;apply Zg.mpr ⟨by simpa using hjn,?_⟩;unfold has
  grind
 let key:∀(W:List Nat),(∀g∈W,g<n)->j∈W->1<=eU am W:=by
  intro W;let nn:∀(W:List Nat),(∀g∈W,g<n)->0<=eU am W:=by
   intro W;induction W with
   |nil=>intro _;exact Y5 _
   |cons g W ih =>
    intro h;let hg:=h g Zh;let h1:=ih λx hx=>h x (Zk _ hx)
    let h2:am.getD g 0∈am:=by simp[List.getD,Zc (show g<am.length by omega)]
    let h3:=KQ _ h2;unfold eU at h1 ⊢;rw[Zm,Qi];omega
  induction W with
  |nil=>intro _ h;cases h
  |cons g W ih =>
   intro h hj;let hg:=h g Zh;let h1:=nn W λx hx=>h x (Zk _ hx)
   let h2:am.getD g 0∈am:=by simp[List.getD,Zc (show g<am.length by omega)]
   let h3:=KQ _ h2;unfold eU at h1 ⊢;rw[Zm,Qi];omega
 exact key _ (λg hg=>(gl hg).1) hw
def xU (hM:∀r∈M,bw n r)(hF:fz am ps M n qs)(Az:∀p∈ps,0<p)(Rz:1<=eU am (az n M)){g:Nat}(hg:g∈az n M):∃(i:Nat) (row:Γ3),M[i]?=some row/\g∈aV row qs:=by
 let⟨SQ,hh⟩:=gl hg;let⟨mn,Ck,hq⟩:=hF.ex;let hb:0<mn / ((eU am (az n M):Int):Rat):=div_pos (Az mn Ck.1) (yd ⋯);generalize mn / ((eU am (az n M):Int):Rat)=base at hb hq;let⟨sh,⟨vF,d8⟩,eg⟩:=hq g SQ;let⟨row,gH,er⟩:=Zd.mp vF;let hr:=hM row gH;let d4:0<row.getD g 0:=by
  unfold has at hh;let⟨r',j8,h1⟩:=Z6.mp hh;let h2:=(pS (hM r' j8) (g:=g)).mpr (by simpa using h1);let h3:=d8 _ (Zd.mpr ⟨r',j8,()⟩);apply(pS hr).mp ?_;rw[er];apply Rat.not_le.mp λz=>?_
  exact absurd h2 (Yv.mpr (Yx h3 z))
 let⟨i,hi,ei⟩:=Yj gH;apply⟨i,row,by rw[Zc hi,ei],?_⟩;unfold aV;apply Zg.mpr ⟨by rw[hr.len];simpa using SQ,?_⟩;unfold du;rw[decide_eq_true (show row.getD g 0≠0 by omega),Xh,Yd];intro o ho;let SI:o<n:=by rw[<- hr.len];simpa using ho
 let⟨so,⟨_,hmo⟩,eo⟩:=hq o SI;let hso:=hmo _ (Zd.mpr ⟨row,gH,()⟩);unfold worse;have:¬ (((row.getD g 0:Int):Rat)*qs.getD o 0<((row.getD o 0:Int):Rat)*qs.getD g 0):=by
  apply Yv.mpr ?_;rw[eo,eg,<- er,<- jc hr (g:=g),<- jc hr (g:=o)];let hmx:=sx (z:=l9 row) (by have:=hr.mx.1;omega);let Uz:=EW hr (g:=g);generalize ((l9 row:Int):Rat)=mx at hmx;generalize cm g row=sg at Uz;generalize cm o row=s1 at hso;let e1:s1*mx*(base*sg)=sg*mx*base*s1:=by grind
  let e2:sg*mx*(base*so)=sg*mx*base*so:=by grind
  rw[e1,e2];exact Qt hso (Qj (Qj Uz hmx) (Zy hb))
 rw[decide_eq_false this,Bool.and_false];rfl
def Jq (Az:∀p∈ps,0<p)(i:Nat):0<=ps.getD i 0:=by
 by_cases h:i<ps.length
 .have:ps.getD i 0∈ps:=by simp[List.getD,Zc h]
  exact Zy (Az _ this)
 .have:ps.getD i 0=0:=by simp[List.getD,Yu (Xd h)]
  rw[this];exact Yo
def vm (hM:∀r∈M,bw n r)(hF:fz am ps M n qs)(Az:∀p∈ps,0<p)(jE:ps.length=M.length)(SY:am.length=n)(KQ:∀a∈am,1<=a)(Rz:1<=eU am (az n M)){S:List Nat}(hS:S.Sublist (az n M)):aF am ps qs M S<=0:=by
 let⟨mn,Ck,hq⟩:=hF.ex;cases hSe:S with
 |nil =>
  unfold aF eh;have:bt ps (eF M qs [])=0:=by
   have:eF M qs []=[]:=by
    unfold eF;rw[Xr];intro i _;unfold ci;simp
   rw[this];rfl
  rw[this];show(0:Rat)-0<=0;rw[Rat.sub_self];exact Yo
 |cons g S' =>
  rw[hSe] at hS;let hgw:g∈az n M:=hS.subset Zh;let⟨i,row,RK,jx⟩:=xU hM hF Az Rz hgw;let hi:i<M.length:=(Zf.mp RK).1;let KJ:i∈eF M qs (g::S'):=by
   unfold eF;apply Zg.mpr ⟨by simpa using hi,?_⟩;let e:(ak M qs).getD i []=(aV row qs).map λg:Nat=>(g:Int):=by
    unfold ak;simp[List.getD,Zo,RK]
   rw[e];unfold ci;exact Z6.mpr ⟨(g:Int),Zd.mpr ⟨g,jx,()⟩,Z6.mpr ⟨g,Zh,by simp⟩⟩
  let h1:mn<=bt ps (eF M qs (g::S')):=by
   let hm1:ps.getD i 0∈ps:=by simp[List.getD,Zc (show i<ps.length by omega)]
   apply Yx (Ck.2 _ hm1) ?_;unfold bt;exact OA (λy hy=>by let⟨j,_,rfl⟩:=Zd.mp hy;exact Jq Az j) (Zd.mpr ⟨i,KJ,()⟩)
  let vG:=yd (z:=eU am (az n M)) ⋯;let hb:0<mn / ((eU am (az n M):Int):Rat):=div_pos (Az mn Ck.1) vG;let iq:mn / ((eU am (az n M):Int):Rat)*((eU am (az n M):Int):Rat)=mn:=KH vG;let h2:eh am qs (g::S')<=mn:=by
   unfold eh;let cG:∀o∈az n M,o<n:=λo ho=>(gl ho).1
   let eo:∀o,o<n->(gd am qs).getD o 0=qs.getD o 0*((am.getD o 0:Int):Rat):=λo ho=>by
    unfold gd;rw[jv (a:=0) (by rw[Yk,hF.len];exact ho)];have:(List.range qs.length).getD o 0=o:=by simp[List.getD,Yq (show o<qs.length by rw[hF.len];exact ho)]
    rw[this]
   let amn:∀o,o<n->(0:Rat)<=((am.getD o 0:Int):Rat):=λo ho=>by
    have:am.getD o 0∈am:=by simp[List.getD,Zc (show o<am.length by omega)]
    have:=KQ _ this;exact sx ⋯
   let He:∀o∈g::S',(gd am qs).getD o 0<=mn / ((eU am (az n M):Int):Rat)*((am.getD o 0:Int):Rat):=λo ho=>by
    let SI:=cG o (hS.subset ho);rw[eo o SI];let⟨so,⟨hsm,_⟩,e⟩:=hq o SI;let⟨r,hr,er⟩:=Zd.mp hsm;let hs1:so<=1:=by rw[<- er];exact EY (hM r hr)
    rw[e];apply Xk ?_ (amn o SI);have:=Qt hs1 (Zy hb);rw[Rat.mul_one] at this;exact this
   apply Yx (nE He) ?_;rw[pQ];let h3:=rN (f:=λo=>((am.getD o 0:Int):Rat)) hS (λo ho=>amn o (cG o ho));let h4:=Qt h3 (Zy hb);apply Yx h4 ?_;rw[ux (f:=λo=>am.getD o 0)];show mn / ((eU am (az n M):Int):Rat)*((eU am (az n M):Int):Rat)<=mn;rw[iq];exact Yo
  unfold aF;let h5:=Yx h2 h1;rw[Rat.sub_right_le_iff_le_add,Yw];exact h5
def lP:aF am ps qs M []=0:=by
 unfold aF eh;have:eF M qs []=[]:=by
  unfold eF;rw[Xr];intro i _;unfold ci;simp
 rw[this];show(0:Rat)-0=0;exact Rat.sub_self
end
def Tt:Sp:=λvs H Q _=>∃(b p pa pp pw:Addr) (xa xp xw:List V) (am pu wi:Ξ1),vs=[.ref p]/\eA b H p pa pp pw xa xp xw am pu wi/\(∀r∈rowsOf wi,bw xa.length r)/\∀H',aA H H'->Q .cj H'
def D5:Sp:=λvs H Q _=>∃(l:Addr) (ys:List V) (qs:Δ1),vs=[.ref l]/\H l=some (.tup ys)/\lT H ys qs/\qs≠[]/\(∀q∈qs,Rb 32000000 q)/\∀(a:Addr) (q:Rat),H a=some (qO q)->jA qs q->Q (.ref a) H
def Tx:Sp:=λvs H Q _=>∃(pw:Addr) (xw:List V) (M:Γ1) (n g:Nat),vs=[.ref pw,.int (g:Int)]/\H pw=some (.tup xw)/\qG H xw M/\g<n/\(∀r∈M,bw n r)/\M≠[]/\M.length<=6/\∀(a:Addr) (q:Rat) (H':Hp),aA H H'->H' a=some (qO q)->nD (M.map (cm g)) q->Q (.ref a) H'
def Nu:Sp:=λvs H Q _=>∃(b p pa pp pw:Addr) (xa xp xw:List V) (am pu wi:Ξ1),vs=[.ref p]/\eA b H p pa pp pw xa xp xw am pu wi/\(∀r∈rowsOf wi,bw xa.length r) /\
 ∀(r:Addr) (xs:List V) (qs:Δ1) (H':Hp),aA H H'->H' r=some (.tup xs)->lT H' xs qs->fz (am.map be) (qA pu) (rowsOf wi) xa.length qs->Q (.ref r) H'
def lG (SY:am.length=n)(h6:n<=6)(KQ:∀a∈am,a<=60):eU am (az n M)<=360:=by
 let key:∀W:List Nat,(∀g∈W,g<n)->eU am W<=60*(W.length:Int):=by
  intro W;induction W with
  |nil=>intro _;exact Y5 _
  |cons g W ih =>
   intro h;let hg:=h g Zh;let h1:=ih λx hx=>h x (Zk _ hx)
   let h2:am.getD g 0∈am:=by simp[List.getD,Zc (show g<am.length by omega)]
   let h3:=KQ _ h2;unfold eU at h1 ⊢;rw[Zm,Qi,Y4];omega
 let h1:=key (az n M) λg hg=>(gl hg).1
 let h2:=i9 n M;omega
theorem EA:∀{ys:List V}{qs:Δ1},lT H ys qs->cg b H ys (qs.map qD)
 |[],[],_=>.nil
 |[],_::_,h=>by have:=h.1;simp at this
 |_::_,[],h=>by have:=h.1;simp at this
 |y::ys,q::qs,h=>by
  let⟨a,e,ha⟩:=h.2 0 y rfl;subst e;let hr:(q::qs).getD 0 0=q:=rfl;rw[hr] at ha;apply .cons (.tup ha (.cons (.int _) (.cons (.int _) .nil))) (EA (ys:=ys) (qs:=qs) ⟨by simpa using h.1,λj x hx=>?_⟩);let⟨c,e,hc⟩:=h.2 (j+1) x (by simpa using hx);exact⟨c,e,by simpa[List.getD] using hc⟩
def Jn {am pu wi:Ξ1}(hM:gh (.tuple [.tuple am,.tuple pu,.tuple wi])=true)(h:wi.all HD=true){r:Γ3}(hr:r∈rowsOf wi):∃k∈r,1<=k:=by
 unfold rowsOf at hr;let⟨d,hd,rfl⟩:=Zd.mp hr;let h1:=Yd.mp h d hd;cases d with
 |tuple ds =>
  let⟨x,hx,h2⟩:=Z6.mp (show ds.any TX=true from h1);cases x with
  |int n=>exact⟨n,Zd.mpr ⟨.int n,hx,()⟩,of_decide_eq_true h2⟩
  |_=>cases h2
 |_=>cases h1
end KM
namespace PySem
def ln (h:Heap)(d:Addr)(es:Array DictEntry)(ep:Nat):Prop:=∃o,h.get? d=some o/\o.ExactDict/\o.data=.dict es ep
section
def ln.at (x:ln h d es ep)(k:∀o,h.get? d=some o->g.get? d=some o):ln g d es ep:=let ⟨o,e,r⟩:=x;⟨o,k o e,r⟩
def IZ (t:s.heap.IsKeyIter it d i es.size ep)(m:ln s.heap d es ep)(hi:i<es.size)
  (q:∀g,g.IsKeyIter it d (i+1) es.size ep->Heap.SameBut it s.heap g->Q (some es[i].key) { s with heap:=g }):wpAny (model prog w) A (pyNext (.ref it)) Q E s:=by
 let⟨o,ho,hc,hd⟩:=id t;let⟨od,CN,_,sO⟩:=m;unfold pyNext;apply Za (wpAny_attempt (wpAny_callSpecial?_slot (name:=Str.ofString "__next__") t.typeIs F.slot_dict_keyiterator_next (wpAny_call_entry F.slot_dict_keyiterator_next t.typeIs F.entry_dict_keyiterator_next ?_ (F.args_dict_keyiterator_next_1 _))));apply Za (wpAny_pure (Za (Za ?_)))
 first |refine Za (wpAny_typeNameOfWhole_keyiter t.typeIs (wpAny_pure (Za (wpAny_fieldsOf ho hd ?_)))) |refine Za (wpAny_typeNameOf_keyiter t.typeIs (wpAny_pure (Za (wpAny_fieldsOf ho hd ?_))))
 let ow:Builtin.Dict_items.ownsTuple "dict_keyiterator"=false:=∅;simp only[ow,Qk,if_false];show wpAny _ _ (if (Value.ref d == Value.none)=true then _ else _) _ _ s;rw[if_neg (show ¬ ((Value.ref d == Value.none)=true) from Z4)];apply Za (wpAny_pure (Za (wpAny_dictEntries CN sO ?_)));rw[if_neg (by simp)];apply Za (wpAny_pure (Za (wpAny_dictEpoch CN sO ?_)));rw[if_neg (by simp)];apply wpAny_pure ?_;simp only[show ¬ ((i:Int)<0) from ⋯,if_false,Z0,Array.getElem?_eq_getElem hi];apply Za ?_
 first |refine Za (wpAny_typeNameOfWhole_keyiter t.typeIs (wpAny_pure (Za (wpAny_isOneOf_keyiter t.typeIs ?_)))) |refine Za (wpAny_typeNameOf_keyiter t.typeIs (wpAny_pure (Za (wpAny_isOneOf_keyiter t.typeIs ?_))))
 show wpAny _ _ (setField (.ref it) 1 (rawInt ((i:Int)+1)) >>= _) _ _ s;apply Za (wpAny_setField ho hd (by simp) ?_);let t':(s.heap.update it (Obj.mapFields (·.setIfInBounds 1 (rawInt ((i:Int)+1))))).IsKeyIter it d (i+1) es.size ep:=⟨_,Qm _ ho (Obj.isFreed_of_fields (Obj.data_mapFields hd _)),(Obj.cls_mapFields ..).trans hc,by rw[Obj.data_mapFields hd];simp[rawInt]⟩;apply Za (wpAny_holding (Za (wpAny_isOneOf_keyiter (s:={ s with heap:=s.heap.update it (Obj.mapFields (·.setIfInBounds 1 (rawInt ((i:Int)+1)))) }) t'.typeIs ?_)));show wpAny _ _ (pure es[i].key) _ _ _;exact wpAny_pure (wpAny_pure ⟨_,(),wpAny_pure (q _ t' (Heap.SameBut.update ..))⟩)
def u9 (hh:A.handled=none)(t:s.heap.IsKeyIter it d i es.size ep)(m:ln s.heap d es ep)(hi:es.size<=i)
  (q:∀g,Heap.ExtBut it s.heap g->Q none { s with heap:=g }):wpAny (model prog w) A (pyNext (.ref it)) Q E s:=by
 let⟨o,ho,hc,hd⟩:=id t;let⟨od,CN,_,sO⟩:=m;unfold pyNext;apply Za (wpAny_attempt (wpAny_callSpecial?_slot (name:=Str.ofString "__next__") t.typeIs F.slot_dict_keyiterator_next (wpAny_call_entry F.slot_dict_keyiterator_next t.typeIs F.entry_dict_keyiterator_next ?_ (F.args_dict_keyiterator_next_1 _))));apply Za (wpAny_pure (Za (Za ?_)))
 first |refine Za (wpAny_typeNameOfWhole_keyiter t.typeIs (wpAny_pure (Za (wpAny_fieldsOf ho hd ?_)))) |refine Za (wpAny_typeNameOf_keyiter t.typeIs (wpAny_pure (Za (wpAny_fieldsOf ho hd ?_))))
 let ow:Builtin.Dict_items.ownsTuple "dict_keyiterator"=false:=∅;simp only[ow,Qk,if_false];show wpAny _ _ (if (Value.ref d == Value.none)=true then _ else _) _ _ s;rw[if_neg (show ¬ ((Value.ref d == Value.none)=true) from Z4)];apply Za (wpAny_pure (Za (wpAny_dictEntries CN sO ?_)));rw[if_neg (by simp)];apply Za (wpAny_pure (Za (wpAny_dictEpoch CN sO ?_)));rw[if_neg (by simp)];apply wpAny_pure ?_;simp only[show ¬ ((i:Int)<0) from ⋯,if_false,Z0,Array.getElem?_eq_none hi];apply Za ?_
 first |refine Za (wpAny_typeNameOfWhole_keyiter t.typeIs (wpAny_pure ?_)) |refine Za (wpAny_typeNameOf_keyiter t.typeIs (wpAny_pure ?_))
 show wpAny _ _ (setField (.ref it) 0 .none >>= _) _ _ s;apply Za (wpAny_setField ho hd (by simp) ?_);show wpAny _ _ (newExc (.type "StopIteration") [] >>= _) _ _ _;apply Za ?_;simp only[newExc,newTuple];apply Za (wpAny_newObj_type ?_ (by size_fits));apply Za (m:=firstArgMember _ _) (wpAny_of_eq (a:=Value.none) (by first |rfl |(simp only[firstArgMember];rfl)) (wpAny_newObj_type ?_ (by size_fits)));simp only[raiseNew];apply Za (wpAny_handled ?_);rw[show A.in1.handled=none from hh];apply Za (wpAny_pure (wpAny_throw ?_));exact Za (wpAny_isInstance (T:="StopIteration") (b:=true) ⟨_,Zz _ rfl,()⟩ isSubtype_stop (wpAny_pure (q _ (((Heap.SameBut.update ..).extBut.push _).push _))))
def IY (t:s.heap.IsValIter it d i es.size ep)(m:ln s.heap d es ep)(hi:i<es.size)
  (q:∀g,g.IsValIter it d (i+1) es.size ep->Heap.SameBut it s.heap g->Q (some es[i].val) { s with heap:=g }):wpAny (model prog w) A (pyNext (.ref it)) Q E s:=by
 let⟨o,ho,hc,hd⟩:=id t;let⟨od,CN,_,sO⟩:=m;unfold pyNext;apply Za (wpAny_attempt (wpAny_callSpecial?_slot (name:=Str.ofString "__next__") t.typeIs F.slot_dict_valueiterator_next (wpAny_call_entry F.slot_dict_valueiterator_next t.typeIs F.entry_dict_valueiterator_next ?_ (F.args_dict_valueiterator_next_1 _))));apply Za (wpAny_pure (Za (Za ?_)))
 first |refine Za (wpAny_typeNameOfWhole_valiter t.typeIs (wpAny_pure (Za (wpAny_fieldsOf ho hd ?_)))) |refine Za (wpAny_typeNameOf_valiter t.typeIs (wpAny_pure (Za (wpAny_fieldsOf ho hd ?_))))
 let ow:Builtin.Dict_items.ownsTuple "dict_valueiterator"=false:=∅;simp only[ow,Qk,if_false];show wpAny _ _ (if (Value.ref d == Value.none)=true then _ else _) _ _ s;rw[if_neg (show ¬ ((Value.ref d == Value.none)=true) from Z4)];apply Za (wpAny_pure (Za (wpAny_dictEntries CN sO ?_)));rw[if_neg (by simp)];apply Za (wpAny_pure (Za (wpAny_dictEpoch CN sO ?_)));rw[if_neg (by simp)];apply wpAny_pure ?_;simp only[show ¬ ((i:Int)<0) from ⋯,if_false,Z0,Array.getElem?_eq_getElem hi];apply Za ?_
 first |refine Za (wpAny_typeNameOfWhole_valiter t.typeIs (wpAny_pure (Za (wpAny_isOneOf_valiter t.typeIs ?_)))) |refine Za (wpAny_typeNameOf_valiter t.typeIs (wpAny_pure (Za (wpAny_isOneOf_valiter t.typeIs ?_))))
 show wpAny _ _ (setField (.ref it) 1 (rawInt ((i:Int)+1)) >>= _) _ _ s;apply Za (wpAny_setField ho hd (by simp) ?_);let t':(s.heap.update it (Obj.mapFields (·.setIfInBounds 1 (rawInt ((i:Int)+1))))).IsValIter it d (i+1) es.size ep:=⟨_,Qm _ ho (Obj.isFreed_of_fields (Obj.data_mapFields hd _)),(Obj.cls_mapFields ..).trans hc,by rw[Obj.data_mapFields hd];simp[rawInt]⟩;apply Za (wpAny_holding (Za (wpAny_isOneOf_valiter (s:={ s with heap:=s.heap.update it (Obj.mapFields (·.setIfInBounds 1 (rawInt ((i:Int)+1)))) }) t'.typeIs ?_)));apply Za (wpAny_isOneOf_valiter (s:={ s with heap:=s.heap.update it (Obj.mapFields (·.setIfInBounds 1 (rawInt ((i:Int)+1)))) }) t'.typeIs ?_);show wpAny _ _ (pure es[i].val) _ _ _;exact wpAny_pure (wpAny_pure ⟨_,(),wpAny_pure (q _ t' (Heap.SameBut.update ..))⟩)
def u8 (hh:A.handled=none)(t:s.heap.IsValIter it d i es.size ep)(m:ln s.heap d es ep)(hi:es.size<=i)
  (q:∀g,Heap.ExtBut it s.heap g->Q none { s with heap:=g }):wpAny (model prog w) A (pyNext (.ref it)) Q E s:=by
 let⟨o,ho,hc,hd⟩:=id t;let⟨od,CN,_,sO⟩:=m;unfold pyNext;apply Za (wpAny_attempt (wpAny_callSpecial?_slot (name:=Str.ofString "__next__") t.typeIs F.slot_dict_valueiterator_next (wpAny_call_entry F.slot_dict_valueiterator_next t.typeIs F.entry_dict_valueiterator_next ?_ (F.args_dict_valueiterator_next_1 _))));apply Za (wpAny_pure (Za (Za ?_)))
 first |refine Za (wpAny_typeNameOfWhole_valiter t.typeIs (wpAny_pure (Za (wpAny_fieldsOf ho hd ?_)))) |refine Za (wpAny_typeNameOf_valiter t.typeIs (wpAny_pure (Za (wpAny_fieldsOf ho hd ?_))))
 let ow:Builtin.Dict_items.ownsTuple "dict_valueiterator"=false:=∅;simp only[ow,Qk,if_false];show wpAny _ _ (if (Value.ref d == Value.none)=true then _ else _) _ _ s;rw[if_neg (show ¬ ((Value.ref d == Value.none)=true) from Z4)];apply Za (wpAny_pure (Za (wpAny_dictEntries CN sO ?_)));rw[if_neg (by simp)];apply Za (wpAny_pure (Za (wpAny_dictEpoch CN sO ?_)));rw[if_neg (by simp)];apply wpAny_pure ?_;simp only[show ¬ ((i:Int)<0) from ⋯,if_false,Z0,Array.getElem?_eq_none hi];apply Za ?_
 first |refine Za (wpAny_typeNameOfWhole_valiter t.typeIs (wpAny_pure ?_)) |refine Za (wpAny_typeNameOf_valiter t.typeIs (wpAny_pure ?_))
 show wpAny _ _ (setField (.ref it) 0 .none >>= _) _ _ s;apply Za (wpAny_setField ho hd (by simp) ?_);show wpAny _ _ (newExc (.type "StopIteration") [] >>= _) _ _ _;apply Za ?_;simp only[newExc,newTuple];apply Za (wpAny_newObj_type ?_ (by size_fits));apply Za (m:=firstArgMember _ _) (wpAny_of_eq (a:=Value.none) (by first |rfl |(simp only[firstArgMember];rfl)) (wpAny_newObj_type ?_ (by size_fits)));simp only[raiseNew];apply Za (wpAny_handled ?_);rw[show A.in1.handled=none from hh];apply Za (wpAny_pure (wpAny_throw ?_));exact Za (wpAny_isInstance (T:="StopIteration") (b:=true) ⟨_,Zz _ rfl,()⟩ isSubtype_stop (wpAny_pure (q _ (((Heap.SameBut.update ..).extBut.push _).push _))))
def Fc (hd:(d == sysModules)=false)(m:ln s.heap d es ep)(q:Q (.ref s.heap.objs.size) { s with heap:=s.heap.push { cls:=.type "dict_keyiterator",data:=.fields #[.ref d,.int 0 0,.int es.size 0,.int ep 0] } }) :
  wpAny (model prog w) A (pyIter (.ref d)) Q E s:=by
 let⟨o,ho,hx,sO⟩:=m;let ty:s.TypeIs (.ref d) "dict":=⟨o,ho,hx.1⟩;apply wpAny_pyIter_slot ty F.slot_dict_iter (wpAny_call_entry F.slot_dict_iter ty F.entry_dict_iter ?_ (F.args_dict_iter_1 _));unfold Builtin.«dict.__iter__»;apply Za ?_;unfold Builtin.Dict.dictSlotNone;apply Za (wpAny_notOrdered_dict ty ?_);show wpAny _ _ (pure (Value.ref d)) _ _ s;apply wpAny_pure ?_;show wpAny _ _ (Builtin.Dict.showsAll d >>= _) _ _ s;unfold Builtin.Dict.showsAll;rw[if_neg (by rw[hd];exact Z4)];apply Za (wpAny_pure (Za (wpAny_dictEntries ho sO (Za (wpAny_dictEpoch ho sO ?_)))));apply Za (wpAny_newObj_type (wpAny_pure ⟨_,(),"dict_keyiterator",_,⟨_,Zz _ rfl,()⟩,F.slot_dict_keyiterator_next.lookup,?_⟩));simpa[rawInt] using q
def xx (d:Addr)(hd:(d == sysModules)=false)(es:Array DictEntry)(ep:Nat):MeetsIn prog w (Builtin.«dict.values» ⟨[.ref d],[]⟩) (λ_ R s=>ln s.heap d es ep/\R (.ok (.ret (.ref s.heap.objs.size))) { s with heap:=s.heap.push { cls:=.type "dict_values",data:=.fields #[.ref d] } }) :=
 .of_wp λA R s ⟨⟨o,ho,hx,sO⟩,h⟩=>by
  let ty:s.TypeIs (.ref d) "dict":=⟨o,ho,hx.1⟩;apply Za ?_;unfold Builtin.Dict.noArgs;apply Za (wpAny_notOrdered_dict ty ?_);show wpAny _ _ (pure d) _ _ s;apply wpAny_pure ?_;show wpAny _ _ (Builtin.Dict.showsAll d >>= _) _ _ s;unfold Builtin.Dict.showsAll;rw[if_neg (by rw[hd];exact Z4)];exact Za (wpAny_pure (Za (wpAny_newObj_type (wpAny_pure ⟨_,(),h⟩))))
def o9 (hv:s.heap.IsValuesView v d)(m:ln s.heap d es ep)(q:Q (.ref s.heap.objs.size) { s with heap:=s.heap.push { cls:=.type "dict_valueiterator",data:=.fields #[.ref d,.int 0 0,.int es.size 0,.int ep 0] } }) :
  wpAny (model prog w) A (pyIter (.ref v)) Q E s:=by
 let⟨ov,hov,hcv,hdv⟩:=id hv;let⟨o,ho,hx,sO⟩:=m;apply wpAny_pyIter_slot hv.typeIs F.slot_dict_values_iter (wpAny_call_entry F.slot_dict_values_iter hv.typeIs F.entry_dict_values_iter ?_ (F.args_dict_values_iter_1 _));unfold Builtin.«dict_values.__iter__»;apply Za (wpAny_pure (Za ?_));unfold Builtin.Dict_items.dictOf;apply Za (wpAny_field hov hdv (x:=.ref d) rfl (wpAny_pure (Za ?_)));unfold Builtin.Dict_items.newIterator;apply Za (wpAny_dictEntries ho sO (Za (wpAny_dictEpoch ho sO ?_)));let ow:Builtin.Dict_items.ownsTuple "dict_valueiterator"=false:=∅;simp only[ow,Qk,if_false];apply wpAny_newObj_type (wpAny_pure ⟨_,(),"dict_valueiterator",_,⟨_,Zz _ rfl,()⟩,F.slot_dict_valueiterator_next.lookup,?_⟩);simpa[rawInt] using q
def Walks.I0 (hh:A.handled=none)(I d:Addr)(bD:d≠I)(es:Array DictEntry)(ep:Nat):Walks prog w A I [I,d] [I] es.size (λi v=>∃h:i<es.size,v=es[i].val) (λi h=>h.IsValIter I d i es.size ep/\ln h d es ep) where
 sub:=λb hb=>by simp at hb;simp[hb]
 frame:=λ_ _ _ st hk=>⟨let ⟨o,e,r⟩:=st.1;⟨o,hk I (by simp) o e,r⟩,st.2.at λo e=>hk d (by simp) o e⟩
 item:=λi s Q E hi st hQ=>IY st.1 st.2 hi λg t' sb=>hQ _ g s.toks ⟨hi,()⟩ ⟨t',st.2.at λo e=>sb.extBut d o bD e⟩ λb o hb e=>sb.extBut b o (λh=>hb (by simp[h])) e
 done:=λs Q E st hQ=>u8 hh st.1 st.2 (Ze _) λg eb=>hQ g s.toks λb o hb e=>eb b o (λh=>hb (by simp[h])) e
 self:=λ_ s _ _ st hQ=>wpAny_pyIter_valiter (s:=s) st.1 hQ
end
end PySem
namespace L2
open PySem.Spec PyProof.Rows KG
section
def rJ (I:Inv X ae σ H s)(ha:Rd H a (.dT kvs)) :
  kvs.length<=sizeLine/\(a == sysModules)=false/\∃xs es ep,KT H kvs xs/\ln s.heap a es ep/\es.toList=xs.map (entryOfKey (tupleKind (lS X.prog X.w))):=by
 let⟨z,hd,xs,rel,o,es,ep,h1,h2,h3,h4,_⟩:=uq I.cb ha;exact⟨z,hd,xs,es,ep,rel,⟨o,h1,h2,h3⟩,h4⟩
theorem DF:∀{kvs:List (List dZ×V)}{xs:List (List dZ×Addr×Value)}{i:Nat}{x:List dZ×Addr×Value},KT H kvs xs->xs[i]?=some x->∃p,kvs[i]?=some p/\p.1=x.1/\H x.2.1=some (.tup (p.1.map kV))/\RelV p.2 x.2.2
 |_,_,_,_,.nil,h=>by simp at h
 |_,_,0,x,.cons (a:=p) hq _,h=>by
  let e:=Option.some.inj (show some _=some x from h);subst e;exact⟨p,(),hq⟩
 |_,_,i+1,x,.cons _ t,h=>by
  let⟨p,h1,h2⟩:=DF (i:=i) t (by simpa using h);exact⟨p,by simpa using h1,h2⟩
def kt_len (h:KT H kvs xs):kvs.length=xs.length:=Paired.length h
def Fe:V->List V->Hp->VK->Prop:=λx xs H Q=>∃a kvs,x=.ref a/\xs=[]/\H a=some (.dT kvs)/\∀v,H v=none->Q (.ref v) (aK H v (fQ v a))
def xE:W7 X "dict.values" Fe:=by
 intro ae s σ H x xs v us Q I r rs h;let⟨a,kvs,rfl,rfl,ha,q⟩:=h;cases rs;cases r;let⟨z,hd,xs,es,ep,rel,Av,_⟩:=rJ I (.inl ha);let ty:s.TypeIs (.ref a) "dict":=let ⟨o,ho,hx,_⟩:=Av;⟨o,ho,hx.1⟩;apply call_meetsIn PySem.F.slot_dict_values ty PySem.F.entry_dict_values (PySem.F.args_dict_values_1 _) (xx a hd es ep) ⟨Av,?_⟩;let hv:(s.heap.push { cls:=.type "dict_values",data:=.fields #[.ref a] }).IsValuesView s.heap.objs.size a:=⟨_,Zz _ rfl,(),()⟩;apply⟨.ref s.heap.objs.size,_,I.laid (t':=s.toks) (o:=fQ s.heap.objs.size a) (λ_ _ q=>Zn _ q) (Ze _) ⟨hv,⟨_,Zz _ rfl⟩,λh1 h2 w1 hk=>?_⟩,(),q _ I.fresh⟩;let⟨o,e,c⟩:=w1;exact⟨o,hk o e,c⟩
def lQ (hc:X.calm=true):ca X (.builtin "max") (λxs H Q=>∃v a kvs ns,xs=[.ref v]/\H v=some (fQ v a)/\Rd H a (.dT kvs)/\kvs.map (·.2)=ns.map V.int/\ns≠[]/\∀m,m∈ns->(∀n∈ns,n<=m)->Q (.int m) H):=by
 intro ae s σ H xs us Q I r h;let⟨v,a,kvs,ns,rfl,hv,ha,RB,bD,q⟩:=h;let⟨u,rfl,ru⟩:=vals1 r;cases ru;let⟨z,hd,xs,es,ep,rel,Av,Hi⟩:=rJ I ha;let DI:s.heap.IsValuesView v a:=(I.cb v _ hv).1;let hsz:es.size=xs.length:=by have:=congrArg List.length Hi;simpa using this
 let ZR:=kt_len rel;let hln:kvs.length=ns.length:=by have:=congrArg List.length RB;simpa using this
 let d4:0<ns.length:=Xn.mpr bD;let hda:a<s.heap.objs.size:=by let⟨o,e,_⟩:=Av;exact Zr e
 let val:∀(i:Nat) (x:Value),(∃h:i<es.size,x=es[i].val)->∃t,x=Value.int ((ns[i]?).getD 0) t:=λi x hx=>by
  let⟨hi,rfl⟩:=hx;let SN:i<xs.length:=⋯;let⟨p,h1,h2,h3,h4⟩:=DF rel (Zc SN);let e1:es[i].val=xs[i].2.2:=by
   let h5:es.toList[i]?=some (entryOfKey (tupleKind (lS X.prog X.w)) xs[i]):=by rw[Hi,Zo,Zc SN];rfl
   rw[Array.getElem?_toList,Array.getElem?_eq_getElem hi] at h5;rw[Option.some.inj h5];rfl
  let e2:=congrArg (λl=>l[i]?) RB;simp only[Zo,h1,Y2] at e2;cases e3:ns[i]? with
  |none=>rw[e3] at e2;cases e2
  |some n =>
   rw[e3] at e2;simp only[Y2,Option.some.injEq] at e2;rw[e2] at h4;rw[e1];exact h4
 apply call_max_walk (o9 DI Av ?_);apply⟨s.heap.objs.size,[s.heap.objs.size,a],[s.heap.objs.size],es.size,_,_,(λi j=>decide ((ns[i]?).getD 0>(ns[j]?).getD 0)),(),Walks.I0 (A:=X.A.in1) (I.ok.hd hc) s.heap.objs.size a (Ye hda) es ep,
  ⟨⟨_,Zz _ rfl,(),()⟩,Av.at λo e=>Zn _ e⟩,λb hb=>?_,⋯,CmpOf.ints_gt (λi=>(ns[i]?).getD 0) val,λx h' tk hP kk=>?_⟩
 .rw[Y6];simp only[Zj,Qq,or_false] at hb;rcases hb with rfl |rfl
  .exact Nat.lt_succ_self _
  .exact Nat.lt_succ_of_lt hda
 let⟨t,rfl⟩:=val _ _ hP;let⟨h1,h2⟩:=argBest_gt (λi=>(ns[i]?).getD 0) (es.size-1);generalize argBest (λi j=>decide ((ns[i]?).getD 0>(ns[j]?).getD 0)) (es.size-1)=ab at h1 h2 ⊢;let cG:ab<ns.length:=⋯;apply⟨.int ((ns[ab]?).getD 0),H,I.kept (t':=tk) λb o e=>kk b o (λz=>?_) (Zn _ e),⟨t,()⟩,q _ ?_ λn hn=>?_⟩
 .have:=Zr e;simp at z;rw[z] at this;exact Ym _ this
 .rw[Zc cG];exact Zw cG
 .obtain⟨j,hj,rfl⟩:=Yj hn;have:=h2 j ⋯;rw[Zc hj] at this;exact this
end
section
def Inv.Ke (I:Inv X ae σ H s)(ha:H a=some (.dT kvs))(ho:s.heap.get? a=some o):Inv X ae σ (aK H a (.ic o (.dT kvs))) s:=by
 apply I.write (x:=a) (e:=a) (t':=s.toks) (h':=s.heap) (by rw[ha];exact True.intro) (.inl rfl) (λ_ _ _ e=>e) ⟨o,ho⟩ ⟨ho,?_⟩;let⟨z,hd,xs,rel,r⟩:=(show b9 X.prog X.w H s.heap a (.dT kvs) from I.cb a _ ha);exact⟨z,hd,xs,KT.keeps rel λb ys e=>by rw[c7 (ua e ha (by intro z;cases z))];exact e,r⟩
def Iq (a:Addr)(o:Obj)(kvs:List (List dZ×V)):It :=
 ⟨λi H=>H a=some (.ic o (.dT kvs))/\i<kvs.length,λi H x H'=>H'=H/\∃b k v,kvs[i]?=some (k,v)/\x=.ref b/\H b=some (.tup (k.map kV)),λi H=>H a=some (.ic o (.dT kvs))/\kvs.length<=i⟩
def ql (I:Inv X ae σ H s)(hg:H a=some (.ic o (.dT kvs)))(GN:o.data=.dict AA ep) :
  ∃xs,KT H kvs xs/\ln s.heap a AA ep/\AA.toList=xs.map (entryOfKey (tupleKind (lS X.prog X.w))):=by
 let⟨z,hd,xs,es,S6,rel,⟨o',vU,hx,HV⟩,Hi⟩:=rJ I (.inr ⟨o,hg⟩);let⟨ho,_⟩:=I.cb a _ hg;have:o'=o:=by rw[ho] at vU;exact(Option.some.inj vU).symm
 subst this;rw[GN] at HV;injection HV with h1 h2
 subst h1 h2;exact⟨xs,rel,⟨o',vU,hx,GN⟩,Hi⟩
def xo {K:Θ1}(a it:Addr)(o:Obj)(kvs:List (List dZ×V))(AA:Array DictEntry)(ep:Nat)(GN:o.data=.dict AA ep)(hl0:AA.size=kvs.length):Turn P w K tg (Iq a o kvs) [it] it (λi h=>h.IsKeyIter it a i AA.size ep) where
 mem:=by simp
 obj:=λi h st b hb=>by
  obtain rfl:b=it:=by simpa using hb
  let⟨o',e,c,d⟩:=st;exact⟨o',e,λv z=>by rw[d] at z;cases z⟩
 keep:=λi h h' st k=>st.at λo e=>k it (by simp) o e
 item:=by
  intro X hP hw hK hc i ae s σ H E I hf st hg;subst hP hw hK;let⟨hg,hi⟩:=hg;let⟨xs,rel,Av,Hi⟩:=ql I hg GN;let⟨f0,f1,f2,f3,f4,f5⟩:=hf it (by simp);let hi0:i<AA.size:=⋯;apply IZ st Av hi0 λh' pf sb=>?_
  let I1:Inv X ae σ H { s with heap:=h' }:=I.turned (t':=s.toks) (λb o hb e=>(sb.2 b hb).trans e) f0 f1 f3 f4 f5;let⟨o1,e1,c1,d1⟩:=id pf;let SN:i<xs.length:=by rw[<- kt_len rel];exact hi
  let⟨p,h1,h2,h3,h4⟩:=DF rel (Zc SN);let ek:AA[i].key=.ref xs[i].2.1:=by
   let h5:AA.toList[i]?=some (entryOfKey (tupleKind (lS X.prog X.w)) xs[i]):=by rw[Hi,Zo,Zc SN];rfl
   rw[Array.getElem?_toList,Array.getElem?_eq_getElem hi0] at h5;rw[Option.some.inj h5];rfl
  apply⟨AA[i].key,(),uj (s:={ s with heap:=h' }) e1 c1 d1 ∅ ⟨.ref xs[i].2.1,H,I1,ek,⟨rfl,xs[i].2.1,p.1,p.2,h1,rfl,h3⟩,pf,λb hb=>(hf b hb).1⟩⟩
 done:=by
  intro X hP hw hK hc i ae s σ H E I hf st hg;subst hP hw hK;let⟨hg,hi⟩:=hg;let⟨xs,rel,Av,Hi⟩:=ql I hg GN;let⟨f0,f1,f2,f3,f4,f5⟩:=hf it (by simp);exact u9 (I.ok.hd hc) st Av ⋯ λh' eb=>⟨(),I.turned (t':=s.toks) (λb o hb e=>eb b o hb e) f0 f1 f3 f4 f5⟩
 self:=λ_ _ _ _ _ st h=>wpAny_pyIter_keyiter st h
def QJ (td:TE):TI:=λσ H R=>td σ H λx H1=>∃a kvs,x=.ref a/\H1 a=some (.dT kvs)/\∀o,R (Iq a o kvs) (aK H1 a (.ic o (.dT kvs)))
def Fm (hl:PE X l td):PI X tg l (QJ td):=by
 intro ae s σ H R I h;apply bM (hl ae s σ H _ I h) λv s1 ⟨x,H1,I1,r1,q1⟩=>?_
 let⟨a,kvs,e,ha,q⟩:=q1;subst e;cases r1;let⟨z,hd,xs,es,ep,rel,Av,Hi⟩:=rJ I1 (.inl ha);let⟨o,ho,hx,HV⟩:=id Av;apply Fc hd Av ?_;let I2:=I1.Ke ha ho;let hsz:es.size=kvs.length:=by have:=congrArg List.length Hi;rw[kt_len rel];simpa using this
 apply⟨s1.heap.objs.size,[s1.heap.objs.size],_,Iq a o kvs,_,(),I2.kept (t':=s1.toks) λb o e=>Zn _ e,xo a _ o kvs es ep HV hsz,⟨_,Zz _ rfl,(),()⟩,λb hb=>?_,q o⟩;obtain rfl:b=s1.heap.objs.size:=by simpa using hb
 exact I2.ju (Ze _) (I2.cb.fresh (Ze _))
end
section
def xX (Pv:Nat->List V->Hp->Prop)(h0:Pv 0 [] (aK dm acc (.lst [])))(hl:∀(i:Nat) zs H,i<=kvs.length->H acc=some (.lst zs)->Pv i zs H->H a=some (.ic o (.dT kvs)))
  (hs:∀(i:Nat) k v b zs H,kvs[i]?=some (k,v)->H b=some (.tup (k.map kV))->H acc=some (.lst zs)->Pv i zs H->tt (ao.set 0 (some (.ref b))) H λc H4 =>
   if c=true then te (ao.set 0 (some (.ref b))) H4 λy H5=>∃us,H5 acc=some (.lst us)/\us.length<sizeLine/\Cn ao acc (Pv (i+1)) (ao.set 0 (some (.ref b))) (aK H5 acc (.lst (us++[y]))) else Cn ao acc (Pv (i+1)) (ao.set 0 (some (.ref b))) H4)
  (hd:∀zs H,H acc=some (.lst zs)->Pv kvs.length zs H->Q (.ref acc) H):gK (eZ 0) tt te (Iq a o kvs) acc ao dm Q:=by
 apply⟨λi m σ H=>m=kvs.length-i/\i<=kvs.length/\Cn ao acc (Pv i) σ H,⟨kvs.length,by simp,Yb _,λ_=>rfl,[],de,h0⟩,?_⟩;rintro i m σ H ⟨rfl,hi,vT,zs,hy,p⟩;let q:=hl i zs H hi hy p;by_cases cG:i<kvs.length
 .apply .inr ⟨⟨q,cG⟩,Cn ao acc (Pv (i+1)),λaR H' c=>⟨kvs.length-(i+1),⋯,(),cG,c⟩,λx H' y=>?_⟩;let⟨e,b,k,v,hk,ek,hb⟩:=y;subst e ek;show tt (σ.set 0 _) _ _;rw[vT];exact hs i k v b zs _ hk hb hy p
 .let e:i=kvs.length:=⋯;subst e;exact .inl ⟨⟨q,Ze _⟩,hd zs H hy p⟩
end
end L2
namespace PySem
section
def sF (W:Walks prog w A.in1 I fp wr n P St)(kf:Nat->Int)(S:Addr)(RJ:S∉fp)(J:Heap->Prop)
  (hJ:∀h h',J h->(∀b o,b∉wr->b≠S->h.get? b=some o->h'.get? b=some o)->J h')
  (tS:∀i v (s:Shared) (Q:Θ2) (E:Θ2),P i v->J s.heap->(∀t tk,Q (.int (kf i) t) { s with toks:=tk })->wpAny (model prog w) A.in1 (call (.builtin "len") [v]) Q E s) :
  ∀(r j i:Nat) (s:Shared) (vb:Value) (tb:Tok) (c:Nat),n-(j+1)=r->j+1<=n->St (j+1) s.heap->J s.heap->P i vb->i<=j->(∀j',j'<=j->(kf j')<=(kf i)/\(j'<i->(kf j')<(kf i))) ->
   s.heap.get? S=some { cls:=.type "list",data:=.seq #[vb,.int (kf i) tb] c } ->
   (∀i v h' tk,P i v->i<n->(∀j,j<n->(kf j)<=(kf i)/\(j<i->(kf j)<(kf i)))->(∀b o,b∉wr->b≠S->s.heap.get? b=some o->h'.get? b=some o)->R (.ok (.ret v)) { s with heap:=h',toks:=tk }) ->
   codeAny (model prog w) A (.builtin "max.loop" ⟨[.ref I,.builtin "len",.ref S],[]⟩) R s:=by
 let ug:(toString "max" ++ toString ".loop" : String)="max.loop":=∅;let Hk:S∉wr:=λh=>RJ (W.sub _ h)
 intro r;induction r with
 |zero =>
  intro j i s vb tb c hr hj m4 hJs YY ZT jx hS hR;let hin:j+1=n:=⋯;apply codeAny_builtin F.entry_max_loop ?_;rw[Around.under_plainId F.plain_max_loop _];show wpAny _ A.in1 (seqItems? (.ref S) >>= _) _ _ _;apply Za (wpAny_seqItems hS rfl ?_);show wpAny _ A.in1 (tryCatch (pyNext (.ref I)) _ >>= _) _ _ _;apply Za (wpAny_tryCatch (W.done _ _ _ (by rw[<- hin];exact m4) λh' tk' vH=>?_));let KR:=vH S _ Hk hS;show wpAny _ A.in1 (updateSeq S (λ_=>#[]) >>= _) _ _ _;apply Za (wpAny_updateSeq KR rfl (Za (wpAny_letGo (wpAny_pure ?_))));exact hR i vb _ _ YY ⋯ (λj' l5=>jx j' ⋯) λb o hb GR e=>(Xu _ _ (Ne.symm GR)).trans (vH b o hb e)
 |succ r ih =>
  intro j i s vb tb c hr hj m4 hJs YY ZT jx hS hR;let cG:j+1<n:=⋯;apply codeAny_builtin F.entry_max_loop ?_;rw[Around.under_plainId F.plain_max_loop _];show wpAny _ A.in1 (seqItems? (.ref S) >>= _) _ _ _;apply Za (wpAny_seqItems hS rfl ?_);show wpAny _ A.in1 (tryCatch (pyNext (.ref I)) _ >>= _) _ _ _;apply Za (wpAny_tryCatch (W.item (j+1) _ _ _ cG m4 λv h' tk' hP HR vH=>?_));let KR:=vH S _ Hk hS;let RL:=hJ _ h' hJs λb o hb _ e=>vH b o hb e
  let step:∀(h2:Heap) (R9:Nat) (i2:Nat) (v2:Value) (t2:Tok) (c2:Nat),St (j+1+1) h2->J h2->P i2 v2->i2<=j+1->(∀j',j'<=j+1->(kf j')<=(kf i2)/\(j'<i2->(kf j')<(kf i2))) ->
    h2.get? S=some { cls:=.type "list",data:=.seq #[v2,.int (kf i2) t2] c2 }->(∀b o,b∉wr->b≠S->h'.get? b=some o->h2.get? b=some o) ->
    codeAny (model prog w) A (.builtin "max.loop" ⟨[.ref I,.builtin "len",.ref S],[]⟩) R { s with heap:=h2,toks:=R9 }:=λh2 R9 i2 v2 t2 c2 a1 a2 a3 a4 a5 a6 a7 =>
   ih (j+1) i2 { s with heap:=h2,toks:=R9 } v2 t2 c2 ⋯ cG a1 a2 a3 a4 a5 a6 λi3 v3 h3 XS b1 b2 b3 b4=>hR i3 v3 h3 XS b1 b2 b3 λb o hb GR e=>b4 b o hb GR (a7 b o hb GR (vH b o hb e))
  apply Za (wpAny_tryCatch (wpAny_holding (tS (j+1) v _ _ _ hP RL λt2 R9=>?_)));apply Za (wpAny_tryCatch (wpAny_holding (Za (CmpOf.ints_gt (prog:=prog) (w:=w) (A:=A.in1) (P:=λi v=>∃t,v=.int (kf i) t) kf (λi v h=>h) (j+1) i _ _ _ _ _ ⟨t2,()⟩ ⟨tb,()⟩ ?_))));apply Za (wpAny_holding (wpAny_truthy_bool (Za (wpAny_letGo (wpAny_pure ?_)))));by_cases j3:(kf i)<(kf (j+1))
  .simp only[gt_iff_lt,j3,decide_true,if_true];apply Za (wpAny_updateSeq KR rfl (Za (wpAny_letGo ?_)));rw[ug];apply wpAny_pure ⟨plainId_quiet F.plain_max_loop _,step _ _ (j+1) v t2 _ (W.frame _ _ _ HR λb V' o e=>(Xu _ _ (λh:S=b=>RJ (by rw[h];exact V'))).trans e) (hJ _ _ RL λb o _ GR e=>(Xu _ _ (Ne.symm GR)).trans e) hP (Ze _) (λj' l5=>?_) (Qm _ KR rfl) λb o _ GR e=>(Xu _ _ (Ne.symm GR)).trans e⟩;by_cases e:j'=j+1
   .subst e;exact⟨⋯,λ_=>⋯⟩
   .let jZ:=jx j' ⋯;let l7:=jZ.1;exact⟨⋯,λ_=>⋯⟩
  .simp only[gt_iff_lt,j3,decide_false,Qk,if_false];apply Za (wpAny_letGo ?_);rw[ug];apply wpAny_pure ⟨plainId_quiet F.plain_max_loop _,step _ _ i vb tb c HR RL YY ⋯ (λj' l5=>?_) KR λb o _ _ e=>e⟩;by_cases e:j'=j+1
   .subst e;exact⟨⋯,λ_=>⋯⟩
   .exact jx j' ⋯
def sG
  (h:wpAny (model prog w) A.in1 (pyIter x) (λit df=>∃(I:Addr) (fp wr:List Addr) (n:Nat) (P:Nat->Value->Prop) (St:Nat->Heap->Prop) (kf:Nat->Int) (J:Heap->Prop),it=.ref I/\Walks prog w A.in1 I fp wr n P St/\St 0 df.heap/\(∀b∈fp,b<df.heap.objs.size)/\0<n/\(∀S,df.heap.get? S=none->∀h h',J h->(∀b o,b∉wr->b≠S->h.get? b=some o->h'.get? b=some o)->J h')/\(∀h',(∀b o,df.heap.get? b=some o->h'.get? b=some o)->J h') /\
   (∀i v (s:Shared) (Q:Θ2) (E:Θ2),P i v->J s.heap->(∀t tk,Q (.int (kf i) t) { s with toks:=tk })->wpAny (model prog w) A.in1 (call (.builtin "len") [v]) Q E s) /\
   ∀i v h' tk,P i v->i<n->(∀j,j<n->(kf j)<=(kf i)/\(j<i->(kf j)<(kf i)))->(∀b o,b∉wr->df.heap.get? b=some o->h'.get? b=some o)->Q v { df with heap:=h',toks:=tk }) E s) :
  wpAny (model prog w) A (call (.builtin "max") [x] [(Str.ofString "key",.builtin "len")]) Q E s:=by
 let ug:(toString "max" ++ toString ".loop" : String)="max.loop":=∅;apply PyProof.Rows.kmk_tree F.kind_max F.plain_max F.entry_max (PyProof.Rows.kmk_max_key _ _) ?_;apply Za (wpAny_of_eq (show Builtin.Builtins.bindParams "max" ["key","default"] 0 ⟨[],[(Str.ofString "key",.builtin "len")]⟩=pure [some (.builtin "len"),none] from rfl) (Za (wpAny_pure (Za (wpAny_mono h (λit df wx=>?_) λ_ _ e=>e)))));let⟨I,fp,wr,n,P,St,kf,J,rfl,W,m4,CO,hn,hJ,hJ0,tS,hQ⟩:=wx;apply Za (wpAny_newObj_type ?_);let RJ:df.heap.objs.size∉fp:=λhm=>Ym _ (CO _ hm)
 let Hk:df.heap.objs.size∉wr:=λh=>RJ (W.sub _ h)
 let S1:df.heap.get? df.heap.objs.size=none:=by
  cases e:df.heap.get? df.heap.objs.size with
  |none=>rfl
  |some o=>exact absurd (Zr e) (Ym _)
 rw[ug];apply wpAny_pure ⟨plainId_quiet F.plain_max_loop _,codeAny_builtin F.entry_max_loop ?_⟩;let gS:(df.heap.push { cls:=.type "list",data:=.seq #[] }).get? df.heap.objs.size=some { cls:=.type "list",data:=.seq #[] }:=Zz _ rfl;let old:∀b o,df.heap.get? b=some o->b≠df.heap.objs.size:=λb o e=>Ye (Zr e)
 rw[Around.under_plainId F.plain_max_loop _];show wpAny _ A.in1 (seqItems? (.ref _) >>= _) _ _ _;apply Za (wpAny_seqItems gS rfl ?_);apply Za (wpAny_tryCatch (W.item 0 _ _ _ hn (W.frame _ _ _ m4 λb _ o e=>Zn _ e) λv h' tk' hP HR vH=>?_));let KR:=vH _ _ Hk gS;let RL:J h':=hJ _ S1 _ h' (hJ0 _ λb o e=>Zn _ e) λb o hb _ e=>vH b o hb e
 apply Za (wpAny_tryCatch (wpAny_holding (tS 0 v _ _ _ hP RL λt2 R9=>?_)));apply Za (wpAny_updateSeq KR rfl ?_);rw[ug];apply wpAny_pure ⟨plainId_quiet F.plain_max_loop _,sF W kf _ RJ J (hJ _ S1) tS _ 0 0 _ v t2 _ rfl hn (W.frame _ _ _ HR λb V' o e=>(Xu _ _ (λh:df.heap.objs.size=b=>RJ (by rw[h];exact V'))).trans e) (hJ _ S1 _ _ RL λb o _ GR e=>(Xu _ _ (Ne.symm GR)).trans e) hP (Ze _) (λj' l5=>?_) (Qm _ KR rfl) λi3 v3 h3 XS b1 b2 b3 b4=>?_⟩
 .obtain rfl:j'=0:=⋯;exact⟨⋯,λh=>absurd h ⋯⟩
 .exact hQ i3 v3 h3 XS b1 b2 b3 λb o hb e=>b4 b o hb (old b o e) ((Xu _ _ (Ne.symm (old b o e))).trans (vH b o hb (Zn _ e)))
end
end PySem
namespace L2
open PySem.Spec PyProof.Rows
def nZ (g:TG)(tt:TT)(tk tv:TE)(J:It)(acc:Addr)(ao:St)(dm:Hp)(Q:VK):Prop :=
 ∃W:Nat->Nat->St->Hp->Prop,(∃m,W 0 m ao (aK dm acc (.dT [])))/\∀i m aR H',W i m aR H' ->
  (J.stop i H'/\Q (.ref acc) H') \/
  (J.go i H'/\∃N:St->Hp->Prop,(∀cA H2,N cA H2->∃m',m'<m/\W (i+1) m' cA H2)/\∀x H2,J.sS i H' x H2->g x aR H2 λga H3=>tt ga H3 λb H4 =>
   if b=true then tk ga H4 λkx H5=>tv ga H5 λy H6=>∃kvs k b,H6 acc=some (.dT kvs)/\kx=.ref b/\H6 b=some (.tup (k.map kV))/\kvs.length<sizeLine/\N ga (aK H6 acc (.dT (dv kvs k y))) else N ga H4)
def IB (wi:TI)(g:TG)(tt:TT)(tk tv:TE)(own:Nat)(ix:List Nat):TE:=λσ H Q=>wi σ H λJ H1=>∀acc,H1 acc=none->nZ g tt tk tv J acc (dS own ix σ) H1 Q
def xW (hu:(tupleKind (lS X.prog X.w)).room A)(I:Inv X ae σ H s)
  (e:H a=some (.dT kvs)) (eb:H b=some (.tup (k.map kV))) (rv:RelV v r) (l:kvs.length<sizeLine) (h:∀s',Inv X ae σ (aK H a (.dT (dv kvs k v))) s'->Q ⟨⟩ s'):wpAny (model X.prog X.w) A (dictSet a (.ref b) r) Q E s:=by
 let⟨z,hd,xs,rel,dd⟩:=LW I.cb e;let hz:xs.length<=sizeLine:=by rw[<- Paired.length rel];exact z
 let hl:(dv kvs k v).length<=sizeLine:=by have:=fH kvs k v;omega
 apply wpAny_dictSet_heap (hsz:=hz) hu (nS I.cb eb) dd λh' Ho hs=>h _ ?_
 let⟨q,es,ep,hq,h2,h3,h4,_,h5⟩:=Ho;apply mT I (by rw[e];exact True.intro) hs ⟨q,hq⟩ ⟨hl,hd,_,(rel.put k eb rv).keeps λc ys ec=>?_,q,es,ep,hq,h2,h3,h4,h5⟩;rw[c7 (ua ec e (λz=>nomatch z))];exact ec
section
variable {tk tv:TE}
def vq {RR:Value->Addr->Result->Shared->Prop}
  (hu:(tupleKind (lS X.prog X.w)).room X.A) (B:aL X scope own cap ix) (hc:X.calm=true)
  (hb:∀C fp s H,PG (cO X scope C (own++cap) fp s H) tg g/\dH (cO X scope C (own++cap) fp s H) eG tt/\PE (cO X scope C (own++cap) fp s H) kx tk/\PE (cO X scope C (own++cap) fp s H) vx tv)
  (I2:Inv X ae σ H2 s2) (T:Turn X.prog X.w X.K tg J fp it tn) (fu:tn 0 s2.heap) (f2:∀b∈fp,eR X ae H2 b)
  (q:∀acc,H2 acc=none->nZ g tt tk tv J acc (dS own.length ix σ) H2 Q)
  (Hl:∀D C H' s' m,Inv X ae σ H' s'->Q (.ref D) H'->s'.heap.Ns C m->eR X ae H' C->RR (.ref D) C (.ok .next) s') :
  wpAny (model X.prog X.w) X.A newDict (λacc iA=>wpAny (model X.prog X.w) X.A (newFunctionEnv scope X.env.globals (d5 X.env scope.names []) [] X.env.qual none .none (some X.env)) (λke fJ =>
   codeAny (model X.prog X.w) X.A (.compStart (.DictComp kx vx [⟨tg,iter,eG,0⟩] scope pos) 0 (.ref it) acc { ke with scope:=relabel scope X.env }) (RR acc ke.locals) fJ) E iA) E s2:=by
 apply wpAny_newObj_type (yM (Cu:=λD σ H N=>tk σ H λkx H5=>tv σ H5 λy H6=>∃kvs,∃k:List dZ,∃b,H6 D=some (.dT kvs)/\kx=.ref b/\H6 b=some (.tup (k.map kV))/\kvs.length<sizeLine/\N σ (aK H6 D (.dT (dv kvs k y)))) (ST:=YF X.prog X.w X.A kx vx) B hc (λC D=>qc) (λ_ _ _ _=>codeAny_compStart_dict) (λC fp s H=>⟨(hb C fp s H).1,(hb C fp s H).2.1,λD P σ H' s' N G I q k=>?_⟩) I2
  (I2.laid (a:=s2.heap.objs.size) (o:=.dT []) (h':=s2.heap.push { cls:=.type "dict",data:=.dict #[] }) (t':=s2.toks) (λ_ _ q=>Zn _ q) (Ze _) (Gf s2.heap I2.big)) T fu f2 q Hl)
 apply bM ((hb C fp s H).2.2.1 _ s' σ H' _ I q) λkv Rg h9=>?_
 let⟨yk,R1,Tf,Kx,Ky⟩:=h9;apply bM ((hb C fp s H).2.2.2 _ Rg σ R1 _ Tf Ky) λvv Wx h9=>?_
 let⟨yv,XA,Nc,Rh,kvs,k',b,hk,ek,abT,hz,Mq⟩:=h9;subst ek;cases (show kv=Value.ref b from Kx);exact xW (X:=cO X scope C (own++cap) fp s H) (E:=λ_ _=>False) (A:=X.A) hu Nc hk abT Rh hz λs' I'=>k _ _ _ I' Mq
def Bo (hu:(tupleKind (lS X.prog X.w)).room X.A)(B:aL X scope own cap ix)(hc:X.calm=true)(hi:PI X tg iter wi)
  (hb:∀C fp s H,PG (cO X scope C (own++cap) fp s H) tg g/\dH (cO X scope C (own++cap) fp s H) eG tt/\PE (cO X scope C (own++cap) fp s H) kx tk/\PE (cO X scope C (own++cap) fp s H) vx tv)
  (hs:∀x,foldedSetIterable iter X.env x=pure x:=by intro _;rfl):PE X (.DictComp kx vx [⟨tg,iter,eG,0⟩] scope pos) (IB wi g tt tk tv own.length ix):=by
 intro ae s σ H Q I h;rw[arm_eval_DictComp];let has:∀x∈scope.names,x.2=.free->(X.env.cells.lookup x.1).isSome=true:=λx hx hk=>by
  let⟨c,e⟩:=I.ok.has x.1 (B.frees x hx hk);rw[e];rfl
 apply wpAny_comprehension_free (use:=none) rfl hs (Rv has) B.kind B.names ?_;show wpAny _ _ (eval iter X.env) _ _ s;apply bM (hi ae s σ H _ I h) λv s1 h1=>bM h1 λG8 s2 h2=>?_
 let⟨it,fp,tn,J,H2,e,I2,T,fu,f2,q⟩:=h2;subst e;apply vq (RR:=λacc C=>compPost (model X.prog X.w) X.A X.xe none (EP X ae σ Q) acc C) hu B hc hb I2 T fu f2 q ?_;intro D C H' s' m I' q' hn fC;apply⟨m,hn,λh' tf=>⟨.ref D,H',?_,(),q'⟩⟩;exact I'.turned (t':=s'.toks) (it:=C) (λb o CP e=>(tf.2 b CP).trans e) fC.1 fC.2.1 fC.2.2.2.1 fC.2.2.2.2.1 fC.2.2.2.2.2
end
section
def TsK (K:Θ1)(H:Hp)(ys:List V)(ks:List (List V)):Prop:=ys.length=ks.length/\∀(j:Nat) x,ys[j]?=some x->∃b,x=.ref b/\aQ K H b (ks.getD j [])
end
section
def Jg (K:Θ1):List V->Hp->VK->Prop:=λxs H Q=>∃(p:Addr) (ys:List V) (ks:List (List V)),xs=[.ref p]/\bG K H p ys/\ks≠[]/\TsK K H ys ks /\
 ∀(i:Nat) (b:Addr),ys[i]?=some (.ref b)->i<ks.length->(∀j,j<ks.length->(ks.getD j []).length<=(ks.getD i []).length/\(j<i->(ks.getD j []).length<(ks.getD i []).length))->Q (.ref b) H
def Bn (K:Θ1)(hc:X.calm=true)(hg:Gl X "max")(hm:X.mg "max"=none)(SR:Gl X "len")(RC:X.mg "len"=none)(ha:PA X [e] t)(hK:X.K=K:=by rfl)
  (he:backTo pos (starEach [e] X.env)=[(false,eval e X.env)]:=by rfl):PE X (.Call (.Name "max" p) [e] [⟨some "key",.Name "len" p2,p3⟩] pos) (YE (Jg K) t):=by
 subst hK;intro ae s σ H Q I h;apply wpAny_Call_Name_kw (fZ I hg hm boot_max ?_);apply PyProof.Rows.callWith_kw (bM (ha pos ae s σ H _ I h) λus s1 ⟨vs,H1,I1,r1,q1⟩=>?_) (by rw[he];rfl) (by rw[he];rfl);apply PyProof.Rows.kws_cons (fZ I1 SR RC Ys (PyProof.Rows.kws_nil ?_));let⟨pl,ys,ks,rfl,hl,bD,⟨dg,hts⟩,q⟩:=q1;let⟨u,rfl,ru⟩:=vals1 r1;cases ru;show wpAny _ _ (call (.builtin "max") [.ref pl] [(Str.ofString "key",.builtin "len")]) _ _ _;apply sG (gy I1 (I1.ok.hd hc) (.inl hl) λit fp wr its St s2 rv W Kv CO Uw=>?_);let KO:=rv.length;let RE:its.length=ks.length:=⋯;let hn:0<ks.length:=Xn.mpr bD;apply⟨it,fp,wr,its.length,_,St,(λi=>((ks.getD i []).length:Int)),(λh=>∀b o,b∉wr->s2.heap.get? b=some o->h.get? b=some o),(),W,Kv,CO,⋯,?_,?_,?_,?_⟩
 .intro S hS h h' J k b o hb e;exact k b o hb (λz=>by rw[z,hS] at e;cases e) (J b o hb e)
 .intro h' k b o _ e;exact k b o e
 .intro i v s3 Q3 E3 hP J hQ;let I3:=Uw s3.heap s3.toks J;let⟨x,hx,rx⟩:=bp.at rv hP;let⟨b,rfl,hb⟩:=hts i x hx;cases rx;let⟨abA,r3,pl3,YW⟩:=I3.tuple hb;let e3:((abA.toArray.size:Nat):Int)=((ks.getD i []).length:Int):=by rw[Z8,r3.length]
  let hn3:=jN;let hl3:=r3.length;apply len_tuple (s:=s3) pl3 (by simp only[Z8]<;>omega) ?_;rw[e3];exact hQ _ _
 .intro i v h' tk hP hi jx hk;let⟨x,hx,rx⟩:=bp.at rv hP;let⟨b,rfl,hb⟩:=hts i x hx;cases rx;exact⟨.ref b,H1,Uw h' tk hk,(),q i b hx ⋯ λj hj=>by
   let jZ:=jx j ⋯;exact⟨Int.ofNat_le.mp jZ.1,λz=>Int.ofNat_lt.mp (jZ.2 z)⟩⟩
end
end L2
namespace L2
open PySem.Spec PyProof.Rows KG
section
variable {K:Θ1}{tk tv:TE}
def Nf (ao:St)(acc:Addr)(P:List (List dZ×V)->Hp->Prop)(σ:St)(H:Hp):Prop:=(∀u,σ.set 0 u=ao.set 0 u)/\∃ys,H acc=some (.dT ys)/\P ys H
def Nf.of (h:H acc=some (.dT ys))(p:P ys H):Nf ao acc P (ao.set 0 u) H:=⟨λv=>by cases ao<;>rfl,ys,h,p⟩
def vp (Pv:Nat->List (List dZ×V)->Hp->Prop)(h0:Pv 0 [] (aK dm acc (.dT [])))(hl:∀(i:Nat) zs H,i<=xs.length->H acc=some (.dT zs)->Pv i zs H->bG K H a xs)
  (hs:∀(i:Nat) x zs H,xs[i]?=some x->H acc=some (.dT zs)->Pv i zs H->tt (ao.set 0 (some x)) H λb H4 =>
   if b=true then tk (ao.set 0 (some x)) H4 λkx H5=>tv (ao.set 0 (some x)) H5 λy H6=>∃us k b,H6 acc=some (.dT us)/\kx=.ref b/\H6 b=some (.tup (k.map kV))/\us.length<sizeLine/\Nf ao acc (Pv (i+1)) (ao.set 0 (some x)) (aK H6 acc (.dT (dv us k y)))
   else Nf ao acc (Pv (i+1)) (ao.set 0 (some x)) H4)
  (hd:∀zs H,H acc=some (.dT zs)->Pv xs.length zs H->Q (.ref acc) H):nZ (eZ 0) tt tk tv (AF K a) acc ao dm Q:=by
 apply⟨λi m σ H=>m=xs.length-i/\i<=xs.length/\Nf ao acc (Pv i) σ H,⟨xs.length,by simp,Yb _,λ_=>rfl,[],de,h0⟩,?_⟩;rintro i m σ H ⟨rfl,hi,vT,ys,hy,p⟩;let q:=hl i ys H hi hy p;by_cases cG:i<xs.length
 .apply .inr ⟨⟨xs,xs[i],q,by simp[cG]⟩,Nf ao acc (Pv (i+1)),λaR H' c=>⟨xs.length-(i+1),⋯,(),cG,c⟩,λx H' y=>?_⟩;let⟨e,y⟩:=y;subst e;show tt (σ.set 0 _) _ _;rw[vT];exact hs i x ys _ (y xs q) hy p
 .let e:i=xs.length:=⋯;subst e;exact .inl ⟨⟨xs,q,Ze _⟩,hd ys H hy p⟩
end
end L2
namespace KM
open L2 KG EX
def kO (ns:Γ3)(oX:Nat):dM ns oX=((List.range ns.length).filter λk=>Nat.testBit oX k).map λk=>ns.getD k 0:=by
 unfold dM
 congr 1
 apply Y0 λk _=>?_
 rw[Nat.testBit_eq_decide_div_mod_eq]
def Fk (h:k<2 ^ ns.length):dM (ns++[m]) k=dM ns k:=by
 rw[kO,kO,Zt,Qx,Y3,Xo];let e:[ns.length].filter (λj=>Nat.testBit k j)=[]:=by simp[List.filter,Nat.testBit_lt_two_pow h]
 rw[e,Yh];apply Xc λj hj=>?_
 let l5:j<ns.length:=by simpa using(Zg.mp hj).1
 simp[List.getD,Zq l5]
def Fl (h:k<2 ^ ns.length):dM (ns++[m]) (2 ^ ns.length+k)=dM ns k++[m]:=by
 rw[kO,kO,Zt,Qx,Y3,Xo,Zs];let e:[ns.length].filter (λj=>Nat.testBit (2 ^ ns.length+k) j)=[ns.length]:=by
  simp[List.filter,Nat.testBit_two_pow_add_eq,Nat.testBit_lt_two_pow h]
 rw[e];let e2:(List.range ns.length).filter (λj=>Nat.testBit (2 ^ ns.length+k) j)=(List.range ns.length).filter (λj=>Nat.testBit k j):=by
  apply Y0 λj hj=>?_
  exact Nat.testBit_two_pow_add_gt (by simpa using hj) k
 rw[e2]
 congr 1
 .apply Xc λj hj=>?_
  let l5:j<ns.length:=by simpa using(Zg.mp hj).1
  simp[List.getD,Zq l5]
 .simp[List.getD]
def jQ (ns:Γ3)(m:Int):aU (ns++[m])=aU ns++(aU ns).map λs=>s++[m]:=by
 unfold aU;rw[Zt,Qx,Nat.pow_succ,Nat.mul_two,List.range_add,Zs,Zp,Zp]
 congr 1
 .exact Xc λk hk=>Fk (by simpa using hk)
 .exact Xc λk hk=>Fl (by simpa using hk)
def Rr (ns:Γ3):(aU ns).length=2 ^ ns.length:=by unfold aU;rw[Zb,Yk]
def ck:S∈aU ns↔S.Sublist ns:=by
 constructor
 .exact A9
 .intro h
  revert S
  suffices H:∀(ms S:Γ3),S.Sublist ms.reverse->S∈aU ms.reverse by
   intro S h;have:=H ns.reverse S;rw[List.reverse_reverse] at this;exact this h
  intro ms;induction ms with
  |nil=>intro S h;rw[List.reverse_nil] at h ⊢;rw[List.sublist_nil.mp h];exact Z1.mpr rfl
  |cons m ms ih =>
   intro S h;rw[List.reverse_cons] at h ⊢;rw[jQ];let⟨a,b,rfl,ha,hb⟩:=List.sublist_append_iff.mp h;rcases List.sublist_cons_iff.mp hb with hb |⟨r,rfl,hr⟩
   .rw[List.sublist_nil.mp hb,Yh];exact Y7 _ (ih a ha)
   .rw[List.sublist_nil.mp hr];exact Yn _ (Zd.mpr ⟨a,ih a ha,()⟩)
def iR (h:ns.Nodup):(aU ns).Nodup:=by
 suffices H:∀ms:Γ3,ms.reverse.Nodup->(aU ms.reverse).Nodup by
  have:=H ns.reverse;rw[List.reverse_reverse] at this;exact this h
 intro ms;induction ms with
 |nil=>intro _;rw[List.reverse_nil];exact Z9.mpr ⟨by simp,X9⟩
 |cons m ms ih =>
  intro hn;rw[List.reverse_cons] at hn ⊢;let GL:=X0.mp hn;rw[jQ];apply X0.mpr ⟨ih GL.1,(ih GL.1).map _ λa b RI z=>RI (List.append_cancel_right z),λa ha b hb z=>?_⟩;let⟨s,hs,rfl⟩:=Zd.mp hb;let h1:=(ck.mp ha).subset (by rw[z];simp:m∈a);exact(GL.2.2 m h1 m (by simp)) rfl
def wsum (L:List Nat)(w:Nat->Rat)(p:Nat->Bool):Rat:=aH ((L.filter p).map w)
def sZ (q:Rat)(qs:Δ1):aH (q::qs)=q+aH qs:=by
 let key:∀(l:Δ1) (z:Rat),l.foldl (λs q=>s+q) z=z+aH l:=by
  intro l;induction l with
  |nil=>intro z;unfold aH;simp[Qa]
  |cons i l ih=>intro z;unfold aH;rw[Xi,Xi,ih,ih,Yw,Rat.add_assoc]
 conv=>lhs;unfold aH
 rw[Xi,key,Yw]
def CG (x:Nat)(L:List Nat)(w:Nat->Rat)(p:Nat->Bool):wsum (x::L) w p=(if p x=true then w x else 0)+wsum L w p:=by
 unfold wsum;cases h:p x with
 |true=>rw[Q8 h,Zm,sZ,if_pos rfl]
 |false=>rw[Qu (by rw[h];decide),if_neg ∅,Yw]
def nW (L:List Nat)(w:Nat->Rat)(p q:Nat->Bool):wsum L w (λx=>p x&&q x)+wsum L w (λx=>p x||q x)=wsum L w p+wsum L w q:=by
 induction L with
 |nil=>rfl
 |cons x L ih =>
  rw[CG,CG,CG,CG];cases p x<;>cases q x<;>simp<;>grind
def kw (hw:∀x∈L,0<=w x)(h:∀x∈L,p x=true->q x=true):wsum L w p<=wsum L w q:=by
 induction L with
 |nil=>exact Yo
 |cons x L ih =>
  let MH:=ih (λy hy=>hw y (Zk _ hy)) (λy hy=>h y (Zk _ hy));let h0:=hw x Zh;let h1:=h x Zh;rw[CG,CG];cases hp:p x with
  |false =>
   cases hq:q x with
   |false=>rw[if_neg ∅,Yw,Yw];exact MH
   |true =>
    rw[if_neg ∅,if_pos rfl,Yw];exact Yx MH (by have:=Q7 (c:=wsum L w q) |>.mpr h0;rwa [Yw] at this)
  |true =>
   rw[h1 hp,if_pos rfl];exact Q6.mpr MH
def M4 (U:List Nat)(w:Nat->Rat)(L:List Nat)(v:Nat->Rat)(rel:Nat->Nat->Bool)(S:List Nat):Rat:=wsum U w (λx=>S.contains x)-wsum L v (λi=>S.any λg=>rel i g)
def CH (h:∀x∈L,p x=q x):wsum L w p=wsum L w q:=by
 unfold wsum;rw[Y0 h]
def BW (hv:∀x∈L,0<=v x)(hI:∀x,x∈I↔x∈S/\x∈T)(hJ:∀x,x∈J↔x∈S\/x∈T) :
  M4 U w L v rel S+M4 U w L v rel T<=M4 U w L v rel I+M4 U w L v rel J:=by
 unfold M4;let a1:wsum U w (λx=>I.contains x)=wsum U w (λx=>S.contains x&&T.contains x):=CH λx _=>by rw[Yc];simp[hI]
 let a2:wsum U w (λx=>J.contains x)=wsum U w (λx=>S.contains x||T.contains x):=CH λx _=>by rw[Yc];simp[hJ]
 let a3:=nW U w (λx=>S.contains x) (λx=>T.contains x);let b1:wsum L v (λi=>I.any λg=>rel i g)<=wsum L v (λi=>(S.any λg=>rel i g)&&(T.any λg=>rel i g)):=kw hv λx _ h=>by
  let⟨g,hg,hr⟩:=Z6.mp h;have:=(hI g).mp hg;rw[Z5];exact⟨Z6.mpr ⟨g,this.1,hr⟩,Z6.mpr ⟨g,this.2,hr⟩⟩
 let b2:wsum L v (λi=>J.any λg=>rel i g)=wsum L v (λi=>(S.any λg=>rel i g)||(T.any λg=>rel i g)):=CH λx _=>by
  rw[Yc,X3,Z6,Z6,Z6];constructor
  .rintro⟨g,hg,hr⟩;rcases(hJ g).mp hg with h |h
   .exact .inl ⟨g,h,hr⟩
   .exact .inr ⟨g,h,hr⟩
  .rintro(⟨g,hg,hr⟩ |⟨g,hg,hr⟩)
   .exact⟨g,(hJ g).mpr (.inl hg),hr⟩
   .exact⟨g,(hJ g).mpr (.inr hg),hr⟩
 let b3:=nW L v (λi=>S.any λg=>rel i g) (λi=>T.any λg=>rel i g);rw[a1,a2,b2];generalize wsum L v (λi=>I.any λg=>rel i g)=z at b1
 grind
theorem sub_eq {α : Type}[BEq α][LawfulBEq α]:∀{S U:List α},S.Sublist U->U.Nodup->U.filter (λx=>S.contains x)=S
 |_,_,.slnil,_=>rfl
 |_,_,.cons a h,nd=>by
  let vN:=Z9.mp nd;rw[Qu (by rw[Ya];exact λz=>vN.1 (h.subset z))];exact sub_eq h vN.2
 |_,_,.cons₂ (l₁:=S) (l₂:=U) a h,nd=>by
  let vN:=Z9.mp nd;rw[Q8 (by rw[Ya];exact Zh)]
  congr 1
  rw[<- sub_eq h vN.2];apply Y0 λx hx=>?_
  rw[sub_eq h vN.2,Yc,Ya,Ya,Zj];constructor
  .rintro(rfl |z)
   .exact absurd hx vN.1
   .exact z
  .exact .inr
def ID {α : Type}[BEq α][LawfulBEq α]{A B U:List α}(hA:A.Sublist U)(hB:B.Sublist U)(nd:U.Nodup)(h:∀x,x∈A↔x∈B):A=B:=by
 rw[<- sub_eq hA nd,<- sub_eq hB nd];apply Y0 λx _=>?_
 rw[Yc,Ya,Ya,h x]
def L8 (U:Γ3)(f:Γ3->Rat):Prop:=∀S T:Γ3,S.Sublist U->T.Sublist U->f S+f T<=f (S.filter λx=>T.contains x)+f (U.filter λx=>S.contains x||T.contains x)
def uL (nd:U.Nodup)(sup:L8 U f)(hR:R.Sublist U)(hM:∀S:Γ3,S.Sublist U->f S<=f R)(d8:∀S:Γ3,S.Sublist U->f S=f R->S.length<=R.length)(hT:T.Sublist U)(fT:f T=f R):∀x∈T,x∈R:=by
 let h1:=sup R T hR hT;let sI:(R.filter λx=>T.contains x).Sublist R:=Zu;let sJ:(U.filter λx=>R.contains x||T.contains x).Sublist U:=Zu;let h2:=hM _ sJ;let h3:=hM _ (sI.trans hR);let e:f (U.filter λx=>R.contains x||T.contains x)=f R:=by
  rw[fT] at h1;generalize f (U.filter λx=>R.contains x||T.contains x)=z at h1 h2 ⊢;generalize f (R.filter λx=>T.contains x)=y at h1 h3
  grind
 let h4:=d8 _ sJ e;let h5:R.Sublist (U.filter λx=>R.contains x||T.contains x):=by
  let h6:U.filter (λx=>R.contains x)=R:=sub_eq hR nd;let h7:(U.filter λx=>R.contains x||T.contains x).filter (λx=>R.contains x)=R:=by
   rw[Qr];apply Eq.trans (Y0 λx _=>?_) h6;cases R.contains x<;>simp
  let h8:((U.filter λx=>R.contains x||T.contains x).filter (λx=>R.contains x)).Sublist (U.filter λx=>R.contains x||T.contains x):=Zu;rw[h7] at h8;exact h8
 let h9:=h5.eq_of_length_le h4;intro x hx;rw[h9,Zg];exact⟨hT.subset hx,by simp[hx]⟩
def qF (H:Hp)(xs:List V)(M:Γ1):Prop:=xs.length=M.length/\∀(j:Nat) x,xs[j]?=some x->∃(a:Addr) (r:Γ3),M[j]?=some r/\x=.ref a/\H a=some (.tup (r.map V.int))
def qF.nil:qF H [] []:=⟨(),λj x h=>by simp at h⟩
def qF.tm (h:qF H xs M)(t:Tm H H'):qF H' xs M:=⟨h.1,λj x hx=>by let⟨a,r,e1,e2,e3⟩:=h.2 j x hx;exact⟨a,r,e1,e2,t _ _ e3⟩⟩
def qF.cat (h1:qF H xs M)(h2:qF H ys N):qF H (xs++ys) (M++N):=by
 apply⟨by simp[h1.1,h2.1],λj y hy=>?_⟩;rcases Z3 j xs.length with z |z
 .rw[Zq z] at hy;let⟨a,r,e1,e2,e3⟩:=h1.2 j y hy;exact⟨a,r,by rw[Zq (h1.1▸z)];exact e1,e2,e3⟩
 .rw[Yi z] at hy;let⟨a,r,e1,e2,e3⟩:=h2.2 _ y hy;exact⟨a,r,by rw[Yi (h1.1▸z),<- h1.1];exact e1,e2,e3⟩
def qF.app (h:qF H xs M)(ha:H a=some (.tup (r.map V.int))):qF H (xs++[.ref a]) (M++[r]):=h.cat ⟨(),λj x hx=>by
 cases j with
 |zero=>simp at hx;subst hx;exact⟨a,r,(),(),ha⟩
 |succ j=>simp at hx⟩
def qF.ks (h:qF H xs M):TsK K H xs (M.map λr=>r.map V.int):=⟨by rw[h.1,Zb],λj x hx=>by
 let⟨a,r,e1,e2,e3⟩:=h.2 j x hx;apply⟨a,e2,aQ.of ?_⟩;have:(M.map λr=>r.map V.int).getD j []=r.map V.int:=by simp[List.getD,Zo,e1]
 rw[this];exact e3⟩
def D7:Sp:=λvs H Q _=>∃(l:Addr) (ns:Γ3),vs=[.ref l]/\H l=some (.tup (ns.map V.int))/\ns.length<=6/\∀(r:Addr) (xs:List V) (H':Hp),aA H H'->H' r=some (.lst xs)->qF H' xs (aU ns)->Q (.ref r) H'
def zd:Sp:=λvs H Q _=>∃(b p pa pp pw q:Addr) (xa xp xw ys:List V) (am pu wi:Ξ1) (qs:Δ1),vs=[.ref p,.ref q]/\eA b H p pa pp pw xa xp xw am pu wi/\AT b H q ys qs/\qs.length=xa.length /\
 ∀(r r1 r2:Addr) (c:Int) (ms ps:Γ3) (H':Hp),aA H H'->0<c->cW c ms (gd (am.map be) qs)->cW c ps (qA pu)->H' r=some (.tup [.ref r1,.ref r2])->H' r1=some (.lst (ms.map V.int))->H' r2=some (.lst (ps.map V.int))->Q (.ref r) H'
def Tz:Sp:=λvs H Q _=>∃(l t:Addr) (ms:Γ3) (S:List Nat),vs=[.ref l,.ref t]/\H l=some (.lst (ms.map V.int))/\H t=some (.tup (c3 S))/\S.length<=6/\(∀i∈S,i<ms.length)/\∀H',aA H H'->Q (.int ((S.map λi=>ms.getD i 0).sum)) H'
def ni (n:Int):dZ:=.inl n
def mq (aT:List (Int×Γ3)):List (List dZ×V):=aT.map λr=>(r.2.map ni,V.int r.1)
def Ex (ns:Γ3):(ns.map ni).map kV=ns.map V.int:=by rw[Zp];rfl
def uQ {a b:Γ3}(h:a.map ni=b.map ni):a=b:=by
 induction a generalizing b with
 |nil=>cases b with
  |nil=>rfl
  |cons _ _=>cases h
 |cons x a ih=>cases b with
  |nil=>cases h
  |cons y b =>
   rw[Zm,Zm] at h;injection h with h1 h2
   have:x=y:=by unfold ni at h1;injection h1
   rw[this,ih h2]
def Above (am:Γ3)(ps qs:Δ1)(M:Γ1)(U:Γ3)(c:Int)(aT:List (Int×Γ3)):Prop:=0<c/\aT.map (·.2)=aU U/\∀x∈aT,((x.1:Int):Rat)=(c:Rat)*aF am ps qs M (au x.2)
structure MP (b:Addr)(H:Hp)(p pa pp pw q:Addr)(xa xp xw ys:List V)(am pu wi:Ξ1)(qs:Δ1):Prop where
 m:eA b H p pa pp pw xa xp xw am pu wi
 pr:AT b H q ys qs
 l:qs.length=xa.length
 ok:GY (rowsOf wi) qs
def TC:Sp:=λvs H Q _=>∃(b p pa pp pw q:Addr) (xa xp xw ys:List V) (am pu wi:Ξ1) (qs:Δ1),vs=[.ref p,.ref q]/\MP b H p pa pp pw q xa xp xw ys am pu wi qs /\
 ∀(d:Addr) (c:Int) (aT:List (Int×Γ3)) (H':Hp),aA H H'->H d=none->Above (am.map be) (qA pu) qs (rowsOf wi) (aw xa.length (rowsOf wi)) c aT->H' d=some (.dT (mq aT))->Q (.ref d) H'
def Nr (De:Addr):Sp:=λvs H Q E=>∃(b p pa pp pw q:Addr) (xa xp xw ys:List V) (am pu wi:Ξ1) (qs:Δ1),vs=[.ref p,.ref q]/\MP b H p pa pp pw q xa xp xw ys am pu wi qs /\
 ∀(c:Int) (aT:List (Int×Γ3)),Above (am.map be) (qA pu) qs (rowsOf wi) (aw xa.length (rowsOf wi)) c aT ->
  ((∃x∈aT,0<x.1)->∀H',aA H H'->E (.ref De) none H') /\
  ((∀x∈aT,x.1<=0)->∀(a:Addr) (row:Int×Γ3) (H':Hp),aA H H'->row∈aT->row.1=0->(∀x∈aT,x.1=0->x.2.length<=row.2.length)->H' a=some (.tup (row.2.map V.int))->Q (.ref a) H')
def xR (h:cW c ms (as++bs)):cW c (ms.take as.length) as/\cW c (ms.drop as.length) bs:=by
 let⟨h1,h2⟩:=h;rw[Zt] at h1 h2;apply⟨⟨by rw[Yy];omega,λj hj=>?_⟩,⟨by rw[Qo];omega,λj hj=>?_⟩⟩
 .let h3:=h2 j ⋯;let e1:(ms.take as.length).getD j 0=ms.getD j 0:=by simp[List.getD,List.getElem?_take,hj]
  let e2:(as++bs).getD j 0=as.getD j 0:=by simp[List.getD,Zq hj]
  rw[e1,<- e2];exact h3
 .let h3:=h2 (as.length+j) ⋯;let e1:(ms.drop as.length).getD j 0=ms.getD (as.length+j) 0:=by simp[List.getD,List.getElem?_drop]
  let e2:(as++bs).getD (as.length+j) 0=bs.getD j 0:=by simp[List.getD,Yi]
  rw[e1,<- e2];exact h3
def Cj (g:Nat)(M:Γ1):(aw g M).Nodup:=by
 unfold aw az;apply((Xz).sublist Zu).map _ λa b h z=>h ⋯
def Mx:ci gs best=gs.any λg=>best.contains (g:Int):=by
 unfold ci
 grind
def mY (nd:N.Nodup)(h:S.Sublist N) :
  aF am ps qs M S=M4 N (λg=>(gd am qs).getD g 0) (List.range M.length) (λi=>ps.getD i 0) (λi g=>((ak M qs).getD i []).contains (g:Int)) S:=by
 unfold aF M4 eh bt eF wsum;rw[sub_eq h nd]
 congr 3
 apply Y0 λi _=>?_
 exact Mx
def Mw (h:S.Sublist (aw g M)):(au S).Sublist (az g M):=by
 let h1:=List.Sublist.map Int.toNat h;let h2:=jT g M;unfold au at h2 ⊢;rw[h2] at h1;exact h1
def CC (h:S.Sublist (aw g M))(x:Nat):x∈au S↔(x:Int)∈S:=by
 unfold au;constructor
 .intro hx;let⟨y,hy,rfl⟩:=Zd.mp hx;have:=h.subset hy;unfold aw at this;let⟨j,_,rfl⟩:=Zd.mp this;rw[Z0];exact hy
 .intro hx;exact Zd.mpr ⟨_,hx,Z0 x⟩
def l4 (hp:∀q∈ps,0<=q):L8 (aw g M) (λS=>aF am ps qs M (au S)):=by
 intro S T hS hT;let nd:(az g M).Nodup:=by unfold az;exact(Xz).sublist Zu
 let sI:(S.filter λx=>T.contains x).Sublist (aw g M):=Zu.trans hS;let sJ:((aw g M).filter λx=>S.contains x||T.contains x).Sublist (aw g M):=Zu;show aF am ps qs M (au S)+aF am ps qs M (au T)<=aF am ps qs M (au _)+aF am ps qs M (au _);rw[mY nd (Mw hS),mY nd (Mw hT),mY nd (Mw sI),mY nd (Mw sJ)];apply BW (λx _=>?_) (λx=>?_) (λx=>?_)
 .by_cases hx:x<ps.length
  .have:ps.getD x 0∈ps:=by simp[List.getD,Zc hx]
   exact hp _ this
  .have:ps.getD x 0=0:=by simp[List.getD,Yu (Xd hx)]
   rw[this];exact Yo
 .rw[CC sI,CC hS,CC hT,Zg];simp
 .rw[CC sJ,CC hS,CC hT,Zg];simp;exact λh=>h.elim (λz=>hS.subset z) (λz=>hT.subset z)
end KM
namespace L2
open PySem.Spec PyProof.Rows EX
section
variable {st:Stmt}
end
end L2
namespace L2
open PySem.Spec PyProof.Rows
def K0:Θ1:=[]
section
variable {K:Θ1}
def bG.k0 (h:bG K0 H a xs):bG K H a xs:=by
 rcases h with h |⟨o,its,n,hk,_⟩
 .exact .inl h
 .exact absurd hk (by show ¬ (none=some o);simp)
def aQ.k0 (h:aQ K0 H a xs):aQ K H a xs:=by
 rcases h with h |⟨o,its,n,hk,_⟩
 .exact .inl h
 .exact absurd hk (by show ¬ (none=some o);simp)
def Sq.k0 (h:bG K0 H a xs\/aQ K0 H a xs):bG K H a xs\/aQ K H a xs:=h.elim (λz=>.inl z.k0) λz=>.inr z.k0
mutual
theorem mr.k0:∀{v:V}{d:PyData},mr K0 H v d->mr K H v d
 |_,_,.cj=>.cj
 |_,_,.bl b=>.bl b
 |_,_,.int i=>.int i
 |_,_,.str x ok=>.str x ok
 |_,_,.lst h t=>.lst h.k0 (eX.k0 t)
 |_,_,.tup h t=>.tup h.k0 (eX.k0 t)
theorem eX.k0:∀{vs:List V}{ds:Ξ1},eX K0 H vs ds->eX K H vs ds
 |_,_,.nil=>.nil
 |_,_,.cons h t=>.cons (mr.k0 h) (eX.k0 t)
end
end
section
def fq.imp (h:fq X f r)(hi:∀x y H Q,r' x y H Q->r x y H Q):fq X f r':=λae s σ H x y v u Q I rx ry q=>h ae s σ H x y v u Q I rx ry (hi _ _ _ _ q)
def ca.imp (h:ca X f r)(hi:∀xs H Q,r' xs H Q->r xs H Q):ca X f r':=λae s σ H xs us Q I rx q=>h ae s σ H xs us Q I rx (hi _ _ _ q)
def AD.imp (h:AD X r)(hi:∀x y H Q,r' x y H Q->r x y H Q):AD X r':=λa b ae s σ H x y v u Q I rx ry q=>h a b ae s σ H x y v u Q I rx ry (hi _ _ _ _ q)
def lj:AD X (HB K0):=zQ.imp λ_ _ _ _ ⟨p,xs,i,v,e1,e2,h,e3,q⟩=>⟨p,xs,i,v,e1,e2,h.k0,e3,q⟩
def bW:AD X (NA K0):=QH.imp λ_ _ _ _ ⟨p,xs,i,v,e1,e2,h,e3,q⟩=>⟨p,xs,i,v,e1,e2,h.k0,e3,q⟩
def Li:List V->Hp->VK->Prop:=λxs H Q=>∃p ys,xs=[.ref p]/\(bG K0 H p ys\/aQ K0 H p ys)/\Q (.int ys.length) H
def Lc:List V->Hp->VK->Prop:=λxs H Q=>∃p ys,xs=[.ref p]/\((bG K0 H p ys/\∀l,H l=none->Q (.ref l) (aK H l (.tup ys)))\/(aQ K0 H p ys/\Q (.ref p) H))
def Dw:List V->Hp->VK->Prop:=λxs H Q=>∃p ys,xs=[.ref p]/\(bG K0 H p ys\/aQ K0 H p ys)/\∀l,H l=none->Q (.ref l) (aK H l (.lst ys))
def Lk:List V->Hp->VK->Prop:=λxs H Q=>∃p ys,xs=[.ref p]/\(bG K0 H p ys\/aQ K0 H p ys)/\ys.all gN=true/\Q (.bl (ys.any tv)) H
def Vy:List V->Hp->VK->Prop:=λxs H Q=>∃p ys,xs=[.ref p]/\(bG K0 H p ys\/aQ K0 H p ys)/\ys.all gN=true/\Q (.bl (ys.all tv)) H
def Lg:List V->Hp->VK->Prop:=λxs H Q=>∃(p:Addr) (ns:Γ3),xs=[.ref p]/\(bG K0 H p (ns.map V.int)\/aQ K0 H p (ns.map V.int))/\Q (.int ns.sum) H
def Vv:List V->Hp->VK->Prop:=λxs H Q=>∃(p:Addr) (ns:Γ3),xs=[.ref p]/\(bG K0 H p (ns.map V.int)\/aQ K0 H p (ns.map V.int))/\ns≠[]/\∀m,m∈ns->(∀n∈ns,n<=m)->Q (.int m) H
def fw:ca X (.builtin "len") Li:=ia.imp λ_ _ _ ⟨p,ys,e,h,q⟩=>⟨p,ys,e,Sq.k0 h,q⟩
def fb:ca X (.type "tuple") Lc:=pe.imp λ_ _ _ ⟨p,ys,e,h⟩=>⟨p,ys,e,h.elim (λz=>.inl ⟨z.1.k0,z.2⟩) λz=>.inr ⟨z.1.k0,z.2⟩⟩
def DR:ca X (.type "list") Dw:=sH.imp λ_ _ _ ⟨p,ys,e,h,q⟩=>⟨p,ys,e,Sq.k0 h,q⟩
def yN (hc:X.calm=true):ca X (.builtin "any") Lk:=(Gq hc).imp λ_ _ _ ⟨p,ys,e,h,q⟩=>⟨p,ys,e,Sq.k0 h,q⟩
def L6 (hc:X.calm=true):ca X (.builtin "all") Vy:=(Gs hc).imp λ_ _ _ ⟨p,ys,e,h,q⟩=>⟨p,ys,e,Sq.k0 h,q⟩
def L5 (hc:X.calm=true):ca X (.builtin "sum") Lg:=(Gp hc).imp λ_ _ _ ⟨p,ys,e,h,q⟩=>⟨p,ys,e,Sq.k0 h,q⟩
def V9 (hc:X.calm=true):ca X (.builtin "max") Vv:=(B6 hc).imp λ_ _ _ ⟨p,ys,e,h,q⟩=>⟨p,ys,e,Sq.k0 h,q⟩
def Eg (hu:X.A.units+64<cLine):fq X (compareOp .Eq) (HC K0):=(Ph hu).imp λ_ _ _ _ ⟨dx,dy,h1,h2,q⟩=>⟨dx,dy,h1.k0,h2.k0,q⟩
def Pm (hu:X.A.units+64<cLine):fq X (compareOp .NotEq) (HA K0):=(Pe hu).imp λ_ _ _ _ ⟨dx,dy,h1,h2,q⟩=>⟨dx,dy,h1.k0,h2.k0,q⟩
def yx:fq X (compareOp .In) (Sf K0 false):=Bt.imp λ_ _ _ _ ⟨p,xs,e,h,q⟩=>⟨p,xs,e,Sq.k0 h,q⟩
def Pk:fq X (compareOp .NotIn) (Sf K0 true):=sE.imp λ_ _ _ _ ⟨p,xs,e,h,q⟩=>⟨p,xs,e,Sq.k0 h,q⟩
def aa9:SlR X (TQ K0):=λae s σ H x v vl vu lo hi sl Q I rx hs pl pu ⟨a,xs,e,h,q⟩=>IH ae s σ H x v vl vu lo hi sl Q I rx hs pl pu ⟨a,xs,e,h.k0,q⟩
structure It.Le (J J':It):Prop where
 go:∀i H,J'.go i H->J.go i H
 sS:∀i H x H',J.sS i H x H'->J'.sS i H x H'
 stop:∀i H,J'.stop i H->J.stop i H
def Turn.le {K:Θ1}(T:Turn P w K tg J fp it tn)(l:J.Le J'):Turn P w K tg J' fp it tn where
 mem:=T.mem
 obj:=T.obj
 keep:=T.keep
 item:=λX hP hw hK hc i ae s σ H E I hf st hg=>bM (T.item X hP hw hK hc i ae s σ H E I hf st (l.go i H hg)) λr s1 ⟨u,hr,h⟩=>⟨u,hr,bM h λ_ s2 ⟨x,H',a1,a2,a3,a4⟩=>⟨x,H',a1,a2,l.sS _ _ _ _ a3,a4⟩⟩
 done:=λX hP hw hK hc i ae s σ H E I hf st hg=>T.done X hP hw hK hc i ae s σ H E I hf st (l.stop i H hg)
 self:=T.self
def zO {K:Θ1}:(AF K a).Le (AF K0 a):=⟨λi H ⟨xs,x,h,e⟩=>⟨xs,x,h.k0,e⟩,λi H x H' ⟨e,h⟩=>⟨e,λxs hx=>h xs hx.k0⟩,λi H ⟨xs,h,e⟩=>⟨xs,h.k0,e⟩⟩
def Ew {K:Θ1}:(AE K a).Le (AE K0 a):=⟨λi H ⟨xs,x,h,e⟩=>⟨xs,x,h.k0,e⟩,λi H x H' ⟨e,h⟩=>⟨e,λxs hx=>h xs hx.k0⟩,λi H ⟨xs,h,e⟩=>⟨xs,h.k0,e⟩⟩
def J9 {K:Θ1}:(CW K a).Le (CW K0 a):=⟨λi H ⟨xs,x,h,e⟩=>⟨xs,x,h.k0,e⟩,λi H x H' ⟨p,e1,e2,h⟩=>⟨p,e1,e2,λxs hx=>h xs hx.k0⟩,λi H ⟨xs,h,e⟩=>⟨xs,h.k0,e⟩⟩
def QA {K:Θ1}:(RY K a b).Le (RY K0 a b):=⟨λi H ⟨xs,ys,x,y,h1,h2,e⟩=>⟨xs,ys,x,y,h1.k0,h2.k0,e⟩,λi H x H' ⟨p,e1,e2,h⟩=>⟨p,e1,e2,λxs ys h1 h2=>h xs ys h1.k0 h2.k0⟩,λi H ⟨xs,ys,h1,h2,e⟩=>⟨xs,ys,h1.k0,h2.k0,e⟩⟩
def TU (hl:PE X l tl):PI X tg l (VV K0 tl):=by
 intro ae s σ H R I h;apply bM (hl ae s σ H _ I h) λv s1 ⟨x,H1,I1,r1,a,e,⟨xs,hq⟩,q⟩=>?_
 subst e;cases r1;let⟨its,rv,p,hz⟩:=I1.list hq.k0;apply wpAny_pyIter_list p.isList ⟨s1.heap.objs.size,[s1.heap.objs.size],_,AF K0 a,H1,(),I1.kept (t':=s1.toks) λb o e=>Zn _ e,(pM (K:=X.K) a _).le zO,⟨_,Zz _ rfl,(),()⟩,λb hb=>?_,q⟩;obtain rfl:b=s1.heap.objs.size:=by simpa using hb
 exact I1.ju (Ze _) (I1.cb.fresh (Ze _))
def C4 (hl:PE X l tl):PI X tg l (abC K0 tl):=by
 intro ae s σ H R I h;apply bM (hl ae s σ H _ I h) λv s1 ⟨x,H1,I1,r1,a,e,⟨xs,hq⟩,q⟩=>?_
 subst e;cases r1;let⟨its,rv,p,hz⟩:=I1.tuple hq.k0;apply wpAny_pyIter_tuple (show s1.heap.IsTuple a its.toArray from p) ⟨s1.heap.objs.size,[s1.heap.objs.size],_,AE K0 a,H1,(),I1.kept (t':=s1.toks) λb o e=>Zn _ e,(oB (K:=X.K) a _).le Ew,⟨_,Zz _ rfl,(),()⟩,λb hb=>?_,q⟩;obtain rfl:b=s1.heap.objs.size:=by simpa using hb
 exact I1.ju (Ze _) (I1.cb.fresh (Ze _))
def mG {p pos:Pos}(hg:Gl X "enumerate")(hm:X.mg "enumerate"=none)(hb:bootBuiltins "enumerate"=some (.type "enumerate"))(ha:PA X [a] ta)(hs:starEach [a] X.env=[(false,eval a X.env)]:=by rfl) :
  PI X (.Tuple tT kk qH) (.Call (.Name "enumerate" p) [a] [] pos) (VW K0 ta):=by
 intro ae s σ H R I h;apply Call_ (fZ I hg hm hb (PyProof.Rows.callWith_type1 (bM (ha pos ae s σ H _ I h) λus s1 ⟨vs,H1,I1,r1,t,e,⟨xs,hq⟩,q⟩=>?_) hs rfl));subst e;let⟨u,rfl,ru⟩:=vals1 r1;cases ru;let⟨its,rv,pl,hz⟩:=I1.tuple hq.k0;apply jW (show s1.heap.IsTuple t its.toArray from pl) λh' he MV hsz hk=>wpAny_pyIter_enum he ?_
 apply⟨s1.heap.objs.size+1,[s1.heap.objs.size+1,s1.heap.objs.size],_,CW K0 t,H1,(),I1.kept (t':=s1.toks) hk,(A5 (K:=X.K) t _ s1.heap.objs.size (Nat.succ_ne_self _)).le J9,⟨⟨_,he⟩,MV⟩,λb hb=>?_,q⟩;rcases Zj.mp hb with rfl |hb
 .exact I1.ju (Xx _) (I1.cb.fresh (Xx _))
 .obtain rfl:b=s1.heap.objs.size:=by simpa using hb
  exact I1.ju (Ze _) I1.fresh
def Jr {p pos:Pos}(hg:Gl X "zip")(hm:X.mg "zip"=none)(hb:bootBuiltins "zip"=some (.type "zip"))(ha:PA X [a,b] ta)
  (hs:starEach [a,b] X.env=[(false,eval a X.env),(false,eval b X.env)]:=by rfl) (oP:starEach [b] X.env=[(false,eval b X.env)]:=by rfl):PI X (.Tuple tT kk qH) (.Call (.Name "zip" p) [a,b] [] pos) (abB K0 ta):=by
 intro ae s σ H R I h;apply Call_ (fZ I hg hm hb (PyProof.Rows.callWith_type1 (bM (ha pos ae s σ H _ I h) λus s1 ⟨vs,H1,I1,r1,q1⟩=>?_) (by rw[hs,oP]) (by rw[oP];rfl)));let⟨x,y,e,⟨xs,KL⟩,⟨ys,Ry⟩,q⟩:=q1;subst e;cases r1 with
 |cons r rr =>
  cases rr with
  |cons r' rr =>
   cases rr
   cases r
   cases r'
   let⟨us,ru,pu,zu⟩:=I1.tuple KL.k0;let⟨vs,rv,pv,zv⟩:=I1.tuple Ry.k0;let a1:x<s1.heap.objs.size:=by let⟨_,e,_⟩:=(show s1.heap.IsTuple x us.toArray from pu);exact Zr e
   let a2:y<s1.heap.objs.size:=by let⟨_,e,_⟩:=(show s1.heap.IsTuple y vs.toArray from pv);exact Zr e
   apply B3 (show s1.heap.IsTuple x us.toArray from pu) (show s1.heap.IsTuple y vs.toArray from pv) λg z0 pI pO n1 n2 hk=>wpAny_pyIter_zip z0 ?_
   apply⟨s1.heap.objs.size+4,[s1.heap.objs.size+4,s1.heap.objs.size+2,s1.heap.objs.size+3,s1.heap.objs.size,s1.heap.objs.size+1],_,RY K0 x y,H1,(),I1.kept (t':=s1.toks) hk,(ER (K:=X.K) x y _ _ _ _ _ (zipApart_new a1 a2)).le QA,⟨z0,pI,⟨_,_,pO⟩,n1,n2⟩,λc hc=>?_,q⟩;let hge:s1.heap.objs.size<=c:=by
    simp only[Zj,Qq,or_false] at hc;rcases hc with h |h |h |h |h<;>rw[h]<;>first |exact Nat.le_add_right _ _ |exact Ze _
   exact I1.ju hge (I1.cb.fresh hge)
def jJ (hc:X.calm=true)(h:vK X es t)(hn:(assignEach es X.env).length=n:=by rfl)(m4:(assignEach es X.env).findIdx? (·.1)=none:=by rfl):PG X (.Tuple es k pos) (NQ K0 n t) :=
 λae s σ H v u Q I r ⟨a,xs,e,hq,q⟩=>OX hc h hn m4 ae s σ H v u Q I r ⟨a,xs,e,hq.k0,q⟩
def OZ (hc:X.calm=true)(h:vK X es t)(hn:(assignEach es X.env).length=n:=by rfl)(m4:(assignEach es X.env).findIdx? (·.1)=none:=by rfl):PG X (.Tuple es k pos) (UE K0 n t) :=
 λae s σ H v u Q I r ⟨a,xs,e,hq,q⟩=>OY hc h hn m4 ae s σ H v u Q I r ⟨a,xs,e,hq.k0,q⟩
def Re.k0 {K:Θ1}(h:Re K0 T x H):Re K T x H:=by
 cases x with
 |ref p =>
  rcases h with ⟨e,xs,h⟩ |⟨e,o,hk,_⟩ |h |h
  .exact .inl ⟨e,xs,h.k0⟩
  .exact absurd hk (by show ¬ (none=some o);simp)
  .exact .inr (.inr (.inl h))
  .exact .inr (.inr (.inr h))
 |_=>exact h
variable {T id:String}
def VB (pa:PlainAttrs T)(slot:Slot T name id)(Hc:typeOf (.builtin id)=pure (.type "method_descriptor"))(hm:W7 X id r)(ho:PE X o to)(ha:PA X (e::es) t)
  (ui:attributeBase o name X.env (eval o X.env)=eval o X.env:=by rfl)
  (NO:((backTo jG (starEach (e::es) X.env)).all (λx=>!x.1)&&(backToKw jG (keywordEach [] X.env)).all (λx=>x.1.isSome)
   && decide ((e::es).length+([]:List Keyword).length+(if ([]:List Keyword).isEmpty then 0 else 1)<30))=true:=by rfl)
  (uh:(qV.endLine == jG.line)=true:=by rfl) (hs:starEach (e::es) X.env=(false,eval e X.env)::starEach es X.env:=by rfl) (wY:(backTo jG (starEach es X.env)).any (·.1)=false:=by rfl) :
  PE X (.Call (.Attribute o name qV) (e::es) [] jG) (tBM K0 T r to t):=by
 intro ae s σ H Q I h;apply wpAny_Call_method_late ui NO uh rfl (bM (ho ae s σ H _ I h) λv s1 ⟨x,H1,I1,r1,ty,q1⟩=>?_);let⟨h1,h2⟩:=DW I1 r1 ty.k0;apply⟨T,id,pa,slot,Hc,h1,h2,?_⟩;let hA:=ha jG ae s1 σ H1 _ I1 q1;rw[hs] at hA ⊢;exact Calls.callWith_builtin (by show(false||(backTo jG (starEach es X.env)).any (·.1))=false;rw[wY]<;>rfl) (Calls.evalArgs_plain (bM hA λus s2 ⟨vs,H2,I2,r2,q2⟩=>hm ae s2 σ H2 x vs v us Q I2 r1 r2 q2))
end
end L2
namespace L2
open PySem.Spec PyProof.Rows KG
section
end
end L2
namespace KM
open L2
end KM
namespace KM
open L2 KG EX
section
def gB {α : Type}(f:Nat->Bool)(v:Nat->α)(i:Nat):((List.range (i+1)).filter f).map v=((List.range i).filter f).map v++if f i=true then [v i] else []:=by
 rw[vn,Zs]
 congr 1
 split<;>simp_all
end
def ap {α : Type}{ls:List α}{i:Nat}{y d:α}(h:ls[i]?=some y):ls.getD i d=y:=by simp[List.getD,h]
def zV (ns:Γ3)(x:Int):G9 (V.int x) (ns.map V.int)=ns.contains x:=by
 let h:G9 (V.int x) (ns.map V.int)=ns.any λh=>decide (h=x):=by
  unfold G9;rw[X6]
  congr 1
 grind
section
variable {s:Γ3}
end
theorem lX:∀{l:Δ1},(∀q∈l,0<=q)->0<=aH l
 |[],_=>Yo
 |q::l,h=>by
  rw[sZ];let h1:=h q Zh;let h2:=lX (l:=l) λz hz=>h z (Zk _ hz)
  exact Rat.add_nonneg h1 h2
def uy (bD:l≠[])(h:∀q∈l,0<q):0<aH l:=by
 cases l with
 |nil=>exact absurd rfl bD
 |cons q l =>
  rw[sZ];let h1:=h q Zh;let h2:=lX (l:=l) λz hz=>Zy (h z (Zk _ hz))
  generalize aH l=s at h2
  grind
end KM
namespace L2
open PySem.Spec PyProof.Rows
abbrev Ce (gf t1 i1 t2 i2:Expr)(f1 f2:Ξ2)(scope:Scope)(pos:Pos):Expr:=.ListComp gf [⟨t1,i1,f1,0⟩,⟨t2,i2,f2,0⟩] scope pos
def oM (gf t1 i1 t2 i2:Expr)(f1 f2:Ξ2)(scope:Scope)(pos:Pos)(it acc:Value)(env:Env) :
  compTurn (Ce gf t1 i1 t2 i2 f1 f2 scope pos) 0 it acc env=(do
   standAt i1.pos
   match <- pyNext it with
   |none=>pure (.done .next)
   |some v =>
    letOwnedTupleGo t1 it v
    assign t1 env v
    let mut ok:=true
    for c in f1 do
     if ok then ok <- isTrue c env (eval c env)
    if ok then
     let x <- eval i2 env
     standAt i2.pos
     let x <- foldedSetIterable i2 env x;let _ <- runOwn (.compStart (Ce gf t1 i1 t2 i2 f1 f2 scope pos) 1 (<- holding [x] (pyIter x)) acc env) env
    again (.compLoop (Ce gf t1 i1 t2 i2 f1 f2 scope pos) 0 it acc env)):=by rfl
def mj (gf t1 i1 t2 i2:Expr)(f1 f2:Ξ2)(scope:Scope)(pos:Pos)(it acc:Value)(env:Env) :
  compTurn (Ce gf t1 i1 t2 i2 f1 f2 scope pos) 1 it acc env=(do
   standAt i2.pos
   match <- pyNext it with
   |none=>pure (.done .next)
   |some v =>
    letOwnedTupleGo t2 it v
    assign t2 env v
    let mut ok:=true
    for c in f2 do
     if ok then ok <- isTrue c env (eval c env)
    if ok then
     (do let _ <- call (.builtin "list.append") [acc,<- eval gf env])
    again (.compLoop (Ce gf t1 i1 t2 i2 f1 f2 scope pos) 1 it acc env)):=by rfl
section
def jl3
  (h0:codeAny (model prog w) A (.compLoop (Ce gf t1 i1 t2 i2 f1 f2 scope pos) 1 it acc env) R s)
  (h:wpAny (model prog w) A (pyIter it) (λSx s'=>codeAny (model prog w) A (.compLoop (Ce gf t1 i1 t2 i2 f1 f2 scope pos) 1 Sx acc env) R s')
   (notedBy (model prog w) A env λx s'=>R (.error x) s') s) :
  codeAny (model prog w) A (.compStart (Ce gf t1 i1 t2 i2 f1 f2 scope pos) 1 it acc env) R s:=by
 apply codeAny_of_tree ?_;show wpAny _ _ ((compStart (Ce gf t1 i1 t2 i2 f1 f2 scope pos) 1 it acc env).onRaise (λx=>do noteFrame x env;standAt theWindowsPlace)) _ _ s;apply wpAny_notedAt ?_;unfold compStart;show wpAny _ _ (ask >>= _) _ _ s;apply Za (wpAny_askSetting (wpAny_ite ?_));split
 .first
   |exact Za (wpAny_pure (wpAny_pure (And.intro rfl h0)))
   |exact wpAny_pure (And.intro rfl h0)
 .first
   |exact Za (wpAny_rule (Za (wpAny_standAt (Za (wpAny_mono h (λSx s' h'=>wpAny_pure (And.intro rfl h')) λ_ _ x=>x)))))
   |(apply Za (wpAny_rule ?_);show wpAny _ _ (standAt i2.pos >>= _) _ _ s;exact Za (wpAny_standAt (Za (wpAny_mono h (λSx s' h'=>wpAny_pure (And.intro rfl h')) λ_ _ x=>x))))
end
def Tq (g:TG)(tt:TT)(te:TE)(J:It)(acc:Addr)(ao:St)(dm:Hp)(Z:St->Hp->Prop):Prop :=
 ∃W:Nat->Nat->St->Hp->Prop,(∃m,W 0 m ao dm)/\∀i m aR H',W i m aR H' ->
  (J.stop i H'/\Z aR H') \/
  (J.go i H'/\∃N:St->Hp->Prop,(∀cA H2,N cA H2->∃m',m'<m/\W (i+1) m' cA H2)/\∀x H2,J.sS i H' x H2->g x aR H2 λga H3=>tt ga H3 λb H4 =>
   if b=true then te ga H4 λy H5=>∃ys,H5 acc=some (.lst ys)/\ys.length<sizeLine/\N ga (aK H5 acc (.lst (ys++[y]))) else N ga H4)
def yZ (g1:TG)(Ct:TT)(Ku:TI)(g2:TG)(Cb:TT)(te:TE)(J:It)(acc:Addr)(ao:St)(dm:Hp)(Q:VK):Prop :=
 ∃W:Nat->Nat->St->Hp->Prop,(∃m,W 0 m ao (aK dm acc (.lst [])))/\∀i m aR H',W i m aR H' ->
  (J.stop i H'/\Q (.ref acc) H') \/
  (J.go i H'/\∃N:St->Hp->Prop,(∀cA H2,N cA H2->∃m',m'<m/\W (i+1) m' cA H2)/\∀x H2,J.sS i H' x H2->g1 x aR H2 λga H3=>Ct ga H3 λb H4 =>
   if b=true then Ku ga H4 λJ2 H5=>Tq g2 Cb te J2 acc ga H5 N else N ga H4)
def D2 (wi:TI)(g1:TG)(Ct:TT)(Ku:TI)(g2:TG)(Cb:TT)(te:TE)(own:Nat)(ix:List Nat):TE:=λσ H Q=>wi σ H λJ H1=>∀acc,H1 acc=none->yZ g1 Ct Ku g2 Cb te J acc (dS own ix σ) H1 Q
section
variable {g2:TG}
def xZ {RR:Value->Addr->Result->Shared->Prop}
  (B:aL X scope own cap ix) (hc:X.calm=true)
  (hb:∀C fp s H,PG (cO X scope C (own++cap) fp s H) t1 g1/\dH (cO X scope C (own++cap) fp s H) f1 Ct/\PI (cO X scope C (own++cap) fp s H) t2 i2 Ku/\PG (cO X scope C (own++cap) fp s H) t2 g2/\dH (cO X scope C (own++cap) fp s H) f2 Cb/\PE (cO X scope C (own++cap) fp s H) gf te)
  (oP:∀(env:Env) x,foldedSetIterable i2 env x=pure x)
  (I2:Inv X ae σ H2 s2) (T:Turn X.prog X.w X.K t1 J fp it tn) (fu:tn 0 s2.heap) (fk2:∀b∈fp,eR X ae H2 b)
  (q:∀acc,H2 acc=none->yZ g1 Ct Ku g2 Cb te J acc (dS own.length ix σ) H2 Q)
  (Hl:∀D C H' s' m,Inv X ae σ H' s'->Q (.ref D) H'->s'.heap.Ns C m->eR X ae H' C->RR (.ref D) C (.ok .next) s') :
  wpAny (model X.prog X.w) X.A (newList []) (λacc iA=>wpAny (model X.prog X.w) X.A (newFunctionEnv scope X.env.globals (d5 X.env scope.names []) [] X.env.qual none .none (some X.env)) (λke fJ =>
   codeAny (model X.prog X.w) X.A (.compStart (Ce gf t1 i1 t2 i2 f1 f2 scope pos) 0 (.ref it) acc { ke with scope:=relabel scope X.env }) (RR acc ke.locals) fJ) E iA) E s2:=by
 apply wpAny_newObj_type (yM (Cu:=λD σ H N=>Ku σ H λJ2 H5=>Tq g2 Cb te J2 D σ H5 N)
  (ST:=λenv D G=>wpAny (model X.prog X.w) X.A (eval i2 env) (λx fJ=>wpAny (model X.prog X.w) X.A (pyIter x) (λCJ m9=>codeAny (model X.prog X.w) X.A (.compStart (Ce gf t1 i1 t2 i2 f1 f2 scope pos) 1 CJ (.ref D) env) (λr wf=>r=.ok .next/\G wf) m9) (λ_ _=>False) fJ) (λ_ _=>False)) B hc
  (λC D=>mO (oM ..) λG R E s h k=>Za (wpAny_mono h (λx fJ ww=>Za (wpAny_standAt (Za (wpAny_of_eq (oP _ x) (Za (wpAny_holding (wpAny_mono ww (λCJ m9 wv=>Za (wpAny_runOwn (codeAny_mono wv λr wf C9=>?_))) λ_ _ h'=>h'.elim))))))) λ_ _ h'=>h'.elim))
  (λ_ _ _ _=>codeAny_compStart_list) (λC fp s H=>⟨(hb C fp s H).1,(hb C fp s H).2.1,λD P σ H' s' N G I q k=>?_⟩) I2 (I2.NI (its:=[]) (ys:=[]) (t':=s2.toks) .nil (Yb _)) T fu fk2 q Hl)
 .obtain⟨rfl,C9⟩:=C9;exact wpAny_pure (k _ C9)
 let⟨_,_,ZV,ZY,abO,he⟩:=hb C fp s H;apply bM (ZV _ s' σ H' _ I q) λv10 Rg WW=>bM WW λG8 Wx S3=>?_
 let⟨CJ,fp2,tn2,J2,XA,W2,Nc,T2,Ts,UG,q2⟩:=S3;subst W2;let LL:=LK (X:=cO X scope C (own++cap) fp s H) (ce:=Ce gf t1 i1 t2 i2 f1 f2 scope pos) (lv:=1) (acc:=.ref D) (R:=λr wf=>r=.ok .next/\G wf) hc rfl (mO (mj ..) λG R E s h k=>Za (Za (wpAny_mono h (λx fJ ww=>Za (wpAny_mono ww (λ_ m9 wv=>wpAny_pure (wpAny_pure (k _ wv))) λ_ _ h'=>h'.elim)) λ_ _ h'=>h'.elim))) ZY abO (λP σ H s N G I q k=>zZ he rfl I q k) T2 Ts (λH' hn b iq=>⟨hn b iq,(UG b iq).2⟩) (λb iq=>(UG b iq).1) Nc q2 λaR H' s' I' z=>⟨(),k _ _ _ I' z⟩
 exact jl3 LL (T2.self _ 0 Wx _ _ Ts LL)
def Fq (B:aL X scope own cap ix)(hc:X.calm=true)(hi:PI X t1 i1 wi)
  (hb:∀C fp s H,PG (cO X scope C (own++cap) fp s H) t1 g1/\dH (cO X scope C (own++cap) fp s H) f1 Ct/\PI (cO X scope C (own++cap) fp s H) t2 i2 Ku/\PG (cO X scope C (own++cap) fp s H) t2 g2/\dH (cO X scope C (own++cap) fp s H) f2 Cb/\PE (cO X scope C (own++cap) fp s H) gf te)
  (hs:∀x,foldedSetIterable i1 X.env x=pure x:=by intro _;rfl) (oP:∀(env:Env) x,foldedSetIterable i2 env x=pure x:=by intro _ _;rfl):PE X (.ListComp gf [⟨t1,i1,f1,0⟩,⟨t2,i2,f2,0⟩] scope pos) (D2 wi g1 Ct Ku g2 Cb te own.length ix):=by
 intro ae s σ H Q I h;rw[eval_ListComp];let has:∀x∈scope.names,x.2=.free->(X.env.cells.lookup x.1).isSome=true:=λx hx hk=>by
  let⟨c,e⟩:=I.ok.has x.1 (B.frees x hx hk);rw[e];rfl
 apply wpAny_comprehension_free (use:=none) rfl hs (Rv has) B.kind B.names ?_;show wpAny _ _ (eval i1 X.env) _ _ s;apply bM (hi ae s σ H _ I h) λv s1 h1=>bM h1 λG8 s2 h2=>?_
 let⟨it,fp,tn,J,H2,e,I2,T,fu,f2,q⟩:=h2;subst e;apply xZ (RR:=λacc C=>compPost (model X.prog X.w) X.A X.xe none (EP X ae σ Q) acc C) B hc hb oP I2 T fu f2 q ?_;intro D C H' s' m I' q' hn fC;apply⟨m,hn,λh' tf=>⟨.ref D,H',?_,(),q'⟩⟩;exact I'.turned (t':=s'.toks) (it:=C) (λb o CP e=>(tf.2 b CP).trans e) fC.1 fC.2.1 fC.2.2.2.1 fC.2.2.2.2.1 fC.2.2.2.2.2
end
end L2
namespace L2
open PySem.Spec PyProof.Rows KG
section
end
end L2
namespace KM
open L2 KG EX
def C6 (D:List (Δ1)):PyData:=.tuple (D.map λqs=>.tuple (qs.map qD))
end KM
namespace L2
open PySem.Spec PyProof.Rows KG
end L2
namespace KM
open L2 KG EX
theorem rT:∀{qs:Δ1},(∀q∈qs,Rb k q)->Rb (1+(k+1)*qs.length) (aH qs)
 |[],_=>kA
 |q::qs,h=>by
  let ih:=rT (qs:=qs) λz hz=>h z (Zk _ hz)
  rw[sZ];have:=Ec (h q Zh) ih;apply this.mono ?_;rw[Y4,Nat.mul_succ];omega
end KM
namespace PySem
end PySem
namespace L2
open PySem.Spec PyProof.Rows
section
end
end L2
namespace KM
open L2 KG EX
theorem n8:∀(a b:Δ1),aH (a++b)=aH a+aH b
 |[],b=>by rw[List.nil_append];show _=(0:Rat)+_;rw[Yw]
 |q::a,b=>by rw[List.cons_append,sZ,sZ,n8 a b,Rat.add_assoc]
end KM
namespace EX
open PySem.Spec PyProof.Rows
section
end
end EX
namespace L2
open PySem.Spec PyProof.Rows EX
section
end
end L2
namespace PySem
section
end
end PySem
namespace L2
open PySem.Spec PyProof.Rows
section
end
end L2
namespace L2
open PySem.Spec PyProof.Rows KG
section
end
end L2
namespace KM
open L2 KG EX
end KM
namespace PySem
section
end
end PySem
namespace L2
open PySem.Spec PyProof.Rows
section
end
end L2
namespace KM
open L2 KG EX
end KM
namespace MI
open L2 KG EX KM
mutual
inductive cz (H:Hp):V->PyData->Prop
 |cj:cz H .cj .none
 |bl (c:Bool):cz H (.bl c) (.bool c)
 |int (i:Int):cz H (.int i) (.int i)
 |str (x:Str) (ok:(PyData.str x).canLay0=true):cz H (.str x) (.str x)
 |lst {a:Addr}{xs:List V}{ds:Ξ1}:H a=some (.lst xs)->aJ H xs ds->cz H (.ref a) (.list ds)
 |tup {a:Addr}{xs:List V}{ds:Ξ1}:H a=some (.tup xs)->aJ H xs ds->cz H (.ref a) (.tuple ds)
inductive aJ (H:Hp):List V->Ξ1->Prop
 |nil:aJ H [] []
 |cons {x:V}{xs:List V}{d:PyData}{ds:Ξ1}:cz H x d->aJ H xs ds->aJ H (x::xs) (d::ds)
end
mutual
theorem cz.ar (k:aA H H'):∀{v:V}{d:PyData},cz H v d->cz H' v d
 |_,_,.cj=>.cj
 |_,_,.bl c=>.bl c
 |_,_,.int i=>.int i
 |_,_,.str x o=>.str x o
 |_,_,.lst h t=>.lst (k _ _ h) (aJ.ar k t)
 |_,_,.tup h t=>.tup (k _ _ h) (aJ.ar k t)
theorem aJ.ar (k:aA H H'):∀{vs:List V}{ds:Ξ1},aJ H vs ds->aJ H' vs ds
 |_,_,.nil=>.nil
 |_,_,.cons h t=>.cons (cz.ar k h) (aJ.ar k t)
end
mutual
theorem cz.dt:∀{v:V}{d:PyData},cz H v d->mr K H v d
 |_,_,.cj=>.cj
 |_,_,.bl c=>.bl c
 |_,_,.int i=>.int i
 |_,_,.str x o=>.str x o
 |_,_,.lst h t=>.lst (bG.of h) (aJ.dt t)
 |_,_,.tup h t=>.tup (aQ.of h) (aJ.dt t)
theorem aJ.dt {K:Θ1}{H:Hp}:∀{vs:List V}{ds:Ξ1},aJ H vs ds->eX K H vs ds
 |_,_,.nil=>.nil
 |_,_,.cons h t=>.cons (cz.dt h) (aJ.dt t)
end
theorem aJ.len:∀{vs:List V}{ds:Ξ1},aJ H vs ds->vs.length=ds.length
 |_,_,.nil=>rfl
 |_,_,.cons _ t=>by simp[aJ.len t]
theorem aJ.app:∀{vs ws:List V}{ds es:Ξ1},aJ H vs ds->aJ H ws es->aJ H (vs++ws) (ds++es)
 |_,_,_,_,.nil,g=>g
 |_,_,_,_,.cons h t,g=>.cons h (aJ.app t g)
theorem aJ.take:∀{vs:List V}{ds:Ξ1}(n:Nat),aJ H vs ds->aJ H (vs.take n) (ds.take n)
 |_,_,0,_=>by simpa using aJ.nil
 |_,_,n+1,.nil=>by simpa using aJ.nil
 |_,_,n+1,.cons h t=>.cons h (aJ.take n t)
theorem aJ.drop:∀{vs:List V}{ds:Ξ1}(n:Nat),aJ H vs ds->aJ H (vs.drop n) (ds.drop n)
 |_,_,0,h=>h
 |_,_,n+1,.nil=>by simpa using aJ.nil
 |_,_,n+1,.cons h t=>aJ.drop n t
theorem aJ.at:∀{vs:List V}{ds:Ξ1}{i:Nat}{x:V},aJ H vs ds->vs[i]?=some x->∃d,ds[i]?=some d/\cz H x d
 |_,_,0,_,.cons h t,e=>⟨_,(),by rw[<- Option.some.inj e];exact h⟩
 |_,_,i+1,x,.cons h t,e=>by
  let⟨d,h1,h2⟩:=aJ.at (i:=i) (x:=x) t (by simpa using e);exact⟨d,by simpa using h1,h2⟩
theorem aJ.get:∀{vs:List V}{ds:Ξ1}{i:Nat}{d:PyData},aJ H vs ds->ds[i]?=some d->∃x,vs[i]?=some x/\cz H x d
 |_,_,0,_,.cons h t,e=>⟨_,(),by rw[<- Option.some.inj e];exact h⟩
 |_,_,i+1,x,.cons h t,e=>by
  let⟨d,h1,h2⟩:=aJ.get (i:=i) (d:=x) t (by simpa using e);exact⟨d,by simpa using h1,h2⟩
mutual
def Cd:PyData->Bool
 |.list _=>false
 |.dict _=>false
 |.tuple ds=>qN ds
 |_=>true
def qN:Ξ1->Bool
 |[]=>true
 |d::ds=>Cd d&&qN ds
end
mutual
theorem mw (k:∀a xs,H a=some (.tup xs)->g a=some (.tup xs)):∀{v:V}{d:PyData},Cd d=true->fo b H v d->cz g v d
 |_,_,_,.cj=>.cj
 |_,_,_,.bl c=>.bl c
 |_,_,_,.int i=>.int i
 |_,_,_,.str x o=>.str x o
 |_,_,n,.lst _ h t=>by cases n
 |_,_,n,.tup h t=>.tup (k _ _ h) (pN k n t)
theorem pN {b:Addr}{H g:Hp}(k:∀a xs,H a=some (.tup xs)->g a=some (.tup xs)):∀{vs:List V}{ds:Ξ1},qN ds=true->cg b H vs ds->aJ g vs ds
 |_,_,_,.nil=>.nil
 |_,_,n,.cons h t=>by
  let n':=(Z5 _ _).mp n;exact .cons (mw k n'.1 h) (pN k n'.2 t)
end
mutual
theorem cz.R8:∀{v:V}{d:PyData},Cd d=true->cz H v d->fo b H v d
 |_,_,_,.cj=>.cj
 |_,_,_,.bl c=>.bl c
 |_,_,_,.int i=>.int i
 |_,_,_,.str x o=>.str x o
 |_,_,n,.lst h t=>by cases n
 |_,_,n,.tup h t=>.tup h (aJ.R8 n t)
theorem aJ.R8 {b:Addr}{H:Hp}:∀{vs:List V}{ds:Ξ1},qN ds=true->aJ H vs ds->cg b H vs ds
 |_,_,_,.nil=>.nil
 |_,_,n,.cons h t=>by
  let n':=(Z5 _ _).mp n;exact .cons (cz.R8 n'.1 h) (aJ.R8 n'.2 t)
end
inductive AV where
 |im (d:PyData) |own (k:Nat) |bag (j:Nat) |At (ns:Γ3) |vI (k:Nat)
abbrev Φ9(d:PyData):Option AV:=some (.im d)
abbrev bE:=List (Option (List AV))
abbrev j9:=List (Option AV)
structure Wd where
 dE:List Addr
 bK:List Addr
 bL:List (Addr×HO)
 iw:List Nat
def jn (w:Wd)(O:bE)(a:Addr):Prop:=a∈w.dE\/(∃o,(a,o)∈w.bL)\/∃(k:Nat) (c:List AV),w.bK[k]?=some a/\O[k]?=some (some c)
open Classical in
def G (w:Wd)(O:bE)(H:Hp):Hp:=λa=>if jn w O a then none else H a
def gI (h:¬ jn w O a):G w O H a=H a:=if_neg h
def eJ (h:G w O H a=some o):H a=some o/\¬ jn w O a:=by
 unfold G at h
 grind
def jo (K:Θ1)(w:Wd)(g:Hp)(v:V):AV->Prop
 |.im d=>cz g v d
 |.own k=>∃a,w.bK[k]?=some a/\k∉w.iw/\v=.ref a
 |.vI k=>∃a,w.bK[k]?=some a/\k∈w.iw/\v=.ref a
 |.bag j=>∃a,w.dE[j]?=some a/\v=.ref a
 |.At ns=>∃a,v=.ref a/\bG K g a (ns.map V.int)
def br (K:Θ1)(w:Wd)(g:Hp)(vs:List V)(xs:List AV):Prop:=vs.length=xs.length/\∀(i:Nat) v x,vs[i]?=some v->xs[i]?=some x->jo K w g v x
def pairD (p:Int×PyData):AV:=.im (.tuple [.int p.1,p.2])
inductive sR (g:Hp):List (dZ×V)->List AV->Prop
 |nil:sR g [] []
 |cons {n:Int}{v:V}{d:PyData}{kvs:List (dZ×V)}{c:List AV}:cz g v d->sR g kvs c->sR g ((Sum.inl n,v)::kvs) (pairD (n,d)::c)
def qW (K:Θ1)(w:Wd)(g:Hp)(k:Nat)(o:HO)(c:List AV):Prop:=k<w.bK.length/\((k∉w.iw/\∃vs,o=.lst vs/\br K w g vs c)\/(k∈w.iw/\∃kvs,o=.dK kvs/\sR g kvs c))
structure aB (K:Θ1)(w:Wd)(O:bE)(H:Hp):Prop where
 len:w.bK.length=O.length
 nd:w.bK.Nodup
 al:∀a∈w.bK,∃o,H a=some o
 nb:∀a∈w.dE,a∉w.bK
 hn:(w.bL.map (·.1)).Nodup
 nh:∀p∈w.bL,p.1∉w.bK/\p.1∉w.dE/\H p.1=some p.2/\∀xs,p.2≠.tup xs
 bg:∀a∈w.dE,jw H a
 vJ:∀(k:Nat) c,O[k]?=some (some c)->∃a o,w.bK[k]?=some a/\H a=some o/\qW K w (G w O H) k o c
 dl:∀k∈w.iw,k<O.length
structure iU (w:Wd)(O:bE)(H:Hp)(w':Wd)(O':bE)(H':Hp):Prop where
 bs:∃t,w'.dE=w.dE++t
 bK:∃t,w'.bK=w.bK++t
 hs:∃t,w'.bL=t++w.bL
 ar:aA (G w O H) (G w' O' H')
 dk:∀k,k<w.bK.length->(k∈w'.iw↔k∈w.iw)
structure cx (w:Wd)(O:bE)(H:Hp)(w':Wd)(O':bE)(H':Hp):Prop where
 ex:iU w O H w' O' H'
 bL:w'.bL=w.bL
def iU.refl (w:Wd)(O:bE)(H:Hp):iU w O H w O H:=⟨⟨[],by simp⟩,⟨[],by simp⟩,⟨[],by simp⟩,aA.refl _,λ_ _=>Iff.rfl⟩
def iU.trans (a:iU w O H w1 O1 H1)(b:iU w1 O1 H1 w2 O2 H2):iU w O H w2 O2 H2:=by
 let⟨t,ht⟩:=a.bK;let⟨u,hu⟩:=b.bK;let⟨t',ht'⟩:=a.hs;let⟨u',ZC⟩:=b.hs;let⟨t2,ML⟩:=a.bs;let⟨u2,ZB⟩:=b.bs;exact⟨⟨t2++u2,by rw[ZB,ML,Yr]⟩,⟨t++u,by rw[hu,ht,Yr]⟩,⟨u'++t',by rw[ZC,ht',Yr]⟩,a.ar.trans b.ar,λk hk=>(b.dk k (by rw[ht,Zt];omega)).trans (a.dk k hk)⟩
def cx.refl (w:Wd)(O:bE)(H:Hp):cx w O H w O H:=⟨iU.refl _ _ _,()⟩
def cx.trans (a:cx w O H w1 O1 H1)(b:cx w1 O1 H1 w2 O2 H2):cx w O H w2 O2 H2:=⟨a.ex.trans b.ex,b.bL.trans a.bL⟩
def iU.at (e:iU w O H w1 O1 H1){k:Nat}(h:w.bK[k]?=some a):w1.bK[k]?=some a:=by
 let⟨t,ht⟩:=e.bK;rw[ht,Zq (Zf.mp h).1];exact h
theorem jo.ex {H H1:Hp}(e:iU w O H w1 O1 H1):∀{x:AV},jo K w (G w O H) v x->jo K w1 (G w1 O1 H1) v x
 |.im d,h=>by
  exact cz.ar e.ar h
 |.own k,h=>by
  let⟨a,h1,h2,h3⟩:=h;exact⟨a,e.at h1,λz=>h2 ((e.dk k (Zf.mp h1).1).mp z),h3⟩
 |.vI k,h=>by
  let⟨a,h1,h2,h3⟩:=h;exact⟨a,e.at h1,(e.dk k (Zf.mp h1).1).mpr h2,h3⟩
 |.bag j,h=>by
  let⟨a,h1,h2⟩:=h;let⟨t,ht⟩:=e.bs;exact⟨a,by rw[ht,Zq (Zf.mp h1).1];exact h1,h2⟩
 |.At ns,h=>by
  let⟨a,h1,h2⟩:=h;exact⟨a,h1,KG.bG.ar h2 e.ar⟩
def br.ex (e:iU w O H w1 O1 H1)(h:br K w (G w O H) vs xs):br K w1 (G w1 O1 H1) vs xs:=⟨h.1,λi v x h1 h2=>(h.2 i v x h1 h2).ex e⟩
def sR.ar (s:aA g g')(h:sR g kvs c):sR g' kvs c:=by
 induction h with
 |nil=>exact .nil
 |cons t _ ih=>exact .cons (cz.ar s t) ih
def qW.ex (e:iU w O H w1 O1 H1)(h:qW K w (G w O H) k o c):qW K w1 (G w1 O1 H1) k o c:=by
 let⟨hk,h⟩:=h;apply⟨by let⟨t,ht⟩:=e.bK;rw[ht,Zt];omega,?_⟩;rcases h with ⟨h1,vs,h2,h3⟩ |⟨h1,kvs,h2,h3⟩
 .exact .inl ⟨λz=>h1 ((e.dk k hk).mp z),vs,h2,h3.ex e⟩
 .exact .inr ⟨(e.dk k hk).mpr h1,kvs,h2,h3.ar e.ar⟩
def aB.qU (r:aB K w O H)(hn:k∉w.iw)(h:O[k]?=some (some c)):∃a vs,w.bK[k]?=some a/\H a=some (.lst vs)/\br K w (G w O H) vs c:=by
 let⟨a,o,h1,h2,_,h3⟩:=r.vJ k c h;rcases h3 with ⟨_,vs,rfl,h4⟩ |⟨h4,_⟩
 .exact⟨a,vs,h1,h2,h4⟩
 .exact absurd h4 hn
def aB.UK (r:aB K w O H)(hn:k∈w.iw)(h:O[k]?=some (some c)):∃a kvs,w.bK[k]?=some a/\H a=some (.dK kvs)/\sR (G w O H) kvs c:=by
 let⟨a,o,h1,h2,_,h3⟩:=r.vJ k c h;rcases h3 with ⟨h4,_⟩ |⟨_,kvs,rfl,h4⟩
 .exact absurd hn h4
 .exact⟨a,kvs,h1,h2,h4⟩
def br.nil:br K w g [] []:=⟨(),λi v x h=>by simp at h⟩
def br.cons {K:Θ1}{w:Wd}{g:Hp}{v:V}{x:AV}{vs:List V}{xs:List AV}(h:jo K w g v x)(hs:br K w g vs xs):br K w g (v::vs) (x::xs):=by
 apply⟨by simp[hs.1],λi u y h1 h2=>?_⟩;cases i with
 |zero=>simp at h1 h2;rw[<- h1,<- h2];exact h
 |succ i=>exact hs.2 i u y (by simpa using h1) (by simpa using h2)
def br.bv (h:br K w g vs (x::xs)):∃v us,vs=v::us/\jo K w g v x/\br K w g us xs:=by
 cases vs with
 |nil=>exact absurd h.1 (by simp)
 |cons v us =>
  apply⟨v,us,(),h.2 0 v x rfl rfl,by have:=h.1;simp at this;exact this,λi u y h1 h2=>h.2 (i+1) u y (by simpa using h1) (by simpa using h2)⟩
def br.cD (h:br K w g vs []):vs=[]:=Je.mp h.1
def br.app (h:br K w g vs xs)(h':br K w g us ys):br K w g (vs++us) (xs++ys):=by
 apply⟨by simp[h.1,h'.1],λi v x h1 h2=>?_⟩;rcases Z3 i vs.length with y |y
 .rw[Zq y] at h1;rw[Zq (by rw[<- h.1];exact y)] at h2;exact h.2 i v x h1 h2
 .rw[Yi y] at h1;rw[Yi (by rw[<- h.1];exact y)] at h2;rw[<- h.1] at h2;exact h'.2 _ v x h1 h2
def br.set (h:br K w g vs xs)(hx:jo K w g v x)(j:Nat):br K w g (vs.set j v) (xs.set j x):=by
 apply⟨by simp[h.1],λi u y h1 h2=>?_⟩;by_cases e:j=i
 .subst e;let hl:=(Zf.mp h1).1;rw[Yp] at hl;rw[Yg hl] at h1;rw[Yg (by rw[<- h.1];exact hl)] at h2;rw[<- Option.some.inj h1,<- Option.some.inj h2];exact hx
 .rw[Z7 e] at h1 h2;exact h.2 i u y h1 h2
def br.at {i:Nat}(h:br K w g vs xs)(hx:xs[i]?=some x):∃v,vs[i]?=some v/\jo K w g v x:=by
 let hl:=(Zf.mp hx).1;let hv:i<vs.length:=by rw[h.1];exact hl
 exact⟨vs[i],Zc hv,h.2 i _ x (Zc hv) hx⟩
theorem aJ.W5:∀{vs:List V}{ds:Ξ1},aJ g vs ds->br K w g vs (ds.map .im)
 |_,_,.nil=>br.nil
 |_,_,.cons h t=>br.cons h (aJ.W5 t)
theorem br.tr:∀{ds:Ξ1}{vs:List V},br K w g vs (ds.map .im)->aJ g vs ds
 |[],_,h=>by rw[br.cD h];exact .nil
 |d::ds,_,h=>by
  let⟨v,us,rfl,h1,h2⟩:=br.bv h;exact .cons h1 (br.tr h2)
def bC (K:Θ1)(w:Wd)(g:Hp)(σ:St)(sl:j9):Prop:=σ.length=sl.length/\∀(i:Nat) x,sl[i]?=some (some x)->∃v,σ[i]?=some (some v)/\jo K w g v x
def bC.ex (e:iU w O H w1 O1 H1)(h:bC K w (G w O H) σ sl):bC K w1 (G w1 O1 H1) σ sl :=
 ⟨h.1,λi x hx=>by let⟨v,h1,h2⟩:=h.2 i x hx;exact⟨v,h1,h2.ex e⟩⟩
def bC.set (h:bC K w g σ sl)(hx:jo K w g v x)(j:Nat):bC K w g (σ.set j (some v)) (sl.set j (some x)):=by
 apply⟨by simp[h.1],λi y h2=>?_⟩;by_cases e:j=i
 .subst e;let hl:=(Zf.mp h2).1;rw[Yp] at hl;rw[Yg hl] at h2;let hy:x=y:=by injection (Option.some.inj h2)
  exact⟨v,by rw[Yg (by rw[h.1];exact hl)],hy▸hx⟩
 .rw[Z7 e] at h2;rw[Z7 e];exact h.2 i y h2
def dh (own:Nat)(ix:List Nat)(sl:j9):j9:=List.replicate own none++ix.map λi=>(sl[i]?).getD none
def bC.RU (h:bC K w g σ sl)(own:Nat)(ix:List Nat):bC K w g (dS own ix σ) (dh own ix sl):=by
 apply⟨by simp[dS,dh],λi x hx=>?_⟩;unfold dh at hx;unfold dS;rcases Z3 i own with y |y
 .rw[Zq (by simpa using y)] at hx;rw[Y8,if_pos y] at hx;cases Option.some.inj hx
 .rw[Yi (by simpa using y)] at hx ⊢;rw[Qn,Zo] at hx ⊢;cases hj:ix[i-own]? with
  |none=>rw[hj] at hx;cases hx
  |some j =>
   rw[hj] at hx;let vE:(sl[j]?).getD none=some x:=Option.some.inj hx;have:sl[j]?=some (some x):=by
    cases hs:sl[j]? with
    |none=>rw[hs] at vE;cases vE
    |some o=>rw[hs] at vE;exact congrArg some vE
   let⟨v,h1,h2⟩:=h.2 j x this;apply⟨v,?_,h2⟩;show some ((σ[j]?).getD none)=_;rw[h1];rfl
def Zx (K:Θ1)(QX:Addr->bE->Prop)(E:XK)(w:Wd)(O:bE)(H:Hp):Prop:=∀c O' w' H',QX c O'->iU w O H w' O' H'->aB K w' O' H'->E (.ref c) none H'
structure j5 (K:Θ1)(QX:Addr->bE->Prop)(E:XK)(w:Wd)(O:bE)(H:Hp)(σ:St)(sl:j9):Prop where
 ro:aB K w O H
 so:bC K w (G w O H) σ sl
 zx:Zx K QX E w O H
def j5.ex (c:j5 K QX E w O H σ sl)(e:iU w O H w1 O1 H1)(r:aB K w1 O1 H1):j5 K QX E w1 O1 H1 σ sl :=
 ⟨r,c.so.ex e,λk O' w' H' q e' r'=>c.zx k O' w' H' q (e.trans e') r'⟩
abbrev ME:=j9->bE->(AV->bE->Prop)->Prop
abbrev MT:=j9->bE->(Bool->bE->Prop)->Prop
abbrev MA:=j9->bE->(List AV->bE->Prop)->Prop
structure yP where
 nx:j9->bE->Prop
 rt:AV->bE->Prop
 bk:j9->bE->Prop:=λ_ _=>False
 ct:j9->bE->Prop:=λ_ _=>False
abbrev MS:=yP->j9->bE->Prop
section
variable (K:Θ1)(QX:Addr->bE->Prop)(E:XK)
def bO (M:ME):TE:=λσ H Q=>∃w O sl Q0,j5 K QX E w O H σ sl/\M sl O Q0/\∀x O' v w' H',Q0 x O'->cx w O H w' O' H'->aB K w' O' H'->jo K w' (G w' O' H') v x->Q v H'
def ir (M:MT):TT:=λσ H Q=>∃w O sl Q0,j5 K QX E w O H σ sl/\M sl O Q0/\∀c O' w' H',Q0 c O'->cx w O H w' O' H'->aB K w' O' H'->Q c H'
def vz (M:MA):TA:=λσ H Q=>∃w O sl Q0,j5 K QX E w O H σ sl/\M sl O Q0/\∀xs O' vs w' H',Q0 xs O'->cx w O H w' O' H'->aB K w' O' H'->br K w' (G w' O' H') vs xs->Q vs H'
def jB (M:MS):TS:=λD σ H=>∃w O sl D0,j5 K QX E w O H σ sl/\M D0 sl O /\
 (∀d6 O' w' H' aR,D0.nx d6 O'->j5 K QX E w' O' H' aR d6->cx w O H w' O' H'->D.nx aR H') /\
 (∀d6 O' w' H' aR,D0.bk d6 O'->j5 K QX E w' O' H' aR d6->cx w O H w' O' H'->D.bk aR H') /\
 (∀d6 O' w' H' aR,D0.ct d6 O'->j5 K QX E w' O' H' aR d6->cx w O H w' O' H'->D.ct aR H') /\
 (∀x O' w' H' v,D0.rt x O'->cx w O H w' O' H'->aB K w' O' H'->jo K w' (G w' O' H') v x->D.rt v H')
end
section
def aB.all (r:aB K w O H)(h:jn w O a):∃o,H a=some o:=by
 rcases h with h1 |⟨o,h1⟩ |⟨k,c,h1,h2⟩
 .obtain⟨c,d,e⟩:=r.bg _ h1;exact⟨_,e⟩
 .exact⟨_,(r.nh _ h1).2.2.1⟩
 .obtain⟨a',vs,e1,e2,_⟩:=r.vJ k c h2;rw[h1] at e1;cases Option.some.inj e1;exact⟨_,e2⟩
def aB.fresh (r:aB K w O H)(h:H a=none):¬ jn w O a:=λz=>by let⟨o,e⟩:=r.all z;rw[h] at e;cases e
def aB.ar (r:aB K w O H)(s:aA H H'):aB K w O H'/\cx w O H w O H'/\∀a o,H a=none->H' a=some o->G w O H' a=some o:=by
 let sg:aA (G w O H) (G w O H'):=λa o h=>by
  let⟨h1,h2⟩:=eJ h;rw[gI h2];exact s _ _ h1
 let e:cx w O H w O H':=⟨⟨⟨[],by simp⟩,⟨[],by simp⟩,⟨[],by simp⟩,sg,λ_ _=>Iff.rfl⟩,()⟩;apply⟨⟨r.len,r.nd,λa ha=>(let ⟨o,h⟩:=r.al a ha;⟨o,s _ _ h⟩),r.nb,r.hn,λp hp=>⟨(r.nh p hp).1,(r.nh p hp).2.1,s _ _ (r.nh p hp).2.2.1,(r.nh p hp).2.2.2⟩,λa ha=>jw.ar (r.bg a ha) s,λk c hk=>?_,r.dl⟩,e,λa o h1 h2=>?_⟩
 .obtain⟨a,vs,h1,h2,h3⟩:=r.vJ k c hk;exact⟨a,vs,h1,s _ _ h2,h3.ex e.ex⟩
 .rw[gI (r.fresh h1)];exact h2
def aB.draw (r:aB K w O H)(hb:b∈w.dE)(k:Kp b H H')(hB:jw H' b):aB K w O H'/\cx w O H w O H'/\∀a o,H a=none->H' a=some o->G w O H' a=some o:=by
 let sg:aA (G w O H) (G w O H'):=λa o h=>by
  let⟨h1,h2⟩:=eJ h;rw[gI h2];exact k _ _ (λz=>h2 (Or.inl (z▸hb))) h1
 let e:cx w O H w O H':=⟨⟨⟨[],by simp⟩,⟨[],by simp⟩,⟨[],by simp⟩,sg,λ_ _=>Iff.rfl⟩,()⟩;apply⟨⟨r.len,r.nd,λa ha=>(let ⟨o,h⟩:=r.al a ha;⟨o,k _ _ (λz=>r.nb b hb (z▸ha)) h⟩),r.nb,r.hn,λp hp=>⟨(r.nh p hp).1,(r.nh p hp).2.1,k _ _ (λz=>(r.nh p hp).2.1 (z▸hb)) (r.nh p hp).2.2.1,(r.nh p hp).2.2.2⟩,λa ha=>?_,λj c hk=>?_,r.dl⟩,e,λa o h1 h2=>?_⟩
 .by_cases z:a=b
  .rw[z];exact hB
  .obtain⟨x,y,q⟩:=r.bg a ha;exact⟨x,y,k _ _ z q⟩
 .obtain⟨a,vs,h1,h2,h3⟩:=r.vJ j c hk;exact⟨a,vs,h1,k _ _ (λz=>r.nb b hb (z▸Z2 h1)) h2,h3.ex e.ex⟩
 .rw[gI (r.fresh h1)];exact h2
def aB.bag (r:aB K w O H)(hp:H p=none):aB K { w with dE:=w.dE++[p] } O (aK H p (.lst [.int x,.int y]))/\cx w O H { w with dE:=w.dE++[p] } O (aK H p (.lst [.int x,.int y])):=by
 let lm:∀a,jn { w with dE:=w.dE++[p] } O a->jn w O a\/a=p:=λa h=>by
  rcases h with h |h
  .rcases Zv.mp h with h |h
   .exact .inl (.inl h)
   .exact .inr (Z1.mp h)
  .exact .inl (.inr h)
 let sg:aA (G w O H) (G { w with dE:=w.dE++[p] } O (aK H p (.lst [.int x,.int y]))):=λa o h=>by
  let⟨h1,h2⟩:=eJ h;let bD:a≠p:=λz=>by rw[z,hp] at h1;cases h1
  rw[gI (λz=>(lm a z).elim h2 bD),c7 bD];exact h1
 let e:cx w O H { w with dE:=w.dE++[p] } O (aK H p (.lst [.int x,.int y])):=⟨⟨⟨[p],rfl⟩,⟨[],by simp⟩,⟨[],by simp⟩,sg,λ_ _=>Iff.rfl⟩,rfl⟩;let So:p∉w.bK:=λz=>by let⟨u,h⟩:=r.al p z;rw[hp] at h;cases h
 apply⟨⟨r.len,r.nd,λa ha=>?_,λa ha=>?_,r.hn,λq hq=>?_,λa ha=>?_,λk c hk=>?_,r.dl⟩,e⟩
 .obtain⟨u,h⟩:=r.al a ha;let bD:a≠p:=λz=>So (z▸ha)
  exact⟨u,by rw[c7 bD];exact h⟩
 .rcases Zv.mp ha with h |h
  .exact r.nb a h
  .rw[Z1.mp h];exact So
 .obtain⟨h1,h2,h3,h4⟩:=r.nh q hq;let bD:q.1≠p:=λz=>by rw[z,hp] at h3;cases h3
  apply⟨h1,λz=>?_,by rw[c7 bD];exact h3,h4⟩;rcases Zv.mp z with h |h
  .exact h2 h
  .exact bD (Z1.mp h)
 .rcases Zv.mp ha with h |h
  .exact(r.bg a h).new hp
  .rw[Z1.mp h];exact⟨x,y,de⟩
 .obtain⟨a',vs,h1,h2,h3⟩:=r.vJ k c hk;let bD:a'≠p:=λz=>by rw[z,hp] at h2;cases h2
  exact⟨a',vs,h1,by rw[c7 bD];exact h2,h3.ex e.ex⟩
def aB.new (r:aB K w O H)(hp:H p=none):aB K w O (aK H p o)/\cx w O H w O (aK H p o)/\G w O (aK H p o) p=some o:=by
 let⟨h1,h2,h3⟩:=r.ar ((aA.refl H).new (o:=o) hp);exact⟨h1,h2,h3 p o hp de⟩
def jn.set (hk:O[k]?=some (some c)):jn w (O.set k (some c')) a↔jn w O a:=by
 let hl:=(Zf.mp hk).1;unfold jn;constructor
 .rintro(h |h |⟨j,d,h1,h2⟩)
  .exact .inl h
  .exact .inr (.inl h)
  .by_cases e:k=j
   .subst e;exact .inr (.inr ⟨k,c,h1,hk⟩)
   .rw[Z7 e] at h2;exact .inr (.inr ⟨j,d,h1,h2⟩)
 .rintro(h |h |⟨j,d,h1,h2⟩)
  .exact .inl h
  .exact .inr (.inl h)
  .by_cases e:k=j
   .subst e;exact .inr (.inr ⟨k,c',h1,Yg hl⟩)
   .exact .inr (.inr ⟨j,d,h1,by rw[Z7 e];exact h2⟩)
def aB.put (r:aB K w O H)(hk:O[k]?=some (some c))(hn:k∉w.iw)(ha:w.bK[k]?=some a)(hv:H a=some (.lst vs))(hc:br K w (G w O H) vL c') :
  aB K w (O.set k (some c')) (aK H a (.lst vL))/\cx w O H w (O.set k (some c')) (aK H a (.lst vL)):=by
 let hl:=(Zf.mp hk).1;let NN:jn w O a:=.inr (.inr ⟨k,c,ha,hk⟩);let sg:aA (G w O H) (G w (O.set k (some c')) (aK H a (.lst vL))):=λx o h=>by
  let⟨h1,h2⟩:=eJ h;let bD:x≠a:=λz=>h2 (z▸NN)
  rw[gI (λz=>h2 ((jn.set hk).mp z)),c7 bD];exact h1
 let e:cx w O H w (O.set k (some c')) (aK H a (.lst vL)):=⟨⟨⟨[],by simp⟩,⟨[],by simp⟩,⟨[],by simp⟩,sg,λ_ _=>Iff.rfl⟩,()⟩;apply⟨⟨by rw[Yp];exact r.len,r.nd,λx hx=>?_,r.nb,r.hn,λp hp=>?_,λb hb=>?_,λj d hj=>?_,λj hj=>by rw[Yp];exact r.dl j hj⟩,e⟩
 .obtain⟨o,h⟩:=r.al x hx;by_cases z:x=a
  .subst z;exact⟨_,de⟩
  .exact⟨o,by rw[c7 z];exact h⟩
 .obtain⟨h1,h2,h3,h4⟩:=r.nh p hp;let bD:p.1≠a:=λz=>h1 (z▸Z2 ha)
  exact⟨h1,h2,by rw[c7 bD];exact h3,h4⟩
 .exact(r.bg b hb).acc (λz=>r.nb b hb (z▸Z2 ha))
 .by_cases ej:k=j
  .subst ej;rw[Yg hl] at hj;let hd:c'=d:=by injection (Option.some.inj hj)
   subst hd;exact⟨a,_,ha,de,(Zf.mp ha).1,.inl ⟨hn,vL,(),hc.ex e.ex⟩⟩
  .rw[Z7 ej] at hj;let⟨a',us,h1,h2,h3⟩:=r.vJ j d hj;let bD:a'≠a:=λz=>by
    subst z;exact ej ((List.getElem?_inj (Zf.mp ha).1 r.nd).mp (ha.trans h1.symm))
   exact⟨a',us,h1,by rw[c7 bD];exact h2,h3.ex e.ex⟩
def aB.putD (r:aB K w O H)(hk:O[k]?=some (some c))(hn:k∈w.iw)(ha:w.bK[k]?=some a)(hv:H a=some (.dK vs))(hc:sR (G w O H) vL c') :
  aB K w (O.set k (some c')) (aK H a (.dK vL))/\cx w O H w (O.set k (some c')) (aK H a (.dK vL)):=by
 let hl:=(Zf.mp hk).1;let NN:jn w O a:=.inr (.inr ⟨k,c,ha,hk⟩);let sg:aA (G w O H) (G w (O.set k (some c')) (aK H a (.dK vL))):=λx o h=>by
  let⟨h1,h2⟩:=eJ h;let bD:x≠a:=λz=>h2 (z▸NN)
  rw[gI (λz=>h2 ((jn.set hk).mp z)),c7 bD];exact h1
 let e:cx w O H w (O.set k (some c')) (aK H a (.dK vL)):=⟨⟨⟨[],by simp⟩,⟨[],by simp⟩,⟨[],by simp⟩,sg,λ_ _=>Iff.rfl⟩,()⟩;apply⟨⟨by rw[Yp];exact r.len,r.nd,λx hx=>?_,r.nb,r.hn,λp hp=>?_,λb hb=>?_,λj d hj=>?_,λj hj=>by rw[Yp];exact r.dl j hj⟩,e⟩
 .obtain⟨o,h⟩:=r.al x hx;by_cases z:x=a
  .subst z;exact⟨_,de⟩
  .exact⟨o,by rw[c7 z];exact h⟩
 .obtain⟨h1,h2,h3,h4⟩:=r.nh p hp;let bD:p.1≠a:=λz=>h1 (z▸Z2 ha)
  exact⟨h1,h2,by rw[c7 bD];exact h3,h4⟩
 .exact(r.bg b hb).acc (λz=>r.nb b hb (z▸Z2 ha))
 .by_cases ej:k=j
  .subst ej;rw[Yg hl] at hj;let hd:c'=d:=by injection (Option.some.inj hj)
   subst hd;exact⟨a,_,ha,de,(Zf.mp ha).1,.inr ⟨hn,vL,(),hc.ar e.ex.ar⟩⟩
  .rw[Z7 ej] at hj;let⟨a',us,h1,h2,h3⟩:=r.vJ j d hj;let bD:a'≠a:=λz=>by
    subst z;exact ej ((List.getElem?_inj (Zf.mp ha).1 r.nd).mp (ha.trans h1.symm))
   exact⟨a',us,h1,by rw[c7 bD];exact h2,h3.ex e.ex⟩
def aB.own (r:aB K w O H)(hp:H p=none)(hc:br K w (G w O H) vs c) :
  aB K { w with bK:=w.bK++[p] } (O++[some c]) (aK H p (.lst vs))/\cx w O H { w with bK:=w.bK++[p] } (O++[some c]) (aK H p (.lst vs))/\({ w with bK:=w.bK++[p] }:Wd).bK[O.length]?=some p:=by
 let lm:∀x,jn { w with bK:=w.bK++[p] } (O++[some c]) x->jn w O x\/x=p:=λx h=>by
  rcases h with h |h |⟨j,d,h1,h2⟩
  .exact .inl (.inl h)
  .exact .inl (.inr (.inl h))
  .change (w.bK++[p])[j]?=some x at h1
   rcases Z3 j O.length with y |y
   .rw[Zq y] at h2;rw[Zq (by rw[r.len];exact y)] at h1;exact .inl (.inr (.inr ⟨j,d,h1,h2⟩))
   .let hj:=(Zf.mp h1).1;rw[Zt,r.len] at hj;have:j=O.length:=by simp at hj;omega
    subst this;rw[Yi (by rw[r.len];exact Ze _),r.len,Qc] at h1;exact .inr (by simpa using h1.symm)
 let sg:aA (G w O H) (G { w with bK:=w.bK++[p] } (O++[some c]) (aK H p (.lst vs))):=λx o h=>by
  let⟨h1,h2⟩:=eJ h;let bD:x≠p:=λz=>by rw[z,hp] at h1;cases h1
  rw[gI (λz=>(lm x z).elim h2 bD),c7 bD];exact h1
 let e:cx w O H { w with bK:=w.bK++[p] } (O++[some c]) (aK H p (.lst vs)):=⟨⟨⟨[],by simp⟩,⟨[p],rfl⟩,⟨[],by simp⟩,sg,λ_ _=>Iff.rfl⟩,rfl⟩;let tD:(w.bK++[p])[O.length]?=some p:=by rw[<- r.len];simp
 let tj:p∉w.bK:=λz=>by let⟨o,h⟩:=r.al p z;rw[hp] at h;cases h
 apply⟨⟨by simp[r.len],?_,λx hx=>?_,λb hb=>?_,r.hn,λq hq=>?_,λb hb=>(r.bg b hb).new hp,λj d hj=>?_,λj hj=>by have:=r.dl j hj;rw[Zt];omega⟩,e,tD⟩
 .show(w.bK++[p]).Nodup;rw[X0];exact⟨r.nd,by simp,λa ha b j3 e=>by rw[Z1] at j3;rw[e,j3] at ha;exact tj ha⟩
 .rcases Zv.mp hx with y |y
  .obtain⟨o,h⟩:=r.al x y;let bD:x≠p:=λz=>by rw[z,hp] at h;cases h
   exact⟨o,by rw[c7 bD];exact h⟩
  .rw[Z1.mp y];exact⟨_,de⟩
 .intro z;rcases Zv.mp z with y |y
  .exact r.nb b hb y
  .exact(r.bg b hb).ne hp (Z1.mp y)
 .obtain⟨h1,h2,h3,h4⟩:=r.nh q hq;let bD:q.1≠p:=λz=>by rw[z,hp] at h3;cases h3
  apply⟨λz=>?_,h2,by rw[c7 bD];exact h3,h4⟩;rcases Zv.mp z with y |y
  .exact h1 y
  .exact bD (Z1.mp y)
 .rcases Z3 j O.length with y |y
  .rw[Zq y] at hj;let⟨a',us,h1,h2,h3⟩:=r.vJ j d hj;let bD:a'≠p:=λz=>by rw[z,hp] at h2;cases h2
   exact⟨a',us,e.ex.at h1,by rw[c7 bD];exact h2,h3.ex e.ex⟩
  .let l5:=(Zf.mp hj).1;rw[Zt] at l5;have:j=O.length:=by simp at l5;omega
   subst this;rw[Yi (Ze _),Qc] at hj;let hd:c=d:=by injection (Option.some.inj hj)
   subst hd;exact⟨p,_,tD,de,(Zf.mp tD).1,.inl ⟨λz=>absurd (r.dl _ z) (Ym _),vs,(),hc.ex e.ex⟩⟩
def aB.hide (r:aB K w O H)(ha:H a=none)(ho:∀xs,o≠.tup xs):aB K { w with bL:=(a,o)::w.bL } O (aK H a o)/\iU w O H { w with bL:=(a,o)::w.bL } O (aK H a o):=by
 let lm:∀x,jn { w with bL:=(a,o)::w.bL } O x->jn w O x\/x=a:=λx h=>by
  rcases h with h |⟨u,h⟩ |h
  .exact .inl (.inl h)
  .rcases Zj.mp h with e |e
   .exact .inr (by injection e)
   .exact .inl (.inr (.inl ⟨u,e⟩))
  .exact .inl (.inr (.inr h))
 let sg:aA (G w O H) (G { w with bL:=(a,o)::w.bL } O (aK H a o)):=λx u h=>by
  let⟨h1,h2⟩:=eJ h;let bD:x≠a:=λz=>by rw[z,ha] at h1;cases h1
  rw[gI (λz=>(lm x z).elim h2 bD),c7 bD];exact h1
 let e:iU w O H { w with bL:=(a,o)::w.bL } O (aK H a o):=⟨⟨[],by simp⟩,⟨[],by simp⟩,⟨[(a,o)],rfl⟩,sg,λ_ _=>Iff.rfl⟩;let So:a∉w.bK:=λz=>by let⟨u,h⟩:=r.al a z;rw[ha] at h;cases h
 apply⟨⟨r.len,r.nd,λx hx=>?_,r.nb,?_,λp hp=>?_,λb hb=>(r.bg b hb).new ha,λk c hk=>?_,r.dl⟩,e⟩
 .obtain⟨u,h⟩:=r.al x hx;let bD:x≠a:=λz=>So (z▸hx)
  exact⟨u,by rw[c7 bD];exact h⟩
 .show(a::w.bL.map (·.1)).Nodup;rw[Z9];apply⟨λz=>?_,r.hn⟩;let⟨p,hp,e⟩:=Zd.mp z;have:=(r.nh p hp).2.2.1;rw[e,ha] at this;cases this
 .rcases Zj.mp hp with e |e
  .subst e;exact⟨So,λhb=>(r.bg a hb).ne ha rfl,de,ho⟩
  .obtain⟨h1,h2,h3,h4⟩:=r.nh p e;let bD:p.1≠a:=λz=>by rw[z,ha] at h3;cases h3
   exact⟨h1,h2,by rw[c7 bD];exact h3,h4⟩
 .obtain⟨a',vs,h1,h2,h3⟩:=r.vJ k c hk;let bD:a'≠a:=λz=>by rw[z,ha] at h2;cases h2
  exact⟨a',vs,h1,by rw[c7 bD];exact h2,h3.ex e⟩
def jn.eq (hh:w.bL=(a,o)::h0):jn { w with bL:=(a,o')::h0 } O x↔jn w O x:=by
 unfold jn
 grind
theorem jo.gi (hb:(w'.dE,w'.iw)=(w.dE,w.iw))(ha:w'.bK=w.bK)(s:aA g g'):∀{x:AV},jo K w g v x->jo K w' g' v x
 |.im d,h=>cz.ar s h
 |.own k,h=>by let⟨a,h1,h2,h3⟩:=h;exact⟨a,by rw[ha];exact h1,by rw[(Prod.mk.inj hb).2];exact h2,h3⟩
 |.vI k,h=>by let⟨a,h1,h2,h3⟩:=h;exact⟨a,by rw[ha];exact h1,by rw[(Prod.mk.inj hb).2];exact h2,h3⟩
 |.bag j,h=>by let⟨a,h1,h2⟩:=h;exact⟨a,by rw[(Prod.mk.inj hb).1];exact h1,h2⟩
 |.At ns,h=>by let⟨p,q1,q2⟩:=h;exact⟨p,q1,KG.bG.ar q2 s⟩
def qW.gi (hb:(w'.dE,w'.iw)=(w.dE,w.iw))(ha:w'.bK=w.bK)(s:aA g g')(h:qW K w g k o c):qW K w' g' k o c:=by
 let⟨hk,h⟩:=h;apply⟨by rw[ha];exact hk,?_⟩;rw[(Prod.mk.inj hb).2];rcases h with ⟨h1,vs,h2,h3⟩ |⟨h1,kvs,h2,h3⟩
 .exact .inl ⟨h1,vs,h2,h3.1,λi v x e1 e2=>jo.gi hb ha s (h3.2 i v x e1 e2)⟩
 .exact .inr ⟨h1,kvs,h2,h3.ar s⟩
def aB.rf (r:aB K w O H)(hh:w.bL=(a,o)::h0)(ho:∀xs,o'≠.tup xs):aB K { w with bL:=(a,o')::h0 } O (aK H a o')/\aA (G w O H) (G { w with bL:=(a,o')::h0 } O (aK H a o')):=by
 let⟨n1,n2,n3,n4⟩:=r.nh (a,o) (by rw[hh];exact Zh);let tj:=r.hn;rw[hh,Zm,Z9] at tj;let sg:aA (G w O H) (G { w with bL:=(a,o')::h0 } O (aK H a o')):=λx u h=>by
  let⟨h1,h2⟩:=eJ h;let bD:x≠a:=λz=>h2 (.inr (.inl ⟨o,by rw[hh,z];exact Zh⟩))
  rw[gI (λz=>h2 ((jn.eq hh).mp z)),c7 bD];exact h1
 apply⟨⟨r.len,r.nd,λx hx=>?_,r.nb,?_,λp hp=>?_,λb hb=>(r.bg b hb).acc (λz=>n2 (z▸hb)),λk c hk=>?_,r.dl⟩,sg⟩
 .obtain⟨u,h⟩:=r.al x hx;let bD:x≠a:=λz=>n1 (z▸hx)
  exact⟨u,by rw[c7 bD];exact h⟩
 .show(a::h0.map (·.1)).Nodup;rw[Z9];exact tj
 .rcases Zj.mp hp with e |e
  .subst e;exact⟨n1,n2,de,ho⟩
  .obtain⟨h1,h2,h3,h4⟩:=r.nh p (by rw[hh];exact Zk _ e);let bD:p.1≠a:=λz=>tj.1 (Zd.mpr ⟨p,e,z⟩)
   exact⟨h1,h2,by rw[c7 bD];exact h3,h4⟩
 .obtain⟨a',vs,h1,h2,h3⟩:=r.vJ k c hk;let bD:a'≠a:=λz=>n1 (z▸Z2 h1)
  exact⟨a',vs,h1,by rw[c7 bD];exact h2,qW.gi rfl rfl sg h3⟩
def aB.DU (r:aB K w O H)(hh:w.bL=(a,o)::h0):aB K { w with bL:=h0 } O H/\aA (G w O H) (G { w with bL:=h0 } O H)/\G { w with bL:=h0 } O H a=some o:=by
 let⟨n1,n2,n3,n4⟩:=r.nh (a,o) (by rw[hh];exact Zh);let tj:=r.hn;rw[hh,Zm,Z9] at tj;let lm:∀x,jn { w with bL:=h0 } O x->jn w O x:=λx h=>by
  rcases h with h |⟨u,h⟩ |h
  .exact .inl h
  .exact .inr (.inl ⟨u,by rw[hh];exact Zk _ h⟩)
  .exact .inr (.inr h)
 let sg:aA (G w O H) (G { w with bL:=h0 } O H):=λx u h=>by
  let⟨h1,h2⟩:=eJ h;rw[gI (λz=>h2 (lm x z))];exact h1
 apply⟨⟨r.len,r.nd,r.al,r.nb,tj.2,λp hp=>r.nh p (by rw[hh];exact Zk _ hp),r.bg,λk c hk=>?_,r.dl⟩,sg,?_⟩
 .obtain⟨a',vs,h1,h2,h3⟩:=r.vJ k c hk;exact⟨a',vs,h1,h2,qW.gi rfl rfl sg h3⟩
 .rw[gI]
  .exact n3
  .rintro(h1 |⟨u,h⟩ |⟨j,d,h1,h2⟩)
   .exact n2 h1
   .exact tj.1 (Zd.mpr ⟨_,h,()⟩)
   .exact n1 (Z2 h1)
def aB.Iw (r:aB K w O H)(hh:w.bL=(a,.lst ys)::h0)(hc:br K w (G w O H) ys c) :
  aB K { w with bL:=h0,bK:=w.bK++[a] } (O++[some c]) H/\aA (G w O H) (G { w with bL:=h0,bK:=w.bK++[a] } (O++[some c]) H)/\(w.bK++[a])[O.length]?=some a:=by
 let⟨n1,n2,n3,n4⟩:=r.nh (a,.lst ys) (by rw[hh];exact Zh);let tj:=r.hn;rw[hh,Zm,Z9] at tj;let lm:∀x,jn { w with bL:=h0,bK:=w.bK++[a] } (O++[some c]) x->jn w O x:=λx h=>by
  rcases h with h |⟨u,h⟩ |⟨j,d,h1,h2⟩
  .exact .inl h
  .exact .inr (.inl ⟨u,by rw[hh];exact Zk _ h⟩)
  .change (w.bK++[a])[j]?=some x at h1
   rcases Z3 j O.length with y |y
   .rw[Zq y] at h2;rw[Zq (by rw[r.len];exact y)] at h1;exact .inr (.inr ⟨j,d,h1,h2⟩)
   .let hj:=(Zf.mp h1).1;rw[Zt,r.len] at hj;have:j=O.length:=by simp at hj;omega
    subst this;rw[Yi (by rw[r.len];exact Ze _),r.len,Qc] at h1;let ex:x=a:=by simpa using h1.symm
    exact .inr (.inl ⟨_,by rw[hh,ex];exact Zh⟩)
 let sg:aA (G w O H) (G { w with bL:=h0,bK:=w.bK++[a] } (O++[some c]) H):=λx u h=>by
  let⟨h1,h2⟩:=eJ h;rw[gI (λz=>h2 (lm x z))];exact h1
 let tD:(w.bK++[a])[O.length]?=some a:=by rw[<- r.len];simp
 let av:∀{vs:List V}{xs:List AV},br K w (G w O H) vs xs->br K { w with bL:=h0,bK:=w.bK++[a] } (G { w with bL:=h0,bK:=w.bK++[a] } (O++[some c]) H) vs xs:=λh=>⟨h.1,λi v x e1 e2=>by
  have:=h.2 i v x e1 e2;cases x with
  |im d=>exact cz.ar sg this
  |own j=>let⟨p,q1,q2⟩:=this;exact⟨p,by show(w.bK++[a])[j]?=_;rw[Zq (Zf.mp q1).1];exact q1,q2⟩
  |vI j=>let⟨p,q1,q2⟩:=this;exact⟨p,by show(w.bK++[a])[j]?=_;rw[Zq (Zf.mp q1).1];exact q1,q2⟩
  |bag j=>exact this
  |At ns=>let⟨p,q1,q2⟩:=this;exact⟨p,q1,KG.bG.ar q2 sg⟩⟩
 apply⟨⟨by simp[r.len],?_,λx hx=>?_,λb hb z=>?_,tj.2,λp hp=>?_,r.bg,λk d hk=>?_,λj hj=>by have:=r.dl j hj;rw[Zt];omega⟩,sg,tD⟩
 .show(w.bK++[a]).Nodup;rw[X0];exact⟨r.nd,by simp,λx hx b j3 e=>by rw[Z1] at j3;rw[e,j3] at hx;exact n1 hx⟩
 .rcases Zv.mp hx with y |y
  .exact r.al x y
  .rw[Z1.mp y];exact⟨_,n3⟩
 .rcases Zv.mp z with y |y
  .exact r.nb b hb y
  .exact n2 (Z1.mp y▸hb)
 .obtain⟨h1,h2,h3,h4⟩:=r.nh p (by rw[hh];exact Zk _ hp);apply⟨λz=>?_,h2,h3,h4⟩;rcases Zv.mp z with y |y
  .exact h1 y
  .exact tj.1 (Zd.mpr ⟨p,hp,Z1.mp y⟩)
 .rcases Z3 k O.length with y |y
  .rw[Zq y] at hk;let⟨a',vs,h1,h2,h3⟩:=r.vJ k d hk;exact⟨a',vs,by show(w.bK++[a])[k]?=_;rw[Zq (Zf.mp h1).1];exact h1,h2,by
    let⟨hk0,h3⟩:=h3;apply⟨by show k<(w.bK++[a]).length;rw[Zt];omega,?_⟩;rcases h3 with ⟨z1,vL,z2,z3⟩ |⟨z1,kvs,z2,z3⟩
    .exact .inl ⟨z1,vL,z2,av z3⟩
    .exact .inr ⟨z1,kvs,z2,z3.ar sg⟩⟩
  .let l5:=(Zf.mp hk).1;rw[Zt] at l5;have:k=O.length:=by simp at l5;omega
   subst this;rw[Yi (Ze _),Qc] at hk;let hd:c=d:=by injection (Option.some.inj hk)
   subst hd;exact⟨a,_,tD,n3,(Zf.mp tD).1,.inl ⟨λz=>absurd (r.dl _ z) (Ym _),ys,(),av hc⟩⟩
def aB.Ix (r:aB K w O H)(hh:w.bL=(a,.dK ys)::h0)(hc:sR (G w O H) ys c) :
  aB K { w with bL:=h0,bK:=w.bK++[a],iw:=O.length::w.iw } (O++[some c]) H/\aA (G w O H) (G { w with bL:=h0,bK:=w.bK++[a],iw:=O.length::w.iw } (O++[some c]) H)/\(w.bK++[a])[O.length]?=some a:=by
 let⟨n1,n2,n3,n4⟩:=r.nh (a,.dK ys) (by rw[hh];exact Zh);let tj:=r.hn;rw[hh,Zm,Z9] at tj;let lm:∀x,jn { w with bL:=h0,bK:=w.bK++[a],iw:=O.length::w.iw } (O++[some c]) x->jn w O x:=λx h=>by
  rcases h with h |⟨u,h⟩ |⟨j,d,h1,h2⟩
  .exact .inl h
  .exact .inr (.inl ⟨u,by rw[hh];exact Zk _ h⟩)
  .change (w.bK++[a])[j]?=some x at h1
   rcases Z3 j O.length with y |y
   .rw[Zq y] at h2;rw[Zq (by rw[r.len];exact y)] at h1;exact .inr (.inr ⟨j,d,h1,h2⟩)
   .let hj:=(Zf.mp h1).1;rw[Zt,r.len] at hj;have:j=O.length:=by simp at hj;omega
    subst this;rw[Yi (by rw[r.len];exact Ze _),r.len,Qc] at h1;let ex:x=a:=by simpa using h1.symm
    exact .inr (.inl ⟨_,by rw[hh,ex];exact Zh⟩)
 let sg:aA (G w O H) (G { w with bL:=h0,bK:=w.bK++[a],iw:=O.length::w.iw } (O++[some c]) H):=λx u h=>by
  let⟨h1,h2⟩:=eJ h;rw[gI (λz=>h2 (lm x z))];exact h1
 let tD:(w.bK++[a])[O.length]?=some a:=by rw[<- r.len];simp
 let av:∀{vs:List V}{xs:List AV},br K w (G w O H) vs xs->br K { w with bL:=h0,bK:=w.bK++[a],iw:=O.length::w.iw } (G { w with bL:=h0,bK:=w.bK++[a],iw:=O.length::w.iw } (O++[some c]) H) vs xs:=λh=>⟨h.1,λi v x e1 e2=>by
  have:=h.2 i v x e1 e2;cases x with
  |im d=>exact cz.ar sg this
  |own j=>let⟨p,q1,q2⟩:=this;exact⟨p,by show(w.bK++[a])[j]?=_;rw[Zq (Zf.mp q1).1];exact q1,λz=>(Zj.mp z).elim (λe=>by have:=(Zf.mp q1).1;rw[r.len] at this;omega) q2.1,q2.2⟩
  |vI j=>let⟨p,q1,q2⟩:=this;exact⟨p,by show(w.bK++[a])[j]?=_;rw[Zq (Zf.mp q1).1];exact q1,Zk _ q2.1,q2.2⟩
  |bag j=>exact this
  |At ns=>let⟨p,q1,q2⟩:=this;exact⟨p,q1,KG.bG.ar q2 sg⟩⟩
 apply⟨⟨by simp[r.len],?_,λx hx=>?_,λb hb z=>?_,tj.2,λp hp=>?_,r.bg,λk d hk=>?_,λj hj=>by
  rw[Zt];rcases Zj.mp hj with z |z
  .subst z;simp
  .have:=r.dl j z;omega⟩,sg,tD⟩
 .show(w.bK++[a]).Nodup;rw[X0];exact⟨r.nd,by simp,λx hx b j3 e=>by rw[Z1] at j3;rw[e,j3] at hx;exact n1 hx⟩
 .rcases Zv.mp hx with y |y
  .exact r.al x y
  .rw[Z1.mp y];exact⟨_,n3⟩
 .rcases Zv.mp z with y |y
  .exact r.nb b hb y
  .exact n2 (Z1.mp y▸hb)
 .obtain⟨h1,h2,h3,h4⟩:=r.nh p (by rw[hh];exact Zk _ hp);apply⟨λz=>?_,h2,h3,h4⟩;rcases Zv.mp z with y |y
  .exact h1 y
  .exact tj.1 (Zd.mpr ⟨p,hp,Z1.mp y⟩)
 .rcases Z3 k O.length with y |y
  .rw[Zq y] at hk;let⟨a',vs,h1,h2,h3⟩:=r.vJ k d hk;exact⟨a',vs,by show(w.bK++[a])[k]?=_;rw[Zq (Zf.mp h1).1];exact h1,h2,by
    let⟨hk0,h3⟩:=h3;apply⟨by show k<(w.bK++[a]).length;rw[Zt];omega,?_⟩;rcases h3 with ⟨z1,vL,z2,z3⟩ |⟨z1,kvs,z2,z3⟩
    .exact .inl ⟨λz=>(Zj.mp z).elim (λe=>⋯) z1,vL,z2,av z3⟩
    .exact .inr ⟨Zk _ z1,kvs,z2,z3.ar sg⟩⟩
  .let l5:=(Zf.mp hk).1;rw[Zt] at l5;have:k=O.length:=by simp at l5;omega
   subst this;rw[Yi (Ze _),Qc] at hk;let hd:c=d:=by injection (Option.some.inj hk)
   subst hd;exact⟨a,_,tD,n3,(Zf.mp tD).1,.inr ⟨Zh,ys,(),hc.ar sg⟩⟩
def aB.m8 (r:aB K w O H):∀a xs,H a=some (.tup xs)->G w O H a=some (.tup xs):=by
 intro a xs h;rw[gI]
 .exact h
 .rintro(h1 |⟨o,h1⟩ |⟨j,d,h1,h2⟩)
  .obtain⟨c,d,e⟩:=r.bg _ h1;rw[h] at e;cases e
  .obtain⟨_,_,h3,h4⟩:=r.nh _ h1;rw[h] at h3;exact h4 xs (Option.some.inj h3).symm
  .obtain⟨a',vs,e1,e2,_⟩:=r.vJ j d h2;rw[h1] at e1;cases Option.some.inj e1;rw[h] at e2;cases Option.some.inj e2;rename_i hce;rcases hce.2 with ⟨_,vs,z,_⟩ |⟨_,kvs,z,_⟩<;>cases z
end
section
def PE.imp (h:PE X e t)(i:∀σ H Q,t' σ H Q->t σ H Q):PE X e t':=λae s σ H Q I q=>h ae s σ H Q I (i σ H Q q)
def PT.imp (h:PT X e t)(i:∀σ H Q,t' σ H Q->t σ H Q):PT X e t':=λae s σ H Q I q=>h ae s σ H Q I (i σ H Q q)
def PW.imp (h:PW X e t)(i:∀σ H Q,t' σ H Q->t σ H Q):PW X e t':=λwh ae s σ H Q I q=>h wh ae s σ H Q I (i σ H Q q)
def PA.imp (h:PA X es t)(i:∀σ H Q,t' σ H Q->t σ H Q):PA X es t':=λp ae s σ H Q I q=>h p ae s σ H Q I (i σ H Q q)
def PS.imp (h:PS X st t)(i:∀D σ H,t' D σ H->t D σ H):PS X st t':=λae s σ H D I q=>h ae s σ H D I (i D σ H q)
def jm.imp (h:jm X st t)(i:∀D σ H,t' D σ H->t D σ H):jm X st t':=λae s σ H D I q=>h ae s σ H D I (i D σ H q)
def eY (h:cz (G w O H) v (.tuple ds)):∃a xs,v=.ref a/\H a=some (.tup xs)/\aJ (G w O H) xs ds:=by
 cases h with |tup h1 h2=>exact⟨_,_,rfl,(eJ h1).1,h2⟩
def il (h:cz (G w O H) v (.list ds)):∃a xs,v=.ref a/\H a=some (.lst xs)/\aJ (G w O H) xs ds:=by
 cases h with |lst h1 h2=>exact⟨_,_,rfl,(eJ h1).1,h2⟩
def iu (h:cz g v (.int i)):v=.int i:=by cases h;rfl
def Dc (h:cz g v (.bool i)):v=.bl i:=by cases h;rfl
def LS (h:cz g v .none):v=.cj:=by cases h;rfl
theorem iJ:∀{ns:Γ3}{vs:List V},aJ g vs (ns.map .int)->vs=ns.map V.int
 |[],_,h=>by cases h;rfl
 |n::ns,_,h=>by
  cases h with |cons h1 h2=>rw[iu h1,iJ h2];rfl
theorem LU:∀{ns:List Bool}{vs:List V},aJ g vs (ns.map .bool)->vs=ns.map V.bl
 |[],_,h=>by cases h;rfl
 |n::ns,_,h=>by
  cases h with |cons h1 h2=>rw[Dc h1,LU h2];rfl
theorem wA:∀(ns:Γ3),aJ g (ns.map V.int) (ns.map .int)
 |[]=>.nil
 |n::ns=>.cons (.int n) (wA ns)
def eT (r:aB K w O H)(hp:H p=none)(h:aJ (G w O H) xs ds) :
  aB K w O (aK H p (.tup xs))/\cx w O H w O (aK H p (.tup xs))/\cz (G w O (aK H p (.tup xs))) (.ref p) (.tuple ds):=by
 let⟨r1,e1,g1⟩:=r.new (o:=.tup xs) hp;exact⟨r1,e1,.tup g1 (aJ.ar e1.ex.ar h)⟩
def mL (r:aB K w O H)(hp:H p=none)(h:aJ (G w O H) xs ds) :
  aB K w O (aK H p (.lst xs))/\cx w O H w O (aK H p (.lst xs))/\cz (G w O (aK H p (.lst xs))) (.ref p) (.list ds):=by
 let⟨r1,e1,g1⟩:=r.new (o:=.lst xs) hp;exact⟨r1,e1,.lst g1 (aJ.ar e1.ex.ar h)⟩
def lM (r:aB K w O H)(s:aA H H')(hp:H' p=some (.tup xs))(h:aJ (G w O H) xs ds) :
  aB K w O H'/\cx w O H w O H'/\cz (G w O H') (.ref p) (.tuple ds):=by
 let⟨r1,e1,g1⟩:=r.ar s;exact⟨r1,e1,.tup (r1.m8 _ _ hp) (aJ.ar e1.ex.ar h)⟩
def ah (i:Nat):ME:=λsl O Q=>match sl[i]? with
 |some (some x)=>Q x O
 |_=>False
def P1 (h:PE X e (wc i)):PE X e (bO K QX E (ah i)):=PE.imp h λσ H Q ⟨w,O,sl,Q0,c,m,q⟩=>by
 unfold ah at m;split at m
 .rename_i x hx;let⟨v,h1,h2⟩:=c.so.2 i x hx;exact⟨v,h1,q x O v w H m (cx.refl _ _ _) c.ro h2⟩
 .exact m.elim
def mC (d:PyData):ME:=λ_ O Q=>Q (.im d) O
def NF (h:PE X e (tC v))(hv:∀g,cz g v d):PE X e (bO K QX E (mC d)):=PE.imp h λσ H Q ⟨w,O,sl,Q0,c,m,q⟩=>q _ O v w H m (cx.refl _ _ _) c.ro (hv _)
def cX:PE X (.Constant (.int i) j pos) (bO K QX E (mC (.int i))):=NF bB λ_=>.int _
def km:PE X (.Constant (.bool i) j pos) (bO K QX E (mC (.bool i))):=NF t7 λ_=>.bl _
def El:PE X (.Constant .none j pos) (bO K QX E (mC .none)):=NF wL λ_=>.cj
def ay:MA:=λ_ O Q=>Q [] O
def af (Me:ME)(Ms:MA):MA:=λsl O Q=>Me sl O λx O1=>Ms sl O1 λxs O2=>Q (x::xs) O2
def bi:PA X [] (vz K QX E ay):=PA.imp bN λσ H Q ⟨w,O,sl,Q0,c,m,q⟩=>q [] O [] w H m (cx.refl _ _ _) c.ro br.nil
def aC (he:PE X e (bO K QX E Me))(hr:PA X es (vz K QX E Ms))(hs:starEach (e::es) X.env=(false,eval e X.env)::starEach es X.env:=by rfl):PA X (e::es) (vz K QX E (af Me Ms)) :=
 PA.imp (aP he hr hs) λσ H Q ⟨w,O,sl,Q0,c,m,q⟩=>⟨w,O,sl,_,c,m,λx O1 v w1 H1 h1 e1 r1 a1=>⟨w1,O1,sl,_,c.ex e1.ex r1,h1,λxs O2 vs w2 H2 h2 e2 r2 a2=>q _ O2 _ w2 H2 h2 (e1.trans e2) r2 (br.cons (a1.ex e2.ex) a2)⟩⟩
def SA:List AV->Option (Ξ1)
 |[]=>some []
 |.im d::xs=>match SA xs with
  |some ds=>some (d::ds)
  |none=>none
 |_::_=>none
theorem wX:∀{xs:List AV}{ds:Ξ1},SA xs=some ds->xs=ds.map .im
 |[],_,h=>by cases h;rfl
 |.im d::xs,ds,h=>by
  unfold SA at h;split at h
  .rename_i es he;cases h;rw[wX he];rfl
  .cases h
 |.own _::_,_,h=>by cases h
 |.bag _::_,_,h=>by cases h
 |.At _::_,_,h=>by cases h
 |.vI _::_,_,h=>by cases h
def jq (Ms:MA):ME:=λsl O Q=>Ms sl O λxs O1=>match SA xs with
 |some ds=>ds.length<=sizeLine/\Q (.im (.tuple ds)) O1
 |none=>False
def AN (Ms:MA):ME:=λsl O Q=>Ms sl O λxs O1=>match SA xs with
 |some ds=>ds.length<=sizeLine/\Q (.im (.list ds)) O1
 |none=>False
def HJ (Ms:MA):ME:=λsl O Q=>Ms sl O λxs O1=>xs.length<=sizeLine/\Q (.own O1.length) (O1++[some xs])
def vA (h:PA X es (vz K QX E Ms)):PE X (.Tuple es x1 pos) (bO K QX E (jq Ms)):=PE.imp (gO h) λσ H Q ⟨w,O,sl,Q0,c,m,q⟩=>⟨w,O,sl,_,c,m,λxs O1 vs w1 H1 h1 e1 r1 a1=>by
 split at h1
 .rename_i ds hd;let hx:=wX hd;subst hx;apply⟨by rw[a1.1,Zb];exact h1.1,λp hp=>?_⟩;let⟨r2,e2,t2⟩:=eT r1 hp (br.tr a1);exact q _ O1 _ w1 _ h1.2 (e1.trans e2) r2 t2
 .exact h1.elim⟩
def nP (h:PA X es (vz K QX E Ms)):PE X (.List es pos) (bO K QX E (AN Ms)):=PE.imp (iG h) λσ H Q ⟨w,O,sl,Q0,c,m,q⟩=>⟨w,O,sl,_,c,m,λxs O1 vs w1 H1 h1 e1 r1 a1=>by
 split at h1
 .rename_i ds hd;let hx:=wX hd;subst hx;apply⟨by rw[a1.1,Zb];exact h1.1,λp hp=>?_⟩;let⟨r2,e2,t2⟩:=mL r1 hp (br.tr a1);exact q _ O1 _ w1 _ h1.2 (e1.trans e2) r2 t2
 .exact h1.elim⟩
def wQ (h:PA X es (vz K QX E Ms)):PE X (.List es pos) (bO K QX E (HJ Ms)):=PE.imp (iG h) λσ H Q ⟨w,O,sl,Q0,c,m,q⟩=>⟨w,O,sl,_,c,m,λxs O1 vs w1 H1 h1 e1 r1 a1=>by
 apply⟨by rw[a1.1];exact h1.1,λp hp=>?_⟩;let⟨r2,e2,t2⟩:=r1.own hp a1;exact q _ _ _ _ _ h1.2 (e1.trans e2) r2 ⟨p,t2,λz=>absurd (r1.dl _ z) (Ym _),()⟩⟩
abbrev tG:=bE->AV->AV->(AV->bE->Prop)->Prop
abbrev Cq:=bE->List AV->(AV->bE->Prop)->Prop
def sQ (K:Θ1)(r:R2)(f:tG):Prop:=∀(w:Wd) (O:bE) (H:Hp) (v u:V) (x y:AV) (P:AV->bE->Prop) (Q:VK),aB K w O H->jo K w (G w O H) v x->jo K w (G w O H) u y->f O x y P ->
 (∀z q O' w' H',P q O'->cx w O H w' O' H'->aB K w' O' H'->jo K w' (G w' O' H') z q->Q z H')->r v u H Q
def CU (K:Θ1)(r:List V->Hp->VK->Prop)(f:Cq):Prop:=∀(w:Wd) (O:bE) (H:Hp) (vs:List V) (xs:List AV) (P:AV->bE->Prop) (Q:VK),aB K w O H->br K w (G w O H) vs xs->f O xs P ->
 (∀z q O' w' H',P q O'->cx w O H w' O' H'->aB K w' O' H'->jo K w' (G w' O' H') z q->Q z H')->r vs H Q
def bA (f:tG)(Ma Mb:ME):ME:=λsl O Q=>Ma sl O λx O1=>Mb sl O1 λy O2=>f O2 x y Q
def jX (f:Cq)(Ms:MA):ME:=λsl O Q=>Ms sl O λxs O1=>f O1 xs Q
def yD (lk:sQ K r f):∀σ H Q,bO K QX E (bA f Ma Mb) σ H Q->Mm r (bO K QX E Ma) (bO K QX E Mb) σ H Q :=
 λσ H Q ⟨w,O,sl,Q0,c,m,q⟩=>⟨w,O,sl,_,c,m,λx O1 v w1 H1 h1 e1 r1 a1=>⟨w1,O1,sl,_,c.ex e1.ex r1,h1,λy O2 u w2 H2 h2 e2 r2 a2 =>
  lk w2 O2 H2 v u x y _ Q r2 (a1.ex e2.ex) a2 h2 λz z' O3 w3 H3 h3 e3 r3 a3=>q _ O3 z w3 H3 h3 ((e1.trans e2).trans e3) r3 a3⟩⟩
def yy (ho:fq X (binaryOp op) r)(lk:sQ K r f)(ha:PE X a (bO K QX E Ma))(hb:PE X b (bO K QX E Mb)):PE X (.BinOp a op b pos) (bO K QX E (bA f Ma Mb)):=PE.imp (cY ho ha hb) (yD lk)
def VM (ho:AD X r)(lk:sQ K r f)(ha:PE X a (bO K QX E Ma))(hb:PE X b (bO K QX E Mb))(hs:sB b:=by exact λ_ _=>rfl):PE X (.Subscript a b pos) (bO K QX E (bA f Ma Mb)):=PE.imp (dz ho ha hb hs) (yD lk)
def lu (ho:fq X (compareOp op) r)(lk:sQ K r f)(ha:PE X a (bO K QX E Ma))(hb:PE X b (bO K QX E Mb))(hm:behindInMarks op b=false):PE X (.Compare a [op] [b] pos) (bO K QX E (bA f Ma Mb)):=PE.imp (fE ho ha hb hm) (yD lk)
def sX {id:String}(hc:ca X (.builtin id) r)(lk:CU K r f)(hg:Gl X x)(hm:X.mg x=none)(hv:bootBuiltins x=some (.builtin id))(ha:PA X (e::es) (vz K QX E Ms))(hn:x ≠ "__name__":=by decide)(vW:(x == ("__debug__" : Str))=false:=by decide)
  (he:starEach (e::es) X.env=(false,eval e X.env)::starEach es X.env:=by rfl) (jE:(backTo pos (starEach es X.env)).any (·.1)=false:=by rfl):PE X (.Call (.Name x p) (e::es) [] pos) (bO K QX E (jX f Ms)) :=
 PE.imp (vC hc hg hm hv ha hn vW he jE) λσ H Q ⟨w,O,sl,Q0,c,m,q⟩=>⟨w,O,sl,_,c,m,λxs O1 vs w1 H1 h1 e1 r1 a1=>lk w1 O1 H1 vs xs _ Q r1 a1 h1 λz z' O3 w3 H3 h3 e3 r3 a3=>q _ O3 z w3 H3 h3 (e1.trans e3) r3 a3⟩
def CF (hc:ca X (.type T) r)(lk:CU K r f)(hg:Gl X x)(hm:X.mg x=none)(hv:bootBuiltins x=some (.type T))(ha:PA X (e::es) (vz K QX E Ms))(hn:x ≠ "__name__":=by decide)(vW:(x == ("__debug__" : Str))=false:=by decide)
  (he:starEach (e::es) X.env=(false,eval e X.env)::starEach es X.env:=by rfl) (jE:(backTo pos (starEach es X.env)).any (·.1)=false:=by rfl):PE X (.Call (.Name x p) (e::es) [] pos) (bO K QX E (jX f Ms)) :=
 PE.imp (GH hc hg hm hv ha hn vW he jE) λσ H Q ⟨w,O,sl,Q0,c,m,q⟩=>⟨w,O,sl,_,c,m,λxs O1 vs w1 H1 h1 e1 r1 a1=>lk w1 O1 H1 vs xs _ Q r1 a1 h1 λz z' O3 w3 H3 h3 e3 r3 a3=>q _ O3 z w3 H3 h3 (e1.trans e3) r3 a3⟩
def dD (M:ME):MT:=λsl O Q=>M sl O λx O1=>match x with
 |.im (.bool c)=>Q c O1
 |_=>False
def uP (h:∀σ H Q,bO K QX E M σ H Q->t σ H Q):∀σ H Q,ir K QX E (dD M) σ H Q->K2 t σ H Q:=λσ H Q ⟨w,O,sl,Q0,c,m,q⟩=>h σ H _ ⟨w,O,sl,_,c,m,λx O1 v w1 H1 h1 e1 r1 a1=>by
 split at h1
 .exact⟨_,Dc a1,q _ O1 w1 H1 h1 e1 r1⟩
 .exact h1.elim⟩
def vB (ho:fq X (compareOp op) r)(lk:sQ K r f)(ha:PE X a (bO K QX E Ma))(hb:PE X b (bO K QX E Mb))(hm:behindInMarks op b=false):PT X (.Compare a [op] [b] pos) (ir K QX E (dD (bA f Ma Mb))):=PT.imp (pz ho ha hb hm) (uP (yD lk))
def fX (h:PE X e (bO K QX E M))(he:∀whole,isTrue e X.env whole=(do let v <- whole;standAt e.pos;holding [v] (truthy v)):=by intro _;rfl):PT X e (ir K QX E (dD M)):=PT.imp (fV h he) (uP λ_ _ _ z=>z)
def aaY:PyData->Bool
 |.none=>false
 |.bool b=>b
 |.int i=>i != 0
 |.str s=>(s.length:Int) != 0
 |.list xs=>!xs.isEmpty
 |.tuple xs=>!xs.isEmpty
 |.dict xs=>!xs.isEmpty
def U5:PyData->Bool
 |.str _=>false
 |_=>true
def AK (M:ME):MT:=λsl O Q=>M sl O λx O1=>match x with
 |.im d=>U5 d=true/\Q (aaY d) O1
 |_=>False
def l3 {α β : Type}{xs:List α}{ys:List β}(h:xs.length=ys.length):(!xs.isEmpty)=!ys.isEmpty:=by
 grind
def nM (h:PE X e (bO K QX E M))(he:∀whole,isTrue e X.env whole=(do let v <- whole;standAt e.pos;holding [v] (truthy v)):=by intro _;rfl):PT X e (ir K QX E (AK M)):=PT.imp (uE h he) λσ H Q ⟨w,O,sl,Q0,c,m,q⟩=>⟨w,O,sl,_,c,m,λx O1 v w1 H1 h1 e1 r1 a1=>by
 cases x with
 |im d =>
  cases d with
  |none=>exact⟨false,by rw[LS a1];rfl,q _ O1 w1 H1 h1.2 e1 r1⟩
  |bool b=>exact⟨b,by rw[Dc a1];rfl,q _ O1 w1 H1 h1.2 e1 r1⟩
  |int i=>exact⟨i != 0,by rw[iu a1];rfl,q _ O1 w1 H1 h1.2 e1 r1⟩
  |str i=>cases h1.1
  |list xs =>
   let⟨a,us,rfl,h3,h4⟩:=il a1;exact⟨!xs.isEmpty,.inl ⟨us,bG.of h3,l3 h4.len.symm⟩,q _ O1 w1 H1 h1.2 e1 r1⟩
  |tuple xs =>
   let⟨a,us,rfl,h3,h4⟩:=eY a1;exact⟨!xs.isEmpty,.inr (.inl ⟨us,aQ.of h3,l3 h4.len.symm⟩),q _ O1 w1 H1 h1.2 e1 r1⟩
  |dict xs=>cases a1
 |own k=>exact h1.elim
 |vI k=>exact h1.elim
 |bag j=>exact h1.elim
 |At ns=>exact h1.elim⟩
def wu (M:MT):MT:=λsl O Q=>M sl O λc O1=>Q (!c) O1
def lr (h:PT X a (ir K QX E M)):PT X (.UnaryOp .Not a pos) (ir K QX E (wu M)):=PT.imp (gL h) λσ H Q ⟨w,O,sl,Q0,c,m,q⟩=>⟨w,O,sl,_,c,m,λx O1 w1 H1 h1 e1 r1=>q _ O1 w1 H1 h1 e1 r1⟩
def LI (M N:MT):MT:=λsl O Q=>M sl O λc O1=>(c=true->N sl O1 Q)/\(c=false->Q false O1)
def AL (M N:MT):MT:=λsl O Q=>M sl O λc O1=>(c=true->Q true O1)/\(c=false->N sl O1 Q)
def JU (h:PT X a (ir K QX E M)):PW X (.BoolOp .And [a] pos) (ir K QX E M):=pw_and1 h
def rA (h:PT X a (ir K QX E M)):PW X (.BoolOp .Or [a] pos) (ir K QX E M):=pw_or1 h
def PU {fK:Ξ2}(ha:PT X a (ir K QX E M))(hb:PW X (.BoolOp .And (b::fK) pos) (ir K QX E N)):PW X (.BoolOp .And (a::b::fK) pos) (ir K QX E (LI M N)):=PW.imp (pw_and ha hb) λσ H Q ⟨w,O,sl,Q0,c,m,q⟩=>⟨w,O,sl,_,c,m,λx O1 w1 H1 h1 e1 r1=>by
 cases x with
 |true=>exact cL ⟨w1,O1,sl,_,c.ex e1.ex r1,h1.1 rfl,λy O2 w2 H2 h2 e2 r2=>q _ O2 w2 H2 h2 (e1.trans e2) r2⟩
 |false=>exact cP (q _ O1 w1 H1 (h1.2 rfl) e1 r1)⟩
def uc {fK:Ξ2}(ha:PT X a (ir K QX E M))(hb:PW X (.BoolOp .Or (b::fK) pos) (ir K QX E N)):PW X (.BoolOp .Or (a::b::fK) pos) (ir K QX E (AL M N)):=PW.imp (pw_or ha hb) λσ H Q ⟨w,O,sl,Q0,c,m,q⟩=>⟨w,O,sl,_,c,m,λx O1 w1 H1 h1 e1 r1=>by
 cases x with
 |true=>exact cL (q _ O1 w1 H1 (h1.1 rfl) e1 r1)
 |false=>exact cP ⟨w1,O1,sl,_,c.ex e1.ex r1,h1.2 rfl,λy O2 w2 H2 h2 e2 r2=>q _ O2 w2 H2 h2 (e1.trans e2) r2⟩⟩
def LH (M N:ME):ME:=λsl O Q=>M sl O λx O1=>match x with
 |.im (.bool c)=>(c=true->N sl O1 Q)/\(c=false->Q (.im (.bool false)) O1)
 |_=>False
def P2 {op}{a:Expr}{M:ME}{pos:Pos}(h:PE X a (bO K QX E M)):PE X (.BoolOp op [a] pos) (bO K QX E M):=wK h
def P4 {a b:Expr}{fK:Ξ2}{M N:ME}{pos:Pos}(ha:PE X a (bO K QX E M))(hb:PE X (.BoolOp .And (b::fK) pos) (bO K QX E N)):PE X (.BoolOp .And (a::b::fK) pos) (bO K QX E (LH M N)):=PE.imp (wM ha hb) λσ H Q ⟨w,O,sl,Q0,c,m,q⟩=>⟨w,O,sl,_,c,m,λx O1 v w1 H1 h1 e1 r1 a1=>by
 split at h1
 .rename_i k;apply⟨k,Dc a1,?_⟩;cases k with
  |true=>exact cL ⟨w1,O1,sl,_,c.ex e1.ex r1,h1.1 rfl,λy O2 u w2 H2 h2 e2 r2 a2=>q _ O2 u w2 H2 h2 (e1.trans e2) r2 a2⟩
  |false=>exact cP (q _ O1 _ w1 H1 (h1.2 rfl) e1 r1 (.bl false))
 .exact h1.elim⟩
def Ss (C:MT)(M N:ME):ME:=λsl O Q=>C sl O λc O1=>(c=true->M sl O1 Q)/\(c=false->N sl O1 Q)
def yz (hc:PT X t (ir K QX E C))(ha:PE X a (bO K QX E M))(hb:PE X b (bO K QX E N)):PE X (.IfExp t a b pos) (bO K QX E (Ss C M N)):=PE.imp (uH hc ha hb) λσ H Q ⟨w,O,sl,Q0,c,m,q⟩=>⟨w,O,sl,_,c,m,λx O1 w1 H1 h1 e1 r1=>by
 cases x with
 |true=>exact cL ⟨w1,O1,sl,_,c.ex e1.ex r1,h1.1 rfl,λy O2 u w2 H2 h2 e2 r2 a2=>q _ O2 u w2 H2 h2 (e1.trans e2) r2 a2⟩
 |false=>exact cP ⟨w1,O1,sl,_,c.ex e1.ex r1,h1.2 rfl,λy O2 u w2 H2 h2 e2 r2 a2=>q _ O2 u w2 H2 h2 (e1.trans e2) r2 a2⟩⟩
end
section
def qS:aA (G w O H) H:=λa o h=>(eJ h).1
def HN (C:Int->Int->Prop)(g:Int->Int->PyData):tG:=λO x y P=>match x,y with
 |.im (.int i),.im (.int j)=>C i j/\P (.im (g i j)) O
 |_,_=>False
def uf (g:Int->Int->PyData):tG:=λO x y P=>match x,y with
 |.im (.int i),.im (.int j)=>P (.im (g i j)) O
 |_,_=>False
def zN (hg:∀i j h,cz h (g i j) (f i j)):sQ K (rI C g) (HN C f):=λw O H v u x y P Q r a b hf q=>by
 unfold HN at hf;split at hf
 .exact⟨_,_,iu a,iu b,hf.1,q _ _ O w H hf.2 (cx.refl _ _ _) r (hg _ _ _)⟩
 .exact hf.elim
def oj (hg:∀i j h,cz h (g i j) (f i j)):sQ K (Cw g) (uf f):=λw O H v u x y P Q r a b hf q=>by
 unfold uf at hf;split at hf
 .exact⟨_,_,iu a,iu b,q _ _ O w H hf (cx.refl _ _ _) r (hg _ _ _)⟩
 .exact hf.elim
def o6:tG:=λO x y P=>match x,y with
 |.im (.int i),.im (.int j)=>P (.im (.int (i+j))) O
 |.im (.tuple xs),.im (.tuple ys)=>xs.length+ys.length<=sizeLine/\P (.im (.tuple (xs++ys))) O
 |.im (.list xs),.im (.list ys)=>xs.length+ys.length<=sizeLine/\P (.im (.list (xs++ys))) O
 |_,_=>False
def P9:sQ K (λx y H Q=>Cw (λi j=>.int (i+j)) x y H Q\/(Lj x y H Q\/TR x y H Q)) o6:=λw O H v u x y P Q r a b hf q=>by
 unfold o6 at hf;split at hf
 .exact .inl ⟨_,_,iu a,iu b,q _ _ O w H hf (cx.refl _ _ _) r (.int _)⟩
 .obtain⟨p1,us,rfl,h1,t1⟩:=eY a;let⟨p2,vs,rfl,h2,t2⟩:=eY b;apply .inr (.inl ⟨p1,p2,us,vs,(),(),h1,h2,by rw[t1.len,t2.len];exact hf.1,λp H' s hp=>?_⟩);let⟨r1,e1,t⟩:=lM r s hp (t1.app t2);exact q _ _ O w H' hf.2 e1 r1 t
 .obtain⟨p1,us,rfl,h1,t1⟩:=il a;let⟨p2,vs,rfl,h2,t2⟩:=il b;apply .inr (.inr ⟨p1,p2,us,vs,(),(),h1,h2,by rw[t1.len,t2.len];exact hf.1,λp hp=>?_⟩);let⟨r1,e1,t⟩:=mL r hp (t1.app t2);exact q _ _ O w _ hf.2 e1 r1 t
 .exact hf.elim
def jL (ha:PE X a (bO K QX E Ma))(hb:PE X b (bO K QX E Mb)):PE X (.BinOp a .Add b pos) (bO K QX E (bA o6 Ma Mb)):=yy (cV.or (Jw.or Pj)) P9 ha hb
abbrev Tr:tG:=uf λi j=>.int (i-j)
def PY (ha:PE X a (bO K QX E Ma))(hb:PE X b (bO K QX E Mb)):PE X (.BinOp a .Sub b pos) (bO K QX E (bA Tr Ma Mb)):=yy wN (oj λ_ _ _=>.int _) ha hb
abbrev tO:tG:=HN (λi j=>Bd 66000000 i/\Bd 66000000 j) λi j=>.int (i*j)
def jK (ha:PE X a (bO K QX E Ma))(hb:PE X b (bO K QX E Mb)):PE X (.BinOp a .Mult b pos) (bO K QX E (bA tO Ma Mb)):=yy qz (zN λ_ _ _=>.int _) ha hb
abbrev NY:tG:=HN (λ_ j=>0<j/\Bd 66000000 j) λi j=>.int (i / j)
def _root_.L2.Na.RU {X:Cx}{sc:Scope}{C:Addr}{N:Δ2}{fp:List Addr}{s:Shared}{H:Hp}(h:Na X):Na (cO X sc C N fp s H):=⟨h.1,h.2⟩
def Ej {k:Nat}(hr:cS k X.A)(hp:Na X)(ha:PE X a (bO K QX E Ma))(hb:PE X b (bO K QX E Mb)):PE X (.BinOp a .FloorDiv b pos) (bO K QX E (bA NY Ma Mb)):=yy (Fu hr hp) (zN λ_ _ _=>.int _) ha hb
abbrev ltF:tG:=uf λi j=>.bool (decide (i<j))
abbrev Hm:tG:=uf λi j=>.bool (decide (j<i))
def VQ:sQ K (Cw λi j=>.bl (decide (i<j))) ltF:=oj λ_ _ _=>.bl _
def lU:sQ K (Cw λi j=>.bl (decide (j<i))) Hm:=oj λ_ _ _=>.bl _
def RQ:PyData->PyData->Bool
 |.int i,.int j=>decide (i=j)
 |d,e=>PyData.eqv d e
def xc (d e:PyData):RQ d e=PyData.eqv d e:=by
 cases d<;>cases e<;>first |rfl |(show decide _=_;rw[PyData.eqv];rfl)
def Cm (neg:Bool):tG:=λO x y P=>match x,y with
 |.im d,.im e=>min d.depth e.depth<=60/\P (.im (.bool (if neg then !RQ d e else RQ d e))) O
 |_,_=>False
def DD:sQ K (HC K0) (Cm false):=λw O H v u x y P Q r a b hf q=>by
 unfold Cm at hf;split at hf
 .apply⟨_,_,(cz.ar qS a).dt,(cz.ar qS b).dt,hf.1,?_⟩;rw[<- xc];exact q _ _ O w H hf.2 (cx.refl _ _ _) r (.bl _)
 .exact hf.elim
def ud:sQ K (HA K0) (Cm true):=λw O H v u x y P Q r a b hf q=>by
 unfold Cm at hf;split at hf
 .apply⟨_,_,(cz.ar qS a).dt,(cz.ar qS b).dt,hf.1,?_⟩;rw[<- xc];exact q _ _ O w H hf.2 (cx.refl _ _ _) r (.bl _)
 .exact hf.elim
def Dz (hu:X.A.units+64<cLine):fq X (compareOp .Eq) (HC K0):=Eg hu
def t8 (hu:X.A.units+64<cLine):fq X (compareOp .NotEq) (HA K0):=Pm hu
def Rx (neg:Bool):tG:=λO x y P=>match x,y with
 |.im (.int i),.im (.list ds)=>∃ns:Γ3,ds=ns.map .int/\P (.im (.bool (if neg then !ns.contains i else ns.contains i))) O
 |.im (.int i),.im (.tuple ds)=>∃ns:Γ3,ds=ns.map .int/\P (.im (.bool (if neg then !ns.contains i else ns.contains i))) O
 |_,_=>False
def qk (ns:Γ3):(ns.map V.int).all iC=true:=by
 rw[Xy];exact Yd.mpr λ_ _=>rfl
def yC (neg:Bool):sQ K (Sf K0 neg) (Rx neg):=λw O H v u x y P Q r a b hf q=>by
 unfold Rx at hf;split at hf
 .obtain⟨ns,rfl,h⟩:=hf;let⟨p1,us,rfl,h1,t1⟩:=il b;rw[iJ t1] at h1;apply⟨p1,_,(),.inl (bG.of h1),by rw[iu a];rfl,qk ns,?_⟩;rw[iu a,zV];exact q _ _ O w H h (cx.refl _ _ _) r (.bl _)
 .obtain⟨ns,rfl,h⟩:=hf;let⟨p1,us,rfl,h1,t1⟩:=eY b;rw[iJ t1] at h1;apply⟨p1,_,(),.inr (aQ.of h1),by rw[iu a];rfl,qk ns,?_⟩;rw[iu a,zV];exact q _ _ O w H h (cx.refl _ _ _) r (.bl _)
 .exact hf.elim
def sj:PyData->Bool
 |.none=>true
 |_=>false
def si (neg:Bool):tG:=λO x y P=>match x,y with
 |.im d,.im .none=>P (.im (.bool (if neg then !sj d else sj d))) O
 |_,_=>False
def Kb (h:cz g v d):decide (v=.cj)=sj d:=by
 cases h<;>rfl
def J1:sQ K (λx y H Q=>y=.cj/\Q (.bl (!decide (x=.cj))) H) (si true):=λw O H v u x y P Q r a b hf q=>by
 unfold si at hf;split at hf
 .apply⟨LS b,?_⟩;rw[Kb a];exact q _ _ O w H hf (cx.refl _ _ _) r (.bl _)
 .exact hf.elim
def cv:tG:=λO x y P=>match x,y with
 |.im (.list ds),.im (.int i)=>∃d,fj ds i=some d/\P (.im d) O
 |.im (.tuple ds),.im (.int i)=>∃d,fj ds i=some d/\P (.im d) O
 |.own k,.im (.int i)=>∃c z,O[k]?=some (some c)/\fj c i=some z/\P z O
 |_,_=>False
def EK (t:aJ g xs ds)(h:fj ds i=some d):∃v,fj xs i=some v/\cz g v d:=by
 unfold fj at h ⊢;rw[t.len];cases hj:vS ds.length i with
 |none=>rw[hj] at h;cases h
 |some j =>
  rw[hj] at h;exact t.get h
def EM (t:br K w g xs ds)(h:fj ds i=some d):∃v,fj xs i=some v/\jo K w g v d:=by
 unfold fj at h ⊢;rw[t.1];cases hj:vS ds.length i with
 |none=>rw[hj] at h;cases h
 |some j =>
  rw[hj] at h;exact t.at h
def VS:sQ K (λx y H Q=>HB K0 x y H Q\/NA K0 x y H Q) cv:=λw O H v u x y P Q r a b hf q=>by
 unfold cv at hf;split at hf
 .obtain⟨d,hd,hf⟩:=hf;let⟨p1,us,rfl,h1,t1⟩:=il a;let⟨z,hz,tz⟩:=EK t1 hd;exact .inl ⟨p1,us,_,z,(),iu b,bG.of h1,hz,q _ _ O w H hf (cx.refl _ _ _) r tz⟩
 .obtain⟨d,hd,hf⟩:=hf;let⟨p1,us,rfl,h1,t1⟩:=eY a;let⟨z,hz,tz⟩:=EK t1 hd;exact .inr ⟨p1,us,_,z,(),iu b,aQ.of h1,hz,q _ _ O w H hf (cx.refl _ _ _) r tz⟩
 .obtain⟨c,d,hc,hd,hf⟩:=hf;let⟨p2,e1,tu,rfl⟩:=a;let⟨p1,us,h0,h1,t1⟩:=r.qU tu hc;rw[h0] at e1;cases Option.some.inj e1;let⟨z,hz,tz⟩:=EM t1 hd;exact .inl ⟨_,us,_,z,(),iu b,bG.of h1,hz,q _ _ O w H hf (cx.refl _ _ _) r tz⟩
 .exact hf.elim
def cB (ha:PE X a (bO K QX E Ma))(hb:PE X b (bO K QX E Mb))(hs:sB b:=by exact λ_ _=>rfl):PE X (.Subscript a b pos) (bO K QX E (bA cv Ma Mb)):=VM (lj.or bW) VS ha hb hs
abbrev MO:=j9->bE->(Option Int->bE->Prop)->Prop
def Wq (K:Θ1)(QX:Addr->bE->Prop)(E:XK)(M:MO):TO:=λσ H Q=>∃w O sl Q0,j5 K QX E w O H σ sl/\M sl O Q0/\∀c O' w' H',Q0 c O'->cx w O H w' O' H'->aB K w' O' H'->Q c H'
def HK:MO:=λ_ O Q=>Q none O
def HH (M:ME):MO:=λsl O Q=>M sl O λx O1=>match x with
 |.im (.int i)=>Q (some i) O1
 |_=>False
def PO.imp (h:PO X e t)(i:∀σ H Q,t' σ H Q->t σ H Q):PO X e t':=λae s σ H Q I q=>h ae s σ H Q I (i σ H Q q)
def sd:PO X none (Wq K QX E HK):=PO.imp Jp λσ H Q ⟨w,O,sl,Q0,c,m,q⟩=>q none O w H m (cx.refl _ _ _) c.ro
def r9 (h:PE X e (bO K QX E M)):PO X (some e) (Wq K QX E (HH M)):=PO.imp (Jo h) λσ H Q ⟨w,O,sl,Q0,c,m,q⟩=>⟨w,O,sl,_,c,m,λx O1 v w1 H1 h1 e1 r1 a1=>by
 split at h1
 .exact⟨_,iu a1,q _ O1 w1 H1 h1 e1 r1⟩
 .exact h1.elim⟩
def cutD (xs:Ξ1)(lo hi:Option Int):Ξ1:=(xs.drop (HT.oT xs.length 0 lo)).take (HT.oT xs.length xs.length hi-HT.oT xs.length 0 lo)
def QO (t:aJ g xs ds):aJ g (AR xs lo hi) (cutD ds lo hi):=by
 unfold AR cutD;rw[t.len];exact(t.drop _).take _
def ma:Cq:=λO xs P=>match xs with
 |[.im (.list ds)]=>P (.im (.int ds.length)) O
 |[.im (.tuple ds)]=>P (.im (.int ds.length)) O
 |[.own k]=>∃c,O[k]?=some (some c)/\P (.im (.int c.length)) O
 |_=>False
def fY:CU K Li ma:=λw O H vs xs P Q r a hf q=>by
 unfold ma at hf;split at hf
 .obtain⟨v,us,rfl,h1,h2⟩:=a.bv;rw[h2.cD];let⟨p1,mo,rfl,g1,t1⟩:=il h1;exact⟨p1,mo,(),.inl (bG.of g1),by rw[t1.len];exact q _ _ O w H hf (cx.refl _ _ _) r (.int _)⟩
 .obtain⟨v,us,rfl,h1,h2⟩:=a.bv;rw[h2.cD];let⟨p1,mo,rfl,g1,t1⟩:=eY h1;exact⟨p1,mo,(),.inr (aQ.of g1),by rw[t1.len];exact q _ _ O w H hf (cx.refl _ _ _) r (.int _)⟩
 .obtain⟨c,hc,hf⟩:=hf;let⟨v,us,rfl,h1,h2⟩:=a.bv;rw[h2.cD];let⟨p2,e1,tu,rfl⟩:=h1;let⟨p1,mo,h0,g1,t1⟩:=r.qU tu hc;rw[h0] at e1;cases Option.some.inj e1;exact⟨_,mo,(),.inl (bG.of g1),by rw[t1.1];exact q _ _ O w H hf (cx.refl _ _ _) r (.int _)⟩
 .exact hf.elim
def DE:Cq:=λO xs P=>match xs with
 |[.At ns]=>P (.im (.int ns.length)) O
 |_=>False
def Vw (K:Θ1):List V->Hp->VK->Prop:=λxs H Q=>∃p ys,xs=[.ref p]/\(bG K H p ys\/aQ K H p ys)/\Q (.int ys.length) H
def J5:CU K (Vw K) DE:=λw O H vs xs P Q r a hf q=>by
 unfold DE at hf;split at hf
 .obtain⟨v,us,rfl,h1,h2⟩:=a.bv;rw[h2.cD];let⟨p1,rfl,g1⟩:=h1;exact⟨p1,_,(),.inl (KG.bG.ar g1 qS),by rw[Zb];exact q _ _ O w H hf (cx.refl _ _ _) r (.int _)⟩
 .exact hf.elim
def DH (g:Int->Int->Int):Cq:=λO xs P=>match xs with
 |[.im (.int i),.im (.int j)]=>P (.im (.int (g i j))) O
 |_=>False
def J3:CU K (λxs H Q=>∃i j,xs=[.int i,.int j]/\Q (.int (if j<i then j else i)) H) (DH λi j=>if j<i then j else i):=λw O H vs xs P Q r a hf q=>by
 unfold DH at hf;split at hf
 .obtain⟨v,us,rfl,h1,h2⟩:=a.bv;let⟨v2,R4,rfl,h3,h4⟩:=h2.bv;rw[h4.cD,iu h1,iu h3];exact⟨_,_,(),q _ _ O w H hf (cx.refl _ _ _) r (.int _)⟩
 .exact hf.elim
def oW:AV->Option (Ξ1)
 |.im (.list ds)=>some ds
 |.im (.tuple ds)=>some ds
 |_=>none
def iZ (h:oW x=some ds)(a:jo K w (G w O H) v x):∃p us,v=.ref p/\(bG K0 H p us\/aQ K0 H p us)/\aJ (G w O H) us ds:=by
 unfold oW at h;split at h
 .cases h
  let⟨p,us,rfl,g1,t1⟩:=il a;exact⟨p,us,(),.inl (bG.of g1),t1⟩
 .cases h
  let⟨p,us,rfl,g1,t1⟩:=eY a;exact⟨p,us,(),.inr (aQ.of g1),t1⟩
 .cases h
def tK (f:Ξ1->(PyData->Prop)->Prop):Cq:=λO xs P=>match xs with
 |[x]=>match oW x with
  |some ds=>f ds λd=>P (.im d) O
  |none=>False
 |_=>False
def Np:Cq:=tK λds P=>∃ns:Γ3,ds=ns.map .int/\P (.int ns.sum)
def P6:CU K Lg Np:=λw O H vs xs P Q r a hf q=>by
 unfold Np tK at hf;split at hf
 .split at hf
  .rename_i ds hd;let⟨v,us,rfl,h1,h2⟩:=a.bv;rw[h2.cD];let⟨p,mo,rfl,hs,t1⟩:=iZ hd h1;let⟨ns,rfl,h⟩:=hf;rw[iJ t1] at hs;exact⟨p,ns,(),hs,q _ _ O w H h (cx.refl _ _ _) r (.int _)⟩
  .exact hf.elim
 .exact hf.elim
def Dj:Cq:=tK λds P=>∃ns:List Bool,ds=ns.map .bool/\P (.bool (ns.any id))
def QR (ns:List Bool):(ns.map V.bl).any tv=ns.any id:=by induction ns with |nil=>rfl |cons n ns ih=>simp only[Zm,Xw,ih];rfl
def Fj (ns:List Bool):(ns.map V.bl).all gN=true:=by induction ns with |nil=>rfl |cons n ns ih=>simp only[Zm,Y9,ih];rfl
def wV:CU K Lk Dj:=λw O H vs xs P Q r a hf q=>by
 unfold Dj tK at hf;split at hf
 .split at hf
  .rename_i ds hd;let⟨v,us,rfl,h1,h2⟩:=a.bv;rw[h2.cD];let⟨p,mo,rfl,hs,t1⟩:=iZ hd h1;let⟨ns,rfl,h⟩:=hf;rw[LU t1] at hs;apply⟨p,_,(),hs,Fj ns,?_⟩;rw[QR];exact q _ _ O w H h (cx.refl _ _ _) r (.bl _)
  .exact hf.elim
 .exact hf.elim
def oU:Cq:=λO xs P=>match xs with
 |[.own k]=>∃ds:Ξ1,O[k]?=some (some (ds.map .im))/\P (.im (.tuple ds)) O
 |[x]=>match oW x with
  |some ds=>P (.im (.tuple ds)) O
  |none=>False
 |_=>False
def iI:CU K Lc oU:=λw O H vs xs P Q r a hf q=>by
 unfold oU at hf;split at hf
 .obtain⟨ds,hc,hf⟩:=hf;let⟨v,us,rfl,h1,h2⟩:=a.bv;rw[h2.cD];let⟨p2,e1,tu,rfl⟩:=h1;let⟨p1,mo,h0,g1,t1⟩:=r.qU tu hc;rw[h0] at e1;cases Option.some.inj e1;apply⟨_,mo,(),.inl ⟨bG.of g1,λl hl=>?_⟩⟩;let⟨r1,e1,t2⟩:=eT r hl (br.tr t1);exact q _ _ O w _ hf e1 r1 t2
 .rename_i x _;split at hf
  .rename_i ds hd;let⟨v,us,rfl,h1,h2⟩:=a.bv;rw[h2.cD];unfold oW at hd;split at hd
   .cases hd
    let⟨p,mo,rfl,g1,t1⟩:=il h1;apply⟨p,mo,(),.inl ⟨bG.of g1,λl hl=>?_⟩⟩;let⟨r1,e1,t2⟩:=eT r hl t1;exact q _ _ O w _ hf e1 r1 t2
   .cases hd
    let⟨p,mo,rfl,g1,t1⟩:=eY h1;exact⟨p,mo,(),.inr ⟨aQ.of g1,q _ _ O w _ hf (cx.refl _ _ _) r h1⟩⟩
   .cases hd
  .exact hf.elim
 .exact hf.elim
def HL:Cq:=tK λds P=>P (.list ds)
def Eu:CU K Dw HL:=λw O H vs xs P Q r a hf q=>by
 unfold HL tK at hf;split at hf
 .split at hf
  .rename_i ds hd;let⟨v,us,rfl,h1,h2⟩:=a.bv;rw[h2.cD];let⟨p,mo,rfl,hs,t1⟩:=iZ hd h1;apply⟨p,mo,(),hs,λl hl=>?_⟩;let⟨r1,e1,t2⟩:=mL r hl t1;exact q _ _ O w _ hf e1 r1 t2
  .exact hf.elim
 .exact hf.elim
def NG:Cq:=λO xs P=>match xs with
 |[x]=>match oW x with
  |some ds=>P (.own O.length) (O++[some (ds.map .im)])
  |none=>False
 |_=>False
def J4:CU K Dw NG:=λw O H vs xs P Q r a hf q=>by
 unfold NG at hf;split at hf
 .split at hf
  .rename_i ds hd;let⟨v,us,rfl,h1,h2⟩:=a.bv;rw[h2.cD];let⟨p,mo,rfl,hs,t1⟩:=iZ hd h1;apply⟨p,mo,(),hs,λl hl=>?_⟩;let⟨r1,e1,t2⟩:=r.own hl (aJ.W5 t1);exact q _ _ _ _ _ hf e1 r1 ⟨l,t2,λz=>absurd (r.dl _ z) (Ym _),()⟩
  .exact hf.elim
 .exact hf.elim
def tyG {w:Wd}{O:bE}{H:Hp}{v:V}{d:PyData}(h:cz (G w O H) v d):iB K H v (.type (tyD d)):=by
 cases h with
 |cj=>exact .cj
 |bl c=>exact .bl c
 |int i=>exact .int i
 |str x _=>exact .str x
 |lst h1 _=>exact .lst (eJ h1).1
 |tup h1 _=>exact .tup (eJ h1).1
def tQ (f:PyData->Bool)(M:ME):ME:=λsl O Q=>M sl O λx O1=>match x with
 |.im d=>Q (.im (.bool (f d))) O1
 |_=>False
def om {f:PyData->Bool}{c:Value}{M:ME}{QX:Addr->bE->Prop}{E:XK}(hk:∀d,(∀kvs,d≠.dict kvs)->PySem.W.kitOne K (.type (tyD d)) c=some (f d)):∀σ H Q,bO K QX E (tQ f M) σ H Q->No K c (bO K QX E M) σ H Q:=λσ H Q ⟨w,O,sl,Q0,c',m,q⟩=>⟨w,O,sl,_,c',m,λx O1 v w1 H1 h1 e1 r1 a1=>by
 split at h1
 .rename_i d;exact⟨_,f d,tyG a1,hk d (λkvs z=>by subst z;cases a1),q _ O1 _ w1 H1 h1 e1 r1 (.bl _)⟩
 .exact h1.elim⟩
end
section
structure Go (M:MS)(D:yP)(sl:j9)(O:bE):Prop where
 go:M D sl O
def bu (M N:MS):MS:=λD sl O=>M { D with nx:=λd6 O'=>Go N D d6 O' } sl O
def gj:MS:=λD sl O=>D.nx sl O
def eK:jm X [] (jB K QX E gj):=jm.imp pq λD σ H ⟨w,O,sl,D0,c,m,hn,hb,hc,hr⟩=>hn sl O w H σ m c (cx.refl _ _ _)
def cZ {fK:List Stmt}(h1:PS X st (jB K QX E M))(h2:jm X fK (jB K QX E N)):jm X (st::fK) (jB K QX E (bu M N)):=jm.imp (d9 h1 h2) λD σ H ⟨w,O,sl,D0,c,m,hn,hb,hc,hr⟩ =>
 ⟨w,O,sl,_,c,m,λYH O1 w1 H1 Kt h1 c1 e1=>⟨w1,O1,YH,D0,c1,h1.go,λcr O2 w2 H2 cA h2 c2 e2=>hn cr O2 w2 H2 cA h2 c2 (e1.trans e2),λcr O2 w2 H2 cA h2 c2 e2=>hb cr O2 w2 H2 cA h2 c2 (e1.trans e2),λcr O2 w2 H2 cA h2 c2 e2=>hc cr O2 w2 H2 cA h2 c2 (e1.trans e2),λx O2 w2 H2 v h2 e2 r2 a2=>hr x O2 w2 H2 v h2 (e1.trans e2) r2 a2⟩,hb,hc,hr⟩
def dr (h1:PS X st (jB K QX E M)):jm X [st] (jB K QX E M):=dY h1
def pF (M:ME):MS:=λD sl O=>M sl O λ_ O1=>D.nx sl O1
def kD (he:PE X e (bO K QX E M))(hs:swapsWith e none pos.line X.env=pure false:=by rfl):PS X (.Expr e pos) (jB K QX E (pF M)):=PS.imp (zn he hs) λD σ H ⟨w,O,sl,D0,c,m,hn,hb,hc,hr⟩=>⟨w,O,sl,_,c,m,λx O1 v w1 H1 h1 e1 r1 a1=>hn sl O1 w1 H1 σ h1 (c.ex e1.ex r1) e1⟩
def cK (M:ME):MS:=λD sl O=>M sl O D.rt
def ib (he:PE X e (bO K QX E M)):PS X (.Return (some e) pos) (jB K QX E (cK M)):=PS.imp (gc he) λD σ H ⟨w,O,sl,D0,c,m,hn,hb,hc,hr⟩=>⟨w,O,sl,_,c,m,λx O1 v w1 H1 h1 e1 r1 a1=>hr x O1 w1 H1 v h1 e1 r1 a1⟩
def li (C:MT)(M N:MS):MS:=λD sl O=>C sl O λc O1=>(c=true->M D sl O1)/\(c=false->N D sl O1)
def ij (hc:PT X t (ir K QX E C))(ha:jm X a (jB K QX E M))(hb:jm X b (jB K QX E N)):PS X (.If t a b pos) (jB K QX E (li C M N)):=PS.imp (ph hc ha hb) λD σ H ⟨w,O,sl,D0,c,m,hn,hb,hc,hr⟩=>⟨w,O,sl,_,c,m,λx O1 w1 H1 h1 e1 r1=>by
 let z:∀{M:MS},M D0 sl O1->jB K QX E M D σ H1:=λh=>⟨w1,O1,sl,D0,c.ex e1.ex r1,h,λcr O2 w2 H2 cA h2 c2 e2=>hn cr O2 w2 H2 cA h2 c2 (e1.trans e2),λcr O2 w2 H2 cA h2 c2 e2=>hb cr O2 w2 H2 cA h2 c2 (e1.trans e2),λcr O2 w2 H2 cA h2 c2 e2=>hc cr O2 w2 H2 cA h2 c2 (e1.trans e2),λx O2 w2 H2 v h2 e2 r2 a2=>hr x O2 w2 H2 v h2 (e1.trans e2) r2 a2⟩
 cases x with
 |true=>exact cL (z (h1.1 rfl))
 |false=>exact cP (z (h1.2 rfl))⟩
abbrev MG:=AV->j9->bE->(j9->bE->Prop)->Prop
abbrev RX:=List AV->j9->bE->(j9->bE->Prop)->Prop
def oR (K:Θ1)(QX:Addr->bE->Prop)(E:XK)(mg:MG):TG:=λv σ H Q=>∃w O sl x Q0,j5 K QX E w O H σ sl/\jo K w (G w O H) v x/\mg x sl O Q0/\∀d6 O' w' H' aR,Q0 d6 O'->j5 K QX E w' O' H' aR d6->cx w O H w' O' H'->Q aR H'
def CY (K:Θ1)(QX:Addr->bE->Prop)(E:XK)(mg:RX):M9:=λvs σ H Q=>∃w O sl xs Q0,j5 K QX E w O H σ sl/\br K w (G w O H) vs xs/\mg xs sl O Q0/\∀d6 O' w' H' aR,Q0 d6 O'->j5 K QX E w' O' H' aR d6->cx w O H w' O' H'->Q aR H'
def PG.imp (h:PG X tg t)(i:∀v σ H Q,t' v σ H Q->t v σ H Q):PG X tg t':=λae s σ H v u Q I r q=>h ae s σ H v u Q I r (i v σ H Q q)
def vK.imp (h:vK X tg t)(i:∀v σ H Q,t' v σ H Q->t v σ H Q):vK X tg t':=λae s σ H v u Q I r q=>h ae s σ H v u Q I r (i v σ H Q q)
def bh (i:Nat):MG:=λx sl O Q=>Q (sl.set i (some x)) O
def j5.put (c:j5 K QX E w O H σ sl)(a:jo K w (G w O H) v x)(i:Nat):j5 K QX E w O H (σ.set i (some v)) (sl.set i (some x)):=⟨c.ro,c.so.set a i,c.zx⟩
def gZ (h:PG X tg (eZ i)):PG X tg (oR K QX E (bh i)):=PG.imp h λv σ H Q ⟨w,O,sl,x,Q0,c,a,m,q⟩=>q _ O w H _ m (c.put a i) (cx.refl _ _ _)
def bY:RX:=λxs sl O Q=>match xs with
 |[]=>Q sl O
 |_=>False
def aE (t:MG)(u:RX):RX:=λxs sl O Q=>match xs with
 |x::r=>t x sl O λd6 O'=>u r d6 O' Q
 |_=>False
def sW:vK X [] (CY K QX E bY):=vK.imp gU λv σ H Q ⟨w,O,sl,x,Q0,c,a,m,q⟩=>by
 unfold bY at m;split at m
 .exact⟨a.cD,q _ O w H _ m c (cx.refl _ _ _)⟩
 .exact m.elim
def iy (h1:PG X e (oR K QX E t))(h2:vK X es (CY K QX E u))(hs:(assignEach (e::es) X.env).map (·.2)=assign e X.env::(assignEach es X.env).map (·.2):=by rfl):vK X (e::es) (CY K QX E (aE t u)):=vK.imp (ye h1 h2 hs) λv σ H Q ⟨w,O,sl,x,Q0,c,a,m,q⟩=>by
 unfold aE at m;split at m
 .obtain⟨v1,us,rfl,a1,a2⟩:=a.bv;exact⟨v1,us,(),w,O,sl,_,_,c,a1,m,λYH O1 w1 H1 Kt h1 c1 e1=>⟨w1,O1,YH,_,_,c1,a2.ex e1.ex,h1,λcr O2 w2 H2 cA h2 c2 e2=>q cr O2 w2 H2 cA h2 c2 (e1.trans e2)⟩⟩
 .exact m.elim
def kZ (n:Nat)(t:RX):MG:=λx sl O Q=>match oW x with
 |some ds=>ds.length=n/\t (ds.map .im) sl O Q
 |none=>False
def PG.or (h:PG X tg t)(h':PG X tg t'):PG X tg (λv σ H Q=>t v σ H Q\/t' v σ H Q):=λae s σ H v u Q I r q=>q.elim (λz=>h ae s σ H v u Q I r z) λz=>h' ae s σ H v u Q I r z
def sU (hc:X.calm=true)(h:vK X es (CY K QX E t))(hn:(assignEach es X.env).length=n:=by rfl)(m4:(assignEach es X.env).findIdx? (·.1)=none:=by rfl):PG X (.Tuple es k pos) (oR K QX E (kZ n t)) :=
 PG.imp (PG.or (jJ hc h hn m4) (OZ hc h hn m4)) λv σ H Q ⟨w,O,sl,x,Q0,c,a,m,q⟩=>by
  unfold kZ at m;split at m
  .rename_i ds hd;let⟨m1,m2⟩:=m;let⟨p,us,rfl,hs,t1⟩:=iZ hd a;let hl:us.length=n:=by rw[t1.len];exact m1
   let hq:CY K QX E t us σ H Q:=⟨w,O,sl,_,_,c,aJ.W5 t1,m2,q⟩;rcases hs with hs |hs
   .exact .inr ⟨p,us,(),hs,hl,hq⟩
   .exact .inl ⟨p,us,(),hs,hl,hq⟩
  .exact m.elim
def bI (M:ME)(mg:MG):MS:=λD sl O=>M sl O λx O1=>mg x sl O1 D.nx
def iN (ht:∀σ H Q,bO K QX E M σ H Q->t σ H Q)(hg:∀v σ H Q,oR K QX E mg v σ H Q->g v σ H Q):∀D σ H,jB K QX E (bI M mg) D σ H->CZ t g D σ H:=λD σ H ⟨w,O,sl,D0,c,m,hn,hb,hc,hr⟩ =>
 ht σ H _ ⟨w,O,sl,_,c,m,λx O1 v w1 H1 h1 e1 r1 a1=>hg v σ H1 _ ⟨w1,O1,sl,x,_,c.ex e1.ex r1,a1,h1,λcr O2 w2 H2 cA h2 c2 e2=>hn cr O2 w2 H2 cA h2 c2 (e1.trans e2)⟩⟩
def nN (he:PE X e (bO K QX E M))(hg:PG X tg (oR K QX E mg))(hs:swapsWithSole [tg] e pos.line X.env=pure false:=by rfl)(hw:swappedStores [tg] e X.env=pure none:=by rfl)(h1:(assignEach [tg] X.env).map (·.2)=[assign tg X.env]:=by rfl):PS X (.Assign [tg] e pos) (jB K QX E (bI M mg)):=PS.imp (jI he hg hs hw h1) (iN (λ_ _ _ z=>z) λ_ _ _ _ z=>z)
def kI:∀v σ H Q,oR K QX E (bh i) v σ H Q->eZ i v σ H Q:=λv σ H Q ⟨w,O,sl,x,Q0,c,a,m,q⟩=>q _ O w H _ m (c.put a i) (cx.refl _ _ _)
def rB (hN:X.N.Nodup)(hi:X.N[i]?=some x)(hx:Loc X.env.scope x)(he:PE X e (bO K QX E M))(hs:swapsWith e (some (.Name x lh)) pos.line X.env=pure false:=by rfl)(hf:X.fn x=true\/X.env.scope.names.lookup x=some .local:=by first |exact .inl rfl |exact .inr rfl |assumption) :
  PS X (.Assign [.Name x lh] e pos) (jB K QX E (bI M (bh i))):=PS.imp (k9 hN hi hx he hs hf) (iN (λ_ _ _ z=>z) kI)
def lV (K:Θ1)(J:It)(w:Wd)(O:bE)(H:Hp)(items:List AV):Prop:=∀O2 w2 H2,iU w O H w2 O2 H2->aB K w2 O2 H2->∀i,(∀x,items[i]?=some x->J.go i H2/\∀v H3,J.sS i H2 v H3->cx w2 O2 H2 w2 O2 H3/\aB K w2 O2 H3/\jo K w2 (G w2 O2 H3) v x)/\(items.length<=i->J.stop i H2)
def vy (K:Θ1)(QX:Addr->bE->Prop)(E:XK)(M:MA):TI:=λσ H R=>∃w O sl Q0,j5 K QX E w O H σ sl/\M sl O Q0/\∀items O' w' H' J,Q0 items O'->cx w O H w' O' H'->aB K w' O' H'->lV K J w' O' H' items->R J H'
def PI.imp (h:PI X tg iter t)(i:∀σ H R,t' σ H R->t σ H R):PI X tg iter t':=λae s σ H R I q=>h ae s σ H R I (i σ H R q)
def BM (t:cz (G w O H) (.ref a) (.list ds)):lV K (AF K0 a) w O H (ds.map .im):=λO2 w2 H2 e r i=>by
 cases cz.ar e.ar t with |lst h1 t1=>?_
 rename_i xs;let hh:=(eJ h1).1;apply⟨λx hx=>?_,λhl=>⟨xs,bG.of hh,by rw[Zb] at hl;rw[t1.len];exact hl⟩⟩;rw[Zo] at hx;cases hd:ds[i]? with
 |none=>rw[hd] at hx;cases hx
 |some d =>
  rw[hd] at hx;cases Option.some.inj hx;let⟨v,hv,tv⟩:=t1.get hd;apply⟨⟨xs,v,bG.of hh,hv⟩,?_⟩;rintro v' H3 ⟨rfl,hy⟩;have:=hy xs (bG.of hh);rw[hv] at this;cases Option.some.inj this;exact⟨cx.refl _ _ _,r,tv⟩
def BK (t:cz (G w O H) (.ref a) (.tuple ds)):lV K (AE K0 a) w O H (ds.map .im):=λO2 w2 H2 e r i=>by
 cases cz.ar e.ar t with |tup h1 t1=>?_
 rename_i xs;let hh:=(eJ h1).1;apply⟨λx hx=>?_,λhl=>⟨xs,aQ.of hh,by rw[Zb] at hl;rw[t1.len];exact hl⟩⟩;rw[Zo] at hx;cases hd:ds[i]? with
 |none=>rw[hd] at hx;cases hx
 |some d =>
  rw[hd] at hx;cases Option.some.inj hx;let⟨v,hv,tv⟩:=t1.get hd;apply⟨⟨xs,v,aQ.of hh,hv⟩,?_⟩;rintro v' H3 ⟨rfl,hy⟩;have:=hy xs (aQ.of hh);rw[hv] at this;cases Option.some.inj this;exact⟨cx.refl _ _ _,r,tv⟩
def cM (M:ME):MA:=λsl O Q=>M sl O λx O1=>match oW x with
 |some ds=>Q (ds.map .im) O1
 |none=>False
def abD (tl:TE):TI:=λσ H R=>tl σ H λx H1=>(∃a,x=.ref a/\(∃xs,bG K0 H1 a xs)/\R (AF K0 a) H1)\/(∃a,x=.ref a/\(∃xs,aQ K0 H1 a xs)/\R (AE K0 a) H1)
def Ee (hl:PE X l tl):PI X tg l (abD tl):=by
 intro ae s σ H R I h;apply bM (hl ae s σ H _ I h) λv s1 ⟨x,H1,I1,r1,q1⟩=>?_
 rcases q1 with ⟨a,e,⟨xs,hq⟩,q⟩ |⟨a,e,⟨xs,hq⟩,q⟩
 .subst e;cases r1;let⟨its,rv,p,hz⟩:=I1.list hq.k0;apply wpAny_pyIter_list p.isList ⟨s1.heap.objs.size,[s1.heap.objs.size],_,AF K0 a,H1,(),I1.kept (t':=s1.toks) λb o e=>Zn _ e,(pM (K:=X.K) a _).le zO,⟨_,Zz _ rfl,(),()⟩,λb hb=>?_,q⟩;let e:b=s1.heap.objs.size:=by simpa using hb
  subst e;exact I1.ju (Ze _) (I1.cb.fresh (Ze _))
 .subst e;cases r1;let⟨its,rv,p,hz⟩:=I1.tuple hq.k0;apply wpAny_pyIter_tuple (show s1.heap.IsTuple a its.toArray from p) ⟨s1.heap.objs.size,[s1.heap.objs.size],_,AE K0 a,H1,(),I1.kept (t':=s1.toks) λb o e=>Zn _ e,(oB (K:=X.K) a _).le Ew,⟨_,Zz _ rfl,(),()⟩,λb hb=>?_,q⟩;let e:b=s1.heap.objs.size:=by simpa using hb
  subst e;exact I1.ju (Ze _) (I1.cb.fresh (Ze _))
def mZ (he:PE X e (bO K QX E M)):PI X tg e (vy K QX E (cM M)):=PI.imp (Ee he) λσ H R ⟨w,O,sl,Q0,c,m,q⟩=>⟨w,O,sl,_,c,m,λx O1 v w1 H1 h1 e1 r1 a1=>by
 split at h1
 .rename_i ds hd;unfold oW at hd;split at hd
  .cases hd
   let⟨a,xs,rfl,g1,t1⟩:=il a1;exact .inl ⟨a,(),⟨xs,bG.of g1⟩,q _ O1 w1 H1 _ h1 e1 r1 (BM a1)⟩
  .cases hd
   let⟨a,xs,rfl,g1,t1⟩:=eY a1;exact .inr ⟨a,(),⟨xs,aQ.of g1⟩,q _ O1 w1 H1 _ h1 e1 r1 (BK a1)⟩
  .cases hd
 .exact h1.elim⟩
def tM (lo:Int)(n:Nat):List AV:=(List.range n).map λi:Nat=>.im (.int (lo+(i:Int)))
def BL:lV K (R0 lo n) w O H (tM lo n):=λO2 w2 H2 e r i=>by
 unfold tM;apply⟨λx hx=>?_,λhl=>by show n<=i;simpa using hl⟩;let hi:i<n:=by have:=(Zf.mp hx).1;simpa using this
 rw[Zo,Yq hi] at hx;cases Option.some.inj hx;apply⟨hi,?_⟩;rintro v H3 ⟨rfl,rfl⟩;exact⟨cx.refl _ _ _,r,.int _⟩
def tP (Ms:MA):MA:=λsl O Q=>Ms sl O λxs O1=>match xs with
 |[.im (.int n)]=>(-(2 ^ 62)<=n/\n<2 ^ 62)/\Q (tM 0 n.toNat) O1
 |_=>False
def Mt (hg:Gl X "range")(hm:X.mg "range"=none)(ha:PA X [a] (vz K QX E Ms))(hs:starEach [a] X.env=[(false,eval a X.env)]:=by rfl):PI X tg (.Call (.Name "range" p) [a] [] pos) (vy K QX E (tP Ms)):=PI.imp (Rq hg hm ha hs) λσ H R ⟨w,O,sl,Q0,c,m,q⟩=>⟨w,O,sl,_,c,m,λxs O1 vs w1 H1 h1 e1 r1 a1=>by
 split at h1
 .obtain⟨v,us,rfl,h3,h4⟩:=a1.bv;rw[h4.cD,iu h3];exact⟨_,(),h1.1.1,h1.1.2,q _ O1 w1 H1 _ h1.2 e1 r1 BL⟩
 .exact h1.elim⟩
def cT (ds:Ξ1):List AV:=(List.range ds.length).map λi:Nat=>.im (.tuple [.int (i:Int),ds.getD i .none])
def xL (t:cz (G w O H) (.ref a) (.tuple ds)):lV K (CW K0 a) w O H (cT ds):=λO2 w2 H2 e r i=>by
 cases cz.ar e.ar t with |tup h1 t1=>?_
 rename_i xs;let hh:=(eJ h1).1;unfold cT;apply⟨λx hx=>?_,λhl=>⟨xs,aQ.of hh,by rw[t1.len];simpa using hl⟩⟩;let hi:i<ds.length:=by have:=(Zf.mp hx).1;simpa using this
 rw[Zo,Yq hi] at hx;cases Option.some.inj hx;let hd:ds[i]?=some (ds.getD i .none):=by rw[ap (Zc hi)];exact Zc hi
 let⟨v,hv,tv⟩:=t1.get hd;apply⟨⟨xs,v,aQ.of hh,hv⟩,?_⟩;rintro v' H3 ⟨p,hp,rfl,hy⟩;let⟨y,KI,rfl⟩:=hy xs (aQ.of hh);rw[hv] at KI;cases Option.some.inj KI;let⟨r4,e4,t4⟩:=eT r hp (.cons (.int (i:Int)) (.cons tv .nil));exact⟨e4,r4,t4⟩
def WC (Ms:MA):MA:=λsl O Q=>Ms sl O λxs O1=>match xs with
 |[.im (.tuple ds)]=>Q (cT ds) O1
 |_=>False
def se (hg:Gl X "enumerate")(hm:X.mg "enumerate"=none)(hb:bootBuiltins "enumerate"=some (.type "enumerate"))(ha:PA X [a] (vz K QX E Ms))(hs:starEach [a] X.env=[(false,eval a X.env)]:=by rfl):PI X (.Tuple tT kk qH) (.Call (.Name "enumerate" p) [a] [] pos) (vy K QX E (WC Ms)):=PI.imp (mG hg hm hb ha hs) λσ H R ⟨w,O,sl,Q0,c,m,q⟩=>⟨w,O,sl,_,c,m,λxs O1 vs w1 H1 h1 e1 r1 a1=>by
 split at h1
 .obtain⟨v,us,rfl,h3,h4⟩:=a1.bv;rw[h4.cD];let⟨a,Rc,rfl,g1,t1⟩:=eY h3;exact⟨a,(),⟨Rc,aQ.of g1⟩,q _ O1 w1 H1 _ h1 e1 r1 (xL h3)⟩
 .exact h1.elim⟩
def v4 (ds es:Ξ1):List AV:=(List.range ds.length).map λi:Nat=>.im (.tuple [ds.getD i .none,es.getD i .none])
def BJ (t:cz (G w O H) (.ref a) (.tuple ds))(u:cz (G w O H) (.ref b) (.tuple es))(He:ds.length<=es.length):lV K (RY K0 a b) w O H (v4 ds es):=λO2 w2 H2 e r i=>by
 cases cz.ar e.ar t with |tup h1 t1=>?_
 rename_i xs;cases cz.ar e.ar u with |tup h2 t2=>?_
 rename_i ys;let hh:=(eJ h1).1;let ZW:=(eJ h2).1;unfold v4;apply⟨λx hx=>?_,λhl=>⟨xs,ys,aQ.of hh,aQ.of ZW,by rw[t1.len];simpa using hl⟩⟩;let hi:i<ds.length:=by have:=(Zf.mp hx).1;simpa using this
 rw[Zo,Yq hi] at hx;cases Option.some.inj hx;let hd:ds[i]?=some (ds.getD i .none):=by rw[ap (Zc hi)];exact Zc hi
 let he:es[i]?=some (es.getD i .none):=by rw[ap (Zc (show i<es.length by omega))];exact Zc ⋯
 let⟨v,hv,tv⟩:=t1.get hd;let⟨v2,hv2,tv2⟩:=t2.get he;apply⟨⟨xs,ys,v,v2,aQ.of hh,aQ.of ZW,hv,hv2⟩,?_⟩;rintro v' H3 ⟨p,hp,rfl,hy⟩;let⟨y,y2,KI,hy2,rfl⟩:=hy xs ys (aQ.of hh) (aQ.of ZW);rw[hv] at KI;rw[hv2] at hy2;cases Option.some.inj KI;cases Option.some.inj hy2;let⟨r4,e4,t4⟩:=eT r hp (.cons tv (.cons tv2 .nil));exact⟨e4,r4,t4⟩
def Sr (Ms:MA):MA:=λsl O Q=>Ms sl O λxs O1=>match xs with
 |[.im (.tuple ds),.im (.tuple es)]=>ds.length<=es.length/\Q (v4 ds es) O1
 |_=>False
def rC (hg:Gl X "zip")(hm:X.mg "zip"=none)(hb:bootBuiltins "zip"=some (.type "zip"))(ha:PA X [a,b] (vz K QX E Ms))(hs:starEach [a,b] X.env=[(false,eval a X.env),(false,eval b X.env)]:=by rfl)(oP:starEach [b] X.env=[(false,eval b X.env)]:=by rfl):PI X (.Tuple tT kk qH) (.Call (.Name "zip" p) [a,b] [] pos) (vy K QX E (Sr Ms)):=PI.imp (Jr hg hm hb ha hs oP) λσ H R ⟨w,O,sl,Q0,c,m,q⟩=>⟨w,O,sl,_,c,m,λxs O1 vs w1 H1 h1 e1 r1 a1=>by
 split at h1
 .obtain⟨v,us,rfl,h3,h4⟩:=a1.bv;let⟨v2,R4,rfl,h5,h6⟩:=h4.bv;rw[h6.cD];let⟨a,Rc,rfl,g1,t1⟩:=eY h3;let⟨b,ys',rfl,g2,t2⟩:=eY h5;exact⟨a,b,(),⟨Rc,aQ.of g1⟩,⟨ys',aQ.of g2⟩,q _ O1 w1 H1 _ h1.2 e1 r1 (BJ h3 h5 h1.1)⟩
 .exact h1.elim⟩
structure FB (tg:MG)(body:MS)(D:yP)(sl:j9)(items:List AV)(O1:bE):Prop where
 ex:∃Iv:Nat->j9->bE->Prop,Iv 0 sl O1 /\
 (∀i x d6 O',items[i]?=some x->Iv i d6 O'->tg x d6 O' λcr O2=>Go body { D with nx:=Iv (i+1),ct:=Iv (i+1),bk:=D.nx } cr O2)/\∀d6 O',Iv items.length d6 O'->D.nx d6 O'
def kc (it:MA)(tg:MG)(body:MS):MS:=λD sl O=>it sl O (FB tg body D sl)
def ya (hp:PassesOwn (model X.prog X.w) X.A X.env X.xe)(hc:X.calm=true)(hi:PI X tg iter (vy K QX E it))(hg:PG X tg (oR K QX E mg))(hb:jm X body (jB K QX E M))(hs:∀x,foldedSetIterable iter X.env x=pure x:=by intro _;rfl):PS X (.For tg iter body [] pos) (jB K QX E (kc it mg M)):=PS.imp (rj hp hc hi hg hb hs) λD σ H ⟨w,O,sl,D0,c,m,hn,hbk,hct,hr⟩=>⟨w,O,sl,_,c,m,λitems O1 w1 H1 J h1 e1 r1 CK=>by
 let⟨Iv,hI0,hIs,hIe⟩:=h1;apply⟨λi m aR H'=>m=items.length-i/\i<=items.length/\∃w' O' d6,j5 K QX E w' O' H' aR d6/\cx w1 O1 H1 w' O' H'/\Iv i d6 O',⟨items.length,by simp,Yb _,w1,O1,sl,c.ex e1.ex r1,cx.refl _ _ _,hI0⟩,?_⟩;rintro i m aR H' ⟨rfl,He,w',O',d6,c',e',hv⟩;let⟨ig,ie⟩:=CK O' w' H' e'.ex c'.ro i;rcases Z3 i items.length with y |y
 .obtain⟨Hg,Ha⟩:=ig _ (Zc y);apply .inr ⟨Hg,λcA H2=>∃w2 O2 cr,j5 K QX E w2 O2 H2 cA cr/\cx w1 O1 H1 w2 O2 H2/\Iv (i+1) cr O2,λcA H2 ⟨w2,O2,cr,c2,e2,h2⟩=>⟨items.length-(i+1),⋯,(),y,w2,O2,cr,c2,e2,h2⟩,λv H3 Hb=>?_⟩;let⟨e3,r3,a3⟩:=Ha v H3 Hb;apply⟨w',O',d6,_,_,c'.ex e3.ex r3,a3,hIs i _ d6 O' (Zc y) hv,λoS O4 w4 H4 Wg h4 c4 e4=>⟨w4,O4,oS,_,c4,h4.go,λAq O5 w5 H5 Ao h5 c5 e5=>⟨w5,O5,Aq,c5,(e'.trans e3).trans (e4.trans e5),h5⟩,λAq O5 w5 H5 Ao h5 c5 e5=>hn Aq O5 w5 H5 Ao h5 c5 (((e1.trans e').trans e3).trans (e4.trans e5)),λAq O5 w5 H5 Ao h5 c5 e5=>⟨w5,O5,Aq,c5,(e'.trans e3).trans (e4.trans e5),h5⟩,λx5 O5 w5 H5 v5 h5 e5 r5 a5=>hr x5 O5 w5 H5 v5 h5 (((e1.trans e').trans e3).trans (e4.trans e5)) r5 a5⟩⟩
 .let ei:i=items.length:=⋯;subst ei;exact .inl ⟨ie (Ze _),hn d6 O' w' H' aR (hIe d6 O' hv) c' (e1.trans e')⟩⟩
end
section
def rE (C:MT)(M:MS):MS:=λD sl O=>∃Iv:Nat->j9->bE->Prop,(∃m,Iv m sl O)/\∀m d6 O',Iv m d6 O'->C d6 O' λc O1=>(c=true->M { D with nx:=λs o=>∃m',m'<m/\Iv m' s o,ct:=λs o=>∃m',m'<m/\Iv m' s o,bk:=D.nx } d6 O1)/\(c=false->D.nx d6 O1)
def oh (hp:PassesOwn (model X.prog X.w) X.A X.env X.xe)(hc:PT X t (ir K QX E C))(hb:jm X body (jB K QX E M)):PS X (.While t body [] pos) (jB K QX E (rE C M)):=PS.imp (kM hp hc hb) λD σ H h9=>by
 let⟨w,O,sl,D0,c,⟨Iv,⟨m0,hm0⟩,hs⟩,hn,hbk,hct,hr⟩:=h9;apply⟨λm aR H'=>∃w' O' d6,j5 K QX E w' O' H' aR d6/\cx w O H w' O' H'/\Iv m d6 O',⟨m0,w,O,sl,c,cx.refl _ _ _,hm0⟩,?_⟩;rintro m aR H' ⟨w',O',d6,c',e',hv⟩;apply⟨w',O',d6,_,c',hs m d6 O' hv,λb O1 w1 H1 h1 e1 r1=>?_⟩;cases b with
 |true =>
  apply cL ⟨λcA H2=>∃m',m'<m/\∃w2 O2 cr,j5 K QX E w2 O2 H2 cA cr/\cx w O H w2 O2 H2/\Iv m' cr O2,λcA H2 ⟨m',cG,z⟩=>⟨m',cG,z⟩,w1,O1,d6,_,c'.ex e1.ex r1,h1.1 rfl,?_,?_,?_,?_⟩
  .rintro Aq O5 w5 H5 Ao ⟨m',cG,h5⟩ c5 e5;exact⟨m',cG,w5,O5,Aq,c5,(e'.trans e1).trans e5,h5⟩
  .intro Aq O5 w5 H5 Ao h5 c5 e5;exact hn Aq O5 w5 H5 Ao h5 c5 ((e'.trans e1).trans e5)
  .rintro Aq O5 w5 H5 Ao ⟨m',cG,h5⟩ c5 e5;exact⟨m',cG,w5,O5,Aq,c5,(e'.trans e1).trans e5,h5⟩
  .intro x5 O5 w5 H5 v5 h5 e5 r5 a5;exact hr x5 O5 w5 H5 v5 h5 ((e'.trans e1).trans e5) r5 a5
 |false=>exact cP (hn d6 O1 w1 H1 aR (h1.2 rfl) (c'.ex e1.ex r1) (e'.trans e1))
def Sub (n:Nat)(sl cr:j9):Prop:=cr.length=sl.length/\∀j,n<=j->cr[j]?=sl[j]?
def bC.sub (h:bC K w g σ cr)(s:Sub n (dh n ix sl) cr):bC K w g σ (dh n ix sl):=by
 apply⟨h.1.trans s.1,λi x hx=>?_⟩;rcases Z3 i n with y |y
 .unfold dh at hx;rw[Zq (by simpa using y),Y8,if_pos y] at hx;cases Option.some.inj hx
 .exact h.2 i x (by rw[s.2 i y];exact hx)
def br.gi (hb:(w'.dE,w'.iw)=(w.dE,w.iw))(ha:w'.bK=w.bK)(s:aA g g')(h:br K w g vs xs):br K w' g' vs xs:=⟨h.1,λi v x h1 h2=>jo.gi hb ha s (h.2 i v x h1 h2)⟩
def bC.gi (hb:(w'.dE,w'.iw)=(w.dE,w.iw))(ha:w'.bK=w.bK)(s:aA g g')(h:bC K w g σ sl):bC K w' g' σ sl:=⟨h.1,λi x h1=>by let⟨v,h2,h3⟩:=h.2 i x h1;exact⟨v,h2,jo.gi hb ha s h3⟩⟩
def Keeps (n:Nat)(mg:MG):Prop:=∀x sl O Q,mg x sl O Q->mg x sl O λcr O2=>Q cr O2/\Sub n sl cr
def sN (h:i<n):Keeps n (bh i):=λx sl O Q q=>⟨q,by simp,λj hj=>Z7 ⋯⟩
def nU (n:Nat)(mg:RX):Prop:=∀x sl O Q,mg x sl O Q->mg x sl O λcr O2=>Q cr O2/\Sub n sl cr
def Mr:nU n bY:=λx sl O Q q=>by
 cases x with
 |nil=>exact⟨q,(),λ_ _=>rfl⟩
 |cons y r=>exact q
def yf (h:i<n)(hu:nU n u):nU n (aE (bh i) u):=λx sl O Q q=>by
 cases x with
 |nil=>exact q
 |cons y r =>
  let q':u r (sl.set i (some y)) O Q:=q;have:=hu r _ O _ q';show u r (sl.set i (some y)) O _;let imp:u r (sl.set i (some y)) O (λcr O2=>Q cr O2/\Sub n (sl.set i (some y)) cr)->u r (sl.set i (some y)) O (λcr O2=>Q cr O2/\Sub n sl cr):=λz=>by
   let e:(λcr (O2:bE)=>Q cr O2/\Sub n (sl.set i (some y)) cr)=λcr (O2:bE)=>Q cr O2/\Sub n sl cr:=by
    funext cr O2
    apply propext;unfold Sub;rw[Yp];constructor
    .rintro⟨h1,h2,h3⟩;exact⟨h1,h2,λj hj=>by rw[h3 j hj,Z7 ⋯]⟩
    .rintro⟨h1,h2,h3⟩;exact⟨h1,h2,λj hj=>by rw[h3 j hj,Z7 ⋯]⟩
   rw[e] at z;exact z
  exact imp this
def KA (h:nU n t):Keeps n (kZ m t):=λx sl O Q q=>by
 unfold kZ at q ⊢;split
 .rename_i ds hd;rw[hd] at q;exact⟨q.1,h _ sl O Q q.2⟩
 .rename_i hd;rw[hd] at q;exact q
def Gj (c1:j5 K QX E w1 O1 H1 σ sl)(CK:lV K J w1 O1 H1 items)(dg:items.length<=1000000)(Iv:Nat->List AV->bE->Prop)(h0:Iv 0 [] O1)
  (hs:∀i x zs O',items[i]?=some x->Iv i zs O'->mg x (dh n ix sl) O' λcr O2=>C cr O2 λc O3=>(c=true->M cr O3 λy O4=>Iv (i+1) (zs++[y]) O4)/\(c=false->Iv (i+1) zs O3))
  (hk:Keeps n mg) (acc:Addr) (bU:H1 acc=none)
  (he:∀zs ys O' w' H',Iv items.length zs O'->aB K w' O' H'->w'.bL=(acc,.lst ys)::w1.bL->iU w1 O1 H1 w' O' H'->br K w' (G w' O' H') ys zs->Qf (.ref acc) H') :
  gK (oR K QX E mg) (ir K QX E C) (bO K QX E M) J acc (dS n ix σ) H1 Qf:=by
 let⟨r0,e0⟩:=c1.ro.hide (o:=.lst []) bU (λxs z=>by cases z);apply⟨λi m aR H'=>m=items.length-i/\i<=items.length/\∃w' O' ys zs,aB K w' O' H'/\w'.bL=(acc,.lst ys)::w1.bL/\iU w1 O1 H1 w' O' H'/\bC K w' (G w' O' H') aR (dh n ix sl)/\br K w' (G w' O' H') ys zs/\zs.length<=i/\Iv i zs O',
  ⟨items.length,by simp,Yb _,_,O1,[],[],r0,(),e0,(c1.so.RU n ix).ex e0,br.nil,Ze _,h0⟩,?_⟩
 rintro i m aR H' ⟨rfl,He,w',O',ys,zs,r',tq,e',s',a',hz',hv⟩;let⟨ig,ie⟩:=CK O' w' H' e' r' i;rcases Z3 i items.length with y |y
 .obtain⟨Hg,Ha⟩:=ig _ (Zc y);apply .inr ⟨Hg,λcA H2=>∃w' O' ys zs,aB K w' O' H2/\w'.bL=(acc,.lst ys)::w1.bL/\iU w1 O1 H1 w' O' H2/\bC K w' (G w' O' H2) cA (dh n ix sl)/\br K w' (G w' O' H2) ys zs/\zs.length<=i+1/\Iv (i+1) zs O',λcA H2 z=>⟨items.length-(i+1),⋯,(),y,z⟩,λv H3 Hb=>?_⟩;let⟨e3,r3,a3⟩:=Ha v H3 Hb;let M8:j5 K QX E w' O' H3 aR (dh n ix sl):=⟨r3,s'.ex e3.ex,λk Nb Mj Nd qx M6 Mp=>c1.zx k Nb Mj Nd qx ((e'.trans e3.ex).trans M6) Mp⟩;apply⟨w',O',_,_,_,M8,a3,hk _ _ _ _ (hs i _ zs O' (Zc y) hv),λoS O4 w4 H4 Wg h4 c4 e4=>⟨w4,O4,oS,_,c4,h4.1,λb O5 w5 H5 h5 e5 r5=>?_⟩⟩;let qE:=e3.trans (e4.trans e5);cases b with
  |false=>exact cP ⟨w5,O5,ys,zs,r5,qE.bL.trans tq,e'.trans qE.ex,bC.sub (c4.so.ex e5.ex) h4.2,a'.ex qE.ex,⋯,h5.2 rfl⟩
  |true =>
   apply cL ⟨w5,O5,oS,_,c4.ex e5.ex r5,h5.1 rfl,λz O6 v6 w6 H6 h6 e6 r6 a6=>?_⟩;let CS:=qE.trans e6;let SO:w6.bL=(acc,.lst ys)::w1.bL:=CS.bL.trans tq;let⟨n1,n2,n3,n4⟩:=r6.nh (acc,.lst ys) (by rw[SO];exact Zh);let⟨r7,s7⟩:=r6.rf (o':=.lst (ys++[v6])) SO (λxs z=>by cases z);let Hn:=e'.trans CS.ex;apply⟨ys,n3,by rw[a'.1,sz];omega,{ w6 with bL:=(acc,.lst (ys++[v6]))::w1.bL },O6,ys++[v6],zs++[z],r7,rfl,⟨Hn.bs,Hn.bK,⟨[(acc,.lst (ys++[v6]))],rfl⟩,Hn.ar.trans s7,Hn.dk⟩,?_,?_,by rw[Zt];simp;omega,h6⟩
   .exact bC.gi rfl rfl s7 (bC.sub ((c4.so.ex e5.ex).ex e6.ex) h4.2)
   .exact br.gi rfl rfl s7 ((a'.ex CS.ex).app (br.cons a6 br.nil))
 .let ei:i=items.length:=⋯;subst ei;exact .inl ⟨ie (Ze _),he zs ys O' w' H' hv r' tq e' a'⟩
structure CB (n:Nat)(ix:List Nat)(mg:MG)(C:MT)(M:ME)(sl:j9)(Q:AV->bE->Prop)(items:List AV)(O1:bE):Prop where
 len:items.length<=1000000
 ex:∃Iv:Nat->Ξ1->bE->Prop,Iv 0 [] O1 /\
 (∀i x ds O',items[i]?=some x->Iv i ds O'->mg x (dh n ix sl) O' λcr O2=>C cr O2 λc O3=>(c=true->M cr O3 λy O4=>match y with
   |.im d=>Iv (i+1) (ds++[d]) O4
   |_=>False)/\(c=false->Iv (i+1) ds O3))/\∀ds O',Iv items.length ds O'->Q (.im (.list ds)) O'
def cN (n:Nat)(ix:List Nat)(it:MA)(mg:MG)(C:MT)(M:ME):ME:=λsl O Q=>it sl O (CB n ix mg C M sl Q)
structure CBO (n:Nat)(ix:List Nat)(mg:MG)(C:MT)(M:ME)(sl:j9)(Q:AV->bE->Prop)(items:List AV)(O1:bE):Prop where
 len:items.length<=1000000
 ex:∃Iv:Nat->List AV->bE->Prop,Iv 0 [] O1 /\
 (∀i x zs O',items[i]?=some x->Iv i zs O'->mg x (dh n ix sl) O' λcr O2=>C cr O2 λc O3=>(c=true->M cr O3 λy O4=>Iv (i+1) (zs++[y]) O4)/\(c=false->Iv (i+1) zs O3))/\∀zs O',Iv items.length zs O'->Q (.own O'.length) (O'++[some zs])
def lx (n:Nat)(ix:List Nat)(it:MA)(mg:MG)(C:MT)(M:ME):ME:=λsl O Q=>it sl O (CBO n ix mg C M sl Q)
def oH (hk:Keeps n mg):∀σ H Q,bO K QX E (lx n ix it mg C M) σ H Q->yj (vy K QX E it) (oR K QX E mg) (ir K QX E C) (bO K QX E M) n ix σ H Q :=
 λσ H Q ⟨w,O,sl,Q0,c,m,q⟩=>⟨w,O,sl,_,c,m,λitems O1 w1 H1 J h1 e1 r1 CK acc bU=>by
  let⟨hl,Iv,h0,hs,he⟩:=h1;apply Gj (c.ex e1.ex r1) CK hl Iv h0 hs hk acc bU λzs ys O' w' H' hv r' tq e' a'=>?_
  let⟨r2,s2,tD⟩:=r'.Iw tq a';apply q _ _ _ { w' with bL:=w1.bL,bK:=w'.bK++[acc] } _ (he zs O' hv) ⟨e1.ex.trans ⟨e'.bs,?_,⟨[],rfl⟩,e'.ar.trans s2,e'.dk⟩,e1.bL⟩ r2 ⟨acc,tD,λz=>absurd (r'.dl _ z) (Ym _),rfl⟩;let⟨t,ht⟩:=e'.bK;exact⟨t++[acc],by show w'.bK++[acc]=_;rw[ht,Yr]⟩⟩
def qd (hk:Keeps n mg):∀σ H Q,bO K QX E (cN n ix it mg C M) σ H Q->yj (vy K QX E it) (oR K QX E mg) (ir K QX E C) (bO K QX E M) n ix σ H Q :=
 λσ H Q ⟨w,O,sl,Q0,c,m,q⟩=>⟨w,O,sl,_,c,m,λitems O1 w1 H1 J h1 e1 r1 CK acc bU=>by
  let⟨hl,Iv,h0,hs,he⟩:=h1;let hC:=c.ex e1.ex r1;let⟨r0,e0⟩:=hC.ro.hide (o:=.lst []) bU (λxs z=>by cases z);apply⟨λi m aR H'=>m=items.length-i/\i<=items.length/\∃w' O' ys zs,aB K w' O' H'/\w'.bL=(acc,.lst ys)::w1.bL/\iU w1 O1 H1 w' O' H'/\bC K w' (G w' O' H') aR (dh n ix sl)/\aJ (G w' O' H') ys zs/\zs.length<=i/\Iv i zs O',
   ⟨items.length,by simp,Yb _,_,O1,[],[],r0,(),e0,(hC.so.RU n ix).ex e0,.nil,Ze _,h0⟩,?_⟩
  rintro i m aR H' ⟨rfl,He,w',O',ys,zs,r',tq,e',s',a',hz',hv⟩;let⟨ig,ie⟩:=CK O' w' H' e' r' i;rcases Z3 i items.length with y |y
  .obtain⟨Hg,Ha⟩:=ig _ (Zc y);apply .inr ⟨Hg,λcA H2=>∃w' O' ys zs,aB K w' O' H2/\w'.bL=(acc,.lst ys)::w1.bL/\iU w1 O1 H1 w' O' H2/\bC K w' (G w' O' H2) cA (dh n ix sl)/\aJ (G w' O' H2) ys zs/\zs.length<=i+1/\Iv (i+1) zs O',λcA H2 z=>⟨items.length-(i+1),⋯,(),y,z⟩,λv H3 Hb=>?_⟩;let⟨e3,r3,a3⟩:=Ha v H3 Hb;let M8:j5 K QX E w' O' H3 aR (dh n ix sl):=⟨r3,s'.ex e3.ex,λk Nb Mj Nd qx M6 Mp=>hC.zx k Nb Mj Nd qx ((e'.trans e3.ex).trans M6) Mp⟩;apply⟨w',O',_,_,_,M8,a3,hk _ _ _ _ (hs i _ zs O' (Zc y) hv),λoS O4 w4 H4 Wg h4 c4 e4=>⟨w4,O4,oS,_,c4,h4.1,λb O5 w5 H5 h5 e5 r5=>?_⟩⟩;let qE:=e3.trans (e4.trans e5);cases b with
   |false=>exact cP ⟨w5,O5,ys,zs,r5,qE.bL.trans tq,e'.trans qE.ex,bC.sub (c4.so.ex e5.ex) h4.2,aJ.ar qE.ex.ar a',⋯,h5.2 rfl⟩
   |true =>
    apply cL ⟨w5,O5,oS,_,c4.ex e5.ex r5,h5.1 rfl,λz O6 v6 w6 H6 h6 e6 r6 a6=>?_⟩;split at h6
    .rename_i d;let CS:=qE.trans e6;let SO:w6.bL=(acc,.lst ys)::w1.bL:=CS.bL.trans tq;let⟨n1,n2,n3,n4⟩:=r6.nh (acc,.lst ys) (by rw[SO];exact Zh);let⟨r7,s7⟩:=r6.rf (o':=.lst (ys++[v6])) SO (λxs z=>by cases z);let Hn:=e'.trans CS.ex;apply⟨ys,n3,by rw[a'.len,sz];omega,{ w6 with bL:=(acc,.lst (ys++[v6]))::w1.bL },O6,ys++[v6],zs++[d],r7,rfl,⟨Hn.bs,Hn.bK,⟨[(acc,.lst (ys++[v6]))],rfl⟩,Hn.ar.trans s7,Hn.dk⟩,?_,?_,by rw[Zt];simp;omega,h6⟩
     .exact bC.gi rfl rfl s7 (bC.sub ((c4.so.ex e5.ex).ex e6.ex) h4.2)
     .exact aJ.ar s7 ((aJ.ar CS.ex.ar a').app (.cons a6 .nil))
    .exact h6.elim
  .let ei:i=items.length:=⋯;subst ei;apply .inl ⟨ie (Ze _),?_⟩;let⟨r2,s2,g2⟩:=r'.DU tq;exact q _ _ _ { w' with bL:=w1.bL } _ (he zs O' hv) ⟨e1.ex.trans ⟨e'.bs,e'.bK,⟨[],rfl⟩,e'.ar.trans s2,e'.dk⟩,e1.bL⟩ r2 (.lst g2 (aJ.ar s2 a'))⟩
def dH.imp (h:dH X eG t)(i:∀σ H Q,t' σ H Q->t σ H Q):dH X eG t':=λae s σ H Q I q=>h ae s σ H Q I (i σ H Q q)
def eu:MT:=λ_ O Q=>Q true O
def pi:dH X [] (ir K QX E eu):=dH.imp Ch λσ H Q ⟨w,O,sl,Q0,c,m,q⟩=>q true O w H m (cx.refl _ _ _) c.ro
def jM (h:PT X e (ir K QX E M)):dH X [e] (ir K QX E M):=kN h
section
def pk (B:aL X scope own cap ix)(hc:X.calm=true)(hi:PI X tg iter (vy K QX E it))(hk:Keeps own.length mg)
  (hb:∀C' fp s H,PG (cO X scope C' (own++cap) fp s H) tg (oR K QX E mg)/\dH (cO X scope C' (own++cap) fp s H) eG (ir K QX E C)/\PE (cO X scope C' (own++cap) fp s H) gf (bO K QX E M))
  (hs:∀x,foldedSetIterable iter X.env x=pure x:=by intro _;rfl):PE X (.ListComp gf [⟨tg,iter,eG,0⟩] scope pos) (bO K QX E (cN own.length ix it mg C M)):=PE.imp (Aw B hc hi hb hs) (qd hk)
def FJ (B:aL X scope own cap ix)(hc:X.calm=true)(hi:PI X tg iter (vy K QX E it))(hk:Keeps own.length mg)
  (hb:∀C' fp s H,PG (cO X scope C' (own++cap) fp s H) tg (oR K QX E mg)/\dH (cO X scope C' (own++cap) fp s H) eG (ir K QX E C)/\PE (cO X scope C' (own++cap) fp s H) gf (bO K QX E M))
  (hs:∀x,foldedSetIterable iter X.env x=pure x:=by intro _;rfl):PE X (.ListComp gf [⟨tg,iter,eG,0⟩] scope pos) (bO K QX E (lx own.length ix it mg C M)):=PE.imp (Aw B hc hi hb hs) (oH hk)
def JV (hN:X.N.Nodup)(Hf:X.N[i]?=some y)(hx:X.env.scope.names.lookup y=some .local)(B:aL X scope own cap ix)(hc:X.calm=true)(hi:PI X tg iter (vy K QX E it))(hk:Keeps own.length mg)
  (hb:∀C' fp s H,PG (cO X scope C' (own++cap) fp s H) tg (oR K QX E mg)/\dH (cO X scope C' (own++cap) fp s H) eG (ir K QX E C)/\PE (cO X scope C' (own++cap) fp s H) gf (bO K QX E M))
  (CL:swapsWith (.ListComp gf [⟨tg,iter,eG,0⟩] scope pos) (some (.Name y py)) qI.line X.env=pure true:=by rfl)
  (hs:∀x,foldedSetIterable iter X.env x=pure x:=by intro _;rfl):PS X (.Assign [.Name y py] (.ListComp gf [⟨tg,iter,eG,0⟩] scope pos) qI) (jB K QX E (bI (cN own.length ix it mg C M) (bh i))):=PS.imp (rW hN Hf hx B hc hi hb CL hs) (iN (qd hk) kI)
def uK (hN:X.N.Nodup)(Hf:X.N[i]?=some y)(hx:X.env.scope.names.lookup y=some .local)(B:aL X scope own cap ix)(hc:X.calm=true)(hi:PI X tg iter (vy K QX E it))(hk:Keeps own.length mg)
  (hb:∀C' fp s H,PG (cO X scope C' (own++cap) fp s H) tg (oR K QX E mg)/\dH (cO X scope C' (own++cap) fp s H) eG (ir K QX E C)/\PE (cO X scope C' (own++cap) fp s H) gf (bO K QX E M))
  (CL:swapsWith (.ListComp gf [⟨tg,iter,eG,0⟩] scope pos) (some (.Name y py)) qI.line X.env=pure true:=by rfl)
  (hs:∀x,foldedSetIterable iter X.env x=pure x:=by intro _;rfl):PS X (.Assign [.Name y py] (.ListComp gf [⟨tg,iter,eG,0⟩] scope pos) qI) (jB K QX E (bI (lx own.length ix it mg C M) (bh i))):=PS.imp (rW hN Hf hx B hc hi hb CL hs) (iN (oH hk) kI)
end
abbrev FM:=bE->List AV->(AV->bE->Prop)->(Addr->bE->Prop)->Prop
def tH (K:Θ1)(sp:Sp)(F:FM):Prop:=∀(w:Wd) (O:bE) (H:Hp) (vs:List V) (xs:List AV) (P:AV->bE->Prop) (PX:Addr->bE->Prop) (Q:VK) (E:XK),aB K w O H->br K w (G w O H) vs xs->F O xs P PX ->
 (∀z q O' w' H',P q O'->cx w O H w' O' H'->aB K w' O' H'->jo K w' (G w' O' H') z q->Q z H')->(∀c O' w' H',PX c O'->iU w O H w' O' H'->aB K w' O' H'->E (.ref c) none H')->sp vs H Q E
def cH (K:Θ1)(F:FM):Sp:=λvs H Q E=>∃w O xs P PX,aB K w O H/\br K w (G w O H) vs xs/\F O xs P PX/\(∀z q O' w' H',P q O'->cx w O H w' O' H'->aB K w' O' H'->jo K w' (G w' O' H') z q->Q z H')/\∀c O' w' H',PX c O'->iU w O H w' O' H'->aB K w' O' H'->E (.ref c) none H'
def gF:tH K (cH K F) F:=λw O H vs xs P PX Q E r a f q x=>⟨w,O,xs,P,PX,r,a,f,q,x⟩
def aG (F:FM)(QX:Addr->bE->Prop)(Ms:MA):ME:=λsl O Q=>Ms sl O λxs O1=>F O1 xs Q QX
def cQ:Addr->bE->Prop:=λ_ _=>False
def FL (G':aI X.prog X.w X.K X.mg X.base cf k f fd ps sp)(lk:tH K sp F)(hr:cS k X.A)(hg:Gl X x)(hm:X.mg x=some (.ref f))(hk:PySem.W.keepIn X.K (.ref f)=true)(hb:Binds X.K fd ps [])
  (ha:PA X (e::es) (vz K QX E Ms)) (vW:(x == ("__debug__" : Str))=false:=by decide) (he:starEach (e::es) X.env=(false,eval e X.env)::starEach es X.env:=by rfl) (jE:(backTo pos (starEach es X.env)).any (·.1)=false:=by rfl) :
  PE X (.Call (.Name x p) (e::es) [] pos) (bO K QX E (aG F cQ Ms)):=PE.imp (dX G' hr hg hm hk hb (GW:=[]) .nil aN ha vW he jE) λσ H Q ⟨w,O,sl,Q0,c,m,q⟩=>⟨w,O,sl,_,c,m,λxs O1 vs w1 H1 h1 e1 r1 a1=>by
 show sp (vs++[]) H1 Q E0;rw[Yh];exact lk w1 O1 H1 vs xs _ cQ Q E0 r1 a1 h1 (λz z' O3 w3 H3 h3 e3 r3 a3=>q _ O3 z w3 H3 h3 (e1.trans e3) r3 a3) λk O' w' H' qx e' r'=>qx.elim⟩
def aY (N:Δ2)(xs:List AV):j9:=xs.map some++List.replicate (N.length-xs.length) none
def u7 (a:br K w g vs xs):bC K w g (L2.start N vs) (aY N xs):=by
 unfold L2.start aY;apply⟨by simp[a.1],λi x hx=>?_⟩;rcases Z3 i xs.length with y |y
 .rw[Zq (by simpa using y),Zo,Zc y] at hx;let ex:xs[i]=x:=by injection (Option.some.inj hx)
  let yv:i<vs.length:=by rw[a.1];exact y
  apply⟨vs[i],?_,a.2 i _ x (Zc yv) (by rw[Zc y,ex])⟩;rw[Zq (by simpa using yv),Zo,Zc yv];rfl
 .rw[Yi (by simpa using y),Y8] at hx;split at hx
  .cases Option.some.inj hx
  .cases hx
def ji (U:cR K x qual st f fd)(S:ai N ps (bF st))(hl:∀O xs P PX,F O xs P PX->xs.length=ps.length)
  (hb:∀(bH:Value) (A:Around) (outer:List Env) (s:Shared) (H:Hp) (E:XK) (QX:Addr->bE->Prop),cS k (A.deeper (PyProof.Rows.envOfC qual (bF st) s.heap.objs.size f bH)) ->
   ∃M,jm (tU cf P wo K mg base N qual (bF st) f bH A outer s H E).Ro (sV st) (jB K QX E M)/\∀O xs Pq,F O xs Pq QX->M { nx:=λ_ O'=>Pq (.im .none) O',rt:=Pq } (aY N xs) O):aI P wo K mg base cf (k+1) f fd ps (cH K F):=by
 apply U.ok S (λvs H Q E h9=>by let⟨w,O,xs,P,PX,r,a,h,q⟩:=h9;rw[a.1];exact hl O xs P PX h) (λbH A outer s H vs Q E hr h9=>?_);let⟨w,O,xs,P',PX,r,a,h,q,x⟩:=h9;let⟨M,hM,hq⟩:=hb bH A outer s H E PX hr;exact⟨_,hM,w,O,aY N xs,_,⟨r,u7 a,x⟩,hq O xs P' h,λd6 O' w' H' aR h' c' e'=>q _ _ O' w' H' h' e' c'.ro .cj,λd6 O' w' H' aR h' c' e'=>h'.elim,λd6 O' w' H' aR h' c' e'=>h'.elim,λx' O' w' H' v h' e' r' a'=>q v x' O' w' H' h' e' r' a'⟩
def C7 (Mo:ME)(Ms:MA):ME:=λsl O Q=>Mo sl O λo O1=>match o with
 |.own k=>(∃c,O1[k]?=some (some c))/\Ms sl O1 λxs O2=>match xs with
  |[y]=>∃c,O2[k]?=some (some c)/\c.length<sizeLine/\Q (.im .none) (O2.set k (some (c++[y])))
  |_=>False
 |_=>False
end
section
def rD (ho:PE X o (bO K QX E Mo))(ha:PA X [e] (vz K QX E Ms))
  (ui:attributeBase o "append" X.env (eval o X.env)=eval o X.env:=by rfl)
  (NO:((backTo jG (starEach [e] X.env)).all (λx=>!x.1)&&(backToKw jG (keywordEach [] X.env)).all (λx=>x.1.isSome)
   && decide ([e].length+([]:List Keyword).length+(if ([]:List Keyword).isEmpty then 0 else 1)<30))=true:=by rfl)
  (uh:(qV.endLine == jG.line)=true:=by rfl) (hs:starEach [e] X.env=(false,eval e X.env)::starEach [] X.env:=by rfl) (wY:(backTo jG (starEach [] X.env)).any (·.1)=false:=by rfl) :
  PE X (.Call (.Attribute o "append" qV) [e] [] jG) (bO K QX E (C7 Mo Ms)):=PE.imp (VB PySem.F.plainAttrs_list PySem.F.slot_list_append PySem.F.type_list_append p6 ho ha ui NO uh hs wY) λσ H Q ⟨w,O,sl,Q0,c,m,q⟩=>⟨w,O,sl,_,c,m,λo' O1 v w1 H1 h1 e1 r1 a1=>by
 split at h1
 .obtain⟨⟨c0,WQ⟩,h1⟩:=h1;let⟨p,hp,tu,rfl⟩:=a1;let HU:∀{w2:Wd}{O2:bE}{H2:Hp},cx w1 O1 H1 w2 O2 H2->_∉w2.iw:=λe z=>tu ((e.ex.dk _ (Zf.mp hp).1).mp z)
  apply⟨.inl ⟨(),?_⟩,w1,O1,sl,_,c.ex e1.ex r1,h1,λxs O2 vs w2 H2 h2 e2 r2 a2=>?_⟩
  .obtain⟨p1,mo,h0,g1,t1⟩:=r1.qU tu WQ;rw[hp] at h0;cases Option.some.inj h0;exact⟨mo,bG.of g1⟩
  .split at h2
   .obtain⟨c',sP,h2⟩:=h2;let⟨v1,us,rfl,b1,b2⟩:=a2.bv;rw[b2.cD];let⟨p1,mo,h0,g1,t1⟩:=r2.qU (HU e2) sP;rw[e2.ex.at hp] at h0;cases Option.some.inj h0;let⟨r3,e3⟩:=r2.put sP (HU e2) (e2.ex.at hp) g1 (t1.app (br.cons b1 br.nil));exact⟨_,mo,v1,(),(),g1,by rw[t1.1];exact h2.1,q _ _ _ _ _ h2.2 ((e1.trans e2).trans e3) r3 .cj⟩
   .exact h2.elim
 .exact h1.elim⟩
structure nq (O O':bE):Prop where
 len:O'.length=O.length
 at':∀j:Nat,O'[j]?=O[j]? \/ O'[j]?=some none
def nq.refl (O:bE):nq O O:=⟨(),λ_=>.inl rfl⟩
def nq.set (h:nq O O')(k:Nat):nq O (O'.set k none):=⟨by rw[Yp];exact h.len,λj=>by
 by_cases e:k=j
 .subst e;rcases Z3 k O'.length with y |y
  .exact .inr (Yg y)
  .rw[List.set_eq_of_length_le y];exact h.at' k
 .rw[Z7 e];exact h.at' j⟩
def aB.less (r:aB K w O H)(h:nq O O'):aB K w O' H/\cx w O H w O' H/\∀(j:Nat) a,O'[j]?=some none->w.bK[j]?=some a->G w O' H a=H a:=by
 let back:∀(j:Nat) c,O'[j]?=some (some c)->O[j]?=some (some c):=λj c hj=>by
  rcases h.at' j with e |e
  .grind
  grind
 let lm:∀x,jn w O' x->jn w O x:=λx h=>by
  rcases h with h |h |⟨j,d,h1,h2⟩
  .exact .inl h
  .exact .inr (.inl h)
  .exact .inr (.inr ⟨j,d,h1,back j d h2⟩)
 let sg:aA (G w O H) (G w O' H):=λx o h=>by
  let⟨h1,h2⟩:=eJ h;rw[gI (λz=>h2 (lm x z))];exact h1
 let e:cx w O H w O' H:=⟨⟨⟨[],by simp⟩,⟨[],by simp⟩,⟨[],by simp⟩,sg,λ_ _=>Iff.rfl⟩,()⟩;apply⟨⟨by rw[h.len];exact r.len,r.nd,r.al,r.nb,r.hn,r.nh,r.bg,λj d hj=>?_,λj hj=>by rw[h.len];exact r.dl j hj⟩,e,λj a hj ha=>?_⟩
 .obtain⟨a',us,h1,h2,h3⟩:=r.vJ j d (back j d hj);exact⟨a',us,h1,h2,h3.ex e.ex⟩
 .rw[gI];rintro(h1 |⟨o,h1⟩ |⟨i,d,h1,h2⟩)
  .exact r.nb _ h1 (Z2 ha)
  .exact(r.nh _ h1).1 (Z2 ha)
  .have:j=i:=(List.getElem?_inj (Zf.mp ha).1 r.nd).mp (ha.trans h1.symm)
   grind
def aB.LZ (r:aB K w O H)(h:nq O O')(hk:O[k]?=some (some (ds.map .im)))(vH:O'[k]?=some none)(tu:k∉w.iw)(ha:w.bK[k]?=some a):cz (G w O' H) (.ref a) (.list ds):=by
 let⟨r1,e1,g1⟩:=r.less h;let⟨a',vs,h1,h2,h3⟩:=r.qU tu hk;rw[ha] at h1;cases Option.some.inj h1;exact .lst (xs:=vs) (by rw[g1 k a vH ha];exact h2) (br.tr (h3.ex e1.ex))
def uA {α : Type}{xs:List α}{i:Nat}{x:α}(h:xs[i]?=some x):xs.set i x=xs:=by
 apply Ql;intro j;by_cases e:i=j
 .subst e;rw[Yg (Zf.mp h).1,h]
 .rw[Z7 e]
def Uh (i:Nat)(M:MS):MS:=λD sl O=>∃(k:Nat) (ds:Ξ1),sl[i]?=some (some (.own k))/\O[k]?=some (some (ds.map .im))/\M D (sl.set i (some (.im (.list ds)))) (O.set k none)
def PV (i:Nat){Sa:List Stmt}(h:jm X Sa (jB K QX E M)):jm X Sa (jB K QX E (Uh i M)):=jm.imp h λD σ H h9=>by
 let⟨w,O,sl,D0,c,⟨k,ds,h1,h2,m⟩,hn,hb,hc,hr⟩:=h9;let hL:=(nq.refl O).set k;let⟨r1,e1,_⟩:=c.ro.less hL;let⟨v,hv,a,ha,tu,rfl⟩:=c.so.2 i _ h1;let t:=c.ro.LZ hL h2 (Yg (Zf.mp h2).1) tu ha;let c2:=(c.ex e1.ex r1).put (x:=.im (.list ds)) t i;rw[uA hv] at c2;exact⟨w,_,_,D0,c2,m,λcr O2 w2 H2 cA h2 c2 e2=>hn cr O2 w2 H2 cA h2 c2 (e1.trans e2),λcr O2 w2 H2 cA h2 c2 e2=>hb cr O2 w2 H2 cA h2 c2 (e1.trans e2),λcr O2 w2 H2 cA h2 c2 e2=>hc cr O2 w2 H2 cA h2 c2 (e1.trans e2),λx O2 w2 H2 v h2 e2 r2 a2=>hr x O2 w2 H2 v h2 (e1.trans e2) r2 a2⟩
def gW (O:bE):List Nat->bE
 |[]=>O
 |k::ks=>gW (O.set k none) ks
theorem kW:∀(ks:List Nat) {O O':bE},nq O O'->nq O (gW O' ks)
 |[],_,_,h=>h
 |k::ks,_,_,h=>kW ks (h.set k)
theorem kX:∀(ks:List Nat) {O:bE}{j:Nat},O[j]?=some none->(gW O ks)[j]?=some none
 |[],_,_,h=>h
 |k::ks,O,j,h=>kX ks (by
  by_cases e:k=j
  .subst e;exact Yg (Zf.mp h).1
  .rw[Z7 e];exact h)
theorem jS:∀(ks:List Nat) {O:bE}{j:Nat},j∈ks->j<O.length->(gW O ks)[j]?=some none
 |k::ks,O,j,h,hl=>by
  rcases Zj.mp h with e |e
  .subst e;exact kX ks (Yg hl)
  .exact jS ks e (by rw[Yp];exact hl)
def yA (i:Nat)(M:MS):MS:=λD sl O=>∃(k:Nat) (ks:List Nat) (KS:List (Ξ1)),sl[i]?=some (some (.own k))/\O[k]?=some (some (ks.map .own))/\ks.length=KS.length/\(∀(j:Nat) kj,ks[j]?=some kj->O[kj]?=some (some ((KS.getD j []).map .im))) /\
 M D (sl.set i (some (.im (.list (KS.map .list))))) (gW O (k::ks))
theorem yU:∀{vs:List V}{ds:Ξ1},vs.length=ds.length->(∀(j:Nat) v d,vs[j]?=some v->ds[j]?=some d->cz g v d)->aJ g vs ds
 |[],[],_,_=>.nil
 |v::vs,d::ds,h,f=>.cons (f 0 v d rfl rfl) (yU (by simpa using h) λj v' d' h1 h2=>f (j+1) v' d' (by simpa using h1) (by simpa using h2))
def zE (i:Nat){Sa:List Stmt}(h:jm X Sa (jB K QX E M)):jm X Sa (jB K QX E (yA i M)):=jm.imp h λD σ H h9=>by
 let⟨w,O,sl,D0,c,⟨k,ks,KS,h1,h2,hl,h3,m⟩,hn,hb,hc,hr⟩:=h9;let hL:=kW (k::ks) (nq.refl O);let⟨r1,e1,g1⟩:=c.ro.less hL;let⟨v,hv,a,ha,tu,rfl⟩:=c.so.2 i _ h1;let RE:=(Zf.mp h2).1;let⟨a',vs,q1,q2,q3⟩:=c.ro.qU tu h2;rw[ha] at q1;cases Option.some.inj q1;let t:cz (G w (gW O (k::ks)) H) (.ref a) (.list (KS.map .list)):=by
  apply .lst (xs:=vs) (by rw[g1 k a (jS _ Zh RE) ha];exact q2) (yU (by rw[q3.1,Zb,Zb,hl]) λj v d hv hd=>?_);let hj:j<KS.length:=by have:=(Zf.mp hd).1;simpa using this
  let vH:ks[j]?=some ks[j]:=Zc ⋯;have:=q3.2 j v (.own ks[j]) hv (by rw[Zo,vH];rfl);let⟨p,hp,HU,rfl⟩:=this;let hO:=h3 j _ vH;rw[Zo,Zc hj] at hd;let SW:d=.list (KS.getD j []):=by rw[ap (Zc hj)];exact(Option.some.inj hd).symm
  rw[SW];exact c.ro.LZ hL hO (jS _ (Zk _ (Z2 vH)) (Zf.mp hO).1) HU hp
 let c2:=(c.ex e1.ex r1).put (x:=.im (.list (KS.map .list))) t i;rw[uA hv] at c2;exact⟨w,_,_,D0,c2,m,λcr O2 w2 H2 cA h2 c2 e2=>hn cr O2 w2 H2 cA h2 c2 (e1.trans e2),λcr O2 w2 H2 cA h2 c2 e2=>hb cr O2 w2 H2 cA h2 c2 (e1.trans e2),λcr O2 w2 H2 cA h2 c2 e2=>hc cr O2 w2 H2 cA h2 c2 (e1.trans e2),λx O2 w2 H2 v h2 e2 r2 a2=>hr x O2 w2 H2 v h2 (e1.trans e2) r2 a2⟩
def AM (M:ME):ME:=λsl O Q=>M sl O λx O1=>match x with
 |.im (.int i)=>Q (.im (.int (-i))) O1
 |_=>False
def nO (h:PE X a (bO K QX E M)):PE X (.UnaryOp .USub a pos) (bO K QX E (AM M)):=PE.imp (Ln DV h) λσ H Q ⟨w,O,sl,Q0,c,m,q⟩=>⟨w,O,sl,_,c,m,λx O1 v w1 H1 h1 e1 r1 a1=>by
 split at h1
 .exact⟨_,iu a1,q _ O1 _ w1 H1 h1 e1 r1 (.int _)⟩
 .exact h1.elim⟩
def NT:FM:=λO xs P _=>match xs with
 |[.At _,.im (.int k)]=>(0<=k/\k<100)/\∀j,P (.bag j) O
 |_=>False
def P8:tH K (Ds K) NT:=λw O H vs xs P PX Q E r a hf q x=>by
 unfold NT at hf;split at hf
 .obtain⟨v,us,rfl,h1,h2⟩:=a.bv;let⟨v2,R4,rfl,h3,h4⟩:=h2.bv;rw[h4.cD];let⟨b,rfl,hb⟩:=h1;rw[iu h3];apply⟨b,_,_,(),KG.bG.ar hb qS,hf.1.1,hf.1.2,λp c d hp=>?_⟩;let⟨r1,e1⟩:=r.bag (x:=c) (y:=d) hp;exact q _ _ O _ _ (hf.2 w.dE.length) e1 r1 ⟨p,by simp,()⟩
 .exact hf.elim
def DA (r:aB K w O H)(hp:H p=none):aB K w O (aK H p (qO q))/\cx w O H w O (aK H p (qO q))/\cz (G w O (aK H p (qO q))) (.ref p) (qD q):=eT r hp (.cons (.int _) (.cons (.int _) .nil))
def RM (h:cz (G w O H) v (qD q)):∃p,v=.ref p/\H p=some (qO q):=by
 let⟨a,xs,rfl,h1,t⟩:=eY h;cases t with |cons t1 t2=>cases t2 with |cons t2 t3=>cases t3;cases t1;cases t2;exact⟨a,(),h1⟩
def S5:FM:=λO xs P _=>match xs with
 |[.im (.int t),.im (.int u)]=>(0<u/\Bd 66000000 u)/\P (.im (qD (Rat.divInt t u))) O
 |_=>False
def VR:tH K wj S5:=λw O H vs xs P PX Q E r a hf q x=>by
 unfold S5 at hf;split at hf
 .obtain⟨v,us,rfl,h1,h2⟩:=a.bv;let⟨v2,R4,rfl,h3,h4⟩:=h2.bv;rw[h4.cD,iu h1,iu h3];apply⟨_,_,(),hf.1.1,hf.1.2,λp hp=>?_⟩;let⟨r1,e1,t1⟩:=DA r hp;exact q _ _ O w _ hf.2 e1 r1 t1
 .exact hf.elim
def f2 (op:Rat->Rat->Rat):FM:=λO xs P _=>∃a b,xs=[.im (qD a),.im (qD b)]/\(Rb 32000000 a/\Rb 32000000 b)/\P (.im (qD (op a b))) O
def tR:tH K (Ap op) (f2 op):=λw O H vs xs P PX Q E r a hf q x=>by
 let⟨a1,b1,rfl,h0,hf⟩:=hf;let⟨v,us,rfl,h1,h2⟩:=a.bv;let⟨v2,R4,rfl,h3,h4⟩:=h2.bv;rw[h4.cD];let⟨p1,rfl,g1⟩:=RM h1;let⟨p2,rfl,g2⟩:=RM h3;apply⟨p1,p2,a1,b1,(),g1,g2,h0.1,h0.2,λp hp=>?_⟩;let⟨r1,e1,t1⟩:=DA r hp;exact q _ _ O w _ hf e1 r1 t1
def DN:FM:=λO xs P _=>∃a b,xs=[.im (qD a),.im (qD b)]/\(Rb 32000000 a/\Rb 32000000 b)/\P (.im (.bool (decide (a<b)))) O
def zM:tH K jH DN:=λw O H vs xs P PX Q E r a hf q x=>by
 let⟨a1,b1,rfl,h0,hf⟩:=hf;let⟨v,us,rfl,h1,h2⟩:=a.bv;let⟨v2,R4,rfl,h3,h4⟩:=h2.bv;rw[h4.cD];let⟨p1,rfl,g1⟩:=RM h1;let⟨p2,rfl,g2⟩:=RM h3;exact⟨p1,p2,a1,b1,(),g1,g2,h0.1,h0.2,q _ _ O w H hf (cx.refl _ _ _) r (.bl _)⟩
end
section
def Gk (R:Nat->PyData->Prop)(hl:items.length<=1000000)
  (hs:∀(i:Nat) x (Z:AV->bE->Prop),items[i]?=some x->(∀d,R i d->Z (.im d) O)->M ((dh n ix sl).set 0 (some x)) O Z)
  (hd:∀ds:Ξ1,ds.length=items.length->(∀j,j<ds.length->R j (ds.getD j .none))->Q (.im (.list ds)) O):CB n ix (bh 0) eu M sl Q items O:=by
 apply⟨hl,λi ds O'=>O'=O/\ds.length=i/\∀j,j<ds.length->R j (ds.getD j .none),⟨(),(),λj hj=>absurd hj (by simp)⟩,?_,λds O' ⟨e,h1,h2⟩=>e▸hd ds h1 h2⟩;rintro i x ds O' hx ⟨rfl,SK,hR⟩;apply⟨λ_=>hs i x _ hx λd R'=>⟨(),by simp[SK],λj hj=>?_⟩,λz=>by cases z⟩;rcases Z3 j ds.length with y |y
 .have:(ds++[d]).getD j .none=ds.getD j .none:=by simp[List.getD,Zq y]
  rw[this];exact hR j y
 .let l5:j=ds.length:=by simp at hj;omega
  subst l5;have:(ds++[d]).getD ds.length .none=d:=by simp[List.getD]
  rw[this,SK];exact R'
def J8 {f:Nat->PyData}(h:∀j,j<ds.length->ds.getD j .none=f j):ds=(List.range ds.length).map f:=by
 apply Ql;intro j;rw[Zo];rcases Z3 j ds.length with y |y
 .rw[Yq y,Y2,<- h j y,ap (Zc y)];exact Zc y
 .rw[Yu y,Yu (by simpa using y)];rfl
def G2 (f:Nat->PyData)(hl:items.length<=1000000)
  (hs:∀(i:Nat) x (Z:AV->bE->Prop),items[i]?=some x->Z (.im (f i)) O->M ((dh n ix sl).set 0 (some x)) O Z)
  (hd:Q (.im (.list ((List.range items.length).map f))) O):CB n ix (bh 0) eu M sl Q items O :=
 Gk (λi d=>d=f i) hl (λi x Z hx h=>hs i x Z hx (h _ rfl)) λds h1 h2=>by rw[J8 h2,h1];exact hd
def jh (c:Nat->Bool)(f:Nat->PyData)(hl:items.length<=1000000)
  (hc:∀(i:Nat) x (Z:Bool->bE->Prop),items[i]?=some x->Z (c i) O->C ((dh n ix sl).set 0 (some x)) O Z)
  (hs:∀(i:Nat) x (Z:AV->bE->Prop),items[i]?=some x->c i=true->Z (.im (f i)) O->M ((dh n ix sl).set 0 (some x)) O Z)
  (hd:Q (.im (.list (((List.range items.length).filter c).map f))) O):CB n ix (bh 0) C M sl Q items O:=by
 apply⟨hl,λi ds O'=>O'=O/\ds=((List.range i).filter c).map f,⟨(),()⟩,?_,λds O' ⟨e,h1⟩=>by rw[e,h1];exact hd⟩;rintro i x ds O' hx ⟨rfl,rfl⟩;exact hc i x _ hx ⟨λh=>hs i x _ hx h ⟨(),by rw[gB,h,if_pos rfl]⟩,λh=>⟨(),by rw[gB,h,if_neg ∅,Yh]⟩⟩
def qq (R:Nat->AV->Prop)(hl:items.length<=1000000)
  (hs:∀(i:Nat) x (Z:AV->bE->Prop),items[i]?=some x->(∀d,R i d->Z d O)->M ((dh n ix sl).set 0 (some x)) O Z)
  (hd:∀zs:List AV,zs.length=items.length->(∀j z,zs[j]?=some z->R j z)->Q (.own O.length) (O++[some zs])):CBO n ix (bh 0) eu M sl Q items O:=by
 apply⟨hl,λi zs O'=>O'=O/\zs.length=i/\∀(j:Nat) z,zs[j]?=some z->R j z,⟨(),(),λj z hj=>by simp at hj⟩,?_,λzs O' ⟨e,h1,h2⟩=>e▸hd zs h1 h2⟩;rintro i x zs O' hx ⟨rfl,SK,hR⟩;apply⟨λ_=>hs i x _ hx λd R'=>⟨(),by simp[SK],λj z hj=>?_⟩,λz=>by cases z⟩;rcases Z3 j zs.length with y |y
 .rw[Zq y] at hj;exact hR j z hj
 .let l5:=(Zf.mp hj).1;have:j=zs.length:=by simp at l5;omega
  subst this;simp at hj;rw[<- hj,SK];exact R'
def gR (lo:Int)(n:Nat):(tM lo n).length=n:=by unfold tM;simp
def OF (h:(tM lo n)[i]?=some x):i<n/\x=.im (.int (lo+(i:Int))):=by
 unfold tM at h;let hi:i<n:=by have:=(Zf.mp h).1;simpa using this
 rw[Zo,Yq hi] at h;exact⟨hi,(Option.some.inj h).symm⟩
def fD (h:(tM 0 n)[i]?=some x):i<n/\x=.im (.int (i:Int)):=by
 let⟨h1,h2⟩:=OF h;exact⟨h1,by rw[h2,Int.zero_add]⟩
def dI:min (PyData.int i).depth (PyData.int j).depth<=60:=by show min 0 0<=60;decide
def HM {α : Type}{x:α}:[x].length<=sizeLine:=by show 1<=sizeLine;decide
def md {α : Type}{x y:α}:[x,y].length<=sizeLine:=by show 2<=sizeLine;decide
def abx {α : Type}{x y z:α}:[x,y,z].length<=sizeLine:=by show 3<=sizeLine;decide
def UM {n:Int}(h:n.natAbs<2 ^ 40):Bd 66000000 n:=Yl h (Xa ∅ ∅)
def aZ {α : Type}{xs:List α}{i:Nat}{x:α}(h:xs[i]?=some x):fj xs (i:Int)=some x:=mW h
def dJ (O O':bE):Prop:=∃t,O'=O++t
def dJ.app (h:dJ O O')(c:Option (List AV)):dJ O (O'++[c]):=by let⟨t,rfl⟩:=h;exact⟨t++[c],by simp⟩
def dJ.set (h:dJ O O')(hk:O.length<=k)(c:Option (List AV)):dJ O (O'.set k c):=by
 let⟨t,rfl⟩:=h;exact⟨t.set (k-O.length) c,by rw[List.set_append,if_neg ⋯]⟩
theorem dJ.none:∀{ks:List Nat}{O':bE},dJ O O'->(∀k∈ks,O.length<=k)->dJ O (gW O' ks)
 |[],_,h,_=>h
 |k::ks,_,h,hk=>dJ.none (ks:=ks) (h.set (hk k Zh) _) λj hj=>hk j (Zk _ hj)
def eN (A:Γ3)(Pu:Δ1)(W:Γ1):PyData:=.tuple [.tuple (A.map .int),.tuple (Pu.map qD),.tuple (W.map aS)]
def jj {α β : Type}{f:α->β}{xs:List α}{j:Nat}{d:α}(h:j<xs.length):(xs.map f)[j]?=some (f (xs.getD j d)):=by
 rw[Zo,Zc h,ap (Zc h)];rfl
end
section
section
def lZ (Z:Cr K)(he:PE X e (bO K QX E M))(hg:Gl X "isinstance")(hm:X.mg "isinstance"=none)(Hh:Gl X "tuple")(Hd:X.mg "tuple"=none)(h:X.K=K:=by rfl)
  (hs:starEach [e,.Name "tuple" p2] X.env=[(false,eval e X.env),(false,eval (.Name "tuple" p2) X.env)]:=by rfl) (jE:(backTo pos (starEach [.Name "tuple" p2] X.env)).any (·.1)=false:=by rfl) :
  PE X (.Call (.Name "isinstance" p) [e,.Name "tuple" p2] [] pos) (bO K QX E (tQ MF M)):=PE.imp (wn K he hg hm Hh Hd sM MD h ∅ ∅ hs jE) (om λd hd=>by
 cases d with
 |none=>exact Z.t1
 |bool b=>exact Z.t2
 |int i=>exact Z.t3
 |str x=>exact Z.t4
 |list x=>exact Z.t5
 |tuple x=>exact Z.t6
 |dict x=>exact absurd rfl (hd x))
def BD (Z:Cr K)(he:PE X e (bO K QX E M))(hg:Gl X "isinstance")(hm:X.mg "isinstance"=none)(Hh:Gl X "int")(Hd:X.mg "int"=none)(h:X.K=K:=by rfl)
  (hs:starEach [e,.Name "int" p2] X.env=[(false,eval e X.env),(false,eval (.Name "int" p2) X.env)]:=by rfl) (jE:(backTo pos (starEach [.Name "int" p2] X.env)).any (·.1)=false:=by rfl) :
  PE X (.Call (.Name "isinstance" p) [e,.Name "int" p2] [] pos) (bO K QX E (tQ Sy M)):=PE.imp (wn K he hg hm Hh Hd boot_int MD h ∅ ∅ hs jE) (om λd hd=>by
 cases d with
 |none=>exact Z.i1
 |bool b=>exact Z.i2
 |int i=>exact Z.i3
 |str x=>exact Z.i4
 |list x=>exact Z.i5
 |tuple x=>exact Z.i6
 |dict x=>exact absurd rfl (hd x))
def xG (Z:Cr K)(he:PE X e (bO K QX E M))(hg:Gl X "isinstance")(hm:X.mg "isinstance"=none)(Hh:Gl X "bool")(Hd:X.mg "bool"=none)(h:X.K=K:=by rfl)
  (hs:starEach [e,.Name "bool" p2] X.env=[(false,eval e X.env),(false,eval (.Name "bool" p2) X.env)]:=by rfl) (jE:(backTo pos (starEach [.Name "bool" p2] X.env)).any (·.1)=false:=by rfl) :
  PE X (.Call (.Name "isinstance" p) [e,.Name "bool" p2] [] pos) (bO K QX E (tQ WE M)):=PE.imp (wn K he hg hm Hh Hd boot_bool MD h ∅ ∅ hs jE) (om λd hd=>by
 cases d with
 |none=>exact Z.b1
 |bool b=>exact Z.b2
 |int i=>exact Z.b3
 |str x=>exact Z.b4
 |list x=>exact Z.b5
 |tuple x=>exact Z.b6
 |dict x=>exact absurd rfl (hd x))
end
def qm (h0:0<=r)(h1:r<=xs.length):cutD xs (some r) none=xs.drop r.toNat:=by
 let e1:HT.oT xs.length 0 (some r)=r.toNat:=by
  show(if r<0 then (r+(xs.length:Int)).toNat else min r.toNat xs.length)=_
  grind
 unfold cutD;rw[HT.uC,e1,List.take_of_length_le]
 grind
def ab5 (a:br K w g vs [x]):∃v,vs=[v]/\jo K w g v x:=by
 let⟨v,us,rfl,h1,h2⟩:=a.bv;rw[h2.cD];exact⟨v,(),h1⟩
def wD (a:br K w g vs [x,y]):∃v u,vs=[v,u]/\jo K w g v x/\jo K w g u y:=by
 let⟨v,us,rfl,h1,h2⟩:=a.bv;let⟨u,rfl,h3⟩:=ab5 h2;exact⟨v,u,(),h1,h3⟩
theorem fg {α : Type}{f:α->PyData}(h:∀a,Cd (f a)=true):∀xs:List α,qN (xs.map f)=true
 |[]=>rfl
 |a::xs=>by show(Cd (f a)&&qN (xs.map f))=true;rw[h a,fg h xs];rfl
def Lq (q:Rat):Cd (qD q)=true:=rfl
def rk (qs:Δ1):Cd (.tuple (qs.map qD))=true:=fg Lq qs
def zC (r:Γ3):Cd (aS r)=true:=fg (f:=PyData.int) (λ_=>rfl) r
def wP (A:Γ3)(Pu:Δ1)(W:Γ1):Cd (eN A Pu W)=true:=by
 show(qN (A.map .int)&&(qN (Pu.map qD)&&(qN (W.map aS)&&true)))=true;rw[fg (f:=PyData.int) (λ_=>rfl),fg Lq,fg zC];rfl
def XQ (b:Addr)(h:cz (G w O H) v d)(n:Cd d=true):fo b H v d:=cz.R8 n (cz.ar qS h)
def XR (r:aB K w O H)(h:fo b H v d)(n:Cd d=true):cz (G w O H) v d:=mw r.m8 n h
end
section
def gz (Pu:Δ1):qA (Pu.map qD)=Pu:=by
 unfold qA;rw[Zp];have:(Rj ∘ qD)=id:=funext λq=>iF q
 simp_all
def KD (W:Γ1):rowsOf (W.map aS)=W:=by
 unfold rowsOf;rw[Zp];have:(tZ ∘ aS)=id:=funext λr=>by
  show(r.map PyData.int).map be=r;rw[Zp];have:(be ∘ PyData.int)=id:=rfl
  simp_all
 simp_all
def on (A:Γ3):(A.map PyData.int).map be=A:=by
 rw[Zp];have:(be ∘ PyData.int)=id:=rfl
 simp_all
def ND (b:Addr)(h:cz (G w O H) v (eN A Pu W))(m:gh (eN A Pu W)=true) :
  ∃p pa pp pw xa xp xw,v=.ref p/\eA b H p pa pp pw xa xp xw (A.map .int) (Pu.map qD) (W.map aS)/\xa.length=A.length/\xp.length=Pu.length:=by
 let t:=XQ b h (wP A Pu W);cases v with
 |ref p =>
  let⟨pa,pp,pw,xa,xp,xw,mk⟩:=eA.of t m;exact⟨p,pa,pp,pw,xa,xp,xw,(),mk,by rw[mk.ta.len,Zb],by rw[mk.tp.len,Zb]⟩
 |_=>cases t
def abl (b:Addr)(h:cz (G w O H) v (.tuple (qs.map qD)))(hb:∀z∈qs,Rb 2010000 z):∃q ys,v=.ref q/\AT b H q ys qs:=by
 cases XQ b h (rk qs) with |tup h1 h2=>exact⟨_,_,rfl,h1,h2,hb⟩
structure nT (A:Γ3)(Pu:Δ1)(W:Γ1)(qs:Δ1):Prop where
 ok:gh (eN A Pu W)=true
 len:qs.length=A.length
 jC:GY W qs
 bd:∀z∈qs,Rb 2010000 z
def NR:FM:=λO xs P _=>∃ns:Γ3,xs=[.At ns]/\ns.length<=63/\∀O',P (.im (.bool true)) O'
def QB (F:aI Pg wo K mg base cf k f fd ["script"] (cH K NR)):aI Pg wo K mg base cf k f fd ["script"] (ym K):=F.imp λvs H Q E ⟨a,ns,e,hS,hl,hq⟩=>by
 subst e;let bL:∀x,¬ jn ⟨[],[],[],[]⟩ [] x:=λx h=>by
  rcases h with h |⟨o,h⟩ |⟨k,c,h,_⟩
  .cases h
  .cases h
  .simp at h
 let sg:aA H (G ⟨[],[],[],[]⟩ [] H):=λx o h=>by rw[gI (bL x)];exact h
 apply⟨⟨[],[],[],[]⟩,[],[.At ns],λz _=>z=.im (.bool true),λ_ _=>False,⟨(),X9,λa h=>(by cases h),λa h=>(by cases h),X9,λp h=>(by cases h),λa h=>(by cases h),λk c h=>(by simp at h),λk h=>(by cases h)⟩,br.cons ⟨a,(),KG.bG.ar hS sg⟩ br.nil,⟨ns,(),hl,λO'=>rfl⟩,λz q O' w' H' hz e r av=>?_,λc O' w' H' h=>h.elim⟩;subst hz;rw[Dc av];exact hq H'
end
def cI (r:Γ3):Option (List AV):=some (r.map λx=>AV.im (.int x))
def qL (k n:Nat):List AV:=(List.range n).map λt=>AV.own (k+t)
def Bs (k n:Nat):qL k (n+1)=qL k n++[AV.own (k+n)]:=by unfold qL;rw[Y3,Zs];rfl
def Ft (k n:Nat):qL k n=((List.range n).map λt=>k+t).map AV.own:=by unfold qL;rw[Zp];rfl
def rQ {α : Type}(O:List α)(x y:α):(O++[x]).set O.length y=O++[y]:=by rw[List.set_append,if_neg ⋯,Qc];rfl
def jO {α : Type}(O:List α)(x:α):(O++[x])[O.length]?=some x:=by simp
def Kl {α β : Type}(f:α->β)(O:List β)(x:β)(W:List α)(i:Nat)(d:α)(h:i<W.length):(O++(W.map f++[x]))[O.length+i]?=some (f (W.getD i d)):=by
 rw[Yi ⋯,Nat.add_sub_cancel_left,Zq (by simpa using h)];exact jj h
def Gv {α β : Type}(f:α->β)(O:List β)(x:β)(W:List α):(O++(W.map f++[x]))[O.length+W.length]?=some x:=by
 rw[Yi ⋯,Nat.add_sub_cancel_left,Yi (by simp)];simp
def DG (h:i<n):vS n (i:Int)=some i:=by unfold vS;rw[if_pos ⋯,if_pos ⋯,Z0]
def wI (r:Γ3)(j:Nat)(x:Int):((r.map λx=>AV.im (.int x)).set j (.im (.int x)))=(r.set j x).map λx=>AV.im (.int x):=by rw[List.map_set]
def G6 {α β : Type}(f:α->β)(xs:List α)(d:α):(List.range xs.length).map (λi=>f (xs.getD i d))=xs.map f:=by
 apply Ql;intro j;rw[Zo];rcases Z3 j xs.length with y |y
 .rw[Yq y,jj (d:=d) y];rfl
 .rw[Yu (by simpa using y),Yu (by simpa using y)];rfl
def qX (h:(v4 ds es)[i]?=some x):i<ds.length/\x=.im (.tuple [ds.getD i .none,es.getD i .none]):=by
 unfold v4 at h;let hi:i<ds.length:=by have:=(Zf.mp h).1;simpa using this
 rw[Zo,Yq hi] at h;exact⟨hi,(Option.some.inj h).symm⟩
def GF (ds es:Ξ1):(v4 ds es).length=ds.length:=by unfold v4;simp
structure l8 (O:bE)(k:Nat)(ks:List Nat)(W:Γ1):Prop where
 hd:O[k]?=some (some (ks.map AV.own))
 len:ks.length=W.length
 row:∀i,i<W.length->O[ks.getD i 0]?=some (cI (W.getD i []))
def mem_getD {ks:List Nat}(h:i<ks.length):ks.getD i 0∈ks:=by
 rw[ap (Zc h)];exact Zw h
def l8.app (t:l8 O k ks W)(c:Option (List AV)):l8 (O++[c]) k ks W:=by
 apply⟨?_,t.len,λi hi=>?_⟩
 .rw[Zq (Zf.mp t.hd).1];exact t.hd
 .rw[Zq (Zf.mp (t.row i hi)).1];exact t.row i hi
def l8.other {O:bE}(t:l8 O k ks W)(c:Option (List AV))(h:m∉k::ks):l8 (O.set m c) k ks W:=by
 apply⟨?_,t.len,λi hi=>?_⟩
 .rw[Z7 (λe=>h (by rw[e];exact Zh))];exact t.hd
 .rw[Z7 (λe=>h (by rw[e];exact Zk _ (mem_getD (by rw[t.len];exact hi))))];exact t.row i hi
def l8.put {O:bE}(t:l8 O k ks W)(r:Γ3)(hi:i<W.length)(nd:(k::ks).Nodup):l8 (O.set (ks.getD i 0) (cI r)) k ks (W.set i r):=by
 let hn:=Z9.mp nd;let hik:i<ks.length:=by rw[t.len];exact hi
 apply⟨?_,by rw[Yp];exact t.len,λj hj=>?_⟩
 .rw[Z7 (λe=>hn.1 (by rw[<- e];exact mem_getD hik))];exact t.hd
 .rw[Yp] at hj;let ZS:j<ks.length:=by rw[t.len];exact hj
  by_cases e:i=j
  .subst e;rw[Yg (Zf.mp (t.row i hi)).1];have:(W.set i r).getD i []=r:=by rw[List.getD,Yg hi];rfl
   rw[this]
  .have:(W.set i r).getD j []=W.getD j []:=by rw[List.getD,Z7 e];rfl
   rw[this,Z7 (λz=>e ?_)]
   .exact t.row j hj
   .rw[ap (Zc hik),ap (Zc ZS)] at z;exact(List.getElem_inj hn.2).mp z
def l8.push {O:bE}{k m:Nat}{ks:List Nat}{W:Γ1}(t:l8 O k ks W){r:Γ3}(hm:O[m]?=some (cI r))(nd:(k::ks).Nodup)(hk:m≠k):l8 (O.set k (some (ks.map AV.own++[AV.own m]))) k (ks++[m]) (W++[r]):=by
 let hn:=Z9.mp nd;apply⟨?_,by simp[t.len],λi hi=>?_⟩
 .rw[Yg (Zf.mp t.hd).1,Zs];rfl
 .rw[Zt] at hi;by_cases e:i<W.length
  .let e1:(ks++[m]).getD i 0=ks.getD i 0:=by simp only[List.getD];rw[Zq (by rw[t.len];exact e)]
   let e2:(W++[r]).getD i []=W.getD i []:=by simp only[List.getD];rw[Zq e]
   rw[e1,e2,Z7 (λz=>hn.1 (by rw[z];exact mem_getD (by rw[t.len];exact e)))];exact t.row i e
  .let MW:i=W.length:=by simp at hi;omega
   subst MW;let e1:(ks++[m]).getD W.length 0=m:=by simp[List.getD,<- t.len]
   let e2:(W++[r]).getD W.length []=r:=by simp[List.getD]
   rw[e1,e2,Z7 (λz=>hk z.symm)];exact hm
section
end
section
end
section
end
def NS:FM:=λO xs P _=>∃a b,xs=[.im (qD a),.im (qD b)]/\(Rb 32000000 a/\Rb 32000000 b/\0<b)/\P (.im (qD (a / b))) O
def eI (B:Γ1)(i j:Nat):Int:=(B.getD i []).getD j 0
structure One (O O':bE)(k:Nat)(ks:List Nat)(W:Γ1):Prop where
 jt:dJ O O'
 ge:∀x∈k::ks,O.length<=x
 nd:(k::ks).Nodup
 t:l8 O' k ks W
def One.ic {O O':bE}{k i:Nat}{ks:List Nat}{W:Γ1}{sl:j9}{M:MS}{E:yP}(h:One O O' k ks W)(hs:sl[i]?=some (some (.own k)))(hm:∀O2,dJ O O2->M E (sl.set i (some (.im (.list (W.map λr=>.list (r.map .int)))))) O2):yA i M E sl O':=by
 apply⟨k,ks,W.map (λr=>r.map .int),hs,h.t.hd,by rw[Zb];exact h.t.len,λj kj hj=>?_,?_⟩
 .let ZS:=(Zf.mp hj).1;let hjW:j<W.length:=by rw[<- h.t.len];exact ZS
  have:=h.t.row j hjW;rw[ap hj] at this;rw[this,jv (a:=[]) hjW,Zp];rfl
 .rw[Zp];exact hm _ (dJ.none h.jt λx hx=>h.ge x hx)
section
end
def tY (g:Nat)(W:Γ1):Γ3:=((List.range g).filter (has W)).map λj:Nat=>(j:Int)
def i0 {W:Γ1}(h:((W.map aS).map AV.im)[i]?=some x):i<W.length/\x=.im (.tuple ((W.getD i []).map .int)):=by
 let hi:i<W.length:=by have:=(Zf.mp h).1;simpa using this
 rw[Zo,jj (d:=[]) hi] at h;exact⟨hi,(Option.some.inj h).symm⟩
def One.app (h:One O O' k ks W)(c:Option (List AV)):One O (O'++[c]) k ks W:=⟨h.jt.app c,h.ge,h.nd,h.t.app c⟩
def One.lt (h:One O O' k ks W):∀x∈k::ks,x<O'.length:=λx hx=>by
 rcases Zj.mp hx with rfl |hx
 .exact(Zf.mp h.t.hd).1
 .obtain⟨i,hi,rfl⟩:=Yj hx;have:=h.t.row i (by rw[<- h.t.len];exact hi);rw[ap (Zc hi)] at this;exact(Zf.mp this).1
def One.push (h:One O O' k ks W)(hm:O'[m]?=some (cI r))(hO:O.length<=m)(hn:m∉k::ks):One O (O'.set k (some (ks.map AV.own++[AV.own m]))) k (ks++[m]) (W++[r]):=by
 let GL:=hn;let nd:=Z9.mp h.nd;simp only[Zj,not_or] at GL;apply⟨h.jt.set (h.ge k Zh) _,λx hx=>?_,?_,h.t.push hm h.nd GL.1⟩
 .simp only[Zj,Zv,Qq,or_false] at hx;rcases hx with e |e |e
  .subst e;exact h.ge _ Zh
  .exact h.ge _ (Zk _ e)
  .subst e;exact hO
 .apply Z9.mpr ⟨λz=>?_,X0.mpr ⟨nd.2,by simp,λa ha b hb e=>?_⟩⟩
  .rcases Zv.mp z with z |z
   .exact nd.1 z
   .exact GL.1 (Z1.mp z).symm
  .subst e;rw[Z1.mp hb] at ha;exact GL.2 ha
def EQ:worse row qs g o=(decide (0<row.getD o 0)&&decide (row.getD g 0*(qs.getD o 0).num*((qs.getD g 0).den:Int)<row.getD o 0*(qs.getD g 0).num*((qs.getD o 0).den:Int))):=by
 unfold worse
 congr 1
 exact decide_eq_decide.mpr A1
def gJ (row:Γ3)(qs:Δ1)(g n:Nat):Bool:=decide (row.getD g 0=0)||(List.range n).any (worse row qs g)
def Ik:FM:=λO xs P _=>∃(A:Γ3) (Pu:Δ1) (W:Γ1) (qs:Δ1),xs=[.im (eN A Pu W),.im (.tuple (qs.map qD))]/\qs.length<=6/\W.length<=6/\(∀i,i<W.length->(W.getD i []).length=qs.length)/\(∀i j,i<W.length->j<qs.length->0<=eI W i j/\eI W i j<=100)/\(∀z∈qs,Rb 2009987 z)/\∀O',dJ O O'->P (.im (.list ((ak W qs).map λr=>.list (r.map .int)))) O'
abbrev NBe:Δ2:=["market","prices","found","row","best","good","top","bottom","worse","other","there"]
def Ul:MS:=(bu (bI (HJ ay) (bh 2))
 (bu (kc (cM (bA cv (ah 0) (mC (.int 2)))) (bh 3) (bu (bI (HJ ay) (bh 4))
 (bu (kc (tP (af (jX ma (af (ah 3) ay)) ay)) (bh 5) (bu (bI (bA cv (ah 1) (ah 5)) (kZ 2 (aE (bh 6) (aE (bh 7) bY))))
 (bu (bI (bA (Cm false) (bA cv (ah 3) (ah 5)) (mC (.int 0))) (bh 8))
 (bu (kc (tP (af (jX ma (af (ah 3) ay)) ay)) (bh 9) (bu (bI (bA tO (bA tO (bA cv (ah 3) (ah 9)) (ah 6)) (bA cv (bA cv (ah 1) (ah 9)) (mC (.int 1)))) (bh 10))
 (li (LI (dD (bA Hm (bA cv (ah 3) (ah 9)) (mC (.int 0)))) (dD (bA ltF (bA tO (bA tO (bA cv (ah 3) (ah 5)) (bA cv (bA cv (ah 1) (ah 9)) (mC (.int 0)))) (ah 7)) (ah 10)))) (bI (mC (.bool true)) (bh 8)) gj)))
 (li (wu (AK (ah 8))) (pF (C7 (ah 4) (af (ah 5) ay))) gj)))))
 (pF (C7 (ah 2) (af (ah 4) ay))))))
 (yA 2 (cK (ah 2)))))
def EJ (hx:Bd a x)(hy:Bd b y)(h:a+b<=c):Bd c (x*y):=(hx.mul hy).mono h
def bd7 (h0:0<=x)(h1:x<=100):Bd 7 x:=by unfold Bd;omega
def OU:∀O xs Pq QX,Ik O xs Pq QX->Ul { nx:=λ_ O'=>Pq (.im .none) O',rt:=Pq } (aY NBe xs) O:=by
 intro O xs Pq QX h;let⟨A,Pu,W,qs,rfl,g6,n6,hr,hw,hz,h⟩:=h;let ZG:∀j,j<qs.length->fj (qs.map qD) (j:Int)=some (qD (qs.getD j 0)):=λj hj=>aZ (jj hj)
 let MN:∀j,j<qs.length->Rb 2009987 (qs.getD j 0):=λj hj=>hz _ (by rw[ap (Zc hj)];exact Zw _)
 apply⟨∅,⟨_,(),?_⟩⟩;conv=>whnf
 apply⟨λi sl O'=>∃(ks:List Nat) (y3 y4 y5 y6 y7 y8 y9 x9:Option AV),sl=[Φ9 (eN A Pu W),Φ9 (.tuple (qs.map qD)),some (.own O.length),y3,y4,y5,y6,y7,y8,y9,x9]/\One O O' O.length ks ((ak W qs).take i),⟨[],none,none,none,none,none,none,none,none,(),⟨⟨_,()⟩,λx hx=>by rw[Z1.mp hx];exact Ze _,by simp,⟨jO _ _,(),λi hi=>absurd hi (by simp)⟩⟩⟩,?_,?_⟩
 .rintro i x sl O' hx ⟨ks,y3,y4,y5,y6,y7,y8,y9,x9,rfl,T⟩;let⟨hi,rfl⟩:=i0 hx;let CM:=hr i hi;let WI:∀j,j<qs.length->fj ((W.getD i []).map PyData.int) (j:Int)=some (.int (eI W i j)):=λj hj=>aZ (jj (by rw[CM];exact hj))
  let hOl:O.length<=O'.length:=by let⟨t,rfl⟩:=T.jt;simp
  apply⟨⟨∅,?_⟩⟩;apply⟨⟨by rw[Zb];omega,by rw[Zb];omega⟩,λj sl O2=>∃(y5 y6 y7 y8 y9 x9:Option AV),sl=[Φ9 (eN A Pu W),Φ9 (.tuple (qs.map qD)),some (.own O.length),Φ9 (.tuple ((W.getD i []).map .int)),some (.own O'.length),y5,y6,y7,y8,y9,x9]/\O2=O'++[cI (((List.range j).filter (du (W.getD i []) qs)).map λg:Nat=>(g:Int))],⟨_,_,_,_,_,_,(),()⟩,?_,?_⟩
  .rintro j x sl O2 hx ⟨y5,y6,y7,y8,y9,x9,rfl,rfl⟩;let⟨hj,rfl⟩:=fD hx;rw[Zb,Z0,CM] at hj;apply⟨_,ZG j hj,(),⟨_,WI j hj,dI,?_⟩⟩;let⟨bw0,bw1⟩:=hw i j hi hj;let⟨bn,bd⟩:=MN j hj;let hw0:RQ (.int (eI W i j)) (.int 0)=gJ (W.getD i []) qs j 0:=by
    unfold gJ eI;show decide _=_;simp
   rw[hw0];apply⟨⟨by rw[Zb];omega,by rw[Zb];omega⟩,λo sl O3=>O3=O'++[cI (((List.range j).filter (du (W.getD i []) qs)).map λg:Nat=>(g:Int))]/\∃(y9 x9:Option AV),sl=[Φ9 (eN A Pu W),Φ9 (.tuple (qs.map qD)),some (.own O.length),Φ9 (.tuple ((W.getD i []).map .int)),some (.own O'.length),Φ9 (.int j),Φ9 (.int (qs.getD j 0).num),Φ9 (.int ((qs.getD j 0).den:Int)),Φ9 (.bool (gJ (W.getD i []) qs j o)),y9,x9],⟨(),_,_,()⟩,?_,?_⟩
   .rintro o x sl O3 hx ⟨rfl,y9,x9,rfl⟩;let⟨ho,rfl⟩:=fD hx;rw[Zb,Z0,CM] at ho;let⟨bo0,bo1⟩:=hw i o hi ho;let⟨bon,bod⟩:=MN o ho;let b7:=bd7 bo0 bo1;let b7':=bd7 bw0 bw1;apply⟨_,WI o ho,⟨b7.mono ∅,bn.mono ∅⟩,_,ZG o ho,_,(),⟨EJ b7 bn ∅,bod.mono ∅⟩,⟨_,WI o ho,?_⟩⟩;let ew:gJ (W.getD i []) qs j (o+1)=(gJ (W.getD i []) qs j o||worse (W.getD i []) qs j o):=by
     unfold gJ;rw[Y3,List.any_append,Bool.or_assoc];simp
    rw[EQ] at ew;by_cases d4:0<eI W i o
    .apply⟨λ_=>?_,λz=>absurd z (by show ¬ decide (0<eI W i o)=false;rw[decide_eq_true d4];decide)⟩;apply⟨_,WI j hj,_,ZG o ho,_,(),⟨b7'.mono ∅,bon.mono ∅⟩,⟨EJ b7' bon ∅,bd.mono ∅⟩,?_⟩;let KN:decide (0<(W.getD i []).getD o 0)=true:=decide_eq_true d4;rw[KN] at ew;cases hc:decide ((W.getD i []).getD j 0*(qs.getD o 0).num*((qs.getD j 0).den:Int)<(W.getD i []).getD o 0*(qs.getD j 0).num*((qs.getD o 0).den:Int)) with
     |true =>
      apply⟨λ_=>?_,λz=>absurd (hc.symm.trans z) ∅⟩;rw[hc,Xh,Bool.or_true] at ew;exact⟨(),_,_,by rw[ew];rfl⟩
     |false =>
      apply⟨λz=>absurd (hc.symm.trans z) ∅,λ_=>?_⟩;rw[hc,Bool.and_false,Bool.or_false] at ew;exact⟨(),_,_,by rw[ew];rfl⟩
    .let KN:decide (0<(W.getD i []).getD o 0)=false:=decide_eq_false d4;apply⟨λz=>absurd (KN.symm.trans z) ∅,λ_=>⟨λz=>(by cases z),λ_=>?_⟩⟩;rw[KN,Bool.false_and,Bool.or_false] at ew;exact⟨(),_,_,by rw[ew];rfl⟩
   .rintro sl O3 ⟨rfl,y9,x9,rfl⟩;rw[gR,Zb,Z0];let hb:du (W.getD i []) qs j=!gJ (W.getD i []) qs j (W.getD i []).length:=by
     unfold du gJ;rw[Bool.not_or,List.not_any_eq_all_not];simp
    let ZD:((List.range (j+1)).filter (du (W.getD i []) qs)).map (λg:Nat=>(g:Int))=((List.range j).filter (du (W.getD i []) qs)).map (λg:Nat=>(g:Int))++(if du (W.getD i []) qs j=true then [(j:Int)] else []):=by
     exact gB _ _ _
    cases hc:gJ (W.getD i []) qs j (W.getD i []).length with
    |true =>
     rw[hc] at hb;apply⟨⟨(),⟨λz=>(by cases z),λ_=>?_⟩⟩⟩;rw[if_neg (by rw[hb];decide),Yh] at ZD;exact⟨_,_,_,_,_,_,(),by rw[ZD]⟩
    |false =>
     rw[hc] at hb;apply⟨⟨(),⟨λ_=>⟨⟨_,jO _ _⟩,_,jO _ _,?_,_,_,_,_,_,_,(),?_⟩,λz=>(by cases z)⟩⟩⟩
     .rw[Zb,Zb];have:=Yz (du (W.getD i []) qs) (List.range j);rw[Yk] at this;rw[sz];omega
     .rw[rQ,ZD,if_pos (by rw[hb];rfl)];unfold cI;rw[Zs];rfl
  .rintro sl O2 ⟨y5,y6,y7,y8,y9,x9,rfl,rfl⟩;rw[gR,Zb,Z0];let T1:=T.app (cI (((List.range (W.getD i []).length).filter (du (W.getD i []) qs)).map λg:Nat=>(g:Int)));apply⟨⟨⟨_,T1.t.hd⟩,_,T1.t.hd,?_,ks++[O'.length],_,_,_,_,_,_,_,_,(),?_⟩⟩
   .have:=T.t.len;rw[Yy] at this;rw[Zb,this,sz];omega
   .let T2:=T1.push (m:=O'.length) (r:=((List.range (W.getD i []).length).filter (du (W.getD i []) qs)).map λg:Nat=>(g:Int)) (jO _ _) hOl (λz=>by have:=T.lt _ z;omega);let e:(ak W qs).take (i+1)=(ak W qs).take i++[((List.range (W.getD i []).length).filter (du (W.getD i []) qs)).map λg:Nat=>(g:Int)]:=by
     let e0:(ak W qs)[i]?=some (((List.range (W.getD i []).length).filter (du (W.getD i []) qs)).map λg:Nat=>(g:Int)):=by
      unfold ak aV;exact jj hi
     rw[List.take_add_one,e0];rfl
    rw[e];exact T2
 .rintro sl O' ⟨ks,y3,y4,y5,y6,y7,y8,y9,x9,rfl,T⟩;let hl:((W.map aS).map AV.im).length=(ak W qs).length:=by unfold ak;simp
  rw[hl,Yf] at T;exact⟨T.ic rfl λO2 hG=>h O2 hG⟩
section
end
def EC (p q:Rat):RQ (qD p) (qD q)=decide (p=q):=by rw[xc,EB]
def xS (h1:dJ O O1)(h2:dJ O1 O2):dJ O O2:=by
 let⟨t,rfl⟩:=h1;let⟨u,rfl⟩:=h2;exact⟨t++u,by rw[Yr]⟩
def Dd:FM:=λO xs P _=>∃(A:Γ3) (Pu:Δ1) (W:Γ1),xs=[.im (eN A Pu W)]/\A.length<=6/\W.length<=6/\(∀i,i<W.length->(W.getD i []).length=A.length)/\P (.im (.tuple ((tY A.length W).map .int))) O
abbrev NWp:Δ2:=["market","amounts","purses","wishes"]
def T7:MS:=(bu (bI (ah 0) (kZ 3 (aE (bh 1) (aE (bh 2) (aE (bh 3) bY)))))
 (cK (jX oU (af (cN 1 [3] (tP (af (jX ma (af (ah 1) ay)) ay)) (bh 0) (dD (jX Dj (af (cN 1 [0] (cM (ah 1)) (bh 0) eu (bA Hm (bA cv (ah 0) (ah 1)) (mC (.int 0)))) ay))) (ah 0)) ay))))
def Km:(W.map λr:Γ3=>decide (0<r.getD j 0)).any id=has W j:=by
 unfold has;rw[X6];rfl
def OI:∀O xs Pq QX,Dd O xs Pq QX->T7 { nx:=λ_ O'=>Pq (.im .none) O',rt:=Pq } (aY NWp xs) O:=by
 intro O xs Pq QX h;let⟨A,Pu,W,rfl,g6,n6,hr,h⟩:=h;apply⟨(),⟨⟨by rw[Zb];omega,by rw[Zb];omega⟩,jh (has W) (λj=>.int (j:Int)) (by rw[gR,Zb];omega) (λj x Z hx hZ=>?_) (λj x Z hx _ hZ=>?_) ?_⟩⟩
 .obtain⟨hj,rfl⟩:=fD hx;rw[Zb,Z0] at hj;conv=>whnf
  apply G2 (λi=>.bool (decide (0<(W.getD i []).getD j 0))) (by simp;omega) (λi x Z hx hZ=>?_) ?_
  .obtain⟨hi,rfl⟩:=i0 hx;exact⟨_,aZ (jj (f:=PyData.int) (d:=0) (by rw[hr i hi];omega)),hZ⟩
  .apply⟨W.map λr=>decide (0<r.getD j 0),?_,?_⟩
   .rw[Zb,Zb,G6 (λr:Γ3=>PyData.bool (decide (0<r.getD j 0))) W [],Zp];rfl
   .rw[Km];exact hZ
 .obtain⟨hj,rfl⟩:=fD hx;exact hZ
 .rw[gR,Zb,Z0];unfold tY at h;rw[Zp] at h;exact h
section
end
section
def gC (f:Nat->PyData)(a b:Nat->PyData)(hl:items.length<=1000000)(hi:∀(i:Nat) (x:AV),items[i]?=some x->x=.im (.tuple [a i,b i]))
  (hs:∀(i:Nat) (Z:AV->bE->Prop),i<items.length->Z (.im (f i)) O->M (((dh n ix sl).set 0 (some (.im (a i)))).set 1 (some (.im (b i)))) O Z)
  (hd:Q (.im (.list ((List.range items.length).map f))) O):CB n ix (kZ 2 (aE (bh 0) (aE (bh 1) bY))) eu M sl Q items O:=by
 apply⟨hl,λi ds O'=>O'=O/\ds=(List.range i).map f,⟨(),()⟩,?_,λds O' ⟨e,h1⟩=>by rw[e,h1];exact hd⟩;rintro i x ds O' hx ⟨rfl,rfl⟩;let cG:=(Zf.mp hx).1;rw[hi i x hx];apply⟨(),λ_=>hs i _ cG ⟨(),by rw[Y3,Zs];rfl⟩,λz=>(by cases z)⟩
end
def i7 (h:(cT ds)[i]?=some x):i<ds.length/\x=.im (.tuple [.int (i:Int),ds.getD i .none]):=by
 unfold cT at h;let hi:i<ds.length:=by have:=(Zf.mp h).1;simpa using this
 rw[Zo,Yq hi] at h;exact⟨hi,(Option.some.inj h).symm⟩
section
def ef (C:bS X.K X.mg X.prog X.w X.base x k ps sp f fd)(lk:tH K sp F)(hr:cS n X.A)
  (ha:PA X (e::es) (vz K QX E Ms)) (hn:k<=n:=by decide) (hg:Gl X x:=by rfl) (vW:(x == ("__debug__" : Str))=false:=by decide) (he:starEach (e::es) X.env=(false,eval e X.env)::starEach es X.env:=by rfl) (jE:(backTo pos (starEach es X.env)).any (·.1)=false:=by rfl) :
  PE X (.Call (.Name x p) (e::es) [] pos) (bO K QX E (aG F cQ Ms)):=FL C.ok lk (hr.mono hn) hg C.mg C.kp C.bd ha vW he jE
def mv (i:Nat)(hN:X.N[i]?=some x:=by rfl)(hv:Td X.env.scope x:=by first |exact Or.inl rfl |exact Or.inr (Or.inl rfl) |exact Or.inr (Or.inr rfl))(hd:(x == ("__debug__" : Str))=false:=by decide)
  (vX:(x == ("__classdict__" : Str))=false:=by decide):PE X (.Name x pos) (bO K QX E (ah i)):=P1 (pv i hN hv hd vX)
def gD (hN:X.N.Nodup)(he:PE X e (bO K QX E M))(hi:X.N[i]?=some x:=by rfl)(hx:Loc X.env.scope x:=by exact Or.inl rfl)(hs:swapsWith e (some (.Name x lh)) pos.line X.env=pure false:=by rfl)(hf:X.fn x=true\/X.env.scope.names.lookup x=some .local:=by first |exact .inl rfl |exact .inr rfl |assumption) :
  PS X (.Assign [.Name x lh] e pos) (jB K QX E (bI M (bh i))):=rB hN hi hx he hs hf
def dU (hN:X.N.Nodup)(hi:X.N[i]?=some x:=by rfl)(hx:Loc X.env.scope x:=by exact Or.inl rfl)(hf:X.fn x=true\/X.env.scope.names.lookup x=some .local:=by first |exact .inl rfl |exact .inr rfl |assumption):PG X (.Name x pos) (oR K QX E (bh i)):=gZ (iT hN hi hx hf)
end
end MI
namespace L2
def j6 (sp:Sp):Sp:=λvs H Q _=>sp vs H Q E0
def rh:PS X st (λ_ _ _=>False):=λae s σ H D I h=>h.elim
end L2
namespace MI
open L2 KG EX KM
section
def Cy (C:bS X.K X.mg X.prog X.w X.base x k ps (j6 sp) f fd)(lk:tH K sp F)(hr:cS n X.A)
  (ha:PA X (e::es) (vz K QX E Ms)) (hn:k<=n:=by decide) (hg:Gl X x:=by rfl) (vW:(x == ("__debug__" : Str))=false:=by decide) (he:starEach (e::es) X.env=(false,eval e X.env)::starEach es X.env:=by rfl) (jE:(backTo pos (starEach es X.env)).any (·.1)=false:=by rfl) :
  PE X (.Call (.Name x p) (e::es) [] pos) (bO K QX E (aG F cQ Ms)):=PE.imp (dX C.ok (hr.mono hn) hg C.mg C.kp C.bd (GW:=[]) .nil aN ha vW he jE) λσ H Q ⟨w,O,sl,Q0,c,m,q⟩=>⟨w,O,sl,_,c,m,λxs O1 vs w1 H1 h1 e1 r1 a1=>by
 show sp (vs++[]) H1 Q E0;rw[Yh];exact lk w1 O1 H1 vs xs _ cQ Q E0 r1 a1 h1 (λz z' O3 w3 H3 h3 e3 r3 a3=>q _ O3 z w3 H3 h3 (e1.trans e3) r3 a3) λk O' w' H' qx e' r'=>qx.elim⟩
end
end MI
namespace CV
open L2 KG EX KM
def top (i:Nat):Stmt:=PySem.Challenge.pw_wishmart_k19_worths_told.main.body.getD i (.Pass ⟨0,0,0,0⟩)
section
variable {P:Program}{w:World}{K:Θ1}{mg:Θ3}{base:Heap}
def IL:ai ["thing"] ["thing"] (bF (top 7)):=L2.dj
def Fw (F:cR K "is_whole" "is_whole" (top 7) f fd)(N:Nm mg)(Z:Cr K):aI P w K mg base cf 1 f fd ["thing"] (spT kE):=by
 apply F.ok IL (λvs H Q E h=>?_) (λbH A outer s H vs Q E hr h=>?_)
 .obtain⟨b,v,d,rfl,_⟩:=h;rfl
 .obtain⟨b,v,d,rfl,hT,k⟩:=h;apply⟨_,dY (gc (wM (wn K (pv 0) rfl N.isinstance rfl N.int boot_int MD) (wK (O8 (wn K (pv 0) rfl N.isinstance rfl N.bool boot_bool MD))))),?_⟩;let⟨t1,R7,e1⟩:=isi Z hT;let⟨t2,ty2,e2⟩:=isb Z hT;apply⟨_,(),t1,_,R7,e1,_,(),?_⟩;let hk:=k H (aA.refl H);rw[xO] at hk;cases hi:Sy d with
  |true =>
   rw[hi] at hk;apply cL ⟨_,(),t2,_,ty2,e2,_,(),hk⟩
  |false =>
   rw[hi] at hk;exact cP hk
def K8:ai ["one","other"] ["one","other"] (bF (top 9)):=L2.dj
def PH (F:cR K "common_divisor" "common_divisor" (top 9) f fd)(N:Nm mg):aI P w K mg base cf 1 f fd ["one","other"] K4:=by
 apply F.ok K8 (λvs H Q E h=>?_) (λbH A outer s H vs Q E hr h=>?_)
 .obtain⟨t,u,rfl,_⟩:=h;rfl
 .obtain⟨t,u,rfl,u0,k⟩:=h;apply⟨_,d9 (kM PassesOwn.never (pz t9 (pv 1) bB (aO _)) (dY (rg (i:=0) (j:=1) rfl K8.nd rfl rfl ∅ rfl rfl (aP (pv 1) (aP (cY gP (pv 0) (pv 1)) bN)) (by rfl))))
   (dY (gc (vC ot (by rfl) N.abs boot_abs (aP (pv 0) bN)))),?_⟩
  apply nX (λσ H'=>H'=H/\∃a c:Int,σ=[some (.int a),some (.int c)]/\0<=c/\Int.gcd a c=Int.gcd t u)
   (λσ _=>match σ with |[_,some (.int c)]=>c.toNat |_=>0) ⟨rfl,t,u,rfl,u0,rfl⟩ ?_ ?_
  .rintro σ H' ⟨rfl,a,c,rfl,c0,e⟩;apply⟨_,(),(),_,(),?_⟩;by_cases hc:c=0
   .subst hc;apply cP ?_;apply⟨_,(),_,(),?_⟩;rw[Kn,e];exact k
   .let e1:(!decide (V.int c=V.int 0))=true:=by simp[hc]
    rw[e1];apply cL ?_;let cp:0<c:=⋯;apply⟨_,(),_,(),_,(),_,_,(),(),cp,_,_,(),⟨(),c,a % c,(),Qv _ hc,FX.trans e⟩,?_⟩;let h1:=Q9 a cp;let h2:=Qv a hc;show(a % c).toNat<c.toNat;omega
  .rintro σ H' Q1 Q2 qP ⟨v,e,sc,kk,ek,q⟩;exact⟨v,e,sc,kk,ek,qP _ _ q⟩
def wH:ai ["thing","top","bottom"] ["thing"] (bF (top 8)):=L2.dj
def By (F:cR K "is_fraction" "is_fraction" (top 8) f fd)(N:Nm mg)(Z:Cr K)(W:bS K mg P w base "is_whole" 1 ["thing"] (spT kE) fW dW)(G:bS K mg P w base "common_divisor" 1 ["one","other"] K4 fG dG):aI P w K mg base cf 2 f fd ["thing"] (spT bT):=by
 apply F.ok wH (λvs H Q E h=>?_) (λbH A outer s H vs Q E hr h=>?_)
 .obtain⟨b,v,d,rfl,_⟩:=h;rfl
 .obtain⟨b,v,d,rfl,hT,k⟩:=h;apply⟨_,d9 (ph (PW.pt (pw_or (gL (fV (wn K (pv 0) rfl N.isinstance rfl N.tuple sM MD))) (pw_or1 (pz t9 (vC fw (by rfl) N.len Ys (aP (pv 0) bN)) bB (aO _))))) (dY (gc t7)) pq)
   (d9 (jI (pv 0) (jJ rfl (ye (iT (i:=1) wH.nd rfl (Or.inl rfl)) (ye (iT (i:=2) wH.nd rfl (Or.inl rfl)) gU))))
   (d9 (ph (PW.pt (pw_or (gL (fV (dX W.ok hr rfl W.mg W.kp W.bd .nil aN (aP (pv 1) bN)))) (pw_or1 (gL (fV (dX W.ok hr rfl W.mg W.kp W.bd .nil aN (aP (pv 2) bN))))))) (dY (gc t7)) pq)
   (dY (gc (wM (fE VC (pv 2) bB (aO _)) (wK (fE nv (dX G.ok hr rfl G.mg G.kp G.bd .nil aN (aP (pv 1) (aP (pv 2) bN))) bB (aO _)))))))),?_⟩
  let⟨t1,R7,e1⟩:=ist Z hT;apply⟨_,(),t1,_,R7,e1,_,(),?_⟩;let hk:=k H (aA.refl H);rcases yT hT with hn |⟨a,xs,ds,rfl,rfl,ha,hs⟩
  .rw[hn];rw[BO hn] at hk;exact cL (cL hk)
  apply cP ?_;apply⟨_,(),a,xs,(),.inr (aQ.of ha),(),_,(),?_⟩;by_cases hl:xs.length=2
  case neg =>
   let e2:(!decide (V.int (xs.length:Int)=V.int 2))=true:=yR (b:=2) hl;rw[e2];let KO:ds.length≠2:=by rw[<- hs.len];exact hl
   let e3:bT (.tuple ds)=false:=xP KO;rw[e3] at hk;exact cL hk
  let e2:(!decide (V.int (xs.length:Int)=V.int 2))=false:=by rw[hl];rfl
  rw[e2];apply cP ?_;let⟨x,y,dx,dy,rfl,rfl,hx,hy⟩:=ET hs hl;apply⟨_,(),a,_,(),aQ.of ha,(),_,_,(),_,_,(),(),?_⟩;apply⟨_,(),b,x,dx,(),hx,λH1 s1=>?_⟩;apply⟨_,(),?_⟩;rcases sk hx with hn |⟨i,rfl,rfl⟩
  .rw[hn];apply cL (cL ?_);let e3:bT (.tuple [dx,dy])=false:=by cases dx<;>first |rfl |cases hn
   rw[e3] at k;exact k H1 s1
  apply cP ?_;apply⟨_,(),b,y,dy,(),hy.ar s1,λH2 s2=>?_⟩;apply⟨_,(),?_⟩;rcases sk hy with hn |⟨j,rfl,rfl⟩
  .rw[hn];apply cL ?_;let e3:bT (.tuple [.int i,dy])=false:=by cases dy<;>first |rfl |cases hn
   rw[e3] at k;exact k H2 (s1.trans s2)
  apply cP ?_;apply⟨_,(),_,_,(),(),_,(),?_⟩;let MU:Q (.bl (decide ((1:Int)<=j)&&decide (Int.gcd i j=1))) H2:=k H2 (s1.trans s2);by_cases hj:1<=j
  .let e4:decide ((1:Int)<=j)=true:=by simpa using hj
   rw[e4] at MU ⊢;apply cL ⟨_,(),_,(),i,j,(),⋯,(),?_⟩;let e5:decide (V.int ((Int.gcd i j:Nat):Int)=V.int 1)=decide (Int.gcd i j=1):=by
    rw[decide_eq_decide];constructor
    .intro h;injection h with h;omega
    .intro h;rw[h];rfl
   rw[e5];simpa using MU
  .let e4:decide ((1:Int)<=j)=false:=by simpa using hj
   rw[e4] at MU ⊢;exact cP MU
def D8:ai ["bag","many","found"] ["bag","many"] (bF (top 62)):=L2.dj
def JA (F:cR K "_law_take" "_law_take" (top 62) f fd):aI P w K mg base cf 1 f fd ["bag","many"] qY:=by
 apply F.ok D8 (λvs H Q E h=>?_) (λbH A outer s H vs Q E hr h=>?_)
 .obtain⟨b,m,rfl,_⟩:=h;rfl
 .obtain⟨b,m,rfl,⟨c,d,hb⟩,h0,h1,k⟩:=h;apply⟨_,d9 (ph (pz ii (dz lj (pv 0) bB (λ_ _=>rfl)) bB (aO _))
    (d9 (k9 (i:=2) D8.nd rfl (Or.inl rfl) (cY gP (dz lj (pv 0) bB (λ_ _=>rfl)) (pv 1)))
     (d9 (jI (cY rY (dz lj (pv 0) bB (λ_ _=>rfl)) (pv 1)) (wJ (pv 0) bB kJ)) (dY (gc (pv 2))))) pq)
   (d9 (jI (cY gP (cY iH (dz lj (pv 0) bB (λ_ _=>rfl)) bB) bB) (wJ (pv 0) bB kJ))
    (dY (gc (cY gP (cY rY (cY gP (cY iH (cY rY (dz lj (pv 0) bB (λ_ _=>rfl)) bB) (cY cV (cY gP (dz lj (pv 0) bB (λ_ _=>rfl)) bB) bB)) bB) bB) (pv 1))))),?_⟩
  apply⟨_,(),b,_,_,_,(),(),bG.of hb,(),_,_,(),(),_,(),?_⟩;apply AO (λhc=>?_) (λhc=>?_)
  .apply⟨_,(),b,_,_,_,(),(),bG.of hb,(),_,(),_,_,(),(),h0,?_⟩;apply⟨_,(),b,_,_,_,(),(),bG.of hb,(),_,(),_,_,(),(),⟨h0,h1⟩,?_⟩;apply⟨_,(),b,_,_,0,(),(),hb,(),?_⟩;apply⟨_,(),k _ _ (Qv _ ⋯) (Q9 _ h0) ⟨_,_,de⟩ (Kp.refl b H).bag⟩
  .apply⟨_,(),b,_,_,_,(),(),bG.of hb,(),_,_,(),(),.inr ⟨∅,∅⟩,_,_,(),(),(by show(0:Int)<2147483647;decide),?_⟩;apply⟨_,(),b,_,_,1,(),(),hb,(),?_⟩;let l7:(aK H b (.lst [V.int c,V.int (d*48271 % 2147483647)])) b=some (.lst [V.int c,V.int (d*48271 % 2147483647)]):=de;apply⟨_,(),b,_,_,_,(),(),bG.of l7,(),_,_,(),(),⟨∅,∅⟩,?_⟩;apply⟨_,(),b,_,_,_,(),(),bG.of l7,(),_,_,(),(),(by show(0:Int)<32749;decide),_,_,(),(),?_⟩;apply⟨_,_,(),(),.inr ⟨?_,?_⟩,?_⟩
   .have:=Qv (d*48271 % 2147483647) (show(32749:Int)≠0 by decide);omega
   .have:=Q9 (d*48271 % 2147483647) (show(0:Int)<32749 by decide);omega
   apply⟨_,_,(),(),(by show(0:Int)<2147483629;decide),_,_,(),(),⟨∅,∅⟩,_,(),_,_,(),(),h0,?_⟩;exact k _ _ (Qv _ ⋯) (Q9 _ h0) ⟨_,_,de⟩ (Kp.refl b H).bag
def yr:ai ["script","k","cell","seed"] ["script","k"] (bF (top 61)):=L2.dj
def PM (F:cR K "_law_bag" "_law_bag" (top 61) f fd)(B:Nm mg):aI P w K mg base cf 1 f fd ["script","k"] (Ds K):=by
 apply F.ok yr (λvs H Q E h=>?_) (λbH A outer s H vs Q E hr h=>?_)
 .obtain⟨a,ns,k,rfl,_⟩:=h;rfl
 .obtain⟨a,ns,k,rfl,hS,h0,h1,q⟩:=h;apply⟨_,d9 (k9 (i:=2) yr.nd rfl (Or.inl rfl) bB)
   (d9 (ph (pz nu (pv 1) (vC ia (by rfl) B.len Ys (aP (pv 0) bN)) (aO _))
    (dY (k9 (i:=2) yr.nd rfl (Or.inl rfl) (cY gP (dz zQ (pv 0) (pv 1) (λ_ _=>rfl)) (cY nJ bB bB)))) pq)
   (d9 (k9 (i:=3) yr.nd rfl (Or.inl rfl) (cY cV bB (cY gP (cY cV (cY cV (cY cV (cY iH (cY gP (pv 2) bB) bB) (cY iH (cY iH bB (pv 1)) (pv 1))) (cY iH bB (pv 1))) bB) bB)))
   (d9 (ph (pz nu (pv 2) (cY nJ bB bB) (aO _)) (dY (gc (iG (aP bB (aP (pv 3) bN))))) pq)
   (dY (gc (iG (aP (pv 2) (aP (pv 3) bN)))))))),?_⟩
  apply⟨_,(),_,(),a,_,(),.inl hS,_,_,(),(),_,(),?_⟩;apply AO (λhc=>?aaX) (λhc=>?ajA)
  case' aaX =>
   let hk:k<(ns.length:Int):=by simpa using of_decide_eq_true hc
   let tD:fj (ns.map V.int) k=some (V.int (ns.getD k.toNat 0)):=by
    let e:(ns.map V.int)[k.toNat]?=some (V.int (ns.getD k.toNat 0)):=by
     let hl:k.toNat<ns.length:=⋯;rw[Zo,Zc hl];simp[List.getD,Zc hl]
    have:=mW e;rw[Xe h0] at this;exact this
   apply⟨_,(),_,(),a,_,_,_,(),(),hS,tD,_,_,(),(),⟨∅,∅,∅⟩,_,_,(),(),(by show(0:Int)<10 ^ 60;decide),?_⟩
  all_goals
   apply⟨_,(),_,_,(),(),(by show(0:Int)<2147483629;decide),_,_,(),(),.inr ⟨∅,∅⟩,?_⟩;apply⟨_,(),_,_,(),(),.inl ⟨∅,∅⟩,_,(),_,_,(),(),.inr ⟨⋯,⋯⟩,_,_,(),(),?_⟩;apply⟨_,(),_,_,(),(),.inl ⟨∅,∅⟩,_,_,(),(),_,_,(),(),_,_,(),(),(by show(0:Int)<2147483645;decide),_,_,(),(),?_⟩;apply⟨_,(),_,_,(),(),⟨∅,∅,∅⟩,_,_,(),(),_,(),?_⟩;apply AO (λhc=>?_) (λhc=>?_)
   .exact⟨_,(),by show 2<=sizeLine;decide,λp hp=>q p _ _ hp⟩
   .exact⟨_,(),_,(),by show 2<=sizeLine;decide,λp hp=>q p _ _ hp⟩
def uB:ai ["bag","way"] ["bag"] (bF (top 71)):=L2.dj
def Bx (F:cR K "_law_purse" "_law_purse" (top 71) f fd)(T:bS K mg P w base "_law_take" 1 ["bag","many"] qY fT dT)(R:bS K mg P w base "_law_frac" 1 ["top","bottom"] D6 fF dF):aI P w K mg base cf 2 f fd ["bag"] Tw:=by
 apply F.ok uB (λvs H Q E h=>?_) (λbH A outer s H vs Q E hr h=>?_)
 .obtain⟨b,rfl,_⟩:=h;rfl
 .obtain⟨b,rfl,hb,k⟩:=h;apply⟨_,d9 (k9 (i:=1) uB.nd rfl (Or.inl rfl) (dX T.ok hr rfl T.mg T.kp T.bd .nil aN (aP (pv 0) (aP bB bN))))
   (d9 (ph (pz nv (pv 1) bB (aO _)) (dY (gc (gO (aP (cY cV bB (dX T.ok hr rfl T.mg T.kp T.bd .nil aN (aP (pv 0) (aP bB bN)))) (aP bB bN))))) pq)
   (d9 (ph (pz nv (pv 1) bB (aO _)) (dY (gc (gO (aP (cY cV bB (dX T.ok hr rfl T.mg T.kp T.bd .nil aN (aP (pv 0) (aP (cY nJ bB bB) bN)))) (aP bB bN))))) pq)
   (d9 (ph (pz nv (pv 1) bB (aO _)) (dY (gc (dX R.ok hr rfl R.mg R.kp R.bd .nil aN (aP (cY cV bB (dX T.ok hr rfl T.mg T.kp T.bd .nil aN (aP (pv 0) (aP (cY nJ bB bB) bN)))) (aP (cY cV bB (dX T.ok hr rfl T.mg T.kp T.bd .nil aN (aP (pv 0) (aP (cY nJ bB bB) bN)))) bN))))) pq)
   (dY (gc (dX R.ok hr rfl R.mg R.kp R.bd .nil aN (aP (cY cV bB (dX T.ok hr rfl T.mg T.kp T.bd .nil aN (aP (pv 0) (aP bB bN)))) (aP (cY cV bB (dX T.ok hr rfl T.mg T.kp T.bd .nil aN (aP (pv 0) (aP bB bN)))) bN)))))))),?_⟩
  apply⟨_,(),b,_,(),hb,∅,∅,λr H1 r0 r1 jZ Gz=>?_⟩;apply⟨_,(),(),_,(),AO (λ_=>?_) (λ_=>?_)⟩
  .apply⟨_,(),b,_,(),jZ,∅,∅,λr2 H2 p0 p1 l7 G1=>⟨_,_,(),(),by show 2<=sizeLine;decide,λp hp=>k _ _ _ (l7.new hp) ((Gz.trans G1).new hp) Ht (pW ⋯ ⋯)⟩⟩
  apply⟨_,(),(),_,(),AO (λ_=>?_) (λ_=>?_)⟩
  .apply⟨_,(),_,_,(),(),⟨∅,∅,∅⟩,b,_,(),jZ,∅,∅,λr2 H2 p0 p1 l7 G1=>⟨_,_,(),(),by show 2<=sizeLine;decide,λp hp=>?_⟩⟩;let p1':r2<1000000:=p1;exact k _ _ _ (l7.new hp) ((Gz.trans G1).new hp) Ht (pW ⋯ ⋯)
  apply⟨_,(),(),_,(),AO (λ_=>?_) (λ_=>?_)⟩
  .apply⟨_,(),_,_,(),(),⟨∅,∅,∅⟩,b,_,(),jZ,∅,∅,λr2 H2 p0 p1 l7 G1=>⟨_,_,(),(),?_⟩⟩;apply⟨_,(),_,_,(),(),⟨∅,∅,∅⟩,b,_,(),l7,∅,∅,λr3 H3 q0 q1 SX Rp=>⟨_,_,(),(),?_⟩⟩;let p1':r2<1000000:=p1;let q1':r3<1000000:=q1;exact⟨_,_,(),⋯,⋯,λp hp=>k _ _ _ (SX.new hp) (((Gz.trans G1).trans Rp).new hp) Ht (pX ⋯ ⋯ ⋯ ⋯)⟩
  .apply⟨_,(),b,_,(),jZ,∅,∅,λr2 H2 p0 p1 l7 G1=>⟨_,_,(),(),?_⟩⟩;apply⟨_,(),b,_,(),l7,∅,∅,λr3 H3 q0 q1 SX Rp=>⟨_,_,(),(),?_⟩⟩;exact⟨_,_,(),⋯,⋯,λp hp=>k _ _ _ (SX.new hp) (((Gz.trans G1).trans Rp).new hp) Ht (pX ⋯ ⋯ ⋯ ⋯)⟩
def kK:ai ["bag","goods","most","row","at"] ["bag","goods"] (bF (top 72)):=L2.dj
def Bv (F:cR K "_law_wishes" "_law_wishes" (top 72) f fd)(B:Nm mg)(T:bS K mg P w base "_law_take" 1 ["bag","many"] qY fT dT):aI P w K mg base cf 2 f fd ["bag","goods"] Tu:=by
 apply F.ok kK (λvs H Q E h=>?_) (λbH A outer s H vs Q E hr h=>?_)
 .obtain⟨b,g,rfl,_⟩:=h;rfl
 .obtain⟨b,g,rfl,hb,g0,g1,k⟩:=h;apply⟨_,d9 (k9 (i:=2) kK.nd rfl (Or.inr rfl) (dz lj (iG (aP bB (aP bB (aP bB (aP bB (aP bB bN)))))) (dX T.ok hr rfl T.mg T.kp T.bd .nil aN (aP (pv 0) (aP bB bN))) (λ_ _=>rfl)))
   (d9 (rW (i:=3) (own:=["k"]) (cap:=["bag","most"]) (ix:=[0,2]) kK.nd rfl rfl (aL.of (bF (top 72)).names ["bag","goods","most","row","at"]) rfl (Rq rfl B.range (aP (pv 1) bN))
    (λC fp s H=>⟨iT (i:=0) (Ψ9 ["k","bag","most"]) rfl (Or.inl rfl),Ch,dX T.ok hr rfl T.mg T.kp T.bd .nil aN (aP (pv 1) (aP (pv 2) bN))⟩))
   (d9 (k9 (i:=4) kK.nd rfl (Or.inl rfl) (dX T.ok hr rfl T.mg T.kp T.bd .nil aN (aP (pv 0) (aP (pv 1) bN))))
   (d9 (jI (vC (B7 rfl) (by rfl) B.max boot_max (aP bB (aP (dz lj (pv 3) (pv 4) (λ_ _=>rfl)) bN))) (wJ (pv 3) (pv 4) kJ))
   (dY (gc (GH fb (by rfl) B.tuple sM (aP (pv 3) bN))))))),?_⟩
  apply⟨by show 5<=sizeLine;decide,λp hp=>⟨_,(),b,_,(),hb.new hp,∅,∅,λr H1 r0 r1 jZ Gz=>?_⟩⟩;let np:=hb.ne hp;let⟨m,em,m0,m1⟩:=PZ r0 r1;apply⟨p,_,_,_,(),(),bG.of (Gz p _ np.symm de),em,?_⟩;let Uo:Kp b H H1:=((Kp.refl b H).new hp).trans Gz;apply⟨_,(),g,(),⋯,⋯,λacc bU=>?_⟩;let wq:=jZ.ne bU;apply jV (λi ys H'=>jw H' b/\Kp b H1 H'/\∃ns:Γ3,ys=ns.map V.int/\ns.length=i/\∀n∈ns,0<=n/\n<=100) ⟨jZ.new bU,(Kp.refl b H1).new bU,[],(),(),λn hn=>nomatch hn⟩ ?_ ?_
  .rintro i ys H' hi hy ⟨j3,Cz,ns,rfl,hl,vV⟩;apply kg ?_;apply⟨_,(),_,(),b,m,(),j3,m0,⋯,λr2 H5 p0 p1 M1 Cf=>⟨_,Cf acc _ wq.symm hy,?_,Cn.of de ⟨?_,(Cz.trans Cf).acc bU,ns++[r2],?_,?_,?_⟩⟩⟩
   .rw[Zb,sz];omega
   .obtain⟨c,d,e⟩:=M1;exact⟨c,d,by rw[c7 wq];exact e⟩
   .rw[Zs];rfl
   .rw[Zt,hl];rfl
   .intro n hn;rcases Zv.mp hn with z |z
    .exact vV n z
    .obtain rfl:n=r2:=by simpa using z
     exact⟨p0,⋯⟩
  .rintro ys H' hy ⟨j3,Cz,ns,rfl,hl,vV⟩;apply⟨_,(),_,(),b,g,(),j3,g0,⋯,λr2 H5 p0 p1 M1 Cf=>?_⟩;let MJ:=Cf acc _ wq.symm hy;let⟨ea,ex,em2⟩:=oy (ns:=ns) p0 ⋯;apply⟨_,(),_,(),acc,_,_,_,(),(),bG.of MJ,ea,_,_,(),?_⟩;apply⟨_,(),_,(),acc,_,_,r2.toNat,(),(),MJ,ex,?_⟩;let es:(ns.map V.int).set r2.toNat (V.int (if ns.getD r2.toNat 0>1 then ns.getD r2.toNat 0 else 1))=(ns.set r2.toNat (if ns.getD r2.toNat 0>1 then ns.getD r2.toNat 0 else 1)).map V.int:=by rw[List.map_set]
   apply⟨_,(),acc,_,(),.inl ⟨bG.of de,λl KO=>?_⟩⟩;let kk:Kp b H H5:=(Uo.trans Cz).trans Cf;let LR:H acc=none:=Uo.free hb bU jZ;let WT:jw (aK H5 acc (.lst ((ns.map V.int).set r2.toNat (V.int (if ns.getD r2.toNat 0>1 then ns.getD r2.toNat 0 else 1))))) b:=by
    let⟨c,d,e⟩:=M1;exact⟨c,d,by rw[c7 wq];exact e⟩
   apply k l (ns.set r2.toNat (if ns.getD r2.toNat 0>1 then ns.getD r2.toNat 0 else 1)) _ (WT.new KO) ((kk.acc LR).new KO) ?_ ?_ ?_ ⟨(if ns.getD r2.toNat 0>1 then ns.getD r2.toNat 0 else 1),Z2 (i:=r2.toNat) (Yg ⋯),by split<;>omega⟩
   .rw[de,es]
   .rw[Yp,hl];omega
   .intro n hn;rcases List.mem_or_eq_of_mem_set hn with z |z
    .exact vV n z
    .rw[z];have:=vV _ em2;split<;>omega
def ff:ai ["bag","goods","buyers","most","amounts","purses","wishes"] ["bag"] (bF (top 73)):=L2.dj
def Bw (F:cR K "_law_market" "_law_market" (top 73) f fd)(B:Nm mg)(T:bS K mg P w base "_law_take" 1 ["bag","many"] qY fT dT)
  (R:bS K mg P w base "_law_purse" 2 ["bag"] Tw fP dP) (W:bS K mg P w base "_law_wishes" 2 ["bag","goods"] Tu fW dW):aI P w K mg base cf 3 f fd ["bag"] Nt:=by
 apply F.ok ff (λvs H Q E h=>?_) (λbH A outer s H vs Q E hr h=>?_)
 .obtain⟨b,rfl,_⟩:=h;rfl
 .obtain⟨b,rfl,hb,k⟩:=h;let qC:cS 1 _:=hr.mono ∅;apply⟨_,d9 (k9 (i:=1) ff.nd rfl (Or.inr rfl) (cY cV bB (dX T.ok qC rfl T.mg T.kp T.bd .nil aN (aP (pv 0) (aP (dz lj (iG (aP bB (aP bB bN))) (dX T.ok qC rfl T.mg T.kp T.bd .nil aN (aP (pv 0) (aP bB bN))) (λ_ _=>rfl)) bN)))))
   (d9 (k9 (i:=2) ff.nd rfl (Or.inl rfl) (cY cV bB (dX T.ok qC rfl T.mg T.kp T.bd .nil aN (aP (pv 0) (aP (dz lj (iG (aP bB (aP bB bN))) (dX T.ok qC rfl T.mg T.kp T.bd .nil aN (aP (pv 0) (aP bB bN))) (λ_ _=>rfl)) bN)))))
   (d9 (k9 (i:=3) ff.nd rfl (Or.inr rfl) (dz lj (iG (aP bB (aP bB (aP bB bN)))) (dX T.ok qC rfl T.mg T.kp T.bd .nil aN (aP (pv 0) (aP bB bN))) (λ_ _=>rfl)))
   (d9 (k9 (i:=4) ff.nd rfl (Or.inl rfl) (GH fb (by rfl) B.tuple sM (aP (Aw (own:=["k"]) (cap:=["bag","most"]) (ix:=[0,3]) (aL.of (bF (top 73)).names ["bag","goods","buyers","most","amounts","purses","wishes"]) rfl (Rq rfl B.range (aP (pv 1) bN))
    (λC fp s H=>⟨iT (i:=0) (Ψ9 ["k","bag","most"]) rfl (Or.inl rfl),Ch,cY cV bB (dX T.ok qC rfl T.mg T.kp T.bd .nil aN (aP (pv 1) (aP (pv 2) bN)))⟩)) bN)))
   (d9 (k9 (i:=5) ff.nd rfl (Or.inl rfl) (GH fb (by rfl) B.tuple sM (aP (Aw (own:=["k"]) (cap:=["bag"]) (ix:=[0]) (aL.of (bF (top 73)).names ["bag","goods","buyers","most","amounts","purses","wishes"]) rfl (Rq rfl B.range (aP (pv 2) bN))
    (λC fp s H=>⟨iT (i:=0) (Ψ9 ["k","bag"]) rfl (Or.inl rfl),Ch,dX R.ok hr rfl R.mg R.kp R.bd .nil aN (aP (pv 1) bN)⟩)) bN)))
   (d9 (k9 (i:=6) ff.nd rfl (Or.inl rfl) (GH fb (by rfl) B.tuple sM (aP (Aw (own:=["k"]) (cap:=["bag","goods"]) (ix:=[0,1]) (aL.of (bF (top 73)).names ["bag","goods","buyers","most","amounts","purses","wishes"]) rfl (Rq rfl B.range (aP (pv 2) bN))
    (λC fp s H=>⟨iT (i:=0) (Ψ9 ["k","bag","goods"]) rfl (Or.inl rfl),Ch,dX W.ok hr rfl W.mg W.kp W.bd .nil aN (aP (pv 1) (aP (pv 2) bN))⟩)) bN)))
   (dY (gc (gO (aP (pv 4) (aP (pv 5) (aP (pv 6) bN))))))))))),?_⟩
  apply⟨_,(),by show 2<=sizeLine;decide,λp1 WL=>⟨_,(),b,_,(),hb.new WL,∅,∅,λr1 H1 r1a r1b jZ Gz=>?_⟩⟩;let⟨m1,em1,m1a,m1b⟩:=Lv r1a r1b;apply⟨p1,_,_,_,(),(),bG.of (Gz p1 _ (hb.ne WL).symm de),em1,b,m1,(),jZ,m1a,⋯,λg H2 g0 g1 l7 G1=>⟨_,_,(),(),?_⟩⟩;let k2:Kp b H H2:=(((Kp.refl b H).new WL).trans Gz).trans G1;apply⟨_,(),by show 2<=sizeLine;decide,λp3 ZJ=>⟨_,(),b,_,(),l7.new ZJ,∅,∅,λr3 H3 r3a r3b SX Rp=>?_⟩⟩;let⟨m3,em3,m3a,m3b⟩:=Lv r3a r3b;apply⟨p3,_,_,_,(),(),bG.of (Rp p3 _ (l7.ne ZJ).symm de),em3,b,m3,(),SX,m3a,⋯,λu H4 u0 u1 hb4 kp4=>⟨_,_,(),(),?_⟩⟩;let k4:Kp b H H4:=((k2.new ZJ).trans Rp).trans kp4;apply⟨by show 3<=sizeLine;decide,λp5 ZI=>⟨_,(),b,_,(),hb4.new ZI,∅,∅,λr5 H5 r5a r5b M1 Cf=>?_⟩⟩;let⟨m5,em5,m5a,m5b⟩:=P0 r5a r5b;apply⟨p5,_,_,_,(),(),bG.of (Cf p5 _ (hb4.ne ZI).symm de),em5,?_⟩;let k5:Kp b H H5:=(k4.new ZI).trans Cf;apply⟨_,(),1+g,(),⋯,⋯,λa6 ha6=>?_⟩;apply oq M1 ha6 ⋯ RA (λ_ _ _ _ h=>h) (λi H' hi j3 Cz Z hZ=>?_) (λam H6 WT kp6 hl6 ZE hy6=>?_)
  .exact⟨_,(),_,(),b,m5,(),j3,m5a,⋯,λr H7 q0 q1 Y' WD=>⟨_,_,(),(),hZ _ _ Y' WD ⟨_,(),⋯,⋯⟩⟩⟩
  apply⟨a6,am,(),.inl ⟨bG.of hy6,λpa hpa=>?_⟩⟩;let k6:=(k5.trans kp6).new (o:=.tup am) hpa;let b6:=WT.new (o:=.tup am) hpa;apply⟨_,(),1+u,(),⋯,⋯,λa7 γ=>?_⟩;apply oq b6 γ ⋯ RP (λ_ _ _ t h=>by let⟨a,t1,u1,e,h1,h2⟩:=h;exact⟨a,t1,u1,e,t _ _ h1,h2⟩) (λi H' hi j3 Cz Z hZ=>?_) (λpu H7 Y' WD hl7 hr7 hy7=>?_)
  .exact⟨_,(),b,(),j3,λv d H8 W' Sv tr pu=>hZ _ _ W' Sv (RP.of tr pu)⟩
  apply⟨a7,pu,(),.inl ⟨bG.of hy7,λpp vG=>?_⟩⟩;let k7:=(k6.trans WD).new (o:=.tup pu) vG;let b7:=Y'.new (o:=.tup pu) vG;apply⟨_,(),1+u,(),⋯,⋯,λa8 ha8=>?_⟩;apply oq b7 ha8 ⋯ (RW (1+g)) (λ_ _ _ t h=>by let⟨a,ns,e,h1,h2⟩:=h;exact⟨a,ns,e,t _ _ h1,h2⟩) (λi H' hi j3 Cz Z hZ=>?_) (λws H8 W' Sv hl8 hw8 hy8=>?_)
  .exact⟨_,(),_,(),b,1+g,(),j3,⋯,⋯,λq ns H9 hb9 kp9 e1 e2 e3 e4=>hZ _ _ hb9 kp9 ⟨q,ns,(),e1,e2,e3,e4⟩⟩
  apply⟨a8,ws,(),.inl ⟨bG.of hy8,λpw MQ=>?_⟩⟩;let k8:=(k7.trans Sv).new (o:=.tup ws) MQ;let b8:=W'.new (o:=.tup ws) MQ;apply⟨_,(),_,(),_,(),by show 3<=sizeLine;decide,λp hp=>?_⟩;let tB:Tm H7 (aK (aK H8 pw (.tup ws)) p (.tup [.ref pa,.ref pp,.ref pw])):=((Tm.new vG).trans ((Sv.tm b7).trans (Tm.new MQ))).trans (Tm.new hp);let tB2:Tm (aK H7 pp (.tup pu)) (aK (aK H8 pw (.tup ws)) p (.tup [.ref pa,.ref pp,.ref pw])):=((Sv.tm b7).trans (Tm.new MQ)).trans (Tm.new hp);let tA:Tm (aK H6 pa (.tup am)) (aK (aK H8 pw (.tup ws)) p (.tup [.ref pa,.ref pp,.ref pw])):=(WD.tm b6).trans tB;let tC:Tm H8 (aK (aK H8 pw (.tup ws)) p (.tup [.ref pa,.ref pp,.ref pw])):=(Tm.new MQ).trans (Tm.new hp);let abI:=tA pa _ de;let abH:=tB2 pp _ de;let abG:=(Tm.new (o:=.tup [.ref pa,.ref pp,.ref pw]) hp) pw _ de;let SQ:((1+g).toNat:Int)=1+g:=⋯;let⟨da,ta,sa⟩:=yi (b:=b) (ys:=am) λy hy=>RA.tr (H:=aK (aK H8 pw (.tup ws)) p (.tup [.ref pa,.ref pp,.ref pw])) (ZE y hy)
  let⟨dp,tp,sp⟩:=yi (b:=b) (ys:=pu) λy hy=>RP.tr (H:=aK (aK H8 pw (.tup ws)) p (.tup [.ref pa,.ref pp,.ref pw])) (by let⟨a,t1,u1,e,h1,h2⟩:=hr7 y hy;exact⟨a,t1,u1,e,tB _ _ h1,h2⟩)
  let⟨dw,tw,sw⟩:=yi (b:=b) (ys:=ws) λy hy=>RW.tr (g:=(1+g).toNat) (H:=aK (aK H8 pw (.tup ws)) p (.tup [.ref pa,.ref pp,.ref pw])) (by let⟨a,ns,e,h1,h2⟩:=hw8 y hy;exact⟨a,ns,e,tC _ _ h1,by rw[SQ];exact h2⟩)
  let la:=ta.len;let lp:=tp.len;let lw:=tw.len;let eg:(1+g).toNat=da.length:=⋯;rw[eg] at sw;let⟨sw,spo⟩:=u5 sw;apply k p da dp dw _ (b8.new hp) (k8.new hp) (.tup de (.cons (.tup abI ta) (.cons (.tup abH tp) (.cons (.tup abG tw) .nil)))) (Kc ⋯ ⋯ sa ⋯ ⋯ sp ⋯ sw) spo
end
section
def D9:ai ["one","other"] ["one","other"] (bF (top 9)):=L2.dj
def JQ (F:cR K "common_divisor" "common_divisor" (top 9) f fd)(N:Nm mg):aI P w K mg base cf 1 f fd ["one","other"] rc:=by
 apply F.ok D9 (λvs H Q E h=>?_) (λbH A outer s H vs Q E hr h=>?_)
 .obtain⟨t,u,rfl,_⟩:=h;rfl
 .obtain⟨t,u,rfl,k⟩:=h;apply⟨_,d9 (kM PassesOwn.never (pz t9 (pv 1) bB (aO _)) (dY (rg (i:=0) (j:=1) rfl D9.nd rfl rfl ∅ rfl rfl (aP (pv 1) (aP (cY zz (pv 0) (pv 1)) bN)) (by rfl))))
   (dY (gc (vC ot (by rfl) N.abs boot_abs (aP (pv 0) bN)))),?_⟩
  apply nX (λσ H'=>H'=H/\∃a c:Int,σ=[some (.int a),some (.int c)]/\Int.gcd a c=Int.gcd t u)
   (λσ _=>match σ with |[_,some (.int c)]=>c.natAbs |_=>0) ⟨rfl,t,u,rfl,rfl⟩ ?_ ?_
  .rintro σ H' ⟨rfl,a,c,rfl,e⟩;apply⟨_,(),(),_,(),?_⟩;by_cases hc:c=0
   .subst hc;apply cP ?_;apply⟨_,(),_,(),?_⟩;rw[u6,e];exact k
   .let e1:(!decide (V.int c=V.int 0))=true:=by simp[hc]
    rw[e1];apply cL ?_;exact⟨_,(),_,(),_,(),_,_,(),(),hc,_,_,(),⟨(),c,a.fmod c,(),uS.trans e⟩,zX hc⟩
  .rintro σ H' Q1 Q2 qP ⟨v,e,sc,kk,ek,q⟩;exact⟨v,e,sc,kk,ek,qP _ _ q⟩
def C0:ai ["top","bottom","divisor"] ["top","bottom"] (bF (top 10)):=L2.dj
def ve (tr:P.given.tree=none)(F:cR K "fraction" "fraction" (top 10) f fd)(T0:mg "NoNumber"=some (.ref Nn))(exN:PySem.W.excIn K Nn [.type "ValueError",.type "Exception",.type "BaseException",.type "object"] "ValueError.__new__"=true)(G:bS K mg P w base "common_divisor" 1 ["one","other"] rc fG dG):aI P w K mg base cf 2 f fd ["top","bottom"] (j6 (tJ Nn)):=by
 apply F.ok C0 (λvs H Q E h=>?_) (λbH A outer s H vs Q E hr h=>?_)
 .obtain⟨t,u,rfl,_⟩:=h;rfl
 .obtain⟨t,u,rfl,hb,k0,k1⟩:=h;apply⟨_,d9 (ph (pz nv (pv 1) bB (aO _)) (dY (rh)) pq)
   (d9 (k9 (i:=2) C0.nd rfl (Or.inl rfl) (dX G.ok hr rfl G.mg G.kp G.bd .nil aN (aP (pv 0) (aP (pv 1) bN))))
   (d9 (ph (pz nu (pv 1) bB (aO _)) (dY (k9 (i:=2) C0.nd rfl (Or.inl rfl) (Ln DV (pv 2)))) pq)
   (dY (gc (gO (aP (cY (gA hr (lq tr C0)) (pv 0) (pv 2)) (aP (cY (gA hr (lq tr C0)) (pv 1) (pv 2)) bN))))))),?_⟩
  apply⟨_,(),(),_,(),?_⟩;by_cases hu:u=0
  .subst hu;exact cL (k0 rfl)
  let e1:decide (V.int u=V.int 0)=false:=by simp[hu]
  rw[e1];apply cP ?_;apply⟨_,(),_,(),t,u,(),?_⟩;apply⟨_,(),_,_,(),(),_,(),?_⟩;let hs:=(kB (t:=t) hu).2.2.2.1;let tf:=K7 (t:=t) hb hu;let⟨q1,q2⟩:=nL (T:=t) hu;let k1':∀p,H p=none->Q (.ref p) (aK H p (.tup [.int (nx t u),.int (ny t u)])):=λp hp=>by rw[q1,q2];exact k1 hu p hp
  let jk:∀d:Int,d=sg t u->(Tn (Tl (Dp (Mm (rI (λ_ j=>j≠0/\Bd 66000000 j) λi j=>.int (i.fdiv j)) (wc 0) (wc 2)) (Dp (Mm (rI (λ_ j=>j≠0/\Bd 66000000 j) λi j=>.int (i.fdiv j)) (wc 1) (wc 2)) Tp)))) { nx:=λ_ H'=>Q .cj H',rt:=Q } [some (.int t),some (.int u),some (.int d)] H:=λd hd=>by
   subst hd;exact⟨_,(),_,(),_,_,(),(),⟨hs,tf⟩,_,(),_,(),_,_,(),(),⟨hs,tf⟩,by show 2<=sizeLine;decide,λp hp=>k1' p hp⟩
  by_cases hn:u<0
  .rw[decide_eq_true hn];exact cL ⟨_,(),_,(),jk _ (by unfold sg;rw[if_pos hn])⟩
  .rw[decide_eq_false hn];exact cP (jk _ (by unfold sg;rw[if_neg hn]))
def AI:ai ["top","bottom","one","other","by"] ["top","bottom"] (bF (top 63)):=L2.dj
def Lp (tr:P.given.tree=none)(F:cR K "_law_frac" "_law_frac" (top 63) f fd)(B:Nm mg):aI P w K mg base cf 1 f fd ["top","bottom"] wj:=by
 apply F.ok AI (λvs H Q E h=>?_) (λbH A outer s H vs Q E hr h=>?_)
 .obtain⟨t,u,rfl,_⟩:=h;rfl
 .obtain⟨t,u,rfl,u0,u1,k⟩:=h;apply⟨_,d9 (rg (i:=2) (j:=3) rfl AI.nd rfl rfl ∅ rfl rfl (aP (pv 0) (aP (pv 1) bN)) (by rfl))
   (d9 (kM PassesOwn.never (pz t9 (pv 3) bB (aO _)) (dY (rg (i:=2) (j:=3) rfl AI.nd rfl rfl ∅ rfl rfl (aP (pv 3) (aP (cY zz (pv 2) (pv 3)) bN)) (by rfl))))
   (d9 (k9 (i:=4) AI.nd rfl (Or.inl rfl) (cY iH (vC ot (by rfl) B.abs boot_abs (aP (pv 2) bN)) (cY wN bB (cY iH bB (GH B8 (by rfl) B.int boot_int (aP (fE nu (pv 1) bB (aO _)) bN))))))
   (dY (gc (gO (aP (cY (gA hr (lq tr AI)) (pv 0) (pv 4)) (aP (cY (gA hr (lq tr AI)) (pv 1) (pv 4)) bN))))))),?_⟩
  let hu:u≠0:=⋯;let⟨q1,q2⟩:=nL (T:=t) hu;let k':∀p,H p=none->Q (.ref p) (aK H p (.tup [.int (nx t u),.int (ny t u)])):=λp hp=>by rw[q1,q2];exact k p hp
  let hs:=(kB (t:=t) hu).2.2.2.1;let tf:=K7 (t:=t) u1 hu;let esg:(Int.gcd t u:Int)=sg t u:=by unfold sg;rw[if_neg ⋯]
  apply⟨_,(),_,(),_,_,(),?_⟩;apply nX (λσ H'=>H'=H/\∃a c:Int,σ=[some (.int t),some (.int u),some (.int a),some (.int c),none]/\Int.gcd a c=Int.gcd t u)
   (λσ _=>match σ with |[_,_,_,some (.int c),_]=>c.natAbs |_=>0) ⟨rfl,t,u,rfl,rfl⟩ ?_ ?_
  .rintro σ H' ⟨rfl,a,c,rfl,e⟩;apply⟨_,(),(),_,(),?_⟩;by_cases hc:c=0
   .subst hc;apply cP ?_;apply⟨_,(),_,(),_,(),_,_,(),(),.inr ⟨_,(),_,_,(),(),.inl ⟨∅,∅⟩,_,_,(),(),?_⟩⟩;let e2:decide (u<0)=false:=decide_eq_false ⋯;rw[u6,e,e2,esg];let e3:sg t u*(1-2*(if false=true then (1:Int) else 0))=sg t u:=by simp
    apply⟨_,_,(),(),.inr ⟨∅,∅⟩,?_⟩;show eZ 4 (V.int (sg t u*(1-2*(if false=true then (1:Int) else 0)))) _ _ _;rw[e3];exact⟨_,(),_,(),_,_,(),(),⟨hs,tf⟩,_,(),_,(),_,_,(),(),⟨hs,tf⟩,by show 2<=sizeLine;decide,λp hp=>k' p hp⟩
   .let e1:(!decide (V.int c=V.int 0))=true:=by simp[hc]
    rw[e1];apply cL ?_;exact⟨_,(),_,(),_,(),_,_,(),(),hc,_,_,(),⟨(),c,a.fmod c,(),uS.trans e⟩,zX hc⟩
  .rintro σ H' Q1 Q2 qP ⟨v,e,sc,kk,ek,q⟩;exact⟨v,e,sc,kk,ek,qP _ _ q⟩
def IK:ai ["one","other"] ["one","other"] (bF (top 11)):=L2.dj
def JF (F:cR K "plus" "plus" (top 11) f fd)(G:bS K mg P w base "fraction" 2 ["top","bottom"] (j6 (tJ Nn)) fF dF):aI P w K mg base cf 3 f fd ["one","other"] (j6 (Ap Sg)):=by
 apply F.ok IK (λvs H Q E h=>?_) (λbH A outer s H vs Q E hr h=>?_)
 .obtain⟨p,q,a,b,rfl,_⟩:=h;rfl
 .obtain⟨p,q,a,b,rfl,hp,hq,⟨ba,bb⟩,⟨bc,bd⟩,k⟩:=h;let hb:=den_pos a;let hd:=den_pos b;apply⟨_,dY (gc (dX G.ok hr rfl G.mg G.kp G.bd .nil aN (aP (cY cV (cY qz (dz bW (pv 0) bB (λ_ _=>rfl)) (dz bW (pv 1) bB (λ_ _=>rfl))) (cY qz (dz bW (pv 1) bB (λ_ _=>rfl)) (dz bW (pv 0) bB (λ_ _=>rfl)))) (aP (cY qz (dz bW (pv 0) bB (λ_ _=>rfl)) (dz bW (pv 1) bB (λ_ _=>rfl))) bN)))),?_⟩;apply⟨_,(),p,_,_,_,(),(),aQ.of hp,(),_,(),q,_,_,_,(),(),aQ.of hq,(),_,_,(),(),⟨b3 ba,b3 bd⟩,_,(),q,_,_,_,(),(),aQ.of hq,(),_,(),p,_,_,_,(),(),aQ.of hp,(),_,_,(),(),⟨b3 bc,b3 bb⟩,_,_,(),(),_,(),p,_,_,_,(),(),aQ.of hp,(),_,(),q,_,_,_,(),(),aQ.of hq,(),_,_,(),(),⟨b3 bb,b3 bd⟩,?_⟩;exact⟨_,_,(),b6 (bb.mul bd),λh0=>absurd h0 (X4 (Xb hb hd)),λ_ r j8=>by rw[mX];exact k r j8⟩
def EZ:ai ["one","other"] ["one","other"] (bF (top 12)):=L2.dj
def Fx (F:cR K "times" "times" (top 12) f fd)(G:bS K mg P w base "fraction" 2 ["top","bottom"] (j6 (tJ Nn)) fF dF):aI P w K mg base cf 3 f fd ["one","other"] (j6 (Ap oN)):=by
 apply F.ok EZ (λvs H Q E h=>?_) (λbH A outer s H vs Q E hr h=>?_)
 .obtain⟨p,q,a,b,rfl,_⟩:=h;rfl
 .obtain⟨p,q,a,b,rfl,hp,hq,⟨ba,bb⟩,⟨bc,bd⟩,k⟩:=h;let hb:=den_pos a;let hd:=den_pos b;apply⟨_,dY (gc (dX G.ok hr rfl G.mg G.kp G.bd .nil aN (aP (cY qz (dz bW (pv 0) bB (λ_ _=>rfl)) (dz bW (pv 1) bB (λ_ _=>rfl))) (aP (cY qz (dz bW (pv 0) bB (λ_ _=>rfl)) (dz bW (pv 1) bB (λ_ _=>rfl))) bN)))),?_⟩;apply⟨_,(),p,_,_,_,(),(),aQ.of hp,(),_,(),q,_,_,_,(),(),aQ.of hq,(),_,_,(),(),⟨b3 ba,b3 bc⟩,_,(),p,_,_,_,(),(),aQ.of hp,(),_,(),q,_,_,_,(),(),aQ.of hq,(),_,_,(),(),⟨b3 bb,b3 bd⟩,?_⟩;exact⟨_,_,(),b6 (bb.mul bd),λh0=>absurd h0 (X4 (Xb hb hd)),λ_ r j8=>by rw[kC];exact k r j8⟩
def xv:ai ["one","other"] ["one","other"] (bF (top 64)):=L2.dj
def xB (F:cR K "_law_add" "_law_add" (top 64) f fd)(G:bS K mg P w base "_law_frac" 1 ["top","bottom"] wj fF dF):aI P w K mg base cf 2 f fd ["one","other"] (Ap Sg):=by
 apply F.ok xv (λvs H Q E h=>?_) (λbH A outer s H vs Q E hr h=>?_)
 .obtain⟨p,q,a,b,rfl,_⟩:=h;rfl
 .obtain⟨p,q,a,b,rfl,hp,hq,⟨ba,bb⟩,⟨bc,bd⟩,k⟩:=h;let hb:=den_pos a;let hd:=den_pos b;apply⟨_,dY (gc (dX G.ok hr rfl G.mg G.kp G.bd .nil aN (aP (cY cV (cY qz (dz bW (pv 0) bB (λ_ _=>rfl)) (dz bW (pv 1) bB (λ_ _=>rfl))) (cY qz (dz bW (pv 1) bB (λ_ _=>rfl)) (dz bW (pv 0) bB (λ_ _=>rfl)))) (aP (cY qz (dz bW (pv 0) bB (λ_ _=>rfl)) (dz bW (pv 1) bB (λ_ _=>rfl))) bN)))),?_⟩;apply⟨_,(),p,_,_,_,(),(),aQ.of hp,(),_,(),q,_,_,_,(),(),aQ.of hq,(),_,_,(),(),⟨b3 ba,b3 bd⟩,_,(),q,_,_,_,(),(),aQ.of hq,(),_,(),p,_,_,_,(),(),aQ.of hp,(),_,_,(),(),⟨b3 bc,b3 bb⟩,_,_,(),(),_,(),p,_,_,_,(),(),aQ.of hp,(),_,(),q,_,_,_,(),(),aQ.of hq,(),_,_,(),(),⟨b3 bb,b3 bd⟩,?_⟩;exact⟨_,_,(),Xb hb hd,b6 (bb.mul bd),λr j8=>by rw[mX];exact k r j8⟩
def xt:ai ["one","other"] ["one","other"] (bF (top 66)):=L2.dj
def xz (F:cR K "_law_mul" "_law_mul" (top 66) f fd)(G:bS K mg P w base "_law_frac" 1 ["top","bottom"] wj fF dF):aI P w K mg base cf 2 f fd ["one","other"] (Ap oN):=by
 apply F.ok xt (λvs H Q E h=>?_) (λbH A outer s H vs Q E hr h=>?_)
 .obtain⟨p,q,a,b,rfl,_⟩:=h;rfl
 .obtain⟨p,q,a,b,rfl,hp,hq,⟨ba,bb⟩,⟨bc,bd⟩,k⟩:=h;let hb:=den_pos a;let hd:=den_pos b;apply⟨_,dY (gc (dX G.ok hr rfl G.mg G.kp G.bd .nil aN (aP (cY qz (dz bW (pv 0) bB (λ_ _=>rfl)) (dz bW (pv 1) bB (λ_ _=>rfl))) (aP (cY qz (dz bW (pv 0) bB (λ_ _=>rfl)) (dz bW (pv 1) bB (λ_ _=>rfl))) bN)))),?_⟩;apply⟨_,(),p,_,_,_,(),(),aQ.of hp,(),_,(),q,_,_,_,(),(),aQ.of hq,(),_,_,(),(),⟨b3 ba,b3 bc⟩,_,(),p,_,_,_,(),(),aQ.of hp,(),_,(),q,_,_,_,(),(),aQ.of hq,(),_,_,(),(),⟨b3 bb,b3 bd⟩,?_⟩;exact⟨_,_,(),Xb hb hd,b6 (bb.mul bd),λr j8=>by rw[kC];exact k r j8⟩
def Bf:ai ["one","other"] ["one","other"] (bF (top 14)):=L2.dj
def JN (F:cR K "less" "less" (top 14) f fd):aI P w K mg base cf 1 f fd ["one","other"] jH:=by
 apply F.ok Bf (λvs H Q E h=>?_) (λbH A outer s H vs Q E hr h=>?_)
 .obtain⟨p,q,a,b,rfl,_⟩:=h;rfl
 .obtain⟨p,q,a,b,rfl,hp,hq,⟨ba,bb⟩,⟨bc,bd⟩,k⟩:=h;let hb:=den_pos a;let hd:=den_pos b;apply⟨_,dY (gc (fE nu (cY qz (dz bW (pv 0) bB (λ_ _=>rfl)) (dz bW (pv 1) bB (λ_ _=>rfl))) (cY qz (dz bW (pv 1) bB (λ_ _=>rfl)) (dz bW (pv 0) bB (λ_ _=>rfl))) (aO _))),?_⟩;exact⟨_,(),p,_,_,_,(),(),aQ.of hp,(),_,(),q,_,_,_,(),(),aQ.of hq,(),_,_,(),(),⟨b3 ba,b3 bd⟩,_,(),q,_,_,_,(),(),aQ.of hq,(),_,(),p,_,_,_,(),(),aQ.of hp,(),_,_,(),(),⟨b3 bc,b3 bb⟩,_,_,(),(),by simp only[Et];exact k⟩
def o8:ai ["one","other"] ["one","other"] (bF (top 68)):=L2.dj
def vc (F:cR K "_law_less" "_law_less" (top 68) f fd):aI P w K mg base cf 1 f fd ["one","other"] jH:=by
 apply F.ok o8 (λvs H Q E h=>?_) (λbH A outer s H vs Q E hr h=>?_)
 .obtain⟨p,q,a,b,rfl,_⟩:=h;rfl
 .obtain⟨p,q,a,b,rfl,hp,hq,⟨ba,bb⟩,⟨bc,bd⟩,k⟩:=h;let hb:=den_pos a;let hd:=den_pos b;apply⟨_,dY (gc (fE nu (cY qz (dz bW (pv 0) bB (λ_ _=>rfl)) (dz bW (pv 1) bB (λ_ _=>rfl))) (cY qz (dz bW (pv 1) bB (λ_ _=>rfl)) (dz bW (pv 0) bB (λ_ _=>rfl))) (aO _))),?_⟩;exact⟨_,(),p,_,_,_,(),(),aQ.of hp,(),_,(),q,_,_,_,(),(),aQ.of hq,(),_,_,(),(),⟨b3 ba,b3 bd⟩,_,(),q,_,_,_,(),(),aQ.of hq,(),_,(),p,_,_,_,(),(),aQ.of hp,(),_,_,(),(),⟨b3 bc,b3 bb⟩,_,_,(),(),by simp only[Et];exact k⟩
def OC:ai ["one","other"] ["one","other"] (bF (top 13)):=L2.dj
def JH (F:cR K "over" "over" (top 13) f fd)(G:bS K mg P w base "fraction" 2 ["top","bottom"] (j6 (tJ Nn)) fF dF):aI P w K mg base cf 3 f fd ["one","other"] (j6 (nF Nn)):=by
 apply F.ok OC (λvs H Q E h=>?_) (λbH A outer s H vs Q E hr h=>?_)
 .obtain⟨p,q,a,b,rfl,_⟩:=h;rfl
 .obtain⟨p,q,a,b,rfl,hp,hq,⟨ba,bb⟩,⟨bc,bd⟩,k0,k1⟩:=h;let hb:=den_pos a;let hd:=den_pos b;apply⟨_,dY (gc (dX G.ok hr rfl G.mg G.kp G.bd .nil aN (aP (cY qz (dz bW (pv 0) bB (λ_ _=>rfl)) (dz bW (pv 1) bB (λ_ _=>rfl))) (aP (cY qz (dz bW (pv 0) bB (λ_ _=>rfl)) (dz bW (pv 1) bB (λ_ _=>rfl))) bN)))),?_⟩;apply⟨_,(),p,_,_,_,(),(),aQ.of hp,(),_,(),q,_,_,_,(),(),aQ.of hq,(),_,_,(),(),⟨b3 ba,b3 bd⟩,?_⟩;apply⟨_,(),p,_,_,_,(),(),aQ.of hp,(),_,(),q,_,_,_,(),(),aQ.of hq,(),_,_,(),(),⟨b3 bb,b3 bc⟩,?_⟩;apply⟨_,_,(),b6 (bb.mul bc),λh0=>k0 ?_,λh0 r j8=>?_⟩
  .rcases Int.mul_eq_zero.mp h0 with z |z
   .omega
   .exact Rat.num_eq_zero.mp z
  .let hn:b.num≠0:=λz=>h0 (by rw[z,Int.mul_zero])
   rw[kF hn];exact k1 (λz=>hn (by rw[z];rfl)) r j8
end
section
variable {P:Program}{w:World}{K:Θ1}{mg:Θ3}{base:Heap}
def yq:ai ["parts","found","part"] ["parts"] (bF (top 17)):=L2.dj
def vd (F:cR K "greatest" "greatest" (top 17) f fd)(A:bS K mg P w base "less" 1 ["one","other"] jH fA dA):aI P w K mg base cf 2 f fd ["parts"] Dq:=by
 apply F.ok yq (λvs H Q E h=>?_) (λbH A' outer s H vs Q E hr h=>?_)
 .obtain⟨l,ys,qs,rfl,_⟩:=h;rfl
 .obtain⟨l,ys,qs,rfl,hl,hf,bD,hb,k⟩:=h;apply⟨_,d9 (k9 (i:=1) yq.nd rfl (Or.inl rfl) (dz lj (pv 0) bB (λ_ _=>rfl)))
   (d9 (rj PassesOwn.never rfl (TU (pv 0)) (iT (i:=2) yq.nd rfl (Or.inl rfl))
    (dY (ph (fV (dX A.ok hr rfl A.mg A.kp A.bd .nil aN (aP (pv 1) (aP (pv 2) bN)))) (dY (k9 (i:=1) yq.nd rfl (Or.inl rfl) (pv 2))) pq)))
   (dY (gc (pv 1)))),?_⟩
  let d4:0<qs.length:=Xn.mpr bD;let⟨a0,ρ,δ⟩:=hf.at (g:=0) d4;let m0:qs.getD 0 0∈qs:=by simp[List.getD,Zc d4]
  apply⟨_,(),l,_,_,_,(),(),bG.of hl,ρ,?_⟩;apply⟨_,(),l,(),⟨_,bG.of hl⟩,?_⟩;apply FY (xs:=ys) (λi σ H'=>H'=H/\∃a q y2,σ=[some (.ref l),some (.ref a),y2]/\H a=some (qO q)/\q∈qs/\∀z∈qs.take i,z<=q) ⟨(),a0,_,_,(),δ,m0,λz hz=>by simp at hz⟩ (λi σ H' _ z=>by let⟨rfl,_⟩:=z;exact bG.of hl) ?_ ?_
  .rintro i x σ H1 hx ⟨rfl,a,q,y2,rfl,ha,hq,d8⟩;let⟨c,z,rfl,hc,hz⟩:=sq hf hx;let SD:=Z2 hz;apply⟨_,(),_,(),a,c,q,z,(),ha,hc,hb q hq,hb z SD,_,(),?_⟩;by_cases cG:q<z
   .rw[decide_eq_true cG];apply cL ⟨_,(),(),c,z,_,(),hc,SD,λy hy=>?_⟩;rw[Ax hz] at hy;rcases Zv.mp hy with h |h
    .exact Yx (d8 y h) (Zy cG)
    .rw[Z1.mp h];exact Yo
   .rw[decide_eq_false cG];apply cP ⟨(),a,q,_,(),ha,hq,λy hy=>?_⟩;rw[Ax hz] at hy;rcases Zv.mp hy with h |h
    .exact d8 y h
    .rw[Z1.mp h];exact Yv.mp cG
  .rintro σ H1 ⟨rfl,a,q,y2,rfl,ha,hq,d8⟩;rw[hf.1,Yf] at d8;exact⟨_,(),k a q ha hq d8⟩
def OB:ai ["wish","price"] ["wish","price"] (bF (top 31)):=L2.dj
def JD (F:cR K "rate" "rate" (top 31) f fd)(A:bS K mg P w base "over" 3 ["one","other"] (j6 (nF Nn)) fA dA):aI P w K mg base cf 4 f fd ["wish","price"] qZ:=by
 apply F.ok OB (λvs H Q E h=>?_) (λbH A' outer s H vs Q E hr h=>?_)
 .obtain⟨n,q,x,rfl,_⟩:=h;rfl
 .obtain⟨n,q,x,rfl,hq,bx,x0,n0,n1,k⟩:=h;apply⟨_,dY (gc (dX A.ok hr rfl A.mg A.kp A.bd .nil aN (aP (gO (aP (pv 0) (aP bB bN))) (aP (pv 1) bN)))),?_⟩;apply⟨_,(),by show 2<=sizeLine;decide,λp hp=>?_⟩;let s0:=(aA.refl H).new (o:=.tup [.int n,.int 1]) hp;let bn:Rb 32000000 (n:Rat):=yb (Bd.mono (j:=7) (by unfold Bd;omega) ∅) ∅;let hx:x≠0:=λz=>by rw[z] at x0;exact absurd x0 ∅
  apply⟨_,(),p,q,(n:Rat),x,(),de,s0 _ _ hq,bn,bx.mono ∅,λz=>absurd z hx,λ_ r j8=>?_⟩;exact k r _ (s0.new j8) de
abbrev NBB:Δ2:=["row","prices","rates","most"]
def Nx:ai NBB ["row","prices"] (bF (top 30)):=L2.dj
def VJ (F:cR K "best_by_wishes" "best_by_wishes" (top 30) f fd)(N:Nm mg)(R:bS K mg P w base "rate" 4 ["wish","price"] qZ fR dR)(G:bS K mg P w base "greatest" 2 ["parts"] Dq fG dG):aI P w K mg base cf 5 f fd ["row","prices"] TB:=by
 apply F.ok Nx (λvs H Q E h=>?_) (λbH A' outer s H vs Q E hr h=>?_)
 .obtain⟨r,q,ns,ys,qs,rfl,_⟩:=h;rfl
 .obtain⟨r,q,ns,ys,qs,rfl,hrw,hq,hf,dg,h6,U',WS,d4,k⟩:=h;let MM:cS 2 _:=hr.mono ∅;let hu:=hr.units;let WH:=yE hr;apply⟨_,d9 (k9 (i:=2) Nx.nd rfl (Or.inr rfl) (Fp (own:=["good","wish"]) (cap:=["prices"]) (ix:=[1]) (aL.of (bF (top 30)).names NBB) rfl (mG rfl N.enumerate G7 (aP (pv 0) bN))
    (λC fp s H=>⟨jJ (n:=2) rfl (ye (iT (i:=0) (Ψ9 ["good","wish","prices"]) rfl (Or.inl rfl)) (ye (iT (i:=1) (Ψ9 ["good","wish","prices"]) rfl (Or.inl rfl)) gU)),
     kN (pz ii (pv 1) bB (aO _)),pv 0,dX R.ok hr rfl R.mg R.kp R.bd .nil aN (aP (pv 1) (aP (dz bW (pv 2) (pv 0) (λ_ _=>rfl)) bN))⟩)))
   (d9 (ph (gL (uE (pv 2) (λ_=>rfl))) (dY (gc (gO bN))) pq)
   (d9 (k9 (i:=3) Nx.nd rfl (Or.inr rfl) (dX G.ok MM rfl G.mg G.kp G.bd .nil aN (aP (GH (lR rfl) (by rfl) N.list boot_list (aP (Ef PySem.F.plainAttrs_dict PySem.F.slot_dict_values PySem.F.type_dict_values BB (pv 2)) bN)) bN)))
   (dY (gc (GH fb (by rfl) N.tuple sM (aP (Aw (own:=["good"]) (cap:=["most","rates"]) (ix:=[3,2]) (aL.of (bF (top 30)).names NBB) rfl (Js (pv 2))
    (λC fp s H=>⟨iT (i:=0) (Ψ9 ["good","most","rates"]) rfl (Or.inl rfl),kN (pz (Eg hu) (zt WH (pv 2) (pv 0) (λ_ _=>rfl)) (pv 1) (aO _)),pv 0⟩)) bN)))))),?_⟩
  let vV:∀j,0<=ns.getD j 0:=λj=>by
   by_cases hj:j<ns.length
   .have:ns.getD j 0∈ns:=by simp[List.getD,Zc hj]
    exact(U' _ this).1
   .simp[List.getD,Yu (Xd hj)]
  apply⟨_,(),r,(),⟨_,aQ.of hrw⟩,λacc bU=>?_⟩;apply xV (xs:=ns.map V.int) (λi kvs H'=>aA H H'/\tF ns qs i kvs H') ⟨(aA.refl H).acc bU,⟨(),⟨(),λj y z=>by simp at z⟩⟩⟩ (λi zs H' _ _ z=>aQ.of (z.1 _ _ hrw)) ?_ ?_
  .rintro i x kvs H1 H2 hx hy ⟨s1,rt⟩ s2;obtain⟨n,hn,rfl⟩:∃n:Int,ns[i]?=some n/\x=V.int n:=by
    rw[Zo] at hx;cases e:ns[i]? with
    |none=>rw[e] at hx;cases hx
    |some n=>rw[e] at hx;exact⟨n,(),by simpa using hx.symm⟩
   let hi:i<ns.length:=(Zf.mp hn).1;let RS:ns.getD i 0=n:=by simp[List.getD,hn]
   let Gw:=s1.trans s2;apply⟨_,(),_,_,(),(),_,(),?_⟩;by_cases h0:0<n
   .rw[decide_eq_true h0];let⟨aq,eq1,KL⟩:=hf.at (g:=i) ⋯;let bn:=U' n (Z2 hn);let x0:=d4 i (by rw[RS];exact h0);let bx:Rb 2010007 (qs.getD i 0):=by
     have:qs.getD i 0∈qs:=by simp[List.getD,Zc (show i<qs.length by omega)]
     exact WS _ this
    apply cL ⟨_,(),_,(),_,(),_,(),q,_,_,_,(),(),aQ.of (Gw _ _ hq),eq1,n,aq,_,(),Gw _ _ KL,bx,x0,bn.1,bn.2,λt H3 s3 ht=>?_⟩;let SF:=s3 _ _ (s2 _ _ hy);let ki:(V.int (i:Int))=kV (nj i):=rfl;let Sc:=(rt.ar s2).ar s3;let tm3:Tm H3 (aK H3 acc (.dK (dv kvs (nj i) (.ref t)))):=λa xs ha=>by rw[c7 (ua ha SF (by intro z;cases z))];exact ha
    apply⟨kvs,nj i,SF,ki,?_,KY.of de ⟨(Gw.trans s3).acc bU,(Sc.put (by rw[RS];exact h0) ?_).tm tm3⟩⟩
    .have:=rt.len;have:=uG ns i;rw[sz];omega
    .unfold d7;rw[RS];exact ht
   .rw[decide_eq_false h0];apply cP (KY.of (s2 _ _ hy) ⟨Gw,(rt.skip (by rw[RS];exact h0)).ar s2⟩)
  .rintro kvs H1 hy ⟨s1,rt⟩;rw[Zb] at rt;let RE:=rt.len;let jE:=uG ns ns.length;apply⟨_,(),_,.inr (.inr ⟨kvs,hy,()⟩),?_⟩;cases l':kvs.isEmpty with
   |true =>
    let NM:kvs=[]:=List.isEmpty_iff.mp l';subst NM;let ZL:eQ ns ns.length=[]:=Je.mp RE.symm;apply cL ⟨by show 0<=sizeLine;decide,λt ht=>k t _ (s1.new ht) ?_⟩;rw[Ca vV ZL];exact de
   |false =>
   let NM:kvs≠[]:=λz=>by rw[z] at l';cases l'
   apply cP ?_;apply⟨_,(),.inr (.inr (.inl ⟨(),.inl ⟨_,hy⟩⟩)),acc,kvs,(),(),hy,λv hv=>?_⟩;let s2:=(aA.refl H1).new (o:=fQ v acc) hv;apply⟨v,acc,kvs,(),de,.inl (s2 _ _ hy),λl hl=>?_⟩;let s3:=s2.new (o:=.lst (kvs.map (·.2))) hl;let Sc:=rt.ar s3;apply⟨l,_,_,(),de,Sc.fr,?_,?_,λa m ha hm d8=>?_⟩
   .intro z;have:=congrArg List.length z;rw[Zb,<- RE] at this;exact NM (Je.mp this)
   .intro z hz;let⟨j,hj,rfl⟩:=Zd.mp hz;let⟨jl,jp⟩:=rX hj;unfold d7;let bq:Rb 2010007 (qs.getD j 0):=by
     have:qs.getD j 0∈qs:=by simp[List.getD,Zc (show j<qs.length by omega)]
     exact WS _ this
    let bn:Bd 2010007 (ns.getD j 0):=by
     have:ns.getD j 0∈ns:=by simp[List.getD,Zc jl]
     have:=U' _ this;exact Bd.mono (j:=7) (by unfold Bd;omega) ∅
    exact(IX bn bq (d4 j jp)).mono ∅
   generalize aK (aK H1 v (fQ v acc)) l (.lst (kvs.map (·.2)))=H3 at s3 Sc ha ⊢;let SF:=s3 _ _ hy;apply⟨_,(),acc,kvs,(),SF,λo N0 nC=>?_⟩;let LR:H acc=none:=bU;let bD:N0≠acc:=λz=>by rw[z,de] at nC;cases nC
   let h3n:H3 N0=none:=by rw[c7 bD] at nC;exact nC
   let G0:=s1.trans s3;let tm4:Tm H3 (aK H3 acc (.ic o (.dK kvs))):=λa xs ha=>by rw[c7 (ua ha SF (by intro z;cases z))];exact ha
   let s4:aA H (aK H3 acc (.ic o (.dK kvs))):=G0.acc bU;let rt4:=Sc.tm tm4;let ha4:=tm4 _ _ ha;let MX:(aK H3 acc (.ic o (.dK kvs))) acc=some (.ic o (.dK kvs)):=de;generalize aK H3 acc (.ic o (.dK kvs))=H4 at s4 rt4 ha4 MX nC ⊢;apply B2 (kvs:=kvs) (λi zs H'=>aA H4 H'/\zs=c3 (((eQ ns ns.length).take i).filter λj=>decide (d7 ns qs j=m))) ⟨(aA.refl H4).acc nC,()⟩ (λi zs H' _ _ z=>z.1 _ _ MX) ?_ ?_
   .rintro i kk vv zs H5 RD hz ⟨s5,rfl⟩;let⟨j,aj,hj,rfl,rfl,haj,wz⟩:=rt4.at RD;let hjm:=Z2 hj;apply⟨_,(),_,(),acc,_,(),.inl ⟨kvs,nj j,.inr ⟨o,s5 _ _ MX⟩,(),wz.symm⟩,_,(),?_⟩;apply⟨qD (d7 ns qs j),qD m,Lm (s5 _ _ haj),Lm (s5 _ _ ha4),Zl (Nat.min_le_left _ _) (Zl (DQ _) ∅),_,(),?_⟩;rw[EB];let hil:i<(eQ ns ns.length).length:=(Zf.mp hj).1;cases hd:decide (d7 ns qs j=m) with
    |true =>
     apply cL ⟨_,(),_,hz,?_,Cn.of de ⟨s5.acc nC,?_⟩⟩
     .unfold c3;have:=Yz (λj=>decide (d7 ns qs j=m)) ((eQ ns ns.length).take i);let h3:((eQ ns ns.length).take i).length<=i:=List.length_take_le _ _;rw[Zb,sz];omega
     .rw[Ax hj,Xo];let e1:[j].filter (λj=>decide (d7 ns qs j=m))=[j]:=by simp only[List.filter,hd]
      rw[e1];unfold c3;rw[Zs];rfl
    |false =>
     apply cP (Cn.of hz ⟨s5,?_⟩);rw[Ax hj,Xo];let e1:[j].filter (λj=>decide (d7 ns qs j=m))=[]:=by simp only[List.filter,hd]
     rw[e1,Yh]
   .rintro zs H5 hz ⟨s5,rfl⟩;rw[RE,Yf] at hz;apply⟨N0,_,(),.inl ⟨bG.of hz,λt ht=>?_⟩⟩;apply k t _ ((s4.trans s5).new ht) ?_;rw[Gu d4 vV hm d8];exact de
abbrev NAr:Δ2:=["market","thing","goods"]
def K9:ai NAr ["market","thing"] (bF (top 26)):=L2.dj
def PN (F:cR K "are_prices" "are_prices" (top 26) f fd)(N:Nm mg)(Z:Cr K)(I:bS K mg P w base "is_fraction" 2 ["thing"] (spT bT) fI dI)(W:bS K mg P w base "wished" 1 ["market"] yl fW dW):aI P w K mg base cf 3 f fd ["market","thing"] K5:=by
 apply F.ok K9 (λvs H Q E h=>?_) (λbH A' outer s H vs Q E hr h=>?_)
 .obtain⟨b,p,pa,pp,pw,xa,xp,xw,am,pu,wi,v,d,rfl,_⟩:=h;rfl
 .obtain⟨b,p,pa,pp,pw,xa,xp,xw,am,pu,wi,v,d,rfl,m,hT,k⟩:=h;let qC:cS 1 _:=hr.mono ∅;let hu:=hr.units;let⟨Cv,Sd,C3,Wz,a1,a6,w1,w6,_⟩:=m.lw;apply⟨_,d9 (ph (PW.pt (pw_or (gL (fV (wn K (pv 1) rfl N.isinstance rfl N.tuple sM MD))) (pw_or1 (pz t9 (vC fw (by rfl) N.len Ys (aP (pv 1) bN)) (vC fw (by rfl) N.len Ys (aP (dz bW (pv 0) bB (λ_ _=>rfl)) bN)) (aO _))))) (dY (gc t7)) pq)
   (d9 (ph (gL (fV (vC (L6 rfl) (by rfl) N.all boot_all (aP (Aw (own:=["part"]) (cap:=[]) (ix:=[]) (aL.of (bF (top 26)).names NAr) rfl (C4 (pv 1))
     (λC fp s H=>⟨iT (i:=0) (Ψ9 ["part"]) rfl (Or.inl rfl),Ch,dX I.ok hr rfl I.mg I.kp I.bd .nil aN (aP (pv 0) bN)⟩)) bN)))) (dY (gc t7)) pq)
   (d9 (k9 (i:=2) K9.nd rfl (Or.inr rfl) (dX W.ok qC rfl W.mg W.kp W.bd .nil aN (aP (pv 0) bN)))
   (dY (gc (vC (L6 rfl) (by rfl) N.all boot_all (aP (Aw (own:=["good","price"]) (cap:=["goods"]) (ix:=[2]) (aL.of (bF (top 26)).names NAr) rfl (mG rfl N.enumerate G7 (aP (pv 1) bN))
     (λC fp s H=>⟨jJ (n:=2) rfl (ye (iT (i:=0) (Ψ9 ["good","price","goods"]) rfl (Or.inl rfl)) (ye (iT (i:=1) (Ψ9 ["good","price","goods"]) rfl (Or.inl rfl)) gU)),
      Ch,uH (pz yx (pv 0) (pv 2) (by with_unfolding_all rfl)) (fE ii (dz bW (pv 1) bB (λ_ _=>rfl)) bB (aO _)) (fE nv (dz bW (pv 1) bB (λ_ _=>rfl)) bB (aO _))⟩)) bN)))))),?_⟩
  let⟨t1,R7,e1⟩:=ist Z hT;apply⟨_,(),t1,_,R7,e1,_,(),?_⟩;let hk:=k H (aA.refl H);rcases yT hT with hn |⟨a,xs,ds,rfl,rfl,ha,hs⟩
  .rw[hn];rw[FR hn] at hk;exact cL (cL hk)
  apply cP ?_;let dg:=hs.len;apply⟨_,(),a,xs,(),.inr (aQ.of ha),_,(),p,_,_,_,(),(),aQ.of m.hp,(),pa,xa,(),.inr (aQ.of m.ha),(),_,(),?_⟩;by_cases hl:xs.length=xa.length
  case neg =>
   rw[yR hl];let e3:eM xa.length (rowsOf wi) (.tuple ds)=false:=by
    cases e:eM xa.length (rowsOf wi) (.tuple ds) with
    |false=>rfl
    |true=>exact absurd (dg.trans (mE.mp e).1) hl
   rw[e3] at hk;exact cL hk
  rw[hl,Iu];apply cP ?_;apply⟨_,(),a,(),⟨_,aQ.of ha⟩,λacc bU=>?_⟩;apply kS (xs:=xs) (λj zs H2=>aA H H2/\zs=(ds.take j).map λd=>V.bl (bT d)) ⟨(aA.refl H).acc bU,()⟩ (λj zs H2 _ _ z=>aQ.of (z.1 _ _ ha)) ?_ ?_
  .rintro j x zs H2 hx hz ⟨s2,rfl⟩;let⟨dx,MZ,tx⟩:=hs.at hx;apply kg ⟨_,(),b,x,dx,(),tx.ar s2,λH3 s3=>?_⟩;let hj:j<ds.length:=(Zf.mp MZ).1;apply⟨_,s3 _ _ hz,?_,Cn.of de ⟨(s2.trans s3).acc bU,?_⟩⟩
   .rw[Zb,Yy,sz];omega
   .rw[Ax MZ,Zs];rfl
  rintro zs H2 hz ⟨s2,rfl⟩;rw[dg,Yf] at hz;apply⟨acc,_,(),.inl (bG.of hz),?_,_,(),?_⟩
  .rw[Xy];simp[Function.comp_def,gN]
  let e:(ds.map λd=>V.bl (bT d)).all tv=ds.all bT:=by rw[Xy];rfl
  rw[e];let MU:=k H2 s2;cases KP:ds.all bT with
  |false =>
   apply cL ?_;let e3:eM xa.length (rowsOf wi) (.tuple ds)=false:=by
    cases e:eM xa.length (rowsOf wi) (.tuple ds) with
    |false=>rfl
    |true =>
     let⟨h1,h2⟩:=mE.mp e;have:ds.all bT=true:=Yd.mpr λd hd=>by
      let⟨j,hj,ej⟩:=Yj hd;let h3:=h2 j ⋯;let e2:ds.getD j .none=d:=by simp[List.getD,Zc hj,ej]
      rw[e2] at h3;cases hf:bT d with
      |true=>rfl
      |false=>rw[oI hf] at h3;cases h3
     rw[this] at KP;cases KP
   rw[e3] at MU;exact MU
  |true =>
  apply cP ?_;let m2:=m.ar s2;apply⟨_,(),b,p,pa,pp,pw,xa,xp,xw,am,pu,wi,(),m2,λqg H3 s3 hqg=>?_⟩;let Ww:=s2.trans s3;apply⟨_,(),a,(),⟨_,aQ.of (Ww _ _ ha)⟩,λIm LQ=>?_⟩;let price:∀(i:Nat) (dx:PyData),ds[i]?=some dx->∃t u:Int,dx=.tuple [.int t,.int u]/\∀wd,Cg wd dx=(if wd=true then decide (0<t) else decide (t=0)):=λi dx MZ=>by
   let hf:bT dx=true:=Yd.mp KP dx (Z2 MZ);let⟨t,u,rfl,WH,WP⟩:=qj hf;apply⟨t,u,(),λwd=>?_⟩;show(bT (.tuple [.int t,.int u])&&(if wd then decide (0<t) else decide (t=0)&&decide (u=1)))=_;rw[hf,Xh];cases wd with
   |true=>rfl
   |false =>
    show(decide (t=0)&&decide (u=1))=decide (t=0);by_cases h0:t=0
    .have:u=1:=by
      subst h0;simp at WP;omega
     rw[decide_eq_true h0,decide_eq_true this];rfl
    .rw[decide_eq_false h0];rfl
  apply B1 (xs:=xs) (λi ys H'=>aA H3 H'/\ys=(List.range i).map λj=>V.bl (Cg (has (rowsOf wi) j) (ds.getD j .none))) ⟨(aA.refl H3).acc LQ,()⟩ (λi ys H' _ _ z=>aQ.of (z.1 _ _ (Ww _ _ ha))) ?_ ?_
  .rintro i x ys H4 H5 hx hy ⟨s4,rfl⟩ s5;let⟨dx,MZ,tx⟩:=hs.at hx;let⟨t,u,rfl,hpr⟩:=price i dx MZ;let hi:i<xa.length:=by have:=(Zf.mp hx).1;omega
   let Wv:=s4.trans s5;let RS:ds.getD i .none=.tuple [.int t,.int u]:=by simp[List.getD,MZ]
   let tx5:=(tx.ar Ww).ar Wv;let⟨ax,_,rfl,hax,vD⟩:=iX tx5;let⟨_,_,rfl,ZV,vD⟩:=My vD;let⟨_,_,rfl,hi3,vD⟩:=My vD;cases nY vD;cases my ZV;cases my hi3;apply kg ⟨_,(),_,(),qg,_,(),.inr (aQ.of (Wv _ _ hqg)),(),vk _ _,_,(),?_⟩;let ein:(if false=true then !G9 (V.int (i:Int)) (GD xa.length (rowsOf wi)) else G9 (V.int (i:Int)) (GD xa.length (rowsOf wi)))=has (rowsOf wi) i:=by
    rw[if_neg ∅];have:=BQ (M:=rowsOf wi) hi;rw[show(0+(i:Int))=(i:Int) by omega] at this;exact this
   rw[ein];let MJ:=s5 _ _ hy;let jk:∀c:Bool,c=Cg (has (rowsOf wi) i) (.tuple [.int t,.int u])->∃zs,H5 Im=some (.lst zs)/\zs.length<sizeLine/\KZ (dS 2 [2] [some (.ref p),some (.ref a),some (.ref qg)]) Im (λys H'=>aA H3 H'/\ys=(List.range (i+1)).map λj=>V.bl (Cg (has (rowsOf wi) j) (ds.getD j .none)))
     (((dS 2 [2] [some (.ref p),some (.ref a),some (.ref qg)]).set 0 (some (.int i))).set 1 (some (.ref ax))) (aK H5 Im (.lst (zs++[.bl c]))):=λc hc=>by
    apply⟨_,MJ,?_,KZ.of de ⟨Wv.acc LQ,?_⟩⟩
    .rw[Zb,Yk,sz];omega
    .rw[Y3,Zs,hc];simp only[Zm,List.map_nil];rw[RS]
   cases hh:has (rowsOf wi) i with
   |true =>
    apply cL ⟨_,(),ax,_,_,_,(),(),aQ.of hax,(),_,_,(),(),?_⟩;exact jk _ (by rw[hpr,hh];rfl)
   |false =>
    apply cP ⟨_,(),ax,_,_,_,(),(),aQ.of hax,(),(),?_⟩;apply jk _ ?_;rw[hpr,hh];by_cases h0:t=0
    .subst h0;rfl
    .rw[if_neg ∅,decide_eq_false h0];simp[h0]
  .rintro ys H4 hy ⟨s4,rfl⟩;apply⟨Im,_,(),.inl (bG.of hy),?_,?_⟩
   .rw[Xy];simp[Function.comp_def,gN]
   let e4:((List.range xs.length).map λj=>V.bl (Cg (has (rowsOf wi) j) (ds.getD j .none))).all tv=eM xa.length (rowsOf wi) (.tuple ds):=by
    rw[Xy];show _=(decide (ds.length=xa.length)&&(List.range xa.length).all λj=>Cg (has (rowsOf wi) j) (ds.getD j .none));rw[decide_eq_true ⋯,Xh,hl];rfl
   rw[e4];exact k H4 (Ww.trans s4)
def OD:ai ["market","thing"] ["market","thing"] (bF (top 27)):=L2.dj
def JJ (F:cR K "need_prices" "need_prices" (top 27) f fd)(mgP:mg "NoPrices"=some (.ref Pr))(exP:PySem.W.excIn K Pr [.type "ValueError",.type "Exception",.type "BaseException",.type "object"] "ValueError.__new__"=true)
  (A:bS K mg P w base "are_prices" 3 ["market","thing"] K5 fA dA):aI P w K mg base cf 4 f fd ["market","thing"] (j6 (D4 Pr)):=by
 apply F.ok OD (λvs H Q E h=>?_) (λbH A' outer s H vs Q E hr h=>?_)
 .obtain⟨b,p,pa,pp,pw,xa,xp,xw,am,pu,wi,v,d,rfl,_⟩:=h;rfl
 .obtain⟨b,p,pa,pp,pw,xa,xp,xw,am,pu,wi,v,d,rfl,m,hT,k0,k1⟩:=h;apply⟨_,dY (ph (gL (fV (dX A.ok hr rfl A.mg A.kp A.bd .nil aN (aP (pv 0) (aP (pv 1) bN))))) (dY (rh)) pq),?_⟩;apply⟨_,(),_,(),b,p,pa,pp,pw,xa,xp,xw,am,pu,wi,v,d,(),m,hT,λH1 s1=>⟨_,(),?_⟩⟩;cases hp:eM xa.length (rowsOf wi) d with
  |false=>exact cL (k0 hp H1 s1)
  |true=>exact cP (k1 hp H1 s1)
def abh:ai Ψ8 Ψ8 (bF (top 29)):=L2.dj
def VI (F:cR K "best_goods" "best_goods" (top 29) f fd)(N:Nm mg)(Ne:bS K mg P w base "need_prices" 4 ["market","thing"] (j6 (D4 Pr)) fN dN)(B:bS K mg P w base "best_by_wishes" 5 ["row","prices"] TB fB dB) :
  aI P w K mg base cf 6 f fd Ψ8 (j6 (nG Pr)):=by
 apply F.ok abh (λvs H Q E h=>?_) (λbH A' outer s H vs Q E hr h=>?_)
 .obtain⟨b,p,pa,pp,pw,xa,xp,xw,am,pu,wi,v,d,rfl,_⟩:=h;rfl
 .obtain⟨b,p,pa,pp,pw,xa,xp,xw,am,pu,wi,v,d,rfl,ag,k0,k1⟩:=h;let hr4:cS 4 _:=hr.mono ∅;apply⟨_,d9 (zn (dX Ne.ok hr4 rfl Ne.mg Ne.kp Ne.bd .nil aN (aP (pv 0) (aP (pv 1) bN))))
   (dY (gc (GH fb (by rfl) N.tuple sM (aP (Aw (own:=["row"]) (cap:=["prices"]) (ix:=[1]) (aL.of (bF (top 29)).names Ψ8) rfl (C4 (dz bW (pv 0) bB (λ_ _=>rfl)))
    (λC fp s H=>⟨iT (i:=0) (Ψ9 ["row","prices"]) rfl (Or.inl rfl),Ch,dX B.ok hr rfl B.mg B.kp B.bd .nil aN (aP (pv 0) (aP (pv 1) bN))⟩)) bN)))),?_⟩
  apply⟨_,(),_,(),b,p,pa,pp,pw,xa,xp,xw,am,pu,wi,v,d,(),ag.m,ag.tr,k0,λhp H1 s1=>?_⟩;let⟨qs,rfl,GK,hpq⟩:=Fi hp;let S9:=ag.ar s1;let WS:=ag.wd qs rfl;let htr:=S9.tr;let⟨Cv,Sd,C3,Wz,a1,a6,w1,w6,_⟩:=S9.m.lw;cases htr with
  |@tup a ys _ ha YX =>
  let fr:=lT.of YX;apply⟨_,(),p,_,_,_,(),(),aQ.of S9.m.hp,(),pw,(),⟨_,aQ.of S9.m.hw⟩,λacc bU=>?_⟩;apply kS (xs:=xw) (λi ws H'=>aA H1 H'/\qG H' ws ((ak (rowsOf wi) qs).take i)) ⟨(aA.refl H1).acc bU,.nil⟩ (λi ws H' _ _ z=>aQ.of (z.1 _ _ S9.m.hw)) ?_ ?_
  .rintro i x ws H2 hx hz ⟨s2,rs⟩;let⟨ns,c,RK,rfl,hc⟩:=Cv.at hx;let ZO:=Z2 RK;let hnl:=C3 ns ZO;let d4:∀j,0<ns.getD j 0->0<qs.getD j 0:=λj hj=>by
    let hjl:j<ns.length:=by
     rcases Z3 j ns.length with z |z
     .exact z
     .simp[List.getD,Yu z] at hj
    apply hpq.pos j ⋯ ?_;unfold has;exact Z6.mpr ⟨ns,ZO,by simpa using hj⟩
   apply kg ⟨_,(),_,(),c,a,ns,ys,qs,(),s2 _ _ hc,s2 _ _ ha,fr.ar s2,⋯,⋯,Wz ns ZO,WS,d4,λt H3 s3 ht=>?_⟩;let YW:=s3 _ _ hz;let hi:i<(rowsOf wi).length:=(Zf.mp RK).1;let eB:(ak (rowsOf wi) qs)[i]?=some ((aV ns qs).map λg:Nat=>(g:Int)):=by
    unfold ak;rw[Zo,RK];rfl
   let tl:Tm H3 (aK H3 acc (.lst (ws++[.ref t]))):=Tm.lst YW;apply⟨ws,YW,?_,Cn.of de ⟨(s2.trans s3).acc bU,?_⟩⟩
   .rw[rs.len,Yy,sz];have:(rowsOf wi).length=xw.length:=Cv.len.symm;omega
   .rw[Ax eB];exact zf ((rs.keep s3.tm).keep tl) (tl _ _ (by rw[ht,xC]))
  .rintro ws H2 hz ⟨s2,rs⟩;let e:xw.length=(ak (rowsOf wi) qs).length:=by unfold ak;rw[Zb,Cv.len]
   rw[e,Yf] at rs;apply⟨acc,ws,(),.inl ⟨bG.of hz,λl hl=>?_⟩⟩;let s3:=(aA.refl H2).new (o:=.tup ws) hl;exact k1 qs rfl GK hpq l ws _ (s1.trans (s2.trans s3)) de (rs.keep s3.tm)
end
def FE {α : Type}{L:List α}(nd:L.Nodup){r:α}(h:L[i]?=some r):r∉L.take i:=by
 intro z;let⟨j,hj,e⟩:=Qh.mp z;rw[Yy] at hj;let⟨hi,ei⟩:=Zf.mp h;rw[List.getElem_take,<- ei] at e;have:=(List.getElem_inj nd).mp e;omega
def xk {k:List dZ}(h:k∉kvs.map (·.1)):et kvs k=none:=by
 cases e:et kvs k with
 |none=>rfl
 |some v=>exact absurd (yS e) h
def V2:∀{aT:List (Int×Γ3)},(aT.map (·.2)).Nodup->∀{i:Nat}{k:List dZ}{v:V},(mq aT)[i]?=some (k,v)->∃row,aT[i]?=some row/\k=row.2.map ni/\v=.int row.1/\et (mq aT) k=some v:=by
 intro aT nd i k v h;let h1:∃row,aT[i]?=some row/\k=row.2.map ni/\v=.int row.1:=by
  unfold mq at h;rw[Zo] at h;cases e:aT[i]? with
  |none=>rw[e] at h;cases h
  |some row =>
   rw[e] at h;simp only[Y2,Option.some.injEq,Prod.mk.injEq] at h;exact⟨row,(),h.1.symm,h.2.symm⟩
 let⟨row,e1,e2,e3⟩:=h1;apply⟨row,e1,e2,e3,?_⟩
 clear h
 induction aT generalizing i with
 |nil=>simp at e1
 |cons p r ih =>
  rw[Zm,Z9] at nd;cases i with
  |zero =>
   let e':p=row:=by simpa using e1
   subst e';show et ((p.2.map ni,V.int p.1)::mq r) k=some v;rw[e3];exact gv e2.symm
  |succ i =>
   let e':r[i]?=some row:=by simpa using e1
   let hm:row.2∈r.map (·.2):=Zd.mpr ⟨row,Z2 e',()⟩;show et ((p.2.map ni,V.int p.1)::mq r) k=some v;rw[gw (λz=>nd.1 (by rw[e2] at z;rw[uQ z];exact hm))];exact ih nd.2 e'
def wk (aT:List (Int×Γ3))(m:Int):Γ1:=(aT.filter λx=>decide (x.1=m)).map (·.2)
def rS:r∈wk aT m↔∃row∈aT,row.1=m/\row.2=r:=by
 unfold wk
 simp_all
def pU {aT:List (Int×Γ3)}(h:aT[i]?=some row):wk (aT.take (i+1)) m=wk (aT.take i) m++if decide (row.1=m)=true then [row.2] else []:=by
 unfold wk;rw[Ax h,Xo,V4,Zs]
 congr 1
 split<;>simp_all
def ES (h:qF H zs M)(e:zs[i]?=some (.ref b)):∃r,M[i]?=some r/\H b=some (.tup (r.map V.int))/\((M.map λr=>r.map V.int).getD i []).length=r.length:=by
 let⟨a,r,e1,e2,e3⟩:=h.2 i _ e
 simp_all
def FW {M:Γ1}(h:r∈M):∃j,j<M.length/\((M.map λr=>r.map V.int).getD j []).length=r.length:=by
 let⟨j,hj,rfl⟩:=Qh.mp h;exact⟨j,hj,by simp[List.getD,Zo,Zc hj]⟩
section
variable {P:Program}{w:World}{K:Θ1}{mg:Θ3}{base:Heap}
abbrev NGA:Δ2:=["market","prices","best","money","purses"]
def Hz:ai NGA Ψ8 (bF (top 37)):=L2.dj
def VG {f fB fI fC fT fA fW Pr:Addr}(F:cR K "goods_above" "goods_above" (top 37) f fd)(B:bS K mg P w base "best_goods" 6 Ψ8 (j6 (nG Pr)) fB dB)(I:bS K mg P w base "in_coins" 5 Ψ8 zd fI dI)
  (Co:bS K mg P w base "coins_of" 1 ["coins","some"] Tz fC dC) (T:bS K mg P w base "takers_by_best" 1 ["best","goods"] Tv fT dT) (A:bS K mg P w base "all_sets" 1 ["members"] D7 fA dA) (W:bS K mg P w base "wished" 1 ["market"] yl fW dW):aI P w K mg base cf 7 f fd Ψ8 TC:=by
 apply F.ok Hz (λvs H Q E h=>?_) (λbH A' outer s H vs Q E hr h=>?_)
 .obtain⟨b,p,pa,pp,pw,q,xa,xp,xw,ys,am,pu,wi,qs,rfl,_⟩:=h;rfl
 .obtain⟨b,p,pa,pp,pw,q,xa,xp,xw,ys,am,pu,wi,qs,rfl,mp,k⟩:=h;let m:=mp.m;let pr:=mp.pr;let GK:=mp.l;let qC:cS 1 _:=hr.mono ∅;let ZF:cS 5 _:=hr.mono ∅;let⟨Cv,Sd,C3,Wz,a1,a6,w1,w6,wp⟩:=m.lw;apply⟨_,d9 (k9 (i:=2) Hz.nd rfl (Or.inr rfl) (dX B.ok hr rfl B.mg B.kp B.bd .nil aN (aP (pv 0) (aP (pv 1) bN))))
   (d9 (jI (dX I.ok ZF rfl I.mg I.kp I.bd .nil aN (aP (pv 0) (aP (pv 1) bN))) (jJ rfl (ye (iT (i:=3) Hz.nd rfl (Or.inr rfl)) (ye (iT (i:=4) Hz.nd rfl (Or.inr rfl)) gU))))
   (dY (gc (Bo (own:=["some"]) (cap:=["best","money","purses"]) (ix:=[2,3,4]) hr.Ow (aL.of (bF (top 37)).names NGA) rfl (TU (dX A.ok qC rfl A.mg A.kp A.bd .nil aN (aP (dX W.ok qC rfl W.mg W.kp W.bd .nil aN (aP (pv 0) bN)) bN)))
    (λC fp s H=>⟨iT (i:=0) (Ψ9 ["some","best","money","purses"]) rfl (Or.inl rfl),Ch,pv 0,
     cY wN (dX Co.ok qC rfl Co.mg Co.kp Co.bd .nil aN (aP (pv 2) (aP (pv 0) bN))) (dX Co.ok qC rfl Co.mg Co.kp Co.bd .nil aN (aP (pv 3) (aP (dX T.ok qC rfl T.mg T.kp T.bd .nil aN (aP (pv 1) (aP (pv 0) bN))) bN)))⟩))))),?_⟩
  let hM6:(rowsOf wi).length<=6:=by rw[<- Cv.len];exact w6
  let ZE:∀r∈ak (rowsOf wi) qs,r.length<=6:=λr j8=>by
   unfold ak at j8;let⟨row,gH,rfl⟩:=Zd.mp j8;rw[Zb];let h1:=C3 row gH;let h2:(aV row qs).length<=row.length:=by unfold aV;exact Zl (Yz _ _) (by simp)
   omega
  let hPr:eM xa.length (rowsOf wi) (.tuple (qs.map qD))=true:=Dy.mpr ⟨GK,mp.ok⟩;let ag:Dm b H p pa pp pw xa xp xw am pu wi (.ref q) (.tuple (qs.map qD)):=⟨m,.tup pr.hq pr.tr,λCc e z hz=>by
   injection e with e
   have:Cc=qs:=(List.map_inj_right (λa b h=>by have h1:=congrArg Rj h;rw[iF,iF] at h1;exact h1)).mp e.symm;rw[this] at hz;exact(pr.bd z hz).mono ∅⟩
  apply⟨_,(),_,(),b,p,pa,pp,pw,xa,xp,xw,am,pu,wi,.ref q,_,(),ag,λhn=>by(rw[hPr] at hn;cases hn),λCc e _ _ rb xb H1 s1 jZ ls1=>?_⟩;injection e with e
  let e':qs=Cc:=(List.map_inj_right (λa b h=>by have h1:=congrArg Rj h;rw[iF,iF] at h1;exact h1)).mp e;subst e';apply⟨_,(),_,(),b,p,pa,pp,pw,q,xa,xp,xw,ys,am,pu,wi,qs,(),m.ar s1,pr.ar s1,GK,λr2 rm rp c ms ps H2 s2 hc hms Az MM hrm hrp=>?_⟩;apply⟨r2,_,(),aQ.of MM,(),_,_,(),_,_,(),(),?_⟩;let Gw:=s1.trans s2;apply⟨_,(),b,p,pa,pp,pw,xa,xp,xw,am,pu,wi,(),m.ar Gw,λqw H3 s3 hw3=>?_⟩;rw[lD] at hw3;let Ay:(aw xa.length (rowsOf wi)).length<=6:=by
   unfold aw;rw[Zb];exact Zl (i9 _ _) a6
  let hwz:∀x∈aw xa.length (rowsOf wi),0<=x/\x.toNat<xa.length:=λx hx=>by
   unfold aw at hx;let⟨j,hj,rfl⟩:=Zd.mp hx;have:=(gl hj).1;exact⟨⋯,⋯⟩
  apply⟨qw,aw xa.length (rowsOf wi),(),hw3,Ay,λqse xs H4 s4 e4 ts4=>?_⟩;let s24:=s3.trans s4;let s04:=Gw.trans s24;let hnd:=iR (Cj xa.length (rowsOf wi));let ajI:(aU (aw xa.length (rowsOf wi))).length<=64:=by
   rw[Rr];exact Zl (Xa ∅ Ay) ∅
  let hMl:(ak (rowsOf wi) qs).length=(rowsOf wi).length:=by unfold ak;rw[Zb]
  let jE:(qA pu).length=(rowsOf wi).length:=by
   let h1:=(m.fp).1;let h2:=Cv.len;omega
  let RC:(gd (am.map be) qs).length=xa.length:=by unfold gd;rw[Zb,Yk,GK]
  apply⟨qse,(),⟨_,bG.of e4⟩,λacc bU=>?_⟩;apply vp (xs:=xs) (λi kvs H'=>aA H4 H'/\∃aT:List (Int×Γ3),kvs=mq aT/\aT.map (·.2)=(aU (aw xa.length (rowsOf wi))).take i/\∀x∈aT,((x.1:Int):Rat)=(c:Rat)*aF (am.map be) (qA pu) qs (rowsOf wi) (au x.2))
   ⟨(aA.refl H4).acc bU,[],(),(),λx hx=>nomatch hx⟩ (λi zs H' _ _ z=>bG.of (z.1 _ _ e4)) ?_ ?_
  .rintro i x kvs H5 hx hy ⟨s5,aT,rfl,AQ,wz⟩;let⟨a,S,WU,rfl,ha⟩:=ts4.2 i x hx;let hSm:=Z2 WU;let hSs:=ck.mp hSm;let hS1:∀x∈S,0<=x/\x.toNat<xa.length:=λx hx=>hwz x (hSs.subset hx)
   let hS6:(au S).length<=6:=by unfold au;rw[Zb];exact Zl hSs.length_le Ay
   let vV:∀x∈S,0<=x:=λx hx=>(hS1 x hx).1
   let hSx:∀g∈au S,g<xa.length:=λg hg=>by
    unfold au at hg;let⟨x,hx,rfl⟩:=Zd.mp hg;exact(hS1 x hx).2
   let Wv:=s5;let Hu:aA H2 H5:=s24.trans s5;let ha5:H5 a=some (.tup (c3 (au S))):=by rw[<- PQ vV];exact s5 _ _ ha
   apply kg ⟨_,(),_,(),_,(),rm,a,ms,au S,(),Hu _ _ hrm,ha5,hS6,λg hg=>by rw[hms.1,RC];exact hSx g hg,λH6 s6=>?_⟩;apply⟨_,(),_,(),_,(),rb,a,xb,ak (rowsOf wi) qs,au S,(),s6 _ _ (Hu _ _ (s2 _ _ jZ)),ls1.keep ((s2.trans Hu).trans s6).tm,s6 _ _ ha5,by rw[hMl];exact hM6,ZE,λrt H7 s7 ht7=>?_⟩;rw[hMl] at ht7;let Uq:H7 rt=some (.tup (c3 (eF (rowsOf wi) qs (au S)))):=ht7;generalize KJ:eF (rowsOf wi) qs (au S)=tk at Uq;let htl:∀i∈tk,i<(rowsOf wi).length:=λi hi=>by rw[<- KJ] at hi;exact oE hi
   let htn:tk.length<=6:=by rw[<- KJ];exact Zl (lW _ _ _) hM6
   apply⟨rp,rt,ps,tk,(),s7 _ _ (s6 _ _ (Hu _ _ hrp)),Uq,htn,λg hg=>by rw[Az.1,jE];exact htl g hg,λH8 s8=>?_⟩;let YI:=(s6.trans s7).trans s8;let abL:S.map ni∉(mq aT).map (·.1):=λz=>by
    unfold mq at z;rw[Zp] at z;let⟨row,gH,e⟩:=Zd.mp z;let e2:row.2=S:=uQ e;have:row.2∈aT.map (·.2):=Zd.mpr ⟨row,gH,()⟩;rw[AQ,e2] at this;exact FE hnd WU this
   let hi:i<(aU (aw xa.length (rowsOf wi))).length:=(Zf.mp WU).1;let CM:aT.length=i:=by
    have:=congrArg List.length AQ;rw[Zb,Yy] at this;omega
   apply⟨_,_,(),(),mq aT,S.map ni,a,YI _ _ hy,(),?_,?_,Nf.of de ⟨(s5.trans YI).acc bU,aT++[(((au S).map λg=>ms.getD g 0).sum-(tk.map λi=>ps.getD i 0).sum,S)],?_,?_,?_⟩⟩
   .rw[Ex];exact YI _ _ (s5 _ _ ha)
   .unfold mq;rw[Zb,CM,sz];omega
   .rw[n9 _ (xk abL)];unfold mq;rw[Zs];rfl
   .rw[Zs,AQ,Ax WU];rfl
   .intro x hx;rcases Zv.mp hx with h |h
    .exact wz x h
    .rw[Z1.mp h];show(((((au S).map λg=>ms.getD g 0).sum-(tk.map λi=>ps.getD i 0).sum:Int)):Rat)=_;let h1:=kR hms (ix:=au S) (λg hg=>by rw[RC];exact hSx g hg);let h2:=kR Az (ix:=tk) (λi hi=>by rw[jE];exact htl i hi);rw[Rat.intCast_sub,h1,h2];unfold aF eh bt;rw[KJ,Rat.sub_eq_add_neg,Rat.sub_eq_add_neg,Rat.mul_add,Rat.mul_neg]
  .rintro kvs H5 hy ⟨s5,aT,rfl,AQ,wz⟩;rw[ts4.1,Yf] at AQ;exact k acc c aT H5 (s04.trans s5) (s04.free bU) ⟨hc,AQ,wz⟩ hy
abbrev NPG:Δ2:=["market","prices","above"]
def TK:ai NPG Ψ8 (bF (top 38)):=L2.dj
def VE {f fA De:Addr}(F:cR K "paid_goods" "paid_goods" (top 38) f fd)(N:Nm mg)(mgD:mg "Dear"=some (.ref De))(exD:PySem.W.excIn K De [.type "ValueError",.type "Exception",.type "BaseException",.type "object"] "ValueError.__new__"=true)
  (A:bS K mg P w base "goods_above" 7 Ψ8 TC fA dA):aI P w K mg base cf 8 f fd Ψ8 (j6 (Nr De)):=by
 apply F.ok TK (λvs H Q E h=>?_) (λbH A' outer s H vs Q E hr h=>?_)
 .obtain⟨b,p,pa,pp,pw,q,xa,xp,xw,ys,am,pu,wi,qs,rfl,_⟩:=h;rfl
 .obtain⟨b,p,pa,pp,pw,q,xa,xp,xw,ys,am,pu,wi,qs,rfl,mp,k⟩:=h;let WH:=yE hr;apply⟨_,d9 (k9 (i:=2) TK.nd rfl (Or.inr rfl) (dX A.ok hr rfl A.mg A.kp A.bd .nil aN (aP (pv 0) (aP (pv 1) bN))))
   (d9 (ph (pz ii (vC (lQ rfl) (by rfl) N.max boot_max (aP (Ef PySem.F.plainAttrs_dict PySem.F.slot_dict_values PySem.F.type_dict_values xE (pv 2)) bN)) bB (aO _)) (dY (rh)) pq)
   (dY (gc (Bn K rfl (by rfl) N.max (by rfl) N.len (aP (Aw (own:=["some"]) (cap:=["above"]) (ix:=[2]) (aL.of (bF (top 38)).names NPG) rfl (Fm (pv 2))
    (λC fp s H=>⟨iT (i:=0) (Ψ9 ["some","above"]) rfl (Or.inl rfl),kN (pz nv (zt WH (pv 1) (pv 0) (λ_ _=>rfl)) bB (aO _)),pv 0⟩)) bN))))),?_⟩
  apply⟨_,(),_,(),b,p,pa,pp,pw,q,xa,xp,xw,ys,am,pu,wi,qs,(),mp,λd c aT H1 s1 hd0 ab T'=>?_⟩;let⟨k0,k1⟩:=k c aT ab;let nd:(aT.map (·.2)).Nodup:=by rw[ab.2.1];exact iR (Cj xa.length (rowsOf wi))
  let CM:aT.length=(aU (aw xa.length (rowsOf wi))).length:=by rw[<- ab.2.1,Zb]
  let Ay:(aw xa.length (rowsOf wi)).length<=6:=by
   unfold aw;rw[Zb];exact Zl (i9 _ _) mp.m.lw.2.2.2.2.2.1
  rw[Rr] at CM;let h64:aT.length<=64:=by rw[CM];exact Zl (Xa ∅ Ay) ∅
  let bD:aT≠[]:=λz=>by
   rw[z] at CM;exact absurd CM.symm (Xv (Nat.pow_pos ∅))
  apply⟨_,(),.inr (.inr (.inl ⟨(),.inr ⟨_,T'⟩⟩)),d,mq aT,(),(),T',λv hv=>?_⟩;let s2:=(aA.refl H1).new (o:=fQ v d) hv;let Hj:=s2 _ _ T';let YJ:=s1.trans s2;apply⟨v,d,mq aT,aT.map (·.1),(),de,.inl Hj,by unfold mq;rw[Zp,Zp];rfl,λz=>bD (Qd.mp z),λmx hm d8=>?_⟩;generalize aK H1 v (fQ v d)=H2 at s2 YJ Hj ⊢;apply⟨_,_,(),(),_,(),?_⟩;let⟨Ny,VZ,er0⟩:=Zd.mp hm;by_cases h0:0<mx
  .rw[decide_eq_true h0];exact cL (k0 ⟨Ny,VZ,by rw[er0];exact h0⟩ H2 YJ)
  rw[decide_eq_false h0];apply cP ?_;let He:∀x∈aT,x.1<=0:=λx hx=>by have:=d8 _ (Zd.mpr ⟨x,hx,()⟩);omega
  apply⟨_,(),d,mq aT,(),Hj,λo acc bU=>?_⟩;let MX:(aK H2 d (.ic o (.dT (mq aT)))) d=some (.ic o (.dT (mq aT))):=de;let s4:aA H (aK H2 d (.ic o (.dT (mq aT)))):=YJ.acc hd0;generalize aK H2 d (.ic o (.dT (mq aT)))=H4 at MX s4 bU ⊢;let SR:(mq aT).length=aT.length:=by unfold mq;rw[Zb]
  apply xX (kvs:=mq aT) (λi zs H'=>aA H4 H'/\qF H' zs (wk (aT.take i) 0)/\zs.length<=i) ⟨(aA.refl H4).acc bU,qF.nil,Ze _⟩ (λi zs H' _ _ z=>z.1 _ _ MX) ?_ ?_
  .rintro i kk vv b zs H5 RD hb hz ⟨s5,tz,YT⟩;let⟨row,gH,rfl,rfl,wz⟩:=V2 nd RD;let hi:i<aT.length:=(Zf.mp gH).1;apply⟨_,(),_,(),d,_,(),.inr ⟨mq aT,_,b,.inr ⟨o,s5 _ _ MX⟩,(),hb,wz.symm⟩,(),_,(),?_⟩;let ev:decide (V.int row.1=V.int 0)=decide (row.1=0):=by rw[Yc];simp
   rw[ev];rw[Ex] at hb;cases hc:decide (row.1=0) with
   |true =>
    apply cL ⟨_,(),zs,hz,by rw[sz];omega,Cn.of de ⟨s5.acc bU,?_,by rw[Zt];show zs.length+1<=i+1;omega⟩⟩;rw[pU gH,hc,if_pos rfl];exact(tz.app hb).tm (Tm.lst hz)
   |false =>
    apply cP (Cn.of hz ⟨s5,?_,⋯⟩);rw[pU gH,hc,if_neg ∅,Yh];exact tz
  .rintro zs H5 hz ⟨s5,tz,YT⟩;rw[SR,Yf] at tz;let QK:wk aT 0≠[]:=λz=>by
    let hn:([]:Γ3)∈aT.map (·.2):=by rw[ab.2.1];exact ck.mpr (List.nil_sublist _)
    let⟨x,hx,ex⟩:=Zd.mp hn;let hv:=ab.2.2 x hx;rw[ex] at hv;have:aF (am.map be) (qA pu) qs (rowsOf wi) (au [])=0:=lP;rw[this,Xs] at hv;let h00:x.1=0:=by simpa using hv
    have:=rS.mpr ⟨x,hx,h00,()⟩;rw[z] at this;cases this
   apply⟨acc,zs,_,(),bG.of hz,λz=>QK (Qd.mp z),tz.ks,λi b hb hi jx=>?_⟩;let⟨r,qC,WR,dg⟩:=ES tz hb;let⟨row,gH,e1,e2⟩:=rS.mp (Z2 qC);subst e2;apply k1 He b row H5 (s4.trans s5) gH e1 (λx hx ex=>?_) WR;let⟨j,hj,hjl⟩:=FW (rS.mpr ⟨x,hx,ex,()⟩);have:=(jx j (by rw[Zb];exact hj)).1;omega
end
end CV
namespace MI
open PySem.Spec PyProof.Rows L2 KG
section
variable {K:Θ1}
def TD (O:bE)(x:AV)(lo hi:Option Int)(P:AV->bE->Prop):Prop:=match x with
 |.im (.list ds)=>P (.im (.list (cutD ds lo hi))) O
 |_=>False
def HI (M:ME)(L U:MO):ME:=λsl O Q=>M sl O λx O1=>L sl O1 λl O2=>U sl O2 λu O3=>TD O3 x l u Q
def lJ {lo hi:Option Expr}(he:PE X e (bO K QX E M))(hl:PO X lo (Wq K QX E L))(hu:PO X hi (Wq K QX E U)):PE X (.Subscript e (.Slice lo hi none p2) pos) (bO K QX E (HI M L U)) :=
 PE.imp (Fo aa9 he hl hu) λσ H Q ⟨w,O,sl,Q0,c,m,q⟩=>⟨w,O,sl,_,c,m,λx O1 v w1 H1 h1 e1 r1 a1=>⟨w1,O1,sl,_,c.ex e1.ex r1,h1,λl O2 w2 H2 h2 e2 r2=>⟨w2,O2,sl,_,(c.ex e1.ex r1).ex e2.ex r2,h2,λu O3 w3 H3 h3 e3 r3=>by
  unfold TD at h3;split at h3
  .obtain⟨p1,us,rfl,g1,t1⟩:=il ((a1.ex e2.ex).ex e3.ex);apply⟨p1,us,(),bG.of g1,λp hp=>?_⟩;let⟨r4,e4,t4⟩:=mL r3 hp (QO t1);exact q _ O3 _ w3 _ h3 (((e1.trans e2).trans e3).trans e4) r4 t4
  .exact h3.elim⟩⟩⟩
end
end MI
namespace MI
open L2 KG EX KM
section
structure Hr (w:Wd)(O:bE)(H:Hp)(w':Wd)(O':bE)(H':Hp):Prop where
 bs:∃t,w'.dE=w.dE++t
 bK:∃t,w'.bK=w.bK++t
 ar:aA (G w O H) (G w' O' H')
def Hr.refl (w:Wd)(O:bE)(H:Hp):Hr w O H w O H:=⟨⟨[],by simp⟩,⟨[],by simp⟩,aA.refl _⟩
def Hr.ex (a:Hr w O H w1 O1 H1)(b:iU w1 O1 H1 w2 O2 H2):Hr w O H w2 O2 H2:=by
 let⟨t,ht⟩:=a.bK;let⟨u,hu⟩:=b.bK;let⟨t2,ML⟩:=a.bs;let⟨u2,ZB⟩:=b.bs;exact⟨⟨t2++u2,by rw[ZB,ML,Yr]⟩,⟨t++u,by rw[hu,ht,Yr]⟩,a.ar.trans b.ar⟩
def xj (K:Θ1)(J:It)(w:Wd)(O:bE)(H:Hp)(items:List AV):Prop:=∀O2 w2 H2,Hr w O H w2 O2 H2->aB K w2 O2 H2->∀i,(∀x,items[i]?=some x->J.go i H2/\∀v H3,J.sS i H2 v H3->H3=H2/\jo K w2 (G w2 O2 H2) v x)/\(items.length<=i->J.stop i H2)
def Nj (K:Θ1)(QX:Addr->bE->Prop)(E:XK)(M:MA):TI:=λσ H R=>∃w O sl Q0,j5 K QX E w O H σ sl/\M sl O Q0/\∀items O' w' H' J,Q0 items O'->cx w O H w' O' H'->aB K w' O' H'->xj K J w' O' H' items->R J H'
def xN (t:cz (G w O H) (.ref a) (.list ds)):xj K (AF K0 a) w O H (ds.map .im):=λO2 w2 H2 e r i=>by
 cases cz.ar e.ar t with |lst h1 t1=>?_
 rename_i xs;let hh:=(eJ h1).1;apply⟨λx hx=>?_,λhl=>⟨xs,bG.of hh,by rw[Zb] at hl;rw[t1.len];exact hl⟩⟩;rw[Zo] at hx;cases hd:ds[i]? with
 |none=>rw[hd] at hx;cases hx
 |some d =>
  rw[hd] at hx;cases Option.some.inj hx;let⟨v,hv,tv⟩:=t1.get hd;apply⟨⟨xs,v,bG.of hh,hv⟩,?_⟩;rintro v' H3 ⟨rfl,hy⟩;have:=hy xs (bG.of hh);rw[hv] at this;cases Option.some.inj this;exact⟨(),tv⟩
def xM (t:cz (G w O H) (.ref a) (.tuple ds)):xj K (AE K0 a) w O H (ds.map .im):=λO2 w2 H2 e r i=>by
 cases cz.ar e.ar t with |tup h1 t1=>?_
 rename_i xs;let hh:=(eJ h1).1;apply⟨λx hx=>?_,λhl=>⟨xs,aQ.of hh,by rw[Zb] at hl;rw[t1.len];exact hl⟩⟩;rw[Zo] at hx;cases hd:ds[i]? with
 |none=>rw[hd] at hx;cases hx
 |some d =>
  rw[hd] at hx;cases Option.some.inj hx;let⟨v,hv,tv⟩:=t1.get hd;apply⟨⟨xs,v,aQ.of hh,hv⟩,?_⟩;rintro v' H3 ⟨rfl,hy⟩;have:=hy xs (aQ.of hh);rw[hv] at this;cases Option.some.inj this;exact⟨(),tv⟩
def JX (he:PE X e (bO K QX E M)):PI X tg e (Nj K QX E (cM M)):=PI.imp (Ee he) λσ H R ⟨w,O,sl,Q0,c,m,q⟩=>⟨w,O,sl,_,c,m,λx O1 v w1 H1 h1 e1 r1 a1=>by
 split at h1
 .rename_i ds hd;unfold oW at hd;split at hd
  .cases Option.some.inj hd
   let⟨a,xs,rfl,hx,hs⟩:=il a1;exact .inl ⟨a,(),⟨xs,bG.of hx⟩,q _ O1 w1 H1 _ h1 e1 r1 (xN a1)⟩
  .cases Option.some.inj hd
   let⟨a,xs,rfl,hx,hs⟩:=eY a1;exact .inr ⟨a,(),⟨xs,aQ.of hx⟩,q _ O1 w1 H1 _ h1 e1 r1 (xM a1)⟩
  .cases hd
 .exact h1.elim⟩
structure CI (k:Nat)(C:MT)(M:ME)(sl:j9)(ds:Ξ1)(Z:Ξ1->bE->Prop)(items:List AV)(O1:bE):Prop where
 fr:sl[k]?=some none
 ex:∃Jv:Nat->Ξ1->bE->Prop,Jv 0 ds O1/\(∀j es O',Jv j es O'->es.length<1000000) /\
  (∀j y es O',items[j]?=some y->Jv j es O'->C (sl.set k (some y)) O' λc O3=>(c=true->M (sl.set k (some y)) O3 λz O4=>match z with
   |.im d=>Jv (j+1) (es++[d]) O4
   |_=>False)/\(c=false->Jv (j+1) es O3))/\∀es O',Jv items.length es O'->Z es O'
structure CB2 (n:Nat)(ix:List Nat)(mg:MG)(C1:MT)(CJ:MA)(k:Nat)(C2:MT)(M:ME)(sl:j9)(Q:AV->bE->Prop)(items:List AV)(O1:bE):Prop where
 ex:∃Iv:Nat->Ξ1->bE->Prop,Iv 0 [] O1 /\
  (∀i x ds O',items[i]?=some x->Iv i ds O'->mg x (dh n ix sl) O' λcr O2=>C1 cr O2 λc O3=>(c=true->CJ cr O3 (CI k C2 M cr ds (Iv (i+1))))/\(c=false->Iv (i+1) ds O3))/\∀ds O',Iv items.length ds O'->Q (.im (.list ds)) O'
def wU (n:Nat)(ix:List Nat)(it:MA)(mg:MG)(C1:MT)(CJ:MA)(k:Nat)(C2:MT)(M:ME):ME:=λsl O Q=>it sl O (CB2 n ix mg C1 CJ k C2 M sl Q)
def xJ (hk:Keeps n mg):∀σ H Q,bO K QX E (wU n ix it mg C1 CJ k C2 M) σ H Q->D2 (vy K QX E it) (oR K QX E mg) (ir K QX E C1) (Nj K QX E CJ) (oR K QX E (bh k)) (ir K QX E C2) (bO K QX E M) n ix σ H Q :=
 λσ H Q ⟨w,O,sl,Q0,c,m,q⟩=>⟨w,O,sl,_,c,m,λitems O1 w1 H1 J h1 e1 r1 CK acc bU=>by
  let⟨Iv,h0,hs,he⟩:=h1;let hC:=c.ex e1.ex r1;let⟨r0,e0⟩:=hC.ro.hide (o:=.lst []) bU (λxs z=>by cases z);apply⟨λi m aR H'=>m=items.length-i/\i<=items.length/\∃w' O' ys zs,aB K w' O' H'/\w'.bL=(acc,.lst ys)::w1.bL/\iU w1 O1 H1 w' O' H'/\bC K w' (G w' O' H') aR (dh n ix sl)/\aJ (G w' O' H') ys zs/\Iv i zs O',
   ⟨items.length,by simp,Yb _,_,O1,[],[],r0,(),e0,(hC.so.RU n ix).ex e0,.nil,h0⟩,?_⟩
  rintro i m aR H' ⟨rfl,He,w',O',ys,zs,r',tq,e',s',a',hv⟩;let⟨ig,ie⟩:=CK O' w' H' e' r' i;rcases Z3 i items.length with y |y
  .obtain⟨Hg,Ha⟩:=ig _ (Zc y);apply .inr ⟨Hg,λcA H2=>∃w' O' ys zs,aB K w' O' H2/\w'.bL=(acc,.lst ys)::w1.bL/\iU w1 O1 H1 w' O' H2/\bC K w' (G w' O' H2) cA (dh n ix sl)/\aJ (G w' O' H2) ys zs/\Iv (i+1) zs O',λcA H2 z=>⟨items.length-(i+1),⋯,(),y,z⟩,λv H3 Hb=>?_⟩;let⟨e3,r3,a3⟩:=Ha v H3 Hb;let zx:∀{w2:Wd}{O2:bE}{H2:Hp},iU w1 O1 H1 w2 O2 H2->Zx K QX E w2 O2 H2:=λe k Nb Mj Nd qx M6 Mp=>hC.zx k Nb Mj Nd qx (e.trans M6) Mp
   let M8:j5 K QX E w' O' H3 aR (dh n ix sl):=⟨r3,s'.ex e3.ex,zx (e'.trans e3.ex)⟩;apply⟨w',O',_,_,_,M8,a3,hk _ _ _ _ (hs i _ zs O' (Zc y) hv),λoS O4 w4 H4 Wg h4 c4 e4=>⟨w4,O4,oS,_,c4,h4.1,λb O5 w5 H5 h5 e5 r5=>?_⟩⟩;let qE:=e3.trans (e4.trans e5);cases b with
   |false=>exact cP ⟨w5,O5,ys,zs,r5,qE.bL.trans tq,e'.trans qE.ex,bC.sub (c4.so.ex e5.ex) h4.2,aJ.ar qE.ex.ar a',h5.2 rfl⟩
   |true =>
    apply cL ⟨w5,O5,oS,_,c4.ex e5.ex r5,h5.1 rfl,λgQ O6 w6 H6 J2 h6 e6 r6 it6=>?_⟩;let⟨KP,Jv,j0,jl,js,je⟩:=h6;let CS:=qE.trans e6;apply⟨λj m aR H'=>m=gQ.length-j/\j<=gQ.length/\∃w' O' ys zs,aB K w' O' H'/\w'.bL=(acc,.lst ys)::w1.bL/\iU w1 O1 H1 w' O' H'/\Hr w6 O6 H6 w' O' H'/\bC K w' (G w' O' H') aR oS/\aJ (G w' O' H') ys zs/\Jv j zs O',
     ⟨gQ.length,by simp,Yb _,w6,O6,ys,zs,r6,CS.bL.trans tq,e'.trans CS.ex,Hr.refl _ _ _,(c4.so.ex e5.ex).ex e6.ex,aJ.ar CS.ex.ar a',j0⟩,?_⟩
    rintro j m An H7 ⟨rfl,ajK,w7,O7,GZ,QY,r7,RF,e7,x7,s7,a7,YZ⟩;let⟨ig7,ie7⟩:=it6 O7 w7 H7 x7 r7 j;rcases Z3 j gQ.length with y7 |y7
    .obtain⟨abQ,abE⟩:=ig7 _ (Zc y7);apply .inr ⟨abQ,λcA H2=>∃w' O' ys zs,aB K w' O' H2/\w'.bL=(acc,.lst ys)::w1.bL/\iU w1 O1 H1 w' O' H2/\Hr w6 O6 H6 w' O' H2/\bC K w' (G w' O' H2) cA oS/\aJ (G w' O' H2) ys zs/\Jv (j+1) zs O',λcA H2 z=>⟨gQ.length-(j+1),⋯,(),y7,z⟩,λv8 H8 hv8=>?_⟩;let⟨rfl,a8⟩:=abE v8 H8 hv8;let ab1:j5 K QX E w7 O7 H8 An oS:=⟨r7,s7,zx e7⟩;apply⟨w7,O7,oS,gQ[j],λAq O5'=>Aq=oS.set k (some gQ[j])/\O5'=O7,ab1,a8,⟨(),()⟩,λsl9 O9 w9 H9 σ9 h9 c9 e9=>?_⟩;let⟨rfl,rfl⟩:=h9;let back:∀{w2:Wd}{g2:Hp}{cA:St},bC K w2 g2 cA (oS.set k (some gQ[j]))->bC K w2 g2 cA oS:=λh=>by
      apply⟨h.1.trans (by simp),λi' x' vE=>h.2 i' x' ?_⟩;have:k≠i':=λe=>by subst e;rw[KP] at vE;cases Option.some.inj vE
      rw[Z7 this];exact vE
     apply⟨w9,O9,_,_,c9,js j _ QY O9 (Zc y7) YZ,λb O10 w10 R1 WW W3 Kx=>?_⟩;let e8:=e9.trans W3;cases b with
     |false=>exact cP ⟨w10,O10,GZ,QY,Kx,e8.bL.trans RF,e7.trans e8.ex,x7.ex e8.ex,back (c9.so.ex W3.ex),aJ.ar e8.ex.ar a7,WW.2 rfl⟩
     |true =>
      apply cL ⟨w10,O10,_,_,c9.ex W3.ex Kx,WW.1 rfl,λz O11 Wm w11 XA S3 W2 Rh Tc=>?_⟩;split at S3
      .rename_i d;let M5:=e8.trans W2;let Uy:w11.bL=(acc,.lst GZ)::w1.bL:=M5.bL.trans RF;let⟨n1,n2,n3,n4⟩:=Rh.nh (acc,.lst GZ) (by rw[Uy];exact Zh);let⟨r13,G0⟩:=Rh.rf (o':=.lst (GZ++[Wm])) Uy (λxs z=>by cases z);let Il:=e7.trans M5.ex;let Nh:=x7.ex M5.ex;let hl7:=jl j QY O9 YZ;apply⟨GZ,n3,by rw[a7.len,sz];omega,{ w11 with bL:=(acc,.lst (GZ++[Wm]))::w1.bL },O11,GZ++[Wm],QY++[d],r13,rfl,⟨Il.bs,Il.bK,⟨[(acc,.lst (GZ++[Wm]))],rfl⟩,Il.ar.trans G0,Il.dk⟩,⟨Nh.bs,Nh.bK,Nh.ar.trans G0⟩,?_,?_,S3⟩
       .exact bC.gi rfl rfl G0 (back ((c9.so.ex W3.ex).ex W2.ex))
       .exact aJ.ar G0 ((aJ.ar M5.ex.ar a7).app (.cons Tc .nil))
      .exact S3.elim
    .let ej:j=gQ.length:=⋯;subst ej;exact .inl ⟨ie7 (Ze _),w7,O7,GZ,QY,r7,RF,e7,bC.sub s7 h4.2,a7,je QY O7 YZ⟩
  .let ei:i=items.length:=⋯;subst ei;apply .inl ⟨ie (Ze _),?_⟩;let⟨r2,s2,g2⟩:=r'.DU tq;exact q _ _ _ { w' with bL:=w1.bL } _ (he zs O' hv) ⟨e1.ex.trans ⟨e'.bs,e'.bK,⟨[],rfl⟩,e'.ar.trans s2,e'.dk⟩,e1.bL⟩ r2 (.lst g2 (aJ.ar s2 a'))⟩
def FK {f1 f2:Ξ2}(B:aL X scope own cap ix)(hc:X.calm=true)(hi:PI X t1 i1 (vy K QX E it))(hk:Keeps own.length mg)
  (hb:∀C' fp s H,PG (cO X scope C' (own++cap) fp s H) t1 (oR K QX E mg)/\dH (cO X scope C' (own++cap) fp s H) f1 (ir K QX E C1)/\PI (cO X scope C' (own++cap) fp s H) t2 i2 (Nj K QX E CJ)/\PG (cO X scope C' (own++cap) fp s H) t2 (oR K QX E (bh k))/\dH (cO X scope C' (own++cap) fp s H) f2 (ir K QX E C2)/\PE (cO X scope C' (own++cap) fp s H) gf (bO K QX E M))
  (hs:∀x,foldedSetIterable i1 X.env x=pure x:=by intro _;rfl) (oP:∀(env:Env) x,foldedSetIterable i2 env x=pure x:=by intro _ _;rfl):PE X (.ListComp gf [⟨t1,i1,f1,0⟩,⟨t2,i2,f2,0⟩] scope pos) (bO K QX E (wU own.length ix it mg C1 CJ k C2 M)):=PE.imp (Fq B hc hi hb hs oP) (xJ hk)
end
section
end
def cy (r:Γ3):PyData:=.list (r.map .int)
def oV (M:Γ1)(S:Γ3):List Nat:=(List.range M.length).filter λi=>(M.getD i []).any λg=>S.contains g
end MI
namespace RZ
open L2 KG EX KM
theorem g9:∀{A B:Γ3},A.Pairwise (λa b=>a<b)->B.Pairwise (λa b=>a<b)->(∀x,x∈A↔x∈B)->A=B
 |[],[],_,_,_=>rfl
 |[],b::B,_,_,h=>by have:=(h b).mpr Zh;cases this
 |a::A,[],_,_,h=>by have:=(h a).mp Zh;cases this
 |a::A,b::B,hA,hB,h=>by
  let pA:=List.pairwise_cons.mp hA;let pB:=List.pairwise_cons.mp hB;let e:a=b:=by
   rcases Zj.mp ((h a).mp Zh) with z |z
   .exact z
   .rcases Zj.mp ((h b).mpr Zh) with y |y
    .exact y.symm
    .let h1:=pB.1 a z;let h2:=pA.1 b y;omega
  subst e
  congr 1
  apply g9 pA.2 pB.2 λx=>?_
  constructor
  .intro hx;rcases Zj.mp ((h x).mp (Zk _ hx)) with z |z
   .have:=pA.1 x hx;omega
   .exact z
  .intro hx;rcases Zj.mp ((h x).mpr (Zk _ hx)) with z |z
   .have:=pB.1 x hx;omega
   .exact z
def gk (g:Nat)(M:Γ1):(aw g M).Pairwise (λa b=>a<b):=by
 unfold aw az;rw[List.pairwise_map];exact(List.Pairwise.sublist Zu List.pairwise_lt_range).imp λh=>⋯
section
def QU (ab:Above am ps qs M (aw g M) c aT)(hS:S.Sublist (aw g M)):∃x∈aT,x.2=S:=by
 have:S∈aT.map (·.2):=by rw[ab.2.1];exact ck.mpr hS
 let⟨x,hx,e⟩:=Zd.mp this;exact⟨x,hx,e⟩
def EO (ab:Above am ps qs M (aw g M) c aT)(hx:x∈aT):x.2.Sublist (aw g M):=ck.mp (by rw[<- ab.2.1];exact Zd.mpr ⟨x,hx,()⟩)
def Ak (ab:Above am ps qs M (aw g M) c aT)(hx:x∈aT):x.1=0↔aF am ps qs M (au x.2)=0:=by
 let hc:(0:Rat)<(c:Rat):=Y1.mpr ab.1;let WQ:(c:Rat)≠0:=λz=>by rw[z] at hc;exact absurd hc ∅
 let hv:=ab.2.2 x hx;constructor
 .intro z;rw[z] at hv
  grind
 .intro z
  simp_all
end
def lc (am:Γ3)(ps qs:Δ1)(M:Γ1)(g:Nat):Prop:=∀S:Γ3,S.Sublist (aw g M)->aF am ps qs M (au S)<=0
structure bZ (am:Γ3)(ps qs:Δ1)(M:Γ1)(g:Nat)(Pd:Γ3):Prop where
 sub:Pd.Sublist (aw g M)
 zero:aF am ps qs M (au Pd)=0
 top:∀T:Γ3,T.Sublist (aw g M)->aF am ps qs M (au T)=0->∀x∈T,x∈Pd
section
def bZ.uniq (a:bZ am ps qs M g A)(b:bZ am ps qs M g B):A=B :=
 g9 ((gk g M).sublist a.sub) ((gk g M).sublist b.sub) λx=>⟨λh=>b.top A a.sub a.zero x h,λh=>a.top B b.sub b.zero x h⟩
def Fs (hp:∀q∈ps,0<=q)(ab:Above am ps qs M (aw g M) c aT)(hM:lc am ps qs M g)(gH:row∈aT)(h0:row.1=0)(dg:∀x∈aT,x.1=0->x.2.length<=row.2.length):bZ am ps qs M g row.2:=by
 let f0:=(Ak ab gH).mp h0;let hR:=EO ab gH;apply⟨hR,f0,λT hT fT x hx=>?_⟩;apply uL (f:=λS=>aF am ps qs M (au S)) (Cj g M) (l4 hp) hR (λS hS=>by show _<=aF am ps qs M (au row.2);rw[f0];exact hM S hS) (λS hS fS=>?_) hT (by show aF am ps qs M (au T)=aF am ps qs M (au row.2);rw[f0,fT]) x hx;let⟨y,hy,rfl⟩:=QU ab hS;exact dg y hy ((Ak ab hy).mpr (fS.trans f0))
theorem zK:∀{rs:List (Int×Γ3)},(∃x∈rs,x.1=0)->∃row∈rs,row.1=0/\∀x∈rs,x.1=0->x.2.length<=row.2.length
 |[],h=>by let⟨x,hx,_⟩:=h;cases hx
 |r::rs,h=>by
  by_cases e:∃x∈rs,x.1=0
  .obtain⟨row,h1,h2,h3⟩:=zK e;by_cases z:r.1=0/\row.2.length<r.2.length
   .apply⟨r,Zh,z.1,λx hx x0=>?_⟩;rcases Zj.mp hx with rfl |hx
    .exact Ze _
    .have:=h3 x hx x0;omega
   .apply⟨row,Zk _ h1,h2,λx hx x0=>?_⟩;rcases Zj.mp hx with rfl |hx
    .rcases Z3 row.2.length x.2.length with y |y
     .exact absurd ⟨x0,y⟩ z
     .exact y
    .exact h3 x hx x0
  .obtain⟨x,hx,x0⟩:=h;rcases Zj.mp hx with rfl |hx
   .exact⟨x,Zh,x0,λy hy y0=>by
     rcases Zj.mp hy with rfl |hy
     .exact Ze _
     .exact absurd ⟨y,hy,y0⟩ e⟩
   .exact absurd ⟨x,hx,x0⟩ e
end
def loose (M:Γ1)(qs:Δ1)(Pd S:Γ3):List Nat:=(eF M qs (au S)).filter λi=>!(eF M qs (au Pd)).contains i
def qK (am:Γ3)(ps qs:Δ1)(M:Γ1)(Pd S:Γ3):Rat:=bt ps (loose M qs Pd S) / eh am qs (au S)
def bR (row:Γ3)(qs:Δ1)(g:Nat):Rat:=((row.getD g 0:Int):Rat) / qs.getD g 0
def lf (row:Γ3)(qs:Δ1)(Pd:Γ3)(b:Nat):Δ1:=(Pd.filter λg=>decide (0<row.getD g.toNat 0)).map λg=>bR row qs b / bR row qs g.toNat
def ik (M:Γ1)(qs:Δ1)(Pd:Γ3)(n:Nat):Δ1:=(List.range n).flatMap λi=>if !(eF M qs (au Pd)).contains i&&!((ak M qs).getD i []).isEmpty then lf (M.getD i []) qs Pd (((ak M qs).getD i []).getD 0 0).toNat else []
def aM (g:Nat)(M:Γ1)(Pd:Γ3):Γ3:=(aw g M).filter λx=>!Pd.contains x
def io (am:Γ3)(ps qs:Δ1)(M:Γ1)(g:Nat)(Pd:Γ3):Δ1:=((aU (aM g M Pd)).drop 1).map (qK am ps qs M Pd)++ik M qs Pd M.length
def Ru (L:List Nat)(w:Nat->Rat)(p q:Nat->Bool):wsum L w (λx=>p x||q x)=wsum L w q+wsum L w (λx=>p x&&!q x):=by
 induction L with
 |nil=>show(0:Rat)=0+0;rw[Qa]
 |cons x L ih =>
  rw[CG,CG,CG,ih];cases p x<;>cases q x<;>simp<;>grind
def lC (h:∀x∈L,p x=false):wsum L w p=0:=by
 unfold wsum;rw[Xr.mpr λx hx=>by rw[h x hx];decide];rfl
def div_le_div {a b c d:Rat}(hc:0<c)(hd:0<d)(h:a*d<=b*c):a / c<=b / d:=by
 let nc:c≠0:=λz=>by rw[z] at hc;exact absurd hc ∅
 let nd:d≠0:=λz=>by rw[z] at hd;exact absurd hd ∅
 let e1:a / c*(c*d)=a*d:=by grind
 let e2:b / d*(c*d)=b*c:=by grind
 let vX:=Xq hc hd;let h3:a / c*(c*d)<=b / d*(c*d):=by rw[e1,e2];exact h
 exact Rat.le_of_mul_le_mul_right h3 vX
section
def mM (nd:N.Nodup)(h:S.Sublist N):eh am qs S=wsum N (λg=>(gd am qs).getD g 0) (λx=>S.contains x):=by
 unfold eh wsum;rw[sub_eq h nd]
def vQ (S:List Nat):bt ps (eF M qs S)=wsum (List.range M.length) (λi=>ps.getD i 0) (λi=>ci S ((ak M qs).getD i [])):=rfl
def Sw (hi:i<M.length):(eF M qs S).contains i=ci S ((ak M qs).getD i []):=by
 rw[Yc,Ya];unfold eF;rw[Zg,Zi];exact⟨λh=>h.2,λh=>⟨hi,h⟩⟩
def mN (Pd S:Γ3):bt ps (loose M qs Pd S)=wsum (List.range M.length) (λi=>ps.getD i 0) (λi=>ci (au S) ((ak M qs).getD i [])&&!ci (au Pd) ((ak M qs).getD i [])):=by
 unfold loose bt wsum
 congr 2
 show(List.filter _ ((List.range M.length).filter _))=_;rw[Qr];apply Y0 λi hi=>?_
 rw[Sw (Zi.mp hi),Bool.and_comm]
def p9 (hl:am.length=qs.length)(KQ:∀a∈am,1<=a)(hq:∀g∈S,g<qs.length/\0<qs.getD g 0)(bD:S≠[]):0<eh am qs S:=by
 let one:∀g∈S,0<(gd am qs).getD g 0:=λg hg=>by
  let⟨h1,h2⟩:=hq g hg;let e:(gd am qs).getD g 0=qs.getD g 0*((am.getD g 0:Int):Rat):=by
   unfold gd;simp[List.getD,Yq h1]
  rw[e];let ha:1<=am.getD g 0:=KQ _ (by rw[List.getD,Zc (show g<am.length by omega)];exact Zw _);exact Xq h2 (by have:(0:Int)<am.getD g 0:=⋯;exact Y1.mpr this)
 unfold eh;let key:∀T:List Nat,(∀g∈T,0<(gd am qs).getD g 0)->0<=aH (T.map λg=>(gd am qs).getD g 0):=by
  intro T;induction T with
  |nil=>intro _;exact Yo
  |cons x T ih =>
   intro h;rw[Zm,sZ];let h1:=h x Zh;let h2:=ih λg hg=>h g (Zk _ hg)
   grind
 cases S with
 |nil=>exact absurd rfl bD
 |cons x T =>
  rw[Zm,sZ];let h1:=one x Zh;let h2:=key T λg hg=>one g (Zk _ hg)
  grind
def Pa (hp:∀q∈ps,0<=q)(c8:lc am ps qs M g)(pd:bZ am ps qs M g Pd)(hS:S.Sublist (aM g M Pd))(bD:S≠[])(hm:0<eh am qs (au S)):1<qK am ps qs M Pd S:=by
 let Hk:S.Sublist (aw g M):=hS.trans Zu;let dis:∀x∈S,x∉Pd:=λx hx=>by
  have:=(Zg.mp (hS.subset hx)).2;simpa using this
 let nd:(az g M).Nodup:=by unfold az;exact(Xz).sublist Zu
 letI J:Γ3:=(aw g M).filter λx=>S.contains x||Pd.contains x
 let hJ:J.Sublist (aw g M):=Zu;let T3:∀x,x∈J↔x∈S\/x∈Pd:=λx=>by
  rw[Zg];constructor
  .rintro⟨_,h⟩;simpa using h
  .intro h;apply⟨?_,by simpa using h⟩;rcases h with h |h
   .exact Hk.subset h
   .exact pd.sub.subset h
 let lt:aF am ps qs M (au J)<0:=by
  let le:=c8 J hJ;by_cases e:aF am ps qs M (au J)=0
  .obtain⟨x,hx⟩:=List.exists_mem_of_ne_nil S bD;exact absurd (pd.top J hJ e x ((T3 x).mpr (.inl hx))) (dis x hx)
  .grind
 let cJ:∀x:Nat,(au J).contains x=((au S).contains x||(au Pd).contains x):=λx=>by
  rw[Yc,X3,Ya,Ya,Ya,CC hJ,CC Hk,CC pd.sub];exact T3 _
 let mJ:eh am qs (au J)=eh am qs (au Pd)+eh am qs (au S):=by
  rw[mM nd (Mw hJ),mM nd (Mw Hk),mM nd (Mw pd.sub)];rw[CH (q:=λx=>(au S).contains x||(au Pd).contains x) λx _=>cJ x,Ru]
  congr 1
  apply CH λx _=>?_
  cases h:(au S).contains x with
  |false=>rfl
  |true =>
   let h1:=(CC Hk x).mp (Ya.mp h);let h2:(au Pd).contains x=false:=by
    rw[Bool.eq_false_iff,Ne,Ya,CC pd.sub];exact dis _ h1
   rw[h2];rfl
 let pJ:bt ps (eF M qs (au J))=bt ps (eF M qs (au Pd))+bt ps (loose M qs Pd S):=by
  rw[vQ,vQ,mN,<- Ru];apply CH λi _=>?_
  rw[Mx,Mx,Mx,Yc,X3,Z6,Z6,Z6];constructor
  .rintro⟨x,hx,h⟩;have:=cJ x;rw[Ya.mpr hx] at this;rcases(X3 _ _).mp this.symm with z |z
   .exact .inl ⟨x,Ya.mp z,h⟩
   .exact .inr ⟨x,Ya.mp z,h⟩
  .rintro(⟨x,hx,h⟩ |⟨x,hx,h⟩)
   .apply⟨x,Ya.mp ?_,h⟩;rw[cJ,Ya.mpr hx];rfl
   .apply⟨x,Ya.mp ?_,h⟩;rw[cJ,Ya.mpr hx,Bool.or_true]
 let z:=pd.zero;unfold aF at lt z;rw[mJ,pJ] at lt;let h3:eh am qs (au S)<bt ps (loose M qs Pd S):=by grind
 unfold qK;rw[Rat.lt_div_iff hm,Rat.one_mul];exact h3
def B9 {row:Γ3}(gH:∀x∈row,0<=x)(hb:b∈aV row qs)(ho:o<row.length)(hw:0<row.getD o 0)(MN:0<qs.getD b 0)(WJ:0<qs.getD o 0):bR row qs o<=bR row qs b/\(bR row qs o=bR row qs b->o∈aV row qs):=by
 unfold aV at hb ⊢;let⟨h1,h2⟩:=Zg.mp hb;unfold du at h2;rw[Z5,Yd] at h2;let nw:∀x:Nat,x<row.length->0<row.getD x 0->((row.getD x 0:Int):Rat)*qs.getD b 0<=((row.getD b 0:Int):Rat)*qs.getD x 0:=λx hx WG=>by
  have:=h2.2 x (Zi.mpr hx);unfold worse at this;rw[decide_eq_true WG,Xh] at this;have:=of_decide_eq_false (by simpa using this:decide _=false);exact Yv.mp this
 let le:bR row qs o<=bR row qs b:=by
  unfold bR;let h3:=nw o ho hw;exact div_le_div WJ MN h3
 apply⟨le,λe=>Zg.mpr ⟨Zi.mpr ho,?_⟩⟩;unfold du;rw[Z5];apply⟨decide_eq_true ⋯,Yd.mpr λx hx=>?_⟩;let hx:=Zi.mp hx;unfold worse;rw[Bool.not_eq_true',Bool.and_eq_false_iff];by_cases WG:0<row.getD x 0
 .right
  rw[decide_eq_false_iff_not,Yv];let h3:=nw x hx WG;unfold bR at e;let nb:qs.getD b 0≠0:=λz=>by rw[z] at MN;exact absurd MN ∅
  let no:qs.getD o 0≠0:=λz=>by rw[z] at WJ;exact absurd WJ ∅
  let e2:((row.getD o 0:Int):Rat)*qs.getD b 0=((row.getD b 0:Int):Rat)*qs.getD o 0:=by grind
  let h4:((row.getD x 0:Int):Rat)*qs.getD o 0*qs.getD b 0<=((row.getD o 0:Int):Rat)*qs.getD x 0*qs.getD b 0:=by
   let h5:=Xk h3 (Zy WJ);let h6:((row.getD x 0:Int):Rat)*qs.getD o 0*qs.getD b 0=((row.getD x 0:Int):Rat)*qs.getD b 0*qs.getD o 0:=by grind
   let h7:((row.getD o 0:Int):Rat)*qs.getD x 0*qs.getD b 0=((row.getD b 0:Int):Rat)*qs.getD x 0*qs.getD o 0:=by grind
   rw[h6,h7];exact h5
  exact Rat.le_of_mul_le_mul_right h4 MN
 .left;exact decide_eq_false WG
end
end RZ
namespace MI
open L2 KG EX KM
def int_at {ns:Γ3}(h:i<ns.length):fj (ns.map PyData.int) (i:Int)=some (.int (ns.getD i 0)):=aZ (jj (f:=PyData.int) (d:=0) h)
def GB {ns:Γ3}(h:((ns.map PyData.int).map AV.im)[i]?=some x):i<ns.length/\x=.im (.int (ns.getD i 0)):=by
 let hi:i<ns.length:=by have:=(Zf.mp h).1;simpa using this
 rw[Zo,jj (f:=PyData.int) (d:=0) hi] at h;exact⟨hi,(Option.some.inj h).symm⟩
def Kg (ns:Γ3)(p:Int->Bool):((List.range ns.length).filter λj=>p (ns.getD j 0)).map (λj=>ns.getD j 0)=ns.filter p:=by
 have:=G6 (λx:Int=>x) ns 0;let e:ns.filter p=((List.range ns.length).map λi=>ns.getD i 0).filter p:=by rw[this,List.map_id']
 rw[e,List.filter_map];rfl
def Gb (ns:Γ3)(p:Int->Bool):((List.range ns.length).filter λj=>p (ns.getD j 0)).map (λj=>PyData.int (ns.getD j 0))=(ns.filter p).map .int:=by
 rw[<- Kg ns p,Zp];rfl
def Gd {α : Type}(s:List α)(d:α)(p:α->Bool)(f:α->PyData):((List.range s.length).filter λj=>p (s.getD j d)).map (λj=>f (s.getD j d))=(s.filter p).map f:=by
 have:=G6 (λx:α=>x) s d;let e:s.filter p=((List.range s.length).map λi=>s.getD i d).filter p:=by rw[this,List.map_id']
 rw[e,List.filter_map,Zp];rfl
def NJ {α : Type}:([]:List α).length<=sizeLine:=by show 0<=sizeLine;decide
def Gi {r:Nat}(h1:r<=xs.length):cutD xs none (some (r:Int))=xs.take r:=by
 let e1:HT.oT xs.length xs.length (some (r:Int))=r:=by
  show(if (r:Int)<0 then ((r:Int)+(xs.length:Int)).toNat else min ((r:Int)).toNat xs.length)=_
  grind
 unfold cutD;rw[HT.uC,e1];simp
def Jj (h:vP (qD z)=true):0<z/\Rb 20 z:=by
 let⟨q,e,h1,h2⟩:=rV h;have:z=q:=by rw[<- iF z,e,iF]
 rw[this];exact⟨h1,h2⟩
structure Cp (A:Γ3)(Pu:Δ1)(W:Γ1):Prop where
 g1:1<=A.length
 g6:A.length<=6
 n1:1<=Pu.length
 n6:Pu.length<=6
 wl:W.length=Pu.length
 am:∀a∈A,1<=a/\a<=60
 pu:∀z∈Pu,0<z/\Rb 20 z
 wr:∀i,i<W.length->(W.getD i []).length=A.length
 w0:∀i j,i<W.length->j<A.length->0<=eI W i j/\eI W i j<=100
def sY (h:gh (eN A Pu W)=true):Cp A Pu W:=by
 let⟨h1,h2,h3,h4,h5,h6,h7,h8⟩:=iO h;rw[Zb] at h1 h2 h4 h5;rw[Zb,Zb] at h7;rw[Zb] at h8;let row:∀r∈W,r.length=A.length/\∀x∈r,0<=x/\x<=100:=λr hr=>by
  have:=Yd.mp h8 (aS r) (Zd.mpr ⟨r,hr,()⟩);let e:(decide ((r.map PyData.int).length=A.length)&&(r.map PyData.int).all (within 0 100))=true:=this;rw[Z5,decide_eq_true_eq,Zb,Yd] at e;apply⟨e.1,λx hx=>?_⟩;have:=e.2 (.int x) (Zd.mpr ⟨x,hx,()⟩);let e2:(decide ((0:Int)<=x)&&decide (x<=100))=true:=this;rw[Z5,decide_eq_true_eq,decide_eq_true_eq] at e2;exact e2
 let wm:∀i,i<W.length->W.getD i []∈W:=λi hi=>by rw[ap (Zc hi)];exact Zw _
 apply⟨h1,h2,h4,h5,h7,λa ha=>?_,λz hz=>?_,λi hi=>(row _ (wm i hi)).1,λi j hi hj=>?_⟩
 .have:=Yd.mp h3 (.int a) (Zd.mpr ⟨a,ha,()⟩);let e2:(decide ((1:Int)<=a)&&decide (a<=60))=true:=this;rw[Z5,decide_eq_true_eq,decide_eq_true_eq] at e2;exact e2
 .exact Jj (Yd.mp h6 (qD z) (Zd.mpr ⟨z,hz,()⟩))
 .let hr:=row _ (wm i hi);let l5:j<(W.getD i []).length:=by rw[hr.1];exact hj
  exact hr.2 _ (by show(W.getD i []).getD j 0∈_;rw[ap (Zc l5)];exact Zw _)
open RZ
def yc (h:x∈aw g W):0<=x/\x.toNat<g/\((x.toNat:Nat):Int)=x/\has W x.toNat=true:=by
 unfold aw at h;let⟨j,hj,rfl⟩:=Zd.mp h;let hj:=Zg.mp hj;let h1:=Zi.mp hj.1;rw[Z0];exact⟨⋯,h1,(),hj.2⟩
def CD (g:Nat)(W:Γ1):(aw g W).length<=g:=by
 unfold aw az;rw[Zb];exact Zl (Yz _ _) (by simp)
def G3 (W:Γ1)(qs:Δ1):(ak W qs).length=W.length:=by unfold ak;simp
def vR (hi:i<W.length):(ak W qs).getD i []=(aV (W.getD i []) qs).map λg:Nat=>(g:Int):=by unfold ak;exact jv hi
def ox (hi:i<W.length)(hr:(W.getD i []).length=g):((ak W qs).getD i []).length<=g:=by
 rw[vR hi,Zb];unfold aV;rw[<- hr];exact Zl (Yz _ _) (by simp)
def rL (hS:∀x∈S,0<=x):oV (ak W qs) S=eF W qs (au S):=by
 unfold oV eF;rw[G3];apply Y0 λi _=>?_
 unfold ci au;rw[Yc,Z6,Z6];constructor
 .rintro⟨x,hx,h⟩;let hm:=Ya.mp h;exact⟨x,hx,Z6.mpr ⟨x.toNat,Zd.mpr ⟨x,hm,()⟩,decide_eq_true (Xe (hS x hm))⟩⟩
 .rintro⟨x,hx,h⟩;let⟨y,hy,e⟩:=Z6.mp h;let⟨z,hz,rfl⟩:=Zd.mp hy;let e:=of_decide_eq_true e;rw[Xe (hS z hz)] at e;exact⟨x,hx,Ya.mpr (e▸hz)⟩
def JS {s:List Nat}(h:((s.map λk:Nat=>PyData.int (k:Int)).map AV.im)[i]?=some x):i<s.length/\x=.im (.int ((s.getD i 0:Nat):Int))/\s.getD i 0∈s:=by
 let hi:i<s.length:=by have:=(Zf.mp h).1;simpa using this
 rw[Zo,jj (f:=λk:Nat=>PyData.int (k:Int)) (d:=0) hi] at h;exact⟨hi,(Option.some.inj h).symm,by rw[ap (Zc hi)];exact Zw _⟩
def aaW {ns:Γ3}(h0:0<=x)(h:x.toNat<ns.length):fj (ns.map PyData.int) x=some (.int (ns.getD x.toNat 0)):=by
 have:=int_at h
 rwa [Xe h0] at this
def zH {α : Type}(s:List α)(d:α)(f:α->Int):(List.range s.length).map (λj=>PyData.int (f (s.getD j d)))=(s.map f).map .int:=by
 rw[Zp];exact G6 (λx=>PyData.int (f x)) s d
theorem rq:∀{A B:Γ3},A.Nodup->(∀x∈A,x∈B)->A.length<=B.length
 |[],_,_,_=>Yb _
 |a::A,B,nd,h=>by
  let vN:=Z9.mp nd;let ha:=h a Zh;let ih:=rq (A:=A) (B:=B.erase a) vN.2 λx hx=>(List.mem_erase_of_ne (λ(e:x=a)=>vN.1 (e▸hx))).mpr (h x (Zk _ hx))
  let e:=List.length_erase_of_mem ha;have:=List.length_pos_of_mem ha;rw[Y4];omega
def AH (ps:Γ3)(s:List Nat):Int:=(s.map λi=>ps.getD i 0).sum
def iL (h:0<=row.getD g 0/\row.getD g 0<=100)(hb:Rb 2010000 (qs.getD g 0))(h0:0<qs.getD g 0):Rb 2010007 (bR row qs g):=by
 unfold bR;exact gT (j:=7) (k:=2010000) (yb (by unfold Bd;omega) ∅) hb (λz=>by rw[z] at h0;exact absurd h0 ∅)
def QQ:∀{xs:Γ3},(∀x∈xs,Bd k x)->xs.length<=6->Bd (k+3) xs.sum:=by
 let key:∀{xs:Γ3},(∀x∈xs,Bd k x)->xs.sum.natAbs<=xs.length*2 ^ k:=by
  intro xs;induction xs with
  |nil=>intro _;exact Yb _
  |cons x xs ih =>
   intro h;let h1:x.natAbs<2 ^ k:=h x Zh;let h2:=ih λy hy=>h y (Zk _ hy)
   let h3:=Int.natAbs_add_le x xs.sum;rw[Qi,Y4,Nat.succ_mul];omega
 intro xs h h6;let h1:=key h;unfold Bd;let h2:xs.length*2 ^ k<=6*2 ^ k:=Nat.mul_le_mul_right _ h6
 grind
def BX {c t u:Int}(hc:0<c)(ht:((t:Int):Rat)=(c:Rat)*x)(hu:((u:Int):Rat)=(c:Rat)*y)(hy:0<y):Rat.divInt t u=x / y:=by
 rw[Qb,ht,hu];let c0:(c:Rat)≠0:=λz=>by have:(c:Int)=0:=(by exact_mod_cast z);omega
 grind
structure cU (A:Γ3)(Pu:Δ1)(W:Γ1)(qs:Δ1):Prop where
 pr:nT A Pu W qs
 bd:∀z∈qs,Rb 2009987 z
def cU.pos (h:cU A Pu W qs)(hx:x∈aw A.length W):0<=x/\x.toNat<qs.length/\0<qs.getD x.toNat 0:=by
 let⟨h1,h2,h3,h4⟩:=yc hx;let hl:=h.pr.len;exact⟨h1,⋯,h.pr.jC.pos _ ⋯ h4⟩
def cU.money (h:cU A Pu W qs)(hS:S.Sublist (aw A.length W))(bD:S≠[]):0<eh A qs (au S):=by
 let mf:=sY h.pr.ok;apply p9 h.pr.len.symm (λa ha=>(mf.am a ha).1) (λg hg=>?_) (λz=>bD ?_)
 .obtain⟨x,hx,rfl⟩:=Zd.mp hg;exact(h.pos (hS.subset hx)).2
 .exact Qd.mp z
def lF (ns:Γ3):aU ns=[]::(aU ns).drop 1:=by
 obtain⟨m,hm⟩:∃m,2 ^ ns.length=m+1:=⟨2 ^ ns.length-1,by have:0<2 ^ ns.length:=Nat.pow_pos ∅;omega⟩;let z:dM ns 0=[]:=by
  unfold dM
  simp_all
 unfold aU;rw[hm,List.range_succ_eq_map,Zm,z];rfl
def jd (nd:ns.Nodup)(h:S∈(aU ns).drop 1):S.Sublist ns/\S≠[]:=by
 apply⟨ck.mp (List.mem_of_mem_drop h),λe=>?_⟩;let e0:=lF ns;have:=iR nd;rw[e0,Z9] at this;exact this.1 (e▸h)
def sy (mf:Cp A Pu W)(jC:GY W qs)(hl:qs.length=A.length)(jF:i<W.length)(hb:b∈aV (W.getD i []) qs):b<A.length/\0<qs.getD b 0:=by
 let UB:=Zg.mp hb;let NP:=Zi.mp UB.1;rw[mf.wr i jF] at NP;let hbw:(W.getD i []).getD b 0≠0:=by
  have:=UB.2;unfold du at this;rw[Z5] at this;exact of_decide_eq_true this.1
 let hwb:=mf.w0 i b jF NP;let abP:has W b=true:=by
  unfold has;rw[Z6];exact⟨W.getD i [],by rw[ap (Zc jF)];exact Zw _,decide_eq_true (by unfold eI at hwb;omega)⟩
 exact⟨NP,jC.pos b ⋯ abP⟩
def db (qs:Δ1)(Pd:Γ3)(f:Rat):Δ1:=(List.range qs.length).map λg:Nat=>if Pd.contains (g:Int)=true then qs.getD g 0 else qs.getD g 0*f
def E4 (h:Pd.Sublist (aw g W)):aM g W Pd=[]↔Pd=aw g W:=by
 unfold aM;rw[Xr];constructor
 .intro z;apply ID h (List.Sublist.refl _) (Cj g W) λx=>⟨λhx=>h.subset hx,λhx=>?_⟩
  have:=z x hx;simpa using this
 .intro e x hx;rw[e];simpa using hx
def Fb (rp:cU A Pu W qs)(M3:Pd.Sublist (aw A.length W)):∀z∈io A Pu qs W A.length Pd,Rb 32000000 z:=by
 let mf:=sY rp.pr.ok;let hl:=rp.pr.len;let hR:(aM A.length W Pd).Sublist (aw A.length W):=Zu;let M2:(aM A.length W Pd).Nodup:=(Cj A.length W).sublist hR;intro z hz;unfold io at hz;rcases Zv.mp hz with hz |hz
 .obtain⟨S,hS,rfl⟩:=Zd.mp hz;let⟨h1,h2⟩:=jd M2 hS;let hs:=h1.trans hR;let mS:=rp.money hs h2;let b1:Rb 127 (bt Pu (loose W qs Pd S)):=by
   unfold bt;let h3:=rT (k:=20) (qs:=(loose W qs Pd S).map λi=>Pu.getD i 0) λq hq=>by
    let⟨i,hi,rfl⟩:=Zd.mp hq;exact zj ∅ (λq hq=>(mf.pu q hq).2) i
   apply h3.mono ?_;rw[Zb];let h4:=Yz (λi=>!(eF W qs (au Pd)).contains i) (eF W qs (au S));let h5:=lW W qs (au S);have:=mf.wl;have:=mf.n6;unfold loose;omega
  let b2:Rb 12060043 (eh A qs (au S)):=by
   unfold eh;let h3:=rT (k:=2010006) (qs:=(au S).map λg=>(gd A qs).getD g 0) λq hq=>by
    let⟨i,hi,rfl⟩:=Zd.mp hq;apply zj ∅ (λq hq=>?_) i;let⟨j,hj,rfl⟩:=Zd.mp hq;let hj:=Zi.mp hj;let ha:=mf.am (A.getD j 0) (by rw[ap (Zc (show j<A.length by omega))];exact Zw _);exact fU (j:=2010000) (k:=6) (rp.pr.bd _ (by rw[ap (Zc hj)];exact Zw _)) (yb (by unfold Bd;omega) ∅)
   apply h3.mono ?_;unfold au;rw[Zb,Zb];have:=hs.length_le;have:=CD A.length W;have:=mf.g6;omega
  unfold qK;exact(gT b1 b2 (λz=>by rw[z] at mS;exact absurd mS ∅)).mono ∅
 .unfold ik at hz;let⟨i,hi,hz⟩:=Ja.mp hz;let jF:=Zi.mp hi;split at hz
  .rename_i hc;rw[Z5] at hc;let bD:0<((ak W qs).getD i []).length:=by
    cases hb:(ak W qs).getD i [] with
    |nil=>rw[hb] at hc;exact absurd hc.2 ∅
    |cons _ _=>simp
   let GU:((ak W qs).getD i []).getD 0 0∈(ak W qs).getD i []:=by rw[ap (Zc bD)];exact Zw _
   rw[vR jF] at GU;let⟨b,hb,eb⟩:=Zd.mp GU;rw[<- vR jF] at eb;rw[<- eb,Z0] at hz;unfold lf at hz;let⟨x,hx,rfl⟩:=Zd.mp hz;let⟨MK,vD⟩:=Zg.mp hx;let vD:=of_decide_eq_true vD;let⟨p0,p1,p2⟩:=rp.pos (M3.subset MK);let⟨jZ,l7⟩:=sy mf rp.pr.jC hl jF hb;let r1:=iL (row:=W.getD i []) (mf.w0 i b jF jZ) (rp.pr.bd _ (by rw[ap (Zc (show b<qs.length by omega))];exact Zw _)) l7;let r2:=iL (row:=W.getD i []) (mf.w0 i x.toNat jF ⋯) (rp.pr.bd _ (by rw[ap (Zc p1)];exact Zw _)) p2;apply(gT r1 r2 λz=>?_).mono ∅;have:0<bR (W.getD i []) qs x.toNat:=by unfold bR;exact div_pos (Y1.mpr vD) p2
   rw[z] at this;exact absurd this ∅
  .cases hz
def Kh (rp:cU A Pu W qs)(c8:lc A Pu qs W A.length)(pd:bZ A Pu qs W A.length Pd):∀z∈io A Pu qs W A.length Pd,1<z:=by
 let mf:=sY rp.pr.ok;let hl:=rp.pr.len;let hR:(aM A.length W Pd).Sublist (aw A.length W):=Zu;let M2:(aM A.length W Pd).Nodup:=(Cj A.length W).sublist hR;intro z hz;unfold io at hz;rcases Zv.mp hz with hz |hz
 .obtain⟨S,hS,rfl⟩:=Zd.mp hz;let⟨h1,h2⟩:=jd M2 hS;exact Pa (λq hq=>Zy (mf.pu q hq).1) c8 pd h1 h2 (rp.money (h1.trans hR) h2)
 .unfold ik at hz;let⟨i,hi,hz⟩:=Ja.mp hz;let jF:=Zi.mp hi;split at hz
  .rename_i hc;rw[Z5] at hc;let bD:0<((ak W qs).getD i []).length:=by
    cases hb:(ak W qs).getD i [] with
    |nil=>rw[hb] at hc;exact absurd hc.2 ∅
    |cons _ _=>simp
   let GU:((ak W qs).getD i []).getD 0 0∈(ak W qs).getD i []:=by rw[ap (Zc bD)];exact Zw _
   rw[vR jF] at GU;let⟨b,hb,eb⟩:=Zd.mp GU;rw[<- vR jF] at eb;rw[<- eb,Z0] at hz;unfold lf at hz;let⟨x,hx,rfl⟩:=Zd.mp hz;let⟨MK,vD⟩:=Zg.mp hx;let vD:=of_decide_eq_true vD;let⟨p0,p1,p2⟩:=rp.pos (pd.sub.subset MK);let⟨jZ,l7⟩:=sy mf rp.pr.jC hl jF hb;let hxl:x.toNat<(W.getD i []).length:=by rw[mf.wr i jF];omega
   let⟨le,eqv⟩:=B9 (qs:=qs) (row:=W.getD i []) (b:=b) (o:=x.toNat) (λy hy=>by
    let⟨k,hk,rfl⟩:=Yj hy;have:=mf.w0 i k jF (by rw[<- mf.wr i jF];exact hk);unfold eI at this;rw[ap (Zc hk)] at this;exact this.1) hb hxl vD l7 p2
   let np:x.toNat∉aV (W.getD i []) qs:=λz=>by
    let h1:=hc.1;rw[Sw jF,vR jF] at h1;have:ci (au Pd) ((aV (W.getD i []) qs).map λg:Nat=>(g:Int))=true:=by
     rw[Mx,Z6];exact⟨x.toNat,Zd.mpr ⟨x,MK,()⟩,Ya.mpr (Zd.mpr ⟨_,z,()⟩)⟩
    rw[this] at h1;cases h1
   let rp':0<bR (W.getD i []) qs x.toNat:=by unfold bR;exact div_pos (Y1.mpr vD) p2
   rw[Rat.lt_div_iff rp',Rat.one_mul];by_cases e:bR (W.getD i []) qs x.toNat=bR (W.getD i []) qs b
   .exact absurd (eqv e) np
   .grind
  .cases hz
def zY (h:aM g W Pd≠[]):io A Pu qs W g Pd≠[]:=by
 unfold io;intro z;let z1:=(List.append_eq_nil_iff.mp z).1;let z2:=Qd.mp z1;let z3:((aU (aM g W Pd)).drop 1).length=0:=by rw[z2];rfl
 rw[Qo,Rr] at z3;have:2 ^ 1<=2 ^ (aM g W Pd).length:=Xa ∅ (Xn.mpr h);omega
def MC {α : Type}{L:List α}{i:Nat}(d:α)(hi:i<L.length):L.take (i+1)=L.take i++[L.getD i d]:=by rw[List.take_succ,Zc hi,ap (Zc hi)];rfl
def tN (gs:List Nat):PyData:=.tuple (gs.map λg:Nat=>.int (g:Int))
end MI
namespace MI
open L2 KG EX KM RZ
section
def xY (c:Nat->Bool)(f a b:Nat->PyData)(hl:items.length<=1000000)(hi:∀(i:Nat) (x:AV),items[i]?=some x->x=.im (.tuple [a i,b i]))
  (hc:∀(i:Nat) (Z:Bool->bE->Prop),i<items.length->Z (c i) O->C (((dh n ix sl).set 0 (some (.im (a i)))).set 1 (some (.im (b i)))) O Z)
  (hs:∀(i:Nat) (Z:AV->bE->Prop),i<items.length->c i=true->Z (.im (f i)) O->M (((dh n ix sl).set 0 (some (.im (a i)))).set 1 (some (.im (b i)))) O Z)
  (hd:Q (.im (.list (((List.range items.length).filter c).map f))) O):CB n ix (kZ 2 (aE (bh 0) (aE (bh 1) bY))) C M sl Q items O:=by
 apply⟨hl,λi ds O'=>O'=O/\ds=((List.range i).filter c).map f,⟨(),()⟩,?_,λds O' ⟨e,h1⟩=>by rw[e,h1];exact hd⟩;rintro i x ds O' hx ⟨rfl,rfl⟩;let cG:=(Zf.mp hx).1;rw[hi i x hx];exact⟨(),hc i _ cG ⟨λh=>hs i _ cG h ⟨(),by rw[gB,h,if_pos rfl]⟩,λh=>⟨(),by rw[gB,h,if_neg ∅,Yh]⟩⟩⟩
end
section
def xD {c y:Rat}(hc:0<c)(hy:y<=0):c*y<=0:=by
 let h:=Qt hy (Zy hc)
 rwa [Xs] at h
def Jm (pr:nT A Pu W qs):eM A.length W (.tuple (qs.map qD))=true:=Dy.mpr ⟨pr.len,pr.jC⟩
def DO:FM:=λO xs P _=>match xs with
 |[.im (.int t),.im (.int u)]=>P (.im (.int (Int.gcd t u))) O
 |_=>False
def J7:tH K rc DO:=λw O H vs xs P PX Q E r a hf q x=>by
 unfold DO at hf;split at hf
 .obtain⟨v,u,rfl,h1,h2⟩:=wD a;rw[iu h1,iu h2];exact⟨_,_,(),q _ _ O w H hf (cx.refl _ _ _) r (.int _)⟩
 .exact hf.elim
def Ih:FM:=λO xs P _=>match xs with
 |[.im (.int t),.im (.int u)]=>(u≠0/\Bd 66000000 u)/\P (.im (qD (Rat.divInt t u))) O
 |_=>False
def LM:tH K (tJ Nn) Ih:=λw O H vs xs P PX Q E r a hf q x=>by
 unfold Ih at hf;split at hf
 .obtain⟨v,u,rfl,h1,h2⟩:=wD a;rw[iu h1,iu h2];apply⟨_,_,(),hf.1.2,λz=>absurd z hf.1.1,λ_ p hp=>?_⟩;let⟨r1,e1,t1⟩:=eT r hp (aJ.cons (.int (Rat.divInt _ _).num) (.cons (.int ((Rat.divInt _ _).den:Int)) .nil));exact q _ _ O w _ hf.2 e1 r1 t1
 .exact hf.elim
def Dx (h:cz (G w O H) v (qD a)):∃p,v=.ref p/\H p=some (qO a):=by
 let⟨p,xs,rfl,h1,t⟩:=eY h;cases t with |cons t1 t2=>cases t2 with |cons t2 t3=>cases t3;cases t1;cases t2;exact⟨p,(),h1⟩
def Vz (r:aB K w O H)(hp:H p=none)(a:Rat):aB K w O (aK H p (qO a))/\cx w O H w O (aK H p (qO a))/\cz (G w O (aK H p (qO a))) (.ref p) (qD a):=eT r hp (aJ.cons (.int a.num) (.cons (.int (a.den:Int)) .nil))
def Ji (r:aB K w O H)(s:aA H H')(hp:H' p=some (qO a)):aB K w O H'/\cx w O H w O H'/\cz (G w O H') (.ref p) (qD a):=lM r s hp (aJ.cons (.int a.num) (.cons (.int (a.den:Int)) .nil))
def UH:FM:=λO xs P _=>∃a b,xs=[.im (qD a),.im (qD b)]/\(Rb 32000000 a/\Rb 32000000 b/\b≠0)/\P (.im (qD (a / b))) O
def J0:tH K (nF Nn) UH:=λw O H vs xs P PX Q E r a hf q x=>by
 let⟨a1,b1,rfl,⟨h1,h2,h3⟩,hf⟩:=hf;let⟨v,u,rfl,g1,g2⟩:=wD a;let⟨p1,rfl,e1⟩:=Dx g1;let⟨p2,rfl,e2⟩:=Dx g2;apply⟨p1,p2,a1,b1,(),e1,e2,h1,h2,λz=>absurd z h3,λ_ p hp=>?_⟩;let⟨r1,ο,t1⟩:=Vz r hp (a1 / b1);exact q _ _ O w _ hf ο r1 t1
def DM:FM:=λO xs P _=>∃(n:Int) (y:Rat),xs=[.im (.int n),.im (qD y)]/\(Rb 2010007 y/\0<y/\0<=n/\n<=100)/\P (.im (qD ((n:Rat) / y))) O
def zL:tH K qZ DM:=λw O H vs xs P PX Q E r a hf q x=>by
 let⟨n,y,rfl,⟨h1,h2,h3,h4⟩,hf⟩:=hf;let⟨v,u,rfl,g1,g2⟩:=wD a;let⟨p2,rfl,e2⟩:=Dx g2;rw[iu g1];apply⟨n,p2,y,(),e2,h1,h2,h3,h4,λt H' s ht=>?_⟩;let⟨r1,ο,t1⟩:=Ji r s ht;exact q _ _ O w _ hf ο r1 t1
def FF (M:Γ1):Cd (.tuple (M.map aS))=true:=fg zC M
def w8:FM:=λO xs P _=>∃(A:Γ3) (Pu:Δ1) (W:Γ1) (qs:Δ1),xs=[.im (eN A Pu W),.im (.tuple (qs.map qD))]/\nT A Pu W qs/\P (.im (.tuple ((ak W qs).map aS))) O
def uN:tH K (nG Pr) w8:=λw O H vs xs P PX Q E r a hf q x=>by
 let⟨A,Pu,W,qs,rfl,pr,hf⟩:=hf;let⟨v1,v2,rfl,a1,a2⟩:=wD a;let⟨p,pa,pp,pw,xa,xp,xw,rfl,mk,la,lp⟩:=ND 0 a1 pr.ok;let inj:∀Cc:Δ1,PyData.tuple (qs.map qD)=.tuple (Cc.map qD)->qs=Cc:=λCc h=>by
  let h1:qA (qs.map qD)=qA (Cc.map qD):=by injection h with h;rw[h]
  rwa [gz,gz] at h1
 apply⟨0,p,pa,pp,pw,xa,xp,xw,_,_,_,v2,.tuple (qs.map qD),(),⟨mk,XQ 0 a2 (rk qs),λCc h z hz=>?_⟩,λhn=>?_,λCc h hl hp t Rc H' s ht hr=>?_⟩
 .rw[<- inj Cc h] at hz;exact(pr.bd z hz).mono ∅
 .exfalso;rw[KD,la] at hn;rw[Jm pr] at hn;cases hn
 .let e:=inj Cc h;subst e;rw[KD] at hr;let⟨r1,e1,_⟩:=r.ar s;let tr:fo 0 H' (.ref t) (.tuple ((ak W qs).map aS)):=.tup ht (Ea hr);exact q _ _ O w H' hf e1 r1 (XR r1 tr (FF _))
def fPG:FM:=λO xs P _=>∃(A:Γ3) (Pu:Δ1) (W:Γ1) (qs:Δ1),xs=[.im (eN A Pu W),.im (.tuple (qs.map qD))]/\nT A Pu W qs/\lc A Pu qs W A.length/\∀Pd,bZ A Pu qs W A.length Pd->P (.im (aS Pd)) O
def VO {De:Addr}:tH K (Nr De) fPG:=λw O H vs xs P PX Q E r a hf q x=>by
 let⟨A,Pu,W,qs,rfl,pr,c8,hf⟩:=hf;let⟨v1,v2,rfl,a1,a2⟩:=wD a;let⟨p,pa,pp,pw,xa,xp,xw,rfl,mk,la,lp⟩:=ND 0 a1 pr.ok;let⟨qp,yp,rfl,pa'⟩:=abl 0 a2 pr.bd;apply⟨0,p,pa,pp,pw,qp,xa,xp,xw,yp,_,_,_,qs,(),⟨mk,pa',by rw[pr.len,la],by rw[KD];exact pr.jC⟩,λc aT ab=>?_⟩;rw[on,gz,KD,la] at ab;let mf:=sY pr.ok;let hp:∀q∈Pu,0<=q:=λq hq=>Zy (mf.pu q hq).1
 let le0:∀y∈aT,y.1<=0:=λy hy=>by
  let h1:=ab.2.2 y hy;let h2:=c8 y.2 (EO ab hy);let hc:(0:Rat)<(c:Rat):=Y1.mpr ab.1;let h3:((y.1:Int):Rat)<=0:=by rw[h1];exact xD hc h2
  exact_mod_cast h3
 apply⟨λ⟨y,hy,h0⟩=>?_,λ_ t row H' s gH h0 dg ht=>?_⟩
 .have:=le0 y hy;omega
 .let pd:=Fs hp ab c8 gH h0 dg;let⟨r1,e1,t1⟩:=lM r s ht (wA row.2);exact q _ _ O w H' (hf _ pd) e1 r1 t1
end
def any_map (ns:Γ3)(p:Int->Bool):(ns.map p).any id=ns.any p:=by rw[X6];rfl
def Df:FM:=λO xs P _=>∃(M:Γ1) (S:Γ3),xs=[.im (.tuple (M.map aS)),.im (aS S)]/\M.length<=6/\(∀i,i<M.length->(M.getD i []).length<=6)/\P (.im (tN (oV M S))) O
abbrev N6:Δ2:=["best","goods"]
def T9:MS:=(cK (jX oU (af (cN 2 [1] (WC (af (ah 0) ay)) (kZ 2 (aE (bh 0) (aE (bh 1) bY))) (dD (jX Dj (af (cN 1 [2] (cM (ah 1)) (bh 0) eu (bA (Rx false) (ah 0) (ah 1))) ay))) (ah 0)) ay)))
def EN {S:Γ3}{r:Γ3}(hl:r.length<=6)(hM:∀(i:Nat) (x:AV) (Z:AV->bE->Prop),((r.map PyData.int).map AV.im)[i]?=some x->Z (.im (.bool (S.contains (r.getD i 0)))) O->M ((dh n ix sl).set 0 (some x)) O Z)(hZ:Z (.im (.list ((r.map λg=>S.contains g).map .bool))) O):CB n ix (bh 0) eu M sl Z ((r.map PyData.int).map AV.im) O:=by
 apply G2 (λj=>.bool (S.contains (r.getD j 0))) (by rw[Zb,Zb];omega) (λj x Z hx hZ=>hM j x Z hx hZ) ?_;rw[Zb,Zb];let e:(List.range r.length).map (λj=>PyData.bool (S.contains (r.getD j 0)))=(r.map λg=>S.contains g).map .bool:=by
  rw[Zp];exact G6 (λg:Int=>PyData.bool (S.contains g)) r 0
 rw[e];exact hZ
def OK:∀O xs Pq QX,Df O xs Pq QX->T9 { nx:=λ_ O'=>Pq (.im .none) O',rt:=Pq } (aY N6 xs) O:=by
 intro O xs Pq QX h;let⟨M,S,rfl,n6,r6,h⟩:=h;apply xY (λi=>(M.getD i []).any λg=>S.contains g) (λi=>.int (i:Int)) (λi=>.int (i:Int)) (λi=>aS (M.getD i [])) (by unfold cT;simp;omega) (λi x hx=>?_) (λi Z hi hZ=>?_) (λi Z hi _ hZ=>hZ) ?_
 .obtain⟨hi,rfl⟩:=i7 hx;rw[Zb] at hi;rw[show(M.map aS).getD i .none=aS (M.getD i []) from jv hi]
 .let hi:i<M.length:=by unfold cT at hi;simpa using hi
  conv=>whnf
  apply EN (S:=S) (r6 i hi) (λj x Z hx hZ=>?_) ⟨_,(),?_⟩
  .obtain⟨hj,rfl⟩:=GB hx;exact⟨S,(),hZ⟩
  .show Z (List.any _ id) O;rw[any_map];exact hZ
 .let e:(cT (M.map aS)).length=M.length:=by unfold cT;simp
  rw[e];exact h
def uo:FM:=λO xs P _=>∃ns:Γ3,xs=[.im (aS ns)]/\ns.length<=6/\P (.im (.list ((aU ns).map aS))) O
abbrev Op:Δ2:=["members","sets","member"]
def LJ:MS:=(bu (bI (AN (af (jq ay) ay)) (bh 1))
 (bu (kc (cM (ah 0)) (bh 2) (bI (bA o6 (ah 1) (cN 1 [2] (cM (ah 1)) (bh 0) eu (bA o6 (ah 0) (jq (af (ah 1) ay))))) (bh 1)))
 (cK (ah 1))))
def IW:∀O xs Pq QX,uo O xs Pq QX->LJ { nx:=λ_ O'=>Pq (.im .none) O',rt:=Pq } (aY Op xs) O:=by
 intro O xs Pq QX h;let⟨ns,rfl,n6,h⟩:=h;apply⟨NJ,HM,?_⟩;apply⟨?_⟩;conv=>whnf
 apply⟨λi sl O'=>O'=O/\∃y,sl=[Φ9 (aS ns),Φ9 (.list ((aU (ns.take i)).map aS)),y],⟨(),_,()⟩,?_,?_⟩
 .rintro i x sl O' hx ⟨rfl,y,rfl⟩;let⟨hi,rfl⟩:=GB hx;let ht:=MC (0:Int) hi;let hl:(aU (ns.take i)).length<=64:=by
   rw[Rr];exact Xa (n:=2) ∅ (show(ns.take i).length<=6 by rw[Yy];omega)
  apply⟨?_⟩;conv=>whnf
  apply G2 (λj=>aS ((aU (ns.take i)).getD j []++[ns.getD i 0])) (by rw[Zb,Zb];omega) (λj x Z hx hZ=>?_) ?_
  .obtain⟨hj,rfl⟩:=i0 hx;let hm:=(Ba (show(aU (ns.take i)).getD j []∈aU (ns.take i) by rw[ap (Zc hj)];exact Zw _)).2;let WN:((aU (ns.take i)).getD j []).length<=6:=by rw[Yy] at hm;omega
   apply⟨HM,by rw[Zb,sz];show _+1<=_;omega,?_⟩;let e:aS ((aU (ns.take i)).getD j []++[ns.getD i 0])=.tuple (((aU (ns.take i)).getD j []).map .int++[.int (ns.getD i 0)]):=by unfold aS;rw[Zs];rfl
   rw[e] at hZ;exact hZ
  .rw[Zb,Zb,G6 (λr:Γ3=>aS (r++[ns.getD i 0])) (aU (ns.take i)) []];apply⟨by rw[Zb,Zb,sz];omega,(),Φ9 (.int (ns.getD i 0)),?_⟩;rw[ht,jQ,Zs,Zp];rfl
 .rintro sl O' ⟨rfl,y,rfl⟩;rw[Zb,Zb,Yf];exact⟨h⟩
def JT {s:List Nat}(h:((s.map λg:Nat=>PyData.int (g:Int)).map AV.im)[i]?=some x):i<s.length/\x=.im (.int ((s.getD i 0:Nat):Int))/\s.getD i 0∈s:=JS h
def lz:FM:=λO xs P _=>∃(cs:Γ3) (s:List Nat),xs=[.im (cy cs),.im (tN s)]/\s.length<=6/\(∀i∈s,i<cs.length)/\P (.im (.int (AH cs s))) O
abbrev Og:Δ2:=["coins","some"]
def Er:MS:=(cK (jX Np (af (cN 1 [0] (cM (ah 1)) (bh 0) eu (bA cv (ah 1) (ah 0))) ay)))
def E9:∀O xs Pq QX,lz O xs Pq QX->Er { nx:=λ_ O'=>Pq (.im .none) O',rt:=Pq } (aY Og xs) O:=by
 intro O xs Pq QX h;let⟨cs,s,rfl,s6,hs,h⟩:=h;conv=>whnf
 apply G2 (λj=>.int (cs.getD (s.getD j 0) 0)) (by rw[Zb,Zb];omega) (λj x Z hx hZ=>?_) ?_
 .obtain⟨hj,rfl,hm⟩:=JT hx;exact⟨_,int_at (hs _ hm),hZ⟩
 .rw[Zb,Zb,zH s 0 (λb=>cs.getD b 0)];exact⟨_,(),h⟩
def Ie:FM:=λO xs P _=>∃(A:Γ3) (Pu:Δ1) (W:Γ1) (qs:Δ1),xs=[.im (eN A Pu W),.im (.tuple (qs.map qD))]/\qs.length=A.length/\A.length<=6/\(∀a∈A,1<=a/\a<=60)/\(∀z∈qs,Rb 2010000 z)/\P (.im (.list ((gd A qs).map qD))) O
abbrev Oc:Δ2:=Ψ8
def Ud:MS:=(cK (cN 2 [] (Sr (af (bA cv (ah 0) (mC (.int 0))) (af (ah 1) ay))) (kZ 2 (aE (bh 0) (aE (bh 1) bY))) eu (aG (f2 oN) cQ (af (jq (af (ah 0) (af (mC (.int 1)) ay))) (af (ah 1) ay)))))
def OO:∀O xs Pq QX,Ie O xs Pq QX->Ud { nx:=λ_ O'=>Pq (.im .none) O',rt:=Pq } (aY Oc xs) O:=by
 intro O xs Pq QX h;let⟨A,Pu,W,qs,rfl,hl,g6,hA,hq,h⟩:=h;apply⟨_,(),by rw[Zb,Zb];omega,?_⟩;apply gC (λj=>qD (((A.getD j 0:Int):Rat)*qs.getD j 0)) (λj=>.int (A.getD j 0)) (λj=>qD (qs.getD j 0)) (by rw[GF,Zb];omega) (λi x hx=>?_) (λi Z hi hZ=>?_) ?_
 .obtain⟨hi,rfl⟩:=qX hx;rw[Zb] at hi;rw[show(A.map PyData.int).getD i .none=.int (A.getD i 0) from jv hi,show(qs.map qD).getD i .none=qD (qs.getD i 0) from jv ⋯]
 .rw[GF,Zb] at hi;let ha:=hA (A.getD i 0) (by rw[ap (Zc hi)];exact Zw _);let hb:=hq (qs.getD i 0) (by rw[ap (Zc (show i<qs.length by omega))];exact Zw _);exact⟨md,((A.getD i 0:Int):Rat),qs.getD i 0,(),⟨(yb (k:=6) (by unfold Bd;omega) ∅).mono ∅,hb.mono ∅⟩,hZ⟩
 .rw[GF,Zb];let e:(List.range A.length).map (λj=>qD (((A.getD j 0:Int):Rat)*qs.getD j 0))=(gd A qs).map qD:=by
   unfold gd;rw[Zp,hl];exact Xc λj _=>by show qD _=qD _;rw[Rat.mul_comm]
  rw[e];exact h
def Ib:FM:=λO xs P _=>∃(ls:Δ1) (kb:Nat),xs=[.im (.list (ls.map qD))]/\ls.length<=12/\kb<=2010007/\(∀z∈ls,Rb kb z)/\∀(c:Int) (ms:Γ3),0<c->cW c ms ls->(∀m∈ms,Bd (13*kb+1) m)->P (.im (cy ms)) O
abbrev Oa:Δ2:=["parts","bottom","part"]
def Uc:MS:=(bu (bI (mC (.int 1)) (bh 1))
 (bu (kc (cM (ah 0)) (bh 2) (bI (bA tO (bA NY (ah 1) (aG DO cQ (af (ah 1) (af (bA cv (ah 2) (mC (.int 1))) ay)))) (bA cv (ah 2) (mC (.int 1)))) (bh 1)))
 (cK (cN 1 [1] (cM (ah 0)) (bh 0) eu (bA tO (bA cv (ah 0) (mC (.int 0))) (bA NY (ah 1) (bA cv (ah 0) (mC (.int 1)))))))))
def ON:∀O xs Pq QX,Ib O xs Pq QX->Uc { nx:=λ_ O'=>Pq (.im .none) O',rt:=Pq } (aY Oa xs) O:=by
 intro O xs Pq QX h;let⟨ls,kn,rfl,ll,k3,lb,jk⟩:=h;apply⟨?_⟩;conv=>whnf
 let lat:∀{j:Nat}{x:AV},((ls.map qD).map AV.im)[j]?=some x->j<ls.length/\x=.im (qD (ls.getD j 0))/\Rb kn (ls.getD j 0):=λ{j x} hx=>by
  let hj:j<ls.length:=by have:=(Zf.mp hx).1;simpa using this
  rw[Zo,jj (f:=qD) (d:=0) hj] at hx;exact⟨hj,(Option.some.inj hx).symm,lb _ (by rw[ap (Zc hj)];exact Zw _)⟩
 apply⟨λi sl O'=>O'=O/\∃(oQ:Int) (y4:Option AV),sl=[Φ9 (.list (ls.map qD)),Φ9 (.int oQ),y4]/\0<oQ/\Bd (kn*i+1) oQ/\∀j,j<i->((ls.getD j 0).den:Int)∣oQ,⟨(),1,none,(),∅,by rw[Nat.mul_zero];unfold Bd;decide,λj hj=>absurd hj ⋯⟩,?_,?_⟩
 .rintro i x sl O' hx ⟨rfl,oQ,y4,rfl,b0,bb,bd⟩;let⟨hi,rfl,hb⟩:=lat hx;let dp:(0:Int)<((ls.getD i 0).den:Int):=by have:=(ls.getD i 0).den_pos;omega
  let gp:(0:Int)<(Int.gcd oQ ((ls.getD i 0).den:Int):Int):=by have:=Qy oQ (show((ls.getD i 0).den:Int)≠0 by omega);omega
  let g1:(Int.gcd oQ ((ls.getD i 0).den:Int):Int)∣oQ:=Int.gcd_dvd_left ..;let g2:(Int.gcd oQ ((ls.getD i 0).den:Int):Int)∣((ls.getD i 0).den:Int):=Qz ..;generalize ZX:(Int.gcd oQ ((ls.getD i 0).den:Int):Int)=gg at gp g1 g2;let gb:Bd 66000000 gg:=by
   apply(hb.2.mono (show kn<=66000000 by omega)).le ?_;have:=Int.le_of_dvd dp g2;omega
  let⟨k,hk⟩:=g1;let k0:0<k:=by
   rcases Int.lt_or_le 0 k with z |z
   .exact z
   .have:gg*k<=0:=Int.mul_nonpos_of_nonneg_of_nonpos ⋯ z;omega
  let ek:oQ / gg=k:=by rw[hk,Int.mul_ediv_cancel_left _ ⋯]
  let kl:kn*i<=24120084:=Xt k3 (show i<=12 by omega);let kb:Bd (kn*i+1) k:=bb.le (by
   have:k<=gg*k:=by
    have:=Int.mul_le_mul_of_nonneg_right (show 1<=gg by omega) (show 0<=k by omega)
    rwa [Int.one_mul] at this
   omega)
  apply⟨_,(),⟨by rw[ZX];exact gp,by rw[ZX];exact gb⟩,_,(),?_⟩;dsimp only;rw[ZX,ek];apply⟨⟨kb.mono ⋯,hb.2.mono ⋯⟩,(),_,_,(),Xb k0 dp,(kb.mul hb.2).mono (by rw[Nat.mul_succ];omega),λj hj=>?_⟩;rcases Z3 j i with y |y
  .let h1:=bd j y;let⟨m,hm⟩:=g2;have:k*((ls.getD i 0).den:Int)=oQ*m:=by rw[hm,hk];grind
   rw[this];exact Int.dvd_trans h1 (Int.dvd_mul_right _ _)
  .obtain rfl:j=i:=⋯;exact Int.dvd_mul_left _ _
 .rintro sl O' ⟨rfl,oQ,y4,rfl,b0,bb,bd⟩;rw[Zb,Zb] at bb bd;let kl:kn*ls.length<=kn*12:=Nat.mul_le_mul_left kn ll;let bdv:∀j,j<ls.length->Bd (kn*ls.length+1) (oQ / ((ls.getD j 0).den:Int)):=λj hj=>by
   let dp:(0:Int)<((ls.getD j 0).den:Int):=by have:=(ls.getD j 0).den_pos;omega
   apply bb.le ?_;let h1:=Int.ediv_nonneg (show 0<=oQ by omega) (show(0:Int)<=((ls.getD j 0).den:Int) by omega);let h2:=Int.ediv_le_self ((ls.getD j 0).den:Int) (show 0<=oQ by omega);omega
  apply⟨?_⟩;conv=>whnf
  apply G2 (λj=>.int ((ls.getD j 0).num*(oQ / ((ls.getD j 0).den:Int)))) (by rw[Zb,Zb];omega) (λj x Z hx hZ=>?_) ?_
  .obtain⟨hj,rfl,hb⟩:=lat hx;let dp:(0:Int)<((ls.getD j 0).den:Int):=by have:=(ls.getD j 0).den_pos;omega
   exact⟨_,(),_,(),⟨dp,hb.2.mono ⋯⟩,⟨hb.1.mono ⋯,(bdv j hj).mono ⋯⟩,hZ⟩
  rw[Zb,Zb,zH ls 0 (λq:Rat=>q.num*(oQ / (q.den:Int)))];apply jk oQ _ b0 ⟨by simp,λj hj=>?_⟩ λm hm=>?_
  .rw[show(ls.map λq:Rat=>q.num*(oQ / (q.den:Int))).getD j 0=(ls.getD j 0).num*(oQ / ((ls.getD j 0).den:Int)) from jv hj];let bj:=bd j hj;generalize ls.getD j 0=q at bj ⊢;let⟨k,hk⟩:=bj;let dp:(q.den:Int)≠0:=by have:=q.den_pos;omega
   rw[hk,Int.mul_ediv_cancel_left _ dp,Xp,Xp];let e:q=((q.num:Int):Rat) / ((q.den:Int):Rat):=by rw[<- Qb];exact(Xg q).symm
   let dq:((q.den:Int):Rat)≠0:=λz=>dp (by exact_mod_cast z)
   let e2:q*((q.den:Int):Rat)=((q.num:Int):Rat):=by
    conv=>lhs;rw[e]
    grind
   rw[<- e2]
   grind
  .obtain⟨q,hq',rfl⟩:=Zd.mp hm;let⟨j,hj,rfl⟩:=Yj hq';let hb:=lb _ hq';have:=bdv j hj;rw[ap (Zc hj)] at this;exact(hb.1.mul this).mono ⋯
def wC:FM:=λO xs P _=>∃(A:Γ3) (Pu:Δ1) (W:Γ1) (qs:Δ1) (kb:Nat),xs=[.im (eN A Pu W),.im (.tuple (qs.map qD))]/\qs.length=A.length/\A.length<=6/\Pu.length<=6/\(∀a∈A,1<=a/\a<=60)/\(∀z∈Pu,Rb 20 z)/\kb<=2010000/\20<=kb/\(∀z∈qs,Rb kb z)/\∀(c:Int) (ms ps:Γ3),0<c->cW c ms (gd A qs)->cW c ps Pu->(∀m∈ms,Bd (13*kb+79) m)->(∀m∈ps,Bd (13*kb+79) m)->P (.im (.tuple [cy ms,cy ps])) O
abbrev UU:Δ2:=["market","prices","coins","goods"]
def Ug:MS:=(bu (bI (aG Ib cQ (af (bA o6 (aG Ie cQ (af (ah 0) (af (ah 1) ay))) (jX HL (af (bA cv (ah 0) (mC (.int 1))) ay))) ay)) (bh 2))
 (bu (bI (jX ma (af (bA cv (ah 0) (mC (.int 0))) ay)) (bh 3))
 (cK (jq (af (HI (ah 2) HK (HH (ah 3))) (af (HI (ah 2) (HH (ah 3)) HK) ay))))))
def OR:∀O xs Pq QX,wC O xs Pq QX->Ug { nx:=λ_ O'=>Pq (.im .none) O',rt:=Pq } (aY UU xs) O:=by
 intro O xs Pq QX h;let⟨A,Pu,W,qs,kn,rfl,hl,g6,n6,hA,hP,k3,k2,hq,h⟩:=h;let hAa:∀j,j<A.length->1<=A.getD j 0/\A.getD j 0<=60:=λj hj=>hA _ (by rw[ap (Zc hj)];exact Zw _)
 let ml:(gd A qs).length=qs.length:=by unfold gd;simp
 apply⟨A,Pu,W,qs,(),hl,g6,hA,λz hz=>(hq z hz).mono k3,_,(),by rw[Zb,Zb,ml,sz];omega,gd A qs++Pu,kn+6,by rw[Zs],by rw[Zt];omega,⋯,λz hz=>?_,λc ms hc hi hmb=>?_⟩
 .rcases Zv.mp hz with hz |hz
  .obtain⟨j,hj,rfl⟩:=Zd.mp hz;let hj:=Zi.mp hj;let ha:=hAa j ⋯;exact(fU (j:=kn) (k:=6) (hq _ (by rw[ap (Zc hj)];exact Zw _)) (yb (by unfold Bd;omega) ∅)).mono (Ze _)
  .exact(hP z hz).mono ⋯
 let⟨i1,i2⟩:=xR hi;let RC:ms.length=qs.length+Pu.length:=by rw[hi.1,Zt,ml]
 rw[ml] at i1 i2;let fi:=h c _ _ hc i1 i2 (λm hm=>(hmb m (List.mem_of_mem_take hm)).mono ⋯) λm hm=>(hmb m (List.mem_of_mem_drop hm)).mono ⋯
 apply⟨⟨_,(),⟨?_⟩⟩⟩;let hqm:(((A.map PyData.int).length:Nat):Int)=((qs.length:Nat):Int):=by rw[Zb,hl]
 let hto:=Gi (xs:=ms.map PyData.int) (r:=qs.length) (by rw[Zb];omega);let KP:=qm (xs:=ms.map PyData.int) (r:=((qs.length:Nat):Int)) ⋯ (by rw[Zb];omega);rw[Z0] at KP;show[PyData.list (cutD (ms.map .int) none (some (((A.map PyData.int).length:Nat):Int))),PyData.list (cutD (ms.map .int) (some (((A.map PyData.int).length:Nat):Int)) none)].length<=sizeLine/\Pq (.im (.tuple [PyData.list (cutD (ms.map .int) none (some (((A.map PyData.int).length:Nat):Int))),PyData.list (cutD (ms.map .int) (some (((A.map PyData.int).length:Nat):Int)) none)])) _;rw[hqm,hto,KP];apply⟨md,?_⟩;unfold cy at fi;rw[List.map_take,List.map_drop] at fi;exact fi
def bP (M:Γ1)(Pd:Γ3):Γ1:=M.map λr=>if (r.any λg=>Pd.contains g)=true then [] else r
def uk:FM:=λO xs P _=>∃(M:Γ1) (Pd:Γ3),xs=[.im (.tuple (M.map aS)),.im (aS Pd)]/\M.length<=6/\(∀i,i<M.length->(M.getD i []).length<=6)/\P (.im (.tuple ((bP M Pd).map aS))) O
abbrev Oe:Δ2:=["best","paid"]
def LF:MS:=(cK (jX oU (af (cN 1 [1] (cM (ah 0)) (bh 0) eu (Ss (dD (jX Dj (af (cN 1 [1] (cM (ah 0)) (bh 0) eu (bA (Rx false) (ah 0) (ah 1))) ay))) (jq ay) (ah 0))) ay)))
def IV:∀O xs Pq QX,uk O xs Pq QX->LF { nx:=λ_ O'=>Pq (.im .none) O',rt:=Pq } (aY Oe xs) O:=by
 intro O xs Pq QX h;let⟨M,Pd,rfl,n6,r6,h⟩:=h;conv=>whnf
 apply G2 (λi=>aS (if ((M.getD i []).any λg=>Pd.contains g)=true then [] else M.getD i [])) (by rw[Zb,Zb];omega) (λi x Z hx hZ=>?_) ?_
 .obtain⟨hi,rfl⟩:=i0 hx;conv=>whnf
  apply EN (S:=Pd) (r6 i hi) (λj x Z hx hZ=>?_) ⟨_,(),?_⟩
  .obtain⟨hj,rfl⟩:=GB hx;exact⟨Pd,(),hZ⟩
  .show(List.any _ id=true->_)/\(List.any _ id=false->_);rw[any_map];apply⟨λhc=>⟨NJ,?_⟩,λhc=>?_⟩
   .rw[if_pos hc] at hZ;exact hZ
   .rw[if_neg (by rw[hc];decide)] at hZ;exact hZ
 .rw[Zb,Zb,G6 (λr:Γ3=>aS (if (r.any λg=>Pd.contains g)=true then [] else r)) M []];unfold bP at h;rw[Zp] at h;exact h
def BE (hP:∀x∈Pd,0<=x)(hS:∀x∈S,0<=x):oV (bP (ak W qs) Pd) S=loose W qs Pd S:=by
 unfold loose;rw[<- rL (W:=W) (qs:=qs) hS,<- rL (W:=W) (qs:=qs) hP];unfold oV;let hl:(bP (ak W qs) Pd).length=(ak W qs).length:=by unfold bP;simp
 rw[hl,Qr];apply Y0 λi hi=>?_
 let hi:=Zi.mp hi;let e:(bP (ak W qs) Pd).getD i []=if (((ak W qs).getD i []).any λg=>Pd.contains g)=true then [] else (ak W qs).getD i []:=by unfold bP;exact jv hi
 rw[e];let ec:((List.range (ak W qs).length).filter λi=>((ak W qs).getD i []).any λg=>Pd.contains g).contains i=((ak W qs).getD i []).any λg=>Pd.contains g:=by
  rw[Yc,Ya,Zg,Zi];exact⟨λh=>h.2,λh=>⟨hi,h⟩⟩
 rw[ec];cases ((ak W qs).getD i []).any λg=>Pd.contains g with
 |true=>rw[if_pos rfl];simp
 |false=>rw[if_neg ∅];simp
def yH:FM:=λO xs P _=>∃(qs:Δ1) (R:Γ3) (f:Rat),xs=[.im (.tuple (qs.map qD)),.im (aS R),.im (qD f)]/\qs.length<=6/\(∀z∈qs,Rb 32000000 z)/\Rb 32000000 f/\P (.im (.tuple (((List.range qs.length).map λg:Nat=>if R.contains (g:Int)=true then qs.getD g 0*f else qs.getD g 0).map qD))) O
abbrev N8:Δ2:=["prices","rising","factor"]
def Lz:MS:=(cK (jX oU (af (cN 2 [2,1] (WC (af (ah 0) ay)) (kZ 2 (aE (bh 0) (aE (bh 1) bY))) eu (Ss (dD (bA (Rx false) (ah 0) (ah 3))) (aG (f2 oN) cQ (af (ah 1) (af (ah 2) ay))) (ah 1))) ay)))
def IQ:∀O xs Pq QX,yH O xs Pq QX->Lz { nx:=λ_ O'=>Pq (.im .none) O',rt:=Pq } (aY N8 xs) O:=by
 intro O xs Pq QX h;let⟨qs,R,f,rfl,g6,hq,hf,h⟩:=h;let el:(cT (qs.map qD)).length=qs.length:=by unfold cT;simp
 apply gC (λi=>qD (if R.contains ((i:Nat):Int)=true then qs.getD i 0*f else qs.getD i 0)) (λi=>.int (i:Int)) (λi=>qD (qs.getD i 0)) (by rw[el];omega) (λi x hx=>?_) (λi Z hi hZ=>?_) ?_
 .obtain⟨hi,rfl⟩:=i7 hx;rw[Zb] at hi;rw[show(qs.map qD).getD i .none=qD (qs.getD i 0) from jv hi]
 .rw[el] at hi;let hb:=hq (qs.getD i 0) (by rw[ap (Zc hi)];exact Zw _);apply⟨R,(),λhc=>⟨qs.getD i 0,f,(),⟨hb,hf⟩,?_⟩,λhc=>?_⟩
  .let hc:R.contains ((i:Nat):Int)=true:=hc;rw[if_pos hc] at hZ;exact hZ
  .let hc:R.contains ((i:Nat):Int)=false:=hc;rw[if_neg (by rw[hc];decide)] at hZ;exact hZ
 .rw[el];rw[Zp] at h;exact h
def rH:FM:=λO xs P _=>∃L:Δ1,xs=[.im (.list (L.map qD))]/\L≠[]/\(∀z∈L,Rb 32000000 z)/\∀f,jA L f->P (.im (qD f)) O
abbrev UT:Δ2:=["parts","found","part"]
def Eo:MS:=(bu (bI (bA cv (ah 0) (mC (.int 0))) (bh 1))
 (bu (kc (cM (ah 0)) (bh 2) (li (dD (aG DN cQ (af (ah 2) (af (ah 1) ay)))) (bI (ah 2) (bh 1)) gj))
 (cK (ah 1))))
def E7:∀O xs Pq QX,rH O xs Pq QX->Eo { nx:=λ_ O'=>Pq (.im .none) O',rt:=Pq } (aY UT xs) O:=by
 intro O xs Pq QX h;let⟨L,rfl,bD,hb,h⟩:=h;let h0:0<L.length:=Xn.mpr bD;let hm:∀i,i<L.length->L.getD i 0∈L:=λi hi=>by rw[ap (Zc hi)];exact Zw _
 apply⟨_,aZ (i:=0) (jj (f:=qD) (d:=(0:Rat)) h0),?_⟩;apply⟨?_⟩;conv=>whnf
 apply⟨λi sl O'=>O'=O/\∃(f:Rat) (y:Option AV),sl=[Φ9 (.list (L.map qD)),Φ9 (qD f),y]/\f∈L/\∀z∈L.take i,f<=z,⟨(),_,_,(),hm 0 h0,λz hz=>(by cases hz)⟩,?_,?_⟩
 .rintro i x sl O' hx ⟨rfl,f,y,rfl,f1,f2⟩;let hi:i<L.length:=by have:=(Zf.mp hx).1;simpa using this
  rw[Zo,jj (f:=qD) (d:=(0:Rat)) hi] at hx;cases Option.some.inj hx;let ht:=MC (0:Rat) hi;apply⟨L.getD i 0,f,(),⟨hb _ (hm i hi),hb _ f1⟩,λhc=>⟨(),_,_,(),hm i hi,?_⟩,λhc=>⟨(),_,_,(),f1,?_⟩⟩
  .grind
  grind
 .rintro sl O' ⟨rfl,f,y,rfl,f1,f2⟩;rw[Zb,Zb,Yf] at f2;exact⟨h f ⟨f1,f2⟩⟩
def E2 (h:∀x∈S,0<=x):aS S=tN (au S):=by
 unfold aS tN au;rw[Zp]
 congr 1
 exact Xc λx hx=>by show PyData.int x=PyData.int ((x.toNat:Nat):Int);rw[Xe (h x hx)]
def II (nd:ns.Nodup):(aU ns).filter (λS=>!S.isEmpty)=(aU ns).drop 1:=by
 let e0:aU ns=[]::(aU ns).drop 1:=lF ns;let h:∀S∈(aU ns).drop 1,(!S.isEmpty)=true:=λS hS=>by
  have:=(jd nd hS).2;cases S with
  |nil=>exact absurd rfl this
  |cons _ _=>rfl
 conv=>lhs;rw[e0]
 rw[Qu ∅,X1.mpr h]
def yJ:FM:=λO xs P _=>∃(A:Γ3) (Pu:Δ1) (W:Γ1) (qs:Δ1) (Pd:Γ3),xs=[.im (eN A Pu W),.im (.tuple (qs.map qD)),.im (.tuple ((bP (ak W qs) Pd).map aS)),.im (aS (aM A.length W Pd))]/\cU A Pu W qs/\Pd.Sublist (aw A.length W)/\P (.im (.list ((((aU (aM A.length W Pd)).drop 1).map (qK A Pu qs W Pd)).map qD))) O
abbrev N9:Δ2:=["market","prices","loose","rising","money","purses"]
def LC:MS:=(bu (bI (aG wC cQ (af (ah 0) (af (ah 1) ay))) (kZ 2 (aE (bh 4) (aE (bh 5) bY))))
 (cK (cN 1 [2,4,5] (cM (aG uo cQ (af (ah 3) ay))) (bh 0) (AK (ah 0)) (aG Ih cQ (af (aG lz cQ (af (ah 3) (af (aG Df cQ (af (ah 1) (af (ah 0) ay))) ay))) (af (aG lz cQ (af (ah 2) (af (ah 0) ay))) ay))))))
def IT:∀O xs Pq QX,yJ O xs Pq QX->LC { nx:=λ_ O'=>Pq (.im .none) O',rt:=Pq } (aY N9 xs) O:=by
 intro O xs Pq QX h;let⟨A,Pu,W,qs,Pd,rfl,rp,M3,h⟩:=h;let pr:=rp.pr;let mf:=sY pr.ok;let hl:=pr.len;let g6:=mf.g6;let n6:=mf.n6;let wl:=mf.wl;let hR:(aM A.length W Pd).Sublist (aw A.length W):=Zu;let M2:(aM A.length W Pd).Nodup:=(Cj A.length W).sublist hR;let WV:(aM A.length W Pd).length<=6:=by have:=hR.length_le;have:=CD A.length W;omega
 apply⟨A,Pu,W,qs,2010000,(),hl,g6,n6,mf.am,λz hz=>(mf.pu z hz).2,Ze _,∅,pr.bd,λc ms ps hc im ip imb _=>?_⟩;let mm:(gd A qs).length=qs.length:=by unfold gd;simp
 let iml:ms.length=A.length:=by rw[im.1,mm,hl]
 let ipl:ps.length=Pu.length:=ip.1;apply⟨(),⟨_,(),WV,?_⟩⟩;conv=>whnf
 let ajN:(aU (aM A.length W Pd)).length<=64:=by rw[Rr];exact Xa (n:=2) ∅ WV
 apply jh (λj=>!((aU (aM A.length W Pd)).getD j []).isEmpty) (λj=>qD (qK A Pu qs W Pd ((aU (aM A.length W Pd)).getD j []))) (by rw[Zb,Zb];omega) (λj x Z hx hZ=>?_) (λj x Z hx sP hZ=>?_) ?_
 .obtain⟨hj,rfl⟩:=i0 hx;apply⟨(),?_⟩;show Z (!_) O;rw[Jc];exact hZ
 .obtain⟨hj,rfl⟩:=i0 hx;let hS:(aU (aM A.length W Pd)).getD j []∈aU (aM A.length W Pd):=by rw[ap (Zc hj)];exact Zw _
  generalize (aU (aM A.length W Pd)).getD j []=S at hS hZ sP ⊢;let S1:S≠[]:=λz=>by rw[z] at sP;cases sP
  let hSr:=ck.mp hS;let hs:=hSr.trans hR;let hsl:S.length<=6:=by have:=hSr.length_le;omega
  let hs0:∀x∈S,0<=x:=λx hx=>(yc (hs.subset hx)).1
  let ZL:∀x∈Pd,0<=x:=λx hx=>(yc (M3.subset hx)).1
  let lol:(bP (ak W qs) Pd).length=W.length:=by unfold bP;rw[Zb,G3]
  let lor:∀i,i<(bP (ak W qs) Pd).length->((bP (ak W qs) Pd).getD i []).length<=6:=λi hi=>by
   let jF:i<W.length:=⋯;let e:(bP (ak W qs) Pd).getD i []=if (((ak W qs).getD i []).any λg=>Pd.contains g)=true then [] else (ak W qs).getD i []:=by unfold bP;exact jv (by rw[G3];exact jF)
   rw[e];split
   .exact Yb _
   .exact Zl (ox jF (mf.wr i jF)) g6
  let mS:=rp.money hs S1;let um:(((AH ms (au S):Int)):Rat)=(c:Rat)*eh A qs (au S):=kR im λi hi=>by
   let⟨x,hx,rfl⟩:=Zd.mp hi;have:=(yc (hs.subset hx)).2.1;omega
  let tm:(((AH ps (loose W qs Pd S):Int)):Rat)=(c:Rat)*bt Pu (loose W qs Pd S):=kR ip λi hi=>by
   have:=oE (Zg.mp hi).1;omega
  let u0:0<AH ms (au S):=by
   have:(0:Rat)<((AH ms (au S):Int):Rat):=by rw[um];exact Xq (Y1.mpr hc) mS
   exact Y1.mp this
  let ub:Bd 66000000 (AH ms (au S)):=by
   apply(QQ (k:=27000000) (λx hx=>?_) ?_).mono ∅
   .obtain⟨i,hi,rfl⟩:=Zd.mp hx;let⟨y,hy,rfl⟩:=Zd.mp hi;have:=(yc (hs.subset hy)).2.1;exact(imb _ (by rw[ap (Zc (show y.toNat<ms.length by omega))];exact Zw _)).mono ∅
   .unfold au;rw[Zb,Zb];exact hsl
  apply⟨bP (ak W qs) Pd,S,(),⋯,lor,ps,oV (bP (ak W qs) Pd) S,(),?_,?_,ms,au S,?_,?_,?_,⟨⋯,ub⟩,?_⟩
  .unfold oV;apply Zl (Yz _ _) ?_;rw[Yk];omega
  .intro i hi;have:=Zi.mp (Zg.mp hi).1;omega
  .rw[<- E2 hs0];rfl
  .unfold au;rw[Zb];exact hsl
  .intro i hi;let⟨x,hx,rfl⟩:=Zd.mp hi;have:=(yc (hs.subset hx)).2.1;omega
  .rw[BE ZL hs0,BX hc tm um mS];exact hZ
 .rw[Zb,Zb,Gd (aU (aM A.length W Pd)) [] (λS=>!S.isEmpty) (λS=>qD (qK A Pu qs W Pd S)),II M2];rw[Zp] at h;exact h
def rG:FM:=λO xs P _=>∃(A:Γ3) (Pu:Δ1) (W:Γ1) (qs:Δ1) (Pd:Γ3),xs=[.im (eN A Pu W),.im (.tuple (qs.map qD)),.im (.tuple ((bP (ak W qs) Pd).map aS)),.im (aS Pd)]/\cU A Pu W qs/\Pd.Sublist (aw A.length W)/\P (.im (.list ((ik W qs Pd W.length).map qD))) O
abbrev Ob:Δ2:=["market","prices","loose","paid"]
def En:MS:=(cK (wU 3 [3,1] (Sr (af (bA cv (ah 0) (mC (.int 2))) (af (ah 2) ay))) (kZ 2 (aE (bh 0) (aE (bh 1) bY))) (AK (ah 1)) (cM (ah 3)) 2 (dD (bA Hm (bA cv (ah 0) (ah 2)) (mC (.int 0)))) (aG UH cQ (af (aG DM cQ (af (bA cv (ah 0) (bA cv (ah 1) (mC (.int 0)))) (af (bA cv (ah 4) (bA cv (ah 1) (mC (.int 0)))) ay))) (af (aG DM cQ (af (bA cv (ah 0) (ah 2)) (af (bA cv (ah 4) (ah 2)) ay))) ay)))))
def lI (i:Nat):ik W qs Pd (i+1)=ik W qs Pd i++(if !(eF W qs (au Pd)).contains i&&!((ak W qs).getD i []).isEmpty then lf (W.getD i []) qs Pd (((ak W qs).getD i []).getD 0 0).toNat else []):=by
 unfold ik;rw[Y3,List.flatMap_append,List.flatMap_singleton]
def yY:(lf row qs Pd b).length<=Pd.length:=by
 unfold lf;rw[Zb];exact Yz _ _
def uM (h:Pd.length<=6)(m:Nat):(ik W qs Pd m).length<=6*m:=by
 induction m with
 |zero=>exact Ze _
 |succ m ih =>
  rw[lI,Zt];let h5:(if (!(eF W qs (au Pd)).contains m&&!((ak W qs).getD m []).isEmpty)=true then lf (W.getD m []) qs Pd (((ak W qs).getD m []).getD 0 0).toNat else []).length<=6:=by
   split
   .exact Zl yY h
   .exact Yb _
  omega
def EU {Pd:Γ3}(hj:j<Pd.length):lf row qs (Pd.take (j+1)) b=lf row qs (Pd.take j) b++(if 0<row.getD (Pd.getD j 0).toNat 0 then [bR row qs b / bR row qs (Pd.getD j 0).toNat] else []):=by
 unfold lf;rw[MC (0:Int) hj,Xo,Zs]
 grind
def E6:∀O xs Pq QX,rG O xs Pq QX->En { nx:=λ_ O'=>Pq (.im .none) O',rt:=Pq } (aY Ob xs) O:=by
 intro O xs Pq QX h;let⟨A,Pu,W,qs,Pd,rfl,rp,M3,h⟩:=h;let pr:=rp.pr;let mf:=sY pr.ok;let hl:=pr.len;let g6:=mf.g6;let n6:=mf.n6;let wl:=mf.wl;let ZH:Pd.length<=6:=by have:=M3.length_le;have:=CD A.length W;omega
 let lol:(bP (ak W qs) Pd).length=W.length:=by unfold bP;rw[Zb,G3]
 let WK:∀j,j<qs.length->Rb 2010000 (qs.getD j 0):=λj hj=>pr.bd _ (by rw[ap (Zc hj)];exact Zw _)
 apply⟨_,(),by rw[Zb,Zb,lol];exact Ze _,?_⟩;apply⟨λi ds O'=>O'=O/\ds=(ik W qs Pd i).map qD,⟨(),()⟩,?_,?_⟩
 .rintro i x ds Oz hx ⟨rfl,rfl⟩;let⟨hi,rfl⟩:=qX hx;rw[Zb] at hi;let e1:(W.map aS).getD i .none=aS (W.getD i []):=jv hi;let e2:((bP (ak W qs) Pd).map aS).getD i .none=aS ((bP (ak W qs) Pd).getD i []):=jv ⋯;rw[e1,e2];let elo:(bP (ak W qs) Pd).getD i []=if (((ak W qs).getD i []).any λg=>Pd.contains g)=true then [] else (ak W qs).getD i []:=by unfold bP;exact jv (by rw[G3];exact hi)
  let etk:(eF W qs (au Pd)).contains i=((ak W qs).getD i []).any λg=>Pd.contains g:=by
   rw[Sw hi];have:=rL (W:=W) (qs:=qs) (S:=Pd) λx hx=>(yc (M3.subset hx)).1
   let h2:(oV (ak W qs) Pd).contains i=(eF W qs (au Pd)).contains i:=by rw[this]
   rw[Sw hi] at h2;rw[<- h2,Yc,Ya];unfold oV;rw[Zg,Zi,G3];exact⟨λh=>h.2,λh=>⟨hi,h⟩⟩
  apply⟨(),(),?_⟩;show((!(((bP (ak W qs) Pd).getD i []).map PyData.int).isEmpty)=true->_)/\((!(((bP (ak W qs) Pd).getD i []).map PyData.int).isEmpty)=false->_);rw[Jc];let ec:(!((bP (ak W qs) Pd).getD i []).isEmpty)=(!(eF W qs (au Pd)).contains i&&!((ak W qs).getD i []).isEmpty):=by
   rw[elo,etk];cases ((ak W qs).getD i []).any λg=>Pd.contains g with
   |true=>rw[if_pos rfl];rfl
   |false=>rw[if_neg ∅];rfl
  apply⟨λhc=>?_,λhc=>⟨(),?_⟩⟩
  .rw[ec] at hc;let GQ:=(Z5 _ _).mp hc;let hnt:(((ak W qs).getD i []).any λg=>Pd.contains g)=false:=by
    rw[<- etk];cases h5:(eF W qs (au Pd)).contains i with
    |true=>rw[h5] at GQ;exact absurd GQ.1 ∅
    |false=>rfl
   rw[elo,hnt,if_neg ∅];let bD:0<((ak W qs).getD i []).length:=by
    cases hb:(ak W qs).getD i [] with
    |nil=>rw[hb] at GQ;exact absurd GQ.2 ∅
    |cons _ _=>simp
   let GU:((ak W qs).getD i []).getD 0 0∈(ak W qs).getD i []:=by rw[ap (Zc bD)];exact Zw _
   rw[vR hi] at GU;let⟨b,hb,eb⟩:=Zd.mp GU;rw[<- vR hi] at eb;let⟨jZ,l7⟩:=sy mf pr.jC hl hi hb;let ba:fj (((ak W qs).getD i []).map PyData.int) 0=some (.int (b:Int)):=by
    have:=int_at bD;rw[<- eb] at this;exact this
   let ajC:=mf.wr i hi;let wb:=mf.w0 i b hi jZ;let msu:=lI (W:=W) (qs:=qs) (Pd:=Pd) i;rw[hc,if_pos rfl,<- eb,Z0] at msu;let qb:fj (qs.map qD) (b:Int)=some (qD (qs.getD b 0)):=aZ (jj (f:=qD) (d:=(0:Rat)) ⋯);apply⟨(),λj es O'=>O'=Oz/\es=(ik W qs Pd i++lf (W.getD i []) qs (Pd.take j) b).map qD/\j<=6,⟨(),?_,⋯⟩,λj es O' ⟨_,h2,h3⟩=>?_,?_,?_⟩
   .show _=(ik W qs Pd i++[]).map qD;rw[Yh]
   .rw[h2,Zb,Zt];let h4:=uM (W:=W) (qs:=qs) ZH i;let h5:=yY (row:=W.getD i []) (qs:=qs) (Pd:=Pd.take j) (b:=b);rw[Yy] at h5;omega
   .rintro j y es O' hy ⟨rfl,rfl,hj6⟩;let⟨hj,rfl⟩:=GB hy;let⟨p0,p1,p2⟩:=rp.pos (M3.subset (show Pd.getD j 0∈Pd by rw[ap (Zc hj)];exact Zw _));let wg:=mf.w0 i (Pd.getD j 0).toNat hi ⋯;let ra:fj ((W.getD i []).map PyData.int) (Pd.getD j 0)=some (.int ((W.getD i []).getD (Pd.getD j 0).toNat 0)):=aaW p0 ⋯;let qa:fj (qs.map qD) (Pd.getD j 0)=some (qD (qs.getD (Pd.getD j 0).toNat 0)):=by
     have:=aZ (jj (f:=qD) (d:=(0:Rat)) p1)
     rwa [Xe p0] at this
    let ts:=EU (row:=W.getD i []) (qs:=qs) (b:=b) hj;apply⟨_,ra,λhg=>?_,λhg=>⟨(),?_,⋯⟩⟩
    .let hg:0<(W.getD i []).getD (Pd.getD j 0).toNat 0:=of_decide_eq_true hg;let r1:=iL (row:=W.getD i []) wb (WK b ⋯) l7;let r2:=iL (row:=W.getD i []) wg (WK _ p1) p2;let TN:0<bR (W.getD i []) qs (Pd.getD j 0).toNat:=by unfold bR;exact div_pos (Y1.mpr hg) p2
     apply⟨_,ba,_,int_at ⋯,_,ba,_,qb,_,qs.getD b 0,(),⟨(WK b ⋯).mono ∅,l7,wb.1,wb.2⟩,_,ra,_,qa,_,qs.getD (Pd.getD j 0).toNat 0,(),⟨(WK _ p1).mono ∅,p2,wg.1,wg.2⟩,bR (W.getD i []) qs b,bR (W.getD i []) qs (Pd.getD j 0).toNat,(),⟨r1.mono ∅,r2.mono ∅,λz=>by rw[z] at TN;exact absurd TN ∅⟩,(),?_,⋯⟩;rw[ts,if_pos hg,<- Yr,Zs (l₁:=ik W qs Pd i++lf (W.getD i []) qs (Pd.take j) b)];rfl
    .let hg:¬ 0<(W.getD i []).getD (Pd.getD j 0).toNat 0:=of_decide_eq_false hg;rw[ts,if_neg hg,Yh]
   .rintro es O' ⟨rfl,rfl,_⟩;rw[Zb,Zb,Yf];exact⟨(),by rw[msu]⟩
  .rw[ec] at hc;rw[lI,hc,if_neg ∅,Yh]
 .rintro ds O' ⟨rfl,rfl⟩;rw[GF,Zb];exact h
def pH:FM:=λO xs P _=>∃(A:Γ3) (Pu:Δ1) (W:Γ1) (qs:Δ1),xs=[.im (eN A Pu W),.im (.tuple (qs.map qD))]/\cU A Pu W qs/\lc A Pu qs W A.length/\(∀Pd,bZ A Pu qs W A.length Pd->aM A.length W Pd=[]->P (.im .none) O) /\
 ∀Pd f,bZ A Pu qs W A.length Pd->aM A.length W Pd≠[]->jA (io A Pu qs W A.length Pd) f->P (.im (.tuple [aS Pd,qD f,.tuple ((db qs Pd f).map qD)])) O
abbrev N7:Δ2:=["market","prices","paid","rising","best","paying","meeting","factor"]
def Ly:MS:=(bu (bI (aG fPG cQ (af (ah 0) (af (ah 1) ay))) (bh 2))
 (bu (bI (jX oU (af (cN 1 [2] (cM (aG Dd cQ (af (ah 0) ay))) (bh 0) (dD (bA (Rx true) (ah 0) (ah 1))) (ah 0)) ay)) (bh 3))
 (bu (li (wu (AK (ah 3))) (cK (mC .none)) gj)
 (bu (bI (aG w8 cQ (af (ah 0) (af (ah 1) ay))) (bh 4))
 (bu (bI (aG yJ cQ (af (ah 0) (af (ah 1) (af (aG uk cQ (af (ah 4) (af (ah 2) ay))) (af (ah 3) ay))))) (bh 5))
 (bu (bI (aG rG cQ (af (ah 0) (af (ah 1) (af (aG uk cQ (af (ah 4) (af (ah 2) ay))) (af (ah 2) ay))))) (bh 6))
 (bu (bI (aG rH cQ (af (bA o6 (ah 5) (ah 6)) ay)) (bh 7))
 (cK (jq (af (ah 2) (af (ah 7) (af (aG yH cQ (af (ah 1) (af (ah 3) (af (ah 7) ay)))) ay))))))))))))
def IP:∀O xs Pq QX,pH O xs Pq QX->Ly { nx:=λ_ O'=>Pq (.im .none) O',rt:=Pq } (aY N7 xs) O:=by
 intro O xs Pq QX h;let⟨A,Pu,W,qs,rfl,rp,c8,hn,hf⟩:=h;let pr:=rp.pr;let mf:=sY pr.ok;let hl:=pr.len;let g6:=mf.g6;let n6:=mf.n6;let n1:=mf.n1;let wl:=mf.wl;apply⟨A,Pu,W,qs,(),pr,c8,λPd pd=>?_⟩;apply⟨A,Pu,W,(),g6,⋯,mf.wr,?_⟩;conv=>whnf
 apply jh (λj=>!Pd.contains ((tY A.length W).getD j 0)) (λj=>.int ((tY A.length W).getD j 0)) (by rw[Zb,Zb];have:=CD A.length W;exact Zl this ⋯) (λj x Z hx hZ=>?_) (λj x Z hx _ hZ=>?_) ?_
 .obtain⟨hj,rfl⟩:=GB hx;exact⟨Pd,(),hZ⟩
 .obtain⟨hj,rfl⟩:=GB hx;exact hZ
 rw[Zb,Zb,Gb (tY A.length W) (λx=>!Pd.contains x)];apply⟨(),?_⟩;show((!(!((aM A.length W Pd).map PyData.int).isEmpty))=true->_)/\((!(!((aM A.length W Pd).map PyData.int).isEmpty))=false->_);rw[Bool.not_not,Jc];apply⟨λe=>hn Pd pd (List.isEmpty_iff.mp e),λe=>?_⟩;let hrn:aM A.length W Pd≠[]:=λz=>by rw[z] at e;cases e
 let hbl:(ak W qs).length<=6:=by rw[G3];omega
 let WR:∀k,k<(ak W qs).length->((ak W qs).getD k []).length<=6:=λk hk=>by rw[G3] at hk;exact Zl (ox hk (mf.wr k hk)) g6
 let ZH:Pd.length<=6:=by have:=pd.sub.length_le;have:=CD A.length W;omega
 let hR:(aM A.length W Pd).Sublist (aw A.length W):=Zu;let WV:(aM A.length W Pd).length<=6:=by have:=hR.length_le;have:=CD A.length W;omega
 apply⟨A,Pu,W,qs,(),pr,⟨ak W qs,Pd,(),hbl,WR,A,Pu,W,qs,Pd,(),rp,pd.sub,⟨ak W qs,Pd,(),hbl,WR,A,Pu,W,qs,Pd,(),rp,pd.sub,?_⟩⟩⟩;let SS:=zY (A:=A) (Pu:=Pu) (qs:=qs) hrn;let hfb:=Fb rp pd.sub;let RC:=uM (W:=W) (qs:=qs) ZH W.length;apply⟨by
  rw[Zb,Zb,Zb,Qo,Rr,sz];have:2 ^ (aM A.length W Pd).length<=64:=Xa (n:=2) ∅ WV;omega,io A Pu qs W A.length Pd,by unfold io;rw[Zs],SS,hfb,λf Uu=>?_⟩
 apply⟨qs,aM A.length W Pd,f,(),⋯,λz hz=>(pr.bd z hz).mono ∅,hfb f Uu.1,abx,?_⟩;let er:(List.range qs.length).map (λg:Nat=>if (aM A.length W Pd).contains (g:Int)=true then qs.getD g 0*f else qs.getD g 0)=db qs Pd f:=by
  unfold db;apply Xc λg hg=>?_
  let hg:=Zi.mp hg;let hwm:((g:Int)∈aw A.length W)↔has W g=true:=by
   unfold aw az;rw[Zd];constructor
   .rintro⟨x,hx,e⟩;have:x=g:=⋯;rw[<- this];exact(Zg.mp hx).2
   .intro hh;exact⟨g,Zg.mpr ⟨Zi.mpr ⋯,hh⟩,()⟩
  by_cases hp:Pd.contains (g:Int)=true
  .let hr:¬ (aM A.length W Pd).contains (g:Int)=true:=λz=>by
    have:=(Zg.mp (Ya.mp z)).2;rw[hp] at this;cases this
   rw[if_pos hp,if_neg hr]
  .rw[if_neg hp];by_cases hh:has W g=true
   .let hr:(aM A.length W Pd).contains (g:Int)=true:=Ya.mpr (Zg.mpr ⟨hwm.mpr hh,by simpa using hp⟩);rw[if_pos hr]
   .let hq0:=pr.jC.nil g hg (by simpa using hh);rw[hq0,Xj];split<;>rfl
 rw[er];exact hf Pd f pd hrn Uu
end MI
namespace L2
open PySem.Spec PyProof.Rows KG
section
def AU (K:Θ1)(a:Addr):It :=
 ⟨λi H=>∃xs x,bG K H a xs/\xs[i]?=some x,λi H x H'=>∃p,H p=none/\x=.ref p/\∀xs,bG K H a xs->∃y,xs[i]?=some y/\H'=aK H p (.tup [.int i,y]),λi H=>∃xs,bG K H a xs/\xs.length<=i⟩
def xm {K:Θ1}(a e it:Addr)(MY:e≠it):Turn P w K (.Tuple tT kk pos) (AU K a) [e,it] e (λi h=>(∃old,IsEnum h e it (i:Nat) old)/\h.IsListIter it a i) where
 mem:=by simp
 obj:=λi h st b hb=>by
  let⟨⟨old,he⟩,o,e1,c,d⟩:=st;rcases Zj.mp hb with rfl |hb
  .exact⟨_,he,λv z=>by cases z⟩
  .obtain rfl:b=it:=by simpa using hb
   exact⟨o,e1,λv z=>by rw[d] at z;cases z⟩
 keep:=λi h h' st k=>by
  let⟨⟨old,he⟩,o,e1,c,d⟩:=st;exact⟨⟨old,k e (by simp) _ he⟩,o,k it (by simp) _ e1,c,d⟩
 item:=by
  intro X hP hw hK hc i ae s σ H E I hf st hg;subst hP hw hK;let⟨xs,x,hq,hx⟩:=hg;let⟨its,rv,p,hz⟩:=I.list hq;let⟨u,hu,ru⟩:=rv.get hx;let⟨⟨old,he⟩,fu⟩:=st;let pt:s.heap.IsList a its.toArray:=p.isList;let Z':e≠a:=λz=>by
   let⟨o,e1,c,_⟩:=pt;rw[<- z,he] at e1;cases e1;exact absurd (show Value.type "enumerate"=Value.type "list" from c) ∅
  let S0:a≠it:=λz=>by
   let⟨o,e1,c,_⟩:=pt;let⟨o',e2,c',_⟩:=id fu;rw[z,e2] at e1;cases e1;rw[c] at c';exact absurd c' ∅
  let cG:i<its.toArray.size:=by simpa using(Zf.mp hu).1
  let D:=Draws.list (prog:=X.prog) (w:=X.w) (A:=X.A.in1) (I.ok.hd hc) it a S0 its.toArray;apply wpAny_pyNext_enum_itemD D he ⟨fu,pt⟩ cG MY (by simp[MY,Z']) λy h' tk hP GO m4 ht hsz hk=>?_
  let hy:y=u:=by
   let hP:its.toArray[i]?=some y:=hP;rw[List.getElem?_toArray,hu] at hP;exact(Option.some.inj hP).symm
  subst hy;apply⟨_,(),?_⟩;apply wpAny_letOwnedTupleGo_enum GO λh2 B' oP=>?_
  replace oP:Heap.SameBut e h' h2:=oP
  let bD:s.heap.objs.size≠e:=Xv (Zr he);let I1:Inv X ae σ H { s with heap:=h2,toks:=tk+1 }:=I.iW (ch:=[e,it]) (λb o hb q=>by
   let b1:b≠e:=λz=>hb (by simp[z])
   let b2:b≠it:=λz=>hb (by simp[z])
   exact oP.extBut b o b1 (hk b o b1 b2 q)) hf
  let ML:=oP.extBut _ _ bD ht;let fp:eR X ae H s.heap.objs.size:=I.ju (Ze _) I.fresh;let I2:=I1.Dn (p:=s.heap.objs.size) (o:=.tup [.int i,x]) fp ⟨by show 2<=sizeLine;decide,[.int i tk,y],.cons ⟨tk,()⟩ (.cons ru .nil),⟨_,ML,(),_,()⟩⟩;apply⟨.ref s.heap.objs.size,_,I2,(),⟨_,I.fresh,(),λys hy=>by rw[I.uO hy hq];exact⟨x,hx,()⟩⟩,⟨⟨_,B'⟩,?_⟩,λb hb=>?_⟩
  .obtain⟨⟨o,e1,c,d⟩,_⟩:=m4;exact⟨o,oP.extBut _ _ (Ne.symm MY) e1,c,d⟩
  .rw[c7]
   .exact(hf b hb).1
   .rcases Zj.mp hb with rfl |hb
    .exact bD.symm
    .obtain rfl:b=it:=by simpa using hb
     let⟨o,e1,_⟩:=fu;exact Ye (Zr e1)
 done:=by
  intro X hP hw hK hc i ae s σ H E I hf st hg;subst hP hw hK;let⟨xs,hq,hx⟩:=hg;let⟨its,rv,p,hz⟩:=I.list hq;let⟨⟨old,he⟩,fu⟩:=st;let pt:s.heap.IsList a its.toArray:=p.isList;let S0:a≠it:=λz=>by
   let⟨o,e1,c,_⟩:=pt;let⟨o',e2,c',_⟩:=id fu;rw[z,e2] at e1;cases e1;rw[c] at c';exact absurd c' ∅
  let hl:=rv.length;let hT:s.TypeIs (.ref e) "enumerate":=⟨_,he,()⟩;unfold pyNext;apply Za (wpAny_attempt (wpAny_callSpecial?_slot (name:=Str.ofString "__next__") hT F.slot_enumerate_next
   (wpAny_call_entry F.slot_enumerate_next hT F.entry_enumerate_next ?_ (F.args_enumerate_next_1 _))))
  show wpAny _ _ (field (.ref e) 2 >>= _) _ _ _;apply Za (wpAny_field he rfl (x:=.ref it) rfl ?_);apply Za (wpAny_nextOf_list_end (A:=X.A.in1) (I.ok.hd hc) fu pt (by simp;omega) λh' ex F' vE=>?_);let⟨o,ho,sP⟩:=vE;apply Za (wpAny_isInstance (T:="StopIteration") (b:=true) ⟨o,ho,sP⟩ isSubtype_stop ?_);exact wpAny_pure ⟨(),I.iW (t':=s.toks) (ch:=[it]) (λb o hb q=>F' b o (λz=>hb (by simp[z])) q) (λb hb=>hf b (Zk _ hb))⟩
 self:=λA i s Q E st h=>by
  let⟨⟨old,he⟩,_⟩:=st;exact wpAny_pyIter_enum he h
def QI (K:Θ1)(ta:TA):TI:=λσ H R=>ta σ H λvs H1=>∃a,vs=[.ref a]/\(∃xs,bG K H1 a xs)/\R (AU K a) H1
def FO {K:Θ1}:(AU K a).Le (AU K0 a):=⟨λi H ⟨xs,x,h,e⟩=>⟨xs,x,h.k0,e⟩,λi H x H' ⟨p,e1,e2,h⟩=>⟨p,e1,e2,λxs hx=>h xs hx.k0⟩,λi H ⟨xs,h,e⟩=>⟨xs,h.k0,e⟩⟩
def Fn {p pos:Pos}(hg:Gl X "enumerate")(hm:X.mg "enumerate"=none)(hb:bootBuiltins "enumerate"=some (.type "enumerate"))(ha:PA X [a] ta)(hs:starEach [a] X.env=[(false,eval a X.env)]:=by rfl) :
  PI X (.Tuple tT kk qH) (.Call (.Name "enumerate" p) [a] [] pos) (QI K0 ta):=by
 intro ae s σ H R I h;apply Call_ (fZ I hg hm hb (PyProof.Rows.callWith_type1 (bM (ha pos ae s σ H _ I h) λus s1 ⟨vs,H1,I1,r1,t,e,⟨xs,hq⟩,q⟩=>?_) hs rfl));subst e;let⟨u,rfl,ru⟩:=vals1 r1;cases ru;let⟨its,rv,pl,hz⟩:=I1.list hq.k0;apply call_enumerate_list (show s1.heap.IsList t its.toArray from pl.isList) λh' he MV hsz hk=>wpAny_pyIter_enum he ?_
 apply⟨s1.heap.objs.size+1,[s1.heap.objs.size+1,s1.heap.objs.size],_,AU K0 t,H1,(),I1.kept (t':=s1.toks) hk,(xm (K:=X.K) t _ s1.heap.objs.size (Nat.succ_ne_self _)).le FO,⟨⟨_,he⟩,MV⟩,λb hb=>?_,q⟩;rcases Zj.mp hb with rfl |hb
 .exact I1.ju (Xx _) (I1.cb.fresh (Xx _))
 .obtain rfl:b=s1.heap.objs.size:=by simpa using hb
  exact I1.ju (Ze _) I1.fresh
def B4 (hc:X.calm=true):ca X (.builtin "min") (λxs H Q=>∃(p:Addr) (ns:Γ3),xs=[.ref p]/\(bG X.K H p (ns.map V.int)\/aQ X.K H p (ns.map V.int))/\ns≠[]/\∀m,m∈ns->(∀n∈ns,m<=n)->Q (.int m) H):=by
 intro ae s σ H xs us Q I r h;let⟨p,ns,rfl,hs,bD,q⟩:=h;let⟨u,rfl,ru⟩:=vals1 r;cases ru;apply call_min_walk (gy I (A:=X.A.in1) (I.ok.hd hc) hs λit fp wr its St s2 rv W st CO hk=>?_);let hl:its.length=ns.length:=by rw[<- rv.length,Zb]
 let d4:0<ns.length:=Xn.mpr bD;let val:∀(i:Nat) (v:Value),its[i]?=some v->∃t,v=Value.int ((ns[i]?).getD 0) t:=λi v hv=>by
  let⟨x,ex,rx⟩:=rv.at hv;rw[Zo] at ex;cases e:ns[i]? with
  |none=>rw[e] at ex;cases ex
  |some n =>
   rw[e] at ex;cases ex;exact rx
 apply⟨it,fp,wr,its.length,_,St,(λi j=>decide ((ns[i]?).getD 0<(ns[j]?).getD 0)),(),W,st,CO,⋯,CmpOf.ints_lt (λi=>(ns[i]?).getD 0) val,λv h' tk hP kk=>?_⟩;let⟨t,rfl⟩:=val _ _ hP;let⟨h1,h2⟩:=argBest_lt (λi=>(ns[i]?).getD 0) (its.length-1);let cG:argBest (λi j=>decide ((ns[i]?).getD 0<(ns[j]?).getD 0)) (its.length-1)<ns.length:=by
  omega
 apply⟨.int _,H,hk h' tk kk,⟨t,()⟩,q _ ?_ λn hn=>?_⟩
 .rw[Zc cG];exact Zw cG
 .obtain⟨i,hi,e⟩:=Qh.mp hn;have:=h2 i ⋯;simp only[Zc hi,X2] at this;rw[<- e];exact this
def Lh:List V->Hp->VK->Prop:=λxs H Q=>∃(p:Addr) (ns:Γ3),xs=[.ref p]/\(bG K0 H p (ns.map V.int)\/aQ K0 H p (ns.map V.int))/\ns≠[]/\∀m,m∈ns->(∀n∈ns,m<=n)->Q (.int m) H
def V8 (hc:X.calm=true):ca X (.builtin "min") Lh:=(B4 hc).imp λ_ _ _ ⟨p,ys,e,h,q⟩=>⟨p,ys,e,Sq.k0 h,q⟩
end
end L2
namespace MI
open L2 KG EX KM
section
def vj (t:cz (G w O H) (.ref a) (.list ds)):lV K (AU K0 a) w O H (cT ds):=λO2 w2 H2 e r i=>by
 cases cz.ar e.ar t with |lst h1 t1=>?_
 rename_i xs;let hh:=(eJ h1).1;unfold cT;apply⟨λx hx=>?_,λhl=>⟨xs,bG.of hh,by rw[t1.len];simpa using hl⟩⟩;let hi:i<ds.length:=by have:=(Zf.mp hx).1;simpa using this
 rw[Zo,Yq hi] at hx;cases Option.some.inj hx;let hd:ds[i]?=some (ds.getD i .none):=by rw[ap (Zc hi)];exact Zc hi
 let⟨v,hv,tv⟩:=t1.get hd;apply⟨⟨xs,v,bG.of hh,hv⟩,?_⟩;rintro v' H3 ⟨p,hp,rfl,hy⟩;let⟨y,KI,rfl⟩:=hy xs (bG.of hh);rw[hv] at KI;cases Option.some.inj KI;let⟨r4,e4,t4⟩:=eT r hp (.cons (.int (i:Int)) (.cons tv .nil));exact⟨e4,r4,t4⟩
def HE (Ms:MA):MA:=λsl O Q=>Ms sl O λxs O1=>match xs with
 |[.im (.list ds)]=>Q (cT ds) O1
 |_=>False
def oi (hg:Gl X "enumerate")(hm:X.mg "enumerate"=none)(hb:bootBuiltins "enumerate"=some (.type "enumerate"))(ha:PA X [a] (vz K QX E Ms))(hs:starEach [a] X.env=[(false,eval a X.env)]:=by rfl):PI X (.Tuple tT kk qH) (.Call (.Name "enumerate" p) [a] [] pos) (vy K QX E (HE Ms)):=PI.imp (Fn hg hm hb ha hs) λσ H R ⟨w,O,sl,Q0,c,m,q⟩=>⟨w,O,sl,_,c,m,λxs O1 vs w1 H1 h1 e1 r1 a1=>by
 split at h1
 .obtain⟨v,us,rfl,h3,h4⟩:=a1.bv;rw[h4.cD];let⟨a,Rc,rfl,g1,t1⟩:=il h3;exact⟨a,(),⟨Rc,bG.of g1⟩,q _ O1 w1 H1 _ h1 e1 r1 (vj h3)⟩
 .exact h1.elim⟩
def NE:Cq:=tK λds P=>∃ns:Γ3,ds=ns.map .int/\ns≠[]/\∀m,m∈ns->(∀n∈ns,m<=n)->P (.int m)
def P7:CU K Lh NE:=λw O H vs xs P Q r a hf q=>by
 unfold NE tK at hf;split at hf
 .split at hf
  .rename_i ds hd;let⟨v,us,rfl,h1,h2⟩:=a.bv;rw[h2.cD];let⟨p,mo,rfl,hs,t1⟩:=iZ hd h1;let⟨ns,rfl,bD,h⟩:=hf;rw[iJ t1] at hs;exact⟨p,ns,(),hs,bD,λm h3 h4=>q _ _ O w H (h m h3 h4) (cx.refl _ _ _) r (.int _)⟩
  .exact hf.elim
 .exact hf.elim
end
end MI
namespace L2
open PySem.Spec PyProof.Rows EX
end L2
namespace MI
open L2 KG EX KM
def jr (ps:List (Int×PyData))(k:Int):Bool:=ps.any λp=>decide (p.1=k)
def pG (ps:List (Int×PyData))(k:Int):Option PyData:=(ps.find? λp=>decide (p.1=k)).map (·.2)
def putD (ps:List (Int×PyData))(k:Int)(d:PyData):List (Int×PyData):=if jr ps k=true then ps.map (λp=>if p.1=k then (p.1,d) else p) else ps++[(k,d)]
def Ae (h:sR g kvs (ps.map pairD))(k:Int):(et kvs (Sum.inl k)=none/\pG ps k=none/\jr ps k=false)\/∃v d,et kvs (Sum.inl k)=some v/\pG ps k=some d/\jr ps k=true/\cz g v d:=by
 induction ps generalizing kvs with
 |nil=>cases h;exact .inl ⟨(),(),()⟩
 |cons p ps ih =>
  generalize hc:(p::ps).map pairD=c at h;cases h with
  |nil=>cases hc
  |@cons n v d NK c' t h' =>
   rw[Zm] at hc;injection hc with h1 h2
   subst h2;let⟨pn,pd⟩:=p;unfold pairD at h1;let e1:pn=n:=by injection h1 with h1;injection h1 with h1;injection h1 with h1 h2;injection h1
   let e2:pd=d:=by injection h1 with h1;injection h1 with h1;injection h1 with h1 h2;injection h2
   subst e1;subst e2;by_cases e:pn=k
   .subst e;apply .inr ⟨v,pd,gv rfl,?_,?_,t⟩
    .simp[pG]
    .simp[jr]
   .let a1:et ((Sum.inl pn,v)::NK) (Sum.inl k)=et NK (Sum.inl k):=gw (λz=>e (by injection z));let a2:pG ((pn,pd)::ps) k=pG ps k:=by simp[pG,X8,e]
    let a3:jr ((pn,pd)::ps) k=jr ps k:=by simp[jr,e]
    rw[a1,a2,a3];exact ih h'
def Ac (h:sR g kvs c):kvs.length=c.length:=by
 induction h with
 |nil=>rfl
 |cons _ _ ih=>simp[ih]
def Gg (h:sR g kvs c)(t:cz g v d):sR g (kvs++[(Sum.inl n,v)]) (c++[pairD (n,d)]):=by
 induction h with
 |nil=>exact .cons t .nil
 |cons t' _ ih=>exact .cons t' ih
def Aa (h:sR g kvs (ps.map pairD))(t:cz g v d):sR g (dv kvs (Sum.inl k) v) ((putD ps k d).map pairD):=by
 rcases Ae h k with ⟨h1,_,h3⟩ |⟨v0,d0,h1,ZR,h3,_⟩
 .rw[n9 v h1];unfold putD;rw[h3,if_neg ∅,Zs];exact Gg h t
 .unfold putD dv;let h4:(kvs.any λkv=>decide (kv.1=(Sum.inl k:dZ)))=true:=by rw[iK,h1];rfl
  rw[h3,if_pos rfl,h4,if_pos rfl]
  clear h1 h3 h4 ZR
  induction ps generalizing kvs with
  |nil=>cases h;exact .nil
  |cons p ps ih =>
   generalize hc:(p::ps).map pairD=c at h;cases h with
   |nil=>cases hc
   |@cons n w e NK c' t' h' =>
    rw[Zm] at hc;injection hc with h1 h2
    subst h2;let⟨pn,pd⟩:=p;unfold pairD at h1;let e1:pn=n:=by injection h1 with h1;injection h1 with h1;injection h1 with h1 h2;injection h1
    let e2:pd=e:=by injection h1 with h1;injection h1 with h1;injection h1 with h1 h2;injection h2
    subst e1;subst e2;rw[Zm,Zm,Zm];let MH:=ih h';by_cases z:pn=k
    .subst z;rw[if_pos rfl,if_pos rfl];exact .cons t MH
    .rw[if_neg z,if_neg (λy=>z (by injection y))];exact .cons t' MH
section
structure CBD (n:Nat)(ix:List Nat)(mg:MG)(C:MT)(Mk Mv:ME)(sl:j9)(Q:AV->bE->Prop)(items:List AV)(O1:bE):Prop where
 len:items.length<=1000000
 ex:∃Iv:Nat->List (Int×PyData)->bE->Prop,Iv 0 [] O1 /\
 (∀i x ps O',items[i]?=some x->Iv i ps O'->mg x (dh n ix sl) O' λcr O2=>C cr O2 λc O3=>(c=true->Mk cr O3 λy O4=>Mv cr O4 λz O5=>match y,z with
   |.im (.int k),.im d=>Iv (i+1) (putD ps k d) O5
   |_,_=>False)/\(c=false->Iv (i+1) ps O3))/\∀ps O',Iv items.length ps O'->Q (.vI O'.length) (O'++[some (ps.map pairD)])
def wT (n:Nat)(ix:List Nat)(it:MA)(mg:MG)(C:MT)(Mk Mv:ME):ME:=λsl O Q=>it sl O (CBD n ix mg C Mk Mv sl Q)
def Ff (ps:List (Int×PyData))(k:Int)(d:PyData):(putD ps k d).length<=ps.length+1:=by
 unfold putD
 grind
def xI {Mk Mv:ME}(hk:Keeps n mg):∀σ H Q,bO K QX E (wT n ix it mg C Mk Mv) σ H Q->wF (vy K QX E it) (oR K QX E mg) (ir K QX E C) (bO K QX E Mk) (bO K QX E Mv) n ix σ H Q :=
 λσ H Q ⟨w,O,sl,Q0,c,m,q⟩=>⟨w,O,sl,_,c,m,λitems O1 w1 H1 J h1 e1 r1 CK acc bU=>by
  let⟨hl,Iv,h0,hs,he⟩:=h1;let hC:=c.ex e1.ex r1;let⟨r0,e0⟩:=hC.ro.hide (o:=.dK []) bU (λxs z=>by cases z);apply⟨λi m aR H'=>m=items.length-i/\i<=items.length/\∃w' O' ys zs,aB K w' O' H'/\w'.bL=(acc,.dK ys)::w1.bL/\iU w1 O1 H1 w' O' H'/\bC K w' (G w' O' H') aR (dh n ix sl)/\sR (G w' O' H') ys (zs.map pairD)/\zs.length<=i/\Iv i zs O',
   ⟨items.length,by simp,Yb _,_,O1,[],[],r0,(),e0,(hC.so.RU n ix).ex e0,.nil,Ze _,h0⟩,?_⟩
  rintro i m aR H' ⟨rfl,He,w',O',ys,zs,r',tq,e',s',a',hz',hv⟩;let⟨ig,ie⟩:=CK O' w' H' e' r' i;rcases Z3 i items.length with y |y
  .obtain⟨Hg,Ha⟩:=ig _ (Zc y);apply .inr ⟨Hg,λcA H2=>∃w' O' ys zs,aB K w' O' H2/\w'.bL=(acc,.dK ys)::w1.bL/\iU w1 O1 H1 w' O' H2/\bC K w' (G w' O' H2) cA (dh n ix sl)/\sR (G w' O' H2) ys (zs.map pairD)/\zs.length<=i+1/\Iv (i+1) zs O',λcA H2 z=>⟨items.length-(i+1),⋯,(),y,z⟩,λv H3 Hb=>?_⟩;let⟨e3,r3,a3⟩:=Ha v H3 Hb;let M8:j5 K QX E w' O' H3 aR (dh n ix sl):=⟨r3,s'.ex e3.ex,λk Nb Mj Nd qx M6 Mp=>hC.zx k Nb Mj Nd qx ((e'.trans e3.ex).trans M6) Mp⟩;apply⟨w',O',_,_,_,M8,a3,hk _ _ _ _ (hs i _ zs O' (Zc y) hv),λoS O4 w4 H4 Wg h4 c4 e4=>⟨w4,O4,oS,_,c4,h4.1,λb O5 w5 H5 h5 e5 r5=>?_⟩⟩;let qE:=e3.trans (e4.trans e5);cases b with
   |false=>exact cP ⟨w5,O5,ys,zs,r5,qE.bL.trans tq,e'.trans qE.ex,bC.sub (c4.so.ex e5.ex) h4.2,a'.ar qE.ex.ar,⋯,h5.2 rfl⟩
   |true =>
    apply cL ⟨w5,O5,oS,_,c4.ex e5.ex r5,h5.1 rfl,λz O6 v6 w6 H6 h6 e6 r6 a6=>⟨w6,O6,oS,_,(c4.ex e5.ex r5).ex e6.ex r6,h6,λz7 O7 v7 w7 H7 h7 e7 r7 a7=>?_⟩⟩;split at h7
    .rename_i k d;let τ:=(qE.trans e6).trans e7;let RF:w7.bL=(acc,.dK ys)::w1.bL:=τ.bL.trans tq;let⟨n1,n2,n3,n4⟩:=r7.nh (acc,.dK ys) (by rw[RF];exact Zh);let⟨r8,s8⟩:=r7.rf (o':=.dK (dv ys (Sum.inl k) v7)) RF (λxs z=>by cases z);let W1:=e'.trans τ.ex;let WF:=Ff zs k d;let kv:v6=kV (Sum.inl k):=iu a6;apply⟨ys,Sum.inl k,n3,kv,by rw[Ac a',Zb,sz];omega,{ w7 with bL:=(acc,.dK (dv ys (Sum.inl k) v7))::w1.bL },O7,_,putD zs k d,r8,rfl,⟨W1.bs,W1.bK,⟨[(acc,.dK (dv ys (Sum.inl k) v7))],rfl⟩,W1.ar.trans s8,W1.dk⟩,?_,?_,⋯,h7⟩
     .exact bC.gi rfl rfl s8 (bC.sub (((c4.so.ex e5.ex).ex e6.ex).ex e7.ex) h4.2)
     .exact(Aa (a'.ar τ.ex.ar) a7).ar s8
    .exact h7.elim
  .let ei:i=items.length:=⋯;subst ei;apply .inl ⟨ie (Ze _),?_⟩;let⟨r2,s2,tD⟩:=r'.Ix tq a';apply q _ _ _ { w' with bL:=w1.bL,bK:=w'.bK++[acc],iw:=O'.length::w'.iw } _ (he zs O' hv) ⟨e1.ex.trans ⟨e'.bs,?_,⟨[],rfl⟩,e'.ar.trans s2,λk hk=>?_⟩,e1.bL⟩ r2 ⟨acc,tD,Zh,rfl⟩
   .obtain⟨t,ht⟩:=e'.bK;exact⟨t++[acc],by show w'.bK++[acc]=_;rw[ht,Yr]⟩
   .apply Iff.trans ⟨λz=>?_,λz=>Zk _ z⟩ (e'.dk k hk);rcases Zj.mp z with y |y
    .obtain⟨t,ht⟩:=e'.bK;have:=r'.len;rw[ht,Zt] at this;omega
    .exact y⟩
section
variable {Mk Mv:ME}
end
def Uk (neg:Bool)(Mk Md:ME):MT:=λsl O Q=>Mk sl O λy O1=>Md sl O1 λx O2=>match y,x with
 |.im (.int k),.vI j=>∃ps,O2[j]?=some (some (ps.map pairD))/\Q (if neg then !jr ps k else jr ps k) O2
 |_,_=>False
def BC {Mk Md:ME}(hu:X.A.units+1<cLine)(hi:PE X i (bO K QX E Mk))(ho:PE X o (bO K QX E Md))(hm:behindInMarks .NotIn o=false:=by rfl):PT X (.Compare i [.NotIn] [o] pos) (ir K QX E (Uk true Mk Md)) :=
 PT.imp (OV (Bp hu hi ho) hm) λσ H Q ⟨w,O,sl,Q0,c,m,q⟩=>⟨w,O,sl,_,c,m,λy O1 v1 w1 H1 h1 e1 r1 a1=>⟨w1,O1,sl,_,c.ex e1.ex r1,h1,λx O2 v2 w2 H2 h2 e2 r2 a2=>by
  split at h2
  .rename_i k j;let⟨ps,hp,h2⟩:=h2;let⟨a,ha,hd,rfl⟩:=a2;let⟨a',kvs,h3,h4,h5⟩:=r2.UK hd hp;rw[ha] at h3;cases Option.some.inj h3;let kv:v1=kV (Sum.inl k):=iu (a1.ex e2.ex);subst kv;apply⟨a,_,(),tX.k h4,_,(),?_⟩;let e:(et kvs (Sum.inl k)).isSome=jr ps k:=by
    rcases Ae h5 k with ⟨z1,_,z3⟩ |⟨_,_,z1,_,z3,_⟩<;>rw[z1,z3]<;>rfl
   rw[e];exact q _ O2 w2 H2 h2 (e1.trans e2) r2
  .exact h2.elim⟩⟩
def LG (Md Mk Mv:ME):MS:=λD sl O=>Mv sl O λv O1=>Md sl O1 λx O2=>Mk sl O2 λy O3=>match v,x,y with
 |.im d,.vI j,.im (.int k)=>∃ps,O3[j]?=some (some (ps.map pairD))/\ps.length<1000000/\D.nx sl (O3.set j (some ((putD ps k d).map pairD)))
 |_,_,_=>False
def JW {Mk Md Mv:ME}(hu:X.A.units+1<cLine)(ho:PE X o (bO K QX E Md))(hi:PE X i (bO K QX E Mk))(hv:PE X e (bO K QX E Mv))(hs:swapsWith e (some (.Subscript o i lh)) pos.line X.env=pure false:=by rfl) :
  PS X (.Assign [.Subscript o i lh] e pos) (jB K QX E (LG Md Mk Mv)):=PS.imp (Jk hu ho hi hv hs) λD σ H ⟨w,O,sl,D0,c,m,hn,hb,hc,hr⟩ =>
 ⟨w,O,sl,_,c,m,λv O1 v1 w1 H1 h1 e1 r1 a1=>⟨w1,O1,sl,_,c.ex e1.ex r1,h1,λx O2 v2 w2 H2 h2 e2 r2 a2=>⟨w2,O2,sl,_,(c.ex e1.ex r1).ex e2.ex r2,h2,λy O3 v3 w3 H3 h3 e3 r3 a3=>by
  split at h3
  .rename_i d j k;let⟨ps,hp,dg,h3⟩:=h3;let⟨a,ha,hd,rfl⟩:=a2.ex e3.ex;let⟨a',kvs,h4,h5,h6⟩:=r3.UK hd hp;rw[ha] at h4;cases Option.some.inj h4;let kv:v3=kV (Sum.inl k):=iu a3;subst kv;let t:cz (G w3 O3 H3) v1 d:=(a1.ex e2.ex).ex e3.ex;let⟨r4,e4⟩:=r3.putD hp hd ha h5 (Aa (k:=k) h6 t);let e14:=((e1.trans e2).trans e3).trans e4;exact⟨a,_,(),Dl.k h5 (by rw[Ac h6,Zb,sz];omega),hn sl _ w3 _ σ h3 (c.ex e14.ex r4) e14⟩
  .exact h3.elim⟩⟩⟩
def BS:UR X (HB K0):=by
 intro ae s σ H x y v u Q I rx ry h;let⟨p,xs,i,z,rfl,rfl,hq,he,q⟩:=h;cases rx;let⟨t,rfl⟩:=ry;let⟨its,r,pl,hz⟩:=I.list hq.k0;let⟨j,h1,h2,h3,h4,h5⟩:=L2.aZ he;let⟨w,ew,Au⟩:=r.get h2;let hl:=r.length;let hn:=jN;let jk:EP X ae σ Q w s:=⟨z,H,I,Au,q⟩;by_cases h0:0<=i
 .let hj:i.toNat=j:=by
   rw[seqIndex_of h0 h5] at h1;exact Option.some.inj h1
  exact wpAny_getItem_list pl.isList h0 ⋯ (by rw[hj];simpa using ew) jk
 .let hj:(i+(its.toArray.size:Int)).toNat=j:=by
   rw[seqIndex_neg ⋯ h4] at h1;rw[Z8,<- hl];exact Option.some.inj h1
  exact wpAny_getItem_list_neg pl.isList ⋯ (by rw[Z8]<;>omega) ⋯ (by rw[hj];simpa using ew) jk
def wE (g:Int->Int->Int):tG:=λO x y P=>match x,y with
 |.im (.int i),.im (.int j)=>P (.im (.int (g i j))) O
 |_,_=>False
def nR:sQ K (YS g) (wE g):=λw O H v u x y P Q r a b hf q=>by
 unfold wE at hf;split at hf
 .exact⟨_,_,iu a,iu b,q _ _ O w H hf (cx.refl _ _ _) r (.int _)⟩
 .exact hf.elim
def DC (i:Nat)(f:tG)(M:ME):MS:=λD sl O=>∃x,sl[i]?=some (some x)/\M sl O λy O1=>f O1 x y λz O2=>D.nx (sl.set i (some z)) O2
def zF (hN:X.N.Nodup)(hi:X.N[i]?=some x)(hx:Loc X.env.scope x)(hp:RV X op ti)(lk:sQ K ti f)(he:PE X e (bO K QX E M))(hf:X.fn x=true\/X.env.scope.names.lookup x=some .local:=by first |exact .inl rfl |exact .inr rfl |assumption) :
  PS X (.AugAssign (.Name x lh) op e pos) (jB K QX E (DC i f M)):=PS.imp (OW hN hi hx he hp hf) λD σ H h9=>by
 let⟨w,O,sl,D0,c,⟨x,hx,m⟩,hn,hb,hc,hr⟩:=h9;let⟨v,hv,a⟩:=c.so.2 i x hx;apply⟨v,hv,w,O,sl,_,c,m,λy O1 v1 w1 H1 h1 e1 r1 a1=>lk w1 O1 H1 v v1 x y _ _ r1 (a.ex e1.ex) a1 h1 λz z' O3 w3 H3 h3 e3 r3 a3=>?_⟩;exact hn _ O3 w3 H3 _ h3 ((c.ex (e1.trans e3).ex r3).put a3 i) (e1.trans e3)
def yB (Mo Mi:ME)(f:tG)(M:ME):MS:=λD sl O=>Mo sl O λo O1=>Mi sl O1 λi O2=>match o,i with
 |.own k,.im (.int i)=>∃c x j,O2[k]?=some (some c)/\fj c i=some x/\vS c.length i=some j/\M sl O2 λy O3=>f O3 x y λz O4=>∃c',O4[k]?=some (some c')/\c'.length=c.length/\D.nx sl (O4.set k (some (c'.set j z)))
 |_,_=>False
def rZ (ho:PE X o (bO K QX E Mo))(hi:PE X i (bO K QX E Mi))(hp:RV X op ti)(lk:sQ K ti f)(he:PE X e (bO K QX E M))
  (ha:∀ov iv new,augStore i ov iv new=(do holding [new,ov,iv] (setItem ov iv new);release [new,ov,iv] [];pure .next):=by intros;rfl):PS X (.AugAssign (.Subscript o i qH) op e pos) (jB K QX E (yB Mo Mi f M)) :=
 PS.imp (Jl ho hi BS he hp kJ ha) λD σ H h9=>by let⟨w,O,sl,D0,c,m,hn,hb,hc,hr⟩:=h9;exact⟨w,O,sl,_,c,m,λo' O1 v1 w1 H1 h1 e1 r1 a1=>⟨w1,O1,sl,_,c.ex e1.ex r1,h1,λi' O2 v2 w2 H2 h2 e2 r2 a2=>by
  split at h2
  .obtain⟨c0,x,j,WQ,hx,hj,h2⟩:=h2;let M5:=e1.trans e2;let⟨p,KN,tu,rfl⟩:=a1.ex e2.ex;let⟨p1,us,q0,g1,t1⟩:=r2.qU tu WQ;rw[KN] at q0;cases Option.some.inj q0;let⟨z,hz,tz⟩:=EM t1 hx;apply⟨p,us,_,z,(),iu a2,bG.of g1,hz,w2,O2,sl,_,c.ex M5.ex r2,h2,λy O3 v3 w3 H3 h3 e3 r3 a3=>lk w3 O3 H3 z v3 x y _ _ r3 (tz.ex e3.ex) a3 h3 λz4 x4 O4 w4 H4 h4 e4 r4 a4=>?_⟩;let⟨c',sP,hl',h4⟩:=h4;let SH:=e4.ex.at (e3.ex.at KN);let UA:_∉w4.iw:=λz=>tu (((e3.trans e4).ex.dk _ (Zf.mp KN).1).mp z)
   let⟨p2,mo,q0,g2,t2⟩:=r4.qU UA sP;rw[SH] at q0;cases Option.some.inj q0;let⟨r5,e5⟩:=r4.put sP UA SH g2 (t2.set a4 j);let e15:=((M5.trans e3).trans e4).trans e5;exact⟨p,mo,_,j,(),iu a2,g2,by rw[t2.1,hl'];exact hj,hn sl _ w4 _ σ h4 (c.ex e15.ex r5) e15⟩
  .exact h2.elim⟩⟩
end
end MI
namespace L2
open PySem.Spec PyProof.Rows
section
variable {tk tv:TE}
def Fh (hN:X.N.Nodup)(Hf:X.N[i]?=some y)(hx:X.env.scope.names.lookup y=some .local)(B:aL X scope own cap ix)(hc:X.calm=true)(hi:PI X tg iter wi)
  (hb:∀C fp s H,PG (cO X scope C (own++cap) fp s H) tg g/\dH (cO X scope C (own++cap) fp s H) eG tt/\PE (cO X scope C (own++cap) fp s H) kx tk/\PE (cO X scope C (own++cap) fp s H) vx tv)
  (CL:swapsWith (.DictComp kx vx [⟨tg,iter,eG,0⟩] scope pos) (some (.Name y py)) qI.line X.env=pure true:=by rfl)
  (hs:∀x,foldedSetIterable iter X.env x=pure x:=by intro _;rfl):PS X (.Assign [.Name y py] (.DictComp kx vx [⟨tg,iter,eG,0⟩] scope pos) qI) (CZ (wF wi g tt tk tv own.length ix) (eZ i)):=by
 intro ae s σ H D I h;rw[exec_Assign_Name_used _ _ _ _ CL];let has:∀x∈scope.names,x.2=.free->(X.env.cells.lookup x.1).isSome=true:=λx hx hk=>by
  let⟨c,e⟩:=I.ok.has x.1 (B.frees x hx hk);rw[e];rfl
 apply Za (wpAny_standAt (Za ?_));show wpAny _ X.A (do let _ <- comprehension (.DictComp kx vx [⟨tg,iter,eG,0⟩] scope pos) scope X.env _ newDict false (eval iter X.env) (some (assign (.Name y py) X.env))) _ _ s;apply Za (wpAny_mono (wpAny_comprehension_free (use:=some (assign (.Name y py) X.env)) (Q:=λ_ s'=>SP X ae D .next s') rfl hs (Rv has) B.kind B.names ?_) (λ_ s' hq=>wpAny_pure (wpAny_pure hq)) λ_ _ e=>e);apply bM (hi ae s σ H _ I h) λv s1 h1=>bM h1 λG8 s2 h2=>?_
 let⟨it,fp,tn,J,H2,e,I2,T,fu,f2,q⟩:=h2;subst e;apply oK (RR:=λacc C=>compPost (model X.prog X.w) X.A X.xe (some (assign (.Name y py) X.env)) (λ_ s'=>SP X ae D .next s') acc C) B hc hb I2 T fu f2 q ?_;intro Da C H' s' m I' q' hn fC;show wpAny _ X.A (assign (.Name y py) X.env (.ref Da)) _ _ s';let⟨oC,es,ep,ZN,SV,r⟩:=id hn;let Ip:Inv X (ae++[(C,oC)]) σ H' s':=I'.mF λp hp=>by
  rcases Zv.mp hp with z |z
  .exact I'.pin p (Yn _ z)
  .obtain rfl:p=(C,oC):=by simpa using z
   exact⟨ZN,fC.1,fC.2.1,fC.2.2.1,λv e=>by rw[SV] at e;cases e⟩
 apply wpAny_assign_Name (fe Ip hN Hf (.inl hx) (v:=.ref Da) rfl (λMn Tg=>?_) (.inr hx));let pC:=(Tg.pin (C,oC) (Yn _ (Yn _ (by simp)))).1;apply⟨m,⟨oC,es,ep,pC,SV,r⟩,λh' tf=>⟨_,H',?_,q'⟩⟩;exact Tg.gx.turned (t':=Mn.toks) (it:=C) (λb o CP e=>(tf.2 b CP).trans e) fC.1 fC.2.1 fC.2.2.2.1 fC.2.2.2.2.1 fC.2.2.2.2.2
end
end L2
namespace MI
open L2 KG EX KM
section
variable {Mk Mv:ME}
def FH (hN:X.N.Nodup)(Hf:X.N[i]?=some y)(hx:X.env.scope.names.lookup y=some .local)(B:aL X scope own cap ix)(hc:X.calm=true)(hi:PI X tg iter (vy K QX E it))(hk:Keeps own.length mg)
  (hb:∀C' fp s H,PG (cO X scope C' (own++cap) fp s H) tg (oR K QX E mg)/\dH (cO X scope C' (own++cap) fp s H) eG (ir K QX E C)/\PE (cO X scope C' (own++cap) fp s H) kx (bO K QX E Mk)/\PE (cO X scope C' (own++cap) fp s H) vx (bO K QX E Mv))
  (CL:swapsWith (.DictComp kx vx [⟨tg,iter,eG,0⟩] scope pos) (some (.Name y py)) qI.line X.env=pure true:=by rfl)
  (hs:∀x,foldedSetIterable iter X.env x=pure x:=by intro _;rfl):PS X (.Assign [.Name y py] (.DictComp kx vx [⟨tg,iter,eG,0⟩] scope pos) qI) (jB K QX E (bI (wT own.length ix it mg C Mk Mv) (bh i))):=PS.imp (Fh hN Hf hx B hc hi hb CL hs) (iN (xI hk) kI)
end
def xK (ha:a<n)(hb:b<n)(hc:c<n):nU n (aE (bh a) (aE (kZ 2 (aE (bh b) (aE (bh c) bY))) bY)):=λx sl O Q q=>by
 match x,q with
 |[x1,x2],q =>
  let q:kZ 2 (aE (bh b) (aE (bh c) bY)) x2 (sl.set a (some x1)) O λd6 O'=>bY [] d6 O' Q:=q
  show kZ 2 (aE (bh b) (aE (bh c) bY)) x2 (sl.set a (some x1)) O λd6 O'=>bY [] d6 O' λcr O2=>Q cr O2/\Sub n sl cr
  unfold kZ at q ⊢;split
  .rename_i ds hd;rw[hd] at q
   match ds,q with
   |[d1,d2],⟨_,q⟩ =>
    apply⟨(),q,by simp,λj hj=>?_⟩;rw[Z7 ⋯,Z7 ⋯,Z7 ⋯]
  .rename_i hd;rw[hd] at q;exact q
 |[],q=>exact q
 |[_],q=>exact q
 |x1::x2::x3::r,q =>
  let q:kZ 2 (aE (bh b) (aE (bh c) bY)) x2 (sl.set a (some x1)) O λd6 O'=>bY (x3::r) d6 O' Q:=q
  exact q
end MI
namespace SP
def sm:Nat->(Nat->Int)->Int
 |0,_=>0
 |n+1,f=>sm n f+f n
theorem GG:∀{n:Nat},(∀i,i<n->f i=g i)->sm n f=sm n g
 |0,_=>rfl
 |n+1,h=>by unfold sm;rw[GG (n:=n) λi hi=>h i ⋯,h n ⋯]
theorem pD:∀{n:Nat},(∀i,i<n->f i<=g i)->sm n f<=sm n g
 |0,_=>Y5 _
 |n+1,h=>by
  unfold sm;let h1:=pD (n:=n) λi hi=>h i ⋯
  let h2:=h n ⋯;omega
theorem K6:∀{n k:Nat},k<n->f k<g k->(∀i,i<n->f i<=g i)->sm n f<sm n g
 |0,_,hk,_,_=>absurd hk ⋯
 |n+1,k,hk,cG,h=>by
  unfold sm;let h2:=h n ⋯;by_cases e:k=n
  .subst e;let h1:=pD (n:=k) λi hi=>h i ⋯
   omega
  .let h1:=K6 (n:=n) (k:=k) ⋯ cG λi hi=>h i ⋯
   omega
theorem nH (f g:Nat->Int):∀n,sm n (λi=>f i+g i)=sm n f+sm n g
 |0=>rfl
 |n+1=>by
  show sm n (λi=>f i+g i)+(f n+g n)=(sm n f+f n)+(sm n g+g n);rw[nH f g n];omega
theorem eS:∀{n:Nat},(∀i,i<n->f i=0)->sm n f=0
 |0,_=>rfl
 |n+1,h=>by unfold sm;rw[eS (n:=n) λi hi=>h i ⋯,h n ⋯];rfl
def Vg {f:Nat->Int}{n:Nat}(h:∀i,i<n->0<=f i):0<=sm n f:=by
 have:=pD (f:=λ_=>0) (g:=f) h
 rwa [eS λ_ _=>rfl] at this
theorem rd (k:Nat)(d:Int):∀n,sm n (λi=>if i=k then d else 0)=if k<n then d else 0
 |0=>by simp[sm]
 |n+1=>by
  unfold sm;rw[rd k d n];by_cases e:n=k
  .subst e;simp
  .have:(k<n+1)↔k<n:=⋯;simp[e,this]
theorem rP (f:Nat->Nat->Int)(m:Nat):∀n,sm n (λi=>sm m (λj=>f i j))=sm m (λj=>sm n (λi=>f i j))
 |0=>by show(0:Int)=_;exact(eS λ_ _=>rfl).symm
 |n+1=>by
  show sm n (λi=>sm m (λj=>f i j))+sm m (λj=>f n j)=sm m (λj=>sm n (λi=>f i j)+f n j);rw[nH,rP f m n]
def lE (h:∀i,i<n->0<=f i)(hk:k<n):f k<=sm n f:=by
 have:=pD (n:=n) (f:=λi=>if i=k then f k else 0) (g:=f) λi hi=>by
  show(if i=k then f k else 0)<=f i;split
  .rename_i e;subst e;exact Y5 _
  .exact h i hi
 rw[rd,if_pos hk] at this;exact this
def xr (h:∀i,i<n->0<=f i)(e:sm n f=0):∀i,i<n->f i=0:=λi hi=>by
 let h1:=lE h hi;let h2:=h i hi;omega
def en (M:Γ1)(i j:Nat):Int:=(M.getD i []).getD j 0
def fM (M:Γ1)(i j:Nat)(d:Int):Γ1:=M.set i ((M.getD i []).set j (en M i j+d))
structure yh (M:Γ1)(n g:Nat):Prop where
 len:M.length=n
 row:∀i,i<n->(M.getD i []).length=g
def iP {α : Type}(l:List α)(i j:Nat)(x d:α)(hi:i<l.length):(l.set i x).getD j d=if j=i then x else l.getD j d:=by
 by_cases e:i=j
 .subst e;simp[List.getD,Yg hi]
 .let e':¬ j=i:=λz=>e z.symm
  simp[List.getD,Z7 e,e']
def mR (s:yh M n g)(hi:i<n)(hj:j<g)(d:Int)(a b:Nat):en (fM M i j d) a b=en M a b+(if a=i then (if b=j then d else 0) else 0):=by
 unfold fM;let h1:i<M.length:=by rw[s.len];exact hi
 let h2:j<(M.getD i []).length:=by rw[s.row i hi];exact hj
 show((M.set i _).getD a []).getD b 0=_;rw[iP _ _ _ _ _ h1];by_cases e:a=i
 .subst e;rw[if_pos rfl,if_pos rfl,iP _ _ _ _ _ h2];by_cases e2:b=j
  .subst e2;rw[if_pos rfl,if_pos rfl]
  .rw[if_neg e2,if_neg e2,Int.add_zero];rfl
 .rw[if_neg e,if_neg e,Int.add_zero];rfl
def iY (s:yh M n g)(hi:i<n)(d:Int):yh (fM M i j d) n g:=by
 let h1:i<M.length:=by rw[s.len];exact hi
 apply⟨by unfold fM;rw[Yp];exact s.len,λa ha=>?_⟩;unfold fM;rw[iP _ _ _ _ _ h1];split
 .rw[Yp];exact s.row i hi
 .exact s.row a ha
def eW (M:Γ1)(g i:Nat):Int:=sm g λj=>en M i j
def oZ (M:Γ1)(n j:Nat):Int:=sm n λi=>en M i j
def zh (s:yh M n g)(hi:i<n)(hj:j<g)(d:Int)(a:Nat):eW (fM M i j d) g a=eW M g a+if a=i then d else 0:=by
 unfold eW;rw[GG λb _=>mR s hi hj d a b,nH]
 congr 1
 by_cases e:a=i
 .subst e;rw[if_pos rfl,GG (g:=λb=>if b=j then d else 0) λb _=>by simp,rd,if_pos hj]
 .rw[if_neg e,eS λb _=>by simp[e]]
def Ai (s:yh M n g)(hi:i<n)(hj:j<g)(d:Int)(b:Nat):oZ (fM M i j d) n b=oZ M n b+if b=j then d else 0:=by
 unfold oZ;rw[GG λa _=>mR s hi hj d a b,nH]
 congr 1
 by_cases e:b=j
 .subst e;rw[if_pos rfl,GG (g:=λa=>if a=i then d else 0) λa _=>by simp,rd,if_pos hi]
 .rw[if_neg e,eS λa _=>by simp[e]]
abbrev m7:=List (Nat×Nat)
def bJ (w:m7)(t:Nat):Nat×Nat:=w.getD t (0,0)
structure kr (B M:Γ1)(n g b:Nat)(w:m7):Prop where
 ne:0<w.length
 hd:(bJ w 0).1=b
 vZ:∀t,t<w.length->(bJ w t).1<n/\(bJ w t).2<g/\(((bJ w t).2:Nat):Int)∈B.getD (bJ w t).1 []
 lnk:∀t,t+1<w.length->0<en M (bJ w (t+1)).1 (bJ w t).2
 nd:∀t u,t<w.length->u<w.length->(bJ w t).2=(bJ w u).2->t=u
def bX (M:Γ1)(w:m7)(c:Int):Nat->Γ1
 |0=>M
 |t+1=>if 0<t then fM (fM (bX M w c t) (bJ w t).1 (bJ w t).2 c) (bJ w t).1 (bJ w (t-1)).2 (-c) else fM (bX M w c t) (bJ w t).1 (bJ w t).2 c
structure aca (B M M':Γ1)(w:m7)(c:Int)(n g b t:Nat):Prop where
 sL:yh M' n g
 row:∀i,eW M' g i=eW M g i+if 0<t then (if i=b then c else 0) else 0
 col:∀j,oZ M' n j=oZ M n j+if 0<t then (if j=(bJ w (t-1)).2 then c else 0) else 0
 nn:∀i j,0<=en M' i j
 sup:∀i j,0<en M' i j->0<en M i j\/((j:Nat):Int)∈B.getD i []
 low:∀i j,(∀s,s+1<t->j≠(bJ w s).2)->en M i j<=en M' i j
theorem TF (s:yh M n g)(nn:∀i j,0<=en M i j)(ok:kr B M n g b w)(c0:0<=c)(hc:∀t,t+1<w.length->c<=en M (bJ w (t+1)).1 (bJ w t).2):∀t,t<=w.length->aca B M (bX M w c t) w c n g b t
 |0,_=>⟨s,λi=>by simp;rfl,λj=>by simp;rfl,nn,λi j h=>.inl h,λi j _=>Y5 _⟩
 |t+1,ht=>by
  let ih:=TF s nn ok c0 hc t ⋯;let⟨d1,d2,d3⟩:=ok.vZ t ⋯;let s1:=iY (j:=(bJ w t).2) ih.sL d1 c;let e1:=mR ih.sL d1 d2 c;let r1:=zh ih.sL d1 d2 c;let k1:=Ai ih.sL d1 d2 c;by_cases t0:0<t
  .obtain⟨f1,f2,f3⟩:=ok.vZ (t-1) ⋯;let bD:(bJ w t).2≠(bJ w (t-1)).2:=λz=>by
    have:=ok.nd t (t-1) ⋯ ⋯ z;omega
   let e2:=mR s1 d1 f2 (-c);let r2:=zh s1 d1 f2 (-c);let k2:=Ai s1 d1 f2 (-c);let un:bX M w c (t+1)=fM (fM (bX M w c t) (bJ w t).1 (bJ w t).2 c) (bJ w t).1 (bJ w (t-1)).2 (-c):=by show(if 0<t then _ else _)=_;rw[if_pos t0]
   rw[un];let ZR:c<=en M (bJ w t).1 (bJ w (t-1)).2:=by
    have:=hc (t-1) ⋯
    rwa [show t-1+1=t by omega] at this
   let hlo:en M (bJ w t).1 (bJ w (t-1)).2<=en (bX M w c t) (bJ w t).1 (bJ w (t-1)).2:=ih.low _ _ λu hu z=>by
    have:=ok.nd (t-1) u ⋯ ⋯ z;omega
   let ee:∀i j,en (fM (fM (bX M w c t) (bJ w t).1 (bJ w t).2 c) (bJ w t).1 (bJ w (t-1)).2 (-c)) i j=en (bX M w c t) i j+(if i=(bJ w t).1 then (if j=(bJ w t).2 then c else 0) else 0)+(if i=(bJ w t).1 then (if j=(bJ w (t-1)).2 then -c else 0) else 0):=λi j=>by rw[e2,e1]
   apply⟨iY s1 d1 _,λi=>?_,λj=>?_,λi j=>?_,λi j h=>?_,λi j h=>?_⟩
   .rw[r2,r1,ih.row,if_pos t0,if_pos (show 0<t+1 by omega)];split<;>omega
   .rw[k2,k1,ih.col,if_pos t0,if_pos (show 0<t+1 by omega),Nat.add_sub_cancel]
    (repeat' split)<;>omega
   .rw[ee];let h0:=ih.nn i j;by_cases a1:i=(bJ w t).1
    .subst a1;rw[if_pos rfl,if_pos rfl];by_cases a2:j=(bJ w (t-1)).2
     .subst a2;rw[if_neg (Ne.symm bD),if_pos rfl];omega
     .rw[if_neg a2];split<;>omega
    .rw[if_neg a1,if_neg a1];omega
   .rw[ee] at h;by_cases a1:i=(bJ w t).1
    .subst a1;rw[if_pos rfl,if_pos rfl] at h;by_cases a2:j=(bJ w t).2
     .subst a2;exact .inr d3
     .rw[if_neg a2] at h;apply ih.sup _ _ ?_;split at h<;>omega
    .rw[if_neg a1,if_neg a1] at h;exact ih.sup i j ⋯
   .rw[ee];let h1:=ih.low i j λu hu=>h u ⋯
    let h2:j≠(bJ w (t-1)).2:=h (t-1) ⋯;rw[if_neg h2]
    (repeat' split)<;>omega
  .let t0':t=0:=⋯;subst t0';let un:bX M w c 1=fM (bX M w c 0) (bJ w 0).1 (bJ w 0).2 c:=rfl;rw[un];apply⟨s1,λi=>?_,λj=>?_,λi j=>?_,λi j h=>?_,λi j h=>?_⟩
   .rw[r1,ih.row,ok.hd];simp
   .rw[k1,ih.col];simp
   .rw[e1];let h0:=ih.nn i j
    (repeat' split)<;>omega
   .rw[e1] at h;by_cases a1:i=(bJ w 0).1
    .subst a1;by_cases a2:j=(bJ w 0).2
     .subst a2;exact .inr d3
     .rw[if_pos rfl,if_neg a2] at h;exact ih.sup _ _ ⋯
    .rw[if_neg a1] at h;exact ih.sup i j ⋯
   .rw[e1];let h1:=ih.low i j λu hu=>absurd hu ⋯
    (repeat' split)<;>omega
end SP
namespace SP
def aX (w:m7):Nat:=(bJ w (w.length-1)).2
def bV (Ws:List m7):List Nat:=Ws.map aX
structure BF (B M:Γ1)(n g b:Nat)(Ws:List m7):Prop where
 ok:∀w∈Ws,kr B M n g b w
 nd:(bV Ws).Nodup
 sub:∀w∈Ws,∀t,t<w.length->(bJ w t).2∈bV Ws
def GC (h:t<w.length):bJ (w++[p]) t=bJ w t:=by
 unfold bJ;simp[List.getD,Zq h]
def gm:bJ (w++[p]) w.length=p:=by
 unfold bJ;simp[List.getD]
def qe:aX (w++[p])=p.2:=by
 unfold aX;rw[Zt];show(bJ (w++[p]) (w.length+1-1)).2=_;rw[Nat.add_sub_cancel,gm]
def BF.push (h:BF B M n g b Ws)(hw:w∈Ws)(hp:p<n)(hx:x<g)(hb:(x:Int)∈B.getD p [])(d4:0<en M p (aX w))(hn:x∉bV Ws):BF B M n g b (Ws++[w++[(p,x)]]):=by
 let ow:=h.ok w hw;let e:bV (Ws++[w++[(p,x)]])=bV Ws++[x]:=by unfold bV;rw[Zs];simp[qe]
 apply⟨λv hv=>?_,?_,λv hv t ht=>?_⟩
 .rcases Zv.mp hv with hv |hv
  .exact h.ok v hv
  .rw[Z1.mp hv];let hl:(w++[(p,x)]).length=w.length+1:=by simp
   let o0:=ow.ne;apply⟨⋯,by rw[GC o0];exact ow.hd,λt ht=>?_,λt ht=>?_,λt u ht hu z=>?_⟩
   .by_cases y:t<w.length
    .rw[GC y];exact ow.vZ t y
    .have:t=w.length:=⋯;subst this;rw[gm];exact⟨hp,hx,hb⟩
   .by_cases y:t+1<w.length
    .rw[GC y,GC ⋯];exact ow.lnk t y
    .have:t+1=w.length:=⋯;rw[this,gm,GC ⋯];have:t=w.length-1:=⋯;rw[this];exact d4
   .by_cases yt:t<w.length
    .by_cases yu:u<w.length
     .rw[GC yt,GC yu] at z;exact ow.nd t u yt yu z
     .have:u=w.length:=⋯;subst this;rw[GC yt,gm] at z;exact absurd (by have:=h.sub w hw t yt;rw[z] at this;exact this) hn
    .have:t=w.length:=⋯;subst this;by_cases yu:u<w.length
     .rw[GC yu,gm] at z;exact absurd (by have:=h.sub w hw u yu;rw[<- z] at this;exact this) hn
     .omega
 .rw[e,X0];exact⟨h.nd,by simp,λa ha c hc z=>by rw[Z1.mp hc] at z;exact hn (z▸ha)⟩
 .rw[e];rcases Zv.mp hv with hv |hv
  .exact Y7 _ (h.sub v hv t ht)
  .rw[Z1.mp hv] at ht ⊢;by_cases y:t<w.length
   .rw[GC y];exact Y7 _ (h.sub w hw t y)
   .have:t=w.length:=by simp at ht;omega
    subst this;rw[gm];exact Yn _ (by simp)
theorem og:∀{l:List Nat}{g:Nat},l.Nodup->(∀x∈l,x<g)->l.length<=g
 |l,0,_,h=>by
  cases l with
  |nil=>exact Ze _
  |cons x l=>exact absurd (h x Zh) ⋯
 |l,g+1,nd,h=>by
  let h1:(l.filter λx=>decide (x≠g)).length<=g:=og (nd.sublist Zu) λx hx=>by
   let⟨a,b⟩:=Zg.mp hx;have:=h x a;have:=of_decide_eq_true b;omega
  let h2:l.length<=(l.filter λx=>decide (x≠g)).length+1:=by
   clear h h1
   induction l with
   |nil=>exact Yb _
   |cons x l ih =>
    let vN:=Z9.mp nd;let MH:=ih vN.2;by_cases e:x=g
    .subst e;have:l.filter (λy=>decide (y≠x))=l:=X1.mpr λy hy=>decide_eq_true λz=>vN.1 (z▸hy)
     rw[Qu (by simp),this];simp
    .rw[Q8 (by simpa using e),Y4,Y4];omega
  omega
def BF.len (h:BF B M n g b Ws):Ws.length<=g:=by
 have:(bV Ws).length<=g:=og h.nd λx hx=>by
  let⟨w,hw,rfl⟩:=Zd.mp hx;let o:=h.ok w hw;have:=o.ne;exact(o.vZ (w.length-1) ⋯).2.1
 unfold bV at this
 rwa [Zb] at this
def kr.len (o:kr B M n g b w):w.length<=g:=by
 let h1:(w.map (·.2)).length<=g:=og ?_ ?_
 .rwa [Zb] at h1
 .unfold List.Nodup;rw[List.pairwise_iff_getElem];intro s t hs ht m4 e;rw[Zb] at hs ht;have:s=t:=o.nd s t hs ht (by
   unfold bJ;simp only[List.getD,Zc hs,Zc ht,X2];simpa using e)
  omega
 .intro x hx;let⟨p,hp,rfl⟩:=Zd.mp hx;let⟨t,ht,rfl⟩:=Yj hp;have:=(o.vZ t ht).2.1;unfold bJ at this;simpa[List.getD,Zc ht] using this
structure KW (B M:Γ1)(U ms:Γ3)(n g:Nat):Prop where
 sL:yh M n g
 nn:∀i j,0<=en M i j
 sup:∀i j,i<n->j<g->0<en M i j->(j:Int)∈B.getD i []
 ul:U.length=g
 u0:∀j,j<g->0<=U.getD j 0
 col:∀j,j<g->U.getD j 0+oZ M n j=ms.getD j 0
def Oq (B:Γ1)(ms ps:Γ3)(n g:Nat):Prop:=∀T S:Nat->Bool,(∀i,i<n->T i=true->∀x∈B.getD i [],S x.toNat=true)->sm n (λi=>if T i=true then ps.getD i 0 else 0)<=sm g (λj=>if S j=true then ms.getD j 0 else 0)
def Dk (B M:Γ1)(U:Γ3)(n:Nat)(Ws:List m7)(k:Nat):Prop:=∀t,t<k->U.getD (aX (Ws.getD t [])) 0=0/\∀p,p<n->0<en M p (aX (Ws.getD t []))->∀x∈B.getD p [],x.toNat∈bV Ws
def oo {α : Type}{l m:List α}{t:Nat}{d:α}(h:t<l.length):(l++m).getD t d=l.getD t d:=by simp[List.getD,Zq h]
def Dk.app {B M:Γ1}{n k:Nat}(h:Dk B M U n Ws k)(hk:k<=Ws.length)(Vs:List m7):Dk B M U n (Ws++Vs) k:=λt ht=>by
 rw[oo ⋯];let⟨h1,h2⟩:=h t ht;exact⟨h1,λp hp h0 x hx=>by unfold bV;rw[Zs];exact Y7 _ (h2 p hp h0 x hx)⟩
open Classical in
def BA (s:KW B M U ms n g)(oY:Oq B ms ps n g)(bn:b<n)(hB:∀i,i<n->∀x∈B.getD i [],0<=x/\x.toNat<g)
  (rl:∀i,i<n->eW M g i<=ps.getD i 0) (rb:eW M g b<ps.getD b 0) (lg:∀x∈bV Ws,x<g) (base:∀x∈B.getD b [],x.toNat∈bV Ws) (dn:Dk B M U n Ws Ws.length):False:=by
 let mem:∀j,j∈bV Ws->∃t,t<Ws.length/\aX (Ws.getD t [])=j:=λj hj=>by
  let⟨w,hw,rfl⟩:=Zd.mp hj;let⟨t,ht,rfl⟩:=Yj hw;exact⟨t,ht,by simp[List.getD,Zc ht]⟩
 letI S:Nat->Bool:=λj=>decide (j∈bV Ws)
 letI T:Nat->Bool:=λi=>decide (i=b\/∃j∈bV Ws,0<en M i j)
 let h1:=oY T S λi hi hT x hx=>by
  apply decide_eq_true ?_;rcases of_decide_eq_true hT with rfl |⟨j,hj,h0⟩
  .exact base x hx
  .obtain⟨t,ht,rfl⟩:=mem j hj;exact(dn t ht).2 i hi h0 x hx
 let h2:sm g (λj=>if S j=true then ms.getD j 0 else 0)=sm n (λi=>sm g (λj=>if S j=true then en M i j else 0)):=by
  rw[rP];apply GG λj hj=>?_
  by_cases e:S j=true
  .rw[if_pos e];let⟨t,ht,el⟩:=mem j (of_decide_eq_true e);let h3:=(dn t ht).1;rw[el] at h3;let h4:=s.col j hj;rw[h3,Int.zero_add] at h4;rw[<- h4];exact GG λi _=>by rw[if_pos e]
  .rw[if_neg e];exact(eS λi _=>by rw[if_neg e]).symm
 let h3:∀i,i<n->sm g (λj=>if S j=true then en M i j else 0)<=if T i=true then eW M g i else 0:=λi hi=>by
  by_cases e:T i=true
  .rw[if_pos e];apply pD λj hj=>?_
   have:=s.nn i j;split<;>omega
  .rw[if_neg e];have:sm g (λj=>if S j=true then en M i j else 0)=0:=eS λj hj=>by
    split
    .rename_i hs;let h4:=s.nn i j;rcases Int.lt_or_eq_of_le h4 with y |y
     .exact absurd (decide_eq_true (Or.inr ⟨j,of_decide_eq_true hs,y⟩)) e
     .exact y.symm
    .rfl
   omega
 let h4:sm n (λi=>sm g (λj=>if S j=true then en M i j else 0))<sm n (λi=>if T i=true then ps.getD i 0 else 0):=by
  apply Int.lt_of_le_of_lt (pD (g:=λi=>if T i=true then eW M g i else 0) h3) (K6 bn ?_ λi hi=>?_)
  .have:T b=true:=decide_eq_true (Or.inl rfl);show(if T b=true then eW M g b else 0)<if T b=true then ps.getD b 0 else 0
   rw[if_pos this,if_pos this];exact rb
  .show(if T i=true then eW M g i else 0)<=if T i=true then ps.getD i 0 else 0
   have:=rl i hi;split<;>omega
 rw[h2] at h1;omega
structure SpO (M:Γ1)(ps:Γ3)(g n b:Nat)(left:Int):Prop where
 old:∀i,i<b->i<n->eW M g i=ps.getD i 0
 now:b<n->eW M g b+left=ps.getD b 0
 new:∀i,b<i->i<n->eW M g i=0
structure yO (B M:Γ1)(ms ps:Γ3)(n g:Nat):Prop where
 sL:yh M n g
 nn:∀i j,0<=en M i j
 sup:∀i j,i<n->j<g->0<en M i j->(j:Int)∈B.getD i []
 row:∀i,i<n->eW M g i=ps.getD i 0
 col:∀j,j<g->oZ M n j=ms.getD j 0
def A8 (s:KW B M U ms n g)(row:∀i,i<n->eW M g i=ps.getD i 0)(Rf:sm g (λj=>ms.getD j 0)=sm n (λi=>ps.getD i 0)):yO B M ms ps n g:=by
 apply⟨s.sL,s.nn,s.sup,row,?_⟩;let h1:sm g (λj=>U.getD j 0+oZ M n j)=sm g (λj=>ms.getD j 0):=GG λj hj=>s.col j hj
 rw[nH] at h1;let h2:sm g (λj=>oZ M n j)=sm n (λi=>eW M g i):=(rP (λi j=>en M i j) g n).symm;let h3:sm n (λi=>eW M g i)=sm n (λi=>ps.getD i 0):=GG λi hi=>row i hi
 let h4:sm g (λj=>U.getD j 0)=0:=by
  grind
 intro j hj;let h5:=xr s.u0 h4 j hj;let h6:=s.col j hj;omega
def IJ (s:KW B M U ms n g)(o:SpO M ps g n b left)(ok:kr B M n g b w)(c0:0<=c)(hc:∀t,t+1<w.length->c<=en M (bJ w (t+1)).1 (bJ w t).2)(hu:c<=U.getD (aX w) 0) :
  KW B (bX M w c w.length) (U.set (aX w) (U.getD (aX w) 0-c)) ms n g/\SpO (bX M w c w.length) ps g n b (left-c):=by
 let st:=TF s.sL s.nn ok c0 hc w.length (Ze _);let o0:=ok.ne;let SM:aX w<g:=(ok.vZ (w.length-1) ⋯).2.1;let hul:aX w<U.length:=by rw[s.ul];exact SM
 apply⟨⟨st.sL,st.nn,λi j hi hj h=>?_,by rw[Yp];exact s.ul,λj hj=>?_,λj hj=>?_⟩,λi hi hn=>?_,λhb=>?_,λi hi hn=>?_⟩
 .rcases st.sup i j h with z |z
  .exact s.sup i j hi hj z
  .exact z
 .rw[iP _ _ _ _ _ hul];have:=s.u0 j hj;split
  .rename_i e;subst e;omega
  .exact this
 .rw[iP _ _ _ _ _ hul,st.col,if_pos o0];show _+(_+if j=aX w then c else 0)=_;have:=s.col j hj;by_cases e:j=aX w
  .subst e;rw[if_pos rfl,if_pos rfl];omega
  .rw[if_neg e,if_neg e];omega
 .rw[st.row,if_pos o0,if_neg ⋯];have:=o.old i hi hn;omega
 .rw[st.row,if_pos o0,if_pos rfl];have:=o.now hb;omega
 .rw[st.row,if_pos o0,if_neg ⋯];have:=o.new i hi hn;omega
end SP
namespace MI
open L2 KG EX KM RZ SP
def jY {α : Type}{l:List α}{i:Nat}{d:α}(h:i<l.length):l.getD i d∈l:=by rw[ap (Zc h)];exact Zw _
def jz:FM:=λO xs P _=>∃qs:Δ1,xs=[.im (.list (qs.map qD))]/\(∀q∈qs,Rb 32000000 q)/\(∀i,i<=qs.length->Rb 32000000 (aH (qs.take i)))/\P (.im (qD (aH qs))) O
abbrev UW:Δ2:=["parts","whole","part"]
def DB:MS:=(bu (bI (jq (af (mC (.int 0)) (af (mC (.int 1)) ay))) (bh 1))
 (bu (kc (cM (ah 0)) (bh 2) (bI (aG (f2 Sg) cQ (af (ah 1) (af (ah 2) ay))) (bh 1)))
 (cK (ah 1))))
def zi:∀O xs Pq QX,jz O xs Pq QX->DB { nx:=λ_ O'=>Pq (.im .none) O',rt:=Pq } (aY UW xs) O:=by
 intro O xs Pq QX h;let⟨qs,rfl,hq,hs,h⟩:=h;apply⟨md,?_⟩;show Go _ _ [Φ9 (.list (qs.map qD)),Φ9 (qD (aH (qs.take 0))),none] O;apply⟨?_⟩;conv=>whnf
 apply⟨λi sl O'=>O'=O/\∃y,sl=[Φ9 (.list (qs.map qD)),Φ9 (qD (aH (qs.take i))),y],⟨(),_,()⟩,?_,?_⟩
 .rintro i x sl O' hx ⟨rfl,y,rfl⟩;let hi:i<qs.length:=by have:=(Zf.mp hx).1;simpa using this
  rw[Zo,jj (f:=qD) (d:=(0:Rat)) hi] at hx;cases Option.some.inj hx;apply⟨aH (qs.take i),qs.getD i 0,(),⟨hs i ⋯,hq _ (jY hi)⟩,(),Φ9 (qD (qs.getD i 0)),?_⟩;rw[MC (0:Rat) hi,pR];rfl
 .rintro sl O' ⟨rfl,y,rfl⟩;rw[Zb,Zb,Yf];exact⟨h⟩
def cE (r:Γ3)(ds:Δ1):Δ1:=(List.range r.length).map λj=>((r.getD j 0:Int):Rat)*ds.getD j 0
structure tV (r:Γ3)(ds:Δ1):Prop where
 len:r.length=ds.length
 r6:r.length<=6
 nn:∀x∈r,0<=x/\x<=100
 rb:∀d∈ds,Rb 32000000 d
 pb:∀q∈cE r ds,Rb 32000000 q
 sb:∀i,i<=(cE r ds).length->Rb 32000000 (aH ((cE r ds).take i))
def HX:FM:=λO xs P _=>∃(r:Γ3) (ds:Δ1),xs=[.im (aS r),.im (.tuple (ds.map qD))]/\tV r ds/\P (.im (qD (aH (cE r ds)))) O
abbrev Oi:Δ2:=["wishes","got"]
def T6:MS:=(cK (aG jz cQ (af (cN 2 [] (Sr (af (ah 0) (af (ah 1) ay))) (kZ 2 (aE (bh 0) (aE (bh 1) bY))) eu (aG (f2 oN) cQ (af (jq (af (ah 0) (af (mC (.int 1)) ay))) (af (ah 1) ay)))) ay)))
def OH:∀O xs Pq QX,HX O xs Pq QX->T6 { nx:=λ_ O'=>Pq (.im .none) O',rt:=Pq } (aY Oi xs) O:=by
 intro O xs Pq QX h;let⟨r,ds,rfl,ok,h⟩:=h;let hl:=ok.len;let r6:=ok.r6;apply⟨by rw[Zb,Zb];omega,?_⟩;apply gC (λj=>qD (((r.getD j 0:Int):Rat)*ds.getD j 0)) (λj=>.int (r.getD j 0)) (λj=>qD (ds.getD j 0)) (by rw[GF,Zb];omega) (λi x hx=>?_) (λi Z hi hZ=>?_) ?_
 .obtain⟨hi,rfl⟩:=qX hx;rw[Zb] at hi;rw[show(r.map PyData.int).getD i .none=.int (r.getD i 0) from jv hi,show(ds.map qD).getD i .none=qD (ds.getD i 0) from jv ⋯]
 .rw[GF,Zb] at hi;let ha:=ok.nn (r.getD i 0) (jY hi);let hb:=ok.rb (ds.getD i 0) (jY ⋯);exact⟨md,((r.getD i 0:Int):Rat),ds.getD i 0,(),⟨(yb (k:=7) (by unfold Bd;omega) ∅).mono ∅,hb⟩,hZ⟩
 .rw[GF,Zb];apply⟨cE r ds,?_,ok.pb,ok.sb,h⟩;unfold cE;rw[Zp];rfl
def iV (W:Γ1)(D:List (Δ1)):Δ1:=(List.range W.length).map λi=>aH (cE (W.getD i []) (D.getD i []))
def HW:FM:=λO xs P _=>∃(A:Γ3) (Pu:Δ1) (W:Γ1) (D:List (Δ1)),xs=[.im (eN A Pu W),.im (C6 D)]/\W.length=D.length/\W.length<=6/\(∀i,i<W.length->tV (W.getD i []) (D.getD i []))/\P (.im (.tuple ((iV W D).map qD))) O
abbrev Oh:Δ2:=["market","dealing"]
def T5:MS:=(cK (jX oU (af (cN 2 [] (Sr (af (bA cv (ah 0) (mC (.int 2))) (af (ah 1) ay))) (kZ 2 (aE (bh 0) (aE (bh 1) bY))) eu (aG HX cQ (af (ah 0) (af (ah 1) ay)))) ay)))
def OG:∀O xs Pq QX,HW O xs Pq QX->T5 { nx:=λ_ O'=>Pq (.im .none) O',rt:=Pq } (aY Oh xs) O:=by
 intro O xs Pq QX h;let⟨A,Pu,W,D,rfl,hl,w6,ok,h⟩:=h;apply⟨_,(),by rw[Zb,Zb];omega,?_⟩;apply gC (λi=>qD (aH (cE (W.getD i []) (D.getD i [])))) (λi=>aS (W.getD i [])) (λi=>.tuple ((D.getD i []).map qD)) (by rw[GF,Zb];omega) (λi x hx=>?_) (λi Z hi hZ=>?_) ?_
 .obtain⟨hi,rfl⟩:=qX hx;rw[Zb] at hi;rw[show(W.map aS).getD i .none=aS (W.getD i []) from jv hi,show(D.map λqs=>PyData.tuple (qs.map qD)).getD i .none=.tuple ((D.getD i []).map qD) from jv ⋯]
 .rw[GF,Zb] at hi;exact⟨W.getD i [],D.getD i [],(),ok i hi,hZ⟩
 .rw[GF,Zb];unfold iV at h;rw[Zp] at h;exact h
def Gx (c m a:Int):Rat:=if 0<c then Rat.divInt (c*a) m else 0
def HZ:FM:=λO xs P _=>∃c m a:Int,xs=[.im (.int c),.im (.int m),.im (.int a)]/\(0<c->(m≠0/\Bd 66000000 m)/\Bd 66000000 c/\Bd 66000000 a)/\P (.im (qD (Gx c m a))) O
abbrev UZ:Δ2:=["coins","money","amount"]
def Ua:MS:=(cK (Ss (dD (bA Hm (ah 0) (mC (.int 0)))) (aG Ih cQ (af (bA tO (ah 0) (ah 2)) (af (ah 1) ay))) (jq (af (mC (.int 0)) (af (mC (.int 1)) ay)))))
def OL:∀O xs Pq QX,HZ O xs Pq QX->Ua { nx:=λ_ O'=>Pq (.im .none) O',rt:=Pq } (aY UZ xs) O:=by
 intro O xs Pq QX h;let⟨c,m,a,rfl,hc,h⟩:=h;apply⟨λe=>?_,λe=>?_⟩
 .let e:0<c:=of_decide_eq_true e;let⟨h1,h2,h3⟩:=hc e;apply⟨⟨h2,h3⟩,h1,?_⟩;unfold Gx at h;rw[if_pos e] at h;exact h
 .let e:¬ 0<c:=of_decide_eq_false e;apply⟨md,?_⟩;unfold Gx at h;rw[if_neg e] at h;exact h
def T4 (M:Γ1):PyData:=.list (M.map λr=>.list (r.map .int))
def cF (A ms:Γ3)(M:Γ1):List (Δ1):=(List.range M.length).map λi=>(List.range A.length).map λj=>Gx (en M i j) (ms.getD j 0) (A.getD j 0)
def Ii:FM:=λO xs P _=>∃(A:Γ3) (Pu:Δ1) (W:Γ1) (ms:Γ3) (M:Γ1),xs=[.im (eN A Pu W),.im (cy ms),.im (T4 M)]/\A.length<=6/\M.length<=6/\ms.length=A.length/\(∀i,i<M.length->(M.getD i []).length=A.length)/\(∀i j,i<M.length->j<A.length->0<en M i j->(ms.getD j 0≠0/\Bd 66000000 (ms.getD j 0))/\Bd 66000000 (en M i j)/\Bd 66000000 (A.getD j 0))/\P (.im (C6 (cF A ms M))) O
abbrev Om:Δ2:=["market","money","spent"]
def Ui:MS:=(cK (jX oU (af (cN 1 [0,1] (cM (ah 2)) (bh 0) eu (jX oU (af (cN 2 [2,0] (WC (af (bA cv (ah 1) (mC (.int 0))) ay)) (kZ 2 (aE (bh 0) (aE (bh 1) bY))) eu (aG HZ cQ (af (bA cv (ah 3) (ah 0)) (af (bA cv (ah 2) (ah 0)) (af (ah 1) ay))))) ay))) ay)))
def OS:∀O xs Pq QX,Ii O xs Pq QX->Ui { nx:=λ_ O'=>Pq (.im .none) O',rt:=Pq } (aY Om xs) O:=by
 intro O xs Pq QX h;let⟨A,Pu,W,ms,M,rfl,g6,n6,hm,hr,hb,h⟩:=h;conv=>whnf
 apply G2 (λi=>.tuple (((List.range A.length).map λj=>Gx (en M i j) (ms.getD j 0) (A.getD j 0)).map qD)) (by rw[Zb,Zb];omega) (λi x Z hx hZ=>?_) ?_
 .let hi:i<M.length:=by have:=(Zf.mp hx).1;simpa using this
  rw[Zo,jj (d:=([]:Γ3)) hi] at hx;cases Option.some.inj hx;let CM:=hr i hi;let el:(cT (A.map PyData.int)).length=A.length:=by unfold cT;simp
  apply⟨_,(),?_⟩;apply gC (λj=>qD (Gx (en M i j) (ms.getD j 0) (A.getD j 0))) (λj=>.int (j:Int)) (λj=>.int (A.getD j 0)) (by rw[el];omega) (λj x hx=>?_) (λj Z hj hZ=>?_) ?_
  .obtain⟨hj,rfl⟩:=i7 hx;rw[Zb] at hj;rw[show(A.map PyData.int).getD j .none=.int (A.getD j 0) from jv hj]
  .rw[el] at hj;apply⟨_,int_at (show j<(M.getD i []).length by omega),_,int_at (show j<ms.length by omega),_,_,_,(),λh0=>hb i j hi hj h0,hZ⟩
  .rw[el];rw[Zp] at hZ;exact hZ
 .rw[Zb,Zb];unfold C6 cF at h;rw[Zp] at h;exact h
def di (p:Nat×Nat):PyData:=.tuple [.int (p.1:Int),.int (p.2:Int)]
def eO (w:m7):PyData:=.list (w.map di)
def gG (Ws:List m7):List (Int×PyData):=(bV Ws).map λx:Nat=>((x:Int),PyData.bool true)
def EL {α : Type}{xs:List α}{d:α}(h:0<xs.length):fj xs (-1)=some (xs.getD (xs.length-1) d):=by
 unfold fj vS;rw[if_neg ⋯,if_pos ⋯,ap (Zc (show xs.length-1<xs.length by omega))];have:(-1+(xs.length:Int)).toNat=xs.length-1:=⋯;rw[this];exact Zc ⋯
def kH {w:m7}(h:0<w.length):fj (w.map di) (-1)=some (di (bJ w (w.length-1))):=by
 rw[EL (d:=.none) (by rw[Zb];exact h),Zb];rw[show(w.map di).getD (w.length-1) .none=di (bJ w (w.length-1)) from jv ⋯]
def AS:(O++[a,b])[O.length]?=some a:=by simp
def UN:(O++[a,b])[O.length+1]?=some b:=by
 rw[Yi ⋯];simp
def ab6 {k:Nat}(h:O[k]?=some c):(O++[a,b])[k]?=some c:=by
 rw[Zq (Zf.mp h).1];exact h
def Vi:(O++[a,b]).set O.length c=O++[c,b]:=by
 rw[List.set_append,if_neg ⋯];simp
def Vh:(O++[a,b]).set (O.length+1) c=O++[a,c]:=by
 rw[List.set_append,if_neg ⋯];simp
def l8.jt (t:l8 O k ks W)(h:dJ O O'):l8 O' k ks W:=by
 let⟨u,rfl⟩:=h;apply⟨?_,t.len,λi hi=>?_⟩
 .rw[Zq (Zf.mp t.hd).1];exact t.hd
 .rw[Zq (Zf.mp (t.row i hi)).1];exact t.row i hi
def l8.get (h:l8 O k ks W)(hi:i<W.length)(hj:j<(W.getD i []).length):fj (ks.map AV.own) (i:Int)=some (.own (ks.getD i 0))/\O[ks.getD i 0]?=some (some ((W.getD i []).map λx=>AV.im (.int x)))/\fj ((W.getD i []).map λx=>AV.im (.int x)) (j:Int)=some (.im (.int (en W i j))) :=
 ⟨aZ (jj (by rw[h.len];exact hi)),h.row i hi,aZ (jj hj)⟩
def sf (Ws:List m7)(y:Nat):jr (gG Ws) (y:Int)=true↔y∈bV Ws:=by
 unfold jr gG;rw[X6,Z6];constructor
 .rintro⟨x,hx,e⟩;let e:(x:Int)=(y:Int):=of_decide_eq_true e;have:x=y:=⋯;exact this▸hx
 .intro h;exact⟨y,h,decide_eq_true rfl⟩
def JY (hn:aX w∉bV Ws):putD (gG Ws) (aX w:Int) (.bool true)=gG (Ws++[w]):=by
 unfold putD;rw[if_neg (λz=>hn ((sf Ws _).mp z))];unfold gG bV;rw[Zs,Zs];rfl
theorem pZ:∀{l:Γ3},l.Nodup->(∀x∈l,0<=x)->(l.map Int.toNat).Nodup
 |[],_,_=>X9
 |x::l,nd,h=>by
  let vN:=Z9.mp nd;rw[Zm,Z9];apply⟨λz=>?_,pZ vN.2 λy hy=>h y (Zk _ hy)⟩;let⟨y,hy,e⟩:=Zd.mp z;let h1:=h x Zh;let h2:=h y (Zk _ hy);have:y=x:=⋯;exact vN.1 (this▸hy)
structure UP (B M:Γ1)(U ms ps:Γ3)(n g b:Nat):Prop where
 sp:KW B M U ms n g
 oY:Oq B ms ps n g
 bn:b<n
 bl:B.length=n
 n6:n<=6
 g6:g<=6
 hB:∀i,i<n->∀x∈B.getD i [],0<=x/\x.toNat<g
 b6:∀i,i<n->(B.getD i []).length<=6
 nd:∀i,i<n->(B.getD i []).Nodup
 rl:∀i,i<n->eW M g i<=ps.getD i 0
 rb:eW M g b<ps.getD b 0
def HY:FM:=λO xs P _=>∃(B M:Γ1) (U ms ps:Γ3) (n g b k ku:Nat) (ks:List Nat),xs=[.im (.tuple (B.map aS)),.own k,.own ku,.im (.int (b:Int))]/\l8 O k ks M/\O[ku]?=some (cI U)/\UP B M U ms ps n g b/\∀(w:m7) (O':bE),kr B M n g b w->U.getD (aX w) 0≠0->dJ O O'->P (.im (eO w)) O'
abbrev Io:Δ2:=["best","spent","unsold","buyer","ways","met","at","last","payer","good"]
def T8:MS:=(bu (bI (lx 1 [3] (cM (bA cv (ah 0) (ah 3))) (bh 0) eu (AN (af (jq (af (ah 1) (af (ah 0) ay))) ay))) (bh 4))
 (bu (bI (wT 1 [] (cM (bA cv (ah 0) (ah 3))) (bh 0) eu (ah 0) (mC (.bool true))) (bh 5))
 (bu (bI (mC (.int 0)) (bh 6))
 (bu (rE (dD (bA (Cm false) (bA cv (ah 2) (bA cv (bA cv (bA cv (ah 4) (ah 6)) (AM (mC (.int 1)))) (mC (.int 1)))) (mC (.int 0)))) (bu (bI (bA cv (bA cv (bA cv (ah 4) (ah 6)) (AM (mC (.int 1)))) (mC (.int 1))) (bh 7))
 (bu (kc (tP (af (jX ma (af (ah 1) ay)) ay)) (bh 8) (li (dD (bA Hm (bA cv (bA cv (ah 1) (ah 8)) (ah 7)) (mC (.int 0)))) (kc (cM (bA cv (ah 0) (ah 8))) (bh 9) (li (Uk true (ah 9) (ah 5)) (bu (LG (ah 5) (ah 9) (mC (.bool true)))
 (pF (C7 (ah 4) (af (bA o6 (bA cv (ah 4) (ah 6)) (AN (af (jq (af (ah 8) (af (ah 9) ay))) ay))) ay)))) gj)) gj))
 (DC 6 (wE λi j=>i+j) (mC (.int 1))))))
 (cK (bA cv (ah 4) (ah 6)))))))
def rz (h:0<=x):((x.toNat:Nat):Int)=x:=Xe h
def OJ:∀O xs Pq QX,HY O xs Pq QX->T8 { nx:=λ_ O'=>Pq (.im .none) O',rt:=Pq } (aY Io xs) O:=by
 intro O xs Pq QX h;let⟨B,M,U,ms,ps,n,g,b,k,ku,ks,rfl,tb,hu,ok,h⟩:=h;let bl:=ok.bl;let bn:=ok.bn;let n6:=ok.n6;let g6:=ok.g6;let Dv:∀i,i<n->fj (B.map aS) (i:Int)=some (aS (B.getD i [])):=λi hi=>aZ (jj ⋯)
 let WT:=ok.b6 b bn;apply⟨_,Dv b bn,?_⟩;conv=>whnf
 apply qq (λi d=>d=.im (eO [(b,((B.getD b []).getD i 0).toNat)])) (by rw[Zb,Zb];omega) (λi x Z hx hZ=>?_) (λzs hl hz=>?_)
 .obtain⟨hi,rfl⟩:=GB hx;let h0:=(ok.hB b bn _ (jY (d:=0) hi)).1;apply⟨md,HM,hZ _ ?_⟩;unfold eO di;rw[Zm,List.map_nil,rz h0]
 rw[Zb,Zb] at hl;letI yg:List m7:=(B.getD b []).map λx=>[(b,x.toNat)]
 let ez:zs=yg.map λw=>AV.im (eO w):=by
  apply Ql λi=>?_
  rw[Zp,Zo];by_cases hi:i<zs.length
  .have:=hz i _ (Zc hi);rw[Zc hi,this,Zc (show i<(B.getD b []).length by omega),ap (Zc (show i<(B.getD b []).length by omega))];rfl
  .rw[Yu (Xd hi),Yu ⋯];rfl
 subst ez;let e0:bV yg=(B.getD b []).map Int.toNat:=by
  show((B.getD b []).map λx=>[(b,x.toNat)]).map aX=_;rw[Zp];rfl
 let bf0:BF B M n g b yg:=by
  apply⟨λw hw=>?_,?_,λw hw t ht=>?_⟩
  .obtain⟨x,hx,rfl⟩:=Zd.mp hw;let⟨h0,h1⟩:=ok.hB b bn x hx;apply⟨by simp,(),λt ht=>?_,λt ht=>absurd ht (by simp),λt u ht hu _=>by simp at ht hu;omega⟩;have:t=0:=by simp at ht;exact ht
   subst this;exact⟨bn,h1,by show((x.toNat:Nat):Int)∈_;rw[rz h0];exact hx⟩
  .rw[e0];exact pZ (ok.nd b bn) λx hx=>(ok.hB b bn x hx).1
  .obtain⟨x,hx,rfl⟩:=Zd.mp hw;have:t=0:=by simp at ht;exact ht
   subst this;rw[e0];exact Zd.mpr ⟨x,hx,()⟩
 let Wb:∀x∈B.getD b [],x.toNat∈bV yg:=λx hx=>by rw[e0];exact Zd.mpr ⟨x,hx,()⟩
 show Go _ _ [Φ9 (.tuple (B.map aS)),some (.own k),some (.own ku),Φ9 (.int (b:Int)),some (.own O.length),none,none,none,none,none] (O++[some (yg.map λw=>AV.im (eO w))]);apply⟨⟨_,Dv b bn,?_⟩⟩;conv=>whnf
 apply⟨by rw[Zb,Zb];omega,λi WA O'=>O'=O++[some (yg.map λw=>AV.im (eO w))]/\WA=((B.getD b []).take i).map λx=>(x,PyData.bool true),⟨(),()⟩,?_,?_⟩
 .rintro i x WA O' hx ⟨rfl,rfl⟩;let⟨hi,rfl⟩:=GB hx;apply⟨λ_=>⟨(),?_⟩,λz=>(by cases z)⟩;rw[MC (0:Int) hi,Zs];unfold putD;rw[if_neg]
  .rfl
  .intro z;unfold jr at z;rw[X6,Z6] at z;let⟨y,hy,e⟩:=z;let e:y=(B.getD b []).getD i 0:=of_decide_eq_true e;let nd:=ok.nd b bn;have:(B.getD b [])=(B.getD b []).take i++(B.getD b []).drop i:=(List.take_append_drop i _).symm;rw[this,X0] at nd;apply nd.2.2 y hy _ ?_ e;rw[List.mem_iff_getElem?];exact⟨0,by rw[List.getElem?_drop,Nat.add_zero,Zc hi,ap (Zc hi)]⟩
 rintro WA O' ⟨rfl,rfl⟩;rw[Zb,Zb,Yf,Yr];let em:(((B.getD b []).map λx=>(x,PyData.bool true)).map pairD)=(gG yg).map pairD:=by
  unfold gG;rw[e0,Zp,Zp,Zp];apply Xc λx hx=>?_
  show pairD (x,_)=pairD (((x.toNat:Nat):Int),_);rw[rz (ok.hB b bn x hx).1]
 rw[em];show Go _ _ [Φ9 (.tuple (B.map aS)),some (.own k),some (.own ku),Φ9 (.int (b:Int)),some (.own O.length),some (.vI (O++[some (yg.map λw=>AV.im (eO w))]).length),none,none,none,none] (O++[some (yg.map λw=>AV.im (eO w)),some ((gG yg).map pairD)]);rw[show(O++[some (yg.map λw=>AV.im (eO w))]).length=O.length+1 by simp];apply⟨?_⟩;show Go _ _ [Φ9 (.tuple (B.map aS)),some (.own k),some (.own ku),Φ9 (.int (b:Int)),some (.own O.length),some (.vI (O.length+1)),Φ9 (.int ((0:Nat):Int)),none,none,none] (O++[some (yg.map λw=>AV.im (eO w)),some ((gG yg).map pairD)]);letI St:List m7->bE:=λWs=>O++[some (Ws.map λw=>AV.im (eO w)),some ((gG Ws).map pairD)]
 let gr:∀Ws,dJ O (St Ws):=λWs=>⟨_,()⟩
 apply⟨⟨λm sl O'=>∃(Ws:List m7) (a:Nat) (y7 y8 y9:Option AV),m+a=g+1/\sl=[Φ9 (.tuple (B.map aS)),some (.own k),some (.own ku),Φ9 (.int (b:Int)),some (.own O.length),some (.vI (O.length+1)),Φ9 (.int ((a:Nat):Int)),y7,y8,y9]/\O'=St Ws/\BF B M n g b Ws/\(∀x∈B.getD b [],x.toNat∈bV Ws)/\Dk B M U n Ws a/\a<=Ws.length,⟨g+1,yg,0,none,none,none,⋯,(),(),bf0,Wb,λt ht=>absurd ht ⋯,Yb _⟩,?_⟩⟩;rintro m sl O' ⟨Ws,a,y7,y8,y9,hm,rfl,rfl,bf,base,dn,ha⟩;let cG:a<Ws.length:=by
  rcases Z3 a Ws.length with z |z
  .exact z
  .exfalso;let e:a=Ws.length:=⋯;subst e;apply BA ok.sp ok.oY bn ok.hB ok.rl ok.rb (λx hx=>?_) base dn;let⟨w,hw,rfl⟩:=Zd.mp hx;let o:=bf.ok w hw;have:=o.ne;exact(o.vZ (w.length-1) ⋯).2.1
 let wm:Ws.getD a []∈Ws:=jY cG;let ajG:=bf.len;generalize hw:Ws.getD a []=w at wm;let ow:=bf.ok w wm;let ow0:=ow.ne;let SM:aX w<g:=(ow.vZ (w.length-1) ⋯).2.1;let Th:∀Vs:List m7,fj ((Ws++Vs).map λw=>AV.im (eO w)) ((a:Nat):Int)=some (AV.im (eO w)):=λVs=>by
  rw[aZ (jj (d:=([]:m7)) (show a<(Ws++Vs).length by rw[Zt];omega)),oo cG,hw]
 let Hs:=Th [];rw[Yh] at Hs;let ul:=ok.sp.ul;let R6:fj (U.map λx=>AV.im (PyData.int x)) ((aX w:Nat):Int)=some (AV.im (.int (U.getD (aX w) 0))):=aZ (jj ⋯);apply⟨_,_,AS,Hs,_,kH ow0,_,(),_,_,ab6 hu,R6,dI,λhc=>?_,λhc=>?_⟩
 .let hc:U.getD (aX w) 0=0:=of_decide_eq_true hc;apply⟨_,_,AS,Hs,_,kH ow0,_,(),?_⟩;show Go _ _ [Φ9 (.tuple (B.map aS)),some (.own k),some (.own ku),Φ9 (.int (b:Int)),some (.own O.length),some (.vI (O.length+1)),Φ9 (.int ((a:Nat):Int)),Φ9 (.int ((aX w:Nat):Int)),y8,y9] (St Ws);let Tk:=tb.len;let ml:=ok.sp.sL.len;apply⟨_,(tb.jt (gr Ws)).hd,⟨by rw[Zb];omega,by rw[Zb];omega⟩,?_⟩;rw[Zb,Z0];apply⟨λi sl O'=>∃(Vs:List m7) (y8 y9:Option AV),sl=[Φ9 (.tuple (B.map aS)),some (.own k),some (.own ku),Φ9 (.int (b:Int)),some (.own O.length),some (.vI (O.length+1)),Φ9 (.int ((a:Nat):Int)),Φ9 (.int ((aX w:Nat):Int)),y8,y9]/\O'=St (Ws++Vs)/\BF B M n g b (Ws++Vs)/\∀p,p<i->0<en M p (aX w)->∀x∈B.getD p [],x.toNat∈bV (Ws++Vs),⟨[],y8,y9,(),by rw[Yh],by rw[Yh];exact bf,λp hp=>absurd hp ⋯⟩,?_,?_⟩
  .rintro i x sl O' hx ⟨Vs,y8,y9,rfl,rfl,GX,pr⟩;let⟨hi,rfl⟩:=fD hx;rw[Tk,ml] at hi;let⟨g1,g2,g3⟩:=(tb.jt (gr (Ws++Vs))).get (i:=i) (j:=aX w) ⋯ (by rw[ok.sp.sL.row i hi];exact SM);apply⟨_,_,(tb.jt (gr (Ws++Vs))).hd,g1,_,_,g2,g3,λhp=>?_,λhp=>?_⟩
   .let hp:0<en M i (aX w):=of_decide_eq_true hp;apply⟨_,Dv i hi,?_⟩;conv=>whnf
    apply⟨λj sl O'=>∃(Vs:List m7) (y9:Option AV),sl=[Φ9 (.tuple (B.map aS)),some (.own k),some (.own ku),Φ9 (.int (b:Int)),some (.own O.length),some (.vI (O.length+1)),Φ9 (.int ((a:Nat):Int)),Φ9 (.int ((aX w:Nat):Int)),Φ9 (.int (i:Int)),y9]/\O'=St (Ws++Vs)/\BF B M n g b (Ws++Vs)/\(∀p,p<i->0<en M p (aX w)->∀x∈B.getD p [],x.toNat∈bV (Ws++Vs))/\∀x∈(B.getD i []).take j,x.toNat∈bV (Ws++Vs),⟨Vs,y9,(),(),GX,pr,λx hx=>(by cases hx)⟩,?_,?_⟩
    .rintro j x sl O' hx ⟨Vs,y9,rfl,rfl,GX,pr,pj⟩;let⟨hj,rfl⟩:=GB hx;let hxm:(B.getD i []).getD j 0∈B.getD i []:=jY hj;let⟨x0,xg⟩:=ok.hB i hi _ hxm;let xn:=rz x0;let Um:=GX.len;let ml2:(gG (Ws++Vs)).length=(Ws++Vs).length:=by unfold gG bV;simp
     apply⟨gG (Ws++Vs),UN,λhk=>?_,λhk=>?_⟩
     .let hk:(!jr (gG (Ws++Vs)) ((B.getD i []).getD j 0))=true:=hk;let hn:((B.getD i []).getD j 0).toNat∉bV (Ws++Vs):=λz=>by
       have:=(sf (Ws++Vs) _).mpr z;rw[xn] at this;rw[this] at hk;cases hk
      apply⟨gG (Ws++Vs),UN,⋯,?_⟩;rw[Vh];apply⟨⟨⟨_,AS⟩,_,_,AS,Th Vs,md,HM,?_,?_⟩⟩
      .rw[Zb,sz];have:=ow.len;show w.length+1<=_;omega
      .apply⟨_,AS,by rw[Zb,sz];omega,?_⟩;let ZQ:aX (w++[(i,((B.getD i []).getD j 0).toNat)])=((B.getD i []).getD j 0).toNat:=qe;let bf2:=GX.push (Y7 Vs wm) hi xg (by rw[xn];exact hxm) hp hn;let e2:putD (gG (Ws++Vs)) ((B.getD i []).getD j 0) (.bool true)=gG (Ws++Vs++[w++[(i,((B.getD i []).getD j 0).toNat)]]):=by
        rw[<- JY (by rw[ZQ];exact hn),ZQ,xn]
       let l2:bV (Ws++Vs++[w++[(i,((B.getD i []).getD j 0).toNat)]])=bV (Ws++Vs)++[((B.getD i []).getD j 0).toNat]:=by
        unfold bV;rw[Zs (l₁:=Ws++Vs),Zm,List.map_nil,ZQ]
       apply⟨Vs++[w++[(i,((B.getD i []).getD j 0).toNat)]],Φ9 (.int ((B.getD i []).getD j 0)),(),?_,by rw[<- Yr];exact bf2,λp hp h0 x hx=>?_,λx hx=>?_⟩
       .rw[Vi,e2,<- Yr];show O++[some (_++[_]),_]=O++[some ((Ws++Vs++[w++[(i,((B.getD i []).getD j 0).toNat)]]).map λw=>AV.im (eO w)),_];rw[Zs (l₁:=Ws++Vs)]
        congr 4
        show _=[AV.im (eO (w++[(i,((B.getD i []).getD j 0).toNat)]))];unfold eO;rw[Zs (l₁:=w)];show _=[AV.im (.list (w.map di++[.tuple [.int (i:Int),.int ((((B.getD i []).getD j 0).toNat:Nat):Int)]]))];rw[xn]
       .rw[<- Yr,l2];exact Y7 _ (pr p hp h0 x hx)
       .rw[<- Yr,l2];rw[MC (0:Int) hj] at hx;rcases Zv.mp hx with hx |hx
        .exact Y7 _ (pj x hx)
        .rw[Z1.mp hx];exact Yn _ (by simp)
     .let hk:(!jr (gG (Ws++Vs)) ((B.getD i []).getD j 0))=false:=hk;apply⟨Vs,Φ9 (.int ((B.getD i []).getD j 0)),(),(),GX,pr,λx hx=>?_⟩;rw[MC (0:Int) hj] at hx;rcases Zv.mp hx with hx |hx
      .exact pj x hx
      .rw[Z1.mp hx];apply(sf (Ws++Vs) _).mp ?_;rw[xn];cases z:jr (gG (Ws++Vs)) ((B.getD i []).getD j 0) with
       |true=>rfl
       |false=>rw[z] at hk;cases hk
    .rintro sl O' ⟨Vs,y9,rfl,rfl,GX,pr,pj⟩;rw[Zb,Zb,Yf] at pj;apply⟨Vs,_,_,(),(),GX,λp ZK h0 z hz=>?_⟩;by_cases e:p=i
     .subst e;exact pj z hz
     .exact pr p ⋯ h0 z hz
   .let hp:¬ 0<en M i (aX w):=of_decide_eq_false hp;apply⟨Vs,_,_,(),(),GX,λp ZK h0 x hx=>?_⟩;by_cases e:p=i
    .subst e;exact absurd h0 hp
    .exact pr p ⋯ h0 x hx
  .rintro sl O' ⟨Vs,y8,y9,rfl,rfl,GX,pr⟩;rw[gR,Tk,ml] at pr;apply⟨⟨_,(),g-a,⋯,Ws++Vs,a+1,Φ9 (.int ((aX w:Nat):Int)),y8,y9,⋯,?_,(),GX,λx hx=>?_,λt ht=>?_,by rw[Zt];omega⟩⟩
   .rfl
   .unfold bV;rw[Zs];exact Y7 _ (base x hx)
   .rcases Z3 t a with z |z
    .exact dn.app ha Vs t z
    .have:t=a:=⋯;subst this;rw[oo cG,hw];exact⟨hc,pr⟩
 .let hc:U.getD (aX w) 0≠0:=of_decide_eq_false hc;exact⟨⟨_,_,AS,Hs,h w _ ow hc (gr Ws)⟩⟩
def DT (h:t<w.length):fj (w.map di) ((t:Nat):Int)=some (di (bJ w t)):=aZ (jj h)
def yK:FM:=λO xs P _=>∃(B M:Γ1) (U:Γ3) (n g b k ku:Nat) (ks:List Nat) (w:m7) (left:Int),xs=[.im (eO w),.own k,.own ku,.im (.int left)]/\l8 O k ks M/\O[ku]?=some (cI U)/\yh M n g/\U.length=g/\g<=6/\kr B M n g b w/\0<left/\0<U.getD (aX w) 0/\∀c:Int,0<c->c<=left->c<=U.getD (aX w) 0->(∀t,t+1<w.length->c<=en M (bJ w (t+1)).1 (bJ w t).2)->P (.im (.int c)) O
abbrev Ol:Δ2:=["way","spent","unsold","left","bounds"]
def LD:MS:=(bu (bI (cN 3 [1,0] (HE (af (HI (ah 0) (HH (mC (.int 1))) HK) ay)) (kZ 2 (aE (bh 0) (aE (kZ 2 (aE (bh 1) (aE (bh 2) bY))) bY))) eu (bA cv (bA cv (ah 3) (ah 1)) (bA cv (bA cv (ah 4) (ah 0)) (mC (.int 1))))) (bh 4))
 (cK (jX NE (af (bA o6 (ah 4) (AN (af (bA cv (ah 2) (bA cv (bA cv (ah 0) (AM (mC (.int 1)))) (mC (.int 1)))) (af (ah 3) ay)))) ay))))
def IU:∀O xs Pq QX,yK O xs Pq QX->LD { nx:=λ_ O'=>Pq (.im .none) O',rt:=Pq } (aY Ol xs) O:=by
 intro O xs Pq QX h;let⟨B,M,U,n,g,b,k,ku,ks,w,left,rfl,tb,hu,sh,ul,g6,ok,l0,u0,h⟩:=h;let w0:=ok.ne;let wl:=ok.len;let abR:cutD (w.map di) (some 1) none=(w.drop 1).map di:=by
  have:=qm (xs:=w.map di) (r:=1) ⋯ (by rw[Zb];omega);rw[this,List.map_drop];rfl
 let RG:(w.drop 1).length=w.length-1:=by rw[Qo]
 let el:(cT ((w.drop 1).map di)).length=w.length-1:=by unfold cT;simp
 show CB 3 [1,0] _ _ _ _ _ (cT (cutD (w.map di) (some 1) none)) O;rw[abR];apply⟨by rw[el];omega,λi ds O'=>O'=O/\ds=(List.range i).map λt=>.int (en M (bJ w (t+1)).1 (bJ w t).2),⟨(),()⟩,?_,?_⟩
 .rintro i x ds O' hx ⟨rfl,rfl⟩;let⟨hi,rfl⟩:=i7 hx;rw[Zb,RG] at hi;let ed:((w.drop 1).map di).getD i .none=di (bJ w (i+1)):=by
   rw[jv (a:=((0,0):Nat×Nat)) (by rw[RG];exact hi)];unfold bJ
   congr 1
   simp[List.getD,List.getElem?_drop,Nat.add_comm]
  rw[ed];let⟨d1,d2,_⟩:=ok.vZ (i+1) ⋯;let⟨e1,e2,_⟩:=ok.vZ i ⋯;let⟨g1,g2,g3⟩:=tb.get (i:=(bJ w (i+1)).1) (j:=(bJ w i).2) (by rw[sh.len];exact d1) (by rw[sh.row _ d1];exact e2);apply⟨(),(),λ_=>⟨_,_,tb.hd,g1,_,DT ⋯,_,(),_,_,g2,g3,(),?_⟩,λz=>(by cases z)⟩;rw[Y3,Zs];rfl
 .rintro ds O' ⟨rfl,rfl⟩;rw[el];let R6:fj (U.map λx=>AV.im (PyData.int x)) ((aX w:Nat):Int)=some (AV.im (.int (U.getD (aX w) 0))):=aZ (jj (by rw[ul];exact(ok.vZ (w.length-1) ⋯).2.1));apply⟨_,kH w0,_,(),_,_,hu,R6,md,?_,((List.range (w.length-1)).map λt=>en M (bJ w (t+1)).1 (bJ w t).2)++[U.getD (aX w) 0,left],?_,by simp,λc hc hm=>?_⟩
  .rw[Zb,Yk,sz];show w.length-1+2<=_;omega
  .rw[Zs,Zp];rfl
  .let d4:0<c:=by
    rcases Zv.mp hc with z |z
    .obtain⟨t,ht,rfl⟩:=Zd.mp z;have:=Zi.mp ht;exact ok.lnk t ⋯
    .rcases Zj.mp z with rfl |z
     .exact u0
     .rw[Z1.mp z];exact l0
   exact h c d4 (hm _ (Yn _ (by simp))) (hm _ (Yn _ (by simp))) λt ht=>hm _ (Y7 _ (Zd.mpr ⟨t,Zi.mpr ⋯,()⟩))
structure Hq (O O':bE)(ks:List Nat):Prop where
 len:O'.length=O.length
 Gy:∀m:Nat,m∉ks->O'[m]?=O[m]?
def Hq.refl (O:bE)(ks:List Nat):Hq O O ks:=⟨(),λ_ _=>rfl⟩
def Hq.set (h:Hq O O' ks)(hm:m∈ks)(c:Option (List AV)):Hq O (O'.set m c) ks:=⟨by rw[Yp];exact h.len,λj hj=>by rw[Z7 (λ(e:m=j)=>hj (e▸hm))];exact h.Gy j hj⟩
def yG:FM:=λO xs P _=>∃(B M:Γ1) (n g b k:Nat) (ks:List Nat) (w:m7) (c:Int),xs=[.im (eO w),.own k,.im (.int c)]/\l8 O k ks M/\(k::ks).Nodup/\yh M n g/\kr B M n g b w/\∀O',l8 O' k ks (bX M w c w.length)->Hq O O' ks->P (.im .none) O'
abbrev UX:Δ2:=["way","spent","coins","at","payer","good"]
def Lx:MS:=(kc (HE (af (ah 0) ay)) (kZ 2 (aE (bh 3) (aE (kZ 2 (aE (bh 4) (aE (bh 5) bY))) bY))) (bu (yB (bA cv (ah 1) (ah 4)) (ah 5) (wE λi j=>i+j) (ah 2))
 (li (dD (bA Hm (ah 3) (mC (.int 0)))) (yB (bA cv (ah 1) (ah 4)) (bA cv (bA cv (ah 0) (bA Tr (ah 3) (mC (.int 1)))) (mC (.int 1))) (wE λi j=>i-j) (ah 2)) gj)))
theorem uz (s:yh M n g)(ok:kr B M n g b w):∀t,t<=w.length->yh (bX M w c t) n g
 |0,_=>s
 |t+1,ht=>by
  let ih:=uz (c:=c) s ok t ⋯;let d1:=(ok.vZ t ⋯).1;show yh (if 0<t then _ else _) n g;split
  .exact iY (iY ih d1 _) d1 _
  .exact iY ih d1 _
def IN:∀O xs Pq QX,yG O xs Pq QX->Lx { nx:=λ_ O'=>Pq (.im .none) O',rt:=Pq } (aY UX xs) O:=by
 intro O xs Pq QX h;let⟨B,M,n,g,b,k,ks,w,c,rfl,tb,nd,sh,ok,h⟩:=h;let el:(cT (w.map di)).length=w.length:=by unfold cT;simp
 conv=>whnf
 apply⟨λi sl O'=>∃y3 y4 y5:Option AV,sl=[Φ9 (eO w),some (.own k),Φ9 (.int c),y3,y4,y5]/\l8 O' k ks (bX M w c i)/\Hq O O' ks,⟨none,none,none,(),tb,Hq.refl _ _⟩,?_,?_⟩
 .rintro i x sl O' hx ⟨y3,y4,y5,rfl,t1,Gy⟩;let⟨hi,rfl⟩:=i7 hx;rw[Zb] at hi;rw[show(w.map di).getD i .none=di (bJ w i) from jv hi];let⟨d1,d2,_⟩:=ok.vZ i hi;let s1:=uz (c:=c) sh ok i ⋯;let kl:ks.length=n:=by rw[t1.len,s1.len]
  let Up:ks.getD (bJ w i).1 0∈ks:=mem_getD ⋯;let⟨g1,g2,g3⟩:=t1.get (i:=(bJ w i).1) (j:=(bJ w i).2) (by rw[s1.len];exact d1) (by rw[s1.row _ d1];exact d2);apply⟨(),(),_,_,t1.hd,g1,_,_,_,g2,g3,DG (by rw[Zb,s1.row _ d1];exact d2),_,g2,(),?_⟩;show Go _ _ [Φ9 (eO w),some (.own k),Φ9 (.int c),Φ9 (.int (i:Int)),Φ9 (.int ((bJ w i).1:Int)),Φ9 (.int ((bJ w i).2:Int))] (O'.set (ks.getD (bJ w i).1 0) (some ((((bX M w c i).getD (bJ w i).1 []).map λx=>AV.im (PyData.int x)).set (bJ w i).2 (.im (.int (en (bX M w c i) (bJ w i).1 (bJ w i).2+c))))));rw[wI];let t2:=t1.put (((bX M w c i).getD (bJ w i).1 []).set (bJ w i).2 (en (bX M w c i) (bJ w i).1 (bJ w i).2+c)) (i:=(bJ w i).1) (by rw[s1.len];exact d1) nd;let TV:=Gy.set Up (cI (((bX M w c i).getD (bJ w i).1 []).set (bJ w i).2 (en (bX M w c i) (bJ w i).1 (bJ w i).2+c)))
  change l8 _ k ks (fM (bX M w c i) (bJ w i).1 (bJ w i).2 c) at t2
  let s2:=iY (j:=(bJ w i).2) s1 d1 c;apply⟨λhc=>?_,λhc=>?_⟩
  .let hc:0<i:=by have:=of_decide_eq_true hc;omega
   let⟨e1,e2,_⟩:=ok.vZ (i-1) ⋯;let⟨g1,g2,g3⟩:=t2.get (i:=(bJ w i).1) (j:=(bJ w (i-1)).2) (by rw[s2.len];exact d1) (by rw[s2.row _ d1];exact e2);let wa:fj (w.map di) ((i:Int)-1)=some (di (bJ w (i-1))):=by
    have:=DT (w:=w) (t:=i-1) ⋯
    rwa [show((i-1:Nat):Int)=(i:Int)-1 by omega] at this
   apply⟨_,_,t2.hd,g1,_,wa,_,(),_,_,_,g2,g3,DG (by rw[Zb,s2.row _ d1];exact e2),_,g2,(),?_⟩;apply⟨_,_,_,(),?_,?_⟩
   .show l8 (List.set _ _ (some ((((fM (bX M w c i) (bJ w i).1 (bJ w i).2 c).getD (bJ w i).1 []).map λx=>AV.im (PyData.int x)).set (bJ w (i-1)).2 (.im (.int (en (fM (bX M w c i) (bJ w i).1 (bJ w i).2 c) (bJ w i).1 (bJ w (i-1)).2-c)))))) k ks _;rw[wI,Int.sub_eq_add_neg];let un:bX M w c (i+1)=fM (fM (bX M w c i) (bJ w i).1 (bJ w i).2 c) (bJ w i).1 (bJ w (i-1)).2 (-c):=by show(if 0<i then _ else _)=_;rw[if_pos hc]
    rw[un];exact t2.put _ (by rw[s2.len];exact d1) nd
   .exact TV.set Up _
  .let hc:¬ 0<i:=by have:=of_decide_eq_false hc;omega
   let un:bX M w c (i+1)=fM (bX M w c i) (bJ w i).1 (bJ w i).2 c:=by show(if 0<i then _ else _)=_;rw[if_neg hc]
   exact⟨_,_,_,(),by rw[un];exact t2,TV⟩
 .rintro sl O' ⟨y3,y4,y5,rfl,t1,Gy⟩;rw[el] at t1;exact h O' t1 Gy
structure N2 (B:Γ1)(ms ps:Γ3)(n g:Nat):Prop where
 ml:ms.length=g
 pl:ps.length=n
 bl:B.length=n
 n6:n<=6
 g6:g<=6
 m0:∀j,j<g->0<=ms.getD j 0
 p0:∀i,i<n->0<=ps.getD i 0
 hB:∀i,i<n->∀x∈B.getD i [],0<=x/\x.toNat<g
 b6:∀i,i<n->(B.getD i []).length<=6
 nd:∀i,i<n->(B.getD i []).Nodup
 oY:Oq B ms ps n g
 Rf:sm g (λj=>ms.getD j 0)=sm n (λi=>ps.getD i 0)
def rF:FM:=λO xs P _=>∃(B:Γ1) (ms ps:Γ3) (n g:Nat),xs=[.im (.tuple (B.map aS)),.im (cy ms),.im (cy ps)]/\N2 B ms ps n g/\∀(M:Γ1) (O':bE),yO B M ms ps n g->dJ O O'->P (.im (T4 M)) O'
abbrev Oj:Δ2:=["best","money","purses","spent","unsold","buyer","purse","left","way","coins"]
def Em:MS:=(bu (bI (lx 1 [1] (cM (ah 2)) (bh 0) eu (lx 1 [] (cM (ah 1)) (bh 0) eu (mC (.int 0)))) (bh 3))
 (bu (bI (jX NG (af (ah 1) ay)) (bh 4))
 (bu (kc (HE (af (ah 2) ay)) (kZ 2 (aE (bh 5) (aE (bh 6) bY))) (bu (bI (ah 6) (bh 7))
 (rE (dD (bA Hm (ah 7) (mC (.int 0)))) (bu (bI (aG HY cQ (af (ah 0) (af (ah 3) (af (ah 4) (af (ah 5) ay))))) (bh 8))
 (bu (bI (aG yK cQ (af (ah 8) (af (ah 3) (af (ah 4) (af (ah 7) ay))))) (bh 9))
 (bu (pF (aG yG cQ (af (ah 8) (af (ah 3) (af (ah 9) ay)))))
 (bu (yB (ah 4) (bA cv (bA cv (ah 8) (AM (mC (.int 1)))) (mC (.int 1))) (wE λi j=>i-j) (ah 9))
 (DC 7 (wE λi j=>i-j) (ah 9)))))))))
 (yA 3 (cK (ah 3))))))
structure tW (O O':bE)(k ku:Nat)(ks:List Nat)(M:Γ1)(U:Γ3):Prop where
 one:One O O' k ks M
 Wn:O.length<=ku
 R5:ku∉k::ks
 u:O'[ku]?=some (cI U)
def tW.jt (s:tW O O1 k ku ks M U)(h:dJ O1 O2):tW O O2 k ku ks M U:=by
 apply⟨⟨?_,s.one.ge,s.one.nd,s.one.t.jt h⟩,s.Wn,s.R5,?_⟩
 .obtain⟨a,rfl⟩:=s.one.jt;let⟨b,rfl⟩:=h;exact⟨a++b,by rw[Yr]⟩
 .obtain⟨b,rfl⟩:=h;rw[Zq (Zf.mp s.u).1];exact s.u
def FV (g:dJ O O1)(o:Hq O1 O2 ks)(h:∀x∈ks,O.length<=x):dJ O O2:=by
 let⟨a,rfl⟩:=g;apply⟨O2.drop O.length,?_⟩;let e:O2.take O.length=O:=by
  apply Ql λi=>?_
  rw[List.getElem?_take];split
  .rename_i hi;rw[o.Gy i (λz=>by have:=h i z;omega),Zq hi]
  .rename_i hi;rw[Yu (Xd hi)]
 have:=(List.take_append_drop O.length O2).symm;rw[e] at this;exact this
def i8:en (List.replicate n (List.replicate g (0:Int))) i j=0:=by
 unfold en;by_cases hi:i<n
 .rw[show(List.replicate n (List.replicate g (0:Int))).getD i []=List.replicate g 0 by simp[List.getD,Y8,hi]];by_cases hj:j<g
  .simp[List.getD,Y8,hj]
  .simp[List.getD,Y8,hj]
 .rw[show(List.replicate n (List.replicate g (0:Int))).getD i []=[] by simp[List.getD,Y8,hi]];simp[List.getD]
def E5:∀O xs Pq QX,rF O xs Pq QX->Em { nx:=λ_ O'=>Pq (.im .none) O',rt:=Pq } (aY Oj xs) O:=by
 intro O xs Pq QX h;let⟨B,ms,ps,n,g,rfl,ok,h⟩:=h;let ml:=ok.ml;let pl:=ok.pl;let n6:=ok.n6;let g6:=ok.g6;letI Z:Γ1:=List.replicate n (List.replicate g (0:Int));let zl:Z.length=n:=Qn;let zr:∀i,i<n->Z.getD i []=List.replicate g 0:=λi hi=>by simp[Z,List.getD,Y8,hi]
 conv=>whnf
 let hl:((ps.map PyData.int).map AV.im).length=n:=by simp[pl]
 apply⟨⋯,λi zs O'=>zs=qL O.length i/\O'=O++(Z.take i).map cI,⟨(),by simp⟩,?_,?_⟩
 .rintro i x zs O' hx ⟨rfl,rfl⟩;let hi:i<n:=by have:=(Zf.mp hx).1;omega
  apply⟨λ_=>?_,λz=>(by cases z)⟩;conv=>whnf
  apply qq (λ_ d=>d=.im (.int 0)) (by rw[Zb,Zb];omega) (λj x Z hx hZ=>hZ _ rfl) (λzs YT hz=>?_);rw[Zb,Zb,ml] at YT;let ez:zs=(List.replicate g (0:Int)).map λx=>AV.im (PyData.int x):=by
   apply Ql λj=>?_
   rw[List.map_replicate,Y8];by_cases hj:j<zs.length
   .rw[if_pos ⋯,Zc hj,hz j _ (Zc hj)]
   .rw[if_neg ⋯,Yu (Xd hj)]
  subst ez;apply⟨?_,?_⟩
  .rw[Bs];simp[Nat.min_eq_left (Nat.le_of_lt hi),zl]
  .rw[List.take_add_one,Zc (show i<Z.length by omega),Zs,<- Yr]
   congr 1
   have:=zr i hi;rw[ap (Zc (show i<Z.length by omega))] at this;show _=[cI Z[i]];rw[this];rfl
 rintro zs O' ⟨rfl,rfl⟩;rw[hl,show Z.take n=Z by rw[<- zl,Yf],Yr];let eL:(O++Z.map cI).length=O.length+n:=by simp[zl]
 rw[eL];let qM:One O (O++(Z.map cI++[some (qL O.length n)])) (O.length+n) ((List.range n).map λt=>O.length+t) Z:=by
  apply⟨⟨_,()⟩,λx hx=>?_,?_,⟨?_,by simp[zl],λi hi=>?_⟩⟩
  .rcases Zj.mp hx with rfl |hx
   .omega
   .obtain⟨t,_,rfl⟩:=Zd.mp hx;omega
  .apply Z9.mpr ⟨λhx=>?_,?_⟩
   .obtain⟨t,ht,e⟩:=Zd.mp hx;have:=Zi.mp ht;omega
   .exact List.Pairwise.map _ (λa b RI=>⋯) Xz
  .have:=Gv cI O (some (qL O.length n)) Z;rw[zl] at this;rw[this,Ft]
  .rw[zl] at hi;have:((List.range n).map λt=>O.length+t).getD i 0=O.length+i:=by simp[List.getD,Yq hi]
   rw[this];exact Kl cI O _ Z i [] ⋯
 generalize hk:O.length+n=k at qM ⊢;generalize hks:((List.range n).map λt=>O.length+t)=ks at qM;generalize hO1:O++(Z.map cI++[some (qL O.length n)])=O1 at qM ⊢;show Go _ _ [Φ9 (.tuple (B.map aS)),Φ9 (cy ms),Φ9 (cy ps),some (.own k),none,none,none,none,none,none] O1;apply⟨?_⟩;let l1:k<O1.length:=(Zf.mp qM.t.hd).1;let Kv:tW O (O1++[cI ms]) k O1.length ks Z ms:=by
  apply⟨⟨qM.jt.app _,qM.ge,qM.nd,qM.t.app _⟩,?_,λz=>?_,by simp⟩
  .obtain⟨t,rfl⟩:=qM.jt;simp
  .rcases Zj.mp z with e |z
   .omega
   .rw[<- hks] at z;let⟨t,ht,e⟩:=Zd.mp z;have:=Zi.mp ht;omega
 let sp0:KW B Z ms ms n g:=by
  apply⟨⟨zl,λi hi=>by rw[zr i hi];simp⟩,λi j=>by rw[i8];exact Y5 _,λi j _ _ h0=>?_,ml,ok.m0,λj hj=>?_⟩
  .rw[i8] at h0;omega
  .have:oZ Z n j=0:=eS λi _=>i8
   omega
 let Ny:∀i,eW Z g i=0:=λi=>eS λj _=>i8
 show Go _ _ [Φ9 (.tuple (B.map aS)),Φ9 (cy ms),Φ9 (cy ps),some (.own k),some (.own O1.length),none,none,none,none,none] (O1++[some ((ms.map PyData.int).map AV.im)]);rw[show(some ((ms.map PyData.int).map AV.im):Option (List AV))=cI ms by rw[Zp];rfl];generalize O1.length=ku at Kv ⊢;generalize O1++[cI ms]=O2 at Kv ⊢;let el:(cT (ps.map PyData.int)).length=n:=by unfold cT;simp[pl]
 apply⟨?_⟩;conv=>whnf
 apply⟨λi sl O'=>∃(M:Γ1) (U:Γ3) (y5 y6 y7 y8 y9:Option AV),sl=[Φ9 (.tuple (B.map aS)),Φ9 (cy ms),Φ9 (cy ps),some (.own k),some (.own ku),y5,y6,y7,y8,y9]/\tW O O' k ku ks M U/\KW B M U ms n g/\(∀j,j<i->j<n->eW M g j=ps.getD j 0)/\∀j,i<=j->j<n->eW M g j=0,⟨Z,ms,none,none,none,none,none,(),Kv,sp0,λj hj=>absurd hj ⋯,λj _ _=>Ny j⟩,?_,?_⟩
 .rintro i x sl O' hx ⟨M,U,y5,y6,y7,y8,y9,rfl,st,sp,old,new⟩;let⟨hi,rfl⟩:=i7 hx;rw[Zb,pl] at hi;rw[show(ps.map PyData.int).getD i .none=.int (ps.getD i 0) from jv ⋯];apply⟨(),⟨?_⟩⟩;show Go _ _ [Φ9 (.tuple (B.map aS)),Φ9 (cy ms),Φ9 (cy ps),some (.own k),some (.own ku),Φ9 (.int (i:Int)),Φ9 (.int (ps.getD i 0)),Φ9 (.int (ps.getD i 0)),y8,y9] O';apply⟨⟨λm sl O'=>∃(M:Γ1) (U:Γ3) (left:Int) (y8 y9:Option AV),m=left.toNat/\0<=left/\sl=[Φ9 (.tuple (B.map aS)),Φ9 (cy ms),Φ9 (cy ps),some (.own k),some (.own ku),Φ9 (.int (i:Int)),Φ9 (.int (ps.getD i 0)),Φ9 (.int left),y8,y9]/\tW O O' k ku ks M U/\KW B M U ms n g/\SpO M ps g n i left,⟨_,M,U,ps.getD i 0,y8,y9,(),ok.p0 i hi,(),st,sp,⟨λj hj hn=>old j hj hn,λ_=>by rw[new i (Ze _) hi];omega,λj hj hn=>new j ⋯ hn⟩⟩,?_⟩⟩;rintro m sl O3 ⟨M,U,left,y8,y9,rfl,l0,rfl,st,sp,so⟩;apply⟨λhc=>?_,λhc=>?_⟩
  .let hc:0<left:=of_decide_eq_true hc;let wy:UP B M U ms ps n g i:=by
    apply⟨sp,ok.oY,hi,ok.bl,n6,g6,ok.hB,ok.b6,ok.nd,λj hj=>?_,by have:=so.now hi;omega⟩;rcases Nat.lt_trichotomy j i with z |z |z
    .rw[so.old j z hj];exact Y5 _
    .subst z;have:=so.now hi;omega
    .rw[so.new j z hj];exact ok.p0 j hj
   apply⟨B,M,U,ms,ps,n,g,i,k,ku,ks,(),st.one.t,st.u,wy,λw O4 Sj hu4 gr4=>?_⟩;let vM:=st.jt gr4;let w0:=Sj.ne;let SM:aX w<g:=(Sj.vZ (w.length-1) ⋯).2.1;let hu0:0<U.getD (aX w) 0:=by have:=sp.u0 _ SM;omega
   show Go _ _ [Φ9 (.tuple (B.map aS)),Φ9 (cy ms),Φ9 (cy ps),some (.own k),some (.own ku),Φ9 (.int (i:Int)),Φ9 (.int (ps.getD i 0)),Φ9 (.int left),Φ9 (eO w),y9] O4;apply⟨⟨B,M,U,n,g,i,k,ku,ks,w,left,(),vM.one.t,vM.u,sp.sL,sp.ul,g6,Sj,hc,hu0,λc c0 cl cu cw=>?_⟩⟩;show Go _ _ [Φ9 (.tuple (B.map aS)),Φ9 (cy ms),Φ9 (cy ps),some (.own k),some (.own ku),Φ9 (.int (i:Int)),Φ9 (.int (ps.getD i 0)),Φ9 (.int left),Φ9 (eO w),Φ9 (.int c)] O4;apply⟨⟨B,M,n,g,i,k,ks,w,c,(),vM.one.t,vM.one.nd,sp.sL,Sj,λO5 t5 Gy=>?_⟩⟩;let sK:tW O O5 k ku ks (bX M w c w.length) U:=⟨⟨FV vM.one.jt Gy λx hx=>vM.one.ge x (Zk _ hx),vM.one.ge,vM.one.nd,t5⟩,vM.Wn,vM.R5,by rw[Gy.Gy ku (λz=>vM.R5 (Zk _ z))];exact vM.u⟩;let⟨sp6,so6⟩:=IJ sp so Sj ⋯ cw cu;let ul:=sp.ul;let R6:fj (U.map λx=>AV.im (PyData.int x)) ((aX w:Nat):Int)=some (AV.im (.int (U.getD (aX w) 0))):=aZ (jj ⋯);apply⟨⟨_,kH w0,_,(),_,_,_,sK.u,R6,DG (by rw[Zb];show aX w<_;omega),_,sK.u,(),?_⟩⟩;show Go _ _ [Φ9 (.tuple (B.map aS)),Φ9 (cy ms),Φ9 (cy ps),some (.own k),some (.own ku),Φ9 (.int (i:Int)),Φ9 (.int (ps.getD i 0)),Φ9 (.int left),Φ9 (eO w),Φ9 (.int c)] (O5.set ku (some ((U.map λx=>AV.im (PyData.int x)).set (aX w) (.im (.int (U.getD (aX w) 0-c))))));rw[wI];let st6:tW O (O5.set ku (cI (U.set (aX w) (U.getD (aX w) 0-c)))) k ku ks (bX M w c w.length) (U.set (aX w) (U.getD (aX w) 0-c)):=⟨⟨sK.one.jt.set sK.Wn _,sK.one.ge,sK.one.nd,sK.one.t.other _ sK.R5⟩,sK.Wn,sK.R5,by rw[Yg (Zf.mp sK.u).1]⟩;exact⟨⟨_,(),(left-c).toNat,⋯,_,_,left-c,Φ9 (eO w),Φ9 (.int c),(),⋯,(),st6,sp6,so6⟩⟩
  .let hc:¬ 0<left:=of_decide_eq_false hc;let e0:left=0:=⋯;subst e0;apply⟨M,U,_,_,_,_,_,(),st,sp,λj hj hn=>?_,λj hj hn=>so.new j ⋯ hn⟩;rcases Z3 j i with z |z
   .exact so.old j z hn
   .have:j=i:=⋯;subst this;have:=so.now hi;omega
 .rintro sl O' ⟨M,U,y5,y6,y7,y8,y9,rfl,st,sp,old,new⟩;rw[el] at old;apply⟨st.one.ic rfl λO2 gr=>?_⟩;exact h M O2 (A8 sp (λj hj=>old j hj hj) ok.Rf) gr
structure lB (A:Γ3)(Pu:Δ1)(W:Γ1)(qs:Δ1)(kb:Nat)(c:Int)(ms ps:Γ3)(M:Γ1):Prop where
 c0:0<c
 im:cW c ms (gd A qs)
 ip:cW c ps Pu
 mb:∀m∈ms,Bd (13*kb+79) m
 pb:∀m∈ps,Bd (13*kb+79) m
 sp:yO (ak W qs) M ms ps Pu.length A.length
structure U4 (A:Γ3)(Pu:Δ1)(W:Γ1)(qs:Δ1)(kb:Nat):Prop where
 pr:nT A Pu W qs
 k2:20<=kb
 k3:kb<=2010000
 bd:∀z∈qs,Rb kb z
 ok:∀(c:Int) (ms ps:Γ3),0<c->cW c ms (gd A qs)->cW c ps Pu->N2 (ak W qs) ms ps Pu.length A.length
def Ij:FM:=λO xs P _=>∃(A:Γ3) (Pu:Δ1) (W:Γ1) (qs:Δ1) (kb:Nat),xs=[.im (eN A Pu W),.im (.tuple (qs.map qD))]/\U4 A Pu W qs kb/\∀(c:Int) (ms ps:Γ3) (M:Γ1) (O':bE),lB A Pu W qs kb c ms ps M->dJ O O'->P (.im (C6 (cF A ms M))) O'
abbrev U2:Δ2:=["market","prices","money","purses"]
def Uj:MS:=(bu (bI (aG wC cQ (af (ah 0) (af (ah 1) ay))) (kZ 2 (aE (bh 2) (aE (bh 3) bY))))
 (cK (aG Ii cQ (af (ah 0) (af (ah 2) (af (aG rF cQ (af (aG w8 cQ (af (ah 0) (af (ah 1) ay))) (af (ah 2) (af (ah 3) ay)))) ay))))))
def DP (s:yO B M ms ps n g)(hi:i<n)(hj:j<g):en M i j<=ms.getD j 0/\en M i j<=ps.getD i 0:=by
 constructor
 .rw[<- s.col j hj];exact lE (f:=λi=>en M i j) (λi _=>s.nn i j) hi
 .rw[<- s.row i hi];exact lE (f:=λj=>en M i j) (λj _=>s.nn i j) hj
def OT:∀O xs Pq QX,Ij O xs Pq QX->Uj { nx:=λ_ O'=>Pq (.im .none) O',rt:=Pq } (aY U2 xs) O:=by
 intro O xs Pq QX h;let⟨A,Pu,W,qs,kb,rfl,ok,h⟩:=h;let mf:=sY ok.pr.ok;let hl:=ok.pr.len;apply⟨A,Pu,W,qs,kb,(),hl,mf.g6,mf.n6,mf.am,λz hz=>(mf.pu z hz).2,ok.k3,ok.k2,ok.bd,λc ms ps hc im ip mb pb=>?_⟩;apply⟨(),?_⟩;show Go _ _ [Φ9 (eN A Pu W),Φ9 (.tuple (qs.map qD)),Φ9 (cy ms),Φ9 (cy ps)] O;let so:=ok.ok c ms ps hc im ip;let k3:=ok.k3;apply⟨⟨A,Pu,W,qs,(),ok.pr,ak W qs,ms,ps,_,_,(),so,λM O' sp gr=>?_⟩⟩;let ml:=sp.sL.len;apply⟨A,Pu,W,ms,M,(),mf.g6,by rw[ml];exact mf.n6,so.ml,λi hi=>sp.sL.row i ⋯,λi j hi hj h0=>?_,h c ms ps M O' ⟨hc,im,ip,mb,pb,sp⟩ gr⟩;rw[ml] at hi;let h1:=(DP sp hi hj).1;let h2:=mb _ (jY (d:=0) (show j<ms.length by rw[so.ml];exact hj));let h3:=mf.am _ (jY (d:=0) hj);apply⟨⟨⋯,h2.mono ⋯⟩,(h2.mono (show _<=66000000 by omega)).le ⋯,?_⟩;exact UM ⋯
abbrev CT:=Γ3×Rat×Δ1
inductive fc (A:Γ3) (Pu:Δ1) (W:Γ1):Δ1->List CT->Prop
 |stop {qs:Δ1}:cU A Pu W qs->lc A Pu qs W A.length->(∀Pd,bZ A Pu qs W A.length Pd->aM A.length W Pd=[])->fc A Pu W qs []
 |step {qs:Δ1}{Pd:Γ3}{f:Rat}{L:List CT}:cU A Pu W qs->lc A Pu qs W A.length->bZ A Pu qs W A.length Pd->aM A.length W Pd≠[]->jA (io A Pu qs W A.length Pd) f->fc A Pu W (db qs Pd f) L->fc A Pu W qs ((Pd,f,db qs Pd f)::L)
def kh (s:CT):PyData:=.tuple [aS s.1,qD s.2.1,.tuple (s.2.2.map qD)]
def headD (L:List CT):PyData:=match L with
 |[]=>.none
 |s::_=>kh s
def eC (qs:Δ1)(L:List CT):Δ1:=match L.getLast? with
 |some s=>s.2.2
 |none=>qs
def pV (s:fc A Pu W qs L)(h:P (.im (headD L)) O):pH O [.im (eN A Pu W),.im (.tuple (qs.map qD))] P X:=by
 cases s with
 |stop rp c8 no=>exact⟨A,Pu,W,qs,(),rp,c8,λ_ _ _=>h,λPd f pd hr _=>absurd (no Pd pd) hr⟩
 |step rp c8 pd hr hm _=>exact⟨A,Pu,W,qs,(),rp,c8,λPd' Si j8=>absurd (Si.uniq pd▸j8) hr,λPd' f' Si _ WN=>by
   let e1:=Si.uniq pd;subst e1;let e2:=WN.uniq hm;subst e2;exact h⟩
def mQ:FM:=λO xs P _=>∃(A:Γ3) (Pu:Δ1) (W:Γ1) (qs:Δ1) (L:List CT),xs=[.im (eN A Pu W),.im (.tuple (qs.map qD))]/\fc A Pu W qs L/\L.length<=1000000/\∀O',dJ O O'->P (.im (.list (L.map kh))) O'
abbrev UY:Δ2:=["market","prices","told","step"]
def zJ:MS:=(bu (bI (HJ ay) (bh 2))
 (bu (bI (aG pH cQ (af (ah 0) (af (ah 1) ay))) (bh 3))
 (bu (rE (dD (bA (si true) (ah 3) (mC .none))) (bu (pF (C7 (ah 2) (af (ah 3) ay)))
 (bI (aG pH cQ (af (ah 0) (af (bA cv (ah 3) (mC (.int 2))) ay))) (bh 3))))
 (Uh 2 (cK (ah 2))))))
def Bj:∀O xs Pq QX,mQ O xs Pq QX->zJ { nx:=λ_ O'=>Pq (.im .none) O',rt:=Pq } (aY UY xs) O:=by
 intro O xs Pq QX h;let⟨A,Pu,W,qs,L,rfl,st,hL,h⟩:=h;apply⟨NJ,?_⟩;show Go _ _ [Φ9 (eN A Pu W),Φ9 (.tuple (qs.map qD)),some (.own O.length),none] (O++[some []]);apply⟨pV (X:=cQ) (P:=λx O1=>Go _ _ [Φ9 (eN A Pu W),Φ9 (.tuple (qs.map qD)),some (.own O.length),some x] O1) st ?_⟩;show Go _ _ [Φ9 (eN A Pu W),Φ9 (.tuple (qs.map qD)),some (.own O.length),Φ9 (headD L)] (O++[some []]);letI Iv:Nat->j9->bE->Prop:=λm sl O'=>∃(L1 L2:List CT) (q2:Δ1),L=L1++L2/\m=L2.length/\sl=[Φ9 (eN A Pu W),Φ9 (.tuple (qs.map qD)),some (.own O.length),Φ9 (headD L2)]/\O'=O++[some ((L1.map kh).map AV.im)]/\fc A Pu W q2 L2
 apply⟨⟨Iv,⟨L.length,[],L,qs,(),(),(),(),st⟩,?_⟩⟩;rintro m sl O' ⟨L1,L2,q2,eL,rfl,rfl,rfl,fu⟩;cases fu with
 |stop rp c8 no =>
  apply⟨λz=>absurd z ∅,λ_=>⟨⟨O.length,L1.map kh,(),jO _ _,?_⟩⟩⟩;rw[Yh] at eL;subst eL;rw[rQ];exact h _ ⟨_,()⟩
 |step rp c8 pd hr hm Sb =>
  rename_i Pd f L3;apply⟨λ_=>?_,λz=>(by cases z)⟩;let dg:L1.length+(L3.length+1)<=1000000:=by rw[eL] at hL;simpa using hL
  apply⟨⟨_,jO _ _⟩,_,jO _ _,by rw[Zb,Zb,sz];omega,?_⟩;rw[rQ];show Go _ _ [Φ9 (eN A Pu W),Φ9 (.tuple (qs.map qD)),some (.own O.length),Φ9 (headD ((Pd,f,db q2 Pd f)::L3))] _;apply⟨⟨_,(),pV (X:=cQ) (P:=λx O1=>∃m',m'<((Pd,f,db q2 Pd f)::L3).length/\Iv m' [Φ9 (eN A Pu W),Φ9 (.tuple (qs.map qD)),some (.own O.length),some x] O1) Sb ⟨L3.length,by simp,L1++[(Pd,f,db q2 Pd f)],L3,_,by rw[eL];simp,(),(),?_,Sb⟩⟩⟩;rw[Zs,Zs];rfl
def Ia:FM:=λO xs P _=>∃(qs:Δ1) (L:List CT),xs=[.im (.tuple (qs.map qD)),.im (.list (L.map kh))]/\P (.im (.tuple ((eC qs L).map qD))) O
abbrev U1:Δ2:=["prices","told"]
def Ub:MS:=(cK (Ss (AK (ah 1)) (bA cv (bA cv (ah 1) (AM (mC (.int 1)))) (mC (.int 2))) (ah 0)))
def OM:∀O xs Pq QX,Ia O xs Pq QX->Ub { nx:=λ_ O'=>Pq (.im .none) O',rt:=Pq } (aY U1 xs) O:=by
 intro O xs Pq QX h;let⟨qs,L,rfl,h⟩:=h;apply⟨(),?_⟩;show((!(L.map kh).isEmpty)=true->_)/\((!(L.map kh).isEmpty)=false->_);rw[Jc];apply⟨λe=>?_,λe=>?_⟩
 .let bD:L≠[]:=λz=>by subst z;cases e
  obtain⟨s,hs⟩:∃s,L.getLast?=some s:=by
   cases hg:L.getLast? with
   |none=>exact absurd (List.getLast?_eq_none_iff.mp hg) bD
   |some s=>exact⟨s,()⟩
  let hp:0<L.length:=Xn.mpr bD;let hL:L.getD (L.length-1) ([],0,[])=s:=by
   rw[List.getLast?_eq_getElem?] at hs;exact ap hs
  let ha:fj (L.map kh) (-1)=some (kh s):=by
   rw[EL (d:=.none) (by rw[Zb];exact hp),Zb,jv (a:=([],0,[])) ⋯,hL]
  apply⟨_,ha,_,(),?_⟩;unfold eC at h;rw[hs] at h;exact h
 .let bD:L=[]:=by cases L with |nil=>rfl |cons _ _=>cases e
  subst bD;exact h
def LV:FM:=λO xs P _=>∃(A:Γ3) (Pu:Δ1) (W:Γ1),xs=[.im (eN A Pu W)]/\gh (eN A Pu W)=true/\(∀r∈W,bw A.length r)/\∀qs,fz A Pu W A.length qs->P (.im (.tuple (qs.map qD))) O
def VT:tH K Nu LV:=λw O H vs xs P PX Q E r a hf q x=>by
 let⟨A,Pu,W,rfl,ok,good,hf⟩:=hf;let⟨v,us,rfl,a1,a2⟩:=a.bv;rw[a2.cD];let⟨p,pa,pp,pw,xa,xp,xw,rfl,mk,la,lp⟩:=ND 0 a1 ok;apply⟨0,p,pa,pp,pw,xa,xp,xw,_,_,_,(),mk,by rw[KD,la];exact good,λt ys qs H' s ht fr hF=>?_⟩;rw[on,gz,KD,la] at hF;let⟨r1,e1,_⟩:=r.ar s;exact q _ _ O w H' (hf qs hF) e1 r1 (XR r1 (.tup ht (EA (b:=0) fr)) (rk qs))
def yI:FM:=λO xs P _=>∃(A:Γ3) (Pu:Δ1) (W:Γ1),xs=[.im (eN A Pu W)]/\gh (eN A Pu W)=true/\(∀r∈W,bw A.length r)/\∀qs,fz A Pu W A.length qs->∃L,fc A Pu W qs L/\L.length<=1000000/\∀O',dJ O O'->P (.im (.tuple ((eC qs L).map qD))) O'
abbrev U0:Δ2:=["market","first"]
def LA:MS:=(bu (bI (aG LV cQ (af (ah 0) ay)) (bh 1))
 (cK (aG Ia cQ (af (ah 1) (af (aG mQ cQ (af (ah 0) (af (ah 1) ay))) ay)))))
def IS:∀O xs Pq QX,yI O xs Pq QX->LA { nx:=λ_ O'=>Pq (.im .none) O',rt:=Pq } (aY U0 xs) O:=by
 intro O xs Pq QX h;let⟨A,Pu,W,rfl,ok,good,h⟩:=h;apply⟨A,Pu,W,(),ok,good,λqs hF=>?_⟩;let⟨L,st,hL,h⟩:=h qs hF;show Go _ _ [Φ9 (eN A Pu W),Φ9 (.tuple (qs.map qD))] O;exact⟨⟨A,Pu,W,qs,L,(),st,hL,λO' gr=>⟨qs,L,(),h O' gr⟩⟩⟩
structure Ot (A:Γ3)(Pu:Δ1)(W:Γ1)(kb:Nat):Prop where
 Rw:gh (eN A Pu W)=true
 good:∀r∈W,bw A.length r
 go:∀qs,fz A Pu W A.length qs->∃L,fc A Pu W qs L/\L.length<=1000000/\U4 A Pu W (eC qs L) kb
def lA:FM:=λO xs P _=>∃(A:Γ3) (Pu:Δ1) (W:Γ1) (kb:Nat),xs=[.im (eN A Pu W)]/\Ot A Pu W kb/\∀(fs:Δ1) (L:List CT) (c:Int) (ms ps:Γ3) (M:Γ1) (O':bE),fz A Pu W A.length fs->fc A Pu W fs L->lB A Pu W (eC fs L) kb c ms ps M->dJ O O'->P (.im (.tuple [.tuple ((eC fs L).map qD),C6 (cF A ms M)])) O'
abbrev U3:Δ2:=Ψ8
def Es:MS:=(bu (bI (aG yI cQ (af (ah 0) ay)) (bh 1))
 (cK (jq (af (ah 1) (af (aG Ij cQ (af (ah 0) (af (ah 1) ay))) ay)))))
def Fa:∀O xs Pq QX,lA O xs Pq QX->Es { nx:=λ_ O'=>Pq (.im .none) O',rt:=Pq } (aY U3 xs) O:=by
 intro O xs Pq QX h;let⟨A,Pu,W,kb,rfl,ok,h⟩:=h;apply⟨A,Pu,W,(),ok.Rw,ok.good,λfs hF=>?_⟩;let⟨L,st,hL,da⟩:=ok.go fs hF;apply⟨L,st,hL,λO1 g1=>?_⟩;show Go _ _ [Φ9 (eN A Pu W),Φ9 (.tuple ((eC fs L).map qD))] O1;exact⟨⟨A,Pu,W,eC fs L,kb,(),da,λc ms ps M O2 dl g2=>⟨md,h fs L c ms ps M O2 hF st dl (xS g1 g2)⟩⟩⟩
def mP:FM:=λO xs P _=>∃(A:Γ3) (Pu:Δ1) (W:Γ1) (kb:Nat),xs=[.im (eN A Pu W)]/\Ot A Pu W kb/\∀(fs:Δ1) (L:List CT) (c:Int) (ms ps:Γ3) (M:Γ1) (O':bE),fz A Pu W A.length fs->fc A Pu W fs L->lB A Pu W (eC fs L) kb c ms ps M->dJ O O'->(∀i,i<W.length->tV (W.getD i []) ((cF A ms M).getD i []))/\P (.im (.tuple ((iV W (cF A ms M)).map qD))) O'
abbrev UV:Δ2:=["market"]
def zI:MS:=(cK (aG HW cQ (af (ah 0) (af (bA cv (aG lA cQ (af (ah 0) ay)) (mC (.int 1))) ay))))
def Bi:∀O xs Pq QX,mP O xs Pq QX->zI { nx:=λ_ O'=>Pq (.im .none) O',rt:=Pq } (aY UV xs) O:=by
 intro O xs Pq QX h;let⟨A,Pu,W,kb,rfl,ok,h⟩:=h;let mf:=sY ok.Rw;apply⟨A,Pu,W,kb,(),ok,λfs L c ms ps M O' hF st dl gr=>?_⟩;let⟨h1,h2⟩:=h fs L c ms ps M O' hF st dl gr;let ml:=dl.sp.sL.len;apply⟨_,(),A,Pu,W,cF A ms M,(),?_,by rw[mf.wl];exact mf.n6,h1,h2⟩;unfold cF;rw[Zb,Yk,ml,mf.wl]
end MI
namespace CV
open L2 KG EX KM MI
section
def Hw:ai UW ["parts"] (bF (top 15)):=L2.dj
def Jz (F:cR K "total" "total" (top 15) f fd)(N:Nm mg)(Pl:bS K mg P w base "plus" 3 ["one","other"] (j6 (Ap Sg)) fPl dPl):aI P w K mg base cf 4 f fd ["parts"] (cH K jz) :=
 ji F Hw (λO xs P PX h=>by let⟨_,rfl,_⟩:=h;rfl) (λbH A outer s H E QX hr=>⟨DB,(cZ (gD (i:=1) Hw.nd (vA (aC cX (aC cX bi))))
 (cZ (ya PassesOwn.never rfl (mZ (mv 0)) (dU (i:=2) Hw.nd) (dr (gD (i:=1) Hw.nd (Cy Pl tR hr (aC (mv 1) (aC (mv 2) bi))))))
 (dr (ib (mv 1))))),λO xs Pq h=>zi O xs Pq QX h⟩)
def abc:ai Oi ["wishes","got"] (bF (top 20)):=L2.dj
def Pt (F:cR K "worth_of" "worth_of" (top 20) f fd)(N:Nm mg)(mz:mg "zip"=none)(To:bS K mg P w base "total" 4 ["parts"] (cH K jz) fTo dTo)(Ti:bS K mg P w base "times" 3 ["one","other"] (j6 (Ap oN)) fTi dTi):aI P w K mg base cf 5 f fd ["wishes","got"] (cH K HX) :=
 ji F abc (λO xs P PX h=>by let⟨_,_,rfl,_⟩:=h;rfl) (λbH A outer s H E QX hr=>⟨T6,(dr (ib (ef To gF hr (aC (pk (own:=["wish","part"]) (cap:=[]) (ix:=[]) (aL.of (bF (top 20)).names Oi) rfl (rC rfl mz boot_zip (aC (mv 0) (aC (mv 1) bi))) (KA (yf ∅ (yf ∅ Mr)))
 (λC fp s H=>⟨(sU rfl (iy (dU (i:=0) (Ψ9 ["wish","part"])) (iy (dU (i:=1) (Ψ9 ["wish","part"])) sW))),pi,(Cy Ti tR hr (aC (vA (aC (mv 0) (aC cX bi))) (aC (mv 1) bi)))⟩)) bi)))),λO xs Pq h=>OH O xs Pq QX h⟩)
def abb:ai Oh ["market","dealing"] (bF (top 21)):=L2.dj
def Ps (F:cR K "worths_of" "worths_of" (top 21) f fd)(N:Nm mg)(mz:mg "zip"=none)(Wo:bS K mg P w base "worth_of" 5 ["wishes","got"] (cH K HX) fWo dWo):aI P w K mg base cf 6 f fd ["market","dealing"] (cH K HW) :=
 ji F abb (λO xs P PX h=>by let⟨_,_,_,_,rfl,_⟩:=h;rfl) (λbH A outer s H E QX hr=>⟨T5,(dr (ib (CF fb iI (by rfl) N.tuple sM (aC (pk (own:=["row","got"]) (cap:=[]) (ix:=[]) (aL.of (bF (top 21)).names Oh) rfl (rC rfl mz boot_zip (aC (cB (mv 0) cX) (aC (mv 1) bi))) (KA (yf ∅ (yf ∅ Mr)))
 (λC fp s H=>⟨(sU rfl (iy (dU (i:=0) (Ψ9 ["row","got"])) (iy (dU (i:=1) (Ψ9 ["row","got"])) sW))),pi,(ef Wo gF hr (aC (mv 0) (aC (mv 1) bi)))⟩)) bi)))),λO xs Pq h=>OG O xs Pq QX h⟩)
def abd:ai UZ ["coins","money","amount"] (bF (top 54)):=L2.dj
def Py (F:cR K "pieces_for" "pieces_for" (top 54) f fd)(N:Nm mg)(Fr:bS K mg P w base "fraction" 2 ["top","bottom"] (j6 (tJ Nn)) fFr dFr):aI P w K mg base cf 3 f fd ["coins","money","amount"] (cH K HZ) :=
 ji F abd (λO xs P PX h=>by let⟨_,_,_,rfl,_⟩:=h;rfl) (λbH A outer s H E QX hr=>⟨Ua,(dr (ib (yz (vB ii lU (mv 0) cX (aO _)) (Cy Fr LM hr (aC (jK (mv 0) (mv 2)) (aC (mv 1) bi))) (vA (aC cX (aC cX bi)))))),λO xs Pq h=>OL O xs Pq QX h⟩)
def abg:ai Om ["market","money","spent"] (bF (top 53)):=L2.dj
def PJ (F:cR K "dealing_by" "dealing_by" (top 53) f fd)(N:Nm mg)(Pf:bS K mg P w base "pieces_for" 3 ["coins","money","amount"] (cH K HZ) fPf dPf):aI P w K mg base cf 4 f fd ["market","money","spent"] (cH K Ii) :=
 ji F abg (λO xs P PX h=>by let⟨_,_,_,_,_,rfl,_⟩:=h;rfl) (λbH A outer s H E QX hr=>⟨Ui,(dr (ib (CF fb iI (by rfl) N.tuple sM (aC (pk (own:=["row"]) (cap:=["market","money"]) (ix:=[0,1]) (aL.of (bF (top 53)).names Om) rfl (mZ (mv 2)) (sN ∅)
 (λC fp s H=>⟨(gZ (iT (i:=0) (Ψ9 ["row","market","money"]) rfl (Or.inr rfl))),pi,(CF fb iI (by rfl) N.tuple sM (aC (pk (own:=["good","amount"]) (cap:=["money","row"]) (ix:=[2,0]) (aL.of [(".0",.local),("row",.cell),("tuple",.globalImplicit),("enumerate",.globalImplicit),("market",.cell),("money",.cell)] ["row","market","money"]) rfl (se rfl N.enumerate G7 (aC (cB (mv 1) cX) bi)) (KA (yf ∅ (yf ∅ Mr)))
 (λC fp s H=>⟨(sU rfl (iy (dU (i:=0) (Ψ9 ["good","amount","money","row"])) (iy (dU (i:=1) (Ψ9 ["good","amount","money","row"])) sW))),pi,(ef Pf gF hr (aC (cB (mv 3) (mv 0)) (aC (cB (mv 2) (mv 0)) (aC (mv 1) bi))))⟩)) bi))⟩)) bi)))),λO xs Pq h=>OS O xs Pq QX h⟩)
def tL:ai Io ["best","spent","unsold","buyer"] (bF (top 56)):=L2.dj
def Pw (F:cR K "way_to_unsold" "way_to_unsold" (top 56) f fd)(N:Nm mg)  : aI P w K mg base cf 1 f fd ["best","spent","unsold","buyer"] (cH K HY) :=
 ji F tL (λO xs P PX h=>by let⟨_,_,_,_,_,_,_,_,_,_,_,rfl,_⟩:=h;rfl) (λbH A outer s H E QX hr=>⟨T8,(cZ (uK (i:=4) tL.nd rfl rfl (own:=["good"]) (cap:=["buyer"]) (ix:=[3]) (aL.of (bF (top 56)).names Io) rfl (mZ (cB (mv 0) (mv 3))) (sN ∅)
 (λC fp s H=>⟨(dU (i:=0) (Ψ9 ["good","buyer"])),pi,(nP (aC (vA (aC (mv 1) (aC (mv 0) bi))) bi))⟩))
 (cZ (FH (i:=5) tL.nd rfl rfl (own:=["good"]) (cap:=[]) (ix:=[]) (aL.of (bF (top 56)).names Io) rfl (mZ (cB (mv 0) (mv 3))) (sN ∅)
 (λC fp s H=>⟨(dU (i:=0) (Ψ9 ["good"])),pi,(mv 0),km⟩))
 (cZ (gD (i:=6) tL.nd cX)
 (cZ (oh PassesOwn.never (vB (Dz hr.units) DD (cB (mv 2) (cB (cB (cB (mv 4) (mv 6)) (nO cX)) cX)) cX (aO _)) (cZ (gD (i:=7) tL.nd (cB (cB (cB (mv 4) (mv 6)) (nO cX)) cX))
 (cZ (ya PassesOwn.never rfl (Mt rfl N.range (aC (sX fw fY (by rfl) N.len Ys (aC (mv 1) bi)) bi)) (dU (i:=8) tL.nd) (dr (ij (vB ii lU (cB (cB (mv 1) (mv 8)) (mv 7)) cX (aO _)) (dr (ya PassesOwn.never rfl (mZ (cB (mv 0) (mv 8))) (dU (i:=9) tL.nd) (dr (ij (BC (yE hr) (mv 9) (mv 5)) (cZ (JW (yE hr) (mv 5) (mv 9) km)
 (dr (kD (rD (mv 4) (aC (jL (cB (mv 4) (mv 6)) (nP (aC (vA (aC (mv 8) (aC (mv 9) bi))) bi))) bi))))) eK)))) eK)))
 (dr (zF (i:=6) tL.nd rfl (Or.inl rfl) Ey nR cX)))))
 (dr (ib (cB (mv 4) (mv 6)))))))),λO xs Pq h=>OJ O xs Pq QX h⟩)
def TL:ai Ol ["way","spent","unsold","left"] (bF (top 57)):=L2.dj
def JK (F:cR K "most_along" "most_along" (top 57) f fd)(N:Nm mg)  : aI P w K mg base cf 1 f fd ["way","spent","unsold","left"] (cH K yK) :=
 ji F TL (λO xs P PX h=>by let⟨_,_,_,_,_,_,_,_,_,_,_,rfl,_⟩:=h;rfl) (λbH A outer s H E QX hr=>⟨LD,(cZ (JV (i:=4) TL.nd rfl rfl (own:=["at","payer","good"]) (cap:=["spent","way"]) (ix:=[1,0]) (aL.of (bF (top 57)).names Ol) rfl (oi rfl N.enumerate G7 (aC (lJ (mv 0) (r9 cX) sd) bi)) (KA (xK ∅ ∅ ∅))
 (λC fp s H=>⟨(sU rfl (iy (dU (i:=0) (Ψ9 ["at","payer","good","spent","way"])) (iy (sU rfl (iy (dU (i:=1) (Ψ9 ["at","payer","good","spent","way"])) (iy (dU (i:=2) (Ψ9 ["at","payer","good","spent","way"])) sW))) sW))),pi,(cB (cB (mv 3) (mv 1)) (cB (cB (mv 4) (mv 0)) cX))⟩))
 (dr (ib (sX (V8 rfl) P7 (by rfl) N.min boot_min (aC (jL (mv 4) (nP (aC (cB (mv 2) (cB (cB (mv 0) (nO cX)) cX)) (aC (mv 3) bi)))) bi))))),λO xs Pq h=>IU O xs Pq QX h⟩)
def Hx:ai UX ["way","spent","coins"] (bF (top 58)):=L2.dj
def JB (F:cR K "send_along" "send_along" (top 58) f fd)(N:Nm mg)  : aI P w K mg base cf 1 f fd ["way","spent","coins"] (cH K yG) :=
 ji F Hx (λO xs P PX h=>by let⟨_,_,_,_,_,_,_,_,_,rfl,_⟩:=h;rfl) (λbH A outer s H E QX hr=>⟨Lx,(dr (ya PassesOwn.never rfl (oi rfl N.enumerate G7 (aC (mv 0) bi)) (sU rfl (iy (dU (i:=3) Hx.nd) (iy (sU rfl (iy (dU (i:=4) Hx.nd) (iy (dU (i:=5) Hx.nd) sW))) sW))) (cZ (rZ (cB (mv 1) (mv 4)) (mv 5) Ey nR (mv 2))
 (dr (ij (vB ii lU (mv 3) cX (aO _)) (dr (rZ (cB (mv 1) (mv 4)) (cB (cB (mv 0) (PY (mv 3) cX)) cX) wW nR (mv 2))) eK))))),λO xs Pq h=>IN O xs Pq QX h⟩)
def qJ:ai Oj ["best","money","purses"] (bF (top 55)):=L2.dj
def Fy (F:cR K "spend" "spend" (top 55) f fd)(N:Nm mg)(Wy:bS K mg P w base "way_to_unsold" 1 ["best","spent","unsold","buyer"] (cH K HY) fWy dWy)(Mo:bS K mg P w base "most_along" 1 ["way","spent","unsold","left"] (cH K yK) fMo dMo)(Se:bS K mg P w base "send_along" 1 ["way","spent","coins"] (cH K yG) fSe dSe):aI P w K mg base cf 2 f fd ["best","money","purses"] (cH K rF) :=
 ji F qJ (λO xs P PX h=>by let⟨_,_,_,_,_,rfl,_⟩:=h;rfl) (λbH A outer s H E QX hr=>⟨Em,(cZ (uK (i:=3) qJ.nd rfl rfl (own:=["purse"]) (cap:=["money"]) (ix:=[1]) (aL.of (bF (top 55)).names Oj) rfl (mZ (mv 2)) (sN ∅)
 (λC fp s H=>⟨(dU (i:=0) (Ψ9 ["purse","money"])),pi,(FJ (own:=["coins"]) (cap:=[]) (ix:=[]) (aL.of [(".0",.local),("purse",.local),("money",.cell)] ["purse","money"]) rfl (mZ (mv 1)) (sN ∅)
 (λC fp s H=>⟨(dU (i:=0) (Ψ9 ["coins"])),pi,cX⟩))⟩))
 (cZ (gD (i:=4) qJ.nd (CF DR J4 (by rfl) N.list boot_list (aC (mv 1) bi)))
 (cZ (ya PassesOwn.never rfl (oi rfl N.enumerate G7 (aC (mv 2) bi)) (sU rfl (iy (dU (i:=5) qJ.nd) (iy (dU (i:=6) qJ.nd) sW))) (cZ (gD (i:=7) qJ.nd (mv 6))
 (dr (oh PassesOwn.never (vB ii lU (mv 7) cX (aO _)) (cZ (gD (i:=8) qJ.nd (ef Wy gF hr (aC (mv 0) (aC (mv 3) (aC (mv 4) (aC (mv 5) bi))))))
 (cZ (gD (i:=9) qJ.nd (ef Mo gF hr (aC (mv 8) (aC (mv 3) (aC (mv 4) (aC (mv 7) bi))))))
 (cZ (kD (ef Se gF hr (aC (mv 8) (aC (mv 3) (aC (mv 9) bi)))))
 (cZ (rZ (mv 4) (cB (cB (mv 8) (nO cX)) cX) wW nR (mv 9))
 (dr (zF (i:=7) qJ.nd rfl (Or.inl rfl) wW nR (mv 9)))))))))))
 (zE 3 (dr (ib (mv 3))))))),λO xs Pq h=>E5 O xs Pq QX h⟩)
def Nw:ai U2 Ψ8 (bF (top 52)):=L2.dj
def PK (F:cR K "dealing_at" "dealing_at" (top 52) f fd)(N:Nm mg)(Ic:bS K mg P w base "in_coins" 5 Ψ8 (cH K wC) fIc dIc)(Bg:bS K mg P w base "best_goods" 6 Ψ8 (j6 (nG Pr)) fBg dBg)(Sp:bS K mg P w base "spend" 2 ["best","money","purses"] (cH K rF) fSp dSp)(Db:bS K mg P w base "dealing_by" 4 ["market","money","spent"] (cH K Ii) fDb dDb):aI P w K mg base cf 7 f fd Ψ8 (cH K Ij) :=
 ji F Nw (λO xs P PX h=>by let⟨_,_,_,_,_,rfl,_⟩:=h;rfl) (λbH A outer s H E QX hr=>⟨Uj,(cZ (nN (ef Ic gF hr (aC (mv 0) (aC (mv 1) bi))) (sU rfl (iy (dU (i:=2) Nw.nd) (iy (dU (i:=3) Nw.nd) sW))))
 (dr (ib (ef Db gF hr (aC (mv 0) (aC (mv 2) (aC (ef Sp gF hr (aC (Cy Bg uN hr (aC (mv 0) (aC (mv 1) bi))) (aC (mv 2) (aC (mv 3) bi)))) bi))))))),λO xs Pq h=>OT O xs Pq QX h⟩)
def Hy:ai UY Ψ8 (bF (top 47)):=L2.dj
def Fz (F:cR K "rises" "rises" (top 47) f fd)(N:Nm mg)(Ri:bS K mg P w base "rise" 9 Ψ8 (cH K pH) fRi dRi):aI P w K mg base cf 10 f fd Ψ8 (cH K mQ) :=
 ji F Hy (λO xs P PX h=>by let⟨_,_,_,_,_,rfl,_⟩:=h;rfl) (λbH A outer s H E QX hr=>⟨zJ,(cZ (gD (i:=2) Hy.nd (wQ bi))
 (cZ (gD (i:=3) Hy.nd (ef Ri gF hr (aC (mv 0) (aC (mv 1) bi))))
 (cZ (oh PassesOwn.never (vB zy J1 (mv 3) El (aO _)) (cZ (kD (rD (mv 2) (aC (mv 3) bi)))
 (dr (gD (i:=3) Hy.nd (ef Ri gF hr (aC (mv 0) (aC (cB (mv 3) cX) bi)))))))
 (PV 2 (dr (ib (mv 2))))))),λO xs Pq h=>Bj O xs Pq QX h⟩)
def abe:ai U1 ["prices","told"] (bF (top 48)):=L2.dj
def Pz (F:cR K "prices_behind" "prices_behind" (top 48) f fd)(N:Nm mg)  : aI P w K mg base cf 1 f fd ["prices","told"] (cH K Ia) :=
 ji F abe (λO xs P PX h=>by let⟨_,_,rfl,_⟩:=h;rfl) (λbH A outer s H E QX hr=>⟨Ub,(dr (ib (yz (nM (mv 1)) (cB (cB (mv 1) (nO cX)) cX) (mv 0)))),λO xs Pq h=>OM O xs Pq QX h⟩)
def TJ:ai U0 ["market"] (bF (top 51)):=L2.dj
def Px (F:cR K "prices_that_clear" "prices_that_clear" (top 51) f fd)(N:Nm mg)(FP:bS K mg P w base "first_prices" 4 ["market"] (j6 Nu) fFP dFP)(Rs:bS K mg P w base "rises" 10 Ψ8 (cH K mQ) fRs dRs)(Pb:bS K mg P w base "prices_behind" 1 ["prices","told"] (cH K Ia) fPb dPb):aI P w K mg base cf 11 f fd ["market"] (cH K yI) :=
 ji F TJ (λO xs P PX h=>by let⟨_,_,_,rfl,_⟩:=h;rfl) (λbH A outer s H E QX hr=>⟨LA,(cZ (gD (i:=1) TJ.nd (Cy FP VT hr (aC (mv 0) bi)))
 (dr (ib (ef Pb gF hr (aC (mv 1) (aC (ef Rs gF hr (aC (mv 0) (aC (mv 1) bi))) bi)))))),λO xs Pq h=>IS O xs Pq QX h⟩)
def TM:ai U3 ["market"] (bF (top 50)):=L2.dj
def FD (F:cR K "clear" "clear" (top 50) f fd)(N:Nm mg)(Pc:bS K mg P w base "prices_that_clear" 11 ["market"] (cH K yI) fPc dPc)(Da:bS K mg P w base "dealing_at" 7 Ψ8 (cH K Ij) fDa dDa):aI P w K mg base cf 12 f fd ["market"] (cH K lA) :=
 ji F TM (λO xs P PX h=>by let⟨_,_,_,_,rfl,_⟩:=h;rfl) (λbH A outer s H E QX hr=>⟨Es,(cZ (gD (i:=1) TM.nd (ef Pc gF hr (aC (mv 0) bi)))
 (dr (ib (vA (aC (mv 1) (aC (ef Da gF hr (aC (mv 0) (aC (mv 1) bi))) bi)))))),λO xs Pq h=>Fa O xs Pq QX h⟩)
def aba:ai UV ["market"] (bF (top 59)):=L2.dj
def Bu (F:cR K "worths" "worths" (top 59) f fd)(N:Nm mg)(Ws:bS K mg P w base "worths_of" 6 ["market","dealing"] (cH K HW) fWs dWs)(Cl:bS K mg P w base "clear" 12 ["market"] (cH K lA) fCl dCl):aI P w K mg base cf 13 f fd ["market"] (cH K mP) :=
 ji F aba (λO xs P PX h=>by let⟨_,_,_,_,rfl,_⟩:=h;rfl) (λbH A outer s H E QX hr=>⟨zI,(dr (ib (ef Ws gF hr (aC (mv 0) (aC (cB (ef Cl gF hr (aC (mv 0) bi)) cX) bi))))),λO xs Pq h=>Bi O xs Pq QX h⟩)
end
section
def Hv:ai NWp ["market"] (bF (top 23)):=L2.dj
def Eh (F:cR K "wished" "wished" (top 23) f fd)(N:Nm mg)  : aI P w K mg base cf 1 f fd ["market"] (cH K Dd) :=
 ji F Hv (λO xs P PX h=>by let⟨_,_,_,rfl,_⟩:=h;rfl) (λbH A outer s H E QX hr=>⟨T7,(cZ (nN (mv 0) (sU rfl (iy (dU (i:=1) Hv.nd) (iy (dU (i:=2) Hv.nd) (iy (gZ (iT (i:=3) Hv.nd rfl (Or.inr rfl))) sW)))))
 (dr (ib (CF fb iI (by rfl) N.tuple sM (aC (pk (own:=["good"]) (cap:=["wishes"]) (ix:=[3]) (aL.of (bF (top 23)).names NWp) rfl (Mt rfl N.range (aC (sX fw fY (by rfl) N.len Ys (aC (mv 1) bi)) bi)) (sN ∅)
 (λC fp s H=>⟨(gZ (iT (i:=0) (Ψ9 ["good","wishes"]) rfl (Or.inr rfl))),(jM (fX (sX (yN rfl) wV (by rfl) N.any boot_any (aC (pk (own:=["row"]) (cap:=["good"]) (ix:=[0]) (aL.of [(".0",.local),("good",.cell),("any",.globalImplicit),("wishes",.cell)] ["good","wishes"]) rfl (mZ (mv 1)) (sN ∅)
 (λC fp s H=>⟨(dU (i:=0) (Ψ9 ["row","good"])),pi,(lu ii lU (cB (mv 0) (mv 1)) cX (aO _))⟩)) bi)))),(mv 0)⟩)) bi))))),λO xs Pq h=>OI O xs Pq QX h⟩)
def Vj:ai N6 ["best","goods"] (bF (top 32)):=L2.dj
def Ei (F:cR K "takers_by_best" "takers_by_best" (top 32) f fd)(N:Nm mg)  : aI P w K mg base cf 1 f fd ["best","goods"] (cH K Df) :=
 ji F Vj (λO xs P PX h=>by let⟨_,_,rfl,_⟩:=h;rfl) (λbH A outer s H E QX hr=>⟨T9,(dr (ib (CF fb iI (by rfl) N.tuple sM (aC (pk (own:=["buyer","row"]) (cap:=["goods"]) (ix:=[1]) (aL.of (bF (top 32)).names N6) rfl (se rfl N.enumerate G7 (aC (mv 0) bi)) (KA (yf ∅ (yf ∅ Mr)))
 (λC fp s H=>⟨(sU rfl (iy (dU (i:=0) (Ψ9 ["buyer","row","goods"])) (iy (dU (i:=1) (Ψ9 ["buyer","row","goods"])) sW))),(jM (fX (sX (yN rfl) wV (by rfl) N.any boot_any (aC (pk (own:=["good"]) (cap:=["goods"]) (ix:=[2]) (aL.of [(".0",.local),("buyer",.local),("row",.local),("any",.globalImplicit),("goods",.cell)] ["buyer","row","goods"]) rfl (mZ (mv 1)) (sN ∅)
 (λC fp s H=>⟨(dU (i:=0) (Ψ9 ["good","goods"])),pi,(lu yx (yC false) (mv 0) (mv 1) (by rfl))⟩)) bi)))),(mv 0)⟩)) bi)))),λO xs Pq h=>OK O xs Pq QX h⟩)
def yw:ai Op ["members"] (bF (top 34)):=L2.dj
def zB (F:cR K "all_sets" "all_sets" (top 34) f fd)(N:Nm mg)  : aI P w K mg base cf 1 f fd ["members"] (cH K uo) :=
 ji F yw (λO xs P PX h=>by let⟨_,rfl,_⟩:=h;rfl) (λbH A outer s H E QX hr=>⟨LJ,(cZ (gD (i:=1) yw.nd (nP (aC (vA bi) bi)))
 (cZ (ya PassesOwn.never rfl (mZ (mv 0)) (gZ (iT (i:=2) yw.nd rfl (Or.inr rfl))) (dr (gD (i:=1) yw.nd (jL (mv 1) (pk (own:=["some"]) (cap:=["member"]) (ix:=[2]) (aL.of (bF (top 34)).names Op) rfl (mZ (mv 1)) (sN ∅)
 (λC fp s H=>⟨(dU (i:=0) (Ψ9 ["some","member"])),pi,(jL (mv 0) (vA (aC (mv 1) bi)))⟩))))))
 (dr (ib (mv 1))))),λO xs Pq h=>IW O xs Pq QX h⟩)
def Vq:ai Og ["coins","some"] (bF (top 36)):=L2.dj
def uI (F:cR K "coins_of" "coins_of" (top 36) f fd)(N:Nm mg)  : aI P w K mg base cf 1 f fd ["coins","some"] (cH K lz) :=
 ji F Vq (λO xs P PX h=>by let⟨_,_,rfl,_⟩:=h;rfl) (λbH A outer s H E QX hr=>⟨Er,(dr (ib (sX (L5 rfl) P6 (by rfl) N.sum boot_sum (aC (pk (own:=["number"]) (cap:=["coins"]) (ix:=[0]) (aL.of (bF (top 36)).names Og) rfl (mZ (mv 1)) (sN ∅)
 (λC fp s H=>⟨(dU (i:=0) (Ψ9 ["number","coins"])),pi,(cB (mv 1) (mv 0))⟩)) bi)))),λO xs Pq h=>E9 O xs Pq QX h⟩)
def Vm:ai Oc Ψ8 (bF (top 28)):=L2.dj
def JL (F:cR K "money_by_good" "money_by_good" (top 28) f fd)(N:Nm mg)(mz:mg "zip"=none)(Ti:bS K mg P w base "times" 3 ["one","other"] (j6 (Ap oN)) fTi dTi):aI P w K mg base cf 4 f fd Ψ8 (cH K Ie) :=
 ji F Vm (λO xs P PX h=>by let⟨_,_,_,_,rfl,_⟩:=h;rfl) (λbH A outer s H E QX hr=>⟨Ud,(dr (ib (pk (own:=["amount","price"]) (cap:=[]) (ix:=[]) (aL.of (bF (top 28)).names Oc) rfl (rC rfl mz boot_zip (aC (cB (mv 0) cX) (aC (mv 1) bi))) (KA (yf ∅ (yf ∅ Mr)))
 (λC fp s H=>⟨(sU rfl (iy (dU (i:=0) (Ψ9 ["amount","price"])) (iy (dU (i:=1) (Ψ9 ["amount","price"])) sW))),pi,(Cy Ti tR hr (aC (vA (aC (mv 0) (aC cX bi))) (aC (mv 1) bi)))⟩)))),λO xs Pq h=>OO O xs Pq QX h⟩)
def pE:ai Oa ["parts"] (bF (top 18)):=L2.dj
def JI (tr:P.given.tree=none)(F:cR K "on_one_bottom" "on_one_bottom" (top 18) f fd)(N:Nm mg)(Gn:bS K mg P w base "common_divisor" 1 ["one","other"] rc fGn dGn):aI P w K mg base cf 2 f fd ["parts"] (cH K Ib) :=
 ji F pE (λO xs P PX h=>by let⟨_,_,rfl,_⟩:=h;rfl) (λbH A outer s H E QX hr=>⟨Uc,(cZ (rB (i:=1) pE.nd rfl (Or.inr rfl) cX)
 (cZ (ya PassesOwn.never rfl (mZ (mv 0)) (dU (i:=2) pE.nd) (dr (rB (i:=1) pE.nd rfl (Or.inr rfl) (jK (Ej hr (lq tr pE) (mv 1) (ef Gn J7 hr (aC (mv 1) (aC (cB (mv 2) cX) bi)))) (cB (mv 2) cX)))))
 (dr (ib (pk (own:=["part"]) (cap:=["bottom"]) (ix:=[1]) (aL.of (bF (top 18)).names Oa) rfl (mZ (mv 0)) (sN ∅)
 (λC fp s H=>⟨(dU (i:=0) (Ψ9 ["part","bottom"])),pi,(jK (cB (mv 0) cX) (Ej hr (lq tr pE).RU (mv 1) (cB (mv 0) cX)))⟩)))))),λO xs Pq h=>ON O xs Pq QX h⟩)
def Du:ai UU Ψ8 (bF (top 35)):=L2.dj
def zA (F:cR K "in_coins" "in_coins" (top 35) f fd)(N:Nm mg)(Oo:bS K mg P w base "on_one_bottom" 2 ["parts"] (cH K Ib) fOo dOo)(Mb:bS K mg P w base "money_by_good" 4 Ψ8 (cH K Ie) fMb dMb):aI P w K mg base cf 5 f fd Ψ8 (cH K wC) :=
 ji F Du (λO xs P PX h=>by let⟨_,_,_,_,_,rfl,_⟩:=h;rfl) (λbH A outer s H E QX hr=>⟨Ug,(cZ (gD (i:=2) Du.nd (ef Oo gF hr (aC (jL (ef Mb gF hr (aC (mv 0) (aC (mv 1) bi))) (CF DR Eu (by rfl) N.list boot_list (aC (cB (mv 0) cX) bi))) bi)))
 (cZ (gD (i:=3) Du.nd (sX fw fY (by rfl) N.len Ys (aC (cB (mv 0) cX) bi)))
 (dr (ib (vA (aC (lJ (mv 2) sd (r9 (mv 3))) (aC (lJ (mv 2) (r9 (mv 3)) sd) bi))))))),λO xs Pq h=>OR O xs Pq QX h⟩)
def Vo:ai Oe ["best","paid"] (bF (top 41)):=L2.dj
def JM (F:cR K "loosened" "loosened" (top 41) f fd)(N:Nm mg)  : aI P w K mg base cf 1 f fd ["best","paid"] (cH K uk) :=
 ji F Vo (λO xs P PX h=>by let⟨_,_,rfl,_⟩:=h;rfl) (λbH A outer s H E QX hr=>⟨LF,(dr (ib (CF fb iI (by rfl) N.tuple sM (aC (pk (own:=["row"]) (cap:=["paid"]) (ix:=[1]) (aL.of (bF (top 41)).names Oe) rfl (mZ (mv 0)) (sN ∅)
 (λC fp s H=>⟨(dU (i:=0) (Ψ9 ["row","paid"])),pi,(yz (fX (sX (yN rfl) wV (by rfl) N.any boot_any (aC (pk (own:=["good"]) (cap:=["paid"]) (ix:=[1]) (aL.of [(".0",.local),("row",.local),("any",.globalImplicit),("paid",.cell)] ["row","paid"]) rfl (mZ (mv 0)) (sN ∅)
 (λC fp s H=>⟨(dU (i:=0) (Ψ9 ["good","paid"])),pi,(lu yx (yC false) (mv 0) (mv 1) (by rfl))⟩)) bi))) (vA bi) (mv 0))⟩)) bi)))),λO xs Pq h=>IV O xs Pq QX h⟩)
def Vk:ai N8 ["prices","rising","factor"] (bF (top 44)):=L2.dj
def JE (F:cR K "raised" "raised" (top 44) f fd)(N:Nm mg)(Ti:bS K mg P w base "times" 3 ["one","other"] (j6 (Ap oN)) fTi dTi):aI P w K mg base cf 4 f fd ["prices","rising","factor"] (cH K yH) :=
 ji F Vk (λO xs P PX h=>by let⟨_,_,_,rfl,_⟩:=h;rfl) (λbH A outer s H E QX hr=>⟨Lz,(dr (ib (CF fb iI (by rfl) N.tuple sM (aC (pk (own:=["good","price"]) (cap:=["factor","rising"]) (ix:=[2,1]) (aL.of (bF (top 44)).names N8) rfl (se rfl N.enumerate G7 (aC (mv 0) bi)) (KA (yf ∅ (yf ∅ Mr)))
 (λC fp s H=>⟨(sU rfl (iy (dU (i:=0) (Ψ9 ["good","price","factor","rising"])) (iy (dU (i:=1) (Ψ9 ["good","price","factor","rising"])) sW))),pi,(yz (vB yx (yC false) (mv 0) (mv 3) (by rfl)) (Cy Ti tR hr (aC (mv 1) (aC (mv 2) bi))) (mv 1))⟩)) bi)))),λO xs Pq h=>IQ O xs Pq QX h⟩)
def yo:ai UT ["parts"] (bF (top 16)):=L2.dj
def FC (F:cR K "least" "least" (top 16) f fd)(N:Nm mg)(Ls:bS K mg P w base "less" 1 ["one","other"] jH fLs dLs):aI P w K mg base cf 2 f fd ["parts"] (cH K rH) :=
 ji F yo (λO xs P PX h=>by let⟨_,rfl,_⟩:=h;rfl) (λbH A outer s H E QX hr=>⟨Eo,(cZ (gD (i:=1) yo.nd (cB (mv 0) cX))
 (cZ (ya PassesOwn.never rfl (mZ (mv 0)) (dU (i:=2) yo.nd) (dr (ij (fX (ef Ls zM hr (aC (mv 2) (aC (mv 1) bi)))) (dr (gD (i:=1) yo.nd (mv 2))) eK)))
 (dr (ib (mv 1))))),λO xs Pq h=>E7 O xs Pq QX h⟩)
def Dt:ai N9 ["market","prices","loose","rising"] (bF (top 42)):=L2.dj
def JG (F:cR K "paying_factors" "paying_factors" (top 42) f fd)(N:Nm mg)(Ic:bS K mg P w base "in_coins" 5 Ψ8 (cH K wC) fIc dIc)(Fr:bS K mg P w base "fraction" 2 ["top","bottom"] (j6 (tJ Nn)) fFr dFr)(Co:bS K mg P w base "coins_of" 1 ["coins","some"] (cH K lz) fCo dCo)(Tb:bS K mg P w base "takers_by_best" 1 ["best","goods"] (cH K Df) fTb dTb)(As:bS K mg P w base "all_sets" 1 ["members"] (cH K uo) fAs dAs):aI P w K mg base cf 6 f fd ["market","prices","loose","rising"] (cH K yJ) :=
 ji F Dt (λO xs P PX h=>by let⟨_,_,_,_,_,rfl,_⟩:=h;rfl) (λbH A outer s H E QX hr=>⟨LC,(cZ (nN (ef Ic gF hr (aC (mv 0) (aC (mv 1) bi))) (sU rfl (iy (gZ (iT (i:=4) Dt.nd rfl (Or.inr rfl))) (iy (gZ (iT (i:=5) Dt.nd rfl (Or.inr rfl))) sW))))
 (dr (ib (pk (own:=["some"]) (cap:=["loose","money","purses"]) (ix:=[2,4,5]) (aL.of (bF (top 42)).names N9) rfl (mZ (ef As gF hr (aC (mv 3) bi))) (sN ∅)
 (λC fp s H=>⟨(dU (i:=0) (Ψ9 ["some","loose","money","purses"])),(jM (nM (mv 0))),(Cy Fr LM hr (aC (ef Co gF hr (aC (mv 3) (aC (ef Tb gF hr (aC (mv 1) (aC (mv 0) bi))) bi))) (aC (ef Co gF hr (aC (mv 2) (aC (mv 0) bi))) bi)))⟩))))),λO xs Pq h=>IT O xs Pq QX h⟩)
def Vl:ai Ob ["market","prices","loose","paid"] (bF (top 43)):=L2.dj
def FA (F:cR K "meeting_factors" "meeting_factors" (top 43) f fd)(N:Nm mg)(mz:mg "zip"=none)(Ov:bS K mg P w base "over" 3 ["one","other"] (j6 (nF Nn)) fOv dOv)(Ra:bS K mg P w base "rate" 4 ["wish","price"] qZ fRa dRa):aI P w K mg base cf 5 f fd ["market","prices","loose","paid"] (cH K rG) :=
 ji F Vl (λO xs P PX h=>by let⟨_,_,_,_,_,rfl,_⟩:=h;rfl) (λbH A outer s H E QX hr=>⟨En,(dr (ib (FK (own:=["row","best","good"]) (cap:=["paid","prices"]) (ix:=[3,1]) (aL.of (bF (top 43)).names Ob) rfl (rC rfl mz boot_zip (aC (cB (mv 0) cX) (aC (mv 2) bi))) (KA (yf ∅ (yf ∅ Mr)))
 (λC fp s H=>⟨(sU rfl (iy (dU (i:=0) (Ψ9 ["row","best","good","paid","prices"])) (iy (dU (i:=1) (Ψ9 ["row","best","good","paid","prices"])) sW))),(jM (nM (mv 1))),(JX (mv 3)),(dU (i:=2) (Ψ9 ["row","best","good","paid","prices"])),(jM (vB ii lU (cB (mv 0) (mv 2)) cX (aO _))),(Cy Ov J0 hr (aC (ef Ra zL hr (aC (cB (mv 0) (cB (mv 1) cX)) (aC (cB (mv 4) (cB (mv 1) cX)) bi))) (aC (ef Ra zL hr (aC (cB (mv 0) (mv 2)) (aC (cB (mv 4) (mv 2)) bi))) bi)))⟩)))),λO xs Pq h=>E6 O xs Pq QX h⟩)
def nt:ai N7 Ψ8 (bF (top 40)):=L2.dj
def JC (F:cR K "rise" "rise" (top 40) f fd)(N:Nm mg)(Pg:bS K mg P w base "paid_goods" 8 Ψ8 (j6 (Nr De)) fPg dPg)(Wi:bS K mg P w base "wished" 1 ["market"] (cH K Dd) fWi dWi)(Bg:bS K mg P w base "best_goods" 6 Ψ8 (j6 (nG Pr)) fBg dBg)(Lo:bS K mg P w base "loosened" 1 ["best","paid"] (cH K uk) fLo dLo)(Pf:bS K mg P w base "paying_factors" 6 ["market","prices","loose","rising"] (cH K yJ) fPf dPf)(Mf:bS K mg P w base "meeting_factors" 5 ["market","prices","loose","paid"] (cH K rG) fMf dMf)(Le:bS K mg P w base "least" 2 ["parts"] (cH K rH) fLe dLe)(Rs:bS K mg P w base "raised" 4 ["prices","rising","factor"] (cH K yH) fRs dRs):aI P w K mg base cf 9 f fd Ψ8 (cH K pH) :=
 ji F nt (λO xs P PX h=>by let⟨_,_,_,_,rfl,_⟩:=h;rfl) (λbH A outer s H E QX hr=>⟨Ly,(cZ (rB (i:=2) nt.nd rfl (Or.inr rfl) (Cy Pg VO hr (aC (mv 0) (aC (mv 1) bi))))
 (cZ (gD (i:=3) nt.nd (CF fb iI (by rfl) N.tuple sM (aC (pk (own:=["good"]) (cap:=["paid"]) (ix:=[2]) (aL.of (bF (top 40)).names N7) rfl (mZ (ef Wi gF hr (aC (mv 0) bi))) (sN ∅)
 (λC fp s H=>⟨(dU (i:=0) (Ψ9 ["good","paid"])),(jM (vB Pk (yC true) (mv 0) (mv 1) (by rfl))),(mv 0)⟩)) bi)))
 (cZ (ij (lr (nM (mv 3))) (dr (ib El)) eK)
 (cZ (gD (i:=4) nt.nd (Cy Bg uN hr (aC (mv 0) (aC (mv 1) bi))))
 (cZ (gD (i:=5) nt.nd (ef Pf gF hr (aC (mv 0) (aC (mv 1) (aC (ef Lo gF hr (aC (mv 4) (aC (mv 2) bi))) (aC (mv 3) bi))))))
 (cZ (gD (i:=6) nt.nd (ef Mf gF hr (aC (mv 0) (aC (mv 1) (aC (ef Lo gF hr (aC (mv 4) (aC (mv 2) bi))) (aC (mv 2) bi))))))
 (cZ (gD (i:=7) nt.nd (ef Le gF hr (aC (jL (mv 5) (mv 6)) bi)))
 (dr (ib (vA (aC (mv 2) (aC (mv 7) (aC (ef Rs gF hr (aC (mv 1) (aC (mv 3) (aC (mv 7) bi)))) bi))))))))))))),λO xs Pq h=>IP O xs Pq QX h⟩)
end
end CV
namespace CV
open L2 KG EX KM
section
variable {P:Program}{w:World}{K:Θ1}{mg:Θ3}{base:Heap}
def Nv:ai ["market","buyer","row"] ["market"] (bF (top 24)):=L2.dj
def VD (F:cR K "wishless" "wishless" (top 24) f fd)(N:Nm mg):aI P w K mg base cf 1 f fd ["market"] Tt:=by
 apply F.ok Nv (λvs H Q E h=>?_) (λbH A outer s H vs Q E hr h=>?_)
 .obtain⟨b,p,pa,pp,pw,xa,xp,xw,am,pu,wi,rfl,_⟩:=h;rfl
 .obtain⟨b,p,pa,pp,pw,xa,xp,xw,am,pu,wi,rfl,m,kq,k⟩:=h;let⟨Cv,_⟩:=m.lw;apply⟨_,d9 (rj PassesOwn.never rfl (mG rfl N.enumerate G7 (aP (dz bW (pv 0) bB (λ_ _=>rfl)) bN))
    (jJ (n:=2) rfl (ye (iT (i:=1) Nv.nd rfl (Or.inl rfl)) (ye (iT (i:=2) Nv.nd rfl (Or.inl rfl)) gU)))
    (dY (ph (gL (fV (vC (yN rfl) (by rfl) N.any boot_any (aP (pv 2) bN)))) (dY (gc (pv 1))) pq)))
   (dY (gc wL)),?_⟩
  apply⟨_,(),p,_,_,_,(),(),aQ.of m.hp,(),pw,(),⟨xw,aQ.of m.hw⟩,?_⟩;apply FZ (xs:=xw) (λi σ H'=>aA H H'/\(∃a c,σ=[some (.ref p),a,c])) ⟨aA.refl H,⟨none,none,()⟩⟩ (λi σ H' _ q=>q.1 _ _ m.hw) ?_ ?_
  .rintro i x q σ H' hx hq ⟨st,⟨a,c,rfl⟩⟩;let⟨ns,aa,hM,rfl,hA⟩:=Cv.at hx;let fu:aA H (aK H' q (.tup [.int i,.ref aa])):=st.new hq;apply⟨q,_,(),aQ.of de,(),_,_,(),_,_,(),(),?_⟩;apply⟨_,(),aa,_,(),.inr (aQ.of (fu _ _ hA)),?_,_,(),?_⟩
   .rw[Xy];simp[Function.comp_def,gN]
   .let e:(List.map V.int ns).any tv=true:=by
     rw[X6];let⟨k1,WO,WL⟩:=(kq ns (Z2 hM)).pos;apply Z6.mpr ⟨k1,WO,?_⟩;show(k1 != 0)=true;have:k1≠0:=⋯;simpa using this
    rw[e];exact cP ⟨fu,⟨_,_,()⟩⟩
  .rintro σ H' ⟨st,_⟩;exact k _ st
def re:ai ["parts","found","part"] ["parts"] (bF (top 16)):=L2.dj
def JO (F:cR K "least" "least" (top 16) f fd)(A:bS K mg P w base "less" 1 ["one","other"] jH fA dA):aI P w K mg base cf 2 f fd ["parts"] D5:=by
 apply F.ok re (λvs H Q E h=>?_) (λbH A' outer s H vs Q E hr h=>?_)
 .obtain⟨l,ys,qs,rfl,_⟩:=h;rfl
 .obtain⟨l,ys,qs,rfl,hl,hf,bD,hb,k⟩:=h;apply⟨_,d9 (k9 (i:=1) re.nd rfl (Or.inl rfl) (dz bW (pv 0) bB (λ_ _=>rfl)))
   (d9 (rj PassesOwn.never rfl (C4 (pv 0)) (iT (i:=2) re.nd rfl (Or.inl rfl))
    (dY (ph (fV (dX A.ok hr rfl A.mg A.kp A.bd .nil aN (aP (pv 2) (aP (pv 1) bN)))) (dY (k9 (i:=1) re.nd rfl (Or.inl rfl) (pv 2))) pq)))
   (dY (gc (pv 1)))),?_⟩
  let d4:0<qs.length:=Xn.mpr bD;let⟨a0,ρ,δ⟩:=hf.at (g:=0) d4;let m0:qs.getD 0 0∈qs:=by simp[List.getD,Zc d4]
  apply⟨_,(),l,_,_,_,(),(),aQ.of hl,ρ,?_⟩;apply⟨_,(),l,(),⟨_,aQ.of hl⟩,?_⟩;apply Kf (xs:=ys) (λi σ H'=>H'=H/\∃a q y2,σ=[some (.ref l),some (.ref a),y2]/\H a=some (qO q)/\q∈qs/\∀z∈qs.take i,q<=z) ⟨(),a0,_,_,(),δ,m0,λz hz=>by simp at hz⟩ (λi σ H' _ z=>by let⟨rfl,_⟩:=z;exact aQ.of hl) ?_ ?_
  .rintro i x σ H1 hx ⟨rfl,a,q,y2,rfl,ha,hq,d8⟩;let⟨c,z,rfl,hc,hz⟩:=sq hf hx;let SD:=Z2 hz;apply⟨_,(),_,(),c,a,z,q,(),hc,ha,hb z SD,hb q hq,_,(),?_⟩;by_cases cG:z<q
   .rw[decide_eq_true cG];apply cL ⟨_,(),(),c,z,_,(),hc,SD,λy hy=>?_⟩;rw[Ax hz] at hy;rcases Zv.mp hy with h |h
    .exact Yx (Zy cG) (d8 y h)
    .rw[Z1.mp h];exact Yo
   .rw[decide_eq_false cG];apply cP ⟨(),a,q,_,(),ha,hq,λy hy=>?_⟩;rw[Ax hz] at hy;rcases Zv.mp hy with h |h
    .exact d8 y h
    .rw[Z1.mp h];exact Yv.mp cG
  .rintro σ H1 ⟨rfl,a,q,y2,rfl,ha,hq,d8⟩;rw[hf.1,Yf] at d8;exact⟨_,(),k a q ha ⟨hq,d8⟩⟩
def abf:ai ["wishes","good"] ["wishes","good"] (bF (top 46)):=L2.dj
def VF (F:cR K "greatest_share" "greatest_share" (top 46) f fd)(N:Nm mg)(Fr:bS K mg P w base "fraction" 2 ["top","bottom"] (j6 (tJ Nn)) fF dF)(G:bS K mg P w base "greatest" 2 ["parts"] Dq fG dG):aI P w K mg base cf 3 f fd ["wishes","good"] Tx:=by
 apply F.ok abf (λvs H Q E h=>?_) (λbH A' outer s H vs Q E hr h=>?_)
 .obtain⟨pw,xw,M,n,g,rfl,_⟩:=h;rfl
 .obtain⟨pw,xw,M,n,g,rfl,hw,hR,SQ,kq,bD,h6,k⟩:=h;apply⟨_,dY (gc (dX G.ok hr rfl G.mg G.kp G.bd .nil aN (aP (Aw (own:=["row"]) (cap:=["good"]) (ix:=[1]) (aL.of (bF (top 46)).names ["wishes","good"]) rfl (C4 (pv 0))
    (λC fp s H=>⟨iT (i:=0) (Ψ9 ["row","good"]) rfl (Or.inl rfl),Ch,dX Fr.ok hr rfl Fr.mg Fr.kp Fr.bd .nil aN (aP (dz bW (pv 0) (pv 1) (λ_ _=>rfl)) (aP (vC (V9 rfl) (by rfl) N.max boot_max (aP (pv 0) bN)) bN))⟩)) bN))),?_⟩
  apply⟨_,(),pw,(),⟨_,aQ.of hw⟩,λacc bU=>?_⟩;apply kS (xs:=xw) (λi zs H'=>aA H H'/\lT H' zs ((M.take i).map (cm g))) ⟨(aA.refl H).acc bU,⟨(),λj y z=>by simp at z⟩⟩ (λi zs H' _ _ z=>aQ.of (z.1 _ _ hw)) ?_ ?_
  .rintro i x zs H1 hx hz ⟨s1,fr⟩;let⟨ns,a,hM,rfl,hA⟩:=hR.at hx;let gr:=kq ns (Z2 hM);let⟨ea,_,_⟩:=oy (ns:=ns) (r:=(g:Int)) ⋯ (by have:=gr.len;omega);rw[Z0] at ea;let hi:i<M.length:=(Zf.mp hM).1;apply kg ⟨_,(),_,(),a,_,_,_,(),(),aQ.of (s1 _ _ hA),ea,_,(),a,ns,(),.inr (aQ.of (s1 _ _ hA)),?_,λm hm d8=>?_⟩
   .intro z;let⟨k1,WO,_⟩:=gr.pos;rw[z] at WO;cases WO
   let em:=JZ hm d8 λn hn=>(gr.bd n hn).1
   subst em;let mx:=gr.mx;apply⟨_,_,(),Bd.mono (j:=7) (by unfold Bd;omega) ∅,λz=>absurd z ⋯,λ_ r j8=>?_⟩;rw[pT];let s2:=(aA.refl H1).new (o:=qO (cm g ns)) j8;let WF:=s2 _ _ hz;let er:(aK H1 r (qO (cm g ns))) r=some (qO (cm g ns)):=de;let fr2:=fr.ar s2;generalize aK H1 r (qO (cm g ns))=H2 at s2 WF er fr2 ⊢;let tl:Tm H2 (aK H2 acc (.lst (zs++[.ref r]))):=Tm.lst WF;apply⟨zs,WF,?_,Cn.of de ⟨(s1.trans s2).acc bU,?_⟩⟩
   .rw[fr.1,Zb,Yy,sz];omega
   .rw[Ax hM,Zs];exact(fr2.app er).tm tl
  .rintro zs H1 hz ⟨s1,fr⟩;rw[hR.len,Yf] at fr;apply⟨acc,zs,_,(),hz,fr,by simpa using bD,λq hq=>?_,λa q ha hq d8=>k a q H1 s1 ha ⟨hq,d8⟩⟩;let⟨r,j8,rfl⟩:=Zd.mp hq;exact(kL (kq r j8)).mono ∅
abbrev NFP:Δ2:=["market","amounts","purses","wishes","pieces","even"]
def AJ:ai NFP ["market"] (bF (top 45)):=L2.dj
def VH {f fW fWl fL fO fT fG Nn Un:Addr}(F:cR K "first_prices" "first_prices" (top 45) f fd)(N:Nm mg)(mgU:mg "Unwished"=some (.ref Un))(exU:PySem.W.excIn K Un [.type "ValueError",.type "Exception",.type "BaseException",.type "object"] "ValueError.__new__"=true)
  (W:bS K mg P w base "wished" 1 ["market"] yl fW dW) (Wl:bS K mg P w base "wishless" 1 ["market"] Tt fWl dWl) (L:bS K mg P w base "least" 2 ["parts"] D5 fL dL) (O:bS K mg P w base "over" 3 ["one","other"] (j6 (nF Nn)) fO dO) (T:bS K mg P w base "times" 3 ["one","other"] (j6 (Ap oN)) fT dT) (G:bS K mg P w base "greatest_share" 3 ["wishes","good"] Tx fG dG) :
  aI P w K mg base cf 4 f fd ["market"] (j6 Nu):=by
 apply F.ok AJ (λvs H Q E h=>?_) (λbH A' outer s H vs Q E hr h=>?_)
 .obtain⟨b,p,pa,pp,pw,xa,xp,xw,am,pu,wi,rfl,_⟩:=h;rfl
 .obtain⟨b,p,pa,pp,pw,xa,xp,xw,am,pu,wi,rfl,m,kq,k⟩:=h;let qC:cS 1 _:=hr.mono ∅;let MM:cS 2 _:=hr.mono ∅;let⟨Cv,Sd,C3,Wz,a1,a6,w1,w6,wp⟩:=m.lw;let⟨exa,amb⟩:=m.am;let⟨epu,pub⟩:=m.pu;let SY:(am.map be).length=xa.length:=by have:=congrArg List.length exa;rw[Zb] at this;exact this.symm
  apply⟨_,d9 (ph (pz zy (dX Wl.ok qC rfl Wl.mg Wl.kp Wl.bd .nil aN (aP (pv 0) bN)) wL (aO _)) (dY (rh)) pq)
   (d9 (jI (pv 0) (jJ rfl (ye (iT (i:=1) AJ.nd rfl (Or.inr rfl)) (ye (iT (i:=2) AJ.nd rfl (Or.inl rfl)) (ye (iT (i:=3) AJ.nd rfl (Or.inr rfl)) gU)))))
   (d9 (k9 (i:=4) AJ.nd rfl (Or.inl rfl) (vC (L5 rfl) (by rfl) N.sum boot_sum (aP (Aw (own:=["good"]) (cap:=["amounts"]) (ix:=[1]) (aL.of (bF (top 45)).names NFP) rfl (C4 (dX W.ok qC rfl W.mg W.kp W.bd .nil aN (aP (pv 0) bN)))
     (λC fp s H=>⟨iT (i:=0) (Ψ9 ["good","amounts"]) rfl (Or.inl rfl),Ch,dz bW (pv 1) (pv 0) (λ_ _=>rfl)⟩)) bN)))
   (d9 (k9 (i:=5) AJ.nd rfl (Or.inr rfl) (dX O.ok hr rfl O.mg O.kp O.bd .nil aN (aP (dX L.ok MM rfl L.mg L.kp L.bd .nil aN (aP (pv 2) bN)) (aP (gO (aP (pv 4) (aP bB bN))) bN))))
   (dY (gc (GH fb (by rfl) N.tuple sM (aP (Aw (own:=["good"]) (cap:=["even","wishes"]) (ix:=[5,3]) (aL.of (bF (top 45)).names NFP) rfl (Rq rfl N.range (aP (vC fw (by rfl) N.len Ys (aP (pv 1) bN)) bN))
     (λC fp s H=>⟨iT (i:=0) (Ψ9 ["good","even","wishes"]) rfl (Or.inl rfl),Ch,dX T.ok hr rfl T.mg T.kp T.bd .nil aN (aP (pv 1) (aP (dX G.ok hr rfl G.mg G.kp G.bd .nil aN (aP (pv 2) (aP (pv 0) bN))) bN))⟩)) bN))))))),?_⟩
  apply⟨_,(),b,p,pa,pp,pw,xa,xp,xw,am,pu,wi,(),m,kq,λH1 s1=>?_⟩;apply⟨(),_,(),cP ?_⟩;let m1:=m.ar s1;apply⟨_,(),p,_,(),aQ.of m1.hp,(),_,_,(),_,_,(),_,_,(),(),?_⟩;apply⟨_,(),b,p,pa,pp,pw,xa,xp,xw,am,pu,wi,(),m1,λq2 H2 s2 e2=>?_⟩;rw[A3] at e2;apply⟨q2,(),⟨_,aQ.of e2⟩,λacc bU=>?_⟩;let Gw:=s1.trans s2;apply kS (xs:=c3 (az xa.length (rowsOf wi))) (λi zs H'=>aA H2 H'/\zs=(((az xa.length (rowsOf wi)).take i).map λg=>(am.map be).getD g 0).map V.int) ⟨(aA.refl H2).acc bU,()⟩ (λi zs H' _ _ z=>aQ.of (z.1 _ _ e2)) ?_ ?_
  .rintro i x zs H3 hx hz ⟨s3,rfl⟩;let⟨g,hg,rfl⟩:=PR hx;let hgx:=(gl (Z2 hg)).1;let⟨ea,_,_⟩:=oy (ns:=am.map be) (r:=(g:Int)) ⋯ ⋯;rw[Z0,<- exa] at ea;let hi:i<(az xa.length (rowsOf wi)).length:=(Zf.mp hg).1;let Ay:=i9 xa.length (rowsOf wi);apply kg ⟨_,(),_,(),pa,_,_,_,(),(),aQ.of (s3 _ _ (Gw _ _ m.ha)),ea,_,hz,?_,Cn.of de ⟨s3.acc bU,?_⟩⟩
   .rw[Zb,Zb,Yy,sz];omega
   .rw[Ax hg,Zs,Zs];rfl
  rintro zs H3 hz ⟨s3,rfl⟩;rw[FG,Yf] at hz;apply⟨acc,_,(),.inl (bG.of hz),?_⟩;let epc:((az xa.length (rowsOf wi)).map λg=>(am.map be).getD g 0).sum=eU (am.map be) (az xa.length (rowsOf wi)):=rfl;rw[epc];let G0:=Gw.trans s3;let Rz:=jR (am:=am.map be) kq Sd SY (λa ha=>(amb a ha).1);let ajJ:eU (am.map be) (az xa.length (rowsOf wi))<=360:=lG SY a6 (λa ha=>(amb a ha).2);let m3:=m.ar G0;let fp3:=m3.fp;let pne:qA pu≠[]:=λz=>by
   let h1:=fp3.1;rw[z,List.length_nil] at h1;omega
  apply⟨_,(),pp,xp,qA pu,(),m3.vG,fp3,pne,λz hz=>(pub z hz).2.mono ∅,λal mn abU Ck=>?_⟩;apply⟨_,(),by show 2<=sizeLine;decide,λp4 SH=>?_⟩;let s4:=G0.new (o:=.tup [.int (eU (am.map be) (az xa.length (rowsOf wi))),.int 1]) SH;let s34:=(aA.refl H3).new (o:=.tup [.int (eU (am.map be) (az xa.length (rowsOf wi))),.int 1]) SH;let Ur:=yd (z:=eU (am.map be) (az xa.length (rowsOf wi))) ⋯;let bpc:Rb 9 ((eU (am.map be) (az xa.length (rowsOf wi)):Int):Rat):=yb (by unfold Bd;omega) ∅;let Ut:=(pub mn Ck.1);let Us:((eU (am.map be) (az xa.length (rowsOf wi)):Int):Rat)≠0:=λz=>by rw[z] at Ur;exact absurd Ur ∅
  apply⟨al,p4,mn,_,(),s34 _ _ abU,de,Ut.2.mono ∅,bpc.mono ∅,λz=>absurd z Us,λ_ r5 ZF=>?_⟩;let s5:=s4.new (o:=qO (mn / ((eU (am.map be) (az xa.length (rowsOf wi)):Int):Rat))) ZF;let e5:(aK (aK H3 p4 (.tup [.int (eU (am.map be) (az xa.length (rowsOf wi))),.int 1])) r5 (qO (mn / ((eU (am.map be) (az xa.length (rowsOf wi)):Int):Rat)))) r5=some (qO (mn / ((eU (am.map be) (az xa.length (rowsOf wi)):Int):Rat))):=de;let Wa:Rb 29 (mn / ((eU (am.map be) (az xa.length (rowsOf wi)):Int):Rat)):=gT Ut.2 bpc Us;generalize aK (aK H3 p4 (.tup [.int (eU (am.map be) (az xa.length (rowsOf wi))),.int 1])) r5 (qO (mn / ((eU (am.map be) (az xa.length (rowsOf wi)):Int):Rat)))=H5 at s5 e5 ⊢;apply⟨_,(),pa,xa,(),.inr (aQ.of (s5 _ _ m.ha)),(xa.length:Int),(),⋯,⋯,λUO LP=>?_⟩;let exl:((xa.length:Int)).toNat=xa.length:=by simp
  rw[exl];apply jV (λi zs H'=>aA H5 H'/\∃qs:Δ1,qs.length=i/\lT H' zs qs/\∀g,g<i->∃sh,nD ((rowsOf wi).map (cm g)) sh/\qs.getD g 0=mn / ((eU (am.map be) (az xa.length (rowsOf wi)):Int):Rat)*sh) ⟨(aA.refl H5).acc LP,[],(),⟨(),λj y z=>by simp at z⟩,λg hg=>absurd hg ⋯⟩ ?_ ?_
  .rintro i zs H6 hi YV ⟨s6,qs,GK,fr,SG⟩;let hii:(0+(i:Int))=(i:Int):=⋯;let s56:=s5.trans s6;let m6:=m.ar s56;let⟨rw6,_⟩:=m6.lw;apply kg ⟨_,(),_,(),_,(),pw,xw,rowsOf wi,xa.length,i,by show[V.ref pw,V.int (0+(i:Int))]=_;rw[hii],m6.hw,rw6,hi,kq,Sd,by rw[<- Cv.len];exact w6,λa7 sh H7 s7 γ vF=>?_⟩;let bsh:Rb 7 sh:=by
    let⟨r,j8,rfl⟩:=Zd.mp vF.1;exact kL (kq r j8)
   apply⟨r5,a7,_,sh,(),s7 _ _ (s6 _ _ e5),γ,Wa.mono ∅,bsh.mono ∅,λr8 hr8=>?_⟩;let s8:=(aA.refl H7).new (o:=qO (oN (mn / ((eU (am.map be) (az xa.length (rowsOf wi)):Int):Rat)) sh)) hr8;let YU:=s8 _ _ (s7 _ _ YV);let e8:(aK H7 r8 (qO (oN (mn / ((eU (am.map be) (az xa.length (rowsOf wi)):Int):Rat)) sh))) r8=some (qO (oN (mn / ((eU (am.map be) (az xa.length (rowsOf wi)):Int):Rat)) sh)):=de;let fr8:=(fr.ar s7).ar s8;generalize aK H7 r8 (qO (oN (mn / ((eU (am.map be) (az xa.length (rowsOf wi)):Int):Rat)) sh))=H8 at s8 YU e8 fr8 ⊢;let tl:Tm H8 (aK H8 UO (.lst (zs++[.ref r8]))):=Tm.lst YU;apply⟨zs,YU,?_,Cn.of de ⟨(s6.trans (s7.trans s8)).acc LP,qs++[_],by rw[Zt,GK];rfl,(fr8.app e8).tm tl,λg hg=>?_⟩⟩
   .rw[fr.1,sz];omega
   .rcases Z3 g i with z |z
    .obtain⟨sh',h1,h2⟩:=SG g z;apply⟨sh',h1,?_⟩;have:(qs++[oN (mn / ((eU (am.map be) (az xa.length (rowsOf wi)):Int):Rat)) sh]).getD g 0=qs.getD g 0:=by simp[List.getD,Zq (show g<qs.length by omega)]
     rw[this];exact h2
    .obtain rfl:g=i:=⋯;apply⟨sh,vF,?_⟩;have:(qs++[oN (mn / ((eU (am.map be) (az xa.length (rowsOf wi)):Int):Rat)) sh]).getD g 0=oN (mn / ((eU (am.map be) (az xa.length (rowsOf wi)):Int):Rat)) sh:=by rw[<- GK];simp[List.getD]
     rw[this];rfl
  .rintro zs H6 YV ⟨s6,qs,GK,fr,SG⟩;apply⟨UO,zs,(),.inl ⟨bG.of YV,λl hl=>?_⟩⟩;let s7:=(aA.refl H6).new (o:=.tup zs) hl;exact k l zs qs _ (s5.trans (s6.trans s7)) de (fr.ar s7) ⟨GK,mn,Ck,SG⟩
def xu:ai ["one","other"] ["one","other"] (bF (top 67)):=L2.dj
def xA (F:cR K "_law_div" "_law_div" (top 67) f fd)(G:bS K mg P w base "_law_frac" 1 ["top","bottom"] wj fF dF):aI P w K mg base cf 2 f fd ["one","other"] Dr:=by
 apply F.ok xu (λvs H Q E h=>?_) (λbH A outer s H vs Q E hr h=>?_)
 .obtain⟨p,q,a,b,rfl,_⟩:=h;rfl
 .obtain⟨p,q,a,b,rfl,hp,hq,⟨ba,bb⟩,⟨bc,bd⟩,GU,k⟩:=h;let hb:=den_pos a;let hn:=mD.mp GU;apply⟨_,dY (gc (dX G.ok hr rfl G.mg G.kp G.bd .nil aN (aP (cY qz (dz bW (pv 0) bB (λ_ _=>rfl)) (dz bW (pv 1) bB (λ_ _=>rfl))) (aP (cY qz (dz bW (pv 0) bB (λ_ _=>rfl)) (dz bW (pv 1) bB (λ_ _=>rfl))) bN)))),?_⟩;apply⟨_,(),p,_,_,_,(),(),aQ.of hp,(),_,(),q,_,_,_,(),(),aQ.of hq,(),_,_,(),(),⟨b3 ba,b3 bd⟩,_,(),p,_,_,_,(),(),aQ.of hp,(),_,(),q,_,_,_,(),(),aQ.of hq,(),_,_,(),(),⟨b3 bb,b3 bc⟩,?_⟩;exact⟨_,_,(),Xb hb hn,b6 (bb.mul bc),λr j8=>by rw[kF ⋯];exact k r j8⟩
end
end CV
namespace RZ
open L2 KG EX KM
def ap {α : Type}{xs:List α}{i:Nat}{x d:α}(h:xs[i]?=some x):xs.getD i d=x:=by rw[List.getD,h];rfl
def ou:g∈aV row qs↔g<row.length/\row.getD g 0≠0/\∀o,o<row.length->0<row.getD o 0->((row.getD o 0:Int):Rat)*qs.getD g 0<=((row.getD g 0:Int):Rat)*qs.getD o 0:=by
 unfold aV;rw[Zg,Zi];unfold du;rw[Z5,Yd,decide_eq_true_eq];apply⟨λ⟨h1,h2,h3⟩=>⟨h1,h2,λo ho hw=>?_⟩,λ⟨h1,h2,h3⟩=>⟨h1,h2,λo ho=>?_⟩⟩
 .have:=h3 o (Zi.mpr ho);unfold worse at this;rw[decide_eq_true hw,Xh] at this;exact Yv.mp (of_decide_eq_false (by simpa using this:decide _=false))
 .unfold worse;rw[Bool.not_eq_true',Bool.and_eq_false_iff];by_cases hw:0<row.getD o 0
  .right
   rw[decide_eq_false_iff_not,Yv];exact h3 o (Zi.mp ho) hw
  .left;rw[decide_eq_false hw]
def Kk (hw:∃o,o<row.length/\0<row.getD o 0)(hq:∀o,o<row.length->0<row.getD o 0->0<qs.getD o 0):aV row qs≠[]:=by
 let⟨o0,h0,w0⟩:=hw;let⟨m,hm⟩:=wS (l:=(((List.range row.length).filter λo=>decide (0<row.getD o 0)).map (bR row qs))) (by
  intro z;have:=Qd.mp z;let h1:o0∈(List.range row.length).filter λo=>decide (0<row.getD o 0):=Zg.mpr ⟨Zi.mpr h0,decide_eq_true w0⟩
  rw[this] at h1;cases h1)
 let⟨b,hb,rfl⟩:=Zd.mp hm.1;let⟨jZ,l7⟩:=Zg.mp hb;let jZ:=Zi.mp jZ;let l7:0<row.getD b 0:=of_decide_eq_true l7;intro z;have:b∈aV row qs:=ou.mpr ⟨jZ,⋯,λo ho hw=>?_⟩
 .rw[z] at this;cases this
 .let h1:=hm.2 (bR row qs o) (Zd.mpr ⟨o,Zg.mpr ⟨Zi.mpr ho,decide_eq_true hw⟩,()⟩);unfold bR at h1;let q1:=hq o ho hw;let q2:=hq b jZ l7;let e1:((row.getD o 0:Int):Rat) / qs.getD o 0*(qs.getD o 0*qs.getD b 0)=((row.getD o 0:Int):Rat)*qs.getD b 0:=by
   have:qs.getD o 0≠0:=λz=>by rw[z] at q1;exact absurd q1 ∅
   grind
  let e2:((row.getD b 0:Int):Rat) / qs.getD b 0*(qs.getD o 0*qs.getD b 0)=((row.getD b 0:Int):Rat)*qs.getD o 0:=by
   have:qs.getD b 0≠0:=λz=>by rw[z] at q2;exact absurd q2 ∅
   grind
  rw[<- e1,<- e2];exact Xk h1 (Zy (Xq q1 q2))
section
def ly {i j:Nat}(hi:i<W.length)(h:0<(W.getD i []).getD j 0):has W j=true:=by
 unfold has;apply Z6.mpr ⟨W.getD i [],by rw[ap (Zc hi)];exact Zw _,?_⟩;exact decide_eq_true ⋯
def FU (h:has W g=true):∃i,i<W.length/\0<(W.getD i []).getD g 0:=by
 unfold has at h;let⟨r,hr,h⟩:=Z6.mp h;let⟨i,hi,rfl⟩:=Yj hr;exact⟨i,hi,by rw[ap (Zc hi)];have:=of_decide_eq_true h;omega⟩
end
end RZ
namespace MI
open L2 KG EX KM RZ SP
def AY (L:List Nat)(n:Nat)(w:Nat->Rat)(p:Nat->Bool):wsum (L++[n]) w p=wsum L w p+if p n=true then w n else 0:=by
 unfold wsum;rw[Xo,Zs,n8]
 congr 1
 cases h:p n with
 |true=>rw[Q8 h,if_pos rfl];show aH [w n]=w n;rw[sZ];show w n+0=_;rw[Qa]
 |false=>rw[Qu (by rw[h];decide),if_neg ∅];rfl
theorem kz (h:cW c ms qs)(p:Nat->Bool):∀n,n<=qs.length->((sm n (λi=>if p i=true then ms.getD i 0 else 0):Int):Rat)=(c:Rat)*wsum (List.range n) (λi=>qs.getD i 0) p
 |0,_=>by show((0:Int):Rat)=(c:Rat)*0;rw[Xs];rfl
 |n+1,hn=>by
  rw[Y3,AY];show((sm n _+(if p n=true then ms.getD n 0 else 0):Int):Rat)=_;rw[Rat.intCast_add,kz h p n ⋯,Rat.mul_add]
  congr 1
  split
  .exact h.2 n ⋯
  .rw[Xs];rfl
def oz (L:List Nat)(w:Nat->Rat)(p:Nat->Bool):wsum L w (λ_=>true)=wsum L w p+wsum L w (λx=>!p x):=by
 have:=Ru L w (λ_=>true) p
 grind
def pK (h:∀x∈L,p x≠q x->w x=0):wsum L w p=wsum L w q:=by
 induction L with
 |nil=>rfl
 |cons x L ih =>
  rw[CG,CG,ih λy hy=>h y (Zk _ hy)]
  congr 1
  by_cases e:p x=q x
  .rw[e]
  .rw[h x Zh e];split<;>split<;>rfl
def BV (L:List Nat)(w:Nat->Rat)(p q:Nat->Bool):wsum (L.filter p) w q=wsum L w (λx=>p x&&q x):=by
 unfold wsum;rw[Qr]
 congr 2
 apply Y0 λx _=>Bool.and_comm _ _
section
def u3 (hi:i<W.length)(hx:x∈(ak W qs).getD i []):0<=x/\x.toNat∈aV (W.getD i []) qs/\((x.toNat:Nat):Int)=x:=by
 rw[vR hi] at hx
 grind
def u4 (mf:Cp A Pu W)(hi:i<W.length)(hy:y∈aV (W.getD i []) qs):y<A.length/\has W y=true/\0<(W.getD i []).getD y 0:=by
 let⟨h1,h2,_⟩:=ou.mp hy;let hr:=mf.wr i hi;let h3:=(mf.w0 i y hi ⋯).1;let h4:0<(W.getD i []).getD y 0:=by have:(W.getD i []).getD y 0=eI W i y:=rfl;omega
 exact⟨⋯,ly hi h4,h4⟩
def G5 (h:g<qs.length):(gd A qs).getD g 0=qs.getD g 0*((A.getD g 0:Int):Rat):=by
 unfold gd;simp[List.getD,Yq h]
def jb:ci S r=true↔∃x∈S,(x:Int)∈r:=by
 unfold ci
 grind
def Bh (mf:Cp A Pu W)(jC:GY W qs)(hl:qs.length=A.length)(good:∀r∈W,bw A.length r)(c8:lc A Pu qs W A.length)(zero:aF A Pu qs W (az A.length W)=0) :
  wsum (List.range A.length) (λj=>(gd A qs).getD j 0) (λ_=>true)=wsum (List.range Pu.length) (λi=>Pu.getD i 0) (λ_=>true) /\
  ∀T S:Nat->Bool,(∀i,i<Pu.length->T i=true->∀x∈(ak W qs).getD i [],S x.toNat=true)->wsum (List.range Pu.length) (λi=>Pu.getD i 0) T<=wsum (List.range A.length) (λj=>(gd A qs).getD j 0) S:=by
 let nd:(az A.length W).Nodup:=by unfold az;exact Xz.sublist Zu
 let wl:=mf.wl;let mon:∀p:Nat->Bool,eh A qs ((az A.length W).filter p)=wsum (List.range A.length) (λj=>(gd A qs).getD j 0) p:=λp=>by
  show wsum (az A.length W) _ p=_;unfold az;rw[BV];apply pK λx hx bD=>?_
  let hx:=Zi.mp hx;rw[G5 ⋯];have:has W x=false:=by
   cases hh:has W x with
   |false=>rfl
   |true=>rw[hh,Xh] at bD;exact absurd rfl bD
  rw[jC.nil x ⋯ this,Xj]
 let pur:∀S:List Nat,bt Pu (eF W qs S)=wsum (List.range Pu.length) (λi=>Pu.getD i 0) (λi=>ci S ((ak W qs).getD i [])):=λS=>by rw[<- wl];rfl
 let all:eh A qs (az A.length W)=wsum (List.range A.length) (λj=>(gd A qs).getD j 0) (λ_=>true):=by
  have:=mon λ_=>true
  rwa [X1.mpr λ_ _=>rfl] at this
 let tk:∀i,i<Pu.length->ci (az A.length W) ((ak W qs).getD i [])=true:=λi hi=>by
  let jF:i<W.length:=⋯;let hg:=good _ (jY (d:=[]) jF);let⟨k,hk,k1⟩:=hg.pos;let⟨o,ho,eo⟩:=Yj hk;let bD:aV (W.getD i []) qs≠[]:=Kk ⟨o,ho,by rw[KM.ap (Zc ho),eo];omega⟩ λo ho hw=>jC.pos o (by have:=mf.wr i jF;omega) (ly jF hw)
  let⟨y,hy⟩:=List.exists_mem_of_ne_nil _ bD;let⟨h1,h2,_⟩:=u4 mf jF hy;exact jb.mpr ⟨y,by unfold az;exact Zg.mpr ⟨Zi.mpr h1,h2⟩,by rw[vR jF];exact Zd.mpr ⟨y,hy,()⟩⟩
 let Rf:wsum (List.range A.length) (λj=>(gd A qs).getD j 0) (λ_=>true)=wsum (List.range Pu.length) (λi=>Pu.getD i 0) (λ_=>true):=by
  unfold aF at zero;rw[all,pur] at zero;rw[CH (q:=λ_=>true) λi hi=>tk i (Zi.mp hi)] at zero
  grind
 apply⟨Rf,λT S h=>?_⟩;let hS:=c8 (((az A.length W).filter λx=>!S x).map λj:Nat=>(j:Int)) (List.Sublist.map _ Zu);let en':au (((az A.length W).filter λx=>!S x).map λj:Nat=>(j:Int))=(az A.length W).filter λx=>!S x:=by
  unfold au;rw[Zp];conv=>rhs;rw[<- X5 ((az A.length W).filter λx=>!S x)]
  apply Xc λx _=>?_
  grind
 rw[en'] at hS;unfold aF at hS;rw[mon,pur] at hS;let le:wsum (List.range Pu.length) (λi=>Pu.getD i 0) (λi=>ci ((az A.length W).filter λx=>!S x) ((ak W qs).getD i []))<=wsum (List.range Pu.length) (λi=>Pu.getD i 0) (λi=>!T i):=by
  apply kw (λi hi=>Zy (mf.pu _ (jY (Zi.mp hi))).1) λi hi ht=>?_
  let⟨x,hx,hb⟩:=jb.mp ht;cases hT:T i with
  |false=>rfl
  |true =>
   let h1:=h i (Zi.mp hi) hT _ hb;let h2:=(Zg.mp hx).2;rw[Z0] at h1;rw[h1] at h2;cases h2
 let p1:=oz (List.range A.length) (λj=>(gd A qs).getD j 0) S;let p2:=oz (List.range Pu.length) (λi=>Pu.getD i 0) T
 grind
def Vf (mf:Cp A Pu W)(jC:GY W qs)(hl:qs.length=A.length)(good:∀r∈W,bw A.length r)(c8:lc A Pu qs W A.length)(zero:aF A Pu qs W (az A.length W)=0)
  (hc:0<c) (im:cW c ms (gd A qs)) (ip:cW c ps Pu):N2 (ak W qs) ms ps Pu.length A.length:=by
 let⟨Rf,abk⟩:=Bh mf jC hl good c8 zero;let wl:=mf.wl;let ml:(gd A qs).length=A.length:=by unfold gd;simp[hl]
 let cq:(0:Rat)<(c:Rat):=Y1.mpr hc;let abi:∀i,i<Pu.length->(ak W qs).getD i []=(aV (W.getD i []) qs).map λg:Nat=>(g:Int):=λi hi=>vR ⋯
 let K1:∀{n:Nat}{l:Γ3},sm n (λi=>l.getD i 0)=sm n (λi=>if (λ_:Nat=>true) i=true then l.getD i 0 else 0):=GG λi _=>by simp
 let nnI:∀{ls:Γ3}{q:Δ1},cW c ls q->(∀i,i<q.length->0<=q.getD i 0)->∀i,i<q.length->0<=ls.getD i 0:=λ{ls q} h h0 i hi=>by
  let h1:=h.2 i hi;let h2:(0:Rat)<=(c:Rat)*q.getD i 0:=Qj (Zy cq) (h0 i hi);rw[<- h1] at h2
  exact_mod_cast h2
 apply⟨im.1.trans ml,ip.1,by rw[G3,wl],mf.n6,mf.g6,λj hj=>nnI im (λi hi=>?_) j ⋯,λi hi=>nnI ip (λi hi=>Zy (mf.pu _ (jY hi)).1) i hi,λi hi x hx=>?_,λi hi=>?_,λi hi=>?_,λT S h=>?_,?_⟩
 .rw[ml] at hi;rw[G5 ⋯];let ha:=mf.am _ (jY (d:=0) hi);let hq:0<=qs.getD i 0:=by
   cases hh:has W i with
   |true=>exact Zy (jC.pos i ⋯ hh)
   |false=>rw[jC.nil i ⋯ hh];exact Yo
  exact Qj hq (by exact_mod_cast (show(0:Int)<=A.getD i 0 by omega))
 .obtain⟨h1,h2,_⟩:=u3 (show i<W.length by omega) hx;exact⟨h1,(u4 mf ⋯ h2).1⟩
 .exact Zl (ox ⋯ (mf.wr i ⋯)) mf.g6
 .rw[abi i hi];unfold aV;exact List.Pairwise.map _ (λa b RI z=>RI ⋯) (Xz.sublist Zu)
 .let h1:=abk T S h;let e1:=kz ip T Pu.length (Ze _);let e2:=kz im S A.length ⋯;let h2:=Qt h1 (Zy cq);rw[<- e1,<- e2] at h2
  exact_mod_cast h2
 .let e1:=kz ip (λ_=>true) Pu.length (Ze _);let e2:=kz im (λ_=>true) A.length ⋯;rw[Rf,<- e1] at e2;rw[K1,K1]
  exact_mod_cast e2
end
def fc.uniq (h:fc A Pu W qs L):∀{L':List CT},fc A Pu W qs L'->L=L':=by
 induction h with
 |stop rp c8 no =>
  intro L' h';cases h' with
  |stop _ _ _=>rfl
  |step _ _ pd hr _ _=>exact absurd (no _ pd) hr
 |step rp c8 pd hr hm _ ih =>
  intro L' h';cases h' with
  |stop _ _ no=>exact absurd (no _ pd) hr
  |step _ _ Si _ WN pf =>
   let e1:=Si.uniq pd;subst e1;let e2:=WN.uniq hm;subst e2;rw[ih pf]
theorem jP (k:Rat)(f:Nat->Int):∀n,aH ((List.range n).map λj=>((f j:Int):Rat)*k)=((sm n f:Int):Rat)*k
 |0=>by show(0:Rat)=((0:Int):Rat)*k;rw[show((0:Int):Rat)=0 from rfl,Xj]
 |n+1=>by
  rw[Y3,Zs,n8,jP k f n];show _+aH [((f n:Int):Rat)*k]=((sm n f+f n:Int):Rat)*k;rw[sZ,show aH ([]:Δ1)=0 from rfl,Qa,Rat.intCast_add,Rat.add_mul]
def IG {f:Nat->Int}{n:Nat}(h:∀i,i<n->0<=f i):∀{m:Nat},m<=n->0<=sm m f/\sm m f<=sm n f:=by
 induction n with
 |zero =>
  intro m hm;have:m=0:=⋯;subst this;exact⟨Y5 _,Y5 _⟩
 |succ n ih =>
  intro m hm;by_cases e:m=n+1
  .subst e;exact⟨Vg h,Y5 _⟩
  .obtain⟨h1,h2⟩:=ih (λi hi=>h i ⋯) (m:=m) ⋯;let h3:=h n ⋯;exact⟨h1,by show _<=sm n f+f n;omega⟩
section
def A0 (mf:Cp A Pu W)(hl:qs.length=A.length)(d:lB A Pu W qs kb c ms ps M)(k3:kb<=2010000){i:Nat}(hi:i<Pu.length){Kw:Rat}(hr:Rb 2010020 Kw)
  (hb:∀j,j<A.length->((j:Nat):Int)∈(ak W qs).getD i []->0<qs.getD j 0/\(((W.getD i []).getD j 0:Int):Rat)=Kw*qs.getD j 0) :
  tV (W.getD i []) ((cF A ms M).getD i [])/\aH (cE (W.getD i []) ((cF A ms M).getD i []))=Pu.getD i 0*Kw:=by
 let wl:=mf.wl;let jF:i<W.length:=⋯;let rl:=mf.wr i jF;let sp:=d.sp;let ml:=sp.sL.len;let c0:(0:Rat)<(c:Rat):=Y1.mpr d.c0;let cn:(c:Rat)≠0:=λz=>by rw[z] at c0;exact absurd c0 ∅
 let mql:(gd A qs).length=A.length:=by unfold gd;simp[hl]
 let eD:(cF A ms M).getD i []=(List.range A.length).map λj=>Gx (en M i j) (ms.getD j 0) (A.getD j 0):=by
  unfold cF;rw[jv (a:=0) (by rw[Yk];omega)]
  congr 1
  funext j
  rw[show(List.range M.length).getD i 0=i by simp[List.getD,Yq (show i<M.length by omega)]]
 let atD:∀j,j<A.length->((cF A ms M).getD i []).getD j 0=Gx (en M i j) (ms.getD j 0) (A.getD j 0):=λj hj=>by
  rw[eD,jv (a:=0) (by rw[Yk];exact hj)];rw[show(List.range A.length).getD j 0=j by simp[List.getD,Yq hj]]
 let Sh:0<Pu.getD i 0:=(mf.pu _ (jY hi)).1;let Rk:Rb 20 (Pu.getD i 0):=(mf.pu _ (jY hi)).2;let YL:((ps.getD i 0:Int):Rat)=(c:Rat)*Pu.getD i 0:=d.ip.2 i hi;let ps0:0<ps.getD i 0:=by
  have:(0:Rat)<((ps.getD i 0:Int):Rat):=by rw[YL];exact Xq c0 Sh
  exact Y1.mp this
 let psB:Bd (13*kb+79) (ps.getD i 0):=d.pb _ (jY (by rw[d.ip.1];exact hi));let one:∀j,j<A.length->(((W.getD i []).getD j 0:Int):Rat)*((cF A ms M).getD i []).getD j 0=((en M i j:Int):Rat)*(Kw / (c:Rat)):=λj hj=>by
  rw[atD j hj];unfold Gx;split
  .rename_i h0;let⟨q0,ew⟩:=hb j hj (sp.sup i j hi hj h0);let am:=mf.am _ (jY (d:=0) hj);let a0:(0:Rat)<((A.getD j 0:Int):Rat):=Y1.mpr ⋯;let em:((ms.getD j 0:Int):Rat)=(c:Rat)*(qs.getD j 0*((A.getD j 0:Int):Rat)):=by rw[d.im.2 j ⋯,G5 ⋯]
   rw[Qb,em,ew,Xp];let an:((A.getD j 0:Int):Rat)≠0:=λz=>by rw[z] at a0;exact absurd a0 ∅
   let qn:qs.getD j 0≠0:=λz=>by rw[z] at q0;exact absurd q0 ∅
   grind
  .rename_i h0;have:en M i j=0:=by have:=sp.nn i j;omega
   rw[this,Xs,show((0:Int):Rat)=0 from rfl,Xj]
 let eP:cE (W.getD i []) ((cF A ms M).getD i [])=(List.range A.length).map λj=>((en M i j:Int):Rat)*(Kw / (c:Rat)):=by
  unfold cE;rw[rl];exact Xc λj hj=>one j (Zi.mp hj)
 let UL:∀N:Int,0<=N->N<=ps.getD i 0->Rb 32000000 (((N:Int):Rat)*(Kw / (c:Rat))):=λN n0 n1=>by
  let nB:Bd (13*kb+79) N:=psB.le ⋯;let e:((N:Int):Rat)*(Kw / (c:Rat))=Rat.divInt N (ps.getD i 0)*(Pu.getD i 0*Kw):=by
   rw[Qb,YL];let pn:Pu.getD i 0≠0:=λz=>by rw[z] at Sh;exact absurd Sh ∅
   grind
  rw[e];apply(fU (iE (k:=13*kb+79) ⋯ nB psB) (fU Rk hr)).mono ?_;omega
 let abj:∀m,m<=A.length->0<=sm m (λj=>en M i j)/\sm m (λj=>en M i j)<=ps.getD i 0:=λm hm=>by
  have:=IG (f:=λj=>en M i j) (n:=A.length) (λj _=>sp.nn i j) hm;let e:sm A.length (λj=>en M i j)=ps.getD i 0:=sp.row i hi;omega
 apply⟨⟨?_,?_,λx hx=>?_,λz hz=>?_,λz hz=>?_,λm hm=>?_⟩,?_⟩
 .rw[eD,Zb,Yk,rl]
 .rw[rl];exact mf.g6
 .obtain⟨j,hj,rfl⟩:=Yj hx;have:=mf.w0 i j jF ⋯;unfold eI at this
  rwa [KM.ap (Zc hj)] at this
 .rw[eD] at hz;let⟨j,hj,rfl⟩:=Zd.mp hz;let hj:=Zi.mp hj;unfold Gx;split
  .rename_i h0;let h1:=(DP sp hi hj).1;let h2:=d.mb _ (jY (d:=0) (show j<ms.length by rw[d.im.1,mql];exact hj));let h3:=mf.am _ (jY (d:=0) hj);let h4:Bd (13*kb+79) (en M i j):=h2.le ⋯;let h5:Bd 6 (A.getD j 0):=by unfold Bd;omega
   let h6:Bd 32000000 (en M i j*A.getD j 0):=(h4.mul h5).mono ⋯;exact iE ⋯ h6 (h2.mono ⋯)
  .exact kA.mono ∅
 .rw[eP] at hz;let⟨j,hj,rfl⟩:=Zd.mp hz;let hj:=Zi.mp hj;exact UL _ (sp.nn i j) (DP sp hi hj).2
 .rw[eP] at hm ⊢;rw[Zb,Yk] at hm;rw[<- List.map_take,List.take_range,Nat.min_eq_left hm,jP];let⟨h1,h2⟩:=abj m hm;exact UL _ h1 h2
 .rw[eP,jP];let e:sm A.length (λj=>en M i j)=ps.getD i 0:=sp.row i hi;rw[e,YL]
  grind
end
end MI
namespace RZ
open L2 KG EX KM
def Ab (N D:Nat)(z:Rat):Prop:=z.num.natAbs<=N/\z.den<=D
def Ab.mono (h:Ab N D z)(h1:N<=N')(h2:D<=D'):Ab N' D' z:=⟨Zl h.1 h1,Zl h.2 h2⟩
def rK (hU:U≠0):Ab T.natAbs U.natAbs (Rat.divInt T U):=by
 let⟨e1,e2⟩:=nL (T:=T) hU;let⟨_,_,_,_,n5,n6⟩:=kB (t:=T) hU;rw[e1] at n5;rw[e2] at n6;exact⟨n5,⋯⟩
def QT (hx:Ab a b x)(hy:Ab c d y):Ab (a*c) (b*d) (x*y):=by
 rw[<- kC];let h2:(x.den:Int)*y.den≠0:=X4 (Xb (den_pos x) (den_pos y));apply(rK h2).mono ?_ ?_
 .rw[Xf];exact Xt hx.1 hy.1
 .rw[Xf,Xl,Xl];exact Xt hx.2 hy.2
def Kr {a b c d:Nat}{x y:Rat}(hx:Ab a b x)(hy:Ab c d y)(h:y≠0):Ab (a*d) (b*c) (x / y):=by
 let hn:y.num≠0:=λz=>h (Rat.num_eq_zero.mp z)
 rw[<- kF hn];apply(rK ?_).mono ?_ ?_
 .intro z;rcases Int.mul_eq_zero.mp z with y |y
  .have:=den_pos x;omega
  .exact hn y
 .rw[Xf,Xl];exact Xt hx.1 hy.2
 .rw[Xf,Xl];exact Xt hx.2 hy.1
def QV (hx:Ab a b x)(hy:Ab c d y):Ab (a*d+c*b) (b*d) (x+y):=by
 rw[<- mX];let h2:(x.den:Int)*y.den≠0:=X4 (Xb (den_pos x) (den_pos y));apply(rK h2).mono ?_ ?_
 .apply Zl (Int.natAbs_add_le _ _) ?_;rw[Xf,Xf,Xl,Xl];exact Nat.add_le_add (Xt hx.1 hy.2) (Xt hy.1 hx.2)
 .rw[Xf,Xl,Xl];exact Xt hx.2 hy.2
theorem Al:∀{l:Δ1},(∀z∈l,Ab N D z)->(aH l).den<=D ^ l.length/\D*(aH l).num.natAbs<=l.length*N*D ^ l.length
 |[],_=>by
  have:aH []=0:=rfl;rw[this];exact⟨Ze _,by show D*0<=_;omega⟩
 |x::l,h=>by
  let⟨i1,i2⟩:=Al (l:=l) λz hz=>h z (Zk _ hz)
  let hx:=h x Zh;rw[sZ,Y4];let⟨h1,h2⟩:=QV hx (show Ab (aH l).num.natAbs (D ^ l.length) (aH l) from⟨Ze _,i1⟩);apply⟨by rw[Nat.pow_succ,Nat.mul_comm];exact h2,?_⟩;apply Zl (Nat.mul_le_mul_left D h1) ?_;rw[Nat.mul_add,Nat.pow_succ];let e1:D*((aH l).num.natAbs*D)=(D*(aH l).num.natAbs)*D:=(Nat.mul_assoc _ _ _).symm;rw[e1];let h3:=Nat.mul_le_mul_right D i2;let e2:(l.length+1)*N*(D ^ l.length*D)=D*(N*D ^ l.length)+l.length*N*D ^ l.length*D:=by grind
  rw[e2];exact Nat.add_le_add_left h3 _
def Am (hD:1<=D)(h:∀z∈l,Ab N D z)(hl:l.length<=6):Ab (6*N*D ^ 5) (D ^ 6) (aH l):=by
 let⟨h1,h2⟩:=Al h;let hp:D ^ l.length<=D ^ 6:=Xa hD hl;apply⟨?_,Zl h1 hp⟩;let h3:l.length*N*D ^ l.length<=6*N*D ^ 6:=Xt (Nat.mul_le_mul_right N hl) hp;let e:6*N*D ^ 6=D*(6*N*D ^ 5):=by grind
 have:=Zl h2 h3;rw[e] at this;exact Nat.le_of_mul_le_mul_left this hD
def Wc (h:Ab N D z)(h1:N<2 ^ k)(h2:D<2 ^ k):Rb k z:=⟨by unfold Bd;have:=h.1;omega,by unfold Bd;have:=h.2;rw[Xl];omega⟩
def Vt (h:Rb k z):Ab (2 ^ k) (2 ^ k) z:=by
 let⟨h1,h2⟩:=h;unfold Bd at h1 h2;rw[Xl] at h2;exact⟨⋯,⋯⟩
def Ks (a:Int):Ab a.natAbs 1 (a:Rat):=⟨by show a.natAbs<=_;exact Ze _,Ze _⟩
def Kq {qs:Δ1}(h:∀z∈qs,Ab N D z)(hD:1<=D)(g:Nat):Ab N D (qs.getD g 0):=by
 by_cases hg:g<qs.length
 .rw[ap (Zc hg)];exact h _ (Zw _)
 .rw[List.getD,Yu (Xd hg)];exact⟨Yb _,hD⟩
section
end
section
end
end RZ
namespace MI
open L2 KG EX KM
open RZ (lc bZ aM io)
def UI:FM:=λO xs P _=>∃j,xs=[.bag j]/\∀(A:Γ3) (Pu:Δ1) (W:Γ1),gh (eN A Pu W)=true->(∀r∈W,∃k∈r,1<=k)->P (.im (eN A Pu W)) O
theorem nQ {α : Type}{f:α->PyData}:∀{ds:Ξ1},(∀d∈ds,∃x,d=f x)->∃xs:List α,ds=xs.map f
 |[],_=>⟨[],()⟩
 |d::ds,h=>by
  let⟨x,rfl⟩:=h d Zh;let⟨xs,rfl⟩:=nQ (ds:=ds) λd hd=>h d (Zk _ hd)
  exact⟨x::xs,()⟩
def oA (h:within a b d=true):∃x,d=.int x:=by
 cases d with
 |int n=>exact⟨n,()⟩
 |_=>cases h
def zG {am pu wi:Ξ1}(h:gh (.tuple [.tuple am,.tuple pu,.tuple wi])=true):∃A Pu W,(PyData.tuple [.tuple am,.tuple pu,.tuple wi])=eN A Pu W:=by
 let⟨h1,h2,h3,h4,h5,h6,h7,h8⟩:=iO h;let⟨A,rfl⟩:=nQ (f:=PyData.int) λd hd=>oA (Yd.mp h3 d hd)
 let⟨Pu,rfl⟩:=nQ (f:=qD) (ds:=pu) λd hd=>by
  let⟨q,e,_⟩:=rV (Yd.mp h6 d hd);exact⟨q,e⟩
 let⟨W,rfl⟩:=nQ (f:=aS) (ds:=wi) λd hd=>by
  have:=Yd.mp h8 d hd;cases d with
  |tuple ds =>
   let e:(decide (ds.length=(A.map PyData.int).length)&&ds.all (within 0 100))=true:=this;rw[Z5] at e;let⟨r,rfl⟩:=nQ (f:=PyData.int) λd hd=>oA (Yd.mp e.2 d hd)
   exact⟨r,()⟩
  |_=>cases this
 exact⟨A,Pu,W,()⟩
section
def VP:tH K Nt UI:=λw O H vs xs P PX Q E r a hf q x=>by
 let⟨j,rfl,hf⟩:=hf;let⟨v,us,rfl,h1,h2⟩:=a.bv;rw[h2.cD];let⟨b,hb,rfl⟩:=h1;let iq:=Z2 hb;apply⟨b,(),r.bg b iq,λp am pu wi H' hB hK t m pd=>?_⟩;let⟨r1,e1,_⟩:=r.draw iq hK hB;let⟨A,Pu,W,e⟩:=zG m;let ew:wi=W.map aS:=by
  have:=congrArg (λd=>match d with |PyData.tuple [_,_,.tuple x]=>x |_=>[]) e;exact this
 let hp:∀r∈W,∃k∈r,1<=k:=λr hr=>Jn m pd (by rw[ew,KD];exact hr)
 rw[e] at t m;exact q _ _ O w H' (hf A Pu W m hp) e1 r1 (XR r1 t (wP A Pu W))
end
section
end
def qh (mf:Cp A Pu W)(hp:∀r∈W,∃k∈r,1<=k):∀r∈W,bw A.length r:=λr hr=>by
 let⟨i,hi,e⟩:=Yj hr;let er:W.getD i []=r:=by rw[ap (Zc hi)];exact e
 let hl:=mf.wr i hi;rw[er] at hl;apply⟨hl,λk hk=>?_,hp r hr⟩;let⟨o,ho,rfl⟩:=Yj hk;have:=mf.w0 i o hi ⋯;unfold eI at this;rw[er,ap (Zc ho)] at this;exact this
def xT (ok:gh (eN A Pu W)=true)(hp:∀r∈W,∃k∈r,1<=k)(hF:fz A Pu W A.length qs):cU A Pu W qs/\lc A Pu qs W A.length:=by
 let mf:=sY ok;let hM:=qh mf hp;let wl:=mf.wl;let n1:=mf.n1;let XI:W≠[]:=λz=>by rw[z] at wl;simp at wl;omega
 let Rz:=jR (am:=A) hM XI rfl (λa ha=>(mf.am a ha).1);let hpu:=lG (am:=A) (M:=W) rfl mf.g6 (λa ha=>(mf.am a ha).2);let Az:∀p∈Pu,0<p:=λp h=>(mf.pu p h).1
 let vG:=yd (z:=eU A (az A.length W)) ⋯;let bD:((eU A (az A.length W):Int):Rat)≠0:=λz=>by rw[z] at vG;exact absurd vG ∅
 let b1:Rb 9 ((eU A (az A.length W):Int):Rat):=yb (by unfold Bd;omega) ∅;let⟨mn,Ck,hq⟩:=hF.ex;let hb:0<mn / ((eU A (az A.length W):Int):Rat):=div_pos (Az mn Ck.1) vG;let bd:∀z∈qs,Rb 2009987 z:=λz hz=>by
  let⟨g,hg,rfl⟩:=Yj hz;let⟨sh,vF,e⟩:=hq g (by rw[<- hF.len];exact hg);rw[ap (Zc hg)] at e;rw[e];let⟨r,hr,rfl⟩:=Zd.mp vF.1;exact(fU (gT (mf.pu mn Ck.1).2 b1 bD) (kL (hM r hr))).mono ∅
 let hr0:∀{i:Nat},i<W.length->W.getD i []∈W:=λhi=>by rw[ap (Zc hi)];exact Zw _
 let jC:GY W qs:=by
  apply⟨λj hj hh=>?_,λj hj hh=>?_⟩
  .obtain⟨sh,vF,e⟩:=hq j (by rw[<- hF.len];exact hj);rw[e];let⟨i,hi,hw⟩:=RZ.FU hh;let h1:=vF.2 _ (Zd.mpr ⟨_,hr0 hi,()⟩);let h2:0<cm j (W.getD i []):=div_pos (yd hw) (yd (by have:=(hM _ (hr0 hi)).mx.1;omega));exact Xq hb (Rat.not_le.mp λz=>absurd h2 (Yv.mpr (Yx h1 z)))
  .obtain⟨sh,vF,e⟩:=hq j (by rw[<- hF.len];exact hj);rw[e];let⟨r,hr,rfl⟩:=Zd.mp vF.1;let⟨i,hi,e2⟩:=Yj hr;let er:W.getD i []=r:=by rw[ap (Zc hi)];exact e2
   let h0:=(hM r hr).at j;have:r.getD j 0=0:=by
    rcases Int.lt_or_le 0 (r.getD j 0) with y |y
    .rw[RZ.ly hi (by rw[er];exact y)] at hh;cases hh
    .omega
   let hz:cm j r=0:=by unfold cm;rw[this];show(0:Rat) / _=0;rw[X7,Xj]
   rw[hz,Xs]
 apply⟨⟨⟨ok,hF.len,jC,λz hz=>(bd z hz).mono ∅⟩,bd⟩,λS hS=>?_⟩;apply vm hM hF Az ⋯ rfl (λa ha=>(mf.am a ha).1) Rz ?_;have:=hS.map Int.toNat;unfold aw at this;rw[Zp] at this;let e:(az A.length W).map (Int.toNat ∘ λj:Nat=>(j:Int))=az A.length W:=by
  have:(Int.toNat ∘ λj:Nat=>(j:Int))=id:=funext λj=>Z0 j
  rw[this,X5]
 rw[e] at this;exact this
end MI
namespace RT
open L2 KG EX KM RZ SP MI
structure ft (A:Γ3)(Pu:Δ1)(W:Γ1)(qs:Δ1):Prop where
 mf:Cp A Pu W
 len:qs.length=A.length
 jC:GY W qs
 good:∀i,i<W.length->∃o,o<A.length/\0<(W.getD i []).getD o 0
section
def wi (W:Γ1)(i g:Nat):Int:=(W.getD i []).getD g 0
def rt (W:Γ1)(qs:Δ1)(i g:Nat):Rat:=bR (W.getD i []) qs g
structure Top (A:Γ3)(W:Γ1)(qs:Δ1)(i:Nat)(r:Rat):Prop where
 ex:∃g,g<A.length/\0<wi W i g/\rt W qs i g=r
 le:∀o,o<A.length->0<wi W i o->rt W qs i o<=r
def ft.q0 (m:ft A Pu W qs)(hi:i<W.length)(hg:g<A.length)(h:0<wi W i g):0<qs.getD g 0:=m.jC.pos g (by rw[m.len];exact hg) (ly hi h)
def ft.r0 (m:ft A Pu W qs)(hi:i<W.length)(hg:g<A.length)(h:0<wi W i g):0<rt W qs i g:=by
 unfold rt bR;exact KM.div_pos (Y1.mpr h) (m.q0 hi hg h)
def LX {a b p q:Rat}(hp:0<p)(hq:0<q):a*q<=b*p↔a / p<=b / q:=by
 let pn:p≠0:=λz=>by rw[z] at hp;exact absurd hp ∅
 let qn:q≠0:=λz=>by rw[z] at hq;exact absurd hq ∅
 constructor
 .exact λh=>RZ.div_le_div hp hq h
 .intro h;let h1:=Xk h (Zy (Xq hp hq));let e1:a / p*(p*q)=a*q:=by grind
  let e2:b / q*(p*q)=b*p:=by grind
  rw[e1,e2] at h1;exact h1
def ft.best (m:ft A Pu W qs){i g:Nat}(hi:i<W.length):g∈aV (W.getD i []) qs↔g<A.length/\0<wi W i g/\∀o,o<A.length->0<wi W i o->rt W qs i o<=rt W qs i g:=by
 let rl:=m.mf.wr i hi;rw[ou,rl];constructor
 .rintro⟨h1,h2,h3⟩;let h0:0<wi W i g:=by
   have:=(m.mf.w0 i g hi h1).1;let e:(W.getD i []).getD g 0=eI W i g:=rfl;unfold wi;omega
  exact⟨h1,h0,λo ho hw=>(LX (m.q0 hi ho hw) (m.q0 hi h1 h0)).mp (h3 o ho hw)⟩
 .rintro⟨h1,h2,h3⟩;exact⟨h1,by unfold wi at h2;omega,λo ho hw=>(LX (m.q0 hi ho hw) (m.q0 hi h1 h2)).mpr (h3 o ho hw)⟩
def ft.top (m:ft A Pu W qs)(hi:i<W.length):∃r,Top A W qs i r:=by
 let⟨o,ho,hw⟩:=m.good i hi;let⟨r,h1,h2⟩:=wS (l:=((List.range A.length).filter λg=>decide (0<wi W i g)).map (rt W qs i)) (λz=>by
  have:o∈(List.range A.length).filter λg=>decide (0<wi W i g):=Zg.mpr ⟨Zi.mpr ho,decide_eq_true hw⟩
  rw[Qd.mp z] at this;cases this)
 let⟨g,hg,e⟩:=Zd.mp h1;let⟨a,b⟩:=Zg.mp hg;exact⟨r,⟨g,Zi.mp a,of_decide_eq_true b,e⟩,λo ho hw=>h2 _ (Zd.mpr ⟨o,Zg.mpr ⟨Zi.mpr ho,decide_eq_true hw⟩,()⟩)⟩
def Top.best (t:Top A W qs i r)(m:ft A Pu W qs)(hi:i<W.length):g∈aV (W.getD i []) qs↔g<A.length/\0<wi W i g/\rt W qs i g=r:=by
 rw[m.best hi];constructor
 .rintro⟨h1,h2,h3⟩;let⟨b,b1,b2,b3⟩:=t.ex;exact⟨h1,h2,Qs (t.le g h1 h2) (by rw[<- b3];exact h3 b b1 b2)⟩
 .rintro⟨h1,h2,h3⟩;exact⟨h1,h2,λo ho hw=>by rw[h3];exact t.le o ho hw⟩
def Top.pos (t:Top A W qs i r)(m:ft A Pu W qs)(hi:i<W.length):0<r:=by
 let⟨b,b1,b2,b3⟩:=t.ex;rw[<- b3];exact m.r0 hi b1 b2
def tk (W:Γ1)(qs:Δ1)(i:Nat)(S:Γ3):Bool:=ci (au S) ((ak W qs).getD i [])
def oO (hi:i<W.length)(hS:∀x∈S,0<=x):tk W qs i S=true↔∃g,((g:Nat):Int)∈S/\g∈aV (W.getD i []) qs:=by
 unfold tk;rw[jb,vR hi];constructor
 .rintro⟨x,hx,h⟩;let⟨y,hy,rfl⟩:=Zd.mp hx
  grind
 .rintro⟨g,h1,h2⟩;exact⟨g,Zd.mpr ⟨_,h1,⋯⟩,Zd.mpr ⟨g,h2,()⟩⟩
def KC (hg:g<qs.length):(db qs Pd f).getD g 0=if (g:Int)∈Pd then qs.getD g 0 else qs.getD g 0*f:=by
 unfold db;rw[jv (a:=0) (by rw[Yk];exact hg),show(List.range qs.length).getD g 0=g by simp[List.getD,Yq hg]];simp
def hV:(db qs Pd f).length=qs.length:=by unfold db;simp
def ft.raised (m:ft A Pu W qs)(hf:0<f):ft A Pu W (db qs Pd f):=by
 apply⟨m.mf,hV.trans m.len,⟨λj hj hh=>?_,λj hj hh=>?_⟩,m.good⟩
 .rw[hV] at hj;rw[KC hj];have:=m.jC.pos j hj hh;split
  .exact this
  .exact Xq this hf
 .rw[hV] at hj;rw[KC hj,m.jC.nil j hj hh];split
  .rfl
  .exact Xj _
def G4 (hg:g<qs.length):rt W (db qs Pd f) i g=if (g:Int)∈Pd then rt W qs i g else rt W qs i g / f:=by
 unfold rt bR;rw[KC hg];split
 .rfl
 .rw[X7,X7,X7,Rat.inv_mul_rev]
  grind
def uT {a b f:Rat}(hf:0<f)(h:a<=b):a / f<=b / f:=by
 rw[X7,X7];exact Xk h (Zy (Rat.inv_pos.mpr hf))
def uU {a f:Rat}(hf:1<f)(ha:0<a):a / f<a:=by
 let f0:0<f:=by grind
 let fn:f≠0:=λz=>by rw[z] at f0;exact absurd f0 ∅
 let h1:a / f*f=a:=by grind
 let h2:0<a / f:=KM.div_pos ha f0;let h3:a / f*1<a / f*f:=Rat.mul_lt_mul_of_pos_left hf h2
 grind
def lO (m:ft A Pu W qs){Pd:Γ3}(p0:∀x∈Pd,0<=x)(hf:1<f)(hi:i<W.length)(ht:tk W qs i Pd=true)(g:Nat) :
  g∈aV (W.getD i []) (db qs Pd f)↔g∈aV (W.getD i []) qs/\(g:Int)∈Pd:=by
 let f0:0<f:=by grind
 let m':=m.raised (Pd:=Pd) f0;let⟨r,t⟩:=m.top hi;let r0:=t.pos m hi;let⟨h,hp,hb⟩:=(oO hi p0).mp ht;let⟨h1,h2,h3⟩:=(t.best m hi).mp hb;let le:∀o,o<A.length->0<wi W i o->rt W (db qs Pd f) i o<=r:=λo ho hw=>by
  rw[G4 (by rw[m.len];exact ho)];have:=t.le o ho hw;split
  .exact this
  .exact Yx (Zy (uU hf (m.r0 hi ho hw))) this
 let t':Top A W (db qs Pd f) i r:=⟨⟨h,h1,h2,by rw[G4 (by rw[m.len];exact h1),if_pos hp,h3]⟩,le⟩;rw[t'.best m' hi,t.best m hi];constructor
 .rintro⟨a,b,c⟩;rw[G4 (by rw[m.len];exact a)] at c;split at c
  .exact⟨⟨a,b,c⟩,by assumption⟩
  .exfalso;let h5:=t.le g a b;let h6:=uU hf (m.r0 hi a b)
   grind
 .rintro⟨⟨a,b,c⟩,d⟩;exact⟨a,b,by rw[G4 (by rw[m.len];exact a),if_pos d,c]⟩
def Meets (A:Γ3)(W:Γ1)(qs:Δ1)(Pd:Γ3)(f:Rat):Prop:=∀i,i<W.length->tk W qs i Pd=false->∀b o,b∈aV (W.getD i []) qs->o<A.length->(o:Int)∈Pd->0<wi W i o->f<=rt W qs i b / rt W qs i o
def Rt (m:ft A Pu W qs){Pd:Γ3}(p0:∀x∈Pd,0<=x)(hf:1<f)(me:Meets A W qs Pd f)(hi:i<W.length)(ht:tk W qs i Pd=false)(g:Nat) :
  g∈aV (W.getD i []) (db qs Pd f)↔g∈aV (W.getD i []) qs\/((g:Int)∈Pd/\g<A.length/\0<wi W i g/\∃b,b∈aV (W.getD i []) qs/\f=rt W qs i b / rt W qs i g):=by
 let f0:0<f:=by grind
 let fn:f≠0:=λz=>by rw[z] at f0;exact absurd f0 ∅
 let m':=m.raised (Pd:=Pd) f0;let⟨r,t⟩:=m.top hi;let⟨b,b1,b2,b3⟩:=t.ex;let hb:=(t.best m hi).mpr ⟨b1,b2,b3⟩;let out:∀g,g∈aV (W.getD i []) qs->(g:Int)∉Pd:=λg hg hp=>by
  have:=(oO hi p0).mpr ⟨g,hp,hg⟩;rw[ht] at this;cases this
 let le:∀o,o<A.length->0<wi W i o->rt W (db qs Pd f) i o<=r / f:=λo ho hw=>by
  rw[G4 (by rw[m.len];exact ho)];split
  .rename_i hp;let h1:=me i hi ht b o hb ho hp hw;rw[b3] at h1;let ro:=m.r0 hi ho hw;let h2:f*rt W qs i o<=r:=by
    have:=Xk h1 (Zy ro)
    rwa [KH ro] at this
   let h3:=uT f0 h2;let e:f*rt W qs i o / f=rt W qs i o:=by grind
   rwa [e] at h3
  .exact uT f0 (t.le o ho hw)
 let t':Top A W (db qs Pd f) i (r / f):=⟨⟨b,b1,b2,by rw[G4 (by rw[m.len];exact b1),if_neg (out b hb),b3]⟩,le⟩;rw[t'.best m' hi,t.best m hi];constructor
 .rintro⟨a,c,d⟩;rw[G4 (by rw[m.len];exact a)] at d;split at d
  .rename_i hp;apply .inr ⟨hp,a,c,b,hb,?_⟩;let ro:=m.r0 hi a c;let rn:rt W qs i g≠0:=λz=>by rw[z] at ro;exact absurd ro ∅
   rw[b3]
   grind
  .left
   apply⟨a,c,?_⟩;let e1:rt W qs i g / f*f=rt W qs i g:=by grind
   let e2:r / f*f=r:=by grind
   rw[<- e1,d,e2]
 .rintro(⟨a,c,d⟩ |⟨hp,a,c,b',j3,e⟩)
  .apply⟨a,c,?_⟩;rw[G4 (by rw[m.len];exact a),if_neg (out g ((t.best m hi).mpr ⟨a,c,d⟩)),d]
  .apply⟨a,c,?_⟩;let⟨_,_,b3'⟩:=(t.best m hi).mp j3;let ro:=m.r0 hi a c;let rn:rt W qs i g≠0:=λz=>by rw[z] at ro;exact absurd ro ∅
   rw[G4 (by rw[m.len];exact a),if_pos hp];rw[b3'] at e
   grind
end
section
variable {A:Γ3}
def Mz (x:Int)(S:Γ3):eh A qs (au (x::S))=(gd A qs).getD x.toNat 0+eh A qs (au S):=by
 unfold eh au;rw[Zm,Zm,sZ]
def j7 (Pd S:Γ3):Γ3:=S.filter λx=>Pd.contains x
def cC (Pd S:Γ3):Γ3:=S.filter λx=>!Pd.contains x
theorem MB:∀{S:Γ3},(∀x∈S,0<=x/\x.toNat<qs.length)->eh A (db qs Pd f) (au S)=eh A qs (au (j7 Pd S))+f*eh A qs (au (cC Pd S))
 |[],_=>by show(0:Rat)=0+f*0;grind
 |x::S,h=>by
  let ih:=MB (Pd:=Pd) (f:=f) (S:=S) (λy hy=>h y (Zk _ hy));let⟨h0,h1⟩:=h x (.head _);let e:((x.toNat:Nat):Int)=x:=⋯;unfold j7 cC at ih ⊢;rw[Mz,ih,G5 (by rw[hV];exact h1),KC h1,e,Jd,Jd];by_cases hp:x∈Pd
  .rw[if_pos hp,if_pos (by simpa using hp),if_neg (by simpa using hp),Mz,G5 h1];grind
  .rw[if_neg hp,if_neg (by simpa using hp),if_pos (by simpa using hp),Mz,G5 h1];grind
def yX (hi:i<W.length)(hT:∀x∈T,0<=x)(h:∀x∈S,x∈T)(ht:tk W qs i S=true):tk W qs i T=true:=by
 let⟨g,h1,h2⟩:=(oO hi λx hx=>hT x (h x hx)).mp ht;exact(oO hi hT).mpr ⟨g,h _ h1,h2⟩
def pP (m:ft A Pu W qs)(p0:∀x∈Pd,0<=x)(hf:1<f)(me:Meets A W qs Pd f)(hi:i<W.length)(hS:∀x∈S,0<=x)
  (h:tk W qs i (j7 Pd S)=true\/(tk W qs i (cC Pd S)=true/\tk W qs i Pd=false)):tk W (db qs Pd f) i S=true:=by
 rw[oO hi hS];rcases h with h |⟨h,hl⟩
 .obtain⟨g,h1,h2⟩:=(oO hi λx hx=>hS x (Zg.mp hx).1).mp h;let⟨h3,h4⟩:=Zg.mp h1;let h5:(g:Int)∈Pd:=by simpa using h4
  exact⟨g,h3,(lO m p0 hf hi ((oO hi p0).mpr ⟨g,h5,h2⟩) g).mpr ⟨h2,h5⟩⟩
 .obtain⟨g,h1,h2⟩:=(oO hi λx hx=>hS x (Zg.mp hx).1).mp h;exact⟨g,(Zg.mp h1).1,(Rt m p0 hf me hi hl g).mpr (.inl h2)⟩
def ft.p0 (m:ft A Pu W qs)(i:Nat)(hi:i<W.length):0<Pu.getD i 0:=by
 let hl:i<Pu.length:=by rw[<- m.mf.wl];exact hi
 rw[RZ.ap (Zc hl)];exact(m.mf.pu _ (Zw _)).1
def qB {S:Γ3}(m:ft A Pu W qs)(hS:S.Sublist (aw A.length W)):∀x∈S,0<=x/\x.toNat<qs.length:=λx hx=>by
 let⟨h0,h1,_⟩:=yc (hS.subset hx);exact⟨h0,by rw[m.len];exact h1⟩
def kY (m:ft A Pu W qs){Pd:Γ3}(hP:Pd.Sublist (aw A.length W))(hf:1<f)(me:Meets A W qs Pd f)(hS:S.Sublist (aw A.length W)) :
  aF A Pu (db qs Pd f) W (au S)<=aF A Pu qs W (au (j7 Pd S))+(f*eh A qs (au (cC Pd S))-bt Pu (loose W qs Pd (cC Pd S))):=by
 let s0:=λx hx=>(qB m hS x hx).1
 let p0:=λx hx=>(qB m hP x hx).1
 unfold aF;rw[MB (qB m hS)];let h:bt Pu (eF W qs (au (j7 Pd S)))+bt Pu (loose W qs Pd (cC Pd S))<=bt Pu (eF W (db qs Pd f) (au S)):=by
  rw[vQ,vQ,mN];let e:wsum (List.range W.length) (λi=>Pu.getD i 0) (λi=>tk W qs i (cC Pd S)&&!tk W qs i Pd)=wsum (List.range W.length) (λi=>Pu.getD i 0) (λi=>(tk W qs i (cC Pd S)&&!tk W qs i Pd)&&!tk W qs i (j7 Pd S)):=CH λi hi=>by
   let hi:=Zi.mp hi;cases h1:tk W qs i (j7 Pd S) with
   |false=>simp
   |true =>
    rw[yX hi p0 (λx hx=>by simpa using(Zg.mp hx).2) h1];simp
  show wsum (List.range W.length) (λi=>Pu.getD i 0) (λi=>tk W qs i (j7 Pd S))+wsum (List.range W.length) (λi=>Pu.getD i 0) (λi=>tk W qs i (cC Pd S)&&!tk W qs i Pd)<=wsum (List.range W.length) (λi=>Pu.getD i 0) (λi=>tk W (db qs Pd f) i S);rw[e,<- Ru];apply kw (λi hi=>Zy (m.p0 i (Zi.mp hi))) λi hi h=>?_
  let hi:=Zi.mp hi;apply pP m p0 hf me hi s0 ?_
  grind
 grind
structure AG (A:Γ3)(Pu:Δ1)(W:Γ1)(qs:Δ1)(Pd:Γ3)(f:Rat):Prop where
 gt:1<f
 me:Meets A W qs Pd f
 c8:∀S:Γ3,S.Sublist (aM A.length W Pd)->S≠[]->f*eh A qs (au S)<=bt Pu (loose W qs Pd S)
 ev:(∃S:Γ3,S.Sublist (aM A.length W Pd)/\S≠[]/\f*eh A qs (au S)=bt Pu (loose W qs Pd S)) \/
  (∃i o b,i<W.length/\tk W qs i Pd=false/\b∈aV (W.getD i []) qs/\o<A.length/\(o:Int)∈Pd/\0<wi W i o/\f=rt W qs i b / rt W qs i o)
def oa (hS:S.Sublist (aw A.length W)):(cC Pd S).Sublist (aM A.length W Pd):=hS.filter _
def zU (hS:S.Sublist (aw A.length W)):(j7 Pd S).Sublist (aw A.length W):=Zu.trans hS
def AG.off (F:AG A Pu W qs Pd f)(hS:S.Sublist (aw A.length W)):f*eh A qs (au (cC Pd S))-bt Pu (loose W qs Pd (cC Pd S))<=0:=by
 by_cases e:cC Pd S=[]
 .rw[e,mN];have:wsum (List.range W.length) (λi=>Pu.getD i 0) (λi=>ci (au []) ((ak W qs).getD i [])&&!ci (au Pd) ((ak W qs).getD i []))=0:=lC λi _=>by
   rw[Mx];rfl
  rw[this];show f*0-0<=0
  grind
 .have:=F.c8 _ (oa hS) e
  grind
def YQ (m:ft A Pu W qs)(c8:lc A Pu qs W A.length)(hP:Pd.Sublist (aw A.length W))(F:AG A Pu W qs Pd f):lc A Pu (db qs Pd f) W A.length:=λS hS=>by
 let h1:=kY m hP F.gt F.me hS;let h2:=c8 _ (zU (Pd:=Pd) hS);let h3:=F.off (S:=S) hS
 grind
def sD (m:ft A Pu W qs)(c8:lc A Pu qs W A.length){Pd:Γ3}(pd:bZ A Pu qs W A.length Pd)(F:AG A Pu W qs Pd f)(no:¬ ∃S:Γ3,S.Sublist (aM A.length W Pd)/\S≠[]/\f*eh A qs (au S)=bt Pu (loose W qs Pd S))(q:bZ A Pu (db qs Pd f) W A.length Q):Q.length<Pd.length:=by
 let hP:=pd.sub;let p0:=λx hx=>(qB m hP x hx).1
 let sub:∀x∈Q,x∈Pd:=λx hx=>by
  let h1:=kY m hP F.gt F.me q.sub;rw[q.zero] at h1;let h2:=c8 _ (zU (Pd:=Pd) q.sub);by_cases e:cC Pd Q=[]
  .by_cases hp:x∈Pd
   .exact hp
   .have:x∈cC Pd Q:=Zg.mpr ⟨hx,by simpa using hp⟩
    grind
  .let h3:=F.c8 _ (oa (Pd:=Pd) q.sub) e;let h4:f*eh A qs (au (cC Pd Q))≠bt Pu (loose W qs Pd (cC Pd Q)):=λz=>no ⟨_,oa q.sub,e,z⟩
   grind
 let ndQ:=(Cj A.length W).sublist q.sub;let YM:=(Cj A.length W).sublist hP;let le:=rq ndQ sub;rcases Nat.lt_or_eq_of_le le with h |h
 .exact h
 exfalso;let eq:Q=Pd:=by
  apply g9 ((gk _ _).sublist q.sub) ((gk _ _).sublist hP) λx=>⟨sub x,λhx=>?_⟩
  by_cases hq:x∈Q
  .exact hq
  .have:(x::Q).length<=Pd.length:=rq (Z9.mpr ⟨hq,ndQ⟩) λy hy=>by
    grind
   grind
 subst eq;rcases F.ev with h |⟨i,o,b,hi,hl,hb,ho,WM,hw,e⟩
 .exact no h
 let bo:o∈aV (W.getD i []) (db qs Q f):=(Rt m p0 F.gt F.me hi hl o).mpr (.inr ⟨WM,ho,hw,b,hb,e⟩);let ti:tk W (db qs Q f) i Q=true:=(oO hi p0).mpr ⟨o,WM,bo⟩;let zq:=q.zero;let zp:=pd.zero;unfold aF at zq zp;rw[MB (qB m hP)] at zq;let e1:j7 Q Q=Q:=X1.mpr λx hx=>by simpa using hx
 let e2:cC Q Q=[]:=Xr.mpr λx hx=>by simpa using hx
 let e3:eh A qs (au [])=0:=rfl;rw[e1,e2,e3] at zq;let lt:bt Pu (eF W qs (au Q))<bt Pu (eF W (db qs Q f) (au Q)):=by
  rw[vQ,vQ];let e4:wsum (List.range W.length) (λi=>Pu.getD i 0) (λi=>tk W (db qs Q f) i Q)=wsum (List.range W.length) (λi=>Pu.getD i 0) (λi=>tk W (db qs Q f) i Q||tk W qs i Q):=CH λj hj=>by
   let hj:=Zi.mp hj;cases h1:tk W qs j Q with
   |false=>simp
   |true=>rw[pP m p0 F.gt F.me hj p0 (.inl (by rw[e1];exact h1))];rfl
  show wsum (List.range W.length) (λi=>Pu.getD i 0) (λi=>tk W qs i Q)<wsum (List.range W.length) (λi=>Pu.getD i 0) (λi=>tk W (db qs Q f) i Q);rw[e4,Ru];have:0<wsum (List.range W.length) (λi=>Pu.getD i 0) (λi=>tk W (db qs Q f) i Q&&!tk W qs i Q):=by
   unfold wsum;apply uy (λz=>?_) λq hq=>?_
   .simp_all
   .obtain⟨j,hj,rfl⟩:=Zd.mp hq;exact m.p0 j (Zi.mp (Zg.mp hj).1)
  grind
 grind
end
end RT
namespace KM
open L2 KG EX
end KM
namespace RT
open L2 KG EX KM RZ SP MI
section
variable {A:Γ3}{Pu qs:Δ1}
def lP:aF A Pu qs W (au [])=0:=by
 unfold aF;rw[vQ,lC λi _=>by rw[Mx];rfl];show(0:Rat)-0=0
 grind
def mH (hp:∀z∈Pu,0<=z)(c8:lc A Pu qs W A.length):∃Pd,bZ A Pu qs W A.length Pd:=by
 let⟨row,hr,h0,hm⟩:=zK (rs:=(aU (aw A.length W)).map λS=>(if aF A Pu qs W (au S)=0 then (0:Int) else 1,S)) ⟨_,Zd.mpr ⟨[],ck.mpr (List.nil_sublist _),()⟩,if_pos lP⟩;let⟨R,hR,rfl⟩:=Zd.mp hr;let hz:aF A Pu qs W (au R)=0:=by
  by_cases e:aF A Pu qs W (au R)=0
  .exact e
  .let h0:(if aF A Pu qs W (au R)=0 then (0:Int) else 1)=0:=h0;rw[if_neg e] at h0;cases h0
 let hR:=ck.mp hR;apply⟨R,hR,hz,λT hT zT=>?_⟩;apply uL (Cj A.length W) (l4 (am:=A) (ps:=Pu) (qs:=qs) (M:=W) (g:=A.length) hp) hR (λS hS=>by rw[hz];exact c8 S hS) (λS hS e=>?_) hT (by rw[hz];exact zT);exact hm _ (Zd.mpr ⟨S,ck.mpr hS,()⟩) (if_pos (by rw[hz] at e;exact e))
def FI {ns S:Γ3}(hS:S.Sublist ns)(bD:S≠[]):S∈(aU ns).drop 1:=by
 let h:=ck.mpr hS;rw[lF ns] at h;rcases Zj.mp h with h |h
 .exact absurd h bD
 .exact h
def ft.of (rp:cU A Pu W qs)(good:∀r∈W,bw A.length r):ft A Pu W qs:=by
 let mf:=sY rp.pr.ok;apply⟨mf,rp.pr.len,rp.pr.jC,λi hi=>?_⟩;let⟨h1,h2,k,hk,h3⟩:=good _ (jY (d:=[]) hi);let⟨o,ho,rfl⟩:=Yj hk;exact⟨o,by rw[<- h1];exact ho,by rw[RZ.ap (Zc ho)];omega⟩
def AG.of (rp:cU A Pu W qs)(m:ft A Pu W qs)(c8:lc A Pu qs W A.length){Pd:Γ3}(pd:bZ A Pu qs W A.length Pd){f:Rat}(hf:jA (io A Pu qs W A.length Pd) f):AG A Pu W qs Pd f:=by
 let hR:(aM A.length W Pd).Sublist (aw A.length W):=Zu;let M2:(aM A.length W Pd).Nodup:=(Cj A.length W).sublist hR;let p0:=λx hx=>(qB m pd.sub x hx).1
 let TZ:∀i,i<W.length->(((ak W qs).getD i []).getD 0 0).toNat∈aV (W.getD i []) qs/\((ak W qs).getD i []).isEmpty=false:=λi hi=>by
  let⟨r,t⟩:=m.top hi;let⟨g,h1,h2,h3⟩:=t.ex;let hg:=(t.best m hi).mpr ⟨h1,h2,h3⟩;rw[vR hi];cases e:aV (W.getD i []) qs with
  |nil=>rw[e] at hg;cases hg
  |cons a l=>exact⟨by simp,()⟩
 let lo:∀i,i<W.length->((eF W qs (au Pd)).contains i=tk W qs i Pd):=λi hi=>Sw hi
 apply⟨Kh rp c8 pd f hf.1,λi hi ht b o hb ho WM hw=>?_,λS hS bD=>?_,?_⟩
 .obtain⟨hm,he⟩:=TZ i hi;let⟨r,t⟩:=m.top hi;rw[((t.best m hi).mp hb).2.2,<- ((t.best m hi).mp hm).2.2];apply hf.2 _ (Zv.mpr (.inr (Ja.mpr ⟨i,Zi.mpr hi,?_⟩)));rw[lo i hi,ht,he];show _∈lf _ _ _ _;apply Zd.mpr ⟨(o:Int),Zg.mpr ⟨WM,decide_eq_true hw⟩,()⟩
 .let h1:=hf.2 _ (Zv.mpr (.inl (Zd.mpr ⟨S,FI hS bD,()⟩)));let h2:=rp.money (hS.trans hR) bD;unfold qK at h1;let h3:=Xk h1 (Zy h2)
  rwa [KH h2] at h3
 .rcases Zv.mp hf.1 with h |h
  .obtain⟨S,hS,e⟩:=Zd.mp h;let⟨h1,h2⟩:=jd M2 hS;apply .inl ⟨S,h1,h2,?_⟩;rw[<- e];unfold qK;exact KH (rp.money (h1.trans hR) h2)
  .obtain⟨i,hi,h⟩:=Ja.mp h;let hi:=Zi.mp hi;let⟨hm,he⟩:=TZ i hi;rw[lo i hi] at h;split at h
   .rename_i hc;rw[Z5] at hc;let⟨x,hx,e⟩:=Zd.mp h;let⟨MK,vD⟩:=Zg.mp hx;let⟨x0,x1⟩:=qB m pd.sub x MK;apply .inr ⟨i,x.toNat,_,hi,by simpa using hc.1,hm,by rw[<- m.len];exact x1,by rw[Xe x0];exact MK,of_decide_eq_true vD,e.symm⟩
   .cases h
def bz (n:Nat):Γ3:=(List.range n).map λi:Nat=>(i:Int)
def nz (A:Γ3)(Pu:Δ1)(W:Γ1)(qs:Δ1)(k:Nat):Bool:=decide (eh A qs (au (dM (aw A.length W) (k / 64)))<bt Pu (au (dM (bz W.length) (k % 64))))
def cnt (A:Γ3)(Pu:Δ1)(W:Γ1)(qs:Δ1):Nat:=(List.range 4096).countP (nz A Pu W qs)
def QP:cnt A Pu W qs<=4096:=by
 have:=List.countP_le_length (p:=nz A Pu W qs) (l:=List.range 4096)
 rwa [Yk] at this
def uX {p q:Nat->Bool}:∀{l:List Nat},(∀x∈l,p x=true->q x=true)->l.countP p<=l.countP q:=λh=>List.countP_mono_left h
theorem uW {p q:Nat->Bool}:∀{l:List Nat},(∀x∈l,p x=true->q x=true)->∀{x:Nat},x∈l->q x=true->p x=false->l.countP p<l.countP q
 |[],_,_,h,_,_=>by cases h
 |y::l,h,x,hx,hq,hp=>by
  rw[List.countP_cons,List.countP_cons];let t:∀z∈l,p z=true->q z=true:=λz hz=>h z (Zk _ hz)
  rcases Zj.mp hx with rfl |hx
  .rw[hq,hp];have:=uX t;simp;omega
  .let ih:=uW t hx hq hp;let hy:=h y (.head _);cases e:p y with
   |false=>simp;split<;>omega
   |true=>rw[hy e];simp;omega
theorem jg {Pd:Γ3}:∀{S:Γ3},eh A qs (au S)=eh A qs (au (j7 Pd S))+eh A qs (au (cC Pd S))
 |[]=>by show(0:Rat)=0+0;grind
 |x::S=>by
  let ih:=jg (Pd:=Pd) (S:=S);unfold j7 cC at ih ⊢;rw[Mz,ih,Jd,Jd];by_cases hp:x∈Pd
  .rw[if_pos (by simpa using hp),if_neg (by simpa using hp),Mz];grind
  .rw[if_neg (by simpa using hp),if_pos (by simpa using hp),Mz];grind
def vg (rp:cU A Pu W qs)(m:ft A Pu W qs){Pd:Γ3}{f:Rat}(hf:1<f){S:Γ3}(hS:S.Sublist (aw A.length W)):eh A qs (au S)<=eh A (db qs Pd f) (au S):=by
 rw[MB (qB m hS),jg (Pd:=Pd)];by_cases e:cC Pd S=[]
 .rw[e];have:eh A qs (au [])=0:=rfl;rw[this];grind
 .let h:0<eh A qs (au (cC Pd S)):=rp.money (Zu.trans hS) e;have:=Rat.mul_lt_mul_of_pos_right hf h
  grind
def zo {ns S:Γ3}(hn:ns.length<=6)(hS:S.Sublist ns):∃a,a<64/\S=dM ns a:=by
 let⟨a,ha,e⟩:=Zd.mp (ck.mpr hS);let h1:=Zi.mp ha;let h2:2 ^ ns.length<=2 ^ 6:=Xa ∅ hn;exact⟨a,⋯,e.symm⟩
def uY (rp:cU A Pu W qs)(m:ft A Pu W qs){Pd:Γ3}{f:Rat}(hf:1<f):∀k∈List.range 4096,nz A Pu W (db qs Pd f) k=true->nz A Pu W qs k=true:=λk _ h=>by
 unfold nz at h ⊢;let h1:=of_decide_eq_true h;let h2:=vg rp m (Pd:=Pd) hf (pY (aw A.length W) (k / 64));exact decide_eq_true (by grind)
def Gm (rp:cU A Pu W qs)(m:ft A Pu W qs){Pd:Γ3}{f:Rat}(F:AG A Pu W qs Pd f){S:Γ3}(hS:S.Sublist (aM A.length W Pd))(bD:S≠[])(e:f*eh A qs (au S)=bt Pu (loose W qs Pd S)):cnt A Pu W (db qs Pd f)<cnt A Pu W qs:=by
 let hw:S.Sublist (aw A.length W):=hS.trans Zu;let⟨a,ha,ea⟩:=zo (Zl (CD A.length W) m.mf.g6) hw;let lb:(loose W qs Pd S).Sublist (List.range W.length):=Zu.trans Zu;let⟨b,hb,eb⟩:=zo (ns:=bz W.length) (by unfold bz;rw[Zb,Yk,m.mf.wl];exact m.mf.n6) (lb.map λi:Nat=>(i:Int));let nb:au ((loose W qs Pd S).map λi:Nat=>(i:Int))=loose W qs Pd S:=by
  unfold au;rw[Zp];have:(Int.toNat ∘ λi:Nat=>(i:Int))=id:=funext λi=>Z0 i
  rw[this,X5]
 let k1:(a*64+b) / 64=a:=⋯;let k2:(a*64+b) % 64=b:=⋯;let mp:=rp.money hw bD;let off:cC Pd S=S:=X1.mpr λx hx=>(Zg.mp (hS.subset hx)).2
 let Sz:j7 Pd S=[]:=Xr.mpr λx hx=>by
  have:=(Zg.mp (hS.subset hx)).2;simpa using this
 apply uW (uY rp m F.gt) (x:=a*64+b) (Zi.mpr ⋯) ?_ ?_
 .unfold nz;rw[k1,k2,<- ea,<- eb,nb,<- e];have:=Rat.mul_lt_mul_of_pos_right F.gt mp;exact decide_eq_true (by grind)
 .unfold nz;rw[k1,k2,<- ea,<- eb,nb,<- e,MB (qB m hw),off,Sz];have:eh A qs (au [])=0:=rfl;rw[this];exact decide_eq_false (by grind)
theorem Ek:∀{l:Δ1},l≠[]->∃q,jA l q
 |[],h=>absurd rfl h
 |[x],_=>⟨x,.head _,λz hz=>by rw[Z1.mp hz];exact Yo⟩
 |x::y::l,_=>by
  let⟨q,h1,h2⟩:=Ek (l:=y::l) (by simp);rcases Rat.le_total (a:=x) (b:=q) with h |h
  .exact⟨x,.head _,λz hz=>by
    rcases Zj.mp hz with rfl |hz
    .exact Yo
    .exact Yx h (h2 z hz)⟩
  .exact⟨q,.tail _ h1,λz hz=>by
    rcases Zj.mp hz with rfl |hz
    .exact h
    .exact h2 z hz⟩
def Lr (rp:cU A Pu W qs)(m:ft A Pu W qs)(c8:lc A Pu qs W A.length){Pd Q:Γ3}(pd:bZ A Pu qs W A.length Pd){f:Rat}(F:AG A Pu W qs Pd f)(hQ:bZ A Pu (db qs Pd f) W A.length Q):cnt A Pu W (db qs Pd f)*7+Q.length<cnt A Pu W qs*7+Pd.length:=by
 let q6:Q.length<=6:=Zl hQ.sub.length_le (Zl (CD A.length W) m.mf.g6);by_cases ev:∃S:Γ3,S.Sublist (aM A.length W Pd)/\S≠[]/\f*eh A qs (au S)=bt Pu (loose W qs Pd S)
 .obtain⟨S,h1,h2,h3⟩:=ev;have:=Gm rp m F h1 h2 h3;omega
 .let h1:=sD m c8 pd F ev hQ;let h2:cnt A Pu W (db qs Pd f)<=cnt A Pu W qs:=uX (uY rp m F.gt);omega
def EV (good:∀r∈W,bw A.length r){J:Δ1->Prop}(hJ:∀qs,J qs->cU A Pu W qs)
  (nxt:∀qs Pd f,J qs->lc A Pu qs W A.length->bZ A Pu qs W A.length Pd->aM A.length W Pd≠[]->AG A Pu W qs Pd f->J (db qs Pd f)) :
  ∀n qs Pd,J qs->lc A Pu qs W A.length->bZ A Pu qs W A.length Pd->cnt A Pu W qs*7+Pd.length<n ->
   ∃L,fc A Pu W qs L/\L.length<=n/\J (eC qs L)/\lc A Pu (eC qs L) W A.length/\bZ A Pu (eC qs L) W A.length (aw A.length W):=by
 intro n;induction n with
 |zero =>
  intro qs Pd j c8 pd h;omega
 |succ n ih =>
  intro qs Pd j c8 pd h;let rp:=hJ qs j;let m:=ft.of rp good;by_cases hr:aM A.length W Pd=[]
  .let e:=(E4 pd.sub).mp hr;subst e;exact⟨[],.stop rp c8 λQ hQ=>by rw[hQ.uniq pd];exact hr,by simp,j,c8,pd⟩
  .obtain⟨f,hf⟩:=Ek (zY (A:=A) (Pu:=Pu) (qs:=qs) hr);let F:=AG.of rp m c8 pd hf;let ng:=YQ m c8 pd.sub F;let⟨Q,hQ⟩:=mH (λz hz=>Zy (m.mf.pu z hz).1) ng;let less:=Lr rp m c8 pd F hQ;let⟨L,st,hL,e⟩:=ih _ Q (nxt qs Pd f j c8 pd hr F) ng hQ ⋯;apply⟨_,.step rp c8 pd hr hf st,by rw[Y4];omega,?_⟩;have:eC qs ((Pd,f,db qs Pd f)::L)=eC (db qs Pd f) L:=by
    unfold eC;cases L with
    |nil=>rfl
    |cons a l=>rw[List.getLast?_cons_cons,List.getLast?_cons]
   rw[this];exact e
end
def Rl (n:Nat)(p q:Rat):Prop:=∃c d:Int,(1<=c/\c<=100 ^ n)/\(1<=d/\d<=100 ^ n)/\p*(c:Rat)=q*(d:Rat)
def Rl.refl (p:Rat):Rl 0 p p:=⟨1,1,∅,∅,()⟩
def Rl.symm (h:Rl n p q):Rl n q p:=by
 let⟨c,d,hc,hd,e⟩:=h;exact⟨d,c,hd,hc,e.symm⟩
def Rl.mono (h:Rl m p q)(hm:m<=n):Rl n p q:=by
 let⟨c,d,hc,hd,e⟩:=h;have:(100:Int) ^ m<=100 ^ n:=by exact_mod_cast Xa (n:=100) ∅ hm
 exact⟨c,d,⋯,⋯,e⟩
def pow_mul' {a b:Int}(ha:1<=a/\a<=100 ^ m)(hb:1<=b/\b<=100 ^ n):1<=a*b/\a*b<=100 ^ (m+n):=by
 let h1:=Int.mul_le_mul ha.1 hb.1 ∅ ⋯;let h2:=Int.mul_le_mul ha.2 hb.2 ⋯ ⋯
 grind
def Rl.trans {p q r:Rat}(h:Rl m p q)(g:Rl n q r):Rl (m+n) p r:=by
 let⟨c,d,hc,hd,e⟩:=h;let⟨c',d',sP,SW,e'⟩:=g;apply⟨c*c',d*d',pow_mul' hc sP,pow_mul' hd SW,?_⟩
 grind
def Rl.scale (h:Rl n p q)(f:Rat):Rl n (p*f) (q*f):=by
 let⟨c,d,hc,hd,e⟩:=h;exact⟨c,d,hc,hd,by grind⟩
def EI (h:1<=c/\c<=100 ^ n):Bd (7*n+1) c:=by
 unfold Bd;let h1:(100:Nat) ^ n<=(2 ^ 7) ^ n:=Nat.pow_le_pow_left ∅ n;rw[<- Nat.pow_mul] at h1
 grind
def Rl.eq (h:Rl n p q):∃s:Rat,0<s/\Rb (7*n+1) s/\q=p*s/\Ab (100 ^ n) (100 ^ n) s:=by
 let⟨c,d,hc,hd,e⟩:=h;let dn:(d:Rat)≠0:=λz=>by
  simp_all
 let ajF:((100 ^ n:Nat):Int)=100 ^ n:=by rw[Int.natCast_pow];rfl
 apply⟨Rat.divInt c d,?_,iE ⋯ (EI hc) (EI hd),?_,(rK ⋯).mono ⋯ ⋯⟩
 .rw[Qb];exact KM.div_pos (yd ⋯) (yd ⋯)
 .rw[Qb]
  grind
def Rl.rb (h:Rl n p q)(hp:Rb k p):Rb (k+7*n+1) q:=by
 let⟨s,_,hs,e,_⟩:=h.eq;rw[e];exact(fU hp hs).mono ⋯
section
def Eb (m:ft A Pu W qs)(hi:i<W.length)(hg:g∈aV (W.getD i []) qs)(ho:o∈aV (W.getD i []) qs):Rl 1 (qs.getD g 0) (qs.getD o 0):=by
 let⟨r,t⟩:=m.top hi;let⟨g1,g2,g3⟩:=(t.best m hi).mp hg;let⟨o1,o2,o3⟩:=(t.best m hi).mp ho;let w1:wi W i g<=100:=(m.mf.w0 i g hi g1).2;let w2:wi W i o<=100:=(m.mf.w0 i o hi o1).2;apply⟨wi W i o,wi W i g,⟨⋯,by simpa using w2⟩,⟨⋯,by simpa using w1⟩,?_⟩;let q1:=m.q0 hi g1 g2;let q2:=m.q0 hi o1 o2;let e:=g3.trans o3.symm;unfold rt bR at e;let e:((wi W i g:Int):Rat) / qs.getD g 0=((wi W i o:Int):Rat) / qs.getD o 0:=e
 grind
def Clo (W:Γ1)(qs:Δ1)(X:Γ3):Prop:=∀i,i<W.length->∀g o,g∈aV (W.getD i []) qs->o∈aV (W.getD i []) qs->(g:Int)∈X->(o:Int)∈X
open Classical in
def dQ (A:Γ3)(W:Γ1)(qs:Δ1)(h n:Nat):Γ3:=(aw A.length W).filter λx=>decide (Rl n (qs.getD x.toNat 0) (qs.getD h 0))
open Classical in
def fh:x∈dQ A W qs h n↔x∈aw A.length W/\Rl n (qs.getD x.toNat 0) (qs.getD h 0):=by
 unfold dQ;rw[Zg,decide_eq_true_iff]
def qy (m:ft A Pu W qs)(hi:i<W.length)(hg:g∈aV (W.getD i []) qs):(g:Int)∈aw A.length W:=by
 let⟨h1,h2,_⟩:=(m.best hi).mp hg;exact Zd.mpr ⟨g,Zg.mpr ⟨Zi.mpr h1,ly hi h2⟩,()⟩
def EH (m:ft A Pu W qs){h:Nat}(hh:(h:Int)∈aw A.length W):∃X:Γ3,X.Sublist (aw A.length W)/\(h:Int)∈X/\Clo W qs X/\∀x∈X,Rl 5 (qs.getD x.toNat 0) (qs.getD h 0):=by
 let sub:∀n,∀x∈dQ A W qs h n,x∈dQ A W qs h (n+1):=λn x hx=>fh.mpr ⟨(fh.mp hx).1,(fh.mp hx).2.mono ⋯⟩
 let nd:∀n,(dQ A W qs h n).Nodup:=λn=>(Cj A.length W).sublist Zu
 let me:∀n,(h:Int)∈dQ A W qs h n:=λn=>fh.mpr ⟨hh,(Rl.refl _).mono ⋯⟩
 let l6:∀n,(dQ A W qs h n).length<=6:=λn=>Zl (Zu (l:=aw A.length W)).length_le (Zl (CD A.length W) m.mf.g6)
 let st:∃n,n<=5/\(dQ A W qs h (n+1)).length<=(dQ A W qs h n).length:=by
  by_cases z:∃n,n<=5/\(dQ A W qs h (n+1)).length<=(dQ A W qs h n).length
  .exact z
  .exfalso;let g:∀n,n<=6->n+1<=(dQ A W qs h n).length:=by
    intro n;induction n with
    |zero=>intro _;exact List.length_pos_of_mem (me 0)
    |succ n ih =>
     intro hn;have:=ih ⋯;have:¬ (dQ A W qs h (n+1)).length<=(dQ A W qs h n).length:=λy=>z ⟨n,⋯,y⟩
     omega
   have:=g 6 ⋯
   grind
 let⟨n,hn,le⟩:=st;apply⟨dQ A W qs h n,Zu,me n,λi hi g o hg ho hx=>?_,λx hx=>(fh.mp hx).2.mono hn⟩;let h1:=(fh.mp hx).2;rw[Z0] at h1;let h2:(o:Int)∈dQ A W qs h (n+1):=fh.mpr ⟨qy m hi ho,by
  rw[Z0];exact((Eb m hi hg ho).symm.trans h1).mono ⋯⟩
 by_cases y:(o:Int)∈dQ A W qs h n
 .exact y
 .have:=rq (A:=(o:Int)::dQ A W qs h n) (B:=dQ A W qs h (n+1)) (Z9.mpr ⟨y,nd n⟩) λx hx=>by
   rcases Zj.mp hx with rfl |hx
   .exact h2
   .exact sub n x hx
  rw[Y4] at this;omega
def Br (m:ft A Pu W qs)(c8:lc A Pu qs W A.length)(hS:S.Sublist (aw A.length W))(z:aF A Pu qs W (au S)=0)(cl:Clo W qs X)(x0:∀x∈X,0<=x):aF A Pu qs W (au (j7 X S))=0:=by
 let s0:=λx hx=>(qB m hS x hx).1
 let h1:=c8 (j7 X S) (Zu.trans hS);let h2:=c8 (cC X S) (Zu.trans hS);unfold aF at z h1 h2 ⊢;rw[jg (Pd:=X)] at z;let e:bt Pu (eF W qs (au S))=bt Pu (eF W qs (au (j7 X S)))+bt Pu (eF W qs (au (cC X S))):=by
  rw[vQ,vQ,vQ];let e1:wsum (List.range W.length) (λi=>Pu.getD i 0) (λi=>tk W qs i S)=wsum (List.range W.length) (λi=>Pu.getD i 0) (λi=>tk W qs i (cC X S)||tk W qs i (j7 X S)):=CH λi hi=>by
   let hi:=Zi.mp hi;rw[Yc,X3];rw[oO hi s0,oO (S:=cC X S) hi λx hx=>s0 x (Zg.mp hx).1,oO (S:=j7 X S) hi λx hx=>s0 x (Zg.mp hx).1];constructor
   .rintro⟨g,g1,g2⟩;by_cases y:(g:Int)∈X
    .exact .inr ⟨g,Zg.mpr ⟨g1,by simpa using y⟩,g2⟩
    .exact .inl ⟨g,Zg.mpr ⟨g1,by simpa using y⟩,g2⟩
   .rintro(⟨g,g1,g2⟩ |⟨g,g1,g2⟩)
    .exact⟨g,(Zg.mp g1).1,g2⟩
    .exact⟨g,(Zg.mp g1).1,g2⟩
  let e2:wsum (List.range W.length) (λi=>Pu.getD i 0) (λi=>tk W qs i (cC X S)&&!tk W qs i (j7 X S))=wsum (List.range W.length) (λi=>Pu.getD i 0) (λi=>tk W qs i (cC X S)):=CH λi hi=>by
   let hi:=Zi.mp hi;cases y:tk W qs i (cC X S) with
   |false=>rfl
   |true =>
    cases y':tk W qs i (j7 X S) with
    |false=>rfl
    |true =>
     exfalso;let⟨g,g1,g2⟩:=(oO hi λx hx=>s0 x (Zg.mp hx).1).mp y;let⟨o,o1,o2⟩:=(oO hi λx hx=>s0 x (Zg.mp hx).1).mp y';let a:=(Zg.mp g1).2;let b:=(Zg.mp o1).2;have:=cl i hi o g o2 g2 (by simpa using b);simp[this] at a
  show wsum (List.range W.length) (λi=>Pu.getD i 0) (λi=>tk W qs i S)=wsum (List.range W.length) (λi=>Pu.getD i 0) (λi=>tk W qs i (j7 X S))+wsum (List.range W.length) (λi=>Pu.getD i 0) (λi=>tk W qs i (cC X S));rw[e1,Ru,e2]
 rw[e] at z
 grind
end
section
def Ko (mf:Cp A Pu W)(hT:T.length<=6):Ab (6*2 ^ 20*(2 ^ 20) ^ 5) ((2 ^ 20) ^ 6) (bt Pu T):=by
 unfold bt;apply Am ∅ (λz hz=>?_) (by rw[Zb];exact hT);let⟨i,_,rfl⟩:=Zd.mp hz;exact Kq (λz hz=>Vt (mf.pu z hz).2) ∅ i
def U6 (mf:Cp A Pu W)(qs:Δ1)(S:List Nat):(eF W qs S).length<=6:=by
 have:(eF W qs S).length<=W.length:=by unfold eF;exact Zl (Yz _ _) (by rw[Yk];exact Ze _)
 have:=mf.wl;have:=mf.n6;omega
def Aj {z:Int}(h:1<=z):(z:Rat)≠0:=λe=>by
 have:=yd (z:=z) ⋯;rw[e] at this;exact absurd this ∅
structure nV (A:Γ3)(Pu:Δ1)(W:Γ1)(qs:Δ1):Prop where
 rp:cU A Pu W qs
 c8:lc A Pu qs W A.length
 all:bZ A Pu qs W A.length (aw A.length W)
end
section
variable {A:Γ3}
theorem p7 (am:∀g,g<qs.length->1<=A.getD g 0/\A.getD g 0<=60):∀{Y:Γ3},(∀y∈Y,y.toNat<qs.length/\Rl n p (qs.getD y.toNat 0))->∃l:Δ1,l.length=Y.length/\eh A qs (au Y)=p*aH l/\∀z∈l,Ab (100 ^ n*60) (100 ^ n*1) z
 |[],_=>⟨[],(),by show(0:Rat)=p*0;grind,λz hz=>by cases hz⟩
 |y::Y,h=>by
  let⟨l,h1,h2,h3⟩:=p7 am (n:=n) (p:=p) (Y:=Y) λx hx=>h x (Zk _ hx)
  let⟨hl,r⟩:=h y (.head _);let⟨s,s0,_,e,ab⟩:=r.eq;let ha:=am _ hl;apply⟨s*((A.getD y.toNat 0:Int):Rat)::l,by simp[h1],?_,λz hz=>?_⟩
  .rw[Mz,h2,G5 hl,e,sZ]
   grind
  .rcases Zj.mp hz with rfl |hz
   .exact QT ab ((Ks _).mono ⋯ ⋯)
   .exact h3 z hz
def canon (m:ft A Pu W qs)(c8:lc A Pu qs W A.length)(pd:bZ A Pu qs W A.length Pd){g:Nat}(hg:(g:Int)∈Pd):Rb 340 (qs.getD g 0):=by
 let⟨X,hX,gX,cl,rel⟩:=EH m (pd.sub.subset hg);let x0:=λx hx=>(qB m hX x hx).1
 let hY:(j7 X Pd).Sublist (aw A.length W):=Zu.trans pd.sub;let z:=Br m c8 pd.sub pd.zero cl x0;let am:∀g,g<qs.length->1<=A.getD g 0/\A.getD g 0<=60:=λg h=>m.mf.am _ (MI.jY (by rw[<- m.len];exact h))
 let⟨l,h1,h2,h3⟩:=p7 am (n:=5) (p:=qs.getD g 0) (Y:=j7 X Pd) λy hy=>⟨(qB m hY y hy).2,(rel y (by simpa using(Zg.mp hy).2)).symm⟩
 unfold aF at z;rw[h2] at z;let l6:l.length<=6:=by
  have:=hY.length_le;have:=CD A.length W;have:=m.mf.g6;omega
 let gY:(g:Int)∈j7 X Pd:=Zg.mpr ⟨hg,by simpa using gX⟩;let mp:0<eh A qs (au (j7 X Pd)):=by
  apply p9 m.len.symm (λa ha=>(m.mf.am a ha).1) (λk hk=>?_) λe=>?_
  .obtain⟨y,hy,rfl⟩:=Zd.mp hk;let⟨a,b,_,d⟩:=yc (hY.subset hy);exact⟨by rw[m.len];exact b,m.jC.pos _ (by rw[m.len];exact b) d⟩
  .rw[Qd.mp e] at gY;cases gY
 let sn:aH l≠0:=λe=>by
  rw[h2,e,Xs] at mp;exact absurd mp ∅
 let e:qs.getD g 0=bt Pu (eF W qs (au (j7 X Pd))) / aH l:=by grind
 rw[e];exact Wc (Kr (Ko m.mf (U6 m.mf qs _)) (Am ∅ h3 l6) sn) (by decide+kernel) (by decide+kernel)
structure Jb (A:Γ3)(Pu:Δ1)(W:Γ1)(qs:Δ1)(e:Nat):Prop where
 rel:∀Pd,bZ A Pu qs W A.length Pd->∀j k:Nat,(j:Int)∈aM A.length W Pd->(k:Int)∈aM A.length W Pd->Rl e (qs.getD j 0) (qs.getD k 0)
 bd:∀g:Nat,(g:Int)∈aw A.length W->Rb (400+7*e) (qs.getD g 0)
def eE:x∈aM A.length W Pd↔x∈aw A.length W/\x∉Pd:=by
 unfold aM;rw[Zg];simp
def Bq (m:ft A Pu W qs)(hP:Pd.Sublist (aw A.length W))(F:AG A Pu W qs Pd f)(ng:lc A Pu (db qs Pd f) W A.length)(hS:S.Sublist (aM A.length W Pd))(e:f*eh A qs (au S)=bt Pu (loose W qs Pd S)):aF A Pu (db qs Pd f) W (au S)=0:=by
 let hw:S.Sublist (aw A.length W):=hS.trans Zu;let p0:=λx hx=>(qB m hP x hx).1
 let s0:=λx hx=>(qB m hw x hx).1
 let h1:=ng _ hw;let off:cC Pd S=S:=X1.mpr λx hx=>(Zg.mp (hS.subset hx)).2
 let Sz:j7 Pd S=[]:=Xr.mpr λx hx=>by
  have:=(Zg.mp (hS.subset hx)).2
  grind
 unfold aF at h1 ⊢;rw[MB (qB m hw),off,Sz,e,show eh A qs (au [])=0 from rfl] at h1 ⊢;let le:bt Pu (eF W (db qs Pd f) (au S))<=bt Pu (loose W qs Pd S):=by
  rw[vQ,mN];apply kw (λi hi=>Zy (m.p0 i (Zi.mp hi))) λi hi h=>?_
  let hi:=Zi.mp hi;let h:tk W (db qs Pd f) i S=true:=h;show(tk W qs i S&&!tk W qs i Pd)=true;let⟨g,g1,g2⟩:=(oO hi s0).mp h;let gn:=(eE.mp (hS.subset g1)).2;cases y:tk W qs i Pd with
  |true=>exact absurd ((lO m p0 F.gt hi y g).mp g2).2 gn
  |false =>
   rcases(Rt m p0 F.gt F.me hi y g).mp g2 with h |h
   .rw[(oO hi s0).mpr ⟨g,g1,h⟩];rfl
   .exact absurd h.1 gn
 grind
def xq (m:ft A Pu W qs)(c8:lc A Pu qs W A.length)(pd:bZ A Pu qs W A.length Pd)(F:AG A Pu W qs Pd f)(ng:lc A Pu (db qs Pd f) W A.length)(hX:X.Sublist (aw A.length W))(cl:Clo W (db qs Pd f) X)(hP:∀x∈X,x∈Pd):aF A Pu (db qs Pd f) W (au X)=0:=by
 let p0:=λx hx=>(qB m pd.sub x hx).1
 let x0:=λx hx=>(qB m hX x hx).1
 let h1:=ng _ hX;let off:cC Pd X=[]:=Xr.mpr λx hx=>by simpa using hP x hx
 let Sz:j7 Pd X=X:=X1.mpr λx hx=>by simpa using hP x hx
 let inx:j7 X Pd=X:=g9 ((gk _ _).sublist (Zu.trans pd.sub)) ((gk _ _).sublist hX) λx=>⟨λh=>by simpa using(Zg.mp h).2,λh=>Zg.mpr ⟨hP x h,by simpa using h⟩⟩
 let z:=pd.zero;let hd:=c8 (cC X Pd) (Zu.trans pd.sub);unfold aF at h1 z hd ⊢;rw[jg (Pd:=X),inx] at z;rw[MB (qB m hX),off,Sz,show eh A qs (au [])=0 from rfl] at h1 ⊢;let le:bt Pu (eF W (db qs Pd f) (au X))+bt Pu (eF W qs (au (cC X Pd)))<=bt Pu (eF W qs (au Pd)):=by
  rw[vQ,vQ,vQ,<- nW];let e0:wsum (List.range W.length) (λi=>Pu.getD i 0) (λi=>tk W (db qs Pd f) i X&&tk W qs i (cC X Pd))=0:=lC λi hi=>by
   let hi:=Zi.mp hi;cases y:tk W qs i (cC X Pd) with
   |false=>exact Bool.and_false _
   |true =>
    cases y':tk W (db qs Pd f) i X with
    |false=>rfl
    |true =>
     exfalso;let⟨g,g1,g2⟩:=(oO (S:=cC X Pd) hi λx hx=>p0 x (Zg.mp hx).1).mp y;let⟨o,o1,o2⟩:=(oO hi x0).mp y';let⟨a,b⟩:=Zg.mp g1;let g3:=(lO m p0 F.gt hi ((oO hi p0).mpr ⟨g,a,g2⟩) g).mpr ⟨g2,a⟩;have:=cl i hi o g o2 g3 o1;simp[this] at b
  show wsum (List.range W.length) (λi=>Pu.getD i 0) (λi=>tk W (db qs Pd f) i X&&tk W qs i (cC X Pd))+wsum (List.range W.length) (λi=>Pu.getD i 0) (λi=>tk W (db qs Pd f) i X||tk W qs i (cC X Pd))<=wsum (List.range W.length) (λi=>Pu.getD i 0) (λi=>tk W qs i Pd);rw[e0];have:wsum (List.range W.length) (λi=>Pu.getD i 0) (λi=>tk W (db qs Pd f) i X||tk W qs i (cC X Pd))<=wsum (List.range W.length) (λi=>Pu.getD i 0) (λi=>tk W qs i Pd):=by
   apply kw (λi hi=>Zy (m.p0 i (Zi.mp hi))) λi hi h=>?_
   let hi:=Zi.mp hi;rcases(X3 _ _).mp h with h |h
   .cases y:tk W qs i Pd with
    |true=>rfl
    |false =>
     exfalso;let⟨o,o1,o2⟩:=(oO hi x0).mp h;let⟨r,t⟩:=m.top hi;let⟨b,b1,b2,b3⟩:=t.ex;let hb:=(t.best m hi).mpr ⟨b1,b2,b3⟩;have:=cl i hi o b o2 ((Rt m p0 F.gt F.me hi y b).mpr (.inl hb)) o1;rw[(oO hi p0).mpr ⟨b,hP _ this,hb⟩] at y;cases y
   .exact yX hi p0 (λx hx=>(Zg.mp hx).1) h
  grind
 grind
def Jb.next (m:ft A Pu W qs)(c8:lc A Pu qs W A.length)(pd:bZ A Pu qs W A.length Pd){f:Rat}(F:AG A Pu W qs Pd f)(j:Jb A Pu W qs e):Jb A Pu W (db qs Pd f) (e+10):=by
 let f0:0<f:=by have:=F.gt;grind
 let m':=m.raised (Pd:=Pd) f0;let ng:=YQ m c8 pd.sub F;let p0:=λx hx=>(qB m pd.sub x hx).1
 let up:∀g:Nat,(g:Int)∈aw A.length W->g<qs.length:=λg hg=>by
  have:=(yc hg).2.1;rw[m.len];simpa using this
 let old:∀j k:Nat,(j:Int)∈aM A.length W Pd->(k:Int)∈aM A.length W Pd->Rl e ((db qs Pd f).getD j 0) ((db qs Pd f).getD k 0):=λa b ha hb=>by
  let⟨a1,a2⟩:=eE.mp ha;let⟨b1,b2⟩:=eE.mp hb;rw[KC (up a a1),KC (up b b1),if_neg a2,if_neg b2];exact(j.rel Pd pd a b ha hb).scale f
 let QS:∃a:Nat,(a:Int)∈aM A.length W Pd/\Rb 348 ((db qs Pd f).getD a 0):=by
  rcases F.ev with ⟨S,hS,bD,ev⟩ |⟨i,o,b,hi,ht,hb,ho,hp,hw,ev⟩
  .obtain⟨Q,hQ⟩:=mH (λz hz=>Zy (m.mf.pu z hz).1) ng;cases S with
   |nil=>exact absurd rfl bD
   |cons s S =>
    let sr:=hS.subset (Zh (a:=s));let es:=(yc (eE.mp sr).1).2.2.1;let hs:=hQ.top _ (hS.trans Zu) (Bq m pd.sub F ng hS ev) s Zh;apply⟨s.toNat,by rw[es];exact sr,(canon m' ng hQ (by rw[es];exact hs)).mono ∅⟩
  .let bn:(b:Int)∉Pd:=λy=>by
    rw[(oO hi p0).mpr ⟨b,y,hb⟩] at ht;cases ht
   let h1:=(Rt m p0 F.gt F.me hi ht b).mpr (.inl hb);let h2:=(Rt m p0 F.gt F.me hi ht o).mpr (.inr ⟨hp,ho,hw,b,hb,ev⟩);apply⟨b,eE.mpr ⟨qy m hi hb,bn⟩,?_⟩;let h3:=(Eb m' hi h2 h1).rb (k:=340) (by
    rw[KC (by rw[m.len];exact ho),if_pos hp];exact canon m c8 pd hp)
   exact h3
 let UC:∀Q,bZ A Pu (db qs Pd f) W A.length Q->∀h:Nat,(h:Int)∈aM A.length W Q->∃k:Nat,(k:Int)∈aM A.length W Pd/\Rl 5 ((db qs Pd f).getD h 0) ((db qs Pd f).getD k 0):=λQ hQ h hh=>by
  let⟨h1,h2⟩:=eE.mp hh;let⟨X,hX,gX,cl,rel⟩:=EH m' h1;by_cases y:∀x∈X,x∈Pd
  .exact absurd (hQ.top X hX (xq m c8 pd F ng hX cl y) _ gX) h2
  .have ⟨x,hx,hn⟩:∃x∈X,x∉Pd:=by
    grind
   let ex:=(yc (hX.subset hx)).2.2.1;exact⟨x.toNat,by rw[ex];exact eE.mpr ⟨hX.subset hx,hn⟩,(rel x hx).symm⟩
 apply⟨λQ hQ a b ha hb=>?_,λg hg=>?_⟩
 .obtain⟨a',ka,ra⟩:=UC Q hQ a ha;let⟨b',kb,rb⟩:=UC Q hQ b hb;exact((ra.trans (old a' b' ka kb)).trans rb.symm).mono ⋯
 .by_cases y:(g:Int)∈Pd
  .rw[KC (up g hg),if_pos y];exact(canon m c8 pd y).mono ⋯
  .obtain⟨a,ha,ba⟩:=QS;exact((old a g ha (eE.mpr ⟨hg,y⟩)).rb ba).mono ⋯
end
section
def IM (ok:gh (eN A Pu W)=true)(m:ft A Pu W qs)(j:Jb A Pu W qs e)(he:e<=286790):cU A Pu W qs:=by
 let bd:∀z∈qs,Rb 2009987 z:=λz hz=>by
  let⟨i,hi,rfl⟩:=Yj hz;rw[<- RZ.ap (d:=0) (Zc hi)];cases h:has W i with
  |false=>rw[m.jC.nil i hi h];exact kA.mono ∅
  |true=>exact(j.bd i (Zd.mpr ⟨i,Zg.mpr ⟨Zi.mpr (by rw[<- m.len];exact hi),h⟩,()⟩)).mono ⋯
 exact⟨⟨ok,m.len,m.jC,λz hz=>(bd z hz).mono ∅⟩,bd⟩
def Ga (ok:gh (eN A Pu W)=true)(good:∀r∈W,bw A.length r)(hF:fz A Pu W A.length qs):cU A Pu W qs/\Jb A Pu W qs 2/\lc A Pu qs W A.length:=by
 let⟨rp,c8⟩:=xT ok (λr hr=>(good r hr).pos) hF;let⟨mn,Ck,hq⟩:=hF.ex;let one:∀x∈aw A.length W,∃u v:Int,(1<=u/\u<=100)/\(1<=v/\v<=100)/\qs.getD x.toNat 0*(v:Rat)=mn / ((eU A (az A.length W):Int):Rat)*(u:Rat):=λx hx=>by
  let⟨_,hg,_,hh⟩:=yc hx;let⟨sh,vF,e⟩:=hq _ hg;let⟨r,hr,rfl⟩:=Zd.mp vF.1;let gr:=good r hr;let mx:=gr.mx;let qp:0<qs.getD x.toNat 0:=rp.pr.jC.pos _ (by rw[hF.len];exact hg) hh;let gb:=gr.bd _ (MI.jY (d:=0) (by rw[gr.len];exact hg));let gn:r.getD x.toNat 0≠0:=λz=>by
   rw[e] at qp;unfold cm at qp;rw[z] at qp
   grind
  let mne:=Aj mx.1;apply⟨r.getD x.toNat 0,l9 r,⟨⋯,gb.2⟩,mx,?_⟩;rw[e];unfold cm
  grind
 let p1:∀{x y:Int},1<=x/\x<=100->1<=y/\y<=100->1<=x*y/\x*y<=10000:=λ{x y} hx hy=>by
  have:=Int.mul_le_mul hx.1 hy.1 ∅ ⋯;have:=Int.mul_le_mul hx.2 hy.2 ⋯ ∅;omega
 apply⟨rp,⟨λPd _ j k hj hk=>?_,λg hg=>?_⟩,c8⟩
 .obtain⟨u,v,hu,hv,e0⟩:=one _ (Zg.mp hj).1;let⟨u',v',ZC,ZA,e1⟩:=one _ (Zg.mp hk).1;rw[Z0] at e0 e1;apply⟨v*u',v'*u,p1 hv ZC,p1 ZA hu,?_⟩
  grind
 .obtain⟨sh,vF,e⟩:=hq g (by simpa using(yc hg).2.1);let⟨r,hr,rfl⟩:=Zd.mp vF.1;let mf:=sY ok;let XI:W≠[]:=λz=>by rw[z] at hr;cases hr
  let Rz:=jR (am:=A) good XI rfl (λa ha=>(mf.am a ha).1);let hpu:=lG (am:=A) (M:=W) rfl mf.g6 (λa ha=>(mf.am a ha).2);rw[e];exact(fU (gT (mf.pu mn Ck.1).2 (yb (k:=9) (by unfold Bd;omega) ∅) (Aj ⋯)) (kL (good r hr))).mono ∅
def qi (ok:gh (eN A Pu W)=true)(good:∀r∈W,bw A.length r)(hF:fz A Pu W A.length qs):∃L,fc A Pu W qs L/\L.length<=1000000/\nV A Pu W (eC qs L):=by
 let⟨rp,j,c8⟩:=Ga ok good hF;let mf:=sY ok;let⟨Pd,pd⟩:=mH (λz hz=>Zy (mf.pu z hz).1) c8;let l6:∀{qs Pd},bZ A Pu qs W A.length Pd->Pd.length<=6:=λp=>Zl p.sub.length_le (Zl (CD A.length W) mf.g6)
 let c:=QP (A:=A) (Pu:=Pu) (W:=W) (qs:=qs);let⟨L,st,hL,j',p',a'⟩:=EV good (J:=λqs=>cU A Pu W qs/\∃e,Jb A Pu W qs e/\∀Pd,bZ A Pu qs W A.length Pd->e+10*(cnt A Pu W qs*7+Pd.length)<=286790) (λqs h=>h.1) (λqs Pd f ⟨rp,e,j,b⟩ c8 pd hr F=>by
  let m:=ft.of rp good;let m':=m.raised (Pd:=Pd) (f:=f) (by have:=F.gt;grind);let j':=j.next m c8 pd F;let b':∀Q,bZ A Pu (db qs Pd f) W A.length Q->e+10+10*(cnt A Pu W (db qs Pd f)*7+Q.length)<=286790:=λQ hQ=>by
   have:=Lr rp m c8 pd F hQ
   grind
  let⟨Q,hQ⟩:=mH (λz hz=>Zy (mf.pu z hz).1) (YQ m c8 pd.sub F);exact⟨IM ok m' j' (by have:=b' Q hQ;omega),_,j',b'⟩) 100000 qs Pd ⟨rp,2,j,λQ hQ=>by have:=l6 hQ;omega⟩ c8 pd (by have:=l6 pd;omega)
 exact⟨L,st,Zl hL ∅,j'.1,p',a'⟩
def BU (ok:gh (eN A Pu W)=true)(good:∀r∈W,bw A.length r):Ot A Pu W 2009987:=⟨ok,good,λfs hF=>by
 let⟨L,st,hL,c⟩:=qi ok good hF;apply⟨L,st,hL,c.rp.pr,∅,∅,c.rp.bd,λk ms ps hk im ip=>?_⟩;exact Vf (sY ok) c.rp.pr.jC c.rp.pr.len good c.c8 (by rw[<- jT];exact c.all.zero) hk im ip⟩
end
section
def DZ (c:nV A Pu W qs)(m:ft A Pu W qs)(hi:i<W.length)(t:Top A W qs i r):Rb 2010007 r:=by
 let⟨g,h1,h2,h3⟩:=t.ex;rw[<- h3];exact iL (m.mf.w0 i g hi h1) (c.rp.pr.bd _ (MI.jY (by rw[m.len];exact h1))) (m.q0 hi h1 h2)
def AZ (c:nV A Pu W qs)(m:ft A Pu W qs)(d:lB A Pu W qs 2009987 cc ms ps M)(hi:i<W.length)(t:Top A W qs i r) :
  tV (W.getD i []) ((cF A ms M).getD i [])/\aH (cE (W.getD i []) ((cF A ms M).getD i []))=Pu.getD i 0*r:=by
 apply A0 m.mf m.len d ∅ (by rw[<- m.mf.wl];exact hi) ((DZ c m hi t).mono ∅) λj hj hb=>?_
 let⟨_,h2,_⟩:=u3 hi hb;rw[Z0] at h2;let⟨_,h4,h5⟩:=(t.best m hi).mp h2;let q0:=m.q0 hi hj h4;apply⟨q0,?_⟩;rw[<- h5];unfold rt bR;exact(KH q0).symm
theorem nE:∀{l:List Nat},(∀x∈l,f x<=g x)->aH (l.map f)<=aH (l.map g)
 |[],_=>Yo
 |x::l,h=>by
  rw[Zm,Zm,sZ,sZ];have:=nE (l:=l) λy hy=>h y (Zk _ hy)
  have:=h x (.head _)
  grind
theorem za:∀{l:List Nat},aH (l.map λj=>k*f j)=k*aH (l.map f)
 |[]=>by show(0:Rat)=k*0;grind
 |x::l=>by rw[Zm,Zm,sZ,sZ,za];grind
def uu (h:∀x∈L,p x=true):wsum L w p=aH (L.map w):=by
 unfold wsum;rw[X1.mpr h]
def all_money (c:nV A Pu W qs)(m:ft A Pu W qs):aH ((List.range A.length).map λj=>(gd A qs).getD j 0)=aH Pu:=by
 let z:=c.all.zero;unfold aF at z;rw[jT] at z;let e1:aH ((List.range A.length).map λj=>(gd A qs).getD j 0)=eh A qs (az A.length W):=by
  rw[mM (am:=A) (qs:=qs) Xz (show(az A.length W).Sublist (List.range A.length) from Zu),<- uu (p:=λ_=>true) λ_ _=>rfl];apply pK λx hx hp=>?_
  let hx:=Zi.mp hx;rw[G5 (by rw[m.len];exact hx)];let hn:has W x=false:=by
   cases h:has W x with
   |false=>rfl
   |true =>
    have:(az A.length W).contains x=true:=Ya.mpr (Zg.mpr ⟨Zi.mpr hx,h⟩);rw[this] at hp;exact absurd rfl hp
  rw[m.jC.nil x (by rw[m.len];exact hx) hn,Xj]
 let e2:bt Pu (eF W qs (az A.length W))=aH Pu:=by
  rw[vQ,uu λi hi=>?_,m.mf.wl]
  .have:=G6 (λx:Rat=>x) Pu 0
   simp_all
  .let hi:=Zi.mp hi;let⟨r,t⟩:=m.top hi;let⟨g,g1,g2,g3⟩:=t.ex;rw[jb,vR hi];exact⟨g,Zg.mpr ⟨Zi.mpr g1,ly hi g2⟩,Zd.mpr ⟨g,(t.best m hi).mpr ⟨g1,g2,g3⟩,()⟩⟩
 grind
def Ge (c:nV A Pu W qs)(m:ft A Pu W qs)(hi:i<W.length)(t:Top A W qs i r):aH (cE (W.getD i []) (A.map λa:Int=>(a:Rat)))<=r*aH Pu:=by
 rw[<- all_money c m,<- za];unfold cE;rw[m.mf.wr i hi];apply nE λj hj=>?_
 let hj:=Zi.mp hj;rw[show(A.map λa:Int=>(a:Rat)).getD j 0=((A.getD j 0:Int):Rat) from jv hj,G5 (by rw[m.len];exact hj)];let a1:=(m.mf.am _ (MI.jY (d:=0) hj)).1;let a0:(0:Rat)<=((A.getD j 0:Int):Rat):=Zy (yd ⋯);let r0:=t.pos m hi;by_cases w:0<wi W i j
 .let h:=t.le j hj w;let q0:=m.q0 hi hj w;unfold rt bR at h;let h2:=Xk h (Zy q0);rw[KH q0] at h2;have:=Xk h2 a0
  grind
 .let w0:(W.getD i []).getD j 0=0:=by
   have:=(m.mf.w0 i j hi hj).1;let e:eI W i j=(W.getD i []).getD j 0:=rfl;unfold wi at w;omega
  rw[w0];let q0:0<=qs.getD j 0:=by
   cases h:has W j with
   |false=>rw[m.jC.nil j (by rw[m.len];exact hj) h];exact Yo
   |true=>exact Zy (m.jC.pos j (by rw[m.len];exact hj) h)
  have:=Qj (Qj (Zy r0) q0) a0
  grind
end
end RT
namespace KM
open L2 KG EX
section
variable {row am:Γ3}
end
section
end
section
end
section
end
end KM
namespace MI
open L2 KG EX KM RZ SP
section
end
section
def Ev:tH K Dr NS:=λw O H vs xs P PX Q E r a hf q x=>by
 let⟨a1,b1,rfl,h0,hf⟩:=hf;let⟨v,v2,rfl,h1,h3⟩:=wD a;let⟨p1,rfl,g1⟩:=RM h1;let⟨p2,rfl,g2⟩:=RM h3;apply⟨p1,p2,a1,b1,(),g1,g2,h0.1,h0.2.1,h0.2.2,λp hp=>?_⟩;let⟨r1,e1,t1⟩:=DA r hp;exact q _ _ O w _ hf e1 r1 t1
end
abbrev acb:Δ2:=["some","found","one"]
def Dg:FM:=λO xs P _=>∃(r:Γ3) (ds:Δ1) (d:PyData),xs=[.im (aS r),.im d]/\(d=.tuple (ds.map qD)\/d=.list (ds.map qD))/\tV r ds/\P (.im (qD (aH (cE r ds)))) O
abbrev Od:Δ2:=["wishes","row"]
def Ue:MS:=(cK (aG jz cQ (af (cN 1 [1,0] (tP (af (jX ma (af (ah 1) ay)) ay)) (bh 0) eu (aG (f2 oN) cQ (af (jq (af (bA cv (ah 2) (ah 0)) (af (mC (.int 1)) ay))) (af (bA cv (ah 1) (ah 0)) ay)))) ay)))
def OP:∀O xs Pq QX,Dg O xs Pq QX->Ue { nx:=λ_ O'=>Pq (.im .none) O',rt:=Pq } (aY Od xs) O:=by
 intro O xs Pq QX h;let⟨r,ds,d,rfl,hd,ok,h⟩:=h;let hl:=ok.len;let r6:=ok.r6;let one:∀(j:Nat) (Z:AV->bE->Prop),j<ds.length->Z (.im (qD (((r.getD j 0:Int):Rat)*ds.getD j 0))) O->f2 oN O [.im (.tuple [.int (r.getD j 0),.int 1]),.im (qD (ds.getD j 0))] Z cQ:=λj Z hj hZ=>by
  let ha:=ok.nn (r.getD j 0) (jY ⋯);exact⟨((r.getD j 0:Int):Rat),ds.getD j 0,(),⟨(yb (k:=7) (by unfold Bd;omega) ∅).mono ∅,ok.rb (ds.getD j 0) (jY hj)⟩,hZ⟩
 let jk:jz O [.im (.list ((List.range ds.length).map λj=>qD (((r.getD j 0:Int):Rat)*ds.getD j 0)))] Pq cQ:=by
  apply⟨cE r ds,?_,ok.pb,ok.sb,h⟩;unfold cE;rw[Zp,hl];rfl
 rcases hd with rfl |rfl
 all_goals
  apply⟨⟨by rw[Zb];omega,by rw[Zb];omega⟩,G2 (λj=>qD (((r.getD j 0:Int):Rat)*ds.getD j 0)) (by rw[gR,Zb];omega) (λj x Z hx hZ=>?_) (by rw[gR,Zb,Z0];exact jk)⟩;let⟨hj,rfl⟩:=fD hx;rw[Zb,Z0] at hj;exact⟨_,int_at ⋯,md,_,aZ (jj (f:=qD) (d:=(0:Rat)) hj),one j Z hj hZ⟩
def Ig:FM:=λO xs P _=>∃q:Rat,xs=[.im (qD q)]/\Rb 32000000 q/\P (.im (.bool true)) O
abbrev Of:Δ2:=["thing"]
def Uf:MS:=(bu (li (AL (wu (dD (tQ MF (ah 0)))) (dD (bA (Cm true) (jX ma (af (ah 0) ay)) (mC (.int 2))))) (cK (mC (.bool false))) gj)
 (bu (li (dD (bA (Cm true) (cN 1 [] (cM (ah 0)) (bh 0) (AL (wu (dD (tQ Sy (ah 0)))) (dD (tQ WE (ah 0)))) (ah 0)) (AN ay))) (cK (mC (.bool false))) gj)
 (cK (LH (bA Hm (bA cv (ah 0) (mC (.int 1))) (mC (.int 0))) (bA (Cm false) (ah 0) (aG S5 cQ (af (bA cv (ah 0) (mC (.int 0))) (af (bA cv (ah 0) (mC (.int 1))) ay))))))))
def OQ:∀O xs Pq QX,Ig O xs Pq QX->Uf { nx:=λ_ O'=>Pq (.im .none) O',rt:=Pq } (aY Of xs) O:=by
 intro O xs Pq QX h;let⟨q,rfl,hq,h⟩:=h;let d0:(0:Int)<(q.den:Int):=by have:=q.den_pos;omega
 apply⟨λz=>(by cases z),λ_=>⟨dI,λz=>(by cases z),λ_=>⟨?_⟩⟩⟩;apply jh (λ_=>false) (λ_=>.none) (by show 2<=1000000;decide) (λi x Z hx hZ=>?_) (λi x Z hx hf=>(by cases hf)) ?_
 .have:x=.im (.int q.num)\/x=.im (.int (q.den:Int)):=by
   match i,hx with
   |0,hx=>exact .inl (Option.some.inj hx).symm
   |1,hx=>exact .inr (Option.some.inj hx).symm
  rcases this with rfl |rfl
  .exact⟨λz=>(by cases z),λ_=>hZ⟩
  .exact⟨λz=>(by cases z),λ_=>hZ⟩
 apply⟨∅,by show min (PyData.list []).depth (PyData.list []).depth<=60;decide,λz=>(by cases z),λ_=>⟨_,(),λ_=>⟨_,(),_,(),⟨d0,hq.2.mono ∅⟩,Zl (Nat.min_le_left _ _) (Zl (DQ q) ∅),?_⟩,λz=>absurd d0 (of_decide_eq_false z)⟩⟩;rw[EC,decide_eq_true (Xg q).symm];exact h
abbrev xi:Δ2:=["script","k","bag","market","prices","dealing","found","best","all_money","buyer","row","good","due","every"]
def Ep:MS:=(bu (kc (tP (af (bA o6 (jX (DH λi j=>if j<i then j else i) (af (jX DE (af (ah 0) ay)) (af (mC (.int 16)) ay))) (mC (.int 2))) ay)) (bh 1) (bu (bI (aG NT cQ (af (ah 0) (af (ah 1) ay))) (bh 2))
 (bu (bI (aG UI cQ (af (ah 2) ay)) (bh 3))
 (bu (bI (aG lA cQ (af (ah 3) ay)) (kZ 2 (aE (bh 4) (aE (bh 5) bY))))
 (bu (bI (aG mP cQ (af (ah 3) ay)) (bh 6))
 (bu (bI (aG Ik cQ (af (ah 3) (af (ah 4) ay))) (bh 7))
 (bu (bI (aG jz cQ (af (jX HL (af (bA cv (ah 3) (mC (.int 1))) ay)) ay)) (bh 8))
 (bu (li (AL (wu (dD (tQ MF (ah 6)))) (dD (bA (Cm true) (jX ma (af (ah 6) ay)) (jX ma (af (ah 7) ay))))) (cK (mC (.bool false))) gj)
 (kc (tP (af (jX ma (af (ah 7) ay)) ay)) (bh 9) (bu (bI (bA cv (bA cv (ah 3) (mC (.int 2))) (ah 9)) (bh 10))
 (bu (bI (bA cv (bA cv (ah 7) (ah 9)) (mC (.int 0))) (bh 11))
 (bu (bI (aG (f2 oN) cQ (af (bA cv (bA cv (ah 3) (mC (.int 1))) (ah 9)) (af (aG NS cQ (af (jq (af (bA cv (ah 10) (ah 11)) (af (mC (.int 1)) ay))) (af (bA cv (ah 4) (ah 11)) ay))) ay))) (bh 12))
 (bu (li (AL (dD (bA (Cm true) (bA cv (ah 6) (ah 9)) (ah 12))) (AL (dD (bA (Cm true) (aG Dg cQ (af (ah 10) (af (bA cv (ah 5) (ah 9)) ay))) (ah 12))) (wu (dD (aG Ig cQ (af (bA cv (ah 6) (ah 9)) ay)))))) (cK (mC (.bool false))) gj)
 (bu (bI (aG Dg cQ (af (ah 10) (af (cN 1 [] (cM (bA cv (ah 3) (mC (.int 0)))) (bh 0) eu (jq (af (ah 0) (af (mC (.int 1)) ay)))) ay))) (bh 13))
 (li (dD (aG DN cQ (af (ah 12) (af (aG (f2 oN) cQ (af (ah 13) (af (aG NS cQ (af (bA cv (bA cv (ah 3) (mC (.int 1))) (ah 9)) (af (ah 8) ay))) ay))) ay)))) (cK (mC (.bool false))) gj)))))))))))))))
 (cK (mC (.bool true))))
def uF {A:Γ3}(hl:r.length=A.length)(hr:∀x∈r,0<=x/\x<=100)(ha:∀a∈A,1<=a/\a<=60):∀q∈cE r (A.map λa:Int=>(a:Rat)),Rb 13 q:=λq hq=>by
 let⟨j,hj,rfl⟩:=Zd.mp hq;let hj:=Zi.mp hj;let h1:=hr _ (jY (d:=0) hj);let h2:=ha _ (jY (d:=0) (show j<A.length by omega));rw[show(A.map λa:Int=>(a:Rat)).getD j 0=((A.getD j 0:Int):Rat) from jv ⋯];exact fU (j:=7) (k:=6) (yb (by unfold Bd;omega) ∅) (yb (by unfold Bd;omega) ∅)
def DS {Pu:Δ1}(mf:Cp A Pu W)(hb:b<W.length):tV (W.getD b []) (A.map λa:Int=>(a:Rat)):=by
 let rl:=mf.wr b hb;let nn:∀x∈W.getD b [],0<=x/\x<=100:=λx hx=>by
  let⟨j,hj,rfl⟩:=Yj hx;have:=mf.w0 b j hb ⋯;let e:eI W b j=(W.getD b []).getD j 0:=rfl;rw[e,KM.ap (Zc hj)] at this;exact this
 let pb:=uF rl nn mf.am;apply⟨by rw[Zb];exact rl,by rw[rl];exact mf.g6,nn,λd hd=>?_,λq hq=>(pb q hq).mono ∅,λi hi=>(mB pb i).mono ?_⟩
 .obtain⟨a,ha,rfl⟩:=Zd.mp hd;have:=mf.am a ha;exact(yb (k:=6) (by unfold Bd;omega) ∅).mono ∅
 .have:(cE (W.getD b []) (A.map λa:Int=>(a:Rat))).length<=6:=by unfold cE;rw[Zb,Yk,rl];exact mf.g6
  omega
def evM {Pu:Δ1}(mf:Cp A Pu W)(hb:b<W.length)(hz:Rb 147 z):Rb 32000000 (aH (cE (W.getD b []) (A.map λa:Int=>(a:Rat)))*z):=by
 let rl:=mf.wr b hb;let nn:∀x∈W.getD b [],0<=x/\x<=100:=(DS mf hb).nn;let h:=mB (uF rl nn mf.am) (cE (W.getD b []) (A.map λa:Int=>(a:Rat))).length;rw[Yf] at h;have:(cE (W.getD b []) (A.map λa:Int=>(a:Rat))).length<=6:=by unfold cE;rw[Zb,Yk,rl];exact mf.g6
 exact(fU h hz).mono ⋯
def EF (p q:Rat):min (qD p).depth (qD q).depth<=60:=Zl (Nat.min_le_left _ _) (Zl (DQ p) ∅)
def E8:∀O xs Pq QX,NR O xs Pq QX->Ep { nx:=λ_ O'=>Pq (.im .none) O',rt:=Pq } (aY xi xs) O:=by
 intro O xs Pq QX h;let⟨ns,rfl,RB,h⟩:=h;let dg:(if (16:Int)<(ns.length:Int) then (16:Int) else (ns.length:Int))+2<=18:=by split<;>omega
 let ae0:0<=(if (16:Int)<(ns.length:Int) then (16:Int) else (ns.length:Int))+2:=by split<;>omega
 apply⟨⟨by dsimp only;omega,by dsimp only;omega⟩,λi sl O'=>∃y1 y2 y3 y4 y5 y6 y7 y8 y9 x9 y11 y12 y13,sl=[some (.At ns),y1,y2,y3,y4,y5,y6,y7,y8,y9,x9,y11,y12,y13],⟨_,_,_,_,_,_,_,_,_,_,_,_,_,()⟩,?_,?_⟩
 rotate_left
 .rintro sl O' _;exact⟨h O'⟩
 rintro i x sl O' hx ⟨y1,y2,y3,y4,y5,y6,y7,y8,y9,x9,y11,y12,y13,rfl⟩;let⟨hi,rfl⟩:=fD hx;let ajM:i<18:=by dsimp only at hi;omega
 clear hx hi
 apply⟨⟨⋯,⋯⟩,λbj=>⟨⟨bj,(),λA Pu W Rw hp=>?_⟩⟩⟩;let mf:=sY Rw;let good:=qh mf hp;let cl:=RT.BU Rw good;apply⟨⟨A,Pu,W,2009987,(),cl,λfs L c ms ps M O2 hF st dl gr=>?_⟩⟩;let⟨L0,Kv,_,cls⟩:=RT.qi Rw good hF;cases st.uniq Kv
 clear Kv gr
 let m:=RT.ft.of cls.rp good;let wl:=mf.wl;generalize SG:eC fs L=qs at dl cls m;apply⟨(),?_⟩;apply⟨⟨A,Pu,W,2009987,(),cl,λfs' L' c' ms' WA M' O3 hF' pf υ gr'=>?_⟩⟩;cases hF'.uniq hF;cases pf.uniq st;rw[SG] at υ;let wt:∀{c:Int}{ms ps:Γ3}{M:Γ1},lB A Pu W qs 2009987 c ms ps M->∀i,i<W.length->∃r,RT.Top A W qs i r/\tV (W.getD i []) ((cF A ms M).getD i [])/\aH (cE (W.getD i []) ((cF A ms M).getD i []))=Pu.getD i 0*r:=λd i hi=>by
  let⟨r,t⟩:=m.top hi;exact⟨r,t,RT.AZ cls m d hi t⟩
 apply⟨λi hi=>by let⟨_,_,h1,_⟩:=wt υ i hi;exact h1,?_⟩
 clear gr' pf hF'
 generalize Ay:iV W (cF A ms' M')=ws;let wsl:ws.length=W.length:=by rw[<- Ay];unfold iV;simp
 let wse:∀i,i<W.length->ws.getD i 0=aH (cE (W.getD i []) ((cF A ms' M').getD i [])):=λi hi=>by
  rw[<- Ay];unfold iV;rw[jv (a:=0) (by rw[Yk];exact hi),show(List.range W.length).getD i 0=i by simp[List.getD,Yq hi]]
 apply⟨⟨A,Pu,W,qs,(),by rw[m.len];exact mf.g6,by rw[wl];exact mf.n6,λi hi=>by rw[m.len];exact mf.wr i hi,λi j hi hj=>mf.w0 i j hi (by rw[<- m.len];exact hj),cls.rp.bd,λO4 gr=>?_⟩⟩;generalize hbd:(ak W qs).map (λr=>PyData.list (r.map .int))=bd;let bl:bd.length=W.length:=by rw[<- hbd,Zb];unfold ak;simp
 let evR:∀i,i<=Pu.length->Rb 127 (aH (Pu.take i)):=λi hi=>by
  let h1:=mB (λq hq=>(mf.pu q hq).2) i;exact h1.mono (by have:=mf.n6;omega)
 let ev:=evR Pu.length (Ze _);rw[Yf] at ev;apply⟨⟨_,(),⟨Pu,(),λq hq=>(mf.pu q hq).2.mono ∅,λi hi=>(evR i hi).mono ∅,?_⟩⟩⟩;apply⟨⟨λz=>(by cases z),λ_=>⟨dI,λz=>?_,λ_=>?_⟩⟩⟩
 .exfalso;let z:(!decide (((ws.map qD).length:Int)=(bd.length:Int)))=true:=z;rw[Zb,wsl,bl] at z;simp at z
 apply⟨⟨by rw[bl,wl];have:=mf.n6;omega,by rw[bl,wl];have:=mf.n6;omega⟩,λj sl O5=>O5=O4/\∃z9 Mh Mg Mc L9,sl=[some (.At ns),Φ9 (.int (i:Int)),some (.bag bj),Φ9 (eN A Pu W),Φ9 (.tuple (qs.map qD)),Φ9 (.tuple ((cF A ms M).map λqs=>.tuple (qs.map qD))),Φ9 (.tuple (ws.map qD)),Φ9 (.list bd),Φ9 (qD (aH Pu)),z9,Mh,Mg,Mc,L9],⟨(),_,_,_,_,_,()⟩,?_,?_⟩
 rotate_left
 .rintro sl O5 ⟨rfl,z9,Mh,Mg,Mc,L9,rfl⟩;exact⟨_,_,_,_,_,_,_,_,_,_,_,_,_,()⟩
 rintro b x sl O5 hx ⟨rfl,z9,Mh,Mg,Mc,L9,rfl⟩;let⟨hb,rfl⟩:=fD hx;rw[Z0,bl] at hb;let RH:b<Pu.length:=⋯;let⟨r,tp,wok,we⟩:=wt dl b hb;let⟨r',tp',_,we'⟩:=wt υ b hb;let er:r'=r:=by
  let⟨g,h1,h2,h3⟩:=tp.ex;let⟨g',h1',η,ζ⟩:=tp'.ex;exact Qs (by rw[<- ζ];exact tp.le _ h1' η) (by rw[<- h3];exact tp'.le _ h1 h2)
 subst er;let wsb:ws.getD b 0=Pu.getD b 0*r':=by rw[wse b hb];exact we'
 let Rk:Rb 20 (Pu.getD b 0):=(mf.pu _ (jY RH)).2;let Sh:0<Pu.getD b 0:=(mf.pu _ (jY RH)).1;let rR:=RT.DZ cls m hb tp;let duR:Rb 2010027 (Pu.getD b 0*r'):=(fU (j:=20) (k:=2010007) Rk rR).mono ∅;let rl:=mf.wr b hb;apply⟨⟨_,(),_,aZ (jj (f:=aS) (d:=[]) hb),?_⟩⟩;obtain⟨g,l,eb⟩:∃g l,aV (W.getD b []) qs=g::l:=by
  let⟨g,h1,h2,h3⟩:=tp.ex;have:=(tp.best m hb).mpr ⟨h1,h2,h3⟩;cases e:aV (W.getD b []) qs with
  |nil=>rw[e] at this;cases this
  |cons g l=>exact⟨g,l,()⟩
 let⟨g1,g2,g3⟩:=(tp.best m hb).mp (by rw[eb];exact Zh);let q0:=m.q0 hb g1 g2;let gq:g<qs.length:=by rw[m.len];exact g1
 apply⟨⟨.list (((g::l).map λk:Nat=>(k:Int)).map .int),by
  rw[<- hbd,aZ (jj (f:=λr:Γ3=>PyData.list (r.map .int)) (d:=[]) (show b<(ak W qs).length by unfold ak;simpa using hb)),vR hb,eb],.int (g:Int),aZ (i:=0) rfl,?_⟩⟩
 let wB:=mf.w0 b g hb g1;let wR:Rb 7 ((((W.getD b []).getD g 0:Int)):Rat):=yb (by
  let e:eI W b g=(W.getD b []).getD g 0:=rfl;unfold Bd;omega) ∅
 let qR:=cls.rp.bd _ (jY (d:=0) gq);let ert:(((W.getD b []).getD g 0:Int):Rat) / qs.getD g 0=r':=g3;apply⟨⟨_,(),_,aZ (jj (f:=qD) (d:=(0:Rat)) RH),_,int_at (by rw[rl];exact g1),md,_,aZ (jj (f:=qD) (d:=(0:Rat)) gq),(((W.getD b []).getD g 0:Int):Rat),qs.getD g 0,(),⟨wR.mono ∅,qR.mono ∅,q0⟩,Pu.getD b 0,(((W.getD b []).getD g 0:Int):Rat) / qs.getD g 0,(),⟨Rk.mono ∅,by rw[ert];exact rR.mono ∅⟩,?_⟩⟩;rw[ert];let aW:fj (ws.map qD) (b:Int)=some (qD (ws.getD b 0)):=aZ (jj (f:=qD) (d:=(0:Rat)) (by rw[wsl];exact hb));let ne:∀{q:Rat},q=Pu.getD b 0*r'->(!RQ (qD q) (qD (Pu.getD b 0*r')))=true->False:=λe z=>by
  rw[EC,e] at z;simp at z
 let aD:fj ((cF A ms M).map λqs=>PyData.tuple (qs.map qD)) (b:Int)=some (.tuple (((cF A ms M).getD b []).map qD)):=aZ (jj (f:=λqs:Δ1=>PyData.tuple (qs.map qD)) (d:=[]) (by
  have:=dl.sp.sL.len;unfold cF;rw[Zb,Yk];omega))
 apply⟨⟨_,aW,EF _ _,λz=>(ne wsb z).elim,λ_=>⟨_,aD,W.getD b [],(cF A ms M).getD b [],_,(),.inl rfl,wok,EF _ _,λz=>(ne we z).elim,λ_=>⟨_,aW,ws.getD b 0,(),by rw[wsb];exact duR.mono ∅,λz=>(by cases z),λ_=>?_⟩⟩⟩⟩;let wi':=DS mf hb;let evB:=wi'.sb _ (Ze _);rw[Yf] at evB;apply⟨⟨_,(),?_⟩⟩;conv=>whnf
 apply G2 (λj=>.tuple [.int (A.getD j 0),.int 1]) (by rw[Zb,Zb];have:=mf.g6;omega) (λj x Z hx hZ=>?_) ?_
 .obtain⟨hj,rfl⟩:=GB hx;exact⟨md,hZ⟩
 rw[Zb,Zb,G6 (λa:Int=>PyData.tuple [.int a,.int 1]) A 0];apply⟨W.getD b [],A.map λa:Int=>(a:Rat),_,(),.inr (by rw[Zp];rfl),wi',?_⟩;let s0:0<aH Pu:=uy (λz=>by rw[z] at RH;cases RH) λq hq=>(mf.pu q hq).1
 let sn:aH Pu≠0:=λz=>by rw[z] at s0;exact absurd s0 ∅
 let dR:=(gT Rk ev sn);apply⟨⟨_,(),_,aZ (jj (f:=qD) (d:=(0:Rat)) RH),Pu.getD b 0,aH Pu,(),⟨Rk.mono ∅,ev.mono ∅,s0⟩,_,_,(),⟨evB,dR.mono ∅⟩,_,_,(),⟨duR.mono ∅,evM mf hb dR⟩,λz=>?_,λ_=>⟨(),_,_,_,_,_,()⟩⟩⟩;exfalso;let z:=of_decide_eq_true z;let h1:=RT.Ge cls m hb tp;let h2:=Xk h1 (Zy (KM.div_pos Sh s0));let e:r'*aH Pu*(Pu.getD b 0 / aH Pu)=Pu.getD b 0*r':=by grind
 rw[e] at h2;exact absurd z (Yv.mpr h2)
end MI
namespace CV
open L2 KG EX KM MI
section
def na:ai NBe Ψ8 (bF (top 75)):=L2.dj
def PL (F:cR K "_law_best" "_law_best" (top 75) f fd)(N:Nm mg)  : aI P w K mg base cf 1 f fd Ψ8 (cH K Ik) :=
 ji F na (λO xs P PX h=>by let⟨_,_,_,_,rfl,_⟩:=h;rfl) (λbH A outer s H E QX hr=>⟨Ul,(cZ (gD (i:=2) na.nd (wQ bi))
 (cZ (ya PassesOwn.never rfl (mZ (cB (mv 0) cX)) (dU (i:=3) na.nd) (cZ (gD (i:=4) na.nd (wQ bi))
 (cZ (ya PassesOwn.never rfl (Mt rfl N.range (aC (sX fw fY (by rfl) N.len Ys (aC (mv 3) bi)) bi)) (dU (i:=5) na.nd) (cZ (nN (cB (mv 1) (mv 5)) (sU rfl (iy (dU (i:=6) na.nd) (iy (dU (i:=7) na.nd) sW))))
 (cZ (gD (i:=8) na.nd (lu (Dz hr.units) DD (cB (mv 3) (mv 5)) cX (aO _)))
 (cZ (ya PassesOwn.never rfl (Mt rfl N.range (aC (sX fw fY (by rfl) N.len Ys (aC (mv 3) bi)) bi)) (dU (i:=9) na.nd) (cZ (gD (i:=10) na.nd (jK (jK (cB (mv 3) (mv 9)) (mv 6)) (cB (cB (mv 1) (mv 9)) cX)))
 (dr (ij (PW.pt (PU (vB ii lU (cB (mv 3) (mv 9)) cX (aO _)) (JU (vB nu VQ (jK (jK (cB (mv 3) (mv 5)) (cB (cB (mv 1) (mv 9)) cX)) (mv 7)) (mv 10) (aO _))))) (dr (gD (i:=8) na.nd km)) eK))))
 (dr (ij (lr (nM (mv 8))) (dr (kD (rD (mv 4) (aC (mv 5) bi)))) eK))))))
 (dr (kD (rD (mv 2) (aC (mv 4) bi)))))))
 (zE 2 (dr (ib (mv 2)))))),λO xs Pq h=>OU O xs Pq QX h⟩)
def yn:ai acb ["some"] (bF (top 69)):=L2.dj
def PD (F:cR K "_law_sum" "_law_sum" (top 69) f fd)(N:Nm mg)(Ad:bS K mg P w base "_law_add" 2 ["one","other"] (Ap Sg) fAd dAd):aI P w K mg base cf 3 f fd ["some"] (cH K jz) :=
 ji F yn (λO xs P PX h=>by let⟨_,rfl,_⟩:=h;rfl) (λbH A outer s H E QX hr=>⟨DB,(cZ (gD (i:=1) yn.nd (vA (aC cX (aC cX bi))))
 (cZ (ya PassesOwn.never rfl (mZ (mv 0)) (dU (i:=2) yn.nd) (dr (gD (i:=1) yn.nd (ef Ad tR hr (aC (mv 1) (aC (mv 2) bi))))))
 (dr (ib (mv 1))))),λO xs Pq h=>zi O xs Pq QX h⟩)
def Vn:ai Od ["wishes","row"] (bF (top 76)):=L2.dj
def PB (F:cR K "_law_worth" "_law_worth" (top 76) f fd)(N:Nm mg)(Su:bS K mg P w base "_law_sum" 3 ["some"] (cH K jz) fSu dSu)(Mu:bS K mg P w base "_law_mul" 2 ["one","other"] (Ap oN) fMu dMu):aI P w K mg base cf 4 f fd ["wishes","row"] (cH K Dg) :=
 ji F Vn (λO xs P PX h=>by let⟨_,_,_,rfl,_⟩:=h;rfl) (λbH A outer s H E QX hr=>⟨Ue,(dr (ib (ef Su gF hr (aC (pk (own:=["good"]) (cap:=["row","wishes"]) (ix:=[1,0]) (aL.of (bF (top 76)).names Od) rfl (Mt rfl N.range (aC (sX fw fY (by rfl) N.len Ys (aC (mv 1) bi)) bi)) (sN ∅)
 (λC fp s H=>⟨(dU (i:=0) (Ψ9 ["good","row","wishes"])),pi,(ef Mu tR hr (aC (vA (aC (cB (mv 2) (mv 0)) (aC cX bi))) (aC (cB (mv 1) (mv 0)) bi)))⟩)) bi)))),λO xs Pq h=>OP O xs Pq QX h⟩)
def Vp:ai Of ["thing"] (bF (top 70)):=L2.dj
def PF {f S5  : Addr}(F:cR K "_law_is_fraction" "_law_is_fraction" (top 70) f fd)(N:Nm mg)(Z:Cr K)(Lf:bS K mg P w base "_law_frac" 1 ["top","bottom"] wj S5 dLf):aI P w K mg base cf 2 f fd ["thing"] (cH K Ig) :=
 ji F Vp (λO xs P PX h=>by let⟨_,rfl,_⟩:=h;rfl) (λbH A outer s H E QX hr=>⟨Uf,(cZ (ij (PW.pt (uc (lr (fX (lZ Z (mv 0) rfl N.isinstance rfl N.tuple))) (rA (vB (t8 hr.units) ud (sX fw fY (by rfl) N.len Ys (aC (mv 0) bi)) cX (aO _))))) (dr (ib km)) eK)
 (cZ (ij (vB (t8 hr.units) ud (pk (own:=["one"]) (cap:=[]) (ix:=[]) (aL.of (bF (top 70)).names Of) rfl (mZ (mv 0)) (sN ∅)
 (λC fp s H=>⟨(dU (i:=0) (Ψ9 ["one"])),(jM (PW.pt (uc (lr (fX (BD Z (mv 0) rfl N.isinstance rfl N.int))) (rA (fX (xG Z (mv 0) rfl N.isinstance rfl N.bool)))))),(mv 0)⟩)) (nP bi) (aO _)) (dr (ib km)) eK)
 (dr (ib (P4 (lu ii lU (cB (mv 0) cX) cX (aO _)) (P2 (lu (Dz hr.units) DD (mv 0) (ef Lf VR hr (aC (cB (mv 0) cX) (aC (cB (mv 0) cX) bi))) (aO _)))))))),λO xs Pq h=>OQ O xs Pq QX h⟩)
def fv:ai xi ["script"] (bF (top 77)):=L2.dj
def JP (F:cR K "law" "law" (top 77) f fd)(N:Nm mg)(Z:Cr K)(Bg:bS K mg P w base "_law_bag" 1 ["script","k"] (Ds K) fBg dBg)(Mk:bS K mg P w base "_law_market" 3 ["bag"] Nt fMk dMk)(Cl:bS K mg P w base "clear" 12 ["market"] (cH K lA) fCl dCl)(Wt:bS K mg P w base "worths" 13 ["market"] (cH K mP) fWt dWt)(Be:bS K mg P w base "_law_best" 1 Ψ8 (cH K Ik) fBe dBe)(Su:bS K mg P w base "_law_sum" 3 ["some"] (cH K jz) fSu dSu)(Mu:bS K mg P w base "_law_mul" 2 ["one","other"] (Ap oN) fMu dMu)(Di:bS K mg P w base "_law_div" 2 ["one","other"] Dr fDi dDi)(Ls:bS K mg P w base "_law_less" 1 ["one","other"] jH fLs dLs)(Wo:bS K mg P w base "_law_worth" 4 ["wishes","row"] (cH K Dg) fWo dWo)(If:bS K mg P w base "_law_is_fraction" 2 ["thing"] (cH K Ig) fIf dIf):aI P w K mg base cf 14 f fd ["script"] (cH K NR) :=
 ji F fv (λO xs P PX h=>by let⟨_,rfl,_⟩:=h;rfl) (λbH A outer s H E QX hr=>⟨Ep,(cZ (ya PassesOwn.never rfl (Mt rfl N.range (aC (jL (sX (B5 rfl) J3 (by rfl) N.min boot_min (aC (sX (ab4 K) J5 (by rfl) N.len Ys (aC (mv 0) bi)) (aC cX bi))) cX) bi)) (dU (i:=1) fv.nd) (cZ (gD (i:=2) fv.nd (ef Bg P8 hr (aC (mv 0) (aC (mv 1) bi))))
 (cZ (gD (i:=3) fv.nd (ef Mk VP hr (aC (mv 2) bi)))
 (cZ (nN (ef Cl gF hr (aC (mv 3) bi)) (sU rfl (iy (dU (i:=4) fv.nd) (iy (dU (i:=5) fv.nd) sW))))
 (cZ (gD (i:=6) fv.nd (ef Wt gF hr (aC (mv 3) bi)))
 (cZ (gD (i:=7) fv.nd (ef Be gF hr (aC (mv 3) (aC (mv 4) bi))))
 (cZ (gD (i:=8) fv.nd (ef Su gF hr (aC (CF DR Eu (by rfl) N.list boot_list (aC (cB (mv 3) cX) bi)) bi)))
 (cZ (ij (PW.pt (uc (lr (fX (lZ Z (mv 6) rfl N.isinstance rfl N.tuple))) (rA (vB (t8 hr.units) ud (sX fw fY (by rfl) N.len Ys (aC (mv 6) bi)) (sX fw fY (by rfl) N.len Ys (aC (mv 7) bi)) (aO _))))) (dr (ib km)) eK)
 (dr (ya PassesOwn.never rfl (Mt rfl N.range (aC (sX fw fY (by rfl) N.len Ys (aC (mv 7) bi)) bi)) (dU (i:=9) fv.nd) (cZ (gD (i:=10) fv.nd (cB (cB (mv 3) cX) (mv 9)))
 (cZ (gD (i:=11) fv.nd (cB (cB (mv 7) (mv 9)) cX))
 (cZ (gD (i:=12) fv.nd (ef Mu tR hr (aC (cB (cB (mv 3) cX) (mv 9)) (aC (ef Di Ev hr (aC (vA (aC (cB (mv 10) (mv 11)) (aC cX bi))) (aC (cB (mv 4) (mv 11)) bi))) bi))))
 (cZ (ij (PW.pt (uc (vB (t8 hr.units) ud (cB (mv 6) (mv 9)) (mv 12) (aO _)) (uc (vB (t8 hr.units) ud (ef Wo gF hr (aC (mv 10) (aC (cB (mv 5) (mv 9)) bi))) (mv 12) (aO _)) (rA (lr (fX (ef If gF hr (aC (cB (mv 6) (mv 9)) bi)))))))) (dr (ib km)) eK)
 (cZ (gD (i:=13) fv.nd (ef Wo gF hr (aC (mv 10) (aC (pk (own:=["pieces"]) (cap:=[]) (ix:=[]) (aL.of (bF (top 77)).names xi) rfl (mZ (cB (mv 3) cX)) (sN ∅)
 (λC fp s H=>⟨(dU (i:=0) (Ψ9 ["pieces"])),pi,(vA (aC (mv 0) (aC cX bi)))⟩)) bi))))
 (dr (ij (fX (ef Ls zM hr (aC (mv 12) (aC (ef Mu tR hr (aC (mv 13) (aC (ef Di Ev hr (aC (cB (cB (mv 3) cX) (mv 9)) (aC (mv 8) bi))) bi))) bi)))) (dr (ib km)) eK)))))))))))))))))
 (dr (ib km))),λO xs Pq h=>E8 O xs Pq QX h⟩)
end
end CV
namespace MI
open L2 KG EX KM RZ
def getD_mem' {α : Type}{l:List α}{i:Nat}{d:α}(h:i<l.length):l.getD i d∈l:=by rw[KM.ap (Zc h)];exact Zw _
def x6 {α : Type}{l:List α}{p q:α->Bool}(h:∀x∈l,p x=q x):l.any p=l.any q:=by
 induction l with
 |nil=>rfl
 |cons x l ih=>rw[Xw,Xw,h x Zh,ih λy hy=>h y (Zk _ hy)]
theorem ze:∀{xs:List V}{M:Γ1},qG H xs M->aJ H xs (M.map aS)
 |_,_,.nil=>.nil
 |_,_,.cons ⟨a,e,h⟩ t=>by subst e;exact .cons (.tup h (wA _)) (ze t)
def Iy (h:aJ H xs (M.map aS)):qF H xs M:=by
 apply⟨by rw[h.len,Zb],λj x hx=>?_⟩;let⟨d,hd,t⟩:=h.at hx;rw[Zo] at hd;cases hm:M[j]? with
 |none=>rw[hm] at hd;cases hd
 |some r =>
  rw[hm] at hd;cases Option.some.inj hd;cases t with |tup h1 h2=>exact⟨_,r,rfl,rfl,by rw[<- iJ h2];exact h1⟩
section
def Ux:aA H (G ⟨[],[],[],[]⟩ [] H):=λx o h=>by
 rw[gI]
 .exact h
 .rintro(h |⟨o,h⟩ |⟨k,c,h,_⟩)
  .cases h
  .cases h
  .simp at h
def nK (h:aI Pg wo K mg base cf k f fd ps (cH K F))(c:∀vs H Q E,sp vs H Q E->∃ds:Ξ1,aJ H vs ds/\F [] (ds.map .im) (λq O'=>∃d,q=.im d/\O'=[]/\∀z H',aA H H'->cz H' z d->Q z H') λ_ _=>False):aI Pg wo K mg base cf k f fd ps sp:=h.imp λvs H Q E hs=>by
 let⟨ds,t,hF⟩:=c vs H Q E hs;apply⟨⟨[],[],[],[]⟩,[],ds.map .im,_,λ_ _=>False,⟨(),X9,λa h=>(by cases h),λa h=>(by cases h),X9,λp h=>(by cases h),λa h=>(by cases h),λk c h=>(by simp at h),λk h=>(by cases h)⟩,aJ.W5 (aJ.ar Ux t),hF,λz q O' w' H' hz e r av=>?_,λc O' w' H' h=>h.elim⟩;let⟨d,rfl,rfl,hQ⟩:=hz;exact hQ z H' (Ux.trans (e.ex.ar.trans qS)) (cz.ar qS av)
def uw (h:cz H z (aS ns)):∃a,z=.ref a/\H a=some (.tup (ns.map V.int)):=by
 cases h with |tup h1 h2=>exact⟨_,rfl,by rw[<- iJ h2];exact h1⟩
def yV (h:cz H z (cy ns)):∃a,z=.ref a/\H a=some (.lst (ns.map V.int)):=by
 cases h with |lst h1 h2=>exact⟨_,rfl,by rw[<- iJ h2];exact h1⟩
def kP (gs:List Nat):tN gs=aS (gs.map λg:Nat=>(g:Int)):=by unfold tN aS;rw[Zp];rfl
def lH (gs:List Nat):c3 gs=(gs.map λg:Nat=>(g:Int)).map V.int:=by unfold c3;rw[Zp];rfl
def DX (m:eA b H p pa pp pw xa xp xw am pu wi):∃A Pu W,cz H (.ref p) (eN A Pu W)/\gh (eN A Pu W)=true/\am.map be=A/\qA pu=Pu/\rowsOf wi=W/\xa.length=A.length:=by
 let⟨A,Pu,W,e⟩:=zG m.ok;let t:=m.tr;let ok:=m.ok;rw[e] at t ok;let e1:am=A.map .int:=by have:=congrArg (λd=>match d with |PyData.tuple [.tuple x,_,_]=>x |_=>[]) e;exact this
 let e2:pu=Pu.map qD:=by have:=congrArg (λd=>match d with |PyData.tuple [_,.tuple x,_]=>x |_=>[]) e;exact this
 let e3:wi=W.map aS:=by have:=congrArg (λd=>match d with |PyData.tuple [_,_,.tuple x]=>x |_=>[]) e;exact this
 apply⟨A,Pu,W,mw (λ_ _ h=>h) (wP A Pu W) t,ok,?_,?_,?_,?_⟩
 .rw[e1];exact on A
 .rw[e2];exact gz Pu
 .rw[e3];exact KD W
 .rw[m.ta.len,e1,Zb]
def Jx (h:aI Pg wo K mg base cf k f fd ps (cH K Dd)):aI Pg wo K mg base cf k f fd ps yl:=nK h λvs H Q E h9=>by
 let⟨b,p,pa,pp,pw,xa,xp,xw,am,pu,wi,e,m,q⟩:=h9;subst e;let⟨A,Pu,W,t,ok,rfl,rfl,rfl,la⟩:=DX m;let mf:=sY ok;apply⟨[_],.cons t .nil,_,_,_,(),mf.g6,by rw[mf.wl];exact mf.n6,mf.wr,_,(),(),λz H' s tz=>?_⟩;let⟨a,rfl,ha⟩:=uw tz;exact q a H' s (by rw[ha,lD,la];rfl)
def Pn (h:aI Pg wo K mg base cf k f fd ps (cH K Df)):aI Pg wo K mg base cf k f fd ps Tv:=nK h λvs H Q E h9=>by
 let⟨pb,pg,xs,M,gs,e,h1,h2,h3,m6,r6,q⟩:=h9;subst e;apply⟨[.tuple (M.map aS),tN gs],.cons (.tup h1 ?_) (.cons (by rw[kP];exact .tup h3 (by rw[lH];exact wA _)) .nil),M,gs.map λg:Nat=>(g:Int),by rw[kP];rfl,m6,λi hi=>r6 _ (getD_mem' hi),_,(),(),λz H' s tz=>?_⟩
 .exact ze h2
 .rw[kP] at tz;let⟨a,rfl,ha⟩:=uw tz;apply q a H' s ?_;rw[ha,lH]
  congr 4
  unfold oV;apply Y0 λi _=>?_
  unfold ci;apply x6 λg _=>?_
  rw[Yc,Ya,Zd,Z6];exact⟨λ⟨x,hx,e⟩=>⟨x,hx,decide_eq_true e⟩,λ⟨x,hx,e⟩=>⟨x,hx,of_decide_eq_true e⟩⟩
def Jy (h:aI Pg wo K mg base cf k f fd ps (cH K uo)):aI Pg wo K mg base cf k f fd ps D7:=nK h λvs H Q E h9=>by
 let⟨l,ns,e,h1,n6,q⟩:=h9;subst e;apply⟨[aS ns],.cons (.tup h1 (wA _)) .nil,ns,(),n6,_,(),(),λz H' s tz=>?_⟩;cases tz with |lst a1 a2=>exact q _ _ H' s a1 (Iy a2)
def Pp (h:aI Pg wo K mg base cf k f fd ps (cH K lz)):aI Pg wo K mg base cf k f fd ps Tz:=nK h λvs H Q E h9=>by
 let⟨l,t,ms,S,e,h1,h2,s6,sl,q⟩:=h9;subst e;apply⟨[cy ms,tN S],.cons (.lst h1 (wA _)) (.cons (by rw[kP];exact .tup h2 (by rw[lH];exact wA _)) .nil),ms,S,(),s6,sl,_,(),(),λz H' s tz=>?_⟩;rw[iu tz];exact q H' s
def Po (h:aI Pg wo K mg base cf k f fd ps (cH K wC)):aI Pg wo K mg base cf k f fd ps zd:=nK h λvs H Q E h9=>by
 let⟨b,p,pa,pp,pw,qa,xa,xp,xw,ys,am,pu,wi,qs,e,m,pr,hl,q⟩:=h9;subst e;let⟨A,Pu,W,t,ok,rfl,rfl,rfl,la⟩:=DX m;let mf:=sY ok;apply⟨[_,.tuple (qs.map qD)],.cons t (.cons (mw (b:=b) (λ_ _ h=>h) (rk qs) (.tup pr.hq pr.tr)) .nil),_,_,_,qs,2010000,(),⋯,mf.g6,mf.n6,mf.am,λz hz=>(mf.pu z hz).2,Ze _,∅,pr.bd,λc ms ps hc im ip _ _=>⟨_,(),(),λz H' s tz=>?_⟩⟩;cases tz with |tup a1 a2=>?_
 cases a2 with |cons b1 a2=>?_
 cases a2 with |cons b2 a2=>?_
 cases a2
 let⟨r1,rfl,h1⟩:=yV b1;let⟨r2,rfl,h2⟩:=yV b2;exact q _ r1 r2 c ms ps H' s hc im ip a1 h1 h2
def Fv (h:aI Pg wo K mg base cf k f fd ps wj):aI Pg wo K mg base cf k f fd ps D6:=h.imp λvs H Q E ⟨t,u,e,u0,u1,q⟩=>by
 apply⟨t,u,e,u0,UM ⋯,λp hp=>?_⟩;let hg:=(zW (t:=t) u0).1;let⟨e1,e2⟩:=nL (T:=t) (U:=u) ⋯;let es:sg t u=(Int.gcd t u:Int):=by unfold sg;rw[if_neg ⋯]
 unfold qO;rw[<- e1,<- e2];unfold nx ny;rw[es,Qw _ ⋯,Qw _ ⋯];exact q p hp
end
end MI
namespace MI
open L2 KG EX KM
def c6 (K:Θ1)(nm:Str)(st:Stmt)(f:Addr):Prop:=∃(oc:Value) (od:Option Addr) (kV dc pm:Value) (an:Option Addr) (cd ct:Value) (sl:Array (Option Value)),PySem.W.nsIn K mainGlobals nm=some (some (.ref f))/\K.lookup f=some ⟨oc,od,.func (PySem.W.fnOf nm nm (vO st) (sV st) (bF st) .none kV dc pm an cd ct),sl⟩/\PySem.W.codeIn K cd nm=true/\PySem.W.keepIn K (.ref f)=true
def W0 {P:Δ3->Prop}{n:Nat}(h:∀a us,us.length=n->P (a::us))(us:Δ3)(e:us.length=n+1):P us:=by
 cases us with
 |nil=>cases e
 |cons a us=>exact h a us (by simpa using e)
def el1 {P:Δ3->Prop}(h:∀a,P [a]):∀us:Δ3,us.length=1->P us:=W0 λa us e=>by rw[List.eq_nil_of_length_eq_zero e];exact h a
def el2 {P:Δ3->Prop}(h:∀a b,P [a,b]):∀us:Δ3,us.length=2->P us:=W0 λa=>el1 (h a)
def el3 {P:Δ3->Prop}(h:∀a b c,P [a,b,c]):∀us:Δ3,us.length=3->P us:=W0 λa=>el2 (h a)
def el4 {P:Δ3->Prop}(h:∀a b c d,P [a,b,c,d]):∀us:Δ3,us.length=4->P us:=W0 λa=>el3 (h a)
structure Fg (K:Θ1)(mg:Θ3)(nm:Str)(ps:Δ2)(st:Stmt)(f:Addr)(fd:FuncData):Prop where
 F:cR K nm nm st f fd
 mg:mg nm=some (.ref f)
 kp:PySem.W.keepIn K (.ref f)=true
 bd:Binds K fd ps []
section
variable {mg:Θ3}
def Fg.c (a:Fg K mg nm ps st f fd)(l:PySem.W.OpenLaw)(w:World)(base:Heap)(o:aI l.prog w K mg base cf k f fd ps sp):bS K mg l.prog w base nm k ps sp f fd:=⟨o,a.mg,a.kp,a.bd⟩
def Fg.of (X:K.In hh)(G:hh.Ns mainGlobals mg)(a:c6 K nm st f)(hb:∀(kV gE pm:Value) (an:Option Addr) (bH ct:Value) (us:Δ3),us.length=ps.length->bindArgs (PySem.W.fnOf nm nm (vO st) (sV st) (bF st) .none kV gE pm an bH ct) ⟨us,[]⟩=pure (ps.zip us)):∃fd,Fg K mg nm ps st f fd:=by
 let⟨_,_,_,_,_,_,_,_,_,a,l,c,k⟩:=a;exact⟨_,wZ l c k,PySem.W.mg_of X G a,k,(wZ l c k).binds hb⟩
def tE (ps:Δ2)(X:K.In hh)(G:hh.Ns mainGlobals mg)(a:c6 K nm st f)(hb:∀(kV gE pm:Value) (an:Option Addr) (bH ct a:Value),bindArgs (PySem.W.fnOf nm nm (vO st) (sV st) (bF st) .none kV gE pm an bH ct) ⟨[a],[]⟩=pure (ps.zip [a]):=by intros;rfl)(hl:ps.length=1:=by rfl):∃fd,Fg K mg nm ps st f fd:=Fg.of X G a λkV gE pm an bH ct us hu=>el1 (P:=λus=>bindArgs (PySem.W.fnOf nm nm (vO st) (sV st) (bF st) .none kV gE pm an bH ct) ⟨us,[]⟩=pure (ps.zip us)) (hb kV gE pm an bH ct) us (hu.trans hl)
def iz (ps:Δ2)(X:K.In hh)(G:hh.Ns mainGlobals mg)(a:c6 K nm st f)(hb:∀(kV gE pm:Value) (an:Option Addr) (bH ct a b:Value),bindArgs (PySem.W.fnOf nm nm (vO st) (sV st) (bF st) .none kV gE pm an bH ct) ⟨[a,b],[]⟩=pure (ps.zip [a,b]):=by intros;rfl)(hl:ps.length=2:=by rfl):∃fd,Fg K mg nm ps st f fd:=Fg.of X G a λkV gE pm an bH ct us hu=>el2 (P:=λus=>bindArgs (PySem.W.fnOf nm nm (vO st) (sV st) (bF st) .none kV gE pm an bH ct) ⟨us,[]⟩=pure (ps.zip us)) (hb kV gE pm an bH ct) us (hu.trans hl)
def S4 (ps:Δ2)(X:K.In hh)(G:hh.Ns mainGlobals mg)(a:c6 K nm st f)(hb:∀(kV gE pm:Value) (an:Option Addr) (bH ct a b c:Value),bindArgs (PySem.W.fnOf nm nm (vO st) (sV st) (bF st) .none kV gE pm an bH ct) ⟨[a,b,c],[]⟩=pure (ps.zip [a,b,c]):=by intros;rfl)(hl:ps.length=3:=by rfl):∃fd,Fg K mg nm ps st f fd:=Fg.of X G a λkV gE pm an bH ct us hu=>el3 (P:=λus=>bindArgs (PySem.W.fnOf nm nm (vO st) (sV st) (bF st) .none kV gE pm an bH ct) ⟨us,[]⟩=pure (ps.zip us)) (hb kV gE pm an bH ct) us (hu.trans hl)
def WY (ps:Δ2)(X:K.In hh)(G:hh.Ns mainGlobals mg)(a:c6 K nm st f)(hb:∀(kV gE pm:Value) (an:Option Addr) (bH ct a b c d:Value),bindArgs (PySem.W.fnOf nm nm (vO st) (sV st) (bF st) .none kV gE pm an bH ct) ⟨[a,b,c,d],[]⟩=pure (ps.zip [a,b,c,d]):=by intros;rfl)(hl:ps.length=4:=by rfl):∃fd,Fg K mg nm ps st f fd:=Fg.of X G a λkV gE pm an bH ct us hu=>el4 (P:=λus=>bindArgs (PySem.W.fnOf nm nm (vO st) (sV st) (bF st) .none kV gE pm an bH ct) ⟨us,[]⟩=pure (ps.zip us)) (hb kV gE pm an bH ct) us (hu.trans hl)
end
end MI
namespace CV
open L2 KG EX KM MI
def all_mk {l:PySem.W.OpenLaw}{w:World}{K:Θ1}{h:Heap}{mg:Θ3}{fa:Addr}(X:K.In h)(G:h.Ns mainGlobals mg)(hfa:mg "law"=some (.ref fa))(tr:l.prog.given.tree=none)
  {f0 f1 f2 f3 f4 f5 f6 f7 f8 f9 f10 f11 f12 f13 f14 f15 f16 f17 f18 f19 f20 f21 f22 f23 f24 f25 f26 f27 f28 f29 f30 f31 f32 f33 f34 f35 f36 f37 f38 f39 f40 f41 f42 f43 f44 f45 f46 f47 f48 f49 f50 f51 f52 f53 f54 f55 f56 f57 f58 f59 f60 f61 M Nn Pr De Un:Addr}
  (a0:c6 K "is_whole" (top 7) f0)
  (a1:c6 K "is_fraction" (top 8) f1)
  (a2:c6 K "common_divisor" (top 9) f2)
  (a3:c6 K "fraction" (top 10) f3)
  (a4:c6 K "plus" (top 11) f4)
  (a5:c6 K "times" (top 12) f5)
  (a6:c6 K "over" (top 13) f6)
  (a7:c6 K "less" (top 14) f7)
  (a8:c6 K "total" (top 15) f8)
  (a9:c6 K "least" (top 16) f9)
  (a10:c6 K "greatest" (top 17) f10)
  (Tc:c6 K "on_one_bottom" (top 18) f11)
  (a12:c6 K "worth_of" (top 20) f12)
  (a13:c6 K "worths_of" (top 21) f13)
  (a14:c6 K "wished" (top 23) f14)
  (a15:c6 K "wishless" (top 24) f15)
  (a16:c6 K "are_prices" (top 26) f16)
  (a17:c6 K "need_prices" (top 27) f17)
  (a18:c6 K "money_by_good" (top 28) f18)
  (a19:c6 K "best_goods" (top 29) f19)
  (a20:c6 K "best_by_wishes" (top 30) f20)
  (a21:c6 K "rate" (top 31) f21)
  (a22:c6 K "takers_by_best" (top 32) f22)
  (a23:c6 K "all_sets" (top 34) f23)
  (a24:c6 K "in_coins" (top 35) f24)
  (a25:c6 K "coins_of" (top 36) f25)
  (a26:c6 K "goods_above" (top 37) f26)
  (a27:c6 K "paid_goods" (top 38) f27)
  (a28:c6 K "rise" (top 40) f28)
  (a29:c6 K "loosened" (top 41) f29)
  (a30:c6 K "paying_factors" (top 42) f30)
  (a31:c6 K "meeting_factors" (top 43) f31)
  (a32:c6 K "raised" (top 44) f32)
  (a33:c6 K "first_prices" (top 45) f33)
  (a34:c6 K "greatest_share" (top 46) f34)
  (a35:c6 K "rises" (top 47) f35)
  (a36:c6 K "prices_behind" (top 48) f36)
  (a37:c6 K "clear" (top 50) f37)
  (a38:c6 K "prices_that_clear" (top 51) f38)
  (a39:c6 K "dealing_at" (top 52) f39)
  (a40:c6 K "dealing_by" (top 53) f40)
  (a41:c6 K "pieces_for" (top 54) f41)
  (a42:c6 K "spend" (top 55) f42)
  (a43:c6 K "way_to_unsold" (top 56) f43)
  (a44:c6 K "most_along" (top 57) f44)
  (a45:c6 K "send_along" (top 58) f45)
  (a46:c6 K "worths" (top 59) f46)
  (a47:c6 K "_law_bag" (top 61) f47)
  (a48:c6 K "_law_take" (top 62) f48)
  (a49:c6 K "_law_frac" (top 63) f49)
  (a50:c6 K "_law_add" (top 64) f50)
  (Ω:c6 K "_law_mul" (top 66) f51)
  (Ψ:c6 K "_law_div" (top 67) f52)
  (Φ:c6 K "_law_less" (top 68) f53)
  (Ξ:c6 K "_law_sum" (top 69) f54)
  (Λ:c6 K "_law_is_fraction" (top 70) f55)
  (Θ:c6 K "_law_purse" (top 71) f56)
  (Δ:c6 K "_law_wishes" (top 72) f57)
  (Γ:c6 K "_law_market" (top 73) f58)
  (ω:c6 K "_law_best" (top 75) f59)
  (ψ:c6 K "_law_worth" (top 76) f60)
  (Ta:c6 K "law" (top 77) f61)
  (z0:PySem.W.nsIn K mainGlobals "len"=some none)
  (z1:PySem.W.nsIn K mainGlobals "range"=some none)
  (z2:PySem.W.nsIn K mainGlobals "tuple"=some none)
  (z3:PySem.W.nsIn K mainGlobals "list"=some none)
  (z4:PySem.W.nsIn K mainGlobals "all"=some none)
  (z5:PySem.W.nsIn K mainGlobals "any"=some none)
  (z6:PySem.W.nsIn K mainGlobals "max"=some none)
  (z7:PySem.W.nsIn K mainGlobals "min"=some none)
  (z8:PySem.W.nsIn K mainGlobals "sum"=some none)
  (z9:PySem.W.nsIn K mainGlobals "abs"=some none)
  (Mh:PySem.W.nsIn K mainGlobals "int"=some none)
  (Mg:PySem.W.nsIn K mainGlobals "isinstance"=some none)
  (Mc:PySem.W.nsIn K mainGlobals "bool"=some none)
  (L9:PySem.W.nsIn K mainGlobals "enumerate"=some none)
  (XH:PySem.W.nsIn K mainGlobals "ValueError"=some none)
  (Ng:PySem.W.nsIn K mainGlobals "zip"=some none)
  (gM:PySem.W.nsIn K mainGlobals "MartError"=some (some (.ref M)))
  (ν:PySem.W.nsIn K mainGlobals "NoNumber"=some (some (.ref Nn)))
  (ι:PySem.W.nsIn K mainGlobals "NoPrices"=some (some (.ref Pr)))
  (ξ:PySem.W.nsIn K mainGlobals "Dear"=some (some (.ref De)))
  (θ:PySem.W.nsIn K mainGlobals "Unwished"=some (some (.ref Un)))
  (ti1:PySem.W.kitOne K (.type "NoneType") (.type "int")=some false)
  (ti2:PySem.W.kitOne K (.type "bool") (.type "int")=some true)
  (XX:PySem.W.kitOne K (.type "int") (.type "int")=some true)
  (XW:PySem.W.kitOne K (.type "str") (.type "int")=some false)
  (XV:PySem.W.kitOne K (.type "list") (.type "int")=some false)
  (XU:PySem.W.kitOne K (.type "tuple") (.type "int")=some false)
  (YD:PySem.W.kitOne K (.type "NoneType") (.type "bool")=some false)
  (YC:PySem.W.kitOne K (.type "bool") (.type "bool")=some true)
  (YB:PySem.W.kitOne K (.type "int") (.type "bool")=some false)
  (YA:PySem.W.kitOne K (.type "str") (.type "bool")=some false)
  (XZ:PySem.W.kitOne K (.type "list") (.type "bool")=some false)
  (XY:PySem.W.kitOne K (.type "tuple") (.type "bool")=some false)
  (Ct:PySem.W.kitOne K (.type "NoneType") (.type "tuple")=some false)
  (Cb:PySem.W.kitOne K (.type "bool") (.type "tuple")=some false)
  (XO:PySem.W.kitOne K (.type "int") (.type "tuple")=some false)
  (XN:PySem.W.kitOne K (.type "str") (.type "tuple")=some false)
  (XM:PySem.W.kitOne K (.type "list") (.type "tuple")=some false)
  (XJ:PySem.W.kitOne K (.type "tuple") (.type "tuple")=some true)
  (NW:PySem.W.excIn K Nn [.type "ValueError",.type "Exception",.type "BaseException",.type "object"] "ValueError.__new__"=true)
  (NV:PySem.W.excIn K Pr [.type "ValueError",.type "Exception",.type "BaseException",.type "object"] "ValueError.__new__"=true)
  (NX:PySem.W.excIn K De [.type "ValueError",.type "Exception",.type "BaseException",.type "object"] "ValueError.__new__"=true)
  (NU:PySem.W.excIn K Un [.type "ValueError",.type "Exception",.type "BaseException",.type "object"] "ValueError.__new__"=true) :
  ∃fd:FuncData,(∀(s:Shared) (v:Value),BindsTo s fd ⟨[v],[]⟩ [("script",v)])/\∀base:Heap,K.In base->base.Ns mainGlobals mg->aI l.prog w K mg base cf 14 fa fd ["script"] (ym K):=by
 let⟨_,F0⟩:=tE ["thing"] X G a0;let⟨_,F1⟩:=tE ["thing"] X G a1;let⟨_,F2⟩:=iz ["one","other"] X G a2;let⟨_,F3⟩:=iz ["top","bottom"] X G a3;let⟨_,F4⟩:=iz ["one","other"] X G a4;let⟨_,F5⟩:=iz ["one","other"] X G a5;let⟨_,F6⟩:=iz ["one","other"] X G a6;let⟨_,F7⟩:=iz ["one","other"] X G a7;let⟨_,F8⟩:=tE ["parts"] X G a8;let⟨_,F9⟩:=tE ["parts"] X G a9;let⟨_,F10⟩:=tE ["parts"] X G a10;let⟨_,F11⟩:=tE ["parts"] X G Tc;let⟨_,F12⟩:=iz ["wishes","got"] X G a12;let⟨_,F13⟩:=iz ["market","dealing"] X G a13;let⟨_,XG⟩:=tE ["market"] X G a14;let⟨_,F15⟩:=tE ["market"] X G a15;let⟨_,F16⟩:=iz ["market","thing"] X G a16;let⟨_,F17⟩:=iz ["market","thing"] X G a17;let⟨_,F18⟩:=iz Ψ8 X G a18;let⟨_,F19⟩:=iz Ψ8 X G a19;let⟨_,F20⟩:=iz ["row","prices"] X G a20;let⟨_,F21⟩:=iz ["wish","price"] X G a21;let⟨_,XF⟩:=iz ["best","goods"] X G a22;let⟨_,XE⟩:=tE ["members"] X G a23;let⟨_,XD⟩:=iz Ψ8 X G a24;let⟨_,XC⟩:=iz ["coins","some"] X G a25;let⟨_,F26⟩:=iz Ψ8 X G a26;let⟨_,F27⟩:=iz Ψ8 X G a27;let⟨_,F28⟩:=iz Ψ8 X G a28;let⟨_,F29⟩:=iz ["best","paid"] X G a29;let⟨_,F30⟩:=WY ["market","prices","loose","rising"] X G a30;let⟨_,F31⟩:=WY ["market","prices","loose","paid"] X G a31;let⟨_,F32⟩:=S4 ["prices","rising","factor"] X G a32;let⟨_,F33⟩:=tE ["market"] X G a33;let⟨_,F34⟩:=iz ["wishes","good"] X G a34;let⟨_,F35⟩:=iz Ψ8 X G a35;let⟨_,F36⟩:=iz ["prices","told"] X G a36;let⟨_,F37⟩:=tE ["market"] X G a37;let⟨_,F38⟩:=tE ["market"] X G a38;let⟨_,F39⟩:=iz Ψ8 X G a39;let⟨_,F40⟩:=S4 ["market","money","spent"] X G a40;let⟨_,F41⟩:=S4 ["coins","money","amount"] X G a41;let⟨_,F42⟩:=S4 ["best","money","purses"] X G a42;let⟨_,F43⟩:=WY ["best","spent","unsold","buyer"] X G a43;let⟨_,F44⟩:=WY ["way","spent","unsold","left"] X G a44;let⟨_,F45⟩:=S4 ["way","spent","coins"] X G a45;let⟨_,F46⟩:=tE ["market"] X G a46;let⟨_,F47⟩:=iz ["script","k"] X G a47;let⟨_,F48⟩:=iz ["bag","many"] X G a48;let⟨_,XB⟩:=iz ["top","bottom"] X G a49;let⟨_,F50⟩:=iz ["one","other"] X G a50;let⟨_,F51⟩:=iz ["one","other"] X G Ω;let⟨_,F52⟩:=iz ["one","other"] X G Ψ;let⟨_,F53⟩:=iz ["one","other"] X G Φ;let⟨_,F54⟩:=tE ["some"] X G Ξ;let⟨_,F55⟩:=tE ["thing"] X G Λ;let⟨_,F56⟩:=tE ["bag"] X G Θ;let⟨_,F57⟩:=iz ["bag","goods"] X G Δ;let⟨_,F58⟩:=tE ["bag"] X G Γ;let⟨_,F59⟩:=iz Ψ8 X G ω;let⟨_,F60⟩:=iz ["wishes","row"] X G ψ;let⟨ajE,ajD,abz,abX,abm,ab7,ab2,abY,ajB,Ta,l61,c61,k61⟩:=Ta;let e:=hfa.symm.trans (PySem.W.mg_of X G Ta);cases e;let N:Nm mg:=⟨Yt X G z0,Yt X G z1,Yt X G z2,Yt X G z3,Yt X G z4,Yt X G z5,Yt X G z6,Yt X G z7,Yt X G z8,Yt X G z9,Yt X G Mh,Yt X G Mg,Yt X G Mc,Yt X G L9,Yt X G XH⟩;let HG:=Yt X G Ng;let Z:Cr K:=⟨ti1,ti2,XX,XW,XV,XU,YD,YC,YB,YA,XZ,XY,Ct,Cb,XO,XN,XM,XJ⟩;let mgM:=PySem.W.mg_of X G gM;let T0:=PySem.W.mg_of X G ν;let abr:=PySem.W.mg_of X G ι;let abt:=PySem.W.mg_of X G ξ;let abq:=PySem.W.mg_of X G θ;let F61:=wZ (st:=top 77) l61 c61 k61;apply⟨PySem.W.fnOf "law" "law" (vO (top 77)) (sV (top 77)) (bF (top 77)) .none abz abX abm ab7 ab2 abY,λs v=>.of_eq rfl,λbase _ _=>?_⟩;let W:=F0.c l w base (Fw F0.F N Z);let Gc:=F2.c l w base (PH F2.F N);let Gn:=F2.c l w base (JQ F2.F N);let IF:=F1.c l w base (By F1.F N Z W Gc);let Fr:=F3.c l w base (ve tr F3.F T0 NW Gn);let Pl:=F4.c l w base (JF F4.F Fr);let Ti:=F5.c l w base (Fx F5.F Fr);let Ov:=F6.c l w base (JH F6.F Fr);let Ls:=F7.c l w base (JN F7.F);let Gr:=F10.c l w base (vd F10.F Ls);let Ra:=F21.c l w base (JD F21.F Ov);let Wi:=XG.c l w base (Jx (Eh XG.F N));let Ar:=F16.c l w base (PN F16.F N Z IF Wi);let Ne:=F17.c l w base (JJ F17.F abr NV Ar);let Bb:=F20.c l w base (VJ F20.F N Ra Gr);let Be:=F19.c l w base (VI F19.F N Ne Bb);let Tb:=XF.c l w base (Pn (Ei XF.F N));let WiM:=XG.c l w base (Eh XG.F N);let TbM:=XF.c l w base (Ei XF.F N);let AsM:=XE.c l w base (zB XE.F N);let CoM:=XC.c l w base (uI XC.F N);let MbM:=F18.c l w base (JL F18.F N HG Ti);let OOM:=F11.c l w base (JI tr F11.F N Gn);let ICM:=XD.c l w base (zA XD.F N OOM MbM);let As:=XE.c l w base (Jy (zB XE.F N));let IC:=XD.c l w base (Po (zA XD.F N OOM MbM));let Co:=XC.c l w base (Pp (uI XC.F N));let GA:=F26.c l w base (VG F26.F Be IC Co Tb As Wi);let PG:=F27.c l w base (VE F27.F N abt NX GA);let LoM:=F29.c l w base (JM F29.F N);let RsM:=F32.c l w base (JE F32.F N Ti);let LeM:=F9.c l w base (FC F9.F N Ls);let PfM:=F30.c l w base (JG F30.F N ICM Fr CoM TbM AsM);let MfM:=F31.c l w base (FA F31.F N HG Ov Ra);let Ri:=F28.c l w base (JC F28.F N PG WiM Be LoM PfM MfM LeM RsM);let Wl:=F15.c l w base (VD F15.F N);let Le:=F9.c l w base (JO F9.F Ls);let GS:=F34.c l w base (VF F34.F N Fr Gr);let FP:=F33.c l w base (VH F33.F N abq NU Wi Wl Le Ov Ti GS);let ToP:=F8.c l w base (Jz F8.F N Pl);let WoP:=F12.c l w base (Pt F12.F N HG ToP Ti);let WsP:=F13.c l w base (Ps F13.F N HG WoP);let PfP:=F41.c l w base (Py F41.F N Fr);let DbP:=F40.c l w base (PJ F40.F N PfP);let Wy:=F43.c l w base (Pw F43.F N);let Mst:=F44.c l w base (JK F44.F N);let Snd:=F45.c l w base (JB F45.F N);let Spd:=F42.c l w base (Fy F42.F N Wy Mst Snd);let Dat:=F39.c l w base (PK F39.F N ICM Be Spd DbP);let Ris:=F35.c l w base (Fz F35.F N Ri);let Pbh:=F36.c l w base (Pz F36.F N);let Ptc:=F38.c l w base (Px F38.F N FP Ris Pbh);let Clr:=F37.c l w base (FD F37.F N Ptc Dat);let Wts:=F46.c l w base (Bu F46.F N WsP Clr);let Bg:=F47.c l w base (PM F47.F N);let T:=F48.c l w base (JA F48.F);let W8:=XB.c l w base (Lp tr XB.F N);let Lf:=XB.c l w base (Fv (Lp tr XB.F N));let Lu:=F56.c l w base (Bx F56.F T Lf);let Lw:=F57.c l w base (Bv F57.F N T);let MkL:=F58.c l w base (Bw F58.F N T Lu Lw);let LmQ:=F51.c l w base (xz F51.F W8);let La:=F50.c l w base (xB F50.F W8);let Ld:=F52.c l w base (xA F52.F W8);let Ll:=F53.c l w base (vc F53.F);let LB:=F59.c l w base (PL F59.F N);let Sm:=F54.c l w base (PD F54.F N La);let Lwo:=F60.c l w base (PB F60.F N Sm LmQ);let Isq:=F55.c l w base (PF F55.F N Z W8);exact QB (JP F61 N Z Bg MkL Clr Wts LB Sm LmQ Ld Ll Lwo Isq)
def walk {l:PySem.W.OpenLaw}{q:Program}{loose:Δ2}{XP:(Θ3)->Heap->Prop}{YP:World->Heap->Prop}{d:DefRec}{K:Params->Θ1}(qP:PyProof.Rows.importsNone q=true)(hn:l.most=some 63)(SU:d.params.defaults=[])
  (hY:∀(w:World) (h:Heap),YP w h->(K w.params).In h)
  (F:∀(w:World) (mg:Θ3) (fa:Addr) (h:Heap),(K w.params).In h->h.Ns mainGlobals mg->mg d.name=some (.ref fa) ->
   ∃fd:FuncData,(∀(s:Shared) (u:Value),BindsTo s fd ⟨[u],[]⟩ [("script",u)])/\∀base:Heap,(K w.params).In base->base.Ns mainGlobals mg->aI l.prog w (K w.params) mg base cf 14 fa fd ["script"] (ym (K w.params))) :
  PySem.W.WalkO q loose XP YP l.row.toRowW d [] (λf vs=>PySem.call f vs) :=
 L2.Is (n:=63) (k:=14) (x:="script") (CX:=λ_=>cf) (sp:=λw=>ym (K w.params)) qP hn ∅ SU ⟨(),∅,∅⟩ hY F (λ_ _ a ns hl _ hS=>⟨a,ns,(),hS,hl,λ_=>rfl⟩) λ_ _ _ _ _ z=>z
end CV
end
end
open PySem PySem.W PyProof.Rows
namespace PySem.W.Fast
def tw17346600752460361000:=0
def tw10236651751359080192:=0
def tw9517163370735919052:=0
def tw10824456886415126273:=0
def tw17484142964647776645:=0
def tw17679580314923606626:=0
def tw17420861896743178522:=0
def tw7925489013815381907:=0
def tw2973226958372314185:=0
def tw16140890887753459836:=0
def tw15780976304866129813:=0
def tw13255542171127956660:=0
def tw8310525004607175359:=0
def tw11271774492895863473:=0
def tw13288347955953435797:=0
def tw9716428416626625001:=0
def tw13120669753229376476:=0
def tw10345435733645396107:=0
def tw2207683587046606862:=0
def tw4760821328067217992:=0
def tw3384545068988579951:=0
def tw10390236104623846349:=0
def tw4152179376741790128:=0
def tw17768828850519864310:=0
def tw1202442959905354970:=0
def tw18131342370669289453:=0
def tw3354536124085926850:=0
def tw8827385824935685400:=0
def tw8654454962882257808:=0
def tw6859233926688888473:=0
def tw17794947911722770942:=0
def tw2216608358915276152:=0
def tw12406832894119692092:=0
def tw10052126993347224078:=0
def tw6349365150433607896:=0
def tw16209182131836391348:=0
def tw6119588393299606022:=0
def tw13063273789512231460:=0
def tw7640507652077928085:=0
def tw16971357639916612235:=0
def tw4410668655795223371:=0
def tw710171019800233923:=0
def tw6579532048841395436:=0
def tw1060374523229193198:=0
def tw10980828935097774741:=0
def tw10626308507283631235:=0
def tw7693650851043429521:=0
def tw10307473153180662224:=0
def tw11897638639360874176:=0
def tw15364535052734389204:=0
def tw6316485484564365469:=0
def tw17344048723911217282:=0
def tw15523837255718435194:=0
def tw11773538658335114459:=0
def tw13798868921603510532:=0
def tw8350547804945444204:=0
def tw691982385182080695:=0
def tw6620725640099573239:=0
def tw12236412162491834687:=0
def tw6159109802748624625:=0
def tw7356309421707221108:=0
def tw14544041586616361955:=0
def tw16992714329207185854:=0
def tw11158685473467527101:=0
def tw14009051623153431546:=0
def tw11690276291647549843:=0
def tw1825402464825730723:=0
def tw3283272018307988242:=0
def tw1044206968530125806:=0
def tw1211408167820047547:=0
def tw8844666253824545633:=0
def tw17371765205903135657:=0
def tw15068454376841115219:=0
def tw4303261930033155568:=0
def tw9632152897667913197:=0
def tw17622956689914531436:=0
def tw11185976069931402676:=0
def tw13122287784318320668:=0
def tw12357240220583833870:=0
def tw4427149300565628821:=0
def tw16225297118412368446:=0
def tw6504626667870673116:=0
def tw6920229438077997240:=0
def tw1432878141032055714:=0
def tw16804200392154246697:=0
def tw4098081861719736605:=0
def tw1132329974262690942:=0
def tw6900336974467979351:=0
def tw12383987261296753020:=0
def tw7063264669109979294:=0
def tw14805151795668942525:=0
def tw8890701752437451918:=0
def tw5266728285136801157:=0
def tw4840945015326916517:=0
def tw2773065681849904236:=0
def tw12707217870303175516:=0
def tw16970363856518821539:=0
def tw1155585077965154829:=0
def tw1965677603781407591:=0
def tw10887506703996156652:=0
def tw6370879998873343702:=0
def tw17252343770732920158:=0
def tw2958677104289249208:=0
def tw9909425511579416092:=0
def tw17002413973498291747:=0
def tw1940643117546685824:=0
def tw16319649936256308713:=0
def tw11471596817390387236:=0
def tw15489378863038962780:=0
def tw10009721467996298661:=0
def tw9085839805808920464:=0
def tw9227717112801500491:=0
def tw1171582924373575143:=0
def tw7292611922295158015:=0
def tw7927877788284212388:=0
def tw3731134911972532337:=0
def tw5058357355576074563:=0
def tw15909114512453563209:=0
def tw15027905791208113455:=0
def tw13220954046830555884:=0
def tw5847343401746220366:=0
def tw11755244802486202012:=0
def tw9053883851558567997:=0
def tw3665814681430179573:=0
def tw15755253047533838231:=0
def tw163288284107331294:=0
def tw6015827691191814347:=0
def tw15907178804694431183:=0
def tw309645037879282596:=0
def tw16596532009165154412:=0
def tw16238069929873933263:=0
def tw5221635336625224955:=0
def tw4036383622602958796:=0
def tw940293719155593314:=0
def tw18140753930955876817:=0
def tw7231829211300901133:=0
def tw2593194066739503405:=0
def tw8804840200116964425:=0
def tw10107656372740670971:=0
def tw4741539759912661375:=0
def tw1685578021187685807:=0
def tw2657611575487638488:=0
def tw10749899056673289450:=0
def tw13650131698921599535:=0
def tw13450045967275299711:=0
def tw3561322588993352872:=0
def tw12488343310476060006:=0
def tw16679442550944277269:=0
def tw1334663695120219570:=0
def tw11278153465466509724:=0
def tw4574335673911757102:=0
def tw18373016047112099866:=0
def tw13460338192266208294:=0
def tw12915057864059550967:=0
def tw15442985442429166842:=0
def tw5790667090460170749:=0
def tw3571798947549902036:=0
def tw5758240418330573386:=0
def tw16776131717410719336:=0
def tw18272515475460385604:=0
def tw1231648221197097654:=0
def tw13480783701696690992:=0
def tw5790508324149025990:=0
def tw3776032752567611529:=0
def tw16870123045473888995:=0
def tw18275905789533869987:=0
def tw9908249158174109308:=0
def tw7203424632310201788:=0
def tw470967800089057252:=0
def tw934878023134018462:=0
def tw2849934927357975057:=0
def tw16137822498413156661:=0
def tw14100182766158165948:=0
def tw8993323828405224225:=0
def tw2772175231664559417:=0
def tw4220351161824229861:=0
def tw3453826739675087955:=0
def tw3858823955492612560:=0
def tw9634537988395637474:=0
end PySem.W.Fast
set_option maxRecDepth 100000 in
set_option maxHeartbeats 0 in
theorem PySem.Challenge.cw_wishmart_k19_worths_told_holds : PySem.Challenge.rw_wishmart_k19_worths_told.Holds := by
 w_on;o_law;k_head;(case hw=>w_witness2)
 k_fill
 refine CV.walk (l:=PySem.Challenge.rw_wishmart_k19_worths_told) ?I rfl rfl (λw h Y=>PySem.W.kIn_of Y) ?F
 case I=>first |rfl |decide+kernel
 case F =>
  intro w mg fa h KX G SJ;refine' CV.all_mk KX G SJ rfl ?a0 ?a1 ?a2 ?a3 ?a4 ?a5 ?a6 ?a7 ?a8 ?a9 ?a10 ?Tc ?a12 ?a13 ?a14 ?a15 ?a16 ?a17 ?a18 ?a19 ?a20 ?a21 ?a22 ?a23 ?a24 ?a25 ?a26 ?a27 ?a28 ?a29 ?a30 ?a31 ?a32 ?a33 ?a34 ?a35 ?a36 ?a37 ?a38 ?a39 ?a40 ?a41 ?a42 ?a43 ?a44 ?a45 ?a46 ?a47 ?a48 ?a49 ?a50 ?Ω ?Ψ ?Φ ?Ξ ?Λ ?Θ ?Δ ?Γ ?ω ?ψ ?Ta ?z0 ?z1 ?z2 ?z3 ?z4 ?z5 ?z6 ?z7 ?z8 ?z9 ?Mh ?Mg ?Mc ?L9 ?XH ?Ng ?gM ?ν ?ι ?ξ ?θ ?ti1 ?ti2 ?XX ?XW ?XV ?XU ?YD ?YC ?YB ?YA ?XZ ?XY ?Ct ?Cb ?XO ?XN ?XM ?XJ ?NW ?NV ?NX ?NU
  (case a0 |a1 |a2 |a3 |a4 |a5 |a6 |a7 |a8 |a9 |a10 |Tc |a12 |a13 |a14 |a15 |a16 |a17 |a18 |a19 |a20 |a21 |a22 |a23 |a24 |a25 |a26 |a27 |a28 |a29 |a30 |a31 |a32 |a33 |a34 |a35 |a36 |a37 |a38 |a39 |a40 |a41 |a42 |a43 |a44 |a45 |a46 |a47 |a48 |a49 |a50 | Ω | Ψ | Φ | Ξ | Λ | Θ | Δ | Γ | ω | ψ |Ta=>exact⟨_,_,_,_,_,_,_,_,_,by k_is,by k_is,by k_is,by k_is⟩)
  (case z0 |z1 |z2 |z3 |z4 |z5 |z6 |z7 |z8 |z9 |Mh |Mg |Mc |L9 |XH |Ng |gM | ν | ι | ξ | θ=>k_is)
  (case ti1 |ti2 |XX |XW |XV |XU |YD |YC |YB |YA |XZ |XY |Ct |Cb |XO |XN |XM |XJ=>first |rfl |kit_is |k_is)
  (case NW |NV |NX |NU=>first |k_is |kit_is |rfl |kernel_rfl |decide+kernel)
