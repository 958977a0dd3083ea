import PyProof.Rows.All
import Wide.All
import OpenK.AllK
import Wide.FinOn
import Lean
import PyProof.EqAt
import PyProof.EqKinds
import PyProof.TupleCall
import KE.KMinKey
import PyProof.Rows.CallKwBuiltin
import PyProof.ListRange
import PyProof.Rows.SortWalk
import PySem.Challenge.RW_wishmart_k36_whole_growing_purses
set_option Elab.async false
set_option linter.all false
set_option maxRecDepth 100000
set_option maxHeartbeats 8000000
abbrev aaa:=@Option.some.inj
abbrev aba:=@PySem.wpAny_pure
abbrev aea:=@decide_eq_true
abbrev afa:=@absurd
abbrev aga:=@if_neg
abbrev aha:=@if_pos
abbrev aia:=@of_decide_eq_true
abbrev aja:=@decide_eq_false
abbrev aka:=@PySem.wpAny_newObj_type
abbrev ama:=@PySem.PassesOwn.never
abbrev ana:=@PySem.wpAny_mono
abbrev aoa:=@PySem.wpAny_call_entry
abbrev apa:=@PySem.wpAny_holding
abbrev aqa:=@PySem.wpAny_field
abbrev ara:=@PySem.wpAny_truthy_bool
abbrev asa:=@of_decide_eq_false
abbrev ata:=@congrArg
open Lean in
def cvP:Nat->Syntax->MacroM (TSyntax `rcasesPat)
 |0,_=>Macro.throwUnsupported
 |n+1,s=>match s with
  | `(⟨$a,*⟩)=>do
   let b<-a.getElems.mapM fun x=>do `(Lean.Parser.Tactic.rcasesPatLo| $(<-cvP n x):rcasesPat)
   `(rcasesPat| ⟨$b,*⟩)
  | `(_)=>`(rcasesPat| _)
  | _=>if s.isIdent then `(rcasesPat| $(⟨s⟩):ident) else Macro.throwUnsupported
section
open PySem
local macro_rules
 | `(tactic| let $p:term := $e)=>do match p with
  | `(⟨$_,*⟩)=>`(tactic| obtain $(<-cvP 99 p):rcasesPat := $e)
  | _=>Lean.Macro.throwUnsupported
local macro_rules | `(tactic| let $i:ident := $e)=>`(tactic| have $i:ident := $e)
local macro_rules | `(tactic| let $i:ident : $t := $e)=>`(tactic| have $i:ident : $t := $e)
local macro_rules | `(tactic| apply $e)=>`(tactic| refine $e)
local macro_rules | `(())=>`(rfl)
local macro_rules | `(⋯)=>`(by omega)
local macro_rules | `(∅)=>`(by decide)
local macro_rules | `(↥$x)=>`(($x).length)
local macro_rules | `(⇑$x)=>`(($x).heap.objs.size)
local macro_rules | `($a \ $b)=>`(($a).getD $b 0)
local macro_rules | `($a ∩ $b)=>`(($a).getD $b [])
local macro_rules | `(↑$x)=>`(some $x)
local macro_rules | `($x ∪ $e)=>`(wpAny (model ($x).prog ($x).w) ($x).A $e)
local macro_rules | `($x ∪ $f $a*)=>`(wpAny (model ($x).prog ($x).w) ($x).A $f $a*)
local macro_rules | `(~~~$x)=>`(List.range $x)
local macro_rules | `($p⁻¹)=>`({ nx:=fun _ x=>$p (.im .none) x,rt:=$p })
local macro_rules
 | `(‹$e›)=>do match e with
  | `(_)=>Lean.Macro.throwUnsupported
  | _=>`(by simpa using $e)
set_option compiler.extract_closed false
noncomputable section
abbrev Γ1:=List (List Int)
abbrev Γ2:=List (PySem.Addr×PySem.Obj)
abbrev Γ3:=List Int
abbrev Δ1:=List Rat
abbrev Δ2:=List PySem.Str
abbrev Δ3:=List PySem.Value
abbrev Θ1:=PySem.W.Frag
abbrev Θ2:=PySem.Value->PySem.Shared->Prop
abbrev Θ3:=PySem.Str->Option PySem.Value
abbrev Ξ1:=List PySem.PyData
abbrev Ξ2:=List PySem.Expr
abbrev Ψ8:List PySem.Str:=["market","prices"]
theorem Ψ9(N:List PySem.Str)(h:N.Nodup:=by decide+kernel):N.Nodup:=h
abbrev Za:=@PySem.wpAny_bind
abbrev Zb:=@List.length_map
abbrev Zc:=@List.getElem?_eq_getElem
abbrev Zd:=@List.mem_map
abbrev Ze:=@List.mem_filter
abbrev Zf:=@Nat.le_refl
abbrev Zg:=@List.getElem?_eq_some_iff
abbrev Zh:=@List.mem_range
abbrev Zi:=@List.mem_cons_of_mem
abbrev Zj:=@List.mem_cons
abbrev Zk:=@List.mem_cons_self
abbrev Zl:=@Nat.le_trans
abbrev Zm:=@List.map_cons
abbrev Zn:=@PySem.Heap.get?_push_of_some
abbrev Zo:=@List.getElem?_map
abbrev Zp:=@List.map_map
abbrev Zq:=@PySem.Heap.lt_size
abbrev Zr:=@List.getElem?_append_left
abbrev Zs:=@List.map_append
abbrev Zt:=@Rat.le_of_lt
abbrev Zu:=@List.filter_sublist
abbrev Zv:=@List.length_append
abbrev Zw:=@List.getElem_mem
abbrev Zy:=@Int.toNat_natCast
abbrev Zz:=@List.mem_append
abbrev Z0:=@PySem.Heap.get?_push_size
abbrev Z1:=@List.mem_of_getElem?
abbrev Z2:=@List.size_toArray
abbrev Z3:=@List.mem_singleton
abbrev Z4:=@Bool.and_eq_true
abbrev Z5:=@Bool.false_ne_true
abbrev Z6:=@List.any_eq_true
abbrev Z7:=@List.contains_iff_mem
abbrev Z8:=@List.getElem?_set_ne
abbrev Z9:=@Nat.zero_le
abbrev Ya:=@Bool.eq_iff_iff
abbrev Yb:=@Nat.lt_or_ge
abbrev Yc:=@List.nodup_cons
abbrev Yd:=@List.all_eq_true
abbrev Ye:=@Nat.ne_of_lt
abbrev Yf:=@List.getElem_of_mem
abbrev Yg:=@Rat.le_refl
abbrev Yh:=@List.getElem?_append_right
abbrev Yi:=@List.length_set
abbrev Yj:=@PySem.boot_len
abbrev Yk:=@Nat.lt_of_lt_of_le
abbrev Yl:=@Nat.lt_irrefl
abbrev Ym:=@List.mem_append_right
abbrev Yn:=@List.append_nil
abbrev Yo:=@List.take_length
abbrev Yp:=@List.append_assoc
abbrev Yq:=@List.getElem?_set_self
abbrev Yr:=@Rat.not_lt
abbrev Ys:=@List.length_range
abbrev Yt:=@List.getElem?_range
abbrev Yu:=@List.getElem?_eq_none
abbrev Yv:=@PySem.W.mg_none_of
abbrev Yw:=@List.length_take
abbrev Yx:=@Rat.zero_add
abbrev Yy:=@Rat.le_trans
abbrev Yz:=@Rat.mul_le_mul_of_nonneg_left
abbrev Y0:=@Rat.intCast_pos
abbrev Y1:=@List.length_cons
abbrev Y2:=@List.all_map
abbrev Y3:=@List.length_filter_le
abbrev Y4:=@List.filter_congr
abbrev Y5:=@Option.map_some
abbrev Y6:=@Int.le_refl
abbrev Y7:=@PySem.Heap.size_push
abbrev Y8:=@List.mem_append_left
abbrev Y9:=@List.getElem?_replicate
abbrev Xa:=@Int.toNat_of_nonneg
abbrev Xb:=@List.range_succ
abbrev Xc:=@Nat.pow_le_pow_right
abbrev Xd:=@List.map_congr_left
abbrev Xe:=@Rat.divInt_eq_div
abbrev Xf:=@Nat.le_of_not_lt
abbrev Xg:=@List.length_pos_iff
abbrev Xh:=@Int.natAbs_mul
abbrev Xi:=@Rat.num_divInt_den
abbrev Xj:=@Rat.mul_pos
abbrev Xk:=@Bool.true_and
abbrev Xl:=@List.foldl_cons
abbrev Xm:=@Rat.zero_mul
abbrev Xn:=@Int.natAbs_natCast
abbrev Xo:=@PySem.mem_of_lookup
abbrev Xp:=@List.filter_append
abbrev Xq:=@List.filter_eq_nil_iff
abbrev Xr:=@Rat.mul_zero
abbrev Xs:=@Rat.mul_le_mul_of_nonneg_right
abbrev Xt:=@List.map_eq_nil_iff
abbrev Xu:=@Nat.mul_le_mul
abbrev Xv:=@PySem.Heap.get?_update_other
abbrev Xw:=@Nat.ne_of_gt
abbrev Xx:=@List.any_cons
abbrev Xy:=@Nat.le_succ
abbrev Xz:=@Int.mul_pos
abbrev X0:=@List.nodup_range
abbrev X1:=@List.filter_eq_self
abbrev X2:=@List.all_cons
abbrev X3:=@Option.getD_some
abbrev X4:=@Bool.or_eq_true
abbrev X5:=@Int.ne_of_gt
abbrev X6:=@List.map_id
abbrev X7:=@List.any_map
abbrev X8:=@Rat.div_def
abbrev X9:=@List.find?_cons
abbrev Qa:=@List.nodup_nil
abbrev Qb:=@Rat.add_zero
abbrev Qc:=@Rat.one_mul
abbrev Qd:=@List.nodup_append
abbrev Qe:=@Nat.sub_self
abbrev Qg:=@Option.isSome_iff_exists
abbrev Qh:=@List.length_drop
abbrev Qi:=@List.lookup_cons
abbrev Qj:=@List.mem_iff_getElem
abbrev Qk:=@Rat.le_antisymm
abbrev Ql:=@List.sum_cons
abbrev Qm:=@Bool.false_eq_true
abbrev Qn:=@List.ext_getElem?
abbrev Qo:=@Int.mul_le_mul
abbrev Qp:=@PySem.Heap.get?_update_self
abbrev Qq:=@List.length_replicate
abbrev Qr:=@List.filter_filter
abbrev Qs:=@List.filter_cons_of_neg
abbrev Qt:=@Int.emod_nonneg
abbrev Qu:=@Rat.intCast_mul
abbrev Qv:=@List.isEmpty_map
abbrev Qw:=@Rat.mul_lt_mul_of_pos_right
abbrev Qx:=@Int.fdiv_eq_ediv_of_nonneg
abbrev Qy:=@List.length_singleton
abbrev Qz:=@Int.gcd_pos_of_ne_zero_right
abbrev Q4:=@Int.gcd_dvd_right
abbrev Q5:=@Int.mul_fdiv_cancel_left
abbrev Q6:=@List.not_mem_nil
abbrev Q7:=@Bool.not_eq_true
abbrev Q8:=@Rat.add_le_add_left
abbrev Q9:=@Rat.add_le_add_right
abbrev Ja:=@List.filter_cons_of_pos
abbrev Jc:=@Int.emod_lt_of_pos
abbrev Jd:=@List.mem_flatMap
abbrev Je:=@List.filter_cons
abbrev Jf:=@List.length_eq_zero_iff
abbrev Jg:=@List.getD_eq_getElem?_getD
namespace L2
open PySem.Spec PyProof.Rows
abbrev d4:=Sum Int Str
def oj:d4->Value->Bool
 |.inl k,v=>Value.isInt k v
 |.inr x,v=>Value.isStrOf x v
def acJ (w:World):d4->Int
 |.inl k=>hashInt k
 |.inr x=>hashStr w x
theorem Hn:∀{k:d4}{v:Value},oj k v->(∃i t,k=Sum.inl i/\v=Value.int i t)\/(∃x t,k=Sum.inr x/\v=Value.str x t)
 |.inl i,v,h=>by
  let⟨t,e⟩:=Value.isInt_shape (k:=i) (v:=v) h;exact .inl ⟨i,t,(),e⟩
 |.inr x,v,h=>by
  let⟨t,e⟩:=Value.isStrOf_shape (x:=x) (v:=v) h;exact .inr ⟨x,t,(),e⟩
def Cq (i:Int)(t:Tok):oj (.inl i) (.int i t):=by simp[oj,Value.isInt]
def Cp (x:Str)(t:Tok):oj (.inr x) (.str x t):=by simp[oj,Value.isStrOf]
def RF (a b:Int):decide ((Sum.inl a:d4)=Sum.inl b)=(a == b):=by
 by_cases e:a=b
 .subst e;simp
 .let h:¬ (Sum.inl a:d4)=Sum.inl b:=λq=>e (Sum.inl.inj q)
  rw[aja h];exact(beq_eq_false_iff_ne.mpr e).symm
def RC (a b:Str):decide ((Sum.inr a:d4)=Sum.inr b)=decide (a=b):=by
 by_cases e:a=b
 .subst e;simp
 .let h:¬ (Sum.inr a:d4)=Sum.inr b:=λq=>e (Sum.inr.inj q)
  rw[aja h,aja e]
def RE (a:Int)(b:Str):decide ((Sum.inl a:d4)=Sum.inr b)=false:=aja (λq=>nomatch q)
def RD (a:Str)(b:Int):decide ((Sum.inr a:d4)=Sum.inl b)=false:=aja (λq=>nomatch q)
def mr (prog:Program)(w:World):PySem.KeyKind prog w d4 where
 is:=oj
 hash:=acJ w
 inj:=λv a b ha hb=>by
  rcases Hn ha with ⟨i,t,rfl,rfl⟩ |⟨x,t,rfl,rfl⟩
  .rcases Hn hb with ⟨j,u,rfl,e⟩ |⟨y,u,rfl,e⟩
   .injection e with e1 _;rw[e1]
   .exact nomatch e
  .rcases Hn hb with ⟨j,u,rfl,e⟩ |⟨y,u,rfl,e⟩
   .exact nomatch e
   .injection e with e1 _;rw[e1]
 byValue:=λk v h=>by
  rcases Hn h with ⟨i,t,rfl,rfl⟩ |⟨x,t,rfl,rfl⟩<;>rfl
 pyHash:=λhv h=>by
  rcases Hn hv with ⟨i,t,rfl,rfl⟩ |⟨x,t,rfl,rfl⟩
  .exact wpAny_pyHash_int h
  .exact wpAny_pyHash_str h
 eqBool:=λhu hv h=>by
  rcases Hn hu with ⟨i,t,rfl,rfl⟩ |⟨x,t,rfl,rfl⟩
  .rcases Hn hv with ⟨j,u,rfl,rfl⟩ |⟨y,u,rfl,rfl⟩
   .rw[RF] at h;exact wpAny_eqBool_int h
   .rw[RE] at h;exact SeqAt.EqAt.int_str i t y u _ _ _ _ h
  .rcases Hn hv with ⟨j,u,rfl,rfl⟩ |⟨y,u,rfl,rfl⟩
   .rw[RD] at h;exact SeqAt.EqAt.str_int x t j u _ _ _ _ h
   .rw[RC] at h;exact wpAny_eqBool_str h
 «strs»:=λk x t v h=>by
  rcases Hn h with ⟨i,u,rfl,e⟩ |⟨y,u,rfl,e⟩
  .exact nomatch e
  .injection e with e1 _
   subst e1;cases v<;>rfl
def wq (prog:Program)(w:World)(i:Int)(t:Tok):(mr prog w).is (.inl i) (.int i t):=Cq i t
def wn (prog:Program)(w:World)(x:Str)(t:Tok):(mr prog w).is (.inr x) (.str x t):=Cp x t
inductive V where
 |cj |bl (b:Bool) |int (i:Int) |str (x:Str) |Bp (b:Array UInt8) |SI (b:UInt64) |ref (a:Addr) |ty (n:String)
 deriving DecidableEq
def RelV:V->Value->Prop
 |.cj,u=>u=Value.none
 |.bl b,u=>u=Value.bool b
 |.int i,u=>∃t,u=Value.int i t
 |.str x,u=>∃t,u=Value.str x t
 |.Bp b,u=>∃t,u=Value.bytes b t
 |.SI b,u=>∃t,u=Value.float b t
 |.ref a,u=>u=Value.ref a
 |.ty n,u=>u=Value.type n
abbrev bw:List V->Δ3->Prop:=Paired RelV
def bw.length {xs:List V}{us:Δ3}(r:bw xs us):↥xs=↥us:=Paired.length r
theorem bw.get:∀{xs:List V}{us:Δ3}{i:Nat}{x:V},bw xs us->xs[i]?=↑x->∃u,us[i]?=↑u/\RelV x u
 |_,_,_,_,.nil,e=>by simp at e
 |_,_,0,_,.cons r _,e=>by simp at e;subst e;exact⟨_,(),r⟩
 |_,_,i+1,x,.cons _ t,e=>by
  let⟨u,h1,h2⟩:=bw.get (i:=i) (x:=x) t ‹e›;exact⟨u,by simpa using h1,h2⟩
theorem bw.set (r:RelV x u):∀{xs:List V}{us:Δ3}(i:Nat),bw xs us->bw (xs.set i x) (us.set i u)
 |_,_,_,.nil=>.nil
 |_,_,0,.cons _ t=>.cons r t
 |_,_,i+1,.cons q t=>.cons q (bw.set r i t)
theorem bw.append:∀{xs ys:List V}{us ws:Δ3},bw xs us->bw ys ws->bw (xs++ys) (us++ws)
 |_,_,_,_,.nil,s=>s
 |_,_,_,_,.cons r t,s=>.cons r (bw.append t s)
theorem bw.take:∀{xs:List V}{us:Δ3}(n:Nat),bw xs us->bw (xs.take n) (us.take n)
 |_,_,0,_=>.nil
 |_,_,_+1,.nil=>.nil
 |_,_,n+1,.cons r t=>.cons r (bw.take n t)
theorem bw.drop:∀{xs:List V}{us:Δ3}(n:Nat),bw xs us->bw (xs.drop n) (us.drop n)
 |_,_,0,r=>r
 |_,_,_+1,.nil=>.nil
 |_,_,n+1,.cons _ t=>bw.drop n t
def aE:Option V->Option Value->Prop
 |some v,some u=>RelV v u
 |none,none=>True
 |_,_=>False
def KV {κ : Type}:List (κ × V)->List (κ × Value)->Prop:=Paired λ(p:κ × V) (q:κ × Value)=>p.1=q.1/\RelV p.2 q.2
def kV:d4->V
 |.inl i=>.int i
 |.inr x=>.str x
inductive HO where
 |lst (xs:List V)
 |tup (xs:List V)
 |dK (kvs:List (d4×V)) |dT (kvs:List (List d4×V))
 |set (S:Int->Bool) (n:Nat)
 |ins (C dx:Addr) (fs:List (Str×V))
 |own (x:Addr)
 |xd (fs:List (Str×V))
 |met (f x:Addr)
 |T' (lo hi:Int)
 |iK (o:Obj) (u:HO)
 |Nb (ps:Array Value)
 |ext (φ : Heap->Prop)
abbrev Hp:=Addr->Option HO
def aP (H:Hp)(a:Addr)(o:HO):Hp:=λb=>if b=a then ↑o else H b
def eC:aP H a o a=↑o:=by unfold aP;rw[aha rfl]
def dE (h:b≠a):aP H a o b=H b:=by unfold aP;rw[aga h]
def uS {H:Hp}{a b:Addr}(h:H a=↑o)(h':H b=↑u)(d:o≠u):a≠b:=by
 intro e;subst e;rw[h] at h';exact d (aaa h')
def Hm {H:Hp}{a b:Addr}(h:H a=↑o)(h':H b=none):a≠b:=by
 intro e;subst e;rw[h] at h';cases h'
section
variable (P:Program)(w:World)
def cf (H:Hp)(h:Heap)(a:Addr):HO->Prop
 |.lst xs=>↥xs<=sizeLine/\∃(its:Δ3) (n:Nat),bw xs its/\h.get? a=some { cls:=.type "list",data:=.seq its.toArray n }
 |.tup xs=>↥xs<=sizeLine/\∃its:Δ3,bw xs its/\IsTup h a its.toArray
 |.dK kvs=>↥kvs<=sizeLine/\(a == sysModules)=false/\∃vs,KV kvs vs/\h.DictOf (mr P w) a vs
 |.dT kvs=>↥kvs<=sizeLine/\(a == sysModules)=false/\∃xs:List (List d4×Addr×Value),
   Paired (λ(p:List d4×V) (q:List d4×Addr×Value)=>p.1=q.1/\H q.2.1=↑(.tup (p.1.map kV))/\RelV p.2 q.2.2) kvs xs /\
   ∃o es ep,h.get? a=↑o/\o.ExactDict/\o.data=.dict es ep/\es.toList=xs.map (entryOfKey (tupleKind (mr P w)))/\(xs.map (·.1)).Nodup
 |.set S n=>h.SetOf (intKind P w) a S n
 |.ins C dx fs=>H dx=↑(.own a)/\↥fs<=1000/\dx≠a/\h.get? a=↑(PySem.W.instObj C dx) /\
   ∃mA,h.Ns1 dx mA/\(∀f,aE (fs.lookup f) (mA f))/\PySem.Within mA (fs.map (·.1))
 |.own _=>∃o,h.get? a=↑o
 |.xd fs=>∃mA,h.Ns1 a mA/\∀f,aE (fs.lookup f) (mA f)
 |.T' lo hi=>∃t u v,h.get? a=some { cls:=.type "range",data:=.fields #[.int lo t,.int hi u,.int 1 v] }
 |.iK o u=>h.get? a=↑o/\cf H h a u
 |.Nb ps=>h.get? a=some { cls:=.none,data:=.fields ps }
 |.met f x=>h.get? a=↑(PySem.W.methodObj (.ref f) (.ref x))
 |.ext φ=>φ h/\(∃o,h.get? a=↑o)/\∀h1 h2:Heap,φ h1->(∀o,h1.get? a=↑o->h2.get? a=↑o)->φ h2
def kA (H:Hp)(h:Heap):Prop:=∀a o,H a=↑o->cf P w H h a o
end
section
variable {P:Program}{w:World}{H H':Hp}{h h':Heap}{a:Addr}{o:HO}
def cf.lt (x:cf P w H h a o):a<h.objs.size:=by
 cases o with
 |lst xs=>let⟨_,_,_,_,e⟩:=x;exact Zq e
 |tup xs=>let⟨_,_,_,p⟩:=x;exact p.lt
 |dK kvs=>let⟨_,_,_,_,o,_,_,e,_⟩:=x;exact Zq e
 |dT kvs=>let⟨_,_,_,_,o,_,_,e,_⟩:=x;exact Zq e
 |set S n=>let⟨o,_,_,_,e,_⟩:=x;exact Zq e
 |ins C dx fs=>let⟨_,_,_,e,_⟩:=x;exact Zq e
 |own y=>let⟨_,e⟩:=x;exact Zq e
 |xd fs=>let⟨_,⟨_,_,_,e,_⟩,_⟩:=x;exact Zq e
 |T' lo hi=>let⟨_,_,_,e⟩:=x;exact Zq e
 |iK ob u=>let⟨e,_⟩:=x;exact Zq e
 |Nb ps=>exact Zq (show h.get? a=↑_ from x)
 |met f y=>exact Zq (show h.get? a=↑_ from x)
 |ext φ=>let⟨_,⟨_,e⟩,_⟩:=x;exact Zq e
theorem Paired.Iq {α β : Type}{F G:α->β->Prop}:∀{l₁:List α}{l₂:List β},Paired F l₁ l₂->(∀a b,F a b->G a b)->Paired G l₁ l₂
 |_,_,.nil,_=>.nil
 |_,_,.cons r t,f=>.cons (f _ _ r) (Paired.Iq t f)
def cf.ay (x:cf P w H h a o)(k:∀b u,(b=a\/H b=↑(.own a))->h.get? b=↑u->h'.get? b=↑u)
  (ho:∀b,H b=↑(.own a)->H' b=↑(.own a)) (ht:∀b xs,H b=↑(.tup xs)->H' b=↑(.tup xs)):cf P w H' h' a o:=by
 induction o with
 |lst xs=>let⟨z,its,n,r,e⟩:=x;exact⟨z,its,n,r,k _ _ (.inl rfl) e⟩
 |tup xs=>let⟨z,its,r,ob,e,c⟩:=x;exact⟨z,its,r,ob,k _ _ (.inl rfl) e,c⟩
 |dK kvs=>let⟨z,y,vs,r,ob,es,ep,e,c⟩:=x;exact⟨z,y,vs,r,ob,es,ep,k _ _ (.inl rfl) e,c⟩
 |dT kvs =>
  let⟨z,y,xs,r,ob,es,ep,e,c⟩:=x;exact⟨z,y,xs,Paired.Iq r λp q z=>⟨z.1,ht _ _ z.2.1,z.2.2⟩,ob,es,ep,k _ _ (.inl rfl) e,c⟩
 |set S n=>let⟨ob,es,ep,t,e,c⟩:=x;exact⟨ob,es,ep,t,k _ _ (.inl rfl) e,c⟩
 |ins C dx fs =>
  let⟨d,z,ne,e,mA,⟨od,es,ep,e2,c⟩,r⟩:=x;exact⟨ho _ d,z,ne,k _ _ (.inl rfl) e,mA,⟨od,es,ep,k _ _ (.inr d) e2,c⟩,r⟩
 |own y=>let⟨ob,e⟩:=x;exact⟨ob,k _ _ (.inl rfl) e⟩
 |xd fs=>let⟨mA,⟨od,es,ep,e,c⟩,r⟩:=x;exact⟨mA,⟨od,es,ep,k _ _ (.inl rfl) e,c⟩,r⟩
 |T' lo hi=>let⟨t,u,v,e⟩:=x;exact⟨t,u,v,k _ _ (.inl rfl) e⟩
 |iK ob u ih=>let⟨e,q⟩:=x;exact⟨k _ _ (.inl rfl) e,ih q⟩
 |Nb ps =>
  let e:h.get? a=some { cls:=.none,data:=.fields ps }:=x;show h'.get? a=some { cls:=.none,data:=.fields ps };exact k a _ (.inl rfl) e
 |met f y =>
  let e:h.get? a=↑(PySem.W.methodObj (.ref f) (.ref y)):=x;show h'.get? a=↑(PySem.W.methodObj (.ref f) (.ref y));exact k a _ (.inl rfl) e
 |ext φ=>let⟨p,⟨o,e⟩,st⟩:=x;exact⟨st _ _ p λo q=>k _ _ (.inl rfl) q,⟨o,k _ _ (.inl rfl) e⟩,st⟩
def kA.lt (x:kA P w H h)(e:H a=↑o):a<h.objs.size:=(x a o e).lt
def kA.fresh (x:kA P w H h)(e:h.objs.size<=a):H a=none:=by
 cases q:H a with
 |none=>rfl
 |some u=>exact afa (Yk (x.lt q) e) (Yl _)
def kA.kept (x:kA P w H h)(k:∀b u,h.get? b=↑u->h'.get? b=↑u):kA P w H h':=λa o e =>
 (x a o e).ay (λb u _ q=>k b u q) (λ_ q=>q) λ_ _ q=>q
def kA.laid (x:kA P w H h)(k:∀b u,h.get? b=↑u->h'.get? b=↑u)(hp:h.objs.size<=a)(new:cf P w (aP H a o) h' a o):kA P w (aP H a o) h':=λb u e=>by
 let hn:=x.fresh hp;by_cases hb:b=a
 .subst hb;rw[eC] at e;cases e;exact new
 .rw[dE hb] at e;exact(x b u e).ay (λc v _ q=>k c v q) (λc q=>by rw[dE (Hm q hn)];exact q) λc xs q=>by rw[dE (Hm q hn)];exact q
end
def Rd (H:Hp)(a:Addr)(u:HO):Prop:=H a=↑u\/∃o,H a=↑(.iK o u)
def Rd.ok (r:Rd H a u)(x:kA P w H h):cf P w H h a u:=by
 rcases r with r |⟨o,r⟩
 .exact x a u r
 .obtain⟨_,q⟩:=x a _ r;exact q
def T9:Option HO->Prop
 |some (.lst _)=>True
 |some (.dK _)=>True
 |some (.dT _)=>True
 |some (.set _ _)=>True
 |some (.ins _ _ _)=>True
 |some (.ext _)=>True
 |_=>False
section
variable {P:Program}{w:World}{H:Hp}{h h':Heap}{x e:Addr}{o':HO}
def kA.write (ok:kA P w H h)(mu:T9 (H x))(he:e=x\/H e=↑(.own x))(k:∀b u,b≠e->h.get? b=↑u->h'.get? b=↑u)(Hu:∃u,h'.get? e=↑u)
  (new:cf P w (aP H x o') h' x o'):kA P w (aP H x o') h':=λb u q=>by
 let UL:∀c y,H c=↑(.own y)->c≠x:=λc y r z=>by subst z;rw[r] at mu;exact mu
 let acz:∀c xs,H c=↑(.tup xs)->c≠x:=λc xs r z=>by subst z;rw[r] at mu;exact mu
 by_cases hb:b=x
 .subst hb;rw[eC] at q;cases q;exact new
 .rw[dE hb] at q;by_cases NK:b=e
  .let q':H b=↑(.own x):=by
    rcases he with z |z
    .exact afa (NK.trans z) hb
    .rw[NK];exact z
   rw[q] at q';cases q';let⟨v,hv⟩:=Hu;exact⟨v,by rw[NK];exact hv⟩
  .apply(ok b u q).ay (λc v hc r=>k c v ?_ r) (λc r=>by rw[dE (UL c b r)];exact r) λc xs r=>by rw[dE (acz c xs r)];exact r
   rcases hc with rfl |hc
   .exact NK
   .rintro rfl;rcases he with z |z
    .exact UL c b hc z
    .rw[hc] at z;cases z;exact hb rfl
end
structure Un (fs ex:List Addr)(H H':Hp)(h h':Heap):Prop where
 keep:∀b o,h.get? b=↑o->H b=none->b∉fs->b∉ex->h'.get? b=↑o
 slot:∀b o,h.get? b=↑o->H b=none->b∈fs->b∉ex->∃sl,h'.get? b=some { o with slots:=sl }
 free:∀b o,h.get? b=↑o->H b=none->b∉ex->H' b=none
 there:∀b o,h.get? b=↑o->b∉ex->∃o',h'.get? b=↑o'
 nT:∀b xs,H b=↑(.tup xs)->H' b=↑(.tup xs)
 si:∀b o u,H b=↑(.iK o u)->H' b=↑(.iK o u)
 uz:∀b ps,H b=↑(.Nb ps)->∃more,H' b=↑(.Nb (ps++more))
section
variable {fs fs' ex ex':List Addr}{H H1 H2:Hp}{h h1 h2 h':Heap}{a x e:Addr}{o:HO}
def Un.any (u:Un fs ex H H1 h h1)(q:h.get? b=↑ob)(n:H b=none)(hx:b∉ex):∃sl,h1.get? b=some { ob with slots:=sl }:=by
 by_cases hb:b∈fs
 .exact u.slot b ob q n hb hx
 .exact⟨ob.slots,u.keep b ob q n hb hx⟩
def Un.kept (k:∀b u,h.get? b=↑u->h'.get? b=↑u):Un fs ex H H h h' :=
 ⟨λb ob q _ _ _=>k b ob q,λb ob q _ _ _=>⟨ob.slots,k b ob q⟩,λ_ _ _ n _=>n,λb ob q _=>⟨ob,k b ob q⟩,λ_ _ q=>q,λ_ _ _ q=>q,λ_ ps q=>⟨#[],by rw[q];simp⟩⟩
def Un.refl:Un fs ex H H h h:=Un.kept λ_ _ q=>q
def Un.laid (k:∀b u,h.get? b=↑u->h'.get? b=↑u)(hp:h.objs.size<=a)(hn:H a=none):Un fs ex H (aP H a o) h h' where
 keep:=λb u q _ _ _=>k b u q
 slot:=λb u q _ _ _=>⟨u.slots,k b u q⟩
 free:=λb u q n _=>by rw[dE (Ye (Yk (Zq q) hp))];exact n
 there:=λb u q _=>⟨u,k b u q⟩
 nT:=λb xs q=>by rw[dE (Hm q hn)];exact q
 si:=λb u xs q=>by rw[dE (Hm q hn)];exact q
 uz:=λb ps q=>⟨#[],by rw[dE (Hm q hn),q];simp⟩
def Un.write (mu:T9 (H x))(he:e=x\/H e=↑(.own x))(k:∀b u,b≠e->h.get? b=↑u->h'.get? b=↑u)(Hu:∃u,h'.get? e=↑u):Un fs ex H (aP H x o) h h':=by
 let hx:∀b,H b=none->b≠x:=λb n z=>by subst z;rw[n] at mu;exact mu
 let hb:∀b,H b=none->b≠e:=λb n z=>by
  subst z;rcases he with r |r
  .exact hx b n r
  .rw[n] at r;cases r
 let hm:∀b u,H b=↑u->¬ T9 ↑u->b≠x:=λb u q nm z=>by subst z;rw[q] at mu;exact nm mu
 apply⟨λb u q n _ _=>k b u (hb b n) q,λb u q n _ _=>⟨u.slots,k b u (hb b n) q⟩,λb u q n _=>by rw[dE (hx b n)];exact n,λb u q _=>?_,
  λb xs q=>by rw[dE (hm b _ q λz=>z)];exact q,λb u xs q=>by rw[dE (hm b _ q λz=>z)];exact q,λb ps q=>⟨#[],by rw[dE (hm b _ q λz=>z),q];simp⟩⟩
 by_cases NK:b=e
 .subst NK;exact Hu
 .exact⟨u,k b u NK q⟩
end
def XJ (h:Heap)(H:Hp):List Addr:=(~~~h.objs.size).filter λa=>(H a).isSome
def sf (h:Heap)(H:Hp):Heap:=PySem.W.hideAll h (XJ h H)
def CC (h:Heap)(H:Hp):(sf h H).objs.size=h.objs.size:=PySem.W.hideAll_size _ _
def GQ (e:h.get? b=↑o)(n:H b=none):(sf h H).get? b=↑o :=
 PySem.W.hideAll_get _ e λhm=>by
  let q:(H b).isSome:=(Ze.mp hm).2;rw[n] at q;simp at q
def Kn (e:(sf h H).get? b=↑o):h.get? b=↑o/\H b=none:=by
 let e':h.get? b=↑o:=PySem.W.of_hideAll (XJ h H) e;apply⟨e',?_⟩;cases q:H b with
 |none=>rfl
 |some x =>
  let hm:b∈XJ h H:=Ze.mpr ⟨Zh.mpr (Zq e'),by simp[q]⟩;let z:(sf h H).get? b=none:=PySem.W.hideAll_none (XJ h H) hm;rw[z] at e;cases e
structure Mod (K:Θ1)(mg:Θ3)(base:Heap):Prop where
 ζ:K.In base
 glob:base.Ns mainGlobals mg
 blt:∃mb,base.Ns builtinsNs mb/\∀x:Str,x ≠ "__name__"->mb x=bootBuiltins x
 nolimit:base.NoLimit
 xC:base.NoSeer
structure Cx where
 prog:Program
 w:World
 K:Θ1
 mg:Str->Option Value
 base:Heap
 A:Around
 N:Δ2
 fj:Shared
 dw:Hp
 env:Env
 outer:List Env
 stack:List Env
 ex:List Addr
 fn:Str->Bool
 calm:Bool
 pn:Γ2
 xe:Value->Shared->Prop
def DF (l:List Env):List Addr:=l.filterMap (·.frame)
abbrev Cx.fs (X:Cx):List Addr:=DF X.outer
def T7 (sc:Scope)(x:Str):Prop:=sc.names.lookup x=some .local\/sc.names.lookup x=some .cell\/sc.names.lookup x=some .free
def Loc (sc:Scope)(x:Str):Prop:=sc.names.lookup x=some .local\/sc.names.lookup x=some .cell
def Look (env:Env)(h:Heap)(m:Θ3)(x:Str)(u:Value):Prop :=
 (env.kindOf x=some .local/\m x=↑u)\/((env.kindOf x=some .cell\/env.kindOf x=some .free)/\∃c,env.cells.lookup x=↑c/\h.IsCell c ↑u)
structure Cx.Ok (X:Cx):Prop where
 mod:Mod X.K X.mg X.base
 kind:X.env.scope.kind=.function
 glob:X.env.globals=mainGlobals
 blt:X.env.builtins=builtinsNs
 above:⇑X.fj<=X.env.locals
 inj:∀x y c,X.env.cells.lookup x=↑c->X.env.cells.lookup y=↑c->x=y
 has:∀x,(X.env.kindOf x=some .cell\/X.env.kindOf x=some .free)->∃c,X.env.cells.lookup x=↑c
 T4:∀x c,X.fn x->X.env.cells.lookup x=↑c->⇑X.fj<=c
 hd:X.calm->X.A.handled=none
 frames:X.A.frames=↑X.stack
 XM:X.stack=X.outer\/(X.stack=X.env::X.outer/\X.env.frame=↑X.env.locals)
 YS:∀b∈X.ex,b≠X.env.locals/\∀x c,X.env.cells.lookup x=↑c->c≠b
 bs:∀b o,X.base.get? b=↑o->X.fj.heap.get? b=↑o/\X.dw b=none
 LG:X.base.objs.size<=⇑X.fj
 DP:∀b o,X.base.get? b=↑o->b∉X.ex
 D2:∀b∈X.ex,b∉X.fs
 nZ:X.fj.heap.FunFrames X.base X.outer
 SH:∀b∈X.fs,X.dw b=none
structure Inv (X:Cx)(ae:Γ2)(σ:List (Option V))(H:Hp)(s:Shared):Prop where
 ok:X.Ok
 os:s.os=X.fj.os
 bare:AllBare s.gens
 base:Un X.fs X.ex X.dw H X.fj.heap s.heap
 loc:∃m,s.heap.Ns X.env.locals m/\∀(i:Nat) (x:Str) (v:V),X.N[i]?=↑x->σ[i]?=↑↑v->T7 X.env.scope x->∃u,RelV v u/\Look X.env s.heap m x u
 cell:∀x c,X.env.cells.lookup x=↑c->∃v,s.heap.IsCell c v
 free:H X.env.locals=none
 jU:∀x c,X.env.cells.lookup x=↑c->H c=none
 pin:∀p∈X.pn++ae,s.heap.get? p.1=↑p.2/\H p.1=none/\p.1≠X.env.locals/\p.1∉X.fs/\∀v,p.2.data≠.cell v
 ca:kA X.prog X.w H s.heap
 len:↥σ=↥X.N
section
variable {X:Cx}{ae:Γ2}{σ:List (Option V)}{H H':Hp}{s:Shared}{h':Heap}
def Cx.Ok.acB (ok:X.Ok)(e:X.base.get? b=↑o):b∉X.fs:=λhb=>by
 have:=(ok.nZ.mem hb).1;rw[e] at this;cases this
def Inv.bs (I:Inv X ae σ H s):∀b o,X.base.get? b=↑o->s.heap.get? b=↑o/\H b=none:=λb o e =>
 ⟨I.base.keep b o (I.ok.bs b o e).1 (I.ok.bs b o e).2 (I.ok.acB e) (I.ok.DP b o e),I.base.free b o (I.ok.bs b o e).1 (I.ok.bs b o e).2 (I.ok.DP b o e)⟩
def Inv.bk (I:Inv X ae σ H s):∀b o,X.base.get? b=↑o->s.heap.get? b=↑o:=λb o e=>(I.bs b o e).1
def Inv.mod (I:Inv X ae σ H s):Mod X.K X.mg X.base:=I.ok.mod
def Inv.uo (I:Inv X ae σ H s):X.K.In s.heap:=I.ok.mod.ζ.keeps I.bk
def Inv.nolimit (I:Inv X ae σ H s):s.heap.NoLimit:=I.ok.mod.nolimit.keeps I.bk
def Inv.xC (I:Inv X ae σ H s):s.heap.NoSeer:=I.ok.mod.xC.keeps I.bk
def Inv.lt (I:Inv X ae σ H s):X.env.locals<⇑s:=let ⟨_,hn,_⟩:=I.loc;hn.lt
def Inv.sz (I:Inv X ae σ H s):⇑X.fj<=⇑s:=Zl I.ok.above (Nat.le_of_lt I.lt)
def Inv.acA (I:Inv X ae σ H s)(h:⇑s<=a):a∉X.fs:=λhb=>by
 let⟨_,o,ho,_⟩:=I.ok.nZ.mem hb;exact afa (Yk (Zq ho) (Zl I.sz h)) (Yl _)
def Inv.NQ (I:Inv X ae σ H s):∀x c,X.env.cells.lookup x=↑c->c≠X.env.locals:=λx c e z=>by
 let⟨v,o,ho,hd⟩:=I.cell x c e;let⟨m,⟨o',es,ep,rP,TM,_⟩,_⟩:=I.loc;rw[z,rP] at ho;cases ho;rw[TM] at hd;cases hd
def Inv.nZ (I:Inv X ae σ H s):s.heap.FunFrames X.base X.outer:=by
 let all:∀(l:List Env),(∀b∈DF l,b∈X.fs)->X.fj.heap.FunFrames X.base l->s.heap.FunFrames X.base l:=by
  intro l;induction l with
  |nil=>intro _ _;trivial
  |cons env r ih =>
   intro hs hl;let⟨hk,⟨L,o,hf,hn,ho,hd⟩,hr⟩:=hl;let hL:L∈X.fs:=hs L (by unfold DF;rw[List.filterMap_cons,hf];exact Zk);let⟨sl,e⟩:=I.base.slot L o ho (I.ok.SH L hL) hL λz=>I.ok.D2 L z hL
   exact⟨hk,⟨L,_,hf,hn,e,hd⟩,ih (λb hb=>hs b (by unfold DF;rw[List.filterMap_cons,hf];exact Zi _ hb)) hr⟩
 exact all X.outer (λ_ hb=>hb) I.ok.nZ
def Inv.stack (I:Inv X ae σ H s):s.heap.FunFrames X.base X.stack:=by
 rcases I.ok.XM with e |⟨e,hf⟩
 .rw[e];exact I.nZ
 .rw[e];let⟨m,hn,_⟩:=I.loc;apply .cons (by rw[I.ok.kind];decide) hf hn ?_ I.nZ;exact Heap.get?_none_of_le (Zl I.ok.LG I.ok.above)
def Inv.xx (I:Inv X ae σ H s):∀b∈DF X.stack,b∈X.env.locals::X.fs:=λb hb=>by
 rcases I.ok.XM with e |⟨e,hf⟩
 .rw[e] at hb;exact Zi _ hb
 .rw[e] at hb;unfold DF at hb;rw[List.filterMap_cons,hf] at hb;exact hb
def Inv.Ag (I:Inv X ae σ H s):∀b∈DF X.stack,H b=none:=λb hb=>by
 rcases Zj.mp (I.xx b hb) with e |hb
 .rw[e];exact I.free
 .obtain⟨_,o,ho,_⟩:=I.ok.nZ.mem hb;exact I.base.free b o ho (I.ok.SH b hb) λz=>I.ok.D2 b z hb
def Inv.step {g':Array GenState}{t':Nat}{ch:List Addr}(I:Inv X ae σ H s)
  (Hv:∀b∈ch,(b∈X.ex\/⇑X.fj<=b)/\b≠X.env.locals/\(∀x c,X.env.cells.lookup x=↑c->c≠b)/\∀p∈X.pn++ae,p.1≠b)
  (keep:∀b o,b≠X.env.locals->b∉X.fs->b∉ch->s.heap.get? b=↑o->H b=none->h'.get? b=↑o)
  (slot:∀b o,b≠X.env.locals->b∈X.fs->b∉ch->s.heap.get? b=↑o->H b=none->∃sl,h'.get? b=some { o with slots:=sl }) (free:∀b o,b∉ch->s.heap.get? b=↑o->H b=none->H' b=none)
  (there:∀b o,b∉ch->s.heap.get? b=↑o->∃o',h'.get? b=↑o')
  (nT:∀b xs,H b=↑(.tup xs)->H' b=↑(.tup xs)) (si:∀b o u,H b=↑(.iK o u)->H' b=↑(.iK o u)) (uz:∀b ps,H b=↑(.Nb ps)->∃more,H' b=↑(.Nb (ps++more)))
  (ns:∀m,s.heap.Ns X.env.locals m->h'.Ns X.env.locals m) (ca:kA X.prog X.w H' h') (hg:AllBare g') :
  Inv X ae σ H' { s with heap:=h',gens:=g',drawn:=d',toks:=t' }:=by
 let neL:∀b o,X.fj.heap.get? b=↑o->b≠X.env.locals:=λb o e=>Ye (Yk (Zq e) I.ok.above)
 let XT:∀b o,X.fj.heap.get? b=↑o->b∉X.ex->b∉ch:=λb o e hx hb=>by
  rcases(Hv b hb).1 with z |z
  .exact hx z
  .exact afa (Yk (Zq e) z) (Yl _)
 let MU:∀x c,X.env.cells.lookup x=↑c->∀v,s.heap.IsCell c v->h'.IsCell c v:=λx c e v ⟨o,ho,hd⟩=>by
  let Td:c∉ch:=λz=>(Hv c z).2.2.1 x c e rfl
  by_cases hc:c∈X.fs
  .obtain⟨sl,q⟩:=slot c o (I.NQ x c e) hc Td ho (I.jU x c e);exact⟨_,q,hd⟩
  .exact⟨o,keep c o (I.NQ x c e) hc Td ho (I.jU x c e),hd⟩
 apply⟨I.ok,I.os,hg,⟨λb o e n hb hx=>?_,λb o e n hb hx=>?_,λb o e n hx=>?_,λb o e hx=>?_,λb xs e=>nT b xs (I.base.nT b xs e),λb o xs e=>si b o xs (I.base.si b o xs e),λb ps e=>?_⟩,?_,λx c e=>?_,?_,λx c e=>?_,λp hp=>?_,ca,I.len⟩
 .exact keep b o (neL b o e) hb (XT b o e hx) (I.base.keep b o e n hb hx) (I.base.free b o e n hx)
 .obtain⟨sl,e1⟩:=I.base.slot b o e n hb hx;let⟨c3,e2⟩:=slot b _ (neL b o e) hb (XT b o e hx) e1 (I.base.free b o e n hx);exact⟨c3,e2⟩
 .obtain⟨o',e1⟩:=I.base.there b o e hx;exact free b o' (XT b o e hx) e1 (I.base.free b o e n hx)
 .obtain⟨o',e1⟩:=I.base.there b o e hx;exact there b o' (XT b o e hx) e1
 .obtain⟨m1,e1⟩:=I.base.uz b ps e;let⟨m2,e2⟩:=uz b _ e1;exact⟨m1++m2,by rw[e2,Array.append_assoc]⟩
 .obtain⟨m,hn,hl⟩:=I.loc;apply⟨m,ns m hn,λi x v e1 e2 e3=>?_⟩;let⟨u,r,l⟩:=hl i x v e1 e2 e3;apply⟨u,r,?_⟩;rcases l with l |⟨k,c,e,z⟩
  .exact .inl l
  .exact .inr ⟨k,c,e,MU x c e _ z⟩
 .obtain⟨v,z⟩:=I.cell x c e;exact⟨v,MU x c e v z⟩
 .obtain⟨m,⟨o,_,_,ho,_⟩,_⟩:=I.loc;exact free _ o (λz=>(Hv _ z).2.1 rfl) ho I.free
 .obtain⟨v,o,ho,hd⟩:=I.cell x c e;exact free c o (λz=>(Hv c z).2.2.1 x c e rfl) ho (I.jU x c e)
 .obtain⟨e,n,ne,nf,d⟩:=I.pin p hp;let Td:p.1∉ch:=λz=>(Hv p.1 z).2.2.2 p hp rfl
  exact⟨keep p.1 p.2 ne nf Td e n,free p.1 p.2 Td e n,ne,nf,d⟩
def Inv.un {t':Nat}(I:Inv X ae σ H s)(u:Un X.fs [] H H' s.heap h')(ca:kA X.prog X.w H' h'):Inv X ae σ H' { s with heap:=h',toks:=t' }:=by
 let⟨m,⟨o,es,ep,ho,r⟩,_⟩:=id I.loc;let⟨sl,hL⟩:=u.any ho I.free (by simp);exact I.step (g':=s.gens) (d':=s.drawn) (ch:=[]) (λ_ z=>nomatch z) (λb o _ hb _ e n=>u.keep b o e n hb (by simp)) (λb o _ hb _ e n=>u.slot b o e n hb (by simp)) (λb o _ e n=>u.free b o e n (by simp)) (λb o _ e=>u.there b o e (by simp)) u.nT u.si u.uz (λm' hm=>by
  let⟨o',es',TY,rP,r'⟩:=hm;rw[ho] at rP;cases rP;exact⟨_,es',TY,hL,r'⟩) ca I.bare
def Inv.call {g':Array GenState}{t':Nat}{ch:List Addr}(I:Inv X ae σ H s)(u:Un (DF X.stack) ch H H' s.heap h')(ca:kA X.prog X.w H' h')(hg:AllBare g')
  (Hv:∀b∈ch,(b∈X.ex\/⇑X.fj<=b)/\b≠X.env.locals/\(∀x c,X.env.cells.lookup x=↑c->c≠b)/\∀p∈X.pn++ae,p.1≠b) :
  Inv X ae σ H' { s with heap:=h',gens:=g',drawn:=d',toks:=t' }:=by
 let⟨m,⟨o,es,ep,ho,r⟩,_⟩:=id I.loc;let⟨sl,hL⟩:=u.any ho I.free λz=>(Hv _ z).2.1 rfl
 exact I.step (ch:=ch) Hv (λb o hL hb hc e n=>u.keep b o e n (λz=>(Zj.mp (I.xx b z)).elim hL hb) hc) (λb o _ _ hc e n=>u.any e n hc) (λb o hc e n=>u.free b o e n hc) (λb o hc e=>u.there b o e hc) u.nT u.si u.uz (λm' hm=>by
  let⟨o',es',TY,rP,r'⟩:=hm;rw[ho] at rP;cases rP;exact⟨_,es',TY,hL,r'⟩) ca hg
def Inv.turned {t':Nat}{it:Addr}(I:Inv X ae σ H s)(k:∀b o,b≠it->s.heap.get? b=↑o->h'.get? b=↑o)(hn:H it=none)(hL:it≠X.env.locals)
  (h1:it∈X.ex\/⇑X.fj<=it) (h2:∀x c,X.env.cells.lookup x=↑c->c≠it) (h3:∀p∈X.pn++ae,p.1≠it):Inv X ae σ H { s with heap:=h',toks:=t' }:=by
 let Tc:∀b u,H b=↑u->b≠it:=λb u e z=>by rw[z,hn] at e;cases e
 apply I.step (g':=s.gens) (d':=s.drawn) (ch:=[it]) (λb hb=>?_) (λb o _ _ hc e _=>k b o (λz=>hc (by simp[z])) e) (λb o _ _ hc e _=>⟨o.slots,k b o (λz=>hc (by simp[z])) e⟩) (λ_ _ _ _ n=>n)
  (λb o hc e=>⟨o,k b o (λz=>hc (by simp[z])) e⟩) (λ_ _ e=>e) (λ_ _ _ e=>e) (λb ps e=>⟨#[],by rw[e];simp⟩) (λm hm=>?_) (λb u e=>?_) I.bare
 .let e:b=it:=by simpa using hb
  subst e;exact⟨h1,hL,h2,h3⟩
 .obtain⟨o,es,ep,ho,r⟩:=hm;exact⟨o,es,ep,k _ o (Ne.symm hL) ho,r⟩
 .apply(I.ca b u e).ay (λc v hc q=>k c v ?_ q) (λ_ q=>q) λ_ _ q=>q
  rcases hc with z |z
  .rw[z];exact Tc b u e
  .exact Tc c _ z
def Inv.tok (I:Inv X ae σ H s)(t:Nat):Inv X ae σ H { s with toks:=t }:=I.un (h':=s.heap) (t':=t) Un.refl I.ca
def Inv.kept (I:Inv X ae σ H s)(k:∀b u,s.heap.get? b=↑u->h'.get? b=↑u):Inv X ae σ H { s with heap:=h',toks:=t' }:=I.un (Un.kept k) (I.ca.kept k)
def Inv.laid (I:Inv X ae σ H s)(k:∀b u,s.heap.get? b=↑u->h'.get? b=↑u)(hp:⇑s<=a)(new:cf X.prog X.w (aP H a o) h' a o) :
  Inv X ae σ (aP H a o) { s with heap:=h',toks:=t' }:=I.un (Un.laid k hp (I.ca.fresh hp)) (I.ca.laid k hp new)
def Inv.write (I:Inv X ae σ H s)(mu:T9 (H x))(he:e=x\/H e=↑(.own x))(k:∀b u,b≠e->s.heap.get? b=↑u->h'.get? b=↑u)(Hu:∃u,h'.get? e=↑u)
  (new:cf X.prog X.w (aP H x o) h' x o):Inv X ae σ (aP H x o) { s with heap:=h',toks:=t' }:=I.un (Un.write mu he k Hu) (I.ca.write mu he k Hu new)
def Inv.nz (I:Inv X ae σ H s)(h:∀p∈Wv,s.heap.get? p.1=↑p.2/\H p.1=none/\p.1≠X.env.locals/\p.1∉X.fs/\∀v,p.2.data≠.cell v):Inv X Wv σ H s :=
 ⟨I.ok,I.os,I.bare,I.base,I.loc,I.cell,I.free,I.jU,λp hp=>(Zz.mp hp).elim (λz=>I.pin p (Y8 _ z)) (h p),I.ca,I.len⟩
def vz {N:Δ2}(hN:N.Nodup){i j:Nat}(a:N[i]?=↑x)(b:N[j]?=↑x):i=j:=by
 let⟨h1,e1⟩:=Zg.mp a;let⟨h2,e2⟩:=Zg.mp b;exact(List.getElem_inj hN).mp (e1.trans e2.symm)
def BR {M:Model}{A:Around}(I:Inv X ae σ H s)(hN:X.N.Nodup)(hi:X.N[i]?=↑x)(hx:Loc X.env.scope x)(r:RelV v u)
  (h:∀s',Inv X ae (σ.set i ↑v) H s'->(∃a,Heap.SameBut a s.heap s'.heap/\(a=X.env.locals\/X.env.cells.lookup x=↑a))->Q ⟨⟩ s') (hf:X.fn x\/X.env.scope.names.lookup x=some .local:=by first |exact .inl rfl |exact .inr rfl |assumption):wpAny M A (storeName X.env x u) Q E s:=by
 let⟨m,hn,hl⟩:=id I.loc;let ac1:(X.env.scope.kind == .class||(X.env.scope.kind == .module&&X.env.locals != X.env.globals))=false:=by rw[I.ok.kind];rfl
 let Vg:i < ↥σ:=by rw[I.len];exact(Zg.mp hi).1
 let NQ:=I.NQ;let Aa:∀{a:Addr}{h':Heap},(∃o,s.heap.get? a=↑o/\H a=none)->Heap.SameBut a s.heap h'->kA X.prog X.w H h':=λ{a h'} ha hs b ob e=>by
  let⟨_,_,MH⟩:=ha;apply(I.ca b ob e).ay (λc w' hc q=>(hs.2 c ?_).trans q) (λ_ q=>q) λ_ _ q=>q
  rintro rfl;rcases hc with rfl |hc
  .rw[MH] at e;cases e
  .rw[MH] at hc;cases hc
 rcases hx with hk |hk
 .apply wpAny_storeName_local hk hn (λh' Tw hs=>?_) ac1;let⟨oL,_,_,hoL,_⟩:=id hn;apply h _ ⟨I.ok,I.os,I.bare,⟨λb o e n hb hx=>?_,λb o e n hb hx=>?_,I.base.free,λb o e hx=>?_,I.base.nT,I.base.si,I.base.uz⟩,⟨_,Tw,λj y v' e1 e2 e3=>?_⟩,λy c e=>?_,I.free,I.jU,λp hp=>?_,Aa ⟨oL,hoL,I.free⟩ hs,by simpa using I.len⟩ ⟨_,hs,.inl rfl⟩
  .exact(hs.2 b (Ye (Yk (Zq e) I.ok.above))).trans (I.base.keep b o e n hb hx)
  .obtain⟨sl,e1⟩:=I.base.slot b o e n hb hx;exact⟨sl,(hs.2 b (Ye (Yk (Zq e) I.ok.above))).trans e1⟩
  .obtain⟨o',e1⟩:=I.base.there b o e hx;exact⟨o',(hs.2 b (Ye (Yk (Zq e) I.ok.above))).trans e1⟩
  .by_cases hj:j=i
   .subst hj;rw[hi] at e1;cases e1;rw[Yq Vg] at e2;cases e2;exact⟨u,r,.inl ⟨hk,by simp⟩⟩
   .rw[Z8 (Ne.symm hj)] at e2;let⟨u',r',q⟩:=hl j y v' e1 e2 e3;apply⟨u',r',?_⟩;rcases q with ⟨k,e⟩ |⟨k,c,e,z⟩
    .apply .inl ⟨k,?_⟩;have:y≠x:=λe=>hj (vz hN e1 (e▸hi))
     simp[this,e]
    .exact .inr ⟨k,c,e,z.sameBut hs (NQ y c e)⟩
  .obtain⟨w',z⟩:=I.cell y c e;exact⟨w',z.sameBut hs (NQ y c e)⟩
  .obtain⟨e,n,ne,nf,d⟩:=I.pin p hp;exact⟨(hs.2 p.1 ne).trans e,n,ne,nf,d⟩
 .let TH:X.fn x:=by
   rcases hf with z |z
   .exact z
   .rw[z] at hk;cases hk
  let⟨c,hc⟩:=I.ok.has x (.inl hk);let⟨w',z⟩:=I.cell x c hc;apply wpAny_storeName_cell I.ok.kind hk hc z (λh' pY hs=>?_);let⟨oc,hoc,acU⟩:=id z;apply h { s with heap:=h' } ⟨I.ok,I.os,I.bare,⟨λb o e n hb hx=>?_,λb o e n hb hx=>?_,I.base.free,λb o e hx=>?_,I.base.nT,I.base.si,I.base.uz⟩,⟨m,hn.sameBut hs (Ne.symm (NQ x c hc)),λj y v' e1 e2 e3=>?_⟩,λy c' e=>?_,I.free,I.jU,λp hp=>?_,Aa ⟨oc,hoc,I.jU x c hc⟩ hs,by simpa using I.len⟩ ⟨c,hs,.inr hc⟩
  .exact(hs.2 b (Ye (Yk (Zq e) (I.ok.T4 x c TH hc)))).trans (I.base.keep b o e n hb hx)
  .obtain⟨sl,e1⟩:=I.base.slot b o e n hb hx;exact⟨sl,(hs.2 b (Ye (Yk (Zq e) (I.ok.T4 x c TH hc)))).trans e1⟩
  .obtain⟨o',e1⟩:=I.base.there b o e hx;exact⟨o',(hs.2 b (Ye (Yk (Zq e) (I.ok.T4 x c TH hc)))).trans e1⟩
  .by_cases hj:j=i
   .subst hj;rw[hi] at e1;cases e1;rw[Yq Vg] at e2;cases e2;exact⟨u,r,.inr ⟨.inl hk,c,hc,pY⟩⟩
   .rw[Z8 (Ne.symm hj)] at e2;let⟨u',r',q⟩:=hl j y v' e1 e2 e3;apply⟨u',r',?_⟩;rcases q with q |⟨k,c',e,z'⟩
    .exact .inl q
    .apply .inr ⟨k,c',e,z'.sameBut hs ?_⟩;rintro rfl;exact hj (vz hN e1 (I.ok.inj _ _ _ e hc▸hi))
  .by_cases hcc:c'=c
   .subst hcc;exact⟨_,pY⟩
   .obtain⟨w2,z2⟩:=I.cell y c' e;exact⟨w2,z2.sameBut hs hcc⟩
  .obtain⟨e,n,ne,nf,d⟩:=I.pin p hp;apply⟨(hs.2 p.1 ?_).trans e,n,ne,nf,d⟩;intro q;rw[q,hoc] at e;let q':oc=p.2:=aaa e;exact d w' (by rw[<- q'];exact acU)
def fE (I:Inv X ae σ H s)(hN:X.N.Nodup)(hi:X.N[i]?=↑x)(hx:Loc X.env.scope x)(r:RelV v u)
  (h:∀s',Inv X ae (σ.set i ↑v) H s'->Q ⟨⟩ s') (hf:X.fn x\/X.env.scope.names.lookup x=some .local:=by first |exact .inl rfl |exact .inr rfl |assumption):wpAny M A (storeName X.env x u) Q E s :=
 BR I hN hi hx r (λs' I' _=>h s' I') hf
def Inv.W6 (I:Inv X ae σ H s)(ho:s'.os=s.os)(u:Un (DF X.stack) ch H H' s.heap s'.heap)(ca:kA X.prog X.w H' s'.heap)(hg:AllBare s'.gens)
  (Hv:∀b∈ch,(b∈X.ex\/⇑X.fj<=b)/\b≠X.env.locals/\(∀x c,X.env.cells.lookup x=↑c->c≠b)/\∀p∈X.pn++ae,p.1≠b):Inv X ae σ H' s':=by
 let⟨h',g',d',t',o'⟩:=s';let e:o'=s.os:=ho;subst e;exact I.call (g':=g') (t':=t') (d':=d') u ca hg Hv
end
abbrev XK:=Value->Option Addr->Hp->Prop
abbrev St:=List (Option V)
abbrev VK:=V->Hp->Prop
abbrev TE:=St->Hp->VK->Prop
abbrev TT:=St->Hp->(Bool->Hp->Prop)->Prop
abbrev TA:=St->Hp->(List V->Hp->Prop)->Prop
structure Ends where
 nx:St->Hp->Prop
 rt:VK
 bk:St->Hp->Prop:=λ_ _=>False
 ct:St->Hp->Prop:=λ_ _=>False
abbrev TS:=Ends->St->Hp->Prop
def EP (X:Cx)(ae:Γ2)(σ:St)(Q:VK)(u:Value)(s':Shared):Prop:=∃v H',Inv X ae σ H' s'/\RelV v u/\Q v H'
def TP (X:Cx)(ae:Γ2)(σ:St)(Q:Bool->Hp->Prop)(b:Bool)(s':Shared):Prop:=∃H',Inv X ae σ H' s'/\Q b H'
def AP (X:Cx)(ae:Γ2)(σ:St)(Q:List V->Hp->Prop)(us:Δ3)(s':Shared):Prop:=∃vs H',Inv X ae σ H' s'/\bw vs us/\Q vs H'
def SP (X:Cx)(ae:Γ2)(D:Ends)(f:Flow)(s':Shared):Prop :=
 match f with
 |.next=>∃aO H',Inv X ae aO H' s'/\D.nx aO H'
 |.brk=>∃aO H',Inv X ae aO H' s'/\D.bk aO H'
 |.cont=>∃aO H',Inv X ae aO H' s'/\D.ct aO H'
 |.ret u=>∃v aO H',Inv X ae aO H' s'/\RelV v u/\D.rt v H'
def PE (X:Cx)(e:Expr)(t:TE):Prop :=
 ∀(ae:Γ2) (s:Shared) (σ:St) (H:Hp) (Q:VK),Inv X ae σ H s->t σ H Q->X∪(eval e X.env) (EP X ae σ Q) X.xe s
def PT (X:Cx)(e:Expr)(t:TT):Prop :=
 ∀(ae:Γ2) (s:Shared) (σ:St) (H:Hp) (Q:Bool->Hp->Prop),Inv X ae σ H s->t σ H Q->X∪(isTrue e X.env (eval e X.env)) (TP X ae σ Q) X.xe s
def PW (X:Cx)(e:Expr)(t:TT):Prop :=
 ∀(whole:Sem Value) (ae:Γ2) (s:Shared) (σ:St) (H:Hp) (Q:Bool->Hp->Prop),Inv X ae σ H s->t σ H Q->X∪(isTrue e X.env whole) (TP X ae σ Q) X.xe s
def PW.pt (h:PW X e t):PT X e t:=h _
def PA (X:Cx)(es:Ξ2)(t:TA):Prop :=
 ∀(pos:Pos) (ae:Γ2) (s:Shared) (σ:St) (H:Hp) (Q:List V->Hp->Prop),Inv X ae σ H s->t σ H Q->X∪(spliced (backTo pos (starEach es X.env))) (AP X ae σ Q) X.xe s
def PS (X:Cx)(st:Stmt)(t:TS):Prop :=
 ∀(ae:Γ2) (s:Shared) (σ:St) (H:Hp) (D:Ends),Inv X ae σ H s->t D σ H->X∪(exec st X.env) (SP X ae D) X.xe s
def jJ (X:Cx)(st:List Stmt)(t:TS):Prop :=
 ∀(ae:Γ2) (s:Shared) (σ:St) (H:Hp) (D:Ends),Inv X ae σ H s->t D σ H->X∪(execs st X.env) (SP X ae D) X.xe s
def bH {α : Type}{t:Sem α}{Q Q':α->Shared->Prop}(h:wpAny M A t Q E s)(hQ:∀a s,Q a s->Q' a s):wpAny M A t Q' E s:=ana h hQ λ_ _ x=>x
section
variable {X:Cx}
def xc (i:Nat):TE:=λσ H Q=>∃v,σ[i]?=↑↑v/\Q v H
def tC (v:V):TE:=λ_ H Q=>Q v H
def QC (hN:X.N[i]?=↑x)(hv:T7 X.env.scope x)(hd:(x == ("__debug__" : Str))=false:=by decide)(wX:(x == ("__classdict__" : Str))=false:=by decide):PE X (.Name x pos) (xc i):=by
 intro ae s σ H Q I h;let⟨v,e,h⟩:=h;let⟨m,hn,hl⟩:=I.loc;let⟨u,r,l⟩:=hl i x v hN e hv;let j3:EP X ae σ Q u s:=⟨v,H,I,r,h⟩;rcases l with ⟨hk,hm⟩ |⟨hk,c,hc,zI⟩
 .exact wpAny_Name (wpAny_loadName_local I.ok.kind hk hn hm j3) hd
 .rcases hk with hk |hk
  .exact wpAny_Name (wpAny_loadName_cell I.ok.kind hk hc zI j3) hd
  .exact wpAny_Name (wpAny_loadName_free I.ok.kind hk hc zI j3 wX) hd
def bL:PE X (.Constant (.int i) j pos) (tC (.int i)):=λ_ _ _ H _ I h=>wpAny_Constant_int ⟨.int i,H,I.tok _,⟨_,()⟩,h⟩
def iF:PE X (.Constant (.bool b) j pos) (tC (.bl b)):=λ_ _ _ H _ I h=>Constant_bool ⟨.bl b,H,I,(),h⟩
def xA:PE X (.Constant .none j pos) (tC .cj):=λ_ _ _ H _ I h=>Constant_none ⟨.cj,H,I,(),h⟩
def Gl (X:Cx)(x:Str):Prop:=X.env.kindOf x=some .globalImplicit
def AO (I:Inv X ae σ H s)(hg:Gl X x)(hm:X.mg x=↑u)(h:Q u s)
  (hd:(x == ("__debug__" : Str))=false:=by decide):X∪(eval (.Name x pos) X.env) Q E s :=
 Calls.Name_function_global I.ok.kind hg (Calls.loadGlobal_global (by rw[I.ok.glob];exact I.mod.glob.keeps I.bk) hm h) hd
def gq (I:Inv X ae σ H s)(hg:Gl X x)(hm:X.mg x=none)(hv:bootBuiltins x=↑u)(h:Q u s)
  (hn:x ≠ "__name__":=by decide) (hd:(x == ("__debug__" : Str))=false:=by decide):X∪(eval (.Name x pos) X.env) Q E s:=by
 let⟨mb,h1,h2⟩:=I.mod.blt;exact Calls.Name_function_global I.ok.kind hg (Calls.loadGlobal_builtin (by rw[I.ok.glob];exact I.mod.glob.keeps I.bk) hm (by rw[I.ok.blt];exact h1.keeps I.bk) ((h2 x hn).trans hv) h) hd
def ju (hg:Gl X x)(hm:X.mg x=↑u)(r:RelV v u)(hd:(x == ("__debug__" : Str))=false:=by decide):PE X (.Name x pos) (tC v) :=
 λ_ _ _ H _ I h=>AO I hg hm ⟨v,H,I,r,h⟩ hd
variable {a b:Expr}{ta tb:TE}{pos:Pos}
def PC (X:Cx)(op:CmpOp)(a b:Expr)(t:TE):Prop :=
 ∀(ae:Γ2) (s:Shared) (σ:St) (H:Hp) (Q:VK),Inv X ae σ H s->t σ H Q ->
  X∪(eval a X.env) (λv bT=>X∪(eval b X.env) (λu dm=>X∪(compareOp op v u) (EP X ae σ Q) X.xe dm) X.xe bT) X.xe s
def tB (t:TE):TT:=λσ H Q=>t σ H λx H1=>∃c,x=.bl c/\Q c H1
def P7 {op:CmpOp}{t:TE}(h:PC X op a b t)(h1:behindInMarks op b=false:=by first |exact XE _ ∅ ∅ |rfl):PT X (.Compare a [op] [b] pos) (tB t):=by
 intro ae s σ H Q I hw;apply wpAny_isTrue_Compare1 (bH (h ae s σ H _ I hw) λv s1 h1=>bH h1 λu s2 h2=>bH h2 λc s3 ⟨x,H1,I1,r1,q1⟩=>?_) h1;let⟨d,rfl,q⟩:=q1;cases r1;exact ara ⟨H1,I1,q⟩
def uf {e:Expr}{t:TE}(h:PE X e t)(he:∀whole,isTrue e X.env whole=(do let v <- whole;standAt e.pos;holding [v] (truthy v)):=by intro _;rfl):PT X e (tB t):=by
 intro ae s σ H Q I hw;apply isTrue_plain (bH (h ae s σ H _ I hw) λv s1 ⟨x,H1,I1,r1,q1⟩=>?_) (he _);let⟨d,rfl,q⟩:=q1;cases r1;exact ara ⟨H1,I1,q⟩
variable {tA tB':TT}{jM:Ξ2}
def tOr (t u:TT):TT:=λσ H Q=>t σ H λc H1=>if c=true then Q true H1 else u σ H1 Q
def acd (t:TT):TT:=λσ H Q=>t σ H λc H1=>Q (!c) H1
def pw_or1 (ha:PT X a tA):PW X (.BoolOp .Or [a] pos) tA:=by
 intro wh ae s σ H Q I h;apply isTrue_or (bH (ha ae s σ H Q I h) λc s1 e=>?_);cases c with
 |false=>exact isTrue_or_nil e
 |true=>exact e
def pw_or (ha:PT X a tA)(hb:PW X (.BoolOp .Or (b::jM) pos) tB'):PW X (.BoolOp .Or (a::b::jM) pos) (tOr tA tB'):=by
 intro wh ae s σ H Q I h;apply isTrue_or (bH (ha ae s σ H _ I h) λc s1 ⟨H1,I1,q1⟩=>?_);cases c with
 |true=>exact⟨H1,I1,q1⟩
 |false=>exact hb wh ae s1 σ H1 Q I1 q1
def rL (ha:PT X a tA):PT X (.UnaryOp .Not a pos) (acd tA):=by
 intro ae s σ H Q I h;exact isTrue_not (ha ae s σ H (λc H1=>Q (!c) H1) I h)
def V1 (ta tb:TE):TE:=λσ H Q=>ta σ H λx H1=>∃c,x=.bl c/\if c=true then tb σ H1 Q else Q (.bl false) H1
def VV (ta:TE):TE:=λσ H Q=>ta σ H λx H1=>∃c,x=.bl c/\Q (.bl (!c)) H1
def lM (h:PE X a t):PE X (.BoolOp op [a] pos) t:=λae s σ H Q I hw=>BoolOp_one (h ae s σ H Q I hw)
def lN (ha:PE X a ta)(hb:PE X (.BoolOp .And (b::jM) pos) tb):PE X (.BoolOp .And (a::b::jM) pos) (V1 ta tb):=by
 intro ae s σ H Q I h;apply BoolOp_and (bH (ha ae s σ H _ I h) λv s1 ⟨x,H1,I1,r1,q1⟩=>?_);let⟨c,rfl,q1⟩:=q1;cases r1;apply ara ?_;cases c with
 |true=>exact hb ae s1 σ H1 Q I1 q1
 |false=>exact⟨.bl false,H1,I1,(),q1⟩
def QD (ha:PE X a ta):PE X (.UnaryOp .Not a pos) (VV ta):=by
 intro ae s σ H Q I h;apply UnaryOp_ (bH (ha ae s σ H _ I h) λv s1 ⟨x,H1,I1,r1,q1⟩=>?_);let⟨c,rfl,q1⟩:=q1;cases r1;exact not_of (ara ⟨.bl (!c),H1,I1,(),q1⟩)
def tIf (t:TT)(ta tb:TE):TE:=λσ H Q=>t σ H λc H1=>if c=true then ta σ H1 Q else tb σ H1 Q
def vp {c:Expr}(hc:PT X c tA)(ha:PE X a ta)(hb:PE X b tb):PE X (.IfExp c a b pos) (tIf tA ta tb):=by
 intro ae s σ H Q I h;apply wpAny_IfExp (bH (hc ae s σ H _ I h) λd s1 ⟨H1,I1,q1⟩=>?_);cases d with
 |true=>exact ha ae s1 σ H1 Q I1 q1
 |false=>exact hb ae s1 σ H1 Q I1 q1
end
def bI (K:Θ1)(H:Hp)(a:Addr)(xs:List V):Prop :=
 Rd H a (.lst xs) \/
  ∃(o:Obj) (its:Array Value) (n:Nat),K.lookup a=↑o/\o.cls=.type "list"/\o.dict=none/\o.data=.seq its n/\its.size<=sizeLine/\bw xs its.toList
def aN (K:Θ1)(H:Hp)(a:Addr)(xs:List V):Prop :=
 Rd H a (.tup xs) \/
  ∃(o:Obj) (its:Array Value) (n:Nat),K.lookup a=↑o/\o.cls=.type "tuple"/\o.data=.seq its n/\its.size<=sizeLine/\bw xs its.toList
def adg:Value->Option V
 |.none=>some .cj
 |.bool b=>↑(.bl b)
 |.int i _=>↑(.int i)
 |.str x _=>↑(.str x)
 |.bytes b _=>↑(.Bp b)
 |.float b _=>↑(.SI b)
 |.ref a=>↑(.ref a)
 |.type n=>↑(.ty n)
 |_=>none
def RelV.abs (r:RelV x u):adg u=↑x:=by
 cases x with
 |cj=>cases r;rfl
 |bl _=>cases r;rfl
 |int _=>let⟨t,rfl⟩:=r;rfl
 |str _=>let⟨t,rfl⟩:=r;rfl
 |Bp _=>let⟨t,rfl⟩:=r;rfl
 |SI _=>let⟨t,rfl⟩:=r;rfl
 |ref _=>cases r;rfl
 |ty _=>cases r;rfl
def RelV.inj {x y:V}{u:Value}(r:RelV x u)(q:RelV y u):x=y:=aaa (r.abs.symm.trans q.abs)
theorem bw.inj:∀{xs ys:List V}{us:Δ3},bw xs us->bw ys us->xs=ys
 |_,_,_,.nil,.nil=>rfl
 |_,_,_,.cons r t,.cons r' t'=>by rw[r.inj r',bw.inj t t']
section
variable {X:Cx}{ae:Γ2}{σ:St}{H:Hp}{s:Shared}{a:Addr}{xs ys:List V}
def bI.of {K:Θ1}(h:H a=↑(.lst xs)):bI K H a xs:=.inl (.inl h)
def aN.of {K:Θ1}(h:H a=↑(.tup xs)):aN K H a xs:=.inl (.inl h)
def Inv.list (I:Inv X ae σ H s)(h:bI X.K H a xs):∃its:Δ3,bw xs its/\PlainL s.heap a its.toArray/\↥xs<=sizeLine:=by
 rcases h with h |⟨o,its,n,hk,hc,hd,hs,hz,r⟩
 .obtain⟨z,its,n,r,e⟩:=h.ok I.ca;exact⟨its,r,⟨_,n,e,(),(),()⟩,z⟩
 .apply⟨its.toList,r,⟨o,n,I.uo a o hk,hc,hd,by simpa using hs⟩,?_⟩;let e:=↥r;simp only[Array.length_toList] at e;omega
def Inv.tuple (I:Inv X ae σ H s)(h:aN X.K H a xs):∃its:Δ3,bw xs its/\IsTup s.heap a its.toArray/\↥xs<=sizeLine:=by
 rcases h with h |⟨o,its,n,hk,hc,hs,hz,r⟩
 .obtain⟨z,its,r,p⟩:=h.ok I.ca;exact⟨its,r,p,z⟩
 .apply⟨its.toList,r,⟨o,I.uo a o hk,hc,n,by simpa using hs⟩,?_⟩;let e:=↥r;simp only[Array.length_toList] at e;omega
def Inv.vH (I:Inv X ae σ H s)(h:bI X.K H a xs)(h':bI X.K H a ys):xs=ys:=by
 let⟨its,r,⟨o,n,e,_,_,d⟩,_⟩:=I.list h;let⟨its',r',⟨o',n',e',_,_,d'⟩,_⟩:=I.list h';rw[e] at e';cases e';rw[d] at d';injection d' with d1 _
 have:its=its':=by simpa using ata Array.toList d1
 subst this;exact r.inj r'
def Inv.jA (I:Inv X ae σ H s)(h:aN X.K H a xs)(h':aN X.K H a ys):xs=ys:=by
 let⟨its,r,⟨o,e,_,n,d⟩,_⟩:=I.tuple h;let⟨its',r',⟨o',e',_,n',d'⟩,_⟩:=I.tuple h';rw[e] at e';cases e';rw[d] at d';injection d' with d1 _
 have:its=its':=by simpa using ata Array.toList d1
 subst this;exact r.inj r'
end
abbrev Cx.wish (X:Cx)(E:Θ2):Cx:={ X with xe:=E }
abbrev Cx.Sd (X:Cx):Cx:=X.wish λ_ _=>False
def Cx.Ok.wish {X:Cx}(ok:X.Ok)(E:Θ2):(X.wish E).Ok :=
 ⟨ok.mod,ok.kind,ok.glob,ok.blt,ok.above,ok.inj,ok.has,ok.T4,ok.hd,ok.frames,ok.XM,ok.YS,ok.bs,ok.LG,ok.DP,ok.D2,ok.nZ,ok.SH⟩
def Cx.Ok.iU {X:Cx}{E:Θ2}(ok:(X.wish E).Ok):X.Ok :=
 ⟨ok.mod,ok.kind,ok.glob,ok.blt,ok.above,ok.inj,ok.has,ok.T4,ok.hd,ok.frames,ok.XM,ok.YS,ok.bs,ok.LG,ok.DP,ok.D2,ok.nZ,ok.SH⟩
section
variable {X:Cx}{ae:Γ2}{σ:St}{H:Hp}{s:Shared}{E:Θ2}
def Inv.wish (I:Inv X ae σ H s)(E:Θ2):Inv (X.wish E) ae σ H s:=⟨I.ok.wish E,I.os,I.bare,I.base,I.loc,I.cell,I.free,I.jU,I.pin,I.ca,I.len⟩
def Inv.iU (I:Inv (X.wish E) ae σ H s):Inv X ae σ H s:=⟨I.ok.iU,I.os,I.bare,I.base,I.loc,I.cell,I.free,I.jU,I.pin,I.ca,I.len⟩
def SP.iU (h:SP (X.wish E) ae D f s'):SP X ae D f s':=by
 cases f with
 |next=>let⟨aO,H',I,q⟩:=h;exact⟨aO,H',I.iU,q⟩
 |brk=>let⟨aO,H',I,q⟩:=h;exact⟨aO,H',I.iU,q⟩
 |cont=>let⟨aO,H',I,q⟩:=h;exact⟨aO,H',I.iU,q⟩
 |ret u=>let⟨v,aO,H',I,r,q⟩:=h;exact⟨v,aO,H',I.iU,r,q⟩
def jJ.Sd {st:List Stmt}{t:TS}(h:jJ X.Sd st t):jJ X st t:=λae s σ H D I hw =>
 ana (h ae s σ H D (I.wish _) hw) (λ_ _ q=>q.iU) λ_ _ z=>False.elim z
end
section
variable {X:Cx}{st:Stmt}{jM:List Stmt}{t u:TS}{e:Expr}{te:TE}{pos:Pos}
def VW:TS:=λD σ H=>D.nx σ H
def aca (t u:TS):TS:=λD σ H=>t { D with nx:=u D } σ H
def lC:jJ X [] VW:=λ_ _ σ H _ I h=>wpAny_execs_nil ⟨σ,H,I,h⟩
def eJ (h1:PS X st t)(h2:jJ X jM u):jJ X (st::jM) (aca t u):=by
 intro ae s σ H D I h;apply wpAny_execs_cons (bH (h1 ae s σ H { D with nx:=u D } I h) λf s1 q=>?_);cases f with
 |next =>
  let⟨aO,H',I',q⟩:=q;exact h2 ae s1 aO H' D I' q
 |ret v=>exact q
 |brk=>exact q
 |cont=>exact q
def de (h1:PS X st t):jJ X [st] t:=by
 intro ae s σ H D I h;apply wpAny_execs_cons (bH (h1 ae s σ H D I h) λf s1 q=>?_);cases f with
 |next=>exact wpAny_execs_nil q
 |ret v=>exact q
 |brk=>exact q
 |cont=>exact q
def Inv.quiet (I:Inv X ae σ H s):interactive X.env=false:=by simp[interactive,I.ok.kind]
def VX (te:TE):TS:=λD σ H=>te σ H λ_ H1=>D.nx σ H1
def Au (he:PE X e te)(hs:swapsWith e none pos.line X.env=pure false:=by rfl):PS X (.Expr e pos) (VX te):=by
 intro ae s σ H D I h;exact wpAny_Expr_any (bH (he ae s σ H _ I h) λv s1 ⟨x,H1,I1,r1,q1⟩=>⟨σ,H1,I1,q1⟩) I.quiet hs
def Uj (te:TE):TS:=λD σ H=>te σ H D.rt
def eG (he:PE X e te):PS X (.Return ↑e pos) (Uj te):=by
 intro ae s σ H D I h;exact wpAny_Return_some (bH (he ae s σ H _ I h) λv s1 ⟨x,H1,I1,r1,q1⟩=>⟨x,σ,H1,I1,r1,q1⟩)
def acf (c:TT)(t u:TS):TS:=λD σ H=>c σ H λb H1=>if b=true then t D σ H1 else u D σ H1
def lA {c:Expr}{a b:List Stmt}(hc:PT X c tc)(ha:jJ X a t)(hb:jJ X b u):PS X (.If c a b pos) (acf tc t u):=by
 intro ae s σ H D I h;apply wpAny_If (bH (hc ae s σ H _ I h) λd s1 ⟨H1,I1,q1⟩=>?_);cases d with
 |true=>exact ha ae s1 σ H1 D I1 q1
 |false=>exact hb ae s1 σ H1 D I1 q1
end
abbrev TG:=V->St->Hp->(St->Hp->Prop)->Prop
abbrev NR:=List V->St->Hp->(St->Hp->Prop)->Prop
def PG (X:Cx)(Pt:Expr)(t:TG):Prop :=
 ∀(ae:Γ2) (s:Shared) (σ:St) (H:Hp) (v:V) (u:Value) (Q:St->Hp->Prop),Inv X ae σ H s->RelV v u->t v σ H Q ->
  X∪(assign Pt X.env u) (λ_ s'=>∃aO H',Inv X ae aO H' s'/\Q aO H') X.xe s
def wM (X:Cx)(ts:Ξ2)(t:NR):Prop :=
 ∀(ae:Γ2) (s:Shared) (σ:St) (H:Hp) (vs:List V) (us:Δ3) (Q:St->Hp->Prop),Inv X ae σ H s->bw vs us->t vs σ H Q ->
  X∪(assignInOrder ((assignEach ts X.env).map (·.2)) us) (λ_ s'=>∃aO H',Inv X ae aO H' s'/\Q aO H') X.xe s
abbrev OK:=V->V->V->Hp->(Hp->Prop)->Prop
def OM (X:Cx)(t:OK):Prop :=
 ∀(ae:Γ2) (s:Shared) (σ:St) (H:Hp) (o i v:V) (ov iv u:Value) (Q:Hp->Prop),Inv X ae σ H s->RelV o ov->RelV i iv->RelV v u->t o i v H Q ->
  X∪(setItem ov iv u) (λ_ s'=>∃H',Inv X ae σ H' s'/\Q H') X.xe s
abbrev YW:=V->V->Hp->VK->Prop
def SN (X:Cx)(op:Operator)(t:YW):Prop :=
 ∀(ae:Γ2) (s:Shared) (σ:St) (H:Hp) (x y:V) (v u:Value) (Q:VK),Inv X ae σ H s->RelV x v->RelV y u->t x y H Q ->
  X∪(inplaceOp op v u) (EP X ae σ Q) X.xe s
section
variable {X:Cx}{pos:Pos}
def fu (i:Nat):TG:=λv σ H Q=>Q (σ.set i ↑v) H
def gZ (hN:X.N.Nodup)(hi:X.N[i]?=↑x)(hx:Loc X.env.scope x)(hf:X.fn x\/X.env.scope.names.lookup x=some .local:=by first |exact .inl rfl |exact .inr rfl |assumption):PG X (.Name x pos) (fu i):=by
 intro ae s σ H v u Q I r h;exact wpAny_assign_Name (fE I hN hi hx r (λs' I'=>⟨_,H,I',h⟩) hf)
def Vn:NR:=λvs σ H Q=>vs=[]/\Q σ H
def Ev (t:TG)(u:NR):NR:=λvs σ H Q=>∃v r,vs=v::r/\t v σ H λaO H'=>u r aO H' Q
def fb:wM X [] Vn:=by
 intro ae s σ H vs us Q I r h;let⟨e,h⟩:=h;subst e;cases r;exact assignInOrder_nil ⟨σ,H,I,h⟩
def rN {e:Expr}{es:Ξ2}(h1:PG X e t)(h2:wM X es u)
  (hs:(assignEach (e::es) X.env).map (·.2)=assign e X.env::(assignEach es X.env).map (·.2):=by rfl):wM X (e::es) (Ev t u):=by
 intro ae s σ H vs us Q I r h;let⟨v,vr,e1,h⟩:=h;subst e1;cases r with
 |cons r rr =>
  rw[hs];apply assignInOrder_cons (bH (h1 ae s σ H _ _ _ I r h) λ_ s1 ⟨Lh,H1,I1,q1⟩=>?_);exact h2 ae s1 Lh H1 _ _ Q I1 rr q1
def Oy (K:Θ1)(n:Nat)(t:NR):TG:=λv σ H Q=>∃a xs,v=.ref a/\aN K H a xs/\↥xs=n/\t xs σ H Q
def P9 (hc:X.calm)(h:wM X es t)
  (hn:↥(assignEach es X.env)=n:=by rfl) (nS:(assignEach es X.env).findIdx? (·.1)=none:=by rfl):PG X (.Tuple es k pos) (Oy X.K n t):=by
 intro ae s σ H v u Q I r hw;let⟨a,xs,e1,hq,hl,hw⟩:=hw;subst e1;cases r;let⟨its,rv,ht,hz⟩:=I.tuple hq;apply assign_Tuple_tuple (I.ok.hd hc) ht (by simp[hn,<- hl,↥rv]) nS λh' hx=>?_
 let I1:Inv X ae σ H { s with heap:=h' }:=I.kept (t':=s.toks) λb o e=>hx b o (Ye (Zq e)) e
 exact h ae _ σ H xs _ Q I1 ‹rv› hw
def ac4 (to ti:TE)(t:OK):TG:=λv σ H Q=>to σ H λo H1=>ti σ H1 λi H2=>t o i v H2 λH3=>Q σ H3
def xz {o i:Expr}{to ti:TE}(ho:PE X o to)(hi:PE X i ti)(hs:OM X t)
  (ha:∀v,assign (.Subscript o i pos) X.env v=(do
   let ov <- holding [v] (eval o X.env);let iv <- holding [v,ov] (eval i X.env)
   standAt pos
   holding [v,ov,iv] (setItem ov iv v)
   release [v,ov,iv] []):=by intro _;rfl):PG X (.Subscript o i pos) (ac4 to ti t):=by
 intro ae s σ H v u Q I r h;rw[ha];apply Za (apa (bH (ho ae s σ H _ I h) λov s1 ⟨x,H1,I1,r1,q1⟩=>?_));apply Za (apa (bH (hi ae s1 σ H1 _ I1 q1) λiv s2 ⟨y,H2,I2,r2,q2⟩=>?_));apply Za (wpAny_standAt (Za (apa (bH (hs ae s2 σ H2 x y v ov iv u _ I2 r1 r2 r q2) λ_ s3 ⟨H3,I3,q3⟩=>?_))));exact wpAny_release ⟨σ,H3,I3,q3⟩
def DL (te:TE)(g:TG):TS:=λD σ H=>te σ H λx H1=>g x σ H1 D.nx
def iX {tg e:Expr}{te:TE}(he:PE X e te)(hg:PG X tg g)(hs:swapsWithSole [tg] e pos.line X.env=pure false:=by rfl)(hw:swappedStores [tg] e X.env=pure none:=by rfl)
  (h1:(assignEach [tg] X.env).map (·.2)=[assign tg X.env]:=by rfl):PS X (.Assign [tg] e pos) (DL te g):=by
 intro ae s σ H D I h;apply wpAny_Assign_stores (bH (he ae s σ H _ I h) λv s1 ⟨x,H1,I1,r1,q1⟩=>?_) hs hw;rw[h1];exact bH (hg ae s1 σ H1 x v _ I1 r1 q1) λ_ s2 q=>q
def qr {i:Nat}{x:Str}(hN:X.N.Nodup)(hi:X.N[i]?=↑x)(hx:Loc X.env.scope x)(he:PE X e te)(hs:swapsWith e ↑(.Name x lF) pos.line X.env=pure false:=by rfl)(hf:X.fn x\/X.env.scope.names.lookup x=some .local:=by first |exact .inl rfl |exact .inr rfl |assumption) :
  PS X (.Assign [.Name x lF] e pos) (DL te (fu i)):=by
 intro ae s σ H D I h;apply wpAny_Assign_Name (bH (he ae s σ H _ I h) λv s1 ⟨y,H1,I1,r1,q1⟩=>?_) hs;exact fE I1 hN hi hx r1 (λs2 I2=>⟨_,H1,I2,q1⟩) hf
def acb (i j:Nat)(ta:TA):TS:=λD σ H=>ta σ H λvs H1=>∃v w,vs=[v,w]/\D.nx ((σ.set i ↑v).set j ↑w) H1
def sB {i j:Nat}{x y:Str}(hc:X.calm)(hN:X.N.Nodup)(hi:X.N[i]?=↑x)(hj:X.N[j]?=↑y)(hij:i≠j)
  (hx:X.env.scope.names.lookup x=some .local) (hy:X.env.scope.names.lookup y=some .local) (ha:PA X [a,b] ta)
  (hw:swappedStores [.Tuple [.Name x px,.Name y py] kt pt] (.Tuple [a,b] k2 pt2) X.env=pure ↑[x,y])
  (hs:swapsWithSole [.Tuple [.Name x px,.Name y py] kt pt] (.Tuple [a,b] k2 pt2) pos.line X.env=pure false:=by rfl) :
  PS X (.Assign [.Tuple [.Name x px,.Name y py] kt pt] (.Tuple [a,b] k2 pt2) pos) (acb i j ta):=by
 intro ae s σ H D I h;rw[exec_Assign_arm];apply Za (wpAny_standAt ?_);rw[hs];apply Za (aba ?_);rw[aga ∅];apply Za (Tuple_ (bH (ha _ ae s σ H _ I h) λus s1 ⟨vs,H1,I1,r1,q1⟩=>?_));let⟨v,w,e1,q1⟩:=q1;subst e1;obtain⟨u1,u2,rfl,rv,Bi⟩:∃u1 u2,us=[u1,u2]/\RelV v u1/\RelV w u2:=by
  cases r1 with
  |cons p q =>
   cases q with
   |cons p' q' =>
    cases q'
    exact⟨_,_,(),p,p'⟩
 apply aka ?_ (by show 2<=sizeLine;decide);let I2:Inv X ae σ H1 { s1 with heap:=s1.heap.push { cls:=.type "tuple",data:=.seq [u1,u2].toArray } }:=I1.kept (t':=s1.toks) λb o e=>Zn _ e
 rw[hw];apply Za (aba ?_);show X∪(do rule "assign.swapped-stores";let items <- unpackItems (.ref ⇑s1) 2 none;assignInOrder [λv=>bindName X.env y v,λv=>bindName X.env x v] items.reverse;pure Flow.next) _ _ _;apply Za (wpAny_rule (Za (unpackItems_tuple (items:=#[u1,u2]) (I.ok.hd hc) (IsTup.new s1.heap _) λh' wJ=>?_)));let I3:=I2.kept (h':=h') (t':=s1.toks) λb o e=>wJ b o (Ye (Zq e)) e
 show wpAny _ _ (assignInOrder [λv=>bindName X.env y v,λv=>bindName X.env x v] [u2,u1] >>= λ_=>pure Flow.next) _ _ _;apply Za (assignInOrder_cons (wpAny_bindName (fE I3 hN hj (.inl hy) Bi (λs2 I4=>?_) (.inr hy))));apply assignInOrder_cons (wpAny_bindName (fE I4 hN hi (.inl hx) rv (λs3 I5=>assignInOrder_nil (aba ?_)) (.inr hx)));rw[List.set_comm _ _ (Ne.symm hij)] at I5;exact⟨_,H1,I5,q1⟩
def aci (i:Nat)(te:TE)(ti:YW):TS:=λD σ H=>∃x,σ[i]?=↑↑x/\te σ H λy H1=>ti x y H1 λz H2=>D.nx (σ.set i ↑z) H2
def P8 {i:Nat}{x:Str}(hN:X.N.Nodup)(hi:X.N[i]?=↑x)(hx:Loc X.env.scope x)(he:PE X e te)(ho:SN X op ti)(hf:X.fn x\/X.env.scope.names.lookup x=some .local:=by first |exact .inl rfl |exact .inr rfl |assumption) :
  PS X (.AugAssign (.Name x lF) op e pos) (aci i te ti):=by
 intro ae s σ H D I h;let⟨v,e1,h⟩:=h;let⟨m,hn,hl⟩:=I.loc;let vis:T7 X.env.scope x:=by rcases hx with k |k;exact .inl k;exact .inr (.inl k)
 let⟨u,r,l⟩:=hl i x v hi e1 vis;apply wpAny_AugAssign_Name ?_;let go:X∪(eval e X.env) (λw dm=>X∪(inplaceOp op u w) (λr iO=>X∪(storeName X.env x r) (λ_=>SP X ae D .next) X.xe iO) X.xe dm) X.xe s:=by
  apply bH (he ae s σ H _ I h) λw s1 ⟨y,H1,I1,r1,q1⟩=>?_
  apply bH (ho ae s1 σ H1 v y u w _ I1 r r1 q1) λz s2 ⟨zv,H2,I2,r2,q2⟩=>?_
  exact fE I2 hN hi hx r2 (λs3 I3=>⟨_,H2,I3,q2⟩) hf
 rcases l with ⟨hk,hm⟩ |⟨hk,c,hc,zI⟩
 .exact wpAny_loadName_local I.ok.kind hk hn hm go
 .rcases hk with hk |hk
  .exact wpAny_loadName_cell I.ok.kind hk hc zI go
  .rcases hx with k |k
   .have:X.env.scope.names.lookup x=some .free:=hk;rw[k] at this;cases this
   .have:X.env.scope.names.lookup x=some .free:=hk;rw[k] at this;cases this
def V0 (to ti te:TE)(NY:V->V->Hp->VK->Prop)(ZN:YW)(NW:OK):TS:=λD σ H=>to σ H λo H1=>ti σ H1 λi H2=>NY o i H2 λx H3=>te σ H3 λy H4=>ZN x y H4 λz H5=>NW o i z H5 λH6=>D.nx σ H6
def VD (X:Cx)(t:V->V->Hp->VK->Prop):Prop :=
 ∀(ae:Γ2) (s:Shared) (σ:St) (H:Hp) (o i:V) (ov iv:Value) (Q:VK),Inv X ae σ H s->RelV o ov->RelV i iv->t o i H Q ->
  X∪(getItem ov iv) (EP X ae σ Q) X.xe s
def JQ {o i e:Expr}{to ti te:TE}(ho:PE X o to)(hi:PE X i ti)(hg:VD X NY)(he:PE X e te)(hp:SN X op ZN)(hs:OM X NW)
  (ha:∀ov iv new,augStore i ov iv new=(do holding [new,ov,iv] (setItem ov iv new);release [new,ov,iv] [];pure .next):=by intros;rfl):PS X (.AugAssign (.Subscript o i rS) op e pos) (V0 to ti te NY ZN NW):=by
 intro ae s σ H D I h;apply wpAny_AugAssign_SubscriptAny (bH (ho ae s σ H _ I h) λov s1 ⟨x1,H1,I1,r1,q1⟩=>?_) ha;apply bH (hi ae s1 σ H1 _ I1 q1) λiv s2 ⟨x2,H2,I2,r2,q2⟩=>?_
 apply bH (hg ae s2 σ H2 x1 x2 ov iv _ I2 r1 r2 q2) λold s3 ⟨x3,H3,I3,r3,q3⟩=>?_
 apply bH (he ae s3 σ H3 _ I3 q3) λv s4 ⟨x4,H4,I4,r4,q4⟩=>?_
 apply bH (hp ae s4 σ H4 x3 x4 old v _ I4 r3 r4 q4) λnew s5 ⟨x5,H5,I5,r5,q5⟩=>?_
 exact bH (hs ae s5 σ H5 x1 x2 x5 ov iv new _ I5 r1 r2 r5 q5) λ_ s6 ⟨H6,I6,q6⟩=>⟨σ,H6,I6,q6⟩
def ξ (f:Int->Int->Int):YW:=λx y H Q=>∃i j,x=.int i/\y=.int j/\Q (.int (f i j)) H
def Fi:SN X .Add (ξ λi j=>i+j):=by
 intro ae s σ H x y v u Q I r1 r2 h;let⟨i,j,e1,e2,q⟩:=h;subst e1;subst e2;let⟨t,rfl⟩:=r1;let⟨t',rfl⟩:=r2;exact iadd_int ⟨.int _,H,I.tok _,⟨_,()⟩,q⟩
def xH:SN X .Sub (ξ λi j=>i-j):=by
 intro ae s σ H x y v u Q I r1 r2 h;let⟨i,j,e1,e2,q⟩:=h;subst e1;subst e2;let⟨t,rfl⟩:=r1;let⟨t',rfl⟩:=r2;exact isub_int ⟨.int _,H,I.tok _,⟨_,()⟩,q⟩
def ED (c:TT)(tb:TS):TS:=λD σ H=>∃W:Nat->St->Hp->Prop,(∃m,W m σ H)/\∀m σ H,W m σ H ->
 c σ H λb H1=>if b=true then ∃N:St->Hp->Prop,(∀aO H',N aO H'->∃m',m'<m/\W m' aO H')/\tb { D with nx:=N,ct:=N,bk:=D.nx } σ H1 else D.nx σ H1
def kY {c:Expr}{body:List Stmt}(hp:PassesOwn (model X.prog X.w) X.A X.env X.xe)(hc:PT X c tc)(hb:jJ X body tb):PS X (.While c body [] pos) (ED tc tb):=by
 intro ae s σ H D I h;let⟨W,⟨m0,w0⟩,turn⟩:=h;apply wpAny_While (codeAny_whileLoop (λn s'=>∃aO H',Inv X ae aO H' s'/\W n aO H') ?_ m0 ⟨σ,H,I,w0⟩);rintro n s1 ⟨Lh,H1,I1,w1⟩;apply wpAny_passesOwn hp (bH (hc ae s1 Lh H1 _ I1 (turn n Lh H1 w1)) λb s2 ⟨H2,I2,q2⟩=>?_);cases b with
 |true =>
  let⟨N,hN,q2⟩:=q2;rw[aha rfl];apply wpAny_passesOwn hp (bH (hb ae s2 Lh H2 _ I2 q2) λf s3 q3=>?_);cases f with
  |next =>
   let⟨dD,H3,I3,n3⟩:=q3;let⟨m',hm,w3⟩:=hN dD H3 n3;exact⟨m',hm,dD,H3,I3,w3⟩
  |cont =>
   let⟨dD,H3,I3,n3⟩:=q3;let⟨m',hm,w3⟩:=hN dD H3 n3;exact⟨m',hm,dD,H3,I3,w3⟩
  |brk=>exact q3
  |ret v=>exact q3
 |false =>
  rw[aga Z5];exact wpAny_execs_nil ⟨Lh,H2,I2,q2⟩
end
structure It where
 go:Nat->Hp->Prop
 qo:Nat->Hp->V->Hp->Prop
 stop:Nat->Hp->Prop
def eZ (X:Cx)(ae:Γ2)(H:Hp)(b:Addr):Prop :=
 H b=none/\b≠X.env.locals/\b∉X.fs/\(b∈X.ex\/⇑X.fj<=b)/\(∀x c,X.env.cells.lookup x=↑c->c≠b)/\∀p∈X.pn++ae,p.1≠b
def Inv.jO (I:Inv X ae σ H s)(hb:⇑s<=b)(hn:H' b=none):eZ X ae H' b:=by
 apply⟨hn,Xw (Yk I.lt hb),I.acA hb,.inr (Zl I.sz hb),λx c e z=>?_,λp hp z=>?_⟩
 .obtain⟨v,q⟩:=I.cell x c e;exact afa (Yk q.lt (by rw[z];exact hb)) (Yl _)
 .exact afa (Yk (Zq (I.pin p hp).1) (by rw[z];exact hb)) (Yl _)
structure Turn (P:Program)(w:World)(K:Θ1)(tg:Expr)(J:It)(fp:List Addr)(it:Addr)(tn:Nat->Heap->Prop):Prop where
 mem:it∈fp
 obj:∀i h,tn i h->∀b∈fp,∃o,h.get? b=↑o/\∀v,o.data≠.cell v
 keep:∀i h h',tn i h->(∀b∈fp,∀o,h.get? b=↑o->h'.get? b=↑o)->tn i h'
 item:∀(X:Cx),X.prog=P->X.w=w->X.K=K->X.calm->∀(i:Nat) (ae:Γ2) (s:Shared) (σ:St) (H:Hp) (E:Θ2),Inv X ae σ H s->(∀b∈fp,eZ X ae H b)->tn i s.heap->J.go i H ->
  wpAny (model P w) X.A (pyNext (.ref it)) (λr s1=>∃u,r=↑u /\
   wpAny (model P w) X.A (letOwnedTupleGo tg (.ref it) u) (λ_ s2=>∃x H',Inv X ae σ H' s2/\RelV x u/\J.qo i H x H'/\tn (i+1) s2.heap/\∀b∈fp,H' b=none) E s1) E s
 done:∀(X:Cx),X.prog=P->X.w=w->X.K=K->X.calm->∀(i:Nat) (ae:Γ2) (s:Shared) (σ:St) (H:Hp) (E:Θ2),Inv X ae σ H s->(∀b∈fp,eZ X ae H b)->tn i s.heap->J.stop i H ->
  wpAny (model P w) X.A (pyNext (.ref it)) (λr s1=>r=none/\Inv X ae σ H s1) E s
 self:∀(A:Around) (i:Nat) (s:Shared) (Q:Θ2) (E:Θ2),tn i s.heap->Q (.ref it) s->wpAny (model P w) A (pyIter (.ref it)) Q E s
abbrev TI:=St->Hp->(It->Hp->Prop)->Prop
def PIE (X:Cx)(ae:Γ2)(σ:St)(tg:Expr)(R:It->Hp->Prop)(HI:Value)(s2:Shared):Prop :=
 ∃(it:Addr) (fp:List Addr) (tn:Nat->Heap->Prop) (J:It) (H':Hp),HI=.ref it/\Inv X ae σ H' s2/\Turn X.prog X.w X.K tg J fp it tn/\tn 0 s2.heap/\(∀b∈fp,eZ X ae H' b)/\R J H'
def PI (X:Cx)(tg iter:Expr)(wi:TI):Prop :=
 ∀(ae:Γ2) (s:Shared) (σ:St) (H:Hp) (R:It->Hp->Prop),Inv X ae σ H s->wi σ H R ->
  X∪(eval iter X.env) (λv s1=>X∪(pyIter v) (PIE X ae σ tg R) X.xe s1) X.xe s
def uY (ho:s.heap.get? it=↑o)(hc:o.cls=.type n)(hd:o.data=.fields vs)
  (hn:["enumerate","zip","dict_itemiterator","dict_reverseitemiterator","odict_iterator","itertools.zip_longest","itertools.pairwise"].contains n=false) (hQ:Q ⟨⟩ s):wpAny M A (letOwnedTupleGo tg (.ref it) u) Q E s:=by
 unfold letOwnedTupleGo;cases tg<;>first
  |exact aba hQ
  |(cases u<;>first
    |exact aba hQ
    |(apply Za (wpAny_load ho ?_);rw[hc,hd];show wpAny M A (if (["enumerate","zip","dict_itemiterator","dict_reverseitemiterator","odict_iterator","itertools.zip_longest","itertools.pairwise"].contains n&&vs[0]? == some (rawInt _))=true then _ else _) Q E s;rw[aga (by intro h;rw[hn,Bool.false_and] at h;cases h)];exact aba hQ))
def Bs (K:Θ1)(a:Addr):It :=
 ⟨λi H=>∃xs x,bI K H a xs/\xs[i]?=↑x,λi H x H'=>H'=H/\∀xs,bI K H a xs->xs[i]?=↑x,λi H=>∃xs,bI K H a xs/\↥xs<=i⟩
def zf (K:Θ1)(a:Addr):It :=
 ⟨λi H=>∃xs x,aN K H a xs/\xs[i]?=↑x,λi H x H'=>H'=H/\∀xs,aN K H a xs->xs[i]?=↑x,λi H=>∃xs,aN K H a xs/\↥xs<=i⟩
def Ua (lo:Int)(n:Nat):It:=⟨λi _=>i<n,λi H x H'=>H'=H/\x=.int (lo+i),λi _=>n<=i⟩
def qN {P:Program}{w:World}{K:Θ1}(a it:Addr):Turn P w K tg (Bs K a) [it] it (λi h=>h.IsListIter it a i) where
 mem:=by simp
 obj:=λi h st b hb=>by
  let e:b=it:=by simpa using hb
  subst e;let⟨o,e,c,d⟩:=st;exact⟨o,e,λv z=>by rw[d] at z;cases z⟩
 keep:=λi h h' st k=>st.at λo e=>k it (by simp) o e
 item:=by
  intro X hP hw hK hc i ae s σ H E I hf st hg;subst hP hw hK;let⟨xs,x,hq,hx⟩:=hg;let⟨its,rv,p,hz⟩:=I.list hq;let⟨u,hu,ru⟩:=rv.get hx;let⟨f0,f1,f2,f3,f4,f5⟩:=hf it (by simp);apply wpAny_pyNext_list_item st p.isList (x:=u) ‹hu› λh' uj sb=>?_
  let I1:Inv X ae σ H { s with heap:=h' }:=I.turned (t':=s.toks) (λb o hb e=>(sb.2 b hb).trans e) f0 f1 f3 f4 f5;let⟨o,e,c,d⟩:=id uj;exact⟨u,(),uY (s:={ s with heap:=h' }) e c d ∅ ⟨x,H,I1,ru,⟨rfl,λys hy=>by rw[I.vH hy hq];exact hx⟩,uj,λb hb=>(hf b hb).1⟩⟩
 done:=by
  intro X hP hw hK hc i ae s σ H E I hf st hg;subst hP hw hK;let⟨xs,hq,hx⟩:=hg;let⟨its,rv,p,hz⟩:=I.list hq;let⟨f0,f1,f2,f3,f4,f5⟩:=hf it (by simp);let hl:=↥rv;exact wpAny_pyNext_list_end (I.ok.hd hc) st p.isList (by simp;omega) λh' eb=>⟨(),I.turned (t':=s.toks) (λb o hb e=>eb b o hb e) f0 f1 f3 f4 f5⟩
 self:=λ_ _ _ _ _ st h=>wpAny_pyIter_listiter st h
def pf {P:Program}{w:World}{K:Θ1}(a it:Addr):Turn P w K tg (zf K a) [it] it (λi h=>h.IsTupleIter it a i) where
 mem:=by simp
 obj:=λi h st b hb=>by
  let e:b=it:=by simpa using hb
  subst e;let⟨o,e,c,d⟩:=st;exact⟨o,e,λv z=>by rw[d] at z;cases z⟩
 keep:=λi h h' st k=>st.at λo e=>k it (by simp) o e
 item:=by
  intro X hP hw hK hc i ae s σ H E I hf st hg;subst hP hw hK;let⟨xs,x,hq,hx⟩:=hg;let⟨its,rv,p,hz⟩:=I.tuple hq;let⟨u,hu,ru⟩:=rv.get hx;let⟨f0,f1,f2,f3,f4,f5⟩:=hf it (by simp);apply wpAny_pyNext_tuple_item st (show s.heap.IsTuple a its.toArray from p) (x:=u) ‹hu› λh' uj sb=>?_
  let I1:Inv X ae σ H { s with heap:=h' }:=I.turned (t':=s.toks) (λb o hb e=>(sb.2 b hb).trans e) f0 f1 f3 f4 f5;let⟨o,e,c,d⟩:=id uj;exact⟨u,(),uY (s:={ s with heap:=h' }) e c d ∅ ⟨x,H,I1,ru,⟨rfl,λys hy=>by rw[I.jA hy hq];exact hx⟩,uj,λb hb=>(hf b hb).1⟩⟩
 done:=by
  intro X hP hw hK hc i ae s σ H E I hf st hg;subst hP hw hK;let⟨xs,hq,hx⟩:=hg;let⟨its,rv,p,hz⟩:=I.tuple hq;let⟨f0,f1,f2,f3,f4,f5⟩:=hf it (by simp);let hl:=↥rv;exact wpAny_pyNext_tuple_end (I.ok.hd hc) st (show s.heap.IsTuple a its.toArray from p) (by simp;omega) λh' eb=>⟨(),I.turned (t':=s.toks) (λb o hb e=>eb b o hb e) f0 f1 f3 f4 f5⟩
 self:=λ_ _ _ _ _ st h=>wpAny_pyIter_tupleiter st h
def xT {P:Program}{w:World}{K:Θ1}(it:Addr)(lo:Int)(n:Nat):Turn P w K tg (Ua lo n) [it] it (λi h=>IsRangeIter h it (lo+(i:Nat)*1) ((n:Int)-(i:Nat)) 1) where
 mem:=by simp
 obj:=λi h st b hb=>by
  let e:b=it:=by simpa using hb
  subst e;exact⟨_,st,λv z=>by
   let z':Data.fields _=Data.cell v:=z;cases z'⟩
 keep:=λi h h' st k=>k it (by simp) _ st
 item:=by
  intro X hP hw hK hc i ae s σ H E I hf st hg;subst hP hw hK;let⟨f0,f1,f2,f3,f4,f5⟩:=hf it (by simp);let W:=Walks.range (prog:=X.prog) (w:=X.w) (I.ok.hd hc) it lo 1 n;apply W.item i s _ _ hg st λv h' tk hv uj kk=>?_
  let⟨t,rfl⟩:=hv;let I1:Inv X ae σ H { s with heap:=h',toks:=tk }:=I.turned (λb o hb e=>kk b o ‹hb› e) f0 f1 f3 f4 f5;apply⟨_,(),uY (s:={ s with heap:=h',toks:=tk }) (n:="range_iterator") uj rfl rfl ∅ ⟨.int (lo+i),H,I1,⟨t,?_⟩,⟨(),()⟩,uj,λb hb=>(hf b hb).1⟩⟩;rw[Int.mul_one]
 done:=by
  intro X hP hw hK hc i ae s σ H E I hf st hg;subst hP hw hK;let⟨f0,f1,f2,f3,f4,f5⟩:=hf it (by simp);exact wpAny_pyNext_range_end (I.ok.hd hc) st (by have:n<=i:=hg;omega) λh' eb=>⟨(),I.turned (t':=s.toks) (λb o hb e=>eb b o hb e) f0 f1 f3 f4 f5⟩
 self:=λ_ _ _ _ _ st h=>wpAny_pyIter_rangeiter st h
section
variable {X:Cx}{tg:Expr}
def WU (K:Θ1)(tl:TE):TI:=λσ H R=>tl σ H λx H1=>∃a,x=.ref a/\(∃xs,bI K H1 a xs)/\R (Bs K a) H1
def acO (K:Θ1)(tl:TE):TI:=λσ H R=>tl σ H λx H1=>∃a,x=.ref a/\(∃xs,aN K H1 a xs)/\R (zf K a) H1
def FV {ae:Γ2}{σ:St}{lo hi:Int}(I:Inv X ae σ H s)(h1:-(2 ^ 62)<=lo)(h2:lo<2 ^ 62)(h3:-(2 ^ 62)<=hi)(h4:hi<2 ^ 62)
  (q:R (Ua lo (hi-lo).toNat) H):X∪(pyIter (.ref ⇑s)) (PIE X ae σ tg R) E { s with heap:=s.heap.push { cls:=.type "range",data:=.fields #[.int lo t,.int hi u,.int 1 v] },toks:=tk }:=by
 apply wpAny_pyIter_range (IsRange.new ..) (small_one h1 h2 h3 h4) ?_;let I1:Inv X ae σ H { s with heap:=s.heap.push { cls:=.type "range",data:=.fields #[.int lo t,.int hi u,.int 1 v] },toks:=tk }:=I.kept λb o e=>Zn _ e
 apply⟨(s.heap.push { cls:=.type "range",data:=.fields #[.int lo t,.int hi u,.int 1 v] }).objs.size,[(s.heap.push { cls:=.type "range",data:=.fields #[.int lo t,.int hi u,.int 1 v] }).objs.size],_,_,H,(),
  I1.kept (t':=tk) λb o e=>Zn _ e,xT _ lo (hi-lo).toNat,?_,λb hb=>?_,q⟩
 .let e1:lo+((0:Nat):Int)*1=lo:=by simp
  let e2:(((hi-lo).toNat:Nat):Int)-((0:Nat):Int)=Builtin.Range.rangeSize lo hi 1:=by rw[rangeSize_one];split<;>omega
  show IsRangeIter _ _ (lo+((0:Nat):Int)*1) ((((hi-lo).toNat:Nat):Int)-((0:Nat):Int)) 1;rw[e1,e2];exact Z0 _ rfl
 .let e:b=(s.heap.push { cls:=.type "range",data:=.fields #[.int lo t,.int hi u,.int 1 v] }).objs.size:=by simpa using hb
  subst e;exact I1.jO (Zf _) (I1.ca.fresh (Zf _))
def WT (ta:TA):TI:=λσ H R=>ta σ H λvs H1=>∃j:Int,vs=[.int j]/\-(2 ^ 62)<=j/\j<2 ^ 62/\R (Ua 0 j.toNat) H1
def qZ {a:Expr}{ta:TA}(hg:Gl X "range")(hm:X.mg "range"=none)(ha:PA X [a] ta)(hs:starEach [a] X.env=[(false,eval a X.env)]:=by rfl):PI X tg (.Call (.Name "range" p) [a] [] pos) (WT ta):=by
 intro ae s σ H R I h;apply Call_ (gq I hg hm boot_range (PyProof.Rows.callWith_type1 (bH (ha pos ae s σ H _ I h) λus s1 ⟨vs,H1,I1,r1,q1⟩=>?_) hs rfl));let⟨j,e,q1,q2,q⟩:=q1;subst e;cases r1 with
 |cons r rr =>
  cases rr
  let⟨t,rfl⟩:=r;exact call_range_1 (FV I1 ⋯ ⋯ q1 q2 ‹q›)
def acg (wi:TI)(g:TG)(tb:TS):TS:=λD σ H=>wi σ H λJ H1=>∃W:Nat->Nat->St->Hp->Prop,(∃m,W 0 m σ H1)/\∀i m σ H,W i m σ H ->
 (J.stop i H/\D.nx σ H)\/(J.go i H/\∃N:St->Hp->Prop,(∀aO H',N aO H'->∃m',m'<m/\W (i+1) m' aO H')/\∀x H',J.qo i H x H'->g x σ H' λcT H2=>tb { D with nx:=N,ct:=N,bk:=D.nx } cT H2)
def oy (fp:List Addr)(h:Heap):Γ2:=fp.filterMap λb=>(h.get? b).map λo=>(b,o)
def kq (hb:b∈fp)(e:h.get? b=↑o):(b,o)∈oy fp h:=List.mem_filterMap.mpr ⟨b,hb,by rw[e];rfl⟩
def Cg (hp:p∈oy fp h):p.1∈fp/\h.get? p.1=↑p.2:=by
 let⟨b,hb,e⟩:=List.mem_filterMap.mp hp;cases q:h.get? b with
 |none=>rw[q] at e;cases e
 |some o =>
  rw[q] at e;let e':(b,o)=p:=aaa e;subst e';exact⟨hb,q⟩
def Inv.pinned (I:Inv X ae σ H s)(hf:∀b∈fp,eZ X ae H b)(ho:∀b∈fp,∃o,s.heap.get? b=↑o/\∀v,o.data≠.cell v):Inv X (ae++oy fp s.heap) σ H s :=
 I.nz λp hp=>(Zz.mp hp).elim (λz=>I.pin p (Ym _ z)) λz=>by
  let⟨hb,e⟩:=Cg z;let⟨f0,f1,f2,_⟩:=hf p.1 hb;let⟨o,e',d⟩:=ho p.1 hb;rw[e] at e';cases e';exact⟨e,f0,f1,f2,d⟩
def Inv.gJ (I:Inv X (ae++pl) σ H s):Inv X ae σ H s:=I.nz λp hp=>I.pin p (Ym _ (Y8 _ hp))
def sD {iter:Expr}{body:List Stmt}(hp:PassesOwn (model X.prog X.w) X.A X.env X.xe)(hc:X.calm)(hi:PI X tg iter wi)(hg:PG X tg g)(hb:jJ X body tb)
  (hs:∀x,foldedSetIterable iter X.env x=pure x:=by intro _;rfl):PS X (.For tg iter body [] pos) (acg wi g tb):=by
 intro ae s σ H D I h;apply wpAny_For (bH (hi ae s σ H _ I h) λv s1 h1=>bH h1 λHI s2 h2=>?_) hs;let⟨it,fp,tn,J,H2,e,I2,T,fU,f2,W,⟨m0,w0⟩,turn⟩:=h2;subst e;let N1:∀{H':Hp},(∀b∈fp,H' b=none)->∀b∈fp,eZ X ae H' b:=λhn b hb=>⟨hn b hb,(f2 b hb).2⟩
 apply codeAny_forLoop_any (λn s'=>∃i aO H',Inv X ae aO H' s'/\tn i s'.heap/\(∀b∈fp,H' b=none)/\W i n aO H') ?_ m0 ⟨0,σ,H2,I2,fU,λb hb=>(f2 b hb).1,w0⟩;rintro n s3 ⟨i,dD,H3,I3,S0,fr3,w3⟩;rcases turn i n dD H3 w3 with ⟨stop,qn⟩ |⟨go,N,hN,step⟩
 .apply wpAny_passesOwn hp (bH (T.done X rfl rfl rfl hc i ae s3 dD H3 X.xe I3 (N1 fr3) S0 stop) λr s4 ⟨hr,I4⟩=>?_);subst hr;exact wpAny_execs_nil ⟨dD,H3,I4,qn⟩
 .apply wpAny_passesOwn hp (bH (T.item X rfl rfl rfl hc i ae s3 dD H3 X.xe I3 (N1 fr3) S0 go) λr s4 ⟨u,hr,h4⟩=>?_);subst hr;apply wpAny_passesOwn hp (bH h4 λ_ s5 ⟨x,H5,I5,r5,y5,pT,YQ⟩=>?_);let I5':=I5.pinned (N1 YQ) (T.obj _ _ pT);apply wpAny_passesOwn hp (bH (hg _ s5 dD H5 x u _ I5' r5 (step x H5 y5)) λ_ s6 ⟨σ6,H6,I6,q6⟩=>?_);apply wpAny_passesOwn hp (bH (hb _ s6 σ6 H6 _ I6 q6) λf s7 q7=>?_);let again:∀{Dn:St}{H7:Hp},Inv X (ae++oy fp s5.heap) Dn H7 s7->N Dn H7->∃m,m<n/\∃i aO H',Inv X ae aO H' s7/\tn i s7.heap/\(∀b∈fp,H' b=none)/\W i m aO H':=λ{Dn H7} I7 n7=>by
   let⟨m',hm,w7⟩:=hN Dn H7 n7;apply⟨m',hm,i+1,Dn,H7,I7.gJ,T.keep _ _ _ pT λb hb o e=>(I7.pin (b,o) (Ym _ (Ym _ (kq hb e)))).1,λb hb=>?_,w7⟩;let⟨o,e,d⟩:=T.obj _ _ pT b hb;exact(I7.pin (b,o) (Ym _ (Ym _ (kq hb e)))).2.1
  cases f with
  |next=>let⟨Dn,H7,I7,n7⟩:=q7;exact again I7 n7
  |cont=>let⟨Dn,H7,I7,n7⟩:=q7;exact again I7 n7
  |brk=>let⟨Dn,H7,I7,q7⟩:=q7;exact⟨Dn,H7,I7.gJ,q7⟩
  |ret v=>let⟨x7,Dn,H7,I7,r7,q7⟩:=q7;exact⟨x7,Dn,H7,I7.gJ,r7,q7⟩
end
def GX {K:Θ1}{a:Addr}{g:TG}{tb:TS}{D:Ends}(Pv:Nat->St->Hp->Prop)(h0:Pv 0 σ H)(hl:∀i σ H,i<=↥xs->Pv i σ H->bI K H a xs)
  (hs:∀i x σ H,xs[i]?=↑x->Pv i σ H->g x σ H λcT H2=>tb { D with nx:=Pv (i+1),ct:=Pv (i+1),bk:=D.nx } cT H2) (hd:∀σ H,Pv ↥xs σ H->D.nx σ H) :
  ∃W:Nat->Nat->St->Hp->Prop,(∃m,W 0 m σ H)/\∀i m σ H,W i m σ H ->
   ((Bs K a).stop i H/\D.nx σ H)\/((Bs K a).go i H/\∃N:St->Hp->Prop,(∀aO H',N aO H'->∃m',m'<m/\W (i+1) m' aO H')/\∀x H',(Bs K a).qo i H x H'->g x σ H' λcT H2=>tb { D with nx:=N,ct:=N,bk:=D.nx } cT H2):=by
 apply⟨λi m σ H=>m=↥xs-i/\i<=↥xs/\Pv i σ H,⟨↥xs,by simp,Z9 _,h0⟩,?_⟩;rintro i m σ H ⟨rfl,hi,p⟩;let q:=hl i σ H hi p;by_cases cN:i<↥xs
 .apply .inr ⟨⟨xs,xs[i],q,by simp[cN]⟩,Pv (i+1),λaO H' p'=>⟨↥xs-(i+1),⋯,(),cN,p'⟩,λx H' y=>?_⟩;let⟨e,y⟩:=y;subst e;exact hs i x σ _ (y xs q) p
 .let e:i=↥xs:=⋯;subst e;exact .inl ⟨⟨xs,q,Zf _⟩,hd σ H p⟩
def KY {K:Θ1}{a:Addr}{g:TG}{tb:TS}{D:Ends}(Pv:Nat->St->Hp->Prop)(h0:Pv 0 σ H)(hl:∀i σ H,i<=↥xs->Pv i σ H->aN K H a xs)
  (hs:∀i x σ H,xs[i]?=↑x->Pv i σ H->g x σ H λcT H2=>tb { D with nx:=Pv (i+1),ct:=Pv (i+1),bk:=D.nx } cT H2) (hd:∀σ H,Pv ↥xs σ H->D.nx σ H) :
  ∃W:Nat->Nat->St->Hp->Prop,(∃m,W 0 m σ H)/\∀i m σ H,W i m σ H ->
   ((zf K a).stop i H/\D.nx σ H)\/((zf K a).go i H/\∃N:St->Hp->Prop,(∀aO H',N aO H'->∃m',m'<m/\W (i+1) m' aO H')/\∀x H',(zf K a).qo i H x H'->g x σ H' λcT H2=>tb { D with nx:=N,ct:=N,bk:=D.nx } cT H2):=by
 apply⟨λi m σ H=>m=↥xs-i/\i<=↥xs/\Pv i σ H,⟨↥xs,by simp,Z9 _,h0⟩,?_⟩;rintro i m σ H ⟨rfl,hi,p⟩;let q:=hl i σ H hi p;by_cases cN:i<↥xs
 .apply .inr ⟨⟨xs,xs[i],q,by simp[cN]⟩,Pv (i+1),λaO H' p'=>⟨↥xs-(i+1),⋯,(),cN,p'⟩,λx H' y=>?_⟩;let⟨e,y⟩:=y;subst e;exact hs i x σ _ (y xs q) p
 .let e:i=↥xs:=⋯;subst e;exact .inl ⟨⟨xs,q,Zf _⟩,hd σ H p⟩
def oM (Pv:St->Hp->Prop)(μ : St->Hp->Nat)(h0:Pv σ H)
  (hs:∀σ H,Pv σ H->c σ H λb H1=>if b=true then tb { D with nx:=λaO H'=>Pv aO H'/\μ aO H' < μ σ H,ct:=λaO H'=>Pv aO H'/\μ aO H' < μ σ H,bk:=D.nx } σ H1 else D.nx σ H1)
  (mono:∀σ H Q Q',(∀b H1,Q b H1->Q' b H1)->c σ H Q->c σ H Q'):ED c tb D σ H:=by
 apply⟨λm σ H=>m=μ σ H/\Pv σ H,⟨_,(),h0⟩,?_⟩;rintro m σ H ⟨rfl,p⟩;apply mono σ H _ _ (λb H1 q=>?_) (hs σ H p);cases b with
 |true=>exact⟨_,λaO H' ⟨p',l⟩=>⟨_,l,(),p'⟩,q⟩
 |false=>exact q
abbrev R2:=V->V->Hp->VK->Prop
def eT (X:Cx)(f:Value->Value->Sem Value)(r:R2):Prop :=
 ∀(ae:Γ2) (s:Shared) (σ:St) (H:Hp) (x y:V) (v u:Value) (Q:VK),Inv X ae σ H s->RelV x v->RelV y u->r x y H Q ->
  X∪(f v u) (EP X ae σ Q) X.xe s
def UnR (X:Cx)(f:Value->Sem Value)(r:V->Hp->VK->Prop):Prop :=
 ∀(ae:Γ2) (s:Shared) (σ:St) (H:Hp) (x:V) (v:Value) (Q:VK),Inv X ae σ H s->RelV x v->r x H Q ->
  X∪(f v) (EP X ae σ Q) X.xe s
def cg (X:Cx)(f:Value)(r:List V->Hp->VK->Prop):Prop :=
 ∀(ae:Γ2) (s:Shared) (σ:St) (H:Hp) (xs:List V) (us:Δ3) (Q:VK),Inv X ae σ H s->bw xs us->r xs H Q ->
  X∪(call f us) (EP X ae σ Q) X.xe s
def adh (X:Cx)(r:V->Hp->(Bool->Hp->Prop)->Prop):Prop :=
 ∀(ae:Γ2) (s:Shared) (σ:St) (H:Hp) (x:V) (v:Value) (Q:Bool->Hp->Prop),Inv X ae σ H s->RelV x v->r x H Q ->
  X∪(truthy v) (TP X ae σ Q) X.xe s
def Nc (r:R2)(ta tb:TE):TE:=λσ H Q=>ta σ H λx H1=>tb σ H1 λy H2=>r x y H2 Q
def tUn (r:V->Hp->VK->Prop)(ta:TE):TE:=λσ H Q=>ta σ H λx H1=>r x H1 Q
def rI (C:Int->Int->Prop)(g:Int->Int->V):R2:=λx y H Q=>∃i j,x=.int i/\y=.int j/\C i j/\Q (g i j) H
def Ds (g:Int->Int->V):R2:=λx y H Q=>∃i j,x=.int i/\y=.int j/\Q (g i j) H
def rU (g:Int->V):V->Hp->VK->Prop:=λx H Q=>∃i,x=.int i/\Q (g i) H
section
variable {X:Cx}{a b c:Expr}{ta tb tc:TE}{pos:Pos}
def OH (ha:PE X a ta)(hb:PE X b tb){ae:Γ2}{s:Shared}{R:V->V->Hp->Prop}(I:Inv X ae σ H s)
  (h:ta σ H λx H1=>tb σ H1 λy H2=>R x y H2) {f:Value->Value->Sem Value}
  (hf:∀v u s2 x y H2,Inv X ae σ H2 s2->RelV x v->RelV y u->R x y H2->X∪(f v u) Q X.xe s2) :
  X∪(eval a X.env) (λv bT=>X∪(eval b X.env) (λu dm=>X∪(f v u) Q X.xe dm) X.xe bT) X.xe s:=by
 apply bH (ha ae s σ H _ I h) λv s1 ⟨x,H1,I1,r1,q1⟩=>?_
 apply bH (hb ae s1 σ H1 _ I1 q1) λu s2 ⟨y,H2,I2,r2,q2⟩=>?_
 exact hf v u s2 x y H2 I2 r1 r2 q2
def dQ {op:Operator}{r:R2}(ho:eT X (binaryOp op) r)(ha:PE X a ta)(hb:PE X b tb):PE X (.BinOp a op b pos) (Nc r ta tb):=by
 intro ae s σ H Q I h;exact wpAny_BinOp (OH ha hb I h λv u s2 x y H2 I2 rx ry q=>ho ae s2 σ H2 x y v u Q I2 rx ry q)
def L9 {op:UnaryOp}{r:V->Hp->VK->Prop}(ho:UnR X (unaryOp op) r)(ha:PE X a ta):PE X (.UnaryOp op a pos) (tUn r ta):=by
 intro ae s σ H Q I h;exact UnaryOp_ (bH (ha ae s σ H _ I h) λv s1 ⟨x,H1,I1,r1,q1⟩=>ho ae s1 σ H1 x v Q I1 r1 q1)
def Sc {f:Value->Value->Sem Value}{C:Int->Int->Prop}{g:Int->Int->Int}
  (rule:∀(i j:Int) (t u:Tok) (s:Shared) (Q:Θ2) (E:Θ2),C i j->Q (.int (g i j) s.toks) { s with toks:=s.toks+1 }->X∪(f (.int i t) (.int j u)) Q E s) :
  eT X f (rI C λi j=>.int (g i j)):=by
 intro ae s σ H x y v u Q I rx ry h;let⟨i,j,rfl,rfl,hc,q⟩:=h;let⟨t,rfl⟩:=rx;let⟨t',rfl⟩:=ry;exact rule i j t t' s _ _ hc ⟨.int (g i j),H,I.tok _,⟨_,()⟩,q⟩
def UK {f:Value->Value->Sem Value}{g:Int->Int->Int}
  (rule:∀(i j:Int) (t u:Tok) (s:Shared) (Q:Θ2) (E:Θ2),Q (.int (g i j) s.toks) { s with toks:=s.toks+1 }->X∪(f (.int i t) (.int j u)) Q E s) :
  eT X f (Ds λi j=>.int (g i j)):=by
 intro ae s σ H x y v u Q I rx ry h;let⟨i,j,rfl,rfl,q⟩:=h;let⟨t,rfl⟩:=rx;let⟨t',rfl⟩:=ry;exact rule i j t t' s _ _ ⟨.int (g i j),H,I.tok _,⟨_,()⟩,q⟩
def Ik {f:Value->Value->Sem Value}{g:Int->Int->Bool}
  (rule:∀(i j:Int) (t u:Tok) (s:Shared) (Q:Θ2) (E:Θ2),Q (.bool (g i j)) s->X∪(f (.int i t) (.int j u)) Q E s) :
  eT X f (Ds λi j=>.bl (g i j)):=by
 intro ae s σ H x y v u Q I rx ry h;let⟨i,j,rfl,rfl,q⟩:=h;let⟨t,rfl⟩:=rx;let⟨t',rfl⟩:=ry;exact rule i j t t' s _ _ ⟨.bl (g i j),H,I,(),q⟩
def adm (i j:Int):Prop:=0<j/\j<1073741824
def adl (i j:Int):Prop:=0<=j/\j<=1000000/\i.natAbs<2 ^ 64
def Pk (i j:Int):Prop:=(-(2 ^ 64)<i/\i<2 ^ 64)\/(-(2 ^ 64)<j/\j<2 ^ 64)
def Pk.ok (h:Pk i j):IntMulOk i j:=by
 rcases h with ⟨h1,h2⟩ |⟨h1,h2⟩
 .exact .of_left (intBits_le_64 h1 h2)
 .exact .of_right (intBits_le_64 h1 h2)
def eF:eT X (binaryOp .Add) (Ds λi j=>.int (i+j)):=UK λ_ _ _ _ _ _ _ q=>add_int q
def xB:eT X (binaryOp .Sub) (Ds λi j=>.int (i-j)):=UK λ_ _ _ _ _ _ _ q=>sub_int q
def iZ:eT X (binaryOp .Mult) (rI Pk λi j=>.int (i*j)):=Sc λ_ _ _ _ _ _ _ hc q=>mul_int q hc.ok
def tD:eT X (binaryOp .FloorDiv) (rI adm λi j=>.int (i / j)):=Sc λi j _ _ _ _ _ hc q=>by
 let h1:(0:Int)<j:=hc.1;let h2:j<1073741824:=hc.2;exact floordiv_int ⋯ (by rw[Qx i ⋯];exact q) (.inl (PyProof.noPylong_small ⋯))
def ib:eT X (binaryOp .Mod) (rI (λ_ j=>0<j) λi j=>.int (i % j)):=Sc λi j _ _ _ _ _ hc q=>by
 let h1:(0:Int)<j:=hc;exact mod_int' ⋯ (by rw[Int.fmod_eq_emod_of_nonneg i ⋯];exact q)
def Az:eT X (binaryOp .Mod) (rI (λ_ j=>j≠0) λi j=>.int (i.fmod j)):=Sc λ_ _ _ _ _ _ _ hc q=>mod_int' hc q
def oz:eT X (binaryOp .Pow) (rI adl λi j=>.int (i ^ j.toNat)):=Sc λ_ _ _ _ _ _ _ hc q=>pow_int_small hc.1 hc.2.1 hc.2.2 q
def unI {f:Value->Sem Value}{g:Int->Int}
  (rule:∀(i:Int) (t:Tok) (s:Shared) (Q:Θ2) (E:Θ2),Q (.int (g i) s.toks) { s with toks:=s.toks+1 }->X∪(f (.int i t)) Q E s) :
  UnR X f (rU λi=>.int (g i)):=by
 intro ae s σ H x v Q I rx h;let⟨i,rfl,q⟩:=h;let⟨t,rfl⟩:=rx;exact rule i t s _ _ ⟨.int (g i),H,I.tok _,⟨_,()⟩,q⟩
def EA:UnR X (unaryOp .USub) (rU λi=>.int (-i)):=unI λ_ _ _ _ _ q=>neg_int q
end
def UA:V->V->Bool
 |.cj,.cj=>true |.cj,.int _=>true |.int _,.cj=>true |.cj,.bl _=>true |.bl _,.cj=>true |.cj,.str _=>true |.str _,.cj=>true
 |.int _,.int _=>true |.bl _,.bl _=>true |.str _,.str _=>true |.Bp _,.Bp _=>true
 |.int _,.str _=>true |.str _,.int _=>true |.bl _,.str _=>true |.str _,.bl _=>true
 |_,_=>false
def rEq:R2:=λx y H Q=>UA x y/\Q (.bl (decide (x=y))) H
def rNe:R2:=λx y H Q=>UA x y/\Q (.bl (!decide (x=y))) H
def A7:decide (V.int i=V.int j)=(i == j):=by
 rw[Ya];simp
def Fp:decide (V.bl i=V.bl j)=(i == j):=by
 rw[Ya];simp
def A6:decide (V.str i=V.str j)=(i == j):=by
 rw[Ya];simp
def A8:decide (V.Bp i=V.Bp j)=(i.toList == j.toList):=by
 rw[Ya];cases i;cases j;simp
section
variable {X:Cx}{a b c:Expr}{ta tb tc:TE}{pos:Pos}
def jX (I:Inv X ae σ H s)(q:Q (.bl k) H)(e:k=k'):EP X ae σ Q (.bool k') s:=by
 subst e;exact⟨.bl k,H,I,(),q⟩
def oh:eT X (compareOp .Eq) rEq:=by
 intro ae s σ H x y v u Q I rx ry h;let⟨hs,q⟩:=h;cases x with
 |cj =>
  cases rx
  cases y with
  |cj=>cases ry;exact PySem.EqNone.eq_none_none (jX I q (by simp))
  |bl j=>cases ry;exact PySem.EqNone.eq_none_bool (jX I q (by simp))
  |int j=>let⟨t',rfl⟩:=ry;exact PySem.EqNone.eq_none_int (jX I q (by simp))
  |str j=>let⟨t',rfl⟩:=ry;exact PySem.EqNone.eq_none_str (jX I q (by simp))
  |_=>exact afa (show false=true from hs) Z5
 |bl i =>
  cases rx
  cases y with
  |cj=>cases ry;exact PySem.EqNone.eq_bool_none (jX I q (by simp))
  |bl j=>cases ry;exact eq_bool (jX I q Fp)
  |str j=>let⟨t',rfl⟩:=ry;exact PySem.EqMixed.eq_bool_str (jX I q (by simp))
  |_=>exact afa (show false=true from hs) Z5
 |int i =>
  let⟨t,rfl⟩:=rx;cases y with
  |cj=>cases ry;exact PySem.EqNone.eq_int_none (jX I q (by simp))
  |int j=>let⟨t',rfl⟩:=ry;exact eq_int (jX I q A7)
  |str j=>let⟨t',rfl⟩:=ry;exact PySem.EqMixed.eq_int_str (jX I q (by simp))
  |_=>exact afa (show false=true from hs) Z5
 |str i =>
  let⟨t,rfl⟩:=rx;cases y with
  |cj=>cases ry;exact PySem.EqNone.eq_str_none (jX I q (by simp))
  |bl j=>cases ry;exact PySem.EqMixed.eq_str_bool (jX I q (by simp))
  |int j=>let⟨t',rfl⟩:=ry;exact PySem.EqMixed.eq_str_int (jX I q (by simp))
  |str j=>let⟨t',rfl⟩:=ry;exact eq_str (jX I q A6)
  |_=>exact afa (show false=true from hs) Z5
 |Bp i =>
  let⟨t,rfl⟩:=rx;cases y with
  |Bp j=>let⟨t',rfl⟩:=ry;exact PySem.W.eq_bytes (jX I q A8)
  |_=>exact afa (show false=true from hs) Z5
 |_=>cases y<;>exact afa (show false=true from hs) Z5
def mF:eT X (compareOp .NotEq) rNe:=by
 intro ae s σ H x y v u Q I rx ry h;let⟨hs,q⟩:=h;cases x with
 |cj =>
  cases rx
  cases y with
  |cj=>cases ry;exact PySem.EqNone.ne_none_none (jX I q (by simp))
  |bl j=>cases ry;exact PySem.EqNone.ne_none_bool (jX I q (by simp))
  |int j=>let⟨t',rfl⟩:=ry;exact PySem.EqNone.ne_none_int (jX I q (by simp))
  |str j=>let⟨t',rfl⟩:=ry;exact PySem.EqNone.ne_none_str (jX I q (by simp))
  |_=>exact afa (show false=true from hs) Z5
 |bl i =>
  cases rx
  cases y with
  |cj=>cases ry;exact PySem.EqNone.ne_bool_none (jX I q (by simp))
  |bl j=>cases ry;exact ne_bool (jX I q (ata not Fp))
  |str j=>let⟨t',rfl⟩:=ry;exact PySem.EqMixed.ne_bool_str (jX I q (by simp))
  |_=>exact afa (show false=true from hs) Z5
 |int i =>
  let⟨t,rfl⟩:=rx;cases y with
  |cj=>cases ry;exact PySem.EqNone.ne_int_none (jX I q (by simp))
  |int j=>let⟨t',rfl⟩:=ry;exact ne_int (jX I q (ata not A7))
  |str j=>let⟨t',rfl⟩:=ry;exact PySem.EqMixed.ne_int_str (jX I q (by simp))
  |_=>exact afa (show false=true from hs) Z5
 |str i =>
  let⟨t,rfl⟩:=rx;cases y with
  |cj=>cases ry;exact PySem.EqNone.ne_str_none (jX I q (by simp))
  |bl j=>cases ry;exact PySem.EqMixed.ne_str_bool (jX I q (by simp))
  |int j=>let⟨t',rfl⟩:=ry;exact PySem.EqMixed.ne_str_int (jX I q (by simp))
  |str j=>let⟨t',rfl⟩:=ry;exact ne_str (jX I q (ata not A6))
  |_=>exact afa (show false=true from hs) Z5
 |Bp i =>
  let⟨t,rfl⟩:=rx;cases y with
  |Bp j=>let⟨t',rfl⟩:=ry;exact PySem.W.ne_bytes (jX I q (ata not A8))
  |_=>exact afa (show false=true from hs) Z5
 |_=>cases y<;>exact afa (show false=true from hs) Z5
def qE:eT X (compareOp .Lt) (Ds λi j=>.bl (decide (i<j))):=Ik λ_ _ _ _ _ _ _ q=>lt_int q
def iR:eT X (compareOp .LtE) (Ds λi j=>.bl (decide (i<=j))):=Ik λ_ _ _ _ _ _ _ q=>le_int q
def jS:eT X (compareOp .Gt) (Ds λi j=>.bl (decide (j<i))):=Ik λ_ _ _ _ _ _ _ q=>gt_int q
def WA:eT X (compareOp .GtE) (Ds λi j=>.bl (decide (j<=i))):=Ik λ_ _ _ _ _ _ _ q=>ge_int q
def Ay:eT X (compareOp .IsNot) (λx y H Q=>y=.cj/\Q (.bl (!decide (x=.cj))) H):=by
 intro ae s σ H x y v u Q I rx ry h;let⟨rfl,q⟩:=h;cases ry;apply isnot_none_gen (jX I q ?_);cases x<;>first
  |(cases rx;rfl)
  |(let⟨t,rfl⟩:=rx;rfl)
def eT.or (h:eT X f r)(h':eT X f r'):eT X f (λx y H Q=>r x y H Q\/r' x y H Q):=by
 intro ae s σ H x y v u Q I rx ry q;rcases q with q |q
 .exact h ae s σ H x y v u Q I rx ry q
 .exact h' ae s σ H x y v u Q I rx ry q
def aL (b:Expr)(h:op≠.In:=by decide)(h2:op≠.NotIn:=by decide):behindInMarks op b=false:=by
 let e1:(op == CmpOp.In)=false:=by cases op<;>first |rfl |exact afa rfl h
 let e2:(op == CmpOp.NotIn)=false:=by cases op<;>first |rfl |exact afa rfl h2
 cases b<;>simp[behindInMarks,e1,e2]
def fc {op:CmpOp}{r:R2}(ho:eT X (compareOp op) r)(ha:PE X a ta)(hb:PE X b tb)(hm:behindInMarks op b=false):PE X (.Compare a [op] [b] pos) (Nc r ta tb):=by
 intro ae s σ H Q I h;exact wpAny_Compare1 (OH ha hb I h λv u s2 x y H2 I2 rx ry q=>ho ae s2 σ H2 x y v u Q I2 rx ry q) hm
def Ea (t:TE):TT:=λσ H Q=>t σ H λx H'=>∃k,x=.bl k/\Q k H'
def nR {op:CmpOp}{r:R2}(ho:eT X (compareOp op) r)(ha:PE X a ta)(hb:PE X b tb)(hm:behindInMarks op b=false):PT X (.Compare a [op] [b] pos) (Ea (Nc r ta tb)):=by
 intro ae s σ H Q I h;apply wpAny_isTrue_Compare1 (bH (ha ae s σ H _ I h) λv s1 ⟨x,H1,I1,r1,q1⟩=>bH (hb ae s1 σ H1 _ I1 q1) λu s2 ⟨y,H2,I2,r2,q2⟩ =>
  bH (ho ae s2 σ H2 x y v u _ I2 r1 r2 q2) λc s3 ⟨z,H3,I3,r3,k,e,q3⟩=>?_) hm
 subst e;cases r3;exact ara ⟨H3,I3,q3⟩
def EF (r r':R2)(ta tb tc:TE):TE:=λσ H Q=>ta σ H λx H1=>tb σ H1 λy H2=>r x y H2 λz H3=>∃k,z=.bl k /\
 (if k=true then tc σ H3 λw' H4=>r' y w' H4 Q else Q (.bl false) H3)
def oS {op Nh:CmpOp}{r r':R2}(ho:eT X (compareOp op) r)(rP:eT X (compareOp Nh) r')(ha:PE X a ta)(hb:PE X b tb)(hc:PE X c tc)
  (hm:lastMarks [op,Nh] [b,c]=false:=by with_unfolding_all rfl):PE X (.Compare a [op,Nh] [b,c] pos) (EF r r' ta tb tc):=by
 intro ae s σ H Q I h;apply Compare_chain (bH (ha ae s σ H _ I h) λv s1 ⟨x,H1,I1,r1,q1⟩=>chain_link (bH (hb ae s1 σ H1 _ I1 q1) λu s2 ⟨y,H2,I2,r2,q2⟩ =>
  bH (ho ae s2 σ H2 x y v u _ I2 r1 r2 q2) λd s3 ⟨z,H3,I3,r3,k,e,q3⟩=>?_)) hm
 subst e;cases r3;apply ara ?_;cases k with
 |false=>exact ite_ff ⟨.bl false,H3,I3,(),q3⟩
 |true=>exact ite_tt (chain_last (bH (hc ae s3 σ H3 _ I3 q3) λw' s4 ⟨z',H4,I4,r4,q4⟩=>rP ae s4 σ H4 y z' u w' Q I4 r2 r4 q4))
def vm {op Nh:CmpOp}{r r':R2}(ho:eT X (compareOp op) r)(rP:eT X (compareOp Nh) r')(ha:PE X a ta)(hb:PE X b tb)(hc:PE X c tc)
  (hm:lastMarks [op,Nh] [b,c]=false:=by with_unfolding_all rfl):PT X (.Compare a [op,Nh] [b,c] pos) (Ea (EF r r' ta tb tc)):=by
 intro ae s σ H Q I h;apply isTrue_chain (bH (ha ae s σ H _ I h) λv s1 ⟨x,H1,I1,r1,q1⟩=>test_link (bH (hb ae s1 σ H1 _ I1 q1) λu s2 ⟨y,H2,I2,r2,q2⟩ =>
  bH (ho ae s2 σ H2 x y v u _ I2 r1 r2 q2) λd s3 ⟨z,H3,I3,r3,k,e,q3⟩=>?_)) hm
 subst e;cases r3;apply ara ?_;cases k with
 |false =>
  let⟨k',e',q'⟩:=q3;cases e';exact ite_ff ⟨H3,I3,q'⟩
 |true =>
  apply ite_tt (test_last (bH (hc ae s3 σ H3 _ I3 q3) λw' s4 ⟨z',H4,I4,r4,q4⟩=>bH (rP ae s4 σ H4 y z' u w' _ I4 r2 r4 q4) λd' s5 ⟨z2,H5,I5,r5,k2,e2,q5⟩=>?_));subst e2;cases r5;exact ara ⟨H5,I5,q5⟩
def VC (K:Θ1)(x:V)(H:Hp)(k:Bool):Prop :=
 match x with
 |.cj=>k=false
 |.bl b=>k=b
 |.int i=>k=(i != 0)
 |.str y=>↥y<=sizeLine/\k=((↥y:Int) != 0)
 |.Bp y=>y.size<=sizeLine/\k=((y.size:Int) != 0)
 |.ref p=>(∃xs,bI K H p xs/\k=!xs.isEmpty)\/(∃xs,aN K H p xs/\k=!xs.isEmpty)\/∃kvs,H p=↑(.dK kvs)/\k=!kvs.isEmpty
 |_=>False
def yD {κ : Type}{kvs:List (κ × V)}{vs:List (κ × Value)}(r:KV kvs vs):(!vs.isEmpty)=!kvs.isEmpty:=by
 cases r<;>rfl
def pD {xs:List V}{its:Δ3}(r:bw xs its):(!its.toArray.isEmpty)=!xs.isEmpty:=by
 cases r<;>simp
def j8:(sizeLine:Nat)<2 ^ 63:=by rw[sizeLine_eq];decide
def Pp:adh X (λx H Q=>∃k,VC X.K x H k/\Q k H):=by
 intro ae s σ H x v Q I rx h;let⟨k,e,q⟩:=h;let hl:=j8;let hs:sizeLine=16777216:=sizeLine_eq;cases x with
 |cj =>
  cases rx
  let e':k=false:=e;subst e';exact truthy_none ⟨H,I,q⟩
 |bl b =>
  cases rx
  let e':k=b:=e;subst e';exact ara ⟨H,I,q⟩
 |int i =>
  let⟨t,rfl⟩:=rx;let e':k=(i != 0):=e;subst e';exact PySem.P.truthy_int ⟨H,I,q⟩
 |str y =>
  let⟨t,rfl⟩:=rx;obtain⟨hy,e'⟩:↥y<=sizeLine/\k=((↥y:Int) != 0):=e;subst e';exact PySem.P.truthy_str ⋯ ⟨H,I.tok _,q⟩
 |Bp y =>
  let⟨t,rfl⟩:=rx;obtain⟨hy,e'⟩:y.size<=sizeLine/\k=((y.size:Int) != 0):=e;subst e';exact PySem.W.truthy_bytes ⋯ ⟨H,I.tok _,q⟩
 |ref p =>
  cases rx
  let e':(∃xs,bI X.K H p xs/\k=!xs.isEmpty)\/(∃xs,aN X.K H p xs/\k=!xs.isEmpty)\/∃kvs,H p=↑(.dK kvs)/\k=!kvs.isEmpty:=e;rcases e' with ⟨xs,hx,e'⟩ |⟨xs,hx,e'⟩ |⟨kvs,hx,e'⟩
  .subst e';let⟨its,r,pl,hz⟩:=I.list hx;let cA:=↥r;exact wpAny_truthy_list pl.isList (by simp only[Z2];omega) ⟨H,I.tok _,by rw[pD r];exact q⟩
  .subst e';let⟨its,r,pl,hz⟩:=I.tuple hx;let cA:=↥r;exact truthy_tuple pl (by simp only[Z2];omega) ⟨H,I.tok _,by rw[pD r];exact q⟩
  .subst e';obtain⟨hz,hS,vs,r,m⟩:↥kvs<=sizeLine/\(p == sysModules)=false/\∃vs,KV kvs vs/\s.heap.DictOf (mr X.prog X.w) p vs:=I.ca p _ hx;let cA:↥kvs=↥vs:=Paired.length r;exact wpAny_truthy_dict hS m ⋯ ⟨H,I.tok _,by rw[yD r];exact q⟩
 |_=>exact(show False from e).elim
def vk (ha:PE X a ta)(he:∀whole,isTrue a X.env whole=(do let v <- whole;standAt a.pos;holding [v] (truthy v))) :
  PT X a (λσ H Q=>ta σ H λx H'=>∃k,VC X.K x H' k/\Q k H'):=by
 intro ae s σ H Q I h;exact isTrue_plain (bH (ha ae s σ H _ I h) λv s1 ⟨x,H1,I1,r1,q1⟩=>Pp ae s1 σ H1 x v Q I1 r1 q1) (he _)
def vals1 (r:bw [x] us):∃u,us=[u]/\RelV x u:=by
 cases r with
 |cons r1 r2=>cases r2;exact⟨_,(),r1⟩
def vals2 (r:bw [x,y] us):∃u w',us=[u,w']/\RelV x u/\RelV y w':=by
 cases r with
 |cons r1 r2 =>
  cases r2 with
  |cons r3 r4=>cases r4;exact⟨_,_,(),r1,r3⟩
def o7:cg X (.builtin "abs") (λxs H Q=>∃i,xs=[.int i]/\Q (.int (if i<0 then -i else i)) H):=by
 intro ae s σ H xs us Q I r h;let⟨i,rfl,q⟩:=h;let⟨u,rfl,t,rfl⟩:=vals1 r;exact call_abs_int λu tk=>⟨.int (if i<0 then -i else i),H,I.tok _,⟨_,()⟩,q⟩
def CV (hc:X.calm):cg X (.builtin "max") (λxs H Q=>∃i j,xs=[.int i,.int j]/\Q (.int (if j>i then j else i)) H):=by
 intro ae s σ H xs us Q I r h;let⟨i,j,rfl,q⟩:=h;let⟨u,w',rfl,⟨t,rfl⟩,⟨t',rfl⟩⟩:=vals2 r;apply max_two_ints (I.ok.hd hc) λh' tk k=>⟨_,H,I.kept k,?_,q⟩
 by_cases hj:j>i
 .rw[aha hj,aha hj];exact⟨_,()⟩
 .rw[aga hj,aga hj];exact⟨_,()⟩
def CT (hc:X.calm):cg X (.builtin "min") (λxs H Q=>∃i j,xs=[.int i,.int j]/\Q (.int (if j<i then j else i)) H):=by
 intro ae s σ H xs us Q I r h;let⟨i,j,rfl,q⟩:=h;let⟨u,w',rfl,⟨t,rfl⟩,⟨t',rfl⟩⟩:=vals2 r;apply min_two_ints (I.ok.hd hc) λh' tk k=>⟨_,H,I.kept k,?_,q⟩
 by_cases hj:j<i
 .rw[aha hj,aha hj];exact⟨_,()⟩
 .rw[aga hj,aga hj];exact⟨_,()⟩
def CW:cg X (.type "int") (λxs H Q=>(∃i,xs=[.int i]/\Q (.int i) H)\/∃k,xs=[.bl k]/\Q (.int (if k then 1 else 0)) H):=by
 intro ae s σ H xs us Q I r h;rcases h with ⟨i,rfl,q⟩ |⟨k,rfl,q⟩
 .obtain⟨u,rfl,t,rfl⟩:=vals1 r;exact call_int_int ⟨.int i,H,I,⟨_,()⟩,q⟩
 .obtain⟨u,rfl,r1⟩:=vals1 r;cases r1;exact call_int_bool ⟨.int (if k then 1 else 0),H,I.tok _,⟨_,()⟩,q⟩
end
structure OO (h:Heap)(x dx C:Addr)(mA:Θ3):Prop where
 obj:h.get? x=↑(PySem.W.instObj C dx)
 ns:h.Ns1 dx mA
 ne:dx≠x
def Cm {h:Heap}{dx:Addr}(n:h.Ns1 dx mA):∃od,h.get? dx=↑od/\∀name,PySem.W.lookIn name od=↑(mA name):=by
 let⟨o,es,ep,ho,hd,hk,_,hm⟩:=n;apply⟨o,ho,λname=>?_⟩;let e:=hm name;unfold nsFind findBy at e;rw[<- Array.find?_toList] at e;unfold PySem.W.lookIn;rw[hd];dsimp only;split
 .rename_i y q;rw[q] at e;exact ata some e
 .rename_i q;rw[q] at e;let a:es.toList.any (·.refKey)=false:=by
   rw[List.any_eq_false];intro y hy;let⟨z,t,uI⟩:=hk y (Array.mem_toList_iff.mp hy);simp[DictEntry.refKey,uI]
  let a':¬ es.toList.any (·.refKey):=by rw[a];exact Z5
  rw[aga a'];exact ata some e
def OO.look (I:OO h x dx C mA):∃od,PySem.W.InstAt h x (PySem.W.instObj C dx) C ↑od/\∀name,PySem.W.lookIn name od=↑(mA name) :=
 let ⟨od,ho,hl⟩:=Cm I.ns
 ⟨od,⟨I.obj,(),(),ho⟩,hl⟩
section
variable {prog:Program}{w:World}{A:Around}{E:Θ2}{s:Shared}{K:Θ1}{x dx C f:Addr}{mA:Θ3}{name:Str}{v:Value}
end
def aE.some_of (r:aE ↑v o):∃u,o=↑u/\RelV v u:=by
 cases o with
 |none=>exact(show False from r).elim
 |some u=>exact⟨u,(),r⟩
section
variable {P:Program}{w:World}{H H':Hp}{h h':Heap}{a C dx:Addr}{fs fs':List (Str×V)}
def KQ (ca:kA P w H h)(e:H a=↑(.ins C dx fs)):∃mA,OO h a dx C mA/\(∀f,aE (fs.lookup f) (mA f))/\PySem.Within mA (fs.map (·.1))/\↥fs<=1000/\H dx=↑(.own a):=by
 let⟨d,z,ne,ob,mA,n,r,q⟩:=(show cf P w H h a (.ins C dx fs) from ca a _ e);exact⟨mA,⟨ob,n,ne⟩,r,q,z,d⟩
end
structure Cls (K:Θ1)(C:Addr):Prop where
 pg:PySem.W.plainGet K C Str.empty
 hd:PySem.W.hasDictIn K C
 po:PySem.W.plainOver K C
 sa:PySem.W.findIn K (.ref C) "__setattr__"=↑↑(.builtin "object.__setattr__")
def Cls.get {K:Θ1}{C:Addr}(c:Cls K C)(f:Str):PySem.W.plainGet K C f:=c.pg
section
variable {X:Cx}{ae:Γ2}{σ:St}{H:Hp}{s:Shared}{a C dx:Addr}{fs:List (Str×V)}{f:Str}{v:V}{A:Around}{E:Θ2}
end
section
variable {X:Cx}{o e value:Expr}{f:Str}{pos lF rS:Pos}{ta tv:TE}
end
section
variable {X:Cx}{ae:Γ2}{σ:St}{H:Hp}{s:Shared}{A:Around}{E:Θ2}{Q:Θ2}{c:Value}{b:Bool}
inductive jP (K:Θ1) (H:Hp):V->Value->Prop where
 |cj:jP K H .cj (.type "NoneType")
 |bl (x:Bool):jP K H (.bl x) (.type "bool")
 |int (i:Int):jP K H (.int i) (.type "int")
 |str (x:Str):jP K H (.str x) (.type "str")
 |SI (x:UInt64):jP K H (.SI x) (.type "float")
 |lst {a:Addr}{xs:List V}(e:H a=some (.lst xs)):jP K H (.ref a) (.type "list")
 |iK {a:Addr}{o:Obj}{xs:List V}(e:H a=some (.iK o (.lst xs))):jP K H (.ref a) (.type "list")
 |tup {a:Addr}{xs:List V}(e:H a=some (.tup xs)):jP K H (.ref a) (.type "tuple")
 |dK {a:Addr}{kvs:List (d4×V)}(e:H a=some (.dK kvs)):jP K H (.ref a) (.type "dict")
 |dT {a:Addr}{kvs:List (List d4×V)}(e:H a=some (.dT kvs)):jP K H (.ref a) (.type "dict")
 |ins {a C dx:Addr}{fs:List (Str×V)}(e:H a=some (.ins C dx fs)) (cl:Cls K C) (ha:PySem.W.findIn K (.ref C) "__class__"=some (some (.builtin "object.__class__")))
   (hn:PySem.W.specialIn K (.builtin "object.__class__") "__get__"=↑↑(.builtin "getset_descriptor.__get__")) (Lz:PySem.W.takesIn K (.builtin "object.__class__")=↑true)
   (hm:PySem.W.mroIn K C (.type "object")=↑true):jP K H (.ref a) (.ref C)
def Cv (I:Inv X ae σ H s)(rx:RelV x u)(ty:jP X.K H x t)(e:PySem.W.kitOne X.K t c=↑b)(h:∀tk,Q (.bool b) { s with toks:=tk }) :
  wpAny (model X.prog X.w) A (call (.builtin "isinstance") [u,c]) Q E s:=by
 cases ty with
 |cj=>cases (show u=Value.none from rx);exact PySem.W.kia_one PySem.W.kitx_none I.uo True.intro e (λz=>nomatch z) h
 |bl y=>cases (show u=Value.bool y from rx);exact PySem.W.kia_one PySem.W.kitx_bool I.uo True.intro e (λz=>nomatch z) h
 |int i=>let⟨t,q⟩:=(show ∃t,u=Value.int i t from rx);cases q;exact PySem.W.kia_one PySem.W.kitx_int I.uo True.intro e (λz=>nomatch z) h
 |str y=>let⟨t,q⟩:=(show ∃t,u=Value.str y t from rx);cases q;exact PySem.W.kia_one PySem.W.kitx_str I.uo True.intro e (λz=>nomatch z) h
 |SI y=>let⟨t,q⟩:=(show ∃t,u=Value.float y t from rx);cases q;exact PySem.W.kia_one PySem.W.kitx_float I.uo True.intro e (λz=>nomatch z) h
 |@lst a xs ea =>
  cases (show u=Value.ref a from rx)
  let⟨_,_,n,_,h1⟩:=(show cf X.prog X.w H s.heap a (.lst xs) from I.ca a _ ea);exact PySem.W.kia_one PySem.W.kitx_list I.uo ⟨_,h1,()⟩ e (λz=>nomatch z) h
 |@iK a ob xs ea =>
  cases (show u=Value.ref a from rx)
  let⟨_,_,_,n,_,h1⟩:=(show cf X.prog X.w H s.heap a (.iK ob (.lst xs)) from I.ca a _ ea);exact PySem.W.kia_one PySem.W.kitx_list I.uo ⟨_,h1,()⟩ e (λz=>nomatch z) h
 |@tup a xs ea =>
  cases (show u=Value.ref a from rx)
  let⟨_,_,_,p⟩:=(show cf X.prog X.w H s.heap a (.tup xs) from I.ca a _ ea);let⟨o,h1,h2,_⟩:=p;exact PySem.W.kia_one PySem.W.kitx_tuple I.uo ⟨o,h1,h2⟩ e (λz=>nomatch z) h
 |@dK a kvs ea =>
  cases (show u=Value.ref a from rx)
  let⟨_,_,vs,_,p⟩:=(show cf X.prog X.w H s.heap a (.dK kvs) from I.ca a _ ea);let⟨o,es,ep,h1,h2,_⟩:=p;exact PySem.W.kia_one PySem.W.kitx_dict I.uo ⟨o,h1,h2.1⟩ e (λz=>nomatch z) h
 |@dT a kvs ea =>
  cases (show u=Value.ref a from rx)
  let⟨_,_,xs,_,o,es,ep,h1,h2,_⟩:=(show cf X.prog X.w H s.heap a (.dT kvs) from I.ca a _ ea);exact PySem.W.kia_one PySem.W.kitx_dict I.uo ⟨o,h1,h2.1⟩ e (λz=>nomatch z) h
 |@ins a C dx fs ea cl ha hn Lz hm =>
  cases (show u=Value.ref a from rx)
  let⟨mA,O,_⟩:=KQ I.ca ea;let⟨od,J,_⟩:=O.look;exact PySem.W.kia_one (PySem.W.kitx_own (cl.get _) cl.hd ha hn Lz hm) I.uo J e (λz=>nomatch z) h
end
structure c6 (k:Nat)(A:Around):Prop where
 hd:A.handled=none
 dp:A.depth+3*k+105<recursionLimit
 un:A.units+16*k+200<cLine
def c6.mono (r:c6 k A)(h:j<=k):c6 j A:=⟨r.hd,by have:=r.dp;omega,by have:=r.un;omega⟩
def c6.deeper (r:c6 (k+1) A)(env:Env):c6 k (A.deeper env) :=
 ⟨r.hd,by have:=r.dp;show A.depth+1+3*k+105<_;omega,by have:=r.un;show A.units+3+16*k+200<_;omega⟩
def c6.depth (r:c6 k A):A.depth<recursionLimit:=by have:=r.dp;omega
def c6.units (r:c6 k A):A.units+64<cLine:=by have:=r.un;omega
def c6.Pn (r:c6 k A):A.units<cLine:=by have:=r.un;omega
def Uk:TA:=λ_ H Q=>Q [] H
def Eb (ta:TE)(tr:TA):TA:=λσ H Q=>ta σ H λx H1=>tr σ H1 λxs H2=>Q (x::xs) H2
section
variable {X:Cx}{e:Expr}{es:Ξ2}{te:TE}{t:TA}{pos:Pos}
def bU:PA X [] Uk:=λ_ _ _ _ H Q I h=>Calls.spliced_nil ⟨[],H,I,.nil,h⟩
def aZ (ha:PE X e te)(hr:PA X es t)(hs:starEach (e::es) X.env=(false,eval e X.env)::starEach es X.env:=by rfl):PA X (e::es) (Eb te t):=by
 intro pos ae s σ H Q I h;rw[hs];show wpAny _ _ (spliced ((false,eval e X.env)::backTo pos (starEach es X.env))) _ _ s;apply Calls.spliced_cons (bH (ha ae s σ H _ I h) λu s1 ⟨x,H1,I1,r1,q1⟩=>?_);exact bH (hr pos ae s1 σ H1 _ I1 q1) λus s2 ⟨xs,H2,I2,r2,q2⟩=>⟨x::xs,H2,I2,.cons r1 r2,q2⟩
def Ui (t:TA):TE:=λσ H Q=>t σ H λxs H1=>↥xs<=sizeLine/\∀p,H1 p=none->Q (.ref p) (aP H1 p (.tup xs))
def ace (t:TA):TE:=λσ H Q=>t σ H λxs H1=>↥xs<=sizeLine/\∀p,H1 p=none->Q (.ref p) (aP H1 p (.lst xs))
def iY {x1}(h:PA X es t):PE X (.Tuple es x1 pos) (Ui t):=by
 intro ae s σ H Q I hq;apply wpAny_Tuple_spliced (bH (h pos ae s σ H _ I hq) λus s1 ⟨xs,H1,I1,r,z,q⟩=>⟨by rw[<- ↥r];exact z,?_⟩);let hf:H1 ⇑s1=none:=I1.ca.fresh (Zf _);apply⟨.ref ⇑s1,aP H1 ⇑s1 (.tup xs),I1.laid (t':=s1.toks) (λb u e=>Zn _ e) (Zf _) ?_,(),q _ hf⟩;exact⟨z,us,r,⟨_,Z0 _ rfl,(),_,()⟩⟩
def sE (h:PA X es t):PE X (.List es pos) (ace t):=by
 intro ae s σ H Q I hq;apply wpAny_List_spliced (bH (h pos ae s σ H _ I hq) λus s1 ⟨xs,H1,I1,r,z,q⟩=>⟨by rw[<- ↥r];exact z,?_⟩);let hf:H1 ⇑s1=none:=I1.ca.fresh (Zf _);apply⟨.ref ⇑s1,aP H1 ⇑s1 (.lst xs),I1.laid (t':=s1.toks) (λb u e=>Zn _ e) (Zf _) ?_,(),q _ hf⟩;exact⟨z,us,0,r,Z0 _ rfl⟩
end
abbrev Sp:=List V->Hp->VK->XK->Prop
abbrev DK:=List Env->Hp->Shared->XK->Value->Shared->Prop
structure IY (P:Program)(w:World)(K:Θ1)(mg:Θ3)(base:Heap)(A:Around)(outer:List Env)(s:Shared)(H:Hp):Prop where
 frames:A.frames=↑outer
 mod:Mod K mg base
 bs:∀b o,base.get? b=↑o->s.heap.get? b=↑o/\H b=none
 LG:base.objs.size<=⇑s
 nZ:s.heap.FunFrames base outer
 SH:∀b∈DF outer,H b=none
 ca:kA P w H s.heap
 bare:AllBare s.gens
def CE (outer:List Env)(P:Program)(w:World)(H:Hp)(s:Shared)(Q:VK)(u:Value)(s':Shared):Prop :=
 ∃v H',s'.os=s.os/\AllBare s'.gens/\Un (DF outer) [] H H' s.heap s'.heap/\kA P w H' s'.heap/\RelV v u/\Q v H'
def CR (CX:DK)(outer:List Env)(P:Program)(w:World)(H:Hp)(s:Shared)(Q:VK)(E:XK)(r:Result)(s':Shared):Prop :=
 match r with
 |.ok (.ret u)=>CE outer P w H s Q u s'
 |.ok _=>False
 |.error e=>CX outer H s E e s'
structure aF (P:Program)(w:World)(K:Θ1)(mg:Θ3)(base:Heap)(CX:DK)(k:Nat)(f:Addr)(fd:FuncData)(ps:Δ2)(sp:Sp):Prop where
 len:∀vs H Q E,sp vs H Q E->↥vs=↥ps
 run:∀(A:Around) (outer:List Env) (s:Shared) (H:Hp) (args:Args) (us:Δ3) (vs:List V) (Q:VK) (E:XK),c6 k A->IY P w K mg base A outer s H->BindsTo s fd args (ps.zip us)->bw vs us->sp vs H Q E ->
  codeAny (model P w) A (.call (.ref f) args) (CR CX outer P w H s Q E) s
def aF.imp {P:Program}{w:World}{K:Θ1}(F:aF P w K mg base CX k f fd ps sp)
  (h:∀vs H Q E,sp' vs H Q E->sp vs H Q E):aF P w K mg base CX k f fd ps sp' :=
 ⟨λvs H Q E q=>F.len vs H Q E (h _ _ _ _ q),λA outer s H args us vs Q E hr he hb hv hs=>F.run A outer s H args us vs Q E hr he hb hv (h _ _ _ _ hs)⟩
section
variable {X:Cx}{ae:Γ2}{σ:St}{H:Hp}{s s':Shared}
def Inv.ac5 (I:Inv X ae σ H s):IY X.prog X.w X.K X.mg X.base X.A X.stack s H :=
 ⟨I.ok.frames,I.ok.mod,I.bs,Zl I.ok.LG I.sz,I.stack,I.Ag,I.ca,I.bare⟩
def Inv.after (I:Inv X ae σ H s)(h:CE X.stack X.prog X.w H s Q u s'):EP X ae σ Q u s':=by
 let⟨v,H',os,bare,un,ca,r,q⟩:=h;let⟨hh,g,d,t,os'⟩:=s';obtain rfl:os'=s.os:=os;exact⟨v,H',I.call (h':=hh) (g':=g) (d':=d) (t':=t) (ch:=[]) un ca bare (λb z=>afa z (by simp)),r,q⟩
end
def VZ (sp:Sp)(Hz:List V)(E:XK)(t:TA):TE:=λσ H Q=>t σ H λvs H1=>sp (vs++Hz) H1 Q E
def Binds (K:Θ1)(fd:FuncData)(ps:Δ2)(ds:Δ3):Prop :=
 ∀(s:Shared) (us:Δ3),K.In s.heap->↥(us++ds)=↥ps->BindsTo s fd ⟨us,[]⟩ (ps.zip (us++ds))
def Binds.all {K:Θ1}{fd:FuncData}(h:∀us:Δ3,↥us=↥ps->bindArgs fd ⟨us,[]⟩=pure (ps.zip us)):Binds K fd ps []:=λs us _ hl=>by
 rw[Yn] at hl ⊢;exact .of_eq (h us hl)
def xQ (CX:DK)(X:Cx)(E:XK):Prop:=∀(ae:Γ2) (σ:St) (H:Hp) (s:Shared) (e:Value) (s':Shared),Inv X ae σ H s->CX X.stack H s E e s'->X.xe e s'
section
variable {X:Cx}{CX:DK}{k:Nat}{f C:Addr}{fd:FuncData}{ps:Δ2}{sp:Sp}{Hz:List V}{ds:Δ3}{E:XK}{x m:Str}{p pos sj:Pos}{e o:Expr}{es:Ξ2}{ta:TE}{t:TA}
def PH (F:aF X.prog X.w X.K X.mg X.base CX k f fd ps sp)(hr:c6 k X.A)(hb:Binds X.K fd ps ds)(hd:bw Hz ds)(hx:xQ CX X E)
  (I:Inv X ae σ H s) (r:bw vs us) (h:sp (vs++Hz) H Q E):X∪(call (.ref f) us) (EP X ae σ Q) X.xe s:=by
 let r2:bw (vs++Hz) (us++ds):=r.append hd;let hl:↥(us++ds)=↥ps:=by rw[<- ↥r2];exact F.len _ _ _ _ h
 apply wpAny_call (codeAny_mono (F.run X.A X.stack s H ⟨us,[]⟩ (us++ds) (vs++Hz) Q E hr I.ac5 (hb s us I.uo hl) r2 h) λr s' hq=>?_);cases r with
 |error e=>exact hx ae σ H s e s' I hq
 |ok fl =>
  cases fl with
  |ret u=>exact I.after hq
  |next=>exact False.elim hq
  |brk=>exact False.elim hq
  |cont=>exact False.elim hq
def eu (F:aF X.prog X.w X.K X.mg X.base CX k f fd ps sp)(hr:c6 k X.A)(hg:Gl X x)(hm:X.mg x=↑(.ref f))(hk:PySem.W.keepIn X.K (.ref f))(hb:Binds X.K fd ps ds)(hd:bw Hz ds)(hx:xQ CX X E)
  (ha:PA X (e::es) t) (wW:(x == ("__debug__" : Str))=false:=by decide) (he:starEach (e::es) X.env=(false,eval e X.env)::starEach es X.env:=by rfl) (mU:(backTo pos (starEach es X.env)).any (·.1)=false:=by rfl) :
  PE X (.Call (.Name x p) (e::es) [] pos) (VZ sp Hz E t):=by
 intro ae s σ H Q I h;apply wpAny_Call_Name_kw (AO I hg hm ?_ wW);apply PySem.W.callWith_K (h₀:=X.base) I.ok.mod.ζ hk (bH (ha pos ae s σ H _ I h) λus s1 ⟨vs,H1,I1,r,q⟩=>⟨I1.uo,?_⟩) he mU;exact PH F hr hb hd hx I1 r q
end
section
variable {X:Cx}{CX:DK}{k:Nat}{f C:Addr}{fd:FuncData}{ps ks:Δ2}{sp:Sp}{E:XK}{x m:Str}{p pos sj alf:Pos}{e o:Expr}{es:Ξ2}{kws:List Keyword}{te ta:TE}{t tk:TA}{nm:Option Str}
variable {g:Δ3->Δ3->Δ3}{gV:List V->List V->List V}
end
structure ak (N P:Δ2)(sc:Scope):Prop where
 kind:sc.kind=.function
 co:sc.isCoroutine=false
 gen:sc.isGenerator=false
 nd:N.Nodup
 pre:N.take ↥P=P
 par:∀x∈P,sc.names.lookup x=some .local\/sc.names.lookup x=some .cell
 Rg:∀y∈sc.names,y.2≠.free
def di {N P:Δ2}{sc:Scope}(a:sc.kind=.function:=by rfl)(b:sc.isCoroutine=false:=by rfl)(c:sc.isGenerator=false:=by rfl)(d:N.Nodup:=by decide+kernel)(e:N.take ↥P=P:=by rfl)(f:∀x∈P,sc.names.lookup x=some .local\/sc.names.lookup x=some .cell:=by decide+kernel)(g:∀y∈sc.names,y.2≠.free:=by decide+kernel):ak N P sc:=⟨a,b,c,d,e,f,g⟩
theorem rE {kindOf:Str->Option NameKind}{x:Str}:∀{binds:List (Str×Value)}{m:Θ3},(∀v,(x,v)∉binds)->bindL kindOf binds m x=m x
 |[],_,_=>rfl
 |(n,v)::r,m,h=>by
  unfold bindL;rw[rE λw hw=>h w (Zi _ hw)];split
  .have:x≠n:=by rintro rfl;exact h v Zk
   simp[this]
  .rfl
theorem rG {kindOf:Str->Option NameKind}{x:Str}:∀{binds:List (Str×Value)}{m:Θ3},(∀v,(x,v)∉binds)->bindC kindOf binds m x=m x
 |[],_,_=>rfl
 |(n,v)::r,m,h=>by
  unfold bindC;rw[rG λw hw=>h w (Zi _ hw)];split
  .rfl
  .have:x≠n:=by rintro rfl;exact h v Zk
   simp[this]
theorem rF {kindOf:Str->Option NameKind}{x:Str}:∀{P:Δ2}{vs:Δ3}{i:Nat}{m:Θ3},P.Nodup->P[i]?=↑x->vs[i]?=↑v->kindOf x=some .local ->
  bindL kindOf (P.zip vs) m x=↑v
 |[],_,_,_,_,h,_,_=>by simp at h
 |_::_,[],_,_,_,_,h,_=>by simp at h
 |p::P,w::vs,0,m,nd,h1,h2,hk=>by
  simp at h1 h2;subst h1;subst h2;show bindL kindOf ((p,w)::P.zip vs) m p=_;unfold bindL;rw[rE λv hv=>(Yc.mp nd).1 (List.of_mem_zip hv).1,aha hk];simp
 |p::P,w::vs,i+1,m,nd,h1,h2,hk=>by
  show bindL kindOf ((p,w)::P.zip vs) m x=_;unfold bindL;exact rF (i:=i) (Yc.mp nd).2 ‹h1› ‹h2› hk
theorem rH {kindOf:Str->Option NameKind}{x:Str}:∀{P:Δ2}{vs:Δ3}{i:Nat}{m:Θ3},P.Nodup->P[i]?=↑x->vs[i]?=↑v->kindOf x≠some .local ->
  bindC kindOf (P.zip vs) m x=↑v
 |[],_,_,_,_,h,_,_=>by simp at h
 |_::_,[],_,_,_,_,h,_=>by simp at h
 |p::P,w::vs,0,m,nd,h1,h2,hk=>by
  simp at h1 h2;subst h1;subst h2;show bindC kindOf ((p,w)::P.zip vs) m p=_;unfold bindC;rw[rG λv hv=>(Yc.mp nd).1 (List.of_mem_zip hv).1,aga hk];simp
 |p::P,w::vs,i+1,m,nd,h1,h2,hk=>by
  show bindC kindOf ((p,w)::P.zip vs) m x=_;unfold bindC;exact rH (i:=i) (Yc.mp nd).2 ‹h1› ‹h2› hk
def start (N:Δ2)(vs:List V):St:=vs.map some++List.replicate (↥N-↥vs) none
def uL (CX:DK)(P:Program)(w:World)(K:Θ1)(mg:Θ3)(base:Heap)(N:Δ2)(qual:Str)(scope:Scope)(f:Addr)(cd:Value)(A:Around)(outer:List Env)(s:Shared)(H:Hp)(E:XK):Cx where
 prog:=P
 w:=w
 K:=K
 mg:=mg
 base:=base
 A:=A.deeper (envOfC qual scope ⇑s f cd)
 N:=N
 fj:=s
 dw:=H
 env:=envOfC qual scope ⇑s f cd
 outer:=outer
 stack:=envOfC qual scope ⇑s f cd::outer
 ex:=[]
 calm:=true
 fn:=λ_=>true
 pn:=[]
 xe:=λe s'=>wpAny (model P w) (A.deeper (envOfC qual scope ⇑s f cd)) (leaving (envOfC qual scope ⇑s f cd) e) (λ_ Nf=>CX outer H s E e Nf) (λe' Nf=>CX outer H s E e' Nf) s'
def vT {sc:Scope}{n:Nat}(h:sc.names.lookup x=some .cell):∃c,(cellsFrom n sc.names []).lookup x=↑c:=by
 let q:=PySem.W.cellsFrom_some sc.names n [] (.inl h);exact Qg.mp q
def Cz {CX:DK}{P:Program}{K:Θ1}
  (S:ak N ps scope) (hd:A.handled=none) (e0:IY P w K mg base A outer s H) (hl:↥vs=↥ps) (r:bw vs us)
  (x:InCallC s ⇑s (bindL (envOfC qual scope ⇑s f cd).kindOf (ps.zip us) λ_=>none) (cellsFrom (⇑s+1) scope.names []) (bindC (envOfC qual scope ⇑s f cd).kindOf (ps.zip us) λ_=>none) s1) :
  Inv (uL CX P w K mg base N qual scope f cd A outer s H E) [] (start N vs) H s1:=by
 let mU:↥ps<=↥N:=by have:=ata List.length S.pre;rw[Yw] at this;omega
 let⟨h1,tk,rfl,hk⟩:=x.done;let Ta:∀b:Addr,b∉(uL CX P w K mg base N qual scope f cd A outer s H E).ex:=λb z=>afa (show b∈([]:List Addr) from z) (by simp)
 apply⟨⟨e0.mod,S.kind,(),(),Zf _,λy z c h1 h2=>?_,λy hy=>?_,λy c _ h=>?_,λ_=>hd,Around.frames_deeper e0.frames,.inr ⟨(),()⟩,λb z=>afa z (Ta b),e0.bs,e0.LG,λb _ _=>Ta b,λb z=>afa z (Ta b),e0.nZ,e0.SH⟩,
  rfl,e0.bare,Un.kept hk,⟨_,x.toInCall.ns,λi y v h1 h2 h3=>?_⟩,λy c h=>⟨_,x.cell y c h⟩,e0.ca.fresh (Zf _),λy c h=>?_,λp hp=>afa (show p∈([]:Γ2) from hp) (by simp),e0.ca.kept hk,?_⟩
 .exact name_of_addr x.apart (Xo h1) (Xo h2)
 .let hy:scope.names.lookup y=some .cell\/scope.names.lookup y=some .free:=hy;rcases hy with hy |hy
  .exact vT hy
  .exact afa rfl (S.Rg _ (Xo hy))
 .exact Nat.le_of_lt (x.above y c (Xo h))
 .let hi:i<↥vs:=by
   unfold start at h2;by_cases hi:i<↥vs
   .exact hi
   .rw[Yh ‹hi›] at h2;rw[Y9] at h2;split at h2<;>cases h2
  let ha:vs[i]?=↑v:=by
   unfold start at h2;rw[Zr ‹hi›,Zo] at h2;cases e:vs[i]? with
   |none=>rw[e] at h2;cases h2
   |some a=>rw[e] at h2;cases h2;rfl
  let⟨u,hu,rv⟩:=r.get ha;let hp:ps[i]?=↑y:=by
   rw[<- S.pre,List.getElem?_take_of_lt ⋯];exact h1
  let γ:ps.Nodup:=by rw[<- S.pre];exact S.nd.sublist (List.take_sublist _ _)
  apply⟨u,rv,?_⟩;rcases S.par y (Z1 hp) with k |k
  .exact .inl ⟨k,rF γ hp hu k⟩
  .obtain⟨c,e⟩:=vT (n:=⇑s+1) k;apply .inr ⟨.inl k,c,e,?_⟩;let q:=x.cell y c e;rw[rH γ hp hu (by show scope.names.lookup y≠_;rw[k];decide)] at q;exact q
 .exact e0.ca.fresh (Nat.le_of_lt (x.above y c (Xo h)))
 .unfold start;show _=↥N;rw[Zv,Zb,Qq];omega
def W2 {CX:DK}{P:Program}{K:Θ1}{dV kV gU pm bG ct oc:Value}
  (lk:K.lookup f=↑⟨oc,od,.func (PySem.W.fnOf name qual params body scope dV kV gU pm an bG ct),Sb⟩) (wX:PySem.W.codeIn K bG qual) (S:ak N ps scope)
  (len:∀vs H Q E,sp vs H Q E->↥vs=↥ps)
  (Eu:∀(A:Around) (outer:List Env) (s:Shared) (H:Hp) (vs:List V) (Q:VK) (E:XK),c6 k (A.deeper (envOfC qual scope ⇑s f bG))->sp vs H Q E ->
   ∃t,jJ (uL CX P w K mg base N qual scope f bG A outer s H E) body t/\t { nx:=λ_ H'=>Q .cj H',rt:=Q } (start N vs) H) :
  aF P w K mg base CX (k+1) f (PySem.W.fnOf name qual params body scope dV kV gU pm an bG ct) ps sp:=by
 apply⟨len,λA outer s H args us vs Q E hr e0 hb r Hq=>?_⟩;let hl:=len _ _ _ _ Hq;let KX:K.In s.heap:=e0.mod.ζ.keeps λb o e=>(e0.bs b o e).1
 let lim:s.heap.NoLimit:=e0.mod.nolimit.keeps λb o e=>(e0.bs b o e).1
 let WZ:∀y∈ps.zip us,scope.names.lookup y.1=some .local\/(scope.names.lookup y.1=some .cell/\((cellsFrom (⇑s+1) scope.names []).lookup y.1).isSome):=λ⟨n,v⟩ hy=>by
  rcases S.par n (List.of_mem_zip hy).1 with q |q
  .exact .inl q
  .exact .inr ⟨q,PySem.W.cellsFrom_some _ _ _ (.inl q)⟩
 apply codeAny_call_function hr.depth (KX _ _ lk) rfl S.co S.gen rfl (PySem.W.codeRec_of KX wX) (hb _ _ _ _ ?_);apply wpAny_newFunctionEnv_cells S.kind WZ λenv he s1 x=>?_
 subst he;apply⟨lim.keeps x.toInCall.keep,codeAny_func ?_⟩;let⟨t,ht,hq⟩:=Eu A outer s H vs Q E (hr.deeper _) Hq;let I:Inv (uL CX P w K mg base N qual scope f bG A outer s H E) [] (start N vs) H s1:=Cz S hr.hd e0 hl r x;apply ana (ht [] s1 (start N vs) H _ I hq) (λfl s' hs=>?_) λe s' hs=>hs
 let j3:∀{aO:St}{H':Hp}{v:V}{u:Value},Inv (uL CX P w K mg base N qual scope f bG A outer s H E) [] aO H' s'->RelV v u->Q v H'->CE outer P w H s Q u s' :=
  λ{aO H' v u} J rv q=>⟨v,H',J.os,J.bare,J.base,J.ca,rv,q⟩
 cases fl with
 |ret u =>
  let⟨v,aO,H',J,rv,q⟩:=hs;exact j3 J rv q
 |next =>
  let⟨aO,H',J,q⟩:=hs;exact j3 (v:=V.cj) (u:=Value.none) J rfl q
 |brk =>
  let⟨_,_,_,q⟩:=hs;exact False.elim q
 |cont =>
  let⟨_,_,_,q⟩:=hs;exact False.elim q
section
variable {X:Cx}{x:Str}{p pos:Pos}{e:Expr}{es:Ξ2}{t:TA}{id T:String}{r:List V->Hp->VK->Prop}
def ZY (r:List V->Hp->VK->Prop)(t:TA):TE:=λσ H Q=>t σ H λvs H1=>r vs H1 Q
def mw (hc:cg X (.builtin id) r)(hg:Gl X x)(hm:X.mg x=none)(hv:bootBuiltins x=↑(.builtin id))(ha:PA X (e::es) t)(hn:x ≠ "__name__":=by decide)(wW:(x == ("__debug__" : Str))=false:=by decide)
  (he:starEach (e::es) X.env=(false,eval e X.env)::starEach es X.env:=by rfl) (mU:(backTo pos (starEach es X.env)).any (·.1)=false:=by rfl):PE X (.Call (.Name x p) (e::es) [] pos) (ZY r t):=by
 intro ae s σ H Q I h;apply wpAny_Call_Name_kw (gq I hg hm hv ?_ hn wW);exact PyProof.Rows.callWith_builtin1 (bH (ha pos ae s σ H _ I h) λus s1 ⟨vs,H1,I1,r1,q1⟩=>hc ae s1 σ H1 vs us Q I1 r1 q1) he mU
def Sg (hc:cg X (.type T) r)(hg:Gl X x)(hm:X.mg x=none)(hv:bootBuiltins x=↑(.type T))(ha:PA X (e::es) t)(hn:x ≠ "__name__":=by decide)(wW:(x == ("__debug__" : Str))=false:=by decide)
  (he:starEach (e::es) X.env=(false,eval e X.env)::starEach es X.env:=by rfl) (mU:(backTo pos (starEach es X.env)).any (·.1)=false:=by rfl):PE X (.Call (.Name x p) (e::es) [] pos) (ZY r t):=by
 intro ae s σ H Q I h;apply wpAny_Call_Name_kw (gq I hg hm hv ?_ hn wW);exact PyProof.Rows.callWith_type1 (bH (ha pos ae s σ H _ I h) λus s1 ⟨vs,H1,I1,r1,q1⟩=>hc ae s1 σ H1 vs us Q I1 r1 q1) he mU
end
end L2
namespace HT
open PyProof.Rows
section
open PySem.SeqAt
open PySem.MeetsSeq PySem.MeetsSeq2 PySem.MeetsSeq3
end
section
variable {prog:Program}{w:World}{A:Around}{E:Θ2}{s:Shared}
def K5 (ht:IsTup s.heap t vs.toArray)(hb:IsTup s.heap b ws.toArray)(hv:vs≠[])
  (h1:ws=[]->Q (.ref t) s) (h2:ws≠[]->Q (.ref ⇑s) { s with heap:=s.heap.push { cls:=.type "tuple",data:=.seq (vs++ws).toArray } })
  (hsz:↥vs+↥ws<=sizeLine):wpAny (model prog w) A (binaryOp .Add (.ref t) (.ref b)) Q E s:=by
 let⟨⟨cls,dd,data,sl⟩,ho,hc,n,hd⟩:=id ht;let⟨⟨ac8,YU,data2,bC⟩,NB,Hw,n2,HN⟩:=id hb;simp only at hc hd Hw HN;subst hc hd Hw HN;let e:vs.toArray++ws.toArray=(vs++ws).toArray:=by simp
 by_cases hw:ws=[]
 .exact concat_meets ⟨_,ho,()⟩ ⟨_,NB,()⟩ noFill_tuple_add seq_tuple_add PySem.F.slot_tuple_add PySem.F.entry_tuple_add (PySem.F.args_tuple_add_2 _ _)
   (tuple_addW1 t b vs.toArray ws.toArray n n2 dd YU sl bC ‹hv› (by simp[hw])) ⟨ho,NB,h1 hw⟩
 .apply concat_meets ⟨_,ho,()⟩ ⟨_,NB,()⟩ noFill_tuple_add seq_tuple_add PySem.F.slot_tuple_add PySem.F.entry_tuple_add (PySem.F.args_tuple_add_2 _ _)
   (tuple_addW2 t b vs.toArray ws.toArray n n2 dd YU sl bC ‹hv› ‹hw› (by rw[Z2,Z2];exact hsz)) ⟨ho,NB,?_⟩
  rw[e];exact h2 hw
def cR (n d:Nat):Option Int->Nat
 |none=>d
 |some v=>if v<0 then (v+(n:Int)).toNat else min v.toNat n
def vi (n d:Nat):cR n d none=d:=rfl
def PF (n d:Nat)(hd:d<=n)(o:Option Int):cR n d o<=n:=by
 cases o with
 |none=>exact hd
 |some v =>
  show(if v<0 then (v+(n:Int)).toNat else min v.toNat n)<=n;by_cases hv:v<0
  .rw[aha hv];omega
  .rw[aga hv];exact Nat.min_le_right _ _
def Ba (v:Int)(n d:Nat):(if v<0 then max (v+(n:Int)) 0 else min v (n:Int))=((cR n d ↑v:Nat):Int):=by
 show(if v<0 then max (v+(n:Int)) 0 else min v (n:Int))=(((if v<0 then (v+(n:Int)).toNat else min v.toNat n):Nat):Int);by_cases hv:v<0
 .simp only[aha hv];omega
 .simp only[aga hv];omega
def yR (lo hi:Option Int)(n:Nat):Builtin.Slice.sliceAdjust lo hi 1 (n:Int)=(((cR n 0 lo:Nat):Int),((cR n n hi:Nat):Int)):=by
 let h1:¬ ((1:Int)<0):=⋯;unfold Builtin.Slice.sliceAdjust;simp only[h1,if_false];apply Prod.ext ?_ ?_
 .cases lo with
  |none=>rfl
  |some v=>exact Ba v n 0
 .cases hi with
  |none=>rfl
  |some v=>exact Ba v n n
def yd (i j:Nat):Builtin.Slice.slicePlaces (i:Int) (j:Int) 1=j-i:=by
 unfold Builtin.Slice.slicePlaces;let h1:(1:Int)>0:=⋯;simp only[h1,if_true,Int.ediv_one];split<;>omega
def pi (p:IsPart v o)(h:Q o s):wpAny (model prog w) A (Builtin.Slice.slicePartIndex v) Q E s:=by
 cases p with
 |none=>exact slicePart_none h
 |int i t=>exact slicePart_int h
def gQ {sl:Addr}{vl vu:Value}{lo hi:Option Int}{Q:Int×Int×Nat->Shared->Prop}(hs:s.heap.IsSliceOf sl vl vu .none)(pl:IsPart vl lo)(pu:IsPart vu hi)
  (h:Q (((cR n 0 lo:Nat):Int),1,cR n n hi-cR n 0 lo) s):wpAny (model prog w) A (Builtin.Slice.sliceApplied (.ref sl) (pure (n:Int))) Q E s:=by
 let⟨os,NA,YG,TJ⟩:=id hs;unfold Builtin.Slice.sliceApplied Builtin.Slice.sliceFields;apply Za (Za (aqa NA TJ (x:=vl) rfl (Za (aqa NA TJ (x:=vu) rfl (Za (aqa NA TJ (x:=.none) rfl (aba ?_)))))));apply Za (slicePart_none ?_);show wpAny _ _ (if ((1:Int) == 0)=true then _ else _) _ _ s;rw[aga ∅];apply Za (pi pl (Za (pi pu (Za (aba ?_)))));show wpAny _ _ (match Builtin.Slice.sliceAdjust lo hi 1 (n:Int) with |(lo,hi)=>pure (lo,(1:Int),Builtin.Slice.slicePlaces lo hi 1)) _ _ s;rw[yR lo hi n];show wpAny _ _ (pure (((cR n 0 lo:Nat):Int),(1:Int),Builtin.Slice.slicePlaces ((cR n 0 lo:Nat):Int) ((cR n n hi:Nat):Int) 1)) _ _ s;rw[yd];exact aba h
def Gb (xs:Array Value)(i k:Nat):((~~~k).filterMap λ(m:Nat)=>xs[((i:Int)+(m:Int)*1).toNat]?).toArray=((xs.toList.drop i).take k).toArray:=by
 let e:(λ(m:Nat)=>xs[((i:Int)+(m:Int)*1).toNat]?)=λm=>xs[i+m]?:=by
  funext m
  have:((i:Int)+(m:Int)*1).toNat=i+m:=⋯;rw[this]
 rw[e];have:=pick_run xs i k;rw[List.filterMap_map] at this;let e2:((λx=>xs[x]?) ∘ λx=>i+x)=λm=>xs[i+m]?:=rfl
 rw[e2] at this;rw[this]
def lr {t sl:Addr}{items:Array Value}{lo hi:Option Int}(ht:IsTup s.heap t items)(hs:s.heap.IsSliceOf sl vl vu .none)(pl:IsPart vl lo)(pu:IsPart vu hi)
  (hw:¬ (cR items.size 0 lo=0/\cR items.size items.size hi=items.size))
  (h:Q (.ref ⇑s) { s with heap:=s.heap.push { cls:=.type "tuple",data:=.seq ((items.toList.drop (cR items.size 0 lo)).take (cR items.size items.size hi-cR items.size 0 lo)).toArray } })
  (hsz:items.size<=sizeLine):wpAny (model prog w) A (getItem (.ref t) (.ref sl)) Q E s:=by
 let zH:sizeOk (.seq ((items.toList.drop (cR items.size 0 lo)).take (cR items.size items.size hi-cR items.size 0 lo)).toArray):=by
  show((items.toList.drop (cR items.size 0 lo)).take (cR items.size items.size hi-cR items.size 0 lo)).toArray.size<=sizeLine;rw[Z2,Yw,Qh,Array.length_toList];omega
 let hj:cR items.size items.size hi<=items.size:=PF _ _ (Zf _) hi;let⟨os,NA,YG,TJ⟩:=id hs;let hTs:s.TypeIs (.ref sl) "slice":=⟨os,NA,YG⟩;unfold getItem
 try with_reducible refine apa ?_
 first |refine Za (aba ?_) |skip
 apply Za (wpAny_sequenceKey ht.typeIs ∅ ?_);apply Za (wpAny_callSpecial?_slot (name:=Str.ofString "__getitem__") ht.typeIs PyProof.Rows.slot_tuple_getitem
  (aoa PyProof.Rows.slot_tuple_getitem ht.typeIs entry_tuple_getitem ?_ (args_tuple_getitem _ _)))
 show wpAny _ _ (Builtin.Tuple.tupleItemsOf (.ref t) >>= _) _ _ s;apply Za (tupleItemsOf_ ht ?_);apply Za (wpAny_typeOf hTs ?_);rw[aha ∅];apply Za (gQ hs pl pu ?_);let hno:¬ ((((cR items.size 0 lo:Nat):Int) == 0&&(1:Int) == 1&&(cR items.size items.size hi-cR items.size 0 lo) == items.size)=true):=by
  intro q;rw[Z4,Z4] at q;let q1:((cR items.size 0 lo:Nat):Int)=0:=eq_of_beq q.1.1;let q2:cR items.size items.size hi-cR items.size 0 lo=items.size:=eq_of_beq q.2;exact hw ⟨⋯,⋯⟩
 show wpAny _ _ (if (((cR items.size 0 lo:Nat):Int) == 0&&(1:Int) == 1&&(cR items.size items.size hi-cR items.size 0 lo) == items.size)=true then _ else _) _ _ s;rw[aga hno,Gb]
 first
  |exact Za (m:=Builtin.Tuple.tupleExact _) (aka (aba ⟨_,(),aba h⟩) zH)
  |exact Za (m:=Builtin.Tuple.tupleExact _) (aka (Za (aba (aba ⟨_,(),aba h⟩))) zH)
  |exact Za (Za (m:=Builtin.Tuple.tupleExact _) (aka (aba (aba ⟨_,(),aba h⟩)) zH))
  |exact Za (Za (m:=Builtin.Tuple.tupleExact _) (aka (aba ⟨_,(),aba h⟩) zH))
end
end HT
namespace L2
open PySem.Spec PyProof.Rows
abbrev TO:=St->Hp->(Option Int->Hp->Prop)->Prop
def PO (X:Cx)(e:Option Expr)(t:TO):Prop :=
 ∀(ae:Γ2) (s:Shared) (σ:St) (H:Hp) (Q:Option Int->Hp->Prop),Inv X ae σ H s->t σ H Q ->
  X∪(evalPart e X.env) (λu s'=>∃o H',Inv X ae σ H' s'/\IsPart u o/\Q o H') X.xe s
def Jj:TO:=λ_ H Q=>Q none H
def VU (t:TE):TO:=λσ H Q=>t σ H λx H1=>∃i,x=.int i/\Q ↑i H1
section
variable {X:Cx}{e:Expr}{te:TE}{lo hi:Option Expr}{tl th:TO}{pos p2:Pos}
def JT:PO X none Jj:=by
 intro ae s σ H Q I h;rw[evalPart_none];exact aba ⟨none,H,I,.none,h⟩
def JS (h:PE X e te):PO X ↑e (VU te):=by
 intro ae s σ H Q I hw;rw[evalPart_some];apply bH (h ae s σ H _ I hw) λu s1 ⟨x,H1,I1,r1,q1⟩=>?_
 let⟨i,rfl,q⟩:=q1;let⟨t,rfl⟩:=r1;exact⟨↑i,H1,I1,.int i t,q⟩
def HS (X:Cx)(r:V->Option Int->Option Int->Hp->VK->Prop):Prop :=
 ∀(ae:Γ2) (s:Shared) (σ:St) (H:Hp) (x:V) (v vl vu:Value) (lo hi:Option Int) (sl:Addr) (Q:VK),Inv X ae σ H s->RelV x v->s.heap.IsSliceOf sl vl vu .none->IsPart vl lo->IsPart vu hi->r x lo hi H Q ->
  ∃T id,typeLookup (.type T) "__getitem__"=pure ↑(.builtin id)/\s.TypeIs v T/\X∪(getItem v (.ref sl)) (EP X ae σ Q) X.xe s
def HS.or (h:HS X r)(h':HS X r'):HS X (λx lo hi H Q=>r x lo hi H Q\/r' x lo hi H Q):=by
 intro ae s σ H x v vl vu lo hi sl Q I rx hs pl pu q;rcases q with q |q
 .exact h ae s σ H x v vl vu lo hi sl Q I rx hs pl pu q
 .exact h' ae s σ H x v vl vu lo hi sl Q I rx hs pl pu q
def tSl (r:V->Option Int->Option Int->Hp->VK->Prop)(te:TE)(tl th:TO):TE:=λσ H Q=>te σ H λx H1=>tl σ H1 λl H2=>th σ H2 λu H3=>r x l u H3 Q
def vo {r:V->Option Int->Option Int->Hp->VK->Prop}(hr:HS X r)(he:PE X e te)(hl:PO X lo tl)(hu:PO X hi th):PE X (.Subscript e (.Slice lo hi none p2) pos) (tSl r te tl th):=by
 intro ae s σ H Q I h;apply Subscript_ (bH (he ae s σ H _ I h) λv s1 ⟨x,H1,I1,r1,q1⟩=>?_);apply wpAny_Slice (bH (hl ae s1 σ H1 _ I1 q1) λvl s2 ⟨l,H2,I2,pl,q2⟩=>bH (hu ae s2 σ H2 _ I2 q2) λvu s3 ⟨u,H3,I3,pu,q3⟩=>?_);rw[evalPart_none];apply aba ?_;let I4:Inv X ae σ H3 { s3 with heap:=s3.heap.push { cls:=.type "slice",data:=.fields #[vl,vu,.none] } }:=I3.kept (t':=s3.toks) λb ob q=>Zn _ q
 let⟨T,id,hT,ht,hg⟩:=hr ae { s3 with heap:=s3.heap.push { cls:=.type "slice",data:=.fields #[vl,vu,.none] } } σ H3 x v vl vu l u ⇑s3 Q I4 r1 (Heap.IsSliceOf.new ..) pl pu q3;show X∪(subscriptTail e (.Slice lo hi none p2) v (.ref ⇑s3)) (EP X ae σ Q) X.xe { s3 with heap:=s3.heap.push { cls:=.type "slice",data:=.fields #[vl,vu,.none] } };exact tail_any (ops:=[.ref ⇑s3,v]) ht hT hg (by with_unfolding_all rfl)
def n8 (xs:List V)(lo hi:Option Int):List V:=(xs.drop (HT.cR ↥xs 0 lo)).take (HT.cR ↥xs ↥xs hi-HT.cR ↥xs 0 lo)
def mP (xs:List V)(lo hi:Option Int):↥(n8 xs lo hi)<=↥xs:=by
 unfold n8;rw[Yw,Qh];omega
def acv (K:Θ1):V->Option Int->Option Int->Hp->VK->Prop:=λx lo hi H Q=>∃a xs,x=.ref a/\aN K H a xs /\
 ¬ (HT.cR ↥xs 0 lo=0/\HT.cR ↥xs ↥xs hi=↥xs)/\∀p,H p=none->Q (.ref p) (aP H p (.tup (n8 xs lo hi)))
def Px:HS X (acv X.K):=by
 intro ae s σ H x v vl vu lo hi sl Q I rx hs pl pu h;let⟨a,xs,rfl,hx,hw,q⟩:=h;cases rx;let⟨its,r,ht,hz⟩:=I.tuple hx;let cA:its.toArray.size=↥xs:=by rw[Z2];exact r.length.symm
 apply⟨"tuple",_,PyProof.Rows.slot_tuple_getitem.lookup,ht.typeIs,?_⟩;apply HT.lr ht hs pl pu (by rw[cA];exact hw) ?_ (by rw[cA];exact hz);rw[cA];apply⟨.ref ⇑s,_,I.laid (t':=s.toks) (o:=.tup (n8 xs lo hi)) (λb ob q=>Zn _ q) (Zf _) ?_,(),q _ (I.ca.fresh (Zf _))⟩;exact⟨Zl (mP xs lo hi) hz,_,(r.drop (HT.cR ↥xs 0 lo)).take (HT.cR ↥xs ↥xs hi-HT.cR ↥xs 0 lo),IsTup.new _ _⟩
def Wq (K:Θ1):R2:=λx y H Q=>∃a b xs ys,x=.ref a/\y=.ref b/\aN K H a xs/\aN K H b ys/\xs≠[]/\↥xs+↥ys<=sizeLine /\
 (ys=[]->Q (.ref a) H)/\(ys≠[]->∀p,H p=none->Q (.ref p) (aP H p (.tup (xs++ys))))
def bw.nD (r:bw xs us):us=[]↔xs=[]:=by
 cases r with
 |nil=>simp
 |cons _ _=>simp
def JY:eT X (binaryOp .Add) (Wq X.K):=by
 intro ae s σ H x y v u Q I rx ry h;let⟨a,b,xs,ys,rfl,rfl,ha,hb,hx,hz,q1,q2⟩:=h;cases rx;cases ry;let⟨its,r1,p1,_⟩:=I.tuple ha;let⟨DV,r2,p2,_⟩:=I.tuple hb;apply HT.K5 p1 p2 (λz=>hx (r1.nD.mp z)) (λz=>⟨.ref a,H,I,(),q1 (r2.nD.mp z)⟩) (λz=>?_) (by rw[<- ↥r1,<- ↥r2];exact hz);apply⟨.ref ⇑s,_,I.laid (t':=s.toks) (o:=.tup (xs++ys)) (λb ob q=>Zn _ q) (Zf _) ?_,(),q2 (λw=>z (r2.nD.mpr w)) _ (I.ca.fresh (Zf _))⟩;exact⟨by rw[Zv];exact hz,_,r1.append r2,IsTup.new _ _⟩
end
def ur (n:Nat)(i:Int):Option Nat:=if 0<=i then (if i<n then ↑i.toNat else none) else if -(n:Int)<=i then ↑(i+n).toNat else none
def gh {α : Type}(xs:List α)(i:Int):Option α:=(ur ↥xs i).bind λj=>xs[j]?
def AS (h:ur n i=↑j):seqIndex? i n=↑j/\j<n/\-(n:Int)<=i/\i<n:=by
 unfold ur at h;by_cases h0:0<=i
 .rw[aha h0] at h;by_cases h1:i<n
  .rw[aha h1] at h;let e:i.toNat=j:=aaa h;exact⟨by rw[seqIndex_of h0 h1,e],⋯,⋯,h1⟩
  .rw[aga h1] at h;cases h
 .rw[aga h0] at h;by_cases h1:-(n:Int)<=i
  .rw[aha h1] at h;let e:(i+n).toNat=j:=aaa h;exact⟨by rw[seqIndex_neg ⋯ h1,e],⋯,h1,⋯⟩
  .rw[aga h1] at h;cases h
def bB {α : Type}{xs:List α}{i:Int}{v:α}(h:gh xs i=↑v):∃j,seqIndex? i ↥xs=↑j/\xs[j]?=↑v/\j<↥xs/\-(↥xs:Int)<=i/\i<↥xs:=by
 unfold gh at h;cases e:ur ↥xs i with
 |none=>rw[e] at h;cases h
 |some j =>
  rw[e] at h;let⟨h1,h2,h3,h4⟩:=AS e;exact⟨j,h1,h,h2,h3,h4⟩
def nO {α : Type}{xs:List α}{j:Nat}{v:α}(h:xs[j]?=↑v):gh xs (j:Int)=↑v:=by
 let hj:j<↥xs:=(Zg.mp h).1;let e:ur ↥xs (j:Int)=↑j:=by
  unfold ur;rw[aha ⋯,aha ⋯];simp
 unfold gh;rw[e];exact h
def tU (b:Expr):Prop:=∀o i,subscripted b false o i=operate [o,i] (getItem o i)
def Br (X:Cx)(r:R2):Prop :=
 ∀(value slice:Expr) (ae:Γ2) (s:Shared) (σ:St) (H:Hp) (x y:V) (v u:Value) (Q:VK),Inv X ae σ H s->RelV x v->RelV y u->r x y H Q ->
  subscripted slice false v u=operate [v,u] (getItem v u)->X∪(subscriptTail value slice v u) (EP X ae σ Q) X.xe s
def YX (X:Cx)(id:String)(r:V->List V->Hp->VK->Prop):Prop :=
 ∀(ae:Γ2) (s:Shared) (σ:St) (H:Hp) (x:V) (xs:List V) (v:Value) (us:Δ3) (Q:VK),Inv X ae σ H s->RelV x v->bw xs us->r x xs H Q ->
  X∪(call (.builtin id) (v::us)) (EP X ae σ Q) X.xe s
section
variable {X:Cx}{a b:Expr}{ta tb:TE}{pos:Pos}
def Br.or (h:Br X r)(h':Br X r'):Br X (λx y H Q=>r x y H Q\/r' x y H Q):=by
 intro value slice ae s σ H x y v u Q I rx ry q hs;rcases q with q |q
 .exact h value slice ae s σ H x y v u Q I rx ry q hs
 .exact h' value slice ae s σ H x y v u Q I rx ry q hs
def fV (hr:Br X r)(ha:PE X a ta)(hb:PE X b tb)(hs:tU b):PE X (.Subscript a b pos) (Nc r ta tb):=by
 intro ae s σ H Q I h;exact Subscript_ (OH ha hb I h λv u s2 x y H2 I2 rx ry q=>hr a b ae s2 σ H2 x y v u Q I2 rx ry q (hs _ _))
def Ii (K:Θ1):R2:=λx y H Q=>∃p xs i v,x=.ref p/\y=.int i/\bI K H p xs/\gh xs i=↑v/\Q v H
def Oa (K:Θ1):R2:=λx y H Q=>∃p xs i v,x=.ref p/\y=.int i/\aN K H p xs/\gh xs i=↑v/\Q v H
def AR:Br X (Ii X.K):=by
 intro value slice ae s σ H x y v u Q I rx ry h hs;let⟨p,xs,i,z,rfl,rfl,hq,he,q⟩:=h;cases rx;let⟨t,rfl⟩:=ry;let⟨its,r,pl,hz⟩:=I.list hq;let⟨j,h1,h2,h3,h4,h5⟩:=bB he;let⟨w,ew,Bi⟩:=r.get h2;let hl:=↥r;let hn:=j8;let j3:EP X ae σ Q w s:=⟨z,H,I,Bi,q⟩;by_cases h0:0<=i
 .let hj:i.toNat=j:=by
   rw[seqIndex_of h0 h5] at h1;exact aaa h1
  exact item_listR pl.isList h0 ⋯ (by rw[hj];simpa using ew) j3 hs
 .let hj:(i+(its.toArray.size:Int)).toNat=j:=by
   rw[seqIndex_neg ⋯ h4] at h1;rw[Z2,<- hl];exact aaa h1
  exact subscriptTail_builtinR (x:=w) pl.isList.typeIs slot_list_getitem.lookup
   (wpAny_getItem_list_neg (Q:=λr s'=>r=w/\EP X ae σ Q r s') pl.isList ⋯ (by rw[Z2]<;>omega) ⋯ (by rw[hj];simpa using ew) ⟨(),j3⟩) hs
def RH:Br X (Oa X.K):=by
 intro value slice ae s σ H x y v u Q I rx ry h hs;let⟨p,xs,i,z,rfl,rfl,hq,he,q⟩:=h;cases rx;let⟨t,rfl⟩:=ry;let⟨its,r,pl,hz⟩:=I.tuple hq;let⟨j,h1,h2,h3,h4,h5⟩:=bB he;let⟨w,ew,Bi⟩:=r.get h2;let hl:=↥r;let hn:=j8;let j3:EP X ae σ Q w s:=⟨z,H,I,Bi,q⟩;exact subscriptTail_builtinR (x:=w) pl.typeIs slot_tuple_getitem.lookup
  (getItem_tuple (j:=j) (Q:=λr s'=>r=w/\EP X ae σ Q r s') pl ⋯ ⋯ (by rw[Z2,<- hl];exact h1) ‹ew› ⟨(),j3⟩) hs
def yn (its:Δ3)(n j:Nat)(u:Value):Obj.mapSeq (·.setIfInBounds j u) { cls:=.type "list",data:=.seq its.toArray n }={ cls:=.type "list",data:=.seq (its.set j u).toArray n }:=by
 simp[Obj.mapSeq]
def Inv.lst {ae:Γ2}{σ:St}{H:Hp}{s:Shared}{p:Addr}{xs:List V}(I:Inv X ae σ H s)(h:H p=↑(.lst xs)) :
  ∃(its:Δ3) (n:Nat),bw xs its/\s.heap.get? p=some { cls:=.type "list",data:=.seq its.toArray n }/\↥xs<=sizeLine:=by
 let⟨z,its,n,r,e⟩:=I.ca p _ h;exact⟨its,n,r,e,z⟩
def Inv.Rt {ae:Γ2}{σ:St}{its its':Δ3}(I:Inv X ae σ H s)(h:H p=↑(.lst xs))
  (ho:s.heap.get? p=some { cls:=.type "list",data:=.seq its.toArray n }) (hf:f { cls:=.type "list",data:=.seq its.toArray n }={ cls:=.type "list",data:=.seq its'.toArray n' }) (r:bw ys its') (hz:↥ys<=sizeLine) (t:Nat) :
  Inv X ae σ (aP H p (.lst ys)) { s with heap:=s.heap.update p f,toks:=t }:=by
 let e:(s.heap.update p f).get? p=some { cls:=.type "list",data:=.seq its'.toArray n' }:=by
  rw[Qp f ho (by rw[hf]<;>rfl),hf]
 apply I.write (x:=p) (e:=p) (by rw[h];trivial) (.inl rfl) (λb u hb q=>(Xv _ _ (Ne.symm hb)).trans q) ⟨_,e⟩ ?_;exact⟨hz,its',n',r,e⟩
def Wm:V->V->V->Hp->(Hp->Prop)->Prop:=λo i v H Q=>∃p xs k j,o=.ref p/\i=.int k/\H p=↑(.lst xs)/\ur ↥xs k=↑j/\Q (aP H p (.lst (xs.set j v)))
def kW:OM X Wm:=by
 intro ae s σ H o i v ov iv u Q I ro ri rv h;let⟨p,xs,k,j,rfl,rfl,hp,hj,q⟩:=h;cases ro;let⟨t,rfl⟩:=ri;let⟨its,n,r,ho,hz⟩:=I.lst hp;let⟨h1,h2,h3,h4⟩:=AS hj;let hl:=↥r;let hn:=j8;let I':Inv X ae σ (aP H p (.lst (xs.set j v))) { s with heap:=s.heap.update p (Obj.mapSeq (·.setIfInBounds j u)) } :=
  I.Rt hp ho (yn its n j u) (r.set rv j) (by rw[Yi];exact hz) s.toks
 by_cases h0:0<=k
 .let hk:k.toNat=j:=by
   rw[seqIndex_of h0 h4] at h1;exact aaa h1
  exact PySem.W.ki_setAt ho h0 ⋯ (by rw[Z2,<- hl];exact h4) (by rw[hk];exact⟨_,I',q⟩)
 .let hk:(k+(its.toArray.size:Int)).toNat=j:=by
   rw[seqIndex_neg ⋯ h3] at h1;rw[Z2,<- hl];exact aaa h1
  exact PySem.W.ki_setBack ho ⋯ (by rw[Z2,<- hl];exact h3) ⋯ (by rw[hk];exact⟨_,I',q⟩)
def tV (lo hi:Option Int)(n:Nat):(sliceBounds lo hi none n).1=((HT.cR n 0 lo:Nat):Int)/\(sliceBounds lo hi none n).2.1=((HT.cR n n hi:Nat):Int)/\(sliceBounds lo hi none n).2.2=1:=by
 apply⟨?_,?_,()⟩
 .cases lo with
  |none=>simp[sliceBounds,HT.cR]
  |some i =>
   simp only[sliceBounds,HT.cR,Option.getD_none,show(1:Int)>0 by decide,if_true];by_cases h:i<0
   .simp only[h,if_true]<;>omega
   .simp only[h,if_false]<;>omega
 .cases hi with
  |none=>simp[sliceBounds,HT.cR]
  |some i =>
   simp only[sliceBounds,HT.cR,Option.getD_none,show(1:Int)>0 by decide,if_true];by_cases h:i<0
   .simp only[h,if_true]<;>omega
   .simp only[h,if_false]<;>omega
def qi (its:Δ3)(lo hi:Option Int):slicePick its.toArray lo hi none=((its.drop (HT.cR ↥its 0 lo)).take (HT.cR ↥its ↥its hi-HT.cR ↥its 0 lo)).toArray:=by
 let⟨h1,h2,h3⟩:=tV lo hi its.toArray.size;unfold slicePick;rw[h1,h2,h3];simp only[sliceRange_one,pick_run,Z2]<;>rfl
def UG (K:Θ1):V->Option Int->Option Int->Hp->VK->Prop:=λx lo hi H Q=>∃a xs,x=.ref a/\bI K H a xs/\∀p,H p=none->Q (.ref p) (aP H p (.lst (n8 xs lo hi)))
def Jq:HS X (UG X.K):=by
 intro ae s σ H x v vl vu lo hi sl Q I rx hs pl pu h;let⟨a,xs,rfl,hx,q⟩:=h;cases rx;let⟨its,r,ht,hz⟩:=I.list hx;let cA:=↥r;apply⟨"list",_,slot_list_getitem.lookup,ht.isList.typeIs,?_⟩;apply wpAny_getItem_list_slice ht.isList hs pl pu .none (by simp) ?_ (by rw[Z2]<;>omega);rw[qi,<- cA];apply⟨.ref ⇑s,_,I.laid (t':=s.toks) (o:=.lst (n8 xs lo hi)) (λb ob q=>Zn _ q) (Zf _) ?_,(),q _ (I.ca.fresh (Zf _))⟩;exact⟨Zl (mP xs lo hi) hz,_,0,(r.drop (HT.cR ↥xs 0 lo)).take (HT.cR ↥xs ↥xs hi-HT.cR ↥xs 0 lo),Z0 _ rfl⟩
def iT:V->Bool
 |.cj=>true
 |.bl _=>true
 |.int _=>true
 |.str _=>true
 |_=>false
def Hy:V->V->Bool
 |.cj,.cj=>true
 |.bl a,.bl b=>a == b
 |.bl a,.int b=>(if a then 1 else 0) == b
 |.int a,.bl b=>a == (if b then 1 else 0)
 |.int a,.int b=>a == b
 |.str a,.str b=>a == b
 |_,_=>false
def RM (ry:RelV y u)(rx:RelV x v)(fy:iT y)(fx:iT x):SeqAt.EqAt A s u v (Hy y x):=by
 cases y with
 |cj =>
  cases ry
  cases x with
  |cj=>cases rx;exact SeqAt.EqAt.same _
  |bl b=>cases rx;exact SeqAt.EqAt.none_bool b
  |int b=>let⟨t,rfl⟩:=rx;exact SeqAt.EqAt.none_int b t
  |str b=>let⟨t,rfl⟩:=rx;exact SeqAt.EqAt.none_str b t
  |_=>exact afa (show false=true from fx) Z5
 |bl a =>
  cases ry
  cases x with
  |cj=>cases rx;exact SeqAt.EqAt.bool_none a
  |bl b=>cases rx;exact SeqAt.EqAt.bool_bool a b
  |int b=>let⟨t,rfl⟩:=rx;exact SeqAt.EqAt.bool_int a b t
  |str b=>let⟨t,rfl⟩:=rx;exact SeqAt.EqAt.bool_str a b t
  |_=>exact afa (show false=true from fx) Z5
 |int a =>
  let⟨t',rfl⟩:=ry;cases x with
  |cj=>cases rx;exact SeqAt.EqAt.int_none a t'
  |bl b=>cases rx;exact SeqAt.EqAt.int_bool a t' b
  |int b=>let⟨t,rfl⟩:=rx;exact SeqAt.EqAt.int_int a t' b t
  |str b=>let⟨t,rfl⟩:=rx;exact SeqAt.EqAt.int_str a t' b t
  |_=>exact afa (show false=true from fx) Z5
 |str a =>
  let⟨t',rfl⟩:=ry;cases x with
  |cj=>cases rx;exact SeqAt.EqAt.str_none a t'
  |bl b=>cases rx;exact SeqAt.EqAt.str_bool a t' b
  |int b=>let⟨t,rfl⟩:=rx;exact SeqAt.EqAt.str_int a t' b t
  |str b=>let⟨t,rfl⟩:=rx;exact SeqAt.EqAt.str_str a t' b t
  |_=>exact afa (show false=true from fx) Z5
 |_=>exact afa (show false=true from fy) Z5
def wY (x:V)(u:Value):Bool:=match u with
 |.none=>Hy .cj x
 |.bool b=>Hy (.bl b) x
 |.int i _=>Hy (.int i) x
 |.str z _=>Hy (.str z) x
 |_=>false
def Fm (r:RelV y u)(f:iT y):wY x u=Hy y x:=by
 cases y with
 |cj=>cases r;rfl
 |bl b=>cases r;rfl
 |int i=>let⟨t,rfl⟩:=r;rfl
 |str z=>let⟨t,rfl⟩:=r;rfl
 |_=>exact afa (show false=true from f) Z5
theorem kR:∀{xs:List V}{us:Δ3},bw xs us->xs.all iT->us.any (wY x)=xs.any λy=>Hy y x
 |_,_,.nil,_=>rfl
 |y::xs,u::us,.cons r t,f=>by
  rw[X2,Z4] at f;rw[Xx,Xx,Fm r f.1,kR t f.2]
theorem ja (rx:RelV x v)(fx:iT x):∀{xs:List V}{us:Δ3},bw xs us->xs.all iT->∀u∈us,SeqAt.EqAt A s u v (wY x u)
 |_,_,.nil,_=>λu hu=>by cases hu
 |y::xs,u::us,.cons r t,f=>λu' hu=>by
  rw[X2,Z4] at f;rcases Zj.mp hu with rfl |hu
  .rw[Fm r f.1];exact RM r rx f.1 fx
  .exact ja rx fx t f.2 u' hu
def HJ (x:V)(xs:List V):Bool:=xs.any λy=>Hy y x
def S5 (K:Θ1)(neg:Bool):R2:=λx y H Q=>∃p xs,y=.ref p/\(bI K H p xs\/aN K H p xs)/\iT x/\xs.all iT/\Q (.bl (if neg then !HJ x xs else HJ x xs)) H
def Ca:eT X (compareOp .In) (S5 X.K false):=by
 intro ae s σ H x y v u Q I rx ry h;let⟨p,xs,rfl,hq,fx,fs,q⟩:=h;cases ry;rcases hq with hq |hq
 .obtain⟨its,r,pl,hz⟩:=I.list hq;apply SeqAt.in_listAt (wY x) pl.isList (λw hw=>ja rx fx r fs w ‹hw›) ⟨.bl _,H,I,(),?_⟩;rw[show its.toArray.any (wY x)=its.any (wY x) by simp,kR r fs];exact q
 .obtain⟨its,r,pl,hz⟩:=I.tuple hq;apply SeqAt.in_tupleAt (wY x) pl (λw hw=>ja rx fx r fs w ‹hw›) ⟨.bl _,H,I,(),?_⟩;rw[show its.toArray.any (wY x)=its.any (wY x) by simp,kR r fs];exact q
def tX:eT X (compareOp .NotIn) (S5 X.K true):=by
 intro ae s σ H x y v u Q I rx ry h;let⟨p,xs,rfl,hq,fx,fs,q⟩:=h;cases ry;rcases hq with hq |hq
 .obtain⟨its,r,pl,hz⟩:=I.list hq;apply SeqAt.notIn_listAt (wY x) pl.isList (λw hw=>ja rx fx r fs w ‹hw›) ⟨.bl _,H,I,(),?_⟩;rw[show its.toArray.any (wY x)=its.any (wY x) by simp,kR r fs];exact q
 .obtain⟨its,r,pl,hz⟩:=I.tuple hq;apply SeqAt.notIn_tupleAt (wY x) pl (λw hw=>ja rx fx r fs w ‹hw›) ⟨.bl _,H,I,(),?_⟩;rw[show its.toArray.any (wY x)=its.any (wY x) by simp,kR r fs];exact q
def iC:cg X (.builtin "len") (λxs H Q=>∃p ys,xs=[.ref p]/\(bI X.K H p ys\/aN X.K H p ys)/\Q (.int ↥ys) H):=by
 intro ae s σ H xs us Q I r h;let⟨p,ys,rfl,hq,q⟩:=h;let⟨u,rfl,rx⟩:=vals1 r;cases rx;let hn:=j8;rcases hq with hq |hq
 .obtain⟨its,r',pl,hz⟩:=I.list hq;let cA:=↥r';exact Calls.call_len_list pl.isList (by simp only[Z2]<;>omega) ⟨.int ↥ys,H,I.tok _,⟨s.toks+1,by rw[Z2,cA]⟩,q⟩
 .obtain⟨its,r',pl,hz⟩:=I.tuple hq;let cA:=↥r';exact len_tuple pl (by simp only[Z2]<;>omega) ⟨.int ↥ys,H,I.tok _,⟨s.toks+1,by rw[Z2,cA]⟩,q⟩
def ua:cg X (.type "list") (λxs H Q=>∃p ys,xs=[.ref p]/\(bI X.K H p ys\/aN X.K H p ys)/\∀l,H l=none->Q (.ref l) (aP H l (.lst ys))):=by
 intro ae s σ H xs us Q I r h;let⟨p,ys,rfl,hq,q⟩:=h;let⟨u,rfl,rx⟩:=vals1 r;cases rx;let j3:∀(its:Δ3),bw ys its->↥ys<=sizeLine->∀(h':Heap) (c':Nat),(∀b o',s.heap.get? b=↑o'->h'.get? b=↑o') ->
   h'.get? ⇑s=some { cls:=.type "list",dict:=none,data:=.seq its.toArray c',slots:=#[] }->EP X ae σ Q (.ref ⇑s) { s with heap:=h' }:=λits r' hz h' c' kp e =>
  ⟨.ref ⇑s,_,I.laid (t':=s.toks) kp (Zf _) (show cf X.prog X.w _ h' _ (.lst ys) from⟨hz,its,c',r',e⟩),(),q _ (I.ca.fresh (Zf _))⟩
 rcases hq with hq |hq
 .obtain⟨its,r',pl,hz⟩:=I.list hq;let cA:=↥r';let⟨o,ho,hc,n,hd⟩:=pl.isList;exact call_list_seq p (.inl rfl) ho hc hd (λh' c' kp e=>j3 its r' hz h' c' kp e) (by simp only[Z2]<;>omega)
 .obtain⟨its,r',pl,hz⟩:=I.tuple hq;let cA:=↥r';let⟨o,ho,hc,n,hd⟩:=pl;exact call_list_seq p (.inr rfl) ho hc hd (λh' c' kp e=>j3 its r' hz h' c' kp e) (by simp only[Z2]<;>omega)
def qm:cg X (.type "tuple") (λxs H Q=>∃p ys,xs=[.ref p]/\((bI X.K H p ys/\∀l,H l=none->Q (.ref l) (aP H l (.tup ys)))\/(aN X.K H p ys/\Q (.ref p) H))):=by
 intro ae s σ H xs us Q I r h;let⟨p,ys,rfl,h⟩:=h;let⟨u,rfl,rx⟩:=vals1 r;cases rx;rcases h with ⟨hq,q⟩ |⟨hq,q⟩
 .obtain⟨its,r',pl,hz⟩:=I.list hq;let cA:=↥r';apply call_tuple_list pl.isList (λh' kp=>?_) (by simp only[Z2]<;>omega);let I1:Inv X ae σ H { s with heap:=h' }:=I.kept (t':=s.toks) kp;let I2:Inv X ae σ (aP H h'.objs.size (.tup ys)) { s with heap:=h'.push { cls:=.type "tuple",data:=.seq its.toArray } } :=
   I1.laid (t':=s.toks) (λb o e=>Zn _ e) (Zf _) (show cf X.prog X.w _ _ _ (.tup ys) from⟨hz,its,r',IsTup.new _ _⟩)
  exact⟨.ref h'.objs.size,_,I2,(),q _ (I1.ca.fresh (Zf _))⟩
 .obtain⟨its,r',pl,hz⟩:=I.tuple hq;exact call_tuple_same pl ⟨.ref p,H,I,(),q⟩
def R6 (K:Θ1)(T:String)(x:V)(H:Hp):Prop:=match x with
 |.str _=>T="str"
 |.int _=>T="int"
 |.ref p=>(T="list"/\∃xs,bI K H p xs)\/(T="tuple"/\∃o,K.lookup p=↑o/\o.cls=.type "tuple"/\o.dict=none) \/
   (T="dict"/\((∃kvs,H p=↑(.dK kvs))\/∃kvs,H p=↑(.dT kvs)))\/(T="set"/\∃S n,H p=↑(.set S n))
 |_=>False
def EB (I:Inv X ae σ H s)(r:RelV x v)(ty:R6 X.K T x H) :
  s.TypeIs v T/\∀a,v=.ref a->∃ob,s.heap.get? a=↑ob/\ob.dict=none:=by
 cases x with
 |str z =>
  let⟨t,rfl⟩:=r;cases (show T="str" from ty);exact⟨typeIs_str s z t,λ_ e=>nomatch e⟩
 |int i =>
  let⟨t,rfl⟩:=r;cases (show T="int" from ty);exact⟨typeIs_int s i t,λ_ e=>nomatch e⟩
 |ref p =>
  cases r
  rcases ty with ⟨rfl,xs,hq⟩ |⟨rfl,o,hk,hc,hd⟩ |⟨rfl,hk⟩ |⟨rfl,S,n,hk⟩
  .obtain⟨its,_,pl,_⟩:=I.list hq;apply⟨pl.isList.typeIs,λa e=>?_⟩;cases e;let⟨o,n,e,c,hd,_⟩:=pl;exact⟨o,e,hd⟩
  .apply⟨⟨o,I.uo p o hk,hc⟩,λa e=>?_⟩;cases e;exact⟨o,I.uo _ o hk,hd⟩
  .let z:∃o,s.heap.get? p=↑o/\o.ExactDict:=by
    rcases hk with ⟨kvs,hk⟩ |⟨kvs,hk⟩
    .obtain⟨_,_,_,_,o,_,_,e,ex,_⟩:=I.ca p _ hk;exact⟨o,e,ex⟩
    .obtain⟨_,_,_,_,o,_,_,e,ex,_⟩:=I.ca p _ hk;exact⟨o,e,ex⟩
   let⟨o,e,ex⟩:=z;apply⟨⟨o,e,ex.1⟩,λa e2=>?_⟩;cases e2;exact⟨o,e,ex.2.1⟩
  .obtain⟨o,_,_,_,e,ex,_⟩:=I.ca p _ hk;apply⟨⟨o,e,ex.1⟩,λa e2=>?_⟩;cases e2;exact⟨o,e,ex.2.1⟩
 |_=>exact False.elim ty
def ach (K:Θ1)(T:String)(r:V->List V->Hp->VK->Prop)(to:TE):TE:=λσ H Q=>to σ H λx H1=>R6 K T x H1/\r x [] H1 Q
def tBM (K:Θ1)(T:String)(r:V->List V->Hp->VK->Prop)(to:TE)(t:TA):TE:=λσ H Q=>to σ H λx H1=>R6 K T x H1/\t σ H1 λxs H2=>r x xs H2 Q
variable {o e:Expr}{es:Ξ2}{to:TE}{t:TA}{name:Str}{sj j4:Pos}{T id:String}{r:V->List V->Hp->VK->Prop}
def ET (pa:PlainAttrs T)(slot:Slot T name id)(HK:typeOf (.builtin id)=pure (.type "method_descriptor"))(hm:YX X id r)(ho:PE X o to)
  (uX:attributeBase o name X.env (eval o X.env)=eval o X.env:=by rfl) (uW:(sj.endLine == j4.line)=true:=by rfl):PE X (.Call (.Attribute o name sj) [] [] j4) (ach X.K T r to):=by
 intro ae s σ H Q I h;apply wpAny_Call_method0_late uX uW (bH (ho ae s σ H _ I h) λv s1 ⟨x,H1,I1,r1,ty,q1⟩=>?_);let⟨h1,h2⟩:=EB I1 r1 ty;exact⟨T,id,pa,slot,HK,h1,h2,Calls.callWith_builtin rfl (PySem.evalArgs_none (hm ae s1 σ H1 x [] v [] Q I1 r1 .nil q1))⟩
end
def MtM (X:Cx)(id:String)(r:V->List V->Hp->VK->Prop):Prop :=
 ∀(ae:Γ2) (s:Shared) (σ:St) (H:Hp) (x:V) (xs:List V) (v:Value) (us:Δ3) (Q:VK),Inv X ae σ H s->RelV x v->bw xs us->r x xs H Q ->
  X∪(call (.builtin id) (v::us)) (EP X ae σ Q) X.xe s
theorem bw.one:∀{x:V}{us:Δ3},bw [x] us->∃u,us=[u]/\RelV x u
 |_,_,.cons r .nil=>⟨_,(),r⟩
section
variable {X:Cx}{ae:Γ2}{σ:St}{H:Hp}{s:Shared}{l b:Addr}{xs ys zs:List V}
def Inv.acH {its its':Δ3}{n:Nat}(I:Inv X ae σ H s)(hH:H l=↑(.lst xs))
  (e:s.heap.get? l=some { cls:=.type "list",data:=.seq its.toArray n }) (hf:f its.toArray=its'.toArray) (hv:bw ys its') (hz:↥ys<=sizeLine) :
  Inv X ae σ (aP H l (.lst ys)) { s with heap:=s.heap.update l (Obj.mapSeq f),toks:=t' }:=by
 let q:=PySem.IsL.update e f;rw[hf] at q;apply I.write (x:=l) (e:=l) (by rw[hH];exact trivial) (.inl rfl) (λb' u hb hu=>(Xv s.heap (Obj.mapSeq f) (Ne.symm hb)).trans hu) ⟨_,q⟩ ?_;exact⟨hz,its',_,hv,q⟩
def Inv.Ol (I:Inv X ae σ H s)(hv:bw ys its)(hz:↥ys<=sizeLine) :
  Inv X ae σ (aP H ⇑s (.lst ys)) { s with heap:=s.heap.push { cls:=.type "list",data:=.seq its.toArray },toks:=t' } :=
 I.laid (λ_ _ q=>Zn _ q) (Zf _) ⟨hz,its,0,hv,Z0 _ rfl⟩
def Inv.fresh (I:Inv X ae σ H s):H ⇑s=none:=I.ca.fresh (Zf _)
def Inv.Oi (I:Inv X ae σ H s)(hH:H l=↑(.lst xs)):↥xs<=sizeLine/\∃(its:Δ3) (n:Nat),bw xs its/\↥xs=↥its/\s.heap.get? l=some { cls:=.type "list",data:=.seq its.toArray n }:=by
 let⟨z,its,n,r,e⟩:=I.ca l _ hH;exact⟨z,its,n,r,↥r,e⟩
end
section
variable {X:Cx}
def JM:V->List V->Hp->VK->Prop:=λx vs H Q=>∃l xs y,x=.ref l/\vs=[y]/\H l=↑(.lst xs)/\↥xs<sizeLine/\Q .cj (aP H l (.lst (xs++[y])))
def rd:MtM X "list.append" JM:=by
 intro ae s σ H x vs v us Q I rx rv h;let⟨l,xs,y,rfl,rfl,hH,hz,q⟩:=h;cases rx;let⟨u,rfl,ru⟩:=rv.one;let⟨z,its,n,r,hl,e⟩:=I.Oi hH;apply call_meets F.slot_list_append ⟨_,e,()⟩ F.entry_list_append (F.args_list_append_2 _ _) (PySem.list_append l its.toArray n u (by rw[Z2];omega)) ⟨e,?_⟩;apply⟨.cj,_,I.acH (its':=its++[u]) hH e (by simp) (r.append (.cons ru .nil)) ?_,(),q⟩;rw[Zv,Qy];omega
def UH:R2:=λx y H Q=>∃l b xs zs,x=.ref l/\y=.ref b/\H l=↑(.lst xs)/\H b=↑(.lst zs)/\↥xs+↥zs<=sizeLine/\∀p,H p=none->Q (.ref p) (aP H p (.lst (xs++zs)))
def QI:eT X (binaryOp .Add) UH:=by
 intro ae s σ H x y v u Q I rx ry h;let⟨l,b,xs,zs,rfl,rfl,hH,hB,hz,q⟩:=h;cases rx;cases ry;let⟨z,its,n,r,hl,e⟩:=I.Oi hH;let⟨z2,DV,n2,r2,TC,e2⟩:=I.Oi hB;apply PySem.P.add_list e e2 ?_ (by rw[Z2,Z2];omega);let ea:its.toArray++DV.toArray=(its++DV).toArray:=by simp
 rw[ea];exact⟨.ref _,_,I.Ol (t':=s.toks) (r.append r2) (by rw[Zv];omega),(),q _ I.fresh⟩
end
section
variable {prog:Program}{w:World}{A:Around}{E:Θ2}{s:Shared}
end
section
variable {X:Cx}
end
end L2
namespace Att
open PySem.W PySem.Calls PyProof.Rows
def m4:∀(ns:Γ3) (vs:Δ3),WellAll P h vs (ns.map WData.int)->IntsAre vs ns:=by
 intro ns;induction ns with
 |nil =>
  intro vs w;rw[List.map_nil] at w;cases w;exact .nil
 |cons n ns ih =>
  intro vs w;rw[Zm] at w;cases w with
  |cons a b =>
   cases a
   exact .cons _ _ (ih _ b)
def BW {l:OpenLaw}{n:Nat}(hn:l.most=↑n)
  (IA:l.row.toRowW.claim.pre args) (Ho:WellAll P h Ug args) :
  ∃a vs ns,Ug=[Value.ref a]/\args=[WData.list (ns.map WData.int)]/\h.get? a=some { cls:=.type "list",data:=.seq vs.toArray }/\IntsAre vs ns/\↥ns<=n:=by
 let wK:WShape.hasAll [] args [.list .int]:=(pre_splitW IA).1;let hc:l.pre.holds [] { args:=args }=true:=(pre_splitW IA).2;let⟨d,r,rfl,h1,h2⟩:=hasAllW_cons wK;obtain rfl:=hasAllW_nil h2;let⟨xs,rfl,h3⟩:=hasW_list h1;let⟨ns,rfl⟩:=items_int h3;let cA:↥ns<=n:=by
  unfold OpenLaw.pre at hc;let h4:(WTm.not (.lt (.lit (.int (n:Int))) (.len (.arg 0)))).holds [] { args:=[.list (ns.map .int)] }=true:=by
   let h4:=(holds_andW hc).1;rw[hn] at h4;exact h4
  let h5:=condW_of h4 (w_not (w_lt w_lit (w_len_list (w_arg rfl))));rw[Zb] at h5;apply Xf λq=>?_
  let q':(n:Int)<((↥ns:Nat):Int):=⋯
  first
   |(rw[aea q'] at h5;exact afa h5 ∅)
   |(simp at h5;omega)
 cases Ho with
 |cons w1 w2 =>
  cases w2
  cases w1 with
  |list ho qc=>exact⟨_,_,ns,(),(),ho,m4 ns _ qc,cA⟩
def B1 (l:OpenLaw)(args:List WData):l.row.toRowW.claim.post args (.bool true) args=true :=
 postW_of (r:=l.row.toRowW) (X:=(true == true))
  (show WShape.has [] (.bool true) .bool=true by first |rfl |decide |simp[WShape.has,WShape.arms,WShape.armsAll])
  (show(WTm.eq .res (.lit (.bool true))).value [] { args:=args,res:=↑(.bool true),after:=args }=↑(.bool (true == true)) from w_eq_bool (w_res rfl) w_lit) rfl
def wD {l:OpenLaw}{n:Nat}
  (hn:l.most=↑n) (TK:d.params.defaults=[])
  (call:∀(w:World) (fj bT:Shared) (mg mb:Θ3) (fa:Addr) (o:Obj) (pm cd gU:Value) (a:Addr) (vs:Δ3) (ns:Γ3),
   Ground q loose [] XP w fj mg mb bT.heap->YP w bT.heap ->
   bT.heap.get? fa=↑o->o.data=.func (docDef d.name d.params d.body d.scope pm cd gU)->bT.heap.CodeRec cd d.name->mg d.name=↑(.ref fa) ->
   bT.heap.get? a=some { cls:=.type "list",data:=.seq vs.toArray }->IntsAre vs ns->↥ns<=n->bT.gens=#[] ->
   codeAny (model l.prog w) callerA (.call (.ref fa) ⟨[.ref a],[]⟩) (λr s'=>r=.ok (.ret (.bool true))/\OldK bT.heap s'.heap/\s'.os=bT.os/\AllBare s'.gens) bT) :
  WalkO q loose XP YP l.row.toRowW d [] (λf vs=>PySem.call f vs):=by
 intro w fj bT mg mb G Y fa o pm cd gU dV kV ho hd wX hD Tx hg args Ug as IA ali hrd Ho hlo;obtain rfl:dV=.none:=Dflts.none hD TK;obtain rfl:kV=.none:=Dflts.noKw hD;let⟨a,vs,ns,rfl,rfl,Oq,Et,cA⟩:=BW hn IA Ho;apply enter_call (codeAny_mono (call w fj bT mg mb fa o pm cd gU a vs ns G Y ho (fd_plain hd) wX Tx Oq Et cA hg) λr s' hq=>?_);let⟨rfl,h2,h3,h4⟩:=hq;exact⟨.inl ⟨.bool true,.bool true,[],(),λ_=>rfl,.bool true,B1 l _,λ_=>⟨List.Pairwise.nil,λ_ hm=>(nomatch hm)⟩⟩,h2,h3,h4⟩
section
variable {prog:Program}{w:World}{A:Around}{E:Θ2}{s:Shared}{K:Frag}
end
end Att
namespace L2
open PySem.Spec PyProof.Rows
theorem qM:∀{vs:Δ3}{ns:Γ3},IntsAre vs ns->bw (ns.map V.int) vs
 |_,_,.nil=>.nil
 |_,_,.cons n t h=>.cons ⟨t,()⟩ (qM h)
def ON (H:Hp):Prop:=∀b,H b=none\/∃o xs,H b=↑(.iK o (.lst xs))
def GK {P:Program}{w:World}{K:Θ1}
  (KX:K.In bT.heap) (Ss:bT.heap.Ns mainGlobals mg) (hb:bT.heap.Ns builtinsNs mb) (hbb:∀x:Str,x ≠ "__name__"->mb x=bootBuiltins x) (acW:bT.heap.NoLimit) (hse:bT.heap.NoSeer) (hg:bT.gens=#[])
  (ha:bT.heap.get? a=some { cls:=.type "list",data:=.seq vs.toArray }) (hi:IntsAre vs ns) (hl:↥ns<=sizeLine) (hr:c6 k callerA)
  (F:∀base:Heap,K.In base->base.Ns mainGlobals mg->aF P w K mg base CX k fa fd [x] sp) (W0:∀(s:Shared) (u:Value),BindsTo s fd ⟨[u],[]⟩ [(x,u)])
  (Hq:∀H:Hp,ON H->bI K H a (ns.map V.int)->sp [.ref a] H (λv _=>v=.bl true) λ_ _ _=>False)
  (hCX:∀H e s',CX [] H bT (λ_ _ _=>False) e s'->False) :
  codeAny (model P w) callerA (.call (.ref fa) ⟨[.ref a],[]⟩) (λr s'=>r=.ok (.ret (.bool true))/\OldK bT.heap s'.heap/\s'.os=bT.os/\AllBare s'.gens) bT:=by
 let rv:=qM hi;let U8:=↥hi;let Vu:∀H:Hp,ON H->bI K H a (ns.map V.int)->kA P w H bT.heap->(∀b,H b≠none->b=a)->(H a≠none->K.lookup a=none) ->
   codeAny (model P w) callerA (.call (.ref fa) ⟨[.ref a],[]⟩) (λr s'=>r=.ok (.ret (.bool true))/\OldK bT.heap s'.heap/\s'.os=bT.os/\AllBare s'.gens) bT:=by
  intro H hO hS ca hA hK;let tS:∀{b:Addr}{o:Obj},bT.heap.get? b=↑o->H b=none->(sf bT.heap H).get? b=↑o:=λe n=>GQ e n
  let Ta:∀{b:Addr}{o:Obj}{es:Array DictEntry}{ep:Nat},bT.heap.get? b=↑o->o.data=.dict es ep->H b=none:=λ{b o es ep} e d=>by
   cases q:H b with
   |none=>rfl
   |some u =>
    let e':b=a:=hA b (by rw[q];simp);subst e';rw[ha] at e;cases e;let d':Data.seq vs.toArray _=Data.dict es ep:=d;cases d'
  let Ln:∀{b:Addr}{m:Θ3},bT.heap.Ns b m->(sf bT.heap H).Ns b m:=λ{b m} ⟨o,es,ep,e,d,r⟩=>⟨o,es,ep,tS e (Ta e d),d,r⟩
  let hKb:K.In (sf bT.heap H):=λb o e=>tS (KX b o e) (by
   cases q:H b with
   |none=>rfl
   |some u =>
    let e':b=a:=hA b (by rw[q];simp);subst e';rw[hK (by rw[q];simp)] at e;cases e)
  let noM:∀{b:Addr}{o:Obj},bT.heap.get? b=↑o->o.cls=.type "module"->H b=none:=λ{b o} e d=>by
   cases q:H b with
   |none=>rfl
   |some u =>
    let e':b=a:=hA b (by rw[q];simp);subst e';rw[ha] at e;cases e;exact afa (show Value.type "list"=Value.type "module" from d) ∅
  let hM:Mod K mg (sf bT.heap H):=⟨hKb,Ln Ss,⟨mb,Ln hb,hbb⟩,let ⟨mc,h1,h2⟩:=acW;⟨mc,Ln h1,h2⟩,let ⟨⟨mc,q1,q2⟩,⟨mm,q3,q4⟩,⟨mb',q5,q6⟩,⟨mg',bm,ob,q7,q8,q9,Lm,Ng⟩⟩:=hse;⟨⟨mc,Ln q1,q2⟩,⟨mm,Ln q3,q4⟩,⟨mb',Ln q5,q6⟩,⟨mg',bm,ob,Ln q7,q8,tS q9 (noM q9 Lm),Lm,Ng⟩⟩⟩;let e0:IY P w K mg (sf bT.heap H) callerA [] bT H:=⟨(),hM,λb o e=>Kn e,Nat.le_of_eq (CC _ _),trivial,λb hb=>afa (show b∈([]:List Addr) from hb) (by simp),ca,.of_eq hg⟩;apply codeAny_mono ((F _ hKb (Ln Ss)).run callerA [] bT H ⟨[.ref a],[]⟩ [.ref a] [.ref a] _ _ hr e0 (W0 bT (.ref a)) (.cons rfl .nil) (Hq H hO hS)) λr s' h=>?_
  cases r with
  |error e=>exact(hCX H e s' h).elim
  |ok fl =>
   cases fl with
   |next=>exact False.elim h
   |brk=>exact False.elim h
   |cont=>exact False.elim h
   |ret u =>
    let⟨v,H',os,bare,un,acT,r',q⟩:=h;let q':v=.bl true:=q;subst q';obtain rfl:u=Value.bool true:=r';apply⟨(),OldK.of_keep λb o e=>?_,os,bare⟩;cases q:H b with
    |none=>exact un.keep b o e q (by intro z;exact afa (show b∈([]:List Addr) from z) (by simp)) (by simp)
    |some u =>
     rcases hO b with z |⟨ob,xs,z⟩
     .rw[q] at z;cases z
     .let z2:=un.si b ob _ z;let⟨e1,_⟩:=ca b _ z;let⟨e2,_⟩:=acT b _ z2;rw[e] at e1;cases e1;exact e2
 cases hk:K.lookup a with
 |some o =>
  let e:=KX a o hk;rw[ha] at e;cases e;apply Vu (λ_=>none) (λ_=>.inl rfl) (.inr ⟨_,vs.toArray,_,hk,(),(),(),by rw[Z2,U8];exact hl,by simpa using rv⟩) (λb u z=>by have z':(none:Option HO)=↑u:=z;cases z') (λb z=>afa rfl z) λz=>afa rfl z
 |none =>
  apply Vu (λb=>if b=a then ↑(.iK { cls:=.type "list",data:=.seq vs.toArray } (.lst (ns.map V.int))) else none) (λb=>?_) (.inl (.inr ⟨{ cls:=.type "list",data:=.seq vs.toArray },aha rfl⟩)) (λb u z=>?_) (λb z=>?_) λ_=>hk
  .by_cases hb:b=a
   .exact .inr ⟨_,_,aha hb⟩
   .exact .inl (aga hb)
  .by_cases hb:b=a
   .let z':=(aha hb).symm.trans z;cases z';subst hb;exact⟨ha,by rw[Zb];exact hl,vs,_,rv,ha⟩
   .let z':=(aga hb).symm.trans z;cases z'
  .by_cases hb:b=a
   .exact hb
   .exact afa (aga hb) z
def IZ {l:PySem.W.OpenLaw}{n k:Nat}{K:Params->Θ1}{CX:World->DK}{sp:World->Sp}
  (se:importsNone q) (hn:l.most=↑n) (hn2:n<=sizeLine) (TK:d.params.defaults=[]) (hr:c6 k callerA)
  (hY:∀(w:World) (h:Heap),YP w h->(K w.params).In h)
  (F:∀(w:World) (mg:Θ3) (fa:Addr) (h:Heap),(K w.params).In h->h.Ns mainGlobals mg->mg d.name=↑(.ref fa) ->
   ∃fd:FuncData,(∀(s:Shared) (u:Value),BindsTo s fd ⟨[u],[]⟩ [(x,u)]) /\
    ∀base:Heap,(K w.params).In base->base.Ns mainGlobals mg->aF l.prog w (K w.params) mg base (CX w) k fa fd [x] (sp w))
  (Hq:∀(w:World) (H:Hp) (a:Addr) (ns:Γ3),↥ns<=n->ON H->bI (K w.params) H a (ns.map V.int)->sp w [.ref a] H (λv _=>v=.bl true) λ_ _ _=>False)
  (hCX:∀(w:World) (H:Hp) (s:Shared) (e:Value) (s':Shared),CX w [] H s (λ_ _ _=>False) e s'->False) :
  PySem.W.WalkO q loose XP YP l.row.toRowW d [] (λf vs=>PySem.call f vs):=by
 apply Att.wD hn TK λw fj bT mg mb fa o pm cd gU a vs ns G Y ho hd wX Tx Oq Et cA hg=>?_
 let KX:=hY w _ Y;let⟨fd,hb,hF⟩:=F w mg fa _ KX G.T.g Tx;exact GK KX G.T.g G.T.b G.T.builtins G.T.nolimit (G.T.seer se) hg Oq Et (Zl cA hn2) hr hF hb (λH hO hS=>Hq w H a ns cA hO hS) λH e s'=>hCX w H bT e s'
def wT (s:Stmt):Arguments:=match s with
 |.FunctionDef _ a _ _ _ _ _ _ _ _=>a
 |_=>{ posonlyargs:=[],args:=[],vararg:=none,kwonlyargs:=[],kw_defaults:=[],kwarg:=none,defaults:=[] }
def uq (s:Stmt):List Stmt:=match s with
 |.FunctionDef _ _ b _ _ _ _ _ _ _=>b
 |_=>[]
def bD (s:Stmt):Scope:=match s with
 |.FunctionDef _ _ _ _ _ _ sc _ _ _=>sc
 |_=>{ kind:=.function,names:=[],isGenerator:=false,isCoroutine:=false }
abbrev bX:DK:=λ_ _ _ _ _ _=>False
abbrev E0:XK:=λ_ _ _=>False
def aQ:xQ bX X E0:=λ_ _ _ _ _ _ _ h=>h.elim
structure cU (K:Θ1)(x qual:Str)(st:Stmt)(f:Addr)(fd:FuncData):Prop where
 ex:∃(oc:Value) (od:Option Addr) (kV gU pm:Value) (an:Option Addr) (bG ct:Value) (Sb:Array (Option Value)),
  fd=PySem.W.fnOf x qual (wT st) (uq st) (bD st) .none kV gU pm an bG ct/\K.lookup f=↑⟨oc,od,.func fd,Sb⟩/\PySem.W.codeIn K bG qual
 kp:PySem.W.keepIn K (.ref f)
section
variable {P:Program}{w:World}{K:Θ1}{mg:Θ3}{base:Heap}
def cU.ok {x qual:Str}{st:Stmt}{fd:FuncData}(F:cU K x qual st f fd)(S:ak N ps (bD st))(len:∀vs H Q E,sp vs H Q E->↥vs=↥ps)
  (Eu:∀(bG:Value) (A:Around) (outer:List Env) (s:Shared) (H:Hp) (vs:List V) (Q:VK) (E:XK),c6 k (A.deeper (envOfC qual (bD st) ⇑s f bG))->sp vs H Q E ->
   ∃t,jJ (uL bX P w K mg base N qual (bD st) f bG A outer s H E).Sd (uq st) t/\t { nx:=λ_ H'=>Q .cj H',rt:=Q } (start N vs) H):aF P w K mg base bX (k+1) f fd ps sp:=by
 let⟨oc,od,kV,gU,pm,an,bG,ct,Sb,rfl,lk,wX⟩:=F.ex;apply W2 lk wX S len λA outer s H vs Q E hr Hq=>?_
 let⟨t,h,q⟩:=Eu bG A outer s H vs Q E hr Hq;exact⟨t,h.Sd,q⟩
def cU.binds {x qual:Str}{st:Stmt}(F:cU K x qual st f fd)
  (h:∀(kV gU pm:Value) (an:Option Addr) (bG ct:Value) (us:Δ3),↥us=↥ps->bindArgs (PySem.W.fnOf x qual (wT st) (uq st) (bD st) .none kV gU pm an bG ct) ⟨us,[]⟩=pure (ps.zip us)):Binds K fd ps []:=by
 let⟨oc,od,kV,gU,pm,an,bG,ct,Sb,rfl,lk,wX⟩:=F.ex;exact .all (h kV gU pm an bG ct)
def xK {x qual:Str}{st:Stmt}{kV gU pm bG ct:Value}(l:K.lookup f=↑⟨oc,od,.func (PySem.W.fnOf x qual (wT st) (uq st) (bD st) .none kV gU pm an bG ct),Sb⟩)
  (c:PySem.W.codeIn K bG qual) (k:PySem.W.keepIn K (.ref f)):cU K x qual st f (PySem.W.fnOf x qual (wT st) (uq st) (bD st) .none kV gU pm an bG ct):=⟨⟨oc,od,kV,gU,pm,an,bG,ct,Sb,(),l,c⟩,k⟩
end
def zG (hr:c6 k A):A.units+1<cLine:=Nat.lt_of_le_of_lt (Nat.add_le_add_left (by decide:1<=64) _) hr.units
section
variable {X:Cx}
def pv (i:Nat)(hN:X.N[i]?=↑x:=by rfl)(hv:T7 X.env.scope x:=by first |exact Or.inl rfl |exact Or.inr (Or.inl rfl) |exact Or.inr (Or.inr rfl))(hd:(x == ("__debug__" : Str))=false:=by decide)
  (wX:(x == ("__classdict__" : Str))=false:=by decide):PE X (.Name x pos) (xc i):=QC hN hv hd wX
end
def bN {A B:Prop}(h:B):if false=true then A else B:=by
 rw[aga Z5];exact h
def bE {A B:Prop}(h:A):if true=true then A else B:=by
 rw[aha rfl];exact h
def BA {c A B:Prop}[Decidable c](h1:c->A)(h2:¬ c->B):if c then A else B:=by
 by_cases h:c
 .rw[aha h];exact h1 h
 .rw[aga h];exact h2 h
def d8 (env:Env):List (Str×NameKind)->List (Str×Addr)->List (Str×Addr)
 |[],acc=>acc
 |(n,k)::r,acc=>if k == .free then d8 env r ((n,(env.cells.lookup n).getD 0)::acc) else d8 env r acc
theorem md (f:Str×NameKind->List (Str×Addr)->Sem (ForInStep (List (Str×Addr))))
  (hf:∀n k cs,f (n,k) cs=if k == .free then (do let a <- cellOf env n;pure (.yield ((n,a)::cs))) else pure (.yield cs)) :
  ∀(names:List (Str×NameKind)) (acc:List (Str×Addr)),(∀x∈names,x.2=.free->(env.cells.lookup x.1).isSome)->forIn names acc f=pure (d8 env names acc)
 |[],acc,_=>by rw[List.forIn_nil];rfl
 |(n,k)::r,acc,h=>by
  rw[List.forIn_cons,hf];unfold d8;let hr:∀x∈r,x.2=.free->(env.cells.lookup x.1).isSome:=λx hx=>h x (Zi _ hx)
  by_cases hk:(k == NameKind.free)=true
  .rw[aha hk,aha hk];let e:=h (n,k) Zk ‹hk›;let⟨c,hc⟩:=Qg.mp e;unfold cellOf;simp only at hc;rw[hc];simp only[pure_bind,X3];exact md f hf r _ hr
  .rw[aga hk,aga hk,pure_bind];exact md f hf r _ hr
def Sk (h:∀x∈scope.names,x.2=.free->(env.cells.lookup x.1).isSome):closureFor scope env=pure (d8 env scope.names []):=by
 show(forIn scope.names ([]:List (Str×Addr)) _ >>= λcs=>pure cs)=_;rw[md (env:=env) _ (λn k cs=>by cases hk:k == NameKind.free<;>simp[hk]) scope.names [] h];simp only[pure_bind]
theorem jh:∀(names:List (Str×NameKind)) (acc:List (Str×Addr)),(∀x∈names,x.2=.free->(env.cells.lookup x.1).isSome) ->
  (d8 env names acc).lookup x=↑c->env.cells.lookup x=↑c\/acc.lookup x=↑c
 |[],_,_,e=>.inr e
 |(n,k)::r,acc,h,e=>by
  unfold d8 at e;let hr:∀x∈r,x.2=.free->(env.cells.lookup x.1).isSome:=λx hx=>h x (Zi _ hx)
  by_cases hk:(k == NameKind.free)=true
  .rw[aha hk] at e;rcases jh r _ hr e with q |q
   .exact .inl q
   .rw[Qi] at q;cases hb:x == n with
    |true =>
     rw[hb] at q;let hx:x=n:=by simpa using hb
     let⟨c',hc⟩:=Qg.mp (h (n,k) Zk ‹hk›);simp only at hc;rw[hc] at q;subst hx;rw[hc];exact .inl ‹q›
    |false=>rw[hb] at q;exact .inr q
  .rw[aga hk] at e;exact jh r _ hr e
theorem lh:∀(names:List (Str×NameKind)) (acc:List (Str×Addr)),((x,NameKind.free)∈names\/(acc.lookup x).isSome)->((d8 env names acc).lookup x).isSome
 |[],_,h=>h.elim (λe=>nomatch e) id
 |(n,k)::r,acc,h=>by
  unfold d8;by_cases hk:(k == NameKind.free)=true
  .rw[aha hk];apply lh r _ ?_;rcases h with h |h
   .rcases Zj.mp h with e |h
    .cases e;exact .inr (by rw[Qi];simp)
    .exact .inl h
   .apply .inr ?_;rw[Qi];split
    .rfl
    .exact h
  .rw[aga hk];apply lh r _ ?_;rcases h with h |h
   .rcases Zj.mp h with e |h
    .cases e;exact afa ∅ hk
    .exact .inl h
   .exact .inr h
theorem nN:∀(names:List (Str×NameKind)) (k:Nat) (acc:List (Str×Addr)),(cellsFrom k names acc).lookup x=↑c->k<=c\/(acc.lookup x=↑c/\(x,NameKind.cell)∉names)
 |[],_,_,e=>.inr ⟨e,by simp⟩
 |(n,kd)::r,k,acc,e=>by
  unfold cellsFrom at e;by_cases hk:(kd == NameKind.cell)=true
  .rw[aha hk] at e;rcases nN r _ _ e with q |⟨q,nr⟩
   .exact .inl ⋯
   .rw[Qi] at q;cases hb:x == n with
    |true=>rw[hb] at q;cases q;exact .inl (Zf _)
    |false =>
     rw[hb] at q;apply .inr ⟨q,λz=>?_⟩;rcases Zj.mp z with z |z
     .cases z;simp at hb
     .exact nr z
  .rw[aga hk] at e;rcases nN r _ _ e with q |⟨q,nr⟩
   .exact .inl q
   .apply .inr ⟨q,λz=>?_⟩;rcases Zj.mp z with z |z
    .cases z;exact hk (by simp)
    .exact nr z
theorem xO:∀(names:List (Str×NameKind)) (k:Nat) (acc:List (Str×Addr)),(∀p∈acc,p.2<k)->(∀p q,p∈acc->q∈acc->p.2=q.2->p.1=q.1)->∀p q,p∈cellsFrom k names acc->q∈cellsFrom k names acc->p.2=q.2->p.1=q.1
 |[],_,_,_,hi,p,q,hp,hq,e=>hi p q hp hq e
 |(n,kd)::r,k,acc,hb,hi,p,q,hp,hq,e=>by
  unfold cellsFrom at hp hq;by_cases hk:(kd == NameKind.cell)=true
  .rw[aha hk] at hp hq;apply xO r (k+1) ((n,k)::acc) (λz hz=>?_) (λy z hy hz e=>?_) p q hp hq e
   .rcases Zj.mp hz with rfl |hz
    .exact Nat.lt_succ_self _
    .exact Nat.lt_succ_of_lt (hb z hz)
   .rcases Zj.mp hy with hy |hy<;>rcases Zj.mp hz with hz |hz
    .rw[hy,hz]
    .subst hy;exact afa (hb z hz) (by rw[<- e];exact Yl _)
    .subst hz;exact afa (hb y hy) (by rw[e];exact Yl _)
    .exact hi y z hy hz e
  .rw[aga hk] at hp hq;exact xO r k acc hb hi p q hp hq e
theorem tP:∀(names:List (Str×NameKind)) (h:Heap) (acc:List (Str×Addr)) (p:Str×Addr),p∈cellsFrom h.objs.size names acc->p∈acc\/((pushCells h names).IsCell p.2 none/\h.objs.size<=p.2)
 |[],_,_,_,e=>.inl e
 |(n,kd)::r,h,acc,p,e=>by
  unfold cellsFrom at e;unfold pushCells;by_cases hk:(kd == NameKind.cell)=true
  .rw[aha hk] at e ⊢;let hs:(h.push { cls:=.type "cell",data:=.cell none }).objs.size=h.objs.size+1:=Y7 ..;rw[<- hs] at e;rcases tP r _ _ p e with q |⟨q,l⟩
   .rcases Zj.mp q with rfl |q
    .exact .inr ⟨Heap.IsCell.keeps ⟨_,Z0 _ rfl,()⟩ (pushCells_keeps _ _),Zf _⟩
    .exact .inl q
   .exact .inr ⟨q,⋯⟩
  .rw[aga hk] at e ⊢;exact tP r h acc p e
def wj
  (hQ:Q (newEnv scope ⇑s globals (cellsFrom (⇑s+1) scope.names cl) qual none .none ↑outer builtinsNs) { s with heap:=pushCells (s.heap.push { cls:=.type "dict",data:=.dict #[] }) scope.names }) :
  wpAny M A (newFunctionEnv scope globals cl [] qual none .none ↑outer) Q E s:=by
 simp only[newFunctionEnv,Option.isSome_some,if_true];apply Za (wpAny_alloc ?_);apply Za (wpAny_layCells _ (λname kind cells=>by cases hkc:kind == NameKind.cell<;>simp[hkc]) _ _ _ _ ?_);rw[show⇑({ s with heap:=s.heap.push { cls:=.type "dict",data:=.dict #[] } }:Shared)=⇑s+1 from Y7 ..];rw[List.forIn_nil];exact Za (aba (aba hQ))
def u8 (scope:Scope)(C:Addr)(env:Env):Env:=compEnvC scope (cellsFrom (C+1) scope.names (d8 env scope.names [])) C env
def cX (X:Cx)(scope:Scope)(C:Addr)(N:Δ2)(fp:List Addr)(s:Shared)(H:Hp):Cx where
 prog:=X.prog
 w:=X.w
 K:=X.K
 mg:=X.mg
 base:=X.base
 A:=X.A
 N:=N
 fj:=s
 dw:=H
 env:=u8 scope C X.env
 outer:=X.stack
 stack:=X.stack
 ex:=fp
 fn:=λx=>decide ((x,NameKind.cell)∈scope.names)
 calm:=X.calm
 pn:=[]
 xe:=λ_ _=>False
def dU (X:Cx)(eR:Ξ2)(t:TT):Prop :=
 ∀(ae:Γ2) (s:Shared) (σ:St) (H:Hp) (Q:Bool->Hp->Prop),Inv X ae σ H s->t σ H Q ->
  X∪(forIn eR true λc r=>if r=true then do let ok <- isTrue c X.env (eval c X.env);pure (ForInStep.yield ok) else pure (ForInStep.yield r)) (TP X ae σ Q) X.xe s
def NZ:TT:=λ_ H Q=>Q true H
def C8:dU X [] NZ:=λ_ s σ H Q I h=>wpAny_tests_nil ⟨H,I,h⟩
def kZ (h:PT X c t):dU X [c] t:=λae s σ H Q I q=>wpAny_tests_one (h ae s σ H Q I q)
def dH (own:Nat)(cap:List Nat)(σ:St):St:=List.replicate own none++cap.map λi=>(σ[i]?).getD none
structure aH (X:Cx)(scope:Scope)(own:Δ2)(cap:Δ2)(ix:List Nat):Prop where
 kind:scope.kind=.function
 names:∀x∈scope.names,x.2=.local->scope.names.lookup x.1=some .local
 nd:(scope.names.map (·.1)).Nodup
 frees:∀x∈scope.names,x.2=.free->X.env.kindOf x.1=some .cell\/X.env.kindOf x.1=some .free
 adb:∀(j:Nat) (x:Str),cap[j]?=↑x->(x,NameKind.free)∈scope.names
 at':∀(j:Nat) (x:Str),cap[j]?=↑x->∃i,ix[j]?=↑i/\X.N[i]?=↑x
 len:↥cap=↥ix
def iz (h:(relabel scope env).names.lookup x=↑k):(x,k)∈scope.names\/(k=.cell/\(x,NameKind.free)∈scope.names):=by
 let m:=Xo h;let⟨⟨n,k'⟩,hm,e⟩:=Zd.mp m
 grind
def pk {names:List (Str×NameKind)}(nd:(names.map (·.1)).Nodup)(h:(x,k)∈names)(h':(x,k')∈names):k=k':=by
 induction names with
 |nil=>cases h
 |cons p r ih =>
  rw[Zm,Yc] at nd;rcases Zj.mp h with e |h<;>rcases Zj.mp h' with e' |h'
  .rw[<- e'] at e;cases e;rfl
  .exact afa (Zd.mpr ⟨_,h',by rw[<- e]⟩) nd.1
  .exact afa (Zd.mpr ⟨_,h,by rw[<- e']⟩) nd.1
  .exact ih nd.2 h h'
section
def Inv.block (I:Inv X ae σ H s)(B:aH X scope own cap ix){fp:List Addr}(hf:∀b∈fp,eZ X ae H b)(ho:∀b∈fp,∃o,s.heap.get? b=↑o) :
  Inv (cX X scope ⇑s (own++cap) fp s H) [] (dH ↥own ix σ) H { s with heap:=pushCells (s.heap.push { cls:=.type "dict",data:=.dict #[] }) scope.names }:=by
 let has:∀x∈scope.names,x.2=.free->(X.env.cells.lookup x.1).isSome:=λx hx hk=>by
  let⟨c,e⟩:=I.ok.has x.1 (B.frees x hx hk);rw[e];rfl
 let keep:∀b o,s.heap.get? b=↑o->(pushCells (s.heap.push { cls:=.type "dict",data:=.dict #[] }) scope.names).get? b=↑o:=λb o e=>pushCells_keeps _ _ b o (Zn _ e)
 let old:∀x c,X.env.cells.lookup x=↑c->c<⇑s:=λx c e=>let ⟨v,q⟩:=I.cell x c e;q.lt
 let tO:∀x c,(cellsFrom (⇑s+1) scope.names (d8 X.env scope.names [])).lookup x=↑c->⇑s+1<=c\/(X.env.cells.lookup x=↑c/\(x,NameKind.cell)∉scope.names):=λx c e=>by
  rcases nN _ _ _ e with q |⟨q,nm⟩
  .exact .inl q
  .rcases jh _ _ has q with q |q
   .exact .inr ⟨q,nm⟩
   .cases q
 let nM:∀p∈d8 X.env scope.names [],X.env.cells.lookup p.1=↑p.2:=by
  let T5:∀(names:List (Str×NameKind)) (acc:List (Str×Addr)),(∀x∈names,x.2=.free->(X.env.cells.lookup x.1).isSome)->(∀p∈acc,X.env.cells.lookup p.1=↑p.2)->∀p∈d8 X.env names acc,X.env.cells.lookup p.1=↑p.2:=by
   intro names;induction names with
   |nil=>intro acc _ h p hp;exact h p hp
   |cons y r ih =>
    intro acc h h2 p hp;let⟨n,k⟩:=y;unfold d8 at hp;by_cases hk:(k == NameKind.free)=true
    .rw[aha hk] at hp;apply ih _ (λx hx=>h x (Zi _ hx)) (λq hq=>?_) p hp;rcases Zj.mp hq with rfl |hq
     .obtain⟨c,e⟩:=Qg.mp (h (n,k) Zk ‹hk›);simp only at e ⊢;rw[e];rfl
     .exact h2 q hq
    .rw[aga hk] at hp;exact ih _ (λx hx=>h x (Zi _ hx)) h2 p hp
  exact T5 _ _ has (λp hp=>nomatch hp)
 let ac9:∀x y c,(cellsFrom (⇑s+1) scope.names (d8 X.env scope.names [])).lookup x=↑c->(cellsFrom (⇑s+1) scope.names (d8 X.env scope.names [])).lookup y=↑c->x=y:=λx y c e1 e2 =>
  xO scope.names (⇑s+1) (d8 X.env scope.names []) (λp hp=>Nat.lt_succ_of_lt (old p.1 p.2 (nM p hp)))
   (λp q hp hq e=>I.ok.inj p.1 q.1 p.2 (nM p hp) (by rw[e];exact nM q hq)) (x,c) (y,c) (Xo e1) (Xo e2) rfl
 let W5:∀x c,(cellsFrom (⇑s+1) scope.names (d8 X.env scope.names [])).lookup x=↑c->∃v,(pushCells (s.heap.push { cls:=.type "dict",data:=.dict #[] }) scope.names).IsCell c v:=λx c e=>by
  let m:=Xo e;let hs:(s.heap.push { cls:=.type "dict",data:=.dict #[] }).objs.size=⇑s+1:=Y7 ..;rw[<- hs] at m;rcases tP _ _ _ _ m with q |⟨q,_⟩
  .obtain⟨v,z⟩:=I.cell _ _ (nM _ q);exact⟨v,z.keeps keep⟩
  .exact⟨none,q⟩
 let Vp:∀b∈fp,b<⇑s:=λb hb=>let ⟨o,e⟩:=ho b hb;Zq e
 apply⟨⟨I.ok.mod,?_,I.ok.glob,I.ok.blt,Zf _,ac9,λx hx=>?_,λx c hfx e=>?_,I.ok.hd,I.ok.frames,.inl rfl,λb hb=>⟨?_,λx c e=>?_⟩,I.bs,Zl I.ok.LG I.sz,λb o e hb=>?_,λb hb hz=>?_,I.stack,I.Ag⟩,
  rfl,I.bare,Un.kept keep,⟨λ_=>none,(Heap.Ns.new s.heap (.type "dict")).keeps (pushCells_keeps _ _),λi x v h1 h2 h3=>?_⟩,W5,I.ca.fresh (Zf _),λx c e=>?_,λp hp=>afa (show p∈([]:Γ2) from hp) (by simp),I.ca.kept keep,?_⟩
 .exact B.kind
 .let wJ:(relabel scope X.env).names.lookup x=some .cell\/(relabel scope X.env).names.lookup x=some .free:=hx;have:((cellsFrom (⇑s+1) scope.names (d8 X.env scope.names [])).lookup x).isSome:=by
   let fr:(x,NameKind.free)∈scope.names->((cellsFrom (⇑s+1) scope.names (d8 X.env scope.names [])).lookup x).isSome:=λz=>PySem.W.cellsFrom_some _ _ _ (.inr (lh _ _ (.inl z)))
   let ce:(x,NameKind.cell)∈scope.names->((cellsFrom (⇑s+1) scope.names (d8 X.env scope.names [])).lookup x).isSome:=λz=>by
    let T5:∀(names:List (Str×NameKind)) (k:Nat) (acc:List (Str×Addr)),(x,NameKind.cell)∈names->((cellsFrom k names acc).lookup x).isSome:=by
     intro names;induction names with
     |nil=>intro _ _ z;cases z
     |cons y r ih =>
      intro k acc z;let⟨n,kd⟩:=y;unfold cellsFrom;by_cases hk:(kd == NameKind.cell)=true
      .rw[aha hk];rcases Zj.mp z with e |z
       .cases e
        exact PySem.W.cellsFrom_some _ _ _ (.inr (by rw[Qi];simp))
       .exact ih _ _ z
      .rw[aga hk];rcases Zj.mp z with e |z
       .cases e;exact afa ∅ hk
       .exact ih _ _ z
    exact T5 _ _ _ z
   rcases wJ with q |q
   .rcases iz q with q |⟨_,q⟩
    .exact ce q
    .exact fr q
   .rcases iz q with q |⟨e,_⟩
    .exact fr q
    .cases e
  exact Qg.mp this
 .let hm:(x,NameKind.cell)∈scope.names:=aia hfx;rcases tO x c e with q |⟨_,nm⟩
  .exact Zl (Xy _) q
  .exact afa hm nm
 .exact Ye (Vp b hb)
 .rcases tO x c e with q |⟨q,_⟩
  .exact Xw (Yk (Vp b hb) (Zl (Xy _) q))
  .exact(hf b hb).2.2.2.2.1 x c q
 .rcases(hf b hb).2.2.2.1 with z |z
  .exact I.ok.DP b o e z
  .exact afa (Yk (Zq e) (Zl I.ok.LG z)) (Yl _)
 .rcases Zj.mp (I.xx b hz) with e |z
  .exact(hf b hb).2.1 e
  .exact(hf b hb).2.2.1 z
 .
  let h1:(own++cap)[i]?=↑x:=h1;let hi:↥own<=i:=by
   by_cases hi:i<↥own
   .unfold dH at h2;rw[Zr ‹hi›,Y9,aha hi] at h2;cases h2
   .omega
  rw[Yh hi] at h1;unfold dH at h2;rw[Yh ‹hi›,Qq,Zo] at h2;let⟨j,hj,hN⟩:=B.at' _ _ h1;rw[hj] at h2;simp only[Y5,Option.some.injEq] at h2;let h2':σ[j]?=↑↑v:=by
   cases q:σ[j]? with
   |none=>rw[q] at h2;simp at h2
   |some o=>rw[q] at h2;simp at h2;rw[h2]
  let fm:=B.adb _ _ h1;let kd:=B.frees _ fm rfl;let⟨m,hn,hl⟩:=I.loc;let⟨u,r,l⟩:=hl j x v hN h2' (by rcases kd with k |k;exact .inr (.inl k);exact .inr (.inr k));apply⟨u,r,.inr ?_⟩;let W4:∃c,X.env.cells.lookup x=↑c/\s.heap.IsCell c ↑u:=by
   rcases l with ⟨k,_⟩ |⟨_,c,e,z⟩
   .simp only at kd;rw[k] at kd;rcases kd with k |k<;>cases k
   .exact⟨c,e,z⟩
  let⟨c,ec,zc⟩:=W4;let WI:(x,NameKind.cell)∉scope.names:=λz=>by have:=pk B.nd z fm;cases this
  apply⟨?_,c,?_,zc.keeps keep⟩
  .let h3':(relabel scope X.env).names.lookup x=some .local\/(relabel scope X.env).names.lookup x=some .cell\/(relabel scope X.env).names.lookup x=some .free:=h3;rcases h3' with q |q |q
   .rcases iz q with q |⟨e,_⟩
    .have:=pk B.nd q fm;cases this
    .cases e
   .exact .inl q
   .exact .inr q
  .show(cellsFrom (⇑s+1) scope.names (d8 X.env scope.names [])).lookup x=↑c;let⟨c',e'⟩:=Qg.mp (PySem.W.cellsFrom_some (x:=x) scope.names (⇑s+1) (d8 X.env scope.names []) (.inr (lh _ _ (.inl fm))));rw[e'];rcases nN _ _ _ e' with q |⟨q,_⟩
   .exfalso;let m:=Xo e';let T5:∀(names:List (Str×NameKind)) (k:Nat) (acc:List (Str×Addr)),(x,NameKind.cell)∉names->(cellsFrom k names acc).lookup x=acc.lookup x:=by
     intro names;induction names with
     |nil=>intro _ _ _;rfl
     |cons y r ih =>
      intro k acc nm;let⟨n,kd⟩:=y;unfold cellsFrom;by_cases hk:(kd == NameKind.cell)=true
      .rw[aha hk,ih _ _ (λz=>nm (Zi _ z)),Qi];have:(x == n)=false:=by
        simp only[beq_eq_false_iff_ne];intro e;subst e;have:kd=.cell:=by simpa using hk
        subst this;exact nm Zk
       rw[this]
      .rw[aga hk,ih _ _ (λz=>nm (Zi _ z))]
    rw[T5 _ _ _ WI] at e';rcases jh _ _ has e' with z |z
    .exact afa (Yk (old _ _ z) (Zl (Xy _) q)) (Yl _)
    .cases z
   .rcases jh _ _ has q with z |z
    .rw[ec] at z;rw[z]
    .cases z
 .rcases tO x c e with q |⟨q,_⟩
  .exact I.ca.fresh (Zl (Xy _) q)
  .exact I.jU x c q
 .unfold dH;show _=↥(own++cap);rw[Zv,Zv,Qq,Zb,B.len]
end
def hV (g:TG)(tt:TT)(te:TE)(J:It)(acc:Addr)(au:St)(dw:Hp)(Q:VK):Prop :=
 ∃W:Nat->Nat->St->Hp->Prop,(∃m,W 0 m au (aP dw acc (.lst [])))/\∀i m aO H',W i m aO H' ->
  (J.stop i H'/\Q (.ref acc) H') \/
  (J.go i H'/\∃N:St->Hp->Prop,(∀cT H2,N cT H2->∃m',m'<m/\W (i+1) m' cT H2)/\∀x H2,J.qo i H' x H2->g x aO H2 λdD H3=>tt dD H3 λb H4 =>
   if b=true then te dD H4 λy H5=>∃ys,H5 acc=↑(.lst ys)/\↥ys<sizeLine/\N dD (aP H5 acc (.lst (ys++[y]))) else N dD H4)
def zg (wi:TI)(g:TG)(tt:TT)(te:TE)(own:Nat)(ix:List Nat):TE:=λσ H Q=>wi σ H λJ H1=>∀acc,H1 acc=none->hV g tt te J acc (dH own ix σ) H1 Q
def XC (prog:Program)(w:World)(A:Around)(tg:Expr)(eR:Ξ2)(env:Env)(it:Value)(R:Result->Shared->Prop)(ST:(Shared->Prop)->Shared->Prop)(I:Nat->Shared->Prop):Prop :=
 ∀n s,I n s->wpAny (model prog w) A (pyNext it) (λr bT=>match r with
   |none=>R (.ok .next) bT
   |some v=>wpAny (model prog w) A (letOwnedTupleGo tg it v) (λ_ LN=>wpAny (model prog w) A (assign tg env v) (λ_ dm =>
     wpAny (model prog w) A (forIn eR true λc r=>if r=true then do let ok <- isTrue c env (eval c env);pure (ForInStep.yield ok) else pure (ForInStep.yield r)) (λok iO =>
      if ok=true then ST (λs'=>∃m,m<n/\I m s') iO else ∃m,m<n/\I m iO) (λ_ _=>False) dm) (λ_ _=>False) LN) (λ_ _=>False) bT) (λ_ _=>False) s
def zW (prog:Program)(w:World)(A:Around)(tg:Expr)(eR:Ξ2)(env:Env)(it:Value)(ce:Expr)(lv:Nat)(acc:Value)(ST:(Shared->Prop)->Shared->Prop):Prop :=
 ∀R I,XC prog w A tg eR env it R ST I->∀n s,I n s->codeAny (model prog w) A (.compLoop ce lv it acc env) R s
def nH {prog:Program}{w:World}{A:Around}{ce tg:Expr}{eR:Ξ2}{lv:Nat}{it acc:Value}{env:Env}{ps:Pos}{ST:(Shared->Prop)->Shared->Prop}{tail:Bool->Sem Fin}(hT:compTurn ce lv it acc env=(do
   standAt ps
   match <- pyNext it with
   |none=>pure (.done .next)
   |some v =>
    letOwnedTupleGo tg it v
    assign tg env v
    let ok <- forIn eR true λc r=>if r=true then do let ok <- isTrue c env (eval c env);pure (ForInStep.yield ok) else pure (ForInStep.yield r)
    tail ok))
  (h1:∀(G:Shared->Prop) (R:Fin->Shared->Prop) E s,ST G s->(∀s,G s->R (.again (.compLoop ce lv it acc env)) s)->wpAny (model prog w) A (tail true) R E s)
  (h0:tail false=again (.compLoop ce lv it acc env):=by rfl) (hd:(model prog w).den (.compLoop ce lv it acc env)=(compTurn ce lv it acc env).onRaise (λx=>do noteFrame x env;theTreesLotGoes x):=by rfl) (hA:A.under (.compLoop ce lv it acc env)=A:=by rfl):zW prog w A tg eR env it ce lv acc ST:=by
 intro R I turn n s h;apply codeAny_loop rfl I (λn s hI=>?_) n h;rw[hd,hA,hT];apply wpAny_noted ?_;apply Za (wpAny_standAt (Za (ana (turn n s hI) (λr bT Iy=>?_) λ_ _ h'=>h'.elim)));cases r with
 |none=>exact aba Iy
 |some v =>
  apply Za (ana Iy (λ_ LN WX=>?_) λ_ _ h'=>h'.elim);apply Za (ana WX (λ_ dm xl=>Za (ana xl (λok iO Ix=>?_) λ_ _ h'=>h'.elim)) λ_ _ h'=>h'.elim);cases ok with
  |false=>rw[h0];exact aba ⟨(),Ix⟩
  |true=>exact h1 _ _ _ iO Ix λs h=>⟨(),h⟩
def tLp (g:TG)(tt:TT)(Dq:St->Hp->(St->Hp->Prop)->Prop)(J:It)(au:St)(dw:Hp)(Z:St->Hp->Prop):Prop :=
 ∃W:Nat->Nat->St->Hp->Prop,(∃m,W 0 m au dw)/\∀i m aO H',W i m aO H' ->
  (J.stop i H'/\Z aO H') \/
  (J.go i H'/\∃N:St->Hp->Prop,(∀cT H2,N cT H2->∃m',m'<m/\W (i+1) m' cT H2)/\∀x H2,J.qo i H' x H2->g x aO H2 λdD H3=>tt dD H3 λb H4=>if b=true then Dq dD H4 N else N dD H4)
def MB {X:Cx}{P:Γ2}{σ:St}{H:Hp}{s:Shared}{tg ce:Expr}{eR:Ξ2}{g:TG}{tt:TT}{Dq:St->Hp->(St->Hp->Prop)->Prop}{J:It}{fp:List Addr}{it:Addr}{tn:Nat->Heap->Prop}{lv:Nat}{acc:Value}{ST:(Shared->Prop)->Shared->Prop}{Z:St->Hp->Prop}{R:Result->Shared->Prop}
  (hc:X.calm) (ex:X.xe=λ_ _=>False) (L:zW X.prog X.w X.A tg eR X.env (.ref it) ce lv acc ST) (hg:PG X tg g) (hif:dU X eR tt)
  (hel:∀P σ H s N (G:Shared->Prop),Inv X P σ H s->Dq σ H N->(∀aO H' s',Inv X P aO H' s'->N aO H'->G s')->ST G s)
  (T:Turn X.prog X.w X.K tg J fp it tn) (st:tn 0 s.heap) (fk:∀H',(∀b∈fp,H' b=none)->∀b∈fp,eZ X P H' b) (fr:∀b∈fp,H b=none) (I:Inv X P σ H s) (q:tLp g tt Dq J σ H Z)
  (hR:∀aO H' s',Inv X P aO H' s'->Z aO H'->R (.ok .next) s'):codeAny (model X.prog X.w) X.A (.compLoop ce lv (.ref it) acc X.env) R s:=by
 let⟨W,⟨m0,w0⟩,turn⟩:=q;apply L R (λn s'=>∃i aO H',Inv X P aO H' s'/\tn i s'.heap/\(∀b∈fp,H' b=none)/\W i n aO H') ?_ m0 s ⟨0,_,_,I,st,fr,w0⟩;rintro n s5 ⟨i,yS,H5,I5,pT,YQ,w5⟩;rcases turn i n yS H5 w5 with ⟨stop,qn⟩ |⟨go,N,hN,step⟩
 .apply bH (T.done X rfl rfl rfl hc i P s5 yS H5 (λ_ _=>False) I5 (fk _ YQ) pT stop) λr s6 ⟨hr,I6⟩=>?_
  subst hr;exact hR _ _ _ I6 qn
 .apply bH (T.item X rfl rfl rfl hc i P s5 yS H5 (λ_ _=>False) I5 (fk _ YQ) pT go) λr s6 ⟨u,hr,h6⟩=>?_
  subst hr;apply bH h6 λ_ s7 ⟨x,H7,I7,r7,y7,l',fr7⟩=>?_
  let a1:=hg _ s7 yS H7 x u _ (I7.pinned (fk _ fr7) (T.obj _ _ l')) r7 (step x H7 y7);rw[ex] at a1;apply bH a1 λ_ s8 ⟨σ8,H8,I8,q8⟩=>?_
  let a2:=hif _ s8 σ8 H8 _ I8 q8;rw[ex] at a2;apply bH a2 λb s9 ⟨H9,I9,q9⟩=>?_
  let again:∀aO H' s',Inv X (P++oy fp s7.heap) aO H' s'->N aO H'->∃m,m<n/\∃i aO H',Inv X P aO H' s'/\tn i s'.heap/\(∀b∈fp,H' b=none)/\W i m aO H':=λaO H' s' I' n'=>by
   let⟨m',hm,w'⟩:=hN aO H' n';let pn:∀b∈fp,∀o,s7.heap.get? b=↑o->_:=λb gT o e=>I'.pin (b,o) (Ym _ (Ym _ (kq gT e)))
   apply⟨m',hm,i+1,aO,H',I'.gJ,T.keep _ _ _ l' λb gT o e=>(pn b gT o e).1,λb gT=>?_,w'⟩;let⟨o,e,d⟩:=T.obj _ _ l' b gT;exact(pn b gT o e).2.1
  cases b with
  |false=>exact again _ _ _ I9 q9
  |true=>exact hel _ _ _ _ _ _ I9 q9 again
section
def zQ {ce:Expr}{Dq:Addr->St->Hp->(St->Hp->Prop)->Prop}{ST:Env->Addr->(Shared->Prop)->Shared->Prop}{o:HO}{ob:Obj}{ae:Γ2}{σ:St}{H2:Hp}{s2:Shared}{J:It}{fp:List Addr}{it:Addr}{tn:Nat->Heap->Prop}{Q:VK}{E:Θ2}{RR:Value->Addr->Result->Shared->Prop}
  (B:aH X scope own cap ix) (hc:X.calm) (L:∀C D,zW X.prog X.w X.A tg eR (u8 scope C X.env) (.ref it) ce 0 (.ref D) (ST (u8 scope C X.env) D))
  (nS:∀acc env R s,codeAny (model X.prog X.w) X.A (.compLoop ce 0 (.ref it) acc env) R s->X∪(pyIter (.ref it)) (λTk s'=>codeAny (model X.prog X.w) X.A (.compLoop ce 0 Tk acc env) R s') (notedBy (model X.prog X.w) X.A env λx s'=>R (.error x) s') s->codeAny (model X.prog X.w) X.A (.compStart ce 0 (.ref it) acc env) R s)
  (hb:∀C fp s H,PG (cX X scope C (own++cap) fp s H) tg g/\dU (cX X scope C (own++cap) fp s H) eR tt/\∀D P σ H' s' N (G:Shared->Prop),Inv (cX X scope C (own++cap) fp s H) P σ H' s'->Dq D σ H' N->(∀aO H' s',Inv (cX X scope C (own++cap) fp s H) P aO H' s'->N aO H'->G s')->ST (u8 scope C X.env) D G s')
  (I2:Inv X ae σ H2 s2) (I3:Inv X ae σ (aP H2 ⇑s2 o) { s2 with heap:=s2.heap.push ob }) (T:Turn X.prog X.w X.K tg J fp it tn) (fU:tn 0 s2.heap) (f2:∀b∈fp,eZ X ae H2 b)
  (q:∀acc,H2 acc=none->tLp g tt (Dq acc) J (dH ↥own ix σ) (aP H2 acc o) λ_ H'=>Q (.ref acc) H')
  (HQ:∀D C H' s' m,Inv X ae σ H' s'->Q (.ref D) H'->s'.heap.Ns C m->eZ X ae H' C->RR (.ref D) C (.ok .next) s') :
  X∪(newFunctionEnv scope X.env.globals (d8 X.env scope.names []) [] X.env.qual none .none ↑X.env) (λkE gi =>
   codeAny (model X.prog X.w) X.A (.compStart ce 0 (.ref it) (.ref ⇑s2) { kE with scope:=relabel scope X.env }) (RR (.ref ⇑s2) kE.locals) gi) E { s2 with heap:=s2.heap.push ob }:=by
 apply wj ?_;let q:=q ⇑s2 I2.fresh;generalize hD:⇑s2=D at I3 q ⊢;let cN:∀b∈fp,b<D:=λb gT=>by
  let⟨o,e,_⟩:=T.obj 0 _ fU b gT;rw[<- hD];exact Zq e
 generalize hs3:({ s2 with heap:=s2.heap.push ob }:Shared)=s3 at I3 ⊢;let MF:∀b o,s2.heap.get? b=↑o->s3.heap.get? b=↑o:=λb o e=>by rw[<- hs3];exact Zn _ e
 let f3:∀b∈fp,eZ X ae (aP H2 D o) b:=λb gT=>⟨by rw[dE (Ye (cN b gT))];exact(f2 b gT).1,(f2 b gT).2⟩
 let I4:=I3.block B f3 λb gT=>let ⟨o,e,_⟩:=T.obj 0 _ fU b gT;⟨o,MF b o e⟩
 let wQ:tn 0 (pushCells (s3.heap.push { cls:=.type "dict",data:=.dict #[] }) scope.names):=T.keep 0 _ _ fU λb _ o e=>pushCells_keeps _ _ b o (Zn _ (MF b o e))
 let⟨hg,hif,he⟩:=hb ⇑s3 fp s3 (aP H2 D o);let loop:codeAny (model X.prog X.w) X.A (.compLoop ce 0 (.ref it) (.ref D) (u8 scope ⇑s3 X.env)) (RR (.ref D) ⇑s3) { s3 with heap:=pushCells (s3.heap.push { cls:=.type "dict",data:=.dict #[] }) scope.names }:=by
  apply MB (X:=cX X scope ⇑s3 (own++cap) fp s3 (aP H2 D o)) hc rfl (L ⇑s3 D) hg hif (he D) T wQ (λH' hn b gT=>⟨hn b gT,(I4.ok.YS b gT).1,I4.ok.D2 b gT,.inl gT,(I4.ok.YS b gT).2,λp hp=>afa (show p∈([]:Γ2) from hp) (by simp)⟩) (λb gT=>(f3 b gT).1) I4 q λyS H5 s6 I6 qn=>?_
  let J6:Inv X ae σ H5 s6:=I3.W6 (ch:=fp) I6.os I6.base I6.ca I6.bare λb gT=>⟨(f3 b gT).2.2.2.1,(f3 b gT).2.1,(f3 b gT).2.2.2.2.1,(f3 b gT).2.2.2.2.2⟩
  let⟨m,hn,_⟩:=I6.loc;exact HQ D _ H5 s6 m J6 qn hn (I3.jO (Zf _) I6.free)
 exact nS _ _ _ _ loop (T.self X.A 0 _ _ _ wQ loop)
def A2 {X':Cx}{P:Γ2}{D:Addr}{σ:St}{H:Hp}{s:Shared}{N:St->Hp->Prop}{G:Shared->Prop}(he:PE X' gy te)(ex:X'.xe=λ_ _=>False)(I:Inv X' P σ H s)(q:te σ H λy H5=>∃ys,H5 D=↑(.lst ys)/\↥ys<sizeLine/\N σ (aP H5 D (.lst (ys++[y]))))(k:∀aO H' s',Inv X' P aO H' s'->N aO H'->G s') :
  X'∪(eval gy X'.env) (λx gi=>X'∪(call (.builtin "list.append") [.ref D,x]) (λ_ nU=>G nU) (λ_ _=>False) gi) (λ_ _=>False) s:=by
 let a3:=he _ s σ H _ I q;rw[ex] at a3;apply bH a3 λyv R9 ⟨y,Ud,Ub,S6,ys,Tr,hz,Lm⟩=>?_
 let a4:=rd (X:=X') _ R9 σ Ud (.ref D) [y] (.ref D) [yv] (λv H'=>v=.cj/\N σ H') Ub rfl (.cons S6 .nil) ⟨D,ys,y,(),(),Tr,hz,(),Lm⟩;rw[ex] at a4;exact bH a4 λ_ XR ⟨_,H11,NT,_,_,Ng⟩=>k _ _ _ NT Ng
def rD {ae:Γ2}{σ:St}{H2:Hp}{s2:Shared}{it:Addr}{fp:List Addr}{tn:Nat->Heap->Prop}{J:It}{Q:VK}{E:Θ2}{RR:Value->Addr->Result->Shared->Prop}
  (B:aH X scope own cap ix) (hc:X.calm)
  (hb:∀C fp s H,PG (cX X scope C (own++cap) fp s H) tg g/\dU (cX X scope C (own++cap) fp s H) eR tt/\PE (cX X scope C (own++cap) fp s H) gy te)
  (I2:Inv X ae σ H2 s2) (T:Turn X.prog X.w X.K tg J fp it tn) (fU:tn 0 s2.heap) (f2:∀b∈fp,eZ X ae H2 b)
  (q:∀acc,H2 acc=none->hV g tt te J acc (dH ↥own ix σ) H2 Q)
  (HQ:∀D C H' s' m,Inv X ae σ H' s'->Q (.ref D) H'->s'.heap.Ns C m->eZ X ae H' C->RR (.ref D) C (.ok .next) s') :
  X∪(newList []) (λacc iO=>X∪(newFunctionEnv scope X.env.globals (d8 X.env scope.names []) [] X.env.qual none .none ↑X.env) (λkE gi =>
   codeAny (model X.prog X.w) X.A (.compStart (.ListComp gy [⟨tg,iter,eR,0⟩] scope pos) 0 (.ref it) acc { kE with scope:=relabel scope X.env }) (RR acc kE.locals) gi) E iO) E s2 :=
 aka (zQ (Dq:=λD σ H N=>te σ H λy H5=>∃ys,H5 D=↑(.lst ys)/\↥ys<sizeLine/\N σ (aP H5 D (.lst (ys++[y]))))
  (ST:=λenv D G=>X∪(eval gy env) (λx gi=>X∪(call (.builtin "list.append") [.ref D,x]) (λ_ nU=>G nU) (λ_ _=>False) gi) (λ_ _=>False)) B hc
  (λC D=>nH (compTurn_list ..) λG R E s h k=>Za (Za (ana h (λx gi xk=>Za (ana xk (λ_ nU xj=>aba (aba (k _ xj))) λ_ _ h'=>h'.elim)) λ_ _ h'=>h'.elim)))
  (λ_ _ _ _=>codeAny_compStart_list) (λC fp s H=>⟨(hb C fp s H).1,(hb C fp s H).2.1,λD P σ H' s' N G I q k=>A2 (hb C fp s H).2.2 rfl I q k⟩) I2 (I2.Ol (its:=[]) (ys:=[]) (t':=s2.toks) .nil (Z9 _)) T fU f2 q HQ)
def yX (B:aH X scope own cap ix)(hc:X.calm)(hi:PI X tg iter wi)
  (hb:∀C fp s H,PG (cX X scope C (own++cap) fp s H) tg g/\dU (cX X scope C (own++cap) fp s H) eR tt/\PE (cX X scope C (own++cap) fp s H) gy te)
  (hs:∀x,foldedSetIterable iter X.env x=pure x:=by intro _;rfl):PE X (.ListComp gy [⟨tg,iter,eR,0⟩] scope pos) (zg wi g tt te ↥own ix):=by
 intro ae s σ H Q I h;rw[eval_ListComp];let has:∀x∈scope.names,x.2=.free->(X.env.cells.lookup x.1).isSome:=λx hx hk=>by
  let⟨c,e⟩:=I.ok.has x.1 (B.frees x hx hk);rw[e];rfl
 apply wpAny_comprehension_free (use:=none) rfl hs (Sk has) B.kind B.names ?_;show wpAny _ _ (eval iter X.env) _ _ s;apply bH (hi ae s σ H _ I h) λv s1 h1=>bH h1 λHI s2 h2=>?_
 let⟨it,fp,tn,J,H2,e,I2,T,fU,f2,q⟩:=h2;subst e;apply rD (RR:=λacc C=>compPost (model X.prog X.w) X.A X.xe none (EP X ae σ Q) acc C) B hc hb I2 T fU f2 q ?_;intro D C H' s' m I' q' hn fC;apply⟨m,hn,λh' ut=>⟨.ref D,H',?_,(),q'⟩⟩;exact I'.turned (t':=s'.toks) (it:=C) (λb o DD e=>(ut.2 b DD).trans e) fC.1 fC.2.1 fC.2.2.2.1 fC.2.2.2.2.1 fC.2.2.2.2.2
def At (hN:X.N.Nodup)(HL:X.N[i]?=↑y)(hx:X.env.scope.names.lookup y=some .local)(B:aH X scope own cap ix)(hc:X.calm)(hi:PI X tg iter wi)
  (hb:∀C fp s H,PG (cX X scope C (own++cap) fp s H) tg g/\dU (cX X scope C (own++cap) fp s H) eR tt/\PE (cX X scope C (own++cap) fp s H) gy te)
  (DA:swapsWith (.ListComp gy [⟨tg,iter,eR,0⟩] scope pos) ↑(.Name y py) rT.line X.env=pure true:=by rfl)
  (hs:∀x,foldedSetIterable iter X.env x=pure x:=by intro _;rfl):PS X (.Assign [.Name y py] (.ListComp gy [⟨tg,iter,eR,0⟩] scope pos) rT) (DL (zg wi g tt te ↥own ix) (fu i)):=by
 intro ae s σ H D I h;rw[exec_Assign_Name_used _ _ _ _ DA];let has:∀x∈scope.names,x.2=.free->(X.env.cells.lookup x.1).isSome:=λx hx hk=>by
  let⟨c,e⟩:=I.ok.has x.1 (B.frees x hx hk);rw[e];rfl
 apply Za (wpAny_standAt (Za ?_));show wpAny _ X.A (do let _ <- comprehension (.ListComp gy [⟨tg,iter,eR,0⟩] scope pos) scope X.env _ (newList []) false (eval iter X.env) ↑(assign (.Name y py) X.env)) _ _ s;apply Za (ana (wpAny_comprehension_free (use:=↑(assign (.Name y py) X.env)) (Q:=λ_ s'=>SP X ae D .next s') rfl hs (Sk has) B.kind B.names ?_) (λ_ s' hq=>aba (aba hq)) λ_ _ e=>e);apply bH (hi ae s σ H _ I h) λv s1 h1=>bH h1 λHI s2 h2=>?_
 let⟨it,fp,tn,J,H2,e,I2,T,fU,f2,q⟩:=h2;subst e;apply rD (RR:=λacc C=>compPost (model X.prog X.w) X.A X.xe ↑(assign (.Name y py) X.env) (λ_ s'=>SP X ae D .next s') acc C) B hc hb I2 T fU f2 q ?_;intro Da C H' s' m I' q' hn fC;show wpAny _ X.A (assign (.Name y py) X.env (.ref Da)) _ _ s';let⟨oC,es,ep,hoC,TL,r⟩:=id hn;let Ip:Inv X (ae++[(C,oC)]) σ H' s':=I'.nz λp hp=>by
  rcases Zz.mp hp with z |z
  .exact I'.pin p (Ym _ z)
  .obtain rfl:p=(C,oC):=by simpa using z
   exact⟨hoC,fC.1,fC.2.1,fC.2.2.1,λv e=>by rw[TL] at e;cases e⟩
 apply wpAny_assign_Name (fE Ip hN HL (.inl hx) (v:=.ref Da) rfl (λNf Uc=>?_) (.inr hx));let pC:=(Uc.pin (C,oC) (Ym _ (Ym _ (by simp)))).1;apply⟨m,⟨oC,es,ep,pC,TL,r⟩,λh' ut=>⟨_,H',?_,q'⟩⟩;exact Uc.gJ.turned (t':=Nf.toks) (it:=C) (λb o DD e=>(ut.2 b DD).trans e) fC.1 fC.2.1 fC.2.2.2.1 fC.2.2.2.2.1 fC.2.2.2.2.2
end
def tv:V->Bool
 |.bl b=>b
 |.int i=>i != 0
 |_=>false
def fz:V->Bool
 |.bl _=>true
 |.int _=>true
 |.cj=>true
 |_=>false
def lj (r:RelV x v)(p:fz x)(h:Q (tv x) s):wpAny (model prog w) A (truthy v) Q E s:=by
 cases x with
 |cj=>cases r;exact truthy_none h
 |bl b=>cases r;exact ara h
 |int i=>let⟨t,rfl⟩:=r;exact PySem.P.truthy_int h
 |_=>cases p
def all_range {xs:List V}(hn:n=↥xs)(f:V->Bool):(~~~n).all (λi=>(xs[i]?.map f).getD true)=xs.all f:=by
 subst hn;rw[Ya];simp only[Yd,Zh];constructor
 .intro h x hx;let⟨i,hi,e⟩:=Qj.mp hx;have:=h i hi;rw[Zc hi,e] at this;simpa using this
 .intro h i hi;rw[Zc hi];simpa using h _ (Zw hi)
def any_range {xs:List V}(hn:n=↥xs)(f:V->Bool):(~~~n).any (λi=>(xs[i]?.map f).getD false)=xs.any f:=by
 subst hn;rw[Ya];simp only[Z6,Zh];constructor
 .rintro⟨i,hi,h⟩;rw[Zc hi] at h;exact⟨_,Zw hi,by simpa using h⟩
 .rintro⟨x,hx,h⟩;let⟨i,hi,e⟩:=Qj.mp hx;exact⟨i,hi,by rw[Zc hi,e];simpa using h⟩
section
def gK (I:Inv X ae σ H s)(hA:A.handled=none)(h:bI X.K H p xs\/aN X.K H p xs)
  (k:∀(it:Addr) (fp wr:List Addr) (its:Δ3) (St:Nat->Heap->Prop) (s2:Shared),bw xs its->Walks X.prog X.w A it fp wr ↥its (λi v=>its[i]?=↑v) St->St 0 s2.heap->(∀b∈fp,b<⇑s2) ->
   (∀h' tk,(∀b o,b∉wr->s2.heap.get? b=↑o->h'.get? b=↑o)->Inv X ae σ H { s2 with heap:=h',toks:=tk })->Q (.ref it) s2) :
  wpAny (model X.prog X.w) A (pyIter (.ref p)) Q E s:=by
 rcases h with h |h
 .obtain⟨its,rv,pl,hz⟩:=I.list h;let hp:p<⇑s:=by let⟨o,n,e,_⟩:=pl;exact Zq e
  apply wpAny_pyIter_list pl.isList ?_;let W:=Walks.list (prog:=X.prog) (w:=X.w) (A:=A) hA ⇑s p (Ye hp) its.toArray;apply k ⇑s [⇑s,p] [⇑s] its (λi h=>h.IsListIter ⇑s p i/\h.IsList p its.toArray) _ rv ‹W› ⟨⟨_,Z0 _ rfl,(),()⟩,pl.isList.push _⟩ (λb hb=>?_) (λh' tk hk=>?_)
  .show b<(s.heap.push _).objs.size;rw[Y7]
   grind
  .exact I.kept (t':=tk) λb o e=>hk b o (λz=>Yl _ (by have:=Zq e;simp at z;rw[z] at this;exact this)) (Zn _ e)
 .obtain⟨its,rv,pl,hz⟩:=I.tuple h;let hp:p<⇑s:=by let⟨o,e,_⟩:=pl;exact Zq e
  let pt:s.heap.IsTuple p its.toArray:=pl;apply wpAny_pyIter_tuple pt ?_;let W:=Walks.tuple (prog:=X.prog) (w:=X.w) (A:=A) hA ⇑s p (Ye hp) its.toArray;apply k ⇑s [⇑s,p] [⇑s] its (λi h=>h.IsTupleIter ⇑s p i/\h.IsTuple p its.toArray) _ rv ‹W› ⟨⟨_,Z0 _ rfl,(),()⟩,?_⟩ (λb hb=>?_) (λh' tk hk=>?_)
  .obtain⟨o,e,r⟩:=pt;exact⟨o,Zn _ e,r⟩
  .show b<(s.heap.push _).objs.size;rw[Y7]
   grind
  .exact I.kept (t':=tk) λb o e=>hk b o (λz=>Yl _ (by have:=Zq e;simp at z;rw[z] at this;exact this)) (Zn _ e)
def bw.at {i:Nat}(r:bw xs us)(e:us[i]?=↑v):∃x,xs[i]?=↑x/\RelV x v:=by
 let hi:i<↥us:=(Zg.mp e).1;let hx:i<↥xs:=by rw[↥r];exact hi
 let⟨u,h1,h2⟩:=r.get (Zc hx);rw[e] at h1;cases h1;exact⟨_,Zc hx,h2⟩
def Hc (hc:X.calm):cg X (.builtin "all") (λxs H Q=>∃p ys,xs=[.ref p]/\(bI X.K H p ys\/aN X.K H p ys)/\ys.all fz/\Q (.bl (ys.all tv)) H):=by
 intro ae s σ H xs us Q I r h;let⟨p,ys,rfl,hs,hp,q⟩:=h;let⟨u,rfl,ru⟩:=vals1 r;cases ru;apply call_all_walk (gK I (A:=X.A.in1) (I.ok.hd hc) hs λit fp wr its St s2 rv W st DC hk=>?_);apply⟨it,fp,wr,↥its,_,St,(λi=>(ys[i]?.map tv).getD true),(),W,st,λi v s' Q' E' hv hq=>?_,λh' tk kk=>⟨.bl (ys.all tv),H,hk h' tk kk,?_,q⟩⟩
 .obtain⟨x,ex,rx⟩:=rv.at hv;simp only[ex,Y5,X3] at hq;exact lj rx (Yd.mp hp x (Z1 ex)) hq
 .rw[all_range rv.length.symm];rfl
def Hb (hc:X.calm):cg X (.builtin "any") (λxs H Q=>∃p ys,xs=[.ref p]/\(bI X.K H p ys\/aN X.K H p ys)/\ys.all fz/\Q (.bl (ys.any tv)) H):=by
 intro ae s σ H xs us Q I r h;let⟨p,ys,rfl,hs,hp,q⟩:=h;let⟨u,rfl,ru⟩:=vals1 r;cases ru;apply call_any_walk (gK I (A:=X.A.in1) (I.ok.hd hc) hs λit fp wr its St s2 rv W st DC hk=>?_);apply⟨it,fp,wr,↥its,_,St,(λi=>(ys[i]?.map tv).getD false),(),W,st,λi v s' Q' E' hv hq=>?_,λh' tk kk=>⟨.bl (ys.any tv),H,hk h' tk kk,?_,q⟩⟩
 .obtain⟨x,ex,rx⟩:=rv.at hv;simp only[ex,Y5,X3] at hq;exact lj rx (Yd.mp hp x (Z1 ex)) hq
 .rw[any_range rv.length.symm];rfl
theorem mN (ns:Γ3):∀k,k<=↥ns->preSum (λi=>(ns[i]?).getD 0) k=(ns.take k).sum
 |0,_=>by simp[preSum]
 |k+1,h=>by
  let hk:k<↥ns:=h;rw[preSum,mN ns k (Nat.le_of_lt hk),Zc hk];let e:ns.take (k+1)=ns.take k++[ns[k]]:=by rw[List.take_add_one,Zc hk];rfl
  rw[e,List.sum_append];simp
def Ha (hc:X.calm):cg X (.builtin "sum") (λxs H Q=>∃(p:Addr) (ns:Γ3),xs=[.ref p]/\(bI X.K H p (ns.map V.int)\/aN X.K H p (ns.map V.int))/\Q (.int ns.sum) H):=by
 intro ae s σ H xs us Q I r h;let⟨p,ns,rfl,hs,q⟩:=h;let⟨u,rfl,ru⟩:=vals1 r;cases ru;apply call_sum_walkG (gK I (A:=X.A.in1) (I.ok.hd hc) hs λit fp wr its St s2 rv W st DC hk=>?_);apply⟨it,fp,wr,↥its,_,St,(λi=>(ns[i]?).getD 0),(),W,st,DC,λi v hv=>?_,λh' tk t' kk=>⟨.int ns.sum,H,hk h' tk kk,⟨t',?_⟩,q⟩⟩
 .obtain⟨x,ex,rx⟩:=rv.at hv;rw[Zo] at ex;cases e:ns[i]? with
  |none=>rw[e] at ex;cases ex
  |some n =>
   rw[e] at ex;cases ex;simp only[e,X3];exact rx
 .let hl:↥its=↥ns:=by rw[<- ↥rv,Zb]
  rw[hl,mN ns _ (Zf _),Yo]
def CU (hc:X.calm):cg X (.builtin "max") (λxs H Q=>∃(p:Addr) (ns:Γ3),xs=[.ref p]/\(bI X.K H p (ns.map V.int)\/aN X.K H p (ns.map V.int))/\ns≠[]/\∀m,m∈ns->(∀n∈ns,n<=m)->Q (.int m) H):=by
 intro ae s σ H xs us Q I r h;let⟨p,ns,rfl,hs,bF,q⟩:=h;let⟨u,rfl,ru⟩:=vals1 r;cases ru;apply call_max_walk (gK I (A:=X.A.in1) (I.ok.hd hc) hs λit fp wr its St s2 rv W st DC hk=>?_);let hl:↥its=↥ns:=by rw[<- ↥rv,Zb]
 let eY:0<↥ns:=Xg.mpr bF;let val:∀(i:Nat) (v:Value),its[i]?=↑v->∃t,v=Value.int ((ns[i]?).getD 0) t:=λi v hv=>by
  let⟨x,ex,rx⟩:=rv.at hv;rw[Zo] at ex;cases e:ns[i]? with
  |none=>rw[e] at ex;cases ex
  |some n =>
   rw[e] at ex;cases ex;exact rx
 apply⟨it,fp,wr,↥its,_,St,(λi j=>decide ((ns[i]?).getD 0>(ns[j]?).getD 0)),(),W,st,DC,⋯,CmpOf.ints_gt (λi=>(ns[i]?).getD 0) val,λv h' tk hP kk=>?_⟩;let⟨t,rfl⟩:=val _ _ hP;let⟨h1,h2⟩:=argBest_gt (λi=>(ns[i]?).getD 0) (↥its-1);let cN:argBest (λi j=>decide ((ns[i]?).getD 0>(ns[j]?).getD 0)) (↥its-1)<↥ns:=by
  omega
 apply⟨.int _,H,hk h' tk kk,⟨t,()⟩,q _ ?_ λn hn=>?_⟩
 .rw[Zc cN];exact Zw cN
 .obtain⟨i,hi,e⟩:=Qj.mp hn;have:=h2 i ⋯;simp only[Zc hi,X3] at this;rw[<- e];exact this
end
def Ul (K:Θ1)(c:Value)(te:TE):TE:=λσ H Q=>te σ H λx H1=>∃t b,jP K H1 x t/\PySem.W.kitOne K t c=↑b/\Q (.bl b) H1
section
def acj (ha:PE X a ta)(I:Inv X ae σ H s)(h:ta σ H R)
  (hs:starEach [a,b] X.env=[(false,eval a X.env),(false,eval b X.env)]) (k:∀u s1 x H1,Inv X ae σ H1 s1->RelV x u->R x H1->X∪(eval b X.env) (λv s2=>Q [u,v] s2) X.xe s1) :
  X∪(spliced (backTo pos (starEach [a,b] X.env))) Q X.xe s:=by
 rw[hs];apply Calls.spliced_cons (bH (ha ae s σ H _ I h) λu s1 ⟨x,H1,I1,r,q⟩=>?_);exact Calls.spliced_cons (bH (k u s1 x H1 I1 r q) λv s2 h2=>Calls.spliced_nil h2)
def JX (he:PE X e te)(hg:Gl X "isinstance")(hm:X.mg "isinstance"=none)(hgT:Gl X T)(hmT:X.mg T=none)(hv:bootBuiltins T=↑(.type n))
  (hb:bootBuiltins "isinstance"=↑(.builtin "isinstance")) (hnT:T ≠ "__name__":=by decide) (hdT:(T == ("__debug__" : Str))=false:=by decide)
  (hs:starEach [e,.Name T p2] X.env=[(false,eval e X.env),(false,eval (.Name T p2) X.env)]:=by rfl)
  (mU:(backTo pos (starEach [.Name T p2] X.env)).any (·.1)=false:=by rfl):PE X (.Call (.Name "isinstance" p) [e,.Name T p2] [] pos) (Ul X.K (.type n) te):=by
 intro ae s σ H Q I h;apply Call_ (gq I hg hm hb (PyProof.Rows.callWith_builtin1 (acj (Q:=λus s1=>X∪(call (.builtin "isinstance") us) (EP X ae σ Q) X.xe s1) he I h hs λu s1 x H1 I1 r q=>?_) ?_ mU))
 .apply gq I1 hgT hmT hv ?_ hnT hdT;let⟨t,b,ty,ek,q⟩:=q;exact Cv I1 r ty ek λtk=>⟨.bl b,H1,I1.tok tk,(),q⟩
 .rw[hs];rfl
end
mutual
inductive ng (K:Θ1) (H:Hp):V->PyData->Prop
 |cj:ng K H .cj .none
 |bl (b:Bool):ng K H (.bl b) (.bool b)
 |int (i:Int):ng K H (.int i) (.int i)
 |str (x:Str) (ok:(PyData.str x).canLay0):ng K H (.str x) (.str x)
 |lst {a:Addr}{xs:List V}{ds:Ξ1}:bI K H a xs->ft K H xs ds->ng K H (.ref a) (.list ds)
 |tup {a:Addr}{xs:List V}{ds:Ξ1}:aN K H a xs->ft K H xs ds->ng K H (.ref a) (.tuple ds)
inductive ft (K:Θ1) (H:Hp):List V->Ξ1->Prop
 |nil:ft K H [] []
 |cons {x:V}{xs:List V}{d:PyData}{ds:Ξ1}:ng K H x d->ft K H xs ds->ft K H (x::xs) (d::ds)
end
section
mutual
theorem ng.reads (I:Inv X ae σ H s):∀{x:V}{d:PyData}{u:Value},ng X.K H x d->RelV x u->∃as,Reads s.heap u d as
 |_,_,_,.cj,r=>by cases r;exact⟨_,.none⟩
 |_,_,_,.bl b,r=>by cases r;exact⟨_,.bool b⟩
 |_,_,_,.int i,r=>by let⟨t,rfl⟩:=r;exact⟨_,.int i t⟩
 |_,_,_,.str x _,r=>by let⟨t,rfl⟩:=r;exact⟨_,.str x t⟩
 |_,_,_,.lst hq h,r=>by
  cases r
  let⟨its,rv,⟨o,n,e,c,_,d⟩,_⟩:=I.list hq;let⟨as,ra⟩:=ft.reads I h rv;exact⟨_,.list e c d ‹ra›⟩
 |_,_,_,.tup hq h,r=>by
  cases r
  let⟨its,rv,⟨o,e,c,n,d⟩,_⟩:=I.tuple hq;let⟨as,ra⟩:=ft.reads I h rv;exact⟨_,.tuple e c d ‹ra›⟩
theorem ft.reads (I:Inv X ae σ H s):∀{xs:List V}{ds:Ξ1}{us:Δ3},ft X.K H xs ds->bw xs us->∃as,ReadsAll s.heap us ds as
 |_,_,_,.nil,r=>by cases r;exact⟨_,.nil⟩
 |_,_,_,.cons h t,r=>by
  cases r with
  |cons r1 r2 =>
   let⟨as,ra⟩:=ng.reads I h r1;let⟨bs,rb⟩:=ft.reads I t r2;exact⟨_,.cons ra rb⟩
end
mutual
theorem ng.lay {K:Θ1}:∀{x:V}{d:PyData},ng K H x d->d.canLay0
 |_,_,.cj=>rfl
 |_,_,.bl b=>rfl
 |_,_,.int i=>rfl
 |_,_,.str x ok=>ok
 |_,_,.lst hq h=>by have:=ft.lay h;simpa[PyData.canLay0] using this
 |_,_,.tup hq h=>by have:=ft.lay h;simpa[PyData.canLay0] using this
theorem ft.lay {K:Θ1}:∀{xs:List V}{ds:Ξ1},ft K H xs ds->PyData.canLayAll0 ds
 |_,_,.nil=>rfl
 |_,_,.cons h t=>by have h1:=ng.lay h;let h2:=ft.lay t;simp[PyData.canLayAll0,h1,h2]
end
end
section
def Ij (K:Θ1):R2:=λx y H Q=>∃dx dy,ng K H x dx/\ng K H y dy/\min dx.depth dy.depth<=60/\Q (.bl (PyData.eqv dx dy)) H
def Ih (K:Θ1):R2:=λx y H Q=>∃dx dy,ng K H x dx/\ng K H y dy/\min dx.depth dy.depth<=60/\Q (.bl (!PyData.eqv dx dy)) H
def QH (hu:X.A.units+64<cLine):eT X (compareOp .Eq) (Ij X.K):=by
 intro ae s σ H x y v u Q I rx ry h;let⟨dx,dy,hx,hy,hd,q⟩:=h;let⟨as,ra⟩:=hx.reads I rx;let⟨bs,rb⟩:=hy.reads I ry;exact SeqAt.eqOverData X.prog X.w X.A X.xe s v u dx dy as bs _ ra rb hx.lay hy.lay ⋯ ⟨.bl (PyData.eqv dx dy),H,I,(),q⟩
def QG (hu:X.A.units+64<cLine):eT X (compareOp .NotEq) (Ih X.K):=by
 intro ae s σ H x y v u Q I rx ry h;let⟨dx,dy,hx,hy,hd,q⟩:=h;let⟨as,ra⟩:=hx.reads I rx;let⟨bs,rb⟩:=hy.reads I ry;exact SeqAt.neOverData X.prog X.w X.A X.xe s v u dx dy as bs _ ra rb hx.lay hy.lay ⋯ ⟨.bl (!PyData.eqv dx dy),H,I,(),q⟩
end
end L2
namespace PySem
def ι (NE:s.heap.IsTupleIter it l i)
  (hl:s.heap.IsTuple l items) (hx:items[i]?=↑x)
  (hQ:∀h',h'.IsTupleIter it l (i+1)->Heap.SameBut it s.heap h'->Q x { s with heap:=h' }) :
  wpAny (model prog w) A (Builtin.SmallTypes.nextOf (.ref it)) Q E s:=by
 let⟨o,ho,hc,hd⟩:=id NE;let⟨ol,Ω,_,nl,Sz⟩:=hl;let HK:s.TypeIs (.ref it) "tuple_iterator":=⟨o,ho,hc⟩;unfold Builtin.SmallTypes.nextOf;apply Za (wpAny_callSpecial?_slot (name:=Str.ofString "__next__") HK PyProof.Rows.slot_tupleiter_next
  (aoa PyProof.Rows.slot_tupleiter_next HK PyProof.Rows.entry_tupleiter_next ?_ (PyProof.Rows.args_tupleiter_next _)))
 show wpAny _ _ (field (.ref it) 0 >>= _) _ _ s;apply Za (aqa ho hd (x:=.ref l) rfl ?_);show wpAny _ _ (if (Value.ref l == Value.none)=true then _ else _) _ _ s;rw[aga (show ¬ ((Value.ref l == Value.none)=true) from Z5)];show wpAny _ _ (field (.ref it) 1 >>= _) _ _ s;apply Za (aqa ho hd (x:=.int i 0) rfl ?_);show wpAny _ _ (seqItems? (.ref l) >>= _) _ _ s;apply Za (wpAny_seqItems Ω Sz ?_);simp only[Zy,hx];apply Za (wpAny_setField ho hd (by simp) (aba ⟨x,(),aba (hQ _ ?_ (Heap.SameBut.update ..))⟩));exact⟨_,Qp _ ho (Obj.isFreed_of_fields (Obj.data_mapFields hd _)),(Obj.cls_mapFields ..).trans hc,by
  rw[Obj.data_mapFields hd];simp[rawInt]⟩
def η (hh:A.handled=none)
  (NE:s.heap.IsTupleIter it l i) (hl:s.heap.IsTuple l items) (hx:items[i]?=none)
  (hE:∀h' e,Heap.ExtBut it s.heap h'->(∃o,h'.get? e=↑o/\o.cls=.type "StopIteration")->E (.ref e) { s with heap:=h' }) :
  wpAny (model prog w) A (Builtin.SmallTypes.nextOf (.ref it)) Q E s:=by
 let⟨o,ho,hc,hd⟩:=id NE;let⟨ol,Ω,_,nl,Sz⟩:=hl;let HK:s.TypeIs (.ref it) "tuple_iterator":=⟨o,ho,hc⟩;unfold Builtin.SmallTypes.nextOf;apply Za (wpAny_callSpecial?_slot (name:=Str.ofString "__next__") HK PyProof.Rows.slot_tupleiter_next
  (aoa PyProof.Rows.slot_tupleiter_next HK PyProof.Rows.entry_tupleiter_next ?_ (PyProof.Rows.args_tupleiter_next _)))
 show wpAny _ _ (field (.ref it) 0 >>= _) _ _ s;apply Za (aqa ho hd (x:=.ref l) rfl ?_);show wpAny _ _ (if (Value.ref l == Value.none)=true then _ else _) _ _ s;rw[aga (show ¬ ((Value.ref l == Value.none)=true) from Z5)];show wpAny _ _ (field (.ref it) 1 >>= _) _ _ s;apply Za (aqa ho hd (x:=.int i 0) rfl ?_);show wpAny _ _ (seqItems? (.ref l) >>= _) _ _ s;apply Za (wpAny_seqItems Ω Sz ?_);simp only[Zy,hx];apply Za (wpAny_rule (Za (wpAny_setField ho hd (by simp) ?_)));show wpAny _ _ (newExc (.type "StopIteration") [] >>= _) _ _ _;apply Za ?_;simp only[newExc,newTuple];apply Za (aka ?_ (by size_fits));apply Za (m:=firstArgMember _ _) (wpAny_of_eq (a:=Value.none) (by first |rfl |(simp only[firstArgMember];rfl)) ?_);apply aka ?_ (by size_fits);simp only[raiseNew];apply Za (wpAny_handled ?_)
 first |rw[show A.in1.handled=none from hh] |rw[hh]
 apply Za (aba (wpAny_throw ?_));exact hE _ _ (((Heap.SameBut.update ..).extBut.push _).push _) ⟨_,Z0 _ rfl,()⟩
def Draws.tup {prog:Program}{w:World}{A:Around}(hh:A.handled=none)(it l:Addr)(bF:l≠it)(items:Array Value) :
  Draws prog w A it [it,l] items.size (λi v=>items[i]?=↑v) (λi h=>h.IsTupleIter it l i/\h.IsTuple l items) where
 live:=λ_ _ st=>let ⟨o,ho,_⟩:=st.1;⟨o,ho⟩
 frame:=λ_ _ _ st hk=>⟨let ⟨o,e,r⟩:=st.1;⟨o,hk it (by simp) o e,r⟩,let ⟨o,e,r⟩:=st.2;⟨o,hk l (by simp) o e,r⟩⟩
 item:=λi s Q E hi st hQ=>by
  apply ι st.1 st.2 (x:=items[i]) (by simp[hi]) λh' acX hs'=>?_
  let⟨o,e,r⟩:=st.2;exact hQ _ h' s.toks (by simp[hi]) ⟨acX,⟨o,hs'.extBut l o bF e,r⟩⟩ hs'
 done:=λs Q E st hE=>η hh st.1 st.2 (by simp) hE
set_option maxHeartbeats 1000000 in
def jk (l:Addr)(items:Array Value)(n:Nat)(dct:Option Addr)(sl:Array (Option Value)) :
  Meets (Builtin.«enumerate.__new__» ⟨[.type "enumerate",.ref l],[]⟩) (λ_ R s=>s.heap.get? l=some { cls:=.type "tuple",dict:=dct,data:=.seq items n,slots:=sl } /\
   R (.ok (.ret (.ref (s.heap.push { cls:=.type "tuple_iterator",data:=.fields #[.ref l,.int 0 0] }).objs.size)))
    { s with heap:=(s.heap.push { cls:=.type "tuple_iterator",data:=.fields #[.ref l,.int 0 0] }).push { cls:=.type "enumerate",data:=.fields #[.none,.bool false,.ref ⇑s,rawInt 0,.none,.none] } }) :=
 .of_wp λprog w A R s h=>by
  let⟨hp,g,d,tk,os⟩:=s;let⟨hl,h⟩:=h;let acR:=sub_enumerate;let hL:Heap.IsTuple (Shared.heap ⟨hp,g,d,tk,os⟩) l items:=⟨_,hl,(),n,()⟩
  wp_walk using AutoSeq1.wpAny_loadPart' hl
  apply wpAny_stack_any λst=>aba ?_
  split
  .rename_i c _ _ _ _ _;cases (c == Value.type "enumerate")
   .wp_walk using AutoSeq1.wpAny_loadPart' hl,wpAny_pyIter_tuple hL
    exact⟨_,(),h⟩
   .wp_walk using AutoSeq1.wpAny_loadPart' hl,wpAny_pyIter_tuple hL
    exact⟨_,(),h⟩
  .wp_walk using AutoSeq1.wpAny_loadPart' hl,wpAny_pyIter_tuple hL
   exact⟨_,(),h⟩
def kr (hL:s.heap.IsTuple l items)
  (h:∀h',IsEnum h' (⇑s+1) ⇑s 0 .none->h'.IsTupleIter ⇑s l 0->h'.objs.size=⇑s+2 ->
   (∀b o,s.heap.get? b=↑o->h'.get? b=↑o)->Q (.ref (⇑s+1)) { s with heap:=h' }) :
  wpAny (model prog w) A (call (.type "enumerate") [.ref l]) Q E s:=by
 let⟨⟨c,dct,dt,sl⟩,hl,hc,n,hd⟩:=hL
 replace hc:c=.type "tuple":=hc
 replace hd:dt=.seq items n:=hd
 subst hc hd;apply callType_new F.called_enumerate ∅ (F.typeCall_enumerate_1 _) (F.newCall_enumerate_1 _) (λobj=>F.args_object_init_2 obj _) F.entry_enumerate_new
  (jk l items n dct sl) ⟨hl,?_⟩
 let hz:(s.heap.push { cls:=.type "tuple_iterator",data:=.fields #[.ref l,.int 0 0] }).objs.size=⇑s+1:=Y7 ..;show _/\_;rw[hz];let he:IsEnum ((s.heap.push { cls:=.type "tuple_iterator",data:=.fields #[.ref l,.int 0 0] }).push
   { cls:=.type "enumerate",data:=.fields #[.none,.bool false,.ref ⇑s,rawInt 0,.none,.none] }) (⇑s+1) ⇑s 0 .none:=by
  have:=Z0 (s.heap.push { cls:=.type "tuple_iterator",data:=.fields #[.ref l,.int 0 0] })
   (o:={ cls:=.type "enumerate",data:=.fields #[.none,.bool false,.ref ⇑s,rawInt 0,.none,.none] }) rfl
  rw[hz] at this;exact this
 apply⟨⟨_,he,()⟩,h _ he ⟨_,Zn _ (Z0 _ rfl),(),()⟩ (by rw[Y7,hz]) λb o x=>Zn _ (Zn _ x)⟩
end PySem
namespace PySem
end PySem
namespace PySem
end PySem
namespace L2
open PySem.Spec PyProof.Rows
section
def DJ (K:Θ1)(a:Addr):It :=
 ⟨λi H=>∃xs x,aN K H a xs/\xs[i]?=↑x,λi H x H'=>∃p,H p=none/\x=.ref p/\∀xs,aN K H a xs->∃y,xs[i]?=↑y/\H'=aP H p (.tup [.int i,y]),λi H=>∃xs,aN K H a xs/\↥xs<=i⟩
def Inv.jo {ch:List Addr}(I:Inv X ae σ H s)(k:∀b o,b∉ch->s.heap.get? b=↑o->h'.get? b=↑o)(hf:∀b∈ch,eZ X ae H b) :
  Inv X ae σ H { s with heap:=h',toks:=t' }:=by
 let Tc:∀b u,H b=↑u->b∉ch:=λb u e z=>by rw[(hf b z).1] at e;cases e
 apply I.step (g':=s.gens) (d':=s.drawn) (ch:=ch) (λb hb=>⟨(hf b hb).2.2.2.1,(hf b hb).2.1,(hf b hb).2.2.2.2.1,(hf b hb).2.2.2.2.2⟩) (λb o _ _ hc e _=>k b o hc e) (λb o _ _ hc e _=>⟨o.slots,k b o hc e⟩) (λ_ _ _ _ n=>n)
  (λb o hc e=>⟨o,k b o hc e⟩) (λ_ _ e=>e) (λ_ _ _ e=>e) (λb ps e=>⟨#[],by rw[e];simp⟩) (λm hm=>?_) (λb u e=>?_) I.bare
 .obtain⟨o,es,ep,ho,r⟩:=hm;exact⟨o,es,ep,k _ o (λz=>(hf _ z).2.1 rfl) ho,r⟩
 .apply(I.ca b u e).ay (λc v hc q=>k c v ?_ q) (λ_ q=>q) λ_ _ q=>q
  rcases hc with z |z
  .rw[z];exact Tc b u e
  .exact Tc c _ z
def Inv.D9 (I:Inv X ae σ H s)(f:eZ X ae H p)(new:cf X.prog X.w (aP H p o) s.heap p o):Inv X ae σ (aP H p o) s:=by
 let ne:∀b u,H b=↑u->b≠p:=λb u e z=>by rw[z,f.1] at e;cases e
 have:=I.step (g':=s.gens) (d':=s.drawn) (t':=s.toks) (h':=s.heap) (H':=aP H p o) (ch:=[p]) (λb hb=>by
   obtain rfl:b=p:=by simpa using hb
   exact⟨f.2.2.2.1,f.2.1,f.2.2.2.2.1,f.2.2.2.2.2⟩) (λb o _ _ _ e _=>e) (λb o _ _ _ e _=>⟨o.slots,e⟩)
  (λb o hc _ n=>by rw[dE (λz=>hc (by simp[z]))];exact n) (λb o _ e=>⟨o,e⟩) (λb xs e=>by rw[dE (ne b _ e)];exact e) (λb o u e=>by rw[dE (ne b _ e)];exact e)
  (λb ps e=>⟨#[],by rw[dE (ne b _ e),e];simp⟩) (λm hm=>hm) (λb u e=>by
   by_cases hb:b=p
   .subst hb;rw[eC] at e;cases e;exact new
   .rw[dE hb] at e;exact(I.ca b u e).ay (λc v _ q=>q) (λc q=>by rw[dE (ne c _ q)];exact q) λc xs q=>by rw[dE (ne c _ q)];exact q) I.bare
 exact this
def BO {K:Θ1}(a e it:Addr)(NI:e≠it):Turn P w K (.Tuple uK kk pos) (DJ K a) [e,it] e (λi h=>(∃old,IsEnum h e it (i:Nat) old)/\h.IsTupleIter it a i) where
 mem:=by simp
 obj:=λi h st b hb=>by
  let⟨⟨old,he⟩,o,e1,c,d⟩:=st;rcases Zj.mp hb with rfl |hb
  .exact⟨_,he,λv z=>by cases z⟩
  .obtain rfl:b=it:=by simpa using hb
   exact⟨o,e1,λv z=>by rw[d] at z;cases z⟩
 keep:=λi h h' st k=>by
  let⟨⟨old,he⟩,o,e1,c,d⟩:=st;exact⟨⟨old,k e (by simp) _ he⟩,o,k it (by simp) _ e1,c,d⟩
 item:=by
  intro X hP hw hK hc i ae s σ H E I hf st hg;subst hP hw hK;let⟨xs,x,hq,hx⟩:=hg;let⟨its,rv,p,hz⟩:=I.tuple hq;let⟨u,hu,ru⟩:=rv.get hx;let⟨⟨old,he⟩,fU⟩:=st;let pt:s.heap.IsTuple a its.toArray:=p;let hae:e≠a:=λz=>by
   let⟨o,e1,c,_⟩:=pt;rw[<- z,he] at e1;cases e1;exact afa (show Value.type "enumerate"=Value.type "tuple" from c) ∅
  let TQ:a≠it:=λz=>by
   let⟨o,e1,c,_⟩:=pt;let⟨o',e2,c',_⟩:=id fU;rw[z,e2] at e1;cases e1;rw[c] at c';exact afa c' ∅
  let cN:i<its.toArray.size:=by simpa using(Zg.mp hu).1
  let D:=Draws.tup (prog:=X.prog) (w:=X.w) (A:=X.A.in1) (I.ok.hd hc) it a TQ its.toArray;apply wpAny_pyNext_enum_itemD D he ⟨fU,pt⟩ cN NI (by simp[NI,hae]) λy h' tk hP Hu nS ht hsz hk=>?_
  let hy:y=u:=by
   let hP:its.toArray[i]?=↑y:=hP;rw[List.getElem?_toArray,hu] at hP;exact(aaa hP).symm
  subst hy;apply⟨_,(),?_⟩;apply wpAny_letOwnedTupleGo_enum Hu λh2 he2 pN=>?_
  replace pN:Heap.SameBut e h' h2:=pN
  let bF:⇑s≠e:=Xw (Zq he);let I1:Inv X ae σ H { s with heap:=h2,toks:=tk+1 }:=I.jo (ch:=[e,it]) (λb o hb q=>by
   let b1:b≠e:=λz=>hb (by simp[z])
   let b2:b≠it:=λz=>hb (by simp[z])
   exact pN.extBut b o b1 (hk b o b1 b2 q)) hf
  let Nx:=pN.extBut _ _ bF ht;let fp:eZ X ae H ⇑s:=I.jO (Zf _) I.fresh;let I2:=I1.D9 (p:=⇑s) (o:=.tup [.int i,x]) fp ⟨by show 2<=sizeLine;decide,[.int i tk,y],.cons ⟨tk,()⟩ (.cons ru .nil),⟨_,Nx,(),_,()⟩⟩;apply⟨.ref ⇑s,_,I2,(),⟨_,I.fresh,(),λys hy=>by rw[I.jA hy hq];exact⟨x,hx,()⟩⟩,⟨⟨_,he2⟩,?_⟩,λb hb=>?_⟩
  .obtain⟨⟨o,e1,c,d⟩,_⟩:=nS;exact⟨o,pN.extBut _ _ (Ne.symm NI) e1,c,d⟩
  .rw[dE]
   .exact(hf b hb).1
   .rcases Zj.mp hb with rfl |hb
    .exact bF.symm
    .obtain rfl:b=it:=by simpa using hb
     let⟨o,e1,_⟩:=fU;exact Ye (Zq e1)
 done:=by
  intro X hP hw hK hc i ae s σ H E I hf st hg;subst hP hw hK;let⟨xs,hq,hx⟩:=hg;let⟨its,rv,p,hz⟩:=I.tuple hq;let⟨⟨old,he⟩,fU⟩:=st;let pt:s.heap.IsTuple a its.toArray:=p;let TQ:a≠it:=λz=>by
   let⟨o,e1,c,_⟩:=pt;let⟨o',e2,c',_⟩:=id fU;rw[z,e2] at e1;cases e1;rw[c] at c';exact afa c' ∅
  let hl:=↥rv;let hT:s.TypeIs (.ref e) "enumerate":=⟨_,he,()⟩;unfold pyNext;apply Za (wpAny_attempt (wpAny_callSpecial?_slot (name:=Str.ofString "__next__") hT F.slot_enumerate_next
   (aoa F.slot_enumerate_next hT F.entry_enumerate_next ?_ (F.args_enumerate_next_1 _))))
  show wpAny _ _ (field (.ref e) 2 >>= _) _ _ _;apply Za (aqa he rfl (x:=.ref it) rfl ?_);apply Za (η (A:=X.A.in1) (I.ok.hd hc) fU pt (by simp;omega) λh' ex he' wJ=>?_);let⟨o,ho,pY⟩:=wJ;apply Za (wpAny_isInstance (T:="StopIteration") (b:=true) ⟨o,ho,pY⟩ isSubtype_stop ?_);exact aba ⟨(),I.jo (t':=s.toks) (ch:=[it]) (λb o hb q=>he' b o (λz=>hb (by simp[z])) q) (λb hb=>hf b (Zi _ hb))⟩
 self:=λA i s Q E st h=>by
  let⟨⟨old,he⟩,_⟩:=st;exact wpAny_pyIter_enum he h
def WV (K:Θ1)(ta:TA):TI:=λσ H R=>ta σ H λvs H1=>∃a,vs=[.ref a]/\(∃xs,aN K H1 a xs)/\R (DJ K a) H1
end
def Cn (au:St)(acc:Addr)(P:List V->Hp->Prop)(σ:St)(H:Hp):Prop:=(∀v,σ.set 0 v=au.set 0 v)/\∃ys,H acc=↑(.lst ys)/\P ys H
def Cn.of (h:H acc=↑(.lst ys))(p:P ys H):Cn au acc P (au.set 0 w) H:=⟨λv=>by rw[List.set_set],ys,h,p⟩
def MW (outer:List (Str×NameKind))(N:Δ2)(scope:Scope)(cap:Δ2)(ix:List Nat):Bool :=
 (scope.kind == .function)&&(scope.names.all λx=>x.2 != .local||scope.names.lookup x.1 == some .local)&&decide (scope.names.map (·.1)).Nodup &&
 (scope.names.all λx=>x.2 != .free||outer.lookup x.1 == some .cell||outer.lookup x.1 == some .free)&&(cap.all λx=>decide ((x,NameKind.free)∈scope.names))&&(cap.zip ix).all (λp=>N[p.2]? == ↑p.1)&&↥cap == ↥ix
def aH.of (outer:List (Str×NameKind))(N:Δ2)(hsc:X.env.scope.names=outer:=by rfl)(hN:X.N=N:=by rfl)(h:MW outer N scope cap ix:=by decide+kernel):aH X scope own cap ix:=by
 unfold MW at h;simp only[Z4,Yd,beq_iff_eq,decide_eq_true_eq,X4,bne_iff_ne,ne_eq] at h;let⟨⟨⟨⟨⟨⟨h1,h2⟩,h3⟩,h4⟩,h5⟩,h6⟩,h7⟩:=h;apply⟨h1,λx hx hl=>?_,h3,λx hx hl=>?_,λj x e=>h5 x (Z1 e),λj x e=>?_,h7⟩
 .rcases h2 x hx with z |z
  .exact afa hl z
  .exact z
 .show X.env.scope.names.lookup x.1=_\/X.env.scope.names.lookup x.1=_;rw[hsc];rcases h4 x hx with (z |z) |z
  .exact afa hl z
  .exact .inl z
  .exact .inr z
 .let hj:j<↥cap:=(Zg.mp e).1;let mV:j<↥ix:=⋯;apply⟨ix[j],Zc mV,?_⟩;rw[hN];let hz:(cap.zip ix)[j]?=↑(x,ix[j]):=by
   rw[List.getElem?_zip_eq_some];exact⟨e,Zc mV⟩
  exact h6 _ (Z1 hz)
section
variable {K:Θ1}{lo:Int}
def yL (Pv:Nat->List V->Hp->Prop)(h0:Pv 0 [] (aP dw acc (.lst [])))
  (hs:∀(i:Nat) ys H,i<n->H acc=↑(.lst ys)->Pv i ys H->tt (au.set 0 ↑(.int (lo+i))) H λb H4 =>
   if b=true then te (au.set 0 ↑(.int (lo+i))) H4 λy H5=>∃zs,H5 acc=↑(.lst zs)/\↥zs<sizeLine/\Cn au acc (Pv (i+1)) (au.set 0 ↑(.int (lo+i))) (aP H5 acc (.lst (zs++[y]))) else Cn au acc (Pv (i+1)) (au.set 0 ↑(.int (lo+i))) H4)
  (hd:∀ys H,H acc=↑(.lst ys)->Pv n ys H->Q (.ref acc) H):hV (fu 0) tt te (Ua lo n) acc au dw Q:=by
 apply⟨λi m σ H=>m=n-i/\i<=n/\Cn au acc (Pv i) σ H,⟨n,by simp,Z9 _,λ_=>rfl,[],eC,h0⟩,?_⟩;rintro i m σ H ⟨rfl,hi,wV,ys,hy,p⟩;by_cases cN:i<n
 .apply .inr ⟨cN,Cn au acc (Pv (i+1)),λaO H' c=>⟨n-(i+1),⋯,(),cN,c⟩,λx H' y=>?_⟩;let⟨e,y⟩:=y;subst e y;show tt (σ.set 0 _) _ _;rw[wV];exact hs i ys _ cN hy p
 .let e:i=n:=⋯;subst e;exact .inl ⟨Zf _,hd ys H hy p⟩
def jg (Pv:Nat->List V->Hp->Prop)(h0:Pv 0 [] (aP dw acc (.lst [])))(hl:∀(i:Nat) ys H,i<=↥xs->H acc=↑(.lst ys)->Pv i ys H->aN K H a xs)
  (hs:∀(i:Nat) x ys H,xs[i]?=↑x->H acc=↑(.lst ys)->Pv i ys H->tt (au.set 0 ↑x) H λb H4 =>
   if b=true then te (au.set 0 ↑x) H4 λy H5=>∃zs,H5 acc=↑(.lst zs)/\↥zs<sizeLine/\Cn au acc (Pv (i+1)) (au.set 0 ↑x) (aP H5 acc (.lst (zs++[y]))) else Cn au acc (Pv (i+1)) (au.set 0 ↑x) H4)
  (hd:∀ys H,H acc=↑(.lst ys)->Pv ↥xs ys H->Q (.ref acc) H):hV (fu 0) tt te (zf K a) acc au dw Q:=by
 apply⟨λi m σ H=>m=↥xs-i/\i<=↥xs/\Cn au acc (Pv i) σ H,⟨↥xs,by simp,Z9 _,λ_=>rfl,[],eC,h0⟩,?_⟩;rintro i m σ H ⟨rfl,hi,wV,ys,hy,p⟩;let q:=hl i ys H hi hy p;by_cases cN:i<↥xs
 .apply .inr ⟨⟨xs,xs[i],q,by simp[cN]⟩,Cn au acc (Pv (i+1)),λaO H' c=>⟨↥xs-(i+1),⋯,(),cN,c⟩,λx H' y=>?_⟩;let⟨e,y⟩:=y;subst e;show tt (σ.set 0 _) _ _;rw[wV];exact hs i x ys _ (y xs q) hy p
 .let e:i=↥xs:=⋯;subst e;exact .inl ⟨⟨xs,q,Zf _⟩,hd ys H hy p⟩
def GY {g:TG}{tb:TS}{D:Ends}(Pv:Nat->St->Hp->Prop)(h0:Pv 0 σ H)(hl:∀i σ H,i<=↥xs->Pv i σ H->H a=↑(.tup xs))
  (hs:∀(i:Nat) x p σ H,xs[i]?=↑x->H p=none->Pv i σ H->g (.ref p) σ (aP H p (.tup [.int i,x])) λcT H2=>tb { D with nx:=Pv (i+1),ct:=Pv (i+1),bk:=D.nx } cT H2) (hd:∀σ H,Pv ↥xs σ H->D.nx σ H) :
  ∃W:Nat->Nat->St->Hp->Prop,(∃m,W 0 m σ H)/\∀i m σ H,W i m σ H ->
   ((DJ K a).stop i H/\D.nx σ H)\/((DJ K a).go i H/\∃N:St->Hp->Prop,(∀aO H',N aO H'->∃m',m'<m/\W (i+1) m' aO H')/\∀x H',(DJ K a).qo i H x H'->g x σ H' λcT H2=>tb { D with nx:=N,ct:=N,bk:=D.nx } cT H2):=by
 apply⟨λi m σ H=>m=↥xs-i/\i<=↥xs/\Pv i σ H,⟨↥xs,by simp,Z9 _,h0⟩,?_⟩;rintro i m σ H ⟨rfl,hi,p⟩;let q:=hl i σ H hi p;by_cases cN:i<↥xs
 .apply .inr ⟨⟨xs,xs[i],aN.of q,by simp[cN]⟩,Pv (i+1),λaO H' p'=>⟨↥xs-(i+1),⋯,(),cN,p'⟩,λx H' y=>?_⟩;let⟨pp,hp,e,Tq⟩:=y;let⟨z,hy,e2⟩:=Tq xs (aN.of q);subst e e2;exact hs i z pp σ H hy hp p
 .let e:i=↥xs:=⋯;subst e;exact .inl ⟨⟨xs,aN.of q,Zf _⟩,hd σ H p⟩
end
section
def adc (K:Θ1)(h:X.K=K:=by rfl):cg X (.builtin "len") (λxs H Q=>∃p ys,xs=[.ref p]/\(bI K H p ys\/aN K H p ys)/\Q (.int ↥ys) H):=by subst h;exact iC
end
end L2
namespace KG
open L2
def pL:bootBuiltins "tuple"=↑(.type "tuple"):=by first |rfl |kernel_rfl |decide+kernel
def boot_int:bootBuiltins "int"=↑(.type "int"):=by first |rfl |kernel_rfl |decide+kernel
def boot_abs:bootBuiltins "abs"=↑(.builtin "abs"):=by first |rfl |kernel_rfl |decide+kernel
def boot_max:bootBuiltins "max"=↑(.builtin "max"):=by first |rfl |kernel_rfl |decide+kernel
def boot_min:bootBuiltins "min"=↑(.builtin "min"):=by first |rfl |kernel_rfl |decide+kernel
def boot_any:bootBuiltins "any"=↑(.builtin "any"):=by first |rfl |kernel_rfl |decide+kernel
def boot_sum:bootBuiltins "sum"=↑(.builtin "sum"):=by first |rfl |kernel_rfl |decide+kernel
def HG:bootBuiltins "enumerate"=↑(.type "enumerate"):=by first |rfl |kernel_rfl |decide+kernel
def HH:bootBuiltins "isinstance"=↑(.builtin "isinstance"):=by first |rfl |kernel_rfl |decide+kernel
def boot_bool:bootBuiltins "bool"=↑(.type "bool"):=by first |rfl |kernel_rfl |decide+kernel
def ui (H:Hp)(b:Addr):Prop:=∃c d:Int,H b=↑(.lst [.int c,.int d])
def Kp (b:Addr)(H H':Hp):Prop:=∀a o,a≠b->H a=↑o->H' a=↑o
def Kp.refl (b:Addr)(H:Hp):Kp b H H:=λ_ _ _ h=>h
def Kp.trans (x:Kp b H H1)(y:Kp b H1 H2):Kp b H H2:=λa o n h=>y a o n (x a o n h)
def Kp.bag (x:Kp b H H'):Kp b H (aP H' b o):=λa u n h=>by rw[dE n];exact x a u n h
def Kp.new (x:Kp b H H')(hp:H' p=none):Kp b H (aP H' p o):=λa u n h=>by rw[dE (Hm (x a u n h) hp)];exact x a u n h
def ui.new (h:ui H b)(hp:H p=none):ui (aP H p o) b:=by
 let⟨c,d,e⟩:=h;exact⟨c,d,by rw[dE (Hm e hp)];exact e⟩
def ui.ne (h:ui H b)(hp:H p=none):b≠p:=by
 let⟨c,d,e⟩:=h;exact Hm e hp
def lK:Sp:=λvs H Q _=>∃(b:Addr) (m:Int),vs=[.ref b,.int m]/\ui H b/\0<m/\m<1073741824/\∀(r:Int) (H':Hp),0<=r->r<m->ui H' b->Kp b H H'->Q (.int r) H'
def Ed (K:Θ1):Sp:=λvs H Q _=>∃(a:Addr) (ns:Γ3) (k:Int),vs=[.ref a,.int k]/\bI K H a (ns.map V.int)/\0<=k/\k<100/\∀(p:Addr) (c d:Int),H p=none->Q (.ref p) (aP H p (.lst [.int c,.int d]))
structure bP (K:Θ1)(mg:Θ3)(P:Program)(w:World)(base:Heap)(x:Str)(k:Nat)(ps:Δ2)(sp:Sp)(f:Addr)(fd:FuncData):Prop where
 ok:aF P w K mg base bX k f fd ps sp
 mg:mg x=↑(.ref f)
 kp:PySem.W.keepIn K (.ref f)
 bd:Binds K fd ps []
def sz:sizeLine=16777216:=PySem.sizeLine_eq
def mD {A B:Hp->Prop}(h:A H):NZ σ H (λb H4=>if b=true then A H4 else B H4):=bE (B:=B H) h
def vW {ns:Γ3}{r:Int}(h0:0<=r)(h1:r<↥ns):gh (ns.map V.int) r=↑(V.int (ns\r.toNat))/\ur ↥(ns.map V.int) r=↑r.toNat/\(ns\r.toNat)∈ns:=by
 let hl:r.toNat<↥ns:=⋯;let e:(ns.map V.int)[r.toNat]?=↑(V.int (ns\r.toNat)):=by
  rw[Zo,Zc hl];simp[List.getD,Zc hl]
 apply⟨?_,?_,?_⟩
 .have:=nO e;rw[Xa h0] at this;exact this
 .unfold ur;rw[aha h0,aha (by rw[Zb];exact h1)]
 .simp[List.getD,Zc hl]
def Tm (H H':Hp):Prop:=∀a xs,H a=↑(.tup xs)->H' a=↑(.tup xs)
def Tm.lst {p:Addr}{H:Hp}{xs:List V}{o:HO}(h:H p=↑(.lst xs)):Tm H (aP H p o):=λa ys e=>by
 rw[dE (λz=>by rw[z,h] at e;cases e)];exact e
def ui.acc (h:ui H b)(hp:b≠p):ui (aP H p o) b:=by
 let⟨c,d,e⟩:=h;exact⟨c,d,by rw[dE hp];exact e⟩
def rR (H:Hp)(ws:List V)(M:Γ1):Prop:=Paired (λv ns=>∃a,v=V.ref a/\H a=↑(.tup (List.map V.int ns))) ws M
def rR.keep (h:rR H ws M)(t:Tm H H'):rR H' ws M:=Paired.Iq h λv ns ⟨a,e,q⟩=>⟨a,e,t a _ q⟩
def rR.len (h:rR H ws M):↥ws=↥M:=Paired.length h
theorem rR.at:∀{H:Hp}{ws:List V}{M:Γ1}{i:Nat}{x:V},rR H ws M->ws[i]?=↑x->∃ns a,M[i]?=↑ns/\x=V.ref a/\H a=↑(.tup (List.map V.int ns))
 |_,_,_,_,_,.nil,e=>by simp at e
 |_,_,_,0,_,.cons ⟨a,h1,h2⟩ _,e=>by simp at e;subst e;exact⟨_,a,(),h1,h2⟩
 |_,_,_,i+1,_,.cons _ t,e=>by
  let⟨ns,a,h1,h2,h3⟩:=rR.at (i:=i) t ‹e›;exact⟨ns,a,by simpa using h1,h2,h3⟩
def az (H H':Hp):Prop:=∀a o,H a=↑o->H' a=↑o
def az.refl (H:Hp):az H H:=λ_ _ h=>h
def az.trans (a:az H H1)(b:az H1 H2):az H H2:=λx o h=>b x o (a x o h)
def az.new (a:az H H')(hp:H' p=none):az H (aP H' p o):=λx u h=>by rw[dE (Hm (a x u h) hp)];exact a x u h
def az.acc (a:az H H')(hp:H p=none):az H (aP H' p o):=λx u h=>by rw[dE (Hm h hp)];exact a x u h
def az.tm (a:az H H'):Tm H H':=λx xs h=>a x _ h
def has (M:Γ1)(j:Nat):Bool:=M.any λr=>decide (0<r\j)
def Hi (g:Nat)(M:Γ1):List V:=((~~~g).filter (has M)).map λ(j:Nat)=>V.int (0+(j:Int))
def wz (f:Nat->Bool)(n:Nat):(~~~(n+1)).filter f=(~~~n).filter f++if f n=true then [n] else []:=by
 rw[Xb,Xp]
 grind
def az.free (s:az H0 H)(h:H p=none):H0 p=none:=by
 cases q:H0 p with
 |none=>rfl
 |some o=>rw[s p o q] at h;cases h
def zi (K:Θ1):Sp:=λvs H Q _=>∃(a:Addr) (ns:Γ3),vs=[.ref a]/\bI K H a (ns.map V.int)/\↥ns<=63/\∀H',Q (.bl true) H'
def bI.ay (h:bI K H a xs)(s:az H H'):bI K H' a xs:=by
 rcases h with (h |⟨o,h⟩) |h
 .exact .inl (.inl (s _ _ h))
 .exact .inl (.inr ⟨o,s _ _ h⟩)
 .exact .inr h
def boot_list:bootBuiltins "list"=↑(.type "list"):=by first |rfl |kernel_rfl |decide+kernel
def boot_all:bootBuiltins "all"=↑(.builtin "all"):=by first |rfl |kernel_rfl |decide+kernel
mutual
inductive fX (b:Addr) (H:Hp):V->PyData->Prop
 |cj:fX b H .cj .none
 |bl (c:Bool):fX b H (.bl c) (.bool c)
 |int (i:Int):fX b H (.int i) (.int i)
 |str (x:Str) (ok:(PyData.str x).canLay0):fX b H (.str x) (.str x)
 |lst {a:Addr}{xs:List V}{ds:Ξ1}:a≠b->H a=some (.lst xs)->ci b H xs ds->fX b H (.ref a) (.list ds)
 |tup {a:Addr}{xs:List V}{ds:Ξ1}:H a=some (.tup xs)->ci b H xs ds->fX b H (.ref a) (.tuple ds)
inductive ci (b:Addr) (H:Hp):List V->Ξ1->Prop
 |nil:ci b H [] []
 |cons {x:V}{xs:List V}{d:PyData}{ds:Ξ1}:fX b H x d->ci b H xs ds->ci b H (x::xs) (d::ds)
end
mutual
theorem fX.ay (k:az H H'):∀{v:V}{d:PyData},fX b H v d->fX b H' v d
 |_,_,.cj=>.cj
 |_,_,.bl c=>.bl c
 |_,_,.int i=>.int i
 |_,_,.str x ok=>.str x ok
 |_,_,.lst n h t=>.lst n (k _ _ h) (ci.ay k t)
 |_,_,.tup h t=>.tup (k _ _ h) (ci.ay k t)
theorem ci.ay (k:az H H'):∀{vs:List V}{ds:Ξ1},ci b H vs ds->ci b H' vs ds
 |_,_,.nil=>.nil
 |_,_,.cons h t=>.cons (fX.ay k h) (ci.ay k t)
end
mutual
theorem fX.dt:∀{v:V}{d:PyData},fX b H v d->ng K H v d
 |_,_,.cj=>.cj
 |_,_,.bl c=>.bl c
 |_,_,.int i=>.int i
 |_,_,.str x ok=>.str x ok
 |_,_,.lst n h t=>.lst (bI.of h) (ci.dt t)
 |_,_,.tup h t=>.tup (aN.of h) (ci.dt t)
theorem ci.dt {K:Θ1}{b:Addr}{H:Hp}:∀{vs:List V}{ds:Ξ1},ci b H vs ds->ft K H vs ds
 |_,_,.nil=>.nil
 |_,_,.cons h t=>.cons (fX.dt h) (ci.dt t)
end
theorem ci.len:∀{vs:List V}{ds:Ξ1},ci b H vs ds->↥vs=↥ds
 |_,_,.nil=>rfl
 |_,_,.cons _ t=>ata (· + 1) (ci.len t)
theorem ci.at:∀{vs:List V}{ds:Ξ1}{i:Nat}{x:V},ci b H vs ds->vs[i]?=↑x->∃d,ds[i]?=↑d/\fX b H x d
 |_,_,_,_,.nil,e=>by simp at e
 |_,_,0,_,.cons h _,e=>by simp at e;subst e;exact⟨_,(),h⟩
 |_,_,i+1,_,.cons _ t,e=>by
  let⟨d,h1,h2⟩:=ci.at (i:=i) t ‹e›;exact⟨d,by simpa using h1,h2⟩
def iu:PyData->Bool
 |.int _=>true
 |_=>false
def within (lo hi:Int):PyData->Bool
 |.int i=>decide (lo<=i)&&decide (i<=hi)
 |_=>false
def bJ:PyData->Bool
 |.tuple [.int t,.int u]=>decide (1<=u)&&decide (Int.gcd t u=1)
 |_=>false
def lx:PyData->Bool
 |.tuple [.int t,.int u]=>decide (1<=u)&&decide (Int.gcd t u=1)&&decide (1<=t)&&decide (t<=1000000)&&decide (u<=1000000)
 |_=>false
def fZ (n:Nat)(lo hi:Int):PyData->Bool
 |.tuple ds=>decide (↥ds=n)&&ds.all (within lo hi)
 |_=>false
def cK:PyData->Bool
 |.tuple [.tuple a,.tuple p,.tuple w]=>decide (1<=↥a)&&decide (↥a<=6)&&a.all (within 1 60)&&(decide (1<=↥p)&&decide (↥p<=6)&&p.all lx)&&(decide (↥w=↥p)&&w.all (fZ ↥a 0 100))
 |_=>false
section
def No (h:ci b H xs (d::ds)):∃x ys,xs=x::ys/\fX b H x d/\ci b H ys ds:=by cases h with |cons a t=>exact⟨_,_,rfl,a,t⟩
def oN (h:ci b H xs []):xs=[]:=by cases h;rfl
def jq {v:V}(h:fX b H v (.tuple ds)):∃a xs,v=.ref a/\H a=↑(.tup xs)/\ci b H xs ds:=by cases h with |tup h t=>exact⟨_,_,rfl,h,t⟩
def nj {v:V}{i:Int}(h:fX b H v (.int i)):v=.int i:=by cases h;rfl
def j9 (h:ci b H xs ds)(hl:0<↥xs):∃x ys d es,xs=x::ys/\ds=d::es/\fX b H x d/\ci b H ys es:=by
 cases h with
 |nil=>exact afa hl ∅
 |cons a t=>exact⟨_,_,_,_,(),(),a,t⟩
def vc (h:ci b H xs ds)(hl:↥xs=2):∃x y dx dy,xs=[x,y]/\ds=[dx,dy]/\fX b H x dx/\fX b H y dy:=by
 let⟨x,ys,d,es,rfl,rfl,a,h⟩:=j9 h ⋯;rw[Y1] at hl;let⟨y,zs,e,fs,rfl,rfl,c,h⟩:=j9 h ⋯;rw[Y1] at hl;cases h with
 |nil=>exact⟨_,_,_,_,(),(),a,c⟩
 |cons _ _=>rw[Y1] at hl;omega
end
end KG
namespace HT
open PySem.Spec PyProof.Rows
section
def lu {t sl:Addr}{items:Array Value}{vl vu:Value}{lo hi:Option Int}{Q:Θ2}(ht:IsTup s.heap t items)(hs:s.heap.IsSliceOf sl vl vu .none)(pl:IsPart vl lo)(pu:IsPart vu hi)
  (hw:cR items.size 0 lo=0/\cR items.size items.size hi=items.size) (h:Q (.ref t) s):wpAny (model prog w) A (getItem (.ref t) (.ref sl)) Q E s:=by
 let⟨os,NA,YG,TJ⟩:=id hs;let hTs:s.TypeIs (.ref sl) "slice":=⟨os,NA,YG⟩;unfold getItem
 try with_reducible refine apa ?_
 first |refine Za (aba ?_) |skip
 apply Za (wpAny_sequenceKey ht.typeIs ∅ ?_);apply Za (wpAny_callSpecial?_slot (name:=Str.ofString "__getitem__") ht.typeIs PyProof.Rows.slot_tuple_getitem
  (aoa PyProof.Rows.slot_tuple_getitem ht.typeIs entry_tuple_getitem ?_ (args_tuple_getitem _ _)))
 show wpAny _ _ (Builtin.Tuple.tupleItemsOf (.ref t) >>= _) _ _ s;apply Za (tupleItemsOf_ ht ?_);apply Za (wpAny_typeOf hTs ?_);rw[aha ∅];apply Za (gQ hs pl pu ?_);let acQ:((((cR items.size 0 lo:Nat):Int) == 0&&(1:Int) == 1&&(cR items.size items.size hi-cR items.size 0 lo) == items.size)=true):=by
  rw[hw.1,hw.2];simp
 show wpAny _ _ (if (((cR items.size 0 lo:Nat):Int) == 0&&(1:Int) == 1&&(cR items.size items.size hi-cR items.size 0 lo) == items.size)=true then _ else _) _ _ s;rw[aha acQ];let htt:s.TypeIs (.ref t) "tuple":=ht.typeIs;apply Za (m:=Builtin.Tuple.tupleIsExact (.ref t)) (Za (wpAny_typeOf htt (aba ?_)));rw[aha ∅]
 first
  |exact aba ⟨_,(),aba h⟩
  |exact Za (aba (aba ⟨_,(),aba h⟩))
  |(wp_walk;exact⟨_,(),aba h⟩)
  |(wp_walk;exact⟨_,(),h⟩)
end
end HT
namespace L2
open PySem.Spec PyProof.Rows
section
def acw:V->Option Int->Option Int->Hp->VK->Prop:=λx lo hi H Q=>∃a xs,x=.ref a/\H a=↑(.tup xs)/\∀p H',KG.az H H'->H' p=↑(.tup (n8 xs lo hi))->Q (.ref p) H'
def Jp:HS X acw:=by
 intro ae s σ H x v vl vu lo hi sl Q I rx hs pl pu h;let⟨a,xs,rfl,hx,q⟩:=h;by_cases hw:HT.cR ↥xs 0 lo=0/\HT.cR ↥xs ↥xs hi=↥xs
 .cases rx
  let⟨its,r,ht,hz⟩:=I.tuple (aN.of hx);let cA:its.toArray.size=↥xs:=by rw[Z2];exact r.length.symm
  apply⟨"tuple",_,PyProof.Rows.slot_tuple_getitem.lookup,ht.typeIs,?_⟩;apply HT.lu ht hs pl pu (by rw[cA];exact hw) ⟨.ref a,H,I,(),q a H (KG.az.refl H) ?_⟩;let e:n8 xs lo hi=xs:=by unfold n8;rw[hw.1,hw.2,List.drop_zero,Nat.sub_zero,Yo]
  rw[e];exact hx
 .exact Px ae s σ H _ v vl vu lo hi sl Q I rx hs pl pu ⟨a,xs,(),aN.of hx,hw,λp hp=>q p _ ((KG.az.refl H).new hp) eC⟩
def L6:R2:=λx y H Q=>∃a b xs ys,x=.ref a/\y=.ref b/\H a=↑(.tup xs)/\H b=↑(.tup ys)/\↥xs+↥ys<=sizeLine/\∀p H',KG.az H H'->H' p=↑(.tup (xs++ys))->Q (.ref p) H'
def JZ:eT X (binaryOp .Add) L6:=by
 intro ae s σ H x y v u Q I rx ry h;let⟨a,b,xs,ys,rfl,rfl,ha,hb,hz,q⟩:=h;by_cases hx:xs=[]
 .cases rx
  cases ry
  let⟨its,r1,p1,_⟩:=I.tuple (aN.of ha);let⟨DV,r2,p2,_⟩:=I.tuple (aN.of hb);let⟨⟨cls,dd,data,sl⟩,ho,hc,n,hd⟩:=id p1;let⟨⟨ac8,YU,data2,bC⟩,NB,Hw,n2,HN⟩:=id p2;simp only at hc hd Hw HN;subst hc hd Hw HN;let e0:its=[]:=r1.nD.mpr hx;exact concat_meets ⟨_,ho,()⟩ ⟨_,NB,()⟩ noFill_tuple_add seq_tuple_add PySem.F.slot_tuple_add PySem.F.entry_tuple_add (PySem.F.args_tuple_add_2 _ _)
   (tuple_addW0 a b its.toArray DV.toArray n n2 dd YU sl bC (by simp[e0])) ⟨ho,NB,⟨.ref b,H,I,(),q b H (KG.az.refl H) (by rw[hx];exact hb)⟩⟩
 .apply JY ae s σ H _ _ v u Q I rx ry ⟨a,b,xs,ys,(),(),aN.of ha,aN.of hb,hx,hz,λe=>q a H (KG.az.refl H) (by rw[e,Yn];exact ha),λ_ p hp=>q p _ ((KG.az.refl H).new hp) eC⟩
end
end L2
namespace L2
open PySem.Spec PyProof.Rows KG
end L2
namespace EX
open PySem.Spec PyProof.Rows
section
end
end EX
namespace L2
open PySem.Spec PyProof.Rows EX
section
variable {K:Θ1}
end
end L2
namespace EX
open PySem.Spec PyProof.Rows
section
end
end EX
namespace L2
open PySem.Spec PyProof.Rows EX
section
end
section
end
end L2
namespace EX
open PySem.Spec PyProof.Rows PySem.W
section
variable {K:Frag}
end
end EX
namespace L2
open PySem.Spec PyProof.Rows EX
section
end
end L2
namespace EX
open PySem.Spec PyProof.Rows PySem.W
section
variable {K:Frag}
end
end EX
namespace L2
open PySem.Spec PyProof.Rows EX
section
variable {K:Θ1}
end
section
end
end L2
namespace KG
def Bd (k:Nat)(n:Int):Prop:=n.natAbs<2 ^ k
def Bd.mono (h:Bd j n)(hj:j<=k):Bd k n:=Yk h (Xc ∅ hj)
def Bd.mul (h:Bd j a)(h':Bd k b):Bd (j+k) (a*b):=by
 unfold Bd at *;rw[Xh,Nat.pow_add];exact Nat.mul_lt_mul'' h h'
def Bd.le (h:Bd k b)(hl:a.natAbs<=b.natAbs):Bd k a:=Nat.lt_of_le_of_lt hl h
def sg (t u:Int):Int:=if u<0 then -(Int.gcd t u:Int) else (Int.gcd t u:Int)
def nx (t u:Int):Int:=t.fdiv (sg t u)
def ny (t u:Int):Int:=u.fdiv (sg t u)
def kL (h:u≠0):nx t u*u=t*ny t u/\0<ny t u/\Int.gcd (nx t u) (ny t u)=1/\sg t u≠0/\(nx t u).natAbs<=t.natAbs/\(ny t u).natAbs<=u.natAbs:=by
 let g0:0<Int.gcd t u:=Qz t h;obtain⟨a,ha⟩:(Int.gcd t u:Int)∣t:=Int.gcd_dvd_left ..;obtain⟨b,hb⟩:(Int.gcd t u:Int)∣u:=Q4 ..;generalize hg:Int.gcd t u=g at *;let hc:Int.gcd a b=1:=by
  let e:Int.gcd t u=Int.gcd ((g:Int)*a) ((g:Int)*b):=by rw[<- ha,<- hb]
  rw[hg,Int.gcd_mul_left] at e;simp at e;let e2:g*1=g*Int.gcd a b:=by rw[Nat.mul_one];exact e
  exact(Nat.eq_of_mul_eq_mul_left g0 e2).symm
 let gp:(0:Int)<g:=⋯;let la:a.natAbs<=t.natAbs:=by
  rw[ha,Xh];simp;exact Nat.le_mul_of_pos_left _ g0
 let lb:b.natAbs<=u.natAbs:=by
  rw[hb,Xh];simp;exact Nat.le_mul_of_pos_left _ g0
 unfold nx ny sg;rw[hg];by_cases hu:u<0
 .rw[aha hu];let dn:(-(g:Int))≠0:=⋯;let e1:t.fdiv (-(g:Int))=-a:=by
   have:t=(-(g:Int))*(-a):=by rw[Int.neg_mul_neg];exact ha
   rw[this,Q5 _ dn]
  let e2:u.fdiv (-(g:Int))=-b:=by
   have:u=(-(g:Int))*(-b):=by rw[Int.neg_mul_neg];exact hb
   rw[this,Q5 _ dn]
  rw[e1,e2];apply⟨?_,?_,by rw[Int.neg_gcd,Int.gcd_neg];exact hc,dn,by rw[Int.natAbs_neg];exact la,by rw[Int.natAbs_neg];exact lb⟩
  .let q:a*u=t*b:=by rw[hb,ha];rw[Int.mul_left_comm,Int.mul_assoc]
   rw[Int.neg_mul,q,Int.mul_neg]
  .rcases Int.lt_or_le b 0 with z |z
   .omega
   .have:0<=(g:Int)*b:=Int.mul_nonneg ⋯ z;omega
 .rw[aga hu];let dn:(g:Int)≠0:=⋯;let e1:t.fdiv (g:Int)=a:=by rw[ha,Q5 _ dn]
  let e2:u.fdiv (g:Int)=b:=by rw[hb,Q5 _ dn]
  rw[e1,e2];apply⟨?_,?_,hc,dn,la,lb⟩
  .rw[hb,ha,Int.mul_left_comm,Int.mul_assoc]
  .rcases Int.lt_or_le 0 b with z |z
   .exact z
   .have:(g:Int)*b<=0:=Int.mul_nonpos_of_nonneg_of_nonpos ⋯ z;omega
def A0 {a c:Int}(h:c≠0):(a.fmod c).natAbs<c.natAbs:=by
 rcases Int.lt_or_gt_of_ne h with z |z
 .let e:(-a).fmod (-c)=-(a.fmod c):=Int.neg_fmod_neg a c;let h1:=Int.fmod_nonneg_of_pos (-a) (show 0 < -c by omega);let h2:=Int.fmod_lt_of_pos (-a) (show 0 < -c by omega);omega
 .let h1:=Int.fmod_nonneg_of_pos a z;let h2:=Int.fmod_lt_of_pos a z;omega
def vM:Int.gcd c (a.fmod c)=Int.gcd a c:=by
 rw[Int.gcd_comm a c,Int.fmod_def,Int.gcd_sub_mul_left_right]
end KG
namespace L2
open PySem.Spec PyProof.Rows KG
section
structure NS (X:Cx):Prop where
 tree:X.prog.given.tree=none
 st:∃env l,X.stack=env::l/\env.scope.isGenerator=false/\env.scope.isCoroutine=false/\env.builtins=builtinsNs/\env.globals=mainGlobals
def lL {CX:DK}{P:Program}{w:World}{K:Θ1}{mg:Θ3}{base:Heap}{N ps:Δ2}{qual:Str}{sc:Scope}{f:Addr}{cd:Value}{A:Around}{outer:List Env}{s:Shared}{H:Hp}{E:XK}(tr:P.given.tree=none)(S:ak N ps sc):NS (uL CX P w K mg base N qual sc f cd A outer s H E).Sd:=⟨tr,_,_,(),S.gen,S.co,(),()⟩
def gN {k:Nat}(hr:c6 k X.A)(hp:NS X):eT X (binaryOp .FloorDiv) (rI (λ_ j=>j≠0/\Bd 66000000 j) λi j=>.int (i.fdiv j)):=by
 intro ae s σ H x y v u Q I rx ry h;let⟨i,j,rfl,rfl,hc,q⟩:=h;let⟨t,rfl⟩:=rx;let⟨t',rfl⟩:=ry;let⟨env,l,e1,e2,e3,e4,e5⟩:=hp.st;apply floordiv_int hc.1 ⟨.int (i.fdiv j),H,I.tok _,⟨_,()⟩,q⟩ (.inr (PylongRoom.of I.nolimit ?_ (SeerAt.of I.xC hp.tree (by rw[<- e1];exact I.ok.frames) e2 e3 e4 e5)));have:=hr.dp;show X.A.depth+100<_;omega
def Gm {k:Nat}(hr:c6 k X.A)(hp:NS X):eT X (binaryOp .FloorDiv) (rI (λ_ j=>0<j/\Bd 66000000 j) λi j=>.int (i / j)):=λae s σ H x y v u Q I rx ry ⟨i,j,ei,ej,hc,q⟩=>gN hr hp ae s σ H x y v u Q I rx ry ⟨i,j,ei,ej,⟨X5 hc.1,hc.2⟩,by show Q (.int (i.fdiv j)) H;rw[Qx i (Int.le_of_lt hc.1)];exact q⟩
def yW:eT X (binaryOp .Mult) (rI (λi j=>Bd 66000000 i/\Bd 66000000 j) λi j=>.int (i*j)):=Sc λi j _ _ _ _ _ hc q=>mul_int q (by
 let h1:=intBits_le hc.1;let h2:=intBits_le hc.2;unfold IntMulOk;intro z;simp only[Z4] at z;let z2:=z.2;unfold Builtin.Int.intTooBig at z2;let z3:=aia z2;let e2:(132000000:Int)<=(bitsLine:Int):=by decide+kernel
 omega)
end
end L2
namespace KG
open L2
end KG
namespace L2
open PySem.Spec PyProof.Rows
def Vo (K:Θ1)(n:Nat)(t:NR):TG:=λv σ H Q=>∃a xs,v=.ref a/\bI K H a xs/\↥xs=n/\t xs σ H Q
def QA (hc:X.calm)(h:wM X es t)
  (hn:↥(assignEach es X.env)=n:=by rfl) (nS:(assignEach es X.env).findIdx? (·.1)=none:=by rfl):PG X (.Tuple es k pos) (Vo X.K n t):=by
 intro ae s σ H v u Q I r hw;let⟨a,xs,e1,hq,hl,hw⟩:=hw;subst e1;cases r;let⟨its,rv,ht,hz⟩:=I.list hq;rw[assign_Tuple];apply Za (wpAny_standAt ?_);unfold unpack;rw[hn,nS];let hsz:n=its.toArray.size:=by rw[Z2,<- ↥rv,hl]
 rw[hsz];apply Za (apa (PySem.W.kun_itemsOf (I.ok.hd hc) ht.isList λh' hx=>?_));let I1:Inv X ae σ H { s with heap:=h' }:=I.kept (t':=s.toks) λb o e=>hx b o (Ye (Zq e)) e
 exact h ae _ σ H xs _ Q I1 ‹rv› hw
def rY (K:Θ1)(he:PE X e te)(hg:Gl X "isinstance")(hm:X.mg "isinstance"=none)(hgT:Gl X T)(hmT:X.mg T=none)(hv:bootBuiltins T=↑(.type n))
  (hb:bootBuiltins "isinstance"=↑(.builtin "isinstance")) (h:X.K=K:=by rfl) (hnT:T ≠ "__name__":=by decide) (hdT:(T == ("__debug__" : Str))=false:=by decide)
  (hs:starEach [e,.Name T p2] X.env=[(false,eval e X.env),(false,eval (.Name T p2) X.env)]:=by rfl)
  (mU:(backTo pos (starEach [.Name T p2] X.env)).any (·.1)=false:=by rfl):PE X (.Call (.Name "isinstance" p) [e,.Name T p2] [] pos) (Ul K (.type n) te):=by
 subst h;exact JX he hg hm hgT hmT hv hb hnT hdT hs mU
end L2
namespace KM
open L2 KG EX
def ν:PyData->Bool
 |.int _=>true
 |.bool _=>true
 |_=>false
def isB:PyData->Bool
 |.bool _=>true
 |_=>false
def Lx:PyData->Bool
 |.tuple _=>true
 |_=>false
structure Dm (K:Θ1):Prop where
 i1:PySem.W.kitOne K (.type "NoneType") (.type "int")=↑false
 i2:PySem.W.kitOne K (.type "bool") (.type "int")=↑true
 i3:PySem.W.kitOne K (.type "int") (.type "int")=↑true
 i4:PySem.W.kitOne K (.type "str") (.type "int")=↑false
 i5:PySem.W.kitOne K (.type "list") (.type "int")=↑false
 i6:PySem.W.kitOne K (.type "tuple") (.type "int")=↑false
 b1:PySem.W.kitOne K (.type "NoneType") (.type "bool")=↑false
 b2:PySem.W.kitOne K (.type "bool") (.type "bool")=↑true
 b3:PySem.W.kitOne K (.type "int") (.type "bool")=↑false
 b4:PySem.W.kitOne K (.type "str") (.type "bool")=↑false
 b5:PySem.W.kitOne K (.type "list") (.type "bool")=↑false
 b6:PySem.W.kitOne K (.type "tuple") (.type "bool")=↑false
 t1:PySem.W.kitOne K (.type "NoneType") (.type "tuple")=↑false
 t2:PySem.W.kitOne K (.type "bool") (.type "tuple")=↑false
 t3:PySem.W.kitOne K (.type "int") (.type "tuple")=↑false
 t4:PySem.W.kitOne K (.type "str") (.type "tuple")=↑false
 t5:PySem.W.kitOne K (.type "list") (.type "tuple")=↑false
 t6:PySem.W.kitOne K (.type "tuple") (.type "tuple")=↑true
def isi (Z:Dm K)(h:fX b H v d):∃t,jP K H v t/\PySem.W.kitOne K t (.type "int")=↑(ν d):=by
 cases h with
 |cj=>exact⟨_,.cj,Z.i1⟩
 |bl c=>exact⟨_,.bl _,Z.i2⟩
 |int c=>exact⟨_,.int _,Z.i3⟩
 |str x ok=>exact⟨_,.str _,Z.i4⟩
 |lst n e t=>exact⟨_,.lst e,Z.i5⟩
 |tup e t=>exact⟨_,.tup e,Z.i6⟩
def isb (Z:Dm K)(h:fX b H v d):∃t,jP K H v t/\PySem.W.kitOne K t (.type "bool")=↑(isB d):=by
 cases h with
 |cj=>exact⟨_,.cj,Z.b1⟩
 |bl c=>exact⟨_,.bl _,Z.b2⟩
 |int c=>exact⟨_,.int _,Z.b3⟩
 |str x ok=>exact⟨_,.str _,Z.b4⟩
 |lst n e t=>exact⟨_,.lst e,Z.b5⟩
 |tup e t=>exact⟨_,.tup e,Z.b6⟩
def Nt (Z:Dm K)(h:fX b H v d):∃t,jP K H v t/\PySem.W.kitOne K t (.type "tuple")=↑(Lx d):=by
 cases h with
 |cj=>exact⟨_,.cj,Z.t1⟩
 |bl c=>exact⟨_,.bl _,Z.t2⟩
 |int c=>exact⟨_,.int _,Z.t3⟩
 |str x ok=>exact⟨_,.str _,Z.t4⟩
 |lst n e t=>exact⟨_,.lst e,Z.t5⟩
 |tup e t=>exact⟨_,.tup e,Z.t6⟩
def ik (h:fX b H v d):Lx d=false\/∃a xs ds,v=.ref a/\d=.tuple ds/\H a=↑(.tup xs)/\ci b H xs ds:=by
 cases h with
 |cj=>exact .inl rfl
 |bl c=>exact .inl rfl
 |int c=>exact .inl rfl
 |str x ok=>exact .inl rfl
 |lst n e t=>exact .inl rfl
 |tup e t=>exact .inr ⟨_,_,_,(),(),e,t⟩
def kP (h:fX b H v d):iu d=false\/∃i,v=.int i/\d=.int i:=by
 cases h with
 |cj=>exact .inl rfl
 |bl c=>exact .inl rfl
 |int c=>exact .inr ⟨_,(),()⟩
 |str x ok=>exact .inl rfl
 |lst n e t=>exact .inl rfl
 |tup e t=>exact .inl rfl
def yA (d:PyData):iu d=(ν d&&!isB d):=by cases d<;>rfl
def lU (h:iu d=false):within lo hi d=false:=by cases d<;>first |rfl |cases h
def Cy (h:Lx d=false):bJ d=false:=by cases d<;>first |rfl |cases h
def GL (h:Lx d=false):fZ n lo hi d=false:=by cases d<;>first |rfl |cases h
def KP (h:Lx d=false):cK d=false:=by cases d<;>first |rfl |cases h
def spT (m:PyData->Bool):Sp:=λvs H Q _=>∃(b:Addr) (v:V) (d:PyData),vs=[v]/\fX b H v d/\∀H',az H H'->Q (.bl (m d)) H'
def LP:Sp:=λvs H Q _=>∃(t u:Int),vs=[.int t,.int u]/\0<=u/\Q (.int (Int.gcd t u)) H
def GW:Int.gcd c (a % c)=Int.gcd a c:=by
 rw[Int.gcd_comm a c,Int.emod_def,Int.gcd_sub_mul_left_right]
def La:(if a<0 then -a else a)=(Int.gcd a 0:Int):=by
 rw[Int.gcd_zero_right];omega
def iy (m:PyData->Bool)(hT:ci b H1 xs ds)(ha:H1 a=↑(.tup xs))(bV:H1 acc=none)(hl:↥xs<=1000)
  (ht:∀(x:V) (d:PyData) (H':Hp),az H1 H'->fX b H' x d->d∈ds->∀Z:V->Hp->Prop,(∀H5,az H' H5->Z (.bl (m d)) H5)->te (au.set 0 ↑x) H' Z)
  (hd:∀H',az H1 H'->H' acc=↑(.lst (ds.map λd=>.bl (m d)))->Q (.ref acc) H'):hV (fu 0) NZ te (zf K a) acc au H1 Q:=by
 let cA:=hT.len;apply jg (xs:=xs) (λi ys H'=>az H1 H'/\ys=(ds.take i).map λd=>.bl (m d)) ⟨(az.refl H1).acc bV,()⟩ (λi ys H' _ _ q=>aN.of (q.1 _ _ ha)) ?_ ?_
 .rintro i x ys H' hx hy ⟨st,rfl⟩;let⟨d,hdi,hT1⟩:=hT.at hx;let hi:i<↥xs:=(Zg.mp hx).1;apply mD ?_;apply ht x d H' st (hT1.ay st) (Z1 hdi) _ λH5 pT=>?_
  apply⟨_,pT _ _ hy,?_,Cn.of eC ⟨(st.trans pT).acc bV,?_⟩⟩
  .rw[Zb,Yw,sz];omega
  .rw[List.take_add_one,hdi,Zs];rfl
 grind
def jH {ds:Ξ1}:(ds.map λd=>V.bl (m d)).all tv=ds.all m:=by
 rw[Y2];rfl
def gd {ds:Ξ1}{m:PyData->Bool}:(ds.map λd=>V.bl (m d)).all fz=true:=by
 rw[Y2];simp[Function.comp_def,fz]
def LO (lo hi:Int):Sp:=λvs H Q _=>∃(b:Addr) (v:V) (d:PyData) (n:Nat),vs=[v,.int n]/\n<=6/\fX b H v d/\∀H',az H H'->Q (.bl (fZ n lo hi d)) H'
def uH (m n:Nat):PyData->Bool
 |.tuple ds=>decide (↥ds=m)&&ds.all (fZ n 0 100)
 |_=>false
def iL (m:PyData->Bool):PyData->Bool
 |.tuple ds=>decide (1<=↥ds)&&decide (↥ds<=6)&&ds.all m
 |_=>false
def KL (h:Lx d=false):uH m n d=false:=by cases d<;>first |rfl |cases h
def AT (h:Lx d=false):iL m d=false:=by cases d<;>first |rfl |cases h
def Uq:Sp:=λvs H Q _=>∃(b:Addr) (v:V) (d:PyData) (m n:Nat),vs=[v,.int m,.int n]/\m<=6/\n<=6/\fX b H v d/\∀H',az H H'->Q (.bl (uH m n d)) H'
def yC (h:↥ds≠2):bJ (.tuple ds)=false:=by
 unfold bJ;split
 .next NH=>injection NH with NH;subst NH;exact afa rfl h
 .rfl
def kH {a b:Nat}(h:a≠b):(!decide (V.int (a:Int)=V.int (b:Int)))=true:=by
 grind
def sV (a:Int):(!decide (V.int a=V.int a))=false:=by simp
def l9 (h:bJ d):∃t u:Int,d=.tuple [.int t,.int u]/\1<=u/\Int.gcd t u=1:=by
 unfold bJ at h;split at h
 .next t u=>simp at h;exact⟨t,u,(),h.1,h.2⟩
 .cases h
def ya (h:bJ d=false):lx d=false:=by
 unfold lx;split
 .next t u =>
  let h':(decide (1<=u)&&decide (Int.gcd t u=1))=false:=h;rw[h'];rfl
 .rfl
def GO (h:↥ds≠3):cK (.tuple ds)=false:=by
 unfold cK;split
 .next NH=>injection NH with NH;subst NH;exact afa rfl h
 .rfl
def yB:cK (.tuple [x,y,z])=(iL (within 1 60) x&&iL lx y&&match y,x with |.tuple p,.tuple a=>uH ↥p ↥a z |_,_=>false):=by
 cases x<;>first
  |(cases y<;>first
    |(cases z<;>first |rfl |(simp[cK,iL,uH]))
    |(simp[cK,iL,uH]))
  |(simp[cK,iL,uH])
def pE (h:iL m d):∃ds,d=.tuple ds/\1<=↥ds/\↥ds<=6/\ds.all m:=by
 unfold iL at h;split at h
 .next ds=>simp only[Z4,decide_eq_true_eq] at h;exact⟨ds,(),h.1.1,h.1.2,h.2⟩
 .cases h
def EJ:Sp:=λvs H Q _=>∃(t u:Int),vs=[.int t,.int u]/\0<u/\u<1073741824/\∀(p:Addr),H p=none->Q (.ref p) (aP H p (.tup [.int (t / (Int.gcd t u:Int)),.int (u / (Int.gcd t u:Int))]))
def AY (h:0<u):0<(Int.gcd t u:Int)/\(Int.gcd t u:Int)<=u:=by
 let h1:0<Int.gcd t u:=Qz t ⋯;let h2:(Int.gcd t u:Int)∣u:=Q4 ..;exact⟨⋯,Int.le_of_dvd h h2⟩
def N2:Sp:=λvs H Q _=>∃(b:Addr),vs=[.ref b]/\ui H b/\∀(v:V) (d:PyData) (H':Hp),ui H' b->Kp b H H'->fX b H' v d->lx d->Q v H'
def qW (h1:1<=t)(h2:t<=1000000):lx (.tuple [.int t,.int 1]):=by
 show(decide ((1:Int)<=1)&&decide (Int.gcd t 1=1)&&decide (1<=t)&&decide (t<=1000000)&&decide ((1:Int)<=1000000))=true
 simp_all
def qX (h1:1<=t)(h2:t<=1000000)(h3:1<=u)(h4:u<=1000000):lx (.tuple [.int (t / (Int.gcd t u:Int)),.int (u / (Int.gcd t u:Int))]):=by
 let⟨g0,g1⟩:=AY (t:=t) (u:=u) ⋯;let gt:(Int.gcd t u:Int)∣t:=Int.gcd_dvd_left ..;let gu:(Int.gcd t u:Int)∣u:=Q4 ..;let e:Int.gcd (t / (Int.gcd t u:Int)) (u / (Int.gcd t u:Int))=1:=Int.gcd_ediv_gcd_ediv_gcd ⋯;let lo:∀n:Int,1<=n->n<=1000000->(Int.gcd t u:Int)∣n->1<=n / (Int.gcd t u:Int)/\n / (Int.gcd t u:Int)<=1000000:=λn n1 n2 hd=>by
  let a1:n / (Int.gcd t u:Int)*(Int.gcd t u:Int)=n:=Int.ediv_mul_cancel hd;let a2:n / (Int.gcd t u:Int)<=n:=Int.ediv_le_self _ ⋯;let a3:0<=n / (Int.gcd t u:Int):=Int.ediv_nonneg ⋯ ⋯
  grind
 let⟨t1,t2⟩:=lo t h1 h2 gt;let⟨u1,u2⟩:=lo u h3 h4 gu;show(decide _&&decide (Int.gcd _ _=1)&&decide _&&decide _&&decide _)=true
 grind
def HX:fX b (aP H p (.tup [.int x,.int y])) (.ref p) (.tuple [.int x,.int y]):=.tup eC (.cons (.int x) (.cons (.int y) .nil))
def yb (h:lx d):∃t u:Int,d=.tuple [.int t,.int u]:=by
 unfold lx at h;split at h
 .exact⟨_,_,()⟩
 .cases h
def KO {a p w:Ξ1}(h1:1<=↥a)(h2:↥a<=6)(h3:a.all (within 1 60))(h4:1<=↥p)(h5:↥p<=6)(h6:p.all lx)(h7:↥w=↥p)(h8:w.all (fZ ↥a 0 100)):cK (.tuple [.tuple a,.tuple p,.tuple w]):=by
 show(decide _&&decide _&&_&&(decide _&&decide _&&_)&&(decide _&&_))=true;rw[aea h1,aea h2,h3,aea h4,aea h5,h6,aea h7,h8];rfl
def jd (h:cK (.tuple [.tuple a,.tuple p,.tuple w])):1<=↥a/\↥a<=6/\a.all (within 1 60)/\1<=↥p/\↥p<=6/\p.all lx/\↥w=↥p/\w.all (fZ ↥a 0 100):=by
 let h':(decide (1<=↥a)&&decide (↥a<=6)&&a.all (within 1 60)&&(decide (1<=↥p)&&decide (↥p<=6)&&p.all lx)&&(decide (↥w=↥p)&&w.all (fZ ↥a 0 100)))=true:=h;simp only[Z4,decide_eq_true_eq] at h';let⟨⟨⟨⟨h1,h2⟩,h3⟩,⟨h4,h5⟩,h6⟩,h7,h8⟩:=h';exact⟨h1,h2,h3,h4,h5,h6,h7,h8⟩
def ui.ay (h:ui H b)(s:az H H'):ui H' b:=by let⟨c,d,e⟩:=h;exact⟨c,d,s _ _ e⟩
def FI (h:fZ n lo hi d):∃rs,d=.tuple rs/\↥rs=n/\rs.all (within lo hi):=by
 unfold fZ at h
 grind
theorem Fj:∀{xs:List V}{ds:Ξ1},ci b H xs ds->ds.all (within 0 100)->∃ns:Γ3,xs=ns.map V.int/\∀n∈ns,0<=n/\n<=100
 |_,_,.nil,_=>⟨[],(),λn h=>nomatch h⟩
 |_,_,.cons (x:=x) (d:=d) h t,e=>by
  rw[X2,Z4] at e;let⟨ns,rfl,h2⟩:=Fj t e.2;rcases kP h with hn |⟨i,rfl,rfl⟩
  .rw[lU hn] at e;cases e.1
  .let h1:(decide (0<=i)&&decide (i<=100))=true:=e.1;simp only[Z4,decide_eq_true_eq] at h1;apply⟨i::ns,(),λn hn=>?_⟩;rcases Zj.mp hn with rfl |hn
   .exact h1
   .exact h2 n hn
structure Nm (mg:Θ3):Prop where
 len:mg "len"=none
 range:mg "range"=none
 tuple:mg "tuple"=none
 list:mg "list"=none
 all:mg "all"=none
 any:mg "any"=none
 max:mg "max"=none
 min:mg "min"=none
 sum:mg "sum"=none
 abs:mg "abs"=none
 int:mg "int"=none
 isinstance:mg "isinstance"=none
 bool:mg "bool"=none
 enumerate:mg "enumerate"=none
 R3:mg "ValueError"=none
def br:PyData->Int
 |.int i=>i
 |_=>0
def uQ:PyData->Γ3
 |.tuple rs=>rs.map br
 |_=>[]
def rowsOf (wi:Ξ1):Γ1:=wi.map uQ
theorem Al:∀{xw:List V}{wi:Ξ1},ci b H xw wi->wi.all (fZ n 0 100)->rR H xw (rowsOf wi)/\∀r∈rowsOf wi,↥r=n/\∀k∈r,0<=k/\k<=100
 |_,_,.nil,_=>⟨.nil,λr h=>nomatch h⟩
 |_,_,.cons (d:=d) h t,e=>by
  rw[X2,Z4] at e;let⟨h1,h2⟩:=Al t e.2;let⟨rs,rfl,hl,hr⟩:=FI e.1;cases h with
  |@tup a xs _ ha hs =>
  let⟨ns,rfl,hn⟩:=Fj hs hr;let er:rs=ns.map PyData.int:=by
   clear ha hn hr hl e
   induction ns generalizing rs with
   |nil=>cases hs;rfl
   |cons m ns ih =>
    cases hs with
    |cons hx ht=>cases hx;rw[ih _ ht];rfl
  subst er;let eo:uQ (.tuple (ns.map PyData.int))=ns:=by
   show(ns.map PyData.int).map br=ns;rw[Zp];have:(br ∘ PyData.int)=λi=>i:=rfl
   rw[this,List.map_id']
  apply⟨?_,λr mT=>?_⟩
  .show rR H _ (uQ (.tuple (ns.map PyData.int))::rowsOf _);rw[eo];exact .cons ⟨a,(),ha⟩ h1
  .let Nz:r=uQ (.tuple (ns.map PyData.int))\/r∈rowsOf _:=Zj.mp mT;rcases Nz with z |z
   .rw[z,eo];rw[Zb] at hl;exact⟨hl,hn⟩
   .exact h2 r z
structure eN (b:Addr)(H:Hp)(p pa pp pw:Addr)(xa xp xw:List V)(am pu wi:Ξ1):Prop where
 hp:H p=↑(.tup [.ref pa,.ref pp,.ref pw])
 ha:H pa=↑(.tup xa)
 Dh:H pp=↑(.tup xp)
 hw:H pw=↑(.tup xw)
 ta:ci b H xa am
 tp:ci b H xp pu
 tw:ci b H xw wi
 ok:cK (.tuple [.tuple am,.tuple pu,.tuple wi])
def eN.of (h:fX b H (.ref p) (.tuple [.tuple am,.tuple pu,.tuple wi]))(m:cK (.tuple [.tuple am,.tuple pu,.tuple wi])):∃pa pp pw xa xp xw,eN b H p pa pp pw xa xp xw am pu wi:=by
 let⟨_,_,e,hp,t⟩:=jq h;cases e;let⟨_,_,rfl,h1,t⟩:=No t;let⟨_,_,rfl,h2,t⟩:=No t;let⟨_,_,rfl,h3,t⟩:=No t;cases oN t;let⟨_,_,rfl,ha,hsa⟩:=jq h1;let⟨_,_,rfl,Dh,Hq⟩:=jq h2;let⟨_,_,rfl,hpw,DA⟩:=jq h3;exact⟨_,_,_,_,_,_,hp,ha,Dh,hpw,hsa,Hq,DA,m⟩
def eN.ay (m:eN b H p pa pp pw xa xp xw am pu wi)(s:az H H'):eN b H' p pa pp pw xa xp xw am pu wi :=
 ⟨s _ _ m.hp,s _ _ m.ha,s _ _ m.Dh,s _ _ m.hw,m.ta.ay s,m.tp.ay s,m.tw.ay s,m.ok⟩
def eN.tr (m:eN b H p pa pp pw xa xp xw am pu wi):fX b H (.ref p) (.tuple [.tuple am,.tuple pu,.tuple wi]) :=
 .tup m.hp (.cons (.tup m.ha m.ta) (.cons (.tup m.Dh m.tp) (.cons (.tup m.hw m.tw) .nil)))
def eN.lw (m:eN b H p pa pp pw xa xp xw am pu wi):rR H xw (rowsOf wi)/\rowsOf wi≠[]/\(∀r∈rowsOf wi,↥r=↥xa)/\(∀r∈rowsOf wi,∀k∈r,0<=k/\k<=100)/\1<=↥xa/\↥xa<=6/\1<=↥xw/\↥xw<=6/\↥xp=↥xw:=by
 let⟨h1,h2,h3,h4,h5,h6,h7,h8⟩:=jd m.ok;let⟨r1,r2⟩:=Al m.tw h8;let la:=m.ta.len;let lp:=m.tp.len;let lw:=m.tw.len;apply⟨r1,?_,λr hr=>by rw[(r2 r hr).1,la],λr hr=>(r2 r hr).2,⋯,⋯,⋯,⋯,⋯⟩;intro z;have:=ata List.length z;unfold rowsOf at this
 grind
def CA {g j:Nat}(hj:j<g):HJ (V.int (0+(j:Int))) (Hi g M)=has M j:=by
 unfold HJ Hi;rw[X7,Ya,Z6];constructor
 .rintro⟨k,hk,e⟩;rw[Ze] at hk;let e':(0+(k:Int))=0+(j:Int):=by simpa[Hy] using e
  grind
 .intro h;apply⟨j,by rw[Ze];exact⟨by simpa using hj,h⟩,by simp[Hy]⟩
def ww (g:Nat)(M:Γ1):(Hi g M).all iT:=by
 unfold Hi;rw[Y2];simp[Function.comp_def,iT]
def C6 (wd:Bool):PyData->Bool
 |.tuple [.int t,.int u]=>bJ (.tuple [.int t,.int u])&&(if wd then decide (0<t) else decide (t=0)&&decide (u=1))
 |_=>false
def eV (g:Nat)(M:Γ1):PyData->Bool
 |.tuple ds=>decide (↥ds=g)&&(~~~g).all λj=>C6 (has M j) (ds.getD j .none)
 |_=>false
def pz (h:bJ d=false):C6 wd d=false:=by
 unfold C6;split
 .rw[h];rfl
 .rfl
def GN (h:Lx d=false):eV g M d=false:=by cases d<;>first |rfl |cases h
def GI (hb:0<b)(hY:0<Y)(g1:Int.gcd a b=1)(g2:Int.gcd X Y=1)(h:X*b=a*Y):X=a/\Y=b:=by
 let d1:Y∣b:=by
  let q:Y∣X*b:=⟨a,by rw[h,Int.mul_comm]⟩;rw[<- Int.dvd_gcd_mul_iff_dvd_mul,Int.gcd_comm,g2] at q;simpa using q
 let d2:b∣Y:=by
  let q:b∣a*Y:=⟨X,by rw[<- h,Int.mul_comm]⟩;rw[<- Int.dvd_gcd_mul_iff_dvd_mul,Int.gcd_comm,g1] at q;simpa using q
 let e:Y=b:=Int.dvd_antisymm ⋯ ⋯ d1 d2;subst e;exact⟨Int.eq_of_mul_eq_mul_right ⋯ h,()⟩
def den_pos (q:Rat):(0:Int)<(q.den:Int):=by have:=q.den_nz;omega
def Aq (q:Rat):Int.gcd q.num (q.den:Int)=1:=q.reduced
def oB (hU:U≠0):nx T U=(Rat.divInt T U).num/\ny T U=((Rat.divInt T U).den:Int):=by
 let⟨n1,n2,n3,_⟩:=kL (t:=T) hU;let hd:=den_pos (Rat.divInt T U);let h1:T*((Rat.divInt T U).den:Int)=(Rat.divInt T U).num*U:=by
  rw[<- Rat.divInt_eq_divInt_iff hU ⋯,Xi]
 apply GI hd n2 (Aq _) n3 ?_;let e:nx T U*((Rat.divInt T U).den:Int)*U=(Rat.divInt T U).num*ny T U*U:=by
  grind
 exact Int.eq_of_mul_eq_mul_right hU e
abbrev qO (q:Rat):HO:=.tup [.int q.num,.int (q.den:Int)]
def Rb (k:Nat)(q:Rat):Prop:=Bd k q.num/\Bd k (q.den:Int)
def Rb.mono (h:Rb j q)(hk:j<=k):Rb k q:=⟨h.1.mono hk,h.2.mono hk⟩
def nt {q:Rat}:0<q↔0<q.num:=by
 rw[Rat.lt_iff];simp
def EQ (hu:0<u)(hg:Int.gcd t u=1):∃q:Rat,q.num=t/\(q.den:Int)=u:=by
 apply⟨⟨t,u.toNat,⋯,?_⟩,(),by show((u.toNat:Nat):Int)=u;omega⟩;show Nat.gcd t.natAbs u.toNat=1;have:u.toNat=u.natAbs:=⋯;rw[this];exact hg
def tT (a b:Rat):Rat.divInt (a.num*b.den+b.num*a.den) (a.den*b.den)=a+b:=by
 rw[<- Rat.divInt_add_divInt _ _ (by have:=den_pos a;omega) (by have:=den_pos b;omega),Xi,Xi]
def nE (a b:Rat):Rat.divInt (a.num*b.num) (a.den*b.den)=a*b:=by
 rw[<- Rat.divInt_mul_divInt,Xi,Xi]
def nK (hb:b.num≠0):Rat.divInt (a.num*b.den) (a.den*b.num)=a / b:=by
 rw[X8,Rat.inv_def];conv=>rhs;rw[<- Xi a]
 rw[Rat.divInt_mul_divInt]
def Fe (a b:Rat):(a.num*b.den<b.num*a.den)=(a<b):=propext (Rat.lt_iff a b).symm
def iV (hU:U≠0)(h1:Bd k T)(h2:Bd k U):Rb k (Rat.divInt T U):=by
 let⟨e1,e2⟩:=oB (T:=T) hU;let⟨_,_,_,_,n5,n6⟩:=kL (t:=T) hU;apply⟨?_,?_⟩
 .rw[<- e1];exact h1.le n5
 .rw[<- e2];exact h2.le n6
def Bd.add (ha:Bd j a)(hb:Bd j b):Bd (j+1) (a+b):=by
 unfold Bd at *;omega
def P6 (ha:Rb j a)(hb:Rb k b):Rb (j+k+1) (a+b):=by
 rw[<- tT];let h2:(a.den:Int)*b.den≠0:=X5 (Xz (den_pos a) (den_pos b));apply iV h2 (Bd.add (ha.1.mul hb.2) ?_) ((ha.2.mul hb.2).mono ⋯);have:=hb.1.mul ha.2
 grind
def j6 (ha:Rb j a)(hb:Rb k b):Rb (j+k) (a*b):=by
 rw[<- nE];let h2:(a.den:Int)*b.den≠0:=X5 (Xz (den_pos a) (den_pos b));exact iV h2 (ha.1.mul hb.1) (ha.2.mul hb.2)
def uA (Nn:Addr):Sp:=λvs H Q E=>∃(t u:Int),vs=[.int t,.int u]/\Bd 66000000 u/\(u=0->E (.ref Nn) none H)/\(u≠0->∀p,H p=none->Q (.ref p) (aP H p (qO (Rat.divInt t u))))
def DM:Sp:=λvs H Q _=>∃(t u:Int),vs=[.int t,.int u]/\0<u/\Bd 66000000 u/\∀p,H p=none->Q (.ref p) (aP H p (qO (Rat.divInt t u)))
def Hf (op:Rat->Rat->Rat):Sp:=λvs H Q _=>∃(p q:Addr) (a b:Rat),vs=[.ref p,.ref q]/\H p=↑(qO a)/\H q=↑(qO b)/\Rb 32000000 a/\Rb 32000000 b/\∀r,H r=none->Q (.ref r) (aP H r (qO (op a b)))
def oq (Nn:Addr):Sp:=λvs H Q E=>∃(p q:Addr) (a b:Rat),vs=[.ref p,.ref q]/\H p=↑(qO a)/\H q=↑(qO b)/\Rb 32000000 a/\Rb 32000000 b/\(b=0->E (.ref Nn) none H)/\(b≠0->∀r,H r=none->Q (.ref r) (aP H r (qO (a / b))))
def j5:Sp:=λvs H Q _=>∃(p q:Addr) (a b:Rat),vs=[.ref p,.ref q]/\H p=↑(qO a)/\H q=↑(qO b)/\Rb 32000000 a/\Rb 32000000 b/\Q (.bl (decide (a<b))) H
def V':Rat->Rat->Rat:=λa b=>a+b
def pU:Rat->Rat->Rat:=λa b=>a*b
def b3 (h:Bd 32000000 n):Bd 66000000 n:=h.mono ∅
def b6 (h:Bd (32000000+32000000) n):Bd 66000000 n:=h.mono ∅
def LS (h:Bd k u)(hu:u≠0):Bd k (sg t u):=by
 apply h.le ?_;let g0:0<Int.gcd t u:=Qz t hu;let e:(sg t u).natAbs=Int.gcd t u:=by unfold sg;split<;>omega
 rw[e];exact Nat.le_of_dvd ⋯ (Int.gcd_dvd_natAbs_right t u)
def vX:(if a<0 then -a else a)=(Int.gcd a 0:Int):=by
 rw[Int.gcd_zero_right];omega
def su:Sp:=λvs H Q _=>∃(t u:Int),vs=[.int t,.int u]/\Q (.int (Int.gcd t u)) H
def nv:eV g M (.tuple ds)↔↥ds=g/\∀j,j<g->C6 (has M j) (ds.getD j .none):=by
 show(decide (↥ds=g)&&(~~~g).all λj=>C6 (has M j) (ds.getD j .none))=true↔_;rw[Z4,decide_eq_true_eq,Yd];constructor
 .rintro⟨h1,h2⟩;exact⟨h1,λj hj=>h2 j ‹hj›⟩
 .rintro⟨h1,h2⟩;exact⟨h1,λj hj=>h2 j ‹hj›⟩
def qD (q:Rat):PyData:=.tuple [.int q.num,.int (q.den:Int)]
def GP (q:Rat):bJ (qD q):=by
 let h:=den_pos q;show(decide (1<=(q.den:Int))&&decide (Int.gcd q.num (q.den:Int)=1))=true;rw[aea (show 1<=(q.den:Int) by omega),aea (Aq q)];rfl
def RL (h:bJ d):∃q:Rat,d=qD q:=by
 let⟨t,u,rfl,hu,hg⟩:=l9 h;let⟨q,e1,e2⟩:=EQ (t:=t) (u:=u) ⋯ ⋯;exact⟨q,by unfold qD;rw[e1,e2]⟩
def l8:C6 wd (qD q)↔(if wd=true then 0<q else q=0):=by
 show(bJ (qD q)&&(if wd then decide (0<q.num) else decide (q.num=0)&&decide ((q.den:Int)=1)))=true↔_;rw[GP];cases wd with
 |true=>simp[nt]
 |false =>
  simp;rintro rfl;rfl
structure HB (M:Γ1)(qs:Δ1):Prop where
 pos:∀j,j<↥qs->has M j->0<qs\j
 nil:∀j,j<↥qs->has M j=false->qs\j=0
def jY {α β : Type}{f:α->β}{xs:List α}{j:Nat}{a:α}{b:β}(h:j<↥xs):(xs.map f).getD j b=f (xs.getD j a):=by
 simp[List.getD,Zo,Zc h]
def Ej {g:Nat}:eV g M (.tuple (qs.map qD))↔↥qs=g/\HB M qs:=by
 rw[nv,Zb];constructor
 .rintro⟨h1,h2⟩;apply⟨h1,⟨λj hj hh=>?_,λj hj hh=>?_⟩⟩
  .have:=h2 j ⋯;rw[jY (a:=0) hj,l8,hh] at this;exact this
  .have:=h2 j ⋯;rw[jY (a:=0) hj,l8,hh] at this;exact this
 .rintro⟨h1,h2⟩;apply⟨h1,λj hj=>?_⟩;rw[jY (a:=0) ⋯,l8];cases hh:has M j with
  |true=>exact h2.pos j ⋯ hh
  |false=>exact h2.nil j ⋯ hh
def FZ (h:eV g M d):∃qs:Δ1,d=.tuple (qs.map qD)/\↥qs=g/\HB M qs:=by
 cases d with
 |tuple ds =>
  let⟨h1,h2⟩:=nv.mp h;have:∃qs:Δ1,ds=qs.map qD:=by
   let qc:∀d∈ds,∃q:Rat,d=qD q:=λd hd=>by
    let⟨j,hj,e⟩:=Yf hd;have:=h2 j ⋯;let e2:ds.getD j .none=d:=by simp[List.getD,Zc hj,e]
    rw[e2] at this;cases hf:bJ d with
    |true=>exact RL hf
    |false=>rw[pz hf] at this;cases this
   clear h h1 h2
   induction ds with
   |nil=>exact⟨[],()⟩
   |cons d ds ih =>
    let⟨q,rfl⟩:=qc d (Zk);let⟨qs,rfl⟩:=ih λd hd=>qc d (Zi _ hd)
    exact⟨q::qs,()⟩
  let⟨qs,rfl⟩:=this;exact⟨qs,(),Ej.mp h⟩
 |_=>cases h
def mE (row:Γ3)(qs:Δ1)(g o:Nat):Bool:=decide (0<row\o)&&decide ((row.getD g 0:Rat)*(qs\o)<(row.getD o 0:Rat)*(qs\g))
def mK (row:Γ3)(qs:Δ1)(g:Nat):Bool:=decide (row\g≠0)&&(~~~↥row).all λo=>!mE row qs g o
def aV (row:Γ3)(qs:Δ1):List Nat:=(~~~↥row).filter (mK row qs)
def aw (M:Γ1)(qs:Δ1):Γ1:=M.map λrow=>(aV row qs).map λg:Nat=>(g:Int)
def b9 (gs:List Nat)(best:Γ3):Bool:=best.any λg=>gs.any λh=>decide ((h:Int)=g)
def eA (M:Γ1)(qs:Δ1)(gs:List Nat):List Nat:=(~~~↥M).filter λi=>b9 gs ((aw M qs)∩i)
def df (gs:List Nat):List V:=gs.map λg:Nat=>V.int (g:Int)
structure D8 (b:Addr)(H:Hp)(p pa pp pw:Addr)(xa xp xw:List V)(am pu wi:Ξ1)(v:V)(d:PyData):Prop where
 m:eN b H p pa pp pw xa xp xw am pu wi
 tr:fX b H v d
 wd:∀qs:Δ1,d=.tuple (qs.map qD)->∀z∈qs,Rb 2010007 z
def D8.ay (a:D8 b H p pa pp pw xa xp xw am pu wi v d)(s:az H H'):D8 b H' p pa pp pw xa xp xw am pu wi v d:=⟨a.m.ay s,a.tr.ay s,a.wd⟩
def LQ:Sp:=λvs H Q _=>∃(b p pa pp pw:Addr) (xa xp xw:List V) (am pu wi:Ξ1) (v:V) (d:PyData),vs=[.ref p,v]/\eN b H p pa pp pw xa xp xw am pu wi/\fX b H v d/\∀H',az H H'->Q (.bl (eV ↥xa (rowsOf wi) d)) H'
def ou (Pr:Addr):Sp:=λvs H Q E=>∃(b p pa pp pw:Addr) (xa xp xw:List V) (am pu wi:Ξ1) (v:V) (d:PyData),vs=[.ref p,v]/\D8 b H p pa pp pw xa xp xw am pu wi v d /\
 (eV ↥xa (rowsOf wi) d=false->∀H',az H H'->E (.ref Pr) none H') /\
 (∀qs:Δ1,d=.tuple (qs.map qD)->↥qs=↥xa->HB (rowsOf wi) qs->∀(r:Addr) (xs:List V) (H':Hp),az H H'->H' r=↑(.tup xs)->rR H' xs (aw (rowsOf wi) qs)->Q (.ref r) H')
def fw (h:Bd k n)(hk:1<=k):Rb k (n:Rat):=⟨h,by
 show Bd k ((1:Nat):Int);unfold Bd;exact Nat.one_lt_two_pow ⋯⟩
def mB (H:Hp)(ys:List V)(qs:Δ1):Prop:=↥ys=↥qs/\∀(j:Nat) y,ys[j]?=↑y->∃a,y=.ref a/\H a=↑(qO (qs\j))
def mB.ay (h:mB H ys qs)(s:az H H'):mB H' ys qs:=⟨h.1,λj y hy=>by let⟨a,e,z⟩:=h.2 j y hy;exact⟨a,e,s _ _ z⟩⟩
theorem mB.of:∀{ys:List V}{qs:Δ1},ci b H ys (qs.map qD)->mB H ys qs
 |[],[],_=>⟨(),λj y h=>by simp at h⟩
 |y::ys,q::qs,.cons h t=>by
  let ih:=mB.of t;apply⟨by simp[ih.1],λj z hz=>?_⟩;cases j with
  |zero =>
   let e:y=z:=by simpa using hz
   subst e;unfold qD at h;let⟨a,_,e,ha,hs⟩:=jq h;let⟨_,_,rfl,h1,hs⟩:=No hs;let⟨_,_,rfl,h2,hs⟩:=No hs;cases oN hs;cases nj h1;cases nj h2;exact⟨a,e,ha⟩
  |succ j=>exact ih.2 j z ‹hz›
def mB.at (h:mB H ys qs)(hg:g<↥qs):∃a,gh ys (g:Int)=↑(.ref a)/\H a=↑(qO (qs\g)):=by
 let hl:g<↥ys:=by rw[h.1];exact hg
 let e:=Zc hl;let⟨a,e2,z⟩:=h.2 g _ e;rw[e2] at e;exact⟨a,nO e,z⟩
def mB.app (h:mB H ys qs)(ha:H a=↑(qO q)):mB H (ys++[.ref a]) (qs++[q]):=by
 apply⟨by simp[h.1],λj y hy=>?_⟩;rcases Yb j ↥ys with z |z
 .rw[Zr z] at hy;let⟨c,e,hc⟩:=h.2 j y hy;apply⟨c,e,?_⟩;have:(qs++[q])\j=qs\j:=by simp[List.getD,Zr (h.1▸z)]
  rw[this];exact hc
 .have:j=↥ys:=by
   have:=(Zg.mp hy).1;simp at this;omega
  subst this;simp at hy;subst hy;apply⟨a,(),?_⟩;have:(qs++[q])\↥ys=q:=by rw[h.1];simp[List.getD]
  rw[this];exact ha
def mB.tm (h:mB H ys qs)(s:Tm H H'):mB H' ys qs:=⟨h.1,λj y hy=>by let⟨a,e,z⟩:=h.2 j y hy;exact⟨a,e,s _ _ z⟩⟩
def aK (qs:Δ1):Rat:=qs.foldl (λs q=>s+q) 0
def C9 {α : Type}{xs:List α}{i:Nat}{x:α}(h:xs[i]?=↑x):xs.take (i+1)=xs.take i++[x]:=by rw[List.take_succ,h];rfl
def BQ (qs:Δ1)(q:Rat):aK (qs++[q])=aK qs+q:=by unfold aK;rw[List.foldl_append];rfl
def nq:Rb 1 (0:Rat):=by unfold Rb Bd;decide+kernel
theorem M0:∀{xa:List V}{am:Ξ1},ci b H xa am->am.all (within 1 60)->xa=(am.map br).map V.int/\∀n∈am.map br,1<=n/\n<=60
 |_,_,.nil,_=>⟨(),λn hn=>nomatch hn⟩
 |_,_,.cons (d:=d) h t,h3=>by
  rw[X2,Z4] at h3;let⟨e,hb⟩:=M0 t h3.2;obtain⟨n,rfl,n1,n2⟩:∃n:Int,d=.int n/\1<=n/\n<=60:=by
   have:=h3.1;unfold within at this;split at this
   .simp at this;exact⟨_,(),this⟩
   .cases this
  cases h
  apply⟨by rw[e];simp[br],λk hk=>?_⟩;rcases Zj.mp hk with rfl |hk
  .exact⟨n1,n2⟩
  .exact hb k hk
theorem eN.am {am pu wi:Ξ1}(m:eN b H p pa pp pw xa xp xw am pu wi):xa=(am.map br).map V.int/\∀n∈am.map br,1<=n/\n<=60:=by
 let⟨_,_,h3,_⟩:=jd m.ok;exact M0 m.ta h3
structure BE (b:Addr)(H:Hp)(q:Addr)(ys:List V)(qs:Δ1):Prop where
 hq:H q=↑(.tup ys)
 tr:ci b H ys (qs.map qD)
 bd:∀z∈qs,Rb 2010000 z
def BE.ay (h:BE b H q ys qs)(s:az H H'):BE b H' q ys qs:=⟨s _ _ h.hq,h.tr.ay s,h.bd⟩
end KM
namespace L2
open PySem.Spec PyProof.Rows
end L2
namespace KM
open L2 KG EX
theorem AU:∀(ns:Γ3),ci b H (ns.map V.int) (ns.map PyData.int)
 |[]=>.nil
 |n::ns=>.cons (.int n) (AU ns)
def bi (ns:Γ3):PyData:=.tuple (ns.map PyData.int)
theorem EN:∀{xs:List V}{M:Γ1},rR H xs M->ci b H xs (M.map bi)
 |_,_,.nil=>.nil
 |_,_,.cons ⟨a,e,h⟩ t=>by
  subst e;exact .cons (.tup h (AU _)) (EN t)
def MR (q:Rat):(qD q).depth<=1:=by unfold qD;simp[PyData.depth,PyData.depthAll]
def yi (gs:List Nat):df gs=(gs.map λg:Nat=>(g:Int)).map V.int:=by unfold df;rw[Zp];rfl
def nu (h:lx d):∃q:Rat,d=qD q/\0<q/\Rb 20 q:=by
 let⟨t,u,rfl⟩:=yb h;let h':(decide (1<=u)&&decide (Int.gcd t u=1)&&decide (1<=t)&&decide (t<=1000000)&&decide (u<=1000000))=true:=h;simp only[Z4,decide_eq_true_eq] at h';let⟨⟨⟨⟨h1,h2⟩,h3⟩,h4⟩,h5⟩:=h';let⟨q,e1,e2⟩:=EQ (t:=t) (u:=u) ⋯ h2;apply⟨q,by unfold qD;rw[e1,e2],nt.mpr ⋯,?_,?_⟩
 .unfold Bd;omega
 .unfold Bd;omega
theorem vj:∀{pu:Ξ1},pu.all lx->∃ps:Δ1,pu=ps.map qD/\∀q∈ps,0<q/\Rb 20 q
 |[],_=>⟨[],(),λq h=>nomatch h⟩
 |d::pu,h=>by
  rw[X2,Z4] at h;let⟨q,rfl,h1,h2⟩:=nu h.1;let⟨ps,rfl,hp⟩:=vj h.2;apply⟨q::ps,(),λz hz=>?_⟩;rcases Zj.mp hz with rfl |hz
  .exact⟨h1,h2⟩
  .exact hp z hz
def Sa:PyData->Rat
 |.tuple [.int t,.int u]=>Rat.divInt t u
 |_=>0
def iW (q:Rat):Sa (qD q)=q:=Xi q
def rM (pu:Ξ1):Δ1:=pu.map Sa
theorem eN.pu {am pu wi:Ξ1}(m:eN b H p pa pp pw xa xp xw am pu wi):pu=(rM pu).map qD/\∀q∈rM pu,0<q/\Rb 20 q:=by
 let⟨_,_,_,_,_,h6,_⟩:=jd m.ok;let⟨ps,e,hp⟩:=vj h6;have:rM pu=ps:=by
  rw[e];unfold rM;rw[Zp];have:(Sa ∘ qD)=id:=by funext q;exact iW q
  rw[this,X6]
 rw[this];exact⟨e,hp⟩
def eN.fp {am pu wi:Ξ1}(m:eN b H p pa pp pw xa xp xw am pu wi):mB H xp (rM pu):=by
 let h:=m.tp;rw[m.pu.1] at h;exact mB.of h
def Ao {qs:Δ1}(hk:1<=k)(h:∀q∈qs,Rb k q)(g:Nat):Rb k (qs\g):=by
 by_cases hg:g<↥qs
 .have:qs\g∈qs:=by simp[List.getD,Zc hg]
  exact h _ this
 .have:qs\g=0:=by simp[List.getD,Yu (Xf hg)]
  rw[this];exact nq.mono hk
def bh (ps:Δ1)(bs:List Nat):Rat:=aK (bs.map λi=>ps\i)
def io (ha:Rb j a)(hb:Rb k b)(h:b≠0):Rb (j+k) (a / b):=by
 let hn:b.num≠0:=λz=>h (Rat.num_eq_zero.mp z)
 rw[<- nK hn];apply iV ?_ (ha.1.mul hb.2) (ha.2.mul hb.1);intro z;rcases Int.mul_eq_zero.mp z with y |y
 .have:=den_pos a;omega
 .exact hn y
def dX (ns:Γ3)(p9:Nat):Γ3:=((~~~↥ns).filter λk=>decide (p9 / 2 ^ k % 2=1)).map λk=>ns\k
def aT (ns:Γ3):Γ1:=(~~~(2 ^ ↥ns)).map (dX ns)
def c9 (c:Int)(ms:Γ3)(qs:Δ1):Prop:=↥ms=↥qs/\∀j,j<↥qs->((ms.getD j 0:Int):Rat)=(c:Rat)*(qs\j)
def gx (am:Γ3)(qs:Δ1):Δ1:=(~~~↥qs).map λg=>qs\g*((am.getD g 0:Int):Rat)
end KM
namespace L2
open PySem.Spec PyProof.Rows
section
variable {κ : Type}[DecidableEq κ]
def eK (kvs:List (κ × V))(k:κ):Option V:=(kvs.find? λkv=>decide (kv.1=k)).map (·.2)
def d6 (kvs:List (κ × V))(k:κ)(v:V):List (κ × V) :=
 if (kvs.any λkv=>decide (kv.1=k))=true then kvs.map (λkv=>if kv.1=k then (kv.1,v) else kv) else kvs++[(k,v)]
def gH {k:κ}(e:p.1=k):eK (p::r) k=↑p.2:=by simp[eK,X9,e]
def gI {k:κ}(e:¬ p.1=k):eK (p::r) k=eK r k:=by simp[eK,X9,e]
theorem i8 (k:κ):∀kvs:List (κ × V),(kvs.any λkv=>decide (kv.1=k))=(eK kvs k).isSome
 |[]=>rfl
 |p::r=>by
  rw[Xx];by_cases e:p.1=k
  .simp only[gH e,aea e,Bool.true_or,Option.isSome_some]
  .rw[gI e,aja e,Bool.false_or];exact i8 k r
def gf (kvs:List (κ × V))(k:κ)(v:V):↥(d6 kvs k v)<=↥kvs+1:=by
 unfold d6;split
 .rw[Zb];omega
 .rw[Zv,Y1,List.length_nil];omega
def oR {k:κ}(v:V)(h:eK kvs k=none):d6 kvs k v=kvs++[(k,v)]:=by
 unfold d6;rw[i8,h];exact aga ∅
def aE.l7 (r:aE o u):o.isSome=u.isSome:=by
 cases o with
 |none=>cases u with
  |none=>rfl
  |some _=>exact(show False from r).elim
 |some _=>cases u with
  |none=>exact(show False from r).elim
  |some _=>rfl
def KV.val (r:KV kvs vs)(k:κ):aE (eK kvs k) (valueAt vs k):=by
 unfold KV at r;induction r with
 |nil=>exact True.intro
 |@cons p q ps qs h t ih =>
  let⟨h1,h2⟩:=h;by_cases e:p.1=k
  .let e':q.1=k:=h1.symm.trans e;let b:valueAt (q::qs) k=↑q.2:=by simp[valueAt,X9,e']
   rw[gH e,b];exact h2
  .let e':¬ q.1=k:=λz=>e (h1.trans z)
   let b:valueAt (q::qs) k=valueAt qs k:=by simp[valueAt,X9,e']
   rw[gI e,b];exact ih
def KV.any (r:KV kvs vs)(k:κ):(kvs.any λkv=>decide (kv.1=k))=vs.any λkv=>decide (kv.1=k):=by
 unfold KV at r;induction r with
 |nil=>rfl
 |cons h t ih=>rw[Xx,Xx,ih,h.1]
def KV.N9 (r:KV kvs vs)(k:κ)(ry:RelV y u) :
  KV (kvs.map λkv=>if kv.1=k then (kv.1,y) else kv) (vs.map λkv=>if kv.1=k then (kv.1,u) else kv):=by
 unfold KV at r ⊢;induction r with
 |nil=>exact .nil
 |@cons p q ps qs h t ih =>
  rw[Zm,Zm];apply .cons ?_ ih;let⟨h1,h2⟩:=h;by_cases e:p.1=k
  .rw[aha e,aha (h1.symm.trans e)];exact⟨h1,ry⟩
  .rw[aga e,aga (λz=>e (h1.trans z))];exact⟨h1,h2⟩
def KV.put (r:KV kvs vs)(k:κ)(ry:RelV y u):KV (d6 kvs k y) (stored vs k u):=by
 unfold d6 stored;rw[r.any k];by_cases e:(vs.any λkv=>decide (kv.1=k))=true
 .rw[aha e,aha e];exact r.N9 k ry
 .rw[aga e,aga e];exact Paired.snoc r ⟨(),ry⟩
def KV.keys {vs:List (κ × Value)}(r:KV kvs vs):kvs.map (·.1)=vs.map (·.1):=by
 unfold KV at r;induction r with
 |nil=>rfl
 |cons h t ih=>rw[Zm,Zm,ih,h.1]
def KV.length (r:KV kvs vs):↥kvs=↥vs:=Paired.length r
end
def uU (r:RelV (kV k) u):(mr P w).is k u:=by
 cases k with
 |inl i=>let⟨t,e⟩:=(show ∃t,u=Value.int i t from r);subst e;exact wq P w i t
 |inr x=>let⟨t,e⟩:=(show ∃t,u=Value.str x t from r);subst e;exact wn P w x t
theorem rj:∀{ks:List d4}{us:Δ3},bw (ks.map kV) us->ItemsAre (mr P w) ks us
 |[],_,r=>by rw[List.map_nil] at r;cases r;exact .nil
 |k::ks,_,r=>by
  rw[Zm] at r;cases r with
  |cons h t=>exact .cons (uU h) (rj t)
abbrev KT (H:Hp):List (List d4×V)->List (List d4×Addr×Value)->Prop:=Paired λp q=>p.1=q.1/\H q.2.1=↑(.tup (p.1.map kV))/\RelV p.2 q.2.2
def KT.val {xs:List (List d4×Addr×Value)}(r:KT H kvs xs)(k:List d4):aE (eK kvs k) ((atKey xs k).map (·.2)):=by
 induction r with
 |nil=>exact True.intro
 |@cons p q ps qs h t ih =>
  let⟨h1,_,h2⟩:=h;by_cases e:p.1=k
  .let e':q.1=k:=h1.symm.trans e;let b:atKey (q::qs) k=↑q.2:=by simp[atKey,X9,e']
   rw[gH e,b];exact h2
  .let e':¬ q.1=k:=λz=>e (h1.trans z)
   let b:atKey (q::qs) k=atKey qs k:=by simp[atKey,X9,e']
   rw[gI e,b];exact ih
def KT.N9 (r:KT H kvs xs)(k:List d4)(ry:RelV y u) :
  KT H (kvs.map λkv=>if kv.1=k then (kv.1,y) else kv) (xs.map (putAt k u)):=by
 induction r with
 |nil=>exact .nil
 |@cons p q ps qs h t ih =>
  rw[Zm,Zm];apply .cons ?_ ih;let⟨h1,h2,h3⟩:=h;unfold putAt;by_cases e:p.1=k
  .rw[aha e,aha (h1.symm.trans e)];exact⟨h1,h2,ry⟩
  .rw[aga e,aga (λz=>e (h1.trans z))];exact⟨h1,h2,h3⟩
def KT.put (r:KT H kvs xs)(k:List d4)(hb:H b=↑(.tup (k.map kV)))(ry:RelV y u) :
  KT H (d6 kvs k y) (storedH xs k b u):=by
 let e:(kvs.any λkv=>decide (kv.1=k))=(atKey xs k).isSome:=by
  rw[i8,(r.val k).l7,Option.isSome_map]
 unfold d6 storedH;rw[e];by_cases q:(atKey xs k).isSome
 .rw[aha q,aha q];exact r.N9 k ry
 .rw[aga q,aga q];exact Paired.snoc r ⟨(),hb,ry⟩
def KT.keeps (r:KT H kvs xs)(ht:∀b ys,H b=↑(.tup ys)->H' b=↑(.tup ys)):KT H' kvs xs :=
 Paired.Iq r λ_ _ z=>⟨z.1,ht _ _ z.2.1,z.2.2⟩
section
variable {P:Program}{w:World}{H:Hp}{h:Heap}{a:Addr}
def LX (ok:kA P w H h)(e:Rd H a u):cf P w H h a u:=e.ok ok
def u6 (ok:kA P w H h)(e:Rd H a (.dK kvs)):↥kvs<=sizeLine/\(a == sysModules)=false/\∃vs,KV kvs vs/\h.DictOf (mr P w) a vs :=
 show cf P w H h a (.dK kvs) from LX ok e
def zP (ok:kA P w H h)(e:H a=↑(.dK kvs)):↥kvs<=sizeLine/\(a == sysModules)=false/\∃vs,KV kvs vs/\h.DictOf (mr P w) a vs:=u6 ok (.inl e)
def oH (ok:kA P w H h)(e:H a=↑(.tup (ks.map kV))):(tupleKind (mr P w)).is h ks a:=by
 let⟨_,its,r,o,h1,h2,n,h3⟩:=(show cf P w H h a (.tup (ks.map kV)) from ok a _ e);exact⟨o,its.toArray,n,h1,h2,h3,by simpa using rj r⟩
def u5 (ok:kA P w H h)(e:Rd H a (.dT kvs)):↥kvs<=sizeLine/\(a == sysModules)=false /\
  ∃xs,KT H kvs xs/\h.DictOfH (tupleKind (mr P w)) a xs:=by
 let⟨z,y,xs,r,o,es,ep,h1,h2,h3,h4,h5⟩:=(show cf P w H h a (.dT kvs) from LX ok e);apply⟨z,y,xs,r,o,es,ep,h1,h2,h3,h4,λx hx=>?_,h5⟩;let all:∀{l:List (List d4×V)}{m:List (List d4×Addr×Value)},KT H l m->∀x∈m,(tupleKind (mr P w)).is h x.1 x.2.1:=by
  intro l m q;induction q with
  |nil=>intro x hx;exact nomatch hx
  |@cons p q ps qs hq t ih =>
   intro x hx;rcases Zj.mp hx with e |hx
   .subst e;exact oH ok (by rw[<- hq.1];exact hq.2.1)
   .exact ih x hx
 exact all r x hx
def MQ (ok:kA P w H h)(e:H a=↑(.dT kvs)):↥kvs<=sizeLine/\(a == sysModules)=false /\
  ∃xs,KT H kvs xs/\h.DictOfH (tupleKind (mr P w)) a xs:=u5 ok (.inl e)
end
def uN (H:Hp)(a:Addr)(y:V)(r:Option V):Prop :=
 (∃kvs k,Rd H a (.dK kvs)/\y=kV k/\r=eK kvs k)\/∃kvs k b,Rd H a (.dT kvs)/\y=.ref b/\H b=↑(.tup (k.map kV))/\r=eK kvs k
def D7 (H:Hp)(a:Addr)(y v:V)(H':Hp):Prop :=
 (∃kvs k,H a=↑(.dK kvs)/\y=kV k/\↥kvs<sizeLine/\H'=aP H a (.dK (d6 kvs k v))) \/
 ∃kvs k b,H a=↑(.dT kvs)/\y=.ref b/\H b=↑(.tup (k.map kV))/\↥kvs<sizeLine/\H'=aP H a (.dT (d6 kvs k v))
theorem uN.k {k:d4}(e:H a=↑(.dK kvs)):uN H a (kV k) (eK kvs k):=.inl ⟨kvs,k,.inl e,(),()⟩
theorem D7.k {k:d4}(e:H a=↑(.dK kvs))(hl:↥kvs<sizeLine):D7 H a (kV k) v (aP H a (.dK (d6 kvs k v))):=.inl ⟨kvs,k,e,(),hl,()⟩
section
variable {X:Cx}{ae:Γ2}{σ:St}{H:Hp}{s:Shared}{a:Addr}{y v:V}{u r:Value}{o:Option V}{A:Around}{E:Θ2}
def Inv.big (I:Inv X ae σ H s):sysModules<⇑s:=by
 let h:mainGlobals<⇑s:=(I.mod.glob.keeps I.bk).lt;exact Nat.lt_trans ∅ h
def CL (hu:A.units+1<cLine)(I:Inv X ae σ H s)(g:uN H a y ↑v)(ry:RelV y u)(h:∀w' s',Inv X ae σ H s'->RelV v w'->Q w' s') :
  wpAny (model X.prog X.w) A (getItem (.ref a) u) Q E s:=by
 rcases g with ⟨kvs,k,e,ey,l⟩ |⟨kvs,k,b,e,ey,eb,l⟩
 .subst ey;let⟨z,hd,vs,rel,dd⟩:=u6 I.ca e;let⟨w',hw,Bi⟩:=aE.some_of (v:=v) (o:=valueAt vs k) (by rw[l];exact rel.val k);exact wpAny_getItem_of (uU ry) dd.mapOf hw (h w' _ (I.tok _) Bi)
 .subst ey;cases (show u=Value.ref b from ry);let⟨z,hd,xs,rel,dd⟩:=u5 I.ca e;let⟨w',hw,Bi⟩:=aE.some_of (v:=v) (o:=(atKey xs k).map (·.2)) (by rw[l];exact rel.val k);let⟨p,hp,Φ⟩:=Option.map_eq_some_iff.mp hw;apply wpAny_getItem_heap (tupleKind_room_in1 hu) (oH I.ca eb) dd hp ?_;rw[Φ];exact h w' _ (I.tok _) Bi
def K3 (hu:A.units+1<cLine)(I:Inv X ae σ H s)(g:uN H a y o)(ry:RelV y u)(h:∀s',Inv X ae σ H s'->Q (.bool (!o.isSome)) s') :
  wpAny (model X.prog X.w) A (compareOp .NotIn u (.ref a)) Q E s:=by
 rcases g with ⟨kvs,k,e,ey,l⟩ |⟨kvs,k,b,e,ey,eb,l⟩
 .subst ey;let⟨z,hd,vs,rel,dd⟩:=u6 I.ca e;apply wpAny_notIn_of (uU ry) hd dd.mapOf ?_;rw[<- (rel.val k).l7,<- l];exact h _ (I.tok _)
 .subst ey;cases (show u=Value.ref b from ry);let⟨z,hd,xs,rel,dd⟩:=u5 I.ca e;apply wpAny_notIn_heap (tupleKind_room_in1 hu) (oH I.ca eb) hd dd ?_;let q:=(rel.val k).l7;rw[Option.isSome_map] at q;rw[<- q,<- l];exact h _ (I.tok _)
def nL (I:Inv X ae σ H s)(mu:T9 (H a))(hs:Heap.SameBut a s.heap h')(he:∃q,h'.get? a=↑q)(new:cf X.prog X.w (aP H a ob) h' a ob) :
  Inv X ae σ (aP H a ob) { s with heap:=h',toks:=t' } :=
 I.write (x:=a) (e:=a) mu (.inl rfl) (λb q hb z=>(hs.2 b hb).trans z) he new
def Fn (z:↥kvs<=sizeLine)(hd:(a == sysModules)=false)(rel:KV kvs vs)(dd:h'.DictOf (mr P w) a vs) :
  cf P w H' h' a (.dK kvs):=⟨z,hd,vs,rel,dd⟩
def CK (hu:A.units+1<cLine)(I:Inv X ae σ H s)(g:D7 H a y v H')(ry:RelV y u)(rv:RelV v r)(h:∀s',Inv X ae σ H' s'->Q ⟨⟩ s') :
  wpAny (model X.prog X.w) A (setItem (.ref a) u r) Q E s:=by
 rcases g with ⟨kvs,k,e,ey,l,eH⟩ |⟨kvs,k,b,e,ey,eb,l,eH⟩
 .subst ey eH;let⟨z,hd,vs,rel,dd⟩:=zP I.ca e;let hz:↥vs<=sizeLine:=by rw[<- ↥rel];exact z
  let hl:↥(d6 kvs k v)<=sizeLine:=by have:=gf kvs k v;omega
  apply wpAny_setItem_pairs (hsz:=hz) (uU ry) dd λh' HR hs=>h _ ?_
  let he:∃q,h'.get? a=↑q:=let ⟨q,_,_,hq,_⟩:=HR;⟨q,hq⟩;exact nL I (by rw[e];exact True.intro) hs he (Fn hl hd (rel.put k rv) HR)
 .subst ey eH;cases (show u=Value.ref b from ry);let⟨z,hd,xs,rel,dd⟩:=MQ I.ca e;let hz:↥xs<=sizeLine:=by rw[<- Paired.length rel];exact z
  let hl:↥(d6 kvs k v)<=sizeLine:=by have:=gf kvs k v;omega
  apply wpAny_setItem_heap (hsz:=hz) (tupleKind_room_in1 hu) (oH I.ca eb) dd λh' HR hs=>h _ ?_
  let⟨q,es,ep,hq,h2,h3,h4,_,h5⟩:=HR;apply nL I (by rw[e];exact True.intro) hs ⟨q,hq⟩ ⟨hl,hd,_,(rel.put k eb rv).keeps λc ys ec=>?_,q,es,ep,hq,h2,h3,h4,h5⟩;rw[dE (uS ec e (λz=>nomatch z))];exact ec
end
section
variable {X:Cx}{ae:Γ2}{σ:St}{H:Hp}{s:Shared}{a:Addr}{kvs:List (d4×V)}{k:d4}{u:Value}{A:Around}{E:Θ2}
end
def VE (i:Expr):Prop:=∀ov iv,subscripted i false ov iv=operate [ov,iv] (getItem ov iv)
def Jn {T id:String}
  (hl:typeLookup (.type T) "__getitem__"=pure ↑(.builtin id)) (hs:VE slice)
  (h:wpAny (model prog w) A (eval value env) (λo bT=>wpAny (model prog w) A (eval slice env) (λi dm=>dm.TypeIs o T/\wpAny (model prog w) A (getItem o i) Q E dm) E bT) E s) :
  wpAny (model prog w) A (eval (.Subscript value slice pos) env) Q E s:=by
 apply Subscript_ (ana h (λo bT Iy=>ana Iy (λi dm xl=>?_) λ_ _ x=>x) λ_ _ x=>x);let⟨hT,xl⟩:=xl;unfold subscriptTail;apply Za ?_;rw[getitemInPython_of_ne hT.not_modules];apply Za (wpAny_specialOf hT hl ?_);let j3:wpAny (model prog w) A (subscripted slice false o i) (λr iO=>wpAny (model prog w) A (letTemporaryGo value o r >>= λ_=>pure r) Q E iO) E dm:=by
  rw[hs o i];exact wpAny_operating (ana xl (λr iO Ix=>Za (wpAny_letTemporaryGo (aba Ix))) λ_ _ x=>x)
 first
  |exact aba (Za j3)
  |exact Za (aba (Za j3))
  |exact Za j3
def wA (I:Inv X ae σ H s)(g:uN H a y o):s.TypeIs (.ref a) "dict":=by
 rcases g with ⟨kvs,k,e,_,_⟩ |⟨kvs,k,b,e,_,_,_⟩
 .obtain⟨_,_,vs,_,dd⟩:=u6 I.ca e;exact dd.typeIs
 .obtain⟨_,_,xs,_,dd⟩:=u5 I.ca e;exact dd.typeIs
def VY (td ty:TE):TE:=λσ H Q=>td σ H λx H1=>ty σ H1 λy H2=>∃a v,x=.ref a/\uN H2 a y ↑v/\Q v H2
def Jk (ty td:TE):TE:=λσ H Q=>ty σ H λy H1=>td σ H1 λx H2=>∃a o,x=.ref a/\uN H2 a y o/\Q (.bl (!o.isSome)) H2
def Wg (td ty tv:TE):TS:=λD σ H=>tv σ H λv H1=>td σ H1 λx H2=>ty σ H2 λy H3=>∃a H4,x=.ref a/\D7 H3 a y v H4/\D.nx σ H4
section
variable {X:Cx}{o i e value:Expr}{pos lF rS:Pos}{td ty tv:TE}
def Aw (hu:X.A.units+1<cLine)(ho:PE X o td)(hi:PE X i ty)(hs:VE i):PE X (.Subscript o i pos) (VY td ty):=by
 intro ae s σ H Q I h;apply Jn PySem.F.slot_dict_getitem.lookup hs (bH (ho ae s σ H _ I h) λu s1 ⟨x,H1,I1,rx,q1⟩=>bH (hi ae s1 σ H1 _ I1 q1) λiv s2 ⟨y,H2,I2,ry,a,v,ex,g,q2⟩=>?_);subst ex;obtain rfl:u=Value.ref a:=rx;exact⟨wA I2 g,CL hu I2 g ry λw' s3 I3 Bi=>⟨v,H2,I3,Bi,q2⟩⟩
def B6 (hu:X.A.units+1<cLine)(hi:PE X i ty)(ho:PE X o td):PC X .NotIn i o (Jk ty td):=by
 intro ae s σ H Q I h;apply bH (hi ae s σ H _ I h) λiv s1 ⟨y,H1,I1,ry,q1⟩=>bH (ho ae s1 σ H1 _ I1 q1) λu s2 ⟨x,H2,I2,rx,a,ov,ex,g,q2⟩=>?_
 subst ex;obtain rfl:u=Value.ref a:=rx;exact K3 hu I2 g ry λs3 I3=>⟨.bl (!ov.isSome),H2,I3,(),q2⟩
def JP (hu:X.A.units+1<cLine)(ho:PE X o td)(hi:PE X i ty)(hv:PE X value tv)(hs:swapsWith value ↑(.Subscript o i lF) pos.line X.env=pure false) :
  PS X (.Assign [.Subscript o i lF] value pos) (Wg td ty tv):=by
 intro ae s σ H D I h;apply wpAny_Assign_Subscript (bH (hv ae s σ H _ I h) λr s1 ⟨v,H1,I1,rv,q1⟩=>bH (ho ae s1 σ H1 _ I1 q1) λu s2 ⟨x,H2,I2,rx,q2⟩=>bH (hi ae s2 σ H2 _ I2 q2) λiv s3 ⟨y,H3,I3,ry,a,H4,ex,g,q3⟩=>?_) hs;subst ex;obtain rfl:u=Value.ref a:=rx;exact CK hu I3 g ry rv λs4 I4=>⟨σ,H4,I4,q3⟩
end
def G4 (h:Heap)(hb:sysModules<h.objs.size):cf P w H (h.push { cls:=.type "dict",data:=.dict #[] }) h.objs.size (.dK []) :=
 ⟨Z9 _,beq_eq_false_iff_ne.mpr (Ne.symm (Ye hb)),[],.nil,Heap.DictOf.new h⟩
def G2 (h:Heap)(hb:sysModules<h.objs.size):cf P w H (h.push { cls:=.type "dict",data:=.dict #[] }) h.objs.size (.dT []) :=
 ⟨Z9 _,beq_eq_false_iff_ne.mpr (Ne.symm (Ye hb)),[],.nil,_,#[],0,Z0 _ rfl,⟨(),(),()⟩,(),(),Qa⟩
section
variable {X:Cx}{pos:Pos}
end
section
variable {X:Cx}{ae:Γ2}{σ:St}{H:Hp}{s:Shared}{a:Addr}{y d:V}{u r:Value}{o:Option V}{A:Around}{E:Θ2}
end
section
variable {X:Cx}{o e f:Expr}{sj j4:Pos}{td ty tx:TE}
end
section
variable {X:Cx}{ae:Γ2}{σ:St}{H:Hp}{s:Shared}{a:Addr}{kvs:List (d4×V)}{A:Around}{E:Θ2}
end
section
variable {X:Cx}{ae:Γ2}{σ:St}{H:Hp}{s:Shared}{a:Addr}{y:V}{u:Value}{A:Around}{E:Θ2}
end
section
variable {X:Cx}
end
section
variable {κ : Type}[DecidableEq κ]
def zX {k:κ}(h:eK kvs k=↑v):k∈kvs.map (·.1):=by
 let q:(kvs.any λkv=>decide (kv.1=k))=true:=by
  rw[i8,h]
  all_goals rfl
 let⟨p,hp,e⟩:=Z6.mp q;exact Zd.mpr ⟨p,hp,aia e⟩
end
def sX (g:TG)(tt:TT)(tk tv:TE)(J:It)(acc:Addr)(au:St)(dw:Hp)(Q:VK):Prop :=
 ∃W:Nat->Nat->St->Hp->Prop,(∃m,W 0 m au (aP dw acc (.dK [])))/\∀i m aO H',W i m aO H' ->
  (J.stop i H'/\Q (.ref acc) H') \/
  (J.go i H'/\∃N:St->Hp->Prop,(∀cT H2,N cT H2->∃m',m'<m/\W (i+1) m' cT H2)/\∀x H2,J.qo i H' x H2->g x aO H2 λdD H3=>tt dD H3 λb H4 =>
   if b=true then tk dD H4 λkx H5=>tv dD H5 λy H6=>∃kvs k,H6 acc=↑(.dK kvs)/\kx=kV k/\↥kvs<sizeLine/\N dD (aP H6 acc (.dK (d6 kvs k y))) else N dD H4)
def xv (wi:TI)(g:TG)(tt:TT)(tk tv:TE)(own:Nat)(ix:List Nat):TE:=λσ H Q=>wi σ H λJ H1=>∀acc,H1 acc=none->sX g tt tk tv J acc (dH own ix σ) H1 Q
def CM (I:Inv X ae σ H s)
  (e:H a=↑(.dK kvs)) (ry:RelV (kV k) u) (rv:RelV v r) (l:↥kvs<sizeLine) (h:∀s',Inv X ae σ (aP H a (.dK (d6 kvs k v))) s'->Q ⟨⟩ s'):wpAny (model X.prog X.w) A (dictSet a u r) Q E s:=by
 let⟨z,hd,vs,rel,dd⟩:=zP I.ca e;let z1:↥vs<=sizeLine:=by rw[<- ↥rel];exact z
 let z2:↥(d6 kvs k v)<=sizeLine:=Zl (gf kvs k v) l;apply wpAny_dictSet_pairs (hsz:=z1) (uU ry) dd λh' HR hs=>h _ ?_
 let he:∃q,h'.get? a=↑q:=let ⟨q,_,_,hq,_⟩:=HR;⟨q,hq⟩;exact nL I (by rw[e];exact True.intro) hs he (Fn z2 hd (rel.put k rv) HR)
def ZZ (prog:Program)(w:World)(A:Around)(kx vx:Expr)(env:Env)(D:Addr)(G:Shared->Prop):Shared->Prop:=wpAny (model prog w) A (eval kx env) (λkv gi=>wpAny (model prog w) A (eval vx env) (λvv nU=>wpAny (model prog w) A (dictSet D kv vv) (λ_ xf=>G xf) (λ_ _=>False) nU) (λ_ _=>False) gi) (λ_ _=>False)
def rf {prog:Program}{w:World}{A:Around}{kx vx tg iter:Expr}{eR:Ξ2}{scope:Scope}{pos:Pos}{it:Value}{D:Addr}{env:Env}:zW prog w A tg eR env it (.DictComp kx vx [⟨tg,iter,eR,0⟩] scope pos) 0 (.ref D) (ZZ prog w A kx vx env D) :=
 nH (compTurn_dict ..) λG R E s h k=>Za (Za (ana h (λkv gi xk=>Za (apa (ana xk (λvv nU xj=>Za (wpAny_standAt (apa (ana xj (λ_ xf DW=>aba (k _ DW)) λ_ _ z=>z.elim)))) λ_ _ z=>z.elim))) λ_ _ z=>z.elim))
section
variable {tk tv:TE}
def pF {RR:Value->Addr->Result->Shared->Prop}
  (B:aH X scope own cap ix) (hc:X.calm)
  (hb:∀C fp s H,PG (cX X scope C (own++cap) fp s H) tg g/\dU (cX X scope C (own++cap) fp s H) eR tt/\PE (cX X scope C (own++cap) fp s H) kx tk/\PE (cX X scope C (own++cap) fp s H) vx tv)
  (I2:Inv X ae σ H2 s2) (T:Turn X.prog X.w X.K tg J fp it tn) (fU:tn 0 s2.heap) (f2:∀b∈fp,eZ X ae H2 b)
  (q:∀acc,H2 acc=none->sX g tt tk tv J acc (dH ↥own ix σ) H2 Q)
  (HQ:∀D C H' s' m,Inv X ae σ H' s'->Q (.ref D) H'->s'.heap.Ns C m->eZ X ae H' C->RR (.ref D) C (.ok .next) s') :
  X∪newDict (λacc iO=>X∪(newFunctionEnv scope X.env.globals (d8 X.env scope.names []) [] X.env.qual none .none ↑X.env) (λkE gi =>
   codeAny (model X.prog X.w) X.A (.compStart (.DictComp kx vx [⟨tg,iter,eR,0⟩] scope pos) 0 (.ref it) acc { kE with scope:=relabel scope X.env }) (RR acc kE.locals) gi) E iO) E s2:=by
 apply aka (zQ (Dq:=λD σ H N=>tk σ H λkx H5=>tv σ H5 λy H6=>∃kvs k,H6 D=↑(.dK kvs)/\kx=kV k/\↥kvs<sizeLine/\N σ (aP H6 D (.dK (d6 kvs k y)))) (ST:=ZZ X.prog X.w X.A kx vx) B hc (λC D=>rf) (λ_ _ _ _=>codeAny_compStart_dict) (λC fp s H=>⟨(hb C fp s H).1,(hb C fp s H).2.1,λD P σ H' s' N G I q k=>?_⟩) I2
  (I2.laid (a:=⇑s2) (o:=.dK []) (h':=s2.heap.push { cls:=.type "dict",data:=.dict #[] }) (t':=s2.toks) (λ_ _ q=>Zn _ q) (Zf _) (G4 s2.heap I2.big)) T fU f2 q HQ)
 apply bH ((hb C fp s H).2.2.1 _ s' σ H' _ I q) λkv R9 h9=>?_
 let⟨yk,Ud,Ub,S6,Lm⟩:=h9;apply bH ((hb C fp s H).2.2.2 _ R9 σ Ud _ Ub Lm) λvv XR h9=>?_
 let⟨yv,H11,NT,U',kvs,k',hk,ek,hz,Ng⟩:=h9;subst ek;exact CM (X:=cX X scope C (own++cap) fp s H) (E:=λ_ _=>False) (A:=X.A) NT hk S6 U' hz λs' I'=>k _ _ _ I' Ng
def Gh (B:aH X scope own cap ix)(hc:X.calm)(hi:PI X tg iter wi)
  (hb:∀C fp s H,PG (cX X scope C (own++cap) fp s H) tg g/\dU (cX X scope C (own++cap) fp s H) eR tt/\PE (cX X scope C (own++cap) fp s H) kx tk/\PE (cX X scope C (own++cap) fp s H) vx tv)
  (hs:∀x,foldedSetIterable iter X.env x=pure x:=by intro _;rfl):PE X (.DictComp kx vx [⟨tg,iter,eR,0⟩] scope pos) (xv wi g tt tk tv ↥own ix):=by
 intro ae s σ H Q I h;rw[arm_eval_DictComp];let has:∀x∈scope.names,x.2=.free->(X.env.cells.lookup x.1).isSome:=λx hx hk=>by
  let⟨c,e⟩:=I.ok.has x.1 (B.frees x hx hk);rw[e];rfl
 apply wpAny_comprehension_free (use:=none) rfl hs (Sk has) B.kind B.names ?_;show wpAny _ _ (eval iter X.env) _ _ s;apply bH (hi ae s σ H _ I h) λv s1 h1=>bH h1 λHI s2 h2=>?_
 let⟨it,fp,tn,J,H2,e,I2,T,fU,f2,q⟩:=h2;subst e;apply pF (RR:=λacc C=>compPost (model X.prog X.w) X.A X.xe none (EP X ae σ Q) acc C) B hc hb I2 T fU f2 q ?_;intro D C H' s' m I' q' hn fC;apply⟨m,hn,λh' ut=>⟨.ref D,H',?_,(),q'⟩⟩;exact I'.turned (t':=s'.toks) (it:=C) (λb o DD e=>(ut.2 b DD).trans e) fC.1 fC.2.1 fC.2.2.2.1 fC.2.2.2.2.1 fC.2.2.2.2.2
end
section
def gk (v a:Addr):HO:=.ext λh=>h.IsValuesView v a
def JK:V->List V->Hp->VK->Prop:=λx xs H Q=>∃a kvs,x=.ref a/\xs=[]/\H a=↑(.dK kvs)/\∀v,H v=none->Q (.ref v) (aP H v (gk v a))
def Ci:YX X "dict.values" JK:=by
 intro ae s σ H x xs v us Q I r rs h;let⟨a,kvs,rfl,rfl,ha,q⟩:=h;cases rs;cases r;let⟨z,hd,vs,rel,dd⟩:=zP I.ca ha;apply call_meetsIn PySem.F.slot_dict_values dd.typeIs PySem.F.entry_dict_values (PySem.F.args_dict_values_1 _) (meets_dict_values (mr X.prog X.w) a hd) ⟨⟨vs,dd⟩,?_⟩;let hv:(s.heap.push { cls:=.type "dict_values",data:=.fields #[.ref a] }).IsValuesView ⇑s a:=⟨_,Z0 _ rfl,(),()⟩;apply⟨.ref ⇑s,_,I.laid (t':=s.toks) (o:=gk ⇑s a) (λ_ _ q=>Zn _ q) (Zf _) ⟨hv,⟨_,Z0 _ rfl⟩,λh1 h2 w1 hk=>?_⟩,(),q _ I.fresh⟩;let⟨o,e,c⟩:=w1;exact⟨o,hk o e,c⟩
def tN (I:Inv X ae σ H s)(ha:Rd H a (.dK kvs)) :
  ↥kvs<=sizeLine/\(a == sysModules)=false/\∃vs ep,KV kvs vs/\s.heap.DictAt (mr X.prog X.w) a vs ep:=by
 let⟨z,hd,vs,rel,o,es,ep,r⟩:=u6 I.ca ha;exact⟨z,hd,vs,ep,rel,o,es,r⟩
theorem AQ:∀{kvs:List (d4×V)}{vs:List (d4×Value)}{us:Δ3},KV kvs vs->↥us=↥vs->(∀(j:Nat) (v:Value),us[j]?=↑v->∃k,vs[j]?=↑(k,v))->bw (kvs.map (·.2)) us
 |_,_,us,.nil,hl,_=>by
  cases us with
  |nil=>exact .nil
  |cons _ _=>simp at hl
 |_,_,us,.cons h hs,hl,hu=>by
  cases us with
  |nil=>simp at hl
  |cons u us =>
   apply .cons ?_ (AQ hs ‹hl› λj v hj=>hu (j+1) v ‹hj›);let⟨k,e⟩:=hu 0 u rfl;simp at e;have:=h.2;rw[e] at this;exact this
def mo (hc:X.calm):cg X (.type "list") (λxs H Q=>∃v a kvs,xs=[.ref v]/\H v=↑(gk v a)/\Rd H a (.dK kvs)/\∀l,H l=none->Q (.ref l) (aP H l (.lst (kvs.map (·.2))))):=by
 intro ae s σ H xs us Q I r h;let⟨v,a,kvs,rfl,hv,ha,q⟩:=h;let⟨u,rfl,rx⟩:=vals1 r;cases rx;let⟨z,hd,vs,ep,rel,at'⟩:=tN I ha;let Es:s.heap.IsValuesView v a:=(I.ca v _ hv).1;let hl:=↥rel;apply PySem.W.kdl_call (PySem.W.kdl_values (knd:=mr X.prog X.w) (kvs:=vs) (ep:=ep) (r:=v) (d:=a)) (I.ok.hd hc) ⟨Es,at'⟩ (by rw[<- hl];exact z) λh' tk acc c' hk hD bV=>?_
 let hvs:bw (kvs.map (·.2)) acc.toList:=AQ rel (by rw[Array.length_toList];exact bV.1) λj x e=>bV.2 j x (by rw[<- Array.getElem?_toList];exact e)
 apply⟨.ref ⇑s,_,I.laid (t':=tk) (o:=.lst (kvs.map (·.2))) hk (Zf _) ⟨by rw[Zb];exact z,acc.toList,c',hvs,?_⟩,(),q _ I.fresh⟩;simpa using hD
def Inv.freeze (I:Inv X ae σ H s)(ha:H a=↑(.dK kvs))(ho:s.heap.get? a=↑o):Inv X ae σ (aP H a (.iK o (.dK kvs))) s:=by
 apply I.write (x:=a) (e:=a) (t':=s.toks) (h':=s.heap) (by rw[ha];exact True.intro) (.inl rfl) (λ_ _ _ e=>e) ⟨o,ho⟩ ⟨ho,?_⟩;let⟨z,hd,vs,rel,dd⟩:=zP I.ca ha;exact⟨z,hd,vs,rel,dd⟩
def RG (h:oj k v):RelV (kV k) v:=by
 rcases Hn h with ⟨i,t,rfl,rfl⟩ |⟨x,t,rfl,rfl⟩
 .exact⟨t,()⟩
 .exact⟨t,()⟩
def YY (a:Addr)(o:Obj)(kvs:List (d4×V)):It :=
 ⟨λi H=>H a=↑(.iK o (.dK kvs))/\i<↥kvs,λi H x H'=>H'=H/\∃k v,kvs[i]?=↑(k,v)/\x=kV k,λi H=>H a=↑(.iK o (.dK kvs))/\↥kvs<=i⟩
def vP (I:Inv X ae σ H s)(hg:H a=↑(.iK o (.dK kvs)))(Ht:o.data=.dict Bn ep) :
  ∃vs,KV kvs vs/\↥vs=↥kvs/\s.heap.DictAt (mr X.prog X.w) a vs ep:=by
 let⟨z,hd,vs,TY,rel,o',es,rP,r⟩:=tN I (.inr ⟨o,hg⟩);let⟨ho,_⟩:=I.ca a _ hg;have:o'=o:=by rw[ho] at rP;exact(aaa rP).symm
 subst this;let h2:=r.2.1;rw[Ht] at h2;injection h2 with _ h2
 subst h2;exact⟨vs,rel,rel.length.symm,o',es,rP,r⟩
def BP {K:Θ1}(a it:Addr)(o:Obj)(kvs:List (d4×V))(Bn:Array DictEntry)(ep:Nat)(Ht:o.data=.dict Bn ep):Turn P w K tg (YY a o kvs) [it] it (λi h=>h.IsKeyIter it a i ↥kvs ep) where
 mem:=by simp
 obj:=λi h st b hb=>by
  obtain rfl:b=it:=by simpa using hb
  let⟨o',e,c,d⟩:=st;exact⟨o',e,λv z=>by rw[d] at z;cases z⟩
 keep:=λi h h' st k=>st.at λo e=>k it (by simp) o e
 item:=by
  intro X hP hw hK hc i ae s σ H E I hf st hg;subst hP hw hK;let⟨hg,hi⟩:=hg;let⟨vs,rel,hl,at'⟩:=vP I hg Ht;let⟨f0,f1,f2,f3,f4,f5⟩:=hf it (by simp);obtain⟨⟨k,v⟩,Sx⟩:∃p,vs[i]?=↑p:=⟨vs[i],by simp[show i<↥vs by omega]⟩;apply wpAny_pyNext_dict_item (by rw[hl];exact st) at' Sx λkey h' uI uj sb=>?_
  let I1:Inv X ae σ H { s with heap:=h' }:=I.turned (t':=s.toks) (λb o hb e=>(sb.2 b hb).trans e) f0 f1 f3 f4 f5;rw[hl] at uj;let⟨o1,e1,c1,d1⟩:=id uj;let hkk:∃v',kvs[i]?=↑(k,v'):=by
   let e2:=rel.keys;let e3:=ata (λl=>l[i]?) e2;simp only[Zo,Sx,Y5] at e3;cases e4:kvs[i]? with
   |none=>rw[e4] at e3;cases e3
   |some p =>
    rw[e4] at e3;simp only[Y5,Option.some.injEq] at e3;exact⟨p.2,by rw[<- e3]⟩
  let⟨v',ω⟩:=hkk;exact⟨key,(),uY (s:={ s with heap:=h' }) e1 c1 d1 ∅ ⟨kV k,H,I1,RG uI,⟨rfl,k,v',ω,rfl⟩,uj,λb hb=>(hf b hb).1⟩⟩
 done:=by
  intro X hP hw hK hc i ae s σ H E I hf st hg;subst hP hw hK;let⟨hg,hi⟩:=hg;let⟨vs,rel,hl,at'⟩:=vP I hg Ht;let⟨f0,f1,f2,f3,f4,f5⟩:=hf it (by simp);exact wpAny_pyNext_dict_end (I.ok.hd hc) (by rw[hl];exact st) at' (by simp;omega) λh' eb=>⟨(),I.turned (t':=s.toks) (λb o hb e=>eb b o hb e) f0 f1 f3 f4 f5⟩
 self:=λ_ _ _ _ _ st h=>wpAny_pyIter_keyiter st h
def WW (td:TE):TI:=λσ H R=>td σ H λx H1=>∃a kvs,x=.ref a/\H1 a=↑(.dK kvs)/\∀o,R (YY a o kvs) (aP H1 a (.iK o (.dK kvs)))
def JW (hl:PE X l td):PI X tg l (WW td):=by
 intro ae s σ H R I h;apply bH (hl ae s σ H _ I h) λv s1 ⟨x,H1,I1,r1,q1⟩=>?_
 let⟨a,kvs,e,ha,q⟩:=q1;subst e;cases r1;let⟨z,hd,vs,ep,rel,o,es,ho,r⟩:=tN I1 (.inl ha);let at':s1.heap.DictAt (mr X.prog X.w) a vs ep:=⟨o,es,ho,r⟩;apply wpAny_pyIter_dict hd at' ?_;let I2:=I1.freeze ha ho;let TC:=↥rel;apply⟨⇑s1,[⇑s1],_,YY a o kvs,_,(),I2.kept (t':=s1.toks) λb o e=>Zn _ e,BP a _ o kvs es ep r.2.1,⟨_,Z0 _ rfl,(),by rw[TC];rfl⟩,λb hb=>?_,q o⟩;obtain rfl:b=⇑s1:=by simpa using hb
 exact I2.jO (Zf _) (I2.ca.fresh (Zf _))
end
end L2
namespace PySem
def va (hT:IsPair s.heap T a b)
  (q:∀g,g.get? T=some { cls:=.type "tuple",data:=.seq ((#[a,b]:Array Value).setIfInBounds k x) }->Heap.SameBut T s.heap g->Q ⟨⟩ { s with heap:=g }):wpAny (model prog w) A (updateSeq T (·.setIfInBounds k x)) Q E s :=
 wpAny_updateSeq_pair hT q
section
def Du (t:h.IsTupleIter it l i)(sb:Heap.ExtBut c h g)(ne:it≠c):g.IsTupleIter it l i:=let ⟨o,e,r⟩:=t;⟨o,sb it o ne e,r⟩
def kI (t:h.IsTuple l v)(sb:Heap.ExtBut c h g)(ne:l≠c):g.IsTuple l v:=let ⟨o,e,r⟩:=t;⟨o,sb l o ne e,r⟩
def BI {Q:Θ2}(D:ZipApart z TI TO i1 i2 l1 l2)(hz:IsZip s.heap z TI TO .none)(pI:IsPair s.heap TI (.ref i1) (.ref i2))(pO:IsPair s.heap TO a b)
  (t1:s.heap.IsTupleIter i1 l1 k1) (t2:s.heap.IsTupleIter i2 l2 k2) (u1:s.heap.IsTuple l1 xs) (u2:s.heap.IsTuple l2 ys) (hx:xs[k1]?=↑x) (hy:ys[k2]?=↑y)
  (q:∀g,IsZip g z TI TO (rawInt ⇑s)->IsPair g TO x y->g.IsTupleIter i1 l1 (k1+1)->g.IsTupleIter i2 l2 (k2+1)->IsPair g ⇑s x y ->
   (∀c o,c≠z->c≠TO->c≠i1->c≠i2->s.heap.get? c=↑o->g.get? c=↑o)->Q (.ref ⇑s) { s with heap:=g }) :
  wpAny (model prog w) A (Builtin.«zip.__next__» ⟨[.ref z],[]⟩) (λj3 s'=>∃v,j3=.done (.ret v)/\Q v s') E s:=by
 show wpAny _ _ (field (.ref z) 2 >>= _) _ _ _;apply Za (aqa hz rfl (x:=.bool false) rfl ?_);show wpAny _ _ (field (.ref z) 3 >>= _) _ _ _;apply Za (aqa hz rfl (x:=.ref TI) rfl (Za (wpAny_seqItems pI rfl ?_)));show wpAny _ _ (Builtin.SmallTypes.ownedTupleIsFree (.ref z) >>= _) _ _ _;apply Za ?_;unfold Builtin.SmallTypes.ownedTupleIsFree;apply Za (aqa hz rfl (x:=.none) rfl (aba ?_));simp only[if_true];apply Za (wpAny_rule (Za (aqa hz rfl (x:=.ref TO) rfl ?_)));apply Za (wpAny_setField_rec hz (by simp) λg1 z1 b1=>?_);replace z1:IsZip g1 z TI TO .ellipsis:=z1;apply Za ?_;simp only[List.zipIdx_cons,List.zipIdx_nil,List.forIn_cons,List.forIn_nil];apply Za (Za (wpAny_onRaise ?_));show wpAny _ _ (Builtin.SmallTypes.nextOf (.ref i1) >>= _) _ _ _;apply Za (ι (Du t1 b1.extBut D.i1z) (kI u1 b1.extBut D.l1z) hx λg2 n1 b2=>aba ?_);let o2:IsPair g2 TO a b:=b2.extBut _ _ D.TOi1 (b1.extBut _ _ D.TOz pO);apply Za (wpAny_seqItems o2 rfl (Za (va o2 λg3 o3 b3=>Za (wpAny_letGo (aba ?_)))))
 replace o3:IsPair g3 TO x b:=o3
 apply Za (Za (wpAny_onRaise ?_));show wpAny _ _ (Builtin.SmallTypes.nextOf (.ref i2) >>= _) _ _ _;apply Za (ι (Du (Du (Du t2 b1.extBut D.i2z) b2.extBut D.i12.symm) b3.extBut D.TOi2.symm) (kI (kI (kI u2 b1.extBut D.l2z) b2.extBut D.l2i1) b3.extBut D.l2TO) hy λg4 n2 b4=>aba ?_);let o4:IsPair g4 TO x b:=b4.extBut _ _ D.TOi2 o3;apply Za (wpAny_seqItems o4 rfl (Za (va o4 λg5 o5 b5=>Za (wpAny_letGo (aba (aba ?_))))))
 replace o5:IsPair g5 TO x y:=o5
 apply Za (wpAny_seqItems o5 rfl (Za (wpAny_newTuple ?_)));let sz:g5.objs.size=⇑s:=by rw[b5.1,b4.1,b3.1,b2.1,b1.1]
 let z5:IsZip g5 z TI TO .ellipsis:=b5.extBut _ _ D.TOz.symm (b4.extBut _ _ D.i2z.symm (b3.extBut _ _ D.TOz.symm (b2.extBut _ _ D.i1z.symm z1)));let k5:∀c o,c≠z->c≠TO->c≠i1->c≠i2->s.heap.get? c=↑o->g5.get? c=↑o:=λc o e1 e2 e3 e4 e=>b5.extBut _ _ e2 (b4.extBut _ _ e4 (b3.extBut _ _ e2 (b2.extBut _ _ e3 (b1.extBut _ _ e1 e))))
 let m1:g5.IsTupleIter i1 l1 (k1+1):=Du (Du (Du n1 b3.extBut D.TOi1.symm) b4.extBut D.i12) b5.extBut D.TOi1.symm;let m2:g5.IsTupleIter i2 l2 (k2+1):=Du n2 b5.extBut D.TOi2.symm;let zlt:z<g5.objs.size:=Zq z5;show wpAny _ _ (Builtin.SmallTypes.ownedTupleHandOut (.ref z) (.ref g5.objs.size) >>= _) _ _ _;apply Za ?_;unfold Builtin.SmallTypes.ownedTupleHandOut;let z6:IsZip (g5.push { cls:=.type "tuple",data:=.seq #[x,y] }) z TI TO .ellipsis:=Zn _ z5;apply Za (wpAny_setField_rec z6 (by simp) λg7 z7 b7=>?_);replace z7:IsZip g7 z TI TO (rawInt g5.objs.size):=z7;apply wpAny_setField_rec z7 (by simp) λg8 z8 b8=>?_;replace z8:IsZip g8 z TI TO (rawInt g5.objs.size):=z8
 let up:∀c o,c≠z->g5.get? c=↑o->g8.get? c=↑o:=λc o e1 e=>b8.extBut _ _ e1 (b7.extBut _ _ e1 (Zn _ e))
 let p8:IsPair g8 g5.objs.size x y:=b8.extBut _ _ (Xw zlt) (b7.extBut _ _ (Xw zlt) (Z0 _ rfl));rw[sz] at z8 p8;apply aba ⟨_,(),?_⟩;show Q (.ref g5.objs.size) _;rw[sz];exact q g8 z8 (up _ _ D.TOz o5) (let ⟨o,e,r⟩:=m1;⟨o,up _ o D.i1z e,r⟩) (let ⟨o,e,r⟩:=m2;⟨o,up _ o D.i2z e,r⟩) p8 λc o e1 e2 e3 e4 e=>up c o e1 (k5 c o e1 e2 e3 e4 e)
def BH (hh:A.handled=none)(D:ZipApart z TI TO i1 i2 l1 l2)(hz:IsZip s.heap z TI TO .none)(pI:IsPair s.heap TI (.ref i1) (.ref i2))(pO:IsPair s.heap TO a b)
  (t1:s.heap.IsTupleIter i1 l1 k1) (t2:s.heap.IsTupleIter i2 l2 k2) (u1:s.heap.IsTuple l1 xs) (u2:s.heap.IsTuple l2 ys) (hx:xs[k1]?=none)
  (q:∀g e,(∀c o,c≠z->c≠TO->c≠i1->c≠i2->s.heap.get? c=↑o->g.get? c=↑o)->(∃o,g.get? e=↑o/\o.cls=.type "StopIteration")->E (.ref e) { s with heap:=g }) :
  wpAny (model prog w) A (Builtin.«zip.__next__» ⟨[.ref z],[]⟩) Q E s:=by
 show wpAny _ _ (field (.ref z) 2 >>= _) _ _ _;apply Za (aqa hz rfl (x:=.bool false) rfl ?_);show wpAny _ _ (field (.ref z) 3 >>= _) _ _ _;apply Za (aqa hz rfl (x:=.ref TI) rfl (Za (wpAny_seqItems pI rfl ?_)));show wpAny _ _ (Builtin.SmallTypes.ownedTupleIsFree (.ref z) >>= _) _ _ _;apply Za ?_;unfold Builtin.SmallTypes.ownedTupleIsFree;apply Za (aqa hz rfl (x:=.none) rfl (aba ?_));simp only[if_true];apply Za (wpAny_rule (Za (aqa hz rfl (x:=.ref TO) rfl ?_)));apply Za (wpAny_setField_rec hz (by simp) λg1 z1 b1=>?_);replace z1:IsZip g1 z TI TO .ellipsis:=z1;apply Za ?_;simp only[List.zipIdx_cons,List.zipIdx_nil,List.forIn_cons,List.forIn_nil];apply Za (Za (wpAny_onRaise ?_));show wpAny _ _ (Builtin.SmallTypes.nextOf (.ref i1) >>= _) _ _ _;apply Za (η hh (Du t1 b1.extBut D.i1z) (kI u1 b1.extBut D.l1z) hx λg2 e b2 ⟨oe,he,ce⟩=>?_);let z2:IsZip g2 z TI TO .ellipsis:=b2 _ _ D.i1z.symm z1;let ez:e≠z:=λh=>by subst h;rw[z2] at he;cases he;simp at ce
 exact wpAny_setField_rec z2 (by simp) λg3 _ b3=>q g3 e (λc o e1 _ e3 _ h=>b3.extBut _ _ e1 (b2 _ _ e3 (b1.extBut _ _ e1 h))) ⟨oe,b3.extBut _ _ ez he,ce⟩
def v8 (D:ZipApart z TI TO i1 i2 l1 l2)(hz:IsZip s.heap z TI TO .none)(pI:IsPair s.heap TI (.ref i1) (.ref i2))(pO:IsPair s.heap TO a b)
  (t1:s.heap.IsTupleIter i1 l1 k1) (t2:s.heap.IsTupleIter i2 l2 k2) (u1:s.heap.IsTuple l1 xs) (u2:s.heap.IsTuple l2 ys) (hx:xs[k1]?=↑x) (hy:ys[k2]?=↑y)
  (q:∀g,IsZip g z TI TO (rawInt ⇑s)->IsPair g TO x y->g.IsTupleIter i1 l1 (k1+1)->g.IsTupleIter i2 l2 (k2+1)->IsPair g ⇑s x y ->
   (∀c o,c≠z->c≠TO->c≠i1->c≠i2->s.heap.get? c=↑o->g.get? c=↑o)->Q ↑(.ref ⇑s) { s with heap:=g }):wpAny (model prog w) A (pyNext (.ref z)) Q E s:=by
 let ty:s.TypeIs (.ref z) "zip":=⟨_,hz,()⟩;unfold pyNext;exact Za (wpAny_attempt (wpAny_callSpecial?_slot (name:=Str.ofString "__next__") ty F.slot_zip_next (aoa F.slot_zip_next ty F.entry_zip_next
  (BI D hz pI pO t1 t2 u1 u2 hx hy λg a1 a2 a3 a4 a5 a6=>aba (q g a1 a2 a3 a4 a5 a6)) (F.args_zip_next_1 _))))
def mZ (hh:A.handled=none)(D:ZipApart z TI TO i1 i2 l1 l2)(hz:IsZip s.heap z TI TO .none)(pI:IsPair s.heap TI (.ref i1) (.ref i2))(pO:IsPair s.heap TO a b)
  (t1:s.heap.IsTupleIter i1 l1 k1) (t2:s.heap.IsTupleIter i2 l2 k2) (u1:s.heap.IsTuple l1 xs) (u2:s.heap.IsTuple l2 ys) (hx:xs[k1]?=none)
  (q:∀g,(∀c o,c≠z->c≠TO->c≠i1->c≠i2->s.heap.get? c=↑o->g.get? c=↑o)->Q none { s with heap:=g }):wpAny (model prog w) A (pyNext (.ref z)) Q E s:=by
 let ty:s.TypeIs (.ref z) "zip":=⟨_,hz,()⟩;unfold pyNext;exact Za (wpAny_attempt (wpAny_callSpecial?_slot (name:=Str.ofString "__next__") ty F.slot_zip_next (aoa F.slot_zip_next ty F.entry_zip_next
  (BH hh D hz pI pO t1 t2 u1 u2 hx λg e hk ⟨o,ho,hc⟩=>Za (wpAny_isInstance (T:="StopIteration") (b:=true) ⟨o,ho,hc⟩ isSubtype_stop (aba (q _ hk)))) (F.args_zip_next_1 _))))
end
abbrev SR (h:Heap)(l1:Addr):Heap:=h.push { cls:=.type "tuple_iterator",data:=.fields #[.ref l1,.int 0 0] }
abbrev XH (h:Heap)(l1 l2:Addr):Heap:=(SR h l1).push { cls:=.type "tuple_iterator",data:=.fields #[.ref l2,.int 0 0] }
abbrev XG (h:Heap)(l1 l2:Addr):Heap:=(XH h l1 l2).push { cls:=.type "tuple",data:=.seq #[.ref h.objs.size,.ref (SR h l1).objs.size] }
abbrev XF (h:Heap)(l1 l2:Addr):Heap:=(XG h l1 l2).push { cls:=.type "tuple",data:=.seq #[.none,.none] }
abbrev R4 (h:Heap)(l1 l2:Addr):Heap:=(XF h l1 l2).push { cls:=.type "zip",data:=.fields #[.none,.bool false,.bool false,.ref (XH h l1 l2).objs.size,.ref (XG h l1 l2).objs.size] }
def ym (l1 l2:Addr)(xs ys:Array Value):Meets (Builtin.«zip.__new__» ⟨[.type "zip",.ref l1,.ref l2],[]⟩) (λ_ R s=>s.heap.IsTuple l1 xs/\s.heap.IsTuple l2 ys/\R (.ok (.ret (.ref (XF s.heap l1 l2).objs.size))) { s with heap:=R4 s.heap l1 l2 }) :=
 .of_wp λprog w A R s h=>by
  let⟨hp,g,d,tk,os⟩:=s;let⟨v1,v2,h⟩:=h;let acR:=sub_zip;let w1:Heap.IsTuple (Shared.heap ⟨hp,g,d,tk,os⟩) l1 xs:=v1;let w2:Heap.IsTuple (Shared.heap ⟨SR hp l1,g,d,tk,os⟩) l2 ys:=let ⟨o,e,r⟩:=v2;⟨o,Zn _ e,r⟩
  wp_walk using wpAny_pyIter_tuple w1,wpAny_pyIter_tuple w2
  exact⟨_,(),h⟩
def CQ (v1:s.heap.IsTuple l1 xs)(v2:s.heap.IsTuple l2 ys)
  (q:∀g,IsZip g (⇑s+4) (⇑s+2) (⇑s+3) .none->IsPair g (⇑s+2) (.ref ⇑s) (.ref (⇑s+1))->IsPair g (⇑s+3) .none .none ->
   g.IsTupleIter ⇑s l1 0->g.IsTupleIter (⇑s+1) l2 0->(∀c o,s.heap.get? c=↑o->g.get? c=↑o)->Q (.ref (⇑s+4)) { s with heap:=g }):wpAny (model prog w) A (call (.type "zip") [.ref l1,.ref l2]) Q E s:=by
 apply callType_new F.called_zip ∅ (F.typeCall_zip_2 _ _) (F.newCall_zip_2 _ _) (λobj=>F.args_object_init_3 obj _ _) F.entry_zip_new (ym l1 l2 xs ys) ⟨v1,v2,?_⟩;let e1:(SR s.heap l1).objs.size=⇑s+1:=Y7 ..;let e2:(XH s.heap l1 l2).objs.size=⇑s+2:=by rw[Y7,e1]
 let e3:(XG s.heap l1 l2).objs.size=⇑s+3:=by rw[Y7,e2]
 let e4:(XF s.heap l1 l2).objs.size=⇑s+4:=by rw[Y7,e3]
 let p5:(R4 s.heap l1 l2).get? (XF s.heap l1 l2).objs.size=↑_:=Z0 _ rfl;let p4:(R4 s.heap l1 l2).get? (XG s.heap l1 l2).objs.size=↑_:=Zn _ (Z0 _ rfl);let p3:(R4 s.heap l1 l2).get? (XH s.heap l1 l2).objs.size=↑_:=Zn _ (Zn _ (Z0 _ rfl));let p2:(R4 s.heap l1 l2).get? (SR s.heap l1).objs.size=↑_:=Zn _ (Zn _ (Zn _ (Z0 _ rfl)));let p1:(R4 s.heap l1 l2).get? ⇑s=↑_:=Zn _ (Zn _ (Zn _ (Zn _ (Z0 _ rfl))));show _/\_;rw[e2,e3,e4] at p5;rw[e1,e2] at p3;rw[e3] at p4;rw[e1] at p2;rw[e4];exact⟨⟨_,p5,()⟩,q _ p5 p3 p4 ⟨_,p1,(),()⟩ ⟨_,p2,(),()⟩ λc o h=>Zn _ (Zn _ (Zn _ (Zn _ (Zn _ h))))⟩
end PySem
namespace L2
open PySem.Spec PyProof.Rows
section
def SQ (K:Θ1)(a b:Addr):It :=
 ⟨λi H=>∃xs ys x y,aN K H a xs/\aN K H b ys/\xs[i]?=↑x/\ys[i]?=↑y,
  λi H v H'=>∃p,H p=none/\v=.ref p/\∀xs ys,aN K H a xs->aN K H b ys->∃x y,xs[i]?=↑x/\ys[i]?=↑y/\H'=aP H p (.tup [x,y]),
  λi H=>∃xs ys,aN K H a xs/\aN K H b ys/\↥xs<=i⟩
def Fy {K:Θ1}(a b z TI TO i1 i2:Addr)(D:ZipApart z TI TO i1 i2 a b) :
  Turn P w K (.Tuple uK kk pos) (SQ K a b) [z,TI,TO,i1,i2] z (λi h=>IsZip h z TI TO .none/\IsPair h TI (.ref i1) (.ref i2)/\(∃u v,IsPair h TO u v)/\h.IsTupleIter i1 a i/\h.IsTupleIter i2 b i) where
 mem:=by simp
 obj:=λi h st c hc=>by
  let⟨hz,pI,⟨u,v,pO⟩,⟨o1,e1,c1,d1⟩,o2,e2,c2,d2⟩:=st;simp only[Zj,Q6,or_false] at hc;rcases hc with rfl |rfl |rfl |rfl |rfl
  .exact⟨_,hz,λv z=>by cases z⟩
  .exact⟨_,pI,λv z=>by cases z⟩
  .exact⟨_,pO,λv z=>by cases z⟩
  .exact⟨o1,e1,λv z=>by rw[d1] at z;cases z⟩
  .exact⟨o2,e2,λv z=>by rw[d2] at z;cases z⟩
 keep:=λi h h' st k=>by
  let⟨hz,pI,⟨u,v,pO⟩,⟨o1,e1,r1⟩,o2,e2,r2⟩:=st;exact⟨k z (by simp) _ hz,k TI (by simp) _ pI,⟨u,v,k TO (by simp) _ pO⟩,⟨o1,k i1 (by simp) _ e1,r1⟩,o2,k i2 (by simp) _ e2,r2⟩
 item:=by
  intro X hP hw hK hc i ae s σ H E I hf st hg;subst hP hw hK;let⟨xs,ys,x,y,LA,Sn,hx,hy⟩:=hg;let⟨us,ru,pu,zu⟩:=I.tuple LA;let⟨vs,rv,pv,zv⟩:=I.tuple Sn;let⟨u,hu,rxu⟩:=ru.get hx;let⟨v,hv,ryv⟩:=rv.get hy;let⟨hz,pI,⟨u0,v0,pO⟩,t1,t2⟩:=st;apply v8 D hz pI pO t1 t2 (show s.heap.IsTuple a us.toArray from pu) (show s.heap.IsTuple b vs.toArray from pv) (x:=u) (y:=v) ‹hu› ‹hv› λg z1 o1 n1 n2 p1 hk=>?_
  apply⟨_,(),?_⟩;apply wpAny_letOwnedTupleGo_zip z1 λg2 z2 b2=>?_
  replace b2:Heap.SameBut z g g2:=b2
  let lt:∀{c o},s.heap.get? c=↑o->⇑s≠c:=λe=>Xw (Zq e)
  let bF:⇑s≠z:=lt hz;let I1:Inv X ae σ H { s with heap:=g2,toks:=s.toks }:=I.jo (ch:=[z,TI,TO,i1,i2]) (λc o hc q=>by
   let c1:c≠z:=λh=>hc (by simp[h])
   exact b2.extBut c o c1 (hk c o c1 (λh=>hc (by simp[h])) (λh=>hc (by simp[h])) (λh=>hc (by simp[h])) q)) hf
  let p2:=b2.extBut _ _ bF p1;let fp:eZ X ae H ⇑s:=I.jO (Zf _) I.fresh;let I2:=I1.D9 (p:=⇑s) (o:=.tup [x,y]) fp ⟨by show 2<=sizeLine;decide,[u,v],.cons rxu (.cons ryv .nil),⟨_,p2,(),_,()⟩⟩;apply⟨.ref ⇑s,_,I2,(),⟨_,I.fresh,(),λys1 ys2 h1 h2=>?_⟩,⟨z2,b2.extBut _ _ D.TIz (hk _ _ D.TIz D.TITO D.TIi1 D.TIi2 pI),⟨_,_,b2.extBut _ _ D.TOz o1⟩,Du n1 b2.extBut D.i1z,Du n2 b2.extBut D.i2z⟩,λc hc=>?_⟩
  .rw[I.jA h1 LA,I.jA h2 Sn];exact⟨x,y,hx,hy,()⟩
  .rw[dE]
   .exact(hf c hc).1
   .simp only[Zj,Q6,or_false] at hc;rcases hc with rfl |rfl |rfl |rfl |rfl
    .exact bF.symm
    .exact(lt pI).symm
    .exact(lt pO).symm
    .obtain⟨_,e,_⟩:=t1;exact(lt e).symm
    .obtain⟨_,e,_⟩:=t2;exact(lt e).symm
 done:=by
  intro X hP hw hK hc i ae s σ H E I hf st hg;subst hP hw hK;let⟨xs,ys,LA,Sn,hx⟩:=hg;let⟨us,ru,pu,zu⟩:=I.tuple LA;let⟨vs,rv,pv,zv⟩:=I.tuple Sn;let⟨hz,pI,⟨u0,v0,pO⟩,t1,t2⟩:=st;let hl:=↥ru;exact mZ (I.ok.hd hc) D hz pI pO t1 t2 (show s.heap.IsTuple a us.toArray from pu) (show s.heap.IsTuple b vs.toArray from pv) (by simp;omega) λg hk =>
   ⟨(),I.jo (t':=s.toks) (ch:=[z,TI,TO,i1,i2]) (λc o hc q=>hk c o (λh=>hc (by simp[h])) (λh=>hc (by simp[h])) (λh=>hc (by simp[h])) (λh=>hc (by simp[h])) q) hf⟩
 self:=λA i s Q E st h=>wpAny_pyIter_zip st.1 h
def acN (K:Θ1)(ta:TA):TI:=λσ H R=>ta σ H λvs H1=>∃a b,vs=[.ref a,.ref b]/\(∃xs,aN K H1 a xs)/\(∃ys,aN K H1 b ys)/\R (SQ K a b) H1
end
end L2
namespace L2
open PySem.Spec PyProof.Rows KG
abbrev g2 (K:Θ1):TG:=Oy K 2 (Ev (fu 0) (Ev (fu 1) Vn))
def S2 (au σ:St):Prop:=∀u v,(σ.set 0 u).set 1 v=(au.set 0 u).set 1 v
def S2.of:S2 au ((au.set 0 u).set 1 v):=λu' v'=>by
 match au with
 |[]=>rfl
 |[_]=>rfl
 |_::_::_=>rfl
def LL (au:St)(acc:Addr)(P:List V->Hp->Prop)(σ:St)(H:Hp):Prop:=S2 au σ/\∃ys,H acc=↑(.lst ys)/\P ys H
def LL.of (h:H acc=↑(.lst ys))(p:P ys H):LL au acc P ((au.set 0 u).set 1 v) H:=⟨S2.of,ys,h,p⟩
def LK (au:St)(acc:Addr)(P:List (d4×V)->Hp->Prop)(σ:St)(H:Hp):Prop:=S2 au σ/\∃ys,H acc=↑(.dK ys)/\P ys H
def LK.of (h:H acc=↑(.dK ys))(p:P ys H):LK au acc P ((au.set 0 u).set 1 v) H:=⟨S2.of,ys,h,p⟩
def Ax {K:Θ1}(wV:S2 au σ)(hp:H p=none)(h:∀H1,az H H1->Z ((au.set 0 ↑x).set 1 ↑y) H1):g2 K (.ref p) σ (aP H p (.tup [x,y])) Z:=by
 apply⟨p,_,(),aN.of eC,(),_,_,(),_,_,(),(),?_⟩;show Z ((σ.set 0 ↑x).set 1 ↑y) _;rw[wV];exact h _ ((az.refl H).new hp)
section
variable {K:Θ1}{te tk tv:TE}
def CN (Pv:Nat->List V->Hp->Prop)(h0:Pv 0 [] (aP dw acc (.lst [])))(hl:∀(i:Nat) zs H,i<=↥xs->H acc=↑(.lst zs)->Pv i zs H->aN K H a xs)
  (hs:∀(i:Nat) x zs H H1,xs[i]?=↑x->H acc=↑(.lst zs)->Pv i zs H->az H H1->tt ((au.set 0 ↑(.int i)).set 1 ↑x) H1 λb H4 =>
   if b=true then te ((au.set 0 ↑(.int i)).set 1 ↑x) H4 λy H5=>∃us,H5 acc=↑(.lst us)/\↥us<sizeLine/\LL au acc (Pv (i+1)) ((au.set 0 ↑(.int i)).set 1 ↑x) (aP H5 acc (.lst (us++[y])))
   else LL au acc (Pv (i+1)) ((au.set 0 ↑(.int i)).set 1 ↑x) H4)
  (hd:∀zs H,H acc=↑(.lst zs)->Pv ↥xs zs H->Q (.ref acc) H):hV (g2 K) tt te (DJ K a) acc au dw Q:=by
 apply⟨λi m σ H=>m=↥xs-i/\i<=↥xs/\LL au acc (Pv i) σ H,⟨↥xs,by simp,Z9 _,λ_ _=>rfl,[],eC,h0⟩,?_⟩;rintro i m σ H ⟨rfl,hi,wV,zs,hy,p⟩;let q:=hl i zs H hi hy p;by_cases cN:i<↥xs
 .apply .inr ⟨⟨xs,xs[i],q,by simp[cN]⟩,LL au acc (Pv (i+1)),λaO H' c=>⟨↥xs-(i+1),⋯,(),cN,c⟩,λx H' y=>?_⟩;let⟨pp,hp,rfl,Tq⟩:=y;let⟨z,hz,rfl⟩:=Tq xs q;exact Ax wV hp λH1 s1=>hs i z zs H H1 hz hy p s1
 .let e:i=↥xs:=⋯;subst e;exact .inl ⟨⟨xs,q,Zf _⟩,hd zs H hy p⟩
def CO (Pv:Nat->List V->Hp->Prop)(h0:Pv 0 [] (aP dw acc (.lst [])))(hl:∀(i:Nat) zs H,i<=↥kvs->H acc=↑(.lst zs)->Pv i zs H->H a=↑(.iK o (.dK kvs)))
  (hs:∀(i:Nat) k v zs H,kvs[i]?=↑(k,v)->H acc=↑(.lst zs)->Pv i zs H->tt (au.set 0 ↑(kV k)) H λb H4 =>
   if b=true then te (au.set 0 ↑(kV k)) H4 λy H5=>∃us,H5 acc=↑(.lst us)/\↥us<sizeLine/\Cn au acc (Pv (i+1)) (au.set 0 ↑(kV k)) (aP H5 acc (.lst (us++[y]))) else Cn au acc (Pv (i+1)) (au.set 0 ↑(kV k)) H4)
  (hd:∀zs H,H acc=↑(.lst zs)->Pv ↥kvs zs H->Q (.ref acc) H):hV (fu 0) tt te (YY a o kvs) acc au dw Q:=by
 apply⟨λi m σ H=>m=↥kvs-i/\i<=↥kvs/\Cn au acc (Pv i) σ H,⟨↥kvs,by simp,Z9 _,λ_=>rfl,[],eC,h0⟩,?_⟩;rintro i m σ H ⟨rfl,hi,wV,zs,hy,p⟩;let q:=hl i zs H hi hy p;by_cases cN:i<↥kvs
 .apply .inr ⟨⟨q,cN⟩,Cn au acc (Pv (i+1)),λaO H' c=>⟨↥kvs-(i+1),⋯,(),cN,c⟩,λx H' y=>?_⟩;let⟨e,k,v,hk,ek⟩:=y;subst e ek;show tt (σ.set 0 _) _ _;rw[wV];exact hs i k v zs _ hk hy p
 .let e:i=↥kvs:=⋯;subst e;exact .inl ⟨⟨q,Zf _⟩,hd zs H hy p⟩
def yJ (Pv:Nat->List (d4×V)->Hp->Prop)(h0:Pv 0 [] (aP dw acc (.dK [])))(hl:∀(i:Nat) zs H,i<=↥xs->H acc=↑(.dK zs)->Pv i zs H->aN K H a xs)
  (hs:∀(i:Nat) x zs H H1,xs[i]?=↑x->H acc=↑(.dK zs)->Pv i zs H->az H H1->tt ((au.set 0 ↑(.int i)).set 1 ↑x) H1 λb H4 =>
   if b=true then tk ((au.set 0 ↑(.int i)).set 1 ↑x) H4 λkx H5=>tv ((au.set 0 ↑(.int i)).set 1 ↑x) H5 λy H6=>∃us k,H6 acc=↑(.dK us)/\kx=kV k/\↥us<sizeLine/\LK au acc (Pv (i+1)) ((au.set 0 ↑(.int i)).set 1 ↑x) (aP H6 acc (.dK (d6 us k y)))
   else LK au acc (Pv (i+1)) ((au.set 0 ↑(.int i)).set 1 ↑x) H4)
  (hd:∀zs H,H acc=↑(.dK zs)->Pv ↥xs zs H->Q (.ref acc) H):sX (g2 K) tt tk tv (DJ K a) acc au dw Q:=by
 apply⟨λi m σ H=>m=↥xs-i/\i<=↥xs/\LK au acc (Pv i) σ H,⟨↥xs,by simp,Z9 _,λ_ _=>rfl,[],eC,h0⟩,?_⟩;rintro i m σ H ⟨rfl,hi,wV,zs,hy,p⟩;let q:=hl i zs H hi hy p;by_cases cN:i<↥xs
 .apply .inr ⟨⟨xs,xs[i],q,by simp[cN]⟩,LK au acc (Pv (i+1)),λaO H' c=>⟨↥xs-(i+1),⋯,(),cN,c⟩,λx H' y=>?_⟩;let⟨pp,hp,rfl,Tq⟩:=y;let⟨z,hz,rfl⟩:=Tq xs q;exact Ax wV hp λH1 s1=>hs i z zs H H1 hz hy p s1
 .let e:i=↥xs:=⋯;subst e;exact .inl ⟨⟨xs,q,Zf _⟩,hd zs H hy p⟩
end
section
end
end L2
namespace KM
open L2 KG EX
def boot_zip:bootBuiltins "zip"=↑(.type "zip"):=by first |rfl |kernel_rfl |decide+kernel
def zh:Sp:=λvs H Q _=>∃(b p pa pp pw:Addr) (xa xp xw:List V) (am pu wi:Ξ1),vs=[.ref p]/\eN b H p pa pp pw xa xp xw am pu wi/\∀(q:Addr) (H':Hp),az H H'->H' q=↑(.tup (Hi ↥xa (rowsOf wi)))->Q (.ref q) H'
def Ec:Sp:=λvs H Q _=>∃(l:Addr) (ys:List V) (qs:Δ1),vs=[.ref l]/\H l=↑(.lst ys)/\mB H ys qs/\qs≠[]/\(∀q∈qs,Rb 32000000 q)/\∀(a:Addr) (q:Rat),H a=↑(qO q)->q∈qs->(∀z∈qs,z<=q)->Q (.ref a) H
def tL (h:mB H ys qs){i:Nat}(hy:ys[i]?=↑y):∃(a:Addr) (q:Rat),y=.ref a/\H a=↑(qO q)/\qs[i]?=↑q:=by
 let⟨a,e,z⟩:=h.2 i y hy;let hi:i<↥qs:=by rw[<- h.1];exact(Zg.mp hy).1
 apply⟨a,qs[i],e,?_,Zc hi⟩;have:qs\i=qs[i]:=by simp[List.getD,Zc hi]
 rw[this] at z;exact z
def Uv:Sp:=λvs H Q _=>∃(r q:Addr) (ns:Γ3) (ys:List V) (qs:Δ1),vs=[.ref r,.ref q]/\H r=↑(.tup (ns.map V.int))/\H q=↑(.tup ys)/\mB H ys qs/\↥ns=↥qs/\↥ns<=6/\(∀k∈ns,0<=k/\k<=100)/\(∀z∈qs,Rb 2010007 z) /\
 (∀j,0<ns\j->0<qs\j)/\∀(t:Addr) (H':Hp),az H H'->H' t=↑(.tup (df (aV ns qs)))->Q (.ref t) H'
def ss:Sp:=λvs H Q _=>∃(n:Int) (q:Addr) (x:Rat),vs=[.int n,.ref q]/\H q=↑(qO x)/\Rb 2010007 x/\0<x/\0<=n/\n<=100/\∀(t:Addr) (H':Hp),az H H'->H' t=↑(qO ((n:Rat) / x))->Q (.ref t) H'
def Us:Sp:=λvs H Q _=>∃(pb pg:Addr) (xs:List V) (M:Γ1) (gs:List Nat),vs=[.ref pb,.ref pg]/\H pb=↑(.tup xs)/\rR H xs M/\H pg=↑(.tup (df gs))/\↥M<=6/\(∀r∈M,↥r<=6) /\
 ∀(r:Addr) (H':Hp),az H H'->H' r=↑(.tup (df ((~~~↥M).filter λi=>b9 gs (M∩i))))->Q (.ref r) H'
def EH (Pr:Addr):Sp:=λvs H Q E=>∃(b p pa pp pw:Addr) (xa xp xw:List V) (am pu wi:Ξ1) (v:V) (d:PyData),vs=[.ref p,v]/\eN b H p pa pp pw xa xp xw am pu wi/\fX b H v d /\
 (eV ↥xa (rowsOf wi) d=false->∀H',az H H'->E (.ref Pr) none H')/\(eV ↥xa (rowsOf wi) d->∀H',az H H'->Q .cj H')
def Fl (p q:Rat):PyData.eqv (qD p) (qD q)=decide (p=q):=by
 unfold qD;simp only[PyData.eqv,PyData.eqvAll];rw[Ya];simp;constructor
 .rintro⟨h1,h2⟩;exact Rat.ext h1 ⋯
 .rintro rfl;exact⟨(),()⟩
def L8 (h:H a=↑(qO q)):ng K H (.ref a) (qD q):=(fX.tup (b:=a+1) h (.cons (.int _) (.cons (.int _) .nil))).dt
def eX (ns:Γ3)(i:Nat):List Nat:=(~~~i).filter λj=>decide (0<ns\j)
def eh (ns:Γ3)(qs:Δ1)(j:Nat):Rat:=((ns.getD j 0:Int):Rat) / (qs\j)
def jE (ns:Γ3)(i:Nat):eX ns (i+1)=eX ns i++if 0<ns\i then [i] else []:=by
 unfold eX;rw[Xb,Xp]
 grind
def tu (h:j∈eX ns i):j<i/\0<ns\j:=by
 unfold eX at h;rw[Ze] at h;exact⟨by simpa using h.1,by simpa using h.2⟩
def vn (ns:Γ3)(i:Nat):↥(eX ns i)<=i:=by
 unfold eX;exact Zl (Y3 _ _) (by simp)
def yc (ns:Γ3)(i:Nat):(eX ns i).Nodup:=(X0).sublist Zu
def nY (j:Nat):d4:=.inl (j:Int)
def vK (h:nY i=nY j):i=j:=by unfold nY at h;injection h with h;omega
structure uw (ns:Γ3)(qs:Δ1)(i:Nat)(kvs:List (d4×V))(H:Hp):Prop where
 ks:kvs.map (·.1)=(eX ns i).map nY
 fr:mB H (kvs.map (·.2)) ((eX ns i).map (eh ns qs))
def uw.len (h:uw ns qs i kvs H):↥kvs=↥(eX ns i):=by
 have:=ata List.length h.ks;simpa using this
def uw.ay (h:uw ns qs i kvs H)(s:az H H'):uw ns qs i kvs H':=⟨h.ks,h.fr.ay s⟩
def uw.tm (h:uw ns qs i kvs H)(s:Tm H H'):uw ns qs i kvs H':=⟨h.ks,h.fr.tm s⟩
def BN {k:d4}(h:k∉kvs.map (·.1)):eK kvs k=none:=by
 cases e:eK kvs k with
 |none=>rfl
 |some v=>exact afa (zX e) h
def uw.put {qs:Δ1}(h:uw ns qs i kvs H)(hp:0<ns\i)(ha:H a=↑(qO (eh ns qs i))):uw ns qs (i+1) (d6 kvs (nY i) (.ref a)) H:=by
 let hn:nY i∉kvs.map (·.1):=by
  rw[h.ks];intro z;let⟨j,hj,e⟩:=Zd.mp z;have:=(tu hj).1;have:=vK e;omega
 rw[oR _ (BN hn)];apply⟨?_,?_⟩
 .rw[Zs,h.ks,jE,aha hp,Zs];rfl
 .rw[Zs,jE,aha hp,Zs];exact h.fr.app ha
def uw.skip (h:uw ns qs i kvs H)(hp:¬ 0<ns\i):uw ns qs (i+1) kvs H:=by
 apply⟨?_,?_⟩
 .rw[jE,aga hp,Yn];exact h.ks
 .rw[jE,aga hp,Yn];exact h.fr
theorem uw.at {n i:Nat}{kvs:List (d4×V)}(h:uw ns qs n kvs H)(e:kvs[i]?=↑(k,v)):∃(j:Nat) (a:Addr),(eX ns n)[i]?=↑j/\k=nY j/\v=.ref a/\H a=↑(qO (eh ns qs j))/\eK kvs k=↑v:=by
 let e1:=ata (λl=>l[i]?) h.ks;simp only[Zo,e,Y5] at e1;cases ej:(eX ns n)[i]? with
 |none=>rw[ej] at e1;cases e1
 |some j =>
  rw[ej] at e1;simp only[Y5,Option.some.injEq] at e1;let e2:(kvs.map (·.2))[i]?=↑v:=by rw[Zo,e];rfl
  let⟨a,q,ea,hq,eq⟩:=tL h.fr e2;rw[Zo,ej] at eq;simp only[Y5,Option.some.injEq] at eq;apply⟨j,a,(),e1,ea,by rw[eq];exact hq,?_⟩;let nd:(kvs.map (·.1)).Nodup:=by
   rw[h.ks];exact(yc ns n).map _ λ_ _ SA z=>SA (vK z)
  clear e1 ej e2 ea hq eq h
  induction kvs generalizing i with
  |nil=>simp at e
  |cons p r ih =>
   rw[Zm,Yc] at nd;cases i with
   |zero =>
    let e':p=(k,v):=by simpa using e
    rw[e'];exact gH rfl
   |succ i =>
    let e':r[i]?=↑(k,v):=by simpa using e
    let hm:k∈r.map (·.1):=Zd.mpr ⟨(k,v),Z1 e',()⟩;rw[gI (λz=>nd.1 (by rw[z];exact hm))];exact ih e' nd.2
def Ap (hg:0<qs\g)(ho:0<qs\o):(eh ns qs g<eh ns qs o)↔(((ns.getD g 0:Int):Rat)*(qs\o)<((ns.getD o 0:Int):Rat)*(qs\g)):=by
 unfold eh;generalize ((ns.getD g 0:Int):Rat)=a;generalize ((ns.getD o 0:Int):Rat)=b;generalize qs.getD g 0=x at hg ⊢;generalize qs.getD o 0=y at ho ⊢;let hxy:(0:Rat)<x*y:=Xj hg ho;rw[<- Rat.mul_lt_mul_left hxy];let hx:x≠0:=λz=>by rw[z] at hg;exact afa hg ∅
 let hy:y≠0:=λz=>by rw[z] at ho;exact afa ho ∅
 let e1:x*y*(a / x)=a*y:=by grind
 let e2:x*y*(b / y)=b*x:=by grind
 rw[e1,e2]
def Hd (eY:∀j,0<ns\j->0<qs\j)(Hs:∀j,0<=ns\j)(hm:m∈(eX ns ↥ns).map (eh ns qs))(eE:∀z∈(eX ns ↥ns).map (eh ns qs),z<=m) :
  aV ns qs=(eX ns ↥ns).filter λj=>decide (eh ns qs j=m):=by
 unfold aV eX;rw[Qr];apply Y4 λg hg=>?_
 let TF:g<↥ns:=by simpa using hg
 unfold mK;by_cases h0:0<ns\g
 .let h1:ns\g≠0:=⋯;rw[aea h1,aea h0,Xk,Bool.and_true,Ya,Yd,decide_eq_true_eq];constructor
  .intro h;let⟨o,ho,eo⟩:=Zd.mp hm;let⟨ol,op⟩:=tu ho;have:=h o ‹ol›;unfold mE at this;rw[aea op,Xk,Bool.not_eq_true',decide_eq_false_iff_not,<- Ap (eY g h0) (eY o op),eo] at this;let h2:eh ns qs g<=m:=eE _ (Zd.mpr ⟨g,Ze.mpr ⟨hg,by simpa using h0⟩,()⟩);exact Qk h2 (Yr.mp this)
  .intro h o ho;unfold mE;by_cases op:0<ns\o
   .rw[aea op,Xk,Bool.not_eq_true',decide_eq_false_iff_not,<- Ap (eY g h0) (eY o op),h];exact Yr.mpr (eE _ (Zd.mpr ⟨o,Ze.mpr ⟨ho,by simpa using op⟩,()⟩))
   .rw[aja op];rfl
 .let h1:ns\g=0:=by have:=Hs g;omega
  rw[aja h0,Bool.and_false];rw[aja (λz=>z h1)];rfl
def CZ (Hs:∀j,0<=ns\j)(h:eX ns ↥ns=[]):aV ns qs=[]:=by
 unfold aV;rw[Xq];intro g hg;let TF:g<↥ns:=by simpa using hg
 unfold mK;let h0:¬ 0<ns\g:=λz=>by
  have:g∈eX ns ↥ns:=Ze.mpr ⟨hg,by simpa using z⟩;rw[h] at this;cases this
 let h1:ns\g=0:=by have:=Hs g;omega
 rw[aja (λz=>z h1)];simp
def JG (hn:Bd k n)(hx:Rb j x)(h0:0<x):Rb (k+j) ((n:Rat) / x):=by
 let hp:=nt.mp h0;let hd:=den_pos x;let e:=nK (a:=(n:Rat)) (b:=x) ⋯;let en:((n:Rat)).num=n:=Rat.num_intCast n;let ed:(((n:Rat)).den:Int)=1:=rfl;rw[en,ed,Int.one_mul] at e;rw[<- e];exact iV ⋯ (hn.mul hx.2) (hx.1.mono ⋯)
theorem Ak:∀{ws:List V}{M:Γ1}{a:Addr}{ns:Γ3},rR H ws M->H a=↑(.tup (ns.map V.int))->rR H (ws++[.ref a]) (M++[ns])
 |_,_,a,_,.nil,ha=>.cons ⟨a,(),ha⟩ .nil
 |_,_,_,_,.cons h t,ha=>.cons h (Ak t ha)
end KM
namespace KM
def W3 {α : Type}(f:α->Bool)(x:α):[x].filter f=if f x=true then [x] else []:=by cases h:f x<;>simp[List.filter,h]
end KM
namespace KM
open L2 KG EX
def aA (g:Nat)(M:Γ1):List Nat:=(~~~g).filter (has M)
def ai (g:Nat)(M:Γ1):Γ3:=(aA g M).map λj:Nat=>(j:Int)
def lV (g:Nat)(M:Γ1):Hi g M=(ai g M).map V.int:=by
 unfold Hi ai aA
 simp_all
def BM (g:Nat)(M:Γ1):Hi g M=df (aA g M):=by rw[lV];unfold ai df;rw[Zp];rfl
def gF (h:j∈aA g M):j<g/\has M j:=by
 unfold aA at h;rw[Ze] at h;exact⟨by simpa using h.1,h.2⟩
def jz (g:Nat)(M:Γ1):↥(aA g M)<=g:=by
 unfold aA;exact Zl (Y3 _ _) (by simp)
def lf (h:c9 c ms qs):∀{ix:List Nat},(∀i∈ix,i<↥qs)->(((ix.map λi=>ms\i).sum:Int):Rat)=(c:Rat)*aK (ix.map λi=>qs\i):=by
 intro ix;let key:∀(ix:List Nat) (z:Rat),(∀i∈ix,i<↥qs)->((ix.map λi=>qs\i).foldl (λs q=>s+q) z)=z+aK (ix.map λi=>qs\i):=by
  intro ix;induction ix with
  |nil=>intro z _;unfold aK;simp[Qb]
  |cons i ix ih =>
   intro z hi;let NF:∀j∈ix,j<↥qs:=λj hj=>hi j (Zi _ hj)
   unfold aK;rw[Zm,Xl,Xl,ih _ NF,ih _ NF,Yx,Rat.add_assoc]
 induction ix with
 |nil=>intro _;unfold aK;simp[Xr]
 |cons i ix ih =>
  intro hi;let NF:∀j∈ix,j<↥qs:=λj hj=>hi j (Zi _ hj)
  rw[Zm,Ql,Rat.intCast_add,ih NF,h.2 i (hi i Zk)];have:aK ((i::ix).map λi=>qs\i)=qs\i+aK (ix.map λi=>qs\i):=by
   conv=>lhs;unfold aK
   rw[Zm,Xl,key ix _ NF,Yx]
  rw[this,Rat.mul_add]
def dM (am:Γ3)(qs:Δ1)(S:List Nat):Rat:=aK (S.map λg=>(gx am qs)\g)
def aD (am:Γ3)(ps qs:Δ1)(M:Γ1)(S:List Nat):Rat:=dM am qs S-bh ps (eA M qs S)
def ap (S:Γ3):List Nat:=S.map Int.toNat
def Rh (h:∀x∈S,0<=x):S.map V.int=df (ap S):=by
 unfold df ap;rw[Zp];apply Xd λx hx=>?_
 show V.int x=V.int ((x.toNat:Nat):Int);rw[Xa (h x hx)]
def B2 (h:x∈dX ns p9):x∈ns:=by
 unfold dX at h;let⟨k,hk,rfl⟩:=Zd.mp h;have:k<↥ns:=by simpa using(Ze.mp hk).1
 simp[List.getD,Zc this]
def B3 (ns:Γ3)(p9:Nat):↥(dX ns p9)<=↥ns:=by
 unfold dX;rw[Zb];exact Zl (Y3 _ _) (by simp)
def BV (h:S∈aT ns):(∀x∈S,x∈ns)/\↥S<=↥ns:=by
 unfold aT at h;let⟨k,_,rfl⟩:=Zd.mp h;exact⟨λx hx=>B2 hx,B3 ns k⟩
def ph (h:i∈eA M qs S):i<↥M:=by
 unfold eA at h;simpa using(Ze.mp h).1
def mL (M:Γ1)(qs:Δ1)(S:List Nat):↥(eA M qs S)<=↥M:=by
 unfold eA;exact Zl (Y3 _ _) (by simp)
def Rj {i:Nat}(h:(df gs)[i]?=↑x):∃g:Nat,gs[i]?=↑g/\x=V.int (g:Int):=by
 unfold df at h;rw[Zo] at h;cases e:gs[i]? with
 |none=>rw[e] at h;cases h
 |some g=>rw[e] at h;exact⟨g,(),by simpa using h.symm⟩
def GB (gs:List Nat):↥(df gs)=↥gs:=by unfold df;rw[Zb]
def on (l:Δ1)(q:Rat):Prop:=q∈l/\∀z∈l,z<=q
def jW (l:Δ1)(q:Rat):Prop:=q∈l/\∀z∈l,q<=z
def on.uniq {l:Δ1}{p q:Rat}(h1:on l p)(h2:on l q):p=q:=Qk (h2.2 p h1.1) (h1.2 q h2.1)
def jW.uniq (h1:jW l p)(h2:jW l q):p=q:=Qk (h1.2 q h2.1) (h2.2 p h1.1)
theorem sN:∀{l:Δ1},l≠[]->∃q,on l q
 |[],h=>afa rfl h
 |[x],_=>⟨x,Zk,λz hz=>by rw[Z3.mp hz];exact Yg⟩
 |x::y::l,_=>by
  let⟨q,h1,h2⟩:=sN (l:=y::l) (by simp);by_cases h:q<x
  .exact⟨x,Zk,λz hz=>by
    rcases Zj.mp hz with rfl |hz
    .exact Yg
    .exact Yy (h2 z hz) (Zt h)⟩
  .exact⟨q,Zi _ h1,λz hz=>by
    rcases Zj.mp hz with rfl |hz
    .exact Yr.mp h
    .exact h2 z hz⟩
def mI (a b:Int):Int:=if a<b then b else a
def acG (a b:Int):a<=mI a b:=by unfold mI;split<;>omega
def acF (a b:Int):b<=mI a b:=by unfold mI;split<;>omega
def WM (a b:Int):mI a b=a\/mI a b=b:=by unfold mI;split<;>simp
def mX (row:Γ3):Int:=row.foldl mI 0
theorem k9:∀(row:Γ3) (a:Int),a<=row.foldl mI a/\(∀n∈row,n<=row.foldl mI a)/\(row.foldl mI a=a\/row.foldl mI a∈row)
 |[],a=>⟨Y6 _,(λn h=>by cases h),Or.inl rfl⟩
 |x::row,a=>by
  let⟨h1,h2,h3⟩:=k9 row (mI a x);rw[Xl];apply⟨Int.le_trans (acG a x) h1,λn hn=>?_,?_⟩
  .rcases Zj.mp hn with rfl |hn
   .exact Int.le_trans (acF a n) h1
   .exact h2 n hn
  .rcases h3 with h |h
   .rcases WM a x with e |e
    .rw[h];exact .inl e
    .rw[h,e];exact .inr Zk
   .exact .inr (Zi _ h)
def Kw (hm:m∈row)(eE:∀n∈row,n<=m)(Hs:∀n∈row,0<=n):m=mX row:=by
 let⟨h1,h2,h3⟩:=k9 row 0;let a1:=h2 m hm;let a2:=Hs m hm;show m=row.foldl _ 0
 grind
structure aJ (n:Nat)(row:Γ3):Prop where
 len:↥row=n
 bd:∀k∈row,0<=k/\k<=100
 pos:∃k∈row,1<=k
def aJ.mx (h:aJ n row):1<=mX row/\mX row<=100:=by
 let⟨h1,h2,h3⟩:=k9 row 0;let⟨k,hk,k1⟩:=h.pos;have:=h2 k hk;apply⟨by show 1<=row.foldl _ 0;omega,?_⟩;show row.foldl _ 0<=100;rcases h3 with e |e
 .omega
 .exact(h.bd _ e).2
def aJ.at (h:aJ n row)(g:Nat):0<=row\g/\(row\g)<=mX row:=by
 let⟨h1,h2,h3⟩:=k9 row 0;by_cases hg:g<↥row
 .have:row\g∈row:=by simp[List.getD,Zc hg]
  exact⟨(h.bd _ this).1,h2 _ this⟩
 .have:row\g=0:=by simp[List.getD,Yu (Xf hg)]
  rw[this];exact⟨Y6 _,h1⟩
def cB (g:Nat)(row:Γ3):Rat:=((row.getD g 0:Int):Rat) / ((mX row:Int):Rat)
def qT:Rat.divInt (row\g) (mX row)=cB g row:=Xe _ _
def wU {z:Int}(h:0<z):(0:Rat)<(z:Rat):=by
 let e:(0:Rat)=((0:Int):Rat):=rfl;rw[e,Rat.intCast_lt_intCast];exact h
def tQ {z:Int}(h:0<=z):(0:Rat)<=(z:Rat):=by
 let e:(0:Rat)=((0:Int):Rat):=rfl;rw[e,Rat.intCast_le_intCast];exact h
def HF {a b:Rat}(hb:0<b):a / b*b=a:=by
 grind
def RN {a b:Rat}(ha:0<=a)(hb:0<b):0<=a / b:=by
 rcases Classical.em (0<=a / b) with h |h
 .exact h
 .exfalso;let h1:a / b<0:=Rat.not_le.mp h;let h2:a / b*b<0*b:=(Rat.mul_lt_mul_right hb).mpr h1;rw[HF hb,Xm] at h2;exact afa h2 (Yr.mpr ha)
def FE {n:Nat}(h:aJ n row):0<=cB g row:=RN (tQ (h.at g).1) (wU (by have:=h.mx.1;omega))
def jC {n:Nat}(h:aJ n row):cB g row*((mX row:Int):Rat)=((row.getD g 0:Int):Rat):=HF (wU (by have:=h.mx.1;omega))
def FF {n:Nat}(h:aJ n row):cB g row<=1:=by
 let hp:=wU (z:=mX row) (by have:=h.mx.1;omega);apply Yr.mp λz=>?_
 let h2:=(Rat.mul_lt_mul_right hp).mpr z;rw[jC h,Qc,Rat.intCast_lt_intCast] at h2;have:=(h.at g).2;omega
def qS {n:Nat}(h:aJ n row):0<cB g row↔0<row\g:=by
 let hp:=wU (z:=mX row) (by have:=h.mx.1;omega);rw[<- Rat.mul_lt_mul_right hp,jC h,Xm];let e:(0:Rat)=((0:Int):Rat):=rfl;rw[e,Rat.intCast_lt_intCast]
def kX (h:aJ n row):Rb 7 (cB g row):=by
 rw[<- qT];let h1:=h.at g;let h2:=h.mx;exact iV ⋯ (by unfold Bd;omega) (by unfold Bd;omega)
def fh (am:Γ3)(W:List Nat):Int:=(W.map λg=>am\g).sum
structure et (am:Γ3)(ps:Δ1)(M:Γ1)(n:Nat)(qs:Δ1):Prop where
 len:↥qs=n
 ex:∃mn,jW ps mn/\∀g,g<n->∃sh,on (M.map (cB g)) sh/\(qs\g)=mn / ((fh am (aA n M):Int):Rat)*sh
def et.uniq {am:Γ3}{ps:Δ1}{M:Γ1}{n:Nat}{p q:Δ1}(h1:et am ps M n p)(h2:et am ps M n q):p=q:=by
 let⟨m1,i1,e1⟩:=h1.ex;let⟨m2,i2,e2⟩:=h2.ex;let em:=i1.uniq i2;subst em;apply List.ext_getElem (by rw[h1.len,h2.len]) λg YF hg2=>?_
 let hg:g<n:=by rw[<- h1.len];exact YF
 let⟨s1,j1,f1⟩:=e1 g hg;let⟨s2,j2,f2⟩:=e2 g hg;let es:=j1.uniq j2;subst es;let a1:p\g=p[g]:=by simp[List.getD,Zc YF]
 let a2:q\g=q[g]:=by simp[List.getD,Zc hg2]
 rw[<- a1,<- a2,f1,f2]
theorem sZ:∀(l:Δ1) (z:Rat),l.foldl (λs q=>s+q) z=z+aK l
 |[],z=>by unfold aK;simp[Qb]
 |x::l,z=>by
  let h1:=sZ l (z+x);let h2:=sZ l (0+x);unfold aK;rw[Xl,Xl,h1,h2,Yx,Rat.add_assoc]
def sum_cons (x:Rat)(l:Δ1):aK (x::l)=x+aK l:=by
 conv=>lhs;unfold aK
 rw[Xl,sZ,Yx]
theorem EG:∀{l:Δ1},(∀x∈l,0<=x)->0<=aK l
 |[],_=>Yg
 |x::l,h=>by
  rw[sum_cons];let h1:=h x Zk;let h2:=EG (l:=l) λy hy=>h y (Zi _ hy)
  exact Rat.add_nonneg h1 h2
def Pw (h:∀y∈l,0<=y)(hx:x∈l):x<=aK l:=by
 induction l with
 |nil=>cases hx
 |cons y l ih =>
  rw[sum_cons];let hl:=λz hz=>h z (Zi y hz)
  rcases Zj.mp hx with rfl |hx
  .have:=EG hl;let h2:=(Q8 (c:=x)).mpr this;rw[Qb] at h2;exact h2
  .let h1:=ih hl hx;let h2:=(Q9 (c:=aK l)).mpr (h y Zk);rw[Yx] at h2;exact Yy h1 h2
theorem oo:∀{ix:List Nat},(∀i∈ix,f i<=g i)->aK (ix.map f)<=aK (ix.map g)
 |[],_=>Yg
 |i::ix,h=>by
  rw[Zm,Zm,sum_cons,sum_cons];let h1:=h i Zk;let h2:=oo (ix:=ix) λj hj=>h j (Zi _ hj)
  exact Yy ((Q9 (c:=aK (ix.map f))).mpr h1) ((Q8 (c:=g i)).mpr h2)
theorem sY:∀{xs ys:List Nat},xs.Sublist ys->(∀i∈ys,0<=f i)->aK (xs.map f)<=aK (ys.map f)
 |_,_,.slnil,_=>Yg
 |_,y::ys,.cons _ h,hn=>by
  rw[Zm,sum_cons];let h1:=sY h λi hi=>hn i (Zi _ hi)
  let h2:=(Q9 (c:=aK (ys.map f))).mpr (hn y Zk);rw[Yx] at h2;exact Yy h1 h2
 |x::xs,_::ys,.cons₂ _ h,hn=>by
  rw[Zm,Zm,sum_cons,sum_cons];exact(Q8 (c:=f x)).mpr (sY h λi hi=>hn i (Zi _ hi))
theorem qR:∀(ix:List Nat),aK (ix.map λi=>c*f i)=c*aK (ix.map f)
 |[]=>by unfold aK;simp[Xr]
 |i::ix=>by rw[Zm,Zm,sum_cons,sum_cons,qR ix,Rat.mul_add]
theorem ve:∀(ix:List Nat),aK (ix.map λi=>((f i:Int):Rat))=(((ix.map f).sum:Int):Rat)
 |[]=>rfl
 |i::ix=>by rw[Zm,Zm,sum_cons,ve ix,Ql,Rat.intCast_add]
def qY (ns:Γ3)(p9:Nat):(dX ns p9).Sublist ns:=by
 let e:ns=(~~~↥ns).map λk=>ns\k:=by
  apply List.ext_getElem (by simp) λi h1 h2=>?_
  simp[List.getD,Zc h1]
 let h:(dX ns p9).Sublist ((~~~↥ns).map λk=>ns\k):=by
  unfold dX;exact List.Sublist.map _ Zu
 rw[<- e] at h;exact h
def BU (h:S∈aT ns):S.Sublist ns:=by
 unfold aT at h;let⟨k,_,rfl⟩:=Zd.mp h;exact qY ns k
def km (g:Nat)(M:Γ1):ap (ai g M)=aA g M:=by
 unfold ap ai;rw[Zp];have:(Int.toNat ∘ λj:Nat=>(j:Int))=id:=by funext j;simp
 simp_all
def div_pos {a b:Rat}(ha:0<a)(hb:0<b):0<a / b:=by
 let h:=(Rat.lt_div_iff (a:=0) (b:=a) (c:=b) hb);rw[h,Xm];exact ha
section
variable {ps qs:Δ1}
def kg (hM:∀r∈M,aJ n r)(bF:M≠[])(TN:↥am=n)(LC:∀a∈am,1<=a):1<=fh am (aA n M):=by
 let⟨row,M',rfl⟩:=List.exists_cons_of_ne_nil bF;let hr:=hM row Zk;let⟨k,hk,k1⟩:=hr.pos;let⟨j,hj,ej⟩:=Yf hk;let hjn:j<n:=by rw[<- hr.len];exact hj
 let hw:j∈aA n (row::M'):=by
  unfold aA;apply Ze.mpr ⟨by simpa using hjn,?_⟩;unfold has
  grind
 let key:∀(W:List Nat),(∀g∈W,g<n)->j∈W->1<=fh am W:=by
  intro W;let nn:∀(W:List Nat),(∀g∈W,g<n)->0<=fh am W:=by
   intro W;induction W with
   |nil=>intro _;exact Y6 _
   |cons g W ih =>
    intro h;let hg:=h g Zk;let h1:=ih λx hx=>h x (Zi _ hx)
    let h2:am\g∈am:=by simp[List.getD,Zc (show g<↥am by omega)]
    let h3:=LC _ h2;unfold fh at h1 ⊢;rw[Zm,Ql];omega
  induction W with
  |nil=>intro _ h;cases h
  |cons g W ih =>
   intro h hj;let hg:=h g Zk;let h1:=nn W λx hx=>h x (Zi _ hx)
   let h2:am\g∈am:=by simp[List.getD,Zc (show g<↥am by omega)]
   let h3:=LC _ h2;unfold fh at h1 ⊢;rw[Zm,Ql];omega
 exact key _ (λg hg=>(gF hg).1) hw
def yI (hM:∀r∈M,aJ n r)(hF:et am ps M n qs)(Bm:∀p∈ps,0<p)(So:1<=fh am (aA n M)){g:Nat}(hg:g∈aA n M):∃(i:Nat) (row:Γ3),M[i]?=↑row/\g∈aV row qs:=by
 let⟨hgn,hh⟩:=gF hg;let⟨mn,Di,hq⟩:=hF.ex;let hb:0<mn / ((fh am (aA n M):Int):Rat):=div_pos (Bm mn Di.1) (wU ⋯);generalize mn / ((fh am (aA n M):Int):Rat)=base at hb hq;let⟨sh,⟨wK,eE⟩,eg⟩:=hq g hgn;let⟨row,fM,er⟩:=Zd.mp wK;let hr:=hM row fM;let eY:0<row\g:=by
  unfold has at hh;let⟨r',mT,h1⟩:=Z6.mp hh;let h2:=(qS (hM r' mT) (g:=g)).mpr ‹h1›;let h3:=eE _ (Zd.mpr ⟨r',mT,()⟩);apply(qS hr).mp ?_;rw[er];apply Rat.not_le.mp λz=>?_
  exact afa h2 (Yr.mpr (Yy h3 z))
 let⟨i,hi,ei⟩:=Yf fM;apply⟨i,row,by rw[Zc hi,ei],?_⟩;unfold aV;apply Ze.mpr ⟨by rw[hr.len];simpa using hgn,?_⟩;unfold mK;rw[aea (show row\g≠0 by omega),Xk,Yd];intro o ho;let Tv:o<n:=by rw[<- hr.len];simpa using ho
 let⟨so,⟨_,hmo⟩,eo⟩:=hq o Tv;let hso:=hmo _ (Zd.mpr ⟨row,fM,()⟩);unfold mE;have:¬ (((row.getD g 0:Int):Rat)*(qs\o)<((row.getD o 0:Int):Rat)*(qs\g)):=by
  apply Yr.mpr ?_;rw[eo,eg,<- er,<- jC hr (g:=g),<- jC hr (g:=o)];let hmx:=tQ (z:=mX row) (by have:=hr.mx.1;omega);let Vj:=FE hr (g:=g);generalize ((mX row:Int):Rat)=mx at hmx;generalize cB g row=sg at Vj;generalize cB o row=s1 at hso;let e1:s1*mx*(base*sg)=sg*mx*base*s1:=by grind
  let e2:sg*mx*(base*so)=sg*mx*base*so:=by grind
  rw[e1,e2];exact Yz hso (Rat.mul_nonneg (Rat.mul_nonneg Vj hmx) (Zt hb))
 rw[aja this,Bool.and_false];rfl
def JU (Bm:∀p∈ps,0<p)(i:Nat):0<=ps\i:=by
 by_cases h:i<↥ps
 .have:ps\i∈ps:=by simp[List.getD,Zc h]
  exact Zt (Bm _ this)
 .have:ps\i=0:=by simp[List.getD,Yu (Xf h)]
  rw[this];exact Yg
def wx (hM:∀r∈M,aJ n r)(hF:et am ps M n qs)(Bm:∀p∈ps,0<p)(mU:↥ps=↥M)(TN:↥am=n)(LC:∀a∈am,1<=a)(So:1<=fh am (aA n M)){S:List Nat}(hS:S.Sublist (aA n M)):aD am ps qs M S<=0:=by
 let⟨mn,Di,hq⟩:=hF.ex;cases hSe:S with
 |nil =>
  unfold aD dM;have:bh ps (eA M qs [])=0:=by
   have:eA M qs []=[]:=by
    unfold eA;rw[Xq];intro i _;unfold b9;simp
   rw[this];rfl
  rw[this];show(0:Rat)-0<=0;rw[Rat.sub_self];exact Yg
 |cons g S' =>
  rw[hSe] at hS;let hgw:g∈aA n M:=hS.subset Zk;let⟨i,row,SF,jT⟩:=yI hM hF Bm So hgw;let hi:i<↥M:=(Zg.mp SF).1;let Lz:i∈eA M qs (g::S'):=by
   unfold eA;apply Ze.mpr ⟨by simpa using hi,?_⟩;let e:(aw M qs)∩i=(aV row qs).map λg:Nat=>(g:Int):=by
    unfold aw;simp[List.getD,Zo,SF]
   rw[e];unfold b9;exact Z6.mpr ⟨(g:Int),Zd.mpr ⟨g,jT,()⟩,Z6.mpr ⟨g,Zk,by simp⟩⟩
  let h1:mn<=bh ps (eA M qs (g::S')):=by
   let hm1:ps\i∈ps:=by simp[List.getD,Zc (show i<↥ps by omega)]
   apply Yy (Di.2 _ hm1) ?_;unfold bh;exact Pw (λy hy=>by let⟨j,_,rfl⟩:=Zd.mp hy;exact JU Bm j) (Zd.mpr ⟨i,Lz,()⟩)
  let Dh:=wU (z:=fh am (aA n M)) ⋯;let hb:0<mn / ((fh am (aA n M):Int):Rat):=div_pos (Bm mn Di.1) Dh;let gT:mn / ((fh am (aA n M):Int):Rat)*((fh am (aA n M):Int):Rat)=mn:=HF Dh;let h2:dM am qs (g::S')<=mn:=by
   unfold dM;let cN:∀o∈aA n M,o<n:=λo ho=>(gF ho).1
   let eo:∀o,o<n->(gx am qs)\o=qs\o*((am.getD o 0:Int):Rat):=λo ho=>by
    unfold gx;rw[jY (a:=0) (by rw[Ys,hF.len];exact ho)];have:(~~~↥qs)\o=o:=by simp[List.getD,Yt (show o<↥qs by rw[hF.len];exact ho)]
    rw[this]
   let amn:∀o,o<n->(0:Rat)<=((am.getD o 0:Int):Rat):=λo ho=>by
    have:am\o∈am:=by simp[List.getD,Zc (show o<↥am by omega)]
    have:=LC _ this;exact tQ ⋯
   let Sw:∀o∈g::S',(gx am qs)\o<=mn / ((fh am (aA n M):Int):Rat)*((am.getD o 0:Int):Rat):=λo ho=>by
    let Tv:=cN o (hS.subset ho);rw[eo o Tv];let⟨so,⟨hsm,_⟩,e⟩:=hq o Tv;let⟨r,hr,er⟩:=Zd.mp hsm;let hs1:so<=1:=by rw[<- er];exact FF (hM r hr)
    rw[e];apply Xs ?_ (amn o Tv);have:=Yz hs1 (Zt hb);rw[Rat.mul_one] at this;exact this
   apply Yy (oo Sw) ?_;rw[qR];let h3:=sY (f:=λo=>((am.getD o 0:Int):Rat)) hS (λo ho=>amn o (cN o ho));let h4:=Yz h3 (Zt hb);apply Yy h4 ?_;rw[ve (f:=λo=>am\o)];show mn / ((fh am (aA n M):Int):Rat)*((fh am (aA n M):Int):Rat)<=mn;rw[gT];exact Yg
  unfold aD;let h5:=Yy h2 h1;rw[Rat.sub_right_le_iff_le_add,Yx];exact h5
def mi:aD am ps qs M []=0:=by
 unfold aD dM;have:eA M qs []=[]:=by
  unfold eA;rw[Xq];intro i _;unfold b9;simp
 rw[this];show(0:Rat)-0=0;exact Rat.sub_self
end
def Ur:Sp:=λvs H Q _=>∃(b p pa pp pw:Addr) (xa xp xw:List V) (am pu wi:Ξ1),vs=[.ref p]/\eN b H p pa pp pw xa xp xw am pu wi/\(∀r∈rowsOf wi,aJ ↥xa r)/\∀H',az H H'->Q .cj H'
def EI:Sp:=λvs H Q _=>∃(l:Addr) (ys:List V) (qs:Δ1),vs=[.ref l]/\H l=↑(.tup ys)/\mB H ys qs/\qs≠[]/\(∀q∈qs,Rb 32000000 q)/\∀(a:Addr) (q:Rat),H a=↑(qO q)->jW qs q->Q (.ref a) H
def Ut:Sp:=λvs H Q _=>∃(pw:Addr) (xw:List V) (M:Γ1) (n g:Nat),vs=[.ref pw,.int (g:Int)]/\H pw=↑(.tup xw)/\rR H xw M/\g<n/\(∀r∈M,aJ n r)/\M≠[]/\↥M<=6/\∀(a:Addr) (q:Rat) (H':Hp),az H H'->H' a=↑(qO q)->on (M.map (cB g)) q->Q (.ref a) H'
def N4:Sp:=λvs H Q _=>∃(b p pa pp pw:Addr) (xa xp xw:List V) (am pu wi:Ξ1),vs=[.ref p]/\eN b H p pa pp pw xa xp xw am pu wi/\(∀r∈rowsOf wi,aJ ↥xa r) /\
 ∀(r:Addr) (xs:List V) (qs:Δ1) (H':Hp),az H H'->H' r=↑(.tup xs)->mB H' xs qs->et (am.map br) (rM pu) (rowsOf wi) ↥xa qs->Q (.ref r) H'
def lY (TN:↥am=n)(h6:n<=6)(LC:∀a∈am,a<=60):fh am (aA n M)<=360:=by
 let key:∀W:List Nat,(∀g∈W,g<n)->fh am W<=60*(↥W:Int):=by
  intro W;induction W with
  |nil=>intro _;exact Y6 _
  |cons g W ih =>
   intro h;let hg:=h g Zk;let h1:=ih λx hx=>h x (Zi _ hx)
   let h2:am\g∈am:=by simp[List.getD,Zc (show g<↥am by omega)]
   let h3:=LC _ h2;unfold fh at h1 ⊢;rw[Zm,Ql,Y1];omega
 let h1:=key (aA n M) λg hg=>(gF hg).1
 let h2:=jz n M;omega
theorem Fk:∀{ys:List V}{qs:Δ1},mB H ys qs->ci b H ys (qs.map qD)
 |[],[],_=>.nil
 |[],_::_,h=>by have:=h.1;simp at this
 |_::_,[],h=>by have:=h.1;simp at this
 |y::ys,q::qs,h=>by
  let⟨a,e,ha⟩:=h.2 0 y rfl;subst e;let hr:(q::qs)\0=q:=rfl;rw[hr] at ha;apply .cons (.tup ha (.cons (.int _) (.cons (.int _) .nil))) (Fk (ys:=ys) (qs:=qs) ⟨by simpa using h.1,λj x hx=>?_⟩);let⟨c,e,hc⟩:=h.2 (j+1) x ‹hx›;exact⟨c,e,by simpa[List.getD] using hc⟩
theorem Fo:∀qs:Δ1,PyData.depthAll (qs.map qD)<=1
 |[]=>by simp[PyData.depthAll]
 |q::qs=>by
  let h1:=MR q;let h2:=Fo qs;simp[PyData.depthAll];omega
def RO (qs:Δ1):(PyData.tuple (qs.map qD)).depth<=2:=by
 have:=Fo qs;simp[PyData.depth];omega
end KM
namespace PySem
def lJ (h:Heap)(d:Addr)(es:Array DictEntry)(ep:Nat):Prop:=∃o,h.get? d=↑o/\o.ExactDict/\o.data=.dict es ep
section
def lJ.at (x:lJ h d es ep)(k:∀o,h.get? d=↑o->g.get? d=↑o):lJ g d es ep:=let ⟨o,e,r⟩:=x;⟨o,k o e,r⟩
def JI (t:s.heap.IsKeyIter it d i es.size ep)(m:lJ s.heap d es ep)(hi:i<es.size)
  (q:∀g,g.IsKeyIter it d (i+1) es.size ep->Heap.SameBut it s.heap g->Q (↑es[i].key) { s with heap:=g }):wpAny (model prog w) A (pyNext (.ref it)) Q E s:=by
 let⟨o,ho,hc,hd⟩:=id t;let⟨od,DB,_,ug⟩:=m;unfold pyNext;apply Za (wpAny_attempt (wpAny_callSpecial?_slot (name:=Str.ofString "__next__") t.typeIs F.slot_dict_keyiterator_next (aoa F.slot_dict_keyiterator_next t.typeIs F.entry_dict_keyiterator_next ?_ (F.args_dict_keyiterator_next_1 _))));apply Za (aba (Za (Za ?_)))
 first |refine Za (wpAny_typeNameOfWhole_keyiter t.typeIs (aba (Za (wpAny_fieldsOf ho hd ?_)))) |refine Za (wpAny_typeNameOf_keyiter t.typeIs (aba (Za (wpAny_fieldsOf ho hd ?_))))
 let ow:Builtin.Dict_items.ownsTuple "dict_keyiterator"=false:=∅;simp only[ow,Qm,if_false];show wpAny _ _ (if (Value.ref d == Value.none)=true then _ else _) _ _ s;rw[aga (show ¬ ((Value.ref d == Value.none)=true) from Z5)];apply Za (aba (Za (wpAny_dictEntries DB ug ?_)));rw[aga (by simp)];apply Za (aba (Za (wpAny_dictEpoch DB ug ?_)));rw[aga (by simp)];apply aba ?_;simp only[show ¬ ((i:Int)<0) from ⋯,if_false,Zy,Array.getElem?_eq_getElem hi];apply Za ?_
 first |refine Za (wpAny_typeNameOfWhole_keyiter t.typeIs (aba (Za (wpAny_isOneOf_keyiter t.typeIs ?_)))) |refine Za (wpAny_typeNameOf_keyiter t.typeIs (aba (Za (wpAny_isOneOf_keyiter t.typeIs ?_))))
 show wpAny _ _ (setField (.ref it) 1 (rawInt ((i:Int)+1)) >>= _) _ _ s;apply Za (wpAny_setField ho hd (by simp) ?_);let t':(s.heap.update it (Obj.mapFields (·.setIfInBounds 1 (rawInt ((i:Int)+1))))).IsKeyIter it d (i+1) es.size ep:=⟨_,Qp _ ho (Obj.isFreed_of_fields (Obj.data_mapFields hd _)),(Obj.cls_mapFields ..).trans hc,by rw[Obj.data_mapFields hd];simp[rawInt]⟩;apply Za (apa (Za (wpAny_isOneOf_keyiter (s:={ s with heap:=s.heap.update it (Obj.mapFields (·.setIfInBounds 1 (rawInt ((i:Int)+1)))) }) t'.typeIs ?_)));show wpAny _ _ (pure es[i].key) _ _ _;exact aba (aba ⟨_,(),aba (q _ t' (Heap.SameBut.update ..))⟩)
def v4 (hh:A.handled=none)(t:s.heap.IsKeyIter it d i es.size ep)(m:lJ s.heap d es ep)(hi:es.size<=i)
  (q:∀g,Heap.ExtBut it s.heap g->Q none { s with heap:=g }):wpAny (model prog w) A (pyNext (.ref it)) Q E s:=by
 let⟨o,ho,hc,hd⟩:=id t;let⟨od,DB,_,ug⟩:=m;unfold pyNext;apply Za (wpAny_attempt (wpAny_callSpecial?_slot (name:=Str.ofString "__next__") t.typeIs F.slot_dict_keyiterator_next (aoa F.slot_dict_keyiterator_next t.typeIs F.entry_dict_keyiterator_next ?_ (F.args_dict_keyiterator_next_1 _))));apply Za (aba (Za (Za ?_)))
 first |refine Za (wpAny_typeNameOfWhole_keyiter t.typeIs (aba (Za (wpAny_fieldsOf ho hd ?_)))) |refine Za (wpAny_typeNameOf_keyiter t.typeIs (aba (Za (wpAny_fieldsOf ho hd ?_))))
 let ow:Builtin.Dict_items.ownsTuple "dict_keyiterator"=false:=∅;simp only[ow,Qm,if_false];show wpAny _ _ (if (Value.ref d == Value.none)=true then _ else _) _ _ s;rw[aga (show ¬ ((Value.ref d == Value.none)=true) from Z5)];apply Za (aba (Za (wpAny_dictEntries DB ug ?_)));rw[aga (by simp)];apply Za (aba (Za (wpAny_dictEpoch DB ug ?_)));rw[aga (by simp)];apply aba ?_;simp only[show ¬ ((i:Int)<0) from ⋯,if_false,Zy,Array.getElem?_eq_none hi];apply Za ?_
 first |refine Za (wpAny_typeNameOfWhole_keyiter t.typeIs (aba ?_)) |refine Za (wpAny_typeNameOf_keyiter t.typeIs (aba ?_))
 show wpAny _ _ (setField (.ref it) 0 .none >>= _) _ _ s;apply Za (wpAny_setField ho hd (by simp) ?_);show wpAny _ _ (newExc (.type "StopIteration") [] >>= _) _ _ _;apply Za ?_;simp only[newExc,newTuple];apply Za (aka ?_ (by size_fits));apply Za (m:=firstArgMember _ _) (wpAny_of_eq (a:=Value.none) (by first |rfl |(simp only[firstArgMember];rfl)) (aka ?_ (by size_fits)));simp only[raiseNew];apply Za (wpAny_handled ?_);rw[show A.in1.handled=none from hh];apply Za (aba (wpAny_throw ?_));exact Za (wpAny_isInstance (T:="StopIteration") (b:=true) ⟨_,Z0 _ rfl,()⟩ isSubtype_stop (aba (q _ (((Heap.SameBut.update ..).extBut.push _).push _))))
def JH (t:s.heap.IsValIter it d i es.size ep)(m:lJ s.heap d es ep)(hi:i<es.size)
  (q:∀g,g.IsValIter it d (i+1) es.size ep->Heap.SameBut it s.heap g->Q (↑es[i].val) { s with heap:=g }):wpAny (model prog w) A (pyNext (.ref it)) Q E s:=by
 let⟨o,ho,hc,hd⟩:=id t;let⟨od,DB,_,ug⟩:=m;unfold pyNext;apply Za (wpAny_attempt (wpAny_callSpecial?_slot (name:=Str.ofString "__next__") t.typeIs F.slot_dict_valueiterator_next (aoa F.slot_dict_valueiterator_next t.typeIs F.entry_dict_valueiterator_next ?_ (F.args_dict_valueiterator_next_1 _))));apply Za (aba (Za (Za ?_)))
 first |refine Za (wpAny_typeNameOfWhole_valiter t.typeIs (aba (Za (wpAny_fieldsOf ho hd ?_)))) |refine Za (wpAny_typeNameOf_valiter t.typeIs (aba (Za (wpAny_fieldsOf ho hd ?_))))
 let ow:Builtin.Dict_items.ownsTuple "dict_valueiterator"=false:=∅;simp only[ow,Qm,if_false];show wpAny _ _ (if (Value.ref d == Value.none)=true then _ else _) _ _ s;rw[aga (show ¬ ((Value.ref d == Value.none)=true) from Z5)];apply Za (aba (Za (wpAny_dictEntries DB ug ?_)));rw[aga (by simp)];apply Za (aba (Za (wpAny_dictEpoch DB ug ?_)));rw[aga (by simp)];apply aba ?_;simp only[show ¬ ((i:Int)<0) from ⋯,if_false,Zy,Array.getElem?_eq_getElem hi];apply Za ?_
 first |refine Za (wpAny_typeNameOfWhole_valiter t.typeIs (aba (Za (wpAny_isOneOf_valiter t.typeIs ?_)))) |refine Za (wpAny_typeNameOf_valiter t.typeIs (aba (Za (wpAny_isOneOf_valiter t.typeIs ?_))))
 show wpAny _ _ (setField (.ref it) 1 (rawInt ((i:Int)+1)) >>= _) _ _ s;apply Za (wpAny_setField ho hd (by simp) ?_);let t':(s.heap.update it (Obj.mapFields (·.setIfInBounds 1 (rawInt ((i:Int)+1))))).IsValIter it d (i+1) es.size ep:=⟨_,Qp _ ho (Obj.isFreed_of_fields (Obj.data_mapFields hd _)),(Obj.cls_mapFields ..).trans hc,by rw[Obj.data_mapFields hd];simp[rawInt]⟩;apply Za (apa (Za (wpAny_isOneOf_valiter (s:={ s with heap:=s.heap.update it (Obj.mapFields (·.setIfInBounds 1 (rawInt ((i:Int)+1)))) }) t'.typeIs ?_)));apply Za (wpAny_isOneOf_valiter (s:={ s with heap:=s.heap.update it (Obj.mapFields (·.setIfInBounds 1 (rawInt ((i:Int)+1)))) }) t'.typeIs ?_);show wpAny _ _ (pure es[i].val) _ _ _;exact aba (aba ⟨_,(),aba (q _ t' (Heap.SameBut.update ..))⟩)
def vZ (hh:A.handled=none)(t:s.heap.IsValIter it d i es.size ep)(m:lJ s.heap d es ep)(hi:es.size<=i)
  (q:∀g,Heap.ExtBut it s.heap g->Q none { s with heap:=g }):wpAny (model prog w) A (pyNext (.ref it)) Q E s:=by
 let⟨o,ho,hc,hd⟩:=id t;let⟨od,DB,_,ug⟩:=m;unfold pyNext;apply Za (wpAny_attempt (wpAny_callSpecial?_slot (name:=Str.ofString "__next__") t.typeIs F.slot_dict_valueiterator_next (aoa F.slot_dict_valueiterator_next t.typeIs F.entry_dict_valueiterator_next ?_ (F.args_dict_valueiterator_next_1 _))));apply Za (aba (Za (Za ?_)))
 first |refine Za (wpAny_typeNameOfWhole_valiter t.typeIs (aba (Za (wpAny_fieldsOf ho hd ?_)))) |refine Za (wpAny_typeNameOf_valiter t.typeIs (aba (Za (wpAny_fieldsOf ho hd ?_))))
 let ow:Builtin.Dict_items.ownsTuple "dict_valueiterator"=false:=∅;simp only[ow,Qm,if_false];show wpAny _ _ (if (Value.ref d == Value.none)=true then _ else _) _ _ s;rw[aga (show ¬ ((Value.ref d == Value.none)=true) from Z5)];apply Za (aba (Za (wpAny_dictEntries DB ug ?_)));rw[aga (by simp)];apply Za (aba (Za (wpAny_dictEpoch DB ug ?_)));rw[aga (by simp)];apply aba ?_;simp only[show ¬ ((i:Int)<0) from ⋯,if_false,Zy,Array.getElem?_eq_none hi];apply Za ?_
 first |refine Za (wpAny_typeNameOfWhole_valiter t.typeIs (aba ?_)) |refine Za (wpAny_typeNameOf_valiter t.typeIs (aba ?_))
 show wpAny _ _ (setField (.ref it) 0 .none >>= _) _ _ s;apply Za (wpAny_setField ho hd (by simp) ?_);show wpAny _ _ (newExc (.type "StopIteration") [] >>= _) _ _ _;apply Za ?_;simp only[newExc,newTuple];apply Za (aka ?_ (by size_fits));apply Za (m:=firstArgMember _ _) (wpAny_of_eq (a:=Value.none) (by first |rfl |(simp only[firstArgMember];rfl)) (aka ?_ (by size_fits)));simp only[raiseNew];apply Za (wpAny_handled ?_);rw[show A.in1.handled=none from hh];apply Za (aba (wpAny_throw ?_));exact Za (wpAny_isInstance (T:="StopIteration") (b:=true) ⟨_,Z0 _ rfl,()⟩ isSubtype_stop (aba (q _ (((Heap.SameBut.update ..).extBut.push _).push _))))
def FU (hd:(d == sysModules)=false)(m:lJ s.heap d es ep)(q:Q (.ref ⇑s) { s with heap:=s.heap.push { cls:=.type "dict_keyiterator",data:=.fields #[.ref d,.int 0 0,.int es.size 0,.int ep 0] } }) :
  wpAny (model prog w) A (pyIter (.ref d)) Q E s:=by
 let⟨o,ho,hx,ug⟩:=m;let ty:s.TypeIs (.ref d) "dict":=⟨o,ho,hx.1⟩;apply wpAny_pyIter_slot ty F.slot_dict_iter (aoa F.slot_dict_iter ty F.entry_dict_iter ?_ (F.args_dict_iter_1 _));unfold Builtin.«dict.__iter__»;apply Za ?_;unfold Builtin.Dict.dictSlotNone;apply Za (wpAny_notOrdered_dict ty ?_);show wpAny _ _ (pure (Value.ref d)) _ _ s;apply aba ?_;show wpAny _ _ (Builtin.Dict.showsAll d >>= _) _ _ s;unfold Builtin.Dict.showsAll;rw[aga (by rw[hd];exact Z5)];apply Za (aba (Za (wpAny_dictEntries ho ug (Za (wpAny_dictEpoch ho ug ?_)))));apply Za (aka (aba ⟨_,(),"dict_keyiterator",_,⟨_,Z0 _ rfl,()⟩,F.slot_dict_keyiterator_next.lookup,?_⟩));simpa[rawInt] using q
def xZ (d:Addr)(hd:(d == sysModules)=false)(es:Array DictEntry)(ep:Nat):MeetsIn prog w (Builtin.«dict.values» ⟨[.ref d],[]⟩) (λ_ R s=>lJ s.heap d es ep/\R (.ok (.ret (.ref ⇑s))) { s with heap:=s.heap.push { cls:=.type "dict_values",data:=.fields #[.ref d] } }) :=
 .of_wp λA R s ⟨⟨o,ho,hx,ug⟩,h⟩=>by
  let ty:s.TypeIs (.ref d) "dict":=⟨o,ho,hx.1⟩;apply Za ?_;unfold Builtin.Dict.noArgs;apply Za (wpAny_notOrdered_dict ty ?_);show wpAny _ _ (pure d) _ _ s;apply aba ?_;show wpAny _ _ (Builtin.Dict.showsAll d >>= _) _ _ s;unfold Builtin.Dict.showsAll;rw[aga (by rw[hd];exact Z5)];exact Za (aba (Za (aka (aba ⟨_,(),h⟩))))
def qk (hv:s.heap.IsValuesView v d)(m:lJ s.heap d es ep)(q:Q (.ref ⇑s) { s with heap:=s.heap.push { cls:=.type "dict_valueiterator",data:=.fields #[.ref d,.int 0 0,.int es.size 0,.int ep 0] } }) :
  wpAny (model prog w) A (pyIter (.ref v)) Q E s:=by
 let⟨ov,hov,hcv,hdv⟩:=id hv;let⟨o,ho,hx,ug⟩:=m;apply wpAny_pyIter_slot hv.typeIs F.slot_dict_values_iter (aoa F.slot_dict_values_iter hv.typeIs F.entry_dict_values_iter ?_ (F.args_dict_values_iter_1 _));unfold Builtin.«dict_values.__iter__»;apply Za (aba (Za ?_));unfold Builtin.Dict_items.dictOf;apply Za (aqa hov hdv (x:=.ref d) rfl (aba (Za ?_)));unfold Builtin.Dict_items.newIterator;apply Za (wpAny_dictEntries ho ug (Za (wpAny_dictEpoch ho ug ?_)));let ow:Builtin.Dict_items.ownsTuple "dict_valueiterator"=false:=∅;simp only[ow,Qm,if_false];apply aka (aba ⟨_,(),"dict_valueiterator",_,⟨_,Z0 _ rfl,()⟩,F.slot_dict_valueiterator_next.lookup,?_⟩);simpa[rawInt] using q
def Walks.JJ (hh:A.handled=none)(I d:Addr)(bF:d≠I)(es:Array DictEntry)(ep:Nat):Walks prog w A I [I,d] [I] es.size (λi v=>∃h:i<es.size,v=es[i].val) (λi h=>h.IsValIter I d i es.size ep/\lJ h d es ep) where
 sub:=λb hb=>by simp at hb;simp[hb]
 frame:=λ_ _ _ st hk=>⟨let ⟨o,e,r⟩:=st.1;⟨o,hk I (by simp) o e,r⟩,st.2.at λo e=>hk d (by simp) o e⟩
 item:=λi s Q E hi st hQ=>JH st.1 st.2 hi λg t' sb=>hQ _ g s.toks ⟨hi,()⟩ ⟨t',st.2.at λo e=>sb.extBut d o bF e⟩ λb o hb e=>sb.extBut b o (λh=>hb (by simp[h])) e
 done:=λs Q E st hQ=>vZ hh st.1 st.2 (Zf _) λg eb=>hQ g s.toks λb o hb e=>eb b o (λh=>hb (by simp[h])) e
 self:=λ_ s _ _ st hQ=>wpAny_pyIter_valiter (s:=s) st.1 hQ
end
end PySem
namespace L2
open PySem.Spec PyProof.Rows KG
section
def sT (I:Inv X ae σ H s)(ha:Rd H a (.dT kvs)) :
  ↥kvs<=sizeLine/\(a == sysModules)=false/\∃xs es ep,KT H kvs xs/\lJ s.heap a es ep/\es.toList=xs.map (entryOfKey (tupleKind (mr X.prog X.w))):=by
 let⟨z,hd,xs,rel,o,es,ep,h1,h2,h3,h4,_⟩:=u5 I.ca ha;exact⟨z,hd,xs,es,ep,rel,⟨o,h1,h2,h3⟩,h4⟩
theorem Ep:∀{kvs:List (List d4×V)}{xs:List (List d4×Addr×Value)}{i:Nat}{x:List d4×Addr×Value},KT H kvs xs->xs[i]?=↑x->∃p,kvs[i]?=↑p/\p.1=x.1/\H x.2.1=↑(.tup (p.1.map kV))/\RelV p.2 x.2.2
 |_,_,_,_,.nil,h=>by simp at h
 |_,_,0,x,.cons (a:=p) hq _,h=>by
  let e:=aaa (show ↑_=↑x from h);subst e;exact⟨p,(),hq⟩
 |_,_,i+1,x,.cons _ t,h=>by
  let⟨p,h1,h2⟩:=Ep (i:=i) t ‹h›;exact⟨p,by simpa using h1,h2⟩
def kt_len (h:KT H kvs xs):↥kvs=↥xs:=Paired.length h
def FW:V->List V->Hp->VK->Prop:=λx xs H Q=>∃a kvs,x=.ref a/\xs=[]/\H a=↑(.dT kvs)/\∀v,H v=none->Q (.ref v) (aP H v (gk v a))
def yl:YX X "dict.values" FW:=by
 intro ae s σ H x xs v us Q I r rs h;let⟨a,kvs,rfl,rfl,ha,q⟩:=h;cases rs;cases r;let⟨z,hd,xs,es,ep,rel,Bj,_⟩:=sT I (.inl ha);let ty:s.TypeIs (.ref a) "dict":=let ⟨o,ho,hx,_⟩:=Bj;⟨o,ho,hx.1⟩;apply call_meetsIn PySem.F.slot_dict_values ty PySem.F.entry_dict_values (PySem.F.args_dict_values_1 _) (xZ a hd es ep) ⟨Bj,?_⟩;let hv:(s.heap.push { cls:=.type "dict_values",data:=.fields #[.ref a] }).IsValuesView ⇑s a:=⟨_,Z0 _ rfl,(),()⟩;apply⟨.ref ⇑s,_,I.laid (t':=s.toks) (o:=gk ⇑s a) (λ_ _ q=>Zn _ q) (Zf _) ⟨hv,⟨_,Z0 _ rfl⟩,λh1 h2 w1 hk=>?_⟩,(),q _ I.fresh⟩;let⟨o,e,c⟩:=w1;exact⟨o,hk o e,c⟩
def mj (hc:X.calm):cg X (.builtin "max") (λxs H Q=>∃v a kvs ns,xs=[.ref v]/\H v=↑(gk v a)/\Rd H a (.dT kvs)/\kvs.map (·.2)=ns.map V.int/\ns≠[]/\∀m,m∈ns->(∀n∈ns,n<=m)->Q (.int m) H):=by
 intro ae s σ H xs us Q I r h;let⟨v,a,kvs,ns,rfl,hv,ha,Ss,bF,q⟩:=h;let⟨u,rfl,ru⟩:=vals1 r;cases ru;let⟨z,hd,xs,es,ep,rel,Bj,HM⟩:=sT I ha;let Es:s.heap.IsValuesView v a:=(I.ca v _ hv).1;let hsz:es.size=↥xs:=by have:=ata List.length HM;simpa using this
 let hlk:=kt_len rel;let hln:↥kvs=↥ns:=by have:=ata List.length Ss;simpa using this
 let eY:0<↥ns:=Xg.mpr bF;let hda:a<⇑s:=by let⟨o,e,_⟩:=Bj;exact Zq e
 let val:∀(i:Nat) (x:Value),(∃h:i<es.size,x=es[i].val)->∃t,x=Value.int ((ns[i]?).getD 0) t:=λi x hx=>by
  let⟨hi,rfl⟩:=hx;let ND:i<↥xs:=⋯;let⟨p,h1,h2,h3,h4⟩:=Ep rel (Zc ND);let e1:es[i].val=xs[i].2.2:=by
   let h5:es.toList[i]?=↑(entryOfKey (tupleKind (mr X.prog X.w)) xs[i]):=by rw[HM,Zo,Zc ND];rfl
   rw[Array.getElem?_toList,Array.getElem?_eq_getElem hi] at h5;rw[aaa h5];rfl
  let e2:=ata (λl=>l[i]?) Ss;simp only[Zo,h1,Y5] at e2;cases e3:ns[i]? with
  |none=>rw[e3] at e2;cases e2
  |some n =>
   rw[e3] at e2;simp only[Y5,Option.some.injEq] at e2;rw[e2] at h4;rw[e1];exact h4
 apply call_max_walk (qk Es Bj ?_);apply⟨⇑s,[⇑s,a],[⇑s],es.size,_,_,(λi j=>decide ((ns[i]?).getD 0>(ns[j]?).getD 0)),(),Walks.JJ (A:=X.A.in1) (I.ok.hd hc) ⇑s a (Ye hda) es ep,
  ⟨⟨_,Z0 _ rfl,(),()⟩,Bj.at λo e=>Zn _ e⟩,λb hb=>?_,⋯,CmpOf.ints_gt (λi=>(ns[i]?).getD 0) val,λx h' tk hP kk=>?_⟩
 .rw[Y7];simp only[Zj,Q6,or_false] at hb;rcases hb with rfl |rfl
  .exact Nat.lt_succ_self _
  .exact Nat.lt_succ_of_lt hda
 let⟨t,rfl⟩:=val _ _ hP;let⟨h1,h2⟩:=argBest_gt (λi=>(ns[i]?).getD 0) (es.size-1);generalize argBest (λi j=>decide ((ns[i]?).getD 0>(ns[j]?).getD 0)) (es.size-1)=ab at h1 h2 ⊢;let cN:ab<↥ns:=⋯;apply⟨.int ((ns[ab]?).getD 0),H,I.kept (t':=tk) λb o e=>kk b o (λz=>?_) (Zn _ e),⟨t,()⟩,q _ ?_ λn hn=>?_⟩
 .have:=Zq e;simp at z;rw[z] at this;exact Yl _ this
 .rw[Zc cN];exact Zw cN
 .obtain⟨j,hj,rfl⟩:=Yf hn;have:=h2 j ⋯;rw[Zc hj] at this;exact this
end
section
def Inv.KW (I:Inv X ae σ H s)(ha:H a=↑(.dT kvs))(ho:s.heap.get? a=↑o):Inv X ae σ (aP H a (.iK o (.dT kvs))) s:=by
 apply I.write (x:=a) (e:=a) (t':=s.toks) (h':=s.heap) (by rw[ha];exact True.intro) (.inl rfl) (λ_ _ _ e=>e) ⟨o,ho⟩ ⟨ho,?_⟩;let⟨z,hd,xs,rel,r⟩:=(show cf X.prog X.w H s.heap a (.dT kvs) from I.ca a _ ha);exact⟨z,hd,xs,KT.keeps rel λb ys e=>by rw[dE (uS e ha (by intro z;cases z))];exact e,r⟩
def IX (a:Addr)(o:Obj)(kvs:List (List d4×V)):It :=
 ⟨λi H=>H a=↑(.iK o (.dT kvs))/\i<↥kvs,λi H x H'=>H'=H/\∃b k v,kvs[i]?=↑(k,v)/\x=.ref b/\H b=↑(.tup (k.map kV)),λi H=>H a=↑(.iK o (.dT kvs))/\↥kvs<=i⟩
def rB (I:Inv X ae σ H s)(hg:H a=↑(.iK o (.dT kvs)))(Ht:o.data=.dict Bn ep) :
  ∃xs,KT H kvs xs/\lJ s.heap a Bn ep/\Bn.toList=xs.map (entryOfKey (tupleKind (mr X.prog X.w))):=by
 let⟨z,hd,xs,es,TY,rel,⟨o',rP,hx,ID⟩,HM⟩:=sT I (.inr ⟨o,hg⟩);let⟨ho,_⟩:=I.ca a _ hg;have:o'=o:=by rw[ho] at rP;exact(aaa rP).symm
 subst this;rw[Ht] at ID;injection ID with h1 h2
 subst h1 h2;exact⟨xs,rel,⟨o',rP,hx,Ht⟩,HM⟩
def xV {K:Θ1}(a it:Addr)(o:Obj)(kvs:List (List d4×V))(Bn:Array DictEntry)(ep:Nat)(Ht:o.data=.dict Bn ep)(hl0:Bn.size=↥kvs):Turn P w K tg (IX a o kvs) [it] it (λi h=>h.IsKeyIter it a i Bn.size ep) where
 mem:=by simp
 obj:=λi h st b hb=>by
  obtain rfl:b=it:=by simpa using hb
  let⟨o',e,c,d⟩:=st;exact⟨o',e,λv z=>by rw[d] at z;cases z⟩
 keep:=λi h h' st k=>st.at λo e=>k it (by simp) o e
 item:=by
  intro X hP hw hK hc i ae s σ H E I hf st hg;subst hP hw hK;let⟨hg,hi⟩:=hg;let⟨xs,rel,Bj,HM⟩:=rB I hg Ht;let⟨f0,f1,f2,f3,f4,f5⟩:=hf it (by simp);let hi0:i<Bn.size:=⋯;apply JI st Bj hi0 λh' uj sb=>?_
  let I1:Inv X ae σ H { s with heap:=h' }:=I.turned (t':=s.toks) (λb o hb e=>(sb.2 b hb).trans e) f0 f1 f3 f4 f5;let⟨o1,e1,c1,d1⟩:=id uj;let ND:i<↥xs:=by rw[<- kt_len rel];exact hi
  let⟨p,h1,h2,h3,h4⟩:=Ep rel (Zc ND);let ek:Bn[i].key=.ref xs[i].2.1:=by
   let h5:Bn.toList[i]?=↑(entryOfKey (tupleKind (mr X.prog X.w)) xs[i]):=by rw[HM,Zo,Zc ND];rfl
   rw[Array.getElem?_toList,Array.getElem?_eq_getElem hi0] at h5;rw[aaa h5];rfl
  apply⟨Bn[i].key,(),uY (s:={ s with heap:=h' }) e1 c1 d1 ∅ ⟨.ref xs[i].2.1,H,I1,ek,⟨rfl,xs[i].2.1,p.1,p.2,h1,rfl,h3⟩,uj,λb hb=>(hf b hb).1⟩⟩
 done:=by
  intro X hP hw hK hc i ae s σ H E I hf st hg;subst hP hw hK;let⟨hg,hi⟩:=hg;let⟨xs,rel,Bj,HM⟩:=rB I hg Ht;let⟨f0,f1,f2,f3,f4,f5⟩:=hf it (by simp);exact v4 (I.ok.hd hc) st Bj ⋯ λh' eb=>⟨(),I.turned (t':=s.toks) (λb o hb e=>eb b o hb e) f0 f1 f3 f4 f5⟩
 self:=λ_ _ _ _ _ st h=>wpAny_pyIter_keyiter st h
def RJ (td:TE):TI:=λσ H R=>td σ H λx H1=>∃a kvs,x=.ref a/\H1 a=↑(.dT kvs)/\∀o,R (IX a o kvs) (aP H1 a (.iK o (.dT kvs)))
def Gf (hl:PE X l td):PI X tg l (RJ td):=by
 intro ae s σ H R I h;apply bH (hl ae s σ H _ I h) λv s1 ⟨x,H1,I1,r1,q1⟩=>?_
 let⟨a,kvs,e,ha,q⟩:=q1;subst e;cases r1;let⟨z,hd,xs,es,ep,rel,Bj,HM⟩:=sT I1 (.inl ha);let⟨o,ho,hx,ID⟩:=id Bj;apply FU hd Bj ?_;let I2:=I1.KW ha ho;let hsz:es.size=↥kvs:=by have:=ata List.length HM;rw[kt_len rel];simpa using this
 apply⟨⇑s1,[⇑s1],_,IX a o kvs,_,(),I2.kept (t':=s1.toks) λb o e=>Zn _ e,xV a _ o kvs es ep ID hsz,⟨_,Z0 _ rfl,(),()⟩,λb hb=>?_,q o⟩;obtain rfl:b=⇑s1:=by simpa using hb
 exact I2.jO (Zf _) (I2.ca.fresh (Zf _))
end
section
def yM (Pv:Nat->List V->Hp->Prop)(h0:Pv 0 [] (aP dw acc (.lst [])))(hl:∀(i:Nat) zs H,i<=↥kvs->H acc=↑(.lst zs)->Pv i zs H->H a=↑(.iK o (.dT kvs)))
  (hs:∀(i:Nat) k v b zs H,kvs[i]?=↑(k,v)->H b=↑(.tup (k.map kV))->H acc=↑(.lst zs)->Pv i zs H->tt (au.set 0 ↑(.ref b)) H λc H4 =>
   if c=true then te (au.set 0 ↑(.ref b)) H4 λy H5=>∃us,H5 acc=↑(.lst us)/\↥us<sizeLine/\Cn au acc (Pv (i+1)) (au.set 0 ↑(.ref b)) (aP H5 acc (.lst (us++[y]))) else Cn au acc (Pv (i+1)) (au.set 0 ↑(.ref b)) H4)
  (hd:∀zs H,H acc=↑(.lst zs)->Pv ↥kvs zs H->Q (.ref acc) H):hV (fu 0) tt te (IX a o kvs) acc au dw Q:=by
 apply⟨λi m σ H=>m=↥kvs-i/\i<=↥kvs/\Cn au acc (Pv i) σ H,⟨↥kvs,by simp,Z9 _,λ_=>rfl,[],eC,h0⟩,?_⟩;rintro i m σ H ⟨rfl,hi,wV,zs,hy,p⟩;let q:=hl i zs H hi hy p;by_cases cN:i<↥kvs
 .apply .inr ⟨⟨q,cN⟩,Cn au acc (Pv (i+1)),λaO H' c=>⟨↥kvs-(i+1),⋯,(),cN,c⟩,λx H' y=>?_⟩;let⟨e,b,k,v,hk,ek,hb⟩:=y;subst e ek;show tt (σ.set 0 _) _ _;rw[wV];exact hs i k v b zs _ hk hb hy p
 .let e:i=↥kvs:=⋯;subst e;exact .inl ⟨⟨q,Zf _⟩,hd zs H hy p⟩
end
end L2
namespace PySem
section
def t8 (W:Walks prog w A.in1 I fp wr n P St)(kf:Nat->Int)(S:Addr)(SD:S∉fp)(J:Heap->Prop)
  (hJ:∀h h',J h->(∀b o,b∉wr->b≠S->h.get? b=↑o->h'.get? b=↑o)->J h')
  (uI:∀i v (s:Shared) (Q:Θ2) (E:Θ2),P i v->J s.heap->(∀t tk,Q (.int (kf i) t) { s with toks:=tk })->wpAny (model prog w) A.in1 (call (.builtin "len") [v]) Q E s) :
  ∀(r j i:Nat) (s:Shared) (vb:Value) (tb:Tok) (c:Nat),n-(j+1)=r->j+1<=n->St (j+1) s.heap->J s.heap->P i vb->i<=j->(∀j',j'<=j->(kf j')<=(kf i)/\(j'<i->(kf j')<(kf i))) ->
   s.heap.get? S=some { cls:=.type "list",data:=.seq #[vb,.int (kf i) tb] c } ->
   (∀i v h' tk,P i v->i<n->(∀j,j<n->(kf j)<=(kf i)/\(j<i->(kf j)<(kf i)))->(∀b o,b∉wr->b≠S->s.heap.get? b=↑o->h'.get? b=↑o)->R (.ok (.ret v)) { s with heap:=h',toks:=tk }) ->
   codeAny (model prog w) A (.builtin "max.loop" ⟨[.ref I,.builtin "len",.ref S],[]⟩) R s:=by
 let uV:(toString "max" ++ toString ".loop" : String)="max.loop":=∅;let HP:S∉wr:=λh=>SD (W.sub _ h)
 intro r;induction r with
 |zero =>
  intro j i s vb tb c hr hj nS hJs χ hij jT hS hR;let hin:j+1=n:=⋯;apply codeAny_builtin F.entry_max_loop ?_;rw[Around.under_plainId F.plain_max_loop _];show wpAny _ A.in1 (seqItems? (.ref S) >>= _) _ _ _;apply Za (wpAny_seqItems hS rfl ?_);show wpAny _ A.in1 (tryCatch (pyNext (.ref I)) _ >>= _) _ _ _;apply Za (wpAny_tryCatch (W.done _ _ _ (by rw[<- hin];exact nS) λh' tk' my=>?_));let LD:=my S _ HP hS;show wpAny _ A.in1 (updateSeq S (λ_=>#[]) >>= _) _ _ _;apply Za (wpAny_updateSeq LD rfl (Za (wpAny_letGo (aba ?_))));exact hR i vb _ _ χ ⋯ (λj' mV=>jT j' ⋯) λb o hb Hx e=>(Xv _ _ (Ne.symm Hx)).trans (my b o hb e)
 |succ r ih =>
  intro j i s vb tb c hr hj nS hJs χ hij jT hS hR;let cN:j+1<n:=⋯;apply codeAny_builtin F.entry_max_loop ?_;rw[Around.under_plainId F.plain_max_loop _];show wpAny _ A.in1 (seqItems? (.ref S) >>= _) _ _ _;apply Za (wpAny_seqItems hS rfl ?_);show wpAny _ A.in1 (tryCatch (pyNext (.ref I)) _ >>= _) _ _ _;apply Za (wpAny_tryCatch (W.item (j+1) _ _ _ cN nS λv h' tk' hP Iz my=>?_));let LD:=my S _ HP hS;let SG:=hJ _ h' hJs λb o hb _ e=>my b o hb e
  let step:∀(h2:Heap) (Na:Nat) (i2:Nat) (v2:Value) (t2:Tok) (c2:Nat),St (j+1+1) h2->J h2->P i2 v2->i2<=j+1->(∀j',j'<=j+1->(kf j')<=(kf i2)/\(j'<i2->(kf j')<(kf i2))) ->
    h2.get? S=some { cls:=.type "list",data:=.seq #[v2,.int (kf i2) t2] c2 }->(∀b o,b∉wr->b≠S->h'.get? b=↑o->h2.get? b=↑o) ->
    codeAny (model prog w) A (.builtin "max.loop" ⟨[.ref I,.builtin "len",.ref S],[]⟩) R { s with heap:=h2,toks:=Na }:=λh2 Na i2 v2 t2 c2 a1 a2 a3 a4 a5 a6 a7 =>
   ih (j+1) i2 { s with heap:=h2,toks:=Na } v2 t2 c2 ⋯ cN a1 a2 a3 a4 a5 a6 λi3 v3 h3 SX b1 b2 b3 b4=>hR i3 v3 h3 SX b1 b2 b3 λb o hb Hx e=>b4 b o hb Hx (a7 b o hb Hx (my b o hb e))
  apply Za (wpAny_tryCatch (apa (uI (j+1) v _ _ _ hP SG λt2 Na=>?_)));apply Za (wpAny_tryCatch (apa (Za (CmpOf.ints_gt (prog:=prog) (w:=w) (A:=A.in1) (P:=λi v=>∃t,v=.int (kf i) t) kf (λi v h=>h) (j+1) i _ _ _ _ _ ⟨t2,()⟩ ⟨tb,()⟩ ?_))));apply Za (apa (ara (Za (wpAny_letGo (aba ?_)))));by_cases qy:(kf i)<(kf (j+1))
  .simp only[gt_iff_lt,qy,decide_true,if_true];apply Za (wpAny_updateSeq LD rfl (Za (wpAny_letGo ?_)));rw[uV];apply aba ⟨plainId_quiet F.plain_max_loop _,step _ _ (j+1) v t2 _ (W.frame _ _ _ Iz λb hbf o e=>(Xv _ _ (λh:S=b=>SD (by rw[h];exact hbf))).trans e) (hJ _ _ SG λb o _ Hx e=>(Xv _ _ (Ne.symm Hx)).trans e) hP (Zf _) (λj' mV=>?_) (Qp _ LD rfl) λb o _ Hx e=>(Xv _ _ (Ne.symm Hx)).trans e⟩;by_cases e:j'=j+1
   .subst e;exact⟨⋯,λ_=>⋯⟩
   .let m9:=jT j' ⋯;let pP:=m9.1;exact⟨⋯,λ_=>⋯⟩
  .simp only[gt_iff_lt,qy,decide_false,Qm,if_false];apply Za (wpAny_letGo ?_);rw[uV];apply aba ⟨plainId_quiet F.plain_max_loop _,step _ _ i vb tb c Iz SG χ ⋯ (λj' mV=>?_) LD λb o _ _ e=>e⟩;by_cases e:j'=j+1
   .subst e;exact⟨⋯,λ_=>⋯⟩
   .exact jT j' ⋯
def t9
  (h:wpAny (model prog w) A.in1 (pyIter x) (λit dm=>∃(I:Addr) (fp wr:List Addr) (n:Nat) (P:Nat->Value->Prop) (St:Nat->Heap->Prop) (kf:Nat->Int) (J:Heap->Prop),it=.ref I/\Walks prog w A.in1 I fp wr n P St/\St 0 dm.heap/\(∀b∈fp,b<⇑dm)/\0<n/\(∀S,dm.heap.get? S=none->∀h h',J h->(∀b o,b∉wr->b≠S->h.get? b=↑o->h'.get? b=↑o)->J h')/\(∀h',(∀b o,dm.heap.get? b=↑o->h'.get? b=↑o)->J h') /\
   (∀i v (s:Shared) (Q:Θ2) (E:Θ2),P i v->J s.heap->(∀t tk,Q (.int (kf i) t) { s with toks:=tk })->wpAny (model prog w) A.in1 (call (.builtin "len") [v]) Q E s) /\
   ∀i v h' tk,P i v->i<n->(∀j,j<n->(kf j)<=(kf i)/\(j<i->(kf j)<(kf i)))->(∀b o,b∉wr->dm.heap.get? b=↑o->h'.get? b=↑o)->Q v { dm with heap:=h',toks:=tk }) E s) :
  wpAny (model prog w) A (call (.builtin "max") [x] [(Str.ofString "key",.builtin "len")]) Q E s:=by
 let uV:(toString "max" ++ toString ".loop" : String)="max.loop":=∅;apply PyProof.Rows.kmk_tree F.kind_max F.plain_max F.entry_max (PyProof.Rows.kmk_max_key _ _) ?_;apply Za (wpAny_of_eq (show Builtin.Builtins.bindParams "max" ["key","default"] 0 ⟨[],[(Str.ofString "key",.builtin "len")]⟩=pure [↑(.builtin "len"),none] from rfl) (Za (aba (Za (ana h (λit dm xl=>?_) λ_ _ e=>e)))));let⟨I,fp,wr,n,P,St,kf,J,rfl,W,nS,DC,hn,hJ,hJ0,uI,hQ⟩:=xl;apply Za (aka ?_);let SD:⇑dm∉fp:=λhm=>Yl _ (DC _ hm)
 let HP:⇑dm∉wr:=λh=>SD (W.sub _ h)
 let TR:dm.heap.get? ⇑dm=none:=by
  cases e:dm.heap.get? ⇑dm with
  |none=>rfl
  |some o=>exact afa (Zq e) (Yl _)
 rw[uV];apply aba ⟨plainId_quiet F.plain_max_loop _,codeAny_builtin F.entry_max_loop ?_⟩;let gS:(dm.heap.push { cls:=.type "list",data:=.seq #[] }).get? ⇑dm=some { cls:=.type "list",data:=.seq #[] }:=Z0 _ rfl;let old:∀b o,dm.heap.get? b=↑o->b≠⇑dm:=λb o e=>Ye (Zq e)
 rw[Around.under_plainId F.plain_max_loop _];show wpAny _ A.in1 (seqItems? (.ref _) >>= _) _ _ _;apply Za (wpAny_seqItems gS rfl ?_);apply Za (wpAny_tryCatch (W.item 0 _ _ _ hn (W.frame _ _ _ nS λb _ o e=>Zn _ e) λv h' tk' hP Iz my=>?_));let LD:=my _ _ HP gS;let SG:J h':=hJ _ TR _ h' (hJ0 _ λb o e=>Zn _ e) λb o hb _ e=>my b o hb e
 apply Za (wpAny_tryCatch (apa (uI 0 v _ _ _ hP SG λt2 Na=>?_)));apply Za (wpAny_updateSeq LD rfl ?_);rw[uV];apply aba ⟨plainId_quiet F.plain_max_loop _,t8 W kf _ SD J (hJ _ TR) uI _ 0 0 _ v t2 _ rfl hn (W.frame _ _ _ Iz λb hbf o e=>(Xv _ _ (λh:⇑dm=b=>SD (by rw[h];exact hbf))).trans e) (hJ _ TR _ _ SG λb o _ Hx e=>(Xv _ _ (Ne.symm Hx)).trans e) hP (Zf _) (λj' mV=>?_) (Qp _ LD rfl) λi3 v3 h3 SX b1 b2 b3 b4=>?_⟩
 .obtain rfl:j'=0:=⋯;exact⟨⋯,λh=>afa h ⋯⟩
 .exact hQ i3 v3 h3 SX b1 b2 b3 λb o hb e=>b4 b o hb (old b o e) ((Xv _ _ (Ne.symm (old b o e))).trans (my b o hb (Zn _ e)))
end
end PySem
namespace L2
open PySem.Spec PyProof.Rows
def oO (g:TG)(tt:TT)(tk tv:TE)(J:It)(acc:Addr)(au:St)(dw:Hp)(Q:VK):Prop :=
 ∃W:Nat->Nat->St->Hp->Prop,(∃m,W 0 m au (aP dw acc (.dT [])))/\∀i m aO H',W i m aO H' ->
  (J.stop i H'/\Q (.ref acc) H') \/
  (J.go i H'/\∃N:St->Hp->Prop,(∀cT H2,N cT H2->∃m',m'<m/\W (i+1) m' cT H2)/\∀x H2,J.qo i H' x H2->g x aO H2 λdD H3=>tt dD H3 λb H4 =>
   if b=true then tk dD H4 λkx H5=>tv dD H5 λy H6=>∃kvs k b,H6 acc=↑(.dT kvs)/\kx=.ref b/\H6 b=↑(.tup (k.map kV))/\↥kvs<sizeLine/\N dD (aP H6 acc (.dT (d6 kvs k y))) else N dD H4)
def Jl (wi:TI)(g:TG)(tt:TT)(tk tv:TE)(own:Nat)(ix:List Nat):TE:=λσ H Q=>wi σ H λJ H1=>∀acc,H1 acc=none->oO g tt tk tv J acc (dH own ix σ) H1 Q
def yK (hu:(tupleKind (mr X.prog X.w)).room A)(I:Inv X ae σ H s)
  (e:H a=↑(.dT kvs)) (eb:H b=↑(.tup (k.map kV))) (rv:RelV v r) (l:↥kvs<sizeLine) (h:∀s',Inv X ae σ (aP H a (.dT (d6 kvs k v))) s'->Q ⟨⟩ s'):wpAny (model X.prog X.w) A (dictSet a (.ref b) r) Q E s:=by
 let⟨z,hd,xs,rel,dd⟩:=MQ I.ca e;let hz:↥xs<=sizeLine:=by rw[<- Paired.length rel];exact z
 let hl:↥(d6 kvs k v)<=sizeLine:=by have:=gf kvs k v;omega
 apply wpAny_dictSet_heap (hsz:=hz) hu (oH I.ca eb) dd λh' HR hs=>h _ ?_
 let⟨q,es,ep,hq,h2,h3,h4,_,h5⟩:=HR;apply nL I (by rw[e];exact True.intro) hs ⟨q,hq⟩ ⟨hl,hd,_,(rel.put k eb rv).keeps λc ys ec=>?_,q,es,ep,hq,h2,h3,h4,h5⟩;rw[dE (uS ec e (λz=>nomatch z))];exact ec
section
variable {tk tv:TE}
def wC {RR:Value->Addr->Result->Shared->Prop}
  (hu:(tupleKind (mr X.prog X.w)).room X.A) (B:aH X scope own cap ix) (hc:X.calm)
  (hb:∀C fp s H,PG (cX X scope C (own++cap) fp s H) tg g/\dU (cX X scope C (own++cap) fp s H) eR tt/\PE (cX X scope C (own++cap) fp s H) kx tk/\PE (cX X scope C (own++cap) fp s H) vx tv)
  (I2:Inv X ae σ H2 s2) (T:Turn X.prog X.w X.K tg J fp it tn) (fU:tn 0 s2.heap) (f2:∀b∈fp,eZ X ae H2 b)
  (q:∀acc,H2 acc=none->oO g tt tk tv J acc (dH ↥own ix σ) H2 Q)
  (HQ:∀D C H' s' m,Inv X ae σ H' s'->Q (.ref D) H'->s'.heap.Ns C m->eZ X ae H' C->RR (.ref D) C (.ok .next) s') :
  X∪newDict (λacc iO=>X∪(newFunctionEnv scope X.env.globals (d8 X.env scope.names []) [] X.env.qual none .none ↑X.env) (λkE gi =>
   codeAny (model X.prog X.w) X.A (.compStart (.DictComp kx vx [⟨tg,iter,eR,0⟩] scope pos) 0 (.ref it) acc { kE with scope:=relabel scope X.env }) (RR acc kE.locals) gi) E iO) E s2:=by
 apply aka (zQ (Dq:=λD σ H N=>tk σ H λkx H5=>tv σ H5 λy H6=>∃kvs,∃k:List d4,∃b,H6 D=↑(.dT kvs)/\kx=.ref b/\H6 b=↑(.tup (k.map kV))/\↥kvs<sizeLine/\N σ (aP H6 D (.dT (d6 kvs k y)))) (ST:=ZZ X.prog X.w X.A kx vx) B hc (λC D=>rf) (λ_ _ _ _=>codeAny_compStart_dict) (λC fp s H=>⟨(hb C fp s H).1,(hb C fp s H).2.1,λD P σ H' s' N G I q k=>?_⟩) I2
  (I2.laid (a:=⇑s2) (o:=.dT []) (h':=s2.heap.push { cls:=.type "dict",data:=.dict #[] }) (t':=s2.toks) (λ_ _ q=>Zn _ q) (Zf _) (G2 s2.heap I2.big)) T fU f2 q HQ)
 apply bH ((hb C fp s H).2.2.1 _ s' σ H' _ I q) λkv R9 h9=>?_
 let⟨yk,Ud,Ub,S6,Lm⟩:=h9;apply bH ((hb C fp s H).2.2.2 _ R9 σ Ud _ Ub Lm) λvv XR h9=>?_
 let⟨yv,H11,NT,U',kvs,k',b,hk,ek,ac2,hz,Ng⟩:=h9;subst ek;cases (show kv=Value.ref b from S6);exact yK (X:=cX X scope C (own++cap) fp s H) (E:=λ_ _=>False) (A:=X.A) hu NT hk ac2 U' hz λs' I'=>k _ _ _ I' Ng
def B5 (hu:(tupleKind (mr X.prog X.w)).room X.A)(B:aH X scope own cap ix)(hc:X.calm)(hi:PI X tg iter wi)
  (hb:∀C fp s H,PG (cX X scope C (own++cap) fp s H) tg g/\dU (cX X scope C (own++cap) fp s H) eR tt/\PE (cX X scope C (own++cap) fp s H) kx tk/\PE (cX X scope C (own++cap) fp s H) vx tv)
  (hs:∀x,foldedSetIterable iter X.env x=pure x:=by intro _;rfl):PE X (.DictComp kx vx [⟨tg,iter,eR,0⟩] scope pos) (Jl wi g tt tk tv ↥own ix):=by
 intro ae s σ H Q I h;rw[arm_eval_DictComp];let has:∀x∈scope.names,x.2=.free->(X.env.cells.lookup x.1).isSome:=λx hx hk=>by
  let⟨c,e⟩:=I.ok.has x.1 (B.frees x hx hk);rw[e];rfl
 apply wpAny_comprehension_free (use:=none) rfl hs (Sk has) B.kind B.names ?_;show wpAny _ _ (eval iter X.env) _ _ s;apply bH (hi ae s σ H _ I h) λv s1 h1=>bH h1 λHI s2 h2=>?_
 let⟨it,fp,tn,J,H2,e,I2,T,fU,f2,q⟩:=h2;subst e;apply wC (RR:=λacc C=>compPost (model X.prog X.w) X.A X.xe none (EP X ae σ Q) acc C) hu B hc hb I2 T fU f2 q ?_;intro D C H' s' m I' q' hn fC;apply⟨m,hn,λh' ut=>⟨.ref D,H',?_,(),q'⟩⟩;exact I'.turned (t':=s'.toks) (it:=C) (λb o DD e=>(ut.2 b DD).trans e) fC.1 fC.2.1 fC.2.2.2.1 fC.2.2.2.2.1 fC.2.2.2.2.2
end
section
def TsK (K:Θ1)(H:Hp)(ys:List V)(ks:List (List V)):Prop:=↥ys=↥ks/\∀(j:Nat) x,ys[j]?=↑x->∃b,x=.ref b/\aN K H b (ks∩j)
end
section
def JL (K:Θ1):List V->Hp->VK->Prop:=λxs H Q=>∃(p:Addr) (ys:List V) (ks:List (List V)),xs=[.ref p]/\bI K H p ys/\ks≠[]/\TsK K H ys ks /\
 ∀(i:Nat) (b:Addr),ys[i]?=↑(.ref b)->i<↥ks->(∀j,j<↥ks->↥(ks∩j)<=↥(ks∩i)/\(j<i->↥(ks∩j)<↥(ks∩i)))->Q (.ref b) H
def B4 (K:Θ1)(hc:X.calm)(hg:Gl X "max")(hm:X.mg "max"=none)(TF:Gl X "len")(Su:X.mg "len"=none)(ha:PA X [e] t)(hK:X.K=K:=by rfl)
  (he:backTo pos (starEach [e] X.env)=[(false,eval e X.env)]:=by rfl):PE X (.Call (.Name "max" p) [e] [⟨some "key",.Name "len" p2,p3⟩] pos) (ZY (JL K) t):=by
 subst hK;intro ae s σ H Q I h;apply wpAny_Call_Name_kw (gq I hg hm boot_max ?_);apply PyProof.Rows.callWith_kw (bH (ha pos ae s σ H _ I h) λus s1 ⟨vs,H1,I1,r1,q1⟩=>?_) (by rw[he];rfl) (by rw[he];rfl);apply PyProof.Rows.kws_cons (gq I1 TF Su Yj (PyProof.Rows.kws_nil ?_));let⟨pl,ys,ks,rfl,hl,bF,⟨cA,hts⟩,q⟩:=q1;let⟨u,rfl,ru⟩:=vals1 r1;cases ru;show wpAny _ _ (call (.builtin "max") [.ref pl] [(Str.ofString "key",.builtin "len")]) _ _ _;apply t9 (gK I1 (I1.ok.hd hc) (.inl hl) λit fp wr its St s2 rv W Nd DC Vh=>?_);let TC:=↥rv;let Sy:↥its=↥ks:=⋯;let hn:0<↥ks:=Xg.mpr bF;apply⟨it,fp,wr,↥its,_,St,(λi=>(↥(ks∩i):Int)),(λh=>∀b o,b∉wr->s2.heap.get? b=↑o->h.get? b=↑o),(),W,Nd,DC,⋯,?_,?_,?_,?_⟩
 .intro S hS h h' J k b o hb e;exact k b o hb (λz=>by rw[z,hS] at e;cases e) (J b o hb e)
 .intro h' k b o _ e;exact k b o e
 .intro i v s3 Q3 E3 hP J hQ;let I3:=Vh s3.heap s3.toks J;let⟨x,hx,rx⟩:=bw.at rv hP;let⟨b,rfl,hb⟩:=hts i x hx;cases rx;let⟨acL,r3,pl3,υ⟩:=I3.tuple hb;let e3:((acL.toArray.size:Nat):Int)=(↥(ks∩i):Int):=by rw[Z2,↥r3]
  let hn3:=j8;let hl3:=↥r3;apply len_tuple (s:=s3) pl3 (by simp only[Z2]<;>omega) ?_;rw[e3];exact hQ _ _
 .intro i v h' tk hP hi jT hk;let⟨x,hx,rx⟩:=bw.at rv hP;let⟨b,rfl,hb⟩:=hts i x hx;cases rx;exact⟨.ref b,H1,Vh h' tk hk,(),q i b hx ⋯ λj hj=>by
   let m9:=jT j ⋯;exact⟨Int.ofNat_le.mp m9.1,λz=>Int.ofNat_lt.mp (m9.2 z)⟩⟩
end
end L2
namespace L2
open PySem.Spec PyProof.Rows KG
section
variable {K:Θ1}{tk tv:TE}
def NU (au:St)(acc:Addr)(P:List (List d4×V)->Hp->Prop)(σ:St)(H:Hp):Prop:=(∀u,σ.set 0 u=au.set 0 u)/\∃ys,H acc=↑(.dT ys)/\P ys H
def NU.of (h:H acc=↑(.dT ys))(p:P ys H):NU au acc P (au.set 0 u) H:=⟨λv=>by cases au<;>rfl,ys,h,p⟩
def wB (Pv:Nat->List (List d4×V)->Hp->Prop)(h0:Pv 0 [] (aP dw acc (.dT [])))(hl:∀(i:Nat) zs H,i<=↥xs->H acc=↑(.dT zs)->Pv i zs H->bI K H a xs)
  (hs:∀(i:Nat) x zs H,xs[i]?=↑x->H acc=↑(.dT zs)->Pv i zs H->tt (au.set 0 ↑x) H λb H4 =>
   if b=true then tk (au.set 0 ↑x) H4 λkx H5=>tv (au.set 0 ↑x) H5 λy H6=>∃us k b,H6 acc=↑(.dT us)/\kx=.ref b/\H6 b=↑(.tup (k.map kV))/\↥us<sizeLine/\NU au acc (Pv (i+1)) (au.set 0 ↑x) (aP H6 acc (.dT (d6 us k y)))
   else NU au acc (Pv (i+1)) (au.set 0 ↑x) H4)
  (hd:∀zs H,H acc=↑(.dT zs)->Pv ↥xs zs H->Q (.ref acc) H):oO (fu 0) tt tk tv (Bs K a) acc au dw Q:=by
 apply⟨λi m σ H=>m=↥xs-i/\i<=↥xs/\NU au acc (Pv i) σ H,⟨↥xs,by simp,Z9 _,λ_=>rfl,[],eC,h0⟩,?_⟩;rintro i m σ H ⟨rfl,hi,wV,ys,hy,p⟩;let q:=hl i ys H hi hy p;by_cases cN:i<↥xs
 .apply .inr ⟨⟨xs,xs[i],q,by simp[cN]⟩,NU au acc (Pv (i+1)),λaO H' c=>⟨↥xs-(i+1),⋯,(),cN,c⟩,λx H' y=>?_⟩;let⟨e,y⟩:=y;subst e;show tt (σ.set 0 _) _ _;rw[wV];exact hs i x ys _ (y xs q) hy p
 .let e:i=↥xs:=⋯;subst e;exact .inl ⟨⟨xs,q,Zf _⟩,hd ys H hy p⟩
end
end L2
namespace KM
open L2 KG EX
def k7 (ns:Γ3)(p9:Nat):dX ns p9=((~~~↥ns).filter λk=>Nat.testBit p9 k).map λk=>ns\k:=by
 unfold dX
 congr 1
 apply Y4 λk _=>?_
 rw[Nat.testBit_eq_decide_div_mod_eq]
def Gd (h:k<2 ^ ↥ns):dX (ns++[m]) k=dX ns k:=by
 rw[k7,k7,Zv,Qy,Xb,Xp];let e:[↥ns].filter (λj=>Nat.testBit k j)=[]:=by simp[List.filter,Nat.testBit_lt_two_pow h]
 rw[e,Yn];apply Xd λj hj=>?_
 let mV:j<↥ns:=by simpa using(Ze.mp hj).1
 simp[List.getD,Zr mV]
def Ge (h:k<2 ^ ↥ns):dX (ns++[m]) (2 ^ ↥ns+k)=dX ns k++[m]:=by
 rw[k7,k7,Zv,Qy,Xb,Xp,Zs];let e:[↥ns].filter (λj=>Nat.testBit (2 ^ ↥ns+k) j)=[↥ns]:=by
  simp[List.filter,Nat.testBit_two_pow_add_eq,Nat.testBit_lt_two_pow h]
 rw[e];let e2:(~~~↥ns).filter (λj=>Nat.testBit (2 ^ ↥ns+k) j)=(~~~↥ns).filter (λj=>Nat.testBit k j):=by
  apply Y4 λj hj=>?_
  exact Nat.testBit_two_pow_add_gt ‹hj› k
 rw[e2]
 congr 1
 .apply Xd λj hj=>?_
  let mV:j<↥ns:=by simpa using(Ze.mp hj).1
  simp[List.getD,Zr mV]
 .simp[List.getD]
def ke (ns:Γ3)(m:Int):aT (ns++[m])=aT ns++(aT ns).map λs=>s++[m]:=by
 unfold aT;rw[Zv,Qy,Nat.pow_succ,Nat.mul_two,List.range_add,Zs,Zp,Zp]
 congr 1
 .exact Xd λk hk=>Gd ‹hk›
 .exact Xd λk hk=>Ge ‹hk›
def Sh (ns:Γ3):↥(aT ns)=2 ^ ↥ns:=by unfold aT;rw[Zb,Ys]
def cm:S∈aT ns↔S.Sublist ns:=by
 constructor
 .exact BU
 .intro h
  revert S
  suffices H:∀(ms S:Γ3),S.Sublist ms.reverse->S∈aT ms.reverse by
   intro S h;have:=H ns.reverse S;rw[List.reverse_reverse] at this;exact this h
  intro ms;induction ms with
  |nil=>intro S h;rw[List.reverse_nil] at h ⊢;rw[List.sublist_nil.mp h];exact Z3.mpr rfl
  |cons m ms ih =>
   intro S h;rw[List.reverse_cons] at h ⊢;rw[ke];let⟨a,b,rfl,ha,hb⟩:=List.sublist_append_iff.mp h;rcases List.sublist_cons_iff.mp hb with hb |⟨r,rfl,hr⟩
   .rw[List.sublist_nil.mp hb,Yn];exact Y8 _ (ih a ha)
   .rw[List.sublist_nil.mp hr];exact Ym _ (Zd.mpr ⟨a,ih a ha,()⟩)
def ji (h:ns.Nodup):(aT ns).Nodup:=by
 suffices H:∀ms:Γ3,ms.reverse.Nodup->(aT ms.reverse).Nodup by
  have:=H ns.reverse;rw[List.reverse_reverse] at this;exact this h
 intro ms;induction ms with
 |nil=>intro _;rw[List.reverse_nil];exact Yc.mpr ⟨by simp,Qa⟩
 |cons m ms ih =>
  intro hn;rw[List.reverse_cons] at hn ⊢;let Tw:=Qd.mp hn;rw[ke];apply Qd.mpr ⟨ih Tw.1,(ih Tw.1).map _ λa b SA z=>SA (List.append_cancel_right z),λa ha b hb z=>?_⟩;let⟨s,hs,rfl⟩:=Zd.mp hb;let h1:=(cm.mp ha).subset (by rw[z];simp:m∈a);exact(Tw.2.2 m h1 m (by simp)) rfl
def wsum (L:List Nat)(w:Nat->Rat)(p:Nat->Bool):Rat:=aK ((L.filter p).map w)
def pX (q:Rat)(qs:Δ1):aK (q::qs)=q+aK qs:=by
 let key:∀(l:Δ1) (z:Rat),l.foldl (λs q=>s+q) z=z+aK l:=by
  intro l;induction l with
  |nil=>intro z;unfold aK;simp[Qb]
  |cons i l ih=>intro z;unfold aK;rw[Xl,Xl,ih,ih,Yx,Rat.add_assoc]
 conv=>lhs;unfold aK
 rw[Xl,key,Yx]
def Dx (x:Nat)(L:List Nat)(w:Nat->Rat)(p:Nat->Bool):wsum (x::L) w p=(if p x=true then w x else 0)+wsum L w p:=by
 unfold wsum;cases h:p x with
 |true=>rw[Ja h,Zm,pX,aha rfl]
 |false=>rw[Qs (by rw[h];decide),aga ∅,Yx]
def kS (L:List Nat)(w:Nat->Rat)(p q:Nat->Bool):wsum L w (λx=>p x&&q x)+wsum L w (λx=>p x||q x)=wsum L w p+wsum L w q:=by
 induction L with
 |nil=>rfl
 |cons x L ih =>
  rw[Dx,Dx,Dx,Dx];cases p x<;>cases q x<;>simp<;>grind
def jn (hw:∀x∈L,0<=w x)(h:∀x∈L,p x->q x):wsum L w p<=wsum L w q:=by
 induction L with
 |nil=>exact Yg
 |cons x L ih =>
  let Nv:=ih (λy hy=>hw y (Zi _ hy)) (λy hy=>h y (Zi _ hy));let h0:=hw x Zk;let h1:=h x Zk;rw[Dx,Dx];cases hp:p x with
  |false =>
   cases hq:q x with
   |false=>rw[aga ∅,Yx,Yx];exact Nv
   |true =>
    rw[aga ∅,aha rfl,Yx];exact Yy Nv (by have:=Q9 (c:=wsum L w q) |>.mpr h0;rwa [Yx] at this)
  |true =>
   rw[h1 hp,aha rfl];exact Q8.mpr Nv
def NP (U:List Nat)(w:Nat->Rat)(L:List Nat)(v:Nat->Rat)(rel:Nat->Nat->Bool)(S:List Nat):Rat:=wsum U w (λx=>S.contains x)-wsum L v (λi=>S.any λg=>rel i g)
def Dd (h:∀x∈L,p x=q x):wsum L w p=wsum L w q:=by
 unfold wsum;rw[Y4 h]
def CH (hv:∀x∈L,0<=v x)(hI:∀x,x∈I↔x∈S/\x∈T)(hJ:∀x,x∈J↔x∈S\/x∈T) :
  NP U w L v rel S+NP U w L v rel T<=NP U w L v rel I+NP U w L v rel J:=by
 unfold NP;let a1:wsum U w (λx=>I.contains x)=wsum U w (λx=>S.contains x&&T.contains x):=Dd λx _=>by rw[Ya];simp[hI]
 let a2:wsum U w (λx=>J.contains x)=wsum U w (λx=>S.contains x||T.contains x):=Dd λx _=>by rw[Ya];simp[hJ]
 let a3:=kS U w (λx=>S.contains x) (λx=>T.contains x);let b1:wsum L v (λi=>I.any λg=>rel i g)<=wsum L v (λi=>(S.any λg=>rel i g)&&(T.any λg=>rel i g)):=jn hv λx _ h=>by
  let⟨g,hg,hr⟩:=Z6.mp h;have:=(hI g).mp hg;rw[Z4];exact⟨Z6.mpr ⟨g,this.1,hr⟩,Z6.mpr ⟨g,this.2,hr⟩⟩
 let b2:wsum L v (λi=>J.any λg=>rel i g)=wsum L v (λi=>(S.any λg=>rel i g)||(T.any λg=>rel i g)):=Dd λx _=>by
  rw[Ya,X4,Z6,Z6,Z6];constructor
  .rintro⟨g,hg,hr⟩;rcases(hJ g).mp hg with h |h
   .exact .inl ⟨g,h,hr⟩
   .exact .inr ⟨g,h,hr⟩
  .rintro(⟨g,hg,hr⟩ |⟨g,hg,hr⟩)
   .exact⟨g,(hJ g).mpr (.inl hg),hr⟩
   .exact⟨g,(hJ g).mpr (.inr hg),hr⟩
 let b3:=kS L v (λi=>S.any λg=>rel i g) (λi=>T.any λg=>rel i g);rw[a1,a2,b2];generalize wsum L v (λi=>I.any λg=>rel i g)=z at b1
 grind
theorem sub_eq {α : Type}[BEq α][LawfulBEq α]:∀{S U:List α},S.Sublist U->U.Nodup->U.filter (λx=>S.contains x)=S
 |_,_,.slnil,_=>rfl
 |_,_,.cons a h,nd=>by
  let wS:=Yc.mp nd;rw[Qs (by rw[Z7];exact λz=>wS.1 (h.subset z))];exact sub_eq h wS.2
 |_,_,.cons₂ (l₁:=S) (l₂:=U) a h,nd=>by
  let wS:=Yc.mp nd;rw[Ja (by rw[Z7];exact Zk)]
  congr 1
  rw[<- sub_eq h wS.2];apply Y4 λx hx=>?_
  rw[sub_eq h wS.2,Ya,Z7,Z7,Zj];constructor
  .rintro(rfl |z)
   .exact afa hx wS.1
   .exact z
  .exact .inr
def Jm {α : Type}[BEq α][LawfulBEq α]{A B U:List α}(hA:A.Sublist U)(hB:B.Sublist U)(nd:U.Nodup)(h:∀x,x∈A↔x∈B):A=B:=by
 rw[<- sub_eq hA nd,<- sub_eq hB nd];apply Y4 λx _=>?_
 rw[Ya,Z7,Z7,h x]
def M1 (U:Γ3)(f:Γ3->Rat):Prop:=∀S T:Γ3,S.Sublist U->T.Sublist U->f S+f T<=f (S.filter λx=>T.contains x)+f (U.filter λx=>S.contains x||T.contains x)
def vA (nd:U.Nodup)(sup:M1 U f)(hR:R.Sublist U)(hM:∀S:Γ3,S.Sublist U->f S<=f R)(eE:∀S:Γ3,S.Sublist U->f S=f R->↥S<=↥R)(hT:T.Sublist U)(fT:f T=f R):∀x∈T,x∈R:=by
 let h1:=sup R T hR hT;let sI:(R.filter λx=>T.contains x).Sublist R:=Zu;let sJ:(U.filter λx=>R.contains x||T.contains x).Sublist U:=Zu;let h2:=hM _ sJ;let h3:=hM _ (sI.trans hR);let e:f (U.filter λx=>R.contains x||T.contains x)=f R:=by
  rw[fT] at h1;generalize f (U.filter λx=>R.contains x||T.contains x)=z at h1 h2 ⊢;generalize f (R.filter λx=>T.contains x)=y at h1 h3
  grind
 let h4:=eE _ sJ e;let h5:R.Sublist (U.filter λx=>R.contains x||T.contains x):=by
  let h6:U.filter (λx=>R.contains x)=R:=sub_eq hR nd;let h7:(U.filter λx=>R.contains x||T.contains x).filter (λx=>R.contains x)=R:=by
   rw[Qr];apply Eq.trans (Y4 λx _=>?_) h6;cases R.contains x<;>simp
  let h8:((U.filter λx=>R.contains x||T.contains x).filter (λx=>R.contains x)).Sublist (U.filter λx=>R.contains x||T.contains x):=Zu;rw[h7] at h8;exact h8
 let h9:=h5.eq_of_length_le h4;intro x hx;rw[h9,Ze];exact⟨hT.subset hx,by simp[hx]⟩
def rQ (H:Hp)(xs:List V)(M:Γ1):Prop:=↥xs=↥M/\∀(j:Nat) x,xs[j]?=↑x->∃(a:Addr) (r:Γ3),M[j]?=↑r/\x=.ref a/\H a=↑(.tup (r.map V.int))
def rQ.nil:rQ H [] []:=⟨(),λj x h=>by simp at h⟩
def rQ.tm (h:rQ H xs M)(t:Tm H H'):rQ H' xs M:=⟨h.1,λj x hx=>by let⟨a,r,e1,e2,e3⟩:=h.2 j x hx;exact⟨a,r,e1,e2,t _ _ e3⟩⟩
def rQ.cat (h1:rQ H xs M)(h2:rQ H ys N):rQ H (xs++ys) (M++N):=by
 apply⟨by simp[h1.1,h2.1],λj y hy=>?_⟩;rcases Yb j ↥xs with z |z
 .rw[Zr z] at hy;let⟨a,r,e1,e2,e3⟩:=h1.2 j y hy;exact⟨a,r,by rw[Zr (h1.1▸z)];exact e1,e2,e3⟩
 .rw[Yh z] at hy;let⟨a,r,e1,e2,e3⟩:=h2.2 _ y hy;exact⟨a,r,by rw[Yh (h1.1▸z),<- h1.1];exact e1,e2,e3⟩
def rQ.app (h:rQ H xs M)(ha:H a=↑(.tup (r.map V.int))):rQ H (xs++[.ref a]) (M++[r]):=h.cat ⟨(),λj x hx=>by
 cases j with
 |zero=>simp at hx;subst hx;exact⟨a,r,(),(),ha⟩
 |succ j=>simp at hx⟩
def rQ.ks (h:rQ H xs M):TsK K H xs (M.map λr=>r.map V.int):=⟨by rw[h.1,Zb],λj x hx=>by
 let⟨a,r,e1,e2,e3⟩:=h.2 j x hx;apply⟨a,e2,aN.of ?_⟩;have:(M.map λr=>r.map V.int)∩j=r.map V.int:=by simp[List.getD,Zo,e1]
 rw[this];exact e3⟩
def EK:Sp:=λvs H Q _=>∃(l:Addr) (ns:Γ3),vs=[.ref l]/\H l=↑(.tup (ns.map V.int))/\↥ns<=6/\∀(r:Addr) (xs:List V) (H':Hp),az H H'->H' r=↑(.lst xs)->rQ H' xs (aT ns)->Q (.ref r) H'
def Ai:Sp:=λvs H Q _=>∃(b p pa pp pw q:Addr) (xa xp xw ys:List V) (am pu wi:Ξ1) (qs:Δ1),vs=[.ref p,.ref q]/\eN b H p pa pp pw xa xp xw am pu wi/\BE b H q ys qs/\↥qs=↥xa /\
 ∀(r r1 r2:Addr) (c:Int) (ms ps:Γ3) (H':Hp),az H H'->0<c->c9 c ms (gx (am.map br) qs)->c9 c ps (rM pu)->H' r=↑(.tup [.ref r1,.ref r2])->H' r1=↑(.lst (ms.map V.int))->H' r2=↑(.lst (ps.map V.int))->Q (.ref r) H'
def Uu:Sp:=λvs H Q _=>∃(l t:Addr) (ms:Γ3) (S:List Nat),vs=[.ref l,.ref t]/\H l=↑(.lst (ms.map V.int))/\H t=↑(.tup (df S))/\↥S<=6/\(∀i∈S,i<↥ms)/\∀H',az H H'->Q (.int ((S.map λi=>ms\i).sum)) H'
def nX (n:Int):d4:=.inl n
def na (aS:List (Int×Γ3)):List (List d4×V):=aS.map λr=>(r.2.map nX,V.int r.1)
def Fh (ns:Γ3):(ns.map nX).map kV=ns.map V.int:=by rw[Zp];rfl
def vJ {a b:Γ3}(h:a.map nX=b.map nX):a=b:=by
 induction a generalizing b with
 |nil=>cases b with
  |nil=>rfl
  |cons _ _=>cases h
 |cons x a ih=>cases b with
  |nil=>cases h
  |cons y b =>
   rw[Zm,Zm] at h;injection h with h1 h2
   have:x=y:=by unfold nX at h1;injection h1
   rw[this,ih h2]
def Above (am:Γ3)(ps qs:Δ1)(M:Γ1)(U:Γ3)(c:Int)(aS:List (Int×Γ3)):Prop:=0<c/\aS.map (·.2)=aT U/\∀x∈aS,((x.1:Int):Rat)=(c:Rat)*aD am ps qs M (ap x.2)
structure MP (b:Addr)(H:Hp)(p pa pp pw q:Addr)(xa xp xw ys:List V)(am pu wi:Ξ1)(qs:Δ1):Prop where
 m:eN b H p pa pp pw xa xp xw am pu wi
 pr:BE b H q ys qs
 l:↥qs=↥xa
 ok:HB (rowsOf wi) qs
def Uw:Sp:=λvs H Q _=>∃(b p pa pp pw q:Addr) (xa xp xw ys:List V) (am pu wi:Ξ1) (qs:Δ1),vs=[.ref p,.ref q]/\MP b H p pa pp pw q xa xp xw ys am pu wi qs /\
 ∀(d:Addr) (c:Int) (aS:List (Int×Γ3)) (H':Hp),az H H'->H d=none->Above (am.map br) (rM pu) qs (rowsOf wi) (ai ↥xa (rowsOf wi)) c aS->H' d=↑(.dT (na aS))->Q (.ref d) H'
def N3 (De:Addr):Sp:=λvs H Q E=>∃(b p pa pp pw q:Addr) (xa xp xw ys:List V) (am pu wi:Ξ1) (qs:Δ1),vs=[.ref p,.ref q]/\MP b H p pa pp pw q xa xp xw ys am pu wi qs /\
 ∀(c:Int) (aS:List (Int×Γ3)),Above (am.map br) (rM pu) qs (rowsOf wi) (ai ↥xa (rowsOf wi)) c aS ->
  ((∃x∈aS,0<x.1)->∀H',az H H'->E (.ref De) none H') /\
  ((∀x∈aS,x.1<=0)->∀(a:Addr) (row:Int×Γ3) (H':Hp),az H H'->row∈aS->row.1=0->(∀x∈aS,x.1=0->↥x.2<=↥row.2)->H' a=↑(.tup (row.2.map V.int))->Q (.ref a) H')
def yE (h:c9 c ms (as++bs)):c9 c (ms.take ↥as) as/\c9 c (ms.drop ↥as) bs:=by
 let⟨h1,h2⟩:=h;rw[Zv] at h1 h2;apply⟨⟨by rw[Yw];omega,λj hj=>?_⟩,⟨by rw[Qh];omega,λj hj=>?_⟩⟩
 .let h3:=h2 j ⋯;let e1:(ms.take ↥as)\j=ms\j:=by simp[List.getD,List.getElem?_take,hj]
  let e2:(as++bs)\j=as\j:=by simp[List.getD,Zr hj]
  rw[e1,<- e2];exact h3
 .let h3:=h2 (↥as+j) ⋯;let e1:(ms.drop ↥as)\j=ms\(↥as+j):=by simp[List.getD,List.getElem?_drop]
  let e2:(as++bs)\(↥as+j)=bs\j:=by simp[List.getD,Yh]
  rw[e1,<- e2];exact h3
def Df (g:Nat)(M:Γ1):(ai g M).Nodup:=by
 unfold ai aA;apply((X0).sublist Zu).map _ λa b h z=>h ⋯
def Nl:b9 gs best=gs.any λg=>best.contains (g:Int):=by
 unfold b9
 grind
def nQ (nd:N.Nodup)(h:S.Sublist N) :
  aD am ps qs M S=NP N (λg=>(gx am qs)\g) (~~~↥M) (λi=>ps\i) (λi g=>((aw M qs)∩i).contains (g:Int)) S:=by
 unfold aD NP dM bh eA wsum;rw[sub_eq h nd]
 congr 3
 apply Y4 λi _=>?_
 exact Nl
def Nk (h:S.Sublist (ai g M)):(ap S).Sublist (aA g M):=by
 let h1:=List.Sublist.map Int.toNat h;let h2:=km g M;unfold ap at h2 ⊢;rw[h2] at h1;exact h1
def Dv (h:S.Sublist (ai g M))(x:Nat):x∈ap S↔(x:Int)∈S:=by
 unfold ap;constructor
 .intro hx;let⟨y,hy,rfl⟩:=Zd.mp hx;have:=h.subset hy;unfold ai at this;let⟨j,_,rfl⟩:=Zd.mp this;rw[Zy];exact hy
 .intro hx;exact Zd.mpr ⟨_,hx,Zy x⟩
def mQ (hp:∀q∈ps,0<=q):M1 (ai g M) (λS=>aD am ps qs M (ap S)):=by
 intro S T hS hT;let nd:(aA g M).Nodup:=by unfold aA;exact(X0).sublist Zu
 let sI:(S.filter λx=>T.contains x).Sublist (ai g M):=Zu.trans hS;let sJ:((ai g M).filter λx=>S.contains x||T.contains x).Sublist (ai g M):=Zu;show aD am ps qs M (ap S)+aD am ps qs M (ap T)<=aD am ps qs M (ap _)+aD am ps qs M (ap _);rw[nQ nd (Nk hS),nQ nd (Nk hT),nQ nd (Nk sI),nQ nd (Nk sJ)];apply CH (λx _=>?_) (λx=>?_) (λx=>?_)
 .by_cases hx:x<↥ps
  .have:ps\x∈ps:=by simp[List.getD,Zc hx]
   exact hp _ this
  .have:ps\x=0:=by simp[List.getD,Yu (Xf hx)]
   rw[this];exact Yg
 .rw[Dv sI,Dv hS,Dv hT,Ze];simp
 .rw[Dv sJ,Dv hS,Dv hT,Ze];simp;exact λh=>h.elim (λz=>hS.subset z) (λz=>hT.subset z)
end KM
namespace L2
open PySem.Spec PyProof.Rows EX
section
variable {st:Stmt}
end
end L2
namespace L2
open PySem.Spec PyProof.Rows
def K0:Θ1:=[]
section
variable {K:Θ1}
def bI.k0 (h:bI K0 H a xs):bI K H a xs:=by
 rcases h with h |⟨o,its,n,hk,_⟩
 .exact .inl h
 .exact afa hk (by show ¬ (none=↑o);simp)
def aN.k0 (h:aN K0 H a xs):aN K H a xs:=by
 rcases h with h |⟨o,its,n,hk,_⟩
 .exact .inl h
 .exact afa hk (by show ¬ (none=↑o);simp)
def Sq.k0 (h:bI K0 H a xs\/aN K0 H a xs):bI K H a xs\/aN K H a xs:=h.elim (λz=>.inl z.k0) λz=>.inr z.k0
mutual
theorem ng.k0:∀{v:V}{d:PyData},ng K0 H v d->ng K H v d
 |_,_,.cj=>.cj
 |_,_,.bl b=>.bl b
 |_,_,.int i=>.int i
 |_,_,.str x ok=>.str x ok
 |_,_,.lst h t=>.lst h.k0 (ft.k0 t)
 |_,_,.tup h t=>.tup h.k0 (ft.k0 t)
theorem ft.k0:∀{vs:List V}{ds:Ξ1},ft K0 H vs ds->ft K H vs ds
 |_,_,.nil=>.nil
 |_,_,.cons h t=>.cons (ng.k0 h) (ft.k0 t)
end
end
section
def eT.imp (h:eT X f r)(hi:∀x y H Q,r' x y H Q->r x y H Q):eT X f r':=λae s σ H x y v u Q I rx ry q=>h ae s σ H x y v u Q I rx ry (hi _ _ _ _ q)
def cg.imp (h:cg X f r)(hi:∀xs H Q,r' xs H Q->r xs H Q):cg X f r':=λae s σ H xs us Q I rx q=>h ae s σ H xs us Q I rx (hi _ _ _ q)
def Br.imp (h:Br X r)(hi:∀x y H Q,r' x y H Q->r x y H Q):Br X r':=λa b ae s σ H x y v u Q I rx ry q=>h a b ae s σ H x y v u Q I rx ry (hi _ _ _ _ q)
def uG:Br X (Ii K0):=AR.imp λ_ _ _ _ ⟨p,xs,i,v,e1,e2,h,e3,q⟩=>⟨p,xs,i,v,e1,e2,h.k0,e3,q⟩
def cZ:Br X (Oa K0):=RH.imp λ_ _ _ _ ⟨p,xs,i,v,e1,e2,h,e3,q⟩=>⟨p,xs,i,v,e1,e2,h.k0,e3,q⟩
def L5:List V->Hp->VK->Prop:=λxs H Q=>∃p ys,xs=[.ref p]/\(bI K0 H p ys\/aN K0 H p ys)/\Q (.int ↥ys) H
def LY:List V->Hp->VK->Prop:=λxs H Q=>∃p ys,xs=[.ref p]/\((bI K0 H p ys/\∀l,H l=none->Q (.ref l) (aP H l (.tup ys)))\/(aN K0 H p ys/\Q (.ref p) H))
def Eh:List V->Hp->VK->Prop:=λxs H Q=>∃p ys,xs=[.ref p]/\(bI K0 H p ys\/aN K0 H p ys)/\∀l,H l=none->Q (.ref l) (aP H l (.lst ys))
def L7:List V->Hp->VK->Prop:=λxs H Q=>∃p ys,xs=[.ref p]/\(bI K0 H p ys\/aN K0 H p ys)/\ys.all fz/\Q (.bl (ys.any tv)) H
def Wr:List V->Hp->VK->Prop:=λxs H Q=>∃p ys,xs=[.ref p]/\(bI K0 H p ys\/aN K0 H p ys)/\ys.all fz/\Q (.bl (ys.all tv)) H
def LZ:List V->Hp->VK->Prop:=λxs H Q=>∃(p:Addr) (ns:Γ3),xs=[.ref p]/\(bI K0 H p (ns.map V.int)\/aN K0 H p (ns.map V.int))/\Q (.int ns.sum) H
def Wn:List V->Hp->VK->Prop:=λxs H Q=>∃(p:Addr) (ns:Γ3),xs=[.ref p]/\(bI K0 H p (ns.map V.int)\/aN K0 H p (ns.map V.int))/\ns≠[]/\∀m,m∈ns->(∀n∈ns,n<=m)->Q (.int m) H
def eQ:cg X (.builtin "len") L5:=iC.imp λ_ _ _ ⟨p,ys,e,h,q⟩=>⟨p,ys,e,Sq.k0 h,q⟩
def fv:cg X (.type "tuple") LY:=qm.imp λ_ _ _ ⟨p,ys,e,h⟩=>⟨p,ys,e,h.elim (λz=>.inl ⟨z.1.k0,z.2⟩) λz=>.inr ⟨z.1.k0,z.2⟩⟩
def MZ:cg X (.type "list") Eh:=ua.imp λ_ _ _ ⟨p,ys,e,h,q⟩=>⟨p,ys,e,Sq.k0 h,q⟩
def zS (hc:X.calm):cg X (.builtin "any") L7:=(Hb hc).imp λ_ _ _ ⟨p,ys,e,h,q⟩=>⟨p,ys,e,Sq.k0 h,q⟩
def qJ (hc:X.calm):cg X (.builtin "all") Wr:=(Hc hc).imp λ_ _ _ ⟨p,ys,e,h,q⟩=>⟨p,ys,e,Sq.k0 h,q⟩
def MX (hc:X.calm):cg X (.builtin "sum") LZ:=(Ha hc).imp λ_ _ _ ⟨p,ys,e,h,q⟩=>⟨p,ys,e,Sq.k0 h,q⟩
def W8 (hc:X.calm):cg X (.builtin "max") Wn:=(CU hc).imp λ_ _ _ ⟨p,ys,e,h,q⟩=>⟨p,ys,e,Sq.k0 h,q⟩
def EU (hu:X.A.units+64<cLine):eT X (compareOp .Eq) (Ij K0):=(QH hu).imp λ_ _ _ _ ⟨dx,dy,h1,h2,q⟩=>⟨dx,dy,h1.k0,h2.k0,q⟩
def QK (hu:X.A.units+64<cLine):eT X (compareOp .NotEq) (Ih K0):=(QG hu).imp λ_ _ _ _ ⟨dx,dy,h1,h2,q⟩=>⟨dx,dy,h1.k0,h2.k0,q⟩
def zt:eT X (compareOp .In) (S5 K0 false):=Ca.imp λ_ _ _ _ ⟨p,xs,e,h,q⟩=>⟨p,xs,e,Sq.k0 h,q⟩
def QJ:eT X (compareOp .NotIn) (S5 K0 true):=tX.imp λ_ _ _ _ ⟨p,xs,e,h,q⟩=>⟨p,xs,e,Sq.k0 h,q⟩
def Ux:HS X (UG K0):=λae s σ H x v vl vu lo hi sl Q I rx hs pl pu ⟨a,xs,e,h,q⟩=>Jq ae s σ H x v vl vu lo hi sl Q I rx hs pl pu ⟨a,xs,e,h.k0,q⟩
structure It.Le (J J':It):Prop where
 go:∀i H,J'.go i H->J.go i H
 qo:∀i H x H',J.qo i H x H'->J'.qo i H x H'
 stop:∀i H,J'.stop i H->J.stop i H
def Turn.le {K:Θ1}(T:Turn P w K tg J fp it tn)(l:J.Le J'):Turn P w K tg J' fp it tn where
 mem:=T.mem
 obj:=T.obj
 keep:=T.keep
 item:=λX hP hw hK hc i ae s σ H E I hf st hg=>bH (T.item X hP hw hK hc i ae s σ H E I hf st (l.go i H hg)) λr s1 ⟨u,hr,h⟩=>⟨u,hr,bH h λ_ s2 ⟨x,H',a1,a2,a3,a4⟩=>⟨x,H',a1,a2,l.qo _ _ _ _ a3,a4⟩⟩
 done:=λX hP hw hK hc i ae s σ H E I hf st hg=>T.done X hP hw hK hc i ae s σ H E I hf st (l.stop i H hg)
 self:=T.self
def AM {K:Θ1}:(Bs K a).Le (Bs K0 a):=⟨λi H ⟨xs,x,h,e⟩=>⟨xs,x,h.k0,e⟩,λi H x H' ⟨e,h⟩=>⟨e,λxs hx=>h xs hx.k0⟩,λi H ⟨xs,h,e⟩=>⟨xs,h.k0,e⟩⟩
def Ff {K:Θ1}:(zf K a).Le (zf K0 a):=⟨λi H ⟨xs,x,h,e⟩=>⟨xs,x,h.k0,e⟩,λi H x H' ⟨e,h⟩=>⟨e,λxs hx=>h xs hx.k0⟩,λi H ⟨xs,h,e⟩=>⟨xs,h.k0,e⟩⟩
def KJ {K:Θ1}:(DJ K a).Le (DJ K0 a):=⟨λi H ⟨xs,x,h,e⟩=>⟨xs,x,h.k0,e⟩,λi H x H' ⟨p,e1,e2,h⟩=>⟨p,e1,e2,λxs hx=>h xs hx.k0⟩,λi H ⟨xs,h,e⟩=>⟨xs,h.k0,e⟩⟩
def RA {K:Θ1}:(SQ K a b).Le (SQ K0 a b):=⟨λi H ⟨xs,ys,x,y,h1,h2,e⟩=>⟨xs,ys,x,y,h1.k0,h2.k0,e⟩,λi H x H' ⟨p,e1,e2,h⟩=>⟨p,e1,e2,λxs ys h1 h2=>h xs ys h1.k0 h2.k0⟩,λi H ⟨xs,ys,h1,h2,e⟩=>⟨xs,ys,h1.k0,h2.k0,e⟩⟩
def UI (hl:PE X l tl):PI X tg l (WU K0 tl):=by
 intro ae s σ H R I h;apply bH (hl ae s σ H _ I h) λv s1 ⟨x,H1,I1,r1,a,e,⟨xs,hq⟩,q⟩=>?_
 subst e;cases r1;let⟨its,rv,p,hz⟩:=I1.list hq.k0;apply wpAny_pyIter_list p.isList ⟨⇑s1,[⇑s1],_,Bs K0 a,H1,(),I1.kept (t':=s1.toks) λb o e=>Zn _ e,(qN (K:=X.K) a _).le AM,⟨_,Z0 _ rfl,(),()⟩,λb hb=>?_,q⟩;obtain rfl:b=⇑s1:=by simpa using hb
 exact I1.jO (Zf _) (I1.ca.fresh (Zf _))
def rW (hl:PE X l tl):PI X tg l (acO K0 tl):=by
 intro ae s σ H R I h;apply bH (hl ae s σ H _ I h) λv s1 ⟨x,H1,I1,r1,a,e,⟨xs,hq⟩,q⟩=>?_
 subst e;cases r1;let⟨its,rv,p,hz⟩:=I1.tuple hq.k0;apply wpAny_pyIter_tuple (show s1.heap.IsTuple a its.toArray from p) ⟨⇑s1,[⇑s1],_,zf K0 a,H1,(),I1.kept (t':=s1.toks) λb o e=>Zn _ e,(pf (K:=X.K) a _).le Ff,⟨_,Z0 _ rfl,(),()⟩,λb hb=>?_,q⟩;obtain rfl:b=⇑s1:=by simpa using hb
 exact I1.jO (Zf _) (I1.ca.fresh (Zf _))
def nA {p pos:Pos}(hg:Gl X "enumerate")(hm:X.mg "enumerate"=none)(hb:bootBuiltins "enumerate"=↑(.type "enumerate"))(ha:PA X [a] ta)(hs:starEach [a] X.env=[(false,eval a X.env)]:=by rfl) :
  PI X (.Tuple uK kk rS) (.Call (.Name "enumerate" p) [a] [] pos) (WV K0 ta):=by
 intro ae s σ H R I h;apply Call_ (gq I hg hm hb (PyProof.Rows.callWith_type1 (bH (ha pos ae s σ H _ I h) λus s1 ⟨vs,H1,I1,r1,t,e,⟨xs,hq⟩,q⟩=>?_) hs rfl));subst e;let⟨u,rfl,ru⟩:=vals1 r1;cases ru;let⟨its,rv,pl,hz⟩:=I1.tuple hq.k0;apply kr (show s1.heap.IsTuple t its.toArray from pl) λh' he NE hsz hk=>wpAny_pyIter_enum he ?_
 apply⟨⇑s1+1,[⇑s1+1,⇑s1],_,DJ K0 t,H1,(),I1.kept (t':=s1.toks) hk,(BO (K:=X.K) t _ ⇑s1 (Nat.succ_ne_self _)).le KJ,⟨⟨_,he⟩,NE⟩,λb hb=>?_,q⟩;rcases Zj.mp hb with rfl |hb
 .exact I1.jO (Xy _) (I1.ca.fresh (Xy _))
 .obtain rfl:b=⇑s1:=by simpa using hb
  exact I1.jO (Zf _) I1.fresh
def JV {p pos:Pos}(hg:Gl X "zip")(hm:X.mg "zip"=none)(hb:bootBuiltins "zip"=↑(.type "zip"))(ha:PA X [a,b] ta)
  (hs:starEach [a,b] X.env=[(false,eval a X.env),(false,eval b X.env)]:=by rfl) (pN:starEach [b] X.env=[(false,eval b X.env)]:=by rfl):PI X (.Tuple uK kk rS) (.Call (.Name "zip" p) [a,b] [] pos) (acN K0 ta):=by
 intro ae s σ H R I h;apply Call_ (gq I hg hm hb (PyProof.Rows.callWith_type1 (bH (ha pos ae s σ H _ I h) λus s1 ⟨vs,H1,I1,r1,q1⟩=>?_) (by rw[hs,pN]) (by rw[pN];rfl)));let⟨x,y,e,⟨xs,LA⟩,⟨ys,Sn⟩,q⟩:=q1;subst e;cases r1 with
 |cons r rr =>
  cases rr with
  |cons r' rr =>
   cases rr
   cases r
   cases r'
   let⟨us,ru,pu,zu⟩:=I1.tuple LA.k0;let⟨vs,rv,pv,zv⟩:=I1.tuple Sn.k0;let a1:x<⇑s1:=by let⟨_,e,_⟩:=(show s1.heap.IsTuple x us.toArray from pu);exact Zq e
   let a2:y<⇑s1:=by let⟨_,e,_⟩:=(show s1.heap.IsTuple y vs.toArray from pv);exact Zq e
   apply CQ (show s1.heap.IsTuple x us.toArray from pu) (show s1.heap.IsTuple y vs.toArray from pv) λg z0 pI pO n1 n2 hk=>wpAny_pyIter_zip z0 ?_
   apply⟨⇑s1+4,[⇑s1+4,⇑s1+2,⇑s1+3,⇑s1,⇑s1+1],_,SQ K0 x y,H1,(),I1.kept (t':=s1.toks) hk,(Fy (K:=X.K) x y _ _ _ _ _ (zipApart_new a1 a2)).le RA,⟨z0,pI,⟨_,_,pO⟩,n1,n2⟩,λc hc=>?_,q⟩;let hge:⇑s1<=c:=by
    simp only[Zj,Q6,or_false] at hc;rcases hc with h |h |h |h |h<;>rw[h]<;>first |exact Nat.le_add_right _ _ |exact Zf _
   exact I1.jO hge (I1.ca.fresh hge)
def ia (hc:X.calm)(h:wM X es t)(hn:↥(assignEach es X.env)=n:=by rfl)(nS:(assignEach es X.env).findIdx? (·.1)=none:=by rfl):PG X (.Tuple es k pos) (Oy K0 n t) :=
 λae s σ H v u Q I r ⟨a,xs,e,hq,q⟩=>P9 hc h hn nS ae s σ H v u Q I r ⟨a,xs,e,hq.k0,q⟩
def QB (hc:X.calm)(h:wM X es t)(hn:↥(assignEach es X.env)=n:=by rfl)(nS:(assignEach es X.env).findIdx? (·.1)=none:=by rfl):PG X (.Tuple es k pos) (Vo K0 n t) :=
 λae s σ H v u Q I r ⟨a,xs,e,hq,q⟩=>QA hc h hn nS ae s σ H v u Q I r ⟨a,xs,e,hq.k0,q⟩
def R6.k0 {K:Θ1}(h:R6 K0 T x H):R6 K T x H:=by
 cases x with
 |ref p =>
  rcases h with ⟨e,xs,h⟩ |⟨e,o,hk,_⟩ |h |h
  .exact .inl ⟨e,xs,h.k0⟩
  .exact afa hk (by show ¬ (none=↑o);simp)
  .exact .inr (.inr (.inl h))
  .exact .inr (.inr (.inr h))
 |_=>exact h
variable {T id:String}
def Wz (pa:PlainAttrs T)(slot:Slot T name id)(HK:typeOf (.builtin id)=pure (.type "method_descriptor"))(hm:YX X id r)(ho:PE X o to)(ha:PA X (e::es) t)
  (uX:attributeBase o name X.env (eval o X.env)=eval o X.env:=by rfl)
  (Ow:((backTo j4 (starEach (e::es) X.env)).all (λx=>!x.1)&&(backToKw j4 (keywordEach [] X.env)).all (λx=>x.1.isSome)
   && decide (↥(e::es)+↥([]:List Keyword)+(if ([]:List Keyword).isEmpty then 0 else 1)<30))=true:=by rfl)
  (uW:(sj.endLine == j4.line)=true:=by rfl) (hs:starEach (e::es) X.env=(false,eval e X.env)::starEach es X.env:=by rfl) (xJ:(backTo j4 (starEach es X.env)).any (·.1)=false:=by rfl) :
  PE X (.Call (.Attribute o name sj) (e::es) [] j4) (tBM K0 T r to t):=by
 intro ae s σ H Q I h;apply wpAny_Call_method_late uX Ow uW rfl (bH (ho ae s σ H _ I h) λv s1 ⟨x,H1,I1,r1,ty,q1⟩=>?_);let⟨h1,h2⟩:=EB I1 r1 ty.k0;apply⟨T,id,pa,slot,HK,h1,h2,?_⟩;let hA:=ha j4 ae s1 σ H1 _ I1 q1;rw[hs] at hA ⊢;exact Calls.callWith_builtin (by show(false||(backTo j4 (starEach es X.env)).any (·.1))=false;rw[xJ]<;>rfl) (Calls.evalArgs_plain (bH hA λus s2 ⟨vs,H2,I2,r2,q2⟩=>hm ae s2 σ H2 x vs v us Q I2 r1 r2 q2))
end
end L2
namespace L2
open PySem.Spec PyProof.Rows KG
section
end
end L2
namespace KM
open L2
end KM
namespace KM
open L2 KG EX
section
def jG {α : Type}(f:Nat->Bool)(v:Nat->α)(i:Nat):((~~~(i+1)).filter f).map v=((~~~i).filter f).map v++if f i=true then [v i] else []:=by
 rw[wz,Zs]
 congr 1
 split<;>simp_all
end
def ao {α : Type}{ls:List α}{i:Nat}{y d:α}(h:ls[i]?=↑y):ls.getD i d=y:=by simp[List.getD,h]
def AX (ns:Γ3)(x:Int):HJ (V.int x) (ns.map V.int)=ns.contains x:=by
 let h:HJ (V.int x) (ns.map V.int)=ns.any λh=>decide (h=x):=by
  unfold HJ;rw[X7]
  congr 1
 grind
section
variable {s:Γ3}
end
theorem mM:∀{l:Δ1},(∀q∈l,0<=q)->0<=aK l
 |[],_=>Yg
 |q::l,h=>by
  rw[pX];let h1:=h q Zk;let h2:=mM (l:=l) λz hz=>h z (Zi _ hz)
  exact Rat.add_nonneg h1 h2
def FC (bF:l≠[])(h:∀q∈l,0<q):0<aK l:=by
 cases l with
 |nil=>exact afa rfl bF
 |cons q l =>
  rw[pX];let h1:=h q Zk;let h2:=mM (l:=l) λz hz=>Zt (h z (Zi _ hz))
  generalize aK l=s at h2
  grind
end KM
namespace L2
open PySem.Spec PyProof.Rows
abbrev C5 (gy t1 i1 t2 i2:Expr)(f1 f2:Ξ2)(scope:Scope)(pos:Pos):Expr:=.ListComp gy [⟨t1,i1,f1,0⟩,⟨t2,i2,f2,0⟩] scope pos
def pH (gy t1 i1 t2 i2:Expr)(f1 f2:Ξ2)(scope:Scope)(pos:Pos)(it acc:Value)(env:Env) :
  compTurn (C5 gy t1 i1 t2 i2 f1 f2 scope pos) 0 it acc env=(do
   standAt i1.pos
   match <- pyNext it with
   |none=>pure (.done .next)
   |some v =>
    letOwnedTupleGo t1 it v
    assign t1 env v
    let mut ok:=true
    for c in f1 do
     if ok then ok <- isTrue c env (eval c env)
    if ok then
     let x <- eval i2 env
     standAt i2.pos
     let x <- foldedSetIterable i2 env x;let _ <- runOwn (.compStart (C5 gy t1 i1 t2 i2 f1 f2 scope pos) 1 (<- holding [x] (pyIter x)) acc env) env
    again (.compLoop (C5 gy t1 i1 t2 i2 f1 f2 scope pos) 0 it acc env)):=by rfl
def m7 (gy t1 i1 t2 i2:Expr)(f1 f2:Ξ2)(scope:Scope)(pos:Pos)(it acc:Value)(env:Env) :
  compTurn (C5 gy t1 i1 t2 i2 f1 f2 scope pos) 1 it acc env=(do
   standAt i2.pos
   match <- pyNext it with
   |none=>pure (.done .next)
   |some v =>
    letOwnedTupleGo t2 it v
    assign t2 env v
    let mut ok:=true
    for c in f2 do
     if ok then ok <- isTrue c env (eval c env)
    if ok then
     (do let _ <- call (.builtin "list.append") [acc,<- eval gy env])
    again (.compLoop (C5 gy t1 i1 t2 i2 f1 f2 scope pos) 1 it acc env)):=by rfl
section
def jl7
  (h0:codeAny (model prog w) A (.compLoop (C5 gy t1 i1 t2 i2 f1 f2 scope pos) 1 it acc env) R s)
  (h:wpAny (model prog w) A (pyIter it) (λTk s'=>codeAny (model prog w) A (.compLoop (C5 gy t1 i1 t2 i2 f1 f2 scope pos) 1 Tk acc env) R s')
   (notedBy (model prog w) A env λx s'=>R (.error x) s') s) :
  codeAny (model prog w) A (.compStart (C5 gy t1 i1 t2 i2 f1 f2 scope pos) 1 it acc env) R s:=by
 apply codeAny_of_tree ?_;show wpAny _ _ ((compStart (C5 gy t1 i1 t2 i2 f1 f2 scope pos) 1 it acc env).onRaise (λx=>do noteFrame x env;standAt theWindowsPlace)) _ _ s;apply wpAny_notedAt ?_;unfold compStart;show wpAny _ _ (ask >>= _) _ _ s;apply Za (wpAny_askSetting (wpAny_ite ?_));split
 .first
   |exact Za (aba (aba (And.intro rfl h0)))
   |exact aba (And.intro rfl h0)
 .first
   |exact Za (wpAny_rule (Za (wpAny_standAt (Za (ana h (λTk s' h'=>aba (And.intro rfl h')) λ_ _ x=>x)))))
   |(apply Za (wpAny_rule ?_);show wpAny _ _ (standAt i2.pos >>= _) _ _ s;exact Za (wpAny_standAt (Za (ana h (λTk s' h'=>aba (And.intro rfl h')) λ_ _ x=>x))))
end
def Um (g:TG)(tt:TT)(te:TE)(J:It)(acc:Addr)(au:St)(dw:Hp)(Z:St->Hp->Prop):Prop :=
 ∃W:Nat->Nat->St->Hp->Prop,(∃m,W 0 m au dw)/\∀i m aO H',W i m aO H' ->
  (J.stop i H'/\Z aO H') \/
  (J.go i H'/\∃N:St->Hp->Prop,(∀cT H2,N cT H2->∃m',m'<m/\W (i+1) m' cT H2)/\∀x H2,J.qo i H' x H2->g x aO H2 λdD H3=>tt dD H3 λb H4 =>
   if b=true then te dD H4 λy H5=>∃ys,H5 acc=↑(.lst ys)/\↥ys<sizeLine/\N dD (aP H5 acc (.lst (ys++[y]))) else N dD H4)
def Ae (g1:TG)(Dp:TT)(Li:TI)(g2:TG)(C0:TT)(te:TE)(J:It)(acc:Addr)(au:St)(dw:Hp)(Q:VK):Prop :=
 ∃W:Nat->Nat->St->Hp->Prop,(∃m,W 0 m au (aP dw acc (.lst [])))/\∀i m aO H',W i m aO H' ->
  (J.stop i H'/\Q (.ref acc) H') \/
  (J.go i H'/\∃N:St->Hp->Prop,(∀cT H2,N cT H2->∃m',m'<m/\W (i+1) m' cT H2)/\∀x H2,J.qo i H' x H2->g1 x aO H2 λdD H3=>Dp dD H3 λb H4 =>
   if b=true then Li dD H4 λJ2 H5=>Um g2 C0 te J2 acc dD H5 N else N dD H4)
def EE (wi:TI)(g1:TG)(Dp:TT)(Li:TI)(g2:TG)(C0:TT)(te:TE)(own:Nat)(ix:List Nat):TE:=λσ H Q=>wi σ H λJ H1=>∀acc,H1 acc=none->Ae g1 Dp Li g2 C0 te J acc (dH own ix σ) H1 Q
section
variable {g2:TG}
def yO {RR:Value->Addr->Result->Shared->Prop}
  (B:aH X scope own cap ix) (hc:X.calm)
  (hb:∀C fp s H,PG (cX X scope C (own++cap) fp s H) t1 g1/\dU (cX X scope C (own++cap) fp s H) f1 Dp/\PI (cX X scope C (own++cap) fp s H) t2 i2 Li/\PG (cX X scope C (own++cap) fp s H) t2 g2/\dU (cX X scope C (own++cap) fp s H) f2 C0/\PE (cX X scope C (own++cap) fp s H) gy te)
  (pN:∀(env:Env) x,foldedSetIterable i2 env x=pure x)
  (I2:Inv X ae σ H2 s2) (T:Turn X.prog X.w X.K t1 J fp it tn) (fU:tn 0 s2.heap) (fk2:∀b∈fp,eZ X ae H2 b)
  (q:∀acc,H2 acc=none->Ae g1 Dp Li g2 C0 te J acc (dH ↥own ix σ) H2 Q)
  (HQ:∀D C H' s' m,Inv X ae σ H' s'->Q (.ref D) H'->s'.heap.Ns C m->eZ X ae H' C->RR (.ref D) C (.ok .next) s') :
  X∪(newList []) (λacc iO=>X∪(newFunctionEnv scope X.env.globals (d8 X.env scope.names []) [] X.env.qual none .none ↑X.env) (λkE gi =>
   codeAny (model X.prog X.w) X.A (.compStart (C5 gy t1 i1 t2 i2 f1 f2 scope pos) 0 (.ref it) acc { kE with scope:=relabel scope X.env }) (RR acc kE.locals) gi) E iO) E s2:=by
 apply aka (zQ (Dq:=λD σ H N=>Li σ H λJ2 H5=>Um g2 C0 te J2 D σ H5 N)
  (ST:=λenv D G=>X∪(eval i2 env) (λx gi=>X∪(pyIter x) (λDz nU=>codeAny (model X.prog X.w) X.A (.compStart (C5 gy t1 i1 t2 i2 f1 f2 scope pos) 1 Dz (.ref D) env) (λr xf=>r=.ok .next/\G xf) nU) (λ_ _=>False) gi) (λ_ _=>False)) B hc
  (λC D=>nH (pH ..) λG R E s h k=>Za (ana h (λx gi xk=>Za (wpAny_standAt (Za (wpAny_of_eq (pN _ x) (Za (apa (ana xk (λDz nU xj=>Za (wpAny_runOwn (codeAny_mono xj λr xf DW=>?_))) λ_ _ h'=>h'.elim))))))) λ_ _ h'=>h'.elim))
  (λ_ _ _ _=>codeAny_compStart_list) (λC fp s H=>⟨(hb C fp s H).1,(hb C fp s H).2.1,λD P σ H' s' N G I q k=>?_⟩) I2 (I2.Ol (its:=[]) (ys:=[]) (t':=s2.toks) .nil (Z9 _)) T fU fk2 q HQ)
 .obtain⟨rfl,DW⟩:=DW;exact aba (k _ DW)
 let⟨_,_,hi2,hg2,acY,he⟩:=hb C fp s H;apply bH (hi2 _ s' σ H' _ I q) λv10 R9 h10=>bH h10 λHI XR h11=>?_
 let⟨Dz,fp2,tn2,J2,H11,e11,NT,T2,Up,Vq,q2⟩:=h11;subst e11;let MC:=MB (X:=cX X scope C (own++cap) fp s H) (ce:=C5 gy t1 i1 t2 i2 f1 f2 scope pos) (lv:=1) (acc:=.ref D) (R:=λr xf=>r=.ok .next/\G xf) hc rfl (nH (m7 ..) λG R E s h k=>Za (Za (ana h (λx gi xk=>Za (ana xk (λ_ nU xj=>aba (aba (k _ xj))) λ_ _ h'=>h'.elim)) λ_ _ h'=>h'.elim))) hg2 acY (λP σ H s N G I q k=>A2 he rfl I q k) T2 Up (λH' hn b gT=>⟨hn b gT,(Vq b gT).2⟩) (λb gT=>(Vq b gT).1) NT q2 λaO H' s' I' z=>⟨(),k _ _ _ I' z⟩
 exact jl7 MC (T2.self _ 0 XR _ _ Up MC)
def Gi (B:aH X scope own cap ix)(hc:X.calm)(hi:PI X t1 i1 wi)
  (hb:∀C fp s H,PG (cX X scope C (own++cap) fp s H) t1 g1/\dU (cX X scope C (own++cap) fp s H) f1 Dp/\PI (cX X scope C (own++cap) fp s H) t2 i2 Li/\PG (cX X scope C (own++cap) fp s H) t2 g2/\dU (cX X scope C (own++cap) fp s H) f2 C0/\PE (cX X scope C (own++cap) fp s H) gy te)
  (hs:∀x,foldedSetIterable i1 X.env x=pure x:=by intro _;rfl) (pN:∀(env:Env) x,foldedSetIterable i2 env x=pure x:=by intro _ _;rfl):PE X (.ListComp gy [⟨t1,i1,f1,0⟩,⟨t2,i2,f2,0⟩] scope pos) (EE wi g1 Dp Li g2 C0 te ↥own ix):=by
 intro ae s σ H Q I h;rw[eval_ListComp];let has:∀x∈scope.names,x.2=.free->(X.env.cells.lookup x.1).isSome:=λx hx hk=>by
  let⟨c,e⟩:=I.ok.has x.1 (B.frees x hx hk);rw[e];rfl
 apply wpAny_comprehension_free (use:=none) rfl hs (Sk has) B.kind B.names ?_;show wpAny _ _ (eval i1 X.env) _ _ s;apply bH (hi ae s σ H _ I h) λv s1 h1=>bH h1 λHI s2 h2=>?_
 let⟨it,fp,tn,J,H2,e,I2,T,fU,f2,q⟩:=h2;subst e;apply yO (RR:=λacc C=>compPost (model X.prog X.w) X.A X.xe none (EP X ae σ Q) acc C) B hc hb pN I2 T fU f2 q ?_;intro D C H' s' m I' q' hn fC;apply⟨m,hn,λh' ut=>⟨.ref D,H',?_,(),q'⟩⟩;exact I'.turned (t':=s'.toks) (it:=C) (λb o DD e=>(ut.2 b DD).trans e) fC.1 fC.2.1 fC.2.2.2.1 fC.2.2.2.2.1 fC.2.2.2.2.2
end
end L2
namespace L2
open PySem.Spec PyProof.Rows KG
section
end
end L2
namespace KM
open L2 KG EX
def DQ (D:List (Δ1)):PyData:=.tuple (D.map λqs=>.tuple (qs.map qD))
end KM
namespace L2
open PySem.Spec PyProof.Rows KG
end L2
namespace KM
open L2 KG EX
theorem tq:∀{qs:Δ1},(∀q∈qs,Rb k q)->Rb (1+(k+1)*↥qs) (aK qs)
 |[],_=>nq
 |q::qs,h=>by
  let ih:=tq (qs:=qs) λz hz=>h z (Zi _ hz)
  rw[pX];have:=P6 (h q Zk) ih;apply this.mono ?_;rw[Y1,Nat.mul_succ];omega
end KM
namespace PySem
end PySem
namespace L2
open PySem.Spec PyProof.Rows
section
end
end L2
namespace KM
open L2 KG EX
theorem oP:∀(a b:Δ1),aK (a++b)=aK a+aK b
 |[],b=>by rw[List.nil_append];show _=(0:Rat)+_;rw[Yx]
 |q::a,b=>by rw[List.cons_append,pX,pX,oP a b,Rat.add_assoc]
end KM
namespace EX
open PySem.Spec PyProof.Rows
section
end
end EX
namespace L2
open PySem.Spec PyProof.Rows EX
section
end
end L2
namespace PySem
section
end
end PySem
namespace L2
open PySem.Spec PyProof.Rows
section
end
end L2
namespace L2
open PySem.Spec PyProof.Rows KG
section
end
end L2
namespace KM
open L2 KG EX
end KM
namespace PySem
section
end
end PySem
namespace L2
open PySem.Spec PyProof.Rows
section
end
end L2
namespace KM
open L2 KG EX
end KM
namespace MI
open L2 KG EX KM
mutual
inductive cr (H:Hp):V->PyData->Prop
 |cj:cr H .cj .none
 |bl (c:Bool):cr H (.bl c) (.bool c)
 |int (i:Int):cr H (.int i) (.int i)
 |str (x:Str) (ok:(PyData.str x).canLay0):cr H (.str x) (.str x)
 |lst {a:Addr}{xs:List V}{ds:Ξ1}:H a=some (.lst xs)->aI H xs ds->cr H (.ref a) (.list ds)
 |tup {a:Addr}{xs:List V}{ds:Ξ1}:H a=some (.tup xs)->aI H xs ds->cr H (.ref a) (.tuple ds)
inductive aI (H:Hp):List V->Ξ1->Prop
 |nil:aI H [] []
 |cons {x:V}{xs:List V}{d:PyData}{ds:Ξ1}:cr H x d->aI H xs ds->aI H (x::xs) (d::ds)
end
mutual
theorem cr.ay (k:az H H'):∀{v:V}{d:PyData},cr H v d->cr H' v d
 |_,_,.cj=>.cj
 |_,_,.bl c=>.bl c
 |_,_,.int i=>.int i
 |_,_,.str x o=>.str x o
 |_,_,.lst h t=>.lst (k _ _ h) (aI.ay k t)
 |_,_,.tup h t=>.tup (k _ _ h) (aI.ay k t)
theorem aI.ay (k:az H H'):∀{vs:List V}{ds:Ξ1},aI H vs ds->aI H' vs ds
 |_,_,.nil=>.nil
 |_,_,.cons h t=>.cons (cr.ay k h) (aI.ay k t)
end
mutual
theorem cr.dt:∀{v:V}{d:PyData},cr H v d->ng K H v d
 |_,_,.cj=>.cj
 |_,_,.bl c=>.bl c
 |_,_,.int i=>.int i
 |_,_,.str x o=>.str x o
 |_,_,.lst h t=>.lst (bI.of h) (aI.dt t)
 |_,_,.tup h t=>.tup (aN.of h) (aI.dt t)
theorem aI.dt {K:Θ1}{H:Hp}:∀{vs:List V}{ds:Ξ1},aI H vs ds->ft K H vs ds
 |_,_,.nil=>.nil
 |_,_,.cons h t=>.cons (cr.dt h) (aI.dt t)
end
theorem aI.len:∀{vs:List V}{ds:Ξ1},aI H vs ds->↥vs=↥ds
 |_,_,.nil=>rfl
 |_,_,.cons _ t=>by simp[aI.len t]
theorem aI.app:∀{vs ws:List V}{ds es:Ξ1},aI H vs ds->aI H ws es->aI H (vs++ws) (ds++es)
 |_,_,_,_,.nil,g=>g
 |_,_,_,_,.cons h t,g=>.cons h (aI.app t g)
theorem aI.take:∀{vs:List V}{ds:Ξ1}(n:Nat),aI H vs ds->aI H (vs.take n) (ds.take n)
 |_,_,0,_=>by simpa using aI.nil
 |_,_,n+1,.nil=>by simpa using aI.nil
 |_,_,n+1,.cons h t=>.cons h (aI.take n t)
theorem aI.drop:∀{vs:List V}{ds:Ξ1}(n:Nat),aI H vs ds->aI H (vs.drop n) (ds.drop n)
 |_,_,0,h=>h
 |_,_,n+1,.nil=>by simpa using aI.nil
 |_,_,n+1,.cons h t=>aI.drop n t
theorem aI.at:∀{vs:List V}{ds:Ξ1}{i:Nat}{x:V},aI H vs ds->vs[i]?=↑x->∃d,ds[i]?=↑d/\cr H x d
 |_,_,0,_,.cons h t,e=>⟨_,(),by rw[<- aaa e];exact h⟩
 |_,_,i+1,x,.cons h t,e=>by
  let⟨d,h1,h2⟩:=aI.at (i:=i) (x:=x) t ‹e›;exact⟨d,by simpa using h1,h2⟩
theorem aI.get:∀{vs:List V}{ds:Ξ1}{i:Nat}{d:PyData},aI H vs ds->ds[i]?=↑d->∃x,vs[i]?=↑x/\cr H x d
 |_,_,0,_,.cons h t,e=>⟨_,(),by rw[<- aaa e];exact h⟩
 |_,_,i+1,x,.cons h t,e=>by
  let⟨d,h1,h2⟩:=aI.get (i:=i) (d:=x) t ‹e›;exact⟨d,by simpa using h1,h2⟩
mutual
def C4:PyData->Bool
 |.list _=>false
 |.dict _=>false
 |.tuple ds=>sd ds
 |_=>true
def sd:Ξ1->Bool
 |[]=>true
 |d::ds=>C4 d&&sd ds
end
mutual
theorem ni (k:∀a xs,H a=↑(.tup xs)->g a=↑(.tup xs)):∀{v:V}{d:PyData},C4 d->fX b H v d->cr g v d
 |_,_,_,.cj=>.cj
 |_,_,_,.bl c=>.bl c
 |_,_,_,.int i=>.int i
 |_,_,_,.str x o=>.str x o
 |_,_,n,.lst _ h t=>by cases n
 |_,_,n,.tup h t=>.tup (k _ _ h) (qP k n t)
theorem qP {b:Addr}{H g:Hp}(k:∀a xs,H a=↑(.tup xs)->g a=↑(.tup xs)):∀{vs:List V}{ds:Ξ1},sd ds->ci b H vs ds->aI g vs ds
 |_,_,_,.nil=>.nil
 |_,_,n,.cons h t=>by
  let n':=(Z4 _ _).mp n;exact .cons (ni k n'.1 h) (qP k n'.2 t)
end
mutual
theorem cr.SW:∀{v:V}{d:PyData},C4 d->cr H v d->fX b H v d
 |_,_,_,.cj=>.cj
 |_,_,_,.bl c=>.bl c
 |_,_,_,.int i=>.int i
 |_,_,_,.str x o=>.str x o
 |_,_,n,.lst h t=>by cases n
 |_,_,n,.tup h t=>.tup h (aI.SW n t)
theorem aI.SW {b:Addr}{H:Hp}:∀{vs:List V}{ds:Ξ1},sd ds->aI H vs ds->ci b H vs ds
 |_,_,_,.nil=>.nil
 |_,_,n,.cons h t=>by
  let n':=(Z4 _ _).mp n;exact .cons (cr.SW n'.1 h) (aI.SW n'.2 t)
end
inductive AV where
 |im (d:PyData) |own (k:Nat) |bag (j:Nat) |yT (ns:Γ3) |Bo (k:Nat)
abbrev Φ9(d:PyData):Option AV:=↑(.im d)
abbrev aX:=List (Option (List AV))
abbrev g9:=List (Option AV)
structure Wd where
 dS:List Addr
 bK:List Addr
 dh:List (Addr×HO)
 iM:List Nat
def jK (w:Wd)(O:aX)(a:Addr):Prop:=a∈w.dS\/(∃o,(a,o)∈w.dh)\/∃(k:Nat) (c:List AV),w.bK[k]?=↑a/\O[k]?=↑↑c
open Classical in
def G (w:Wd)(O:aX)(H:Hp):Hp:=λa=>if jK w O a then none else H a
def hG (h:¬ jK w O a):G w O H a=H a:=aga h
def fq (h:G w O H a=↑o):H a=↑o/\¬ jK w O a:=by
 unfold G at h
 grind
def iD (K:Θ1)(w:Wd)(g:Hp)(v:V):AV->Prop
 |.im d=>cr g v d
 |.own k=>∃a,w.bK[k]?=↑a/\k∉w.iM/\v=.ref a
 |.Bo k=>∃a,w.bK[k]?=↑a/\k∈w.iM/\v=.ref a
 |.bag j=>∃a,w.dS[j]?=↑a/\v=.ref a
 |.yT ns=>∃a,v=.ref a/\bI K g a (ns.map V.int)
def bu (K:Θ1)(w:Wd)(g:Hp)(vs:List V)(xs:List AV):Prop:=↥vs=↥xs/\∀(i:Nat) v x,vs[i]?=↑v->xs[i]?=↑x->iD K w g v x
def pairD (p:Int×PyData):AV:=.im (.tuple [.int p.1,p.2])
inductive uy (g:Hp):List (d4×V)->List AV->Prop
 |nil:uy g [] []
 |cons {n:Int}{v:V}{d:PyData}{kvs:List (d4×V)}{c:List AV}:cr g v d->uy g kvs c->uy g ((Sum.inl n,v)::kvs) (pairD (n,d)::c)
def sk (K:Θ1)(w:Wd)(g:Hp)(k:Nat)(o:HO)(c:List AV):Prop:=k<↥w.bK/\((k∉w.iM/\∃vs,o=.lst vs/\bu K w g vs c)\/(k∈w.iM/\∃kvs,o=.dK kvs/\uy g kvs c))
structure aE (K:Θ1)(w:Wd)(O:aX)(H:Hp):Prop where
 len:↥w.bK=↥O
 nd:w.bK.Nodup
 al:∀a∈w.bK,∃o,H a=↑o
 nb:∀a∈w.dS,a∉w.bK
 hn:(w.dh.map (·.1)).Nodup
 nh:∀p∈w.dh,p.1∉w.bK/\p.1∉w.dS/\H p.1=↑p.2/\∀xs,p.2≠.tup xs
 bg:∀a∈w.dS,ui H a
 wL:∀(k:Nat) c,O[k]?=↑↑c->∃a o,w.bK[k]?=↑a/\H a=↑o/\sk K w (G w O H) k o c
 dl:∀k∈w.iM,k<↥O
structure mW (w:Wd)(O:aX)(H:Hp)(w':Wd)(O':aX)(H':Hp):Prop where
 bs:∃t,w'.dS=w.dS++t
 bK:∃t,w'.bK=w.bK++t
 hs:∃t,w'.dh=t++w.dh
 ay:az (G w O H) (G w' O' H')
 dk:∀k,k<↥w.bK->(k∈w'.iM↔k∈w.iM)
structure bR (w:Wd)(O:aX)(H:Hp)(w':Wd)(O':aX)(H':Hp):Prop where
 ex:mW w O H w' O' H'
 dh:w'.dh=w.dh
def mW.refl (w:Wd)(O:aX)(H:Hp):mW w O H w O H:=⟨⟨[],by simp⟩,⟨[],by simp⟩,⟨[],by simp⟩,az.refl _,λ_ _=>Iff.rfl⟩
def mW.trans (a:mW w O H w1 O1 H1)(b:mW w1 O1 H1 w2 O2 H2):mW w O H w2 O2 H2:=by
 let⟨t,ht⟩:=a.bK;let⟨u,hu⟩:=b.bK;let⟨t',ht'⟩:=a.hs;let⟨u',Δ⟩:=b.hs;let⟨t2,Nx⟩:=a.bs;let⟨u2,Γ⟩:=b.bs;exact⟨⟨t2++u2,by rw[Γ,Nx,Yp]⟩,⟨t++u,by rw[hu,ht,Yp]⟩,⟨u'++t',by rw[Δ,ht',Yp]⟩,a.ay.trans b.ay,λk hk=>(b.dk k (by rw[ht,Zv];omega)).trans (a.dk k hk)⟩
def bR.refl (w:Wd)(O:aX)(H:Hp):bR w O H w O H:=⟨mW.refl _ _ _,()⟩
def bR.trans (a:bR w O H w1 O1 H1)(b:bR w1 O1 H1 w2 O2 H2):bR w O H w2 O2 H2:=⟨a.ex.trans b.ex,b.dh.trans a.dh⟩
def mW.at (e:mW w O H w1 O1 H1){k:Nat}(h:w.bK[k]?=↑a):w1.bK[k]?=↑a:=by
 let⟨t,ht⟩:=e.bK;rw[ht,Zr (Zg.mp h).1];exact h
theorem iD.ex {H H1:Hp}(e:mW w O H w1 O1 H1):∀{x:AV},iD K w (G w O H) v x->iD K w1 (G w1 O1 H1) v x
 |.im d,h=>by
  exact cr.ay e.ay h
 |.own k,h=>by
  let⟨a,h1,h2,h3⟩:=h;exact⟨a,e.at h1,λz=>h2 ((e.dk k (Zg.mp h1).1).mp z),h3⟩
 |.Bo k,h=>by
  let⟨a,h1,h2,h3⟩:=h;exact⟨a,e.at h1,(e.dk k (Zg.mp h1).1).mpr h2,h3⟩
 |.bag j,h=>by
  let⟨a,h1,h2⟩:=h;let⟨t,ht⟩:=e.bs;exact⟨a,by rw[ht,Zr (Zg.mp h1).1];exact h1,h2⟩
 |.yT ns,h=>by
  let⟨a,h1,h2⟩:=h;exact⟨a,h1,KG.bI.ay h2 e.ay⟩
def bu.ex (e:mW w O H w1 O1 H1)(h:bu K w (G w O H) vs xs):bu K w1 (G w1 O1 H1) vs xs:=⟨h.1,λi v x h1 h2=>(h.2 i v x h1 h2).ex e⟩
def uy.ay (s:az g g')(h:uy g kvs c):uy g' kvs c:=by
 induction h with
 |nil=>exact .nil
 |cons t _ ih=>exact .cons (cr.ay s t) ih
def sk.ex (e:mW w O H w1 O1 H1)(h:sk K w (G w O H) k o c):sk K w1 (G w1 O1 H1) k o c:=by
 let⟨hk,h⟩:=h;apply⟨by let⟨t,ht⟩:=e.bK;rw[ht,Zv];omega,?_⟩;rcases h with ⟨h1,vs,h2,h3⟩ |⟨h1,kvs,h2,h3⟩
 .exact .inl ⟨λz=>h1 ((e.dk k hk).mp z),vs,h2,h3.ex e⟩
 .exact .inr ⟨(e.dk k hk).mpr h1,kvs,h2,h3.ay e.ay⟩
def aE.qh (r:aE K w O H)(hn:k∉w.iM)(h:O[k]?=↑↑c):∃a vs,w.bK[k]?=↑a/\H a=↑(.lst vs)/\bu K w (G w O H) vs c:=by
 let⟨a,o,h1,h2,_,h3⟩:=r.wL k c h;rcases h3 with ⟨_,vs,rfl,h4⟩ |⟨h4,_⟩
 .exact⟨a,vs,h1,h2,h4⟩
 .exact afa h4 hn
def aE.Vv (r:aE K w O H)(hn:k∈w.iM)(h:O[k]?=↑↑c):∃a kvs,w.bK[k]?=↑a/\H a=↑(.dK kvs)/\uy (G w O H) kvs c:=by
 let⟨a,o,h1,h2,_,h3⟩:=r.wL k c h;rcases h3 with ⟨h4,_⟩ |⟨_,kvs,rfl,h4⟩
 .exact afa hn h4
 .exact⟨a,kvs,h1,h2,h4⟩
def bu.nil:bu K w g [] []:=⟨(),λi v x h=>by simp at h⟩
def bu.cons {K:Θ1}{w:Wd}{g:Hp}{v:V}{x:AV}{vs:List V}{xs:List AV}(h:iD K w g v x)(hs:bu K w g vs xs):bu K w g (v::vs) (x::xs):=by
 apply⟨by simp[hs.1],λi u y h1 h2=>?_⟩;cases i with
 |zero=>simp at h1 h2;rw[<- h1,<- h2];exact h
 |succ i=>exact hs.2 i u y ‹h1› ‹h2›
def bu.aW (h:bu K w g vs (x::xs)):∃v us,vs=v::us/\iD K w g v x/\bu K w g us xs:=by
 cases vs with
 |nil=>exact afa h.1 (by simp)
 |cons v us =>
  apply⟨v,us,(),h.2 0 v x rfl rfl,by have:=h.1;simp at this;exact this,λi u y h1 h2=>h.2 (i+1) u y ‹h1› ‹h2›⟩
def bu.cC (h:bu K w g vs []):vs=[]:=Jf.mp h.1
def bu.app (h:bu K w g vs xs)(h':bu K w g us ys):bu K w g (vs++us) (xs++ys):=by
 apply⟨by simp[h.1,h'.1],λi v x h1 h2=>?_⟩;rcases Yb i ↥vs with y |y
 .rw[Zr y] at h1;rw[Zr (by rw[<- h.1];exact y)] at h2;exact h.2 i v x h1 h2
 .rw[Yh y] at h1;rw[Yh (by rw[<- h.1];exact y)] at h2;rw[<- h.1] at h2;exact h'.2 _ v x h1 h2
def bu.set (h:bu K w g vs xs)(hx:iD K w g v x)(j:Nat):bu K w g (vs.set j v) (xs.set j x):=by
 apply⟨by simp[h.1],λi u y h1 h2=>?_⟩;by_cases e:j=i
 .subst e;let hl:=(Zg.mp h1).1;rw[Yi] at hl;rw[Yq hl] at h1;rw[Yq (by rw[<- h.1];exact hl)] at h2;rw[<- aaa h1,<- aaa h2];exact hx
 .rw[Z8 e] at h1 h2;exact h.2 i u y h1 h2
def bu.at {i:Nat}(h:bu K w g vs xs)(hx:xs[i]?=↑x):∃v,vs[i]?=↑v/\iD K w g v x:=by
 let hl:=(Zg.mp hx).1;let hv:i<↥vs:=by rw[h.1];exact hl
 exact⟨vs[i],Zc hv,h.2 i _ x (Zc hv) hx⟩
theorem aI.YV:∀{vs:List V}{ds:Ξ1},aI g vs ds->bu K w g vs (ds.map .im)
 |_,_,.nil=>bu.nil
 |_,_,.cons h t=>bu.cons h (aI.YV t)
theorem bu.tr:∀{ds:Ξ1}{vs:List V},bu K w g vs (ds.map .im)->aI g vs ds
 |[],_,h=>by rw[bu.cC h];exact .nil
 |d::ds,_,h=>by
  let⟨v,us,rfl,h1,h2⟩:=bu.aW h;exact .cons h1 (bu.tr h2)
def cy (K:Θ1)(w:Wd)(g:Hp)(σ:St)(sl:g9):Prop:=↥σ=↥sl/\∀(i:Nat) x,sl[i]?=↑↑x->∃v,σ[i]?=↑↑v/\iD K w g v x
def cy.ex (e:mW w O H w1 O1 H1)(h:cy K w (G w O H) σ sl):cy K w1 (G w1 O1 H1) σ sl :=
 ⟨h.1,λi x hx=>by let⟨v,h1,h2⟩:=h.2 i x hx;exact⟨v,h1,h2.ex e⟩⟩
def cy.set (h:cy K w g σ sl)(hx:iD K w g v x)(j:Nat):cy K w g (σ.set j ↑v) (sl.set j ↑x):=by
 apply⟨by simp[h.1],λi y h2=>?_⟩;by_cases e:j=i
 .subst e;let hl:=(Zg.mp h2).1;rw[Yi] at hl;rw[Yq hl] at h2;let hy:x=y:=by injection (aaa h2)
  exact⟨v,by rw[Yq (by rw[h.1];exact hl)],hy▸hx⟩
 .rw[Z8 e] at h2;rw[Z8 e];exact h.2 i y h2
def fQ (own:Nat)(ix:List Nat)(sl:g9):g9:=List.replicate own none++ix.map λi=>(sl[i]?).getD none
def cy.blk (h:cy K w g σ sl)(own:Nat)(ix:List Nat):cy K w g (dH own ix σ) (fQ own ix sl):=by
 apply⟨by simp[dH,fQ],λi x hx=>?_⟩;unfold fQ at hx;unfold dH;rcases Yb i own with y |y
 .rw[Zr ‹y›] at hx;rw[Y9,aha y] at hx;cases aaa hx
 .rw[Yh ‹y›] at hx ⊢;rw[Qq,Zo] at hx ⊢;cases hj:ix[i-own]? with
  |none=>rw[hj] at hx;cases hx
  |some j =>
   rw[hj] at hx;let wJ:(sl[j]?).getD none=↑x:=aaa hx;have:sl[j]?=↑↑x:=by
    cases hs:sl[j]? with
    |none=>rw[hs] at wJ;cases wJ
    |some o=>rw[hs] at wJ;exact ata some wJ
   let⟨v,h1,h2⟩:=h.2 j x this;apply⟨v,?_,h2⟩;show ↑((σ[j]?).getD none)=_;rw[h1];rfl
def Zx (K:Θ1)(QX:Addr->aX->Prop)(E:XK)(w:Wd)(O:aX)(H:Hp):Prop:=∀c O' w' H',QX c O'->mW w O H w' O' H'->aE K w' O' H'->E (.ref c) none H'
structure gB (K:Θ1)(QX:Addr->aX->Prop)(E:XK)(w:Wd)(O:aX)(H:Hp)(σ:St)(sl:g9):Prop where
 ro:aE K w O H
 so:cy K w (G w O H) σ sl
 zx:Zx K QX E w O H
def gB.ex (c:gB K QX E w O H σ sl)(e:mW w O H w1 O1 H1)(r:aE K w1 O1 H1):gB K QX E w1 O1 H1 σ sl :=
 ⟨r,c.so.ex e,λk O' w' H' q e' r'=>c.zx k O' w' H' q (e.trans e') r'⟩
abbrev ME:=g9->aX->(AV->aX->Prop)->Prop
abbrev MT:=g9->aX->(Bool->aX->Prop)->Prop
abbrev MA:=g9->aX->(List AV->aX->Prop)->Prop
structure zV where
 nx:g9->aX->Prop
 rt:AV->aX->Prop
 bk:g9->aX->Prop:=λ_ _=>False
 ct:g9->aX->Prop:=λ_ _=>False
abbrev MS:=zV->g9->aX->Prop
section
variable (K:Θ1)(QX:Addr->aX->Prop)(E:XK)
def bQ (M:ME):TE:=λσ H Q=>∃w O sl Q0,gB K QX E w O H σ sl/\M sl O Q0/\∀x O' v w' H',Q0 x O'->bR w O H w' O' H'->aE K w' O' H'->iD K w' (G w' O' H') v x->Q v H'
def iN (M:MT):TT:=λσ H Q=>∃w O sl Q0,gB K QX E w O H σ sl/\M sl O Q0/\∀c O' w' H',Q0 c O'->bR w O H w' O' H'->aE K w' O' H'->Q c H'
def ud (M:MA):TA:=λσ H Q=>∃w O sl Q0,gB K QX E w O H σ sl/\M sl O Q0/\∀xs O' vs w' H',Q0 xs O'->bR w O H w' O' H'->aE K w' O' H'->bu K w' (G w' O' H') vs xs->Q vs H'
def jI (M:MS):TS:=λD σ H=>∃w O sl D0,gB K QX E w O H σ sl/\M D0 sl O /\
 (∀c3 O' w' H' aO,D0.nx c3 O'->gB K QX E w' O' H' aO c3->bR w O H w' O' H'->D.nx aO H') /\
 (∀c3 O' w' H' aO,D0.bk c3 O'->gB K QX E w' O' H' aO c3->bR w O H w' O' H'->D.bk aO H') /\
 (∀c3 O' w' H' aO,D0.ct c3 O'->gB K QX E w' O' H' aO c3->bR w O H w' O' H'->D.ct aO H') /\
 (∀x O' w' H' v,D0.rt x O'->bR w O H w' O' H'->aE K w' O' H'->iD K w' (G w' O' H') v x->D.rt v H')
end
def bQ.o {P:Prop}(h:bQ K QX E M σ H Q)(k:∀w O sl Q0,gB K QX E w O H σ sl->M sl O Q0->(∀x O' v w' H',Q0 x O'->bR w O H w' O' H'->aE K w' O' H'->iD K w' (G w' O' H') v x->Q v H')->P):P:=by
 let⟨x0,x1,x2,x3,x4,x5,x6⟩:=h;exact k x0 x1 x2 x3 x4 x5 x6
def iN.o {P:Prop}(h:iN K QX E M σ H Q)(k:∀w O sl Q0,gB K QX E w O H σ sl->M sl O Q0->(∀c O' w' H',Q0 c O'->bR w O H w' O' H'->aE K w' O' H'->Q c H')->P):P:=by
 let⟨x0,x1,x2,x3,x4,x5,x6⟩:=h;exact k x0 x1 x2 x3 x4 x5 x6
def ud.o {P:Prop}(h:ud K QX E M σ H Q)(k:∀w O sl Q0,gB K QX E w O H σ sl->M sl O Q0->(∀xs O' vs w' H',Q0 xs O'->bR w O H w' O' H'->aE K w' O' H'->bu K w' (G w' O' H') vs xs->Q vs H')->P):P:=by
 let⟨x0,x1,x2,x3,x4,x5,x6⟩:=h;exact k x0 x1 x2 x3 x4 x5 x6
def jI.o {P:Prop}(h:jI K QX E M D σ H)(k:∀w O sl D0,gB K QX E w O H σ sl->M D0 sl O->((∀c3 O' w' H' aO,D0.nx c3 O'->gB K QX E w' O' H' aO c3->bR w O H w' O' H'->D.nx aO H'))->((∀c3 O' w' H' aO,D0.bk c3 O'->gB K QX E w' O' H' aO c3->bR w O H w' O' H'->D.bk aO H'))->((∀c3 O' w' H' aO,D0.ct c3 O'->gB K QX E w' O' H' aO c3->bR w O H w' O' H'->D.ct aO H'))->((∀x O' w' H' v,D0.rt x O'->bR w O H w' O' H'->aE K w' O' H'->iD K w' (G w' O' H') v x->D.rt v H'))->P):P:=by
 let⟨x0,x1,x2,x3,x4,x5,x6,x7,x8,x9⟩:=h;exact k x0 x1 x2 x3 x4 x5 x6 x7 x8 x9
section
def aE.all (r:aE K w O H)(h:jK w O a):∃o,H a=↑o:=by
 rcases h with h1 |⟨o,h1⟩ |⟨k,c,h1,h2⟩
 .obtain⟨c,d,e⟩:=r.bg _ h1;exact⟨_,e⟩
 .exact⟨_,(r.nh _ h1).2.2.1⟩
 .obtain⟨a',vs,e1,e2,_⟩:=r.wL k c h2;rw[h1] at e1;cases aaa e1;exact⟨_,e2⟩
def aE.fresh (r:aE K w O H)(h:H a=none):¬ jK w O a:=λz=>by let⟨o,e⟩:=r.all z;rw[h] at e;cases e
def aE.ay (r:aE K w O H)(s:az H H'):aE K w O H'/\bR w O H w O H'/\∀a o,H a=none->H' a=↑o->G w O H' a=↑o:=by
 let sg:az (G w O H) (G w O H'):=λa o h=>by
  let⟨h1,h2⟩:=fq h;rw[hG h2];exact s _ _ h1
 let e:bR w O H w O H':=⟨⟨⟨[],by simp⟩,⟨[],by simp⟩,⟨[],by simp⟩,sg,λ_ _=>Iff.rfl⟩,()⟩;apply⟨⟨r.len,r.nd,λa ha=>(let ⟨o,h⟩:=r.al a ha;⟨o,s _ _ h⟩),r.nb,r.hn,λp hp=>⟨(r.nh p hp).1,(r.nh p hp).2.1,s _ _ (r.nh p hp).2.2.1,(r.nh p hp).2.2.2⟩,λa ha=>ui.ay (r.bg a ha) s,λk c hk=>?_,r.dl⟩,e,λa o h1 h2=>?_⟩
 .obtain⟨a,vs,h1,h2,h3⟩:=r.wL k c hk;exact⟨a,vs,h1,s _ _ h2,h3.ex e.ex⟩
 .rw[hG (r.fresh h1)];exact h2
def aE.draw (r:aE K w O H)(hb:b∈w.dS)(k:Kp b H H')(hB:ui H' b):aE K w O H'/\bR w O H w O H'/\∀a o,H a=none->H' a=↑o->G w O H' a=↑o:=by
 let sg:az (G w O H) (G w O H'):=λa o h=>by
  let⟨h1,h2⟩:=fq h;rw[hG h2];exact k _ _ (λz=>h2 (Or.inl (z▸hb))) h1
 let e:bR w O H w O H':=⟨⟨⟨[],by simp⟩,⟨[],by simp⟩,⟨[],by simp⟩,sg,λ_ _=>Iff.rfl⟩,()⟩;apply⟨⟨r.len,r.nd,λa ha=>(let ⟨o,h⟩:=r.al a ha;⟨o,k _ _ (λz=>r.nb b hb (z▸ha)) h⟩),r.nb,r.hn,λp hp=>⟨(r.nh p hp).1,(r.nh p hp).2.1,k _ _ (λz=>(r.nh p hp).2.1 (z▸hb)) (r.nh p hp).2.2.1,(r.nh p hp).2.2.2⟩,λa ha=>?_,λj c hk=>?_,r.dl⟩,e,λa o h1 h2=>?_⟩
 .by_cases z:a=b
  .rw[z];exact hB
  .obtain⟨x,y,q⟩:=r.bg a ha;exact⟨x,y,k _ _ z q⟩
 .obtain⟨a,vs,h1,h2,h3⟩:=r.wL j c hk;exact⟨a,vs,h1,k _ _ (λz=>r.nb b hb (z▸Z1 h1)) h2,h3.ex e.ex⟩
 .rw[hG (r.fresh h1)];exact h2
def aE.bag (r:aE K w O H)(hp:H p=none):aE K { w with dS:=w.dS++[p] } O (aP H p (.lst [.int x,.int y]))/\bR w O H { w with dS:=w.dS++[p] } O (aP H p (.lst [.int x,.int y])):=by
 let lH:∀a,jK { w with dS:=w.dS++[p] } O a->jK w O a\/a=p:=λa h=>by
  rcases h with h |h
  .rcases Zz.mp h with h |h
   .exact .inl (.inl h)
   .exact .inr (Z3.mp h)
  .exact .inl (.inr h)
 let sg:az (G w O H) (G { w with dS:=w.dS++[p] } O (aP H p (.lst [.int x,.int y]))):=λa o h=>by
  let⟨h1,h2⟩:=fq h;let bF:a≠p:=λz=>by rw[z,hp] at h1;cases h1
  rw[hG (λz=>(lH a z).elim h2 bF),dE bF];exact h1
 let e:bR w O H { w with dS:=w.dS++[p] } O (aP H p (.lst [.int x,.int y])):=⟨⟨⟨[p],rfl⟩,⟨[],by simp⟩,⟨[],by simp⟩,sg,λ_ _=>Iff.rfl⟩,rfl⟩;let Te:p∉w.bK:=λz=>by let⟨u,h⟩:=r.al p z;rw[hp] at h;cases h
 apply⟨⟨r.len,r.nd,λa ha=>?_,λa ha=>?_,r.hn,λq hq=>?_,λa ha=>?_,λk c hk=>?_,r.dl⟩,e⟩
 .obtain⟨u,h⟩:=r.al a ha;let bF:a≠p:=λz=>Te (z▸ha)
  exact⟨u,by rw[dE bF];exact h⟩
 .rcases Zz.mp ha with h |h
  .exact r.nb a h
  .rw[Z3.mp h];exact Te
 .obtain⟨h1,h2,h3,h4⟩:=r.nh q hq;let bF:q.1≠p:=λz=>by rw[z,hp] at h3;cases h3
  apply⟨h1,λz=>?_,by rw[dE bF];exact h3,h4⟩;rcases Zz.mp z with h |h
  .exact h2 h
  .exact bF (Z3.mp h)
 .rcases Zz.mp ha with h |h
  .exact(r.bg a h).new hp
  .rw[Z3.mp h];exact⟨x,y,eC⟩
 .obtain⟨a',vs,h1,h2,h3⟩:=r.wL k c hk;let bF:a'≠p:=λz=>by rw[z,hp] at h2;cases h2
  exact⟨a',vs,h1,by rw[dE bF];exact h2,h3.ex e.ex⟩
def aE.new (r:aE K w O H)(hp:H p=none):aE K w O (aP H p o)/\bR w O H w O (aP H p o)/\G w O (aP H p o) p=↑o:=by
 let⟨h1,h2,h3⟩:=r.ay ((az.refl H).new (o:=o) hp);exact⟨h1,h2,h3 p o hp eC⟩
def jK.set (hk:O[k]?=↑↑c):jK w (O.set k ↑c') a↔jK w O a:=by
 let hl:=(Zg.mp hk).1;unfold jK;constructor
 .rintro(h |h |⟨j,d,h1,h2⟩)
  .exact .inl h
  .exact .inr (.inl h)
  .by_cases e:k=j
   .subst e;exact .inr (.inr ⟨k,c,h1,hk⟩)
   .rw[Z8 e] at h2;exact .inr (.inr ⟨j,d,h1,h2⟩)
 .rintro(h |h |⟨j,d,h1,h2⟩)
  .exact .inl h
  .exact .inr (.inl h)
  .by_cases e:k=j
   .subst e;exact .inr (.inr ⟨k,c',h1,Yq hl⟩)
   .exact .inr (.inr ⟨j,d,h1,by rw[Z8 e];exact h2⟩)
def aE.put (r:aE K w O H)(hk:O[k]?=↑↑c)(hn:k∉w.iM)(ha:w.bK[k]?=↑a)(hv:H a=↑(.lst vs))(hc:bu K w (G w O H) wO c') :
  aE K w (O.set k ↑c') (aP H a (.lst wO))/\bR w O H w (O.set k ↑c') (aP H a (.lst wO)):=by
 let hl:=(Zg.mp hk).1;let Ou:jK w O a:=.inr (.inr ⟨k,c,ha,hk⟩);let sg:az (G w O H) (G w (O.set k ↑c') (aP H a (.lst wO))):=λx o h=>by
  let⟨h1,h2⟩:=fq h;let bF:x≠a:=λz=>h2 (z▸Ou)
  rw[hG (λz=>h2 ((jK.set hk).mp z)),dE bF];exact h1
 let e:bR w O H w (O.set k ↑c') (aP H a (.lst wO)):=⟨⟨⟨[],by simp⟩,⟨[],by simp⟩,⟨[],by simp⟩,sg,λ_ _=>Iff.rfl⟩,()⟩;apply⟨⟨by rw[Yi];exact r.len,r.nd,λx hx=>?_,r.nb,r.hn,λp hp=>?_,λb hb=>?_,λj d hj=>?_,λj hj=>by rw[Yi];exact r.dl j hj⟩,e⟩
 .obtain⟨o,h⟩:=r.al x hx;by_cases z:x=a
  .subst z;exact⟨_,eC⟩
  .exact⟨o,by rw[dE z];exact h⟩
 .obtain⟨h1,h2,h3,h4⟩:=r.nh p hp;let bF:p.1≠a:=λz=>h1 (z▸Z1 ha)
  exact⟨h1,h2,by rw[dE bF];exact h3,h4⟩
 .exact(r.bg b hb).acc (λz=>r.nb b hb (z▸Z1 ha))
 .by_cases ej:k=j
  .subst ej;rw[Yq hl] at hj;let hd:c'=d:=by injection (aaa hj)
   subst hd;exact⟨a,_,ha,eC,(Zg.mp ha).1,.inl ⟨hn,wO,(),hc.ex e.ex⟩⟩
  .rw[Z8 ej] at hj;let⟨a',us,h1,h2,h3⟩:=r.wL j d hj;let bF:a'≠a:=λz=>by
    subst z;exact ej ((List.getElem?_inj (Zg.mp ha).1 r.nd).mp (ha.trans h1.symm))
   exact⟨a',us,h1,by rw[dE bF];exact h2,h3.ex e.ex⟩
def aE.putD (r:aE K w O H)(hk:O[k]?=↑↑c)(hn:k∈w.iM)(ha:w.bK[k]?=↑a)(hv:H a=↑(.dK vs))(hc:uy (G w O H) wO c') :
  aE K w (O.set k ↑c') (aP H a (.dK wO))/\bR w O H w (O.set k ↑c') (aP H a (.dK wO)):=by
 let hl:=(Zg.mp hk).1;let Ou:jK w O a:=.inr (.inr ⟨k,c,ha,hk⟩);let sg:az (G w O H) (G w (O.set k ↑c') (aP H a (.dK wO))):=λx o h=>by
  let⟨h1,h2⟩:=fq h;let bF:x≠a:=λz=>h2 (z▸Ou)
  rw[hG (λz=>h2 ((jK.set hk).mp z)),dE bF];exact h1
 let e:bR w O H w (O.set k ↑c') (aP H a (.dK wO)):=⟨⟨⟨[],by simp⟩,⟨[],by simp⟩,⟨[],by simp⟩,sg,λ_ _=>Iff.rfl⟩,()⟩;apply⟨⟨by rw[Yi];exact r.len,r.nd,λx hx=>?_,r.nb,r.hn,λp hp=>?_,λb hb=>?_,λj d hj=>?_,λj hj=>by rw[Yi];exact r.dl j hj⟩,e⟩
 .obtain⟨o,h⟩:=r.al x hx;by_cases z:x=a
  .subst z;exact⟨_,eC⟩
  .exact⟨o,by rw[dE z];exact h⟩
 .obtain⟨h1,h2,h3,h4⟩:=r.nh p hp;let bF:p.1≠a:=λz=>h1 (z▸Z1 ha)
  exact⟨h1,h2,by rw[dE bF];exact h3,h4⟩
 .exact(r.bg b hb).acc (λz=>r.nb b hb (z▸Z1 ha))
 .by_cases ej:k=j
  .subst ej;rw[Yq hl] at hj;let hd:c'=d:=by injection (aaa hj)
   subst hd;exact⟨a,_,ha,eC,(Zg.mp ha).1,.inr ⟨hn,wO,(),hc.ay e.ex.ay⟩⟩
  .rw[Z8 ej] at hj;let⟨a',us,h1,h2,h3⟩:=r.wL j d hj;let bF:a'≠a:=λz=>by
    subst z;exact ej ((List.getElem?_inj (Zg.mp ha).1 r.nd).mp (ha.trans h1.symm))
   exact⟨a',us,h1,by rw[dE bF];exact h2,h3.ex e.ex⟩
def aE.own (r:aE K w O H)(hp:H p=none)(hc:bu K w (G w O H) vs c) :
  aE K { w with bK:=w.bK++[p] } (O++[↑c]) (aP H p (.lst vs))/\bR w O H { w with bK:=w.bK++[p] } (O++[↑c]) (aP H p (.lst vs))/\({ w with bK:=w.bK++[p] }:Wd).bK[↥O]?=↑p:=by
 let lH:∀x,jK { w with bK:=w.bK++[p] } (O++[↑c]) x->jK w O x\/x=p:=λx h=>by
  rcases h with h |h |⟨j,d,h1,h2⟩
  .exact .inl (.inl h)
  .exact .inl (.inr (.inl h))
  .change (w.bK++[p])[j]?=↑x at h1
   rcases Yb j ↥O with y |y
   .rw[Zr y] at h2;rw[Zr (by rw[r.len];exact y)] at h1;exact .inl (.inr (.inr ⟨j,d,h1,h2⟩))
   .let hj:=(Zg.mp h1).1;rw[Zv,r.len] at hj;have:j=↥O:=by simp at hj;omega
    subst this;rw[Yh (by rw[r.len];exact Zf _),r.len,Qe] at h1;exact .inr ‹h1.symm›
 let sg:az (G w O H) (G { w with bK:=w.bK++[p] } (O++[↑c]) (aP H p (.lst vs))):=λx o h=>by
  let⟨h1,h2⟩:=fq h;let bF:x≠p:=λz=>by rw[z,hp] at h1;cases h1
  rw[hG (λz=>(lH x z).elim h2 bF),dE bF];exact h1
 let e:bR w O H { w with bK:=w.bK++[p] } (O++[↑c]) (aP H p (.lst vs)):=⟨⟨⟨[],by simp⟩,⟨[p],rfl⟩,⟨[],by simp⟩,sg,λ_ _=>Iff.rfl⟩,rfl⟩;let uv:(w.bK++[p])[↥O]?=↑p:=by rw[<- r.len];simp
 let uu:p∉w.bK:=λz=>by let⟨o,h⟩:=r.al p z;rw[hp] at h;cases h
 apply⟨⟨by simp[r.len],?_,λx hx=>?_,λb hb=>?_,r.hn,λq hq=>?_,λb hb=>(r.bg b hb).new hp,λj d hj=>?_,λj hj=>by have:=r.dl j hj;rw[Zv];omega⟩,e,uv⟩
 .show(w.bK++[p]).Nodup;rw[Qd];exact⟨r.nd,by simp,λa ha b qy e=>by rw[Z3] at qy;rw[e,qy] at ha;exact uu ha⟩
 .rcases Zz.mp hx with y |y
  .obtain⟨o,h⟩:=r.al x y;let bF:x≠p:=λz=>by rw[z,hp] at h;cases h
   exact⟨o,by rw[dE bF];exact h⟩
  .rw[Z3.mp y];exact⟨_,eC⟩
 .intro z;rcases Zz.mp z with y |y
  .exact r.nb b hb y
  .exact(r.bg b hb).ne hp (Z3.mp y)
 .obtain⟨h1,h2,h3,h4⟩:=r.nh q hq;let bF:q.1≠p:=λz=>by rw[z,hp] at h3;cases h3
  apply⟨λz=>?_,h2,by rw[dE bF];exact h3,h4⟩;rcases Zz.mp z with y |y
  .exact h1 y
  .exact bF (Z3.mp y)
 .rcases Yb j ↥O with y |y
  .rw[Zr y] at hj;let⟨a',us,h1,h2,h3⟩:=r.wL j d hj;let bF:a'≠p:=λz=>by rw[z,hp] at h2;cases h2
   exact⟨a',us,e.ex.at h1,by rw[dE bF];exact h2,h3.ex e.ex⟩
  .let mV:=(Zg.mp hj).1;rw[Zv] at mV;have:j=↥O:=by simp at mV;omega
   subst this;rw[Yh (Zf _),Qe] at hj;let hd:c=d:=by injection (aaa hj)
   subst hd;exact⟨p,_,uv,eC,(Zg.mp uv).1,.inl ⟨λz=>afa (r.dl _ z) (Yl _),vs,(),hc.ex e.ex⟩⟩
def aE.hide (r:aE K w O H)(ha:H a=none)(ho:∀xs,o≠.tup xs):aE K { w with dh:=(a,o)::w.dh } O (aP H a o)/\mW w O H { w with dh:=(a,o)::w.dh } O (aP H a o):=by
 let lH:∀x,jK { w with dh:=(a,o)::w.dh } O x->jK w O x\/x=a:=λx h=>by
  rcases h with h |⟨u,h⟩ |h
  .exact .inl (.inl h)
  .rcases Zj.mp h with e |e
   .exact .inr (by injection e)
   .exact .inl (.inr (.inl ⟨u,e⟩))
  .exact .inl (.inr (.inr h))
 let sg:az (G w O H) (G { w with dh:=(a,o)::w.dh } O (aP H a o)):=λx u h=>by
  let⟨h1,h2⟩:=fq h;let bF:x≠a:=λz=>by rw[z,ha] at h1;cases h1
  rw[hG (λz=>(lH x z).elim h2 bF),dE bF];exact h1
 let e:mW w O H { w with dh:=(a,o)::w.dh } O (aP H a o):=⟨⟨[],by simp⟩,⟨[],by simp⟩,⟨[(a,o)],rfl⟩,sg,λ_ _=>Iff.rfl⟩;let Te:a∉w.bK:=λz=>by let⟨u,h⟩:=r.al a z;rw[ha] at h;cases h
 apply⟨⟨r.len,r.nd,λx hx=>?_,r.nb,?_,λp hp=>?_,λb hb=>(r.bg b hb).new ha,λk c hk=>?_,r.dl⟩,e⟩
 .obtain⟨u,h⟩:=r.al x hx;let bF:x≠a:=λz=>Te (z▸hx)
  exact⟨u,by rw[dE bF];exact h⟩
 .show(a::w.dh.map (·.1)).Nodup;rw[Yc];apply⟨λz=>?_,r.hn⟩;let⟨p,hp,e⟩:=Zd.mp z;have:=(r.nh p hp).2.2.1;rw[e,ha] at this;cases this
 .rcases Zj.mp hp with e |e
  .subst e;exact⟨Te,λhb=>(r.bg a hb).ne ha rfl,eC,ho⟩
  .obtain⟨h1,h2,h3,h4⟩:=r.nh p e;let bF:p.1≠a:=λz=>by rw[z,ha] at h3;cases h3
   exact⟨h1,h2,by rw[dE bF];exact h3,h4⟩
 .obtain⟨a',vs,h1,h2,h3⟩:=r.wL k c hk;let bF:a'≠a:=λz=>by rw[z,ha] at h2;cases h2
  exact⟨a',vs,h1,by rw[dE bF];exact h2,h3.ex e⟩
def jK.eq (hh:w.dh=(a,o)::h0):jK { w with dh:=(a,o')::h0 } O x↔jK w O x:=by
 unfold jK
 grind
theorem iD.gD (hb:(w'.dS,w'.iM)=(w.dS,w.iM))(ha:w'.bK=w.bK)(s:az g g'):∀{x:AV},iD K w g v x->iD K w' g' v x
 |.im d,h=>cr.ay s h
 |.own k,h=>by let⟨a,h1,h2,h3⟩:=h;exact⟨a,by rw[ha];exact h1,by rw[(Prod.mk.inj hb).2];exact h2,h3⟩
 |.Bo k,h=>by let⟨a,h1,h2,h3⟩:=h;exact⟨a,by rw[ha];exact h1,by rw[(Prod.mk.inj hb).2];exact h2,h3⟩
 |.bag j,h=>by let⟨a,h1,h2⟩:=h;exact⟨a,by rw[(Prod.mk.inj hb).1];exact h1,h2⟩
 |.yT ns,h=>by let⟨p,q1,q2⟩:=h;exact⟨p,q1,KG.bI.ay q2 s⟩
def sk.gD (hb:(w'.dS,w'.iM)=(w.dS,w.iM))(ha:w'.bK=w.bK)(s:az g g')(h:sk K w g k o c):sk K w' g' k o c:=by
 let⟨hk,h⟩:=h;apply⟨by rw[ha];exact hk,?_⟩;rw[(Prod.mk.inj hb).2];rcases h with ⟨h1,vs,h2,h3⟩ |⟨h1,kvs,h2,h3⟩
 .exact .inl ⟨h1,vs,h2,h3.1,λi v x e1 e2=>iD.gD hb ha s (h3.2 i v x e1 e2)⟩
 .exact .inr ⟨h1,kvs,h2,h3.ay s⟩
def aE.PK (r:aE K w O H)(hh:w.dh=(a,o)::h0)(ho:∀xs,o'≠.tup xs):aE K { w with dh:=(a,o')::h0 } O (aP H a o')/\az (G w O H) (G { w with dh:=(a,o')::h0 } O (aP H a o')):=by
 let⟨n1,n2,n3,n4⟩:=r.nh (a,o) (by rw[hh];exact Zk);let uu:=r.hn;rw[hh,Zm,Yc] at uu;let sg:az (G w O H) (G { w with dh:=(a,o')::h0 } O (aP H a o')):=λx u h=>by
  let⟨h1,h2⟩:=fq h;let bF:x≠a:=λz=>h2 (.inr (.inl ⟨o,by rw[hh,z];exact Zk⟩))
  rw[hG (λz=>h2 ((jK.eq hh).mp z)),dE bF];exact h1
 apply⟨⟨r.len,r.nd,λx hx=>?_,r.nb,?_,λp hp=>?_,λb hb=>(r.bg b hb).acc (λz=>n2 (z▸hb)),λk c hk=>?_,r.dl⟩,sg⟩
 .obtain⟨u,h⟩:=r.al x hx;let bF:x≠a:=λz=>n1 (z▸hx)
  exact⟨u,by rw[dE bF];exact h⟩
 .show(a::h0.map (·.1)).Nodup;rw[Yc];exact uu
 .rcases Zj.mp hp with e |e
  .subst e;exact⟨n1,n2,eC,ho⟩
  .obtain⟨h1,h2,h3,h4⟩:=r.nh p (by rw[hh];exact Zi _ e);let bF:p.1≠a:=λz=>uu.1 (Zd.mpr ⟨p,e,z⟩)
   exact⟨h1,h2,by rw[dE bF];exact h3,h4⟩
 .obtain⟨a',vs,h1,h2,h3⟩:=r.wL k c hk;let bF:a'≠a:=λz=>n1 (z▸Z1 h1)
  exact⟨a',vs,h1,by rw[dE bF];exact h2,sk.gD rfl rfl sg h3⟩
def aE.Po (r:aE K w O H)(hh:w.dh=(a,o)::h0):aE K { w with dh:=h0 } O H/\az (G w O H) (G { w with dh:=h0 } O H)/\G { w with dh:=h0 } O H a=↑o:=by
 let⟨n1,n2,n3,n4⟩:=r.nh (a,o) (by rw[hh];exact Zk);let uu:=r.hn;rw[hh,Zm,Yc] at uu;let lH:∀x,jK { w with dh:=h0 } O x->jK w O x:=λx h=>by
  rcases h with h |⟨u,h⟩ |h
  .exact .inl h
  .exact .inr (.inl ⟨u,by rw[hh];exact Zi _ h⟩)
  .exact .inr (.inr h)
 let sg:az (G w O H) (G { w with dh:=h0 } O H):=λx u h=>by
  let⟨h1,h2⟩:=fq h;rw[hG (λz=>h2 (lH x z))];exact h1
 apply⟨⟨r.len,r.nd,r.al,r.nb,uu.2,λp hp=>r.nh p (by rw[hh];exact Zi _ hp),r.bg,λk c hk=>?_,r.dl⟩,sg,?_⟩
 .obtain⟨a',vs,h1,h2,h3⟩:=r.wL k c hk;exact⟨a',vs,h1,h2,sk.gD rfl rfl sg h3⟩
 .rw[hG]
  .exact n3
  .rintro(h1 |⟨u,h⟩ |⟨j,d,h1,h2⟩)
   .exact n2 h1
   .exact uu.1 (Zd.mpr ⟨_,h,()⟩)
   .exact n1 (Z1 h1)
def aE.I0 (r:aE K w O H)(hh:w.dh=(a,.lst ys)::h0)(hc:bu K w (G w O H) ys c) :
  aE K { w with dh:=h0,bK:=w.bK++[a] } (O++[↑c]) H/\az (G w O H) (G { w with dh:=h0,bK:=w.bK++[a] } (O++[↑c]) H)/\(w.bK++[a])[↥O]?=↑a:=by
 let⟨n1,n2,n3,n4⟩:=r.nh (a,.lst ys) (by rw[hh];exact Zk);let uu:=r.hn;rw[hh,Zm,Yc] at uu;let lH:∀x,jK { w with dh:=h0,bK:=w.bK++[a] } (O++[↑c]) x->jK w O x:=λx h=>by
  rcases h with h |⟨u,h⟩ |⟨j,d,h1,h2⟩
  .exact .inl h
  .exact .inr (.inl ⟨u,by rw[hh];exact Zi _ h⟩)
  .change (w.bK++[a])[j]?=↑x at h1
   rcases Yb j ↥O with y |y
   .rw[Zr y] at h2;rw[Zr (by rw[r.len];exact y)] at h1;exact .inr (.inr ⟨j,d,h1,h2⟩)
   .let hj:=(Zg.mp h1).1;rw[Zv,r.len] at hj;have:j=↥O:=by simp at hj;omega
    subst this;rw[Yh (by rw[r.len];exact Zf _),r.len,Qe] at h1;let ex:x=a:=by simpa using h1.symm
    exact .inr (.inl ⟨_,by rw[hh,ex];exact Zk⟩)
 let sg:az (G w O H) (G { w with dh:=h0,bK:=w.bK++[a] } (O++[↑c]) H):=λx u h=>by
  let⟨h1,h2⟩:=fq h;rw[hG (λz=>h2 (lH x z))];exact h1
 let uv:(w.bK++[a])[↥O]?=↑a:=by rw[<- r.len];simp
 let av:∀{vs:List V}{xs:List AV},bu K w (G w O H) vs xs->bu K { w with dh:=h0,bK:=w.bK++[a] } (G { w with dh:=h0,bK:=w.bK++[a] } (O++[↑c]) H) vs xs:=λh=>⟨h.1,λi v x e1 e2=>by
  have:=h.2 i v x e1 e2;cases x with
  |im d=>exact cr.ay sg this
  |own j=>let⟨p,q1,q2⟩:=this;exact⟨p,by show(w.bK++[a])[j]?=_;rw[Zr (Zg.mp q1).1];exact q1,q2⟩
  |Bo j=>let⟨p,q1,q2⟩:=this;exact⟨p,by show(w.bK++[a])[j]?=_;rw[Zr (Zg.mp q1).1];exact q1,q2⟩
  |bag j=>exact this
  |yT ns=>let⟨p,q1,q2⟩:=this;exact⟨p,q1,KG.bI.ay q2 sg⟩⟩
 apply⟨⟨by simp[r.len],?_,λx hx=>?_,λb hb z=>?_,uu.2,λp hp=>?_,r.bg,λk d hk=>?_,λj hj=>by have:=r.dl j hj;rw[Zv];omega⟩,sg,uv⟩
 .show(w.bK++[a]).Nodup;rw[Qd];exact⟨r.nd,by simp,λx hx b qy e=>by rw[Z3] at qy;rw[e,qy] at hx;exact n1 hx⟩
 .rcases Zz.mp hx with y |y
  .exact r.al x y
  .rw[Z3.mp y];exact⟨_,n3⟩
 .rcases Zz.mp z with y |y
  .exact r.nb b hb y
  .exact n2 (Z3.mp y▸hb)
 .obtain⟨h1,h2,h3,h4⟩:=r.nh p (by rw[hh];exact Zi _ hp);apply⟨λz=>?_,h2,h3,h4⟩;rcases Zz.mp z with y |y
  .exact h1 y
  .exact uu.1 (Zd.mpr ⟨p,hp,Z3.mp y⟩)
 .rcases Yb k ↥O with y |y
  .rw[Zr y] at hk;let⟨a',vs,h1,h2,h3⟩:=r.wL k d hk;exact⟨a',vs,by show(w.bK++[a])[k]?=_;rw[Zr (Zg.mp h1).1];exact h1,h2,by
    let⟨hk0,h3⟩:=h3;apply⟨by show k<↥(w.bK++[a]);rw[Zv];omega,?_⟩;rcases h3 with ⟨z1,wO,z2,z3⟩ |⟨z1,kvs,z2,z3⟩
    .exact .inl ⟨z1,wO,z2,av z3⟩
    .exact .inr ⟨z1,kvs,z2,z3.ay sg⟩⟩
  .let mV:=(Zg.mp hk).1;rw[Zv] at mV;have:k=↥O:=by simp at mV;omega
   subst this;rw[Yh (Zf _),Qe] at hk;let hd:c=d:=by injection (aaa hk)
   subst hd;exact⟨a,_,uv,n3,(Zg.mp uv).1,.inl ⟨λz=>afa (r.dl _ z) (Yl _),ys,(),av hc⟩⟩
def aE.Jh (r:aE K w O H)(hh:w.dh=(a,.dK ys)::h0)(hc:uy (G w O H) ys c) :
  aE K { w with dh:=h0,bK:=w.bK++[a],iM:=↥O::w.iM } (O++[↑c]) H/\az (G w O H) (G { w with dh:=h0,bK:=w.bK++[a],iM:=↥O::w.iM } (O++[↑c]) H)/\(w.bK++[a])[↥O]?=↑a:=by
 let⟨n1,n2,n3,n4⟩:=r.nh (a,.dK ys) (by rw[hh];exact Zk);let uu:=r.hn;rw[hh,Zm,Yc] at uu;let lH:∀x,jK { w with dh:=h0,bK:=w.bK++[a],iM:=↥O::w.iM } (O++[↑c]) x->jK w O x:=λx h=>by
  rcases h with h |⟨u,h⟩ |⟨j,d,h1,h2⟩
  .exact .inl h
  .exact .inr (.inl ⟨u,by rw[hh];exact Zi _ h⟩)
  .change (w.bK++[a])[j]?=↑x at h1
   rcases Yb j ↥O with y |y
   .rw[Zr y] at h2;rw[Zr (by rw[r.len];exact y)] at h1;exact .inr (.inr ⟨j,d,h1,h2⟩)
   .let hj:=(Zg.mp h1).1;rw[Zv,r.len] at hj;have:j=↥O:=by simp at hj;omega
    subst this;rw[Yh (by rw[r.len];exact Zf _),r.len,Qe] at h1;let ex:x=a:=by simpa using h1.symm
    exact .inr (.inl ⟨_,by rw[hh,ex];exact Zk⟩)
 let sg:az (G w O H) (G { w with dh:=h0,bK:=w.bK++[a],iM:=↥O::w.iM } (O++[↑c]) H):=λx u h=>by
  let⟨h1,h2⟩:=fq h;rw[hG (λz=>h2 (lH x z))];exact h1
 let uv:(w.bK++[a])[↥O]?=↑a:=by rw[<- r.len];simp
 let av:∀{vs:List V}{xs:List AV},bu K w (G w O H) vs xs->bu K { w with dh:=h0,bK:=w.bK++[a],iM:=↥O::w.iM } (G { w with dh:=h0,bK:=w.bK++[a],iM:=↥O::w.iM } (O++[↑c]) H) vs xs:=λh=>⟨h.1,λi v x e1 e2=>by
  have:=h.2 i v x e1 e2;cases x with
  |im d=>exact cr.ay sg this
  |own j=>let⟨p,q1,q2⟩:=this;exact⟨p,by show(w.bK++[a])[j]?=_;rw[Zr (Zg.mp q1).1];exact q1,λz=>(Zj.mp z).elim (λe=>by have:=(Zg.mp q1).1;rw[r.len] at this;omega) q2.1,q2.2⟩
  |Bo j=>let⟨p,q1,q2⟩:=this;exact⟨p,by show(w.bK++[a])[j]?=_;rw[Zr (Zg.mp q1).1];exact q1,Zi _ q2.1,q2.2⟩
  |bag j=>exact this
  |yT ns=>let⟨p,q1,q2⟩:=this;exact⟨p,q1,KG.bI.ay q2 sg⟩⟩
 apply⟨⟨by simp[r.len],?_,λx hx=>?_,λb hb z=>?_,uu.2,λp hp=>?_,r.bg,λk d hk=>?_,λj hj=>by
  rw[Zv];rcases Zj.mp hj with z |z
  .subst z;simp
  .have:=r.dl j z;omega⟩,sg,uv⟩
 .show(w.bK++[a]).Nodup;rw[Qd];exact⟨r.nd,by simp,λx hx b qy e=>by rw[Z3] at qy;rw[e,qy] at hx;exact n1 hx⟩
 .rcases Zz.mp hx with y |y
  .exact r.al x y
  .rw[Z3.mp y];exact⟨_,n3⟩
 .rcases Zz.mp z with y |y
  .exact r.nb b hb y
  .exact n2 (Z3.mp y▸hb)
 .obtain⟨h1,h2,h3,h4⟩:=r.nh p (by rw[hh];exact Zi _ hp);apply⟨λz=>?_,h2,h3,h4⟩;rcases Zz.mp z with y |y
  .exact h1 y
  .exact uu.1 (Zd.mpr ⟨p,hp,Z3.mp y⟩)
 .rcases Yb k ↥O with y |y
  .rw[Zr y] at hk;let⟨a',vs,h1,h2,h3⟩:=r.wL k d hk;exact⟨a',vs,by show(w.bK++[a])[k]?=_;rw[Zr (Zg.mp h1).1];exact h1,h2,by
    let⟨hk0,h3⟩:=h3;apply⟨by show k<↥(w.bK++[a]);rw[Zv];omega,?_⟩;rcases h3 with ⟨z1,wO,z2,z3⟩ |⟨z1,kvs,z2,z3⟩
    .exact .inl ⟨λz=>(Zj.mp z).elim (λe=>⋯) z1,wO,z2,av z3⟩
    .exact .inr ⟨Zi _ z1,kvs,z2,z3.ay sg⟩⟩
  .let mV:=(Zg.mp hk).1;rw[Zv] at mV;have:k=↥O:=by simp at mV;omega
   subst this;rw[Yh (Zf _),Qe] at hk;let hd:c=d:=by injection (aaa hk)
   subst hd;exact⟨a,_,uv,n3,(Zg.mp uv).1,.inr ⟨Zk,ys,(),hc.ay sg⟩⟩
def aE.nT (r:aE K w O H):∀a xs,H a=↑(.tup xs)->G w O H a=↑(.tup xs):=by
 intro a xs h;rw[hG]
 .exact h
 .rintro(h1 |⟨o,h1⟩ |⟨j,d,h1,h2⟩)
  .obtain⟨c,d,e⟩:=r.bg _ h1;rw[h] at e;cases e
  .obtain⟨_,_,h3,h4⟩:=r.nh _ h1;rw[h] at h3;exact h4 xs (aaa h3).symm
  .obtain⟨a',vs,e1,e2,_⟩:=r.wL j d h2;rw[h1] at e1;cases aaa e1;rw[h] at e2;cases aaa e2;rename_i hce;rcases hce.2 with ⟨_,vs,z,_⟩ |⟨_,kvs,z,_⟩<;>cases z
end
section
def PE.imp (h:PE X e t)(i:∀σ H Q,t' σ H Q->t σ H Q):PE X e t':=λae s σ H Q I q=>h ae s σ H Q I (i σ H Q q)
def PT.imp (h:PT X e t)(i:∀σ H Q,t' σ H Q->t σ H Q):PT X e t':=λae s σ H Q I q=>h ae s σ H Q I (i σ H Q q)
def PW.imp (h:PW X e t)(i:∀σ H Q,t' σ H Q->t σ H Q):PW X e t':=λwh ae s σ H Q I q=>h wh ae s σ H Q I (i σ H Q q)
def PA.imp (h:PA X es t)(i:∀σ H Q,t' σ H Q->t σ H Q):PA X es t':=λp ae s σ H Q I q=>h p ae s σ H Q I (i σ H Q q)
def PS.imp (h:PS X st t)(i:∀D σ H,t' D σ H->t D σ H):PS X st t':=λae s σ H D I q=>h ae s σ H D I (i D σ H q)
def jJ.imp (h:jJ X st t)(i:∀D σ H,t' D σ H->t D σ H):jJ X st t':=λae s σ H D I q=>h ae s σ H D I (i D σ H q)
def eW (h:cr (G w O H) v (.tuple ds)):∃a xs,v=.ref a/\H a=↑(.tup xs)/\aI (G w O H) xs ds:=by
 cases h with |tup h1 h2=>exact⟨_,_,rfl,(fq h1).1,h2⟩
def gE (h:cr (G w O H) v (.list ds)):∃a xs,v=.ref a/\H a=↑(.lst xs)/\aI (G w O H) xs ds:=by
 cases h with |lst h1 h2=>exact⟨_,_,rfl,(fq h1).1,h2⟩
def gR (h:cr g v (.int i)):v=.int i:=by cases h;rfl
def DX (h:cr g v (.bool i)):v=.bl i:=by cases h;rfl
def ML (h:cr g v .none):v=.cj:=by cases h;rfl
theorem i7:∀{ns:Γ3}{vs:List V},aI g vs (ns.map .int)->vs=ns.map V.int
 |[],_,h=>by cases h;rfl
 |n::ns,_,h=>by
  cases h with |cons h1 h2=>rw[gR h1,i7 h2];rfl
theorem MM:∀{ns:List Bool}{vs:List V},aI g vs (ns.map .bool)->vs=ns.map V.bl
 |[],_,h=>by cases h;rfl
 |n::ns,_,h=>by
  cases h with |cons h1 h2=>rw[DX h1,MM h2];rfl
theorem xo:∀(ns:Γ3),aI g (ns.map V.int) (ns.map .int)
 |[]=>.nil
 |n::ns=>.cons (.int n) (xo ns)
def ff (r:aE K w O H)(hp:H p=none)(h:aI (G w O H) xs ds) :
  aE K w O (aP H p (.tup xs))/\bR w O H w O (aP H p (.tup xs))/\cr (G w O (aP H p (.tup xs))) (.ref p) (.tuple ds):=by
 let⟨r1,e1,g1⟩:=r.new (o:=.tup xs) hp;exact⟨r1,e1,.tup g1 (aI.ay e1.ex.ay h)⟩
def kM (r:aE K w O H)(hp:H p=none)(h:aI (G w O H) xs ds) :
  aE K w O (aP H p (.lst xs))/\bR w O H w O (aP H p (.lst xs))/\cr (G w O (aP H p (.lst xs))) (.ref p) (.list ds):=by
 let⟨r1,e1,g1⟩:=r.new (o:=.lst xs) hp;exact⟨r1,e1,.lst g1 (aI.ay e1.ex.ay h)⟩
def jF (r:aE K w O H)(s:az H H')(hp:H' p=↑(.tup xs))(h:aI (G w O H) xs ds) :
  aE K w O H'/\bR w O H w O H'/\cr (G w O H') (.ref p) (.tuple ds):=by
 let⟨r1,e1,g1⟩:=r.ay s;exact⟨r1,e1,.tup (r1.nT _ _ hp) (aI.ay e1.ex.ay h)⟩
def ah (i:Nat):ME:=λsl O Q=>match sl[i]? with
 |some (some x)=>Q x O
 |_=>False
def Ro (h:PE X e (xc i)):PE X e (bQ K QX E (ah i)):=PE.imp h λσ H Q h9=>h9.o λw O sl Q0 c m q=>by
 unfold ah at m;split at m
 .rename_i x hx;let⟨v,h1,h2⟩:=c.so.2 i x hx;exact⟨v,h1,q x O v w H m (bR.refl _ _ _) c.ro h2⟩
 .exact m.elim
def mC (d:PyData):ME:=λ_ O Q=>Q (.im d) O
def Od (h:PE X e (tC v))(hv:∀g,cr g v d):PE X e (bQ K QX E (mC d)):=PE.imp h λσ H Q h9=>h9.o λw O sl Q0 c m q=>q _ O v w H m (bR.refl _ _ _) c.ro (hv _)
def ck:PE X (.Constant (.int i) j pos) (bQ K QX E (mC (.int i))):=Od bL λ_=>.int _
def mG:PE X (.Constant (.bool i) j pos) (bQ K QX E (mC (.bool i))):=Od iF λ_=>.bl _
def E6:PE X (.Constant .none j pos) (bQ K QX E (mC .none)):=Od xA λ_=>.cj
def ar:MA:=λ_ O Q=>Q [] O
def af (Me:ME)(Ms:MA):MA:=λsl O Q=>Me sl O λx O1=>Ms sl O1 λxs O2=>Q (x::xs) O2
def aR:PA X [] (ud K QX E ar):=PA.imp bU λσ H Q h9=>h9.o λw O sl Q0 c m q=>q [] O [] w H m (bR.refl _ _ _) c.ro bu.nil
def aB (he:PE X e (bQ K QX E Me))(hr:PA X es (ud K QX E Ms))(hs:starEach (e::es) X.env=(false,eval e X.env)::starEach es X.env:=by rfl):PA X (e::es) (ud K QX E (af Me Ms)) :=
 PA.imp (aZ he hr hs) λσ H Q h9=>h9.o λw O sl Q0 c m q=>⟨w,O,sl,_,c,m,λx O1 v w1 H1 h1 e1 r1 a1=>⟨w1,O1,sl,_,c.ex e1.ex r1,h1,λxs O2 vs w2 H2 h2 e2 r2 a2=>q _ O2 _ w2 H2 h2 (e1.trans e2) r2 (bu.cons (a1.ex e2.ex) a2)⟩⟩
def Tn:List AV->Option (Ξ1)
 |[]=>↑[]
 |.im d::xs=>match Tn xs with
  |some ds=>↑(d::ds)
  |none=>none
 |_::_=>none
theorem xI:∀{xs:List AV}{ds:Ξ1},Tn xs=↑ds->xs=ds.map .im
 |[],_,h=>by cases h;rfl
 |.im d::xs,ds,h=>by
  unfold Tn at h;split at h
  .rename_i es he;cases h;rw[xI he];rfl
  .cases h
 |.own _::_,_,h=>by cases h
 |.bag _::_,_,h=>by cases h
 |.yT _::_,_,h=>by cases h
 |.Bo _::_,_,h=>by cases h
def iQ (Ms:MA):ME:=λsl O Q=>Ms sl O λxs O1=>match Tn xs with
 |some ds=>↥ds<=sizeLine/\Q (.im (.tuple ds)) O1
 |none=>False
def kD (Ms:MA):ME:=λsl O Q=>Ms sl O λxs O1=>match Tn xs with
 |some ds=>↥ds<=sizeLine/\Q (.im (.list ds)) O1
 |none=>False
def UY (Ms:MA):ME:=λsl O Q=>Ms sl O λxs O1=>↥xs<=sizeLine/\Q (.own ↥O1) (O1++[↑xs])
def wE (h:PA X es (ud K QX E Ms)):PE X (.Tuple es x1 pos) (bQ K QX E (iQ Ms)):=PE.imp (iY h) λσ H Q h9=>h9.o λw O sl Q0 c m q=>⟨w,O,sl,_,c,m,λxs O1 vs w1 H1 h1 e1 r1 a1=>by
 split at h1
 .rename_i ds hd;let hx:=xI hd;subst hx;apply⟨by rw[a1.1,Zb];exact h1.1,λp hp=>?_⟩;let⟨r2,e2,t2⟩:=ff r1 hp (bu.tr a1);exact q _ O1 _ w1 _ h1.2 (e1.trans e2) r2 t2
 .exact h1.elim⟩
def Bk (h:PA X es (ud K QX E Ms)):PE X (.List es pos) (bQ K QX E (kD Ms)):=PE.imp (sE h) λσ H Q h9=>h9.o λw O sl Q0 c m q=>⟨w,O,sl,_,c,m,λxs O1 vs w1 H1 h1 e1 r1 a1=>by
 split at h1
 .rename_i ds hd;let hx:=xI hd;subst hx;apply⟨by rw[a1.1,Zb];exact h1.1,λp hp=>?_⟩;let⟨r2,e2,t2⟩:=kM r1 hp (bu.tr a1);exact q _ O1 _ w1 _ h1.2 (e1.trans e2) r2 t2
 .exact h1.elim⟩
def Rp (h:PA X es (ud K QX E Ms)):PE X (.List es pos) (bQ K QX E (UY Ms)):=PE.imp (sE h) λσ H Q h9=>h9.o λw O sl Q0 c m q=>⟨w,O,sl,_,c,m,λxs O1 vs w1 H1 h1 e1 r1 a1=>by
 apply⟨by rw[a1.1];exact h1.1,λp hp=>?_⟩;let⟨r2,e2,t2⟩:=r1.own hp a1;exact q _ _ _ _ _ h1.2 (e1.trans e2) r2 ⟨p,t2,λz=>afa (r1.dl _ z) (Yl _),()⟩⟩
abbrev wN:=aX->AV->AV->(AV->aX->Prop)->Prop
abbrev Dk:=aX->List AV->(AV->aX->Prop)->Prop
def ux (K:Θ1)(r:R2)(f:wN):Prop:=∀(w:Wd) (O:aX) (H:Hp) (v u:V) (x y:AV) (P:AV->aX->Prop) (Q:VK),aE K w O H->iD K w (G w O H) v x->iD K w (G w O H) u y->f O x y P ->
 (∀z q O' w' H',P q O'->bR w O H w' O' H'->aE K w' O' H'->iD K w' (G w' O' H') z q->Q z H')->r v u H Q
def Dl (K:Θ1)(r:List V->Hp->VK->Prop)(f:Dk):Prop:=∀(w:Wd) (O:aX) (H:Hp) (vs:List V) (xs:List AV) (P:AV->aX->Prop) (Q:VK),aE K w O H->bu K w (G w O H) vs xs->f O xs P ->
 (∀z q O' w' H',P q O'->bR w O H w' O' H'->aE K w' O' H'->iD K w' (G w' O' H') z q->Q z H')->r vs H Q
def bA (f:wN)(Ma Mb:ME):ME:=λsl O Q=>Ma sl O λx O1=>Mb sl O1 λy O2=>f O2 x y Q
def kw (f:Dk)(Ms:MA):ME:=λsl O Q=>Ms sl O λxs O1=>f O1 xs Q
def zD (lk:ux K r f):∀σ H Q,bQ K QX E (bA f Ma Mb) σ H Q->Nc r (bQ K QX E Ma) (bQ K QX E Mb) σ H Q :=
 λσ H Q h9=>h9.o λw O sl Q0 c m q=>⟨w,O,sl,_,c,m,λx O1 v w1 H1 h1 e1 r1 a1=>⟨w1,O1,sl,_,c.ex e1.ex r1,h1,λy O2 u w2 H2 h2 e2 r2 a2 =>
  lk w2 O2 H2 v u x y _ Q r2 (a1.ex e2.ex) a2 h2 λz z' O3 w3 H3 h3 e3 r3 a3=>q _ O3 z w3 H3 h3 ((e1.trans e2).trans e3) r3 a3⟩⟩
def zw (ho:eT X (binaryOp op) r)(lk:ux K r f)(ha:PE X a (bQ K QX E Ma))(hb:PE X b (bQ K QX E Mb)):PE X (.BinOp a op b pos) (bQ K QX E (bA f Ma Mb)):=PE.imp (dQ ho ha hb) (zD lk)
def WL (ho:Br X r)(lk:ux K r f)(ha:PE X a (bQ K QX E Ma))(hb:PE X b (bQ K QX E Mb))(hs:tU b:=by exact λ_ _=>rfl):PE X (.Subscript a b pos) (bQ K QX E (bA f Ma Mb)):=PE.imp (fV ho ha hb hs) (zD lk)
def oE (ho:eT X (compareOp op) r)(lk:ux K r f)(ha:PE X a (bQ K QX E Ma))(hb:PE X b (bQ K QX E Mb))(hm:behindInMarks op b=false):PE X (.Compare a [op] [b] pos) (bQ K QX E (bA f Ma Mb)):=PE.imp (fc ho ha hb hm) (zD lk)
def yZ {id:String}(hc:cg X (.builtin id) r)(lk:Dl K r f)(hg:Gl X x)(hm:X.mg x=none)(hv:bootBuiltins x=↑(.builtin id))(ha:PA X (e::es) (ud K QX E Ms))(hn:x ≠ "__name__":=by decide)(wW:(x == ("__debug__" : Str))=false:=by decide)
  (he:starEach (e::es) X.env=(false,eval e X.env)::starEach es X.env:=by rfl) (mU:(backTo pos (starEach es X.env)).any (·.1)=false:=by rfl):PE X (.Call (.Name x p) (e::es) [] pos) (bQ K QX E (kw f Ms)) :=
 PE.imp (mw hc hg hm hv ha hn wW he mU) λσ H Q h9=>h9.o λw O sl Q0 c m q=>⟨w,O,sl,_,c,m,λxs O1 vs w1 H1 h1 e1 r1 a1=>lk w1 O1 H1 vs xs _ Q r1 a1 h1 λz z' O3 w3 H3 h3 e3 r3 a3=>q _ O3 z w3 H3 h3 (e1.trans e3) r3 a3⟩
def zb (hc:cg X (.type T) r)(lk:Dl K r f)(hg:Gl X x)(hm:X.mg x=none)(hv:bootBuiltins x=↑(.type T))(ha:PA X (e::es) (ud K QX E Ms))(hn:x ≠ "__name__":=by decide)(wW:(x == ("__debug__" : Str))=false:=by decide)
  (he:starEach (e::es) X.env=(false,eval e X.env)::starEach es X.env:=by rfl) (mU:(backTo pos (starEach es X.env)).any (·.1)=false:=by rfl):PE X (.Call (.Name x p) (e::es) [] pos) (bQ K QX E (kw f Ms)) :=
 PE.imp (Sg hc hg hm hv ha hn wW he mU) λσ H Q h9=>h9.o λw O sl Q0 c m q=>⟨w,O,sl,_,c,m,λxs O1 vs w1 H1 h1 e1 r1 a1=>lk w1 O1 H1 vs xs _ Q r1 a1 h1 λz z' O3 w3 H3 h3 e3 r3 a3=>q _ O3 z w3 H3 h3 (e1.trans e3) r3 a3⟩
def eM (M:ME):MT:=λsl O Q=>M sl O λx O1=>match x with
 |.im (.bool c)=>Q c O1
 |_=>False
def vI (h:∀σ H Q,bQ K QX E M σ H Q->t σ H Q):∀σ H Q,iN K QX E (eM M) σ H Q->Ea t σ H Q:=λσ H Q h9=>h9.o λw O sl Q0 c m q=>h σ H _ ⟨w,O,sl,_,c,m,λx O1 v w1 H1 h1 e1 r1 a1=>by
 split at h1
 .exact⟨_,DX a1,q _ O1 w1 H1 h1 e1 r1⟩
 .exact h1.elim⟩
def yV (ho:eT X (compareOp op) r)(lk:ux K r f)(ha:PE X a (bQ K QX E Ma))(hb:PE X b (bQ K QX E Mb))(hm:behindInMarks op b=false):PT X (.Compare a [op] [b] pos) (iN K QX E (eM (bA f Ma Mb))):=PT.imp (nR ho ha hb hm) (vI (zD lk))
def ic (h:PE X e (bQ K QX E M))(he:∀whole,isTrue e X.env whole=(do let v <- whole;standAt e.pos;holding [v] (truthy v)):=by intro _;rfl):PT X e (iN K QX E (eM M)):=PT.imp (uf h he) (vI λ_ _ _ z=>z)
def ab8:PyData->Bool
 |.none=>false
 |.bool b=>b
 |.int i=>i != 0
 |.str s=>(↥s:Int) != 0
 |.list xs=>!xs.isEmpty
 |.tuple xs=>!xs.isEmpty
 |.dict xs=>!xs.isEmpty
def VS:PyData->Bool
 |.str _=>false
 |_=>true
def DR (M:ME):MT:=λsl O Q=>M sl O λx O1=>match x with
 |.im d=>VS d/\Q (ab8 d) O1
 |_=>False
def mO {α β : Type}{xs:List α}{ys:List β}(h:↥xs=↥ys):(!xs.isEmpty)=!ys.isEmpty:=by
 grind
def sL (h:PE X e (bQ K QX E M))(he:∀whole,isTrue e X.env whole=(do let v <- whole;standAt e.pos;holding [v] (truthy v)):=by intro _;rfl):PT X e (iN K QX E (DR M)):=PT.imp (vk h he) λσ H Q h9=>h9.o λw O sl Q0 c m q=>⟨w,O,sl,_,c,m,λx O1 v w1 H1 h1 e1 r1 a1=>by
 cases x with
 |im d =>
  cases d with
  |none=>exact⟨false,by rw[ML a1];rfl,q _ O1 w1 H1 h1.2 e1 r1⟩
  |bool b=>exact⟨b,by rw[DX a1];rfl,q _ O1 w1 H1 h1.2 e1 r1⟩
  |int i=>exact⟨i != 0,by rw[gR a1];rfl,q _ O1 w1 H1 h1.2 e1 r1⟩
  |str i=>cases h1.1
  |list xs =>
   let⟨a,us,rfl,h3,h4⟩:=gE a1;exact⟨!xs.isEmpty,.inl ⟨us,bI.of h3,mO h4.len.symm⟩,q _ O1 w1 H1 h1.2 e1 r1⟩
  |tuple xs =>
   let⟨a,us,rfl,h3,h4⟩:=eW a1;exact⟨!xs.isEmpty,.inr (.inl ⟨us,aN.of h3,mO h4.len.symm⟩),q _ O1 w1 H1 h1.2 e1 r1⟩
  |dict xs=>cases a1
 |own k=>exact h1.elim
 |Bo k=>exact h1.elim
 |bag j=>exact h1.elim
 |yT ns=>exact h1.elim⟩
def Oe (M:MT):MT:=λsl O Q=>M sl O λc O1=>Q (!c) O1
def EZ (h:PT X a (iN K QX E M)):PT X (.UnaryOp .Not a pos) (iN K QX E (Oe M)):=PT.imp (rL h) λσ H Q h9=>h9.o λw O sl Q0 c m q=>⟨w,O,sl,_,c,m,λx O1 w1 H1 h1 e1 r1=>q _ O1 w1 H1 h1 e1 r1⟩
def UZ (M N:MT):MT:=λsl O Q=>M sl O λc O1=>(c->Q true O1)/\(c=false->N sl O1 Q)
def Rk (h:PT X a (iN K QX E M)):PW X (.BoolOp .Or [a] pos) (iN K QX E M):=pw_or1 h
def WJ {jM:Ξ2}(ha:PT X a (iN K QX E M))(hb:PW X (.BoolOp .Or (b::jM) pos) (iN K QX E N)):PW X (.BoolOp .Or (a::b::jM) pos) (iN K QX E (UZ M N)):=PW.imp (pw_or ha hb) λσ H Q h9=>h9.o λw O sl Q0 c m q=>⟨w,O,sl,_,c,m,λx O1 w1 H1 h1 e1 r1=>by
 cases x with
 |true=>exact bE (q _ O1 w1 H1 (h1.1 rfl) e1 r1)
 |false=>exact bN ⟨w1,O1,sl,_,c.ex e1.ex r1,h1.2 rfl,λy O2 w2 H2 h2 e2 r2=>q _ O2 w2 H2 h2 (e1.trans e2) r2⟩⟩
def My (M N:ME):ME:=λsl O Q=>M sl O λx O1=>match x with
 |.im (.bool c)=>(c->N sl O1 Q)/\(c=false->Q (.im (.bool false)) O1)
 |_=>False
def Rq {op}{a:Expr}{M:ME}{pos:Pos}(h:PE X a (bQ K QX E M)):PE X (.BoolOp op [a] pos) (bQ K QX E M):=lM h
def Rr {a b:Expr}{jM:Ξ2}{M N:ME}{pos:Pos}(ha:PE X a (bQ K QX E M))(hb:PE X (.BoolOp .And (b::jM) pos) (bQ K QX E N)):PE X (.BoolOp .And (a::b::jM) pos) (bQ K QX E (My M N)):=PE.imp (lN ha hb) λσ H Q h9=>h9.o λw O sl Q0 c m q=>⟨w,O,sl,_,c,m,λx O1 v w1 H1 h1 e1 r1 a1=>by
 split at h1
 .rename_i k;apply⟨k,DX a1,?_⟩;cases k with
  |true=>exact bE ⟨w1,O1,sl,_,c.ex e1.ex r1,h1.1 rfl,λy O2 u w2 H2 h2 e2 r2 a2=>q _ O2 u w2 H2 h2 (e1.trans e2) r2 a2⟩
  |false=>exact bN (q _ O1 _ w1 H1 (h1.2 rfl) e1 r1 (.bl false))
 .exact h1.elim⟩
def Tg (C:MT)(M N:ME):ME:=λsl O Q=>C sl O λc O1=>(c->M sl O1 Q)/\(c=false->N sl O1 Q)
def zy (hc:PT X t (iN K QX E C))(ha:PE X a (bQ K QX E M))(hb:PE X b (bQ K QX E N)):PE X (.IfExp t a b pos) (bQ K QX E (Tg C M N)):=PE.imp (vp hc ha hb) λσ H Q h9=>h9.o λw O sl Q0 c m q=>⟨w,O,sl,_,c,m,λx O1 w1 H1 h1 e1 r1=>by
 cases x with
 |true=>exact bE ⟨w1,O1,sl,_,c.ex e1.ex r1,h1.1 rfl,λy O2 u w2 H2 h2 e2 r2 a2=>q _ O2 u w2 H2 h2 (e1.trans e2) r2 a2⟩
 |false=>exact bN ⟨w1,O1,sl,_,c.ex e1.ex r1,h1.2 rfl,λy O2 u w2 H2 h2 e2 r2 a2=>q _ O2 u w2 H2 h2 (e1.trans e2) r2 a2⟩⟩
end
section
def qe:az (G w O H) H:=λa o h=>(fq h).1
def Iw (C:Int->Int->Prop)(g:Int->Int->PyData):wN:=λO x y P=>match x,y with
 |.im (.int i),.im (.int j)=>C i j/\P (.im (g i j)) O
 |_,_=>False
def zF (g:Int->Int->PyData):wN:=λO x y P=>match x,y with
 |.im (.int i),.im (.int j)=>P (.im (g i j)) O
 |_,_=>False
def AL (hg:∀i j h,cr h (g i j) (f i j)):ux K (rI C g) (Iw C f):=λw O H v u x y P Q r a b hf q=>by
 unfold Iw at hf;split at hf
 .exact⟨_,_,gR a,gR b,hf.1,q _ _ O w H hf.2 (bR.refl _ _ _) r (hg _ _ _)⟩
 .exact hf.elim
def vF (hg:∀i j h,cr h (g i j) (f i j)):ux K (Ds g) (zF f):=λw O H v u x y P Q r a b hf q=>by
 unfold zF at hf;split at hf
 .exact⟨_,_,gR a,gR b,q _ _ O w H hf (bR.refl _ _ _) r (hg _ _ _)⟩
 .exact hf.elim
def hC:wN:=λO x y P=>match x,y with
 |.im (.int i),.im (.int j)=>P (.im (.int (i+j))) O
 |.im (.tuple xs),.im (.tuple ys)=>↥xs+↥ys<=sizeLine/\P (.im (.tuple (xs++ys))) O
 |.im (.list xs),.im (.list ys)=>↥xs+↥ys<=sizeLine/\P (.im (.list (xs++ys))) O
 |_,_=>False
def Rz:ux K (λx y H Q=>Ds (λi j=>.int (i+j)) x y H Q\/(L6 x y H Q\/UH x y H Q)) hC:=λw O H v u x y P Q r a b hf q=>by
 unfold hC at hf;split at hf
 .exact .inl ⟨_,_,gR a,gR b,q _ _ O w H hf (bR.refl _ _ _) r (.int _)⟩
 .obtain⟨p1,us,rfl,h1,t1⟩:=eW a;let⟨p2,vs,rfl,h2,t2⟩:=eW b;apply .inr (.inl ⟨p1,p2,us,vs,(),(),h1,h2,by rw[t1.len,t2.len];exact hf.1,λp H' s hp=>?_⟩);let⟨r1,e1,t⟩:=jF r s hp (t1.app t2);exact q _ _ O w H' hf.2 e1 r1 t
 .obtain⟨p1,us,rfl,h1,t1⟩:=gE a;let⟨p2,vs,rfl,h2,t2⟩:=gE b;apply .inr (.inr ⟨p1,p2,us,vs,(),(),h1,h2,by rw[t1.len,t2.len];exact hf.1,λp hp=>?_⟩);let⟨r1,e1,t⟩:=kM r hp (t1.app t2);exact q _ _ O w _ hf.2 e1 r1 t
 .exact hf.elim
def wG (ha:PE X a (bQ K QX E Ma))(hb:PE X b (bQ K QX E Mb)):PE X (.BinOp a .Add b pos) (bQ K QX E (bA hC Ma Mb)):=zw (eF.or (JZ.or QI)) Rz ha hb
abbrev Uo:wN:=zF λi j=>.int (i-j)
def Rm (ha:PE X a (bQ K QX E Ma))(hb:PE X b (bQ K QX E Mb)):PE X (.BinOp a .Sub b pos) (bQ K QX E (bA Uo Ma Mb)):=zw xB (vF λ_ _ _=>.int _) ha hb
abbrev Il:wN:=Iw (λi j=>Bd 66000000 i/\Bd 66000000 j) λi j=>.int (i*j)
def xD (ha:PE X a (bQ K QX E Ma))(hb:PE X b (bQ K QX E Mb)):PE X (.BinOp a .Mult b pos) (bQ K QX E (bA Il Ma Mb)):=zw yW (AL λ_ _ _=>.int _) ha hb
abbrev OG:wN:=Iw (λ_ j=>0<j/\Bd 66000000 j) λi j=>.int (i / j)
def _root_.L2.NS.blk {X:Cx}{sc:Scope}{C:Addr}{N:Δ2}{fp:List Addr}{s:Shared}{H:Hp}(h:NS X):NS (cX X sc C N fp s H):=⟨h.1,h.2⟩
def E2 {k:Nat}(hr:c6 k X.A)(hp:NS X)(ha:PE X a (bQ K QX E Ma))(hb:PE X b (bQ K QX E Mb)):PE X (.BinOp a .FloorDiv b pos) (bQ K QX E (bA OG Ma Mb)):=zw (Gm hr hp) (AL λ_ _ _=>.int _) ha hb
abbrev NN:wN:=zF λi j=>.bool (decide (j<i))
def qG:ux K (Ds λi j=>.bl (decide (j<i))) NN:=vF λ_ _ _=>.bl _
def DG:PyData->PyData->Bool
 |.int i,.int j=>decide (i=j)
 |d,e=>PyData.eqv d e
def sS (d e:PyData):DG d e=PyData.eqv d e:=by
 cases d<;>cases e<;>first |rfl |(show decide _=_;rw[PyData.eqv];rfl)
def Dj (neg:Bool):wN:=λO x y P=>match x,y with
 |.im d,.im e=>min d.depth e.depth<=60/\P (.im (.bool (if neg then !DG d e else DG d e))) O
 |_,_=>False
def En:ux K (Ij K0) (Dj false):=λw O H v u x y P Q r a b hf q=>by
 unfold Dj at hf;split at hf
 .apply⟨_,_,(cr.ay qe a).dt,(cr.ay qe b).dt,hf.1,?_⟩;rw[<- sS];exact q _ _ O w H hf.2 (bR.refl _ _ _) r (.bl _)
 .exact hf.elim
def uT:ux K (Ih K0) (Dj true):=λw O H v u x y P Q r a b hf q=>by
 unfold Dj at hf;split at hf
 .apply⟨_,_,(cr.ay qe a).dt,(cr.ay qe b).dt,hf.1,?_⟩;rw[<- sS];exact q _ _ O w H hf.2 (bR.refl _ _ _) r (.bl _)
 .exact hf.elim
def Ek (hu:X.A.units+64<cLine):eT X (compareOp .Eq) (Ij K0):=EU hu
def uR (hu:X.A.units+64<cLine):eT X (compareOp .NotEq) (Ih K0):=QK hu
def Sl (neg:Bool):wN:=λO x y P=>match x,y with
 |.im (.int i),.im (.list ds)=>∃ns:Γ3,ds=ns.map .int/\P (.im (.bool (if neg then !ns.contains i else ns.contains i))) O
 |.im (.int i),.im (.tuple ds)=>∃ns:Γ3,ds=ns.map .int/\P (.im (.bool (if neg then !ns.contains i else ns.contains i))) O
 |_,_=>False
def rA (ns:Γ3):(ns.map V.int).all iT:=by
 rw[Y2];exact Yd.mpr λ_ _=>rfl
def zC (neg:Bool):ux K (S5 K0 neg) (Sl neg):=λw O H v u x y P Q r a b hf q=>by
 unfold Sl at hf;split at hf
 .obtain⟨ns,rfl,h⟩:=hf;let⟨p1,us,rfl,h1,t1⟩:=gE b;rw[i7 t1] at h1;apply⟨p1,_,(),.inl (bI.of h1),by rw[gR a];rfl,rA ns,?_⟩;rw[gR a,AX];exact q _ _ O w H h (bR.refl _ _ _) r (.bl _)
 .obtain⟨ns,rfl,h⟩:=hf;let⟨p1,us,rfl,h1,t1⟩:=eW b;rw[i7 t1] at h1;apply⟨p1,_,(),.inr (aN.of h1),by rw[gR a];rfl,rA ns,?_⟩;rw[gR a,AX];exact q _ _ O w H h (bR.refl _ _ _) r (.bl _)
 .exact hf.elim
def tK:PyData->Bool
 |.none=>true
 |_=>false
def tJ (neg:Bool):wN:=λO x y P=>match x,y with
 |.im d,.im .none=>P (.im (.bool (if neg then !tK d else tK d))) O
 |_,_=>False
def KN (h:cr g v d):decide (v=.cj)=tK d:=by
 cases h<;>rfl
def Ky:ux K (λx y H Q=>y=.cj/\Q (.bl (!decide (x=.cj))) H) (tJ true):=λw O H v u x y P Q r a b hf q=>by
 unfold tJ at hf;split at hf
 .apply⟨ML b,?_⟩;rw[KN a];exact q _ _ O w H hf (bR.refl _ _ _) r (.bl _)
 .exact hf.elim
def cG:wN:=λO x y P=>match x,y with
 |.im (.list ds),.im (.int i)=>∃d,gh ds i=↑d/\P (.im d) O
 |.im (.tuple ds),.im (.int i)=>∃d,gh ds i=↑d/\P (.im d) O
 |.own k,.im (.int i)=>∃c z,O[k]?=↑↑c/\gh c i=↑z/\P z O
 |_,_=>False
def Ft (t:aI g xs ds)(h:gh ds i=↑d):∃v,gh xs i=↑v/\cr g v d:=by
 unfold gh at h ⊢;rw[t.len];cases hj:ur ↥ds i with
 |none=>rw[hj] at h;cases h
 |some j =>
  rw[hj] at h;exact t.get h
def Fu (t:bu K w g xs ds)(h:gh ds i=↑d):∃v,gh xs i=↑v/\iD K w g v d:=by
 unfold gh at h ⊢;rw[t.1];cases hj:ur ↥ds i with
 |none=>rw[hj] at h;cases h
 |some j =>
  rw[hj] at h;exact t.at h
def WP:ux K (λx y H Q=>Ii K0 x y H Q\/Oa K0 x y H Q) cG:=λw O H v u x y P Q r a b hf q=>by
 unfold cG at hf;split at hf
 .obtain⟨d,hd,hf⟩:=hf;let⟨p1,us,rfl,h1,t1⟩:=gE a;let⟨z,hz,tz⟩:=Ft t1 hd;exact .inl ⟨p1,us,_,z,(),gR b,bI.of h1,hz,q _ _ O w H hf (bR.refl _ _ _) r tz⟩
 .obtain⟨d,hd,hf⟩:=hf;let⟨p1,us,rfl,h1,t1⟩:=eW a;let⟨z,hz,tz⟩:=Ft t1 hd;exact .inr ⟨p1,us,_,z,(),gR b,aN.of h1,hz,q _ _ O w H hf (bR.refl _ _ _) r tz⟩
 .obtain⟨c,d,hc,hd,hf⟩:=hf;let⟨p2,e1,qv,rfl⟩:=a;let⟨p1,us,h0,h1,t1⟩:=r.qh qv hc;rw[h0] at e1;cases aaa e1;let⟨z,hz,tz⟩:=Fu t1 hd;exact .inl ⟨_,us,_,z,(),gR b,bI.of h1,hz,q _ _ O w H hf (bR.refl _ _ _) r tz⟩
 .exact hf.elim
def cM (ha:PE X a (bQ K QX E Ma))(hb:PE X b (bQ K QX E Mb))(hs:tU b:=by exact λ_ _=>rfl):PE X (.Subscript a b pos) (bQ K QX E (bA cG Ma Mb)):=WL (uG.or cZ) WP ha hb hs
abbrev MO:=g9->aX->(Option Int->aX->Prop)->Prop
def Lj (K:Θ1)(QX:Addr->aX->Prop)(E:XK)(M:MO):TO:=λσ H Q=>∃w O sl Q0,gB K QX E w O H σ sl/\M sl O Q0/\∀c O' w' H',Q0 c O'->bR w O H w' O' H'->aE K w' O' H'->Q c H'
def Lj.o {P:Prop}(h:Lj K QX E M σ H Q)(k:∀w O sl Q0,gB K QX E w O H σ sl->M sl O Q0->(∀c O' w' H',Q0 c O'->bR w O H w' O' H'->aE K w' O' H'->Q c H')->P):P:=by
 let⟨x0,x1,x2,x3,x4,x5,x6⟩:=h;exact k x0 x1 x2 x3 x4 x5 x6
def By:MO:=λ_ O Q=>Q none O
def Bx (M:ME):MO:=λsl O Q=>M sl O λx O1=>match x with
 |.im (.int i)=>Q ↑i O1
 |_=>False
def PO.imp (h:PO X e t)(i:∀σ H Q,t' σ H Q->t σ H Q):PO X e t':=λae s σ H Q I q=>h ae s σ H Q I (i σ H Q q)
def kO:PO X none (Lj K QX E By):=PO.imp JT λσ H Q h9=>h9.o λw O sl Q0 c m q=>q none O w H m (bR.refl _ _ _) c.ro
def kN (h:PE X e (bQ K QX E M)):PO X ↑e (Lj K QX E (Bx M)):=PO.imp (JS h) λσ H Q h9=>h9.o λw O sl Q0 c m q=>⟨w,O,sl,_,c,m,λx O1 v w1 H1 h1 e1 r1 a1=>by
 split at h1
 .exact⟨_,gR a1,q _ O1 w1 H1 h1 e1 r1⟩
 .exact h1.elim⟩
def cutD (xs:Ξ1)(lo hi:Option Int):Ξ1:=(xs.drop (HT.cR ↥xs 0 lo)).take (HT.cR ↥xs ↥xs hi-HT.cR ↥xs 0 lo)
def slF (O:aX)(x:AV)(lo hi:Option Int)(P:AV->aX->Prop):Prop:=match x with
 |.im (.tuple ds)=>P (.im (.tuple (cutD ds lo hi))) O
 |.im (.list ds)=>P (.im (.list (cutD ds lo hi))) O
 |_=>False
def δ (M:ME)(L U:MO):ME:=λsl O Q=>M sl O λx O1=>L sl O1 λl O2=>U sl O2 λu O3=>slF O3 x l u Q
def xN (t:aI g xs ds):aI g (n8 xs lo hi) (cutD ds lo hi):=by
 unfold n8 cutD;rw[t.len];exact(t.drop _).take _
def vD {QX:Addr->aX->Prop}{E:XK}{M:ME}{L U:MO}{e:Expr}{lo hi:Option Expr}{p2 pos:Pos}(he:PE X e (bQ K QX E M))(hl:PO X lo (Lj K QX E L))(hu:PO X hi (Lj K QX E U)):PE X (.Subscript e (.Slice lo hi none p2) pos) (bQ K QX E (δ M L U)) :=
 PE.imp (vo (Jp.or Ux) he hl hu) λσ H Q h9=>h9.o λw O sl Q0 c m q=>⟨w,O,sl,_,c,m,λx O1 v w1 H1 h1 e1 r1 a1=>⟨w1,O1,sl,_,c.ex e1.ex r1,h1,λl O2 w2 H2 h2 e2 r2=>⟨w2,O2,sl,_,(c.ex e1.ex r1).ex e2.ex r2,h2,λu O3 w3 H3 h3 e3 r3=>by
  let a3:=(a1.ex e2.ex).ex e3.ex;let e13:=(e1.trans e2).trans e3;unfold slF at h3;split at h3
  .obtain⟨p1,us,rfl,g1,t1⟩:=eW a3;apply .inl ⟨p1,us,(),g1,λp H' s hp=>?_⟩;let⟨r4,e4,t4⟩:=jF r3 s hp (xN t1);exact q _ O3 _ w3 H' h3 (e13.trans e4) r4 t4
  .obtain⟨p1,us,rfl,g1,t1⟩:=gE a3;apply .inr ⟨p1,us,(),bI.of g1,λp hp=>?_⟩;let⟨r4,e4,t4⟩:=kM r3 hp (xN t1);exact q _ O3 _ w3 _ h3 (e13.trans e4) r4 t4
  .exact h3.elim⟩⟩⟩
def uF:Dk:=λO xs P=>match xs with
 |[.im (.list ds)]=>P (.im (.int ↥ds)) O
 |[.im (.tuple ds)]=>P (.im (.int ↥ds)) O
 |[.own k]=>∃c,O[k]?=↑↑c/\P (.im (.int ↥c)) O
 |_=>False
def lP:Dl K L5 uF:=λw O H vs xs P Q r a hf q=>by
 unfold uF at hf;split at hf
 .obtain⟨v,us,rfl,h1,h2⟩:=a.aW;rw[h2.cC];let⟨p1,m8,rfl,g1,t1⟩:=gE h1;exact⟨p1,m8,(),.inl (bI.of g1),by rw[t1.len];exact q _ _ O w H hf (bR.refl _ _ _) r (.int _)⟩
 .obtain⟨v,us,rfl,h1,h2⟩:=a.aW;rw[h2.cC];let⟨p1,m8,rfl,g1,t1⟩:=eW h1;exact⟨p1,m8,(),.inr (aN.of g1),by rw[t1.len];exact q _ _ O w H hf (bR.refl _ _ _) r (.int _)⟩
 .obtain⟨c,hc,hf⟩:=hf;let⟨v,us,rfl,h1,h2⟩:=a.aW;rw[h2.cC];let⟨p2,e1,qv,rfl⟩:=h1;let⟨p1,m8,h0,g1,t1⟩:=r.qh qv hc;rw[h0] at e1;cases aaa e1;exact⟨_,m8,(),.inl (bI.of g1),by rw[t1.1];exact q _ _ O w H hf (bR.refl _ _ _) r (.int _)⟩
 .exact hf.elim
def Eo:Dk:=λO xs P=>match xs with
 |[.yT ns]=>P (.im (.int ↥ns)) O
 |_=>False
def Wp (K:Θ1):List V->Hp->VK->Prop:=λxs H Q=>∃p ys,xs=[.ref p]/\(bI K H p ys\/aN K H p ys)/\Q (.int ↥ys) H
def KD:Dl K (Wp K) Eo:=λw O H vs xs P Q r a hf q=>by
 unfold Eo at hf;split at hf
 .obtain⟨v,us,rfl,h1,h2⟩:=a.aW;rw[h2.cC];let⟨p1,rfl,g1⟩:=h1;exact⟨p1,_,(),.inl (KG.bI.ay g1 qe),by rw[Zb];exact q _ _ O w H hf (bR.refl _ _ _) r (.int _)⟩
 .exact hf.elim
def qH (g:Int->Int->Int):Dk:=λO xs P=>match xs with
 |[.im (.int i),.im (.int j)]=>P (.im (.int (g i j))) O
 |_=>False
def KA:Dl K (λxs H Q=>∃i j,xs=[.int i,.int j]/\Q (.int (if j>i then j else i)) H) (qH λi j=>if j>i then j else i):=λw O H vs xs P Q r a hf q=>by
 unfold qH at hf;split at hf
 .obtain⟨v,us,rfl,h1,h2⟩:=a.aW;let⟨v2,M9,rfl,h3,h4⟩:=h2.aW;rw[h4.cC,gR h1,gR h3];exact⟨_,_,(),q _ _ O w H hf (bR.refl _ _ _) r (.int _)⟩
 .exact hf.elim
def Kz:Dl K (λxs H Q=>∃i j,xs=[.int i,.int j]/\Q (.int (if j<i then j else i)) H) (qH λi j=>if j<i then j else i):=λw O H vs xs P Q r a hf q=>by
 unfold qH at hf;split at hf
 .obtain⟨v,us,rfl,h1,h2⟩:=a.aW;let⟨v2,M9,rfl,h3,h4⟩:=h2.aW;rw[h4.cC,gR h1,gR h3];exact⟨_,_,(),q _ _ O w H hf (bR.refl _ _ _) r (.int _)⟩
 .exact hf.elim
def p7:AV->Option (Ξ1)
 |.im (.list ds)=>↑ds
 |.im (.tuple ds)=>↑ds
 |_=>none
def jt (h:p7 x=↑ds)(a:iD K w (G w O H) v x):∃p us,v=.ref p/\(bI K0 H p us\/aN K0 H p us)/\aI (G w O H) us ds:=by
 unfold p7 at h;split at h
 .cases h
  let⟨p,us,rfl,g1,t1⟩:=gE a;exact⟨p,us,(),.inl (bI.of g1),t1⟩
 .cases h
  let⟨p,us,rfl,g1,t1⟩:=eW a;exact⟨p,us,(),.inr (aN.of g1),t1⟩
 .cases h
def uB (f:Ξ1->(PyData->Prop)->Prop):Dk:=λO xs P=>match xs with
 |[x]=>match p7 x with
  |some ds=>f ds λd=>P (.im d) O
  |none=>False
 |_=>False
def N0:Dk:=uB λds P=>∃ns:Γ3,ds=ns.map .int/\P (.int ns.sum)
def Ru:Dl K LZ N0:=λw O H vs xs P Q r a hf q=>by
 unfold N0 uB at hf;split at hf
 .split at hf
  .rename_i ds hd;let⟨v,us,rfl,h1,h2⟩:=a.aW;rw[h2.cC];let⟨p,m8,rfl,hs,t1⟩:=jt hd h1;let⟨ns,rfl,h⟩:=hf;rw[i7 t1] at hs;exact⟨p,ns,(),hs,q _ _ O w H h (bR.refl _ _ _) r (.int _)⟩
  .exact hf.elim
 .exact hf.elim
def D3:Dk:=uB λds P=>∃ns:List Bool,ds=ns.map .bool/\P (.bool (ns.any id))
def RW (ns:List Bool):(ns.map V.bl).any tv=ns.any id:=by induction ns with |nil=>rfl |cons n ns ih=>simp only[Zm,Xx,ih];rfl
def Ga (ns:List Bool):(ns.map V.bl).all fz:=by induction ns with |nil=>rfl |cons n ns ih=>simp only[Zm,X2,ih];rfl
def xG:Dl K L7 D3:=λw O H vs xs P Q r a hf q=>by
 unfold D3 uB at hf;split at hf
 .split at hf
  .rename_i ds hd;let⟨v,us,rfl,h1,h2⟩:=a.aW;rw[h2.cC];let⟨p,m8,rfl,hs,t1⟩:=jt hd h1;let⟨ns,rfl,h⟩:=hf;rw[MM t1] at hs;apply⟨p,_,(),hs,Ga ns,?_⟩;rw[RW];exact q _ _ O w H h (bR.refl _ _ _) r (.bl _)
  .exact hf.elim
 .exact hf.elim
def kC:Dk:=λO xs P=>match xs with
 |[.own k]=>∃ds:Ξ1,O[k]?=↑↑(ds.map .im)/\P (.im (.tuple ds)) O
 |[x]=>match p7 x with
  |some ds=>P (.im (.tuple ds)) O
  |none=>False
 |_=>False
def eS:Dl K LY kC:=λw O H vs xs P Q r a hf q=>by
 unfold kC at hf;split at hf
 .obtain⟨ds,hc,hf⟩:=hf;let⟨v,us,rfl,h1,h2⟩:=a.aW;rw[h2.cC];let⟨p2,e1,qv,rfl⟩:=h1;let⟨p1,m8,h0,g1,t1⟩:=r.qh qv hc;rw[h0] at e1;cases aaa e1;apply⟨_,m8,(),.inl ⟨bI.of g1,λl hl=>?_⟩⟩;let⟨r1,e1,t2⟩:=ff r hl (bu.tr t1);exact q _ _ O w _ hf e1 r1 t2
 .rename_i x _;split at hf
  .rename_i ds hd;let⟨v,us,rfl,h1,h2⟩:=a.aW;rw[h2.cC];unfold p7 at hd;split at hd
   .cases hd
    let⟨p,m8,rfl,g1,t1⟩:=gE h1;apply⟨p,m8,(),.inl ⟨bI.of g1,λl hl=>?_⟩⟩;let⟨r1,e1,t2⟩:=ff r hl t1;exact q _ _ O w _ hf e1 r1 t2
   .cases hd
    let⟨p,m8,rfl,g1,t1⟩:=eW h1;exact⟨p,m8,(),.inr ⟨aN.of g1,q _ _ O w _ hf (bR.refl _ _ _) r h1⟩⟩
   .cases hd
  .exact hf.elim
 .exact hf.elim
def Oj:Dk:=uB λds P=>P (.list ds)
def Rx:Dl K Eh Oj:=λw O H vs xs P Q r a hf q=>by
 unfold Oj uB at hf;split at hf
 .split at hf
  .rename_i ds hd;let⟨v,us,rfl,h1,h2⟩:=a.aW;rw[h2.cC];let⟨p,m8,rfl,hs,t1⟩:=jt hd h1;apply⟨p,m8,(),hs,λl hl=>?_⟩;let⟨r1,e1,t2⟩:=kM r hl t1;exact q _ _ O w _ hf e1 r1 t2
  .exact hf.elim
 .exact hf.elim
def Oh:Dk:=λO xs P=>match xs with
 |[x]=>match p7 x with
  |some ds=>P (.own ↥O) (O++[↑(ds.map .im)])
  |none=>False
 |_=>False
def KC:Dl K Eh Oh:=λw O H vs xs P Q r a hf q=>by
 unfold Oh at hf;split at hf
 .split at hf
  .rename_i ds hd;let⟨v,us,rfl,h1,h2⟩:=a.aW;rw[h2.cC];let⟨p,m8,rfl,hs,t1⟩:=jt hd h1;apply⟨p,m8,(),hs,λl hl=>?_⟩;let⟨r1,e1,t2⟩:=r.own hl (aI.YV t1);exact q _ _ _ _ _ hf e1 r1 ⟨l,t2,λz=>afa (r.dl _ z) (Yl _),()⟩
  .exact hf.elim
 .exact hf.elim
end
section
structure Go (M:MS)(D:zV)(sl:g9)(O:aX):Prop where
 go:M D sl O
def aU (M N:MS):MS:=λD sl O=>M { D with nx:=λc3 O'=>Go N D c3 O' } sl O
def iH:MS:=λD sl O=>D.nx sl O
def fD:jJ X [] (jI K QX E iH):=jJ.imp lC λD σ H h9=>h9.o λw O sl D0 c m hn hb hc hr=>hn sl O w H σ m c (bR.refl _ _ _)
def cS {jM:List Stmt}(h1:PS X st (jI K QX E M))(h2:jJ X jM (jI K QX E N)):jJ X (st::jM) (jI K QX E (aU M N)):=jJ.imp (eJ h1 h2) λD σ H h9=>h9.o λw O sl D0 c m hn hb hc hr =>
 ⟨w,O,sl,_,c,m,λB' O1 w1 H1 Lh h1 c1 e1=>⟨w1,O1,B',D0,c1,h1.go,λbC O2 w2 H2 cT h2 c2 e2=>hn bC O2 w2 H2 cT h2 c2 (e1.trans e2),λbC O2 w2 H2 cT h2 c2 e2=>hb bC O2 w2 H2 cT h2 c2 (e1.trans e2),λbC O2 w2 H2 cT h2 c2 e2=>hc bC O2 w2 H2 cT h2 c2 (e1.trans e2),λx O2 w2 H2 v h2 e2 r2 a2=>hr x O2 w2 H2 v h2 (e1.trans e2) r2 a2⟩,hb,hc,hr⟩
def d9 (h1:PS X st (jI K QX E M)):jJ X [st] (jI K QX E M):=de h1
def zA (M:ME):MS:=λD sl O=>M sl O λ_ O1=>D.nx sl O1
def tF (he:PE X e (bQ K QX E M))(hs:swapsWith e none pos.line X.env=pure false:=by rfl):PS X (.Expr e pos) (jI K QX E (zA M)):=PS.imp (Au he hs) λD σ H h9=>h9.o λw O sl D0 c m hn hb hc hr=>⟨w,O,sl,_,c,m,λx O1 v w1 H1 h1 e1 r1 a1=>hn sl O1 w1 H1 σ h1 (c.ex e1.ex r1) e1⟩
def cO (M:ME):MS:=λD sl O=>M sl O D.rt
def iJ (he:PE X e (bQ K QX E M)):PS X (.Return ↑e pos) (jI K QX E (cO M)):=PS.imp (eG he) λD σ H h9=>h9.o λw O sl D0 c m hn hb hc hr=>⟨w,O,sl,_,c,m,λx O1 v w1 H1 h1 e1 r1 a1=>hr x O1 w1 H1 v h1 e1 r1 a1⟩
def mY (C:MT)(M N:MS):MS:=λD sl O=>C sl O λc O1=>(c->M D sl O1)/\(c=false->N D sl O1)
def iS (hc:PT X t (iN K QX E C))(ha:jJ X a (jI K QX E M))(hb:jJ X b (jI K QX E N)):PS X (.If t a b pos) (jI K QX E (mY C M N)):=PS.imp (lA hc ha hb) λD σ H h9=>h9.o λw O sl D0 c m hn hb hc hr=>⟨w,O,sl,_,c,m,λx O1 w1 H1 h1 e1 r1=>by
 let z:∀{M:MS},M D0 sl O1->jI K QX E M D σ H1:=λh=>⟨w1,O1,sl,D0,c.ex e1.ex r1,h,λbC O2 w2 H2 cT h2 c2 e2=>hn bC O2 w2 H2 cT h2 c2 (e1.trans e2),λbC O2 w2 H2 cT h2 c2 e2=>hb bC O2 w2 H2 cT h2 c2 (e1.trans e2),λbC O2 w2 H2 cT h2 c2 e2=>hc bC O2 w2 H2 cT h2 c2 (e1.trans e2),λx O2 w2 H2 v h2 e2 r2 a2=>hr x O2 w2 H2 v h2 (e1.trans e2) r2 a2⟩
 cases x with
 |true=>exact bE (z (h1.1 rfl))
 |false=>exact bN (z (h1.2 rfl))⟩
abbrev MG:=AV->g9->aX->(g9->aX->Prop)->Prop
abbrev SO:=List AV->g9->aX->(g9->aX->Prop)->Prop
def mq (K:Θ1)(QX:Addr->aX->Prop)(E:XK)(mg:MG):TG:=λv σ H Q=>∃w O sl x Q0,gB K QX E w O H σ sl/\iD K w (G w O H) v x/\mg x sl O Q0/\∀c3 O' w' H' aO,Q0 c3 O'->gB K QX E w' O' H' aO c3->bR w O H w' O' H'->Q aO H'
def mq.o {P:Prop}(h:mq K QX E mg v σ H Q)(k:∀w O sl x Q0,gB K QX E w O H σ sl->iD K w (G w O H) v x->mg x sl O Q0->(∀c3 O' w' H' aO,Q0 c3 O'->gB K QX E w' O' H' aO c3->bR w O H w' O' H'->Q aO H')->P):P:=by
 let⟨x0,x1,x2,x3,x4,x5,x6,x7,x8⟩:=h;exact k x0 x1 x2 x3 x4 x5 x6 x7 x8
def w9 (K:Θ1)(QX:Addr->aX->Prop)(E:XK)(mg:SO):NR:=λvs σ H Q=>∃w O sl xs Q0,gB K QX E w O H σ sl/\bu K w (G w O H) vs xs/\mg xs sl O Q0/\∀c3 O' w' H' aO,Q0 c3 O'->gB K QX E w' O' H' aO c3->bR w O H w' O' H'->Q aO H'
def w9.o {P:Prop}(h:w9 K QX E mg vs σ H Q)(k:∀w O sl xs Q0,gB K QX E w O H σ sl->bu K w (G w O H) vs xs->mg xs sl O Q0->(∀c3 O' w' H' aO,Q0 c3 O'->gB K QX E w' O' H' aO c3->bR w O H w' O' H'->Q aO H')->P):P:=by
 let⟨x0,x1,x2,x3,x4,x5,x6,x7,x8⟩:=h;exact k x0 x1 x2 x3 x4 x5 x6 x7 x8
def PG.imp (h:PG X tg t)(i:∀v σ H Q,t' v σ H Q->t v σ H Q):PG X tg t':=λae s σ H v u Q I r q=>h ae s σ H v u Q I r (i v σ H Q q)
def wM.imp (h:wM X tg t)(i:∀v σ H Q,t' v σ H Q->t v σ H Q):wM X tg t':=λae s σ H v u Q I r q=>h ae s σ H v u Q I r (i v σ H Q q)
def aY (i:Nat):MG:=λx sl O Q=>Q (sl.set i ↑x) O
def gB.put (c:gB K QX E w O H σ sl)(a:iD K w (G w O H) v x)(i:Nat):gB K QX E w O H (σ.set i ↑v) (sl.set i ↑x):=⟨c.ro,c.so.set a i,c.zx⟩
def ir (h:PG X tg (fu i)):PG X tg (mq K QX E (aY i)):=PG.imp h λv σ H Q h9=>h9.o λw O sl x Q0 c a m q=>q _ O w H _ m (c.put a i) (bR.refl _ _ _)
def cx:SO:=λxs sl O Q=>match xs with
 |[]=>Q sl O
 |_=>False
def aG (t:MG)(u:SO):SO:=λxs sl O Q=>match xs with
 |x::r=>t x sl O λc3 O'=>u r c3 O' Q
 |_=>False
def wH:wM X [] (w9 K QX E cx):=wM.imp fb λv σ H Q h9=>h9.o λw O sl x Q0 c a m q=>by
 unfold cx at m;split at m
 .exact⟨a.cC,q _ O w H _ m c (bR.refl _ _ _)⟩
 .exact m.elim
def jm (h1:PG X e (mq K QX E t))(h2:wM X es (w9 K QX E u))(hs:(assignEach (e::es) X.env).map (·.2)=assign e X.env::(assignEach es X.env).map (·.2):=by rfl):wM X (e::es) (w9 K QX E (aG t u)):=wM.imp (rN h1 h2 hs) λv σ H Q h9=>h9.o λw O sl x Q0 c a m q=>by
 unfold aG at m;split at m
 .obtain⟨v1,us,rfl,a1,a2⟩:=a.aW;exact⟨v1,us,(),w,O,sl,_,_,c,a1,m,λB' O1 w1 H1 Lh h1 c1 e1=>⟨w1,O1,B',_,_,c1,a2.ex e1.ex,h1,λbC O2 w2 H2 cT h2 c2 e2=>q bC O2 w2 H2 cT h2 c2 (e1.trans e2)⟩⟩
 .exact m.elim
def lz (n:Nat)(t:SO):MG:=λx sl O Q=>match p7 x with
 |some ds=>↥ds=n/\t (ds.map .im) sl O Q
 |none=>False
def PG.or (h:PG X tg t)(h':PG X tg t'):PG X tg (λv σ H Q=>t v σ H Q\/t' v σ H Q):=λae s σ H v u Q I r q=>q.elim (λz=>h ae s σ H v u Q I r z) λz=>h' ae s σ H v u Q I r z
def wF (hc:X.calm)(h:wM X es (w9 K QX E t))(hn:↥(assignEach es X.env)=n:=by rfl)(nS:(assignEach es X.env).findIdx? (·.1)=none:=by rfl):PG X (.Tuple es k pos) (mq K QX E (lz n t)) :=
 PG.imp (PG.or (ia hc h hn nS) (QB hc h hn nS)) λv σ H Q h9=>h9.o λw O sl x Q0 c a m q=>by
  unfold lz at m;split at m
  .rename_i ds hd;let⟨m1,m2⟩:=m;let⟨p,us,rfl,hs,t1⟩:=jt hd a;let hl:↥us=n:=by rw[t1.len];exact m1
   let hq:w9 K QX E t us σ H Q:=⟨w,O,sl,_,_,c,aI.YV t1,m2,q⟩;rcases hs with hs |hs
   .exact .inr ⟨p,us,(),hs,hl,hq⟩
   .exact .inl ⟨p,us,(),hs,hl,hq⟩
  .exact m.elim
def mgS (Mo Mi:ME):MG:=λx sl O Q=>Mo sl O λo O1=>Mi sl O1 λi O2=>match o,i with
 |.own k,.im (.int i)=>∃c j,O2[k]?=↑↑c/\ur ↥c i=↑j/\Q sl (O2.set k ↑(c.set j x))
 |_,_=>False
def Rn (ho:PE X o (bQ K QX E Mo))(hi:PE X i (bQ K QX E Mi))(ha:∀v,assign (.Subscript o i pos) X.env v=(do
  let ov <- holding [v] (eval o X.env);let iv <- holding [v,ov] (eval i X.env)
  standAt pos
  holding [v,ov,iv] (setItem ov iv v)
  release [v,ov,iv] []):=by intro _;rfl):PG X (.Subscript o i pos) (mq K QX E (mgS Mo Mi)):=PG.imp (xz ho hi kW ha) λv σ H Q h9=>h9.o λw O sl x Q0 c a m q =>
 ⟨w,O,sl,_,c,m,λo' O1 v1 w1 H1 h1 e1 r1 a1=>⟨w1,O1,sl,_,c.ex e1.ex r1,h1,λi' O2 v2 w2 H2 h2 e2 r2 a2=>by
  split at h2
  .obtain⟨c',j,pY,hj,h2⟩:=h2;let SM:=e1.trans e2;let⟨p2,e3,qv,rfl⟩:=a1.ex e2.ex;let⟨p1,us,h0,g1,t1⟩:=r2.qh qv pY;rw[h0] at e3;cases aaa e3;let⟨r3,e3⟩:=r2.put pY qv h0 g1 (t1.set (a.ex SM.ex) j);exact⟨_,us,_,j,(),gR a2,g1,by rw[t1.1];exact hj,q sl _ w2 _ σ h2 ((c.ex SM.ex r2).ex e3.ex r3) (SM.trans e3)⟩
  .exact h2.elim⟩⟩
def bv (M:ME)(mg:MG):MS:=λD sl O=>M sl O λx O1=>mg x sl O1 D.nx
def jc (ht:∀σ H Q,bQ K QX E M σ H Q->t σ H Q)(hg:∀v σ H Q,mq K QX E mg v σ H Q->g v σ H Q):∀D σ H,jI K QX E (bv M mg) D σ H->DL t g D σ H:=λD σ H h9=>h9.o λw O sl D0 c m hn hb hc hr =>
 ht σ H _ ⟨w,O,sl,_,c,m,λx O1 v w1 H1 h1 e1 r1 a1=>hg v σ H1 _ ⟨w1,O1,sl,x,_,c.ex e1.ex r1,a1,h1,λbC O2 w2 H2 cT h2 c2 e2=>hn bC O2 w2 H2 cT h2 c2 (e1.trans e2)⟩⟩
def oD (he:PE X e (bQ K QX E M))(hg:PG X tg (mq K QX E mg))(hs:swapsWithSole [tg] e pos.line X.env=pure false:=by rfl)(hw:swappedStores [tg] e X.env=pure none:=by rfl)(h1:(assignEach [tg] X.env).map (·.2)=[assign tg X.env]:=by rfl):PS X (.Assign [tg] e pos) (jI K QX E (bv M mg)):=PS.imp (iX he hg hs hw h1) (jc (λ_ _ _ z=>z) λ_ _ _ _ z=>z)
def kU:∀v σ H Q,mq K QX E (aY i) v σ H Q->fu i v σ H Q:=λv σ H Q h9=>h9.o λw O sl x Q0 c a m q=>q _ O w H _ m (c.put a i) (bR.refl _ _ _)
def ii (hN:X.N.Nodup)(hi:X.N[i]?=↑x)(hx:Loc X.env.scope x)(he:PE X e (bQ K QX E M))(hs:swapsWith e ↑(.Name x lF) pos.line X.env=pure false:=by rfl)(hf:X.fn x\/X.env.scope.names.lookup x=some .local:=by first |exact .inl rfl |exact .inr rfl |assumption) :
  PS X (.Assign [.Name x lF] e pos) (jI K QX E (bv M (aY i))):=PS.imp (qr hN hi hx he hs hf) (jc (λ_ _ _ z=>z) kU)
def jV (K:Θ1)(J:It)(w:Wd)(O:aX)(H:Hp)(items:List AV):Prop:=∀O2 w2 H2,mW w O H w2 O2 H2->aE K w2 O2 H2->∀i,(∀x,items[i]?=↑x->J.go i H2/\∀v H3,J.qo i H2 v H3->bR w2 O2 H2 w2 O2 H3/\aE K w2 O2 H3/\iD K w2 (G w2 O2 H3) v x)/\(↥items<=i->J.stop i H2)
def uc (K:Θ1)(QX:Addr->aX->Prop)(E:XK)(M:MA):TI:=λσ H R=>∃w O sl Q0,gB K QX E w O H σ sl/\M sl O Q0/\∀items O' w' H' J,Q0 items O'->bR w O H w' O' H'->aE K w' O' H'->jV K J w' O' H' items->R J H'
def uc.o {P:Prop}(h:uc K QX E M σ H R)(k:∀w O sl Q0,gB K QX E w O H σ sl->M sl O Q0->(∀items O' w' H' J,Q0 items O'->bR w O H w' O' H'->aE K w' O' H'->jV K J w' O' H' items->R J H')->P):P:=by
 let⟨x0,x1,x2,x3,x4,x5,x6⟩:=h;exact k x0 x1 x2 x3 x4 x5 x6
def PI.imp (h:PI X tg iter t)(i:∀σ H R,t' σ H R->t σ H R):PI X tg iter t':=λae s σ H R I q=>h ae s σ H R I (i σ H R q)
def Cu (t:cr (G w O H) (.ref a) (.list ds)):jV K (Bs K0 a) w O H (ds.map .im):=λO2 w2 H2 e r i=>by
 cases cr.ay e.ay t with |lst h1 t1=>?_
 rename_i xs;let hh:=(fq h1).1;apply⟨λx hx=>?_,λhl=>⟨xs,bI.of hh,by rw[Zb] at hl;rw[t1.len];exact hl⟩⟩;rw[Zo] at hx;cases hd:ds[i]? with
 |none=>rw[hd] at hx;cases hx
 |some d =>
  rw[hd] at hx;cases aaa hx;let⟨v,hv,tv⟩:=t1.get hd;apply⟨⟨xs,v,bI.of hh,hv⟩,?_⟩;rintro v' H3 ⟨rfl,hy⟩;have:=hy xs (bI.of hh);rw[hv] at this;cases aaa this;exact⟨bR.refl _ _ _,r,tv⟩
def Cs (t:cr (G w O H) (.ref a) (.tuple ds)):jV K (zf K0 a) w O H (ds.map .im):=λO2 w2 H2 e r i=>by
 cases cr.ay e.ay t with |tup h1 t1=>?_
 rename_i xs;let hh:=(fq h1).1;apply⟨λx hx=>?_,λhl=>⟨xs,aN.of hh,by rw[Zb] at hl;rw[t1.len];exact hl⟩⟩;rw[Zo] at hx;cases hd:ds[i]? with
 |none=>rw[hd] at hx;cases hx
 |some d =>
  rw[hd] at hx;cases aaa hx;let⟨v,hv,tv⟩:=t1.get hd;apply⟨⟨xs,v,aN.of hh,hv⟩,?_⟩;rintro v' H3 ⟨rfl,hy⟩;have:=hy xs (aN.of hh);rw[hv] at this;cases aaa this;exact⟨bR.refl _ _ _,r,tv⟩
def c7 (M:ME):MA:=λsl O Q=>M sl O λx O1=>match p7 x with
 |some ds=>Q (ds.map .im) O1
 |none=>False
def acP (tl:TE):TI:=λσ H R=>tl σ H λx H1=>(∃a,x=.ref a/\(∃xs,bI K0 H1 a xs)/\R (Bs K0 a) H1)\/(∃a,x=.ref a/\(∃xs,aN K0 H1 a xs)/\R (zf K0 a) H1)
def ES (hl:PE X l tl):PI X tg l (acP tl):=by
 intro ae s σ H R I h;apply bH (hl ae s σ H _ I h) λv s1 ⟨x,H1,I1,r1,q1⟩=>?_
 rcases q1 with ⟨a,e,⟨xs,hq⟩,q⟩ |⟨a,e,⟨xs,hq⟩,q⟩
 .subst e;cases r1;let⟨its,rv,p,hz⟩:=I1.list hq.k0;apply wpAny_pyIter_list p.isList ⟨⇑s1,[⇑s1],_,Bs K0 a,H1,(),I1.kept (t':=s1.toks) λb o e=>Zn _ e,(qN (K:=X.K) a _).le AM,⟨_,Z0 _ rfl,(),()⟩,λb hb=>?_,q⟩;let e:b=⇑s1:=by simpa using hb
  subst e;exact I1.jO (Zf _) (I1.ca.fresh (Zf _))
 .subst e;cases r1;let⟨its,rv,p,hz⟩:=I1.tuple hq.k0;apply wpAny_pyIter_tuple (show s1.heap.IsTuple a its.toArray from p) ⟨⇑s1,[⇑s1],_,zf K0 a,H1,(),I1.kept (t':=s1.toks) λb o e=>Zn _ e,(pf (K:=X.K) a _).le Ff,⟨_,Z0 _ rfl,(),()⟩,λb hb=>?_,q⟩;let e:b=⇑s1:=by simpa using hb
  subst e;exact I1.jO (Zf _) (I1.ca.fresh (Zf _))
def qq (he:PE X e (bQ K QX E M)):PI X tg e (uc K QX E (c7 M)):=PI.imp (ES he) λσ H R h9=>h9.o λw O sl Q0 c m q=>⟨w,O,sl,_,c,m,λx O1 v w1 H1 h1 e1 r1 a1=>by
 split at h1
 .rename_i ds hd;unfold p7 at hd;split at hd
  .cases hd
   let⟨a,xs,rfl,g1,t1⟩:=gE a1;exact .inl ⟨a,(),⟨xs,bI.of g1⟩,q _ O1 w1 H1 _ h1 e1 r1 (Cu a1)⟩
  .cases hd
   let⟨a,xs,rfl,g1,t1⟩:=eW a1;exact .inr ⟨a,(),⟨xs,aN.of g1⟩,q _ O1 w1 H1 _ h1 e1 r1 (Cs a1)⟩
  .cases hd
 .exact h1.elim⟩
def uD (lo:Int)(n:Nat):List AV:=(~~~n).map λi:Nat=>.im (.int (lo+(i:Int)))
def Ct:jV K (Ua lo n) w O H (uD lo n):=λO2 w2 H2 e r i=>by
 unfold uD;apply⟨λx hx=>?_,λhl=>by show n<=i;simpa using hl⟩;let hi:i<n:=by have:=(Zg.mp hx).1;simpa using this
 rw[Zo,Yt hi] at hx;cases aaa hx;apply⟨hi,?_⟩;rintro v H3 ⟨rfl,rfl⟩;exact⟨bR.refl _ _ _,r,.int _⟩
def nV (Ms:MA):MA:=λsl O Q=>Ms sl O λxs O1=>match xs with
 |[.im (.int n)]=>(-(2 ^ 62)<=n/\n<2 ^ 62)/\Q (uD 0 n.toNat) O1
 |_=>False
def Hl (hg:Gl X "range")(hm:X.mg "range"=none)(ha:PA X [a] (ud K QX E Ms))(hs:starEach [a] X.env=[(false,eval a X.env)]:=by rfl):PI X tg (.Call (.Name "range" p) [a] [] pos) (uc K QX E (nV Ms)):=PI.imp (qZ hg hm ha hs) λσ H R h9=>h9.o λw O sl Q0 c m q=>⟨w,O,sl,_,c,m,λxs O1 vs w1 H1 h1 e1 r1 a1=>by
 split at h1
 .obtain⟨v,us,rfl,h3,h4⟩:=a1.aW;rw[h4.cC,gR h3];exact⟨_,(),h1.1.1,h1.1.2,q _ O1 w1 H1 _ h1.2 e1 r1 Ct⟩
 .exact h1.elim⟩
def c8 (ds:Ξ1):List AV:=(~~~↥ds).map λi:Nat=>.im (.tuple [.int (i:Int),ds.getD i .none])
def yx (t:cr (G w O H) (.ref a) (.tuple ds)):jV K (DJ K0 a) w O H (c8 ds):=λO2 w2 H2 e r i=>by
 cases cr.ay e.ay t with |tup h1 t1=>?_
 rename_i xs;let hh:=(fq h1).1;unfold c8;apply⟨λx hx=>?_,λhl=>⟨xs,aN.of hh,by rw[t1.len];simpa using hl⟩⟩;let hi:i<↥ds:=by have:=(Zg.mp hx).1;simpa using this
 rw[Zo,Yt hi] at hx;cases aaa hx;let hd:ds[i]?=↑(ds.getD i .none):=by rw[ao (Zc hi)];exact Zc hi
 let⟨v,hv,tv⟩:=t1.get hd;apply⟨⟨xs,v,aN.of hh,hv⟩,?_⟩;rintro v' H3 ⟨p,hp,rfl,hy⟩;let⟨y,Ly,rfl⟩:=hy xs (aN.of hh);rw[hv] at Ly;cases aaa Ly;let⟨r4,e4,t4⟩:=ff r hp (.cons (.int (i:Int)) (.cons tv .nil));exact⟨e4,r4,t4⟩
def XU (Ms:MA):MA:=λsl O Q=>Ms sl O λxs O1=>match xs with
 |[.im (.tuple ds)]=>Q (c8 ds) O1
 |_=>False
def tH (hg:Gl X "enumerate")(hm:X.mg "enumerate"=none)(hb:bootBuiltins "enumerate"=↑(.type "enumerate"))(ha:PA X [a] (ud K QX E Ms))(hs:starEach [a] X.env=[(false,eval a X.env)]:=by rfl):PI X (.Tuple uK kk rS) (.Call (.Name "enumerate" p) [a] [] pos) (uc K QX E (XU Ms)):=PI.imp (nA hg hm hb ha hs) λσ H R h9=>h9.o λw O sl Q0 c m q=>⟨w,O,sl,_,c,m,λxs O1 vs w1 H1 h1 e1 r1 a1=>by
 split at h1
 .obtain⟨v,us,rfl,h3,h4⟩:=a1.aW;rw[h4.cC];let⟨a,R5,rfl,g1,t1⟩:=eW h3;exact⟨a,(),⟨R5,aN.of g1⟩,q _ O1 w1 H1 _ h1 e1 r1 (yx h3)⟩
 .exact h1.elim⟩
def w8 (ds es:Ξ1):List AV:=(~~~↥ds).map λi:Nat=>.im (.tuple [ds.getD i .none,es.getD i .none])
def Cr (t:cr (G w O H) (.ref a) (.tuple ds))(u:cr (G w O H) (.ref b) (.tuple es))(Sw:↥ds<=↥es):jV K (SQ K0 a b) w O H (w8 ds es):=λO2 w2 H2 e r i=>by
 cases cr.ay e.ay t with |tup h1 t1=>?_
 rename_i xs;cases cr.ay e.ay u with |tup h2 t2=>?_
 rename_i ys;let hh:=(fq h1).1;let hh2:=(fq h2).1;unfold w8;apply⟨λx hx=>?_,λhl=>⟨xs,ys,aN.of hh,aN.of hh2,by rw[t1.len];simpa using hl⟩⟩;let hi:i<↥ds:=by have:=(Zg.mp hx).1;simpa using this
 rw[Zo,Yt hi] at hx;cases aaa hx;let hd:ds[i]?=↑(ds.getD i .none):=by rw[ao (Zc hi)];exact Zc hi
 let he:es[i]?=↑(es.getD i .none):=by rw[ao (Zc (show i<↥es by omega))];exact Zc ⋯
 let⟨v,hv,tv⟩:=t1.get hd;let⟨v2,hv2,tv2⟩:=t2.get he;apply⟨⟨xs,ys,v,v2,aN.of hh,aN.of hh2,hv,hv2⟩,?_⟩;rintro v' H3 ⟨p,hp,rfl,hy⟩;let⟨y,y2,Ly,hy2,rfl⟩:=hy xs ys (aN.of hh) (aN.of hh2);rw[hv] at Ly;rw[hv2] at hy2;cases aaa Ly;cases aaa hy2;let⟨r4,e4,t4⟩:=ff r hp (.cons tv (.cons tv2 .nil));exact⟨e4,r4,t4⟩
def Tf (Ms:MA):MA:=λsl O Q=>Ms sl O λxs O1=>match xs with
 |[.im (.tuple ds),.im (.tuple es)]=>↥ds<=↥es/\Q (w8 ds es) O1
 |_=>False
def sM (hg:Gl X "zip")(hm:X.mg "zip"=none)(hb:bootBuiltins "zip"=↑(.type "zip"))(ha:PA X [a,b] (ud K QX E Ms))(hs:starEach [a,b] X.env=[(false,eval a X.env),(false,eval b X.env)]:=by rfl)(pN:starEach [b] X.env=[(false,eval b X.env)]:=by rfl):PI X (.Tuple uK kk rS) (.Call (.Name "zip" p) [a,b] [] pos) (uc K QX E (Tf Ms)):=PI.imp (JV hg hm hb ha hs pN) λσ H R h9=>h9.o λw O sl Q0 c m q=>⟨w,O,sl,_,c,m,λxs O1 vs w1 H1 h1 e1 r1 a1=>by
 split at h1
 .obtain⟨v,us,rfl,h3,h4⟩:=a1.aW;let⟨v2,M9,rfl,h5,h6⟩:=h4.aW;rw[h6.cC];let⟨a,R5,rfl,g1,t1⟩:=eW h3;let⟨b,ys',rfl,g2,t2⟩:=eW h5;exact⟨a,b,(),⟨R5,aN.of g1⟩,⟨ys',aN.of g2⟩,q _ O1 w1 H1 _ h1.2 e1 r1 (Cr h3 h5 h1.1)⟩
 .exact h1.elim⟩
structure FB (tg:MG)(body:MS)(D:zV)(sl:g9)(items:List AV)(O1:aX):Prop where
 ex:∃Iv:Nat->g9->aX->Prop,Iv 0 sl O1 /\
 (∀i x c3 O',items[i]?=↑x->Iv i c3 O'->tg x c3 O' λbC O2=>Go body { D with nx:=Iv (i+1),ct:=Iv (i+1),bk:=D.nx } bC O2)/\∀c3 O',Iv ↥items c3 O'->D.nx c3 O'
def nW (it:MA)(tg:MG)(body:MS):MS:=λD sl O=>it sl O (FB tg body D sl)
def gl (hp:PassesOwn (model X.prog X.w) X.A X.env X.xe)(hc:X.calm)(hi:PI X tg iter (uc K QX E it))(hg:PG X tg (mq K QX E mg))(hb:jJ X body (jI K QX E M))(hs:∀x,foldedSetIterable iter X.env x=pure x:=by intro _;rfl):PS X (.For tg iter body [] pos) (jI K QX E (nW it mg M)):=PS.imp (sD hp hc hi hg hb hs) λD σ H h9=>h9.o λw O sl D0 c m hn hbk hct hr=>⟨w,O,sl,_,c,m,λitems O1 w1 H1 J h1 e1 r1 Bl=>by
 let⟨Iv,hI0,hIs,hIe⟩:=h1;apply⟨λi m aO H'=>m=↥items-i/\i<=↥items/\∃w' O' c3,gB K QX E w' O' H' aO c3/\bR w1 O1 H1 w' O' H'/\Iv i c3 O',⟨↥items,by simp,Z9 _,w1,O1,sl,c.ex e1.ex r1,bR.refl _ _ _,hI0⟩,?_⟩;rintro i m aO H' ⟨rfl,Sw,w',O',c3,c',e',hv⟩;let⟨ig,ie⟩:=Bl O' w' H' e'.ex c'.ro i;rcases Yb i ↥items with y |y
 .obtain⟨TD,Ts⟩:=ig _ (Zc y);apply .inr ⟨TD,λcT H2=>∃w2 O2 bC,gB K QX E w2 O2 H2 cT bC/\bR w1 O1 H1 w2 O2 H2/\Iv (i+1) bC O2,λcT H2 ⟨w2,O2,bC,c2,e2,h2⟩=>⟨↥items-(i+1),⋯,(),y,w2,O2,bC,c2,e2,h2⟩,λv H3 ψ=>?_⟩;let⟨e3,r3,a3⟩:=Ts v H3 ψ;apply⟨w',O',c3,_,_,c'.ex e3.ex r3,a3,hIs i _ c3 O' (Zc y) hv,λR8 O4 w4 H4 HC h4 c4 e4=>⟨w4,O4,R8,_,c4,h4.go,λDr O5 w5 H5 yS h5 c5 e5=>⟨w5,O5,Dr,c5,(e'.trans e3).trans (e4.trans e5),h5⟩,λDr O5 w5 H5 yS h5 c5 e5=>hn Dr O5 w5 H5 yS h5 c5 (((e1.trans e').trans e3).trans (e4.trans e5)),λDr O5 w5 H5 yS h5 c5 e5=>⟨w5,O5,Dr,c5,(e'.trans e3).trans (e4.trans e5),h5⟩,λx5 O5 w5 H5 v5 h5 e5 r5 a5=>hr x5 O5 w5 H5 v5 h5 (((e1.trans e').trans e3).trans (e4.trans e5)) r5 a5⟩⟩
 .let ei:i=↥items:=⋯;subst ei;exact .inl ⟨ie (Zf _),hn c3 O' w' H' aO (hIe c3 O' hv) c' (e1.trans e')⟩⟩
end
section
def sO (C:MT)(M:MS):MS:=λD sl O=>∃Iv:Nat->g9->aX->Prop,(∃m,Iv m sl O)/\∀m c3 O',Iv m c3 O'->C c3 O' λc O1=>(c->M { D with nx:=λs o=>∃m',m'<m/\Iv m' s o,ct:=λs o=>∃m',m'<m/\Iv m' s o,bk:=D.nx } c3 O1)/\(c=false->D.nx c3 O1)
def oV (hp:PassesOwn (model X.prog X.w) X.A X.env X.xe)(hc:PT X t (iN K QX E C))(hb:jJ X body (jI K QX E M)):PS X (.While t body [] pos) (jI K QX E (sO C M)):=PS.imp (kY hp hc hb) λD σ H h9=>by
 let⟨w,O,sl,D0,c,⟨Iv,⟨m0,hm0⟩,hs⟩,hn,hbk,hct,hr⟩:=h9;apply⟨λm aO H'=>∃w' O' c3,gB K QX E w' O' H' aO c3/\bR w O H w' O' H'/\Iv m c3 O',⟨m0,w,O,sl,c,bR.refl _ _ _,hm0⟩,?_⟩;rintro m aO H' ⟨w',O',c3,c',e',hv⟩;apply⟨w',O',c3,_,c',hs m c3 O' hv,λb O1 w1 H1 h1 e1 r1=>?_⟩;cases b with
 |true =>
  apply bE ⟨λcT H2=>∃m',m'<m/\∃w2 O2 bC,gB K QX E w2 O2 H2 cT bC/\bR w O H w2 O2 H2/\Iv m' bC O2,λcT H2 ⟨m',cN,z⟩=>⟨m',cN,z⟩,w1,O1,c3,_,c'.ex e1.ex r1,h1.1 rfl,?_,?_,?_,?_⟩
  .rintro Dr O5 w5 H5 yS ⟨m',cN,h5⟩ c5 e5;exact⟨m',cN,w5,O5,Dr,c5,(e'.trans e1).trans e5,h5⟩
  .intro Dr O5 w5 H5 yS h5 c5 e5;exact hn Dr O5 w5 H5 yS h5 c5 ((e'.trans e1).trans e5)
  .rintro Dr O5 w5 H5 yS ⟨m',cN,h5⟩ c5 e5;exact⟨m',cN,w5,O5,Dr,c5,(e'.trans e1).trans e5,h5⟩
  .intro x5 O5 w5 H5 v5 h5 e5 r5 a5;exact hr x5 O5 w5 H5 v5 h5 ((e'.trans e1).trans e5) r5 a5
 |false=>exact bN (hn c3 O1 w1 H1 aO (h1.2 rfl) (c'.ex e1.ex r1) (e'.trans e1))
def Sub (n:Nat)(sl bC:g9):Prop:=↥bC=↥sl/\∀j,n<=j->bC[j]?=sl[j]?
def cy.sub (h:cy K w g σ bC)(s:Sub n (fQ n ix sl) bC):cy K w g σ (fQ n ix sl):=by
 apply⟨h.1.trans s.1,λi x hx=>?_⟩;rcases Yb i n with y |y
 .unfold fQ at hx;rw[Zr ‹y›,Y9,aha y] at hx;cases aaa hx
 .exact h.2 i x (by rw[s.2 i y];exact hx)
def bu.gD (hb:(w'.dS,w'.iM)=(w.dS,w.iM))(ha:w'.bK=w.bK)(s:az g g')(h:bu K w g vs xs):bu K w' g' vs xs:=⟨h.1,λi v x h1 h2=>iD.gD hb ha s (h.2 i v x h1 h2)⟩
def cy.gD (hb:(w'.dS,w'.iM)=(w.dS,w.iM))(ha:w'.bK=w.bK)(s:az g g')(h:cy K w g σ sl):cy K w' g' σ sl:=⟨h.1,λi x h1=>by let⟨v,h2,h3⟩:=h.2 i x h1;exact⟨v,h2,iD.gD hb ha s h3⟩⟩
def Keeps (n:Nat)(mg:MG):Prop:=∀x sl O Q,mg x sl O Q->mg x sl O λbC O2=>Q bC O2/\Sub n sl bC
def pM (h:i<n):Keeps n (aY i):=λx sl O Q q=>⟨q,by simp,λj hj=>Z8 ⋯⟩
def oK (n:Nat)(mg:SO):Prop:=∀x sl O Q,mg x sl O Q->mg x sl O λbC O2=>Q bC O2/\Sub n sl bC
def Nj:oK n cx:=λx sl O Q q=>by
 cases x with
 |nil=>exact⟨q,(),λ_ _=>rfl⟩
 |cons y r=>exact q
def zd (h:i<n)(hu:oK n u):oK n (aG (aY i) u):=λx sl O Q q=>by
 cases x with
 |nil=>exact q
 |cons y r =>
  let q':u r (sl.set i ↑y) O Q:=q;have:=hu r _ O _ q';show u r (sl.set i ↑y) O _;let imp:u r (sl.set i ↑y) O (λbC O2=>Q bC O2/\Sub n (sl.set i ↑y) bC)->u r (sl.set i ↑y) O (λbC O2=>Q bC O2/\Sub n sl bC):=λz=>by
   let e:(λbC (O2:aX)=>Q bC O2/\Sub n (sl.set i ↑y) bC)=λbC (O2:aX)=>Q bC O2/\Sub n sl bC:=by
    funext bC O2
    apply propext;unfold Sub;rw[Yi];constructor
    .rintro⟨h1,h2,h3⟩;exact⟨h1,h2,λj hj=>by rw[h3 j hj,Z8 ⋯]⟩
    .rintro⟨h1,h2,h3⟩;exact⟨h1,h2,λj hj=>by rw[h3 j hj,Z8 ⋯]⟩
   rw[e] at z;exact z
  exact imp this
def Lq (h:oK n t):Keeps n (lz m t):=λx sl O Q q=>by
 unfold lz at q ⊢;split
 .rename_i ds hd;rw[hd] at q;exact⟨q.1,h _ sl O Q q.2⟩
 .rename_i hd;rw[hd] at q;exact q
def vE {J:It}{items:List AV}{P:α->Nat->Wd->aX->Hp->Prop}{T:α->Nat->Bool->g9->aX->Prop}{R:g9->Prop}{B:(St->Hp->Prop)->St->Hp->Prop}{Qf:St->Hp->Prop}
  (h0:∃z w O,P z 0 w O H0/\cy K w (G w O H0) σ0 S1)
  (it:∀z i w O H,P z i w O H->Zx K QX E w O H/\(∀x,items[i]?=↑x->J.go i H/\∀v H3,J.qo i H v H3->bR w O H w O H3/\aE K w O H3/\iD K w (G w O H3) v x)/\(↥items<=i->J.stop i H))
  (hs:∀z i x w O H,items[i]?=↑x->P z i w O H->mg x S1 O λbC O2=>(C bC O2 λc O3=>T z i c bC O3)/\R bC)
  (hr:∀bC w g σ,R bC->cy K w g σ bC->cy K w g σ S1)
  (hn:∀z i w O H bC w3 O3 H3,P z i w O H->T z i false bC O3->bR w O H w3 O3 H3->aE K w3 O3 H3->P z (i+1) w3 O3 H3)
  (hB:∀z i w O H bC w3 O3 H3 dD N,i<↥items->P z i w O H->T z i true bC O3->bR w O H w3 O3 H3->gB K QX E w3 O3 H3 dD bC->(∀z' w4 O4 H4 HC,P z' (i+1) w4 O4 H4->cy K w4 (G w4 O4 H4) HC bC->N HC H4)->B N dD H3)
  (he:∀z w O H σ,P z ↥items w O H->cy K w (G w O H) σ S1->Qf σ H) :
  ∃W:Nat->Nat->St->Hp->Prop,(∃m,W 0 m σ0 H0)/\∀i m aO H',W i m aO H'->(J.stop i H'/\Qf aO H') \/
   (J.go i H'/\∃N:St->Hp->Prop,(∀cT H2,N cT H2->∃m',m'<m/\W (i+1) m' cT H2)/\∀x H2,J.qo i H' x H2->mq K QX E mg x aO H2 λdD H3=>iN K QX E C dD H3 λb H4=>if b=true then B N dD H4 else N dD H4):=by
 apply⟨λi m aO H'=>m=↥items-i/\i<=↥items/\∃z w O,P z i w O H'/\cy K w (G w O H') aO S1,⟨_,(),Z9 _,h0⟩,?_⟩;rintro i m aO H' ⟨rfl,Sw,z,w,O,hp,s'⟩;let⟨zx,ig,ie⟩:=it z i w O H' hp;rcases Yb i ↥items with y |y
 .obtain⟨TD,Ts⟩:=ig _ (Zc y);apply .inr ⟨TD,λcT H2=>∃z w O,P z (i+1) w O H2/\cy K w (G w O H2) cT S1,λcT H2 z=>⟨_,⋯,(),y,z⟩,λv H3 ψ=>?_⟩;let⟨e3,r3,a3⟩:=Ts v H3 ψ;apply⟨w,O,_,_,_,⟨r3,s'.ex e3.ex,λk T8 SS Ue qx TZ S7=>zx k T8 SS Ue qx (e3.ex.trans TZ) S7⟩,a3,hs z i _ w O H' (Zc y) hp,λR8 O4 w4 H4 HC h4 c4 e4=>⟨w4,O4,R8,_,c4,h4.1,λb O5 w5 H5 h5 e5 r5=>?_⟩⟩;let e35:=e3.trans (e4.trans e5);cases b with
  |false=>exact bN ⟨z,w5,O5,hn _ _ _ _ _ _ _ _ _ hp h5 e35 r5,hr _ _ _ _ h4.2 (c4.so.ex e5.ex)⟩
  |true=>exact bE (hB _ _ _ _ _ _ _ _ _ _ _ y hp h5 e35 (c4.ex e5.ex r5) λz6 w6 O6 H6 σ6 p s=>⟨z6,w6,O6,p,hr _ _ _ _ h4.2 s⟩)
 .let ei:i=↥items:=⋯;subst ei;exact .inl ⟨ie (Zf _),he _ _ _ _ _ hp s'⟩
structure Acc (K:Θ1)(acc:Addr)(w1:Wd)(O1:aX)(H1:Hp)(o:HO)(w:Wd)(O:aX)(H:Hp):Prop where
 ro:aE K w O H
 hh:w.dh=(acc,o)::w1.dh
 ex:mW w1 O1 H1 w O H
def Acc.ext (a:Acc K acc w1 O1 H1 o w O H)(e:bR w O H w2 O2 H2)(r:aE K w2 O2 H2):Acc K acc w1 O1 H1 o w2 O2 H2:=⟨r,e.dh.trans a.hh,a.ex.trans e.ex⟩
def Acc.put (a:Acc K acc w1 O1 H1 o w O H)(o':HO)(ho:∀xs,o'≠.tup xs):H acc=↑o/\Acc K acc w1 O1 H1 o' { w with dh:=(acc,o')::w1.dh } O (aP H acc o')/\az (G w O H) (G { w with dh:=(acc,o')::w1.dh } O (aP H acc o')):=by
 let h:=a.ro.nh (acc,o) (by rw[a.hh];exact Zk);let⟨r,s⟩:=a.ro.PK (o':=o') a.hh ho;exact⟨h.2.2.1,⟨r,(),a.ex.bs,a.ex.bK,⟨[(acc,o')],()⟩,a.ex.ay.trans s,a.ex.dk⟩,s⟩
def Acc.done {Q0:AV->aX->Prop}{Q:VK}(a:Acc K acc w1 O1 H1 (.lst ys) w' O' H')(q:∀x O1 v w1 H1,Q0 x O1->bR w O H w1 O1 H1->aE K w1 O1 H1->iD K w1 (G w1 O1 H1) v x->Q v H1)(h:Q0 (.im (.list zs)) O')(e1:bR w O H w1 O1 H1)(av:aI (G w' O' H') ys zs):Q (.ref acc) H':=by
 let⟨r2,s2,g2⟩:=a.ro.Po a.hh;exact q _ _ _ { w' with dh:=w1.dh } _ h ⟨e1.ex.trans ⟨a.ex.bs,a.ex.bK,⟨[],rfl⟩,a.ex.ay.trans s2,a.ex.dk⟩,e1.dh⟩ r2 (cr.lst g2 (aI.ay s2 av))
def nP {A:α->Wd->Hp->Prop}{ob:α->HO}{Bz:α->Nat->g9->aX->Prop}{B:(St->Hp->Prop)->St->Hp->Prop}{Qf:Hp->Prop}(c1:gB K QX E w1 O1 H1 σ sl)(Bl:jV K J w1 O1 H1 items)(Iv:Nat->α->aX->Prop)(L:Nat->α->Prop)(hL:∀i z,L i z->L (i+1) z)(z0:α)(l0:L 0 z0)(h0:Iv 0 z0 O1)(ho:∀xs,ob z0≠.tup xs)(hA0:∀w g,A z0 w g)
  (hA:∀z w O H w' O' H',mW w O H w' O' H'->A z w (G w O H)->A z w' (G w' O' H'))
  (hs:∀i x z O',items[i]?=↑x->Iv i z O'->mg x (fQ n ix sl) O' λbC O2=>C bC O2 λc O3=>(c->Bz z i bC O3)/\(c=false->Iv (i+1) z O3))
  (hk:Keeps n mg) (acc:Addr) (bV:H1 acc=none)
  (hB:∀z i bC w3 O3 H3 dD N,i<↥items->L i z->Bz z i bC O3->gB K QX E w3 O3 H3 dD bC->Acc K acc w1 O1 H1 (ob z) w3 O3 H3->A z w3 (G w3 O3 H3)->(∀z' w4 O4 H4 HC,Acc K acc w1 O1 H1 (ob z') w4 O4 H4->A z' w4 (G w4 O4 H4)->L (i+1) z'->Iv (i+1) z' O4->cy K w4 (G w4 O4 H4) HC bC->N HC H4)->B N dD H3)
  (he:∀z O' w' H',Iv ↥items z O'->Acc K acc w1 O1 H1 (ob z) w' O' H'->A z w' (G w' O' H')->Qf H') :
  ∃W:Nat->Nat->St->Hp->Prop,(∃m,W 0 m (dH n ix σ) (aP H1 acc (ob z0)))/\∀i m aO H',W i m aO H'->(J.stop i H'/\Qf H') \/
   (J.go i H'/\∃N:St->Hp->Prop,(∀cT H2,N cT H2->∃m',m'<m/\W (i+1) m' cT H2)/\∀x H2,J.qo i H' x H2->mq K QX E mg x aO H2 λdD H3=>iN K QX E C dD H3 λb H4=>if b=true then B N dD H4 else N dD H4):=by
 let⟨r0,e0⟩:=c1.ro.hide (o:=ob z0) bV ho;exact vE (P:=λz i w O H=>Acc K acc w1 O1 H1 (ob z) w O H/\A z w (G w O H)/\L i z/\Iv i z O) (R:=Sub n (fQ n ix sl)) (Qf:=λ_ H=>Qf H)
  ⟨z0,_,O1,⟨⟨r0,(),e0⟩,hA0 _ _,l0,h0⟩,(c1.so.blk n ix).ex e0⟩
  (λz i w O H p=>⟨λk T8 SS Ue qx TZ S7=>c1.zx k T8 SS Ue qx (p.1.ex.trans TZ) S7,Bl O w H p.1.ex p.1.ro i⟩)
  (λz i x w O H hx p=>hk _ _ _ _ (hs i x z O hx p.2.2.2))
  (λbC w g σ r s=>s.sub r)
  (λz i w O H bC w3 O3 H3 p t e r=>⟨p.1.ext e r,hA _ _ _ _ _ _ _ e.ex p.2.1,hL _ _ p.2.2.1,t.2 rfl⟩)
  (λz i w O H bC w3 O3 H3 dD N y p t e c k=>hB z i bC w3 O3 H3 dD N y p.2.2.1 (t.1 rfl) c (p.1.ext e c.ro) (hA _ _ _ _ _ _ _ e.ex p.2.1) λz' w4 O4 H4 HC a b l v s=>k z' w4 O4 H4 HC ⟨a,b,l,v⟩ s)
  (λz w O H σ p _=>he z O w H p.2.2.2 p.1 p.2.1)
def G6 (c1:gB K QX E w1 O1 H1 σ sl)(Bl:jV K J w1 O1 H1 items)(cA:↥items<=1000000)(Iv:Nat->List AV->aX->Prop)(h0:Iv 0 [] O1)
  (hs:∀i x zs O',items[i]?=↑x->Iv i zs O'->mg x (fQ n ix sl) O' λbC O2=>C bC O2 λc O3=>(c->M bC O3 λy O4=>Iv (i+1) (zs++[y]) O4)/\(c=false->Iv (i+1) zs O3))
  (hk:Keeps n mg) (acc:Addr) (bV:H1 acc=none)
  (he:∀zs ys O' w' H',Iv ↥items zs O'->aE K w' O' H'->w'.dh=(acc,.lst ys)::w1.dh->mW w1 O1 H1 w' O' H'->bu K w' (G w' O' H') ys zs->Qf (.ref acc) H') :
  hV (mq K QX E mg) (iN K QX E C) (bQ K QX E M) J acc (dH n ix σ) H1 Qf :=
 nP (α:=List V×List AV) (ob:=λz=>.lst z.1) (A:=λz w g=>bu K w g z.1 z.2) (Bz:=λz i bC O3=>M bC O3 λy O4=>Iv (i+1) (z.2++[y]) O4) (Qf:=Qf (.ref acc)) c1 Bl (λi z O=>Iv i z.2 O) (λi z=>↥z.2<=i) (λi z h=>Nat.le_succ_of_le h) ([],[]) (Z9 _) h0 (λxs z=>by cases z) (λ_ _=>bu.nil) (λz w O H w' O' H' e a=>a.ex e)
  (λi x z=>hs i x z.2) hk acc bV
  (λz i bC w3 O3 H3 dD N y v m c a av k=>⟨w3,O3,bC,_,c,m,λx O6 v6 w6 H6 h6 e6 r6 a6=>by
   let⟨n3,a7,s7⟩:=(a.ext e6 r6).put (.lst (z.1++[v6])) (λxs z=>by cases z);exact⟨z.1,n3,by rw[av.1,sz];omega,k (_,_) _ _ _ _ a7 (bu.gD rfl rfl s7 ((av.ex e6.ex).app (bu.cons a6 bu.nil))) (by rw[Zv];exact Nat.succ_le_succ v) h6 (cy.gD rfl rfl s7 (c.so.ex e6.ex))⟩⟩)
  λz O' w' H' v a av=>he z.2 z.1 O' w' H' v a.ro a.hh a.ex av
structure CB (n:Nat)(ix:List Nat)(mg:MG)(C:MT)(M:ME)(sl:g9)(Q:AV->aX->Prop)(items:List AV)(O1:aX):Prop where
 len:↥items<=1000000
 ex:∃Iv:Nat->Ξ1->aX->Prop,Iv 0 [] O1 /\
 (∀i x ds O',items[i]?=↑x->Iv i ds O'->mg x (fQ n ix sl) O' λbC O2=>C bC O2 λc O3=>(c->M bC O3 λy O4=>match y with
   |.im d=>Iv (i+1) (ds++[d]) O4
   |_=>False)/\(c=false->Iv (i+1) ds O3))/\∀ds O',Iv ↥items ds O'->Q (.im (.list ds)) O'
def cH (n:Nat)(ix:List Nat)(it:MA)(mg:MG)(C:MT)(M:ME):ME:=λsl O Q=>it sl O (CB n ix mg C M sl Q)
structure CBO (n:Nat)(ix:List Nat)(mg:MG)(C:MT)(M:ME)(sl:g9)(Q:AV->aX->Prop)(items:List AV)(O1:aX):Prop where
 len:↥items<=1000000
 ex:∃Iv:Nat->List AV->aX->Prop,Iv 0 [] O1 /\
 (∀i x zs O',items[i]?=↑x->Iv i zs O'->mg x (fQ n ix sl) O' λbC O2=>C bC O2 λc O3=>(c->M bC O3 λy O4=>Iv (i+1) (zs++[y]) O4)/\(c=false->Iv (i+1) zs O3))/\∀zs O',Iv ↥items zs O'->Q (.own ↥O') (O'++[↑zs])
def j7 (n:Nat)(ix:List Nat)(it:MA)(mg:MG)(C:MT)(M:ME):ME:=λsl O Q=>it sl O (CBO n ix mg C M sl Q)
def pq (hk:Keeps n mg):∀σ H Q,bQ K QX E (j7 n ix it mg C M) σ H Q->zg (uc K QX E it) (mq K QX E mg) (iN K QX E C) (bQ K QX E M) n ix σ H Q :=
 λσ H Q h9=>h9.o λw O sl Q0 c m q=>⟨w,O,sl,_,c,m,λitems O1 w1 H1 J h1 e1 r1 Bl acc bV=>by
  let⟨hl,Iv,h0,hs,he⟩:=h1;apply G6 (c.ex e1.ex r1) Bl hl Iv h0 hs hk acc bV λzs ys O' w' H' hv r' hh' e' a'=>?_
  let⟨r2,s2,uv⟩:=r'.I0 hh' a';apply q _ _ _ { w' with dh:=w1.dh,bK:=w'.bK++[acc] } _ (he zs O' hv) ⟨e1.ex.trans ⟨e'.bs,?_,⟨[],rfl⟩,e'.ay.trans s2,e'.dk⟩,e1.dh⟩ r2 ⟨acc,uv,λz=>afa (r'.dl _ z) (Yl _),rfl⟩;let⟨t,ht⟩:=e'.bK;exact⟨t++[acc],by show w'.bK++[acc]=_;rw[ht,Yp]⟩⟩
def rg (hk:Keeps n mg):∀σ H Q,bQ K QX E (cH n ix it mg C M) σ H Q->zg (uc K QX E it) (mq K QX E mg) (iN K QX E C) (bQ K QX E M) n ix σ H Q :=
 λσ H Q h9=>h9.o λw O sl Q0 c m q=>⟨w,O,sl,_,c,m,λitems O1 w1 H1 J h1 e1 r1 Bl acc bV=>by
  let⟨hl,Iv,h0,hs,he⟩:=h1;apply nP (α:=List V×Ξ1) (ob:=λz=>.lst z.1) (A:=λz _ g=>aI g z.1 z.2) (Qf:=Q (.ref acc)) (c.ex e1.ex r1) Bl (λi z O=>Iv i z.2 O) (λi z=>↥z.2<=i) (λi z h=>Nat.le_succ_of_le h) ([],[]) (Z9 _) h0 (λxs z=>by cases z) (λ_ _=>.nil) (λz w O H w' O' H' e a=>aI.ay e.ay a) (λi x z=>hs i x z.2) hk acc bV
   (λz i bC w3 O3 H3 dD N y v m c a av k=>⟨w3,O3,bC,_,c,m,λx O6 v6 w6 H6 h6 e6 r6 a6=>?_⟩)
   λz O' w' H' v a av=>?_
  .split at h6
   .obtain⟨n3,a7,s7⟩:=(a.ext e6 r6).put (.lst (z.1++[v6])) (λxs z=>by cases z);exact⟨z.1,n3,by rw[av.len,sz];omega,k (_,_) _ _ _ _ a7 (aI.ay s7 ((aI.ay e6.ex.ay av).app (.cons a6 .nil))) (by rw[Zv];exact Nat.succ_le_succ v) h6 (cy.gD rfl rfl s7 (c.so.ex e6.ex))⟩
   .exact h6.elim
  .exact a.done q (he _ _ v) e1 av⟩
def dU.imp (h:dU X eR t)(i:∀σ H Q,t' σ H Q->t σ H Q):dU X eR t':=λae s σ H Q I q=>h ae s σ H Q I (i σ H Q q)
def d7:MT:=λ_ O Q=>Q true O
def pK:dU X [] (iN K QX E d7):=dU.imp C8 λσ H Q h9=>h9.o λw O sl Q0 c m q=>q true O w H m (bR.refl _ _ _) c.ro
def ij (h:PT X e (iN K QX E M)):dU X [e] (iN K QX E M):=kZ h
section
def pV (B:aH X scope own cap ix)(hc:X.calm)(hi:PI X tg iter (uc K QX E it))(hk:Keeps ↥own mg)
  (hb:∀C' fp s H,PG (cX X scope C' (own++cap) fp s H) tg (mq K QX E mg)/\dU (cX X scope C' (own++cap) fp s H) eR (iN K QX E C)/\PE (cX X scope C' (own++cap) fp s H) gy (bQ K QX E M))
  (hs:∀x,foldedSetIterable iter X.env x=pure x:=by intro _;rfl):PE X (.ListComp gy [⟨tg,iter,eR,0⟩] scope pos) (bQ K QX E (cH ↥own ix it mg C M)):=PE.imp (yX B hc hi hb hs) (rg hk)
def GF (B:aH X scope own cap ix)(hc:X.calm)(hi:PI X tg iter (uc K QX E it))(hk:Keeps ↥own mg)
  (hb:∀C' fp s H,PG (cX X scope C' (own++cap) fp s H) tg (mq K QX E mg)/\dU (cX X scope C' (own++cap) fp s H) eR (iN K QX E C)/\PE (cX X scope C' (own++cap) fp s H) gy (bQ K QX E M))
  (hs:∀x,foldedSetIterable iter X.env x=pure x:=by intro _;rfl):PE X (.ListComp gy [⟨tg,iter,eR,0⟩] scope pos) (bQ K QX E (j7 ↥own ix it mg C M)):=PE.imp (yX B hc hi hb hs) (pq hk)
def tE (hN:X.N.Nodup)(HL:X.N[i]?=↑y)(hx:X.env.scope.names.lookup y=some .local)(B:aH X scope own cap ix)(hc:X.calm)(hi:PI X tg iter (uc K QX E it))(hk:Keeps ↥own mg)
  (hb:∀C' fp s H,PG (cX X scope C' (own++cap) fp s H) tg (mq K QX E mg)/\dU (cX X scope C' (own++cap) fp s H) eR (iN K QX E C)/\PE (cX X scope C' (own++cap) fp s H) gy (bQ K QX E M))
  (DA:swapsWith (.ListComp gy [⟨tg,iter,eR,0⟩] scope pos) ↑(.Name y py) rT.line X.env=pure true:=by rfl)
  (hs:∀x,foldedSetIterable iter X.env x=pure x:=by intro _;rfl):PS X (.Assign [.Name y py] (.ListComp gy [⟨tg,iter,eR,0⟩] scope pos) rT) (jI K QX E (bv (cH ↥own ix it mg C M) (aY i))):=PS.imp (At hN HL hx B hc hi hb DA hs) (jc (rg hk) kU)
def oW (hN:X.N.Nodup)(HL:X.N[i]?=↑y)(hx:X.env.scope.names.lookup y=some .local)(B:aH X scope own cap ix)(hc:X.calm)(hi:PI X tg iter (uc K QX E it))(hk:Keeps ↥own mg)
  (hb:∀C' fp s H,PG (cX X scope C' (own++cap) fp s H) tg (mq K QX E mg)/\dU (cX X scope C' (own++cap) fp s H) eR (iN K QX E C)/\PE (cX X scope C' (own++cap) fp s H) gy (bQ K QX E M))
  (DA:swapsWith (.ListComp gy [⟨tg,iter,eR,0⟩] scope pos) ↑(.Name y py) rT.line X.env=pure true:=by rfl)
  (hs:∀x,foldedSetIterable iter X.env x=pure x:=by intro _;rfl):PS X (.Assign [.Name y py] (.ListComp gy [⟨tg,iter,eR,0⟩] scope pos) rT) (jI K QX E (bv (j7 ↥own ix it mg C M) (aY i))):=PS.imp (At hN HL hx B hc hi hb DA hs) (jc (pq hk) kU)
end
abbrev FM:=aX->List AV->(AV->aX->Prop)->(Addr->aX->Prop)->Prop
def uh (K:Θ1)(sp:Sp)(F:FM):Prop:=∀(w:Wd) (O:aX) (H:Hp) (vs:List V) (xs:List AV) (P:AV->aX->Prop) (PX:Addr->aX->Prop) (Q:VK) (E:XK),aE K w O H->bu K w (G w O H) vs xs->F O xs P PX ->
 (∀z q O' w' H',P q O'->bR w O H w' O' H'->aE K w' O' H'->iD K w' (G w' O' H') z q->Q z H')->(∀c O' w' H',PX c O'->mW w O H w' O' H'->aE K w' O' H'->E (.ref c) none H')->sp vs H Q E
def cF (K:Θ1)(F:FM):Sp:=λvs H Q E=>∃w O xs P PX,aE K w O H/\bu K w (G w O H) vs xs/\F O xs P PX/\(∀z q O' w' H',P q O'->bR w O H w' O' H'->aE K w' O' H'->iD K w' (G w' O' H') z q->Q z H')/\∀c O' w' H',PX c O'->mW w O H w' O' H'->aE K w' O' H'->E (.ref c) none H'
def gv:uh K (cF K F) F:=λw O H vs xs P PX Q E r a f q x=>⟨w,O,xs,P,PX,r,a,f,q,x⟩
def aC (F:FM)(QX:Addr->aX->Prop)(Ms:MA):ME:=λsl O Q=>Ms sl O λxs O1=>F O1 xs Q QX
def cE:Addr->aX->Prop:=λ_ _=>False
def GH (G':aF X.prog X.w X.K X.mg X.base bX k f fd ps sp)(lk:uh K sp F)(hr:c6 k X.A)(hg:Gl X x)(hm:X.mg x=↑(.ref f))(hk:PySem.W.keepIn X.K (.ref f))(hb:Binds X.K fd ps [])
  (ha:PA X (e::es) (ud K QX E Ms)) (wW:(x == ("__debug__" : Str))=false:=by decide) (he:starEach (e::es) X.env=(false,eval e X.env)::starEach es X.env:=by rfl) (mU:(backTo pos (starEach es X.env)).any (·.1)=false:=by rfl) :
  PE X (.Call (.Name x p) (e::es) [] pos) (bQ K QX E (aC F cE Ms)):=PE.imp (eu G' hr hg hm hk hb (Hz:=[]) .nil aQ ha wW he mU) λσ H Q h9=>h9.o λw O sl Q0 c m q=>⟨w,O,sl,_,c,m,λxs O1 vs w1 H1 h1 e1 r1 a1=>by
 show sp (vs++[]) H1 Q E0;rw[Yn];exact lk w1 O1 H1 vs xs _ cE Q E0 r1 a1 h1 (λz z' O3 w3 H3 h3 e3 r3 a3=>q _ O3 z w3 H3 h3 (e1.trans e3) r3 a3) λk O' w' H' qx e' r'=>qx.elim⟩
def be (N:Δ2)(xs:List AV):g9:=xs.map some++List.replicate (↥N-↥xs) none
def vY (a:bu K w g vs xs):cy K w g (L2.start N vs) (be N xs):=by
 unfold L2.start be;apply⟨by simp[a.1],λi x hx=>?_⟩;rcases Yb i ↥xs with y |y
 .rw[Zr ‹y›,Zo,Zc y] at hx;let ex:xs[i]=x:=by injection (aaa hx)
  let yv:i<↥vs:=by rw[a.1];exact y
  apply⟨vs[i],?_,a.2 i _ x (Zc yv) (by rw[Zc y,ex])⟩;rw[Zr ‹yv›,Zo,Zc yv];rfl
 .rw[Yh ‹y›,Y9] at hx;split at hx
  .cases aaa hx
  .cases hx
def jQ (U:cU K x qual st f fd)(S:ak N ps (bD st))(hl:∀O xs P PX,F O xs P PX->↥xs=↥ps)
  (hb:∀(bG:Value) (A:Around) (outer:List Env) (s:Shared) (H:Hp) (E:XK) (QX:Addr->aX->Prop),c6 k (A.deeper (PyProof.Rows.envOfC qual (bD st) ⇑s f bG)) ->
   ∃M,jJ (uL bX P wo K mg base N qual (bD st) f bG A outer s H E).Sd (uq st) (jI K QX E M)/\∀O xs Pq,F O xs Pq QX->M Pq⁻¹ (be N xs) O):aF P wo K mg base bX (k+1) f fd ps (cF K F):=by
 apply U.ok S (λvs H Q E h9=>by let⟨w,O,xs,P,PX,r,a,h,q⟩:=h9;rw[a.1];exact hl O xs P PX h) (λbG A outer s H vs Q E hr h9=>?_);let⟨w,O,xs,P',PX,r,a,h,q,x⟩:=h9;let⟨M,hM,hq⟩:=hb bG A outer s H E PX hr;exact⟨_,hM,w,O,be N xs,_,⟨r,vY a,x⟩,hq O xs P' h,λc3 O' w' H' aO h' c' e'=>q _ _ O' w' H' h' e' c'.ro .cj,λc3 O' w' H' aO h' c' e'=>h'.elim,λc3 O' w' H' aO h' c' e'=>h'.elim,λx' O' w' H' v h' e' r' a'=>q v x' O' w' H' h' e' r' a'⟩
def Og (Mo:ME)(Ms:MA):ME:=λsl O Q=>Mo sl O λo O1=>match o with
 |.own k=>(∃c,O1[k]?=↑↑c)/\Ms sl O1 λxs O2=>match xs with
  |[y]=>∃c,O2[k]?=↑↑c/\↥c<sizeLine/\Q (.im .none) (O2.set k ↑(c++[y]))
  |_=>False
 |_=>False
end
section
def E7 (ho:PE X o (bQ K QX E Mo))(ha:PA X [e] (ud K QX E Ms))
  (uX:attributeBase o "append" X.env (eval o X.env)=eval o X.env:=by rfl)
  (Ow:((backTo j4 (starEach [e] X.env)).all (λx=>!x.1)&&(backToKw j4 (keywordEach [] X.env)).all (λx=>x.1.isSome)
   && decide (↥[e]+↥([]:List Keyword)+(if ([]:List Keyword).isEmpty then 0 else 1)<30))=true:=by rfl)
  (uW:(sj.endLine == j4.line)=true:=by rfl) (hs:starEach [e] X.env=(false,eval e X.env)::starEach [] X.env:=by rfl) (xJ:(backTo j4 (starEach [] X.env)).any (·.1)=false:=by rfl) :
  PE X (.Call (.Attribute o "append" sj) [e] [] j4) (bQ K QX E (Og Mo Ms)):=PE.imp (Wz PySem.F.plainAttrs_list PySem.F.slot_list_append PySem.F.type_list_append rd ho ha uX Ow uW hs xJ) λσ H Q h9=>h9.o λw O sl Q0 c m q=>⟨w,O,sl,_,c,m,λo' O1 v w1 H1 h1 e1 r1 a1=>by
 split at h1
 .obtain⟨⟨c0,YH⟩,h1⟩:=h1;let⟨p,hp,qv,rfl⟩:=a1;let IB:∀{w2:Wd}{O2:aX}{H2:Hp},bR w1 O1 H1 w2 O2 H2->_∉w2.iM:=λe z=>qv ((e.ex.dk _ (Zg.mp hp).1).mp z)
  apply⟨.inl ⟨(),?_⟩,w1,O1,sl,_,c.ex e1.ex r1,h1,λxs O2 vs w2 H2 h2 e2 r2 a2=>?_⟩
  .obtain⟨p1,m8,h0,g1,t1⟩:=r1.qh qv YH;rw[hp] at h0;cases aaa h0;exact⟨m8,bI.of g1⟩
  .split at h2
   .obtain⟨c',pY,h2⟩:=h2;let⟨v1,us,rfl,b1,b2⟩:=a2.aW;rw[b2.cC];let⟨p1,m8,h0,g1,t1⟩:=r2.qh (IB e2) pY;rw[e2.ex.at hp] at h0;cases aaa h0;let⟨r3,e3⟩:=r2.put pY (IB e2) (e2.ex.at hp) g1 (t1.app (bu.cons b1 bu.nil));exact⟨_,m8,v1,(),(),g1,by rw[t1.1];exact h2.1,q _ _ _ _ _ h2.2 ((e1.trans e2).trans e3) r3 .cj⟩
   .exact h2.elim
 .exact h1.elim⟩
structure n9 (O O':aX):Prop where
 len:↥O'=↥O
 at':∀j:Nat,O'[j]?=O[j]? \/ O'[j]?=↑none
def n9.refl (O:aX):n9 O O:=⟨(),λ_=>.inl rfl⟩
def n9.set (h:n9 O O')(k:Nat):n9 O (O'.set k none):=⟨by rw[Yi];exact h.len,λj=>by
 by_cases e:k=j
 .subst e;rcases Yb k ↥O' with y |y
  .exact .inr (Yq y)
  .rw[List.set_eq_of_length_le y];exact h.at' k
 .rw[Z8 e];exact h.at' j⟩
def aE.less (r:aE K w O H)(h:n9 O O'):aE K w O' H/\bR w O H w O' H/\∀(j:Nat) a,O'[j]?=↑none->w.bK[j]?=↑a->G w O' H a=H a:=by
 let back:∀(j:Nat) c,O'[j]?=↑↑c->O[j]?=↑↑c:=λj c hj=>by
  rcases h.at' j with e |e
  .grind
  grind
 let lH:∀x,jK w O' x->jK w O x:=λx h=>by
  rcases h with h |h |⟨j,d,h1,h2⟩
  .exact .inl h
  .exact .inr (.inl h)
  .exact .inr (.inr ⟨j,d,h1,back j d h2⟩)
 let sg:az (G w O H) (G w O' H):=λx o h=>by
  let⟨h1,h2⟩:=fq h;rw[hG (λz=>h2 (lH x z))];exact h1
 let e:bR w O H w O' H:=⟨⟨⟨[],by simp⟩,⟨[],by simp⟩,⟨[],by simp⟩,sg,λ_ _=>Iff.rfl⟩,()⟩;apply⟨⟨by rw[h.len];exact r.len,r.nd,r.al,r.nb,r.hn,r.nh,r.bg,λj d hj=>?_,λj hj=>by rw[h.len];exact r.dl j hj⟩,e,λj a hj ha=>?_⟩
 .obtain⟨a',us,h1,h2,h3⟩:=r.wL j d (back j d hj);exact⟨a',us,h1,h2,h3.ex e.ex⟩
 .rw[hG];rintro(h1 |⟨o,h1⟩ |⟨i,d,h1,h2⟩)
  .exact r.nb _ h1 (Z1 ha)
  .exact(r.nh _ h1).1 (Z1 ha)
  .have:j=i:=(List.getElem?_inj (Zg.mp ha).1 r.nd).mp (ha.trans h1.symm)
   grind
def aE.MV (r:aE K w O H)(h:n9 O O')(hk:O[k]?=↑↑(ds.map .im))(my:O'[k]?=↑none)(qv:k∉w.iM)(ha:w.bK[k]?=↑a):cr (G w O' H) (.ref a) (.list ds):=by
 let⟨r1,e1,g1⟩:=r.less h;let⟨a',vs,h1,h2,h3⟩:=r.qh qv hk;rw[ha] at h1;cases aaa h1;exact .lst (xs:=vs) (by rw[g1 k a my ha];exact h2) (bu.tr (h3.ex e1.ex))
def vg {α : Type}{xs:List α}{i:Nat}{x:α}(h:xs[i]?=↑x):xs.set i x=xs:=by
 apply Qn;intro j;by_cases e:i=j
 .subst e;rw[Yq (Zg.mp h).1,h]
 .rw[Z8 e]
def Of (i:Nat)(M:MS):MS:=λD sl O=>∃(k:Nat) (ds:Ξ1),sl[i]?=↑↑(.own k)/\O[k]?=↑↑(ds.map .im)/\M D (sl.set i ↑(.im (.list ds))) (O.set k none)
def E1 (i:Nat){SY:List Stmt}(h:jJ X SY (jI K QX E M)):jJ X SY (jI K QX E (Of i M)):=jJ.imp h λD σ H h9=>by
 let⟨w,O,sl,D0,c,⟨k,ds,h1,h2,m⟩,hn,hb,hc,hr⟩:=h9;let hL:=(n9.refl O).set k;let⟨r1,e1,_⟩:=c.ro.less hL;let⟨v,hv,a,ha,qv,rfl⟩:=c.so.2 i _ h1;let t:=c.ro.MV hL h2 (Yq (Zg.mp h2).1) qv ha;let c2:=(c.ex e1.ex r1).put (x:=.im (.list ds)) t i;rw[vg hv] at c2;exact⟨w,_,_,D0,c2,m,λbC O2 w2 H2 cT h2 c2 e2=>hn bC O2 w2 H2 cT h2 c2 (e1.trans e2),λbC O2 w2 H2 cT h2 c2 e2=>hb bC O2 w2 H2 cT h2 c2 (e1.trans e2),λbC O2 w2 H2 cT h2 c2 e2=>hc bC O2 w2 H2 cT h2 c2 (e1.trans e2),λx O2 w2 H2 v h2 e2 r2 a2=>hr x O2 w2 H2 v h2 (e1.trans e2) r2 a2⟩
def iq (O:aX):List Nat->aX
 |[]=>O
 |k::ks=>iq (O.set k none) ks
theorem lm:∀(ks:List Nat) {O O':aX},n9 O O'->n9 O (iq O' ks)
 |[],_,_,h=>h
 |k::ks,_,_,h=>lm ks (h.set k)
theorem ln:∀(ks:List Nat) {O:aX}{j:Nat},O[j]?=↑none->(iq O ks)[j]?=↑none
 |[],_,_,h=>h
 |k::ks,O,j,h=>ln ks (by
  by_cases e:k=j
  .subst e;exact Yq (Zg.mp h).1
  .rw[Z8 e];exact h)
theorem kh:∀(ks:List Nat) {O:aX}{j:Nat},j∈ks->j<↥O->(iq O ks)[j]?=↑none
 |k::ks,O,j,h,hl=>by
  rcases Zj.mp h with e |e
  .subst e;exact ln ks (Yq hl)
  .exact kh ks e (by rw[Yi];exact hl)
def El (i:Nat)(M:MS):MS:=λD sl O=>∃(k:Nat) (ks:List Nat) (LF:List (Ξ1)),sl[i]?=↑↑(.own k)/\O[k]?=↑↑(ks.map .own)/\↥ks=↥LF/\(∀(j:Nat) kj,ks[j]?=↑kj->O[kj]?=↑↑((LF∩j).map .im)) /\
 M D (sl.set i ↑(.im (.list (LF.map .list)))) (iq O (k::ks))
theorem zY:∀{vs:List V}{ds:Ξ1},↥vs=↥ds->(∀(j:Nat) v d,vs[j]?=↑v->ds[j]?=↑d->cr g v d)->aI g vs ds
 |[],[],_,_=>.nil
 |v::vs,d::ds,h,f=>.cons (f 0 v d rfl rfl) (zY ‹h› λj v' d' h1 h2=>f (j+1) v' d' ‹h1› ‹h2›)
def Kr (i:Nat){SY:List Stmt}(h:jJ X SY (jI K QX E M)):jJ X SY (jI K QX E (El i M)):=jJ.imp h λD σ H h9=>by
 let⟨w,O,sl,D0,c,⟨k,ks,LF,h1,h2,hl,h3,m⟩,hn,hb,hc,hr⟩:=h9;let hL:=lm (k::ks) (n9.refl O);let⟨r1,e1,g1⟩:=c.ro.less hL;let⟨v,hv,a,ha,qv,rfl⟩:=c.so.2 i _ h1;let Sy:=(Zg.mp h2).1;let⟨a',vs,q1,q2,q3⟩:=c.ro.qh qv h2;rw[ha] at q1;cases aaa q1;let t:cr (G w (iq O (k::ks)) H) (.ref a) (.list (LF.map .list)):=by
  apply .lst (xs:=vs) (by rw[g1 k a (kh _ Zk Sy) ha];exact q2) (zY (by rw[q3.1,Zb,Zb,hl]) λj v d hv hd=>?_);let hj:j<↥LF:=by have:=(Zg.mp hd).1;simpa using this
  let my:ks[j]?=↑ks[j]:=Zc ⋯;have:=q3.2 j v (.own ks[j]) hv (by rw[Zo,my];rfl);let⟨p,hp,IB,rfl⟩:=this;let hO:=h3 j _ my;rw[Zo,Zc hj] at hd;let TM:d=.list (LF∩j):=by rw[ao (Zc hj)];exact(aaa hd).symm
  rw[TM];exact c.ro.MV hL hO (kh _ (Zi _ (Z1 my)) (Zg.mp hO).1) IB hp
 let c2:=(c.ex e1.ex r1).put (x:=.im (.list (LF.map .list))) t i;rw[vg hv] at c2;exact⟨w,_,_,D0,c2,m,λbC O2 w2 H2 cT h2 c2 e2=>hn bC O2 w2 H2 cT h2 c2 (e1.trans e2),λbC O2 w2 H2 cT h2 c2 e2=>hb bC O2 w2 H2 cT h2 c2 (e1.trans e2),λbC O2 w2 H2 cT h2 c2 e2=>hc bC O2 w2 H2 cT h2 c2 (e1.trans e2),λx O2 w2 H2 v h2 e2 r2 a2=>hr x O2 w2 H2 v h2 (e1.trans e2) r2 a2⟩
def xi (M:ME):ME:=λsl O Q=>M sl O λx O1=>match x with
 |.im (.int i)=>Q (.im (.int (-i))) O1
 |_=>False
def lO (h:PE X a (bQ K QX E M)):PE X (.UnaryOp .USub a pos) (bQ K QX E (xi M)):=PE.imp (L9 EA h) λσ H Q h9=>h9.o λw O sl Q0 c m q=>⟨w,O,sl,_,c,m,λx O1 v w1 H1 h1 e1 r1 a1=>by
 split at h1
 .exact⟨_,gR a1,q _ O1 _ w1 H1 h1 e1 r1 (.int _)⟩
 .exact h1.elim⟩
def ga:FM:=λO xs P _=>match xs with
 |[.bag _,.im (.int m)]=>(0<m/\m<1073741824)/\∀r:Int,0<=r->r<m->P (.im (.int r)) O
 |_=>False
def C7:uh K lK ga:=λw O H vs xs P PX Q E r a hf q x=>by
 unfold ga at hf;split at hf
 .obtain⟨v,us,rfl,h1,h2⟩:=a.aW;let⟨v2,M9,rfl,h3,h4⟩:=h2.aW;rw[h4.cC];let⟨b,hb,rfl⟩:=h1;rw[gR h3];let gT:=Z1 hb;apply⟨b,_,(),r.bg b gT,hf.1.1,hf.1.2,λi H' h0 hm hB hK=>?_⟩;let⟨r1,e1,_⟩:=r.draw gT hK hB;exact q _ _ O w H' (hf.2 i h0 hm) e1 r1 (.int _)
 .exact hf.elim
def OB:FM:=λO xs P _=>match xs with
 |[.yT _,.im (.int k)]=>(0<=k/\k<100)/\∀j,P (.bag j) O
 |_=>False
def Ry:uh K (Ed K) OB:=λw O H vs xs P PX Q E r a hf q x=>by
 unfold OB at hf;split at hf
 .obtain⟨v,us,rfl,h1,h2⟩:=a.aW;let⟨v2,M9,rfl,h3,h4⟩:=h2.aW;rw[h4.cC];let⟨b,rfl,hb⟩:=h1;rw[gR h3];apply⟨b,_,_,(),KG.bI.ay hb qe,hf.1.1,hf.1.2,λp c d hp=>?_⟩;let⟨r1,e1⟩:=r.bag (x:=c) (y:=d) hp;exact q _ _ O _ _ (hf.2 ↥w.dS) e1 r1 ⟨p,by simp,()⟩
 .exact hf.elim
def Mh (r:aE K w O H)(hp:H p=none):aE K w O (aP H p (qO q))/\bR w O H w O (aP H p (qO q))/\cr (G w O (aP H p (qO q))) (.ref p) (qD q):=ff r hp (.cons (.int _) (.cons (.int _) .nil))
def YO (h:cr (G w O H) v (qD q)):∃p,v=.ref p/\H p=↑(qO q):=by
 let⟨a,xs,rfl,h1,t⟩:=eW h;cases t with |cons t1 t2=>cases t2 with |cons t2 t3=>cases t3;cases t1;cases t2;exact⟨a,(),h1⟩
def TV:FM:=λO xs P _=>match xs with
 |[.im (.int t),.im (.int u)]=>(0<u/\Bd 66000000 u)/\P (.im (qD (Rat.divInt t u))) O
 |_=>False
def WO:uh K DM TV:=λw O H vs xs P PX Q E r a hf q x=>by
 unfold TV at hf;split at hf
 .obtain⟨v,us,rfl,h1,h2⟩:=a.aW;let⟨v2,M9,rfl,h3,h4⟩:=h2.aW;rw[h4.cC,gR h1,gR h3];apply⟨_,_,(),hf.1.1,hf.1.2,λp hp=>?_⟩;let⟨r1,e1,t1⟩:=Mh r hp;exact q _ _ O w _ hf.2 e1 r1 t1
 .exact hf.elim
def f2 (op:Rat->Rat->Rat):FM:=λO xs P _=>∃a b,xs=[.im (qD a),.im (qD b)]/\(Rb 32000000 a/\Rb 32000000 b)/\P (.im (qD (op a b))) O
def DS:uh K (Hf op) (f2 op):=λw O H vs xs P PX Q E r a hf q x=>by
 let⟨a1,b1,rfl,h0,hf⟩:=hf;let⟨v,us,rfl,h1,h2⟩:=a.aW;let⟨v2,M9,rfl,h3,h4⟩:=h2.aW;rw[h4.cC];let⟨p1,rfl,g1⟩:=YO h1;let⟨p2,rfl,g2⟩:=YO h3;apply⟨p1,p2,a1,b1,(),g1,g2,h0.1,h0.2,λp hp=>?_⟩;let⟨r1,e1,t1⟩:=Mh r hp;exact q _ _ O w _ hf e1 r1 t1
def u3:FM:=λO xs P _=>∃a b,xs=[.im (qD a),.im (qD b)]/\(Rb 32000000 a/\Rb 32000000 b)/\P (.im (.bool (decide (a<b)))) O
def nI:uh K j5 u3:=λw O H vs xs P PX Q E r a hf q x=>by
 let⟨a1,b1,rfl,h0,hf⟩:=hf;let⟨v,us,rfl,h1,h2⟩:=a.aW;let⟨v2,M9,rfl,h3,h4⟩:=h2.aW;rw[h4.cC];let⟨p1,rfl,g1⟩:=YO h1;let⟨p2,rfl,g2⟩:=YO h3;exact⟨p1,p2,a1,b1,(),g1,g2,h0.1,h0.2,q _ _ O w H hf (bR.refl _ _ _) r (.bl _)⟩
end
section
def o6 (R:Nat->PyData->Prop)(hl:↥items<=1000000)
  (hs:∀(i:Nat) x (Z:AV->aX->Prop),items[i]?=↑x->(∀d,R i d->Z (.im d) O)->M ((fQ n ix sl).set 0 ↑x) O Z)
  (hd:∀ds:Ξ1,↥ds=↥items->(∀j,j<↥ds->R j (ds.getD j .none))->Q (.im (.list ds)) O):CB n ix (aY 0) d7 M sl Q items O:=by
 apply⟨hl,λi ds O'=>O'=O/\↥ds=i/\∀j,j<↥ds->R j (ds.getD j .none),⟨(),(),λj hj=>afa hj (by simp)⟩,?_,λds O' ⟨e,h1,h2⟩=>e▸hd ds h1 h2⟩;rintro i x ds O' hx ⟨rfl,Tz,hR⟩;apply⟨λ_=>hs i x _ hx λd hdR=>⟨(),by simp[Tz],λj hj=>?_⟩,λz=>by cases z⟩;rcases Yb j ↥ds with y |y
 .have:(ds++[d]).getD j .none=ds.getD j .none:=by simp[List.getD,Zr y]
  rw[this];exact hR j y
 .let mV:j=↥ds:=by simp at hj;omega
  subst mV;have:(ds++[d]).getD ↥ds .none=d:=by simp[List.getD]
  rw[this,Tz];exact hdR
def KI {f:Nat->PyData}(h:∀j,j<↥ds->ds.getD j .none=f j):ds=(~~~↥ds).map f:=by
 apply Qn;intro j;rw[Zo];rcases Yb j ↥ds with y |y
 .rw[Yt y,Y5,<- h j y,ao (Zc y)];exact Zc y
 .rw[Yu y,Yu ‹y›];rfl
def comp_map (f:Nat->PyData)(hl:↥items<=1000000)
  (hs:∀(i:Nat) x (Z:AV->aX->Prop),items[i]?=↑x->Z (.im (f i)) O->M ((fQ n ix sl).set 0 ↑x) O Z)
  (hd:Q (.im (.list ((~~~↥items).map f))) O):CB n ix (aY 0) d7 M sl Q items O :=
 o6 (λi d=>d=f i) hl (λi x Z hx h=>hs i x Z hx (h _ rfl)) λds h1 h2=>by rw[KI h2,h1];exact hd
def Sf (c:Nat->Bool)(f:Nat->PyData)(hl:↥items<=1000000)
  (hc:∀(i:Nat) x (Z:Bool->aX->Prop),items[i]?=↑x->Z (c i) O->C ((fQ n ix sl).set 0 ↑x) O Z)
  (hs:∀(i:Nat) x (Z:AV->aX->Prop),items[i]?=↑x->c i->Z (.im (f i)) O->M ((fQ n ix sl).set 0 ↑x) O Z)
  (hd:Q (.im (.list (((~~~↥items).filter c).map f))) O):CB n ix (aY 0) C M sl Q items O:=by
 apply⟨hl,λi ds O'=>O'=O/\ds=((~~~i).filter c).map f,⟨(),()⟩,?_,λds O' ⟨e,h1⟩=>by rw[e,h1];exact hd⟩;rintro i x ds O' hx ⟨rfl,rfl⟩;exact hc i x _ hx ⟨λh=>hs i x _ hx h ⟨(),by rw[jG,h,aha rfl]⟩,λh=>⟨(),by rw[jG,h,aga ∅,Yn]⟩⟩
def ma (R:Nat->AV->Prop)(hl:↥items<=1000000)
  (hs:∀(i:Nat) x (Z:AV->aX->Prop),items[i]?=↑x->(∀d,R i d->Z d O)->M ((fQ n ix sl).set 0 ↑x) O Z)
  (hd:∀zs:List AV,↥zs=↥items->(∀j z,zs[j]?=↑z->R j z)->Q (.own ↥O) (O++[↑zs])):CBO n ix (aY 0) d7 M sl Q items O:=by
 apply⟨hl,λi zs O'=>O'=O/\↥zs=i/\∀(j:Nat) z,zs[j]?=↑z->R j z,⟨(),(),λj z hj=>by simp at hj⟩,?_,λzs O' ⟨e,h1,h2⟩=>e▸hd zs h1 h2⟩;rintro i x zs O' hx ⟨rfl,Tz,hR⟩;apply⟨λ_=>hs i x _ hx λd hdR=>⟨(),by simp[Tz],λj z hj=>?_⟩,λz=>by cases z⟩;rcases Yb j ↥zs with y |y
 .rw[Zr y] at hj;exact hR j z hj
 .let mV:=(Zg.mp hj).1;have:j=↥zs:=by simp at mV;omega
  subst this;simp at hj;rw[<- hj,Tz];exact hdR
def yY (lo:Int)(n:Nat):↥(uD lo n)=n:=by unfold uD;simp
def PJ (h:(uD lo n)[i]?=↑x):i<n/\x=.im (.int (lo+(i:Int))):=by
 unfold uD at h;let hi:i<n:=by have:=(Zg.mp h).1;simpa using this
 rw[Zo,Yt hi] at h;exact⟨hi,(aaa h).symm⟩
def il (h:(uD 0 n)[i]?=↑x):i<n/\x=.im (.int (i:Int)):=by
 let⟨h1,h2⟩:=PJ h;exact⟨h1,by rw[h2,Int.zero_add]⟩
def dI:min (PyData.int i).depth (PyData.int j).depth<=60:=by show min 0 0<=60;decide
def DU {α : Type}{x:α}:↥[x]<=sizeLine:=by show 1<=sizeLine;decide
def lG {α : Type}{x y:α}:↥[x,y]<=sizeLine:=by show 2<=sizeLine;decide
def DT {α : Type}{x y z:α}:↥[x,y,z]<=sizeLine:=by show 3<=sizeLine;decide
def Vx {n:Int}(h:n.natAbs<2 ^ 40):Bd 66000000 n:=Yk h (Xc ∅ ∅)
def bB {α : Type}{xs:List α}{i:Nat}{x:α}(h:xs[i]?=↑x):gh xs (i:Int)=↑x:=nO h
def cL (O O':aX):Prop:=∃t,O'=O++t
def cL.refl (O:aX):cL O O:=⟨[],by simp⟩
def cL.app (h:cL O O')(c:Option (List AV)):cL O (O'++[c]):=by let⟨t,rfl⟩:=h;exact⟨t++[c],by simp⟩
def cL.set (h:cL O O')(hk:↥O<=k)(c:Option (List AV)):cL O (O'.set k c):=by
 let⟨t,rfl⟩:=h;exact⟨t.set (k-↥O) c,by rw[List.set_append,aga ⋯]⟩
theorem cL.none:∀{ks:List Nat}{O':aX},cL O O'->(∀k∈ks,↥O<=k)->cL O (iq O' ks)
 |[],_,h,_=>h
 |k::ks,_,h,hk=>cL.none (ks:=ks) (h.set (hk k Zk) _) λj hj=>hk j (Zi _ hj)
def dJ (A:Γ3)(Pu:Δ1)(W:Γ1):PyData:=.tuple [.tuple (A.map .int),.tuple (Pu.map qD),.tuple (W.map bi)]
def G8 {R:Nat->Rat->Prop}:∀{ds:Ξ1},(∀j,j<↥ds->∃q:Rat,ds.getD j .none=qD q/\R j q)->∃qs:Δ1,ds=qs.map qD/\∀j,j<↥qs->R j (qs\j):=by
 intro ds;induction ds generalizing R with
 |nil=>intro _;exact⟨[],(),λj hj=>afa hj (by simp)⟩
 |cons d ds ih =>
  intro h;let⟨q,e,hq⟩:=h 0 (by simp);let⟨qs,e2,h2⟩:=ih (R:=λj=>R (j+1)) λj hj=>by
   let⟨q',e',h'⟩:=h (j+1) (by simp;omega);exact⟨q',by simpa[List.getD] using e',h'⟩
  apply⟨q::qs,?_,λj hj=>?_⟩
  .let e':d=qD q:=by simpa[List.getD] using e
   rw[e',e2];rfl
  .cases j with
   |zero=>exact hq
   |succ j=>exact h2 j ‹hj›
def G9 {R:Nat->Int->Prop}:∀{ds:Ξ1},(∀j,j<↥ds->∃q:Int,ds.getD j .none=.int q/\R j q)->∃qs:Γ3,ds=qs.map .int/\∀j,j<↥qs->R j (qs\j):=by
 intro ds;induction ds generalizing R with
 |nil=>intro _;exact⟨[],(),λj hj=>afa hj (by simp)⟩
 |cons d ds ih =>
  intro h;let⟨q,e,hq⟩:=h 0 (by simp);let⟨qs,e2,h2⟩:=ih (R:=λj=>R (j+1)) λj hj=>by
   let⟨q',e',h'⟩:=h (j+1) (by simp;omega);exact⟨q',by simpa[List.getD] using e',h'⟩
  apply⟨q::qs,?_,λj hj=>?_⟩
  .let e':d=.int q:=by simpa[List.getD] using e
   rw[e',e2];rfl
  .cases j with
   |zero=>exact hq
   |succ j=>exact h2 j ‹hj›
def CP {R:Nat->Int->Prop}:∀{ds:List AV},(∀(j:Nat) z,ds[j]?=↑z->∃q:Int,z=.im (.int q)/\R j q)->∃qs:Γ3,ds=qs.map (λi=>AV.im (.int i))/\∀j,j<↥qs->R j (qs\j):=by
 intro ds;induction ds generalizing R with
 |nil=>intro _;exact⟨[],(),λj hj=>afa hj (by simp)⟩
 |cons d ds ih =>
  intro h;let⟨q,e,hq⟩:=h 0 d rfl;let⟨qs,e2,h2⟩:=ih (R:=λj=>R (j+1)) λj z hj=>h (j+1) z ‹hj›
  apply⟨q::qs,by rw[e,e2];rfl,λj hj=>?_⟩;cases j with
  |zero=>exact hq
  |succ j=>exact h2 j ‹hj›
def ky {α β : Type}{f:α->β}{xs:List α}{j:Nat}{d:α}(h:j<↥xs):(xs.map f)[j]?=↑(f (xs.getD j d)):=by
 rw[Zo,Zc h,ao (Zc h)];rfl
end
section
section
end
def rC (h0:0<=r)(h1:r<=↥xs):cutD xs ↑r none=xs.drop r.toNat:=by
 let e1:HT.cR ↥xs 0 ↑r=r.toNat:=by
  show(if r<0 then (r+(↥xs:Int)).toNat else min r.toNat ↥xs)=_
  grind
 unfold cutD;rw[HT.vi,e1,List.take_of_length_le]
 grind
mutual
theorem cr.SJ:∀{v:V}{d:PyData},cr g v d->∃n:Nat,∀b,n<=b->fX b g v d
 |_,_,.cj=>⟨0,λb _=>.cj⟩
 |_,_,.bl c=>⟨0,λb _=>.bl c⟩
 |_,_,.int i=>⟨0,λb _=>.int i⟩
 |_,_,.str x o=>⟨0,λb _=>.str x o⟩
 |_,_,.lst (a:=a) h t=>by
  let⟨n,hn⟩:=aI.SJ t;exact⟨n+a+1,λb hb=>.lst (Ye ⋯) h (hn b ⋯)⟩
 |_,_,.tup h t=>by
  let⟨n,hn⟩:=aI.SJ t;exact⟨n,λb hb=>.tup h (hn b hb)⟩
theorem aI.SJ {g:Hp}:∀{vs:List V}{ds:Ξ1},aI g vs ds->∃n:Nat,∀b,n<=b->ci b g vs ds
 |_,_,.nil=>⟨0,λb _=>.nil⟩
 |_,_,.cons h t=>by
  let⟨n,hn⟩:=cr.SJ h;let⟨m,hm⟩:=aI.SJ t;exact⟨n+m,λb hb=>.cons (hn b ⋯) (hm b ⋯)⟩
end
def Vy (a:bu K w g vs [x]):∃v,vs=[v]/\iD K w g v x:=by
 let⟨v,us,rfl,h1,h2⟩:=a.aW;rw[h2.cC];exact⟨v,(),h1⟩
def BC (a:bu K w g vs [x,y]):∃v u,vs=[v,u]/\iD K w g v x/\iD K w g u y:=by
 let⟨v,us,rfl,h1,h2⟩:=a.aW;let⟨u,rfl,h3⟩:=Vy h2;exact⟨v,u,(),h1,h3⟩
def fT (m:PyData->Bool):FM:=λO xs P _=>match xs with
 |[.im d]=>P (.im (.bool (m d))) O
 |_=>False
def acI:uh K (spT m) (fT m):=λw O H vs xs P PX Q E r a hf q x=>by
 unfold fT at hf;split at hf
 .obtain⟨v,rfl,h1⟩:=Vy a;let⟨n,hn⟩:=cr.SJ (cr.ay qe h1);apply⟨n,v,_,(),hn n (Zf _),λH' s=>?_⟩;let⟨r1,e1,_⟩:=r.ay s;exact q _ _ O w H' hf e1 r1 (.bl _)
 .exact hf.elim
theorem fH {α : Type}{f:α->PyData}(h:∀a,C4 (f a)):∀xs:List α,sd (xs.map f)
 |[]=>rfl
 |a::xs=>by show(C4 (f a)&&sd (xs.map f))=true;rw[h a,fH h xs];rfl
def Mg (q:Rat):C4 (qD q):=rfl
def sF (qs:Δ1):C4 (.tuple (qs.map qD)):=fH Mg qs
def AD (r:Γ3):C4 (bi r):=fH (f:=PyData.int) (λ_=>rfl) r
def EY (A:Γ3)(Pu:Δ1)(W:Γ1):C4 (dJ A Pu W):=by
 show(sd (A.map .int)&&(sd (Pu.map qD)&&(sd (W.map bi)&&true)))=true;rw[fH (f:=PyData.int) (λ_=>rfl),fH Mg,fH AD];rfl
def ZL (b:Addr)(h:cr (G w O H) v d)(n:C4 d):fX b H v d:=cr.SW n (cr.ay qe h)
def ZM (r:aE K w O H)(h:fX b H v d)(n:C4 d):cr (G w O H) v d:=ni r.nT n h
end
section
def gL (Pu:Δ1):rM (Pu.map qD)=Pu:=by
 unfold rM;rw[Zp];have:(Sa ∘ qD)=id:=funext λq=>iW q
 simp_all
def Np (W:Γ1):rowsOf (W.map bi)=W:=by
 unfold rowsOf;rw[Zp];have:(uQ ∘ bi)=id:=funext λr=>by
  show(r.map PyData.int).map br=r;rw[Zp];have:(br ∘ PyData.int)=id:=rfl
  simp_all
 simp_all
def oY (A:Γ3):(A.map PyData.int).map br=A:=by
 rw[Zp];have:(br ∘ PyData.int)=id:=rfl
 simp_all
def Ob (b:Addr)(h:cr (G w O H) v (dJ A Pu W))(m:cK (dJ A Pu W)) :
  ∃p pa pp pw xa xp xw,v=.ref p/\eN b H p pa pp pw xa xp xw (A.map .int) (Pu.map qD) (W.map bi)/\↥xa=↥A/\↥xp=↥Pu:=by
 let t:=ZL b h (EY A Pu W);cases v with
 |ref p =>
  let⟨pa,pp,pw,xa,xp,xw,mk⟩:=eN.of t m;exact⟨p,pa,pp,pw,xa,xp,xw,(),mk,by rw[mk.ta.len,Zb],by rw[mk.tp.len,Zb]⟩
 |_=>cases t
def acx (b:Addr)(h:cr (G w O H) v (.tuple (qs.map qD)))(hb:∀z∈qs,Rb 2010000 z):∃q ys,v=.ref q/\BE b H q ys qs:=by
 cases ZL b h (sF qs) with |tup h1 h2=>exact⟨_,_,rfl,h1,h2,hb⟩
structure oJ (A:Γ3)(Pu:Δ1)(W:Γ1)(qs:Δ1):Prop where
 ok:cK (dJ A Pu W)
 len:↥qs=↥A
 gW:HB W qs
 bd:∀z∈qs,Rb 2010000 z
def OA:FM:=λO xs P _=>∃ns:Γ3,xs=[.yT ns]/\↥ns<=63/\∀O',P (.im (.bool true)) O'
def RB (F:aF Pg wo K mg base bX k f fd ["script"] (cF K OA)):aF Pg wo K mg base bX k f fd ["script"] (zi K):=F.imp λvs H Q E ⟨a,ns,e,hS,hl,hq⟩=>by
 subst e;let dh:∀x,¬ jK ⟨[],[],[],[]⟩ [] x:=λx h=>by
  rcases h with h |⟨o,h⟩ |⟨k,c,h,_⟩
  .cases h
  .cases h
  .simp at h
 let sg:az H (G ⟨[],[],[],[]⟩ [] H):=λx o h=>by rw[hG (dh x)];exact h
 apply⟨⟨[],[],[],[]⟩,[],[.yT ns],λz _=>z=.im (.bool true),λ_ _=>False,⟨(),Qa,λa h=>(by cases h),λa h=>(by cases h),Qa,λp h=>(by cases h),λa h=>(by cases h),λk c h=>(by simp at h),λk h=>(by cases h)⟩,bu.cons ⟨a,(),KG.bI.ay hS sg⟩ bu.nil,⟨ns,(),hl,λO'=>rfl⟩,λz q O' w' H' hz e r av=>?_,λc O' w' H' h=>h.elim⟩;subst hz;rw[DX av];exact hq H'
end
def cI (r:Γ3):Option (List AV):=↑(r.map λx=>AV.im (.int x))
def rZ (k n:Nat):List AV:=(~~~n).map λt=>AV.own (k+t)
def B9 (k n:Nat):rZ k (n+1)=rZ k n++[AV.own (k+n)]:=by unfold rZ;rw[Xb,Zs];rfl
def Gk (k n:Nat):rZ k n=((~~~n).map λt=>k+t).map AV.own:=by unfold rZ;rw[Zp];rfl
def nk {α : Type}(O:List α)(x y:α):(O++[x]).set ↥O y=O++[y]:=by rw[List.set_append,aga ⋯,Qe];rfl
def lR {α : Type}(O:List α)(x:α):(O++[x])[↥O]?=↑x:=by simp
def K8 {α β : Type}(f:α->β)(O:List β)(x:β)(W:List α)(i:Nat)(d:α)(h:i<↥W):(O++(W.map f++[x]))[↥O+i]?=↑(f (W.getD i d)):=by
 rw[Yh ⋯,Nat.add_sub_cancel_left,Zr ‹h›];exact ky h
def He {α β : Type}(f:α->β)(O:List β)(x:β)(W:List α):(O++(W.map f++[x]))[↥O+↥W]?=↑x:=by
 rw[Yh ⋯,Nat.add_sub_cancel_left,Yh (by simp)];simp
def zE (h:i<n):ur n (i:Int)=↑i:=by unfold ur;rw[aha ⋯,aha ⋯,Zy]
def sA (r:Γ3)(j:Nat)(x:Int):((r.map λx=>AV.im (.int x)).set j (.im (.int x)))=(r.set j x).map λx=>AV.im (.int x):=by rw[List.map_set]
def Lv {α β : Type}(f:α->β)(xs:List α)(d:α):(~~~↥xs).map (λi=>f (xs.getD i d))=xs.map f:=by
 apply Qn;intro j;rw[Zo];rcases Yb j ↥xs with y |y
 .rw[Yt y,ky (d:=d) y];rfl
 .rw[Yu ‹y›,Yu ‹y›];rfl
def sq (h:(w8 ds es)[i]?=↑x):i<↥ds/\x=.im (.tuple [ds.getD i .none,es.getD i .none]):=by
 unfold w8 at h;let hi:i<↥ds:=by have:=(Zg.mp h).1;simpa using this
 rw[Zo,Yt hi] at h;exact⟨hi,(aaa h).symm⟩
def Hj (ds es:Ξ1):↥(w8 ds es)=↥ds:=by unfold w8;simp
structure pS (O:aX)(k:Nat)(ks:List Nat)(W:Γ1):Prop where
 hd:O[k]?=↑↑(ks.map AV.own)
 len:↥ks=↥W
 row:∀i,i<↥W->O[ks\i]?=↑(cI (W∩i))
def mem_getD {ks:List Nat}(h:i<↥ks):ks\i∈ks:=by
 rw[ao (Zc h)];exact Zw h
def pS.app (t:pS O k ks W)(c:Option (List AV)):pS (O++[c]) k ks W:=by
 apply⟨?_,t.len,λi hi=>?_⟩
 .rw[Zr (Zg.mp t.hd).1];exact t.hd
 .rw[Zr (Zg.mp (t.row i hi)).1];exact t.row i hi
def pS.other {O:aX}(t:pS O k ks W)(c:Option (List AV))(h:m∉k::ks):pS (O.set m c) k ks W:=by
 apply⟨?_,t.len,λi hi=>?_⟩
 .rw[Z8 (λe=>h (by rw[e];exact Zk))];exact t.hd
 .rw[Z8 (λe=>h (by rw[e];exact Zi _ (mem_getD (by rw[t.len];exact hi))))];exact t.row i hi
def pS.put {O:aX}(t:pS O k ks W)(r:Γ3)(hi:i<↥W)(nd:(k::ks).Nodup):pS (O.set (ks\i) (cI r)) k ks (W.set i r):=by
 let hn:=Yc.mp nd;let hik:i<↥ks:=by rw[t.len];exact hi
 apply⟨?_,by rw[Yi];exact t.len,λj hj=>?_⟩
 .rw[Z8 (λe=>hn.1 (by rw[<- e];exact mem_getD hik))];exact t.hd
 .rw[Yi] at hj;let hjk:j<↥ks:=by rw[t.len];exact hj
  by_cases e:i=j
  .subst e;rw[Yq (Zg.mp (t.row i hi)).1];have:(W.set i r)∩i=r:=by rw[List.getD,Yq hi];rfl
   rw[this]
  .have:(W.set i r)∩j=W∩j:=by rw[List.getD,Z8 e];rfl
   rw[this,Z8 (λz=>e ?_)]
   .exact t.row j hj
   .rw[ao (Zc hik),ao (Zc hjk)] at z;exact(List.getElem_inj hn.2).mp z
section
end
section
end
section
end
def eI (B:Γ1)(i j:Nat):Int:=(B∩i)\j
structure One (O O':aX)(k:Nat)(ks:List Nat)(W:Γ1):Prop where
 lI:cL O O'
 ge:∀x∈k::ks,↥O<=x
 nd:(k::ks).Nodup
 t:pS O' k ks W
def One.iK {O O':aX}{k i:Nat}{ks:List Nat}{W:Γ1}{sl:g9}{M:MS}{E:zV}(h:One O O' k ks W)(hs:sl[i]?=↑↑(.own k))(hm:∀O2,cL O O2->M E (sl.set i ↑(.im (.list (W.map λr=>.list (r.map .int))))) O2):El i M E sl O':=by
 apply⟨k,ks,W.map (λr=>r.map .int),hs,h.t.hd,by rw[Zb];exact h.t.len,λj kj hj=>?_,?_⟩
 .let hjk:=(Zg.mp hj).1;let hjW:j<↥W:=by rw[<- h.t.len];exact hjk
  have:=h.t.row j hjW;rw[ao hj] at this;rw[this,jY (a:=[]) hjW,Zp];rfl
 .rw[Zp];exact hm _ (cL.none h.lI λx hx=>h.ge x hx)
section
end
def K2 (xs:Ξ1):DG (.list xs) (.list [])=xs.isEmpty:=by
 rw[sS];cases xs<;>rfl
def uO (g:Nat)(W:Γ1):Γ3:=((~~~g).filter (has W)).map λj:Nat=>(j:Int)
def kK {W:Γ1}(h:((W.map bi).map AV.im)[i]?=↑x):i<↥W/\x=.im (.tuple ((W∩i).map .int)):=by
 let hi:i<↥W:=by have:=(Zg.mp h).1;simpa using this
 rw[Zo,ky (d:=[]) hi] at h;exact⟨hi,(aaa h).symm⟩
section
end
def yG (h1:cL O O1)(h2:cL O1 O2):cL O O2:=by
 let⟨t,rfl⟩:=h1;let⟨u,rfl⟩:=h2;exact⟨t++u,by rw[Yp]⟩
def DY:FM:=λO xs P _=>∃(A:Γ3) (Pu:Δ1) (W:Γ1),xs=[.im (dJ A Pu W)]/\↥A<=6/\↥W<=6/\(∀i,i<↥W->↥(W∩i)=↥A)/\P (.im (.tuple ((uO ↥A W).map .int))) O
abbrev NWp:Δ2:=["market","amounts","purses","wishes"]
def UT:MS:=(aU (bv (ah 0) (lz 3 (aG (aY 1) (aG (aY 2) (aG (aY 3) cx)))))
 (cO (kw kC (af (cH 1 [3] (nV (af (kw uF (af (ah 1) ar)) ar)) (aY 0) (eM (kw D3 (af (cH 1 [0] (c7 (ah 1)) (aY 0) d7 (bA NN (bA cG (ah 0) (ah 1)) (mC (.int 0)))) ar))) (ah 0)) ar))))
def K9:(W.map λr:Γ3=>decide (0<r\j)).any id=has W j:=by
 unfold has;rw[X7];rfl
def PP:∀O xs Pq QX,DY O xs Pq QX->UT Pq⁻¹ (be NWp xs) O:=by
 intro O xs Pq QX h;let⟨A,Pu,W,rfl,g6,n6,hr,h⟩:=h;apply⟨(),⟨⟨by rw[Zb];omega,by rw[Zb];omega⟩,Sf (has W) (λj=>.int (j:Int)) (by rw[yY,Zb];omega) (λj x Z hx hZ=>?_) (λj x Z hx _ hZ=>?_) ?_⟩⟩
 .obtain⟨hj,rfl⟩:=il hx;rw[Zb,Zy] at hj;conv=>whnf
  apply comp_map (λi=>.bool (decide (0<(W∩i)\j))) (by simp;omega) (λi x Z hx hZ=>?_) ?_
  .obtain⟨hi,rfl⟩:=kK hx;exact⟨_,bB (ky (f:=PyData.int) (d:=0) (by rw[hr i hi];omega)),hZ⟩
  .apply⟨W.map λr=>decide (0<r\j),?_,?_⟩
   .rw[Zb,Zb,Lv (λr:Γ3=>PyData.bool (decide (0<r\j))) W [],Zp];rfl
   .rw[K9];exact hZ
 .obtain⟨hj,rfl⟩:=il hx;exact hZ
 .rw[yY,Zb,Zy];unfold uO at h;rw[Zp] at h;exact h
section
end
section
def gP (f:Nat->PyData)(a b:Nat->PyData)(hl:↥items<=1000000)(hi:∀(i:Nat) (x:AV),items[i]?=↑x->x=.im (.tuple [a i,b i]))
  (hs:∀(i:Nat) (Z:AV->aX->Prop),i<↥items->Z (.im (f i)) O->M (((fQ n ix sl).set 0 ↑(.im (a i))).set 1 ↑(.im (b i))) O Z)
  (hd:Q (.im (.list ((~~~↥items).map f))) O):CB n ix (lz 2 (aG (aY 0) (aG (aY 1) cx))) d7 M sl Q items O:=by
 apply⟨hl,λi ds O'=>O'=O/\ds=(~~~i).map f,⟨(),()⟩,?_,λds O' ⟨e,h1⟩=>by rw[e,h1];exact hd⟩;rintro i x ds O' hx ⟨rfl,rfl⟩;let cN:=(Zg.mp hx).1;rw[hi i x hx];apply⟨(),λ_=>hs i _ cN ⟨(),by rw[Xb,Zs];rfl⟩,λz=>(by cases z)⟩
end
def jw (h:(c8 ds)[i]?=↑x):i<↥ds/\x=.im (.tuple [.int (i:Int),ds.getD i .none]):=by
 unfold c8 at h;let hi:i<↥ds:=by have:=(Zg.mp h).1;simpa using this
 rw[Zo,Yt hi] at h;exact⟨hi,(aaa h).symm⟩
section
def dj (C:bP X.K X.mg X.prog X.w X.base x k ps sp f fd)(lk:uh K sp F)(hr:c6 n X.A)
  (ha:PA X (e::es) (ud K QX E Ms)) (hn:k<=n:=by decide) (hg:Gl X x:=by rfl) (wW:(x == ("__debug__" : Str))=false:=by decide) (he:starEach (e::es) X.env=(false,eval e X.env)::starEach es X.env:=by rfl) (mU:(backTo pos (starEach es X.env)).any (·.1)=false:=by rfl) :
  PE X (.Call (.Name x p) (e::es) [] pos) (bQ K QX E (aC F cE Ms)):=GH C.ok lk (hr.mono hn) hg C.mg C.kp C.bd ha wW he mU
def mv (i:Nat)(hN:X.N[i]?=↑x:=by rfl)(hv:T7 X.env.scope x:=by first |exact Or.inl rfl |exact Or.inr (Or.inl rfl) |exact Or.inr (Or.inr rfl))(hd:(x == ("__debug__" : Str))=false:=by decide)
  (wX:(x == ("__classdict__" : Str))=false:=by decide):PE X (.Name x pos) (bQ K QX E (ah i)):=Ro (pv i hN hv hd wX)
def gz (hN:X.N.Nodup)(he:PE X e (bQ K QX E M))(hi:X.N[i]?=↑x:=by rfl)(hx:Loc X.env.scope x:=by exact Or.inl rfl)(hs:swapsWith e ↑(.Name x lF) pos.line X.env=pure false:=by rfl)(hf:X.fn x\/X.env.scope.names.lookup x=some .local:=by first |exact .inl rfl |exact .inr rfl |assumption) :
  PS X (.Assign [.Name x lF] e pos) (jI K QX E (bv M (aY i))):=ii hN hi hx he hs hf
def d5 (hN:X.N.Nodup)(hi:X.N[i]?=↑x:=by rfl)(hx:Loc X.env.scope x:=by exact Or.inl rfl)(hf:X.fn x\/X.env.scope.names.lookup x=some .local:=by first |exact .inl rfl |exact .inr rfl |assumption):PG X (.Name x pos) (mq K QX E (aY i)):=ir (gZ hN hi hx hf)
end
end MI
namespace L2
def kB (sp:Sp):Sp:=λvs H Q _=>sp vs H Q E0
def sC:PS X st (λ_ _ _=>False):=λae s σ H D I h=>h.elim
end L2
namespace MI
open L2 KG EX KM
section
def Dt (C:bP X.K X.mg X.prog X.w X.base x k ps (kB sp) f fd)(lk:uh K sp F)(hr:c6 n X.A)
  (ha:PA X (e::es) (ud K QX E Ms)) (hn:k<=n:=by decide) (hg:Gl X x:=by rfl) (wW:(x == ("__debug__" : Str))=false:=by decide) (he:starEach (e::es) X.env=(false,eval e X.env)::starEach es X.env:=by rfl) (mU:(backTo pos (starEach es X.env)).any (·.1)=false:=by rfl) :
  PE X (.Call (.Name x p) (e::es) [] pos) (bQ K QX E (aC F cE Ms)):=PE.imp (eu C.ok (hr.mono hn) hg C.mg C.kp C.bd (Hz:=[]) .nil aQ ha wW he mU) λσ H Q h9=>h9.o λw O sl Q0 c m q=>⟨w,O,sl,_,c,m,λxs O1 vs w1 H1 h1 e1 r1 a1=>by
 show sp (vs++[]) H1 Q E0;rw[Yn];exact lk w1 O1 H1 vs xs _ cE Q E0 r1 a1 h1 (λz z' O3 w3 H3 h3 e3 r3 a3=>q _ O3 z w3 H3 h3 (e1.trans e3) r3 a3) λk O' w' H' qx e' r'=>qx.elim⟩
end
end MI
namespace Bq
open L2 KG EX KM
def top (i:Nat):Stmt:=PySem.Challenge.pw_wishmart_k36_whole_growing_purses.main.body.getD i (.Pass ⟨0,0,0,0⟩)
section
variable {P:Program}{w:World}{K:Θ1}{mg:Θ3}{base:Heap}
def Ju:ak ["thing"] ["thing"] (bD (top 7)):=L2.di
def Gq {f:Addr}{fd:FuncData}(F:cU K "is_whole" "is_whole" (top 7) f fd)(N:Nm mg)(Z:Dm K):aF P w K mg base bX 1 f fd ["thing"] (spT iu):=by
 apply F.ok Ju (λvs H Q E h=>?_) (λbG A outer s H vs Q E hr h=>?_)
 .obtain⟨b,v,d,rfl,_⟩:=h;rfl
 .obtain⟨b,v,d,rfl,hT,k⟩:=h;apply⟨_,de (eG (lN (rY K (pv 0) rfl N.isinstance rfl N.int boot_int HH) (lM (QD (rY K (pv 0) rfl N.isinstance rfl N.bool boot_bool HH))))),?_⟩;let⟨t1,wP,e1⟩:=isi Z hT;let⟨t2,ty2,e2⟩:=isb Z hT;apply⟨_,(),t1,_,wP,e1,_,(),?_⟩;let hk:=k H (az.refl H);rw[yA] at hk;cases hi:ν d with
  |true =>
   rw[hi] at hk;apply bE ⟨_,(),t2,_,ty2,e2,_,(),hk⟩
  |false =>
   rw[hi] at hk;exact bN hk
def LU:ak ["one","other"] ["one","other"] (bD (top 9)):=L2.di
def QY {f:Addr}{fd:FuncData}(F:cU K "common_divisor" "common_divisor" (top 9) f fd)(N:Nm mg):aF P w K mg base bX 1 f fd ["one","other"] LP:=by
 apply F.ok LU (λvs H Q E h=>?_) (λbG A outer s H vs Q E hr h=>?_)
 .obtain⟨t,u,rfl,_⟩:=h;rfl
 .obtain⟨t,u,rfl,u0,k⟩:=h;apply⟨_,eJ (kY ama (nR mF (pv 1) bL (aL _)) (de (sB (i:=0) (j:=1) rfl LU.nd rfl rfl ∅ rfl rfl (aZ (pv 1) (aZ (dQ ib (pv 0) (pv 1)) bU)) (by rfl))))
   (de (eG (mw o7 (by rfl) N.abs boot_abs (aZ (pv 0) bU)))),?_⟩
  apply oM (λσ H'=>H'=H/\∃a c:Int,σ=[↑(.int a),↑(.int c)]/\0<=c/\Int.gcd a c=Int.gcd t u)
   (λσ _=>match σ with |[_,some (.int c)]=>c.toNat |_=>0) ⟨rfl,t,u,rfl,u0,rfl⟩ ?_ ?_
  .rintro σ H' ⟨rfl,a,c,rfl,c0,e⟩;apply⟨_,(),(),_,(),?_⟩;by_cases hc:c=0
   .subst hc;apply bN ?_;apply⟨_,(),_,(),?_⟩;rw[La,e];exact k
   .let e1:(!decide (V.int c=V.int 0))=true:=by simp[hc]
    rw[e1];apply bE ?_;let cp:0<c:=⋯;apply⟨_,(),_,(),_,(),_,_,(),(),cp,_,_,(),⟨(),c,a % c,(),Qt _ hc,GW.trans e⟩,?_⟩;let h1:=Jc a cp;let h2:=Qt a hc;show(a % c).toNat<c.toNat;omega
  .rintro σ H' Q1 Q2 se ⟨v,e,sc,kk,ek,q⟩;exact⟨v,e,sc,kk,ek,se _ _ q⟩
def xy:ak ["thing","top","bottom"] ["thing"] (bD (top 8)):=L2.di
def Ce {f fW fG:Addr}{fd dW dG:FuncData}(F:cU K "is_fraction" "is_fraction" (top 8) f fd)(N:Nm mg)(Z:Dm K)(W:bP K mg P w base "is_whole" 1 ["thing"] (spT iu) fW dW)(G:bP K mg P w base "common_divisor" 1 ["one","other"] LP fG dG):aF P w K mg base bX 2 f fd ["thing"] (spT bJ):=by
 apply F.ok xy (λvs H Q E h=>?_) (λbG A outer s H vs Q E hr h=>?_)
 .obtain⟨b,v,d,rfl,_⟩:=h;rfl
 .obtain⟨b,v,d,rfl,hT,k⟩:=h;apply⟨_,eJ (lA (PW.pt (pw_or (rL (uf (rY K (pv 0) rfl N.isinstance rfl N.tuple pL HH))) (pw_or1 (nR mF (mw eQ (by rfl) N.len Yj (aZ (pv 0) bU)) bL (aL _))))) (de (eG iF)) lC)
   (eJ (iX (pv 0) (ia rfl (rN (gZ (i:=1) xy.nd rfl (Or.inl rfl)) (rN (gZ (i:=2) xy.nd rfl (Or.inl rfl)) fb))))
   (eJ (lA (PW.pt (pw_or (rL (uf (eu W.ok hr rfl W.mg W.kp W.bd .nil aQ (aZ (pv 1) bU)))) (pw_or1 (rL (uf (eu W.ok hr rfl W.mg W.kp W.bd .nil aQ (aZ (pv 2) bU))))))) (de (eG iF)) lC)
   (de (eG (lN (fc WA (pv 2) bL (aL _)) (lM (fc oh (eu G.ok hr rfl G.mg G.kp G.bd .nil aQ (aZ (pv 1) (aZ (pv 2) bU))) bL (aL _)))))))),?_⟩
  let⟨t1,wP,e1⟩:=Nt Z hT;apply⟨_,(),t1,_,wP,e1,_,(),?_⟩;let hk:=k H (az.refl H);rcases ik hT with hn |⟨a,xs,ds,rfl,rfl,ha,hs⟩
  .rw[hn];rw[Cy hn] at hk;exact bE (bE hk)
  apply bN ?_;apply⟨_,(),a,xs,(),.inr (aN.of ha),(),_,(),?_⟩;by_cases hl:↥xs=2
  case neg =>
   let e2:(!decide (V.int (↥xs:Int)=V.int 2))=true:=kH (b:=2) hl;rw[e2];let TC:↥ds≠2:=by rw[<- hs.len];exact hl
   let e3:bJ (.tuple ds)=false:=yC TC;rw[e3] at hk;exact bE hk
  let e2:(!decide (V.int (↥xs:Int)=V.int 2))=false:=by rw[hl];rfl
  rw[e2];apply bN ?_;let⟨x,y,dx,dy,rfl,rfl,hx,hy⟩:=vc hs hl;apply⟨_,(),a,_,(),aN.of ha,(),_,_,(),_,_,(),(),?_⟩;apply⟨_,(),b,x,dx,(),hx,λH1 s1=>?_⟩;apply⟨_,(),?_⟩;rcases kP hx with hn |⟨i,rfl,rfl⟩
  .rw[hn];apply bE (bE ?_);let e3:bJ (.tuple [dx,dy])=false:=by cases dx<;>first |rfl |cases hn
   rw[e3] at k;exact k H1 s1
  apply bN ?_;apply⟨_,(),b,y,dy,(),hy.ay s1,λH2 s2=>?_⟩;apply⟨_,(),?_⟩;rcases kP hy with hn |⟨j,rfl,rfl⟩
  .rw[hn];apply bE ?_;let e3:bJ (.tuple [.int i,dy])=false:=by cases dy<;>first |rfl |cases hn
   rw[e3] at k;exact k H2 (s1.trans s2)
  apply bN ?_;apply⟨_,(),_,_,(),(),_,(),?_⟩;let NC:Q (.bl (decide ((1:Int)<=j)&&decide (Int.gcd i j=1))) H2:=k H2 (s1.trans s2);by_cases hj:1<=j
  .let e4:decide ((1:Int)<=j)=true:=by simpa using hj
   rw[e4] at NC ⊢;apply bE ⟨_,(),_,(),i,j,(),⋯,(),?_⟩;let e5:decide (V.int ((Int.gcd i j:Nat):Int)=V.int 1)=decide (Int.gcd i j=1):=by
    rw[decide_eq_decide];constructor
    .intro h;injection h with h;omega
    .intro h;rw[h];rfl
   rw[e5];simpa using NC
  .let e4:decide ((1:Int)<=j)=false:=by simpa using hj
   rw[e4] at NC ⊢;exact bN NC
def EL:ak ["bag","many","found"] ["bag","many"] (bD (top 75)):=L2.di
def J5 {f:Addr}{fd:FuncData}(F:cU K "_law_take" "_law_take" (top 75) f fd):aF P w K mg base bX 1 f fd ["bag","many"] lK:=by
 apply F.ok EL (λvs H Q E h=>?_) (λbG A outer s H vs Q E hr h=>?_)
 .obtain⟨b,m,rfl,_⟩:=h;rfl
 .obtain⟨b,m,rfl,⟨c,d,hb⟩,h0,h1,k⟩:=h;apply⟨_,eJ (lA (nR jS (fV uG (pv 0) bL (λ_ _=>rfl)) bL (aL _))
    (eJ (qr (i:=2) EL.nd rfl (Or.inl rfl) (dQ ib (fV uG (pv 0) bL (λ_ _=>rfl)) (pv 1)))
     (eJ (iX (dQ tD (fV uG (pv 0) bL (λ_ _=>rfl)) (pv 1)) (xz (pv 0) bL kW)) (de (eG (pv 2))))) lC)
   (eJ (iX (dQ ib (dQ iZ (fV uG (pv 0) bL (λ_ _=>rfl)) bL) bL) (xz (pv 0) bL kW))
    (de (eG (dQ ib (dQ tD (dQ ib (dQ iZ (dQ tD (fV uG (pv 0) bL (λ_ _=>rfl)) bL) (dQ eF (dQ ib (fV uG (pv 0) bL (λ_ _=>rfl)) bL) bL)) bL) bL) (pv 1))))),?_⟩
  apply⟨_,(),b,_,_,_,(),(),bI.of hb,(),_,_,(),(),_,(),?_⟩;apply BA (λhc=>?_) (λhc=>?_)
  .apply⟨_,(),b,_,_,_,(),(),bI.of hb,(),_,(),_,_,(),(),h0,?_⟩;apply⟨_,(),b,_,_,_,(),(),bI.of hb,(),_,(),_,_,(),(),⟨h0,h1⟩,?_⟩;apply⟨_,(),b,_,_,0,(),(),hb,(),?_⟩;apply⟨_,(),k _ _ (Qt _ ⋯) (Jc _ h0) ⟨_,_,eC⟩ (Kp.refl b H).bag⟩
  .apply⟨_,(),b,_,_,_,(),(),bI.of hb,(),_,_,(),(),.inr ⟨∅,∅⟩,_,_,(),(),(by show(0:Int)<2147483647;decide),?_⟩;apply⟨_,(),b,_,_,1,(),(),hb,(),?_⟩;let pP:(aP H b (.lst [V.int c,V.int (d*48271 % 2147483647)])) b=↑(.lst [V.int c,V.int (d*48271 % 2147483647)]):=eC;apply⟨_,(),b,_,_,_,(),(),bI.of pP,(),_,_,(),(),⟨∅,∅⟩,?_⟩;apply⟨_,(),b,_,_,_,(),(),bI.of pP,(),_,_,(),(),(by show(0:Int)<32749;decide),_,_,(),(),?_⟩;apply⟨_,_,(),(),.inr ⟨?_,?_⟩,?_⟩
   .have:=Qt (d*48271 % 2147483647) (show(32749:Int)≠0 by decide);omega
   .have:=Jc (d*48271 % 2147483647) (show(0:Int)<32749 by decide);omega
   apply⟨_,_,(),(),(by show(0:Int)<2147483629;decide),_,_,(),(),⟨∅,∅⟩,_,(),_,_,(),(),h0,?_⟩;exact k _ _ (Qt _ ⋯) (Jc _ h0) ⟨_,_,eC⟩ (Kp.refl b H).bag
def zn:ak ["script","k","cell","seed"] ["script","k"] (bD (top 74)):=L2.di
def Re {f:Addr}{fd:FuncData}(F:cU K "_law_bag" "_law_bag" (top 74) f fd)(B:Nm mg):aF P w K mg base bX 1 f fd ["script","k"] (Ed K):=by
 apply F.ok zn (λvs H Q E h=>?_) (λbG A outer s H vs Q E hr h=>?_)
 .obtain⟨a,ns,k,rfl,_⟩:=h;rfl
 .obtain⟨a,ns,k,rfl,hS,h0,h1,q⟩:=h;apply⟨_,eJ (qr (i:=2) zn.nd rfl (Or.inl rfl) bL)
   (eJ (lA (nR qE (pv 1) (mw iC (by rfl) B.len Yj (aZ (pv 0) bU)) (aL _))
    (de (qr (i:=2) zn.nd rfl (Or.inl rfl) (dQ ib (fV AR (pv 0) (pv 1) (λ_ _=>rfl)) (dQ oz bL bL)))) lC)
   (eJ (qr (i:=3) zn.nd rfl (Or.inl rfl) (dQ eF bL (dQ ib (dQ eF (dQ eF (dQ eF (dQ iZ (dQ ib (pv 2) bL) bL) (dQ iZ (dQ iZ bL (pv 1)) (pv 1))) (dQ iZ bL (pv 1))) bL) bL)))
   (eJ (lA (nR qE (pv 2) (dQ oz bL bL) (aL _)) (de (eG (sE (aZ bL (aZ (pv 3) bU))))) lC)
   (de (eG (sE (aZ (pv 2) (aZ (pv 3) bU)))))))),?_⟩
  apply⟨_,(),_,(),a,_,(),.inl hS,_,_,(),(),_,(),?_⟩;apply BA (λhc=>?ab7) (λhc=>?ak8)
  case' ab7 =>
   let hk:k<(↥ns:Int):=by simpa using aia hc
   let uv:gh (ns.map V.int) k=↑(V.int (ns\k.toNat)):=by
    let e:(ns.map V.int)[k.toNat]?=↑(V.int (ns\k.toNat)):=by
     let hl:k.toNat<↥ns:=⋯;rw[Zo,Zc hl];simp[List.getD,Zc hl]
    have:=nO e;rw[Xa h0] at this;exact this
   apply⟨_,(),_,(),a,_,_,_,(),(),hS,uv,_,_,(),(),⟨∅,∅,∅⟩,_,_,(),(),(by show(0:Int)<10 ^ 60;decide),?_⟩
  all_goals
   apply⟨_,(),_,_,(),(),(by show(0:Int)<2147483629;decide),_,_,(),(),.inr ⟨∅,∅⟩,?_⟩;apply⟨_,(),_,_,(),(),.inl ⟨∅,∅⟩,_,(),_,_,(),(),.inr ⟨⋯,⋯⟩,_,_,(),(),?_⟩;apply⟨_,(),_,_,(),(),.inl ⟨∅,∅⟩,_,_,(),(),_,_,(),(),_,_,(),(),(by show(0:Int)<2147483645;decide),_,_,(),(),?_⟩;apply⟨_,(),_,_,(),(),⟨∅,∅,∅⟩,_,_,(),(),_,(),?_⟩;apply BA (λhc=>?_) (λhc=>?_)
   .exact⟨_,(),by show 2<=sizeLine;decide,λp hp=>q p _ _ hp⟩
   .exact⟨_,(),_,(),by show 2<=sizeLine;decide,λp hp=>q p _ _ hp⟩
def vh:ak ["bag","way"] ["bag"] (bD (top 84)):=L2.di
def Cd {f fT fF:Addr}{fd dT dF:FuncData}(F:cU K "_law_purse" "_law_purse" (top 84) f fd)(T:bP K mg P w base "_law_take" 1 ["bag","many"] lK fT dT)(R:bP K mg P w base "_law_frac" 1 ["top","bottom"] EJ fF dF):aF P w K mg base bX 2 f fd ["bag"] N2:=by
 apply F.ok vh (λvs H Q E h=>?_) (λbG A outer s H vs Q E hr h=>?_)
 .obtain⟨b,rfl,_⟩:=h;rfl
 .obtain⟨b,rfl,hb,k⟩:=h;apply⟨_,eJ (qr (i:=1) vh.nd rfl (Or.inl rfl) (eu T.ok hr rfl T.mg T.kp T.bd .nil aQ (aZ (pv 0) (aZ bL bU))))
   (eJ (lA (nR oh (pv 1) bL (aL _)) (de (eG (iY (aZ (dQ eF bL (eu T.ok hr rfl T.mg T.kp T.bd .nil aQ (aZ (pv 0) (aZ bL bU)))) (aZ bL bU))))) lC)
   (eJ (lA (nR oh (pv 1) bL (aL _)) (de (eG (iY (aZ (dQ eF bL (eu T.ok hr rfl T.mg T.kp T.bd .nil aQ (aZ (pv 0) (aZ (dQ oz bL bL) bU)))) (aZ bL bU))))) lC)
   (eJ (lA (nR oh (pv 1) bL (aL _)) (de (eG (eu R.ok hr rfl R.mg R.kp R.bd .nil aQ (aZ (dQ eF bL (eu T.ok hr rfl T.mg T.kp T.bd .nil aQ (aZ (pv 0) (aZ (dQ oz bL bL) bU)))) (aZ (dQ eF bL (eu T.ok hr rfl T.mg T.kp T.bd .nil aQ (aZ (pv 0) (aZ (dQ oz bL bL) bU)))) bU))))) lC)
   (de (eG (eu R.ok hr rfl R.mg R.kp R.bd .nil aQ (aZ (dQ eF bL (eu T.ok hr rfl T.mg T.kp T.bd .nil aQ (aZ (pv 0) (aZ bL bU)))) (aZ (dQ eF bL (eu T.ok hr rfl T.mg T.kp T.bd .nil aQ (aZ (pv 0) (aZ bL bU)))) bU)))))))),?_⟩
  apply⟨_,(),b,_,(),hb,∅,∅,λr H1 r0 r1 m9 XV=>?_⟩;apply⟨_,(),(),_,(),BA (λ_=>?_) (λ_=>?_)⟩
  .apply⟨_,(),b,_,(),m9,∅,∅,λr2 H2 p0 p1 pP Ni=>⟨_,_,(),(),by show 2<=sizeLine;decide,λp hp=>k _ _ _ (pP.new hp) ((XV.trans Ni).new hp) HX (qW ⋯ ⋯)⟩⟩
  apply⟨_,(),(),_,(),BA (λ_=>?_) (λ_=>?_)⟩
  .apply⟨_,(),_,_,(),(),⟨∅,∅,∅⟩,b,_,(),m9,∅,∅,λr2 H2 p0 p1 pP Ni=>⟨_,_,(),(),by show 2<=sizeLine;decide,λp hp=>?_⟩⟩;let p1':r2<1000000:=p1;exact k _ _ _ (pP.new hp) ((XV.trans Ni).new hp) HX (qW ⋯ ⋯)
  apply⟨_,(),(),_,(),BA (λ_=>?_) (λ_=>?_)⟩
  .apply⟨_,(),_,_,(),(),⟨∅,∅,∅⟩,b,_,(),m9,∅,∅,λr2 H2 p0 p1 pP Ni=>⟨_,_,(),(),?_⟩⟩;apply⟨_,(),_,_,(),(),⟨∅,∅,∅⟩,b,_,(),pP,∅,∅,λr3 H3 q0 q1 hb3 ε=>⟨_,_,(),(),?_⟩⟩;let p1':r2<1000000:=p1;let q1':r3<1000000:=q1;exact⟨_,_,(),⋯,⋯,λp hp=>k _ _ _ (hb3.new hp) (((XV.trans Ni).trans ε).new hp) HX (qX ⋯ ⋯ ⋯ ⋯)⟩
  .apply⟨_,(),b,_,(),m9,∅,∅,λr2 H2 p0 p1 pP Ni=>⟨_,_,(),(),?_⟩⟩;apply⟨_,(),b,_,(),pP,∅,∅,λr3 H3 q0 q1 hb3 ε=>⟨_,_,(),(),?_⟩⟩;exact⟨_,_,(),⋯,⋯,λp hp=>k _ _ _ (hb3.new hp) (((XV.trans Ni).trans ε).new hp) HX (qX ⋯ ⋯ ⋯ ⋯)⟩
def EM:ak ["one","other"] ["one","other"] (bD (top 9)):=L2.di
def Km {f:Addr}{fd:FuncData}(F:cU K "common_divisor" "common_divisor" (top 9) f fd)(N:Nm mg):aF P w K mg base bX 1 f fd ["one","other"] su:=by
 apply F.ok EM (λvs H Q E h=>?_) (λbG A outer s H vs Q E hr h=>?_)
 .obtain⟨t,u,rfl,_⟩:=h;rfl
 .obtain⟨t,u,rfl,k⟩:=h;apply⟨_,eJ (kY ama (nR mF (pv 1) bL (aL _)) (de (sB (i:=0) (j:=1) rfl EM.nd rfl rfl ∅ rfl rfl (aZ (pv 1) (aZ (dQ Az (pv 0) (pv 1)) bU)) (by rfl))))
   (de (eG (mw o7 (by rfl) N.abs boot_abs (aZ (pv 0) bU)))),?_⟩
  apply oM (λσ H'=>H'=H/\∃a c:Int,σ=[↑(.int a),↑(.int c)]/\Int.gcd a c=Int.gcd t u)
   (λσ _=>match σ with |[_,some (.int c)]=>c.natAbs |_=>0) ⟨rfl,t,u,rfl,rfl⟩ ?_ ?_
  .rintro σ H' ⟨rfl,a,c,rfl,e⟩;apply⟨_,(),(),_,(),?_⟩;by_cases hc:c=0
   .subst hc;apply bN ?_;apply⟨_,(),_,(),?_⟩;rw[vX,e];exact k
   .let e1:(!decide (V.int c=V.int 0))=true:=by simp[hc]
    rw[e1];apply bE ?_;exact⟨_,(),_,(),_,(),_,_,(),(),hc,_,_,(),⟨(),c,a.fmod c,(),vM.trans e⟩,A0 hc⟩
  .rintro σ H' Q1 Q2 se ⟨v,e,sc,kk,ek,q⟩;exact⟨v,e,sc,kk,ek,se _ _ q⟩
def DN:ak ["top","bottom","divisor"] ["top","bottom"] (bD (top 10)):=L2.di
def wf {f fG Nn:Addr}{fd dG:FuncData}(tr:P.given.tree=none)(F:cU K "fraction" "fraction" (top 10) f fd)(UN:mg "NoNumber"=↑(.ref Nn))(exN:PySem.W.excIn K Nn [.type "ValueError",.type "Exception",.type "BaseException",.type "object"] "ValueError.__new__")(G:bP K mg P w base "common_divisor" 1 ["one","other"] su fG dG):aF P w K mg base bX 2 f fd ["top","bottom"] (kB (uA Nn)):=by
 apply F.ok DN (λvs H Q E h=>?_) (λbG A outer s H vs Q E hr h=>?_)
 .obtain⟨t,u,rfl,_⟩:=h;rfl
 .obtain⟨t,u,rfl,hb,k0,k1⟩:=h;apply⟨_,eJ (lA (nR oh (pv 1) bL (aL _)) (de (sC)) lC)
   (eJ (qr (i:=2) DN.nd rfl (Or.inl rfl) (eu G.ok hr rfl G.mg G.kp G.bd .nil aQ (aZ (pv 0) (aZ (pv 1) bU))))
   (eJ (lA (nR qE (pv 1) bL (aL _)) (de (qr (i:=2) DN.nd rfl (Or.inl rfl) (L9 EA (pv 2)))) lC)
   (de (eG (iY (aZ (dQ (gN hr (lL tr DN)) (pv 0) (pv 2)) (aZ (dQ (gN hr (lL tr DN)) (pv 1) (pv 2)) bU))))))),?_⟩
  apply⟨_,(),(),_,(),?_⟩;by_cases hu:u=0
  .subst hu;exact bE (k0 rfl)
  let e1:decide (V.int u=V.int 0)=false:=by simp[hu]
  rw[e1];apply bN ?_;apply⟨_,(),_,(),t,u,(),?_⟩;apply⟨_,(),_,_,(),(),_,(),?_⟩;let hs:=(kL (t:=t) hu).2.2.2.1;let ut:=LS (t:=t) hb hu;let⟨q1,q2⟩:=oB (T:=t) hu;let k1':∀p,H p=none->Q (.ref p) (aP H p (.tup [.int (nx t u),.int (ny t u)])):=λp hp=>by rw[q1,q2];exact k1 hu p hp
  let j3:∀d:Int,d=sg t u->(Uj (Ui (Eb (Nc (rI (λ_ j=>j≠0/\Bd 66000000 j) λi j=>.int (i.fdiv j)) (xc 0) (xc 2)) (Eb (Nc (rI (λ_ j=>j≠0/\Bd 66000000 j) λi j=>.int (i.fdiv j)) (xc 1) (xc 2)) Uk)))) { nx:=λ_ H'=>Q .cj H',rt:=Q } [↑(.int t),↑(.int u),↑(.int d)] H:=λd hd=>by
   subst hd;exact⟨_,(),_,(),_,_,(),(),⟨hs,ut⟩,_,(),_,(),_,_,(),(),⟨hs,ut⟩,by show 2<=sizeLine;decide,λp hp=>k1' p hp⟩
  by_cases hn:u<0
  .rw[aea hn];exact bE ⟨_,(),_,(),j3 _ (by unfold sg;rw[aha hn])⟩
  .rw[aja hn];exact bN (j3 _ (by unfold sg;rw[aga hn]))
def Bv:ak ["top","bottom","one","other","by"] ["top","bottom"] (bD (top 76)):=L2.di
def Mc {f:Addr}{fd:FuncData}(tr:P.given.tree=none)(F:cU K "_law_frac" "_law_frac" (top 76) f fd)(B:Nm mg):aF P w K mg base bX 1 f fd ["top","bottom"] DM:=by
 apply F.ok Bv (λvs H Q E h=>?_) (λbG A outer s H vs Q E hr h=>?_)
 .obtain⟨t,u,rfl,_⟩:=h;rfl
 .obtain⟨t,u,rfl,u0,u1,k⟩:=h;apply⟨_,eJ (sB (i:=2) (j:=3) rfl Bv.nd rfl rfl ∅ rfl rfl (aZ (pv 0) (aZ (pv 1) bU)) (by rfl))
   (eJ (kY ama (nR mF (pv 3) bL (aL _)) (de (sB (i:=2) (j:=3) rfl Bv.nd rfl rfl ∅ rfl rfl (aZ (pv 3) (aZ (dQ Az (pv 2) (pv 3)) bU)) (by rfl))))
   (eJ (qr (i:=4) Bv.nd rfl (Or.inl rfl) (dQ iZ (mw o7 (by rfl) B.abs boot_abs (aZ (pv 2) bU)) (dQ xB bL (dQ iZ bL (Sg CW (by rfl) B.int boot_int (aZ (fc qE (pv 1) bL (aL _)) bU))))))
   (de (eG (iY (aZ (dQ (gN hr (lL tr Bv)) (pv 0) (pv 4)) (aZ (dQ (gN hr (lL tr Bv)) (pv 1) (pv 4)) bU))))))),?_⟩
  let hu:u≠0:=⋯;let⟨q1,q2⟩:=oB (T:=t) hu;let k':∀p,H p=none->Q (.ref p) (aP H p (.tup [.int (nx t u),.int (ny t u)])):=λp hp=>by rw[q1,q2];exact k p hp
  let hs:=(kL (t:=t) hu).2.2.2.1;let ut:=LS (t:=t) u1 hu;let esg:(Int.gcd t u:Int)=sg t u:=by unfold sg;rw[aga ⋯]
  apply⟨_,(),_,(),_,_,(),?_⟩;apply oM (λσ H'=>H'=H/\∃a c:Int,σ=[↑(.int t),↑(.int u),↑(.int a),↑(.int c),none]/\Int.gcd a c=Int.gcd t u)
   (λσ _=>match σ with |[_,_,_,some (.int c),_]=>c.natAbs |_=>0) ⟨rfl,t,u,rfl,rfl⟩ ?_ ?_
  .rintro σ H' ⟨rfl,a,c,rfl,e⟩;apply⟨_,(),(),_,(),?_⟩;by_cases hc:c=0
   .subst hc;apply bN ?_;apply⟨_,(),_,(),_,(),_,_,(),(),.inr ⟨_,(),_,_,(),(),.inl ⟨∅,∅⟩,_,_,(),(),?_⟩⟩;let e2:decide (u<0)=false:=aja ⋯;rw[vX,e,e2,esg];let e3:sg t u*(1-2*(if false=true then (1:Int) else 0))=sg t u:=by simp
    apply⟨_,_,(),(),.inr ⟨∅,∅⟩,?_⟩;show fu 4 (V.int (sg t u*(1-2*(if false=true then (1:Int) else 0)))) _ _ _;rw[e3];exact⟨_,(),_,(),_,_,(),(),⟨hs,ut⟩,_,(),_,(),_,_,(),(),⟨hs,ut⟩,by show 2<=sizeLine;decide,λp hp=>k' p hp⟩
   .let e1:(!decide (V.int c=V.int 0))=true:=by simp[hc]
    rw[e1];apply bE ?_;exact⟨_,(),_,(),_,(),_,_,(),(),hc,_,_,(),⟨(),c,a.fmod c,(),vM.trans e⟩,A0 hc⟩
  .rintro σ H' Q1 Q2 se ⟨v,e,sc,kk,ek,q⟩;exact⟨v,e,sc,kk,ek,se _ _ q⟩
def Jt:ak ["one","other"] ["one","other"] (bD (top 11)):=L2.di
def Kb {f fF Nn:Addr}{fd dF:FuncData}(F:cU K "plus" "plus" (top 11) f fd)(G:bP K mg P w base "fraction" 2 ["top","bottom"] (kB (uA Nn)) fF dF):aF P w K mg base bX 3 f fd ["one","other"] (kB (Hf V')):=by
 apply F.ok Jt (λvs H Q E h=>?_) (λbG A outer s H vs Q E hr h=>?_)
 .obtain⟨p,q,a,b,rfl,_⟩:=h;rfl
 .obtain⟨p,q,a,b,rfl,hp,hq,⟨ba,bb⟩,⟨bc,bd⟩,k⟩:=h;let hb:=den_pos a;let hd:=den_pos b;apply⟨_,de (eG (eu G.ok hr rfl G.mg G.kp G.bd .nil aQ (aZ (dQ eF (dQ yW (fV cZ (pv 0) bL (λ_ _=>rfl)) (fV cZ (pv 1) bL (λ_ _=>rfl))) (dQ yW (fV cZ (pv 1) bL (λ_ _=>rfl)) (fV cZ (pv 0) bL (λ_ _=>rfl)))) (aZ (dQ yW (fV cZ (pv 0) bL (λ_ _=>rfl)) (fV cZ (pv 1) bL (λ_ _=>rfl))) bU)))),?_⟩;apply⟨_,(),p,_,_,_,(),(),aN.of hp,(),_,(),q,_,_,_,(),(),aN.of hq,(),_,_,(),(),⟨b3 ba,b3 bd⟩,_,(),q,_,_,_,(),(),aN.of hq,(),_,(),p,_,_,_,(),(),aN.of hp,(),_,_,(),(),⟨b3 bc,b3 bb⟩,_,_,(),(),_,(),p,_,_,_,(),(),aN.of hp,(),_,(),q,_,_,_,(),(),aN.of hq,(),_,_,(),(),⟨b3 bb,b3 bd⟩,?_⟩;exact⟨_,_,(),b6 (bb.mul bd),λh0=>afa h0 (X5 (Xz hb hd)),λ_ r mT=>by rw[tT];exact k r mT⟩
def FG:ak ["one","other"] ["one","other"] (bD (top 12)):=L2.di
def Gs {f fF Nn:Addr}{fd dF:FuncData}(F:cU K "times" "times" (top 12) f fd)(G:bP K mg P w base "fraction" 2 ["top","bottom"] (kB (uA Nn)) fF dF):aF P w K mg base bX 3 f fd ["one","other"] (kB (Hf pU)):=by
 apply F.ok FG (λvs H Q E h=>?_) (λbG A outer s H vs Q E hr h=>?_)
 .obtain⟨p,q,a,b,rfl,_⟩:=h;rfl
 .obtain⟨p,q,a,b,rfl,hp,hq,⟨ba,bb⟩,⟨bc,bd⟩,k⟩:=h;let hb:=den_pos a;let hd:=den_pos b;apply⟨_,de (eG (eu G.ok hr rfl G.mg G.kp G.bd .nil aQ (aZ (dQ yW (fV cZ (pv 0) bL (λ_ _=>rfl)) (fV cZ (pv 1) bL (λ_ _=>rfl))) (aZ (dQ yW (fV cZ (pv 0) bL (λ_ _=>rfl)) (fV cZ (pv 1) bL (λ_ _=>rfl))) bU)))),?_⟩;apply⟨_,(),p,_,_,_,(),(),aN.of hp,(),_,(),q,_,_,_,(),(),aN.of hq,(),_,_,(),(),⟨b3 ba,b3 bc⟩,_,(),p,_,_,_,(),(),aN.of hp,(),_,(),q,_,_,_,(),(),aN.of hq,(),_,_,(),(),⟨b3 bb,b3 bd⟩,?_⟩;exact⟨_,_,(),b6 (bb.mul bd),λh0=>afa h0 (X5 (Xz hb hd)),λ_ r mT=>by rw[nE];exact k r mT⟩
def xY:ak ["one","other"] ["one","other"] (bD (top 79)):=L2.di
def yf {f fF:Addr}{fd dF:FuncData}(F:cU K "_law_mul" "_law_mul" (top 79) f fd)(G:bP K mg P w base "_law_frac" 1 ["top","bottom"] DM fF dF):aF P w K mg base bX 2 f fd ["one","other"] (Hf pU):=by
 apply F.ok xY (λvs H Q E h=>?_) (λbG A outer s H vs Q E hr h=>?_)
 .obtain⟨p,q,a,b,rfl,_⟩:=h;rfl
 .obtain⟨p,q,a,b,rfl,hp,hq,⟨ba,bb⟩,⟨bc,bd⟩,k⟩:=h;let hb:=den_pos a;let hd:=den_pos b;apply⟨_,de (eG (eu G.ok hr rfl G.mg G.kp G.bd .nil aQ (aZ (dQ yW (fV cZ (pv 0) bL (λ_ _=>rfl)) (fV cZ (pv 1) bL (λ_ _=>rfl))) (aZ (dQ yW (fV cZ (pv 0) bL (λ_ _=>rfl)) (fV cZ (pv 1) bL (λ_ _=>rfl))) bU)))),?_⟩;apply⟨_,(),p,_,_,_,(),(),aN.of hp,(),_,(),q,_,_,_,(),(),aN.of hq,(),_,_,(),(),⟨b3 ba,b3 bc⟩,_,(),p,_,_,_,(),(),aN.of hp,(),_,(),q,_,_,_,(),(),aN.of hq,(),_,_,(),(),⟨b3 bb,b3 bd⟩,?_⟩;exact⟨_,_,(),Xz hb hd,b6 (bb.mul bd),λr mT=>by rw[nE];exact k r mT⟩
def BX:ak ["one","other"] ["one","other"] (bD (top 14)):=L2.di
def Kj {f:Addr}{fd:FuncData}(F:cU K "less" "less" (top 14) f fd):aF P w K mg base bX 1 f fd ["one","other"] j5:=by
 apply F.ok BX (λvs H Q E h=>?_) (λbG A outer s H vs Q E hr h=>?_)
 .obtain⟨p,q,a,b,rfl,_⟩:=h;rfl
 .obtain⟨p,q,a,b,rfl,hp,hq,⟨ba,bb⟩,⟨bc,bd⟩,k⟩:=h;let hb:=den_pos a;let hd:=den_pos b;apply⟨_,de (eG (fc qE (dQ yW (fV cZ (pv 0) bL (λ_ _=>rfl)) (fV cZ (pv 1) bL (λ_ _=>rfl))) (dQ yW (fV cZ (pv 1) bL (λ_ _=>rfl)) (fV cZ (pv 0) bL (λ_ _=>rfl))) (aL _))),?_⟩;exact⟨_,(),p,_,_,_,(),(),aN.of hp,(),_,(),q,_,_,_,(),(),aN.of hq,(),_,_,(),(),⟨b3 ba,b3 bd⟩,_,(),q,_,_,_,(),(),aN.of hq,(),_,(),p,_,_,_,(),(),aN.of hp,(),_,_,(),(),⟨b3 bc,b3 bb⟩,_,_,(),(),by simp only[Fe];exact k⟩
def qj:ak ["one","other"] ["one","other"] (bD (top 81)):=L2.di
def v9 {f:Addr}{fd:FuncData}(F:cU K "_law_less" "_law_less" (top 81) f fd):aF P w K mg base bX 1 f fd ["one","other"] j5:=by
 apply F.ok qj (λvs H Q E h=>?_) (λbG A outer s H vs Q E hr h=>?_)
 .obtain⟨p,q,a,b,rfl,_⟩:=h;rfl
 .obtain⟨p,q,a,b,rfl,hp,hq,⟨ba,bb⟩,⟨bc,bd⟩,k⟩:=h;let hb:=den_pos a;let hd:=den_pos b;apply⟨_,de (eG (fc qE (dQ yW (fV cZ (pv 0) bL (λ_ _=>rfl)) (fV cZ (pv 1) bL (λ_ _=>rfl))) (dQ yW (fV cZ (pv 1) bL (λ_ _=>rfl)) (fV cZ (pv 0) bL (λ_ _=>rfl))) (aL _))),?_⟩;exact⟨_,(),p,_,_,_,(),(),aN.of hp,(),_,(),q,_,_,_,(),(),aN.of hq,(),_,_,(),(),⟨b3 ba,b3 bd⟩,_,(),q,_,_,_,(),(),aN.of hq,(),_,(),p,_,_,_,(),(),aN.of hp,(),_,_,(),(),⟨b3 bc,b3 bb⟩,_,_,(),(),by simp only[Fe];exact k⟩
def Pz:ak ["one","other"] ["one","other"] (bD (top 13)):=L2.di
def Kd {f fF Nn:Addr}{fd dF:FuncData}(F:cU K "over" "over" (top 13) f fd)(G:bP K mg P w base "fraction" 2 ["top","bottom"] (kB (uA Nn)) fF dF):aF P w K mg base bX 3 f fd ["one","other"] (kB (oq Nn)):=by
 apply F.ok Pz (λvs H Q E h=>?_) (λbG A outer s H vs Q E hr h=>?_)
 .obtain⟨p,q,a,b,rfl,_⟩:=h;rfl
 .obtain⟨p,q,a,b,rfl,hp,hq,⟨ba,bb⟩,⟨bc,bd⟩,k0,k1⟩:=h;let hb:=den_pos a;let hd:=den_pos b;apply⟨_,de (eG (eu G.ok hr rfl G.mg G.kp G.bd .nil aQ (aZ (dQ yW (fV cZ (pv 0) bL (λ_ _=>rfl)) (fV cZ (pv 1) bL (λ_ _=>rfl))) (aZ (dQ yW (fV cZ (pv 0) bL (λ_ _=>rfl)) (fV cZ (pv 1) bL (λ_ _=>rfl))) bU)))),?_⟩;apply⟨_,(),p,_,_,_,(),(),aN.of hp,(),_,(),q,_,_,_,(),(),aN.of hq,(),_,_,(),(),⟨b3 ba,b3 bd⟩,?_⟩;apply⟨_,(),p,_,_,_,(),(),aN.of hp,(),_,(),q,_,_,_,(),(),aN.of hq,(),_,_,(),(),⟨b3 bb,b3 bc⟩,?_⟩;apply⟨_,_,(),b6 (bb.mul bc),λh0=>k0 ?_,λh0 r mT=>?_⟩
  .rcases Int.mul_eq_zero.mp h0 with z |z
   .omega
   .exact Rat.num_eq_zero.mp z
  .let hn:b.num≠0:=λz=>h0 (by rw[z,Int.mul_zero])
   rw[nK hn];exact k1 (λz=>hn (by rw[z];rfl)) r mT
def zm:ak ["parts","found","part"] ["parts"] (bD (top 17)):=L2.di
def we {f fA:Addr}{fd dA:FuncData}(F:cU K "greatest" "greatest" (top 17) f fd)(A:bP K mg P w base "less" 1 ["one","other"] j5 fA dA):aF P w K mg base bX 2 f fd ["parts"] Ec:=by
 apply F.ok zm (λvs H Q E h=>?_) (λbG A' outer s H vs Q E hr h=>?_)
 .obtain⟨l,ys,qs,rfl,_⟩:=h;rfl
 .obtain⟨l,ys,qs,rfl,hl,hf,bF,hb,k⟩:=h;apply⟨_,eJ (qr (i:=1) zm.nd rfl (Or.inl rfl) (fV uG (pv 0) bL (λ_ _=>rfl)))
   (eJ (sD ama rfl (UI (pv 0)) (gZ (i:=2) zm.nd rfl (Or.inl rfl))
    (de (lA (uf (eu A.ok hr rfl A.mg A.kp A.bd .nil aQ (aZ (pv 1) (aZ (pv 2) bU)))) (de (qr (i:=1) zm.nd rfl (Or.inl rfl) (pv 2))) lC)))
   (de (eG (pv 1)))),?_⟩
  let eY:0<↥qs:=Xg.mpr bF;let⟨a0,ea0,ha0⟩:=hf.at (g:=0) eY;let m0:qs\0∈qs:=by simp[List.getD,Zc eY]
  apply⟨_,(),l,_,_,_,(),(),bI.of hl,ea0,?_⟩;apply⟨_,(),l,(),⟨_,bI.of hl⟩,?_⟩;apply GX (xs:=ys) (λi σ H'=>H'=H/\∃a q y2,σ=[↑(.ref l),↑(.ref a),y2]/\H a=↑(qO q)/\q∈qs/\∀z∈qs.take i,z<=q) ⟨(),a0,_,_,(),ha0,m0,λz hz=>by simp at hz⟩ (λi σ H' _ z=>by let⟨rfl,_⟩:=z;exact bI.of hl) ?_ ?_
  .rintro i x σ H1 hx ⟨rfl,a,q,y2,rfl,ha,hq,eE⟩;let⟨c,z,rfl,hc,hz⟩:=tL hf hx;let Tp:=Z1 hz;apply⟨_,(),_,(),a,c,q,z,(),ha,hc,hb q hq,hb z Tp,_,(),?_⟩;by_cases cN:q<z
   .rw[aea cN];apply bE ⟨_,(),(),c,z,_,(),hc,Tp,λy hy=>?_⟩;rw[C9 hz] at hy;rcases Zz.mp hy with h |h
    .exact Yy (eE y h) (Zt cN)
    .rw[Z3.mp h];exact Yg
   .rw[aja cN];apply bN ⟨(),a,q,_,(),ha,hq,λy hy=>?_⟩;rw[C9 hz] at hy;rcases Zz.mp hy with h |h
    .exact eE y h
    .rw[Z3.mp h];exact Yr.mp cN
  .rintro σ H1 ⟨rfl,a,q,y2,rfl,ha,hq,eE⟩;rw[hf.1,Yo] at eE;exact⟨_,(),k a q ha hq eE⟩
def Py:ak ["wish","price"] ["wish","price"] (bD (top 41)):=L2.di
def J9 {f fA Nn:Addr}{fd dA:FuncData}(F:cU K "rate" "rate" (top 41) f fd)(A:bP K mg P w base "over" 3 ["one","other"] (kB (oq Nn)) fA dA):aF P w K mg base bX 4 f fd ["wish","price"] ss:=by
 apply F.ok Py (λvs H Q E h=>?_) (λbG A' outer s H vs Q E hr h=>?_)
 .obtain⟨n,q,x,rfl,_⟩:=h;rfl
 .obtain⟨n,q,x,rfl,hq,bx,x0,n0,n1,k⟩:=h;apply⟨_,de (eG (eu A.ok hr rfl A.mg A.kp A.bd .nil aQ (aZ (iY (aZ (pv 0) (aZ bL bU))) (aZ (pv 1) bU)))),?_⟩;apply⟨_,(),by show 2<=sizeLine;decide,λp hp=>?_⟩;let s0:=(az.refl H).new (o:=.tup [.int n,.int 1]) hp;let bn:Rb 32000000 (n:Rat):=fw (Bd.mono (j:=7) (by unfold Bd;omega) ∅) ∅;let hx:x≠0:=λz=>by rw[z] at x0;exact afa x0 ∅
  apply⟨_,(),p,q,(n:Rat),x,(),eC,s0 _ _ hq,bn,bx.mono ∅,λz=>afa z hx,λ_ r mT=>?_⟩;exact k r _ (s0.new mT) eC
abbrev NBB:Δ2:=["row","prices","rates","most"]
def N7:ak NBB ["row","prices"] (bD (top 40)):=L2.di
def WH {f fR fG:Addr}{fd dR dG:FuncData}(F:cU K "best_by_wishes" "best_by_wishes" (top 40) f fd)(N:Nm mg)(R:bP K mg P w base "rate" 4 ["wish","price"] ss fR dR)(G:bP K mg P w base "greatest" 2 ["parts"] Ec fG dG):aF P w K mg base bX 5 f fd ["row","prices"] Uv:=by
 apply F.ok N7 (λvs H Q E h=>?_) (λbG A' outer s H vs Q E hr h=>?_)
 .obtain⟨r,q,ns,ys,qs,rfl,_⟩:=h;rfl
 .obtain⟨r,q,ns,ys,qs,rfl,Sm,hq,hf,cA,h6,hbn,YJ,eY,k⟩:=h;let Nz:c6 2 _:=hr.mono ∅;let hu:=hr.units;let XY:=zG hr;apply⟨_,eJ (qr (i:=2) N7.nd rfl (Or.inr rfl) (Gh (own:=["good","wish"]) (cap:=["prices"]) (ix:=[1]) (aH.of (bD (top 40)).names NBB) rfl (nA rfl N.enumerate HG (aZ (pv 0) bU))
    (λC fp s H=>⟨ia (n:=2) rfl (rN (gZ (i:=0) (Ψ9 ["good","wish","prices"]) rfl (Or.inl rfl)) (rN (gZ (i:=1) (Ψ9 ["good","wish","prices"]) rfl (Or.inl rfl)) fb)),
     kZ (nR jS (pv 1) bL (aL _)),pv 0,eu R.ok hr rfl R.mg R.kp R.bd .nil aQ (aZ (pv 1) (aZ (fV cZ (pv 2) (pv 0) (λ_ _=>rfl)) bU))⟩)))
   (eJ (lA (rL (vk (pv 2) (λ_=>rfl))) (de (eG (iY bU))) lC)
   (eJ (qr (i:=3) N7.nd rfl (Or.inr rfl) (eu G.ok Nz rfl G.mg G.kp G.bd .nil aQ (aZ (Sg (mo rfl) (by rfl) N.list boot_list (aZ (ET PySem.F.plainAttrs_dict PySem.F.slot_dict_values PySem.F.type_dict_values Ci (pv 2)) bU)) bU)))
   (de (eG (Sg fv (by rfl) N.tuple pL (aZ (yX (own:=["good"]) (cap:=["most","rates"]) (ix:=[3,2]) (aH.of (bD (top 40)).names NBB) rfl (JW (pv 2))
    (λC fp s H=>⟨gZ (i:=0) (Ψ9 ["good","most","rates"]) rfl (Or.inl rfl),kZ (nR (EU hu) (Aw XY (pv 2) (pv 0) (λ_ _=>rfl)) (pv 1) (aL _)),pv 0⟩)) bU)))))),?_⟩
  let Hs:∀j,0<=ns\j:=λj=>by
   by_cases hj:j<↥ns
   .have:ns\j∈ns:=by simp[List.getD,Zc hj]
    exact(hbn _ this).1
   .simp[List.getD,Yu (Xf hj)]
  apply⟨_,(),r,(),⟨_,aN.of Sm⟩,λacc bV=>?_⟩;apply yJ (xs:=ns.map V.int) (λi kvs H'=>az H H'/\uw ns qs i kvs H') ⟨(az.refl H).acc bV,⟨(),⟨(),λj y z=>by simp at z⟩⟩⟩ (λi zs H' _ _ z=>aN.of (z.1 _ _ Sm)) ?_ ?_
  .rintro i x kvs H1 H2 hx hy ⟨s1,rt⟩ s2;obtain⟨n,hn,rfl⟩:∃n:Int,ns[i]?=↑n/\x=V.int n:=by
    rw[Zo] at hx;cases e:ns[i]? with
    |none=>rw[e] at hx;cases hx
    |some n=>rw[e] at hx;exact⟨n,(),by simpa using hx.symm⟩
   let hi:i<↥ns:=(Zg.mp hn).1;let SK:ns\i=n:=by simp[List.getD,hn]
   let wR:=s1.trans s2;apply⟨_,(),_,_,(),(),_,(),?_⟩;by_cases h0:0<n
   .rw[aea h0];let⟨aq,eq1,LA⟩:=hf.at (g:=i) ⋯;let bn:=hbn n (Z1 hn);let x0:=eY i (by rw[SK];exact h0);let bx:Rb 2010007 (qs\i):=by
     have:qs\i∈qs:=by simp[List.getD,Zc (show i<↥qs by omega)]
     exact YJ _ this
    apply bE ⟨_,(),_,(),_,(),_,(),q,_,_,_,(),(),aN.of (wR _ _ hq),eq1,n,aq,_,(),wR _ _ LA,bx,x0,bn.1,bn.2,λt H3 s3 ht=>?_⟩;let Tt:=s3 _ _ (s2 _ _ hy);let ki:(V.int (i:Int))=kV (nY i):=rfl;let S3:=(rt.ay s2).ay s3;let tm3:Tm H3 (aP H3 acc (.dK (d6 kvs (nY i) (.ref t)))):=λa xs ha=>by rw[dE (uS ha Tt (by intro z;cases z))];exact ha
    apply⟨kvs,nY i,Tt,ki,?_,LK.of eC ⟨(wR.trans s3).acc bV,(S3.put (by rw[SK];exact h0) ?_).tm tm3⟩⟩
    .have:=rt.len;have:=vn ns i;rw[sz];omega
    .unfold eh;rw[SK];exact ht
   .rw[aja h0];apply bN (LK.of (s2 _ _ hy) ⟨wR,(rt.skip (by rw[SK];exact h0)).ay s2⟩)
  .rintro kvs H1 hy ⟨s1,rt⟩;rw[Zb] at rt;let Sy:=rt.len;let mU:=vn ns ↥ns;apply⟨_,(),_,.inr (.inr ⟨kvs,hy,()⟩),?_⟩;cases hem:kvs.isEmpty with
   |true =>
    let Ot:kvs=[]:=List.isEmpty_iff.mp hem;subst Ot;let Ψ:eX ns ↥ns=[]:=Jf.mp Sy.symm;apply bE ⟨by show 0<=sizeLine;decide,λt ht=>k t _ (s1.new ht) ?_⟩;rw[CZ Hs Ψ];exact eC
   |false =>
   let Ot:kvs≠[]:=λz=>by rw[z] at hem;cases hem
   apply bN ?_;apply⟨_,(),.inr (.inr (.inl ⟨(),.inl ⟨_,hy⟩⟩)),acc,kvs,(),(),hy,λv hv=>?_⟩;let s2:=(az.refl H1).new (o:=gk v acc) hv;apply⟨v,acc,kvs,(),eC,.inl (s2 _ _ hy),λl hl=>?_⟩;let s3:=s2.new (o:=.lst (kvs.map (·.2))) hl;let S3:=rt.ay s3;apply⟨l,_,_,(),eC,S3.fr,?_,?_,λa m ha hm eE=>?_⟩
   .intro z;have:=ata List.length z;rw[Zb,<- Sy] at this;exact Ot (Jf.mp this)
   .intro z hz;let⟨j,hj,rfl⟩:=Zd.mp hz;let⟨jl,jp⟩:=tu hj;unfold eh;let bq:Rb 2010007 (qs\j):=by
     have:qs\j∈qs:=by simp[List.getD,Zc (show j<↥qs by omega)]
     exact YJ _ this
    let bn:Bd 2010007 (ns\j):=by
     have:ns\j∈ns:=by simp[List.getD,Zc jl]
     have:=hbn _ this;exact Bd.mono (j:=7) (by unfold Bd;omega) ∅
    exact(JG bn bq (eY j jp)).mono ∅
   generalize aP (aP H1 v (gk v acc)) l (.lst (kvs.map (·.2)))=H3 at s3 S3 ha ⊢;let Tt:=s3 _ _ hy;apply⟨_,(),acc,kvs,(),Tt,λo OJ om=>?_⟩;let af0:H acc=none:=bV;let bF:OJ≠acc:=λz=>by rw[z,eC] at om;cases om
   let h3n:H3 OJ=none:=by rw[dE bF] at om;exact om
   let XQ:=s1.trans s3;let tm4:Tm H3 (aP H3 acc (.iK o (.dK kvs))):=λa xs ha=>by rw[dE (uS ha Tt (by intro z;cases z))];exact ha
   let s4:az H (aP H3 acc (.iK o (.dK kvs))):=XQ.acc bV;let rt4:=S3.tm tm4;let ha4:=tm4 _ _ ha;let NG:(aP H3 acc (.iK o (.dK kvs))) acc=↑(.iK o (.dK kvs)):=eC;generalize aP H3 acc (.iK o (.dK kvs))=H4 at s4 rt4 ha4 NG om ⊢;apply CO (kvs:=kvs) (λi zs H'=>az H4 H'/\zs=df (((eX ns ↥ns).take i).filter λj=>decide (eh ns qs j=m))) ⟨(az.refl H4).acc om,()⟩ (λi zs H' _ _ z=>z.1 _ _ NG) ?_ ?_
   .rintro i kk vv zs H5 Sx hz ⟨s5,rfl⟩;let⟨j,aj,hj,rfl,rfl,haj,xm⟩:=rt4.at Sx;let hjm:=Z1 hj;apply⟨_,(),_,(),acc,_,(),.inl ⟨kvs,nY j,.inr ⟨o,s5 _ _ NG⟩,(),xm.symm⟩,_,(),?_⟩;apply⟨qD (eh ns qs j),qD m,L8 (s5 _ _ haj),L8 (s5 _ _ ha4),Zl (Nat.min_le_left _ _) (Zl (MR _) ∅),_,(),?_⟩;rw[Fl];let hil:i<↥(eX ns ↥ns):=(Zg.mp hj).1;cases hd:decide (eh ns qs j=m) with
    |true =>
     apply bE ⟨_,(),_,hz,?_,Cn.of eC ⟨s5.acc om,?_⟩⟩
     .unfold df;have:=Y3 (λj=>decide (eh ns qs j=m)) ((eX ns ↥ns).take i);let h3:↥((eX ns ↥ns).take i)<=i:=List.length_take_le _ _;rw[Zb,sz];omega
     .rw[C9 hj,Xp];let e1:[j].filter (λj=>decide (eh ns qs j=m))=[j]:=by simp only[List.filter,hd]
      rw[e1];unfold df;rw[Zs];rfl
    |false =>
     apply bN (Cn.of hz ⟨s5,?_⟩);rw[C9 hj,Xp];let e1:[j].filter (λj=>decide (eh ns qs j=m))=[]:=by simp only[List.filter,hd]
     rw[e1,Yn]
   .rintro zs H5 hz ⟨s5,rfl⟩;rw[Sy,Yo] at hz;apply⟨OJ,_,(),.inl ⟨bI.of hz,λt ht=>?_⟩⟩;apply k t _ ((s4.trans s5).new ht) ?_;rw[Hd eY Hs hm eE];exact eC
abbrev NAr:Δ2:=["market","thing","goods"]
def LV:ak NAr ["market","thing"] (bD (top 36)):=L2.di
def Rf {f fI fW:Addr}{fd dI dW:FuncData}(F:cU K "are_prices" "are_prices" (top 36) f fd)(N:Nm mg)(Z:Dm K)(I:bP K mg P w base "is_fraction" 2 ["thing"] (spT bJ) fI dI)(W:bP K mg P w base "wished" 1 ["market"] zh fW dW):aF P w K mg base bX 3 f fd ["market","thing"] LQ:=by
 apply F.ok LV (λvs H Q E h=>?_) (λbG A' outer s H vs Q E hr h=>?_)
 .obtain⟨b,p,pa,pp,pw,xa,xp,xw,am,pu,wi,v,d,rfl,_⟩:=h;rfl
 .obtain⟨b,p,pa,pp,pw,xa,xp,xw,am,pu,wi,v,d,rfl,m,hT,k⟩:=h;let Dg:c6 1 _:=hr.mono ∅;let hu:=hr.units;let⟨ue,S4,DO,XS,a1,a6,w1,w6,_⟩:=m.lw;apply⟨_,eJ (lA (PW.pt (pw_or (rL (uf (rY K (pv 1) rfl N.isinstance rfl N.tuple pL HH))) (pw_or1 (nR mF (mw eQ (by rfl) N.len Yj (aZ (pv 1) bU)) (mw eQ (by rfl) N.len Yj (aZ (fV cZ (pv 0) bL (λ_ _=>rfl)) bU)) (aL _))))) (de (eG iF)) lC)
   (eJ (lA (rL (uf (mw (qJ rfl) (by rfl) N.all boot_all (aZ (yX (own:=["part"]) (cap:=[]) (ix:=[]) (aH.of (bD (top 36)).names NAr) rfl (rW (pv 1))
     (λC fp s H=>⟨gZ (i:=0) (Ψ9 ["part"]) rfl (Or.inl rfl),C8,eu I.ok hr rfl I.mg I.kp I.bd .nil aQ (aZ (pv 0) bU)⟩)) bU)))) (de (eG iF)) lC)
   (eJ (qr (i:=2) LV.nd rfl (Or.inr rfl) (eu W.ok Dg rfl W.mg W.kp W.bd .nil aQ (aZ (pv 0) bU)))
   (de (eG (mw (qJ rfl) (by rfl) N.all boot_all (aZ (yX (own:=["good","price"]) (cap:=["goods"]) (ix:=[2]) (aH.of (bD (top 36)).names NAr) rfl (nA rfl N.enumerate HG (aZ (pv 1) bU))
     (λC fp s H=>⟨ia (n:=2) rfl (rN (gZ (i:=0) (Ψ9 ["good","price","goods"]) rfl (Or.inl rfl)) (rN (gZ (i:=1) (Ψ9 ["good","price","goods"]) rfl (Or.inl rfl)) fb)),
      C8,vp (nR zt (pv 0) (pv 2) (by with_unfolding_all rfl)) (fc jS (fV cZ (pv 1) bL (λ_ _=>rfl)) bL (aL _)) (fc oh (fV cZ (pv 1) bL (λ_ _=>rfl)) bL (aL _))⟩)) bU)))))),?_⟩
  let⟨t1,wP,e1⟩:=Nt Z hT;apply⟨_,(),t1,_,wP,e1,_,(),?_⟩;let hk:=k H (az.refl H);rcases ik hT with hn |⟨a,xs,ds,rfl,rfl,ha,hs⟩
  .rw[hn];rw[GN hn] at hk;exact bE (bE hk)
  apply bN ?_;let cA:=hs.len;apply⟨_,(),a,xs,(),.inr (aN.of ha),_,(),p,_,_,_,(),(),aN.of m.hp,(),pa,xa,(),.inr (aN.of m.ha),(),_,(),?_⟩;by_cases hl:↥xs=↥xa
  case neg =>
   rw[kH hl];let e3:eV ↥xa (rowsOf wi) (.tuple ds)=false:=by
    cases e:eV ↥xa (rowsOf wi) (.tuple ds) with
    |false=>rfl
    |true=>exact afa (cA.trans (nv.mp e).1) hl
   rw[e3] at hk;exact bE hk
  rw[hl,sV];apply bN ?_;apply⟨_,(),a,(),⟨_,aN.of ha⟩,λacc bV=>?_⟩;apply jg (xs:=xs) (λj zs H2=>az H H2/\zs=(ds.take j).map λd=>V.bl (bJ d)) ⟨(az.refl H).acc bV,()⟩ (λj zs H2 _ _ z=>aN.of (z.1 _ _ ha)) ?_ ?_
  .rintro j x zs H2 hx hz ⟨s2,rfl⟩;let⟨dx,NJ,tx⟩:=hs.at hx;apply mD ⟨_,(),b,x,dx,(),tx.ay s2,λH3 s3=>?_⟩;let hj:j<↥ds:=(Zg.mp NJ).1;apply⟨_,s3 _ _ hz,?_,Cn.of eC ⟨(s2.trans s3).acc bV,?_⟩⟩
   .rw[Zb,Yw,sz];omega
   .rw[C9 NJ,Zs];rfl
  rintro zs H2 hz ⟨s2,rfl⟩;rw[cA,Yo] at hz;apply⟨acc,_,(),.inl (bI.of hz),?_,_,(),?_⟩
  .rw[Y2];simp[Function.comp_def,fz]
  let e:(ds.map λd=>V.bl (bJ d)).all tv=ds.all bJ:=by rw[Y2];rfl
  rw[e];let NC:=k H2 s2;cases LB:ds.all bJ with
  |false =>
   apply bE ?_;let e3:eV ↥xa (rowsOf wi) (.tuple ds)=false:=by
    cases e:eV ↥xa (rowsOf wi) (.tuple ds) with
    |false=>rfl
    |true =>
     let⟨h1,h2⟩:=nv.mp e;have:ds.all bJ:=Yd.mpr λd hd=>by
      let⟨j,hj,ej⟩:=Yf hd;let h3:=h2 j ⋯;let e2:ds.getD j .none=d:=by simp[List.getD,Zc hj,ej]
      rw[e2] at h3;cases hf:bJ d with
      |true=>rfl
      |false=>rw[pz hf] at h3;cases h3
     rw[this] at LB;cases LB
   rw[e3] at NC;exact NC
  |true =>
  apply bN ?_;let m2:=m.ay s2;apply⟨_,(),b,p,pa,pp,pw,xa,xp,xw,am,pu,wi,(),m2,λqg H3 s3 hqg=>?_⟩;let XO:=s2.trans s3;apply⟨_,(),a,(),⟨_,aN.of (XO _ _ ha)⟩,λIV MK=>?_⟩;let price:∀(i:Nat) (dx:PyData),ds[i]?=↑dx->∃t u:Int,dx=.tuple [.int t,.int u]/\∀wd,C6 wd dx=(if wd=true then decide (0<t) else decide (t=0)):=λi dx NJ=>by
   let hf:bJ dx:=Yd.mp LB dx (Z1 NJ);let⟨t,u,rfl,XY,YF⟩:=l9 hf;apply⟨t,u,(),λwd=>?_⟩;show(bJ (.tuple [.int t,.int u])&&(if wd then decide (0<t) else decide (t=0)&&decide (u=1)))=_;rw[hf,Xk];cases wd with
   |true=>rfl
   |false =>
    show(decide (t=0)&&decide (u=1))=decide (t=0);by_cases h0:t=0
    .have:u=1:=by
      subst h0;simp at YF;omega
     rw[aea h0,aea this];rfl
    .rw[aja h0];rfl
  apply CN (xs:=xs) (λi ys H'=>az H3 H'/\ys=(~~~i).map λj=>V.bl (C6 (has (rowsOf wi) j) (ds.getD j .none))) ⟨(az.refl H3).acc MK,()⟩ (λi ys H' _ _ z=>aN.of (z.1 _ _ (XO _ _ ha))) ?_ ?_
  .rintro i x ys H4 H5 hx hy ⟨s4,rfl⟩ s5;let⟨dx,NJ,tx⟩:=hs.at hx;let⟨t,u,rfl,hpr⟩:=price i dx NJ;let hi:i<↥xa:=by have:=(Zg.mp hx).1;omega
   let XN:=s4.trans s5;let SK:ds.getD i .none=.tuple [.int t,.int u]:=by simp[List.getD,NJ]
   let tx5:=(tx.ay XO).ay XN;let⟨ax,_,rfl,YK,wI⟩:=jq tx5;let⟨_,_,rfl,hi2,wI⟩:=No wI;let⟨_,_,rfl,hi3,wI⟩:=No wI;cases oN wI;cases nj hi2;cases nj hi3;apply mD ⟨_,(),_,(),qg,_,(),.inr (aN.of (XN _ _ hqg)),(),ww _ _,_,(),?_⟩;let ein:(if false=true then !HJ (V.int (i:Int)) (Hi ↥xa (rowsOf wi)) else HJ (V.int (i:Int)) (Hi ↥xa (rowsOf wi)))=has (rowsOf wi) i:=by
    rw[aga ∅];have:=CA (M:=rowsOf wi) hi;rw[show(0+(i:Int))=(i:Int) by omega] at this;exact this
   rw[ein];let hy5:=s5 _ _ hy;let j3:∀c:Bool,c=C6 (has (rowsOf wi) i) (.tuple [.int t,.int u])->∃zs,H5 IV=↑(.lst zs)/\↥zs<sizeLine/\LL (dH 2 [2] [↑(.ref p),↑(.ref a),↑(.ref qg)]) IV (λys H'=>az H3 H'/\ys=(~~~(i+1)).map λj=>V.bl (C6 (has (rowsOf wi) j) (ds.getD j .none)))
     (((dH 2 [2] [↑(.ref p),↑(.ref a),↑(.ref qg)]).set 0 ↑(.int i)).set 1 ↑(.ref ax)) (aP H5 IV (.lst (zs++[.bl c]))):=λc hc=>by
    apply⟨_,hy5,?_,LL.of eC ⟨XN.acc MK,?_⟩⟩
    .rw[Zb,Ys,sz];omega
    .rw[Xb,Zs,hc];simp only[Zm,List.map_nil];rw[SK]
   cases hh:has (rowsOf wi) i with
   |true =>
    apply bE ⟨_,(),ax,_,_,_,(),(),aN.of YK,(),_,_,(),(),?_⟩;exact j3 _ (by rw[hpr,hh];rfl)
   |false =>
    apply bN ⟨_,(),ax,_,_,_,(),(),aN.of YK,(),(),?_⟩;apply j3 _ ?_;rw[hpr,hh];by_cases h0:t=0
    .subst h0;rfl
    .rw[aga ∅,aja h0];simp[h0]
  .rintro ys H4 hy ⟨s4,rfl⟩;apply⟨IV,_,(),.inl (bI.of hy),?_,?_⟩
   .rw[Y2];simp[Function.comp_def,fz]
   let e4:((~~~↥xs).map λj=>V.bl (C6 (has (rowsOf wi) j) (ds.getD j .none))).all tv=eV ↥xa (rowsOf wi) (.tuple ds):=by
    rw[Y2];show _=(decide (↥ds=↥xa)&&(~~~↥xa).all λj=>C6 (has (rowsOf wi) j) (ds.getD j .none));rw[aea ⋯,Xk,hl];rfl
   rw[e4];exact k H4 (XO.trans s4)
def PB:ak ["market","thing"] ["market","thing"] (bD (top 37)):=L2.di
def Kf {f fA Pr:Addr}{fd dA:FuncData}(F:cU K "need_prices" "need_prices" (top 37) f fd)(mgP:mg "NoPrices"=↑(.ref Pr))(exP:PySem.W.excIn K Pr [.type "ValueError",.type "Exception",.type "BaseException",.type "object"] "ValueError.__new__")
  (A:bP K mg P w base "are_prices" 3 ["market","thing"] LQ fA dA):aF P w K mg base bX 4 f fd ["market","thing"] (kB (EH Pr)):=by
 apply F.ok PB (λvs H Q E h=>?_) (λbG A' outer s H vs Q E hr h=>?_)
 .obtain⟨b,p,pa,pp,pw,xa,xp,xw,am,pu,wi,v,d,rfl,_⟩:=h;rfl
 .obtain⟨b,p,pa,pp,pw,xa,xp,xw,am,pu,wi,v,d,rfl,m,hT,k0,k1⟩:=h;apply⟨_,de (lA (rL (uf (eu A.ok hr rfl A.mg A.kp A.bd .nil aQ (aZ (pv 0) (aZ (pv 1) bU))))) (de (sC)) lC),?_⟩;apply⟨_,(),_,(),b,p,pa,pp,pw,xa,xp,xw,am,pu,wi,v,d,(),m,hT,λH1 s1=>⟨_,(),?_⟩⟩;cases hp:eV ↥xa (rowsOf wi) d with
  |false=>exact bE (k0 hp H1 s1)
  |true=>exact bN (k1 hp H1 s1)
def acr:ak Ψ8 Ψ8 (bD (top 39)):=L2.di
def WG {f fN fB Pr:Addr}{fd dN dB:FuncData}(F:cU K "best_goods" "best_goods" (top 39) f fd)(N:Nm mg)(Ne:bP K mg P w base "need_prices" 4 ["market","thing"] (kB (EH Pr)) fN dN)(B:bP K mg P w base "best_by_wishes" 5 ["row","prices"] Uv fB dB) :
  aF P w K mg base bX 6 f fd Ψ8 (kB (ou Pr)):=by
 apply F.ok acr (λvs H Q E h=>?_) (λbG A' outer s H vs Q E hr h=>?_)
 .obtain⟨b,p,pa,pp,pw,xa,xp,xw,am,pu,wi,v,d,rfl,_⟩:=h;rfl
 .obtain⟨b,p,pa,pp,pw,xa,xp,xw,am,pu,wi,v,d,rfl,ag,k0,k1⟩:=h;let hr4:c6 4 _:=hr.mono ∅;apply⟨_,eJ (Au (eu Ne.ok hr4 rfl Ne.mg Ne.kp Ne.bd .nil aQ (aZ (pv 0) (aZ (pv 1) bU))))
   (de (eG (Sg fv (by rfl) N.tuple pL (aZ (yX (own:=["row"]) (cap:=["prices"]) (ix:=[1]) (aH.of (bD (top 39)).names Ψ8) rfl (rW (fV cZ (pv 0) bL (λ_ _=>rfl)))
    (λC fp s H=>⟨gZ (i:=0) (Ψ9 ["row","prices"]) rfl (Or.inl rfl),C8,eu B.ok hr rfl B.mg B.kp B.bd .nil aQ (aZ (pv 0) (aZ (pv 1) bU))⟩)) bU)))),?_⟩
  apply⟨_,(),_,(),b,p,pa,pp,pw,xa,xp,xw,am,pu,wi,v,d,(),ag.m,ag.tr,k0,λhp H1 s1=>?_⟩;let⟨qs,rfl,Hr,hpq⟩:=FZ hp;let T6:=ag.ay s1;let YJ:=ag.wd qs rfl;let htr:=T6.tr;let⟨ue,S4,DO,XS,a1,a6,w1,w6,_⟩:=T6.m.lw;cases htr with
  |@tup a ys _ ha Tr =>
  let fr:=mB.of Tr;apply⟨_,(),p,_,_,_,(),(),aN.of T6.m.hp,(),pw,(),⟨_,aN.of T6.m.hw⟩,λacc bV=>?_⟩;apply jg (xs:=xw) (λi ws H'=>az H1 H'/\rR H' ws ((aw (rowsOf wi) qs).take i)) ⟨(az.refl H1).acc bV,.nil⟩ (λi ws H' _ _ z=>aN.of (z.1 _ _ T6.m.hw)) ?_ ?_
  .rintro i x ws H2 hx hz ⟨s2,rs⟩;let⟨ns,c,SF,rfl,hc⟩:=ue.at hx;let hnm:=Z1 SF;let hnl:=DO ns hnm;let eY:∀j,0<ns\j->0<qs\j:=λj hj=>by
    let hjl:j<↥ns:=by
     rcases Yb j ↥ns with z |z
     .exact z
     .simp[List.getD,Yu z] at hj
    apply hpq.pos j ⋯ ?_;unfold has;exact Z6.mpr ⟨ns,hnm,by simpa using hj⟩
   apply mD ⟨_,(),_,(),c,a,ns,ys,qs,(),s2 _ _ hc,s2 _ _ ha,fr.ay s2,⋯,⋯,XS ns hnm,YJ,eY,λt H3 s3 ht=>?_⟩;let υ:=s3 _ _ hz;let hi:i<↥(rowsOf wi):=(Zg.mp SF).1;let eB:(aw (rowsOf wi) qs)[i]?=↑((aV ns qs).map λg:Nat=>(g:Int)):=by
    unfold aw;rw[Zo,SF];rfl
   let tl:Tm H3 (aP H3 acc (.lst (ws++[.ref t]))):=Tm.lst υ;apply⟨ws,υ,?_,Cn.of eC ⟨(s2.trans s3).acc bV,?_⟩⟩
   .rw[rs.len,Yw,sz];have:↥(rowsOf wi)=↥xw:=ue.len.symm;omega
   .rw[C9 eB];exact Ak ((rs.keep s3.tm).keep tl) (tl _ _ (by rw[ht,yi]))
  .rintro ws H2 hz ⟨s2,rs⟩;let e:↥xw=↥(aw (rowsOf wi) qs):=by unfold aw;rw[Zb,ue.len]
   rw[e,Yo] at rs;apply⟨acc,ws,(),.inl ⟨bI.of hz,λl hl=>?_⟩⟩;let s3:=(az.refl H2).new (o:=.tup ws) hl;exact k1 qs rfl Hr hpq l ws _ (s1.trans (s2.trans s3)) eC (rs.keep s3.tm)
end
def Gy {α : Type}{L:List α}(nd:L.Nodup){i:Nat}{r:α}(h:L[i]?=↑r):r∉L.take i:=by
 intro z;let⟨j,hj,e⟩:=Qj.mp z;rw[Yw] at hj;let⟨hi,ei⟩:=Zg.mp h;rw[List.getElem_take,<- ei] at e;have:=(List.getElem_inj nd).mp e;omega
def xS {k:List d4}(h:k∉kvs.map (·.1)):eK kvs k=none:=by
 cases e:eK kvs k with
 |none=>rfl
 |some v=>exact afa (zX e) h
def W1:∀{aS:List (Int×Γ3)},(aS.map (·.2)).Nodup->∀{i:Nat}{k:List d4}{v:V},(na aS)[i]?=↑(k,v)->∃row,aS[i]?=↑row/\k=row.2.map nX/\v=.int row.1/\eK (na aS) k=↑v:=by
 intro aS nd i k v h;let h1:∃row,aS[i]?=↑row/\k=row.2.map nX/\v=.int row.1:=by
  unfold na at h;rw[Zo] at h;cases e:aS[i]? with
  |none=>rw[e] at h;cases h
  |some row =>
   rw[e] at h;simp only[Y5,Option.some.injEq,Prod.mk.injEq] at h;exact⟨row,(),h.1.symm,h.2.symm⟩
 let⟨row,e1,e2,e3⟩:=h1;apply⟨row,e1,e2,e3,?_⟩
 clear h
 induction aS generalizing i with
 |nil=>simp at e1
 |cons p r ih =>
  rw[Zm,Yc] at nd;cases i with
  |zero =>
   let e':p=row:=by simpa using e1
   subst e';show eK ((p.2.map nX,V.int p.1)::na r) k=↑v;rw[e3];exact gH e2.symm
  |succ i =>
   let e':r[i]?=↑row:=by simpa using e1
   let hm:row.2∈r.map (·.2):=Zd.mpr ⟨row,Z1 e',()⟩;show eK ((p.2.map nX,V.int p.1)::na r) k=↑v;rw[gI (λz=>nd.1 (by rw[e2] at z;rw[vJ z];exact hm))];exact ih nd.2 e'
def xh (aS:List (Int×Γ3))(m:Int):Γ1:=(aS.filter λx=>decide (x.1=m)).map (·.2)
def tj:r∈xh aS m↔∃row∈aS,row.1=m/\row.2=r:=by
 unfold xh
 simp_all
def qU {aS:List (Int×Γ3)}(h:aS[i]?=↑row):xh (aS.take (i+1)) m=xh (aS.take i) m++if decide (row.1=m)=true then [row.2] else []:=by
 unfold xh;rw[C9 h,Xp,W3,Zs]
 congr 1
 split<;>simp_all
def Fz (h:rQ H zs M)(e:zs[i]?=↑(.ref b)):∃r,M[i]?=↑r/\H b=↑(.tup (r.map V.int))/\↥((M.map λr=>r.map V.int)∩i)=↥r:=by
 let⟨a,r,e1,e2,e3⟩:=h.2 i _ e
 simp_all
def GV {M:Γ1}(h:r∈M):∃j,j<↥M/\↥((M.map λr=>r.map V.int)∩j)=↥r:=by
 let⟨j,hj,rfl⟩:=Qj.mp h;exact⟨j,hj,by simp[List.getD,Zo,Zc hj]⟩
section
variable {P:Program}{w:World}{K:Θ1}{mg:Θ3}{base:Heap}
abbrev NGA:Δ2:=["market","prices","best","money","purses"]
def Ig:ak NGA Ψ8 (bD (top 47)):=L2.di
def WE {f fB fI fC fT fA fW Pr:Addr}{fd dB dI dC dT dA dW:FuncData}(F:cU K "goods_above" "goods_above" (top 47) f fd)(B:bP K mg P w base "best_goods" 6 Ψ8 (kB (ou Pr)) fB dB)(I:bP K mg P w base "in_coins" 5 Ψ8 Ai fI dI)
  (Co:bP K mg P w base "coins_of" 1 ["coins","some"] Uu fC dC) (T:bP K mg P w base "takers_by_best" 1 ["best","goods"] Us fT dT) (A:bP K mg P w base "all_sets" 1 ["members"] EK fA dA) (W:bP K mg P w base "wished" 1 ["market"] zh fW dW):aF P w K mg base bX 7 f fd Ψ8 Uw:=by
 apply F.ok Ig (λvs H Q E h=>?_) (λbG A' outer s H vs Q E hr h=>?_)
 .obtain⟨b,p,pa,pp,pw,q,xa,xp,xw,ys,am,pu,wi,qs,rfl,_⟩:=h;rfl
 .obtain⟨b,p,pa,pp,pw,q,xa,xp,xw,ys,am,pu,wi,qs,rfl,mp,k⟩:=h;let m:=mp.m;let pr:=mp.pr;let Hr:=mp.l;let Dg:c6 1 _:=hr.mono ∅;let Θ:c6 5 _:=hr.mono ∅;let⟨ue,S4,DO,XS,a1,a6,w1,w6,wp⟩:=m.lw;apply⟨_,eJ (qr (i:=2) Ig.nd rfl (Or.inr rfl) (eu B.ok hr rfl B.mg B.kp B.bd .nil aQ (aZ (pv 0) (aZ (pv 1) bU))))
   (eJ (iX (eu I.ok Θ rfl I.mg I.kp I.bd .nil aQ (aZ (pv 0) (aZ (pv 1) bU))) (ia rfl (rN (gZ (i:=3) Ig.nd rfl (Or.inr rfl)) (rN (gZ (i:=4) Ig.nd rfl (Or.inr rfl)) fb))))
   (de (eG (B5 (own:=["some"]) (cap:=["best","money","purses"]) (ix:=[2,3,4]) hr.Pn (aH.of (bD (top 47)).names NGA) rfl (UI (eu A.ok Dg rfl A.mg A.kp A.bd .nil aQ (aZ (eu W.ok Dg rfl W.mg W.kp W.bd .nil aQ (aZ (pv 0) bU)) bU)))
    (λC fp s H=>⟨gZ (i:=0) (Ψ9 ["some","best","money","purses"]) rfl (Or.inl rfl),C8,pv 0,
     dQ xB (eu Co.ok Dg rfl Co.mg Co.kp Co.bd .nil aQ (aZ (pv 2) (aZ (pv 0) bU))) (eu Co.ok Dg rfl Co.mg Co.kp Co.bd .nil aQ (aZ (pv 3) (aZ (eu T.ok Dg rfl T.mg T.kp T.bd .nil aQ (aZ (pv 1) (aZ (pv 0) bU))) bU)))⟩))))),?_⟩
  let hM6:↥(rowsOf wi)<=6:=by rw[<- ue.len];exact w6
  let hr6:∀r∈aw (rowsOf wi) qs,↥r<=6:=λr mT=>by
   unfold aw at mT;let⟨row,fM,rfl⟩:=Zd.mp mT;rw[Zb];let h1:=DO row fM;let h2:↥(aV row qs)<=↥row:=by unfold aV;exact Zl (Y3 _ _) (by simp)
   omega
  let hPr:eV ↥xa (rowsOf wi) (.tuple (qs.map qD)):=Ej.mpr ⟨Hr,mp.ok⟩;let ag:D8 b H p pa pp pw xa xp xw am pu wi (.ref q) (.tuple (qs.map qD)):=⟨m,.tup pr.hq pr.tr,λyU e z hz=>by
   injection e with e
   have:yU=qs:=(List.map_inj_right (λa b h=>by have h1:=ata Sa h;rw[iW,iW] at h1;exact h1)).mp e.symm;rw[this] at hz;exact(pr.bd z hz).mono ∅⟩
  apply⟨_,(),_,(),b,p,pa,pp,pw,xa,xp,xw,am,pu,wi,.ref q,_,(),ag,λhn=>by(rw[hPr] at hn;cases hn),λyU e _ _ rb xb H1 s1 m9 ls1=>?_⟩;injection e with e
  let e':qs=yU:=(List.map_inj_right (λa b h=>by have h1:=ata Sa h;rw[iW,iW] at h1;exact h1)).mp e;subst e';apply⟨_,(),_,(),b,p,pa,pp,pw,q,xa,xp,xw,ys,am,pu,wi,qs,(),m.ay s1,pr.ay s1,Hr,λr2 rm rp c ms ps H2 s2 hc hms Bm Nz hrm hrp=>?_⟩;apply⟨r2,_,(),aN.of Nz,(),_,_,(),_,_,(),(),?_⟩;let wR:=s1.trans s2;apply⟨_,(),b,p,pa,pp,pw,xa,xp,xw,am,pu,wi,(),m.ay wR,λqw H3 s3 hw3=>?_⟩;rw[lV] at hw3;let Ho:↥(ai ↥xa (rowsOf wi))<=6:=by
   unfold ai;rw[Zb];exact Zl (jz _ _) a6
  let hwz:∀x∈ai ↥xa (rowsOf wi),0<=x/\x.toNat<↥xa:=λx hx=>by
   unfold ai at hx;let⟨j,hj,rfl⟩:=Zd.mp hx;have:=(gF hj).1;exact⟨⋯,⋯⟩
  apply⟨qw,ai ↥xa (rowsOf wi),(),hw3,Ho,λqse xs H4 s4 e4 ts4=>?_⟩;let s24:=s3.trans s4;let s04:=wR.trans s24;let hnd:=ji (Df ↥xa (rowsOf wi));let alg:↥(aT (ai ↥xa (rowsOf wi)))<=64:=by
   rw[Sh];exact Zl (Xc ∅ Ho) ∅
  let hMl:↥(aw (rowsOf wi) qs)=↥(rowsOf wi):=by unfold aw;rw[Zb]
  let mU:↥(rM pu)=↥(rowsOf wi):=by
   let h1:=(m.fp).1;let h2:=ue.len;omega
  let Su:↥(gx (am.map br) qs)=↥xa:=by unfold gx;rw[Zb,Ys,Hr]
  apply⟨qse,(),⟨_,bI.of e4⟩,λacc bV=>?_⟩;apply wB (xs:=xs) (λi kvs H'=>az H4 H'/\∃aS:List (Int×Γ3),kvs=na aS/\aS.map (·.2)=(aT (ai ↥xa (rowsOf wi))).take i/\∀x∈aS,((x.1:Int):Rat)=(c:Rat)*aD (am.map br) (rM pu) qs (rowsOf wi) (ap x.2))
   ⟨(az.refl H4).acc bV,[],(),(),λx hx=>nomatch hx⟩ (λi zs H' _ _ z=>bI.of (z.1 _ _ e4)) ?_ ?_
  .rintro i x kvs H5 hx hy ⟨s5,aS,rfl,BB,xm⟩;let⟨a,S,YL,rfl,ha⟩:=ts4.2 i x hx;let hSm:=Z1 YL;let hSs:=cm.mp hSm;let hS1:∀x∈S,0<=x/\x.toNat<↥xa:=λx hx=>hwz x (hSs.subset hx)
   let hS6:↥(ap S)<=6:=by unfold ap;rw[Zb];exact Zl hSs.length_le Ho
   let Hs:∀x∈S,0<=x:=λx hx=>(hS1 x hx).1
   let hSx:∀g∈ap S,g<↥xa:=λg hg=>by
    unfold ap at hg;let⟨x,hx,rfl⟩:=Zd.mp hg;exact(hS1 x hx).2
   let XN:=s5;let HY:az H2 H5:=s24.trans s5;let ha5:H5 a=↑(.tup (df (ap S))):=by rw[<- Rh Hs];exact s5 _ _ ha
   apply mD ⟨_,(),_,(),_,(),rm,a,ms,ap S,(),HY _ _ hrm,ha5,hS6,λg hg=>by rw[hms.1,Su];exact hSx g hg,λH6 s6=>?_⟩;apply⟨_,(),_,(),_,(),rb,a,xb,aw (rowsOf wi) qs,ap S,(),s6 _ _ (HY _ _ (s2 _ _ m9)),ls1.keep ((s2.trans HY).trans s6).tm,s6 _ _ ha5,by rw[hMl];exact hM6,hr6,λrt H7 s7 ht7=>?_⟩;rw[hMl] at ht7;let Vb:H7 rt=↑(.tup (df (eA (rowsOf wi) qs (ap S)))):=ht7;generalize Lz:eA (rowsOf wi) qs (ap S)=tk at Vb;let htl:∀i∈tk,i<↥(rowsOf wi):=λi hi=>by rw[<- Lz] at hi;exact ph hi
   let htn:↥tk<=6:=by rw[<- Lz];exact Zl (mL _ _ _) hM6
   apply⟨rp,rt,ps,tk,(),s7 _ _ (s6 _ _ (HY _ _ hrp)),Vb,htn,λg hg=>by rw[Bm.1,mU];exact htl g hg,λH8 s8=>?_⟩;let K':=(s6.trans s7).trans s8;let acV:S.map nX∉(na aS).map (·.1):=λz=>by
    unfold na at z;rw[Zp] at z;let⟨row,fM,e⟩:=Zd.mp z;let e2:row.2=S:=vJ e;have:row.2∈aS.map (·.2):=Zd.mpr ⟨row,fM,()⟩;rw[BB,e2] at this;exact Gy hnd YL this
   let hi:i<↥(aT (ai ↥xa (rowsOf wi))):=(Zg.mp YL).1;let Ny:↥aS=i:=by
    have:=ata List.length BB;rw[Zb,Yw] at this;omega
   apply⟨_,_,(),(),na aS,S.map nX,a,K' _ _ hy,(),?_,?_,NU.of eC ⟨(s5.trans K').acc bV,aS++[(((ap S).map λg=>ms\g).sum-(tk.map λi=>ps\i).sum,S)],?_,?_,?_⟩⟩
   .rw[Fh];exact K' _ _ (s5 _ _ ha)
   .unfold na;rw[Zb,Ny,sz];omega
   .rw[oR _ (xS acV)];unfold na;rw[Zs];rfl
   .rw[Zs,BB,C9 YL];rfl
   .intro x hx;rcases Zz.mp hx with h |h
    .exact xm x h
    .rw[Z3.mp h];show(((((ap S).map λg=>ms\g).sum-(tk.map λi=>ps\i).sum:Int)):Rat)=_;let h1:=lf hms (ix:=ap S) (λg hg=>by rw[Su];exact hSx g hg);let h2:=lf Bm (ix:=tk) (λi hi=>by rw[mU];exact htl i hi);rw[Rat.intCast_sub,h1,h2];unfold aD dM bh;rw[Lz,Rat.sub_eq_add_neg,Rat.sub_eq_add_neg,Rat.mul_add,Rat.mul_neg]
  .rintro kvs H5 hy ⟨s5,aS,rfl,BB,xm⟩;rw[ts4.1,Yo] at BB;exact k acc c aS H5 (s04.trans s5) (s04.free bV) ⟨hc,BB,xm⟩ hy
abbrev NPG:Δ2:=["market","prices","above"]
def UC:ak NPG Ψ8 (bD (top 48)):=L2.di
def WC {f fA De:Addr}{fd dA:FuncData}(F:cU K "paid_goods" "paid_goods" (top 48) f fd)(N:Nm mg)(mgD:mg "Dear"=↑(.ref De))(exD:PySem.W.excIn K De [.type "ValueError",.type "Exception",.type "BaseException",.type "object"] "ValueError.__new__")
  (A:bP K mg P w base "goods_above" 7 Ψ8 Uw fA dA):aF P w K mg base bX 8 f fd Ψ8 (kB (N3 De)):=by
 apply F.ok UC (λvs H Q E h=>?_) (λbG A' outer s H vs Q E hr h=>?_)
 .obtain⟨b,p,pa,pp,pw,q,xa,xp,xw,ys,am,pu,wi,qs,rfl,_⟩:=h;rfl
 .obtain⟨b,p,pa,pp,pw,q,xa,xp,xw,ys,am,pu,wi,qs,rfl,mp,k⟩:=h;let XY:=zG hr;apply⟨_,eJ (qr (i:=2) UC.nd rfl (Or.inr rfl) (eu A.ok hr rfl A.mg A.kp A.bd .nil aQ (aZ (pv 0) (aZ (pv 1) bU))))
   (eJ (lA (nR jS (mw (mj rfl) (by rfl) N.max boot_max (aZ (ET PySem.F.plainAttrs_dict PySem.F.slot_dict_values PySem.F.type_dict_values yl (pv 2)) bU)) bL (aL _)) (de (sC)) lC)
   (de (eG (B4 K rfl (by rfl) N.max (by rfl) N.len (aZ (yX (own:=["some"]) (cap:=["above"]) (ix:=[2]) (aH.of (bD (top 48)).names NPG) rfl (Gf (pv 2))
    (λC fp s H=>⟨gZ (i:=0) (Ψ9 ["some","above"]) rfl (Or.inl rfl),kZ (nR oh (Aw XY (pv 1) (pv 0) (λ_ _=>rfl)) bL (aL _)),pv 0⟩)) bU))))),?_⟩
  apply⟨_,(),_,(),b,p,pa,pp,pw,q,xa,xp,xw,ys,am,pu,wi,qs,(),mp,λd c aS H1 s1 hd0 ab hd1=>?_⟩;let⟨k0,k1⟩:=k c aS ab;let nd:(aS.map (·.2)).Nodup:=by rw[ab.2.1];exact ji (Df ↥xa (rowsOf wi))
  let Ny:↥aS=↥(aT (ai ↥xa (rowsOf wi))):=by rw[<- ab.2.1,Zb]
  let Ho:↥(ai ↥xa (rowsOf wi))<=6:=by
   unfold ai;rw[Zb];exact Zl (jz _ _) mp.m.lw.2.2.2.2.2.1
  rw[Sh] at Ny;let h64:↥aS<=64:=by rw[Ny];exact Zl (Xc ∅ Ho) ∅
  let bF:aS≠[]:=λz=>by
   rw[z] at Ny;exact afa Ny.symm (Xw (Nat.pow_pos ∅))
  apply⟨_,(),.inr (.inr (.inl ⟨(),.inr ⟨_,hd1⟩⟩)),d,na aS,(),(),hd1,λv hv=>?_⟩;let s2:=(az.refl H1).new (o:=gk v d) hv;let HN:=s2 _ _ hd1;let R':=s1.trans s2;apply⟨v,d,na aS,aS.map (·.1),(),eC,.inl HN,by unfold na;rw[Zp,Zp];rfl,λz=>bF (Xt.mp z),λmx hm eE=>?_⟩;generalize aP H1 v (gk v d)=H2 at s2 R' HN ⊢;apply⟨_,_,(),(),_,(),?_⟩;let⟨N8,WY,er0⟩:=Zd.mp hm;by_cases h0:0<mx
  .rw[aea h0];exact bE (k0 ⟨N8,WY,by rw[er0];exact h0⟩ H2 R')
  rw[aja h0];apply bN ?_;let Sw:∀x∈aS,x.1<=0:=λx hx=>by have:=eE _ (Zd.mpr ⟨x,hx,()⟩);omega
  apply⟨_,(),d,na aS,(),HN,λo acc bV=>?_⟩;let NG:(aP H2 d (.iK o (.dT (na aS)))) d=↑(.iK o (.dT (na aS))):=eC;let s4:az H (aP H2 d (.iK o (.dT (na aS)))):=R'.acc hd0;generalize aP H2 d (.iK o (.dT (na aS)))=H4 at NG s4 bV ⊢;let TF:↥(na aS)=↥aS:=by unfold na;rw[Zb]
  apply yM (kvs:=na aS) (λi zs H'=>az H4 H'/\rQ H' zs (xh (aS.take i) 0)/\↥zs<=i) ⟨(az.refl H4).acc bV,rQ.nil,Zf _⟩ (λi zs H' _ _ z=>z.1 _ _ NG) ?_ ?_
  .rintro i kk vv b zs H5 Sx hb hz ⟨s5,tz,π⟩;let⟨row,fM,rfl,rfl,xm⟩:=W1 nd Sx;let hi:i<↥aS:=(Zg.mp fM).1;apply⟨_,(),_,(),d,_,(),.inr ⟨na aS,_,b,.inr ⟨o,s5 _ _ NG⟩,(),hb,xm.symm⟩,(),_,(),?_⟩;let ev:decide (V.int row.1=V.int 0)=decide (row.1=0):=by rw[Ya];simp
   rw[ev];rw[Fh] at hb;cases hc:decide (row.1=0) with
   |true =>
    apply bE ⟨_,(),zs,hz,by rw[sz];omega,Cn.of eC ⟨s5.acc bV,?_,by rw[Zv];show ↥zs+1<=i+1;omega⟩⟩;rw[qU fM,hc,aha rfl];exact(tz.app hb).tm (Tm.lst hz)
   |false =>
    apply bN (Cn.of hz ⟨s5,?_,⋯⟩);rw[qU fM,hc,aga ∅,Yn];exact tz
  .rintro zs H5 hz ⟨s5,tz,π⟩;rw[TF,Yo] at tz;let RK:xh aS 0≠[]:=λz=>by
    let hn:([]:Γ3)∈aS.map (·.2):=by rw[ab.2.1];exact cm.mpr (List.nil_sublist _)
    let⟨x,hx,ex⟩:=Zd.mp hn;let hv:=ab.2.2 x hx;rw[ex] at hv;have:aD (am.map br) (rM pu) qs (rowsOf wi) (ap [])=0:=mi;rw[this,Xr] at hv;let h00:x.1=0:=by simpa using hv
    have:=tj.mpr ⟨x,hx,h00,()⟩;rw[z] at this;cases this
   apply⟨acc,zs,_,(),bI.of hz,λz=>RK (Xt.mp z),tz.ks,λi b hb hi jT=>?_⟩;let⟨r,Dg,YI,cA⟩:=Fz tz hb;let⟨row,fM,e1,e2⟩:=tj.mp (Z1 Dg);subst e2;apply k1 Sw b row H5 (s4.trans s5) fM e1 (λx hx ex=>?_) YI;let⟨j,hj,hjl⟩:=GV (tj.mpr ⟨x,hx,ex,()⟩);have:=(jT j (by rw[Zb];exact hj)).1;omega
end
end Bq
namespace MI
open PySem.Spec PyProof.Rows L2 KG
section
variable {K:Θ1}
def Uy (O:aX)(x:AV)(lo hi:Option Int)(P:AV->aX->Prop):Prop:=match x with
 |.im (.list ds)=>P (.im (.list (cutD ds lo hi))) O
 |_=>False
def Is (M:ME)(L U:MO):ME:=λsl O Q=>M sl O λx O1=>L sl O1 λl O2=>U sl O2 λu O3=>Uy O3 x l u Q
def l5 {lo hi:Option Expr}(he:PE X e (bQ K QX E M))(hl:PO X lo (Lj K QX E L))(hu:PO X hi (Lj K QX E U)):PE X (.Subscript e (.Slice lo hi none p2) pos) (bQ K QX E (Is M L U)) :=
 PE.imp (vo Ux he hl hu) λσ H Q h9=>h9.o λw O sl Q0 c m q=>⟨w,O,sl,_,c,m,λx O1 v w1 H1 h1 e1 r1 a1=>⟨w1,O1,sl,_,c.ex e1.ex r1,h1,λl O2 w2 H2 h2 e2 r2=>⟨w2,O2,sl,_,(c.ex e1.ex r1).ex e2.ex r2,h2,λu O3 w3 H3 h3 e3 r3=>by
  unfold Uy at h3;split at h3
  .obtain⟨p1,us,rfl,g1,t1⟩:=gE ((a1.ex e2.ex).ex e3.ex);apply⟨p1,us,(),bI.of g1,λp hp=>?_⟩;let⟨r4,e4,t4⟩:=kM r3 hp (xN t1);exact q _ O3 _ w3 _ h3 (((e1.trans e2).trans e3).trans e4) r4 t4
  .exact h3.elim⟩⟩⟩
end
end MI
namespace MI
open L2 KG EX KM
section
structure LJ (w:Wd)(O:aX)(H:Hp)(w':Wd)(O':aX)(H':Hp):Prop where
 bs:∃t,w'.dS=w.dS++t
 bK:∃t,w'.bK=w.bK++t
 ay:az (G w O H) (G w' O' H')
def LJ.refl (w:Wd)(O:aX)(H:Hp):LJ w O H w O H:=⟨⟨[],by simp⟩,⟨[],by simp⟩,az.refl _⟩
def LJ.ex (a:LJ w O H w1 O1 H1)(b:mW w1 O1 H1 w2 O2 H2):LJ w O H w2 O2 H2:=by
 let⟨t,ht⟩:=a.bK;let⟨u,hu⟩:=b.bK;let⟨t2,Nx⟩:=a.bs;let⟨u2,Γ⟩:=b.bs;exact⟨⟨t2++u2,by rw[Γ,Nx,Yp]⟩,⟨t++u,by rw[hu,ht,Yp]⟩,a.ay.trans b.ay⟩
def xR (K:Θ1)(J:It)(w:Wd)(O:aX)(H:Hp)(items:List AV):Prop:=∀O2 w2 H2,LJ w O H w2 O2 H2->aE K w2 O2 H2->∀i,(∀x,items[i]?=↑x->J.go i H2/\∀v H3,J.qo i H2 v H3->H3=H2/\iD K w2 (G w2 O2 H2) v x)/\(↥items<=i->J.stop i H2)
def NX (K:Θ1)(QX:Addr->aX->Prop)(E:XK)(M:MA):TI:=λσ H R=>∃w O sl Q0,gB K QX E w O H σ sl/\M sl O Q0/\∀items O' w' H' J,Q0 items O'->bR w O H w' O' H'->aE K w' O' H'->xR K J w' O' H' items->R J H'
def yz (t:cr (G w O H) (.ref a) (.list ds)):xR K (Bs K0 a) w O H (ds.map .im):=λO2 w2 H2 e r i=>by
 cases cr.ay e.ay t with |lst h1 t1=>?_
 rename_i xs;let hh:=(fq h1).1;apply⟨λx hx=>?_,λhl=>⟨xs,bI.of hh,by rw[Zb] at hl;rw[t1.len];exact hl⟩⟩;rw[Zo] at hx;cases hd:ds[i]? with
 |none=>rw[hd] at hx;cases hx
 |some d =>
  rw[hd] at hx;cases aaa hx;let⟨v,hv,tv⟩:=t1.get hd;apply⟨⟨xs,v,bI.of hh,hv⟩,?_⟩;rintro v' H3 ⟨rfl,hy⟩;have:=hy xs (bI.of hh);rw[hv] at this;cases aaa this;exact⟨(),tv⟩
def yy (t:cr (G w O H) (.ref a) (.tuple ds)):xR K (zf K0 a) w O H (ds.map .im):=λO2 w2 H2 e r i=>by
 cases cr.ay e.ay t with |tup h1 t1=>?_
 rename_i xs;let hh:=(fq h1).1;apply⟨λx hx=>?_,λhl=>⟨xs,aN.of hh,by rw[Zb] at hl;rw[t1.len];exact hl⟩⟩;rw[Zo] at hx;cases hd:ds[i]? with
 |none=>rw[hd] at hx;cases hx
 |some d =>
  rw[hd] at hx;cases aaa hx;let⟨v,hv,tv⟩:=t1.get hd;apply⟨⟨xs,v,aN.of hh,hv⟩,?_⟩;rintro v' H3 ⟨rfl,hy⟩;have:=hy xs (aN.of hh);rw[hv] at this;cases aaa this;exact⟨(),tv⟩
def Ku (he:PE X e (bQ K QX E M)):PI X tg e (NX K QX E (c7 M)):=PI.imp (ES he) λσ H R ⟨w,O,sl,Q0,c,m,q⟩=>⟨w,O,sl,_,c,m,λx O1 v w1 H1 h1 e1 r1 a1=>by
 split at h1
 .rename_i ds hd;unfold p7 at hd;split at hd
  .cases aaa hd
   let⟨a,xs,rfl,hx,hs⟩:=gE a1;exact .inl ⟨a,(),⟨xs,bI.of hx⟩,q _ O1 w1 H1 _ h1 e1 r1 (yz a1)⟩
  .cases aaa hd
   let⟨a,xs,rfl,hx,hs⟩:=eW a1;exact .inr ⟨a,(),⟨xs,aN.of hx⟩,q _ O1 w1 H1 _ h1 e1 r1 (yy a1)⟩
  .cases hd
 .exact h1.elim⟩
structure CI (k:Nat)(C:MT)(M:ME)(sl:g9)(ds:Ξ1)(Z:Ξ1->aX->Prop)(items:List AV)(O1:aX):Prop where
 fr:sl[k]?=↑none
 ex:∃Jv:Nat->Ξ1->aX->Prop,Jv 0 ds O1/\(∀j es O',Jv j es O'->↥es<1000000) /\
  (∀j y es O',items[j]?=↑y->Jv j es O'->C (sl.set k ↑y) O' λc O3=>(c->M (sl.set k ↑y) O3 λz O4=>match z with
   |.im d=>Jv (j+1) (es++[d]) O4
   |_=>False)/\(c=false->Jv (j+1) es O3))/\∀es O',Jv ↥items es O'->Z es O'
structure CB2 (n:Nat)(ix:List Nat)(mg:MG)(C1:MT)(Dz:MA)(k:Nat)(C2:MT)(M:ME)(sl:g9)(Q:AV->aX->Prop)(items:List AV)(O1:aX):Prop where
 ex:∃Iv:Nat->Ξ1->aX->Prop,Iv 0 [] O1 /\
  (∀i x ds O',items[i]?=↑x->Iv i ds O'->mg x (fQ n ix sl) O' λbC O2=>C1 bC O2 λc O3=>(c->Dz bC O3 (CI k C2 M bC ds (Iv (i+1))))/\(c=false->Iv (i+1) ds O3))/\∀ds O',Iv ↥items ds O'->Q (.im (.list ds)) O'
def xF (n:Nat)(ix:List Nat)(it:MA)(mg:MG)(C1:MT)(Dz:MA)(k:Nat)(C2:MT)(M:ME):ME:=λsl O Q=>it sl O (CB2 n ix mg C1 Dz k C2 M sl Q)
def yr (hk:Keeps n mg):∀σ H Q,bQ K QX E (xF n ix it mg C1 Dz k C2 M) σ H Q->EE (uc K QX E it) (mq K QX E mg) (iN K QX E C1) (NX K QX E Dz) (mq K QX E (aY k)) (iN K QX E C2) (bQ K QX E M) n ix σ H Q :=
 λσ H Q h9=>h9.o λw O sl Q0 c m q=>⟨w,O,sl,_,c,m,λitems O1 w1 H1 J h1 e1 r1 Bl acc bV=>by
  let⟨Iv,h0,hs,he⟩:=h1;apply nP (α:=List V×Ξ1) (ob:=λz=>.lst z.1) (A:=λz _ g=>aI g z.1 z.2) (Qf:=Q (.ref acc)) (c.ex e1.ex r1) Bl (λi z O=>Iv i z.2 O) (λ_ _=>True) (λ_ _ h=>h) ([],[]) trivial h0 (λxs z=>by cases z) (λ_ _=>.nil) (λz w O H w' O' H' e a=>aI.ay e.ay a) (λi x z=>hs i x z.2) hk acc bV
   (λz i R8 w5 O5 H5 yS N y _ m5 c5 a5 av k5=>⟨w5,O5,R8,_,c5,m5,λadn O6 w6 H6 J2 h6 e6 r6 it6=>?_⟩)
   λz O' w' H' v a av=>a.done q (he _ _ v) e1 av
  let⟨LB,Jv,j0,jl,js,je⟩:=h6;apply vE (α:=List V×Ξ1) (T:=λz j c bC O3=>(c->M bC O3 λy O4=>match y with
   |.im d=>Jv (j+1) (z.2++[d]) O4
   |_=>False)/\(c=false->Jv (j+1) z.2 O3)) (P:=λz j w O H=>Acc K acc w1 O1 H1 (.lst z.1) w O H/\LJ w6 O6 H6 w O H/\aI (G w O H) z.1 z.2/\Jv j z.2 O) (R:=λbC=>∃y,bC=R8.set k ↑y)
   ⟨z,w6,O6,⟨a5.ext e6 r6,LJ.refl _ _ _,aI.ay e6.ex.ay av,j0⟩,c5.so.ex e6.ex⟩
   (λz j w O H p=>⟨λk T8 SS Ue qx TZ S7=>(c.ex e1.ex r1).zx k T8 SS Ue qx (p.1.ex.trans TZ) S7,λx hx=>?_,(it6 O w H p.2.1 p.1.ro j).2⟩)
   (λz j x w O H hx p=>⟨js j x z.2 O hx p.2.2.2,x,()⟩)
   (λbC w g σ r h=>?_)
   (λz j w O H bC w3 O3 H3 p t e r=>⟨p.1.ext e r,p.2.1.ex e.ex,aI.ay e.ex.ay p.2.2.1,t.2 rfl⟩)
   (λz j w O H bC w3 O3 H3 dD N y p t e c kk=>⟨w3,O3,bC,_,c,t.1 rfl,λx O7 v7 w7 H7 h7 e7 r7 a7=>?_⟩)
   λz w O H σ p s=>k5 z w O H σ p.1 p.2.2.1 trivial (je z.2 O p.2.2.2) s
  .obtain⟨TD,Ts⟩:=(it6 O w H p.2.1 p.1.ro j).1 x hx;exact⟨TD,λv H3 h=>by let⟨rfl,a⟩:=Ts v H3 h;exact⟨bR.refl _ _ _,p.1.ro,a⟩⟩
  .obtain⟨y,rfl⟩:=r;apply⟨h.1.trans (by simp),λi' x' wJ=>h.2 i' x' ?_⟩;have:k≠i':=λe=>by subst e;rw[LB] at wJ;cases aaa wJ
   rw[Z8 this];exact wJ
  .split at h7
   .let hl:=jl j z.2 O p.2.2.2;let e37:=e.trans e7;let x7:=p.2.1.ex e37.ex;let⟨n3,a8,s8⟩:=(p.1.ext e37 r7).put (.lst (z.1++[v7])) (λxs z=>by cases z);exact⟨z.1,n3,by rw[p.2.2.1.len,sz];omega,kk (_,_) _ _ _ _ ⟨a8,⟨x7.bs,x7.bK,x7.ay.trans s8⟩,aI.ay s8 ((aI.ay e37.ex.ay p.2.2.1).app (.cons a7 .nil)),h7⟩ (cy.gD rfl rfl s8 (c.so.ex e7.ex))⟩
   .exact h7.elim⟩
def GG {f1 f2:Ξ2}(B:aH X scope own cap ix)(hc:X.calm)(hi:PI X t1 i1 (uc K QX E it))(hk:Keeps ↥own mg)
  (hb:∀C' fp s H,PG (cX X scope C' (own++cap) fp s H) t1 (mq K QX E mg)/\dU (cX X scope C' (own++cap) fp s H) f1 (iN K QX E C1)/\PI (cX X scope C' (own++cap) fp s H) t2 i2 (NX K QX E Dz)/\PG (cX X scope C' (own++cap) fp s H) t2 (mq K QX E (aY k))/\dU (cX X scope C' (own++cap) fp s H) f2 (iN K QX E C2)/\PE (cX X scope C' (own++cap) fp s H) gy (bQ K QX E M))
  (hs:∀x,foldedSetIterable i1 X.env x=pure x:=by intro _;rfl) (pN:∀(env:Env) x,foldedSetIterable i2 env x=pure x:=by intro _ _;rfl):PE X (.ListComp gy [⟨t1,i1,f1,0⟩,⟨t2,i2,f2,0⟩] scope pos) (bQ K QX E (xF ↥own ix it mg C1 Dz k C2 M)):=PE.imp (Gi B hc hi hb hs pN) (yr hk)
end
section
end
def eU (r:Γ3):PyData:=.list (r.map .int)
def p6 (M:Γ1)(S:Γ3):List Nat:=(~~~↥M).filter λi=>(M∩i).any λg=>S.contains g
end MI
namespace RZ
open L2 KG EX KM
theorem Tj:∀{A B:Γ3},A.Pairwise (λa b=>a<b)->B.Pairwise (λa b=>a<b)->(∀x,x∈A↔x∈B)->A=B
 |[],[],_,_,_=>rfl
 |[],b::B,_,_,h=>by have:=(h b).mpr Zk;cases this
 |a::A,[],_,_,h=>by have:=(h a).mp Zk;cases this
 |a::A,b::B,hA,hB,h=>by
  let pA:=List.pairwise_cons.mp hA;let pB:=List.pairwise_cons.mp hB;let e:a=b:=by
   rcases Zj.mp ((h a).mp Zk) with z |z
   .exact z
   .rcases Zj.mp ((h b).mpr Zk) with y |y
    .exact y.symm
    .let h1:=pB.1 a z;let h2:=pA.1 b y;omega
  subst e
  congr 1
  apply Tj pA.2 pB.2 λx=>?_
  constructor
  .intro hx;rcases Zj.mp ((h x).mp (Zi _ hx)) with z |z
   .have:=pA.1 x hx;omega
   .exact z
  .intro hx;rcases Zj.mp ((h x).mpr (Zi _ hx)) with z |z
   .have:=pB.1 x hx;omega
   .exact z
def Lp (g:Nat)(M:Γ1):(ai g M).Pairwise (λa b=>a<b):=by
 unfold ai aA;rw[List.pairwise_map];exact(List.Pairwise.sublist Zu List.pairwise_lt_range).imp λh=>⋯
section
def R0 (ab:Above am ps qs M (ai g M) c aS)(hS:S.Sublist (ai g M)):∃x∈aS,x.2=S:=by
 have:S∈aS.map (·.2):=by rw[ab.2.1];exact cm.mpr hS
 let⟨x,hx,e⟩:=Zd.mp this;exact⟨x,hx,e⟩
def Fw (ab:Above am ps qs M (ai g M) c aS)(hx:x∈aS):x.2.Sublist (ai g M):=cm.mp (by rw[<- ab.2.1];exact Zd.mpr ⟨x,hx,()⟩)
def Bc (ab:Above am ps qs M (ai g M) c aS)(hx:x∈aS):x.1=0↔aD am ps qs M (ap x.2)=0:=by
 let hc:(0:Rat)<(c:Rat):=Y0.mpr ab.1;let YH:(c:Rat)≠0:=λz=>by rw[z] at hc;exact afa hc ∅
 let hv:=ab.2.2 x hx;constructor
 .intro z;rw[z] at hv
  grind
 .intro z
  simp_all
end
def gA (am:Γ3)(ps qs:Δ1)(M:Γ1)(g:Nat):Prop:=∀S:Γ3,S.Sublist (ai g M)->aD am ps qs M (ap S)<=0
structure cb (am:Γ3)(ps qs:Δ1)(M:Γ1)(g:Nat)(Pd:Γ3):Prop where
 sub:Pd.Sublist (ai g M)
 zero:aD am ps qs M (ap Pd)=0
 top:∀T:Γ3,T.Sublist (ai g M)->aD am ps qs M (ap T)=0->∀x∈T,x∈Pd
section
def cb.uniq (a:cb am ps qs M g A)(b:cb am ps qs M g B):A=B :=
 Tj ((Lp g M).sublist a.sub) ((Lp g M).sublist b.sub) λx=>⟨λh=>b.top A a.sub a.zero x h,λh=>a.top B b.sub b.zero x h⟩
def Gj (hp:∀q∈ps,0<=q)(ab:Above am ps qs M (ai g M) c aS)(hM:gA am ps qs M g)(fM:row∈aS)(h0:row.1=0)(cA:∀x∈aS,x.1=0->↥x.2<=↥row.2):cb am ps qs M g row.2:=by
 let f0:=(Bc ab fM).mp h0;let hR:=Fw ab fM;apply⟨hR,f0,λT hT fT x hx=>?_⟩;apply vA (f:=λS=>aD am ps qs M (ap S)) (Df g M) (mQ hp) hR (λS hS=>by show _<=aD am ps qs M (ap row.2);rw[f0];exact hM S hS) (λS hS fS=>?_) hT (by show aD am ps qs M (ap T)=aD am ps qs M (ap row.2);rw[f0,fT]) x hx;let⟨y,hy,rfl⟩:=R0 ab hS;exact cA y hy ((Bc ab hy).mpr (fS.trans f0))
theorem AJ:∀{rs:List (Int×Γ3)},(∃x∈rs,x.1=0)->∃row∈rs,row.1=0/\∀x∈rs,x.1=0->↥x.2<=↥row.2
 |[],h=>by let⟨x,hx,_⟩:=h;cases hx
 |r::rs,h=>by
  by_cases e:∃x∈rs,x.1=0
  .obtain⟨row,h1,h2,h3⟩:=AJ e;by_cases z:r.1=0/\↥row.2<↥r.2
   .apply⟨r,Zk,z.1,λx hx x0=>?_⟩;rcases Zj.mp hx with rfl |hx
    .exact Zf _
    .have:=h3 x hx x0;omega
   .apply⟨row,Zi _ h1,h2,λx hx x0=>?_⟩;rcases Zj.mp hx with rfl |hx
    .rcases Yb ↥row.2 ↥x.2 with y |y
     .exact afa ⟨x0,y⟩ z
     .exact y
    .exact h3 x hx x0
  .obtain⟨x,hx,x0⟩:=h;rcases Zj.mp hx with rfl |hx
   .exact⟨x,Zk,x0,λy hy y0=>by
     rcases Zj.mp hy with rfl |hy
     .exact Zf _
     .exact afa ⟨y,hy,y0⟩ e⟩
   .exact afa ⟨x,hx,x0⟩ e
end
def loose (M:Γ1)(qs:Δ1)(Pd S:Γ3):List Nat:=(eA M qs (ap S)).filter λi=>!(eA M qs (ap Pd)).contains i
def rX (am:Γ3)(ps qs:Δ1)(M:Γ1)(Pd S:Γ3):Rat:=bh ps (loose M qs Pd S) / dM am qs (ap S)
def bS (row:Γ3)(qs:Δ1)(g:Nat):Rat:=((row.getD g 0:Int):Rat) / (qs\g)
def lE (row:Γ3)(qs:Δ1)(Pd:Γ3)(b:Nat):Δ1:=(Pd.filter λg=>decide (0<row\g.toNat)).map λg=>bS row qs b / bS row qs g.toNat
def iG (M:Γ1)(qs:Δ1)(Pd:Γ3)(n:Nat):Δ1:=(~~~n).flatMap λi=>if !(eA M qs (ap Pd)).contains i&&!((aw M qs)∩i).isEmpty then lE (M∩i) qs Pd (((aw M qs)∩i)\0).toNat else []
def aM (g:Nat)(M:Γ1)(Pd:Γ3):Γ3:=(ai g M).filter λx=>!Pd.contains x
def iI (am:Γ3)(ps qs:Δ1)(M:Γ1)(g:Nat)(Pd:Γ3):Δ1:=((aT (aM g M Pd)).drop 1).map (rX am ps qs M Pd)++iG M qs Pd ↥M
def Sj (L:List Nat)(w:Nat->Rat)(p q:Nat->Bool):wsum L w (λx=>p x||q x)=wsum L w q+wsum L w (λx=>p x&&!q x):=by
 induction L with
 |nil=>show(0:Rat)=0+0;rw[Qb]
 |cons x L ih =>
  rw[Dx,Dx,Dx,ih];cases p x<;>cases q x<;>simp<;>grind
def jy (h:∀x∈L,p x=false):wsum L w p=0:=by
 unfold wsum;rw[Xq.mpr λx hx=>by rw[h x hx];decide];rfl
def div_le_div {a b c d:Rat}(hc:0<c)(hd:0<d)(h:a*d<=b*c):a / c<=b / d:=by
 let nc:c≠0:=λz=>by rw[z] at hc;exact afa hc ∅
 let nd:d≠0:=λz=>by rw[z] at hd;exact afa hd ∅
 let e1:a / c*(c*d)=a*d:=by grind
 let e2:b / d*(c*d)=b*c:=by grind
 let wX:=Xj hc hd;let h3:a / c*(c*d)<=b / d*(c*d):=by rw[e1,e2];exact h
 exact Rat.le_of_mul_le_mul_right h3 wX
section
def nF (nd:N.Nodup)(h:S.Sublist N):dM am qs S=wsum N (λg=>(gx am qs)\g) (λx=>S.contains x):=by
 unfold dM wsum;rw[sub_eq h nd]
def qt (S:List Nat):bh ps (eA M qs S)=wsum (~~~↥M) (λi=>ps\i) (λi=>b9 S ((aw M qs)∩i)):=rfl
def Th (hi:i<↥M):(eA M qs S).contains i=b9 S ((aw M qs)∩i):=by
 rw[Ya,Z7];unfold eA;rw[Ze,Zh];exact⟨λh=>h.2,λh=>⟨hi,h⟩⟩
def nG (Pd S:Γ3):bh ps (loose M qs Pd S)=wsum (~~~↥M) (λi=>ps\i) (λi=>b9 (ap S) ((aw M qs)∩i)&&!b9 (ap Pd) ((aw M qs)∩i)):=by
 unfold loose bh wsum
 congr 2
 show(List.filter _ ((~~~↥M).filter _))=_;rw[Qr];apply Y4 λi hi=>?_
 rw[Th (Zh.mp hi),Bool.and_comm]
def l3 (hl:↥am=↥qs)(LC:∀a∈am,1<=a)(hq:∀g∈S,g<↥qs/\0<qs\g)(bF:S≠[]):0<dM am qs S:=by
 let one:∀g∈S,0<(gx am qs)\g:=λg hg=>by
  let⟨h1,h2⟩:=hq g hg;let e:(gx am qs)\g=qs\g*((am.getD g 0:Int):Rat):=by
   unfold gx;simp[List.getD,Yt h1]
  rw[e];let ha:1<=am\g:=LC _ (by rw[List.getD,Zc (show g<↥am by omega)];exact Zw _);exact Xj h2 (by have:(0:Int)<am\g:=⋯;exact Y0.mpr this)
 unfold dM;let key:∀T:List Nat,(∀g∈T,0<(gx am qs)\g)->0<=aK (T.map λg=>(gx am qs)\g):=by
  intro T;induction T with
  |nil=>intro _;exact Yg
  |cons x T ih =>
   intro h;rw[Zm,pX];let h1:=h x Zk;let h2:=ih λg hg=>h g (Zi _ hg)
   grind
 cases S with
 |nil=>exact afa rfl bF
 |cons x T =>
  rw[Zm,pX];let h1:=one x Zk;let h2:=key T λg hg=>one g (Zi _ hg)
  grind
def QF (hp:∀q∈ps,0<=q)(cz:gA am ps qs M g)(pd:cb am ps qs M g Pd)(hS:S.Sublist (aM g M Pd))(bF:S≠[])(hm:0<dM am qs (ap S)):1<rX am ps qs M Pd S:=by
 let HP:S.Sublist (ai g M):=hS.trans Zu;let dis:∀x∈S,x∉Pd:=λx hx=>by
  have:=(Ze.mp (hS.subset hx)).2;simpa using this
 let nd:(aA g M).Nodup:=by unfold aA;exact(X0).sublist Zu
 letI J:Γ3:=(ai g M).filter λx=>S.contains x||Pd.contains x
 let hJ:J.Sublist (ai g M):=Zu;let UO:∀x,x∈J↔x∈S\/x∈Pd:=λx=>by
  rw[Ze];constructor
  .rintro⟨_,h⟩;simpa using h
  .intro h;apply⟨?_,by simpa using h⟩;rcases h with h |h
   .exact HP.subset h
   .exact pd.sub.subset h
 let lt:aD am ps qs M (ap J)<0:=by
  let le:=cz J hJ;by_cases e:aD am ps qs M (ap J)=0
  .obtain⟨x,hx⟩:=List.exists_mem_of_ne_nil S bF;exact afa (pd.top J hJ e x ((UO x).mpr (.inl hx))) (dis x hx)
  .grind
 let cJ:∀x:Nat,(ap J).contains x=((ap S).contains x||(ap Pd).contains x):=λx=>by
  rw[Ya,X4,Z7,Z7,Z7,Dv hJ,Dv HP,Dv pd.sub];exact UO _
 let mJ:dM am qs (ap J)=dM am qs (ap Pd)+dM am qs (ap S):=by
  rw[nF nd (Nk hJ),nF nd (Nk HP),nF nd (Nk pd.sub)];rw[Dd (q:=λx=>(ap S).contains x||(ap Pd).contains x) λx _=>cJ x,Sj]
  congr 1
  apply Dd λx _=>?_
  cases h:(ap S).contains x with
  |false=>rfl
  |true =>
   let h1:=(Dv HP x).mp (Z7.mp h);let h2:(ap Pd).contains x=false:=by
    rw[Bool.eq_false_iff,Ne,Z7,Dv pd.sub];exact dis _ h1
   rw[h2];rfl
 let pJ:bh ps (eA M qs (ap J))=bh ps (eA M qs (ap Pd))+bh ps (loose M qs Pd S):=by
  rw[qt,qt,nG,<- Sj];apply Dd λi _=>?_
  rw[Nl,Nl,Nl,Ya,X4,Z6,Z6,Z6];constructor
  .rintro⟨x,hx,h⟩;have:=cJ x;rw[Z7.mpr hx] at this;rcases(X4 _ _).mp this.symm with z |z
   .exact .inl ⟨x,Z7.mp z,h⟩
   .exact .inr ⟨x,Z7.mp z,h⟩
  .rintro(⟨x,hx,h⟩ |⟨x,hx,h⟩)
   .apply⟨x,Z7.mp ?_,h⟩;rw[cJ,Z7.mpr hx];rfl
   .apply⟨x,Z7.mp ?_,h⟩;rw[cJ,Z7.mpr hx,Bool.or_true]
 let z:=pd.zero;unfold aD at lt z;rw[mJ,pJ] at lt;let h3:dM am qs (ap S)<bh ps (loose M qs Pd S):=by grind
 unfold rX;rw[Rat.lt_div_iff hm,Qc];exact h3
def CY {row:Γ3}(fM:∀x∈row,0<=x)(hb:b∈aV row qs)(ho:o<↥row)(hw:0<row\o)(YA:0<qs\b)(XZ:0<qs\o):bS row qs o<=bS row qs b/\(bS row qs o=bS row qs b->o∈aV row qs):=by
 unfold aV at hb ⊢;let⟨h1,h2⟩:=Ze.mp hb;unfold mK at h2;rw[Z4,Yd] at h2;let nw:∀x:Nat,x<↥row->0<row\x->((row.getD x 0:Int):Rat)*(qs\b)<=((row.getD b 0:Int):Rat)*(qs\x):=λx hx XX=>by
  have:=h2.2 x (Zh.mpr hx);unfold mE at this;rw[aea XX,Xk] at this;have:=asa (by simpa using this:decide _=false);exact Yr.mp this
 let le:bS row qs o<=bS row qs b:=by
  unfold bS;let h3:=nw o ho hw;exact div_le_div XZ YA h3
 apply⟨le,λe=>Ze.mpr ⟨Zh.mpr ho,?_⟩⟩;unfold mK;rw[Z4];apply⟨aea ⋯,Yd.mpr λx hx=>?_⟩;let hx:=Zh.mp hx;unfold mE;rw[Bool.not_eq_true',Bool.and_eq_false_iff];by_cases XX:0<row\x
 .right
  rw[decide_eq_false_iff_not,Yr];let h3:=nw x hx XX;unfold bS at e;let nb:qs\b≠0:=λz=>by rw[z] at YA;exact afa YA ∅
  let no:qs\o≠0:=λz=>by rw[z] at XZ;exact afa XZ ∅
  let e2:((row.getD o 0:Int):Rat)*(qs\b)=((row.getD b 0:Int):Rat)*(qs\o):=by grind
  let h4:((row.getD x 0:Int):Rat)*(qs\o)*(qs\b)<=((row.getD o 0:Int):Rat)*(qs\x)*(qs\b):=by
   let h5:=Xs h3 (Zt XZ);let h6:((row.getD x 0:Int):Rat)*(qs\o)*(qs\b)=((row.getD x 0:Int):Rat)*(qs\b)*(qs\o):=by grind
   let h7:((row.getD o 0:Int):Rat)*(qs\x)*(qs\b)=((row.getD b 0:Int):Rat)*(qs\x)*(qs\o):=by grind
   rw[h6,h7];exact h5
  exact Rat.le_of_mul_le_mul_right h4 YA
 .left;exact aja XX
end
end RZ
namespace MI
open L2 KG EX KM
def int_at {ns:Γ3}(h:i<↥ns):gh (ns.map PyData.int) (i:Int)=↑(.int (ns\i)):=bB (ky (f:=PyData.int) (d:=0) h)
def fg {ns:Γ3}(h:((ns.map PyData.int).map AV.im)[i]?=↑x):i<↥ns/\x=.im (.int (ns\i)):=by
 let hi:i<↥ns:=by have:=(Zg.mp h).1;simpa using this
 rw[Zo,ky (f:=PyData.int) (d:=0) hi] at h;exact⟨hi,(aaa h).symm⟩
def KZ (ns:Γ3)(p:Int->Bool):((~~~↥ns).filter λj=>p (ns\j)).map (λj=>ns\j)=ns.filter p:=by
 have:=Lv (λx:Int=>x) ns 0;let e:ns.filter p=((~~~↥ns).map λi=>ns\i).filter p:=by rw[this,List.map_id']
 rw[e,List.filter_map];rfl
def G0 (ns:Γ3)(p:Int->Bool):((~~~↥ns).filter λj=>p (ns\j)).map (λj=>PyData.int (ns\j))=(ns.filter p).map .int:=by
 rw[<- KZ ns p,Zp];rfl
def G1 {α : Type}(s:List α)(d:α)(p:α->Bool)(f:α->PyData):((~~~↥s).filter λj=>p (s.getD j d)).map (λj=>f (s.getD j d))=(s.filter p).map f:=by
 have:=Lv (λx:α=>x) s d;let e:s.filter p=((~~~↥s).map λi=>s.getD i d).filter p:=by rw[this,List.map_id']
 rw[e,List.filter_map,Zp];rfl
def Om {α : Type}:↥([]:List α)<=sizeLine:=by show 0<=sizeLine;decide
def G5 {r:Nat}(h1:r<=↥xs):cutD xs none ↑(r:Int)=xs.take r:=by
 let e1:HT.cR ↥xs ↥xs ↑(r:Int)=r:=by
  show(if (r:Int)<0 then ((r:Int)+(↥xs:Int)).toNat else min ((r:Int)).toNat ↥xs)=_
  grind
 unfold cutD;rw[HT.vi,e1];simp
def JO (h:lx (qD z)):0<z/\Rb 20 z:=by
 let⟨q,e,h1,h2⟩:=nu h;have:z=q:=by rw[<- iW z,e,iW]
 rw[this];exact⟨h1,h2⟩
structure DI (A:Γ3)(Pu:Δ1)(W:Γ1):Prop where
 g1:1<=↥A
 g6:↥A<=6
 n1:1<=↥Pu
 n6:↥Pu<=6
 wl:↥W=↥Pu
 am:∀a∈A,1<=a/\a<=60
 pu:∀z∈Pu,0<z/\Rb 20 z
 wr:∀i,i<↥W->↥(W∩i)=↥A
 w0:∀i j,i<↥W->j<↥A->0<=eI W i j/\eI W i j<=100
def qu (h:cK (dJ A Pu W)):DI A Pu W:=by
 let⟨h1,h2,h3,h4,h5,h6,h7,h8⟩:=jd h;rw[Zb] at h1 h2 h4 h5;rw[Zb,Zb] at h7;rw[Zb] at h8;let row:∀r∈W,↥r=↥A/\∀x∈r,0<=x/\x<=100:=λr hr=>by
  have:=Yd.mp h8 (bi r) (Zd.mpr ⟨r,hr,()⟩);let e:(decide (↥(r.map PyData.int)=↥A)&&(r.map PyData.int).all (within 0 100))=true:=this;rw[Z4,decide_eq_true_eq,Zb,Yd] at e;apply⟨e.1,λx hx=>?_⟩;have:=e.2 (.int x) (Zd.mpr ⟨x,hx,()⟩);let e2:(decide ((0:Int)<=x)&&decide (x<=100))=true:=this;rw[Z4,decide_eq_true_eq,decide_eq_true_eq] at e2;exact e2
 let wm:∀i,i<↥W->W∩i∈W:=λi hi=>by rw[ao (Zc hi)];exact Zw _
 apply⟨h1,h2,h4,h5,h7,λa ha=>?_,λz hz=>?_,λi hi=>(row _ (wm i hi)).1,λi j hi hj=>?_⟩
 .have:=Yd.mp h3 (.int a) (Zd.mpr ⟨a,ha,()⟩);let e2:(decide ((1:Int)<=a)&&decide (a<=60))=true:=this;rw[Z4,decide_eq_true_eq,decide_eq_true_eq] at e2;exact e2
 .exact JO (Yd.mp h6 (qD z) (Zd.mpr ⟨z,hz,()⟩))
 .let hr:=row _ (wm i hi);let mV:j<↥(W∩i):=by rw[hr.1];exact hj
  exact hr.2 _ (by show(W∩i)\j∈_;rw[ao (Zc mV)];exact Zw _)
open RZ
def pW (h:x∈ai g W):0<=x/\x.toNat<g/\((x.toNat:Nat):Int)=x/\has W x.toNat:=by
 unfold ai at h;let⟨j,hj,rfl⟩:=Zd.mp h;let hj:=Ze.mp hj;let h1:=Zh.mp hj.1;rw[Zy];exact⟨⋯,h1,(),hj.2⟩
def Dw (g:Nat)(W:Γ1):↥(ai g W)<=g:=by
 unfold ai aA;rw[Zb];exact Zl (Y3 _ _) (by simp)
def HD (W:Γ1)(qs:Δ1):↥(aw W qs)=↥W:=by unfold aw;simp
def za (hi:i<↥W):(aw W qs)∩i=(aV (W∩i) qs).map λg:Nat=>(g:Int):=by unfold aw;exact jY hi
def o9 (hi:i<↥W)(hr:↥(W∩i)=g):↥((aw W qs)∩i)<=g:=by
 rw[za hi,Zb];unfold aV;rw[<- hr];exact Zl (Y3 _ _) (by simp)
def sW (hS:∀x∈S,0<=x):p6 (aw W qs) S=eA W qs (ap S):=by
 unfold p6 eA;rw[HD];apply Y4 λi _=>?_
 unfold b9 ap;rw[Ya,Z6,Z6];constructor
 .rintro⟨x,hx,h⟩;let hm:=Z7.mp h;exact⟨x,hx,Z6.mpr ⟨x.toNat,Zd.mpr ⟨x,hm,()⟩,aea (Xa (hS x hm))⟩⟩
 .rintro⟨x,hx,h⟩;let⟨y,hy,e⟩:=Z6.mp h;let⟨z,hz,rfl⟩:=Zd.mp hy;let e:=aia e;rw[Xa (hS z hz)] at e;exact⟨x,hx,Z7.mpr (e▸hz)⟩
def Ko {s:List Nat}(h:((s.map λk:Nat=>PyData.int (k:Int)).map AV.im)[i]?=↑x):i<↥s/\x=.im (.int ((s.getD i 0:Nat):Int))/\(s\i)∈s:=by
 let hi:i<↥s:=by have:=(Zg.mp h).1;simpa using this
 rw[Zo,ky (f:=λk:Nat=>PyData.int (k:Int)) (d:=0) hi] at h;exact⟨hi,(aaa h).symm,by rw[ao (Zc hi)];exact Zw _⟩
def ab6 {ns:Γ3}(h0:0<=x)(h:x.toNat<↥ns):gh (ns.map PyData.int) x=↑(.int (ns\x.toNat)):=by
 have:=int_at h
 rwa [Xa h0] at this
def AG {α : Type}(s:List α)(d:α)(f:α->Int):(~~~↥s).map (λj=>PyData.int (f (s.getD j d)))=(s.map f).map .int:=by
 rw[Zp];exact Lv (λx=>PyData.int (f x)) s d
theorem sG:∀{A B:Γ3},A.Nodup->(∀x∈A,x∈B)->↥A<=↥B
 |[],_,_,_=>Z9 _
 |a::A,B,nd,h=>by
  let wS:=Yc.mp nd;let ha:=h a Zk;let ih:=sG (A:=A) (B:=B.erase a) wS.2 λx hx=>(List.mem_erase_of_ne (λ(e:x=a)=>wS.1 (e▸hx))).mpr (h x (Zi _ hx))
  let e:=List.length_erase_of_mem ha;have:=List.length_pos_of_mem ha;rw[Y1];omega
def Bu (ps:Γ3)(s:List Nat):Int:=(s.map λi=>ps\i).sum
def i9 (h:0<=row\g/\(row\g)<=100)(hb:Rb 2010000 (qs\g))(h0:0<qs\g):Rb 2010007 (bS row qs g):=by
 unfold bS;exact io (j:=7) (k:=2010000) (fw (by unfold Bd;omega) ∅) hb (λz=>by rw[z] at h0;exact afa h0 ∅)
def RV:∀{xs:Γ3},(∀x∈xs,Bd k x)->↥xs<=6->Bd (k+3) xs.sum:=by
 let key:∀{xs:Γ3},(∀x∈xs,Bd k x)->xs.sum.natAbs<=↥xs*2 ^ k:=by
  intro xs;induction xs with
  |nil=>intro _;exact Z9 _
  |cons x xs ih =>
   intro h;let h1:x.natAbs<2 ^ k:=h x Zk;let h2:=ih λy hy=>h y (Zi _ hy)
   let h3:=Int.natAbs_add_le x xs.sum;rw[Ql,Y1,Nat.succ_mul];omega
 intro xs h h6;let h1:=key h;unfold Bd;let h2:↥xs*2 ^ k<=6*2 ^ k:=Nat.mul_le_mul_right _ h6
 grind
def CJ {c t u:Int}(hc:0<c)(ht:((t:Int):Rat)=(c:Rat)*x)(hu:((u:Int):Rat)=(c:Rat)*y)(hy:0<y):Rat.divInt t u=x / y:=by
 rw[Xe,ht,hu];let c0:(c:Rat)≠0:=λz=>by have:(c:Int)=0:=(by exact_mod_cast z);omega
 grind
structure cW (A:Γ3)(Pu:Δ1)(W:Γ1)(qs:Δ1):Prop where
 pr:oJ A Pu W qs
 bd:∀z∈qs,Rb 2009987 z
def cW.pos (h:cW A Pu W qs)(hx:x∈ai ↥A W):0<=x/\x.toNat<↥qs/\0<qs\x.toNat:=by
 let⟨h1,h2,h3,h4⟩:=pW hx;let hl:=h.pr.len;exact⟨h1,⋯,h.pr.gW.pos _ ⋯ h4⟩
def cW.money (h:cW A Pu W qs)(hS:S.Sublist (ai ↥A W))(bF:S≠[]):0<dM A qs (ap S):=by
 let mf:=qu h.pr.ok;apply l3 h.pr.len.symm (λa ha=>(mf.am a ha).1) (λg hg=>?_) (λz=>bF ?_)
 .obtain⟨x,hx,rfl⟩:=Zd.mp hg;exact(h.pos (hS.subset hx)).2
 .exact Xt.mp z
def lX (ns:Γ3):aT ns=[]::(aT ns).drop 1:=by
 obtain⟨m,hm⟩:∃m,2 ^ ↥ns=m+1:=⟨2 ^ ↥ns-1,by have:0<2 ^ ↥ns:=Nat.pow_pos ∅;omega⟩;let z:dX ns 0=[]:=by
  unfold dX
  simp_all
 unfold aT;rw[hm,List.range_succ_eq_map,Zm,z];rfl
def jD (nd:ns.Nodup)(h:S∈(aT ns).drop 1):S.Sublist ns/\S≠[]:=by
 apply⟨cm.mp (List.mem_of_mem_drop h),λe=>?_⟩;let e0:=lX ns;have:=ji nd;rw[e0,Yc] at this;exact this.1 (e▸h)
def tR (mf:DI A Pu W)(gW:HB W qs)(hl:↥qs=↥A)(jZ:i<↥W)(hb:b∈aV (W∩i) qs):b<↥A/\0<qs\b:=by
 let Vl:=Ze.mp hb;let Ox:=Zh.mp Vl.1;rw[mf.wr i jZ] at Ox;let hbw:(W∩i)\b≠0:=by
  have:=Vl.2;unfold mK at this;rw[Z4] at this;exact aia this.1
 let hwb:=mf.w0 i b jZ Ox;let acZ:has W b:=by
  unfold has;rw[Z6];exact⟨W∩i,by rw[ao (Zc jZ)];exact Zw _,aea (by unfold eI at hwb;omega)⟩
 exact⟨Ox,gW.pos b ⋯ acZ⟩
def dv (qs:Δ1)(Pd:Γ3)(f:Rat):Δ1:=(~~~↥qs).map λg:Nat=>if Pd.contains (g:Int)=true then qs\g else qs\g*f
def FK (h:Pd.Sublist (ai g W)):aM g W Pd=[]↔Pd=ai g W:=by
 unfold aM;rw[Xq];constructor
 .intro z;apply Jm h (List.Sublist.refl _) (Df g W) λx=>⟨λhx=>h.subset hx,λhx=>?_⟩
  have:=z x hx;simpa using this
 .intro e x hx;rw[e];simpa using hx
def FT (rp:cW A Pu W qs)(NM:Pd.Sublist (ai ↥A W)):∀z∈iI A Pu qs W ↥A Pd,Rb 32000000 z:=by
 let mf:=qu rp.pr.ok;let hl:=rp.pr.len;let hR:(aM ↥A W Pd).Sublist (ai ↥A W):=Zu;let NL:(aM ↥A W Pd).Nodup:=(Df ↥A W).sublist hR;intro z hz;unfold iI at hz;rcases Zz.mp hz with hz |hz
 .obtain⟨S,hS,rfl⟩:=Zd.mp hz;let⟨h1,h2⟩:=jD NL hS;let hs:=h1.trans hR;let mS:=rp.money hs h2;let b1:Rb 127 (bh Pu (loose W qs Pd S)):=by
   unfold bh;let h3:=tq (k:=20) (qs:=(loose W qs Pd S).map λi=>Pu\i) λq hq=>by
    let⟨i,hi,rfl⟩:=Zd.mp hq;exact Ao ∅ (λq hq=>(mf.pu q hq).2) i
   apply h3.mono ?_;rw[Zb];let h4:=Y3 (λi=>!(eA W qs (ap Pd)).contains i) (eA W qs (ap S));let h5:=mL W qs (ap S);have:=mf.wl;have:=mf.n6;unfold loose;omega
  let b2:Rb 12060043 (dM A qs (ap S)):=by
   unfold dM;let h3:=tq (k:=2010006) (qs:=(ap S).map λg=>(gx A qs)\g) λq hq=>by
    let⟨i,hi,rfl⟩:=Zd.mp hq;apply Ao ∅ (λq hq=>?_) i;let⟨j,hj,rfl⟩:=Zd.mp hq;let hj:=Zh.mp hj;let ha:=mf.am (A\j) (by rw[ao (Zc (show j<↥A by omega))];exact Zw _);exact j6 (j:=2010000) (k:=6) (rp.pr.bd _ (by rw[ao (Zc hj)];exact Zw _)) (fw (by unfold Bd;omega) ∅)
   apply h3.mono ?_;unfold ap;rw[Zb,Zb];have:=hs.length_le;have:=Dw ↥A W;have:=mf.g6;omega
  unfold rX;exact(io b1 b2 (λz=>by rw[z] at mS;exact afa mS ∅)).mono ∅
 .unfold iG at hz;let⟨i,hi,hz⟩:=Jd.mp hz;let jZ:=Zh.mp hi;split at hz
  .rename_i hc;rw[Z4] at hc;let bF:0<↥((aw W qs)∩i):=by
    cases hb:(aw W qs)∩i with
    |nil=>rw[hb] at hc;exact afa hc.2 ∅
    |cons _ _=>simp
   let DE:((aw W qs)∩i)\0∈(aw W qs)∩i:=by rw[ao (Zc bF)];exact Zw _
   rw[za jZ] at DE;let⟨b,hb,eb⟩:=Zd.mp DE;rw[<- za jZ] at eb;rw[<- eb,Zy] at hz;unfold lE at hz;let⟨x,hx,rfl⟩:=Zd.mp hz;let⟨Nw,wI⟩:=Ze.mp hx;let wI:=aia wI;let⟨p0,p1,p2⟩:=rp.pos (NM.subset Nw);let⟨m9,pP⟩:=tR mf rp.pr.gW hl jZ hb;let r1:=i9 (row:=W∩i) (mf.w0 i b jZ m9) (rp.pr.bd _ (by rw[ao (Zc (show b<↥qs by omega))];exact Zw _)) pP;let r2:=i9 (row:=W∩i) (mf.w0 i x.toNat jZ ⋯) (rp.pr.bd _ (by rw[ao (Zc p1)];exact Zw _)) p2;apply(io r1 r2 λz=>?_).mono ∅;have:0<bS (W∩i) qs x.toNat:=by unfold bS;exact div_pos (Y0.mpr wI) p2
   rw[z] at this;exact afa this ∅
  .cases hz
def K1 (rp:cW A Pu W qs)(cz:gA A Pu qs W ↥A)(pd:cb A Pu qs W ↥A Pd):∀z∈iI A Pu qs W ↥A Pd,1<z:=by
 let mf:=qu rp.pr.ok;let hl:=rp.pr.len;let hR:(aM ↥A W Pd).Sublist (ai ↥A W):=Zu;let NL:(aM ↥A W Pd).Nodup:=(Df ↥A W).sublist hR;intro z hz;unfold iI at hz;rcases Zz.mp hz with hz |hz
 .obtain⟨S,hS,rfl⟩:=Zd.mp hz;let⟨h1,h2⟩:=jD NL hS;exact QF (λq hq=>Zt (mf.pu q hq).1) cz pd h1 h2 (rp.money (h1.trans hR) h2)
 .unfold iG at hz;let⟨i,hi,hz⟩:=Jd.mp hz;let jZ:=Zh.mp hi;split at hz
  .rename_i hc;rw[Z4] at hc;let bF:0<↥((aw W qs)∩i):=by
    cases hb:(aw W qs)∩i with
    |nil=>rw[hb] at hc;exact afa hc.2 ∅
    |cons _ _=>simp
   let DE:((aw W qs)∩i)\0∈(aw W qs)∩i:=by rw[ao (Zc bF)];exact Zw _
   rw[za jZ] at DE;let⟨b,hb,eb⟩:=Zd.mp DE;rw[<- za jZ] at eb;rw[<- eb,Zy] at hz;unfold lE at hz;let⟨x,hx,rfl⟩:=Zd.mp hz;let⟨Nw,wI⟩:=Ze.mp hx;let wI:=aia wI;let⟨p0,p1,p2⟩:=rp.pos (pd.sub.subset Nw);let⟨m9,pP⟩:=tR mf rp.pr.gW hl jZ hb;let hxl:x.toNat<↥(W∩i):=by rw[mf.wr i jZ];omega
   let⟨le,eqv⟩:=CY (qs:=qs) (row:=W∩i) (b:=b) (o:=x.toNat) (λy hy=>by
    let⟨k,hk,rfl⟩:=Yf hy;have:=mf.w0 i k jZ (by rw[<- mf.wr i jZ];exact hk);unfold eI at this;rw[ao (Zc hk)] at this;exact this.1) hb hxl wI pP p2
   let np:x.toNat∉aV (W∩i) qs:=λz=>by
    let h1:=hc.1;rw[Th jZ,za jZ] at h1;have:b9 (ap Pd) ((aV (W∩i) qs).map λg:Nat=>(g:Int))=true:=by
     rw[Nl,Z6];exact⟨x.toNat,Zd.mpr ⟨x,Nw,()⟩,Z7.mpr (Zd.mpr ⟨_,z,()⟩)⟩
    rw[this] at h1;cases h1
   let rp':0<bS (W∩i) qs x.toNat:=by unfold bS;exact div_pos (Y0.mpr wI) p2
   rw[Rat.lt_div_iff rp',Qc];by_cases e:bS (W∩i) qs x.toNat=bS (W∩i) qs b
   .exact afa (eqv e) np
   .grind
  .cases hz
def A1 (h:aM g W Pd≠[]):iI A Pu qs W g Pd≠[]:=by
 unfold iI;intro z;let z1:=(List.append_eq_nil_iff.mp z).1;let z2:=Xt.mp z1;let z3:↥((aT (aM g W Pd)).drop 1)=0:=by rw[z2];rfl
 rw[Qh,Sh] at z3;have:2 ^ 1<=2 ^ ↥(aM g W Pd):=Xc ∅ (Xg.mpr h);omega
def Nr {α : Type}{L:List α}{i:Nat}(d:α)(hi:i<↥L):L.take (i+1)=L.take i++[L.getD i d]:=by rw[List.take_succ,Zc hi,ao (Zc hi)];rfl
def uE (gs:List Nat):PyData:=.tuple (gs.map λg:Nat=>.int (g:Int))
end MI
namespace MI
open L2 KG EX KM RZ
section
def yN (c:Nat->Bool)(f a b:Nat->PyData)(hl:↥items<=1000000)(hi:∀(i:Nat) (x:AV),items[i]?=↑x->x=.im (.tuple [a i,b i]))
  (hc:∀(i:Nat) (Z:Bool->aX->Prop),i<↥items->Z (c i) O->C (((fQ n ix sl).set 0 ↑(.im (a i))).set 1 ↑(.im (b i))) O Z)
  (hs:∀(i:Nat) (Z:AV->aX->Prop),i<↥items->c i->Z (.im (f i)) O->M (((fQ n ix sl).set 0 ↑(.im (a i))).set 1 ↑(.im (b i))) O Z)
  (hd:Q (.im (.list (((~~~↥items).filter c).map f))) O):CB n ix (lz 2 (aG (aY 0) (aG (aY 1) cx))) C M sl Q items O:=by
 apply⟨hl,λi ds O'=>O'=O/\ds=((~~~i).filter c).map f,⟨(),()⟩,?_,λds O' ⟨e,h1⟩=>by rw[e,h1];exact hd⟩;rintro i x ds O' hx ⟨rfl,rfl⟩;let cN:=(Zg.mp hx).1;rw[hi i x hx];exact⟨(),hc i _ cN ⟨λh=>hs i _ cN h ⟨(),by rw[jG,h,aha rfl]⟩,λh=>⟨(),by rw[jG,h,aga ∅,Yn]⟩⟩⟩
end
section
def yj {c y:Rat}(hc:0<c)(hy:y<=0):c*y<=0:=by
 let h:=Yz hy (Zt hc)
 rwa [Xr] at h
def JR (pr:oJ A Pu W qs):eV ↥A W (.tuple (qs.map qD)):=Ej.mpr ⟨pr.len,pr.gW⟩
def Ex:FM:=λO xs P _=>match xs with
 |[.im (.int t),.im (.int u)]=>P (.im (.int (Int.gcd t u))) O
 |_=>False
def KH:uh K su Ex:=λw O H vs xs P PX Q E r a hf q x=>by
 unfold Ex at hf;split at hf
 .obtain⟨v,u,rfl,h1,h2⟩:=BC a;rw[gR h1,gR h2];exact⟨_,_,(),q _ _ O w H hf (bR.refl _ _ _) r (.int _)⟩
 .exact hf.elim
def IS:FM:=λO xs P _=>match xs with
 |[.im (.int t),.im (.int u)]=>(u≠0/\Bd 66000000 u)/\P (.im (qD (Rat.divInt t u))) O
 |_=>False
def MD:uh K (uA Nn) IS:=λw O H vs xs P PX Q E r a hf q x=>by
 unfold IS at hf;split at hf
 .obtain⟨v,u,rfl,h1,h2⟩:=BC a;rw[gR h1,gR h2];apply⟨_,_,(),hf.1.2,λz=>afa z hf.1.1,λ_ p hp=>?_⟩;let⟨r1,e1,t1⟩:=ff r hp (aI.cons (.int (Rat.divInt _ _).num) (.cons (.int ((Rat.divInt _ _).den:Int)) .nil));exact q _ _ O w _ hf.2 e1 r1 t1
 .exact hf.elim
def Ei (h:cr (G w O H) v (qD a)):∃p,v=.ref p/\H p=↑(qO a):=by
 let⟨p,xs,rfl,h1,t⟩:=eW h;cases t with |cons t1 t2=>cases t2 with |cons t2 t3=>cases t3;cases t1;cases t2;exact⟨p,(),h1⟩
def Wu (r:aE K w O H)(hp:H p=none)(a:Rat):aE K w O (aP H p (qO a))/\bR w O H w O (aP H p (qO a))/\cr (G w O (aP H p (qO a))) (.ref p) (qD a):=ff r hp (aI.cons (.int a.num) (.cons (.int (a.den:Int)) .nil))
def JN (r:aE K w O H)(s:az H H')(hp:H' p=↑(qO a)):aE K w O H'/\bR w O H w O H'/\cr (G w O H') (.ref p) (qD a):=jF r s hp (aI.cons (.int a.num) (.cons (.int (a.den:Int)) .nil))
def Vt:FM:=λO xs P _=>∃a b,xs=[.im (qD a),.im (qD b)]/\(Rb 32000000 a/\Rb 32000000 b/\b≠0)/\P (.im (qD (a / b))) O
def Kx:uh K (oq Nn) Vt:=λw O H vs xs P PX Q E r a hf q x=>by
 let⟨a1,b1,rfl,⟨h1,h2,h3⟩,hf⟩:=hf;let⟨v,u,rfl,g1,g2⟩:=BC a;let⟨p1,rfl,e1⟩:=Ei g1;let⟨p2,rfl,e2⟩:=Ei g2;apply⟨p1,p2,a1,b1,(),e1,e2,h1,h2,λz=>afa z h3,λ_ p hp=>?_⟩;let⟨r1,ex1,t1⟩:=Wu r hp (a1 / b1);exact q _ _ O w _ hf ex1 r1 t1
def Ew:FM:=λO xs P _=>∃(n:Int) (y:Rat),xs=[.im (.int n),.im (qD y)]/\(Rb 2010007 y/\0<y/\0<=n/\n<=100)/\P (.im (qD ((n:Rat) / y))) O
def AK:uh K ss Ew:=λw O H vs xs P PX Q E r a hf q x=>by
 let⟨n,y,rfl,⟨h1,h2,h3,h4⟩,hf⟩:=hf;let⟨v,u,rfl,g1,g2⟩:=BC a;let⟨p2,rfl,e2⟩:=Ei g2;rw[gR g1];apply⟨n,p2,y,(),e2,h1,h2,h3,h4,λt H' s ht=>?_⟩;let⟨r1,ex1,t1⟩:=JN r s ht;exact q _ _ O w _ hf ex1 r1 t1
def Gz (M:Γ1):C4 (.tuple (M.map bi)):=fH AD M
def xL:FM:=λO xs P _=>∃(A:Γ3) (Pu:Δ1) (W:Γ1) (qs:Δ1),xs=[.im (dJ A Pu W),.im (.tuple (qs.map qD))]/\oJ A Pu W qs/\P (.im (.tuple ((aw W qs).map bi))) O
def vG:uh K (ou Pr) xL:=λw O H vs xs P PX Q E r a hf q x=>by
 let⟨A,Pu,W,qs,rfl,pr,hf⟩:=hf;let⟨v1,v2,rfl,a1,a2⟩:=BC a;let⟨p,pa,pp,pw,xa,xp,xw,rfl,mk,la,lp⟩:=Ob 0 a1 pr.ok;let inj:∀yU:Δ1,PyData.tuple (qs.map qD)=.tuple (yU.map qD)->qs=yU:=λyU h=>by
  let h1:rM (qs.map qD)=rM (yU.map qD):=by injection h with h;rw[h]
  rwa [gL,gL] at h1
 apply⟨0,p,pa,pp,pw,xa,xp,xw,_,_,_,v2,.tuple (qs.map qD),(),⟨mk,ZL 0 a2 (sF qs),λyU h z hz=>?_⟩,λhn=>?_,λyU h hl hp t R5 H' s ht hr=>?_⟩
 .rw[<- inj yU h] at hz;exact(pr.bd z hz).mono ∅
 .exfalso;rw[Np,la] at hn;rw[JR pr] at hn;cases hn
 .let e:=inj yU h;subst e;rw[Np] at hr;let⟨r1,e1,_⟩:=r.ay s;let tr:fX 0 H' (.ref t) (.tuple ((aw W qs).map bi)):=.tup ht (EN hr);exact q _ _ O w H' hf e1 r1 (ZM r1 tr (Gz _))
def fPG:FM:=λO xs P _=>∃(A:Γ3) (Pu:Δ1) (W:Γ1) (qs:Δ1),xs=[.im (dJ A Pu W),.im (.tuple (qs.map qD))]/\oJ A Pu W qs/\gA A Pu qs W ↥A/\∀Pd,cb A Pu qs W ↥A Pd->P (.im (bi Pd)) O
def WN {De:Addr}:uh K (N3 De) fPG:=λw O H vs xs P PX Q E r a hf q x=>by
 let⟨A,Pu,W,qs,rfl,pr,cz,hf⟩:=hf;let⟨v1,v2,rfl,a1,a2⟩:=BC a;let⟨p,pa,pp,pw,xa,xp,xw,rfl,mk,la,lp⟩:=Ob 0 a1 pr.ok;let⟨qp,yp,rfl,pa'⟩:=acx 0 a2 pr.bd;apply⟨0,p,pa,pp,pw,qp,xa,xp,xw,yp,_,_,_,qs,(),⟨mk,pa',by rw[pr.len,la],by rw[Np];exact pr.gW⟩,λc aS ab=>?_⟩;rw[oY,gL,Np,la] at ab;let mf:=qu pr.ok;let hp:∀q∈Pu,0<=q:=λq hq=>Zt (mf.pu q hq).1
 let le0:∀y∈aS,y.1<=0:=λy hy=>by
  let h1:=ab.2.2 y hy;let h2:=cz y.2 (Fw ab hy);let hc:(0:Rat)<(c:Rat):=Y0.mpr ab.1;let h3:((y.1:Int):Rat)<=0:=by rw[h1];exact yj hc h2
  exact_mod_cast h3
 apply⟨λ⟨y,hy,h0⟩=>?_,λ_ t row H' s fM h0 cA ht=>?_⟩
 .have:=le0 y hy;omega
 .let pd:=Gj hp ab cz fM h0 cA;let⟨r1,e1,t1⟩:=jF r s ht (xo row.2);exact q _ _ O w H' (hf _ pd) e1 r1 t1
end
def any_map (ns:Γ3)(p:Int->Bool):(ns.map p).any id=ns.any p:=by rw[X7];rfl
def DZ:FM:=λO xs P _=>∃(M:Γ1) (S:Γ3),xs=[.im (.tuple (M.map bi)),.im (bi S)]/\↥M<=6/\(∀i,i<↥M->↥(M∩i)<=6)/\P (.im (uE (p6 M S))) O
abbrev OQ:Δ2:=["best","goods"]
def UV:MS:=(cO (kw kC (af (cH 2 [1] (XU (af (ah 0) ar)) (lz 2 (aG (aY 0) (aG (aY 1) cx))) (eM (kw D3 (af (cH 1 [2] (c7 (ah 1)) (aY 0) d7 (bA (Sl false) (ah 0) (ah 1))) ar))) (ah 0)) ar)))
def Fv {S:Γ3}{r:Γ3}(hl:↥r<=6)(hM:∀(i:Nat) (x:AV) (Z:AV->aX->Prop),((r.map PyData.int).map AV.im)[i]?=↑x->Z (.im (.bool (S.contains (r\i)))) O->M ((fQ n ix sl).set 0 ↑x) O Z)(hZ:Z (.im (.list ((r.map λg=>S.contains g).map .bool))) O):CB n ix (aY 0) d7 M sl Z ((r.map PyData.int).map AV.im) O:=by
 apply comp_map (λj=>.bool (S.contains (r\j))) (by rw[Zb,Zb];omega) (λj x Z hx hZ=>hM j x Z hx hZ) ?_;rw[Zb,Zb];let e:(~~~↥r).map (λj=>PyData.bool (S.contains (r\j)))=(r.map λg=>S.contains g).map .bool:=by
  rw[Zp];exact Lv (λg:Int=>PyData.bool (S.contains g)) r 0
 rw[e];exact hZ
def PR:∀O xs Pq QX,DZ O xs Pq QX->UV Pq⁻¹ (be OQ xs) O:=by
 intro O xs Pq QX h;let⟨M,S,rfl,n6,r6,h⟩:=h;apply yN (λi=>(M∩i).any λg=>S.contains g) (λi=>.int (i:Int)) (λi=>.int (i:Int)) (λi=>bi (M∩i)) (by unfold c8;simp;omega) (λi x hx=>?_) (λi Z hi hZ=>?_) (λi Z hi _ hZ=>hZ) ?_
 .obtain⟨hi,rfl⟩:=jw hx;rw[Zb] at hi;rw[show(M.map bi).getD i .none=bi (M∩i) from jY hi]
 .let hi:i<↥M:=by unfold c8 at hi;simpa using hi
  conv=>whnf
  apply Fv (S:=S) (r6 i hi) (λj x Z hx hZ=>?_) ⟨_,(),?_⟩
  .obtain⟨hj,rfl⟩:=fg hx;exact⟨S,(),hZ⟩
  .show Z (List.any _ id) O;rw[any_map];exact hZ
 .let e:↥(c8 (M.map bi))=↥M:=by unfold c8;simp
  rw[e];exact h
def u4:FM:=λO xs P _=>∃ns:Γ3,xs=[.im (bi ns)]/\↥ns<=6/\P (.im (.list ((aT ns).map bi))) O
abbrev Pe:Δ2:=["members","sets","member"]
def Mz:MS:=(aU (bv (kD (af (iQ ar) ar)) (aY 1))
 (aU (nW (c7 (ah 0)) (aY 2) (bv (bA hC (ah 1) (cH 1 [2] (c7 (ah 1)) (aY 0) d7 (bA hC (ah 0) (iQ (af (ah 1) ar))))) (aY 1)))
 (cO (ah 1))))
def JF:∀O xs Pq QX,u4 O xs Pq QX->Mz Pq⁻¹ (be Pe xs) O:=by
 intro O xs Pq QX h;let⟨ns,rfl,n6,h⟩:=h;apply⟨Om,DU,?_⟩;apply⟨?_⟩;conv=>whnf
 apply⟨λi sl O'=>O'=O/\∃y,sl=[Φ9 (bi ns),Φ9 (.list ((aT (ns.take i)).map bi)),y],⟨(),_,()⟩,?_,?_⟩
 .rintro i x sl O' hx ⟨rfl,y,rfl⟩;let⟨hi,rfl⟩:=fg hx;let ht:=Nr (0:Int) hi;let hl:↥(aT (ns.take i))<=64:=by
   rw[Sh];exact Xc (n:=2) ∅ (show↥(ns.take i)<=6 by rw[Yw];omega)
  apply⟨?_⟩;conv=>whnf
  apply comp_map (λj=>bi ((aT (ns.take i))∩j++[ns\i])) (by rw[Zb,Zb];omega) (λj x Z hx hZ=>?_) ?_
  .obtain⟨hj,rfl⟩:=kK hx;let hm:=(BV (show(aT (ns.take i))∩j∈aT (ns.take i) by rw[ao (Zc hj)];exact Zw _)).2;let Sv:↥((aT (ns.take i))∩j)<=6:=by rw[Yw] at hm;omega
   apply⟨DU,by rw[Zb,sz];show _+1<=_;omega,?_⟩;let e:bi ((aT (ns.take i))∩j++[ns\i])=.tuple (((aT (ns.take i))∩j).map .int++[.int (ns\i)]):=by unfold bi;rw[Zs];rfl
   rw[e] at hZ;exact hZ
  .rw[Zb,Zb,Lv (λr:Γ3=>bi (r++[ns\i])) (aT (ns.take i)) []];apply⟨by rw[Zb,Zb,sz];omega,(),Φ9 (.int (ns\i)),?_⟩;rw[ht,ke,Zs,Zp];rfl
 .rintro sl O' ⟨rfl,y,rfl⟩;rw[Zb,Zb,Yo];exact⟨h⟩
def Kq {s:List Nat}(h:((s.map λg:Nat=>PyData.int (g:Int)).map AV.im)[i]?=↑x):i<↥s/\x=.im (.int ((s.getD i 0:Nat):Int))/\(s\i)∈s:=Ko h
def lQ:FM:=λO xs P _=>∃(cs:Γ3) (s:List Nat),xs=[.im (eU cs),.im (uE s)]/\↥s<=6/\(∀i∈s,i<↥cs)/\P (.im (.int (Bu cs s))) O
abbrev OY:Δ2:=["coins","some"]
def Fc:MS:=(cO (kw N0 (af (cH 1 [0] (c7 (ah 1)) (aY 0) d7 (bA cG (ah 1) (ah 0))) ar)))
def FR:∀O xs Pq QX,lQ O xs Pq QX->Fc Pq⁻¹ (be OY xs) O:=by
 intro O xs Pq QX h;let⟨cs,s,rfl,s6,hs,h⟩:=h;conv=>whnf
 apply comp_map (λj=>.int (cs\(s\j))) (by rw[Zb,Zb];omega) (λj x Z hx hZ=>?_) ?_
 .obtain⟨hj,rfl,hm⟩:=Kq hx;exact⟨_,int_at (hs _ hm),hZ⟩
 .rw[Zb,Zb,AG s 0 (λb=>cs\b)];exact⟨_,(),h⟩
def IP:FM:=λO xs P _=>∃(A:Γ3) (Pu:Δ1) (W:Γ1) (qs:Δ1),xs=[.im (dJ A Pu W),.im (.tuple (qs.map qD))]/\↥qs=↥A/\↥A<=6/\(∀a∈A,1<=a/\a<=60)/\(∀z∈qs,Rb 2010000 z)/\P (.im (.list ((gx A qs).map qD))) O
abbrev OW:Δ2:=Ψ8
def U2:MS:=(cO (cH 2 [] (Tf (af (bA cG (ah 0) (mC (.int 0))) (af (ah 1) ar))) (lz 2 (aG (aY 0) (aG (aY 1) cx))) d7 (aC (f2 pU) cE (af (iQ (af (ah 0) (af (mC (.int 1)) ar))) (af (ah 1) ar)))))
def P0:∀O xs Pq QX,IP O xs Pq QX->U2 Pq⁻¹ (be OW xs) O:=by
 intro O xs Pq QX h;let⟨A,Pu,W,qs,rfl,hl,g6,hA,hq,h⟩:=h;apply⟨_,(),by rw[Zb,Zb];omega,?_⟩;apply gP (λj=>qD (((A.getD j 0:Int):Rat)*(qs\j))) (λj=>.int (A\j)) (λj=>qD (qs\j)) (by rw[Hj,Zb];omega) (λi x hx=>?_) (λi Z hi hZ=>?_) ?_
 .obtain⟨hi,rfl⟩:=sq hx;rw[Zb] at hi;rw[show(A.map PyData.int).getD i .none=.int (A\i) from jY hi,show(qs.map qD).getD i .none=qD (qs\i) from jY ⋯]
 .rw[Hj,Zb] at hi;let ha:=hA (A\i) (by rw[ao (Zc hi)];exact Zw _);let hb:=hq (qs\i) (by rw[ao (Zc (show i<↥qs by omega))];exact Zw _);exact⟨lG,((A.getD i 0:Int):Rat),qs\i,(),⟨(fw (k:=6) (by unfold Bd;omega) ∅).mono ∅,hb.mono ∅⟩,hZ⟩
 .rw[Hj,Zb];let e:(~~~↥A).map (λj=>qD (((A.getD j 0:Int):Rat)*(qs\j)))=(gx A qs).map qD:=by
   unfold gx;rw[Zp,hl];exact Xd λj _=>by show qD _=qD _;rw[Rat.mul_comm]
  rw[e];exact h
def IL:FM:=λO xs P _=>∃(ls:Δ1) (kb:Nat),xs=[.im (.list (ls.map qD))]/\↥ls<=12/\kb<=2010007/\(∀z∈ls,Rb kb z)/\∀(c:Int) (ms:Γ3),0<c->c9 c ms ls->(∀m∈ms,Bd (13*kb+1) m)->P (.im (eU ms)) O
abbrev OU:Δ2:=["parts","bottom","part"]
def U0:MS:=(aU (bv (mC (.int 1)) (aY 1))
 (aU (nW (c7 (ah 0)) (aY 2) (bv (bA Il (bA OG (ah 1) (aC Ex cE (af (ah 1) (af (bA cG (ah 2) (mC (.int 1))) ar)))) (bA cG (ah 2) (mC (.int 1)))) (aY 1)))
 (cO (cH 1 [1] (c7 (ah 0)) (aY 0) d7 (bA Il (bA cG (ah 0) (mC (.int 0))) (bA OG (ah 1) (bA cG (ah 0) (mC (.int 1)))))))))
def PY:∀O xs Pq QX,IL O xs Pq QX->U0 Pq⁻¹ (be OU xs) O:=by
 intro O xs Pq QX h;let⟨ls,kn,rfl,ll,k3,lb,j3⟩:=h;apply⟨?_⟩;conv=>whnf
 let lat:∀{j:Nat}{x:AV},((ls.map qD).map AV.im)[j]?=↑x->j<↥ls/\x=.im (qD (ls\j))/\Rb kn (ls\j):=λ{j x} hx=>by
  let hj:j<↥ls:=by have:=(Zg.mp hx).1;simpa using this
  rw[Zo,ky (f:=qD) (d:=0) hj] at hx;exact⟨hj,(aaa hx).symm,lb _ (by rw[ao (Zc hj)];exact Zw _)⟩
 apply⟨λi sl O'=>O'=O/\∃(pQ:Int) (y4:Option AV),sl=[Φ9 (.list (ls.map qD)),Φ9 (.int pQ),y4]/\0<pQ/\Bd (kn*i+1) pQ/\∀j,j<i->((ls\j).den:Int)∣pQ,⟨(),1,none,(),∅,by rw[Nat.mul_zero];unfold Bd;decide,λj hj=>afa hj ⋯⟩,?_,?_⟩
 .rintro i x sl O' hx ⟨rfl,pQ,y4,rfl,b0,bb,bd⟩;let⟨hi,rfl,hb⟩:=lat hx;let dp:(0:Int)<((ls\i).den:Int):=by have:=(ls\i).den_pos;omega
  let gp:(0:Int)<(Int.gcd pQ ((ls\i).den:Int):Int):=by have:=Qz pQ (show((ls\i).den:Int)≠0 by omega);omega
  let g1:(Int.gcd pQ ((ls\i).den:Int):Int)∣pQ:=Int.gcd_dvd_left ..;let g2:(Int.gcd pQ ((ls\i).den:Int):Int)∣((ls\i).den:Int):=Q4 ..;generalize hgg:(Int.gcd pQ ((ls\i).den:Int):Int)=gg at gp g1 g2;let gb:Bd 66000000 gg:=by
   apply(hb.2.mono (show kn<=66000000 by omega)).le ?_;have:=Int.le_of_dvd dp g2;omega
  let⟨k,hk⟩:=g1;let k0:0<k:=by
   rcases Int.lt_or_le 0 k with z |z
   .exact z
   .have:gg*k<=0:=Int.mul_nonpos_of_nonneg_of_nonpos ⋯ z;omega
  let ek:pQ / gg=k:=by rw[hk,Int.mul_ediv_cancel_left _ ⋯]
  let kl:kn*i<=24120084:=Xu k3 (show i<=12 by omega);let kb:Bd (kn*i+1) k:=bb.le (by
   have:k<=gg*k:=by
    have:=Int.mul_le_mul_of_nonneg_right (show 1<=gg by omega) (show 0<=k by omega)
    rwa [Int.one_mul] at this
   omega)
  apply⟨_,(),⟨by rw[hgg];exact gp,by rw[hgg];exact gb⟩,_,(),?_⟩;dsimp only;rw[hgg,ek];apply⟨⟨kb.mono ⋯,hb.2.mono ⋯⟩,(),_,_,(),Xz k0 dp,(kb.mul hb.2).mono (by rw[Nat.mul_succ];omega),λj hj=>?_⟩;rcases Yb j i with y |y
  .let h1:=bd j y;let⟨m,hm⟩:=g2;have:k*((ls\i).den:Int)=pQ*m:=by rw[hm,hk];grind
   rw[this];exact Int.dvd_trans h1 (Int.dvd_mul_right _ _)
  .obtain rfl:j=i:=⋯;exact Int.dvd_mul_left _ _
 .rintro sl O' ⟨rfl,pQ,y4,rfl,b0,bb,bd⟩;rw[Zb,Zb] at bb bd;let kl:kn*↥ls<=kn*12:=Nat.mul_le_mul_left kn ll;let bdv:∀j,j<↥ls->Bd (kn*↥ls+1) (pQ / ((ls\j).den:Int)):=λj hj=>by
   let dp:(0:Int)<((ls\j).den:Int):=by have:=(ls\j).den_pos;omega
   apply bb.le ?_;let h1:=Int.ediv_nonneg (show 0<=pQ by omega) (show(0:Int)<=((ls\j).den:Int) by omega);let h2:=Int.ediv_le_self ((ls\j).den:Int) (show 0<=pQ by omega);omega
  apply⟨?_⟩;conv=>whnf
  apply comp_map (λj=>.int ((ls\j).num*(pQ / ((ls\j).den:Int)))) (by rw[Zb,Zb];omega) (λj x Z hx hZ=>?_) ?_
  .obtain⟨hj,rfl,hb⟩:=lat hx;let dp:(0:Int)<((ls\j).den:Int):=by have:=(ls\j).den_pos;omega
   exact⟨_,(),_,(),⟨dp,hb.2.mono ⋯⟩,⟨hb.1.mono ⋯,(bdv j hj).mono ⋯⟩,hZ⟩
  rw[Zb,Zb,AG ls 0 (λq:Rat=>q.num*(pQ / (q.den:Int)))];apply j3 pQ _ b0 ⟨by simp,λj hj=>?_⟩ λm hm=>?_
  .rw[show(ls.map λq:Rat=>q.num*(pQ / (q.den:Int)))\j=(ls\j).num*(pQ / ((ls\j).den:Int)) from jY hj];let bj:=bd j hj;generalize ls.getD j 0=q at bj ⊢;let⟨k,hk⟩:=bj;let dp:(q.den:Int)≠0:=by have:=q.den_pos;omega
   rw[hk,Int.mul_ediv_cancel_left _ dp,Qu,Qu];let e:q=((q.num:Int):Rat) / ((q.den:Int):Rat):=by rw[<- Xe];exact(Xi q).symm
   let dq:((q.den:Int):Rat)≠0:=λz=>dp (by exact_mod_cast z)
   let e2:q*((q.den:Int):Rat)=((q.num:Int):Rat):=by
    conv=>lhs;rw[e]
    grind
   rw[<- e2]
   grind
  .obtain⟨q,YC,rfl⟩:=Zd.mp hm;let⟨j,hj,rfl⟩:=Yf YC;let hb:=lb _ YC;have:=bdv j hj;rw[ao (Zc hj)] at this;exact(hb.1.mul this).mono ⋯
def xr:FM:=λO xs P _=>∃(A:Γ3) (Pu:Δ1) (W:Γ1) (qs:Δ1) (kb:Nat),xs=[.im (dJ A Pu W),.im (.tuple (qs.map qD))]/\↥qs=↥A/\↥A<=6/\↥Pu<=6/\(∀a∈A,1<=a/\a<=60)/\(∀z∈Pu,Rb 20 z)/\kb<=2010000/\20<=kb/\(∀z∈qs,Rb kb z)/\∀(c:Int) (ms ps:Γ3),0<c->c9 c ms (gx A qs)->c9 c ps Pu->(∀m∈ms,Bd (13*kb+79) m)->(∀m∈ps,Bd (13*kb+79) m)->P (.im (.tuple [eU ms,eU ps])) O
abbrev VG:Δ2:=["market","prices","coins","goods"]
def U3:MS:=(aU (bv (aC IL cE (af (bA hC (aC IP cE (af (ah 0) (af (ah 1) ar))) (kw Oj (af (bA cG (ah 0) (mC (.int 1))) ar))) ar)) (aY 2))
 (aU (bv (kw uF (af (bA cG (ah 0) (mC (.int 0))) ar)) (aY 3))
 (cO (iQ (af (Is (ah 2) By (Bx (ah 3))) (af (Is (ah 2) (Bx (ah 3)) By) ar))))))
def P1:∀O xs Pq QX,xr O xs Pq QX->U3 Pq⁻¹ (be VG xs) O:=by
 intro O xs Pq QX h;let⟨A,Pu,W,qs,kn,rfl,hl,g6,n6,hA,hP,k3,k2,hq,h⟩:=h;let hAa:∀j,j<↥A->1<=A\j/\(A\j)<=60:=λj hj=>hA _ (by rw[ao (Zc hj)];exact Zw _)
 let ml:↥(gx A qs)=↥qs:=by unfold gx;simp
 apply⟨A,Pu,W,qs,(),hl,g6,hA,λz hz=>(hq z hz).mono k3,_,(),by rw[Zb,Zb,ml,sz];omega,gx A qs++Pu,kn+6,by rw[Zs],by rw[Zv];omega,⋯,λz hz=>?_,λc ms hc hi hmb=>?_⟩
 .rcases Zz.mp hz with hz |hz
  .obtain⟨j,hj,rfl⟩:=Zd.mp hz;let hj:=Zh.mp hj;let ha:=hAa j ⋯;exact(j6 (j:=kn) (k:=6) (hq _ (by rw[ao (Zc hj)];exact Zw _)) (fw (by unfold Bd;omega) ∅)).mono (Zf _)
  .exact(hP z hz).mono ⋯
 let⟨i1,i2⟩:=yE hi;let Su:↥ms=↥qs+↥Pu:=by rw[hi.1,Zv,ml]
 rw[ml] at i1 i2;let fi:=h c _ _ hc i1 i2 (λm hm=>(hmb m (List.mem_of_mem_take hm)).mono ⋯) λm hm=>(hmb m (List.mem_of_mem_drop hm)).mono ⋯
 apply⟨⟨_,(),⟨?_⟩⟩⟩;let hqm:((↥(A.map PyData.int):Nat):Int)=((↥qs:Nat):Int):=by rw[Zb,hl]
 let hto:=G5 (xs:=ms.map PyData.int) (r:=↥qs) (by rw[Zb];omega);let LB:=rC (xs:=ms.map PyData.int) (r:=((↥qs:Nat):Int)) ⋯ (by rw[Zb];omega);rw[Zy] at LB;show[PyData.list (cutD (ms.map .int) none ↑((↥(A.map PyData.int):Nat):Int)),PyData.list (cutD (ms.map .int) ↑((↥(A.map PyData.int):Nat):Int) none)].length<=sizeLine/\Pq (.im (.tuple [PyData.list (cutD (ms.map .int) none ↑((↥(A.map PyData.int):Nat):Int)),PyData.list (cutD (ms.map .int) ↑((↥(A.map PyData.int):Nat):Int) none)])) _;rw[hqm,hto,LB];apply⟨lG,?_⟩;unfold eU at fi;rw[List.map_take,List.map_drop] at fi;exact fi
def bO (M:Γ1)(Pd:Γ3):Γ1:=M.map λr=>if (r.any λg=>Pd.contains g)=true then [] else r
def uZ:FM:=λO xs P _=>∃(M:Γ1) (Pd:Γ3),xs=[.im (.tuple (M.map bi)),.im (bi Pd)]/\↥M<=6/\(∀i,i<↥M->↥(M∩i)<=6)/\P (.im (.tuple ((bO M Pd).map bi))) O
abbrev OX:Δ2:=["best","paid"]
def Mw:MS:=(cO (kw kC (af (cH 1 [1] (c7 (ah 0)) (aY 0) d7 (Tg (eM (kw D3 (af (cH 1 [1] (c7 (ah 0)) (aY 0) d7 (bA (Sl false) (ah 0) (ah 1))) ar))) (iQ ar) (ah 0))) ar)))
def JE:∀O xs Pq QX,uZ O xs Pq QX->Mw Pq⁻¹ (be OX xs) O:=by
 intro O xs Pq QX h;let⟨M,Pd,rfl,n6,r6,h⟩:=h;conv=>whnf
 apply comp_map (λi=>bi (if ((M∩i).any λg=>Pd.contains g)=true then [] else M∩i)) (by rw[Zb,Zb];omega) (λi x Z hx hZ=>?_) ?_
 .obtain⟨hi,rfl⟩:=kK hx;conv=>whnf
  apply Fv (S:=Pd) (r6 i hi) (λj x Z hx hZ=>?_) ⟨_,(),?_⟩
  .obtain⟨hj,rfl⟩:=fg hx;exact⟨Pd,(),hZ⟩
  .show(List.any _ id->_)/\(List.any _ id=false->_);rw[any_map];apply⟨λhc=>⟨Om,?_⟩,λhc=>?_⟩
   .rw[aha hc] at hZ;exact hZ
   .rw[aga (by rw[hc];decide)] at hZ;exact hZ
 .rw[Zb,Zb,Lv (λr:Γ3=>bi (if (r.any λg=>Pd.contains g)=true then [] else r)) M []];unfold bO at h;rw[Zp] at h;exact h
def Ck (hP:∀x∈Pd,0<=x)(hS:∀x∈S,0<=x):p6 (bO (aw W qs) Pd) S=loose W qs Pd S:=by
 unfold loose;rw[<- sW (W:=W) (qs:=qs) hS,<- sW (W:=W) (qs:=qs) hP];unfold p6;let hl:↥(bO (aw W qs) Pd)=↥(aw W qs):=by unfold bO;simp
 rw[hl,Qr];apply Y4 λi hi=>?_
 let hi:=Zh.mp hi;let e:(bO (aw W qs) Pd)∩i=if (((aw W qs)∩i).any λg=>Pd.contains g)=true then [] else (aw W qs)∩i:=by unfold bO;exact jY hi
 rw[e];let ec:((~~~↥(aw W qs)).filter λi=>((aw W qs)∩i).any λg=>Pd.contains g).contains i=((aw W qs)∩i).any λg=>Pd.contains g:=by
  rw[Ya,Z7,Ze,Zh];exact⟨λh=>h.2,λh=>⟨hi,h⟩⟩
 rw[ec];cases ((aw W qs)∩i).any λg=>Pd.contains g with
 |true=>rw[aha rfl];simp
 |false=>rw[aga ∅];simp
def zL:FM:=λO xs P _=>∃(qs:Δ1) (R:Γ3) (f:Rat),xs=[.im (.tuple (qs.map qD)),.im (bi R),.im (qD f)]/\↥qs<=6/\(∀z∈qs,Rb 32000000 z)/\Rb 32000000 f/\P (.im (.tuple (((~~~↥qs).map λg:Nat=>if R.contains (g:Int)=true then qs\g*f else qs\g).map qD))) O
abbrev OS:Δ2:=["prices","rising","factor"]
def Mp:MS:=(cO (kw kC (af (cH 2 [2,1] (XU (af (ah 0) ar)) (lz 2 (aG (aY 0) (aG (aY 1) cx))) d7 (Tg (eM (bA (Sl false) (ah 0) (ah 3))) (aC (f2 pU) cE (af (ah 1) (af (ah 2) ar))) (ah 1))) ar)))
def JA:∀O xs Pq QX,zL O xs Pq QX->Mp Pq⁻¹ (be OS xs) O:=by
 intro O xs Pq QX h;let⟨qs,R,f,rfl,g6,hq,hf,h⟩:=h;let el:↥(c8 (qs.map qD))=↥qs:=by unfold c8;simp
 apply gP (λi=>qD (if R.contains ((i:Nat):Int)=true then qs\i*f else qs\i)) (λi=>.int (i:Int)) (λi=>qD (qs\i)) (by rw[el];omega) (λi x hx=>?_) (λi Z hi hZ=>?_) ?_
 .obtain⟨hi,rfl⟩:=jw hx;rw[Zb] at hi;rw[show(qs.map qD).getD i .none=qD (qs\i) from jY hi]
 .rw[el] at hi;let hb:=hq (qs\i) (by rw[ao (Zc hi)];exact Zw _);apply⟨R,(),λhc=>⟨qs\i,f,(),⟨hb,hf⟩,?_⟩,λhc=>?_⟩
  .let hc:R.contains ((i:Nat):Int):=hc;rw[aha hc] at hZ;exact hZ
  .let hc:R.contains ((i:Nat):Int)=false:=hc;rw[aga (by rw[hc];decide)] at hZ;exact hZ
 .rw[el];rw[Zp] at h;exact h
def sR:FM:=λO xs P _=>∃L:Δ1,xs=[.im (.list (L.map qD))]/\L≠[]/\(∀z∈L,Rb 32000000 z)/\∀f,jW L f->P (.im (qD f)) O
abbrev VF:Δ2:=["parts","found","part"]
def Fa:MS:=(aU (bv (bA cG (ah 0) (mC (.int 0))) (aY 1))
 (aU (nW (c7 (ah 0)) (aY 2) (mY (eM (aC u3 cE (af (ah 2) (af (ah 1) ar)))) (bv (ah 2) (aY 1)) iH))
 (cO (ah 1))))
def FO:∀O xs Pq QX,sR O xs Pq QX->Fa Pq⁻¹ (be VF xs) O:=by
 intro O xs Pq QX h;let⟨L,rfl,bF,hb,h⟩:=h;let h0:0<↥L:=Xg.mpr bF;let hm:∀i,i<↥L->L\i∈L:=λi hi=>by rw[ao (Zc hi)];exact Zw _
 apply⟨_,bB (i:=0) (ky (f:=qD) (d:=(0:Rat)) h0),?_⟩;apply⟨?_⟩;conv=>whnf
 apply⟨λi sl O'=>O'=O/\∃(f:Rat) (y:Option AV),sl=[Φ9 (.list (L.map qD)),Φ9 (qD f),y]/\f∈L/\∀z∈L.take i,f<=z,⟨(),_,_,(),hm 0 h0,λz hz=>(by cases hz)⟩,?_,?_⟩
 .rintro i x sl O' hx ⟨rfl,f,y,rfl,f1,f2⟩;let hi:i<↥L:=by have:=(Zg.mp hx).1;simpa using this
  rw[Zo,ky (f:=qD) (d:=(0:Rat)) hi] at hx;cases aaa hx;let ht:=Nr (0:Rat) hi;apply⟨L\i,f,(),⟨hb _ (hm i hi),hb _ f1⟩,λhc=>⟨(),_,_,(),hm i hi,?_⟩,λhc=>⟨(),_,_,(),f1,?_⟩⟩
  .grind
  grind
 .rintro sl O' ⟨rfl,f,y,rfl,f1,f2⟩;rw[Zb,Zb,Yo] at f2;exact⟨h f ⟨f1,f2⟩⟩
def FJ (h:∀x∈S,0<=x):bi S=uE (ap S):=by
 unfold bi uE ap;rw[Zp]
 congr 1
 exact Xd λx hx=>by show PyData.int x=PyData.int ((x.toNat:Nat):Int);rw[Xa (h x hx)]
def Jr (nd:ns.Nodup):(aT ns).filter (λS=>!S.isEmpty)=(aT ns).drop 1:=by
 let e0:aT ns=[]::(aT ns).drop 1:=lX ns;let h:∀S∈(aT ns).drop 1,(!S.isEmpty)=true:=λS hS=>by
  have:=(jD nd hS).2;cases S with
  |nil=>exact afa rfl this
  |cons _ _=>rfl
 conv=>lhs;rw[e0]
 rw[Qs ∅,X1.mpr h]
def zN:FM:=λO xs P _=>∃(A:Γ3) (Pu:Δ1) (W:Γ1) (qs:Δ1) (Pd:Γ3),xs=[.im (dJ A Pu W),.im (.tuple (qs.map qD)),.im (.tuple ((bO (aw W qs) Pd).map bi)),.im (bi (aM ↥A W Pd))]/\cW A Pu W qs/\Pd.Sublist (ai ↥A W)/\P (.im (.list ((((aT (aM ↥A W Pd)).drop 1).map (rX A Pu qs W Pd)).map qD))) O
abbrev OT:Δ2:=["market","prices","loose","rising","money","purses"]
def Mr:MS:=(aU (bv (aC xr cE (af (ah 0) (af (ah 1) ar))) (lz 2 (aG (aY 4) (aG (aY 5) cx))))
 (cO (cH 1 [2,4,5] (c7 (aC u4 cE (af (ah 3) ar))) (aY 0) (DR (ah 0)) (aC IS cE (af (aC lQ cE (af (ah 3) (af (aC DZ cE (af (ah 1) (af (ah 0) ar))) ar))) (af (aC lQ cE (af (ah 2) (af (ah 0) ar))) ar))))))
def JC:∀O xs Pq QX,zN O xs Pq QX->Mr Pq⁻¹ (be OT xs) O:=by
 intro O xs Pq QX h;let⟨A,Pu,W,qs,Pd,rfl,rp,NM,h⟩:=h;let pr:=rp.pr;let mf:=qu pr.ok;let hl:=pr.len;let g6:=mf.g6;let n6:=mf.n6;let wl:=mf.wl;let hR:(aM ↥A W Pd).Sublist (ai ↥A W):=Zu;let NL:(aM ↥A W Pd).Nodup:=(Df ↥A W).sublist hR;let YM:↥(aM ↥A W Pd)<=6:=by have:=hR.length_le;have:=Dw ↥A W;omega
 apply⟨A,Pu,W,qs,2010000,(),hl,g6,n6,mf.am,λz hz=>(mf.pu z hz).2,Zf _,∅,pr.bd,λc ms ps hc im ip imb _=>?_⟩;let mm:↥(gx A qs)=↥qs:=by unfold gx;simp
 let iml:↥ms=↥A:=by rw[im.1,mm,hl]
 let ipl:↥ps=↥Pu:=ip.1;apply⟨(),⟨_,(),YM,?_⟩⟩;conv=>whnf
 let alk:↥(aT (aM ↥A W Pd))<=64:=by rw[Sh];exact Xc (n:=2) ∅ YM
 apply Sf (λj=>!((aT (aM ↥A W Pd))∩j).isEmpty) (λj=>qD (rX A Pu qs W Pd ((aT (aM ↥A W Pd))∩j))) (by rw[Zb,Zb];omega) (λj x Z hx hZ=>?_) (λj x Z hx pY hZ=>?_) ?_
 .obtain⟨hj,rfl⟩:=kK hx;apply⟨(),?_⟩;show Z (!_) O;rw[Qv];exact hZ
 .obtain⟨hj,rfl⟩:=kK hx;let hS:(aT (aM ↥A W Pd))∩j∈aT (aM ↥A W Pd):=by rw[ao (Zc hj)];exact Zw _
  generalize (aT (aM ↥A W Pd)).getD j []=S at hS hZ pY ⊢;let TR:S≠[]:=λz=>by rw[z] at pY;cases pY
  let hSr:=cm.mp hS;let hs:=hSr.trans hR;let hsl:↥S<=6:=by have:=hSr.length_le;omega
  let hs0:∀x∈S,0<=x:=λx hx=>(pW (hs.subset hx)).1
  let Ψ:∀x∈Pd,0<=x:=λx hx=>(pW (NM.subset hx)).1
  let lol:↥(bO (aw W qs) Pd)=↥W:=by unfold bO;rw[Zb,HD]
  let lor:∀i,i<↥(bO (aw W qs) Pd)->↥((bO (aw W qs) Pd)∩i)<=6:=λi hi=>by
   let jZ:i<↥W:=⋯;let e:(bO (aw W qs) Pd)∩i=if (((aw W qs)∩i).any λg=>Pd.contains g)=true then [] else (aw W qs)∩i:=by unfold bO;exact jY (by rw[HD];exact jZ)
   rw[e];split
   .exact Z9 _
   .exact Zl (o9 jZ (mf.wr i jZ)) g6
  let mS:=rp.money hs TR;let um:(((Bu ms (ap S):Int)):Rat)=(c:Rat)*dM A qs (ap S):=lf im λi hi=>by
   let⟨x,hx,rfl⟩:=Zd.mp hi;have:=(pW (hs.subset hx)).2.1;omega
  let tm:(((Bu ps (loose W qs Pd S):Int)):Rat)=(c:Rat)*bh Pu (loose W qs Pd S):=lf ip λi hi=>by
   have:=ph (Ze.mp hi).1;omega
  let u0:0<Bu ms (ap S):=by
   have:(0:Rat)<((Bu ms (ap S):Int):Rat):=by rw[um];exact Xj (Y0.mpr hc) mS
   exact Y0.mp this
  let ub:Bd 66000000 (Bu ms (ap S)):=by
   apply(RV (k:=27000000) (λx hx=>?_) ?_).mono ∅
   .obtain⟨i,hi,rfl⟩:=Zd.mp hx;let⟨y,hy,rfl⟩:=Zd.mp hi;have:=(pW (hs.subset hy)).2.1;exact(imb _ (by rw[ao (Zc (show y.toNat<↥ms by omega))];exact Zw _)).mono ∅
   .unfold ap;rw[Zb,Zb];exact hsl
  apply⟨bO (aw W qs) Pd,S,(),⋯,lor,ps,p6 (bO (aw W qs) Pd) S,(),?_,?_,ms,ap S,?_,?_,?_,⟨⋯,ub⟩,?_⟩
  .unfold p6;apply Zl (Y3 _ _) ?_;rw[Ys];omega
  .intro i hi;have:=Zh.mp (Ze.mp hi).1;omega
  .rw[<- FJ hs0];rfl
  .unfold ap;rw[Zb];exact hsl
  .intro i hi;let⟨x,hx,rfl⟩:=Zd.mp hi;have:=(pW (hs.subset hx)).2.1;omega
  .rw[Ck Ψ hs0,CJ hc tm um mS];exact hZ
 .rw[Zb,Zb,G1 (aT (aM ↥A W Pd)) [] (λS=>!S.isEmpty) (λS=>qD (rX A Pu qs W Pd S)),Jr NL];rw[Zp] at h;exact h
def sQ:FM:=λO xs P _=>∃(A:Γ3) (Pu:Δ1) (W:Γ1) (qs:Δ1) (Pd:Γ3),xs=[.im (dJ A Pu W),.im (.tuple (qs.map qD)),.im (.tuple ((bO (aw W qs) Pd).map bi)),.im (bi Pd)]/\cW A Pu W qs/\Pd.Sublist (ai ↥A W)/\P (.im (.list ((iG W qs Pd ↥W).map qD))) O
abbrev OV:Δ2:=["market","prices","loose","paid"]
def E9:MS:=(cO (xF 3 [3,1] (Tf (af (bA cG (ah 0) (mC (.int 2))) (af (ah 2) ar))) (lz 2 (aG (aY 0) (aG (aY 1) cx))) (DR (ah 1)) (c7 (ah 3)) 2 (eM (bA NN (bA cG (ah 0) (ah 2)) (mC (.int 0)))) (aC Vt cE (af (aC Ew cE (af (bA cG (ah 0) (bA cG (ah 1) (mC (.int 0)))) (af (bA cG (ah 4) (bA cG (ah 1) (mC (.int 0)))) ar))) (af (aC Ew cE (af (bA cG (ah 0) (ah 2)) (af (bA cG (ah 4) (ah 2)) ar))) ar)))))
def l4 (i:Nat):iG W qs Pd (i+1)=iG W qs Pd i++(if !(eA W qs (ap Pd)).contains i&&!((aw W qs)∩i).isEmpty then lE (W∩i) qs Pd (((aw W qs)∩i)\0).toNat else []):=by
 unfold iG;rw[Xb,List.flatMap_append,List.flatMap_singleton]
def Ad:↥(lE row qs Pd b)<=↥Pd:=by
 unfold lE;rw[Zb];exact Y3 _ _
def vC (h:↥Pd<=6)(m:Nat):↥(iG W qs Pd m)<=6*m:=by
 induction m with
 |zero=>exact Zf _
 |succ m ih =>
  rw[l4,Zv];let h5:↥(if (!(eA W qs (ap Pd)).contains m&&!((aw W qs)∩m).isEmpty)=true then lE (W∩m) qs Pd (((aw W qs)∩m)\0).toNat else [])<=6:=by
   split
   .exact Zl Ad h
   .exact Z9 _
  omega
def FA {Pd:Γ3}(hj:j<↥Pd):lE row qs (Pd.take (j+1)) b=lE row qs (Pd.take j) b++(if 0<row\(Pd\j).toNat then [bS row qs b / bS row qs (Pd\j).toNat] else []):=by
 unfold lE;rw[Nr (0:Int) hj,Xp,Zs]
 grind
def FN:∀O xs Pq QX,sQ O xs Pq QX->E9 Pq⁻¹ (be OV xs) O:=by
 intro O xs Pq QX h;let⟨A,Pu,W,qs,Pd,rfl,rp,NM,h⟩:=h;let pr:=rp.pr;let mf:=qu pr.ok;let hl:=pr.len;let g6:=mf.g6;let n6:=mf.n6;let wl:=mf.wl;let Ξ:↥Pd<=6:=by have:=NM.length_le;have:=Dw ↥A W;omega
 let lol:↥(bO (aw W qs) Pd)=↥W:=by unfold bO;rw[Zb,HD]
 let YB:∀j,j<↥qs->Rb 2010000 (qs\j):=λj hj=>pr.bd _ (by rw[ao (Zc hj)];exact Zw _)
 apply⟨_,(),by rw[Zb,Zb,lol];exact Zf _,?_⟩;apply⟨λi ds O'=>O'=O/\ds=(iG W qs Pd i).map qD,⟨(),()⟩,?_,?_⟩
 .rintro i x ds Oz hx ⟨rfl,rfl⟩;let⟨hi,rfl⟩:=sq hx;rw[Zb] at hi;let e1:(W.map bi).getD i .none=bi (W∩i):=jY hi;let e2:((bO (aw W qs) Pd).map bi).getD i .none=bi ((bO (aw W qs) Pd)∩i):=jY ⋯;rw[e1,e2];let elo:(bO (aw W qs) Pd)∩i=if (((aw W qs)∩i).any λg=>Pd.contains g)=true then [] else (aw W qs)∩i:=by unfold bO;exact jY (by rw[HD];exact hi)
  let etk:(eA W qs (ap Pd)).contains i=((aw W qs)∩i).any λg=>Pd.contains g:=by
   rw[Th hi];have:=sW (W:=W) (qs:=qs) (S:=Pd) λx hx=>(pW (NM.subset hx)).1
   let h2:(p6 (aw W qs) Pd).contains i=(eA W qs (ap Pd)).contains i:=by rw[this]
   rw[Th hi] at h2;rw[<- h2,Ya,Z7];unfold p6;rw[Ze,Zh,HD];exact⟨λh=>h.2,λh=>⟨hi,h⟩⟩
  apply⟨(),(),?_⟩;show((!(((bO (aw W qs) Pd)∩i).map PyData.int).isEmpty)=true->_)/\((!(((bO (aw W qs) Pd)∩i).map PyData.int).isEmpty)=false->_);rw[Qv];let ec:(!((bO (aw W qs) Pd)∩i).isEmpty)=(!(eA W qs (ap Pd)).contains i&&!((aw W qs)∩i).isEmpty):=by
   rw[elo,etk];cases ((aw W qs)∩i).any λg=>Pd.contains g with
   |true=>rw[aha rfl];rfl
   |false=>rw[aga ∅];rfl
  apply⟨λhc=>?_,λhc=>⟨(),?_⟩⟩
  .rw[ec] at hc;let Hw:=(Z4 _ _).mp hc;let hnt:(((aw W qs)∩i).any λg=>Pd.contains g)=false:=by
    rw[<- etk];cases h5:(eA W qs (ap Pd)).contains i with
    |true=>rw[h5] at Hw;exact afa Hw.1 ∅
    |false=>rfl
   rw[elo,hnt,aga ∅];let bF:0<↥((aw W qs)∩i):=by
    cases hb:(aw W qs)∩i with
    |nil=>rw[hb] at Hw;exact afa Hw.2 ∅
    |cons _ _=>simp
   let DE:((aw W qs)∩i)\0∈(aw W qs)∩i:=by rw[ao (Zc bF)];exact Zw _
   rw[za hi] at DE;let⟨b,hb,eb⟩:=Zd.mp DE;rw[<- za hi] at eb;let⟨m9,pP⟩:=tR mf pr.gW hl hi hb;let ba:gh (((aw W qs)∩i).map PyData.int) 0=↑(.int (b:Int)):=by
    have:=int_at bF;rw[<- eb] at this;exact this
   let ala:=mf.wr i hi;let wb:=mf.w0 i b hi m9;let msu:=l4 (W:=W) (qs:=qs) (Pd:=Pd) i;rw[hc,aha rfl,<- eb,Zy] at msu;let qb:gh (qs.map qD) (b:Int)=↑(qD (qs\b)):=bB (ky (f:=qD) (d:=(0:Rat)) ⋯);apply⟨(),λj es O'=>O'=Oz/\es=(iG W qs Pd i++lE (W∩i) qs (Pd.take j) b).map qD/\j<=6,⟨(),?_,⋯⟩,λj es O' ⟨_,h2,h3⟩=>?_,?_,?_⟩
   .show _=(iG W qs Pd i++[]).map qD;rw[Yn]
   .rw[h2,Zb,Zv];let h4:=vC (W:=W) (qs:=qs) Ξ i;let h5:=Ad (row:=W∩i) (qs:=qs) (Pd:=Pd.take j) (b:=b);rw[Yw] at h5;omega
   .rintro j y es O' hy ⟨rfl,rfl,hj6⟩;let⟨hj,rfl⟩:=fg hy;let⟨p0,p1,p2⟩:=rp.pos (NM.subset (show Pd\j∈Pd by rw[ao (Zc hj)];exact Zw _));let wg:=mf.w0 i (Pd\j).toNat hi ⋯;let ra:gh ((W∩i).map PyData.int) (Pd\j)=↑(.int ((W∩i)\(Pd\j).toNat)):=ab6 p0 ⋯;let qa:gh (qs.map qD) (Pd\j)=↑(qD (qs\(Pd\j).toNat)):=by
     have:=bB (ky (f:=qD) (d:=(0:Rat)) p1)
     rwa [Xa p0] at this
    let ts:=FA (row:=W∩i) (qs:=qs) (b:=b) hj;apply⟨_,ra,λhg=>?_,λhg=>⟨(),?_,⋯⟩⟩
    .let hg:0<(W∩i)\(Pd\j).toNat:=aia hg;let r1:=i9 (row:=W∩i) wb (YB b ⋯) pP;let r2:=i9 (row:=W∩i) wg (YB _ p1) p2;let UF:0<bS (W∩i) qs (Pd\j).toNat:=by unfold bS;exact div_pos (Y0.mpr hg) p2
     apply⟨_,ba,_,int_at ⋯,_,ba,_,qb,_,qs\b,(),⟨(YB b ⋯).mono ∅,pP,wb.1,wb.2⟩,_,ra,_,qa,_,qs\(Pd\j).toNat,(),⟨(YB _ p1).mono ∅,p2,wg.1,wg.2⟩,bS (W∩i) qs b,bS (W∩i) qs (Pd\j).toNat,(),⟨r1.mono ∅,r2.mono ∅,λz=>by rw[z] at UF;exact afa UF ∅⟩,(),?_,⋯⟩;rw[ts,aha hg,<- Yp,Zs (l₁:=iG W qs Pd i++lE (W∩i) qs (Pd.take j) b)];rfl
    .let hg:¬ 0<(W∩i)\(Pd\j).toNat:=asa hg;rw[ts,aga hg,Yn]
   .rintro es O' ⟨rfl,rfl,_⟩;rw[Zb,Zb,Yo];exact⟨(),by rw[msu]⟩
  .rw[ec] at hc;rw[l4,hc,aga ∅,Yn]
 .rintro ds O' ⟨rfl,rfl⟩;rw[Hj,Zb];exact h
def qI:FM:=λO xs P _=>∃(A:Γ3) (Pu:Δ1) (W:Γ1) (qs:Δ1),xs=[.im (dJ A Pu W),.im (.tuple (qs.map qD))]/\cW A Pu W qs/\gA A Pu qs W ↥A/\(∀Pd,cb A Pu qs W ↥A Pd->aM ↥A W Pd=[]->P (.im .none) O) /\
 ∀Pd f,cb A Pu qs W ↥A Pd->aM ↥A W Pd≠[]->jW (iI A Pu qs W ↥A Pd) f->P (.im (.tuple [bi Pd,qD f,.tuple ((dv qs Pd f).map qD)])) O
abbrev OR:Δ2:=["market","prices","paid","rising","best","paying","meeting","factor"]
def Mn:MS:=(aU (bv (aC fPG cE (af (ah 0) (af (ah 1) ar))) (aY 2))
 (aU (bv (kw kC (af (cH 1 [2] (c7 (aC DY cE (af (ah 0) ar))) (aY 0) (eM (bA (Sl true) (ah 0) (ah 1))) (ah 0)) ar)) (aY 3))
 (aU (mY (Oe (DR (ah 3))) (cO (mC .none)) iH)
 (aU (bv (aC xL cE (af (ah 0) (af (ah 1) ar))) (aY 4))
 (aU (bv (aC zN cE (af (ah 0) (af (ah 1) (af (aC uZ cE (af (ah 4) (af (ah 2) ar))) (af (ah 3) ar))))) (aY 5))
 (aU (bv (aC sQ cE (af (ah 0) (af (ah 1) (af (aC uZ cE (af (ah 4) (af (ah 2) ar))) (af (ah 2) ar))))) (aY 6))
 (aU (bv (aC sR cE (af (bA hC (ah 5) (ah 6)) ar)) (aY 7))
 (cO (iQ (af (ah 2) (af (ah 7) (af (aC zL cE (af (ah 1) (af (ah 3) (af (ah 7) ar)))) ar))))))))))))
def Jz:∀O xs Pq QX,qI O xs Pq QX->Mn Pq⁻¹ (be OR xs) O:=by
 intro O xs Pq QX h;let⟨A,Pu,W,qs,rfl,rp,cz,hn,hf⟩:=h;let pr:=rp.pr;let mf:=qu pr.ok;let hl:=pr.len;let g6:=mf.g6;let n6:=mf.n6;let n1:=mf.n1;let wl:=mf.wl;apply⟨A,Pu,W,qs,(),pr,cz,λPd pd=>?_⟩;apply⟨A,Pu,W,(),g6,⋯,mf.wr,?_⟩;conv=>whnf
 apply Sf (λj=>!Pd.contains ((uO ↥A W)\j)) (λj=>.int ((uO ↥A W)\j)) (by rw[Zb,Zb];have:=Dw ↥A W;exact Zl this ⋯) (λj x Z hx hZ=>?_) (λj x Z hx _ hZ=>?_) ?_
 .obtain⟨hj,rfl⟩:=fg hx;exact⟨Pd,(),hZ⟩
 .obtain⟨hj,rfl⟩:=fg hx;exact hZ
 rw[Zb,Zb,G0 (uO ↥A W) (λx=>!Pd.contains x)];apply⟨(),?_⟩;show((!(!((aM ↥A W Pd).map PyData.int).isEmpty))=true->_)/\((!(!((aM ↥A W Pd).map PyData.int).isEmpty))=false->_);rw[Bool.not_not,Qv];apply⟨λe=>hn Pd pd (List.isEmpty_iff.mp e),λe=>?_⟩;let hrn:aM ↥A W Pd≠[]:=λz=>by rw[z] at e;cases e
 let hbl:↥(aw W qs)<=6:=by rw[HD];omega
 let YI:∀k,k<↥(aw W qs)->↥((aw W qs)∩k)<=6:=λk hk=>by rw[HD] at hk;exact Zl (o9 hk (mf.wr k hk)) g6
 let Ξ:↥Pd<=6:=by have:=pd.sub.length_le;have:=Dw ↥A W;omega
 let hR:(aM ↥A W Pd).Sublist (ai ↥A W):=Zu;let YM:↥(aM ↥A W Pd)<=6:=by have:=hR.length_le;have:=Dw ↥A W;omega
 apply⟨A,Pu,W,qs,(),pr,⟨aw W qs,Pd,(),hbl,YI,A,Pu,W,qs,Pd,(),rp,pd.sub,⟨aw W qs,Pd,(),hbl,YI,A,Pu,W,qs,Pd,(),rp,pd.sub,?_⟩⟩⟩;let TH:=A1 (A:=A) (Pu:=Pu) (qs:=qs) hrn;let hfb:=FT rp pd.sub;let Su:=vC (W:=W) (qs:=qs) Ξ ↥W;apply⟨by
  rw[Zb,Zb,Zb,Qh,Sh,sz];have:2 ^ ↥(aM ↥A W Pd)<=64:=Xc (n:=2) ∅ YM;omega,iI A Pu qs W ↥A Pd,by unfold iI;rw[Zs],TH,hfb,λf Vf=>?_⟩
 apply⟨qs,aM ↥A W Pd,f,(),⋯,λz hz=>(pr.bd z hz).mono ∅,hfb f Vf.1,DT,?_⟩;let er:(~~~↥qs).map (λg:Nat=>if (aM ↥A W Pd).contains (g:Int)=true then qs\g*f else qs\g)=dv qs Pd f:=by
  unfold dv;apply Xd λg hg=>?_
  let hg:=Zh.mp hg;let hwm:((g:Int)∈ai ↥A W)↔has W g:=by
   unfold ai aA;rw[Zd];constructor
   .rintro⟨x,hx,e⟩;have:x=g:=⋯;rw[<- this];exact(Ze.mp hx).2
   .intro hh;exact⟨g,Ze.mpr ⟨Zh.mpr ⋯,hh⟩,()⟩
  by_cases hp:Pd.contains (g:Int)
  .let hr:¬ (aM ↥A W Pd).contains (g:Int):=λz=>by
    have:=(Ze.mp (Z7.mp z)).2;rw[hp] at this;cases this
   rw[aha hp,aga hr]
  .rw[aga hp];by_cases hh:has W g
   .let hr:(aM ↥A W Pd).contains (g:Int):=Z7.mpr (Ze.mpr ⟨hwm.mpr hh,by simpa using hp⟩);rw[aha hr]
   .let hq0:=pr.gW.nil g hg ‹hh›;rw[hq0,Xm];split<;>rfl
 rw[er];exact hf Pd f pd hrn Vf
end MI
namespace L2
open PySem.Spec PyProof.Rows KG
section
def BG (K:Θ1)(a:Addr):It :=
 ⟨λi H=>∃xs x,bI K H a xs/\xs[i]?=↑x,λi H x H'=>∃p,H p=none/\x=.ref p/\∀xs,bI K H a xs->∃y,xs[i]?=↑y/\H'=aP H p (.tup [.int i,y]),λi H=>∃xs,bI K H a xs/\↥xs<=i⟩
def xU {K:Θ1}(a e it:Addr)(NI:e≠it):Turn P w K (.Tuple uK kk pos) (BG K a) [e,it] e (λi h=>(∃old,IsEnum h e it (i:Nat) old)/\h.IsListIter it a i) where
 mem:=by simp
 obj:=λi h st b hb=>by
  let⟨⟨old,he⟩,o,e1,c,d⟩:=st;rcases Zj.mp hb with rfl |hb
  .exact⟨_,he,λv z=>by cases z⟩
  .obtain rfl:b=it:=by simpa using hb
   exact⟨o,e1,λv z=>by rw[d] at z;cases z⟩
 keep:=λi h h' st k=>by
  let⟨⟨old,he⟩,o,e1,c,d⟩:=st;exact⟨⟨old,k e (by simp) _ he⟩,o,k it (by simp) _ e1,c,d⟩
 item:=by
  intro X hP hw hK hc i ae s σ H E I hf st hg;subst hP hw hK;let⟨xs,x,hq,hx⟩:=hg;let⟨its,rv,p,hz⟩:=I.list hq;let⟨u,hu,ru⟩:=rv.get hx;let⟨⟨old,he⟩,fU⟩:=st;let pt:s.heap.IsList a its.toArray:=p.isList;let hae:e≠a:=λz=>by
   let⟨o,e1,c,_⟩:=pt;rw[<- z,he] at e1;cases e1;exact afa (show Value.type "enumerate"=Value.type "list" from c) ∅
  let TQ:a≠it:=λz=>by
   let⟨o,e1,c,_⟩:=pt;let⟨o',e2,c',_⟩:=id fU;rw[z,e2] at e1;cases e1;rw[c] at c';exact afa c' ∅
  let cN:i<its.toArray.size:=by simpa using(Zg.mp hu).1
  let D:=Draws.list (prog:=X.prog) (w:=X.w) (A:=X.A.in1) (I.ok.hd hc) it a TQ its.toArray;apply wpAny_pyNext_enum_itemD D he ⟨fU,pt⟩ cN NI (by simp[NI,hae]) λy h' tk hP Hu nS ht hsz hk=>?_
  let hy:y=u:=by
   let hP:its.toArray[i]?=↑y:=hP;rw[List.getElem?_toArray,hu] at hP;exact(aaa hP).symm
  subst hy;apply⟨_,(),?_⟩;apply wpAny_letOwnedTupleGo_enum Hu λh2 he2 pN=>?_
  replace pN:Heap.SameBut e h' h2:=pN
  let bF:⇑s≠e:=Xw (Zq he);let I1:Inv X ae σ H { s with heap:=h2,toks:=tk+1 }:=I.jo (ch:=[e,it]) (λb o hb q=>by
   let b1:b≠e:=λz=>hb (by simp[z])
   let b2:b≠it:=λz=>hb (by simp[z])
   exact pN.extBut b o b1 (hk b o b1 b2 q)) hf
  let Nx:=pN.extBut _ _ bF ht;let fp:eZ X ae H ⇑s:=I.jO (Zf _) I.fresh;let I2:=I1.D9 (p:=⇑s) (o:=.tup [.int i,x]) fp ⟨by show 2<=sizeLine;decide,[.int i tk,y],.cons ⟨tk,()⟩ (.cons ru .nil),⟨_,Nx,(),_,()⟩⟩;apply⟨.ref ⇑s,_,I2,(),⟨_,I.fresh,(),λys hy=>by rw[I.vH hy hq];exact⟨x,hx,()⟩⟩,⟨⟨_,he2⟩,?_⟩,λb hb=>?_⟩
  .obtain⟨⟨o,e1,c,d⟩,_⟩:=nS;exact⟨o,pN.extBut _ _ (Ne.symm NI) e1,c,d⟩
  .rw[dE]
   .exact(hf b hb).1
   .rcases Zj.mp hb with rfl |hb
    .exact bF.symm
    .obtain rfl:b=it:=by simpa using hb
     let⟨o,e1,_⟩:=fU;exact Ye (Zq e1)
 done:=by
  intro X hP hw hK hc i ae s σ H E I hf st hg;subst hP hw hK;let⟨xs,hq,hx⟩:=hg;let⟨its,rv,p,hz⟩:=I.list hq;let⟨⟨old,he⟩,fU⟩:=st;let pt:s.heap.IsList a its.toArray:=p.isList;let TQ:a≠it:=λz=>by
   let⟨o,e1,c,_⟩:=pt;let⟨o',e2,c',_⟩:=id fU;rw[z,e2] at e1;cases e1;rw[c] at c';exact afa c' ∅
  let hl:=↥rv;let hT:s.TypeIs (.ref e) "enumerate":=⟨_,he,()⟩;unfold pyNext;apply Za (wpAny_attempt (wpAny_callSpecial?_slot (name:=Str.ofString "__next__") hT F.slot_enumerate_next
   (aoa F.slot_enumerate_next hT F.entry_enumerate_next ?_ (F.args_enumerate_next_1 _))))
  show wpAny _ _ (field (.ref e) 2 >>= _) _ _ _;apply Za (aqa he rfl (x:=.ref it) rfl ?_);apply Za (wpAny_nextOf_list_end (A:=X.A.in1) (I.ok.hd hc) fU pt (by simp;omega) λh' ex he' wJ=>?_);let⟨o,ho,pY⟩:=wJ;apply Za (wpAny_isInstance (T:="StopIteration") (b:=true) ⟨o,ho,pY⟩ isSubtype_stop ?_);exact aba ⟨(),I.jo (t':=s.toks) (ch:=[it]) (λb o hb q=>he' b o (λz=>hb (by simp[z])) q) (λb hb=>hf b (Zi _ hb))⟩
 self:=λA i s Q E st h=>by
  let⟨⟨old,he⟩,_⟩:=st;exact wpAny_pyIter_enum he h
def RI (K:Θ1)(ta:TA):TI:=λσ H R=>ta σ H λvs H1=>∃a,vs=[.ref a]/\(∃xs,bI K H1 a xs)/\R (BG K a) H1
def GJ {K:Θ1}:(BG K a).Le (BG K0 a):=⟨λi H ⟨xs,x,h,e⟩=>⟨xs,x,h.k0,e⟩,λi H x H' ⟨p,e1,e2,h⟩=>⟨p,e1,e2,λxs hx=>h xs hx.k0⟩,λi H ⟨xs,h,e⟩=>⟨xs,h.k0,e⟩⟩
def Gg {p pos:Pos}(hg:Gl X "enumerate")(hm:X.mg "enumerate"=none)(hb:bootBuiltins "enumerate"=↑(.type "enumerate"))(ha:PA X [a] ta)(hs:starEach [a] X.env=[(false,eval a X.env)]:=by rfl) :
  PI X (.Tuple uK kk rS) (.Call (.Name "enumerate" p) [a] [] pos) (RI K0 ta):=by
 intro ae s σ H R I h;apply Call_ (gq I hg hm hb (PyProof.Rows.callWith_type1 (bH (ha pos ae s σ H _ I h) λus s1 ⟨vs,H1,I1,r1,t,e,⟨xs,hq⟩,q⟩=>?_) hs rfl));subst e;let⟨u,rfl,ru⟩:=vals1 r1;cases ru;let⟨its,rv,pl,hz⟩:=I1.list hq.k0;apply call_enumerate_list (show s1.heap.IsList t its.toArray from pl.isList) λh' he NE hsz hk=>wpAny_pyIter_enum he ?_
 apply⟨⇑s1+1,[⇑s1+1,⇑s1],_,BG K0 t,H1,(),I1.kept (t':=s1.toks) hk,(xU (K:=X.K) t _ ⇑s1 (Nat.succ_ne_self _)).le GJ,⟨⟨_,he⟩,NE⟩,λb hb=>?_,q⟩;rcases Zj.mp hb with rfl |hb
 .exact I1.jO (Xy _) (I1.ca.fresh (Xy _))
 .obtain rfl:b=⇑s1:=by simpa using hb
  exact I1.jO (Zf _) I1.fresh
def CS (hc:X.calm):cg X (.builtin "min") (λxs H Q=>∃(p:Addr) (ns:Γ3),xs=[.ref p]/\(bI X.K H p (ns.map V.int)\/aN X.K H p (ns.map V.int))/\ns≠[]/\∀m,m∈ns->(∀n∈ns,m<=n)->Q (.int m) H):=by
 intro ae s σ H xs us Q I r h;let⟨p,ns,rfl,hs,bF,q⟩:=h;let⟨u,rfl,ru⟩:=vals1 r;cases ru;apply call_min_walk (gK I (A:=X.A.in1) (I.ok.hd hc) hs λit fp wr its St s2 rv W st DC hk=>?_);let hl:↥its=↥ns:=by rw[<- ↥rv,Zb]
 let eY:0<↥ns:=Xg.mpr bF;let val:∀(i:Nat) (v:Value),its[i]?=↑v->∃t,v=Value.int ((ns[i]?).getD 0) t:=λi v hv=>by
  let⟨x,ex,rx⟩:=rv.at hv;rw[Zo] at ex;cases e:ns[i]? with
  |none=>rw[e] at ex;cases ex
  |some n =>
   rw[e] at ex;cases ex;exact rx
 apply⟨it,fp,wr,↥its,_,St,(λi j=>decide ((ns[i]?).getD 0<(ns[j]?).getD 0)),(),W,st,DC,⋯,CmpOf.ints_lt (λi=>(ns[i]?).getD 0) val,λv h' tk hP kk=>?_⟩;let⟨t,rfl⟩:=val _ _ hP;let⟨h1,h2⟩:=argBest_lt (λi=>(ns[i]?).getD 0) (↥its-1);let cN:argBest (λi j=>decide ((ns[i]?).getD 0<(ns[j]?).getD 0)) (↥its-1)<↥ns:=by
  omega
 apply⟨.int _,H,hk h' tk kk,⟨t,()⟩,q _ ?_ λn hn=>?_⟩
 .rw[Zc cN];exact Zw cN
 .obtain⟨i,hi,e⟩:=Qj.mp hn;have:=h2 i ⋯;simp only[Zc hi,X3] at this;rw[<- e];exact this
def L4:List V->Hp->VK->Prop:=λxs H Q=>∃(p:Addr) (ns:Γ3),xs=[.ref p]/\(bI K0 H p (ns.map V.int)\/aN K0 H p (ns.map V.int))/\ns≠[]/\∀m,m∈ns->(∀n∈ns,m<=n)->Q (.int m) H
def W7 (hc:X.calm):cg X (.builtin "min") L4:=(CS hc).imp λ_ _ _ ⟨p,ys,e,h,q⟩=>⟨p,ys,e,Sq.k0 h,q⟩
end
end L2
namespace MI
open L2 KG EX KM
section
def wv (t:cr (G w O H) (.ref a) (.list ds)):jV K (BG K0 a) w O H (c8 ds):=λO2 w2 H2 e r i=>by
 cases cr.ay e.ay t with |lst h1 t1=>?_
 rename_i xs;let hh:=(fq h1).1;unfold c8;apply⟨λx hx=>?_,λhl=>⟨xs,bI.of hh,by rw[t1.len];simpa using hl⟩⟩;let hi:i<↥ds:=by have:=(Zg.mp hx).1;simpa using this
 rw[Zo,Yt hi] at hx;cases aaa hx;let hd:ds[i]?=↑(ds.getD i .none):=by rw[ao (Zc hi)];exact Zc hi
 let⟨v,hv,tv⟩:=t1.get hd;apply⟨⟨xs,v,bI.of hh,hv⟩,?_⟩;rintro v' H3 ⟨p,hp,rfl,hy⟩;let⟨y,Ly,rfl⟩:=hy xs (bI.of hh);rw[hv] at Ly;cases aaa Ly;let⟨r4,e4,t4⟩:=ff r hp (.cons (.int (i:Int)) (.cons tv .nil));exact⟨e4,r4,t4⟩
def Io (Ms:MA):MA:=λsl O Q=>Ms sl O λxs O1=>match xs with
 |[.im (.list ds)]=>Q (c8 ds) O1
 |_=>False
def oX (hg:Gl X "enumerate")(hm:X.mg "enumerate"=none)(hb:bootBuiltins "enumerate"=↑(.type "enumerate"))(ha:PA X [a] (ud K QX E Ms))(hs:starEach [a] X.env=[(false,eval a X.env)]:=by rfl):PI X (.Tuple uK kk rS) (.Call (.Name "enumerate" p) [a] [] pos) (uc K QX E (Io Ms)):=PI.imp (Gg hg hm hb ha hs) λσ H R h9=>h9.o λw O sl Q0 c m q=>⟨w,O,sl,_,c,m,λxs O1 vs w1 H1 h1 e1 r1 a1=>by
 split at h1
 .obtain⟨v,us,rfl,h3,h4⟩:=a1.aW;rw[h4.cC];let⟨a,R5,rfl,g1,t1⟩:=gE h3;exact⟨a,(),⟨R5,bI.of g1⟩,q _ O1 w1 H1 _ h1 e1 r1 (wv h3)⟩
 .exact h1.elim⟩
def Oc:Dk:=uB λds P=>∃ns:Γ3,ds=ns.map .int/\ns≠[]/\∀m,m∈ns->(∀n∈ns,m<=n)->P (.int m)
def Rw:Dl K L4 Oc:=λw O H vs xs P Q r a hf q=>by
 unfold Oc uB at hf;split at hf
 .split at hf
  .rename_i ds hd;let⟨v,us,rfl,h1,h2⟩:=a.aW;rw[h2.cC];let⟨p,m8,rfl,hs,t1⟩:=jt hd h1;let⟨ns,rfl,bF,h⟩:=hf;rw[i7 t1] at hs;exact⟨p,ns,(),hs,bF,λm h3 h4=>q _ _ O w H (h m h3 h4) (bR.refl _ _ _) r (.int _)⟩
  .exact hf.elim
 .exact hf.elim
end
end MI
namespace L2
open PySem.Spec PyProof.Rows EX
end L2
namespace MI
open L2 KG EX KM
def jN (ps:List (Int×PyData))(k:Int):Bool:=ps.any λp=>decide (p.1=k)
def qF (ps:List (Int×PyData))(k:Int):Option PyData:=(ps.find? λp=>decide (p.1=k)).map (·.2)
def putD (ps:List (Int×PyData))(k:Int)(d:PyData):List (Int×PyData):=if jN ps k=true then ps.map (λp=>if p.1=k then (p.1,d) else p) else ps++[(k,d)]
def A5 (h:uy g kvs (ps.map pairD))(k:Int):(eK kvs (Sum.inl k)=none/\qF ps k=none/\jN ps k=false)\/∃v d,eK kvs (Sum.inl k)=↑v/\qF ps k=↑d/\jN ps k/\cr g v d:=by
 induction ps generalizing kvs with
 |nil=>cases h;exact .inl ⟨(),(),()⟩
 |cons p ps ih =>
  generalize hc:(p::ps).map pairD=c at h;cases h with
  |nil=>cases hc
  |@cons n v d Op c' t h' =>
   rw[Zm] at hc;injection hc with h1 h2
   subst h2;let⟨pn,pd⟩:=p;unfold pairD at h1;let e1:pn=n:=by injection h1 with h1;injection h1 with h1;injection h1 with h1 h2;injection h1
   let e2:pd=d:=by injection h1 with h1;injection h1 with h1;injection h1 with h1 h2;injection h2
   subst e1;subst e2;by_cases e:pn=k
   .subst e;apply .inr ⟨v,pd,gH rfl,?_,?_,t⟩
    .simp[qF]
    .simp[jN]
   .let a1:eK ((Sum.inl pn,v)::Op) (Sum.inl k)=eK Op (Sum.inl k):=gI (λz=>e (by injection z));let a2:qF ((pn,pd)::ps) k=qF ps k:=by simp[qF,X9,e]
    let a3:jN ((pn,pd)::ps) k=jN ps k:=by simp[jN,e]
    rw[a1,a2,a3];exact ih h'
def A4 (h:uy g kvs c):↥kvs=↥c:=by
 induction h with
 |nil=>rfl
 |cons _ _ ih=>simp[ih]
def G3 (h:uy g kvs c)(t:cr g v d):uy g (kvs++[(Sum.inl n,v)]) (c++[pairD (n,d)]):=by
 induction h with
 |nil=>exact .cons t .nil
 |cons t' _ ih=>exact .cons t' ih
def A3 (h:uy g kvs (ps.map pairD))(t:cr g v d):uy g (d6 kvs (Sum.inl k) v) ((putD ps k d).map pairD):=by
 rcases A5 h k with ⟨h1,_,h3⟩ |⟨v0,d0,h1,hlk,h3,_⟩
 .rw[oR v h1];unfold putD;rw[h3,aga ∅,Zs];exact G3 h t
 .unfold putD d6;let h4:(kvs.any λkv=>decide (kv.1=(Sum.inl k:d4)))=true:=by rw[i8,h1];rfl
  rw[h3,aha rfl,h4,aha rfl]
  clear h1 h3 h4 hlk
  induction ps generalizing kvs with
  |nil=>cases h;exact .nil
  |cons p ps ih =>
   generalize hc:(p::ps).map pairD=c at h;cases h with
   |nil=>cases hc
   |@cons n w e Op c' t' h' =>
    rw[Zm] at hc;injection hc with h1 h2
    subst h2;let⟨pn,pd⟩:=p;unfold pairD at h1;let e1:pn=n:=by injection h1 with h1;injection h1 with h1;injection h1 with h1 h2;injection h1
    let e2:pd=e:=by injection h1 with h1;injection h1 with h1;injection h1 with h1 h2;injection h2
    subst e1;subst e2;rw[Zm,Zm,Zm];let Nv:=ih h';by_cases z:pn=k
    .subst z;rw[aha rfl,aha rfl];exact .cons t Nv
    .rw[aga z,aga (λy=>z (by injection y))];exact .cons t' Nv
section
structure CBD (n:Nat)(ix:List Nat)(mg:MG)(C:MT)(Mk Mv:ME)(sl:g9)(Q:AV->aX->Prop)(items:List AV)(O1:aX):Prop where
 len:↥items<=1000000
 ex:∃Iv:Nat->List (Int×PyData)->aX->Prop,Iv 0 [] O1 /\
 (∀i x ps O',items[i]?=↑x->Iv i ps O'->mg x (fQ n ix sl) O' λbC O2=>C bC O2 λc O3=>(c->Mk bC O3 λy O4=>Mv bC O4 λz O5=>match y,z with
   |.im (.int k),.im d=>Iv (i+1) (putD ps k d) O5
   |_,_=>False)/\(c=false->Iv (i+1) ps O3))/\∀ps O',Iv ↥items ps O'->Q (.Bo ↥O') (O'++[↑(ps.map pairD)])
def xE (n:Nat)(ix:List Nat)(it:MA)(mg:MG)(C:MT)(Mk Mv:ME):ME:=λsl O Q=>it sl O (CBD n ix mg C Mk Mv sl Q)
def FX (ps:List (Int×PyData))(k:Int)(d:PyData):↥(putD ps k d)<=↥ps+1:=by
 unfold putD
 grind
def yq {Mk Mv:ME}(hk:Keeps n mg):∀σ H Q,bQ K QX E (xE n ix it mg C Mk Mv) σ H Q->xv (uc K QX E it) (mq K QX E mg) (iN K QX E C) (bQ K QX E Mk) (bQ K QX E Mv) n ix σ H Q :=
 λσ H Q h9=>h9.o λw O sl Q0 c m q=>⟨w,O,sl,_,c,m,λitems O1 w1 H1 J h1 e1 r1 Bl acc bV=>by
  let⟨hl,Iv,h0,hs,he⟩:=h1;apply nP (α:=List (d4×V)×List (Int×PyData)) (ob:=λz=>.dK z.1) (A:=λz _ g=>uy g z.1 (z.2.map pairD)) (Qf:=Q (.ref acc)) (c.ex e1.ex r1) Bl (λi z O=>Iv i z.2 O) (λi z=>↥z.2<=i) (λi z h=>Nat.le_succ_of_le h) ([],[]) (Z9 _) h0 (λxs z=>by cases z) (λ_ _=>.nil) (λz w O H w' O' H' e a=>a.ay e.ay) (λi x z=>hs i x z.2) hk acc bV
   (λz i bC w3 O3 H3 dD N y v m c a av kk=>⟨w3,O3,bC,_,c,m,λx O6 v6 w6 H6 h6 e6 r6 a6=>⟨w6,O6,bC,_,c.ex e6.ex r6,h6,λz7 O7 v7 w7 H7 h7 e7 r7 a7=>?_⟩⟩)
   λzz O' w' H' v a av=>?_
  .split at h7
   .rename_i k d;let e67:=e6.trans e7;let XW:=FX z.2 k d;let kv:v6=kV (Sum.inl k):=gR a6;let⟨n3,a8,s8⟩:=(a.ext e67 r7).put (.dK (d6 z.1 (Sum.inl k) v7)) (λxs z=>by cases z);exact⟨z.1,Sum.inl k,n3,kv,by rw[A4 av,Zb,sz];omega,kk (_,putD z.2 k d) _ _ _ _ a8 ((A3 (av.ay e67.ex.ay) a7).ay s8) (by dsimp only;omega) h7 (cy.gD rfl rfl s8 (c.so.ex e67.ex))⟩
   .exact h7.elim
  .let r':=a.ro;let e':=a.ex;let⟨r2,s2,uv⟩:=r'.Jh a.hh av;apply q _ _ _ { w' with dh:=w1.dh,bK:=w'.bK++[acc],iM:=↥O'::w'.iM } _ (he zz.2 O' v) ⟨e1.ex.trans ⟨e'.bs,?_,⟨[],rfl⟩,e'.ay.trans s2,λk hk=>?_⟩,e1.dh⟩ r2 ⟨acc,uv,Zk,rfl⟩
   .obtain⟨t,ht⟩:=e'.bK;exact⟨t++[acc],by show w'.bK++[acc]=_;rw[ht,Yp]⟩
   .apply Iff.trans ⟨λz=>?_,λz=>Zi _ z⟩ (e'.dk k hk);rcases Zj.mp z with y |y
    .obtain⟨t,ht⟩:=e'.bK;have:=r'.len;rw[ht,Zv] at this;omega
    .exact y⟩
section
variable {Mk Mv:ME}
end
def U7 (neg:Bool)(Mk Md:ME):MT:=λsl O Q=>Mk sl O λy O1=>Md sl O1 λx O2=>match y,x with
 |.im (.int k),.Bo j=>∃ps,O2[j]?=↑↑(ps.map pairD)/\Q (if neg then !jN ps k else jN ps k) O2
 |_,_=>False
def Cj {Mk Md:ME}(hu:X.A.units+1<cLine)(hi:PE X i (bQ K QX E Mk))(ho:PE X o (bQ K QX E Md))(hm:behindInMarks .NotIn o=false:=by rfl):PT X (.Compare i [.NotIn] [o] pos) (iN K QX E (U7 true Mk Md)) :=
 PT.imp (P7 (B6 hu hi ho) hm) λσ H Q h9=>h9.o λw O sl Q0 c m q=>⟨w,O,sl,_,c,m,λy O1 v1 w1 H1 h1 e1 r1 a1=>⟨w1,O1,sl,_,c.ex e1.ex r1,h1,λx O2 v2 w2 H2 h2 e2 r2 a2=>by
  split at h2
  .rename_i k j;let⟨ps,hp,h2⟩:=h2;let⟨a,ha,hd,rfl⟩:=a2;let⟨a',kvs,h3,h4,h5⟩:=r2.Vv hd hp;rw[ha] at h3;cases aaa h3;let kv:v1=kV (Sum.inl k):=gR (a1.ex e2.ex);subst kv;apply⟨a,_,(),uN.k h4,_,(),?_⟩;let e:(eK kvs (Sum.inl k)).isSome=jN ps k:=by
    rcases A5 h5 k with ⟨z1,_,z3⟩ |⟨_,_,z1,_,z3,_⟩<;>rw[z1,z3]<;>rfl
   rw[e];exact q _ O2 w2 H2 h2 (e1.trans e2) r2
  .exact h2.elim⟩⟩
def Mx (Md Mk Mv:ME):MS:=λD sl O=>Mv sl O λv O1=>Md sl O1 λx O2=>Mk sl O2 λy O3=>match v,x,y with
 |.im d,.Bo j,.im (.int k)=>∃ps,O3[j]?=↑↑(ps.map pairD)/\↥ps<1000000/\D.nx sl (O3.set j ↑((putD ps k d).map pairD))
 |_,_,_=>False
def Ks {Mk Md Mv:ME}(hu:X.A.units+1<cLine)(ho:PE X o (bQ K QX E Md))(hi:PE X i (bQ K QX E Mk))(hv:PE X e (bQ K QX E Mv))(hs:swapsWith e ↑(.Subscript o i lF) pos.line X.env=pure false:=by rfl) :
  PS X (.Assign [.Subscript o i lF] e pos) (jI K QX E (Mx Md Mk Mv)):=PS.imp (JP hu ho hi hv hs) λD σ H h9=>h9.o λw O sl D0 c m hn hb hc hr =>
 ⟨w,O,sl,_,c,m,λv O1 v1 w1 H1 h1 e1 r1 a1=>⟨w1,O1,sl,_,c.ex e1.ex r1,h1,λx O2 v2 w2 H2 h2 e2 r2 a2=>⟨w2,O2,sl,_,(c.ex e1.ex r1).ex e2.ex r2,h2,λy O3 v3 w3 H3 h3 e3 r3 a3=>by
  split at h3
  .rename_i d j k;let⟨ps,hp,cA,h3⟩:=h3;let⟨a,ha,hd,rfl⟩:=a2.ex e3.ex;let⟨a',kvs,h4,h5,h6⟩:=r3.Vv hd hp;rw[ha] at h4;cases aaa h4;let kv:v3=kV (Sum.inl k):=gR a3;subst kv;let t:cr (G w3 O3 H3) v1 d:=(a1.ex e2.ex).ex e3.ex;let⟨r4,e4⟩:=r3.putD hp hd ha h5 (A3 (k:=k) h6 t);let e14:=((e1.trans e2).trans e3).trans e4;exact⟨a,_,(),D7.k h5 (by rw[A4 h6,Zb,sz];omega),hn sl _ w3 _ σ h3 (c.ex e14.ex r4) e14⟩
  .exact h3.elim⟩⟩⟩
def CF:VD X (Ii K0):=by
 intro ae s σ H x y v u Q I rx ry h;let⟨p,xs,i,z,rfl,rfl,hq,he,q⟩:=h;cases rx;let⟨t,rfl⟩:=ry;let⟨its,r,pl,hz⟩:=I.list hq.k0;let⟨j,h1,h2,h3,h4,h5⟩:=L2.bB he;let⟨w,ew,Bi⟩:=r.get h2;let hl:=↥r;let hn:=j8;let j3:EP X ae σ Q w s:=⟨z,H,I,Bi,q⟩;by_cases h0:0<=i
 .let hj:i.toNat=j:=by
   rw[seqIndex_of h0 h5] at h1;exact aaa h1
  exact wpAny_getItem_list pl.isList h0 ⋯ (by rw[hj];simpa using ew) j3
 .let hj:(i+(its.toArray.size:Int)).toNat=j:=by
   rw[seqIndex_neg ⋯ h4] at h1;rw[Z2,<- hl];exact aaa h1
  exact wpAny_getItem_list_neg pl.isList ⋯ (by rw[Z2]<;>omega) ⋯ (by rw[hj];simpa using ew) j3
def xt (g:Int->Int->Int):wN:=λO x y P=>match x,y with
 |.im (.int i),.im (.int j)=>P (.im (.int (g i j))) O
 |_,_=>False
def oG:ux K (ξ g) (xt g):=λw O H v u x y P Q r a b hf q=>by
 unfold xt at hf;split at hf
 .exact⟨_,_,gR a,gR b,q _ _ O w H hf (bR.refl _ _ _) r (.int _)⟩
 .exact hf.elim
def Em (i:Nat)(f:wN)(M:ME):MS:=λD sl O=>∃x,sl[i]?=↑↑x/\M sl O λy O1=>f O1 x y λz O2=>D.nx (sl.set i ↑z) O2
def AF (hN:X.N.Nodup)(hi:X.N[i]?=↑x)(hx:Loc X.env.scope x)(hp:SN X op ti)(lk:ux K ti f)(he:PE X e (bQ K QX E M))(hf:X.fn x\/X.env.scope.names.lookup x=some .local:=by first |exact .inl rfl |exact .inr rfl |assumption) :
  PS X (.AugAssign (.Name x lF) op e pos) (jI K QX E (Em i f M)):=PS.imp (P8 hN hi hx he hp hf) λD σ H h9=>by
 let⟨w,O,sl,D0,c,⟨x,hx,m⟩,hn,hb,hc,hr⟩:=h9;let⟨v,hv,a⟩:=c.so.2 i x hx;apply⟨v,hv,w,O,sl,_,c,m,λy O1 v1 w1 H1 h1 e1 r1 a1=>lk w1 O1 H1 v v1 x y _ _ r1 (a.ex e1.ex) a1 h1 λz z' O3 w3 H3 h3 e3 r3 a3=>?_⟩;exact hn _ O3 w3 H3 _ h3 ((c.ex (e1.trans e3).ex r3).put a3 i) (e1.trans e3)
def zB (Mo Mi:ME)(f:wN)(M:ME):MS:=λD sl O=>Mo sl O λo O1=>Mi sl O1 λi O2=>match o,i with
 |.own k,.im (.int i)=>∃c x j,O2[k]?=↑↑c/\gh c i=↑x/\ur ↥c i=↑j/\M sl O2 λy O3=>f O3 x y λz O4=>∃c',O4[k]?=↑↑c'/\↥c'=↥c/\D.nx sl (O4.set k ↑(c'.set j z))
 |_,_=>False
def tG (ho:PE X o (bQ K QX E Mo))(hi:PE X i (bQ K QX E Mi))(hp:SN X op ti)(lk:ux K ti f)(he:PE X e (bQ K QX E M))
  (ha:∀ov iv new,augStore i ov iv new=(do holding [new,ov,iv] (setItem ov iv new);release [new,ov,iv] [];pure .next):=by intros;rfl):PS X (.AugAssign (.Subscript o i rS) op e pos) (jI K QX E (zB Mo Mi f M)) :=
 PS.imp (JQ ho hi CF he hp kW ha) λD σ H h9=>by let⟨w,O,sl,D0,c,m,hn,hb,hc,hr⟩:=h9;exact⟨w,O,sl,_,c,m,λo' O1 v1 w1 H1 h1 e1 r1 a1=>⟨w1,O1,sl,_,c.ex e1.ex r1,h1,λi' O2 v2 w2 H2 h2 e2 r2 a2=>by
  split at h2
  .obtain⟨c0,x,j,YH,hx,hj,h2⟩:=h2;let SM:=e1.trans e2;let⟨p,Sr,qv,rfl⟩:=a1.ex e2.ex;let⟨p1,us,q0,g1,t1⟩:=r2.qh qv YH;rw[Sr] at q0;cases aaa q0;let⟨z,hz,tz⟩:=Fu t1 hx;apply⟨p,us,_,z,(),gR a2,bI.of g1,hz,w2,O2,sl,_,c.ex SM.ex r2,h2,λy O3 v3 w3 H3 h3 e3 r3 a3=>lk w3 O3 H3 z v3 x y _ _ r3 (tz.ex e3.ex) a3 h3 λz4 x4 O4 w4 H4 h4 e4 r4 a4=>?_⟩;let⟨c',pY,hl',h4⟩:=h4;let Tu:=e4.ex.at (e3.ex.at Sr);let Vk:_∉w4.iM:=λz=>qv (((e3.trans e4).ex.dk _ (Zg.mp Sr).1).mp z)
   let⟨p2,m8,q0,g2,t2⟩:=r4.qh Vk pY;rw[Tu] at q0;cases aaa q0;let⟨r5,e5⟩:=r4.put pY Vk Tu g2 (t2.set a4 j);let e15:=((SM.trans e3).trans e4).trans e5;exact⟨p,m8,_,j,(),gR a2,g2,by rw[t2.1,hl'];exact hj,hn sl _ w4 _ σ h4 (c.ex e15.ex r5) e15⟩
  .exact h2.elim⟩⟩
end
end MI
namespace L2
open PySem.Spec PyProof.Rows
section
variable {tk tv:TE}
def FY (hN:X.N.Nodup)(HL:X.N[i]?=↑y)(hx:X.env.scope.names.lookup y=some .local)(B:aH X scope own cap ix)(hc:X.calm)(hi:PI X tg iter wi)
  (hb:∀C fp s H,PG (cX X scope C (own++cap) fp s H) tg g/\dU (cX X scope C (own++cap) fp s H) eR tt/\PE (cX X scope C (own++cap) fp s H) kx tk/\PE (cX X scope C (own++cap) fp s H) vx tv)
  (DA:swapsWith (.DictComp kx vx [⟨tg,iter,eR,0⟩] scope pos) ↑(.Name y py) rT.line X.env=pure true:=by rfl)
  (hs:∀x,foldedSetIterable iter X.env x=pure x:=by intro _;rfl):PS X (.Assign [.Name y py] (.DictComp kx vx [⟨tg,iter,eR,0⟩] scope pos) rT) (DL (xv wi g tt tk tv ↥own ix) (fu i)):=by
 intro ae s σ H D I h;rw[exec_Assign_Name_used _ _ _ _ DA];let has:∀x∈scope.names,x.2=.free->(X.env.cells.lookup x.1).isSome:=λx hx hk=>by
  let⟨c,e⟩:=I.ok.has x.1 (B.frees x hx hk);rw[e];rfl
 apply Za (wpAny_standAt (Za ?_));show wpAny _ X.A (do let _ <- comprehension (.DictComp kx vx [⟨tg,iter,eR,0⟩] scope pos) scope X.env _ newDict false (eval iter X.env) ↑(assign (.Name y py) X.env)) _ _ s;apply Za (ana (wpAny_comprehension_free (use:=↑(assign (.Name y py) X.env)) (Q:=λ_ s'=>SP X ae D .next s') rfl hs (Sk has) B.kind B.names ?_) (λ_ s' hq=>aba (aba hq)) λ_ _ e=>e);apply bH (hi ae s σ H _ I h) λv s1 h1=>bH h1 λHI s2 h2=>?_
 let⟨it,fp,tn,J,H2,e,I2,T,fU,f2,q⟩:=h2;subst e;apply pF (RR:=λacc C=>compPost (model X.prog X.w) X.A X.xe ↑(assign (.Name y py) X.env) (λ_ s'=>SP X ae D .next s') acc C) B hc hb I2 T fU f2 q ?_;intro Da C H' s' m I' q' hn fC;show wpAny _ X.A (assign (.Name y py) X.env (.ref Da)) _ _ s';let⟨oC,es,ep,hoC,TL,r⟩:=id hn;let Ip:Inv X (ae++[(C,oC)]) σ H' s':=I'.nz λp hp=>by
  rcases Zz.mp hp with z |z
  .exact I'.pin p (Ym _ z)
  .obtain rfl:p=(C,oC):=by simpa using z
   exact⟨hoC,fC.1,fC.2.1,fC.2.2.1,λv e=>by rw[TL] at e;cases e⟩
 apply wpAny_assign_Name (fE Ip hN HL (.inl hx) (v:=.ref Da) rfl (λNf Uc=>?_) (.inr hx));let pC:=(Uc.pin (C,oC) (Ym _ (Ym _ (by simp)))).1;apply⟨m,⟨oC,es,ep,pC,TL,r⟩,λh' ut=>⟨_,H',?_,q'⟩⟩;exact Uc.gJ.turned (t':=Nf.toks) (it:=C) (λb o DD e=>(ut.2 b DD).trans e) fC.1 fC.2.1 fC.2.2.2.1 fC.2.2.2.2.1 fC.2.2.2.2.2
end
end L2
namespace MI
open L2 KG EX KM
section
variable {Mk Mv:ME}
def GC (hN:X.N.Nodup)(HL:X.N[i]?=↑y)(hx:X.env.scope.names.lookup y=some .local)(B:aH X scope own cap ix)(hc:X.calm)(hi:PI X tg iter (uc K QX E it))(hk:Keeps ↥own mg)
  (hb:∀C' fp s H,PG (cX X scope C' (own++cap) fp s H) tg (mq K QX E mg)/\dU (cX X scope C' (own++cap) fp s H) eR (iN K QX E C)/\PE (cX X scope C' (own++cap) fp s H) kx (bQ K QX E Mk)/\PE (cX X scope C' (own++cap) fp s H) vx (bQ K QX E Mv))
  (DA:swapsWith (.DictComp kx vx [⟨tg,iter,eR,0⟩] scope pos) ↑(.Name y py) rT.line X.env=pure true:=by rfl)
  (hs:∀x,foldedSetIterable iter X.env x=pure x:=by intro _;rfl):PS X (.Assign [.Name y py] (.DictComp kx vx [⟨tg,iter,eR,0⟩] scope pos) rT) (jI K QX E (bv (xE ↥own ix it mg C Mk Mv) (aY i))):=PS.imp (FY hN HL hx B hc hi hb DA hs) (jc (yq hk) kU)
end
def yw (ha:a<n)(hb:b<n)(hc:c<n):oK n (aG (aY a) (aG (lz 2 (aG (aY b) (aG (aY c) cx))) cx)):=λx sl O Q q=>by
 match x,q with
 |[x1,x2],q =>
  let q:lz 2 (aG (aY b) (aG (aY c) cx)) x2 (sl.set a ↑x1) O λc3 O'=>cx [] c3 O' Q:=q
  show lz 2 (aG (aY b) (aG (aY c) cx)) x2 (sl.set a ↑x1) O λc3 O'=>cx [] c3 O' λbC O2=>Q bC O2/\Sub n sl bC
  unfold lz at q ⊢;split
  .rename_i ds hd;rw[hd] at q
   match ds,q with
   |[d1,d2],⟨_,q⟩ =>
    apply⟨(),q,by simp,λj hj=>?_⟩;rw[Z8 ⋯,Z8 ⋯,Z8 ⋯]
  .rename_i hd;rw[hd] at q;exact q
 |[],q=>exact q
 |[_],q=>exact q
 |x1::x2::x3::r,q =>
  let q:lz 2 (aG (aY b) (aG (aY c) cx)) x2 (sl.set a ↑x1) O λc3 O'=>cx (x3::r) c3 O' Q:=q
  exact q
end MI
namespace SP
def sm:Nat->(Nat->Int)->Int
 |0,_=>0
 |n+1,f=>sm n f+f n
theorem Hk:∀{n:Nat},(∀i,i<n->f i=g i)->sm n f=sm n g
 |0,_=>rfl
 |n+1,h=>by unfold sm;rw[Hk (n:=n) λi hi=>h i ⋯,h n ⋯]
theorem qA:∀{n:Nat},(∀i,i<n->f i<=g i)->sm n f<=sm n g
 |0,_=>Y6 _
 |n+1,h=>by
  unfold sm;let h1:=qA (n:=n) λi hi=>h i ⋯
  let h2:=h n ⋯;omega
theorem LR:∀{n k:Nat},k<n->f k<g k->(∀i,i<n->f i<=g i)->sm n f<sm n g
 |0,_,hk,_,_=>afa hk ⋯
 |n+1,k,hk,cN,h=>by
  unfold sm;let h2:=h n ⋯;by_cases e:k=n
  .subst e;let h1:=qA (n:=k) λi hi=>h i ⋯
   omega
  .let h1:=LR (n:=n) (k:=k) ⋯ cN λi hi=>h i ⋯
   omega
theorem ox (f g:Nat->Int):∀n,sm n (λi=>f i+g i)=sm n f+sm n g
 |0=>rfl
 |n+1=>by
  show sm n (λi=>f i+g i)+(f n+g n)=(sm n f+f n)+(sm n g+g n);rw[ox f g n];omega
theorem e9:∀{n:Nat},(∀i,i<n->f i=0)->sm n f=0
 |0,_=>rfl
 |n+1,h=>by unfold sm;rw[e9 (n:=n) λi hi=>h i ⋯,h n ⋯];rfl
def V3 {f:Nat->Int}{n:Nat}(h:∀i,i<n->0<=f i):0<=sm n f:=by
 have:=qA (f:=λ_=>0) (g:=f) h
 rwa [e9 λ_ _=>rfl] at this
theorem sv (k:Nat)(d:Int):∀n,sm n (λi=>if i=k then d else 0)=if k<n then d else 0
 |0=>by simp[sm]
 |n+1=>by
  unfold sm;rw[sv k d n];by_cases e:n=k
  .subst e;simp
  .have:(k<n+1)↔k<n:=⋯;simp[e,this]
theorem tf (f:Nat->Nat->Int)(m:Nat):∀n,sm n (λi=>sm m (λj=>f i j))=sm m (λj=>sm n (λi=>f i j))
 |0=>by show(0:Int)=_;exact(e9 λ_ _=>rfl).symm
 |n+1=>by
  show sm n (λi=>sm m (λj=>f i j))+sm m (λj=>f n j)=sm m (λj=>sm n (λi=>f i j)+f n j);rw[ox,tf f m n]
def lW (h:∀i,i<n->0<=f i)(hk:k<n):f k<=sm n f:=by
 have:=qA (n:=n) (f:=λi=>if i=k then f k else 0) (g:=f) λi hi=>by
  show(if i=k then f k else 0)<=f i;split
  .rename_i e;subst e;exact Y6 _
  .exact h i hi
 rw[sv,aha hk] at this;exact this
def xX (h:∀i,i<n->0<=f i)(e:sm n f=0):∀i,i<n->f i=0:=λi hi=>by
 let h1:=lW h hi;let h2:=h i hi;omega
def en (M:Γ1)(i j:Nat):Int:=(M∩i)\j
def gj (M:Γ1)(i j:Nat)(d:Int):Γ1:=M.set i ((M∩i).set j (en M i j+d))
structure ze (M:Γ1)(n g:Nat):Prop where
 len:↥M=n
 row:∀i,i<n->↥(M∩i)=g
def jf {α : Type}(l:List α)(i j:Nat)(x d:α)(hi:i<↥l):(l.set i x).getD j d=if j=i then x else l.getD j d:=by
 by_cases e:i=j
 .subst e;simp[List.getD,Yq hi]
 .let e':¬ j=i:=λz=>e z.symm
  simp[List.getD,Z8 e,e']
def nJ (s:ze M n g)(hi:i<n)(hj:j<g)(d:Int)(a b:Nat):en (gj M i j d) a b=en M a b+(if a=i then (if b=j then d else 0) else 0):=by
 unfold gj;let h1:i<↥M:=by rw[s.len];exact hi
 let h2:j<↥(M∩i):=by rw[s.row i hi];exact hj
 show((M.set i _)∩a)\b=_;rw[jf _ _ _ _ _ h1];by_cases e:a=i
 .subst e;rw[aha rfl,aha rfl,jf _ _ _ _ _ h2];by_cases e2:b=j
  .subst e2;rw[aha rfl,aha rfl]
  .rw[aga e2,aga e2,Int.add_zero];rfl
 .rw[aga e,aga e,Int.add_zero];rfl
def jr (s:ze M n g)(hi:i<n)(d:Int):ze (gj M i j d) n g:=by
 let h1:i<↥M:=by rw[s.len];exact hi
 apply⟨by unfold gj;rw[Yi];exact s.len,λa ha=>?_⟩;unfold gj;rw[jf _ _ _ _ _ h1];split
 .rw[Yi];exact s.row i hi
 .exact s.row a ha
def fo (M:Γ1)(g i:Nat):Int:=sm g λj=>en M i j
def qf (M:Γ1)(n j:Nat):Int:=sm n λi=>en M i j
def Am (s:ze M n g)(hi:i<n)(hj:j<g)(d:Int)(a:Nat):fo (gj M i j d) g a=fo M g a+if a=i then d else 0:=by
 unfold fo;rw[Hk λb _=>nJ s hi hj d a b,ox]
 congr 1
 by_cases e:a=i
 .subst e;rw[aha rfl,Hk (g:=λb=>if b=j then d else 0) λb _=>by simp,sv,aha hj]
 .rw[aga e,e9 λb _=>by simp[e]]
def A9 (s:ze M n g)(hi:i<n)(hj:j<g)(d:Int)(b:Nat):qf (gj M i j d) n b=qf M n b+if b=j then d else 0:=by
 unfold qf;rw[Hk λa _=>nJ s hi hj d a b,ox]
 congr 1
 by_cases e:b=j
 .subst e;rw[aha rfl,Hk (g:=λa=>if a=i then d else 0) λa _=>by simp,sv,aha hi]
 .rw[aga e,e9 λa _=>by simp[e]]
abbrev lD:=List (Nat×Nat)
def bM (w:lD)(t:Nat):Nat×Nat:=w.getD t (0,0)
structure kG (B M:Γ1)(n g b:Nat)(w:lD):Prop where
 ne:0<↥w
 hd:(bM w 0).1=b
 wZ:∀t,t<↥w->(bM w t).1<n/\(bM w t).2<g/\(((bM w t).2:Nat):Int)∈B∩(bM w t).1
 lnk:∀t,t+1<↥w->0<en M (bM w (t+1)).1 (bM w t).2
 nd:∀t u,t<↥w->u<↥w->(bM w t).2=(bM w u).2->t=u
def cD (M:Γ1)(w:lD)(c:Int):Nat->Γ1
 |0=>M
 |t+1=>if 0<t then gj (gj (cD M w c t) (bM w t).1 (bM w t).2 c) (bM w t).1 (bM w (t-1)).2 (-c) else gj (cD M w c t) (bM w t).1 (bM w t).2 c
structure adi (B M M':Γ1)(w:lD)(c:Int)(n g b t:Nat):Prop where
 uk:ze M' n g
 row:∀i,fo M' g i=fo M g i+if 0<t then (if i=b then c else 0) else 0
 col:∀j,qf M' n j=qf M n j+if 0<t then (if j=(bM w (t-1)).2 then c else 0) else 0
 nn:∀i j,0<=en M' i j
 sup:∀i j,0<en M' i j->0<en M i j\/((j:Nat):Int)∈B∩i
 low:∀i j,(∀s,s+1<t->j≠(bM w s).2)->en M i j<=en M' i j
theorem Uz (s:ze M n g)(nn:∀i j,0<=en M i j)(ok:kG B M n g b w)(c0:0<=c)(hc:∀t,t+1<↥w->c<=en M (bM w (t+1)).1 (bM w t).2):∀t,t<=↥w->adi B M (cD M w c t) w c n g b t
 |0,_=>⟨s,λi=>by simp;rfl,λj=>by simp;rfl,nn,λi j h=>.inl h,λi j _=>Y6 _⟩
 |t+1,ht=>by
  let ih:=Uz s nn ok c0 hc t ⋯;let⟨d1,d2,d3⟩:=ok.wZ t ⋯;let s1:=jr (j:=(bM w t).2) ih.uk d1 c;let e1:=nJ ih.uk d1 d2 c;let r1:=Am ih.uk d1 d2 c;let k1:=A9 ih.uk d1 d2 c;by_cases t0:0<t
  .obtain⟨f1,f2,f3⟩:=ok.wZ (t-1) ⋯;let bF:(bM w t).2≠(bM w (t-1)).2:=λz=>by
    have:=ok.nd t (t-1) ⋯ ⋯ z;omega
   let e2:=nJ s1 d1 f2 (-c);let r2:=Am s1 d1 f2 (-c);let k2:=A9 s1 d1 f2 (-c);let un:cD M w c (t+1)=gj (gj (cD M w c t) (bM w t).1 (bM w t).2 c) (bM w t).1 (bM w (t-1)).2 (-c):=by show(if 0<t then _ else _)=_;rw[aha t0]
   rw[un];let hlk:c<=en M (bM w t).1 (bM w (t-1)).2:=by
    have:=hc (t-1) ⋯
    rwa [show t-1+1=t by omega] at this
   let hlo:en M (bM w t).1 (bM w (t-1)).2<=en (cD M w c t) (bM w t).1 (bM w (t-1)).2:=ih.low _ _ λu hu z=>by
    have:=ok.nd (t-1) u ⋯ ⋯ z;omega
   let ee:∀i j,en (gj (gj (cD M w c t) (bM w t).1 (bM w t).2 c) (bM w t).1 (bM w (t-1)).2 (-c)) i j=en (cD M w c t) i j+(if i=(bM w t).1 then (if j=(bM w t).2 then c else 0) else 0)+(if i=(bM w t).1 then (if j=(bM w (t-1)).2 then -c else 0) else 0):=λi j=>by rw[e2,e1]
   apply⟨jr s1 d1 _,λi=>?_,λj=>?_,λi j=>?_,λi j h=>?_,λi j h=>?_⟩
   .rw[r2,r1,ih.row,aha t0,aha (show 0<t+1 by omega)];split<;>omega
   .rw[k2,k1,ih.col,aha t0,aha (show 0<t+1 by omega),Nat.add_sub_cancel]
    (repeat' split)<;>omega
   .rw[ee];let h0:=ih.nn i j;by_cases a1:i=(bM w t).1
    .subst a1;rw[aha rfl,aha rfl];by_cases a2:j=(bM w (t-1)).2
     .subst a2;rw[aga (Ne.symm bF),aha rfl];omega
     .rw[aga a2];split<;>omega
    .rw[aga a1,aga a1];omega
   .rw[ee] at h;by_cases a1:i=(bM w t).1
    .subst a1;rw[aha rfl,aha rfl] at h;by_cases a2:j=(bM w t).2
     .subst a2;exact .inr d3
     .rw[aga a2] at h;apply ih.sup _ _ ?_;split at h<;>omega
    .rw[aga a1,aga a1] at h;exact ih.sup i j ⋯
   .rw[ee];let h1:=ih.low i j λu hu=>h u ⋯
    let h2:j≠(bM w (t-1)).2:=h (t-1) ⋯;rw[aga h2]
    (repeat' split)<;>omega
  .let t0':t=0:=⋯;subst t0';let un:cD M w c 1=gj (cD M w c 0) (bM w 0).1 (bM w 0).2 c:=rfl;rw[un];apply⟨s1,λi=>?_,λj=>?_,λi j=>?_,λi j h=>?_,λi j h=>?_⟩
   .rw[r1,ih.row,ok.hd];simp
   .rw[k1,ih.col];simp
   .rw[e1];let h0:=ih.nn i j
    (repeat' split)<;>omega
   .rw[e1] at h;by_cases a1:i=(bM w 0).1
    .subst a1;by_cases a2:j=(bM w 0).2
     .subst a2;exact .inr d3
     .rw[aha rfl,aga a2] at h;exact ih.sup _ _ ⋯
    .rw[aga a1] at h;exact ih.sup i j ⋯
   .rw[e1];let h1:=ih.low i j λu hu=>afa hu ⋯
    (repeat' split)<;>omega
end SP
namespace SP
def bt (w:lD):Nat:=(bM w (↥w-1)).2
def bZ (Ws:List lD):List Nat:=Ws.map bt
structure BF (B M:Γ1)(n g b:Nat)(Ws:List lD):Prop where
 ok:∀w∈Ws,kG B M n g b w
 nd:(bZ Ws).Nodup
 sub:∀w∈Ws,∀t,t<↥w->(bM w t).2∈bZ Ws
def Hh (h:t<↥w):bM (w++[p]) t=bM w t:=by
 unfold bM;simp[List.getD,Zr h]
def gG:bM (w++[p]) ↥w=p:=by
 unfold bM;simp[List.getD]
def rh:bt (w++[p])=p.2:=by
 unfold bt;rw[Zv];show(bM (w++[p]) (↥w+1-1)).2=_;rw[Nat.add_sub_cancel,gG]
def BF.push (h:BF B M n g b Ws)(hw:w∈Ws)(hp:p<n)(hx:x<g)(hb:(x:Int)∈B∩p)(eY:0<en M p (bt w))(hn:x∉bZ Ws):BF B M n g b (Ws++[w++[(p,x)]]):=by
 let ow:=h.ok w hw;let e:bZ (Ws++[w++[(p,x)]])=bZ Ws++[x]:=by unfold bZ;rw[Zs];simp[rh]
 apply⟨λv hv=>?_,?_,λv hv t ht=>?_⟩
 .rcases Zz.mp hv with hv |hv
  .exact h.ok v hv
  .rw[Z3.mp hv];let hl:↥(w++[(p,x)])=↥w+1:=by simp
   let o0:=ow.ne;apply⟨⋯,by rw[Hh o0];exact ow.hd,λt ht=>?_,λt ht=>?_,λt u ht hu z=>?_⟩
   .by_cases y:t<↥w
    .rw[Hh y];exact ow.wZ t y
    .have:t=↥w:=⋯;subst this;rw[gG];exact⟨hp,hx,hb⟩
   .by_cases y:t+1<↥w
    .rw[Hh y,Hh ⋯];exact ow.lnk t y
    .have:t+1=↥w:=⋯;rw[this,gG,Hh ⋯];have:t=↥w-1:=⋯;rw[this];exact eY
   .by_cases yt:t<↥w
    .by_cases yu:u<↥w
     .rw[Hh yt,Hh yu] at z;exact ow.nd t u yt yu z
     .have:u=↥w:=⋯;subst this;rw[Hh yt,gG] at z;exact afa (by have:=h.sub w hw t yt;rw[z] at this;exact this) hn
    .have:t=↥w:=⋯;subst this;by_cases yu:u<↥w
     .rw[Hh yu,gG] at z;exact afa (by have:=h.sub w hw u yu;rw[<- z] at this;exact this) hn
     .omega
 .rw[e,Qd];exact⟨h.nd,by simp,λa ha c hc z=>by rw[Z3.mp hc] at z;exact hn (z▸ha)⟩
 .rw[e];rcases Zz.mp hv with hv |hv
  .exact Y8 _ (h.sub v hv t ht)
  .rw[Z3.mp hv] at ht ⊢;by_cases y:t<↥w
   .rw[Hh y];exact Y8 _ (h.sub w hw t y)
   .have:t=↥w:=by simp at ht;omega
    subst this;rw[gG];exact Ym _ (by simp)
theorem oU:∀{l:List Nat}{g:Nat},l.Nodup->(∀x∈l,x<g)->↥l<=g
 |l,0,_,h=>by
  cases l with
  |nil=>exact Zf _
  |cons x l=>exact afa (h x Zk) ⋯
 |l,g+1,nd,h=>by
  let h1:↥(l.filter λx=>decide (x≠g))<=g:=oU (nd.sublist Zu) λx hx=>by
   let⟨a,b⟩:=Ze.mp hx;have:=h x a;have:=aia b;omega
  let h2:↥l<=↥(l.filter λx=>decide (x≠g))+1:=by
   clear h h1
   induction l with
   |nil=>exact Z9 _
   |cons x l ih =>
    let wS:=Yc.mp nd;let Nv:=ih wS.2;by_cases e:x=g
    .subst e;have:l.filter (λy=>decide (y≠x))=l:=X1.mpr λy hy=>aea λz=>wS.1 (z▸hy)
     rw[Qs (by simp),this];simp
    .rw[Ja ‹e›,Y1,Y1];omega
  omega
def BF.len (h:BF B M n g b Ws):↥Ws<=g:=by
 have:↥(bZ Ws)<=g:=oU h.nd λx hx=>by
  let⟨w,hw,rfl⟩:=Zd.mp hx;let o:=h.ok w hw;have:=o.ne;exact(o.wZ (↥w-1) ⋯).2.1
 unfold bZ at this
 rwa [Zb] at this
def kG.len (o:kG B M n g b w):↥w<=g:=by
 let h1:(w.map (·.2)).length<=g:=oU ?_ ?_
 .rwa [Zb] at h1
 .unfold List.Nodup;rw[List.pairwise_iff_getElem];intro s t hs ht nS e;rw[Zb] at hs ht;have:s=t:=o.nd s t hs ht (by
   unfold bM;simp only[List.getD,Zc hs,Zc ht,X3];simpa using e)
  omega
 .intro x hx;let⟨p,hp,rfl⟩:=Zd.mp hx;let⟨t,ht,rfl⟩:=Yf hp;have:=(o.wZ t ht).2.1;unfold bM at this;simpa[List.getD,Zc ht] using this
structure LI (B M:Γ1)(U ms:Γ3)(n g:Nat):Prop where
 uk:ze M n g
 nn:∀i j,0<=en M i j
 sup:∀i j,i<n->j<g->0<en M i j->(j:Int)∈B∩i
 ul:↥U=g
 u0:∀j,j<g->0<=U\j
 col:∀j,j<g->U\j+qf M n j=ms\j
def Ph (B:Γ1)(ms ps:Γ3)(n g:Nat):Prop:=∀T S:Nat->Bool,(∀i,i<n->T i->∀x∈B∩i,S x.toNat)->sm n (λi=>if T i=true then ps\i else 0)<=sm g (λj=>if S j=true then ms\j else 0)
def D6 (B M:Γ1)(U:Γ3)(n:Nat)(Ws:List lD)(k:Nat):Prop:=∀t,t<k->U\(bt (Ws∩t))=0/\∀p,p<n->0<en M p (bt (Ws∩t))->∀x∈B∩p,x.toNat∈bZ Ws
def oZ {α : Type}{l m:List α}{t:Nat}{d:α}(h:t<↥l):(l++m).getD t d=l.getD t d:=by simp[List.getD,Zr h]
def D6.app {B M:Γ1}{n k:Nat}(h:D6 B M U n Ws k)(hk:k<=↥Ws)(Vs:List lD):D6 B M U n (Ws++Vs) k:=λt ht=>by
 rw[oZ ⋯];let⟨h1,h2⟩:=h t ht;exact⟨h1,λp hp h0 x hx=>by unfold bZ;rw[Zs];exact Y8 _ (h2 p hp h0 x hx)⟩
open Classical in
def Ch (s:LI B M U ms n g)(qc:Ph B ms ps n g)(bn:b<n)(hB:∀i,i<n->∀x∈B∩i,0<=x/\x.toNat<g)
  (rl:∀i,i<n->fo M g i<=ps\i) (rb:fo M g b<ps\b) (lg:∀x∈bZ Ws,x<g) (base:∀x∈B∩b,x.toNat∈bZ Ws) (dn:D6 B M U n Ws ↥Ws):False:=by
 let mem:∀j,j∈bZ Ws->∃t,t<↥Ws/\bt (Ws∩t)=j:=λj hj=>by
  let⟨w,hw,rfl⟩:=Zd.mp hj;let⟨t,ht,rfl⟩:=Yf hw;exact⟨t,ht,by simp[List.getD,Zc ht]⟩
 letI S:Nat->Bool:=λj=>decide (j∈bZ Ws)
 letI T:Nat->Bool:=λi=>decide (i=b\/∃j∈bZ Ws,0<en M i j)
 let h1:=qc T S λi hi hT x hx=>by
  apply aea ?_;rcases aia hT with rfl |⟨j,hj,h0⟩
  .exact base x hx
  .obtain⟨t,ht,rfl⟩:=mem j hj;exact(dn t ht).2 i hi h0 x hx
 let h2:sm g (λj=>if S j=true then ms\j else 0)=sm n (λi=>sm g (λj=>if S j=true then en M i j else 0)):=by
  rw[tf];apply Hk λj hj=>?_
  by_cases e:S j
  .rw[aha e];let⟨t,ht,el⟩:=mem j (aia e);let h3:=(dn t ht).1;rw[el] at h3;let h4:=s.col j hj;rw[h3,Int.zero_add] at h4;rw[<- h4];exact Hk λi _=>by rw[aha e]
  .rw[aga e];exact(e9 λi _=>by rw[aga e]).symm
 let h3:∀i,i<n->sm g (λj=>if S j=true then en M i j else 0)<=if T i=true then fo M g i else 0:=λi hi=>by
  by_cases e:T i
  .rw[aha e];apply qA λj hj=>?_
   have:=s.nn i j;split<;>omega
  .rw[aga e];have:sm g (λj=>if S j=true then en M i j else 0)=0:=e9 λj hj=>by
    split
    .rename_i hs;let h4:=s.nn i j;rcases Int.lt_or_eq_of_le h4 with y |y
     .exact afa (aea (Or.inr ⟨j,aia hs,y⟩)) e
     .exact y.symm
    .rfl
   omega
 let h4:sm n (λi=>sm g (λj=>if S j=true then en M i j else 0))<sm n (λi=>if T i=true then ps\i else 0):=by
  apply Int.lt_of_le_of_lt (qA (g:=λi=>if T i=true then fo M g i else 0) h3) (LR bn ?_ λi hi=>?_)
  .have:T b:=aea (Or.inl rfl);show(if T b=true then fo M g b else 0)<if T b=true then ps\b else 0
   rw[aha this,aha this];exact rb
  .show(if T i=true then fo M g i else 0)<=if T i=true then ps\i else 0
   have:=rl i hi;split<;>omega
 rw[h2] at h1;omega
structure SpO (M:Γ1)(ps:Γ3)(g n b:Nat)(left:Int):Prop where
 old:∀i,i<b->i<n->fo M g i=ps\i
 now:b<n->fo M g b+left=ps\b
 new:∀i,b<i->i<n->fo M g i=0
structure zU (B M:Γ1)(ms ps:Γ3)(n g:Nat):Prop where
 uk:ze M n g
 nn:∀i j,0<=en M i j
 sup:∀i j,i<n->j<g->0<en M i j->(j:Int)∈B∩i
 row:∀i,i<n->fo M g i=ps\i
 col:∀j,j<g->qf M n j=ms\j
def BS (s:LI B M U ms n g)(row:∀i,i<n->fo M g i=ps\i)(R7:sm g (λj=>ms\j)=sm n (λi=>ps\i)):zU B M ms ps n g:=by
 apply⟨s.uk,s.nn,s.sup,row,?_⟩;let h1:sm g (λj=>U\j+qf M n j)=sm g (λj=>ms\j):=Hk λj hj=>s.col j hj
 rw[ox] at h1;let h2:sm g (λj=>qf M n j)=sm n (λi=>fo M g i):=(tf (λi j=>en M i j) g n).symm;let h3:sm n (λi=>fo M g i)=sm n (λi=>ps\i):=Hk λi hi=>row i hi
 let h4:sm g (λj=>U\j)=0:=by
  grind
 intro j hj;let h5:=xX s.u0 h4 j hj;let h6:=s.col j hj;omega
def Js (s:LI B M U ms n g)(o:SpO M ps g n b left)(ok:kG B M n g b w)(c0:0<=c)(hc:∀t,t+1<↥w->c<=en M (bM w (t+1)).1 (bM w t).2)(hu:c<=U\(bt w)) :
  LI B (cD M w c ↥w) (U.set (bt w) (U\(bt w)-c)) ms n g/\SpO (cD M w c ↥w) ps g n b (left-c):=by
 let st:=Uz s.uk s.nn ok c0 hc ↥w (Zf _);let o0:=ok.ne;let TB:bt w<g:=(ok.wZ (↥w-1) ⋯).2.1;let hul:bt w<↥U:=by rw[s.ul];exact TB
 apply⟨⟨st.uk,st.nn,λi j hi hj h=>?_,by rw[Yi];exact s.ul,λj hj=>?_,λj hj=>?_⟩,λi hi hn=>?_,λhb=>?_,λi hi hn=>?_⟩
 .rcases st.sup i j h with z |z
  .exact s.sup i j hi hj z
  .exact z
 .rw[jf _ _ _ _ _ hul];have:=s.u0 j hj;split
  .rename_i e;subst e;omega
  .exact this
 .rw[jf _ _ _ _ _ hul,st.col,aha o0];show _+(_+if j=bt w then c else 0)=_;have:=s.col j hj;by_cases e:j=bt w
  .subst e;rw[aha rfl,aha rfl];omega
  .rw[aga e,aga e];omega
 .rw[st.row,aha o0,aga ⋯];have:=o.old i hi hn;omega
 .rw[st.row,aha o0,aha rfl];have:=o.now hb;omega
 .rw[st.row,aha o0,aga ⋯];have:=o.new i hi hn;omega
end SP
namespace MI
open L2 KG EX KM RZ SP
def ly {α : Type}{l:List α}{i:Nat}{d:α}(h:i<↥l):l.getD i d∈l:=by rw[ao (Zc h)];exact Zw _
def zJ:FM:=λO xs P _=>∃qs:Δ1,xs=[.im (.list (qs.map qD))]/\(∀q∈qs,Rb 32000000 q)/\(∀i,i<=↥qs->Rb 32000000 (aK (qs.take i)))/\P (.im (qD (aK qs))) O
abbrev VI:Δ2:=["parts","whole","part"]
def Ml:MS:=(aU (bv (iQ (af (mC (.int 0)) (af (mC (.int 1)) ar))) (aY 1))
 (aU (nW (c7 (ah 0)) (aY 2) (bv (aC (f2 V') cE (af (ah 1) (af (ah 2) ar))) (aY 1)))
 (cO (ah 1))))
def Jx:∀O xs Pq QX,zJ O xs Pq QX->Ml Pq⁻¹ (be VI xs) O:=by
 intro O xs Pq QX h;let⟨qs,rfl,hq,hs,h⟩:=h;apply⟨lG,?_⟩;apply⟨?_⟩;conv=>whnf
 apply⟨λi sl O'=>O'=O/\∃y,sl=[Φ9 (.list (qs.map qD)),Φ9 (qD (aK (qs.take i))),y],⟨(),_,()⟩,?_,?_⟩
 .rintro i x sl O' hx ⟨rfl,y,rfl⟩;let hi:i<↥qs:=by have:=(Zg.mp hx).1;simpa using this
  rw[Zo,ky (f:=qD) (d:=(0:Rat)) hi] at hx;cases aaa hx;apply⟨aK (qs.take i),qs\i,(),⟨hs i ⋯,hq _ (ly hi)⟩,(),Φ9 (qD (qs\i)),?_⟩;rw[Nr (0:Rat) hi,BQ];rfl
 .rintro sl O' ⟨rfl,y,rfl⟩;rw[Zb,Zb,Yo];exact⟨h⟩
def fY (r:Γ3)(ds:Δ1):Δ1:=(~~~↥r).map λj=>((r.getD j 0:Int):Rat)*(ds\j)
structure xu (r:Γ3)(ds:Δ1):Prop where
 len:↥r=↥ds
 r6:↥r<=6
 nn:∀x∈r,0<=x/\x<=100
 rb:∀d∈ds,Rb 32000000 d
 pb:∀q∈fY r ds,Rb 32000000 q
 sb:∀i,i<=↥(fY r ds)->Rb 32000000 (aK ((fY r ds).take i))
def IH:FM:=λO xs P _=>∃(r:Γ3) (ds:Δ1),xs=[.im (bi r),.im (.tuple (ds.map qD))]/\xu r ds/\P (.im (qD (aK (fY r ds)))) O
abbrev O0:Δ2:=["wishes","got"]
def US:MS:=(cO (aC zJ cE (af (cH 2 [] (Tf (af (ah 0) (af (ah 1) ar))) (lz 2 (aG (aY 0) (aG (aY 1) cx))) d7 (aC (f2 pU) cE (af (iQ (af (ah 0) (af (mC (.int 1)) ar))) (af (ah 1) ar)))) ar)))
def PN:∀O xs Pq QX,IH O xs Pq QX->US Pq⁻¹ (be O0 xs) O:=by
 intro O xs Pq QX h;let⟨r,ds,rfl,ok,h⟩:=h;let hl:=ok.len;let r6:=ok.r6;apply⟨by rw[Zb,Zb];omega,?_⟩;apply gP (λj=>qD (((r.getD j 0:Int):Rat)*(ds\j))) (λj=>.int (r\j)) (λj=>qD (ds\j)) (by rw[Hj,Zb];omega) (λi x hx=>?_) (λi Z hi hZ=>?_) ?_
 .obtain⟨hi,rfl⟩:=sq hx;rw[Zb] at hi;rw[show(r.map PyData.int).getD i .none=.int (r\i) from jY hi,show(ds.map qD).getD i .none=qD (ds\i) from jY ⋯]
 .rw[Hj,Zb] at hi;let ha:=ok.nn (r\i) (ly hi);let hb:=ok.rb (ds\i) (ly ⋯);exact⟨lG,((r.getD i 0:Int):Rat),ds\i,(),⟨(fw (k:=7) (by unfold Bd;omega) ∅).mono ∅,hb⟩,hZ⟩
 .rw[Hj,Zb];apply⟨fY r ds,?_,ok.pb,ok.sb,h⟩;unfold fY;rw[Zp];rfl
def gc (W:Γ1)(D:List (Δ1)):Δ1:=(~~~↥W).map λi=>aK (fY (W∩i) (D∩i))
def IG:FM:=λO xs P _=>∃(A:Γ3) (Pu:Δ1) (W:Γ1) (D:List (Δ1)),xs=[.im (dJ A Pu W),.im (DQ D)]/\↥W=↥D/\↥W<=6/\(∀i,i<↥W->xu (W∩i) (D∩i))/\P (.im (.tuple ((gc W D).map qD))) O
abbrev OZ:Δ2:=["market","dealing"]
def UR:MS:=(cO (kw kC (af (cH 2 [] (Tf (af (bA cG (ah 0) (mC (.int 2))) (af (ah 1) ar))) (lz 2 (aG (aY 0) (aG (aY 1) cx))) d7 (aC IH cE (af (ah 0) (af (ah 1) ar)))) ar)))
def PL:∀O xs Pq QX,IG O xs Pq QX->UR Pq⁻¹ (be OZ xs) O:=by
 intro O xs Pq QX h;let⟨A,Pu,W,D,rfl,hl,w6,ok,h⟩:=h;apply⟨_,(),by rw[Zb,Zb];omega,?_⟩;apply gP (λi=>qD (aK (fY (W∩i) (D∩i)))) (λi=>bi (W∩i)) (λi=>.tuple ((D∩i).map qD)) (by rw[Hj,Zb];omega) (λi x hx=>?_) (λi Z hi hZ=>?_) ?_
 .obtain⟨hi,rfl⟩:=sq hx;rw[Zb] at hi;rw[show(W.map bi).getD i .none=bi (W∩i) from jY hi,show(D.map λqs=>PyData.tuple (qs.map qD)).getD i .none=.tuple ((D∩i).map qD) from jY ⋯]
 .rw[Hj,Zb] at hi;exact⟨W∩i,D∩i,(),ok i hi,hZ⟩
 .rw[Hj,Zb];unfold gc at h;rw[Zp] at h;exact h
def Hg (c m a:Int):Rat:=if 0<c then Rat.divInt (c*a) m else 0
def IJ:FM:=λO xs P _=>∃c m a:Int,xs=[.im (.int c),.im (.int m),.im (.int a)]/\(0<c->(m≠0/\Bd 66000000 m)/\Bd 66000000 c/\Bd 66000000 a)/\P (.im (qD (Hg c m a))) O
abbrev VM:Δ2:=["coins","money","amount"]
def UW:MS:=(cO (Tg (eM (bA NN (ah 0) (mC (.int 0)))) (aC IS cE (af (bA Il (ah 0) (ah 2)) (af (ah 1) ar))) (iQ (af (mC (.int 0)) (af (mC (.int 1)) ar)))))
def PU:∀O xs Pq QX,IJ O xs Pq QX->UW Pq⁻¹ (be VM xs) O:=by
 intro O xs Pq QX h;let⟨c,m,a,rfl,hc,h⟩:=h;apply⟨λe=>?_,λe=>?_⟩
 .let e:0<c:=aia e;let⟨h1,h2,h3⟩:=hc e;apply⟨⟨h2,h3⟩,h1,?_⟩;unfold Hg at h;rw[aha e] at h;exact h
 .let e:¬ 0<c:=asa e;apply⟨lG,?_⟩;unfold Hg at h;rw[aga e] at h;exact h
def UP (M:Γ1):PyData:=.list (M.map λr=>.list (r.map .int))
def cV (A ms:Γ3)(M:Γ1):List (Δ1):=(~~~↥M).map λi=>(~~~↥A).map λj=>Hg (en M i j) (ms\j) (A\j)
def IT:FM:=λO xs P _=>∃(A:Γ3) (Pu:Δ1) (W:Γ1) (ms:Γ3) (M:Γ1),xs=[.im (dJ A Pu W),.im (eU ms),.im (UP M)]/\↥A<=6/\↥M<=6/\↥ms=↥A/\(∀i,i<↥M->↥(M∩i)=↥A)/\(∀i j,i<↥M->j<↥A->0<en M i j->(ms\j≠0/\Bd 66000000 (ms\j))/\Bd 66000000 (en M i j)/\Bd 66000000 (A\j))/\P (.im (DQ (cV A ms M))) O
abbrev Pa:Δ2:=["market","money","spent"]
def U5:MS:=(cO (kw kC (af (cH 1 [0,1] (c7 (ah 2)) (aY 0) d7 (kw kC (af (cH 2 [2,0] (XU (af (bA cG (ah 1) (mC (.int 0))) ar)) (lz 2 (aG (aY 0) (aG (aY 1) cx))) d7 (aC IJ cE (af (bA cG (ah 3) (ah 0)) (af (bA cG (ah 2) (ah 0)) (af (ah 1) ar))))) ar))) ar)))
def P4:∀O xs Pq QX,IT O xs Pq QX->U5 Pq⁻¹ (be Pa xs) O:=by
 intro O xs Pq QX h;let⟨A,Pu,W,ms,M,rfl,g6,n6,hm,hr,hb,h⟩:=h;conv=>whnf
 apply comp_map (λi=>.tuple (((~~~↥A).map λj=>Hg (en M i j) (ms\j) (A\j)).map qD)) (by rw[Zb,Zb];omega) (λi x Z hx hZ=>?_) ?_
 .let hi:i<↥M:=by have:=(Zg.mp hx).1;simpa using this
  rw[Zo,ky (d:=([]:Γ3)) hi] at hx;cases aaa hx;let Ny:=hr i hi;let el:↥(c8 (A.map PyData.int))=↥A:=by unfold c8;simp
  apply⟨_,(),?_⟩;apply gP (λj=>qD (Hg (en M i j) (ms\j) (A\j))) (λj=>.int (j:Int)) (λj=>.int (A\j)) (by rw[el];omega) (λj x hx=>?_) (λj Z hj hZ=>?_) ?_
  .obtain⟨hj,rfl⟩:=jw hx;rw[Zb] at hj;rw[show(A.map PyData.int).getD j .none=.int (A\j) from jY hj]
  .rw[el] at hj;apply⟨_,int_at (show j<↥(M∩i) by omega),_,int_at (show j<↥ms by omega),_,_,_,(),λh0=>hb i j hi hj h0,hZ⟩
  .rw[el];rw[Zp] at hZ;exact hZ
 .rw[Zb,Zb];unfold DQ cV at h;rw[Zp] at h;exact h
def dr (p:Nat×Nat):PyData:=.tuple [.int (p.1:Int),.int (p.2:Int)]
def jL (w:lD):PyData:=.list (w.map dr)
def iP (Ws:List lD):List (Int×PyData):=(bZ Ws).map λx:Nat=>((x:Int),PyData.bool true)
def xP {α : Type}{xs:List α}{d:α}(h:0<↥xs):gh xs (-1)=↑(xs.getD (↥xs-1) d):=by
 unfold gh ur;rw[aga ⋯,aha ⋯,ao (Zc (show ↥xs-1<↥xs by omega))];have:(-1+(↥xs:Int)).toNat=↥xs-1:=⋯;rw[this];exact Zc ⋯
def kT {w:lD}(h:0<↥w):gh (w.map dr) (-1)=↑(dr (bM w (↥w-1))):=by
 rw[xP (d:=.none) (by rw[Zb];exact h),Zb];rw[show(w.map dr).getD (↥w-1) .none=dr (bM w (↥w-1)) from jY ⋯]
def BD:(O++[a,b])[↥O]?=↑a:=by simp
def Vz:(O++[a,b])[↥O+1]?=↑b:=by
 rw[Yh ⋯];simp
def ade {k:Nat}(h:O[k]?=↑c):(O++[a,b])[k]?=↑c:=by
 rw[Zr (Zg.mp h).1];exact h
def V5:(O++[a,b]).set ↥O c=O++[c,b]:=by
 rw[List.set_append,aga ⋯];simp
def V4:(O++[a,b]).set (↥O+1) c=O++[a,c]:=by
 rw[List.set_append,aga ⋯];simp
def pS.lI (t:pS O k ks W)(h:cL O O'):pS O' k ks W:=by
 let⟨u,rfl⟩:=h;apply⟨?_,t.len,λi hi=>?_⟩
 .rw[Zr (Zg.mp t.hd).1];exact t.hd
 .rw[Zr (Zg.mp (t.row i hi)).1];exact t.row i hi
def pS.get (h:pS O k ks W)(hi:i<↥W)(hj:j<↥(W∩i)):gh (ks.map AV.own) (i:Int)=↑(.own (ks\i))/\O[ks\i]?=↑↑((W∩i).map λx=>AV.im (.int x))/\gh ((W∩i).map λx=>AV.im (.int x)) (j:Int)=↑(.im (.int (en W i j))) :=
 ⟨bB (ky (by rw[h.len];exact hi)),h.row i hi,bB (ky hj)⟩
def tI (Ws:List lD)(y:Nat):jN (iP Ws) (y:Int)↔y∈bZ Ws:=by
 unfold jN iP;rw[X7,Z6];constructor
 .rintro⟨x,hx,e⟩;let e:(x:Int)=(y:Int):=aia e;have:x=y:=⋯;exact this▸hx
 .intro h;exact⟨y,h,aea rfl⟩
def Kv (hn:bt w∉bZ Ws):putD (iP Ws) (bt w:Int) (.bool true)=iP (Ws++[w]):=by
 unfold putD;rw[aga (λz=>hn ((tI Ws _).mp z))];unfold iP bZ;rw[Zs,Zs];rfl
theorem rc:∀{l:Γ3},l.Nodup->(∀x∈l,0<=x)->(l.map Int.toNat).Nodup
 |[],_,_=>Qa
 |x::l,nd,h=>by
  let wS:=Yc.mp nd;rw[Zm,Yc];apply⟨λz=>?_,rc wS.2 λy hy=>h y (Zi _ hy)⟩;let⟨y,hy,e⟩:=Zd.mp z;let h1:=h x Zk;let h2:=h y (Zi _ hy);have:y=x:=⋯;exact wS.1 (this▸hy)
structure VB (B M:Γ1)(U ms ps:Γ3)(n g b:Nat):Prop where
 sp:LI B M U ms n g
 qc:Ph B ms ps n g
 bn:b<n
 bl:↥B=n
 n6:n<=6
 g6:g<=6
 hB:∀i,i<n->∀x∈B∩i,0<=x/\x.toNat<g
 b6:∀i,i<n->↥(B∩i)<=6
 nd:∀i,i<n->(B∩i).Nodup
 rl:∀i,i<n->fo M g i<=ps\i
 rb:fo M g b<ps\b
def II:FM:=λO xs P _=>∃(B M:Γ1) (U ms ps:Γ3) (n g b k ku:Nat) (ks:List Nat),xs=[.im (.tuple (B.map bi)),.own k,.own ku,.im (.int (b:Int))]/\pS O k ks M/\O[ku]?=↑(cI U)/\VB B M U ms ps n g b/\∀(w:lD) (O':aX),kG B M n g b w->U\(bt w)≠0->cL O O'->P (.im (jL w)) O'
abbrev IW:Δ2:=["best","spent","unsold","buyer","ways","met","at","last","payer","good"]
def UU:MS:=(aU (bv (j7 1 [3] (c7 (bA cG (ah 0) (ah 3))) (aY 0) d7 (kD (af (iQ (af (ah 1) (af (ah 0) ar))) ar))) (aY 4))
 (aU (bv (xE 1 [] (c7 (bA cG (ah 0) (ah 3))) (aY 0) d7 (ah 0) (mC (.bool true))) (aY 5))
 (aU (bv (mC (.int 0)) (aY 6))
 (aU (sO (eM (bA (Dj false) (bA cG (ah 2) (bA cG (bA cG (bA cG (ah 4) (ah 6)) (xi (mC (.int 1)))) (mC (.int 1)))) (mC (.int 0)))) (aU (bv (bA cG (bA cG (bA cG (ah 4) (ah 6)) (xi (mC (.int 1)))) (mC (.int 1))) (aY 7))
 (aU (nW (nV (af (kw uF (af (ah 1) ar)) ar)) (aY 8) (mY (eM (bA NN (bA cG (bA cG (ah 1) (ah 8)) (ah 7)) (mC (.int 0)))) (nW (c7 (bA cG (ah 0) (ah 8))) (aY 9) (mY (U7 true (ah 9) (ah 5)) (aU (Mx (ah 5) (ah 9) (mC (.bool true)))
 (zA (Og (ah 4) (af (bA hC (bA cG (ah 4) (ah 6)) (kD (af (iQ (af (ah 8) (af (ah 9) ar))) ar))) ar)))) iH)) iH))
 (Em 6 (xt λi j=>i+j) (mC (.int 1))))))
 (cO (bA cG (ah 4) (ah 6)))))))
def sK (h:0<=x):((x.toNat:Nat):Int)=x:=Xa h
abbrev HV (O:aX)(Ws:List lD):aX:=O++[↑(Ws.map λw=>AV.im (jL w)),↑((iP Ws).map pairD)]
structure WyI (O:aX)(B M:Γ1)(U:Γ3)(n g b k ku m:Nat)(sl:g9)(O':aX):Prop where
 ex:∃(Ws:List lD) (a:Nat) (y7 y8 y9:Option AV),m+a=g+1/\sl=[Φ9 (.tuple (B.map bi)),↑(.own k),↑(.own ku),Φ9 (.int (b:Int)),↑(.own ↥O),↑(.Bo (↥O+1)),Φ9 (.int ((a:Nat):Int)),y7,y8,y9]/\O'=HV O Ws/\BF B M n g b Ws/\(∀x∈B∩b,x.toNat∈bZ Ws)/\D6 B M U n Ws a/\a<=↥Ws
structure WyJ (O:aX)(B M:Γ1)(n g b k ku a:Nat)(w:lD)(Ws:List lD)(i:Nat)(sl:g9)(O':aX):Prop where
 ex:∃(Vs:List lD) (y8 y9:Option AV),sl=[Φ9 (.tuple (B.map bi)),↑(.own k),↑(.own ku),Φ9 (.int (b:Int)),↑(.own ↥O),↑(.Bo (↥O+1)),Φ9 (.int ((a:Nat):Int)),Φ9 (.int ((bt w:Nat):Int)),y8,y9]/\O'=HV O (Ws++Vs)/\BF B M n g b (Ws++Vs)/\∀p,p<i->0<en M p (bt w)->∀x∈B∩p,x.toNat∈bZ (Ws++Vs)
structure WyK (O:aX)(B M:Γ1)(n g b k ku a:Nat)(w:lD)(Ws:List lD)(i j:Nat)(sl:g9)(O':aX):Prop where
 ex:∃(Vs:List lD) (y9:Option AV),sl=[Φ9 (.tuple (B.map bi)),↑(.own k),↑(.own ku),Φ9 (.int (b:Int)),↑(.own ↥O),↑(.Bo (↥O+1)),Φ9 (.int ((a:Nat):Int)),Φ9 (.int ((bt w:Nat):Int)),Φ9 (.int (i:Int)),y9]/\O'=HV O (Ws++Vs)/\BF B M n g b (Ws++Vs)/\(∀p,p<i->0<en M p (bt w)->∀x∈B∩p,x.toNat∈bZ (Ws++Vs))/\∀x∈(B∩i).take j,x.toNat∈bZ (Ws++Vs)
def PQ:∀O xs Pq QX,II O xs Pq QX->UU Pq⁻¹ (be IW xs) O:=by
 intro O xs Pq QX h;let⟨B,M,U,ms,ps,n,g,b,k,ku,ks,rfl,tb,hu,ok,h⟩:=h;let bl:=ok.bl;let bn:=ok.bn;let n6:=ok.n6;let g6:=ok.g6;let Eg:∀i,i<n->gh (B.map bi) (i:Int)=↑(bi (B∩i)):=λi hi=>bB (ky ⋯)
 let hb6:=ok.b6 b bn;apply⟨_,Eg b bn,?_⟩;conv=>whnf
 apply ma (λi d=>d=.im (jL [(b,((B∩b)\i).toNat)])) (by rw[Zb,Zb];omega) (λi x Z hx hZ=>?_) (λzs hl hz=>?_)
 .obtain⟨hi,rfl⟩:=fg hx;let h0:=(ok.hB b bn _ (ly (d:=0) hi)).1;apply⟨lG,DU,hZ _ ?_⟩;unfold jL dr;rw[Zm,List.map_nil,sK h0]
 rw[Zb,Zb] at hl;letI LH:List lD:=(B∩b).map λx=>[(b,x.toNat)]
 let ez:zs=LH.map λw=>AV.im (jL w):=by
  apply Qn λi=>?_
  rw[Zp,Zo];by_cases hi:i<↥zs
  .have:=hz i _ (Zc hi);rw[Zc hi,this,Zc (show i<↥(B∩b) by omega),ao (Zc (show i<↥(B∩b) by omega))];rfl
  .rw[Yu (Xf hi),Yu ⋯];rfl
 subst ez;let e0:bZ LH=(B∩b).map Int.toNat:=by
  show((B∩b).map λx=>[(b,x.toNat)]).map bt=_;rw[Zp];rfl
 let bf0:BF B M n g b LH:=by
  apply⟨λw hw=>?_,?_,λw hw t ht=>?_⟩
  .obtain⟨x,hx,rfl⟩:=Zd.mp hw;let⟨h0,h1⟩:=ok.hB b bn x hx;apply⟨by simp,(),λt ht=>?_,λt ht=>afa ht (by simp),λt u ht hu _=>by simp at ht hu;omega⟩;have:t=0:=by simp at ht;exact ht
   subst this;exact⟨bn,h1,by show((x.toNat:Nat):Int)∈_;rw[sK h0];exact hx⟩
  .rw[e0];exact rc (ok.nd b bn) λx hx=>(ok.hB b bn x hx).1
  .obtain⟨x,hx,rfl⟩:=Zd.mp hw;have:t=0:=by simp at ht;exact ht
   subst this;rw[e0];exact Zd.mpr ⟨x,hx,()⟩
 let XA:∀x∈B∩b,x.toNat∈bZ LH:=λx hx=>by rw[e0];exact Zd.mpr ⟨x,hx,()⟩
 apply⟨⟨_,Eg b bn,?_⟩⟩;conv=>whnf
 apply⟨by rw[Zb,Zb];omega,λi Z' O'=>O'=O++[↑(LH.map λw=>AV.im (jL w))]/\Z'=((B∩b).take i).map λx=>(x,PyData.bool true),⟨(),()⟩,?_,?_⟩
 .rintro i x Z' O' hx ⟨rfl,rfl⟩;let⟨hi,rfl⟩:=fg hx;apply⟨λ_=>⟨(),?_⟩,λz=>(by cases z)⟩;rw[Nr (0:Int) hi,Zs];unfold putD;rw[aga]
  .rfl
  .intro z;unfold jN at z;rw[X7,Z6] at z;let⟨y,hy,e⟩:=z;let e:y=(B∩b)\i:=aia e;let nd:=ok.nd b bn;have:(B∩b)=(B∩b).take i++(B∩b).drop i:=(List.take_append_drop i _).symm;rw[this,Qd] at nd;apply nd.2.2 y hy _ ?_ e;rw[List.mem_iff_getElem?];exact⟨0,by rw[List.getElem?_drop,Nat.add_zero,Zc hi,ao (Zc hi)]⟩
 rintro Z' O' ⟨rfl,rfl⟩;rw[Zb,Zb,Yo,Yp];let em:(((B∩b).map λx=>(x,PyData.bool true)).map pairD)=(iP LH).map pairD:=by
  unfold iP;rw[e0,Zp,Zp,Zp];apply Xd λx hx=>?_
  show pairD (x,_)=pairD (((x.toNat:Nat):Int),_);rw[sK (ok.hB b bn x hx).1]
 rw[em];rw[show↥(O++[↑(LH.map λw=>AV.im (jL w))])=↥O+1 by simp];apply⟨?_⟩;let gr:∀Ws,cL O (HV O Ws):=λWs=>⟨_,()⟩
 apply⟨⟨WyI O B M U n g b k ku,⟨g+1,LH,0,none,none,none,⋯,(),(),bf0,XA,λt ht=>afa ht ⋯,Z9 _⟩,?_⟩⟩;rintro m sl O' ⟨Ws,a,y7,y8,y9,hm,rfl,rfl,bf,base,dn,ha⟩;let cN:a<↥Ws:=by
  rcases Yb a ↥Ws with z |z
  .exact z
  .exfalso;let e:a=↥Ws:=⋯;subst e;apply Ch ok.sp ok.qc bn ok.hB ok.rl ok.rb (λx hx=>?_) base dn;let⟨w,hw,rfl⟩:=Zd.mp hx;let o:=bf.ok w hw;have:=o.ne;exact(o.wZ (↥w-1) ⋯).2.1
 let wm:Ws∩a∈Ws:=ly cN;let ale:=bf.len;generalize hw:Ws∩a=w at wm;let ow:=bf.ok w wm;let ow0:=ow.ne;let TB:bt w<g:=(ow.wZ (↥w-1) ⋯).2.1;let Uf:∀Vs:List lD,gh ((Ws++Vs).map λw=>AV.im (jL w)) ((a:Nat):Int)=↑(AV.im (jL w)):=λVs=>by
  rw[bB (ky (d:=([]:lD)) (show a<↥(Ws++Vs) by rw[Zv];omega)),oZ cN,hw]
 let HW:=Uf [];rw[Yn] at HW;let ul:=ok.sp.ul;let SV:gh (U.map λx=>AV.im (PyData.int x)) ((bt w:Nat):Int)=↑(AV.im (.int (U\(bt w)))):=bB (ky ⋯);apply⟨_,_,BD,HW,_,kT ow0,_,(),_,_,ade hu,SV,dI,λhc=>?_,λhc=>?_⟩
 .let hc:U\(bt w)=0:=aia hc;apply⟨_,_,BD,HW,_,kT ow0,_,(),?_⟩;let Uh:=tb.len;let ml:=ok.sp.uk.len;apply⟨_,(tb.lI (gr Ws)).hd,⟨by rw[Zb];omega,by rw[Zb];omega⟩,?_⟩;rw[Zb,Zy];apply⟨WyJ O B M n g b k ku a w Ws,⟨[],y8,y9,(),by rw[Yn],by rw[Yn];exact bf,λp hp=>afa hp ⋯⟩,?_,?_⟩
  .rintro i x sl O' hx ⟨Vs,y8,y9,rfl,rfl,HA,pr⟩;let⟨hi,rfl⟩:=il hx;rw[Uh,ml] at hi;let⟨g1,g2,g3⟩:=(tb.lI (gr (Ws++Vs))).get (i:=i) (j:=bt w) ⋯ (by rw[ok.sp.uk.row i hi];exact TB);apply⟨_,_,(tb.lI (gr (Ws++Vs))).hd,g1,_,_,g2,g3,λhp=>?_,λhp=>?_⟩
   .let hp:0<en M i (bt w):=aia hp;apply⟨_,Eg i hi,?_⟩;conv=>whnf
    apply⟨WyK O B M n g b k ku a w Ws i,⟨Vs,y9,(),(),HA,pr,λx hx=>(by cases hx)⟩,?_,?_⟩
    .rintro j x sl O' hx ⟨Vs,y9,rfl,rfl,HA,pr,pj⟩;let⟨hj,rfl⟩:=fg hx;let hxm:(B∩i)\j∈B∩i:=ly hj;let⟨x0,xg⟩:=ok.hB i hi _ hxm;let xn:=sK x0;let U8:=HA.len;let ml2:↥(iP (Ws++Vs))=↥(Ws++Vs):=by unfold iP bZ;simp
     apply⟨iP (Ws++Vs),Vz,λhk=>?_,λhk=>?_⟩
     .let hk:(!jN (iP (Ws++Vs)) ((B∩i)\j))=true:=hk;let hn:((B∩i)\j).toNat∉bZ (Ws++Vs):=λz=>by
       have:=(tI (Ws++Vs) _).mpr z;rw[xn] at this;rw[this] at hk;cases hk
      apply⟨iP (Ws++Vs),Vz,⋯,?_⟩;rw[V4];apply⟨⟨⟨_,BD⟩,_,_,BD,Uf Vs,lG,DU,?_,?_⟩⟩
      .rw[Zb,sz];have:=ow.len;show ↥w+1<=_;omega
      .apply⟨_,BD,by rw[Zb,sz];omega,?_⟩;let hlw:bt (w++[(i,((B∩i)\j).toNat)])=((B∩i)\j).toNat:=rh;let bf2:=HA.push (Y8 Vs wm) hi xg (by rw[xn];exact hxm) hp hn;let e2:putD (iP (Ws++Vs)) ((B∩i)\j) (.bool true)=iP (Ws++Vs++[w++[(i,((B∩i)\j).toNat)]]):=by
        rw[<- Kv (by rw[hlw];exact hn),hlw,xn]
       let l2:bZ (Ws++Vs++[w++[(i,((B∩i)\j).toNat)]])=bZ (Ws++Vs)++[((B∩i)\j).toNat]:=by
        unfold bZ;rw[Zs (l₁:=Ws++Vs),Zm,List.map_nil,hlw]
       apply⟨Vs++[w++[(i,((B∩i)\j).toNat)]],Φ9 (.int ((B∩i)\j)),(),?_,by rw[<- Yp];exact bf2,λp hp h0 x hx=>?_,λx hx=>?_⟩
       .rw[V5,e2,<- Yp];show O++[↑(_++[_]),_]=O++[↑((Ws++Vs++[w++[(i,((B∩i)\j).toNat)]]).map λw=>AV.im (jL w)),_];rw[Zs (l₁:=Ws++Vs)]
        congr 4
        show _=[AV.im (jL (w++[(i,((B∩i)\j).toNat)]))];unfold jL;rw[Zs (l₁:=w)];show _=[AV.im (.list (w.map dr++[.tuple [.int (i:Int),.int ((((B∩i)\j).toNat:Nat):Int)]]))];rw[xn]
       .rw[<- Yp,l2];exact Y8 _ (pr p hp h0 x hx)
       .rw[<- Yp,l2];rw[Nr (0:Int) hj] at hx;rcases Zz.mp hx with hx |hx
        .exact Y8 _ (pj x hx)
        .rw[Z3.mp hx];exact Ym _ (by simp)
     .let hk:(!jN (iP (Ws++Vs)) ((B∩i)\j))=false:=hk;apply⟨Vs,Φ9 (.int ((B∩i)\j)),(),(),HA,pr,λx hx=>?_⟩;rw[Nr (0:Int) hj] at hx;rcases Zz.mp hx with hx |hx
      .exact pj x hx
      .rw[Z3.mp hx];apply(tI (Ws++Vs) _).mp ?_;rw[xn];cases z:jN (iP (Ws++Vs)) ((B∩i)\j) with
       |true=>rfl
       |false=>rw[z] at hk;cases hk
    .rintro sl O' ⟨Vs,y9,rfl,rfl,HA,pr,pj⟩;rw[Zb,Zb,Yo] at pj;apply⟨Vs,_,_,(),(),HA,λp Φ h0 z hz=>?_⟩;by_cases e:p=i
     .subst e;exact pj z hz
     .exact pr p ⋯ h0 z hz
   .let hp:¬ 0<en M i (bt w):=asa hp;apply⟨Vs,_,_,(),(),HA,λp Φ h0 x hx=>?_⟩;by_cases e:p=i
    .subst e;exact afa h0 hp
    .exact pr p ⋯ h0 x hx
  .rintro sl O' ⟨Vs,y8,y9,rfl,rfl,HA,pr⟩;rw[yY,Uh,ml] at pr;apply⟨⟨_,(),g-a,⋯,Ws++Vs,a+1,Φ9 (.int ((bt w:Nat):Int)),y8,y9,⋯,?_,(),HA,λx hx=>?_,λt ht=>?_,by rw[Zv];omega⟩⟩
   .rfl
   .unfold bZ;rw[Zs];exact Y8 _ (base x hx)
   .rcases Yb t a with z |z
    .exact dn.app ha Vs t z
    .have:t=a:=⋯;subst this;rw[oZ cN,hw];exact⟨hc,pr⟩
 .let hc:U\(bt w)≠0:=asa hc;exact⟨⟨_,_,BD,HW,h w _ ow hc (gr Ws)⟩⟩
def Ez (h:t<↥w):gh (w.map dr) ((t:Nat):Int)=↑(dr (bM w t)):=bB (ky h)
def zO:FM:=λO xs P _=>∃(B M:Γ1) (U:Γ3) (n g b k ku:Nat) (ks:List Nat) (w:lD) (left:Int),xs=[.im (jL w),.own k,.own ku,.im (.int left)]/\pS O k ks M/\O[ku]?=↑(cI U)/\ze M n g/\↥U=g/\g<=6/\kG B M n g b w/\0<left/\0<U\(bt w)/\∀c:Int,0<c->c<=left->c<=U\(bt w)->(∀t,t+1<↥w->c<=en M (bM w (t+1)).1 (bM w t).2)->P (.im (.int c)) O
abbrev O9:Δ2:=["way","spent","unsold","left","bounds"]
def Mt:MS:=(aU (bv (cH 3 [1,0] (Io (af (Is (ah 0) (Bx (mC (.int 1))) By) ar)) (lz 2 (aG (aY 0) (aG (lz 2 (aG (aY 1) (aG (aY 2) cx))) cx))) d7 (bA cG (bA cG (ah 3) (ah 1)) (bA cG (bA cG (ah 4) (ah 0)) (mC (.int 1))))) (aY 4))
 (cO (kw Oc (af (bA hC (ah 4) (kD (af (bA cG (ah 2) (bA cG (bA cG (ah 0) (xi (mC (.int 1)))) (mC (.int 1)))) (af (ah 3) ar)))) ar))))
def JD:∀O xs Pq QX,zO O xs Pq QX->Mt Pq⁻¹ (be O9 xs) O:=by
 intro O xs Pq QX h;let⟨B,M,U,n,g,b,k,ku,ks,w,left,rfl,tb,hu,sh,ul,g6,ok,l0,u0,h⟩:=h;let w0:=ok.ne;let wl:=ok.len;let ac0:cutD (w.map dr) ↑1 none=(w.drop 1).map dr:=by
  have:=rC (xs:=w.map dr) (r:=1) ⋯ (by rw[Zb];omega);rw[this,List.map_drop];rfl
 let Sz:↥(w.drop 1)=↥w-1:=by rw[Qh]
 let el:↥(c8 ((w.drop 1).map dr))=↥w-1:=by unfold c8;simp
 show CB 3 [1,0] _ _ _ _ _ (c8 (cutD (w.map dr) ↑1 none)) O;rw[ac0];apply⟨by rw[el];omega,λi ds O'=>O'=O/\ds=(~~~i).map λt=>.int (en M (bM w (t+1)).1 (bM w t).2),⟨(),()⟩,?_,?_⟩
 .rintro i x ds O' hx ⟨rfl,rfl⟩;let⟨hi,rfl⟩:=jw hx;rw[Zb,Sz] at hi;let ed:((w.drop 1).map dr).getD i .none=dr (bM w (i+1)):=by
   rw[jY (a:=((0,0):Nat×Nat)) (by rw[Sz];exact hi)];unfold bM
   congr 1
   simp[List.getD,List.getElem?_drop,Nat.add_comm]
  rw[ed];let⟨d1,d2,_⟩:=ok.wZ (i+1) ⋯;let⟨e1,e2,_⟩:=ok.wZ i ⋯;let⟨g1,g2,g3⟩:=tb.get (i:=(bM w (i+1)).1) (j:=(bM w i).2) (by rw[sh.len];exact d1) (by rw[sh.row _ d1];exact e2);apply⟨(),(),λ_=>⟨_,_,tb.hd,g1,_,Ez ⋯,_,(),_,_,g2,g3,(),?_⟩,λz=>(by cases z)⟩;rw[Xb,Zs];rfl
 .rintro ds O' ⟨rfl,rfl⟩;rw[el];let SV:gh (U.map λx=>AV.im (PyData.int x)) ((bt w:Nat):Int)=↑(AV.im (.int (U\(bt w)))):=bB (ky (by rw[ul];exact(ok.wZ (↥w-1) ⋯).2.1));apply⟨_,kT w0,_,(),_,_,hu,SV,lG,?_,((~~~(↥w-1)).map λt=>en M (bM w (t+1)).1 (bM w t).2)++[U\(bt w),left],?_,by simp,λc hc hm=>?_⟩
  .rw[Zb,Ys,sz];show ↥w-1+2<=_;omega
  .rw[Zs,Zp];rfl
  .let eY:0<c:=by
    rcases Zz.mp hc with z |z
    .obtain⟨t,ht,rfl⟩:=Zd.mp z;have:=Zh.mp ht;exact ok.lnk t ⋯
    .rcases Zj.mp z with rfl |z
     .exact u0
     .rw[Z3.mp z];exact l0
   exact h c eY (hm _ (Ym _ (by simp))) (hm _ (Ym _ (by simp))) λt ht=>hm _ (Y8 _ (Zd.mpr ⟨t,Zh.mpr ⋯,()⟩))
structure HU (O O':aX)(ks:List Nat):Prop where
 len:↥O'=↥O
 C3:∀m:Nat,m∉ks->O'[m]?=O[m]?
def HU.refl (O:aX)(ks:List Nat):HU O O ks:=⟨(),λ_ _=>rfl⟩
def HU.set (h:HU O O' ks)(hm:m∈ks)(c:Option (List AV)):HU O (O'.set m c) ks:=⟨by rw[Yi];exact h.len,λj hj=>by rw[Z8 (λ(e:m=j)=>hj (e▸hm))];exact h.C3 j hj⟩
def zK:FM:=λO xs P _=>∃(B M:Γ1) (n g b k:Nat) (ks:List Nat) (w:lD) (c:Int),xs=[.im (jL w),.own k,.im (.int c)]/\pS O k ks M/\(k::ks).Nodup/\ze M n g/\kG B M n g b w/\∀O',pS O' k ks (cD M w c ↥w)->HU O O' ks->P (.im .none) O'
abbrev VJ:Δ2:=["way","spent","coins","at","payer","good"]
def Mm:MS:=(nW (Io (af (ah 0) ar)) (lz 2 (aG (aY 3) (aG (lz 2 (aG (aY 4) (aG (aY 5) cx))) cx))) (aU (zB (bA cG (ah 1) (ah 4)) (ah 5) (xt λi j=>i+j) (ah 2))
 (mY (eM (bA NN (ah 3) (mC (.int 0)))) (zB (bA cG (ah 1) (ah 4)) (bA cG (bA cG (ah 0) (bA Uo (ah 3) (mC (.int 1)))) (mC (.int 1))) (xt λi j=>i-j) (ah 2)) iH)))
theorem vf (s:ze M n g)(ok:kG B M n g b w):∀t,t<=↥w->ze (cD M w c t) n g
 |0,_=>s
 |t+1,ht=>by
  let ih:=vf (c:=c) s ok t ⋯;let d1:=(ok.wZ t ⋯).1;show ze (if 0<t then _ else _) n g;split
  .exact jr (jr ih d1 _) d1 _
  .exact jr ih d1 _
def Jy:∀O xs Pq QX,zK O xs Pq QX->Mm Pq⁻¹ (be VJ xs) O:=by
 intro O xs Pq QX h;let⟨B,M,n,g,b,k,ks,w,c,rfl,tb,nd,sh,ok,h⟩:=h;let el:↥(c8 (w.map dr))=↥w:=by unfold c8;simp
 conv=>whnf
 apply⟨λi sl O'=>∃y3 y4 y5:Option AV,sl=[Φ9 (jL w),↑(.own k),Φ9 (.int c),y3,y4,y5]/\pS O' k ks (cD M w c i)/\HU O O' ks,⟨none,none,none,(),tb,HU.refl _ _⟩,?_,?_⟩
 .rintro i x sl O' hx ⟨y3,y4,y5,rfl,t1,C3⟩;let⟨hi,rfl⟩:=jw hx;rw[Zb] at hi;rw[show(w.map dr).getD i .none=dr (bM w i) from jY hi];let⟨d1,d2,_⟩:=ok.wZ i hi;let s1:=vf (c:=c) sh ok i ⋯;let kl:↥ks=n:=by rw[t1.len,s1.len]
  let U9:ks\(bM w i).1∈ks:=mem_getD ⋯;let⟨g1,g2,g3⟩:=t1.get (i:=(bM w i).1) (j:=(bM w i).2) (by rw[s1.len];exact d1) (by rw[s1.row _ d1];exact d2);apply⟨(),(),_,_,t1.hd,g1,_,_,_,g2,g3,zE (by rw[Zb,s1.row _ d1];exact d2),_,g2,(),?_⟩;rw[sA];let t2:=t1.put (((cD M w c i)∩(bM w i).1).set (bM w i).2 (en (cD M w c i) (bM w i).1 (bM w i).2+c)) (i:=(bM w i).1) (by rw[s1.len];exact d1) nd;let UJ:=C3.set U9 (cI (((cD M w c i)∩(bM w i).1).set (bM w i).2 (en (cD M w c i) (bM w i).1 (bM w i).2+c)))
  change pS _ k ks (gj (cD M w c i) (bM w i).1 (bM w i).2 c) at t2
  let s2:=jr (j:=(bM w i).2) s1 d1 c;apply⟨λhc=>?_,λhc=>?_⟩
  .let hc:0<i:=by have:=aia hc;omega
   let⟨e1,e2,_⟩:=ok.wZ (i-1) ⋯;let⟨g1,g2,g3⟩:=t2.get (i:=(bM w i).1) (j:=(bM w (i-1)).2) (by rw[s2.len];exact d1) (by rw[s2.row _ d1];exact e2);let wa:gh (w.map dr) ((i:Int)-1)=↑(dr (bM w (i-1))):=by
    have:=Ez (w:=w) (t:=i-1) ⋯
    rwa [show((i-1:Nat):Int)=(i:Int)-1 by omega] at this
   apply⟨_,_,t2.hd,g1,_,wa,_,(),_,_,_,g2,g3,zE (by rw[Zb,s2.row _ d1];exact e2),_,g2,(),?_⟩;apply⟨_,_,_,(),?_,?_⟩
   .show pS (List.set _ _ ↑((((gj (cD M w c i) (bM w i).1 (bM w i).2 c)∩(bM w i).1).map λx=>AV.im (PyData.int x)).set (bM w (i-1)).2 (.im (.int (en (gj (cD M w c i) (bM w i).1 (bM w i).2 c) (bM w i).1 (bM w (i-1)).2-c))))) k ks _;rw[sA,Int.sub_eq_add_neg];let un:cD M w c (i+1)=gj (gj (cD M w c i) (bM w i).1 (bM w i).2 c) (bM w i).1 (bM w (i-1)).2 (-c):=by show(if 0<i then _ else _)=_;rw[aha hc]
    rw[un];exact t2.put _ (by rw[s2.len];exact d1) nd
   .exact UJ.set U9 _
  .let hc:¬ 0<i:=by have:=asa hc;omega
   let un:cD M w c (i+1)=gj (cD M w c i) (bM w i).1 (bM w i).2 c:=by show(if 0<i then _ else _)=_;rw[aga hc]
   exact⟨_,_,_,(),by rw[un];exact t2,UJ⟩
 .rintro sl O' ⟨y3,y4,y5,rfl,t1,C3⟩;rw[el] at t1;exact h O' t1 C3
structure OL (B:Γ1)(ms ps:Γ3)(n g:Nat):Prop where
 ml:↥ms=g
 pl:↥ps=n
 bl:↥B=n
 n6:n<=6
 g6:g<=6
 m0:∀j,j<g->0<=ms\j
 p0:∀i,i<n->0<=ps\i
 hB:∀i,i<n->∀x∈B∩i,0<=x/\x.toNat<g
 b6:∀i,i<n->↥(B∩i)<=6
 nd:∀i,i<n->(B∩i).Nodup
 qc:Ph B ms ps n g
 R7:sm g (λj=>ms\j)=sm n (λi=>ps\i)
def sP:FM:=λO xs P _=>∃(B:Γ1) (ms ps:Γ3) (n g:Nat),xs=[.im (.tuple (B.map bi)),.im (eU ms),.im (eU ps)]/\OL B ms ps n g/\∀(M:Γ1) (O':aX),zU B M ms ps n g->cL O O'->P (.im (UP M)) O'
abbrev O8:Δ2:=["best","money","purses","spent","unsold","buyer","purse","left","way","coins"]
def E8:MS:=(aU (bv (j7 1 [1] (c7 (ah 2)) (aY 0) d7 (j7 1 [] (c7 (ah 1)) (aY 0) d7 (mC (.int 0)))) (aY 3))
 (aU (bv (kw Oh (af (ah 1) ar)) (aY 4))
 (aU (nW (Io (af (ah 2) ar)) (lz 2 (aG (aY 5) (aG (aY 6) cx))) (aU (bv (ah 6) (aY 7))
 (sO (eM (bA NN (ah 7) (mC (.int 0)))) (aU (bv (aC II cE (af (ah 0) (af (ah 3) (af (ah 4) (af (ah 5) ar))))) (aY 8))
 (aU (bv (aC zO cE (af (ah 8) (af (ah 3) (af (ah 4) (af (ah 7) ar))))) (aY 9))
 (aU (zA (aC zK cE (af (ah 8) (af (ah 3) (af (ah 9) ar)))))
 (aU (zB (ah 4) (bA cG (bA cG (ah 8) (xi (mC (.int 1)))) (mC (.int 1))) (xt λi j=>i-j) (ah 9))
 (Em 7 (xt λi j=>i-j) (ah 9)))))))))
 (El 3 (cO (ah 3))))))
structure uM (O O':aX)(k ku:Nat)(ks:List Nat)(M:Γ1)(U:Γ3):Prop where
 one:One O O' k ks M
 XI:↥O<=ku
 SU:ku∉k::ks
 u:O'[ku]?=↑(cI U)
def uM.lI (s:uM O O1 k ku ks M U)(h:cL O1 O2):uM O O2 k ku ks M U:=by
 apply⟨⟨?_,s.one.ge,s.one.nd,s.one.t.lI h⟩,s.XI,s.SU,?_⟩
 .obtain⟨a,rfl⟩:=s.one.lI;let⟨b,rfl⟩:=h;exact⟨a++b,by rw[Yp]⟩
 .obtain⟨b,rfl⟩:=h;rw[Zr (Zg.mp s.u).1];exact s.u
def GU (g:cL O O1)(o:HU O1 O2 ks)(h:∀x∈ks,↥O<=x):cL O O2:=by
 let⟨a,rfl⟩:=g;apply⟨O2.drop ↥O,?_⟩;let e:O2.take ↥O=O:=by
  apply Qn λi=>?_
  rw[List.getElem?_take];split
  .rename_i hi;rw[o.C3 i (λz=>by have:=h i z;omega),Zr hi]
  .rename_i hi;rw[Yu (Xf hi)]
 have:=(List.take_append_drop ↥O O2).symm;rw[e] at this;exact this
def jx:en (List.replicate n (List.replicate g (0:Int))) i j=0:=by
 unfold en;by_cases hi:i<n
 .rw[show(List.replicate n (List.replicate g (0:Int)))∩i=List.replicate g 0 by simp[List.getD,Y9,hi]];by_cases hj:j<g
  .simp[List.getD,Y9,hj]
  .simp[List.getD,Y9,hj]
 .rw[show(List.replicate n (List.replicate g (0:Int)))∩i=[] by simp[List.getD,Y9,hi]];simp[List.getD]
structure SpV (O:aX)(B:Γ1)(ms ps:Γ3)(ks:List Nat)(n g k ku i:Nat)(sl:g9)(O':aX):Prop where
 ex:∃(M:Γ1) (U:Γ3) (y5 y6 y7 y8 y9:Option AV),sl=[Φ9 (.tuple (B.map bi)),Φ9 (eU ms),Φ9 (eU ps),↑(.own k),↑(.own ku),y5,y6,y7,y8,y9]/\uM O O' k ku ks M U/\LI B M U ms n g/\(∀j,j<i->j<n->fo M g j=ps\j)/\∀j,i<=j->j<n->fo M g j=0
structure SpW (O:aX)(B:Γ1)(ms ps:Γ3)(ks:List Nat)(n g k ku i m:Nat)(sl:g9)(O':aX):Prop where
 ex:∃(M:Γ1) (U:Γ3) (left:Int) (y8 y9:Option AV),m=left.toNat/\0<=left/\sl=[Φ9 (.tuple (B.map bi)),Φ9 (eU ms),Φ9 (eU ps),↑(.own k),↑(.own ku),Φ9 (.int (i:Int)),Φ9 (.int (ps\i)),Φ9 (.int left),y8,y9]/\uM O O' k ku ks M U/\LI B M U ms n g/\SpO M ps g n i left
def FL:∀O xs Pq QX,sP O xs Pq QX->E8 Pq⁻¹ (be O8 xs) O:=by
 intro O xs Pq QX h;let⟨B,ms,ps,n,g,rfl,ok,h⟩:=h;let ml:=ok.ml;let pl:=ok.pl;let n6:=ok.n6;let g6:=ok.g6;letI Z:Γ1:=List.replicate n (List.replicate g (0:Int));let zl:↥Z=n:=Qq;let zr:∀i,i<n->Z∩i=List.replicate g 0:=λi hi=>by simp[Z,List.getD,Y9,hi]
 conv=>whnf
 let hl:↥((ps.map PyData.int).map AV.im)=n:=by simp[pl]
 apply⟨⋯,λi zs O'=>zs=rZ ↥O i/\O'=O++(Z.take i).map cI,⟨(),by simp⟩,?_,?_⟩
 .rintro i x zs O' hx ⟨rfl,rfl⟩;let hi:i<n:=by have:=(Zg.mp hx).1;omega
  apply⟨λ_=>?_,λz=>(by cases z)⟩;conv=>whnf
  apply ma (λ_ d=>d=.im (.int 0)) (by rw[Zb,Zb];omega) (λj x Z hx hZ=>hZ _ rfl) (λzs π hz=>?_);rw[Zb,Zb,ml] at π;let ez:zs=(List.replicate g (0:Int)).map λx=>AV.im (PyData.int x):=by
   apply Qn λj=>?_
   rw[List.map_replicate,Y9];by_cases hj:j<↥zs
   .rw[aha ⋯,Zc hj,hz j _ (Zc hj)]
   .rw[aga ⋯,Yu (Xf hj)]
  subst ez;apply⟨?_,?_⟩
  .rw[B9];simp[Nat.min_eq_left (Nat.le_of_lt hi),zl]
  .rw[List.take_add_one,Zc (show i<↥Z by omega),Zs,<- Yp]
   congr 1
   have:=zr i hi;rw[ao (Zc (show i<↥Z by omega))] at this;rw[this];rfl
 rintro zs O' ⟨rfl,rfl⟩;rw[hl,show Z.take n=Z by rw[<- zl,Yo],Yp];let eL:↥(O++Z.map cI)=↥O+n:=by simp[zl]
 rw[eL];let r9:One O (O++(Z.map cI++[↑(rZ ↥O n)])) (↥O+n) ((~~~n).map λt=>↥O+t) Z:=by
  apply⟨⟨_,()⟩,λx hx=>?_,?_,⟨?_,by simp[zl],λi hi=>?_⟩⟩
  .rcases Zj.mp hx with rfl |hx
   .omega
   .obtain⟨t,_,rfl⟩:=Zd.mp hx;omega
  .apply Yc.mpr ⟨λhx=>?_,?_⟩
   .obtain⟨t,ht,e⟩:=Zd.mp hx;have:=Zh.mp ht;omega
   .exact List.Pairwise.map _ (λa b SA=>⋯) X0
  .have:=He cI O ↑(rZ ↥O n) Z;rw[zl] at this;rw[this,Gk]
  .rw[zl] at hi;have:((~~~n).map λt=>↥O+t)\i=↥O+i:=by simp[List.getD,Yt hi]
   rw[this];exact K8 cI O _ Z i [] ⋯
 generalize hk:↥O+n=k at r9 ⊢;generalize hks:((~~~n).map λt=>↥O+t)=ks at r9;generalize hO1:O++(Z.map cI++[↑(rZ ↥O n)])=O1 at r9 ⊢;apply⟨?_⟩;let l1:k<↥O1:=(Zg.mp r9.t.hd).1;let Nd:uM O (O1++[cI ms]) k ↥O1 ks Z ms:=by
  apply⟨⟨r9.lI.app _,r9.ge,r9.nd,r9.t.app _⟩,?_,λz=>?_,by simp⟩
  .obtain⟨t,rfl⟩:=r9.lI;simp
  .rcases Zj.mp z with e |z
   .omega
   .rw[<- hks] at z;let⟨t,ht,e⟩:=Zd.mp z;have:=Zh.mp ht;omega
 let sp0:LI B Z ms ms n g:=by
  apply⟨⟨zl,λi hi=>by rw[zr i hi];simp⟩,λi j=>by rw[jx];exact Y6 _,λi j _ _ h0=>?_,ml,ok.m0,λj hj=>?_⟩
  .rw[jx] at h0;omega
  .have:qf Z n j=0:=e9 λi _=>jx
   omega
 let N8:∀i,fo Z g i=0:=λi=>e9 λj _=>jx
 show Go _ _ [Φ9 (.tuple (B.map bi)),Φ9 (eU ms),Φ9 (eU ps),↑(.own k),↑(.own ↥O1),none,none,none,none,none] (O1++[↑((ms.map PyData.int).map AV.im)]);rw[show(↑((ms.map PyData.int).map AV.im):Option (List AV))=cI ms by rw[Zp];rfl];generalize ↥O1=ku at Nd ⊢;generalize O1++[cI ms]=O2 at Nd ⊢;let el:↥(c8 (ps.map PyData.int))=n:=by unfold c8;simp[pl]
 apply⟨?_⟩;conv=>whnf
 apply⟨SpV O B ms ps ks n g k ku,⟨Z,ms,none,none,none,none,none,(),Nd,sp0,λj hj=>afa hj ⋯,λj _ _=>N8 j⟩,?_,?_⟩
 .rintro i x sl O' hx ⟨M,U,y5,y6,y7,y8,y9,rfl,st,sp,old,new⟩;let⟨hi,rfl⟩:=jw hx;rw[Zb,pl] at hi;rw[show(ps.map PyData.int).getD i .none=.int (ps\i) from jY ⋯];apply⟨(),⟨?_⟩⟩;apply⟨⟨SpW O B ms ps ks n g k ku i,⟨_,M,U,ps\i,y8,y9,(),ok.p0 i hi,(),st,sp,⟨λj hj hn=>old j hj hn,λ_=>by rw[new i (Zf _) hi];omega,λj hj hn=>new j ⋯ hn⟩⟩,?_⟩⟩;rintro m sl O3 ⟨M,U,left,y8,y9,rfl,l0,rfl,st,sp,so⟩;apply⟨λhc=>?_,λhc=>?_⟩
  .let hc:0<left:=aia hc;let wy:VB B M U ms ps n g i:=by
    apply⟨sp,ok.qc,hi,ok.bl,n6,g6,ok.hB,ok.b6,ok.nd,λj hj=>?_,by have:=so.now hi;omega⟩;rcases Nat.lt_trichotomy j i with z |z |z
    .rw[so.old j z hj];exact Y6 _
    .subst z;have:=so.now hi;omega
    .rw[so.new j z hj];exact ok.p0 j hj
   apply⟨B,M,U,ms,ps,n,g,i,k,ku,ks,(),st.one.t,st.u,wy,λw O4 S9 hu4 gr4=>?_⟩;let wQ:=st.lI gr4;let w0:=S9.ne;let TB:bt w<g:=(S9.wZ (↥w-1) ⋯).2.1;let hu0:0<U\(bt w):=by have:=sp.u0 _ TB;omega
   apply⟨⟨B,M,U,n,g,i,k,ku,ks,w,left,(),wQ.one.t,wQ.u,sp.uk,sp.ul,g6,S9,hc,hu0,λc c0 cl cu cw=>?_⟩⟩;apply⟨⟨B,M,n,g,i,k,ks,w,c,(),wQ.one.t,wQ.one.nd,sp.uk,S9,λO5 t5 C3=>?_⟩⟩;let pT:uM O O5 k ku ks (cD M w c ↥w) U:=⟨⟨GU wQ.one.lI C3 λx hx=>wQ.one.ge x (Zi _ hx),wQ.one.ge,wQ.one.nd,t5⟩,wQ.XI,wQ.SU,by rw[C3.C3 ku (λz=>wQ.SU (Zi _ z))];exact wQ.u⟩;let⟨sp6,so6⟩:=Js sp so S9 ⋯ cw cu;let ul:=sp.ul;let SV:gh (U.map λx=>AV.im (PyData.int x)) ((bt w:Nat):Int)=↑(AV.im (.int (U\(bt w)))):=bB (ky ⋯);apply⟨⟨_,kT w0,_,(),_,_,_,pT.u,SV,zE (by rw[Zb];show bt w<_;omega),_,pT.u,(),?_⟩⟩;rw[sA];let st6:uM O (O5.set ku (cI (U.set (bt w) (U\(bt w)-c)))) k ku ks (cD M w c ↥w) (U.set (bt w) (U\(bt w)-c)):=⟨⟨pT.one.lI.set pT.XI _,pT.one.ge,pT.one.nd,pT.one.t.other _ pT.SU⟩,pT.XI,pT.SU,by rw[Yq (Zg.mp pT.u).1]⟩;exact⟨⟨_,(),(left-c).toNat,⋯,_,_,left-c,Φ9 (jL w),Φ9 (.int c),(),⋯,(),st6,sp6,so6⟩⟩
  .let hc:¬ 0<left:=asa hc;let e0:left=0:=⋯;subst e0;apply⟨M,U,_,_,_,_,_,(),st,sp,λj hj hn=>?_,λj hj hn=>so.new j ⋯ hn⟩;rcases Yb j i with z |z
   .exact so.old j z hn
   .have:j=i:=⋯;subst this;have:=so.now hi;omega
 .rintro sl O' ⟨M,U,y5,y6,y7,y8,y9,rfl,st,sp,old,new⟩;rw[el] at old;apply⟨st.one.iK rfl λO2 gr=>?_⟩;exact h M O2 (BS sp (λj hj=>old j hj hj) ok.R7) gr
structure lS (A:Γ3)(Pu:Δ1)(W:Γ1)(qs:Δ1)(kb:Nat)(c:Int)(ms ps:Γ3)(M:Γ1):Prop where
 c0:0<c
 im:c9 c ms (gx A qs)
 ip:c9 c ps Pu
 mb:∀m∈ms,Bd (13*kb+79) m
 pb:∀m∈ps,Bd (13*kb+79) m
 sp:zU (aw W qs) M ms ps ↥Pu ↥A
structure VR (A:Γ3)(Pu:Δ1)(W:Γ1)(qs:Δ1)(kb:Nat):Prop where
 pr:oJ A Pu W qs
 k2:20<=kb
 k3:kb<=2010000
 bd:∀z∈qs,Rb kb z
 ok:∀(c:Int) (ms ps:Γ3),0<c->c9 c ms (gx A qs)->c9 c ps Pu->OL (aw W qs) ms ps ↥Pu ↥A
def IU:FM:=λO xs P _=>∃(A:Γ3) (Pu:Δ1) (W:Γ1) (qs:Δ1) (kb:Nat),xs=[.im (dJ A Pu W),.im (.tuple (qs.map qD))]/\VR A Pu W qs kb/\∀(c:Int) (ms ps:Γ3) (M:Γ1) (O':aX),lS A Pu W qs kb c ms ps M->cL O O'->P (.im (DQ (cV A ms M))) O'
abbrev VP:Δ2:=["market","prices","money","purses"]
def U6:MS:=(aU (bv (aC xr cE (af (ah 0) (af (ah 1) ar))) (lz 2 (aG (aY 2) (aG (aY 3) cx))))
 (cO (aC IT cE (af (ah 0) (af (ah 2) (af (aC sP cE (af (aC xL cE (af (ah 0) (af (ah 1) ar))) (af (ah 2) (af (ah 3) ar)))) ar))))))
def Ey (s:zU B M ms ps n g)(hi:i<n)(hj:j<g):en M i j<=ms\j/\en M i j<=ps\i:=by
 constructor
 .rw[<- s.col j hj];exact lW (f:=λi=>en M i j) (λi _=>s.nn i j) hi
 .rw[<- s.row i hi];exact lW (f:=λj=>en M i j) (λj _=>s.nn i j) hj
def P5:∀O xs Pq QX,IU O xs Pq QX->U6 Pq⁻¹ (be VP xs) O:=by
 intro O xs Pq QX h;let⟨A,Pu,W,qs,kb,rfl,ok,h⟩:=h;let mf:=qu ok.pr.ok;let hl:=ok.pr.len;apply⟨A,Pu,W,qs,kb,(),hl,mf.g6,mf.n6,mf.am,λz hz=>(mf.pu z hz).2,ok.k3,ok.k2,ok.bd,λc ms ps hc im ip mb pb=>?_⟩;apply⟨(),?_⟩;let so:=ok.ok c ms ps hc im ip;let k3:=ok.k3;apply⟨⟨A,Pu,W,qs,(),ok.pr,aw W qs,ms,ps,_,_,(),so,λM O' sp gr=>?_⟩⟩;let ml:=sp.uk.len;apply⟨A,Pu,W,ms,M,(),mf.g6,by rw[ml];exact mf.n6,so.ml,λi hi=>sp.uk.row i ⋯,λi j hi hj h0=>?_,h c ms ps M O' ⟨hc,im,ip,mb,pb,sp⟩ gr⟩;rw[ml] at hi;let h1:=(Ey sp hi hj).1;let h2:=mb _ (ly (d:=0) (show j<↥ms by rw[so.ml];exact hj));let h3:=mf.am _ (ly (d:=0) hj);apply⟨⟨⋯,h2.mono ⋯⟩,(h2.mono (show _<=66000000 by omega)).le ⋯,?_⟩;exact Vx ⋯
abbrev DH:=Γ3×Rat×Δ1
inductive dg (A:Γ3) (Pu:Δ1) (W:Γ1):Δ1->List DH->Prop
 |stop {qs:Δ1}:cW A Pu W qs->gA A Pu qs W ↥A->(∀Pd,cb A Pu qs W ↥A Pd->aM ↥A W Pd=[])->dg A Pu W qs []
 |step {qs:Δ1}{Pd:Γ3}{f:Rat}{L:List DH}:cW A Pu W qs->gA A Pu qs W ↥A->cb A Pu qs W ↥A Pd->aM ↥A W Pd≠[]->jW (iI A Pu qs W ↥A Pd) f->dg A Pu W (dv qs Pd f) L->dg A Pu W qs ((Pd,f,dv qs Pd f)::L)
def iE (s:DH):PyData:=.tuple [bi s.1,qD s.2.1,.tuple (s.2.2.map qD)]
def headD (L:List DH):PyData:=match L with
 |[]=>.none
 |s::_=>iE s
def cQ (qs:Δ1)(L:List DH):Δ1:=match L.getLast? with
 |some s=>s.2.2
 |none=>qs
def qV (s:dg A Pu W qs L)(h:P (.im (headD L)) O):qI O [.im (dJ A Pu W),.im (.tuple (qs.map qD))] P X:=by
 cases s with
 |stop rp cz no=>exact⟨A,Pu,W,qs,(),rp,cz,λ_ _ _=>h,λPd f pd hr _=>afa (no Pd pd) hr⟩
 |step rp cz pd hr hm _=>exact⟨A,Pu,W,qs,(),rp,cz,λPd' S8 mT=>afa (S8.uniq pd▸mT) hr,λPd' f' S8 _ Sv=>by
   let e1:=S8.uniq pd;subst e1;let e2:=Sv.uniq hm;subst e2;exact h⟩
def jv:FM:=λO xs P _=>∃(A:Γ3) (Pu:Δ1) (W:Γ1) (qs:Δ1) (L:List DH),xs=[.im (dJ A Pu W),.im (.tuple (qs.map qD))]/\dg A Pu W qs L/\↥L<=1000000/\∀O',cL O O'->P (.im (.list (L.map iE))) O'
abbrev VL:Δ2:=["market","prices","told","step"]
def AI:MS:=(aU (bv (UY ar) (aY 2))
 (aU (bv (aC qI cE (af (ah 0) (af (ah 1) ar))) (aY 3))
 (aU (sO (eM (bA (tJ true) (ah 3) (mC .none))) (aU (zA (Og (ah 2) (af (ah 3) ar)))
 (bv (aC qI cE (af (ah 0) (af (bA cG (ah 3) (mC (.int 2))) ar))) (aY 3))))
 (Of 2 (cO (ah 2))))))
def B0:∀O xs Pq QX,jv O xs Pq QX->AI Pq⁻¹ (be VL xs) O:=by
 intro O xs Pq QX h;let⟨A,Pu,W,qs,L,rfl,st,hL,h⟩:=h;apply⟨Om,?_⟩;apply⟨qV (X:=cE) (P:=λx O1=>Go _ _ [Φ9 (dJ A Pu W),Φ9 (.tuple (qs.map qD)),↑(.own ↥O),↑x] O1) st ?_⟩;letI Iv:Nat->g9->aX->Prop:=λm sl O'=>∃(L1 L2:List DH) (q2:Δ1),L=L1++L2/\m=↥L2/\sl=[Φ9 (dJ A Pu W),Φ9 (.tuple (qs.map qD)),↑(.own ↥O),Φ9 (headD L2)]/\O'=O++[↑((L1.map iE).map AV.im)]/\dg A Pu W q2 L2
 apply⟨⟨Iv,⟨↥L,[],L,qs,(),(),(),(),st⟩,?_⟩⟩;rintro m sl O' ⟨L1,L2,q2,eL,rfl,rfl,rfl,fU⟩;cases fU with
 |stop rp cz no =>
  apply⟨λz=>afa z ∅,λ_=>⟨⟨↥O,L1.map iE,(),lR _ _,?_⟩⟩⟩;rw[Yn] at eL;subst eL;rw[nk];exact h _ ⟨_,()⟩
 |step rp cz pd hr hm S0 =>
  rename_i Pd f L3;apply⟨λ_=>?_,λz=>(by cases z)⟩;let cA:↥L1+(↥L3+1)<=1000000:=by rw[eL] at hL;simpa using hL
  apply⟨⟨_,lR _ _⟩,_,lR _ _,by rw[Zb,Zb,sz];omega,?_⟩;rw[nk];apply⟨⟨_,(),qV (X:=cE) (P:=λx O1=>∃m',m'<↥((Pd,f,dv q2 Pd f)::L3)/\Iv m' [Φ9 (dJ A Pu W),Φ9 (.tuple (qs.map qD)),↑(.own ↥O),↑x] O1) S0 ⟨↥L3,by simp,L1++[(Pd,f,dv q2 Pd f)],L3,_,by rw[eL];simp,(),(),?_,S0⟩⟩⟩;rw[Zs,Zs];rfl
def IK:FM:=λO xs P _=>∃(qs:Δ1) (L:List DH),xs=[.im (.tuple (qs.map qD)),.im (.list (L.map iE))]/\P (.im (.tuple ((cQ qs L).map qD))) O
abbrev VO:Δ2:=["prices","told"]
def UX:MS:=(cO (Tg (DR (ah 1)) (bA cG (bA cG (ah 1) (xi (mC (.int 1)))) (mC (.int 2))) (ah 0)))
def PV:∀O xs Pq QX,IK O xs Pq QX->UX Pq⁻¹ (be VO xs) O:=by
 intro O xs Pq QX h;let⟨qs,L,rfl,h⟩:=h;apply⟨(),?_⟩;show((!(L.map iE).isEmpty)=true->_)/\((!(L.map iE).isEmpty)=false->_);rw[Qv];apply⟨λe=>?_,λe=>?_⟩
 .let bF:L≠[]:=λz=>by subst z;cases e
  obtain⟨s,hs⟩:∃s,L.getLast?=↑s:=by
   cases hg:L.getLast? with
   |none=>exact afa (List.getLast?_eq_none_iff.mp hg) bF
   |some s=>exact⟨s,()⟩
  let hp:0<↥L:=Xg.mpr bF;let hL:L.getD (↥L-1) ([],0,[])=s:=by
   rw[List.getLast?_eq_getElem?] at hs;exact ao hs
  let ha:gh (L.map iE) (-1)=↑(iE s):=by
   rw[xP (d:=.none) (by rw[Zb];exact hp),Zb,jY (a:=([],0,[])) ⋯,hL]
  apply⟨_,ha,_,(),?_⟩;unfold cQ at h;rw[hs] at h;exact h
 .let bF:L=[]:=by cases L with |nil=>rfl |cons _ _=>cases e
  subst bF;exact h
def MN:FM:=λO xs P _=>∃(A:Γ3) (Pu:Δ1) (W:Γ1),xs=[.im (dJ A Pu W)]/\cK (dJ A Pu W)/\(∀r∈W,aJ ↥A r)/\∀qs,et A Pu W ↥A qs->P (.im (.tuple (qs.map qD))) O
def WQ:uh K N4 MN:=λw O H vs xs P PX Q E r a hf q x=>by
 let⟨A,Pu,W,rfl,ok,good,hf⟩:=hf;let⟨v,us,rfl,a1,a2⟩:=a.aW;rw[a2.cC];let⟨p,pa,pp,pw,xa,xp,xw,rfl,mk,la,lp⟩:=Ob 0 a1 ok;apply⟨0,p,pa,pp,pw,xa,xp,xw,_,_,_,(),mk,by rw[Np,la];exact good,λt ys qs H' s ht fr hF=>?_⟩;rw[oY,gL,Np,la] at hF;let⟨r1,e1,_⟩:=r.ay s;exact q _ _ O w H' (hf qs hF) e1 r1 (ZM r1 (.tup ht (Fk (b:=0) fr)) (sF qs))
def zM:FM:=λO xs P _=>∃(A:Γ3) (Pu:Δ1) (W:Γ1),xs=[.im (dJ A Pu W)]/\cK (dJ A Pu W)/\(∀r∈W,aJ ↥A r)/\∀qs,et A Pu W ↥A qs->∃L,dg A Pu W qs L/\↥L<=1000000/\∀O',cL O O'->P (.im (.tuple ((cQ qs L).map qD))) O'
abbrev VN:Δ2:=["market","first"]
def Mq:MS:=(aU (bv (aC MN cE (af (ah 0) ar)) (aY 1))
 (cO (aC IK cE (af (ah 1) (af (aC jv cE (af (ah 0) (af (ah 1) ar))) ar)))))
def JB:∀O xs Pq QX,zM O xs Pq QX->Mq Pq⁻¹ (be VN xs) O:=by
 intro O xs Pq QX h;let⟨A,Pu,W,rfl,ok,good,h⟩:=h;apply⟨A,Pu,W,(),ok,good,λqs hF=>?_⟩;let⟨L,st,hL,h⟩:=h qs hF;exact⟨⟨A,Pu,W,qs,L,(),st,hL,λO' gr=>⟨qs,L,(),h O' gr⟩⟩⟩
structure Pj (A:Γ3)(Pu:Δ1)(W:Γ1)(kb:Nat):Prop where
 mR:cK (dJ A Pu W)
 good:∀r∈W,aJ ↥A r
 go:∀qs,et A Pu W ↥A qs->∃L,dg A Pu W qs L/\↥L<=1000000/\VR A Pu W (cQ qs L) kb
def oI:FM:=λO xs P _=>∃(A:Γ3) (Pu:Δ1) (W:Γ1) (kb:Nat),xs=[.im (dJ A Pu W)]/\Pj A Pu W kb/\∀(fs:Δ1) (L:List DH) (c:Int) (ms ps:Γ3) (M:Γ1) (O':aX),et A Pu W ↥A fs->dg A Pu W fs L->lS A Pu W (cQ fs L) kb c ms ps M->cL O O'->P (.im (.tuple [.tuple ((cQ fs L).map qD),DQ (cV A ms M)])) O'
abbrev VQ:Δ2:=Ψ8
def Fd:MS:=(aU (bv (aC zM cE (af (ah 0) ar)) (aY 1))
 (cO (iQ (af (ah 1) (af (aC IU cE (af (ah 0) (af (ah 1) ar))) ar)))))
def FS:∀O xs Pq QX,oI O xs Pq QX->Fd Pq⁻¹ (be VQ xs) O:=by
 intro O xs Pq QX h;let⟨A,Pu,W,kb,rfl,ok,h⟩:=h;apply⟨A,Pu,W,(),ok.mR,ok.good,λfs hF=>?_⟩;let⟨L,st,hL,da⟩:=ok.go fs hF;apply⟨L,st,hL,λO1 g1=>?_⟩;exact⟨⟨A,Pu,W,cQ fs L,kb,(),da,λc ms ps M O2 dl g2=>⟨lG,h fs L c ms ps M O2 hF st dl (yG g1 g2)⟩⟩⟩
def tM:FM:=λO xs P _=>∃(A:Γ3) (Pu:Δ1) (W:Γ1) (kb:Nat),xs=[.im (dJ A Pu W)]/\Pj A Pu W kb/\∀(fs:Δ1) (L:List DH) (c:Int) (ms ps:Γ3) (M:Γ1) (O':aX),et A Pu W ↥A fs->dg A Pu W fs L->lS A Pu W (cQ fs L) kb c ms ps M->cL O O'->(∀i,i<↥W->xu (W∩i) ((cV A ms M)∩i))/\P (.im (.tuple ((gc W (cV A ms M)).map qD))) O'
abbrev VH:Δ2:=["market"]
def AH:MS:=(cO (aC IG cE (af (ah 0) (af (bA cG (aC oI cE (af (ah 0) ar)) (mC (.int 1))) ar))))
def BZ:∀O xs Pq QX,tM O xs Pq QX->AH Pq⁻¹ (be VH xs) O:=by
 intro O xs Pq QX h;let⟨A,Pu,W,kb,rfl,ok,h⟩:=h;let mf:=qu ok.mR;apply⟨A,Pu,W,kb,(),ok,λfs L c ms ps M O' hF st dl gr=>?_⟩;let⟨h1,h2⟩:=h fs L c ms ps M O' hF st dl gr;let ml:=dl.sp.uk.len;apply⟨_,(),A,Pu,W,cV A ms M,(),?_,by rw[mf.wl];exact mf.n6,h1,h2⟩;unfold cV;rw[Zb,Ys,ml,mf.wl]
end MI
namespace Bq
open L2 KG EX KM MI
section
variable {P:Program}{w:World}{K:Θ1}{mg:Θ3}{base:Heap}
def Ia:ak VI ["parts"] (bD (top 15)):=L2.di
def J4 {f fPl  : Addr}{fd dPl:FuncData}(F:cU K "total" "total" (top 15) f fd)(N:Nm mg)(Pl:bP K mg P w base "plus" 3 ["one","other"] (kB (Hf V')) fPl dPl):aF P w K mg base bX 4 f fd ["parts"] (cF K zJ) :=
 jQ F Ia (λO xs P PX h=>by let⟨_,rfl,_⟩:=h;rfl) (λbG A outer s H E QX hr=>⟨Ml,(cS (gz (i:=1) Ia.nd (wE (aB ck (aB ck aR))))
 (cS (gl ama rfl (qq (mv 0)) (d5 (i:=2) Ia.nd) (d9 (gz (i:=1) Ia.nd (Dt Pl DS hr (aB (mv 1) (aB (mv 2) aR))))))
 (d9 (iJ (mv 1))))),λO xs Pq h=>Jx O xs Pq QX h⟩)
def acm:ak O0 ["wishes","got"] (bD (top 60)):=L2.di
def QQ {f fTo TU  : Addr}{fd dTo T0:FuncData}(F:cU K "worth_of" "worth_of" (top 60) f fd)(N:Nm mg)(mz:mg "zip"=none)(To:bP K mg P w base "total" 4 ["parts"] (cF K zJ) fTo dTo)(Ti:bP K mg P w base "times" 3 ["one","other"] (kB (Hf pU)) TU T0):aF P w K mg base bX 5 f fd ["wishes","got"] (cF K IH) :=
 jQ F acm (λO xs P PX h=>by let⟨_,_,rfl,_⟩:=h;rfl) (λbG A outer s H E QX hr=>⟨US,(d9 (iJ (dj To gv hr (aB (pV (own:=["wish","part"]) (cap:=[]) (ix:=[]) (aH.of (bD (top 60)).names O0) rfl (sM rfl mz boot_zip (aB (mv 0) (aB (mv 1) aR))) (Lq (zd ∅ (zd ∅ Nj)))
 (λC fp s H=>⟨(wF rfl (jm (d5 (i:=0) (Ψ9 ["wish","part"])) (jm (d5 (i:=1) (Ψ9 ["wish","part"])) wH))),pK,(Dt Ti DS hr (aB (wE (aB (mv 0) (aB ck aR))) (aB (mv 1) aR)))⟩)) aR)))),λO xs Pq h=>PN O xs Pq QX h⟩)
def acl:ak OZ ["market","dealing"] (bD (top 61)):=L2.di
def QO {f fWo  : Addr}{fd dWo:FuncData}(F:cU K "worths_of" "worths_of" (top 61) f fd)(N:Nm mg)(mz:mg "zip"=none)(Wo:bP K mg P w base "worth_of" 5 ["wishes","got"] (cF K IH) fWo dWo):aF P w K mg base bX 6 f fd ["market","dealing"] (cF K IG) :=
 jQ F acl (λO xs P PX h=>by let⟨_,_,_,_,rfl,_⟩:=h;rfl) (λbG A outer s H E QX hr=>⟨UR,(d9 (iJ (zb fv eS (by rfl) N.tuple pL (aB (pV (own:=["row","got"]) (cap:=[]) (ix:=[]) (aH.of (bD (top 61)).names OZ) rfl (sM rfl mz boot_zip (aB (cM (mv 0) ck) (aB (mv 1) aR))) (Lq (zd ∅ (zd ∅ Nj)))
 (λC fp s H=>⟨(wF rfl (jm (d5 (i:=0) (Ψ9 ["row","got"])) (jm (d5 (i:=1) (Ψ9 ["row","got"])) wH))),pK,(dj Wo gv hr (aB (mv 0) (aB (mv 1) aR)))⟩)) aR)))),λO xs Pq h=>PL O xs Pq QX h⟩)
def acn:ak VM ["coins","money","amount"] (bD (top 67)):=L2.di
def QT {f fFr Nn:Addr}{fd dFr:FuncData}(F:cU K "pieces_for" "pieces_for" (top 67) f fd)(N:Nm mg)(Fr:bP K mg P w base "fraction" 2 ["top","bottom"] (kB (uA Nn)) fFr dFr):aF P w K mg base bX 3 f fd ["coins","money","amount"] (cF K IJ) :=
 jQ F acn (λO xs P PX h=>by let⟨_,_,_,rfl,_⟩:=h;rfl) (λbG A outer s H E QX hr=>⟨UW,(d9 (iJ (zy (yV jS qG (mv 0) ck (aL _)) (Dt Fr MD hr (aB (xD (mv 0) (mv 2)) (aB (mv 1) aR))) (wE (aB ck (aB ck aR)))))),λO xs Pq h=>PU O xs Pq QX h⟩)
def acq:ak Pa ["market","money","spent"] (bD (top 66)):=L2.di
def QZ {f fPf  : Addr}{fd dPf:FuncData}(F:cU K "dealing_by" "dealing_by" (top 66) f fd)(N:Nm mg)(Pf:bP K mg P w base "pieces_for" 3 ["coins","money","amount"] (cF K IJ) fPf dPf):aF P w K mg base bX 4 f fd ["market","money","spent"] (cF K IT) :=
 jQ F acq (λO xs P PX h=>by let⟨_,_,_,_,_,rfl,_⟩:=h;rfl) (λbG A outer s H E QX hr=>⟨U5,(d9 (iJ (zb fv eS (by rfl) N.tuple pL (aB (pV (own:=["row"]) (cap:=["market","money"]) (ix:=[0,1]) (aH.of (bD (top 66)).names Pa) rfl (qq (mv 2)) (pM ∅)
 (λC fp s H=>⟨(ir (gZ (i:=0) (Ψ9 ["row","market","money"]) rfl (Or.inr rfl))),pK,(zb fv eS (by rfl) N.tuple pL (aB (pV (own:=["good","amount"]) (cap:=["money","row"]) (ix:=[2,0]) (aH.of [(".0",.local),("row",.cell),("tuple",.globalImplicit),("enumerate",.globalImplicit),("market",.cell),("money",.cell)] ["row","market","money"]) rfl (tH rfl N.enumerate HG (aB (cM (mv 1) ck) aR)) (Lq (zd ∅ (zd ∅ Nj)))
 (λC fp s H=>⟨(wF rfl (jm (d5 (i:=0) (Ψ9 ["good","amount","money","row"])) (jm (d5 (i:=1) (Ψ9 ["good","amount","money","row"])) wH))),pK,(dj Pf gv hr (aB (cM (mv 3) (mv 0)) (aB (cM (mv 2) (mv 0)) (aB (mv 1) aR))))⟩)) aR))⟩)) aR)))),λO xs Pq h=>P4 O xs Pq QX h⟩)
def uC:ak IW ["best","spent","unsold","buyer"] (bD (top 69)):=L2.di
def QR {f   : Addr}{fd  : FuncData}(F:cU K "way_to_unsold" "way_to_unsold" (top 69) f fd)(N:Nm mg)  : aF P w K mg base bX 1 f fd ["best","spent","unsold","buyer"] (cF K II) :=
 jQ F uC (λO xs P PX h=>by let⟨_,_,_,_,_,_,_,_,_,_,_,rfl,_⟩:=h;rfl) (λbG A outer s H E QX hr=>⟨UU,(cS (oW (i:=4) uC.nd rfl rfl (own:=["good"]) (cap:=["buyer"]) (ix:=[3]) (aH.of (bD (top 69)).names IW) rfl (qq (cM (mv 0) (mv 3))) (pM ∅)
 (λC fp s H=>⟨(d5 (i:=0) (Ψ9 ["good","buyer"])),pK,(Bk (aB (wE (aB (mv 1) (aB (mv 0) aR))) aR))⟩))
 (cS (GC (i:=5) uC.nd rfl rfl (own:=["good"]) (cap:=[]) (ix:=[]) (aH.of (bD (top 69)).names IW) rfl (qq (cM (mv 0) (mv 3))) (pM ∅)
 (λC fp s H=>⟨(d5 (i:=0) (Ψ9 ["good"])),pK,(mv 0),mG⟩))
 (cS (gz (i:=6) uC.nd ck)
 (cS (oV ama (yV (Ek hr.units) En (cM (mv 2) (cM (cM (cM (mv 4) (mv 6)) (lO ck)) ck)) ck (aL _)) (cS (gz (i:=7) uC.nd (cM (cM (cM (mv 4) (mv 6)) (lO ck)) ck))
 (cS (gl ama rfl (Hl rfl N.range (aB (yZ eQ lP (by rfl) N.len Yj (aB (mv 1) aR)) aR)) (d5 (i:=8) uC.nd) (d9 (iS (yV jS qG (cM (cM (mv 1) (mv 8)) (mv 7)) ck (aL _)) (d9 (gl ama rfl (qq (cM (mv 0) (mv 8))) (d5 (i:=9) uC.nd) (d9 (iS (Cj (zG hr) (mv 9) (mv 5)) (cS (Ks (zG hr) (mv 5) (mv 9) mG)
 (d9 (tF (E7 (mv 4) (aB (wG (cM (mv 4) (mv 6)) (Bk (aB (wE (aB (mv 8) (aB (mv 9) aR))) aR))) aR))))) fD)))) fD)))
 (d9 (AF (i:=6) uC.nd rfl (Or.inl rfl) Fi oG ck)))))
 (d9 (iJ (cM (mv 4) (mv 6)))))))),λO xs Pq h=>PQ O xs Pq QX h⟩)
def UD:ak O9 ["way","spent","unsold","left"] (bD (top 70)):=L2.di
def Kg {f   : Addr}{fd  : FuncData}(F:cU K "most_along" "most_along" (top 70) f fd)(N:Nm mg)  : aF P w K mg base bX 1 f fd ["way","spent","unsold","left"] (cF K zO) :=
 jQ F UD (λO xs P PX h=>by let⟨_,_,_,_,_,_,_,_,_,_,_,rfl,_⟩:=h;rfl) (λbG A outer s H E QX hr=>⟨Mt,(cS (tE (i:=4) UD.nd rfl rfl (own:=["at","payer","good"]) (cap:=["spent","way"]) (ix:=[1,0]) (aH.of (bD (top 70)).names O9) rfl (oX rfl N.enumerate HG (aB (l5 (mv 0) (kN ck) kO) aR)) (Lq (yw ∅ ∅ ∅))
 (λC fp s H=>⟨(wF rfl (jm (d5 (i:=0) (Ψ9 ["at","payer","good","spent","way"])) (jm (wF rfl (jm (d5 (i:=1) (Ψ9 ["at","payer","good","spent","way"])) (jm (d5 (i:=2) (Ψ9 ["at","payer","good","spent","way"])) wH))) wH))),pK,(cM (cM (mv 3) (mv 1)) (cM (cM (mv 4) (mv 0)) ck))⟩))
 (d9 (iJ (yZ (W7 rfl) Rw (by rfl) N.min boot_min (aB (wG (mv 4) (Bk (aB (cM (mv 2) (cM (cM (mv 0) (lO ck)) ck)) (aB (mv 3) aR)))) aR))))),λO xs Pq h=>JD O xs Pq QX h⟩)
def Ib:ak VJ ["way","spent","coins"] (bD (top 71)):=L2.di
def J7 {f   : Addr}{fd  : FuncData}(F:cU K "send_along" "send_along" (top 71) f fd)(N:Nm mg)  : aF P w K mg base bX 1 f fd ["way","spent","coins"] (cF K zK) :=
 jQ F Ib (λO xs P PX h=>by let⟨_,_,_,_,_,_,_,_,_,rfl,_⟩:=h;rfl) (λbG A outer s H E QX hr=>⟨Mm,(d9 (gl ama rfl (oX rfl N.enumerate HG (aB (mv 0) aR)) (wF rfl (jm (d5 (i:=3) Ib.nd) (jm (wF rfl (jm (d5 (i:=4) Ib.nd) (jm (d5 (i:=5) Ib.nd) wH))) wH))) (cS (tG (cM (mv 1) (mv 4)) (mv 5) Fi oG (mv 2))
 (d9 (iS (yV jS qG (mv 3) ck (aL _)) (d9 (tG (cM (mv 1) (mv 4)) (cM (cM (mv 0) (Rm (mv 3) ck)) ck) xH oG (mv 2))) fD))))),λO xs Pq h=>Jy O xs Pq QX h⟩)
def rV:ak O8 ["best","money","purses"] (bD (top 68)):=L2.di
def Gu {f fWy fMo fSe  : Addr}{fd dWy dMo dSe:FuncData}(F:cU K "spend" "spend" (top 68) f fd)(N:Nm mg)(Wy:bP K mg P w base "way_to_unsold" 1 ["best","spent","unsold","buyer"] (cF K II) fWy dWy)(Mo:bP K mg P w base "most_along" 1 ["way","spent","unsold","left"] (cF K zO) fMo dMo)(Se:bP K mg P w base "send_along" 1 ["way","spent","coins"] (cF K zK) fSe dSe):aF P w K mg base bX 2 f fd ["best","money","purses"] (cF K sP) :=
 jQ F rV (λO xs P PX h=>by let⟨_,_,_,_,_,rfl,_⟩:=h;rfl) (λbG A outer s H E QX hr=>⟨E8,(cS (oW (i:=3) rV.nd rfl rfl (own:=["purse"]) (cap:=["money"]) (ix:=[1]) (aH.of (bD (top 68)).names O8) rfl (qq (mv 2)) (pM ∅)
 (λC fp s H=>⟨(d5 (i:=0) (Ψ9 ["purse","money"])),pK,(GF (own:=["coins"]) (cap:=[]) (ix:=[]) (aH.of [(".0",.local),("purse",.local),("money",.cell)] ["purse","money"]) rfl (qq (mv 1)) (pM ∅)
 (λC fp s H=>⟨(d5 (i:=0) (Ψ9 ["coins"])),pK,ck⟩))⟩))
 (cS (gz (i:=4) rV.nd (zb MZ KC (by rfl) N.list boot_list (aB (mv 1) aR)))
 (cS (gl ama rfl (oX rfl N.enumerate HG (aB (mv 2) aR)) (wF rfl (jm (d5 (i:=5) rV.nd) (jm (d5 (i:=6) rV.nd) wH))) (cS (gz (i:=7) rV.nd (mv 6))
 (d9 (oV ama (yV jS qG (mv 7) ck (aL _)) (cS (gz (i:=8) rV.nd (dj Wy gv hr (aB (mv 0) (aB (mv 3) (aB (mv 4) (aB (mv 5) aR))))))
 (cS (gz (i:=9) rV.nd (dj Mo gv hr (aB (mv 8) (aB (mv 3) (aB (mv 4) (aB (mv 7) aR))))))
 (cS (tF (dj Se gv hr (aB (mv 8) (aB (mv 3) (aB (mv 9) aR)))))
 (cS (tG (mv 4) (cM (cM (mv 8) (lO ck)) ck) xH oG (mv 9))
 (d9 (AF (i:=7) rV.nd rfl (Or.inl rfl) xH oG (mv 9)))))))))))
 (Kr 3 (d9 (iJ (mv 3))))))),λO xs Pq h=>FL O xs Pq QX h⟩)
def N6:ak VP Ψ8 (bD (top 65)):=L2.di
def Rc {f fIc TX fSp fDb Pr:Addr}{fd dIc T3 dSp dDb:FuncData}(F:cU K "dealing_at" "dealing_at" (top 65) f fd)(N:Nm mg)(Ic:bP K mg P w base "in_coins" 5 Ψ8 (cF K xr) fIc dIc)(Bg:bP K mg P w base "best_goods" 6 Ψ8 (kB (ou Pr)) TX T3)(Sp:bP K mg P w base "spend" 2 ["best","money","purses"] (cF K sP) fSp dSp)(Db:bP K mg P w base "dealing_by" 4 ["market","money","spent"] (cF K IT) fDb dDb):aF P w K mg base bX 7 f fd Ψ8 (cF K IU) :=
 jQ F N6 (λO xs P PX h=>by let⟨_,_,_,_,_,rfl,_⟩:=h;rfl) (λbG A outer s H E QX hr=>⟨U6,(cS (oD (dj Ic gv hr (aB (mv 0) (aB (mv 1) aR))) (wF rfl (jm (d5 (i:=2) N6.nd) (jm (d5 (i:=3) N6.nd) wH))))
 (d9 (iJ (dj Db gv hr (aB (mv 0) (aB (mv 2) (aB (dj Sp gv hr (aB (Dt Bg vG hr (aB (mv 0) (aB (mv 1) aR))) (aB (mv 2) (aB (mv 3) aR)))) aR))))))),λO xs Pq h=>P5 O xs Pq QX h⟩)
def Ie:ak VL Ψ8 (bD (top 57)):=L2.di
def Gv {f fRi  : Addr}{fd dRi:FuncData}(F:cU K "rises" "rises" (top 57) f fd)(N:Nm mg)(Ri:bP K mg P w base "rise" 9 Ψ8 (cF K qI) fRi dRi):aF P w K mg base bX 10 f fd Ψ8 (cF K jv) :=
 jQ F Ie (λO xs P PX h=>by let⟨_,_,_,_,_,rfl,_⟩:=h;rfl) (λbG A outer s H E QX hr=>⟨AI,(cS (gz (i:=2) Ie.nd (Rp aR))
 (cS (gz (i:=3) Ie.nd (dj Ri gv hr (aB (mv 0) (aB (mv 1) aR))))
 (cS (oV ama (yV Ay Ky (mv 3) E6 (aL _)) (cS (tF (E7 (mv 2) (aB (mv 3) aR)))
 (d9 (gz (i:=3) Ie.nd (dj Ri gv hr (aB (mv 0) (aB (cM (mv 3) ck) aR)))))))
 (E1 2 (d9 (iJ (mv 2))))))),λO xs Pq h=>B0 O xs Pq QX h⟩)
def aco:ak VO ["prices","told"] (bD (top 58)):=L2.di
def QU {f   : Addr}{fd  : FuncData}(F:cU K "prices_behind" "prices_behind" (top 58) f fd)(N:Nm mg)  : aF P w K mg base bX 1 f fd ["prices","told"] (cF K IK) :=
 jQ F aco (λO xs P PX h=>by let⟨_,_,rfl,_⟩:=h;rfl) (λbG A outer s H E QX hr=>⟨UX,(d9 (iJ (zy (sL (mv 1)) (cM (cM (mv 1) (lO ck)) ck) (mv 0)))),λO xs Pq h=>PV O xs Pq QX h⟩)
def UB:ak VN ["market"] (bD (top 64)):=L2.di
def QS {f fFP fRs fPb  : Addr}{fd dFP dRs dPb:FuncData}(F:cU K "prices_that_clear" "prices_that_clear" (top 64) f fd)(N:Nm mg)(FP:bP K mg P w base "first_prices" 4 ["market"] (kB N4) fFP dFP)(Rs:bP K mg P w base "rises" 10 Ψ8 (cF K jv) fRs dRs)(Pb:bP K mg P w base "prices_behind" 1 ["prices","told"] (cF K IK) fPb dPb):aF P w K mg base bX 11 f fd ["market"] (cF K zM) :=
 jQ F UB (λO xs P PX h=>by let⟨_,_,_,rfl,_⟩:=h;rfl) (λbG A outer s H E QX hr=>⟨Mq,(cS (gz (i:=1) UB.nd (Dt FP WQ hr (aB (mv 0) aR)))
 (d9 (iJ (dj Pb gv hr (aB (mv 1) (aB (dj Rs gv hr (aB (mv 0) (aB (mv 1) aR))) aR)))))),λO xs Pq h=>JB O xs Pq QX h⟩)
def UE:ak VQ ["market"] (bD (top 63)):=L2.di
def vw {f fPc fDa  : Addr}{fd dPc dDa:FuncData}(F:cU K "clear" "clear" (top 63) f fd)(N:Nm mg)(Pc:bP K mg P w base "prices_that_clear" 11 ["market"] (cF K zM) fPc dPc)(Da:bP K mg P w base "dealing_at" 7 Ψ8 (cF K IU) fDa dDa):aF P w K mg base bX 12 f fd ["market"] (cF K oI) :=
 jQ F UE (λO xs P PX h=>by let⟨_,_,_,_,rfl,_⟩:=h;rfl) (λbG A outer s H E QX hr=>⟨Fd,(cS (gz (i:=1) UE.nd (dj Pc gv hr (aB (mv 0) aR)))
 (d9 (iJ (wE (aB (mv 1) (aB (dj Da gv hr (aB (mv 0) (aB (mv 1) aR))) aR)))))),λO xs Pq h=>FS O xs Pq QX h⟩)
def ack:ak VH ["market"] (bD (top 72)):=L2.di
def Cb {f fWs TW  : Addr}{fd dWs T1:FuncData}(F:cU K "worths" "worths" (top 72) f fd)(N:Nm mg)(Ws:bP K mg P w base "worths_of" 6 ["market","dealing"] (cF K IG) fWs dWs)(Cl:bP K mg P w base "clear" 12 ["market"] (cF K oI) TW T1):aF P w K mg base bX 13 f fd ["market"] (cF K tM) :=
 jQ F ack (λO xs P PX h=>by let⟨_,_,_,_,rfl,_⟩:=h;rfl) (λbG A outer s H E QX hr=>⟨AH,(d9 (iJ (dj Ws gv hr (aB (mv 0) (aB (cM (dj Cl gv hr (aB (mv 0) aR)) ck) aR))))),λO xs Pq h=>BZ O xs Pq QX h⟩)
def HZ:ak NWp ["market"] (bD (top 33)):=L2.di
def EV {f   : Addr}{fd  : FuncData}(F:cU K "wished" "wished" (top 33) f fd)(N:Nm mg)  : aF P w K mg base bX 1 f fd ["market"] (cF K DY) :=
 jQ F HZ (λO xs P PX h=>by let⟨_,_,_,rfl,_⟩:=h;rfl) (λbG A outer s H E QX hr=>⟨UT,(cS (oD (mv 0) (wF rfl (jm (d5 (i:=1) HZ.nd) (jm (d5 (i:=2) HZ.nd) (jm (ir (gZ (i:=3) HZ.nd rfl (Or.inr rfl))) wH)))))
 (d9 (iJ (zb fv eS (by rfl) N.tuple pL (aB (pV (own:=["good"]) (cap:=["wishes"]) (ix:=[3]) (aH.of (bD (top 33)).names NWp) rfl (Hl rfl N.range (aB (yZ eQ lP (by rfl) N.len Yj (aB (mv 1) aR)) aR)) (pM ∅)
 (λC fp s H=>⟨(ir (gZ (i:=0) (Ψ9 ["good","wishes"]) rfl (Or.inr rfl))),(ij (ic (yZ (zS rfl) xG (by rfl) N.any boot_any (aB (pV (own:=["row"]) (cap:=["good"]) (ix:=[0]) (aH.of [(".0",.local),("good",.cell),("any",.globalImplicit),("wishes",.cell)] ["good","wishes"]) rfl (qq (mv 1)) (pM ∅)
 (λC fp s H=>⟨(d5 (i:=0) (Ψ9 ["row","good"])),pK,(oE jS qG (cM (mv 0) (mv 1)) ck (aL _))⟩)) aR)))),(mv 0)⟩)) aR))))),λO xs Pq h=>PP O xs Pq QX h⟩)
def V6:ak OQ ["best","goods"] (bD (top 42)):=L2.di
def EW {f   : Addr}{fd  : FuncData}(F:cU K "takers_by_best" "takers_by_best" (top 42) f fd)(N:Nm mg)  : aF P w K mg base bX 1 f fd ["best","goods"] (cF K DZ) :=
 jQ F V6 (λO xs P PX h=>by let⟨_,_,rfl,_⟩:=h;rfl) (λbG A outer s H E QX hr=>⟨UV,(d9 (iJ (zb fv eS (by rfl) N.tuple pL (aB (pV (own:=["buyer","row"]) (cap:=["goods"]) (ix:=[1]) (aH.of (bD (top 42)).names OQ) rfl (tH rfl N.enumerate HG (aB (mv 0) aR)) (Lq (zd ∅ (zd ∅ Nj)))
 (λC fp s H=>⟨(wF rfl (jm (d5 (i:=0) (Ψ9 ["buyer","row","goods"])) (jm (d5 (i:=1) (Ψ9 ["buyer","row","goods"])) wH))),(ij (ic (yZ (zS rfl) xG (by rfl) N.any boot_any (aB (pV (own:=["good"]) (cap:=["goods"]) (ix:=[2]) (aH.of [(".0",.local),("buyer",.local),("row",.local),("any",.globalImplicit),("goods",.cell)] ["buyer","row","goods"]) rfl (qq (mv 1)) (pM ∅)
 (λC fp s H=>⟨(d5 (i:=0) (Ψ9 ["good","goods"])),pK,(oE zt (zC false) (mv 0) (mv 1) (by rfl))⟩)) aR)))),(mv 0)⟩)) aR)))),λO xs Pq h=>PR O xs Pq QX h⟩)
def zo:ak Pe ["members"] (bD (top 44)):=L2.di
def AB {f   : Addr}{fd  : FuncData}(F:cU K "all_sets" "all_sets" (top 44) f fd)(N:Nm mg)  : aF P w K mg base bX 1 f fd ["members"] (cF K u4) :=
 jQ F zo (λO xs P PX h=>by let⟨_,rfl,_⟩:=h;rfl) (λbG A outer s H E QX hr=>⟨Mz,(cS (gz (i:=1) zo.nd (Bk (aB (wE aR) aR)))
 (cS (gl ama rfl (qq (mv 0)) (ir (gZ (i:=2) zo.nd rfl (Or.inr rfl))) (d9 (gz (i:=1) zo.nd (wG (mv 1) (pV (own:=["some"]) (cap:=["member"]) (ix:=[2]) (aH.of (bD (top 44)).names Pe) rfl (qq (mv 1)) (pM ∅)
 (λC fp s H=>⟨(d5 (i:=0) (Ψ9 ["some","member"])),pK,(wG (mv 0) (wE (aB (mv 1) aR)))⟩))))))
 (d9 (iJ (mv 1))))),λO xs Pq h=>JF O xs Pq QX h⟩)
def Wf:ak OY ["coins","some"] (bD (top 46)):=L2.di
def vt {f   : Addr}{fd  : FuncData}(F:cU K "coins_of" "coins_of" (top 46) f fd)(N:Nm mg)  : aF P w K mg base bX 1 f fd ["coins","some"] (cF K lQ) :=
 jQ F Wf (λO xs P PX h=>by let⟨_,_,rfl,_⟩:=h;rfl) (λbG A outer s H E QX hr=>⟨Fc,(d9 (iJ (yZ (MX rfl) Ru (by rfl) N.sum boot_sum (aB (pV (own:=["number"]) (cap:=["coins"]) (ix:=[0]) (aH.of (bD (top 46)).names OY) rfl (qq (mv 1)) (pM ∅)
 (λC fp s H=>⟨(d5 (i:=0) (Ψ9 ["number","coins"])),pK,(cM (mv 1) (mv 0))⟩)) aR)))),λO xs Pq h=>FR O xs Pq QX h⟩)
def Wb:ak OW Ψ8 (bD (top 38)):=L2.di
def Kh {f TU  : Addr}{fd T0:FuncData}(F:cU K "money_by_good" "money_by_good" (top 38) f fd)(N:Nm mg)(mz:mg "zip"=none)(Ti:bP K mg P w base "times" 3 ["one","other"] (kB (Hf pU)) TU T0):aF P w K mg base bX 4 f fd Ψ8 (cF K IP) :=
 jQ F Wb (λO xs P PX h=>by let⟨_,_,_,_,rfl,_⟩:=h;rfl) (λbG A outer s H E QX hr=>⟨U2,(d9 (iJ (pV (own:=["amount","price"]) (cap:=[]) (ix:=[]) (aH.of (bD (top 38)).names OW) rfl (sM rfl mz boot_zip (aB (cM (mv 0) ck) (aB (mv 1) aR))) (Lq (zd ∅ (zd ∅ Nj)))
 (λC fp s H=>⟨(wF rfl (jm (d5 (i:=0) (Ψ9 ["amount","price"])) (jm (d5 (i:=1) (Ψ9 ["amount","price"])) wH))),pK,(Dt Ti DS hr (aB (wE (aB (mv 0) (aB ck aR))) (aB (mv 1) aR)))⟩)))),λO xs Pq h=>P0 O xs Pq QX h⟩)
def qB:ak OU ["parts"] (bD (top 18)):=L2.di
def Ke {f fGn  : Addr}{fd dGn:FuncData}(tr:P.given.tree=none)(F:cU K "on_one_bottom" "on_one_bottom" (top 18) f fd)(N:Nm mg)(Gn:bP K mg P w base "common_divisor" 1 ["one","other"] su fGn dGn):aF P w K mg base bX 2 f fd ["parts"] (cF K IL) :=
 jQ F qB (λO xs P PX h=>by let⟨_,_,rfl,_⟩:=h;rfl) (λbG A outer s H E QX hr=>⟨U0,(cS (ii (i:=1) qB.nd rfl (Or.inr rfl) ck)
 (cS (gl ama rfl (qq (mv 0)) (d5 (i:=2) qB.nd) (d9 (ii (i:=1) qB.nd rfl (Or.inr rfl) (xD (E2 hr (lL tr qB) (mv 1) (dj Gn KH hr (aB (mv 1) (aB (cM (mv 2) ck) aR)))) (cM (mv 2) ck)))))
 (d9 (iJ (pV (own:=["part"]) (cap:=["bottom"]) (ix:=[1]) (aH.of (bD (top 18)).names OU) rfl (qq (mv 0)) (pM ∅)
 (λC fp s H=>⟨(d5 (i:=0) (Ψ9 ["part","bottom"])),pK,(xD (cM (mv 0) ck) (E2 hr (lL tr qB).blk (mv 1) (cM (mv 0) ck)))⟩)))))),λO xs Pq h=>PY O xs Pq QX h⟩)
def Ef:ak VG Ψ8 (bD (top 45)):=L2.di
def AA {f fOo fMb  : Addr}{fd dOo dMb:FuncData}(F:cU K "in_coins" "in_coins" (top 45) f fd)(N:Nm mg)(Oo:bP K mg P w base "on_one_bottom" 2 ["parts"] (cF K IL) fOo dOo)(Mb:bP K mg P w base "money_by_good" 4 Ψ8 (cF K IP) fMb dMb):aF P w K mg base bX 5 f fd Ψ8 (cF K xr) :=
 jQ F Ef (λO xs P PX h=>by let⟨_,_,_,_,_,rfl,_⟩:=h;rfl) (λbG A outer s H E QX hr=>⟨U3,(cS (gz (i:=2) Ef.nd (dj Oo gv hr (aB (wG (dj Mb gv hr (aB (mv 0) (aB (mv 1) aR))) (zb MZ Rx (by rfl) N.list boot_list (aB (cM (mv 0) ck) aR))) aR)))
 (cS (gz (i:=3) Ef.nd (yZ eQ lP (by rfl) N.len Yj (aB (cM (mv 0) ck) aR)))
 (d9 (iJ (wE (aB (l5 (mv 2) kO (kN (mv 3))) (aB (l5 (mv 2) (kN (mv 3)) kO) aR))))))),λO xs Pq h=>P1 O xs Pq QX h⟩)
def We:ak OX ["best","paid"] (bD (top 51)):=L2.di
def Ki {f   : Addr}{fd  : FuncData}(F:cU K "loosened" "loosened" (top 51) f fd)(N:Nm mg)  : aF P w K mg base bX 1 f fd ["best","paid"] (cF K uZ) :=
 jQ F We (λO xs P PX h=>by let⟨_,_,rfl,_⟩:=h;rfl) (λbG A outer s H E QX hr=>⟨Mw,(d9 (iJ (zb fv eS (by rfl) N.tuple pL (aB (pV (own:=["row"]) (cap:=["paid"]) (ix:=[1]) (aH.of (bD (top 51)).names OX) rfl (qq (mv 0)) (pM ∅)
 (λC fp s H=>⟨(d5 (i:=0) (Ψ9 ["row","paid"])),pK,(zy (ic (yZ (zS rfl) xG (by rfl) N.any boot_any (aB (pV (own:=["good"]) (cap:=["paid"]) (ix:=[1]) (aH.of [(".0",.local),("row",.local),("any",.globalImplicit),("paid",.cell)] ["row","paid"]) rfl (qq (mv 0)) (pM ∅)
 (λC fp s H=>⟨(d5 (i:=0) (Ψ9 ["good","paid"])),pK,(oE zt (zC false) (mv 0) (mv 1) (by rfl))⟩)) aR))) (wE aR) (mv 0))⟩)) aR)))),λO xs Pq h=>JE O xs Pq QX h⟩)
def V7:ak OS ["prices","rising","factor"] (bD (top 54)):=L2.di
def Ka {f TU  : Addr}{fd T0:FuncData}(F:cU K "raised" "raised" (top 54) f fd)(N:Nm mg)(Ti:bP K mg P w base "times" 3 ["one","other"] (kB (Hf pU)) TU T0):aF P w K mg base bX 4 f fd ["prices","rising","factor"] (cF K zL) :=
 jQ F V7 (λO xs P PX h=>by let⟨_,_,_,rfl,_⟩:=h;rfl) (λbG A outer s H E QX hr=>⟨Mp,(d9 (iJ (zb fv eS (by rfl) N.tuple pL (aB (pV (own:=["good","price"]) (cap:=["factor","rising"]) (ix:=[2,1]) (aH.of (bD (top 54)).names OS) rfl (tH rfl N.enumerate HG (aB (mv 0) aR)) (Lq (zd ∅ (zd ∅ Nj)))
 (λC fp s H=>⟨(wF rfl (jm (d5 (i:=0) (Ψ9 ["good","price","factor","rising"])) (jm (d5 (i:=1) (Ψ9 ["good","price","factor","rising"])) wH))),pK,(zy (yV zt (zC false) (mv 0) (mv 3) (by rfl)) (Dt Ti DS hr (aB (mv 1) (aB (mv 2) aR))) (mv 1))⟩)) aR)))),λO xs Pq h=>JA O xs Pq QX h⟩)
def zk:ak VF ["parts"] (bD (top 16)):=L2.di
def Gx {f fLs  : Addr}{fd dLs:FuncData}(F:cU K "least" "least" (top 16) f fd)(N:Nm mg)(Ls:bP K mg P w base "less" 1 ["one","other"] j5 fLs dLs):aF P w K mg base bX 2 f fd ["parts"] (cF K sR) :=
 jQ F zk (λO xs P PX h=>by let⟨_,rfl,_⟩:=h;rfl) (λbG A outer s H E QX hr=>⟨Fa,(cS (gz (i:=1) zk.nd (cM (mv 0) ck))
 (cS (gl ama rfl (qq (mv 0)) (d5 (i:=2) zk.nd) (d9 (iS (ic (dj Ls nI hr (aB (mv 2) (aB (mv 1) aR)))) (d9 (gz (i:=1) zk.nd (mv 2))) fD)))
 (d9 (iJ (mv 1))))),λO xs Pq h=>FO O xs Pq QX h⟩)
def Ee:ak OT ["market","prices","loose","rising"] (bD (top 52)):=L2.di
def Kc {f fIc fFr fCo fTb fAs Nn:Addr}{fd dIc dFr dCo dTb dAs:FuncData}(F:cU K "paying_factors" "paying_factors" (top 52) f fd)(N:Nm mg)(Ic:bP K mg P w base "in_coins" 5 Ψ8 (cF K xr) fIc dIc)(Fr:bP K mg P w base "fraction" 2 ["top","bottom"] (kB (uA Nn)) fFr dFr)(Co:bP K mg P w base "coins_of" 1 ["coins","some"] (cF K lQ) fCo dCo)(Tb:bP K mg P w base "takers_by_best" 1 ["best","goods"] (cF K DZ) fTb dTb)(As:bP K mg P w base "all_sets" 1 ["members"] (cF K u4) fAs dAs):aF P w K mg base bX 6 f fd ["market","prices","loose","rising"] (cF K zN) :=
 jQ F Ee (λO xs P PX h=>by let⟨_,_,_,_,_,rfl,_⟩:=h;rfl) (λbG A outer s H E QX hr=>⟨Mr,(cS (oD (dj Ic gv hr (aB (mv 0) (aB (mv 1) aR))) (wF rfl (jm (ir (gZ (i:=4) Ee.nd rfl (Or.inr rfl))) (jm (ir (gZ (i:=5) Ee.nd rfl (Or.inr rfl))) wH))))
 (d9 (iJ (pV (own:=["some"]) (cap:=["loose","money","purses"]) (ix:=[2,4,5]) (aH.of (bD (top 52)).names OT) rfl (qq (dj As gv hr (aB (mv 3) aR))) (pM ∅)
 (λC fp s H=>⟨(d5 (i:=0) (Ψ9 ["some","loose","money","purses"])),(ij (sL (mv 0))),(Dt Fr MD hr (aB (dj Co gv hr (aB (mv 3) (aB (dj Tb gv hr (aB (mv 1) (aB (mv 0) aR))) aR))) (aB (dj Co gv hr (aB (mv 2) (aB (mv 0) aR))) aR)))⟩))))),λO xs Pq h=>JC O xs Pq QX h⟩)
def Wa:ak OV ["market","prices","loose","paid"] (bD (top 53)):=L2.di
def Gw {f fOv fRa Nn:Addr}{fd dOv dRa:FuncData}(F:cU K "meeting_factors" "meeting_factors" (top 53) f fd)(N:Nm mg)(mz:mg "zip"=none)(Ov:bP K mg P w base "over" 3 ["one","other"] (kB (oq Nn)) fOv dOv)(Ra:bP K mg P w base "rate" 4 ["wish","price"] ss fRa dRa):aF P w K mg base bX 5 f fd ["market","prices","loose","paid"] (cF K sQ) :=
 jQ F Wa (λO xs P PX h=>by let⟨_,_,_,_,_,rfl,_⟩:=h;rfl) (λbG A outer s H E QX hr=>⟨E9,(d9 (iJ (GG (own:=["row","best","good"]) (cap:=["paid","prices"]) (ix:=[3,1]) (aH.of (bD (top 53)).names OV) rfl (sM rfl mz boot_zip (aB (cM (mv 0) ck) (aB (mv 2) aR))) (Lq (zd ∅ (zd ∅ Nj)))
 (λC fp s H=>⟨(wF rfl (jm (d5 (i:=0) (Ψ9 ["row","best","good","paid","prices"])) (jm (d5 (i:=1) (Ψ9 ["row","best","good","paid","prices"])) wH))),(ij (sL (mv 1))),(Ku (mv 3)),(d5 (i:=2) (Ψ9 ["row","best","good","paid","prices"])),(ij (yV jS qG (cM (mv 0) (mv 2)) ck (aL _))),(Dt Ov Kx hr (aB (dj Ra AK hr (aB (cM (mv 0) (cM (mv 1) ck)) (aB (cM (mv 4) (cM (mv 1) ck)) aR))) (aB (dj Ra AK hr (aB (cM (mv 0) (mv 2)) (aB (cM (mv 4) (mv 2)) aR))) aR)))⟩)))),λO xs Pq h=>FN O xs Pq QX h⟩)
def oa:ak OR Ψ8 (bD (top 50)):=L2.di
def J8 {f fPg fWi TX fLo fPf fMf fLe fRs Pr De:Addr}{fd dPg dWi T3 dLo dPf dMf dLe dRs:FuncData}(F:cU K "rise" "rise" (top 50) f fd)(N:Nm mg)(Pg:bP K mg P w base "paid_goods" 8 Ψ8 (kB (N3 De)) fPg dPg)(Wi:bP K mg P w base "wished" 1 ["market"] (cF K DY) fWi dWi)(Bg:bP K mg P w base "best_goods" 6 Ψ8 (kB (ou Pr)) TX T3)(Lo:bP K mg P w base "loosened" 1 ["best","paid"] (cF K uZ) fLo dLo)(Pf:bP K mg P w base "paying_factors" 6 ["market","prices","loose","rising"] (cF K zN) fPf dPf)(Mf:bP K mg P w base "meeting_factors" 5 ["market","prices","loose","paid"] (cF K sQ) fMf dMf)(Le:bP K mg P w base "least" 2 ["parts"] (cF K sR) fLe dLe)(Rs:bP K mg P w base "raised" 4 ["prices","rising","factor"] (cF K zL) fRs dRs):aF P w K mg base bX 9 f fd Ψ8 (cF K qI) :=
 jQ F oa (λO xs P PX h=>by let⟨_,_,_,_,rfl,_⟩:=h;rfl) (λbG A outer s H E QX hr=>⟨Mn,(cS (ii (i:=2) oa.nd rfl (Or.inr rfl) (Dt Pg WN hr (aB (mv 0) (aB (mv 1) aR))))
 (cS (gz (i:=3) oa.nd (zb fv eS (by rfl) N.tuple pL (aB (pV (own:=["good"]) (cap:=["paid"]) (ix:=[2]) (aH.of (bD (top 50)).names OR) rfl (qq (dj Wi gv hr (aB (mv 0) aR))) (pM ∅)
 (λC fp s H=>⟨(d5 (i:=0) (Ψ9 ["good","paid"])),(ij (yV QJ (zC true) (mv 0) (mv 1) (by rfl))),(mv 0)⟩)) aR)))
 (cS (iS (EZ (sL (mv 3))) (d9 (iJ E6)) fD)
 (cS (gz (i:=4) oa.nd (Dt Bg vG hr (aB (mv 0) (aB (mv 1) aR))))
 (cS (gz (i:=5) oa.nd (dj Pf gv hr (aB (mv 0) (aB (mv 1) (aB (dj Lo gv hr (aB (mv 4) (aB (mv 2) aR))) (aB (mv 3) aR))))))
 (cS (gz (i:=6) oa.nd (dj Mf gv hr (aB (mv 0) (aB (mv 1) (aB (dj Lo gv hr (aB (mv 4) (aB (mv 2) aR))) (aB (mv 2) aR))))))
 (cS (gz (i:=7) oa.nd (dj Le gv hr (aB (wG (mv 5) (mv 6)) aR)))
 (d9 (iJ (wE (aB (mv 2) (aB (mv 7) (aB (dj Rs gv hr (aB (mv 1) (aB (mv 3) (aB (mv 7) aR)))) aR))))))))))))),λO xs Pq h=>Jz O xs Pq QX h⟩)
end
end Bq
namespace Bq
open L2 KG EX KM
section
variable {P:Program}{w:World}{K:Θ1}{mg:Θ3}{base:Heap}
def N5:ak ["market","buyer","row"] ["market"] (bD (top 34)):=L2.di
def WB {f:Addr}{fd:FuncData}(F:cU K "wishless" "wishless" (top 34) f fd)(N:Nm mg):aF P w K mg base bX 1 f fd ["market"] Ur:=by
 apply F.ok N5 (λvs H Q E h=>?_) (λbG A outer s H vs Q E hr h=>?_)
 .obtain⟨b,p,pa,pp,pw,xa,xp,xw,am,pu,wi,rfl,_⟩:=h;rfl
 .obtain⟨b,p,pa,pp,pw,xa,xp,xw,am,pu,wi,rfl,m,kF,k⟩:=h;let⟨ue,_⟩:=m.lw;apply⟨_,eJ (sD ama rfl (nA rfl N.enumerate HG (aZ (fV cZ (pv 0) bL (λ_ _=>rfl)) bU))
    (ia (n:=2) rfl (rN (gZ (i:=1) N5.nd rfl (Or.inl rfl)) (rN (gZ (i:=2) N5.nd rfl (Or.inl rfl)) fb)))
    (de (lA (rL (uf (mw (zS rfl) (by rfl) N.any boot_any (aZ (pv 2) bU)))) (de (eG (pv 1))) lC)))
   (de (eG xA)),?_⟩
  apply⟨_,(),p,_,_,_,(),(),aN.of m.hp,(),pw,(),⟨xw,aN.of m.hw⟩,?_⟩;apply GY (xs:=xw) (λi σ H'=>az H H'/\(∃a c,σ=[↑(.ref p),a,c])) ⟨az.refl H,⟨none,none,()⟩⟩ (λi σ H' _ q=>q.1 _ _ m.hw) ?_ ?_
  .rintro i x q σ H' hx hq ⟨st,⟨a,c,rfl⟩⟩;let⟨ns,aa,hM,rfl,hA⟩:=ue.at hx;let fU:az H (aP H' q (.tup [.int i,.ref aa])):=st.new hq;apply⟨q,_,(),aN.of eC,(),_,_,(),_,_,(),(),?_⟩;apply⟨_,(),aa,_,(),.inr (aN.of (fU _ _ hA)),?_,_,(),?_⟩
   .rw[Y2];simp[Function.comp_def,fz]
   .let e:(List.map V.int ns).any tv:=by
     rw[X7];let⟨k1,YE,hp1⟩:=(kF ns (Z1 hM)).pos;apply Z6.mpr ⟨k1,YE,?_⟩;show(k1 != 0)=true;have:k1≠0:=⋯;simpa using this
    rw[e];exact bN ⟨fU,⟨_,_,()⟩⟩
  .rintro σ H' ⟨st,_⟩;exact k _ st
def sx:ak ["parts","found","part"] ["parts"] (bD (top 16)):=L2.di
def Kk {f fA:Addr}{fd dA:FuncData}(F:cU K "least" "least" (top 16) f fd)(A:bP K mg P w base "less" 1 ["one","other"] j5 fA dA):aF P w K mg base bX 2 f fd ["parts"] EI:=by
 apply F.ok sx (λvs H Q E h=>?_) (λbG A' outer s H vs Q E hr h=>?_)
 .obtain⟨l,ys,qs,rfl,_⟩:=h;rfl
 .obtain⟨l,ys,qs,rfl,hl,hf,bF,hb,k⟩:=h;apply⟨_,eJ (qr (i:=1) sx.nd rfl (Or.inl rfl) (fV cZ (pv 0) bL (λ_ _=>rfl)))
   (eJ (sD ama rfl (rW (pv 0)) (gZ (i:=2) sx.nd rfl (Or.inl rfl))
    (de (lA (uf (eu A.ok hr rfl A.mg A.kp A.bd .nil aQ (aZ (pv 2) (aZ (pv 1) bU)))) (de (qr (i:=1) sx.nd rfl (Or.inl rfl) (pv 2))) lC)))
   (de (eG (pv 1)))),?_⟩
  let eY:0<↥qs:=Xg.mpr bF;let⟨a0,ea0,ha0⟩:=hf.at (g:=0) eY;let m0:qs\0∈qs:=by simp[List.getD,Zc eY]
  apply⟨_,(),l,_,_,_,(),(),aN.of hl,ea0,?_⟩;apply⟨_,(),l,(),⟨_,aN.of hl⟩,?_⟩;apply KY (xs:=ys) (λi σ H'=>H'=H/\∃a q y2,σ=[↑(.ref l),↑(.ref a),y2]/\H a=↑(qO q)/\q∈qs/\∀z∈qs.take i,q<=z) ⟨(),a0,_,_,(),ha0,m0,λz hz=>by simp at hz⟩ (λi σ H' _ z=>by let⟨rfl,_⟩:=z;exact aN.of hl) ?_ ?_
  .rintro i x σ H1 hx ⟨rfl,a,q,y2,rfl,ha,hq,eE⟩;let⟨c,z,rfl,hc,hz⟩:=tL hf hx;let Tp:=Z1 hz;apply⟨_,(),_,(),c,a,z,q,(),hc,ha,hb z Tp,hb q hq,_,(),?_⟩;by_cases cN:z<q
   .rw[aea cN];apply bE ⟨_,(),(),c,z,_,(),hc,Tp,λy hy=>?_⟩;rw[C9 hz] at hy;rcases Zz.mp hy with h |h
    .exact Yy (Zt cN) (eE y h)
    .rw[Z3.mp h];exact Yg
   .rw[aja cN];apply bN ⟨(),a,q,_,(),ha,hq,λy hy=>?_⟩;rw[C9 hz] at hy;rcases Zz.mp hy with h |h
    .exact eE y h
    .rw[Z3.mp h];exact Yr.mp cN
  .rintro σ H1 ⟨rfl,a,q,y2,rfl,ha,hq,eE⟩;rw[hf.1,Yo] at eE;exact⟨_,(),k a q ha ⟨hq,eE⟩⟩
def acp:ak ["wishes","good"] ["wishes","good"] (bD (top 56)):=L2.di
def WD {f fF fG Nn:Addr}{fd dF dG:FuncData}(F:cU K "greatest_share" "greatest_share" (top 56) f fd)(N:Nm mg)(Fr:bP K mg P w base "fraction" 2 ["top","bottom"] (kB (uA Nn)) fF dF)(G:bP K mg P w base "greatest" 2 ["parts"] Ec fG dG):aF P w K mg base bX 3 f fd ["wishes","good"] Ut:=by
 apply F.ok acp (λvs H Q E h=>?_) (λbG A' outer s H vs Q E hr h=>?_)
 .obtain⟨pw,xw,M,n,g,rfl,_⟩:=h;rfl
 .obtain⟨pw,xw,M,n,g,rfl,hw,hR,hgn,kF,bF,h6,k⟩:=h;apply⟨_,de (eG (eu G.ok hr rfl G.mg G.kp G.bd .nil aQ (aZ (yX (own:=["row"]) (cap:=["good"]) (ix:=[1]) (aH.of (bD (top 56)).names ["wishes","good"]) rfl (rW (pv 0))
    (λC fp s H=>⟨gZ (i:=0) (Ψ9 ["row","good"]) rfl (Or.inl rfl),C8,eu Fr.ok hr rfl Fr.mg Fr.kp Fr.bd .nil aQ (aZ (fV cZ (pv 0) (pv 1) (λ_ _=>rfl)) (aZ (mw (W8 rfl) (by rfl) N.max boot_max (aZ (pv 0) bU)) bU))⟩)) bU))),?_⟩
  apply⟨_,(),pw,(),⟨_,aN.of hw⟩,λacc bV=>?_⟩;apply jg (xs:=xw) (λi zs H'=>az H H'/\mB H' zs ((M.take i).map (cB g))) ⟨(az.refl H).acc bV,⟨(),λj y z=>by simp at z⟩⟩ (λi zs H' _ _ z=>aN.of (z.1 _ _ hw)) ?_ ?_
  .rintro i x zs H1 hx hz ⟨s1,fr⟩;let⟨ns,a,hM,rfl,hA⟩:=hR.at hx;let gr:=kF ns (Z1 hM);let⟨ea,_,_⟩:=vW (ns:=ns) (r:=(g:Int)) ⋯ (by have:=gr.len;omega);rw[Zy] at ea;let hi:i<↥M:=(Zg.mp hM).1;apply mD ⟨_,(),_,(),a,_,_,_,(),(),aN.of (s1 _ _ hA),ea,_,(),a,ns,(),.inr (aN.of (s1 _ _ hA)),?_,λm hm eE=>?_⟩
   .intro z;let⟨k1,YE,_⟩:=gr.pos;rw[z] at YE;cases YE
   let em:=Kw hm eE λn hn=>(gr.bd n hn).1
   subst em;let mx:=gr.mx;apply⟨_,_,(),Bd.mono (j:=7) (by unfold Bd;omega) ∅,λz=>afa z ⋯,λ_ r mT=>?_⟩;rw[qT];let s2:=(az.refl H1).new (o:=qO (cB g ns)) mT;let XW:=s2 _ _ hz;let er:(aP H1 r (qO (cB g ns))) r=↑(qO (cB g ns)):=eC;let fr2:=fr.ay s2;generalize aP H1 r (qO (cB g ns))=H2 at s2 XW er fr2 ⊢;let tl:Tm H2 (aP H2 acc (.lst (zs++[.ref r]))):=Tm.lst XW;apply⟨zs,XW,?_,Cn.of eC ⟨(s1.trans s2).acc bV,?_⟩⟩
   .rw[fr.1,Zb,Yw,sz];omega
   .rw[C9 hM,Zs];exact(fr2.app er).tm tl
  .rintro zs H1 hz ⟨s1,fr⟩;rw[hR.len,Yo] at fr;apply⟨acc,zs,_,(),hz,fr,by simpa using bF,λq hq=>?_,λa q ha hq eE=>k a q H1 s1 ha ⟨hq,eE⟩⟩;let⟨r,mT,rfl⟩:=Zd.mp hq;exact(kX (kF r mT)).mono ∅
abbrev NFP:Δ2:=["market","amounts","purses","wishes","pieces","even"]
def Bw:ak NFP ["market"] (bD (top 55)):=L2.di
def WF {f fW fWl fL fO fT fG Nn Un:Addr}{fd dW dWl dL dO dT dG:FuncData}(F:cU K "first_prices" "first_prices" (top 55) f fd)(N:Nm mg)(mgU:mg "Unwished"=↑(.ref Un))(exU:PySem.W.excIn K Un [.type "ValueError",.type "Exception",.type "BaseException",.type "object"] "ValueError.__new__")
  (W:bP K mg P w base "wished" 1 ["market"] zh fW dW) (Wl:bP K mg P w base "wishless" 1 ["market"] Ur fWl dWl) (L:bP K mg P w base "least" 2 ["parts"] EI fL dL) (O:bP K mg P w base "over" 3 ["one","other"] (kB (oq Nn)) fO dO) (T:bP K mg P w base "times" 3 ["one","other"] (kB (Hf pU)) fT dT) (G:bP K mg P w base "greatest_share" 3 ["wishes","good"] Ut fG dG) :
  aF P w K mg base bX 4 f fd ["market"] (kB N4):=by
 apply F.ok Bw (λvs H Q E h=>?_) (λbG A' outer s H vs Q E hr h=>?_)
 .obtain⟨b,p,pa,pp,pw,xa,xp,xw,am,pu,wi,rfl,_⟩:=h;rfl
 .obtain⟨b,p,pa,pp,pw,xa,xp,xw,am,pu,wi,rfl,m,kF,k⟩:=h;let Dg:c6 1 _:=hr.mono ∅;let Nz:c6 2 _:=hr.mono ∅;let⟨ue,S4,DO,XS,a1,a6,w1,w6,wp⟩:=m.lw;let⟨exa,amb⟩:=m.am;let⟨epu,pub⟩:=m.pu;let TN:↥(am.map br)=↥xa:=by have:=ata List.length exa;rw[Zb] at this;exact this.symm
  apply⟨_,eJ (lA (nR Ay (eu Wl.ok Dg rfl Wl.mg Wl.kp Wl.bd .nil aQ (aZ (pv 0) bU)) xA (aL _)) (de (sC)) lC)
   (eJ (iX (pv 0) (ia rfl (rN (gZ (i:=1) Bw.nd rfl (Or.inr rfl)) (rN (gZ (i:=2) Bw.nd rfl (Or.inl rfl)) (rN (gZ (i:=3) Bw.nd rfl (Or.inr rfl)) fb)))))
   (eJ (qr (i:=4) Bw.nd rfl (Or.inl rfl) (mw (MX rfl) (by rfl) N.sum boot_sum (aZ (yX (own:=["good"]) (cap:=["amounts"]) (ix:=[1]) (aH.of (bD (top 55)).names NFP) rfl (rW (eu W.ok Dg rfl W.mg W.kp W.bd .nil aQ (aZ (pv 0) bU)))
     (λC fp s H=>⟨gZ (i:=0) (Ψ9 ["good","amounts"]) rfl (Or.inl rfl),C8,fV cZ (pv 1) (pv 0) (λ_ _=>rfl)⟩)) bU)))
   (eJ (qr (i:=5) Bw.nd rfl (Or.inr rfl) (eu O.ok hr rfl O.mg O.kp O.bd .nil aQ (aZ (eu L.ok Nz rfl L.mg L.kp L.bd .nil aQ (aZ (pv 2) bU)) (aZ (iY (aZ (pv 4) (aZ bL bU))) bU))))
   (de (eG (Sg fv (by rfl) N.tuple pL (aZ (yX (own:=["good"]) (cap:=["even","wishes"]) (ix:=[5,3]) (aH.of (bD (top 55)).names NFP) rfl (qZ rfl N.range (aZ (mw eQ (by rfl) N.len Yj (aZ (pv 1) bU)) bU))
     (λC fp s H=>⟨gZ (i:=0) (Ψ9 ["good","even","wishes"]) rfl (Or.inl rfl),C8,eu T.ok hr rfl T.mg T.kp T.bd .nil aQ (aZ (pv 1) (aZ (eu G.ok hr rfl G.mg G.kp G.bd .nil aQ (aZ (pv 2) (aZ (pv 0) bU))) bU))⟩)) bU))))))),?_⟩
  apply⟨_,(),b,p,pa,pp,pw,xa,xp,xw,am,pu,wi,(),m,kF,λH1 s1=>?_⟩;apply⟨(),_,(),bN ?_⟩;let m1:=m.ay s1;apply⟨_,(),p,_,(),aN.of m1.hp,(),_,_,(),_,_,(),_,_,(),(),?_⟩;apply⟨_,(),b,p,pa,pp,pw,xa,xp,xw,am,pu,wi,(),m1,λq2 H2 s2 e2=>?_⟩;rw[BM] at e2;apply⟨q2,(),⟨_,aN.of e2⟩,λacc bV=>?_⟩;let wR:=s1.trans s2;apply jg (xs:=df (aA ↥xa (rowsOf wi))) (λi zs H'=>az H2 H'/\zs=(((aA ↥xa (rowsOf wi)).take i).map λg=>(am.map br)\g).map V.int) ⟨(az.refl H2).acc bV,()⟩ (λi zs H' _ _ z=>aN.of (z.1 _ _ e2)) ?_ ?_
  .rintro i x zs H3 hx hz ⟨s3,rfl⟩;let⟨g,hg,rfl⟩:=Rj hx;let hgx:=(gF (Z1 hg)).1;let⟨ea,_,_⟩:=vW (ns:=am.map br) (r:=(g:Int)) ⋯ ⋯;rw[Zy,<- exa] at ea;let hi:i<↥(aA ↥xa (rowsOf wi)):=(Zg.mp hg).1;let Ho:=jz ↥xa (rowsOf wi);apply mD ⟨_,(),_,(),pa,_,_,_,(),(),aN.of (s3 _ _ (wR _ _ m.ha)),ea,_,hz,?_,Cn.of eC ⟨s3.acc bV,?_⟩⟩
   .rw[Zb,Zb,Yw,sz];omega
   .rw[C9 hg,Zs,Zs];rfl
  rintro zs H3 hz ⟨s3,rfl⟩;rw[GB,Yo] at hz;apply⟨acc,_,(),.inl (bI.of hz),?_⟩;let epc:((aA ↥xa (rowsOf wi)).map λg=>(am.map br)\g).sum=fh (am.map br) (aA ↥xa (rowsOf wi)):=rfl;rw[epc];let XQ:=wR.trans s3;let So:=kg (am:=am.map br) kF S4 TN (λa ha=>(amb a ha).1);let alh:fh (am.map br) (aA ↥xa (rowsOf wi))<=360:=lY TN a6 (λa ha=>(amb a ha).2);let m3:=m.ay XQ;let fp3:=m3.fp;let pne:rM pu≠[]:=λz=>by
   let h1:=fp3.1;rw[z,List.length_nil] at h1;omega
  apply⟨_,(),pp,xp,rM pu,(),m3.Dh,fp3,pne,λz hz=>(pub z hz).2.mono ∅,λal mn ac3 Di=>?_⟩;apply⟨_,(),by show 2<=sizeLine;decide,λp4 Tu=>?_⟩;let s4:=XQ.new (o:=.tup [.int (fh (am.map br) (aA ↥xa (rowsOf wi))),.int 1]) Tu;let s34:=(az.refl H3).new (o:=.tup [.int (fh (am.map br) (aA ↥xa (rowsOf wi))),.int 1]) Tu;let Vc:=wU (z:=fh (am.map br) (aA ↥xa (rowsOf wi))) ⋯;let bpc:Rb 9 ((fh (am.map br) (aA ↥xa (rowsOf wi)):Int):Rat):=fw (by unfold Bd;omega) ∅;let Ve:=(pub mn Di.1);let Vd:((fh (am.map br) (aA ↥xa (rowsOf wi)):Int):Rat)≠0:=λz=>by rw[z] at Vc;exact afa Vc ∅
  apply⟨al,p4,mn,_,(),s34 _ _ ac3,eC,Ve.2.mono ∅,bpc.mono ∅,λz=>afa z Vd,λ_ r5 Θ=>?_⟩;let s5:=s4.new (o:=qO (mn / ((fh (am.map br) (aA ↥xa (rowsOf wi)):Int):Rat))) Θ;let e5:(aP (aP H3 p4 (.tup [.int (fh (am.map br) (aA ↥xa (rowsOf wi))),.int 1])) r5 (qO (mn / ((fh (am.map br) (aA ↥xa (rowsOf wi)):Int):Rat)))) r5=↑(qO (mn / ((fh (am.map br) (aA ↥xa (rowsOf wi)):Int):Rat))):=eC;let W9:Rb 29 (mn / ((fh (am.map br) (aA ↥xa (rowsOf wi)):Int):Rat)):=io Ve.2 bpc Vd;generalize aP (aP H3 p4 (.tup [.int (fh (am.map br) (aA ↥xa (rowsOf wi))),.int 1])) r5 (qO (mn / ((fh (am.map br) (aA ↥xa (rowsOf wi)):Int):Rat)))=H5 at s5 e5 ⊢;apply⟨_,(),pa,xa,(),.inr (aN.of (s5 _ _ m.ha)),(↥xa:Int),(),⋯,⋯,λVA MJ=>?_⟩;let exl:((↥xa:Int)).toNat=↥xa:=by simp
  rw[exl];apply yL (λi zs H'=>az H5 H'/\∃qs:Δ1,↥qs=i/\mB H' zs qs/\∀g,g<i->∃sh,on ((rowsOf wi).map (cB g)) sh/\(qs\g)=mn / ((fh (am.map br) (aA ↥xa (rowsOf wi)):Int):Rat)*sh) ⟨(az.refl H5).acc MJ,[],(),⟨(),λj y z=>by simp at z⟩,λg hg=>afa hg ⋯⟩ ?_ ?_
  .rintro i zs H6 hi τ ⟨s6,qs,Hr,fr,Λ⟩;let hii:(0+(i:Int))=(i:Int):=⋯;let s56:=s5.trans s6;let m6:=m.ay s56;let⟨rw6,_⟩:=m6.lw;apply mD ⟨_,(),_,(),_,(),pw,xw,rowsOf wi,↥xa,i,by show[V.ref pw,V.int (0+(i:Int))]=_;rw[hii],m6.hw,rw6,hi,kF,S4,by rw[<- ue.len];exact w6,λa7 sh H7 s7 ha7 wK=>?_⟩;let bsh:Rb 7 sh:=by
    let⟨r,mT,rfl⟩:=Zd.mp wK.1;exact kX (kF r mT)
   apply⟨r5,a7,_,sh,(),s7 _ _ (s6 _ _ e5),ha7,W9.mono ∅,bsh.mono ∅,λr8 hr8=>?_⟩;let s8:=(az.refl H7).new (o:=qO (pU (mn / ((fh (am.map br) (aA ↥xa (rowsOf wi)):Int):Rat)) sh)) hr8;let ρ:=s8 _ _ (s7 _ _ τ);let e8:(aP H7 r8 (qO (pU (mn / ((fh (am.map br) (aA ↥xa (rowsOf wi)):Int):Rat)) sh))) r8=↑(qO (pU (mn / ((fh (am.map br) (aA ↥xa (rowsOf wi)):Int):Rat)) sh)):=eC;let fr8:=(fr.ay s7).ay s8;generalize aP H7 r8 (qO (pU (mn / ((fh (am.map br) (aA ↥xa (rowsOf wi)):Int):Rat)) sh))=H8 at s8 ρ e8 fr8 ⊢;let tl:Tm H8 (aP H8 VA (.lst (zs++[.ref r8]))):=Tm.lst ρ;apply⟨zs,ρ,?_,Cn.of eC ⟨(s6.trans (s7.trans s8)).acc MJ,qs++[_],by rw[Zv,Hr];rfl,(fr8.app e8).tm tl,λg hg=>?_⟩⟩
   .rw[fr.1,sz];omega
   .rcases Yb g i with z |z
    .obtain⟨sh',h1,h2⟩:=Λ g z;apply⟨sh',h1,?_⟩;have:(qs++[pU (mn / ((fh (am.map br) (aA ↥xa (rowsOf wi)):Int):Rat)) sh])\g=qs\g:=by simp[List.getD,Zr (show g<↥qs by omega)]
     rw[this];exact h2
    .obtain rfl:g=i:=⋯;apply⟨sh,wK,?_⟩;have:(qs++[pU (mn / ((fh (am.map br) (aA ↥xa (rowsOf wi)):Int):Rat)) sh])\g=pU (mn / ((fh (am.map br) (aA ↥xa (rowsOf wi)):Int):Rat)) sh:=by rw[<- Hr];simp[List.getD]
     rw[this];rfl
  .rintro zs H6 τ ⟨s6,qs,Hr,fr,Λ⟩;apply⟨VA,zs,(),.inl ⟨bI.of τ,λl hl=>?_⟩⟩;let s7:=(az.refl H6).new (o:=.tup zs) hl;exact k l zs qs _ (s5.trans (s6.trans s7)) eC (fr.ay s7) ⟨Hr,mn,Di,Λ⟩
def FH:ak ["thing"] ["thing"] (bD (top 30)):=L2.di
def Cf {f fW:Addr}{fd dW:FuncData}(F:cU K "is_amount" "is_amount" (top 30) f fd){tk:Tok}(N:Nm mg)(hc:mg "MOST_PIECES"=↑(.int 60 tk))(W:bP K mg P w base "is_whole" 1 ["thing"] (spT iu) fW dW):aF P w K mg base bX 2 f fd ["thing"] (spT (within 1 60)):=by
 apply F.ok FH (λvs H Q E h=>?_) (λbG A outer s H vs Q E hr h=>?_)
 .obtain⟨b,v,d,rfl,_⟩:=h;rfl
 .obtain⟨b,v,d,rfl,hT,k⟩:=h;apply⟨_,de (eG (lN (eu W.ok hr rfl W.mg W.kp W.bd .nil aQ (aZ (pv 0) bU)) (lM (oS iR iR bL (pv 0) (ju (v:=.int 60) rfl hc ⟨_,()⟩))))),?_⟩;apply⟨_,(),b,v,d,(),hT,λH1 s1=>?_⟩;apply⟨_,(),?_⟩;let hk:=k H1 s1;rcases kP hT with hn |⟨i,rfl,rfl⟩
  .rw[hn];rw[lU hn] at hk;exact bN hk
  .apply bE ⟨_,(),_,_,(),(),_,(),?_⟩;let my:Q (.bl (decide ((1:Int)<=i)&&decide (i<=60))) H1:=hk;cases h1:decide ((1:Int)<=i) with
   |true=>rw[h1] at my;exact bE ⟨_,_,(),(),my⟩
   |false=>rw[h1] at my;exact bN my
def Jw:ak ["thing"] ["thing"] (bD (top 32)):=L2.di
def J3 {f fW:Addr}{fd dW:FuncData}(F:cU K "is_wish" "is_wish" (top 32) f fd){tk:Tok}(N:Nm mg)(hc:mg "MOST_WISH"=↑(.int 100 tk))(W:bP K mg P w base "is_whole" 1 ["thing"] (spT iu) fW dW):aF P w K mg base bX 2 f fd ["thing"] (spT (within 0 100)):=by
 apply F.ok Jw (λvs H Q E h=>?_) (λbG A outer s H vs Q E hr h=>?_)
 .obtain⟨b,v,d,rfl,_⟩:=h;rfl
 .obtain⟨b,v,d,rfl,hT,k⟩:=h;apply⟨_,de (eG (lN (eu W.ok hr rfl W.mg W.kp W.bd .nil aQ (aZ (pv 0) bU)) (lM (oS iR iR bL (pv 0) (ju (v:=.int 100) rfl hc ⟨_,()⟩))))),?_⟩;apply⟨_,(),b,v,d,(),hT,λH1 s1=>?_⟩;apply⟨_,(),?_⟩;let hk:=k H1 s1;rcases kP hT with hn |⟨i,rfl,rfl⟩
  .rw[hn];rw[lU hn] at hk;exact bN hk
  .apply bE ⟨_,(),_,_,(),(),_,(),?_⟩;let my:Q (.bl (decide ((0:Int)<=i)&&decide (i<=100))) H1:=hk;cases h1:decide ((0:Int)<=i) with
   |true=>rw[h1] at my;exact bE ⟨_,_,(),(),my⟩
   |false=>rw[h1] at my;exact bN my
def oQ:ak ["thing","top","bottom"] ["thing"] (bD (top 31)):=L2.di
def yg {f fW:Addr}{fd dW:FuncData}(F:cU K "is_purse" "is_purse" (top 31) f fd){tk:Tok}(N:Nm mg)(hc:mg "MOST_IN_PURSE"=↑(.int 1000000 tk))(W:bP K mg P w base "is_fraction" 2 ["thing"] (spT bJ) fW dW):aF P w K mg base bX 3 f fd ["thing"] (spT lx):=by
 apply F.ok oQ (λvs H Q E h=>?_) (λbG A outer s H vs Q E hr h=>?_)
 .obtain⟨b,v,d,rfl,_⟩:=h;rfl
 .obtain⟨b,v,d,rfl,hT,k⟩:=h;apply⟨_,eJ (lA (rL (uf (eu W.ok hr rfl W.mg W.kp W.bd .nil aQ (aZ (pv 0) bU)))) (de (eG iF)) lC)
   (eJ (iX (pv 0) (ia rfl (rN (gZ (i:=1) oQ.nd rfl (Or.inl rfl)) (rN (gZ (i:=2) oQ.nd rfl (Or.inl rfl)) fb))))
   (de (eG (lN (oS iR iR bL (pv 1) (ju (v:=.int 1000000) rfl hc ⟨_,()⟩)) (lM (fc iR (pv 2) (ju (v:=.int 1000000) rfl hc ⟨_,()⟩) (aL _))))))),?_⟩
  apply⟨_,(),b,v,d,(),hT,λH1 s1=>?_⟩;apply⟨_,(),?_⟩;let hk:=k H1 s1;cases hf:bJ d with
  |false=>rw[ya hf] at hk;exact bE hk
  |true =>
   apply bN ?_;let⟨t,u,rfl,hu,hg⟩:=l9 hf;let hT1:=hT.ay s1;cases hT1 with
   |tup ha hs =>
   cases hs with
   |cons hx hs =>
   cases hs with
   |cons hy hs =>
   cases hs
   cases hx
   cases hy
   apply⟨_,(),_,_,(),aN.of ha,(),_,_,(),_,_,(),(),?_⟩;let e:lx (.tuple [.int t,.int u])=(decide (1<=t)&&decide (t<=1000000)&&decide (u<=1000000)):=by
    show(decide (1<=u)&&decide (Int.gcd t u=1)&&decide (1<=t)&&decide (t<=1000000)&&decide (u<=1000000))=_;rw[aea hu,aea hg];rfl
   rw[e] at hk;apply⟨_,(),_,_,(),(),_,(),?_⟩;cases h1:decide (1<=t) with
   |false=>rw[h1] at hk;exact bN ⟨_,(),bN hk⟩
   |true =>
    rw[h1] at hk;apply bE ⟨_,_,(),(),_,(),?_⟩;cases h2:decide (t<=1000000) with
    |false=>rw[h2] at hk;exact bN hk
    |true=>rw[h2] at hk;exact bE ⟨_,(),_,_,(),(),hk⟩
def PD:ak ["thing","goods"] ["thing","goods"] (bD (top 29)):=L2.di
def ye {f fW:Addr}{fd dW:FuncData}(F:cU K "is_wish_row" "is_wish_row" (top 29) f fd)(N:Nm mg)(Z:Dm K)(W:bP K mg P w base "is_wish" 2 ["thing"] (spT (within 0 100)) fW dW):aF P w K mg base bX 3 f fd ["thing","goods"] (LO 0 100):=by
 apply F.ok PD (λvs H Q E h=>?_) (λbG A outer s H vs Q E hr h=>?_)
 .obtain⟨b,v,d,n,rfl,_⟩:=h;rfl
 .obtain⟨b,v,d,n,rfl,hn6,hT,k⟩:=h;apply⟨_,eJ (lA (PW.pt (pw_or (rL (uf (rY K (pv 0) rfl N.isinstance rfl N.tuple pL HH))) (pw_or1 (nR mF (mw eQ (by rfl) N.len Yj (aZ (pv 0) bU)) (pv 1) (aL _))))) (de (eG iF)) lC)
   (de (eG (mw (qJ rfl) (by rfl) N.all boot_all (aZ (yX (own:=["part"]) (cap:=[]) (ix:=[]) (aH.of (bD (top 29)).names ["thing","goods"]) rfl (rW (pv 0))
    (λC fp s H=>⟨gZ (i:=0) (Ψ9 ["part"]) rfl (Or.inl rfl),C8,eu W.ok hr rfl W.mg W.kp W.bd .nil aQ (aZ (pv 0) bU)⟩)) bU)))),?_⟩
  let⟨t1,wP,e1⟩:=Nt Z hT;apply⟨_,(),t1,_,wP,e1,_,(),?_⟩;rcases ik hT with hn |⟨a,xs,ds,rfl,rfl,ha,hs⟩
  .let hk:=k H (az.refl H);rw[hn];rw[GL hn] at hk;exact bE (bE hk)
  apply bN ?_;let cA:=hs.len;apply⟨_,(),a,xs,(),.inr (aN.of ha),_,(),(),_,(),?_⟩;by_cases hl:↥xs=n
  case neg =>
   rw[kH hl];let e3:fZ n 0 100 (.tuple ds)=false:=by
    show(decide (↥ds=n)&&_)=false;rw[aja ⋯];rfl
   let hk:=k H (az.refl H);rw[e3] at hk;exact bE hk
  rw[hl,sV];apply bN ?_;apply⟨_,(),a,(),⟨xs,aN.of ha⟩,λacc bV=>?_⟩;apply iy (within 0 100) hs ha bV ⋯ (λx d H' st hx _ Z hZ=>⟨_,(),b,x,d,(),hx,λH5 s5=>hZ H5 s5⟩) (λH' st hy=>?_);apply⟨acc,_,(),.inl (bI.of hy),gd,?_⟩;rw[jH];let hk:=k H' st;let e3:fZ n 0 100 (.tuple ds)=ds.all (within 0 100):=by
   show(decide (↥ds=n)&&_)=_;rw[aea ⋯];rfl
  rw[e3] at hk;exact hk
def Wc:ak ["thing"] ["thing"] (bD (top 26)):=L2.di
def yh {f fW:Addr}{fd dW:FuncData}(F:cU K "are_amounts" "are_amounts" (top 26) f fd){tk:Tok}(N:Nm mg)(hc:mg "MOST_GOODS"=↑(.int 6 tk))(Z:Dm K)(W:bP K mg P w base "is_amount" 2 ["thing"] (spT (within 1 60)) fW dW):aF P w K mg base bX 3 f fd ["thing"] (spT (iL (within 1 60))):=by
 apply F.ok Wc (λvs H Q E h=>?_) (λbG A outer s H vs Q E hr h=>?_)
 .obtain⟨b,v,d,rfl,_⟩:=h;rfl
 .obtain⟨b,v,d,rfl,hT,k⟩:=h;apply⟨_,eJ (lA (PW.pt (pw_or (rL (uf (rY K (pv 0) rfl N.isinstance rfl N.tuple pL HH))) (pw_or1 (rL (vm iR iR bL (mw eQ (by rfl) N.len Yj (aZ (pv 0) bU)) (ju (v:=.int 6) rfl hc ⟨_,()⟩)))))) (de (eG iF)) lC)
   (de (eG (mw (qJ rfl) (by rfl) N.all boot_all (aZ (yX (own:=["part"]) (cap:=[]) (ix:=[]) (aH.of (bD (top 26)).names ["thing"]) rfl (rW (pv 0))
    (λC fp s H=>⟨gZ (i:=0) (Ψ9 ["part"]) rfl (Or.inl rfl),C8,eu W.ok hr rfl W.mg W.kp W.bd .nil aQ (aZ (pv 0) bU)⟩)) bU)))),?_⟩
  let⟨t1,wP,e1⟩:=Nt Z hT;apply⟨_,(),t1,_,wP,e1,_,(),?_⟩;rcases ik hT with hn |⟨a,xs,ds,rfl,rfl,ha,hs⟩
  .let hk:=k H (az.refl H);rw[hn];rw[AT hn] at hk;exact bE (bE hk)
  apply bN ?_;let cA:=hs.len;apply⟨_,(),a,xs,(),.inr (aN.of ha),_,_,(),(),_,(),?_⟩;let no:¬ (1<=↥ds/\↥ds<=6)->Q (.bl false) H:=λhz=>by
   let hk:=k H (az.refl H);let e3:iL (within 1 60) (.tuple ds)=false:=by
    show(decide (1<=↥ds)&&decide (↥ds<=6)&&_)=false;cases h1:decide (1<=↥ds) with
    |false=>rfl
    |true =>
     rw[aja (λz=>hz ⟨aia h1,z⟩)];rfl
   rw[e3] at hk;exact hk
  by_cases h1:(1:Int)<=(↥xs:Int)
  case neg =>
   rw[aja h1];exact bN ⟨_,(),bE (no ⋯)⟩
  rw[aea h1];apply bE ⟨_,_,(),(),_,(),?_⟩;by_cases h2:(↥xs:Int)<=6
  case neg =>
   rw[aja h2];exact bE (no ⋯)
  rw[aea h2];apply bN ?_;apply⟨_,(),a,(),⟨xs,aN.of ha⟩,λacc bV=>?_⟩;apply iy (within 1 60) hs ha bV ⋯ (λx d H' st hx _ Z hZ=>⟨_,(),b,x,d,(),hx,λH5 s5=>hZ H5 s5⟩) (λH' st hy=>?_);apply⟨acc,_,(),.inl (bI.of hy),gd,?_⟩;rw[jH];let hk:=k H' st;let e3:iL (within 1 60) (.tuple ds)=ds.all (within 1 60):=by
   show(decide (1<=↥ds)&&decide (↥ds<=6)&&_)=_;rw[aea (show 1<=↥ds by omega),aea (show ↥ds<=6 by omega)];rfl
  rw[e3] at hk;exact hk
def V9:ak ["thing"] ["thing"] (bD (top 27)):=L2.di
def Cc {f fW:Addr}{fd dW:FuncData}(F:cU K "are_purses" "are_purses" (top 27) f fd){tk:Tok}(N:Nm mg)(hc:mg "MOST_BUYERS"=↑(.int 6 tk))(Z:Dm K)(W:bP K mg P w base "is_purse" 3 ["thing"] (spT lx) fW dW):aF P w K mg base bX 4 f fd ["thing"] (spT (iL lx)):=by
 apply F.ok V9 (λvs H Q E h=>?_) (λbG A outer s H vs Q E hr h=>?_)
 .obtain⟨b,v,d,rfl,_⟩:=h;rfl
 .obtain⟨b,v,d,rfl,hT,k⟩:=h;apply⟨_,eJ (lA (PW.pt (pw_or (rL (uf (rY K (pv 0) rfl N.isinstance rfl N.tuple pL HH))) (pw_or1 (rL (vm iR iR bL (mw eQ (by rfl) N.len Yj (aZ (pv 0) bU)) (ju (v:=.int 6) rfl hc ⟨_,()⟩)))))) (de (eG iF)) lC)
   (de (eG (mw (qJ rfl) (by rfl) N.all boot_all (aZ (yX (own:=["part"]) (cap:=[]) (ix:=[]) (aH.of (bD (top 27)).names ["thing"]) rfl (rW (pv 0))
    (λC fp s H=>⟨gZ (i:=0) (Ψ9 ["part"]) rfl (Or.inl rfl),C8,eu W.ok hr rfl W.mg W.kp W.bd .nil aQ (aZ (pv 0) bU)⟩)) bU)))),?_⟩
  let⟨t1,wP,e1⟩:=Nt Z hT;apply⟨_,(),t1,_,wP,e1,_,(),?_⟩;rcases ik hT with hn |⟨a,xs,ds,rfl,rfl,ha,hs⟩
  .let hk:=k H (az.refl H);rw[hn];rw[AT hn] at hk;exact bE (bE hk)
  apply bN ?_;let cA:=hs.len;apply⟨_,(),a,xs,(),.inr (aN.of ha),_,_,(),(),_,(),?_⟩;let no:¬ (1<=↥ds/\↥ds<=6)->Q (.bl false) H:=λhz=>by
   let hk:=k H (az.refl H);let e3:iL lx (.tuple ds)=false:=by
    show(decide (1<=↥ds)&&decide (↥ds<=6)&&_)=false;cases h1:decide (1<=↥ds) with
    |false=>rfl
    |true =>
     rw[aja (λz=>hz ⟨aia h1,z⟩)];rfl
   rw[e3] at hk;exact hk
  by_cases h1:(1:Int)<=(↥xs:Int)
  case neg =>
   rw[aja h1];exact bN ⟨_,(),bE (no ⋯)⟩
  rw[aea h1];apply bE ⟨_,_,(),(),_,(),?_⟩;by_cases h2:(↥xs:Int)<=6
  case neg =>
   rw[aja h2];exact bE (no ⋯)
  rw[aea h2];apply bN ?_;apply⟨_,(),a,(),⟨xs,aN.of ha⟩,λacc bV=>?_⟩;apply iy lx hs ha bV ⋯ (λx d H' st hx _ Z hZ=>⟨_,(),b,x,d,(),hx,λH5 s5=>hZ H5 s5⟩) (λH' st hy=>?_);apply⟨acc,_,(),.inl (bI.of hy),gd,?_⟩;rw[jH];let hk:=k H' st;let e3:iL lx (.tuple ds)=ds.all lx:=by
   show(decide (1<=↥ds)&&decide (↥ds<=6)&&_)=_;rw[aea (show 1<=↥ds by omega),aea (show ↥ds<=6 by omega)];rfl
  rw[e3] at hk;exact hk
def V8:ak ["thing","buyers","goods"] ["thing","buyers","goods"] (bD (top 28)):=L2.di
def tY {f fW:Addr}{fd dW:FuncData}(F:cU K "are_wishes" "are_wishes" (top 28) f fd)(N:Nm mg)(Z:Dm K)(W:bP K mg P w base "is_wish_row" 3 ["thing","goods"] (LO 0 100) fW dW):aF P w K mg base bX 4 f fd ["thing","buyers","goods"] Uq:=by
 apply F.ok V8 (λvs H Q E h=>?_) (λbG A outer s H vs Q E hr h=>?_)
 .obtain⟨b,v,d,m,n,rfl,_⟩:=h;rfl
 .obtain⟨b,v,d,m,n,rfl,hm6,hn6,hT,k⟩:=h;apply⟨_,eJ (lA (PW.pt (pw_or (rL (uf (rY K (pv 0) rfl N.isinstance rfl N.tuple pL HH))) (pw_or1 (nR mF (mw eQ (by rfl) N.len Yj (aZ (pv 0) bU)) (pv 1) (aL _))))) (de (eG iF)) lC)
   (de (eG (mw (qJ rfl) (by rfl) N.all boot_all (aZ (yX (own:=["row"]) (cap:=["goods"]) (ix:=[2]) (aH.of (bD (top 28)).names ["thing","buyers","goods"]) rfl (rW (pv 0))
    (λC fp s H=>⟨gZ (i:=0) (Ψ9 ["row","goods"]) rfl (Or.inl rfl),C8,eu W.ok hr rfl W.mg W.kp W.bd .nil aQ (aZ (pv 0) (aZ (pv 1) bU))⟩)) bU)))),?_⟩
  let⟨t1,wP,e1⟩:=Nt Z hT;apply⟨_,(),t1,_,wP,e1,_,(),?_⟩;rcases ik hT with hn |⟨a,xs,ds,rfl,rfl,ha,hs⟩
  .let hk:=k H (az.refl H);rw[hn];rw[KL hn] at hk;exact bE (bE hk)
  apply bN ?_;let cA:=hs.len;apply⟨_,(),a,xs,(),.inr (aN.of ha),_,(),(),_,(),?_⟩;by_cases hl:↥xs=m
  case neg =>
   rw[kH hl];let e3:uH m n (.tuple ds)=false:=by
    show(decide (↥ds=m)&&_)=false;rw[aja ⋯];rfl
   let hk:=k H (az.refl H);rw[e3] at hk;exact bE hk
  rw[hl,sV];apply bN ?_;apply⟨_,(),a,(),⟨xs,aN.of ha⟩,λacc bV=>?_⟩;apply iy (fZ n 0 100) hs ha bV ⋯ (λx d H' st hx _ Z hZ=>⟨_,(),_,(),b,x,d,n,(),hn6,hx,λH5 s5=>hZ H5 s5⟩) (λH' st hy=>?_);apply⟨acc,_,(),.inl (bI.of hy),gd,?_⟩;rw[jH];let hk:=k H' st;let e3:uH m n (.tuple ds)=ds.all (fZ n 0 100):=by
   show(decide (↥ds=m)&&_)=_;rw[aea ⋯];rfl
  rw[e3] at hk;exact hk
def sy:ak ["thing","amounts","purses","wishes"] ["thing"] (bD (top 25)):=L2.di
def wc {f fA fP fW:Addr}{fd dA dP dW:FuncData}(F:cU K "is_market" "is_market" (top 25) f fd)(N:Nm mg)(Z:Dm K)(A':bP K mg P w base "are_amounts" 3 ["thing"] (spT (iL (within 1 60))) fA dA)
  (P':bP K mg P w base "are_purses" 4 ["thing"] (spT (iL lx)) fP dP) (W:bP K mg P w base "are_wishes" 4 ["thing","buyers","goods"] Uq fW dW):aF P w K mg base bX 5 f fd ["thing"] (spT cK):=by
 apply F.ok sy (λvs H Q E h=>?_) (λbG A outer s H vs Q E hr h=>?_)
 .obtain⟨b,v,d,rfl,_⟩:=h;rfl
 .obtain⟨b,v,d,rfl,hT,k⟩:=h;let hr3:c6 3 _:=hr.mono ∅;apply⟨_,eJ (lA (PW.pt (pw_or (rL (uf (rY K (pv 0) rfl N.isinstance rfl N.tuple pL HH))) (pw_or1 (nR mF (mw eQ (by rfl) N.len Yj (aZ (pv 0) bU)) bL (aL _))))) (de (eG iF)) lC)
   (eJ (iX (pv 0) (ia rfl (rN (gZ (i:=1) sy.nd rfl (Or.inl rfl)) (rN (gZ (i:=2) sy.nd rfl (Or.inl rfl)) (rN (gZ (i:=3) sy.nd rfl (Or.inl rfl)) fb)))))
   (eJ (lA (PW.pt (pw_or (rL (uf (eu A'.ok hr3 rfl A'.mg A'.kp A'.bd .nil aQ (aZ (pv 1) bU)))) (pw_or1 (rL (uf (eu P'.ok hr rfl P'.mg P'.kp P'.bd .nil aQ (aZ (pv 2) bU))))))) (de (eG iF)) lC)
   (de (eG (eu W.ok hr rfl W.mg W.kp W.bd .nil aQ (aZ (pv 3) (aZ (mw eQ (by rfl) N.len Yj (aZ (pv 2) bU)) (aZ (mw eQ (by rfl) N.len Yj (aZ (pv 1) bU)) bU)))))))),?_⟩
  let⟨t1,wP,e1⟩:=Nt Z hT;apply⟨_,(),t1,_,wP,e1,_,(),?_⟩;let hk:=k H (az.refl H);rcases ik hT with hn |⟨a,xs,ds,rfl,rfl,ha,hs⟩
  .rw[hn];rw[KP hn] at hk;exact bE (bE hk)
  apply bN ?_;apply⟨_,(),a,xs,(),.inr (aN.of ha),(),_,(),?_⟩;by_cases hl:↥xs=3
  case neg =>
   let e2:(!decide (V.int (↥xs:Int)=V.int 3))=true:=kH (b:=3) hl;rw[e2];rw[GO (by rw[<- hs.len];exact hl)] at hk;exact bE hk
  let e2:(!decide (V.int (↥xs:Int)=V.int 3))=false:=by rw[hl];rfl
  rw[e2];apply bN ?_;let⟨x,_,dx,_,rfl,rfl,hx,hs⟩:=j9 hs ⋯;let⟨y,z,dy,dz,rfl,rfl,hy,hz⟩:=vc hs ‹hl›;apply⟨_,(),a,_,(),aN.of ha,(),_,_,(),_,_,(),_,_,(),(),?_⟩;rw[yB] at k;apply⟨_,(),b,x,dx,(),hx,λH1 s1=>?_⟩;apply⟨_,(),?_⟩;cases h1:iL (within 1 60) dx with
  |false =>
   rw[h1] at k;exact bE (bE (k H1 s1))
  |true =>
  apply bN ?_;apply⟨_,(),b,y,dy,(),hy.ay s1,λH2 s2=>?_⟩;apply⟨_,(),?_⟩;cases h2:iL lx dy with
  |false =>
   rw[h1,h2] at k;exact bE (k H2 (s1.trans s2))
  |true =>
  apply bN ?_;let⟨la,rfl,la1,la2,la3⟩:=pE h1;let⟨lp,rfl,lp1,lp2,lp3⟩:=pE h2;let wR:=s1.trans s2;cases hx.ay wR with
  |tup YK hxs =>
  cases hy.ay wR with
  |tup hay Tr =>
  rw[h1,h2] at k;apply⟨_,(),_,(),_,_,(),.inr (aN.of hay),_,(),_,_,(),.inr (aN.of YK),b,z,dz,↥lp,↥la,?_,⋯,⋯,hz.ay wR,λH3 s3=>k H3 (wR.trans s3)⟩;rw[hxs.len,Tr.len];rfl
end
end Bq
namespace RZ
open L2 KG EX KM
def ao {α : Type}{xs:List α}{i:Nat}{x d:α}(h:xs[i]?=↑x):xs.getD i d=x:=by rw[List.getD,h];rfl
def o8:g∈aV row qs↔g<↥row/\(row\g)≠0/\∀o,o<↥row->0<row\o->((row.getD o 0:Int):Rat)*(qs\g)<=((row.getD g 0:Int):Rat)*(qs\o):=by
 unfold aV;rw[Ze,Zh];unfold mK;rw[Z4,Yd,decide_eq_true_eq];apply⟨λ⟨h1,h2,h3⟩=>⟨h1,h2,λo ho hw=>?_⟩,λ⟨h1,h2,h3⟩=>⟨h1,h2,λo ho=>?_⟩⟩
 .have:=h3 o (Zh.mpr ho);unfold mE at this;rw[aea hw,Xk] at this;exact Yr.mp (asa (by simpa using this:decide _=false))
 .unfold mE;rw[Bool.not_eq_true',Bool.and_eq_false_iff];by_cases hw:0<row\o
  .right
   rw[decide_eq_false_iff_not,Yr];exact h3 o (Zh.mp ho) hw
  .left;rw[aja hw]
def K7 (hw:∃o,o<↥row/\0<row\o)(hq:∀o,o<↥row->0<row\o->0<qs\o):aV row qs≠[]:=by
 let⟨o0,h0,w0⟩:=hw;let⟨m,hm⟩:=sN (l:=(((~~~↥row).filter λo=>decide (0<row\o)).map (bS row qs))) (by
  intro z;have:=Xt.mp z;let h1:o0∈(~~~↥row).filter λo=>decide (0<row\o):=Ze.mpr ⟨Zh.mpr h0,aea w0⟩
  rw[this] at h1;cases h1)
 let⟨b,hb,rfl⟩:=Zd.mp hm.1;let⟨m9,pP⟩:=Ze.mp hb;let m9:=Zh.mp m9;let pP:0<row\b:=aia pP;intro z;have:b∈aV row qs:=o8.mpr ⟨m9,⋯,λo ho hw=>?_⟩
 .rw[z] at this;cases this
 .let h1:=hm.2 (bS row qs o) (Zd.mpr ⟨o,Ze.mpr ⟨Zh.mpr ho,aea hw⟩,()⟩);unfold bS at h1;let q1:=hq o ho hw;let q2:=hq b m9 pP;let e1:((row.getD o 0:Int):Rat) / (qs\o)*(qs\o*(qs\b))=((row.getD o 0:Int):Rat)*(qs\b):=by
   have:qs\o≠0:=λz=>by rw[z] at q1;exact afa q1 ∅
   grind
  let e2:((row.getD b 0:Int):Rat) / (qs\b)*(qs\o*(qs\b))=((row.getD b 0:Int):Rat)*(qs\o):=by
   have:qs\b≠0:=λz=>by rw[z] at q2;exact afa q2 ∅
   grind
  rw[<- e1,<- e2];exact Xs h1 (Zt (Xj q1 q2))
section
def i0 {i j:Nat}(hi:i<↥W)(h:0<(W∩i)\j):has W j:=by
 unfold has;apply Z6.mpr ⟨W∩i,by rw[ao (Zc hi)];exact Zw _,?_⟩;exact aea ⋯
def GR (h:has W g):∃i,i<↥W/\0<(W∩i)\g:=by
 unfold has at h;let⟨r,hr,h⟩:=Z6.mp h;let⟨i,hi,rfl⟩:=Yf hr;exact⟨i,hi,by rw[ao (Zc hi)];have:=aia h;omega⟩
end
end RZ
namespace MI
open L2 KG EX KM RZ SP
def BJ (L:List Nat)(n:Nat)(w:Nat->Rat)(p:Nat->Bool):wsum (L++[n]) w p=wsum L w p+if p n=true then w n else 0:=by
 unfold wsum;rw[Xp,Zs,oP]
 congr 1
 cases h:p n with
 |true=>rw[Ja h,aha rfl];show aK [w n]=w n;rw[pX];show w n+0=_;rw[Qb]
 |false=>rw[Qs (by rw[h];decide),aga ∅];rfl
theorem kJ (h:c9 c ms qs)(p:Nat->Bool):∀n,n<=↥qs->((sm n (λi=>if p i=true then ms\i else 0):Int):Rat)=(c:Rat)*wsum (~~~n) (λi=>qs\i) p
 |0,_=>by show((0:Int):Rat)=(c:Rat)*0;rw[Xr];rfl
 |n+1,hn=>by
  rw[Xb,BJ];show((sm n _+(if p n=true then ms\n else 0):Int):Rat)=_;rw[Rat.intCast_add,kJ h p n ⋯,Rat.mul_add]
  congr 1
  split
  .exact h.2 n ⋯
  .rw[Xr];rfl
def pc (L:List Nat)(w:Nat->Rat)(p:Nat->Bool):wsum L w (λ_=>true)=wsum L w p+wsum L w (λx=>!p x):=by
 have:=Sj L w (λ_=>true) p
 grind
def qK (h:∀x∈L,p x≠q x->w x=0):wsum L w p=wsum L w q:=by
 induction L with
 |nil=>rfl
 |cons x L ih =>
  rw[Dx,Dx,ih λy hy=>h y (Zi _ hy)]
  congr 1
  by_cases e:p x=q x
  .rw[e]
  .rw[h x Zk e];split<;>split<;>rfl
def CG (L:List Nat)(w:Nat->Rat)(p q:Nat->Bool):wsum (L.filter p) w q=wsum L w (λx=>p x&&q x):=by
 unfold wsum;rw[Qr]
 congr 2
 apply Y4 λx _=>Bool.and_comm _ _
section
def vU (hi:i<↥W)(hx:x∈(aw W qs)∩i):0<=x/\x.toNat∈aV (W∩i) qs/\((x.toNat:Nat):Int)=x:=by
 rw[za hi] at hx
 grind
def vV (mf:DI A Pu W)(hi:i<↥W)(hy:y∈aV (W∩i) qs):y<↥A/\has W y/\0<(W∩i)\y:=by
 let⟨h1,h2,_⟩:=o8.mp hy;let hr:=mf.wr i hi;let h3:=(mf.w0 i y hi ⋯).1;let h4:0<(W∩i)\y:=by have:(W∩i)\y=eI W i y:=rfl;omega
 exact⟨⋯,i0 hi h4,h4⟩
def Dc (h:g<↥qs):(gx A qs)\g=qs\g*((A.getD g 0:Int):Rat):=by
 unfold gx;simp[List.getD,Yt h]
def jB:b9 S r↔∃x∈S,(x:Int)∈r:=by
 unfold b9
 grind
def BY (mf:DI A Pu W)(gW:HB W qs)(hl:↥qs=↥A)(good:∀r∈W,aJ ↥A r)(cz:gA A Pu qs W ↥A)(zero:aD A Pu qs W (aA ↥A W)=0) :
  wsum (~~~↥A) (λj=>(gx A qs)\j) (λ_=>true)=wsum (~~~↥Pu) (λi=>Pu\i) (λ_=>true) /\
  ∀T S:Nat->Bool,(∀i,i<↥Pu->T i->∀x∈(aw W qs)∩i,S x.toNat)->wsum (~~~↥Pu) (λi=>Pu\i) T<=wsum (~~~↥A) (λj=>(gx A qs)\j) S:=by
 let nd:(aA ↥A W).Nodup:=by unfold aA;exact X0.sublist Zu
 let wl:=mf.wl;let mon:∀p:Nat->Bool,dM A qs ((aA ↥A W).filter p)=wsum (~~~↥A) (λj=>(gx A qs)\j) p:=λp=>by
  show wsum (aA ↥A W) _ p=_;unfold aA;rw[CG];apply qK λx hx bF=>?_
  let hx:=Zh.mp hx;rw[Dc ⋯];have:has W x=false:=by
   cases hh:has W x with
   |false=>rfl
   |true=>rw[hh,Xk] at bF;exact afa rfl bF
  rw[gW.nil x ⋯ this,Xm]
 let pur:∀S:List Nat,bh Pu (eA W qs S)=wsum (~~~↥Pu) (λi=>Pu\i) (λi=>b9 S ((aw W qs)∩i)):=λS=>by rw[<- wl];rfl
 let all:dM A qs (aA ↥A W)=wsum (~~~↥A) (λj=>(gx A qs)\j) (λ_=>true):=by
  have:=mon λ_=>true
  rwa [X1.mpr λ_ _=>rfl] at this
 let tk:∀i,i<↥Pu->b9 (aA ↥A W) ((aw W qs)∩i):=λi hi=>by
  let jZ:i<↥W:=⋯;let hg:=good _ (ly (d:=[]) jZ);let⟨k,hk,k1⟩:=hg.pos;let⟨o,ho,eo⟩:=Yf hk;let bF:aV (W∩i) qs≠[]:=K7 ⟨o,ho,by rw[KM.ao (Zc ho),eo];omega⟩ λo ho hw=>gW.pos o (by have:=mf.wr i jZ;omega) (i0 jZ hw)
  let⟨y,hy⟩:=List.exists_mem_of_ne_nil _ bF;let⟨h1,h2,_⟩:=vV mf jZ hy;exact jB.mpr ⟨y,by unfold aA;exact Ze.mpr ⟨Zh.mpr h1,h2⟩,by rw[za jZ];exact Zd.mpr ⟨y,hy,()⟩⟩
 let R7:wsum (~~~↥A) (λj=>(gx A qs)\j) (λ_=>true)=wsum (~~~↥Pu) (λi=>Pu\i) (λ_=>true):=by
  unfold aD at zero;rw[all,pur] at zero;rw[Dd (q:=λ_=>true) λi hi=>tk i (Zh.mp hi)] at zero
  grind
 apply⟨R7,λT S h=>?_⟩;let hS:=cz (((aA ↥A W).filter λx=>!S x).map λj:Nat=>(j:Int)) (List.Sublist.map _ Zu);let en':ap (((aA ↥A W).filter λx=>!S x).map λj:Nat=>(j:Int))=(aA ↥A W).filter λx=>!S x:=by
  unfold ap;rw[Zp];conv=>rhs;rw[<- X6 ((aA ↥A W).filter λx=>!S x)]
  apply Xd λx _=>?_
  grind
 rw[en'] at hS;unfold aD at hS;rw[mon,pur] at hS;let le:wsum (~~~↥Pu) (λi=>Pu\i) (λi=>b9 ((aA ↥A W).filter λx=>!S x) ((aw W qs)∩i))<=wsum (~~~↥Pu) (λi=>Pu\i) (λi=>!T i):=by
  apply jn (λi hi=>Zt (mf.pu _ (ly (Zh.mp hi))).1) λi hi ht=>?_
  let⟨x,hx,hb⟩:=jB.mp ht;cases hT:T i with
  |false=>rfl
  |true =>
   let h1:=h i (Zh.mp hi) hT _ hb;let h2:=(Ze.mp hx).2;rw[Zy] at h1;rw[h1] at h2;cases h2
 let p1:=pc (~~~↥A) (λj=>(gx A qs)\j) S;let p2:=pc (~~~↥Pu) (λi=>Pu\i) T
 grind
def V2 (mf:DI A Pu W)(gW:HB W qs)(hl:↥qs=↥A)(good:∀r∈W,aJ ↥A r)(cz:gA A Pu qs W ↥A)(zero:aD A Pu qs W (aA ↥A W)=0)
  (hc:0<c) (im:c9 c ms (gx A qs)) (ip:c9 c ps Pu):OL (aw W qs) ms ps ↥Pu ↥A:=by
 let⟨R7,acu⟩:=BY mf gW hl good cz zero;let wl:=mf.wl;let ml:↥(gx A qs)=↥A:=by unfold gx;simp[hl]
 let cq:(0:Rat)<(c:Rat):=Y0.mpr hc;let acs:∀i,i<↥Pu->(aw W qs)∩i=(aV (W∩i) qs).map λg:Nat=>(g:Int):=λi hi=>za ⋯
 let LM:∀{n:Nat}{l:Γ3},sm n (λi=>l\i)=sm n (λi=>if (λ_:Nat=>true) i=true then l\i else 0):=Hk λi _=>by simp
 let nnI:∀{ls:Γ3}{q:Δ1},c9 c ls q->(∀i,i<↥q->0<=q\i)->∀i,i<↥q->0<=ls\i:=λ{ls q} h h0 i hi=>by
  let h1:=h.2 i hi;let h2:(0:Rat)<=(c:Rat)*(q\i):=Rat.mul_nonneg (Zt cq) (h0 i hi);rw[<- h1] at h2
  exact_mod_cast h2
 apply⟨im.1.trans ml,ip.1,by rw[HD,wl],mf.n6,mf.g6,λj hj=>nnI im (λi hi=>?_) j ⋯,λi hi=>nnI ip (λi hi=>Zt (mf.pu _ (ly hi)).1) i hi,λi hi x hx=>?_,λi hi=>?_,λi hi=>?_,λT S h=>?_,?_⟩
 .rw[ml] at hi;rw[Dc ⋯];let ha:=mf.am _ (ly (d:=0) hi);let hq:0<=qs\i:=by
   cases hh:has W i with
   |true=>exact Zt (gW.pos i ⋯ hh)
   |false=>rw[gW.nil i ⋯ hh];exact Yg
  exact Rat.mul_nonneg hq (by exact_mod_cast (show(0:Int)<=A\i by omega))
 .obtain⟨h1,h2,_⟩:=vU (show i<↥W by omega) hx;exact⟨h1,(vV mf ⋯ h2).1⟩
 .exact Zl (o9 ⋯ (mf.wr i ⋯)) mf.g6
 .rw[acs i hi];unfold aV;exact List.Pairwise.map _ (λa b SA z=>SA ⋯) (X0.sublist Zu)
 .let h1:=acu T S h;let e1:=kJ ip T ↥Pu (Zf _);let e2:=kJ im S ↥A ⋯;let h2:=Yz h1 (Zt cq);rw[<- e1,<- e2] at h2
  exact_mod_cast h2
 .let e1:=kJ ip (λ_=>true) ↥Pu (Zf _);let e2:=kJ im (λ_=>true) ↥A ⋯;rw[R7,<- e1] at e2;rw[LM,LM]
  exact_mod_cast e2
end
def dg.uniq (h:dg A Pu W qs L):∀{L':List DH},dg A Pu W qs L'->L=L':=by
 induction h with
 |stop rp cz no =>
  intro L' h';cases h' with
  |stop _ _ _=>rfl
  |step _ _ pd hr _ _=>exact afa (no _ pd) hr
 |step rp cz pd hr hm _ ih =>
  intro L' h';cases h' with
  |stop _ _ no=>exact afa (no _ pd) hr
  |step _ _ S8 _ Sv uj =>
   let e1:=S8.uniq pd;subst e1;let e2:=Sv.uniq hm;subst e2;rw[ih uj]
theorem kc (k:Rat)(f:Nat->Int):∀n,aK ((~~~n).map λj=>((f j:Int):Rat)*k)=((sm n f:Int):Rat)*k
 |0=>by show(0:Rat)=((0:Int):Rat)*k;rw[show((0:Int):Rat)=0 from rfl,Xm]
 |n+1=>by
  rw[Xb,Zs,oP,kc k f n];show _+aK [((f n:Int):Rat)*k]=((sm n f+f n:Int):Rat)*k;rw[pX,show aK ([]:Δ1)=0 from rfl,Qb,Rat.intCast_add,Rat.add_mul]
def Jo {f:Nat->Int}{n:Nat}(h:∀i,i<n->0<=f i):∀{m:Nat},m<=n->0<=sm m f/\sm m f<=sm n f:=by
 induction n with
 |zero =>
  intro m hm;have:m=0:=⋯;subst this;exact⟨Y6 _,Y6 _⟩
 |succ n ih =>
  intro m hm;by_cases e:m=n+1
  .subst e;exact⟨V3 h,Y6 _⟩
  .obtain⟨h1,h2⟩:=ih (λi hi=>h i ⋯) (m:=m) ⋯;let h3:=h n ⋯;exact⟨h1,by show _<=sm n f+f n;omega⟩
section
def BL (mf:DI A Pu W)(hl:↥qs=↥A)(d:lS A Pu W qs kb c ms ps M)(k3:kb<=2010000){i:Nat}(hi:i<↥Pu){Lk:Rat}(hr:Rb 2010020 Lk)
  (hb:∀j,j<↥A->((j:Nat):Int)∈(aw W qs)∩i->0<qs\j/\(((W∩i).getD j 0:Int):Rat)=Lk*(qs\j)) :
  xu (W∩i) ((cV A ms M)∩i)/\aK (fY (W∩i) ((cV A ms M)∩i))=Pu\i*Lk:=by
 let wl:=mf.wl;let jZ:i<↥W:=⋯;let rl:=mf.wr i jZ;let sp:=d.sp;let ml:=sp.uk.len;let c0:(0:Rat)<(c:Rat):=Y0.mpr d.c0;let cn:(c:Rat)≠0:=λz=>by rw[z] at c0;exact afa c0 ∅
 let mql:↥(gx A qs)=↥A:=by unfold gx;simp[hl]
 let eD:(cV A ms M)∩i=(~~~↥A).map λj=>Hg (en M i j) (ms\j) (A\j):=by
  unfold cV;rw[jY (a:=0) (by rw[Ys];omega)]
  congr 1
  funext j
  rw[show(~~~↥M)\i=i by simp[List.getD,Yt (show i<↥M by omega)]]
 let atD:∀j,j<↥A->((cV A ms M)∩i)\j=Hg (en M i j) (ms\j) (A\j):=λj hj=>by
  rw[eD,jY (a:=0) (by rw[Ys];exact hj)];rw[show(~~~↥A)\j=j by simp[List.getD,Yt hj]]
 let W':0<Pu\i:=(mf.pu _ (ly hi)).1;let puR:Rb 20 (Pu\i):=(mf.pu _ (ly hi)).2;let Y':((ps.getD i 0:Int):Rat)=(c:Rat)*(Pu\i):=d.ip.2 i hi;let ps0:0<ps\i:=by
  have:(0:Rat)<((ps.getD i 0:Int):Rat):=by rw[Y'];exact Xj c0 W'
  exact Y0.mp this
 let psB:Bd (13*kb+79) (ps\i):=d.pb _ (ly (by rw[d.ip.1];exact hi));let one:∀j,j<↥A->(((W∩i).getD j 0:Int):Rat)*(((cV A ms M)∩i)\j)=((en M i j:Int):Rat)*(Lk / (c:Rat)):=λj hj=>by
  rw[atD j hj];unfold Hg;split
  .rename_i h0;let⟨q0,ew⟩:=hb j hj (sp.sup i j hi hj h0);let am:=mf.am _ (ly (d:=0) hj);let a0:(0:Rat)<((A.getD j 0:Int):Rat):=Y0.mpr ⋯;let em:((ms.getD j 0:Int):Rat)=(c:Rat)*(qs\j*((A.getD j 0:Int):Rat)):=by rw[d.im.2 j ⋯,Dc ⋯]
   rw[Xe,em,ew,Qu];let an:((A.getD j 0:Int):Rat)≠0:=λz=>by rw[z] at a0;exact afa a0 ∅
   let qn:qs\j≠0:=λz=>by rw[z] at q0;exact afa q0 ∅
   grind
  .rename_i h0;have:en M i j=0:=by have:=sp.nn i j;omega
   rw[this,Xr,show((0:Int):Rat)=0 from rfl,Xm]
 let eP:fY (W∩i) ((cV A ms M)∩i)=(~~~↥A).map λj=>((en M i j:Int):Rat)*(Lk / (c:Rat)):=by
  unfold fY;rw[rl];exact Xd λj hj=>one j (Zh.mp hj)
 let Vw:∀N:Int,0<=N->N<=ps\i->Rb 32000000 (((N:Int):Rat)*(Lk / (c:Rat))):=λN n0 n1=>by
  let nB:Bd (13*kb+79) N:=psB.le ⋯;let e:((N:Int):Rat)*(Lk / (c:Rat))=Rat.divInt N (ps\i)*(Pu\i*Lk):=by
   rw[Xe,Y'];let pn:Pu\i≠0:=λz=>by rw[z] at W';exact afa W' ∅
   grind
  rw[e];apply(j6 (iV (k:=13*kb+79) ⋯ nB psB) (j6 puR hr)).mono ?_;omega
 let act:∀m,m<=↥A->0<=sm m (λj=>en M i j)/\sm m (λj=>en M i j)<=ps\i:=λm hm=>by
  have:=Jo (f:=λj=>en M i j) (n:=↥A) (λj _=>sp.nn i j) hm;let e:sm ↥A (λj=>en M i j)=ps\i:=sp.row i hi;omega
 apply⟨⟨?_,?_,λx hx=>?_,λz hz=>?_,λz hz=>?_,λm hm=>?_⟩,?_⟩
 .rw[eD,Zb,Ys,rl]
 .rw[rl];exact mf.g6
 .obtain⟨j,hj,rfl⟩:=Yf hx;have:=mf.w0 i j jZ ⋯;unfold eI at this
  rwa [KM.ao (Zc hj)] at this
 .rw[eD] at hz;let⟨j,hj,rfl⟩:=Zd.mp hz;let hj:=Zh.mp hj;unfold Hg;split
  .rename_i h0;let h1:=(Ey sp hi hj).1;let h2:=d.mb _ (ly (d:=0) (show j<↥ms by rw[d.im.1,mql];exact hj));let h3:=mf.am _ (ly (d:=0) hj);let h4:Bd (13*kb+79) (en M i j):=h2.le ⋯;let h5:Bd 6 (A\j):=by unfold Bd;omega
   let h6:Bd 32000000 (en M i j*(A\j)):=(h4.mul h5).mono ⋯;exact iV ⋯ h6 (h2.mono ⋯)
  .exact nq.mono ∅
 .rw[eP] at hz;let⟨j,hj,rfl⟩:=Zd.mp hz;let hj:=Zh.mp hj;exact Vw _ (sp.nn i j) (Ey sp hi hj).2
 .rw[eP] at hm ⊢;rw[Zb,Ys] at hm;rw[<- List.map_take,List.take_range,Nat.min_eq_left hm,kc];let⟨h1,h2⟩:=act m hm;exact Vw _ h1 h2
 .rw[eP,kc];let e:sm ↥A (λj=>en M i j)=ps\i:=sp.row i hi;rw[e,Y']
  grind
end
end MI
namespace RZ
open L2 KG EX KM
def Ab (N D:Nat)(z:Rat):Prop:=z.num.natAbs<=N/\z.den<=D
def Ab.mono (h:Ab N D z)(h1:N<=N')(h2:D<=D'):Ab N' D' z:=⟨Zl h.1 h1,Zl h.2 h2⟩
def sU (hU:U≠0):Ab T.natAbs U.natAbs (Rat.divInt T U):=by
 let⟨e1,e2⟩:=oB (T:=T) hU;let⟨_,_,_,_,n5,n6⟩:=kL (t:=T) hU;rw[e1] at n5;rw[e2] at n6;exact⟨n5,⋯⟩
def RY (hx:Ab a b x)(hy:Ab c d y):Ab (a*c) (b*d) (x*y):=by
 rw[<- nE];let h2:(x.den:Int)*y.den≠0:=X5 (Xz (den_pos x) (den_pos y));apply(sU h2).mono ?_ ?_
 .rw[Xh];exact Xu hx.1 hy.1
 .rw[Xh,Xn,Xn];exact Xu hx.2 hy.2
def Ld {a b c d:Nat}{x y:Rat}(hx:Ab a b x)(hy:Ab c d y)(h:y≠0):Ab (a*d) (b*c) (x / y):=by
 let hn:y.num≠0:=λz=>h (Rat.num_eq_zero.mp z)
 rw[<- nK hn];apply(sU ?_).mono ?_ ?_
 .intro z;rcases Int.mul_eq_zero.mp z with y |y
  .have:=den_pos x;omega
  .exact hn y
 .rw[Xh,Xn];exact Xu hx.1 hy.2
 .rw[Xh,Xn];exact Xu hx.2 hy.1
def R1 (hx:Ab a b x)(hy:Ab c d y):Ab (a*d+c*b) (b*d) (x+y):=by
 rw[<- tT];let h2:(x.den:Int)*y.den≠0:=X5 (Xz (den_pos x) (den_pos y));apply(sU h2).mono ?_ ?_
 .apply Zl (Int.natAbs_add_le _ _) ?_;rw[Xh,Xh,Xn,Xn];exact Nat.add_le_add (Xu hx.1 hy.2) (Xu hy.1 hx.2)
 .rw[Xh,Xn,Xn];exact Xu hx.2 hy.2
theorem Bf:∀{l:Δ1},(∀z∈l,Ab N D z)->(aK l).den<=D ^ ↥l/\D*(aK l).num.natAbs<=↥l*N*D ^ ↥l
 |[],_=>by
  have:aK []=0:=rfl;rw[this];exact⟨Zf _,by show D*0<=_;omega⟩
 |x::l,h=>by
  let⟨i1,i2⟩:=Bf (l:=l) λz hz=>h z (Zi _ hz)
  let hx:=h x Zk;rw[pX,Y1];let⟨h1,h2⟩:=R1 hx (show Ab (aK l).num.natAbs (D ^ ↥l) (aK l) from⟨Zf _,i1⟩);apply⟨by rw[Nat.pow_succ,Nat.mul_comm];exact h2,?_⟩;apply Zl (Nat.mul_le_mul_left D h1) ?_;rw[Nat.mul_add,Nat.pow_succ];let e1:D*((aK l).num.natAbs*D)=(D*(aK l).num.natAbs)*D:=(Nat.mul_assoc _ _ _).symm;rw[e1];let h3:=Nat.mul_le_mul_right D i2;let e2:(↥l+1)*N*(D ^ ↥l*D)=D*(N*D ^ ↥l)+↥l*N*D ^ ↥l*D:=by grind
  rw[e2];exact Nat.add_le_add_left h3 _
def Bh (hD:1<=D)(h:∀z∈l,Ab N D z)(hl:↥l<=6):Ab (6*N*D ^ 5) (D ^ 6) (aK l):=by
 let⟨h1,h2⟩:=Bf h;let hp:D ^ ↥l<=D ^ 6:=Xc hD hl;apply⟨?_,Zl h1 hp⟩;let h3:↥l*N*D ^ ↥l<=6*N*D ^ 6:=Xu (Nat.mul_le_mul_right N hl) hp;let e:6*N*D ^ 6=D*(6*N*D ^ 5):=by grind
 have:=Zl h2 h3;rw[e] at this;exact Nat.le_of_mul_le_mul_left this hD
def XB (h:Ab N D z)(h1:N<2 ^ k)(h2:D<2 ^ k):Rb k z:=⟨by unfold Bd;have:=h.1;omega,by unfold Bd;have:=h.2;rw[Xn];omega⟩
def Wk (h:Rb k z):Ab (2 ^ k) (2 ^ k) z:=by
 let⟨h1,h2⟩:=h;unfold Bd at h1 h2;rw[Xn] at h2;exact⟨⋯,⋯⟩
def Lg (a:Int):Ab a.natAbs 1 (a:Rat):=⟨by show a.natAbs<=_;exact Zf _,Zf _⟩
def Lc {qs:Δ1}(h:∀z∈qs,Ab N D z)(hD:1<=D)(g:Nat):Ab N D (qs\g):=by
 by_cases hg:g<↥qs
 .rw[ao (Zc hg)];exact h _ (Zw _)
 .rw[List.getD,Yu (Xf hg)];exact⟨Z9 _,hD⟩
section
end
section
end
end RZ
namespace MI
open L2 KG EX KM
open RZ (gA cb aM iI)
theorem oF {α : Type}{f:α->PyData}:∀{ds:Ξ1},(∀d∈ds,∃x,d=f x)->∃xs:List α,ds=xs.map f
 |[],_=>⟨[],()⟩
 |d::ds,h=>by
  let⟨x,rfl⟩:=h d Zk;let⟨xs,rfl⟩:=oF (ds:=ds) λd hd=>h d (Zi _ hd)
  exact⟨x::xs,()⟩
def pe (h:within a b d):∃x,d=.int x:=by
 cases d with
 |int n=>exact⟨n,()⟩
 |_=>cases h
def Kt {am pu wi:Ξ1}(h:cK (.tuple [.tuple am,.tuple pu,.tuple wi])):∃A Pu W,(PyData.tuple [.tuple am,.tuple pu,.tuple wi])=dJ A Pu W:=by
 let⟨h1,h2,h3,h4,h5,h6,h7,h8⟩:=jd h;let⟨A,rfl⟩:=oF (f:=PyData.int) λd hd=>pe (Yd.mp h3 d hd)
 let⟨Pu,rfl⟩:=oF (f:=qD) (ds:=pu) λd hd=>by
  let⟨q,e,_⟩:=nu (Yd.mp h6 d hd);exact⟨q,e⟩
 let⟨W,rfl⟩:=oF (f:=bi) (ds:=wi) λd hd=>by
  have:=Yd.mp h8 d hd;cases d with
  |tuple ds =>
   let e:(decide (↥ds=↥(A.map PyData.int))&&ds.all (within 0 100))=true:=this;rw[Z4] at e;let⟨r,rfl⟩:=oF (f:=PyData.int) λd hd=>pe (Yd.mp e.2 d hd)
   exact⟨r,()⟩
  |_=>cases this
 exact⟨A,Pu,W,()⟩
section
end
section
end
def rk (mf:DI A Pu W)(hp:∀r∈W,∃k∈r,1<=k):∀r∈W,aJ ↥A r:=λr hr=>by
 let⟨i,hi,e⟩:=Yf hr;let er:W∩i=r:=by rw[ao (Zc hi)];exact e
 let hl:=mf.wr i hi;rw[er] at hl;apply⟨hl,λk hk=>?_,hp r hr⟩;let⟨o,ho,rfl⟩:=Yf hk;have:=mf.w0 i o hi ⋯;unfold eI at this;rw[er,ao (Zc ho)] at this;exact this
def yH (ok:cK (dJ A Pu W))(hp:∀r∈W,∃k∈r,1<=k)(hF:et A Pu W ↥A qs):cW A Pu W qs/\gA A Pu qs W ↥A:=by
 let mf:=qu ok;let hM:=rk mf hp;let wl:=mf.wl;let n1:=mf.n1;let ZG:W≠[]:=λz=>by rw[z] at wl;simp at wl;omega
 let So:=kg (am:=A) hM ZG rfl (λa ha=>(mf.am a ha).1);let hpu:=lY (am:=A) (M:=W) rfl mf.g6 (λa ha=>(mf.am a ha).2);let Bm:∀p∈Pu,0<p:=λp h=>(mf.pu p h).1
 let Dh:=wU (z:=fh A (aA ↥A W)) ⋯;let bF:((fh A (aA ↥A W):Int):Rat)≠0:=λz=>by rw[z] at Dh;exact afa Dh ∅
 let b1:Rb 9 ((fh A (aA ↥A W):Int):Rat):=fw (by unfold Bd;omega) ∅;let⟨mn,Di,hq⟩:=hF.ex;let hb:0<mn / ((fh A (aA ↥A W):Int):Rat):=div_pos (Bm mn Di.1) Dh;let bd:∀z∈qs,Rb 2009987 z:=λz hz=>by
  let⟨g,hg,rfl⟩:=Yf hz;let⟨sh,wK,e⟩:=hq g (by rw[<- hF.len];exact hg);rw[ao (Zc hg)] at e;rw[e];let⟨r,hr,rfl⟩:=Zd.mp wK.1;exact(j6 (io (mf.pu mn Di.1).2 b1 bF) (kX (hM r hr))).mono ∅
 let hr0:∀{i:Nat},i<↥W->W∩i∈W:=λhi=>by rw[ao (Zc hi)];exact Zw _
 let gW:HB W qs:=by
  apply⟨λj hj hh=>?_,λj hj hh=>?_⟩
  .obtain⟨sh,wK,e⟩:=hq j (by rw[<- hF.len];exact hj);rw[e];let⟨i,hi,hw⟩:=RZ.GR hh;let h1:=wK.2 _ (Zd.mpr ⟨_,hr0 hi,()⟩);let h2:0<cB j (W∩i):=div_pos (wU hw) (wU (by have:=(hM _ (hr0 hi)).mx.1;omega));exact Xj hb (Rat.not_le.mp λz=>afa h2 (Yr.mpr (Yy h1 z)))
  .obtain⟨sh,wK,e⟩:=hq j (by rw[<- hF.len];exact hj);rw[e];let⟨r,hr,rfl⟩:=Zd.mp wK.1;let⟨i,hi,e2⟩:=Yf hr;let er:W∩i=r:=by rw[ao (Zc hi)];exact e2
   let h0:=(hM r hr).at j;have:r\j=0:=by
    rcases Int.lt_or_le 0 (r\j) with y |y
    .rw[RZ.i0 hi (by rw[er];exact y)] at hh;cases hh
    .omega
   let hz:cB j r=0:=by unfold cB;rw[this];show(0:Rat) / _=0;rw[X8,Xm]
   rw[hz,Xr]
 apply⟨⟨⟨ok,hF.len,gW,λz hz=>(bd z hz).mono ∅⟩,bd⟩,λS hS=>?_⟩;apply wx hM hF Bm ⋯ rfl (λa ha=>(mf.am a ha).1) So ?_;have:=hS.map Int.toNat;unfold ai at this;rw[Zp] at this;let e:(aA ↥A W).map (Int.toNat ∘ λj:Nat=>(j:Int))=aA ↥A W:=by
  have:(Int.toNat ∘ λj:Nat=>(j:Int))=id:=funext λj=>Zy j
  rw[this,X6]
 rw[e] at this;exact this
end MI
namespace KM
open L2 KG EX
section
variable {row am:Γ3}
end
section
end
section
end
section
end
end KM
namespace MI
open L2 KG EX KM RZ SP
section
end
section
def Vr:FM:=λO xs P _=>∃j,xs=[.bag j]/\∀z:Rat,lx (qD z)->P (.im (qD z)) O
def Rv:uh K N2 Vr:=λw O H vs xs P PX Q E r a hf q x=>by
 let⟨j,rfl,hf⟩:=hf;let⟨v,us,rfl,h1,h2⟩:=a.aW;rw[h2.cC];let⟨b,hb,rfl⟩:=h1;let gT:=Z1 hb;apply⟨b,(),r.bg b gT,λv d H' hB hK t m=>?_⟩;let⟨r1,e1,_⟩:=r.draw gT hK hB;let⟨z,rfl,_,_⟩:=nu m;exact q _ _ O w H' (hf z m) e1 r1 (ZM r1 t rfl)
end
def Ww {r:Int}(h0:0<=r)(h1:r<5):∃m:Int,(2<=m/\m<=101)/\gh [PyData.int 3,.int 101,.int 2,.int 10,.int 101] r=↑(.int m):=by
 rcases(by omega:r=0\/r=1\/r=2\/r=3\/r=4) with rfl |rfl |rfl |rfl |rfl
 all_goals exact⟨_,∅,()⟩
def ER {r c:Int}(hc:3<=c/\c<=6)(h0:0<=r)(h1:r<2):∃m:Int,(3<=m/\m<=6)/\gh [PyData.int 3,.int c] r=↑(.int m):=by
 rcases(by omega:r=0\/r=1) with rfl |rfl
 all_goals exact⟨_,⋯,()⟩
def Wx {r:Int}(h0:0<=r)(h1:r<3):∃m:Int,(1<=m/\m<=60)/\gh [PyData.int 1,.int 9,.int 60] r=↑(.int m):=by
 rcases(by omega:r=0\/r=1\/r=2) with rfl |rfl |rfl
 all_goals exact⟨_,∅,()⟩
def IE:FM:=λO xs P _=>∃(j g:Nat),xs=[.bag j,.im (.int (g:Int))]/\1<=g/\g<=6/\∀(row:Γ3) (O':aX),↥row=g->(∀x∈row,0<=x/\x<=100)->(∃x∈row,1<=x)->cL O O'->P (.im (bi row)) O'
abbrev OP:Δ2:=["bag","goods","most","row","at"]
def UQ:MS:=(aU (bv (bA cG (kD (af (mC (.int 3)) (af (mC (.int 101)) (af (mC (.int 2)) (af (mC (.int 10)) (af (mC (.int 101)) ar)))))) (aC ga cE (af (ah 0) (af (mC (.int 5)) ar)))) (aY 2))
 (aU (bv (j7 1 [0,2] (nV (af (ah 1) ar)) (aY 0) d7 (aC ga cE (af (ah 1) (af (ah 2) ar)))) (aY 3))
 (aU (bv (aC ga cE (af (ah 0) (af (ah 1) ar))) (aY 4))
 (aU (bv (kw (qH λi j=>if j>i then j else i) (af (mC (.int 1)) (af (bA cG (ah 3) (ah 4)) ar))) (mgS (ah 3) (ah 4)))
 (Of 3 (cO (kw kC (af (ah 3) ar))))))))
def PM:∀O xs Pq QX,IE O xs Pq QX->UQ Pq⁻¹ (be OP xs) O:=by
 intro O xs Pq QX h;let⟨jb,g,rfl,g1,g6,h⟩:=h;apply⟨∅,⟨∅,∅⟩,λr r0 r1=>?_⟩;let⟨m,hm,em⟩:=Ww r0 r1;apply⟨_,em,?_⟩;apply⟨⟨⟨⋯,⋯⟩,ma (λ_ d=>∃a:Int,d=.im (.int a)/\0<=a/\a<=100) (by rw[yY];omega) (λj x Z hx hZ=>⟨⟨⋯,⋯⟩,λa a0 a1=>hZ _ ⟨a,(),⋯,⋯⟩⟩) (λzs zl zR=>?_)⟩⟩;let⟨ue,rfl,fM⟩:=CP zR;rw[yY,Zb,Zy] at zl;apply⟨⟨⟨⋯,⋯⟩,λt t0 t1=>?_⟩⟩;let tn:((t.toNat:Nat):Int)=t:=Xa t0;let tl:t.toNat<↥ue:=⋯;let ND:ur ↥(ue.map λx=>AV.im (PyData.int x)) t=↑t.toNat:=by
  have:=zE (n:=↥(ue.map λx=>AV.im (PyData.int x))) (i:=t.toNat) (by rw[Zb];exact tl)
  rwa [tn] at this
 let hv:=fM t.toNat tl;apply⟨⟨_,.im (.int (ue\t.toNat)),lR _ _,(by rw[<- tn];exact bB (ky (f:=λx:Int=>AV.im (PyData.int x)) (d:=0) tl)),_,_,lR _ _,ND,?_⟩⟩;rw[nk,sA];generalize hvv:((λi j:Int=>if j>i then j else i) 1 (ue\t.toNat))=v;let v1:1<=v/\v<=100:=by rw[<- hvv];dsimp only;split<;>omega
 generalize Sm:ue.set t.toNat v=row;apply⟨⟨↥O,row.map .int,(),by rw[lR,Zp];rfl,?_⟩⟩;rw[nk];apply h row _ (by rw[<- Sm,Yi];exact zl) (λx hx=>?_) ⟨v,by rw[<- Sm];exact List.mem_set tl _,v1.1⟩ ((cL.refl O).app none);rw[<- Sm] at hx;rcases List.mem_or_eq_of_mem_set hx with z |z
 .obtain⟨j,hj,rfl⟩:=Yf z;have:=fM j hj
  rwa [KM.ao (Zc hj)] at this
 .omega
def WK {A:Γ3}{Pu:Δ1}{W:Γ1}(g1:1<=↥A)(g6:↥A<=6)(am:∀a∈A,1<=a/\a<=60)(n1:1<=↥Pu)(n6:↥Pu<=6)(pu:∀z∈Pu,lx (qD z))(nl:↥W=↥Pu)(wr:∀r∈W,aJ ↥A r):cK (dJ A Pu W):=by
 apply KO (by rw[Zb];exact g1) (by rw[Zb];exact g6) ?_ (by rw[Zb];exact n1) (by rw[Zb];exact n6) ?_ (by rw[Zb,Zb];exact nl) ?_
 .rw[Y2];apply Yd.mpr λx hx=>?_
  have:=am x hx;show(decide (1<=x)&&decide (x<=60))=true;rw[aea this.1,aea this.2];rfl
 .rw[Y2];exact Yd.mpr λz hz=>pu z hz
 .rw[Y2];apply Yd.mpr λr hr=>?_
  let g:=wr r hr;show(decide (↥(r.map PyData.int)=↥(A.map PyData.int))&&(r.map PyData.int).all (within 0 100))=true;rw[Zb,Zb,aea g.len,Xk,Y2];apply Yd.mpr λx hx=>?_
  have:=g.bd x hx;show(decide (0<=x)&&decide (x<=100))=true;rw[aea this.1,aea this.2];rfl
def IN:FM:=λO xs P _=>∃j,xs=[.bag j]/\∀(A:Γ3) (Pu:Δ1) (W:Γ1) (O':aX),cK (dJ A Pu W)->(∀r∈W,∃k∈r,1<=k)->cL O O'->P (.im (dJ A Pu W)) O'
abbrev D4:Δ2:=["bag","goods","buyers","most","amounts","purses","wishes"]
def U1 (gm:Int):MS:=(aU (bv (bA hC (mC (.int 1)) (aC ga cE (af (ah 0) (af (bA cG (kD (af (mC (.int 3)) (af (mC (.int gm)) ar))) (aC ga cE (af (ah 0) (af (mC (.int 2)) ar)))) ar)))) (aY 1))
 (aU (bv (bA hC (mC (.int 1)) (aC ga cE (af (ah 0) (af (bA cG (kD (af (mC (.int 3)) (af (mC (.int 6)) ar))) (aC ga cE (af (ah 0) (af (mC (.int 2)) ar)))) ar)))) (aY 2))
 (aU (bv (bA cG (kD (af (mC (.int 1)) (af (mC (.int 9)) (af (mC (.int 60)) ar)))) (aC ga cE (af (ah 0) (af (mC (.int 3)) ar)))) (aY 3))
 (aU (bv (kw kC (af (cH 1 [0,3] (nV (af (ah 1) ar)) (aY 0) d7 (bA hC (mC (.int 1)) (aC ga cE (af (ah 1) (af (ah 2) ar))))) ar)) (aY 4))
 (aU (bv (kw kC (af (cH 1 [0] (nV (af (ah 2) ar)) (aY 0) d7 (aC Vr cE (af (ah 1) ar))) ar)) (aY 5))
 (aU (bv (kw kC (af (cH 1 [0,1] (nV (af (ah 2) ar)) (aY 0) d7 (aC IE cE (af (ah 1) (af (ah 2) ar)))) ar)) (aY 6))
 (cO (iQ (af (ah 4) (af (ah 5) (af (ah 6) ar)))))))))))
def AE {s m:Int}(h0:0<=s)(h1:s<m)(hm:m<=6):∃g:Nat,1+s=(g:Int)/\1<=g/\g<=6:=⟨(1+s).toNat,⋯,⋯,⋯⟩
def PZ {gm:Int}(hg:3<=gm/\gm<=6):∀O xs Pq QX,IN O xs Pq QX->U1 gm Pq⁻¹ (be D4 xs) O:=by
 intro O xs Pq QX h;let⟨jb,rfl,h⟩:=h;apply⟨lG,⟨∅,∅⟩,λr r0 r1=>?_⟩;let⟨m,hm,em⟩:=ER hg r0 r1;apply⟨_,em,⟨⋯,⋯⟩,λs s0 s1=>?_⟩;let⟨g,eg,g1,g6⟩:=AE s0 s1 hm.2;show Go _ _ [↑(.bag jb),Φ9 (.int (1+s)),none,none,none,none,none] O;rw[eg];apply⟨⟨lG,⟨∅,∅⟩,λr r0 r1=>?_⟩⟩;let⟨m',Sv,em'⟩:=ER (c:=6) ∅ r0 r1;apply⟨_,em',⟨⋯,⋯⟩,λs s0 s1=>?_⟩;let⟨n,en',n1,n6⟩:=AE s0 s1 Sv.2;show Go _ _ [↑(.bag jb),Φ9 (.int (g:Int)),Φ9 (.int (1+s)),none,none,none,none] O;rw[en'];apply⟨⟨DT,⟨∅,∅⟩,λr r0 r1=>?_⟩⟩;let⟨q,hq,eq⟩:=Wx r0 r1;apply⟨_,eq,⟨⟨⟨⋯,⋯⟩,o6 (λ_ d=>∃a:Int,d=.int a/\1<=a/\a<=60) (by rw[yY];omega) (λj x Z hx hZ=>⟨⟨⋯,⋯⟩,λa a0 a1=>hZ _ ⟨1+a,(),⋯,⋯⟩⟩) (λds dl dR=>?_)⟩⟩⟩;let⟨A,rfl,hA⟩:=G9 dR;rw[yY,Zb,Zy] at dl;apply⟨⟨⟨⋯,⋯⟩,o6 (λ_ d=>∃z:Rat,d=qD z/\lx (qD z)) (by rw[yY];omega) (λj x Z hx hZ=>⟨jb,(),λz hz=>hZ _ ⟨z,(),hz⟩⟩) (λds pl pR=>?_)⟩⟩;let⟨Pu,rfl,SE⟩:=G8 pR;rw[yY,Zb,Zy] at pl;apply⟨⟨⟨⋯,⋯⟩,by rw[yY];omega,λi ds O'=>cL O O'/\∃W:Γ1,ds=W.map bi/\↥W=i/\∀r∈W,aJ g r,⟨cL.refl O,[],(),(),λr hr=>(by cases hr)⟩,?_,?_⟩⟩
 .rintro i x ds O' hx ⟨gr,W,rfl,hl,hW⟩;apply⟨λ_=>⟨jb,g,(),g1,g6,λrow O2 rl r0 rp gr2=>?_⟩,λz=>(by cases z)⟩;apply⟨?_,W++[row],by rw[Zs];rfl,by rw[Zv,hl];rfl,λr hr=>?_⟩
  .obtain⟨a,rfl⟩:=gr;let⟨b,rfl⟩:=gr2;exact⟨a++b,by rw[Yp]⟩
  .rcases Zz.mp hr with hr |hr
   .exact hW r hr
   .rw[Z3.mp hr];exact⟨rl,r0,rp⟩
 .rintro ds O' ⟨gr,W,rfl,hl,hW⟩;rw[yY,Zy] at hl;apply⟨⟨DT,h A Pu W O' (WK ⋯ ⋯ (λa ha=>?_) ⋯ ⋯ (λz hz=>?_) ⋯ λr hr=>by rw[dl];exact hW r hr) (λr hr=>(hW r hr).pos) gr⟩⟩
  .obtain⟨j,hj,rfl⟩:=Yf ha;have:=hA j hj
   rwa [KM.ao (Zc hj)] at this
  .obtain⟨j,hj,rfl⟩:=Yf hz;have:=SE j hj
   rwa [KM.ao (Zc hj)] at this
end MI
namespace Bq
open L2 KG EX KM MI
section
variable {P:Program}{w:World}{K:Θ1}{mg:Θ3}{base:Heap}
def zj:ak OP ["bag","goods"] (bD (top 85)):=L2.di
def QP {f fT  : Addr}{fd dT:FuncData}(F:cU K "_law_wishes" "_law_wishes" (top 85) f fd)(N:Nm mg)(T:bP K mg P w base "_law_take" 1 ["bag","many"] lK fT dT):aF P w K mg base bX 2 f fd ["bag","goods"] (cF K IE) :=
 jQ F zj (λO xs P PX h=>by let⟨_,_,rfl,_⟩:=h;rfl) (λbG A outer s H E QX hr=>⟨UQ,(cS (ii (i:=2) zj.nd rfl (Or.inr rfl) (cM (Bk (aB ck (aB ck (aB ck (aB ck (aB ck aR)))))) (dj T C7 hr (aB (mv 0) (aB ck aR)))))
 (cS (oW (i:=3) zj.nd rfl rfl (own:=["k"]) (cap:=["bag","most"]) (ix:=[0,2]) (aH.of (bD (top 85)).names OP) rfl (Hl rfl N.range (aB (mv 1) aR)) (pM ∅)
 (λC fp s H=>⟨(d5 (i:=0) (Ψ9 ["k","bag","most"])),pK,(dj T C7 hr (aB (mv 1) (aB (mv 2) aR)))⟩))
 (cS (gz (i:=4) zj.nd (dj T C7 hr (aB (mv 0) (aB (mv 1) aR))))
 (cS (oD (yZ (CV rfl) KA (by rfl) N.max boot_max (aB ck (aB (cM (mv 3) (mv 4)) aR))) (Rn (mv 3) (mv 4)))
 (E1 3 (d9 (iJ (zb fv eS (by rfl) N.tuple pL (aB (mv 3) aR))))))))),λO xs Pq h=>PM O xs Pq QX h⟩)
def og:ak D4 ["bag"] (bD (top 86)):=L2.di
def QV {f fT fPu fWh  : Addr}{fd dT dPu dWh:FuncData}(F:cU K "_law_market" "_law_market" (top 86) f fd)(N:Nm mg)(T:bP K mg P w base "_law_take" 1 ["bag","many"] lK fT dT)(Pu:bP K mg P w base "_law_purse" 2 ["bag"] N2 fPu dPu)(Wh:bP K mg P w base "_law_wishes" 2 ["bag","goods"] (cF K IE) fWh dWh):aF P w K mg base bX 3 f fd ["bag"] (cF K IN) :=
 jQ F og (λO xs P PX h=>by let⟨_,rfl,_⟩:=h;rfl) (λbG A outer s H E QX hr=>⟨U1 _,(cS (ii (i:=1) og.nd rfl (Or.inr rfl) (wG ck (dj T C7 hr (aB (mv 0) (aB (cM (Bk (aB ck (aB ck aR))) (dj T C7 hr (aB (mv 0) (aB ck aR)))) aR)))))
 (cS (gz (i:=2) og.nd (wG ck (dj T C7 hr (aB (mv 0) (aB (cM (Bk (aB ck (aB ck aR))) (dj T C7 hr (aB (mv 0) (aB ck aR)))) aR)))))
 (cS (ii (i:=3) og.nd rfl (Or.inr rfl) (cM (Bk (aB ck (aB ck (aB ck aR)))) (dj T C7 hr (aB (mv 0) (aB ck aR)))))
 (cS (gz (i:=4) og.nd (zb fv eS (by rfl) N.tuple pL (aB (pV (own:=["k"]) (cap:=["bag","most"]) (ix:=[0,3]) (aH.of (bD (top 86)).names D4) rfl (Hl rfl N.range (aB (mv 1) aR)) (pM ∅)
 (λC fp s H=>⟨(d5 (i:=0) (Ψ9 ["k","bag","most"])),pK,(wG ck (dj T C7 hr (aB (mv 1) (aB (mv 2) aR))))⟩)) aR)))
 (cS (gz (i:=5) og.nd (zb fv eS (by rfl) N.tuple pL (aB (pV (own:=["k"]) (cap:=["bag"]) (ix:=[0]) (aH.of (bD (top 86)).names D4) rfl (Hl rfl N.range (aB (mv 2) aR)) (pM ∅)
 (λC fp s H=>⟨(d5 (i:=0) (Ψ9 ["k","bag"])),pK,(dj Pu Rv hr (aB (mv 1) aR))⟩)) aR)))
 (cS (gz (i:=6) og.nd (zb fv eS (by rfl) N.tuple pL (aB (pV (own:=["k"]) (cap:=["bag","goods"]) (ix:=[0,1]) (aH.of (bD (top 86)).names D4) rfl (Hl rfl N.range (aB (mv 2) aR)) (pM ∅)
 (λC fp s H=>⟨(d5 (i:=0) (Ψ9 ["k","bag","goods"])),pK,(dj Wh gv hr (aB (mv 1) (aB (mv 2) aR)))⟩)) aR)))
 (d9 (iJ (wE (aB (mv 4) (aB (mv 5) (aB (mv 6) aR)))))))))))),λO xs Pq h=>PZ ∅ O xs Pq QX h⟩)
end
end Bq
namespace RT
open L2 KG EX KM RZ SP MI
structure cY (A:Γ3)(Pu:Δ1)(W:Γ1)(qs:Δ1):Prop where
 mf:DI A Pu W
 len:↥qs=↥A
 gW:HB W qs
 good:∀i,i<↥W->∃o,o<↥A/\0<(W∩i)\o
section
def wi (W:Γ1)(i g:Nat):Int:=(W∩i)\g
def rt (W:Γ1)(qs:Δ1)(i g:Nat):Rat:=bS (W∩i) qs g
structure Top (A:Γ3)(W:Γ1)(qs:Δ1)(i:Nat)(r:Rat):Prop where
 ex:∃g,g<↥A/\0<wi W i g/\rt W qs i g=r
 le:∀o,o<↥A->0<wi W i o->rt W qs i o<=r
def cY.q0 (m:cY A Pu W qs)(hi:i<↥W)(hg:g<↥A)(h:0<wi W i g):0<qs\g:=m.gW.pos g (by rw[m.len];exact hg) (i0 hi h)
def cY.r0 (m:cY A Pu W qs)(hi:i<↥W)(hg:g<↥A)(h:0<wi W i g):0<rt W qs i g:=by
 unfold rt bS;exact KM.div_pos (Y0.mpr h) (m.q0 hi hg h)
def u7 {a b p q:Rat}(hp:0<p)(hq:0<q):a*q<=b*p↔a / p<=b / q:=by
 let pn:p≠0:=λz=>by rw[z] at hp;exact afa hp ∅
 let qn:q≠0:=λz=>by rw[z] at hq;exact afa hq ∅
 constructor
 .exact λh=>RZ.div_le_div hp hq h
 .intro h;let h1:=Xs h (Zt (Xj hp hq));let e1:a / p*(p*q)=a*q:=by grind
  let e2:b / q*(p*q)=b*p:=by grind
  rw[e1,e2] at h1;exact h1
def cY.best (m:cY A Pu W qs){i g:Nat}(hi:i<↥W):g∈aV (W∩i) qs↔g<↥A/\0<wi W i g/\∀o,o<↥A->0<wi W i o->rt W qs i o<=rt W qs i g:=by
 let rl:=m.mf.wr i hi;rw[o8,rl];constructor
 .rintro⟨h1,h2,h3⟩;let h0:0<wi W i g:=by
   have:=(m.mf.w0 i g hi h1).1;let e:(W∩i)\g=eI W i g:=rfl;unfold wi;omega
  exact⟨h1,h0,λo ho hw=>(u7 (m.q0 hi ho hw) (m.q0 hi h1 h0)).mp (h3 o ho hw)⟩
 .rintro⟨h1,h2,h3⟩;exact⟨h1,by unfold wi at h2;omega,λo ho hw=>(u7 (m.q0 hi ho hw) (m.q0 hi h1 h2)).mpr (h3 o ho hw)⟩
def cY.top (m:cY A Pu W qs)(hi:i<↥W):∃r,Top A W qs i r:=by
 let⟨o,ho,hw⟩:=m.good i hi;let⟨r,h1,h2⟩:=sN (l:=((~~~↥A).filter λg=>decide (0<wi W i g)).map (rt W qs i)) (λz=>by
  have:o∈(~~~↥A).filter λg=>decide (0<wi W i g):=Ze.mpr ⟨Zh.mpr ho,aea hw⟩
  rw[Xt.mp z] at this;cases this)
 let⟨g,hg,e⟩:=Zd.mp h1;let⟨a,b⟩:=Ze.mp hg;exact⟨r,⟨g,Zh.mp a,aia b,e⟩,λo ho hw=>h2 _ (Zd.mpr ⟨o,Ze.mpr ⟨Zh.mpr ho,aea hw⟩,()⟩)⟩
def Top.best (t:Top A W qs i r)(m:cY A Pu W qs)(hi:i<↥W):g∈aV (W∩i) qs↔g<↥A/\0<wi W i g/\rt W qs i g=r:=by
 rw[m.best hi];constructor
 .rintro⟨h1,h2,h3⟩;let⟨b,b1,b2,b3⟩:=t.ex;exact⟨h1,h2,Qk (t.le g h1 h2) (by rw[<- b3];exact h3 b b1 b2)⟩
 .rintro⟨h1,h2,h3⟩;exact⟨h1,h2,λo ho hw=>by rw[h3];exact t.le o ho hw⟩
def Top.pos (t:Top A W qs i r)(m:cY A Pu W qs)(hi:i<↥W):0<r:=by
 let⟨b,b1,b2,b3⟩:=t.ex;rw[<- b3];exact m.r0 hi b1 b2
def tk (W:Γ1)(qs:Δ1)(i:Nat)(S:Γ3):Bool:=b9 (ap S) ((aw W qs)∩i)
def lB (hi:i<↥W)(hS:∀x∈S,0<=x):tk W qs i S↔∃g,((g:Nat):Int)∈S/\g∈aV (W∩i) qs:=by
 unfold tk;rw[jB,za hi];constructor
 .rintro⟨x,hx,h⟩;let⟨y,hy,rfl⟩:=Zd.mp hx
  grind
 .rintro⟨g,h1,h2⟩;exact⟨g,Zd.mpr ⟨_,h1,⋯⟩,Zd.mpr ⟨g,h2,()⟩⟩
def Lr (hg:g<↥qs):(dv qs Pd f)\g=if (g:Int)∈Pd then qs\g else qs\g*f:=by
 unfold dv;rw[jY (a:=0) (by rw[Ys];exact hg),show(~~~↥qs)\g=g by simp[List.getD,Yt hg]];simp
def iw:↥(dv qs Pd f)=↥qs:=by unfold dv;simp
def cY.raised (m:cY A Pu W qs)(hf:0<f):cY A Pu W (dv qs Pd f):=by
 apply⟨m.mf,iw.trans m.len,⟨λj hj hh=>?_,λj hj hh=>?_⟩,m.good⟩
 .rw[iw] at hj;rw[Lr hj];have:=m.gW.pos j hj hh;split
  .exact this
  .exact Xj this hf
 .rw[iw] at hj;rw[Lr hj,m.gW.nil j hj hh];split
  .rfl
  .exact Xm _
def HE (hg:g<↥qs):rt W (dv qs Pd f) i g=if (g:Int)∈Pd then rt W qs i g else rt W qs i g / f:=by
 unfold rt bS;rw[Lr hg];split
 .rfl
 .rw[X8,X8,X8,Rat.inv_mul_rev]
  grind
def vN {a b f:Rat}(hf:0<f)(h:a<=b):a / f<=b / f:=by
 rw[X8,X8];exact Xs h (Zt (Rat.inv_pos.mpr hf))
def vO {a f:Rat}(hf:1<f)(ha:0<a):a / f<a:=by
 let f0:0<f:=by grind
 let fn:f≠0:=λz=>by rw[z] at f0;exact afa f0 ∅
 let h1:a / f*f=a:=by grind
 let h2:0<a / f:=KM.div_pos ha f0;let h3:a / f*1<a / f*f:=Rat.mul_lt_mul_of_pos_left hf h2
 grind
def mh (m:cY A Pu W qs){Pd:Γ3}(p0:∀x∈Pd,0<=x)(hf:1<f)(hi:i<↥W)(ht:tk W qs i Pd)(g:Nat) :
  g∈aV (W∩i) (dv qs Pd f)↔g∈aV (W∩i) qs/\(g:Int)∈Pd:=by
 let f0:0<f:=by grind
 let m':=m.raised (Pd:=Pd) f0;let⟨r,t⟩:=m.top hi;let r0:=t.pos m hi;let⟨h,hp,hb⟩:=(lB hi p0).mp ht;let⟨h1,h2,h3⟩:=(t.best m hi).mp hb;let le:∀o,o<↥A->0<wi W i o->rt W (dv qs Pd f) i o<=r:=λo ho hw=>by
  rw[HE (by rw[m.len];exact ho)];have:=t.le o ho hw;split
  .exact this
  .exact Yy (Zt (vO hf (m.r0 hi ho hw))) this
 let t':Top A W (dv qs Pd f) i r:=⟨⟨h,h1,h2,by rw[HE (by rw[m.len];exact h1),aha hp,h3]⟩,le⟩;rw[t'.best m' hi,t.best m hi];constructor
 .rintro⟨a,b,c⟩;rw[HE (by rw[m.len];exact a)] at c;split at c
  .exact⟨⟨a,b,c⟩,by assumption⟩
  .exfalso;let h5:=t.le g a b;let h6:=vO hf (m.r0 hi a b)
   grind
 .rintro⟨⟨a,b,c⟩,d⟩;exact⟨a,b,by rw[HE (by rw[m.len];exact a),aha d,c]⟩
def Meets (A:Γ3)(W:Γ1)(qs:Δ1)(Pd:Γ3)(f:Rat):Prop:=∀i,i<↥W->tk W qs i Pd=false->∀b o,b∈aV (W∩i) qs->o<↥A->(o:Int)∈Pd->0<wi W i o->f<=rt W qs i b / rt W qs i o
def Si (m:cY A Pu W qs){Pd:Γ3}(p0:∀x∈Pd,0<=x)(hf:1<f)(me:Meets A W qs Pd f)(hi:i<↥W)(ht:tk W qs i Pd=false)(g:Nat) :
  g∈aV (W∩i) (dv qs Pd f)↔g∈aV (W∩i) qs\/((g:Int)∈Pd/\g<↥A/\0<wi W i g/\∃b,b∈aV (W∩i) qs/\f=rt W qs i b / rt W qs i g):=by
 let f0:0<f:=by grind
 let fn:f≠0:=λz=>by rw[z] at f0;exact afa f0 ∅
 let m':=m.raised (Pd:=Pd) f0;let⟨r,t⟩:=m.top hi;let⟨b,b1,b2,b3⟩:=t.ex;let hb:=(t.best m hi).mpr ⟨b1,b2,b3⟩;let out:∀g,g∈aV (W∩i) qs->(g:Int)∉Pd:=λg hg hp=>by
  have:=(lB hi p0).mpr ⟨g,hp,hg⟩;rw[ht] at this;cases this
 let le:∀o,o<↥A->0<wi W i o->rt W (dv qs Pd f) i o<=r / f:=λo ho hw=>by
  rw[HE (by rw[m.len];exact ho)];split
  .rename_i hp;let h1:=me i hi ht b o hb ho hp hw;rw[b3] at h1;let ro:=m.r0 hi ho hw;let h2:f*rt W qs i o<=r:=by
    have:=Xs h1 (Zt ro)
    rwa [HF ro] at this
   let h3:=vN f0 h2;let e:f*rt W qs i o / f=rt W qs i o:=by grind
   rwa [e] at h3
  .exact vN f0 (t.le o ho hw)
 let t':Top A W (dv qs Pd f) i (r / f):=⟨⟨b,b1,b2,by rw[HE (by rw[m.len];exact b1),aga (out b hb),b3]⟩,le⟩;rw[t'.best m' hi,t.best m hi];constructor
 .rintro⟨a,c,d⟩;rw[HE (by rw[m.len];exact a)] at d;split at d
  .rename_i hp;apply .inr ⟨hp,a,c,b,hb,?_⟩;let ro:=m.r0 hi a c;let rn:rt W qs i g≠0:=λz=>by rw[z] at ro;exact afa ro ∅
   rw[b3]
   grind
  .left
   apply⟨a,c,?_⟩;let e1:rt W qs i g / f*f=rt W qs i g:=by grind
   let e2:r / f*f=r:=by grind
   rw[<- e1,d,e2]
 .rintro(⟨a,c,d⟩ |⟨hp,a,c,b',qy,e⟩)
  .apply⟨a,c,?_⟩;rw[HE (by rw[m.len];exact a),aga (out g ((t.best m hi).mpr ⟨a,c,d⟩)),d]
  .apply⟨a,c,?_⟩;let⟨_,_,b3'⟩:=(t.best m hi).mp qy;let ro:=m.r0 hi a c;let rn:rt W qs i g≠0:=λz=>by rw[z] at ro;exact afa ro ∅
   rw[HE (by rw[m.len];exact a),aha hp];rw[b3'] at e
   grind
end
section
variable {A:Γ3}
def Dy (x:Int)(S:Γ3):dM A qs (ap (x::S))=(gx A qs)\x.toNat+dM A qs (ap S):=by
 unfold dM ap;rw[Zm,Zm,pX]
def kz (Pd S:Γ3):Γ3:=S.filter λx=>Pd.contains x
def bY (Pd S:Γ3):Γ3:=S.filter λx=>!Pd.contains x
theorem Nq:∀{S:Γ3},(∀x∈S,0<=x/\x.toNat<↥qs)->dM A (dv qs Pd f) (ap S)=dM A qs (ap (kz Pd S))+f*dM A qs (ap (bY Pd S))
 |[],_=>by show(0:Rat)=0+f*0;grind
 |x::S,h=>by
  let ih:=Nq (Pd:=Pd) (f:=f) (S:=S) (λy hy=>h y (Zi _ hy));let⟨h0,h1⟩:=h x (.head _);let e:((x.toNat:Nat):Int)=x:=⋯;unfold kz bY at ih ⊢;rw[Dy,ih,Dc (by rw[iw];exact h1),Lr h1,e,Je,Je];by_cases hp:x∈Pd
  .rw[aha hp,aha ‹hp›,aga ‹hp›,Dy,Dc h1];grind
  .rw[aga hp,aga ‹hp›,aha ‹hp›,Dy,Dc h1];grind
def Ac (hi:i<↥W)(hT:∀x∈T,0<=x)(h:∀x∈S,x∈T)(ht:tk W qs i S):tk W qs i T:=by
 let⟨g,h1,h2⟩:=(lB hi λx hx=>hT x (h x hx)).mp ht;exact(lB hi hT).mpr ⟨g,h _ h1,h2⟩
def qQ (m:cY A Pu W qs)(p0:∀x∈Pd,0<=x)(hf:1<f)(me:Meets A W qs Pd f)(hi:i<↥W)(hS:∀x∈S,0<=x)
  (h:tk W qs i (kz Pd S)\/(tk W qs i (bY Pd S)/\tk W qs i Pd=false)):tk W (dv qs Pd f) i S:=by
 rw[lB hi hS];rcases h with h |⟨h,hl⟩
 .obtain⟨g,h1,h2⟩:=(lB hi λx hx=>hS x (Ze.mp hx).1).mp h;let⟨h3,h4⟩:=Ze.mp h1;let h5:(g:Int)∈Pd:=by simpa using h4
  exact⟨g,h3,(mh m p0 hf hi ((lB hi p0).mpr ⟨g,h5,h2⟩) g).mpr ⟨h2,h5⟩⟩
 .obtain⟨g,h1,h2⟩:=(lB hi λx hx=>hS x (Ze.mp hx).1).mp h;exact⟨g,(Ze.mp h1).1,(Si m p0 hf me hi hl g).mpr (.inl h2)⟩
def cY.p0 (m:cY A Pu W qs)(i:Nat)(hi:i<↥W):0<Pu\i:=by
 let hl:i<↥Pu:=by rw[<- m.mf.wl];exact hi
 rw[RZ.ao (Zc hl)];exact(m.mf.pu _ (Zw _)).1
def rO {S:Γ3}(m:cY A Pu W qs)(hS:S.Sublist (ai ↥A W)):∀x∈S,0<=x/\x.toNat<↥qs:=λx hx=>by
 let⟨h0,h1,_⟩:=pW (hS.subset hx);exact⟨h0,by rw[m.len];exact h1⟩
def lq (m:cY A Pu W qs){Pd:Γ3}(hP:Pd.Sublist (ai ↥A W))(hf:1<f)(me:Meets A W qs Pd f)(hS:S.Sublist (ai ↥A W)) :
  aD A Pu (dv qs Pd f) W (ap S)<=aD A Pu qs W (ap (kz Pd S))+(f*dM A qs (ap (bY Pd S))-bh Pu (loose W qs Pd (bY Pd S))):=by
 let s0:=λx hx=>(rO m hS x hx).1
 let p0:=λx hx=>(rO m hP x hx).1
 unfold aD;rw[Nq (rO m hS)];let h:bh Pu (eA W qs (ap (kz Pd S)))+bh Pu (loose W qs Pd (bY Pd S))<=bh Pu (eA W (dv qs Pd f) (ap S)):=by
  rw[qt,qt,nG];let e:wsum (~~~↥W) (λi=>Pu\i) (λi=>tk W qs i (bY Pd S)&&!tk W qs i Pd)=wsum (~~~↥W) (λi=>Pu\i) (λi=>(tk W qs i (bY Pd S)&&!tk W qs i Pd)&&!tk W qs i (kz Pd S)):=Dd λi hi=>by
   let hi:=Zh.mp hi;cases h1:tk W qs i (kz Pd S) with
   |false=>simp
   |true =>
    rw[Ac hi p0 (λx hx=>by simpa using(Ze.mp hx).2) h1];simp
  show wsum (~~~↥W) (λi=>Pu\i) (λi=>tk W qs i (kz Pd S))+wsum (~~~↥W) (λi=>Pu\i) (λi=>tk W qs i (bY Pd S)&&!tk W qs i Pd)<=wsum (~~~↥W) (λi=>Pu\i) (λi=>tk W (dv qs Pd f) i S);rw[e,<- Sj];apply jn (λi hi=>Zt (m.p0 i (Zh.mp hi))) λi hi h=>?_
  let hi:=Zh.mp hi;apply qQ m p0 hf me hi s0 ?_
  grind
 grind
structure Bt (A:Γ3)(Pu:Δ1)(W:Γ1)(qs:Δ1)(Pd:Γ3)(f:Rat):Prop where
 gt:1<f
 me:Meets A W qs Pd f
 cz:∀S:Γ3,S.Sublist (aM ↥A W Pd)->S≠[]->f*dM A qs (ap S)<=bh Pu (loose W qs Pd S)
 ev:(∃S:Γ3,S.Sublist (aM ↥A W Pd)/\S≠[]/\f*dM A qs (ap S)=bh Pu (loose W qs Pd S)) \/
  (∃i o b,i<↥W/\tk W qs i Pd=false/\b∈aV (W∩i) qs/\o<↥A/\(o:Int)∈Pd/\0<wi W i o/\f=rt W qs i b / rt W qs i o)
def oT (hS:S.Sublist (ai ↥A W)):(bY Pd S).Sublist (aM ↥A W Pd):=hS.filter _
def AW (hS:S.Sublist (ai ↥A W)):(kz Pd S).Sublist (ai ↥A W):=Zu.trans hS
def Bt.off (F:Bt A Pu W qs Pd f)(hS:S.Sublist (ai ↥A W)):f*dM A qs (ap (bY Pd S))-bh Pu (loose W qs Pd (bY Pd S))<=0:=by
 by_cases e:bY Pd S=[]
 .rw[e,nG];have:wsum (~~~↥W) (λi=>Pu\i) (λi=>b9 (ap []) ((aw W qs)∩i)&&!b9 (ap Pd) ((aw W qs)∩i))=0:=jy λi _=>by
   rw[Nl];rfl
  rw[this];show f*0-0<=0
  grind
 .have:=F.cz _ (oT hS) e
  grind
def θ (m:cY A Pu W qs)(cz:gA A Pu qs W ↥A)(hP:Pd.Sublist (ai ↥A W))(F:Bt A Pu W qs Pd f):gA A Pu (dv qs Pd f) W ↥A:=λS hS=>by
 let h1:=lq m hP F.gt F.me hS;let h2:=cz _ (AW (Pd:=Pd) hS);let h3:=F.off (S:=S) hS
 grind
def tW (m:cY A Pu W qs)(cz:gA A Pu qs W ↥A){Pd:Γ3}(pd:cb A Pu qs W ↥A Pd)(F:Bt A Pu W qs Pd f)(no:¬ ∃S:Γ3,S.Sublist (aM ↥A W Pd)/\S≠[]/\f*dM A qs (ap S)=bh Pu (loose W qs Pd S))(q:cb A Pu (dv qs Pd f) W ↥A Q):↥Q<↥Pd:=by
 let hP:=pd.sub;let p0:=λx hx=>(rO m hP x hx).1
 let sub:∀x∈Q,x∈Pd:=λx hx=>by
  let h1:=lq m hP F.gt F.me q.sub;rw[q.zero] at h1;let h2:=cz _ (AW (Pd:=Pd) q.sub);by_cases e:bY Pd Q=[]
  .by_cases hp:x∈Pd
   .exact hp
   .have:x∈bY Pd Q:=Ze.mpr ⟨hx,by simpa using hp⟩
    grind
  .let h3:=F.cz _ (oT (Pd:=Pd) q.sub) e;let h4:f*dM A qs (ap (bY Pd Q))≠bh Pu (loose W qs Pd (bY Pd Q)):=λz=>no ⟨_,oT q.sub,e,z⟩
   grind
 let ndQ:=(Df ↥A W).sublist q.sub;let γ:=(Df ↥A W).sublist hP;let le:=sG ndQ sub;rcases Nat.lt_or_eq_of_le le with h |h
 .exact h
 exfalso;let eq:Q=Pd:=by
  apply Tj ((Lp _ _).sublist q.sub) ((Lp _ _).sublist hP) λx=>⟨sub x,λhx=>?_⟩
  by_cases hq:x∈Q
  .exact hq
  .have:↥(x::Q)<=↥Pd:=sG (Yc.mpr ⟨hq,ndQ⟩) λy hy=>by
    grind
   grind
 subst eq;rcases F.ev with h |⟨i,o,b,hi,hl,hb,ho,YD,hw,e⟩
 .exact no h
 let bo:o∈aV (W∩i) (dv qs Q f):=(Si m p0 F.gt F.me hi hl o).mpr (.inr ⟨YD,ho,hw,b,hb,e⟩);let ti:tk W (dv qs Q f) i Q:=(lB hi p0).mpr ⟨o,YD,bo⟩;let zq:=q.zero;let zp:=pd.zero;unfold aD at zq zp;rw[Nq (rO m hP)] at zq;let e1:kz Q Q=Q:=X1.mpr λx hx=>by simpa using hx
 let e2:bY Q Q=[]:=Xq.mpr λx hx=>by simpa using hx
 let e3:dM A qs (ap [])=0:=rfl;rw[e1,e2,e3] at zq;let lt:bh Pu (eA W qs (ap Q))<bh Pu (eA W (dv qs Q f) (ap Q)):=by
  rw[qt,qt];let e4:wsum (~~~↥W) (λi=>Pu\i) (λi=>tk W (dv qs Q f) i Q)=wsum (~~~↥W) (λi=>Pu\i) (λi=>tk W (dv qs Q f) i Q||tk W qs i Q):=Dd λj hj=>by
   let hj:=Zh.mp hj;cases h1:tk W qs j Q with
   |false=>simp
   |true=>rw[qQ m p0 F.gt F.me hj p0 (.inl (by rw[e1];exact h1))];rfl
  show wsum (~~~↥W) (λi=>Pu\i) (λi=>tk W qs i Q)<wsum (~~~↥W) (λi=>Pu\i) (λi=>tk W (dv qs Q f) i Q);rw[e4,Sj];have:0<wsum (~~~↥W) (λi=>Pu\i) (λi=>tk W (dv qs Q f) i Q&&!tk W qs i Q):=by
   unfold wsum;apply FC (λz=>?_) λq hq=>?_
   .simp_all
   .obtain⟨j,hj,rfl⟩:=Zd.mp hq;exact m.p0 j (Zh.mp (Ze.mp hj).1)
  grind
 grind
end
section
variable {A:Γ3}{Pu qs:Δ1}
def mi:aD A Pu qs W (ap [])=0:=by
 unfold aD;rw[qt,jy λi _=>by rw[Nl];rfl];show(0:Rat)-0=0
 grind
def nC (hp:∀z∈Pu,0<=z)(cz:gA A Pu qs W ↥A):∃Pd,cb A Pu qs W ↥A Pd:=by
 let⟨row,hr,h0,hm⟩:=AJ (rs:=(aT (ai ↥A W)).map λS=>(if aD A Pu qs W (ap S)=0 then (0:Int) else 1,S)) ⟨_,Zd.mpr ⟨[],cm.mpr (List.nil_sublist _),()⟩,aha mi⟩;let⟨R,hR,rfl⟩:=Zd.mp hr;let hz:aD A Pu qs W (ap R)=0:=by
  by_cases e:aD A Pu qs W (ap R)=0
  .exact e
  .let h0:(if aD A Pu qs W (ap R)=0 then (0:Int) else 1)=0:=h0;rw[aga e] at h0;cases h0
 let hR:=cm.mp hR;apply⟨R,hR,hz,λT hT zT=>?_⟩;apply vA (Df ↥A W) (mQ (am:=A) (ps:=Pu) (qs:=qs) (M:=W) (g:=↥A) hp) hR (λS hS=>by rw[hz];exact cz S hS) (λS hS e=>?_) hT (by rw[hz];exact zT);exact hm _ (Zd.mpr ⟨S,cm.mpr hS,()⟩) (aha (by rw[hz] at e;exact e))
def GD {ns S:Γ3}(hS:S.Sublist ns)(bF:S≠[]):S∈(aT ns).drop 1:=by
 let h:=cm.mpr hS;rw[lX ns] at h;rcases Zj.mp h with h |h
 .exact afa h bF
 .exact h
def cY.of (rp:cW A Pu W qs)(good:∀r∈W,aJ ↥A r):cY A Pu W qs:=by
 let mf:=qu rp.pr.ok;apply⟨mf,rp.pr.len,rp.pr.gW,λi hi=>?_⟩;let⟨h1,h2,k,hk,h3⟩:=good _ (ly (d:=[]) hi);let⟨o,ho,rfl⟩:=Yf hk;exact⟨o,by rw[<- h1];exact ho,by rw[RZ.ao (Zc ho)];omega⟩
def Bt.of (rp:cW A Pu W qs)(m:cY A Pu W qs)(cz:gA A Pu qs W ↥A){Pd:Γ3}(pd:cb A Pu qs W ↥A Pd){f:Rat}(hf:jW (iI A Pu qs W ↥A Pd) f):Bt A Pu W qs Pd f:=by
 let hR:(aM ↥A W Pd).Sublist (ai ↥A W):=Zu;let NL:(aM ↥A W Pd).Nodup:=(Df ↥A W).sublist hR;let p0:=λx hx=>(rO m pd.sub x hx).1
 let UM:∀i,i<↥W->(((aw W qs)∩i)\0).toNat∈aV (W∩i) qs/\((aw W qs)∩i).isEmpty=false:=λi hi=>by
  let⟨r,t⟩:=m.top hi;let⟨g,h1,h2,h3⟩:=t.ex;let hg:=(t.best m hi).mpr ⟨h1,h2,h3⟩;rw[za hi];cases e:aV (W∩i) qs with
  |nil=>rw[e] at hg;cases hg
  |cons a l=>exact⟨by simp,()⟩
 let lo:∀i,i<↥W->((eA W qs (ap Pd)).contains i=tk W qs i Pd):=λi hi=>Th hi
 apply⟨K1 rp cz pd f hf.1,λi hi ht b o hb ho YD hw=>?_,λS hS bF=>?_,?_⟩
 .obtain⟨hm,he⟩:=UM i hi;let⟨r,t⟩:=m.top hi;rw[((t.best m hi).mp hb).2.2,<- ((t.best m hi).mp hm).2.2];apply hf.2 _ (Zz.mpr (.inr (Jd.mpr ⟨i,Zh.mpr hi,?_⟩)));rw[lo i hi,ht,he];show _∈lE _ _ _ _;apply Zd.mpr ⟨(o:Int),Ze.mpr ⟨YD,aea hw⟩,()⟩
 .let h1:=hf.2 _ (Zz.mpr (.inl (Zd.mpr ⟨S,GD hS bF,()⟩)));let h2:=rp.money (hS.trans hR) bF;unfold rX at h1;let h3:=Xs h1 (Zt h2)
  rwa [HF h2] at h3
 .rcases Zz.mp hf.1 with h |h
  .obtain⟨S,hS,e⟩:=Zd.mp h;let⟨h1,h2⟩:=jD NL hS;apply .inl ⟨S,h1,h2,?_⟩;rw[<- e];unfold rX;exact HF (rp.money (h1.trans hR) h2)
  .obtain⟨i,hi,h⟩:=Jd.mp h;let hi:=Zh.mp hi;let⟨hm,he⟩:=UM i hi;rw[lo i hi] at h;split at h
   .rename_i hc;rw[Z4] at hc;let⟨x,hx,e⟩:=Zd.mp h;let⟨Nw,wI⟩:=Ze.mp hx;let⟨x0,x1⟩:=rO m pd.sub x Nw;apply .inr ⟨i,x.toNat,_,hi,by simpa using hc.1,hm,by rw[<- m.len];exact x1,by rw[Xa x0];exact Nw,aia wI,e.symm⟩
   .cases h
def bz (n:Nat):Γ3:=(~~~n).map λi:Nat=>(i:Int)
def oi (A:Γ3)(Pu:Δ1)(W:Γ1)(qs:Δ1)(k:Nat):Bool:=decide (dM A qs (ap (dX (ai ↥A W) (k / 64)))<bh Pu (ap (dX (bz ↥W) (k % 64))))
def cnt (A:Γ3)(Pu:Δ1)(W:Γ1)(qs:Δ1):Nat:=(~~~4096).countP (oi A Pu W qs)
def RS:cnt A Pu W qs<=4096:=by
 have:=List.countP_le_length (p:=oi A Pu W qs) (l:=List.range 4096)
 rwa [Ys] at this
def vR {p q:Nat->Bool}:∀{l:List Nat},(∀x∈l,p x->q x)->l.countP p<=l.countP q:=λh=>List.countP_mono_left h
theorem vQ {p q:Nat->Bool}:∀{l:List Nat},(∀x∈l,p x->q x)->∀{x:Nat},x∈l->q x->p x=false->l.countP p<l.countP q
 |[],_,_,h,_,_=>by cases h
 |y::l,h,x,hx,hq,hp=>by
  rw[List.countP_cons,List.countP_cons];let t:∀z∈l,p z->q z:=λz hz=>h z (Zi _ hz)
  rcases Zj.mp hx with rfl |hx
  .rw[hq,hp];have:=vR t;simp;omega
  .let ih:=vQ t hx hq hp;let hy:=h y (.head _);cases e:p y with
   |false=>simp;split<;>omega
   |true=>rw[hy e];simp;omega
theorem gO {Pd:Γ3}:∀{S:Γ3},dM A qs (ap S)=dM A qs (ap (kz Pd S))+dM A qs (ap (bY Pd S))
 |[]=>by show(0:Rat)=0+0;grind
 |x::S=>by
  let ih:=gO (Pd:=Pd) (S:=S);unfold kz bY at ih ⊢;rw[Dy,ih,Je,Je];by_cases hp:x∈Pd
  .rw[aha ‹hp›,aga ‹hp›,Dy];grind
  .rw[aga ‹hp›,aha ‹hp›,Dy];grind
def wk (rp:cW A Pu W qs)(m:cY A Pu W qs){Pd:Γ3}{f:Rat}(hf:1<f){S:Γ3}(hS:S.Sublist (ai ↥A W)):dM A qs (ap S)<=dM A (dv qs Pd f) (ap S):=by
 rw[Nq (rO m hS),gO (Pd:=Pd)];by_cases e:bY Pd S=[]
 .rw[e];have:dM A qs (ap [])=0:=rfl;rw[this];grind
 .let h:0<dM A qs (ap (bY Pd S)):=rp.money (Zu.trans hS) e;have:=Qw hf h
  grind
def Av {ns S:Γ3}(hn:↥ns<=6)(hS:S.Sublist ns):∃a,a<64/\S=dX ns a:=by
 let⟨a,ha,e⟩:=Zd.mp (cm.mpr hS);let h1:=Zh.mp ha;let h2:2 ^ ↥ns<=2 ^ 6:=Xc ∅ hn;exact⟨a,⋯,e.symm⟩
def vS (rp:cW A Pu W qs)(m:cY A Pu W qs){Pd:Γ3}{f:Rat}(hf:1<f):∀k∈~~~4096,oi A Pu W (dv qs Pd f) k->oi A Pu W qs k:=λk _ h=>by
 unfold oi at h ⊢;let h1:=aia h;let h2:=wk rp m (Pd:=Pd) hf (qY (ai ↥A W) (k / 64));exact aea (by grind)
def G7 (rp:cW A Pu W qs)(m:cY A Pu W qs){Pd:Γ3}{f:Rat}(F:Bt A Pu W qs Pd f){S:Γ3}(hS:S.Sublist (aM ↥A W Pd))(bF:S≠[])(e:f*dM A qs (ap S)=bh Pu (loose W qs Pd S)):cnt A Pu W (dv qs Pd f)<cnt A Pu W qs:=by
 let hw:S.Sublist (ai ↥A W):=hS.trans Zu;let⟨a,ha,ea⟩:=Av (Zl (Dw ↥A W) m.mf.g6) hw;let lb:(loose W qs Pd S).Sublist (~~~↥W):=Zu.trans Zu;let⟨b,hb,eb⟩:=Av (ns:=bz ↥W) (by unfold bz;rw[Zb,Ys,m.mf.wl];exact m.mf.n6) (lb.map λi:Nat=>(i:Int));let nb:ap ((loose W qs Pd S).map λi:Nat=>(i:Int))=loose W qs Pd S:=by
  unfold ap;rw[Zp];have:(Int.toNat ∘ λi:Nat=>(i:Int))=id:=funext λi=>Zy i
  rw[this,X6]
 let k1:(a*64+b) / 64=a:=⋯;let k2:(a*64+b) % 64=b:=⋯;let mp:=rp.money hw bF;let off:bY Pd S=S:=X1.mpr λx hx=>(Ze.mp (hS.subset hx)).2
 let Tl:kz Pd S=[]:=Xq.mpr λx hx=>by
  have:=(Ze.mp (hS.subset hx)).2;simpa using this
 apply vQ (vS rp m F.gt) (x:=a*64+b) (Zh.mpr ⋯) ?_ ?_
 .unfold oi;rw[k1,k2,<- ea,<- eb,nb,<- e];have:=Qw F.gt mp;exact aea (by grind)
 .unfold oi;rw[k1,k2,<- ea,<- eb,nb,<- e,Nq (rO m hw),off,Tl];have:dM A qs (ap [])=0:=rfl;rw[this];exact aja (by grind)
theorem E5:∀{l:Δ1},l≠[]->∃q,jW l q
 |[],h=>afa rfl h
 |[x],_=>⟨x,.head _,λz hz=>by rw[Z3.mp hz];exact Yg⟩
 |x::y::l,_=>by
  let⟨q,h1,h2⟩:=E5 (l:=y::l) (by simp);rcases Rat.le_total (a:=x) (b:=q) with h |h
  .exact⟨x,.head _,λz hz=>by
    rcases Zj.mp hz with rfl |hz
    .exact Yg
    .exact Yy h (h2 z hz)⟩
  .exact⟨q,.tail _ h1,λz hz=>by
    rcases Zj.mp hz with rfl |hz
    .exact h
    .exact h2 z hz⟩
def Mj (rp:cW A Pu W qs)(m:cY A Pu W qs)(cz:gA A Pu qs W ↥A){Pd Q:Γ3}(pd:cb A Pu qs W ↥A Pd){f:Rat}(F:Bt A Pu W qs Pd f)(hQ:cb A Pu (dv qs Pd f) W ↥A Q):cnt A Pu W (dv qs Pd f)*7+↥Q<cnt A Pu W qs*7+↥Pd:=by
 let q6:↥Q<=6:=Zl hQ.sub.length_le (Zl (Dw ↥A W) m.mf.g6);by_cases ev:∃S:Γ3,S.Sublist (aM ↥A W Pd)/\S≠[]/\f*dM A qs (ap S)=bh Pu (loose W qs Pd S)
 .obtain⟨S,h1,h2,h3⟩:=ev;have:=G7 rp m F h1 h2 h3;omega
 .let h1:=tW m cz pd F ev hQ;let h2:cnt A Pu W (dv qs Pd f)<=cnt A Pu W qs:=vR (vS rp m F.gt);omega
def FD (good:∀r∈W,aJ ↥A r){J:Δ1->Prop}(hJ:∀qs,J qs->cW A Pu W qs)
  (nxt:∀qs Pd f,J qs->gA A Pu qs W ↥A->cb A Pu qs W ↥A Pd->aM ↥A W Pd≠[]->Bt A Pu W qs Pd f->J (dv qs Pd f)) :
  ∀n qs Pd,J qs->gA A Pu qs W ↥A->cb A Pu qs W ↥A Pd->cnt A Pu W qs*7+↥Pd<n ->
   ∃L,dg A Pu W qs L/\↥L<=n/\J (cQ qs L)/\gA A Pu (cQ qs L) W ↥A/\cb A Pu (cQ qs L) W ↥A (ai ↥A W):=by
 intro n;induction n with
 |zero =>
  intro qs Pd j cz pd h;omega
 |succ n ih =>
  intro qs Pd j cz pd h;let rp:=hJ qs j;let m:=cY.of rp good;by_cases hr:aM ↥A W Pd=[]
  .let e:=(FK pd.sub).mp hr;subst e;exact⟨[],.stop rp cz λQ hQ=>by rw[hQ.uniq pd];exact hr,by simp,j,cz,pd⟩
  .obtain⟨f,hf⟩:=E5 (A1 (A:=A) (Pu:=Pu) (qs:=qs) hr);let F:=Bt.of rp m cz pd hf;let gC:=θ m cz pd.sub F;let⟨Q,hQ⟩:=nC (λz hz=>Zt (m.mf.pu z hz).1) gC;let less:=Mj rp m cz pd F hQ;let⟨L,st,hL,e⟩:=ih _ Q (nxt qs Pd f j cz pd hr F) gC hQ ⋯;apply⟨_,.step rp cz pd hr hf st,by rw[Y1];omega,?_⟩;have:cQ qs ((Pd,f,dv qs Pd f)::L)=cQ (dv qs Pd f) L:=by
    unfold cQ;cases L with
    |nil=>rfl
    |cons a l=>rw[List.getLast?_cons_cons,List.getLast?_cons]
   rw[this];exact e
end
def Rl (n:Nat)(p q:Rat):Prop:=∃c d:Int,(1<=c/\c<=100 ^ n)/\(1<=d/\d<=100 ^ n)/\p*(c:Rat)=q*(d:Rat)
def Rl.refl (p:Rat):Rl 0 p p:=⟨1,1,∅,∅,()⟩
def Rl.symm (h:Rl n p q):Rl n q p:=by
 let⟨c,d,hc,hd,e⟩:=h;exact⟨d,c,hd,hc,e.symm⟩
def Rl.mono (h:Rl m p q)(hm:m<=n):Rl n p q:=by
 let⟨c,d,hc,hd,e⟩:=h;have:(100:Int) ^ m<=100 ^ n:=by exact_mod_cast Xc (n:=100) ∅ hm
 exact⟨c,d,⋯,⋯,e⟩
def pow_mul' {a b:Int}(ha:1<=a/\a<=100 ^ m)(hb:1<=b/\b<=100 ^ n):1<=a*b/\a*b<=100 ^ (m+n):=by
 let h1:=Qo ha.1 hb.1 ∅ ⋯;let h2:=Qo ha.2 hb.2 ⋯ ⋯
 grind
def Rl.trans {p q r:Rat}(h:Rl m p q)(g:Rl n q r):Rl (m+n) p r:=by
 let⟨c,d,hc,hd,e⟩:=h;let⟨c',d',pY,TM,e'⟩:=g;apply⟨c*c',d*d',pow_mul' hc pY,pow_mul' hd TM,?_⟩
 grind
def Rl.scale (h:Rl n p q)(f:Rat):Rl n (p*f) (q*f):=by
 let⟨c,d,hc,hd,e⟩:=h;exact⟨c,d,hc,hd,by grind⟩
def Fs (h:1<=c/\c<=100 ^ n):Bd (7*n+1) c:=by
 unfold Bd;let h1:(100:Nat) ^ n<=(2 ^ 7) ^ n:=Nat.pow_le_pow_left ∅ n;rw[<- Nat.pow_mul] at h1
 grind
def Rl.eq (h:Rl n p q):∃s:Rat,0<s/\Rb (7*n+1) s/\q=p*s/\Ab (100 ^ n) (100 ^ n) s:=by
 let⟨c,d,hc,hd,e⟩:=h;let dn:(d:Rat)≠0:=λz=>by
  simp_all
 let ald:((100 ^ n:Nat):Int)=100 ^ n:=by rw[Int.natCast_pow];rfl
 apply⟨Rat.divInt c d,?_,iV ⋯ (Fs hc) (Fs hd),?_,(sU ⋯).mono ⋯ ⋯⟩
 .rw[Xe];exact KM.div_pos (wU ⋯) (wU ⋯)
 .rw[Xe]
  grind
def Rl.rb (h:Rl n p q)(hp:Rb k p):Rb (k+7*n+1) q:=by
 let⟨s,_,hs,e,_⟩:=h.eq;rw[e];exact(j6 hp hs).mono ⋯
section
def EO (m:cY A Pu W qs)(hi:i<↥W)(hg:g∈aV (W∩i) qs)(ho:o∈aV (W∩i) qs):Rl 1 (qs\g) (qs\o):=by
 let⟨r,t⟩:=m.top hi;let⟨g1,g2,g3⟩:=(t.best m hi).mp hg;let⟨o1,o2,o3⟩:=(t.best m hi).mp ho;let w1:wi W i g<=100:=(m.mf.w0 i g hi g1).2;let w2:wi W i o<=100:=(m.mf.w0 i o hi o1).2;apply⟨wi W i o,wi W i g,⟨⋯,by simpa using w2⟩,⟨⋯,by simpa using w1⟩,?_⟩;let q1:=m.q0 hi g1 g2;let q2:=m.q0 hi o1 o2;let e:=g3.trans o3.symm;unfold rt bS at e;let e:((wi W i g:Int):Rat) / (qs\g)=((wi W i o:Int):Rat) / (qs\o):=e
 grind
def Clo (W:Γ1)(qs:Δ1)(X:Γ3):Prop:=∀i,i<↥W->∀g o,g∈aV (W∩i) qs->o∈aV (W∩i) qs->(g:Int)∈X->(o:Int)∈X
open Classical in
def dY (A:Γ3)(W:Γ1)(qs:Δ1)(h n:Nat):Γ3:=(ai ↥A W).filter λx=>decide (Rl n (qs\x.toNat) (qs\h))
open Classical in
def fJ:x∈dY A W qs h n↔x∈ai ↥A W/\Rl n (qs\x.toNat) (qs\h):=by
 unfold dY;rw[Ze,decide_eq_true_iff]
def rJ (m:cY A Pu W qs)(hi:i<↥W)(hg:g∈aV (W∩i) qs):(g:Int)∈ai ↥A W:=by
 let⟨h1,h2,_⟩:=(m.best hi).mp hg;exact Zd.mpr ⟨g,Ze.mpr ⟨Zh.mpr h1,i0 hi h2⟩,()⟩
def Fq (m:cY A Pu W qs){h:Nat}(hh:(h:Int)∈ai ↥A W):∃X:Γ3,X.Sublist (ai ↥A W)/\(h:Int)∈X/\Clo W qs X/\∀x∈X,Rl 5 (qs\x.toNat) (qs\h):=by
 let sub:∀n,∀x∈dY A W qs h n,x∈dY A W qs h (n+1):=λn x hx=>fJ.mpr ⟨(fJ.mp hx).1,(fJ.mp hx).2.mono ⋯⟩
 let nd:∀n,(dY A W qs h n).Nodup:=λn=>(Df ↥A W).sublist Zu
 let me:∀n,(h:Int)∈dY A W qs h n:=λn=>fJ.mpr ⟨hh,(Rl.refl _).mono ⋯⟩
 let l6:∀n,↥(dY A W qs h n)<=6:=λn=>Zl (Zu (l:=ai ↥A W)).length_le (Zl (Dw ↥A W) m.mf.g6)
 let st:∃n,n<=5/\↥(dY A W qs h (n+1))<=↥(dY A W qs h n):=by
  by_cases z:∃n,n<=5/\↥(dY A W qs h (n+1))<=↥(dY A W qs h n)
  .exact z
  .exfalso;let g:∀n,n<=6->n+1<=↥(dY A W qs h n):=by
    intro n;induction n with
    |zero=>intro _;exact List.length_pos_of_mem (me 0)
    |succ n ih =>
     intro hn;have:=ih ⋯;have:¬ ↥(dY A W qs h (n+1))<=↥(dY A W qs h n):=λy=>z ⟨n,⋯,y⟩
     omega
   have:=g 6 ⋯
   grind
 let⟨n,hn,le⟩:=st;apply⟨dY A W qs h n,Zu,me n,λi hi g o hg ho hx=>?_,λx hx=>(fJ.mp hx).2.mono hn⟩;let h1:=(fJ.mp hx).2;rw[Zy] at h1;let h2:(o:Int)∈dY A W qs h (n+1):=fJ.mpr ⟨rJ m hi ho,by
  rw[Zy];exact((EO m hi hg ho).symm.trans h1).mono ⋯⟩
 by_cases y:(o:Int)∈dY A W qs h n
 .exact y
 .have:=sG (A:=(o:Int)::dY A W qs h n) (B:=dY A W qs h (n+1)) (Yc.mpr ⟨y,nd n⟩) λx hx=>by
   rcases Zj.mp hx with rfl |hx
   .exact h2
   .exact sub n x hx
  rw[Y1] at this;omega
def B8 (m:cY A Pu W qs)(cz:gA A Pu qs W ↥A)(hS:S.Sublist (ai ↥A W))(z:aD A Pu qs W (ap S)=0)(cl:Clo W qs X)(x0:∀x∈X,0<=x):aD A Pu qs W (ap (kz X S))=0:=by
 let s0:=λx hx=>(rO m hS x hx).1
 let h1:=cz (kz X S) (Zu.trans hS);let h2:=cz (bY X S) (Zu.trans hS);unfold aD at z h1 h2 ⊢;rw[gO (Pd:=X)] at z;let e:bh Pu (eA W qs (ap S))=bh Pu (eA W qs (ap (kz X S)))+bh Pu (eA W qs (ap (bY X S))):=by
  rw[qt,qt,qt];let e1:wsum (~~~↥W) (λi=>Pu\i) (λi=>tk W qs i S)=wsum (~~~↥W) (λi=>Pu\i) (λi=>tk W qs i (bY X S)||tk W qs i (kz X S)):=Dd λi hi=>by
   let hi:=Zh.mp hi;rw[Ya,X4];rw[lB hi s0,lB (S:=bY X S) hi λx hx=>s0 x (Ze.mp hx).1,lB (S:=kz X S) hi λx hx=>s0 x (Ze.mp hx).1];constructor
   .rintro⟨g,g1,g2⟩;by_cases y:(g:Int)∈X
    .exact .inr ⟨g,Ze.mpr ⟨g1,by simpa using y⟩,g2⟩
    .exact .inl ⟨g,Ze.mpr ⟨g1,by simpa using y⟩,g2⟩
   .rintro(⟨g,g1,g2⟩ |⟨g,g1,g2⟩)
    .exact⟨g,(Ze.mp g1).1,g2⟩
    .exact⟨g,(Ze.mp g1).1,g2⟩
  let e2:wsum (~~~↥W) (λi=>Pu\i) (λi=>tk W qs i (bY X S)&&!tk W qs i (kz X S))=wsum (~~~↥W) (λi=>Pu\i) (λi=>tk W qs i (bY X S)):=Dd λi hi=>by
   let hi:=Zh.mp hi;cases y:tk W qs i (bY X S) with
   |false=>rfl
   |true =>
    cases y':tk W qs i (kz X S) with
    |false=>rfl
    |true =>
     exfalso;let⟨g,g1,g2⟩:=(lB hi λx hx=>s0 x (Ze.mp hx).1).mp y;let⟨o,o1,o2⟩:=(lB hi λx hx=>s0 x (Ze.mp hx).1).mp y';let a:=(Ze.mp g1).2;let b:=(Ze.mp o1).2;have:=cl i hi o g o2 g2 ‹b›;simp[this] at a
  show wsum (~~~↥W) (λi=>Pu\i) (λi=>tk W qs i S)=wsum (~~~↥W) (λi=>Pu\i) (λi=>tk W qs i (kz X S))+wsum (~~~↥W) (λi=>Pu\i) (λi=>tk W qs i (bY X S));rw[e1,Sj,e2]
 rw[e] at z
 grind
end
section
def Lb (mf:DI A Pu W)(hT:↥T<=6):Ab (6*2 ^ 20*(2 ^ 20) ^ 5) ((2 ^ 20) ^ 6) (bh Pu T):=by
 unfold bh;apply Bh ∅ (λz hz=>?_) (by rw[Zb];exact hT);let⟨i,_,rfl⟩:=Zd.mp hz;exact Lc (λz hz=>Wk (mf.pu z hz).2) ∅ i
def VT (mf:DI A Pu W)(qs:Δ1)(S:List Nat):↥(eA W qs S)<=6:=by
 have:↥(eA W qs S)<=↥W:=by unfold eA;exact Zl (Y3 _ _) (by rw[Ys];exact Zf _)
 have:=mf.wl;have:=mf.n6;omega
def kQ {z:Int}(h:1<=z):(z:Rat)≠0:=λe=>by
 have:=wU (z:=z) ⋯;rw[e] at this;exact afa this ∅
structure dZ (A:Γ3)(Pu:Δ1)(W:Γ1)(qs:Δ1):Prop where
 rp:cW A Pu W qs
 cz:gA A Pu qs W ↥A
 all:cb A Pu qs W ↥A (ai ↥A W)
end
section
variable {A:Γ3}
theorem re (am:∀g,g<↥qs->1<=A\g/\(A\g)<=60):∀{Y:Γ3},(∀y∈Y,y.toNat<↥qs/\Rl n p (qs\y.toNat))->∃l:Δ1,↥l=↥Y/\dM A qs (ap Y)=p*aK l/\∀z∈l,Ab (100 ^ n*60) (100 ^ n*1) z
 |[],_=>⟨[],(),by show(0:Rat)=p*0;grind,λz hz=>by cases hz⟩
 |y::Y,h=>by
  let⟨l,h1,h2,h3⟩:=re am (n:=n) (p:=p) (Y:=Y) λx hx=>h x (Zi _ hx)
  let⟨hl,r⟩:=h y (.head _);let⟨s,s0,_,e,ab⟩:=r.eq;let ha:=am _ hl;apply⟨s*((A.getD y.toNat 0:Int):Rat)::l,by simp[h1],?_,λz hz=>?_⟩
  .rw[Dy,h2,Dc hl,e,pX]
   grind
  .rcases Zj.mp hz with rfl |hz
   .exact RY ab ((Lg _).mono ⋯ ⋯)
   .exact h3 z hz
def canon (m:cY A Pu W qs)(cz:gA A Pu qs W ↥A)(pd:cb A Pu qs W ↥A Pd){g:Nat}(hg:(g:Int)∈Pd):Rb 340 (qs\g):=by
 let⟨X,hX,gX,cl,rel⟩:=Fq m (pd.sub.subset hg);let x0:=λx hx=>(rO m hX x hx).1
 let hY:(kz X Pd).Sublist (ai ↥A W):=Zu.trans pd.sub;let z:=B8 m cz pd.sub pd.zero cl x0;let am:∀g,g<↥qs->1<=A\g/\(A\g)<=60:=λg h=>m.mf.am _ (MI.ly (by rw[<- m.len];exact h))
 let⟨l,h1,h2,h3⟩:=re am (n:=5) (p:=qs\g) (Y:=kz X Pd) λy hy=>⟨(rO m hY y hy).2,(rel y (by simpa using(Ze.mp hy).2)).symm⟩
 unfold aD at z;rw[h2] at z;let l6:↥l<=6:=by
  have:=hY.length_le;have:=Dw ↥A W;have:=m.mf.g6;omega
 let gY:(g:Int)∈kz X Pd:=Ze.mpr ⟨hg,by simpa using gX⟩;let mp:0<dM A qs (ap (kz X Pd)):=by
  apply l3 m.len.symm (λa ha=>(m.mf.am a ha).1) (λk hk=>?_) λe=>?_
  .obtain⟨y,hy,rfl⟩:=Zd.mp hk;let⟨a,b,_,d⟩:=pW (hY.subset hy);exact⟨by rw[m.len];exact b,m.gW.pos _ (by rw[m.len];exact b) d⟩
  .rw[Xt.mp e] at gY;cases gY
 let sn:aK l≠0:=λe=>by
  rw[h2,e,Xr] at mp;exact afa mp ∅
 let e:qs\g=bh Pu (eA W qs (ap (kz X Pd))) / aK l:=by grind
 rw[e];exact XB (Ld (Lb m.mf (VT m.mf qs _)) (Bh ∅ h3 l6) sn) (by decide+kernel) (by decide+kernel)
structure Jb (A:Γ3)(Pu:Δ1)(W:Γ1)(qs:Δ1)(e:Nat):Prop where
 rel:∀Pd,cb A Pu qs W ↥A Pd->∀j k:Nat,(j:Int)∈aM ↥A W Pd->(k:Int)∈aM ↥A W Pd->Rl e (qs\j) (qs\k)
 bd:∀g:Nat,(g:Int)∈ai ↥A W->Rb (400+7*e) (qs\g)
def du:x∈aM ↥A W Pd↔x∈ai ↥A W/\x∉Pd:=by
 unfold aM;rw[Ze];simp
def B7 (m:cY A Pu W qs)(hP:Pd.Sublist (ai ↥A W))(F:Bt A Pu W qs Pd f)(gC:gA A Pu (dv qs Pd f) W ↥A)(hS:S.Sublist (aM ↥A W Pd))(e:f*dM A qs (ap S)=bh Pu (loose W qs Pd S)):aD A Pu (dv qs Pd f) W (ap S)=0:=by
 let hw:S.Sublist (ai ↥A W):=hS.trans Zu;let p0:=λx hx=>(rO m hP x hx).1
 let s0:=λx hx=>(rO m hw x hx).1
 let h1:=gC _ hw;let off:bY Pd S=S:=X1.mpr λx hx=>(Ze.mp (hS.subset hx)).2
 let Tl:kz Pd S=[]:=Xq.mpr λx hx=>by
  have:=(Ze.mp (hS.subset hx)).2
  grind
 unfold aD at h1 ⊢;rw[Nq (rO m hw),off,Tl,e,show dM A qs (ap [])=0 from rfl] at h1 ⊢;let le:bh Pu (eA W (dv qs Pd f) (ap S))<=bh Pu (loose W qs Pd S):=by
  rw[qt,nG];apply jn (λi hi=>Zt (m.p0 i (Zh.mp hi))) λi hi h=>?_
  let hi:=Zh.mp hi;let h:tk W (dv qs Pd f) i S:=h;show(tk W qs i S&&!tk W qs i Pd)=true;let⟨g,g1,g2⟩:=(lB hi s0).mp h;let gn:=(du.mp (hS.subset g1)).2;cases y:tk W qs i Pd with
  |true=>exact afa ((mh m p0 F.gt hi y g).mp g2).2 gn
  |false =>
   rcases(Si m p0 F.gt F.me hi y g).mp g2 with h |h
   .rw[(lB hi s0).mpr ⟨g,g1,h⟩];rfl
   .exact afa h.1 gn
 grind
def xW (m:cY A Pu W qs)(cz:gA A Pu qs W ↥A)(pd:cb A Pu qs W ↥A Pd)(F:Bt A Pu W qs Pd f)(gC:gA A Pu (dv qs Pd f) W ↥A)(hX:X.Sublist (ai ↥A W))(cl:Clo W (dv qs Pd f) X)(hP:∀x∈X,x∈Pd):aD A Pu (dv qs Pd f) W (ap X)=0:=by
 let p0:=λx hx=>(rO m pd.sub x hx).1
 let x0:=λx hx=>(rO m hX x hx).1
 let h1:=gC _ hX;let off:bY Pd X=[]:=Xq.mpr λx hx=>by simpa using hP x hx
 let Tl:kz Pd X=X:=X1.mpr λx hx=>by simpa using hP x hx
 let ο:kz X Pd=X:=Tj ((Lp _ _).sublist (Zu.trans pd.sub)) ((Lp _ _).sublist hX) λx=>⟨λh=>by simpa using(Ze.mp h).2,λh=>Ze.mpr ⟨hP x h,by simpa using h⟩⟩
 let z:=pd.zero;let hd:=cz (bY X Pd) (Zu.trans pd.sub);unfold aD at h1 z hd ⊢;rw[gO (Pd:=X),ο] at z;rw[Nq (rO m hX),off,Tl,show dM A qs (ap [])=0 from rfl] at h1 ⊢;let le:bh Pu (eA W (dv qs Pd f) (ap X))+bh Pu (eA W qs (ap (bY X Pd)))<=bh Pu (eA W qs (ap Pd)):=by
  rw[qt,qt,qt,<- kS];let e0:wsum (~~~↥W) (λi=>Pu\i) (λi=>tk W (dv qs Pd f) i X&&tk W qs i (bY X Pd))=0:=jy λi hi=>by
   let hi:=Zh.mp hi;cases y:tk W qs i (bY X Pd) with
   |false=>exact Bool.and_false _
   |true =>
    cases y':tk W (dv qs Pd f) i X with
    |false=>rfl
    |true =>
     exfalso;let⟨g,g1,g2⟩:=(lB (S:=bY X Pd) hi λx hx=>p0 x (Ze.mp hx).1).mp y;let⟨o,o1,o2⟩:=(lB hi x0).mp y';let⟨a,b⟩:=Ze.mp g1;let g3:=(mh m p0 F.gt hi ((lB hi p0).mpr ⟨g,a,g2⟩) g).mpr ⟨g2,a⟩;have:=cl i hi o g o2 g3 o1;simp[this] at b
  show wsum (~~~↥W) (λi=>Pu\i) (λi=>tk W (dv qs Pd f) i X&&tk W qs i (bY X Pd))+wsum (~~~↥W) (λi=>Pu\i) (λi=>tk W (dv qs Pd f) i X||tk W qs i (bY X Pd))<=wsum (~~~↥W) (λi=>Pu\i) (λi=>tk W qs i Pd);rw[e0];have:wsum (~~~↥W) (λi=>Pu\i) (λi=>tk W (dv qs Pd f) i X||tk W qs i (bY X Pd))<=wsum (~~~↥W) (λi=>Pu\i) (λi=>tk W qs i Pd):=by
   apply jn (λi hi=>Zt (m.p0 i (Zh.mp hi))) λi hi h=>?_
   let hi:=Zh.mp hi;rcases(X4 _ _).mp h with h |h
   .cases y:tk W qs i Pd with
    |true=>rfl
    |false =>
     exfalso;let⟨o,o1,o2⟩:=(lB hi x0).mp h;let⟨r,t⟩:=m.top hi;let⟨b,b1,b2,b3⟩:=t.ex;let hb:=(t.best m hi).mpr ⟨b1,b2,b3⟩;have:=cl i hi o b o2 ((Si m p0 F.gt F.me hi y b).mpr (.inl hb)) o1;rw[(lB hi p0).mpr ⟨b,hP _ this,hb⟩] at y;cases y
   .exact Ac hi p0 (λx hx=>(Ze.mp hx).1) h
  grind
 grind
def Jb.next (m:cY A Pu W qs)(cz:gA A Pu qs W ↥A)(pd:cb A Pu qs W ↥A Pd){f:Rat}(F:Bt A Pu W qs Pd f)(j:Jb A Pu W qs e):Jb A Pu W (dv qs Pd f) (e+10):=by
 let f0:0<f:=by have:=F.gt;grind
 let m':=m.raised (Pd:=Pd) f0;let gC:=θ m cz pd.sub F;let p0:=λx hx=>(rO m pd.sub x hx).1
 let up:∀g:Nat,(g:Int)∈ai ↥A W->g<↥qs:=λg hg=>by
  have:=(pW hg).2.1;rw[m.len];simpa using this
 let old:∀j k:Nat,(j:Int)∈aM ↥A W Pd->(k:Int)∈aM ↥A W Pd->Rl e ((dv qs Pd f)\j) ((dv qs Pd f)\k):=λa b ha hb=>by
  let⟨a1,a2⟩:=du.mp ha;let⟨b1,b2⟩:=du.mp hb;rw[Lr (up a a1),Lr (up b b1),aga a2,aga b2];exact(j.rel Pd pd a b ha hb).scale f
 let RX:∃a:Nat,(a:Int)∈aM ↥A W Pd/\Rb 348 ((dv qs Pd f)\a):=by
  rcases F.ev with ⟨S,hS,bF,ev⟩ |⟨i,o,b,hi,ht,hb,ho,hp,hw,ev⟩
  .obtain⟨Q,hQ⟩:=nC (λz hz=>Zt (m.mf.pu z hz).1) gC;cases S with
   |nil=>exact afa rfl bF
   |cons s S =>
    let sr:=hS.subset (Zk (a:=s));let es:=(pW (du.mp sr).1).2.2.1;let hs:=hQ.top _ (hS.trans Zu) (B7 m pd.sub F gC hS ev) s Zk;apply⟨s.toNat,by rw[es];exact sr,(canon m' gC hQ (by rw[es];exact hs)).mono ∅⟩
  .let bn:(b:Int)∉Pd:=λy=>by
    rw[(lB hi p0).mpr ⟨b,y,hb⟩] at ht;cases ht
   let h1:=(Si m p0 F.gt F.me hi ht b).mpr (.inl hb);let h2:=(Si m p0 F.gt F.me hi ht o).mpr (.inr ⟨hp,ho,hw,b,hb,ev⟩);apply⟨b,du.mpr ⟨rJ m hi hb,bn⟩,?_⟩;let h3:=(EO m' hi h2 h1).rb (k:=340) (by
    rw[Lr (by rw[m.len];exact ho),aha hp];exact canon m cz pd hp)
   exact h3
 let Vm:∀Q,cb A Pu (dv qs Pd f) W ↥A Q->∀h:Nat,(h:Int)∈aM ↥A W Q->∃k:Nat,(k:Int)∈aM ↥A W Pd/\Rl 5 ((dv qs Pd f)\h) ((dv qs Pd f)\k):=λQ hQ h hh=>by
  let⟨h1,h2⟩:=du.mp hh;let⟨X,hX,gX,cl,rel⟩:=Fq m' h1;by_cases y:∀x∈X,x∈Pd
  .exact afa (hQ.top X hX (xW m cz pd F gC hX cl y) _ gX) h2
  .have ⟨x,hx,hn⟩:∃x∈X,x∉Pd:=by
    grind
   let ex:=(pW (hX.subset hx)).2.2.1;exact⟨x.toNat,by rw[ex];exact du.mpr ⟨hX.subset hx,hn⟩,(rel x hx).symm⟩
 apply⟨λQ hQ a b ha hb=>?_,λg hg=>?_⟩
 .obtain⟨a',ka,ra⟩:=Vm Q hQ a ha;let⟨b',kb,rb⟩:=Vm Q hQ b hb;exact((ra.trans (old a' b' ka kb)).trans rb.symm).mono ⋯
 .by_cases y:(g:Int)∈Pd
  .rw[Lr (up g hg),aha y];exact(canon m cz pd y).mono ⋯
  .obtain⟨a,ha,ba⟩:=RX;exact((old a g ha (du.mpr ⟨hg,y⟩)).rb ba).mono ⋯
end
section
def An (ok:cK (dJ A Pu W))(m:cY A Pu W qs)(j:Jb A Pu W qs e)(he:e<=287080):cW A Pu W qs:=by
 let bd:∀z∈qs,Rb 2009987 z:=λz hz=>by
  let⟨i,hi,rfl⟩:=Yf hz;rw[<- RZ.ao (d:=0) (Zc hi)];cases h:has W i with
  |false=>rw[m.gW.nil i hi h];exact nq.mono ∅
  |true=>exact(j.bd i (Zd.mpr ⟨i,Ze.mpr ⟨Zh.mpr (by rw[<- m.len];exact hi),h⟩,()⟩)).mono ⋯
 exact⟨⟨ok,m.len,m.gW,λz hz=>(bd z hz).mono ∅⟩,bd⟩
def GZ (ok:cK (dJ A Pu W))(good:∀r∈W,aJ ↥A r)(hF:et A Pu W ↥A qs):cW A Pu W qs/\Jb A Pu W qs 2/\gA A Pu qs W ↥A:=by
 let⟨rp,cz⟩:=yH ok (λr hr=>(good r hr).pos) hF;let⟨mn,Di,hq⟩:=hF.ex;let one:∀x∈ai ↥A W,∃u v:Int,(1<=u/\u<=100)/\(1<=v/\v<=100)/\(qs\x.toNat)*(v:Rat)=mn / ((fh A (aA ↥A W):Int):Rat)*(u:Rat):=λx hx=>by
  let⟨_,hg,_,hh⟩:=pW hx;let⟨sh,wK,e⟩:=hq _ hg;let⟨r,hr,rfl⟩:=Zd.mp wK.1;let gr:=good r hr;let mx:=gr.mx;let qp:0<qs\x.toNat:=rp.pr.gW.pos _ (by rw[hF.len];exact hg) hh;let gb:=gr.bd _ (MI.ly (d:=0) (by rw[gr.len];exact hg));let gn:r\x.toNat≠0:=λz=>by
   rw[e] at qp;unfold cB at qp;rw[z] at qp
   grind
  let mne:=kQ mx.1;apply⟨r\x.toNat,mX r,⟨⋯,gb.2⟩,mx,?_⟩;rw[e];unfold cB
  grind
 let p1:∀{x y:Int},1<=x/\x<=100->1<=y/\y<=100->1<=x*y/\x*y<=10000:=λ{x y} hx hy=>by
  have:=Qo hx.1 hy.1 ∅ ⋯;have:=Qo hx.2 hy.2 ⋯ ∅;omega
 apply⟨rp,⟨λPd _ j k hj hk=>?_,λg hg=>?_⟩,cz⟩
 .obtain⟨u,v,hu,hv,e0⟩:=one _ (Ze.mp hj).1;let⟨u',v',Δ,ω,e1⟩:=one _ (Ze.mp hk).1;rw[Zy] at e0 e1;apply⟨v*u',v'*u,p1 hv Δ,p1 ω hu,?_⟩
  grind
 .obtain⟨sh,wK,e⟩:=hq g (by simpa using(pW hg).2.1);let⟨r,hr,rfl⟩:=Zd.mp wK.1;let mf:=qu ok;let ZG:W≠[]:=λz=>by rw[z] at hr;cases hr
  let So:=kg (am:=A) good ZG rfl (λa ha=>(mf.am a ha).1);let hpu:=lY (am:=A) (M:=W) rfl mf.g6 (λa ha=>(mf.am a ha).2);rw[e];exact(j6 (io (mf.pu mn Di.1).2 (fw (k:=9) (by unfold Bd;omega) ∅) (kQ ⋯)) (kX (good r hr))).mono ∅
def AZ (ok:cK (dJ A Pu W))(good:∀r∈W,aJ ↥A r)(rp:cW A Pu W qs)(j:Jb A Pu W qs e)(he:e<=250)(cz:gA A Pu qs W ↥A):∃L,dg A Pu W qs L/\↥L<=1000000/\dZ A Pu W (cQ qs L):=by
 let mf:=qu ok;let⟨Pd,pd⟩:=nC (λz hz=>Zt (mf.pu z hz).1) cz;let l6:∀{qs Pd},cb A Pu qs W ↥A Pd->↥Pd<=6:=λp=>Zl p.sub.length_le (Zl (Dw ↥A W) mf.g6)
 let c:=RS (A:=A) (Pu:=Pu) (W:=W) (qs:=qs);let⟨L,st,hL,j',p',a'⟩:=FD good (J:=λqs=>cW A Pu W qs/\∃e,Jb A Pu W qs e/\∀Pd,cb A Pu qs W ↥A Pd->e+10*(cnt A Pu W qs*7+↥Pd)<=287080) (λqs h=>h.1) (λqs Pd f ⟨rp,e,j,b⟩ cz pd hr F=>by
  let m:=cY.of rp good;let m':=m.raised (Pd:=Pd) (f:=f) (by have:=F.gt;grind);let j':=j.next m cz pd F;let b':∀Q,cb A Pu (dv qs Pd f) W ↥A Q->e+10+10*(cnt A Pu W (dv qs Pd f)*7+↥Q)<=287080:=λQ hQ=>by
   have:=Mj rp m cz pd F hQ
   grind
  let⟨Q,hQ⟩:=nC (λz hz=>Zt (mf.pu z hz).1) (θ m cz pd.sub F);exact⟨An ok m' j' (by have:=b' Q hQ;omega),_,j',b'⟩) 100000 qs Pd ⟨rp,e,j,λQ hQ=>by have:=l6 hQ;omega⟩ cz pd (by have:=l6 pd;omega)
 exact⟨L,st,Zl hL ∅,j'.1,p',a'⟩
def rq (ok:cK (dJ A Pu W))(good:∀r∈W,aJ ↥A r)(hF:et A Pu W ↥A qs):∃L,dg A Pu W qs L/\↥L<=1000000/\dZ A Pu W (cQ qs L):=by
 let⟨rp,j,cz⟩:=GZ ok good hF;exact AZ ok good rp j ∅ cz
def rz (ok:cK (dJ A Pu W))(good:∀r∈W,aJ ↥A r):Pj A Pu W 2009987:=⟨ok,good,λfs hF=>by
 let⟨L,st,hL,c⟩:=rq ok good hF;apply⟨L,st,hL,c.rp.pr,∅,∅,c.rp.bd,λk ms ps hk im ip=>?_⟩;exact V2 (qu ok) c.rp.pr.gW c.rp.pr.len good c.cz (by rw[<- km];exact c.all.zero) hk im ip⟩
end
section
def Ps (c:dZ A Pu W qs)(m:cY A Pu W qs)(hi:i<↥W)(t:Top A W qs i r):Rb 2010007 r:=by
 let⟨g,h1,h2,h3⟩:=t.ex;rw[<- h3];exact i9 (m.mf.w0 i g hi h1) (c.rp.pr.bd _ (MI.ly (by rw[m.len];exact h1))) (m.q0 hi h1 h2)
def BK (c:dZ A Pu W qs)(m:cY A Pu W qs)(d:lS A Pu W qs 2009987 cc ms ps M)(hi:i<↥W)(t:Top A W qs i r) :
  xu (W∩i) ((cV A ms M)∩i)/\aK (fY (W∩i) ((cV A ms M)∩i))=Pu\i*r:=by
 apply BL m.mf m.len d ∅ (by rw[<- m.mf.wl];exact hi) ((Ps c m hi t).mono ∅) λj hj hb=>?_
 let⟨_,h2,_⟩:=vU hi hb;rw[Zy] at h2;let⟨_,h4,h5⟩:=(t.best m hi).mp h2;let q0:=m.q0 hi hj h4;apply⟨q0,?_⟩;rw[<- h5];unfold rt bS;exact(HF q0).symm
theorem oo:∀{l:List Nat},(∀x∈l,f x<=g x)->aK (l.map f)<=aK (l.map g)
 |[],_=>Yg
 |x::l,h=>by
  rw[Zm,Zm,pX,pX];have:=oo (l:=l) λy hy=>h y (Zi _ hy)
  have:=h x (.head _)
  grind
theorem Af:∀{l:List Nat},aK (l.map λj=>k*f j)=k*aK (l.map f)
 |[]=>by show(0:Rat)=k*0;grind
 |x::l=>by rw[Zm,Zm,pX,pX,Af];grind
def u9 (h:∀x∈L,p x):wsum L w p=aK (L.map w):=by
 unfold wsum;rw[X1.mpr h]
def rK (c:dZ A Pu W qs)(m:cY A Pu W qs):aK ((~~~↥A).map λj=>(gx A qs)\j)=aK Pu:=by
 let z:=c.all.zero;unfold aD at z;rw[km] at z;let e1:aK ((~~~↥A).map λj=>(gx A qs)\j)=dM A qs (aA ↥A W):=by
  rw[nF (am:=A) (qs:=qs) X0 (show(aA ↥A W).Sublist (~~~↥A) from Zu),<- u9 (p:=λ_=>true) λ_ _=>rfl];apply qK λx hx hp=>?_
  let hx:=Zh.mp hx;rw[Dc (by rw[m.len];exact hx)];let hn:has W x=false:=by
   cases h:has W x with
   |false=>rfl
   |true =>
    have:(aA ↥A W).contains x:=Z7.mpr (Ze.mpr ⟨Zh.mpr hx,h⟩);rw[this] at hp;exact afa rfl hp
  rw[m.gW.nil x (by rw[m.len];exact hx) hn,Xm]
 let e2:bh Pu (eA W qs (aA ↥A W))=aK Pu:=by
  rw[qt,u9 λi hi=>?_,m.mf.wl]
  .have:=Lv (λx:Rat=>x) Pu 0
   simp_all
  .let hi:=Zh.mp hi;let⟨r,t⟩:=m.top hi;let⟨g,g1,g2,g3⟩:=t.ex;rw[jB,za hi];exact⟨g,Ze.mpr ⟨Zh.mpr g1,i0 hi g2⟩,Zd.mpr ⟨g,(t.best m hi).mpr ⟨g1,g2,g3⟩,()⟩⟩
 grind
end
section
variable {A:Γ3}{Pu p q:Δ1}{W:Γ1}
def lc (m:cY A Pu W p)(cz:gA A Pu p W ↥A)(m':cY A Pu W q)(gC:gA A Pu q W ↥A)(all:aD A Pu q W (ap (ai ↥A W))=0):∀x∈ai ↥A W,p\x.toNat<=q\x.toNat:=by
 let pos:∀x∈ai ↥A W,0<p\x.toNat/\0<q\x.toNat:=λx hx=>by
  let⟨a,b,_,d⟩:=pW hx;exact⟨m.gW.pos _ (by rw[m.len];exact b) d,m'.gW.pos _ (by rw[m'.len];exact b) d⟩
 intro x hx;let⟨r,h1,h2⟩:=sN (l:=(ai ↥A W).map λx=>p\x.toNat / (q\x.toNat)) (λz=>by rw[Xt.mp z] at hx;cases hx);let le:∀x∈ai ↥A W,p\x.toNat<=r*(q\x.toNat):=λx hx=>by
  let h3:=h2 _ (Zd.mpr ⟨x,hx,()⟩);let h4:=Xs h3 (Zt (pos x hx).2)
  rwa [HF (pos x hx).2] at h4
 by_cases hr:r<=1
 .let h3:=Xs hr (Zt (pos x hx).2);have:=le x hx
  grind
 exfalso;let hr:1<r:=by grind
 generalize hH:(ai ↥A W).filter (λx=>decide (p\x.toNat=r*(q\x.toNat)))=H;let sH:H.Sublist (ai ↥A W):=by rw[<- hH];exact Zu
 let mH:∀x,x∈H↔x∈ai ↥A W/\(p\x.toNat)=r*(q\x.toNat):=λx=>by rw[<- hH,Ze,decide_eq_true_iff]
 let w0:∀x∈ai ↥A W,0<=x:=λx hx=>(pW hx).1
 let ne:H≠[]:=λz=>by
  let⟨y,hy,e⟩:=Zd.mp h1;have:y∈H:=(mH y).mpr ⟨hy,by rw[<- e,HF (pos y hy).2]⟩;rw[z] at this;cases this
 let em:∀{S:Γ3},(∀x∈S,x∈H)->dM A p (ap S)=r*dM A q (ap S):=by
  intro S;induction S with
  |nil=>intro _;show(0:Rat)=r*0;grind
  |cons y S ih =>
   intro h;let⟨h3,h4⟩:=(mH y).mp (h y (.head _));let hl:=(pW h3).2.1;rw[Dy,Dy,ih λx hx=>h x (Zi _ hx),Dc (by rw[m.len];exact hl),Dc (by rw[m'.len];exact hl),h4]
   grind
 let mp:0<dM A q (ap H):=l3 m'.len.symm (λa ha=>(m.mf.am a ha).1) (λk hk=>by
  let⟨y,hy,rfl⟩:=Zd.mp hk;have:=sH.subset hy;exact⟨by rw[m'.len];exact(pW this).2.1,(pos y this).2⟩) λz=>ne (Xt.mp z)
 let h3:=cz H sH;let h4:=gC (bY H (ai ↥A W)) Zu;let ο:kz H (ai ↥A W)=H:=Tj ((Lp _ _).sublist Zu) ((Lp _ _).sublist sH) λx=>⟨λh=>by simpa using(Ze.mp h).2,λh=>Ze.mpr ⟨sH.subset h,by simpa using h⟩⟩
 unfold aD at h3 h4 all;rw[gO (Pd:=H),ο] at all;rw[em λx hx=>hx] at h3;let key:bh Pu (eA W p (ap H))+bh Pu (eA W q (ap (bY H (ai ↥A W))))<=bh Pu (eA W q (ap (ai ↥A W))):=by
  rw[qt,qt,qt,<- kS];let e0:wsum (~~~↥W) (λi=>Pu\i) (λi=>tk W p i H&&tk W q i (bY H (ai ↥A W)))=0:=jy λi hi=>by
   let hi:=Zh.mp hi;cases y:tk W p i H with
   |false=>rfl
   |true =>
    cases y':tk W q i (bY H (ai ↥A W)) with
    |false=>rfl
    |true =>
     exfalso;let⟨g,g1,g2⟩:=(lB hi λx hx=>w0 x (sH.subset hx)).mp y;let⟨o,o1,o2⟩:=(lB (S:=bY H (ai ↥A W)) hi λx hx=>w0 x (Ze.mp hx).1).mp y';let⟨a1,a2,a3⟩:=(m.best hi).mp g2;let⟨b1,b2,b3⟩:=(m'.best hi).mp o2;let k1:=a3 o b1 b2;let k2:=b3 g a1 a2;let⟨o3,o4⟩:=Ze.mp o1;let k3:=le _ o3;let k4:=((mH _).mp g1).2;rw[Zy] at k3 k4;let p1:=m.q0 hi a1 a2;let p2:=m.q0 hi b1 b2;let q1:=m'.q0 hi a1 a2;let q2:=m'.q0 hi b1 b2;let k1:=(u7 p2 p1).mpr k1;let k2:=(u7 q1 q2).mpr k2;let wo:(0:Rat)<((wi W i o:Int):Rat):=wU b2;let wg:(0:Rat)<((wi W i g:Int):Rat):=wU a2;let k1:((wi W i o:Int):Rat)*(p\g)<=((wi W i g:Int):Rat)*(p\o):=k1;let k2:((wi W i g:Int):Rat)*(q\o)<=((wi W i o:Int):Rat)*(q\g):=k2;have:(o:Int)∈H:=(mH _).mpr ⟨o3,by
      rw[Zy];apply Qk k3 ?_;let k5:=Yz k2 (show 0<=r by grind);let k6:((wi W i g:Int):Rat)*(r*(q\o))<=((wi W i g:Int):Rat)*(p\o):=by grind
      exact Rat.le_of_mul_le_mul_left k6 wg⟩
     simp[this] at o4
  show wsum (~~~↥W) (λi=>Pu\i) (λi=>tk W p i H&&tk W q i (bY H (ai ↥A W)))+wsum (~~~↥W) (λi=>Pu\i) (λi=>tk W p i H||tk W q i (bY H (ai ↥A W)))<=wsum (~~~↥W) (λi=>Pu\i) (λi=>tk W q i (ai ↥A W));rw[e0];have:wsum (~~~↥W) (λi=>Pu\i) (λi=>tk W p i H||tk W q i (bY H (ai ↥A W)))<=wsum (~~~↥W) (λi=>Pu\i) (λi=>tk W q i (ai ↥A W)):=jn (λi hi=>Zt (m.p0 i (Zh.mp hi))) λi hi _=>by
   let hi:=Zh.mp hi;let⟨s,t⟩:=m'.top hi;let⟨b,b1,b2,b3⟩:=t.ex;exact(lB hi w0).mpr ⟨b,Zd.mpr ⟨b,Ze.mpr ⟨Zh.mpr b1,i0 hi b2⟩,()⟩,(t.best m' hi).mpr ⟨b1,b2,b3⟩⟩
  grind
 let h5:dM A q (ap H)<r*dM A q (ap H):=by
  have:=Qw hr mp
  grind
 grind
def yP (m:cY A Pu W p)(cz:gA A Pu p W ↥A)(all:aD A Pu p W (ap (ai ↥A W))=0)(m':cY A Pu W q)(gC:gA A Pu q W ↥A)(OI:aD A Pu q W (ap (ai ↥A W))=0):p=q:=by
 apply List.ext_getElem (m.len.trans m'.len.symm) λg h1 h2=>?_
 let e1:=RZ.ao (d:=0) (Zc h1);let e2:=RZ.ao (d:=0) (Zc h2);rw[<- e1,<- e2];cases h:has W g with
 |false=>rw[m.gW.nil g h1 h,m'.gW.nil g h2 h]
 |true =>
  let hx:(g:Int)∈ai ↥A W:=Zd.mpr ⟨g,Ze.mpr ⟨Zh.mpr (by rw[<- m.len];exact h1),h⟩,()⟩;let a:=lc m cz m' gC OI _ hx;let b:=lc m' gC m cz all _ hx;rw[Zy] at a b;exact Qk a b
end
section
def qL {L:List Nat}{w v:Nat->Rat}{p:Nat->Bool}(h:∀x∈L,w x<=v x):wsum L w p<=wsum L v p :=
 oo λx hx=>h x (Ze.mp hx).1
def vq {A:Γ3}{Pu ef q:Δ1}{W:Γ1}{n:Nat}(h:∀i,i<↥W->Pu\i<=ef\i)(cz:gA A Pu q W n):gA A ef q W n:=λS hS=>by
 let h1:=cz S hS;unfold aD at h1 ⊢;rw[qt] at h1 ⊢;have:=qL (p:=λi=>b9 (ap S) ((aw W q)∩i)) λi hi=>h i (Zh.mp hi)
 grind
def Er {k x:Rat}(hk:0<k):k*((Inv.inv k) * x)=x:=by
 rw[<- Rat.mul_assoc,Rat.mul_inv_cancel _ (by grind),Qc]
def WS {k x:Rat}(hk:0<k):(Inv.inv k) * (k*x)=x:=by
 rw[<- Rat.mul_assoc,Rat.inv_mul_cancel _ (by grind),Qc]
def sc (k:Rat)(q:Δ1):Δ1:=q.map (k * ·)
def uP {k:Rat}{q:Δ1}{g:Nat}:(sc k q)\g=k*(q\g):=by
 unfold sc;rw[Jg,Jg,Zo];cases q[g]? with
 |none=>show(0:Rat)=k*0;grind
 |some x=>rfl
def E4 (m:cY A Pu W q)(hk:0<k):cY A Pu W (sc k q):=by
 let len:↥(sc k q)=↥q:=Zb ..;apply⟨m.mf,len.trans m.len,⟨λj hj h=>?_,λj hj h=>?_⟩,m.good⟩
 .rw[uP];exact Xj hk (m.gW.pos j (by rw[<- len];exact hj) h)
 .rw[uP,m.gW.nil j (by rw[<- len];exact hj) h];grind
def LW (hk:0<k)(h:0<q\g):rt W (sc k q) i g=(Inv.inv k) * rt W q i g:=by
 unfold rt bS;rw[uP]
 grind
def K6 (m:cY A Pu W q)(hk:0<k)(hi:i<↥W):g∈aV (W∩i) (sc k q)↔g∈aV (W∩i) q:=by
 rw[(E4 m hk).best hi,m.best hi];let ki:0<(Inv.inv k):=Rat.inv_pos.mpr hk;apply and_congr_right λh1=>and_congr_right λh2=>forall_congr' λo=>forall_congr' λh3=>forall_congr' λh4=>?_
 rw[LW hk (m.q0 hi h3 h4),LW hk (m.q0 hi h1 h2)];constructor
 .intro h;let h5:=Yz h (Zt hk)
  rwa [Er hk,Er hk] at h5
 .exact λh=>Yz h (Zt ki)
theorem vB (m:cY A Pu W q):∀{S:Γ3},(∀x∈S,x∈ai ↥A W)->dM A (sc k q) (ap S)=k*dM A q (ap S)
 |[],_=>by show(0:Rat)=k*0;grind
 |y::S,h=>by
  let hl:=(pW (h y (.head _))).2.1;rw[Dy,Dy,vB m λx hx=>h x (Zi _ hx),Dc (by unfold sc;rw[Zb,m.len];exact hl),Dc (by rw[m.len];exact hl),uP]
  grind
def QE (m:cY A Pu W q)(hk:0<k)(h:∀i,i<↥W->k*(Pu\i)<=ef\i)(cz:gA A Pu q W ↥A):gA A ef (sc k q) W ↥A:=λS hS=>by
 let h1:=cz S hS;let w0:∀x∈S,0<=x:=λx hx=>(pW (hS.subset hx)).1
 unfold aD at h1 ⊢;rw[qt] at h1 ⊢;rw[vB m λx hx=>hS.subset hx];let e:wsum (~~~↥W) (λi=>ef\i) (λi=>tk W (sc k q) i S)=wsum (~~~↥W) (λi=>ef\i) (λi=>tk W q i S):=Dd λi hi=>by
  let hi:=Zh.mp hi;rw[Ya,lB hi w0,lB hi w0];exact exists_congr λg=>and_congr_right λ_=>K6 m hk hi
 let h2:=qL (p:=λi=>tk W q i S) λi hi=>h i (Zh.mp hi)
 let e2:wsum (~~~↥W) (λi=>k*(Pu\i)) (λi=>tk W q i S)=k*wsum (~~~↥W) (λi=>Pu\i) (λi=>tk W q i S):=Af;let h3:=Yz h1 (Zt hk);unfold tk at e h2 e2
 grind
def cY.with (m:cY A Pu W q)(f:DI A ef W):cY A ef W q:=⟨f,m.len,m.gW,m.good⟩
def KR (m:cY A Pu W p)(cz:gA A Pu p W ↥A)(m':cY A ef W q)(gC:gA A ef q W ↥A)(OI:aD A ef q W (ap (ai ↥A W))=0)(h:∀i,i<↥W->Pu\i<=ef\i):∀x∈ai ↥A W,p\x.toNat<=q\x.toNat :=
 lc (m.with m'.mf) (vq h cz) m' gC OI
def KS (m:cY A Pu W p)(cz:gA A Pu p W ↥A)(all:aD A Pu p W (ap (ai ↥A W))=0)(m':cY A ef W q)(gC:gA A ef q W ↥A)(hl:0<l)(h:∀i,i<↥W->ef\i<=l*(Pu\i)):∀x∈ai ↥A W,q\x.toNat<=l*(p\x.toNat):=λx hx=>by
 let ki:0<(Inv.inv l):=Rat.inv_pos.mpr hl;let h1:=lc (E4 (m'.with m.mf) ki) (QE m' ki (λi hi=>by
  have:=Yz (h i hi) (Zt ki)
  rwa [WS hl] at this) gC) m cz all x hx
 rw[uP] at h1;have:=Yz h1 (Zt hl)
 rwa [Er hl] at this
def vL (m:cY A Pu W p)(m':cY A ef W q)(hi:i<↥W)(hl:0<l)(le:∀x∈ai ↥A W,q\x.toNat<=l*(p\x.toNat))(t:Top A W p i r)(t':Top A W q i s):r<=l*s:=by
 let⟨g,h1,h2,h3⟩:=t.ex;let h4:=t'.le g h1 h2;let q0:=m'.q0 hi h1 h2;let p0:=m.q0 hi h1 h2;let hx:(g:Int)∈ai ↥A W:=Zd.mpr ⟨g,Ze.mpr ⟨Zh.mpr h1,i0 hi h2⟩,()⟩;let h5:=le _ hx;rw[Zy] at h5;let w0:(0:Rat)<(wi W i g:Int):=Y0.mpr h2;let h6:rt W p i g<=l*rt W q i g:=by
  let e:l*rt W q i g=(l*(wi W i g:Int)) / (q\g):=by
   unfold rt bS wi
   grind
  rw[e];show((wi W i g:Int):Rat) / (p\g)<=_;apply(u7 p0 q0).mp ?_;have:=Yz h5 (Zt w0)
  grind
 have:=Yz h4 (Zt hl)
 grind
def CD (m:cY A Pu W p)(m':cY A ef W q)(hi:i<↥W)(le:∀x∈ai ↥A W,p\x.toNat<=q\x.toNat)(t:Top A W p i r)(t':Top A W q i s):s<=r:=by
 let h:=vL (l:=1) m' m hi ∅ (λx hx=>by rw[Qc];exact le x hx) t' t
 rwa [Qc] at h
def KU (c:dZ A Pu W p)(m:cY A Pu W p)(c':dZ A ef W q)(m':cY A ef W q)(h:aK Pu<aK ef):q≠p:=λe=>by
 subst e;let h1:=rK c m;let h2:=rK c' m'
 grind
theorem sum_set:∀{Pu:Δ1}{b:Nat}{x:Rat},b<↥Pu->aK (Pu.set b x)=aK Pu-Pu\b+x
 |y::Pu,0,x,_=>by
  show aK (x::Pu)=aK (y::Pu)-y+x;rw[pX,pX];grind
 |y::Pu,b+1,x,h=>by
  show aK (y::Pu.set b x)=aK (y::Pu)-Pu\b+x;rw[pX,pX,sum_set (Nat.lt_of_succ_lt_succ h)];grind
def sw {Pu:Δ1}{b i:Nat}{x:Rat}(h:b<↥Pu):(Pu.set b x)\i=if i=b then x else Pu\i:=by
 rw[Jg,List.getElem?_set]
 grind
def vy {p:Rat}(h:0<p):1<=p.num:=by
 have:=nt.mp h;omega
def Wj {p q:Rat}(hp:0<p)(hq:0<q)(bp:Rb 340 p)(bq:Rb 340 q):Rl 103 p q:=by
 let a:=vy hp;let b:=vy hq;let⟨a1,a2⟩:=bp;let⟨b1,b2⟩:=bq;let big:((2:Int) ^ 340)*2 ^ 340<=100 ^ 103:=∅;let m:∀{x y:Int},1<=x->1<=y->x<=2 ^ 340->y<=2 ^ 340->1<=x*y/\x*y<=100 ^ 103:=λ{x y} h1 h2 h3 h4=>by
  let e1:=Qo h1 h2 ∅ ⋯;let e2:=Qo h3 h4 ⋯ ∅;omega
 let pd:1<=(p.den:Int):=by have:=p.den_pos;omega
 let qd:1<=(q.den:Int):=by have:=q.den_pos;omega
 unfold Bd at a1 a2 b1 b2;apply⟨p.den*q.num,q.den*p.num,m pd b ⋯ ⋯,m qd a ⋯ ⋯,?_⟩;let e1:p=(p.num:Rat) / ((p.den:Int):Rat):=by rw[<- Xe,Xi]
 let e2:q=(q.num:Rat) / ((q.den:Int):Rat):=by rw[<- Xe,Xi]
 let d1:=kQ pd;let d2:=kQ qd;rw[Qu,Qu];let f1:p*((p.den:Int):Rat)=(p.num:Rat):=by
  generalize ((p.den:Int):Rat)=d at *;generalize (p.num:Rat)=n at *
  grind
 let f2:q*((q.den:Int):Rat)=(q.num:Rat):=by
  generalize ((q.den:Int):Rat)=d at *;generalize (q.num:Rat)=n at *
  grind
 rw[<- f1,<- f2]
 grind
def WR (m:cY A Pu W q)(bd:∀g:Nat,(g:Int)∈ai ↥A W->Rb 340 (q\g)):Jb A Pu W q 103:=by
 let pos:∀g:Nat,(g:Int)∈ai ↥A W->0<q\g:=λg hg=>by
  let⟨_,b,_,d⟩:=pW hg;have:=m.gW.pos _ (by rw[m.len];exact b) d;simpa using this
 apply⟨λPd pd j k hj hk=>?_,λg hg=>(bd g hg).mono ∅⟩;let hj:=(du.mp hj).1;let hk:=(du.mp hk).1;exact Wj (pos j hj) (pos k hk) (bd j hj) (bd k hk)
def yF (ok:cK (dJ A ef W))(good:∀r∈W,aJ ↥A r)(c:dZ A Pu W p)(h:∀i,i<↥W->Pu\i<=ef\i):∃L,dg A ef W p L/\↥L<=1000000/\dZ A ef W (cQ p L):=by
 let m:=cY.of c.rp good;let m':=m.with (qu ok);let j:=WR m' λg hg=>canon m c.cz c.all hg
 exact AZ ok good (An ok m' j ∅) j ∅ (vq h c.cz)
structure XD (A:Γ3)(Pu ef:Δ1)(W:Γ1)(b:Nat)(p q:Δ1):Prop where
 up:∀g,p\g<=q\g
 ne:q≠p
 C3:∀i r s,i<↥W->i≠b->Top A W p i r->Top A W q i s->ef\i*s<=Pu\i*r
 own:∀r s,b<↥W->Top A W p b r->Top A W q b s->Pu\b*r<=ef\b*s
 st:∃L,dg A ef W p L/\L≠[]/\↥L<=1000000/\cQ p L=q
def grown (ok:cK (dJ A (Pu.set b (l*(Pu\b))) W))(good:∀r∈W,aJ ↥A r)(hb:b<↥Pu)(hl:1<l)(c:dZ A Pu W p)(c':dZ A (Pu.set b (l*(Pu\b))) W q):XD A Pu (Pu.set b (l*(Pu\b))) W b p q:=by
 let m:=cY.of c.rp good;let m':=cY.of c'.rp good;let l0:0<l:=by grind
 let p0:∀i,i<↥W->0<Pu\i:=λi hi=>m.p0 i hi
 let big:∀i,i<↥W->Pu\i<=l*(Pu\i):=λi hi=>by
  have:=Qw hl (p0 i hi)
  grind
 let wl:=m.mf.wl;let lo:∀i,i<↥W->Pu\i<=(Pu.set b (l*(Pu\b)))\i:=λi hi=>by
  rw[sw hb];have:=big i hi;split
  .subst i;exact this
  .exact Yg
 let NF:∀i,i<↥W->(Pu.set b (l*(Pu\b)))\i<=l*(Pu\i):=λi hi=>by
  rw[sw hb];split
  .subst i;exact Yg
  .exact big i hi
 let ne:=KU c m c' m' (by
  rw[sum_set hb];have:=Qw hl (p0 b ⋯)
  grind)
 let up:=KR m c.cz m' c'.cz c'.all.zero lo;let no:=KS m c.cz c.all.zero m' c'.cz l0 NF;apply⟨λg=>?_,ne,λi r s hi hn t t'=>?_,λr s hi t t'=>?_,?_⟩
 .by_cases hg:g<↥A
  .cases h:has W g with
   |false=>rw[m.gW.nil g (by rw[m.len];exact hg) h,m'.gW.nil g (by rw[m'.len];exact hg) h];exact Yg
   |true=>simpa using up g (Zd.mpr ⟨g,Ze.mpr ⟨Zh.mpr hg,h⟩,()⟩)
  .have:=m.len;have:=m'.len;let e:∀{q:Δ1},↥q=↥A->q\g=0:=λ{q} h=>by simp[List.getD,Yu (show ↥q<=g by omega)]
   rw[e m.len,e m'.len];exact Yg
 .rw[sw hb,aga hn];exact Yz (CD m m' hi up t t') (Zt (p0 i hi))
 .rw[sw hb,aha rfl];have:=Yz (vL m m' hi l0 no t t') (Zt (p0 b hi))
  grind
 .obtain⟨L,s1,s2,s3⟩:=yF ok good c lo;let e:=yP (cY.of s3.rp good) s3.cz s3.all.zero m' c'.cz c'.all.zero;exact⟨L,s1,λz=>by subst z;exact ne e.symm,s2,e⟩
end
end RT
namespace MI
open L2 KG EX KM RZ SP
def xM (a b:Δ1):DG (.tuple (a.map qD)) (.tuple (b.map qD))=decide (a=b):=by
 rw[sS,PyData.eqv];induction a generalizing b with
 |nil=>cases b with
  |nil=>simp[PyData.eqvAll]
  |cons y b=>simp[PyData.eqvAll]
 |cons x a ih =>
  cases b with
  |nil=>simp[PyData.eqvAll]
  |cons y b =>
   rw[Zm,Zm,PyData.eqvAll,ih b,Fl,Ya];simp
def dT {p q:Δ1}:min (PyData.tuple (p.map qD)).depth (PyData.tuple (q.map qD)).depth<=60:=Zl (Nat.min_le_left _ _) (Zl (RO p) ∅)
structure Cw (A:Γ3)(Pu:Δ1)(W:Γ1)(p ws:Δ1):Prop where
 cl:RT.dZ A Pu W p
 len:↥ws=↥W
 at':∀i,i<↥W->∃r,RT.Top A W p i r/\(ws\i)=Pu\i*r
 bd:∀z∈ws,Rb 32000000 z
def cw_of {A:Γ3}{Pu:Δ1}{W:Γ1}(mR:cK (dJ A Pu W))(good:∀r∈W,aJ ↥A r)(hF:et A Pu W ↥A fs)(st:dg A Pu W fs L)(dl:lS A Pu W (cQ fs L) 2009987 c ms ps M):(∀i,i<↥W->xu (W∩i) ((cV A ms M)∩i))/\Cw A Pu W (cQ fs L) (gc W (cV A ms M)):=by
 let⟨L0,Nd,_,cls⟩:=RT.rq mR good hF;cases st.uniq Nd;let m:=RT.cY.of cls.rp good;let wt:∀i,i<↥W->∃r,RT.Top A W (cQ fs L) i r/\xu (W∩i) ((cV A ms M)∩i)/\aK (fY (W∩i) ((cV A ms M)∩i))=Pu\i*r:=λi hi=>by
  let⟨r,t⟩:=m.top hi;exact⟨r,t,RT.BK cls m dl hi t⟩
 let M8:↥(gc W (cV A ms M))=↥W:=by unfold gc;simp
 let vse:∀i,i<↥W->(gc W (cV A ms M))\i=aK (fY (W∩i) ((cV A ms M)∩i)):=λi hi=>by
  unfold gc;rw[jY (a:=0) (by rw[Ys];exact hi),show(~~~↥W)\i=i by simp[List.getD,Yt hi]]
 apply⟨λi hi=>by let⟨_,_,h1,_⟩:=wt i hi;exact h1,cls,M8,λi hi=>?_,λz hz=>?_⟩
 .obtain⟨r,t,_,e⟩:=wt i hi;exact⟨r,t,(vse i hi).trans e⟩
 .obtain⟨i,hi,rfl⟩:=Yf hz;let⟨r,t,ok,e⟩:=wt i ⋯;have:=ok.sb _ (Zf _);rw[Yo] at this;rw[<- RZ.ao (d:=0) (Zc hi),vse i ⋯];exact this
def cP (A:Γ3)(Pu:Δ1)(W:Γ1):Δ1:=Classical.epsilon λqs=>∃fs L,et A Pu W ↥A fs/\dg A Pu W fs L/\qs=cQ fs L
def MY (hF:et A Pu W ↥A fs)(st:dg A Pu W fs L):cQ fs L=cP A Pu W:=by
 let⟨fs',L',h1,h2,e⟩:=Classical.epsilon_spec (p:=λqs=>∃fs L,et A Pu W ↥A fs/\dg A Pu W fs L/\qs=cQ fs L) ⟨_,fs,L,hF,st,()⟩;cases h1.uniq hF;cases h2.uniq st;exact e.symm
structure uJ (O:aX)(xs:List AV)(P:AV->aX->Prop)(X:Addr->aX->Prop):Prop where
 ex:∃A Pu W,xs=[.im (dJ A Pu W)]/\cK (dJ A Pu W)/\(∀r∈W,aJ ↥A r)/\∀qs D O',qs=cP A Pu W->RT.dZ A Pu W qs->cL O O'->P (.im (.tuple [.tuple (qs.map qD),D])) O'
structure xq (O:aX)(xs:List AV)(P:AV->aX->Prop)(X:Addr->aX->Prop):Prop where
 ex:∃A Pu W,xs=[.im (dJ A Pu W)]/\cK (dJ A Pu W)/\(∀r∈W,aJ ↥A r)/\∀ws O',Cw A Pu W (cP A Pu W) ws->cL O O'->P (.im (.tuple (ws.map qD))) O'
def li {P:AV->aX->Prop}(mR:cK (dJ A Pu W))(good:∀r∈W,aJ ↥A r)(h:∀qs D O',qs=cP A Pu W->RT.dZ A Pu W qs->cL O O'->P (.im (.tuple [.tuple (qs.map qD),D])) O'):uJ O [.im (dJ A Pu W)] P X:=⟨A,Pu,W,(),mR,good,h⟩
def lT {P:AV->aX->Prop}(mR:cK (dJ A Pu W))(good:∀r∈W,aJ ↥A r)(hq:qs=cP A Pu W)(h:∀ws O',Cw A Pu W qs ws->cL O O'->P (.im (.tuple (ws.map qD))) O'):xq O [.im (dJ A Pu W)] P X:=⟨A,Pu,W,(),mR,good,by subst hq;exact h⟩
def Ah {F F':FM}(i:∀O xs P X,F' O xs P X->F O xs P X)(h:aF Pg wo K mg base bX k f fd ps (cF K F)):aF Pg wo K mg base bX k f fd ps (cF K F'):=h.imp λvs H Q E q=>by
 let⟨w,O,xs,P,PX,a,b,c,d⟩:=q;exact⟨w,O,xs,P,PX,a,b,i _ _ _ _ c,d⟩
def RU (h:aF Pg wo K mg base bX k f fd ps (cF K oI)):aF Pg wo K mg base bX k f fd ps (cF K uJ):=Ah (λO xs P X h=>by
 let⟨A,Pu,W,rfl,mR,good,h⟩:=h.ex;exact⟨A,Pu,W,2009987,(),RT.rz mR good,λfs L c ms ps M O' hF st dl gr=>h _ _ _ (MY hF st) (cw_of mR good hF st dl).2.cl gr⟩) h
def Pm (h:aF Pg wo K mg base bX k f fd ps (cF K tM)):aF Pg wo K mg base bX k f fd ps (cF K xq):=Ah (λO xs P X h=>by
 let⟨A,Pu,W,rfl,mR,good,h⟩:=h.ex;apply⟨A,Pu,W,2009987,(),RT.rz mR good,λfs L c ms ps M O' hF st dl gr=>?_⟩;let⟨h1,h2⟩:=cw_of mR good hF st dl;rw[MY hF st] at h2;exact⟨h1,h _ _ h2 gr⟩) h
def IQ:FM:=λO xs P _=>∃(A:Γ3) (Pu:Δ1) (W:Γ1) (b:Nat) (l:Rat) (p ws:Δ1),xs=[.im (.list [.tuple (p.map qD),.tuple (ws.map qD)]),.im (dJ A (Pu.set b (l*(Pu\b))) W),.im (.int (b:Int))]/\cK (dJ A (Pu.set b (l*(Pu\b))) W)/\(∀r∈W,aJ ↥A r)/\b<↥Pu/\1<l/\Cw A Pu W p ws/\∀O',cL O O'->P (.im (.bool true)) O'
abbrev D5:Δ2:=["before","market","buyer","prices","due","fallen","others","some"]
def U4:MS:=(aU (bv (bA cG (aC uJ cE (af (ah 1) ar)) (mC (.int 0))) (aY 3))
 (aU (bv (aC xq cE (af (ah 1) ar)) (aY 4))
 (aU (bv (cH 1 [0,3] (nV (af (kw uF (af (ah 3) ar)) ar)) (aY 0) (eM (aC u3 cE (af (bA cG (ah 2) (ah 0)) (af (bA cG (bA cG (ah 1) (mC (.int 0))) (ah 0)) ar)))) (ah 0)) (aY 5))
 (aU (mY (UZ (eM (bA (Dj true) (ah 5) (kD ar))) (eM (bA (Dj false) (ah 3) (bA cG (ah 0) (mC (.int 0)))))) (cO (mC (.bool false))) iH)
 (aU (bv (cH 1 [2] (nV (af (kw uF (af (ah 4) ar)) ar)) (aY 0) (eM (bA (Dj true) (ah 0) (ah 1))) (ah 0)) (aY 6))
 (aU (mY (eM (bA (Dj true) (cH 1 [0,4] (c7 (ah 6)) (aY 0) (eM (aC u3 cE (af (bA cG (bA cG (ah 1) (mC (.int 1))) (ah 0)) (af (bA cG (ah 2) (ah 0)) ar)))) (ah 0)) (kD ar))) (cO (mC (.bool false))) iH)
 (aU (mY (eM (aC u3 cE (af (bA cG (ah 4) (ah 2)) (af (bA cG (bA cG (ah 0) (mC (.int 1))) (ah 2)) ar)))) (cO (mC (.bool false))) iH)
 (aU (bv (aC jv cE (af (ah 1) (af (bA cG (ah 0) (mC (.int 0))) ar))) (aY 7))
 (cO (My (bA (Dj true) (ah 7) (kD ar)) (bA (Dj false) (bA cG (bA cG (ah 7) (xi (mC (.int 1)))) (mC (.int 2))) (ah 3))))))))))))
def P2:∀O xs Pq QX,IQ O xs Pq QX->U4 Pq⁻¹ (be D5 xs) O:=by
 intro O xs Pq QX h;let⟨A,Pu,W,b,l,p,ws,rfl,mR,good,hb,hl,cw,h⟩:=h;let mf:=qu mR;let wl:=mf.wl;generalize SE:Pu.set b (l*(Pu\b))=ef at *;apply li mR good λqs D O2 hq cls gr=>⟨_,(),?_⟩
 let m:=RT.cY.of cls.rp good;apply⟨lT mR good hq λvs O3 cv gr'=>?_⟩;let M8:=cv.len;let gw:=RT.grown (by rw[SE];exact mR) good hb hl cw.cl (by rw[SE];exact cls);rw[SE] at gw;let m0:=RT.cY.of cw.cl.rp good;let ql:=m.len;let pl:=m0.len;apply⟨⟨by rw[Zb,ql];have:=mf.g6;omega,by rw[Zb,ql];have:=mf.g6;omega⟩,?_⟩;apply Sf (λ_=>false) (λ_=>.none) (by rw[yY,Zb,ql];have:=mf.g6;omega) (λi x Z hx hZ=>?_) (λi x Z hx hf=>(by cases hf)) ?_
 .obtain⟨hi,rfl⟩:=il hx;rw[Zb,Zy] at hi;let Sr:i<↥p:=⋯;apply⟨_,bB (ky (f:=qD) (d:=(0:Rat)) hi),_,(),_,bB (ky (f:=qD) (d:=(0:Rat)) Sr),qs\i,p\i,(),⟨(cls.rp.bd _ (ly hi)).mono ∅,(cw.cl.rp.bd _ (ly Sr)).mono ∅⟩,?_⟩;rw[aja (Yr.mpr (gw.up i))];exact hZ
 let fe:∀{n:Nat},(List.map (λ_=>PyData.none) (List.filter (λ_=>false) (~~~n)))=[]:=λ{n}=>by simp
 rw[fe];apply⟨⟨∅,by show min (PyData.list []).depth (PyData.list []).depth<=60;decide,λz=>(by cases z),λ_=>⟨_,(),dT,λz=>?_,λ_=>?_⟩⟩⟩
 .exfalso;let z:DG (.tuple (qs.map qD)) (.tuple (p.map qD)):=z;rw[xM] at z;exact gw.ne (aia z)
 let n6:=mf.n6;let ab9:∀i,i<↥W->i≠b->vs\i<=ws\i:=λi hi hn=>by
  let⟨r,t,e⟩:=cw.at' i hi;let⟨s,t',e'⟩:=cv.at' i hi;rw[e',e];exact gw.C3 i r s hi hn t t'
 let bW:b<↥W:=by rw[wl,<- SE,Yi];exact hb
 let own:ws\b<=vs\b:=by
  let⟨r,t,e⟩:=cw.at' b bW;let⟨s,t',e'⟩:=cv.at' b bW;rw[e',e];exact gw.own r s bW t t'
 let vrb:∀i,i<↥W->Rb 32000000 (vs\i):=λi hi=>cv.bd _ (ly (by rw[M8];exact hi))
 apply⟨⟨by rw[Zb,M8];omega,by rw[Zb,M8];omega⟩,?_⟩;apply Sf (λi=>!decide (i=b)) (λi=>.int (i:Int)) (by rw[yY,Zb,M8];omega) (λi x Z hx hZ=>?_) (λi x Z hx hf hZ=>?_) ?_
 .obtain⟨hi,rfl⟩:=il hx;apply⟨dI,?_⟩;let e:(!DG (.int (i:Int)) (.int (b:Int)))=!decide (i=b):=by
   rw[show DG (.int (i:Int)) (.int (b:Int))=decide ((i:Int)=(b:Int)) from rfl,Ya];simp;omega
  rw[e];exact hZ
 .obtain⟨hi,rfl⟩:=il hx;exact hZ
 rw[yY,Zy,Zb,M8];generalize hot:(~~~↥W).filter (λi=>!decide (i=b))=ot;let acS:∀i∈ot,i<↥W/\i≠b:=λi hi=>by
  rw[<- hot,Ze,Zh] at hi;simpa using hi
 let otl:↥ot<=100:=by
  have:=Y3 (λi=>!decide (i=b)) (~~~↥W);rw[hot,Ys] at this;omega
 apply⟨Sf (λ_=>false) (λ_=>.none) (by simp;omega) (λi x Z hx hZ=>?_) (λi x Z hx hf=>(by cases hf)) ?_⟩
 .let hm:=Z1 hx;obtain⟨k,hk,rfl⟩:∃k∈ot,x=.im (.int ((k:Nat):Int)):=by
   let⟨d,hd,rfl⟩:=Zd.mp hm;let⟨k,hk,rfl⟩:=Zd.mp hd;exact⟨k,hk,()⟩
  let⟨k1,k2⟩:=acS k hk;apply⟨_,(),_,bB (ky (f:=qD) (d:=(0:Rat)) (by rw[cw.len];exact k1)),_,bB (ky (f:=qD) (d:=(0:Rat)) ⋯),ws\k,vs\k,(),⟨cw.bd _ (ly (by rw[cw.len];exact k1)),vrb k k1⟩,?_⟩;rw[aja (Yr.mpr (ab9 k k1 k2))];exact hZ
 rw[fe];apply⟨∅,by show min (PyData.list []).depth (PyData.list []).depth<=60;decide,λz=>(by cases z),λ_=>?_⟩;apply⟨_,bB (ky (f:=qD) (d:=(0:Rat)) ⋯),_,(),_,bB (ky (f:=qD) (d:=(0:Rat)) (by rw[cw.len];omega)),vs\b,ws\b,(),⟨vrb b bW,cw.bd _ (ly (by rw[cw.len];exact bW))⟩,λz=>?_,λ_=>?_⟩
 .let z:decide (vs\b<ws\b):=z;rw[aja (Yr.mpr own)] at z;cases z
 let⟨L2,s1,s2,s3,s4⟩:=gw.st;apply⟨_,(),A,ef,W,p,L2,(),s1,s3,λO4 gr4=>?_⟩;obtain⟨s,hs⟩:∃s,L2.getLast?=↑s:=by
  cases hg:L2.getLast? with
  |none=>exact afa (List.getLast?_eq_none_iff.mp hg) s2
  |some s=>exact⟨s,()⟩
 let hp:0<↥L2:=Xg.mpr s2;let hL:L2.getD (↥L2-1) ([],0,[])=s:=by
  rw[List.getLast?_eq_getElem?] at hs;exact RZ.ao hs
 let ha:gh (L2.map iE) (-1)=↑(iE s):=by
  rw[xP (d:=.none) (by rw[Zb];exact hp),Zb,jY (a:=([],0,[])) ⋯,hL]
 let e2:s.2.2=qs:=by
  unfold cQ at s4;rw[hs] at s4;exact s4
 apply⟨∅,Zl (Nat.min_le_right _ _) ∅,λ_=>⟨_,ha,_,(),dT,?_⟩,λz=>?_⟩
 .show Pq (.im (.bool (DG (.tuple (s.2.2.map qD)) (.tuple (qs.map qD))))) O4;rw[xM,e2,aea rfl];let⟨t1,rfl⟩:=gr;let⟨t2,rfl⟩:=gr';let⟨t3,rfl⟩:=gr4;exact h _ ⟨t1++(t2++t3),by simp only[Yp]⟩
 .exfalso;let z:(!DG (.list (L2.map iE)) (.list []))=false:=z;rw[K2,Qv] at z;cases L2 with
  |nil=>exact s2 rfl
  |cons _ _=>cases z
def AN {n:Nat}(h:n<=7):n<=sizeLine:=Zl h ∅
def RP {xs:Ξ1}{b:Nat}(h:b<=↥xs):cutD xs none ↑(b:Int)=xs.take b:=by
 let e:HT.cR ↥xs ↥xs ↑(b:Int)=b:=by simp[HT.cR];split<;>omega
 let e0:HT.cR ↥xs 0 none=0:=by simp[HT.cR]
 unfold cutD;rw[e,e0];simp
def RQ {xs:Ξ1}{b:Nat}(h:b<=↥xs):cutD xs ↑(b:Int) none=xs.drop b:=by
 let e:HT.cR ↥xs 0 ↑(b:Int)=b:=by simp[HT.cR];split<;>omega
 let e0:HT.cR ↥xs ↥xs none=↥xs:=by simp[HT.cR]
 unfold cutD;rw[e,e0];exact List.take_of_length_le (by simp)
def K4 {Pu:Δ1}{b:Nat}(h:b<↥Pu)(y:Rat):(Pu.map qD).take b++[qD y]++(Pu.map qD).drop (b+1)=(Pu.set b y).map qD:=by
 rw[List.map_set,List.set_eq_take_append_cons_drop,aha ‹h›];simp
abbrev Fx:Δ2:=["script","k","bag","market","buyer","first","before","other","turn","amounts","purses","wishes","by","purse","more"]
def Fb:MS:=(aU (nW (nV (af (bA hC (kw (qH λi j=>if j<i then j else i) (af (kw Eo (af (ah 0) ar)) (af (mC (.int 8)) ar))) (mC (.int 2))) ar)) (aY 1) (aU (bv (aC OB cE (af (ah 0) (af (ah 1) ar))) (aY 2))
 (aU (bv (aC IN cE (af (ah 2) ar)) (aY 3))
 (aU (bv (aC ga cE (af (ah 2) (af (kw uF (af (bA cG (ah 3) (mC (.int 1))) ar)) ar))) (aY 4))
 (aU (bv (bA cG (aC uJ cE (af (ah 3) ar)) (mC (.int 0))) (aY 5))
 (aU (bv (kD (af (ah 5) (af (aC xq cE (af (ah 3) ar)) ar))) (aY 6))
 (aU (bv (ah 3) (aY 7))
 (aU (nW (nV (af (bA hC (mC (.int 1)) (aC ga cE (af (ah 2) (af (mC (.int 3)) ar)))) ar)) (aY 8) (aU (bv (ah 7) (lz 3 (aG (aY 9) (aG (aY 10) (aG (aY 11) cx)))))
 (aU (bv (aC TV cE (af (bA hC (bA hC (mC (.int 10)) (mC (.int 1))) (aC ga cE (af (ah 2) (af (mC (.int 20)) ar)))) (af (mC (.int 10)) ar))) (aY 12))
 (aU (bv (aC (f2 pU) cE (af (bA cG (ah 10) (ah 4)) (af (ah 12) ar))) (aY 13))
 (aU (bv (iQ (af (ah 9) (af (bA hC (bA hC (δ (ah 10) By (Bx (ah 4))) (iQ (af (ah 13) ar))) (δ (ah 10) (Bx (bA hC (ah 4) (mC (.int 1)))) By)) (af (ah 11) ar)))) (aY 14))
 (mY (eM (aC (fT cK) cE (af (ah 14) ar))) (aU (bv (ah 14) (aY 7))
 (aU (mY (Oe (eM (aC IQ cE (af (ah 6) (af (ah 7) (af (ah 4) ar)))))) (cO (mC (.bool false))) iH)
 (bv (kD (af (bA cG (aC uJ cE (af (ah 7) ar)) (mC (.int 0))) (af (aC xq cE (af (ah 7) ar)) ar))) (aY 6)))) iH))))))
 (mY (eM (bA (Dj true) (bA cG (aC uJ cE (af (iQ (af (bA cG (ah 3) (mC (.int 0))) (af (bA cG (ah 3) (mC (.int 1))) (af (bA cG (ah 3) (mC (.int 2))) ar)))) ar)) (mC (.int 0))) (ah 5))) (cO (mC (.bool false))) iH)))))))))
 (cO (mC (.bool true))))
structure adk (ns:Γ3)(_:Nat)(sl:g9)(_:aX):Prop where
 ex:∃y1 y2 y3 y4 y5 y6 y7 y8 y9 y10 y11 y12 y13 y14,sl=[↑(.yT ns),y1,y2,y3,y4,y5,y6,y7,y8,y9,y10,y11,y12,y13,y14]
structure adj (ns:Γ3)(i bj:Nat)(A:Γ3)(Pu:Δ1)(W:Γ1)(b:Nat)(qs:Δ1)(_:Nat)(sl:g9)(_:aX):Prop where
 ex:∃(ef p M7:Δ1) (z8 z9 M6 M5 M4 M3 M2:Option AV),cK (dJ A ef W)/\Cw A ef W p M7/\b<↥ef/\sl=[↑(.yT ns),Φ9 (.int (i:Int)),↑(.bag bj),Φ9 (dJ A Pu W),Φ9 (.int (b:Int)),Φ9 (.tuple (qs.map qD)),Φ9 (.list [.tuple (p.map qD),.tuple (M7.map qD)]),Φ9 (dJ A ef W),z8,z9,M6,M5,M4,M3,M2]
def FQ:∀O xs Pq QX,OA O xs Pq QX->Fb Pq⁻¹ (be Fx xs) O:=by
 intro O xs Pq QX h;let⟨ns,rfl,Ss,h⟩:=h;let cA:(if (8:Int)<(↥ns:Int) then (8:Int) else (↥ns:Int))+2<=18:=by split<;>omega
 let afZ:0<=(if (8:Int)<(↥ns:Int) then (8:Int) else (↥ns:Int))+2:=by split<;>omega
 apply⟨⟨by dsimp only;omega,by dsimp only;omega⟩,adk ns,⟨_,_,_,_,_,_,_,_,_,_,_,_,_,_,()⟩,?_,?_⟩
 rotate_left
 .rintro sl O' _;exact⟨h O'⟩
 rintro i x sl O' hx ⟨y1,y2,y3,y4,y5,y6,y7,y8,y9,y10,y11,y12,y13,y14,rfl⟩;let⟨hi,rfl⟩:=il hx;let alj:i<18:=by dsimp only at hi;omega
 clear hx hi
 apply⟨⟨⋯,⋯⟩,λbj=>⟨⟨bj,(),λA Pu W O1 mR hp gr0=>?_⟩⟩⟩;let mf:=qu mR;let good:=rk mf hp;let n6:=mf.n6;let wl:=mf.wl;let n1:0<↥Pu:=mf.n1;apply⟨_,(),⟨by rw[Zb];omega,by rw[Zb];omega⟩,λrb DE m9=>?_⟩;let⟨b,rfl⟩:=Int.eq_ofNat_of_zero_le DE;rw[Zb] at m9;let hb:b<↥Pu:=⋯
 clear DE m9
 apply⟨li mR good λqs D O2 hq cls gr=>⟨_,(),?_⟩⟩;apply⟨lT mR good hq λws O3 cw gr'=>⟨lG,?_⟩⟩;apply⟨?_⟩;apply⟨⟨⟨∅,∅⟩,λn n0 n3=>⟨⟨⋯,⋯⟩,adj ns i bj A Pu W b qs,⟨Pu,qs,ws,_,_,_,_,_,_,_,mR,cw,hb,()⟩,?_,?_⟩⟩⟩
 rotate_left
 .rintro sl O4 ⟨ef,p,M7,z8,z9,M6,M5,M4,M3,M2,_,_,_,rfl⟩;apply⟨⟨_,(),_,(),_,(),DT,li mR good λyU D' O5 YC alm gr'=>⟨_,(),dT,λz=>?_,λ_=>⟨_,_,_,_,_,_,_,_,_,_,_,_,_,_,()⟩⟩⟩⟩;exfalso;let z:(!DG (.tuple (yU.map qD)) (.tuple (qs.map qD)))=true:=z;rw[xM,YC,hq,aea rfl] at z;cases z
 rintro j x sl O4 hx ⟨ef,p,M7,z8,z9,M6,M5,M4,M3,M2,Va,cw',qy,rfl⟩;apply⟨(),?_⟩;apply⟨⟨∅,∅⟩,λk k0 k20=>?_⟩;apply⟨⟨∅,Bd.mono (j:=4) (by unfold Bd;decide) ∅⟩,?_⟩;generalize hl:Rat.divInt (10+1+k) 10=l;let mf':=qu Va;let pb:=mf'.pu _ (ly (d:=(0:Rat)) qy);apply⟨⟨_,bB (ky (f:=qD) (d:=(0:Rat)) qy),ef\b,l,(),⟨pb.2.mono ∅,?_⟩,?_⟩⟩
 .rw[<- hl,Xe];exact(io (fw (k:=5) (by unfold Bd;omega) ∅) (fw (k:=4) (by unfold Bd;decide) ∅) (RT.kQ ∅)).mono ∅
 let pl:↥(ef.map qD)=↥ef:=Zb ..;let n6':=mf'.n6;let e1:=RP (xs:=ef.map qD) (b:=b) ⋯;let e2:cutD (ef.map qD) none ↑(b:Int)++[qD (pU (ef\b) l)]++cutD (ef.map qD) ↑((b:Int)+1) none=(ef.set b (l*(ef\b))).map qD:=by
  rw[e1,show(b:Int)+1=((b+1:Nat):Int) from rfl,RQ ⋯,K4 qy,show pU (ef\b) l=l*(ef\b) from Rat.mul_comm _ _]
 generalize YN:ef.set b (l*(ef\b))=Nu at e2;let nl:↥(Nu.map qD)<=6:=by rw[<- YN,Zb,Yi];omega
 apply⟨⟨DU,AN (by rw[e1,Yw];show _+1<=_;omega),AN (by rw[<- Zv,e2];omega),DT,?_⟩⟩;generalize qD (pU (ef\b) l)=qz at e2;rw[e2];apply⟨?_⟩;conv=>whnf
 apply⟨λIu=>?_,λ_=>⟨ef,p,M7,_,_,_,_,_,_,_,Va,cw',qy,()⟩⟩;let l1:1<l:=by
  rw[<- hl,Xe];let h3:((11:Int):Rat)<=((10+1+k:Int):Rat):=Rat.intCast_le_intCast.mpr ⋯;generalize ((10+1+k:Int):Rat)=u at h3;let e:((10:Int):Rat)=10:=rfl;let e':((11:Int):Rat)=11:=rfl;rw[e];rw[e'] at h3
  grind
 let acM:cK (dJ A (ef.set b (l*(ef\b))) W):=by rw[YN];exact Iu
 show Go _ _ [↑(.yT ns),Φ9 (.int (i:Int)),↑(.bag bj),Φ9 (dJ A Pu W),Φ9 (.int (b:Int)),Φ9 (.tuple (qs.map qD)),Φ9 (.list [.tuple (p.map qD),.tuple (M7.map qD)]),Φ9 (dJ A Nu W),↑x,Φ9 (bi A),Φ9 (.tuple (ef.map qD)),Φ9 (.tuple (W.map bi)),Φ9 (qD l),Φ9 qz,Φ9 (dJ A Nu W)] O4;apply⟨⟨A,ef,W,b,l,p,M7,by rw[YN],acM,good,qy,l1,cw',λO5 gr5=>⟨λz=>(by cases z),λ_=>?_⟩⟩⟩;exact⟨li Iu good λq1 D1 O6 h1 _ _=>⟨_,(),lT Iu good h1 λw2 O7 cw2 _=>⟨lG,Nu,_,_,_,_,_,_,_,_,_,Iu,cw2,by rw[<- YN,Yi];exact qy,()⟩⟩⟩
end MI
namespace Bq
open L2 KG EX KM MI
section
variable {P:Program}{w:World}{K:Θ1}{mg:Θ3}{base:Heap}
def qC:ak D5 ["before","market","buyer"] (bD (top 88)):=L2.di
def QW {f TW fWt fLs fRi  : Addr}{fd T1 dWt dLs dRi:FuncData}(F:cU K "_law_grown_right" "_law_grown_right" (top 88) f fd)(N:Nm mg)(Cl:bP K mg P w base "clear" 12 ["market"] (cF K uJ) TW T1)(Wt:bP K mg P w base "worths" 13 ["market"] (cF K xq) fWt dWt)(Ls:bP K mg P w base "_law_less" 1 ["one","other"] j5 fLs dLs)(Ri:bP K mg P w base "rises" 10 Ψ8 (cF K jv) fRi dRi):aF P w K mg base bX 14 f fd ["before","market","buyer"] (cF K IQ) :=
 jQ F qC (λO xs P PX h=>by let⟨_,_,_,_,_,_,_,rfl,_⟩:=h;rfl) (λbG A outer s H E QX hr=>⟨U4,(cS (ii (i:=3) qC.nd rfl (Or.inr rfl) (cM (dj Cl gv hr (aB (mv 1) aR)) ck))
 (cS (ii (i:=4) qC.nd rfl (Or.inr rfl) (dj Wt gv hr (aB (mv 1) aR)))
 (cS (tE (i:=5) qC.nd rfl rfl (own:=["good"]) (cap:=["before","prices"]) (ix:=[0,3]) (aH.of (bD (top 88)).names D5) rfl (Hl rfl N.range (aB (yZ eQ lP (by rfl) N.len Yj (aB (mv 3) aR)) aR)) (pM ∅)
 (λC fp s H=>⟨(d5 (i:=0) (Ψ9 ["good","before","prices"])),(ij (ic (dj Ls nI hr (aB (cM (mv 2) (mv 0)) (aB (cM (cM (mv 1) ck) (mv 0)) aR))))),(mv 0)⟩))
 (cS (iS (PW.pt (WJ (yV (uR hr.units) uT (mv 5) (Bk aR) (aL _)) (Rk (yV (Ek hr.units) En (mv 3) (cM (mv 0) ck) (aL _))))) (d9 (iJ mG)) fD)
 (cS (tE (i:=6) qC.nd rfl rfl (own:=["other"]) (cap:=["buyer"]) (ix:=[2]) (aH.of (bD (top 88)).names D5) rfl (Hl rfl N.range (aB (yZ eQ lP (by rfl) N.len Yj (aB (mv 4) aR)) aR)) (pM ∅)
 (λC fp s H=>⟨(d5 (i:=0) (Ψ9 ["other","buyer"])),(ij (yV (uR hr.units) uT (mv 0) (mv 1) (aL _))),(mv 0)⟩))
 (cS (iS (yV (uR hr.units) uT (pV (own:=["other"]) (cap:=["before","due"]) (ix:=[0,4]) (aH.of (bD (top 88)).names D5) rfl (qq (mv 6)) (pM ∅)
 (λC fp s H=>⟨(d5 (i:=0) (Ψ9 ["other","before","due"])),(ij (ic (dj Ls nI hr (aB (cM (cM (mv 1) ck) (mv 0)) (aB (cM (mv 2) (mv 0)) aR))))),(mv 0)⟩)) (Bk aR) (aL _)) (d9 (iJ mG)) fD)
 (cS (iS (ic (dj Ls nI hr (aB (cM (mv 4) (mv 2)) (aB (cM (cM (mv 0) ck) (mv 2)) aR)))) (d9 (iJ mG)) fD)
 (cS (gz (i:=7) qC.nd (dj Ri gv hr (aB (mv 1) (aB (cM (mv 0) ck) aR))))
 (d9 (iJ (Rr (oE (uR hr.units) uT (mv 7) (Bk aR) (aL _)) (Rq (oE (Ek hr.units) En (cM (cM (mv 7) (lO ck)) ck) (mv 3) (aL _)))))))))))))),λO xs Pq h=>P2 O xs Pq QX h⟩)
def eO:ak Fx ["script"] (bD (top 89)):=L2.di
def Kl {f TX fMk fT TW fWt TV fMu fIm fGr  : Addr}{fd T3 dMk dT T1 dWt dLf dMu dIm dGr:FuncData}(F:cU K "law" "law" (top 89) f fd)(N:Nm mg)(Bg:bP K mg P w base "_law_bag" 1 ["script","k"] (Ed K) TX T3)(Mk:bP K mg P w base "_law_market" 3 ["bag"] (cF K IN) fMk dMk)(T:bP K mg P w base "_law_take" 1 ["bag","many"] lK fT dT)(Cl:bP K mg P w base "clear" 12 ["market"] (cF K uJ) TW T1)(Wt:bP K mg P w base "worths" 13 ["market"] (cF K xq) fWt dWt)(Lf:bP K mg P w base "_law_frac" 1 ["top","bottom"] DM TV dLf)(Mu:bP K mg P w base "_law_mul" 2 ["one","other"] (Hf pU) fMu dMu)(Im:bP K mg P w base "is_market" 5 ["thing"] (spT cK) fIm dIm)(Gr:bP K mg P w base "_law_grown_right" 14 ["before","market","buyer"] (cF K IQ) fGr dGr):aF P w K mg base bX 15 f fd ["script"] (cF K OA) :=
 jQ F eO (λO xs P PX h=>by let⟨_,rfl,_⟩:=h;rfl) (λbG A outer s H E QX hr=>⟨Fb,(cS (gl ama rfl (Hl rfl N.range (aB (wG (yZ (CT rfl) Kz (by rfl) N.min boot_min (aB (yZ (adc K) KD (by rfl) N.len Yj (aB (mv 0) aR)) (aB ck aR))) ck) aR)) (d5 (i:=1) eO.nd) (cS (gz (i:=2) eO.nd (dj Bg Ry hr (aB (mv 0) (aB (mv 1) aR))))
 (cS (gz (i:=3) eO.nd (dj Mk gv hr (aB (mv 2) aR)))
 (cS (gz (i:=4) eO.nd (dj T C7 hr (aB (mv 2) (aB (yZ eQ lP (by rfl) N.len Yj (aB (cM (mv 3) ck) aR)) aR))))
 (cS (gz (i:=5) eO.nd (cM (dj Cl gv hr (aB (mv 3) aR)) ck))
 (cS (gz (i:=6) eO.nd (Bk (aB (mv 5) (aB (dj Wt gv hr (aB (mv 3) aR)) aR))))
 (cS (gz (i:=7) eO.nd (mv 3))
 (cS (gl ama rfl (Hl rfl N.range (aB (wG ck (dj T C7 hr (aB (mv 2) (aB ck aR)))) aR)) (d5 (i:=8) eO.nd) (cS (oD (mv 7) (wF rfl (jm (d5 (i:=9) eO.nd) (jm (d5 (i:=10) eO.nd) (jm (d5 (i:=11) eO.nd) wH)))))
 (cS (gz (i:=12) eO.nd (dj Lf WO hr (aB (wG (wG ck ck) (dj T C7 hr (aB (mv 2) (aB ck aR)))) (aB ck aR))))
 (cS (gz (i:=13) eO.nd (dj Mu DS hr (aB (cM (mv 10) (mv 4)) (aB (mv 12) aR))))
 (cS (gz (i:=14) eO.nd (wE (aB (mv 9) (aB (wG (wG (vD (mv 10) kO (kN (mv 4))) (wE (aB (mv 13) aR))) (vD (mv 10) (kN (wG (mv 4) ck)) kO)) (aB (mv 11) aR)))))
 (d9 (iS (ic (dj Im acI hr (aB (mv 14) aR))) (cS (gz (i:=7) eO.nd (mv 14))
 (cS (iS (EZ (ic (dj Gr gv hr (aB (mv 6) (aB (mv 7) (aB (mv 4) aR)))))) (d9 (iJ mG)) fD)
 (d9 (gz (i:=6) eO.nd (Bk (aB (cM (dj Cl gv hr (aB (mv 7) aR)) ck) (aB (dj Wt gv hr (aB (mv 7) aR)) aR))))))) fD)))))))
 (d9 (iS (yV (uR hr.units) uT (cM (dj Cl gv hr (aB (wE (aB (cM (mv 3) ck) (aB (cM (mv 3) ck) (aB (cM (mv 3) ck) aR)))) aR)) ck) (mv 5) (aL _)) (d9 (iJ mG)) fD))))))))))
 (d9 (iJ mG))),λO xs Pq h=>FQ O xs Pq QX h⟩)
end
end Bq
namespace MI
open L2 KG EX KM RZ
def getD_mem' {α : Type}{l:List α}{i:Nat}{d:α}(h:i<↥l):l.getD i d∈l:=by rw[KM.ao (Zc h)];exact Zw _
def yQ {α : Type}{l:List α}{p q:α->Bool}(h:∀x∈l,p x=q x):l.any p=l.any q:=by
 induction l with
 |nil=>rfl
 |cons x l ih=>rw[Xx,Xx,h x Zk,ih λy hy=>h y (Zi _ hy)]
theorem Aj:∀{xs:List V}{M:Γ1},rR H xs M->aI H xs (M.map bi)
 |_,_,.nil=>.nil
 |_,_,.cons ⟨a,e,h⟩ t=>by subst e;exact .cons (.tup h (xo _)) (Aj t)
def Ji (h:aI H xs (M.map bi)):rQ H xs M:=by
 apply⟨by rw[h.len,Zb],λj x hx=>?_⟩;let⟨d,hd,t⟩:=h.at hx;rw[Zo] at hd;cases hm:M[j]? with
 |none=>rw[hm] at hd;cases hd
 |some r =>
  rw[hm] at hd;cases aaa hd;cases t with |tup h1 h2=>exact⟨_,r,rfl,rfl,by rw[<- i7 h2];exact h1⟩
section
def Vi:az H (G ⟨[],[],[],[]⟩ [] H):=λx o h=>by
 rw[hG]
 .exact h
 .rintro(h |⟨o,h⟩ |⟨k,c,h,_⟩)
  .cases h
  .cases h
  .simp at h
def oA (h:aF Pg wo K mg base bX k f fd ps (cF K F))(c:∀vs H Q E,sp vs H Q E->∃ds:Ξ1,aI H vs ds/\F [] (ds.map .im) (λq O'=>∃d,q=.im d/\O'=[]/\∀z H',az H H'->cr H' z d->Q z H') λ_ _=>False):aF Pg wo K mg base bX k f fd ps sp:=h.imp λvs H Q E hs=>by
 let⟨ds,t,hF⟩:=c vs H Q E hs;apply⟨⟨[],[],[],[]⟩,[],ds.map .im,_,λ_ _=>False,⟨(),Qa,λa h=>(by cases h),λa h=>(by cases h),Qa,λp h=>(by cases h),λa h=>(by cases h),λk c h=>(by simp at h),λk h=>(by cases h)⟩,aI.YV (aI.ay Vi t),hF,λz q O' w' H' hz e r av=>?_,λc O' w' H' h=>h.elim⟩;let⟨d,rfl,rfl,hQ⟩:=hz;exact hQ z H' (Vi.trans (e.ex.ay.trans qe)) (cr.ay qe av)
def vd (h:cr H z (bi ns)):∃a,z=.ref a/\H a=↑(.tup (ns.map V.int)):=by
 cases h with |tup h1 h2=>exact⟨_,rfl,by rw[<- i7 h2];exact h1⟩
def zZ (h:cr H z (eU ns)):∃a,z=.ref a/\H a=↑(.lst (ns.map V.int)):=by
 cases h with |lst h1 h2=>exact⟨_,rfl,by rw[<- i7 h2];exact h1⟩
def k8 (gs:List Nat):uE gs=bi (gs.map λg:Nat=>(g:Int)):=by unfold uE bi;rw[Zp];rfl
def lZ (gs:List Nat):df gs=(gs.map λg:Nat=>(g:Int)).map V.int:=by unfold df;rw[Zp];rfl
def EC (m:eN b H p pa pp pw xa xp xw am pu wi):∃A Pu W,cr H (.ref p) (dJ A Pu W)/\cK (dJ A Pu W)/\am.map br=A/\rM pu=Pu/\rowsOf wi=W/\↥xa=↥A:=by
 let⟨A,Pu,W,e⟩:=Kt m.ok;let t:=m.tr;let ok:=m.ok;rw[e] at t ok;let e1:am=A.map .int:=by have:=ata (λd=>match d with |PyData.tuple [.tuple x,_,_]=>x |_=>[]) e;exact this
 let e2:pu=Pu.map qD:=by have:=ata (λd=>match d with |PyData.tuple [_,.tuple x,_]=>x |_=>[]) e;exact this
 let e3:wi=W.map bi:=by have:=ata (λd=>match d with |PyData.tuple [_,_,.tuple x]=>x |_=>[]) e;exact this
 apply⟨A,Pu,W,ni (λ_ _ h=>h) (EY A Pu W) t,ok,?_,?_,?_,?_⟩
 .rw[e1];exact oY A
 .rw[e2];exact gL Pu
 .rw[e3];exact Np W
 .rw[m.ta.len,e1,Zb]
def J0 (h:aF Pg wo K mg base bX k f fd ps (cF K DY)):aF Pg wo K mg base bX k f fd ps zh:=oA h λvs H Q E h9=>by
 let⟨b,p,pa,pp,pw,xa,xp,xw,am,pu,wi,e,m,q⟩:=h9;subst e;let⟨A,Pu,W,t,ok,rfl,rfl,rfl,la⟩:=EC m;let mf:=qu ok;apply⟨[_],.cons t .nil,_,_,_,(),mf.g6,by rw[mf.wl];exact mf.n6,mf.wr,_,(),(),λz H' s tz=>?_⟩;let⟨a,rfl,ha⟩:=vd tz;exact q a H' s (by rw[ha,lV,la];rfl)
def QL (h:aF Pg wo K mg base bX k f fd ps (cF K DZ)):aF Pg wo K mg base bX k f fd ps Us:=oA h λvs H Q E h9=>by
 let⟨pb,pg,xs,M,gs,e,h1,h2,h3,m6,r6,q⟩:=h9;subst e;apply⟨[.tuple (M.map bi),uE gs],.cons (.tup h1 ?_) (.cons (by rw[k8];exact .tup h3 (by rw[lZ];exact xo _)) .nil),M,gs.map λg:Nat=>(g:Int),by rw[k8];rfl,m6,λi hi=>r6 _ (getD_mem' hi),_,(),(),λz H' s tz=>?_⟩
 .exact Aj h2
 .rw[k8] at tz;let⟨a,rfl,ha⟩:=vd tz;apply q a H' s ?_;rw[ha,lZ]
  congr 4
  unfold p6;apply Y4 λi _=>?_
  unfold b9;apply yQ λg _=>?_
  rw[Ya,Z7,Zd,Z6];exact⟨λ⟨x,hx,e⟩=>⟨x,hx,aea e⟩,λ⟨x,hx,e⟩=>⟨x,hx,aia e⟩⟩
def J1 (h:aF Pg wo K mg base bX k f fd ps (cF K u4)):aF Pg wo K mg base bX k f fd ps EK:=oA h λvs H Q E h9=>by
 let⟨l,ns,e,h1,n6,q⟩:=h9;subst e;apply⟨[bi ns],.cons (.tup h1 (xo _)) .nil,ns,(),n6,_,(),(),λz H' s tz=>?_⟩;cases tz with |lst a1 a2=>exact q _ _ H' s a1 (Ji a2)
def QN (h:aF Pg wo K mg base bX k f fd ps (cF K lQ)):aF Pg wo K mg base bX k f fd ps Uu:=oA h λvs H Q E h9=>by
 let⟨l,t,ms,S,e,h1,h2,s6,sl,q⟩:=h9;subst e;apply⟨[eU ms,uE S],.cons (.lst h1 (xo _)) (.cons (by rw[k8];exact .tup h2 (by rw[lZ];exact xo _)) .nil),ms,S,(),s6,sl,_,(),(),λz H' s tz=>?_⟩;rw[gR tz];exact q H' s
def QM (h:aF Pg wo K mg base bX k f fd ps (cF K xr)):aF Pg wo K mg base bX k f fd ps Ai:=oA h λvs H Q E h9=>by
 let⟨b,p,pa,pp,pw,qa,xa,xp,xw,ys,am,pu,wi,qs,e,m,pr,hl,q⟩:=h9;subst e;let⟨A,Pu,W,t,ok,rfl,rfl,rfl,la⟩:=EC m;let mf:=qu ok;apply⟨[_,.tuple (qs.map qD)],.cons t (.cons (ni (b:=b) (λ_ _ h=>h) (sF qs) (.tup pr.hq pr.tr)) .nil),_,_,_,qs,2010000,(),⋯,mf.g6,mf.n6,mf.am,λz hz=>(mf.pu z hz).2,Zf _,∅,pr.bd,λc ms ps hc im ip _ _=>⟨_,(),(),λz H' s tz=>?_⟩⟩;cases tz with |tup a1 a2=>?_
 cases a2 with |cons b1 a2=>?_
 cases a2 with |cons b2 a2=>?_
 cases a2
 let⟨r1,rfl,h1⟩:=zZ b1;let⟨r2,rfl,h2⟩:=zZ b2;exact q _ r1 r2 c ms ps H' s hc im ip a1 h1 h2
def Gp (h:aF Pg wo K mg base bX k f fd ps DM):aF Pg wo K mg base bX k f fd ps EJ:=h.imp λvs H Q E ⟨t,u,e,u0,u1,q⟩=>by
 apply⟨t,u,e,u0,Vx ⋯,λp hp=>?_⟩;let hg:=(AY (t:=t) u0).1;let⟨e1,e2⟩:=oB (T:=t) (U:=u) ⋯;let es:sg t u=(Int.gcd t u:Int):=by unfold sg;rw[aga ⋯]
 unfold qO;rw[<- e1,<- e2];unfold nx ny;rw[es,Qx _ ⋯,Qx _ ⋯];exact q p hp
end
end MI
namespace MI
open L2 KG EX KM
def db (K:Θ1)(nm:Str)(st:Stmt)(f:Addr):Prop:=∃(oc:Value) (od:Option Addr) (kV dc pm:Value) (an:Option Addr) (cd ct:Value) (sl:Array (Option Value)),PySem.W.nsIn K mainGlobals nm=↑↑(.ref f)/\K.lookup f=↑⟨oc,od,.func (PySem.W.fnOf nm nm (wT st) (uq st) (bD st) .none kV dc pm an cd ct),sl⟩/\PySem.W.codeIn K cd nm/\PySem.W.keepIn K (.ref f)
def YT {P:Δ3->Prop}{n:Nat}(h:∀a us,↥us=n->P (a::us))(us:Δ3)(e:↥us=n+1):P us:=by
 cases us with
 |nil=>cases e
 |cons a us=>exact h a us ‹e›
def el1 {P:Δ3->Prop}(h:∀a,P [a]):∀us:Δ3,↥us=1->P us:=YT λa us e=>by rw[List.eq_nil_of_length_eq_zero e];exact h a
def el2 {P:Δ3->Prop}(h:∀a b,P [a,b]):∀us:Δ3,↥us=2->P us:=YT λa=>el1 (h a)
def el3 {P:Δ3->Prop}(h:∀a b c,P [a,b,c]):∀us:Δ3,↥us=3->P us:=YT λa=>el2 (h a)
def el4 {P:Δ3->Prop}(h:∀a b c d,P [a,b,c,d]):∀us:Δ3,↥us=4->P us:=YT λa=>el3 (h a)
structure Fg (K:Θ1)(mg:Θ3)(nm:Str)(ps:Δ2)(st:Stmt)(f:Addr)(fd:FuncData):Prop where
 F:cU K nm nm st f fd
 mg:mg nm=↑(.ref f)
 kp:PySem.W.keepIn K (.ref f)
 bd:Binds K fd ps []
section
variable {mg:Θ3}
def Fg.c (a:Fg K mg nm ps st f fd)(l:PySem.W.OpenLaw)(w:World)(base:Heap)(o:aF l.prog w K mg base bX k f fd ps sp):bP K mg l.prog w base nm k ps sp f fd:=⟨o,a.mg,a.kp,a.bd⟩
def Fg.of (X:K.In hh)(G:hh.Ns mainGlobals mg)(a:db K nm st f)(hb:∀(kV gU pm:Value) (an:Option Addr) (bG ct:Value) (us:Δ3),↥us=↥ps->bindArgs (PySem.W.fnOf nm nm (wT st) (uq st) (bD st) .none kV gU pm an bG ct) ⟨us,[]⟩=pure (ps.zip us)):∃fd,Fg K mg nm ps st f fd:=by
 let⟨_,_,_,_,_,_,_,_,_,a,l,c,k⟩:=a;exact⟨_,xK l c k,PySem.W.mg_of X G a,k,(xK l c k).binds hb⟩
def pZ (ps:Δ2)(X:K.In hh)(G:hh.Ns mainGlobals mg)(a:db K nm st f)(hb:∀(kV gU pm:Value) (an:Option Addr) (bG ct a:Value),bindArgs (PySem.W.fnOf nm nm (wT st) (uq st) (bD st) .none kV gU pm an bG ct) ⟨[a],[]⟩=pure (ps.zip [a]):=by intros;rfl)(hl:↥ps=1:=by rfl):∃fd,Fg K mg nm ps st f fd:=Fg.of X G a λkV gU pm an bG ct us hu=>el1 (P:=λus=>bindArgs (PySem.W.fnOf nm nm (wT st) (uq st) (bD st) .none kV gU pm an bG ct) ⟨us,[]⟩=pure (ps.zip us)) (hb kV gU pm an bG ct) us (hu.trans hl)
def jR (ps:Δ2)(X:K.In hh)(G:hh.Ns mainGlobals mg)(a:db K nm st f)(hb:∀(kV gU pm:Value) (an:Option Addr) (bG ct a b:Value),bindArgs (PySem.W.fnOf nm nm (wT st) (uq st) (bD st) .none kV gU pm an bG ct) ⟨[a,b],[]⟩=pure (ps.zip [a,b]):=by intros;rfl)(hl:↥ps=2:=by rfl):∃fd,Fg K mg nm ps st f fd:=Fg.of X G a λkV gU pm an bG ct us hu=>el2 (P:=λus=>bindArgs (PySem.W.fnOf nm nm (wT st) (uq st) (bD st) .none kV gU pm an bG ct) ⟨us,[]⟩=pure (ps.zip us)) (hb kV gU pm an bG ct) us (hu.trans hl)
def NO (ps:Δ2)(X:K.In hh)(G:hh.Ns mainGlobals mg)(a:db K nm st f)(hb:∀(kV gU pm:Value) (an:Option Addr) (bG ct a b c:Value),bindArgs (PySem.W.fnOf nm nm (wT st) (uq st) (bD st) .none kV gU pm an bG ct) ⟨[a,b,c],[]⟩=pure (ps.zip [a,b,c]):=by intros;rfl)(hl:↥ps=3:=by rfl):∃fd,Fg K mg nm ps st f fd:=Fg.of X G a λkV gU pm an bG ct us hu=>el3 (P:=λus=>bindArgs (PySem.W.fnOf nm nm (wT st) (uq st) (bD st) .none kV gU pm an bG ct) ⟨us,[]⟩=pure (ps.zip us)) (hb kV gU pm an bG ct) us (hu.trans hl)
def YR (ps:Δ2)(X:K.In hh)(G:hh.Ns mainGlobals mg)(a:db K nm st f)(hb:∀(kV gU pm:Value) (an:Option Addr) (bG ct a b c d:Value),bindArgs (PySem.W.fnOf nm nm (wT st) (uq st) (bD st) .none kV gU pm an bG ct) ⟨[a,b,c,d],[]⟩=pure (ps.zip [a,b,c,d]):=by intros;rfl)(hl:↥ps=4:=by rfl):∃fd,Fg K mg nm ps st f fd:=Fg.of X G a λkV gU pm an bG ct us hu=>el4 (P:=λus=>bindArgs (PySem.W.fnOf nm nm (wT st) (uq st) (bD st) .none kV gU pm an bG ct) ⟨us,[]⟩=pure (ps.zip us)) (hb kV gU pm an bG ct) us (hu.trans hl)
end
end MI
namespace Bq
open L2 KG EX KM MI
def all_mk {l:PySem.W.OpenLaw}{w:World}{K:Θ1}{h:Heap}{mg:Θ3}{fa:Addr}(X:K.In h)(G:h.Ns mainGlobals mg)(hfa:mg "law"=↑(.ref fa))(tr:l.prog.given.tree=none)
  {f0 f1 f2 f3 f4 f5 f6 f7 f8 f9 f10 f11 f12 f13 f14 f15 f16 f17 f18 f19 f20 f21 f22 f23 f24 f25 f26 f27 f28 f29 f30 f31 f32 f33 f34 f35 f36 f37 f38 f39 f40 f41 f42 f43 f44 f45 f46 f47 f48 f49 f50 f51 f52 f53 f54 f55 f56 f57 f58 f59 f60 f61 f62 f63 f64 M Nn Pr De Un:Addr}{tk0:Tok}{tk1:Tok}{Na:Tok}{SX:Tok}{tk4:Tok}
  (a0:db K "is_whole" (top 7) f0)
  (a1:db K "is_fraction" (top 8) f1)
  (a2:db K "common_divisor" (top 9) f2)
  (a3:db K "fraction" (top 10) f3)
  (a4:db K "plus" (top 11) f4)
  (a5:db K "times" (top 12) f5)
  (a6:db K "over" (top 13) f6)
  (a7:db K "less" (top 14) f7)
  (a8:db K "total" (top 15) f8)
  (a9:db K "least" (top 16) f9)
  (a10:db K "greatest" (top 17) f10)
  (a11:db K "on_one_bottom" (top 18) f11)
  (a12:db K "is_market" (top 25) f12)
  (a13:db K "are_amounts" (top 26) f13)
  (a14:db K "are_purses" (top 27) f14)
  (a15:db K "are_wishes" (top 28) f15)
  (a16:db K "is_wish_row" (top 29) f16)
  (a17:db K "is_amount" (top 30) f17)
  (a18:db K "is_purse" (top 31) f18)
  (a19:db K "is_wish" (top 32) f19)
  (a20:db K "wished" (top 33) f20)
  (a21:db K "wishless" (top 34) f21)
  (a22:db K "are_prices" (top 36) f22)
  (a23:db K "need_prices" (top 37) f23)
  (a24:db K "money_by_good" (top 38) f24)
  (a25:db K "best_goods" (top 39) f25)
  (a26:db K "best_by_wishes" (top 40) f26)
  (a27:db K "rate" (top 41) f27)
  (a28:db K "takers_by_best" (top 42) f28)
  (a29:db K "all_sets" (top 44) f29)
  (a30:db K "in_coins" (top 45) f30)
  (a31:db K "coins_of" (top 46) f31)
  (a32:db K "goods_above" (top 47) f32)
  (a33:db K "paid_goods" (top 48) f33)
  (a34:db K "rise" (top 50) f34)
  (a35:db K "loosened" (top 51) f35)
  (a36:db K "paying_factors" (top 52) f36)
  (a37:db K "meeting_factors" (top 53) f37)
  (a38:db K "raised" (top 54) f38)
  (a39:db K "first_prices" (top 55) f39)
  (a40:db K "greatest_share" (top 56) f40)
  (a41:db K "rises" (top 57) f41)
  (a42:db K "prices_behind" (top 58) f42)
  (a43:db K "worth_of" (top 60) f43)
  (a44:db K "worths_of" (top 61) f44)
  (a45:db K "clear" (top 63) f45)
  (a46:db K "prices_that_clear" (top 64) f46)
  (a47:db K "dealing_at" (top 65) f47)
  (a48:db K "dealing_by" (top 66) f48)
  (a49:db K "pieces_for" (top 67) f49)
  (a50:db K "spend" (top 68) f50)
  (a51:db K "way_to_unsold" (top 69) f51)
  (a52:db K "most_along" (top 70) f52)
  (a53:db K "send_along" (top 71) f53)
  (a54:db K "worths" (top 72) f54)
  (a55:db K "_law_bag" (top 74) f55)
  (a56:db K "_law_take" (top 75) f56)
  (a57:db K "_law_frac" (top 76) f57)
  (a58:db K "_law_mul" (top 79) f58)
  (a59:db K "_law_less" (top 81) f59)
  (a60:db K "_law_purse" (top 84) f60)
  (a61:db K "_law_wishes" (top 85) f61)
  (a62:db K "_law_market" (top 86) f62)
  (a63:db K "_law_grown_right" (top 88) f63)
  (a64:db K "law" (top 89) f64)
  (z0:PySem.W.nsIn K mainGlobals "len"=↑none)
  (z1:PySem.W.nsIn K mainGlobals "range"=↑none)
  (z2:PySem.W.nsIn K mainGlobals "tuple"=↑none)
  (z3:PySem.W.nsIn K mainGlobals "list"=↑none)
  (z4:PySem.W.nsIn K mainGlobals "all"=↑none)
  (z5:PySem.W.nsIn K mainGlobals "any"=↑none)
  (z6:PySem.W.nsIn K mainGlobals "max"=↑none)
  (z7:PySem.W.nsIn K mainGlobals "min"=↑none)
  (z8:PySem.W.nsIn K mainGlobals "sum"=↑none)
  (z9:PySem.W.nsIn K mainGlobals "abs"=↑none)
  (M6:PySem.W.nsIn K mainGlobals "int"=↑none)
  (M5:PySem.W.nsIn K mainGlobals "isinstance"=↑none)
  (M4:PySem.W.nsIn K mainGlobals "bool"=↑none)
  (M3:PySem.W.nsIn K mainGlobals "enumerate"=↑none)
  (M2:PySem.W.nsIn K mainGlobals "ValueError"=↑none)
  (NV:PySem.W.nsIn K mainGlobals "zip"=↑none)
  (jj:PySem.W.nsIn K mainGlobals "MOST_GOODS"=↑↑(.int 6 tk0))
  (iB:PySem.W.nsIn K mainGlobals "MOST_BUYERS"=↑↑(.int 6 tk1))
  (iA:PySem.W.nsIn K mainGlobals "MOST_PIECES"=↑↑(.int 60 Na))
  (ko:PySem.W.nsIn K mainGlobals "MOST_WISH"=↑↑(.int 100 SX))
  (fK:PySem.W.nsIn K mainGlobals "MOST_IN_PURSE"=↑↑(.int 1000000 tk4))
  (gM:PySem.W.nsIn K mainGlobals "MartError"=↑↑(.ref M))
  (gNn:PySem.W.nsIn K mainGlobals "NoNumber"=↑↑(.ref Nn))
  (gPr:PySem.W.nsIn K mainGlobals "NoPrices"=↑↑(.ref Pr))
  (gDe:PySem.W.nsIn K mainGlobals "Dear"=↑↑(.ref De))
  (gUn:PySem.W.nsIn K mainGlobals "Unwished"=↑↑(.ref Un))
  (ti1:PySem.W.kitOne K (.type "NoneType") (.type "int")=↑false)
  (ti2:PySem.W.kitOne K (.type "bool") (.type "int")=↑true)
  (ZR:PySem.W.kitOne K (.type "int") (.type "int")=↑true)
  (ZQ:PySem.W.kitOne K (.type "str") (.type "int")=↑false)
  (ZP:PySem.W.kitOne K (.type "list") (.type "int")=↑false)
  (ZO:PySem.W.kitOne K (.type "tuple") (.type "int")=↑false)
  (ZX:PySem.W.kitOne K (.type "NoneType") (.type "bool")=↑false)
  (ZW:PySem.W.kitOne K (.type "bool") (.type "bool")=↑true)
  (ZV:PySem.W.kitOne K (.type "int") (.type "bool")=↑false)
  (ZU:PySem.W.kitOne K (.type "str") (.type "bool")=↑false)
  (ZT:PySem.W.kitOne K (.type "list") (.type "bool")=↑false)
  (ZS:PySem.W.kitOne K (.type "tuple") (.type "bool")=↑false)
  (Dp:PySem.W.kitOne K (.type "NoneType") (.type "tuple")=↑false)
  (C0:PySem.W.kitOne K (.type "bool") (.type "tuple")=↑false)
  (ZK:PySem.W.kitOne K (.type "int") (.type "tuple")=↑false)
  (ZJ:PySem.W.kitOne K (.type "str") (.type "tuple")=↑false)
  (ZI:PySem.W.kitOne K (.type "list") (.type "tuple")=↑false)
  (ZH:PySem.W.kitOne K (.type "tuple") (.type "tuple")=↑true)
  (OE:PySem.W.excIn K Nn [.type "ValueError",.type "Exception",.type "BaseException",.type "object"] "ValueError.__new__")
  (OD:PySem.W.excIn K Pr [.type "ValueError",.type "Exception",.type "BaseException",.type "object"] "ValueError.__new__")
  (OF:PySem.W.excIn K De [.type "ValueError",.type "Exception",.type "BaseException",.type "object"] "ValueError.__new__")
  (OC:PySem.W.excIn K Un [.type "ValueError",.type "Exception",.type "BaseException",.type "object"] "ValueError.__new__") :
  ∃fd:FuncData,(∀(s:Shared) (v:Value),BindsTo s fd ⟨[v],[]⟩ [("script",v)])/\∀base:Heap,K.In base->base.Ns mainGlobals mg->aF l.prog w K mg base bX 15 fa fd ["script"] (zi K):=by
 let⟨_,F0⟩:=pZ ["thing"] X G a0;let⟨_,F1⟩:=pZ ["thing"] X G a1;let⟨_,F2⟩:=jR ["one","other"] X G a2;let⟨_,F3⟩:=jR ["top","bottom"] X G a3;let⟨_,F4⟩:=jR ["one","other"] X G a4;let⟨_,F5⟩:=jR ["one","other"] X G a5;let⟨_,F6⟩:=jR ["one","other"] X G a6;let⟨_,F7⟩:=jR ["one","other"] X G a7;let⟨_,F8⟩:=pZ ["parts"] X G a8;let⟨_,F9⟩:=pZ ["parts"] X G a9;let⟨_,F10⟩:=pZ ["parts"] X G a10;let⟨_,F11⟩:=pZ ["parts"] X G a11;let⟨_,F12⟩:=pZ ["thing"] X G a12;let⟨_,F13⟩:=pZ ["thing"] X G a13;let⟨_,F14⟩:=pZ ["thing"] X G a14;let⟨_,F15⟩:=NO ["thing","buyers","goods"] X G a15;let⟨_,F16⟩:=jR ["thing","goods"] X G a16;let⟨_,F17⟩:=pZ ["thing"] X G a17;let⟨_,F18⟩:=pZ ["thing"] X G a18;let⟨_,F19⟩:=pZ ["thing"] X G a19;let⟨_,ZF⟩:=pZ ["market"] X G a20;let⟨_,F21⟩:=pZ ["market"] X G a21;let⟨_,F22⟩:=jR ["market","thing"] X G a22;let⟨_,F23⟩:=jR ["market","thing"] X G a23;let⟨_,F24⟩:=jR Ψ8 X G a24;let⟨_,F25⟩:=jR Ψ8 X G a25;let⟨_,F26⟩:=jR ["row","prices"] X G a26;let⟨_,F27⟩:=jR ["wish","price"] X G a27;let⟨_,ZE⟩:=jR ["best","goods"] X G a28;let⟨_,ZD⟩:=pZ ["members"] X G a29;let⟨_,ZC⟩:=jR Ψ8 X G a30;let⟨_,ZB⟩:=jR ["coins","some"] X G a31;let⟨_,F32⟩:=jR Ψ8 X G a32;let⟨_,F33⟩:=jR Ψ8 X G a33;let⟨_,F34⟩:=jR Ψ8 X G a34;let⟨_,F35⟩:=jR ["best","paid"] X G a35;let⟨_,F36⟩:=YR ["market","prices","loose","rising"] X G a36;let⟨_,F37⟩:=YR ["market","prices","loose","paid"] X G a37;let⟨_,F38⟩:=NO ["prices","rising","factor"] X G a38;let⟨_,F39⟩:=pZ ["market"] X G a39;let⟨_,F40⟩:=jR ["wishes","good"] X G a40;let⟨_,F41⟩:=jR Ψ8 X G a41;let⟨_,F42⟩:=jR ["prices","told"] X G a42;let⟨_,F43⟩:=jR ["wishes","got"] X G a43;let⟨_,F44⟩:=jR ["market","dealing"] X G a44;let⟨_,ZA⟩:=pZ ["market"] X G a45;let⟨_,F46⟩:=pZ ["market"] X G a46;let⟨_,F47⟩:=jR Ψ8 X G a47;let⟨_,F48⟩:=NO ["market","money","spent"] X G a48;let⟨_,F49⟩:=NO ["coins","money","amount"] X G a49;let⟨_,F50⟩:=NO ["best","money","purses"] X G a50;let⟨_,F51⟩:=YR ["best","spent","unsold","buyer"] X G a51;let⟨_,F52⟩:=YR ["way","spent","unsold","left"] X G a52;let⟨_,F53⟩:=NO ["way","spent","coins"] X G a53;let⟨_,F54⟩:=pZ ["market"] X G a54;let⟨_,F55⟩:=jR ["script","k"] X G a55;let⟨_,F56⟩:=jR ["bag","many"] X G a56;let⟨_,YZ⟩:=jR ["top","bottom"] X G a57;let⟨_,F58⟩:=jR ["one","other"] X G a58;let⟨_,F59⟩:=jR ["one","other"] X G a59;let⟨_,F60⟩:=pZ ["bag"] X G a60;let⟨_,F61⟩:=jR ["bag","goods"] X G a61;let⟨_,F62⟩:=pZ ["bag"] X G a62;let⟨_,F63⟩:=NO ["before","market","buyer"] X G a63;let⟨alc,alb,acK,ac6,acy,adf,ada,ac7,ak9,a64,l64,c64,k64⟩:=a64;let e:=hfa.symm.trans (PySem.W.mg_of X G a64);cases e;let N:Nm mg:=⟨Yv X G z0,Yv X G z1,Yv X G z2,Yv X G z3,Yv X G z4,Yv X G z5,Yv X G z6,Yv X G z7,Yv X G z8,Yv X G z9,Yv X G M6,Yv X G M5,Yv X G M4,Yv X G M3,Yv X G M2⟩;let Ir:=Yv X G NV;let Z:Dm K:=⟨ti1,ti2,ZR,ZQ,ZP,ZO,ZX,ZW,ZV,ZU,ZT,ZS,Dp,C0,ZK,ZJ,ZI,ZH⟩;let wu:=PySem.W.mg_of X G jj;let t7:=PySem.W.mg_of X G iB;let tZ:=PySem.W.mg_of X G iA;let yo:=PySem.W.mg_of X G ko;let pG:=PySem.W.mg_of X G fK;let mgM:=PySem.W.mg_of X G gM;let UN:=PySem.W.mg_of X G gNn;let acD:=PySem.W.mg_of X G gPr;let acE:=PySem.W.mg_of X G gDe;let acC:=PySem.W.mg_of X G gUn;let F64:=xK (st:=top 89) l64 c64 k64;apply⟨PySem.W.fnOf "law" "law" (wT (top 89)) (uq (top 89)) (bD (top 89)) .none acK ac6 acy adf ada ac7,λs v=>.of_eq rfl,λbase _ _=>?_⟩;let W:=F0.c l w base (Gq F0.F N Z);let Gc:=F2.c l w base (QY F2.F N);let Gn:=F2.c l w base (Km F2.F N);let IF:=F1.c l w base (Ce F1.F N Z W Gc);let Fr:=F3.c l w base (wf tr F3.F UN OE Gn);let Pl:=F4.c l w base (Kb F4.F Fr);let Ti:=F5.c l w base (Gs F5.F Fr);let Ov:=F6.c l w base (Kd F6.F Fr);let Ls:=F7.c l w base (Kj F7.F);let Gr:=F10.c l w base (we F10.F Ls);let Ra:=F27.c l w base (J9 F27.F Ov);let Wi:=ZF.c l w base (J0 (EV ZF.F N));let Ar:=F22.c l w base (Rf F22.F N Z IF Wi);let Ne:=F23.c l w base (Kf F23.F acD OD Ar);let Bb:=F26.c l w base (WH F26.F N Ra Gr);let Be:=F25.c l w base (WG F25.F N Ne Bb);let Tb:=ZE.c l w base (QL (EW ZE.F N));let WiM:=ZF.c l w base (EV ZF.F N);let TbM:=ZE.c l w base (EW ZE.F N);let AsM:=ZD.c l w base (AB ZD.F N);let CoM:=ZB.c l w base (vt ZB.F N);let MbM:=F24.c l w base (Kh F24.F N Ir Ti);let OOM:=F11.c l w base (Ke tr F11.F N Gn);let ICM:=ZC.c l w base (AA ZC.F N OOM MbM);let As:=ZD.c l w base (J1 (AB ZD.F N));let IC:=ZC.c l w base (QM (AA ZC.F N OOM MbM));let Co:=ZB.c l w base (QN (vt ZB.F N));let GA:=F32.c l w base (WE F32.F Be IC Co Tb As Wi);let PG:=F33.c l w base (WC F33.F N acE OF GA);let LoM:=F35.c l w base (Ki F35.F N);let RsM:=F38.c l w base (Ka F38.F N Ti);let LeM:=F9.c l w base (Gx F9.F N Ls);let PfM:=F36.c l w base (Kc F36.F N ICM Fr CoM TbM AsM);let MfM:=F37.c l w base (Gw F37.F N Ir Ov Ra);let Ri:=F34.c l w base (J8 F34.F N PG WiM Be LoM PfM MfM LeM RsM);let Iam:=F17.c l w base (Cf F17.F N tZ W);let Iwi:=F19.c l w base (J3 F19.F N yo W);let Ipu:=F18.c l w base (yg F18.F N pG IF);let Iwr:=F16.c l w base (ye F16.F N Z Iwi);let Iaa:=F13.c l w base (yh F13.F N wu Z Iam);let Iap:=F14.c l w base (Cc F14.F N t7 Z Ipu);let Iaw:=F15.c l w base (tY F15.F N Z Iwr);let IM:=F12.c l w base (wc F12.F N Z Iaa Iap Iaw);let Wl:=F21.c l w base (WB F21.F N);let Le:=F9.c l w base (Kk F9.F Ls);let GS:=F40.c l w base (WD F40.F N Fr Gr);let FP:=F39.c l w base (WF F39.F N acC OC Wi Wl Le Ov Ti GS);let ToP:=F8.c l w base (J4 F8.F N Pl);let WoP:=F43.c l w base (QQ F43.F N Ir ToP Ti);let WsP:=F44.c l w base (QO F44.F N Ir WoP);let PfP:=F49.c l w base (QT F49.F N Fr);let DbP:=F48.c l w base (QZ F48.F N PfP);let Wy:=F51.c l w base (QR F51.F N);let Mst:=F52.c l w base (Kg F52.F N);let Snd:=F53.c l w base (J7 F53.F N);let Spd:=F50.c l w base (Gu F50.F N Wy Mst Snd);let Dat:=F47.c l w base (Rc F47.F N ICM Be Spd DbP);let Ris:=F41.c l w base (Gv F41.F N Ri);let Pbh:=F42.c l w base (QU F42.F N);let Ptc:=F46.c l w base (QS F46.F N FP Ris Pbh);let Clr:=ZA.c l w base (vw ZA.F N Ptc Dat);let ClG:=ZA.c l w base (RU (vw ZA.F N Ptc Dat));let WtG:=F54.c l w base (Pm (Cb F54.F N WsP Clr));let Bg:=F55.c l w base (Re F55.F N);let T:=F56.c l w base (J5 F56.F);let LfQ:=YZ.c l w base (Mc tr YZ.F N)
 let Lf:=YZ.c l w base (Gp (Mc tr YZ.F N));let Lu:=F60.c l w base (Cd F60.F T Lf);let Lw:=F61.c l w base (QP F61.F N T);let MkL:=F62.c l w base (QV F62.F N T Lu Lw);let LmQ:=F58.c l w base (yf F58.F LfQ);let Ll:=F59.c l w base (v9 F59.F);let Grn:=F63.c l w base (QW F63.F N ClG WtG Ll Ris);exact RB (Kl F64 N Bg MkL T ClG WtG LfQ LmQ IM Grn)
def walk {l:PySem.W.OpenLaw}{q:Program}{loose:Δ2}{XP:(Θ3)->Heap->Prop}{YP:World->Heap->Prop}{d:DefRec}{K:Params->Θ1}(se:PyProof.Rows.importsNone q)(hn:l.most=↑63)(TK:d.params.defaults=[])
  (hY:∀(w:World) (h:Heap),YP w h->(K w.params).In h)
  (F:∀(w:World) (mg:Θ3) (fa:Addr) (h:Heap),(K w.params).In h->h.Ns mainGlobals mg->mg d.name=↑(.ref fa) ->
   ∃fd:FuncData,(∀(s:Shared) (u:Value),BindsTo s fd ⟨[u],[]⟩ [("script",u)])/\∀base:Heap,(K w.params).In base->base.Ns mainGlobals mg->aF l.prog w (K w.params) mg base bX 15 fa fd ["script"] (zi (K w.params))) :
  PySem.W.WalkO q loose XP YP l.row.toRowW d [] (λf vs=>PySem.call f vs) :=
 L2.IZ (n:=63) (k:=15) (x:="script") (CX:=λ_=>bX) (sp:=λw=>zi (K w.params)) se hn ∅ TK ⟨(),∅,∅⟩ hY F (λ_ _ a ns hl _ hS=>⟨a,ns,(),hS,hl,λ_=>rfl⟩) λ_ _ _ _ _ z=>z
end Bq
end
end
open PySem PySem.W PyProof.Rows
namespace PySem.W.Fast
def tw9527397914042312703:=0
def tw5081019949246740429:=0
def tw13111979832285200064:=0
def tw17401545638325398426:=0
def tw16754621680190354568:=0
def tw5400109701216282834:=0
def tw17721828713013671656:=0
def tw4886064228947586887:=0
def tw12866159148798560267:=0
def tw12119791009068048236:=0
def tw10614660588445375552:=0
def tw7924532429715185065:=0
def tw17021588729372336073:=0
def tw13024959884979894156:=0
def tw7794731906004943559:=0
def tw215865326065794360:=0
def tw5475183984295407364:=0
def tw8786376916330830392:=0
def tw3557369655184841112:=0
def tw17054098011239104729:=0
def tw76722282956767474:=0
def tw4250306348868819716:=0
def tw1044257010620014715:=0
def tw10040414561110345924:=0
def tw15117943100906164000:=0
def tw8614541000472573600:=0
def tw8880952844562656000:=0
def tw17312407000175133395:=0
def tw6583408964585024074:=0
def tw3555971361092198440:=0
def tw9096622326848803304:=0
def tw5160032716065869875:=0
def tw12493025455394437898:=0
def tw2696463715962711868:=0
def tw17156816892292386872:=0
def tw17756032623057785016:=0
def tw8962280199190782549:=0
def tw8676114537967535463:=0
def tw9967898762883419919:=0
def tw2066347883317839274:=0
def tw8716944600284465335:=0
def tw15754169008021563870:=0
def tw4531281704266524602:=0
def tw11510201814073758147:=0
def tw2463724788495041944:=0
def tw14754206858457037625:=0
def tw2561613110933161021:=0
def tw16094316326901965137:=0
def tw2700990744118140806:=0
def tw14220767674488640177:=0
def tw4856560523887920258:=0
def tw14652532742660912272:=0
def tw7485172300542514728:=0
def tw15411936355609927091:=0
def tw10712985885912538164:=0
def tw7508857069348487478:=0
def tw1332486994096516979:=0
def tw12135236250905436655:=0
def tw5528520439661839936:=0
def tw13409858395875444842:=0
def tw12176190035576812043:=0
def tw14956564316577827404:=0
def tw13377141519380809494:=0
def tw6308353866742117774:=0
def tw5829436982206022461:=0
def tw5994709887842096464:=0
def tw11224952873149084798:=0
def tw3670195715638357268:=0
def tw5717240349920290386:=0
def tw1314637434704616246:=0
def tw4844989483808171009:=0
def tw16390774764487192587:=0
def tw14202514929479040771:=0
def tw13486414759148595882:=0
def tw16183908049456245845:=0
def tw6459765728708411165:=0
def tw16779320908633203153:=0
def tw16590858598245977989:=0
def tw13495577259570743566:=0
def tw10942274156825764068:=0
def tw6075611256621537904:=0
def tw7827068115595526645:=0
def tw4201410876013156433:=0
def tw7952904546927384358:=0
def tw3414587324224871623:=0
def tw10925413223933185053:=0
def tw5080888420305004441:=0
def tw16142854834476722892:=0
def tw11909567252006688302:=0
def tw11877905018096019212:=0
def tw5579795871161782228:=0
def tw5579991365524251578:=0
def tw3114515158351193819:=0
def tw3345038579975686446:=0
def tw551783243098207022:=0
def tw18169301434358524236:=0
def tw17732036626106849995:=0
def tw2737450610785237577:=0
def tw11344649863577004097:=0
def tw11524349050956894127:=0
def tw17482915119388858731:=0
def tw13453374692122610448:=0
def tw13429886159544234617:=0
def tw14328367568024434824:=0
def tw11882644603518127040:=0
def tw11767973273891083181:=0
def tw13072913625018093201:=0
def tw5631948184248567590:=0
def tw3656434503368333206:=0
def tw7753315518878272222:=0
def tw9232988488635794601:=0
def tw7304919833943789960:=0
def tw7893577225756425131:=0
def tw16056232896328323605:=0
def tw13460431788466899518:=0
def tw1029286246892852902:=0
def tw4457223465892360435:=0
def tw3081731029678380618:=0
def tw15853479149017428127:=0
def tw8431510149857788746:=0
def tw979637121058756177:=0
def tw13289318331948509138:=0
def tw4805074852985959701:=0
def tw6104784819641026665:=0
def tw10050882698639870130:=0
def tw12284185324204143869:=0
def tw16050812000166306873:=0
def tw1229994192753870650:=0
def tw11307794029949117205:=0
def tw17538208229589867832:=0
def tw5886236675516257154:=0
def tw14957909526360525329:=0
def tw270137230373707372:=0
def tw1740159324091289650:=0
def tw6489766978392826747:=0
def tw853859945347010073:=0
def tw9109612308331627963:=0
def tw8331326877986992502:=0
def tw4148547724017437211:=0
def tw11549334961981364760:=0
def tw17566557325469841098:=0
def tw7346394783414970570:=0
def tw1488203621984439079:=0
def tw14417613139584864454:=0
def tw2759123964548639826:=0
def tw1344909378282706638:=0
def tw839336370181770618:=0
def tw10923528316378112543:=0
def tw13632378111334096745:=0
def tw6011347497322981946:=0
def tw13853281190160999136:=0
def tw15960397548009353068:=0
def tw13617216787460667436:=0
def tw8417608073431491072:=0
def tw11493072303933470670:=0
def tw8785239271407097092:=0
def tw9134742148374790111:=0
def tw2341011922278578999:=0
def tw6633672605683454474:=0
def tw17275384520808236706:=0
def tw14520524550955494437:=0
def tw8173069300585169507:=0
def tw14391485095432105804:=0
def tw14175933661800006319:=0
def tw11087501168128333313:=0
def tw8342712985895079385:=0
def tw17579945877234286151:=0
def tw15573147073344439203:=0
def tw14310282737567715100:=0
def tw15955853374447664457:=0
def tw1449851723245483736:=0
def tw4579837050488188200:=0
def tw2178811547998985168:=0
def tw11664243616875072929:=0
def tw14681221143720888690:=0
def tw12360683064931074917:=0
def tw4445329153651790193:=0
def tw6092603766880849171:=0
def tw5614931343944998621:=0
def tw12705449969705826102:=0
def tw1724850005143057964:=0
def tw18083833672903544870:=0
def tw5536969047799479782:=0
def tw17547871279814442489:=0
def tw3598993873348838073:=0
def tw11344966708669596469:=0
def tw17628477818667891819:=0
def tw15783605622150538852:=0
def tw9686864702075950808:=0
def tw3664201288319120569:=0
def tw848836848583076436:=0
end PySem.W.Fast
set_option maxRecDepth 100000 in
set_option maxHeartbeats 0 in
theorem PySem.Challenge.cw_wishmart_k36_whole_growing_purses_holds : PySem.Challenge.rw_wishmart_k36_whole_growing_purses.Holds := by
 w_on;o_law;k_head;(case hw=>w_witness2)
 k_fill
 refine Bq.walk (l:=PySem.Challenge.rw_wishmart_k36_whole_growing_purses) ?I rfl rfl (λw h Y=>PySem.W.kIn_of Y) ?F
 case I=>first |rfl |decide+kernel
 case F =>
  intro w mg fa h KX G Tx;refine' Bq.all_mk KX G Tx rfl ?a0 ?a1 ?a2 ?a3 ?a4 ?a5 ?a6 ?a7 ?a8 ?a9 ?a10 ?a11 ?a12 ?a13 ?a14 ?a15 ?a16 ?a17 ?a18 ?a19 ?a20 ?a21 ?a22 ?a23 ?a24 ?a25 ?a26 ?a27 ?a28 ?a29 ?a30 ?a31 ?a32 ?a33 ?a34 ?a35 ?a36 ?a37 ?a38 ?a39 ?a40 ?a41 ?a42 ?a43 ?a44 ?a45 ?a46 ?a47 ?a48 ?a49 ?a50 ?a51 ?a52 ?a53 ?a54 ?a55 ?a56 ?a57 ?a58 ?a59 ?a60 ?a61 ?a62 ?a63 ?a64 ?z0 ?z1 ?z2 ?z3 ?z4 ?z5 ?z6 ?z7 ?z8 ?z9 ?M6 ?M5 ?M4 ?M3 ?M2 ?NV ?jj ?iB ?iA ?ko ?fK ?gM ?gNn ?gPr ?gDe ?gUn ?ti1 ?ti2 ?ZR ?ZQ ?ZP ?ZO ?ZX ?ZW ?ZV ?ZU ?ZT ?ZS ?Dp ?C0 ?ZK ?ZJ ?ZI ?ZH ?OE ?OD ?OF ?OC
  (case a0 |a1 |a2 |a3 |a4 |a5 |a6 |a7 |a8 |a9 |a10 |a11 |a12 |a13 |a14 |a15 |a16 |a17 |a18 |a19 |a20 |a21 |a22 |a23 |a24 |a25 |a26 |a27 |a28 |a29 |a30 |a31 |a32 |a33 |a34 |a35 |a36 |a37 |a38 |a39 |a40 |a41 |a42 |a43 |a44 |a45 |a46 |a47 |a48 |a49 |a50 |a51 |a52 |a53 |a54 |a55 |a56 |a57 |a58 |a59 |a60 |a61 |a62 |a63 |a64=>exact⟨_,_,_,_,_,_,_,_,_,by k_is,by k_is,by k_is,by k_is⟩)
  (case z0 |z1 |z2 |z3 |z4 |z5 |z6 |z7 |z8 |z9 |M6 |M5 |M4 |M3 |M2 |NV |jj |iB |iA |ko |fK |gM |gNn |gPr |gDe |gUn=>k_is)
  (case ti1 |ti2 |ZR |ZQ |ZP |ZO |ZX |ZW |ZV |ZU |ZT |ZS |Dp |C0 |ZK |ZJ |ZI |ZH=>first |rfl |kit_is |k_is)
  (case OE |OD |OF |OC=>first |k_is |kit_is |rfl |kernel_rfl |decide+kernel)
