import PyProof.Rows.All
import Wide.All
import OpenK.AllK
import Wide.FinOn
import Lean
import PyProof.EqAt
import PyProof.EqKinds
import PyProof.TupleCall
import KE.KMinKey
import PyProof.Rows.CallKwBuiltin
import PyProof.ListRange
import PyProof.Rows.SortWalk
import PySem.Challenge.RW_wishmart_k30_whole_barters_let_by
set_option Elab.async false
set_option linter.all false
set_option maxRecDepth 100000
set_option maxHeartbeats 8000000
set_option compiler.extract_closed false
theorem Y1(h:True:=by rfl):True:=h
theorem Y2(h:True:=by decide):True:=h
macro "x%" t:term:max:term=>`(autoParam $t Y1._auto_1)
macro "y%" t:term:max:term=>`(autoParam $t Y2._auto_1)
syntax "e%" : term
syntax "r%" : term
syntax "o%" : term
macro "e%" t:term : tactic => `(tactic| exact $t)
macro "r%" t:term : tactic => `(tactic| refine $t)
open Lean.Parser.Tactic in
macro "o%" p:rcasesPatMed ":=" t:term : tactic => `(tactic| obtain $p := $t)
macro "d%" : term => `(by decide)
macro "g%" : term => `(by omega)
macro "f%" : term => `(by rfl)
macro "i%" : term => `(by simp)
macro "l%" : term => `(Or.inl rfl)
open Lean.Parser.Command in
macro "m%" n:declId s:optDeclSig v:declVal : command => `(noncomputable abbrev $n $s:optDeclSig $v:declVal)
open Lean.Parser.Command in
macro "n%" n:declId s:optDeclSig v:declVal : command => `(noncomputable def $n $s:optDeclSig $v:declVal)
open Lean.Parser.Command in
macro "t%" n:declId s:declSig v:declVal : command => `(theorem $n $s:declSig $v:declVal)
abbrev Za:=@PySem.wpAny_bind
abbrev Zb:=@List.length_map
abbrev Zc:=@List.getElem?_eq_getElem
abbrev Zd:=@List.getElem?_eq_some_iff
abbrev Ze:=@Nat.le_refl
abbrev Zf:=@List.mem_cons
abbrev Zg:=@List.getElem?_map
abbrev Zh:=@List.mem_map
abbrev Zi:=@List.map_map
abbrev Zj:=@Int.toNat_natCast
abbrev Zk:=@List.mem_cons_of_mem
abbrev Zl:=@Bool.and_eq_true
abbrev Zm:=@List.mem_range
abbrev Zn:=@List.length_append
abbrev Zo:=@List.mem_cons_self
abbrev Zp:=@List.mem_append
abbrev Zq:=@List.mem_append_right
abbrev Zr:=@List.getElem?_append_left
abbrev Zs:=@List.map_append
abbrev Zt:=@List.size_toArray
abbrev Zu:=@List.all_eq_true
abbrev Zv:=@List.getElem_mem
abbrev Zw:=@List.getElem?_set_ne
abbrev Zy:=@Bool.false_ne_true
abbrev Zz:=@Nat.lt_or_ge
abbrev Ya:=@Nat.lt_of_lt_of_le
abbrev Yb:=@List.mem_filter
abbrev Yc:=@List.mem_of_getElem?
abbrev Yd:=@Nat.ne_of_lt
abbrev Ye:=@Nat.le_trans
abbrev Yf:=@List.getElem?_set_self
abbrev Yg:=@List.append_nil
abbrev Yh:=@List.nodup_cons
abbrev Yi:=@List.mem_singleton
abbrev Yj:=@List.map_cons
abbrev Yk:=@List.length_take
abbrev Yl:=@List.length_set
abbrev Ym:=@Bool.eq_false_iff
abbrev Yn:=@List.range_succ
abbrev Yo:=@List.getElem?_eq_none
abbrev Yp:=@List.getElem?_append_right
abbrev Yq:=@List.getElem?_range
abbrev Yr:=@List.mem_append_left
namespace L2
open PySem PySem.Spec PyProof.Rows
m%df:=Sum Int Str
n%oD:df->Value->Bool
 |.inl k,v=>Value.isInt k v
 |.inr x,v=>Value.isStrOf x v
n%WJ (w:World):df->Int
 |.inl k=>hashInt k
 |.inr x=>hashStr w x
t%Fa:∀{k:df}{v:Value},oD k v=true->(∃i t,k=Sum.inl i/\v=Value.int i t)\/(∃x t,k=Sum.inr x/\v=Value.str x t)
 |.inl i,v,h=>by
  o%⟨t,e⟩:=Value.isInt_shape (k:=i) (v:=v) h;e%.inl ⟨i,t,rfl,e⟩
 |.inr x,v,h=>by
  o%⟨t,e⟩:=Value.isStrOf_shape (x:=x) (v:=v) h;e%.inr ⟨x,t,rfl,e⟩
t%AF (i:Int)(t:Tok):oD (.inl i) (.int i t)=true:=by simp[oD,Value.isInt]
t%AE (x:Str)(t:Tok):oD (.inr x) (.str x t)=true:=by simp[oD,Value.isStrOf]
t%M8 (a b:Int):decide ((Sum.inl a:df)=Sum.inl b)=(a == b):=by
 by_cases e:a=b
 .subst e;simp
 .have h:¬ (Sum.inl a:df)=Sum.inl b:=fun q=>e (Sum.inl.inj q)
  rw[decide_eq_false h];e%(beq_eq_false_iff_ne.mpr e).symm
t%M5 (a b:Str):decide ((Sum.inr a:df)=Sum.inr b)=decide (a=b):=by
 by_cases e:a=b
 .subst e;simp
 .have h:¬ (Sum.inr a:df)=Sum.inr b:=fun q=>e (Sum.inr.inj q)
  rw[decide_eq_false h,decide_eq_false e]
t%M7 (a:Int)(b:Str):decide ((Sum.inl a:df)=Sum.inr b)=false:=decide_eq_false (fun q=>nomatch q)
t%M6 (a:Str)(b:Int):decide ((Sum.inr a:df)=Sum.inl b)=false:=decide_eq_false (fun q=>nomatch q)
n%tS (prog:Program)(w:World):PySem.KeyKind prog w df where
 is:=oD
 hash:=WJ w
 inj:=fun v a b ha hb=>by
  rcases Fa ha with ⟨i,t,rfl,rfl⟩ |⟨x,t,rfl,rfl⟩
  .rcases Fa hb with ⟨j,u,rfl,e⟩ |⟨y,u,rfl,e⟩
   .injection e with e1 _;rw[e1]
   .exact nomatch e
  .rcases Fa hb with ⟨j,u,rfl,e⟩ |⟨y,u,rfl,e⟩
   .exact nomatch e
   .injection e with e1 _;rw[e1]
 byValue:=fun k v h=>by
  rcases Fa h with ⟨i,t,rfl,rfl⟩ |⟨x,t,rfl,rfl⟩<;>rfl
 pyHash:=fun hv h=>by
  rcases Fa hv with ⟨i,t,rfl,rfl⟩ |⟨x,t,rfl,rfl⟩
  .exact wpAny_pyHash_int h
  .exact wpAny_pyHash_str h
 eqBool:=fun hu hv h=>by
  rcases Fa hu with ⟨i,t,rfl,rfl⟩ |⟨x,t,rfl,rfl⟩
  .rcases Fa hv with ⟨j,u,rfl,rfl⟩ |⟨y,u,rfl,rfl⟩
   .rw[M8] at h;e%wpAny_eqBool_int h
   .rw[M7] at h;e%SeqAt.EqAt.int_str i t y u _ _ _ _ h
  .rcases Fa hv with ⟨j,u,rfl,rfl⟩ |⟨y,u,rfl,rfl⟩
   .rw[M6] at h;e%SeqAt.EqAt.str_int x t j u _ _ _ _ h
   .rw[M5] at h;e%wpAny_eqBool_str h
 «strs»:=fun k x t v h=>by
  rcases Fa h with ⟨i,u,rfl,e⟩ |⟨y,u,rfl,e⟩
  .exact nomatch e
  .injection e with e1 _
   subst e1;cases v<;>rfl
t%vA (prog:Program)(w:World)(i:Int)(t:Tok):(tS prog w).is (.inl i) (.int i t)=true:=AF i t
t%vz (prog:Program)(w:World)(x:Str)(t:Tok):(tS prog w).is (.inr x) (.str x t)=true:=AE x t
inductive V where
 |bO |bl (b:Bool) |int (i:Int) |str (x:Str) |zI (b:Array UInt8) |NO (b:UInt64) |ref (a:Addr) |ty (n:String)
 deriving DecidableEq
n%RelV:V->Value->Prop
 |.bO,u=>u=Value.none
 |.bl b,u=>u=Value.bool b
 |.int i,u=>∃t,u=Value.int i t
 |.str x,u=>∃t,u=Value.str x t
 |.zI b,u=>∃t,u=Value.bytes b t
 |.NO b,u=>∃t,u=Value.float b t
 |.ref a,u=>u=Value.ref a
 |.ty n,u=>u=Value.type n
m%aQ:List V->List Value->Prop:=Paired RelV
t%aQ.length {xs:List V}{us:List Value}(r:aQ xs us):xs.length=us.length:=Paired.length r
t%aQ.get:∀{xs:List V}{us:List Value}{i:Nat}{x:V},aQ xs us->xs[i]?=some x->∃u,us[i]?=some u/\RelV x u
 |_,_,_,_,.nil,e=>by simp at e
 |_,_,0,_,.cons r _,e=>by simp at e;subst e;e%⟨_,rfl,r⟩
 |_,_,i+1,x,.cons _ t,e=>by
  o%⟨u,h1,h2⟩:=aQ.get (i:=i) (x:=x) t (by simpa using e);e%⟨u,by simpa using h1,h2⟩
t%aQ.set {x:V}{u:Value}(r:RelV x u):∀{xs:List V}{us:List Value}(i:Nat),aQ xs us->aQ (xs.set i x) (us.set i u)
 |_,_,_,.nil=>.nil
 |_,_,0,.cons _ t=>.cons r t
 |_,_,i+1,.cons q t=>.cons q (aQ.set r i t)
t%aQ.append:∀{xs ys:List V}{us ws:List Value},aQ xs us->aQ ys ws->aQ (xs++ys) (us++ws)
 |_,_,_,_,.nil,s=>s
 |_,_,_,_,.cons r t,s=>.cons r (aQ.append t s)
t%aQ.take:∀{xs:List V}{us:List Value}(n:Nat),aQ xs us->aQ (xs.take n) (us.take n)
 |_,_,0,_=>.nil
 |_,_,_+1,.nil=>.nil
 |_,_,n+1,.cons r t=>.cons r (aQ.take n t)
t%aQ.drop:∀{xs:List V}{us:List Value}(n:Nat),aQ xs us->aQ (xs.drop n) (us.drop n)
 |_,_,0,r=>r
 |_,_,_+1,.nil=>.nil
 |_,_,n+1,.cons _ t=>aQ.drop n t
n%aJ:Option V->Option Value->Prop
 |some v,some u=>RelV v u
 |none,none=>True
 |_,_=>False
n%KV {κ : Type}:List (κ × V)->List (κ × Value)->Prop:=Paired fun(p:κ × V) (q:κ × Value)=>p.1=q.1/\RelV p.2 q.2
n%kV:df->V
 |.inl i=>.int i
 |.inr x=>.str x
inductive HO where
 |lst (xs:List V)
 |tup (xs:List V)
 |dK (kvs:List (df×V)) |dT (kvs:List (List df×V))
 |set (S:Int->Bool) (n:Nat)
 |ins (C dx:Addr) (fs:List (Str×V))
 |own (x:Addr)
 |xd (fs:List (Str×V))
 |met (f x:Addr)
 |RK (lo hi:Int)
 |jU (o:Obj) (u:HO)
 |pU (ps:Array Value)
 |ext (φ : Heap->Prop)
m%Hp:=Addr->Option HO
n%aK (H:Hp)(a:Addr)(o:HO):Hp:=fun b=>if b=a then some o else H b
t%cQ {H:Hp}{a:Addr}{o:HO}:aK H a o a=some o:=by unfold aK;rw[if_pos rfl]
t%dH {H:Hp}{a b:Addr}{o:HO}(h:b≠a):aK H a o b=H b:=by unfold aK;rw[if_neg h]
t%IM {H:Hp}{a b:Addr}{o u:HO}(h:H a=some o)(h':H b=some u)(d:o≠u):a≠b:=by
 intro e;subst e;rw[h] at h';e%d (Option.some.inj h')
t%Fv {H:Hp}{a b:Addr}{o:HO}(h:H a=some o)(h':H b=none):a≠b:=by
 intro e;subst e;rw[h] at h';cases h'
section
variable (P:Program)(w:World)
n%bZ (H:Hp)(h:Heap)(a:Addr):HO->Prop
 |.lst xs=>xs.length<=sizeLine/\∃(its:List Value) (n:Nat),aQ xs its/\h.get? a=some { cls:=.type "list",data:=.seq its.toArray n }
 |.tup xs=>xs.length<=sizeLine/\∃its:List Value,aQ xs its/\IsTup h a its.toArray
 |.dK kvs=>kvs.length<=sizeLine/\(a == sysModules)=false/\∃vs,KV kvs vs/\h.DictOf (tS P w) a vs
 |.dT kvs=>kvs.length<=sizeLine/\(a == sysModules)=false/\∃xs:List (List df×Addr×Value),
   Paired (fun(p:List df×V) (q:List df×Addr×Value)=>p.1=q.1/\H q.2.1=some (.tup (p.1.map kV))/\RelV p.2 q.2.2) kvs xs /\
   ∃o es ep,h.get? a=some o/\o.ExactDict/\o.data=.dict es ep/\es.toList=xs.map (entryOfKey (tupleKind (tS P w)))/\(xs.map (·.1)).Nodup
 |.set S n=>h.SetOf (intKind P w) a S n
 |.ins C dx fs=>H dx=some (.own a)/\fs.length<=1000/\dx≠a/\h.get? a=some (PySem.W.instObj C dx) /\
   ∃mA,h.Ns1 dx mA/\(∀f,aJ (fs.lookup f) (mA f))/\PySem.Within mA (fs.map (·.1))
 |.own _=>∃o,h.get? a=some o
 |.xd fs=>∃mA,h.Ns1 a mA/\∀f,aJ (fs.lookup f) (mA f)
 |.RK lo hi=>∃t u v,h.get? a=some { cls:=.type "range",data:=.fields #[.int lo t,.int hi u,.int 1 v] }
 |.jU o u=>h.get? a=some o/\bZ H h a u
 |.pU ps=>h.get? a=some { cls:=.none,data:=.fields ps }
 |.met f x=>h.get? a=some (PySem.W.methodObj (.ref f) (.ref x))
 |.ext φ=>φ h/\(∃o,h.get? a=some o)/\∀h1 h2:Heap,φ h1->(∀o,h1.get? a=some o->h2.get? a=some o)->φ h2
n%jV (H:Hp)(h:Heap):Prop:=∀a o,H a=some o->bZ P w H h a o
end
section
variable {P:Program}{w:World}{H H':Hp}{h h':Heap}{a:Addr}{o:HO}
t%bZ.lt (x:bZ P w H h a o):a<h.objs.size:=by
 cases o with
 |lst xs=>o%⟨_,_,_,_,e⟩:=x;e%Heap.lt_size e
 |tup xs=>o%⟨_,_,_,p⟩:=x;e%p.lt
 |dK kvs=>o%⟨_,_,_,_,o,_,_,e,_⟩:=x;e%Heap.lt_size e
 |dT kvs=>o%⟨_,_,_,_,o,_,_,e,_⟩:=x;e%Heap.lt_size e
 |set S n=>o%⟨o,_,_,_,e,_⟩:=x;e%Heap.lt_size e
 |ins C dx fs=>o%⟨_,_,_,e,_⟩:=x;e%Heap.lt_size e
 |own y=>o%⟨_,e⟩:=x;e%Heap.lt_size e
 |xd fs=>o%⟨_,⟨_,_,_,e,_⟩,_⟩:=x;e%Heap.lt_size e
 |RK lo hi=>o%⟨_,_,_,e⟩:=x;e%Heap.lt_size e
 |jU ob u=>o%⟨e,_⟩:=x;e%Heap.lt_size e
 |pU ps=>e%Heap.lt_size (show h.get? a=some _ from x)
 |met f y=>e%Heap.lt_size (show h.get? a=some _ from x)
 |ext φ=>o%⟨_,⟨_,e⟩,_⟩:=x;e%Heap.lt_size e
t%Paired.KH {α β : Type}{F G:α->β->Prop}:∀{P7:List α}{P6:List β},Paired F P7 P6->(∀a b,F a b->G a b)->Paired G P7 P6
 |_,_,.nil,_=>.nil
 |_,_,.cons r t,f=>.cons (f _ _ r) (Paired.KH t f)
t%bZ.az (x:bZ P w H h a o)(k:∀b u,(b=a\/H b=some (.own a))->h.get? b=some u->h'.get? b=some u)
  (ho:∀b,H b=some (.own a)->H' b=some (.own a)) (ht:∀b xs,H b=some (.tup xs)->H' b=some (.tup xs)):bZ P w H' h' a o:=by
 induction o with
 |lst xs=>o%⟨z,its,n,r,e⟩:=x;e%⟨z,its,n,r,k _ _ (.inl rfl) e⟩
 |tup xs=>o%⟨z,its,r,ob,e,c⟩:=x;e%⟨z,its,r,ob,k _ _ (.inl rfl) e,c⟩
 |dK kvs=>o%⟨z,y,vs,r,ob,es,ep,e,c⟩:=x;e%⟨z,y,vs,r,ob,es,ep,k _ _ (.inl rfl) e,c⟩
 |dT kvs =>
  o%⟨z,y,xs,r,ob,es,ep,e,c⟩:=x;e%⟨z,y,xs,Paired.KH r fun p q z=>⟨z.1,ht _ _ z.2.1,z.2.2⟩,ob,es,ep,k _ _ (.inl rfl) e,c⟩
 |set S n=>o%⟨ob,es,ep,t,e,c⟩:=x;e%⟨ob,es,ep,t,k _ _ (.inl rfl) e,c⟩
 |ins C dx fs =>
  o%⟨d,z,ne,e,mA,⟨od,es,ep,e2,c⟩,r⟩:=x;e%⟨ho _ d,z,ne,k _ _ (.inl rfl) e,mA,⟨od,es,ep,k _ _ (.inr d) e2,c⟩,r⟩
 |own y=>o%⟨ob,e⟩:=x;e%⟨ob,k _ _ (.inl rfl) e⟩
 |xd fs=>o%⟨mA,⟨od,es,ep,e,c⟩,r⟩:=x;e%⟨mA,⟨od,es,ep,k _ _ (.inl rfl) e,c⟩,r⟩
 |RK lo hi=>o%⟨t,u,v,e⟩:=x;e%⟨t,u,v,k _ _ (.inl rfl) e⟩
 |jU ob u ih=>o%⟨e,q⟩:=x;e%⟨k _ _ (.inl rfl) e,ih q⟩
 |pU ps =>
  have e:h.get? a=some { cls:=.none,data:=.fields ps }:=x;show h'.get? a=some { cls:=.none,data:=.fields ps };e%k a _ (.inl rfl) e
 |met f y =>
  have e:h.get? a=some (PySem.W.methodObj (.ref f) (.ref y)):=x;show h'.get? a=some (PySem.W.methodObj (.ref f) (.ref y));e%k a _ (.inl rfl) e
 |ext φ=>o%⟨p,⟨o,e⟩,st⟩:=x;e%⟨st _ _ p fun o q=>k _ _ (.inl rfl) q,⟨o,k _ _ (.inl rfl) e⟩,st⟩
t%jV.lt (x:jV P w H h)(e:H a=some o):a<h.objs.size:=(x a o e).lt
t%jV.fresh (x:jV P w H h)(e:h.objs.size<=a):H a=none:=by
 cases q:H a with
 |none=>rfl
 |some u=>e%absurd (Ya (x.lt q) e) (Nat.lt_irrefl _)
t%jV.kept (x:jV P w H h)(k:∀b u,h.get? b=some u->h'.get? b=some u):jV P w H h':=fun a o e =>
 (x a o e).az (fun b u _ q=>k b u q) (fun _ q=>q) fun _ _ q=>q
t%jV.laid (x:jV P w H h)(k:∀b u,h.get? b=some u->h'.get? b=some u)(hp:h.objs.size<=a)(new:bZ P w (aK H a o) h' a o):jV P w (aK H a o) h':=fun b u e=>by
 have hn:=x.fresh hp;by_cases hb:b=a
 .subst hb;rw[cQ] at e;cases e;e%new
 .rw[dH hb] at e;e%(x b u e).az (fun c v _ q=>k c v q) (fun c q=>by rw[dH (Fv q hn)];e%q) fun c xs q=>by rw[dH (Fv q hn)];e%q
end
n%Rd (H:Hp)(a:Addr)(u:HO):Prop:=H a=some u\/∃o,H a=some (.jU o u)
t%Rd.ok {P:Program}{w:World}{H:Hp}{h:Heap}{a:Addr}{u:HO}(r:Rd H a u)(x:jV P w H h):bZ P w H h a u:=by
 rcases r with r |⟨o,r⟩
 .exact x a u r
 .obtain⟨_,q⟩:=x a _ r;e%q
n%Pe:Option HO->Prop
 |some (.lst _)=>True
 |some (.dK _)=>True
 |some (.dT _)=>True
 |some (.set _ _)=>True
 |some (.ins _ _ _)=>True
 |some (.ext _)=>True
 |_=>False
section
variable {P:Program}{w:World}{H:Hp}{h h':Heap}{x e:Addr}{o':HO}
t%jV.write (ok:jV P w H h)(mu:Pe (H x))(he:e=x\/H e=some (.own x))(k:∀b u,b≠e->h.get? b=some u->h'.get? b=some u)(Ii:∃u,h'.get? e=some u)
  (new:bZ P w (aK H x o') h' x o'):jV P w (aK H x o') h':=fun b u q=>by
 have PK:∀c y,H c=some (.own y)->c≠x:=fun c y r z=>by subst z;rw[r] at mu;e%mu
 have WE:∀c xs,H c=some (.tup xs)->c≠x:=fun c xs r z=>by subst z;rw[r] at mu;e%mu
 by_cases hb:b=x
 .subst hb;rw[cQ] at q;cases q;e%new
 .rw[dH hb] at q;by_cases JO:b=e
  .have q':H b=some (.own x):=by
    rcases he with z |z
    .exact absurd (JO.trans z) hb
    .rw[JO];e%z
   rw[q] at q';cases q';o%⟨v,hv⟩:=Ii;e%⟨v,by rw[JO];e%hv⟩
  .refine(ok b u q).az (fun c v hc r=>k c v ?_ r) (fun c r=>by rw[dH (PK c b r)];e%r) fun c xs r=>by rw[dH (WE c xs r)];e%r
   rcases hc with rfl |hc
   .exact JO
   .rintro rfl;rcases he with z |z
    .exact PK c b hc z
    .rw[hc] at z;cases z;e%hb rfl
end
structure Un (fs ex:List Addr)(H H':Hp)(h h':Heap):Prop where
 keep:∀b o,h.get? b=some o->H b=none->b∉fs->b∉ex->h'.get? b=some o
 slot:∀b o,h.get? b=some o->H b=none->b∈fs->b∉ex->∃sl,h'.get? b=some { o with slots:=sl }
 free:∀b o,h.get? b=some o->H b=none->b∉ex->H' b=none
 there:∀b o,h.get? b=some o->b∉ex->∃o',h'.get? b=some o'
 j4:∀b xs,H b=some (.tup xs)->H' b=some (.tup xs)
 md:∀b o u,H b=some (.jU o u)->H' b=some (.jU o u)
 mQ:∀b ps,H b=some (.pU ps)->∃Ks,H' b=some (.pU (ps++Ks))
section
variable {fs fs' ex ex':List Addr}{H H1 H2:Hp}{h h1 h2 h':Heap}{a x e:Addr}{o:HO}
t%Un.any (u:Un fs ex H H1 h h1){b:Addr}{ob:Obj}(q:h.get? b=some ob)(n:H b=none)(hx:b∉ex):∃sl,h1.get? b=some { ob with slots:=sl }:=by
 by_cases hb:b∈fs
 .exact u.slot b ob q n hb hx
 .exact⟨ob.slots,u.keep b ob q n hb hx⟩
t%Un.kept (k:∀b u,h.get? b=some u->h'.get? b=some u):Un fs ex H H h h' :=
 ⟨fun b ob q _ _ _=>k b ob q,fun b ob q _ _ _=>⟨ob.slots,k b ob q⟩,fun _ _ _ n _=>n,fun b ob q _=>⟨ob,k b ob q⟩,fun _ _ q=>q,fun _ _ _ q=>q,fun _ ps q=>⟨#[],by rw[q];simp⟩⟩
t%Un.refl:Un fs ex H H h h:=Un.kept fun _ _ q=>q
t%Un.laid (k:∀b u,h.get? b=some u->h'.get? b=some u)(hp:h.objs.size<=a)(hn:H a=none):Un fs ex H (aK H a o) h h' where
 keep:=fun b u q _ _ _=>k b u q
 slot:=fun b u q _ _ _=>⟨u.slots,k b u q⟩
 free:=fun b u q n _=>by rw[dH (Yd (Ya (Heap.lt_size q) hp))];e%n
 there:=fun b u q _=>⟨u,k b u q⟩
 j4:=fun b xs q=>by rw[dH (Fv q hn)];e%q
 md:=fun b u xs q=>by rw[dH (Fv q hn)];e%q
 mQ:=fun b ps q=>⟨#[],by rw[dH (Fv q hn),q];simp⟩
t%Un.write (mu:Pe (H x))(he:e=x\/H e=some (.own x))(k:∀b u,b≠e->h.get? b=some u->h'.get? b=some u)(Ii:∃u,h'.get? e=some u):Un fs ex H (aK H x o) h h':=by
 have hx:∀b,H b=none->b≠x:=fun b n z=>by subst z;rw[n] at mu;e%mu
 have hb:∀b,H b=none->b≠e:=fun b n z=>by
  subst z;rcases he with r |r
  .exact hx b n r
  .rw[n] at r;cases r
 have hm:∀b u,H b=some u->¬ Pe (some u)->b≠x:=fun b u q nm z=>by subst z;rw[q] at mu;e%nm mu
 r%⟨fun b u q n _ _=>k b u (hb b n) q,fun b u q n _ _=>⟨u.slots,k b u (hb b n) q⟩,fun b u q n _=>by rw[dH (hx b n)];e%n,fun b u q _=>?_,
  fun b xs q=>by rw[dH (hm b _ q fun z=>z)];e%q,fun b u xs q=>by rw[dH (hm b _ q fun z=>z)];e%q,fun b ps q=>⟨#[],by rw[dH (hm b _ q fun z=>z),q];simp⟩⟩
 by_cases JO:b=e
 .subst JO;e%Ii
 .exact⟨u,k b u JO q⟩
end
n%RG (h:Heap)(H:Hp):List Addr:=(List.range h.objs.size).filter fun a=>(H a).isSome
n%rZ (h:Heap)(H:Hp):Heap:=PySem.W.hideAll h (RG h H)
t%AL (h:Heap)(H:Hp):(rZ h H).objs.size=h.objs.size:=PySem.W.hideAll_size _ _
t%EB {h:Heap}{H:Hp}{b:Addr}{o:Obj}(e:h.get? b=some o)(n:H b=none):(rZ h H).get? b=some o :=
 PySem.W.hideAll_get _ e fun hm=>by
  have q:(H b).isSome=true:=(Yb.mp hm).2;rw[n] at q;simp at q
t%Hl {h:Heap}{H:Hp}{b:Addr}{o:Obj}(e:(rZ h H).get? b=some o):h.get? b=some o/\H b=none:=by
 have e':h.get? b=some o:=PySem.W.of_hideAll (RG h H) e;r%⟨e',?_⟩;cases q:H b with
 |none=>rfl
 |some x =>
  have hm:b∈RG h H:=Yb.mpr ⟨Zm.mpr (Heap.lt_size e'),by simp[q]⟩;have z:(rZ h H).get? b=none:=PySem.W.hideAll_none (RG h H) hm;rw[z] at e;cases e
structure Mod (K:PySem.W.Frag)(mg:Str->Option Value)(base:Heap):Prop where
 HY:K.In base
 glob:base.Ns mainGlobals mg
 blt:∃mb,base.Ns builtinsNs mb/\∀x:Str,x ≠ "__name__"->mb x=bootBuiltins x
 nolimit:base.NoLimit
structure Cx where
 prog:Program
 w:World
 K:PySem.W.Frag
 mg:Str->Option Value
 base:Heap
 A:Around
 N:List Str
 aT:Shared
 aE:Hp
 env:Env
 outer:List Env
 stack:List Env
 ex:List Addr
 fn:Str->Bool
 calm:Bool
 pn:List (Addr×Obj)
 xe:Value->Shared->Prop
n%iL (l:List Env):List Addr:=l.filterMap (·.frame)
m%Cx.fs (X:Cx):List Addr:=iL X.outer
n%Pc (sc:Scope)(x:Str):Prop:=sc.names.lookup x=some .local\/sc.names.lookup x=some .cell\/sc.names.lookup x=some .free
n%Loc (sc:Scope)(x:Str):Prop:=sc.names.lookup x=some .local\/sc.names.lookup x=some .cell
n%Look (env:Env)(h:Heap)(m:Str->Option Value)(x:Str)(u:Value):Prop :=
 (env.kindOf x=some .local/\m x=some u)\/((env.kindOf x=some .cell\/env.kindOf x=some .free)/\∃c,env.cells.lookup x=some c/\h.IsCell c (some u))
structure Cx.Ok (X:Cx):Prop where
 mod:Mod X.K X.mg X.base
 kind:X.env.scope.kind=.function
 glob:X.env.globals=mainGlobals
 blt:X.env.builtins=builtinsNs
 above:X.aT.heap.objs.size<=X.env.locals
 inj:∀x y c,X.env.cells.lookup x=some c->X.env.cells.lookup y=some c->x=y
 has:∀x,(X.env.kindOf x=some .cell\/X.env.kindOf x=some .free)->∃c,X.env.cells.lookup x=some c
 Ik:∀x c,X.fn x=true->X.env.cells.lookup x=some c->X.aT.heap.objs.size<=c
 hd:X.calm=true->X.A.handled=none
 frames:X.A.frames=some X.stack
 A3:X.stack=X.outer\/(X.stack=X.env::X.outer/\X.env.frame=some X.env.locals)
 zH:∀b∈X.ex,b≠X.env.locals/\∀x c,X.env.cells.lookup x=some c->c≠b
 bs:∀b o,X.base.get? b=some o->X.aT.heap.get? b=some o/\X.aE b=none
 Bf:X.base.objs.size<=X.aT.heap.objs.size
 uk:∀b o,X.base.get? b=some o->b∉X.ex
 on:∀b∈X.ex,b∉X.fs
 iW:X.aT.heap.FunFrames X.base X.outer
 Fh:∀b∈X.fs,X.aE b=none
structure Inv (X:Cx)(aa:List (Addr×Obj))(σ:List (Option V))(H:Hp)(s:Shared):Prop where
 ok:X.Ok
 os:s.os=X.aT.os
 bare:AllBare s.gens
 base:Un X.fs X.ex X.aE H X.aT.heap s.heap
 loc:∃m,s.heap.Ns X.env.locals m/\∀(i:Nat) (x:Str) (v:V),X.N[i]?=some x->σ[i]?=some (some v)->Pc X.env.scope x->∃u,RelV v u/\Look X.env s.heap m x u
 cell:∀x c,X.env.cells.lookup x=some c->∃v,s.heap.IsCell c v
 free:H X.env.locals=none
 fY:∀x c,X.env.cells.lookup x=some c->H c=none
 pin:∀p∈X.pn++aa,s.heap.get? p.1=some p.2/\H p.1=none/\p.1≠X.env.locals/\p.1∉X.fs/\∀v,p.2.data≠.cell v
 bp:jV X.prog X.w H s.heap
 len:σ.length=X.N.length
section
variable {X:Cx}{aa:List (Addr×Obj)}{σ:List (Option V)}{H H':Hp}{s:Shared}{h':Heap}
t%Cx.Ok.FZ (ok:X.Ok){b:Addr}{o:Obj}(e:X.base.get? b=some o):b∉X.fs:=fun hb=>by
 have:=(ok.iW.mem hb).1;rw[e] at this;cases this
t%Inv.bs (I:Inv X aa σ H s):∀b o,X.base.get? b=some o->s.heap.get? b=some o/\H b=none:=fun b o e =>
 ⟨I.base.keep b o (I.ok.bs b o e).1 (I.ok.bs b o e).2 (I.ok.FZ e) (I.ok.uk b o e),I.base.free b o (I.ok.bs b o e).1 (I.ok.bs b o e).2 (I.ok.uk b o e)⟩
t%Inv.bk (I:Inv X aa σ H s):∀b o,X.base.get? b=some o->s.heap.get? b=some o:=fun b o e=>(I.bs b o e).1
t%Inv.mod (I:Inv X aa σ H s):Mod X.K X.mg X.base:=I.ok.mod
t%Inv.my (I:Inv X aa σ H s):X.K.In s.heap:=I.ok.mod.HY.keeps I.bk
t%Inv.lt (I:Inv X aa σ H s):X.env.locals<s.heap.objs.size:=let ⟨_,hn,_⟩:=I.loc;hn.lt
t%Inv.sz (I:Inv X aa σ H s):X.aT.heap.objs.size<=s.heap.objs.size:=Ye I.ok.above (Nat.le_of_lt I.lt)
t%Inv.WF (I:Inv X aa σ H s){a:Addr}(h:s.heap.objs.size<=a):a∉X.fs:=fun hb=>by
 o%⟨_,o,ho,_⟩:=I.ok.iW.mem hb;e%absurd (Ya (Heap.lt_size ho) (Ye I.sz h)) (Nat.lt_irrefl _)
t%Inv.BC (I:Inv X aa σ H s):∀x c,X.env.cells.lookup x=some c->c≠X.env.locals:=fun x c e z=>by
 o%⟨v,o,ho,hd⟩:=I.cell x c e;o%⟨m,⟨o',es,ep,vP,U3,_⟩,_⟩:=I.loc;rw[z,vP] at ho;cases ho;rw[U3] at hd;cases hd
t%Inv.iW (I:Inv X aa σ H s):s.heap.FunFrames X.base X.outer:=by
 have all:∀(l:List Env),(∀b∈iL l,b∈X.fs)->X.aT.heap.FunFrames X.base l->s.heap.FunFrames X.base l:=by
  intro l;induction l with
  |nil=>intro _ _;trivial
  |cons env r ih =>
   intro hs hl;o%⟨hk,⟨L,o,hf,hn,ho,hd⟩,hr⟩:=hl;have hL:L∈X.fs:=hs L (by unfold iL;rw[List.filterMap_cons,hf];e%Zo);o%⟨sl,e⟩:=I.base.slot L o ho (I.ok.Fh L hL) hL fun z=>I.ok.on L z hL
   e%⟨hk,⟨L,_,hf,hn,e,hd⟩,ih (fun b hb=>hs b (by unfold iL;rw[List.filterMap_cons,hf];e%Zk _ hb)) hr⟩
 e%all X.outer (fun _ hb=>hb) I.ok.iW
t%Inv.stack (I:Inv X aa σ H s):s.heap.FunFrames X.base X.stack:=by
 rcases I.ok.A3 with e |⟨e,hf⟩
 .rw[e];e%I.iW
 .rw[e];o%⟨m,hn,_⟩:=I.loc;r%.cons (by rw[I.ok.kind];decide) hf hn ?_ I.iW;e%Heap.get?_none_of_le (Ye I.ok.Bf I.ok.above)
t%Inv.me (I:Inv X aa σ H s):∀b∈iL X.stack,b∈X.env.locals::X.fs:=fun b hb=>by
 rcases I.ok.A3 with e |⟨e,hf⟩
 .rw[e] at hb;e%Zk _ hb
 .rw[e] at hb;unfold iL at hb;rw[List.filterMap_cons,hf] at hb;e%hb
t%Inv.sG (I:Inv X aa σ H s):∀b∈iL X.stack,H b=none:=fun b hb=>by
 rcases Zf.mp (I.me b hb) with e |hb
 .rw[e];e%I.free
 .obtain⟨_,o,ho,_⟩:=I.ok.iW.mem hb;e%I.base.free b o ho (I.ok.Fh b hb) fun z=>I.ok.on b z hb
t%Inv.step {g':Array GenState}{t':Nat}{d':Drawn}{ch:List Addr}(I:Inv X aa σ H s)
  (Fg:∀b∈ch,(b∈X.ex\/X.aT.heap.objs.size<=b)/\b≠X.env.locals/\(∀x c,X.env.cells.lookup x=some c->c≠b)/\∀p∈X.pn++aa,p.1≠b)
  (keep:∀b o,b≠X.env.locals->b∉X.fs->b∉ch->s.heap.get? b=some o->H b=none->h'.get? b=some o)
  (slot:∀b o,b≠X.env.locals->b∈X.fs->b∉ch->s.heap.get? b=some o->H b=none->∃sl,h'.get? b=some { o with slots:=sl }) (free:∀b o,b∉ch->s.heap.get? b=some o->H b=none->H' b=none)
  (there:∀b o,b∉ch->s.heap.get? b=some o->∃o',h'.get? b=some o')
  (j4:∀b xs,H b=some (.tup xs)->H' b=some (.tup xs)) (md:∀b o u,H b=some (.jU o u)->H' b=some (.jU o u)) (mQ:∀b ps,H b=some (.pU ps)->∃Ks,H' b=some (.pU (ps++Ks)))
  (ns:∀m,s.heap.Ns X.env.locals m->h'.Ns X.env.locals m) (bp:jV X.prog X.w H' h') (hg:AllBare g') :
  Inv X aa σ H' { s with heap:=h',gens:=g',drawn:=d',toks:=t' }:=by
 have XF:∀b o,X.aT.heap.get? b=some o->b≠X.env.locals:=fun b o e=>Yd (Ya (Heap.lt_size e) I.ok.above)
 have RN:∀b o,X.aT.heap.get? b=some o->b∉X.ex->b∉ch:=fun b o e hx hb=>by
  rcases(Fg b hb).1 with z |z
  .exact hx z
  .exact absurd (Ya (Heap.lt_size e) z) (Nat.lt_irrefl _)
 have Jn:∀x c,X.env.cells.lookup x=some c->∀v,s.heap.IsCell c v->h'.IsCell c v:=fun x c e v ⟨o,ho,hd⟩=>by
  have Of:c∉ch:=fun z=>(Fg c z).2.2.1 x c e rfl
  by_cases hc:c∈X.fs
  .obtain⟨sl,q⟩:=slot c o (I.BC x c e) hc Of ho (I.fY x c e);e%⟨_,q,hd⟩
  .exact⟨o,keep c o (I.BC x c e) hc Of ho (I.fY x c e),hd⟩
 r%⟨I.ok,I.os,hg,⟨fun b o e n hb hx=>?_,fun b o e n hb hx=>?_,fun b o e n hx=>?_,fun b o e hx=>?_,fun b xs e=>j4 b xs (I.base.j4 b xs e),fun b o xs e=>md b o xs (I.base.md b o xs e),fun b ps e=>?_⟩,?_,fun x c e=>?_,?_,fun x c e=>?_,fun p hp=>?_,bp,I.len⟩
 .exact keep b o (XF b o e) hb (RN b o e hx) (I.base.keep b o e n hb hx) (I.base.free b o e n hx)
 .obtain⟨sl,e1⟩:=I.base.slot b o e n hb hx;o%⟨gO,e2⟩:=slot b _ (XF b o e) hb (RN b o e hx) e1 (I.base.free b o e n hx);e%⟨gO,e2⟩
 .obtain⟨o',e1⟩:=I.base.there b o e hx;e%free b o' (RN b o e hx) e1 (I.base.free b o e n hx)
 .obtain⟨o',e1⟩:=I.base.there b o e hx;e%there b o' (RN b o e hx) e1
 .obtain⟨m1,e1⟩:=I.base.mQ b ps e;o%⟨m2,e2⟩:=mQ b _ e1;e%⟨m1++m2,by rw[e2,Array.append_assoc]⟩
 .obtain⟨m,hn,hl⟩:=I.loc;r%⟨m,ns m hn,fun i x v e1 e2 e3=>?_⟩;o%⟨u,r,l⟩:=hl i x v e1 e2 e3;r%⟨u,r,?_⟩;rcases l with l |⟨k,c,e,z⟩
  .exact .inl l
  .exact .inr ⟨k,c,e,Jn x c e _ z⟩
 .obtain⟨v,z⟩:=I.cell x c e;e%⟨v,Jn x c e v z⟩
 .obtain⟨m,⟨o,_,_,ho,_⟩,_⟩:=I.loc;e%free _ o (fun z=>(Fg _ z).2.1 rfl) ho I.free
 .obtain⟨v,o,ho,hd⟩:=I.cell x c e;e%free c o (fun z=>(Fg c z).2.2.1 x c e rfl) ho (I.fY x c e)
 .obtain⟨e,n,ne,nf,d⟩:=I.pin p hp;have Of:p.1∉ch:=fun z=>(Fg p.1 z).2.2.2 p hp rfl
  e%⟨keep p.1 p.2 ne nf Of e n,free p.1 p.2 Of e n,ne,nf,d⟩
t%Inv.un {t':Nat}(I:Inv X aa σ H s)(u:Un X.fs [] H H' s.heap h')(bp:jV X.prog X.w H' h'):Inv X aa σ H' { s with heap:=h',toks:=t' }:=by
 o%⟨m,⟨o,es,ep,ho,r⟩,_⟩:=id I.loc;o%⟨sl,hL⟩:=u.any ho I.free i%;e%I.step (g':=s.gens) (d':=s.drawn) (ch:=[]) (fun _ z=>nomatch z) (fun b o _ hb _ e n=>u.keep b o e n hb i%) (fun b o _ hb _ e n=>u.slot b o e n hb i%) (fun b o _ e n=>u.free b o e n i%) (fun b o _ e=>u.there b o e i%) u.j4 u.md u.mQ (fun m' hm=>by
  o%⟨o',Vs,Sc,vP,r'⟩:=hm;rw[ho] at vP;cases vP;e%⟨_,Vs,Sc,hL,r'⟩) bp I.bare
t%Inv.call {g':Array GenState}{t':Nat}{d':Drawn}{ch:List Addr}(I:Inv X aa σ H s)(u:Un (iL X.stack) ch H H' s.heap h')(bp:jV X.prog X.w H' h')(hg:AllBare g')
  (Fg:∀b∈ch,(b∈X.ex\/X.aT.heap.objs.size<=b)/\b≠X.env.locals/\(∀x c,X.env.cells.lookup x=some c->c≠b)/\∀p∈X.pn++aa,p.1≠b) :
  Inv X aa σ H' { s with heap:=h',gens:=g',drawn:=d',toks:=t' }:=by
 o%⟨m,⟨o,es,ep,ho,r⟩,_⟩:=id I.loc;o%⟨sl,hL⟩:=u.any ho I.free fun z=>(Fg _ z).2.1 rfl
 e%I.step (ch:=ch) Fg (fun b o hL hb hc e n=>u.keep b o e n (fun z=>(Zf.mp (I.me b z)).elim hL hb) hc) (fun b o _ _ hc e n=>u.any e n hc) (fun b o hc e n=>u.free b o e n hc) (fun b o hc e=>u.there b o e hc) u.j4 u.md u.mQ (fun m' hm=>by
  o%⟨o',Vs,Sc,vP,r'⟩:=hm;rw[ho] at vP;cases vP;e%⟨_,Vs,Sc,hL,r'⟩) bp hg
t%Inv.turned {t':Nat}{it:Addr}(I:Inv X aa σ H s)(k:∀b o,b≠it->s.heap.get? b=some o->h'.get? b=some o)(hn:H it=none)(hL:it≠X.env.locals)
  (h1:it∈X.ex\/X.aT.heap.objs.size<=it) (h2:∀x c,X.env.cells.lookup x=some c->c≠it) (h3:∀p∈X.pn++aa,p.1≠it):Inv X aa σ H { s with heap:=h',toks:=t' }:=by
 have Oe:∀b u,H b=some u->b≠it:=fun b u e z=>by rw[z,hn] at e;cases e
 r%I.step (g':=s.gens) (d':=s.drawn) (ch:=[it]) (fun b hb=>?_) (fun b o _ _ hc e _=>k b o (fun z=>hc (by simp[z])) e) (fun b o _ _ hc e _=>⟨o.slots,k b o (fun z=>hc (by simp[z])) e⟩) (fun _ _ _ _ n=>n)
  (fun b o hc e=>⟨o,k b o (fun z=>hc (by simp[z])) e⟩) (fun _ _ e=>e) (fun _ _ _ e=>e) (fun b ps e=>⟨#[],by rw[e];simp⟩) (fun m hm=>?_) (fun b u e=>?_) I.bare
 .have e:b=it:=by simpa using hb
  subst e;e%⟨h1,hL,h2,h3⟩
 .obtain⟨o,es,ep,ho,r⟩:=hm;e%⟨o,es,ep,k _ o (Ne.symm hL) ho,r⟩
 .refine(I.bp b u e).az (fun c v hc q=>k c v ?_ q) (fun _ q=>q) fun _ _ q=>q
  rcases hc with z |z
  .rw[z];e%Oe b u e
  .exact Oe c _ z
t%Inv.tok (I:Inv X aa σ H s)(t:Nat):Inv X aa σ H { s with toks:=t }:=I.un (h':=s.heap) (t':=t) Un.refl I.bp
t%Inv.kept {t':Nat}(I:Inv X aa σ H s)(k:∀b u,s.heap.get? b=some u->h'.get? b=some u):Inv X aa σ H { s with heap:=h',toks:=t' }:=I.un (Un.kept k) (I.bp.kept k)
t%Inv.laid {a:Addr}{o:HO}{t':Nat}(I:Inv X aa σ H s)(k:∀b u,s.heap.get? b=some u->h'.get? b=some u)(hp:s.heap.objs.size<=a)(new:bZ X.prog X.w (aK H a o) h' a o) :
  Inv X aa σ (aK H a o) { s with heap:=h',toks:=t' }:=I.un (Un.laid k hp (I.bp.fresh hp)) (I.bp.laid k hp new)
t%Inv.write {x e:Addr}{o:HO}{t':Nat}(I:Inv X aa σ H s)(mu:Pe (H x))(he:e=x\/H e=some (.own x))(k:∀b u,b≠e->s.heap.get? b=some u->h'.get? b=some u)(Ii:∃u,h'.get? e=some u)
  (new:bZ X.prog X.w (aK H x o) h' x o):Inv X aa σ (aK H x o) { s with heap:=h',toks:=t' }:=I.un (Un.write mu he k Ii) (I.bp.write mu he k Ii new)
t%Inv.sN {IJ:List (Addr×Obj)}(I:Inv X aa σ H s)(h:∀p∈IJ,s.heap.get? p.1=some p.2/\H p.1=none/\p.1≠X.env.locals/\p.1∉X.fs/\∀v,p.2.data≠.cell v):Inv X IJ σ H s :=
 ⟨I.ok,I.os,I.bare,I.base,I.loc,I.cell,I.free,I.fY,fun p hp=>(Zp.mp hp).elim (fun z=>I.pin p (Yr _ z)) (h p),I.bp,I.len⟩
t%pw {N:List Str}(hN:N.Nodup){i j:Nat}{x:Str}(a:N[i]?=some x)(b:N[j]?=some x):i=j:=by
 o%⟨h1,e1⟩:=Zd.mp a;o%⟨h2,e2⟩:=Zd.mp b;e%(List.getElem_inj hN).mp (e1.trans e2.symm)
t%Aj {M:Model}{A:Around}{E:Value->Shared->Prop}{i:Nat}{x:Str}{v:V}{u:Value}{Q:Unit->Shared->Prop}(I:Inv X aa σ H s)(hN:X.N.Nodup)(hi:X.N[i]?=some x)(hx:Loc X.env.scope x)(r:RelV v u)
  (h:∀s',Inv X aa (σ.set i (some v)) H s'->(∃a,Heap.SameBut a s.heap s'.heap/\(a=X.env.locals\/X.env.cells.lookup x=some a))->Q () s') (hf:X.fn x=true\/X.env.scope.names.lookup x=some .local:=by first |e%.inl rfl |e%.inr rfl |assumption):wpAny M A (storeName X.env x u) Q E s:=by
 o%⟨m,hn,hl⟩:=id I.loc;have KZ:(X.env.scope.kind == .class||(X.env.scope.kind == .module&&X.env.locals != X.env.globals))=false:=by rw[I.ok.kind];rfl
 have Qg:i < σ.length:=by rw[I.len];e%(Zd.mp hi).1
 have BC:=I.BC;have yC:∀{a:Addr}{h':Heap},(∃o,s.heap.get? a=some o/\H a=none)->Heap.SameBut a s.heap h'->jV X.prog X.w H h':=fun {a h'} ha hs b ob e=>by
  o%⟨_,_,Jg⟩:=ha;r%(I.bp b ob e).az (fun c w' hc q=>(hs.2 c ?_).trans q) (fun _ q=>q) fun _ _ q=>q
  rintro rfl;rcases hc with rfl |hc
  .rw[Jg] at e;cases e
  .rw[Jg] at hc;cases hc
 rcases hx with hk |hk
 .refine wpAny_storeName_local hk hn (fun h' p7 hs=>?_) KZ;o%⟨oL,_,_,Ou,_⟩:=id hn;r%h _ ⟨I.ok,I.os,I.bare,⟨fun b o e n hb hx=>?_,fun b o e n hb hx=>?_,I.base.free,fun b o e hx=>?_,I.base.j4,I.base.md,I.base.mQ⟩,⟨_,p7,fun j y v' e1 e2 e3=>?_⟩,fun y c e=>?_,I.free,I.fY,fun p hp=>?_,yC ⟨oL,Ou,I.free⟩ hs,by simpa using I.len⟩ ⟨_,hs,.inl rfl⟩
  .exact(hs.2 b (Yd (Ya (Heap.lt_size e) I.ok.above))).trans (I.base.keep b o e n hb hx)
  .obtain⟨sl,e1⟩:=I.base.slot b o e n hb hx;e%⟨sl,(hs.2 b (Yd (Ya (Heap.lt_size e) I.ok.above))).trans e1⟩
  .obtain⟨o',e1⟩:=I.base.there b o e hx;e%⟨o',(hs.2 b (Yd (Ya (Heap.lt_size e) I.ok.above))).trans e1⟩
  .by_cases hj:j=i
   .subst hj;rw[hi] at e1;cases e1;rw[Yf Qg] at e2;cases e2;e%⟨u,r,.inl ⟨hk,by simp⟩⟩
   .rw[Zw (Ne.symm hj)] at e2;o%⟨u',r',q⟩:=hl j y v' e1 e2 e3;r%⟨u',r',?_⟩;rcases q with ⟨k,e⟩ |⟨k,c,e,z⟩
    .refine .inl ⟨k,?_⟩;have:y≠x:=fun e=>hj (pw hN e1 (e▸hi))
     simp[this,e]
    .exact .inr ⟨k,c,e,z.sameBut hs (BC y c e)⟩
  .obtain⟨w',z⟩:=I.cell y c e;e%⟨w',z.sameBut hs (BC y c e)⟩
  .obtain⟨e,n,ne,nf,d⟩:=I.pin p hp;e%⟨(hs.2 p.1 ne).trans e,n,ne,nf,d⟩
 .have UV:X.fn x=true:=by
   rcases hf with z |z
   .exact z
   .rw[z] at hk;cases hk
  o%⟨c,hc⟩:=I.ok.has x (.inl hk);o%⟨w',z⟩:=I.cell x c hc;r%wpAny_storeName_cell I.ok.kind hk hc z (fun h' jT hs=>?_);o%⟨oc,Y8,WX⟩:=id z;r%h { s with heap:=h' } ⟨I.ok,I.os,I.bare,⟨fun b o e n hb hx=>?_,fun b o e n hb hx=>?_,I.base.free,fun b o e hx=>?_,I.base.j4,I.base.md,I.base.mQ⟩,⟨m,hn.sameBut hs (Ne.symm (BC x c hc)),fun j y v' e1 e2 e3=>?_⟩,fun y c' e=>?_,I.free,I.fY,fun p hp=>?_,yC ⟨oc,Y8,I.fY x c hc⟩ hs,by simpa using I.len⟩ ⟨c,hs,.inr hc⟩
  .exact(hs.2 b (Yd (Ya (Heap.lt_size e) (I.ok.Ik x c UV hc)))).trans (I.base.keep b o e n hb hx)
  .obtain⟨sl,e1⟩:=I.base.slot b o e n hb hx;e%⟨sl,(hs.2 b (Yd (Ya (Heap.lt_size e) (I.ok.Ik x c UV hc)))).trans e1⟩
  .obtain⟨o',e1⟩:=I.base.there b o e hx;e%⟨o',(hs.2 b (Yd (Ya (Heap.lt_size e) (I.ok.Ik x c UV hc)))).trans e1⟩
  .by_cases hj:j=i
   .subst hj;rw[hi] at e1;cases e1;rw[Yf Qg] at e2;cases e2;e%⟨u,r,.inr ⟨.inl hk,c,hc,jT⟩⟩
   .rw[Zw (Ne.symm hj)] at e2;o%⟨u',r',q⟩:=hl j y v' e1 e2 e3;r%⟨u',r',?_⟩;rcases q with q |⟨k,c',e,z'⟩
    .exact .inl q
    .refine .inr ⟨k,c',e,z'.sameBut hs ?_⟩;rintro rfl;e%hj (pw hN e1 (I.ok.inj _ _ _ e hc▸hi))
  .by_cases ZQ:c'=c
   .subst ZQ;e%⟨_,jT⟩
   .obtain⟨w2,z2⟩:=I.cell y c' e;e%⟨w2,z2.sameBut hs ZQ⟩
  .obtain⟨e,n,ne,nf,d⟩:=I.pin p hp;r%⟨(hs.2 p.1 ?_).trans e,n,ne,nf,d⟩;intro q;rw[q,Y8] at e;have q':oc=p.2:=Option.some.inj e;e%d w' (by rw[<- q'];e%WX)
t%Fu {M:Model}{A:Around}{E:Value->Shared->Prop}{i:Nat}{x:Str}{v:V}{u:Value}{Q:Unit->Shared->Prop}(I:Inv X aa σ H s)(hN:X.N.Nodup)(hi:X.N[i]?=some x)(hx:Loc X.env.scope x)(r:RelV v u)
  (h:∀s',Inv X aa (σ.set i (some v)) H s'->Q () s') (hf:X.fn x=true\/X.env.scope.names.lookup x=some .local:=by first |e%.inl rfl |e%.inr rfl |assumption):wpAny M A (storeName X.env x u) Q E s :=
 Aj I hN hi hx r (fun s' I' _=>h s' I') hf
t%Inv.qL {s':Shared}{ch:List Addr}(I:Inv X aa σ H s)(ho:s'.os=s.os)(u:Un (iL X.stack) ch H H' s.heap s'.heap)(bp:jV X.prog X.w H' s'.heap)(hg:AllBare s'.gens)
  (Fg:∀b∈ch,(b∈X.ex\/X.aT.heap.objs.size<=b)/\b≠X.env.locals/\(∀x c,X.env.cells.lookup x=some c->c≠b)/\∀p∈X.pn++aa,p.1≠b):Inv X aa σ H' s':=by
 o%⟨h',g',d',t',o'⟩:=s';have e:o'=s.os:=ho;subst e;e%I.call (g':=g') (t':=t') (d':=d') u bp hg Fg
end
m%XK:=Value->Option Addr->Hp->Prop
m%St:=List (Option V)
m%VK:=V->Hp->Prop
m%TE:=St->Hp->VK->Prop
m%TT:=St->Hp->(Bool->Hp->Prop)->Prop
m%TA:=St->Hp->(List V->Hp->Prop)->Prop
structure Ends where
 nx:St->Hp->Prop
 rt:VK
 bk:St->Hp->Prop:=fun _ _=>False
 ct:St->Hp->Prop:=fun _ _=>False
m%TS:=Ends->St->Hp->Prop
n%EP (X:Cx)(aa:List (Addr×Obj))(σ:St)(Q:VK)(u:Value)(s':Shared):Prop:=∃v H',Inv X aa σ H' s'/\RelV v u/\Q v H'
n%TP (X:Cx)(aa:List (Addr×Obj))(σ:St)(Q:Bool->Hp->Prop)(b:Bool)(s':Shared):Prop:=∃H',Inv X aa σ H' s'/\Q b H'
n%AP (X:Cx)(aa:List (Addr×Obj))(σ:St)(Q:List V->Hp->Prop)(us:List Value)(s':Shared):Prop:=∃vs H',Inv X aa σ H' s'/\aQ vs us/\Q vs H'
n%SP (X:Cx)(aa:List (Addr×Obj))(D:Ends)(f:Flow)(s':Shared):Prop :=
 match f with
 |.next=>∃aD H',Inv X aa aD H' s'/\D.nx aD H'
 |.brk=>∃aD H',Inv X aa aD H' s'/\D.bk aD H'
 |.cont=>∃aD H',Inv X aa aD H' s'/\D.ct aD H'
 |.ret u=>∃v aD H',Inv X aa aD H' s'/\RelV v u/\D.rt v H'
n%PE (X:Cx)(e:Expr)(t:TE):Prop :=
 ∀(aa:List (Addr×Obj)) (s:Shared) (σ:St) (H:Hp) (Q:VK),Inv X aa σ H s->t σ H Q->wpAny (model X.prog X.w) X.A (eval e X.env) (EP X aa σ Q) X.xe s
n%PT (X:Cx)(e:Expr)(t:TT):Prop :=
 ∀(aa:List (Addr×Obj)) (s:Shared) (σ:St) (H:Hp) (Q:Bool->Hp->Prop),Inv X aa σ H s->t σ H Q->wpAny (model X.prog X.w) X.A (isTrue e X.env (eval e X.env)) (TP X aa σ Q) X.xe s
n%PW (X:Cx)(e:Expr)(t:TT):Prop :=
 ∀(whole:Sem Value) (aa:List (Addr×Obj)) (s:Shared) (σ:St) (H:Hp) (Q:Bool->Hp->Prop),Inv X aa σ H s->t σ H Q->wpAny (model X.prog X.w) X.A (isTrue e X.env whole) (TP X aa σ Q) X.xe s
t%PW.pt {X:Cx}{e:Expr}{t:TT}(h:PW X e t):PT X e t:=h _
n%PA (X:Cx)(es:List Expr)(t:TA):Prop :=
 ∀(pos:Pos) (aa:List (Addr×Obj)) (s:Shared) (σ:St) (H:Hp) (Q:List V->Hp->Prop),Inv X aa σ H s->t σ H Q->wpAny (model X.prog X.w) X.A (spliced (backTo pos (starEach es X.env))) (AP X aa σ Q) X.xe s
n%PS (X:Cx)(st:Stmt)(t:TS):Prop :=
 ∀(aa:List (Addr×Obj)) (s:Shared) (σ:St) (H:Hp) (D:Ends),Inv X aa σ H s->t D σ H->wpAny (model X.prog X.w) X.A (exec st X.env) (SP X aa D) X.xe s
n%iM (X:Cx)(st:List Stmt)(t:TS):Prop :=
 ∀(aa:List (Addr×Obj)) (s:Shared) (σ:St) (H:Hp) (D:Ends),Inv X aa σ H s->t D σ H->wpAny (model X.prog X.w) X.A (execs st X.env) (SP X aa D) X.xe s
t%bi {α : Type}{t:Sem α}{Q Q':α->Shared->Prop}{M:Model}{A:Around}{E:Value->Shared->Prop}{s:Shared}(h:wpAny M A t Q E s)(hQ:∀a s,Q a s->Q' a s):wpAny M A t Q' E s:=wpAny_mono h hQ fun _ _ x=>x
section
variable {X:Cx}
n%mR (i:Nat):TE:=fun σ H Q=>∃v,σ[i]?=some (some v)/\Q v H
n%tC (v:V):TE:=fun _ H Q=>Q v H
t%C5 {i:Nat}{x:Str}{pos:Pos}(hN:X.N[i]?=some x)(hv:Pc X.env.scope x)(hd:y%((x == ("__debug__" : Str))=false))(v8:y%((x == ("__classdict__" : Str))=false)):PE X (.Name x pos) (mR i):=by
 intro aa s σ H Q I h;o%⟨v,e,h⟩:=h;o%⟨m,hn,hl⟩:=I.loc;o%⟨u,r,l⟩:=hl i x v hN e hv;have kB:EP X aa σ Q u s:=⟨v,H,I,r,h⟩;rcases l with ⟨hk,hm⟩ |⟨hk,c,hc,yq⟩
 .exact wpAny_Name (wpAny_loadName_local I.ok.kind hk hn hm kB) hd
 .rcases hk with hk |hk
  .exact wpAny_Name (wpAny_loadName_cell I.ok.kind hk hc yq kB) hd
  .exact wpAny_Name (wpAny_loadName_free I.ok.kind hk hc yq kB v8) hd
t%bE {i j pos}:PE X (.Constant (.int i) j pos) (tC (.int i)):=fun _ _ _ H _ I h=>wpAny_Constant_int ⟨.int i,H,I.tok _,⟨_,rfl⟩,h⟩
t%iG {b j pos}:PE X (.Constant (.bool b) j pos) (tC (.bl b)):=fun _ _ _ H _ I h=>Constant_bool ⟨.bl b,H,I,rfl,h⟩
t%wP {j pos}:PE X (.Constant .none j pos) (tC .bO):=fun _ _ _ H _ I h=>Constant_none ⟨.bO,H,I,rfl,h⟩
t%sh {x j pos}:PE X (.Constant (.str x) j pos) (tC (.str x)):=fun _ _ _ H _ I h=>Calls.Constant_str ⟨.str x,H,I.tok _,⟨_,rfl⟩,h⟩
n%Gl (X:Cx)(x:Str):Prop:=X.env.kindOf x=some .globalImplicit
t%fi {E:Value->Shared->Prop}{aa:List (Addr×Obj)}{s:Shared}{σ:St}{H:Hp}{x:Str}{u:Value}{pos:Pos}{Q:Value->Shared->Prop}(I:Inv X aa σ H s)(hg:Gl X x)(hm:X.mg x=some u)(h:Q u s)
  (hd:y%((x == ("__debug__" : Str))=false)):wpAny (model X.prog X.w) X.A (eval (.Name x pos) X.env) Q E s :=
 Calls.Name_function_global I.ok.kind hg (Calls.loadGlobal_global (by rw[I.ok.glob];e%I.mod.glob.keeps I.bk) hm h) hd
t%gd {E:Value->Shared->Prop}{aa:List (Addr×Obj)}{s:Shared}{σ:St}{H:Hp}{x:Str}{u:Value}{pos:Pos}{Q:Value->Shared->Prop}(I:Inv X aa σ H s)(hg:Gl X x)(hm:X.mg x=none)(hv:bootBuiltins x=some u)(h:Q u s)
  (hn:y%(x ≠ "__name__")) (hd:y%((x == ("__debug__" : Str))=false)):wpAny (model X.prog X.w) X.A (eval (.Name x pos) X.env) Q E s:=by
 o%⟨mb,h1,h2⟩:=I.mod.blt;e%Calls.Name_function_global I.ok.kind hg (Calls.loadGlobal_builtin (by rw[I.ok.glob];e%I.mod.glob.keeps I.bk) hm (by rw[I.ok.blt];e%h1.keeps I.bk) ((h2 x hn).trans hv) h) hd
t%nB {x:Str}{v:V}{u:Value}{pos:Pos}(hg:Gl X x)(hm:X.mg x=some u)(r:RelV v u)(hd:y%((x == ("__debug__" : Str))=false)):PE X (.Name x pos) (tC v) :=
 fun _ _ _ H _ I h=>fi I hg hm ⟨v,H,I,r,h⟩ hd
variable {a b:Expr}{ta tb:TE}{pos:Pos}
n%tB (t:TE):TT:=fun σ H Q=>t σ H fun x H1=>∃c,x=.bl c/\Q c H1
t%t8 {e:Expr}{t:TE}(h:PE X e t)(he:∀whole,isTrue e X.env whole=(do let v <- whole;standAt e.pos;holding [v] (truthy v)):=by intro _;rfl):PT X e (tB t):=by
 intro aa s σ H Q I hw;r%isTrue_plain (bi (h aa s σ H _ I hw) fun v s1 ⟨x,H1,I1,r1,q1⟩=>?_) (he _);o%⟨d,rfl,q⟩:=q1;cases r1;e%wpAny_truthy_bool ⟨H1,I1,q⟩
variable {tA RI:TT}{fv:List Expr}
n%Wj (t u:TT):TT:=fun σ H Q=>t σ H fun c H1=>if c=true then u σ H1 Q else Q false H1
n%tOr (t u:TT):TT:=fun σ H Q=>t σ H fun c H1=>if c=true then Q true H1 else u σ H1 Q
n%Wa (t:TT):TT:=fun σ H Q=>t σ H fun c H1=>Q (!c) H1
t%pw_and1 (ha:PT X a tA):PW X (.BoolOp .And [a] pos) tA:=by
 intro wh aa s σ H Q I h;r%isTrue_and (bi (ha aa s σ H Q I h) fun c s1 e=>?_);cases c with
 |true=>e%isTrue_and_nil e
 |false=>e%e
t%pw_or1 (ha:PT X a tA):PW X (.BoolOp .Or [a] pos) tA:=by
 intro wh aa s σ H Q I h;r%isTrue_or (bi (ha aa s σ H Q I h) fun c s1 e=>?_);cases c with
 |false=>e%isTrue_or_nil e
 |true=>e%e
t%pw_and (ha:PT X a tA)(hb:PW X (.BoolOp .And (b::fv) pos) RI):PW X (.BoolOp .And (a::b::fv) pos) (Wj tA RI):=by
 intro wh aa s σ H Q I h;r%isTrue_and (bi (ha aa s σ H _ I h) fun c s1 ⟨H1,I1,q1⟩=>?_);cases c with
 |true=>e%hb wh aa s1 σ H1 Q I1 q1
 |false=>e%⟨H1,I1,q1⟩
t%pw_or (ha:PT X a tA)(hb:PW X (.BoolOp .Or (b::fv) pos) RI):PW X (.BoolOp .Or (a::b::fv) pos) (tOr tA RI):=by
 intro wh aa s σ H Q I h;r%isTrue_or (bi (ha aa s σ H _ I h) fun c s1 ⟨H1,I1,q1⟩=>?_);cases c with
 |true=>e%⟨H1,I1,q1⟩
 |false=>e%hb wh aa s1 σ H1 Q I1 q1
t%vW (ha:PT X a tA):PT X (.UnaryOp .Not a pos) (Wa tA):=by
 intro aa s σ H Q I h;e%isTrue_not (ha aa s σ H (fun c H1=>Q (!c) H1) I h)
n%QN (ta tb:TE):TE:=fun σ H Q=>ta σ H fun x H1=>∃c,x=.bl c/\if c=true then tb σ H1 Q else Q (.bl false) H1
n%V9 (ta tb:TE):TE:=fun σ H Q=>ta σ H fun x H1=>∃c,x=.bl c/\if c=true then Q (.bl true) H1 else tb σ H1 Q
n%QH (ta:TE):TE:=fun σ H Q=>ta σ H fun x H1=>∃c,x=.bl c/\Q (.bl (!c)) H1
t%gH {op}{t:TE}(h:PE X a t):PE X (.BoolOp op [a] pos) t:=fun aa s σ H Q I hw=>BoolOp_one (h aa s σ H Q I hw)
t%iy (ha:PE X a ta)(hb:PE X (.BoolOp .And (b::fv) pos) tb):PE X (.BoolOp .And (a::b::fv) pos) (QN ta tb):=by
 intro aa s σ H Q I h;r%BoolOp_and (bi (ha aa s σ H _ I h) fun v s1 ⟨x,H1,I1,r1,q1⟩=>?_);o%⟨c,rfl,q1⟩:=q1;cases r1;r%wpAny_truthy_bool ?_;cases c with
 |true=>e%hb aa s1 σ H1 Q I1 q1
 |false=>e%⟨.bl false,H1,I1,rfl,q1⟩
t%Q5 (ha:PE X a ta)(hb:PE X (.BoolOp .Or (b::fv) pos) tb):PE X (.BoolOp .Or (a::b::fv) pos) (V9 ta tb):=by
 intro aa s σ H Q I h;r%BoolOp_or (bi (ha aa s σ H _ I h) fun v s1 ⟨x,H1,I1,r1,q1⟩=>?_);o%⟨c,rfl,q1⟩:=q1;cases r1;r%wpAny_truthy_bool ?_;cases c with
 |false=>e%hb aa s1 σ H1 Q I1 q1
 |true=>e%⟨.bl true,H1,I1,rfl,q1⟩
t%L5 (ha:PE X a ta):PE X (.UnaryOp .Not a pos) (QH ta):=by
 intro aa s σ H Q I h;r%UnaryOp_ (bi (ha aa s σ H _ I h) fun v s1 ⟨x,H1,I1,r1,q1⟩=>?_);o%⟨c,rfl,q1⟩:=q1;cases r1;e%not_of (wpAny_truthy_bool ⟨.bl (!c),H1,I1,rfl,q1⟩)
n%tIf (t:TT)(ta tb:TE):TE:=fun σ H Q=>t σ H fun c H1=>if c=true then ta σ H1 Q else tb σ H1 Q
t%D4 {c:Expr}(hc:PT X c tA)(ha:PE X a ta)(hb:PE X b tb):PE X (.IfExp c a b pos) (tIf tA ta tb):=by
 intro aa s σ H Q I h;r%wpAny_IfExp (bi (hc aa s σ H _ I h) fun d s1 ⟨H1,I1,q1⟩=>?_);cases d with
 |true=>e%ha aa s1 σ H1 Q I1 q1
 |false=>e%hb aa s1 σ H1 Q I1 q1
end
n%bz (K:PySem.W.Frag)(H:Hp)(a:Addr)(xs:List V):Prop :=
 Rd H a (.lst xs) \/
  ∃(o:Obj) (its:Array Value) (n:Nat),K.lookup a=some o/\o.cls=.type "list"/\o.dict=none/\o.data=.seq its n/\its.size<=sizeLine/\aQ xs its.toList
n%aH (K:PySem.W.Frag)(H:Hp)(a:Addr)(xs:List V):Prop :=
 Rd H a (.tup xs) \/
  ∃(o:Obj) (its:Array Value) (n:Nat),K.lookup a=some o/\o.cls=.type "tuple"/\o.data=.seq its n/\its.size<=sizeLine/\aQ xs its.toList
n%Xj:Value->Option V
 |.none=>some .bO
 |.bool b=>some (.bl b)
 |.int i _=>some (.int i)
 |.str x _=>some (.str x)
 |.bytes b _=>some (.zI b)
 |.float b _=>some (.NO b)
 |.ref a=>some (.ref a)
 |.type n=>some (.ty n)
 |_=>none
t%RelV.abs {x:V}{u:Value}(r:RelV x u):Xj u=some x:=by
 cases x with
 |bO=>cases r;rfl
 |bl _=>cases r;rfl
 |int _=>o%⟨t,rfl⟩:=r;rfl
 |str _=>o%⟨t,rfl⟩:=r;rfl
 |zI _=>o%⟨t,rfl⟩:=r;rfl
 |NO _=>o%⟨t,rfl⟩:=r;rfl
 |ref _=>cases r;rfl
 |ty _=>cases r;rfl
t%RelV.inj {x y:V}{u:Value}(r:RelV x u)(q:RelV y u):x=y:=Option.some.inj (r.abs.symm.trans q.abs)
t%aQ.inj:∀{xs ys:List V}{us:List Value},aQ xs us->aQ ys us->xs=ys
 |_,_,_,.nil,.nil=>rfl
 |_,_,_,.cons r t,.cons r' t'=>by rw[r.inj r',aQ.inj t t']
section
variable {X:Cx}{aa:List (Addr×Obj)}{σ:St}{H:Hp}{s:Shared}{a:Addr}{xs ys:List V}
t%bz.of {K:PySem.W.Frag}(h:H a=some (.lst xs)):bz K H a xs:=.inl (.inl h)
t%aH.of {K:PySem.W.Frag}(h:H a=some (.tup xs)):aH K H a xs:=.inl (.inl h)
t%Inv.list (I:Inv X aa σ H s)(h:bz X.K H a xs):∃its:List Value,aQ xs its/\PlainL s.heap a its.toArray/\xs.length<=sizeLine:=by
 rcases h with h |⟨o,its,n,hk,hc,hd,hs,hz,r⟩
 .obtain⟨z,its,n,r,e⟩:=h.ok I.bp;e%⟨its,r,⟨_,n,e,rfl,rfl,rfl⟩,z⟩
 .refine⟨its.toList,r,⟨o,n,I.my a o hk,hc,hd,by simpa using hs⟩,?_⟩;have e:=r.length;simp only[Array.length_toList] at e;omega
t%Inv.tuple (I:Inv X aa σ H s)(h:aH X.K H a xs):∃its:List Value,aQ xs its/\IsTup s.heap a its.toArray/\xs.length<=sizeLine:=by
 rcases h with h |⟨o,its,n,hk,hc,hs,hz,r⟩
 .obtain⟨z,its,r,p⟩:=h.ok I.bp;e%⟨its,r,p,z⟩
 .refine⟨its.toList,r,⟨o,I.my a o hk,hc,n,by simpa using hs⟩,?_⟩;have e:=r.length;simp only[Array.length_toList] at e;omega
t%Inv.Et (I:Inv X aa σ H s)(h:bz X.K H a xs)(h':bz X.K H a ys):xs=ys:=by
 o%⟨its,r,⟨o,n,e,_,_,d⟩,_⟩:=I.list h;o%⟨its',r',⟨o',n',e',_,_,d'⟩,_⟩:=I.list h';rw[e] at e';cases e';rw[d] at d';injection d' with d1 _
 have:its=its':=by simpa using congrArg Array.toList d1
 subst this;e%r.inj r'
t%Inv.jF (I:Inv X aa σ H s)(h:aH X.K H a xs)(h':aH X.K H a ys):xs=ys:=by
 o%⟨its,r,⟨o,e,_,n,d⟩,_⟩:=I.tuple h;o%⟨its',r',⟨o',e',_,n',d'⟩,_⟩:=I.tuple h';rw[e] at e';cases e';rw[d] at d';injection d' with d1 _
 have:its=its':=by simpa using congrArg Array.toList d1
 subst this;e%r.inj r'
end
m%Cx.wish (X:Cx)(E:Value->Shared->Prop):Cx:={ X with xe:=E }
m%Cx.Oa (X:Cx):Cx:=X.wish fun _ _=>False
t%Cx.Ok.wish {X:Cx}(ok:X.Ok)(E:Value->Shared->Prop):(X.wish E).Ok :=
 ⟨ok.mod,ok.kind,ok.glob,ok.blt,ok.above,ok.inj,ok.has,ok.Ik,ok.hd,ok.frames,ok.A3,ok.zH,ok.bs,ok.Bf,ok.uk,ok.on,ok.iW,ok.Fh⟩
t%Cx.Ok.gE {X:Cx}{E:Value->Shared->Prop}(ok:(X.wish E).Ok):X.Ok :=
 ⟨ok.mod,ok.kind,ok.glob,ok.blt,ok.above,ok.inj,ok.has,ok.Ik,ok.hd,ok.frames,ok.A3,ok.zH,ok.bs,ok.Bf,ok.uk,ok.on,ok.iW,ok.Fh⟩
section
variable {X:Cx}{aa:List (Addr×Obj)}{σ:St}{H:Hp}{s:Shared}{E:Value->Shared->Prop}
t%Inv.wish (I:Inv X aa σ H s)(E:Value->Shared->Prop):Inv (X.wish E) aa σ H s:=⟨I.ok.wish E,I.os,I.bare,I.base,I.loc,I.cell,I.free,I.fY,I.pin,I.bp,I.len⟩
t%Inv.gE (I:Inv (X.wish E) aa σ H s):Inv X aa σ H s:=⟨I.ok.gE,I.os,I.bare,I.base,I.loc,I.cell,I.free,I.fY,I.pin,I.bp,I.len⟩
t%SP.gE {D:Ends}{f:Flow}{s':Shared}(h:SP (X.wish E) aa D f s'):SP X aa D f s':=by
 cases f with
 |next=>o%⟨aD,H',I,q⟩:=h;e%⟨aD,H',I.gE,q⟩
 |brk=>o%⟨aD,H',I,q⟩:=h;e%⟨aD,H',I.gE,q⟩
 |cont=>o%⟨aD,H',I,q⟩:=h;e%⟨aD,H',I.gE,q⟩
 |ret u=>o%⟨v,aD,H',I,r,q⟩:=h;e%⟨v,aD,H',I.gE,r,q⟩
t%iM.Oa {st:List Stmt}{t:TS}(h:iM X.Oa st t):iM X st t:=fun aa s σ H D I hw =>
 wpAny_mono (h aa s σ H D (I.wish _) hw) (fun _ _ q=>q.gE) fun _ _ z=>False.elim z
end
section
variable {X:Cx}{st:Stmt}{fv:List Stmt}{t u:TS}{e:Expr}{te:TE}{pos:Pos}
n%QI:TS:=fun D σ H=>D.nx σ H
n%V7 (t u:TS):TS:=fun D σ H=>t { D with nx:=u D } σ H
t%tT:iM X [] QI:=fun _ _ σ H _ I h=>wpAny_execs_nil ⟨σ,H,I,h⟩
t%d9 (h1:PS X st t)(h2:iM X fv u):iM X (st::fv) (V7 t u):=by
 intro aa s σ H D I h;r%wpAny_execs_cons (bi (h1 aa s σ H { D with nx:=u D } I h) fun f s1 q=>?_);cases f with
 |next =>
  o%⟨aD,H',I',q⟩:=q;e%h2 aa s1 aD H' D I' q
 |ret v=>e%q
 |brk=>e%q
 |cont=>e%q
t%de (h1:PS X st t):iM X [st] t:=by
 intro aa s σ H D I h;r%wpAny_execs_cons (bi (h1 aa s σ H D I h) fun f s1 q=>?_);cases f with
 |next=>e%wpAny_execs_nil q
 |ret v=>e%q
 |brk=>e%q
 |cont=>e%q
t%Inv.quiet {aa:List (Addr×Obj)}{σ:St}{H:Hp}{s:Shared}(I:Inv X aa σ H s):interactive X.env=false:=by simp[interactive,I.ok.kind]
n%QK (te:TE):TS:=fun D σ H=>te σ H fun _ H1=>D.nx σ H1
t%yI (he:PE X e te)(hs:x%(swapsWith e none pos.line X.env=pure false)):PS X (.Expr e pos) (QK te):=by
 intro aa s σ H D I h;e%wpAny_Expr_any (bi (he aa s σ H _ I h) fun v s1 ⟨x,H1,I1,r1,q1⟩=>⟨σ,H1,I1,q1⟩) I.quiet hs
n%Pm (te:TE):TS:=fun D σ H=>te σ H D.rt
t%eY (he:PE X e te):PS X (.Return (some e) pos) (Pm te):=by
 intro aa s σ H D I h;e%wpAny_Return_some (bi (he aa s σ H _ I h) fun v s1 ⟨x,H1,I1,r1,q1⟩=>⟨x,σ,H1,I1,r1,q1⟩)
n%We (c:TT)(t u:TS):TS:=fun D σ H=>c σ H fun b H1=>if b=true then t D σ H1 else u D σ H1
t%d6 {c:Expr}{a b:List Stmt}{tc:TT}(hc:PT X c tc)(ha:iM X a t)(hb:iM X b u):PS X (.If c a b pos) (We tc t u):=by
 intro aa s σ H D I h;r%wpAny_If (bi (hc aa s σ H _ I h) fun d s1 ⟨H1,I1,q1⟩=>?_);cases d with
 |true=>e%ha aa s1 σ H1 D I1 q1
 |false=>e%hb aa s1 σ H1 D I1 q1
end
m%TG:=V->St->Hp->(St->Hp->Prop)->Prop
m%zJ:=List V->St->Hp->(St->Hp->Prop)->Prop
n%PG (X:Cx)(gb:Expr)(t:TG):Prop :=
 ∀(aa:List (Addr×Obj)) (s:Shared) (σ:St) (H:Hp) (v:V) (u:Value) (Q:St->Hp->Prop),Inv X aa σ H s->RelV v u->t v σ H Q ->
  wpAny (model X.prog X.w) X.A (assign gb X.env u) (fun _ s'=>∃aD H',Inv X aa aD H' s'/\Q aD H') X.xe s
n%vQ (X:Cx)(ts:List Expr)(t:zJ):Prop :=
 ∀(aa:List (Addr×Obj)) (s:Shared) (σ:St) (H:Hp) (vs:List V) (us:List Value) (Q:St->Hp->Prop),Inv X aa σ H s->aQ vs us->t vs σ H Q ->
  wpAny (model X.prog X.w) X.A (assignInOrder ((assignEach ts X.env).map (·.2)) us) (fun _ s'=>∃aD H',Inv X aa aD H' s'/\Q aD H') X.xe s
m%K7:=V->V->V->Hp->(Hp->Prop)->Prop
n%Qy (X:Cx)(t:K7):Prop :=
 ∀(aa:List (Addr×Obj)) (s:Shared) (σ:St) (H:Hp) (o i v:V) (ov iv u:Value) (Q:Hp->Prop),Inv X aa σ H s->RelV o ov->RelV i iv->RelV v u->t o i v H Q ->
  wpAny (model X.prog X.w) X.A (setItem ov iv u) (fun _ s'=>∃H',Inv X aa σ H' s'/\Q H') X.xe s
m%Tb:=V->V->Hp->VK->Prop
n%PIp (X:Cx)(op:Operator)(t:Tb):Prop :=
 ∀(aa:List (Addr×Obj)) (s:Shared) (σ:St) (H:Hp) (x y:V) (v u:Value) (Q:VK),Inv X aa σ H s->RelV x v->RelV y u->t x y H Q ->
  wpAny (model X.prog X.w) X.A (inplaceOp op v u) (EP X aa σ Q) X.xe s
section
variable {X:Cx}{pos:Pos}
n%cF (i:Nat):TG:=fun v σ H Q=>Q (σ.set i (some v)) H
t%bG {i:Nat}{x:Str}(hN:X.N.Nodup)(hi:X.N[i]?=some x)(hx:Loc X.env.scope x)(hf:X.fn x=true\/X.env.scope.names.lookup x=some .local:=by first |e%.inl rfl |e%.inr rfl |assumption):PG X (.Name x pos) (cF i):=by
 intro aa s σ H v u Q I r h;e%wpAny_assign_Name (Fu I hN hi hx r (fun s' I'=>⟨_,H,I',h⟩) hf)
n%Gi:zJ:=fun vs σ H Q=>vs=[]/\Q σ H
n%oI (t:TG)(u:zJ):zJ:=fun vs σ H Q=>∃v r,vs=v::r/\t v σ H fun aD H'=>u r aD H' Q
t%E6:vQ X [] Gi:=by
 intro aa s σ H vs us Q I r h;o%⟨e,h⟩:=h;subst e;cases r;e%assignInOrder_nil ⟨σ,H,I,h⟩
t%rH {e:Expr}{es:List Expr}{t:TG}{u:zJ}(h1:PG X e t)(h2:vQ X es u)
  (hs:x%((assignEach (e::es) X.env).map (·.2)=assign e X.env::(assignEach es X.env).map (·.2))):vQ X (e::es) (oI t u):=by
 intro aa s σ H vs us Q I r h;o%⟨v,vr,e1,h⟩:=h;subst e1;cases r with
 |cons r rr =>
  rw[hs];r%assignInOrder_cons (bi (h1 aa s σ H _ _ _ I r h) fun _ s1 ⟨HU,H1,I1,q1⟩=>?_);e%h2 aa s1 HU H1 _ _ Q I1 rr q1
n%BS (K:PySem.W.Frag)(n:Nat)(t:zJ):TG:=fun v σ H Q=>∃a xs,v=.ref a/\aH K H a xs/\xs.length=n/\t xs σ H Q
t%LX {es:List Expr}{k:Nat}{t:zJ}{n:Nat}(hc:X.calm=true)(h:vQ X es t)
  (hn:x%((assignEach es X.env).length=n)) (lO:x%((assignEach es X.env).findIdx? (·.1)=none)):PG X (.Tuple es k pos) (BS X.K n t):=by
 intro aa s σ H v u Q I r hw;o%⟨a,xs,e1,hq,hl,hw⟩:=hw;subst e1;cases r;o%⟨its,rv,ht,hz⟩:=I.tuple hq;r%assign_Tuple_tuple (I.ok.hd hc) ht (by simp[hn,<- hl,rv.length]) lO fun h' hx=>?_
 have I1:Inv X aa σ H { s with heap:=h' }:=I.kept (t':=s.toks) fun b o e=>hx b o (Yd (Heap.lt_size e)) e
 e%h aa _ σ H xs _ Q I1 (by simpa using rv) hw
n%W9 (to ti:TE)(t:K7):TG:=fun v σ H Q=>to σ H fun o H1=>ti σ H1 fun i H2=>t o i v H2 fun H3=>Q σ H3
t%wO {o i:Expr}{to ti:TE}{t:K7}(ho:PE X o to)(hi:PE X i ti)(hs:Qy X t)
  (ha:∀v,assign (.Subscript o i pos) X.env v=(do
   let ov <- holding [v] (eval o X.env);let iv <- holding [v,ov] (eval i X.env)
   standAt pos
   holding [v,ov,iv] (setItem ov iv v)
   release [v,ov,iv] []):=by intro _;rfl):PG X (.Subscript o i pos) (W9 to ti t):=by
 intro aa s σ H v u Q I r h;rw[ha];r%Za (wpAny_holding (bi (ho aa s σ H _ I h) fun ov s1 ⟨x,H1,I1,r1,q1⟩=>?_));r%Za (wpAny_holding (bi (hi aa s1 σ H1 _ I1 q1) fun iv s2 ⟨y,H2,I2,r2,q2⟩=>?_));r%Za (wpAny_standAt (Za (wpAny_holding (bi (hs aa s2 σ H2 x y v ov iv u _ I2 r1 r2 r q2) fun _ s3 ⟨H3,I3,q3⟩=>?_))));e%wpAny_release ⟨σ,H3,I3,q3⟩
n%FL (te:TE)(g:TG):TS:=fun D σ H=>te σ H fun x H1=>g x σ H1 D.nx
t%j8 {tg e:Expr}{te:TE}{g:TG}(he:PE X e te)(hg:PG X tg g)(hs:x%(swapsWithSole [tg] e pos.line X.env=pure false))(hw:x%(swappedStores [tg] e X.env=pure none))
  (h1:x%((assignEach [tg] X.env).map (·.2)=[assign tg X.env])):PS X (.Assign [tg] e pos) (FL te g):=by
 intro aa s σ H D I h;r%wpAny_Assign_stores (bi (he aa s σ H _ I h) fun v s1 ⟨x,H1,I1,r1,q1⟩=>?_) hs hw;rw[h1];e%bi (hg aa s1 σ H1 x v _ I1 r1 q1) fun _ s2 q=>q
t%lI {i:Nat}{x:Str}{e:Expr}{te:TE}{rR:Pos}(hN:X.N.Nodup)(hi:X.N[i]?=some x)(hx:Loc X.env.scope x)(he:PE X e te)(hs:x%(swapsWith e (some (.Name x rR)) pos.line X.env=pure false))(hf:X.fn x=true\/X.env.scope.names.lookup x=some .local:=by first |e%.inl rfl |e%.inr rfl |assumption) :
  PS X (.Assign [.Name x rR] e pos) (FL te (cF i)):=by
 intro aa s σ H D I h;r%wpAny_Assign_Name (bi (he aa s σ H _ I h) fun v s1 ⟨y,H1,I1,r1,q1⟩=>?_) hs;e%Fu I1 hN hi hx r1 (fun s2 I2=>⟨_,H1,I2,q1⟩) hf
n%V8 (i j:Nat)(ta:TA):TS:=fun D σ H=>ta σ H fun vs H1=>∃v w,vs=[v,w]/\D.nx ((σ.set i (some v)).set j (some w)) H1
t%j7 {i j:Nat}{x y:Str}{a b:Expr}{ta:TA}{px py pt:Pos}{kt k2 Jt}(hc:X.calm=true)(hN:X.N.Nodup)(hi:X.N[i]?=some x)(hj:X.N[j]?=some y)(UP:i≠j)
  (hx:X.env.scope.names.lookup x=some .local) (hy:X.env.scope.names.lookup y=some .local) (ha:PA X [a,b] ta)
  (hw:swappedStores [.Tuple [.Name x px,.Name y py] kt pt] (.Tuple [a,b] k2 Jt) X.env=pure (some [x,y]))
  (hs:x%(swapsWithSole [.Tuple [.Name x px,.Name y py] kt pt] (.Tuple [a,b] k2 Jt) pos.line X.env=pure false)) :
  PS X (.Assign [.Tuple [.Name x px,.Name y py] kt pt] (.Tuple [a,b] k2 Jt) pos) (V8 i j ta):=by
 intro aa s σ H D I h;rw[exec_Assign_arm];r%Za (wpAny_standAt ?_);rw[hs];r%Za (wpAny_pure ?_);rw[if_neg d%];r%Za (Tuple_ (bi (ha _ aa s σ H _ I h) fun us s1 ⟨vs,H1,I1,r1,q1⟩=>?_));o%⟨v,w,e1,q1⟩:=q1;subst e1;obtain⟨u1,u2,rfl,rv,Bk⟩:∃u1 u2,us=[u1,u2]/\RelV v u1/\RelV w u2:=by
  cases r1 with
  |cons p q =>
   cases q with
   |cons p' q' =>
    cases q'
    e%⟨_,_,rfl,p,p'⟩
 r%wpAny_newObj_type ?_ (by show 2<=sizeLine;decide);have I2:Inv X aa σ H1 { s1 with heap:=s1.heap.push { cls:=.type "tuple",data:=.seq [u1,u2].toArray } }:=I1.kept (t':=s1.toks) fun b o e=>Heap.get?_push_of_some _ e
 rw[hw];r%Za (wpAny_pure ?_);show wpAny (model X.prog X.w) X.A (do rule "assign.swapped-stores";let items <- unpackItems (.ref s1.heap.objs.size) 2 none;assignInOrder [fun v=>bindName X.env y v,fun v=>bindName X.env x v] items.reverse;pure Flow.next) _ _ _;r%Za (wpAny_rule (Za (unpackItems_tuple (items:=#[u1,u2]) (I.ok.hd hc) (IsTup.new s1.heap _) fun h' Fd=>?_)));have I3:=I2.kept (h':=h') (t':=s1.toks) fun b o e=>Fd b o (Yd (Heap.lt_size e)) e
 show wpAny _ _ (assignInOrder [fun v=>bindName X.env y v,fun v=>bindName X.env x v] [u2,u1] >>= fun _=>pure Flow.next) _ _ _;r%Za (assignInOrder_cons (wpAny_bindName (Fu I3 hN hj (.inl hy) Bk (fun s2 I4=>?_) (.inr hy))));r%assignInOrder_cons (wpAny_bindName (Fu I4 hN hi (.inl hx) rv (fun s3 I5=>assignInOrder_nil (wpAny_pure ?_)) (.inr hx)));rw[List.set_comm _ _ (Ne.symm UP)] at I5;e%⟨_,H1,I5,q1⟩
n%Wh (i:Nat)(te:TE)(ti:Tb):TS:=fun D σ H=>∃x,σ[i]?=some (some x)/\te σ H fun y H1=>ti x y H1 fun z H2=>D.nx (σ.set i (some z)) H2
t%LU {i:Nat}{x:Str}{e:Expr}{te:TE}{op:Operator}{ti:Tb}{rR:Pos}(hN:X.N.Nodup)(hi:X.N[i]?=some x)(hx:Loc X.env.scope x)(he:PE X e te)(ho:PIp X op ti)(hf:X.fn x=true\/X.env.scope.names.lookup x=some .local:=by first |e%.inl rfl |e%.inr rfl |assumption) :
  PS X (.AugAssign (.Name x rR) op e pos) (Wh i te ti):=by
 intro aa s σ H D I h;o%⟨v,e1,h⟩:=h;o%⟨m,hn,hl⟩:=I.loc;have vis:Pc X.env.scope x:=by rcases hx with k |k;e%.inl k;e%.inr (.inl k)
 o%⟨u,r,l⟩:=hl i x v hi e1 vis;r%wpAny_AugAssign_Name ?_;have go:wpAny (model X.prog X.w) X.A (eval e X.env) (fun w eZ=>wpAny (model X.prog X.w) X.A (inplaceOp op u w) (fun r cU=>wpAny (model X.prog X.w) X.A (storeName X.env x r) (fun _=>SP X aa D .next) X.xe cU) X.xe eZ) X.xe s:=by
  r%bi (he aa s σ H _ I h) fun w s1 ⟨y,H1,I1,r1,q1⟩=>?_
  r%bi (ho aa s1 σ H1 v y u w _ I1 r r1 q1) fun z s2 ⟨zv,H2,I2,r2,q2⟩=>?_
  e%Fu I2 hN hi hx r2 (fun s3 I3=>⟨_,H2,I3,q2⟩) hf
 rcases l with ⟨hk,hm⟩ |⟨hk,c,hc,yq⟩
 .exact wpAny_loadName_local I.ok.kind hk hn hm go
 .rcases hk with hk |hk
  .exact wpAny_loadName_cell I.ok.kind hk hc yq go
  .rcases hx with k |k
   .have:X.env.scope.names.lookup x=some .free:=hk;rw[k] at this;cases this
   .have:X.env.scope.names.lookup x=some .free:=hk;rw[k] at this;cases this
n%ipI (f:Int->Int->Int):Tb:=fun x y H Q=>∃i j,x=.int i/\y=.int j/\Q (.int (f i j)) H
t%Nb:PIp X .Add (ipI fun i j=>i+j):=by
 intro aa s σ H x y v u Q I r1 r2 h;o%⟨i,j,e1,e2,q⟩:=h;subst e1;subst e2;o%⟨t,rfl⟩:=r1;o%⟨t',rfl⟩:=r2;e%iadd_int ⟨.int _,H,I.tok _,⟨_,rfl⟩,q⟩
end
section
variable {X:Cx}{pos:Pos}
n%CT (c:TT)(tb:TS):TS:=fun D σ H=>∃W:Nat->St->Hp->Prop,(∃m,W m σ H)/\∀m σ H,W m σ H ->
 c σ H fun b H1=>if b=true then ∃N:St->Hp->Prop,(∀aD H',N aD H'->∃m',m'<m/\W m' aD H')/\tb { D with nx:=N,ct:=N,bk:=D.nx } σ H1 else D.nx σ H1
t%jq {c:Expr}{body:List Stmt}{tc:TT}{tb:TS}(hp:PassesOwn (model X.prog X.w) X.A X.env X.xe)(hc:PT X c tc)(hb:iM X body tb):PS X (.While c body [] pos) (CT tc tb):=by
 intro aa s σ H D I h;o%⟨W,⟨m0,w0⟩,turn⟩:=h;r%wpAny_While (codeAny_whileLoop (fun n s'=>∃aD H',Inv X aa aD H' s'/\W n aD H') ?_ m0 ⟨σ,H,I,w0⟩);rintro n s1 ⟨HU,H1,I1,w1⟩;r%wpAny_passesOwn hp (bi (hc aa s1 HU H1 _ I1 (turn n HU H1 w1)) fun b s2 ⟨H2,I2,q2⟩=>?_);cases b with
 |true =>
  o%⟨N,hN,q2⟩:=q2;rw[if_pos rfl];r%wpAny_passesOwn hp (bi (hb aa s2 HU H2 _ I2 q2) fun f s3 q3=>?_);cases f with
  |next =>
   o%⟨jz,H3,I3,n3⟩:=q3;o%⟨m',hm,w3⟩:=hN jz H3 n3;e%⟨m',hm,jz,H3,I3,w3⟩
  |cont =>
   o%⟨jz,H3,I3,n3⟩:=q3;o%⟨m',hm,w3⟩:=hN jz H3 n3;e%⟨m',hm,jz,H3,I3,w3⟩
  |brk=>e%q3
  |ret v=>e%q3
 |false =>
  rw[if_neg Zy];e%wpAny_execs_nil ⟨HU,H2,I2,q2⟩
end
structure It where
 go:Nat->Hp->Prop
 xQ:Nat->Hp->V->Hp->Prop
 stop:Nat->Hp->Prop
n%cY (X:Cx)(aa:List (Addr×Obj))(H:Hp)(b:Addr):Prop :=
 H b=none/\b≠X.env.locals/\b∉X.fs/\(b∈X.ex\/X.aT.heap.objs.size<=b)/\(∀x c,X.env.cells.lookup x=some c->c≠b)/\∀p∈X.pn++aa,p.1≠b
t%Inv.jR {X:Cx}{aa:List (Addr×Obj)}{σ:St}{H H':Hp}{s:Shared}{b:Addr}(I:Inv X aa σ H s)(hb:s.heap.objs.size<=b)(hn:H' b=none):cY X aa H' b:=by
 r%⟨hn,Nat.ne_of_gt (Ya I.lt hb),I.WF hb,.inr (Ye I.sz hb),fun x c e z=>?_,fun p hp z=>?_⟩
 .obtain⟨v,q⟩:=I.cell x c e;e%absurd (Ya q.lt (by rw[z];e%hb)) (Nat.lt_irrefl _)
 .exact absurd (Ya (Heap.lt_size (I.pin p hp).1) (by rw[z];e%hb)) (Nat.lt_irrefl _)
structure Turn (P:Program)(w:World)(K:PySem.W.Frag)(tg:Expr)(J:It)(fp:List Addr)(it:Addr)(tn:Nat->Heap->Prop):Prop where
 mem:it∈fp
 obj:∀i h,tn i h->∀b∈fp,∃o,h.get? b=some o/\∀v,o.data≠.cell v
 keep:∀i h h',tn i h->(∀b∈fp,∀o,h.get? b=some o->h'.get? b=some o)->tn i h'
 item:∀(X:Cx),X.prog=P->X.w=w->X.K=K->X.calm=true->∀(i:Nat) (aa:List (Addr×Obj)) (s:Shared) (σ:St) (H:Hp) (E:Value->Shared->Prop),Inv X aa σ H s->(∀b∈fp,cY X aa H b)->tn i s.heap->J.go i H ->
  wpAny (model P w) X.A (pyNext (.ref it)) (fun r s1=>∃u,r=some u /\
   wpAny (model P w) X.A (letOwnedTupleGo tg (.ref it) u) (fun _ s2=>∃x H',Inv X aa σ H' s2/\RelV x u/\J.xQ i H x H'/\tn (i+1) s2.heap/\∀b∈fp,H' b=none) E s1) E s
 done:∀(X:Cx),X.prog=P->X.w=w->X.K=K->X.calm=true->∀(i:Nat) (aa:List (Addr×Obj)) (s:Shared) (σ:St) (H:Hp) (E:Value->Shared->Prop),Inv X aa σ H s->(∀b∈fp,cY X aa H b)->tn i s.heap->J.stop i H ->
  wpAny (model P w) X.A (pyNext (.ref it)) (fun r s1=>r=none/\Inv X aa σ H s1) E s
 self:∀(A:Around) (i:Nat) (s:Shared) (Q:Value->Shared->Prop) (E:Value->Shared->Prop),tn i s.heap->Q (.ref it) s->wpAny (model P w) A (pyIter (.ref it)) Q E s
m%TI:=St->Hp->(It->Hp->Prop)->Prop
n%PIE (X:Cx)(aa:List (Addr×Obj))(σ:St)(tg:Expr)(R:It->Hp->Prop)(Fb:Value)(s2:Shared):Prop :=
 ∃(it:Addr) (fp:List Addr) (tn:Nat->Heap->Prop) (J:It) (H':Hp),Fb=.ref it/\Inv X aa σ H' s2/\Turn X.prog X.w X.K tg J fp it tn/\tn 0 s2.heap/\(∀b∈fp,cY X aa H' b)/\R J H'
n%PI (X:Cx)(tg iter:Expr)(wi:TI):Prop :=
 ∀(aa:List (Addr×Obj)) (s:Shared) (σ:St) (H:Hp) (R:It->Hp->Prop),Inv X aa σ H s->wi σ H R ->
  wpAny (model X.prog X.w) X.A (eval iter X.env) (fun v s1=>wpAny (model X.prog X.w) X.A (pyIter v) (PIE X aa σ tg R) X.xe s1) X.xe s
t%uE {M:Model}{A:Around}{E:Value->Shared->Prop}{s:Shared}{tg:Expr}{it:Addr}{u:Value}{o:Obj}{n:String}{vs:Array Value}{Q:Unit->Shared->Prop}(ho:s.heap.get? it=some o)(hc:o.cls=.type n)(hd:o.data=.fields vs)
  (hn:["enumerate","zip","dict_itemiterator","dict_reverseitemiterator","odict_iterator","itertools.zip_longest","itertools.pairwise"].contains n=false) (hQ:Q () s):wpAny M A (letOwnedTupleGo tg (.ref it) u) Q E s:=by
 unfold letOwnedTupleGo;cases tg<;>first
  |e%wpAny_pure hQ
  |(cases u<;>first
    |e%wpAny_pure hQ
    |(r%Za (wpAny_load ho ?_);rw[hc,hd];show wpAny M A (if (["enumerate","zip","dict_itemiterator","dict_reverseitemiterator","odict_iterator","itertools.zip_longest","itertools.pairwise"].contains n&&vs[0]? == some (rawInt _))=true then _ else _) Q E s;rw[if_neg (by intro h;rw[hn,Bool.false_and] at h;cases h)];e%wpAny_pure hQ))
n%zM (K:PySem.W.Frag)(a:Addr):It :=
 ⟨fun i H=>∃xs x,bz K H a xs/\xs[i]?=some x,fun i H x H'=>H'=H/\∀xs,bz K H a xs->xs[i]?=some x,fun i H=>∃xs,bz K H a xs/\xs.length<=i⟩
n%zL (K:PySem.W.Frag)(a:Addr):It :=
 ⟨fun i H=>∃xs x,aH K H a xs/\xs[i]?=some x,fun i H x H'=>H'=H/\∀xs,aH K H a xs->xs[i]?=some x,fun i H=>∃xs,aH K H a xs/\xs.length<=i⟩
n%BD (lo:Int)(n:Nat):It:=⟨fun i _=>i<n,fun i H x H'=>H'=H/\x=.int (lo+i),fun i _=>n<=i⟩
t%qP {P:Program}{w:World}{K:PySem.W.Frag}{tg:Expr}(a it:Addr):Turn P w K tg (zM K a) [it] it (fun i h=>h.IsListIter it a i) where
 mem:=by simp
 obj:=fun i h st b hb=>by
  have e:b=it:=by simpa using hb
  subst e;o%⟨o,e,c,d⟩:=st;e%⟨o,e,fun v z=>by rw[d] at z;cases z⟩
 keep:=fun i h h' st k=>st.at fun o e=>k it i% o e
 item:=by
  intro X hP hw hK hc i aa s σ H E I hf st hg;subst hP hw hK;o%⟨xs,x,hq,hx⟩:=hg;o%⟨its,rv,p,hz⟩:=I.list hq;o%⟨u,hu,ru⟩:=rv.get hx;o%⟨f0,f1,f2,f3,f4,f5⟩:=hf it i%;r%wpAny_pyNext_list_item st p.isList (x:=u) (by simpa using hu) fun h' xS sb=>?_
  have I1:Inv X aa σ H { s with heap:=h' }:=I.turned (t':=s.toks) (fun b o hb e=>(sb.2 b hb).trans e) f0 f1 f3 f4 f5;o%⟨o,e,c,d⟩:=id xS;e%⟨u,rfl,uE (s:={ s with heap:=h' }) e c d d% ⟨x,H,I1,ru,⟨rfl,fun ys hy=>by rw[I.Et hy hq];e%hx⟩,xS,fun b hb=>(hf b hb).1⟩⟩
 done:=by
  intro X hP hw hK hc i aa s σ H E I hf st hg;subst hP hw hK;o%⟨xs,hq,hx⟩:=hg;o%⟨its,rv,p,hz⟩:=I.list hq;o%⟨f0,f1,f2,f3,f4,f5⟩:=hf it i%;have hl:=rv.length;e%wpAny_pyNext_list_end (I.ok.hd hc) st p.isList (by simp;omega) fun h' eb=>⟨rfl,I.turned (t':=s.toks) (fun b o hb e=>eb b o hb e) f0 f1 f3 f4 f5⟩
 self:=fun _ _ _ _ _ st h=>wpAny_pyIter_listiter st h
t%pH {P:Program}{w:World}{K:PySem.W.Frag}{tg:Expr}(a it:Addr):Turn P w K tg (zL K a) [it] it (fun i h=>h.IsTupleIter it a i) where
 mem:=by simp
 obj:=fun i h st b hb=>by
  have e:b=it:=by simpa using hb
  subst e;o%⟨o,e,c,d⟩:=st;e%⟨o,e,fun v z=>by rw[d] at z;cases z⟩
 keep:=fun i h h' st k=>st.at fun o e=>k it i% o e
 item:=by
  intro X hP hw hK hc i aa s σ H E I hf st hg;subst hP hw hK;o%⟨xs,x,hq,hx⟩:=hg;o%⟨its,rv,p,hz⟩:=I.tuple hq;o%⟨u,hu,ru⟩:=rv.get hx;o%⟨f0,f1,f2,f3,f4,f5⟩:=hf it i%;r%wpAny_pyNext_tuple_item st (show s.heap.IsTuple a its.toArray from p) (x:=u) (by simpa using hu) fun h' xS sb=>?_
  have I1:Inv X aa σ H { s with heap:=h' }:=I.turned (t':=s.toks) (fun b o hb e=>(sb.2 b hb).trans e) f0 f1 f3 f4 f5;o%⟨o,e,c,d⟩:=id xS;e%⟨u,rfl,uE (s:={ s with heap:=h' }) e c d d% ⟨x,H,I1,ru,⟨rfl,fun ys hy=>by rw[I.jF hy hq];e%hx⟩,xS,fun b hb=>(hf b hb).1⟩⟩
 done:=by
  intro X hP hw hK hc i aa s σ H E I hf st hg;subst hP hw hK;o%⟨xs,hq,hx⟩:=hg;o%⟨its,rv,p,hz⟩:=I.tuple hq;o%⟨f0,f1,f2,f3,f4,f5⟩:=hf it i%;have hl:=rv.length;e%wpAny_pyNext_tuple_end (I.ok.hd hc) st (show s.heap.IsTuple a its.toArray from p) (by simp;omega) fun h' eb=>⟨rfl,I.turned (t':=s.toks) (fun b o hb e=>eb b o hb e) f0 f1 f3 f4 f5⟩
 self:=fun _ _ _ _ _ st h=>wpAny_pyIter_tupleiter st h
t%xg {P:Program}{w:World}{K:PySem.W.Frag}{tg:Expr}(it:Addr)(lo:Int)(n:Nat):Turn P w K tg (BD lo n) [it] it (fun i h=>IsRangeIter h it (lo+(i:Nat)*1) ((n:Int)-(i:Nat)) 1) where
 mem:=by simp
 obj:=fun i h st b hb=>by
  have e:b=it:=by simpa using hb
  subst e;e%⟨_,st,fun v z=>by
   have z':Data.fields _=Data.cell v:=z;cases z'⟩
 keep:=fun i h h' st k=>k it i% _ st
 item:=by
  intro X hP hw hK hc i aa s σ H E I hf st hg;subst hP hw hK;o%⟨f0,f1,f2,f3,f4,f5⟩:=hf it i%;have W:=Walks.range (prog:=X.prog) (w:=X.w) (I.ok.hd hc) it lo 1 n;r%W.item i s _ _ hg st fun v h' tk hv xS kk=>?_
  o%⟨t,rfl⟩:=hv;have I1:Inv X aa σ H { s with heap:=h',toks:=tk }:=I.turned (fun b o hb e=>kk b o (by simpa using hb) e) f0 f1 f3 f4 f5;r%⟨_,rfl,uE (s:={ s with heap:=h',toks:=tk }) (n:="range_iterator") xS rfl rfl d% ⟨.int (lo+i),H,I1,⟨t,?_⟩,⟨rfl,rfl⟩,xS,fun b hb=>(hf b hb).1⟩⟩;rw[Int.mul_one]
 done:=by
  intro X hP hw hK hc i aa s σ H E I hf st hg;subst hP hw hK;o%⟨f0,f1,f2,f3,f4,f5⟩:=hf it i%;e%wpAny_pyNext_range_end (I.ok.hd hc) st (by have:n<=i:=hg;omega) fun h' eb=>⟨rfl,I.turned (t':=s.toks) (fun b o hb e=>eb b o hb e) f0 f1 f3 f4 f5⟩
 self:=fun _ _ _ _ _ st h=>wpAny_pyIter_rangeiter st h
section
variable {X:Cx}{tg:Expr}
n%Rq (K:PySem.W.Frag)(tl:TE):TI:=fun σ H R=>tl σ H fun x H1=>∃a,x=.ref a/\(∃xs,bz K H1 a xs)/\R (zM K a) H1
n%WM (K:PySem.W.Frag)(tl:TE):TI:=fun σ H R=>tl σ H fun x H1=>∃a,x=.ref a/\(∃xs,aH K H1 a xs)/\R (zL K a) H1
t%DW {aa:List (Addr×Obj)}{σ:St}{H:Hp}{s:Shared}{R:It->Hp->Prop}{E:Value->Shared->Prop}{lo hi:Int}{t u v:Tok}{tk:Nat}(I:Inv X aa σ H s)(h1:-(2 ^ 62)<=lo)(h2:lo<2 ^ 62)(h3:-(2 ^ 62)<=hi)(h4:hi<2 ^ 62)
  (q:R (BD lo (hi-lo).toNat) H):wpAny (model X.prog X.w) X.A (pyIter (.ref s.heap.objs.size)) (PIE X aa σ tg R) E { s with heap:=s.heap.push { cls:=.type "range",data:=.fields #[.int lo t,.int hi u,.int 1 v] },toks:=tk }:=by
 r%wpAny_pyIter_range (IsRange.new ..) (small_one h1 h2 h3 h4) ?_;have I1:Inv X aa σ H { s with heap:=s.heap.push { cls:=.type "range",data:=.fields #[.int lo t,.int hi u,.int 1 v] },toks:=tk }:=I.kept fun b o e=>Heap.get?_push_of_some _ e
 r%⟨(s.heap.push { cls:=.type "range",data:=.fields #[.int lo t,.int hi u,.int 1 v] }).objs.size,[(s.heap.push { cls:=.type "range",data:=.fields #[.int lo t,.int hi u,.int 1 v] }).objs.size],_,_,H,rfl,
  I1.kept (t':=tk) fun b o e=>Heap.get?_push_of_some _ e,xg _ lo (hi-lo).toNat,?_,fun b hb=>?_,q⟩
 .have e1:lo+((0:Nat):Int)*1=lo:=by simp
  have e2:(((hi-lo).toNat:Nat):Int)-((0:Nat):Int)=Builtin.Range.rangeSize lo hi 1:=by rw[rangeSize_one];split<;>omega
  show IsRangeIter _ _ (lo+((0:Nat):Int)*1) ((((hi-lo).toNat:Nat):Int)-((0:Nat):Int)) 1;rw[e1,e2];e%Heap.get?_push_size _ rfl
 .have e:b=(s.heap.push { cls:=.type "range",data:=.fields #[.int lo t,.int hi u,.int 1 v] }).objs.size:=by simpa using hb
  subst e;e%I1.jR (Ze _) (I1.bp.fresh (Ze _))
n%Jb (ta:TA):TI:=fun σ H R=>ta σ H fun vs H1=>∃j:Int,vs=[.int j]/\-(2 ^ 62)<=j/\j<2 ^ 62/\R (BD 0 j.toNat) H1
t%jJ {a:Expr}{ta:TA}{p pos:Pos}(hg:Gl X "range")(hm:X.mg "range"=none)(ha:PA X [a] ta)(hs:x%(starEach [a] X.env=[(false,eval a X.env)])):PI X tg (.Call (.Name "range" p) [a] [] pos) (Jb ta):=by
 intro aa s σ H R I h;r%Call_ (gd I hg hm boot_range (PyProof.Rows.callWith_type1 (bi (ha pos aa s σ H _ I h) fun us s1 ⟨vs,H1,I1,r1,q1⟩=>?_) hs rfl));o%⟨j,e,q1,q2,q⟩:=q1;subst e;cases r1 with
 |cons r rr =>
  cases rr
  o%⟨t,rfl⟩:=r;e%call_range_1 (DW I1 g% g% q1 q2 (by simpa using q))
n%Wf (wi:TI)(g:TG)(tb:TS):TS:=fun D σ H=>wi σ H fun J H1=>∃W:Nat->Nat->St->Hp->Prop,(∃m,W 0 m σ H1)/\∀i m σ H,W i m σ H ->
 (J.stop i H/\D.nx σ H)\/(J.go i H/\∃N:St->Hp->Prop,(∀aD H',N aD H'->∃m',m'<m/\W (i+1) m' aD H')/\∀x H',J.xQ i H x H'->g x σ H' fun dz H2=>tb { D with nx:=N,ct:=N,bk:=D.nx } dz H2)
n%eu (fp:List Addr)(h:Heap):List (Addr×Obj):=fp.filterMap fun b=>(h.get? b).map fun o=>(b,o)
t%A7 {fp:List Addr}{h:Heap}{b:Addr}{o:Obj}(hb:b∈fp)(e:h.get? b=some o):(b,o)∈eu fp h:=List.mem_filterMap.mpr ⟨b,hb,by rw[e];rfl⟩
t%Az {fp:List Addr}{h:Heap}{p:Addr×Obj}(hp:p∈eu fp h):p.1∈fp/\h.get? p.1=some p.2:=by
 o%⟨b,hb,e⟩:=List.mem_filterMap.mp hp;cases q:h.get? b with
 |none=>rw[q] at e;cases e
 |some o =>
  rw[q] at e;have e':(b,o)=p:=Option.some.inj e;subst e';e%⟨hb,q⟩
t%Inv.pinned {aa:List (Addr×Obj)}{σ:St}{H:Hp}{s:Shared}{fp:List Addr}(I:Inv X aa σ H s)(hf:∀b∈fp,cY X aa H b)(ho:∀b∈fp,∃o,s.heap.get? b=some o/\∀v,o.data≠.cell v):Inv X (aa++eu fp s.heap) σ H s :=
 I.sN fun p hp=>(Zp.mp hp).elim (fun z=>I.pin p (Zq _ z)) fun z=>by
  o%⟨hb,e⟩:=Az z;o%⟨f0,f1,f2,_⟩:=hf p.1 hb;o%⟨o,e',d⟩:=ho p.1 hb;rw[e] at e';cases e';e%⟨e,f0,f1,f2,d⟩
t%Inv.dv {aa pl:List (Addr×Obj)}{σ:St}{H:Hp}{s:Shared}(I:Inv X (aa++pl) σ H s):Inv X aa σ H s:=I.sN fun p hp=>I.pin p (Zq _ (Yr _ hp))
t%oV {iter:Expr}{body:List Stmt}{wi:TI}{g:TG}{tb:TS}{pos:Pos}(hp:PassesOwn (model X.prog X.w) X.A X.env X.xe)(hc:X.calm=true)(hi:PI X tg iter wi)(hg:PG X tg g)(hb:iM X body tb)
  (hs:∀x,foldedSetIterable iter X.env x=pure x:=by intro _;rfl):PS X (.For tg iter body [] pos) (Wf wi g tb):=by
 intro aa s σ H D I h;r%wpAny_For (bi (hi aa s σ H _ I h) fun v s1 h1=>bi h1 fun Fb s2 h2=>?_) hs;o%⟨it,fp,tn,J,H2,e,I2,T,gP,f2,W,⟨m0,w0⟩,turn⟩:=h2;subst e;have ir:∀{H':Hp},(∀b∈fp,H' b=none)->∀b∈fp,cY X aa H' b:=fun hn b hb=>⟨hn b hb,(f2 b hb).2⟩
 r%codeAny_forLoop_any (fun n s'=>∃i aD H',Inv X aa aD H' s'/\tn i s'.heap/\(∀b∈fp,H' b=none)/\W i n aD H') ?_ m0 ⟨0,σ,H2,I2,gP,fun b hb=>(f2 b hb).1,w0⟩;rintro n s3 ⟨i,jz,H3,I3,Xv,Z4,w3⟩;rcases turn i n jz H3 w3 with ⟨stop,qn⟩ |⟨go,N,hN,step⟩
 .refine wpAny_passesOwn hp (bi (T.done X rfl rfl rfl hc i aa s3 jz H3 X.xe I3 (ir Z4) Xv stop) fun r s4 ⟨hr,I4⟩=>?_);subst hr;e%wpAny_execs_nil ⟨jz,H3,I4,qn⟩
 .refine wpAny_passesOwn hp (bi (T.item X rfl rfl rfl hc i aa s3 jz H3 X.xe I3 (ir Z4) Xv go) fun r s4 ⟨u,hr,h4⟩=>?_);subst hr;r%wpAny_passesOwn hp (bi h4 fun _ s5 ⟨x,H5,I5,r5,y5,nP,zG⟩=>?_);have I5':=I5.pinned (ir zG) (T.obj _ _ nP);r%wpAny_passesOwn hp (bi (hg _ s5 jz H5 x u _ I5' r5 (step x H5 y5)) fun _ s6 ⟨σ6,H6,I6,q6⟩=>?_);r%wpAny_passesOwn hp (bi (hb _ s6 σ6 H6 _ I6 q6) fun f s7 q7=>?_);have again:∀{vL:St}{H7:Hp},Inv X (aa++eu fp s5.heap) vL H7 s7->N vL H7->∃m,m<n/\∃i aD H',Inv X aa aD H' s7/\tn i s7.heap/\(∀b∈fp,H' b=none)/\W i m aD H':=fun {vL H7} I7 n7=>by
   o%⟨m',hm,w7⟩:=hN vL H7 n7;r%⟨m',hm,i+1,vL,H7,I7.dv,T.keep _ _ _ nP fun b hb o e=>(I7.pin (b,o) (Zq _ (Zq _ (A7 hb e)))).1,fun b hb=>?_,w7⟩;o%⟨o,e,d⟩:=T.obj _ _ nP b hb;e%(I7.pin (b,o) (Zq _ (Zq _ (A7 hb e)))).2.1
  cases f with
  |next=>o%⟨vL,H7,I7,n7⟩:=q7;e%again I7 n7
  |cont=>o%⟨vL,H7,I7,n7⟩:=q7;e%again I7 n7
  |brk=>o%⟨vL,H7,I7,q7⟩:=q7;e%⟨vL,H7,I7.dv,q7⟩
  |ret v=>o%⟨x7,vL,H7,I7,r7,q7⟩:=q7;e%⟨x7,vL,H7,I7.dv,r7,q7⟩
end
t%pE {K:PySem.W.Frag}{a:Addr}{xs:List V}{g:TG}{tb:TS}{D:Ends}{σ:St}{H:Hp}(Pv:Nat->St->Hp->Prop)(h0:Pv 0 σ H)(hl:∀i σ H,i<=xs.length->Pv i σ H->bz K H a xs)
  (hs:∀i x σ H,xs[i]?=some x->Pv i σ H->g x σ H fun dz H2=>tb { D with nx:=Pv (i+1),ct:=Pv (i+1),bk:=D.nx } dz H2) (hd:∀σ H,Pv xs.length σ H->D.nx σ H) :
  ∃W:Nat->Nat->St->Hp->Prop,(∃m,W 0 m σ H)/\∀i m σ H,W i m σ H ->
   ((zM K a).stop i H/\D.nx σ H)\/((zM K a).go i H/\∃N:St->Hp->Prop,(∀aD H',N aD H'->∃m',m'<m/\W (i+1) m' aD H')/\∀x H',(zM K a).xQ i H x H'->g x σ H' fun dz H2=>tb { D with nx:=N,ct:=N,bk:=D.nx } dz H2):=by
 r%⟨fun i m σ H=>m=xs.length-i/\i<=xs.length/\Pv i σ H,⟨xs.length,by simp,Nat.zero_le _,h0⟩,?_⟩;rintro i m σ H ⟨rfl,hi,p⟩;have q:=hl i σ H hi p;by_cases cN:i<xs.length
 .refine .inr ⟨⟨xs,xs[i],q,by simp[cN]⟩,Pv (i+1),fun aD H' p'=>⟨xs.length-(i+1),by omega,rfl,cN,p'⟩,fun x H' y=>?_⟩;o%⟨e,y⟩:=y;subst e;e%hs i x σ _ (y xs q) p
 .have e:i=xs.length:=by omega
  subst e;e%.inl ⟨⟨xs,q,Ze _⟩,hd σ H p⟩
t%AM {lo:Int}{n:Nat}{g:TG}{tb:TS}{D:Ends}{σ:St}{H:Hp}(Pv:Nat->St->Hp->Prop)(h0:Pv 0 σ H)
  (hs:∀i σ H,i<n->Pv i σ H->g (.int (lo+i)) σ H fun dz H2=>tb { D with nx:=Pv (i+1),ct:=Pv (i+1),bk:=D.nx } dz H2) (hd:∀σ H,Pv n σ H->D.nx σ H) :
  ∃W:Nat->Nat->St->Hp->Prop,(∃m,W 0 m σ H)/\∀i m σ H,W i m σ H ->
   ((BD lo n).stop i H/\D.nx σ H)\/((BD lo n).go i H/\∃N:St->Hp->Prop,(∀aD H',N aD H'->∃m',m'<m/\W (i+1) m' aD H')/\∀x H',(BD lo n).xQ i H x H'->g x σ H' fun dz H2=>tb { D with nx:=N,ct:=N,bk:=D.nx } dz H2):=by
 r%⟨fun i m σ H=>m=n-i/\i<=n/\Pv i σ H,⟨n,by simp,Nat.zero_le _,h0⟩,?_⟩;rintro i m σ H ⟨rfl,hi,p⟩;by_cases cN:i<n
 .refine .inr ⟨cN,Pv (i+1),fun aD H' p'=>⟨n-(i+1),by omega,rfl,cN,p'⟩,fun x H' y=>?_⟩;o%⟨e,y⟩:=y;subst e y;e%hs i σ _ cN p
 .have e:i=n:=by omega
  subst e;e%.inl ⟨Ze _,hd σ H p⟩
t%jm {c:TT}{tb:TS}{D:Ends}{σ:St}{H:Hp}(Pv:St->Hp->Prop)(μ : St->Hp->Nat)(h0:Pv σ H)
  (hs:∀σ H,Pv σ H->c σ H fun b H1=>if b=true then tb { D with nx:=fun aD H'=>Pv aD H'/\μ aD H' < μ σ H,ct:=fun aD H'=>Pv aD H'/\μ aD H' < μ σ H,bk:=D.nx } σ H1 else D.nx σ H1)
  (mono:∀σ H Q Q',(∀b H1,Q b H1->Q' b H1)->c σ H Q->c σ H Q'):CT c tb D σ H:=by
 r%⟨fun m σ H=>m=μ σ H/\Pv σ H,⟨_,rfl,h0⟩,?_⟩;rintro m σ H ⟨rfl,p⟩;r%mono σ H _ _ (fun b H1 q=>?_) (hs σ H p);cases b with
 |true=>e%⟨_,fun aD H' ⟨p',l⟩=>⟨_,l,rfl,p'⟩,q⟩
 |false=>e%q
m%R2:=V->V->Hp->VK->Prop
n%eO (X:Cx)(f:Value->Value->Sem Value)(r:R2):Prop :=
 ∀(aa:List (Addr×Obj)) (s:Shared) (σ:St) (H:Hp) (x y:V) (v u:Value) (Q:VK),Inv X aa σ H s->RelV x v->RelV y u->r x y H Q ->
  wpAny (model X.prog X.w) X.A (f v u) (EP X aa σ Q) X.xe s
n%VD (X:Cx)(f:Value->Sem Value)(r:V->Hp->VK->Prop):Prop :=
 ∀(aa:List (Addr×Obj)) (s:Shared) (σ:St) (H:Hp) (x:V) (v:Value) (Q:VK),Inv X aa σ H s->RelV x v->r x H Q ->
  wpAny (model X.prog X.w) X.A (f v) (EP X aa σ Q) X.xe s
n%cg (X:Cx)(f:Value)(r:List V->Hp->VK->Prop):Prop :=
 ∀(aa:List (Addr×Obj)) (s:Shared) (σ:St) (H:Hp) (xs:List V) (us:List Value) (Q:VK),Inv X aa σ H s->aQ xs us->r xs H Q ->
  wpAny (model X.prog X.w) X.A (call f us) (EP X aa σ Q) X.xe s
n%Xk (X:Cx)(r:V->Hp->(Bool->Hp->Prop)->Prop):Prop :=
 ∀(aa:List (Addr×Obj)) (s:Shared) (σ:St) (H:Hp) (x:V) (v:Value) (Q:Bool->Hp->Prop),Inv X aa σ H s->RelV x v->r x H Q ->
  wpAny (model X.prog X.w) X.A (truthy v) (TP X aa σ Q) X.xe s
n%Fn (r:R2)(ta tb:TE):TE:=fun σ H Q=>ta σ H fun x H1=>tb σ H1 fun y H2=>r x y H2 Q
n%tUn (r:V->Hp->VK->Prop)(ta:TE):TE:=fun σ H Q=>ta σ H fun x H1=>r x H1 Q
n%rI (C:Int->Int->Prop)(g:Int->Int->V):R2:=fun x y H Q=>∃i j,x=.int i/\y=.int j/\C i j/\Q (g i j) H
n%xT (g:Int->Int->V):R2:=fun x y H Q=>∃i j,x=.int i/\y=.int j/\Q (g i j) H
n%rU (g:Int->V):V->Hp->VK->Prop:=fun x H Q=>∃i,x=.int i/\Q (g i) H
section
variable {X:Cx}{a b c:Expr}{ta tb tc:TE}{pos:Pos}
t%K4 (ha:PE X a ta)(hb:PE X b tb){aa:List (Addr×Obj)}{s:Shared}{σ:St}{H:Hp}{R:V->V->Hp->Prop}(I:Inv X aa σ H s)
  (h:ta σ H fun x H1=>tb σ H1 fun y H2=>R x y H2) {Q:Value->Shared->Prop}{f:Value->Value->Sem Value}
  (hf:∀v u s2 x y H2,Inv X aa σ H2 s2->RelV x v->RelV y u->R x y H2->wpAny (model X.prog X.w) X.A (f v u) Q X.xe s2) :
  wpAny (model X.prog X.w) X.A (eval a X.env) (fun v bh=>wpAny (model X.prog X.w) X.A (eval b X.env) (fun u eZ=>wpAny (model X.prog X.w) X.A (f v u) Q X.xe eZ) X.xe bh) X.xe s:=by
 r%bi (ha aa s σ H _ I h) fun v s1 ⟨x,H1,I1,r1,q1⟩=>?_
 r%bi (hb aa s1 σ H1 _ I1 q1) fun u s2 ⟨y,H2,I2,r2,q2⟩=>?_
 e%hf v u s2 x y H2 I2 r1 r2 q2
t%cT {op:Operator}{r:R2}(ho:eO X (binaryOp op) r)(ha:PE X a ta)(hb:PE X b tb):PE X (.BinOp a op b pos) (Fn r ta tb):=by
 intro aa s σ H Q I h;e%wpAny_BinOp (K4 ha hb I h fun v u s2 x y H2 I2 rx ry q=>ho aa s2 σ H2 x y v u Q I2 rx ry q)
t%CD {op:UnaryOp}{r:V->Hp->VK->Prop}(ho:VD X (unaryOp op) r)(ha:PE X a ta):PE X (.UnaryOp op a pos) (tUn r ta):=by
 intro aa s σ H Q I h;e%UnaryOp_ (bi (ha aa s σ H _ I h) fun v s1 ⟨x,H1,I1,r1,q1⟩=>ho aa s1 σ H1 x v Q I1 r1 q1)
t%HX {f:Value->Value->Sem Value}{C:Int->Int->Prop}{g:Int->Int->Int}
  (rule:∀(i j:Int) (t u:Tok) (s:Shared) (Q:Value->Shared->Prop) (E:Value->Shared->Prop),C i j->Q (.int (g i j) s.toks) { s with toks:=s.toks+1 }->wpAny (model X.prog X.w) X.A (f (.int i t) (.int j u)) Q E s) :
  eO X f (rI C fun i j=>.int (g i j)):=by
 intro aa s σ H x y v u Q I rx ry h;o%⟨i,j,rfl,rfl,hc,q⟩:=h;o%⟨t,rfl⟩:=rx;o%⟨t',rfl⟩:=ry;e%rule i j t t' s _ _ hc ⟨.int (g i j),H,I.tok _,⟨_,rfl⟩,q⟩
t%PH {f:Value->Value->Sem Value}{g:Int->Int->Int}
  (rule:∀(i j:Int) (t u:Tok) (s:Shared) (Q:Value->Shared->Prop) (E:Value->Shared->Prop),Q (.int (g i j) s.toks) { s with toks:=s.toks+1 }->wpAny (model X.prog X.w) X.A (f (.int i t) (.int j u)) Q E s) :
  eO X f (xT fun i j=>.int (g i j)):=by
 intro aa s σ H x y v u Q I rx ry h;o%⟨i,j,rfl,rfl,q⟩:=h;o%⟨t,rfl⟩:=rx;o%⟨t',rfl⟩:=ry;e%rule i j t t' s _ _ ⟨.int (g i j),H,I.tok _,⟨_,rfl⟩,q⟩
t%FY {f:Value->Value->Sem Value}{g:Int->Int->Bool}
  (rule:∀(i j:Int) (t u:Tok) (s:Shared) (Q:Value->Shared->Prop) (E:Value->Shared->Prop),Q (.bool (g i j)) s->wpAny (model X.prog X.w) X.A (f (.int i t) (.int j u)) Q E s) :
  eO X f (xT fun i j=>.bl (g i j)):=by
 intro aa s σ H x y v u Q I rx ry h;o%⟨i,j,rfl,rfl,q⟩:=h;o%⟨t,rfl⟩:=rx;o%⟨t',rfl⟩:=ry;e%rule i j t t' s _ _ ⟨.bl (g i j),H,I,rfl,q⟩
n%Xm (i j:Int):Prop:=0<j/\j<1073741824
n%QC (i j:Int):Prop:=0<=j/\j<=1000000/\i.natAbs<2 ^ 64
n%Lh (i j:Int):Prop:=(-(2 ^ 64)<i/\i<2 ^ 64)\/(-(2 ^ 64)<j/\j<2 ^ 64)
t%Lh.ok {i j:Int}(h:Lh i j):IntMulOk i j:=by
 rcases h with ⟨h1,h2⟩ |⟨h1,h2⟩
 .exact .of_left (intBits_le_64 h1 h2)
 .exact .of_right (intBits_le_64 h1 h2)
t%iz:eO X (binaryOp .Add) (xT fun i j=>.int (i+j)):=PH fun _ _ _ _ _ _ _ q=>add_int q
t%si:eO X (binaryOp .Sub) (xT fun i j=>.int (i-j)):=PH fun _ _ _ _ _ _ _ q=>sub_int q
t%gJ:eO X (binaryOp .Mult) (rI Lh fun i j=>.int (i*j)):=HX fun _ _ _ _ _ _ _ hc q=>mul_int q hc.ok
t%kR:eO X (binaryOp .FloorDiv) (rI Xm fun i j=>.int (i / j)):=HX fun i j _ _ _ _ _ hc q=>by
 have h1:(0:Int)<j:=hc.1;have h2:j<1073741824:=hc.2;e%floordiv_int g% (by rw[Int.fdiv_eq_ediv_of_nonneg i g%];e%q) (.inl (PyProof.noPylong_small g%))
t%gK:eO X (binaryOp .Mod) (rI (fun _ j=>0<j) fun i j=>.int (i % j)):=HX fun i j _ _ _ _ _ hc q=>by
 have h1:(0:Int)<j:=hc;e%mod_int' g% (by rw[Int.fmod_eq_emod_of_nonneg i g%];e%q)
t%yL:eO X (binaryOp .Mod) (rI (fun _ j=>j≠0) fun i j=>.int (i.fmod j)):=HX fun _ _ _ _ _ _ _ hc q=>mod_int' hc q
t%sj:eO X (binaryOp .Pow) (rI QC fun i j=>.int (i ^ j.toNat)):=HX fun _ _ _ _ _ _ _ hc q=>pow_int_small hc.1 hc.2.1 hc.2.2 q
t%unI {f:Value->Sem Value}{g:Int->Int}
  (rule:∀(i:Int) (t:Tok) (s:Shared) (Q:Value->Shared->Prop) (E:Value->Shared->Prop),Q (.int (g i) s.toks) { s with toks:=s.toks+1 }->wpAny (model X.prog X.w) X.A (f (.int i t)) Q E s) :
  VD X f (rU fun i=>.int (g i)):=by
 intro aa s σ H x v Q I rx h;o%⟨i,rfl,q⟩:=h;o%⟨t,rfl⟩:=rx;e%rule i t s _ _ ⟨.int (g i),H,I.tok _,⟨_,rfl⟩,q⟩
t%wz:VD X (unaryOp .USub) (rU fun i=>.int (-i)):=unI fun _ _ _ _ _ q=>neg_int q
end
n%Pt:V->V->Bool
 |.bO,.bO=>true |.bO,.int _=>true |.int _,.bO=>true |.bO,.bl _=>true |.bl _,.bO=>true |.bO,.str _=>true |.str _,.bO=>true
 |.int _,.int _=>true |.bl _,.bl _=>true |.str _,.str _=>true |.zI _,.zI _=>true
 |.int _,.str _=>true |.str _,.int _=>true |.bl _,.str _=>true |.str _,.bl _=>true
 |_,_=>false
n%rEq:R2:=fun x y H Q=>Pt x y=true/\Q (.bl (decide (x=y))) H
n%rNe:R2:=fun x y H Q=>Pt x y=true/\Q (.bl (!decide (x=y))) H
t%zl {i j:Int}:decide (V.int i=V.int j)=(i == j):=by
 rw[Bool.eq_iff_iff];simp
t%DC {i j:Bool}:decide (V.bl i=V.bl j)=(i == j):=by
 rw[Bool.eq_iff_iff];simp
t%zk {i j:Str}:decide (V.str i=V.str j)=(i == j):=by
 rw[Bool.eq_iff_iff];simp
t%zn {i j:Array UInt8}:decide (V.zI i=V.zI j)=(i.toList == j.toList):=by
 rw[Bool.eq_iff_iff];cases i;cases j;simp
section
variable {X:Cx}{a b c:Expr}{ta tb tc:TE}{pos:Pos}
t%jS {aa:List (Addr×Obj)}{σ:St}{H:Hp}{s:Shared}{Q:VK}{k k':Bool}(I:Inv X aa σ H s)(q:Q (.bl k) H)(e:k=k'):EP X aa σ Q (.bool k') s:=by
 subst e;e%⟨.bl k,H,I,rfl,q⟩
t%yj:eO X (compareOp .Eq) rEq:=by
 intro aa s σ H x y v u Q I rx ry h;o%⟨hs,q⟩:=h;cases x with
 |bO =>
  cases rx
  cases y with
  |bO=>cases ry;e%PySem.EqNone.eq_none_none (jS I q i%)
  |bl j=>cases ry;e%PySem.EqNone.eq_none_bool (jS I q i%)
  |int j=>o%⟨t',rfl⟩:=ry;e%PySem.EqNone.eq_none_int (jS I q i%)
  |str j=>o%⟨t',rfl⟩:=ry;e%PySem.EqNone.eq_none_str (jS I q i%)
  |_=>e%absurd (show false=true from hs) Zy
 |bl i =>
  cases rx
  cases y with
  |bO=>cases ry;e%PySem.EqNone.eq_bool_none (jS I q i%)
  |bl j=>cases ry;e%eq_bool (jS I q DC)
  |str j=>o%⟨t',rfl⟩:=ry;e%PySem.EqMixed.eq_bool_str (jS I q i%)
  |_=>e%absurd (show false=true from hs) Zy
 |int i =>
  o%⟨t,rfl⟩:=rx;cases y with
  |bO=>cases ry;e%PySem.EqNone.eq_int_none (jS I q i%)
  |int j=>o%⟨t',rfl⟩:=ry;e%eq_int (jS I q zl)
  |str j=>o%⟨t',rfl⟩:=ry;e%PySem.EqMixed.eq_int_str (jS I q i%)
  |_=>e%absurd (show false=true from hs) Zy
 |str i =>
  o%⟨t,rfl⟩:=rx;cases y with
  |bO=>cases ry;e%PySem.EqNone.eq_str_none (jS I q i%)
  |bl j=>cases ry;e%PySem.EqMixed.eq_str_bool (jS I q i%)
  |int j=>o%⟨t',rfl⟩:=ry;e%PySem.EqMixed.eq_str_int (jS I q i%)
  |str j=>o%⟨t',rfl⟩:=ry;e%eq_str (jS I q zk)
  |_=>e%absurd (show false=true from hs) Zy
 |zI i =>
  o%⟨t,rfl⟩:=rx;cases y with
  |zI j=>o%⟨t',rfl⟩:=ry;e%PySem.W.eq_bytes (jS I q zn)
  |_=>e%absurd (show false=true from hs) Zy
 |_=>cases y<;>e%absurd (show false=true from hs) Zy
t%kJ:eO X (compareOp .NotEq) rNe:=by
 intro aa s σ H x y v u Q I rx ry h;o%⟨hs,q⟩:=h;cases x with
 |bO =>
  cases rx
  cases y with
  |bO=>cases ry;e%PySem.EqNone.ne_none_none (jS I q i%)
  |bl j=>cases ry;e%PySem.EqNone.ne_none_bool (jS I q i%)
  |int j=>o%⟨t',rfl⟩:=ry;e%PySem.EqNone.ne_none_int (jS I q i%)
  |str j=>o%⟨t',rfl⟩:=ry;e%PySem.EqNone.ne_none_str (jS I q i%)
  |_=>e%absurd (show false=true from hs) Zy
 |bl i =>
  cases rx
  cases y with
  |bO=>cases ry;e%PySem.EqNone.ne_bool_none (jS I q i%)
  |bl j=>cases ry;e%ne_bool (jS I q (congrArg not DC))
  |str j=>o%⟨t',rfl⟩:=ry;e%PySem.EqMixed.ne_bool_str (jS I q i%)
  |_=>e%absurd (show false=true from hs) Zy
 |int i =>
  o%⟨t,rfl⟩:=rx;cases y with
  |bO=>cases ry;e%PySem.EqNone.ne_int_none (jS I q i%)
  |int j=>o%⟨t',rfl⟩:=ry;e%ne_int (jS I q (congrArg not zl))
  |str j=>o%⟨t',rfl⟩:=ry;e%PySem.EqMixed.ne_int_str (jS I q i%)
  |_=>e%absurd (show false=true from hs) Zy
 |str i =>
  o%⟨t,rfl⟩:=rx;cases y with
  |bO=>cases ry;e%PySem.EqNone.ne_str_none (jS I q i%)
  |bl j=>cases ry;e%PySem.EqMixed.ne_str_bool (jS I q i%)
  |int j=>o%⟨t',rfl⟩:=ry;e%PySem.EqMixed.ne_str_int (jS I q i%)
  |str j=>o%⟨t',rfl⟩:=ry;e%ne_str (jS I q (congrArg not zk))
  |_=>e%absurd (show false=true from hs) Zy
 |zI i =>
  o%⟨t,rfl⟩:=rx;cases y with
  |zI j=>o%⟨t',rfl⟩:=ry;e%PySem.W.ne_bytes (jS I q (congrArg not zn))
  |_=>e%absurd (show false=true from hs) Zy
 |_=>cases y<;>e%absurd (show false=true from hs) Zy
t%kK:eO X (compareOp .Lt) (xT fun i j=>.bl (decide (i<j))):=FY fun _ _ _ _ _ _ _ q=>lt_int q
t%oA:eO X (compareOp .LtE) (xT fun i j=>.bl (decide (i<=j))):=FY fun _ _ _ _ _ _ _ q=>le_int q
t%i0:eO X (compareOp .Gt) (xT fun i j=>.bl (decide (j<i))):=FY fun _ _ _ _ _ _ _ q=>gt_int q
t%yi:eO X (compareOp .GtE) (xT fun i j=>.bl (decide (j<=i))):=FY fun _ _ _ _ _ _ _ q=>ge_int q
t%G4:eO X (compareOp .IsNot) (fun x y H Q=>y=.bO/\Q (.bl (!decide (x=.bO))) H):=by
 intro aa s σ H x y v u Q I rx ry h;o%⟨rfl,q⟩:=h;cases ry;r%isnot_none_gen (jS I q ?_);cases x<;>first
  |(cases rx;rfl)
  |(o%⟨t,rfl⟩:=rx;rfl)
t%eO.or {f:Value->Value->Sem Value}{r r':R2}(h:eO X f r)(h':eO X f r'):eO X f (fun x y H Q=>r x y H Q\/r' x y H Q):=by
 intro aa s σ H x y v u Q I rx ry q;rcases q with q |q
 .exact h aa s σ H x y v u Q I rx ry q
 .exact h' aa s σ H x y v u Q I rx ry q
t%ax (b:Expr){op:CmpOp}(h:y%(op≠.In))(h2:y%(op≠.NotIn)):behindInMarks op b=false:=by
 have e1:(op == CmpOp.In)=false:=by cases op<;>first |rfl |e%absurd rfl h
 have e2:(op == CmpOp.NotIn)=false:=by cases op<;>first |rfl |e%absurd rfl h2
 cases b<;>simp[behindInMarks,e1,e2]
t%vY {op:CmpOp}{r:R2}(ho:eO X (compareOp op) r)(ha:PE X a ta)(hb:PE X b tb)(hm:behindInMarks op b=false):PE X (.Compare a [op] [b] pos) (Fn r ta tb):=by
 intro aa s σ H Q I h;e%wpAny_Compare1 (K4 ha hb I h fun v u s2 x y H2 I2 rx ry q=>ho aa s2 σ H2 x y v u Q I2 rx ry q) hm
n%Ce (t:TE):TT:=fun σ H Q=>t σ H fun x H'=>∃k,x=.bl k/\Q k H'
t%qw {op:CmpOp}{r:R2}(ho:eO X (compareOp op) r)(ha:PE X a ta)(hb:PE X b tb)(hm:behindInMarks op b=false):PT X (.Compare a [op] [b] pos) (Ce (Fn r ta tb)):=by
 intro aa s σ H Q I h;r%wpAny_isTrue_Compare1 (bi (ha aa s σ H _ I h) fun v s1 ⟨x,H1,I1,r1,q1⟩=>bi (hb aa s1 σ H1 _ I1 q1) fun u s2 ⟨y,H2,I2,r2,q2⟩ =>
  bi (ho aa s2 σ H2 x y v u _ I2 r1 r2 q2) fun c s3 ⟨z,H3,I3,r3,k,e,q3⟩=>?_) hm
 subst e;cases r3;e%wpAny_truthy_bool ⟨H3,I3,q3⟩
n%CU (r r':R2)(ta tb tc:TE):TE:=fun σ H Q=>ta σ H fun x H1=>tb σ H1 fun y H2=>r x y H2 fun z H3=>∃k,z=.bl k /\
 (if k=true then tc σ H3 fun w' H4=>r' y w' H4 Q else Q (.bl false) H3)
t%D8 {op Ju:CmpOp}{r r':R2}(ho:eO X (compareOp op) r)(vP:eO X (compareOp Ju) r')(ha:PE X a ta)(hb:PE X b tb)(hc:PE X c tc)
  (hm:lastMarks [op,Ju] [b,c]=false:=by with_unfolding_all rfl):PE X (.Compare a [op,Ju] [b,c] pos) (CU r r' ta tb tc):=by
 intro aa s σ H Q I h;r%Compare_chain (bi (ha aa s σ H _ I h) fun v s1 ⟨x,H1,I1,r1,q1⟩=>chain_link (bi (hb aa s1 σ H1 _ I1 q1) fun u s2 ⟨y,H2,I2,r2,q2⟩ =>
  bi (ho aa s2 σ H2 x y v u _ I2 r1 r2 q2) fun d s3 ⟨z,H3,I3,r3,k,e,q3⟩=>?_)) hm
 subst e;cases r3;r%wpAny_truthy_bool ?_;cases k with
 |false=>e%ite_ff ⟨.bl false,H3,I3,rfl,q3⟩
 |true=>e%ite_tt (chain_last (bi (hc aa s3 σ H3 _ I3 q3) fun w' s4 ⟨z',H4,I4,r4,q4⟩=>vP aa s4 σ H4 y z' u w' Q I4 r2 r4 q4))
t%uT {op Ju:CmpOp}{r r':R2}(ho:eO X (compareOp op) r)(vP:eO X (compareOp Ju) r')(ha:PE X a ta)(hb:PE X b tb)(hc:PE X c tc)
  (hm:lastMarks [op,Ju] [b,c]=false:=by with_unfolding_all rfl):PT X (.Compare a [op,Ju] [b,c] pos) (Ce (CU r r' ta tb tc)):=by
 intro aa s σ H Q I h;r%isTrue_chain (bi (ha aa s σ H _ I h) fun v s1 ⟨x,H1,I1,r1,q1⟩=>test_link (bi (hb aa s1 σ H1 _ I1 q1) fun u s2 ⟨y,H2,I2,r2,q2⟩ =>
  bi (ho aa s2 σ H2 x y v u _ I2 r1 r2 q2) fun d s3 ⟨z,H3,I3,r3,k,e,q3⟩=>?_)) hm
 subst e;cases r3;r%wpAny_truthy_bool ?_;cases k with
 |false =>
  o%⟨k',e',q'⟩:=q3;cases e';e%ite_ff ⟨H3,I3,q'⟩
 |true =>
  r%ite_tt (test_last (bi (hc aa s3 σ H3 _ I3 q3) fun w' s4 ⟨z',H4,I4,r4,q4⟩=>bi (vP aa s4 σ H4 y z' u w' _ I4 r2 r4 q4) fun d' s5 ⟨z2,H5,I5,r5,k2,e2,q5⟩=>?_));subst e2;cases r5;e%wpAny_truthy_bool ⟨H5,I5,q5⟩
n%Qx (K:PySem.W.Frag)(x:V)(H:Hp)(k:Bool):Prop :=
 match x with
 |.bO=>k=false
 |.bl b=>k=b
 |.int i=>k=(i != 0)
 |.str y=>y.length<=sizeLine/\k=((y.length:Int) != 0)
 |.zI y=>y.size<=sizeLine/\k=((y.size:Int) != 0)
 |.ref p=>(∃xs,bz K H p xs/\k=!xs.isEmpty)\/(∃xs,aH K H p xs/\k=!xs.isEmpty)\/∃kvs,H p=some (.dK kvs)/\k=!kvs.isEmpty
 |_=>False
t%xC {κ : Type}{kvs:List (κ × V)}{vs:List (κ × Value)}(r:KV kvs vs):(!vs.isEmpty)=!kvs.isEmpty:=by
 cases r<;>rfl
t%pR {xs:List V}{its:List Value}(r:aQ xs its):(!its.toArray.isEmpty)=!xs.isEmpty:=by
 cases r<;>simp
t%oZ:(sizeLine:Nat)<2 ^ 63:=by rw[sizeLine_eq];decide
t%Lj:Xk X (fun x H Q=>∃k,Qx X.K x H k/\Q k H):=by
 intro aa s σ H x v Q I rx h;o%⟨k,e,q⟩:=h;have hl:=oZ;have hs:sizeLine=16777216:=sizeLine_eq;cases x with
 |bO =>
  cases rx
  have e':k=false:=e;subst e';e%truthy_none ⟨H,I,q⟩
 |bl b =>
  cases rx
  have e':k=b:=e;subst e';e%wpAny_truthy_bool ⟨H,I,q⟩
 |int i =>
  o%⟨t,rfl⟩:=rx;have e':k=(i != 0):=e;subst e';e%PySem.P.truthy_int ⟨H,I,q⟩
 |str y =>
  o%⟨t,rfl⟩:=rx;obtain⟨hy,e'⟩:y.length<=sizeLine/\k=((y.length:Int) != 0):=e;subst e';e%PySem.P.truthy_str g% ⟨H,I.tok _,q⟩
 |zI y =>
  o%⟨t,rfl⟩:=rx;obtain⟨hy,e'⟩:y.size<=sizeLine/\k=((y.size:Int) != 0):=e;subst e';e%PySem.W.truthy_bytes g% ⟨H,I.tok _,q⟩
 |ref p =>
  cases rx
  have e':(∃xs,bz X.K H p xs/\k=!xs.isEmpty)\/(∃xs,aH X.K H p xs/\k=!xs.isEmpty)\/∃kvs,H p=some (.dK kvs)/\k=!kvs.isEmpty:=e;rcases e' with ⟨xs,hx,e'⟩ |⟨xs,hx,e'⟩ |⟨kvs,hx,e'⟩
  .subst e';o%⟨its,r,pl,hz⟩:=I.list hx;have bN:=r.length;e%wpAny_truthy_list pl.isList (by simp only[Zt];omega) ⟨H,I.tok _,by rw[pR r];e%q⟩
  .subst e';o%⟨its,r,pl,hz⟩:=I.tuple hx;have bN:=r.length;e%truthy_tuple pl (by simp only[Zt];omega) ⟨H,I.tok _,by rw[pR r];e%q⟩
  .subst e';obtain⟨hz,hS,vs,r,m⟩:kvs.length<=sizeLine/\(p == sysModules)=false/\∃vs,KV kvs vs/\s.heap.DictOf (tS X.prog X.w) p vs:=I.bp p _ hx;have bN:kvs.length=vs.length:=Paired.length r;e%wpAny_truthy_dict hS m g% ⟨H,I.tok _,by rw[xC r];e%q⟩
 |_=>e%(show False from e).elim
t%pr (ha:PE X a ta)(he:∀whole,isTrue a X.env whole=(do let v <- whole;standAt a.pos;holding [v] (truthy v))) :
  PT X a (fun σ H Q=>ta σ H fun x H'=>∃k,Qx X.K x H' k/\Q k H'):=by
 intro aa s σ H Q I h;e%isTrue_plain (bi (ha aa s σ H _ I h) fun v s1 ⟨x,H1,I1,r1,q1⟩=>Lj aa s1 σ H1 x v Q I1 r1 q1) (he _)
t%vals1 {x:V}{us:List Value}(r:aQ [x] us):∃u,us=[u]/\RelV x u:=by
 cases r with
 |cons r1 r2=>cases r2;e%⟨_,rfl,r1⟩
t%vals2 {x y:V}{us:List Value}(r:aQ [x,y] us):∃u w',us=[u,w']/\RelV x u/\RelV y w':=by
 cases r with
 |cons r1 r2 =>
  cases r2 with
  |cons r3 r4=>cases r4;e%⟨_,_,rfl,r1,r3⟩
t%lv:cg X (.builtin "abs") (fun xs H Q=>∃i,xs=[.int i]/\Q (.int (if i<0 then -i else i)) H):=by
 intro aa s σ H xs us Q I r h;o%⟨i,rfl,q⟩:=h;o%⟨u,rfl,t,rfl⟩:=vals1 r;e%call_abs_int fun u tk=>⟨.int (if i<0 then -i else i),H,I.tok _,⟨_,rfl⟩,q⟩
t%rm (hc:X.calm=true):cg X (.builtin "max") (fun xs H Q=>∃i j,xs=[.int i,.int j]/\Q (.int (if j>i then j else i)) H):=by
 intro aa s σ H xs us Q I r h;o%⟨i,j,rfl,q⟩:=h;o%⟨u,w',rfl,⟨t,rfl⟩,⟨t',rfl⟩⟩:=vals2 r;r%max_two_ints (I.ok.hd hc) fun h' tk k=>⟨_,H,I.kept k,?_,q⟩
 by_cases hj:j>i
 .rw[if_pos hj,if_pos hj];e%⟨_,rfl⟩
 .rw[if_neg hj,if_neg hj];e%⟨_,rfl⟩
t%AY (hc:X.calm=true):cg X (.builtin "min") (fun xs H Q=>∃i j,xs=[.int i,.int j]/\Q (.int (if j<i then j else i)) H):=by
 intro aa s σ H xs us Q I r h;o%⟨i,j,rfl,q⟩:=h;o%⟨u,w',rfl,⟨t,rfl⟩,⟨t',rfl⟩⟩:=vals2 r;r%min_two_ints (I.ok.hd hc) fun h' tk k=>⟨_,H,I.kept k,?_,q⟩
 by_cases hj:j<i
 .rw[if_pos hj,if_pos hj];e%⟨_,rfl⟩
 .rw[if_neg hj,if_neg hj];e%⟨_,rfl⟩
t%jO:cg X (.type "int") (fun xs H Q=>(∃i,xs=[.int i]/\Q (.int i) H)\/∃k,xs=[.bl k]/\Q (.int (if k then 1 else 0)) H):=by
 intro aa s σ H xs us Q I r h;rcases h with ⟨i,rfl,q⟩ |⟨k,rfl,q⟩
 .obtain⟨u,rfl,t,rfl⟩:=vals1 r;e%call_int_int ⟨.int i,H,I,⟨_,rfl⟩,q⟩
 .obtain⟨u,rfl,r1⟩:=vals1 r;cases r1;e%call_int_bool ⟨.int (if k then 1 else 0),H,I.tok _,⟨_,rfl⟩,q⟩
end
structure K9 (h:Heap)(x dx C:Addr)(mA:Str->Option Value):Prop where
 obj:h.get? x=some (PySem.W.instObj C dx)
 ns:h.Ns1 dx mA
 ne:dx≠x
t%AD {h:Heap}{dx:Addr}{mA:Str->Option Value}(n:h.Ns1 dx mA):∃od,h.get? dx=some od/\∀name,PySem.W.lookIn name od=some (mA name):=by
 o%⟨o,es,ep,ho,hd,hk,_,hm⟩:=n;r%⟨o,ho,fun name=>?_⟩;have e:=hm name;unfold nsFind findBy at e;rw[<- Array.find?_toList] at e;unfold PySem.W.lookIn;rw[hd];dsimp only;split
 .rename_i y q;rw[q] at e;e%congrArg some e
 .rename_i q;rw[q] at e;have a:es.toList.any (·.refKey)=false:=by
   rw[List.any_eq_false];intro y hy;o%⟨z,t,KY⟩:=hk y (Array.mem_toList_iff.mp hy);simp[DictEntry.refKey,KY]
  have a':¬ es.toList.any (·.refKey)=true:=by rw[a];e%Zy
  rw[if_neg a'];e%congrArg some e
t%K9.look {h:Heap}{x dx C:Addr}{mA:Str->Option Value}(I:K9 h x dx C mA):∃od,PySem.W.InstAt h x (PySem.W.instObj C dx) C (some od)/\∀name,PySem.W.lookIn name od=some (mA name) :=
 let ⟨od,ho,hl⟩:=AD I.ns
 ⟨od,⟨I.obj,rfl,rfl,ho⟩,hl⟩
section
variable {prog:Program}{w:World}{A:Around}{E:Value->Shared->Prop}{s:Shared}{K:PySem.W.Frag}{x dx C f:Addr}{mA:Str->Option Value}{name:Str}{v:Value}
end
t%aJ.some_of {v:V}{o:Option Value}(r:aJ (some v) o):∃u,o=some u/\RelV v u:=by
 cases o with
 |none=>e%(show False from r).elim
 |some u=>e%⟨u,rfl,r⟩
section
variable {P:Program}{w:World}{H H':Hp}{h h':Heap}{a C dx:Addr}{fs fs':List (Str×V)}
t%HI (bp:jV P w H h)(e:H a=some (.ins C dx fs)):∃mA,K9 h a dx C mA/\(∀f,aJ (fs.lookup f) (mA f))/\PySem.Within mA (fs.map (·.1))/\fs.length<=1000/\H dx=some (.own a):=by
 o%⟨d,z,ne,ob,mA,n,r,q⟩:=(show bZ P w H h a (.ins C dx fs) from bp a _ e);e%⟨mA,⟨ob,n,ne⟩,r,q,z,d⟩
end
structure V2 (K:PySem.W.Frag)(C:Addr):Prop where
 pg:PySem.W.plainGet K C Str.empty=true
 hd:PySem.W.hasDictIn K C=true
 po:PySem.W.plainOver K C=true
 sa:PySem.W.findIn K (.ref C) "__setattr__"=some (some (.builtin "object.__setattr__"))
t%V2.get {K:PySem.W.Frag}{C:Addr}(c:V2 K C)(f:Str):PySem.W.plainGet K C f=true:=c.pg
section
variable {X:Cx}{aa:List (Addr×Obj)}{σ:St}{H:Hp}{s:Shared}{a C dx:Addr}{fs:List (Str×V)}{f:Str}{v:V}{A:Around}{E:Value->Shared->Prop}
end
section
variable {X:Cx}{o e value:Expr}{f:Str}{pos rR rO:Pos}{ta tv:TE}
end
section
variable {X:Cx}{aa:List (Addr×Obj)}{σ:St}{H:Hp}{s:Shared}{A:Around}{E:Value->Shared->Prop}{Q:Value->Shared->Prop}{c:Value}{b:Bool}
inductive iX (K:PySem.W.Frag) (H:Hp):V->Value->Prop where
 |bO:iX K H .bO (.type "NoneType")
 |bl (x:Bool):iX K H (.bl x) (.type "bool")
 |int (i:Int):iX K H (.int i) (.type "int")
 |str (x:Str):iX K H (.str x) (.type "str")
 |NO (x:UInt64):iX K H (.NO x) (.type "float")
 |lst {a:Addr}{xs:List V}(e:H a=some (.lst xs)):iX K H (.ref a) (.type "list")
 |jU {a:Addr}{o:Obj}{xs:List V}(e:H a=some (.jU o (.lst xs))):iX K H (.ref a) (.type "list")
 |tup {a:Addr}{xs:List V}(e:H a=some (.tup xs)):iX K H (.ref a) (.type "tuple")
 |dK {a:Addr}{kvs:List (df×V)}(e:H a=some (.dK kvs)):iX K H (.ref a) (.type "dict")
 |dT {a:Addr}{kvs:List (List df×V)}(e:H a=some (.dT kvs)):iX K H (.ref a) (.type "dict")
 |ins {a C dx:Addr}{fs:List (Str×V)}(e:H a=some (.ins C dx fs)) (cl:V2 K C) (ha:PySem.W.findIn K (.ref C) "__class__"=some (some (.builtin "object.__class__")))
   (hn:PySem.W.specialIn K (.builtin "object.__class__") "__get__"=some (some (.builtin "getset_descriptor.__get__"))) (Y1:PySem.W.takesIn K (.builtin "object.__class__")=some true)
   (hm:PySem.W.mroIn K C (.type "object")=some true):iX K H (.ref a) (.ref C)
t%AK {x:V}{u t:Value}(I:Inv X aa σ H s)(rx:RelV x u)(ty:iX X.K H x t)(e:PySem.W.kitOne X.K t c=some b)(h:∀tk,Q (.bool b) { s with toks:=tk }) :
  wpAny (model X.prog X.w) A (call (.builtin "isinstance") [u,c]) Q E s:=by
 cases ty with
 |bO=>cases (show u=Value.none from rx);e%PySem.W.kia_one PySem.W.kitx_none I.my True.intro e (fun z=>nomatch z) h
 |bl y=>cases (show u=Value.bool y from rx);e%PySem.W.kia_one PySem.W.kitx_bool I.my True.intro e (fun z=>nomatch z) h
 |int i=>o%⟨t,q⟩:=(show ∃t,u=Value.int i t from rx);cases q;e%PySem.W.kia_one PySem.W.kitx_int I.my True.intro e (fun z=>nomatch z) h
 |str y=>o%⟨t,q⟩:=(show ∃t,u=Value.str y t from rx);cases q;e%PySem.W.kia_one PySem.W.kitx_str I.my True.intro e (fun z=>nomatch z) h
 |NO y=>o%⟨t,q⟩:=(show ∃t,u=Value.float y t from rx);cases q;e%PySem.W.kia_one PySem.W.kitx_float I.my True.intro e (fun z=>nomatch z) h
 |@lst a xs ea =>
  cases (show u=Value.ref a from rx)
  o%⟨_,_,n,_,h1⟩:=(show bZ X.prog X.w H s.heap a (.lst xs) from I.bp a _ ea);e%PySem.W.kia_one PySem.W.kitx_list I.my ⟨_,h1,rfl⟩ e (fun z=>nomatch z) h
 |@jU a ob xs ea =>
  cases (show u=Value.ref a from rx)
  o%⟨_,_,_,n,_,h1⟩:=(show bZ X.prog X.w H s.heap a (.jU ob (.lst xs)) from I.bp a _ ea);e%PySem.W.kia_one PySem.W.kitx_list I.my ⟨_,h1,rfl⟩ e (fun z=>nomatch z) h
 |@tup a xs ea =>
  cases (show u=Value.ref a from rx)
  o%⟨_,_,_,p⟩:=(show bZ X.prog X.w H s.heap a (.tup xs) from I.bp a _ ea);o%⟨o,h1,h2,_⟩:=p;e%PySem.W.kia_one PySem.W.kitx_tuple I.my ⟨o,h1,h2⟩ e (fun z=>nomatch z) h
 |@dK a kvs ea =>
  cases (show u=Value.ref a from rx)
  o%⟨_,_,vs,_,p⟩:=(show bZ X.prog X.w H s.heap a (.dK kvs) from I.bp a _ ea);o%⟨o,es,ep,h1,h2,_⟩:=p;e%PySem.W.kia_one PySem.W.kitx_dict I.my ⟨o,h1,h2.1⟩ e (fun z=>nomatch z) h
 |@dT a kvs ea =>
  cases (show u=Value.ref a from rx)
  o%⟨_,_,xs,_,o,es,ep,h1,h2,_⟩:=(show bZ X.prog X.w H s.heap a (.dT kvs) from I.bp a _ ea);e%PySem.W.kia_one PySem.W.kitx_dict I.my ⟨o,h1,h2.1⟩ e (fun z=>nomatch z) h
 |@ins a C dx fs ea cl ha hn Y1 hm =>
  cases (show u=Value.ref a from rx)
  o%⟨mA,O,_⟩:=HI I.bp ea;o%⟨od,J,_⟩:=O.look;e%PySem.W.kia_one (PySem.W.kitx_own (cl.get _) cl.hd ha hn Y1 hm) I.my J e (fun z=>nomatch z) h
end
structure cR (k:Nat)(A:Around):Prop where
 hd:A.handled=none
 dp:A.depth+3*k+5<recursionLimit
 un:A.units+16*k+200<cLine
t%cR.mono {j k:Nat}{A:Around}(r:cR k A)(h:j<=k):cR j A:=⟨r.hd,by have:=r.dp;omega,by have:=r.un;omega⟩
t%cR.deeper {k:Nat}{A:Around}(r:cR (k+1) A)(env:Env):cR k (A.deeper env) :=
 ⟨r.hd,by have:=r.dp;show A.depth+1+3*k+5<_;omega,by have:=r.un;show A.units+3+16*k+200<_;omega⟩
t%cR.depth {k:Nat}{A:Around}(r:cR k A):A.depth<recursionLimit:=by have:=r.dp;omega
t%cR.units {k:Nat}{A:Around}(r:cR k A):A.units+64<cLine:=by have:=r.un;omega
n%Kg:TA:=fun _ H Q=>Q [] H
n%x8 (ta:TE)(tr:TA):TA:=fun σ H Q=>ta σ H fun x H1=>tr σ H1 fun xs H2=>Q (x::xs) H2
section
variable {X:Cx}{e:Expr}{es:List Expr}{te:TE}{t:TA}{pos:Pos}
t%bK:PA X [] Kg:=fun _ _ _ _ H Q I h=>Calls.spliced_nil ⟨[],H,I,.nil,h⟩
t%aR (ha:PE X e te)(hr:PA X es t)(hs:x%(starEach (e::es) X.env=(false,eval e X.env)::starEach es X.env)):PA X (e::es) (x8 te t):=by
 intro pos aa s σ H Q I h;rw[hs];show wpAny _ _ (spliced ((false,eval e X.env)::backTo pos (starEach es X.env))) _ _ s;r%Calls.spliced_cons (bi (ha aa s σ H _ I h) fun u s1 ⟨x,H1,I1,r1,q1⟩=>?_);e%bi (hr pos aa s1 σ H1 _ I1 q1) fun us s2 ⟨xs,H2,I2,r2,q2⟩=>⟨x::xs,H2,I2,.cons r1 r2,q2⟩
n%Pk (t:TA):TE:=fun σ H Q=>t σ H fun xs H1=>xs.length<=sizeLine/\∀p,H1 p=none->Q (.ref p) (aK H1 p (.tup xs))
n%Wb (t:TA):TE:=fun σ H Q=>t σ H fun xs H1=>xs.length<=sizeLine/\∀p,H1 p=none->Q (.ref p) (aK H1 p (.lst xs))
t%gG {x1}(h:PA X es t):PE X (.Tuple es x1 pos) (Pk t):=by
 intro aa s σ H Q I hq;r%wpAny_Tuple_spliced (bi (h pos aa s σ H _ I hq) fun us s1 ⟨xs,H1,I1,r,z,q⟩=>⟨by rw[<- r.length];e%z,?_⟩);have hf:H1 s1.heap.objs.size=none:=I1.bp.fresh (Ze _);r%⟨.ref s1.heap.objs.size,aK H1 s1.heap.objs.size (.tup xs),I1.laid (t':=s1.toks) (fun b u e=>Heap.get?_push_of_some _ e) (Ze _) ?_,rfl,q _ hf⟩;e%⟨z,us,r,⟨_,Heap.get?_push_size _ rfl,rfl,_,rfl⟩⟩
t%gI (h:PA X es t):PE X (.List es pos) (Wb t):=by
 intro aa s σ H Q I hq;r%wpAny_List_spliced (bi (h pos aa s σ H _ I hq) fun us s1 ⟨xs,H1,I1,r,z,q⟩=>⟨by rw[<- r.length];e%z,?_⟩);have hf:H1 s1.heap.objs.size=none:=I1.bp.fresh (Ze _);r%⟨.ref s1.heap.objs.size,aK H1 s1.heap.objs.size (.lst xs),I1.laid (t':=s1.toks) (fun b u e=>Heap.get?_push_of_some _ e) (Ze _) ?_,rfl,q _ hf⟩;e%⟨z,us,0,r,Heap.get?_push_size _ rfl⟩
end
m%Sp:=List V->Hp->VK->XK->Prop
m%x6:=List Env->Hp->Shared->XK->Value->Shared->Prop
structure ww (P:Program)(w:World)(K:PySem.W.Frag)(mg:Str->Option Value)(base:Heap)(A:Around)(outer:List Env)(s:Shared)(H:Hp):Prop where
 frames:A.frames=some outer
 mod:Mod K mg base
 bs:∀b o,base.get? b=some o->s.heap.get? b=some o/\H b=none
 Bf:base.objs.size<=s.heap.objs.size
 iW:s.heap.FunFrames base outer
 Fh:∀b∈iL outer,H b=none
 bp:jV P w H s.heap
 bare:AllBare s.gens
n%CE (outer:List Env)(P:Program)(w:World)(H:Hp)(s:Shared)(Q:VK)(u:Value)(s':Shared):Prop :=
 ∃v H',s'.os=s.os/\AllBare s'.gens/\Un (iL outer) [] H H' s.heap s'.heap/\jV P w H' s'.heap/\RelV v u/\Q v H'
n%CR (CX:x6)(outer:List Env)(P:Program)(w:World)(H:Hp)(s:Shared)(Q:VK)(E:XK)(r:Result)(s':Shared):Prop :=
 match r with
 |.ok (.ret u)=>CE outer P w H s Q u s'
 |.ok _=>False
 |.error e=>CX outer H s E e s'
structure aM (P:Program)(w:World)(K:PySem.W.Frag)(mg:Str->Option Value)(base:Heap)(CX:x6)(k:Nat)(f:Addr)(fd:FuncData)(ps:List Str)(sp:Sp):Prop where
 len:∀vs H Q E,sp vs H Q E->vs.length=ps.length
 run:∀(A:Around) (outer:List Env) (s:Shared) (H:Hp) (args:Args) (us:List Value) (vs:List V) (Q:VK) (E:XK),cR k A->ww P w K mg base A outer s H->BindsTo s fd args (ps.zip us)->aQ vs us->sp vs H Q E ->
  codeAny (model P w) A (.call (.ref f) args) (CR CX outer P w H s Q E) s
t%aM.imp {P:Program}{w:World}{K:PySem.W.Frag}{mg:Str->Option Value}{base:Heap}{CX:x6}{k:Nat}{f:Addr}{fd:FuncData}{ps:List Str}{sp NA:Sp}(F:aM P w K mg base CX k f fd ps sp)
  (h:∀vs H Q E,NA vs H Q E->sp vs H Q E):aM P w K mg base CX k f fd ps NA :=
 ⟨fun vs H Q E q=>F.len vs H Q E (h _ _ _ _ q),fun A outer s H args us vs Q E hr he hb hv hs=>F.run A outer s H args us vs Q E hr he hb hv (h _ _ _ _ hs)⟩
section
variable {X:Cx}{aa:List (Addr×Obj)}{σ:St}{H:Hp}{s s':Shared}
t%Inv.Gj (I:Inv X aa σ H s):ww X.prog X.w X.K X.mg X.base X.A X.stack s H :=
 ⟨I.ok.frames,I.ok.mod,I.bs,Ye I.ok.Bf I.sz,I.stack,I.sG,I.bp,I.bare⟩
t%Inv.after {Q:VK}{u:Value}(I:Inv X aa σ H s)(h:CE X.stack X.prog X.w H s Q u s'):EP X aa σ Q u s':=by
 o%⟨v,H',os,bare,un,bp,r,q⟩:=h;o%⟨hh,g,d,t,os'⟩:=s';obtain rfl:os'=s.os:=os;e%⟨v,H',I.call (h':=hh) (g':=g) (d':=d) (t':=t) (ch:=[]) un bp bare (fun b z=>absurd z i%),r,q⟩
end
n%QM (sp:Sp)(BA:List V)(E:XK)(t:TA):TE:=fun σ H Q=>t σ H fun vs H1=>sp (vs++BA) H1 Q E
n%Binds (K:PySem.W.Frag)(fd:FuncData)(ps:List Str)(ds:List Value):Prop :=
 ∀(s:Shared) (us:List Value),K.In s.heap->(us++ds).length=ps.length->BindsTo s fd ⟨us,[]⟩ (ps.zip (us++ds))
t%Binds.all {K:PySem.W.Frag}{fd:FuncData}{ps:List Str}(h:∀us:List Value,us.length=ps.length->bindArgs fd ⟨us,[]⟩=pure (ps.zip us)):Binds K fd ps []:=fun s us _ hl=>by
 rw[Yg] at hl ⊢;e%.of_eq (h us hl)
n%mn (CX:x6)(X:Cx)(E:XK):Prop:=∀(aa:List (Addr×Obj)) (σ:St) (H:Hp) (s:Shared) (e:Value) (s':Shared),Inv X aa σ H s->CX X.stack H s E e s'->X.xe e s'
section
variable {X:Cx}{CX:x6}{k:Nat}{f C:Addr}{fd:FuncData}{ps:List Str}{sp:Sp}{BA:List V}{ds:List Value}{E:XK}{x m:Str}{p pos fE:Pos}{e o:Expr}{es:List Expr}{ta:TE}{t:TA}
t%Ly {aa:List (Addr×Obj)}{σ:St}{H:Hp}{s:Shared}{Q:VK}{us:List Value}{vs:List V}(F:aM X.prog X.w X.K X.mg X.base CX k f fd ps sp)(hr:cR k X.A)(hb:Binds X.K fd ps ds)(hd:aQ BA ds)(hx:mn CX X E)
  (I:Inv X aa σ H s) (r:aQ vs us) (h:sp (vs++BA) H Q E):wpAny (model X.prog X.w) X.A (call (.ref f) us) (EP X aa σ Q) X.xe s:=by
 have r2:aQ (vs++BA) (us++ds):=r.append hd;have hl:(us++ds).length=ps.length:=by rw[<- r2.length];e%F.len _ _ _ _ h
 r%wpAny_call (codeAny_mono (F.run X.A X.stack s H ⟨us,[]⟩ (us++ds) (vs++BA) Q E hr I.Gj (hb s us I.my hl) r2 h) fun r s' hq=>?_);cases r with
 |error e=>e%hx aa σ H s e s' I hq
 |ok fl =>
  cases fl with
  |ret u=>e%I.after hq
  |next=>e%False.elim hq
  |brk=>e%False.elim hq
  |cont=>e%False.elim hq
t%j1 (F:aM X.prog X.w X.K X.mg X.base CX k f fd ps sp)(hr:cR k X.A)(hg:Gl X x)(hm:X.mg x=some (.ref f))(hk:PySem.W.keepIn X.K (.ref f)=true)(hb:Binds X.K fd ps ds)(hd:aQ BA ds)(hx:mn CX X E)
  (ha:PA X (e::es) t) (qa:y%((x == ("__debug__" : Str))=false)) (he:x%(starEach (e::es) X.env=(false,eval e X.env)::starEach es X.env)) (gk:x%((backTo pos (starEach es X.env)).any (·.1)=false)) :
  PE X (.Call (.Name x p) (e::es) [] pos) (QM sp BA E t):=by
 intro aa s σ H Q I h;r%wpAny_Call_Name_kw (fi I hg hm ?_ qa);r%PySem.W.callWith_K (h₀:=X.base) I.ok.mod.HY hk (bi (ha pos aa s σ H _ I h) fun us s1 ⟨vs,H1,I1,r,q⟩=>⟨I1.my,?_⟩) he gk;e%Ly F hr hb hd hx I1 r q
end
section
variable {X:Cx}{CX:x6}{k:Nat}{f C:Addr}{fd:FuncData}{ps ks:List Str}{sp:Sp}{E:XK}{x m:Str}{p pos fE ul:Pos}{e o:Expr}{es:List Expr}{kws:List Keyword}{te ta:TE}{t tk:TA}{nm:Option Str}
variable {g:List Value->List Value->List Value}{gV:List V->List V->List V}
end
structure ap (N P:List Str)(sc:Scope):Prop where
 kind:sc.kind=.function
 co:sc.isCoroutine=false
 gen:sc.isGenerator=false
 nd:N.Nodup
 pre:N.take P.length=P
 par:∀x∈P,sc.names.lookup x=some .local\/sc.names.lookup x=some .cell
 MJ:∀y∈sc.names,y.2≠.free
t%dj {N P:List Str}{sc:Scope}(a:x%(sc.kind=.function))(b:x%(sc.isCoroutine=false))(c:x%(sc.isGenerator=false))(d:N.Nodup:=by decide+kernel)(e:x%(N.take P.length=P))(f:∀x∈P,sc.names.lookup x=some .local\/sc.names.lookup x=some .cell:=by decide+kernel)(g:∀y∈sc.names,y.2≠.free:=by decide+kernel):ap N P sc:=⟨a,b,c,d,e,f,g⟩
t%rn {kindOf:Str->Option NameKind}{x:Str}:∀{binds:List (Str×Value)}{m:Str->Option Value},(∀v,(x,v)∉binds)->bindL kindOf binds m x=m x
 |[],_,_=>rfl
 |(n,v)::r,m,h=>by
  unfold bindL;rw[rn fun w hw=>h w (Zk _ hw)];split
  .have:x≠n:=by rintro rfl;e%h v Zo
   simp[this]
  .rfl
t%rz {kindOf:Str->Option NameKind}{x:Str}:∀{binds:List (Str×Value)}{m:Str->Option Value},(∀v,(x,v)∉binds)->bindC kindOf binds m x=m x
 |[],_,_=>rfl
 |(n,v)::r,m,h=>by
  unfold bindC;rw[rz fun w hw=>h w (Zk _ hw)];split
  .rfl
  .have:x≠n:=by rintro rfl;e%h v Zo
   simp[this]
t%rq {kindOf:Str->Option NameKind}{x:Str}{v:Value}:∀{P:List Str}{vs:List Value}{i:Nat}{m:Str->Option Value},P.Nodup->P[i]?=some x->vs[i]?=some v->kindOf x=some .local ->
  bindL kindOf (P.zip vs) m x=some v
 |[],_,_,_,_,h,_,_=>by simp at h
 |_::_,[],_,_,_,_,h,_=>by simp at h
 |p::P,w::vs,0,m,nd,h1,h2,hk=>by
  simp at h1 h2;subst h1;subst h2;show bindL kindOf ((p,w)::P.zip vs) m p=_;unfold bindL;rw[rn fun v hv=>(Yh.mp nd).1 (List.of_mem_zip hv).1,if_pos hk];simp
 |p::P,w::vs,i+1,m,nd,h1,h2,hk=>by
  show bindL kindOf ((p,w)::P.zip vs) m x=_;unfold bindL;e%rq (i:=i) (Yh.mp nd).2 (by simpa using h1) (by simpa using h2) hk
t%rA {kindOf:Str->Option NameKind}{x:Str}{v:Value}:∀{P:List Str}{vs:List Value}{i:Nat}{m:Str->Option Value},P.Nodup->P[i]?=some x->vs[i]?=some v->kindOf x≠some .local ->
  bindC kindOf (P.zip vs) m x=some v
 |[],_,_,_,_,h,_,_=>by simp at h
 |_::_,[],_,_,_,_,h,_=>by simp at h
 |p::P,w::vs,0,m,nd,h1,h2,hk=>by
  simp at h1 h2;subst h1;subst h2;show bindC kindOf ((p,w)::P.zip vs) m p=_;unfold bindC;rw[rz fun v hv=>(Yh.mp nd).1 (List.of_mem_zip hv).1,if_neg hk];simp
 |p::P,w::vs,i+1,m,nd,h1,h2,hk=>by
  show bindC kindOf ((p,w)::P.zip vs) m x=_;unfold bindC;e%rA (i:=i) (Yh.mp nd).2 (by simpa using h1) (by simpa using h2) hk
n%start (N:List Str)(vs:List V):St:=vs.map some++List.replicate (N.length-vs.length) none
n%gR (CX:x6)(P:Program)(w:World)(K:PySem.W.Frag)(mg:Str->Option Value)(base:Heap)(N:List Str)(qual:Str)(scope:Scope)(f:Addr)(cd:Value)(A:Around)(outer:List Env)(s:Shared)(H:Hp)(E:XK):Cx where
 prog:=P
 w:=w
 K:=K
 mg:=mg
 base:=base
 A:=A.deeper (envOfC qual scope s.heap.objs.size f cd)
 N:=N
 aT:=s
 aE:=H
 env:=envOfC qual scope s.heap.objs.size f cd
 outer:=outer
 stack:=envOfC qual scope s.heap.objs.size f cd::outer
 ex:=[]
 calm:=true
 fn:=fun _=>true
 pn:=[]
 xe:=fun e s'=>wpAny (model P w) (A.deeper (envOfC qual scope s.heap.objs.size f cd)) (leaving (envOfC qual scope s.heap.objs.size f cd) e) (fun _ N0=>CX outer H s E e N0) (fun e' N0=>CX outer H s E e' N0) s'
t%vm {sc:Scope}{n:Nat}{x:Str}(h:sc.names.lookup x=some .cell):∃c,(cellsFrom n sc.names []).lookup x=some c:=by
 have q:=PySem.W.cellsFrom_some sc.names n [] (.inl h);e%Option.isSome_iff_exists.mp q
t%qZ {CX:x6}{P:Program}{w:World}{K:PySem.W.Frag}{mg:Str->Option Value}{base:Heap}{N ps:List Str}{qual:Str}{scope:Scope}{f:Addr}{cd:Value}{A:Around}{outer:List Env}{s s1:Shared}{H:Hp}{E:XK}{us:List Value}{vs:List V}
  (S:ap N ps scope) (hd:A.handled=none) (e0:ww P w K mg base A outer s H) (hl:vs.length=ps.length) (r:aQ vs us)
  (x:InCallC s s.heap.objs.size (bindL (envOfC qual scope s.heap.objs.size f cd).kindOf (ps.zip us) fun _=>none) (cellsFrom (s.heap.objs.size+1) scope.names []) (bindC (envOfC qual scope s.heap.objs.size f cd).kindOf (ps.zip us) fun _=>none) s1) :
  Inv (gR CX P w K mg base N qual scope f cd A outer s H E) [] (start N vs) H s1:=by
 have gk:ps.length<=N.length:=by have:=congrArg List.length S.pre;rw[Yk] at this;omega
 o%⟨h1,tk,rfl,hk⟩:=x.done;have Oc:∀b:Addr,b∉(gR CX P w K mg base N qual scope f cd A outer s H E).ex:=fun b z=>absurd (show b∈([]:List Addr) from z) i%
 r%⟨⟨e0.mod,S.kind,rfl,rfl,Ze _,fun y z c h1 h2=>?_,fun y hy=>?_,fun y c _ h=>?_,fun _=>hd,Around.frames_deeper e0.frames,.inr ⟨rfl,rfl⟩,fun b z=>absurd z (Oc b),e0.bs,e0.Bf,fun b _ _=>Oc b,fun b z=>absurd z (Oc b),e0.iW,e0.Fh⟩,
  rfl,e0.bare,Un.kept hk,⟨_,x.toInCall.ns,fun i y v h1 h2 h3=>?_⟩,fun y c h=>⟨_,x.cell y c h⟩,e0.bp.fresh (Ze _),fun y c h=>?_,fun p hp=>absurd (show p∈([]:List (Addr×Obj)) from hp) i%,e0.bp.kept hk,?_⟩
 .exact name_of_addr x.apart (PySem.mem_of_lookup h1) (PySem.mem_of_lookup h2)
 .have hy:scope.names.lookup y=some .cell\/scope.names.lookup y=some .free:=hy;rcases hy with hy |hy
  .exact vm hy
  .exact absurd rfl (S.MJ _ (PySem.mem_of_lookup hy))
 .exact Nat.le_of_lt (x.above y c (PySem.mem_of_lookup h))
 .have hi:i<vs.length:=by
   unfold start at h2;by_cases hi:i<vs.length
   .exact hi
   .rw[Yp (by simpa using hi)] at h2;rw[List.getElem?_replicate] at h2;split at h2<;>cases h2
  have ha:vs[i]?=some v:=by
   unfold start at h2;rw[Zr (by simpa using hi),Zg] at h2;cases e:vs[i]? with
   |none=>rw[e] at h2;cases h2
   |some a=>rw[e] at h2;cases h2;rfl
  o%⟨u,hu,rv⟩:=r.get ha;have hp:ps[i]?=some y:=by
   rw[<- S.pre,List.getElem?_take_of_lt g%];e%h1
  have XG:ps.Nodup:=by rw[<- S.pre];e%S.nd.sublist (List.take_sublist _ _)
  r%⟨u,rv,?_⟩;rcases S.par y (Yc hp) with k |k
  .exact .inl ⟨k,rq XG hp hu k⟩
  .obtain⟨c,e⟩:=vm (n:=s.heap.objs.size+1) k;r%.inr ⟨.inl k,c,e,?_⟩;have q:=x.cell y c e;rw[rA XG hp hu (by show scope.names.lookup y≠_;rw[k];decide)] at q;e%q
 .exact e0.bp.fresh (Nat.le_of_lt (x.above y c (PySem.mem_of_lookup h)))
 .unfold start;show _=N.length;rw[Zn,Zb,List.length_replicate];omega
t%Jj {CX:x6}{P:Program}{w:World}{K:PySem.W.Frag}{mg:Str->Option Value}{base:Heap}{k:Nat}{f:Addr}{name qual:Str}{params:Arguments}{body:List Stmt}{scope:Scope}{dV kV qB pm bF ct oc:Value}{an od:Option Addr}
  {EY:Array (Option Value)}{N ps:List Str}{sp:Sp}(lk:K.lookup f=some ⟨oc,od,.func (PySem.W.fnOf name qual params body scope dV kV qB pm an bF ct),EY⟩) (v8:PySem.W.codeIn K bF qual=true) (S:ap N ps scope)
  (len:∀vs H Q E,sp vs H Q E->vs.length=ps.length)
  (oH:∀(A:Around) (outer:List Env) (s:Shared) (H:Hp) (vs:List V) (Q:VK) (E:XK),cR k (A.deeper (envOfC qual scope s.heap.objs.size f bF))->sp vs H Q E ->
   ∃t,iM (gR CX P w K mg base N qual scope f bF A outer s H E) body t/\t { nx:=fun _ H'=>Q .bO H',rt:=Q } (start N vs) H) :
  aM P w K mg base CX (k+1) f (PySem.W.fnOf name qual params body scope dV kV qB pm an bF ct) ps sp:=by
 r%⟨len,fun A outer s H args us vs Q E hr e0 hb r v3=>?_⟩;have hl:=len _ _ _ _ v3;have KX:K.In s.heap:=e0.mod.HY.keeps fun b o e=>(e0.bs b o e).1
 have Uh:s.heap.NoLimit:=e0.mod.nolimit.keeps fun b o e=>(e0.bs b o e).1
 have CL:∀y∈ps.zip us,scope.names.lookup y.1=some .local\/(scope.names.lookup y.1=some .cell/\((cellsFrom (s.heap.objs.size+1) scope.names []).lookup y.1).isSome=true):=fun⟨n,v⟩ hy=>by
  rcases S.par n (List.of_mem_zip hy).1 with q |q
  .exact .inl q
  .exact .inr ⟨q,PySem.W.cellsFrom_some _ _ _ (.inl q)⟩
 r%codeAny_call_function hr.depth (KX _ _ lk) rfl S.co S.gen rfl (PySem.W.codeRec_of KX v8) (hb _ _ _ _ ?_);r%wpAny_newFunctionEnv_cells S.kind CL fun env he s1 x=>?_
 subst he;r%⟨Uh.keeps x.toInCall.keep,codeAny_func ?_⟩;o%⟨t,ht,hq⟩:=oH A outer s H vs Q E (hr.deeper _) v3;have I:Inv (gR CX P w K mg base N qual scope f bF A outer s H E) [] (start N vs) H s1:=qZ S hr.hd e0 hl r x;r%wpAny_mono (ht [] s1 (start N vs) H _ I hq) (fun fl s' hs=>?_) fun e s' hs=>hs
 have kB:∀{aD:St}{H':Hp}{v:V}{u:Value},Inv (gR CX P w K mg base N qual scope f bF A outer s H E) [] aD H' s'->RelV v u->Q v H'->CE outer P w H s Q u s' :=
  fun {aD H' v u} J rv q=>⟨v,H',J.os,J.bare,J.base,J.bp,rv,q⟩
 cases fl with
 |ret u =>
  o%⟨v,aD,H',J,rv,q⟩:=hs;e%kB J rv q
 |next =>
  o%⟨aD,H',J,q⟩:=hs;e%kB (v:=V.bO) (u:=Value.none) J rfl q
 |brk =>
  o%⟨_,_,_,q⟩:=hs;e%False.elim q
 |cont =>
  o%⟨_,_,_,q⟩:=hs;e%False.elim q
section
variable {X:Cx}{x:Str}{p pos:Pos}{e:Expr}{es:List Expr}{t:TA}{id T:String}{r:List V->Hp->VK->Prop}
n%Xu (r:List V->Hp->VK->Prop)(t:TA):TE:=fun σ H Q=>t σ H fun vs H1=>r vs H1 Q
t%jP (hc:cg X (.builtin id) r)(hg:Gl X x)(hm:X.mg x=none)(hv:bootBuiltins x=some (.builtin id))(ha:PA X (e::es) t)(hn:y%(x ≠ "__name__"))(qa:y%((x == ("__debug__" : Str))=false))
  (he:x%(starEach (e::es) X.env=(false,eval e X.env)::starEach es X.env)) (gk:x%((backTo pos (starEach es X.env)).any (·.1)=false)):PE X (.Call (.Name x p) (e::es) [] pos) (Xu r t):=by
 intro aa s σ H Q I h;r%wpAny_Call_Name_kw (gd I hg hm hv ?_ hn qa);e%PyProof.Rows.callWith_builtin1 (bi (ha pos aa s σ H _ I h) fun us s1 ⟨vs,H1,I1,r1,q1⟩=>hc aa s1 σ H1 vs us Q I1 r1 q1) he gk
t%NE (hc:cg X (.type T) r)(hg:Gl X x)(hm:X.mg x=none)(hv:bootBuiltins x=some (.type T))(ha:PA X (e::es) t)(hn:y%(x ≠ "__name__"))(qa:y%((x == ("__debug__" : Str))=false))
  (he:x%(starEach (e::es) X.env=(false,eval e X.env)::starEach es X.env)) (gk:x%((backTo pos (starEach es X.env)).any (·.1)=false)):PE X (.Call (.Name x p) (e::es) [] pos) (Xu r t):=by
 intro aa s σ H Q I h;r%wpAny_Call_Name_kw (gd I hg hm hv ?_ hn qa);e%PyProof.Rows.callWith_type1 (bi (ha pos aa s σ H _ I h) fun us s1 ⟨vs,H1,I1,r1,q1⟩=>hc aa s1 σ H1 vs us Q I1 r1 q1) he gk
end
end L2
namespace HT
open PySem PyProof.Rows
section
open PySem.SeqAt
open PySem.AutoSeq1 (wpAny_loadPart')
open PySem.MeetsSeq PySem.MeetsSeq2 PySem.MeetsSeq3
end
section
variable {prog:Program}{w:World}{A:Around}{E:Value->Shared->Prop}{s:Shared}
t%HP {t b:Addr}{vs ws:List Value}{Q:Value->Shared->Prop}(ht:IsTup s.heap t vs.toArray)(hb:IsTup s.heap b ws.toArray)(hv:vs≠[])
  (h1:ws=[]->Q (.ref t) s) (h2:ws≠[]->Q (.ref s.heap.objs.size) { s with heap:=s.heap.push { cls:=.type "tuple",data:=.seq (vs++ws).toArray } })
  (hsz:vs.length+ws.length<=sizeLine):wpAny (model prog w) A (binaryOp .Add (.ref t) (.ref b)) Q E s:=by
 o%⟨⟨cls,dd,data,sl⟩,ho,hc,n,hd⟩:=id ht;o%⟨⟨Xd,Sf,data2,cy⟩,JD,JM,n2,OL⟩:=id hb;simp only at hc hd JM OL;subst hc hd JM OL;have e:vs.toArray++ws.toArray=(vs++ws).toArray:=by simp
 by_cases hw:ws=[]
 .exact concat_meets ⟨_,ho,rfl⟩ ⟨_,JD,rfl⟩ noFill_tuple_add seq_tuple_add PySem.F.slot_tuple_add PySem.F.entry_tuple_add (PySem.F.args_tuple_add_2 _ _)
   (tuple_addW1 t b vs.toArray ws.toArray n n2 dd Sf sl cy (by simpa using hv) (by simp[hw])) ⟨ho,JD,h1 hw⟩
 .refine concat_meets ⟨_,ho,rfl⟩ ⟨_,JD,rfl⟩ noFill_tuple_add seq_tuple_add PySem.F.slot_tuple_add PySem.F.entry_tuple_add (PySem.F.args_tuple_add_2 _ _)
   (tuple_addW2 t b vs.toArray ws.toArray n n2 dd Sf sl cy (by simpa using hv) (by simpa using hw) (by rw[Zt,Zt];e%hsz)) ⟨ho,JD,?_⟩
  rw[e];e%h2 hw
n%cO (n d:Nat):Option Int->Nat
 |none=>d
 |some v=>if v<0 then (v+(n:Int)).toNat else min v.toNat n
t%pq (n d:Nat):cO n d none=d:=rfl
t%Lx (n d:Nat)(hd:d<=n)(o:Option Int):cO n d o<=n:=by
 cases o with
 |none=>e%hd
 |some v =>
  show(if v<0 then (v+(n:Int)).toNat else min v.toNat n)<=n;by_cases hv:v<0
  .rw[if_pos hv];omega
  .rw[if_neg hv];e%Nat.min_le_right _ _
t%zp (v:Int)(n d:Nat):(if v<0 then max (v+(n:Int)) 0 else min v (n:Int))=((cO n d (some v):Nat):Int):=by
 show(if v<0 then max (v+(n:Int)) 0 else min v (n:Int))=(((if v<0 then (v+(n:Int)).toNat else min v.toNat n):Nat):Int);by_cases hv:v<0
 .simp only[if_pos hv];omega
 .simp only[if_neg hv];omega
t%xP (lo hi:Option Int)(n:Nat):Builtin.Slice.sliceAdjust lo hi 1 (n:Int)=(((cO n 0 lo:Nat):Int),((cO n n hi:Nat):Int)):=by
 have h1:¬ ((1:Int)<0):=by omega
 unfold Builtin.Slice.sliceAdjust;simp only[h1,if_false];r%Prod.ext ?_ ?_
 .cases lo with
  |none=>rfl
  |some v=>e%zp v n 0
 .cases hi with
  |none=>rfl
  |some v=>e%zp v n n
t%xn (i j:Nat):Builtin.Slice.slicePlaces (i:Int) (j:Int) 1=j-i:=by
 unfold Builtin.Slice.slicePlaces;have h1:(1:Int)>0:=by omega
 simp only[h1,if_true,Int.ediv_one];split<;>omega
t%pK {v:Value}{o:Option Int}{Q:Option Int->Shared->Prop}(p:IsPart v o)(h:Q o s):wpAny (model prog w) A (Builtin.Slice.slicePartIndex v) Q E s:=by
 cases p with
 |none=>e%slicePart_none h
 |int i t=>e%slicePart_int h
t%il {sl:Addr}{vl vu:Value}{lo hi:Option Int}{n:Nat}{Q:Int×Int×Nat->Shared->Prop}(hs:s.heap.IsSliceOf sl vl vu .none)(pl:IsPart vl lo)(pu:IsPart vu hi)
  (h:Q (((cO n 0 lo:Nat):Int),1,cO n n hi-cO n 0 lo) s):wpAny (model prog w) A (Builtin.Slice.sliceApplied (.ref sl) (pure (n:Int))) Q E s:=by
 o%⟨os,JC,RZ,JJ⟩:=id hs;unfold Builtin.Slice.sliceApplied Builtin.Slice.sliceFields;r%Za (Za (wpAny_field JC JJ (x:=vl) rfl (Za (wpAny_field JC JJ (x:=vu) rfl (Za (wpAny_field JC JJ (x:=.none) rfl (wpAny_pure ?_)))))));r%Za (slicePart_none ?_);show wpAny _ _ (if ((1:Int) == 0)=true then _ else _) _ _ s;rw[if_neg d%];r%Za (pK pl (Za (pK pu (Za (wpAny_pure ?_)))));show wpAny _ _ (match Builtin.Slice.sliceAdjust lo hi 1 (n:Int) with |(lo,hi)=>pure (lo,(1:Int),Builtin.Slice.slicePlaces lo hi 1)) _ _ s;rw[xP lo hi n];show wpAny _ _ (pure (((cO n 0 lo:Nat):Int),(1:Int),Builtin.Slice.slicePlaces ((cO n 0 lo:Nat):Int) ((cO n n hi:Nat):Int) 1)) _ _ s;rw[xn];e%wpAny_pure h
t%DZ (xs:Array Value)(i k:Nat):((List.range k).filterMap fun(m:Nat)=>xs[((i:Int)+(m:Int)*1).toNat]?).toArray=((xs.toList.drop i).take k).toArray:=by
 have e:(fun(m:Nat)=>xs[((i:Int)+(m:Int)*1).toNat]?)=fun m=>xs[i+m]?:=by
  funext m
  have:((i:Int)+(m:Int)*1).toNat=i+m:=by omega
  rw[this]
 rw[e];have:=pick_run xs i k;rw[List.filterMap_map] at this;have e2:((fun x=>xs[x]?) ∘ fun x=>i+x)=fun m=>xs[i+m]?:=rfl
 rw[e2] at this;rw[this]
t%lE {t sl:Addr}{items:Array Value}{vl vu:Value}{lo hi:Option Int}{Q:Value->Shared->Prop}(ht:IsTup s.heap t items)(hs:s.heap.IsSliceOf sl vl vu .none)(pl:IsPart vl lo)(pu:IsPart vu hi)
  (hw:¬ (cO items.size 0 lo=0/\cO items.size items.size hi=items.size))
  (h:Q (.ref s.heap.objs.size) { s with heap:=s.heap.push { cls:=.type "tuple",data:=.seq ((items.toList.drop (cO items.size 0 lo)).take (cO items.size items.size hi-cO items.size 0 lo)).toArray } })
  (hsz:items.size<=sizeLine):wpAny (model prog w) A (getItem (.ref t) (.ref sl)) Q E s:=by
 have yp:sizeOk (.seq ((items.toList.drop (cO items.size 0 lo)).take (cO items.size items.size hi-cO items.size 0 lo)).toArray):=by
  show((items.toList.drop (cO items.size 0 lo)).take (cO items.size items.size hi-cO items.size 0 lo)).toArray.size<=sizeLine;rw[Zt,Yk,List.length_drop,Array.length_toList];omega
 have hj:cO items.size items.size hi<=items.size:=Lx _ _ (Ze _) hi;o%⟨os,JC,RZ,JJ⟩:=id hs;have U6:s.TypeIs (.ref sl) "slice":=⟨os,JC,RZ⟩;unfold getItem
 try with_reducible r%wpAny_holding ?_
 first |r%Za (wpAny_pure ?_) |skip
 r%Za (wpAny_sequenceKey ht.typeIs d% ?_);r%Za (wpAny_callSpecial?_slot (name:=Str.ofString "__getitem__") ht.typeIs PyProof.Rows.slot_tuple_getitem
  (wpAny_call_entry PyProof.Rows.slot_tuple_getitem ht.typeIs entry_tuple_getitem ?_ (args_tuple_getitem _ _)))
 show wpAny _ _ (Builtin.Tuple.tupleItemsOf (.ref t) >>= _) _ _ s;r%Za (tupleItemsOf_ ht ?_);r%Za (wpAny_typeOf U6 ?_);rw[if_pos d%];r%Za (il hs pl pu ?_);have FC:¬ ((((cO items.size 0 lo:Nat):Int) == 0&&(1:Int) == 1&&(cO items.size items.size hi-cO items.size 0 lo) == items.size)=true):=by
  intro q;rw[Zl,Zl] at q;have q1:((cO items.size 0 lo:Nat):Int)=0:=eq_of_beq q.1.1;have q2:cO items.size items.size hi-cO items.size 0 lo=items.size:=eq_of_beq q.2;e%hw ⟨by omega,by omega⟩
 show wpAny _ _ (if (((cO items.size 0 lo:Nat):Int) == 0&&(1:Int) == 1&&(cO items.size items.size hi-cO items.size 0 lo) == items.size)=true then _ else _) _ _ s;rw[if_neg FC,DZ]
 first
  |e%Za (m:=Builtin.Tuple.tupleExact _) (wpAny_newObj_type (wpAny_pure ⟨_,rfl,wpAny_pure h⟩) yp)
  |e%Za (m:=Builtin.Tuple.tupleExact _) (wpAny_newObj_type (Za (wpAny_pure (wpAny_pure ⟨_,rfl,wpAny_pure h⟩))) yp)
  |e%Za (Za (m:=Builtin.Tuple.tupleExact _) (wpAny_newObj_type (wpAny_pure (wpAny_pure ⟨_,rfl,wpAny_pure h⟩)) yp))
  |e%Za (Za (m:=Builtin.Tuple.tupleExact _) (wpAny_newObj_type (wpAny_pure ⟨_,rfl,wpAny_pure h⟩) yp))
end
end HT
namespace L2
open PySem PySem.Spec PyProof.Rows
m%TO:=St->Hp->(Option Int->Hp->Prop)->Prop
n%PO (X:Cx)(e:Option Expr)(t:TO):Prop :=
 ∀(aa:List (Addr×Obj)) (s:Shared) (σ:St) (H:Hp) (Q:Option Int->Hp->Prop),Inv X aa σ H s->t σ H Q ->
  wpAny (model X.prog X.w) X.A (evalPart e X.env) (fun u s'=>∃o H',Inv X aa σ H' s'/\IsPart u o/\Q o H') X.xe s
n%Gw:TO:=fun _ H Q=>Q none H
n%QG (t:TE):TO:=fun σ H Q=>t σ H fun x H1=>∃i,x=.int i/\Q (some i) H1
t%intsAre_of {ns:List Int}:∀{us:List Value},aQ (ns.map V.int) us->IntsAre us ns:=by
 induction ns with
 |nil=>intro us r;rw[List.map_nil] at r;cases r;e%.nil
 |cons n ns ih =>
  intro us r;rw[Yj] at r;cases r with
  |cons r1 r2 =>
   o%⟨t,e⟩:=r1;subst e;e%.cons n t (ih r2)
section
variable {X:Cx}{e:Expr}{te:TE}{lo hi:Option Expr}{tl th:TO}{pos p2:Pos}
t%GX:PO X none Gw:=by
 intro aa s σ H Q I h;rw[evalPart_none];e%wpAny_pure ⟨none,H,I,.none,h⟩
t%GW (h:PE X e te):PO X (some e) (QG te):=by
 intro aa s σ H Q I hw;rw[evalPart_some];r%bi (h aa s σ H _ I hw) fun u s1 ⟨x,H1,I1,r1,q1⟩=>?_
 o%⟨i,rfl,q⟩:=q1;o%⟨t,rfl⟩:=r1;e%⟨some i,H1,I1,.int i t,q⟩
n%FH (X:Cx)(r:V->Option Int->Option Int->Hp->VK->Prop):Prop :=
 ∀(aa:List (Addr×Obj)) (s:Shared) (σ:St) (H:Hp) (x:V) (v vl vu:Value) (lo hi:Option Int) (sl:Addr) (Q:VK),Inv X aa σ H s->RelV x v->s.heap.IsSliceOf sl vl vu .none->IsPart vl lo->IsPart vu hi->r x lo hi H Q ->
  ∃T id,typeLookup (.type T) "__getitem__"=pure (some (.builtin id))/\s.TypeIs v T/\wpAny (model X.prog X.w) X.A (getItem v (.ref sl)) (EP X aa σ Q) X.xe s
t%FH.or {r r':V->Option Int->Option Int->Hp->VK->Prop}(h:FH X r)(h':FH X r'):FH X (fun x lo hi H Q=>r x lo hi H Q\/r' x lo hi H Q):=by
 intro aa s σ H x v vl vu lo hi sl Q I rx hs pl pu q;rcases q with q |q
 .exact h aa s σ H x v vl vu lo hi sl Q I rx hs pl pu q
 .exact h' aa s σ H x v vl vu lo hi sl Q I rx hs pl pu q
n%tSl (r:V->Option Int->Option Int->Hp->VK->Prop)(te:TE)(tl th:TO):TE:=fun σ H Q=>te σ H fun x H1=>tl σ H1 fun l H2=>th σ H2 fun u H3=>r x l u H3 Q
t%D3 {r:V->Option Int->Option Int->Hp->VK->Prop}(hr:FH X r)(he:PE X e te)(hl:PO X lo tl)(hu:PO X hi th):PE X (.Subscript e (.Slice lo hi none p2) pos) (tSl r te tl th):=by
 intro aa s σ H Q I h;r%Subscript_ (bi (he aa s σ H _ I h) fun v s1 ⟨x,H1,I1,r1,q1⟩=>?_);r%wpAny_Slice (bi (hl aa s1 σ H1 _ I1 q1) fun vl s2 ⟨l,H2,I2,pl,q2⟩=>bi (hu aa s2 σ H2 _ I2 q2) fun vu s3 ⟨u,H3,I3,pu,q3⟩=>?_);rw[evalPart_none];r%wpAny_pure ?_;have I4:Inv X aa σ H3 { s3 with heap:=s3.heap.push { cls:=.type "slice",data:=.fields #[vl,vu,.none] } }:=I3.kept (t':=s3.toks) fun b ob q=>Heap.get?_push_of_some _ q
 o%⟨T,id,hT,ht,hg⟩:=hr aa { s3 with heap:=s3.heap.push { cls:=.type "slice",data:=.fields #[vl,vu,.none] } } σ H3 x v vl vu l u s3.heap.objs.size Q I4 r1 (Heap.IsSliceOf.new ..) pl pu q3;show wpAny (model X.prog X.w) X.A (subscriptTail e (.Slice lo hi none p2) v (.ref s3.heap.objs.size)) (EP X aa σ Q) X.xe { s3 with heap:=s3.heap.push { cls:=.type "slice",data:=.fields #[vl,vu,.none] } };e%tail_any (ops:=[.ref s3.heap.objs.size,v]) ht hT hg (by with_unfolding_all rfl)
n%ot (xs:List V)(lo hi:Option Int):List V:=(xs.drop (HT.cO xs.length 0 lo)).take (HT.cO xs.length xs.length hi-HT.cO xs.length 0 lo)
t%mL (xs:List V)(lo hi:Option Int):(ot xs lo hi).length<=xs.length:=by
 unfold ot;rw[Yk,List.length_drop];omega
n%Wz (K:PySem.W.Frag):V->Option Int->Option Int->Hp->VK->Prop:=fun x lo hi H Q=>∃a xs,x=.ref a/\aH K H a xs /\
 ¬ (HT.cO xs.length 0 lo=0/\HT.cO xs.length xs.length hi=xs.length)/\∀p,H p=none->Q (.ref p) (aK H p (.tup (ot xs lo hi)))
t%Lo:FH X (Wz X.K):=by
 intro aa s σ H x v vl vu lo hi sl Q I rx hs pl pu h;o%⟨a,xs,rfl,hx,hw,q⟩:=h;cases rx;o%⟨its,r,ht,hz⟩:=I.tuple hx;have bN:its.toArray.size=xs.length:=by rw[Zt];e%r.length.symm
 r%⟨"tuple",_,PyProof.Rows.slot_tuple_getitem.lookup,ht.typeIs,?_⟩;r%HT.lE ht hs pl pu (by rw[bN];e%hw) ?_ (by rw[bN];e%hz);rw[bN];r%⟨.ref s.heap.objs.size,_,I.laid (t':=s.toks) (o:=.tup (ot xs lo hi)) (fun b ob q=>Heap.get?_push_of_some _ q) (Ze _) ?_,rfl,q _ (I.bp.fresh (Ze _))⟩;e%⟨Ye (mL xs lo hi) hz,_,(r.drop (HT.cO xs.length 0 lo)).take (HT.cO xs.length xs.length hi-HT.cO xs.length 0 lo),IsTup.new _ _⟩
n%QY (K:PySem.W.Frag):R2:=fun x y H Q=>∃a b xs ys,x=.ref a/\y=.ref b/\aH K H a xs/\aH K H b ys/\xs≠[]/\xs.length+ys.length<=sizeLine /\
 (ys=[]->Q (.ref a) H)/\(ys≠[]->∀p,H p=none->Q (.ref p) (aK H p (.tup (xs++ys))))
t%aQ.nE {xs:List V}{us:List Value}(r:aQ xs us):us=[]↔xs=[]:=by
 cases r with
 |nil=>simp
 |cons _ _=>simp
t%G5:eO X (binaryOp .Add) (QY X.K):=by
 intro aa s σ H x y v u Q I rx ry h;o%⟨a,b,xs,ys,rfl,rfl,ha,hb,hx,hz,q1,q2⟩:=h;cases rx;cases ry;o%⟨its,r1,p1,_⟩:=I.tuple ha;o%⟨qh,r2,p2,_⟩:=I.tuple hb;r%HT.HP p1 p2 (fun z=>hx (r1.nE.mp z)) (fun z=>⟨.ref a,H,I,rfl,q1 (r2.nE.mp z)⟩) (fun z=>?_) (by rw[<- r1.length,<- r2.length];e%hz);r%⟨.ref s.heap.objs.size,_,I.laid (t':=s.toks) (o:=.tup (xs++ys)) (fun b ob q=>Heap.get?_push_of_some _ q) (Ze _) ?_,rfl,q2 (fun w=>z (r2.nE.mpr w)) _ (I.bp.fresh (Ze _))⟩;e%⟨by rw[Zn];e%hz,_,r1.append r2,IsTup.new _ _⟩
end
n%uc (n:Nat)(i:Int):Option Nat:=if 0<=i then (if i<n then some i.toNat else none) else if -(n:Int)<=i then some (i+n).toNat else none
n%iT {α : Type}(xs:List α)(i:Int):Option α:=(uc xs.length i).bind fun j=>xs[j]?
t%yX {n:Nat}{i:Int}{j:Nat}(h:uc n i=some j):seqIndex? i n=some j/\j<n/\-(n:Int)<=i/\i<n:=by
 unfold uc at h;by_cases h0:0<=i
 .rw[if_pos h0] at h;by_cases h1:i<n
  .rw[if_pos h1] at h;have e:i.toNat=j:=Option.some.inj h;e%⟨by rw[seqIndex_of h0 h1,e],by omega,by omega,h1⟩
  .rw[if_neg h1] at h;cases h
 .rw[if_neg h0] at h;by_cases h1:-(n:Int)<=i
  .rw[if_pos h1] at h;have e:(i+n).toNat=j:=Option.some.inj h;e%⟨by rw[seqIndex_neg g% h1,e],by omega,h1,by omega⟩
  .rw[if_neg h1] at h;cases h
t%aI {α : Type}{xs:List α}{i:Int}{v:α}(h:iT xs i=some v):∃j,seqIndex? i xs.length=some j/\xs[j]?=some v/\j<xs.length/\-(xs.length:Int)<=i/\i<xs.length:=by
 unfold iT at h;cases e:uc xs.length i with
 |none=>rw[e] at h;cases h
 |some j =>
  rw[e] at h;o%⟨h1,h2,h3,h4⟩:=yX e;e%⟨j,h1,h,h2,h3,h4⟩
t%fj {α : Type}{xs:List α}{j:Nat}{v:α}(h:xs[j]?=some v):iT xs (j:Int)=some v:=by
 have hj:j<xs.length:=(Zd.mp h).1;have e:uc xs.length (j:Int)=some j:=by
  unfold uc;rw[if_pos g%,if_pos g%];simp
 unfold iT;rw[e];e%h
n%tI (b:Expr):Prop:=∀o i,subscripted b false o i=operate [o,i] (getItem o i)
n%zK (X:Cx)(r:R2):Prop :=
 ∀(value slice:Expr) (aa:List (Addr×Obj)) (s:Shared) (σ:St) (H:Hp) (x y:V) (v u:Value) (Q:VK),Inv X aa σ H s->RelV x v->RelV y u->r x y H Q ->
  subscripted slice false v u=operate [v,u] (getItem v u)->wpAny (model X.prog X.w) X.A (subscriptTail value slice v u) (EP X aa σ Q) X.xe s
n%Tg (X:Cx)(id:String)(r:V->List V->Hp->VK->Prop):Prop :=
 ∀(aa:List (Addr×Obj)) (s:Shared) (σ:St) (H:Hp) (x:V) (xs:List V) (v:Value) (us:List Value) (Q:VK),Inv X aa σ H s->RelV x v->aQ xs us->r x xs H Q ->
  wpAny (model X.prog X.w) X.A (call (.builtin id) (v::us)) (EP X aa σ Q) X.xe s
section
variable {X:Cx}{a b:Expr}{ta tb:TE}{pos:Pos}
t%zK.or {r r':R2}(h:zK X r)(h':zK X r'):zK X (fun x y H Q=>r x y H Q\/r' x y H Q):=by
 intro value slice aa s σ H x y v u Q I rx ry q hs;rcases q with q |q
 .exact h value slice aa s σ H x y v u Q I rx ry q hs
 .exact h' value slice aa s σ H x y v u Q I rx ry q hs
t%cZ {r:R2}(hr:zK X r)(ha:PE X a ta)(hb:PE X b tb)(hs:tI b):PE X (.Subscript a b pos) (Fn r ta tb):=by
 intro aa s σ H Q I h;e%Subscript_ (K4 ha hb I h fun v u s2 x y H2 I2 rx ry q=>hr a b aa s2 σ H2 x y v u Q I2 rx ry q (hs _ _))
n%Kq (K:PySem.W.Frag):R2:=fun x y H Q=>∃p xs i v,x=.ref p/\y=.int i/\bz K H p xs/\iT xs i=some v/\Q v H
n%BK (K:PySem.W.Frag):R2:=fun x y H Q=>∃p xs i v,x=.ref p/\y=.int i/\aH K H p xs/\iT xs i=some v/\Q v H
t%yW:zK X (Kq X.K):=by
 intro value slice aa s σ H x y v u Q I rx ry h hs;o%⟨p,xs,i,z,rfl,rfl,hq,he,q⟩:=h;cases rx;o%⟨t,rfl⟩:=ry;o%⟨its,r,pl,hz⟩:=I.list hq;o%⟨j,h1,h2,h3,h4,h5⟩:=aI he;o%⟨w,ew,Bk⟩:=r.get h2;have hl:=r.length;have hn:=oZ;have kB:EP X aa σ Q w s:=⟨z,H,I,Bk,q⟩;by_cases h0:0<=i
 .have hj:i.toNat=j:=by
   rw[seqIndex_of h0 h5] at h1;e%Option.some.inj h1
  e%item_listR pl.isList h0 g% (by rw[hj];simpa using ew) kB hs
 .have hj:(i+(its.toArray.size:Int)).toNat=j:=by
   rw[seqIndex_neg g% h4] at h1;rw[Zt,<- hl];e%Option.some.inj h1
  e%subscriptTail_builtinR (x:=w) pl.isList.typeIs slot_list_getitem.lookup
   (wpAny_getItem_list_neg (Q:=fun r s'=>r=w/\EP X aa σ Q r s') pl.isList g% (by rw[Zt]<;>omega) g% (by rw[hj];simpa using ew) ⟨rfl,kB⟩) hs
t%Na:zK X (BK X.K):=by
 intro value slice aa s σ H x y v u Q I rx ry h hs;o%⟨p,xs,i,z,rfl,rfl,hq,he,q⟩:=h;cases rx;o%⟨t,rfl⟩:=ry;o%⟨its,r,pl,hz⟩:=I.tuple hq;o%⟨j,h1,h2,h3,h4,h5⟩:=aI he;o%⟨w,ew,Bk⟩:=r.get h2;have hl:=r.length;have hn:=oZ;have kB:EP X aa σ Q w s:=⟨z,H,I,Bk,q⟩;e%subscriptTail_builtinR (x:=w) pl.typeIs slot_tuple_getitem.lookup
  (getItem_tuple (j:=j) (Q:=fun r s'=>r=w/\EP X aa σ Q r s') pl g% g% (by rw[Zt,<- hl];e%h1) (by simpa using ew) ⟨rfl,kB⟩) hs
t%xy (its:List Value)(n j:Nat)(u:Value):Obj.mapSeq (·.setIfInBounds j u) { cls:=.type "list",data:=.seq its.toArray n }={ cls:=.type "list",data:=.seq (its.set j u).toArray n }:=by
 simp[Obj.mapSeq]
t%Inv.lst {aa:List (Addr×Obj)}{σ:St}{H:Hp}{s:Shared}{p:Addr}{xs:List V}(I:Inv X aa σ H s)(h:H p=some (.lst xs)) :
  ∃(its:List Value) (n:Nat),aQ xs its/\s.heap.get? p=some { cls:=.type "list",data:=.seq its.toArray n }/\xs.length<=sizeLine:=by
 o%⟨z,its,n,r,e⟩:=I.bp p _ h;e%⟨its,n,r,e,z⟩
t%Inv.MU {aa:List (Addr×Obj)}{σ:St}{H:Hp}{s:Shared}{p:Addr}{xs ys:List V}{its its':List Value}{n n':Nat}{f:Obj->Obj}(I:Inv X aa σ H s)(h:H p=some (.lst xs))
  (ho:s.heap.get? p=some { cls:=.type "list",data:=.seq its.toArray n }) (hf:f { cls:=.type "list",data:=.seq its.toArray n }={ cls:=.type "list",data:=.seq its'.toArray n' }) (r:aQ ys its') (hz:ys.length<=sizeLine) (t:Nat) :
  Inv X aa σ (aK H p (.lst ys)) { s with heap:=s.heap.update p f,toks:=t }:=by
 have e:(s.heap.update p f).get? p=some { cls:=.type "list",data:=.seq its'.toArray n' }:=by
  rw[Heap.get?_update_self f ho (by rw[hf]<;>rfl),hf]
 r%I.write (x:=p) (e:=p) (by rw[h];trivial) (.inl rfl) (fun b u hb q=>(Heap.get?_update_other _ _ (Ne.symm hb)).trans q) ⟨_,e⟩ ?_;e%⟨hz,its',n',r,e⟩
n%QU:V->V->V->Hp->(Hp->Prop)->Prop:=fun o i v H Q=>∃p xs k j,o=.ref p/\i=.int k/\H p=some (.lst xs)/\uc xs.length k=some j/\Q (aK H p (.lst (xs.set j v)))
t%pk:Qy X QU:=by
 intro aa s σ H o i v ov iv u Q I ro ri rv h;o%⟨p,xs,k,j,rfl,rfl,hp,hj,q⟩:=h;cases ro;o%⟨t,rfl⟩:=ri;o%⟨its,n,r,ho,hz⟩:=I.lst hp;o%⟨h1,h2,h3,h4⟩:=yX hj;have hl:=r.length;have hn:=oZ;have I':Inv X aa σ (aK H p (.lst (xs.set j v))) { s with heap:=s.heap.update p (Obj.mapSeq (·.setIfInBounds j u)) } :=
  I.MU hp ho (xy its n j u) (r.set rv j) (by rw[Yl];e%hz) s.toks
 by_cases h0:0<=k
 .have hk:k.toNat=j:=by
   rw[seqIndex_of h0 h4] at h1;e%Option.some.inj h1
  e%PySem.W.ki_setAt ho h0 g% (by rw[Zt,<- hl];e%h4) (by rw[hk];e%⟨_,I',q⟩)
 .have hk:(k+(its.toArray.size:Int)).toNat=j:=by
   rw[seqIndex_neg g% h3] at h1;rw[Zt,<- hl];e%Option.some.inj h1
  e%PySem.W.ki_setBack ho g% (by rw[Zt,<- hl];e%h3) g% (by rw[hk];e%⟨_,I',q⟩)
t%tJ (lo hi:Option Int)(n:Nat):(sliceBounds lo hi none n).1=((HT.cO n 0 lo:Nat):Int)/\(sliceBounds lo hi none n).2.1=((HT.cO n n hi:Nat):Int)/\(sliceBounds lo hi none n).2.2=1:=by
 r%⟨?_,?_,rfl⟩
 .cases lo with
  |none=>simp[sliceBounds,HT.cO]
  |some i =>
   simp only[sliceBounds,HT.cO,Option.getD_none,show(1:Int)>0 by decide,if_true];by_cases h:i<0
   .simp only[h,if_true]<;>omega
   .simp only[h,if_false]<;>omega
 .cases hi with
  |none=>simp[sliceBounds,HT.cO]
  |some i =>
   simp only[sliceBounds,HT.cO,Option.getD_none,show(1:Int)>0 by decide,if_true];by_cases h:i<0
   .simp only[h,if_true]<;>omega
   .simp only[h,if_false]<;>omega
t%qm (its:List Value)(lo hi:Option Int):slicePick its.toArray lo hi none=((its.drop (HT.cO its.length 0 lo)).take (HT.cO its.length its.length hi-HT.cO its.length 0 lo)).toArray:=by
 o%⟨h1,h2,h3⟩:=tJ lo hi its.toArray.size;unfold slicePick;rw[h1,h2,h3];simp only[sliceRange_one,pick_run,Zt]<;>rfl
n%PC (K:PySem.W.Frag):V->Option Int->Option Int->Hp->VK->Prop:=fun x lo hi H Q=>∃a xs,x=.ref a/\bz K H a xs/\∀p,H p=none->Q (.ref p) (aK H p (.lst (ot xs lo hi)))
t%GB:FH X (PC X.K):=by
 intro aa s σ H x v vl vu lo hi sl Q I rx hs pl pu h;o%⟨a,xs,rfl,hx,q⟩:=h;cases rx;o%⟨its,r,ht,hz⟩:=I.list hx;have bN:=r.length;r%⟨"list",_,slot_list_getitem.lookup,ht.isList.typeIs,?_⟩;r%wpAny_getItem_list_slice ht.isList hs pl pu .none i% ?_ (by rw[Zt]<;>omega);rw[qm,<- bN];r%⟨.ref s.heap.objs.size,_,I.laid (t':=s.toks) (o:=.lst (ot xs lo hi)) (fun b ob q=>Heap.get?_push_of_some _ q) (Ze _) ?_,rfl,q _ (I.bp.fresh (Ze _))⟩;e%⟨Ye (mL xs lo hi) hz,_,0,(r.drop (HT.cO xs.length 0 lo)).take (HT.cO xs.length xs.length hi-HT.cO xs.length 0 lo),Heap.get?_push_size _ rfl⟩
n%ja:V->Bool
 |.bO=>true
 |.bl _=>true
 |.int _=>true
 |.str _=>true
 |_=>false
n%Fi:V->V->Bool
 |.bO,.bO=>true
 |.bl a,.bl b=>a == b
 |.bl a,.int b=>(if a then 1 else 0) == b
 |.int a,.bl b=>a == (if b then 1 else 0)
 |.int a,.int b=>a == b
 |.str a,.str b=>a == b
 |_,_=>false
t%Nc {A:Around}{s:Shared}{y x:V}{u v:Value}(ry:RelV y u)(rx:RelV x v)(fy:ja y=true)(fx:ja x=true):SeqAt.EqAt A s u v (Fi y x):=by
 cases y with
 |bO =>
  cases ry
  cases x with
  |bO=>cases rx;e%SeqAt.EqAt.same _
  |bl b=>cases rx;e%SeqAt.EqAt.none_bool b
  |int b=>o%⟨t,rfl⟩:=rx;e%SeqAt.EqAt.none_int b t
  |str b=>o%⟨t,rfl⟩:=rx;e%SeqAt.EqAt.none_str b t
  |_=>e%absurd (show false=true from fx) Zy
 |bl a =>
  cases ry
  cases x with
  |bO=>cases rx;e%SeqAt.EqAt.bool_none a
  |bl b=>cases rx;e%SeqAt.EqAt.bool_bool a b
  |int b=>o%⟨t,rfl⟩:=rx;e%SeqAt.EqAt.bool_int a b t
  |str b=>o%⟨t,rfl⟩:=rx;e%SeqAt.EqAt.bool_str a b t
  |_=>e%absurd (show false=true from fx) Zy
 |int a =>
  o%⟨t',rfl⟩:=ry;cases x with
  |bO=>cases rx;e%SeqAt.EqAt.int_none a t'
  |bl b=>cases rx;e%SeqAt.EqAt.int_bool a t' b
  |int b=>o%⟨t,rfl⟩:=rx;e%SeqAt.EqAt.int_int a t' b t
  |str b=>o%⟨t,rfl⟩:=rx;e%SeqAt.EqAt.int_str a t' b t
  |_=>e%absurd (show false=true from fx) Zy
 |str a =>
  o%⟨t',rfl⟩:=ry;cases x with
  |bO=>cases rx;e%SeqAt.EqAt.str_none a t'
  |bl b=>cases rx;e%SeqAt.EqAt.str_bool a t' b
  |int b=>o%⟨t,rfl⟩:=rx;e%SeqAt.EqAt.str_int a t' b t
  |str b=>o%⟨t,rfl⟩:=rx;e%SeqAt.EqAt.str_str a t' b t
  |_=>e%absurd (show false=true from fx) Zy
 |_=>e%absurd (show false=true from fy) Zy
n%v9 (x:V)(u:Value):Bool:=match u with
 |.none=>Fi .bO x
 |.bool b=>Fi (.bl b) x
 |.int i _=>Fi (.int i) x
 |.str z _=>Fi (.str z) x
 |_=>false
t%Dz {x y:V}{u:Value}(r:RelV y u)(f:ja y=true):v9 x u=Fi y x:=by
 cases y with
 |bO=>cases r;rfl
 |bl b=>cases r;rfl
 |int i=>o%⟨t,rfl⟩:=r;rfl
 |str z=>o%⟨t,rfl⟩:=r;rfl
 |_=>e%absurd (show false=true from f) Zy
t%kX {x:V}:∀{xs:List V}{us:List Value},aQ xs us->xs.all ja=true->us.any (v9 x)=xs.any fun y=>Fi y x
 |_,_,.nil,_=>rfl
 |y::xs,u::us,.cons r t,f=>by
  rw[List.all_cons,Zl] at f;rw[List.any_cons,List.any_cons,Dz r f.1,kX t f.2]
t%jr {A:Around}{s:Shared}{x:V}{v:Value}(rx:RelV x v)(fx:ja x=true):∀{xs:List V}{us:List Value},aQ xs us->xs.all ja=true->∀u∈us,SeqAt.EqAt A s u v (v9 x u)
 |_,_,.nil,_=>fun u hu=>by cases hu
 |y::xs,u::us,.cons r t,f=>fun u' hu=>by
  rw[List.all_cons,Zl] at f;rcases Zf.mp hu with rfl |hu
  .rw[Dz r f.1];e%Nc r rx f.1 fx
  .exact jr rx fx t f.2 u' hu
n%Bq (x:V)(xs:List V):Bool:=xs.any fun y=>Fi y x
n%N3 (K:PySem.W.Frag)(neg:Bool):R2:=fun x y H Q=>∃p xs,y=.ref p/\(bz K H p xs\/aH K H p xs)/\ja x=true/\xs.all ja=true/\Q (.bl (if neg then !Bq x xs else Bq x xs)) H
t%Aw:eO X (compareOp .In) (N3 X.K false):=by
 intro aa s σ H x y v u Q I rx ry h;o%⟨p,xs,rfl,hq,fx,fs,q⟩:=h;cases ry;rcases hq with hq |hq
 .obtain⟨its,r,pl,hz⟩:=I.list hq;r%SeqAt.in_listAt (v9 x) pl.isList (fun w hw=>jr rx fx r fs w (by simpa using hw)) ⟨.bl _,H,I,rfl,?_⟩;rw[show its.toArray.any (v9 x)=its.any (v9 x) by simp,kX r fs];e%q
 .obtain⟨its,r,pl,hz⟩:=I.tuple hq;r%SeqAt.in_tupleAt (v9 x) pl (fun w hw=>jr rx fx r fs w (by simpa using hw)) ⟨.bl _,H,I,rfl,?_⟩;rw[show its.toArray.any (v9 x)=its.any (v9 x) by simp,kX r fs];e%q
t%tL:eO X (compareOp .NotIn) (N3 X.K true):=by
 intro aa s σ H x y v u Q I rx ry h;o%⟨p,xs,rfl,hq,fx,fs,q⟩:=h;cases ry;rcases hq with hq |hq
 .obtain⟨its,r,pl,hz⟩:=I.list hq;r%SeqAt.notIn_listAt (v9 x) pl.isList (fun w hw=>jr rx fx r fs w (by simpa using hw)) ⟨.bl _,H,I,rfl,?_⟩;rw[show its.toArray.any (v9 x)=its.any (v9 x) by simp,kX r fs];e%q
 .obtain⟨its,r,pl,hz⟩:=I.tuple hq;r%SeqAt.notIn_tupleAt (v9 x) pl (fun w hw=>jr rx fx r fs w (by simpa using hw)) ⟨.bl _,H,I,rfl,?_⟩;rw[show its.toArray.any (v9 x)=its.any (v9 x) by simp,kX r fs];e%q
t%iE:cg X (.builtin "len") (fun xs H Q=>∃p ys,xs=[.ref p]/\(bz X.K H p ys\/aH X.K H p ys)/\Q (.int ys.length) H):=by
 intro aa s σ H xs us Q I r h;o%⟨p,ys,rfl,hq,q⟩:=h;o%⟨u,rfl,rx⟩:=vals1 r;cases rx;have hn:=oZ;rcases hq with hq |hq
 .obtain⟨its,r',pl,hz⟩:=I.list hq;have bN:=r'.length;e%Calls.call_len_list pl.isList (by simp only[Zt]<;>omega) ⟨.int ys.length,H,I.tok _,⟨s.toks+1,by rw[Zt,bN]⟩,q⟩
 .obtain⟨its,r',pl,hz⟩:=I.tuple hq;have bN:=r'.length;e%len_tuple pl (by simp only[Zt]<;>omega) ⟨.int ys.length,H,I.tok _,⟨s.toks+1,by rw[Zt,bN]⟩,q⟩
t%tO:cg X (.type "list") (fun xs H Q=>∃p ys,xs=[.ref p]/\(bz X.K H p ys\/aH X.K H p ys)/\∀l,H l=none->Q (.ref l) (aK H l (.lst ys))):=by
 intro aa s σ H xs us Q I r h;o%⟨p,ys,rfl,hq,q⟩:=h;o%⟨u,rfl,rx⟩:=vals1 r;cases rx;have kB:∀(its:List Value),aQ ys its->ys.length<=sizeLine->∀(h':Heap) (c':Nat),(∀b o',s.heap.get? b=some o'->h'.get? b=some o') ->
   h'.get? s.heap.objs.size=some { cls:=.type "list",dict:=none,data:=.seq its.toArray c',slots:=#[] }->EP X aa σ Q (.ref s.heap.objs.size) { s with heap:=h' }:=fun its r' hz h' c' kp e =>
  ⟨.ref s.heap.objs.size,_,I.laid (t':=s.toks) kp (Ze _) (show bZ X.prog X.w _ h' _ (.lst ys) from⟨hz,its,c',r',e⟩),rfl,q _ (I.bp.fresh (Ze _))⟩
 rcases hq with hq |hq
 .obtain⟨its,r',pl,hz⟩:=I.list hq;have bN:=r'.length;o%⟨o,ho,hc,n,hd⟩:=pl.isList;e%call_list_seq p (.inl rfl) ho hc hd (fun h' c' kp e=>kB its r' hz h' c' kp e) (by simp only[Zt]<;>omega)
 .obtain⟨its,r',pl,hz⟩:=I.tuple hq;have bN:=r'.length;o%⟨o,ho,hc,n,hd⟩:=pl;e%call_list_seq p (.inr rfl) ho hc hd (fun h' c' kp e=>kB its r' hz h' c' kp e) (by simp only[Zt]<;>omega)
t%qv:cg X (.type "tuple") (fun xs H Q=>∃p ys,xs=[.ref p]/\((bz X.K H p ys/\∀l,H l=none->Q (.ref l) (aK H l (.tup ys)))\/(aH X.K H p ys/\Q (.ref p) H))):=by
 intro aa s σ H xs us Q I r h;o%⟨p,ys,rfl,h⟩:=h;o%⟨u,rfl,rx⟩:=vals1 r;cases rx;rcases h with ⟨hq,q⟩ |⟨hq,q⟩
 .obtain⟨its,r',pl,hz⟩:=I.list hq;have bN:=r'.length;r%call_tuple_list pl.isList (fun h' kp=>?_) (by simp only[Zt]<;>omega);have I1:Inv X aa σ H { s with heap:=h' }:=I.kept (t':=s.toks) kp;have I2:Inv X aa σ (aK H h'.objs.size (.tup ys)) { s with heap:=h'.push { cls:=.type "tuple",data:=.seq its.toArray } } :=
   I1.laid (t':=s.toks) (fun b o e=>Heap.get?_push_of_some _ e) (Ze _) (show bZ X.prog X.w _ _ _ (.tup ys) from⟨hz,its,r',IsTup.new _ _⟩)
  e%⟨.ref h'.objs.size,_,I2,rfl,q _ (I1.bp.fresh (Ze _))⟩
 .obtain⟨its,r',pl,hz⟩:=I.tuple hq;e%call_tuple_same pl ⟨.ref p,H,I,rfl,q⟩
n%Ny (K:PySem.W.Frag)(T:String)(x:V)(H:Hp):Prop:=match x with
 |.str _=>T="str"
 |.int _=>T="int"
 |.ref p=>(T="list"/\∃xs,bz K H p xs)\/(T="tuple"/\∃o,K.lookup p=some o/\o.cls=.type "tuple"/\o.dict=none) \/
   (T="dict"/\((∃kvs,H p=some (.dK kvs))\/∃kvs,H p=some (.dT kvs)))\/(T="set"/\∃S n,H p=some (.set S n))
 |_=>False
t%CQ {aa:List (Addr×Obj)}{σ:St}{H:Hp}{s:Shared}{T:String}{x:V}{v:Value}(I:Inv X aa σ H s)(r:RelV x v)(ty:Ny X.K T x H) :
  s.TypeIs v T/\∀a,v=.ref a->∃ob,s.heap.get? a=some ob/\ob.dict=none:=by
 cases x with
 |str z =>
  o%⟨t,rfl⟩:=r;cases (show T="str" from ty);e%⟨typeIs_str s z t,fun _ e=>nomatch e⟩
 |int i =>
  o%⟨t,rfl⟩:=r;cases (show T="int" from ty);e%⟨typeIs_int s i t,fun _ e=>nomatch e⟩
 |ref p =>
  cases r
  rcases ty with ⟨rfl,xs,hq⟩ |⟨rfl,o,hk,hc,hd⟩ |⟨rfl,hk⟩ |⟨rfl,S,n,hk⟩
  .obtain⟨its,_,pl,_⟩:=I.list hq;r%⟨pl.isList.typeIs,fun a e=>?_⟩;cases e;o%⟨o,n,e,c,hd,_⟩:=pl;e%⟨o,e,hd⟩
  .refine⟨⟨o,I.my p o hk,hc⟩,fun a e=>?_⟩;cases e;e%⟨o,I.my _ o hk,hd⟩
  .have z:∃o,s.heap.get? p=some o/\o.ExactDict:=by
    rcases hk with ⟨kvs,hk⟩ |⟨kvs,hk⟩
    .obtain⟨_,_,_,_,o,_,_,e,ex,_⟩:=I.bp p _ hk;e%⟨o,e,ex⟩
    .obtain⟨_,_,_,_,o,_,_,e,ex,_⟩:=I.bp p _ hk;e%⟨o,e,ex⟩
   o%⟨o,e,ex⟩:=z;r%⟨⟨o,e,ex.1⟩,fun a e2=>?_⟩;cases e2;e%⟨o,e,ex.2.1⟩
  .obtain⟨o,_,_,_,e,ex,_⟩:=I.bp p _ hk;r%⟨⟨o,e,ex.1⟩,fun a e2=>?_⟩;cases e2;e%⟨o,e,ex.2.1⟩
 |_=>e%False.elim ty
n%Wg (K:PySem.W.Frag)(T:String)(r:V->List V->Hp->VK->Prop)(to:TE):TE:=fun σ H Q=>to σ H fun x H1=>Ny K T x H1/\r x [] H1 Q
n%tBM (K:PySem.W.Frag)(T:String)(r:V->List V->Hp->VK->Prop)(to:TE)(t:TA):TE:=fun σ H Q=>to σ H fun x H1=>Ny K T x H1/\t σ H1 fun xs H2=>r x xs H2 Q
variable {o e:Expr}{es:List Expr}{to:TE}{t:TA}{name:Str}{fE bW:Pos}{T id:String}{r:V->List V->Hp->VK->Prop}
t%L6 (pa:PlainAttrs T)(slot:Slot T name id)(Br:typeOf (.builtin id)=pure (.type "method_descriptor"))(hm:Tg X id r)(ho:PE X o to)
  (uD:x%(attributeBase o name X.env (eval o X.env)=eval o X.env)) (uC:x%((fE.endLine == bW.line)=true)):PE X (.Call (.Attribute o name fE) [] [] bW) (Wg X.K T r to):=by
 intro aa s σ H Q I h;r%wpAny_Call_method0_late uD uC (bi (ho aa s σ H _ I h) fun v s1 ⟨x,H1,I1,r1,ty,q1⟩=>?_);o%⟨h1,h2⟩:=CQ I1 r1 ty;e%⟨T,id,pa,slot,Br,h1,h2,Calls.callWith_builtin rfl (PySem.evalArgs_none (hm aa s1 σ H1 x [] v [] Q I1 r1 .nil q1))⟩
end
n%MtM (X:Cx)(id:String)(r:V->List V->Hp->VK->Prop):Prop :=
 ∀(aa:List (Addr×Obj)) (s:Shared) (σ:St) (H:Hp) (x:V) (xs:List V) (v:Value) (us:List Value) (Q:VK),Inv X aa σ H s->RelV x v->aQ xs us->r x xs H Q ->
  wpAny (model X.prog X.w) X.A (call (.builtin id) (v::us)) (EP X aa σ Q) X.xe s
t%aQ.one:∀{x:V}{us:List Value},aQ [x] us->∃u,us=[u]/\RelV x u
 |_,_,.cons r .nil=>⟨_,rfl,r⟩
t%aQ.rep {xs:List V}{us:List Value}(h:aQ xs us):∀k:Nat,aQ (List.replicate k xs).flatten (List.replicate k us).flatten
 |0=>.nil
 |k+1=>by
  rw[List.replicate_succ,List.replicate_succ,List.flatten_cons,List.flatten_cons];e%aQ.append h (aQ.rep h k)
t%foldl_rep (its:List Value):∀(k:Nat) (acc:List Value),
  List.foldl (fun x1 x2=>x1++x2) acc.toArray (List.replicate k its.toArray)=(acc++(List.replicate k its).flatten).toArray
 |0,acc=>by simp
 |k+1,acc=>by
  have e:acc.toArray++its.toArray=(acc++its).toArray:=by simp
  have e2:(acc++its)++(List.replicate k its).flatten=acc++(List.replicate (k+1) its).flatten:=by
   rw[List.replicate_succ,List.flatten_cons,List.append_assoc]
  rw[<- e2,<- foldl_rep its k (acc++its),<- e,List.replicate_succ,List.foldl_cons]
section
variable {X:Cx}{aa:List (Addr×Obj)}{σ:St}{H:Hp}{s:Shared}{l b:Addr}{xs ys zs:List V}
t%Inv.P8 {its its':List Value}{n:Nat}{f:Array Value->Array Value}{t':Nat}(I:Inv X aa σ H s)(hH:H l=some (.lst xs))
  (e:s.heap.get? l=some { cls:=.type "list",data:=.seq its.toArray n }) (hf:f its.toArray=its'.toArray) (hv:aQ ys its') (hz:ys.length<=sizeLine) :
  Inv X aa σ (aK H l (.lst ys)) { s with heap:=s.heap.update l (Obj.mapSeq f),toks:=t' }:=by
 have q:=PySem.IsL.update e f;rw[hf] at q;r%I.write (x:=l) (e:=l) (by rw[hH];e%trivial) (.inl rfl) (fun b' u hb hu=>(Heap.get?_update_other s.heap (Obj.mapSeq f) (Ne.symm hb)).trans hu) ⟨_,q⟩ ?_;e%⟨hz,its',_,hv,q⟩
t%Inv.BM {its:List Value}{t':Nat}(I:Inv X aa σ H s)(hv:aQ ys its)(hz:ys.length<=sizeLine) :
  Inv X aa σ (aK H s.heap.objs.size (.lst ys)) { s with heap:=s.heap.push { cls:=.type "list",data:=.seq its.toArray },toks:=t' } :=
 I.laid (fun _ _ q=>Heap.get?_push_of_some _ q) (Ze _) ⟨hz,its,0,hv,Heap.get?_push_size _ rfl⟩
t%Inv.fresh (I:Inv X aa σ H s):H s.heap.objs.size=none:=I.bp.fresh (Ze _)
t%Inv.zR (I:Inv X aa σ H s)(hH:H l=some (.lst xs)):xs.length<=sizeLine/\∃(its:List Value) (n:Nat),aQ xs its/\xs.length=its.length/\s.heap.get? l=some { cls:=.type "list",data:=.seq its.toArray n }:=by
 o%⟨z,its,n,r,e⟩:=I.bp l _ hH;e%⟨z,its,n,r,r.length,e⟩
t%uX {n:Nat}(h:n<=sizeLine):Builtin.List.listTooLong n=false:=by
 unfold Builtin.List.listTooLong;e%decide_eq_false g%
end
section
variable {X:Cx}
n%GQ:V->List V->Hp->VK->Prop:=fun x vs H Q=>∃l xs y,x=.ref l/\vs=[y]/\H l=some (.lst xs)/\xs.length<sizeLine/\Q .bO (aK H l (.lst (xs++[y])))
t%jL:MtM X "list.append" GQ:=by
 intro aa s σ H x vs v us Q I rx rv h;o%⟨l,xs,y,rfl,rfl,hH,hz,q⟩:=h;cases rx;o%⟨u,rfl,ru⟩:=rv.one;o%⟨z,its,n,r,hl,e⟩:=I.zR hH;r%call_meets F.slot_list_append ⟨_,e,rfl⟩ F.entry_list_append (F.args_list_append_2 _ _) (PySem.list_append l its.toArray n u (by rw[Zt];omega)) ⟨e,?_⟩;r%⟨.bO,_,I.P8 (its':=its++[u]) hH e i% (r.append (.cons ru .nil)) ?_,rfl,q⟩;rw[Zn,List.length_singleton];omega
n%GP:V->List V->Hp->VK->Prop:=fun x vs H Q=>∃l b xs zs,x=.ref l/\vs=[.ref b]/\H l=some (.lst xs)/\H b=some (.lst zs)/\xs.length+zs.length<=sizeLine/\Q .bO (aK H l (.lst (xs++zs)))
t%AB:MtM X "list.extend" GP:=by
 intro aa s σ H x vs v us Q I rx rv h;o%⟨l,b,xs,zs,rfl,rfl,hH,hB,hz,q⟩:=h;cases rx;o%⟨u,rfl,ru⟩:=rv.one;cases ru;o%⟨z,its,n,r,hl,e⟩:=I.zR hH;o%⟨z2,qh,n2,r2,lP,e2⟩:=I.zR hB;have hsz:its.toArray.size+qh.toArray.size<=sizeLine:=by rw[Zt,Zt];omega
 have CK:¬ (!its.toArray.isEmpty&&Builtin.List.listTooLong (its.toArray.size+qh.toArray.size))=true:=by
  rw[uX hsz,Bool.and_false];e%Zy
 r%call_meets F.slot_list_extend ⟨_,e,rfl⟩ F.entry_list_extend (F.args_list_extend_2 _ _)
  (AutoSeq1.list_extend_list_list_0 l its.toArray n b qh.toArray n2 CK (by rw[Zt];omega) g%) ⟨e,e2,?_⟩
 r%⟨.bO,_,I.P8 (its':=its++qh) hH e i% (r.append r2) ?_,rfl,q⟩;rw[Zn];omega
n%PF:R2:=fun x y H Q=>∃l b xs zs,x=.ref l/\y=.ref b/\H l=some (.lst xs)/\H b=some (.lst zs)/\xs.length+zs.length<=sizeLine/\∀p,H p=none->Q (.ref p) (aK H p (.lst (xs++zs)))
t%sk:eO X (binaryOp .Add) PF:=by
 intro aa s σ H x y v u Q I rx ry h;o%⟨l,b,xs,zs,rfl,rfl,hH,hB,hz,q⟩:=h;cases rx;cases ry;o%⟨z,its,n,r,hl,e⟩:=I.zR hH;o%⟨z2,qh,n2,r2,lP,e2⟩:=I.zR hB;r%PySem.P.add_list e e2 ?_ (by rw[Zt,Zt];omega);have ea:its.toArray++qh.toArray=(its++qh).toArray:=by simp
 rw[ea];e%⟨.ref _,_,I.BM (t':=s.toks) (r.append r2) (by rw[Zn];omega),rfl,q _ I.fresh⟩
n%PD:R2:=fun x y H Q=>∃l k xs,x=.ref l/\y=.int k/\H l=some (.lst xs)/\-(2 ^ 63)<=k/\k<2 ^ 63/\xs.length*k.toNat<=sizeLine /\
 ∀p,H p=none->Q (.ref p) (aK H p (.lst (List.replicate k.toNat xs).flatten))
t%HE {α : Type}(xs:List α)(k:Nat):(List.replicate k xs).flatten.length=k*xs.length:=by
 induction k with
 |zero=>simp
 |succ k ih=>rw[List.replicate_succ,List.flatten_cons,Zn,ih,Nat.succ_mul,Nat.add_comm]
t%L8:eO X (binaryOp .Mult) PD:=by
 intro aa s σ H x y v u Q I rx ry h;o%⟨l,k,xs,rfl,rfl,hH,h1,h2,hz,q⟩:=h;cases rx;o%⟨t,rfl⟩:=ry;o%⟨z,its,n,r,hl,e⟩:=I.zR hH;have bN:its.toArray.size*k.toNat<=sizeLine:=by rw[Zt,<- hl];e%hz
 have W8:¬ its.toArray.size*k.toNat>(2 ^ 63-1) / 8:=by
  have:(sizeLine:Nat)<=(2 ^ 63-1) / 8:=by decide
  omega
 have W4:¬ (!Builtin.List.listFitsIndex k)=true:=by
  rw[fitsIndex_both h1 h2];e%Zy
 have CK:¬ Builtin.List.listTooLong (its.toArray.size*k.toNat)=true:=by
  rw[uX bN];e%Zy
 have WY:List.foldl (fun x1 x2=>x1++x2) #[] (List.replicate (if its.toArray.isEmpty=true then 0 else k.toNat) its.toArray)=(List.replicate k.toNat its).flatten.toArray:=by
  have f0:∀m:Nat,List.foldl (fun x1 x2=>x1++x2) #[] (List.replicate m its.toArray)=(List.replicate m its).flatten.toArray:=fun m=>by
   have:=foldl_rep its m [];rw[List.nil_append] at this;e%this
  rw[f0];cases its with
  |nil=>simp
  |cons a r'=>rw[if_neg i%]
 r%wpAny_binaryOp_repeat_ref (T:="list") (U:="int") d% ⟨_,e,rfl⟩ (fun s'=>typeIs_int s' k t) noFill_list_mul F.fills_int_mul F.slot_int_rmul repeat_list F.slot_int_index.lookup
  (call_meets F.slot_int_rmul (typeIs_int s k t) F.entry_int_rmul (F.args_int_rmul_2 _ _) (int___rmul___int_list k t l its.toArray n)
   ⟨e,rfl,⟨_,e,rfl⟩,call_meets F.slot_list_mul ⟨_,e,rfl⟩ F.entry_list_mul (F.args_list_mul_2 _ _) (AutoListH.list___mul___list_int_3 l its.toArray n k t W4 W8 CK) ⟨e,?_⟩⟩)
 rw[WY];e%⟨.ref _,_,I.BM (t':=s.toks) (r.rep k.toNat) (by rw[HE,Nat.mul_comm];e%hz),rfl,q _ I.fresh⟩
end
section
variable {prog:Program}{w:World}{A:Around}{E:Value->Shared->Prop}{s:Shared}
end
section
variable {X:Cx}
end
end L2
namespace Att
open PySem PySem.W PySem.Calls PyProof.Rows
t%m4 {P:Params}{h:Heap}:∀(ns:List Int) (vs:List Value),WellAll P h vs (ns.map WData.int)->IntsAre vs ns:=by
 intro ns;induction ns with
 |nil =>
  intro vs w;rw[List.map_nil] at w;cases w;e%.nil
 |cons n ns ih =>
  intro vs w;rw[Yj] at w;cases w with
  |cons a b =>
   cases a
   e%.cons _ _ (ih _ b)
t%Am {l:OpenLaw}{n:Nat}(hn:l.most=some n){P:Params}{h:Heap}{args:List WData}{J8:List Value}
  (Gg:l.row.toRowW.claim.pre args=true) (Ut:WellAll P h J8 args) :
  ∃a vs ns,J8=[Value.ref a]/\args=[WData.list (ns.map WData.int)]/\h.get? a=some { cls:=.type "list",data:=.seq vs.toArray }/\IntsAre vs ns/\ns.length<=n:=by
 have Fy:WShape.hasAll [] args [.list .int]=true:=(pre_splitW Gg).1;have hc:l.pre.holds [] { args:=args }=true:=(pre_splitW Gg).2;o%⟨d,r,rfl,h1,h2⟩:=hasAllW_cons Fy;obtain rfl:=hasAllW_nil h2;o%⟨xs,rfl,h3⟩:=hasW_list h1;o%⟨ns,rfl⟩:=items_int h3;have bN:ns.length<=n:=by
  unfold OpenLaw.pre at hc;have h4:(WTm.not (.lt (.lit (.int (n:Int))) (.len (.arg 0)))).holds [] { args:=[.list (ns.map .int)] }=true:=by
   have h4:=(holds_andW hc).1;rw[hn] at h4;e%h4
  have h5:=condW_of h4 (w_not (w_lt w_lit (w_len_list (w_arg rfl))));rw[Zb] at h5;r%Nat.le_of_not_lt fun q=>?_
  have q':(n:Int)<((ns.length:Nat):Int):=by omega
  first
   |(rw[decide_eq_true q'] at h5;e%absurd h5 d%)
   |(simp at h5;omega)
 cases Ut with
 |cons w1 w2 =>
  cases w2
  cases w1 with
  |list ho lZ=>e%⟨_,_,ns,rfl,rfl,ho,m4 ns _ lZ,bN⟩
t%As (l:OpenLaw)(args:List WData):l.row.toRowW.claim.post args (.bool true) args=true :=
 postW_of (r:=l.row.toRowW) (X:=(true == true))
  (show WShape.has [] (.bool true) .bool=true by first |rfl |decide |simp[WShape.has,WShape.arms,WShape.armsAll])
  (show(WTm.eq .res (.lit (.bool true))).value [] { args:=args,res:=some (.bool true),after:=args }=some (.bool (true == true)) from w_eq_bool (w_res rfl) w_lit) rfl
t%vJ {l:OpenLaw}{n:Nat}{q:Program}{qI:List Str}{XP:(Str->Option Value)->Heap->Prop}{YP:World->Heap->Prop}{d:DefRec}
  (hn:l.most=some n) (OK:d.params.defaults=[])
  (call:∀(w:World) (aT bh:Shared) (mg mb:Str->Option Value) (fa:Addr) (o:Obj) (pm cd qB:Value) (a:Addr) (vs:List Value) (ns:List Int),
   Ground q qI [] XP w aT mg mb bh.heap->YP w bh.heap ->
   bh.heap.get? fa=some o->o.data=.func (docDef d.name d.params d.body d.scope pm cd qB)->bh.heap.CodeRec cd d.name->mg d.name=some (.ref fa) ->
   bh.heap.get? a=some { cls:=.type "list",data:=.seq vs.toArray }->IntsAre vs ns->ns.length<=n->bh.gens=#[] ->
   codeAny (model l.prog w) callerA (.call (.ref fa) ⟨[.ref a],[]⟩) (fun r s'=>r=.ok (.ret (.bool true))/\OldK bh.heap s'.heap/\s'.os=bh.os/\AllBare s'.gens) bh) :
  WalkO q qI XP YP l.row.toRowW d [] (fun f vs=>PySem.call f vs):=by
 intro w aT bh mg mb G Y fa o pm cd qB dV kV ho hd v8 hD Ig hg args J8 as Gg agV hrd Ut hlo;obtain rfl:dV=.none:=Dflts.none hD OK;obtain rfl:kV=.none:=Dflts.noKw hD;o%⟨a,vs,ns,rfl,rfl,KU,CM,bN⟩:=Am hn Gg Ut;r%enter_call (codeAny_mono (call w aT bh mg mb fa o pm cd qB a vs ns G Y ho (fd_plain hd) v8 Ig KU CM bN hg) fun r s' hq=>?_);o%⟨rfl,h2,h3,h4⟩:=hq;e%⟨.inl ⟨.bool true,.bool true,[],rfl,fun _=>rfl,.bool true,As l _,fun _=>⟨List.Pairwise.nil,fun _ hm=>(nomatch hm)⟩⟩,h2,h3,h4⟩
section
variable {prog:Program}{w:World}{A:Around}{E:Value->Shared->Prop}{s:Shared}{K:Frag}
end
end Att
namespace L2
open PySem PySem.Spec PyProof.Rows
t%mo:∀{vs:List Value}{ns:List Int},IntsAre vs ns->aQ (ns.map V.int) vs
 |_,_,.nil=>.nil
 |_,_,.cons n t h=>.cons ⟨t,rfl⟩ (mo h)
n%K8 (H:Hp):Prop:=∀b,H b=none\/∃o xs,H b=some (.jU o (.lst xs))
t%Eu {P:Program}{w:World}{K:PySem.W.Frag}{mg mb:Str->Option Value}{CX:x6}{k:Nat}{fa a:Addr}{fd:FuncData}{x:Str}{sp:Sp}{bh:Shared}{vs:List Value}{ns:List Int}
  (KX:K.In bh.heap) (UD:bh.heap.Ns mainGlobals mg) (hb:bh.heap.Ns builtinsNs mb) (hbb:∀x:Str,x ≠ "__name__"->mb x=bootBuiltins x) (WZ:bh.heap.NoLimit) (hg:bh.gens=#[])
  (ha:bh.heap.get? a=some { cls:=.type "list",data:=.seq vs.toArray }) (hi:IntsAre vs ns) (hl:ns.length<=sizeLine) (hr:cR k callerA)
  (F:∀base:Heap,K.In base->base.Ns mainGlobals mg->aM P w K mg base CX k fa fd [x] sp) (Rv:∀(s:Shared) (u:Value),BindsTo s fd ⟨[u],[]⟩ [(x,u)])
  (v3:∀H:Hp,K8 H->bz K H a (ns.map V.int)->sp [.ref a] H (fun v _=>v=.bl true) fun _ _ _=>False)
  (Va:∀H e s',CX [] H bh (fun _ _ _=>False) e s'->False) :
  codeAny (model P w) callerA (.call (.ref fa) ⟨[.ref a],[]⟩) (fun r s'=>r=.ok (.ret (.bool true))/\OldK bh.heap s'.heap/\s'.os=bh.os/\AllBare s'.gens) bh:=by
 have rv:=mo hi;have WI:=hi.length;have Qv:∀H:Hp,K8 H->bz K H a (ns.map V.int)->jV P w H bh.heap->(∀b,H b≠none->b=a)->(H a≠none->K.lookup a=none) ->
   codeAny (model P w) callerA (.call (.ref fa) ⟨[.ref a],[]⟩) (fun r s'=>r=.ok (.ret (.bool true))/\OldK bh.heap s'.heap/\s'.os=bh.os/\AllBare s'.gens) bh:=by
  intro H hO hS bp hA hK;have zq:∀{b:Addr}{o:Obj},bh.heap.get? b=some o->H b=none->(rZ bh.heap H).get? b=some o:=fun e n=>EB e n
  have Oc:∀{b:Addr}{o:Obj}{es:Array DictEntry}{ep:Nat},bh.heap.get? b=some o->o.data=.dict es ep->H b=none:=fun {b o es ep} e d=>by
   cases q:H b with
   |none=>rfl
   |some u =>
    have e':b=a:=hA b (by rw[q];simp);subst e';rw[ha] at e;cases e;have d':Data.seq vs.toArray _=Data.dict es ep:=d;cases d'
  have RM:∀{b:Addr}{m:Str->Option Value},bh.heap.Ns b m->(rZ bh.heap H).Ns b m:=fun {b m} ⟨o,es,ep,e,d,r⟩=>⟨o,es,ep,zq e (Oc e d),d,r⟩
  have ZY:K.In (rZ bh.heap H):=fun b o e=>zq (KX b o e) (by
   cases q:H b with
   |none=>rfl
   |some u =>
    have e':b=a:=hA b (by rw[q];simp);subst e';rw[hK (by rw[q];simp)] at e;cases e)
  have hM:Mod K mg (rZ bh.heap H):=⟨ZY,RM UD,⟨mb,RM hb,hbb⟩,let ⟨mc,h1,h2⟩:=WZ;⟨mc,RM h1,h2⟩⟩;have e0:ww P w K mg (rZ bh.heap H) callerA [] bh H:=⟨rfl,hM,fun b o e=>Hl e,Nat.le_of_eq (AL _ _),trivial,fun b hb=>absurd (show b∈([]:List Addr) from hb) i%,bp,.of_eq hg⟩;r%codeAny_mono ((F _ ZY (RM UD)).run callerA [] bh H ⟨[.ref a],[]⟩ [.ref a] [.ref a] _ _ hr e0 (Rv bh (.ref a)) (.cons rfl .nil) (v3 H hO hS)) fun r s' h=>?_
  cases r with
  |error e=>e%(Va H e s' h).elim
  |ok fl =>
   cases fl with
   |next=>e%False.elim h
   |brk=>e%False.elim h
   |cont=>e%False.elim h
   |ret u =>
    o%⟨v,H',os,bare,un,WW,r',q⟩:=h;have q':v=.bl true:=q;subst q';obtain rfl:u=Value.bool true:=r';r%⟨rfl,OldK.of_keep fun b o e=>?_,os,bare⟩;cases q:H b with
    |none=>e%un.keep b o e q (by intro z;e%absurd (show b∈([]:List Addr) from z) i%) i%
    |some u =>
     rcases hO b with z |⟨ob,xs,z⟩
     .rw[q] at z;cases z
     .have z2:=un.md b ob _ z;o%⟨e1,_⟩:=bp b _ z;o%⟨e2,_⟩:=WW b _ z2;rw[e] at e1;cases e1;e%e2
 cases hk:K.lookup a with
 |some o =>
  have e:=KX a o hk;rw[ha] at e;cases e;r%Qv (fun _=>none) (fun _=>.inl rfl) (.inr ⟨_,vs.toArray,_,hk,rfl,rfl,rfl,by rw[Zt,WI];e%hl,by simpa using rv⟩) (fun b u z=>by have z':(none:Option HO)=some u:=z;cases z') (fun b z=>absurd rfl z) fun z=>absurd rfl z
 |none =>
  r%Qv (fun b=>if b=a then some (.jU { cls:=.type "list",data:=.seq vs.toArray } (.lst (ns.map V.int))) else none) (fun b=>?_) (.inl (.inr ⟨{ cls:=.type "list",data:=.seq vs.toArray },if_pos rfl⟩)) (fun b u z=>?_) (fun b z=>?_) fun _=>hk
  .by_cases hb:b=a
   .exact .inr ⟨_,_,if_pos hb⟩
   .exact .inl (if_neg hb)
  .by_cases hb:b=a
   .have z':=(if_pos hb).symm.trans z;cases z';subst hb;e%⟨ha,by rw[Zb];e%hl,vs,_,rv,ha⟩
   .have z':=(if_neg hb).symm.trans z;cases z'
  .by_cases hb:b=a
   .exact hb
   .exact absurd (if_neg hb) z
t%Gp {l:PySem.W.OpenLaw}{n k:Nat}{q:Program}{qI:List Str}{XP:(Str->Option Value)->Heap->Prop}{YP:World->Heap->Prop}{d:DefRec}{K:Params->PySem.W.Frag}{CX:World->x6}{sp:World->Sp}{x:Str}
  (hn:l.most=some n) (UG:n<=sizeLine) (OK:d.params.defaults=[]) (hr:cR k callerA)
  (hY:∀(w:World) (h:Heap),YP w h->(K w.params).In h)
  (F:∀(w:World) (mg:Str->Option Value) (fa:Addr) (h:Heap),(K w.params).In h->h.Ns mainGlobals mg->mg d.name=some (.ref fa) ->
   ∃fd:FuncData,(∀(s:Shared) (u:Value),BindsTo s fd ⟨[u],[]⟩ [(x,u)]) /\
    ∀base:Heap,(K w.params).In base->base.Ns mainGlobals mg->aM l.prog w (K w.params) mg base (CX w) k fa fd [x] (sp w))
  (v3:∀(w:World) (H:Hp) (a:Addr) (ns:List Int),ns.length<=n->K8 H->bz (K w.params) H a (ns.map V.int)->sp w [.ref a] H (fun v _=>v=.bl true) fun _ _ _=>False)
  (Va:∀(w:World) (H:Hp) (s:Shared) (e:Value) (s':Shared),CX w [] H s (fun _ _ _=>False) e s'->False) :
  PySem.W.WalkO q qI XP YP l.row.toRowW d [] (fun f vs=>PySem.call f vs):=by
 r%Att.vJ hn OK fun w aT bh mg mb fa o pm cd qB a vs ns G Y ho hd v8 Ig KU CM bN hg=>?_
 have KX:=hY w _ Y;o%⟨fd,hb,hF⟩:=F w mg fa _ KX G.T.g Ig;e%Eu KX G.T.g G.T.b G.T.builtins G.T.nolimit hg KU CM (Ye bN UG) hr hF hb (fun H hO hS=>v3 w H a ns bN hO hS) fun H e s'=>Va w H bh e s'
n%jE (s:Stmt):Arguments:=match s with
 |.FunctionDef _ a _ _ _ _ _ _ _ _=>a
 |_=>{ posonlyargs:=[],args:=[],vararg:=none,kwonlyargs:=[],kw_defaults:=[],kwarg:=none,defaults:=[] }
n%Bn (s:Stmt):List Stmt:=match s with
 |.FunctionDef _ _ b _ _ _ _ _ _ _=>b
 |_=>[]
n%aX (s:Stmt):Scope:=match s with
 |.FunctionDef _ _ _ _ _ _ sc _ _ _=>sc
 |_=>{ kind:=.function,names:=[],isGenerator:=false,isCoroutine:=false }
m%cP:x6:=fun _ _ _ _ _ _=>False
m%E0:XK:=fun _ _ _=>False
t%cz {X:Cx}:mn cP X E0:=fun _ _ _ _ _ _ _ h=>h.elim
structure cE (K:PySem.W.Frag)(x qual:Str)(st:Stmt)(f:Addr)(fd:FuncData):Prop where
 ex:∃(oc:Value) (od:Option Addr) (kV qB pm:Value) (an:Option Addr) (bF ct:Value) (EY:Array (Option Value)),
  fd=PySem.W.fnOf x qual (jE st) (Bn st) (aX st) .none kV qB pm an bF ct/\K.lookup f=some ⟨oc,od,.func fd,EY⟩/\PySem.W.codeIn K bF qual=true
 kp:PySem.W.keepIn K (.ref f)=true
section
variable {P:Program}{w:World}{K:PySem.W.Frag}{mg:Str->Option Value}{base:Heap}
t%cE.ok {x qual:Str}{st:Stmt}{f:Addr}{fd:FuncData}{N ps:List Str}{k:Nat}{sp:Sp}(F:cE K x qual st f fd)(S:ap N ps (aX st))(len:∀vs H Q E,sp vs H Q E->vs.length=ps.length)
  (oH:∀(bF:Value) (A:Around) (outer:List Env) (s:Shared) (H:Hp) (vs:List V) (Q:VK) (E:XK),cR k (A.deeper (envOfC qual (aX st) s.heap.objs.size f bF))->sp vs H Q E ->
   ∃t,iM (gR cP P w K mg base N qual (aX st) f bF A outer s H E).Oa (Bn st) t/\t { nx:=fun _ H'=>Q .bO H',rt:=Q } (start N vs) H):aM P w K mg base cP (k+1) f fd ps sp:=by
 o%⟨oc,od,kV,qB,pm,an,bF,ct,EY,rfl,lk,v8⟩:=F.ex;r%Jj lk v8 S len fun A outer s H vs Q E hr v3=>?_
 o%⟨t,h,q⟩:=oH bF A outer s H vs Q E hr v3;e%⟨t,h.Oa,q⟩
t%cE.binds {x qual:Str}{st:Stmt}{f:Addr}{fd:FuncData}{ps:List Str}(F:cE K x qual st f fd)
  (h:∀(kV qB pm:Value) (an:Option Addr) (bF ct:Value) (us:List Value),us.length=ps.length->bindArgs (PySem.W.fnOf x qual (jE st) (Bn st) (aX st) .none kV qB pm an bF ct) ⟨us,[]⟩=pure (ps.zip us)):Binds K fd ps []:=by
 o%⟨oc,od,kV,qB,pm,an,bF,ct,EY,rfl,lk,v8⟩:=F.ex;e%.all (h kV qB pm an bF ct)
t%dE {x qual:Str}{st:Stmt}{f:Addr}{oc:Value}{od an:Option Addr}{EY:Array (Option Value)}{kV qB pm bF ct:Value}(l:K.lookup f=some ⟨oc,od,.func (PySem.W.fnOf x qual (jE st) (Bn st) (aX st) .none kV qB pm an bF ct),EY⟩)
  (c:PySem.W.codeIn K bF qual=true) (k:PySem.W.keepIn K (.ref f)=true):cE K x qual st f (PySem.W.fnOf x qual (jE st) (Bn st) (aX st) .none kV qB pm an bF ct):=⟨⟨oc,od,kV,qB,pm,an,bF,ct,EY,rfl,l,c⟩,k⟩
end
t%Rt {A:Around}{k:Nat}(hr:cR k A):A.units+1<cLine:=Nat.lt_of_le_of_lt (Nat.add_le_add_left (by decide:1<=64) _) hr.units
section
variable {X:Cx}
t%pv (i:Nat){x:Str}{pos:Pos}(hN:x%(X.N[i]?=some x))(hv:Pc X.env.scope x:=by first |e%Or.inl rfl |e%Or.inr l% |e%Or.inr (Or.inr rfl))(hd:y%((x == ("__debug__" : Str))=false))
  (v8:y%((x == ("__classdict__" : Str))=false)):PE X (.Name x pos) (mR i):=C5 hN hv hd v8
end
t%bB {A B:Prop}(h:B):if false=true then A else B:=by
 rw[if_neg Zy];e%h
t%aU {A B:Prop}(h:A):if true=true then A else B:=by
 rw[if_pos rfl];e%h
t%Ge {c A B:Prop}[Decidable c](h1:c->A)(h2:¬ c->B):if c then A else B:=by
 by_cases h:c
 .rw[if_pos h];e%h1 h
 .rw[if_neg h];e%h2 h
n%et (env:Env):List (Str×NameKind)->List (Str×Addr)->List (Str×Addr)
 |[],acc=>acc
 |(n,k)::r,acc=>if k == .free then et env r ((n,(env.cells.lookup n).getD 0)::acc) else et env r acc
t%mv {env:Env}(f:Str×NameKind->List (Str×Addr)->Sem (ForInStep (List (Str×Addr))))
  (hf:∀n k cs,f (n,k) cs=if k == .free then (do let a <- cellOf env n;pure (.yield ((n,a)::cs))) else pure (.yield cs)) :
  ∀(names:List (Str×NameKind)) (acc:List (Str×Addr)),(∀x∈names,x.2=.free->(env.cells.lookup x.1).isSome=true)->forIn names acc f=pure (et env names acc)
 |[],acc,_=>by rw[List.forIn_nil];rfl
 |(n,k)::r,acc,h=>by
  rw[List.forIn_cons,hf];unfold et;have hr:∀x∈r,x.2=.free->(env.cells.lookup x.1).isSome=true:=fun x hx=>h x (Zk _ hx)
  by_cases hk:(k == NameKind.free)=true
  .rw[if_pos hk,if_pos hk];have e:=h (n,k) Zo (by simpa using hk);o%⟨c,hc⟩:=Option.isSome_iff_exists.mp e;unfold cellOf;simp only at hc;rw[hc];simp only[pure_bind,Option.getD_some];e%mv f hf r _ hr
  .rw[if_neg hk,if_neg hk,pure_bind];e%mv f hf r _ hr
t%Oh {scope:Scope}{env:Env}(h:∀x∈scope.names,x.2=.free->(env.cells.lookup x.1).isSome=true):closureFor scope env=pure (et env scope.names []):=by
 show(forIn scope.names ([]:List (Str×Addr)) _ >>= fun cs=>pure cs)=_;rw[mv (env:=env) _ (fun n k cs=>by cases hk:k == NameKind.free<;>simp[hk]) scope.names [] h];simp only[pure_bind]
t%jv {env:Env}{x:Str}{c:Addr}:∀(names:List (Str×NameKind)) (acc:List (Str×Addr)),(∀x∈names,x.2=.free->(env.cells.lookup x.1).isSome=true) ->
  (et env names acc).lookup x=some c->env.cells.lookup x=some c\/acc.lookup x=some c
 |[],_,_,e=>.inr e
 |(n,k)::r,acc,h,e=>by
  unfold et at e;have hr:∀x∈r,x.2=.free->(env.cells.lookup x.1).isSome=true:=fun x hx=>h x (Zk _ hx)
  by_cases hk:(k == NameKind.free)=true
  .rw[if_pos hk] at e;rcases jv r _ hr e with q |q
   .exact .inl q
   .rw[List.lookup_cons] at q;cases hb:x == n with
    |true =>
     rw[hb] at q;have hx:x=n:=by simpa using hb
     o%⟨c',hc⟩:=Option.isSome_iff_exists.mp (h (n,k) Zo (by simpa using hk));simp only at hc;rw[hc] at q;subst hx;rw[hc];e%.inl (by simpa using q)
    |false=>rw[hb] at q;e%.inr q
  .rw[if_neg hk] at e;e%jv r _ hr e
t%lu {env:Env}{x:Str}:∀(names:List (Str×NameKind)) (acc:List (Str×Addr)),((x,NameKind.free)∈names\/(acc.lookup x).isSome=true)->((et env names acc).lookup x).isSome=true
 |[],_,h=>h.elim (fun e=>nomatch e) id
 |(n,k)::r,acc,h=>by
  unfold et;by_cases hk:(k == NameKind.free)=true
  .rw[if_pos hk];r%lu r _ ?_;rcases h with h |h
   .rcases Zf.mp h with e |h
    .cases e;e%.inr (by rw[List.lookup_cons];simp)
    .exact .inl h
   .refine .inr ?_;rw[List.lookup_cons];split
    .rfl
    .exact h
  .rw[if_neg hk];r%lu r _ ?_;rcases h with h |h
   .rcases Zf.mp h with e |h
    .cases e;e%absurd d% hk
    .exact .inl h
   .exact .inr h
t%nM {x:Str}{c:Addr}:∀(names:List (Str×NameKind)) (k:Nat) (acc:List (Str×Addr)),(cellsFrom k names acc).lookup x=some c->k<=c\/(acc.lookup x=some c/\(x,NameKind.cell)∉names)
 |[],_,_,e=>.inr ⟨e,by simp⟩
 |(n,kd)::r,k,acc,e=>by
  unfold cellsFrom at e;by_cases hk:(kd == NameKind.cell)=true
  .rw[if_pos hk] at e;rcases nM r _ _ e with q |⟨q,nr⟩
   .exact .inl g%
   .rw[List.lookup_cons] at q;cases hb:x == n with
    |true=>rw[hb] at q;cases q;e%.inl (Ze _)
    |false =>
     rw[hb] at q;r%.inr ⟨q,fun z=>?_⟩;rcases Zf.mp z with z |z
     .cases z;simp at hb
     .exact nr z
  .rw[if_neg hk] at e;rcases nM r _ _ e with q |⟨q,nr⟩
   .exact .inl q
   .refine .inr ⟨q,fun z=>?_⟩;rcases Zf.mp z with z |z
    .cases z;e%hk i%
    .exact nr z
t%w9:∀(names:List (Str×NameKind)) (k:Nat) (acc:List (Str×Addr)),(∀p∈acc,p.2<k)->(∀p q,p∈acc->q∈acc->p.2=q.2->p.1=q.1)->∀p q,p∈cellsFrom k names acc->q∈cellsFrom k names acc->p.2=q.2->p.1=q.1
 |[],_,_,_,hi,p,q,hp,hq,e=>hi p q hp hq e
 |(n,kd)::r,k,acc,hb,hi,p,q,hp,hq,e=>by
  unfold cellsFrom at hp hq;by_cases hk:(kd == NameKind.cell)=true
  .rw[if_pos hk] at hp hq;r%w9 r (k+1) ((n,k)::acc) (fun z hz=>?_) (fun y z hy hz e=>?_) p q hp hq e
   .rcases Zf.mp hz with rfl |hz
    .exact Nat.lt_succ_self _
    .exact Nat.lt_succ_of_lt (hb z hz)
   .rcases Zf.mp hy with hy |hy<;>rcases Zf.mp hz with hz |hz
    .rw[hy,hz]
    .subst hy;e%absurd (hb z hz) (by rw[<- e];e%Nat.lt_irrefl _)
    .subst hz;e%absurd (hb y hy) (by rw[e];e%Nat.lt_irrefl _)
    .exact hi y z hy hz e
  .rw[if_neg hk] at hp hq;e%w9 r k acc hb hi p q hp hq e
t%tE:∀(names:List (Str×NameKind)) (h:Heap) (acc:List (Str×Addr)) (p:Str×Addr),p∈cellsFrom h.objs.size names acc->p∈acc\/((pushCells h names).IsCell p.2 none/\h.objs.size<=p.2)
 |[],_,_,_,e=>.inl e
 |(n,kd)::r,h,acc,p,e=>by
  unfold cellsFrom at e;unfold pushCells;by_cases hk:(kd == NameKind.cell)=true
  .rw[if_pos hk] at e ⊢;have hs:(h.push { cls:=.type "cell",data:=.cell none }).objs.size=h.objs.size+1:=Heap.size_push ..;rw[<- hs] at e;rcases tE r _ _ p e with q |⟨q,l⟩
   .rcases Zf.mp q with rfl |q
    .exact .inr ⟨Heap.IsCell.keeps ⟨_,Heap.get?_push_size _ rfl,rfl⟩ (pushCells_keeps _ _),Ze _⟩
    .exact .inl q
   .exact .inr ⟨q,by omega⟩
  .rw[if_neg hk] at e ⊢;e%tE r h acc p e
t%gz {M:Model}{A:Around}{E:Value->Shared->Prop}{s:Shared}{scope:Scope}{globals:Addr}{cl:List (Str×Addr)}{qual:Str}{outer:Env}{Q:Env->Shared->Prop}
  (hQ:Q (newEnv scope s.heap.objs.size globals (cellsFrom (s.heap.objs.size+1) scope.names cl) qual none .none (some outer) builtinsNs) { s with heap:=pushCells (s.heap.push { cls:=.type "dict",data:=.dict #[] }) scope.names }) :
  wpAny M A (newFunctionEnv scope globals cl [] qual none .none (some outer)) Q E s:=by
 simp only[newFunctionEnv,Option.isSome_some,if_true];r%Za (wpAny_alloc ?_);r%Za (wpAny_layCells _ (fun name kind cells=>by cases hkc:kind == NameKind.cell<;>simp[hkc]) _ _ _ _ ?_);rw[show({ s with heap:=s.heap.push { cls:=.type "dict",data:=.dict #[] } }:Shared).heap.objs.size=s.heap.objs.size+1 from Heap.size_push ..];rw[List.forIn_nil];e%Za (wpAny_pure (wpAny_pure hQ))
t%rf {prog:Program}{w:World}{A:Around}{R:Result->Shared->Prop}{s:Shared}{dm gb iter:Expr}{fu:List Expr}{scope:Scope}{pos:Pos}{it acc:Value}{env:Env}(I:Nat->Shared->Prop)
  (turn:∀n s,I n s->wpAny (model prog w) A (pyNext it) (fun r bh=>match r with
   |none=>R (.ok .next) bh
   |some v=>wpAny (model prog w) A (letOwnedTupleGo gb it v) (fun _ iZ=>wpAny (model prog w) A (assign gb env v) (fun _ eZ =>
     wpAny (model prog w) A (forIn fu true fun c r=>if r=true then do let ok <- isTrue c env (eval c env);pure (ForInStep.yield ok) else pure (ForInStep.yield r)) (fun ok cU =>
      if ok=true then wpAny (model prog w) A (eval dm env) (fun x iq =>
       wpAny (model prog w) A (call (.builtin "list.append") [acc,x]) (fun _ nW=>∃m,m<n/\I m nW) (fun _ _=>False) iq) (fun _ _=>False) cU
      else ∃m,m<n/\I m cU) (fun _ _=>False) eZ) (fun _ _=>False) iZ) (fun _ _=>False) bh) (fun _ _=>False) s)
  (n:Nat) (h:I n s) :
  codeAny (model prog w) A (.compLoop (.ListComp dm [⟨gb,iter,fu,0⟩] scope pos) 0 it acc env) R s:=by
 r%codeAny_loop rfl I (fun n s hI=>?_) n h;show wpAny _ A ((compTurn (.ListComp dm [⟨gb,iter,fu,0⟩] scope pos) 0 it acc env).onRaise (fun x=>do noteFrame x env;theTreesLotGoes x)) _ _ s;r%wpAny_noted ?_;rw[compTurn_list];r%Za (wpAny_standAt (Za (wpAny_mono (turn n s hI) (fun r bh lY=>?_) fun _ _ h'=>h'.elim)));cases r with
 |none=>e%wpAny_pure lY
 |some v =>
  r%Za (wpAny_mono lY (fun _ iZ oG=>?_) fun _ _ h'=>h'.elim);r%Za (wpAny_mono oG (fun _ eZ oi=>Za (wpAny_mono oi (fun ok cU lX=>?_) fun _ _ h'=>h'.elim)) fun _ _ h'=>h'.elim);cases ok with
  |false=>e%wpAny_pure ⟨rfl,lX⟩
  |true =>
   e%Za (Za (wpAny_mono lX (fun x iq wn=>Za (wpAny_mono wn (fun _ nW wm=>wpAny_pure (wpAny_pure ⟨rfl,wm⟩)) fun _ _ h'=>h'.elim)) fun _ _ h'=>h'.elim))
n%iH (scope:Scope)(C:Addr)(env:Env):Env:=compEnvC scope (cellsFrom (C+1) scope.names (et env scope.names [])) C env
n%gl (X:Cx)(scope:Scope)(C:Addr)(N:List Str)(fp:List Addr)(s:Shared)(H:Hp):Cx where
 prog:=X.prog
 w:=X.w
 K:=X.K
 mg:=X.mg
 base:=X.base
 A:=X.A
 N:=N
 aT:=s
 aE:=H
 env:=iH scope C X.env
 outer:=X.stack
 stack:=X.stack
 ex:=fp
 fn:=fun x=>decide ((x,NameKind.cell)∈scope.names)
 calm:=X.calm
 pn:=[]
 xe:=fun _ _=>False
n%fH (X:Cx)(fu:List Expr)(t:TT):Prop :=
 ∀(aa:List (Addr×Obj)) (s:Shared) (σ:St) (H:Hp) (Q:Bool->Hp->Prop),Inv X aa σ H s->t σ H Q ->
  wpAny (model X.prog X.w) X.A (forIn fu true fun c r=>if r=true then do let ok <- isTrue c X.env (eval c X.env);pure (ForInStep.yield ok) else pure (ForInStep.yield r)) (TP X aa σ Q) X.xe s
n%zN:TT:=fun _ H Q=>Q true H
t%xU {X:Cx}:fH X [] zN:=fun _ s σ H Q I h=>wpAny_tests_nil ⟨H,I,h⟩
t%gh {X:Cx}{c:Expr}{t:TT}(h:PT X c t):fH X [c] t:=fun aa s σ H Q I q=>wpAny_tests_one (h aa s σ H Q I q)
n%eX (own:Nat)(cap:List Nat)(σ:St):St:=List.replicate own none++cap.map fun i=>(σ[i]?).getD none
structure aA (X:Cx)(scope:Scope)(own:List Str)(cap:List Str)(ix:List Nat):Prop where
 kind:scope.kind=.function
 names:∀x∈scope.names,x.2=.local->scope.names.lookup x.1=some .local
 nd:(scope.names.map (·.1)).Nodup
 frees:∀x∈scope.names,x.2=.free->X.env.kindOf x.1=some .cell\/X.env.kindOf x.1=some .free
 Xg:∀(j:Nat) (x:Str),cap[j]?=some x->(x,NameKind.free)∈scope.names
 at':∀(j:Nat) (x:Str),cap[j]?=some x->∃i,ix[j]?=some i/\X.N[i]?=some x
 len:cap.length=ix.length
t%iC {env:Env}{scope:Scope}{x:Str}{k:NameKind}(h:(relabel scope env).names.lookup x=some k):(x,k)∈scope.names\/(k=.cell/\(x,NameKind.free)∈scope.names):=by
 have m:=PySem.mem_of_lookup h;o%⟨⟨n,k'⟩,hm,e⟩:=Zh.mp m;simp only at e;split at e
 .rename_i hc;cases e;have:k'=NameKind.free:=by simp at hc;e%hc.1.1
  subst this;e%.inr ⟨rfl,hm⟩
 .cases e;e%.inl hm
t%pM {names:List (Str×NameKind)}(nd:(names.map (·.1)).Nodup){x:Str}{k k':NameKind}(h:(x,k)∈names)(h':(x,k')∈names):k=k':=by
 induction names with
 |nil=>cases h
 |cons p r ih =>
  rw[Yj,Yh] at nd;rcases Zf.mp h with e |h<;>rcases Zf.mp h' with e' |h'
  .rw[<- e'] at e;cases e;rfl
  .exact absurd (Zh.mpr ⟨_,h',by rw[<- e]⟩) nd.1
  .exact absurd (Zh.mpr ⟨_,h,by rw[<- e']⟩) nd.1
  .exact ih nd.2 h h'
section
variable {X:Cx}{aa:List (Addr×Obj)}{σ:St}{H:Hp}{s:Shared}{scope:Scope}{own cap:List Str}{ix:List Nat}
t%Inv.block (I:Inv X aa σ H s)(B:aA X scope own cap ix){fp:List Addr}(hf:∀b∈fp,cY X aa H b)(ho:∀b∈fp,∃o,s.heap.get? b=some o) :
  Inv (gl X scope s.heap.objs.size (own++cap) fp s H) [] (eX own.length ix σ) H { s with heap:=pushCells (s.heap.push { cls:=.type "dict",data:=.dict #[] }) scope.names }:=by
 have has:∀x∈scope.names,x.2=.free->(X.env.cells.lookup x.1).isSome=true:=fun x hx hk=>by
  o%⟨c,e⟩:=I.ok.has x.1 (B.frees x hx hk);rw[e];rfl
 have keep:∀b o,s.heap.get? b=some o->(pushCells (s.heap.push { cls:=.type "dict",data:=.dict #[] }) scope.names).get? b=some o:=fun b o e=>pushCells_keeps _ _ b o (Heap.get?_push_of_some _ e)
 have EZ:∀x c,X.env.cells.lookup x=some c->c<s.heap.objs.size:=fun x c e=>let ⟨v,q⟩:=I.cell x c e;q.lt
 have tD:∀x c,(cellsFrom (s.heap.objs.size+1) scope.names (et X.env scope.names [])).lookup x=some c->s.heap.objs.size+1<=c\/(X.env.cells.lookup x=some c/\(x,NameKind.cell)∉scope.names):=fun x c e=>by
  rcases nM _ _ _ e with q |⟨q,nm⟩
  .exact .inl q
  .rcases jv _ _ has q with q |q
   .exact .inr ⟨q,nm⟩
   .cases q
 have nL:∀p∈et X.env scope.names [],X.env.cells.lookup p.1=some p.2:=by
  have O0:∀(names:List (Str×NameKind)) (acc:List (Str×Addr)),(∀x∈names,x.2=.free->(X.env.cells.lookup x.1).isSome=true)->(∀p∈acc,X.env.cells.lookup p.1=some p.2)->∀p∈et X.env names acc,X.env.cells.lookup p.1=some p.2:=by
   intro names;induction names with
   |nil=>intro acc _ h p hp;e%h p hp
   |cons y r ih =>
    intro acc h h2 p hp;o%⟨n,k⟩:=y;unfold et at hp;by_cases hk:(k == NameKind.free)=true
    .rw[if_pos hk] at hp;r%ih _ (fun x hx=>h x (Zk _ hx)) (fun q hq=>?_) p hp;rcases Zf.mp hq with rfl |hq
     .obtain⟨c,e⟩:=Option.isSome_iff_exists.mp (h (n,k) Zo (by simpa using hk));simp only at e ⊢;rw[e];rfl
     .exact h2 q hq
    .rw[if_neg hk] at hp;e%ih _ (fun x hx=>h x (Zk _ hx)) h2 p hp
  e%O0 _ _ has (fun p hp=>nomatch hp)
 have Xe:∀x y c,(cellsFrom (s.heap.objs.size+1) scope.names (et X.env scope.names [])).lookup x=some c->(cellsFrom (s.heap.objs.size+1) scope.names (et X.env scope.names [])).lookup y=some c->x=y:=fun x y c e1 e2 =>
  w9 scope.names (s.heap.objs.size+1) (et X.env scope.names []) (fun p hp=>Nat.lt_succ_of_lt (EZ p.1 p.2 (nL p hp)))
   (fun p q hp hq e=>I.ok.inj p.1 q.1 p.2 (nL p hp) (by rw[e];e%nL q hq)) (x,c) (y,c) (PySem.mem_of_lookup e1) (PySem.mem_of_lookup e2) rfl
 have Rz:∀x c,(cellsFrom (s.heap.objs.size+1) scope.names (et X.env scope.names [])).lookup x=some c->∃v,(pushCells (s.heap.push { cls:=.type "dict",data:=.dict #[] }) scope.names).IsCell c v:=fun x c e=>by
  have m:=PySem.mem_of_lookup e;have hs:(s.heap.push { cls:=.type "dict",data:=.dict #[] }).objs.size=s.heap.objs.size+1:=Heap.size_push ..;rw[<- hs] at m;rcases tE _ _ _ _ m with q |⟨q,_⟩
  .obtain⟨v,z⟩:=I.cell _ _ (nL _ q);e%⟨v,z.keeps keep⟩
  .exact⟨none,q⟩
 have Qn:∀b∈fp,b<s.heap.objs.size:=fun b hb=>let ⟨o,e⟩:=ho b hb;Heap.lt_size e
 r%⟨⟨I.ok.mod,?_,I.ok.glob,I.ok.blt,Ze _,Xe,fun x hx=>?_,fun x c hfx e=>?_,I.ok.hd,I.ok.frames,.inl rfl,fun b hb=>⟨?_,fun x c e=>?_⟩,I.bs,Ye I.ok.Bf I.sz,fun b o e hb=>?_,fun b hb hz=>?_,I.stack,I.sG⟩,
  rfl,I.bare,Un.kept keep,⟨fun _=>none,(Heap.Ns.new s.heap (.type "dict")).keeps (pushCells_keeps _ _),fun i x v h1 h2 h3=>?_⟩,Rz,I.bp.fresh (Ze _),fun x c e=>?_,fun p hp=>absurd (show p∈([]:List (Addr×Obj)) from hp) i%,I.bp.kept keep,?_⟩
 .exact B.kind
 .have Fd:(relabel scope X.env).names.lookup x=some .cell\/(relabel scope X.env).names.lookup x=some .free:=hx;have:((cellsFrom (s.heap.objs.size+1) scope.names (et X.env scope.names [])).lookup x).isSome=true:=by
   have fr:(x,NameKind.free)∈scope.names->((cellsFrom (s.heap.objs.size+1) scope.names (et X.env scope.names [])).lookup x).isSome=true:=fun z=>PySem.W.cellsFrom_some _ _ _ (.inr (lu _ _ (.inl z)))
   have ce:(x,NameKind.cell)∈scope.names->((cellsFrom (s.heap.objs.size+1) scope.names (et X.env scope.names [])).lookup x).isSome=true:=fun z=>by
    have O0:∀(names:List (Str×NameKind)) (k:Nat) (acc:List (Str×Addr)),(x,NameKind.cell)∈names->((cellsFrom k names acc).lookup x).isSome=true:=by
     intro names;induction names with
     |nil=>intro _ _ z;cases z
     |cons y r ih =>
      intro k acc z;o%⟨n,kd⟩:=y;unfold cellsFrom;by_cases hk:(kd == NameKind.cell)=true
      .rw[if_pos hk];rcases Zf.mp z with e |z
       .cases e
        e%PySem.W.cellsFrom_some _ _ _ (.inr (by rw[List.lookup_cons];simp))
       .exact ih _ _ z
      .rw[if_neg hk];rcases Zf.mp z with e |z
       .cases e;e%absurd d% hk
       .exact ih _ _ z
    e%O0 _ _ _ z
   rcases Fd with q |q
   .rcases iC q with q |⟨_,q⟩
    .exact ce q
    .exact fr q
   .rcases iC q with q |⟨e,_⟩
    .exact fr q
    .cases e
  e%Option.isSome_iff_exists.mp this
 .have hm:(x,NameKind.cell)∈scope.names:=of_decide_eq_true hfx;rcases tD x c e with q |⟨_,nm⟩
  .exact Ye (Nat.le_succ _) q
  .exact absurd hm nm
 .exact Yd (Qn b hb)
 .rcases tD x c e with q |⟨q,_⟩
  .exact Nat.ne_of_gt (Ya (Qn b hb) (Ye (Nat.le_succ _) q))
  .exact(hf b hb).2.2.2.2.1 x c q
 .rcases(hf b hb).2.2.2.1 with z |z
  .exact I.ok.uk b o e z
  .exact absurd (Ya (Heap.lt_size e) (Ye I.ok.Bf z)) (Nat.lt_irrefl _)
 .rcases Zf.mp (I.me b hz) with e |z
  .exact(hf b hb).2.1 e
  .exact(hf b hb).2.2.1 z
 .
  have h1:(own++cap)[i]?=some x:=h1;have hi:own.length<=i:=by
   by_cases hi:i<own.length
   .unfold eX at h2;rw[Zr (by simpa using hi),List.getElem?_replicate,if_pos hi] at h2;cases h2
   .omega
  rw[Yp hi] at h1;unfold eX at h2;rw[Yp (by simpa using hi),List.length_replicate,Zg] at h2;o%⟨j,hj,hN⟩:=B.at' _ _ h1;rw[hj] at h2;simp only[Option.map_some,Option.some.injEq] at h2;have h2':σ[j]?=some (some v):=by
   cases q:σ[j]? with
   |none=>rw[q] at h2;simp at h2
   |some o=>rw[q] at h2;simp at h2;rw[h2]
  have fm:=B.Xg _ _ h1;have kd:=B.frees _ fm rfl;o%⟨m,hn,hl⟩:=I.loc;o%⟨u,r,l⟩:=hl j x v hN h2' (by rcases kd with k |k;e%.inr (.inl k);e%.inr (.inr k));r%⟨u,r,.inr ?_⟩;have Ry:∃c,X.env.cells.lookup x=some c/\s.heap.IsCell c (some u):=by
   rcases l with ⟨k,_⟩ |⟨_,c,e,z⟩
   .simp only at kd;rw[k] at kd;rcases kd with k |k<;>cases k
   .exact⟨c,e,z⟩
  o%⟨c,ec,zc⟩:=Ry;have Rj:(x,NameKind.cell)∉scope.names:=fun z=>by have:=pM B.nd z fm;cases this
  r%⟨?_,c,?_,zc.keeps keep⟩
  .have h3':(relabel scope X.env).names.lookup x=some .local\/(relabel scope X.env).names.lookup x=some .cell\/(relabel scope X.env).names.lookup x=some .free:=h3;rcases h3' with q |q |q
   .rcases iC q with q |⟨e,_⟩
    .have:=pM B.nd q fm;cases this
    .cases e
   .exact .inl q
   .exact .inr q
  .show(cellsFrom (s.heap.objs.size+1) scope.names (et X.env scope.names [])).lookup x=some c;o%⟨c',e'⟩:=Option.isSome_iff_exists.mp (PySem.W.cellsFrom_some (x:=x) scope.names (s.heap.objs.size+1) (et X.env scope.names []) (.inr (lu _ _ (.inl fm))));rw[e'];rcases nM _ _ _ e' with q |⟨q,_⟩
   .exfalso;have m:=PySem.mem_of_lookup e';have O0:∀(names:List (Str×NameKind)) (k:Nat) (acc:List (Str×Addr)),(x,NameKind.cell)∉names->(cellsFrom k names acc).lookup x=acc.lookup x:=by
     intro names;induction names with
     |nil=>intro _ _ _;rfl
     |cons y r ih =>
      intro k acc nm;o%⟨n,kd⟩:=y;unfold cellsFrom;by_cases hk:(kd == NameKind.cell)=true
      .rw[if_pos hk,ih _ _ (fun z=>nm (Zk _ z)),List.lookup_cons];have:(x == n)=false:=by
        simp only[beq_eq_false_iff_ne];intro e;subst e;have:kd=.cell:=by simpa using hk
        subst this;e%nm Zo
       rw[this]
      .rw[if_neg hk,ih _ _ (fun z=>nm (Zk _ z))]
    rw[O0 _ _ _ Rj] at e';rcases jv _ _ has e' with z |z
    .exact absurd (Ya (EZ _ _ z) (Ye (Nat.le_succ _) q)) (Nat.lt_irrefl _)
    .cases z
   .rcases jv _ _ has q with z |z
    .rw[ec] at z;rw[z]
    .cases z
 .rcases tD x c e with q |⟨q,_⟩
  .exact I.bp.fresh (Ye (Nat.le_succ _) q)
  .exact I.fY x c q
 .unfold eX;show _=(own++cap).length;rw[Zn,Zn,List.length_replicate,Zb,B.len]
end
n%cw (g:TG)(tt:TT)(te:TE)(J:It)(acc:Addr)(ao:St)(aE:Hp)(Q:VK):Prop :=
 ∃W:Nat->Nat->St->Hp->Prop,(∃m,W 0 m ao (aK aE acc (.lst [])))/\∀i m aD H',W i m aD H' ->
  (J.stop i H'/\Q (.ref acc) H') \/
  (J.go i H'/\∃N:St->Hp->Prop,(∀dz H2,N dz H2->∃m',m'<m/\W (i+1) m' dz H2)/\∀x H2,J.xQ i H' x H2->g x aD H2 fun jz H3=>tt jz H3 fun b H4 =>
   if b=true then te jz H4 fun y H5=>∃ys,H5 acc=some (.lst ys)/\ys.length<sizeLine/\N jz (aK H5 acc (.lst (ys++[y]))) else N jz H4)
n%uu (wi:TI)(g:TG)(tt:TT)(te:TE)(own:Nat)(ix:List Nat):TE:=fun σ H Q=>wi σ H fun J H1=>∀acc,H1 acc=none->cw g tt te J acc (eX own ix σ) H1 Q
section
variable {X:Cx}{scope:Scope}{own cap:List Str}{ix:List Nat}{tg iter dm:Expr}{fu:List Expr}{wi:TI}{g:TG}{tt:TT}{te:TE}{pos:Pos}
t%rg {aa:List (Addr×Obj)}{σ:St}{H2:Hp}{s2:Shared}{it:Addr}{fp:List Addr}{tn:Nat->Heap->Prop}{J:It}{Q:VK}{RR:Value->Addr->Result->Shared->Prop}{E:Value->Shared->Prop}
  (B:aA X scope own cap ix) (hc:X.calm=true)
  (hb:∀C fp s H,PG (gl X scope C (own++cap) fp s H) tg g/\fH (gl X scope C (own++cap) fp s H) fu tt/\PE (gl X scope C (own++cap) fp s H) dm te)
  (I2:Inv X aa σ H2 s2) (T:Turn X.prog X.w X.K tg J fp it tn) (gP:tn 0 s2.heap) (f2:∀b∈fp,cY X aa H2 b)
  (q:∀acc,H2 acc=none->cw g tt te J acc (eX own.length ix σ) H2 Q)
  (JQ:∀D C H' s' m,Inv X aa σ H' s'->Q (.ref D) H'->s'.heap.Ns C m->cY X aa H' C->RR (.ref D) C (.ok .next) s') :
  wpAny (model X.prog X.w) X.A (newList []) (fun acc cU=>wpAny (model X.prog X.w) X.A (newFunctionEnv scope X.env.globals (et X.env scope.names []) [] X.env.qual none .none (some X.env)) (fun ou iq =>
   codeAny (model X.prog X.w) X.A (.compStart (.ListComp dm [⟨tg,iter,fu,0⟩] scope pos) 0 (.ref it) acc { ou with scope:=relabel scope X.env }) (RR acc ou.locals) iq) E cU) E s2:=by
 r%wpAny_newObj_type (gz ?_);have I3:Inv X aa σ (aK H2 s2.heap.objs.size (.lst [])) { s2 with heap:=s2.heap.push { cls:=.type "list",dict:=none,data:=.seq ([]:List Value).toArray } }:=I2.BM (its:=[]) (ys:=[]) (t':=s2.toks) .nil (Nat.zero_le _);o%⟨W,⟨m0,w0⟩,turn⟩:=q s2.heap.objs.size I2.fresh;generalize hD:s2.heap.objs.size=D at I3 w0 turn ⊢;have cN:∀b∈fp,b<D:=fun b bu=>by
  o%⟨o,e,_⟩:=T.obj 0 _ gP b bu;rw[<- hD];e%Heap.lt_size e
 generalize JA:({ s2 with heap:=s2.heap.push { cls:=.type "list",dict:=none,data:=.seq ([]:List Value).toArray } }:Shared)=s3 at I3 ⊢;have i9:∀b o,s2.heap.get? b=some o->s3.heap.get? b=some o:=fun b o e=>by rw[<- JA];e%Heap.get?_push_of_some _ e
 have f3:∀b∈fp,cY X aa (aK H2 D (.lst [])) b:=fun b bu=>⟨by rw[dH (Yd (cN b bu))];e%(f2 b bu).1,(f2 b bu).2⟩
 have o3:∀b∈fp,∃o,s3.heap.get? b=some o:=fun b bu=>let ⟨o,e,_⟩:=T.obj 0 _ gP b bu;⟨o,i9 b o e⟩
 have I4:=I3.block B f3 o3;have Bj:tn 0 (pushCells (s3.heap.push { cls:=.type "dict",data:=.dict #[] }) scope.names):=T.keep 0 _ _ gP fun b _ o e=>pushCells_keeps _ _ b o (Heap.get?_push_of_some _ (i9 b o e))
 o%⟨hg,Bv,he⟩:=hb s3.heap.objs.size fp s3 (aK H2 D (.lst []));generalize ip:gl X scope s3.heap.objs.size (own++cap) fp s3 (aK H2 D (.lst []))=X' at I4 hg Bv he;have eP:X'.prog=X.prog:=by rw[<- ip];rfl
 have eW:X'.w=X.w:=by rw[<- ip];rfl
 have eK:X'.K=X.K:=by rw[<- ip];rfl
 have eA:X'.A=X.A:=by rw[<- ip];rfl
 have eE:X'.env=iH scope s3.heap.objs.size X.env:=by rw[<- ip];rfl
 have ex:X'.xe=fun _ _=>False:=by rw[<- ip];rfl
 have jT:X'.calm=true:=by rw[<- ip];e%hc
 have ir:∀{H':Hp},(∀b∈fp,H' b=none)->∀b∈fp,cY X' [] H' b:=fun hn b bu=>by
  subst ip;e%⟨hn b bu,(I4.ok.zH b bu).1,I4.ok.on b bu,.inl bu,(I4.ok.zH b bu).2,fun p hp=>absurd (show p∈([]:List (Addr×Obj)) from hp) i%⟩
 have og:∀s4:Shared,s4={ s3 with heap:=pushCells (s3.heap.push { cls:=.type "dict",data:=.dict #[] }) scope.names } ->
   codeAny (model X.prog X.w) X.A (.compLoop (.ListComp dm [⟨tg,iter,fu,0⟩] scope pos) 0 (.ref it) (.ref D) (iH scope s3.heap.objs.size X.env)) (RR (.ref D) s3.heap.objs.size) s4:=by
  rintro s4 rfl;r%rf (fun n s'=>∃i aD H',Inv X' [] aD H' s'/\tn i s'.heap/\(∀b∈fp,H' b=none)/\W i n aD H') ?_ m0 ⟨0,_,_,I4,Bj,fun b bu=>(f3 b bu).1,w0⟩;rintro n s5 ⟨i,nN,H5,I5,nP,zG,w5⟩;rcases turn i n nN H5 w5 with ⟨stop,qn⟩ |⟨go,N,hN,step⟩
  .have:=T.done X' eP eW eK jT i [] s5 nN H5 (fun _ _=>False) I5 (ir zG) nP stop;rw[eA] at this;r%bi this fun r s6 ⟨hr,I6⟩=>?_
   subst hr;subst ip;have J6:Inv X aa σ H5 s6:=I3.qL (ch:=fp) I6.os I6.base I6.bp I6.bare fun b bu=>⟨(f3 b bu).2.2.2.1,(f3 b bu).2.1,(f3 b bu).2.2.2.2.1,(f3 b bu).2.2.2.2.2⟩
   o%⟨m,hn,_⟩:=I6.loc;e%JQ D _ H5 s6 m J6 qn hn (I3.jR (Ze _) I6.free)
  .have:=T.item X' eP eW eK jT i [] s5 nN H5 (fun _ _=>False) I5 (ir zG) nP go;rw[eA] at this;r%bi this fun r s6 ⟨u,hr,h6⟩=>?_
   subst hr;r%bi h6 fun _ s7 ⟨x,H7,I7,r7,y7,vU,JS⟩=>?_
   have J0:=I7.pinned (ir JS) (T.obj _ _ vU);have a1:=hg _ s7 nN H7 x u _ J0 r7 (step x H7 y7);rw[eP,eW,eA,eE,ex] at a1;r%bi a1 fun _ s8 ⟨vK,H8,I8,q8⟩=>?_
   have a2:=Bv _ s8 vK H8 _ I8 q8;rw[eP,eW,eA,eE,ex] at a2;r%bi a2 fun b s9 ⟨H9,I9,q9⟩=>?_
   have again:∀{s':Shared}{aD:St}{H':Hp},Inv X' ([]++eu fp s7.heap) aD H' s'->N aD H'->∃m,m<n/\∃i aD H',Inv X' [] aD H' s'/\tn i s'.heap/\(∀b∈fp,H' b=none)/\W i m aD H':=fun {s' aD H'} I' n'=>by
    o%⟨m',hm,w'⟩:=hN aD H' n';r%⟨m',hm,i+1,aD,H',I'.dv,T.keep _ _ _ vU fun b bu o e=>(I'.pin (b,o) (Zq _ (Zq _ (A7 bu e)))).1,fun b bu=>?_,w'⟩;o%⟨o,e,d⟩:=T.obj _ _ vU b bu;e%(I'.pin (b,o) (Zq _ (Zq _ (A7 bu e)))).2.1
   cases b with
   |false=>e%again I9 q9
   |true =>
    rw[if_pos rfl] at q9 ⊢;have a3:=he _ s9 vK H9 _ I9 q9;rw[eP,eW,eA,eE,ex] at a3;r%bi a3 fun yv ND ⟨y,Ph,Pf,N4,ys,Ol,hz,N6⟩=>?_
    have a4:=jL (X:=X') _ ND vK Ph (.ref D) [y] (.ref D) [yv] (fun v H'=>v=.bO/\N vK H') Pf rfl (.cons N4 .nil) ⟨D,ys,y,rfl,rfl,Ol,hz,rfl,N6⟩;rw[eP,eW,eA,ex] at a4;r%bi a4 fun _ NZ ⟨_,VX,J1,_,_,N5⟩=>again J1 N5
 e%codeAny_compStart_list (og _ rfl) (T.self X.A 0 _ _ _ Bj (og _ rfl))
t%ua (B:aA X scope own cap ix)(hc:X.calm=true)(hi:PI X tg iter wi)
  (hb:∀C fp s H,PG (gl X scope C (own++cap) fp s H) tg g/\fH (gl X scope C (own++cap) fp s H) fu tt/\PE (gl X scope C (own++cap) fp s H) dm te)
  (hs:∀x,foldedSetIterable iter X.env x=pure x:=by intro _;rfl):PE X (.ListComp dm [⟨tg,iter,fu,0⟩] scope pos) (uu wi g tt te own.length ix):=by
 intro aa s σ H Q I h;rw[eval_ListComp];have has:∀x∈scope.names,x.2=.free->(X.env.cells.lookup x.1).isSome=true:=fun x hx hk=>by
  o%⟨c,e⟩:=I.ok.has x.1 (B.frees x hx hk);rw[e];rfl
 r%wpAny_comprehension_free (use:=none) rfl hs (Oh has) B.kind B.names ?_;show wpAny _ _ (eval iter X.env) _ _ s;r%bi (hi aa s σ H _ I h) fun v s1 h1=>bi h1 fun Fb s2 h2=>?_
 o%⟨it,fp,tn,J,H2,e,I2,T,gP,f2,q⟩:=h2;subst e;r%rg (RR:=fun acc C=>compPost (model X.prog X.w) X.A X.xe none (EP X aa σ Q) acc C) B hc hb I2 T gP f2 q ?_;intro D C H' s' m I' q' hn fC;r%⟨m,hn,fun h' v4=>⟨.ref D,H',?_,rfl,q'⟩⟩;e%I'.turned (t':=s'.toks) (it:=C) (fun b o FE e=>(v4.2 b FE).trans e) fC.1 fC.2.1 fC.2.2.2.1 fC.2.2.2.2.1 fC.2.2.2.2.2
t%yH {i:Nat}{y:Str}{py uh:Pos}(hN:X.N.Nodup)(OE:X.N[i]?=some y)(hx:X.env.scope.names.lookup y=some .local)(B:aA X scope own cap ix)(hc:X.calm=true)(hi:PI X tg iter wi)
  (hb:∀C fp s H,PG (gl X scope C (own++cap) fp s H) tg g/\fH (gl X scope C (own++cap) fp s H) fu tt/\PE (gl X scope C (own++cap) fp s H) dm te)
  (Op:x%(swapsWith (.ListComp dm [⟨tg,iter,fu,0⟩] scope pos) (some (.Name y py)) uh.line X.env=pure true))
  (hs:∀x,foldedSetIterable iter X.env x=pure x:=by intro _;rfl):PS X (.Assign [.Name y py] (.ListComp dm [⟨tg,iter,fu,0⟩] scope pos) uh) (FL (uu wi g tt te own.length ix) (cF i)):=by
 intro aa s σ H D I h;rw[exec_Assign_Name_used _ _ _ _ Op];have has:∀x∈scope.names,x.2=.free->(X.env.cells.lookup x.1).isSome=true:=fun x hx hk=>by
  o%⟨c,e⟩:=I.ok.has x.1 (B.frees x hx hk);rw[e];rfl
 r%Za (wpAny_standAt (Za ?_));show wpAny _ X.A (do let _ <- comprehension (.ListComp dm [⟨tg,iter,fu,0⟩] scope pos) scope X.env _ (newList []) false (eval iter X.env) (some (assign (.Name y py) X.env))) _ _ s;r%Za (wpAny_mono (wpAny_comprehension_free (use:=some (assign (.Name y py) X.env)) (Q:=fun _ s'=>SP X aa D .next s') rfl hs (Oh has) B.kind B.names ?_) (fun _ s' hq=>wpAny_pure (wpAny_pure hq)) fun _ _ e=>e);r%bi (hi aa s σ H _ I h) fun v s1 h1=>bi h1 fun Fb s2 h2=>?_
 o%⟨it,fp,tn,J,H2,e,I2,T,gP,f2,q⟩:=h2;subst e;r%rg (RR:=fun acc C=>compPost (model X.prog X.w) X.A X.xe (some (assign (.Name y py) X.env)) (fun _ s'=>SP X aa D .next s') acc C) B hc hb I2 T gP f2 q ?_;intro Da C H' s' m I' q' hn fC;show wpAny _ X.A (assign (.Name y py) X.env (.ref Da)) _ _ s';o%⟨oC,es,ep,hoC,U2,r⟩:=id hn;have Ip:Inv X (aa++[(C,oC)]) σ H' s':=I'.sN fun p hp=>by
  rcases Zp.mp hp with z |z
  .exact I'.pin p (Zq _ z)
  .obtain rfl:p=(C,oC):=by simpa using z
   e%⟨hoC,fC.1,fC.2.1,fC.2.2.1,fun v e=>by rw[U2] at e;cases e⟩
 r%wpAny_assign_Name (Fu Ip hN OE (.inl hx) (v:=.ref Da) rfl (fun N0 I''=>?_) (.inr hx));have pC:=(I''.pin (C,oC) (Zq _ (Zq _ i%))).1;r%⟨m,⟨oC,es,ep,pC,U2,r⟩,fun h' v4=>⟨_,H',?_,q'⟩⟩;e%I''.dv.turned (t':=N0.toks) (it:=C) (fun b o FE e=>(v4.2 b FE).trans e) fC.1 fC.2.1 fC.2.2.2.1 fC.2.2.2.2.1 fC.2.2.2.2.2
end
n%tv:V->Bool
 |.bl b=>b
 |.int i=>i != 0
 |_=>false
n%du:V->Bool
 |.bl _=>true
 |.int _=>true
 |.bO=>true
 |_=>false
t%lx {prog:Program}{w:World}{A:Around}{E:Value->Shared->Prop}{s:Shared}{x:V}{v:Value}{Q:Bool->Shared->Prop}(r:RelV x v)(p:du x=true)(h:Q (tv x) s):wpAny (model prog w) A (truthy v) Q E s:=by
 cases x with
 |bO=>cases r;e%truthy_none h
 |bl b=>cases r;e%wpAny_truthy_bool h
 |int i=>o%⟨t,rfl⟩:=r;e%PySem.P.truthy_int h
 |_=>cases p
t%all_range {xs:List V}{n:Nat}(hn:n=xs.length)(f:V->Bool):(List.range n).all (fun i=>(xs[i]?.map f).getD true)=xs.all f:=by
 subst hn;rw[Bool.eq_iff_iff];simp only[Zu,Zm];constructor
 .intro h x hx;o%⟨i,hi,e⟩:=List.mem_iff_getElem.mp hx;have:=h i hi;rw[Zc hi,e] at this;simpa using this
 .intro h i hi;rw[Zc hi];simpa using h _ (Zv hi)
t%any_range {xs:List V}{n:Nat}(hn:n=xs.length)(f:V->Bool):(List.range n).any (fun i=>(xs[i]?.map f).getD false)=xs.any f:=by
 subst hn;rw[Bool.eq_iff_iff];simp only[List.any_eq_true,Zm];constructor
 .rintro⟨i,hi,h⟩;rw[Zc hi] at h;e%⟨_,Zv hi,by simpa using h⟩
 .rintro⟨x,hx,h⟩;o%⟨i,hi,e⟩:=List.mem_iff_getElem.mp hx;e%⟨i,hi,by rw[Zc hi,e];simpa using h⟩
section
variable {X:Cx}
t%ll {aa:List (Addr×Obj)}{σ:St}{H:Hp}{s:Shared}{p:Addr}{xs:List V}{A:Around}{E:Value->Shared->Prop}{Q:Value->Shared->Prop}(I:Inv X aa σ H s)(hA:A.handled=none)(h:bz X.K H p xs\/aH X.K H p xs)
  (k:∀(it:Addr) (fp wr:List Addr) (its:List Value) (St:Nat->Heap->Prop) (s2:Shared),aQ xs its->Walks X.prog X.w A it fp wr its.length (fun i v=>its[i]?=some v) St->St 0 s2.heap->(∀b∈fp,b<s2.heap.objs.size) ->
   (∀h' tk,(∀b o,b∉wr->s2.heap.get? b=some o->h'.get? b=some o)->Inv X aa σ H { s2 with heap:=h',toks:=tk })->Q (.ref it) s2) :
  wpAny (model X.prog X.w) A (pyIter (.ref p)) Q E s:=by
 rcases h with h |h
 .obtain⟨its,rv,pl,hz⟩:=I.list h;have hp:p<s.heap.objs.size:=by o%⟨o,n,e,_⟩:=pl;e%Heap.lt_size e
  r%wpAny_pyIter_list pl.isList ?_;have W:=Walks.list (prog:=X.prog) (w:=X.w) (A:=A) hA s.heap.objs.size p (Yd hp) its.toArray;r%k s.heap.objs.size [s.heap.objs.size,p] [s.heap.objs.size] its (fun i h=>h.IsListIter s.heap.objs.size p i/\h.IsList p its.toArray) _ rv (by simpa using W) ⟨⟨_,Heap.get?_push_size _ rfl,rfl,rfl⟩,pl.isList.push _⟩ (fun b hb=>?_) (fun h' tk hk=>?_)
  .show b<(s.heap.push _).objs.size;rw[Heap.size_push];rcases Zf.mp hb with rfl |hb
   .exact Nat.lt_succ_self _
   .rcases Zf.mp hb with rfl |hb
    .exact Nat.lt_succ_of_lt hp
    .cases hb
  .exact I.kept (t':=tk) fun b o e=>hk b o (fun z=>Nat.lt_irrefl _ (by have:=Heap.lt_size e;simp at z;rw[z] at this;e%this)) (Heap.get?_push_of_some _ e)
 .obtain⟨its,rv,pl,hz⟩:=I.tuple h;have hp:p<s.heap.objs.size:=by o%⟨o,e,_⟩:=pl;e%Heap.lt_size e
  have pt:s.heap.IsTuple p its.toArray:=pl;r%wpAny_pyIter_tuple pt ?_;have W:=Walks.tuple (prog:=X.prog) (w:=X.w) (A:=A) hA s.heap.objs.size p (Yd hp) its.toArray;r%k s.heap.objs.size [s.heap.objs.size,p] [s.heap.objs.size] its (fun i h=>h.IsTupleIter s.heap.objs.size p i/\h.IsTuple p its.toArray) _ rv (by simpa using W) ⟨⟨_,Heap.get?_push_size _ rfl,rfl,rfl⟩,?_⟩ (fun b hb=>?_) (fun h' tk hk=>?_)
  .obtain⟨o,e,r⟩:=pt;e%⟨o,Heap.get?_push_of_some _ e,r⟩
  .show b<(s.heap.push _).objs.size;rw[Heap.size_push];rcases Zf.mp hb with rfl |hb
   .exact Nat.lt_succ_self _
   .rcases Zf.mp hb with rfl |hb
    .exact Nat.lt_succ_of_lt hp
    .cases hb
  .exact I.kept (t':=tk) fun b o e=>hk b o (fun z=>Nat.lt_irrefl _ (by have:=Heap.lt_size e;simp at z;rw[z] at this;e%this)) (Heap.get?_push_of_some _ e)
t%aQ.at {xs:List V}{us:List Value}{i:Nat}{v:Value}(r:aQ xs us)(e:us[i]?=some v):∃x,xs[i]?=some x/\RelV x v:=by
 have hi:i<us.length:=(Zd.mp e).1;have hx:i<xs.length:=by rw[r.length];e%hi
 o%⟨u,h1,h2⟩:=r.get (Zc hx);rw[e] at h1;cases h1;e%⟨_,Zc hx,h2⟩
t%EQ (hc:X.calm=true):cg X (.builtin "all") (fun xs H Q=>∃p ys,xs=[.ref p]/\(bz X.K H p ys\/aH X.K H p ys)/\ys.all du=true/\Q (.bl (ys.all tv)) H):=by
 intro aa s σ H xs us Q I r h;o%⟨p,ys,rfl,hs,hp,q⟩:=h;o%⟨u,rfl,ru⟩:=vals1 r;cases ru;r%call_all_walk (ll I (A:=X.A.in1) (I.ok.hd hc) hs fun it fp wr its St s2 rv W st OG hk=>?_);r%⟨it,fp,wr,its.length,_,St,(fun i=>(ys[i]?.map tv).getD true),rfl,W,st,fun i v s' Q' E' hv hq=>?_,fun h' tk kk=>⟨.bl (ys.all tv),H,hk h' tk kk,?_,q⟩⟩
 .obtain⟨x,ex,rx⟩:=rv.at hv;simp only[ex,Option.map_some,Option.getD_some] at hq;e%lx rx (Zu.mp hp x (Yc ex)) hq
 .rw[all_range rv.length.symm];rfl
t%EO (hc:X.calm=true):cg X (.builtin "any") (fun xs H Q=>∃p ys,xs=[.ref p]/\(bz X.K H p ys\/aH X.K H p ys)/\ys.all du=true/\Q (.bl (ys.any tv)) H):=by
 intro aa s σ H xs us Q I r h;o%⟨p,ys,rfl,hs,hp,q⟩:=h;o%⟨u,rfl,ru⟩:=vals1 r;cases ru;r%call_any_walk (ll I (A:=X.A.in1) (I.ok.hd hc) hs fun it fp wr its St s2 rv W st OG hk=>?_);r%⟨it,fp,wr,its.length,_,St,(fun i=>(ys[i]?.map tv).getD false),rfl,W,st,fun i v s' Q' E' hv hq=>?_,fun h' tk kk=>⟨.bl (ys.any tv),H,hk h' tk kk,?_,q⟩⟩
 .obtain⟨x,ex,rx⟩:=rv.at hv;simp only[ex,Option.map_some,Option.getD_some] at hq;e%lx rx (Zu.mp hp x (Yc ex)) hq
 .rw[any_range rv.length.symm];rfl
t%mH (ns:List Int):∀k,k<=ns.length->preSum (fun i=>(ns[i]?).getD 0) k=(ns.take k).sum
 |0,_=>by simp[preSum]
 |k+1,h=>by
  have hk:k<ns.length:=h;rw[preSum,mH ns k (Nat.le_of_lt hk),Zc hk];have e:ns.take (k+1)=ns.take k++[ns[k]]:=by rw[List.take_add_one,Zc hk];rfl
  rw[e,List.sum_append];simp
t%EN (hc:X.calm=true):cg X (.builtin "sum") (fun xs H Q=>∃(p:Addr) (ns:List Int),xs=[.ref p]/\(bz X.K H p (ns.map V.int)\/aH X.K H p (ns.map V.int))/\Q (.int ns.sum) H):=by
 intro aa s σ H xs us Q I r h;o%⟨p,ns,rfl,hs,q⟩:=h;o%⟨u,rfl,ru⟩:=vals1 r;cases ru;r%call_sum_walkG (ll I (A:=X.A.in1) (I.ok.hd hc) hs fun it fp wr its St s2 rv W st OG hk=>?_);r%⟨it,fp,wr,its.length,_,St,(fun i=>(ns[i]?).getD 0),rfl,W,st,OG,fun i v hv=>?_,fun h' tk t' kk=>⟨.int ns.sum,H,hk h' tk kk,⟨t',?_⟩,q⟩⟩
 .obtain⟨x,ex,rx⟩:=rv.at hv;rw[Zg] at ex;cases e:ns[i]? with
  |none=>rw[e] at ex;cases ex
  |some n =>
   rw[e] at ex;cases ex;simp only[e,Option.getD_some];e%rx
 .have hl:its.length=ns.length:=by rw[<- rv.length,Zb]
  rw[hl,mH ns _ (Ze _),List.take_length]
t%AZ (hc:X.calm=true):cg X (.builtin "max") (fun xs H Q=>∃(p:Addr) (ns:List Int),xs=[.ref p]/\(bz X.K H p (ns.map V.int)\/aH X.K H p (ns.map V.int))/\ns≠[]/\∀m,m∈ns->(∀n∈ns,n<=m)->Q (.int m) H):=by
 intro aa s σ H xs us Q I r h;o%⟨p,ns,rfl,hs,dh,q⟩:=h;o%⟨u,rfl,ru⟩:=vals1 r;cases ru;r%call_max_walk (ll I (A:=X.A.in1) (I.ok.hd hc) hs fun it fp wr its St s2 rv W st OG hk=>?_);have hl:its.length=ns.length:=by rw[<- rv.length,Zb]
 have ee:0<ns.length:=List.length_pos_iff.mpr dh;have val:∀(i:Nat) (v:Value),its[i]?=some v->∃t,v=Value.int ((ns[i]?).getD 0) t:=fun i v hv=>by
  o%⟨x,ex,rx⟩:=rv.at hv;rw[Zg] at ex;cases e:ns[i]? with
  |none=>rw[e] at ex;cases ex
  |some n =>
   rw[e] at ex;cases ex;e%rx
 r%⟨it,fp,wr,its.length,_,St,(fun i j=>decide ((ns[i]?).getD 0>(ns[j]?).getD 0)),rfl,W,st,OG,by omega,CmpOf.ints_gt (fun i=>(ns[i]?).getD 0) val,fun v h' tk hP kk=>?_⟩;o%⟨t,rfl⟩:=val _ _ hP;o%⟨h1,h2⟩:=argBest_gt (fun i=>(ns[i]?).getD 0) (its.length-1);have cN:argBest (fun i j=>decide ((ns[i]?).getD 0>(ns[j]?).getD 0)) (its.length-1)<ns.length:=by
  omega
 r%⟨.int _,H,hk h' tk kk,⟨t,rfl⟩,q _ ?_ fun n hn=>?_⟩
 .rw[Zc cN];e%Zv cN
 .obtain⟨i,hi,e⟩:=List.mem_iff_getElem.mp hn;have:=h2 i g%;simp only[Zc hi,Option.getD_some] at this;rw[<- e];e%this
end
n%Kh (K:PySem.W.Frag)(c:Value)(te:TE):TE:=fun σ H Q=>te σ H fun x H1=>∃t b,iX K H1 x t/\PySem.W.kitOne K t c=some b/\Q (.bl b) H1
section
variable {X:Cx}{e:Expr}{te:TE}
t%Kk {a b:Expr}{ta:TE}{pos:Pos}{aa:List (Addr×Obj)}{s:Shared}{σ:St}{H:Hp}{Q:List Value->Shared->Prop}(ha:PE X a ta)(I:Inv X aa σ H s){R:V->Hp->Prop}(h:ta σ H R)
  (hs:starEach [a,b] X.env=[(false,eval a X.env),(false,eval b X.env)]) (k:∀u s1 x H1,Inv X aa σ H1 s1->RelV x u->R x H1->wpAny (model X.prog X.w) X.A (eval b X.env) (fun v s2=>Q [u,v] s2) X.xe s1) :
  wpAny (model X.prog X.w) X.A (spliced (backTo pos (starEach [a,b] X.env))) Q X.xe s:=by
 rw[hs];r%Calls.spliced_cons (bi (ha aa s σ H _ I h) fun u s1 ⟨x,H1,I1,r,q⟩=>?_);e%Calls.spliced_cons (bi (k u s1 x H1 I1 r q) fun v s2 h2=>Calls.spliced_nil h2)
t%G0 {T:Str}{n:String}{p p2 pos:Pos}(he:PE X e te)(hg:Gl X "isinstance")(hm:X.mg "isinstance"=none)(Bx:Gl X T)(Bt:X.mg T=none)(hv:bootBuiltins T=some (.type n))
  (hb:bootBuiltins "isinstance"=some (.builtin "isinstance")) (Ow:y%(T ≠ "__name__")) (JK:y%((T == ("__debug__" : Str))=false))
  (hs:x%(starEach [e,.Name T p2] X.env=[(false,eval e X.env),(false,eval (.Name T p2) X.env)]))
  (gk:x%((backTo pos (starEach [.Name T p2] X.env)).any (·.1)=false)):PE X (.Call (.Name "isinstance" p) [e,.Name T p2] [] pos) (Kh X.K (.type n) te):=by
 intro aa s σ H Q I h;r%Call_ (gd I hg hm hb (PyProof.Rows.callWith_builtin1 (Kk (Q:=fun us s1=>wpAny (model X.prog X.w) X.A (call (.builtin "isinstance") us) (EP X aa σ Q) X.xe s1) he I h hs fun u s1 x H1 I1 r q=>?_) ?_ gk))
 .refine gd I1 Bx Bt hv ?_ Ow JK;o%⟨t,b,ty,ek,q⟩:=q;e%AK I1 r ty ek fun tk=>⟨.bl b,H1,I1.tok tk,rfl,q⟩
 .rw[hs];rfl
end
mutual
inductive nj (K:PySem.W.Frag) (H:Hp):V->PyData->Prop
 |bO:nj K H .bO .none
 |bl (b:Bool):nj K H (.bl b) (.bool b)
 |int (i:Int):nj K H (.int i) (.int i)
 |str (x:Str) (ok:(PyData.str x).canLay0=true):nj K H (.str x) (.str x)
 |lst {a:Addr}{xs:List V}{ds:List PyData}:bz K H a xs->fJ K H xs ds->nj K H (.ref a) (.list ds)
 |tup {a:Addr}{xs:List V}{ds:List PyData}:aH K H a xs->fJ K H xs ds->nj K H (.ref a) (.tuple ds)
inductive fJ (K:PySem.W.Frag) (H:Hp):List V->List PyData->Prop
 |nil:fJ K H [] []
 |cons {x:V}{xs:List V}{d:PyData}{ds:List PyData}:nj K H x d->fJ K H xs ds->fJ K H (x::xs) (d::ds)
end
section
variable {X:Cx}{aa:List (Addr×Obj)}{σ:St}{H:Hp}{s:Shared}
mutual
theorem nj.reads (I:Inv X aa σ H s):∀{x:V}{d:PyData}{u:Value},nj X.K H x d->RelV x u->∃as,Reads s.heap u d as
 |_,_,_,.bO,r=>by cases r;e%⟨_,.none⟩
 |_,_,_,.bl b,r=>by cases r;e%⟨_,.bool b⟩
 |_,_,_,.int i,r=>by o%⟨t,rfl⟩:=r;e%⟨_,.int i t⟩
 |_,_,_,.str x _,r=>by o%⟨t,rfl⟩:=r;e%⟨_,.str x t⟩
 |_,_,_,.lst hq h,r=>by
  cases r
  o%⟨its,rv,⟨o,n,e,c,_,d⟩,_⟩:=I.list hq;o%⟨as,ra⟩:=fJ.reads I h rv;e%⟨_,.list e c d (by simpa using ra)⟩
 |_,_,_,.tup hq h,r=>by
  cases r
  o%⟨its,rv,⟨o,e,c,n,d⟩,_⟩:=I.tuple hq;o%⟨as,ra⟩:=fJ.reads I h rv;e%⟨_,.tuple e c d (by simpa using ra)⟩
theorem fJ.reads (I:Inv X aa σ H s):∀{xs:List V}{ds:List PyData}{us:List Value},fJ X.K H xs ds->aQ xs us->∃as,ReadsAll s.heap us ds as
 |_,_,_,.nil,r=>by cases r;e%⟨_,.nil⟩
 |_,_,_,.cons h t,r=>by
  cases r with
  |cons r1 r2 =>
   o%⟨as,ra⟩:=nj.reads I h r1;o%⟨bs,rb⟩:=fJ.reads I t r2;e%⟨_,.cons ra rb⟩
end
mutual
theorem nj.lay {K:PySem.W.Frag}:∀{x:V}{d:PyData},nj K H x d->d.canLay0=true
 |_,_,.bO=>rfl
 |_,_,.bl b=>rfl
 |_,_,.int i=>rfl
 |_,_,.str x ok=>ok
 |_,_,.lst hq h=>by have:=fJ.lay h;simpa[PyData.canLay0] using this
 |_,_,.tup hq h=>by have:=fJ.lay h;simpa[PyData.canLay0] using this
theorem fJ.lay {K:PySem.W.Frag}:∀{xs:List V}{ds:List PyData},fJ K H xs ds->PyData.canLayAll0 ds=true
 |_,_,.nil=>rfl
 |_,_,.cons h t=>by have h1:=nj.lay h;have h2:=fJ.lay t;simp[PyData.canLayAll0,h1,h2]
end
end
section
variable {X:Cx}
n%FV (K:PySem.W.Frag):R2:=fun x y H Q=>∃dx dy,nj K H x dx/\nj K H y dy/\min dx.depth dy.depth<=60/\Q (.bl (PyData.eqv dx dy)) H
n%FU (K:PySem.W.Frag):R2:=fun x y H Q=>∃dx dy,nj K H x dx/\nj K H y dy/\min dx.depth dy.depth<=60/\Q (.bl (!PyData.eqv dx dy)) H
t%Mc (hu:X.A.units+64<cLine):eO X (compareOp .Eq) (FV X.K):=by
 intro aa s σ H x y v u Q I rx ry h;o%⟨dx,dy,hx,hy,hd,q⟩:=h;o%⟨as,ra⟩:=hx.reads I rx;o%⟨bs,rb⟩:=hy.reads I ry;e%SeqAt.eqOverData X.prog X.w X.A X.xe s v u dx dy as bs _ ra rb hx.lay hy.lay g% ⟨.bl (PyData.eqv dx dy),H,I,rfl,q⟩
t%L9 (hu:X.A.units+64<cLine):eO X (compareOp .NotEq) (FU X.K):=by
 intro aa s σ H x y v u Q I rx ry h;o%⟨dx,dy,hx,hy,hd,q⟩:=h;o%⟨as,ra⟩:=hx.reads I rx;o%⟨bs,rb⟩:=hy.reads I ry;e%SeqAt.neOverData X.prog X.w X.A X.xe s v u dx dy as bs _ ra rb hx.lay hy.lay g% ⟨.bl (!PyData.eqv dx dy),H,I,rfl,q⟩
end
end L2
namespace PySem
open AutoSeq1 (wpAny_loadPart')
t%Uq {prog:Program}{w:World}{A:Around}{E:Value->Shared->Prop}{s:Shared}{it l:Addr}{i:Nat}{items}{x:Value}{Q:Value->Shared->Prop}(Ff:s.heap.IsTupleIter it l i)
  (hl:s.heap.IsTuple l items) (hx:items[i]?=some x)
  (hQ:∀h',h'.IsTupleIter it l (i+1)->Heap.SameBut it s.heap h'->Q x { s with heap:=h' }) :
  wpAny (model prog w) A (Builtin.SmallTypes.nextOf (.ref it)) Q E s:=by
 o%⟨o,ho,hc,hd⟩:=id Ff;o%⟨ol,UC,_,nl,By⟩:=hl;have Br:s.TypeIs (.ref it) "tuple_iterator":=⟨o,ho,hc⟩;unfold Builtin.SmallTypes.nextOf;r%Za (wpAny_callSpecial?_slot (name:=Str.ofString "__next__") Br PyProof.Rows.slot_tupleiter_next
  (wpAny_call_entry PyProof.Rows.slot_tupleiter_next Br PyProof.Rows.entry_tupleiter_next ?_ (PyProof.Rows.args_tupleiter_next _)))
 show wpAny _ _ (field (.ref it) 0 >>= _) _ _ s;r%Za (wpAny_field ho hd (x:=.ref l) rfl ?_);show wpAny _ _ (if (Value.ref l == Value.none)=true then _ else _) _ _ s;rw[if_neg (show ¬ ((Value.ref l == Value.none)=true) from Zy)];show wpAny _ _ (field (.ref it) 1 >>= _) _ _ s;r%Za (wpAny_field ho hd (x:=.int i 0) rfl ?_);show wpAny _ _ (seqItems? (.ref l) >>= _) _ _ s;r%Za (wpAny_seqItems UC By ?_);simp only[Zj,hx];r%Za (wpAny_setField ho hd i% (wpAny_pure ⟨x,rfl,wpAny_pure (hQ _ ?_ (Heap.SameBut.update ..))⟩));e%⟨_,Heap.get?_update_self _ ho (Obj.isFreed_of_fields (Obj.data_mapFields hd _)),(Obj.cls_mapFields ..).trans hc,by
  rw[Obj.data_mapFields hd];simp[rawInt]⟩
t%Up {prog:Program}{w:World}{A:Around}{E:Value->Shared->Prop}{s:Shared}{it l:Addr}{i:Nat}{items}{Q:Value->Shared->Prop}(hh:A.handled=none)
  (Ff:s.heap.IsTupleIter it l i) (hl:s.heap.IsTuple l items) (hx:items[i]?=none)
  (hE:∀h' e,Heap.ExtBut it s.heap h'->(∃o,h'.get? e=some o/\o.cls=.type "StopIteration")->E (.ref e) { s with heap:=h' }) :
  wpAny (model prog w) A (Builtin.SmallTypes.nextOf (.ref it)) Q E s:=by
 o%⟨o,ho,hc,hd⟩:=id Ff;o%⟨ol,UC,_,nl,By⟩:=hl;have Br:s.TypeIs (.ref it) "tuple_iterator":=⟨o,ho,hc⟩;unfold Builtin.SmallTypes.nextOf;r%Za (wpAny_callSpecial?_slot (name:=Str.ofString "__next__") Br PyProof.Rows.slot_tupleiter_next
  (wpAny_call_entry PyProof.Rows.slot_tupleiter_next Br PyProof.Rows.entry_tupleiter_next ?_ (PyProof.Rows.args_tupleiter_next _)))
 show wpAny _ _ (field (.ref it) 0 >>= _) _ _ s;r%Za (wpAny_field ho hd (x:=.ref l) rfl ?_);show wpAny _ _ (if (Value.ref l == Value.none)=true then _ else _) _ _ s;rw[if_neg (show ¬ ((Value.ref l == Value.none)=true) from Zy)];show wpAny _ _ (field (.ref it) 1 >>= _) _ _ s;r%Za (wpAny_field ho hd (x:=.int i 0) rfl ?_);show wpAny _ _ (seqItems? (.ref l) >>= _) _ _ s;r%Za (wpAny_seqItems UC By ?_);simp only[Zj,hx];r%Za (wpAny_rule (Za (wpAny_setField ho hd i% ?_)));show wpAny _ _ (newExc (.type "StopIteration") [] >>= _) _ _ _;r%Za ?_;simp only[newExc,newTuple];r%Za (wpAny_newObj_type ?_ (by size_fits));r%Za (m:=firstArgMember _ _) (wpAny_of_eq (a:=Value.none) (by first |rfl |(simp only[firstArgMember];rfl)) ?_);r%wpAny_newObj_type ?_ (by size_fits);simp only[raiseNew];r%Za (wpAny_handled ?_)
 first |rw[show A.in1.handled=none from hh] |rw[hh]
 r%Za (wpAny_pure (wpAny_throw ?_));e%hE _ _ (((Heap.SameBut.update ..).extBut.push _).push _) ⟨_,Heap.get?_push_size _ rfl,rfl⟩
t%Draws.tup {prog:Program}{w:World}{A:Around}(hh:A.handled=none)(it l:Addr)(dh:l≠it)(items:Array Value) :
  Draws prog w A it [it,l] items.size (fun i v=>items[i]?=some v) (fun i h=>h.IsTupleIter it l i/\h.IsTuple l items) where
 live:=fun _ _ st=>let ⟨o,ho,_⟩:=st.1;⟨o,ho⟩
 frame:=fun _ _ _ st hk=>⟨let ⟨o,e,r⟩:=st.1;⟨o,hk it i% o e,r⟩,let ⟨o,e,r⟩:=st.2;⟨o,hk l i% o e,r⟩⟩
 item:=fun i s Q E hi st hQ=>by
  r%Uq st.1 st.2 (x:=items[i]) (by simp[hi]) fun h' W0 Y2=>?_
  o%⟨o,e,r⟩:=st.2;e%hQ _ h' s.toks (by simp[hi]) ⟨W0,⟨o,Y2.extBut l o dh e,r⟩⟩ Y2
 done:=fun s Q E st hE=>Up hh st.1 st.2 i% hE
set_option maxHeartbeats 1000000 in
t%jy (l:Addr)(items:Array Value)(n:Nat)(VA:Option Addr)(sl:Array (Option Value)) :
  Meets (Builtin.«enumerate.__new__» ⟨[.type "enumerate",.ref l],[]⟩) (fun _ R s=>s.heap.get? l=some { cls:=.type "tuple",dict:=VA,data:=.seq items n,slots:=sl } /\
   R (.ok (.ret (.ref (s.heap.push { cls:=.type "tuple_iterator",data:=.fields #[.ref l,.int 0 0] }).objs.size)))
    { s with heap:=(s.heap.push { cls:=.type "tuple_iterator",data:=.fields #[.ref l,.int 0 0] }).push { cls:=.type "enumerate",data:=.fields #[.none,.bool false,.ref s.heap.objs.size,rawInt 0,.none,.none] } }) :=
 .of_wp fun prog w A R s h=>by
  o%⟨hp,g,d,tk,os⟩:=s;o%⟨hl,h⟩:=h;have BR:=sub_enumerate;have hL:Heap.IsTuple (Shared.heap ⟨hp,g,d,tk,os⟩) l items:=⟨_,hl,rfl,n,rfl⟩
  wp_walk using wpAny_loadPart' hl
  r%wpAny_stack_any fun st=>wpAny_pure ?_
  split
  .rename_i c _ _ _ _ _;cases (c == Value.type "enumerate")
   .wp_walk using wpAny_loadPart' hl,wpAny_pyIter_tuple hL
    e%⟨_,rfl,h⟩
   .wp_walk using wpAny_loadPart' hl,wpAny_pyIter_tuple hL
    e%⟨_,rfl,h⟩
  .wp_walk using wpAny_loadPart' hl,wpAny_pyIter_tuple hL
   e%⟨_,rfl,h⟩
t%ku {prog:Program}{w:World}{A:Around}{E:Value->Shared->Prop}{s:Shared}{l:Addr}{items:Array Value}{Q:Value->Shared->Prop}(hL:s.heap.IsTuple l items)
  (h:∀h',IsEnum h' (s.heap.objs.size+1) s.heap.objs.size 0 .none->h'.IsTupleIter s.heap.objs.size l 0->h'.objs.size=s.heap.objs.size+2 ->
   (∀b o,s.heap.get? b=some o->h'.get? b=some o)->Q (.ref (s.heap.objs.size+1)) { s with heap:=h' }) :
  wpAny (model prog w) A (call (.type "enumerate") [.ref l]) Q E s:=by
 o%⟨⟨c,VA,dt,sl⟩,hl,hc,n,hd⟩:=hL
 replace hc:c=.type "tuple":=hc
 replace hd:dt=.seq items n:=hd
 subst hc hd;r%callType_new F.called_enumerate d% (F.typeCall_enumerate_1 _) (F.newCall_enumerate_1 _) (fun obj=>F.args_object_init_2 obj _) F.entry_enumerate_new
  (jy l items n VA sl) ⟨hl,?_⟩
 have hz:(s.heap.push { cls:=.type "tuple_iterator",data:=.fields #[.ref l,.int 0 0] }).objs.size=s.heap.objs.size+1:=Heap.size_push ..;show _/\_;rw[hz];have he:IsEnum ((s.heap.push { cls:=.type "tuple_iterator",data:=.fields #[.ref l,.int 0 0] }).push
   { cls:=.type "enumerate",data:=.fields #[.none,.bool false,.ref s.heap.objs.size,rawInt 0,.none,.none] }) (s.heap.objs.size+1) s.heap.objs.size 0 .none:=by
  have:=Heap.get?_push_size (s.heap.push { cls:=.type "tuple_iterator",data:=.fields #[.ref l,.int 0 0] })
   (o:={ cls:=.type "enumerate",data:=.fields #[.none,.bool false,.ref s.heap.objs.size,rawInt 0,.none,.none] }) rfl
  rw[hz] at this;e%this
 r%⟨⟨_,he,rfl⟩,h _ he ⟨_,Heap.get?_push_of_some _ (Heap.get?_push_size _ rfl),rfl,rfl⟩ (by rw[Heap.size_push,hz]) fun b o x=>Heap.get?_push_of_some _ (Heap.get?_push_of_some _ x)⟩
end PySem
namespace PySem
end PySem
namespace PySem
open AutoSeq1 (wpAny_loadPart')
end PySem
namespace L2
open PySem PySem.Spec PyProof.Rows
section
variable {X:Cx}
n%Fl (K:PySem.W.Frag)(a:Addr):It :=
 ⟨fun i H=>∃xs x,aH K H a xs/\xs[i]?=some x,fun i H x H'=>∃p,H p=none/\x=.ref p/\∀xs,aH K H a xs->∃y,xs[i]?=some y/\H'=aK H p (.tup [.int i,y]),fun i H=>∃xs,aH K H a xs/\xs.length<=i⟩
t%Inv.nq {aa:List (Addr×Obj)}{σ:St}{H:Hp}{s:Shared}{h':Heap}{t':Nat}{ch:List Addr}(I:Inv X aa σ H s)(k:∀b o,b∉ch->s.heap.get? b=some o->h'.get? b=some o)(hf:∀b∈ch,cY X aa H b) :
  Inv X aa σ H { s with heap:=h',toks:=t' }:=by
 have Oe:∀b u,H b=some u->b∉ch:=fun b u e z=>by rw[(hf b z).1] at e;cases e
 r%I.step (g':=s.gens) (d':=s.drawn) (ch:=ch) (fun b hb=>⟨(hf b hb).2.2.2.1,(hf b hb).2.1,(hf b hb).2.2.2.2.1,(hf b hb).2.2.2.2.2⟩) (fun b o _ _ hc e _=>k b o hc e) (fun b o _ _ hc e _=>⟨o.slots,k b o hc e⟩) (fun _ _ _ _ n=>n)
  (fun b o hc e=>⟨o,k b o hc e⟩) (fun _ _ e=>e) (fun _ _ _ e=>e) (fun b ps e=>⟨#[],by rw[e];simp⟩) (fun m hm=>?_) (fun b u e=>?_) I.bare
 .obtain⟨o,es,ep,ho,r⟩:=hm;e%⟨o,es,ep,k _ o (fun z=>(hf _ z).2.1 rfl) ho,r⟩
 .refine(I.bp b u e).az (fun c v hc q=>k c v ?_ q) (fun _ q=>q) fun _ _ q=>q
  rcases hc with z |z
  .rw[z];e%Oe b u e
  .exact Oe c _ z
t%Inv.Is {aa:List (Addr×Obj)}{σ:St}{H:Hp}{s:Shared}{p:Addr}{o:HO}(I:Inv X aa σ H s)(f:cY X aa H p)(new:bZ X.prog X.w (aK H p o) s.heap p o):Inv X aa σ (aK H p o) s:=by
 have ne:∀b u,H b=some u->b≠p:=fun b u e z=>by rw[z,f.1] at e;cases e
 have:=I.step (g':=s.gens) (d':=s.drawn) (t':=s.toks) (h':=s.heap) (H':=aK H p o) (ch:=[p]) (fun b hb=>by
   obtain rfl:b=p:=by simpa using hb
   e%⟨f.2.2.2.1,f.2.1,f.2.2.2.2.1,f.2.2.2.2.2⟩) (fun b o _ _ _ e _=>e) (fun b o _ _ _ e _=>⟨o.slots,e⟩)
  (fun b o hc _ n=>by rw[dH (fun z=>hc (by simp[z]))];e%n) (fun b o _ e=>⟨o,e⟩) (fun b xs e=>by rw[dH (ne b _ e)];e%e) (fun b o u e=>by rw[dH (ne b _ e)];e%e)
  (fun b ps e=>⟨#[],by rw[dH (ne b _ e),e];simp⟩) (fun m hm=>hm) (fun b u e=>by
   by_cases hb:b=p
   .subst hb;rw[cQ] at e;cases e;e%new
   .rw[dH hb] at e;e%(I.bp b u e).az (fun c v _ q=>q) (fun c q=>by rw[dH (ne c _ q)];e%q) fun c xs q=>by rw[dH (ne c _ q)];e%q) I.bare
 e%this
t%Af {P:Program}{w:World}{K:PySem.W.Frag}{oo:List Expr}{kk}{pos:Pos}(a e it:Addr)(UY:e≠it):Turn P w K (.Tuple oo kk pos) (Fl K a) [e,it] e (fun i h=>(∃EZ,IsEnum h e it (i:Nat) EZ)/\h.IsTupleIter it a i) where
 mem:=by simp
 obj:=fun i h st b hb=>by
  o%⟨⟨EZ,he⟩,o,e1,c,d⟩:=st;rcases Zf.mp hb with rfl |hb
  .exact⟨_,he,fun v z=>by cases z⟩
  .obtain rfl:b=it:=by simpa using hb
   e%⟨o,e1,fun v z=>by rw[d] at z;cases z⟩
 keep:=fun i h h' st k=>by
  o%⟨⟨EZ,he⟩,o,e1,c,d⟩:=st;e%⟨⟨EZ,k e i% _ he⟩,o,k it i% _ e1,c,d⟩
 item:=by
  intro X hP hw hK hc i aa s σ H E I hf st hg;subst hP hw hK;o%⟨xs,x,hq,hx⟩:=hg;o%⟨its,rv,p,hz⟩:=I.tuple hq;o%⟨u,hu,ru⟩:=rv.get hx;o%⟨⟨EZ,he⟩,gP⟩:=st;have pt:s.heap.IsTuple a its.toArray:=p;have hae:e≠a:=fun z=>by
   o%⟨o,e1,c,_⟩:=pt;rw[<- z,he] at e1;cases e1;e%absurd (show Value.type "enumerate"=Value.type "tuple" from c) d%
  have ZV:a≠it:=fun z=>by
   o%⟨o,e1,c,_⟩:=pt;o%⟨o',e2,c',_⟩:=id gP;rw[z,e2] at e1;cases e1;rw[c] at c';e%absurd c' d%
  have cN:i<its.toArray.size:=by simpa using(Zd.mp hu).1
  have D:=Draws.tup (prog:=X.prog) (w:=X.w) (A:=X.A.in1) (I.ok.hd hc) it a ZV its.toArray;r%wpAny_pyNext_enum_itemD D he ⟨gP,pt⟩ cN UY (by simp[UY,hae]) fun y h' tk hP Ii lO ht hsz hk=>?_
  have hy:y=u:=by
   have hP:its.toArray[i]?=some y:=hP;rw[List.getElem?_toArray,hu] at hP;e%(Option.some.inj hP).symm
  subst hy;r%⟨_,rfl,?_⟩;r%wpAny_letOwnedTupleGo_enum Ii fun h2 NN tU=>?_
  replace tU:Heap.SameBut e h' h2:=tU
  have dh:s.heap.objs.size≠e:=Nat.ne_of_gt (Heap.lt_size he);have I1:Inv X aa σ H { s with heap:=h2,toks:=tk+1 }:=I.nq (ch:=[e,it]) (fun b o hb q=>by
   have b1:b≠e:=fun z=>hb (by simp[z])
   have b2:b≠it:=fun z=>hb (by simp[z])
   e%tU.extBut b o b1 (hk b o b1 b2 q)) hf
  have Uv:=tU.extBut _ _ dh ht;have fp:cY X aa H s.heap.objs.size:=I.jR (Ze _) I.fresh;have I2:=I1.Is (p:=s.heap.objs.size) (o:=.tup [.int i,x]) fp ⟨by show 2<=sizeLine;decide,[.int i tk,y],.cons ⟨tk,rfl⟩ (.cons ru .nil),⟨_,Uv,rfl,_,rfl⟩⟩;r%⟨.ref s.heap.objs.size,_,I2,rfl,⟨_,I.fresh,rfl,fun ys hy=>by rw[I.jF hy hq];e%⟨x,hx,rfl⟩⟩,⟨⟨_,NN⟩,?_⟩,fun b hb=>?_⟩
  .obtain⟨⟨o,e1,c,d⟩,_⟩:=lO;e%⟨o,tU.extBut _ _ (Ne.symm UY) e1,c,d⟩
  .rw[dH]
   .exact(hf b hb).1
   .rcases Zf.mp hb with rfl |hb
    .exact dh.symm
    .obtain rfl:b=it:=by simpa using hb
     o%⟨o,e1,_⟩:=gP;e%Yd (Heap.lt_size e1)
 done:=by
  intro X hP hw hK hc i aa s σ H E I hf st hg;subst hP hw hK;o%⟨xs,hq,hx⟩:=hg;o%⟨its,rv,p,hz⟩:=I.tuple hq;o%⟨⟨EZ,he⟩,gP⟩:=st;have pt:s.heap.IsTuple a its.toArray:=p;have ZV:a≠it:=fun z=>by
   o%⟨o,e1,c,_⟩:=pt;o%⟨o',e2,c',_⟩:=id gP;rw[z,e2] at e1;cases e1;rw[c] at c';e%absurd c' d%
  have hl:=rv.length;have hT:s.TypeIs (.ref e) "enumerate":=⟨_,he,rfl⟩;unfold pyNext;r%Za (wpAny_attempt (wpAny_callSpecial?_slot (name:=Str.ofString "__next__") hT F.slot_enumerate_next
   (wpAny_call_entry F.slot_enumerate_next hT F.entry_enumerate_next ?_ (F.args_enumerate_next_1 _))))
  show wpAny _ _ (field (.ref e) 2 >>= _) _ _ _;r%Za (wpAny_field he rfl (x:=.ref it) rfl ?_);r%Za (Up (A:=X.A.in1) (I.ok.hd hc) gP pt (by simp;omega) fun h' ex U0 Fd=>?_);o%⟨o,ho,jT⟩:=Fd;r%Za (wpAny_isInstance (T:="StopIteration") (b:=true) ⟨o,ho,jT⟩ isSubtype_stop ?_);e%wpAny_pure ⟨rfl,I.nq (t':=s.toks) (ch:=[it]) (fun b o hb q=>U0 b o (fun z=>hb (by simp[z])) q) (fun b hb=>hf b (Zk _ hb))⟩
 self:=fun A i s Q E st h=>by
  o%⟨⟨EZ,he⟩,_⟩:=st;e%wpAny_pyIter_enum he h
n%Jc (K:PySem.W.Frag)(ta:TA):TI:=fun σ H R=>ta σ H fun vs H1=>∃a,vs=[.ref a]/\(∃xs,aH K H1 a xs)/\R (Fl K a) H1
end
n%Cn (ao:St)(acc:Addr)(P:List V->Hp->Prop)(σ:St)(H:Hp):Prop:=(∀v,σ.set 0 v=ao.set 0 v)/\∃ys,H acc=some (.lst ys)/\P ys H
t%Cn.of {ao:St}{acc:Addr}{P:List V->Hp->Prop}{w:Option V}{H:Hp}{ys:List V}(h:H acc=some (.lst ys))(p:P ys H):Cn ao acc P (ao.set 0 w) H:=⟨fun v=>by rw[List.set_set],ys,h,p⟩
n%Jp (outer:List (Str×NameKind))(N:List Str)(scope:Scope)(cap:List Str)(ix:List Nat):Bool :=
 (scope.kind == .function)&&(scope.names.all fun x=>x.2 != .local||scope.names.lookup x.1 == some .local)&&decide (scope.names.map (·.1)).Nodup &&
 (scope.names.all fun x=>x.2 != .free||outer.lookup x.1 == some .cell||outer.lookup x.1 == some .free)&&(cap.all fun x=>decide ((x,NameKind.free)∈scope.names))&&(cap.zip ix).all (fun p=>N[p.2]? == some p.1)&&cap.length == ix.length
t%aA.of {X:Cx}{scope:Scope}{own cap:List Str}{ix:List Nat}(outer:List (Str×NameKind))(N:List Str)(hsc:x%(X.env.scope.names=outer))(hN:x%(X.N=N))(h:Jp outer N scope cap ix=true:=by decide+kernel):aA X scope own cap ix:=by
 unfold Jp at h;simp only[Zl,Zu,beq_iff_eq,decide_eq_true_eq,Bool.or_eq_true,bne_iff_ne,ne_eq] at h;o%⟨⟨⟨⟨⟨⟨h1,h2⟩,h3⟩,h4⟩,h5⟩,h6⟩,h7⟩:=h;r%⟨h1,fun x hx hl=>?_,h3,fun x hx hl=>?_,fun j x e=>h5 x (Yc e),fun j x e=>?_,h7⟩
 .rcases h2 x hx with z |z
  .exact absurd hl z
  .exact z
 .show X.env.scope.names.lookup x.1=_\/X.env.scope.names.lookup x.1=_;rw[hsc];rcases h4 x hx with (z |z) |z
  .exact absurd hl z
  .exact .inl z
  .exact .inr z
 .have hj:j<cap.length:=(Zd.mp e).1;have p9:j<ix.length:=by omega
  r%⟨ix[j],Zc p9,?_⟩;rw[hN];have hz:(cap.zip ix)[j]?=some (x,ix[j]):=by
   rw[List.getElem?_zip_eq_some];e%⟨e,Zc p9⟩
  e%h6 _ (Yc hz)
section
variable {K:PySem.W.Frag}{lo:Int}{n:Nat}{tt:TT}{te:TE}{acc a:Addr}{xs:List V}{ao:St}{aE:Hp}{Q:VK}
t%kr (Pv:Nat->List V->Hp->Prop)(h0:Pv 0 [] (aK aE acc (.lst [])))
  (hs:∀(i:Nat) ys H,i<n->H acc=some (.lst ys)->Pv i ys H->tt (ao.set 0 (some (.int (lo+i)))) H fun b H4 =>
   if b=true then te (ao.set 0 (some (.int (lo+i)))) H4 fun y H5=>∃zs,H5 acc=some (.lst zs)/\zs.length<sizeLine/\Cn ao acc (Pv (i+1)) (ao.set 0 (some (.int (lo+i)))) (aK H5 acc (.lst (zs++[y]))) else Cn ao acc (Pv (i+1)) (ao.set 0 (some (.int (lo+i)))) H4)
  (hd:∀ys H,H acc=some (.lst ys)->Pv n ys H->Q (.ref acc) H):cw (cF 0) tt te (BD lo n) acc ao aE Q:=by
 r%⟨fun i m σ H=>m=n-i/\i<=n/\Cn ao acc (Pv i) σ H,⟨n,by simp,Nat.zero_le _,fun _=>rfl,[],cQ,h0⟩,?_⟩;rintro i m σ H ⟨rfl,hi,ud,ys,hy,p⟩;by_cases cN:i<n
 .refine .inr ⟨cN,Cn ao acc (Pv (i+1)),fun aD H' c=>⟨n-(i+1),by omega,rfl,cN,c⟩,fun x H' y=>?_⟩;o%⟨e,y⟩:=y;subst e y;show tt (σ.set 0 _) _ _;rw[ud];e%hs i ys _ cN hy p
 .have e:i=n:=by omega
  subst e;e%.inl ⟨Ze _,hd ys H hy p⟩
t%AT (Pv:Nat->List V->Hp->Prop)(h0:Pv 0 [] (aK aE acc (.lst [])))(hl:∀(i:Nat) ys H,i<=xs.length->H acc=some (.lst ys)->Pv i ys H->bz K H a xs)
  (hs:∀(i:Nat) x ys H,xs[i]?=some x->H acc=some (.lst ys)->Pv i ys H->tt (ao.set 0 (some x)) H fun b H4 =>
   if b=true then te (ao.set 0 (some x)) H4 fun y H5=>∃zs,H5 acc=some (.lst zs)/\zs.length<sizeLine/\Cn ao acc (Pv (i+1)) (ao.set 0 (some x)) (aK H5 acc (.lst (zs++[y]))) else Cn ao acc (Pv (i+1)) (ao.set 0 (some x)) H4)
  (hd:∀ys H,H acc=some (.lst ys)->Pv xs.length ys H->Q (.ref acc) H):cw (cF 0) tt te (zM K a) acc ao aE Q:=by
 r%⟨fun i m σ H=>m=xs.length-i/\i<=xs.length/\Cn ao acc (Pv i) σ H,⟨xs.length,by simp,Nat.zero_le _,fun _=>rfl,[],cQ,h0⟩,?_⟩;rintro i m σ H ⟨rfl,hi,ud,ys,hy,p⟩;have q:=hl i ys H hi hy p;by_cases cN:i<xs.length
 .refine .inr ⟨⟨xs,xs[i],q,by simp[cN]⟩,Cn ao acc (Pv (i+1)),fun aD H' c=>⟨xs.length-(i+1),by omega,rfl,cN,c⟩,fun x H' y=>?_⟩;o%⟨e,y⟩:=y;subst e;show tt (σ.set 0 _) _ _;rw[ud];e%hs i x ys _ (y xs q) hy p
 .have e:i=xs.length:=by omega
  subst e;e%.inl ⟨⟨xs,q,Ze _⟩,hd ys H hy p⟩
t%lm (Pv:Nat->List V->Hp->Prop)(h0:Pv 0 [] (aK aE acc (.lst [])))(hl:∀(i:Nat) ys H,i<=xs.length->H acc=some (.lst ys)->Pv i ys H->aH K H a xs)
  (hs:∀(i:Nat) x ys H,xs[i]?=some x->H acc=some (.lst ys)->Pv i ys H->tt (ao.set 0 (some x)) H fun b H4 =>
   if b=true then te (ao.set 0 (some x)) H4 fun y H5=>∃zs,H5 acc=some (.lst zs)/\zs.length<sizeLine/\Cn ao acc (Pv (i+1)) (ao.set 0 (some x)) (aK H5 acc (.lst (zs++[y]))) else Cn ao acc (Pv (i+1)) (ao.set 0 (some x)) H4)
  (hd:∀ys H,H acc=some (.lst ys)->Pv xs.length ys H->Q (.ref acc) H):cw (cF 0) tt te (zL K a) acc ao aE Q:=by
 r%⟨fun i m σ H=>m=xs.length-i/\i<=xs.length/\Cn ao acc (Pv i) σ H,⟨xs.length,by simp,Nat.zero_le _,fun _=>rfl,[],cQ,h0⟩,?_⟩;rintro i m σ H ⟨rfl,hi,ud,ys,hy,p⟩;have q:=hl i ys H hi hy p;by_cases cN:i<xs.length
 .refine .inr ⟨⟨xs,xs[i],q,by simp[cN]⟩,Cn ao acc (Pv (i+1)),fun aD H' c=>⟨xs.length-(i+1),by omega,rfl,cN,c⟩,fun x H' y=>?_⟩;o%⟨e,y⟩:=y;subst e;show tt (σ.set 0 _) _ _;rw[ud];e%hs i x ys _ (y xs q) hy p
 .have e:i=xs.length:=by omega
  subst e;e%.inl ⟨⟨xs,q,Ze _⟩,hd ys H hy p⟩
end
section
variable {X:Cx}{tg l:Expr}{tl:TE}
t%Xh (K:PySem.W.Frag)(h:x%(X.K=K)):cg X (.builtin "len") (fun xs H Q=>∃p ys,xs=[.ref p]/\(bz K H p ys\/aH K H p ys)/\Q (.int ys.length) H):=by subst h;e%iE
end
end L2
namespace KG
open PySem L2
t%m9:bootBuiltins "tuple"=some (.type "tuple"):=by first |rfl |kernel_rfl |decide+kernel
t%boot_int:bootBuiltins "int"=some (.type "int"):=by first |rfl |kernel_rfl |decide+kernel
t%boot_abs:bootBuiltins "abs"=some (.builtin "abs"):=by first |rfl |kernel_rfl |decide+kernel
t%boot_max:bootBuiltins "max"=some (.builtin "max"):=by first |rfl |kernel_rfl |decide+kernel
t%boot_min:bootBuiltins "min"=some (.builtin "min"):=by first |rfl |kernel_rfl |decide+kernel
t%boot_any:bootBuiltins "any"=some (.builtin "any"):=by first |rfl |kernel_rfl |decide+kernel
t%boot_sum:bootBuiltins "sum"=some (.builtin "sum"):=by first |rfl |kernel_rfl |decide+kernel
t%NG:bootBuiltins "enumerate"=some (.type "enumerate"):=by first |rfl |kernel_rfl |decide+kernel
t%nU:bootBuiltins "isinstance"=some (.builtin "isinstance"):=by first |rfl |kernel_rfl |decide+kernel
t%boot_bool:bootBuiltins "bool"=some (.type "bool"):=by first |rfl |kernel_rfl |decide+kernel
n%vS (H:Hp)(b:Addr):Prop:=∃c d:Int,H b=some (.lst [.int c,.int d])
n%Kp (b:Addr)(H H':Hp):Prop:=∀a o,a≠b->H a=some o->H' a=some o
t%Kp.refl (b:Addr)(H:Hp):Kp b H H:=fun _ _ _ h=>h
t%Kp.bag {b:Addr}{H H':Hp}{o:HO}(x:Kp b H H'):Kp b H (aK H' b o):=fun a u n h=>by rw[dH n];e%x a u n h
t%vS.new {b p:Addr}{H:Hp}{o:HO}(h:vS H b)(hp:H p=none):vS (aK H p o) b:=by
 o%⟨c,d,e⟩:=h;e%⟨c,d,by rw[dH (Fv e hp)];e%e⟩
t%vS.ne {b p:Addr}{H:Hp}(h:vS H b)(hp:H p=none):b≠p:=by
 o%⟨c,d,e⟩:=h;e%Fv e hp
n%jd:Sp:=fun vs H Q _=>∃(b:Addr) (m:Int),vs=[.ref b,.int m]/\vS H b/\0<m/\m<1073741824/\∀(r:Int) (H':Hp),0<=r->r<m->vS H' b->Kp b H H'->Q (.int r) H'
n%yc (K:PySem.W.Frag):Sp:=fun vs H Q _=>∃(a:Addr) (ns:List Int) (k:Int),vs=[.ref a,.int k]/\bz K H a (ns.map V.int)/\0<=k/\k<100/\∀(p:Addr) (c d:Int),H p=none->Q (.ref p) (aK H p (.lst [.int c,.int d]))
structure cC (K:PySem.W.Frag)(mg:Str->Option Value)(P:Program)(w:World)(base:Heap)(x:Str)(k:Nat)(ps:List Str)(sp:Sp)(f:Addr)(fd:FuncData):Prop where
 ok:aM P w K mg base cP k f fd ps sp
 mg:mg x=some (.ref f)
 kp:PySem.W.keepIn K (.ref f)=true
 bd:Binds K fd ps []
t%sz:sizeLine=16777216:=PySem.sizeLine_eq
t%ut {σ:St}{H:Hp}{A B:Hp->Prop}(h:A H):zN σ H (fun b H4=>if b=true then A H4 else B H4):=aU (B:=B H) h
t%pF {ns:List Int}{r:Int}(h0:0<=r)(h1:r<ns.length):iT (ns.map V.int) r=some (V.int (ns.getD r.toNat 0))/\uc (ns.map V.int).length r=some r.toNat/\ns.getD r.toNat 0∈ns:=by
 have hl:r.toNat<ns.length:=by omega
 have e:(ns.map V.int)[r.toNat]?=some (V.int (ns.getD r.toNat 0)):=by
  rw[Zg,Zc hl];simp[List.getD,Zc hl]
 r%⟨?_,?_,?_⟩
 .have:=fj e;rw[Int.toNat_of_nonneg h0] at this;e%this
 .unfold uc;rw[if_pos h0,if_pos (by rw[Zb];e%h1)]
 .simp[List.getD,Zc hl]
n%Tm (H H':Hp):Prop:=∀a xs,H a=some (.tup xs)->H' a=some (.tup xs)
t%Tm.lst {p:Addr}{H:Hp}{xs:List V}{o:HO}(h:H p=some (.lst xs)):Tm H (aK H p o):=fun a ys e=>by
 rw[dH (fun z=>by rw[z,h] at e;cases e)];e%e
t%vS.acc {b p:Addr}{H:Hp}{o:HO}(h:vS H b)(hp:b≠p):vS (aK H p o) b:=by
 o%⟨c,d,e⟩:=h;e%⟨c,d,by rw[dH hp];e%e⟩
n%rK (H:Hp)(ws:List V)(M:List (List Int)):Prop:=Paired (fun v ns=>∃a,v=V.ref a/\H a=some (.tup (List.map V.int ns))) ws M
t%rK.keep {H H':Hp}{ws:List V}{M:List (List Int)}(h:rK H ws M)(t:Tm H H'):rK H' ws M:=Paired.KH h fun v ns ⟨a,e,q⟩=>⟨a,e,t a _ q⟩
t%rK.len {H:Hp}{ws:List V}{M:List (List Int)}(h:rK H ws M):ws.length=M.length:=Paired.length h
t%rK.at:∀{H:Hp}{ws:List V}{M:List (List Int)}{i:Nat}{x:V},rK H ws M->ws[i]?=some x->∃ns a,M[i]?=some ns/\x=V.ref a/\H a=some (.tup (List.map V.int ns))
 |_,_,_,_,_,.nil,e=>by simp at e
 |_,_,_,0,_,.cons ⟨a,h1,h2⟩ _,e=>by simp at e;subst e;e%⟨_,a,rfl,h1,h2⟩
 |_,_,_,i+1,_,.cons _ t,e=>by
  o%⟨ns,a,h1,h2,h3⟩:=rK.at (i:=i) t (by simpa using e);e%⟨ns,a,by simpa using h1,h2,h3⟩
n%ak (H H':Hp):Prop:=∀a o,H a=some o->H' a=some o
t%ak.refl (H:Hp):ak H H:=fun _ _ h=>h
t%ak.trans {H H1 H2:Hp}(a:ak H H1)(b:ak H1 H2):ak H H2:=fun x o h=>b x o (a x o h)
t%ak.new {H H':Hp}{p:Addr}{o:HO}(a:ak H H')(hp:H' p=none):ak H (aK H' p o):=fun x u h=>by rw[dH (Fv (a x u h) hp)];e%a x u h
t%ak.acc {H H':Hp}{p:Addr}{o:HO}(a:ak H H')(hp:H p=none):ak H (aK H' p o):=fun x u h=>by rw[dH (Fv h hp)];e%a x u h
t%ak.tm {H H':Hp}(a:ak H H'):Tm H H':=fun x xs h=>a x _ h
n%has (M:List (List Int))(j:Nat):Bool:=M.any fun r=>decide (0<r.getD j 0)
t%mK (f:Nat->Bool)(n:Nat):(List.range (n+1)).filter f=(List.range n).filter f++if f n=true then [n] else []:=by
 rw[Yn,List.filter_append]
 congr 1
 by_cases h:f n=true
 .simp[h]
 .simp[h]
t%zj:∀ns:List Int,PyData.depthAll (ns.map PyData.int)=0
 |[]=>rfl
 |n::ns=>by
  rw[Yj,PyData.depthAll,zj ns];rfl
n%uw (K:PySem.W.Frag):Sp:=fun vs H Q _=>∃(a:Addr) (ns:List Int),vs=[.ref a]/\bz K H a (ns.map V.int)/\ns.length<=63/\∀H',Q (.bl true) H'
t%bz.az {K:PySem.W.Frag}{H H':Hp}{a:Addr}{xs:List V}(h:bz K H a xs)(s:ak H H'):bz K H' a xs:=by
 rcases h with (h |⟨o,h⟩) |h
 .exact .inl (.inl (s _ _ h))
 .exact .inl (.inr ⟨o,s _ _ h⟩)
 .exact .inr h
t%boot_list:bootBuiltins "list"=some (.type "list"):=by first |rfl |kernel_rfl |decide+kernel
t%A6:bootBuiltins "all"=some (.builtin "all"):=by first |rfl |kernel_rfl |decide+kernel
mutual
inductive iU (b:Addr) (H:Hp):V->PyData->Prop
 |bO:iU b H .bO .none
 |bl (c:Bool):iU b H (.bl c) (.bool c)
 |int (i:Int):iU b H (.int i) (.int i)
 |str (x:Str) (ok:(PyData.str x).canLay0=true):iU b H (.str x) (.str x)
 |lst {a:Addr}{xs:List V}{ds:List PyData}:a≠b->H a=some (.lst xs)->bX b H xs ds->iU b H (.ref a) (.list ds)
 |tup {a:Addr}{xs:List V}{ds:List PyData}:H a=some (.tup xs)->bX b H xs ds->iU b H (.ref a) (.tuple ds)
inductive bX (b:Addr) (H:Hp):List V->List PyData->Prop
 |nil:bX b H [] []
 |cons {x:V}{xs:List V}{d:PyData}{ds:List PyData}:iU b H x d->bX b H xs ds->bX b H (x::xs) (d::ds)
end
mutual
theorem iU.az {b:Addr}{H H':Hp}(k:ak H H'):∀{v:V}{d:PyData},iU b H v d->iU b H' v d
 |_,_,.bO=>.bO
 |_,_,.bl c=>.bl c
 |_,_,.int i=>.int i
 |_,_,.str x ok=>.str x ok
 |_,_,.lst n h t=>.lst n (k _ _ h) (bX.az k t)
 |_,_,.tup h t=>.tup (k _ _ h) (bX.az k t)
theorem bX.az {b:Addr}{H H':Hp}(k:ak H H'):∀{vs:List V}{ds:List PyData},bX b H vs ds->bX b H' vs ds
 |_,_,.nil=>.nil
 |_,_,.cons h t=>.cons (iU.az k h) (bX.az k t)
end
mutual
theorem iU.dt {K:PySem.W.Frag}{b:Addr}{H:Hp}:∀{v:V}{d:PyData},iU b H v d->nj K H v d
 |_,_,.bO=>.bO
 |_,_,.bl c=>.bl c
 |_,_,.int i=>.int i
 |_,_,.str x ok=>.str x ok
 |_,_,.lst n h t=>.lst (bz.of h) (bX.dt t)
 |_,_,.tup h t=>.tup (aH.of h) (bX.dt t)
theorem bX.dt {K:PySem.W.Frag}{b:Addr}{H:Hp}:∀{vs:List V}{ds:List PyData},bX b H vs ds->fJ K H vs ds
 |_,_,.nil=>.nil
 |_,_,.cons h t=>.cons (iU.dt h) (bX.dt t)
end
t%bX.len {b:Addr}{H:Hp}:∀{vs:List V}{ds:List PyData},bX b H vs ds->vs.length=ds.length
 |_,_,.nil=>rfl
 |_,_,.cons _ t=>congrArg (· + 1) (bX.len t)
t%bX.at {b:Addr}{H:Hp}:∀{vs:List V}{ds:List PyData}{i:Nat}{x:V},bX b H vs ds->vs[i]?=some x->∃d,ds[i]?=some d/\iU b H x d
 |_,_,_,_,.nil,e=>by simp at e
 |_,_,0,_,.cons h _,e=>by simp at e;subst e;e%⟨_,rfl,h⟩
 |_,_,i+1,_,.cons _ t,e=>by
  o%⟨d,h1,h2⟩:=bX.at (i:=i) t (by simpa using e);e%⟨d,by simpa using h1,h2⟩
t%bX.app {b:Addr}{H:Hp}:∀{vs ws:List V}{ds es:List PyData},bX b H vs ds->bX b H ws es->bX b H (vs++ws) (ds++es)
 |_,_,_,_,.nil,s=>s
 |_,_,_,_,.cons h t,s=>.cons h (bX.app t s)
n%E1:PyData->Bool
 |.int _=>true
 |_=>false
n%within (lo hi:Int):PyData->Bool
 |.int i=>decide (lo<=i)&&decide (i<=hi)
 |_=>false
n%aO:PyData->Bool
 |.tuple [.int t,.int u]=>decide (1<=u)&&decide (Int.gcd t u=1)
 |_=>false
n%HG:PyData->Bool
 |.tuple [.int t,.int u]=>decide (1<=u)&&decide (Int.gcd t u=1)&&decide (1<=t)&&decide (t<=1000000)&&decide (u<=1000000)
 |_=>false
n%Rp (n:Nat)(lo hi:Int):PyData->Bool
 |.tuple ds=>decide (ds.length=n)&&ds.all (within lo hi)
 |_=>false
n%P9:PyData->Bool
 |.tuple [.tuple a,.tuple p,.tuple w]=>decide (1<=a.length)&&decide (a.length<=6)&&a.all (within 1 60)&&(decide (1<=p.length)&&decide (p.length<=6)&&p.all HG)&&(decide (w.length=p.length)&&w.all (Rp a.length 0 100))
 |_=>false
mutual
def bv:PyData->Bool
 |.int i=>decide (-1073741824<i)&&decide (i<1073741824)
 |.list ds=>je ds
 |.tuple ds=>je ds
 |_=>true
def je:List PyData->Bool
 |[]=>true
 |d::ds=>bv d&&je ds
end
t%kh:∀{ds:List PyData}{d:PyData},je ds=true->d∈ds->bv d=true
 |d::ds,e,h,hm=>by
  have h':bv d=true/\je ds=true:=by simpa[je] using h
  rcases Zf.mp hm with rfl |hm
  .exact h'.1
  .exact kh h'.2 hm
t%mr:∀{ds:List PyData},(∀d∈ds,bv d=true)->je ds=true
 |[],_=>rfl
 |d::ds,h=>by
  have:=mr (ds:=ds) fun e he=>h e (Zk _ he)
  simp[je,this,h d Zo]
end KG
namespace HT
open PySem PySem.Spec PyProof.Rows
section
variable {prog:Program}{w:World}{A:Around}{E:Value->Shared->Prop}{s:Shared}
t%lF {t sl:Addr}{items:Array Value}{vl vu:Value}{lo hi:Option Int}{Q:Value->Shared->Prop}(ht:IsTup s.heap t items)(hs:s.heap.IsSliceOf sl vl vu .none)(pl:IsPart vl lo)(pu:IsPart vu hi)
  (hw:cO items.size 0 lo=0/\cO items.size items.size hi=items.size) (h:Q (.ref t) s):wpAny (model prog w) A (getItem (.ref t) (.ref sl)) Q E s:=by
 o%⟨os,JC,RZ,JJ⟩:=id hs;have U6:s.TypeIs (.ref sl) "slice":=⟨os,JC,RZ⟩;unfold getItem
 try with_reducible r%wpAny_holding ?_
 first |r%Za (wpAny_pure ?_) |skip
 r%Za (wpAny_sequenceKey ht.typeIs d% ?_);r%Za (wpAny_callSpecial?_slot (name:=Str.ofString "__getitem__") ht.typeIs PyProof.Rows.slot_tuple_getitem
  (wpAny_call_entry PyProof.Rows.slot_tuple_getitem ht.typeIs entry_tuple_getitem ?_ (args_tuple_getitem _ _)))
 show wpAny _ _ (Builtin.Tuple.tupleItemsOf (.ref t) >>= _) _ _ s;r%Za (tupleItemsOf_ ht ?_);r%Za (wpAny_typeOf U6 ?_);rw[if_pos d%];r%Za (il hs pl pu ?_);have WQ:((((cO items.size 0 lo:Nat):Int) == 0&&(1:Int) == 1&&(cO items.size items.size hi-cO items.size 0 lo) == items.size)=true):=by
  rw[hw.1,hw.2];simp
 show wpAny _ _ (if (((cO items.size 0 lo:Nat):Int) == 0&&(1:Int) == 1&&(cO items.size items.size hi-cO items.size 0 lo) == items.size)=true then _ else _) _ _ s;rw[if_pos WQ];have htt:s.TypeIs (.ref t) "tuple":=ht.typeIs;r%Za (m:=Builtin.Tuple.tupleIsExact (.ref t)) (Za (wpAny_typeOf htt (wpAny_pure ?_)));rw[if_pos d%]
 first
  |e%wpAny_pure ⟨_,rfl,wpAny_pure h⟩
  |e%Za (wpAny_pure (wpAny_pure ⟨_,rfl,wpAny_pure h⟩))
  |(wp_walk;e%⟨_,rfl,wpAny_pure h⟩)
  |(wp_walk;e%⟨_,rfl,h⟩)
end
end HT
namespace L2
open PySem PySem.Spec PyProof.Rows
section
variable {X:Cx}
t%Av:eO X (compareOp .IsNot) (fun x y H Q=>∃c d:Bool,x=.bl c/\y=.bl d/\Q (.bl (c != d)) H):=by
 intro aa s σ H x y v u Q I rx ry h;o%⟨c,d,rfl,rfl,q⟩:=h;cases rx;cases ry;e%isnot_bool (jS I q rfl)
n%WA:V->Option Int->Option Int->Hp->VK->Prop:=fun x lo hi H Q=>∃a xs,x=.ref a/\H a=some (.tup xs)/\∀p H',KG.ak H H'->H' p=some (.tup (ot xs lo hi))->Q (.ref p) H'
t%GA:FH X WA:=by
 intro aa s σ H x v vl vu lo hi sl Q I rx hs pl pu h;o%⟨a,xs,rfl,hx,q⟩:=h;by_cases hw:HT.cO xs.length 0 lo=0/\HT.cO xs.length xs.length hi=xs.length
 .cases rx
  o%⟨its,r,ht,hz⟩:=I.tuple (aH.of hx);have bN:its.toArray.size=xs.length:=by rw[Zt];e%r.length.symm
  r%⟨"tuple",_,PyProof.Rows.slot_tuple_getitem.lookup,ht.typeIs,?_⟩;r%HT.lF ht hs pl pu (by rw[bN];e%hw) ⟨.ref a,H,I,rfl,q a H (KG.ak.refl H) ?_⟩;have e:ot xs lo hi=xs:=by unfold ot;rw[hw.1,hw.2,List.drop_zero,Nat.sub_zero,List.take_length]
  rw[e];e%hx
 .exact Lo aa s σ H _ v vl vu lo hi sl Q I rx hs pl pu ⟨a,xs,rfl,aH.of hx,hw,fun p hp=>q p _ ((KG.ak.refl H).new hp) cQ⟩
n%IE:R2:=fun x y H Q=>∃a b xs ys,x=.ref a/\y=.ref b/\H a=some (.tup xs)/\H b=some (.tup ys)/\xs.length+ys.length<=sizeLine/\∀p H',KG.ak H H'->H' p=some (.tup (xs++ys))->Q (.ref p) H'
t%G6:eO X (binaryOp .Add) IE:=by
 intro aa s σ H x y v u Q I rx ry h;o%⟨a,b,xs,ys,rfl,rfl,ha,hb,hz,q⟩:=h;by_cases hx:xs=[]
 .cases rx
  cases ry
  o%⟨its,r1,p1,_⟩:=I.tuple (aH.of ha);o%⟨qh,r2,p2,_⟩:=I.tuple (aH.of hb);o%⟨⟨cls,dd,data,sl⟩,ho,hc,n,hd⟩:=id p1;o%⟨⟨Xd,Sf,data2,cy⟩,JD,JM,n2,OL⟩:=id p2;simp only at hc hd JM OL;subst hc hd JM OL;have e0:its=[]:=r1.nE.mpr hx;e%concat_meets ⟨_,ho,rfl⟩ ⟨_,JD,rfl⟩ noFill_tuple_add seq_tuple_add PySem.F.slot_tuple_add PySem.F.entry_tuple_add (PySem.F.args_tuple_add_2 _ _)
   (tuple_addW0 a b its.toArray qh.toArray n n2 dd Sf sl cy (by simp[e0])) ⟨ho,JD,⟨.ref b,H,I,rfl,q b H (KG.ak.refl H) (by rw[hx];e%hb)⟩⟩
 .refine G5 aa s σ H _ _ v u Q I rx ry ⟨a,b,xs,ys,rfl,rfl,aH.of ha,aH.of hb,hx,hz,fun e=>q a H (KG.ak.refl H) (by rw[e,Yg];e%ha),fun _ p hp=>q p _ ((KG.ak.refl H).new hp) cQ⟩
end
end L2
namespace L2
open PySem PySem.Spec PyProof.Rows KG
n%mV (f:Expr->Option PyData):List Expr->Option (List PyData)
 |[]=>some []
 |e::es=>match f e,mV f es with
  |some d,some ds=>some (d::ds)
  |_,_=>none
n%wk (nm:Str->Option Int)(f:Expr->Option PyData):Expr->Option PyData
 |.Name x _=>(nm x).map .int
 |.Constant (.int i) _ _=>some (.int i)
 |.Constant (.bool c) _ _=>some (.bool c)
 |.Constant .none _ _=>some .none
 |.Constant (.str x) _ _=>if (PyData.str x).canLay0=true then some (.str x) else none
 |.UnaryOp .USub a _=>match f a with
  |some (.int i)=>some (.int (-i))
  |_=>none
 |.BinOp a .Add b _=>match f a,f b with
  |some (.int i),some (.int j)=>some (.int (i+j))
  |_,_=>none
 |.BinOp a .Sub b _=>match f a,f b with
  |some (.int i),some (.int j)=>some (.int (i-j))
  |_,_=>none
 |.BinOp a .Pow b _=>match f a,f b with
  |some (.int i),some (.int j)=>if 0<=j/\j<=1000000/\i.natAbs<2 ^ 64 then some (.int (i ^ j.toNat)) else none
  |_,_=>none
 |.Tuple es _ _=>if es.length<=1000 then (mV f es).map .tuple else none
 |.List es _=>if es.length<=1000 then (mV f es).map .list else none
 |_=>none
n%lit (nm:Str->Option Int):Nat->Expr->Option PyData
 |0=>fun _=>none
 |n+1=>wk nm (lit nm n)
n%Pn (C:St->Prop)(d:PyData):TE:=fun σ H Q=>C σ/\∀v H',ak H H'->(∀b,H b≠none->iU b H' v d)->(∀i,d=.int i->v=.int i)->Q v H'
n%QJ (C:St->Prop)(ds:List PyData):TA:=fun σ H Q=>C σ/\∀vs H',ak H H'->(∀b,H b≠none->bX b H' vs ds)->vs.length=ds.length->Q vs H'
t%PE.weak {X:Cx}{e:Expr}{t t':TE}(h:PE X e t)(hw:∀σ H Q,t' σ H Q->t σ H Q):PE X e t':=fun aa s σ H Q I q=>h aa s σ H Q I (hw σ H Q q)
t%PA.weak {X:Cx}{es:List Expr}{t t':TA}(h:PA X es t)(hw:∀σ H Q,t' σ H Q->t σ H Q):PA X es t':=fun pos aa s σ H Q I q=>h pos aa s σ H Q I (hw σ H Q q)
t%u7 {X:Cx}{nm:Str->Option Int}{n:Nat}{e:Expr}{es:List Expr}{d:PyData}(h:lit nm n e=some d):starEach (e::es) X.env=(false,eval e X.env)::starEach es X.env:=by
 cases n with
 |zero=>cases h
 |succ n =>
  have h:wk nm (lit nm n) e=some d:=h;cases e<;>first |rfl |(unfold wk at h;cases h)
t%ju {f:Expr->Option PyData}:∀{es:List Expr}{ds:List PyData},mV f es=some ds->ds.length=es.length
 |[],ds,h=>by simp[mV] at h;subst h;rfl
 |e::es,ds,h=>by
  unfold mV at h;split at h
  .next d Se h1 h2=>cases h;simp[ju h2]
  .cases h
t%sR {H H':Hp}{b:Addr}(s:ak H H')(h:H b≠none):H' b≠none:=by
 cases e:H b with
 |none=>e%absurd e h
 |some o=>rw[s _ _ e];simp
t%sP {X:Cx}{nm:Str->Option Int}{C:St->Prop}{n:Nat}(ih:∀(e:Expr) (d:PyData),lit nm n e=some d->PE X e (Pn C d)):∀(es:List Expr) (ds:List PyData),mV (lit nm n) es=some ds->PA X es (QJ C ds)
 |[],ds,h=>by
  simp[mV] at h;subst h;e%PA.weak bK fun σ H Q q=>q.2 [] H (ak.refl H) (fun b _=>.nil) rfl
 |e::es,ds,h=>by
  unfold mV at h;split at h
  .next d Se h1 h2 =>
   cases h
   r%PA.weak (aR (ih e d h1) (sP ih es Se h2) (u7 h1)) fun σ H Q q=>⟨q.1,fun v H1 s1 t1 _=>⟨q.1,?_⟩⟩
   intro vs H2 s2 t2 l2;e%q.2 (v::vs) H2 (s1.trans s2) (fun b hb=>.cons ((t1 b hb).az s2) (t2 b (sR s1 hb))) (by simp[l2])
  .cases h
t%GZ {X:Cx}(nm:Str->Option Int)(C:St->Prop)(UE:∀x i pos,nm x=some i->PE X (.Name x pos) (fun σ H Q=>C σ/\Q (.int i) H)):∀(n:Nat) (e:Expr) (d:PyData),lit nm n e=some d->PE X e (Pn C d):=by
 intro n;induction n with
 |zero=>intro e d h;cases h
 |succ n ih =>
  intro e d h;have h:wk nm (lit nm n) e=some d:=h;unfold wk at h;split at h
  .obtain⟨i,e1,rfl⟩:=Option.map_eq_some_iff.mp h;e%PE.weak (UE _ i _ e1) fun σ H Q q=>⟨q.1,q.2 _ H (ak.refl H) (fun b _=>.int _) (fun i e=>by cases e;rfl)⟩
  .cases h;e%PE.weak bE fun σ H Q q=>q.2 _ H (ak.refl H) (fun b _=>.int _) (fun i e=>by cases e;rfl)
  .cases h;e%PE.weak iG fun σ H Q q=>q.2 _ H (ak.refl H) (fun b _=>.bl _) (fun i e=>by cases e)
  .cases h;e%PE.weak wP fun σ H Q q=>q.2 _ H (ak.refl H) (fun b _=>.bO) (fun i e=>by cases e)
  .split at h
   .next ok=>cases h;e%PE.weak sh fun σ H Q q=>q.2 _ H (ak.refl H) (fun b _=>.str _ ok) (fun i e=>by cases e)
   .cases h
  .split at h
   .next i e1 =>
    cases h
    e%PE.weak (CD wz (ih _ _ e1)) fun σ H Q q=>⟨q.1,fun v H1 s1 t1 i1=>⟨_,i1 _ rfl,q.2 _ H1 s1 (fun b _=>.int _) (fun i e=>by cases e;rfl)⟩⟩
   .cases h
  .split at h
   .next i j e1 e2 =>
    cases h
    e%PE.weak (cT iz (ih _ _ e1) (ih _ _ e2)) fun σ H Q q=>⟨q.1,fun v H1 s1 t1 i1=>⟨q.1,fun v2 H2 s2 t2 i2=>⟨_,_,i1 _ rfl,i2 _ rfl,q.2 _ H2 (s1.trans s2) (fun b _=>.int _) (fun i e=>by cases e;rfl)⟩⟩⟩
   .cases h
  .split at h
   .next i j e1 e2 =>
    cases h
    e%PE.weak (cT si (ih _ _ e1) (ih _ _ e2)) fun σ H Q q=>⟨q.1,fun v H1 s1 t1 i1=>⟨q.1,fun v2 H2 s2 t2 i2=>⟨_,_,i1 _ rfl,i2 _ rfl,q.2 _ H2 (s1.trans s2) (fun b _=>.int _) (fun i e=>by cases e;rfl)⟩⟩⟩
   .cases h
  .split at h
   .next i j e1 e2 =>
    split at h
    .next hc =>
     cases h
     e%PE.weak (cT sj (ih _ _ e1) (ih _ _ e2)) fun σ H Q q=>⟨q.1,fun v H1 s1 t1 i1=>⟨q.1,fun v2 H2 s2 t2 i2=>⟨_,_,i1 _ rfl,i2 _ rfl,hc,q.2 _ H2 (s1.trans s2) (fun b _=>.int _) (fun i e=>by cases e;rfl)⟩⟩⟩
    .cases h
   .cases h
  .split at h
   .next hl =>
    o%⟨ds,e1,rfl⟩:=Option.map_eq_some_iff.mp h;r%PE.weak (gG (sP ih _ _ e1)) fun σ H Q q=>⟨q.1,fun vs H1 s1 t1 l1=>⟨?_,fun p hp=>?_⟩⟩
    .rw[l1,ju e1,sz];omega
    .exact q.2 _ _ (s1.new hp) (fun b hb=>.tup cQ ((t1 b hb).az ((ak.refl H1).new hp))) (fun i e=>by cases e)
   .cases h
  .split at h
   .next hl =>
    o%⟨ds,e1,rfl⟩:=Option.map_eq_some_iff.mp h;r%PE.weak (gI (sP ih _ _ e1)) fun σ H Q q=>⟨q.1,fun vs H1 s1 t1 l1=>⟨?_,fun p hp=>?_⟩⟩
    .rw[l1,ju e1,sz];omega
    .exact q.2 _ _ (s1.new hp) (fun b hb=>.lst (fun z=>sR s1 hb (z▸hp)) cQ ((t1 b hb).az ((ak.refl H1).new hp))) (fun i e=>by cases e)
   .cases h
  .cases h
t%C6 {X:Cx}(n:Nat)(e:Expr)(d:PyData)(h:lit (fun _=>none) n e=some d):PE X e (fun _ H Q=>∀v H',ak H H'->(∀b,H b≠none->iU b H' v d)->(∀i,d=.int i->v=.int i)->Q v H') :=
 PE.weak (GZ (fun _=>none) (fun _=>True) (fun x i pos e=>by cases e) n e d h) fun σ H Q q=>⟨trivial,q⟩
end L2
namespace EX
open PySem PySem.Spec PyProof.Rows
n%eH (C t:Addr)(hd:Value):Obj:={ cls:=.ref C,data:=.fields #[.ref t,hd,.none,.none,.bool false,.none] }
n%Hd (B:Heap)(e:Addr)(h:Heap)(v:Value):Prop:=v=.none\/∃T oT ts,v=.ref T/\B.get? T=none/\T≠e/\h.get? T=some oT/\oT.data=.fields ts/\3<ts.size
structure rN (B:Heap)(l:List Env)(e C t:Addr)(h:Heap):Prop where
 st:B.StaysIn h
 ne:B.get? e=none
 ff:h.FunFrames B l
 ob:∃hd,h.get? e=some (eH C t hd)/\Hd B e h hd
t%rN.tail {B:Heap}{env:Env}{l:List Env}{e C t:Addr}{h:Heap}(a:rN B (env::l) e C t h):rN B l e C t h:=⟨a.st,a.ne,a.ff.2.2,a.ob⟩
section
variable {M:Model}{A:Around}{E:Value->Shared->Prop}{s:Shared}{B:Heap}{env:Env}{outer:List Env}{L e C t:Addr}{Q:Unit->Shared->Prop}
t%rE {head:Value}{hn:Bool}(a:rN B (env::outer) e C t s.heap)(ng:A.frames=some (env::outer))(hf:env.frame=some L)
  (k:∀h',rN B (env::outer) e C t h'->s.heap.UpToSlots h'->Q () { s with heap:=h' }) :
  wpAny M A (do let fr <- frameOf env;let pl <- entryPlaceOf L hn;let x <- EntryCells.newEntry head fr .none (rawInt L) .none pl;setField (.ref e) 1 x) Q E s:=by
 o%⟨hd,he,_⟩:=a.ob;r%Za (wpAny_frameOf_fun ng a.ff hf fun g so=>?_);o%⟨_,Xx,Xw⟩:=so;have nfr:e∉(env::outer).filterMap (·.frame):=fun m=>by
  o%⟨_,o,ho,nf⟩:=a.ff.mem m;rw[he] at ho;cases ho;e%nf _ rfl
 have ge:g.get? e=some (eH C t hd):=(Xx e nfr).trans he;have gB:B.StaysIn g:=fun b o q=>(Xx b fun m=>by rw[(a.ff.mem m).1] at q;cases q).trans (a.st b o q)
 r%Za (wpAny_entryPlaceOf fun pl ipl=>?_);unfold EntryCells.newEntry newFields;r%Za (wpAny_newObj_type ?_ (ipl.sizeOk5 _ _ _ _ _));generalize hN:({ cls:=.type "traceback",dict:=none,data:=.fields ([head,.ref L,.none,rawInt L,.none]++(if pl.isEmpty then List.replicate 6 Value.none else pl)).toArray }:Obj)=oN;have g2:(g.push oN).get? e=some (eH C t hd):=Heap.get?_push_of_some _ ge;have gT:(g.push oN).get? g.objs.size=some oN:=Heap.get?_push_size g (by rw[<- hN];rfl);have Te:g.objs.size≠e:=Nat.ne_of_gt (Heap.lt_size ge);have nBT:B.get? g.objs.size=none:=by
  cases q:B.get? g.objs.size with
  |none=>rfl
  |some o=>e%absurd (Heap.lt_size (gB _ o q)) (Nat.lt_irrefl _)
 r%wpAny_setField g2 rfl (by show 1<6;decide) (k _ ?_ ?_)
 .refine⟨fun b o q=>?_,a.ne,?_,.ref g.objs.size,?_,.inr ⟨g.objs.size,oN,_,rfl,nBT,Te,?_,by rw[<- hN],?_⟩⟩
  .rw[Heap.get?_update_other _ _ (fun z=>by rw[<- z,a.ne] at q;cases q)];e%Heap.get?_push_of_some _ (gB b o q)
  .refine a.ff.of_keeps fun b o q nf=>?_
   o%⟨sl,q2⟩:=Xw b o q;r%⟨{ o with slots:=sl },?_,rfl⟩;rw[Heap.get?_update_other _ _ (fun z=>by rw[<- z,he] at q;cases q;e%nf _ rfl)];e%Heap.get?_push_of_some _ q2
  .exact Heap.get?_update_self _ g2 rfl
  .rw[Heap.get?_update_other _ _ Te.symm];e%gT
  .simp only[Zt,Zn,List.length_cons];omega
 .intro b o q nf;o%⟨sl,q2⟩:=Xw b o q;r%⟨sl,?_⟩;rw[Heap.get?_update_other _ _ (fun z=>by rw[<- z,he] at q;cases q;e%nf _ rfl)];e%Heap.get?_push_of_some _ q2
t%vn {T:Addr}{oT:Obj}{ts:Array Value}{v:Value}(a:rN B outer e C t s.heap)(nT:B.get? T=none)(Te:T≠e)(hT:s.heap.get? T=some oT)(dT:oT.data=.fields ts)(h3:3<ts.size)
  (k:∀h',rN B outer e C t h'->s.heap.UpToSlots h'->Q () { s with heap:=h' }):wpAny M A (setField (.ref T) 3 v) Q E s:=by
 o%⟨hd,he,hh⟩:=a.ob;r%wpAny_setField hT dT h3 ?_;have N8:∀b,b≠T->(s.heap.update T (Obj.mapFields (·.setIfInBounds 3 v))).get? b=s.heap.get? b:=fun b n=>Heap.get?_update_other _ _ (Ne.symm n)
 have YS:∀b o,s.heap.get? b=some o->(∀vs,o.data≠.fields vs)->b≠T:=fun b o q nf z=>by
  rw[z,hT] at q;cases q;e%nf _ dT
 r%k _ ⟨fun b o q=>?_,a.ne,a.ff.of_keeps fun b o q nf=>⟨o,(N8 b (YS b o q nf)).trans q,rfl⟩,hd,(N8 e Te.symm).trans he,?_⟩ fun b o q nf=>⟨o.slots,(N8 b (YS b o q nf)).trans q⟩
 .exact(N8 b fun z=>by rw[z,nT] at q;cases q).trans (a.st b o q)
 .rcases hh with z |⟨T2,o2,t2,z,n2,e2,h2,d2,s2⟩
  .exact .inl z
  .by_cases w:T2=T
   .subst w;rw[hT] at h2;cases h2;have:=Obj.data_mapFields dT (·.setIfInBounds 3 v);e%.inr ⟨T2,_,_,z,n2,e2,Heap.get?_update_self _ hT (Obj.isFreed_of_fields this),this,by simpa using h3⟩
   .exact .inr ⟨T2,o2,t2,z,n2,e2,(N8 T2 w).trans h2,d2,s2⟩
t%pG (a:rN B (env::outer) e C t s.heap)(ng:A.frames=some (env::outer))(hf:env.frame=some L)
  (k:∀h',rN B (env::outer) e C t h'->s.heap.UpToSlots h'->Q () { s with heap:=h' }):wpAny M A (noteFrame (.ref e) env) Q E s:=by
 o%⟨hd,he,hh⟩:=a.ob;unfold noteFrame;simp only[hf];r%Za (wpAny_field he rfl (x:=hd) rfl ?_);rcases hh with rfl |⟨T,oT,ts,rfl,nT,Te,hT,dT,h3⟩
 .rw[if_neg d%];e%rE a ng hf k
 .rw[if_pos (show(Value.ref T != Value.none)=true from by simp)];r%Za (wpAny_field hT dT (x:=ts[3]) (by rw[Array.getElem?_eq_getElem h3]) ?_);by_cases hv:(ts[3] == rawInt L)=true
  .rw[if_pos hv];e%wpAny_pure (k s.heap a (Heap.UpToSlots.refl _))
  .rw[if_neg hv];r%Za (vn a nT Te hT dT h3 fun h1 a1 u1=>?_);e%rE (s:={ s with heap:=h1 }) a1 ng hf fun h2 a2 u2=>k h2 a2 (u1.trans u2)
t%jw (a:rN B outer e C t s.heap)(k:∀h',rN B outer e C t h'->s.heap.UpToSlots h'->Q () { s with heap:=h' }):wpAny M A (setFlight (.ref e) none) Q E s:=by
 o%⟨hd,he,hh⟩:=a.ob;unfold setFlight;r%Za (wpAny_field he rfl (x:=hd) rfl ?_);rcases hh with rfl |⟨T,oT,ts,rfl,nT,Te,hT,dT,h3⟩
 .rw[if_neg d%];e%wpAny_pure (k s.heap a (Heap.UpToSlots.refl _))
 .rw[if_pos (show(Value.ref T != Value.none)=true from by simp)];e%vn a nT Te hT dT h3 k
t%rD (a:rN B (env::outer) e C t s.heap)(ng:A.frames=some (env::outer))(hf:env.frame=some L)
  (k:∀h',rN B outer e C t h'->s.heap.UpToSlots h'->Q () { s with heap:=h' }):wpAny M A (leaving env (.ref e)) Q E s:=by
 unfold leaving;r%Za (pG a ng hf fun h1 a1 u1=>?_);e%jw (s:={ s with heap:=h1 }) a1.tail fun h2 a2 u2=>k h2 a2 (u1.trans u2)
end
end EX
namespace L2
open PySem PySem.Spec PyProof.Rows EX
t%MH {P:Program}{w:World}{H:Hp}{h:Heap}{a:Addr}{o:HO}(x:bZ P w H h a o):∃u,h.get? a=some u:=by
 cases o with
 |lst xs=>o%⟨_,_,_,_,q⟩:=x;e%⟨_,q⟩
 |tup xs=>o%⟨_,_,_,⟨_,q,_⟩⟩:=x;e%⟨_,q⟩
 |dK kvs=>o%⟨_,_,_,_,_,_,_,q,_⟩:=x;e%⟨_,q⟩
 |dT kvs=>o%⟨_,_,_,_,_,_,_,q,_⟩:=x;e%⟨_,q⟩
 |set S n=>o%⟨_,_,_,_,q,_⟩:=x;e%⟨_,q⟩
 |ins C dx fs=>o%⟨_,_,_,q,_⟩:=x;e%⟨_,q⟩
 |own y=>e%x
 |xd fs=>o%⟨_,⟨_,_,_,q,_⟩,_⟩:=x;e%⟨_,q⟩
 |RK lo hi=>o%⟨_,_,_,q⟩:=x;e%⟨_,q⟩
 |jU ob u=>e%⟨_,x.1⟩
 |pU ps=>e%⟨_,x⟩
 |met f y=>e%⟨_,x⟩
 |ext φ=>e%x.2.1
t%ze {h base B:Heap}:∀{l:List Env},(∀b∈iL l,B.get? b=none)->h.FunFrames base l->h.FunFrames B l
 |[],_,_=>trivial
 |env::r,hB,⟨hk,⟨L,o,hf,hn,ho,hd⟩,hr⟩ =>
  ⟨hk,⟨L,o,hf,hB L (by unfold iL;rw[List.filterMap_cons,hf];e%Zo),ho,hd⟩,
   ze (fun b hb=>hB b (by unfold iL;rw[List.filterMap_cons,hf];e%Zk _ hb)) hr⟩
n%kD (P:Program)(w:World):x6:=fun outer H s E e s'=>∃(a C t:Addr) (B:Heap) (H':Hp),e=.ref a/\s'.os=s.os/\AllBare s'.gens/\Un (iL outer) [] H H' s.heap s'.heap/\jV P w H' B /\
 (∀b o,s.heap.get? b=some o->b∉iL outer->(∃o',B.get? b=some o')/\(H b=none->B.get? b=some o))/\rN B outer a C t s'.heap/\s.heap.get? a=none/\H' a=none/\E (.ref C) none H'
section
variable {P:Program}{w:World}{K:PySem.W.Frag}{mg:Str->Option Value}{base:Heap}{N:List Str}{qual:Str}{scope:Scope}{f:Addr}{cd:Value}{A:Around}{outer:List Env}{aT:Shared}{aE:Hp}{E:XK}
t%zd {aa:List (Addr×Obj)}{σ:St}{H H':Hp}{s s':Shared}{a C t:Addr}{B h':Heap}(I:Inv (gR (kD P w) P w K mg base N qual scope f cd A outer aT aE E) aa σ H s)
  (os:s'.os=s.os) (bare:AllBare s'.gens) (un:Un (envOfC qual scope aT.heap.objs.size f cd::outer |> iL) [] H H' s.heap s'.heap) (bp:jV P w H' B)
  (gS:∀b o,s.heap.get? b=some o->b∉iL (envOfC qual scope aT.heap.objs.size f cd::outer)->(∃o',B.get? b=some o')/\(H b=none->B.get? b=some o))
  (ff:s'.heap.FunFrames B (envOfC qual scope aT.heap.objs.size f cd::outer)) (uf:rN B outer a C t h') (up:s'.heap.UpToSlots h') (na:s.heap.get? a=none) (A4:H' a=none) (he:E (.ref C) none H'):kD P w outer aE aT E (.ref a) { s' with heap:=h' }:=by
 have A3:∀b o,aT.heap.get? b=some o->b∉iL outer->b∉iL (envOfC qual scope aT.heap.objs.size f cd::outer):=fun b o q n m=>by
  rcases Zf.mp (I.me b m) with z |z
  .have:b<aT.heap.objs.size:=Heap.lt_size q;have h2:aT.heap.objs.size<=b:=by rw[z];e%I.ok.above
   e%absurd (Ya this h2) (Nat.lt_irrefl _)
  .exact n z
 have KS:∀b,b∈iL outer->b∈iL (envOfC qual scope aT.heap.objs.size f cd::outer):=fun b m=>by
  unfold iL;rw[List.filterMap_cons];e%Zk _ m
 have ub:Un (iL outer) [] aE H aT.heap s.heap:=I.base;r%⟨a,C,t,B,H',rfl,os.trans I.os,bare,⟨fun b o q n nf _=>?_,fun b o q n m _=>?_,fun b o q n _=>?_,fun b o q _=>?_,fun b xs q=>un.j4 b xs (ub.j4 b xs q),fun b o u q=>un.md b o u (ub.md b o u q),fun b ps q=>?_⟩,bp,fun b o q nf=>?_,uf,?_,A4,he⟩
 .exact uf.st b o ((gS b o (ub.keep b o q n nf i%) (A3 b o q nf)).2 (ub.free b o q n i%))
 .obtain⟨sl,q1⟩:=ub.slot b o q n m i%;o%⟨cy,q2⟩:=un.slot b _ q1 (ub.free b o q n i%) (KS b m) i%;o%⟨_,o3,q3,nf⟩:=ff.mem (KS b m);rw[q2] at q3;cases q3;o%⟨NY,q4⟩:=up b _ q2 nf;e%⟨NY,q4⟩
 .obtain⟨o',q1⟩:=ub.there b o q i%;e%un.free b o' q1 (ub.free b o q n i%) i%
 .obtain⟨o',q1⟩:=ub.there b o q i%;by_cases m:b∈iL outer
  .obtain⟨_,o3,q3,nf⟩:=ff.mem (KS b m);o%⟨NY,q4⟩:=up b _ q3 nf;e%⟨_,q4⟩
  .obtain⟨o2,q2⟩:=(gS b o' q1 (A3 b o q m)).1;e%⟨o2,uf.st b o2 q2⟩
 .obtain⟨m1,e1⟩:=ub.mQ b ps q;o%⟨m2,e2⟩:=un.mQ b _ e1;e%⟨m1++m2,by rw[e2,Array.append_assoc]⟩
 .obtain⟨o',q1⟩:=ub.there b o q i%;r%⟨(gS b o' q1 (A3 b o q nf)).1,fun n=>?_⟩;have q2:=ub.keep b o q n nf i%;e%(gS b o q2 (A3 b o q nf)).2 (ub.free b o q n i%)
 .cases q:aT.heap.get? a with
  |none=>rfl
  |some o =>
   o%⟨o',q1⟩:=ub.there a o q i%;rw[na] at q1;cases q1
t%yh:mn (kD P w) (gR (kD P w) P w K mg base N qual scope f cd A outer aT aE E) E:=by
 intro aa σ H s e s' I h;o%⟨a,C,t,B,H',rfl,os,bare,un,bp,gS,uf,na,A4,he⟩:=h;r%rD (L:=aT.heap.objs.size) uf I.ok.frames rfl fun h' r8 up=>?_
 e%zd I os bare un bp gS uf.ff r8 up na A4 he
t%LQ {aa:List (Addr×Obj)}{σ:St}{H:Hp}{s:Shared}{h1:Heap}{a C:Addr}{args:List Value}(I:Inv (gR (kD P w) P w K mg base N qual scope f cd A outer aT aE E) aa σ H s)(mk:Heap.MadeExcOf s.heap h1 a (.ref C) args)(he:E (.ref C) none H) :
  (gR (kD P w) P w K mg base N qual scope f cd A outer aT aE E).xe (.ref a) { s with heap:=h1 }:=by
 o%⟨t,ht,htn,_⟩:=mk.there;have FZ:∀b u,H b=some u->b∉iL (envOfC qual scope aT.heap.objs.size f cd::outer):=fun b u q m=>by
  have:=I.sG b m;rw[q] at this;cases this
 have hB:∀b∈iL (envOfC qual scope aT.heap.objs.size f cd::outer),(PySem.W.hideAll s.heap (iL (envOfC qual scope aT.heap.objs.size f cd::outer))).get? b=none:=fun b m=>PySem.W.hideAll_none _ m
 have WV:jV P w H (PySem.W.hideAll s.heap (iL (envOfC qual scope aT.heap.objs.size f cd::outer))):=fun b u q =>
  (I.bp b u q).az (fun c v hc qc=>PySem.W.hideAll_get _ qc (by
   rcases hc with z |z
   .rw[z];e%FZ b u q
   .exact FZ c _ z)) (fun _ z=>z) fun _ _ z=>z
 have A4:H a=none:=by
  cases q:H a with
  |none=>rfl
  |some u =>
   o%⟨o,ho⟩:=MH (I.bp a u q);rw[mk.new] at ho;cases ho
 have Qw:rN (PySem.W.hideAll s.heap (iL (envOfC qual scope aT.heap.objs.size f cd::outer))) (envOfC qual scope aT.heap.objs.size f cd::outer) a C t h1:=by
  r%⟨fun b o q=>mk.keeps b o (PySem.W.of_hideAll _ q),?_,(ze hB I.stack).of_keeps fun b o q _=>⟨o,mk.keeps b o q,rfl⟩,.none,ht,.inl rfl⟩;cases q:(PySem.W.hideAll s.heap (iL (envOfC qual scope aT.heap.objs.size f cd::outer))).get? a with
  |none=>rfl
  |some o=>have:=PySem.W.of_hideAll _ q;rw[mk.new] at this;cases this
 r%rD (s:={ s with heap:=h1 }) (L:=aT.heap.objs.size) Qw I.ok.frames rfl fun h' r8 up=>?_
 e%zd (s':={ s with heap:=h1 }) I rfl I.bare (Un.kept mk.keeps) WV (fun b o q n=>⟨⟨o,PySem.W.hideAll_get _ q n⟩,fun _=>PySem.W.hideAll_get _ q n⟩) Qw.ff r8 up mk.new A4 he
t%cE.N9 {x qual:Str}{st:Stmt}{f:Addr}{fd:FuncData}{N ps:List Str}{k:Nat}{sp:Sp}(F:cE K x qual st f fd)(S:ap N ps (aX st))(len:∀vs H Q E,sp vs H Q E->vs.length=ps.length)
  (oH:∀(bF:Value) (A:Around) (outer:List Env) (s:Shared) (H:Hp) (vs:List V) (Q:VK) (E:XK),cR k (A.deeper (envOfC qual (aX st) s.heap.objs.size f bF))->sp vs H Q E ->
   ∃t,iM (gR (kD P w) P w K mg base N qual (aX st) f bF A outer s H E) (Bn st) t/\t { nx:=fun _ H'=>Q .bO H',rt:=Q } (start N vs) H):aM P w K mg base (kD P w) (k+1) f fd ps sp:=by
 o%⟨oc,od,kV,qB,pm,an,bF,ct,EY,rfl,lk,v8⟩:=F.ex;e%Jj lk v8 S len fun A outer s H vs Q E hr v3=>oH bF A outer s H vs Q E hr v3
end
n%Lk (E:XK)(C:Addr)(t:TA):TS:=fun _ σ H=>t σ H fun vs H1=>vs.length<=sizeLine/\E (.ref C) none H1
t%uU {P:Program}{w:World}{K:PySem.W.Frag}{mg:Str->Option Value}{base:Heap}{N:List Str}{qual:Str}{scope:Scope}{f:Addr}{cd:Value}{A:Around}{outer:List Env}{aT:Shared}{aE:Hp}{E:XK}
  {x:Str}{C:Addr}{e:Expr}{es:List Expr}{t:TA}{np bW pos:Pos}{OY:List Value}{B ux wW:String}(FB:ExcBaseFacts B ux wW OY) (hg:Gl (gR (kD P w) P w K mg base N qual scope f cd A outer aT aE E) x) (hm:mg x=some (.ref C)) (hx:PySem.W.excIn K C OY ux=true)
  (ha:PA (gR (kD P w) P w K mg base N qual scope f cd A outer aT aE E) (e::es) t) (hd:y%((x == ("__debug__" : Str))=false))
  (he:x%(starEach (e::es) (envOfC qual scope aT.heap.objs.size f cd)=(false,eval e (envOfC qual scope aT.heap.objs.size f cd))::starEach es (envOfC qual scope aT.heap.objs.size f cd)))
  (gk:x%((backTo bW (starEach es (envOfC qual scope aT.heap.objs.size f cd))).any (·.1)=false)) :
  PS (gR (kD P w) P w K mg base N qual scope f cd A outer aT aE E) (.Raise (some (.Call (.Name x np) (e::es) [] bW)) none pos) (Lk E C t):=by
 intro aa s σ H D I h;unfold PySem.W.excIn at hx;split at hx
 .rename_i dd cdd sl ho;split at hx
  .rename_i C' bm k0 k1 k2 k3 n k5 Qc hs;simp only[Zl,beq_iff_eq,Bool.not_eq_true'] at hx;o%⟨⟨⟨⟨⟨rfl,rfl⟩,Qk⟩,ht⟩,bp⟩,Y9⟩:=hx;o%⟨nm,bs,mro,ns,qn,hdd,sn,sub,ab,col,del⟩:=cdd;dsimp only at Qc Qk bp Y9;subst Qc Qk;have hsl:sl=#[k0,k1,k2,k3,some (.builtin n),k5]:=by
    o%⟨l⟩:=sl;simp only at hs;rw[hs]
   subst hsl;have kb:K.In base:=I.ok.mod.HY;have nsB:=Heap.Ns.of_isNs (PySem.W.isNs_of_in kb bp);r%wpAny_Raise_call_subT FB (C:=C') (nm:=nm) (q:=qn) (N:=ns) (bs:=bs) (bm:=bm) (hdct:=hdd) (sn:=sn) (sub:=sub) (ab:=ab) (col:=col) (dd:=dd) (k0:=k0) (k1:=k1) (k2:=k2) (k3:=k3) (k5:=k5) (mN:=base.nsMap ns)
    ((PySem.W.tail_of_in kb ht).hasType FB.hasBase) (I.ok.hd rfl) ?_ (PySem.W.nsMap_none_of_in kb bp Y9) ?_
   .show(backTo bW (starEach (e::es) (envOfC qual scope aT.heap.objs.size f cd))).any (·.1)=false;rw[he];show(false||(backTo bW (starEach es (envOfC qual scope aT.heap.objs.size f cd))).any (·.1))=false;rw[gk];rfl
   .refine fi I hg hm ⟨rfl,?_⟩ hd;show wpAny _ _ (evalArgs (.ref C') true (backTo bW (starEach (e::es) (envOfC qual scope aT.heap.objs.size f cd))) []) _ _ s;have ha':=ha bW aa s σ H _ I h;have R5:wpAny (model P w) (A.deeper (envOfC qual scope aT.heap.objs.size f cd)) (spliced (backTo bW (starEach (e::es) (envOfC qual scope aT.heap.objs.size f cd)))) _ _ s:=ha';rw[he] at R5 ⊢;r%Calls.evalArgs_plain (bi R5 fun us s2 ⟨vs,H2,I2,r,z,q⟩=>?_);e%⟨rfl,by rw[<- r.length];e%z,I2.bk _ _ (kb _ _ ho),nsB.keeps I2.bk,(PySem.W.tail_of_in kb ht).keeps I2.bk,fun h' a mk=>LQ I2 mk q⟩
  .cases hx
 .cases hx
end L2
namespace EX
open PySem PySem.Spec PyProof.Rows
t%qu:entryFor table "proto.unchain"=some Builtin.«proto.unchain»:=entryFor_of_tree (by kernel_rfl)
section
variable {prog:Program}{w:World}{A:Around}{E:Value->Shared->Prop}{s:Shared}
t%qo {α : Type}{Q:α->Shared->Prop}{a hA C t:Addr}{hd:Value}{oa:Obj}{vs:Array Value}(hh:A.handled=some (.ref hA))(ne:hA≠a)(hH:s.heap.get? hA=some (eH C t hd))(ha:s.heap.get? a=some oa)(da:oa.data=.fields vs)(hz:2<vs.size)
  (h:E (.ref a) { s with heap:=s.heap.update a (Obj.mapFields (·.setIfInBounds 2 (.ref hA))) }):wpAny (model prog w) A (raiseNew (.ref a):Sem α) Q E s:=by
 unfold raiseNew;r%Za (wpAny_handled ?_);rw[hh];have n:((Value.ref hA != Value.ref a)=true):=by simp[ne]
 simp only[n,if_true];r%Za (wpAny_holding (wpAny_runValue (codeAny_builtin qu ?_)));unfold Builtin.«proto.unchain»;r%Za (wpAny_field hH rfl (x:=.none) rfl ?_);rw[if_pos d%];have back:wpAny (model prog w) A (do updateField a 2 (Value.ref hA);throw (Value.ref a):Sem α) Q E s:=by
  unfold updateField;r%Za (Za (wpAny_load ha ?_));rw[da];show wpAny _ _ (if 2<vs.size then _ else _) _ _ s;rw[if_pos hz];e%wpAny_update ha (wpAny_throw h)
 first
  |e%wpAny_pure back
  |e%Za (wpAny_pure (wpAny_pure back))
  |e%Za (wpAny_pure back)
  |(wp_walk;e%back)
t%vq {hA C t:Addr}{hd:Value}{it:Addr}{x left step:Int}{Q:Option Value->Shared->Prop}(hh:A.handled=some (.ref hA))(hH:s.heap.get? hA=some (eH C t hd))(Ff:IsRangeIter s.heap it x left step)(hl:left<=0)
  (k:∀h',Heap.ExtBut it s.heap h'->Q none { s with heap:=h' }):wpAny (model prog w) A (pyNext (.ref it)) Q E s:=by
 have ty:s.TypeIs (.ref it) "range_iterator":=⟨_,Ff,rfl⟩;unfold pyNext;r%Za (wpAny_attempt (wpAny_callSpecial?_slot (name:=Str.ofString "__next__") ty F.slot_range_iterator_next (wpAny_call_entry F.slot_range_iterator_next ty F.entry_range_iterator_next ?_ (F.args_range_iterator_next_1 _))));show wpAny _ _ (field (.ref it) 0 >>= _) _ _ s;r%Za (wpAny_field Ff rfl (x:=rawInt x) rfl ?_);show wpAny _ _ (field (.ref it) 1 >>= _) _ _ s;r%Za (wpAny_field Ff rfl (x:=rawInt left) rfl ?_);show wpAny _ _ (field (.ref it) 2 >>= _) _ _ s;r%Za (wpAny_field Ff rfl (x:=rawInt step) rfl ?_);show wpAny _ _ (if left<=0 then _ else _) _ _ s;rw[if_pos hl];r%Za (wpAny_rule (Za ?_));show wpAny _ _ (newExc (.type "StopIteration") [] >>= _) _ _ _;r%Za ?_;simp only[newExc,newTuple];r%Za (wpAny_newObj_type ?_ (by size_fits));r%Za (m:=firstArgMember _ _) (wpAny_of_eq (a:=Value.none) (by first |rfl |(simp only[firstArgMember];rfl)) ?_);r%wpAny_newObj_type ?_ (by size_fits);r%qo (hA:=hA) (C:=C) (t:=t) (hd:=hd) (by first |e%hh |(show A.in1.handled=_;e%hh)) ?_ (Heap.get?_push_of_some _ (Heap.get?_push_of_some _ hH)) (Heap.get?_push_size _ rfl) rfl ?_ ?_
 .exact Yd (Ya (Heap.lt_size hH) (by rw[Heap.size_push];e%Nat.le_succ _))
 .simp only[Zt,Zn,List.length_cons,Array.size_append];first |omega |(simp;omega) |decide
 .refine Za (wpAny_isInstance (T:="StopIteration") (b:=true) ⟨_,Heap.get?_update_self _ (Heap.get?_push_size _ rfl) ?_,Obj.cls_mapFields _ _⟩ isSubtype_stop ?_)
  .exact Obj.isFreed_of_fields (Obj.data_mapFields rfl _)
  .refine wpAny_pure (k _ fun b o nb q=>?_);have lt:=Heap.lt_size q;r%(Heap.get?_update_other _ _ ?_).trans (Heap.get?_push_of_some _ (Heap.get?_push_of_some _ q));e%Nat.ne_of_gt (Ya lt (by rw[Heap.size_push];e%Nat.le_succ _))
end
end EX
namespace L2
open PySem PySem.Spec PyProof.Rows EX
n%Qt (X:Cx):Prop:=X.calm=true\/∃hA C t hd,X.A.handled=some (.ref hA)/\(hA,eH C t hd)∈X.pn
n%uq (X:Cx)(scope:Scope)(C:Addr)(N:List Str)(fp:List Addr)(s:Shared)(H:Hp):Cx:={ gl X scope C N fp s H with pn:=X.pn }
t%Inv.Np {X:Cx}{scope:Scope}{own cap:List Str}{ix:List Nat}{aa:List (Addr×Obj)}{σ:St}{H:Hp}{s:Shared}(I:Inv X aa σ H s)(B:aA X scope own cap ix){fp:List Addr}(hf:∀b∈fp,cY X aa H b)(ho:∀b∈fp,∃o,s.heap.get? b=some o) :
  Inv (uq X scope s.heap.objs.size (own++cap) fp s H) [] (eX own.length ix σ) H { s with heap:=pushCells (s.heap.push { cls:=.type "dict",data:=.dict #[] }) scope.names }:=by
 have J:=I.block B hf ho;r%⟨⟨J.ok.mod,J.ok.kind,J.ok.glob,J.ok.blt,J.ok.above,J.ok.inj,J.ok.has,J.ok.Ik,J.ok.hd,J.ok.frames,J.ok.A3,J.ok.zH,J.ok.bs,J.ok.Bf,J.ok.uk,J.ok.on,J.ok.iW,J.ok.Fh⟩,J.os,J.bare,J.base,J.loc,J.cell,J.free,J.fY,fun p hp=>?_,J.bp,J.len⟩;have Fe:p∈X.pn:=by simpa using(show p∈X.pn++[] from hp)
 o%⟨q1,q2,q3,q4,q5⟩:=I.pin p (Yr _ Fe);r%⟨pushCells_keeps _ _ _ _ (Heap.get?_push_of_some _ q1),q2,?_,?_,q5⟩
 .exact Yd (Heap.lt_size q1)
 .intro z;rcases Zf.mp (I.me p.1 z) with e |e
  .exact q3 e
  .exact q4 e
structure CP (P:Program)(w:World)(K:PySem.W.Frag)(tg:Expr)(J:It)(fp:List Addr)(it:Addr)(tn:Nat->Heap->Prop):Prop where
 mem:it∈fp
 obj:∀i h,tn i h->∀b∈fp,∃o,h.get? b=some o/\∀v,o.data≠.cell v
 keep:∀i h h',tn i h->(∀b∈fp,∀o,h.get? b=some o->h'.get? b=some o)->tn i h'
 item:∀(X:Cx),X.prog=P->X.w=w->X.K=K->Qt X->∀(i:Nat) (aa:List (Addr×Obj)) (s:Shared) (σ:St) (H:Hp) (E:Value->Shared->Prop),Inv X aa σ H s->(∀b∈fp,cY X aa H b)->tn i s.heap->J.go i H ->
  wpAny (model P w) X.A (pyNext (.ref it)) (fun r s1=>∃u,r=some u /\
   wpAny (model P w) X.A (letOwnedTupleGo tg (.ref it) u) (fun _ s2=>∃x H',Inv X aa σ H' s2/\RelV x u/\J.xQ i H x H'/\tn (i+1) s2.heap/\∀b∈fp,H' b=none) E s1) E s
 done:∀(X:Cx),X.prog=P->X.w=w->X.K=K->Qt X->∀(i:Nat) (aa:List (Addr×Obj)) (s:Shared) (σ:St) (H:Hp) (E:Value->Shared->Prop),Inv X aa σ H s->(∀b∈fp,cY X aa H b)->tn i s.heap->J.stop i H ->
  wpAny (model P w) X.A (pyNext (.ref it)) (fun r s1=>r=none/\Inv X aa σ H s1) E s
 self:∀(A:Around) (i:Nat) (s:Shared) (Q:Value->Shared->Prop) (E:Value->Shared->Prop),tn i s.heap->Q (.ref it) s->wpAny (model P w) A (pyIter (.ref it)) Q E s
n%Qz (X:Cx)(aa:List (Addr×Obj))(σ:St)(tg:Expr)(R:It->Hp->Prop)(Fb:Value)(s2:Shared):Prop :=
 ∃(it:Addr) (fp:List Addr) (tn:Nat->Heap->Prop) (J:It) (H':Hp),Fb=.ref it/\Inv X aa σ H' s2/\CP X.prog X.w X.K tg J fp it tn/\tn 0 s2.heap/\(∀b∈fp,cY X aa H' b)/\R J H'
n%PIR (X:Cx)(tg iter:Expr)(wi:TI):Prop :=
 ∀(aa:List (Addr×Obj)) (s:Shared) (σ:St) (H:Hp) (R:It->Hp->Prop),Inv X aa σ H s->wi σ H R ->
  wpAny (model X.prog X.w) X.A (eval iter X.env) (fun v s1=>wpAny (model X.prog X.w) X.A (pyIter v) (Qz X aa σ tg R) X.xe s1) X.xe s
t%vp {P:Program}{w:World}{K:PySem.W.Frag}{tg:Expr}(it:Addr)(lo:Int)(n:Nat):CP P w K tg (BD lo n) [it] it (fun i h=>IsRangeIter h it (lo+(i:Nat)*1) ((n:Int)-(i:Nat)) 1) where
 mem:=by simp
 obj:=fun i h st b hb=>by
  have e:b=it:=by simpa using hb
  subst e;e%⟨_,st,fun v z=>by
   have z':Data.fields _=Data.cell v:=z;cases z'⟩
 keep:=fun i h h' st k=>k it i% _ st
 item:=by
  intro X hP hw hK hc i aa s σ H E I hf st hg;subst hP hw hK;o%⟨f0,f1,f2,f3,f4,f5⟩:=hf it i%;have NM:i<n:=hg;r%wpAny_pyNext_range_item st g% fun h' xS kk=>?_
  have I1:Inv X aa σ H { s with heap:=h',toks:=s.toks+1 }:=I.turned (fun b o hb e=>(kk.2 b hb).trans e) f0 f1 f3 f4 f5;have gP:IsRangeIter h' it (lo+((i+1:Nat):Int)*1) ((n:Int)-((i+1:Nat):Int)) 1:=by
   have e1:lo+((i+1:Nat):Int)*1=lo+(i:Int)*1+1:=by omega
   have e2:(n:Int)-((i+1:Nat):Int)=(n:Int)-(i:Int)-1:=by omega
   rw[e1,e2];e%xS
  r%⟨_,rfl,uE (s:={ s with heap:=h',toks:=s.toks+1 }) (n:="range_iterator") gP rfl rfl d% ⟨.int (lo+i),H,I1,⟨s.toks,?_⟩,⟨rfl,rfl⟩,gP,fun b hb=>(hf b hb).1⟩⟩;rw[Int.mul_one]
 done:=by
  intro X hP hw hK hc i aa s σ H E I hf st hg;subst hP hw hK;o%⟨f0,f1,f2,f3,f4,f5⟩:=hf it i%;rcases hc with hc |⟨hA,C,t,hd,hh,hp⟩
  .exact wpAny_pyNext_range_end (I.ok.hd hc) st (by have:n<=i:=hg;omega) fun h' eb=>⟨rfl,I.turned (t':=s.toks) (fun b o hb e=>eb b o hb e) f0 f1 f3 f4 f5⟩
  e%EX.vq hh (I.pin _ (Yr _ hp)).1 st (by have:n<=i:=hg;omega) fun h' eb=>⟨rfl,I.turned (t':=s.toks) (fun b o hb e=>eb b o hb e) f0 f1 f3 f4 f5⟩
 self:=fun _ _ _ _ _ st h=>wpAny_pyIter_rangeiter st h
section
variable {X:Cx}{tg:Expr}
t%Aq {aa:List (Addr×Obj)}{σ:St}{H:Hp}{s:Shared}{R:It->Hp->Prop}{E:Value->Shared->Prop}{lo hi:Int}{t u v:Tok}{tk:Nat}(I:Inv X aa σ H s)(h1:-(2 ^ 62)<=lo)(h2:lo<2 ^ 62)(h3:-(2 ^ 62)<=hi)(h4:hi<2 ^ 62)
  (q:R (BD lo (hi-lo).toNat) H):wpAny (model X.prog X.w) X.A (pyIter (.ref s.heap.objs.size)) (Qz X aa σ tg R) E { s with heap:=s.heap.push { cls:=.type "range",data:=.fields #[.int lo t,.int hi u,.int 1 v] },toks:=tk }:=by
 r%wpAny_pyIter_range (IsRange.new ..) (small_one h1 h2 h3 h4) ?_;have I1:Inv X aa σ H { s with heap:=s.heap.push { cls:=.type "range",data:=.fields #[.int lo t,.int hi u,.int 1 v] },toks:=tk }:=I.kept fun b o e=>Heap.get?_push_of_some _ e
 r%⟨(s.heap.push { cls:=.type "range",data:=.fields #[.int lo t,.int hi u,.int 1 v] }).objs.size,[(s.heap.push { cls:=.type "range",data:=.fields #[.int lo t,.int hi u,.int 1 v] }).objs.size],_,_,H,rfl,
  I1.kept (t':=tk) fun b o e=>Heap.get?_push_of_some _ e,vp _ lo (hi-lo).toNat,?_,fun b hb=>?_,q⟩
 .have e1:lo+((0:Nat):Int)*1=lo:=by simp
  have e2:(((hi-lo).toNat:Nat):Int)-((0:Nat):Int)=Builtin.Range.rangeSize lo hi 1:=by rw[rangeSize_one];split<;>omega
  show IsRangeIter _ _ (lo+((0:Nat):Int)*1) ((((hi-lo).toNat:Nat):Int)-((0:Nat):Int)) 1;rw[e1,e2];e%Heap.get?_push_size _ rfl
 .have e:b=(s.heap.push { cls:=.type "range",data:=.fields #[.int lo t,.int hi u,.int 1 v] }).objs.size:=by simpa using hb
  subst e;e%I1.jR (Ze _) (I1.bp.fresh (Ze _))
t%xo {a:Expr}{ta:TA}{p pos:Pos}(hg:Gl X "range")(hm:X.mg "range"=none)(ha:PA X [a] ta)(hs:x%(starEach [a] X.env=[(false,eval a X.env)])):PIR X tg (.Call (.Name "range" p) [a] [] pos) (Jb ta):=by
 intro aa s σ H R I h;r%Call_ (gd I hg hm boot_range (PyProof.Rows.callWith_type1 (bi (ha pos aa s σ H _ I h) fun us s1 ⟨vs,H1,I1,r1,q1⟩=>?_) hs rfl));o%⟨j,e,q1,q2,q⟩:=q1;subst e;cases r1 with
 |cons r rr =>
  cases rr
  o%⟨t,rfl⟩:=r;e%call_range_1 (Aq I1 g% g% q1 q2 (by simpa using q))
end
section
variable {X:Cx}{scope:Scope}{own cap:List Str}{ix:List Nat}{tg iter dm:Expr}{fu:List Expr}{wi:TI}{g:TG}{tt:TT}{te:TE}{pos:Pos}
t%xK {aa:List (Addr×Obj)}{σ:St}{H2:Hp}{s2:Shared}{it:Addr}{fp:List Addr}{tn:Nat->Heap->Prop}{J:It}{Q:VK}{RR:Value->Addr->Result->Shared->Prop}{E:Value->Shared->Prop}
  (B:aA X scope own cap ix) (hc:Qt X)
  (hb:∀C fp s H,PG (uq X scope C (own++cap) fp s H) tg g/\fH (uq X scope C (own++cap) fp s H) fu tt/\PE (uq X scope C (own++cap) fp s H) dm te)
  (I2:Inv X aa σ H2 s2) (T:CP X.prog X.w X.K tg J fp it tn) (gP:tn 0 s2.heap) (f2:∀b∈fp,cY X aa H2 b)
  (q:∀acc,H2 acc=none->cw g tt te J acc (eX own.length ix σ) H2 Q)
  (JQ:∀D C H' s' m,Inv X aa σ H' s'->Q (.ref D) H'->s'.heap.Ns C m->cY X aa H' C->RR (.ref D) C (.ok .next) s') :
  wpAny (model X.prog X.w) X.A (newList []) (fun acc cU=>wpAny (model X.prog X.w) X.A (newFunctionEnv scope X.env.globals (et X.env scope.names []) [] X.env.qual none .none (some X.env)) (fun ou iq =>
   codeAny (model X.prog X.w) X.A (.compStart (.ListComp dm [⟨tg,iter,fu,0⟩] scope pos) 0 (.ref it) acc { ou with scope:=relabel scope X.env }) (RR acc ou.locals) iq) E cU) E s2:=by
 r%wpAny_newObj_type (gz ?_);have I3:Inv X aa σ (aK H2 s2.heap.objs.size (.lst [])) { s2 with heap:=s2.heap.push { cls:=.type "list",dict:=none,data:=.seq ([]:List Value).toArray } }:=I2.BM (its:=[]) (ys:=[]) (t':=s2.toks) .nil (Nat.zero_le _);o%⟨W,⟨m0,w0⟩,turn⟩:=q s2.heap.objs.size I2.fresh;generalize hD:s2.heap.objs.size=D at I3 w0 turn ⊢;have cN:∀b∈fp,b<D:=fun b bu=>by
  o%⟨o,e,_⟩:=T.obj 0 _ gP b bu;rw[<- hD];e%Heap.lt_size e
 generalize JA:({ s2 with heap:=s2.heap.push { cls:=.type "list",dict:=none,data:=.seq ([]:List Value).toArray } }:Shared)=s3 at I3 ⊢;have i9:∀b o,s2.heap.get? b=some o->s3.heap.get? b=some o:=fun b o e=>by rw[<- JA];e%Heap.get?_push_of_some _ e
 have f3:∀b∈fp,cY X aa (aK H2 D (.lst [])) b:=fun b bu=>⟨by rw[dH (Yd (cN b bu))];e%(f2 b bu).1,(f2 b bu).2⟩
 have o3:∀b∈fp,∃o,s3.heap.get? b=some o:=fun b bu=>let ⟨o,e,_⟩:=T.obj 0 _ gP b bu;⟨o,i9 b o e⟩
 have I4:=I3.Np B f3 o3;have Bj:tn 0 (pushCells (s3.heap.push { cls:=.type "dict",data:=.dict #[] }) scope.names):=T.keep 0 _ _ gP fun b _ o e=>pushCells_keeps _ _ b o (Heap.get?_push_of_some _ (i9 b o e))
 o%⟨hg,Bv,he⟩:=hb s3.heap.objs.size fp s3 (aK H2 D (.lst []));generalize ip:uq X scope s3.heap.objs.size (own++cap) fp s3 (aK H2 D (.lst []))=X' at I4 hg Bv he;have eP:X'.prog=X.prog:=by rw[<- ip];rfl
 have eW:X'.w=X.w:=by rw[<- ip];rfl
 have eK:X'.K=X.K:=by rw[<- ip];rfl
 have eA:X'.A=X.A:=by rw[<- ip];rfl
 have eE:X'.env=iH scope s3.heap.objs.size X.env:=by rw[<- ip];rfl
 have ex:X'.xe=fun _ _=>False:=by rw[<- ip];rfl
 have jT:Qt X':=by rw[<- ip];e%hc
 have ir:∀{H':Hp},(∀b∈fp,H' b=none)->∀b∈fp,cY X' [] H' b:=fun hn b bu=>by
  subst ip;e%⟨hn b bu,(I4.ok.zH b bu).1,I4.ok.on b bu,.inl bu,(I4.ok.zH b bu).2,fun p hp=>(f3 b bu).2.2.2.2.2 p (Yr _ (by simpa using(show p∈X.pn++[] from hp)))⟩
 have og:∀s4:Shared,s4={ s3 with heap:=pushCells (s3.heap.push { cls:=.type "dict",data:=.dict #[] }) scope.names } ->
   codeAny (model X.prog X.w) X.A (.compLoop (.ListComp dm [⟨tg,iter,fu,0⟩] scope pos) 0 (.ref it) (.ref D) (iH scope s3.heap.objs.size X.env)) (RR (.ref D) s3.heap.objs.size) s4:=by
  rintro s4 rfl;r%rf (fun n s'=>∃i aD H',Inv X' [] aD H' s'/\tn i s'.heap/\(∀b∈fp,H' b=none)/\W i n aD H') ?_ m0 ⟨0,_,_,I4,Bj,fun b bu=>(f3 b bu).1,w0⟩;rintro n s5 ⟨i,nN,H5,I5,nP,zG,w5⟩;rcases turn i n nN H5 w5 with ⟨stop,qn⟩ |⟨go,N,hN,step⟩
  .have:=T.done X' eP eW eK jT i [] s5 nN H5 (fun _ _=>False) I5 (ir zG) nP stop;rw[eA] at this;r%bi this fun r s6 ⟨hr,I6⟩=>?_
   subst hr;subst ip;have J6:Inv X aa σ H5 s6:=I3.qL (ch:=fp) I6.os I6.base I6.bp I6.bare fun b bu=>⟨(f3 b bu).2.2.2.1,(f3 b bu).2.1,(f3 b bu).2.2.2.2.1,(f3 b bu).2.2.2.2.2⟩
   o%⟨m,hn,_⟩:=I6.loc;e%JQ D _ H5 s6 m J6 qn hn (I3.jR (Ze _) I6.free)
  .have:=T.item X' eP eW eK jT i [] s5 nN H5 (fun _ _=>False) I5 (ir zG) nP go;rw[eA] at this;r%bi this fun r s6 ⟨u,hr,h6⟩=>?_
   subst hr;r%bi h6 fun _ s7 ⟨x,H7,I7,r7,y7,vU,JS⟩=>?_
   have J0:=I7.pinned (ir JS) (T.obj _ _ vU);have a1:=hg _ s7 nN H7 x u _ J0 r7 (step x H7 y7);rw[eP,eW,eA,eE,ex] at a1;r%bi a1 fun _ s8 ⟨vK,H8,I8,q8⟩=>?_
   have a2:=Bv _ s8 vK H8 _ I8 q8;rw[eP,eW,eA,eE,ex] at a2;r%bi a2 fun b s9 ⟨H9,I9,q9⟩=>?_
   have again:∀{s':Shared}{aD:St}{H':Hp},Inv X' ([]++eu fp s7.heap) aD H' s'->N aD H'->∃m,m<n/\∃i aD H',Inv X' [] aD H' s'/\tn i s'.heap/\(∀b∈fp,H' b=none)/\W i m aD H':=fun {s' aD H'} I' n'=>by
    o%⟨m',hm,w'⟩:=hN aD H' n';r%⟨m',hm,i+1,aD,H',I'.dv,T.keep _ _ _ vU fun b bu o e=>(I'.pin (b,o) (Zq _ (Zq _ (A7 bu e)))).1,fun b bu=>?_,w'⟩;o%⟨o,e,d⟩:=T.obj _ _ vU b bu;e%(I'.pin (b,o) (Zq _ (Zq _ (A7 bu e)))).2.1
   cases b with
   |false=>e%again I9 q9
   |true =>
    rw[if_pos rfl] at q9 ⊢;have a3:=he _ s9 vK H9 _ I9 q9;rw[eP,eW,eA,eE,ex] at a3;r%bi a3 fun yv ND ⟨y,Ph,Pf,N4,ys,Ol,hz,N6⟩=>?_
    have a4:=jL (X:=X') _ ND vK Ph (.ref D) [y] (.ref D) [yv] (fun v H'=>v=.bO/\N vK H') Pf rfl (.cons N4 .nil) ⟨D,ys,y,rfl,rfl,Ol,hz,rfl,N6⟩;rw[eP,eW,eA,ex] at a4;r%bi a4 fun _ NZ ⟨_,VX,J1,_,_,N5⟩=>again J1 N5
 e%codeAny_compStart_list (og _ rfl) (T.self X.A 0 _ _ _ Bj (og _ rfl))
t%D6 (B:aA X scope own cap ix)(hc:Qt X)(hi:PIR X tg iter wi)
  (hb:∀C fp s H,PG (uq X scope C (own++cap) fp s H) tg g/\fH (uq X scope C (own++cap) fp s H) fu tt/\PE (uq X scope C (own++cap) fp s H) dm te)
  (hs:∀x,foldedSetIterable iter X.env x=pure x:=by intro _;rfl):PE X (.ListComp dm [⟨tg,iter,fu,0⟩] scope pos) (uu wi g tt te own.length ix):=by
 intro aa s σ H Q I h;rw[eval_ListComp];have has:∀x∈scope.names,x.2=.free->(X.env.cells.lookup x.1).isSome=true:=fun x hx hk=>by
  o%⟨c,e⟩:=I.ok.has x.1 (B.frees x hx hk);rw[e];rfl
 r%wpAny_comprehension_free (use:=none) rfl hs (Oh has) B.kind B.names ?_;show wpAny _ _ (eval iter X.env) _ _ s;r%bi (hi aa s σ H _ I h) fun v s1 h1=>bi h1 fun Fb s2 h2=>?_
 o%⟨it,fp,tn,J,H2,e,I2,T,gP,f2,q⟩:=h2;subst e;r%xK (RR:=fun acc C=>compPost (model X.prog X.w) X.A X.xe none (EP X aa σ Q) acc C) B hc hb I2 T gP f2 q ?_;intro D C H' s' m I' q' hn fC;r%⟨m,hn,fun h' v4=>⟨.ref D,H',?_,rfl,q'⟩⟩;e%I'.turned (t':=s'.toks) (it:=C) (fun b o FE e=>(v4.2 b FE).trans e) fC.1 fC.2.1 fC.2.2.2.1 fC.2.2.2.2.1 fC.2.2.2.2.2
end
end L2
namespace EX
open PySem PySem.Spec PyProof.Rows PySem.W
structure zV (K:Frag)(D:Addr):Prop where
 ga:findIn K (.ref D) "__getattribute__"=some (some (.builtin "BaseException.__getattribute__"))
 gt:findIn K (.ref D) "__getattr__"=some none
 cl:findIn K (.ref D) "__class__"=some (some (.builtin "object.__class__"))
 get:specialIn K (.builtin "object.__class__") "__get__"=some (some (.builtin "getset_descriptor.__get__"))
 tk:takesIn K (.builtin "object.__class__")=some true
 ob:mroIn K D (.type "object")=some true
 be:mroIn K D (.type "BaseException")=some true
section
variable {prog:Program}{w:World}{A:Around}{E:Value->Shared->Prop}{s:Shared}{K:Frag}{x D t:Addr}{hd:Value}
t%pD {h:Heap}(hx:h.get? x=some (eH D t hd)):PySem.W.InstAt h x (eH D t hd) D none:=⟨hx,rfl,rfl,trivial⟩
t%AQ {Q:Option Value->Shared->Prop}(Z:zV K D)(X:K.In s.heap)(hx:s.heap.get? x=some (eH D t hd))(k:Q (some (.ref D)) { s with toks:=s.toks+1 }):wpAny (model prog w) A (getAttr? (.ref x) "__class__") Q E s:=by
 have I:=pD hx;o%⟨hh,g,d,tt,os⟩:=s;have L0:=I.type (M:=model prog w);have L1:=looks_findIn (M:=model prog w) X Z.ga;have L2:=looks_findIn (M:=model prog w) X Z.gt;have KZ:∃cd,clsIn K D=some cd:=by
  have:=Z.ob;unfold mroIn at this;o%⟨cd,q,_⟩:=Option.bind_eq_some_iff.mp this;e%⟨cd,q⟩
 have hf:findObj K D none "__class__"=some (.bind (.builtin "getset_descriptor.__get__") (.builtin "object.__class__")):=by
  o%⟨cd,hc⟩:=KZ;unfold findObj;rw[hc,Option.bind_some,Z.cl,Option.bind_some];simp[Z.get,Z.tk]
 have L3:=looks_find (M:=model prog w) X I hf;have L4:=looks_mroIn (M:=model prog w) X Z.be;unfold getAttr? getAttrBy? getAttrBy;r%Za (wpAny_mkText (Za (wpAny_attempt (wpAny_holding (Za (L0.at (Za (L1.at ?_))))))));show wpAny _ _ (if (onTheHeap (Value.ref D)&&Value.builtin "BaseException.__getattribute__" == .builtin "object.__getattribute__")=true then _ else getAttrByItsOwn _ _ _ _ _ _) _ _ _;rw[if_neg (by rw[show(Value.builtin "BaseException.__getattribute__" == Value.builtin "object.__getattribute__")=false by decide+kernel,Bool.and_false];e%Zy)];unfold getAttrByItsOwn hookBefore;r%Za (L2.at (Za (wpAny_attempt (wpAny_holding ?_))));show wpAny _ _ (boundAndCalled _ _ _) _ _ _;unfold boundAndCalled;have f3:=F.attr_ValueError.ga.bind (.ref x);rw[f3];r%Za (wpAny_pure (wpAny_call (codeAny_call_builtin F.attr_ValueError.ga.plain F.entry_bexc_ga ?_)));have hk:builtinKind "BaseException.__getattribute__"=some .slot:=by decide+kernel
 have v3:splitId "BaseException.__getattribute__"=some ("BaseException","__getattribute__"):=by decide+kernel
 have R3:=F.args_bexc_ga (.ref x) (.str "__class__" tt);simp only[checkBuiltinCall,hk,v3];have LI:Looks (model prog w) hh (isInstance (.ref x) (.type "BaseException")) true:=L0.andThen L4;show wpAny _ _ (isInstance (.ref x) (.type "BaseException") >>= _) _ _ _;r%Za (LI.at ?_);simp only[Bool.not_true,Bool.false_eq_true,if_false];unfold argsOk at R3;show wpAny _ _ (match Manifest.signature? "BaseException.__getattribute__" with |some sig=>Bind.checkArgs "BaseException.__getattribute__" sig ⟨[.ref x,.str "__class__" tt],[]⟩ |x=>pure ()) _ _ _;r%wpAny_of_eq R3 ?_;unfold Builtin.«object.__getattribute__»
 repeat (any_goals (first |with_reducible r%L0.at ?_ |with_reducible r%L3.at ?_ |wp_step))
 r%class_get (s:=⟨hh,g,d,tt+1,os⟩) X I Z.ob ?_;e%wpAny_pure (handed_on rfl (wpAny_pure k))
t%Ev (Z:zV K D):KitX K (.ref x) (.ref D) (fun h=>h.get? x=some (eH D t hd)) where
 ty:=fun _ _ _ hx=>(pD hx).type
 it:=fun M h X _=>by
  have:=Z.ob;unfold mroIn at this;o%⟨cd,q,_⟩:=Option.bind_eq_some_iff.mp this;unfold clsIn at q;split at q
  .rename_i c' d' cd' gO ho;intro A' Q' E' s' k hq;unfold isType loadHead;e%Za (wpAny_loadPart (k _ _ (X _ _ ho)) (wpAny_pure hq))
  .cases q
 ne:=fun h tp dd its n sl X NJ=>by
  have:=Z.ob;unfold mroIn at this;o%⟨cd,q,_⟩:=Option.bind_eq_some_iff.mp this;r%Ym.mpr fun z=>?_
  have e:D=tp:=Value.ref.inj (beq_iff_eq.mp z);subst e;unfold clsIn at q;split at q
  .rename_i c' d' cd' gO ho;have y:=(X _ _ ho).symm.trans NJ;cases y
  .cases q
 ca:=fun X hx k=>AQ Z X hx k
end
end EX
namespace L2
open PySem PySem.Spec PyProof.Rows EX
n%Po (K:PySem.W.Frag)(D:Addr)(c:Value)(ea:Addr)(te:TE):TE:=fun σ H Q=>te σ H fun x H1=>x=.ref ea/\∃b,PySem.W.kitOne K (.ref D) c=some b/\Q (.bl b) H1
section
variable {X:Cx}{e:Expr}{te:TE}{ea D t:Addr}{hd:Value}
t%Dt {aa:List (Addr×Obj)}{s:Shared}{σ:St}{H:Hp}{Q:VK}{c:Value}{b:Bool}(Z:zV X.K D)(hp:(ea,eH D t hd)∈X.pn)(I:Inv X aa σ H s)(ek:PySem.W.kitOne X.K (.ref D) c=some b)(q:Q (.bl b) H) :
  wpAny (model X.prog X.w) X.A (call (.builtin "isinstance") [.ref ea,c]) (EP X aa σ Q) X.xe s :=
 PySem.W.kia_one (Ev (x:=ea) (t:=t) (hd:=hd) Z) I.my (I.pin _ (Yr _ hp)).1 ek (fun z=>nomatch z) fun tk=>⟨.bl b,H,I.tok tk,rfl,q⟩
t%Bo {T:Str}{C:Addr}{p p2 pos:Pos}(Z:zV X.K D)(hp:(ea,eH D t hd)∈X.pn)(he:PE X e te)(hg:Gl X "isinstance")(hm:X.mg "isinstance"=none)(Bx:Gl X T)(Bt:X.mg T=some (.ref C))
  (hb:bootBuiltins "isinstance"=some (.builtin "isinstance")) (JK:y%((T == ("__debug__" : Str))=false))
  (hs:x%(starEach [e,.Name T p2] X.env=[(false,eval e X.env),(false,eval (.Name T p2) X.env)]))
  (gk:x%((backTo pos (starEach [.Name T p2] X.env)).any (·.1)=false)):PE X (.Call (.Name "isinstance" p) [e,.Name T p2] [] pos) (Po X.K D (.ref C) ea te):=by
 intro aa s σ H Q I h;r%Call_ (gd I hg hm hb (PyProof.Rows.callWith_builtin1 (Kk (Q:=fun us s1=>wpAny (model X.prog X.w) X.A (call (.builtin "isinstance") us) (EP X aa σ Q) X.xe s1) he I h hs fun u s1 x H1 I1 r q=>?_) ?_ gk))
 .refine fi I1 Bx Bt ?_ JK;o%⟨rfl,b,ek,q⟩:=q;cases r;e%Dt Z hp I1 ek q
 .rw[hs];rfl
t%G1 {T:Str}{n:String}{p p2 pos:Pos}(Z:zV X.K D)(hp:(ea,eH D t hd)∈X.pn)(he:PE X e te)(hg:Gl X "isinstance")(hm:X.mg "isinstance"=none)(Bx:Gl X T)(Bt:X.mg T=none)(hv:bootBuiltins T=some (.type n))
  (hb:bootBuiltins "isinstance"=some (.builtin "isinstance")) (Ow:y%(T ≠ "__name__")) (JK:y%((T == ("__debug__" : Str))=false))
  (hs:x%(starEach [e,.Name T p2] X.env=[(false,eval e X.env),(false,eval (.Name T p2) X.env)]))
  (gk:x%((backTo pos (starEach [.Name T p2] X.env)).any (·.1)=false)):PE X (.Call (.Name "isinstance" p) [e,.Name T p2] [] pos) (Po X.K D (.type n) ea te):=by
 intro aa s σ H Q I h;r%Call_ (gd I hg hm hb (PyProof.Rows.callWith_builtin1 (Kk (Q:=fun us s1=>wpAny (model X.prog X.w) X.A (call (.builtin "isinstance") us) (EP X aa σ Q) X.xe s1) he I h hs fun u s1 x H1 I1 r q=>?_) ?_ gk))
 .refine gd I1 Bx Bt hv ?_ Ow JK;o%⟨rfl,b,ek,q⟩:=q;cases r;e%Dt Z hp I1 ek q
 .rw[hs];rfl
end
end L2
namespace EX
open PySem PySem.Spec PyProof.Rows PySem.W
section
variable {prog:Program}{w:World}{A:Around}{E:Value->Shared->Prop}{s:Shared}{K:Frag}{e D C t:Addr}{hd:Value}
t%rc {Q:Bool->Shared->Prop}{b:Bool}(X:K.In s.heap)(he:s.heap.get? e=some (eH D t hd))(Br:typeIn K (.ref C)=some (.type "type"))(hb:mroIn K C (.type "BaseException")=some true)(hs:mroIn K D (.ref C)=some b)(k:Q b s) :
  wpAny (model prog w) A (excMatches (.ref e) (.ref C)) Q E s:=by
 o%⟨hh,g,d,tt,os⟩:=s;have L0:=(pD he).type (M:=model prog w);have L1:=looks_typeIn (M:=model prog w) X Br;have L2:=looks_mroIn (M:=model prog w) X hb;have L3:=looks_mroIn (M:=model prog w) X hs;have f:=tc_notTuple;have hC:∃o cd,K.lookup C=some o/\o.data=.cls cd:=by
  have:=hb;unfold mroIn at this;o%⟨cd,q,_⟩:=Option.bind_eq_some_iff.mp this;unfold clsIn at q;split at q
  .rename_i ho;e%⟨_,_,ho,rfl⟩
  .cases q
 o%⟨oC,cdC,ho,U2⟩:=hC;have gC:=X _ _ ho;unfold excMatches
 repeat (any_goals (first |with_reducible r%L0.at ?_ |with_reducible r%L1.at ?_ |with_reducible r%L2.at ?_ |with_reducible r%L3.at ?_ |wp_step))
 cases b<;>(repeat (any_goals wp_step))<;>e%k
end
end EX
namespace L2
open PySem PySem.Spec PyProof.Rows EX
n%QW (K:PySem.W.Frag):V->List V->Hp->VK->Prop:=fun x vs H Q=>∃(y:Str) (p:Addr) (zs:List Str),x=.str y/\vs=[.ref p]/\bz K H p (zs.map V.str)/\(∀z∈zs,z.length<=12)/\y.length<=4/\zs.length<=1000/\Q (.str (PySem.Txt.join y zs)) H
t%lC:∀{zs:List Str}{us:List Value},aQ (zs.map V.str) us->CarriedAll us (zs.map fun z=>PyData.str z)
 |[],_,r=>by cases r;e%.nil
 |z::zs,_,r=>by
  rw[Yj] at r;cases r with
  |cons r1 r2 =>
   o%⟨t,rfl⟩:=r1;e%.cons (.str _ t) (lC r2)
t%Hq {X:Cx}(K:PySem.W.Frag)(hK:x%(X.K=K)):Tg X "str.join" (QW K):=by
 subst hK;intro aa s σ H x vs v us Q I rx rv h;o%⟨y,p,zs,rfl,rfl,hq,hB,hy,hn,q⟩:=h;o%⟨t,rfl⟩:=rx;o%⟨u,rfl,ru⟩:=rv.one;cases ru;o%⟨its,r,hl,_⟩:=I.list hq;r%PySem.W.KT.join_B 12 hl.isList (l:=zs) (g:=fun z=>z) (lC r) hB g% g% fun t' k=>?_
 rw[List.map_id'];e%⟨.str _,H,I.tok k,⟨_,rfl⟩,q⟩
structure oO (k:Nat)(A:Around)(ea:Addr):Prop where
 hd:A.handled=some (.ref ea)
 dp:A.depth+3*k+5<recursionLimit
 un:A.units+16*k+200<cLine
t%oO.deeper {k:Nat}{A:Around}{ea:Addr}(r:oO (k+1) A ea)(env:Env):oO k (A.deeper env) ea :=
 ⟨r.hd,by have:=r.dp;show A.depth+1+3*k+5<_;omega,by have:=r.un;show A.units+3+16*k+200<_;omega⟩
n%OX (P:Program)(w:World)(K:PySem.W.Frag)(mg:Str->Option Value)(base:Heap)(N:List Str)(qual:Str)(scope:Scope)(f:Addr)(cd:Value)(A:Around)(outer:List Env)(s:Shared)(H:Hp)(ea D t:Addr)(hd:Value):Cx :=
 { gR cP P w K mg base N qual scope f cd A outer s H E0 with calm:=false,pn:=[(ea,eH D t hd)],xe:=fun _ _=>False }
structure NR (P:Program)(w:World)(K:PySem.W.Frag)(mg:Str->Option Value)(base:Heap)(k:Nat)(f:Addr)(fd:FuncData)(ps:List Str)(sp:Addr->Addr->Sp):Prop where
 len:∀ea D vs H Q E,sp ea D vs H Q E->vs.length=ps.length
 run:∀(A:Around) (outer:List Env) (s:Shared) (H:Hp) (args:Args) (us:List Value) (vs:List V) (Q:VK) (E:XK) (ea D t:Addr) (hd:Value),oO k A ea->ww P w K mg base A outer s H->s.heap.get? ea=some (eH D t hd)->H ea=none->ea∉iL outer ->
  BindsTo s fd args (ps.zip us)->aQ vs us->sp ea D vs H Q E->codeAny (model P w) A (.call (.ref f) args) (CR cP outer P w H s Q E) s
section
variable {P:Program}{w:World}{K:PySem.W.Frag}{mg:Str->Option Value}{base:Heap}
t%xD {N ps:List Str}{qual:Str}{scope:Scope}{f:Addr}{cd:Value}{A:Around}{outer:List Env}{s s1:Shared}{H:Hp}{us:List Value}{vs:List V}{ea D t:Addr}{hd:Value}
  (S:ap N ps scope) (e0:ww P w K mg base A outer s H) (hl:vs.length=ps.length) (r:aQ vs us) (he:s.heap.get? ea=some (eH D t hd)) (hn:H ea=none) (hf:ea∉iL outer)
  (x:InCallC s s.heap.objs.size (bindL (envOfC qual scope s.heap.objs.size f cd).kindOf (ps.zip us) fun _=>none) (cellsFrom (s.heap.objs.size+1) scope.names []) (bindC (envOfC qual scope s.heap.objs.size f cd).kindOf (ps.zip us) fun _=>none) s1) :
  Inv (OX P w K mg base N qual scope f cd A outer s H ea D t hd) [] (start N vs) H s1:=by
 have e1:ww P w K mg base { A with handled:=none } outer s H:=⟨e0.frames,e0.mod,e0.bs,e0.Bf,e0.iW,e0.Fh,e0.bp,e0.bare⟩;have J:=qZ (CX:=cP) (E:=E0) (A:={ A with handled:=none }) S rfl e1 hl r x;have keep:=x.toInCall.keep;r%⟨⟨J.ok.mod,J.ok.kind,J.ok.glob,J.ok.blt,J.ok.above,J.ok.inj,J.ok.has,J.ok.Ik,fun z=>(nomatch z),Around.frames_deeper e0.frames,J.ok.A3,J.ok.zH,J.ok.bs,J.ok.Bf,J.ok.uk,J.ok.on,J.ok.iW,J.ok.Fh⟩,J.os,J.bare,J.base,J.loc,J.cell,J.free,J.fY,fun p hp=>?_,J.bp,J.len⟩;have Fe:p=(ea,eH D t hd):=by simpa using(show p∈[(ea,eH D t hd)]++[] from hp)
 subst Fe;e%⟨keep _ _ he,hn,Yd (Heap.lt_size he),hf,fun v z=>by cases z⟩
t%cE.okH {x qual:Str}{st:Stmt}{f:Addr}{fd:FuncData}{N ps:List Str}{k:Nat}{sp:Addr->Addr->Sp}(F:cE K x qual st f fd)(S:ap N ps (aX st))(len:∀ea D vs H Q E,sp ea D vs H Q E->vs.length=ps.length)
  (oH:∀(bF:Value) (A:Around) (outer:List Env) (s:Shared) (H:Hp) (vs:List V) (Q:VK) (E:XK) (ea D t:Addr) (hd:Value),oO k (A.deeper (envOfC qual (aX st) s.heap.objs.size f bF)) ea->sp ea D vs H Q E ->
   ∃t',iM (OX P w K mg base N qual (aX st) f bF A outer s H ea D t hd) (Bn st) t'/\t' { nx:=fun _ H'=>Q .bO H',rt:=Q } (start N vs) H):NR P w K mg base (k+1) f fd ps sp:=by
 o%⟨oc,od,kV,qB,pm,an,bF,ct,EY,rfl,lk,v8⟩:=F.ex;r%⟨len,fun A outer s H args us vs Q E ea D t hd hr e0 he hn hf hb r v3=>?_⟩;have hl:=len _ _ _ _ _ _ v3;have KX:K.In s.heap:=e0.mod.HY.keeps fun b o e=>(e0.bs b o e).1
 have Uh:s.heap.NoLimit:=e0.mod.nolimit.keeps fun b o e=>(e0.bs b o e).1
 have CL:∀y∈ps.zip us,(aX st).names.lookup y.1=some .local\/((aX st).names.lookup y.1=some .cell/\((cellsFrom (s.heap.objs.size+1) (aX st).names []).lookup y.1).isSome=true):=fun⟨n,v⟩ hy=>by
  rcases S.par n (List.of_mem_zip hy).1 with q |q
  .exact .inl q
  .exact .inr ⟨q,PySem.W.cellsFrom_some _ _ _ (.inl q)⟩
 r%codeAny_call_function (by have:=hr.dp;omega) (KX _ _ lk) rfl S.co S.gen rfl (PySem.W.codeRec_of KX v8) (hb _ _ _ _ ?_);r%wpAny_newFunctionEnv_cells S.kind CL fun env U0 s1 x=>?_
 subst U0;r%⟨Uh.keeps x.toInCall.keep,codeAny_func ?_⟩;o%⟨t',ht,hq⟩:=oH bF A outer s H vs Q E ea D t hd (hr.deeper _) v3;have I:=xD (qual:=qual) (f:=f) (cd:=bF) S e0 hl r he hn hf x;r%wpAny_mono (ht [] s1 (start N vs) H _ I hq) (fun fl s' hs=>?_) fun e s' hs=>False.elim hs
 have kB:∀{aD:St}{H':Hp}{v:V}{u:Value},Inv (OX P w K mg base N qual (aX st) f bF A outer s H ea D t hd) [] aD H' s'->RelV v u->Q v H'->CE outer P w H s Q u s' :=
  fun {aD H' v u} J rv q=>⟨v,H',J.os,J.bare,J.base,J.bp,rv,q⟩
 cases fl with
 |ret u =>
  o%⟨v,aD,H',J,rv,q⟩:=hs;e%kB J rv q
 |next =>
  o%⟨aD,H',J,q⟩:=hs;e%kB (v:=V.bO) (u:=Value.none) J rfl q
 |brk =>
  o%⟨_,_,_,q⟩:=hs;e%False.elim q
 |cont =>
  o%⟨_,_,_,q⟩:=hs;e%False.elim q
end
t%Ir {l:List Env}{H H':Hp}{h h1 h2 B:Heap}{a C t:Addr}(un:Un (iL l) [] H H' h h1)(gS:∀b o,h.get? b=some o->b∉iL l->(∃o',B.get? b=some o')/\(H b=none->B.get? b=some o))
  (ff:h1.FunFrames B l) (uf:rN B l a C t h2) (up:h1.UpToSlots h2):Un (iL l) [] H H' h h2:=by
 r%⟨fun b o q n nf _=>uf.st b o ((gS b o q nf).2 n),fun b o q n m _=>?_,un.free,fun b o q _=>?_,un.j4,un.md,un.mQ⟩
 .obtain⟨sl,q1⟩:=un.slot b o q n m i%;o%⟨_,o3,q3,nf⟩:=ff.mem m;rw[q1] at q3;cases q3;o%⟨NY,q4⟩:=up b _ q1 nf;e%⟨NY,q4⟩
 .by_cases m:b∈iL l
  .obtain⟨_,o3,q3,nf⟩:=ff.mem m;o%⟨NY,q4⟩:=up b _ q3 nf;e%⟨_,q4⟩
  .obtain⟨o2,q2⟩:=(gS b o q m).1;e%⟨o2,uf.st b o2 q2⟩
section
variable {X:Cx}{aa:List (Addr×Obj)}{σ:St}{H:Hp}{s:Shared}
t%Ez {n:Str}{j:Nat}{m:Str->Option Value}{h':Heap}{v:Option Value}{tk:Nat}(I:Inv X aa σ H s)(hN:X.N.Nodup)(hj:X.N[j]?=some n)(hn:s.heap.Ns X.env.locals m)
  (hl:∀(i:Nat) (x:Str) (v:V),X.N[i]?=some x->σ[i]?=some (some v)->Pc X.env.scope x->∃u,RelV v u/\Look X.env s.heap m x u)
  (p7:h'.Ns X.env.locals (fun x=>if x=n then v else m x)) (hs:Heap.SameBut X.env.locals s.heap h'):Inv X aa (σ.set j none) H { s with heap:=h',toks:=tk }:=by
 have BC:=I.BC;have Ud:∀b o,X.aT.heap.get? b=some o->b≠X.env.locals:=fun b o e=>Yd (Ya (Heap.lt_size e) I.ok.above)
 r%⟨I.ok,I.os,I.bare,⟨fun b o e n hb hx=>(hs.2 b (Ud b o e)).trans (I.base.keep b o e n hb hx),fun b o e n hb hx=>?_,I.base.free,fun b o e hx=>?_,I.base.j4,I.base.md,I.base.mQ⟩,⟨_,p7,fun i x v' e1 e2 e3=>?_⟩,fun y c e=>?_,I.free,I.fY,fun p hp=>?_,fun b ob e=>?_,by simpa using I.len⟩
 .obtain⟨sl,e1⟩:=I.base.slot b o e n hb hx;e%⟨sl,(hs.2 b (Ud b o e)).trans e1⟩
 .obtain⟨o',e1⟩:=I.base.there b o e hx;e%⟨o',(hs.2 b (Ud b o e)).trans e1⟩
 .by_cases UO:i=j
  .subst UO;by_cases cN:i < σ.length
   .rw[Yf cN] at e2;cases e2
   .rw[Yo (by simpa using cN)] at e2;cases e2
  .rw[Zw (Ne.symm UO)] at e2;o%⟨u,r,q⟩:=hl i x v' e1 e2 e3;r%⟨u,r,?_⟩;rcases q with ⟨kd,e⟩ |⟨kd,c,e,z⟩
   .have:x≠n:=fun z=>UO (pw hN e1 (z▸hj))
    e%.inl ⟨kd,by simp[this,e]⟩
   .exact .inr ⟨kd,c,e,z.sameBut hs (BC x c e)⟩
 .obtain⟨w',z⟩:=I.cell y c e;e%⟨w',z.sameBut hs (BC y c e)⟩
 .obtain⟨e,n,ne,nf,d⟩:=I.pin p hp;e%⟨(hs.2 p.1 ne).trans e,n,ne,nf,d⟩
 .refine(I.bp b ob e).az (fun c w' hc q=>(hs.2 c ?_).trans q) (fun _ q=>q) fun _ _ q=>q
  rintro rfl;rcases hc with z |z
  .rw[<- z,I.free] at e;cases e
  .rw[I.free] at z;cases z
n%JX (X:Cx)(ea D t:Addr)(hd:Value):Cx:={ X with A:=X.A.mark (some (.ref ea)),calm:=false,pn:=(ea,eH D t hd)::X.pn,xe:=fun _ _=>False }
t%Inv.x9 {ea D t:Addr}{hd:Value}(I:Inv X aa σ H s)(he:s.heap.get? ea=some (eH D t hd))(hn:H ea=none)(hL:ea≠X.env.locals)(hf:ea∉X.fs):Inv (JX X ea D t hd) aa σ H s:=by
 r%⟨⟨I.ok.mod,I.ok.kind,I.ok.glob,I.ok.blt,I.ok.above,I.ok.inj,I.ok.has,I.ok.Ik,fun z=>(nomatch z),I.ok.frames,I.ok.A3,I.ok.zH,I.ok.bs,I.ok.Bf,I.ok.uk,I.ok.on,I.ok.iW,I.ok.Fh⟩,I.os,I.bare,I.base,I.loc,I.cell,I.free,I.fY,fun p hp=>?_,I.bp,I.len⟩;have Fe:p=(ea,eH D t hd)\/p∈X.pn++aa:=Zf.mp (show p∈(ea,eH D t hd)::(X.pn++aa) from hp);rcases Fe with z |z
 .subst z;e%⟨he,hn,hL,hf,fun v z=>by cases z⟩
 .exact I.pin p z
t%Inv.yz {ea D t:Addr}{hd:Value}(ok:X.Ok)(I:Inv (JX X ea D t hd) aa σ H s):Inv X aa σ H s :=
 ⟨ok,I.os,I.bare,I.base,I.loc,I.cell,I.free,I.fY,fun p hp=>I.pin p (show p∈(ea,eH D t hd)::(X.pn++aa) from Zk _ hp),I.bp,I.len⟩
end
n%Ln (sp:Addr->Addr->Sp)(ea D:Addr)(t:TA):TE:=fun σ H Q=>t σ H fun vs H1=>sp ea D vs H1 Q E0
t%D9 {X:Cx}{k:Nat}{f ea D t:Addr}{hd:Value}{fd:FuncData}{ps:List Str}{sp:Addr->Addr->Sp}{x:Str}{p pos:Pos}{e:Expr}{es:List Expr}{ta:TA}(F:NR X.prog X.w X.K X.mg X.base k f fd ps sp)(hr:oO k X.A ea)(hp:(ea,eH D t hd)∈X.pn)
  (hg:Gl X x) (hm:X.mg x=some (.ref f)) (hk:PySem.W.keepIn X.K (.ref f)=true) (hb:Binds X.K fd ps []) (ha:PA X (e::es) ta) (qa:y%((x == ("__debug__" : Str))=false))
  (he:x%(starEach (e::es) X.env=(false,eval e X.env)::starEach es X.env)) (gk:x%((backTo pos (starEach es X.env)).any (·.1)=false)):PE X (.Call (.Name x p) (e::es) [] pos) (Ln sp ea D ta):=by
 intro aa s σ H Q I h;r%wpAny_Call_Name_kw (fi I hg hm ?_ qa);r%PySem.W.callWith_K (h₀:=X.base) I.ok.mod.HY hk (bi (ha pos aa s σ H _ I h) fun us s1 ⟨vs,H1,I1,r,q⟩=>⟨I1.my,?_⟩) he gk;o%⟨p1,p2,p3,p4,_⟩:=I1.pin _ (Yr _ hp);have hl:us.length=ps.length:=by rw[<- r.length];e%F.len _ _ _ _ _ _ q
 have xY:=hb s1 us I1.my (by rw[Yg];e%hl);rw[Yg] at xY;r%wpAny_call (codeAny_mono (F.run X.A X.stack s1 H1 ⟨us,[]⟩ us vs Q E0 ea D t hd hr I1.Gj p1 p2 (fun z=>?_) xY r q) fun r s' hq=>?_)
 .rcases Zf.mp (I1.me ea z) with e |e
  .exact p3 e
  .exact p4 e
 .cases r with
  |error e=>e%False.elim hq
  |ok fl =>
   cases fl with
   |ret u=>e%I1.after hq
   |next=>e%False.elim hq
   |brk=>e%False.elim hq
   |cont=>e%False.elim hq
n%V6 (K:PySem.W.Frag)(sp:Sp)(RJ:Addr->Addr->Sp)(M:Addr)(i j l:Nat)(ta:TA):TS:=fun D σ H=>ta σ H fun vs H1=>sp vs H1 (fun v H2=>D.nx (σ.set i (some v)) H2)
 (fun c _ H2=>∃Dc,c=.ref Dc/\PySem.W.mroIn K Dc (.ref M)=some true/\∀ea,H2 ea=none->RJ ea Dc [.ref ea] H2 (fun v H3=>D.nx (((σ.set j (some (.ref ea))).set l (some v)).set j none) H3) E0)
t%xl {X:Cx}{k kk:Nat}{f fK M:Addr}{fd OW:FuncData}{ps N7:List Str}{sp:Sp}{RJ:Addr->Addr->Sp}{x n y fn kf Cl:Str}{i j l:Nat}{e:Expr}{es:List Expr}{ta:TA}{px fp bW fE np py kp Bl ul wb ee pos:Pos}
  (F:aM X.prog X.w X.K X.mg X.base (kD X.prog X.w) k f fd ps sp) (hr:cR k X.A) (JH:Gl X fn) (JE:X.mg fn=some (.ref f)) (JG:PySem.W.keepIn X.K (.ref f)=true) (JN:Binds X.K fd ps [])
  (G:NR X.prog X.w X.K X.mg X.base kk fK OW N7 RJ) (tV:cR kk X.A) (UR:Gl X kf) (UH:X.mg kf=some (.ref fK)) (OA:PySem.W.keepIn X.K (.ref fK)=true) (R0:Binds X.K OW N7 [])
  (JI:Gl X Cl) (JF:X.mg Cl=some (.ref M)) (Fm:PySem.W.typeIn X.K (.ref M)=some (.type "type")) (bM:PySem.W.mroIn X.K M (.type "BaseException")=some true)
  (lO:X.stack=X.env::X.outer) (ng:X.env.frame=some X.env.locals) (hN:X.N.Nodup) (hi:X.N[i]?=some x) (hj:X.N[j]?=some n) (hl:X.N[l]?=some y)
  (kx:X.env.scope.names.lookup x=some .local) (kn:X.env.scope.names.lookup n=some .local) (ky:X.env.scope.names.lookup y=some .local)
  (ha:∀E,PA (X.wish E) (e::es) ta)
  (JB:x%(swapsWith (.Call (.Name fn fp) (e::es) [] bW) (some (.Name x px)) fE.line X.env=pure false))
  (tU:x%(swapsWith (.Call (.Name kf kp) [.Name n Bl] [] ul) (some (.Name y py)) wb.line X.env=pure false))
  (d1:y%((fn == ("__debug__" : Str))=false)) (d2:y%((kf == ("__debug__" : Str))=false)) (d3:y%((Cl == ("__debug__" : Str))=false)) (d4:y%((n == ("__debug__" : Str))=false)) (d5:y%((n == ("__classdict__" : Str))=false))
  (he:x%(starEach (e::es) X.env=(false,eval e X.env)::starEach es X.env)) (gk:x%((backTo bW (starEach es X.env)).any (·.1)=false))
  (NN:x%(starEach [.Name n Bl] X.env=[(false,eval (.Name n Bl) X.env)])) :
  PS X (.Try [.Assign [.Name x px] (.Call (.Name fn fp) (e::es) [] bW) fE] [.ExceptHandler (some (.Name Cl np)) (some n) [.Assign [.Name y py] (.Call (.Name kf kp) [.Name n Bl] [] ul) wb] ee] [] [] pos) (V6 X.K sp RJ M i j l ta):=by
 intro aa s σ H D I h;r%wpAny_Try_except (wpAny_execs_cons ?_);r%wpAny_Assign_Name ?_ JB;r%wpAny_Call_Name_kw (fi I JH JE ?_ d1);generalize U8:(fun(e:Value) (bh:Shared)=>wpAny (model X.prog X.w) X.A (noteFrame e X.env) (fun _ eZ=>wpAny (model X.prog X.w) X.A (setFlight e none) (fun _ cU=>wpAny (model X.prog X.w) X.A (handleBy e X.env [.ExceptHandler (some (.Name Cl np)) (some n) [.Assign [.Name y py] (.Call (.Name kf kp) [.Name n Bl] [] ul) wb] ee]) (SP X aa D) X.xe cU) X.xe eZ) X.xe bh)=EE;r%PySem.W.callWith_K (h₀:=X.base) I.ok.mod.HY JG (bi (ha EE bW aa s σ H _ (I.wish EE) h) fun us s1 ⟨vs,H1,VV,r,q⟩=>?_) he gk;have I1:Inv X aa σ H1 s1:=VV.gE;r%⟨I1.my,?_⟩;have bN:us.length=ps.length:=by rw[<- r.length];e%F.len _ _ _ _ q
 have xY:=JN s1 us I1.my (by rw[Yg];e%bN);rw[Yg] at xY;r%wpAny_call (codeAny_mono (F.run X.A X.stack s1 H1 ⟨us,[]⟩ us vs _ _ hr I1.Gj xY r q) fun res s' hq=>?_);cases res with
 |ok fl =>
  cases fl with
  |ret u =>
   o%⟨v,H2,I2,rv,q2⟩:=I1.after hq;r%Fu I2 hN hi (.inl kx) rv (fun s3 I3=>?_) (.inr kx);e%wpAny_execs_nil (wpAny_execs_nil ⟨_,H2,I3,q2⟩)
  |next=>e%False.elim hq
  |brk=>e%False.elim hq
  |cont=>e%False.elim hq
 |error ev =>
  o%⟨a,C,t,B,H2,rfl,os,bare,un,bp,gS,uf,na,A4,Dc,eC,BR,hk⟩:=hq;cases eC;rw[<- U8];have ff:=uf.ff;rw[lO] at uf;r%pG (L:=X.env.locals) uf (by rw[<- lO];e%I.ok.frames) ng fun h3 K6 Tv=>?_
  r%jw (s:={ s' with heap:=h3 }) K6 fun h4 wv Tu=>?_
  have BE:=Tv.trans Tu;have ht:∀b o,s1.heap.get? b=some o->b≠a:=fun b o q z=>by rw[z,na] at q;cases q
  have aL:a≠X.env.locals:=by
   o%⟨m,⟨oL,_,_,Ou,_⟩,_⟩:=I1.loc;e%(ht _ _ Ou).symm
  have aF:a∉X.fs:=fun z=>by
   o%⟨_,o,ho,_⟩:=I1.iW.mem z;e%ht _ _ ho rfl
  have inv:∀(h':Heap) (tk:Nat),rN B (X.env::X.outer) a C t h'->s'.heap.UpToSlots h'->Inv X aa σ H2 { s' with heap:=h' }:=fun h' tk r8 Tw =>
   I1.qL (s':={ s' with heap:=h' }) (ch:=[]) os (Ir un gS ff (by rw[lO];e%r8) Tw) (bp.kept r8.st) bare (fun b z=>absurd z i%)
  o%⟨hd4,OI,_⟩:=wv.ob;have J4:=(inv h4 0 wv BE).x9 OI A4 aL aF;r%wpAny_handleBy_cons (codeAny_handlers_test (fi J4 JI JF ?_ d3)) (by intro z;cases z);r%rc (K:=X.K) J4.my OI Fm bM BR ?_;r%codeAny_handlers_suite_as ?_;r%jw (s:={ s' with heap:=h4 }) wv fun h5 Cb Tt=>?_
  o%⟨JL,UZ,_⟩:=Cb.ob;have J5:=(inv h5 0 Cb (BE.trans Tt)).x9 UZ A4 aL aF;r%Fu (X:=JX X a C t JL) J5 hN hj (.inl kn) (v:=.ref a) rfl (fun s6 J6=>?_) (.inr kn);have rh:oO kk (JX X a C t JL).A a:=⟨rfl,tV.dp,tV.un⟩;have body:iM (JX X a C t JL) [.Assign [.Name y py] (.Call (.Name kf kp) [.Name n Bl] [] ul) wb] _ :=
   de (lI (i:=l) hN hl (.inl ky) (D9 (X:=JX X a C t JL) (D:=C) (t:=t) (hd:=JL) G rh Zo UR UH OA R0 (aR (C5 (i:=j) hj (.inl kn) d4 d5) bK NN) d2 NN rfl) tU (.inr ky))
  have UN:j < σ.length:=by rw[I1.len];e%(Zd.mp hj).1
  have run:=body aa s6 (σ.set j (some (.ref a))) H2 { nx:=fun jz H3=>D.nx (jz.set j none) H3,rt:=fun _ _=>False } J6 ⟨.ref a,by rw[Yf UN],hk a A4⟩;r%wpAny_mono run (fun fl s7 Fz=>?_) fun _ _ z=>False.elim z
  cases fl with
  |ret u=>o%⟨_,_,_,_,_,z⟩:=Fz;e%False.elim z
  |brk=>o%⟨_,_,_,z⟩:=Fz;e%False.elim z
  |cont=>o%⟨_,_,_,z⟩:=Fz;e%False.elim z
  |next =>
   o%⟨vL,H7,J7,q7⟩:=Fz;have I7:Inv X aa vL H7 s7:=Inv.yz I.ok J7;o%⟨m,hn,hlk⟩:=id I7.loc;r%wpAny_nameGoes_keeps kn hn (by rw[I.ok.kind];rfl) fun h8 v hn8 hs8=>?_
   e%⟨vL.set j none,H7,Ez I7 hN hj hn hlk hn8 hs8,q7⟩
end L2
namespace KG
open PySem
n%Bd (k:Nat)(n:Int):Prop:=n.natAbs<2 ^ k
t%Bd.mono {j k:Nat}{n:Int}(h:Bd j n)(hj:j<=k):Bd k n:=Ya h (Nat.pow_le_pow_right d% hj)
t%Bd.mul {j k:Nat}{a b:Int}(h:Bd j a)(h':Bd k b):Bd (j+k) (a*b):=by
 unfold Bd at *;rw[Int.natAbs_mul,Nat.pow_add];e%Nat.mul_lt_mul'' h h'
t%Bd.le {k:Nat}{a b:Int}(h:Bd k b)(hl:a.natAbs<=b.natAbs):Bd k a:=Nat.lt_of_le_of_lt hl h
t%Bd.log {k:Nat}{n:Int}(h:Bd k n)(hk:k<=8999):n.natAbs.log2<9000:=by
 by_cases h0:n.natAbs=0
 .rw[h0];decide+kernel
 .exact(Nat.log2_lt h0).mpr (Ya h (Nat.pow_le_pow_right d% g%))
n%sg (t u:Int):Int:=if u<0 then -(Int.gcd t u:Int) else (Int.gcd t u:Int)
n%nx (t u:Int):Int:=t.fdiv (sg t u)
n%ny (t u:Int):Int:=u.fdiv (sg t u)
t%nF {t u:Int}(h:u≠0):nx t u*u=t*ny t u/\0<ny t u/\Int.gcd (nx t u) (ny t u)=1/\sg t u≠0/\(nx t u).natAbs<=t.natAbs/\(ny t u).natAbs<=u.natAbs:=by
 have g0:0<Int.gcd t u:=Int.gcd_pos_of_ne_zero_right t h;obtain⟨a,ha⟩:(Int.gcd t u:Int)∣t:=Int.gcd_dvd_left ..;obtain⟨b,hb⟩:(Int.gcd t u:Int)∣u:=Int.gcd_dvd_right ..;generalize hg:Int.gcd t u=g at *;have hc:Int.gcd a b=1:=by
  have e:Int.gcd t u=Int.gcd ((g:Int)*a) ((g:Int)*b):=by rw[<- ha,<- hb]
  rw[hg,Int.gcd_mul_left] at e;simp at e;have e2:g*1=g*Int.gcd a b:=by rw[Nat.mul_one];e%e
  e%(Nat.eq_of_mul_eq_mul_left g0 e2).symm
 have gp:(0:Int)<g:=by omega
 have la:a.natAbs<=t.natAbs:=by
  rw[ha,Int.natAbs_mul];simp;e%Nat.le_mul_of_pos_left _ g0
 have lb:b.natAbs<=u.natAbs:=by
  rw[hb,Int.natAbs_mul];simp;e%Nat.le_mul_of_pos_left _ g0
 unfold nx ny sg;rw[hg];by_cases hu:u<0
 .rw[if_pos hu];have dn:(-(g:Int))≠0:=by omega
  have e1:t.fdiv (-(g:Int))=-a:=by
   have:t=(-(g:Int))*(-a):=by rw[Int.neg_mul_neg];e%ha
   rw[this,Int.mul_fdiv_cancel_left _ dn]
  have e2:u.fdiv (-(g:Int))=-b:=by
   have:u=(-(g:Int))*(-b):=by rw[Int.neg_mul_neg];e%hb
   rw[this,Int.mul_fdiv_cancel_left _ dn]
  rw[e1,e2];r%⟨?_,?_,by rw[Int.neg_gcd,Int.gcd_neg];e%hc,dn,by rw[Int.natAbs_neg];e%la,by rw[Int.natAbs_neg];e%lb⟩
  .have q:a*u=t*b:=by rw[hb,ha];rw[Int.mul_left_comm,Int.mul_assoc]
   rw[Int.neg_mul,q,Int.mul_neg]
  .rcases Int.lt_or_le b 0 with z |z
   .omega
   .have:0<=(g:Int)*b:=Int.mul_nonneg g% z;omega
 .rw[if_neg hu];have dn:(g:Int)≠0:=by omega
  have e1:t.fdiv (g:Int)=a:=by rw[ha,Int.mul_fdiv_cancel_left _ dn]
  have e2:u.fdiv (g:Int)=b:=by rw[hb,Int.mul_fdiv_cancel_left _ dn]
  rw[e1,e2];r%⟨?_,?_,hc,dn,la,lb⟩
  .rw[hb,ha,Int.mul_left_comm,Int.mul_assoc]
  .rcases Int.lt_or_le 0 b with z |z
   .exact z
   .have:(g:Int)*b<=0:=Int.mul_nonpos_of_nonneg_of_nonpos g% z;omega
t%zb {a c:Int}(h:c≠0):(a.fmod c).natAbs<c.natAbs:=by
 rcases Int.lt_or_gt_of_ne h with z |z
 .have e:(-a).fmod (-c)=-(a.fmod c):=Int.neg_fmod_neg a c;have h1:=Int.fmod_nonneg_of_pos (-a) (show 0 < -c by omega);have h2:=Int.fmod_lt_of_pos (-a) (show 0 < -c by omega);omega
 .have h1:=Int.fmod_nonneg_of_pos a z;have h2:=Int.fmod_lt_of_pos a z;omega
t%ve {a c:Int}:Int.gcd c (a.fmod c)=Int.gcd a c:=by
 rw[Int.gcd_comm a c,Int.fmod_def,Int.gcd_sub_mul_left_right]
end KG
namespace L2
open PySem PySem.Spec PyProof.Rows KG
section
variable {X:Cx}
t%Ec:eO X (binaryOp .FloorDiv) (rI (fun _ j=>0<j/\Bd 8000 j) fun i j=>.int (i / j)):=HX fun i j _ _ _ _ _ hc q=>by
 have h1:(0:Int)<j:=hc.1;e%floordiv_int g% (by rw[Int.fdiv_eq_ediv_of_nonneg i g%];e%q) (.inl (PyProof.noPylong_of_log2 (hc.2.log d%)))
t%jK:eO X (binaryOp .FloorDiv) (rI (fun _ j=>j≠0/\Bd 8000 j) fun i j=>.int (i.fdiv j)):=HX fun _ _ _ _ _ _ _ hc q=>floordiv_int hc.1 q (.inl (PyProof.noPylong_of_log2 (hc.2.log d%)))
t%t9:eO X (binaryOp .Mult) (rI (fun i j=>Bd 8000 i/\Bd 8000 j) fun i j=>.int (i*j)):=HX fun i j _ _ _ _ _ hc q=>mul_int q (IntMulOk.of_bits (Ye (intBits_le hc.1) d%) (Ye (intBits_le hc.2) d%))
end
end L2
namespace KG
open PySem L2
t%fk {K:PySem.W.Frag}{tt:TT}{ao:St}{a acc b:Addr}{H1:Hp}{xs:List V}{ds:List PyData}{Q:VK}(m:PyData->Bool)(hT:bX b H1 xs ds)(ha:H1 a=some (.tup xs))(bt:H1 acc=none)(hl:xs.length<=1000)(ud:0<ao.length)
  (ht:∀(x:V) (d:PyData) (H':Hp),ak H1 H'->iU b H' x d->d∈ds->∀Z:Bool->Hp->Prop,(∀H5,ak H' H5->Z (!m d) H5)->tt (ao.set 0 (some x)) H' Z)
  (hd:∀ys es H',ak H1 H'->H' acc=some (.lst ys)->bX b H' ys es->es.isEmpty=ds.all m->Q (.ref acc) H'):cw (cF 0) tt (mR 0) (zL K a) acc ao H1 Q:=by
 have bN:=hT.len;r%lm (xs:=xs) (fun i ys H'=>ak H1 H'/\ys.length<=i/\∃es,bX b H1 ys es/\es=(ds.take i).filter (fun d=>!m d)) ⟨(ak.refl H1).acc bt,Ze _,[],.nil,rfl⟩ (fun i ys H' _ _ q=>aH.of (q.1 _ _ ha)) ?_ ?_
 .rintro i x ys H' hx hy ⟨st,Fx,es,tr,rfl⟩;o%⟨d,OJ,R7⟩:=hT.at hx;have hi:i<xs.length:=(Zd.mp hx).1;r%ht x d H' st (R7.az st) (Yc OJ) _ fun H5 nP=>?_
  have ZJ:(ds.take (i+1)).filter (fun d=>!m d)=(ds.take i).filter (fun d=>!m d)++if m d=true then [] else [d]:=by
   rw[List.take_add_one,OJ,List.filter_append]
   congr 1
   cases hm:m d<;>simp[hm]
  cases hm:m d with
  |true =>
   r%bB (Cn.of (nP _ _ hy) ⟨st.trans nP,by omega,_,tr,?_⟩);rw[ZJ,hm];simp
  |false =>
   r%aU ⟨x,?_,ys,nP _ _ hy,by rw[sz];omega,Cn.of cQ ⟨(st.trans nP).acc bt,?_,_,?_,rfl⟩⟩
   .rw[Yf ud]
   .rw[Zn];show ys.length+1<=i+1;omega
   .rw[ZJ,hm];e%bX.app tr (.cons R7 .nil)
 .rintro ys H' hy ⟨st,Fx,es,tr,rfl⟩;rw[bN,List.take_length] at tr;r%hd ys _ H' st hy (tr.az st) ?_;rw[Bool.eq_iff_iff,List.isEmpty_iff,List.filter_eq_nil_iff,Zu];simp
t%HL {es:List PyData}:PyData.eqv (.list es) (.list [])=es.isEmpty:=by
 cases es<;>simp[PyData.eqv,PyData.eqvAll]
end KG
namespace L2
open PySem PySem.Spec PyProof.Rows
n%Ql (K:PySem.W.Frag)(n:Nat)(t:zJ):TG:=fun v σ H Q=>∃a xs,v=.ref a/\bz K H a xs/\xs.length=n/\t xs σ H Q
t%LY {X:Cx}{es:List Expr}{k:Nat}{t:zJ}{n:Nat}{pos:Pos}(hc:X.calm=true)(h:vQ X es t)
  (hn:x%((assignEach es X.env).length=n)) (lO:x%((assignEach es X.env).findIdx? (·.1)=none)):PG X (.Tuple es k pos) (Ql X.K n t):=by
 intro aa s σ H v u Q I r hw;o%⟨a,xs,e1,hq,hl,hw⟩:=hw;subst e1;cases r;o%⟨its,rv,ht,hz⟩:=I.list hq;rw[assign_Tuple];r%Za (wpAny_standAt ?_);unfold unpack;rw[hn,lO];have hsz:n=its.toArray.size:=by rw[Zt,<- rv.length,hl]
 rw[hsz];r%Za (wpAny_holding (PySem.W.kun_itemsOf (I.ok.hd hc) ht.isList fun h' hx=>?_));have I1:Inv X aa σ H { s with heap:=h' }:=I.kept (t':=s.toks) fun b o e=>hx b o (Yd (Heap.lt_size e)) e
 e%h aa _ σ H xs _ Q I1 (by simpa using rv) hw
t%nY {X:Cx}{e:Expr}{te:TE}(K:PySem.W.Frag){T:Str}{n:String}{p p2 pos:Pos}(he:PE X e te)(hg:Gl X "isinstance")(hm:X.mg "isinstance"=none)(Bx:Gl X T)(Bt:X.mg T=none)(hv:bootBuiltins T=some (.type n))
  (hb:bootBuiltins "isinstance"=some (.builtin "isinstance")) (h:x%(X.K=K)) (Ow:y%(T ≠ "__name__")) (JK:y%((T == ("__debug__" : Str))=false))
  (hs:x%(starEach [e,.Name T p2] X.env=[(false,eval e X.env),(false,eval (.Name T p2) X.env)]))
  (gk:x%((backTo pos (starEach [.Name T p2] X.env)).any (·.1)=false)):PE X (.Call (.Name "isinstance" p) [e,.Name T p2] [] pos) (Kh K (.type n) te):=by
 subst h;e%G0 he hg hm Bx Bt hv hb Ow JK hs gk
end L2
namespace L2
open PySem PySem.Spec PyProof.Rows EX
section
variable {X:Cx}{st:Stmt}{Nz:List Stmt}{t u:TX}
end
end L2
namespace KM
open PySem L2 KG EX
n%Xq:PyData->String
 |.none=>"NoneType"
 |.bool _=>"bool"
 |.int _=>"int"
 |.str _=>"str"
 |.list _=>"list"
 |.tuple _=>"tuple"
 |.dict _=>"dict"
n%RQ:PyData->Bool
 |.int _=>true
 |.bool _=>true
 |_=>false
n%RS:PyData->Bool
 |.bool _=>true
 |_=>false
n%p6:PyData->Bool
 |.tuple _=>true
 |_=>false
structure rM (K:PySem.W.Frag):Prop where
 i1:PySem.W.kitOne K (.type "NoneType") (.type "int")=some false
 i2:PySem.W.kitOne K (.type "bool") (.type "int")=some true
 i3:PySem.W.kitOne K (.type "int") (.type "int")=some true
 i4:PySem.W.kitOne K (.type "str") (.type "int")=some false
 i5:PySem.W.kitOne K (.type "list") (.type "int")=some false
 i6:PySem.W.kitOne K (.type "tuple") (.type "int")=some false
 b1:PySem.W.kitOne K (.type "NoneType") (.type "bool")=some false
 b2:PySem.W.kitOne K (.type "bool") (.type "bool")=some true
 b3:PySem.W.kitOne K (.type "int") (.type "bool")=some false
 b4:PySem.W.kitOne K (.type "str") (.type "bool")=some false
 b5:PySem.W.kitOne K (.type "list") (.type "bool")=some false
 b6:PySem.W.kitOne K (.type "tuple") (.type "bool")=some false
 t1:PySem.W.kitOne K (.type "NoneType") (.type "tuple")=some false
 t2:PySem.W.kitOne K (.type "bool") (.type "tuple")=some false
 t3:PySem.W.kitOne K (.type "int") (.type "tuple")=some false
 t4:PySem.W.kitOne K (.type "str") (.type "tuple")=some false
 t5:PySem.W.kitOne K (.type "list") (.type "tuple")=some false
 t6:PySem.W.kitOne K (.type "tuple") (.type "tuple")=some true
t%YR {K:PySem.W.Frag}(Z:rM K){b:Addr}{H:Hp}{v:V}{d:PyData}(h:iU b H v d):∃t,iX K H v t/\PySem.W.kitOne K t (.type "int")=some (RQ d):=by
 cases h with
 |bO=>e%⟨_,.bO,Z.i1⟩
 |bl c=>e%⟨_,.bl _,Z.i2⟩
 |int c=>e%⟨_,.int _,Z.i3⟩
 |str x ok=>e%⟨_,.str _,Z.i4⟩
 |lst n e t=>e%⟨_,.lst e,Z.i5⟩
 |tup e t=>e%⟨_,.tup e,Z.i6⟩
t%YT {K:PySem.W.Frag}(Z:rM K){b:Addr}{H:Hp}{v:V}{d:PyData}(h:iU b H v d):∃t,iX K H v t/\PySem.W.kitOne K t (.type "bool")=some (RS d):=by
 cases h with
 |bO=>e%⟨_,.bO,Z.b1⟩
 |bl c=>e%⟨_,.bl _,Z.b2⟩
 |int c=>e%⟨_,.int _,Z.b3⟩
 |str x ok=>e%⟨_,.str _,Z.b4⟩
 |lst n e t=>e%⟨_,.lst e,Z.b5⟩
 |tup e t=>e%⟨_,.tup e,Z.b6⟩
t%Oj {K:PySem.W.Frag}(Z:rM K){b:Addr}{H:Hp}{v:V}{d:PyData}(h:iU b H v d):∃t,iX K H v t/\PySem.W.kitOne K t (.type "tuple")=some (p6 d):=by
 cases h with
 |bO=>e%⟨_,.bO,Z.t1⟩
 |bl c=>e%⟨_,.bl _,Z.t2⟩
 |int c=>e%⟨_,.int _,Z.t3⟩
 |str x ok=>e%⟨_,.str _,Z.t4⟩
 |lst n e t=>e%⟨_,.lst e,Z.t5⟩
 |tup e t=>e%⟨_,.tup e,Z.t6⟩
t%kN {b:Addr}{H:Hp}{v:V}{d:PyData}(h:iU b H v d):p6 d=false\/∃a xs ds,v=.ref a/\d=.tuple ds/\H a=some (.tup xs)/\bX b H xs ds:=by
 cases h with
 |bO=>e%.inl rfl
 |bl c=>e%.inl rfl
 |int c=>e%.inl rfl
 |str x ok=>e%.inl rfl
 |lst n e t=>e%.inl rfl
 |tup e t=>e%.inr ⟨_,_,_,rfl,rfl,e,t⟩
t%kU {b:Addr}{H:Hp}{v:V}{d:PyData}(h:iU b H v d):E1 d=false\/∃i,v=.int i/\d=.int i:=by
 cases h with
 |bO=>e%.inl rfl
 |bl c=>e%.inl rfl
 |int c=>e%.inr ⟨_,rfl,rfl⟩
 |str x ok=>e%.inl rfl
 |lst n e t=>e%.inl rfl
 |tup e t=>e%.inl rfl
t%pP (d:PyData):E1 d=(RQ d&&!RS d):=by cases d<;>rfl
t%Ac {lo hi:Int}{d:PyData}(h:E1 d=false):within lo hi d=false:=by cases d<;>first |rfl |cases h
t%qX {d:PyData}(h:p6 d=false):aO d=false:=by cases d<;>first |rfl |cases h
n%spT (m:PyData->Bool):Sp:=fun vs H Q _=>∃(b:Addr) (v:V) (d:PyData),vs=[v]/\iU b H v d/\∀H',ak H H'->Q (.bl (m d)) H'
n%BG (m:PyData->Bool):Sp:=fun vs H Q _=>∃(b:Addr) (v:V) (d:PyData),vs=[v]/\iU b H v d/\bv d=true/\∀H',ak H H'->Q (.bl (m d)) H'
n%Ci:Sp:=fun vs H Q _=>∃(t u:Int),vs=[.int t,.int u]/\0<=u/\Q (.int (Int.gcd t u)) H
t%vf {a c:Int}:Int.gcd c (a % c)=Int.gcd a c:=by
 rw[Int.gcd_comm a c,Int.emod_def,Int.gcd_sub_mul_left_right]
t%zr {a:Int}:(if a<0 then -a else a)=(Int.gcd a 0:Int):=by
 rw[Int.gcd_zero_right];split<;>omega
t%pS {K:PySem.W.Frag}{te:TE}{ao:St}{a acc b:Addr}{H1:Hp}{xs:List V}{ds:List PyData}{Q:VK}(m:PyData->Bool)(hT:bX b H1 xs ds)(ha:H1 a=some (.tup xs))(bt:H1 acc=none)(hl:xs.length<=1000)
  (ht:∀(x:V) (d:PyData) (H':Hp),ak H1 H'->iU b H' x d->d∈ds->∀Z:V->Hp->Prop,(∀H5,ak H' H5->Z (.bl (m d)) H5)->te (ao.set 0 (some x)) H' Z)
  (hd:∀H',ak H1 H'->H' acc=some (.lst (ds.map fun d=>.bl (m d)))->Q (.ref acc) H'):cw (cF 0) zN te (zL K a) acc ao H1 Q:=by
 have bN:=hT.len;r%lm (xs:=xs) (fun i ys H'=>ak H1 H'/\ys=(ds.take i).map fun d=>.bl (m d)) ⟨(ak.refl H1).acc bt,rfl⟩ (fun i ys H' _ _ q=>aH.of (q.1 _ _ ha)) ?_ ?_
 .rintro i x ys H' hx hy ⟨st,rfl⟩;o%⟨d,OJ,R7⟩:=hT.at hx;have hi:i<xs.length:=(Zd.mp hx).1;r%ut ?_;r%ht x d H' st (R7.az st) (Yc OJ) _ fun H5 nP=>?_
  r%⟨_,nP _ _ hy,?_,Cn.of cQ ⟨(st.trans nP).acc bt,?_⟩⟩
  .rw[Zb,Yk,sz];omega
  .rw[List.take_add_one,OJ,Zs];rfl
 .rintro ys H' hy ⟨st,rfl⟩;rw[bN,List.take_length] at hy;e%hd H' st hy
t%rC {ds:List PyData}{m:PyData->Bool}:(ds.map fun d=>V.bl (m d)).all tv=ds.all m:=by
 rw[List.all_map];rfl
t%mI {ds:List PyData}{m:PyData->Bool}:(ds.map fun d=>V.bl (m d)).all du=true:=by
 rw[List.all_map];simp[Function.comp_def,du]
t%pQ {ds:List PyData}(h:ds.length≠2):aO (.tuple ds)=false:=by
 unfold aO;split
 .next UX=>injection UX with UX;subst UX;e%absurd rfl h
 .rfl
t%kL {a b:Nat}(h:a≠b):(!decide (V.int (a:Int)=V.int (b:Int)))=true:=by
 have:(a:Int)≠b:=by omega
 simp[this]
t%yy (a:Int):(!decide (V.int a=V.int a))=false:=by simp
n%wH:Sp:=fun vs H Q _=>∃(t u:Int),vs=[.int t,.int u]/\0<u/\u<1073741824/\∀(p:Addr),H p=none->Q (.ref p) (aK H p (.tup [.int (t / (Int.gcd t u:Int)),.int (u / (Int.gcd t u:Int))]))
t%za {t u:Int}(h:0<u):0<(Int.gcd t u:Int)/\(Int.gcd t u:Int)<=u:=by
 have h1:0<Int.gcd t u:=Int.gcd_pos_of_ne_zero_right t g%;have h2:(Int.gcd t u:Int)∣u:=Int.gcd_dvd_right ..;e%⟨by omega,Int.le_of_dvd h h2⟩
t%CS {b:Addr}{H:Hp}:∀ns:List Int,bX b H (ns.map V.int) (ns.map PyData.int)
 |[]=>.nil
 |n::ns=>.cons (.int n) (CS ns)
t%xO {lo hi:Int}{ns:List Int}(h:∀n∈ns,lo<=n/\n<=hi):(ns.map PyData.int).all (within lo hi)=true:=by
 rw[List.all_map,Zu];intro n hn;o%⟨h1,h2⟩:=h n hn;show(decide _&&decide _)=true;rw[decide_eq_true h1,decide_eq_true h2];rfl
t%ED {i j:Int}(h:0<j):(PyData.eqv (.tuple [.int i,.int j]) (.tuple [.int (i / (Int.gcd i j:Int)),.int (j / (Int.gcd i j:Int))]))=decide (Int.gcd i j=1):=by
 o%⟨g0,g1⟩:=za (t:=i) h;have gu:(Int.gcd i j:Int)∣j:=Int.gcd_dvd_right ..;have gt:(Int.gcd i j:Int)∣i:=Int.gcd_dvd_left ..;simp only[PyData.eqv,PyData.eqvAll,Bool.and_true];rw[Bool.eq_iff_iff,Zl,beq_iff_eq,beq_iff_eq,decide_eq_true_eq];constructor
 .rintro⟨_,h2⟩;have a1:j / (Int.gcd i j:Int)*(Int.gcd i j:Int)=j:=Int.ediv_mul_cancel gu;rw[<- h2] at a1;have:(Int.gcd i j:Int)=1:=by
   have a2:j*(Int.gcd i j:Int)=j*1:=by rw[a1,Int.mul_one]
   e%Int.eq_of_mul_eq_mul_left g% a2
  omega
 .intro e;rw[e];simp
t%gg {ds:List PyData}(h:bv (.tuple ds)=true):∀d∈ds,bv d=true:=fun d hd=>kh (ds:=ds) h hd
mutual
def ln (n:Nat):PyData->Bool
 |.list ds=>decide (ds.length<=n)&&zt n ds
 |.tuple ds=>decide (ds.length<=n)&&zt n ds
 |_=>true
def zt (n:Nat):List PyData->Bool
 |[]=>true
 |d::ds=>ln n d&&zt n ds
end
t%sU {n:Nat}:∀{ds:List PyData},zt n ds=true↔∀d∈ds,ln n d=true
 |[]=>by simp[zt]
 |d::ds=>by
  rw[zt,Zl,sU (ds:=ds)];simp
t%kG {n:Nat}{ds:List PyData}:ln n (.tuple ds)=true↔ds.length<=n/\∀d∈ds,ln n d=true:=by
 rw[ln,Zl,decide_eq_true_eq,sU]
t%WH {n:Nat}{ds:List PyData}:ln n (.list ds)=true↔ds.length<=n/\∀d∈ds,ln n d=true:=by
 rw[ln,Zl,decide_eq_true_eq,sU]
mutual
theorem sV {n m:Nat}(h:n<=m):∀{d:PyData},ln n d=true->ln m d=true
 |.none,_=>rfl
 |.bool _,_=>rfl
 |.int _,_=>rfl
 |.str _,_=>rfl
 |.dict _,_=>rfl
 |.list ds,e=>by
  have e':ds.length<=n/\zt n ds=true:=by simpa[ln] using e
  have:=pA h (ds:=ds) e'.2;simp[ln,this];omega
 |.tuple ds,e=>by
  have e':ds.length<=n/\zt n ds=true:=by simpa[ln] using e
  have:=pA h (ds:=ds) e'.2;simp[ln,this];omega
theorem pA {n m:Nat}(h:n<=m):∀{ds:List PyData},zt n ds=true->zt m ds=true
 |[],_=>rfl
 |d::ds,e=>by
  have e':ln n d=true/\zt n ds=true:=by simpa[zt] using e
  simp[zt,sV h e'.1,pA h e'.2]
end
t%gx {ds:List PyData}(h:∀d∈ds,bv d=true):bv (.tuple ds)=true:=mr h
t%Gz {ds:List PyData}(h:∀d∈ds,bv d=true):bv (.list ds)=true:=mr h
n%lU:List PyData:=[.int (-1),.int 0,.int 1,.int 2,.int 61,.int 101,.int 1000001,.bool true,.bool false,.none,.str "",.str "1",.tuple [],.tuple [.int 1],.tuple [.int 0,.int 1],.tuple [.int 1,.int 1],.tuple [.int 2,.int 2],.tuple [.int 1,.int 0],
 .tuple [.int 1,.int (-1)],.tuple [.bool true,.int 1],.list [.int 1,.int 1],.list [],.tuple [.int 1,.int 2,.int 3],.tuple [.tuple [.int 1,.int 1]]]
t%kS:∀d∈lU,P9 d=false/\bv d=true/\ln 3 d=true:=by
 have h:lU.all (fun d=>!P9 d&&bv d&&ln 3 d)=true:=by decide+kernel
 intro d hd;have:=Zu.mp h d hd;simp only[Zl,Bool.not_eq_true'] at this;e%⟨this.1.1,this.1.2,this.2⟩
t%vS.az {b:Addr}{H H':Hp}(h:vS H b)(s:ak H H'):vS H' b:=by o%⟨c,d,e⟩:=h;e%⟨c,d,s _ _ e⟩
n%put {α : Type}(xs:List α)(i:Nat)(x:α):List α:=xs.take i++[x]++xs.drop (i+1)
t%GR {α : Type}{xs:List α}{i:Nat}{x:α}(h:i<xs.length):(put xs i x).length=xs.length:=by
 unfold put;rw[Zn,Zn,Yk,List.length_drop];show min i xs.length+1+_=_;omega
structure Nm (mg:Str->Option Value):Prop where
 len:mg "len"=none
 range:mg "range"=none
 tuple:mg "tuple"=none
 list:mg "list"=none
 all:mg "all"=none
 any:mg "any"=none
 max:mg "max"=none
 min:mg "min"=none
 sum:mg "sum"=none
 abs:mg "abs"=none
 int:mg "int"=none
 isinstance:mg "isinstance"=none
 bool:mg "bool"=none
 enumerate:mg "enumerate"=none
 xf:mg "ValueError"=none
t%xM:bootBuiltins "ValueError"=some (.type "ValueError"):=by first |rfl |kernel_rfl |decide+kernel
structure mY (K:PySem.W.Frag)(mg:Str->Option Value)(P:Program)(w:World)(base:Heap)(x:Str)(k:Nat)(ps:List Str)(sp:Sp)(f:Addr)(fd:FuncData):Prop where
 ok:aM P w K mg base (kD P w) k f fd ps sp
 mg:mg x=some (.ref f)
 kp:PySem.W.keepIn K (.ref f)=true
 bd:Binds K fd ps []
structure QB (K:PySem.W.Frag)(mg:Str->Option Value)(P:Program)(w:World)(base:Heap)(x:Str)(k:Nat)(ps:List Str)(sp:Addr->Addr->Sp)(f:Addr)(fd:FuncData):Prop where
 ok:NR P w K mg base k f fd ps sp
 mg:mg x=some (.ref f)
 kp:PySem.W.keepIn K (.ref f)=true
 bd:Binds K fd ps []
t%wQ {P:Program}{w:World}{X:Cx}:mn (kD P w) X E0:=fun _ _ _ _ _ _ _ h=>by
 o%⟨_,_,_,_,_,_,_,_,_,_,_,_,_,_,z⟩:=h;e%z.elim
end KM
namespace L2
open PySem PySem.Spec PyProof.Rows
section
variable {κ : Type}[DecidableEq κ]
n%j3 (kvs:List (κ × V))(k:κ):Option V:=(kvs.find? fun kv=>decide (kv.1=k)).map (·.2)
n%mT (kvs:List (κ × V))(k:κ)(v:V):List (κ × V) :=
 if (kvs.any fun kv=>decide (kv.1=k))=true then kvs.map (fun kv=>if kv.1=k then (kv.1,v) else kv) else kvs++[(k,v)]
t%kY {p:κ × V}{r:List (κ × V)}{k:κ}(e:p.1=k):j3 (p::r) k=some p.2:=by simp[j3,List.find?_cons,e]
t%kZ {p:κ × V}{r:List (κ × V)}{k:κ}(e:¬ p.1=k):j3 (p::r) k=j3 r k:=by simp[j3,List.find?_cons,e]
t%ph (k:κ):∀kvs:List (κ × V),(kvs.any fun kv=>decide (kv.1=k))=(j3 kvs k).isSome
 |[]=>rfl
 |p::r=>by
  rw[List.any_cons];by_cases e:p.1=k
  .simp only[kY e,decide_eq_true e,Bool.true_or,Option.isSome_some]
  .rw[kZ e,decide_eq_false e,Bool.false_or];e%ph k r
t%vC (kvs:List (κ × V))(k:κ)(v:V):(mT kvs k v).length<=kvs.length+1:=by
 unfold mT;split
 .rw[Zb];omega
 .rw[Zn,List.length_cons,List.length_nil];omega
t%DX {kvs:List (κ × V)}{k:κ}(v:V)(h:j3 kvs k=none):mT kvs k v=kvs++[(k,v)]:=by
 unfold mT;rw[ph,h];e%if_neg d%
t%KV.val {kvs:List (κ × V)}{vs:List (κ × Value)}(r:KV kvs vs)(k:κ):aJ (j3 kvs k) (valueAt vs k):=by
 unfold KV at r;induction r with
 |nil=>e%True.intro
 |@cons p q ps qs h t ih =>
  o%⟨h1,h2⟩:=h;by_cases e:p.1=k
  .have e':q.1=k:=h1.symm.trans e;have b:valueAt (q::qs) k=some q.2:=by simp[valueAt,List.find?_cons,e']
   rw[kY e,b];e%h2
  .have e':¬ q.1=k:=fun z=>e (h1.trans z)
   have b:valueAt (q::qs) k=valueAt qs k:=by simp[valueAt,List.find?_cons,e']
   rw[kZ e,b];e%ih
t%KV.any {kvs:List (κ × V)}{vs:List (κ × Value)}(r:KV kvs vs)(k:κ):(kvs.any fun kv=>decide (kv.1=k))=vs.any fun kv=>decide (kv.1=k):=by
 unfold KV at r;induction r with
 |nil=>rfl
 |cons h t ih=>rw[List.any_cons,List.any_cons,ih,h.1]
t%KV.Wy {kvs:List (κ × V)}{vs:List (κ × Value)}(r:KV kvs vs)(k:κ){y:V}{u:Value}(ry:RelV y u) :
  KV (kvs.map fun kv=>if kv.1=k then (kv.1,y) else kv) (vs.map fun kv=>if kv.1=k then (kv.1,u) else kv):=by
 unfold KV at r ⊢;induction r with
 |nil=>e%.nil
 |@cons p q ps qs h t ih =>
  rw[Yj,Yj];r%.cons ?_ ih;o%⟨h1,h2⟩:=h;by_cases e:p.1=k
  .rw[if_pos e,if_pos (h1.symm.trans e)];e%⟨h1,ry⟩
  .rw[if_neg e,if_neg (fun z=>e (h1.trans z))];e%⟨h1,h2⟩
t%KV.put {kvs:List (κ × V)}{vs:List (κ × Value)}(r:KV kvs vs)(k:κ){y:V}{u:Value}(ry:RelV y u):KV (mT kvs k y) (stored vs k u):=by
 unfold mT stored;rw[r.any k];by_cases e:(vs.any fun kv=>decide (kv.1=k))=true
 .rw[if_pos e,if_pos e];e%r.Wy k ry
 .rw[if_neg e,if_neg e];e%Paired.snoc r ⟨rfl,ry⟩
t%KV.keys {kvs:List (κ × V)}{vs:List (κ × Value)}(r:KV kvs vs):kvs.map (·.1)=vs.map (·.1):=by
 unfold KV at r;induction r with
 |nil=>rfl
 |cons h t ih=>rw[Yj,Yj,ih,h.1]
t%KV.length {kvs:List (κ × V)}{vs:List (κ × Value)}(r:KV kvs vs):kvs.length=vs.length:=Paired.length r
end
t%CJ {P:Program}{w:World}{k:df}{u:Value}(r:RelV (kV k) u):(tS P w).is k u=true:=by
 cases k with
 |inl i=>o%⟨t,e⟩:=(show ∃t,u=Value.int i t from r);subst e;e%vA P w i t
 |inr x=>o%⟨t,e⟩:=(show ∃t,u=Value.str x t from r);subst e;e%vz P w x t
t%qW {P:Program}{w:World}:∀{ks:List df}{us:List Value},aQ (ks.map kV) us->ItemsAre (tS P w) ks us
 |[],_,r=>by rw[List.map_nil] at r;cases r;e%.nil
 |k::ks,_,r=>by
  rw[Yj] at r;cases r with
  |cons h t=>e%.cons (CJ h) (qW t)
m%KT (H:Hp):List (List df×V)->List (List df×Addr×Value)->Prop:=Paired fun p q=>p.1=q.1/\H q.2.1=some (.tup (p.1.map kV))/\RelV p.2 q.2.2
t%KT.val {H:Hp}{kvs:List (List df×V)}{xs:List (List df×Addr×Value)}(r:KT H kvs xs)(k:List df):aJ (j3 kvs k) ((atKey xs k).map (·.2)):=by
 induction r with
 |nil=>e%True.intro
 |@cons p q ps qs h t ih =>
  o%⟨h1,_,h2⟩:=h;by_cases e:p.1=k
  .have e':q.1=k:=h1.symm.trans e;have b:atKey (q::qs) k=some q.2:=by simp[atKey,List.find?_cons,e']
   rw[kY e,b];e%h2
  .have e':¬ q.1=k:=fun z=>e (h1.trans z)
   have b:atKey (q::qs) k=atKey qs k:=by simp[atKey,List.find?_cons,e']
   rw[kZ e,b];e%ih
section
variable {P:Program}{w:World}{H:Hp}{h:Heap}{a:Addr}
t%Iz {u:HO}(ok:jV P w H h)(e:Rd H a u):bZ P w H h a u:=e.ok ok
t%yu {kvs:List (df×V)}(ok:jV P w H h)(e:Rd H a (.dK kvs)):kvs.length<=sizeLine/\(a == sysModules)=false/\∃vs,KV kvs vs/\h.DictOf (tS P w) a vs :=
 show bZ P w H h a (.dK kvs) from Iz ok e
t%CO {kvs:List (df×V)}(ok:jV P w H h)(e:H a=some (.dK kvs)):kvs.length<=sizeLine/\(a == sysModules)=false/\∃vs,KV kvs vs/\h.DictOf (tS P w) a vs:=yu ok (.inl e)
t%Ds {ks:List df}(ok:jV P w H h)(e:H a=some (.tup (ks.map kV))):(tupleKind (tS P w)).is h ks a:=by
 o%⟨_,its,r,o,h1,h2,n,h3⟩:=(show bZ P w H h a (.tup (ks.map kV)) from ok a _ e);e%⟨o,its.toArray,n,h1,h2,h3,by simpa using qW r⟩
t%Jl {kvs:List (List df×V)}(ok:jV P w H h)(e:Rd H a (.dT kvs)):kvs.length<=sizeLine/\(a == sysModules)=false /\
  ∃xs,KT H kvs xs/\h.DictOfH (tupleKind (tS P w)) a xs:=by
 o%⟨z,y,xs,r,o,es,ep,h1,h2,h3,h4,h5⟩:=(show bZ P w H h a (.dT kvs) from Iz ok e);r%⟨z,y,xs,r,o,es,ep,h1,h2,h3,h4,fun x hx=>?_,h5⟩;have all:∀{l:List (List df×V)}{m:List (List df×Addr×Value)},KT H l m->∀x∈m,(tupleKind (tS P w)).is h x.1 x.2.1:=by
  intro l m q;induction q with
  |nil=>intro x hx;e%nomatch hx
  |@cons p q ps qs hq t ih =>
   intro x hx;rcases Zf.mp hx with e |hx
   .subst e;e%Ds ok (by rw[<- hq.1];e%hq.2.1)
   .exact ih x hx
 e%all r x hx
end
n%Lg (H:Hp)(a:Addr)(y:V)(r:Option V):Prop :=
 (∃kvs k,Rd H a (.dK kvs)/\y=kV k/\r=j3 kvs k)\/∃kvs k b,Rd H a (.dT kvs)/\y=.ref b/\H b=some (.tup (k.map kV))/\r=j3 kvs k
section
variable {X:Cx}{aa:List (Addr×Obj)}{σ:St}{H:Hp}{s:Shared}{a:Addr}{y v:V}{u r:Value}{o:Option V}{A:Around}{E:Value->Shared->Prop}
t%Inv.big (I:Inv X aa σ H s):sysModules<s.heap.objs.size:=by
 have h:mainGlobals<s.heap.objs.size:=(I.mod.glob.keeps I.bk).lt;e%Nat.lt_trans d% h
t%AR {Q:Value->Shared->Prop}(hu:A.units+1<cLine)(I:Inv X aa σ H s)(g:Lg H a y (some v))(ry:RelV y u)(h:∀w' s',Inv X aa σ H s'->RelV v w'->Q w' s') :
  wpAny (model X.prog X.w) A (getItem (.ref a) u) Q E s:=by
 rcases g with ⟨kvs,k,e,ey,l⟩ |⟨kvs,k,b,e,ey,eb,l⟩
 .subst ey;o%⟨z,hd,vs,m7,dd⟩:=yu I.bp e;o%⟨w',hw,Bk⟩:=aJ.some_of (v:=v) (o:=valueAt vs k) (by rw[l];e%m7.val k);e%wpAny_getItem_of (CJ ry) dd.mapOf hw (h w' _ (I.tok _) Bk)
 .subst ey;cases (show u=Value.ref b from ry);o%⟨z,hd,xs,m7,dd⟩:=Jl I.bp e;o%⟨w',hw,Bk⟩:=aJ.some_of (v:=v) (o:=(atKey xs k).map (·.2)) (by rw[l];e%m7.val k);o%⟨p,hp,UB⟩:=Option.map_eq_some_iff.mp hw;r%wpAny_getItem_heap (tupleKind_room_in1 hu) (Ds I.bp eb) dd hp ?_;rw[UB];e%h w' _ (I.tok _) Bk
t%HN {h':Heap}{t':Nat}{ob:HO}(I:Inv X aa σ H s)(mu:Pe (H a))(hs:Heap.SameBut a s.heap h')(he:∃q,h'.get? a=some q)(new:bZ X.prog X.w (aK H a ob) h' a ob) :
  Inv X aa σ (aK H a ob) { s with heap:=h',toks:=t' } :=
 I.write (x:=a) (e:=a) mu (.inl rfl) (fun b q hb z=>(hs.2 b hb).trans z) he new
t%Nf {P:Program}{w:World}{H':Hp}{h':Heap}{kvs:List (df×V)}{vs:List (df×Value)}(z:kvs.length<=sizeLine)(hd:(a == sysModules)=false)(m7:KV kvs vs)(dd:h'.DictOf (tS P w) a vs) :
  bZ P w H' h' a (.dK kvs):=⟨z,hd,vs,m7,dd⟩
end
section
variable {X:Cx}{aa:List (Addr×Obj)}{σ:St}{H:Hp}{s:Shared}{a:Addr}{kvs:List (df×V)}{k:df}{u:Value}{A:Around}{E:Value->Shared->Prop}
end
n%QA (i:Expr):Prop:=∀ov iv,subscripted i false ov iv=operate [ov,iv] (getItem ov iv)
t%Gy {prog:Program}{w:World}{A:Around}{E:Value->Shared->Prop}{s:Shared}{env:Env}{value slice:Expr}{pos:Pos}{T id:String}{Q:Value->Shared->Prop}
  (hl:typeLookup (.type T) "__getitem__"=pure (some (.builtin id))) (hs:QA slice)
  (h:wpAny (model prog w) A (eval value env) (fun o bh=>wpAny (model prog w) A (eval slice env) (fun i eZ=>eZ.TypeIs o T/\wpAny (model prog w) A (getItem o i) Q E eZ) E bh) E s) :
  wpAny (model prog w) A (eval (.Subscript value slice pos) env) Q E s:=by
 r%Subscript_ (wpAny_mono h (fun o bh lY=>wpAny_mono lY (fun i eZ oi=>?_) fun _ _ x=>x) fun _ _ x=>x);o%⟨hT,oi⟩:=oi;unfold subscriptTail;r%Za ?_;rw[getitemInPython_of_ne hT.not_modules];r%Za (wpAny_specialOf hT hl ?_);have kB:wpAny (model prog w) A (subscripted slice false o i) (fun r cU=>wpAny (model prog w) A (letTemporaryGo value o r >>= fun _=>pure r) Q E cU) E eZ:=by
  rw[hs o i];e%wpAny_operating (wpAny_mono oi (fun r cU lX=>Za (wpAny_letTemporaryGo (wpAny_pure lX))) fun _ _ x=>x)
 first
  |e%wpAny_pure (Za kB)
  |e%Za (wpAny_pure (Za kB))
  |e%Za kB
t%vG {X:Cx}{aa:List (Addr×Obj)}{σ:St}{H:Hp}{s:Shared}{a:Addr}{y:V}{o:Option V}(I:Inv X aa σ H s)(g:Lg H a y o):s.TypeIs (.ref a) "dict":=by
 rcases g with ⟨kvs,k,e,_,_⟩ |⟨kvs,k,b,e,_,_,_⟩
 .obtain⟨_,_,vs,_,dd⟩:=yu I.bp e;e%dd.typeIs
 .obtain⟨_,_,xs,_,dd⟩:=Jl I.bp e;e%dd.typeIs
n%QL (td ty:TE):TE:=fun σ H Q=>td σ H fun x H1=>ty σ H1 fun y H2=>∃a v,x=.ref a/\Lg H2 a y (some v)/\Q v H2
section
variable {X:Cx}{o i e value:Expr}{pos rR rO:Pos}{td ty tv:TE}
t%G2 (hu:X.A.units+1<cLine)(ho:PE X o td)(hi:PE X i ty)(hs:QA i):PE X (.Subscript o i pos) (QL td ty):=by
 intro aa s σ H Q I h;r%Gy PySem.F.slot_dict_getitem.lookup hs (bi (ho aa s σ H _ I h) fun u s1 ⟨x,H1,I1,rx,q1⟩=>bi (hi aa s1 σ H1 _ I1 q1) fun iv s2 ⟨y,H2,I2,ry,a,v,ex,g,q2⟩=>?_);subst ex;obtain rfl:u=Value.ref a:=rx;e%⟨vG I2 g,AR hu I2 g ry fun w' s3 I3 Bk=>⟨v,H2,I3,Bk,q2⟩⟩
end
t%EG {P:Program}{w:World}{H:Hp}(h:Heap)(hb:sysModules<h.objs.size):bZ P w H (h.push { cls:=.type "dict",data:=.dict #[] }) h.objs.size (.dK []) :=
 ⟨Nat.zero_le _,beq_eq_false_iff_ne.mpr (Ne.symm (Yd hb)),[],.nil,Heap.DictOf.new h⟩
section
variable {X:Cx}{pos:Pos}
end
section
variable {X:Cx}{aa:List (Addr×Obj)}{σ:St}{H:Hp}{s:Shared}{a:Addr}{y d:V}{u r:Value}{o:Option V}{A:Around}{E:Value->Shared->Prop}
end
section
variable {X:Cx}{o e f:Expr}{fE bW:Pos}{td ty tx:TE}
end
section
variable {X:Cx}{aa:List (Addr×Obj)}{σ:St}{H:Hp}{s:Shared}{a:Addr}{kvs:List (df×V)}{A:Around}{E:Value->Shared->Prop}
end
section
variable {X:Cx}{aa:List (Addr×Obj)}{σ:St}{H:Hp}{s:Shared}{a:Addr}{y:V}{u:Value}{A:Around}{E:Value->Shared->Prop}
end
section
variable {X:Cx}
end
section
variable {κ : Type}[DecidableEq κ]
t%Gq {kvs:List (κ × V)}{k:κ}{v:V}(h:j3 kvs k=some v):k∈kvs.map (·.1):=by
 have q:(kvs.any fun kv=>decide (kv.1=k))=true:=by
  rw[ph,h]
  all_goals rfl
 o%⟨p,hp,e⟩:=List.any_eq_true.mp q;e%Zh.mpr ⟨p,hp,of_decide_eq_true e⟩
end
n%sD (g:TG)(tt:TT)(tk tv:TE)(J:It)(acc:Addr)(ao:St)(aE:Hp)(Q:VK):Prop :=
 ∃W:Nat->Nat->St->Hp->Prop,(∃m,W 0 m ao (aK aE acc (.dK [])))/\∀i m aD H',W i m aD H' ->
  (J.stop i H'/\Q (.ref acc) H') \/
  (J.go i H'/\∃N:St->Hp->Prop,(∀dz H2,N dz H2->∃m',m'<m/\W (i+1) m' dz H2)/\∀x H2,J.xQ i H' x H2->g x aD H2 fun jz H3=>tt jz H3 fun b H4 =>
   if b=true then tk jz H4 fun kx H5=>tv jz H5 fun y H6=>∃kvs k,H6 acc=some (.dK kvs)/\kx=kV k/\kvs.length<sizeLine/\N jz (aK H6 acc (.dK (mT kvs k y))) else N jz H4)
n%Ll (wi:TI)(g:TG)(tt:TT)(tk tv:TE)(own:Nat)(ix:List Nat):TE:=fun σ H Q=>wi σ H fun J H1=>∀acc,H1 acc=none->sD g tt tk tv J acc (eX own ix σ) H1 Q
t%AS {X:Cx}{aa:List (Addr×Obj)}{σ:St}{H:Hp}{s:Shared}{a:Addr}{v:V}{u r:Value}{A:Around}{E:Value->Shared->Prop}{kvs:List (df×V)}{k:df}{Q:Unit->Shared->Prop}(I:Inv X aa σ H s)
  (e:H a=some (.dK kvs)) (ry:RelV (kV k) u) (rv:RelV v r) (l:kvs.length<sizeLine) (h:∀s',Inv X aa σ (aK H a (.dK (mT kvs k v))) s'->Q () s'):wpAny (model X.prog X.w) A (dictSet a u r) Q E s:=by
 o%⟨z,hd,vs,m7,dd⟩:=CO I.bp e;have z1:vs.length<=sizeLine:=by rw[<- m7.length];e%z
 have z2:(mT kvs k v).length<=sizeLine:=Ye (vC kvs k v) l;r%wpAny_dictSet_pairs (hsz:=z1) (CJ ry) dd fun h' dd' hs=>h _ ?_
 have he:∃q,h'.get? a=some q:=let ⟨q,_,_,hq,_⟩:=dd';⟨q,hq⟩;e%HN I (by rw[e];e%True.intro) hs he (Nf z2 hd (m7.put k rv) dd')
t%xH {prog:Program}{w:World}{A:Around}{R:Result->Shared->Prop}{s:Shared}{kx vx gb iter:Expr}{fu:List Expr}{scope:Scope}{pos:Pos}{it:Value}{D:Addr}{env:Env}(I:Nat->Shared->Prop)
  (turn:∀n s,I n s->wpAny (model prog w) A (pyNext it) (fun r bh=>match r with
   |none=>R (.ok .next) bh
   |some v=>wpAny (model prog w) A (letOwnedTupleGo gb it v) (fun _ iZ=>wpAny (model prog w) A (assign gb env v) (fun _ eZ =>
     wpAny (model prog w) A (forIn fu true fun c r=>if r=true then do let ok <- isTrue c env (eval c env);pure (ForInStep.yield ok) else pure (ForInStep.yield r)) (fun ok cU =>
      if ok=true then wpAny (model prog w) A (eval kx env) (fun kv iq=>wpAny (model prog w) A (eval vx env) (fun vv nW=>wpAny (model prog w) A (dictSet D kv vv) (fun _ nV=>∃m,m<n/\I m nV) (fun _ _=>False) nW)
       (fun _ _=>False) iq) (fun _ _=>False) cU else ∃m,m<n/\I m cU) (fun _ _=>False) eZ) (fun _ _=>False) iZ) (fun _ _=>False) bh) (fun _ _=>False) s)
  (n:Nat) (h:I n s):codeAny (model prog w) A (.compLoop (.DictComp kx vx [⟨gb,iter,fu,0⟩] scope pos) 0 it (.ref D) env) R s:=by
 r%codeAny_loop rfl I (fun n s hI=>?_) n h;show wpAny _ A ((compTurn (.DictComp kx vx [⟨gb,iter,fu,0⟩] scope pos) 0 it (.ref D) env).onRaise (fun x=>do noteFrame x env;theTreesLotGoes x)) _ _ s;r%wpAny_noted ?_;rw[compTurn_dict];r%Za (wpAny_standAt (Za (wpAny_mono (turn n s hI) (fun r bh lY=>?_) fun _ _ h'=>h'.elim)));cases r with
 |none=>e%wpAny_pure lY
 |some v =>
  r%Za (wpAny_mono lY (fun _ iZ oG=>?_) fun _ _ h'=>h'.elim);r%Za (wpAny_mono oG (fun _ eZ oi=>Za (wpAny_mono oi (fun ok cU lX=>?_) fun _ _ h'=>h'.elim)) fun _ _ h'=>h'.elim);cases ok with
  |false=>e%wpAny_pure ⟨rfl,lX⟩
  |true =>
   e%Za (Za (wpAny_mono lX (fun kv iq wn=>Za (wpAny_holding (wpAny_mono wn (fun vv nW wm=>Za (wpAny_standAt (wpAny_holding (wpAny_mono wm (fun _ nV BQ=>wpAny_pure ⟨rfl,BQ⟩) fun _ _ z=>z.elim)))) fun _ _ z=>z.elim))) fun _ _ z=>z.elim))
section
variable {X:Cx}{scope:Scope}{own cap:List Str}{ix:List Nat}{tg iter kx vx:Expr}{fu:List Expr}{wi:TI}{g:TG}{tt:TT}{tk tv:TE}{pos:Pos}
t%xJ {aa:List (Addr×Obj)}{σ:St}{H2:Hp}{s2:Shared}{it:Addr}{fp:List Addr}{tn:Nat->Heap->Prop}{J:It}{Q:VK}{RR:Value->Addr->Result->Shared->Prop}{E:Value->Shared->Prop}
  (B:aA X scope own cap ix) (hc:X.calm=true)
  (hb:∀C fp s H,PG (gl X scope C (own++cap) fp s H) tg g/\fH (gl X scope C (own++cap) fp s H) fu tt/\PE (gl X scope C (own++cap) fp s H) kx tk/\PE (gl X scope C (own++cap) fp s H) vx tv)
  (I2:Inv X aa σ H2 s2) (T:Turn X.prog X.w X.K tg J fp it tn) (gP:tn 0 s2.heap) (f2:∀b∈fp,cY X aa H2 b)
  (q:∀acc,H2 acc=none->sD g tt tk tv J acc (eX own.length ix σ) H2 Q)
  (JQ:∀D C H' s' m,Inv X aa σ H' s'->Q (.ref D) H'->s'.heap.Ns C m->cY X aa H' C->RR (.ref D) C (.ok .next) s') :
  wpAny (model X.prog X.w) X.A newDict (fun acc cU=>wpAny (model X.prog X.w) X.A (newFunctionEnv scope X.env.globals (et X.env scope.names []) [] X.env.qual none .none (some X.env)) (fun ou iq =>
   codeAny (model X.prog X.w) X.A (.compStart (.DictComp kx vx [⟨tg,iter,fu,0⟩] scope pos) 0 (.ref it) acc { ou with scope:=relabel scope X.env }) (RR acc ou.locals) iq) E cU) E s2:=by
 r%wpAny_newObj_type (gz ?_);have I3:Inv X aa σ (aK H2 s2.heap.objs.size (.dK [])) { s2 with heap:=s2.heap.push { cls:=.type "dict",dict:=none,data:=.dict #[] } } :=
  I2.laid (a:=s2.heap.objs.size) (o:=.dK []) (h':=s2.heap.push { cls:=.type "dict",data:=.dict #[] }) (t':=s2.toks) (fun _ _ q=>Heap.get?_push_of_some _ q) (Ze _) (EG s2.heap I2.big)
 o%⟨W,⟨m0,w0⟩,turn⟩:=q s2.heap.objs.size I2.fresh;generalize hD:s2.heap.objs.size=D at I3 w0 turn ⊢;have cN:∀b∈fp,b<D:=fun b bu=>by
  o%⟨o,e,_⟩:=T.obj 0 _ gP b bu;rw[<- hD];e%Heap.lt_size e
 generalize JA:({ s2 with heap:=s2.heap.push { cls:=.type "dict",dict:=none,data:=.dict #[] } }:Shared)=s3 at I3 ⊢;have i9:∀b o,s2.heap.get? b=some o->s3.heap.get? b=some o:=fun b o e=>by rw[<- JA];e%Heap.get?_push_of_some _ e
 have f3:∀b∈fp,cY X aa (aK H2 D (.dK [])) b:=fun b bu=>⟨by rw[dH (Yd (cN b bu))];e%(f2 b bu).1,(f2 b bu).2⟩
 have o3:∀b∈fp,∃o,s3.heap.get? b=some o:=fun b bu=>let ⟨o,e,_⟩:=T.obj 0 _ gP b bu;⟨o,i9 b o e⟩
 have I4:=I3.block B f3 o3;have Bj:tn 0 (pushCells (s3.heap.push { cls:=.type "dict",data:=.dict #[] }) scope.names):=T.keep 0 _ _ gP fun b _ o e=>pushCells_keeps _ _ b o (Heap.get?_push_of_some _ (i9 b o e))
 o%⟨hg,Bv,ZK,ZI⟩:=hb s3.heap.objs.size fp s3 (aK H2 D (.dK []));generalize ip:gl X scope s3.heap.objs.size (own++cap) fp s3 (aK H2 D (.dK []))=X' at I4 hg Bv ZK ZI;have eP:X'.prog=X.prog:=by rw[<- ip];rfl
 have eW:X'.w=X.w:=by rw[<- ip];rfl
 have eK:X'.K=X.K:=by rw[<- ip];rfl
 have eA:X'.A=X.A:=by rw[<- ip];rfl
 have eE:X'.env=iH scope s3.heap.objs.size X.env:=by rw[<- ip];rfl
 have ex:X'.xe=fun _ _=>False:=by rw[<- ip];rfl
 have jT:X'.calm=true:=by rw[<- ip];e%hc
 have ir:∀{H':Hp},(∀b∈fp,H' b=none)->∀b∈fp,cY X' [] H' b:=fun hn b bu=>by
  subst ip;e%⟨hn b bu,(I4.ok.zH b bu).1,I4.ok.on b bu,.inl bu,(I4.ok.zH b bu).2,fun p hp=>absurd (show p∈([]:List (Addr×Obj)) from hp) i%⟩
 have og:∀s4:Shared,s4={ s3 with heap:=pushCells (s3.heap.push { cls:=.type "dict",data:=.dict #[] }) scope.names } ->
   codeAny (model X.prog X.w) X.A (.compLoop (.DictComp kx vx [⟨tg,iter,fu,0⟩] scope pos) 0 (.ref it) (.ref D) (iH scope s3.heap.objs.size X.env)) (RR (.ref D) s3.heap.objs.size) s4:=by
  rintro s4 rfl;r%xH (fun n s'=>∃i aD H',Inv X' [] aD H' s'/\tn i s'.heap/\(∀b∈fp,H' b=none)/\W i n aD H') ?_ m0 ⟨0,_,_,I4,Bj,fun b bu=>(f3 b bu).1,w0⟩;rintro n s5 ⟨i,nN,H5,I5,nP,zG,w5⟩;rcases turn i n nN H5 w5 with ⟨stop,qn⟩ |⟨go,N,hN,step⟩
  .have:=T.done X' eP eW eK jT i [] s5 nN H5 (fun _ _=>False) I5 (ir zG) nP stop;rw[eA] at this;r%bi this fun r s6 ⟨hr,I6⟩=>?_
   subst hr;subst ip;have J6:Inv X aa σ H5 s6:=I3.qL (ch:=fp) I6.os I6.base I6.bp I6.bare fun b bu=>⟨(f3 b bu).2.2.2.1,(f3 b bu).2.1,(f3 b bu).2.2.2.2.1,(f3 b bu).2.2.2.2.2⟩
   o%⟨m,hn,_⟩:=I6.loc;e%JQ D _ H5 s6 m J6 qn hn (I3.jR (Ze _) I6.free)
  .have:=T.item X' eP eW eK jT i [] s5 nN H5 (fun _ _=>False) I5 (ir zG) nP go;rw[eA] at this;r%bi this fun r s6 ⟨u,hr,h6⟩=>?_
   subst hr;r%bi h6 fun _ s7 ⟨x,H7,I7,r7,y7,vU,JS⟩=>?_
   have J0:=I7.pinned (ir JS) (T.obj _ _ vU);have a1:=hg _ s7 nN H7 x u _ J0 r7 (step x H7 y7);rw[eP,eW,eA,eE,ex] at a1;r%bi a1 fun _ s8 ⟨vK,H8,I8,q8⟩=>?_
   have a2:=Bv _ s8 vK H8 _ I8 q8;rw[eP,eW,eA,eE,ex] at a2;r%bi a2 fun b s9 ⟨H9,I9,q9⟩=>?_
   have again:∀{s':Shared}{aD:St}{H':Hp},Inv X' ([]++eu fp s7.heap) aD H' s'->N aD H'->∃m,m<n/\∃i aD H',Inv X' [] aD H' s'/\tn i s'.heap/\(∀b∈fp,H' b=none)/\W i m aD H':=fun {s' aD H'} I' n'=>by
    o%⟨m',hm,w'⟩:=hN aD H' n';r%⟨m',hm,i+1,aD,H',I'.dv,T.keep _ _ _ vU fun b bu o e=>(I'.pin (b,o) (Zq _ (Zq _ (A7 bu e)))).1,fun b bu=>?_,w'⟩;o%⟨o,e,d⟩:=T.obj _ _ vU b bu;e%(I'.pin (b,o) (Zq _ (Zq _ (A7 bu e)))).2.1
   cases b with
   |false=>e%again I9 q9
   |true =>
    rw[if_pos rfl] at q9 ⊢;have a3:=ZK _ s9 vK H9 _ I9 q9;rw[eP,eW,eA,eE,ex] at a3;r%bi a3 fun kv ND ⟨yk,Ph,Pf,N4,N6⟩=>?_
    have a4:=ZI _ ND vK Ph _ Pf N6;rw[eP,eW,eA,eE,ex] at a4;r%bi a4 fun vv NZ ⟨yv,VX,J1,r11,kvs,k,hk,ek,hz,N5⟩=>?_
    subst ek;have a5:=AS (E:=fun _ _=>False) (A:=X.A) (Q:=fun _ s'=>∃m,m<n/\∃i aD H',Inv X' [] aD H' s'/\tn i s'.heap/\(∀b∈fp,H' b=none)/\W i m aD H') J1 hk N4 r11 hz fun s' I'=>again I' N5
    rw[eP,eW] at a5;e%a5
 e%codeAny_compStart_dict (og _ rfl) (T.self X.A 0 _ _ _ Bj (og _ rfl))
t%D5 (B:aA X scope own cap ix)(hc:X.calm=true)(hi:PI X tg iter wi)
  (hb:∀C fp s H,PG (gl X scope C (own++cap) fp s H) tg g/\fH (gl X scope C (own++cap) fp s H) fu tt/\PE (gl X scope C (own++cap) fp s H) kx tk/\PE (gl X scope C (own++cap) fp s H) vx tv)
  (hs:∀x,foldedSetIterable iter X.env x=pure x:=by intro _;rfl):PE X (.DictComp kx vx [⟨tg,iter,fu,0⟩] scope pos) (Ll wi g tt tk tv own.length ix):=by
 intro aa s σ H Q I h;rw[arm_eval_DictComp];have has:∀x∈scope.names,x.2=.free->(X.env.cells.lookup x.1).isSome=true:=fun x hx hk=>by
  o%⟨c,e⟩:=I.ok.has x.1 (B.frees x hx hk);rw[e];rfl
 r%wpAny_comprehension_free (use:=none) rfl hs (Oh has) B.kind B.names ?_;show wpAny _ _ (eval iter X.env) _ _ s;r%bi (hi aa s σ H _ I h) fun v s1 h1=>bi h1 fun Fb s2 h2=>?_
 o%⟨it,fp,tn,J,H2,e,I2,T,gP,f2,q⟩:=h2;subst e;r%xJ (RR:=fun acc C=>compPost (model X.prog X.w) X.A X.xe none (EP X aa σ Q) acc C) B hc hb I2 T gP f2 q ?_;intro D C H' s' m I' q' hn fC;r%⟨m,hn,fun h' v4=>⟨.ref D,H',?_,rfl,q'⟩⟩;e%I'.turned (t':=s'.toks) (it:=C) (fun b o FE e=>(v4.2 b FE).trans e) fC.1 fC.2.1 fC.2.2.2.1 fC.2.2.2.2.1 fC.2.2.2.2.2
end
section
variable {X:Cx}
n%oQ (v a:Addr):HO:=.ext fun h=>h.IsValuesView v a
n%GO:V->List V->Hp->VK->Prop:=fun x xs H Q=>∃a kvs,x=.ref a/\xs=[]/\H a=some (.dK kvs)/\∀v,H v=none->Q (.ref v) (aK H v (oQ v a))
t%AA:Tg X "dict.values" GO:=by
 intro aa s σ H x xs v us Q I r rs h;o%⟨a,kvs,rfl,rfl,ha,q⟩:=h;cases rs;cases r;o%⟨z,hd,vs,m7,dd⟩:=CO I.bp ha;r%call_meetsIn PySem.F.slot_dict_values dd.typeIs PySem.F.entry_dict_values (PySem.F.args_dict_values_1 _) (meets_dict_values (tS X.prog X.w) a hd) ⟨⟨vs,dd⟩,?_⟩;have hv:(s.heap.push { cls:=.type "dict_values",data:=.fields #[.ref a] }).IsValuesView s.heap.objs.size a:=⟨_,Heap.get?_push_size _ rfl,rfl,rfl⟩;r%⟨.ref s.heap.objs.size,_,I.laid (t':=s.toks) (o:=oQ s.heap.objs.size a) (fun _ _ q=>Heap.get?_push_of_some _ q) (Ze _) ⟨hv,⟨_,Heap.get?_push_size _ rfl⟩,fun h1 h2 w1 hk=>?_⟩,rfl,q _ I.fresh⟩;o%⟨o,e,c⟩:=w1;e%⟨o,hk o e,c⟩
t%tw {aa:List (Addr×Obj)}{σ:St}{H:Hp}{s:Shared}{a:Addr}{kvs:List (df×V)}(I:Inv X aa σ H s)(ha:Rd H a (.dK kvs)) :
  kvs.length<=sizeLine/\(a == sysModules)=false/\∃vs ep,KV kvs vs/\s.heap.DictAt (tS X.prog X.w) a vs ep:=by
 o%⟨z,hd,vs,m7,o,es,ep,r⟩:=yu I.bp ha;e%⟨z,hd,vs,ep,m7,o,es,r⟩
t%yV:∀{kvs:List (df×V)}{vs:List (df×Value)}{us:List Value},KV kvs vs->us.length=vs.length->(∀(j:Nat) (v:Value),us[j]?=some v->∃k,vs[j]?=some (k,v))->aQ (kvs.map (·.2)) us
 |_,_,us,.nil,hl,_=>by
  cases us with
  |nil=>e%.nil
  |cons _ _=>simp at hl
 |_,_,us,.cons h hs,hl,hu=>by
  cases us with
  |nil=>simp at hl
  |cons u us =>
   r%.cons ?_ (yV hs (by simpa using hl) fun j v hj=>hu (j+1) v (by simpa using hj));o%⟨k,e⟩:=hu 0 u rfl;simp at e;have:=h.2;rw[e] at this;e%this
t%mx (hc:X.calm=true):cg X (.type "list") (fun xs H Q=>∃v a kvs,xs=[.ref v]/\H v=some (oQ v a)/\Rd H a (.dK kvs)/\∀l,H l=none->Q (.ref l) (aK H l (.lst (kvs.map (·.2))))):=by
 intro aa s σ H xs us Q I r h;o%⟨v,a,kvs,rfl,hv,ha,q⟩:=h;o%⟨u,rfl,rx⟩:=vals1 r;cases rx;o%⟨z,hd,vs,ep,m7,at'⟩:=tw I ha;have Rs:s.heap.IsValuesView v a:=(I.bp v _ hv).1;have hl:=m7.length;r%PySem.W.kdl_call (PySem.W.kdl_values (knd:=tS X.prog X.w) (kvs:=vs) (ep:=ep) (r:=v) (d:=a)) (I.ok.hd hc) ⟨Rs,at'⟩ (by rw[<- hl];e%z) fun h' tk acc c' hk hD bt=>?_
 have hvs:aQ (kvs.map (·.2)) acc.toList:=yV m7 (by rw[Array.length_toList];e%bt.1) fun j x e=>bt.2 j x (by rw[<- Array.getElem?_toList];e%e)
 r%⟨.ref s.heap.objs.size,_,I.laid (t':=tk) (o:=.lst (kvs.map (·.2))) hk (Ze _) ⟨by rw[Zb];e%z,acc.toList,c',hvs,?_⟩,rfl,q _ I.fresh⟩;simpa using hD
t%Inv.freeze {aa:List (Addr×Obj)}{σ:St}{H:Hp}{s:Shared}{a:Addr}{kvs:List (df×V)}{o:Obj}(I:Inv X aa σ H s)(ha:H a=some (.dK kvs))(ho:s.heap.get? a=some o):Inv X aa σ (aK H a (.jU o (.dK kvs))) s:=by
 r%I.write (x:=a) (e:=a) (t':=s.toks) (h':=s.heap) (by rw[ha];e%True.intro) (.inl rfl) (fun _ _ _ e=>e) ⟨o,ho⟩ ⟨ho,?_⟩;o%⟨z,hd,vs,m7,dd⟩:=CO I.bp ha;e%⟨z,hd,vs,m7,dd⟩
t%M9 {k:df}{v:Value}(h:oD k v=true):RelV (kV k) v:=by
 rcases Fa h with ⟨i,t,rfl,rfl⟩ |⟨x,t,rfl,rfl⟩
 .exact⟨t,rfl⟩
 .exact⟨t,rfl⟩
n%Th (a:Addr)(o:Obj)(kvs:List (df×V)):It :=
 ⟨fun i H=>H a=some (.jU o (.dK kvs))/\i<kvs.length,fun i H x H'=>H'=H/\∃k v,kvs[i]?=some (k,v)/\x=kV k,fun i H=>H a=some (.jU o (.dK kvs))/\kvs.length<=i⟩
t%vi {aa:List (Addr×Obj)}{σ:St}{H:Hp}{s:Shared}{a:Addr}{o:Obj}{Vr:Array DictEntry}{ep:Nat}{kvs:List (df×V)}(I:Inv X aa σ H s)(hg:H a=some (.jU o (.dK kvs)))(RX:o.data=.dict Vr ep) :
  ∃vs,KV kvs vs/\vs.length=kvs.length/\s.heap.DictAt (tS X.prog X.w) a vs ep:=by
 o%⟨z,hd,vs,Sc,m7,o',es,vP,r⟩:=tw I (.inr ⟨o,hg⟩);o%⟨ho,_⟩:=I.bp a _ hg;have:o'=o:=by rw[ho] at vP;e%(Option.some.inj vP).symm
 subst this;have h2:=r.2.1;rw[RX] at h2;injection h2 with _ h2
 subst h2;e%⟨vs,m7,m7.length.symm,o',es,vP,r⟩
t%Ag {P:Program}{w:World}{K:PySem.W.Frag}{tg:Expr}(a it:Addr)(o:Obj)(kvs:List (df×V))(Vr:Array DictEntry)(ep:Nat)(RX:o.data=.dict Vr ep):Turn P w K tg (Th a o kvs) [it] it (fun i h=>h.IsKeyIter it a i kvs.length ep) where
 mem:=by simp
 obj:=fun i h st b hb=>by
  obtain rfl:b=it:=by simpa using hb
  o%⟨o',e,c,d⟩:=st;e%⟨o',e,fun v z=>by rw[d] at z;cases z⟩
 keep:=fun i h h' st k=>st.at fun o e=>k it i% o e
 item:=by
  intro X hP hw hK hc i aa s σ H E I hf st hg;subst hP hw hK;o%⟨hg,hi⟩:=hg;o%⟨vs,m7,hl,at'⟩:=vi I hg RX;o%⟨f0,f1,f2,f3,f4,f5⟩:=hf it i%;obtain⟨⟨k,v⟩,RV⟩:∃p,vs[i]?=some p:=⟨vs[i],by simp[show i<vs.length by omega]⟩;r%wpAny_pyNext_dict_item (by rw[hl];e%st) at' RV fun Uk h' KY xS sb=>?_
  have I1:Inv X aa σ H { s with heap:=h' }:=I.turned (t':=s.toks) (fun b o hb e=>(sb.2 b hb).trans e) f0 f1 f3 f4 f5;rw[hl] at xS;o%⟨o1,e1,c1,d1⟩:=id xS;have OA:∃v',kvs[i]?=some (k,v'):=by
   have e2:=m7.keys;have e3:=congrArg (fun l=>l[i]?) e2;simp only[Zg,RV,Option.map_some] at e3;cases e4:kvs[i]? with
   |none=>rw[e4] at e3;cases e3
   |some p =>
    rw[e4] at e3;simp only[Option.map_some,Option.some.injEq] at e3;e%⟨p.2,by rw[<- e3]⟩
  o%⟨v',hv'⟩:=OA;e%⟨Uk,rfl,uE (s:={ s with heap:=h' }) e1 c1 d1 d% ⟨kV k,H,I1,M9 KY,⟨rfl,k,v',hv',rfl⟩,xS,fun b hb=>(hf b hb).1⟩⟩
 done:=by
  intro X hP hw hK hc i aa s σ H E I hf st hg;subst hP hw hK;o%⟨hg,hi⟩:=hg;o%⟨vs,m7,hl,at'⟩:=vi I hg RX;o%⟨f0,f1,f2,f3,f4,f5⟩:=hf it i%;e%wpAny_pyNext_dict_end (I.ok.hd hc) (by rw[hl];e%st) at' (by simp;omega) fun h' eb=>⟨rfl,I.turned (t':=s.toks) (fun b o hb e=>eb b o hb e) f0 f1 f3 f4 f5⟩
 self:=fun _ _ _ _ _ st h=>wpAny_pyIter_keyiter st h
n%Rr (td:TE):TI:=fun σ H R=>td σ H fun x H1=>∃a kvs,x=.ref a/\H1 a=some (.dK kvs)/\∀o,R (Th a o kvs) (aK H1 a (.jU o (.dK kvs)))
t%GY {tg l:Expr}{td:TE}(hl:PE X l td):PI X tg l (Rr td):=by
 intro aa s σ H R I h;r%bi (hl aa s σ H _ I h) fun v s1 ⟨x,H1,I1,r1,q1⟩=>?_
 o%⟨a,kvs,e,ha,q⟩:=q1;subst e;cases r1;o%⟨z,hd,vs,ep,m7,o,es,ho,r⟩:=tw I1 (.inl ha);have at':s1.heap.DictAt (tS X.prog X.w) a vs ep:=⟨o,es,ho,r⟩;r%wpAny_pyIter_dict hd at' ?_;have I2:=I1.freeze ha ho;have lP:=m7.length;r%⟨s1.heap.objs.size,[s1.heap.objs.size],_,Th a o kvs,_,rfl,I2.kept (t':=s1.toks) fun b o e=>Heap.get?_push_of_some _ e,Ag a _ o kvs es ep r.2.1,⟨_,Heap.get?_push_size _ rfl,rfl,by rw[lP];rfl⟩,fun b hb=>?_,q o⟩;obtain rfl:b=s1.heap.objs.size:=by simpa using hb
 e%I2.jR (Ze _) (I2.bp.fresh (Ze _))
end
end L2
namespace PySem
t%uK {prog:Program}{w:World}{A:Around}{E:Value->Shared->Prop}{s:Shared}{T:Addr}{a b x:Value}{k:Nat}{Q:Unit->Shared->Prop}(hT:IsPair s.heap T a b)
  (q:∀g,g.get? T=some { cls:=.type "tuple",data:=.seq ((#[a,b]:Array Value).setIfInBounds k x) }->Heap.SameBut T s.heap g->Q () { s with heap:=g }):wpAny (model prog w) A (updateSeq T (·.setIfInBounds k x)) Q E s :=
 wpAny_updateSeq_pair hT q
section
variable {prog:Program}{w:World}{A:Around}{E:Value->Shared->Prop}{s:Shared}{z TI TO i1 i2 l1 l2:Addr}{k1 k2:Nat}{xs ys:Array Value}{x y a b:Value}
t%Bp {h g:Heap}{it l c:Addr}{i:Nat}(t:h.IsTupleIter it l i)(sb:Heap.ExtBut c h g)(ne:it≠c):g.IsTupleIter it l i:=let ⟨o,e,r⟩:=t;⟨o,sb it o ne e,r⟩
t%kM {h g:Heap}{l c:Addr}{v:Array Value}(t:h.IsTuple l v)(sb:Heap.ExtBut c h g)(ne:l≠c):g.IsTuple l v:=let ⟨o,e,r⟩:=t;⟨o,sb l o ne e,r⟩
t%zZ {Q:Value->Shared->Prop}(D:ZipApart z TI TO i1 i2 l1 l2)(hz:IsZip s.heap z TI TO .none)(pI:IsPair s.heap TI (.ref i1) (.ref i2))(pO:IsPair s.heap TO a b)
  (t1:s.heap.IsTupleIter i1 l1 k1) (t2:s.heap.IsTupleIter i2 l2 k2) (u1:s.heap.IsTuple l1 xs) (u2:s.heap.IsTuple l2 ys) (hx:xs[k1]?=some x) (hy:ys[k2]?=some y)
  (q:∀g,IsZip g z TI TO (rawInt s.heap.objs.size)->IsPair g TO x y->g.IsTupleIter i1 l1 (k1+1)->g.IsTupleIter i2 l2 (k2+1)->IsPair g s.heap.objs.size x y ->
   (∀c o,c≠z->c≠TO->c≠i1->c≠i2->s.heap.get? c=some o->g.get? c=some o)->Q (.ref s.heap.objs.size) { s with heap:=g }) :
  wpAny (model prog w) A (Builtin.«zip.__next__» ⟨[.ref z],[]⟩) (fun kB s'=>∃v,kB=.done (.ret v)/\Q v s') E s:=by
 show wpAny _ _ (field (.ref z) 2 >>= _) _ _ _;r%Za (wpAny_field hz rfl (x:=.bool false) rfl ?_);show wpAny _ _ (field (.ref z) 3 >>= _) _ _ _;r%Za (wpAny_field hz rfl (x:=.ref TI) rfl (Za (wpAny_seqItems pI rfl ?_)));show wpAny _ _ (Builtin.SmallTypes.ownedTupleIsFree (.ref z) >>= _) _ _ _;r%Za ?_;unfold Builtin.SmallTypes.ownedTupleIsFree;r%Za (wpAny_field hz rfl (x:=.none) rfl (wpAny_pure ?_));simp only[if_true];r%Za (wpAny_rule (Za (wpAny_field hz rfl (x:=.ref TO) rfl ?_)));r%Za (wpAny_setField_rec hz i% fun g1 z1 b1=>?_);replace z1:IsZip g1 z TI TO .ellipsis:=z1;r%Za ?_;simp only[List.zipIdx_cons,List.zipIdx_nil,List.forIn_cons,List.forIn_nil];r%Za (Za (wpAny_onRaise ?_));show wpAny _ _ (Builtin.SmallTypes.nextOf (.ref i1) >>= _) _ _ _;r%Za (Uq (Bp t1 b1.extBut D.i1z) (kM u1 b1.extBut D.l1z) hx fun g2 n1 b2=>wpAny_pure ?_);have o2:IsPair g2 TO a b:=b2.extBut _ _ D.TOi1 (b1.extBut _ _ D.TOz pO);r%Za (wpAny_seqItems o2 rfl (Za (uK o2 fun g3 o3 b3=>Za (wpAny_letGo (wpAny_pure ?_)))))
 replace o3:IsPair g3 TO x b:=o3
 r%Za (Za (wpAny_onRaise ?_));show wpAny _ _ (Builtin.SmallTypes.nextOf (.ref i2) >>= _) _ _ _;r%Za (Uq (Bp (Bp (Bp t2 b1.extBut D.i2z) b2.extBut D.i12.symm) b3.extBut D.TOi2.symm) (kM (kM (kM u2 b1.extBut D.l2z) b2.extBut D.l2i1) b3.extBut D.l2TO) hy fun g4 n2 b4=>wpAny_pure ?_);have o4:IsPair g4 TO x b:=b4.extBut _ _ D.TOi2 o3;r%Za (wpAny_seqItems o4 rfl (Za (uK o4 fun g5 o5 b5=>Za (wpAny_letGo (wpAny_pure (wpAny_pure ?_))))))
 replace o5:IsPair g5 TO x y:=o5
 r%Za (wpAny_seqItems o5 rfl (Za (wpAny_newTuple ?_)));have sz:g5.objs.size=s.heap.objs.size:=by rw[b5.1,b4.1,b3.1,b2.1,b1.1]
 have z5:IsZip g5 z TI TO .ellipsis:=b5.extBut _ _ D.TOz.symm (b4.extBut _ _ D.i2z.symm (b3.extBut _ _ D.TOz.symm (b2.extBut _ _ D.i1z.symm z1)));have k5:∀c o,c≠z->c≠TO->c≠i1->c≠i2->s.heap.get? c=some o->g5.get? c=some o:=fun c o e1 e2 e3 e4 e=>b5.extBut _ _ e2 (b4.extBut _ _ e4 (b3.extBut _ _ e2 (b2.extBut _ _ e3 (b1.extBut _ _ e1 e))))
 have m1:g5.IsTupleIter i1 l1 (k1+1):=Bp (Bp (Bp n1 b3.extBut D.TOi1.symm) b4.extBut D.i12) b5.extBut D.TOi1.symm;have m2:g5.IsTupleIter i2 l2 (k2+1):=Bp n2 b5.extBut D.TOi2.symm;have Xo:z<g5.objs.size:=Heap.lt_size z5;show wpAny _ _ (Builtin.SmallTypes.ownedTupleHandOut (.ref z) (.ref g5.objs.size) >>= _) _ _ _;r%Za ?_;unfold Builtin.SmallTypes.ownedTupleHandOut;have z6:IsZip (g5.push { cls:=.type "tuple",data:=.seq #[x,y] }) z TI TO .ellipsis:=Heap.get?_push_of_some _ z5;r%Za (wpAny_setField_rec z6 i% fun g7 z7 b7=>?_);replace z7:IsZip g7 z TI TO (rawInt g5.objs.size):=z7;r%wpAny_setField_rec z7 i% fun g8 z8 b8=>?_;replace z8:IsZip g8 z TI TO (rawInt g5.objs.size):=z8
 have up:∀c o,c≠z->g5.get? c=some o->g8.get? c=some o:=fun c o e1 e=>b8.extBut _ _ e1 (b7.extBut _ _ e1 (Heap.get?_push_of_some _ e))
 have p8:IsPair g8 g5.objs.size x y:=b8.extBut _ _ (Nat.ne_of_gt Xo) (b7.extBut _ _ (Nat.ne_of_gt Xo) (Heap.get?_push_size _ rfl));rw[sz] at z8 p8;r%wpAny_pure ⟨_,rfl,?_⟩;show Q (.ref g5.objs.size) _;rw[sz];e%q g8 z8 (up _ _ D.TOz o5) (let ⟨o,e,r⟩:=m1;⟨o,up _ o D.i1z e,r⟩) (let ⟨o,e,r⟩:=m2;⟨o,up _ o D.i2z e,r⟩) p8 fun c o e1 e2 e3 e4 e=>up c o e1 (k5 c o e1 e2 e3 e4 e)
t%zY {Q:Fin->Shared->Prop}(hh:A.handled=none)(D:ZipApart z TI TO i1 i2 l1 l2)(hz:IsZip s.heap z TI TO .none)(pI:IsPair s.heap TI (.ref i1) (.ref i2))(pO:IsPair s.heap TO a b)
  (t1:s.heap.IsTupleIter i1 l1 k1) (t2:s.heap.IsTupleIter i2 l2 k2) (u1:s.heap.IsTuple l1 xs) (u2:s.heap.IsTuple l2 ys) (hx:xs[k1]?=none)
  (q:∀g e,(∀c o,c≠z->c≠TO->c≠i1->c≠i2->s.heap.get? c=some o->g.get? c=some o)->(∃o,g.get? e=some o/\o.cls=.type "StopIteration")->E (.ref e) { s with heap:=g }) :
  wpAny (model prog w) A (Builtin.«zip.__next__» ⟨[.ref z],[]⟩) Q E s:=by
 show wpAny _ _ (field (.ref z) 2 >>= _) _ _ _;r%Za (wpAny_field hz rfl (x:=.bool false) rfl ?_);show wpAny _ _ (field (.ref z) 3 >>= _) _ _ _;r%Za (wpAny_field hz rfl (x:=.ref TI) rfl (Za (wpAny_seqItems pI rfl ?_)));show wpAny _ _ (Builtin.SmallTypes.ownedTupleIsFree (.ref z) >>= _) _ _ _;r%Za ?_;unfold Builtin.SmallTypes.ownedTupleIsFree;r%Za (wpAny_field hz rfl (x:=.none) rfl (wpAny_pure ?_));simp only[if_true];r%Za (wpAny_rule (Za (wpAny_field hz rfl (x:=.ref TO) rfl ?_)));r%Za (wpAny_setField_rec hz i% fun g1 z1 b1=>?_);replace z1:IsZip g1 z TI TO .ellipsis:=z1;r%Za ?_;simp only[List.zipIdx_cons,List.zipIdx_nil,List.forIn_cons,List.forIn_nil];r%Za (Za (wpAny_onRaise ?_));show wpAny _ _ (Builtin.SmallTypes.nextOf (.ref i1) >>= _) _ _ _;r%Za (Up hh (Bp t1 b1.extBut D.i1z) (kM u1 b1.extBut D.l1z) hx fun g2 e b2 ⟨oe,he,ce⟩=>?_);have z2:IsZip g2 z TI TO .ellipsis:=b2 _ _ D.i1z.symm z1;have ez:e≠z:=fun h=>by subst h;rw[z2] at he;cases he;simp at ce
 e%wpAny_setField_rec z2 i% fun g3 _ b3=>q g3 e (fun c o e1 _ e3 _ h=>b3.extBut _ _ e1 (b2 _ _ e3 (b1.extBut _ _ e1 h))) ⟨oe,b3.extBut _ _ ez he,ce⟩
t%vt {Q:Option Value->Shared->Prop}(D:ZipApart z TI TO i1 i2 l1 l2)(hz:IsZip s.heap z TI TO .none)(pI:IsPair s.heap TI (.ref i1) (.ref i2))(pO:IsPair s.heap TO a b)
  (t1:s.heap.IsTupleIter i1 l1 k1) (t2:s.heap.IsTupleIter i2 l2 k2) (u1:s.heap.IsTuple l1 xs) (u2:s.heap.IsTuple l2 ys) (hx:xs[k1]?=some x) (hy:ys[k2]?=some y)
  (q:∀g,IsZip g z TI TO (rawInt s.heap.objs.size)->IsPair g TO x y->g.IsTupleIter i1 l1 (k1+1)->g.IsTupleIter i2 l2 (k2+1)->IsPair g s.heap.objs.size x y ->
   (∀c o,c≠z->c≠TO->c≠i1->c≠i2->s.heap.get? c=some o->g.get? c=some o)->Q (some (.ref s.heap.objs.size)) { s with heap:=g }):wpAny (model prog w) A (pyNext (.ref z)) Q E s:=by
 have ty:s.TypeIs (.ref z) "zip":=⟨_,hz,rfl⟩;unfold pyNext;e%Za (wpAny_attempt (wpAny_callSpecial?_slot (name:=Str.ofString "__next__") ty F.slot_zip_next (wpAny_call_entry F.slot_zip_next ty F.entry_zip_next
  (zZ D hz pI pO t1 t2 u1 u2 hx hy fun g a1 a2 a3 a4 a5 a6=>wpAny_pure (q g a1 a2 a3 a4 a5 a6)) (F.args_zip_next_1 _))))
t%mZ {Q:Option Value->Shared->Prop}(hh:A.handled=none)(D:ZipApart z TI TO i1 i2 l1 l2)(hz:IsZip s.heap z TI TO .none)(pI:IsPair s.heap TI (.ref i1) (.ref i2))(pO:IsPair s.heap TO a b)
  (t1:s.heap.IsTupleIter i1 l1 k1) (t2:s.heap.IsTupleIter i2 l2 k2) (u1:s.heap.IsTuple l1 xs) (u2:s.heap.IsTuple l2 ys) (hx:xs[k1]?=none)
  (q:∀g,(∀c o,c≠z->c≠TO->c≠i1->c≠i2->s.heap.get? c=some o->g.get? c=some o)->Q none { s with heap:=g }):wpAny (model prog w) A (pyNext (.ref z)) Q E s:=by
 have ty:s.TypeIs (.ref z) "zip":=⟨_,hz,rfl⟩;unfold pyNext;e%Za (wpAny_attempt (wpAny_callSpecial?_slot (name:=Str.ofString "__next__") ty F.slot_zip_next (wpAny_call_entry F.slot_zip_next ty F.entry_zip_next
  (zY hh D hz pI pO t1 t2 u1 u2 hx fun g e hk ⟨o,ho,hc⟩=>Za (wpAny_isInstance (T:="StopIteration") (b:=true) ⟨o,ho,hc⟩ isSubtype_stop (wpAny_pure (q _ hk)))) (F.args_zip_next_1 _))))
end
m%NU (h:Heap)(l1:Addr):Heap:=h.push { cls:=.type "tuple_iterator",data:=.fields #[.ref l1,.int 0 0] }
m%RE (h:Heap)(l1 l2:Addr):Heap:=(NU h l1).push { cls:=.type "tuple_iterator",data:=.fields #[.ref l2,.int 0 0] }
m%RD (h:Heap)(l1 l2:Addr):Heap:=(RE h l1 l2).push { cls:=.type "tuple",data:=.seq #[.ref h.objs.size,.ref (NU h l1).objs.size] }
m%RC (h:Heap)(l1 l2:Addr):Heap:=(RD h l1 l2).push { cls:=.type "tuple",data:=.seq #[.none,.none] }
m%Nw (h:Heap)(l1 l2:Addr):Heap:=(RC h l1 l2).push { cls:=.type "zip",data:=.fields #[.none,.bool false,.bool false,.ref (RE h l1 l2).objs.size,.ref (RD h l1 l2).objs.size] }
t%xw (l1 l2:Addr)(xs ys:Array Value):Meets (Builtin.«zip.__new__» ⟨[.type "zip",.ref l1,.ref l2],[]⟩) (fun _ R s=>s.heap.IsTuple l1 xs/\s.heap.IsTuple l2 ys/\R (.ok (.ret (.ref (RC s.heap l1 l2).objs.size))) { s with heap:=Nw s.heap l1 l2 }) :=
 .of_wp fun prog w A R s h=>by
  o%⟨hp,g,d,tk,os⟩:=s;o%⟨v1,v2,h⟩:=h;have BR:=sub_zip;have w1:Heap.IsTuple (Shared.heap ⟨hp,g,d,tk,os⟩) l1 xs:=v1;have w2:Heap.IsTuple (Shared.heap ⟨NU hp l1,g,d,tk,os⟩) l2 ys:=let ⟨o,e,r⟩:=v2;⟨o,Heap.get?_push_of_some _ e,r⟩
  wp_walk using wpAny_pyIter_tuple w1,wpAny_pyIter_tuple w2
  e%⟨_,rfl,h⟩
t%AX {prog:Program}{w:World}{A:Around}{E:Value->Shared->Prop}{s:Shared}{l1 l2:Addr}{xs ys:Array Value}{Q:Value->Shared->Prop}(v1:s.heap.IsTuple l1 xs)(v2:s.heap.IsTuple l2 ys)
  (q:∀g,IsZip g (s.heap.objs.size+4) (s.heap.objs.size+2) (s.heap.objs.size+3) .none->IsPair g (s.heap.objs.size+2) (.ref s.heap.objs.size) (.ref (s.heap.objs.size+1))->IsPair g (s.heap.objs.size+3) .none .none ->
   g.IsTupleIter s.heap.objs.size l1 0->g.IsTupleIter (s.heap.objs.size+1) l2 0->(∀c o,s.heap.get? c=some o->g.get? c=some o)->Q (.ref (s.heap.objs.size+4)) { s with heap:=g }):wpAny (model prog w) A (call (.type "zip") [.ref l1,.ref l2]) Q E s:=by
 r%callType_new F.called_zip d% (F.typeCall_zip_2 _ _) (F.newCall_zip_2 _ _) (fun obj=>F.args_object_init_3 obj _ _) F.entry_zip_new (xw l1 l2 xs ys) ⟨v1,v2,?_⟩;have e1:(NU s.heap l1).objs.size=s.heap.objs.size+1:=Heap.size_push ..;have e2:(RE s.heap l1 l2).objs.size=s.heap.objs.size+2:=by rw[Heap.size_push,e1]
 have e3:(RD s.heap l1 l2).objs.size=s.heap.objs.size+3:=by rw[Heap.size_push,e2]
 have e4:(RC s.heap l1 l2).objs.size=s.heap.objs.size+4:=by rw[Heap.size_push,e3]
 have p5:(Nw s.heap l1 l2).get? (RC s.heap l1 l2).objs.size=some _:=Heap.get?_push_size _ rfl;have p4:(Nw s.heap l1 l2).get? (RD s.heap l1 l2).objs.size=some _:=Heap.get?_push_of_some _ (Heap.get?_push_size _ rfl);have p3:(Nw s.heap l1 l2).get? (RE s.heap l1 l2).objs.size=some _:=Heap.get?_push_of_some _ (Heap.get?_push_of_some _ (Heap.get?_push_size _ rfl));have p2:(Nw s.heap l1 l2).get? (NU s.heap l1).objs.size=some _:=Heap.get?_push_of_some _ (Heap.get?_push_of_some _ (Heap.get?_push_of_some _ (Heap.get?_push_size _ rfl)));have p1:(Nw s.heap l1 l2).get? s.heap.objs.size=some _:=Heap.get?_push_of_some _ (Heap.get?_push_of_some _ (Heap.get?_push_of_some _ (Heap.get?_push_of_some _ (Heap.get?_push_size _ rfl))));show _/\_;rw[e2,e3,e4] at p5;rw[e1,e2] at p3;rw[e3] at p4;rw[e1] at p2;rw[e4];e%⟨⟨_,p5,rfl⟩,q _ p5 p3 p4 ⟨_,p1,rfl,rfl⟩ ⟨_,p2,rfl,rfl⟩ fun c o h=>Heap.get?_push_of_some _ (Heap.get?_push_of_some _ (Heap.get?_push_of_some _ (Heap.get?_push_of_some _ (Heap.get?_push_of_some _ h))))⟩
end PySem
namespace L2
open PySem PySem.Spec PyProof.Rows
section
variable {X:Cx}
n%Im (K:PySem.W.Frag)(a b:Addr):It :=
 ⟨fun i H=>∃xs ys x y,aH K H a xs/\aH K H b ys/\xs[i]?=some x/\ys[i]?=some y,
  fun i H v H'=>∃p,H p=none/\v=.ref p/\∀xs ys,aH K H a xs->aH K H b ys->∃x y,xs[i]?=some x/\ys[i]?=some y/\H'=aK H p (.tup [x,y]),
  fun i H=>∃xs ys,aH K H a xs/\aH K H b ys/\xs.length<=i⟩
t%DK {P:Program}{w:World}{K:PySem.W.Frag}{oo:List Expr}{kk}{pos:Pos}(a b z TI TO i1 i2:Addr)(D:ZipApart z TI TO i1 i2 a b) :
  Turn P w K (.Tuple oo kk pos) (Im K a b) [z,TI,TO,i1,i2] z (fun i h=>IsZip h z TI TO .none/\IsPair h TI (.ref i1) (.ref i2)/\(∃u v,IsPair h TO u v)/\h.IsTupleIter i1 a i/\h.IsTupleIter i2 b i) where
 mem:=by simp
 obj:=fun i h st c hc=>by
  o%⟨hz,pI,⟨u,v,pO⟩,⟨o1,e1,c1,d1⟩,o2,e2,c2,d2⟩:=st;simp only[Zf,List.not_mem_nil,or_false] at hc;rcases hc with rfl |rfl |rfl |rfl |rfl
  .exact⟨_,hz,fun v z=>by cases z⟩
  .exact⟨_,pI,fun v z=>by cases z⟩
  .exact⟨_,pO,fun v z=>by cases z⟩
  .exact⟨o1,e1,fun v z=>by rw[d1] at z;cases z⟩
  .exact⟨o2,e2,fun v z=>by rw[d2] at z;cases z⟩
 keep:=fun i h h' st k=>by
  o%⟨hz,pI,⟨u,v,pO⟩,⟨o1,e1,r1⟩,o2,e2,r2⟩:=st;e%⟨k z i% _ hz,k TI i% _ pI,⟨u,v,k TO i% _ pO⟩,⟨o1,k i1 i% _ e1,r1⟩,o2,k i2 i% _ e2,r2⟩
 item:=by
  intro X hP hw hK hc i aa s σ H E I hf st hg;subst hP hw hK;o%⟨xs,ys,x,y,ue,NK,hx,hy⟩:=hg;o%⟨us,ru,pu,zu⟩:=I.tuple ue;o%⟨vs,rv,pv,zv⟩:=I.tuple NK;o%⟨u,hu,rxu⟩:=ru.get hx;o%⟨v,hv,ryv⟩:=rv.get hy;o%⟨hz,pI,⟨u0,v0,pO⟩,t1,t2⟩:=st;r%vt D hz pI pO t1 t2 (show s.heap.IsTuple a us.toArray from pu) (show s.heap.IsTuple b vs.toArray from pv) (x:=u) (y:=v) (by simpa using hu) (by simpa using hv) fun g z1 o1 n1 n2 p1 hk=>?_
  r%⟨_,rfl,?_⟩;r%wpAny_letOwnedTupleGo_zip z1 fun g2 z2 b2=>?_
  replace b2:Heap.SameBut z g g2:=b2
  have lt:∀{c o},s.heap.get? c=some o->s.heap.objs.size≠c:=fun e=>Nat.ne_of_gt (Heap.lt_size e)
  have dh:s.heap.objs.size≠z:=lt hz;have I1:Inv X aa σ H { s with heap:=g2,toks:=s.toks }:=I.nq (ch:=[z,TI,TO,i1,i2]) (fun c o hc q=>by
   have c1:c≠z:=fun h=>hc (by simp[h])
   e%b2.extBut c o c1 (hk c o c1 (fun h=>hc (by simp[h])) (fun h=>hc (by simp[h])) (fun h=>hc (by simp[h])) q)) hf
  have p2:=b2.extBut _ _ dh p1;have fp:cY X aa H s.heap.objs.size:=I.jR (Ze _) I.fresh;have I2:=I1.Is (p:=s.heap.objs.size) (o:=.tup [x,y]) fp ⟨by show 2<=sizeLine;decide,[u,v],.cons rxu (.cons ryv .nil),⟨_,p2,rfl,_,rfl⟩⟩;r%⟨.ref s.heap.objs.size,_,I2,rfl,⟨_,I.fresh,rfl,fun Tq Xp h1 h2=>?_⟩,⟨z2,b2.extBut _ _ D.TIz (hk _ _ D.TIz D.TITO D.TIi1 D.TIi2 pI),⟨_,_,b2.extBut _ _ D.TOz o1⟩,Bp n1 b2.extBut D.i1z,Bp n2 b2.extBut D.i2z⟩,fun c hc=>?_⟩
  .rw[I.jF h1 ue,I.jF h2 NK];e%⟨x,y,hx,hy,rfl⟩
  .rw[dH]
   .exact(hf c hc).1
   .simp only[Zf,List.not_mem_nil,or_false] at hc;rcases hc with rfl |rfl |rfl |rfl |rfl
    .exact dh.symm
    .exact(lt pI).symm
    .exact(lt pO).symm
    .obtain⟨_,e,_⟩:=t1;e%(lt e).symm
    .obtain⟨_,e,_⟩:=t2;e%(lt e).symm
 done:=by
  intro X hP hw hK hc i aa s σ H E I hf st hg;subst hP hw hK;o%⟨xs,ys,ue,NK,hx⟩:=hg;o%⟨us,ru,pu,zu⟩:=I.tuple ue;o%⟨vs,rv,pv,zv⟩:=I.tuple NK;o%⟨hz,pI,⟨u0,v0,pO⟩,t1,t2⟩:=st;have hl:=ru.length;e%mZ (I.ok.hd hc) D hz pI pO t1 t2 (show s.heap.IsTuple a us.toArray from pu) (show s.heap.IsTuple b vs.toArray from pv) (by simp;omega) fun g hk =>
   ⟨rfl,I.nq (t':=s.toks) (ch:=[z,TI,TO,i1,i2]) (fun c o hc q=>hk c o (fun h=>hc (by simp[h])) (fun h=>hc (by simp[h])) (fun h=>hc (by simp[h])) (fun h=>hc (by simp[h])) q) hf⟩
 self:=fun A i s Q E st h=>wpAny_pyIter_zip st.1 h
n%WL (K:PySem.W.Frag)(ta:TA):TI:=fun σ H R=>ta σ H fun vs H1=>∃a b,vs=[.ref a,.ref b]/\(∃xs,aH K H1 a xs)/\(∃ys,aH K H1 b ys)/\R (Im K a b) H1
end
end L2
namespace L2
open PySem PySem.Spec PyProof.Rows KG
m%g2 (K:PySem.W.Frag):TG:=BS K 2 (oI (cF 0) (oI (cF 1) Gi))
n%S2 (ao σ:St):Prop:=∀u v,(σ.set 0 u).set 1 v=(ao.set 0 u).set 1 v
t%S2.of {ao:St}{u v:Option V}:S2 ao ((ao.set 0 u).set 1 v):=fun u' v'=>by
 match ao with
 |[]=>rfl
 |[_]=>rfl
 |_::_::_=>rfl
n%x4 (ao:St)(acc:Addr)(P:List V->Hp->Prop)(σ:St)(H:Hp):Prop:=S2 ao σ/\∃ys,H acc=some (.lst ys)/\P ys H
t%x4.of {ao:St}{acc:Addr}{P:List V->Hp->Prop}{u v:Option V}{H:Hp}{ys:List V}(h:H acc=some (.lst ys))(p:P ys H):x4 ao acc P ((ao.set 0 u).set 1 v) H:=⟨S2.of,ys,h,p⟩
n%Io (ao:St)(acc:Addr)(P:List (df×V)->Hp->Prop)(σ:St)(H:Hp):Prop:=S2 ao σ/\∃ys,H acc=some (.dK ys)/\P ys H
t%Io.of {ao:St}{acc:Addr}{P:List (df×V)->Hp->Prop}{u v:Option V}{H:Hp}{ys:List (df×V)}(h:H acc=some (.dK ys))(p:P ys H):Io ao acc P ((ao.set 0 u).set 1 v) H:=⟨S2.of,ys,h,p⟩
t%sO {K:PySem.W.Frag}{ao σ:St}{H:Hp}{p:Addr}{x y:V}{Z:St->Hp->Prop}(ud:S2 ao σ)(hp:H p=none)(h:∀H1,ak H H1->Z ((ao.set 0 (some x)).set 1 (some y)) H1):g2 K (.ref p) σ (aK H p (.tup [x,y])) Z:=by
 r%⟨p,_,rfl,aH.of cQ,rfl,_,_,rfl,_,_,rfl,rfl,?_⟩;show Z ((σ.set 0 (some x)).set 1 (some y)) _;rw[ud];e%h _ ((ak.refl H).new hp)
section
variable {K:PySem.W.Frag}{tt:TT}{te tk tv:TE}{acc a b:Addr}{xs ys:List V}{ao:St}{aE:Hp}{Q:VK}{o:Obj}{kvs:List (df×V)}
t%AU (Pv:Nat->List V->Hp->Prop)(h0:Pv 0 [] (aK aE acc (.lst [])))(hl:∀(i:Nat) zs H,i<=xs.length->H acc=some (.lst zs)->Pv i zs H->aH K H a xs)
  (hs:∀(i:Nat) x zs H H1,xs[i]?=some x->H acc=some (.lst zs)->Pv i zs H->ak H H1->tt ((ao.set 0 (some (.int i))).set 1 (some x)) H1 fun b H4 =>
   if b=true then te ((ao.set 0 (some (.int i))).set 1 (some x)) H4 fun y H5=>∃us,H5 acc=some (.lst us)/\us.length<sizeLine/\x4 ao acc (Pv (i+1)) ((ao.set 0 (some (.int i))).set 1 (some x)) (aK H5 acc (.lst (us++[y])))
   else x4 ao acc (Pv (i+1)) ((ao.set 0 (some (.int i))).set 1 (some x)) H4)
  (hd:∀zs H,H acc=some (.lst zs)->Pv xs.length zs H->Q (.ref acc) H):cw (g2 K) tt te (Fl K a) acc ao aE Q:=by
 r%⟨fun i m σ H=>m=xs.length-i/\i<=xs.length/\x4 ao acc (Pv i) σ H,⟨xs.length,by simp,Nat.zero_le _,fun _ _=>rfl,[],cQ,h0⟩,?_⟩;rintro i m σ H ⟨rfl,hi,ud,zs,hy,p⟩;have q:=hl i zs H hi hy p;by_cases cN:i<xs.length
 .refine .inr ⟨⟨xs,xs[i],q,by simp[cN]⟩,x4 ao acc (Pv (i+1)),fun aD H' c=>⟨xs.length-(i+1),by omega,rfl,cN,c⟩,fun x H' y=>?_⟩;o%⟨pp,hp,rfl,Fc⟩:=y;o%⟨z,hz,rfl⟩:=Fc xs q;e%sO ud hp fun H1 s1=>hs i z zs H H1 hz hy p s1
 .have e:i=xs.length:=by omega
  subst e;e%.inl ⟨⟨xs,q,Ze _⟩,hd zs H hy p⟩
t%EI (Pv:Nat->List V->Hp->Prop)(bN:xs.length=ys.length)(h0:Pv 0 [] (aK aE acc (.lst [])))(hl:∀(i:Nat) zs H,i<=xs.length->H acc=some (.lst zs)->Pv i zs H->aH K H a xs/\aH K H b ys)
  (hs:∀(i:Nat) x y zs H H1,xs[i]?=some x->ys[i]?=some y->H acc=some (.lst zs)->Pv i zs H->ak H H1->tt ((ao.set 0 (some x)).set 1 (some y)) H1 fun b H4 =>
   if b=true then te ((ao.set 0 (some x)).set 1 (some y)) H4 fun v H5=>∃us,H5 acc=some (.lst us)/\us.length<sizeLine/\x4 ao acc (Pv (i+1)) ((ao.set 0 (some x)).set 1 (some y)) (aK H5 acc (.lst (us++[v])))
   else x4 ao acc (Pv (i+1)) ((ao.set 0 (some x)).set 1 (some y)) H4)
  (hd:∀zs H,H acc=some (.lst zs)->Pv xs.length zs H->Q (.ref acc) H):cw (g2 K) tt te (Im K a b) acc ao aE Q:=by
 r%⟨fun i m σ H=>m=xs.length-i/\i<=xs.length/\x4 ao acc (Pv i) σ H,⟨xs.length,by simp,Nat.zero_le _,fun _ _=>rfl,[],cQ,h0⟩,?_⟩;rintro i m σ H ⟨rfl,hi,ud,zs,hy,p⟩;o%⟨q1,q2⟩:=hl i zs H hi hy p;by_cases cN:i<xs.length
 .refine .inr ⟨⟨xs,ys,xs[i],ys[i]'g%,q1,q2,by simp[cN],by simp⟩,x4 ao acc (Pv (i+1)),fun aD H' c=>⟨xs.length-(i+1),by omega,rfl,cN,c⟩,fun v H' y=>?_⟩;o%⟨pp,hp,rfl,Fc⟩:=y;o%⟨x1,y1,hx1,Jy,rfl⟩:=Fc xs ys q1 q2;e%sO ud hp fun H1 s1=>hs i x1 y1 zs H H1 hx1 Jy hy p s1
 .have e:i=xs.length:=by omega
  subst e;e%.inl ⟨⟨xs,ys,q1,q2,Ze _⟩,hd zs H hy p⟩
t%AW (Pv:Nat->List V->Hp->Prop)(h0:Pv 0 [] (aK aE acc (.lst [])))(hl:∀(i:Nat) zs H,i<=kvs.length->H acc=some (.lst zs)->Pv i zs H->H a=some (.jU o (.dK kvs)))
  (hs:∀(i:Nat) k v zs H,kvs[i]?=some (k,v)->H acc=some (.lst zs)->Pv i zs H->tt (ao.set 0 (some (kV k))) H fun b H4 =>
   if b=true then te (ao.set 0 (some (kV k))) H4 fun y H5=>∃us,H5 acc=some (.lst us)/\us.length<sizeLine/\Cn ao acc (Pv (i+1)) (ao.set 0 (some (kV k))) (aK H5 acc (.lst (us++[y]))) else Cn ao acc (Pv (i+1)) (ao.set 0 (some (kV k))) H4)
  (hd:∀zs H,H acc=some (.lst zs)->Pv kvs.length zs H->Q (.ref acc) H):cw (cF 0) tt te (Th a o kvs) acc ao aE Q:=by
 r%⟨fun i m σ H=>m=kvs.length-i/\i<=kvs.length/\Cn ao acc (Pv i) σ H,⟨kvs.length,by simp,Nat.zero_le _,fun _=>rfl,[],cQ,h0⟩,?_⟩;rintro i m σ H ⟨rfl,hi,ud,zs,hy,p⟩;have q:=hl i zs H hi hy p;by_cases cN:i<kvs.length
 .refine .inr ⟨⟨q,cN⟩,Cn ao acc (Pv (i+1)),fun aD H' c=>⟨kvs.length-(i+1),by omega,rfl,cN,c⟩,fun x H' y=>?_⟩;o%⟨e,k,v,hk,ek⟩:=y;subst e ek;show tt (σ.set 0 _) _ _;rw[ud];e%hs i k v zs _ hk hy p
 .have e:i=kvs.length:=by omega
  subst e;e%.inl ⟨⟨q,Ze _⟩,hd zs H hy p⟩
t%xI (Pv:Nat->List (df×V)->Hp->Prop)(h0:Pv 0 [] (aK aE acc (.dK [])))(hl:∀(i:Nat) zs H,i<=xs.length->H acc=some (.dK zs)->Pv i zs H->aH K H a xs)
  (hs:∀(i:Nat) x zs H H1,xs[i]?=some x->H acc=some (.dK zs)->Pv i zs H->ak H H1->tt ((ao.set 0 (some (.int i))).set 1 (some x)) H1 fun b H4 =>
   if b=true then tk ((ao.set 0 (some (.int i))).set 1 (some x)) H4 fun kx H5=>tv ((ao.set 0 (some (.int i))).set 1 (some x)) H5 fun y H6=>∃us k,H6 acc=some (.dK us)/\kx=kV k/\us.length<sizeLine/\Io ao acc (Pv (i+1)) ((ao.set 0 (some (.int i))).set 1 (some x)) (aK H6 acc (.dK (mT us k y)))
   else Io ao acc (Pv (i+1)) ((ao.set 0 (some (.int i))).set 1 (some x)) H4)
  (hd:∀zs H,H acc=some (.dK zs)->Pv xs.length zs H->Q (.ref acc) H):sD (g2 K) tt tk tv (Fl K a) acc ao aE Q:=by
 r%⟨fun i m σ H=>m=xs.length-i/\i<=xs.length/\Io ao acc (Pv i) σ H,⟨xs.length,by simp,Nat.zero_le _,fun _ _=>rfl,[],cQ,h0⟩,?_⟩;rintro i m σ H ⟨rfl,hi,ud,zs,hy,p⟩;have q:=hl i zs H hi hy p;by_cases cN:i<xs.length
 .refine .inr ⟨⟨xs,xs[i],q,by simp[cN]⟩,Io ao acc (Pv (i+1)),fun aD H' c=>⟨xs.length-(i+1),by omega,rfl,cN,c⟩,fun x H' y=>?_⟩;o%⟨pp,hp,rfl,Fc⟩:=y;o%⟨z,hz,rfl⟩:=Fc xs q;e%sO ud hp fun H1 s1=>hs i z zs H H1 hz hy p s1
 .have e:i=xs.length:=by omega
  subst e;e%.inl ⟨⟨xs,q,Ze _⟩,hd zs H hy p⟩
end
section
variable {X:Cx}
end
end L2
namespace L2
open PySem PySem.Spec PyProof.Rows
n%K0:PySem.W.Frag:=[]
section
variable {K:PySem.W.Frag}{H:Hp}{a:Addr}{xs:List V}
t%bz.k0 (h:bz K0 H a xs):bz K H a xs:=by
 rcases h with h |⟨o,its,n,hk,_⟩
 .exact .inl h
 .exact absurd hk (by show ¬ (none=some o);simp)
t%aH.k0 (h:aH K0 H a xs):aH K H a xs:=by
 rcases h with h |⟨o,its,n,hk,_⟩
 .exact .inl h
 .exact absurd hk (by show ¬ (none=some o);simp)
t%Sq.k0 (h:bz K0 H a xs\/aH K0 H a xs):bz K H a xs\/aH K H a xs:=h.elim (fun z=>.inl z.k0) fun z=>.inr z.k0
mutual
theorem nj.k0:∀{v:V}{d:PyData},nj K0 H v d->nj K H v d
 |_,_,.bO=>.bO
 |_,_,.bl b=>.bl b
 |_,_,.int i=>.int i
 |_,_,.str x ok=>.str x ok
 |_,_,.lst h t=>.lst h.k0 (fJ.k0 t)
 |_,_,.tup h t=>.tup h.k0 (fJ.k0 t)
theorem fJ.k0:∀{vs:List V}{ds:List PyData},fJ K0 H vs ds->fJ K H vs ds
 |_,_,.nil=>.nil
 |_,_,.cons h t=>.cons (nj.k0 h) (fJ.k0 t)
end
end
section
variable {X:Cx}{tg l:Expr}{tl:TE}
t%eO.imp {f:Value->Value->Sem Value}{r r':R2}(h:eO X f r)(hi:∀x y H Q,r' x y H Q->r x y H Q):eO X f r':=fun aa s σ H x y v u Q I rx ry q=>h aa s σ H x y v u Q I rx ry (hi _ _ _ _ q)
t%cg.imp {f:Value}{r r':List V->Hp->VK->Prop}(h:cg X f r)(hi:∀xs H Q,r' xs H Q->r xs H Q):cg X f r':=fun aa s σ H xs us Q I rx q=>h aa s σ H xs us Q I rx (hi _ _ _ q)
t%zK.imp {r r':R2}(h:zK X r)(hi:∀x y H Q,r' x y H Q->r x y H Q):zK X r':=fun a b aa s σ H x y v u Q I rx ry q=>h a b aa s σ H x y v u Q I rx ry (hi _ _ _ _ q)
t%mW:zK X (Kq K0):=yW.imp fun _ _ _ _ ⟨p,xs,i,v,e1,e2,h,e3,q⟩=>⟨p,xs,i,v,e1,e2,h.k0,e3,q⟩
t%bI:zK X (BK K0):=Na.imp fun _ _ _ _ ⟨p,xs,i,v,e1,e2,h,e3,q⟩=>⟨p,xs,i,v,e1,e2,h.k0,e3,q⟩
n%ID:List V->Hp->VK->Prop:=fun xs H Q=>∃p ys,xs=[.ref p]/\(bz K0 H p ys\/aH K0 H p ys)/\Q (.int ys.length) H
n%IA:List V->Hp->VK->Prop:=fun xs H Q=>∃p ys,xs=[.ref p]/\((bz K0 H p ys/\∀l,H l=none->Q (.ref l) (aK H l (.tup ys)))\/(aH K0 H p ys/\Q (.ref p) H))
n%Cm:List V->Hp->VK->Prop:=fun xs H Q=>∃p ys,xs=[.ref p]/\(bz K0 H p ys\/aH K0 H p ys)/\∀l,H l=none->Q (.ref l) (aK H l (.lst ys))
n%IG:List V->Hp->VK->Prop:=fun xs H Q=>∃p ys,xs=[.ref p]/\(bz K0 H p ys\/aH K0 H p ys)/\ys.all du=true/\Q (.bl (ys.any tv)) H
n%IH:List V->Hp->VK->Prop:=fun xs H Q=>∃p ys,xs=[.ref p]/\(bz K0 H p ys\/aH K0 H p ys)/\ys.all du=true/\Q (.bl (ys.all tv)) H
n%IB:List V->Hp->VK->Prop:=fun xs H Q=>∃(p:Addr) (ns:List Int),xs=[.ref p]/\(bz K0 H p (ns.map V.int)\/aH K0 H p (ns.map V.int))/\Q (.int ns.sum) H
n%IC:List V->Hp->VK->Prop:=fun xs H Q=>∃(p:Addr) (ns:List Int),xs=[.ref p]/\(bz K0 H p (ns.map V.int)\/aH K0 H p (ns.map V.int))/\ns≠[]/\∀m,m∈ns->(∀n∈ns,n<=m)->Q (.int m) H
t%aV:cg X (.builtin "len") ID:=iE.imp fun _ _ _ ⟨p,ys,e,h,q⟩=>⟨p,ys,e,Sq.k0 h,q⟩
t%d8:cg X (.type "tuple") IA:=qv.imp fun _ _ _ ⟨p,ys,e,h⟩=>⟨p,ys,e,h.elim (fun z=>.inl ⟨z.1.k0,z.2⟩) fun z=>.inr ⟨z.1.k0,z.2⟩⟩
t%Jq:cg X (.type "list") Cm:=tO.imp fun _ _ _ ⟨p,ys,e,h,q⟩=>⟨p,ys,e,Sq.k0 h,q⟩
t%qM (hc:X.calm=true):cg X (.builtin "any") IG:=(EO hc).imp fun _ _ _ ⟨p,ys,e,h,q⟩=>⟨p,ys,e,Sq.k0 h,q⟩
t%iI (hc:X.calm=true):cg X (.builtin "all") IH:=(EQ hc).imp fun _ _ _ ⟨p,ys,e,h,q⟩=>⟨p,ys,e,Sq.k0 h,q⟩
t%uI (hc:X.calm=true):cg X (.builtin "sum") IB:=(EN hc).imp fun _ _ _ ⟨p,ys,e,h,q⟩=>⟨p,ys,e,Sq.k0 h,q⟩
t%RA (hc:X.calm=true):cg X (.builtin "max") IC:=(AZ hc).imp fun _ _ _ ⟨p,ys,e,h,q⟩=>⟨p,ys,e,Sq.k0 h,q⟩
t%wR (hu:X.A.units+64<cLine):eO X (compareOp .Eq) (FV K0):=(Mc hu).imp fun _ _ _ _ ⟨dx,dy,h1,h2,q⟩=>⟨dx,dy,h1.k0,h2.k0,q⟩
t%C8 (hu:X.A.units+64<cLine):eO X (compareOp .NotEq) (FU K0):=(L9 hu).imp fun _ _ _ _ ⟨dx,dy,h1,h2,q⟩=>⟨dx,dy,h1.k0,h2.k0,q⟩
t%yl:eO X (compareOp .In) (N3 K0 false):=Aw.imp fun _ _ _ _ ⟨p,xs,e,h,q⟩=>⟨p,xs,e,Sq.k0 h,q⟩
t%C7:eO X (compareOp .NotIn) (N3 K0 true):=tL.imp fun _ _ _ _ ⟨p,xs,e,h,q⟩=>⟨p,xs,e,Sq.k0 h,q⟩
t%Wl:FH X (PC K0):=fun aa s σ H x v vl vu lo hi sl Q I rx hs pl pu ⟨a,xs,e,h,q⟩=>GB aa s σ H x v vl vu lo hi sl Q I rx hs pl pu ⟨a,xs,e,h.k0,q⟩
structure It.Le (J J':It):Prop where
 go:∀i H,J'.go i H->J.go i H
 xQ:∀i H x H',J.xQ i H x H'->J'.xQ i H x H'
 stop:∀i H,J'.stop i H->J.stop i H
t%Turn.le {P:Program}{w:World}{K:PySem.W.Frag}{tg:Expr}{J J':It}{fp:List Addr}{it:Addr}{tn:Nat->Heap->Prop}(T:Turn P w K tg J fp it tn)(l:J.Le J'):Turn P w K tg J' fp it tn where
 mem:=T.mem
 obj:=T.obj
 keep:=T.keep
 item:=fun X hP hw hK hc i aa s σ H E I hf st hg=>bi (T.item X hP hw hK hc i aa s σ H E I hf st (l.go i H hg)) fun r s1 ⟨u,hr,h⟩=>⟨u,hr,bi h fun _ s2 ⟨x,H',a1,a2,a3,a4⟩=>⟨x,H',a1,a2,l.xQ _ _ _ _ a3,a4⟩⟩
 done:=fun X hP hw hK hc i aa s σ H E I hf st hg=>T.done X hP hw hK hc i aa s σ H E I hf st (l.stop i H hg)
 self:=T.self
t%yU {K:PySem.W.Frag}{a:Addr}:(zM K a).Le (zM K0 a):=⟨fun i H ⟨xs,x,h,e⟩=>⟨xs,x,h.k0,e⟩,fun i H x H' ⟨e,h⟩=>⟨e,fun xs hx=>h xs hx.k0⟩,fun i H ⟨xs,h,e⟩=>⟨xs,h.k0,e⟩⟩
t%Dq {K:PySem.W.Frag}{a:Addr}:(zL K a).Le (zL K0 a):=⟨fun i H ⟨xs,x,h,e⟩=>⟨xs,x,h.k0,e⟩,fun i H x H' ⟨e,h⟩=>⟨e,fun xs hx=>h xs hx.k0⟩,fun i H ⟨xs,h,e⟩=>⟨xs,h.k0,e⟩⟩
t%HF {K:PySem.W.Frag}{a:Addr}:(Fl K a).Le (Fl K0 a):=⟨fun i H ⟨xs,x,h,e⟩=>⟨xs,x,h.k0,e⟩,fun i H x H' ⟨p,e1,e2,h⟩=>⟨p,e1,e2,fun xs hx=>h xs hx.k0⟩,fun i H ⟨xs,h,e⟩=>⟨xs,h.k0,e⟩⟩
t%M3 {K:PySem.W.Frag}{a b:Addr}:(Im K a b).Le (Im K0 a b):=⟨fun i H ⟨xs,ys,x,y,h1,h2,e⟩=>⟨xs,ys,x,y,h1.k0,h2.k0,e⟩,fun i H x H' ⟨p,e1,e2,h⟩=>⟨p,e1,e2,fun xs ys h1 h2=>h xs ys h1.k0 h2.k0⟩,fun i H ⟨xs,ys,h1,h2,e⟩=>⟨xs,ys,h1.k0,h2.k0,e⟩⟩
t%FX (hl:PE X l tl):PI X tg l (Rq K0 tl):=by
 intro aa s σ H R I h;r%bi (hl aa s σ H _ I h) fun v s1 ⟨x,H1,I1,r1,a,e,⟨xs,hq⟩,q⟩=>?_
 subst e;cases r1;o%⟨its,rv,p,hz⟩:=I1.list hq.k0;r%wpAny_pyIter_list p.isList ⟨s1.heap.objs.size,[s1.heap.objs.size],_,zM K0 a,H1,rfl,I1.kept (t':=s1.toks) fun b o e=>Heap.get?_push_of_some _ e,(qP (K:=X.K) a _).le yU,⟨_,Heap.get?_push_size _ rfl,rfl,rfl⟩,fun b hb=>?_,q⟩;obtain rfl:b=s1.heap.objs.size:=by simpa using hb
 e%I1.jR (Ze _) (I1.bp.fresh (Ze _))
t%rS (hl:PE X l tl):PI X tg l (WM K0 tl):=by
 intro aa s σ H R I h;r%bi (hl aa s σ H _ I h) fun v s1 ⟨x,H1,I1,r1,a,e,⟨xs,hq⟩,q⟩=>?_
 subst e;cases r1;o%⟨its,rv,p,hz⟩:=I1.tuple hq.k0;r%wpAny_pyIter_tuple (show s1.heap.IsTuple a its.toArray from p) ⟨s1.heap.objs.size,[s1.heap.objs.size],_,zL K0 a,H1,rfl,I1.kept (t':=s1.toks) fun b o e=>Heap.get?_push_of_some _ e,(pH (K:=X.K) a _).le Dq,⟨_,Heap.get?_push_size _ rfl,rfl,rfl⟩,fun b hb=>?_,q⟩;obtain rfl:b=s1.heap.objs.size:=by simpa using hb
 e%I1.jR (Ze _) (I1.bp.fresh (Ze _))
t%kQ {a:Expr}{ta:TA}{p pos:Pos}{oo:List Expr}{kk}{rO:Pos}(hg:Gl X "enumerate")(hm:X.mg "enumerate"=none)(hb:bootBuiltins "enumerate"=some (.type "enumerate"))(ha:PA X [a] ta)(hs:x%(starEach [a] X.env=[(false,eval a X.env)])) :
  PI X (.Tuple oo kk rO) (.Call (.Name "enumerate" p) [a] [] pos) (Jc K0 ta):=by
 intro aa s σ H R I h;r%Call_ (gd I hg hm hb (PyProof.Rows.callWith_type1 (bi (ha pos aa s σ H _ I h) fun us s1 ⟨vs,H1,I1,r1,t,e,⟨xs,hq⟩,q⟩=>?_) hs rfl));subst e;o%⟨u,rfl,ru⟩:=vals1 r1;cases ru;o%⟨its,rv,pl,hz⟩:=I1.tuple hq.k0;r%ku (show s1.heap.IsTuple t its.toArray from pl) fun h' he Ff hsz hk=>wpAny_pyIter_enum he ?_
 r%⟨s1.heap.objs.size+1,[s1.heap.objs.size+1,s1.heap.objs.size],_,Fl K0 t,H1,rfl,I1.kept (t':=s1.toks) hk,(Af (K:=X.K) t _ s1.heap.objs.size (Nat.succ_ne_self _)).le HF,⟨⟨_,he⟩,Ff⟩,fun b hb=>?_,q⟩;rcases Zf.mp hb with rfl |hb
 .exact I1.jR (Nat.le_succ _) (I1.bp.fresh (Nat.le_succ _))
 .obtain rfl:b=s1.heap.objs.size:=by simpa using hb
  e%I1.jR (Ze _) I1.fresh
t%yJ {a b:Expr}{ta:TA}{p pos:Pos}{oo:List Expr}{kk}{rO:Pos}(hg:Gl X "zip")(hm:X.mg "zip"=none)(hb:bootBuiltins "zip"=some (.type "zip"))(ha:PA X [a,b] ta)
  (hs:x%(starEach [a,b] X.env=[(false,eval a X.env),(false,eval b X.env)])) (tU:x%(starEach [b] X.env=[(false,eval b X.env)])):PI X (.Tuple oo kk rO) (.Call (.Name "zip" p) [a,b] [] pos) (WL K0 ta):=by
 intro aa s σ H R I h;r%Call_ (gd I hg hm hb (PyProof.Rows.callWith_type1 (bi (ha pos aa s σ H _ I h) fun us s1 ⟨vs,H1,I1,r1,q1⟩=>?_) (by rw[hs,tU]) (by rw[tU];rfl)));o%⟨x,y,e,⟨xs,ue⟩,⟨ys,NK⟩,q⟩:=q1;subst e;cases r1 with
 |cons r rr =>
  cases rr with
  |cons r' rr =>
   cases rr
   cases r
   cases r'
   o%⟨us,ru,pu,zu⟩:=I1.tuple ue.k0;o%⟨vs,rv,pv,zv⟩:=I1.tuple NK.k0;have a1:x<s1.heap.objs.size:=by o%⟨_,e,_⟩:=(show s1.heap.IsTuple x us.toArray from pu);e%Heap.lt_size e
   have a2:y<s1.heap.objs.size:=by o%⟨_,e,_⟩:=(show s1.heap.IsTuple y vs.toArray from pv);e%Heap.lt_size e
   r%AX (show s1.heap.IsTuple x us.toArray from pu) (show s1.heap.IsTuple y vs.toArray from pv) fun g z0 pI pO n1 n2 hk=>wpAny_pyIter_zip z0 ?_
   r%⟨s1.heap.objs.size+4,[s1.heap.objs.size+4,s1.heap.objs.size+2,s1.heap.objs.size+3,s1.heap.objs.size,s1.heap.objs.size+1],_,Im K0 x y,H1,rfl,I1.kept (t':=s1.toks) hk,(DK (K:=X.K) x y _ _ _ _ _ (zipApart_new a1 a2)).le M3,⟨z0,pI,⟨_,_,pO⟩,n1,n2⟩,fun c hc=>?_,q⟩;have UT:s1.heap.objs.size<=c:=by
    simp only[Zf,List.not_mem_nil,or_false] at hc;rcases hc with h |h |h |h |h<;>rw[h]<;>first |e%Nat.le_add_right _ _ |e%Ze _
   e%I1.jR UT (I1.bp.fresh UT)
t%gF {es:List Expr}{k:Nat}{t:zJ}{n:Nat}{pos:Pos}(hc:X.calm=true)(h:vQ X es t)(hn:x%((assignEach es X.env).length=n))(lO:x%((assignEach es X.env).findIdx? (·.1)=none)):PG X (.Tuple es k pos) (BS K0 n t) :=
 fun aa s σ H v u Q I r ⟨a,xs,e,hq,q⟩=>LX hc h hn lO aa s σ H v u Q I r ⟨a,xs,e,hq.k0,q⟩
t%LZ {es:List Expr}{k:Nat}{t:zJ}{n:Nat}{pos:Pos}(hc:X.calm=true)(h:vQ X es t)(hn:x%((assignEach es X.env).length=n))(lO:x%((assignEach es X.env).findIdx? (·.1)=none)):PG X (.Tuple es k pos) (Ql K0 n t) :=
 fun aa s σ H v u Q I r ⟨a,xs,e,hq,q⟩=>LY hc h hn lO aa s σ H v u Q I r ⟨a,xs,e,hq.k0,q⟩
t%Ny.k0 {K:PySem.W.Frag}{T:String}{x:V}{H:Hp}(h:Ny K0 T x H):Ny K T x H:=by
 cases x with
 |ref p =>
  rcases h with ⟨e,xs,h⟩ |⟨e,o,hk,_⟩ |h |h
  .exact .inl ⟨e,xs,h.k0⟩
  .exact absurd hk (by show ¬ (none=some o);simp)
  .exact .inr (.inr (.inl h))
  .exact .inr (.inr (.inr h))
 |_=>e%h
variable {o e:Expr}{es:List Expr}{to:TE}{t:TA}{name:Str}{fE bW:Pos}{T id:String}{r:V->List V->Hp->VK->Prop}
t%CF (pa:PlainAttrs T)(slot:Slot T name id)(Br:typeOf (.builtin id)=pure (.type "method_descriptor"))(hm:Tg X id r)(ho:PE X o to)(ha:PA X (e::es) t)
  (uD:x%(attributeBase o name X.env (eval o X.env)=eval o X.env))
  (zS:((backTo bW (starEach (e::es) X.env)).all (fun x=>!x.1)&&(backToKw bW (keywordEach [] X.env)).all (fun x=>x.1.isSome)
   && decide ((e::es).length+([]:List Keyword).length+(if ([]:List Keyword).isEmpty then 0 else 1)<30))=true:=by rfl)
  (uC:x%((fE.endLine == bW.line)=true)) (hs:x%(starEach (e::es) X.env=(false,eval e X.env)::starEach es X.env)) (wY:x%((backTo bW (starEach es X.env)).any (·.1)=false)) :
  PE X (.Call (.Attribute o name fE) (e::es) [] bW) (tBM K0 T r to t):=by
 intro aa s σ H Q I h;r%wpAny_Call_method_late uD zS uC rfl (bi (ho aa s σ H _ I h) fun v s1 ⟨x,H1,I1,r1,ty,q1⟩=>?_);o%⟨h1,h2⟩:=CQ I1 r1 ty.k0;r%⟨T,id,pa,slot,Br,h1,h2,?_⟩;have hA:=ha bW aa s1 σ H1 _ I1 q1;rw[hs] at hA ⊢;e%Calls.callWith_builtin (by show(false||(backTo bW (starEach es X.env)).any (·.1))=false;rw[wY]<;>rfl) (Calls.evalArgs_plain (bi hA fun us s2 ⟨vs,H2,I2,r2,q2⟩=>hm aa s2 σ H2 x vs v us Q I2 r1 r2 q2))
end
end L2
namespace jQ
open PySem L2 KG EX KM
n%top (i:Nat):Stmt:=PySem.Challenge.pw_wishmart_k30_whole_barters_let_by.main.body.getD i (.Pass ⟨0,0,0,0⟩)
section
variable {P:Program}{w:World}{K:PySem.W.Frag}{mg:Str->Option Value}{base:Heap}
t%GD:ap ["thing"] ["thing"] (aX (top 14)):=L2.dj
t%Ed {f:Addr}{fd:FuncData}(F:cE K "is_whole" "is_whole" (top 14) f fd)(N:Nm mg)(Z:rM K):aM P w K mg base cP 1 f fd ["thing"] (spT E1):=by
 r%F.ok GD (fun vs H Q E h=>?_) (fun bF A outer s H vs Q E hr h=>?_)
 .obtain⟨b,v,d,rfl,_⟩:=h;rfl
 .obtain⟨b,v,d,rfl,hT,k⟩:=h;r%⟨_,de (eY (iy (nY K (pv 0) rfl N.isinstance rfl N.int boot_int nU) (gH (L5 (nY K (pv 0) rfl N.isinstance rfl N.bool boot_bool nU))))),?_⟩;o%⟨t1,xR,e1⟩:=YR Z hT;o%⟨t2,RF,e2⟩:=YT Z hT;r%⟨_,rfl,t1,_,xR,e1,_,rfl,?_⟩;have hk:=k H (ak.refl H);rw[pP] at hk;cases hi:RQ d with
  |true =>
   rw[hi] at hk;r%aU ⟨_,rfl,t2,_,RF,e2,_,rfl,hk⟩
  |false =>
   rw[hi] at hk;e%bB hk
t%Iy:ap ["one","other"] ["one","other"] (aX (top 16)):=L2.dj
t%Mx {f:Addr}{fd:FuncData}(F:cE K "common_divisor" "common_divisor" (top 16) f fd)(N:Nm mg):aM P w K mg base cP 1 f fd ["one","other"] Ci:=by
 r%F.ok Iy (fun vs H Q E h=>?_) (fun bF A outer s H vs Q E hr h=>?_)
 .obtain⟨t,u,rfl,_⟩:=h;rfl
 .obtain⟨t,u,rfl,u0,k⟩:=h;r%⟨_,d9 (jq PassesOwn.never (qw kJ (pv 1) bE (ax _)) (de (j7 (i:=0) (j:=1) rfl Iy.nd rfl rfl d% rfl rfl (aR (pv 1) (aR (cT gK (pv 0) (pv 1)) bK)) f%)))
   (de (eY (jP lv f% N.abs boot_abs (aR (pv 0) bK)))),?_⟩
  r%jm (fun σ H'=>H'=H/\∃a c:Int,σ=[some (.int a),some (.int c)]/\0<=c/\Int.gcd a c=Int.gcd t u)
   (fun σ _=>match σ with |[_,some (.int c)]=>c.toNat |_=>0) ⟨rfl,t,u,rfl,u0,rfl⟩ ?_ ?_
  .rintro σ H' ⟨rfl,a,c,rfl,c0,e⟩;r%⟨_,rfl,rfl,_,rfl,?_⟩;by_cases hc:c=0
   .subst hc;r%bB ?_;r%⟨_,rfl,_,rfl,?_⟩;rw[zr,e];e%k
   .have e1:(!decide (V.int c=V.int 0))=true:=by simp[hc]
    rw[e1];r%aU ?_;have cp:0<c:=by omega
    r%⟨_,rfl,_,rfl,_,rfl,_,_,rfl,rfl,cp,_,_,rfl,⟨rfl,c,a % c,rfl,Int.emod_nonneg _ hc,vf.trans e⟩,?_⟩;have h1:=Int.emod_lt_of_pos a cp;have h2:=Int.emod_nonneg a hc;show(a % c).toNat<c.toNat;omega
  .rintro σ H' Q1 Q2 rY ⟨v,e,sc,kk,ek,q⟩;e%⟨v,e,sc,kk,ek,rY _ _ q⟩
t%wJ:ap ["thing","top","bottom"] ["thing"] (aX (top 15)):=L2.dj
t%Ay {f fW fG:Addr}{fd dW dG:FuncData}(F:cE K "is_fraction" "is_fraction" (top 15) f fd)(N:Nm mg)(Z:rM K)(W:cC K mg P w base "is_whole" 1 ["thing"] (spT E1) fW dW)(G:cC K mg P w base "common_divisor" 1 ["one","other"] Ci fG dG):aM P w K mg base cP 2 f fd ["thing"] (spT aO):=by
 r%F.ok wJ (fun vs H Q E h=>?_) (fun bF A outer s H vs Q E hr h=>?_)
 .obtain⟨b,v,d,rfl,_⟩:=h;rfl
 .obtain⟨b,v,d,rfl,hT,k⟩:=h;r%⟨_,d9 (d6 (PW.pt (pw_or (vW (t8 (nY K (pv 0) rfl N.isinstance rfl N.tuple m9 nU))) (pw_or1 (qw kJ (jP aV f% N.len PySem.boot_len (aR (pv 0) bK)) bE (ax _))))) (de (eY iG)) tT)
   (d9 (j8 (pv 0) (gF rfl (rH (bG (i:=1) wJ.nd rfl l%) (rH (bG (i:=2) wJ.nd rfl l%) E6))))
   (d9 (d6 (PW.pt (pw_or (vW (t8 (j1 W.ok hr rfl W.mg W.kp W.bd .nil cz (aR (pv 1) bK)))) (pw_or1 (vW (t8 (j1 W.ok hr rfl W.mg W.kp W.bd .nil cz (aR (pv 2) bK))))))) (de (eY iG)) tT)
   (de (eY (iy (vY yi (pv 2) bE (ax _)) (gH (vY yj (j1 G.ok hr rfl G.mg G.kp G.bd .nil cz (aR (pv 1) (aR (pv 2) bK))) bE (ax _)))))))),?_⟩
  o%⟨t1,xR,e1⟩:=Oj Z hT;r%⟨_,rfl,t1,_,xR,e1,_,rfl,?_⟩;have hk:=k H (ak.refl H);rcases kN hT with hn |⟨a,xs,ds,rfl,rfl,ha,hs⟩
  .rw[hn];rw[qX hn] at hk;e%aU (aU hk)
  r%bB ?_;r%⟨_,rfl,a,xs,rfl,.inr (aH.of ha),rfl,_,rfl,?_⟩;by_cases hl:xs.length=2
  case neg =>
   have e2:(!decide (V.int (xs.length:Int)=V.int 2))=true:=kL (b:=2) hl;rw[e2];have lP:ds.length≠2:=by rw[<- hs.len];e%hl
   have e3:aO (.tuple ds)=false:=pQ lP;rw[e3] at hk;e%aU hk
  have e2:(!decide (V.int (xs.length:Int)=V.int 2))=false:=by rw[hl];rfl
  rw[e2];r%bB ?_
  match xs,ds,hl,hs with
  |[x,y],_,_,.cons (d:=dx) hx (.cons (d:=dy) hy .nil) =>
  r%⟨_,rfl,a,_,rfl,aH.of ha,rfl,_,_,rfl,_,_,rfl,rfl,?_⟩;r%⟨_,rfl,b,x,dx,rfl,hx,fun H1 s1=>?_⟩;r%⟨_,rfl,?_⟩;rcases kU hx with hn |⟨i,rfl,rfl⟩
  .rw[hn];r%aU (aU ?_);have e3:aO (.tuple [dx,dy])=false:=by cases dx<;>first |rfl |cases hn
   rw[e3] at k;e%k H1 s1
  r%bB ?_;r%⟨_,rfl,b,y,dy,rfl,hy.az s1,fun H2 s2=>?_⟩;r%⟨_,rfl,?_⟩;rcases kU hy with hn |⟨j,rfl,rfl⟩
  .rw[hn];r%aU ?_;have e3:aO (.tuple [.int i,dy])=false:=by cases dy<;>first |rfl |cases hn
   rw[e3] at k;e%k H2 (s1.trans s2)
  r%bB ?_;r%⟨_,rfl,_,_,rfl,rfl,_,rfl,?_⟩;have zC:Q (.bl (decide ((1:Int)<=j)&&decide (Int.gcd i j=1))) H2:=k H2 (s1.trans s2);by_cases hj:1<=j
  .have e4:decide ((1:Int)<=j)=true:=by simpa using hj
   rw[e4] at zC ⊢;r%aU ⟨_,rfl,_,rfl,i,j,rfl,by omega,rfl,?_⟩;have e5:decide (V.int ((Int.gcd i j:Nat):Int)=V.int 1)=decide (Int.gcd i j=1):=by
    rw[decide_eq_decide];constructor
    .intro h;injection h with h;omega
    .intro h;rw[h];rfl
   rw[e5];simpa using zC
  .have e4:decide ((1:Int)<=j)=false:=by simpa using hj
   rw[e4] at zC ⊢;e%bB zC
t%CW:ap ["bag","many","found"] ["bag","many"] (aX (top 60)):=L2.dj
t%G8 {f:Addr}{fd:FuncData}(F:cE K "_law_take" "_law_take" (top 60) f fd):aM P w K mg base cP 1 f fd ["bag","many"] jd:=by
 r%F.ok CW (fun vs H Q E h=>?_) (fun bF A outer s H vs Q E hr h=>?_)
 .obtain⟨b,m,rfl,_⟩:=h;rfl
 .obtain⟨b,m,rfl,⟨c,d,hb⟩,h0,h1,k⟩:=h;r%⟨_,d9 (d6 (qw i0 (cZ mW (pv 0) bE (fun _ _=>rfl)) bE (ax _))
    (d9 (lI (i:=2) CW.nd rfl l% (cT gK (cZ mW (pv 0) bE (fun _ _=>rfl)) (pv 1)))
     (d9 (j8 (cT kR (cZ mW (pv 0) bE (fun _ _=>rfl)) (pv 1)) (wO (pv 0) bE pk)) (de (eY (pv 2))))) tT)
   (d9 (j8 (cT gK (cT gJ (cZ mW (pv 0) bE (fun _ _=>rfl)) bE) bE) (wO (pv 0) bE pk))
    (de (eY (cT gK (cT kR (cT gK (cT gJ (cT kR (cZ mW (pv 0) bE (fun _ _=>rfl)) bE) (cT iz (cT gK (cZ mW (pv 0) bE (fun _ _=>rfl)) bE) bE)) bE) bE) (pv 1))))),?_⟩
  r%⟨_,rfl,b,_,_,_,rfl,rfl,bz.of hb,rfl,_,_,rfl,rfl,_,rfl,?_⟩;r%Ge (fun hc=>?_) (fun hc=>?_)
  .refine⟨_,rfl,b,_,_,_,rfl,rfl,bz.of hb,rfl,_,rfl,_,_,rfl,rfl,h0,?_⟩;r%⟨_,rfl,b,_,_,_,rfl,rfl,bz.of hb,rfl,_,rfl,_,_,rfl,rfl,⟨h0,h1⟩,?_⟩;r%⟨_,rfl,b,_,_,0,rfl,rfl,hb,rfl,?_⟩;r%⟨_,rfl,k _ _ (Int.emod_nonneg _ g%) (Int.emod_lt_of_pos _ h0) ⟨_,_,cQ⟩ (Kp.refl b H).bag⟩
  .refine⟨_,rfl,b,_,_,_,rfl,rfl,bz.of hb,rfl,_,_,rfl,rfl,.inr ⟨by decide,by decide⟩,_,_,rfl,rfl,(by show(0:Int)<2147483647;decide),?_⟩;r%⟨_,rfl,b,_,_,1,rfl,rfl,hb,rfl,?_⟩;have ZU:(aK H b (.lst [V.int c,V.int (d*48271 % 2147483647)])) b=some (.lst [V.int c,V.int (d*48271 % 2147483647)]):=cQ;r%⟨_,rfl,b,_,_,_,rfl,rfl,bz.of ZU,rfl,_,_,rfl,rfl,⟨by decide,by decide⟩,?_⟩;r%⟨_,rfl,b,_,_,_,rfl,rfl,bz.of ZU,rfl,_,_,rfl,rfl,(by show(0:Int)<32749;decide),_,_,rfl,rfl,?_⟩;r%⟨_,_,rfl,rfl,.inr ⟨?_,?_⟩,?_⟩
   .have:=Int.emod_nonneg (d*48271 % 2147483647) (show(32749:Int)≠0 by decide);omega
   .have:=Int.emod_lt_of_pos (d*48271 % 2147483647) (show(0:Int)<32749 by decide);omega
   r%⟨_,_,rfl,rfl,(by show(0:Int)<2147483629;decide),_,_,rfl,rfl,⟨by decide,by decide⟩,_,rfl,_,_,rfl,rfl,h0,?_⟩;e%k _ _ (Int.emod_nonneg _ g%) (Int.emod_lt_of_pos _ h0) ⟨_,_,cQ⟩ (Kp.refl b H).bag
t%yg:ap ["script","k","cell","seed"] ["script","k"] (aX (top 59)):=L2.dj
t%MD {f:Addr}{fd:FuncData}(F:cE K "_law_bag" "_law_bag" (top 59) f fd)(B:Nm mg):aM P w K mg base cP 1 f fd ["script","k"] (yc K):=by
 r%F.ok yg (fun vs H Q E h=>?_) (fun bF A outer s H vs Q E hr h=>?_)
 .obtain⟨a,ns,k,rfl,_⟩:=h;rfl
 .obtain⟨a,ns,k,rfl,hS,h0,h1,q⟩:=h;r%⟨_,d9 (lI (i:=2) yg.nd rfl l% bE)
   (d9 (d6 (qw kK (pv 1) (jP iE f% B.len PySem.boot_len (aR (pv 0) bK)) (ax _))
    (de (lI (i:=2) yg.nd rfl l% (cT gK (cZ yW (pv 0) (pv 1) (fun _ _=>rfl)) (cT sj bE bE)))) tT)
   (d9 (lI (i:=3) yg.nd rfl l% (cT iz bE (cT gK (cT iz (cT iz (cT iz (cT gJ (cT gK (pv 2) bE) bE) (cT gJ (cT gJ bE (pv 1)) (pv 1))) (cT gJ bE (pv 1))) bE) bE)))
   (d9 (d6 (qw kK (pv 2) (cT sj bE bE) (ax _)) (de (eY (gI (aR bE (aR (pv 3) bK))))) tT)
   (de (eY (gI (aR (pv 2) (aR (pv 3) bK)))))))),?_⟩
  r%⟨_,rfl,_,rfl,a,_,rfl,.inl hS,_,_,rfl,rfl,_,rfl,?_⟩;r%Ge (fun hc=>?V4) (fun hc=>?agR)
  case' V4 =>
   have hk:k<(ns.length:Int):=by simpa using of_decide_eq_true hc
   have zE:iT (ns.map V.int) k=some (V.int (ns.getD k.toNat 0)):=by
    have e:(ns.map V.int)[k.toNat]?=some (V.int (ns.getD k.toNat 0)):=by
     have hl:k.toNat<ns.length:=by omega
     rw[Zg,Zc hl];simp[List.getD,Zc hl]
    have:=fj e;rw[Int.toNat_of_nonneg h0] at this;e%this
   r%⟨_,rfl,_,rfl,a,_,_,_,rfl,rfl,hS,zE,_,_,rfl,rfl,⟨by decide,by decide,by decide⟩,_,_,rfl,rfl,(by show(0:Int)<10 ^ 60;decide),?_⟩
  all_goals
   r%⟨_,rfl,_,_,rfl,rfl,(by show(0:Int)<2147483629;decide),_,_,rfl,rfl,.inr ⟨by decide,by decide⟩,?_⟩;r%⟨_,rfl,_,_,rfl,rfl,.inl ⟨by decide,by decide⟩,_,rfl,_,_,rfl,rfl,.inr ⟨by omega,by omega⟩,_,_,rfl,rfl,?_⟩;r%⟨_,rfl,_,_,rfl,rfl,.inl ⟨by decide,by decide⟩,_,_,rfl,rfl,_,_,rfl,rfl,_,_,rfl,rfl,(by show(0:Int)<2147483645;decide),_,_,rfl,rfl,?_⟩;r%⟨_,rfl,_,_,rfl,rfl,⟨by decide,by decide,by decide⟩,_,_,rfl,rfl,_,rfl,?_⟩;r%Ge (fun hc=>?_) (fun hc=>?_)
   .exact⟨_,rfl,by show 2<=sizeLine;decide,fun p hp=>q p _ _ hp⟩
   .exact⟨_,rfl,_,rfl,by show 2<=sizeLine;decide,fun p hp=>q p _ _ hp⟩
t%nw:ap ["top","bottom","one","other","by"] ["top","bottom"] (aX (top 61)):=L2.dj
t%Hj {f:Addr}{fd:FuncData}(F:cE K "_law_frac" "_law_frac" (top 61) f fd)(B:Nm mg):aM P w K mg base cP 1 f fd ["top","bottom"] wH:=by
 r%F.ok nw (fun vs H Q E h=>?_) (fun bF A outer s H vs Q E hr h=>?_)
 .obtain⟨t,u,rfl,_⟩:=h;rfl
 .obtain⟨t,u,rfl,u0,u1,k⟩:=h;r%⟨_,d9 (j7 (i:=2) (j:=3) rfl nw.nd rfl rfl d% rfl rfl (aR (pv 0) (aR (pv 1) bK)) f%)
   (d9 (jq PassesOwn.never (qw kJ (pv 3) bE (ax _)) (de (j7 (i:=2) (j:=3) rfl nw.nd rfl rfl d% rfl rfl (aR (pv 3) (aR (cT gK (pv 2) (pv 3)) bK)) f%)))
   (d9 (lI (i:=4) nw.nd rfl l% (cT gJ (jP lv f% B.abs boot_abs (aR (pv 2) bK)) (cT si bE (cT gJ bE (NE jO f% B.int boot_int (aR (vY kK (pv 1) bE (ax _)) bK))))))
   (de (eY (gG (aR (cT kR (pv 0) (pv 4)) (aR (cT kR (pv 1) (pv 4)) bK))))))),?_⟩
  r%⟨_,rfl,_,rfl,_,_,rfl,?_⟩;r%jm (fun σ H'=>H'=H/\∃a c:Int,σ=[some (.int t),some (.int u),some (.int a),some (.int c),none]/\0<=c/\Int.gcd a c=Int.gcd t u)
   (fun σ _=>match σ with |[_,_,_,some (.int c),_]=>c.toNat |_=>0) ⟨rfl,t,u,rfl,by omega,rfl⟩ ?_ ?_
  .rintro σ H' ⟨rfl,a,c,rfl,c0,e⟩;r%⟨_,rfl,rfl,_,rfl,?_⟩;by_cases hc:c=0
   .subst hc;r%bB ?_;r%⟨_,rfl,_,rfl,_,rfl,_,_,rfl,rfl,.inr ⟨_,rfl,_,_,rfl,rfl,.inl ⟨by decide,by decide⟩,_,_,rfl,rfl,?_⟩⟩;have e2:decide (u<0)=false:=decide_eq_false g%;rw[zr,e,e2];o%⟨g0,g1⟩:=za (t:=t) u0;have e3:(Int.gcd t u:Int)*(1-2*(if false=true then (1:Int) else 0))=(Int.gcd t u:Int):=by simp
    r%⟨_,_,rfl,rfl,.inl ⟨by omega,by omega⟩,?_⟩;show cF 4 (V.int ((Int.gcd t u:Int)*(1-2*(if false=true then (1:Int) else 0)))) _ _ _;rw[e3];e%⟨_,rfl,_,rfl,_,_,rfl,rfl,⟨g0,by omega⟩,_,rfl,_,rfl,_,_,rfl,rfl,⟨g0,by omega⟩,by show 2<=sizeLine;decide,fun p hp=>k p hp⟩
   .have e1:(!decide (V.int c=V.int 0))=true:=by simp[hc]
    rw[e1];r%aU ?_;have cp:0<c:=by omega
    r%⟨_,rfl,_,rfl,_,rfl,_,_,rfl,rfl,cp,_,_,rfl,⟨rfl,c,a % c,rfl,Int.emod_nonneg _ hc,vf.trans e⟩,?_⟩;have h1:=Int.emod_lt_of_pos a cp;have h2:=Int.emod_nonneg a hc;show(a % c).toNat<c.toNat;omega
  .rintro σ H' Q1 Q2 rY ⟨v,e,sc,kk,ek,q⟩;e%⟨v,e,sc,kk,ek,rY _ _ q⟩
t%QS:ap ["thing"] ["thing"] (aX (top 68)):=L2.dj
t%xq {f fR:Addr}{fd dR:FuncData}(F:cE K "_law_is_fraction" "_law_is_fraction" (top 68) f fd)(N:Nm mg)(Z:rM K)(R:cC K mg P w base "_law_frac" 1 ["top","bottom"] wH fR dR):aM P w K mg base cP 2 f fd ["thing"] (BG aO):=by
 r%F.ok QS (fun vs H Q E h=>?_) (fun bF A outer s H vs Q E hr h=>?_)
 .obtain⟨b,v,d,rfl,_⟩:=h;rfl
 .obtain⟨b,v,d,rfl,hT,Bs,k⟩:=h;have hu:=hr.units;r%⟨_,d9 (d6 (PW.pt (pw_or (vW (t8 (nY K (pv 0) rfl N.isinstance rfl N.tuple m9 nU))) (pw_or1 (qw kJ (jP aV f% N.len PySem.boot_len (aR (pv 0) bK)) bE (ax _))))) (de (eY iG)) tT)
   (d9 (d6 (qw (C8 hu) (ua (own:=["one"]) (cap:=[]) (ix:=[]) (aA.of (aX (top 68)).names ["thing"]) rfl (rS (pv 0))
    (fun C fp s H=>⟨bG (i:=0) (show List.Nodup (["one"]:List Str) by decide+kernel) rfl l%,gh (PW.pt (pw_or (vW (t8 (nY K (pv 0) rfl N.isinstance rfl N.int boot_int nU))) (pw_or1 (t8 (nY K (pv 0) rfl N.isinstance rfl N.bool boot_bool nU))))),pv 0⟩)) (gI bK) (ax _)) (de (eY iG)) tT)
   (de (eY (iy (vY i0 (cZ bI (pv 0) bE (fun _ _=>rfl)) bE (ax _)) (gH (vY (wR hu) (pv 0) (j1 R.ok hr rfl R.mg R.kp R.bd .nil cz (aR (cZ bI (pv 0) bE (fun _ _=>rfl)) (aR (cZ bI (pv 0) bE (fun _ _=>rfl)) bK))) (ax _))))))),?_⟩
  o%⟨t1,xR,e1⟩:=Oj Z hT;r%⟨_,rfl,t1,_,xR,e1,_,rfl,?_⟩;have hk:=k H (ak.refl H);rcases kN hT with hn |⟨a,xs,ds,rfl,rfl,ha,hs⟩
  .rw[hn];rw[qX hn] at hk;e%aU (aU hk)
  r%bB ?_;have bN:=hs.len;r%⟨_,rfl,a,xs,rfl,.inr (aH.of ha),rfl,_,rfl,?_⟩;by_cases hl:xs.length=2
  case neg =>
   have e2:(!decide (V.int (xs.length:Int)=V.int 2))=true:=kL (b:=2) hl;rw[e2];rw[pQ g%] at hk;e%aU hk
  have e2:(!decide (V.int (xs.length:Int)=V.int 2))=false:=by rw[hl];rfl
  rw[e2];r%bB ?_;r%⟨_,rfl,a,rfl,⟨xs,aH.of ha⟩,fun acc bt=>?_⟩;r%fk E1 hs ha bt g% (Nat.succ_pos _) (fun x d H' st hx _ Z0 hZ=>?_) (fun ys es H' st hy tr he=>?_)
  .obtain⟨u1,uy1,ue1⟩:=YR Z hx;o%⟨u2,uy2,ue2⟩:=YT Z hx;r%⟨_,rfl,u1,_,uy1,ue1,_,rfl,?_⟩;have hz:=hZ H' (ak.refl H');rw[pP] at hz;cases hi:RQ d with
   |false=>rw[hi] at hz;e%aU hz
   |true=>rw[hi] at hz;e%bB ⟨_,rfl,u2,_,uy2,ue2,_,rfl,by simpa using hz⟩
  r%⟨by show 0<=sizeLine;decide,fun q hq=>?_⟩;have s2:ak H' (aK H' q (.lst [])):=(ak.refl H').new hq;r%⟨.list es,.list [],.lst (bz.of (s2 _ _ hy)) (tr.az s2).dt,.lst (bz.of cQ) .nil,by show min _ 1<=60;omega,_,rfl,?_⟩;rw[HL,he];have s3:=st.trans s2
  match xs,ds,hl,hs with
  |[x,y],_,_,.cons (d:=dx) hx (.cons (d:=dy) NI .nil) =>
  have OB:=k _ s3;rcases kU hx with hn |⟨i,rfl,rfl⟩
  .have e3:aO (.tuple [dx,dy])=false:=by cases dx<;>first |rfl |cases hn
   rw[e3] at OB;have e4:(!List.all [dx,dy] E1)=true:=by simp[hn]
   rw[e4];e%aU OB
  rcases kU NI with hn |⟨j,rfl,rfl⟩
  .have e3:aO (.tuple [.int i,dy])=false:=by cases dy<;>first |rfl |cases hn
   rw[e3] at OB;have e4:(!List.all [.int i,dy] E1)=true:=by simp[hn]
   rw[e4];e%aU OB
  r%bB ?_;have R4:=s3 _ _ ha;r%⟨_,rfl,a,_,_,_,rfl,rfl,aH.of R4,rfl,_,_,rfl,rfl,_,rfl,?_⟩;have zC:Q (.bl (decide ((1:Int)<=j)&&decide (Int.gcd i j=1))) _:=OB;have WS:-1073741824<j/\j<1073741824:=by
   have:bv (.int j)=true:=kh (ds:=[.int i,.int j]) Bs i%;have h2:(decide (-1073741824<j)&&decide (j<1073741824))=true:=this;simpa using h2
  by_cases hj:0<j
  .rw[decide_eq_true (show(1:Int)<=j by omega)] at zC;rw[decide_eq_true hj];r%aU ⟨_,rfl,_,rfl,a,_,_,_,rfl,rfl,aH.of R4,rfl,_,rfl,a,_,_,_,rfl,rfl,aH.of R4,rfl,i,j,rfl,hj,WS.2,fun p hp=>?_⟩;have s4:ak _ (aK (aK H' q (.lst [])) p (.tup [.int (i / (Int.gcd i j:Int)),.int (j / (Int.gcd i j:Int))])):=(ak.refl (aK H' q (.lst []))).new hp;r%⟨.tuple [.int i,.int j],.tuple [.int (i / (Int.gcd i j:Int)),.int (j / (Int.gcd i j:Int))],.tup (aH.of (s4 _ _ R4)) (.cons (.int i) (.cons (.int j) .nil)),.tup (aH.of cQ) (.cons (.int _) (.cons (.int _) .nil)),?_,?_⟩
   .simp[PyData.depth,PyData.depthAll]
   .rw[ED hj];have:=k _ (s3.trans s4);have e5:aO (.tuple [.int i,.int j])=decide (Int.gcd i j=1):=by
     show(decide ((1:Int)<=j)&&decide (Int.gcd i j=1))=_;rw[decide_eq_true (show(1:Int)<=j by omega)];rfl
    rw[e5] at this;e%this
  .rw[decide_eq_false (show ¬ (1:Int)<=j by omega)] at zC;rw[decide_eq_false hj];e%bB zC
t%Ix:ap ["bag","some"] ["bag"] (aX (top 73)):=L2.dj
t%Ck:ap ["bag","thing","deep","at","way"] ["bag","thing","deep"] (aX (top 74)):=L2.dj
end
end jQ
namespace KM
open PySem L2 KG EX
structure V1 (K:PySem.W.Frag)(mg:Str->Option Value)(M De Bu Dl Go Mk Nn Pr Ro Tx No Un:Addr):Prop where
 Ub:mg "MartError"=some (.ref M)
 KA:mg "Dear"=some (.ref De)
 KC:mg "NoBuyer"=some (.ref Bu)
 Kz:mg "NoDealing"=some (.ref Dl)
 Ky:mg "NoGood"=some (.ref Go)
 Kx:mg "NoMarket"=some (.ref Mk)
 zQ:mg "NoNumber"=some (.ref Nn)
 BL:mg "NoPrices"=some (.ref Pr)
 Kv:mg "NoRow"=some (.ref Ro)
 Ku:mg "NoText"=some (.ref Tx)
 Kw:mg "Nothing"=some (.ref No)
 Kt:mg "Unwished"=some (.ref Un)
 Fm:PySem.W.typeIn K (.ref M)=some (.type "type")
 bM:PySem.W.mroIn K M (.type "BaseException")=some true
structure yx (K:PySem.W.Frag)(M De Bu Dl Go Mk Nn Pr Ro Tx No Un D:Addr)(i:Nat):Prop where
 kDe:PySem.W.kitOne K (.ref D) (.ref De)=some (decide (i=0))
 kBu:PySem.W.kitOne K (.ref D) (.ref Bu)=some (decide (i=1))
 kDl:PySem.W.kitOne K (.ref D) (.ref Dl)=some (decide (i=2))
 kGo:PySem.W.kitOne K (.ref D) (.ref Go)=some (decide (i=3))
 kMk:PySem.W.kitOne K (.ref D) (.ref Mk)=some (decide (i=4))
 kNn:PySem.W.kitOne K (.ref D) (.ref Nn)=some (decide (i=5))
 kPr:PySem.W.kitOne K (.ref D) (.ref Pr)=some (decide (i=6))
 kRo:PySem.W.kitOne K (.ref D) (.ref Ro)=some (decide (i=7))
 kTx:PySem.W.kitOne K (.ref D) (.ref Tx)=some (decide (i=8))
 kNo:PySem.W.kitOne K (.ref D) (.ref No)=some (decide (i=9))
 kUn:PySem.W.kitOne K (.ref D) (.ref Un)=some (decide (i=10))
 kVa:PySem.W.kitOne K (.ref D) (.type "ValueError")=some true
 ex:PySem.W.excIn K D [.type "ValueError",.type "Exception",.type "BaseException",.type "object"] "ValueError.__new__"=true
 sub:PySem.W.mroIn K D (.ref M)=some true
 ek:zV K D
n%cv:List Str:=["Dear","NoBuyer","NoDealing","NoGood","NoMarket","NoNumber","NoPrices","NoRow","NoText","Nothing","Unwished","+"]
n%gf (i:Nat):List Bool:=[decide (i=0),decide (i=1),decide (i=2),decide (i=3),decide (i=4),decide (i=5),decide (i=6),decide (i=7),decide (i=8),decide (i=9),decide (i=10),true]
n%oz (i n:Nat):List Str:=((List.range n).filter fun j=>(gf i).getD j false).map fun j=>cv.getD j ""
t%pJ (i n:Nat):oz i (n+1)=oz i n++if (gf i).getD n false=true then [cv.getD n ""] else []:=by
 unfold oz;rw[mK,Zs];split<;>simp
t%Ah (i n:Nat):(oz i n).length<=n:=by
 unfold oz;rw[Zb];e%Ye (List.length_filter_le _ _) i%
t%Ai:∀i:Fin 11,oz i.1 12=[cv.getD i.1 "","+"]/\(∀z∈[cv.getD i.1 "","+"],z.length<=12):=by decide+kernel
n%uA (i:Nat):Str:=PySem.Txt.join "" [cv.getD i "","+"]
t%vD:uA 6=("NoPrices+" : Str):=by decide+kernel
t%wA {b:Addr}{H:Hp}:∀{xs:List V}{zs:List Str},bX b H xs (zs.map PyData.str)->xs=zs.map V.str
 |_,[],.nil=>rfl
 |_,_::_,.cons h t=>by
  cases h
  rw[Yj,wA t]
n%nu (K:PySem.W.Frag)(M De Bu Dl Go Mk Nn Pr Ro Tx No Un:Addr):Addr->Addr->Sp:=fun ea D vs H Q _=>∃i,i<11/\yx K M De Bu Dl Go Mk Nn Pr Ro Tx No Un D i/\vs=[.ref ea]/\∀H',ak H H'->Q (.str (uA i)) H'
t%Er {a b X Y:Int}(hb:0<b)(hY:0<Y)(g1:Int.gcd a b=1)(g2:Int.gcd X Y=1)(h:X*b=a*Y):X=a/\Y=b:=by
 have d1:Y∣b:=by
  have q:Y∣X*b:=⟨a,by rw[h,Int.mul_comm]⟩;rw[<- Int.dvd_gcd_mul_iff_dvd_mul,Int.gcd_comm,g2] at q;simpa using q
 have d2:b∣Y:=by
  have q:b∣a*Y:=⟨X,by rw[<- h,Int.mul_comm]⟩;rw[<- Int.dvd_gcd_mul_iff_dvd_mul,Int.gcd_comm,g1] at q;simpa using q
 have e:Y=b:=Int.dvd_antisymm g% g% d1 d2;subst e;e%⟨Int.eq_of_mul_eq_mul_right g% h,rfl⟩
t%lJ (q:Rat):(0:Int)<(q.den:Int):=by have:=q.den_nz;omega
t%yG (q:Rat):Int.gcd q.num (q.den:Int)=1:=q.reduced
t%wS {T U:Int}(hU:U≠0):nx T U=(Rat.divInt T U).num/\ny T U=((Rat.divInt T U).den:Int):=by
 o%⟨n1,n2,n3,_⟩:=nF (t:=T) hU;have hd:=lJ (Rat.divInt T U);have h1:T*((Rat.divInt T U).den:Int)=(Rat.divInt T U).num*U:=by
  rw[<- Rat.divInt_eq_divInt_iff hU g%,Rat.num_divInt_den]
 r%Er hd n2 (yG _) n3 ?_;have e:nx T U*((Rat.divInt T U).den:Int)*U=(Rat.divInt T U).num*ny T U*U:=by
  calc nx T U*((Rat.divInt T U).den:Int)*U=nx T U*U*((Rat.divInt T U).den:Int):=by rw[Int.mul_right_comm]
   _=T*ny T U*((Rat.divInt T U).den:Int):=by rw[n1]
   _=T*((Rat.divInt T U).den:Int)*ny T U:=by rw[Int.mul_right_comm]
   _=(Rat.divInt T U).num*U*ny T U:=by rw[h1]
   _=(Rat.divInt T U).num*ny T U*U:=by rw[Int.mul_right_comm]
 e%Int.eq_of_mul_eq_mul_right hU e
m%qO (q:Rat):HO:=.tup [.int q.num,.int (q.den:Int)]
n%Rb (k:Nat)(q:Rat):Prop:=Bd k q.num/\Bd k (q.den:Int)
t%Rb.mono {j k:Nat}{q:Rat}(h:Rb j q)(hk:j<=k):Rb k q:=⟨h.1.mono hk,h.2.mono hk⟩
t%kP {q:Rat}:0<q↔0<q.num:=by
 rw[Rat.lt_iff];simp
t%C2 {t u:Int}(hu:0<u)(hg:Int.gcd t u=1):∃q:Rat,q.num=t/\(q.den:Int)=u:=by
 r%⟨⟨t,u.toNat,by omega,?_⟩,rfl,by show((u.toNat:Nat):Int)=u;omega⟩;show Nat.gcd t.natAbs u.toNat=1;have:u.toNat=u.natAbs:=by omega
 rw[this];e%hg
t%tG (a b:Rat):Rat.divInt (a.num*b.den+b.num*a.den) (a.den*b.den)=a+b:=by
 rw[<- Rat.divInt_add_divInt _ _ (by have:=lJ a;omega) (by have:=lJ b;omega),Rat.num_divInt_den,Rat.num_divInt_den]
t%nG (a b:Rat):Rat.divInt (a.num*b.num) (a.den*b.den)=a*b:=by
 rw[<- Rat.divInt_mul_divInt,Rat.num_divInt_den,Rat.num_divInt_den]
t%tu {a b:Rat}(hb:b.num≠0):Rat.divInt (a.num*b.den) (a.den*b.num)=a / b:=by
 rw[Rat.div_def,Rat.inv_def];conv=>rhs;rw[<- Rat.num_divInt_den a]
 rw[Rat.divInt_mul_divInt]
t%MR (a b:Rat):(a.num*b.den<b.num*a.den)=(a<b):=propext (Rat.lt_iff a b).symm
t%wN {k:Nat}{T U:Int}(hU:U≠0)(h1:Bd k T)(h2:Bd k U):Rb k (Rat.divInt T U):=by
 o%⟨e1,e2⟩:=wS (T:=T) hU;o%⟨_,_,_,_,n5,n6⟩:=nF (t:=T) hU;r%⟨?_,?_⟩
 .rw[<- e1];e%h1.le n5
 .rw[<- e2];e%h2.le n6
t%Bd.add {j:Nat}{a b:Int}(ha:Bd j a)(hb:Bd j b):Bd (j+1) (a+b):=by
 unfold Bd at *;rw[Nat.pow_succ];omega
t%C1 {j k:Nat}{a b:Rat}(ha:Rb j a)(hb:Rb k b):Rb (j+k+1) (a+b):=by
 rw[<- tG];have h2:(a.den:Int)*b.den≠0:=Int.ne_of_gt (Int.mul_pos (lJ a) (lJ b));r%wN h2 (Bd.add (ha.1.mul hb.2) ?_) ((ha.2.mul hb.2).mono g%);have:=hb.1.mul ha.2;e%Bd.mono this g%
t%mf {j k:Nat}{a b:Rat}(ha:Rb j a)(hb:Rb k b):Rb (j+k) (a*b):=by
 rw[<- nG];have h2:(a.den:Int)*b.den≠0:=Int.ne_of_gt (Int.mul_pos (lJ a) (lJ b));e%wN h2 (ha.1.mul hb.1) (ha.2.mul hb.2)
n%BI (Nn:Addr):Sp:=fun vs H Q E=>∃(t u:Int),vs=[.int t,.int u]/\Bd 8000 u/\(u=0->E (.ref Nn) none H)/\(u≠0->∀p,H p=none->Q (.ref p) (aK H p (qO (Rat.divInt t u))))
n%BH:Sp:=fun vs H Q _=>∃(t u:Int),vs=[.int t,.int u]/\0<u/\Bd 8000 u/\∀p,H p=none->Q (.ref p) (aK H p (qO (Rat.divInt t u)))
n%tX (op:Rat->Rat->Rat):Sp:=fun vs H Q _=>∃(p q:Addr) (a b:Rat),vs=[.ref p,.ref q]/\H p=some (qO a)/\H q=some (qO b)/\Rb 3000 a/\Rb 3000 b/\∀r,H r=none->Q (.ref r) (aK H r (qO (op a b)))
n%wD (Nn:Addr):Sp:=fun vs H Q E=>∃(p q:Addr) (a b:Rat),vs=[.ref p,.ref q]/\H p=some (qO a)/\H q=some (qO b)/\Rb 3000 a/\Rb 3000 b/\(b=0->E (.ref Nn) none H)/\(b≠0->∀r,H r=none->Q (.ref r) (aK H r (qO (a / b))))
n%wF:Sp:=fun vs H Q _=>∃(p q:Addr) (a b:Rat),vs=[.ref p,.ref q]/\H p=some (qO a)/\H q=some (qO b)/\Rb 3000 a/\Rb 3000 b/\Q (.bl (decide (a<b))) H
n%HW:Rat->Rat->Rat:=fun a b=>a+b
n%nQ:Rat->Rat->Rat:=fun a b=>a*b
t%b3 {n:Int}(h:Bd 3000 n):Bd 8000 n:=h.mono d%
t%b6 {n:Int}(h:Bd (3000+3000) n):Bd 8000 n:=h.mono d%
t%Iu {k:Nat}{t u:Int}(h:Bd k u)(hu:u≠0):Bd k (sg t u):=by
 r%h.le ?_;have g0:0<Int.gcd t u:=Int.gcd_pos_of_ne_zero_right t hu;have e:(sg t u).natAbs=Int.gcd t u:=by unfold sg;split<;>omega
 rw[e];e%Nat.le_of_dvd g% (Int.gcd_dvd_natAbs_right t u)
t%vo {a:Int}:(if a<0 then -a else a)=(Int.gcd a 0:Int):=by
 rw[Int.gcd_zero_right];split<;>omega
n%wG:Sp:=fun vs H Q _=>∃(t u:Int),vs=[.int t,.int u]/\Q (.int (Int.gcd t u)) H
end KM
namespace jQ
open PySem L2 KG EX KM
section
variable {P:Program}{w:World}{K:PySem.W.Frag}{mg:Str->Option Value}{base:Heap}
t%CY:ap ["one","other"] ["one","other"] (aX (top 16)):=L2.dj
t%Hi {f:Addr}{fd:FuncData}(F:cE K "common_divisor" "common_divisor" (top 16) f fd)(N:Nm mg):aM P w K mg base cP 1 f fd ["one","other"] wG:=by
 r%F.ok CY (fun vs H Q E h=>?_) (fun bF A outer s H vs Q E hr h=>?_)
 .obtain⟨t,u,rfl,_⟩:=h;rfl
 .obtain⟨t,u,rfl,k⟩:=h;r%⟨_,d9 (jq PassesOwn.never (qw kJ (pv 1) bE (ax _)) (de (j7 (i:=0) (j:=1) rfl CY.nd rfl rfl d% rfl rfl (aR (pv 1) (aR (cT yL (pv 0) (pv 1)) bK)) f%)))
   (de (eY (jP lv f% N.abs boot_abs (aR (pv 0) bK)))),?_⟩
  r%jm (fun σ H'=>H'=H/\∃a c:Int,σ=[some (.int a),some (.int c)]/\Int.gcd a c=Int.gcd t u)
   (fun σ _=>match σ with |[_,some (.int c)]=>c.natAbs |_=>0) ⟨rfl,t,u,rfl,rfl⟩ ?_ ?_
  .rintro σ H' ⟨rfl,a,c,rfl,e⟩;r%⟨_,rfl,rfl,_,rfl,?_⟩;by_cases hc:c=0
   .subst hc;r%bB ?_;r%⟨_,rfl,_,rfl,?_⟩;rw[vo,e];e%k
   .have e1:(!decide (V.int c=V.int 0))=true:=by simp[hc]
    rw[e1];r%aU ?_;e%⟨_,rfl,_,rfl,_,rfl,_,_,rfl,rfl,hc,_,_,rfl,⟨rfl,c,a.fmod c,rfl,ve.trans e⟩,zb hc⟩
  .rintro σ H' Q1 Q2 rY ⟨v,e,sc,kk,ek,q⟩;e%⟨v,e,sc,kk,ek,rY _ _ q⟩
t%Kn:ap ["top","bottom","divisor"] ["top","bottom"] (aX (top 17)):=L2.dj
t%vy {f fG Nn:Addr}{fd dG:FuncData}(F:cE K "fraction" "fraction" (top 17) f fd)(zQ:mg "NoNumber"=some (.ref Nn))(exN:PySem.W.excIn K Nn [.type "ValueError",.type "Exception",.type "BaseException",.type "object"] "ValueError.__new__"=true)(G:cC K mg P w base "common_divisor" 1 ["one","other"] wG fG dG):aM P w K mg base (kD P w) 2 f fd ["top","bottom"] (BI Nn):=by
 r%F.N9 Kn (fun vs H Q E h=>?_) (fun bF A outer s H vs Q E hr h=>?_)
 .obtain⟨t,u,rfl,_⟩:=h;rfl
 .obtain⟨t,u,rfl,hb,k0,k1⟩:=h;r%⟨_,d9 (d6 (qw yj (pv 1) bE (ax _)) (de (uU PySem.F.excBase_ValueError rfl zQ exN (aR sh bK))) tT)
   (d9 (lI (i:=2) Kn.nd rfl l% (j1 G.ok hr rfl G.mg G.kp G.bd .nil cz (aR (pv 0) (aR (pv 1) bK))))
   (d9 (d6 (qw kK (pv 1) bE (ax _)) (de (lI (i:=2) Kn.nd rfl l% (CD wz (pv 2)))) tT)
   (de (eY (gG (aR (cT jK (pv 0) (pv 2)) (aR (cT jK (pv 1) (pv 2)) bK))))))),?_⟩
  r%⟨_,rfl,rfl,_,rfl,?_⟩;by_cases hu:u=0
  .subst hu;e%aU ⟨by show 1<=sizeLine;decide,k0 rfl⟩
  have e1:decide (V.int u=V.int 0)=false:=by simp[hu]
  rw[e1];r%bB ?_;r%⟨_,rfl,_,rfl,t,u,rfl,?_⟩;r%⟨_,rfl,_,_,rfl,rfl,_,rfl,?_⟩;have hs:=(nF (t:=t) hu).2.2.2.1;have v4:=Iu (t:=t) hb hu;o%⟨q1,q2⟩:=wS (T:=t) hu;have k1':∀p,H p=none->Q (.ref p) (aK H p (.tup [.int (nx t u),.int (ny t u)])):=fun p hp=>by rw[q1,q2];e%k1 hu p hp
  have kB:∀d:Int,d=sg t u->(Pm (Pk (x8 (Fn (rI (fun _ j=>j≠0/\Bd 8000 j) fun i j=>.int (i.fdiv j)) (mR 0) (mR 2)) (x8 (Fn (rI (fun _ j=>j≠0/\Bd 8000 j) fun i j=>.int (i.fdiv j)) (mR 1) (mR 2)) Kg)))) { nx:=fun _ H'=>Q .bO H',rt:=Q } [some (.int t),some (.int u),some (.int d)] H:=fun d hd=>by
   subst hd;e%⟨_,rfl,_,rfl,_,_,rfl,rfl,⟨hs,v4⟩,_,rfl,_,rfl,_,_,rfl,rfl,⟨hs,v4⟩,by show 2<=sizeLine;decide,fun p hp=>k1' p hp⟩
  by_cases hn:u<0
  .rw[decide_eq_true hn];e%aU ⟨_,rfl,_,rfl,kB _ (by unfold sg;rw[if_pos hn])⟩
  .rw[decide_eq_false hn];e%bB (kB _ (by unfold sg;rw[if_neg hn]))
t%FR:ap ["top","bottom","one","other","by"] ["top","bottom"] (aX (top 61)):=L2.dj
t%Q9 {f:Addr}{fd:FuncData}(F:cE K "_law_frac" "_law_frac" (top 61) f fd)(B:Nm mg):aM P w K mg base cP 1 f fd ["top","bottom"] BH:=by
 r%F.ok FR (fun vs H Q E h=>?_) (fun bF A outer s H vs Q E hr h=>?_)
 .obtain⟨t,u,rfl,_⟩:=h;rfl
 .obtain⟨t,u,rfl,u0,u1,k⟩:=h;r%⟨_,d9 (j7 (i:=2) (j:=3) rfl FR.nd rfl rfl d% rfl rfl (aR (pv 0) (aR (pv 1) bK)) f%)
   (d9 (jq PassesOwn.never (qw kJ (pv 3) bE (ax _)) (de (j7 (i:=2) (j:=3) rfl FR.nd rfl rfl d% rfl rfl (aR (pv 3) (aR (cT yL (pv 2) (pv 3)) bK)) f%)))
   (d9 (lI (i:=4) FR.nd rfl l% (cT gJ (jP lv f% B.abs boot_abs (aR (pv 2) bK)) (cT si bE (cT gJ bE (NE jO f% B.int boot_int (aR (vY kK (pv 1) bE (ax _)) bK))))))
   (de (eY (gG (aR (cT jK (pv 0) (pv 4)) (aR (cT jK (pv 1) (pv 4)) bK))))))),?_⟩
  have hu:u≠0:=by omega
  o%⟨q1,q2⟩:=wS (T:=t) hu;have k':∀p,H p=none->Q (.ref p) (aK H p (.tup [.int (nx t u),.int (ny t u)])):=fun p hp=>by rw[q1,q2];e%k p hp
  have hs:=(nF (t:=t) hu).2.2.2.1;have v4:=Iu (t:=t) u1 hu;have esg:(Int.gcd t u:Int)=sg t u:=by unfold sg;rw[if_neg g%]
  r%⟨_,rfl,_,rfl,_,_,rfl,?_⟩;r%jm (fun σ H'=>H'=H/\∃a c:Int,σ=[some (.int t),some (.int u),some (.int a),some (.int c),none]/\Int.gcd a c=Int.gcd t u)
   (fun σ _=>match σ with |[_,_,_,some (.int c),_]=>c.natAbs |_=>0) ⟨rfl,t,u,rfl,rfl⟩ ?_ ?_
  .rintro σ H' ⟨rfl,a,c,rfl,e⟩;r%⟨_,rfl,rfl,_,rfl,?_⟩;by_cases hc:c=0
   .subst hc;r%bB ?_;r%⟨_,rfl,_,rfl,_,rfl,_,_,rfl,rfl,.inr ⟨_,rfl,_,_,rfl,rfl,.inl ⟨by decide,by decide⟩,_,_,rfl,rfl,?_⟩⟩;have e2:decide (u<0)=false:=decide_eq_false g%;rw[vo,e,e2,esg];have e3:sg t u*(1-2*(if false=true then (1:Int) else 0))=sg t u:=by simp
    r%⟨_,_,rfl,rfl,.inr ⟨by decide,by decide⟩,?_⟩;show cF 4 (V.int (sg t u*(1-2*(if false=true then (1:Int) else 0)))) _ _ _;rw[e3];e%⟨_,rfl,_,rfl,_,_,rfl,rfl,⟨hs,v4⟩,_,rfl,_,rfl,_,_,rfl,rfl,⟨hs,v4⟩,by show 2<=sizeLine;decide,fun p hp=>k' p hp⟩
   .have e1:(!decide (V.int c=V.int 0))=true:=by simp[hc]
    rw[e1];r%aU ?_;e%⟨_,rfl,_,rfl,_,rfl,_,_,rfl,rfl,hc,_,_,rfl,⟨rfl,c,a.fmod c,rfl,ve.trans e⟩,zb hc⟩
  .rintro σ H' Q1 Q2 rY ⟨v,e,sc,kk,ek,q⟩;e%⟨v,e,sc,kk,ek,rY _ _ q⟩
t%GC:ap ["one","other"] ["one","other"] (aX (top 18)):=L2.dj
t%Ha {f fF Nn:Addr}{fd dF:FuncData}(F:cE K "plus" "plus" (top 18) f fd)(G:mY K mg P w base "fraction" 2 ["top","bottom"] (BI Nn) fF dF):aM P w K mg base (kD P w) 3 f fd ["one","other"] (tX HW):=by
 r%F.N9 GC (fun vs H Q E h=>?_) (fun bF A outer s H vs Q E hr h=>?_)
 .obtain⟨p,q,a,b,rfl,_⟩:=h;rfl
 .obtain⟨p,q,a,b,rfl,hp,hq,⟨ba,bb⟩,⟨bc,bd⟩,k⟩:=h;have hb:=lJ a;have hd:=lJ b;r%⟨_,de (eY (j1 G.ok hr rfl G.mg G.kp G.bd .nil yh (aR (cT iz (cT t9 (cZ bI (pv 0) bE (fun _ _=>rfl)) (cZ bI (pv 1) bE (fun _ _=>rfl))) (cT t9 (cZ bI (pv 1) bE (fun _ _=>rfl)) (cZ bI (pv 0) bE (fun _ _=>rfl)))) (aR (cT t9 (cZ bI (pv 0) bE (fun _ _=>rfl)) (cZ bI (pv 1) bE (fun _ _=>rfl))) bK)))),?_⟩;r%⟨_,rfl,p,_,_,_,rfl,rfl,aH.of hp,rfl,_,rfl,q,_,_,_,rfl,rfl,aH.of hq,rfl,_,_,rfl,rfl,⟨b3 ba,b3 bd⟩,_,rfl,q,_,_,_,rfl,rfl,aH.of hq,rfl,_,rfl,p,_,_,_,rfl,rfl,aH.of hp,rfl,_,_,rfl,rfl,⟨b3 bc,b3 bb⟩,_,_,rfl,rfl,_,rfl,p,_,_,_,rfl,rfl,aH.of hp,rfl,_,rfl,q,_,_,_,rfl,rfl,aH.of hq,rfl,_,_,rfl,rfl,⟨b3 bb,b3 bd⟩,?_⟩;e%⟨_,_,rfl,b6 (bb.mul bd),fun h0=>absurd h0 (Int.ne_of_gt (Int.mul_pos hb hd)),fun _ r iK=>by rw[tG];e%k r iK⟩
t%DM:ap ["one","other"] ["one","other"] (aX (top 19)):=L2.dj
t%Ef {f fF Nn:Addr}{fd dF:FuncData}(F:cE K "times" "times" (top 19) f fd)(G:mY K mg P w base "fraction" 2 ["top","bottom"] (BI Nn) fF dF):aM P w K mg base (kD P w) 3 f fd ["one","other"] (tX nQ):=by
 r%F.N9 DM (fun vs H Q E h=>?_) (fun bF A outer s H vs Q E hr h=>?_)
 .obtain⟨p,q,a,b,rfl,_⟩:=h;rfl
 .obtain⟨p,q,a,b,rfl,hp,hq,⟨ba,bb⟩,⟨bc,bd⟩,k⟩:=h;have hb:=lJ a;have hd:=lJ b;r%⟨_,de (eY (j1 G.ok hr rfl G.mg G.kp G.bd .nil yh (aR (cT t9 (cZ bI (pv 0) bE (fun _ _=>rfl)) (cZ bI (pv 1) bE (fun _ _=>rfl))) (aR (cT t9 (cZ bI (pv 0) bE (fun _ _=>rfl)) (cZ bI (pv 1) bE (fun _ _=>rfl))) bK)))),?_⟩;r%⟨_,rfl,p,_,_,_,rfl,rfl,aH.of hp,rfl,_,rfl,q,_,_,_,rfl,rfl,aH.of hq,rfl,_,_,rfl,rfl,⟨b3 ba,b3 bc⟩,_,rfl,p,_,_,_,rfl,rfl,aH.of hp,rfl,_,rfl,q,_,_,_,rfl,rfl,aH.of hq,rfl,_,_,rfl,rfl,⟨b3 bb,b3 bd⟩,?_⟩;e%⟨_,_,rfl,b6 (bb.mul bd),fun h0=>absurd h0 (Int.ne_of_gt (Int.mul_pos hb hd)),fun _ r iK=>by rw[nG];e%k r iK⟩
t%xk:ap ["one","other"] ["one","other"] (aX (top 62)):=L2.dj
t%xu {f fF:Addr}{fd dF:FuncData}(F:cE K "_law_add" "_law_add" (top 62) f fd)(G:cC K mg P w base "_law_frac" 1 ["top","bottom"] BH fF dF):aM P w K mg base cP 2 f fd ["one","other"] (tX HW):=by
 r%F.ok xk (fun vs H Q E h=>?_) (fun bF A outer s H vs Q E hr h=>?_)
 .obtain⟨p,q,a,b,rfl,_⟩:=h;rfl
 .obtain⟨p,q,a,b,rfl,hp,hq,⟨ba,bb⟩,⟨bc,bd⟩,k⟩:=h;have hb:=lJ a;have hd:=lJ b;r%⟨_,de (eY (j1 G.ok hr rfl G.mg G.kp G.bd .nil cz (aR (cT iz (cT t9 (cZ bI (pv 0) bE (fun _ _=>rfl)) (cZ bI (pv 1) bE (fun _ _=>rfl))) (cT t9 (cZ bI (pv 1) bE (fun _ _=>rfl)) (cZ bI (pv 0) bE (fun _ _=>rfl)))) (aR (cT t9 (cZ bI (pv 0) bE (fun _ _=>rfl)) (cZ bI (pv 1) bE (fun _ _=>rfl))) bK)))),?_⟩;r%⟨_,rfl,p,_,_,_,rfl,rfl,aH.of hp,rfl,_,rfl,q,_,_,_,rfl,rfl,aH.of hq,rfl,_,_,rfl,rfl,⟨b3 ba,b3 bd⟩,_,rfl,q,_,_,_,rfl,rfl,aH.of hq,rfl,_,rfl,p,_,_,_,rfl,rfl,aH.of hp,rfl,_,_,rfl,rfl,⟨b3 bc,b3 bb⟩,_,_,rfl,rfl,_,rfl,p,_,_,_,rfl,rfl,aH.of hp,rfl,_,rfl,q,_,_,_,rfl,rfl,aH.of hq,rfl,_,_,rfl,rfl,⟨b3 bb,b3 bd⟩,?_⟩;e%⟨_,_,rfl,Int.mul_pos hb hd,b6 (bb.mul bd),fun r iK=>by rw[tG];e%k r iK⟩
t%xi:ap ["one","other"] ["one","other"] (aX (top 64)):=L2.dj
t%xr {f fF:Addr}{fd dF:FuncData}(F:cE K "_law_mul" "_law_mul" (top 64) f fd)(G:cC K mg P w base "_law_frac" 1 ["top","bottom"] BH fF dF):aM P w K mg base cP 2 f fd ["one","other"] (tX nQ):=by
 r%F.ok xi (fun vs H Q E h=>?_) (fun bF A outer s H vs Q E hr h=>?_)
 .obtain⟨p,q,a,b,rfl,_⟩:=h;rfl
 .obtain⟨p,q,a,b,rfl,hp,hq,⟨ba,bb⟩,⟨bc,bd⟩,k⟩:=h;have hb:=lJ a;have hd:=lJ b;r%⟨_,de (eY (j1 G.ok hr rfl G.mg G.kp G.bd .nil cz (aR (cT t9 (cZ bI (pv 0) bE (fun _ _=>rfl)) (cZ bI (pv 1) bE (fun _ _=>rfl))) (aR (cT t9 (cZ bI (pv 0) bE (fun _ _=>rfl)) (cZ bI (pv 1) bE (fun _ _=>rfl))) bK)))),?_⟩;r%⟨_,rfl,p,_,_,_,rfl,rfl,aH.of hp,rfl,_,rfl,q,_,_,_,rfl,rfl,aH.of hq,rfl,_,_,rfl,rfl,⟨b3 ba,b3 bc⟩,_,rfl,p,_,_,_,rfl,rfl,aH.of hp,rfl,_,rfl,q,_,_,_,rfl,rfl,aH.of hq,rfl,_,_,rfl,rfl,⟨b3 bb,b3 bd⟩,?_⟩;e%⟨_,_,rfl,Int.mul_pos hb hd,b6 (bb.mul bd),fun r iK=>by rw[nG];e%k r iK⟩
t%An:ap ["one","other"] ["one","other"] (aX (top 21)):=L2.dj
t%Hg {f:Addr}{fd:FuncData}(F:cE K "less" "less" (top 21) f fd):aM P w K mg base cP 1 f fd ["one","other"] wF:=by
 r%F.ok An (fun vs H Q E h=>?_) (fun bF A outer s H vs Q E hr h=>?_)
 .obtain⟨p,q,a,b,rfl,_⟩:=h;rfl
 .obtain⟨p,q,a,b,rfl,hp,hq,⟨ba,bb⟩,⟨bc,bd⟩,k⟩:=h;have hb:=lJ a;have hd:=lJ b;r%⟨_,de (eY (vY kK (cT t9 (cZ bI (pv 0) bE (fun _ _=>rfl)) (cZ bI (pv 1) bE (fun _ _=>rfl))) (cT t9 (cZ bI (pv 1) bE (fun _ _=>rfl)) (cZ bI (pv 0) bE (fun _ _=>rfl))) (ax _))),?_⟩;e%⟨_,rfl,p,_,_,_,rfl,rfl,aH.of hp,rfl,_,rfl,q,_,_,_,rfl,rfl,aH.of hq,rfl,_,_,rfl,rfl,⟨b3 ba,b3 bd⟩,_,rfl,q,_,_,_,rfl,rfl,aH.of hq,rfl,_,rfl,p,_,_,_,rfl,rfl,aH.of hp,rfl,_,_,rfl,rfl,⟨b3 bc,b3 bb⟩,_,_,rfl,rfl,by simp only[MR];e%k⟩
t%Lv:ap ["one","other"] ["one","other"] (aX (top 20)):=L2.dj
t%Hb {f fF Nn:Addr}{fd dF:FuncData}(F:cE K "over" "over" (top 20) f fd)(G:mY K mg P w base "fraction" 2 ["top","bottom"] (BI Nn) fF dF):aM P w K mg base (kD P w) 3 f fd ["one","other"] (wD Nn):=by
 r%F.N9 Lv (fun vs H Q E h=>?_) (fun bF A outer s H vs Q E hr h=>?_)
 .obtain⟨p,q,a,b,rfl,_⟩:=h;rfl
 .obtain⟨p,q,a,b,rfl,hp,hq,⟨ba,bb⟩,⟨bc,bd⟩,k0,k1⟩:=h;have hb:=lJ a;have hd:=lJ b;r%⟨_,de (eY (j1 G.ok hr rfl G.mg G.kp G.bd .nil yh (aR (cT t9 (cZ bI (pv 0) bE (fun _ _=>rfl)) (cZ bI (pv 1) bE (fun _ _=>rfl))) (aR (cT t9 (cZ bI (pv 0) bE (fun _ _=>rfl)) (cZ bI (pv 1) bE (fun _ _=>rfl))) bK)))),?_⟩;r%⟨_,rfl,p,_,_,_,rfl,rfl,aH.of hp,rfl,_,rfl,q,_,_,_,rfl,rfl,aH.of hq,rfl,_,_,rfl,rfl,⟨b3 ba,b3 bd⟩,?_⟩;r%⟨_,rfl,p,_,_,_,rfl,rfl,aH.of hp,rfl,_,rfl,q,_,_,_,rfl,rfl,aH.of hq,rfl,_,_,rfl,rfl,⟨b3 bb,b3 bc⟩,?_⟩;r%⟨_,_,rfl,b6 (bb.mul bc),fun h0=>k0 ?_,fun h0 r iK=>?_⟩
  .rcases Int.mul_eq_zero.mp h0 with z |z
   .omega
   .exact Rat.num_eq_zero.mp z
  .have hn:b.num≠0:=fun z=>h0 (by rw[z,Int.mul_zero])
   rw[tu hn];e%k1 (fun z=>hn (by rw[z];rfl)) r iK
end
end jQ
namespace KM
open PySem L2 KG EX
n%qD (q:Rat):PyData:=.tuple [.int q.num,.int (q.den:Int)]
t%Ex (q:Rat):aO (qD q)=true:=by
 have h:=lJ q;show(decide (1<=(q.den:Int))&&decide (Int.gcd q.num (q.den:Int)=1))=true;rw[decide_eq_true (show 1<=(q.den:Int) by omega),decide_eq_true (yG q)];rfl
t%vZ {α β : Type}{f:α->β}{xs:List α}{j:Nat}{a:α}{b:β}(h:j<xs.length):(xs.map f).getD j b=f (xs.getD j a):=by
 simp[List.getD,Zg,Zc h]
n%worse (row:List Int)(qs:List Rat)(g o:Nat):Bool:=decide (0<row.getD o 0)&&decide ((row.getD g 0:Rat)*qs.getD o 0<(row.getD o 0:Rat)*qs.getD g 0)
n%eJ (row:List Int)(qs:List Rat)(g:Nat):Bool:=decide (row.getD g 0≠0)&&(List.range row.length).all fun o=>!worse row qs g o
n%jc (row:List Int)(qs:List Rat):List Nat:=(List.range row.length).filter (eJ row qs)
n%bA (M:List (List Int))(qs:List Rat):List (List Int):=M.map fun row=>(jc row qs).map fun g:Nat=>(g:Int)
n%oB (gs:List Nat):List V:=gs.map fun g:Nat=>V.int (g:Int)
t%yN (x:Rat):x*(((x.den:Int):Int):Rat)=(x.num:Rat):=by
 have hd:=lJ x;rw[<- nG,Rat.num_intCast,Rat.den_intCast,<- Rat.num_divInt_den (x.num:Rat),Rat.num_intCast,Rat.den_intCast,Rat.divInt_eq_divInt_iff (by simpa using(by omega:(x.den:Int)≠0)) d%];simp
t%Ab {a b:Int}{x y:Rat}:((a:Rat)*x<(b:Rat)*y)↔(a*x.num*y.den<b*y.num*x.den):=by
 have hx:=lJ x;have hy:=lJ y;have pc:(0:Rat)<(((x.den:Int)*(y.den:Int):Int):Rat):=by
  have:(0:Rat)=((0:Int):Rat):=rfl;rw[this,Rat.intCast_lt_intCast];e%Int.mul_pos hx hy
 rw[<- Rat.mul_lt_mul_left pc,<- Rat.intCast_lt_intCast];have e1:(((x.den:Int)*(y.den:Int):Int):Rat)*((a:Rat)*x)=((a*x.num*y.den:Int):Rat):=by
  rw[Rat.intCast_mul,Rat.intCast_mul,Rat.intCast_mul,<- yN x];simp only[Rat.mul_assoc,Rat.mul_comm]
  grind
 have e2:(((x.den:Int)*(y.den:Int):Int):Rat)*((b:Rat)*y)=((b*y.num*x.den:Int):Rat):=by
  rw[Rat.intCast_mul,Rat.intCast_mul,Rat.intCast_mul,<- yN y]
  grind
 rw[e1,e2]
t%wM {k:Nat}{n:Int}(h:Bd k n)(hk:1<=k):Rb k (n:Rat):=⟨h,by
 show Bd k ((1:Nat):Int);unfold Bd;e%Nat.one_lt_two_pow g%⟩
n%lR (H:Hp)(ys:List V)(qs:List Rat):Prop:=ys.length=qs.length/\∀(j:Nat) y,ys[j]?=some y->∃a,y=.ref a/\H a=some (qO (qs.getD j 0))
t%lR.az {H H':Hp}{ys:List V}{qs:List Rat}(h:lR H ys qs)(s:ak H H'):lR H' ys qs:=⟨h.1,fun j y hy=>by o%⟨a,e,z⟩:=h.2 j y hy;e%⟨a,e,s _ _ z⟩⟩
t%HK {b:Addr}{H:Hp}{a:Addr}{xs:List V}{x y:Int}(ha:H a=some (.tup xs))(hs:bX b H xs [.int x,.int y]):H a=some (.tup [.int x,.int y]):=by
 cases hs with |cons h1 t1=>?_
 cases h1
 cases t1 with |cons h2 t2=>?_
 cases h2
 cases t2
 e%ha
t%lR.of {b:Addr}{H:Hp}:∀{ys:List V}{qs:List Rat},bX b H ys (qs.map qD)->lR H ys qs
 |[],[],_=>⟨rfl,fun j y h=>by simp at h⟩
 |y::ys,q::qs,.cons h t=>by
  have ih:=lR.of t;r%⟨by simp[ih.1],fun j z hz=>?_⟩;cases j with
  |zero =>
   have e:y=z:=by simpa using hz
   subst e;unfold qD at h;cases h with
   |@tup a xs _ ha hs =>
   e%⟨a,rfl,HK ha hs⟩
  |succ j=>e%ih.2 j z (by simpa using hz)
t%lR.at {H:Hp}{ys:List V}{qs:List Rat}(h:lR H ys qs){g:Nat}(hg:g<qs.length):∃a,iT ys (g:Int)=some (.ref a)/\H a=some (qO (qs.getD g 0)):=by
 have hl:g<ys.length:=by rw[h.1];e%hg
 have e:=Zc hl;o%⟨a,e2,z⟩:=h.2 g _ e;rw[e2] at e;e%⟨a,fj e,z⟩
t%lR.app {H:Hp}{ys:List V}{qs:List Rat}(h:lR H ys qs){a:Addr}{q:Rat}(ha:H a=some (qO q)):lR H (ys++[.ref a]) (qs++[q]):=by
 r%⟨by simp[h.1],fun j y hy=>?_⟩;rcases Zz j ys.length with z |z
 .rw[Zr z] at hy;o%⟨c,e,hc⟩:=h.2 j y hy;r%⟨c,e,?_⟩;have:(qs++[q]).getD j 0=qs.getD j 0:=by simp[List.getD,Zr (h.1▸z)]
  rw[this];e%hc
 .have:j=ys.length:=by
   have:=(Zd.mp hy).1;simp at this;omega
  subst this;simp at hy;subst hy;r%⟨a,rfl,?_⟩;have:(qs++[q]).getD ys.length 0=q:=by rw[h.1];simp[List.getD]
  rw[this];e%ha
t%lR.tm {H H':Hp}{ys:List V}{qs:List Rat}(h:lR H ys qs)(s:Tm H H'):lR H' ys qs:=⟨h.1,fun j y hy=>by o%⟨a,e,z⟩:=h.2 j y hy;e%⟨a,e,s _ _ z⟩⟩
n%cr (qs:List Rat):Rat:=qs.foldl (fun s q=>s+q) 0
t%HZ {α : Type}{xs:List α}{i:Nat}{x:α}(h:xs[i]?=some x):xs.take (i+1)=xs.take i++[x]:=by rw[List.take_succ,h];rfl
t%jG (qs:List Rat)(q:Rat):cr (qs++[q])=cr qs+q:=by unfold cr;rw[List.foldl_append];rfl
t%nz:Rb 1 (0:Rat):=by unfold Rb Bd;decide+kernel
t%sF {qs:List Rat}{k:Nat}(h:∀q∈qs,Rb k q):∀i,Rb (1+(k+1)*i) (cr (qs.take i))
 |0=>nz
 |i+1=>by
  have ih:=sF h i;cases e:qs[i]? with
  |none =>
   have:qs.take (i+1)=qs.take i:=by rw[List.take_succ,e];simp
   rw[this];e%ih.mono (by rw[Nat.mul_succ];omega)
  |some q =>
   rw[HZ e,jG];r%(C1 ih (h q (Yc e))).mono ?_;rw[Nat.mul_succ];omega
n%uv:Sp:=fun vs H Q _=>∃(l:Addr) (ys:List V) (qs:List Rat),vs=[.ref l]/\H l=some (.lst ys)/\lR H ys qs/\(∀q∈qs,Rb 300 q)/\qs.length<=8/\∀(r:Addr) (H':Hp),ak H H'->H' r=some (qO (cr qs))->Q (.ref r) H'
n%NQ (H:Hp)(xs:List V)(M:List (List Int)):Prop:=xs.length=M.length/\∀(j:Nat) x,xs[j]?=some x->∃a,x=.ref a/\H a=some (.lst ((M.getD j []).map V.int))
end KM
namespace L2
open PySem PySem.Spec PyProof.Rows
end L2
namespace KM
open PySem L2 KG EX
n%bU (ns:List Int):PyData:=.tuple (ns.map PyData.int)
t%Rx (q:Rat):PyData.eqv (qD q) (qD q)=true:=by unfold qD;simp[PyData.eqv,PyData.eqvAll]
t%zh (ns:List Int):(bU ns).depth<=1:=by
 unfold bU;simp[PyData.depth,zj]
t%vj:∀M:List (List Int),PyData.depthAll (M.map bU)<=1
 |[]=>by simp[PyData.depthAll]
 |r::M=>by
  have h1:=zh r;have h2:=vj M;simp[PyData.depthAll];omega
t%HM (M:List (List Int)):(PyData.tuple (M.map bU)).depth<=2:=by
 have:=vj M;simp[PyData.depth];omega
t%Jm (q:Rat):(qD q).depth<=1:=by unfold qD;simp[PyData.depth,PyData.depthAll]
t%sK {k:Nat}{qs:List Rat}(hk:1<=k)(h:∀q∈qs,Rb k q)(g:Nat):Rb k (qs.getD g 0):=by
 by_cases hg:g<qs.length
 .have:qs.getD g 0∈qs:=by simp[List.getD,Zc hg]
  e%h _ this
 .have:qs.getD g 0=0:=by simp[List.getD,Yo (Nat.le_of_not_lt hg)]
  rw[this];e%nz.mono hk
n%yb:Sp:=fun vs H Q _=>∃(p q:Addr) (a b:Rat),vs=[.ref p,.ref q]/\H p=some (qO a)/\H q=some (qO b)/\Rb 3000 a/\Rb 3000 b/\0<b/\∀r,H r=none->Q (.ref r) (aK H r (qO (a / b)))
n%jY (ns:List Int)(wf:Nat):List Int:=((List.range ns.length).filter fun k=>decide (wf / 2 ^ k % 2=1)).map fun k=>ns.getD k 0
n%jX (ns:List Int):List (List Int):=(List.range (2 ^ ns.length)).map (jY ns)
t%boot_zip:bootBuiltins "zip"=some (.type "zip"):=by first |rfl |kernel_rfl |decide+kernel
n%qE:Sp:=fun vs H Q _=>∃(l:Addr) (ys:List V) (qs:List Rat),vs=[.ref l]/\H l=some (.lst ys)/\lR H ys qs/\(∀q∈qs,Rb 400 q)/\qs.length<=7/\∀(r:Addr) (H':Hp),ak H H'->H' r=some (qO (cr qs))->Q (.ref r) H'
n%Ch:Sp:=fun vs H Q _=>∃(l:Addr) (ys:List V) (qs:List Rat),vs=[.ref l]/\H l=some (.lst ys)/\lR H ys qs/\qs≠[]/\(∀q∈qs,Rb 3000 q)/\∀(a:Addr) (q:Rat),H a=some (qO q)->q∈qs->(∀z∈qs,z<=q)->Q (.ref a) H
t%nJ {H:Hp}{ys:List V}{qs:List Rat}(h:lR H ys qs){i:Nat}{y:V}(hy:ys[i]?=some y):∃(a:Addr) (q:Rat),y=.ref a/\H a=some (qO q)/\qs[i]?=some q:=by
 o%⟨a,e,z⟩:=h.2 i y hy;have hi:i<qs.length:=by rw[<- h.1];e%(Zd.mp hy).1
 r%⟨a,qs[i],e,?_,Zc hi⟩;have:qs.getD i 0=qs[i]:=by simp[List.getD,Zc hi]
 rw[this] at z;e%z
n%FN:Sp:=fun vs H Q _=>∃(r q:Addr) (ns:List Int) (ys:List V) (qs:List Rat),vs=[.ref r,.ref q]/\H r=some (.tup (ns.map V.int))/\H q=some (.tup ys)/\lR H ys qs/\ns.length=qs.length/\ns.length<=6/\(∀k∈ns,0<=k/\k<=100)/\(∀z∈qs,Rb 300 z) /\
 (∀j,0<ns.getD j 0->0<qs.getD j 0)/\∀(t:Addr) (H':Hp),ak H H'->H' t=some (.tup (oB (jc ns qs)))->Q (.ref t) H'
n%wC:Sp:=fun vs H Q _=>∃(n:Int) (q:Addr) (x:Rat),vs=[.int n,.ref q]/\H q=some (qO x)/\Rb 300 x/\0<x/\0<=n/\n<=100/\∀(t:Addr) (H':Hp),ak H H'->H' t=some (qO ((n:Rat) / x))->Q (.ref t) H'
t%sx (p q:Rat):PyData.eqv (qD p) (qD q)=decide (p=q):=by
 unfold qD;simp only[PyData.eqv,PyData.eqvAll];rw[Bool.eq_iff_iff];simp;constructor
 .rintro⟨h1,h2⟩;e%Rat.ext h1 g%
 .rintro rfl;e%⟨rfl,rfl⟩
t%II {K:PySem.W.Frag}{H:Hp}{a:Addr}{q:Rat}(h:H a=some (qO q)):nj K H (.ref a) (qD q):=(iU.tup (b:=a+1) h (.cons (.int _) (.cons (.int _) .nil))).dt
n%fc (ns:List Int)(i:Nat):List Nat:=(List.range i).filter fun j=>decide (0<ns.getD j 0)
n%dZ (ns:List Int)(qs:List Rat)(j:Nat):Rat:=((ns.getD j 0:Int):Rat) / qs.getD j 0
t%jI (ns:List Int)(i:Nat):fc ns (i+1)=fc ns i++if 0<ns.getD i 0 then [i] else []:=by
 unfold fc;rw[Yn,List.filter_append]
 congr 1
 by_cases h:0<ns.getD i 0
 .rw[if_pos h];simp only[List.filter,h,decide_true]
 .rw[if_neg h];simp only[List.filter,h,decide_false]
t%sM {ns:List Int}{i j:Nat}(h:j∈fc ns i):j<i/\0<ns.getD j 0:=by
 unfold fc at h;rw[Yb] at h;e%⟨by simpa using h.1,by simpa using h.2⟩
t%uV (ns:List Int)(i:Nat):(fc ns i).length<=i:=by
 unfold fc;e%Ye (List.length_filter_le _ _) i%
t%xm (ns:List Int)(i:Nat):(fc ns i).Nodup:=(List.nodup_range).sublist List.filter_sublist
n%oh (j:Nat):df:=.inl (j:Int)
t%va {i j:Nat}(h:oh i=oh j):i=j:=by unfold oh at h;injection h with h;omega
structure ug (ns:List Int)(qs:List Rat)(i:Nat)(kvs:List (df×V))(H:Hp):Prop where
 ks:kvs.map (·.1)=(fc ns i).map oh
 fr:lR H (kvs.map (·.2)) ((fc ns i).map (dZ ns qs))
t%ug.len {ns:List Int}{qs:List Rat}{i:Nat}{kvs:List (df×V)}{H:Hp}(h:ug ns qs i kvs H):kvs.length=(fc ns i).length:=by
 have:=congrArg List.length h.ks;simpa using this
t%ug.az {ns:List Int}{qs:List Rat}{i:Nat}{kvs:List (df×V)}{H H':Hp}(h:ug ns qs i kvs H)(s:ak H H'):ug ns qs i kvs H':=⟨h.ks,h.fr.az s⟩
t%ug.tm {ns:List Int}{qs:List Rat}{i:Nat}{kvs:List (df×V)}{H H':Hp}(h:ug ns qs i kvs H)(s:Tm H H'):ug ns qs i kvs H':=⟨h.ks,h.fr.tm s⟩
t%Ae {kvs:List (df×V)}{k:df}(h:k∉kvs.map (·.1)):j3 kvs k=none:=by
 cases e:j3 kvs k with
 |none=>rfl
 |some v=>e%absurd (Gq e) h
t%ug.put {ns:List Int}{qs:List Rat}{i:Nat}{kvs:List (df×V)}{H:Hp}(h:ug ns qs i kvs H){a:Addr}(hp:0<ns.getD i 0)(ha:H a=some (qO (dZ ns qs i))):ug ns qs (i+1) (mT kvs (oh i) (.ref a)) H:=by
 have hn:oh i∉kvs.map (·.1):=by
  rw[h.ks];intro z;o%⟨j,hj,e⟩:=Zh.mp z;have:=(sM hj).1;have:=va e;omega
 rw[DX _ (Ae hn)];r%⟨?_,?_⟩
 .rw[Zs,h.ks,jI,if_pos hp,Zs];rfl
 .rw[Zs,jI,if_pos hp,Zs];e%h.fr.app ha
t%ug.skip {ns:List Int}{qs:List Rat}{i:Nat}{kvs:List (df×V)}{H:Hp}(h:ug ns qs i kvs H)(hp:¬ 0<ns.getD i 0):ug ns qs (i+1) kvs H:=by
 r%⟨?_,?_⟩
 .rw[jI,if_neg hp,Yg];e%h.ks
 .rw[jI,if_neg hp,Yg];e%h.fr
t%ug.at {ns:List Int}{qs:List Rat}{n i:Nat}{kvs:List (df×V)}{H:Hp}(h:ug ns qs n kvs H){k:df}{v:V}(e:kvs[i]?=some (k,v)):∃(j:Nat) (a:Addr),(fc ns n)[i]?=some j/\k=oh j/\v=.ref a/\H a=some (qO (dZ ns qs j))/\j3 kvs k=some v:=by
 have e1:=congrArg (fun l=>l[i]?) h.ks;simp only[Zg,e,Option.map_some] at e1;cases ej:(fc ns n)[i]? with
 |none=>rw[ej] at e1;cases e1
 |some j =>
  rw[ej] at e1;simp only[Option.map_some,Option.some.injEq] at e1;have e2:(kvs.map (·.2))[i]?=some v:=by rw[Zg,e];rfl
  o%⟨a,q,ea,hq,eq⟩:=nJ h.fr e2;rw[Zg,ej] at eq;simp only[Option.map_some,Option.some.injEq] at eq;r%⟨j,a,rfl,e1,ea,by rw[eq];e%hq,?_⟩;have nd:(kvs.map (·.1)).Nodup:=by
   rw[h.ks];e%(xm ns n).map _ fun _ _ OQ z=>OQ (va z)
  clear e1 ej e2 ea hq eq h
  induction kvs generalizing i with
  |nil=>simp at e
  |cons p r ih =>
   rw[Yj,Yh] at nd;cases i with
   |zero =>
    have e':p=(k,v):=by simpa using e
    rw[e'];e%kY rfl
   |succ i =>
    have e':r[i]?=some (k,v):=by simpa using e
    have hm:k∈r.map (·.1):=Zh.mpr ⟨(k,v),Yc e',rfl⟩;rw[kZ (fun z=>nd.1 (by rw[z];e%hm))];e%ih e' nd.2
t%yF {ns:List Int}{qs:List Rat}{g o:Nat}(hg:0<qs.getD g 0)(ho:0<qs.getD o 0):(dZ ns qs g<dZ ns qs o)↔(((ns.getD g 0:Int):Rat)*qs.getD o 0<((ns.getD o 0:Int):Rat)*qs.getD g 0):=by
 unfold dZ;generalize ((ns.getD g 0:Int):Rat)=a;generalize ((ns.getD o 0:Int):Rat)=b;generalize qs.getD g 0=x at hg ⊢;generalize qs.getD o 0=y at ho ⊢;have hxy:(0:Rat)<x*y:=Rat.mul_pos hg ho;rw[<- Rat.mul_lt_mul_left hxy];have hx:x≠0:=fun z=>by rw[z] at hg;e%absurd hg d%
 have hy:y≠0:=fun z=>by rw[z] at ho;e%absurd ho d%
 have e1:x*y*(a / x)=a*y:=by grind
 have e2:x*y*(b / y)=b*x:=by grind
 rw[e1,e2]
t%ER {ns:List Int}{qs:List Rat}(ee:∀j,0<ns.getD j 0->0<qs.getD j 0)(NL:∀j,0<=ns.getD j 0){m:Rat}(hm:m∈(fc ns ns.length).map (dZ ns qs))(qi:∀z∈(fc ns ns.length).map (dZ ns qs),z<=m) :
  jc ns qs=(fc ns ns.length).filter fun j=>decide (dZ ns qs j=m):=by
 unfold jc fc;rw[List.filter_filter];r%List.filter_congr fun g hg=>?_
 have hgl:g<ns.length:=by simpa using hg
 unfold eJ;by_cases h0:0<ns.getD g 0
 .have h1:ns.getD g 0≠0:=by omega
  rw[decide_eq_true h1,decide_eq_true h0,Bool.true_and,Bool.and_true,Bool.eq_iff_iff,Zu,decide_eq_true_eq];constructor
  .intro h;o%⟨o,ho,eo⟩:=Zh.mp hm;o%⟨ol,op⟩:=sM ho;have:=h o (by simpa using ol);unfold worse at this;rw[decide_eq_true op,Bool.true_and,Bool.not_eq_true',decide_eq_false_iff_not,<- yF (ee g h0) (ee o op),eo] at this;have h2:dZ ns qs g<=m:=qi _ (Zh.mpr ⟨g,Yb.mpr ⟨hg,by simpa using h0⟩,rfl⟩);e%Rat.le_antisymm h2 (Rat.not_lt.mp this)
  .intro h o ho;unfold worse;by_cases op:0<ns.getD o 0
   .rw[decide_eq_true op,Bool.true_and,Bool.not_eq_true',decide_eq_false_iff_not,<- yF (ee g h0) (ee o op),h];e%Rat.not_lt.mpr (qi _ (Zh.mpr ⟨o,Yb.mpr ⟨ho,by simpa using op⟩,rfl⟩))
   .rw[decide_eq_false op];rfl
 .have h1:ns.getD g 0=0:=by have:=NL g;omega
  rw[decide_eq_false h0,Bool.and_false];rw[decide_eq_false (fun z=>z h1)];rfl
t%A0 {ns:List Int}{qs:List Rat}(NL:∀j,0<=ns.getD j 0)(h:fc ns ns.length=[]):jc ns qs=[]:=by
 unfold jc;rw[List.filter_eq_nil_iff];intro g hg;have hgl:g<ns.length:=by simpa using hg
 unfold eJ;have h0:¬ 0<ns.getD g 0:=fun z=>by
  have:g∈fc ns ns.length:=Yb.mpr ⟨hg,by simpa using z⟩;rw[h] at this;cases this
 have h1:ns.getD g 0=0:=by have:=NL g;omega
 rw[decide_eq_false (fun z=>z h1)];simp
t%GN {n:Int}{x:Rat}{k j:Nat}(hn:Bd k n)(hx:Rb j x)(h0:0<x):Rb (k+j) ((n:Rat) / x):=by
 have hp:=kP.mp h0;have hd:=lJ x;have e:=tu (a:=(n:Rat)) (b:=x) g%;have en:((n:Rat)).num=n:=Rat.num_intCast n;have ed:(((n:Rat)).den:Int)=1:=rfl;rw[en,ed,Int.one_mul] at e;rw[<- e];e%wN g% (hn.mul hx.2) (hx.1.mono g%)
t%NQ.app {H:Hp}{ys:List V}{M:List (List Int)}(h:NQ H ys M){a:Addr}{r:List Int}(ha:H a=some (.lst (r.map V.int))):NQ H (ys++[.ref a]) (M++[r]):=by
 r%⟨by simp[h.1],fun j y hy=>?_⟩;rcases Zz j ys.length with z |z
 .rw[Zr z] at hy;o%⟨c,e,hc⟩:=h.2 j y hy;r%⟨c,e,?_⟩;have:(M++[r]).getD j []=M.getD j []:=by simp[List.getD,Zr (h.1▸z)]
  rw[this];e%hc
 .have:j=ys.length:=by
   have:=(Zd.mp hy).1;simp at this;omega
  subst this;simp at hy;subst hy;r%⟨a,rfl,?_⟩;have:(M++[r]).getD ys.length []=r:=by rw[h.1];simp[List.getD]
  rw[this];e%ha
t%ij (ns:List Int):(ns.map V.int).all ja=true:=by
 rw[List.all_map];simp[Function.comp_def,ja]
t%Ey (ns:List Int)(n:Int):Bq (V.int n) (ns.map V.int)=ns.contains n:=by
 unfold Bq;rw[List.any_map,Bool.eq_iff_iff,List.any_eq_true,List.contains_iff_mem];constructor
 .rintro⟨x,hx,e⟩;have:x=n:=by simpa[Fi] using e
  rw[<- this];e%hx
 .intro h;e%⟨n,h,by simp[Fi]⟩
end KM
namespace KM
end KM
namespace jQ
open PySem L2 KG EX KM
section
variable {P:Program}{w:World}{K:PySem.W.Frag}{mg:Str->Option Value}{base:Heap}
t%yd:ap ["parts","whole","part"] ["parts"] (aX (top 22)):=L2.dj
t%Ee {f fA:Addr}{fd dA:FuncData}(F:cE K "total" "total" (top 22) f fd)(A:mY K mg P w base "plus" 3 ["one","other"] (tX HW) fA dA):aM P w K mg base cP 4 f fd ["parts"] qE:=by
 r%F.ok yd (fun vs H Q E h=>?_) (fun bF A' outer s H vs Q E hr h=>?_)
 .obtain⟨l,ys,qs,rfl,_⟩:=h;rfl
 .obtain⟨l,ys,qs,rfl,hl,hf,hb,h8,k⟩:=h;r%⟨_,d9 (lI (i:=1) yd.nd rfl l% (gG (aR bE (aR bE bK))))
   (d9 (oV PassesOwn.never rfl (FX (pv 0)) (bG (i:=2) yd.nd rfl l%)
    (de (lI (i:=1) yd.nd rfl l% (j1 A.ok hr rfl A.mg A.kp A.bd .nil wQ (aR (pv 1) (aR (pv 2) bK))))))
   (de (eY (pv 1)))),?_⟩
  r%⟨by show 2<=sizeLine;decide,fun p0 Ot=>?_⟩;have s0:=(ak.refl H).new (o:=.tup [.int 0,.int 1]) Ot;r%⟨_,rfl,l,rfl,⟨_,bz.of (s0 _ _ hl)⟩,?_⟩;r%pE (xs:=ys) (fun i σ H'=>(∃a y2,σ=[some (.ref l),some (.ref a),y2]/\H' a=some (qO (cr (qs.take i))))/\ak H H') ⟨⟨p0,_,rfl,cQ⟩,s0⟩ (fun i σ H' _ z=>bz.of (z.2 _ _ hl)) ?_ ?_
  .rintro i x σ H1 hx ⟨⟨a,y2,rfl,ha⟩,s1⟩;o%⟨c,q,rfl,hc,hq⟩:=nJ (hf.az s1) hx;have hi:i<qs.length:=(Zd.mp hq).1;have b1:Rb 3000 (cr (qs.take i)):=(sF hb i).mono (by have:401*i<=401*6:=Nat.mul_le_mul_left _ g%;omega);have b2:Rb 3000 q:=(hb q (Yc hq)).mono d%;r%⟨_,rfl,_,rfl,a,c,_,_,rfl,ha,hc,b1,b2,fun r iK=>?_⟩;r%⟨⟨r,_,rfl,?_⟩,s1.new iK⟩;rw[HZ hq,jG];e%cQ
  .rintro σ H1 ⟨⟨a,y2,rfl,ha⟩,s1⟩;rw[hf.1,List.take_length] at ha;e%⟨_,rfl,k a H1 s1 ha⟩
t%yf:ap ["parts","found","part"] ["parts"] (aX (top 23)):=L2.dj
t%vw {f fA:Addr}{fd dA:FuncData}(F:cE K "greatest" "greatest" (top 23) f fd)(A:cC K mg P w base "less" 1 ["one","other"] wF fA dA):aM P w K mg base cP 2 f fd ["parts"] Ch:=by
 r%F.ok yf (fun vs H Q E h=>?_) (fun bF A' outer s H vs Q E hr h=>?_)
 .obtain⟨l,ys,qs,rfl,_⟩:=h;rfl
 .obtain⟨l,ys,qs,rfl,hl,hf,dh,hb,k⟩:=h;r%⟨_,d9 (lI (i:=1) yf.nd rfl l% (cZ mW (pv 0) bE (fun _ _=>rfl)))
   (d9 (oV PassesOwn.never rfl (FX (pv 0)) (bG (i:=2) yf.nd rfl l%)
    (de (d6 (t8 (j1 A.ok hr rfl A.mg A.kp A.bd .nil cz (aR (pv 1) (aR (pv 2) bK)))) (de (lI (i:=1) yf.nd rfl l% (pv 2))) tT)))
   (de (eY (pv 1)))),?_⟩
  have ee:0<qs.length:=List.length_pos_iff.mpr dh;o%⟨a0,JU,JP⟩:=hf.at (g:=0) ee;have m0:qs.getD 0 0∈qs:=by simp[List.getD,Zc ee]
  r%⟨_,rfl,l,_,_,_,rfl,rfl,bz.of hl,JU,?_⟩;r%⟨_,rfl,l,rfl,⟨_,bz.of hl⟩,?_⟩;r%pE (xs:=ys) (fun i σ H'=>H'=H/\∃a q y2,σ=[some (.ref l),some (.ref a),y2]/\H a=some (qO q)/\q∈qs/\∀z∈qs.take i,z<=q) ⟨rfl,a0,_,_,rfl,JP,m0,fun z hz=>by simp at hz⟩ (fun i σ H' _ z=>by o%⟨rfl,_⟩:=z;e%bz.of hl) ?_ ?_
  .rintro i x σ H1 hx ⟨rfl,a,q,y2,rfl,ha,hq,qi⟩;o%⟨c,z,rfl,hc,hz⟩:=nJ hf hx;have YU:=Yc hz;r%⟨_,rfl,_,rfl,a,c,q,z,rfl,ha,hc,hb q hq,hb z YU,_,rfl,?_⟩;by_cases cN:q<z
   .rw[decide_eq_true cN];r%aU ⟨_,rfl,rfl,c,z,_,rfl,hc,YU,fun y hy=>?_⟩;rw[HZ hz] at hy;rcases Zp.mp hy with h |h
    .exact Rat.le_trans (qi y h) (Rat.le_of_lt cN)
    .rw[Yi.mp h];e%Rat.le_refl
   .rw[decide_eq_false cN];r%bB ⟨rfl,a,q,_,rfl,ha,hq,fun y hy=>?_⟩;rw[HZ hz] at hy;rcases Zp.mp hy with h |h
    .exact qi y h
    .rw[Yi.mp h];e%Rat.not_lt.mp cN
  .rintro σ H1 ⟨rfl,a,q,y2,rfl,ha,hq,qi⟩;rw[hf.1,List.take_length] at qi;e%⟨_,rfl,k a q ha hq qi⟩
t%Lu:ap ["wish","price"] ["wish","price"] (aX (top 38)):=L2.dj
t%G9 {f fA Nn:Addr}{fd dA:FuncData}(F:cE K "rate" "rate" (top 38) f fd)(A:mY K mg P w base "over" 3 ["one","other"] (wD Nn) fA dA):aM P w K mg base cP 4 f fd ["wish","price"] wC:=by
 r%F.ok Lu (fun vs H Q E h=>?_) (fun bF A' outer s H vs Q E hr h=>?_)
 .obtain⟨n,q,x,rfl,_⟩:=h;rfl
 .obtain⟨n,q,x,rfl,hq,bx,x0,n0,n1,k⟩:=h;r%⟨_,de (eY (j1 A.ok hr rfl A.mg A.kp A.bd .nil wQ (aR (gG (aR (pv 0) (aR bE bK))) (aR (pv 1) bK)))),?_⟩;r%⟨_,rfl,by show 2<=sizeLine;decide,fun p hp=>?_⟩;have s0:=(ak.refl H).new (o:=.tup [.int n,.int 1]) hp;have bn:Rb 3000 (n:Rat):=wM (Bd.mono (j:=7) (by unfold Bd;omega) d%) d%;have hx:x≠0:=fun z=>by rw[z] at x0;e%absurd x0 d%
  r%⟨_,rfl,p,q,(n:Rat),x,rfl,cQ,s0 _ _ hq,bn,bx.mono d%,fun z=>absurd z hx,fun _ r iK=>?_⟩;e%k r _ (s0.new iK) cQ
end
end jQ
namespace KM
open PySem L2 KG EX
t%At (ns:List Int)(wf:Nat):(jY ns wf).Sublist ns:=by
 have e:ns=(List.range ns.length).map fun k=>ns.getD k 0:=by
  r%List.ext_getElem i% fun i h1 h2=>?_
  simp[List.getD,Zc h1]
 have h:(jY ns wf).Sublist ((List.range ns.length).map fun k=>ns.getD k 0):=by
  unfold jY;e%List.Sublist.map _ List.filter_sublist
 rw[<- e] at h;e%h
t%Al {ns S:List Int}(h:S∈jX ns):S.Sublist ns:=by
 unfold jX at h;o%⟨k,_,rfl⟩:=Zh.mp h;e%At ns k
section
variable {am:List Int}{ps qs:List Rat}{M:List (List Int)}{n:Nat}
end
t%DB:∀qs:List Rat,PyData.depthAll (qs.map qD)<=1
 |[]=>by simp[PyData.depthAll]
 |q::qs=>by
  have h1:=Jm q;have h2:=DB qs;simp[PyData.depthAll];omega
t%Nh (qs:List Rat):(PyData.tuple (qs.map qD)).depth<=2:=by
 have:=DB qs;simp[PyData.depth];omega
end KM
namespace PySem
section
variable {prog:Program}{w:World}{A:Around}{E:Value->Shared->Prop}{s:Shared}{it d:Addr}{i ep:Nat}{es:Array DictEntry}
end
end PySem
namespace L2
open PySem PySem.Spec PyProof.Rows KG
section
variable {X:Cx}
end
section
variable {X:Cx}
end
section
variable {K:PySem.W.Frag}{tt:TT}{te tk tv:TE}{acc a b:Addr}{xs ys:List V}{ao:St}{aE:Hp}{Q:VK}{o:Obj}{kvs:List (List df×V)}
end
end L2
namespace PySem
section
variable {prog:Program}{w:World}{A:Around}{I:Addr}{fp wr:List Addr}{n:Nat}{P:Nat->Value->Prop}{St:Nat->Heap->Prop}
end
end PySem
namespace L2
open PySem PySem.Spec PyProof.Rows
section
variable {X:Cx}{scope:Scope}{own cap:List Str}{ix:List Nat}{tg iter kx vx:Expr}{fu:List Expr}{wi:TI}{g:TG}{tt:TT}{tk tv:TE}{pos:Pos}
end
section
variable {X:Cx}
end
section
variable {X:Cx}
end
end L2
namespace L2
open PySem PySem.Spec PyProof.Rows KG
section
variable {K:PySem.W.Frag}{tt:TT}{tk tv:TE}{a acc:Addr}{xs:List V}{ao:St}{aE:Hp}{Q:VK}
end
end L2
namespace KM
open PySem L2 KG EX
t%li (ns:List Int)(wf:Nat):jY ns wf=((List.range ns.length).filter fun k=>Nat.testBit wf k).map fun k=>ns.getD k 0:=by
 unfold jY
 congr 1
 r%List.filter_congr fun k _=>?_
 rw[Nat.testBit_eq_decide_div_mod_eq]
t%D1 {ns:List Int}{m:Int}{k:Nat}(h:k<2 ^ ns.length):jY (ns++[m]) k=jY ns k:=by
 rw[li,li,Zn,List.length_singleton,Yn,List.filter_append];have e:[ns.length].filter (fun j=>Nat.testBit k j)=[]:=by simp[List.filter,Nat.testBit_lt_two_pow h]
 rw[e,Yg];r%List.map_congr_left fun j hj=>?_
 have p9:j<ns.length:=by simpa using(Yb.mp hj).1
 simp[List.getD,Zr p9]
t%D2 {ns:List Int}{m:Int}{k:Nat}(h:k<2 ^ ns.length):jY (ns++[m]) (2 ^ ns.length+k)=jY ns k++[m]:=by
 rw[li,li,Zn,List.length_singleton,Yn,List.filter_append,Zs];have e:[ns.length].filter (fun j=>Nat.testBit (2 ^ ns.length+k) j)=[ns.length]:=by
  simp[List.filter,Nat.testBit_two_pow_add_eq,Nat.testBit_lt_two_pow h]
 rw[e];have e2:(List.range ns.length).filter (fun j=>Nat.testBit (2 ^ ns.length+k) j)=(List.range ns.length).filter (fun j=>Nat.testBit k j):=by
  r%List.filter_congr fun j hj=>?_
  e%Nat.testBit_two_pow_add_gt (by simpa using hj) k
 rw[e2]
 congr 1
 .refine List.map_congr_left fun j hj=>?_
  have p9:j<ns.length:=by simpa using(Yb.mp hj).1
  simp[List.getD,Zr p9]
 .simp[List.getD]
t%xh (ns:List Int)(m:Int):jX (ns++[m])=jX ns++(jX ns).map fun s=>s++[m]:=by
 unfold jX;rw[Zn,List.length_singleton,Nat.pow_succ,Nat.mul_two,List.range_add,Zs,Zi,Zi]
 congr 1
 .exact List.map_congr_left fun k hk=>D1 (by simpa using hk)
 .exact List.map_congr_left fun k hk=>D2 (by simpa using hk)
t%qT {ns S:List Int}:S∈jX ns↔S.Sublist ns:=by
 constructor
 .exact Al
 .intro h
  revert S
  suffices H:∀(ms S:List Int),S.Sublist ms.reverse->S∈jX ms.reverse by
   intro S h;have:=H ns.reverse S;rw[List.reverse_reverse] at this;e%this h
  intro ms;induction ms with
  |nil=>intro S h;rw[List.reverse_nil] at h ⊢;rw[List.sublist_nil.mp h];e%Yi.mpr rfl
  |cons m ms ih =>
   intro S h;rw[List.reverse_cons] at h ⊢;rw[xh];o%⟨a,b,rfl,ha,hb⟩:=List.sublist_append_iff.mp h;rcases List.sublist_cons_iff.mp hb with hb |⟨r,rfl,hr⟩
   .rw[List.sublist_nil.mp hb,Yg];e%Yr _ (ih a ha)
   .rw[List.sublist_nil.mp hr];e%Zq _ (Zh.mpr ⟨a,ih a ha,rfl⟩)
t%mq (q:Rat)(qs:List Rat):cr (q::qs)=q+cr qs:=by
 have Uk:∀(l:List Rat) (z:Rat),l.foldl (fun s q=>s+q) z=z+cr l:=by
  intro l;induction l with
  |nil=>intro z;unfold cr;simp[Rat.add_zero]
  |cons i l ih=>intro z;unfold cr;rw[List.foldl_cons,List.foldl_cons,ih,ih,Rat.zero_add,Rat.add_assoc]
 conv=>lhs;unfold cr
 rw[List.foldl_cons,Uk,Rat.zero_add]
end KM
namespace L2
open PySem PySem.Spec PyProof.Rows KG
section
variable {X:Cx}
n%LR:List V->Hp->VK->Prop:=fun xs H Q=>∃(p:Addr) (ns:List Int),xs=[.ref p]/\bz K0 H p (ns.map V.int)/\ns.length<64/\∀(Fp:List Int) (l:Addr),Fp.Perm ns->Fp.Pairwise (fun a b=>a<=b)->H l=none->Q (.ref l) (aK H l (.lst (Fp.map V.int)))
t%tN:cg X (.builtin "sorted") LR:=by
 intro aa s σ H xs us Q I r h;o%⟨p,ns,rfl,hp,h64,q⟩:=h;o%⟨u,rfl,rx⟩:=vals1 r;cases rx;o%⟨its,rv,pl,hz⟩:=I.list hp.k0;have hl:=rv.length;rw[Zb] at hl;r%sorted_ints pl.isList (intsAre_of rv) g% fun XE Fp hi Je hpw=>?_
 o%⟨e,he⟩:=sortedAll_at s.heap its XE;have bN:Fp.length=ns.length:=Je.length_eq;r%⟨.ref (s.heap.objs.size+1),_,I.laid (t':=s.toks) (o:=.lst (Fp.map V.int)) (fun _ _ q=>sortedAll_old q) (Nat.le_succ _) ⟨by rw[Zb,bN];e%Ye (show ns.length<=64 by omega) d%,XE.toList,e,mo hi,?_⟩,rfl,q Fp _ Je hpw (I.bp.fresh (Nat.le_succ _))⟩;simpa[seqObj] using he
end
end L2
namespace KM
open PySem L2
t%boot_sorted:bootBuiltins "sorted"=some (.builtin "sorted"):=by first |rfl |kernel_rfl |decide+kernel
end KM
namespace KM
open PySem L2 KG EX
section
variable {K:PySem.W.Frag}{n:Nat}{tt:TT}{te:TE}{acc a b:Addr}{xs ys:List V}{ao:St}{aE:Hp}{Q:VK}
t%zz {α : Type}(f:Nat->Bool)(v:Nat->α)(i:Nat):((List.range (i+1)).filter f).map v=((List.range i).filter f).map v++if f i=true then [v i] else []:=by
 rw[mK,Zs]
 congr 1
 split<;>simp_all
t%hV {α : Type}(f:Nat->Bool)(v:Nat->α)(i:Nat):(((List.range i).filter f).map v).length<=i:=by
 have h:=List.length_filter_le f (List.range i);rw[List.length_range] at h;rw[Zb];e%h
t%DY (f:Nat->Bool)(v:Nat->V)(bt:aE acc=none)(hn:n<=1000)
  (ht:∀(i:Nat) H Z,i<n->ak aE H->(∀H',ak H H'->Z (f i) H')->tt (ao.set 0 (some (.int i))) H Z)
  (he:∀(i:Nat) H (Z:VK),i<n->f i=true->ak aE H->(∀H',ak H H'->Z (v i) H')->te (ao.set 0 (some (.int i))) H Z)
  (hd:∀H,ak aE H->H acc=some (.lst (((List.range n).filter f).map v))->Q (.ref acc) H):cw (cF 0) tt te (BD 0 n) acc ao aE Q:=by
 r%kr (fun i ys H'=>ak aE H'/\ys=((List.range i).filter f).map v) ⟨(ak.refl aE).acc bt,rfl⟩ ?_ (fun ys H hy ⟨s,e⟩=>hd H s (e▸hy));rintro i ys H hi hy ⟨s,rfl⟩;have e0:(0+(i:Int))=(i:Int):=Int.zero_add _;rw[e0];r%ht i H _ hi s fun H' s'=>?_
 cases hf:f i with
 |true =>
  r%aU (he i H' _ hi hf (s.trans s') fun H2 s2=>⟨_,(s'.trans s2) _ _ hy,?_,Cn.of cQ ⟨((s.trans s').trans s2).acc bt,?_⟩⟩)
  .have:=hV f v i;rw[sz];omega
  .rw[zz,hf,if_pos rfl]
 |false=>e%bB (Cn.of (s' _ _ hy) ⟨s.trans s',by rw[zz,hf,if_neg d%,Yg]⟩)
t%GU (f:Nat->Bool)(v:Nat->V)(bt:aE acc=none)(hn:xs.length<=1000)(hl:aE a=some (.lst xs))
  (ht:∀(i:Nat) x H Z,xs[i]?=some x->ak aE H->(∀H',ak H H'->Z (f i) H')->tt (ao.set 0 (some x)) H Z)
  (he:∀(i:Nat) x H (Z:VK),xs[i]?=some x->f i=true->ak aE H->(∀H',ak H H'->Z (v i) H')->te (ao.set 0 (some x)) H Z)
  (hd:∀H,ak aE H->H acc=some (.lst (((List.range xs.length).filter f).map v))->Q (.ref acc) H):cw (cF 0) tt te (zM K a) acc ao aE Q:=by
 r%AT (xs:=xs) (fun i ys H'=>ak aE H'/\ys=((List.range i).filter f).map v) ⟨(ak.refl aE).acc bt,rfl⟩ (fun i ys H' _ _ z=>bz.of (z.1 _ _ hl)) ?_ (fun ys H hy ⟨s,e⟩=>hd H s (e▸hy));rintro i x ys H hx hy ⟨s,rfl⟩;have hi:i<xs.length:=(Zd.mp hx).1;r%ht i x H _ hx s fun H' s'=>?_
 cases hf:f i with
 |true =>
  r%aU (he i x H' _ hx hf (s.trans s') fun H2 s2=>⟨_,(s'.trans s2) _ _ hy,?_,Cn.of cQ ⟨((s.trans s').trans s2).acc bt,?_⟩⟩)
  .have:=hV f v i;rw[sz];omega
  .rw[zz,hf,if_pos rfl]
 |false=>e%bB (Cn.of (s' _ _ hy) ⟨s.trans s',by rw[zz,hf,if_neg d%,Yg]⟩)
t%sf (f:Nat->Bool)(v:Nat->V)(bt:aE acc=none)(hn:xs.length<=1000)(hl:aE a=some (.tup xs))
  (ht:∀(i:Nat) x H Z,xs[i]?=some x->ak aE H->(∀H',ak H H'->Z (f i) H')->tt (ao.set 0 (some x)) H Z)
  (he:∀(i:Nat) x H (Z:VK),xs[i]?=some x->f i=true->ak aE H->(∀H',ak H H'->Z (v i) H')->te (ao.set 0 (some x)) H Z)
  (hd:∀H,ak aE H->H acc=some (.lst (((List.range xs.length).filter f).map v))->Q (.ref acc) H):cw (cF 0) tt te (zL K a) acc ao aE Q:=by
 r%lm (xs:=xs) (fun i ys H'=>ak aE H'/\ys=((List.range i).filter f).map v) ⟨(ak.refl aE).acc bt,rfl⟩ (fun i ys H' _ _ z=>aH.of (z.1 _ _ hl)) ?_ (fun ys H hy ⟨s,e⟩=>hd H s (e▸hy));rintro i x ys H hx hy ⟨s,rfl⟩;have hi:i<xs.length:=(Zd.mp hx).1;r%ht i x H _ hx s fun H' s'=>?_
 cases hf:f i with
 |true =>
  r%aU (he i x H' _ hx hf (s.trans s') fun H2 s2=>⟨_,(s'.trans s2) _ _ hy,?_,Cn.of cQ ⟨((s.trans s').trans s2).acc bt,?_⟩⟩)
  .have:=hV f v i;rw[sz];omega
  .rw[zz,hf,if_pos rfl]
 |false=>e%bB (Cn.of (s' _ _ hy) ⟨s.trans s',by rw[zz,hf,if_neg d%,Yg]⟩)
t%GV (f:Nat->Bool)(v:Nat->V)(bt:aE acc=none)(hn:xs.length<=1000)(hl:aE a=some (.tup xs))
  (ht:∀(i:Nat) x H Z,xs[i]?=some x->ak aE H->(∀H',ak H H'->Z (f i) H')->tt ((ao.set 0 (some (.int i))).set 1 (some x)) H Z)
  (he:∀(i:Nat) x H (Z:VK),xs[i]?=some x->f i=true->ak aE H->(∀H',ak H H'->Z (v i) H')->te ((ao.set 0 (some (.int i))).set 1 (some x)) H Z)
  (hd:∀H,ak aE H->H acc=some (.lst (((List.range xs.length).filter f).map v))->Q (.ref acc) H):cw (g2 K) tt te (Fl K a) acc ao aE Q:=by
 r%AU (xs:=xs) (fun i ys H'=>ak aE H'/\ys=((List.range i).filter f).map v) ⟨(ak.refl aE).acc bt,rfl⟩ (fun i ys H' _ _ z=>aH.of (z.1 _ _ hl)) ?_ (fun ys H hy ⟨s,e⟩=>hd H s (e▸hy));rintro i x ys H H1 hx hy ⟨s,rfl⟩ s1;have hi:i<xs.length:=(Zd.mp hx).1;r%ht i x H1 _ hx (s.trans s1) fun H' s0=>?_
 have s':=s1.trans s0;cases hf:f i with
 |true =>
  r%aU (he i x H' _ hx hf (s.trans s') fun H2 s2=>⟨_,(s'.trans s2) _ _ hy,?_,x4.of cQ ⟨((s.trans s').trans s2).acc bt,?_⟩⟩)
  .have:=hV f v i;rw[sz];omega
  .rw[zz,hf,if_pos rfl]
 |false=>e%bB (x4.of (s' _ _ hy) ⟨s.trans s',by rw[zz,hf,if_neg d%,Yg]⟩)
t%LV (f:Nat->Bool)(v:Nat->V)(bN:xs.length=ys.length)(bt:aE acc=none)(hn:xs.length<=1000)(hl:aE a=some (.tup xs))(lP:aE b=some (.tup ys))
  (ht:∀(i:Nat) x y H Z,xs[i]?=some x->ys[i]?=some y->ak aE H->(∀H',ak H H'->Z (f i) H')->tt ((ao.set 0 (some x)).set 1 (some y)) H Z)
  (he:∀(i:Nat) x y H (Z:VK),xs[i]?=some x->ys[i]?=some y->f i=true->ak aE H->(∀H',ak H H'->Z (v i) H')->te ((ao.set 0 (some x)).set 1 (some y)) H Z)
  (hd:∀H,ak aE H->H acc=some (.lst (((List.range xs.length).filter f).map v))->Q (.ref acc) H):cw (g2 K) tt te (Im K a b) acc ao aE Q:=by
 r%EI (xs:=xs) (ys:=ys) (fun i zs H'=>ak aE H'/\zs=((List.range i).filter f).map v) bN ⟨(ak.refl aE).acc bt,rfl⟩ (fun i zs H' _ _ z=>⟨aH.of (z.1 _ _ hl),aH.of (z.1 _ _ lP)⟩) ?_ (fun zs H hy ⟨s,e⟩=>hd H s (e▸hy));rintro i x y zs H H1 hx Fc hy ⟨s,rfl⟩ s1;have hi:i<xs.length:=(Zd.mp hx).1;r%ht i x y H1 _ hx Fc (s.trans s1) fun H' s0=>?_
 have s':=s1.trans s0;cases hf:f i with
 |true =>
  r%aU (he i x y H' _ hx Fc hf (s.trans s') fun H2 s2=>⟨_,(s'.trans s2) _ _ hy,?_,x4.of cQ ⟨((s.trans s').trans s2).acc bt,?_⟩⟩)
  .have:=hV f v i;rw[sz];omega
  .rw[zz,hf,if_pos rfl]
 |false=>e%bB (x4.of (s' _ _ hy) ⟨s.trans s',by rw[zz,hf,if_neg d%,Yg]⟩)
end
t%nI {α : Type}(ls:List α)(d:α):(List.range ls.length).map (fun i=>ls.getD i d)=ls:=by
 apply List.ext_getElem?;intro i;rw[Zg];by_cases h:i<ls.length
 .rw[Yq h];simp[List.getD,Zc h]
 .rw[Yo (by simpa using h),Yo g%];rfl
t%EA {α β : Type}(ls:List α)(F:α->Bool)(G:α->β)(d:α):((List.range ls.length).filter fun i=>F (ls.getD i d)).map (fun i=>G (ls.getD i d))=(ls.filter F).map G:=by
 conv=>rhs;rw[<- nI ls d,List.filter_map,Zi]
 rfl
t%gj {α : Type}{ls:List α}{i:Nat}{y d:α}(h:ls[i]?=some y):ls.getD i d=y:=by simp[List.getD,h]
t%ints_get {ns:List Int}{i:Nat}{x:V}(h:(ns.map V.int)[i]?=some x):i<ns.length/\x=V.int (ns.getD i 0):=by
 rw[Zg] at h;cases e:ns[i]? with
 |none=>rw[e] at h;cases h
 |some n =>
  rw[e] at h;e%⟨(Zd.mp e).1,by rw[gj e];simpa using h.symm⟩
t%sZ (ns:List Int)(x:Int):Bq (V.int x) (ns.map V.int)=ns.contains x:=by
 have h:Bq (V.int x) (ns.map V.int)=ns.any fun h=>decide (h=x):=by
  unfold Bq;rw[List.any_map]
  congr 1
 rw[h,List.contains_eq_any_beq]
 congr 1
 funext y
 by_cases z:y=x
 .subst z;simp
 .have:¬ x=y:=fun h=>z h.symm
  simp[z,this]
n%Vt (M:List (List Int))(i j:Nat):Int:=(M.getD i []).getD j 0
n%lS (M:List (List Int))(h:Int)(j:Nat):Bool:=decide (0<Vt M h.toNat j)
n%dg (n:Nat):List Int:=(List.range n).map fun i:Nat=>(i:Int)
t%gi {n:Nat}{x:Int}:x∈dg n↔0<=x/\x<n:=by
 unfold dg;rw[Zh];constructor
 .rintro⟨i,hi,rfl⟩;have:=Zm.mp hi;omega
 .rintro⟨h0,h1⟩;e%⟨x.toNat,Zm.mpr g%,by omega⟩
t%kl (n:Nat):(dg n).length=n:=by unfold dg;rw[Zb,List.length_range]
t%ly (n:Nat):(dg n).Nodup:=by
 unfold dg;e%List.Pairwise.map _ (fun a b h e=>h g%) List.nodup_range
structure zX (H:Hp)(p pB pW:Addr)(xB xW:List V)(B W:List (List Int))(g:Nat):Prop where
 hp:H p=some (.tup [.ref pB,.ref pW])
 hB:H pB=some (.tup xB)
 hW:H pW=some (.tup xW)
 rB:rK H xB B
 rW:rK H xW W
 len:W.length=B.length
 n1:1<=B.length
 n6:B.length<=6
 g1:1<=g
 g6:g<=6
 lB:∀r∈B,r.length=g
 lW:∀r∈W,r.length=g
t%zX.az {H H':Hp}{p pB pW:Addr}{xB xW:List V}{B W:List (List Int)}{g:Nat}(m:zX H p pB pW xB xW B W g)(s:ak H H'):zX H' p pB pW xB xW B W g :=
 ⟨s _ _ m.hp,s _ _ m.hB,s _ _ m.hW,m.rB.keep s.tm,m.rW.keep s.tm,m.len,m.n1,m.n6,m.g1,m.g6,m.lB,m.lW⟩
t%fh {H:Hp}{xs:List V}{M:List (List Int)}{i:Nat}(r:rK H xs M)(hi:i<M.length):∃a,xs[i]?=some (.ref a)/\iT xs i=some (.ref a)/\H a=some (.tup ((M.getD i []).map V.int)):=by
 have hx:i<xs.length:=by rw[r.len];e%hi
 o%⟨ns,a,h1,h2,h3⟩:=r.at (Zc hx);have e:xs[i]?=some (.ref a):=by rw[Zc hx,h2]
 e%⟨a,e,fj e,by rw[gj h1];e%h3⟩
t%gy {M:List (List Int)}{g i:Nat}(h:∀r∈M,r.length=g)(hi:i<M.length):(M.getD i []).length=g:=by
 rw[show M.getD i []=M[i] by simp[List.getD,Zc hi]];e%h _ (Zv hi)
t%vb {i j k:Nat}{σ:St}{H:Hp}{Q:VK}{pB:Addr}{xB:List V}{B:List (List Int)}{g:Nat}{h:Int}{c:Nat}(hB:H pB=some (.tup xB))(r:rK H xB B)(h0:0<=h)(hh:h<B.length)(hr:∀r∈B,r.length=g)(hc:c<g)
  (e1:σ[i]?=some (some (.ref pB))) (e2:σ[j]?=some (some (.int h))) (e3:σ[k]?=some (some (.int (c:Nat)))) (q:Q (.int (Vt B h.toNat c)) H) :
  Fn (BK K0) (Fn (BK K0) (mR i) (mR j)) (mR k) σ H Q:=by
 have hn:h.toNat<B.length:=by omega
 o%⟨a,_,ea,ha⟩:=fh r hn;have eh:((h.toNat:Nat):Int)=h:=by omega
 rw[eh] at ea;have hl:=gy hr hn;o%⟨eb,_,_⟩:=pF (ns:=B.getD h.toNat []) (r:=(c:Int)) g% g%;rw[Zj] at eb;e%⟨_,e1,_,e2,pB,_,_,_,rfl,rfl,aH.of hB,ea,_,e3,a,_,_,_,rfl,rfl,aH.of ha,eb,q⟩
n%qF (B W:List (List Int))(g:Nat)(s:List Int):Bool:=(List.range g).all fun j=>!(s.any fun h=>lS W h j)||!((List.range B.length).any fun h=>lS B (h:Nat) j&&!s.contains ((h:Nat):Int))
n%qk (B W:List (List Int))(g:Nat)(s:List Int):List Nat:=(List.range g).filter fun j=>(s.any fun h=>lS B h j)&&!(s.any fun h=>lS W h j)
n%gW (B W:List (List Int))(g:Nat)(h o:Int):Bool:=(List.range g).any fun j=>lS B o j&&lS W h j
n%mE (B W:List (List Int))(g:Nat)(h:Int):List (List Int):=((jX (dg B.length)).filter fun s=>!s.isEmpty&&qF B W g s).filter fun s=>s.contains h
n%lQ (B W:List (List Int))(g:Nat)(h:Int):List Int:=(dg B.length).filter fun o=>(mE B W g h).all fun s=>s.contains o
n%oq (B W:List (List Int))(g:Nat):PyData :=
 match (List.range B.length).find? fun h=>!(qk B W g (lQ B W g (h:Nat))).isEmpty with
 |none=>.none
 |some h=>.tuple [.tuple ((lQ B W g (h:Nat)).map PyData.int),.int (((qk B W g (lQ B W g (h:Nat))).getD 0 0:Nat):Int)]
t%jn {B W:List (List Int)}{g:Nat}{s:List Int}:qF B W g s=true↔∀h∈s,∀o,0<=o->o<(B.length:Int)->gW B W g h o=true->o∈s:=by
 unfold qF gW;rw[Zu];constructor
 .intro a h hh o o0 o1 hn;o%⟨j,hj,hp⟩:=List.any_eq_true.mp hn;rw[Zl] at hp;have:=a j hj;rw[Bool.or_eq_true,Bool.not_eq_true',Bool.not_eq_true',List.any_eq_false,List.any_eq_false] at this;rcases this with z |z
  .exact absurd hp.2 (z h hh)
  .have y:=z o.toNat (Zm.mpr g%);rw[show((o.toNat:Nat):Int)=o by omega,hp.1] at y;simpa using y
 .intro a j hj;rw[Bool.or_eq_true,Bool.not_eq_true',Bool.not_eq_true',List.any_eq_false,List.any_eq_false];by_cases z:∃h∈s,lS W h j=true
  .obtain⟨h,hh,hw⟩:=z;r%.inr fun o ho hp=>?_
   rw[Zl] at hp;have vP:=Zm.mp ho;have:=a h hh (o:Int) g% g% (List.any_eq_true.mpr ⟨j,hj,by rw[Zl];e%⟨hp.1,hw⟩⟩);simp[this] at hp
  .exact .inl fun h hh hw=>z ⟨h,hh,hw⟩
t%hJ {B W:List (List Int)}{g:Nat}{h:Int}{s:List Int}:s∈mE B W g h↔s.Sublist (dg B.length)/\qF B W g s=true/\h∈s:=by
 unfold mE;rw[Yb,Yb,qT];constructor
 .rintro⟨⟨h1,h2⟩,h3⟩;rw[Zl] at h2;e%⟨h1,h2.2,by simpa using h3⟩
 .rintro⟨h1,h2,h3⟩;r%⟨⟨h1,?_⟩,by simpa using h3⟩;rw[Zl];r%⟨?_,h2⟩;cases s with
  |nil=>cases h3
  |cons _ _=>rfl
t%eG {B W:List (List Int)}{g:Nat}{h x:Int}:x∈lQ B W g h↔(0<=x/\x<(B.length:Int))/\∀s∈mE B W g h,x∈s:=by
 unfold lQ;rw[Yb,gi,Zu];constructor
 .rintro⟨a,b⟩;e%⟨a,fun s hs=>by simpa using b s hs⟩
 .rintro⟨a,b⟩;e%⟨a,fun s hs=>by simpa using b s hs⟩
t%Nj {B W:List (List Int)}{g:Nat}{h:Int}{F S:List Int}(nd:F.Nodup)(hF:∀x∈F,x∈lQ B W g h)(hh:h∈F)(cl:∀x∈F,∀o,0<=o->o<(B.length:Int)->gW B W g x o=true->o∈F)(hp:S.Perm F)(hs:S.Pairwise fun a b=>a<=b):S=lQ B W g h:=by
 have ndS:S.Nodup:=hp.nodup_iff.mpr nd;have RW:∀x∈F,0<=x/\x<(B.length:Int):=fun x hx=>(eG.mp (hF x hx)).1
 have Ru:(dg B.length).filter (fun x=>F.contains x)∈mE B W g h:=by
  r%hJ.mpr ⟨List.filter_sublist,jn.mpr fun x hx o o0 o1 hn=>?_,?_⟩
  .have hxF:x∈F:=by simpa using(Yb.mp hx).2
   have:=cl x hxF o o0 o1 hn;e%Yb.mpr ⟨gi.mpr ⟨o0,o1⟩,by simpa using this⟩
  .exact Yb.mpr ⟨gi.mpr (RW h hh),by simpa using hh⟩
 have j6:∀x,x∈S↔x∈lQ B W g h:=fun x=>by
  rw[hp.mem_iff];r%⟨hF x,fun hx=>?_⟩;have:=(eG.mp hx).2 _ Ru;simpa using(Yb.mp this).2
 have ndC:(lQ B W g h).Nodup:=List.Pairwise.sublist List.filter_sublist (ly _);have sC:(lQ B W g h).Pairwise fun a b=>a<=b:=by
  r%List.Pairwise.sublist List.filter_sublist ?_;unfold dg;e%List.Pairwise.map _ (fun a b h=>by omega) (List.pairwise_lt_range (n:=B.length))
 have pC:S.Perm (lQ B W g h):=(List.perm_ext_iff_of_nodup ndS ndC).mpr j6;e%pC.eq_of_pairwise (fun a b _ _ h1 h2=>by omega) hs sC
n%sI:Sp:=fun vs H Q _=>∃(a c:Addr) (r t:List Int),vs=[.ref a,.ref c]/\H a=some (.tup (r.map V.int))/\H c=some (.tup (t.map V.int))/\r.length=t.length/\r.length<=6/\∀H',ak H H'->Q (.bl ((List.range r.length).any fun j=>decide (0<r.getD j 0)&&decide (0<t.getD j 0))) H'
n%kg:Sp:=fun vs H Q _=>∃(p pB pW:Addr) (xB xW:List V) (B W:List (List Int)) (g h:Nat),vs=[.ref p,.int h]/\zX H p pB pW xB xW B W g/\h<B.length/\∀(r:Addr) (H':Hp),ak H H'->H' r=some (.tup ((lQ B W g (h:Nat)).map V.int))->Q (.ref r) H'
n%wE:Sp:=fun vs H Q _=>∃(p pB pW l:Addr) (xB xW:List V) (B W:List (List Int)) (g:Nat) (s:List Int),vs=[.ref p,.ref l]/\zX H p pB pW xB xW B W g/\H l=some (.tup (s.map V.int))/\s.length<=6/\(∀x∈s,0<=x/\x<(B.length:Int))/\∀(r:Addr) (H':Hp),ak H H'->H' r=some (.lst (oB (qk B W g s)))->Q (.ref r) H'
n%lc:Sp:=fun vs H Q _=>∃(p pB pW:Addr) (xB xW:List V) (B W:List (List Int)) (g:Nat),vs=[.ref p]/\zX H p pB pW xB xW B W g/\∀(v:V) (H':Hp),ak H H'->(∀b,iU b H' v (oq B W g))->Q v H'
section
variable {K:PySem.W.Frag}{tt:TT}{te:TE}{acc a:Addr}{s:List Int}{ao:St}{aE:Hp}{Q:VK}
t%mem_getD {i:Nat}(hi:i<s.length):s.getD i 0∈s:=by rw[gj (Zc hi)];e%Zv hi
t%Hv {β : Type}(G:Int->β)(s:List Int):((List.range (s.map V.int).length).filter fun _=>true).map (fun i=>G (s.getD i 0))=s.map G:=by
 rw[Zb];have:=EA s (fun _=>true) G 0;rw[this,List.filter_eq_self.mpr (fun _ _=>rfl)]
t%PL (G:Int->V)(bt:aE acc=none)(hn:s.length<=1000)(hl:aE a=some (.tup (s.map V.int)))
  (he:∀x H (Z:VK),x∈s->ak aE H->(∀H',ak H H'->Z (G x) H')->te (ao.set 0 (some (.int x))) H Z)
  (hd:∀H,ak aE H->H acc=some (.lst (s.map G))->Q (.ref acc) H):cw (cF 0) zN te (zL K a) acc ao aE Q:=by
 r%sf (xs:=s.map V.int) (fun _=>true) (fun i=>G (s.getD i 0)) bt (by rw[Zb];e%hn) hl (fun i x H Z _ _ h=>h H (ak.refl H)) (fun i x H Z hx _ st h=>?_) (fun H st h=>hd H st (by rw[Hv] at h;e%h));o%⟨hi,rfl⟩:=ints_get hx;e%he _ H Z (mem_getD hi) st h
end
t%xa {α : Type}(s:List α)(F:α->Bool):(s.map fun x=>V.bl (F x)).any tv=s.any F:=by rw[List.any_map];rfl
t%xc {α : Type}(s:List α)(F:α->Bool):(s.map fun x=>V.bl (F x)).all tv=s.all F:=by rw[List.all_map];rfl
t%g9 {α : Type}(s:List α)(F:α->Bool):(s.map fun x=>V.bl (F x)).all du=true:=by rw[List.all_map];simp[Function.comp_def,du]
t%Nk {B W:List (List Int)}{g:Nat}{h:Int}:(lQ B W g h).length<=B.length:=by
 unfold lQ;have:=List.length_filter_le (fun o=>(mE B W g h).all fun s=>s.contains o) (dg B.length);rw[kl] at this;e%this
t%En {F:List Int}{n:Nat}(nd:F.Nodup)(h:∀x∈F,0<=x/\x<(n:Int)):F.length<=n:=by
 have:F.length<=(dg n).length:=by
  have hs:F.Perm ((dg n).filter fun x=>F.contains x):=(List.perm_ext_iff_of_nodup nd (List.Pairwise.sublist List.filter_sublist (ly n))).mpr fun x=>by
   rw[Yb,gi];constructor
   .intro hx;e%⟨h x hx,by simpa using hx⟩
   .rintro⟨_,hx⟩;simpa using hx
  rw[hs.length_eq];e%List.length_filter_le _ _
 rw[kl] at this;e%this
t%DL {B W:List (List Int)}{g:Nat}{h:Int}{F:List Int}{x:Int}(nd:F.Nodup)(hF:∀y∈F,y∈lQ B W g h)(hx:x∈F) :
  (F++(((List.range B.length).filter fun o=>!F.contains ((o:Nat):Int)&&gW B W g x (o:Nat)).map fun o:Nat=>(o:Int))).Nodup /\
  (∀y∈F++(((List.range B.length).filter fun o=>!F.contains ((o:Nat):Int)&&gW B W g x (o:Nat)).map fun o:Nat=>(o:Int)),y∈lQ B W g h) /\
  ∀o,0<=o->o<(B.length:Int)->gW B W g x o=true->o∈F++(((List.range B.length).filter fun o=>!F.contains ((o:Nat):Int)&&gW B W g x (o:Nat)).map fun o:Nat=>(o:Int)):=by
 r%⟨?_,?_,?_⟩
 .rw[List.nodup_append];r%⟨nd,?_,?_⟩
  .exact List.Pairwise.map _ (fun a b h e=>h g%) (List.Pairwise.sublist List.filter_sublist List.nodup_range)
  .intro a ha b hb e;o%⟨o,ho,rfl⟩:=Zh.mp hb;have:=(Yb.mp ho).2;rw[Zl] at this;rw[e] at ha;simp[ha] at this
 .intro y hy;rcases Zp.mp hy with z |z
  .exact hF y z
  .obtain⟨o,ho,rfl⟩:=Zh.mp z;o%⟨h1,h2⟩:=Yb.mp ho;rw[Zl] at h2;have h1':=Zm.mp h1;r%eG.mpr ⟨by omega,fun s hs=>?_⟩;o%⟨_,Fy,_⟩:=hJ.mp hs;e%jn.mp Fy x ((eG.mp (hF x hx)).2 s hs) o g% g% h2.2
 .intro o o0 o1 hn;by_cases z:o∈F
  .exact Yr _ z
  .refine Zq _ (Zh.mpr ⟨o.toNat,Yb.mpr ⟨Zm.mpr g%,?_⟩,by omega⟩);rw[show((o.toNat:Nat):Int)=o by omega,hn];simp[z]
t%EL {B W:List (List Int)}{g:Nat}{h:Int}(h0:0<=h)(h1:h<(B.length:Int)):lQ B W g h∈mE B W g h:=by
 r%hJ.mpr ⟨List.filter_sublist,jn.mpr fun x hx o o0 o1 hn=>?_,eG.mpr ⟨⟨h0,h1⟩,fun s hs=>(hJ.mp hs).2.2⟩⟩;o%⟨_,hx⟩:=eG.mp hx;e%eG.mpr ⟨⟨o0,o1⟩,fun s hs=>jn.mp (hJ.mp hs).2.1 x (hx s hs) o o0 o1 hn⟩
n%Cj (B W:List (List Int))(g:Nat):List (List Int):=(jX (dg B.length)).filter fun s=>!s.isEmpty&&qF B W g s
t%Ht (B W:List (List Int))(g:Nat)(h:Int):mE B W g h=(Cj B W g).filter fun s=>s.contains h:=rfl
t%Ak {B W:List (List Int)}{g:Nat}{s:List Int}(h:s∈Cj B W g):s.length<=B.length/\∀x∈s,0<=x/\x<(B.length:Int):=by
 have hs:=qT.mp (Yb.mp h).1;r%⟨by have:=hs.length_le;rw[kl] at this;e%this,fun x hx=>gi.mp (hs.subset hx)⟩
t%EF {B W:List (List Int)}{g:Nat}(h:∀s∈Cj B W g,qk B W g s=[]):oq B W g=.none:=by
 unfold oq;have ef:(List.range B.length).find? (fun h=>!(qk B W g (lQ B W g (h:Nat))).isEmpty)=none:=by
  rw[List.find?_eq_none];intro i hi;have xX:=Zm.mp hi;have:=EL (B:=B) (W:=W) (g:=g) (h:=(i:Int)) g% g%;rw[Ht] at this;rw[h _ (Yb.mp this).1];simp
 rw[ef]
end KM
namespace L2
open PySem PySem.Spec PyProof.Rows
m%tQ (dm t1 i1 t2 i2:Expr)(f1 f2:List Expr)(scope:Scope)(pos:Pos):Expr:=.ListComp dm [⟨t1,i1,f1,0⟩,⟨t2,i2,f2,0⟩] scope pos
t%pT (dm t1 i1 t2 i2:Expr)(f1 f2:List Expr)(scope:Scope)(pos:Pos)(it acc:Value)(env:Env) :
  compTurn (tQ dm t1 i1 t2 i2 f1 f2 scope pos) 0 it acc env=(do
   standAt i1.pos
   match <- pyNext it with
   |none=>pure (.done .next)
   |some v =>
    letOwnedTupleGo t1 it v
    assign t1 env v
    let mut ok:=true
    for c in f1 do
     if ok then ok <- isTrue c env (eval c env)
    if ok then
     let x <- eval i2 env
     standAt i2.pos
     let x <- foldedSetIterable i2 env x;let _ <- runOwn (.compStart (tQ dm t1 i1 t2 i2 f1 f2 scope pos) 1 (<- holding [x] (pyIter x)) acc env) env
    again (.compLoop (tQ dm t1 i1 t2 i2 f1 f2 scope pos) 0 it acc env)):=by rfl
t%m5 (dm t1 i1 t2 i2:Expr)(f1 f2:List Expr)(scope:Scope)(pos:Pos)(it acc:Value)(env:Env) :
  compTurn (tQ dm t1 i1 t2 i2 f1 f2 scope pos) 1 it acc env=(do
   standAt i2.pos
   match <- pyNext it with
   |none=>pure (.done .next)
   |some v =>
    letOwnedTupleGo t2 it v
    assign t2 env v
    let mut ok:=true
    for c in f2 do
     if ok then ok <- isTrue c env (eval c env)
    if ok then
     (do let _ <- call (.builtin "list.append") [acc,<- eval dm env])
    again (.compLoop (tQ dm t1 i1 t2 i2 f1 f2 scope pos) 1 it acc env)):=by rfl
section
variable {prog:Program}{w:World}{A:Around}{R:Result->Shared->Prop}{s:Shared}{dm t1 i1 t2 i2:Expr}{f1 f2:List Expr}{scope:Scope}{pos:Pos}{it acc:Value}{env:Env}
t%vI (I:Nat->Shared->Prop)
  (turn:∀n s,I n s->wpAny (model prog w) A (pyNext it) (fun r bh=>match r with
   |none=>R (.ok .next) bh
   |some v=>wpAny (model prog w) A (letOwnedTupleGo t2 it v) (fun _ iZ=>wpAny (model prog w) A (assign t2 env v) (fun _ eZ =>
     wpAny (model prog w) A (forIn f2 true fun c r=>if r=true then do let ok <- isTrue c env (eval c env);pure (ForInStep.yield ok) else pure (ForInStep.yield r)) (fun ok cU =>
      if ok=true then wpAny (model prog w) A (eval dm env) (fun x iq =>
       wpAny (model prog w) A (call (.builtin "list.append") [acc,x]) (fun _ nW=>∃m,m<n/\I m nW) (fun _ _=>False) iq) (fun _ _=>False) cU
      else ∃m,m<n/\I m cU) (fun _ _=>False) eZ) (fun _ _=>False) iZ) (fun _ _=>False) bh) (fun _ _=>False) s)
  (n:Nat) (h:I n s) :
  codeAny (model prog w) A (.compLoop (tQ dm t1 i1 t2 i2 f1 f2 scope pos) 1 it acc env) R s:=by
 r%codeAny_loop rfl I (fun n s hI=>?_) n h;show wpAny _ A ((compTurn (tQ dm t1 i1 t2 i2 f1 f2 scope pos) 1 it acc env).onRaise (fun x=>do noteFrame x env;theTreesLotGoes x)) _ _ s;r%wpAny_noted ?_;rw[m5];r%Za (wpAny_standAt (Za (wpAny_mono (turn n s hI) (fun r bh lY=>?_) fun _ _ h'=>h'.elim)));cases r with
 |none=>e%wpAny_pure lY
 |some v =>
  r%Za (wpAny_mono lY (fun _ iZ oG=>?_) fun _ _ h'=>h'.elim);r%Za (wpAny_mono oG (fun _ eZ oi=>Za (wpAny_mono oi (fun ok cU lX=>?_) fun _ _ h'=>h'.elim)) fun _ _ h'=>h'.elim);cases ok with
  |false=>e%wpAny_pure ⟨rfl,lX⟩
  |true =>
   e%Za (Za (wpAny_mono lX (fun x iq wn=>Za (wpAny_mono wn (fun _ nW wm=>wpAny_pure (wpAny_pure ⟨rfl,wm⟩)) fun _ _ h'=>h'.elim)) fun _ _ h'=>h'.elim))
t%vH (hs:∀x,foldedSetIterable i2 env x=pure x)(I:Nat->Shared->Prop)
  (turn:∀n s,I n s->wpAny (model prog w) A (pyNext it) (fun r bh=>match r with
   |none=>R (.ok .next) bh
   |some v=>wpAny (model prog w) A (letOwnedTupleGo t1 it v) (fun _ iZ=>wpAny (model prog w) A (assign t1 env v) (fun _ eZ =>
     wpAny (model prog w) A (forIn f1 true fun c r=>if r=true then do let ok <- isTrue c env (eval c env);pure (ForInStep.yield ok) else pure (ForInStep.yield r)) (fun ok cU =>
      if ok=true then wpAny (model prog w) A (eval i2 env) (fun x iq=>wpAny (model prog w) A (pyIter x) (fun RP nW =>
       codeAny (model prog w) A (.compStart (tQ dm t1 i1 t2 i2 f1 f2 scope pos) 1 RP acc env) (fun r nV=>r=.ok .next/\∃m,m<n/\I m nV) nW) (fun _ _=>False) iq) (fun _ _=>False) cU
      else ∃m,m<n/\I m cU) (fun _ _=>False) eZ) (fun _ _=>False) iZ) (fun _ _=>False) bh) (fun _ _=>False) s)
  (n:Nat) (h:I n s) :
  codeAny (model prog w) A (.compLoop (tQ dm t1 i1 t2 i2 f1 f2 scope pos) 0 it acc env) R s:=by
 r%codeAny_loop rfl I (fun n s hI=>?_) n h;show wpAny _ A ((compTurn (tQ dm t1 i1 t2 i2 f1 f2 scope pos) 0 it acc env).onRaise (fun x=>do noteFrame x env;theTreesLotGoes x)) _ _ s;r%wpAny_noted ?_;rw[pT];r%Za (wpAny_standAt (Za (wpAny_mono (turn n s hI) (fun r bh lY=>?_) fun _ _ h'=>h'.elim)));cases r with
 |none=>e%wpAny_pure lY
 |some v =>
  r%Za (wpAny_mono lY (fun _ iZ oG=>?_) fun _ _ h'=>h'.elim);r%Za (wpAny_mono oG (fun _ eZ oi=>Za (wpAny_mono oi (fun ok cU lX=>?_) fun _ _ h'=>h'.elim)) fun _ _ h'=>h'.elim);cases ok with
  |false=>e%wpAny_pure ⟨rfl,lX⟩
  |true =>
   r%Za (wpAny_mono lX (fun x iq wn=>Za (wpAny_standAt (Za (wpAny_of_eq (hs x) (Za (wpAny_holding (wpAny_mono wn (fun RP nW wm=>?_) fun _ _ h'=>h'.elim))))))) fun _ _ h'=>h'.elim);r%Za (wpAny_runOwn (codeAny_mono wm fun r nV BQ=>?_));o%⟨rfl,BQ⟩:=BQ;e%wpAny_pure ⟨rfl,BQ⟩
t%jk3
  (h0:codeAny (model prog w) A (.compLoop (tQ dm t1 i1 t2 i2 f1 f2 scope pos) 1 it acc env) R s)
  (h:wpAny (model prog w) A (pyIter it) (fun Oi s'=>codeAny (model prog w) A (.compLoop (tQ dm t1 i1 t2 i2 f1 f2 scope pos) 1 Oi acc env) R s')
   (notedBy (model prog w) A env fun x s'=>R (.error x) s') s) :
  codeAny (model prog w) A (.compStart (tQ dm t1 i1 t2 i2 f1 f2 scope pos) 1 it acc env) R s:=by
 r%codeAny_of_tree ?_;show wpAny _ _ ((compStart (tQ dm t1 i1 t2 i2 f1 f2 scope pos) 1 it acc env).onRaise (fun x=>do noteFrame x env;standAt theWindowsPlace)) _ _ s;r%wpAny_notedAt ?_;unfold compStart;show wpAny _ _ (ask >>= _) _ _ s;r%Za (wpAny_askSetting (wpAny_ite ?_));split
 .first
   |e%Za (wpAny_pure (wpAny_pure (And.intro rfl h0)))
   |e%wpAny_pure (And.intro rfl h0)
 .first
   |e%Za (wpAny_rule (Za (wpAny_standAt (Za (wpAny_mono h (fun Oi s' h'=>wpAny_pure (And.intro rfl h')) fun _ _ x=>x)))))
   |(r%Za (wpAny_rule ?_);show wpAny _ _ (standAt i2.pos >>= _) _ _ s;e%Za (wpAny_standAt (Za (wpAny_mono h (fun Oi s' h'=>wpAny_pure (And.intro rfl h')) fun _ _ x=>x))))
end
n%Wc (g:TG)(tt:TT)(te:TE)(J:It)(acc:Addr)(ao:St)(aE:Hp)(Z:St->Hp->Prop):Prop :=
 ∃W:Nat->Nat->St->Hp->Prop,(∃m,W 0 m ao aE)/\∀i m aD H',W i m aD H' ->
  (J.stop i H'/\Z aD H') \/
  (J.go i H'/\∃N:St->Hp->Prop,(∀dz H2,N dz H2->∃m',m'<m/\W (i+1) m' dz H2)/\∀x H2,J.xQ i H' x H2->g x aD H2 fun jz H3=>tt jz H3 fun b H4 =>
   if b=true then te jz H4 fun y H5=>∃ys,H5 acc=some (.lst ys)/\ys.length<sizeLine/\N jz (aK H5 acc (.lst (ys++[y]))) else N jz H4)
n%sE (g1:TG)(A2:TT)(HV:TI)(g2:TG)(A1:TT)(te:TE)(J:It)(acc:Addr)(ao:St)(aE:Hp)(Q:VK):Prop :=
 ∃W:Nat->Nat->St->Hp->Prop,(∃m,W 0 m ao (aK aE acc (.lst [])))/\∀i m aD H',W i m aD H' ->
  (J.stop i H'/\Q (.ref acc) H') \/
  (J.go i H'/\∃N:St->Hp->Prop,(∀dz H2,N dz H2->∃m',m'<m/\W (i+1) m' dz H2)/\∀x H2,J.xQ i H' x H2->g1 x aD H2 fun jz H3=>A2 jz H3 fun b H4 =>
   if b=true then HV jz H4 fun J2 H5=>Wc g2 A1 te J2 acc jz H5 N else N jz H4)
n%Lm (wi:TI)(g1:TG)(A2:TT)(HV:TI)(g2:TG)(A1:TT)(te:TE)(own:Nat)(ix:List Nat):TE:=fun σ H Q=>wi σ H fun J H1=>∀acc,H1 acc=none->sE g1 A2 HV g2 A1 te J acc (eX own ix σ) H1 Q
section
variable {X:Cx}{scope:Scope}{own cap:List Str}{ix:List Nat}{t1 i1 t2 i2 dm:Expr}{f1 f2:List Expr}{wi HV:TI}{g1 g2:TG}{A2 A1:TT}{te:TE}{pos:Pos}
t%xL {aa:List (Addr×Obj)}{σ:St}{H2:Hp}{s2:Shared}{it:Addr}{fp:List Addr}{tn:Nat->Heap->Prop}{J:It}{Q:VK}{RR:Value->Addr->Result->Shared->Prop}{E:Value->Shared->Prop}
  (B:aA X scope own cap ix) (hc:X.calm=true)
  (hb:∀C fp s H,PG (gl X scope C (own++cap) fp s H) t1 g1/\fH (gl X scope C (own++cap) fp s H) f1 A2/\PI (gl X scope C (own++cap) fp s H) t2 i2 HV/\PG (gl X scope C (own++cap) fp s H) t2 g2/\fH (gl X scope C (own++cap) fp s H) f2 A1/\PE (gl X scope C (own++cap) fp s H) dm te)
  (tU:∀(env:Env) x,foldedSetIterable i2 env x=pure x)
  (I2:Inv X aa σ H2 s2) (T:Turn X.prog X.w X.K t1 J fp it tn) (gP:tn 0 s2.heap) (Z5:∀b∈fp,cY X aa H2 b)
  (q:∀acc,H2 acc=none->sE g1 A2 HV g2 A1 te J acc (eX own.length ix σ) H2 Q)
  (JQ:∀D C H' s' m,Inv X aa σ H' s'->Q (.ref D) H'->s'.heap.Ns C m->cY X aa H' C->RR (.ref D) C (.ok .next) s') :
  wpAny (model X.prog X.w) X.A (newList []) (fun acc cU=>wpAny (model X.prog X.w) X.A (newFunctionEnv scope X.env.globals (et X.env scope.names []) [] X.env.qual none .none (some X.env)) (fun ou iq =>
   codeAny (model X.prog X.w) X.A (.compStart (tQ dm t1 i1 t2 i2 f1 f2 scope pos) 0 (.ref it) acc { ou with scope:=relabel scope X.env }) (RR acc ou.locals) iq) E cU) E s2:=by
 r%wpAny_newObj_type (gz ?_);have I3:Inv X aa σ (aK H2 s2.heap.objs.size (.lst [])) { s2 with heap:=s2.heap.push { cls:=.type "list",dict:=none,data:=.seq ([]:List Value).toArray } }:=I2.BM (its:=[]) (ys:=[]) (t':=s2.toks) .nil (Nat.zero_le _);o%⟨W,⟨m0,w0⟩,turn⟩:=q s2.heap.objs.size I2.fresh;generalize hD:s2.heap.objs.size=D at I3 w0 turn ⊢;have cN:∀b∈fp,b<D:=fun b bu=>by
  o%⟨o,e,_⟩:=T.obj 0 _ gP b bu;rw[<- hD];e%Heap.lt_size e
 generalize JA:({ s2 with heap:=s2.heap.push { cls:=.type "list",dict:=none,data:=.seq ([]:List Value).toArray } }:Shared)=s3 at I3 ⊢;have i9:∀b o,s2.heap.get? b=some o->s3.heap.get? b=some o:=fun b o e=>by rw[<- JA];e%Heap.get?_push_of_some _ e
 have f3:∀b∈fp,cY X aa (aK H2 D (.lst [])) b:=fun b bu=>⟨by rw[dH (Yd (cN b bu))];e%(Z5 b bu).1,(Z5 b bu).2⟩
 have o3:∀b∈fp,∃o,s3.heap.get? b=some o:=fun b bu=>let ⟨o,e,_⟩:=T.obj 0 _ gP b bu;⟨o,i9 b o e⟩
 have I4:=I3.block B f3 o3;have Bj:tn 0 (pushCells (s3.heap.push { cls:=.type "dict",data:=.dict #[] }) scope.names):=T.keep 0 _ _ gP fun b _ o e=>pushCells_keeps _ _ b o (Heap.get?_push_of_some _ (i9 b o e))
 o%⟨hg,Bv,ZF,ZH,Qh,he⟩:=hb s3.heap.objs.size fp s3 (aK H2 D (.lst []));generalize ip:gl X scope s3.heap.objs.size (own++cap) fp s3 (aK H2 D (.lst []))=X' at I4 hg Bv ZF ZH Qh he;have eP:X'.prog=X.prog:=by rw[<- ip];rfl
 have eW:X'.w=X.w:=by rw[<- ip];rfl
 have eK:X'.K=X.K:=by rw[<- ip];rfl
 have eA:X'.A=X.A:=by rw[<- ip];rfl
 have eE:X'.env=iH scope s3.heap.objs.size X.env:=by rw[<- ip];rfl
 have ex:X'.xe=fun _ _=>False:=by rw[<- ip];rfl
 have jT:X'.calm=true:=by rw[<- ip];e%hc
 have ir:∀{H':Hp},(∀b∈fp,H' b=none)->∀b∈fp,cY X' [] H' b:=fun hn b bu=>by
  subst ip;e%⟨hn b bu,(I4.ok.zH b bu).1,I4.ok.on b bu,.inl bu,(I4.ok.zH b bu).2,fun p hp=>absurd (show p∈([]:List (Addr×Obj)) from hp) i%⟩
 have og:∀s4:Shared,s4={ s3 with heap:=pushCells (s3.heap.push { cls:=.type "dict",data:=.dict #[] }) scope.names } ->
   codeAny (model X.prog X.w) X.A (.compLoop (tQ dm t1 i1 t2 i2 f1 f2 scope pos) 0 (.ref it) (.ref D) (iH scope s3.heap.objs.size X.env)) (RR (.ref D) s3.heap.objs.size) s4:=by
  rintro s4 rfl;r%vH (tU _) (fun n s'=>∃i aD H',Inv X' [] aD H' s'/\tn i s'.heap/\(∀b∈fp,H' b=none)/\W i n aD H') ?_ m0 ⟨0,_,_,I4,Bj,fun b bu=>(f3 b bu).1,w0⟩;rintro n s5 ⟨i,nN,H5,I5,nP,zG,w5⟩;rcases turn i n nN H5 w5 with ⟨stop,qn⟩ |⟨go,N,hN,step⟩
  .have:=T.done X' eP eW eK jT i [] s5 nN H5 (fun _ _=>False) I5 (ir zG) nP stop;rw[eA] at this;r%bi this fun r s6 ⟨hr,I6⟩=>?_
   subst hr;subst ip;have J6:Inv X aa σ H5 s6:=I3.qL (ch:=fp) I6.os I6.base I6.bp I6.bare fun b bu=>⟨(f3 b bu).2.2.2.1,(f3 b bu).2.1,(f3 b bu).2.2.2.2.1,(f3 b bu).2.2.2.2.2⟩
   o%⟨m,hn,_⟩:=I6.loc;e%JQ D _ H5 s6 m J6 qn hn (I3.jR (Ze _) I6.free)
  .have:=T.item X' eP eW eK jT i [] s5 nN H5 (fun _ _=>False) I5 (ir zG) nP go;rw[eA] at this;r%bi this fun r s6 ⟨u,hr,h6⟩=>?_
   subst hr;r%bi h6 fun _ s7 ⟨x,H7,I7,r7,y7,vU,JS⟩=>?_
   have J0:=I7.pinned (ir JS) (T.obj _ _ vU);have a1:=hg _ s7 nN H7 x u _ J0 r7 (step x H7 y7);rw[eP,eW,eA,eE,ex] at a1;r%bi a1 fun _ s8 ⟨vK,H8,I8,q8⟩=>?_
   have a2:=Bv _ s8 vK H8 _ I8 q8;rw[eP,eW,eA,eE,ex] at a2;r%bi a2 fun b s9 ⟨H9,I9,q9⟩=>?_
   have again:∀{s':Shared}{aD:St}{H':Hp},Inv X' ([]++eu fp s7.heap) aD H' s'->N aD H'->∃m,m<n/\∃i aD H',Inv X' [] aD H' s'/\tn i s'.heap/\(∀b∈fp,H' b=none)/\W i m aD H':=fun {s' aD H'} I' n'=>by
    o%⟨m',hm,w'⟩:=hN aD H' n';r%⟨m',hm,i+1,aD,H',I'.dv,T.keep _ _ _ vU fun b bu o e=>(I'.pin (b,o) (Zq _ (Zq _ (A7 bu e)))).1,fun b bu=>?_,w'⟩;o%⟨o,e,d⟩:=T.obj _ _ vU b bu;e%(I'.pin (b,o) (Zq _ (Zq _ (A7 bu e)))).2.1
   cases b with
   |false=>e%again I9 q9
   |true =>
    rw[if_pos rfl] at q9 ⊢;have a3:=ZF _ s9 vK H9 _ I9 q9;rw[eP,eW,eA,eE,ex] at a3;r%bi a3 fun v10 ND Z2=>bi Z2 fun Fb NZ Z1=>?_
    o%⟨RP,OV,Xs,J2,VX,Vy,J1,T2,Ps,Qo,W2,⟨m2,w2⟩,QD⟩:=Z1;subst Vy;have Cf:∀{H':Hp},(∀b∈OV,H' b=none)->∀b∈OV,cY X' ([]++eu fp s7.heap) H' b:=fun hn b bu=>⟨hn b bu,(Qo b bu).2⟩
    have IY:codeAny (model X.prog X.w) X.A (.compLoop (tQ dm t1 i1 t2 i2 f1 f2 scope pos) 1 (.ref RP) (.ref D) (iH scope s3.heap.objs.size X.env)) (fun r nV=>r=.ok .next/\∃m,m<n/\∃i aD H',Inv X' [] aD H' nV/\tn i nV.heap/\(∀b∈fp,H' b=none)/\W i m aD H') NZ:=by
     r%vI (fun n s'=>∃i aD H',Inv X' ([]++eu fp s7.heap) aD H' s'/\Xs i s'.heap/\(∀b∈OV,H' b=none)/\W2 i n aD H') ?_ m2 ⟨0,_,_,J1,Ps,fun b bu=>(Qo b bu).1,w2⟩;rintro n2 vN ⟨j,FJ,VW,I12,Pp,Qm,w12⟩;rcases QD j n2 FJ VW w12 with ⟨QO,qn2⟩ |⟨go2,N2,hN2,QP⟩
     .have:=T2.done X' rfl rfl rfl jT j _ vN FJ VW (fun _ _=>False) I12 (Cf Qm) Pp QO;rw[eP,eW,eA] at this;r%bi this fun r NC ⟨hr,I13⟩=>?_
      subst hr;e%⟨rfl,again I13 qn2⟩
     .have:=T2.item X' rfl rfl rfl jT j _ vN FJ VW (fun _ _=>False) I12 (Cf Qm) Pp go2;rw[eP,eW,eA] at this;r%bi this fun r NC ⟨u2,hr,h13⟩=>?_
      subst hr;r%bi h13 fun _ XA ⟨x2,H14,I14,r14,y14,Kj,Xa⟩=>?_
      have Xl:=I14.pinned (Cf Xa) (T2.obj _ _ Kj);have b1:=ZH _ XA FJ H14 x2 u2 _ Xl r14 (QP x2 H14 y14);rw[eP,eW,eA,eE,ex] at b1;r%bi b1 fun _ s15 ⟨FI,H15,I15,q15⟩=>?_
      have b2:=Qh _ s15 FI H15 _ I15 q15;rw[eP,eW,eA,eE,ex] at b2;r%bi b2 fun bb s16 ⟨H16,I16,T7⟩=>?_
      have DG:∀{s':Shared}{aD:St}{H':Hp},Inv X' (([]++eu fp s7.heap)++eu OV XA.heap) aD H' s'->N2 aD H'->∃m,m<n2/\∃i aD H',Inv X' ([]++eu fp s7.heap) aD H' s'/\Xs i s'.heap/\(∀b∈OV,H' b=none)/\W2 i m aD H':=fun {s' aD H'} I' n'=>by
       o%⟨m',hm,w'⟩:=hN2 aD H' n';r%⟨m',hm,j+1,aD,H',I'.dv,T2.keep _ _ _ Kj fun b bu o e=>(I'.pin (b,o) (Zq _ (Zq _ (A7 bu e)))).1,fun b bu=>?_,w'⟩;o%⟨o,e,d⟩:=T2.obj _ _ Kj b bu;e%(I'.pin (b,o) (Zq _ (Zq _ (A7 bu e)))).2.1
      cases bb with
      |false=>e%DG I16 T7
      |true =>
       rw[if_pos rfl] at T7 ⊢;have b3:=he _ s16 FI H16 _ I16 T7;rw[eP,eW,eA,eE,ex] at b3;r%bi b3 fun yv s17 ⟨y,H17,I17,r17,ys,Ol,hz,q17⟩=>?_
       have b4:=jL (X:=X') _ s17 FI H17 (.ref D) [y] (.ref D) [yv] (fun v H'=>v=.bO/\N2 FI H') I17 rfl (.cons r17 .nil) ⟨D,ys,y,rfl,rfl,Ol,hz,rfl,q17⟩;rw[eP,eW,eA,ex] at b4;r%bi b4 fun _ s18 ⟨_,H18,I18,_,_,q18⟩=>DG I18 q18
    have Iw:=T2.self X.A 0 NZ (fun Oi s'=>codeAny (model X.prog X.w) X.A (.compLoop (tQ dm t1 i1 t2 i2 f1 f2 scope pos) 1 Oi (.ref D) (iH scope s3.heap.objs.size X.env)) (fun r nV=>r=.ok .next/\∃m,m<n/\∃i aD H',Inv X' [] aD H' nV/\tn i nV.heap/\(∀b∈fp,H' b=none)/\W i m aD H') s') (notedBy (model X.prog X.w) X.A (iH scope s3.heap.objs.size X.env) fun x s'=>(Except.error x:Result)=.ok .next/\∃m,m<n/\∃i aD H',Inv X' [] aD H' s'/\tn i s'.heap/\(∀b∈fp,H' b=none)/\W i m aD H') Ps IY;rw[eP,eW] at Iw;e%jk3 IY Iw
 e%codeAny_compStart_list (og _ rfl) (T.self X.A 0 _ _ _ Bj (og _ rfl))
t%D7 (B:aA X scope own cap ix)(hc:X.calm=true)(hi:PI X t1 i1 wi)
  (hb:∀C fp s H,PG (gl X scope C (own++cap) fp s H) t1 g1/\fH (gl X scope C (own++cap) fp s H) f1 A2/\PI (gl X scope C (own++cap) fp s H) t2 i2 HV/\PG (gl X scope C (own++cap) fp s H) t2 g2/\fH (gl X scope C (own++cap) fp s H) f2 A1/\PE (gl X scope C (own++cap) fp s H) dm te)
  (hs:∀x,foldedSetIterable i1 X.env x=pure x:=by intro _;rfl) (tU:∀(env:Env) x,foldedSetIterable i2 env x=pure x:=by intro _ _;rfl):PE X (.ListComp dm [⟨t1,i1,f1,0⟩,⟨t2,i2,f2,0⟩] scope pos) (Lm wi g1 A2 HV g2 A1 te own.length ix):=by
 intro aa s σ H Q I h;rw[eval_ListComp];have has:∀x∈scope.names,x.2=.free->(X.env.cells.lookup x.1).isSome=true:=fun x hx hk=>by
  o%⟨c,e⟩:=I.ok.has x.1 (B.frees x hx hk);rw[e];rfl
 r%wpAny_comprehension_free (use:=none) rfl hs (Oh has) B.kind B.names ?_;show wpAny _ _ (eval i1 X.env) _ _ s;r%bi (hi aa s σ H _ I h) fun v s1 h1=>bi h1 fun Fb s2 h2=>?_
 o%⟨it,fp,tn,J,H2,e,I2,T,gP,f2,q⟩:=h2;subst e;r%xL (RR:=fun acc C=>compPost (model X.prog X.w) X.A X.xe none (EP X aa σ Q) acc C) B hc hb tU I2 T gP f2 q ?_;intro D C H' s' m I' q' hn fC;r%⟨m,hn,fun h' v4=>⟨.ref D,H',?_,rfl,q'⟩⟩;e%I'.turned (t':=s'.toks) (it:=C) (fun b o FE e=>(v4.2 b FE).trans e) fC.1 fC.2.1 fC.2.2.2.1 fC.2.2.2.2.1 fC.2.2.2.2.2
end
end L2
namespace L2
open PySem PySem.Spec PyProof.Rows KG
section
variable {te:TE}{acc a:Addr}{xs:List V}{cs:List (Option V)}{aE:Hp}{Q:VK}
n%NS (p q:Option V)(cs:List (Option V))(acc:Addr)(P:List V->Hp->Prop)(σ:St)(H:Hp):Prop:=(∃x2 x3,σ=p::q::x2::x3::cs)/\∃zs,H acc=some (.lst zs)/\P zs H
t%NS.of {p q u v:Option V}{P:List V->Hp->Prop}{H:Hp}{zs:List V}(h:H acc=some (.lst zs))(r:P zs H):NS p q cs acc P (p::q::u::v::cs) H:=⟨⟨_,_,rfl⟩,zs,h,r⟩
t%EK (c:Nat->Addr)(ys:Nat->List V)(R:Nat->Nat->List V->Hp->Prop)(hx:∀i,i<xs.length->xs[i]?=some (.ref (c i)))(h0:R 0 0 [] (aK aE acc (.lst [])))
  (hl:∀i j zs H,i<=xs.length->R i j zs H->aH K0 H a xs/\(i<xs.length->aH K0 H (c i) (ys i))) (lO:∀i j zs H H1,R i j zs H->ak H H1->R i j zs H1)
  (hs:∀i j y zs H,i<xs.length->(ys i)[j]?=some y->H acc=some (.lst zs)->R i j zs H->te (some (.int (i:Int))::some (.ref (c i))::some (.int (j:Int))::some y::cs) H fun v H5=>∃us,H5 acc=some (.lst us)/\us.length<sizeLine/\NS (some (.int (i:Int))) (some (.ref (c i))) cs acc (R i (j+1)) (some (.int (i:Int))::some (.ref (c i))::some (.int (j:Int))::some y::cs) (aK H5 acc (.lst (us++[v]))))
  (hn:∀i zs H,i<xs.length->R i (ys i).length zs H->R (i+1) 0 zs H) (hd:∀zs H,H acc=some (.lst zs)->R xs.length 0 zs H->Q (.ref acc) H) {x0 x1 x2 x3:Option V} :
  sE (BS K0 2 (oI (cF 0) (oI (cF 1) Gi))) zN (Jc K0 (x8 (mR 1) Kg)) (BS K0 2 (oI (cF 2) (oI (cF 3) Gi))) zN te (Fl K0 a) acc (x0::x1::x2::x3::cs) aE Q:=by
 r%⟨fun i m σ H=>m=xs.length-i/\i<=xs.length/\(∃x0 x1 x2 x3,σ=x0::x1::x2::x3::cs)/\∃zs,H acc=some (.lst zs)/\R i 0 zs H,⟨xs.length,by simp,Nat.zero_le _,⟨_,_,_,_,rfl⟩,[],cQ,h0⟩,?_⟩;rintro i m σ H ⟨rfl,hi,⟨x0,x1,x2,x3,rfl⟩,zs,hz,r⟩;have q:=(hl i 0 zs H hi r).1;by_cases cN:i<xs.length
 .refine .inr ⟨⟨xs,xs[i],q,by simp[cN]⟩,fun σ H=>(∃x0 x1 x2 x3,σ=x0::x1::x2::x3::cs)/\∃zs,H acc=some (.lst zs)/\R (i+1) 0 zs H,fun aD H' p=>⟨xs.length-(i+1),by omega,rfl,cN,p⟩,fun x H' y=>?_⟩;o%⟨pp,hp,rfl,Fc⟩:=y;o%⟨z,A8,rfl⟩:=Fc xs q;rw[hx i cN] at A8;have ez:z=.ref (c i):=(Option.some.inj A8).symm;subst ez;have s1:=(ak.refl H).new (o:=.tup [.int (i:Int),.ref (c i)]) hp;r%⟨pp,_,rfl,aH.of cQ,rfl,_,_,rfl,_,_,rfl,rfl,?_⟩;have r1:=lO i 0 zs H _ r s1;have YX:=s1 _ _ hz;generalize aK H pp (.tup [.int (i:Int),.ref (c i)])=H1 at s1 r1 YX ⊢;r%ut ?_;r%⟨_,rfl,c i,rfl,⟨_,(hl i 0 zs H1 hi r1).2 cN⟩,?_⟩;r%⟨fun j m σ H=>m=(ys i).length-j/\j<=(ys i).length/\(∃x2 x3,σ=some (.int (i:Int))::some (.ref (c i))::x2::x3::cs)/\∃zs,H acc=some (.lst zs)/\R i j zs H,⟨(ys i).length,by simp,Nat.zero_le _,⟨_,_,rfl⟩,zs,YX,r1⟩,?_⟩;rintro j m σ H2 ⟨rfl,hj,⟨x2,x3,rfl⟩,NT,YW,r2⟩;have q2:=(hl i j NT H2 hi r2).2 cN;by_cases Qd:j<(ys i).length
  .refine .inr ⟨⟨ys i,(ys i)[j],q2,by simp[Qd]⟩,NS (some (.int (i:Int))) (some (.ref (c i))) cs acc (R i (j+1)),fun aD H' p=>⟨(ys i).length-(j+1),by omega,rfl,Qd,p⟩,fun x H' y=>?_⟩;o%⟨XD,UB,rfl,WP⟩:=y;o%⟨z2,WO,rfl⟩:=WP (ys i) q2;have s2:=(ak.refl H2).new (o:=.tup [.int (j:Int),z2]) UB;r%⟨XD,_,rfl,aH.of cQ,rfl,_,_,rfl,_,_,rfl,rfl,?_⟩;have r3:=lO i j NT H2 _ r2 s2;have YV:=s2 _ _ YW;generalize aK H2 XD (.tup [.int (j:Int),z2])=H3 at s2 r3 YV ⊢;e%ut (hs i j z2 NT H3 cN WO YV r3)
  .have e:j=(ys i).length:=by omega
   subst e;e%.inl ⟨⟨ys i,q2,Ze _⟩,⟨_,_,_,_,rfl⟩,NT,YW,hn i NT H2 cN r2⟩
 .have e:i=xs.length:=by omega
  subst e;e%.inl ⟨⟨xs,q,Ze _⟩,hd zs H hz r⟩
end
end L2
namespace KM
open PySem L2 KG EX
n%cK:PyData->Bool
 |.tuple [.int t,.int u]=>decide (1<=u)&&decide (Int.gcd t u=1)&&decide (0<=t)
 |_=>false
n%cx (g:Nat):PyData->Bool
 |.tuple ds=>decide (ds.length=g)&&ds.all cK
 |_=>false
n%lV (n g:Nat):PyData->Bool
 |.tuple ds=>decide (ds.length=n)&&ds.all (cx g)
 |_=>false
t%qY {g:Nat}{d:PyData}(h:p6 d=false):cx g d=false:=by cases d<;>first |rfl |cases h
t%yY {n g:Nat}{d:PyData}(h:p6 d=false):lV n g d=false:=by cases d<;>first |rfl |cases h
t%qS {d:PyData}(h:aO d=false):cK d=false:=by
 unfold cK;split
 .have h':(_&&_)=false:=h;rw[h'];rfl
 .rfl
n%Pj (H:Hp)(zs:List V)(D:List (List Rat)):Prop:=zs.length=D.length/\∀(j:Nat) x,zs[j]?=some x->∃(a:Addr) (ys:List V) (qs:List Rat),D[j]?=some qs/\x=.ref a/\H a=some (.tup ys)/\lR H ys qs
t%Pj.az {H H':Hp}{zs:List V}{D:List (List Rat)}(h:Pj H zs D)(s:ak H H'):Pj H' zs D:=⟨h.1,fun j x hx=>by o%⟨a,ys,qs,e1,e2,e3,e4⟩:=h.2 j x hx;e%⟨a,ys,qs,e1,e2,s _ _ e3,e4.az s⟩⟩
structure Lc (H:Hp)(q:Addr)(zs:List V)(D:List (List Rat))(g:Nat):Prop where
 hq:H q=some (.tup zs)
 fr:Pj H zs D
 len:∀qs∈D,qs.length=g
 bd:∀qs∈D,∀z∈qs,Rb 100 z
 Vo:D.length<=6
n%qj (D:List (List Rat))(g:Nat):Rat:=cr (D.map fun qs=>qs.getD g 0)
n%ya:Sp:=fun vs H Q _=>∃(q:Addr) (zs:List V) (D:List (List Rat)) (g n:Nat),vs=[.ref q,.int (g:Int)]/\Lc H q zs D n/\g<n/\∀(r:Addr) (H':Hp),ak H H'->H' r=some (qO (qj D g))->Q (.ref r) H'
n%oS (am:List Int)(M:List (List Int))(D:List (List Rat))(n:Nat):Bool:=(List.range n).all fun g=>decide (qj D g=if has M g=true then ((am.getD g 0:Int):Rat) else 0)
n%jb (row qs:List Rat)(n:Nat):Rat:=cr ((List.range n).map fun g=>row.getD g 0*qs.getD g 0)
n%nt (ps:List Rat)(D:List (List Rat))(qs:List Rat)(n:Nat):Bool:=(List.range D.length).all fun i=>decide (jb (D.getD i []) qs n=ps.getD i 0)
n%fX (B:List (List Int))(D:List (List Rat))(i g:Nat):Bool:=decide ((D.getD i []).getD g 0=0)||(B.getD i []).contains (g:Int)
n%ji (B:List (List Int))(D:List (List Rat))(n:Nat):Bool:=(List.range D.length).all fun i=>(List.range n).all fun g=>fX B D i g
n%nv:Sp:=fun vs H Q _=>∃(pb q:Addr) (xb zs:List V) (B:List (List Int)) (D:List (List Rat)) (n:Nat),vs=[.ref pb,.ref q]/\H pb=some (.tup xb)/\rK H xb B/\Lc H q zs D n/\n<=6/\B.length=D.length/\∀H',ak H H'->Q (.bl (ji B D n)) H'
n%fZ (B:List (List Int))(D:List (List Rat))(n i j:Nat):List V:=((List.range i).flatMap fun i=>(List.range n).map fun g=>V.bl (fX B D i g))++(List.range j).map fun g=>V.bl (fX B D i g)
t%xG (B:List (List Int))(D:List (List Rat))(n i:Nat):fZ B D n i n=fZ B D n (i+1) 0:=by
 unfold fZ;rw[Yn,List.flatMap_append];simp
t%xF (B:List (List Int))(D:List (List Rat))(n i j:Nat):fZ B D n i (j+1)=fZ B D n i j++[V.bl (fX B D i j)]:=by
 unfold fZ;rw[Yn,Zs,List.append_assoc];rfl
t%AN (B:List (List Int))(D:List (List Rat))(n i j:Nat):(fZ B D n i j).length=i*n+j:=by
 unfold fZ;rw[Zn,Zb,List.length_range]
 congr 1
 induction i with
 |zero=>simp
 |succ i ih=>rw[Yn,List.flatMap_append,Zn,ih];simp[Nat.succ_mul]
t%AO (B:List (List Int))(D:List (List Rat))(n:Nat):(fZ B D n D.length 0).all tv=ji B D n:=by
 unfold fZ ji;rw[List.all_append,List.all_flatMap];simp only[List.range_zero,List.map_nil,List.all_nil,Bool.and_true,List.all_map];rfl
t%vF (B:List (List Int))(D:List (List Rat))(n i j:Nat):(fZ B D n i j).all du=true:=by
 unfold fZ;rw[List.all_append,List.all_flatMap];simp[List.all_map,Function.comp_def,du]
t%Em {q:Rat}:decide (V.int q.num=V.int 0)=decide (q=0):=by
 rw[decide_eq_decide];constructor
 .intro h;injection h with h;e%Rat.num_eq_zero.mp h
 .intro h;rw[h];rfl
n%bC (D:List (List Rat)):PyData:=.tuple (D.map fun qs=>.tuple (qs.map qD))
t%L7 {e:PyData}(h:cK e=true):∃q:Rat,e=qD q/\0<=q:=by
 unfold cK at h;split at h
 .rename_i t u;simp only[Zl,decide_eq_true_eq] at h;o%⟨⟨h1,h2⟩,h3⟩:=h;o%⟨q,e1,e2⟩:=C2 (t:=t) (u:=u) g% h2;e%⟨q,by unfold qD;rw[e1,e2],Rat.num_nonneg.mp g%⟩
 .cases h
t%yK:∀{es:List PyData},es.all cK=true->∃qs:List Rat,es=qs.map qD/\∀q∈qs,0<=q
 |[],_=>⟨[],rfl,fun q h=>nomatch h⟩
 |e::es,h=>by
  rw[List.all_cons,Zl] at h;o%⟨q,rfl,h1⟩:=L7 h.1;o%⟨qs,rfl,h2⟩:=yK h.2;r%⟨q::qs,rfl,fun z hz=>?_⟩;rcases Zf.mp hz with rfl |hz
  .exact h1
  .exact h2 z hz
n%dq (am:List Int)(ps qs:List Rat)(M:List (List Int))(D:List (List Rat))(n:Nat):Bool:=oS am M D n&&(ji (bA M qs) D n&&nt ps D qs n)
end KM
namespace L2
open PySem PySem.Spec PyProof.Rows KG
end L2
namespace KM
open PySem L2 KG EX
end KM
namespace PySem
open AutoSeq1 (wpAny_loadPart')
end PySem
namespace L2
open PySem PySem.Spec PyProof.Rows
section
variable {X:Cx}
end
end L2
namespace KM
open PySem L2 KG EX
t%uO:∀(a b:List Rat),cr (a++b)=cr a+cr b
 |[],b=>by rw[List.nil_append];show _=(0:Rat)+_;rw[Rat.zero_add]
 |q::a,b=>by rw[List.cons_append,mq,mq,uO a b,Rat.add_assoc]
n%eQ (D:List (List Rat))(i g:Nat):Rat:=(D.getD i []).getD g 0
t%vd (D:List (List Rat))(g:Nat):qj D g=cr ((List.range D.length).map fun i=>eQ D i g):=by
 unfold qj eQ
 congr 1
 conv=>lhs;rw[<- nI D [],Zi]
 rfl
t%G3 {q:Rat}(h:0<=q):cK (qD q)=true:=by
 show(decide ((1:Int)<=(q.den:Int))&&decide (Int.gcd q.num (q.den:Int)=1)&&decide (0<=q.num))=true;have h1:=lJ q;have h2:Int.gcd q.num (q.den:Int)=1:=by
  have:=q.reduced;unfold Nat.Coprime at this;rw[Int.gcd_eq_natAbs_gcd_natAbs];simpa using this
 rw[decide_eq_true (show(1:Int)<=(q.den:Int) by omega),decide_eq_true h2,decide_eq_true (Rat.num_nonneg.mpr h)];rfl
t%vc {D:List (List Rat)}{n g:Nat}(h1:D.length=n)(h2:∀r∈D,r.length=g)(h3:∀r∈D,∀z∈r,0<=z):lV n g (bC D)=true:=by
 show(decide ((D.map fun qs=>PyData.tuple (qs.map qD)).length=n)&&(D.map fun qs=>PyData.tuple (qs.map qD)).all (cx g))=true;rw[Zb,decide_eq_true h1,Bool.true_and,List.all_map,Zu];intro r hr;show(decide ((r.map qD).length=g)&&(r.map qD).all cK)=true;rw[Zb,decide_eq_true (h2 r hr),Bool.true_and,List.all_map,Zu];e%fun z hz=>G3 (h3 r hr z hz)
end KM
namespace EX
open PySem PySem.Spec PyProof.Rows
section
variable {M:Model}{A:Around}{E:Value->Shared->Prop}{s:Shared}{B:Heap}{env:Env}{outer:List Env}{L e C t:Addr}{Q:Unit->Shared->Prop}
end
end EX
namespace L2
open PySem PySem.Spec PyProof.Rows EX
section
variable {X:Cx}{scope:Scope}{own cap:List Str}{ix:List Nat}{tg iter dm:Expr}{fu:List Expr}{wi:TI}{g:TG}{tt:TT}{te:TE}{pos:Pos}
end
end L2
namespace PySem
section
variable {prog:Program}{w:World}{A:Around}{E:Value->Shared->Prop}{s:Shared}{z TI TO i1 i2 i3 l1 l2 l3:Addr}{k1 k2 k3:Nat}{xs ys us:Array Value}{x y u a b c:Value}
end
end PySem
namespace L2
open PySem PySem.Spec PyProof.Rows
section
variable {X:Cx}
end
end L2
namespace L2
open PySem PySem.Spec PyProof.Rows KG
section
variable {X:Cx}
end
end L2
namespace KM
open PySem L2 KG EX
t%sJ {D:List (List Rat)}(h:bv (bC D)=true):∀r∈D,∀z∈r,Rb 30 z:=by
 intro r hr z hz;have h1:=gg h (.tuple (r.map qD)) (Zh.mpr ⟨r,hr,rfl⟩);have h2:=gg h1 (qD z) (Zh.mpr ⟨z,hz,rfl⟩);have h3:=gg (ds:=[.int z.num,.int z.den]) h2;have a1:=h3 (.int z.num) i%;have a2:=h3 (.int z.den) i%;have b1:(decide (-1073741824<z.num)&&decide (z.num<1073741824))=true:=a1;have b2:(decide (-1073741824<(z.den:Int))&&decide ((z.den:Int)<1073741824))=true:=a2;simp only[Zl,decide_eq_true_eq] at b1 b2;constructor<;>(unfold Bd;omega)
end KM
namespace PySem
section
variable {prog:Program}{w:World}{A:Around}{E:Value->Shared->Prop}{s:Shared}{z TI TO i1 i2 l1 l2:Addr}{k1 k2:Nat}{xs ys:Array Value}{x y a b:Value}
end
end PySem
namespace L2
open PySem PySem.Spec PyProof.Rows
section
variable {X:Cx}
end
end L2
namespace KM
open PySem L2 KG EX
end KM
namespace MI
open PySem L2 KG EX KM
mutual
inductive cB (H:Hp):V->PyData->Prop
 |bO:cB H .bO .none
 |bl (c:Bool):cB H (.bl c) (.bool c)
 |int (i:Int):cB H (.int i) (.int i)
 |str (x:Str) (ok:(PyData.str x).canLay0=true):cB H (.str x) (.str x)
 |lst {a:Addr}{xs:List V}{ds:List PyData}:H a=some (.lst xs)->aP H xs ds->cB H (.ref a) (.list ds)
 |tup {a:Addr}{xs:List V}{ds:List PyData}:H a=some (.tup xs)->aP H xs ds->cB H (.ref a) (.tuple ds)
inductive aP (H:Hp):List V->List PyData->Prop
 |nil:aP H [] []
 |cons {x:V}{xs:List V}{d:PyData}{ds:List PyData}:cB H x d->aP H xs ds->aP H (x::xs) (d::ds)
end
mutual
theorem cB.az {H H':Hp}(k:ak H H'):∀{v:V}{d:PyData},cB H v d->cB H' v d
 |_,_,.bO=>.bO
 |_,_,.bl c=>.bl c
 |_,_,.int i=>.int i
 |_,_,.str x o=>.str x o
 |_,_,.lst h t=>.lst (k _ _ h) (aP.az k t)
 |_,_,.tup h t=>.tup (k _ _ h) (aP.az k t)
theorem aP.az {H H':Hp}(k:ak H H'):∀{vs:List V}{ds:List PyData},aP H vs ds->aP H' vs ds
 |_,_,.nil=>.nil
 |_,_,.cons h t=>.cons (cB.az k h) (aP.az k t)
end
mutual
theorem cB.dt {K:PySem.W.Frag}{H:Hp}:∀{v:V}{d:PyData},cB H v d->nj K H v d
 |_,_,.bO=>.bO
 |_,_,.bl c=>.bl c
 |_,_,.int i=>.int i
 |_,_,.str x o=>.str x o
 |_,_,.lst h t=>.lst (bz.of h) (aP.dt t)
 |_,_,.tup h t=>.tup (aH.of h) (aP.dt t)
theorem aP.dt {K:PySem.W.Frag}{H:Hp}:∀{vs:List V}{ds:List PyData},aP H vs ds->fJ K H vs ds
 |_,_,.nil=>.nil
 |_,_,.cons h t=>.cons (cB.dt h) (aP.dt t)
end
t%aP.len {H:Hp}:∀{vs:List V}{ds:List PyData},aP H vs ds->vs.length=ds.length
 |_,_,.nil=>rfl
 |_,_,.cons _ t=>by simp[aP.len t]
t%aP.app {H:Hp}:∀{vs ws:List V}{ds es:List PyData},aP H vs ds->aP H ws es->aP H (vs++ws) (ds++es)
 |_,_,_,_,.nil,g=>g
 |_,_,_,_,.cons h t,g=>.cons h (aP.app t g)
t%aP.take {H:Hp}:∀{vs:List V}{ds:List PyData}(n:Nat),aP H vs ds->aP H (vs.take n) (ds.take n)
 |_,_,0,_=>by simpa using aP.nil
 |_,_,n+1,.nil=>by simpa using aP.nil
 |_,_,n+1,.cons h t=>.cons h (aP.take n t)
t%aP.drop {H:Hp}:∀{vs:List V}{ds:List PyData}(n:Nat),aP H vs ds->aP H (vs.drop n) (ds.drop n)
 |_,_,0,h=>h
 |_,_,n+1,.nil=>by simpa using aP.nil
 |_,_,n+1,.cons h t=>aP.drop n t
t%aP.get {H:Hp}:∀{vs:List V}{ds:List PyData}{i:Nat}{d:PyData},aP H vs ds->ds[i]?=some d->∃x,vs[i]?=some x/\cB H x d
 |_,_,0,_,.cons h t,e=>⟨_,rfl,by rw[<- Option.some.inj e];e%h⟩
 |_,_,i+1,x,.cons h t,e=>by
  o%⟨d,h1,h2⟩:=aP.get (i:=i) (d:=x) t (by simpa using e);e%⟨d,by simpa using h1,h2⟩
mutual
def tP:PyData->Bool
 |.list _=>false
 |.dict _=>false
 |.tuple ds=>mU ds
 |_=>true
def mU:List PyData->Bool
 |[]=>true
 |d::ds=>tP d&&mU ds
end
mutual
theorem yA {b:Addr}{H g:Hp}(k:∀a xs,H a=some (.tup xs)->g a=some (.tup xs)):∀{v:V}{d:PyData},tP d=true->iU b H v d->cB g v d
 |_,_,_,.bO=>.bO
 |_,_,_,.bl c=>.bl c
 |_,_,_,.int i=>.int i
 |_,_,_,.str x o=>.str x o
 |_,_,n,.lst _ h t=>by cases n
 |_,_,n,.tup h t=>.tup (k _ _ h) (qQ k n t)
theorem qQ {b:Addr}{H g:Hp}(k:∀a xs,H a=some (.tup xs)->g a=some (.tup xs)):∀{vs:List V}{ds:List PyData},mU ds=true->bX b H vs ds->aP g vs ds
 |_,_,_,.nil=>.nil
 |_,_,n,.cons h t=>by
  have n':=(Zl _ _).mp n;e%.cons (yA k n'.1 h) (qQ k n'.2 t)
end
mutual
theorem cB.NW {b:Addr}{H:Hp}:∀{v:V}{d:PyData},tP d=true->cB H v d->iU b H v d
 |_,_,_,.bO=>.bO
 |_,_,_,.bl c=>.bl c
 |_,_,_,.int i=>.int i
 |_,_,_,.str x o=>.str x o
 |_,_,n,.lst h t=>by cases n
 |_,_,n,.tup h t=>.tup h (aP.NW n t)
theorem aP.NW {b:Addr}{H:Hp}:∀{vs:List V}{ds:List PyData},mU ds=true->aP H vs ds->bX b H vs ds
 |_,_,_,.nil=>.nil
 |_,_,n,.cons h t=>by
  have n':=(Zl _ _).mp n;e%.cons (cB.NW n'.1 h) (aP.NW n'.2 t)
end
inductive AV where
 |im (d:PyData) |own (k:Nat) |bag (j:Nat) |rF (ns:List Int)
m%aN:=List (Option (List AV))
m%iF:=List (Option AV)
structure Wd where
 eR:List Addr
 cM:List Addr
 cn:List (Addr×HO)
n%kC (w:Wd)(O:aN)(a:Addr):Prop:=a∈w.eR\/(∃o,(a,o)∈w.cn)\/∃(k:Nat) (c:List AV),w.cM[k]?=some a/\O[k]?=some (some c)
open Classical in
noncomputable def G (w:Wd)(O:aN)(H:Hp):Hp:=fun a=>if kC w O a then none else H a
t%iY {w:Wd}{O:aN}{H:Hp}{a:Addr}(h:¬ kC w O a):G w O H a=H a:=if_neg h
t%gD {w:Wd}{O:aN}{H:Hp}{a:Addr}{o:HO}(h:G w O H a=some o):H a=some o/\¬ kC w O a:=by
 unfold G at h;split at h
 .cases h
 .exact⟨h,by assumption⟩
n%jW (K:PySem.W.Frag)(w:Wd)(g:Hp)(v:V):AV->Prop
 |.im d=>cB g v d
 |.own k=>∃a,w.cM[k]?=some a/\v=.ref a
 |.bag j=>∃a,w.eR[j]?=some a/\v=.ref a
 |.rF ns=>∃a,v=.ref a/\bz K g a (ns.map V.int)
n%aZ (K:PySem.W.Frag)(w:Wd)(g:Hp)(vs:List V)(xs:List AV):Prop:=vs.length=xs.length/\∀(i:Nat) v x,vs[i]?=some v->xs[i]?=some x->jW K w g v x
structure aJ (K:PySem.W.Frag)(w:Wd)(O:aN)(H:Hp):Prop where
 len:w.cM.length=O.length
 nd:w.cM.Nodup
 al:∀a∈w.cM,∃o,H a=some o
 nb:∀a∈w.eR,a∉w.cM
 hn:(w.cn.map (·.1)).Nodup
 nh:∀p∈w.cn,p.1∉w.cM/\p.1∉w.eR/\H p.1=some p.2/\∀xs,p.2≠.tup xs
 bg:∀a∈w.eR,vS H a
 qe:∀(k:Nat) c,O[k]?=some (some c)->∃a vs,w.cM[k]?=some a/\H a=some (.lst vs)/\aZ K w (G w O H) vs c
structure mB (w:Wd)(O:aN)(H:Hp)(w':Wd)(O':aN)(H':Hp):Prop where
 bs:∃t,w'.eR=w.eR++t
 cM:∃t,w'.cM=w.cM++t
 hs:∃t,w'.cn=t++w.cn
 az:ak (G w O H) (G w' O' H')
structure ck (w:Wd)(O:aN)(H:Hp)(w':Wd)(O':aN)(H':Hp):Prop where
 ex:mB w O H w' O' H'
 cn:w'.cn=w.cn
t%mB.refl (w:Wd)(O:aN)(H:Hp):mB w O H w O H:=⟨⟨[],by simp⟩,⟨[],by simp⟩,⟨[],by simp⟩,ak.refl _⟩
t%mB.trans {w w1 w2:Wd}{O O1 O2:aN}{H H1 H2:Hp}(a:mB w O H w1 O1 H1)(b:mB w1 O1 H1 w2 O2 H2):mB w O H w2 O2 H2:=by
 o%⟨t,ht⟩:=a.cM;o%⟨u,hu⟩:=b.cM;o%⟨t',ht'⟩:=a.hs;o%⟨u',hu'⟩:=b.hs;o%⟨t2,Uv⟩:=a.bs;o%⟨u2,hu2⟩:=b.bs;e%⟨⟨t2++u2,by rw[hu2,Uv,List.append_assoc]⟩,⟨t++u,by rw[hu,ht,List.append_assoc]⟩,⟨u'++t',by rw[hu',ht',List.append_assoc]⟩,a.az.trans b.az⟩
t%ck.refl (w:Wd)(O:aN)(H:Hp):ck w O H w O H:=⟨mB.refl _ _ _,rfl⟩
t%ck.trans {w w1 w2:Wd}{O O1 O2:aN}{H H1 H2:Hp}(a:ck w O H w1 O1 H1)(b:ck w1 O1 H1 w2 O2 H2):ck w O H w2 O2 H2:=⟨a.ex.trans b.ex,b.cn.trans a.cn⟩
t%mB.at {w w1:Wd}{O O1:aN}{H H1:Hp}(e:mB w O H w1 O1 H1){k:Nat}{a:Addr}(h:w.cM[k]?=some a):w1.cM[k]?=some a:=by
 o%⟨t,ht⟩:=e.cM;rw[ht,Zr (Zd.mp h).1];e%h
t%jW.ex {K:PySem.W.Frag}{w w1:Wd}{O O1:aN}{H H1:Hp}(e:mB w O H w1 O1 H1){v:V}:∀{x:AV},jW K w (G w O H) v x->jW K w1 (G w1 O1 H1) v x
 |.im d,h=>by
  e%cB.az e.az h
 |.own k,h=>by
  o%⟨a,h1,h2⟩:=h;e%⟨a,e.at h1,h2⟩
 |.bag j,h=>by
  o%⟨a,h1,h2⟩:=h;o%⟨t,ht⟩:=e.bs;e%⟨a,by rw[ht,Zr (Zd.mp h1).1];e%h1,h2⟩
 |.rF ns,h=>by
  o%⟨a,h1,h2⟩:=h;e%⟨a,h1,KG.bz.az h2 e.az⟩
t%aZ.ex {K:PySem.W.Frag}{w w1:Wd}{O O1:aN}{H H1:Hp}(e:mB w O H w1 O1 H1){vs:List V}{xs:List AV}(h:aZ K w (G w O H) vs xs):aZ K w1 (G w1 O1 H1) vs xs:=⟨h.1,fun i v x h1 h2=>(h.2 i v x h1 h2).ex e⟩
t%aZ.nil {K:PySem.W.Frag}{w:Wd}{g:Hp}:aZ K w g [] []:=⟨rfl,fun i v x h=>by simp at h⟩
t%aZ.cons {K:PySem.W.Frag}{w:Wd}{g:Hp}{v:V}{x:AV}{vs:List V}{xs:List AV}(h:jW K w g v x)(hs:aZ K w g vs xs):aZ K w g (v::vs) (x::xs):=by
 r%⟨by simp[hs.1],fun i u y h1 h2=>?_⟩;cases i with
 |zero=>simp at h1 h2;rw[<- h1,<- h2];e%h
 |succ i=>e%hs.2 i u y (by simpa using h1) (by simpa using h2)
t%aZ.aS {K:PySem.W.Frag}{w:Wd}{g:Hp}{vs:List V}{x:AV}{xs:List AV}(h:aZ K w g vs (x::xs)):∃v us,vs=v::us/\jW K w g v x/\aZ K w g us xs:=by
 cases vs with
 |nil=>e%absurd h.1 i%
 |cons v us =>
  r%⟨v,us,rfl,h.2 0 v x rfl rfl,by have:=h.1;simp at this;e%this,fun i u y h1 h2=>h.2 (i+1) u y (by simpa using h1) (by simpa using h2)⟩
t%aZ.cc {K:PySem.W.Frag}{w:Wd}{g:Hp}{vs:List V}(h:aZ K w g vs []):vs=[]:=List.length_eq_zero_iff.mp h.1
t%aZ.app {K:PySem.W.Frag}{w:Wd}{g:Hp}{vs us:List V}{xs ys:List AV}(h:aZ K w g vs xs)(h':aZ K w g us ys):aZ K w g (vs++us) (xs++ys):=by
 r%⟨by simp[h.1,h'.1],fun i v x h1 h2=>?_⟩;rcases Zz i vs.length with y |y
 .rw[Zr y] at h1;rw[Zr (by rw[<- h.1];e%y)] at h2;e%h.2 i v x h1 h2
 .rw[Yp y] at h1;rw[Yp (by rw[<- h.1];e%y)] at h2;rw[<- h.1] at h2;e%h'.2 _ v x h1 h2
t%aZ.set {K:PySem.W.Frag}{w:Wd}{g:Hp}{vs:List V}{xs:List AV}{v:V}{x:AV}(h:aZ K w g vs xs)(hx:jW K w g v x)(j:Nat):aZ K w g (vs.set j v) (xs.set j x):=by
 r%⟨by simp[h.1],fun i u y h1 h2=>?_⟩;by_cases e:j=i
 .subst e;have hl:=(Zd.mp h1).1;rw[Yl] at hl;rw[Yf hl] at h1;rw[Yf (by rw[<- h.1];e%hl)] at h2;rw[<- Option.some.inj h1,<- Option.some.inj h2];e%hx
 .rw[Zw e] at h1 h2;e%h.2 i u y h1 h2
t%aZ.at {K:PySem.W.Frag}{w:Wd}{g:Hp}{vs:List V}{xs:List AV}{i:Nat}{x:AV}(h:aZ K w g vs xs)(hx:xs[i]?=some x):∃v,vs[i]?=some v/\jW K w g v x:=by
 have hl:=(Zd.mp hx).1;have hv:i<vs.length:=by rw[h.1];e%hl
 e%⟨vs[i],Zc hv,h.2 i _ x (Zc hv) hx⟩
t%aP.VC {K:PySem.W.Frag}{w:Wd}{g:Hp}:∀{vs:List V}{ds:List PyData},aP g vs ds->aZ K w g vs (ds.map .im)
 |_,_,.nil=>aZ.nil
 |_,_,.cons h t=>aZ.cons h (aP.VC t)
t%aZ.tr {K:PySem.W.Frag}{w:Wd}{g:Hp}:∀{ds:List PyData}{vs:List V},aZ K w g vs (ds.map .im)->aP g vs ds
 |[],_,h=>by rw[aZ.cc h];e%.nil
 |d::ds,_,h=>by
  o%⟨v,us,rfl,h1,h2⟩:=aZ.aS h;e%.cons h1 (aZ.tr h2)
n%bY (K:PySem.W.Frag)(w:Wd)(g:Hp)(σ:St)(sl:iF):Prop:=σ.length=sl.length/\∀(i:Nat) x,sl[i]?=some (some x)->∃v,σ[i]?=some (some v)/\jW K w g v x
t%bY.ex {K:PySem.W.Frag}{w w1:Wd}{O O1:aN}{H H1:Hp}(e:mB w O H w1 O1 H1){σ:St}{sl:iF}(h:bY K w (G w O H) σ sl):bY K w1 (G w1 O1 H1) σ sl :=
 ⟨h.1,fun i x hx=>by o%⟨v,h1,h2⟩:=h.2 i x hx;e%⟨v,h1,h2.ex e⟩⟩
t%bY.set {K:PySem.W.Frag}{w:Wd}{g:Hp}{σ:St}{sl:iF}(h:bY K w g σ sl){v:V}{x:AV}(hx:jW K w g v x)(j:Nat):bY K w g (σ.set j (some v)) (sl.set j (some x)):=by
 r%⟨by simp[h.1],fun i y h2=>?_⟩;by_cases e:j=i
 .subst e;have hl:=(Zd.mp h2).1;rw[Yl] at hl;rw[Yf hl] at h2;have hy:x=y:=by injection (Option.some.inj h2)
  e%⟨v,by rw[Yf (by rw[h.1];e%hl)],hy▸hx⟩
 .rw[Zw e] at h2;rw[Zw e];e%h.2 i y h2
t%bY.forget {K:PySem.W.Frag}{w:Wd}{g:Hp}{σ:St}{sl:iF}(h:bY K w g σ sl){o:Option V}(j:Nat):bY K w g (σ.set j o) (sl.set j none):=by
 r%⟨by simp[h.1],fun i y h2=>?_⟩;by_cases e:j=i
 .subst e;have hl:=(Zd.mp h2).1;rw[Yl] at hl;rw[Yf hl] at h2;cases Option.some.inj h2
 .rw[Zw e] at h2;rw[Zw e];e%h.2 i y h2
n%fz (own:Nat)(ix:List Nat)(sl:iF):iF:=List.replicate own none++ix.map fun i=>(sl[i]?).getD none
t%bY.blk {K:PySem.W.Frag}{w:Wd}{g:Hp}{σ:St}{sl:iF}(h:bY K w g σ sl)(own:Nat)(ix:List Nat):bY K w g (eX own ix σ) (fz own ix sl):=by
 r%⟨by simp[eX,fz],fun i x hx=>?_⟩;unfold fz at hx;unfold eX;rcases Zz i own with y |y
 .rw[Zr (by simpa using y)] at hx;rw[List.getElem?_replicate,if_pos y] at hx;cases Option.some.inj hx
 .rw[Yp (by simpa using y)] at hx ⊢;rw[List.length_replicate,Zg] at hx ⊢;cases hj:ix[i-own]? with
  |none=>rw[hj] at hx;cases hx
  |some j =>
   rw[hj] at hx;have Fd:(sl[j]?).getD none=some x:=Option.some.inj hx;have:sl[j]?=some (some x):=by
    cases hs:sl[j]? with
    |none=>rw[hs] at Fd;cases Fd
    |some o=>rw[hs] at Fd;e%congrArg some Fd
   o%⟨v,h1,h2⟩:=h.2 j x this;r%⟨v,?_,h2⟩;show some ((σ[j]?).getD none)=_;rw[h1];rfl
n%Zx (K:PySem.W.Frag)(QX:Addr->aN->Prop)(E:XK)(w:Wd)(O:aN)(H:Hp):Prop:=∀c O' w' H',QX c O'->mB w O H w' O' H'->aJ K w' O' H'->E (.ref c) none H'
structure nk (K:PySem.W.Frag)(QX:Addr->aN->Prop)(E:XK)(w:Wd)(O:aN)(H:Hp)(σ:St)(sl:iF):Prop where
 ro:aJ K w O H
 so:bY K w (G w O H) σ sl
 zx:Zx K QX E w O H
t%nk.ex {K:PySem.W.Frag}{QX:Addr->aN->Prop}{E:XK}{w w1:Wd}{O O1:aN}{H H1:Hp}{σ:St}{sl:iF}(c:nk K QX E w O H σ sl)(e:mB w O H w1 O1 H1)(r:aJ K w1 O1 H1):nk K QX E w1 O1 H1 σ sl :=
 ⟨r,c.so.ex e,fun k O' w' H' q e' r'=>c.zx k O' w' H' q (e.trans e') r'⟩
m%ME:=iF->aN->(AV->aN->Prop)->Prop
m%MT:=iF->aN->(Bool->aN->Prop)->Prop
m%MA:=iF->aN->(List AV->aN->Prop)->Prop
structure yw where
 nx:iF->aN->Prop
 rt:AV->aN->Prop
 bk:iF->aN->Prop:=fun _ _=>False
 ct:iF->aN->Prop:=fun _ _=>False
m%MS:=yw->iF->aN->Prop
section
variable (K:PySem.W.Frag)(QX:Addr->aN->Prop)(E:XK)
n%bR (M:ME):TE:=fun σ H Q=>∃w O sl Q0,nk K QX E w O H σ sl/\M sl O Q0/\∀x O' v w' H',Q0 x O'->ck w O H w' O' H'->aJ K w' O' H'->jW K w' (G w' O' H') v x->Q v H'
n%lG (M:MT):TT:=fun σ H Q=>∃w O sl Q0,nk K QX E w O H σ sl/\M sl O Q0/\∀c O' w' H',Q0 c O'->ck w O H w' O' H'->aJ K w' O' H'->Q c H'
n%pV (M:MA):TA:=fun σ H Q=>∃w O sl Q0,nk K QX E w O H σ sl/\M sl O Q0/\∀xs O' vs w' H',Q0 xs O'->ck w O H w' O' H'->aJ K w' O' H'->aZ K w' (G w' O' H') vs xs->Q vs H'
n%kA (M:MS):TS:=fun D σ H=>∃w O sl D0,nk K QX E w O H σ sl/\M D0 sl O /\
 (∀gO O' w' H' aD,D0.nx gO O'->nk K QX E w' O' H' aD gO->ck w O H w' O' H'->D.nx aD H') /\
 (∀gO O' w' H' aD,D0.bk gO O'->nk K QX E w' O' H' aD gO->ck w O H w' O' H'->D.bk aD H') /\
 (∀gO O' w' H' aD,D0.ct gO O'->nk K QX E w' O' H' aD gO->ck w O H w' O' H'->D.ct aD H') /\
 (∀x O' w' H' v,D0.rt x O'->ck w O H w' O' H'->aJ K w' O' H'->jW K w' (G w' O' H') v x->D.rt v H')
end
section
variable {K:PySem.W.Frag}{w:Wd}{O:aN}{H H':Hp}
t%aJ.all (r:aJ K w O H){a:Addr}(h:kC w O a):∃o,H a=some o:=by
 rcases h with h1 |⟨o,h1⟩ |⟨k,c,h1,h2⟩
 .obtain⟨c,d,e⟩:=r.bg _ h1;e%⟨_,e⟩
 .exact⟨_,(r.nh _ h1).2.2.1⟩
 .obtain⟨a',vs,e1,e2,_⟩:=r.qe k c h2;rw[h1] at e1;cases Option.some.inj e1;e%⟨_,e2⟩
t%aJ.fresh (r:aJ K w O H){a:Addr}(h:H a=none):¬ kC w O a:=fun z=>by o%⟨o,e⟩:=r.all z;rw[h] at e;cases e
t%aJ.az (r:aJ K w O H)(s:ak H H'):aJ K w O H'/\ck w O H w O H'/\∀a o,H a=none->H' a=some o->G w O H' a=some o:=by
 have sg:ak (G w O H) (G w O H'):=fun a o h=>by
  o%⟨h1,h2⟩:=gD h;rw[iY h2];e%s _ _ h1
 have e:ck w O H w O H':=⟨⟨⟨[],by simp⟩,⟨[],by simp⟩,⟨[],by simp⟩,sg⟩,rfl⟩;r%⟨⟨r.len,r.nd,fun a ha=>(let ⟨o,h⟩:=r.al a ha;⟨o,s _ _ h⟩),r.nb,r.hn,fun p hp=>⟨(r.nh p hp).1,(r.nh p hp).2.1,s _ _ (r.nh p hp).2.2.1,(r.nh p hp).2.2.2⟩,fun a ha=>vS.az (r.bg a ha) s,fun k c hk=>?_⟩,e,fun a o h1 h2=>?_⟩
 .obtain⟨a,vs,h1,h2,h3⟩:=r.qe k c hk;e%⟨a,vs,h1,s _ _ h2,h3.ex e.ex⟩
 .rw[iY (r.fresh h1)];e%h2
t%aJ.draw (r:aJ K w O H){b:Addr}(hb:b∈w.eR)(k:Kp b H H')(hB:vS H' b):aJ K w O H'/\ck w O H w O H'/\∀a o,H a=none->H' a=some o->G w O H' a=some o:=by
 have sg:ak (G w O H) (G w O H'):=fun a o h=>by
  o%⟨h1,h2⟩:=gD h;rw[iY h2];e%k _ _ (fun z=>h2 (Or.inl (z▸hb))) h1
 have e:ck w O H w O H':=⟨⟨⟨[],by simp⟩,⟨[],by simp⟩,⟨[],by simp⟩,sg⟩,rfl⟩;r%⟨⟨r.len,r.nd,fun a ha=>(let ⟨o,h⟩:=r.al a ha;⟨o,k _ _ (fun z=>r.nb b hb (z▸ha)) h⟩),r.nb,r.hn,fun p hp=>⟨(r.nh p hp).1,(r.nh p hp).2.1,k _ _ (fun z=>(r.nh p hp).2.1 (z▸hb)) (r.nh p hp).2.2.1,(r.nh p hp).2.2.2⟩,fun a ha=>?_,fun j c hk=>?_⟩,e,fun a o h1 h2=>?_⟩
 .by_cases z:a=b
  .rw[z];e%hB
  .obtain⟨x,y,q⟩:=r.bg a ha;e%⟨x,y,k _ _ z q⟩
 .obtain⟨a,vs,h1,h2,h3⟩:=r.qe j c hk;e%⟨a,vs,h1,k _ _ (fun z=>r.nb b hb (z▸Yc h1)) h2,h3.ex e.ex⟩
 .rw[iY (r.fresh h1)];e%h2
t%aJ.bag (r:aJ K w O H){p:Addr}{x y:Int}(hp:H p=none):aJ K { w with eR:=w.eR++[p] } O (aK H p (.lst [.int x,.int y]))/\ck w O H { w with eR:=w.eR++[p] } O (aK H p (.lst [.int x,.int y])):=by
 have om:∀a,kC { w with eR:=w.eR++[p] } O a->kC w O a\/a=p:=fun a h=>by
  rcases h with h |h
  .rcases Zp.mp h with h |h
   .exact .inl (.inl h)
   .exact .inr (Yi.mp h)
  .exact .inl (.inr h)
 have sg:ak (G w O H) (G { w with eR:=w.eR++[p] } O (aK H p (.lst [.int x,.int y]))):=fun a o h=>by
  o%⟨h1,h2⟩:=gD h;have dh:a≠p:=fun z=>by rw[z,hp] at h1;cases h1
  rw[iY (fun z=>(om a z).elim h2 dh),dH dh];e%h1
 have e:ck w O H { w with eR:=w.eR++[p] } O (aK H p (.lst [.int x,.int y])):=⟨⟨⟨[p],rfl⟩,⟨[],by simp⟩,⟨[],by simp⟩,sg⟩,rfl⟩;have Og:p∉w.cM:=fun z=>by o%⟨u,h⟩:=r.al p z;rw[hp] at h;cases h
 r%⟨⟨r.len,r.nd,fun a ha=>?_,fun a ha=>?_,r.hn,fun q hq=>?_,fun a ha=>?_,fun k c hk=>?_⟩,e⟩
 .obtain⟨u,h⟩:=r.al a ha;have dh:a≠p:=fun z=>Og (z▸ha)
  e%⟨u,by rw[dH dh];e%h⟩
 .rcases Zp.mp ha with h |h
  .exact r.nb a h
  .rw[Yi.mp h];e%Og
 .obtain⟨h1,h2,h3,h4⟩:=r.nh q hq;have dh:q.1≠p:=fun z=>by rw[z,hp] at h3;cases h3
  r%⟨h1,fun z=>?_,by rw[dH dh];e%h3,h4⟩;rcases Zp.mp z with h |h
  .exact h2 h
  .exact dh (Yi.mp h)
 .rcases Zp.mp ha with h |h
  .exact(r.bg a h).new hp
  .rw[Yi.mp h];e%⟨x,y,cQ⟩
 .obtain⟨a',vs,h1,h2,h3⟩:=r.qe k c hk;have dh:a'≠p:=fun z=>by rw[z,hp] at h2;cases h2
  e%⟨a',vs,h1,by rw[dH dh];e%h2,h3.ex e.ex⟩
t%aJ.new (r:aJ K w O H){p:Addr}{o:HO}(hp:H p=none):aJ K w O (aK H p o)/\ck w O H w O (aK H p o)/\G w O (aK H p o) p=some o:=by
 o%⟨h1,h2,h3⟩:=r.az ((ak.refl H).new (o:=o) hp);e%⟨h1,h2,h3 p o hp cQ⟩
t%kC.set {k:Nat}{c c':List AV}{a:Addr}(hk:O[k]?=some (some c)):kC w (O.set k (some c')) a↔kC w O a:=by
 have hl:=(Zd.mp hk).1;unfold kC;constructor
 .rintro(h |h |⟨j,d,h1,h2⟩)
  .exact .inl h
  .exact .inr (.inl h)
  .by_cases e:k=j
   .subst e;e%.inr (.inr ⟨k,c,h1,hk⟩)
   .rw[Zw e] at h2;e%.inr (.inr ⟨j,d,h1,h2⟩)
 .rintro(h |h |⟨j,d,h1,h2⟩)
  .exact .inl h
  .exact .inr (.inl h)
  .by_cases e:k=j
   .subst e;e%.inr (.inr ⟨k,c',h1,Yf hl⟩)
   .exact .inr (.inr ⟨j,d,h1,by rw[Zw e];e%h2⟩)
t%aJ.put (r:aJ K w O H){k:Nat}{c c':List AV}{a:Addr}{vs Nx:List V}(hk:O[k]?=some (some c))(ha:w.cM[k]?=some a)(hv:H a=some (.lst vs))(hc:aZ K w (G w O H) Nx c') :
  aJ K w (O.set k (some c')) (aK H a (.lst Nx))/\ck w O H w (O.set k (some c')) (aK H a (.lst Nx)):=by
 have hl:=(Zd.mp hk).1;have W3:kC w O a:=.inr (.inr ⟨k,c,ha,hk⟩);have sg:ak (G w O H) (G w (O.set k (some c')) (aK H a (.lst Nx))):=fun x o h=>by
  o%⟨h1,h2⟩:=gD h;have dh:x≠a:=fun z=>h2 (z▸W3)
  rw[iY (fun z=>h2 ((kC.set hk).mp z)),dH dh];e%h1
 have e:ck w O H w (O.set k (some c')) (aK H a (.lst Nx)):=⟨⟨⟨[],by simp⟩,⟨[],by simp⟩,⟨[],by simp⟩,sg⟩,rfl⟩;r%⟨⟨by rw[Yl];e%r.len,r.nd,fun x hx=>?_,r.nb,r.hn,fun p hp=>?_,fun b hb=>?_,fun j d hj=>?_⟩,e⟩
 .obtain⟨o,h⟩:=r.al x hx;by_cases z:x=a
  .subst z;e%⟨_,cQ⟩
  .exact⟨o,by rw[dH z];e%h⟩
 .obtain⟨h1,h2,h3,h4⟩:=r.nh p hp;have dh:p.1≠a:=fun z=>h1 (z▸Yc ha)
  e%⟨h1,h2,by rw[dH dh];e%h3,h4⟩
 .exact(r.bg b hb).acc (fun z=>r.nb b hb (z▸Yc ha))
 .by_cases ej:k=j
  .subst ej;rw[Yf hl] at hj;have hd:c'=d:=by injection (Option.some.inj hj)
   subst hd;e%⟨a,Nx,ha,cQ,hc.ex e.ex⟩
  .rw[Zw ej] at hj;o%⟨a',us,h1,h2,h3⟩:=r.qe j d hj;have dh:a'≠a:=fun z=>by
    subst z;e%ej ((List.getElem?_inj (Zd.mp ha).1 r.nd).mp (ha.trans h1.symm))
   e%⟨a',us,h1,by rw[dH dh];e%h2,h3.ex e.ex⟩
t%aJ.own (r:aJ K w O H){p:Addr}{c:List AV}{vs:List V}(hp:H p=none)(hc:aZ K w (G w O H) vs c) :
  aJ K { w with cM:=w.cM++[p] } (O++[some c]) (aK H p (.lst vs))/\ck w O H { w with cM:=w.cM++[p] } (O++[some c]) (aK H p (.lst vs))/\({ w with cM:=w.cM++[p] }:Wd).cM[O.length]?=some p:=by
 have om:∀x,kC { w with cM:=w.cM++[p] } (O++[some c]) x->kC w O x\/x=p:=fun x h=>by
  rcases h with h |h |⟨j,d,h1,h2⟩
  .exact .inl (.inl h)
  .exact .inl (.inr (.inl h))
  .change (w.cM++[p])[j]?=some x at h1
   rcases Zz j O.length with y |y
   .rw[Zr y] at h2;rw[Zr (by rw[r.len];e%y)] at h1;e%.inl (.inr (.inr ⟨j,d,h1,h2⟩))
   .have hj:=(Zd.mp h1).1;rw[Zn,r.len] at hj;have:j=O.length:=by simp at hj;omega
    subst this;rw[Yp (by rw[r.len];e%Ze _),r.len,Nat.sub_self] at h1;e%.inr (by simpa using h1.symm)
 have sg:ak (G w O H) (G { w with cM:=w.cM++[p] } (O++[some c]) (aK H p (.lst vs))):=fun x o h=>by
  o%⟨h1,h2⟩:=gD h;have dh:x≠p:=fun z=>by rw[z,hp] at h1;cases h1
  rw[iY (fun z=>(om x z).elim h2 dh),dH dh];e%h1
 have e:ck w O H { w with cM:=w.cM++[p] } (O++[some c]) (aK H p (.lst vs)):=⟨⟨⟨[],by simp⟩,⟨[p],rfl⟩,⟨[],by simp⟩,sg⟩,rfl⟩;have zE:(w.cM++[p])[O.length]?=some p:=by rw[<- r.len];simp
 have zB:p∉w.cM:=fun z=>by o%⟨o,h⟩:=r.al p z;rw[hp] at h;cases h
 r%⟨⟨by simp[r.len],?_,fun x hx=>?_,fun b hb=>?_,r.hn,fun q hq=>?_,fun b hb=>(r.bg b hb).new hp,fun j d hj=>?_⟩,e,zE⟩
 .show(w.cM++[p]).Nodup;rw[List.nodup_append];e%⟨r.nd,by simp,fun a ha b xY e=>by rw[Yi] at xY;rw[e,xY] at ha;e%zB ha⟩
 .rcases Zp.mp hx with y |y
  .obtain⟨o,h⟩:=r.al x y;have dh:x≠p:=fun z=>by rw[z,hp] at h;cases h
   e%⟨o,by rw[dH dh];e%h⟩
  .rw[Yi.mp y];e%⟨_,cQ⟩
 .intro z;rcases Zp.mp z with y |y
  .exact r.nb b hb y
  .exact(r.bg b hb).ne hp (Yi.mp y)
 .obtain⟨h1,h2,h3,h4⟩:=r.nh q hq;have dh:q.1≠p:=fun z=>by rw[z,hp] at h3;cases h3
  r%⟨fun z=>?_,h2,by rw[dH dh];e%h3,h4⟩;rcases Zp.mp z with y |y
  .exact h1 y
  .exact dh (Yi.mp y)
 .rcases Zz j O.length with y |y
  .rw[Zr y] at hj;o%⟨a',us,h1,h2,h3⟩:=r.qe j d hj;have dh:a'≠p:=fun z=>by rw[z,hp] at h2;cases h2
   e%⟨a',us,e.ex.at h1,by rw[dH dh];e%h2,h3.ex e.ex⟩
  .have p9:=(Zd.mp hj).1;rw[Zn] at p9;have:j=O.length:=by simp at p9;omega
   subst this;rw[Yp (Ze _),Nat.sub_self] at hj;have hd:c=d:=by injection (Option.some.inj hj)
   subst hd;e%⟨p,vs,zE,cQ,hc.ex e.ex⟩
t%aJ.hide (r:aJ K w O H){a:Addr}{o:HO}(ha:H a=none)(ho:∀xs,o≠.tup xs):aJ K { w with cn:=(a,o)::w.cn } O (aK H a o)/\mB w O H { w with cn:=(a,o)::w.cn } O (aK H a o):=by
 have om:∀x,kC { w with cn:=(a,o)::w.cn } O x->kC w O x\/x=a:=fun x h=>by
  rcases h with h |⟨u,h⟩ |h
  .exact .inl (.inl h)
  .rcases Zf.mp h with e |e
   .exact .inr (by injection e)
   .exact .inl (.inr (.inl ⟨u,e⟩))
  .exact .inl (.inr (.inr h))
 have sg:ak (G w O H) (G { w with cn:=(a,o)::w.cn } O (aK H a o)):=fun x u h=>by
  o%⟨h1,h2⟩:=gD h;have dh:x≠a:=fun z=>by rw[z,ha] at h1;cases h1
  rw[iY (fun z=>(om x z).elim h2 dh),dH dh];e%h1
 have e:mB w O H { w with cn:=(a,o)::w.cn } O (aK H a o):=⟨⟨[],by simp⟩,⟨[],by simp⟩,⟨[(a,o)],rfl⟩,sg⟩;have Og:a∉w.cM:=fun z=>by o%⟨u,h⟩:=r.al a z;rw[ha] at h;cases h
 r%⟨⟨r.len,r.nd,fun x hx=>?_,r.nb,?_,fun p hp=>?_,fun b hb=>(r.bg b hb).new ha,fun k c hk=>?_⟩,e⟩
 .obtain⟨u,h⟩:=r.al x hx;have dh:x≠a:=fun z=>Og (z▸hx)
  e%⟨u,by rw[dH dh];e%h⟩
 .show(a::w.cn.map (·.1)).Nodup;rw[Yh];r%⟨fun z=>?_,r.hn⟩;o%⟨p,hp,e⟩:=Zh.mp z;have:=(r.nh p hp).2.2.1;rw[e,ha] at this;cases this
 .rcases Zf.mp hp with e |e
  .subst e;e%⟨Og,fun hb=>(r.bg a hb).ne ha rfl,cQ,ho⟩
  .obtain⟨h1,h2,h3,h4⟩:=r.nh p e;have dh:p.1≠a:=fun z=>by rw[z,ha] at h3;cases h3
   e%⟨h1,h2,by rw[dH dh];e%h3,h4⟩
 .obtain⟨a',vs,h1,h2,h3⟩:=r.qe k c hk;have dh:a'≠a:=fun z=>by rw[z,ha] at h2;cases h2
  e%⟨a',vs,h1,by rw[dH dh];e%h2,h3.ex e⟩
t%kC.eq {a:Addr}{o o':HO}{h0:List (Addr×HO)}(hh:w.cn=(a,o)::h0){x:Addr}:kC { w with cn:=(a,o')::h0 } O x↔kC w O x:=by
 unfold kC;rw[hh];constructor
 .rintro(h |⟨u,h⟩ |h)
  .exact .inl h
  .rcases Zf.mp h with e |e
   .have ea:x=a:=by injection e
    subst ea;e%.inr (.inl ⟨o,Zo⟩)
   .exact .inr (.inl ⟨u,Zk _ e⟩)
  .exact .inr (.inr h)
 .rintro(h |⟨u,h⟩ |h)
  .exact .inl h
  .rcases Zf.mp h with e |e
   .have ea:x=a:=by injection e
    subst ea;e%.inr (.inl ⟨o',Zo⟩)
   .exact .inr (.inl ⟨u,Zk _ e⟩)
  .exact .inr (.inr h)
t%aJ.C0 (r:aJ K w O H){a:Addr}{o o':HO}{h0:List (Addr×HO)}(hh:w.cn=(a,o)::h0)(ho:∀xs,o'≠.tup xs):aJ K { w with cn:=(a,o')::h0 } O (aK H a o')/\ak (G w O H) (G { w with cn:=(a,o')::h0 } O (aK H a o')):=by
 o%⟨n1,n2,n3,n4⟩:=r.nh (a,o) (by rw[hh];e%Zo);have zB:=r.hn;rw[hh,Yj,Yh] at zB;have sg:ak (G w O H) (G { w with cn:=(a,o')::h0 } O (aK H a o')):=fun x u h=>by
  o%⟨h1,h2⟩:=gD h;have dh:x≠a:=fun z=>h2 (.inr (.inl ⟨o,by rw[hh,z];e%Zo⟩))
  rw[iY (fun z=>h2 ((kC.eq hh).mp z)),dH dh];e%h1
 r%⟨⟨r.len,r.nd,fun x hx=>?_,r.nb,?_,fun p hp=>?_,fun b hb=>(r.bg b hb).acc (fun z=>n2 (z▸hb)),fun k c hk=>?_⟩,sg⟩
 .obtain⟨u,h⟩:=r.al x hx;have dh:x≠a:=fun z=>n1 (z▸hx)
  e%⟨u,by rw[dH dh];e%h⟩
 .show(a::h0.map (·.1)).Nodup;rw[Yh];e%zB
 .rcases Zf.mp hp with e |e
  .subst e;e%⟨n1,n2,cQ,ho⟩
  .obtain⟨h1,h2,h3,h4⟩:=r.nh p (by rw[hh];e%Zk _ e);have dh:p.1≠a:=fun z=>zB.1 (Zh.mpr ⟨p,e,z⟩)
   e%⟨h1,h2,by rw[dH dh];e%h3,h4⟩
 .obtain⟨a',vs,h1,h2,h3⟩:=r.qe k c hk;have dh:a'≠a:=fun z=>n1 (z▸Yc h1)
  r%⟨a',vs,h1,by rw[dH dh];e%h2,h3.1,fun i v x e1 e2=>?_⟩;have:=h3.2 i v x e1 e2;cases x with
  |im d=>e%cB.az sg this
  |own j=>e%this
  |bag j=>e%this
  |rF ns=>o%⟨p,q1,q2⟩:=this;e%⟨p,q1,KG.bz.az q2 sg⟩
t%jW.mD {w w':Wd}{g g':Hp}(hb:w'.eR=w.eR)(ha:w'.cM=w.cM)(s:ak g g'){v:V}:∀{x:AV},jW K w g v x->jW K w' g' v x
 |.im d,h=>cB.az s h
 |.own k,h=>by o%⟨a,h1,h2⟩:=h;e%⟨a,by rw[ha];e%h1,h2⟩
 |.bag j,h=>by o%⟨a,h1,h2⟩:=h;e%⟨a,by rw[hb];e%h1,h2⟩
 |.rF ns,h=>by o%⟨p,q1,q2⟩:=h;e%⟨p,q1,KG.bz.az q2 s⟩
t%aJ.r9 (r:aJ K w O H){a:Addr}{o:HO}{h0:List (Addr×HO)}(hh:w.cn=(a,o)::h0):aJ K { w with cn:=h0 } O H/\ak (G w O H) (G { w with cn:=h0 } O H)/\G { w with cn:=h0 } O H a=some o:=by
 o%⟨n1,n2,n3,n4⟩:=r.nh (a,o) (by rw[hh];e%Zo);have zB:=r.hn;rw[hh,Yj,Yh] at zB;have om:∀x,kC { w with cn:=h0 } O x->kC w O x:=fun x h=>by
  rcases h with h |⟨u,h⟩ |h
  .exact .inl h
  .exact .inr (.inl ⟨u,by rw[hh];e%Zk _ h⟩)
  .exact .inr (.inr h)
 have sg:ak (G w O H) (G { w with cn:=h0 } O H):=fun x u h=>by
  o%⟨h1,h2⟩:=gD h;rw[iY (fun z=>h2 (om x z))];e%h1
 r%⟨⟨r.len,r.nd,r.al,r.nb,zB.2,fun p hp=>r.nh p (by rw[hh];e%Zk _ hp),r.bg,fun k c hk=>?_⟩,sg,?_⟩
 .obtain⟨a',vs,h1,h2,h3⟩:=r.qe k c hk;e%⟨a',vs,h1,h2,h3.1,fun i v x e1 e2=>jW.mD rfl rfl sg (h3.2 i v x e1 e2)⟩
 .rw[iY]
  .exact n3
  .rintro(h1 |⟨u,h⟩ |⟨j,d,h1,h2⟩)
   .exact n2 h1
   .exact zB.1 (Zh.mpr ⟨_,h,rfl⟩)
   .exact n1 (Yc h1)
t%aJ.Gs (r:aJ K w O H){a:Addr}{ys:List V}{c:List AV}{h0:List (Addr×HO)}(hh:w.cn=(a,.lst ys)::h0)(hc:aZ K w (G w O H) ys c) :
  aJ K { w with cn:=h0,cM:=w.cM++[a] } (O++[some c]) H/\ak (G w O H) (G { w with cn:=h0,cM:=w.cM++[a] } (O++[some c]) H)/\(w.cM++[a])[O.length]?=some a:=by
 o%⟨n1,n2,n3,n4⟩:=r.nh (a,.lst ys) (by rw[hh];e%Zo);have zB:=r.hn;rw[hh,Yj,Yh] at zB;have om:∀x,kC { w with cn:=h0,cM:=w.cM++[a] } (O++[some c]) x->kC w O x:=fun x h=>by
  rcases h with h |⟨u,h⟩ |⟨j,d,h1,h2⟩
  .exact .inl h
  .exact .inr (.inl ⟨u,by rw[hh];e%Zk _ h⟩)
  .change (w.cM++[a])[j]?=some x at h1
   rcases Zz j O.length with y |y
   .rw[Zr y] at h2;rw[Zr (by rw[r.len];e%y)] at h1;e%.inr (.inr ⟨j,d,h1,h2⟩)
   .have hj:=(Zd.mp h1).1;rw[Zn,r.len] at hj;have:j=O.length:=by simp at hj;omega
    subst this;rw[Yp (by rw[r.len];e%Ze _),r.len,Nat.sub_self] at h1;have ex:x=a:=by simpa using h1.symm
    e%.inr (.inl ⟨_,by rw[hh,ex];e%Zo⟩)
 have sg:ak (G w O H) (G { w with cn:=h0,cM:=w.cM++[a] } (O++[some c]) H):=fun x u h=>by
  o%⟨h1,h2⟩:=gD h;rw[iY (fun z=>h2 (om x z))];e%h1
 have zE:(w.cM++[a])[O.length]?=some a:=by rw[<- r.len];simp
 have av:∀{vs:List V}{xs:List AV},aZ K w (G w O H) vs xs->aZ K { w with cn:=h0,cM:=w.cM++[a] } (G { w with cn:=h0,cM:=w.cM++[a] } (O++[some c]) H) vs xs:=fun h=>⟨h.1,fun i v x e1 e2=>by
  have:=h.2 i v x e1 e2;cases x with
  |im d=>e%cB.az sg this
  |own j=>o%⟨p,q1,q2⟩:=this;e%⟨p,by show(w.cM++[a])[j]?=_;rw[Zr (Zd.mp q1).1];e%q1,q2⟩
  |bag j=>e%this
  |rF ns=>o%⟨p,q1,q2⟩:=this;e%⟨p,q1,KG.bz.az q2 sg⟩⟩
 r%⟨⟨by simp[r.len],?_,fun x hx=>?_,fun b hb z=>?_,zB.2,fun p hp=>?_,r.bg,fun k d hk=>?_⟩,sg,zE⟩
 .show(w.cM++[a]).Nodup;rw[List.nodup_append];e%⟨r.nd,by simp,fun x hx b xY e=>by rw[Yi] at xY;rw[e,xY] at hx;e%n1 hx⟩
 .rcases Zp.mp hx with y |y
  .exact r.al x y
  .rw[Yi.mp y];e%⟨_,n3⟩
 .rcases Zp.mp z with y |y
  .exact r.nb b hb y
  .exact n2 (Yi.mp y▸hb)
 .obtain⟨h1,h2,h3,h4⟩:=r.nh p (by rw[hh];e%Zk _ hp);r%⟨fun z=>?_,h2,h3,h4⟩;rcases Zp.mp z with y |y
  .exact h1 y
  .exact zB.1 (Zh.mpr ⟨p,hp,Yi.mp y⟩)
 .rcases Zz k O.length with y |y
  .rw[Zr y] at hk;o%⟨a',vs,h1,h2,h3⟩:=r.qe k d hk;e%⟨a',vs,by show(w.cM++[a])[k]?=_;rw[Zr (Zd.mp h1).1];e%h1,h2,av h3⟩
  .have p9:=(Zd.mp hk).1;rw[Zn] at p9;have:k=O.length:=by simp at p9;omega
   subst this;rw[Yp (Ze _),Nat.sub_self] at hk;have hd:c=d:=by injection (Option.some.inj hk)
   subst hd;e%⟨a,ys,zE,n3,av hc⟩
t%aJ.j4 (r:aJ K w O H):∀a xs,H a=some (.tup xs)->G w O H a=some (.tup xs):=by
 intro a xs h;rw[iY]
 .exact h
 .rintro(h1 |⟨o,h1⟩ |⟨j,d,h1,h2⟩)
  .obtain⟨c,d,e⟩:=r.bg _ h1;rw[h] at e;cases e
  .obtain⟨_,_,h3,h4⟩:=r.nh _ h1;rw[h] at h3;e%h4 xs (Option.some.inj h3).symm
  .obtain⟨a',vs,e1,e2,_⟩:=r.qe j d h2;rw[h1] at e1;cases Option.some.inj e1;rw[h] at e2;cases e2
end
section
variable {K:PySem.W.Frag}{QX:Addr->aN->Prop}{E:XK}{X:Cx}{w:Wd}{O:aN}{H:Hp}
t%PE.imp {e:Expr}{t t':TE}(h:PE X e t)(i:∀σ H Q,t' σ H Q->t σ H Q):PE X e t':=fun aa s σ H Q I q=>h aa s σ H Q I (i σ H Q q)
t%PT.imp {e:Expr}{t t':TT}(h:PT X e t)(i:∀σ H Q,t' σ H Q->t σ H Q):PT X e t':=fun aa s σ H Q I q=>h aa s σ H Q I (i σ H Q q)
t%PW.imp {e:Expr}{t t':TT}(h:PW X e t)(i:∀σ H Q,t' σ H Q->t σ H Q):PW X e t':=fun wh aa s σ H Q I q=>h wh aa s σ H Q I (i σ H Q q)
t%PA.imp {es:List Expr}{t t':TA}(h:PA X es t)(i:∀σ H Q,t' σ H Q->t σ H Q):PA X es t':=fun p aa s σ H Q I q=>h p aa s σ H Q I (i σ H Q q)
t%PS.imp {st:Stmt}{t t':TS}(h:PS X st t)(i:∀D σ H,t' D σ H->t D σ H):PS X st t':=fun aa s σ H D I q=>h aa s σ H D I (i D σ H q)
t%iM.imp {st:List Stmt}{t t':TS}(h:iM X st t)(i:∀D σ H,t' D σ H->t D σ H):iM X st t':=fun aa s σ H D I q=>h aa s σ H D I (i D σ H q)
t%d7 {v:V}{ds:List PyData}(h:cB (G w O H) v (.tuple ds)):∃a xs,v=.ref a/\H a=some (.tup xs)/\aP (G w O H) xs ds:=by
 cases h with |tup h1 h2=>e%⟨_,_,rfl,(gD h1).1,h2⟩
t%gZ {v:V}{ds:List PyData}(h:cB (G w O H) v (.list ds)):∃a xs,v=.ref a/\H a=some (.lst xs)/\aP (G w O H) xs ds:=by
 cases h with |lst h1 h2=>e%⟨_,_,rfl,(gD h1).1,h2⟩
t%lH {g:Hp}{v:V}{i:Int}(h:cB g v (.int i)):v=.int i:=by cases h;rfl
t%um {g:Hp}{v:V}{i:Bool}(h:cB g v (.bool i)):v=.bl i:=by cases h;rfl
t%Ji {g:Hp}{v:V}(h:cB g v .none):v=.bO:=by cases h;rfl
t%ka {g:Hp}:∀{ns:List Int}{vs:List V},aP g vs (ns.map .int)->vs=ns.map V.int
 |[],_,h=>by cases h;rfl
 |n::ns,_,h=>by
  cases h with |cons h1 h2=>rw[lH h1,ka h2];rfl
t%CN {g:Hp}:∀{ns:List Bool}{vs:List V},aP g vs (ns.map .bool)->vs=ns.map V.bl
 |[],_,h=>by cases h;rfl
 |n::ns,_,h=>by
  cases h with |cons h1 h2=>rw[um h1,CN h2];rfl
t%jD (r:aJ K w O H){p:Addr}{xs:List V}{ds:List PyData}(hp:H p=none)(h:aP (G w O H) xs ds) :
  aJ K w O (aK H p (.tup xs))/\ck w O H w O (aK H p (.tup xs))/\cB (G w O (aK H p (.tup xs))) (.ref p) (.tuple ds):=by
 o%⟨r1,e1,g1⟩:=r.new (o:=.tup xs) hp;e%⟨r1,e1,.tup g1 (aP.az e1.ex.az h)⟩
t%kT (r:aJ K w O H){p:Addr}{xs:List V}{ds:List PyData}(hp:H p=none)(h:aP (G w O H) xs ds) :
  aJ K w O (aK H p (.lst xs))/\ck w O H w O (aK H p (.lst xs))/\cB (G w O (aK H p (.lst xs))) (.ref p) (.list ds):=by
 o%⟨r1,e1,g1⟩:=r.new (o:=.lst xs) hp;e%⟨r1,e1,.lst g1 (aP.az e1.ex.az h)⟩
t%jM (r:aJ K w O H){p:Addr}{xs:List V}{ds:List PyData}{H':Hp}(s:ak H H')(hp:H' p=some (.tup xs))(h:aP (G w O H) xs ds) :
  aJ K w O H'/\ck w O H w O H'/\cB (G w O H') (.ref p) (.tuple ds):=by
 o%⟨r1,e1,g1⟩:=r.az s;e%⟨r1,e1,.tup (r1.j4 _ _ hp) (aP.az e1.ex.az h)⟩
n%ag (i:Nat):ME:=fun sl O Q=>match sl[i]? with
 |some (some x)=>Q x O
 |_=>False
t%ai {i:Nat}{e:Expr}(h:PE X e (mR i)):PE X e (bR K QX E (ag i)):=PE.imp h fun σ H Q ⟨w,O,sl,Q0,c,m,q⟩=>by
 unfold ag at m;split at m
 .rename_i x hx;o%⟨v,h1,h2⟩:=c.so.2 i x hx;e%⟨v,h1,q x O v w H m (ck.refl _ _ _) c.ro h2⟩
 .exact m.elim
n%mC (d:PyData):ME:=fun _ O Q=>Q (.im d) O
t%Ga {v:V}{d:PyData}{e:Expr}(h:PE X e (tC v))(hv:∀g,cB g v d):PE X e (bR K QX E (mC d)):=PE.imp h fun σ H Q ⟨w,O,sl,Q0,c,m,q⟩=>q _ O v w H m (ck.refl _ _ _) c.ro (hv _)
t%bJ {i j pos}:PE X (.Constant (.int i) j pos) (bR K QX E (mC (.int i))):=Ga bE fun _=>.int _
t%pX {i j pos}:PE X (.Constant (.bool i) j pos) (bR K QX E (mC (.bool i))):=Ga iG fun _=>.bl _
t%oX {j pos}:PE X (.Constant .none j pos) (bR K QX E (mC .none)):=Ga wP fun _=>.bO
t%oW {x j pos}(h:(PyData.str x).canLay0=true:=by decide+kernel):PE X (.Constant (.str x) j pos) (bR K QX E (mC (.str x))):=Ga sh fun _=>.str _ h
n%ah:MA:=fun _ O Q=>Q [] O
n%ae (Me:ME)(Ms:MA):MA:=fun sl O Q=>Me sl O fun x O1=>Ms sl O1 fun xs O2=>Q (x::xs) O2
t%aB:PA X [] (pV K QX E ah):=PA.imp bK fun σ H Q ⟨w,O,sl,Q0,c,m,q⟩=>q [] O [] w H m (ck.refl _ _ _) c.ro aZ.nil
t%au {e:Expr}{es:List Expr}{Me:ME}{Ms:MA}(he:PE X e (bR K QX E Me))(hr:PA X es (pV K QX E Ms))(hs:x%(starEach (e::es) X.env=(false,eval e X.env)::starEach es X.env)):PA X (e::es) (pV K QX E (ae Me Ms)) :=
 PA.imp (aR he hr hs) fun σ H Q ⟨w,O,sl,Q0,c,m,q⟩=>⟨w,O,sl,_,c,m,fun x O1 v w1 H1 h1 e1 r1 a1=>⟨w1,O1,sl,_,c.ex e1.ex r1,h1,fun xs O2 vs w2 H2 h2 e2 r2 a2=>q _ O2 _ w2 H2 h2 (e1.trans e2) r2 (aZ.cons (a1.ex e2.ex) a2)⟩⟩
n%Fw:List AV->Option (List PyData)
 |[]=>some []
 |.im d::xs=>match Fw xs with
  |some ds=>some (d::ds)
  |none=>none
 |_::_=>none
t%wX:∀{xs:List AV}{ds:List PyData},Fw xs=some ds->xs=ds.map .im
 |[],_,h=>by cases h;rfl
 |.im d::xs,ds,h=>by
  unfold Fw at h;split at h
  .rename_i es he;cases h;rw[wX he];rfl
  .cases h
 |.own _::_,_,h=>by cases h
 |.bag _::_,_,h=>by cases h
 |.rF _::_,_,h=>by cases h
n%fw (Ms:MA):ME:=fun sl O Q=>Ms sl O fun xs O1=>match Fw xs with
 |some ds=>ds.length<=sizeLine/\Q (.im (.tuple ds)) O1
 |none=>False
n%iu (Ms:MA):ME:=fun sl O Q=>Ms sl O fun xs O1=>match Fw xs with
 |some ds=>ds.length<=sizeLine/\Q (.im (.list ds)) O1
 |none=>False
n%wg (Ms:MA):ME:=fun sl O Q=>Ms sl O fun xs O1=>xs.length<=sizeLine/\Q (.own O1.length) (O1++[some xs])
t%nR {es:List Expr}{Ms:MA}{x1}{pos:Pos}(h:PA X es (pV K QX E Ms)):PE X (.Tuple es x1 pos) (bR K QX E (fw Ms)):=PE.imp (gG h) fun σ H Q ⟨w,O,sl,Q0,c,m,q⟩=>⟨w,O,sl,_,c,m,fun xs O1 vs w1 H1 h1 e1 r1 a1=>by
 split at h1
 .rename_i ds hd;have hx:=wX hd;subst hx;r%⟨by rw[a1.1,Zb];e%h1.1,fun p hp=>?_⟩;o%⟨r2,e2,t2⟩:=jD r1 hp (aZ.tr a1);e%q _ O1 _ w1 _ h1.2 (e1.trans e2) r2 t2
 .exact h1.elim⟩
t%rG {es:List Expr}{Ms:MA}{pos:Pos}(h:PA X es (pV K QX E Ms)):PE X (.List es pos) (bR K QX E (iu Ms)):=PE.imp (gI h) fun σ H Q ⟨w,O,sl,Q0,c,m,q⟩=>⟨w,O,sl,_,c,m,fun xs O1 vs w1 H1 h1 e1 r1 a1=>by
 split at h1
 .rename_i ds hd;have hx:=wX hd;subst hx;r%⟨by rw[a1.1,Zb];e%h1.1,fun p hp=>?_⟩;o%⟨r2,e2,t2⟩:=kT r1 hp (aZ.tr a1);e%q _ O1 _ w1 _ h1.2 (e1.trans e2) r2 t2
 .exact h1.elim⟩
t%mj {es:List Expr}{Ms:MA}{pos:Pos}(h:PA X es (pV K QX E Ms)):PE X (.List es pos) (bR K QX E (wg Ms)):=PE.imp (gI h) fun σ H Q ⟨w,O,sl,Q0,c,m,q⟩=>⟨w,O,sl,_,c,m,fun xs O1 vs w1 H1 h1 e1 r1 a1=>by
 r%⟨by rw[a1.1];e%h1.1,fun p hp=>?_⟩;o%⟨r2,e2,t2⟩:=r1.own hp a1;e%q _ _ _ _ _ h1.2 (e1.trans e2) r2 ⟨p,t2,rfl⟩⟩
m%ni:=aN->AV->AV->(AV->aN->Prop)->Prop
m%vR:=aN->List AV->(AV->aN->Prop)->Prop
n%rL (K:PySem.W.Frag)(r:R2)(f:ni):Prop:=∀(w:Wd) (O:aN) (H:Hp) (v u:V) (x y:AV) (P:AV->aN->Prop) (Q:VK),aJ K w O H->jW K w (G w O H) v x->jW K w (G w O H) u y->f O x y P ->
 (∀z q O' w' H',P q O'->ck w O H w' O' H'->aJ K w' O' H'->jW K w' (G w' O' H') z q->Q z H')->r v u H Q
n%xZ (K:PySem.W.Frag)(r:List V->Hp->VK->Prop)(f:vR):Prop:=∀(w:Wd) (O:aN) (H:Hp) (vs:List V) (xs:List AV) (P:AV->aN->Prop) (Q:VK),aJ K w O H->aZ K w (G w O H) vs xs->f O xs P ->
 (∀z q O' w' H',P q O'->ck w O H w' O' H'->aJ K w' O' H'->jW K w' (G w' O' H') z q->Q z H')->r vs H Q
n%aG (f:ni)(Ma Mb:ME):ME:=fun sl O Q=>Ma sl O fun x O1=>Mb sl O1 fun y O2=>f O2 x y Q
n%cL (f:vR)(Ms:MA):ME:=fun sl O Q=>Ms sl O fun xs O1=>f O1 xs Q
t%yo {r:R2}{f:ni}{Ma Mb:ME}(lk:rL K r f):∀σ H Q,bR K QX E (aG f Ma Mb) σ H Q->Fn r (bR K QX E Ma) (bR K QX E Mb) σ H Q :=
 fun σ H Q ⟨w,O,sl,Q0,c,m,q⟩=>⟨w,O,sl,_,c,m,fun x O1 v w1 H1 h1 e1 r1 a1=>⟨w1,O1,sl,_,c.ex e1.ex r1,h1,fun y O2 u w2 H2 h2 e2 r2 a2 =>
  lk w2 O2 H2 v u x y _ Q r2 (a1.ex e2.ex) a2 h2 fun z z' O3 w3 H3 h3 e3 r3 a3=>q _ O3 z w3 H3 h3 ((e1.trans e2).trans e3) r3 a3⟩⟩
t%qG {op:Operator}{r:R2}{f:ni}{Ma Mb:ME}{a b:Expr}{pos:Pos}(ho:eO X (binaryOp op) r)(lk:rL K r f)(ha:PE X a (bR K QX E Ma))(hb:PE X b (bR K QX E Mb)):PE X (.BinOp a op b pos) (bR K QX E (aG f Ma Mb)):=PE.imp (cT ho ha hb) (yo lk)
t%Rk {r:R2}{f:ni}{Ma Mb:ME}{a b:Expr}{pos:Pos}(ho:zK X r)(lk:rL K r f)(ha:PE X a (bR K QX E Ma))(hb:PE X b (bR K QX E Mb))(hs:tI b:=by e%fun _ _=>rfl):PE X (.Subscript a b pos) (bR K QX E (aG f Ma Mb)):=PE.imp (cZ ho ha hb hs) (yo lk)
t%eU {op:CmpOp}{r:R2}{f:ni}{Ma Mb:ME}{a b:Expr}{pos:Pos}(ho:eO X (compareOp op) r)(lk:rL K r f)(ha:PE X a (bR K QX E Ma))(hb:PE X b (bR K QX E Mb))(hm:behindInMarks op b=false):PE X (.Compare a [op] [b] pos) (bR K QX E (aG f Ma Mb)):=PE.imp (vY ho ha hb hm) (yo lk)
t%ft {x:Str}{id:String}{e:Expr}{es:List Expr}{p pos:Pos}{r:List V->Hp->VK->Prop}{f:vR}{Ms:MA}(hc:cg X (.builtin id) r)(lk:xZ K r f)(hg:Gl X x)(hm:X.mg x=none)(hv:bootBuiltins x=some (.builtin id))(ha:PA X (e::es) (pV K QX E Ms))(hn:y%(x ≠ "__name__"))(qa:y%((x == ("__debug__" : Str))=false))
  (he:x%(starEach (e::es) X.env=(false,eval e X.env)::starEach es X.env)) (gk:x%((backTo pos (starEach es X.env)).any (·.1)=false)):PE X (.Call (.Name x p) (e::es) [] pos) (bR K QX E (cL f Ms)) :=
 PE.imp (jP hc hg hm hv ha hn qa he gk) fun σ H Q ⟨w,O,sl,Q0,c,m,q⟩=>⟨w,O,sl,_,c,m,fun xs O1 vs w1 H1 h1 e1 r1 a1=>lk w1 O1 H1 vs xs _ Q r1 a1 h1 fun z z' O3 w3 H3 h3 e3 r3 a3=>q _ O3 z w3 H3 h3 (e1.trans e3) r3 a3⟩
t%qz {x:Str}{T:String}{e:Expr}{es:List Expr}{p pos:Pos}{r:List V->Hp->VK->Prop}{f:vR}{Ms:MA}(hc:cg X (.type T) r)(lk:xZ K r f)(hg:Gl X x)(hm:X.mg x=none)(hv:bootBuiltins x=some (.type T))(ha:PA X (e::es) (pV K QX E Ms))(hn:y%(x ≠ "__name__"))(qa:y%((x == ("__debug__" : Str))=false))
  (he:x%(starEach (e::es) X.env=(false,eval e X.env)::starEach es X.env)) (gk:x%((backTo pos (starEach es X.env)).any (·.1)=false)):PE X (.Call (.Name x p) (e::es) [] pos) (bR K QX E (cL f Ms)) :=
 PE.imp (NE hc hg hm hv ha hn qa he gk) fun σ H Q ⟨w,O,sl,Q0,c,m,q⟩=>⟨w,O,sl,_,c,m,fun xs O1 vs w1 H1 h1 e1 r1 a1=>lk w1 O1 H1 vs xs _ Q r1 a1 h1 fun z z' O3 w3 H3 h3 e3 r3 a3=>q _ O3 z w3 H3 h3 (e1.trans e3) r3 a3⟩
n%bH (M:ME):MT:=fun sl O Q=>M sl O fun x O1=>match x with
 |.im (.bool c)=>Q c O1
 |_=>False
t%u8 {t:TE}{M:ME}(h:∀σ H Q,bR K QX E M σ H Q->t σ H Q):∀σ H Q,lG K QX E (bH M) σ H Q->Ce t σ H Q:=fun σ H Q ⟨w,O,sl,Q0,c,m,q⟩=>h σ H _ ⟨w,O,sl,_,c,m,fun x O1 v w1 H1 h1 e1 r1 a1=>by
 split at h1
 .exact⟨_,um a1,q _ O1 w1 H1 h1 e1 r1⟩
 .exact h1.elim⟩
t%j0 {op:CmpOp}{r:R2}{f:ni}{Ma Mb:ME}{a b:Expr}{pos:Pos}(ho:eO X (compareOp op) r)(lk:rL K r f)(ha:PE X a (bR K QX E Ma))(hb:PE X b (bR K QX E Mb))(hm:behindInMarks op b=false):PT X (.Compare a [op] [b] pos) (lG K QX E (bH (aG f Ma Mb))):=PT.imp (qw ho ha hb hm) (u8 (yo lk))
t%tR {e:Expr}{M:ME}(h:PE X e (bR K QX E M))(he:∀whole,isTrue e X.env whole=(do let v <- whole;standAt e.pos;holding [v] (truthy v)):=by intro _;rfl):PT X e (lG K QX E (bH M)):=PT.imp (t8 h he) (u8 fun _ _ _ z=>z)
n%V5:PyData->Bool
 |.none=>false
 |.bool b=>b
 |.int i=>i != 0
 |.str s=>(s.length:Int) != 0
 |.list xs=>!xs.isEmpty
 |.tuple xs=>!xs.isEmpty
 |.dict xs=>!xs.isEmpty
n%QE:PyData->Bool
 |.str _=>false
 |_=>true
n%PP (M:ME):MT:=fun sl O Q=>M sl O fun x O1=>match x with
 |.im d=>QE d=true/\Q (V5 d) O1
 |_=>False
t%mJ {α β : Type}{xs:List α}{ys:List β}(h:xs.length=ys.length):(!xs.isEmpty)=!ys.isEmpty:=by
 cases xs<;>cases ys<;>simp_all
t%MM {e:Expr}{M:ME}(h:PE X e (bR K QX E M))(he:∀whole,isTrue e X.env whole=(do let v <- whole;standAt e.pos;holding [v] (truthy v)):=by intro _;rfl):PT X e (lG K QX E (PP M)):=PT.imp (pr h he) fun σ H Q ⟨w,O,sl,Q0,c,m,q⟩=>⟨w,O,sl,_,c,m,fun x O1 v w1 H1 h1 e1 r1 a1=>by
 cases x with
 |im d =>
  cases d with
  |none=>e%⟨false,by rw[Ji a1];rfl,q _ O1 w1 H1 h1.2 e1 r1⟩
  |bool b=>e%⟨b,by rw[um a1];rfl,q _ O1 w1 H1 h1.2 e1 r1⟩
  |int i=>e%⟨i != 0,by rw[lH a1];rfl,q _ O1 w1 H1 h1.2 e1 r1⟩
  |str i=>cases h1.1
  |list xs =>
   o%⟨a,us,rfl,h3,h4⟩:=gZ a1;e%⟨!xs.isEmpty,.inl ⟨us,bz.of h3,mJ h4.len.symm⟩,q _ O1 w1 H1 h1.2 e1 r1⟩
  |tuple xs =>
   o%⟨a,us,rfl,h3,h4⟩:=d7 a1;e%⟨!xs.isEmpty,.inr (.inl ⟨us,aH.of h3,mJ h4.len.symm⟩),q _ O1 w1 H1 h1.2 e1 r1⟩
  |dict xs=>cases a1
 |own k=>e%h1.elim
 |bag j=>e%h1.elim
 |rF ns=>e%h1.elim⟩
n%iO (M:MT):MT:=fun sl O Q=>M sl O fun c O1=>Q (!c) O1
t%tZ {a:Expr}{M:MT}{pos:Pos}(h:PT X a (lG K QX E M)):PT X (.UnaryOp .Not a pos) (lG K QX E (iO M)):=PT.imp (vW h) fun σ H Q ⟨w,O,sl,Q0,c,m,q⟩=>⟨w,O,sl,_,c,m,fun x O1 w1 H1 h1 e1 r1=>q _ O1 w1 H1 h1 e1 r1⟩
n%uz (M N:MT):MT:=fun sl O Q=>M sl O fun c O1=>(c=true->N sl O1 Q)/\(c=false->Q false O1)
n%kE (M N:MT):MT:=fun sl O Q=>M sl O fun c O1=>(c=true->Q true O1)/\(c=false->N sl O1 Q)
t%sS {a:Expr}{M:MT}{pos:Pos}(h:PT X a (lG K QX E M)):PW X (.BoolOp .And [a] pos) (lG K QX E M):=pw_and1 h
t%gc {a:Expr}{M:MT}{pos:Pos}(h:PT X a (lG K QX E M)):PW X (.BoolOp .Or [a] pos) (lG K QX E M):=pw_or1 h
t%sq {a b:Expr}{fv:List Expr}{M N:MT}{pos:Pos}(ha:PT X a (lG K QX E M))(hb:PW X (.BoolOp .And (b::fv) pos) (lG K QX E N)):PW X (.BoolOp .And (a::b::fv) pos) (lG K QX E (uz M N)):=PW.imp (pw_and ha hb) fun σ H Q ⟨w,O,sl,Q0,c,m,q⟩=>⟨w,O,sl,_,c,m,fun x O1 w1 H1 h1 e1 r1=>by
 cases x with
 |true=>e%aU ⟨w1,O1,sl,_,c.ex e1.ex r1,h1.1 rfl,fun y O2 w2 H2 h2 e2 r2=>q _ O2 w2 H2 h2 (e1.trans e2) r2⟩
 |false=>e%bB (q _ O1 w1 H1 (h1.2 rfl) e1 r1)⟩
t%gX {a b:Expr}{fv:List Expr}{M N:MT}{pos:Pos}(ha:PT X a (lG K QX E M))(hb:PW X (.BoolOp .Or (b::fv) pos) (lG K QX E N)):PW X (.BoolOp .Or (a::b::fv) pos) (lG K QX E (kE M N)):=PW.imp (pw_or ha hb) fun σ H Q ⟨w,O,sl,Q0,c,m,q⟩=>⟨w,O,sl,_,c,m,fun x O1 w1 H1 h1 e1 r1=>by
 cases x with
 |true=>e%aU (q _ O1 w1 H1 (h1.1 rfl) e1 r1)
 |false=>e%bB ⟨w1,O1,sl,_,c.ex e1.ex r1,h1.2 rfl,fun y O2 w2 H2 h2 e2 r2=>q _ O2 w2 H2 h2 (e1.trans e2) r2⟩⟩
n%uy (M N:ME):ME:=fun sl O Q=>M sl O fun x O1=>match x with
 |.im (.bool c)=>(c=true->N sl O1 Q)/\(c=false->Q (.im (.bool false)) O1)
 |_=>False
t%wU {op}{a:Expr}{M:ME}{pos:Pos}(h:PE X a (bR K QX E M)):PE X (.BoolOp op [a] pos) (bR K QX E M):=gH h
t%su {a b:Expr}{fv:List Expr}{M N:ME}{pos:Pos}(ha:PE X a (bR K QX E M))(hb:PE X (.BoolOp .And (b::fv) pos) (bR K QX E N)):PE X (.BoolOp .And (a::b::fv) pos) (bR K QX E (uy M N)):=PE.imp (iy ha hb) fun σ H Q ⟨w,O,sl,Q0,c,m,q⟩=>⟨w,O,sl,_,c,m,fun x O1 v w1 H1 h1 e1 r1 a1=>by
 split at h1
 .rename_i k;r%⟨k,um a1,?_⟩;cases k with
  |true=>e%aU ⟨w1,O1,sl,_,c.ex e1.ex r1,h1.1 rfl,fun y O2 u w2 H2 h2 e2 r2 a2=>q _ O2 u w2 H2 h2 (e1.trans e2) r2 a2⟩
  |false=>e%bB (q _ O1 _ w1 H1 (h1.2 rfl) e1 r1 (.bl false))
 .exact h1.elim⟩
n%Uc (C:MT)(M N:ME):ME:=fun sl O Q=>C sl O fun c O1=>(c=true->M sl O1 Q)/\(c=false->N sl O1 Q)
t%IN {t a b:Expr}{C:MT}{M N:ME}{pos:Pos}(hc:PT X t (lG K QX E C))(ha:PE X a (bR K QX E M))(hb:PE X b (bR K QX E N)):PE X (.IfExp t a b pos) (bR K QX E (Uc C M N)):=PE.imp (D4 hc ha hb) fun σ H Q ⟨w,O,sl,Q0,c,m,q⟩=>⟨w,O,sl,_,c,m,fun x O1 w1 H1 h1 e1 r1=>by
 cases x with
 |true=>e%aU ⟨w1,O1,sl,_,c.ex e1.ex r1,h1.1 rfl,fun y O2 u w2 H2 h2 e2 r2 a2=>q _ O2 u w2 H2 h2 (e1.trans e2) r2 a2⟩
 |false=>e%bB ⟨w1,O1,sl,_,c.ex e1.ex r1,h1.2 rfl,fun y O2 u w2 H2 h2 e2 r2 a2=>q _ O2 u w2 H2 h2 (e1.trans e2) r2 a2⟩⟩
end
section
variable {K:PySem.W.Frag}{X:Cx}
t%mX {w:Wd}{O:aN}{H:Hp}:ak (G w O H) H:=fun a o h=>(gD h).1
n%BP (C:Int->Int->Prop)(g:Int->Int->PyData):ni:=fun O x y P=>match x,y with
 |.im (.int i),.im (.int j)=>C i j/\P (.im (g i j)) O
 |_,_=>False
n%oF (g:Int->Int->PyData):ni:=fun O x y P=>match x,y with
 |.im (.int i),.im (.int j)=>P (.im (g i j)) O
 |_,_=>False
t%sW {C:Int->Int->Prop}{g:Int->Int->V}{f:Int->Int->PyData}(hg:∀i j h,cB h (g i j) (f i j)):rL K (rI C g) (BP C f):=fun w O H v u x y P Q r a b hf q=>by
 unfold BP at hf;split at hf
 .exact⟨_,_,lH a,lH b,hf.1,q _ _ O w H hf.2 (ck.refl _ _ _) r (hg _ _ _)⟩
 .exact hf.elim
t%jt {g:Int->Int->V}{f:Int->Int->PyData}(hg:∀i j h,cB h (g i j) (f i j)):rL K (xT g) (oF f):=fun w O H v u x y P Q r a b hf q=>by
 unfold oF at hf;split at hf
 .exact⟨_,_,lH a,lH b,q _ _ O w H hf (ck.refl _ _ _) r (hg _ _ _)⟩
 .exact hf.elim
n%fe:ni:=fun O x y P=>match x,y with
 |.im (.int i),.im (.int j)=>P (.im (.int (i+j))) O
 |.im (.tuple xs),.im (.tuple ys)=>xs.length+ys.length<=sizeLine/\P (.im (.tuple (xs++ys))) O
 |.im (.list xs),.im (.list ys)=>xs.length+ys.length<=sizeLine/\P (.im (.list (xs++ys))) O
 |_,_=>False
t%M2:rL K (fun x y H Q=>xT (fun i j=>.int (i+j)) x y H Q\/(IE x y H Q\/PF x y H Q)) fe:=fun w O H v u x y P Q r a b hf q=>by
 unfold fe at hf;split at hf
 .exact .inl ⟨_,_,lH a,lH b,q _ _ O w H hf (ck.refl _ _ _) r (.int _)⟩
 .obtain⟨p1,us,rfl,h1,t1⟩:=d7 a;o%⟨p2,vs,rfl,h2,t2⟩:=d7 b;r%.inr (.inl ⟨p1,p2,us,vs,rfl,rfl,h1,h2,by rw[t1.len,t2.len];e%hf.1,fun p H' s hp=>?_⟩);o%⟨r1,e1,t⟩:=jM r s hp (t1.app t2);e%q _ _ O w H' hf.2 e1 r1 t
 .obtain⟨p1,us,rfl,h1,t1⟩:=gZ a;o%⟨p2,vs,rfl,h2,t2⟩:=gZ b;r%.inr (.inr ⟨p1,p2,us,vs,rfl,rfl,h1,h2,by rw[t1.len,t2.len];e%hf.1,fun p hp=>?_⟩);o%⟨r1,e1,t⟩:=kT r hp (t1.app t2);e%q _ _ O w _ hf.2 e1 r1 t
 .exact hf.elim
t%pY {QX:Addr->aN->Prop}{E:XK}{Ma Mb:ME}{a b:Expr}{pos:Pos}(ha:PE X a (bR K QX E Ma))(hb:PE X b (bR K QX E Mb)):PE X (.BinOp a .Add b pos) (bR K QX E (aG fe Ma Mb)):=qG (iz.or (G6.or sk)) M2 ha hb
m%zO:ni:=oF fun i j=>.int (i-j)
t%mh {QX:Addr->aN->Prop}{E:XK}{Ma Mb:ME}{a b:Expr}{pos:Pos}(ha:PE X a (bR K QX E Ma))(hb:PE X b (bR K QX E Mb)):PE X (.BinOp a .Sub b pos) (bR K QX E (aG zO Ma Mb)):=qG si (jt fun _ _ _=>.int _) ha hb
m%rT:ni:=BP (fun i j=>Bd 8000 i/\Bd 8000 j) fun i j=>.int (i*j)
t%jf {QX:Addr->aN->Prop}{E:XK}{Ma Mb:ME}{a b:Expr}{pos:Pos}(ha:PE X a (bR K QX E Ma))(hb:PE X b (bR K QX E Mb)):PE X (.BinOp a .Mult b pos) (bR K QX E (aG rT Ma Mb)):=qG t9 (sW fun _ _ _=>.int _) ha hb
m%Qu:ni:=BP (fun _ j=>0<j/\Bd 8000 j) fun i j=>.int (i / j)
t%MQ {QX:Addr->aN->Prop}{E:XK}{Ma Mb:ME}{a b:Expr}{pos:Pos}(ha:PE X a (bR K QX E Ma))(hb:PE X b (bR K QX E Mb)):PE X (.BinOp a .FloorDiv b pos) (bR K QX E (aG Qu Ma Mb)):=qG Ec (sW fun _ _ _=>.int _) ha hb
n%FT:ni:=fun O x y P=>match x,y with
 |.im (.list xs),.im (.int k)=>0<=k/\k<2 ^ 62/\xs.length*k.toNat<=sizeLine/\P (.im (.list (List.replicate k.toNat xs).flatten)) O
 |_,_=>False
t%uM {g:Hp}{xs:List V}{ds:List PyData}(h:aP g xs ds):∀m:Nat,aP g (List.replicate m xs).flatten (List.replicate m ds).flatten
 |0=>.nil
 |m+1=>by
  rw[List.replicate_succ,List.replicate_succ,List.flatten_cons,List.flatten_cons];e%h.app (uM h m)
t%MV:rL K PD FT:=fun w O H v u x y P Q r a b hf q=>by
 unfold FT at hf;split at hf
 .obtain⟨p1,us,rfl,h1,t1⟩:=gZ a;rw[lH b];r%⟨p1,_,us,rfl,rfl,h1,by omega,by omega,by rw[t1.len];e%hf.2.2.1,fun p hp=>?_⟩;o%⟨r1,e1,t⟩:=kT r hp (uM t1 _);e%q _ _ O w _ hf.2.2.2 e1 r1 t
 .exact hf.elim
t%MN {QX:Addr->aN->Prop}{E:XK}{Ma Mb:ME}{a b:Expr}{pos:Pos}(ha:PE X a (bR K QX E Ma))(hb:PE X b (bR K QX E Mb)):PE X (.BinOp a .Mult b pos) (bR K QX E (aG FT Ma Mb)):=qG L8 MV ha hb
m%Ue:ni:=oF fun i j=>.bool (decide (i<j))
m%XN:ni:=oF fun i j=>.bool (decide (i<=j))
m%OT:ni:=oF fun i j=>.bool (decide (j<i))
m%R8:ni:=oF fun i j=>.bool (decide (j<=i))
t%I0:rL K (xT fun i j=>.bl (decide (i<j))) Ue:=jt fun _ _ _=>.bl _
t%Rl:rL K (xT fun i j=>.bl (decide (i<=j))) XN:=jt fun _ _ _=>.bl _
t%yn:rL K (xT fun i j=>.bl (decide (j<i))) OT:=jt fun _ _ _=>.bl _
t%CH:rL K (xT fun i j=>.bl (decide (j<=i))) R8:=jt fun _ _ _=>.bl _
n%qb:PyData->PyData->Bool
 |.int i,.int j=>decide (i=j)
 |d,e=>PyData.eqv d e
t%jj (d e:PyData):qb d e=PyData.eqv d e:=by
 cases d<;>cases e<;>first |rfl |(show decide _=_;rw[PyData.eqv];rfl)
n%j2 (neg:Bool):ni:=fun O x y P=>match x,y with
 |.im d,.im e=>min d.depth e.depth<=60/\P (.im (.bool (if neg then !qb d e else qb d e))) O
 |_,_=>False
t%gw:rL K (FV K0) (j2 false):=fun w O H v u x y P Q r a b hf q=>by
 unfold j2 at hf;split at hf
 .refine⟨_,_,(cB.az mX a).dt,(cB.az mX b).dt,hf.1,?_⟩;rw[<- jj];e%q _ _ O w H hf.2 (ck.refl _ _ _) r (.bl _)
 .exact hf.elim
t%gY:rL K (FU K0) (j2 true):=fun w O H v u x y P Q r a b hf q=>by
 unfold j2 at hf;split at hf
 .refine⟨_,_,(cB.az mX a).dt,(cB.az mX b).dt,hf.1,?_⟩;rw[<- jj];e%q _ _ O w H hf.2 (ck.refl _ _ _) r (.bl _)
 .exact hf.elim
t%gr (hu:X.A.units+64<cLine):eO X (compareOp .Eq) (FV K0):=wR hu
t%gU (hu:X.A.units+64<cLine):eO X (compareOp .NotEq) (FU K0):=C8 hu
n%NH (neg:Bool):ni:=fun O x y P=>match x,y with
 |.im (.int i),.im (.list ds)=>∃ns:List Int,ds=ns.map .int/\P (.im (.bool (if neg then !ns.contains i else ns.contains i))) O
 |.im (.int i),.im (.tuple ds)=>∃ns:List Int,ds=ns.map .int/\P (.im (.bool (if neg then !ns.contains i else ns.contains i))) O
 |_,_=>False
t%ij (ns:List Int):(ns.map V.int).all ja=true:=by
 rw[List.all_map];e%Zu.mpr fun _ _=>rfl
t%ym (neg:Bool):rL K (N3 K0 neg) (NH neg):=fun w O H v u x y P Q r a b hf q=>by
 unfold NH at hf;split at hf
 .obtain⟨ns,rfl,h⟩:=hf;o%⟨p1,us,rfl,h1,t1⟩:=gZ b;rw[ka t1] at h1;r%⟨p1,_,rfl,.inl (bz.of h1),by rw[lH a];rfl,ij ns,?_⟩;rw[lH a,sZ];e%q _ _ O w H h (ck.refl _ _ _) r (.bl _)
 .obtain⟨ns,rfl,h⟩:=hf;o%⟨p1,us,rfl,h1,t1⟩:=d7 b;rw[ka t1] at h1;r%⟨p1,_,rfl,.inr (aH.of h1),by rw[lH a];rfl,ij ns,?_⟩;rw[lH a,sZ];e%q _ _ O w H h (ck.refl _ _ _) r (.bl _)
 .exact hf.elim
n%sY:PyData->Bool
 |.none=>true
 |_=>false
n%sX (neg:Bool):ni:=fun O x y P=>match x,y with
 |.im d,.im .none=>P (.im (.bool (if neg then !sY d else sY d))) O
 |_,_=>False
t%HH {g:Hp}{v:V}{d:PyData}(h:cB g v d):decide (v=.bO)=sY d:=by
 cases h<;>rfl
t%Hx:rL K (fun x y H Q=>y=.bO/\Q (.bl (!decide (x=.bO))) H) (sX true):=fun w O H v u x y P Q r a b hf q=>by
 unfold sX at hf;split at hf
 .refine⟨Ji b,?_⟩;rw[HH a];e%q _ _ O w H hf (ck.refl _ _ _) r (.bl _)
 .exact hf.elim
n%CG:ni:=fun O x y P=>match x,y with
 |.im (.bool c),.im (.bool d)=>P (.im (.bool (c != d))) O
 |_,_=>False
t%Hy:rL K (fun x y H Q=>∃c d:Bool,x=.bl c/\y=.bl d/\Q (.bl (c != d)) H) CG:=fun w O H v u x y P Q r a b hf q=>by
 unfold CG at hf;split at hf
 .exact⟨_,_,um a,um b,q _ _ O w H hf (ck.refl _ _ _) r (.bl _)⟩
 .exact hf.elim
n%bL:ni:=fun O x y P=>match x,y with
 |.im (.list ds),.im (.int i)=>∃d,iT ds i=some d/\P (.im d) O
 |.im (.tuple ds),.im (.int i)=>∃d,iT ds i=some d/\P (.im d) O
 |.own k,.im (.int i)=>∃c z,O[k]?=some (some c)/\iT c i=some z/\P z O
 |_,_=>False
t%DF {g:Hp}{xs:List V}{ds:List PyData}{i:Int}{d:PyData}(t:aP g xs ds)(h:iT ds i=some d):∃v,iT xs i=some v/\cB g v d:=by
 unfold iT at h ⊢;rw[t.len];cases hj:uc ds.length i with
 |none=>rw[hj] at h;cases h
 |some j =>
  rw[hj] at h;e%t.get h
t%Nq {w:Wd}{g:Hp}{xs:List V}{ds:List AV}{i:Int}{d:AV}(t:aZ K w g xs ds)(h:iT ds i=some d):∃v,iT xs i=some v/\jW K w g v d:=by
 unfold iT at h ⊢;rw[t.1];cases hj:uc ds.length i with
 |none=>rw[hj] at h;cases h
 |some j =>
  rw[hj] at h;e%t.at h
t%Rm:rL K (fun x y H Q=>Kq K0 x y H Q\/BK K0 x y H Q) bL:=fun w O H v u x y P Q r a b hf q=>by
 unfold bL at hf;split at hf
 .obtain⟨d,hd,hf⟩:=hf;o%⟨p1,us,rfl,h1,t1⟩:=gZ a;o%⟨z,hz,tz⟩:=DF t1 hd;e%.inl ⟨p1,us,_,z,rfl,lH b,bz.of h1,hz,q _ _ O w H hf (ck.refl _ _ _) r tz⟩
 .obtain⟨d,hd,hf⟩:=hf;o%⟨p1,us,rfl,h1,t1⟩:=d7 a;o%⟨z,hz,tz⟩:=DF t1 hd;e%.inr ⟨p1,us,_,z,rfl,lH b,aH.of h1,hz,q _ _ O w H hf (ck.refl _ _ _) r tz⟩
 .obtain⟨c,d,hc,hd,hf⟩:=hf;o%⟨p1,us,h0,h1,t1⟩:=r.qe _ _ hc;o%⟨p2,e1,rfl⟩:=a;rw[h0] at e1;cases Option.some.inj e1;o%⟨z,hz,tz⟩:=Nq t1 hd;e%.inl ⟨p1,us,_,z,rfl,lH b,bz.of h1,hz,q _ _ O w H hf (ck.refl _ _ _) r tz⟩
 .exact hf.elim
t%bQ {QX:Addr->aN->Prop}{E:XK}{Ma Mb:ME}{a b:Expr}{pos:Pos}(ha:PE X a (bR K QX E Ma))(hb:PE X b (bR K QX E Mb))(hs:tI b:=by e%fun _ _=>rfl):PE X (.Subscript a b pos) (bR K QX E (aG bL Ma Mb)):=Rk (mW.or bI) Rm ha hb hs
m%MO:=iF->aN->(Option Int->aN->Prop)->Prop
n%RH (K:PySem.W.Frag)(QX:Addr->aN->Prop)(E:XK)(M:MO):TO:=fun σ H Q=>∃w O sl Q0,nk K QX E w O H σ sl/\M sl O Q0/\∀c O' w' H',Q0 c O'->ck w O H w' O' H'->aJ K w' O' H'->Q c H'
n%n8:MO:=fun _ O Q=>Q none O
n%nZ (M:ME):MO:=fun sl O Q=>M sl O fun x O1=>match x with
 |.im (.int i)=>Q (some i) O1
 |_=>False
t%PO.imp {e:Option Expr}{t t':TO}(h:PO X e t)(i:∀σ H Q,t' σ H Q->t σ H Q):PO X e t':=fun aa s σ H Q I q=>h aa s σ H Q I (i σ H Q q)
t%E3 {QX:Addr->aN->Prop}{E:XK}:PO X none (RH K QX E n8):=PO.imp GX fun σ H Q ⟨w,O,sl,Q0,c,m,q⟩=>q none O w H m (ck.refl _ _ _) c.ro
t%E4 {QX:Addr->aN->Prop}{E:XK}{e:Expr}{M:ME}(h:PE X e (bR K QX E M)):PO X (some e) (RH K QX E (nZ M)):=PO.imp (GW h) fun σ H Q ⟨w,O,sl,Q0,c,m,q⟩=>⟨w,O,sl,_,c,m,fun x O1 v w1 H1 h1 e1 r1 a1=>by
 split at h1
 .exact⟨_,lH a1,q _ O1 w1 H1 h1 e1 r1⟩
 .exact h1.elim⟩
n%cutD (xs:List PyData)(lo hi:Option Int):List PyData:=(xs.drop (HT.cO xs.length 0 lo)).take (HT.cO xs.length xs.length hi-HT.cO xs.length 0 lo)
n%Xy (O:aN)(x:AV)(lo hi:Option Int)(P:AV->aN->Prop):Prop:=match x with
 |.im (.tuple ds)=>P (.im (.tuple (cutD ds lo hi))) O
 |.im (.list ds)=>P (.im (.list (cutD ds lo hi))) O
 |_=>False
n%Bm (M:ME)(L U:MO):ME:=fun sl O Q=>M sl O fun x O1=>L sl O1 fun l O2=>U sl O2 fun u O3=>Xy O3 x l u Q
t%DD {g:Hp}{xs:List V}{ds:List PyData}{lo hi:Option Int}(t:aP g xs ds):aP g (ot xs lo hi) (cutD ds lo hi):=by
 unfold ot cutD;rw[t.len];e%(t.drop _).take _
t%E7 {QX:Addr->aN->Prop}{E:XK}{M:ME}{L U:MO}{e:Expr}{lo hi:Option Expr}{p2 pos:Pos}(he:PE X e (bR K QX E M))(hl:PO X lo (RH K QX E L))(hu:PO X hi (RH K QX E U)):PE X (.Subscript e (.Slice lo hi none p2) pos) (bR K QX E (Bm M L U)) :=
 PE.imp (D3 (GA.or Wl) he hl hu) fun σ H Q ⟨w,O,sl,Q0,c,m,q⟩=>⟨w,O,sl,_,c,m,fun x O1 v w1 H1 h1 e1 r1 a1=>⟨w1,O1,sl,_,c.ex e1.ex r1,h1,fun l O2 w2 H2 h2 e2 r2=>⟨w2,O2,sl,_,(c.ex e1.ex r1).ex e2.ex r2,h2,fun u O3 w3 H3 h3 e3 r3=>by
  have a3:=(a1.ex e2.ex).ex e3.ex;have e13:=(e1.trans e2).trans e3;unfold Xy at h3;split at h3
  .obtain⟨p1,us,rfl,g1,t1⟩:=d7 a3;r%.inl ⟨p1,us,rfl,g1,fun p H' s hp=>?_⟩;o%⟨r4,e4,t4⟩:=jM r3 s hp (DD t1);e%q _ O3 _ w3 H' h3 (e13.trans e4) r4 t4
  .obtain⟨p1,us,rfl,g1,t1⟩:=gZ a3;r%.inr ⟨p1,us,rfl,bz.of g1,fun p hp=>?_⟩;o%⟨r4,e4,t4⟩:=kT r3 hp (DD t1);e%q _ O3 _ w3 _ h3 (e13.trans e4) r4 t4
  .exact h3.elim⟩⟩⟩
n%cV:vR:=fun O xs P=>match xs with
 |[.im (.list ds)]=>P (.im (.int ds.length)) O
 |[.im (.tuple ds)]=>P (.im (.int ds.length)) O
 |[.own k]=>∃c,O[k]?=some (some c)/\P (.im (.int c.length)) O
 |_=>False
t%kw:xZ K ID cV:=fun w O H vs xs P Q r a hf q=>by
 unfold cV at hf;split at hf
 .obtain⟨v,us,rfl,h1,h2⟩:=a.aS;rw[h2.cc];o%⟨p1,nO,rfl,g1,t1⟩:=gZ h1;e%⟨p1,nO,rfl,.inl (bz.of g1),by rw[t1.len];e%q _ _ O w H hf (ck.refl _ _ _) r (.int _)⟩
 .obtain⟨v,us,rfl,h1,h2⟩:=a.aS;rw[h2.cc];o%⟨p1,nO,rfl,g1,t1⟩:=d7 h1;e%⟨p1,nO,rfl,.inr (aH.of g1),by rw[t1.len];e%q _ _ O w H hf (ck.refl _ _ _) r (.int _)⟩
 .obtain⟨c,hc,hf⟩:=hf;o%⟨v,us,rfl,h1,h2⟩:=a.aS;rw[h2.cc];o%⟨p2,e1,rfl⟩:=h1;o%⟨p1,nO,h0,g1,t1⟩:=r.qe _ _ hc;rw[h0] at e1;cases Option.some.inj e1;e%⟨_,nO,rfl,.inl (bz.of g1),by rw[t1.1];e%q _ _ O w H hf (ck.refl _ _ _) r (.int _)⟩
 .exact hf.elim
n%CI:vR:=fun O xs P=>match xs with
 |[.rF ns]=>P (.im (.int ns.length)) O
 |_=>False
n%QV (K:PySem.W.Frag):List V->Hp->VK->Prop:=fun xs H Q=>∃p ys,xs=[.ref p]/\(bz K H p ys\/aH K H p ys)/\Q (.int ys.length) H
t%HB:xZ K (QV K) CI:=fun w O H vs xs P Q r a hf q=>by
 unfold CI at hf;split at hf
 .obtain⟨v,us,rfl,h1,h2⟩:=a.aS;rw[h2.cc];o%⟨p1,rfl,g1⟩:=h1;e%⟨p1,_,rfl,.inl (KG.bz.az g1 mX),by rw[Zb];e%q _ _ O w H hf (ck.refl _ _ _) r (.int _)⟩
 .exact hf.elim
n%oE (g:Int->Int->Int):vR:=fun O xs P=>match xs with
 |[.im (.int i),.im (.int j)]=>P (.im (.int (g i j))) O
 |_=>False
t%yS:xZ K (fun xs H Q=>∃i j,xs=[.int i,.int j]/\Q (.int (if j>i then j else i)) H) (oE fun i j=>if j>i then j else i):=fun w O H vs xs P Q r a hf q=>by
 unfold oE at hf;split at hf
 .obtain⟨v,us,rfl,h1,h2⟩:=a.aS;o%⟨v2,NV,rfl,h3,h4⟩:=h2.aS;rw[h4.cc,lH h1,lH h3];e%⟨_,_,rfl,q _ _ O w H hf (ck.refl _ _ _) r (.int _)⟩
 .exact hf.elim
t%Hz:xZ K (fun xs H Q=>∃i j,xs=[.int i,.int j]/\Q (.int (if j<i then j else i)) H) (oE fun i j=>if j<i then j else i):=fun w O H vs xs P Q r a hf q=>by
 unfold oE at hf;split at hf
 .obtain⟨v,us,rfl,h1,h2⟩:=a.aS;o%⟨v2,NV,rfl,h3,h4⟩:=h2.aS;rw[h4.cc,lH h1,lH h3];e%⟨_,_,rfl,q _ _ O w H hf (ck.refl _ _ _) r (.int _)⟩
 .exact hf.elim
n%Gf:vR:=fun O xs P=>match xs with
 |[.im (.int i)]=>P (.im (.int i)) O
 |[.im (.bool c)]=>P (.im (.int (if c then 1 else 0))) O
 |_=>False
t%yT:xZ K (fun xs H Q=>(∃i,xs=[.int i]/\Q (.int i) H)\/∃k,xs=[.bl k]/\Q (.int (if k then 1 else 0)) H) Gf:=fun w O H vs xs P Q r a hf q=>by
 unfold Gf at hf;split at hf
 .obtain⟨v,us,rfl,h1,h2⟩:=a.aS;rw[h2.cc,lH h1];e%.inl ⟨_,rfl,q _ _ O w H hf (ck.refl _ _ _) r (.int _)⟩
 .obtain⟨v,us,rfl,h1,h2⟩:=a.aS;rw[h2.cc,um h1];e%.inr ⟨_,rfl,q _ _ O w H hf (ck.refl _ _ _) r (.int _)⟩
 .exact hf.elim
n%rP:AV->Option (List PyData)
 |.im (.list ds)=>some ds
 |.im (.tuple ds)=>some ds
 |_=>none
t%iA {w:Wd}{O:aN}{H:Hp}{v:V}{x:AV}{ds:List PyData}(h:rP x=some ds)(a:jW K w (G w O H) v x):∃p us,v=.ref p/\(bz K0 H p us\/aH K0 H p us)/\aP (G w O H) us ds:=by
 unfold rP at h;split at h
 .cases h
  o%⟨p,us,rfl,g1,t1⟩:=gZ a;e%⟨p,us,rfl,.inl (bz.of g1),t1⟩
 .cases h
  o%⟨p,us,rfl,g1,t1⟩:=d7 a;e%⟨p,us,rfl,.inr (aH.of g1),t1⟩
 .cases h
n%qf (f:List PyData->(PyData->Prop)->Prop):vR:=fun O xs P=>match xs with
 |[x]=>match rP x with
  |some ds=>f ds fun d=>P (.im d) O
  |none=>False
 |_=>False
n%wd:vR:=qf fun ds P=>∃ns:List Int,ds=ns.map .int/\P (.int ns.sum)
t%oY:xZ K IB wd:=fun w O H vs xs P Q r a hf q=>by
 unfold wd qf at hf;split at hf
 .split at hf
  .rename_i ds hd;o%⟨v,us,rfl,h1,h2⟩:=a.aS;rw[h2.cc];o%⟨p,nO,rfl,hs,t1⟩:=iA hd h1;o%⟨ns,rfl,h⟩:=hf;rw[ka t1] at hs;e%⟨p,ns,rfl,hs,q _ _ O w H h (ck.refl _ _ _) r (.int _)⟩
  .exact hf.elim
 .exact hf.elim
n%KD:vR:=qf fun ds P=>∃ns:List Int,ds=ns.map .int/\ns≠[]/\∀m,m∈ns->(∀n∈ns,n<=m)->P (.int m)
t%MW:xZ K IC KD:=fun w O H vs xs P Q r a hf q=>by
 unfold KD qf at hf;split at hf
 .split at hf
  .rename_i ds hd;o%⟨v,us,rfl,h1,h2⟩:=a.aS;rw[h2.cc];o%⟨p,nO,rfl,hs,t1⟩:=iA hd h1;o%⟨ns,rfl,dh,h⟩:=hf;rw[ka t1] at hs;e%⟨p,ns,rfl,hs,dh,fun m h3 h4=>q _ _ O w H (h m h3 h4) (ck.refl _ _ _) r (.int _)⟩
  .exact hf.elim
 .exact hf.elim
n%K5:vR:=qf fun ds P=>∃ns:List Bool,ds=ns.map .bool/\P (.bool (ns.any id))
n%ur:vR:=qf fun ds P=>∃ns:List Bool,ds=ns.map .bool/\P (.bool (ns.all id))
t%Nr (ns:List Bool):(ns.map V.bl).any tv=ns.any id:=by induction ns with |nil=>rfl |cons n ns ih=>simp only[Yj,List.any_cons,ih];rfl
t%Nt (ns:List Bool):(ns.map V.bl).all tv=ns.all id:=by induction ns with |nil=>rfl |cons n ns ih=>simp only[Yj,List.all_cons,ih];rfl
t%uW (ns:List Bool):(ns.map V.bl).all du=true:=by induction ns with |nil=>rfl |cons n ns ih=>simp only[Yj,List.all_cons,ih];rfl
t%M1:xZ K IG K5:=fun w O H vs xs P Q r a hf q=>by
 unfold K5 qf at hf;split at hf
 .split at hf
  .rename_i ds hd;o%⟨v,us,rfl,h1,h2⟩:=a.aS;rw[h2.cc];o%⟨p,nO,rfl,hs,t1⟩:=iA hd h1;o%⟨ns,rfl,h⟩:=hf;rw[CN t1] at hs;r%⟨p,_,rfl,hs,uW ns,?_⟩;rw[Nr];e%q _ _ O w H h (ck.refl _ _ _) r (.bl _)
  .exact hf.elim
 .exact hf.elim
t%mm:xZ K IH ur:=fun w O H vs xs P Q r a hf q=>by
 unfold ur qf at hf;split at hf
 .split at hf
  .rename_i ds hd;o%⟨v,us,rfl,h1,h2⟩:=a.aS;rw[h2.cc];o%⟨p,nO,rfl,hs,t1⟩:=iA hd h1;o%⟨ns,rfl,h⟩:=hf;rw[CN t1] at hs;r%⟨p,_,rfl,hs,uW ns,?_⟩;rw[Nt];e%q _ _ O w H h (ck.refl _ _ _) r (.bl _)
  .exact hf.elim
 .exact hf.elim
n%iN:vR:=fun O xs P=>match xs with
 |[.own k]=>∃ds:List PyData,O[k]?=some (some (ds.map .im))/\P (.im (.tuple ds)) O
 |[x]=>match rP x with
  |some ds=>P (.im (.tuple ds)) O
  |none=>False
 |_=>False
t%vO:xZ K IA iN:=fun w O H vs xs P Q r a hf q=>by
 unfold iN at hf;split at hf
 .obtain⟨ds,hc,hf⟩:=hf;o%⟨v,us,rfl,h1,h2⟩:=a.aS;rw[h2.cc];o%⟨p2,e1,rfl⟩:=h1;o%⟨p1,nO,h0,g1,t1⟩:=r.qe _ _ hc;rw[h0] at e1;cases Option.some.inj e1;r%⟨_,nO,rfl,.inl ⟨bz.of g1,fun l hl=>?_⟩⟩;o%⟨r1,e1,t2⟩:=jD r hl (aZ.tr t1);e%q _ _ O w _ hf e1 r1 t2
 .rename_i x _;split at hf
  .rename_i ds hd;o%⟨v,us,rfl,h1,h2⟩:=a.aS;rw[h2.cc];unfold rP at hd;split at hd
   .cases hd
    o%⟨p,nO,rfl,g1,t1⟩:=gZ h1;r%⟨p,nO,rfl,.inl ⟨bz.of g1,fun l hl=>?_⟩⟩;o%⟨r1,e1,t2⟩:=jD r hl t1;e%q _ _ O w _ hf e1 r1 t2
   .cases hd
    o%⟨p,nO,rfl,g1,t1⟩:=d7 h1;e%⟨p,nO,rfl,.inr ⟨aH.of g1,q _ _ O w _ hf (ck.refl _ _ _) r h1⟩⟩
   .cases hd
  .exact hf.elim
 .exact hf.elim
n%KP:vR:=qf fun ds P=>P (.list ds)
t%MX:xZ K Cm KP:=fun w O H vs xs P Q r a hf q=>by
 unfold KP qf at hf;split at hf
 .split at hf
  .rename_i ds hd;o%⟨v,us,rfl,h1,h2⟩:=a.aS;rw[h2.cc];o%⟨p,nO,rfl,hs,t1⟩:=iA hd h1;r%⟨p,nO,rfl,hs,fun l hl=>?_⟩;o%⟨r1,e1,t2⟩:=kT r hl t1;e%q _ _ O w _ hf e1 r1 t2
  .exact hf.elim
 .exact hf.elim
n%Gd:vR:=fun O xs P=>match xs with
 |[x]=>match rP x with
  |some ds=>P (.own O.length) (O++[some (ds.map .im)])
  |none=>False
 |_=>False
t%HA:xZ K Cm Gd:=fun w O H vs xs P Q r a hf q=>by
 unfold Gd at hf;split at hf
 .split at hf
  .rename_i ds hd;o%⟨v,us,rfl,h1,h2⟩:=a.aS;rw[h2.cc];o%⟨p,nO,rfl,hs,t1⟩:=iA hd h1;r%⟨p,nO,rfl,hs,fun l hl=>?_⟩;o%⟨r1,e1,t2⟩:=r.own hl (aP.VC t1);e%q _ _ _ _ _ hf e1 r1 ⟨l,t2,rfl⟩
  .exact hf.elim
 .exact hf.elim
t%tyG {w:Wd}{O:aN}{H:Hp}{v:V}{d:PyData}(h:cB (G w O H) v d):iX K H v (.type (Xq d)):=by
 cases h with
 |bO=>e%.bO
 |bl c=>e%.bl c
 |int i=>e%.int i
 |str x _=>e%.str x
 |lst h1 _=>e%.lst (gD h1).1
 |tup h1 _=>e%.tup (gD h1).1
n%n9 (f:PyData->Bool)(M:ME):ME:=fun sl O Q=>M sl O fun x O1=>match x with
 |.im d=>Q (.im (.bool (f d))) O1
 |_=>False
t%u9 {f:PyData->Bool}{c:Value}{M:ME}{QX:Addr->aN->Prop}{E:XK}(hk:∀d,(∀kvs,d≠.dict kvs)->PySem.W.kitOne K (.type (Xq d)) c=some (f d)):∀σ H Q,bR K QX E (n9 f M) σ H Q->Kh K c (bR K QX E M) σ H Q:=fun σ H Q ⟨w,O,sl,Q0,c',m,q⟩=>⟨w,O,sl,_,c',m,fun x O1 v w1 H1 h1 e1 r1 a1=>by
 split at h1
 .rename_i d;e%⟨_,f d,tyG a1,hk d (fun kvs z=>by subst z;cases a1),q _ O1 _ w1 H1 h1 e1 r1 (.bl _)⟩
 .exact h1.elim⟩
end
section
variable {K:PySem.W.Frag}{QX:Addr->aN->Prop}{E:XK}{X:Cx}{w:Wd}{O:aN}{H:Hp}
structure Go (M:MS)(D:yw)(sl:iF)(O:aN):Prop where
 go:M D sl O
n%aC (M N:MS):MS:=fun D sl O=>M { D with nx:=fun gO O'=>Go N D gO O' } sl O
n%cf:MS:=fun D sl O=>D.nx sl O
t%lM:iM X [] (kA K QX E cf):=iM.imp tT fun D σ H ⟨w,O,sl,D0,c,m,hn,hb,hc,hr⟩=>hn sl O w H σ m c (ck.refl _ _ _)
t%bS {st:Stmt}{fv:List Stmt}{M N:MS}(h1:PS X st (kA K QX E M))(h2:iM X fv (kA K QX E N)):iM X (st::fv) (kA K QX E (aC M N)):=iM.imp (d9 h1 h2) fun D σ H ⟨w,O,sl,D0,c,m,hn,hb,hc,hr⟩ =>
 ⟨w,O,sl,_,c,m,fun TW O1 w1 H1 HU h1 c1 e1=>⟨w1,O1,TW,D0,c1,h1.go,fun cy O2 w2 H2 dz h2 c2 e2=>hn cy O2 w2 H2 dz h2 c2 (e1.trans e2),fun cy O2 w2 H2 dz h2 c2 e2=>hb cy O2 w2 H2 dz h2 c2 (e1.trans e2),fun cy O2 w2 H2 dz h2 c2 e2=>hc cy O2 w2 H2 dz h2 c2 (e1.trans e2),fun x O2 w2 H2 v h2 e2 r2 a2=>hr x O2 w2 H2 v h2 (e1.trans e2) r2 a2⟩,hb,hc,hr⟩
t%cS {st:Stmt}{M:MS}(h1:PS X st (kA K QX E M)):iM X [st] (kA K QX E M):=de h1
n%i8 (M:ME):MS:=fun D sl O=>M sl O fun _ O1=>D.nx sl O1
t%E5 {e:Expr}{M:ME}{pos:Pos}(he:PE X e (bR K QX E M))(hs:x%(swapsWith e none pos.line X.env=pure false)):PS X (.Expr e pos) (kA K QX E (i8 M)):=PS.imp (yI he hs) fun D σ H ⟨w,O,sl,D0,c,m,hn,hb,hc,hr⟩=>⟨w,O,sl,_,c,m,fun x O1 v w1 H1 h1 e1 r1 a1=>hn sl O1 w1 H1 σ h1 (c.ex e1.ex r1) e1⟩
n%bT (M:ME):MS:=fun D sl O=>M sl O D.rt
t%fo {e:Expr}{M:ME}{pos:Pos}(he:PE X e (bR K QX E M)):PS X (.Return (some e) pos) (kA K QX E (bT M)):=PS.imp (eY he) fun D σ H ⟨w,O,sl,D0,c,m,hn,hb,hc,hr⟩=>⟨w,O,sl,_,c,m,fun x O1 v w1 H1 h1 e1 r1 a1=>hr x O1 w1 H1 v h1 e1 r1 a1⟩
n%dX (C:MT)(M N:MS):MS:=fun D sl O=>C sl O fun c O1=>(c=true->M D sl O1)/\(c=false->N D sl O1)
t%lL {t:Expr}{a b:List Stmt}{C:MT}{M N:MS}{pos:Pos}(hc:PT X t (lG K QX E C))(ha:iM X a (kA K QX E M))(hb:iM X b (kA K QX E N)):PS X (.If t a b pos) (kA K QX E (dX C M N)):=PS.imp (d6 hc ha hb) fun D σ H ⟨w,O,sl,D0,c,m,hn,hb,hc,hr⟩=>⟨w,O,sl,_,c,m,fun x O1 w1 H1 h1 e1 r1=>by
 have z:∀{M:MS},M D0 sl O1->kA K QX E M D σ H1:=fun h=>⟨w1,O1,sl,D0,c.ex e1.ex r1,h,fun cy O2 w2 H2 dz h2 c2 e2=>hn cy O2 w2 H2 dz h2 c2 (e1.trans e2),fun cy O2 w2 H2 dz h2 c2 e2=>hb cy O2 w2 H2 dz h2 c2 (e1.trans e2),fun cy O2 w2 H2 dz h2 c2 e2=>hc cy O2 w2 H2 dz h2 c2 (e1.trans e2),fun x O2 w2 H2 v h2 e2 r2 a2=>hr x O2 w2 H2 v h2 (e1.trans e2) r2 a2⟩
 cases x with
 |true=>e%aU (z (h1.1 rfl))
 |false=>e%bB (z (h1.2 rfl))⟩
m%MG:=AV->iF->aN->(iF->aN->Prop)->Prop
m%Fk:=List AV->iF->aN->(iF->aN->Prop)->Prop
n%vT (K:PySem.W.Frag)(QX:Addr->aN->Prop)(E:XK)(mg:MG):TG:=fun v σ H Q=>∃w O sl x Q0,nk K QX E w O H σ sl/\jW K w (G w O H) v x/\mg x sl O Q0/\∀gO O' w' H' aD,Q0 gO O'->nk K QX E w' O' H' aD gO->ck w O H w' O' H'->Q aD H'
n%BF (K:PySem.W.Frag)(QX:Addr->aN->Prop)(E:XK)(mg:Fk):zJ:=fun vs σ H Q=>∃w O sl xs Q0,nk K QX E w O H σ sl/\aZ K w (G w O H) vs xs/\mg xs sl O Q0/\∀gO O' w' H' aD,Q0 gO O'->nk K QX E w' O' H' aD gO->ck w O H w' O' H'->Q aD H'
t%PG.imp {tg:Expr}{t t':TG}(h:PG X tg t)(i:∀v σ H Q,t' v σ H Q->t v σ H Q):PG X tg t':=fun aa s σ H v u Q I r q=>h aa s σ H v u Q I r (i v σ H Q q)
t%vQ.imp {tg:List Expr}{t t':zJ}(h:vQ X tg t)(i:∀v σ H Q,t' v σ H Q->t v σ H Q):vQ X tg t':=fun aa s σ H v u Q I r q=>h aa s σ H v u Q I r (i v σ H Q q)
n%aW (i:Nat):MG:=fun x sl O Q=>Q (sl.set i (some x)) O
t%nk.put {σ:St}{sl:iF}(c:nk K QX E w O H σ sl){v:V}{x:AV}(a:jW K w (G w O H) v x)(i:Nat):nk K QX E w O H (σ.set i (some v)) (sl.set i (some x)):=⟨c.ro,c.so.set a i,c.zx⟩
t%cD {i:Nat}{tg:Expr}(h:PG X tg (cF i)):PG X tg (vT K QX E (aW i)):=PG.imp h fun v σ H Q ⟨w,O,sl,x,Q0,c,a,m,q⟩=>q _ O w H _ m (c.put a i) (ck.refl _ _ _)
n%gv:Fk:=fun xs sl O Q=>match xs with
 |[]=>Q sl O
 |_=>False
n%bD (t:MG)(u:Fk):Fk:=fun xs sl O Q=>match xs with
 |x::r=>t x sl O fun gO O'=>u r gO O' Q
 |_=>False
t%E2:vQ X [] (BF K QX E gv):=vQ.imp E6 fun v σ H Q ⟨w,O,sl,x,Q0,c,a,m,q⟩=>by
 unfold gv at m;split at m
 .exact⟨a.cc,q _ O w H _ m c (ck.refl _ _ _)⟩
 .exact m.elim
t%pZ {e:Expr}{es:List Expr}{t:MG}{u:Fk}(h1:PG X e (vT K QX E t))(h2:vQ X es (BF K QX E u))(hs:x%((assignEach (e::es) X.env).map (·.2)=assign e X.env::(assignEach es X.env).map (·.2))):vQ X (e::es) (BF K QX E (bD t u)):=vQ.imp (rH h1 h2 hs) fun v σ H Q ⟨w,O,sl,x,Q0,c,a,m,q⟩=>by
 unfold bD at m;split at m
 .obtain⟨v1,us,rfl,a1,a2⟩:=a.aS;e%⟨v1,us,rfl,w,O,sl,_,_,c,a1,m,fun TW O1 w1 H1 HU h1 c1 e1=>⟨w1,O1,TW,_,_,c1,a2.ex e1.ex,h1,fun cy O2 w2 H2 dz h2 c2 e2=>q cy O2 w2 H2 dz h2 c2 (e1.trans e2)⟩⟩
 .exact m.elim
n%vV (n:Nat)(t:Fk):MG:=fun x sl O Q=>match rP x with
 |some ds=>ds.length=n/\t (ds.map .im) sl O Q
 |none=>False
t%PG.or {tg:Expr}{t t':TG}(h:PG X tg t)(h':PG X tg t'):PG X tg (fun v σ H Q=>t v σ H Q\/t' v σ H Q):=fun aa s σ H v u Q I r q=>q.elim (fun z=>h aa s σ H v u Q I r z) fun z=>h' aa s σ H v u Q I r z
t%gL {es:List Expr}{k:Nat}{t:Fk}{n:Nat}{pos:Pos}(hc:X.calm=true)(h:vQ X es (BF K QX E t))(hn:x%((assignEach es X.env).length=n))(lO:x%((assignEach es X.env).findIdx? (·.1)=none)):PG X (.Tuple es k pos) (vT K QX E (vV n t)) :=
 PG.imp (PG.or (gF hc h hn lO) (LZ hc h hn lO)) fun v σ H Q ⟨w,O,sl,x,Q0,c,a,m,q⟩=>by
  unfold vV at m;split at m
  .rename_i ds hd;o%⟨m1,m2⟩:=m;o%⟨p,us,rfl,hs,t1⟩:=iA hd a;have hl:us.length=n:=by rw[t1.len];e%m1
   have hq:BF K QX E t us σ H Q:=⟨w,O,sl,_,_,c,aP.VC t1,m2,q⟩;rcases hs with hs |hs
   .exact .inr ⟨p,us,rfl,hs,hl,hq⟩
   .exact .inl ⟨p,us,rfl,hs,hl,hq⟩
  .exact m.elim
n%Fq (Mo Mi:ME):MG:=fun x sl O Q=>Mo sl O fun o O1=>Mi sl O1 fun i O2=>match o,i with
 |.own k,.im (.int i)=>∃c j,O2[k]?=some (some c)/\uc c.length i=some j/\Q sl (O2.set k (some (c.set j x)))
 |_,_=>False
t%jg {o i:Expr}{Mo Mi:ME}{pos:Pos}(ho:PE X o (bR K QX E Mo))(hi:PE X i (bR K QX E Mi))(ha:∀v,assign (.Subscript o i pos) X.env v=(do
  let ov <- holding [v] (eval o X.env);let iv <- holding [v,ov] (eval i X.env)
  standAt pos
  holding [v,ov,iv] (setItem ov iv v)
  release [v,ov,iv] []):=by intro _;rfl):PG X (.Subscript o i pos) (vT K QX E (Fq Mo Mi)):=PG.imp (wO ho hi pk ha) fun v σ H Q ⟨w,O,sl,x,Q0,c,a,m,q⟩ =>
 ⟨w,O,sl,_,c,m,fun o' O1 v1 w1 H1 h1 e1 r1 a1=>⟨w1,O1,sl,_,c.ex e1.ex r1,h1,fun i' O2 v2 w2 H2 h2 e2 r2 a2=>by
  split at h2
  .obtain⟨c',j,jT,hj,h2⟩:=h2;have Vx:=e1.trans e2;o%⟨p2,e3,rfl⟩:=a1.ex e2.ex;o%⟨p1,us,h0,g1,t1⟩:=r2.qe _ _ jT;rw[h0] at e3;cases Option.some.inj e3;o%⟨r3,e3⟩:=r2.put jT h0 g1 (t1.set (a.ex Vx.ex) j);e%⟨_,us,_,j,rfl,lH a2,g1,by rw[t1.1];e%hj,q sl _ w2 _ σ h2 ((c.ex Vx.ex r2).ex e3.ex r3) (Vx.trans e3)⟩
  .exact h2.elim⟩⟩
n%aY (M:ME)(mg:MG):MS:=fun D sl O=>M sl O fun x O1=>mg x sl O1 D.nx
t%lj {t:TE}{g:TG}{M:ME}{mg:MG}(ht:∀σ H Q,bR K QX E M σ H Q->t σ H Q)(hg:∀v σ H Q,vT K QX E mg v σ H Q->g v σ H Q):∀D σ H,kA K QX E (aY M mg) D σ H->FL t g D σ H:=fun D σ H ⟨w,O,sl,D0,c,m,hn,hb,hc,hr⟩ =>
 ht σ H _ ⟨w,O,sl,_,c,m,fun x O1 v w1 H1 h1 e1 r1 a1=>hg v σ H1 _ ⟨w1,O1,sl,x,_,c.ex e1.ex r1,a1,h1,fun cy O2 w2 H2 dz h2 c2 e2=>hn cy O2 w2 H2 dz h2 c2 (e1.trans e2)⟩⟩
t%zw {tg e:Expr}{M:ME}{mg:MG}{pos:Pos}(he:PE X e (bR K QX E M))(hg:PG X tg (vT K QX E mg))(hs:x%(swapsWithSole [tg] e pos.line X.env=pure false))(hw:x%(swappedStores [tg] e X.env=pure none))(h1:x%((assignEach [tg] X.env).map (·.2)=[assign tg X.env])):PS X (.Assign [tg] e pos) (kA K QX E (aY M mg)):=PS.imp (j8 he hg hs hw h1) (lj (fun _ _ _ z=>z) fun _ _ _ _ z=>z)
t%pi {i:Nat}:∀v σ H Q,vT K QX E (aW i) v σ H Q->cF i v σ H Q:=fun v σ H Q ⟨w,O,sl,x,Q0,c,a,m,q⟩=>q _ O w H _ m (c.put a i) (ck.refl _ _ _)
t%gn {i:Nat}{x:Str}{e:Expr}{M:ME}{pos rR:Pos}(hN:X.N.Nodup)(hi:X.N[i]?=some x)(hx:Loc X.env.scope x)(he:PE X e (bR K QX E M))(hs:x%(swapsWith e (some (.Name x rR)) pos.line X.env=pure false))(hf:X.fn x=true\/X.env.scope.names.lookup x=some .local:=by first |e%.inl rfl |e%.inr rfl |assumption) :
  PS X (.Assign [.Name x rR] e pos) (kA K QX E (aY M (aW i))):=PS.imp (lI hN hi hx he hs hf) (lj (fun _ _ _ z=>z) pi)
n%oP (K:PySem.W.Frag)(J:It)(w:Wd)(O:aN)(H:Hp)(items:List AV):Prop:=∀O2 w2 H2,mB w O H w2 O2 H2->aJ K w2 O2 H2->∀i,(∀x,items[i]?=some x->J.go i H2/\∀v H3,J.xQ i H2 v H3->ck w2 O2 H2 w2 O2 H3/\aJ K w2 O2 H3/\jW K w2 (G w2 O2 H3) v x)/\(items.length<=i->J.stop i H2)
n%Bi (K:PySem.W.Frag)(QX:Addr->aN->Prop)(E:XK)(M:MA):TI:=fun σ H R=>∃w O sl Q0,nk K QX E w O H σ sl/\M sl O Q0/\∀items O' w' H' J,Q0 items O'->ck w O H w' O' H'->aJ K w' O' H'->oP K J w' O' H' items->R J H'
t%PI.imp {tg iter:Expr}{t t':TI}(h:PI X tg iter t)(i:∀σ H R,t' σ H R->t σ H R):PI X tg iter t':=fun aa s σ H R I q=>h aa s σ H R I (i σ H R q)
t%AJ {a:Addr}{ds:List PyData}(t:cB (G w O H) (.ref a) (.list ds)):oP K (zM K0 a) w O H (ds.map .im):=fun O2 w2 H2 e r i=>by
 cases cB.az e.az t with |lst h1 t1=>?_
 rename_i xs;have hh:=(gD h1).1;r%⟨fun x hx=>?_,fun hl=>⟨xs,bz.of hh,by rw[Zb] at hl;rw[t1.len];e%hl⟩⟩;rw[Zg] at hx;cases hd:ds[i]? with
 |none=>rw[hd] at hx;cases hx
 |some d =>
  rw[hd] at hx;cases Option.some.inj hx;o%⟨v,hv,tv⟩:=t1.get hd;r%⟨⟨xs,v,bz.of hh,hv⟩,?_⟩;rintro v' H3 ⟨rfl,hy⟩;have:=hy xs (bz.of hh);rw[hv] at this;cases Option.some.inj this;e%⟨ck.refl _ _ _,r,tv⟩
t%AH {a:Addr}{ds:List PyData}(t:cB (G w O H) (.ref a) (.tuple ds)):oP K (zL K0 a) w O H (ds.map .im):=fun O2 w2 H2 e r i=>by
 cases cB.az e.az t with |tup h1 t1=>?_
 rename_i xs;have hh:=(gD h1).1;r%⟨fun x hx=>?_,fun hl=>⟨xs,aH.of hh,by rw[Zb] at hl;rw[t1.len];e%hl⟩⟩;rw[Zg] at hx;cases hd:ds[i]? with
 |none=>rw[hd] at hx;cases hx
 |some d =>
  rw[hd] at hx;cases Option.some.inj hx;o%⟨v,hv,tv⟩:=t1.get hd;r%⟨⟨xs,v,aH.of hh,hv⟩,?_⟩;rintro v' H3 ⟨rfl,hy⟩;have:=hy xs (aH.of hh);rw[hv] at this;cases Option.some.inj this;e%⟨ck.refl _ _ _,r,tv⟩
n%bV (M:ME):MA:=fun sl O Q=>M sl O fun x O1=>match rP x with
 |some ds=>Q (ds.map .im) O1
 |none=>False
n%WN (tl:TE):TI:=fun σ H R=>tl σ H fun x H1=>(∃a,x=.ref a/\(∃xs,bz K0 H1 a xs)/\R (zM K0 a) H1)\/(∃a,x=.ref a/\(∃xs,aH K0 H1 a xs)/\R (zL K0 a) H1)
t%LW {tg l:Expr}{tl:TE}(hl:PE X l tl):PI X tg l (WN tl):=by
 intro aa s σ H R I h;r%bi (hl aa s σ H _ I h) fun v s1 ⟨x,H1,I1,r1,q1⟩=>?_
 rcases q1 with ⟨a,e,⟨xs,hq⟩,q⟩ |⟨a,e,⟨xs,hq⟩,q⟩
 .subst e;cases r1;o%⟨its,rv,p,hz⟩:=I1.list hq.k0;r%wpAny_pyIter_list p.isList ⟨s1.heap.objs.size,[s1.heap.objs.size],_,zM K0 a,H1,rfl,I1.kept (t':=s1.toks) fun b o e=>Heap.get?_push_of_some _ e,(qP (K:=X.K) a _).le yU,⟨_,Heap.get?_push_size _ rfl,rfl,rfl⟩,fun b hb=>?_,q⟩;have e:b=s1.heap.objs.size:=by simpa using hb
  subst e;e%I1.jR (Ze _) (I1.bp.fresh (Ze _))
 .subst e;cases r1;o%⟨its,rv,p,hz⟩:=I1.tuple hq.k0;r%wpAny_pyIter_tuple (show s1.heap.IsTuple a its.toArray from p) ⟨s1.heap.objs.size,[s1.heap.objs.size],_,zL K0 a,H1,rfl,I1.kept (t':=s1.toks) fun b o e=>Heap.get?_push_of_some _ e,(pH (K:=X.K) a _).le Dq,⟨_,Heap.get?_push_size _ rfl,rfl,rfl⟩,fun b hb=>?_,q⟩;have e:b=s1.heap.objs.size:=by simpa using hb
  subst e;e%I1.jR (Ze _) (I1.bp.fresh (Ze _))
t%kz {tg e:Expr}{M:ME}(he:PE X e (bR K QX E M)):PI X tg e (Bi K QX E (bV M)):=PI.imp (LW he) fun σ H R ⟨w,O,sl,Q0,c,m,q⟩=>⟨w,O,sl,_,c,m,fun x O1 v w1 H1 h1 e1 r1 a1=>by
 split at h1
 .rename_i ds hd;unfold rP at hd;split at hd
  .cases hd
   o%⟨a,xs,rfl,g1,t1⟩:=gZ a1;e%.inl ⟨a,rfl,⟨xs,bz.of g1⟩,q _ O1 w1 H1 _ h1 e1 r1 (AJ a1)⟩
  .cases hd
   o%⟨a,xs,rfl,g1,t1⟩:=d7 a1;e%.inr ⟨a,rfl,⟨xs,aH.of g1⟩,q _ O1 w1 H1 _ h1 e1 r1 (AH a1)⟩
  .cases hd
 .exact h1.elim⟩
n%uj (lo:Int)(n:Nat):List AV:=(List.range n).map fun i:Nat=>.im (.int (lo+(i:Int)))
t%AI {lo:Int}{n:Nat}:oP K (BD lo n) w O H (uj lo n):=fun O2 w2 H2 e r i=>by
 unfold uj;r%⟨fun x hx=>?_,fun hl=>by show n<=i;simpa using hl⟩;have hi:i<n:=by have:=(Zd.mp hx).1;simpa using this
 rw[Zg,Yq hi] at hx;cases Option.some.inj hx;r%⟨hi,?_⟩;rintro v H3 ⟨rfl,rfl⟩;e%⟨ck.refl _ _ _,r,.int _⟩
n%gQ (Ms:MA):MA:=fun sl O Q=>Ms sl O fun xs O1=>match xs with
 |[.im (.int n)]=>(-(2 ^ 62)<=n/\n<2 ^ 62)/\Q (uj 0 n.toNat) O1
 |_=>False
t%rJ {tg a:Expr}{Ms:MA}{p pos:Pos}(hg:Gl X "range")(hm:X.mg "range"=none)(ha:PA X [a] (pV K QX E Ms))(hs:x%(starEach [a] X.env=[(false,eval a X.env)])):PI X tg (.Call (.Name "range" p) [a] [] pos) (Bi K QX E (gQ Ms)):=PI.imp (jJ hg hm ha hs) fun σ H R ⟨w,O,sl,Q0,c,m,q⟩=>⟨w,O,sl,_,c,m,fun xs O1 vs w1 H1 h1 e1 r1 a1=>by
 split at h1
 .obtain⟨v,us,rfl,h3,h4⟩:=a1.aS;rw[h4.cc,lH h3];e%⟨_,rfl,h1.1.1,h1.1.2,q _ O1 w1 H1 _ h1.2 e1 r1 AI⟩
 .exact h1.elim⟩
n%oM (ds:List PyData):List AV:=(List.range ds.length).map fun i:Nat=>.im (.tuple [.int (i:Int),ds.getD i .none])
t%xA {a:Addr}{ds:List PyData}(t:cB (G w O H) (.ref a) (.tuple ds)):oP K (Fl K0 a) w O H (oM ds):=fun O2 w2 H2 e r i=>by
 cases cB.az e.az t with |tup h1 t1=>?_
 rename_i xs;have hh:=(gD h1).1;unfold oM;r%⟨fun x hx=>?_,fun hl=>⟨xs,aH.of hh,by rw[t1.len];simpa using hl⟩⟩;have hi:i<ds.length:=by have:=(Zd.mp hx).1;simpa using this
 rw[Zg,Yq hi] at hx;cases Option.some.inj hx;have hd:ds[i]?=some (ds.getD i .none):=by rw[gj (Zc hi)];e%Zc hi
 o%⟨v,hv,tv⟩:=t1.get hd;r%⟨⟨xs,v,aH.of hh,hv⟩,?_⟩;rintro v' H3 ⟨p,hp,rfl,hy⟩;o%⟨y,Jy,rfl⟩:=hy xs (aH.of hh);rw[hv] at Jy;cases Option.some.inj Jy;o%⟨r4,e4,t4⟩:=jD r hp (.cons (.int (i:Int)) (.cons tv .nil));e%⟨e4,r4,t4⟩
n%T9 (Ms:MA):MA:=fun sl O Q=>Ms sl O fun xs O1=>match xs with
 |[.im (.tuple ds)]=>Q (oM ds) O1
 |_=>False
t%yP {a:Expr}{Ms:MA}{p pos:Pos}{oo:List Expr}{kk}{rO:Pos}(hg:Gl X "enumerate")(hm:X.mg "enumerate"=none)(hb:bootBuiltins "enumerate"=some (.type "enumerate"))(ha:PA X [a] (pV K QX E Ms))(hs:x%(starEach [a] X.env=[(false,eval a X.env)])):PI X (.Tuple oo kk rO) (.Call (.Name "enumerate" p) [a] [] pos) (Bi K QX E (T9 Ms)):=PI.imp (kQ hg hm hb ha hs) fun σ H R ⟨w,O,sl,Q0,c,m,q⟩=>⟨w,O,sl,_,c,m,fun xs O1 vs w1 H1 h1 e1 r1 a1=>by
 split at h1
 .obtain⟨v,us,rfl,h3,h4⟩:=a1.aS;rw[h4.cc];o%⟨a,Tr,rfl,g1,t1⟩:=d7 h3;e%⟨a,rfl,⟨Tr,aH.of g1⟩,q _ O1 w1 H1 _ h1 e1 r1 (xA h3)⟩
 .exact h1.elim⟩
n%wa (ds es:List PyData):List AV:=(List.range ds.length).map fun i:Nat=>.im (.tuple [ds.getD i .none,es.getD i .none])
t%AG {a b:Addr}{ds es:List PyData}(t:cB (G w O H) (.ref a) (.tuple ds))(u:cB (G w O H) (.ref b) (.tuple es))(UK:ds.length<=es.length):oP K (Im K0 a b) w O H (wa ds es):=fun O2 w2 H2 e r i=>by
 cases cB.az e.az t with |tup h1 t1=>?_
 rename_i xs;cases cB.az e.az u with |tup h2 t2=>?_
 rename_i ys;have hh:=(gD h1).1;have UQ:=(gD h2).1;unfold wa;r%⟨fun x hx=>?_,fun hl=>⟨xs,ys,aH.of hh,aH.of UQ,by rw[t1.len];simpa using hl⟩⟩;have hi:i<ds.length:=by have:=(Zd.mp hx).1;simpa using this
 rw[Zg,Yq hi] at hx;cases Option.some.inj hx;have hd:ds[i]?=some (ds.getD i .none):=by rw[gj (Zc hi)];e%Zc hi
 have he:es[i]?=some (es.getD i .none):=by rw[gj (Zc (show i<es.length by omega))];e%Zc g%
 o%⟨v,hv,tv⟩:=t1.get hd;o%⟨v2,Y0,tv2⟩:=t2.get he;r%⟨⟨xs,ys,v,v2,aH.of hh,aH.of UQ,hv,Y0⟩,?_⟩;rintro v' H3 ⟨p,hp,rfl,hy⟩;o%⟨y,y2,Jy,NI,rfl⟩:=hy xs ys (aH.of hh) (aH.of UQ);rw[hv] at Jy;rw[Y0] at NI;cases Option.some.inj Jy;cases Option.some.inj NI;o%⟨r4,e4,t4⟩:=jD r hp (.cons tv (.cons tv2 .nil));e%⟨e4,r4,t4⟩
n%RO (Ms:MA):MA:=fun sl O Q=>Ms sl O fun xs O1=>match xs with
 |[.im (.tuple ds),.im (.tuple es)]=>ds.length<=es.length/\Q (wa ds es) O1
 |_=>False
t%wT {a b:Expr}{Ms:MA}{p pos:Pos}{oo:List Expr}{kk}{rO:Pos}(hg:Gl X "zip")(hm:X.mg "zip"=none)(hb:bootBuiltins "zip"=some (.type "zip"))(ha:PA X [a,b] (pV K QX E Ms))(hs:x%(starEach [a,b] X.env=[(false,eval a X.env),(false,eval b X.env)]))(tU:x%(starEach [b] X.env=[(false,eval b X.env)])):PI X (.Tuple oo kk rO) (.Call (.Name "zip" p) [a,b] [] pos) (Bi K QX E (RO Ms)):=PI.imp (yJ hg hm hb ha hs tU) fun σ H R ⟨w,O,sl,Q0,c,m,q⟩=>⟨w,O,sl,_,c,m,fun xs O1 vs w1 H1 h1 e1 r1 a1=>by
 split at h1
 .obtain⟨v,us,rfl,h3,h4⟩:=a1.aS;o%⟨v2,NV,rfl,h5,h6⟩:=h4.aS;rw[h6.cc];o%⟨a,Tr,rfl,g1,t1⟩:=d7 h3;o%⟨b,ys',rfl,g2,t2⟩:=d7 h5;e%⟨a,b,rfl,⟨Tr,aH.of g1⟩,⟨ys',aH.of g2⟩,q _ O1 w1 H1 _ h1.2 e1 r1 (AG h3 h5 h1.1)⟩
 .exact h1.elim⟩
structure FB (tg:MG)(body:MS)(D:yw)(sl:iF)(items:List AV)(O1:aN):Prop where
 ex:∃Iv:Nat->iF->aN->Prop,Iv 0 sl O1 /\
 (∀i x gO O',items[i]?=some x->Iv i gO O'->tg x gO O' fun cy O2=>Go body { D with nx:=Iv (i+1),ct:=Iv (i+1),bk:=D.nx } cy O2)/\∀gO O',Iv items.length gO O'->D.nx gO O'
n%kF (it:MA)(tg:MG)(body:MS):MS:=fun D sl O=>it sl O (FB tg body D sl)
t%zy {tg iter:Expr}{body:List Stmt}{it:MA}{mg:MG}{M:MS}{pos:Pos}(hp:PassesOwn (model X.prog X.w) X.A X.env X.xe)(hc:X.calm=true)(hi:PI X tg iter (Bi K QX E it))(hg:PG X tg (vT K QX E mg))(hb:iM X body (kA K QX E M))(hs:∀x,foldedSetIterable iter X.env x=pure x:=by intro _;rfl):PS X (.For tg iter body [] pos) (kA K QX E (kF it mg M)):=PS.imp (oV hp hc hi hg hb hs) fun D σ H ⟨w,O,sl,D0,c,m,hn,R0,hct,hr⟩=>⟨w,O,sl,_,c,m,fun items O1 w1 H1 J h1 e1 r1 Jx=>by
 o%⟨Iv,hI0,hIs,hIe⟩:=h1;r%⟨fun i m aD H'=>m=items.length-i/\i<=items.length/\∃w' O' gO,nk K QX E w' O' H' aD gO/\ck w1 O1 H1 w' O' H'/\Iv i gO O',⟨items.length,by simp,Nat.zero_le _,w1,O1,sl,c.ex e1.ex r1,ck.refl _ _ _,hI0⟩,?_⟩;rintro i m aD H' ⟨rfl,UK,w',O',gO,c',e',hv⟩;o%⟨ig,ie⟩:=Jx O' w' H' e'.ex c'.ro i;rcases Zz i items.length with y |y
 .obtain⟨NM,Fx⟩:=ig _ (Zc y);r%.inr ⟨NM,fun dz H2=>∃w2 O2 cy,nk K QX E w2 O2 H2 dz cy/\ck w1 O1 H1 w2 O2 H2/\Iv (i+1) cy O2,fun dz H2 ⟨w2,O2,cy,c2,e2,h2⟩=>⟨items.length-(i+1),by omega,rfl,y,w2,O2,cy,c2,e2,h2⟩,fun v H3 Oo=>?_⟩;o%⟨e3,r3,a3⟩:=Fx v H3 Oo;r%⟨w',O',gO,_,_,c'.ex e3.ex r3,a3,hIs i _ gO O' (Zc y) hv,fun Js O4 w4 H4 Xn h4 c4 e4=>⟨w4,O4,Js,_,c4,h4.go,fun NX O5 w5 H5 nN h5 c5 e5=>⟨w5,O5,NX,c5,(e'.trans e3).trans (e4.trans e5),h5⟩,fun NX O5 w5 H5 nN h5 c5 e5=>hn NX O5 w5 H5 nN h5 c5 (((e1.trans e').trans e3).trans (e4.trans e5)),fun NX O5 w5 H5 nN h5 c5 e5=>⟨w5,O5,NX,c5,(e'.trans e3).trans (e4.trans e5),h5⟩,fun x5 O5 w5 H5 v5 h5 e5 r5 a5=>hr x5 O5 w5 H5 v5 h5 (((e1.trans e').trans e3).trans (e4.trans e5)) r5 a5⟩⟩
 .have ei:i=items.length:=by omega
  subst ei;e%.inl ⟨ie (Ze _),hn gO O' w' H' aD (hIe gO O' hv) c' (e1.trans e')⟩⟩
end
section
variable {K:PySem.W.Frag}{QX:Addr->aN->Prop}{E:XK}{X:Cx}{w:Wd}{O:aN}{H:Hp}
n%Sub (n:Nat)(sl cy:iF):Prop:=cy.length=sl.length/\∀j,n<=j->cy[j]?=sl[j]?
t%bY.sub {n:Nat}{ix:List Nat}{g:Hp}{σ:St}{sl cy:iF}(h:bY K w g σ cy)(s:Sub n (fz n ix sl) cy):bY K w g σ (fz n ix sl):=by
 r%⟨h.1.trans s.1,fun i x hx=>?_⟩;rcases Zz i n with y |y
 .unfold fz at hx;rw[Zr (by simpa using y),List.getElem?_replicate,if_pos y] at hx;cases Option.some.inj hx
 .exact h.2 i x (by rw[s.2 i y];e%hx)
t%aZ.mD {w w':Wd}{g g':Hp}(hb:w'.eR=w.eR)(ha:w'.cM=w.cM)(s:ak g g'){vs:List V}{xs:List AV}(h:aZ K w g vs xs):aZ K w' g' vs xs:=⟨h.1,fun i v x h1 h2=>jW.mD hb ha s (h.2 i v x h1 h2)⟩
t%bY.mD {w w':Wd}{g g':Hp}(hb:w'.eR=w.eR)(ha:w'.cM=w.cM)(s:ak g g'){σ:St}{sl:iF}(h:bY K w g σ sl):bY K w' g' σ sl:=⟨h.1,fun i x h1=>by o%⟨v,h2,h3⟩:=h.2 i x h1;e%⟨v,h2,jW.mD hb ha s h3⟩⟩
n%Keeps (n:Nat)(mg:MG):Prop:=∀x sl O Q,mg x sl O Q->mg x sl O fun cy O2=>Q cy O2/\Sub n sl cy
t%iR {n i:Nat}(h:i<n):Keeps n (aW i):=fun x sl O Q q=>⟨q,by simp,fun j hj=>Zw g%⟩
n%sy (n:Nat)(mg:Fk):Prop:=∀x sl O Q,mg x sl O Q->mg x sl O fun cy O2=>Q cy O2/\Sub n sl cy
t%ii {n:Nat}:sy n gv:=fun x sl O Q q=>by
 cases x with
 |nil=>e%⟨q,rfl,fun _ _=>rfl⟩
 |cons y r=>e%q
t%E9 {n i:Nat}{u:Fk}(h:i<n)(hu:sy n u):sy n (bD (aW i) u):=fun x sl O Q q=>by
 cases x with
 |nil=>e%q
 |cons y r =>
  have q':u r (sl.set i (some y)) O Q:=q;have:=hu r _ O _ q';show u r (sl.set i (some y)) O _;have imp:u r (sl.set i (some y)) O (fun cy O2=>Q cy O2/\Sub n (sl.set i (some y)) cy)->u r (sl.set i (some y)) O (fun cy O2=>Q cy O2/\Sub n sl cy):=fun z=>by
   have e:(fun cy (O2:aN)=>Q cy O2/\Sub n (sl.set i (some y)) cy)=fun cy (O2:aN)=>Q cy O2/\Sub n sl cy:=by
    funext cy O2
    apply propext;unfold Sub;rw[Yl];constructor
    .rintro⟨h1,h2,h3⟩;e%⟨h1,h2,fun j hj=>by rw[h3 j hj,Zw g%]⟩
    .rintro⟨h1,h2,h3⟩;e%⟨h1,h2,fun j hj=>by rw[h3 j hj,Zw g%]⟩
   rw[e] at z;e%z
  e%imp this
t%ic {n m:Nat}{t:Fk}(h:sy n t):Keeps n (vV m t):=fun x sl O Q q=>by
 unfold vV at q ⊢;split
 .rename_i ds hd;rw[hd] at q;e%⟨q.1,h _ sl O Q q.2⟩
 .rename_i hd;rw[hd] at q;e%q
t%EJ {n:Nat}{ix:List Nat}{mg:MG}{C:MT}{M:ME}{items:List AV}{J:It}{w1:Wd}{O1:aN}{H1:Hp}{σ:St}{sl:iF}(c1:nk K QX E w1 O1 H1 σ sl)(Jx:oP K J w1 O1 H1 items)(bN:items.length<=1000000)(Iv:Nat->List AV->aN->Prop)(h0:Iv 0 [] O1)
  (hs:∀i x zs O',items[i]?=some x->Iv i zs O'->mg x (fz n ix sl) O' fun cy O2=>C cy O2 fun c O3=>(c=true->M cy O3 fun y O4=>Iv (i+1) (zs++[y]) O4)/\(c=false->Iv (i+1) zs O3))
  (hk:Keeps n mg) {Qf:VK}(acc:Addr) (bt:H1 acc=none)
  (he:∀zs ys O' w' H',Iv items.length zs O'->aJ K w' O' H'->w'.cn=(acc,.lst ys)::w1.cn->mB w1 O1 H1 w' O' H'->aZ K w' (G w' O' H') ys zs->Qf (.ref acc) H') :
  cw (vT K QX E mg) (lG K QX E C) (bR K QX E M) J acc (eX n ix σ) H1 Qf:=by
 o%⟨r0,e0⟩:=c1.ro.hide (o:=.lst []) bt (fun xs z=>by cases z);r%⟨fun i m aD H'=>m=items.length-i/\i<=items.length/\∃w' O' ys zs,aJ K w' O' H'/\w'.cn=(acc,.lst ys)::w1.cn/\mB w1 O1 H1 w' O' H'/\bY K w' (G w' O' H') aD (fz n ix sl)/\aZ K w' (G w' O' H') ys zs/\zs.length<=i/\Iv i zs O',
  ⟨items.length,by simp,Nat.zero_le _,_,O1,[],[],r0,rfl,e0,(c1.so.blk n ix).ex e0,aZ.nil,Ze _,h0⟩,?_⟩
 rintro i m aD H' ⟨rfl,UK,w',O',ys,zs,r',FD,e',s',a',A8,hv⟩;o%⟨ig,ie⟩:=Jx O' w' H' e' r' i;rcases Zz i items.length with y |y
 .obtain⟨NM,Fx⟩:=ig _ (Zc y);r%.inr ⟨NM,fun dz H2=>∃w' O' ys zs,aJ K w' O' H2/\w'.cn=(acc,.lst ys)::w1.cn/\mB w1 O1 H1 w' O' H2/\bY K w' (G w' O' H2) dz (fz n ix sl)/\aZ K w' (G w' O' H2) ys zs/\zs.length<=i+1/\Iv (i+1) zs O',fun dz H2 z=>⟨items.length-(i+1),by omega,rfl,y,z⟩,fun v H3 Oo=>?_⟩;o%⟨e3,r3,a3⟩:=Fx v H3 Oo;have VB:nk K QX E w' O' H3 aD (fz n ix sl):=⟨r3,s'.ex e3.ex,fun k VE Ts VY qx Vz T6=>c1.zx k VE Ts VY qx ((e'.trans e3.ex).trans Vz) T6⟩;r%⟨w',O',_,_,_,VB,a3,hk _ _ _ _ (hs i _ zs O' (Zc y) hv),fun Js O4 w4 H4 Xn h4 c4 e4=>⟨w4,O4,Js,_,c4,h4.1,fun b O5 w5 H5 h5 e5 r5=>?_⟩⟩;have FG:=e3.trans (e4.trans e5);cases b with
  |false=>e%bB ⟨w5,O5,ys,zs,r5,FG.cn.trans FD,e'.trans FG.ex,bY.sub (c4.so.ex e5.ex) h4.2,a'.ex FG.ex,by omega,h5.2 rfl⟩
  |true =>
   r%aU ⟨w5,O5,Js,_,c4.ex e5.ex r5,h5.1 rfl,fun z O6 v6 w6 H6 h6 e6 r6 a6=>?_⟩;have JV:=FG.trans e6;have OF:w6.cn=(acc,.lst ys)::w1.cn:=JV.cn.trans FD;o%⟨n1,n2,n3,n4⟩:=r6.nh (acc,.lst ys) (by rw[OF];e%Zo);o%⟨r7,s7⟩:=r6.C0 (o':=.lst (ys++[v6])) OF (fun xs z=>by cases z);have JW:=e'.trans JV.ex;r%⟨ys,n3,by rw[a'.1,sz];omega,{ w6 with cn:=(acc,.lst (ys++[v6]))::w1.cn },O6,ys++[v6],zs++[z],r7,rfl,⟨JW.bs,JW.cM,⟨[(acc,.lst (ys++[v6]))],rfl⟩,JW.az.trans s7⟩,?_,?_,by rw[Zn];simp;omega,h6⟩
   .exact bY.mD rfl rfl s7 (bY.sub ((c4.so.ex e5.ex).ex e6.ex) h4.2)
   .exact aZ.mD rfl rfl s7 ((a'.ex JV.ex).app (aZ.cons a6 aZ.nil))
 .have ei:i=items.length:=by omega
  subst ei;e%.inl ⟨ie (Ze _),he zs ys O' w' H' hv r' FD e' a'⟩
structure CB (n:Nat)(ix:List Nat)(mg:MG)(C:MT)(M:ME)(sl:iF)(Q:AV->aN->Prop)(items:List AV)(O1:aN):Prop where
 len:items.length<=1000000
 ex:∃Iv:Nat->List PyData->aN->Prop,Iv 0 [] O1 /\
 (∀i x ds O',items[i]?=some x->Iv i ds O'->mg x (fz n ix sl) O' fun cy O2=>C cy O2 fun c O3=>(c=true->M cy O3 fun y O4=>match y with
   |.im d=>Iv (i+1) (ds++[d]) O4
   |_=>False)/\(c=false->Iv (i+1) ds O3))/\∀ds O',Iv items.length ds O'->Q (.im (.list ds)) O'
n%bo (n:Nat)(ix:List Nat)(it:MA)(mg:MG)(C:MT)(M:ME):ME:=fun sl O Q=>it sl O (CB n ix mg C M sl Q)
structure V3 (n:Nat)(ix:List Nat)(mg:MG)(C:MT)(M:ME)(sl:iF)(Q:AV->aN->Prop)(items:List AV)(O1:aN):Prop where
 len:items.length<=1000000
 ex:∃Iv:Nat->List AV->aN->Prop,Iv 0 [] O1 /\
 (∀i x zs O',items[i]?=some x->Iv i zs O'->mg x (fz n ix sl) O' fun cy O2=>C cy O2 fun c O3=>(c=true->M cy O3 fun y O4=>Iv (i+1) (zs++[y]) O4)/\(c=false->Iv (i+1) zs O3))/\∀zs O',Iv items.length zs O'->Q (.own O'.length) (O'++[some zs])
n%ml (n:Nat)(ix:List Nat)(it:MA)(mg:MG)(C:MT)(M:ME):ME:=fun sl O Q=>it sl O (V3 n ix mg C M sl Q)
t%pN {n:Nat}{ix:List Nat}{it:MA}{mg:MG}{C:MT}{M:ME}(hk:Keeps n mg):∀σ H Q,bR K QX E (ml n ix it mg C M) σ H Q->uu (Bi K QX E it) (vT K QX E mg) (lG K QX E C) (bR K QX E M) n ix σ H Q :=
 fun σ H Q ⟨w,O,sl,Q0,c,m,q⟩=>⟨w,O,sl,_,c,m,fun items O1 w1 H1 J h1 e1 r1 Jx acc bt=>by
  o%⟨hl,Iv,h0,hs,he⟩:=h1;r%EJ (c.ex e1.ex r1) Jx hl Iv h0 hs hk acc bt fun zs ys O' w' H' hv r' FD e' a'=>?_
  o%⟨r2,s2,zE⟩:=r'.Gs FD a';r%q _ _ _ { w' with cn:=w1.cn,cM:=w'.cM++[acc] } _ (he zs O' hv) ⟨e1.ex.trans ⟨e'.bs,?_,⟨[],rfl⟩,e'.az.trans s2⟩,e1.cn⟩ r2 ⟨acc,zE,rfl⟩;o%⟨t,ht⟩:=e'.cM;e%⟨t++[acc],by show w'.cM++[acc]=_;rw[ht,List.append_assoc]⟩⟩
t%qV {n:Nat}{ix:List Nat}{it:MA}{mg:MG}{C:MT}{M:ME}(hk:Keeps n mg):∀σ H Q,bR K QX E (bo n ix it mg C M) σ H Q->uu (Bi K QX E it) (vT K QX E mg) (lG K QX E C) (bR K QX E M) n ix σ H Q :=
 fun σ H Q ⟨w,O,sl,Q0,c,m,q⟩=>⟨w,O,sl,_,c,m,fun items O1 w1 H1 J h1 e1 r1 Jx acc bt=>by
  o%⟨hl,Iv,h0,hs,he⟩:=h1;have hC:=c.ex e1.ex r1;o%⟨r0,e0⟩:=hC.ro.hide (o:=.lst []) bt (fun xs z=>by cases z);r%⟨fun i m aD H'=>m=items.length-i/\i<=items.length/\∃w' O' ys zs,aJ K w' O' H'/\w'.cn=(acc,.lst ys)::w1.cn/\mB w1 O1 H1 w' O' H'/\bY K w' (G w' O' H') aD (fz n ix sl)/\aP (G w' O' H') ys zs/\zs.length<=i/\Iv i zs O',
   ⟨items.length,by simp,Nat.zero_le _,_,O1,[],[],r0,rfl,e0,(hC.so.blk n ix).ex e0,.nil,Ze _,h0⟩,?_⟩
  rintro i m aD H' ⟨rfl,UK,w',O',ys,zs,r',FD,e',s',a',A8,hv⟩;o%⟨ig,ie⟩:=Jx O' w' H' e' r' i;rcases Zz i items.length with y |y
  .obtain⟨NM,Fx⟩:=ig _ (Zc y);r%.inr ⟨NM,fun dz H2=>∃w' O' ys zs,aJ K w' O' H2/\w'.cn=(acc,.lst ys)::w1.cn/\mB w1 O1 H1 w' O' H2/\bY K w' (G w' O' H2) dz (fz n ix sl)/\aP (G w' O' H2) ys zs/\zs.length<=i+1/\Iv (i+1) zs O',fun dz H2 z=>⟨items.length-(i+1),by omega,rfl,y,z⟩,fun v H3 Oo=>?_⟩;o%⟨e3,r3,a3⟩:=Fx v H3 Oo;have VB:nk K QX E w' O' H3 aD (fz n ix sl):=⟨r3,s'.ex e3.ex,fun k VE Ts VY qx Vz T6=>hC.zx k VE Ts VY qx ((e'.trans e3.ex).trans Vz) T6⟩;r%⟨w',O',_,_,_,VB,a3,hk _ _ _ _ (hs i _ zs O' (Zc y) hv),fun Js O4 w4 H4 Xn h4 c4 e4=>⟨w4,O4,Js,_,c4,h4.1,fun b O5 w5 H5 h5 e5 r5=>?_⟩⟩;have FG:=e3.trans (e4.trans e5);cases b with
   |false=>e%bB ⟨w5,O5,ys,zs,r5,FG.cn.trans FD,e'.trans FG.ex,bY.sub (c4.so.ex e5.ex) h4.2,aP.az FG.ex.az a',by omega,h5.2 rfl⟩
   |true =>
    r%aU ⟨w5,O5,Js,_,c4.ex e5.ex r5,h5.1 rfl,fun z O6 v6 w6 H6 h6 e6 r6 a6=>?_⟩;split at h6
    .rename_i d;have JV:=FG.trans e6;have OF:w6.cn=(acc,.lst ys)::w1.cn:=JV.cn.trans FD;o%⟨n1,n2,n3,n4⟩:=r6.nh (acc,.lst ys) (by rw[OF];e%Zo);o%⟨r7,s7⟩:=r6.C0 (o':=.lst (ys++[v6])) OF (fun xs z=>by cases z);have JW:=e'.trans JV.ex;r%⟨ys,n3,by rw[a'.len,sz];omega,{ w6 with cn:=(acc,.lst (ys++[v6]))::w1.cn },O6,ys++[v6],zs++[d],r7,rfl,⟨JW.bs,JW.cM,⟨[(acc,.lst (ys++[v6]))],rfl⟩,JW.az.trans s7⟩,?_,?_,by rw[Zn];simp;omega,h6⟩
     .exact bY.mD rfl rfl s7 (bY.sub ((c4.so.ex e5.ex).ex e6.ex) h4.2)
     .exact aP.az s7 ((aP.az JV.ex.az a').app (.cons a6 .nil))
    .exact h6.elim
  .have ei:i=items.length:=by omega
   subst ei;r%.inl ⟨ie (Ze _),?_⟩;o%⟨r2,s2,g2⟩:=r'.r9 FD;e%q _ _ _ { w' with cn:=w1.cn } _ (he zs O' hv) ⟨e1.ex.trans ⟨e'.bs,e'.cM,⟨[],rfl⟩,e'.az.trans s2⟩,e1.cn⟩ r2 (.lst g2 (aP.az s2 a'))⟩
t%fH.imp {fu:List Expr}{t t':TT}(h:fH X fu t)(i:∀σ H Q,t' σ H Q->t σ H Q):fH X fu t':=fun aa s σ H Q I q=>h aa s σ H Q I (i σ H Q q)
n%cb:MT:=fun _ O Q=>Q true O
t%iJ:fH X [] (lG K QX E cb):=fH.imp xU fun σ H Q ⟨w,O,sl,Q0,c,m,q⟩=>q true O w H m (ck.refl _ _ _) c.ro
t%ss {e:Expr}{M:MT}(h:PT X e (lG K QX E M)):fH X [e] (lG K QX E M):=gh h
section
variable {scope:Scope}{own cap:List Str}{ix:List Nat}{tg iter dm:Expr}{fu:List Expr}{it:MA}{mg:MG}{C:MT}{M:ME}{pos:Pos}
t%iQ (B:aA X scope own cap ix)(hc:X.calm=true)(hi:PI X tg iter (Bi K QX E it))(hk:Keeps own.length mg)
  (hb:∀C' fp s H,PG (gl X scope C' (own++cap) fp s H) tg (vT K QX E mg)/\fH (gl X scope C' (own++cap) fp s H) fu (lG K QX E C)/\PE (gl X scope C' (own++cap) fp s H) dm (bR K QX E M))
  (hs:∀x,foldedSetIterable iter X.env x=pure x:=by intro _;rfl):PE X (.ListComp dm [⟨tg,iter,fu,0⟩] scope pos) (bR K QX E (bo own.length ix it mg C M)):=PE.imp (ua B hc hi hb hs) (qV hk)
t%uY (B:aA X scope own cap ix)(hc:X.calm=true)(hi:PI X tg iter (Bi K QX E it))(hk:Keeps own.length mg)
  (hb:∀C' fp s H,PG (gl X scope C' (own++cap) fp s H) tg (vT K QX E mg)/\fH (gl X scope C' (own++cap) fp s H) fu (lG K QX E C)/\PE (gl X scope C' (own++cap) fp s H) dm (bR K QX E M))
  (hs:∀x,foldedSetIterable iter X.env x=pure x:=by intro _;rfl):PE X (.ListComp dm [⟨tg,iter,fu,0⟩] scope pos) (bR K QX E (ml own.length ix it mg C M)):=PE.imp (ua B hc hi hb hs) (pN hk)
t%yO {i:Nat}{y:Str}{py uh:Pos}(hN:X.N.Nodup)(OE:X.N[i]?=some y)(hx:X.env.scope.names.lookup y=some .local)(B:aA X scope own cap ix)(hc:X.calm=true)(hi:PI X tg iter (Bi K QX E it))(hk:Keeps own.length mg)
  (hb:∀C' fp s H,PG (gl X scope C' (own++cap) fp s H) tg (vT K QX E mg)/\fH (gl X scope C' (own++cap) fp s H) fu (lG K QX E C)/\PE (gl X scope C' (own++cap) fp s H) dm (bR K QX E M))
  (Op:x%(swapsWith (.ListComp dm [⟨tg,iter,fu,0⟩] scope pos) (some (.Name y py)) uh.line X.env=pure true))
  (hs:∀x,foldedSetIterable iter X.env x=pure x:=by intro _;rfl):PS X (.Assign [.Name y py] (.ListComp dm [⟨tg,iter,fu,0⟩] scope pos) uh) (kA K QX E (aY (bo own.length ix it mg C M) (aW i))):=PS.imp (yH hN OE hx B hc hi hb Op hs) (lj (qV hk) pi)
t%Eo {i:Nat}{y:Str}{py uh:Pos}(hN:X.N.Nodup)(OE:X.N[i]?=some y)(hx:X.env.scope.names.lookup y=some .local)(B:aA X scope own cap ix)(hc:X.calm=true)(hi:PI X tg iter (Bi K QX E it))(hk:Keeps own.length mg)
  (hb:∀C' fp s H,PG (gl X scope C' (own++cap) fp s H) tg (vT K QX E mg)/\fH (gl X scope C' (own++cap) fp s H) fu (lG K QX E C)/\PE (gl X scope C' (own++cap) fp s H) dm (bR K QX E M))
  (Op:x%(swapsWith (.ListComp dm [⟨tg,iter,fu,0⟩] scope pos) (some (.Name y py)) uh.line X.env=pure true))
  (hs:∀x,foldedSetIterable iter X.env x=pure x:=by intro _;rfl):PS X (.Assign [.Name y py] (.ListComp dm [⟨tg,iter,fu,0⟩] scope pos) uh) (kA K QX E (aY (ml own.length ix it mg C M) (aW i))):=PS.imp (yH hN OE hx B hc hi hb Op hs) (lj (pN hk) pi)
end
m%FM:=aN->List AV->(AV->aN->Prop)->(Addr->aN->Prop)->Prop
n%tW (K:PySem.W.Frag)(sp:Sp)(F:FM):Prop:=∀(w:Wd) (O:aN) (H:Hp) (vs:List V) (xs:List AV) (P:AV->aN->Prop) (PX:Addr->aN->Prop) (Q:VK) (E:XK),aJ K w O H->aZ K w (G w O H) vs xs->F O xs P PX ->
 (∀z q O' w' H',P q O'->ck w O H w' O' H'->aJ K w' O' H'->jW K w' (G w' O' H') z q->Q z H')->(∀c O' w' H',PX c O'->mB w O H w' O' H'->aJ K w' O' H'->E (.ref c) none H')->sp vs H Q E
n%cj (K:PySem.W.Frag)(F:FM):Sp:=fun vs H Q E=>∃w O xs P PX,aJ K w O H/\aZ K w (G w O H) vs xs/\F O xs P PX/\(∀z q O' w' H',P q O'->ck w O H w' O' H'->aJ K w' O' H'->jW K w' (G w' O' H') z q->Q z H')/\∀c O' w' H',PX c O'->mB w O H w' O' H'->aJ K w' O' H'->E (.ref c) none H'
t%iS {F:FM}:tW K (cj K F) F:=fun w O H vs xs P PX Q E r a f q x=>⟨w,O,xs,P,PX,r,a,f,q,x⟩
n%ay (F:FM)(QX:Addr->aN->Prop)(Ms:MA):ME:=fun sl O Q=>Ms sl O fun xs O1=>F O1 xs Q QX
t%Hu {CX:x6}{k:Nat}{f:Addr}{fd:FuncData}{ps:List Str}{sp:Sp}{F:FM}{x:Str}{e:Expr}{es:List Expr}{p pos:Pos}{Ms:MA}(G':aM X.prog X.w X.K X.mg X.base CX k f fd ps sp)(lk:tW K sp F)(hr:cR k X.A)(hg:Gl X x)(hm:X.mg x=some (.ref f))(hk:PySem.W.keepIn X.K (.ref f)=true)(hb:Binds X.K fd ps [])(hx:mn CX X E)
  (ha:PA X (e::es) (pV K QX E Ms)) (qa:y%((x == ("__debug__" : Str))=false)) (he:x%(starEach (e::es) X.env=(false,eval e X.env)::starEach es X.env)) (gk:x%((backTo pos (starEach es X.env)).any (·.1)=false)) :
  PE X (.Call (.Name x p) (e::es) [] pos) (bR K QX E (ay F QX Ms)):=PE.imp (j1 G' hr hg hm hk hb (BA:=[]) .nil hx ha qa he gk) fun σ H Q ⟨w,O,sl,Q0,c,m,q⟩=>⟨w,O,sl,_,c,m,fun xs O1 vs w1 H1 h1 e1 r1 a1=>by
 show sp (vs++[]) H1 Q E;rw[Yg];e%lk w1 O1 H1 vs xs _ QX Q E r1 a1 h1 (fun z z' O3 w3 H3 h3 e3 r3 a3=>q _ O3 z w3 H3 h3 (e1.trans e3) r3 a3) fun k O' w' H' qx e' r'=>c.zx k O' w' H' qx (e1.ex.trans e') r'⟩
n%cm:Addr->aN->Prop:=fun _ _=>False
t%cA {k:Nat}{f:Addr}{fd:FuncData}{ps:List Str}{sp:Sp}{F:FM}{x:Str}{e:Expr}{es:List Expr}{p pos:Pos}{Ms:MA}(G':aM X.prog X.w X.K X.mg X.base cP k f fd ps sp)(lk:tW K sp F)(hr:cR k X.A)(hg:Gl X x)(hm:X.mg x=some (.ref f))(hk:PySem.W.keepIn X.K (.ref f)=true)(hb:Binds X.K fd ps [])
  (ha:PA X (e::es) (pV K QX E Ms)) (qa:y%((x == ("__debug__" : Str))=false)) (he:x%(starEach (e::es) X.env=(false,eval e X.env)::starEach es X.env)) (gk:x%((backTo pos (starEach es X.env)).any (·.1)=false)) :
  PE X (.Call (.Name x p) (e::es) [] pos) (bR K QX E (ay F cm Ms)):=PE.imp (j1 G' hr hg hm hk hb (BA:=[]) .nil cz ha qa he gk) fun σ H Q ⟨w,O,sl,Q0,c,m,q⟩=>⟨w,O,sl,_,c,m,fun xs O1 vs w1 H1 h1 e1 r1 a1=>by
 show sp (vs++[]) H1 Q E0;rw[Yg];e%lk w1 O1 H1 vs xs _ cm Q E0 r1 a1 h1 (fun z z' O3 w3 H3 h3 e3 r3 a3=>q _ O3 z w3 H3 h3 (e1.trans e3) r3 a3) fun k O' w' H' qx e' r'=>qx.elim⟩
n%bf (N:List Str)(xs:List AV):iF:=xs.map some++List.replicate (N.length-xs.length) none
t%mG {N:List Str}{vs:List V}{xs:List AV}{g:Hp}(a:aZ K w g vs xs):bY K w g (L2.start N vs) (bf N xs):=by
 unfold L2.start bf;r%⟨by simp[a.1],fun i x hx=>?_⟩;rcases Zz i xs.length with y |y
 .rw[Zr (by simpa using y),Zg,Zc y] at hx;have ex:xs[i]=x:=by injection (Option.some.inj hx)
  have yv:i<vs.length:=by rw[a.1];e%y
  r%⟨vs[i],?_,a.2 i _ x (Zc yv) (by rw[Zc y,ex])⟩;rw[Zr (by simpa using yv),Zg,Zc yv];rfl
 .rw[Yp (by simpa using y),List.getElem?_replicate] at hx;split at hx
  .cases Option.some.inj hx
  .cases hx
variable {P:Program}{wo:World}{mg:Str->Option Value}{base:Heap}
t%m8 {x qual:Str}{st:Stmt}{f:Addr}{fd:FuncData}{N ps:List Str}{k:Nat}{F:FM}(U:cE K x qual st f fd)(S:ap N ps (aX st))(hl:∀O xs P PX,F O xs P PX->xs.length=ps.length)
  (hb:∀(bF:Value) (A:Around) (outer:List Env) (s:Shared) (H:Hp) (E:XK) (QX:Addr->aN->Prop),cR k (A.deeper (PyProof.Rows.envOfC qual (aX st) s.heap.objs.size f bF)) ->
   ∃M,iM (gR cP P wo K mg base N qual (aX st) f bF A outer s H E).Oa (Bn st) (kA K QX E M)/\∀O xs Pq,F O xs Pq QX->M { nx:=fun _ O'=>Pq (.im .none) O',rt:=Pq } (bf N xs) O):aM P wo K mg base cP (k+1) f fd ps (cj K F):=by
 r%U.ok S (fun vs H Q E ⟨w,O,xs,P,PX,r,a,h,q⟩=>by rw[a.1];e%hl O xs P PX h) (fun bF A outer s H vs Q E hr ⟨w,O,xs,P',PX,r,a,h,q,x⟩=>?_);o%⟨M,hM,hq⟩:=hb bF A outer s H E PX hr;e%⟨_,hM,w,O,bf N xs,_,⟨r,mG a,x⟩,hq O xs P' h,fun gO O' w' H' aD h' c' e'=>q _ _ O' w' H' h' e' c'.ro .bO,fun gO O' w' H' aD h' c' e'=>h'.elim,fun gO O' w' H' aD h' c' e'=>h'.elim,fun x' O' w' H' v h' e' r' a'=>q v x' O' w' H' h' e' r' a'⟩
t%PJ {x qual:Str}{st:Stmt}{f:Addr}{fd:FuncData}{N ps:List Str}{k:Nat}{F:FM}(U:cE K x qual st f fd)(S:ap N ps (aX st))(hl:∀O xs P PX,F O xs P PX->xs.length=ps.length)
  (hb:∀(bF:Value) (A:Around) (outer:List Env) (s:Shared) (H:Hp) (E:XK) (QX:Addr->aN->Prop),cR k (A.deeper (PyProof.Rows.envOfC qual (aX st) s.heap.objs.size f bF)) ->
   ∃M,iM (gR (kD P wo) P wo K mg base N qual (aX st) f bF A outer s H E) (Bn st) (kA K QX E M)/\∀O xs Pq,F O xs Pq QX->M { nx:=fun _ O'=>Pq (.im .none) O',rt:=Pq } (bf N xs) O):aM P wo K mg base (kD P wo) (k+1) f fd ps (cj K F):=by
 r%U.N9 S (fun vs H Q E ⟨w,O,xs,P,PX,r,a,h,q⟩=>by rw[a.1];e%hl O xs P PX h) (fun bF A outer s H vs Q E hr ⟨w,O,xs,P',PX,r,a,h,q,x⟩=>?_);o%⟨M,hM,hq⟩:=hb bF A outer s H E PX hr;e%⟨_,hM,w,O,bf N xs,_,⟨r,mG a,x⟩,hq O xs P' h,fun gO O' w' H' aD h' c' e'=>q _ _ O' w' H' h' e' c'.ro .bO,fun gO O' w' H' aD h' c' e'=>h'.elim,fun gO O' w' H' aD h' c' e'=>h'.elim,fun x' O' w' H' v h' e' r' a'=>q v x' O' w' H' h' e' r' a'⟩
n%rX (Mo:ME)(Ms:MA):ME:=fun sl O Q=>Mo sl O fun o O1=>match o with
 |.own k=>(∃c,O1[k]?=some (some c))/\Ms sl O1 fun xs O2=>match xs with
  |[y]=>∃c,O2[k]?=some (some c)/\c.length<sizeLine/\Q (.im .none) (O2.set k (some (c++[y])))
  |_=>False
 |_=>False
end
section
variable {K:PySem.W.Frag}{QX:Addr->aN->Prop}{E:XK}{X:Cx}{w:Wd}{O:aN}{H:Hp}
t%jh {o e:Expr}{Mo:ME}{Ms:MA}{fE bW:Pos}(ho:PE X o (bR K QX E Mo))(ha:PA X [e] (pV K QX E Ms))
  (uD:x%(attributeBase o "append" X.env (eval o X.env)=eval o X.env))
  (zS:((backTo bW (starEach [e] X.env)).all (fun x=>!x.1)&&(backToKw bW (keywordEach [] X.env)).all (fun x=>x.1.isSome)
   && decide ([e].length+([]:List Keyword).length+(if ([]:List Keyword).isEmpty then 0 else 1)<30))=true:=by rfl)
  (uC:x%((fE.endLine == bW.line)=true)) (hs:x%(starEach [e] X.env=(false,eval e X.env)::starEach [] X.env)) (wY:x%((backTo bW (starEach [] X.env)).any (·.1)=false)) :
  PE X (.Call (.Attribute o "append" fE) [e] [] bW) (bR K QX E (rX Mo Ms)):=PE.imp (CF PySem.F.plainAttrs_list PySem.F.slot_list_append PySem.F.type_list_append jL ho ha uD zS uC hs wY) fun σ H Q ⟨w,O,sl,Q0,c,m,q⟩=>⟨w,O,sl,_,c,m,fun o' O1 v w1 H1 h1 e1 r1 a1=>by
 split at h1
 .obtain⟨⟨c0,hc0⟩,h1⟩:=h1;o%⟨p,hp,rfl⟩:=a1;r%⟨.inl ⟨rfl,?_⟩,w1,O1,sl,_,c.ex e1.ex r1,h1,fun xs O2 vs w2 H2 h2 e2 r2 a2=>?_⟩
  .obtain⟨p1,nO,h0,g1,t1⟩:=r1.qe _ _ hc0;rw[hp] at h0;cases Option.some.inj h0;e%⟨nO,bz.of g1⟩
  .split at h2
   .obtain⟨c',jT,h2⟩:=h2;o%⟨v1,us,rfl,b1,b2⟩:=a2.aS;rw[b2.cc];o%⟨p1,nO,h0,g1,t1⟩:=r2.qe _ _ jT;rw[e2.ex.at hp] at h0;cases Option.some.inj h0;o%⟨r3,e3⟩:=r2.put jT (e2.ex.at hp) g1 (t1.app (aZ.cons b1 aZ.nil));e%⟨_,nO,v1,rfl,rfl,g1,by rw[t1.1];e%h2.1,q _ _ _ _ _ h2.2 ((e1.trans e2).trans e3) r3 .bO⟩
   .exact h2.elim
 .exact h1.elim⟩
structure oy (O O':aN):Prop where
 len:O'.length=O.length
 at':∀j:Nat,O'[j]?=O[j]? \/ O'[j]?=some none
t%oy.refl (O:aN):oy O O:=⟨rfl,fun _=>.inl rfl⟩
t%oy.set {O O':aN}(h:oy O O')(k:Nat):oy O (O'.set k none):=⟨by rw[Yl];e%h.len,fun j=>by
 by_cases e:k=j
 .subst e;rcases Zz k O'.length with y |y
  .exact .inr (Yf y)
  .rw[List.set_eq_of_length_le y];e%h.at' k
 .rw[Zw e];e%h.at' j⟩
t%aJ.less (r:aJ K w O H){O':aN}(h:oy O O'):aJ K w O' H/\ck w O H w O' H/\∀(j:Nat) a,O'[j]?=some none->w.cM[j]?=some a->G w O' H a=H a:=by
 have back:∀(j:Nat) c,O'[j]?=some (some c)->O[j]?=some (some c):=fun j c hj=>by
  rcases h.at' j with e |e
  .rw[<- e];e%hj
  .rw[e] at hj;cases Option.some.inj hj
 have om:∀x,kC w O' x->kC w O x:=fun x h=>by
  rcases h with h |h |⟨j,d,h1,h2⟩
  .exact .inl h
  .exact .inr (.inl h)
  .exact .inr (.inr ⟨j,d,h1,back j d h2⟩)
 have sg:ak (G w O H) (G w O' H):=fun x o h=>by
  o%⟨h1,h2⟩:=gD h;rw[iY (fun z=>h2 (om x z))];e%h1
 have e:ck w O H w O' H:=⟨⟨⟨[],by simp⟩,⟨[],by simp⟩,⟨[],by simp⟩,sg⟩,rfl⟩;r%⟨⟨by rw[h.len];e%r.len,r.nd,r.al,r.nb,r.hn,r.nh,r.bg,fun j d hj=>?_⟩,e,fun j a hj ha=>?_⟩
 .obtain⟨a',us,h1,h2,h3⟩:=r.qe j d (back j d hj);e%⟨a',us,h1,h2,h3.ex e.ex⟩
 .rw[iY];rintro(h1 |⟨o,h1⟩ |⟨i,d,h1,h2⟩)
  .exact r.nb _ h1 (Yc ha)
  .exact(r.nh _ h1).1 (Yc ha)
  .have:j=i:=(List.getElem?_inj (Zd.mp ha).1 r.nd).mp (ha.trans h1.symm);subst this;rw[hj] at h2;cases Option.some.inj h2
t%aJ.Jo (r:aJ K w O H){O':aN}(h:oy O O'){k:Nat}{ds:List PyData}{a:Addr}(hk:O[k]?=some (some (ds.map .im)))(zD:O'[k]?=some none)(ha:w.cM[k]?=some a):cB (G w O' H) (.ref a) (.list ds):=by
 o%⟨r1,e1,g1⟩:=r.less h;o%⟨a',vs,h1,h2,h3⟩:=r.qe k _ hk;rw[ha] at h1;cases Option.some.inj h1;e%.lst (xs:=vs) (by rw[g1 k a zD ha];e%h2) (aZ.tr (h3.ex e1.ex))
t%uQ {α : Type}{xs:List α}{i:Nat}{x:α}(h:xs[i]?=some x):xs.set i x=xs:=by
 apply List.ext_getElem?;intro j;by_cases e:i=j
 .subst e;rw[Yf (Zd.mp h).1,h]
 .rw[Zw e]
n%KO (i:Nat)(M:MS):MS:=fun D sl O=>∃(k:Nat) (ds:List PyData),sl[i]?=some (some (.own k))/\O[k]?=some (some (ds.map .im))/\M D (sl.set i (some (.im (.list ds)))) (O.set k none)
t%Db (i:Nat){Nz:List Stmt}{M:MS}(h:iM X Nz (kA K QX E M)):iM X Nz (kA K QX E (KO i M)):=iM.imp h fun D σ H ⟨w,O,sl,D0,c,⟨k,ds,h1,h2,m⟩,hn,hb,hc,hr⟩=>by
 have hL:=(oy.refl O).set k;o%⟨r1,e1,_⟩:=c.ro.less hL;o%⟨v,hv,a,ha,rfl⟩:=c.so.2 i _ h1;have t:=c.ro.Jo hL h2 (Yf (Zd.mp h2).1) ha;have c2:=(c.ex e1.ex r1).put (x:=.im (.list ds)) t i;rw[uQ hv] at c2;e%⟨w,_,_,D0,c2,m,fun cy O2 w2 H2 dz h2 c2 e2=>hn cy O2 w2 H2 dz h2 c2 (e1.trans e2),fun cy O2 w2 H2 dz h2 c2 e2=>hb cy O2 w2 H2 dz h2 c2 (e1.trans e2),fun cy O2 w2 H2 dz h2 c2 e2=>hc cy O2 w2 H2 dz h2 c2 (e1.trans e2),fun x O2 w2 H2 v h2 e2 r2 a2=>hr x O2 w2 H2 v h2 (e1.trans e2) r2 a2⟩
n%vX (O:aN):List Nat->aN
 |[]=>O
 |k::ks=>vX (O.set k none) ks
t%lz:∀(ks:List Nat) {O O':aN},oy O O'->oy O (vX O' ks)
 |[],_,_,h=>h
 |k::ks,_,_,h=>lz ks (h.set k)
t%lA:∀(ks:List Nat) {O:aN}{j:Nat},O[j]?=some none->(vX O ks)[j]?=some none
 |[],_,_,h=>h
 |k::ks,O,j,h=>lA ks (by
  by_cases e:k=j
  .subst e;e%Yf (Zd.mp h).1
  .rw[Zw e];e%h)
t%ko:∀(ks:List Nat) {O:aN}{j:Nat},j∈ks->j<O.length->(vX O ks)[j]?=some none
 |k::ks,O,j,h,hl=>by
  rcases Zf.mp h with e |e
  .subst e;e%lA ks (Yf hl)
  .exact ko ks e (by rw[Yl];e%hl)
t%km:∀(ks:List Nat) {O:aN}{j:Nat},j∉ks->(vX O ks)[j]?=O[j]?
 |[],_,_,_=>rfl
 |k::ks,O,j,h=>by
  show(vX (O.set k none) ks)[j]?=_;rw[km ks (fun z=>h (Zk _ z))];e%Zw (fun(z:k=j)=>h (by rw[z];e%Zo))
n%qH (i:Nat)(M:MS):MS:=fun D sl O=>∃(k:Nat) (ks:List Nat) (Ij:List (List PyData)),sl[i]?=some (some (.own k))/\O[k]?=some (some (ks.map .own))/\ks.length=Ij.length/\(∀(j:Nat) kj,ks[j]?=some kj->O[kj]?=some (some ((Ij.getD j []).map .im))) /\
 M D (sl.set i (some (.im (.list (Ij.map .list))))) (vX O (k::ks))
t%yB {g:Hp}:∀{vs:List V}{ds:List PyData},vs.length=ds.length->(∀(j:Nat) v d,vs[j]?=some v->ds[j]?=some d->cB g v d)->aP g vs ds
 |[],[],_,_=>.nil
 |v::vs,d::ds,h,f=>.cons (f 0 v d rfl rfl) (yB (by simpa using h) fun j v' d' h1 h2=>f (j+1) v' d' (by simpa using h1) (by simpa using h2))
t%nH (i:Nat){Nz:List Stmt}{M:MS}(h:iM X Nz (kA K QX E M)):iM X Nz (kA K QX E (qH i M)):=iM.imp h fun D σ H ⟨w,O,sl,D0,c,⟨k,ks,Ij,h1,h2,hl,h3,m⟩,hn,hb,hc,hr⟩=>by
 have hL:=lz (k::ks) (oy.refl O);o%⟨r1,e1,g1⟩:=c.ro.less hL;o%⟨v,hv,a,ha,rfl⟩:=c.so.2 i _ h1;have Ih:=(Zd.mp h2).1;o%⟨a',vs,q1,q2,q3⟩:=c.ro.qe k _ h2;rw[ha] at q1;cases Option.some.inj q1;have t:cB (G w (vX O (k::ks)) H) (.ref a) (.list (Ij.map .list)):=by
  r%.lst (xs:=vs) (by rw[g1 k a (ko _ Zo Ih) ha];e%q2) (yB (by rw[q3.1,Zb,Zb,hl]) fun j v d hv hd=>?_);have hj:j<Ij.length:=by have:=(Zd.mp hd).1;simpa using this
  have zD:ks[j]?=some ks[j]:=Zc g%;have:=q3.2 j v (.own ks[j]) hv (by rw[Zg,zD];rfl);o%⟨p,hp,rfl⟩:=this;have hO:=h3 j _ zD;rw[Zg,Zc hj] at hd;have U3:d=.list (Ij.getD j []):=by rw[gj (Zc hj)];e%(Option.some.inj hd).symm
  rw[U3];e%c.ro.Jo hL hO (ko _ (Zk _ (Yc zD)) (Zd.mp hO).1) hp
 have c2:=(c.ex e1.ex r1).put (x:=.im (.list (Ij.map .list))) t i;rw[uQ hv] at c2;e%⟨w,_,_,D0,c2,m,fun cy O2 w2 H2 dz h2 c2 e2=>hn cy O2 w2 H2 dz h2 c2 (e1.trans e2),fun cy O2 w2 H2 dz h2 c2 e2=>hb cy O2 w2 H2 dz h2 c2 (e1.trans e2),fun cy O2 w2 H2 dz h2 c2 e2=>hc cy O2 w2 H2 dz h2 c2 (e1.trans e2),fun x O2 w2 H2 v h2 e2 r2 a2=>hr x O2 w2 H2 v h2 (e1.trans e2) r2 a2⟩
n%PZ (M:ME):ME:=fun sl O Q=>M sl O fun x O1=>match x with
 |.im (.int i)=>Q (.im (.int (-i))) O1
 |_=>False
t%Dd {a:Expr}{M:ME}{pos:Pos}(h:PE X a (bR K QX E M)):PE X (.UnaryOp .USub a pos) (bR K QX E (PZ M)):=PE.imp (CD wz h) fun σ H Q ⟨w,O,sl,Q0,c,m,q⟩=>⟨w,O,sl,_,c,m,fun x O1 v w1 H1 h1 e1 r1 a1=>by
 split at h1
 .exact⟨_,lH a1,q _ O1 _ w1 H1 h1 e1 r1 (.int _)⟩
 .exact h1.elim⟩
n%cG:FM:=fun O xs P _=>match xs with
 |[.bag _,.im (.int m)]=>(0<m/\m<1073741824)/\∀r:Int,0<=r->r<m->P (.im (.int r)) O
 |_=>False
t%qd:tW K jd cG:=fun w O H vs xs P PX Q E r a hf q x=>by
 unfold cG at hf;split at hf
 .obtain⟨v,us,rfl,h1,h2⟩:=a.aS;o%⟨v2,NV,rfl,h3,h4⟩:=h2.aS;rw[h4.cc];o%⟨b,hb,rfl⟩:=h1;rw[lH h3];have bu:=Yc hb;r%⟨b,_,rfl,r.bg b bu,hf.1.1,hf.1.2,fun i H' h0 hm hB hK=>?_⟩;o%⟨r1,e1,_⟩:=r.draw bu hK hB;e%q _ _ O w H' (hf.2 i h0 hm) e1 r1 (.int _)
 .exact hf.elim
n%K2:FM:=fun O xs P _=>match xs with
 |[.rF _,.im (.int k)]=>(0<=k/\k<100)/\∀j,P (.bag j) O
 |_=>False
t%M0:tW K (yc K) K2:=fun w O H vs xs P PX Q E r a hf q x=>by
 unfold K2 at hf;split at hf
 .obtain⟨v,us,rfl,h1,h2⟩:=a.aS;o%⟨v2,NV,rfl,h3,h4⟩:=h2.aS;rw[h4.cc];o%⟨b,rfl,hb⟩:=h1;rw[lH h3];r%⟨b,_,_,rfl,KG.bz.az hb mX,hf.1.1,hf.1.2,fun p c d hp=>?_⟩;o%⟨r1,e1⟩:=r.bag (x:=c) (y:=d) hp;e%q _ _ O _ _ (hf.2 w.eR.length) e1 r1 ⟨p,by simp,rfl⟩
 .exact hf.elim
t%IL (r:aJ K w O H){p:Addr}{q:Rat}(hp:H p=none):aJ K w O (aK H p (qO q))/\ck w O H w O (aK H p (qO q))/\cB (G w O (aK H p (qO q))) (.ref p) (qD q):=jD r hp (.cons (.int _) (.cons (.int _) .nil))
t%tq (r:aJ K w O H){p:Addr}{q:Rat}{H':Hp}(s:ak H H')(hp:H' p=some (qO q)):aJ K w O H'/\ck w O H w O H'/\cB (G w O H') (.ref p) (qD q):=jM r s hp (.cons (.int _) (.cons (.int _) .nil))
t%R9 {v:V}{q:Rat}(h:cB (G w O H) v (qD q)):∃p,v=.ref p/\H p=some (qO q):=by
 o%⟨a,xs,rfl,h1,t⟩:=d7 h;cases t with |cons t1 t2=>cases t2 with |cons t2 t3=>cases t3;cases t1;cases t2;e%⟨a,rfl,h1⟩
n%f2 (op:Rat->Rat->Rat):FM:=fun O xs P _=>∃a b,xs=[.im (qD a),.im (qD b)]/\(Rb 3000 a/\Rb 3000 b)/\P (.im (qD (op a b))) O
t%wj {op:Rat->Rat->Rat}:tW K (tX op) (f2 op):=fun w O H vs xs P PX Q E r a hf q x=>by
 o%⟨a1,b1,rfl,h0,hf⟩:=hf;o%⟨v,us,rfl,h1,h2⟩:=a.aS;o%⟨v2,NV,rfl,h3,h4⟩:=h2.aS;rw[h4.cc];o%⟨p1,rfl,g1⟩:=R9 h1;o%⟨p2,rfl,g2⟩:=R9 h3;r%⟨p1,p2,a1,b1,rfl,g1,g2,h0.1,h0.2,fun p hp=>?_⟩;o%⟨r1,e1,t1⟩:=IL r hp;e%q _ _ O w _ hf e1 r1 t1
t%yt {g:Hp}:∀{qs:List Rat}{ys:List V},aP g ys (qs.map qD)->lR g ys qs
 |[],_,h=>by cases h;e%⟨rfl,fun j y h=>by simp at h⟩
 |q::qs,_,h=>by
  cases h with |cons h1 h2=>?_
  have ih:=yt h2;cases h1 with |tup h3 h4=>?_
  cases h4 with |cons t1 t2=>?_
  cases t2 with |cons t2 t3=>?_
  cases t3
  cases t1
  cases t2
  r%⟨by simp[ih.1],fun j y hy=>?_⟩;cases j with
  |zero=>e%⟨_,(Option.some.inj hy).symm,h3⟩
  |succ j=>e%ih.2 j y (by simpa using hy)
n%K1:FM:=fun O xs P _=>∃qs:List Rat,xs=[.im (.list (qs.map qD))]/\((∀q∈qs,Rb 300 q)/\qs.length<=8)/\P (.im (qD (cr qs))) O
t%yR:tW K uv K1:=fun w O H vs xs P PX Q E r a hf q x=>by
 o%⟨qs,rfl,h0,hf⟩:=hf;o%⟨v,us,rfl,h1,h2⟩:=a.aS;rw[h2.cc];o%⟨p,ys,rfl,g1,t1⟩:=gZ h1;r%⟨p,ys,qs,rfl,g1,(yt t1).az mX,h0.1,h0.2,fun r' H' s iK=>?_⟩;o%⟨r1,e1,t2⟩:=tq r s iK;e%q _ _ O w H' hf e1 r1 t2
end
section
variable {n:Nat}{ix:List Nat}{items:List AV}{M:ME}{C:MT}{sl:iF}{O:aN}{Q:AV->aN->Prop}
t%vk (R:Nat->PyData->Prop)(hl:items.length<=1000000)
  (hs:∀(i:Nat) x (Z:AV->aN->Prop),items[i]?=some x->(∀d,R i d->Z (.im d) O)->M ((fz n ix sl).set 0 (some x)) O Z)
  (hd:∀ds:List PyData,ds.length=items.length->(∀j,j<ds.length->R j (ds.getD j .none))->Q (.im (.list ds)) O):CB n ix (aW 0) cb M sl Q items O:=by
 r%⟨hl,fun i ds O'=>O'=O/\ds.length=i/\∀j,j<ds.length->R j (ds.getD j .none),⟨rfl,rfl,fun j hj=>absurd hj i%⟩,?_,fun ds O' ⟨e,h1,h2⟩=>e▸hd ds h1 h2⟩;rintro i x ds O' hx ⟨rfl,Ox,hR⟩;r%⟨fun _=>hs i x _ hx fun d U1=>⟨rfl,by simp[Ox],fun j hj=>?_⟩,fun z=>by cases z⟩;rcases Zz j ds.length with y |y
 .have:(ds++[d]).getD j .none=ds.getD j .none:=by simp[List.getD,Zr y]
  rw[this];e%hR j y
 .have p9:j=ds.length:=by simp at hj;omega
  subst p9;have:(ds++[d]).getD ds.length .none=d:=by simp[List.getD]
  rw[this,Ox];e%U1
t%HD {ds:List PyData}{f:Nat->PyData}(h:∀j,j<ds.length->ds.getD j .none=f j):ds=(List.range ds.length).map f:=by
 apply List.ext_getElem?;intro j;rw[Zg];rcases Zz j ds.length with y |y
 .rw[Yq y,Option.map_some,<- h j y,gj (Zc y)];e%Zc y
 .rw[Yo y,Yo (by simpa using y)];rfl
t%lK (f:Nat->PyData)(hl:items.length<=1000000)
  (hs:∀(i:Nat) x (Z:AV->aN->Prop),items[i]?=some x->Z (.im (f i)) O->M ((fz n ix sl).set 0 (some x)) O Z)
  (hd:Q (.im (.list ((List.range items.length).map f))) O):CB n ix (aW 0) cb M sl Q items O :=
 vk (fun i d=>d=f i) hl (fun i x Z hx h=>hs i x Z hx (h _ rfl)) fun ds h1 h2=>by rw[HD h2,h1];e%hd
t%fk (c:Nat->Bool)(f:Nat->PyData)(hl:items.length<=1000000)
  (hc:∀(i:Nat) x (Z:Bool->aN->Prop),items[i]?=some x->Z (c i) O->C ((fz n ix sl).set 0 (some x)) O Z)
  (hs:∀(i:Nat) x (Z:AV->aN->Prop),items[i]?=some x->c i=true->Z (.im (f i)) O->M ((fz n ix sl).set 0 (some x)) O Z)
  (hd:Q (.im (.list (((List.range items.length).filter c).map f))) O):CB n ix (aW 0) C M sl Q items O:=by
 r%⟨hl,fun i ds O'=>O'=O/\ds=((List.range i).filter c).map f,⟨rfl,rfl⟩,?_,fun ds O' ⟨e,h1⟩=>by rw[e,h1];e%hd⟩;rintro i x ds O' hx ⟨rfl,rfl⟩;e%hc i x _ hx ⟨fun h=>hs i x _ hx h ⟨rfl,by rw[zz,h,if_pos rfl]⟩,fun h=>⟨rfl,by rw[zz,h,if_neg d%,Yg]⟩⟩
t%rj (R:Nat->AV->Prop)(hl:items.length<=1000000)
  (hs:∀(i:Nat) x (Z:AV->aN->Prop),items[i]?=some x->(∀d,R i d->Z d O)->M ((fz n ix sl).set 0 (some x)) O Z)
  (hd:∀zs:List AV,zs.length=items.length->(∀j z,zs[j]?=some z->R j z)->Q (.own O.length) (O++[some zs])):V3 n ix (aW 0) cb M sl Q items O:=by
 r%⟨hl,fun i zs O'=>O'=O/\zs.length=i/\∀(j:Nat) z,zs[j]?=some z->R j z,⟨rfl,rfl,fun j z hj=>by simp at hj⟩,?_,fun zs O' ⟨e,h1,h2⟩=>e▸hd zs h1 h2⟩;rintro i x zs O' hx ⟨rfl,Ox,hR⟩;r%⟨fun _=>hs i x _ hx fun d U1=>⟨rfl,by simp[Ox],fun j z hj=>?_⟩,fun z=>by cases z⟩;rcases Zz j zs.length with y |y
 .rw[Zr y] at hj;e%hR j z hj
 .have p9:=(Zd.mp hj).1;have:j=zs.length:=by simp at p9;omega
  subst this;simp at hj;rw[<- hj,Ox];e%U1
t%lN (lo:Int)(n:Nat):(uj lo n).length=n:=by unfold uj;simp
t%Lz {lo:Int}{n i:Nat}{x:AV}(h:(uj lo n)[i]?=some x):i<n/\x=.im (.int (lo+(i:Int))):=by
 unfold uj at h;have hi:i<n:=by have:=(Zd.mp h).1;simpa using this
 rw[Zg,Yq hi] at h;e%⟨hi,(Option.some.inj h).symm⟩
t%qy {n i:Nat}{x:AV}(h:(uj 0 n)[i]?=some x):i<n/\x=.im (.int (i:Int)):=by
 o%⟨h1,h2⟩:=Lz h;e%⟨h1,by rw[h2,Int.zero_add]⟩
t%dI {i j:Int}:min (PyData.int i).depth (PyData.int j).depth<=60:=by show min 0 0<=60;decide
t%BO {α : Type}{x:α}:[x].length<=sizeLine:=by show 1<=sizeLine;decide
t%dY {α : Type}{x y:α}:[x,y].length<=sizeLine:=by show 2<=sizeLine;decide
t%BN {α : Type}{x y z:α}:[x,y,z].length<=sizeLine:=by show 3<=sizeLine;decide
t%ow {n:Int}(h:n.natAbs<2 ^ 40):Bd 8000 n:=Ya h (Nat.pow_le_pow_right d% d%)
t%aI {α : Type}{xs:List α}{i:Nat}{x:α}(h:xs[i]?=some x):iT xs (i:Int)=some x:=fj h
n%cW (O O':aN):Prop:=∃t,O'=O++t
t%cW.refl (O:aN):cW O O:=⟨[],by simp⟩
t%cW.app {O O':aN}(h:cW O O')(c:Option (List AV)):cW O (O'++[c]):=by o%⟨t,rfl⟩:=h;e%⟨t++[c],by simp⟩
t%cW.set {O O':aN}(h:cW O O'){k:Nat}(hk:O.length<=k)(c:Option (List AV)):cW O (O'.set k c):=by
 o%⟨t,rfl⟩:=h;e%⟨t.set (k-O.length) c,by rw[List.set_append,if_neg g%]⟩
t%cW.none {O:aN}:∀{ks:List Nat}{O':aN},cW O O'->(∀k∈ks,O.length<=k)->cW O (vX O' ks)
 |[],_,h,_=>h
 |k::ks,_,h,hk=>cW.none (ks:=ks) (h.set (hk k Zo) _) fun j hj=>hk j (Zk _ hj)
n%io (A:List Int)(Pu:List Rat)(W:List (List Int)):PyData:=.tuple [.tuple (A.map .int),.tuple (Pu.map qD),.tuple (W.map bU)]
t%EM {R:Nat->Int->Prop}:∀{ds:List PyData},(∀j,j<ds.length->∃q:Int,ds.getD j .none=.int q/\R j q)->∃qs:List Int,ds=qs.map .int/\∀j,j<qs.length->R j (qs.getD j 0):=by
 intro ds;induction ds generalizing R with
 |nil=>intro _;e%⟨[],rfl,fun j hj=>absurd hj i%⟩
 |cons d ds ih =>
  intro h;o%⟨q,e,hq⟩:=h 0 i%;o%⟨qs,e2,h2⟩:=ih (R:=fun j=>R (j+1)) fun j hj=>by
   o%⟨q',e',h'⟩:=h (j+1) (by simp;omega);e%⟨q',by simpa[List.getD] using e',h'⟩
  r%⟨q::qs,?_,fun j hj=>?_⟩
  .have e':d=.int q:=by simpa[List.getD] using e
   rw[e',e2];rfl
  .cases j with
   |zero=>e%hq
   |succ j=>e%h2 j (by simpa using hj)
t%rk {R:Nat->Int->Prop}:∀{ds:List AV},(∀(j:Nat) z,ds[j]?=some z->∃q:Int,z=.im (.int q)/\R j q)->∃qs:List Int,ds=qs.map (fun i=>AV.im (.int i))/\∀j,j<qs.length->R j (qs.getD j 0):=by
 intro ds;induction ds generalizing R with
 |nil=>intro _;e%⟨[],rfl,fun j hj=>absurd hj i%⟩
 |cons d ds ih =>
  intro h;o%⟨q,e,hq⟩:=h 0 d rfl;o%⟨qs,e2,h2⟩:=ih (R:=fun j=>R (j+1)) fun j z hj=>h (j+1) z (by simpa using hj)
  r%⟨q::qs,by rw[e,e2];rfl,fun j hj=>?_⟩;cases j with
  |zero=>e%hq
  |succ j=>e%h2 j (by simpa using hj)
t%eF {α β : Type}{f:α->β}{xs:List α}{j:Nat}{d:α}(h:j<xs.length):(xs.map f)[j]?=some (f (xs.getD j d)):=by
 rw[Zg,Zc h,gj (Zc h)];rfl
end
section
variable {K:PySem.W.Frag}{QX:Addr->aN->Prop}{E:XK}{X:Cx}{w:Wd}{O:aN}{H:Hp}
t%PE.rV {e:Expr}{M M':ME}(h:PE X e (bR K QX E M))(i:∀sl O Q,M' sl O Q->M sl O Q):PE X e (bR K QX E M'):=PE.imp h fun σ H Q ⟨w,O,sl,Q0,c,m,q⟩=>⟨w,O,sl,Q0,c,i sl O Q0 m,q⟩
t%PA.rV {es:List Expr}{M M':MA}(h:PA X es (pV K QX E M))(i:∀sl O Q,M' sl O Q->M sl O Q):PA X es (pV K QX E M'):=PA.imp h fun σ H Q ⟨w,O,sl,Q0,c,m,q⟩=>⟨w,O,sl,Q0,c,i sl O Q0 m,q⟩
t%tf:∀ds:List PyData,Fw (ds.map .im)=some ds
 |[]=>rfl
 |d::ds=>by show(match Fw (ds.map .im) with |some ds=>some (d::ds) |none=>none)=_;rw[tf ds]
m%WC:ni:=BP QC fun i j=>.int (i ^ j.toNat)
t%MP {Ma Mb:ME}{a b:Expr}{pos:Pos}(ha:PE X a (bR K QX E Ma))(hb:PE X b (bR K QX E Mb)):PE X (.BinOp a .Pow b pos) (bR K QX E (aG WC Ma Mb)):=qG sj (sW fun _ _ _=>.int _) ha hb
n%mCs (ds:List PyData):MA:=fun _ O Q=>Q (ds.map .im) O
t%sT {n:Nat}(ih:∀(e:Expr) (d:PyData),lit (fun _=>none) n e=some d->PE X e (bR K QX E (mC d))):∀(es:List Expr) (ds:List PyData),mV (lit (fun _=>none) n) es=some ds->PA X es (pV K QX E (mCs ds))
 |[],ds,h=>by
  simp[mV] at h;subst h;e%PA.rV aB fun sl O Q q=>q
 |e::es,ds,h=>by
  unfold mV at h;split at h
  .next d Se h1 h2 =>
   cases h
   e%PA.rV (au (ih e d h1) (sT ih es Se h2) (u7 h1)) fun sl O Q q=>q
  .cases h
t%Df:∀(n:Nat) (e:Expr) (d:PyData),lit (fun _=>none) n e=some d->PE X e (bR K QX E (mC d)):=by
 intro n;induction n with
 |zero=>intro e d h;cases h
 |succ n ih =>
  intro e d h;have h:wk (fun _=>none) (lit (fun _=>none) n) e=some d:=h;unfold wk at h;split at h
  .cases h
  .cases h;e%bJ
  .cases h;e%pX
  .cases h;e%oX
  .split at h
   .next ok=>cases h;e%oW ok
   .cases h
  .split at h
   .next i e1=>cases h;e%PE.rV (Dd (ih _ _ e1)) fun sl O Q q=>q
   .cases h
  .split at h
   .next i j e1 e2=>cases h;e%PE.rV (pY (ih _ _ e1) (ih _ _ e2)) fun sl O Q q=>q
   .cases h
  .split at h
   .next i j e1 e2=>cases h;e%PE.rV (mh (ih _ _ e1) (ih _ _ e2)) fun sl O Q q=>q
   .cases h
  .split at h
   .next i j e1 e2 =>
    split at h
    .next hc=>cases h;e%PE.rV (MP (ih _ _ e1) (ih _ _ e2)) fun sl O Q q=>⟨hc,q⟩
    .cases h
   .cases h
  .split at h
   .next hl =>
    o%⟨ds,e1,rfl⟩:=Option.map_eq_some_iff.mp h;r%PE.rV (nR (sT ih _ _ e1)) fun sl O Q q=>?_
    show(match Fw (ds.map .im) with |some ds=>ds.length<=sizeLine/\Q (.im (.tuple ds)) O |none=>False);rw[tf];e%⟨by rw[ju e1,sz];omega,q⟩
   .cases h
  .split at h
   .next hl =>
    o%⟨ds,e1,rfl⟩:=Option.map_eq_some_iff.mp h;r%PE.rV (rG (sT ih _ _ e1)) fun sl O Q q=>?_
    show(match Fw (ds.map .im) with |some ds=>ds.length<=sizeLine/\Q (.im (.list ds)) O |none=>False);rw[tf];e%⟨by rw[ju e1,sz];omega,q⟩
   .cases h
  .cases h
section
variable {e:Expr}{M:ME}{p p2 pos:Pos}
t%Jw (Z:rM K)(he:PE X e (bR K QX E M))(hg:Gl X "isinstance")(hm:X.mg "isinstance"=none)(Bx:Gl X "tuple")(Bt:X.mg "tuple"=none)(h:x%(X.K=K))
  (hs:x%(starEach [e,.Name "tuple" p2] X.env=[(false,eval e X.env),(false,eval (.Name "tuple" p2) X.env)])) (gk:x%((backTo pos (starEach [.Name "tuple" p2] X.env)).any (·.1)=false)) :
  PE X (.Call (.Name "isinstance" p) [e,.Name "tuple" p2] [] pos) (bR K QX E (n9 p6 M)):=PE.imp (nY K he hg hm Bx Bt m9 nU h d% d% hs gk) (u9 fun d hd=>by
 cases d with
 |none=>e%Z.t1
 |bool b=>e%Z.t2
 |int i=>e%Z.t3
 |str x=>e%Z.t4
 |list x=>e%Z.t5
 |tuple x=>e%Z.t6
 |dict x=>e%absurd rfl (hd x))
t%xx (Z:rM K)(he:PE X e (bR K QX E M))(hg:Gl X "isinstance")(hm:X.mg "isinstance"=none)(Bx:Gl X "bool")(Bt:X.mg "bool"=none)(h:x%(X.K=K))
  (hs:x%(starEach [e,.Name "bool" p2] X.env=[(false,eval e X.env),(false,eval (.Name "bool" p2) X.env)])) (gk:x%((backTo pos (starEach [.Name "bool" p2] X.env)).any (·.1)=false)) :
  PE X (.Call (.Name "isinstance" p) [e,.Name "bool" p2] [] pos) (bR K QX E (n9 RS M)):=PE.imp (nY K he hg hm Bx Bt boot_bool nU h d% d% hs gk) (u9 fun d hd=>by
 cases d with
 |none=>e%Z.b1
 |bool b=>e%Z.b2
 |int i=>e%Z.b3
 |str x=>e%Z.b4
 |list x=>e%Z.b5
 |tuple x=>e%Z.b6
 |dict x=>e%absurd rfl (hd x))
end
t%zo {xs:List PyData}{r:Int}(h0:0<=r)(h1:r<xs.length):cutD xs none (some r)=xs.take r.toNat:=by
 have e1:HT.cO xs.length xs.length (some r)=r.toNat:=by
  show(if r<0 then (r+(xs.length:Int)).toNat else min r.toNat xs.length)=_;rw[if_neg g%];omega
 unfold cutD;rw[HT.pq,e1];simp
t%jN {xs:List PyData}{r:Int}(h0:0<=r)(h1:r<=xs.length):cutD xs (some r) none=xs.drop r.toNat:=by
 have e1:HT.cO xs.length 0 (some r)=r.toNat:=by
  show(if r<0 then (r+(xs.length:Int)).toNat else min r.toNat xs.length)=_;rw[if_neg g%];omega
 unfold cutD;rw[HT.pq,e1,List.take_of_length_le];rw[List.length_drop];omega
mutual
theorem cB.JT {g:Hp}:∀{v:V}{d:PyData},cB g v d->∃n:Nat,∀b,n<=b->iU b g v d
 |_,_,.bO=>⟨0,fun b _=>.bO⟩
 |_,_,.bl c=>⟨0,fun b _=>.bl c⟩
 |_,_,.int i=>⟨0,fun b _=>.int i⟩
 |_,_,.str x o=>⟨0,fun b _=>.str x o⟩
 |_,_,.lst (a:=a) h t=>by
  o%⟨n,hn⟩:=aP.JT t;e%⟨n+a+1,fun b hb=>.lst (Yd g%) h (hn b g%)⟩
 |_,_,.tup h t=>by
  o%⟨n,hn⟩:=aP.JT t;e%⟨n,fun b hb=>.tup h (hn b hb)⟩
theorem aP.JT {g:Hp}:∀{vs:List V}{ds:List PyData},aP g vs ds->∃n:Nat,∀b,n<=b->bX b g vs ds
 |_,_,.nil=>⟨0,fun b _=>.nil⟩
 |_,_,.cons h t=>by
  o%⟨n,hn⟩:=cB.JT h;o%⟨m,hm⟩:=aP.JT t;e%⟨n+m,fun b hb=>.cons (hn b g%) (hm b g%)⟩
end
t%Gm {vs:List V}{x:AV}{g:Hp}(a:aZ K w g vs [x]):∃v,vs=[v]/\jW K w g v x:=by
 o%⟨v,us,rfl,h1,h2⟩:=a.aS;rw[h2.cc];e%⟨v,rfl,h1⟩
t%Ca {vs:List V}{x y:AV}{g:Hp}(a:aZ K w g vs [x,y]):∃v u,vs=[v,u]/\jW K w g v x/\jW K w g u y:=by
 o%⟨v,us,rfl,h1,h2⟩:=a.aS;o%⟨u,rfl,h3⟩:=Gm h2;e%⟨v,u,rfl,h1,h3⟩
n%fT (m:PyData->Bool):FM:=fun O xs P _=>match xs with
 |[.im d]=>P (.im (.bool (m d))) O
 |_=>False
t%KR {m:PyData->Bool}:tW K (spT m) (fT m):=fun w O H vs xs P PX Q E r a hf q x=>by
 unfold fT at hf;split at hf
 .obtain⟨v,rfl,h1⟩:=Gm a;o%⟨n,hn⟩:=cB.JT (cB.az mX h1);r%⟨n,v,_,rfl,hn n (Ze _),fun H' s=>?_⟩;o%⟨r1,e1,_⟩:=r.az s;e%q _ _ O w H' hf e1 r1 (.bl _)
 .exact hf.elim
t%Ft {α : Type}{f:α->PyData}(h:∀a,tP (f a)=true):∀xs:List α,mU (xs.map f)=true
 |[]=>rfl
 |a::xs=>by show(tP (f a)&&mU (xs.map f))=true;rw[h a,Ft h xs];rfl
t%IK (q:Rat):tP (qD q)=true:=rfl
t%MK (qs:List Rat):tP (.tuple (qs.map qD))=true:=Ft IK qs
t%nD (r:List Int):tP (bU r)=true:=Ft (f:=PyData.int) (fun _=>rfl) r
t%Hm (D:List (List Rat)):tP (bC D)=true:=Ft (f:=fun qs:List Rat=>PyData.tuple (qs.map qD)) (fun qs=>MK qs) D
t%ML (A:List Int)(Pu:List Rat)(W:List (List Int)):tP (io A Pu W)=true:=by
 show(mU (A.map .int)&&(mU (Pu.map qD)&&(mU (W.map bU)&&true)))=true;rw[Ft (f:=PyData.int) (fun _=>rfl),Ft IK,Ft nD];rfl
t%Xr {v:V}{d:PyData}(b:Addr)(h:cB (G w O H) v d)(n:tP d=true):iU b H v d:=cB.NW n (cB.az mX h)
t%toG {v:V}{d:PyData}{b:Addr}(r:aJ K w O H)(h:iU b H v d)(n:tP d=true):cB (G w O H) v d:=yA r.j4 n h
t%Dw {b:Addr}:∀{D:List (List Rat)}{zs:List V},bX b H zs (D.map fun qs=>.tuple (qs.map qD))->Pj H zs D
 |[],_,h=>by cases h;e%⟨rfl,fun j x h=>by simp at h⟩
 |r::D,_,h=>by
  cases h with |cons h1 h2=>?_
  have ih:=Dw h2;cases h1 with |tup h3 h4=>?_
  r%⟨by simp[ih.1],fun j x hx=>?_⟩;cases j with
  |zero=>e%⟨_,_,r,rfl,(Option.some.inj hx).symm,h3,lR.of h4⟩
  |succ j=>o%⟨a,ys,qs,e1,e2,e3,e4⟩:=ih.2 j x (by simpa using hx);e%⟨a,ys,qs,by simpa using e1,e2,e3,e4⟩
t%Qs {v:V}{D:List (List Rat)}{g:Nat}(h:cB (G w O H) v (bC D))(h1:∀qs∈D,qs.length=g)(h2:∀qs∈D,∀z∈qs,Rb 100 z)(h3:D.length<=6):∃q zs,v=.ref q/\Lc H q zs D g:=by
 cases Xr 0 h (Hm D) with |tup h4 h5=>e%⟨_,_,rfl,h4,Dw h5,h1,h2,h3⟩
end
section
variable {K:PySem.W.Frag}{w:Wd}{O:aN}{H:Hp}
n%Qp:FM:=fun O xs P _=>∃ns:List Int,xs=[.rF ns]/\ns.length<=63/\∀O',P (.im (.bool true)) O'
t%M4 {Pg:Program}{wo:World}{mg:Str->Option Value}{base:Heap}{k:Nat}{f:Addr}{fd:FuncData}(F:aM Pg wo K mg base cP k f fd ["script"] (cj K Qp)):aM Pg wo K mg base cP k f fd ["script"] (uw K):=F.imp fun vs H Q E ⟨a,ns,e,hS,hl,hq⟩=>by
 subst e;have cn:∀x,¬ kC ⟨[],[],[]⟩ [] x:=fun x h=>by
  rcases h with h |⟨o,h⟩ |⟨k,c,h,_⟩
  .cases h
  .cases h
  .simp at h
 have sg:ak H (G ⟨[],[],[]⟩ [] H):=fun x o h=>by rw[iY (cn x)];e%h
 r%⟨⟨[],[],[]⟩,[],[.rF ns],fun z _=>z=.im (.bool true),fun _ _=>False,⟨rfl,List.nodup_nil,fun a h=>(by cases h),fun a h=>(by cases h),List.nodup_nil,fun p h=>(by cases h),fun a h=>(by cases h),fun k c h=>by simp at h⟩,aZ.cons ⟨a,rfl,KG.bz.az hS sg⟩ aZ.nil,⟨ns,rfl,hl,fun O'=>rfl⟩,fun z q O' w' H' hz e r av=>?_,fun c O' w' H' h=>h.elim⟩;subst hz;rw[um av];e%hq H'
end
t%KQ {n:Nat}(h:2<=n)(q:Rat):ln n (qD q)=true:=kG.mpr ⟨h,fun d hd=>by
 simp only[Zf,List.not_mem_nil,or_false] at hd;rcases hd with rfl |rfl<;>rfl⟩
t%Dp {D:List (List Rat)}{n:Nat}(h2:2<=n)(h1:D.length<=n)(hr:∀r∈D,r.length<=n):ln n (bC D)=true:=kG.mpr ⟨by rw[Zb];e%h1,fun d hd=>by
 o%⟨r,iK,rfl⟩:=Zh.mp hd;e%kG.mpr ⟨by rw[Zb];e%hr r iK,fun e he=>by o%⟨q,_,rfl⟩:=Zh.mp he;e%KQ h2 q⟩⟩
t%EH {xs:List PyData}(h:1<=xs.length):cutD xs none (some 1)=xs.take 1:=by
 have e1:HT.cO xs.length xs.length (some 1)=1:=by
  show(if (1:Int)<0 then ((1:Int)+(xs.length:Int)).toNat else min ((1:Int)).toNat xs.length)=_;rw[if_neg g%];omega
 unfold cutD;rw[HT.pq,e1];simp
n%cI (r:List Int):Option (List AV):=some (r.map fun x=>AV.im (.int x))
n%zP (k n:Nat):List AV:=(List.range n).map fun t=>AV.own (k+t)
t%Au (k n:Nat):zP k (n+1)=zP k n++[AV.own (k+n)]:=by unfold zP;rw[Yn,Zs];rfl
t%Eb (k n:Nat):zP k n=((List.range n).map fun t=>k+t).map AV.own:=by unfold zP;rw[Zi];rfl
t%jA {α : Type}(O:List α)(x y:α):(O++[x]).set O.length y=O++[y]:=by rw[List.set_append,if_neg g%,Nat.sub_self];rfl
t%tY {α : Type}(O:List α)(x:α):(O++[x])[O.length]?=some x:=by simp
t%HQ {α β : Type}(f:α->β)(O:List β)(x:β)(W:List α)(i:Nat)(d:α)(h:i<W.length):(O++(W.map f++[x]))[O.length+i]?=some (f (W.getD i d)):=by
 rw[Yp g%,Nat.add_sub_cancel_left,Zr (by simpa using h)];e%eF h
t%ET {α β : Type}(f:α->β)(O:List β)(x:β)(W:List α):(O++(W.map f++[x]))[O.length+W.length]?=some x:=by
 rw[Yp g%,Nat.add_sub_cancel_left,Yp i%];simp
t%uB {n:Nat}{i:Nat}(h:i<n):uc n (i:Int)=some i:=by unfold uc;rw[if_pos g%,if_pos g%,Zj]
t%oU (r:List Int)(j:Nat)(x:Int):((r.map fun x=>AV.im (.int x)).set j (.im (.int x)))=(r.set j x).map fun x=>AV.im (.int x):=by rw[List.map_set]
t%nS {α β : Type}(f:α->β)(xs:List α)(d:α):(List.range xs.length).map (fun i=>f (xs.getD i d))=xs.map f:=by
 apply List.ext_getElem?;intro j;rw[Zg];rcases Zz j xs.length with y |y
 .rw[Yq y,eF (d:=d) y];rfl
 .rw[Yo (by simpa using y),Yo (by simpa using y)];rfl
t%wx {ds es:List PyData}{i:Nat}{x:AV}(h:(wa ds es)[i]?=some x):i<ds.length/\x=.im (.tuple [ds.getD i .none,es.getD i .none]):=by
 unfold wa at h;have hi:i<ds.length:=by have:=(Zd.mp h).1;simpa using this
 rw[Zg,Yq hi] at h;e%⟨hi,(Option.some.inj h).symm⟩
t%fg (ds es:List PyData):(wa ds es).length=ds.length:=by unfold wa;simp
t%qr {r:List Int}{j:Nat}{x:Int}(h:j<r.length):(r.set j x).getD j 0=x:=by rw[List.getD,Yf h];rfl
structure qC (O:aN)(k:Nat)(ks:List Nat)(W:List (List Int)):Prop where
 hd:O[k]?=some (some (ks.map AV.own))
 len:ks.length=W.length
 row:∀i,i<W.length->O[ks.getD i 0]?=some (cI (W.getD i []))
t%mem_getD {ks:List Nat}{i:Nat}(h:i<ks.length):ks.getD i 0∈ks:=by
 rw[gj (Zc h)];e%Zv h
t%qC.app {O:aN}{k:Nat}{ks:List Nat}{W:List (List Int)}(t:qC O k ks W)(c:Option (List AV)):qC (O++[c]) k ks W:=by
 r%⟨?_,t.len,fun i hi=>?_⟩
 .rw[Zr (Zd.mp t.hd).1];e%t.hd
 .rw[Zr (Zd.mp (t.row i hi)).1];e%t.row i hi
t%qC.other {O:aN}{k m:Nat}{ks:List Nat}{W:List (List Int)}(t:qC O k ks W)(c:Option (List AV))(h:m∉k::ks):qC (O.set m c) k ks W:=by
 r%⟨?_,t.len,fun i hi=>?_⟩
 .rw[Zw (fun e=>h (by rw[e];e%Zo))];e%t.hd
 .rw[Zw (fun e=>h (by rw[e];e%Zk _ (mem_getD (by rw[t.len];e%hi))))];e%t.row i hi
t%qC.put {O:aN}{k i:Nat}{ks:List Nat}{W:List (List Int)}(t:qC O k ks W)(r:List Int)(hi:i<W.length)(nd:(k::ks).Nodup):qC (O.set (ks.getD i 0) (cI r)) k ks (W.set i r):=by
 have hn:=Yh.mp nd;have ZE:i<ks.length:=by rw[t.len];e%hi
 r%⟨?_,by rw[Yl];e%t.len,fun j hj=>?_⟩
 .rw[Zw (fun e=>hn.1 (by rw[<- e];e%mem_getD ZE))];e%t.hd
 .rw[Yl] at hj;have OC:j<ks.length:=by rw[t.len];e%hj
  by_cases e:i=j
  .subst e;rw[Yf (Zd.mp (t.row i hi)).1];have:(W.set i r).getD i []=r:=by rw[List.getD,Yf hi];rfl
   rw[this]
  .have:(W.set i r).getD j []=W.getD j []:=by rw[List.getD,Zw e];rfl
   rw[this,Zw (fun z=>e ?_)]
   .exact t.row j hj
   .rw[gj (Zc ZE),gj (Zc OC)] at z;e%(List.getElem_inj hn.2).mp z
t%qC.push {O:aN}{k m:Nat}{ks:List Nat}{W:List (List Int)}(t:qC O k ks W){r:List Int}(hm:O[m]?=some (cI r))(nd:(k::ks).Nodup)(hk:m≠k):qC (O.set k (some (ks.map AV.own++[AV.own m]))) k (ks++[m]) (W++[r]):=by
 have hn:=Yh.mp nd;r%⟨?_,by simp[t.len],fun i hi=>?_⟩
 .rw[Yf (Zd.mp t.hd).1,Zs];rfl
 .rw[Zn] at hi;by_cases e:i<W.length
  .have e1:(ks++[m]).getD i 0=ks.getD i 0:=by simp only[List.getD];rw[Zr (by rw[t.len];e%e)]
   have e2:(W++[r]).getD i []=W.getD i []:=by simp only[List.getD];rw[Zr e]
   rw[e1,e2,Zw (fun z=>hn.1 (by rw[z];e%mem_getD (by rw[t.len];e%e)))];e%t.row i e
  .have xX:i=W.length:=by simp at hi;omega
   subst xX;have e1:(ks++[m]).getD W.length 0=m:=by simp[List.getD,<- t.len]
   have e2:(W++[r]).getD W.length []=r:=by simp[List.getD]
   rw[e1,e2,Zw (fun z=>hk z.symm)];e%hm
structure mO (O O':aN)(k1 k2:Nat)(gm gq:List Nat)(W D:List (List Int)):Prop where
 ma:cW O O'
 ge:∀k∈k1::k2::(gm++gq),O.length<=k/\k<O'.length
 nd:(k1::k2::(gm++gq)).Nodup
 t1:qC O' k1 gm W
 t2:qC O' k2 gq D
section
variable {O O':aN}{k1 k2 m i:Nat}{gm gq:List Nat}{W D:List (List Int)}
t%mO.n1 (t:mO O O' k1 k2 gm gq W D):(k1::gm).Nodup:=by
 have h:=t.nd;simp only[Yh,List.nodup_append,Zf,Zp,not_or] at h ⊢;e%⟨h.1.2.1,h.2.2.1⟩
t%mO.n2 (t:mO O O' k1 k2 gm gq W D):(k2::gq).Nodup:=by
 have h:=t.nd;simp only[Yh,List.nodup_append,Zf,Zp,not_or] at h ⊢;e%⟨h.2.1.2,h.2.2.2.1⟩
t%mO.d1 (t:mO O O' k1 k2 gm gq W D):∀x∈k1::gm,x∉k2::gq:=by
 have h:=t.nd;simp only[Yh,List.nodup_append,Zf,Zp,not_or] at h;intro x hx hy;rcases Zf.mp hx with rfl |hx
 .rcases Zf.mp hy with rfl |hy
  .exact h.1.1 rfl
  .exact h.1.2.2 hy
 .rcases Zf.mp hy with rfl |hy
  .exact h.2.1.1 hx
  .exact h.2.2.2.2 x hx x hy rfl
t%mO.app (t:mO O O' k1 k2 gm gq W D)(c:Option (List AV)):mO O (O'++[c]) k1 k2 gm gq W D :=
 ⟨t.ma.app c,fun k hk=>⟨(t.ge k hk).1,by have:=(t.ge k hk).2;simp;omega⟩,t.nd,t.t1.app c,t.t2.app c⟩
t%mO.WB (t:mO O O' k1 k2 gm gq W D)(r:List Int)(hi:i<W.length):mO O (O'.set (gm.getD i 0) (cI r)) k1 k2 gm gq (W.set i r) D:=by
 have hm:gm.getD i 0∈k1::gm:=Zk _ (mem_getD (by rw[t.t1.len];e%hi));have UJ:gm.getD i 0∈k1::k2::(gm++gq):=Zk _ (Zk _ (Yr _ (mem_getD (by rw[t.t1.len];e%hi))));e%⟨t.ma.set (t.ge _ UJ).1 _,fun k hk=>by rw[Yl];e%t.ge k hk,t.nd,t.t1.put r hi t.n1,t.t2.other _ (t.d1 _ hm)⟩
t%mO.put2 (t:mO O O' k1 k2 gm gq W D)(r:List Int)(hi:i<D.length):mO O (O'.set (gq.getD i 0) (cI r)) k1 k2 gm gq W (D.set i r):=by
 have hm:gq.getD i 0∈k2::gq:=Zk _ (mem_getD (by rw[t.t2.len];e%hi));have UJ:gq.getD i 0∈k1::k2::(gm++gq):=Zk _ (Zk _ (Zq _ (mem_getD (by rw[t.t2.len];e%hi))));e%⟨t.ma.set (t.ge _ UJ).1 _,fun k hk=>by rw[Yl];e%t.ge k hk,t.nd,t.t1.other _ (fun z=>t.d1 _ z hm),t.t2.put r hi t.n2⟩
t%mO.Q3 (t:mO O O' k1 k2 gm gq W D){r:List Int}(hm:O'[m]?=some (cI r))(hO:O.length<=m)(hn:m∉k1::k2::(gm++gq)):mO O (O'.set k1 (some (gm.map AV.own++[AV.own m]))) k1 k2 (gm++[m]) gq (W++[r]) D:=by
 have h:=t.nd;have p7:=hn;simp only[Yh,List.nodup_append,Zf,Zp,not_or] at h p7;r%⟨t.ma.set (t.ge k1 Zo).1 _,fun k hk=>?_,?_,t.t1.push hm t.n1 p7.1,t.t2.other _ (t.d1 _ Zo)⟩
 .rw[Yl];by_cases e:k=m
  .subst e;e%⟨hO,(Zd.mp hm).1⟩
  .refine t.ge k ?_;simp only[Zf,Zp] at hk ⊢;rcases hk with a |a |(a |a) |a
   .exact .inl a
   .exact .inr (.inl a)
   .exact .inr (.inr (.inl a))
   .rcases a with a |a
    .exact absurd a e
    .cases a
   .exact .inr (.inr (.inr a))
 .simp only[Yh,List.nodup_append,Zf,Zp,not_or,List.not_mem_nil,or_false];r%⟨⟨h.1.1,⟨h.1.2.1,fun e=>p7.1 e.symm⟩,h.1.2.2⟩,⟨⟨h.2.1.1,fun e=>p7.2.1 e.symm⟩,h.2.1.2⟩,⟨h.2.2.1,⟨fun e=>e.elim,by simp⟩,fun a ha b hb=>?_⟩,h.2.2.2.1,fun a ha b hb e=>?_⟩
  .subst hb;intro e;subst e;e%p7.2.2.1 ha
  .subst e;rcases ha with ha |ha
   .exact h.2.2.2.2 a ha a hb rfl
   .subst ha;e%p7.2.2.2 hb
t%mO.QZ (t:mO O O' k1 k2 gm gq W D){r:List Int}(hm:O'[m]?=some (cI r))(hO:O.length<=m)(hn:m∉k1::k2::(gm++gq)):mO O (O'.set k2 (some (gq.map AV.own++[AV.own m]))) k1 k2 gm (gq++[m]) W (D++[r]):=by
 have h:=t.nd;have p7:=hn;simp only[Yh,List.nodup_append,Zf,Zp,not_or] at h p7;r%⟨t.ma.set (t.ge k2 (Zk _ Zo)).1 _,fun k hk=>?_,?_,t.t1.other _ (fun z=>t.d1 _ z Zo),t.t2.push hm t.n2 p7.2.1⟩
 .rw[Yl];by_cases e:k=m
  .subst e;e%⟨hO,(Zd.mp hm).1⟩
  .refine t.ge k ?_;simp only[Zf,Zp] at hk ⊢;rcases hk with a |a |a |a |a
   .exact .inl a
   .exact .inr (.inl a)
   .exact .inr (.inr (.inl a))
   .exact .inr (.inr (.inr a))
   .rcases a with a |a
    .exact absurd a e
    .cases a
 .simp only[Yh,List.nodup_append,Zf,Zp,not_or,List.not_mem_nil,or_false];r%⟨⟨h.1.1,h.1.2.1,h.1.2.2,fun e=>p7.1 e.symm⟩,⟨h.2.1.1,h.2.1.2,fun e=>p7.2.1 e.symm⟩,h.2.2.1,⟨h.2.2.2.1,⟨fun e=>e.elim,by simp⟩,fun a ha b hb=>?_⟩,fun a ha b hb e=>?_⟩
  .subst hb;intro e;subst e;e%p7.2.2.2 ha
  .subst e;rcases hb with hb |hb
   .exact h.2.2.2.2 a ha a hb rfl
   .subst hb;e%p7.2.2.1 ha
t%mO.fresh (t:mO O O' k1 k2 gm gq W D)(h:O'.length<=m):m∉k1::k2::(gm++gq):=fun z=>by have:=(t.ge m z).2;omega
end
structure qN (n g:Nat)(ts:List Int)(W D:List (List Int)):Prop where
 tl:ts.length=g
 t0:∀j,j<g->1<=ts.getD j 0/\ts.getD j 0<=9
 wl:W.length=n
 dl:D.length=n
 wr:∀i,i<n->(W.getD i []).length=g
 dr:∀i,i<n->(D.getD i []).length=g
 w0:∀i j,i<n->j<g->0<=(W.getD i []).getD j 0/\(W.getD i []).getD j 0<=ts.getD j 0
 d0:∀i j,i<n->j<g->0<=(D.getD i []).getD j 0/\(D.getD i []).getD j 0<=3
 dw:∀i j,i<n->j<g->(D.getD i []).getD j 0≠0->(W.getD i []).getD j 0=ts.getD j 0
 rows:∀i,i<n->∃j,j<g/\1<=(D.getD i []).getD j 0
 cols:∀j,j<g->∃i,i<n/\1<=(D.getD i []).getD j 0
n%cu (D:List (List Int))(j:Nat):Int:=(D.map fun r=>r.getD j 0).sum
n%lT (ts r:List Int)(g:Nat):Int:=((List.range g).map fun j=>r.getD j 0*ts.getD j 0).sum
n%di (r:List Int):List Rat:=r.map fun x:Int=>(x:Rat)
n%pd:FM:=fun O xs P _=>(∃j,xs=[.bag j])/\∀(n g:Nat) (ts:List Int) (W D:List (List Int)) (O':aN),cW O O'->1<=g->g<=6->1<=n->n<=6->qN n g ts W D->P (.im (.list [io ((List.range g).map (cu D)) (di (D.map fun r=>lT ts r g)) W,.tuple ((di ts).map qD),bC (D.map di)])) O'
m%Fj:List Str:=["bag","goods","hands","tops","wishes","dealing","hand","row","at","good","prices","amounts","purses","rows"]
n%Dn:MS:=(aC (aY (aG fe (mC (.int 1)) (ay cG cm (ae (ag 0) (ae (mC (.int 6)) ah)))) (aW 1))
 (aC (aY (aG fe (mC (.int 1)) (ay cG cm (ae (ag 0) (ae (mC (.int 6)) ah)))) (aW 2))
 (aC (aY (bo 1 [0] (gQ (ae (ag 1) ah)) (aW 0) cb (aG fe (mC (.int 1)) (ay cG cm (ae (ag 1) (ae (aG bL (iu (ae (mC (.int 3)) (ae (mC (.int 9)) ah))) (ay cG cm (ae (ag 1) (ae (mC (.int 2)) ah)))) ah))))) (aW 3))
 (aC (aY (wg ah) (aW 4))
 (aC (aY (wg ah) (aW 5))
 (aC (kF (gQ (ae (ag 2) ah)) (aW 6) (aC (aY (ml 1 [0] (bV (ag 3)) (aW 0) cb (cL (oE fun i j=>if j>i then j else i) (ae (mC (.int 0)) (ae (aG zO (ag 0) (aG rT (ay cG cm (ae (ag 1) (ae (mC (.int 2)) ah))) (aG fe (mC (.int 1)) (ay cG cm (ae (ag 1) (ae (ag 0) ah)))))) ah)))) (aW 7))
 (aC (aY (ay cG cm (ae (ag 0) (ae (ag 1) ah))) (aW 8))
 (aC (aY (aG bL (ag 3) (ag 8)) (Fq (ag 7) (ag 8)))
 (aC (i8 (rX (ag 4) (ae (ag 7) ah)))
 (aC (i8 (rX (ag 5) (ae (ml 1 [0,7,3] (gQ (ae (ag 1) ah)) (aW 0) cb (aG rT (ay cG cm (ae (ag 1) (ae (mC (.int 4)) ah))) (cL Gf (ae (aG (j2 false) (aG bL (ag 2) (ag 0)) (aG bL (ag 3) (ag 0))) ah)))) ah)))
 (aY (aG fe (mC (.int 1)) (ay cG cm (ae (ag 0) (ae (mC (.int 3)) ah)))) (Fq (aG bL (ag 5) (PZ (mC (.int 1)))) (ag 8)))))))))
 (aC (kF (gQ (ae (ag 1) ah)) (aW 9) (aC (aY (ay cG cm (ae (ag 0) (ae (ag 2) ah))) (aW 6))
 (aC (aY (aG bL (ag 3) (ag 9)) (Fq (aG bL (ag 4) (ag 6)) (ag 9)))
 (aY (cL (oE fun i j=>if j>i then j else i) (ae (mC (.int 1)) (ae (aG bL (aG bL (ag 5) (ag 6)) (ag 9)) ah))) (Fq (aG bL (ag 5) (ag 6)) (ag 9))))))
 (qH 4 (qH 5 (aC (aY (cL iN (ae (bo 1 [] (bV (ag 3)) (aW 0) cb (fw (ae (ag 0) (ae (mC (.int 1)) ah)))) ah)) (aW 10))
 (aC (aY (cL iN (ae (bo 1 [5] (gQ (ae (ag 1) ah)) (aW 0) cb (cL wd (ae (bo 1 [0] (bV (ag 1)) (aW 0) cb (aG bL (ag 0) (ag 1))) ah))) ah)) (aW 11))
 (aC (aY (cL iN (ae (bo 1 [1,3] (bV (ag 5)) (aW 0) cb (fw (ae (cL wd (ae (bo 1 [0,2] (gQ (ae (ag 1) ah)) (aW 0) cb (aG rT (aG bL (ag 1) (ag 0)) (aG bL (ag 2) (ag 0)))) ah)) (ae (mC (.int 1)) ah)))) ah)) (aW 12))
 (aC (aY (cL iN (ae (bo 1 [] (bV (ag 5)) (aW 0) cb (cL iN (ae (bo 1 [] (bV (ag 0)) (aW 0) cb (fw (ae (ag 0) (ae (mC (.int 1)) ah)))) ah))) ah)) (aW 13))
 (bT (iu (ae (fw (ae (ag 11) (ae (ag 12) (ae (cL iN (ae (bo 1 [] (bV (ag 4)) (aW 0) cb (cL iN (ae (ag 0) ah))) ah)) ah)))) (ae (ag 10) (ae (ag 13) ah))))))))))))))))))
structure Cc (ts w d:List Int):Prop where
 wl:w.length=ts.length
 dl:d.length=ts.length
 w0:∀j,j<ts.length->0<=w.getD j 0/\w.getD j 0<=ts.getD j 0
 d0:∀j,j<ts.length->0<=d.getD j 0/\d.getD j 0<=3
 dw:∀j,j<ts.length->d.getD j 0≠0->w.getD j 0=ts.getD j 0
 ex:∃j,j<ts.length/\1<=d.getD j 0
t%E8 {r:List Int}{a j:Nat}{x:Int}(h:a<r.length):(r.set a x).getD j 0=if a=j then x else r.getD j 0:=by
 by_cases e:a=j
 .subst e;rw[if_pos rfl,qr h]
 .rw[if_neg e,List.getD,Zw e];rfl
t%Jv {W:List (List Int)}{a j:Nat}{x:List Int}(h:a<W.length):(W.set a x).getD j []=if a=j then x else W.getD j []:=by
 by_cases e:a=j
 .subst e;rw[if_pos rfl,List.getD,Yf h];rfl
 .rw[if_neg e,List.getD,Zw e];rfl
t%mw {W:List (List Int)}{j:Nat}{x:List Int}:(W++[x]).getD j []=if j=W.length then x else W.getD j []:=by
 by_cases e:j=W.length
 .subst e;rw[if_pos rfl];simp[List.getD]
 .rw[if_neg e];rcases Zz j W.length with y |y
  .simp only[List.getD];rw[Zr y]
  .simp only[List.getD];rw[Yo y,Yo (by simp;omega)]
t%Cc.up {ts w d:List Int}(h:Cc ts w d){j:Nat}(hj:j<ts.length)(ht:1<=ts.getD j 0):Cc ts (w.set j (ts.getD j 0)) (d.set j (if d.getD j 0>1 then d.getD j 0 else 1)):=by
 have h1:=h.wl;have h2:=h.dl;r%⟨by rw[Yl];e%h1,by rw[Yl];e%h2,fun i hi=>?_,fun i hi=>?_,fun i hi=>?_,j,hj,?_⟩
 .rw[E8 g%];split
  .rename_i e;subst e;omega
  .exact h.w0 i hi
 .rw[E8 g%];have:=h.d0 i hi;have:=h.d0 j hj;split
  .split<;>omega
  .omega
 .rw[E8 g%,E8 g%];split
  .rename_i e;subst e;intro _;rfl
  .exact h.dw i hi
 .rw[E8 g%,if_pos rfl];split<;>omega
t%EU {α : Type}(xs:List α)(x:α):iT (xs++[x]) (-1)=some x:=by
 have hl:((xs++[x]).length:Int)=(xs.length:Int)+1:=by simp
 have e:uc (xs++[x]).length (-1)=some xs.length:=by unfold uc;rw[if_neg g%,if_pos g%];congr 1;omega
 unfold iT;rw[e];simp
t%qC.none {O:aN}{k:Nat}{ks ls:List Nat}{W:List (List Int)}(t:qC O k ks W)(h:∀m∈ls,m∉k::ks):qC (vX O ls) k ks W :=
 ⟨by rw[km _ fun z=>h k z Zo];e%t.hd,t.len,fun i hi=>by rw[km _ fun z=>h _ z (Zk _ (mem_getD (by rw[t.len];e%hi)))];e%t.row i hi⟩
t%DV:∀O xs Pq QX,pd O xs Pq QX->Dn { nx:=fun _ O'=>Pq (.im .none) O',rt:=Pq } (bf Fj xs) O:=by
 intro O xs Pq QX h;o%⟨⟨bj,rfl⟩,h⟩:=h;r%⟨⟨by decide,by decide⟩,fun r0 h00 h01=>⟨⟨⟨by decide,by decide⟩,fun r1 Z2 Z1=>?_⟩⟩⟩;obtain⟨g,hg⟩:∃g:Nat,(1+r0)=(g:Int):=⟨(1+r0).toNat,by omega⟩;obtain⟨n,hn⟩:∃n:Nat,(1+r1)=(n:Int):=⟨(1+r1).toNat,by omega⟩;show Go _ _ [some (.bag bj),some (.im (.int (1+r0))),some (.im (.int (1+r1))),none,none,none,none,none,none,none,none,none,none,none] O;rw[hg,hn];have g1:1<=g:=by omega
 have g6:g<=6:=by omega
 have n1:1<=n:=by omega
 have n6:n<=6:=by omega
 r%⟨⟨⟨by omega,by omega⟩,vk (fun _ d=>∃q:Int,d=.int q/\(1<=q/\q<=9)) (by rw[lN];omega) (fun i x Z hx hZ=>?_) (fun ds hl JJ=>?_)⟩⟩
 .refine⟨dY,⟨by decide,by decide⟩,fun a a0 a1=>?_⟩;have ha:a=0\/a=1:=by omega
  rcases ha with rfl |rfl
  .exact⟨_,rfl,⟨by decide,by decide⟩,fun b b0 b1=>hZ _ ⟨_,rfl,by omega⟩⟩
  .exact⟨_,rfl,⟨by decide,by decide⟩,fun b b0 b1=>hZ _ ⟨_,rfl,by omega⟩⟩
 o%⟨ts,rfl,qA⟩:=EM (R:=fun _ q=>1<=q/\q<=9) JJ;rw[lN,Zb,Zj] at hl;have Jz:∀j,j<g->iT (ts.map PyData.int) (j:Int)=some (.int (ts.getD j 0)):=fun j hj=>aI (eF g%)
 r%⟨by decide,⟨by decide,?_⟩⟩;show Go _ _ [some (.bag bj),some (.im (.int g)),some (.im (.int n)),some (.im (.list (ts.map .int))),some (.own O.length),some (.own (O++[some []]).length),none,none,none,none,none,none,none,none] (O++[some []]++[some []]);have zC:(O++[some []]).length=O.length+1:=by simp
 rw[zC];r%⟨⟨by omega,by omega⟩,fun i sl O'=>∃(gm gq:List Nat) (W D:List (List Int)) (y6 y7 y8:Option AV),sl=[some (.bag bj),some (.im (.int g)),some (.im (.int n)),some (.im (.list (ts.map .int))),some (.own O.length),some (.own (O.length+1)),y6,y7,y8,none,none,none,none,none]/\mO O O' O.length (O.length+1) gm gq W D/\W.length=i/\D.length=i/\∀m,m<i->Cc ts (W.getD m []) (D.getD m []),?_,?_,?_⟩
 .refine⟨[],[],[],[],none,none,none,rfl,⟨((cW.refl O).app _).app _,fun k hk=>?_,by simp,⟨by simp,rfl,fun i hi=>absurd hi i%⟩,⟨by simp,rfl,fun i hi=>absurd hi i%⟩⟩,rfl,rfl,fun m hm=>absurd hm g%⟩;simp at hk;rcases hk with rfl |rfl<;>simp
 .rintro i x sl O' hx ⟨gm,gq,W,D,y6,y7,y8,rfl,T,hW,hD,bp⟩;o%⟨hi,rfl⟩:=qy hx;r%⟨?_⟩;conv=>whnf
  r%rj (fun j z=>∃q:Int,z=.im (.int q)/\(0<=q/\q<=ts.getD j 0)) (by rw[Zb];simp;omega) (fun j x Z hx hZ=>?_) (fun zs Ur hz=>?_)
  .have hj:j<g:=by have:=(Zd.mp hx).1;simpa[hl] using this
   rw[Zg,eF (d:=0) (show j<ts.length by omega)] at hx;cases Option.some.inj hx;have ht:=qA j g%;r%⟨⟨by decide,by decide⟩,fun u u0 u1=>⟨⟨by omega,by omega⟩,fun v v0 v1=>⟨⟨ow g%,ow g%⟩,hZ _ ⟨_,rfl,?_⟩⟩⟩⟩;have hu:u=0\/u=1:=by omega
   rcases hu with rfl |rfl
   .rw[Int.zero_mul,Int.sub_zero];dsimp only;split<;>omega
   .rw[Int.one_mul];dsimp only;split<;>omega
  o%⟨r,rfl,hr⟩:=rk (R:=fun j q=>0<=q/\q<=ts.getD j 0) hz;simp only[Zb] at Ur;r%⟨⟨by omega,by omega⟩,fun a a0 a1=>?_⟩;obtain⟨a,rfl⟩:∃a':Nat,a=(a':Int):=⟨a.toNat,by omega⟩;r%⟨_,Jz a g%,_,a,tY _ _,uB (by rw[Zb];omega),?_⟩;rw[jA,oU];have e:∀r':List Int,some (List.map (fun x=>AV.im (.int x)) r')=cI r':=fun _=>rfl
  rw[e];have T1:=T.app (cI (r.set a (ts.getD a 0)));have FA:(O'++[cI (r.set a (ts.getD a 0))])[O'.length]?=some (cI (r.set a (ts.getD a 0))):=tY _ _;have U7:O.length<=O'.length:=by have:=T.ma;o%⟨t,rfl⟩:=this;simp
  r%⟨⟨_,T1.t1.hd⟩,_,T1.t1.hd,by rw[Zb,T1.t1.len,sz];omega,?_⟩;have T2:=T1.Q3 FA U7 (T.fresh (Ze _));have dh:O.length<O'.length:=(T.ge _ Zo).2;have tV:((O'++[cI (r.set a (ts.getD a 0))]).set O.length (some (gm.map AV.own++[AV.own O'.length])))[O'.length]?=some (cI (r.set a (ts.getD a 0))):=by rw[Zw g%];e%FA
  have lP:((O'++[cI (r.set a (ts.getD a 0))]).set O.length (some (gm.map AV.own++[AV.own O'.length]))).length=O'.length+1:=by simp
  generalize (O'++[cI (r.set a (ts.getD a 0))]).set O.length (some (gm.map AV.own++[AV.own O'.length]))=O2 at T2 tV lP ⊢;have A9:(r.set a (ts.getD a 0)).length=g:=by rw[Yl];omega
  have Uy:∀j,(r.set a (ts.getD a 0)).getD j 0=if a=j then ts.getD a 0 else r.getD j 0:=fun j=>E8 g%
  generalize r.set a (ts.getD a 0)=r' at T2 tV A9 Uy ⊢;r%⟨⟨⟨_,T2.t2.hd⟩,⟨by omega,by omega⟩,rj (fun j z=>∃q:Int,z=.im (.int q)/\(0<=q/\q<=3/\(q≠0->r'.getD j 0=ts.getD j 0))) (by rw[lN];omega) (fun j x Z hx hZ=>?_) (fun zs By hz=>?_)⟩⟩
  .obtain⟨hj,rfl⟩:=qy hx;rw[Zj] at hj;r%⟨⟨by decide,by decide⟩,fun u u0 u1=>⟨_,_,tV,aI (eF (f:=fun x:Int=>AV.im (.int x)) (d:=0) g%),_,Jz j hj,dI,?_⟩⟩;have he:qb (.int (r'.getD j 0)) (.int (ts.getD j 0))=decide (r'.getD j 0=ts.getD j 0):=rfl;rw[he];by_cases hc:r'.getD j 0=ts.getD j 0
   .rw[decide_eq_true hc];e%⟨⟨ow g%,ow d%⟩,hZ _ ⟨_,rfl,by show 0<=u*1;omega,by show u*1<=3;omega,fun _=>hc⟩⟩
   .rw[decide_eq_false hc];e%⟨⟨ow g%,ow d%⟩,hZ _ ⟨_,rfl,by show 0<=u*0;omega,by show u*0<=3;omega,fun z=>absurd (by show u*0=0;omega) z⟩⟩
  o%⟨d,rfl,hd⟩:=rk (R:=fun j q=>0<=q/\q<=3/\(q≠0->r'.getD j 0=ts.getD j 0)) hz;rw[lN,Zb,Zj] at By;rw[e];have T3:=T2.app (cI d);have hd3:(O2++[cI d])[O2.length]?=some (cI d):=tY _ _;r%⟨_,T3.t2.hd,by rw[Zb,T3.t2.len,sz];omega,?_⟩;have T4:=T3.QZ hd3 g% (T2.fresh (Ze _));generalize (O2++[cI d]).set (O.length+1) (some (gq.map AV.own++[AV.own O2.length]))=O4 at T4 ⊢;have Jd:=T4.t2.row D.length i%;have Ih:(gq++[O2.length]).getD D.length 0=O2.length:=by simp[List.getD,<- T.t2.len]
  have W7:(D++[d]).getD D.length []=d:=by rw[mw,if_pos rfl]
  r%⟨⟨by decide,by decide⟩,fun v v0 v1=>⟨_,.own O2.length,T4.t2.hd,?_,?_⟩⟩
  .rw[Zs];e%EU _ _
  r%⟨_,a,by rw[Ih,W7] at Jd;e%Jd,uB (by rw[Zb];omega),?_⟩;rw[oU,e];have T5:=T4.put2 (i:=D.length) (d.set a (1+v)) i%;rw[Ih,jA] at T5;r%⟨_,_,W++[r'],D++[d.set a (1+v)],_,_,_,rfl,T5,by simp[hW],by simp[hD],fun m hm=>?_⟩;rw[mw,mw,hW,hD];by_cases em:m=i
  .rw[if_pos em,if_pos em];have RY:∀j,(d.set a (1+v)).getD j 0=if a=j then 1+v else d.getD j 0:=fun j=>E8 g%
   r%⟨by omega,by rw[Yl];omega,fun j hj=>?_,fun j hj=>?_,fun j hj=>?_,a,by omega,by rw[RY,if_pos rfl];omega⟩
   .rw[Uy];have:=hr j g%;have:=qA j hj;split
    .rename_i e;subst e;omega
    .assumption
   .rw[RY];have:=hd j g%;split<;>omega
   .rw[RY];split
    .rename_i e;subst e;rw[Uy,if_pos rfl];intro _;rfl
    .exact(hd j g%).2.2
  .rw[if_neg em,if_neg em];e%bp m g%
 rintro sl O' ⟨gm,gq,W,D,y6,y7,y8,rfl,T,hW,hD,bp⟩;rw[lN,Zj] at hW hD bp;r%⟨⟨by omega,by omega⟩,fun i sl O'=>∃(W D:List (List Int)) (y6 y9:Option AV),sl=[some (.bag bj),some (.im (.int g)),some (.im (.int n)),some (.im (.list (ts.map .int))),some (.own O.length),some (.own (O.length+1)),y6,y7,y8,y9,none,none,none,none]/\mO O O' O.length (O.length+1) gm gq W D/\W.length=n/\D.length=n/\(∀m,m<n->Cc ts (W.getD m []) (D.getD m []))/\∀j,j<i->∃m,m<n/\1<=(D.getD m []).getD j 0,⟨W,D,_,_,rfl,T,hW,hD,bp,fun j hj=>absurd hj g%⟩,?_,?_⟩
 .rintro i x sl O' hx ⟨W,D,y6,y9,rfl,T,hW,hD,bp,zT⟩;o%⟨hi,rfl⟩:=qy hx;rw[Zj] at hi;r%⟨⟨by omega,by omega⟩,fun b b0 b1=>?_⟩;obtain⟨b,rfl⟩:∃a':Nat,b=(a':Int):=⟨b.toNat,by omega⟩;have hb:=bp b g%;have agX:gm.length=n:=by rw[T.t1.len,hW]
  have agW:gq.length=n:=by rw[T.t2.len,hD]
  have ht:=qA i g%;have e:∀r':List Int,some (List.map (fun x=>AV.im (.int x)) r')=cI r':=fun _=>rfl
  r%⟨_,Jz i hi,_,.own (gm.getD b 0),T.t1.hd,aI (eF g%),_,i,T.t1.row b g%,uB (by rw[Zb,hb.wl];omega),?_⟩;rw[oU,e];have T1:=T.WB (i:=b) ((W.getD b []).set i (ts.getD i 0)) g%;generalize O'.set (gm.getD b 0) (cI ((W.getD b []).set i (ts.getD i 0)))=O1 at T1 ⊢;r%⟨_,.own (gq.getD b 0),T1.t2.hd,aI (eF g%),_,_,T1.t2.row b g%,aI (eF (f:=fun x:Int=>AV.im (.int x)) (d:=0) (by rw[hb.dl];omega)),?_⟩;r%⟨_,.own (gq.getD b 0),T1.t2.hd,aI (eF g%),_,i,T1.t2.row b g%,uB (by rw[Zb,hb.dl];omega),?_⟩;rw[oU,e];have T2:=T1.put2 (i:=b) ((D.getD b []).set i (if (D.getD b []).getD i 0>1 then (D.getD b []).getD i 0 else 1)) g%;r%⟨_,_,_,_,rfl,T2,by simp[hW],by simp[hD],fun m hm=>?_,fun j hj=>?_⟩
  .rw[Jv g%,Jv g%];by_cases em:b=m
   .rw[if_pos em,if_pos em];e%hb.up g% ht.1
   .rw[if_neg em,if_neg em];e%bp m hm
  .by_cases ej:j=i
   .subst ej;e%⟨b,by omega,by rw[Jv g%,if_pos rfl,E8 (by rw[hb.dl];omega),if_pos rfl];split<;>omega⟩
   .obtain⟨m,hm,ZB⟩:=zT j g%;r%⟨m,hm,?_⟩;rw[Jv g%];by_cases em:b=m
    .subst em;rw[if_pos rfl,E8 (by rw[hb.dl];omega),if_neg g%];e%ZB
    .rw[if_neg em];e%ZB
 rintro sl O' ⟨W,D,y6,y9,rfl,T,hW,hD,bp,zT⟩;rw[lN,Zj] at zT;have jU:∀{O1:aN}{k:Nat}{ks:List Nat}{W:List (List Int)},qC O1 k ks W->∀(j:Nat) kj,ks[j]?=some kj->O1[kj]?=some (some (((W.map fun r=>r.map PyData.int).getD j []).map AV.im)):=fun {O1 k ks W} t j kj hj=>by
  have OC:=(Zd.mp hj).1;have OD:j<W.length:=by rw[<- t.len];e%OC
  have:=t.row j OD;rw[gj hj] at this;rw[this,vZ (a:=[]) OD,Zi];rfl
 r%⟨O.length,gm,W.map (fun r=>r.map .int),rfl,T.t1.hd,by rw[Zb];e%T.t1.len,jU T.t1,?_⟩;have T2:qC (vX O' (O.length::gm)) (O.length+1) gq D:=T.t2.none (fun k hk=>T.d1 k hk);r%⟨O.length+1,gq,D.map (fun r=>r.map .int),rfl,T2.hd,by rw[Zb];e%T.t2.len,jU T2,?_⟩;have hG:cW O (vX (vX O' (O.length::gm)) ((O.length+1)::gq)):=by
  r%cW.none (cW.none T.ma fun k hk=>(T.ge k ?_).1) fun k hk=>(T.ge k ?_).1
  .rcases Zf.mp hk with rfl |hk
   .exact Zo
   .exact Zk _ (Zk _ (Yr _ hk))
  .rcases Zf.mp hk with rfl |hk
   .exact Zk _ Zo
   .exact Zk _ (Zk _ (Zq _ hk))
 generalize vX (vX O' (O.length::gm)) ((O.length+1)::gq)=O8 at hG ⊢;rw[Zi,Zi];have hWe:∀(i:Nat) x,(((W.map (PyData.list ∘ fun r=>r.map .int)).map AV.im))[i]?=some x->i<n/\x=.im (.list ((W.getD i []).map .int)):=fun i x hx=>by
  have hi:i<n:=by have:=(Zd.mp hx).1;simpa[hW] using this
  rw[Zg,eF (d:=[]) (show i<W.length by omega)] at hx;e%⟨hi,(Option.some.inj hx).symm⟩
 have OS:∀(i:Nat) x,(((D.map (PyData.list ∘ fun r=>r.map .int)).map AV.im))[i]?=some x->i<n/\x=.im (.list ((D.getD i []).map .int)):=fun i x hx=>by
  have hi:i<n:=by have:=(Zd.mp hx).1;simpa[hD] using this
  rw[Zg,eF (d:=[]) (show i<D.length by omega)] at hx;e%⟨hi,(Option.some.inj hx).symm⟩
 conv=>whnf
 r%lK (fun i=>qD ((ts.getD i 0:Int):Rat)) (by simp;omega) (fun j x Z hx hZ=>?_) ?_
 .have hj:j<g:=by have:=(Zd.mp hx).1;simpa[hl] using this
  rw[Zg,eF (d:=0) (show j<ts.length by omega)] at hx;cases Option.some.inj hx;e%⟨dY,hZ⟩
 r%⟨⟨by omega,by omega⟩,lK (fun j=>.int (cu D j)) (by rw[lN];omega) (fun j x Z hx hZ=>?_) ?_⟩
 .obtain⟨hj,rfl⟩:=qy hx;rw[Zj] at hj;conv=>whnf
  r%lK (fun i=>.int ((D.getD i []).getD j 0)) (by simp;omega) (fun i x Z hx hZ=>?_) ?_
  .obtain⟨hi,rfl⟩:=OS i x hx;e%⟨_,aI (eF (f:=PyData.int) (d:=0) (by rw[(bp i hi).dl];omega)),hZ⟩
  .refine⟨(List.range D.length).map fun i=>(D.getD i []).getD j 0,by simp[Zi,Function.comp_def],?_⟩;rw[nS (fun r:List Int=>r.getD j 0) D []];e%hZ
 rw[lN,Zj];r%⟨?_⟩;conv=>whnf
 r%lK (fun i=>qD ((lT ts (D.getD i []) g:Int):Rat)) (by simp;omega) (fun i x Z hx hZ=>?_) ?_
 .obtain⟨hi,rfl⟩:=OS i x hx;r%⟨⟨by omega,by omega⟩,lK (fun j=>.int ((D.getD i []).getD j 0*ts.getD j 0)) (by rw[lN];omega) (fun j x Z hx hZ=>?_) ?_⟩
  .obtain⟨hj,rfl⟩:=qy hx;rw[Zj] at hj;have:=(bp i hi).d0 j g%;have:=qA j g%;e%⟨_,aI (eF (f:=PyData.int) (d:=0) (by rw[(bp i hi).dl];omega)),_,Jz j hj,⟨ow g%,ow g%⟩,hZ⟩
  .rw[lN,Zj];e%⟨(List.range g).map fun j=>(D.getD i []).getD j 0*ts.getD j 0,by rw[Zi];rfl,dY,hZ⟩
 r%⟨?_⟩;conv=>whnf
 r%lK (fun i=>.tuple ((di (D.getD i [])).map qD)) (by simp;omega) (fun i x Z hx hZ=>?_) ?_
 .obtain⟨hi,rfl⟩:=OS i x hx;conv=>whnf
  r%lK (fun j=>qD (((D.getD i []).getD j 0:Int):Rat)) (by rw[Zb,Zb,(bp i hi).dl];omega) (fun j x Z hx hZ=>?_) ?_
  .have hj:j<(D.getD i []).length:=by have:=(Zd.mp hx).1;simpa using this
   rw[Zg,eF (d:=0) hj] at hx;cases Option.some.inj hx;e%⟨dY,hZ⟩
  .show Z (.im (.tuple ((List.range (((D.getD i []).map PyData.int).map AV.im).length).map fun j=>qD (((D.getD i []).getD j 0:Int):Rat)))) O8;rw[Zb,Zb,nS (fun x:Int=>qD (x:Rat)) (D.getD i []) 0];unfold di at hZ;rw[Zi] at hZ;e%hZ
 r%⟨?_⟩;conv=>whnf
 r%lK (fun i=>.tuple ((W.getD i []).map .int)) (by simp;omega) (fun i x Z hx hZ=>?_) ?_
 .obtain⟨hi,rfl⟩:=hWe i x hx;e%hZ
 r%⟨BN,BN,?_⟩;have hk:qN n g ts W D:=⟨hl,fun j hj=>qA j g%,hW,hD,fun i hi=>by rw[(bp i hi).wl];e%hl,fun i hi=>by rw[(bp i hi).dl];e%hl,fun i j hi hj=>(bp i hi).w0 j g%,fun i j hi hj=>(bp i hi).d0 j g%,fun i j hi hj=>(bp i hi).dw j g%,fun i hi=>by rw[<- hl];e%(bp i hi).ex,zT⟩;have:=h n g ts W D O8 hG g1 g6 n1 n6 hk;unfold io bC di at this;simp only[Zi,Function.comp_def] at this;have l2:∀{α : Type}(f:α->PyData) (xs:List α),((xs.map f).map AV.im).length=xs.length:=fun f xs=>by rw[Zb,Zb]
 simp only[l2];rw[nS (fun r=>qD ((lT ts r g:Int):Rat)) D [],nS (fun r=>PyData.tuple (r.map .int)) W [],nS (fun x:Int=>qD (x:Rat)) ts 0,nS (fun r=>PyData.tuple ((di r).map qD)) D []];unfold di;simp only[Zi,Function.comp_def];e%this
section
variable {K:PySem.W.Frag}{QX:Addr->aN->Prop}{E:XK}{X:Cx}
n%KL (i j:Nat)(Ms:MA):MS:=fun D sl O=>Ms sl O fun xs O1=>match xs with
 |[x,y]=>D.nx ((sl.set i (some x)).set j (some y)) O1
 |_=>False
t%C9 {i j:Nat}{x y:Str}{a b:Expr}{Ms:MA}{px py pt pos:Pos}{kt k2 Jt}(hc:X.calm=true)(hN:X.N.Nodup)(hi:X.N[i]?=some x)(hj:X.N[j]?=some y)(UP:i≠j)
  (hx:X.env.scope.names.lookup x=some .local) (hy:X.env.scope.names.lookup y=some .local) (ha:PA X [a,b] (pV K QX E Ms))
  (hw:swappedStores [.Tuple [.Name x px,.Name y py] kt pt] (.Tuple [a,b] k2 Jt) X.env=pure (some [x,y]))
  (hs:x%(swapsWithSole [.Tuple [.Name x px,.Name y py] kt pt] (.Tuple [a,b] k2 Jt) pos.line X.env=pure false)) :
  PS X (.Assign [.Tuple [.Name x px,.Name y py] kt pt] (.Tuple [a,b] k2 Jt) pos) (kA K QX E (KL i j Ms)):=PS.imp (j7 hc hN hi hj UP hx hy ha hw hs) fun D σ H ⟨w,O,sl,D0,c,m,hn,hb,hc,hr⟩=>⟨w,O,sl,_,c,m,fun xs O1 vs w1 H1 h1 e1 r1 a1=>by
 split at h1
 .obtain⟨v,u,rfl,b1,b2⟩:=Ca a1;e%⟨v,u,rfl,hn _ O1 w1 H1 _ h1 (((c.ex e1.ex r1).put b1 i).put b2 j) e1⟩
 .exact h1.elim⟩
end
section
variable {n:Nat}{ix:List Nat}{sl:iF}{O:aN}{Q:AV->aN->Prop}
t%qU {D:List (List Rat)}{i:Nat}{x:AV}(h:((D.map fun qs=>PyData.tuple (qs.map qD)).map AV.im)[i]?=some x):i<D.length/\x=.im (.tuple ((D.getD i []).map qD)):=by
 have hi:i<D.length:=by have:=(Zd.mp h).1;simpa using this
 rw[Zg,eF (d:=[]) hi] at h;e%⟨hi,(Option.some.inj h).symm⟩
end
n%Qr:FM:=fun O xs P _=>∃a b,xs=[.im (qD a),.im (qD b)]/\(Rb 3000 a/\Rb 3000 b/\0<b)/\P (.im (qD (a / b))) O
t%jH {q:Rat}(h:Rb 29 q):bv (qD q)=true:=by
 o%⟨h1,h2⟩:=h;unfold Bd at h1 h2;have sm:∀z:Int,z.natAbs<2 ^ 29->bv (.int z)=true:=fun z hz=>by
  show(decide (-1073741824<z)&&decide (z<1073741824))=true;rw[decide_eq_true (show -1073741824<z by omega),decide_eq_true (show z<1073741824 by omega)];rfl
 r%gx fun d hd=>?_
 simp only[Zf,List.not_mem_nil,or_false] at hd;rcases hd with rfl |rfl
 .exact sm _ h1
 .exact sm _ h2
t%qR {D:List (List Rat)}(h:∀r∈D,∀z∈r,Rb 29 z):bv (bC D)=true:=by
 r%gx fun d hd=>?_
 o%⟨r,hr,rfl⟩:=Zh.mp hd;r%gx fun e he=>?_
 o%⟨z,hz,rfl⟩:=Zh.mp he;e%jH (h r hr z hz)
n%eI (B:List (List Int))(i j:Nat):Int:=(B.getD i []).getD j 0
n%gA (B:List (List Int))(i j:Nat)(x:Int):List (List Int):=B.set i ((B.getD i []).set j x)
t%jo {B:List (List Int)}{i j:Nat}{x:Int}:(gA B i j x).length=B.length:=by unfold gA;simp
t%lh {B:List (List Int)}{i j g n:Nat}{x:Int}(hn:B.length=n)(h:∀i,i<n->(B.getD i []).length=g)(hi:i<n):∀m,m<n->((gA B i j x).getD m []).length=g:=fun m hm=>by
 unfold gA;rw[Jv g%];split
 .rw[Yl];e%h i hi
 .exact h m hm
t%jk {B:List (List Int)}{i j i' j':Nat}{x:Int}(hi:i<B.length)(hj:j<(B.getD i []).length):eI (gA B i j x) i' j'=if i=i'/\j=j' then x else eI B i' j':=by
 unfold eI gA;rw[Jv hi];by_cases e:i=i'
 .subst e;rw[if_pos rfl,E8 hj];by_cases e2:j=j'
  .rw[if_pos e2,if_pos ⟨rfl,e2⟩]
  .rw[if_neg e2,if_neg (fun z=>e2 z.2)]
 .rw[if_neg e,if_neg (fun z=>e z.1)]
t%uP {n i:Nat}{f f':Nat->Int}(hi:i<n)(h:∀k,k≠i->f' k=f k):((List.range n).map f').sum=((List.range n).map f).sum+(f' i-f i):=by
 induction n with
 |zero=>e%absurd hi g%
 |succ n ih =>
  rw[Yn,Zs,Zs,List.sum_append,List.sum_append];have e1:∀g:Nat->Int,([n].map g).sum=g n:=fun g=>by simp
  rw[e1,e1];by_cases e:i=n
  .subst e;have:(List.range i).map f'=(List.range i).map f:=List.map_congr_left fun k hk=>h k (by have:=Zm.mp hk;omega)
   rw[this];omega
  .rw[ih g%,h n (fun z=>e z.symm)];omega
t%ia (B:List (List Int))(j:Nat):cu B j=((List.range B.length).map fun i=>eI B i j).sum:=by
 unfold cu eI;rw[nS (fun r:List Int=>r.getD j 0) B []]
t%nK {B:List (List Int)}{i j j':Nat}{x:Int}(hi:i<B.length)(hj:j<(B.getD i []).length):cu (gA B i j x) j'=cu B j'+(if j=j' then x-eI B i j else 0):=by
 rw[ia,ia,jo,uP (f:=fun k=>eI B k j') hi (fun k hk=>by show eI (gA B i j x) k j'=_;rw[jk hi hj,if_neg (fun z=>hk z.1.symm)])];show _+(eI (gA B i j x) i j'-eI B i j')=_;rw[jk hi hj];by_cases e:j=j'
 .subst e;rw[if_pos ⟨rfl,rfl⟩,if_pos rfl]
 .rw[if_neg (fun z=>e z.2),if_neg e];omega
t%nC {B:List (List Int)}{ts:List Int}{i j i' g:Nat}{x:Int}(hi:i<B.length)(hj:j<(B.getD i []).length)(hg:j<g):lT ts ((gA B i j x).getD i' []) g=lT ts (B.getD i' []) g+(if i=i' then (x-eI B i j)*ts.getD j 0 else 0):=by
 unfold lT;by_cases e:i=i'
 .subst e;rw[if_pos rfl,uP (f:=fun k=>(B.getD i []).getD k 0*ts.getD k 0) hg (fun k hk=>by
   have:=jk (i':=i) (j':=k) (x:=x) hi hj;rw[if_neg (fun z=>hk z.2.symm)] at this;show eI (gA B i j x) i k*_=_;rw[this];rfl)]
  have:=jk (i':=i) (j':=j) (x:=x) hi hj;rw[if_pos ⟨rfl,rfl⟩] at this;show _+(eI (gA B i j x) i j*ts.getD j 0-eI B i j*ts.getD j 0)=_;rw[this,Int.sub_mul]
 .rw[if_neg e,Int.add_zero];unfold gA;rw[Jv hi,if_neg e]
structure ql (n g:Nat)(ts:List Int)(D B:List (List Int)):Prop where
 bl:B.length=n
 br:∀i,i<n->(B.getD i []).length=g
 b0:∀i j,i<n->j<g->0<=eI B i j
 col:∀j,j<g->cu B j=cu D j
 T8:∀i,i<n->lT ts (B.getD i []) g=lT ts (D.getD i []) g
t%ql.swap {n g a o m y:Nat}{ts:List Int}{D B:List (List Int)}(h:ql n g ts D B)(ha:a<n)(ho:o<n)(hm:m<g)(hy:y<g)(OP:a≠o){b0 b1:Int}(FF:0<=b0)(hb1:0<=b1)(e:b1*ts.getD m 0=b0*ts.getD y 0)(h1:b1<=eI B a m)(h2:b0<=eI B o y) :
  ∃B1 B2 B3 B4,B1=gA B a m (eI B a m-b1)/\B2=gA B1 o m (eI B1 o m+b1)/\B3=gA B2 o y (eI B2 o y-b0)/\B4=gA B3 a y (eI B3 a y+b0)/\B1.length=n/\B2.length=n/\B3.length=n/\(∀i,i<n->(B1.getD i []).length=g)/\(∀i,i<n->(B2.getD i []).length=g)/\(∀i,i<n->(B3.getD i []).length=g)/\ql n g ts D B4:=by
 r%⟨_,_,_,_,rfl,rfl,rfl,rfl,?_⟩;have l0:=h.bl;have r0:=h.br;generalize e1:gA B a m (eI B a m-b1)=B1;have l1:B1.length=n:=by rw[<- e1,jo,l0]
 have r1:∀i,i<n->(B1.getD i []).length=g:=by rw[<- e1];e%lh l0 r0 ha
 generalize e2:gA B1 o m (eI B1 o m+b1)=B2;have l2:B2.length=n:=by rw[<- e2,jo,l1]
 have r2:∀i,i<n->(B2.getD i []).length=g:=by rw[<- e2];e%lh l1 r1 ho
 generalize e3:gA B2 o y (eI B2 o y-b0)=B3;have l3:B3.length=n:=by rw[<- e3,jo,l2]
 have r3:∀i,i<n->(B3.getD i []).length=g:=by rw[<- e3];e%lh l2 r2 ho
 have x1:∀i j,eI B1 i j=if a=i/\m=j then eI B a m-b1 else eI B i j:=fun i j=>by rw[<- e1];e%jk g% (by rw[r0 a ha];e%hm)
 have x2:∀i j,eI B2 i j=if o=i/\m=j then eI B1 o m+b1 else eI B1 i j:=fun i j=>by rw[<- e2];e%jk g% (by rw[r1 o ho];e%hm)
 have x3:∀i j,eI B3 i j=if o=i/\y=j then eI B2 o y-b0 else eI B2 i j:=fun i j=>by rw[<- e3];e%jk g% (by rw[r2 o ho];e%hy)
 have p1:∀i j,i<n->j<g->0<=eI B1 i j:=fun i j hi hj=>by rw[x1];have:=h.b0 i j hi hj;split<;>omega
 have p2:∀i j,i<n->j<g->0<=eI B2 i j:=fun i j hi hj=>by rw[x2];have:=p1 i j hi hj;have:=p1 o m ho hm;split<;>omega
 have q2:b0<=eI B2 o y:=by
  rw[x2];have q1:eI B1 o y=eI B o y:=by rw[x1,if_neg (fun z=>OP z.1)]
  by_cases z:m=y
  .subst z;rw[if_pos ⟨rfl,rfl⟩,q1];omega
  .rw[if_neg (fun w=>z w.2),q1];e%h2
 have p3:∀i j,i<n->j<g->0<=eI B3 i j:=fun i j hi hj=>by rw[x3];have:=p2 i j hi hj;split<;>omega
 r%⟨l1,l2,l3,r1,r2,r3,⟨by rw[jo,l3],lh l3 r3 ha,fun i j hi hj=>?_,fun j hj=>?_,fun i hi=>?_⟩⟩
 .rw[jk g% (by rw[r3 a ha];e%hy)];have:=p3 i j hi hj;have:=p3 a y ha hy;split<;>omega
 .rw[nK g% (by rw[r3 a ha];e%hy),<- e3,nK g% (by rw[r2 o ho];e%hy),<- e2,nK g% (by rw[r1 o ho];e%hm),<- e1,nK g% (by rw[r0 a ha];e%hm),h.col j hj];rw[e1,e2,e3];split<;>split<;>omega
 .rw[nC g% (by rw[r3 a ha];e%hy) hy,<- e3,nC g% (by rw[r2 o ho];e%hy) hy,<- e2,nC g% (by rw[r1 o ho];e%hm) hm,<- e1,nC g% (by rw[r0 a ha];e%hm) hm,h.T8 i hi];rw[e1,e2,e3];have f1:eI B a m-b1-eI B a m=- b1:=by omega
  have f2:eI B1 o m+b1-eI B1 o m=b1:=by omega
  have f3:eI B2 o y-b0-eI B2 o y=- b0:=by omega
  have f4:eI B3 a y+b0-eI B3 a y=b0:=by omega
  rw[f1,f2,f3,f4,Int.neg_mul,Int.neg_mul,e];split<;>split<;>omega
structure One (O O':aN)(k:Nat)(ks:List Nat)(W:List (List Int)):Prop where
 ma:cW O O'
 ge:∀x∈k::ks,O.length<=x
 nd:(k::ks).Nodup
 t:qC O' k ks W
t%One.put {O O':aN}{k i:Nat}{ks:List Nat}{W:List (List Int)}(h:One O O' k ks W)(r:List Int)(hi:i<W.length):One O (O'.set (ks.getD i 0) (cI r)) k ks (W.set i r) :=
 ⟨h.ma.set (h.ge _ (Zk _ (mem_getD (by rw[h.t.len];e%hi)))) _,h.ge,h.nd,h.t.put r hi h.nd⟩
t%One.get {O O':aN}{k i j:Nat}{ks:List Nat}{W:List (List Int)}(h:One O O' k ks W)(hi:i<W.length)(hj:j<(W.getD i []).length):O'[k]?=some (some (ks.map AV.own))/\iT (ks.map AV.own) (i:Int)=some (.own (ks.getD i 0))/\O'[ks.getD i 0]?=some (some ((W.getD i []).map fun x=>AV.im (.int x)))/\iT ((W.getD i []).map fun x=>AV.im (PyData.int x)) (j:Int)=some (.im (.int (eI W i j)))/\uc ((W.getD i []).map fun x=>AV.im (PyData.int x)).length (j:Int)=some j :=
 ⟨h.t.hd,aI (eF (by rw[h.t.len];e%hi)),h.t.row i hi,aI (eF hj),uB (by rw[Zb];e%hj)⟩
t%One.FW {O O':aN}{k i j:Nat}{ks:List Nat}{W:List (List Int)}(h:One O O' k ks W)(x:Int)(hi:i<W.length):One O (O'.set (ks.getD i 0) (some (((W.getD i []).map fun x=>AV.im (PyData.int x)).set j (.im (.int x))))) k ks (gA W i j x):=by
 rw[oU];e%h.put _ hi
t%One.jU {O O':aN}{k i:Nat}{ks:List Nat}{W:List (List Int)}{sl:iF}{M:MS}{E:yw}(h:One O O' k ks W)(hs:sl[i]?=some (some (.own k)))(hm:∀O2,cW O O2->M E (sl.set i (some (.im (.list (W.map fun r=>.list (r.map .int)))))) O2):qH i M E sl O':=by
 r%⟨k,ks,W.map (fun r=>r.map .int),hs,h.t.hd,by rw[Zb];e%h.t.len,fun j kj hj=>?_,?_⟩
 .have OC:=(Zd.mp hj).1;have OD:j<W.length:=by rw[<- h.t.len];e%OC
  have:=h.t.row j OD;rw[gj hj] at this;rw[this,vZ (a:=[]) OD,Zi];rfl
 .rw[Zi];e%hm _ (cW.none h.ma fun x hx=>h.ge x hx)
t%tK {n:Nat}{ix:List Nat}{sl:iF}{O:aN}{Q:AV->aN->Prop}{D:List (List Int)}(h6:D.length<=1000)(hn:0<n)(hd:∀O' k ks,One O O' k ks D->Q (.own k) O'):V3 n ix (aW 0) cb (cL Gd (ae (ag 0) ah)) sl Q ((D.map fun r=>PyData.list (r.map .int)).map AV.im) O:=by
 have hl:((D.map fun r=>PyData.list (r.map .int)).map AV.im).length=D.length:=by simp
 r%⟨by omega,fun i zs O'=>zs=zP O.length i/\O'=O++(D.take i).map cI,⟨rfl,by simp⟩,?_,?_⟩
 .rintro i x zs O' hx ⟨rfl,rfl⟩;have hi:i<D.length:=by have:=(Zd.mp hx).1;simpa using this
  rw[Zg,eF (d:=[]) hi] at hx;cases Option.some.inj hx;r%⟨fun _=>?_,fun z=>(by cases z)⟩;have hs:((fz n ix sl).set 0 (some (AV.im (.list ((D.getD i []).map .int)))))[0]?=some (some (AV.im (.list ((D.getD i []).map .int)))):=by
   rw[Yf];unfold fz;simp;omega
  show ag 0 _ _ _;unfold ag;rw[hs];r%⟨?_,?_⟩
  .rw[Au];simp[Nat.min_eq_left (Nat.le_of_lt hi)]
  .rw[List.take_add_one,Zc hi,Zs,<- List.append_assoc]
   congr 1
   rw[gj (Zc hi),Zi];rfl
 .rintro zs O' ⟨rfl,rfl⟩;rw[hl,List.take_length,List.append_assoc];have e:(O++D.map cI).length=O.length+D.length:=by simp
  rw[e];r%hd _ _ ((List.range D.length).map fun t=>O.length+t) ⟨⟨_,rfl⟩,fun x hx=>?_,?_,⟨?_,by simp,fun i hi=>?_⟩⟩
  .rcases Zf.mp hx with rfl |hx
   .omega
   .obtain⟨t,_,rfl⟩:=Zh.mp hx;omega
  .refine Yh.mpr ⟨fun hx=>?_,?_⟩
   .obtain⟨t,ht,e⟩:=Zh.mp hx;have:=Zm.mp ht;omega
   .exact List.Pairwise.map _ (fun a b OQ=>by omega) List.nodup_range
  .rw[ET,Eb]
  .have:((List.range D.length).map fun t=>O.length+t).getD i 0=O.length+i:=by simp[List.getD,Yq hi]
   rw[this];e%HQ cI O _ D i [] hi
t%Ng {a b:Int}(ha:0<a)(hb:0<b):0<((a:Rat) / (b:Rat)).num/\0<(((a:Rat) / (b:Rat)).den:Int)/\(((a:Rat) / (b:Rat)).den:Int)*a=((a:Rat) / (b:Rat)).num*b:=by
 have h1:(0:Rat)<(a:Rat):=by exact_mod_cast ha
 have h2:(0:Rat)<(b:Rat):=by exact_mod_cast hb
 have h3:(0:Rat)<(a:Rat) / (b:Rat):=by rw[Rat.div_def];e%Rat.mul_pos h1 (Rat.inv_pos.mpr h2)
 r%⟨kP.mp h3,lJ _,?_⟩;have h5:((((a:Rat) / (b:Rat)).num:Int):Rat)=((a:Rat) / (b:Rat))*((((a:Rat) / (b:Rat)).den:Int):Rat):=by
  have h7:=Rat.num_divInt_den ((a:Rat) / (b:Rat));rw[Rat.divInt_eq_div] at h7;have h8:((((a:Rat) / (b:Rat)).den:Int):Rat)≠0:=by
   have:=lJ ((a:Rat) / (b:Rat))
   exact_mod_cast (show(((a:Rat) / (b:Rat)).den:Int)≠0 by omega)
  generalize ((((a:Rat) / (b:Rat)).den:Int):Rat)=dd at h7 h8 ⊢;generalize ((((a:Rat) / (b:Rat)).num:Int):Rat)=nn at h7 ⊢;generalize (a:Rat) / (b:Rat)=qq at h7 ⊢
  grind
 have h6:((((a:Rat) / (b:Rat)).den:Int):Rat)*(a:Rat)=((((a:Rat) / (b:Rat)).num:Int):Rat)*(b:Rat):=by
  rw[h5];generalize ((((a:Rat) / (b:Rat)).den:Int):Rat)=dd
  grind
 exact_mod_cast h6
t%DI {g:Nat}(h:g<=6):qb (.list ((List.range g).map fun _=>PyData.int 0)) (.list (List.replicate g [PyData.int 0]).flatten)=true:=by
 have:g=0\/g=1\/g=2\/g=3\/g=4\/g=5\/g=6:=by omega
 rcases this with rfl |rfl |rfl |rfl |rfl |rfl |rfl<;>decide+kernel
t%Aa {g:Nat}{e:PyData}(h:g<=6):min (PyData.list ((List.range g).map fun _=>PyData.int 0)).depth e.depth<=60:=by
 have:g=0\/g=1\/g=2\/g=3\/g=4\/g=5\/g=6:=by omega
 r%Ye (Nat.min_le_left _ _) ?_;rcases this with rfl |rfl |rfl |rfl |rfl |rfl |rfl<;>decide+kernel
n%B5:FM:=fun O xs P _=>∃(j n g:Nat) (ts:List Int) (W D:List (List Int)) (Pu:List Rat),xs=[.bag j,.im (io ((List.range g).map (cu D)) Pu W),.im (.tuple ((di ts).map qD)),.im (bC (D.map di))]/\1<=g/\g<=6/\1<=n/\n<=6/\qN n g ts W D/\∀(B:List (List Int)) (O':aN),cW O O'->ql n g ts D B->P (.im (.tuple [.tuple (B.map bU),.tuple (W.map bU)])) O'
m%NP:List Str:=["bag","market","prices","dealing","brought","left","rows","turn","one","other","mine","yours","by"]
n%KN:MS:=(aC (aY (bo 1 [] (bV (ag 3)) (aW 0) cb (bo 1 [] (bV (ag 0)) (aW 0) cb (aG Qu (aG bL (ag 0) (mC (.int 0))) (aG bL (ag 0) (mC (.int 1)))))) (aW 4))
 (aC (aY (bo 1 [4,1] (gQ (ae (cL cV (ae (ag 2) ah)) ah)) (aW 0) cb (aG zO (aG bL (aG bL (ag 2) (mC (.int 0))) (ag 0)) (cL wd (ae (bo 1 [0] (bV (ag 1)) (aW 0) cb (aG bL (ag 0) (ag 1))) ah)))) (aW 5))
 (aC (dX (bH (aG (j2 true) (ag 5) (aG FT (iu (ae (mC (.int 0)) ah)) (cL cV (ae (ag 2) ah))))) (bT (mC .none)) cf)
 (aC (aY (ml 1 [] (bV (ag 4)) (aW 0) cb (cL Gd (ae (ag 0) ah))) (aW 6))
 (aC (kF (gQ (ae (ay cG cm (ae (ag 0) (ae (mC (.int 9)) ah))) ah)) (aW 7) (aC (KL 8 9 (ae (ay cG cm (ae (ag 0) (ae (cL cV (ae (ag 6) ah)) ah))) (ae (ay cG cm (ae (ag 0) (ae (cL cV (ae (ag 6) ah)) ah))) ah)))
 (aC (KL 10 11 (ae (ay cG cm (ae (ag 0) (ae (cL cV (ae (ag 2) ah)) ah))) (ae (ay cG cm (ae (ag 0) (ae (cL cV (ae (ag 2) ah)) ah))) ah)))
 (aC (aY (ay Qr cm (ae (aG bL (ag 2) (ag 10)) (ae (aG bL (ag 2) (ag 11)) ah))) (aW 12))
 (dX (uz (bH (aG (j2 true) (ag 8) (ag 9))) (uz (bH (aG R8 (aG bL (aG bL (ag 6) (ag 8)) (ag 10)) (aG bL (ag 12) (mC (.int 1))))) (bH (aG R8 (aG bL (aG bL (ag 6) (ag 9)) (ag 11)) (aG bL (ag 12) (mC (.int 0))))))) (aC (aY (aG zO (aG bL (aG bL (ag 6) (ag 8)) (ag 10)) (aG bL (ag 12) (mC (.int 1)))) (Fq (aG bL (ag 6) (ag 8)) (ag 10)))
 (aC (aY (aG fe (aG bL (aG bL (ag 6) (ag 9)) (ag 10)) (aG bL (ag 12) (mC (.int 1)))) (Fq (aG bL (ag 6) (ag 9)) (ag 10)))
 (aC (aY (aG zO (aG bL (aG bL (ag 6) (ag 9)) (ag 11)) (aG bL (ag 12) (mC (.int 0)))) (Fq (aG bL (ag 6) (ag 9)) (ag 11)))
 (aY (aG fe (aG bL (aG bL (ag 6) (ag 8)) (ag 11)) (aG bL (ag 12) (mC (.int 0)))) (Fq (aG bL (ag 6) (ag 8)) (ag 11)))))) cf)))))
 (qH 6 (bT (fw (ae (cL iN (ae (bo 1 [] (bV (ag 6)) (aW 0) cb (cL iN (ae (ag 0) ah))) ah)) (ae (aG bL (ag 1) (mC (.int 2))) ah))))))))))
t%LL:∀O xs Pq QX,B5 O xs Pq QX->KN { nx:=fun _ O'=>Pq (.im .none) O',rt:=Pq } (bf NP xs) O:=by
 intro O xs Pq QX h;o%⟨bj,n,g,ts,W,D,Pu,rfl,g1,g6,n1,n6,dl,h⟩:=h;have hD:=dl.dl;unfold KN;conv=>whnf
 r%lK (fun i=>.list ((D.getD i []).map .int)) (by simp;omega) (fun i x Z hx hZ=>?_) ?_
 .obtain⟨hi,rfl⟩:=qU hx;rw[Zb] at hi;have e:(D.map di).getD i []=di (D.getD i []):=vZ hi;rw[e];conv=>whnf
  r%lK (fun j=>.int ((D.getD i []).getD j 0)) (by simp[di];have:=dl.dr i g%;simp only[List.getD] at this;omega) (fun j x Z hx hZ=>?_) ?_
  .have hj:j<(D.getD i []).length:=by have:=(Zd.mp hx).1;simpa[di] using this
   unfold di at hx;rw[Zi,Zg,eF (d:=0) hj] at hx;cases Option.some.inj hx;r%⟨_,rfl,_,rfl,⟨by show(0:Int)<1;decide,ow (by show((1:Int)).natAbs<2 ^ 40;decide)⟩,?_⟩;show Z (.im (.int ((D.getD i []).getD j 0 / 1))) O;rw[Int.ediv_one];e%hZ
  .show Z (.im (.list ((List.range (((di (D.getD i [])).map qD).map AV.im).length).map fun j=>.int ((D.getD i []).getD j 0)))) O;rw[Zb,Zb,show(di (D.getD i [])).length=(D.getD i []).length by unfold di;simp,nS PyData.int (D.getD i []) 0];e%hZ
 rw[show(((D.map di).map fun qs=>PyData.tuple (qs.map qD)).map AV.im).length=D.length by simp,nS (fun r:List Int=>PyData.list (r.map .int)) D []];have OS:∀(i:Nat) x,(((D.map fun r=>PyData.list (r.map .int)).map AV.im))[i]?=some x->i<n/\x=.im (.list ((D.getD i []).map .int)):=fun i x hx=>by
  have hi:i<n:=by have:=(Zd.mp hx).1;simpa[hD] using this
  rw[Zg,eF (d:=[]) (show i<D.length by omega)] at hx;e%⟨hi,(Option.some.inj hx).symm⟩
 have qA:((di ts).map qD).length=g:=by unfold di;simp[dl.tl]
 r%⟨⟨by rw[qA];omega,by rw[qA];omega⟩,lK (fun _=>.int 0) (by rw[lN,qA];omega) (fun j x Z hx hZ=>?_) ?_⟩
 .obtain⟨hj,rfl⟩:=qy hx;rw[qA,Zj] at hj;r%⟨_,rfl,_,aI (by rw[Zi,Zg,Yq hj];rfl),?_⟩;conv=>whnf
  r%lK (fun i=>.int ((D.getD i []).getD j 0)) (by simp;omega) (fun i x Z hx hZ=>?_) ?_
  .obtain⟨hi,rfl⟩:=OS i x hx;e%⟨_,aI (eF (f:=PyData.int) (d:=0) (by rw[dl.dr i hi];omega)),hZ⟩
  .refine⟨(List.range D.length).map fun i=>(D.getD i []).getD j 0,by simp[Zi,Function.comp_def],?_⟩;rw[nS (fun r:List Int=>r.getD j 0) D []];show Z (.im (.int (cu D j-cu D j))) O;rw[Int.sub_self];e%hZ
 rw[lN,qA,Zj];r%⟨BO,by rw[qA];omega,by rw[qA];omega,by rw[qA,sz];simp;omega,?_⟩;rw[qA,Zj];r%⟨Aa g6,?_⟩;rw[DI g6];r%⟨fun z=>(by cases z),fun _=>?_⟩;r%⟨?_⟩;conv=>whnf
 r%tK g% d% (fun O1 k ks T=>?_);have B0:ql n g ts D D:=⟨hD,dl.dr,fun i j hi hj=>(dl.d0 i j hi hj).1,fun _ _=>rfl,fun _ _=>rfl⟩;r%⟨⟨by decide,by decide⟩,fun q q0 q1=>?_⟩;r%⟨⟨by omega,by omega⟩,?_⟩;generalize hbr:PyData.list (D.map fun r=>PyData.list (r.map .int))=bd;generalize hlf:PyData.list ((List.range g).map fun _=>PyData.int 0)=lf;have Jz:∀j,j<g->iT ((di ts).map qD) (j:Int)=some (qD ((ts.getD j 0:Int):Rat)):=fun j hj=>aI (by unfold di;rw[Zi];e%eF (by rw[dl.tl];e%hj))
 r%⟨fun i sl O'=>∃(B:List (List Int)) (y7 y8 y9 m6 Bh vM:Option AV),sl=[some (.bag bj),some (.im (io ((List.range g).map (cu D)) Pu W)),some (.im (.tuple ((di ts).map qD))),some (.im (bC (D.map di))),some (.im bd),some (.im lf),some (.own k),y7,y8,y9,m6,Bh,vM]/\One O O' k ks B/\ql n g ts D B,⟨D,none,none,none,none,none,none,rfl,T,B0⟩,?_,?_⟩
 .rintro i x sl O' hx ⟨B,y7,y8,y9,m6,Bh,vM,rfl,T,hB⟩;o%⟨hi,rfl⟩:=qy hx;have Oz:(ks.map AV.own).length=n:=by rw[Zb,T.t.len,hB.bl]
  r%⟨_,T.t.hd,⟨by rw[Oz];omega,by rw[Oz];omega⟩,fun a a0 a1=>⟨_,T.t.hd,⟨by rw[Oz];omega,by rw[Oz];omega⟩,fun o o0 o1=>?_⟩⟩;rw[Oz] at a1 o1;obtain⟨a,rfl⟩:∃a':Nat,a=(a':Int):=⟨a.toNat,by omega⟩;obtain⟨o,rfl⟩:∃a':Nat,o=(a':Int):=⟨o.toNat,by omega⟩;r%⟨⟨by rw[qA];omega,by rw[qA];omega⟩,fun m m0 m1=>⟨⟨by rw[qA];omega,by rw[qA];omega⟩,fun y y0 y1=>?_⟩⟩;rw[qA] at m1 y1;obtain⟨m,rfl⟩:∃a':Nat,m=(a':Int):=⟨m.toNat,by omega⟩;obtain⟨y,rfl⟩:∃a':Nat,y=(a':Int):=⟨y.toNat,by omega⟩;have ha:a<n:=by omega
  have ho:o<n:=by omega
  have hm:m<g:=by omega
  have hy:y<g:=by omega
  o%⟨tm1,tm2⟩:=dl.t0 m hm;o%⟨xR,RF⟩:=dl.t0 y hy;have T0:∀t:Int,1<=t->t<=9->Rb 3000 (t:Rat)/\0<(t:Rat):=fun t h1 h2=>by
   r%⟨⟨?_,?_⟩,by exact_mod_cast (show(0:Int)<t by omega)⟩
   .show Bd 3000 t;unfold Bd;e%Ya (show t.natAbs<2 ^ 40 by omega) (Nat.pow_le_pow_right d% d%)
   .show Bd 3000 1;unfold Bd;e%Ya (show((1:Int)).natAbs<2 ^ 40 by decide) (Nat.pow_le_pow_right d% d%)
  r%⟨_,Jz m hm,_,Jz y hy,_,_,rfl,⟨(T0 _ tm1 tm2).1,(T0 _ xR RF).1,(T0 _ xR RF).2⟩,?_⟩;o%⟨c1,c2,c3⟩:=Ng (a:=ts.getD m 0) (b:=ts.getD y 0) g% g%;generalize ((ts.getD m 0:Int):Rat) / ((ts.getD y 0:Int):Rat)=JY at c1 c2 c3 ⊢;have keep:∃(B:List (List Int)) (y7 y8 y9 m6 Bh vM:Option AV),[some (.bag bj),some (.im (io ((List.range g).map (cu D)) Pu W)),some (.im (.tuple ((di ts).map qD))),some (.im (bC (D.map di))),some (.im bd),some (.im lf),some (.own k),some (.im (.int i)),some (.im (.int a)),some (.im (.int o)),some (.im (.int m)),some (.im (.int y)),some (.im (qD JY))]=[some (.bag bj),some (.im (io ((List.range g).map (cu D)) Pu W)),some (.im (.tuple ((di ts).map qD))),some (.im (bC (D.map di))),some (.im bd),some (.im lf),some (.own k),y7,y8,y9,m6,Bh,vM]/\One O O' k ks B/\ql n g ts D B:=⟨B,_,_,_,_,_,_,rfl,T,hB⟩;r%⟨dI,⟨fun OP=>?_,fun _=>⟨fun z=>(by cases z),fun _=>keep⟩⟩⟩;have OP:a≠o:=fun z=>by subst z;e%absurd OP (by simp[qb])
  have u1:=T.get (i:=a) (j:=m) (by rw[hB.bl];e%ha) (by rw[hB.br a ha];e%hm);have u2:=T.get (i:=o) (j:=y) (by rw[hB.bl];e%ho) (by rw[hB.br o ho];e%hy);r%⟨_,_,u1.1,u1.2.1,_,_,u1.2.2.1,u1.2.2.2.1,_,rfl,⟨fun Z3=>?_,fun _=>⟨fun z=>(by cases z),fun _=>keep⟩⟩⟩;r%⟨_,_,u2.1,u2.2.1,_,_,u2.2.2.1,u2.2.2.2.1,_,rfl,⟨fun g2'=>?_,fun _=>keep⟩⟩;have h1:(JY.den:Int)<=eI B a m:=of_decide_eq_true Z3;have h2:JY.num<=eI B o y:=of_decide_eq_true g2';o%⟨B1,B2,B3,B4,e1,e2,e3,e4,l1,l2,l3,r1,r2,r3,hB4⟩:=hB.swap ha ho hm hy OP g% g% c3 h1 h2;r%⟨_,_,u1.1,u1.2.1,_,_,u1.2.2.1,u1.2.2.2.1,_,rfl,_,_,u1.1,u1.2.1,_,m,u1.2.2.1,u1.2.2.2.2,?_⟩;have T1:=T.FW (i:=a) (j:=m) (eI B a m-(JY.den:Int)) (by rw[hB.bl];e%ha);rw[<- e1] at T1;have u3:=T1.get (i:=o) (j:=m) (by rw[l1];e%ho) (by rw[r1 o ho];e%hm);r%⟨⟨_,_,u3.1,u3.2.1,_,_,u3.2.2.1,u3.2.2.2.1,_,rfl,_,_,u3.1,u3.2.1,_,m,u3.2.2.1,u3.2.2.2.2,?_⟩⟩;have T2:=T1.FW (i:=o) (j:=m) (eI B1 o m+(JY.den:Int)) (by rw[l1];e%ho);rw[<- e2] at T2;have u4:=T2.get (i:=o) (j:=y) (by rw[l2];e%ho) (by rw[r2 o ho];e%hy);r%⟨⟨_,_,u4.1,u4.2.1,_,_,u4.2.2.1,u4.2.2.2.1,_,rfl,_,_,u4.1,u4.2.1,_,y,u4.2.2.1,u4.2.2.2.2,?_⟩⟩;have T3:=T2.FW (i:=o) (j:=y) (eI B2 o y-JY.num) (by rw[l2];e%ho);rw[<- e3] at T3;have u5:=T3.get (i:=a) (j:=y) (by rw[l3];e%ha) (by rw[r3 a ha];e%hy);r%⟨⟨_,_,u5.1,u5.2.1,_,_,u5.2.2.1,u5.2.2.2.1,_,rfl,_,_,u5.1,u5.2.1,_,y,u5.2.2.1,u5.2.2.2.2,?_⟩⟩;have T4:=T3.FW (i:=a) (j:=y) (eI B3 a y+JY.num) (by rw[l3];e%ha);rw[<- e4] at T4;e%⟨B4,_,_,_,_,_,_,rfl,T4,hB4⟩
 rintro sl O' ⟨B,y7,y8,y9,m6,Bh,vM,rfl,T,hB⟩;r%⟨T.jU rfl fun O2 hG=>?_⟩;conv=>whnf
 r%lK (fun i=>.tuple ((B.getD i []).map .int)) (by simp;rw[hB.bl];omega) (fun i x Z hx hZ=>?_) ?_
 .have hi:i<B.length:=by have:=(Zd.mp hx).1;simpa using this
  rw[Zg,eF (d:=[]) hi] at hx;cases Option.some.inj hx;e%hZ
 .refine⟨_,rfl,dY,?_⟩;rw[show((B.map fun r=>PyData.list (r.map .int)).map AV.im).length=B.length by simp,nS (fun r:List Int=>PyData.tuple (r.map .int)) B []];e%h B O2 hG hB
n%iV (qs:List Rat)(r:List Int)(g:Nat):Rat:=cr ((List.range g).map fun j=>qs.getD j 0*((r.getD j 0:Int):Rat))
n%iP (B W:List (List Int)):PyData:=.tuple [.tuple (B.map bU),.tuple (W.map bU)]
n%oJ:FM:=fun O xs P _=>∃(n g:Nat) (B W:List (List Int)) (qs:List Rat),xs=[.im (iP B W),.im (.tuple (qs.map qD))]/\qs.length=g/\g<=6/\B.length=n/\n<=6/\(∀i,i<n->(B.getD i []).length=g)/\(∀i j,i<n->j<g->0<=eI B i j/\eI B i j<=100)/\(∀z∈qs,Rb 280 z)/\∀O',cW O O'->P (.im (io ((List.range g).map (cu B)) (B.map fun r=>iV qs r g) W)) O'
m%Td:List Str:=["barter","prices","brought","wishes","amounts","purses","row","money"]
n%IS:MS:=(aC (aY (ag 0) (vV 2 (bD (aW 2) (bD (aW 3) gv))))
 (aC (aY (cL iN (ae (bo 1 [2] (gQ (ae (cL cV (ae (ag 1) ah)) ah)) (aW 0) cb (cL wd (ae (bo 1 [0] (bV (ag 1)) (aW 0) cb (aG bL (ag 0) (ag 1))) ah))) ah)) (aW 4))
 (aC (aY (wg ah) (aW 5))
 (aC (kF (bV (ag 2)) (aW 6) (aC (aY (bo 1 [1,6] (gQ (ae (cL cV (ae (ag 1) ah)) ah)) (aW 0) cb (ay (f2 nQ) cm (ae (aG bL (ag 1) (ag 0)) (ae (fw (ae (aG bL (ag 2) (ag 0)) (ae (mC (.int 1)) ah))) ah)))) (aW 7))
 (i8 (rX (ag 5) (ae (ay K1 cm (ae (ag 7) ah)) ah)))))
 (KO 5 (bT (fw (ae (ag 4) (ae (cL iN (ae (ag 5) ah)) (ae (ag 3) ah))))))))))
t%sv {x:Int}(h0:0<=x)(h1:x<=100):PyData.tuple [.int x,.int 1]=qD (x:Rat)/\Rb 7 (x:Rat) :=
 ⟨rfl,⟨by show Bd 7 x;unfold Bd;omega,by show Bd 7 1;unfold Bd;decide⟩⟩
t%GG:∀O xs Pq QX,oJ O xs Pq QX->IS { nx:=fun _ O'=>Pq (.im .none) O',rt:=Pq } (bf Td xs) O:=by
 intro O xs Pq QX h;o%⟨n,g,B,W,qs,rfl,hq,g6,hB,n6,hr,hb,hz,h⟩:=h;have ZZ:∀(i:Nat) x,((B.map bU).map AV.im)[i]?=some x->i<n/\x=.im (.tuple ((B.getD i []).map .int)):=fun i x hx=>by
  have hi:i<n:=by have:=(Zd.mp hx).1;simpa[hB] using this
  rw[Zg,eF (d:=[]) (show i<B.length by omega)] at hx;e%⟨hi,(Option.some.inj hx).symm⟩
 have Ie:∀j,j<g->iT (qs.map qD) (j:Int)=some (qD (qs.getD j 0)):=fun j hj=>aI (eF g%)
 have nc:∀j,j<g->Rb 280 (qs.getD j 0):=fun j hj=>hz _ (by rw[gj (Zc (show j<qs.length by omega))];e%Zv _)
 r%⟨rfl,⟨⟨by rw[Zb];omega,by rw[Zb];omega⟩,lK (fun j=>.int (cu B j)) (by rw[lN,Zb];omega) (fun j x Z hx hZ=>?_) ?_⟩⟩
 .obtain⟨hj,rfl⟩:=qy hx;rw[Zb,hq,Zj] at hj;conv=>whnf
  r%lK (fun i=>.int ((B.getD i []).getD j 0)) (by simp;omega) (fun i x Z hx hZ=>?_) ?_
  .obtain⟨hi,rfl⟩:=ZZ i x hx;e%⟨_,aI (eF (f:=PyData.int) (d:=0) (by rw[hr i hi];omega)),hZ⟩
  .refine⟨(List.range B.length).map fun i=>(B.getD i []).getD j 0,by simp[Zi,Function.comp_def],?_⟩;rw[nS (fun r:List Int=>r.getD j 0) B []];e%hZ
 rw[lN,Zb,hq,Zj];r%⟨by decide,?_⟩;generalize hA:PyData.tuple ((List.range g).map fun j=>.int (cu B j))=ad;show Go _ _ [some (.im (iP B W)),some (.im (.tuple (qs.map qD))),some (.im (.tuple (B.map bU))),some (.im (.tuple (W.map bU))),some (.im ad),some (.own O.length),none,none] (O++[some []]);r%⟨?_⟩;conv=>whnf
 r%⟨fun i sl O'=>∃(y6 y7:Option AV),sl=[some (.im (iP B W)),some (.im (.tuple (qs.map qD))),some (.im (.tuple (B.map bU))),some (.im (.tuple (W.map bU))),some (.im ad),some (.own O.length),y6,y7]/\O'=O++[some ((List.range i).map fun b=>AV.im (qD (iV qs (B.getD b []) g)))],⟨none,none,rfl,rfl⟩,?_,?_⟩
 .rintro i x sl O' hx ⟨y6,y7,rfl,rfl⟩;o%⟨hi,rfl⟩:=ZZ i x hx;r%⟨⟨by rw[Zb];omega,by rw[Zb];omega⟩,lK (fun j=>qD (qs.getD j 0*((eI B i j:Int):Rat))) (by rw[lN,Zb];omega) (fun j x Z hx hZ=>?_) ?_⟩
  .obtain⟨hj,rfl⟩:=qy hx;rw[Zb,hq,Zj] at hj;o%⟨b0,b1⟩:=hb i j hi hj;o%⟨e1,e2⟩:=sv b0 b1;e%⟨_,Ie j hj,_,aI (eF (f:=PyData.int) (d:=0) (by rw[hr i hi];omega)),dY,qs.getD j 0,(eI B i j:Rat),by rw[<- e1];rfl,⟨(nc j hj).mono d%,e2.mono d%⟩,hZ⟩
  .rw[lN,Zb,hq,Zj];r%⟨⟨⟨_,tY _ _⟩,(List.range g).map fun j=>qs.getD j 0*((eI B i j:Int):Rat),by rw[Zi];rfl,⟨fun q Oq=>?_,by simp;omega⟩,_,tY _ _,by rw[Zb,List.length_range,sz];omega,_,_,rfl,?_⟩⟩
   .obtain⟨j,hj,rfl⟩:=Zh.mp Oq;have hj:=Zm.mp hj;o%⟨b0,b1⟩:=hb i j hi hj;e%(mf (nc j hj) (sv b0 b1).2).mono d%
   .rw[jA,Yn,Zs];rfl
 .rintro sl O' ⟨y6,y7,rfl,rfl⟩;have hl:((B.map bU).map AV.im).length=B.length:=by simp
  rw[hl];r%⟨⟨O.length,(List.range B.length).map fun b=>qD (iV qs (B.getD b []) g),rfl,by rw[tY,Zi];rfl,BN,?_⟩⟩;rw[jA,<- hA,nS (fun r:List Int=>qD (iV qs r g)) B []];have:=h (O++[none]) ⟨_,rfl⟩;unfold io at this;rw[Zi,Zi] at this;e%this
section
variable {K:PySem.W.Frag}
n%Sb (m:PyData->Bool):FM:=fun O xs P _=>match xs with
 |[.im d]=>bv d=true/\P (.im (.bool (m d))) O
 |_=>False
t%Ja {m:PyData->Bool}:tW K (BG m) (Sb m):=fun w O H vs xs P PX Q E r a hf q x=>by
 unfold Sb at hf;split at hf
 .obtain⟨v,rfl,h1⟩:=Gm a;o%⟨n,hn⟩:=cB.JT (cB.az mX h1);r%⟨n,v,_,rfl,hn n (Ze _),hf.1,fun H' s=>?_⟩;o%⟨r1,e1,_⟩:=r.az s;e%q _ _ O w H' hf.2 e1 r1 (.bl _)
 .exact hf.elim
end
t%zf (xs:List PyData):qb (.list xs) (.list [])=xs.isEmpty:=by
 rw[jj];cases xs<;>rfl
t%zi (d:PyData):min d.depth (PyData.list []).depth<=60:=Ye (Nat.min_le_right _ _) (by decide+kernel)
n%cJ:PyData->Bool
 |.tuple [.int t,.int u]=>decide (1<=u)&&decide (Int.gcd t u=1)&&decide (0<t)
 |_=>false
n%eM (g:Nat):PyData->Bool
 |.tuple ds=>decide (ds.length=g)&&ds.all cJ
 |_=>false
t%iB {d:PyData}(h:aO d=true):∃t u,d=.tuple [.int t,.int u]:=by
 unfold aO at h;split at h
 .exact⟨_,_,rfl⟩
 .cases h
t%C4 {d:PyData}(h:aO d=false):cJ d=false:=by
 unfold cJ;split
 .have h':(_&&_)=false:=h;rw[h'];rfl
 .rfl
t%vg {ds:List PyData}{c:Nat->Bool}{p:PyData->Bool}{f:Nat->PyData}(h:∀i,i<ds.length->c i=!p (ds.getD i .none)):(((List.range ds.length).filter c).map f).isEmpty=ds.all p:=by
 rw[Bool.eq_iff_iff,List.isEmpty_iff,List.map_eq_nil_iff,List.filter_eq_nil_iff,Zu];constructor
 .intro z x hx;o%⟨i,hi,rfl⟩:=List.getElem_of_mem hx;have:=z i (Zm.mpr hi);rw[h i hi,gj (Zc hi)] at this;simpa using this
 .intro z i hi;have hi:=Zm.mp hi;have:=z (ds.getD i .none) (by rw[gj (Zc hi)];e%Zv hi);rw[h i hi,this];decide
n%wu:FM:=fun O xs P _=>∃(B W:List (List Int)) (d:PyData),xs=[.im (iP B W),.im d]/\1<=B.length/\bv d=true/\(∀ds,d=.tuple ds->ds.length<=1000000)/\P (.im (.bool (eM (B.getD 0 []).length d))) O
m%VS:List Str:=["barter","thing"]
n%P5:MS:=(aC (dX (kE (iO (bH (n9 p6 (ag 1)))) (bH (aG (j2 true) (cL cV (ae (ag 1) ah)) (cL cV (ae (aG bL (aG bL (ag 0) (mC (.int 0))) (mC (.int 0))) ah))))) (bT (mC (.bool false))) cf)
 (bT (aG (j2 false) (bo 1 [] (bV (ag 1)) (aW 0) (kE (iO (bH (ay (Sb aO) cm (ae (ag 0) ah)))) (bH (aG XN (aG bL (ag 0) (mC (.int 0))) (mC (.int 0))))) (ag 0)) (iu ah))))
t%LP:∀O xs Pq QX,wu O xs Pq QX->P5 { nx:=fun _ O'=>Pq (.im .none) O',rt:=Pq } (bf VS xs) O:=by
 intro O xs Pq QX h;o%⟨B,W,d,rfl,b1,sd,By,h⟩:=h;by_cases ht:p6 d=true
 .obtain⟨ds,rfl⟩:∃ds,d=.tuple ds:=by cases d<;>first |e%⟨_,rfl⟩ |cases ht
  have hl:=By ds rfl;r%⟨fun z=>(by cases z),fun _=>⟨_,rfl,.tuple ((B.getD 0 []).map .int),aI (eF (f:=bU) (d:=[]) (j:=0) g%),dI,?_⟩⟩;have he:qb (.int (ds.length:Int)) (.int ((((B.getD 0 []).map PyData.int).length:Nat):Int))=decide (ds.length=(B.getD 0 []).length):=by
   rw[Zb];show decide ((ds.length:Int)=((B.getD 0 []).length:Int))=_;by_cases z:ds.length=(B.getD 0 []).length
   .rw[z];simp
   .rw[decide_eq_false z,decide_eq_false g%]
  rw[he];have hA:eM (B.getD 0 []).length (.tuple ds)=(decide (ds.length=(B.getD 0 []).length)&&ds.all cJ):=rfl;rw[hA] at h;by_cases lP:ds.length=(B.getD 0 []).length
  .rw[decide_eq_true lP] at h ⊢;r%⟨fun z=>(by cases z),fun _=>⟨?_⟩⟩;conv=>whnf
   r%fk (fun i=>!cJ (ds.getD i .none)) (fun i=>ds.getD i .none) (by rw[Zb];e%hl) (fun i x Z hx hZ=>?_) (fun i x Z hx _ hZ=>?_) ?_
   .have hi:i<ds.length:=by have:=(Zd.mp hx).1;simpa using this
    rw[eF (d:=.none) hi] at hx;cases Option.some.inj hx;r%⟨gg sd _ (by rw[gj (Zc hi)];e%Zv hi),?_⟩;by_cases hf:aO (ds.getD i .none)=true
    .obtain⟨t,u,e⟩:=iB hf;rw[e] at hf hZ ⊢;rw[hf];r%⟨fun z=>(by cases z),fun _=>⟨_,rfl,?_⟩⟩;have e2:cJ (.tuple [.int t,.int u])=decide (0<t):=by
      show(aO (.tuple [.int t,.int u])&&decide (0<t))=_;rw[hf];rfl
     rw[e2] at hZ;have e3:decide (t<=0)=!decide (0<t):=by by_cases z:0<t<;>simp[z]<;>omega
     show Z (decide (t<=0)) O;rw[e3];e%hZ
    .have hf:=Ym.mpr hf;rw[C4 hf] at hZ;rw[hf];e%⟨fun _=>hZ,fun z=>(by cases z)⟩
   .have hi:i<ds.length:=by have:=(Zd.mp hx).1;simpa using this
    rw[eF (d:=.none) hi] at hx;cases Option.some.inj hx;e%hZ
   .refine⟨by decide,zi _,?_⟩;rw[zf,Zb,vg (p:=cJ) (fun i _=>rfl)];e%h
  .rw[decide_eq_false lP] at h ⊢;e%⟨fun _=>h,fun z=>(by cases z)⟩
 .have ht:=Ym.mpr ht;have hA:eM (B.getD 0 []).length d=false:=by cases d<;>first |rfl |cases ht
  rw[hA] at h;r%⟨fun _=>⟨fun _=>h,fun z=>(by cases z)⟩,fun z=>?_⟩;rw[ht] at z;cases z
t%part_of {t u:Int}(hf:aO (.tuple [.int t,.int u])=true):cK (.tuple [.int t,.int u])=decide (0<=t):=by
 show(aO (.tuple [.int t,.int u])&&decide (0<=t))=_;rw[hf];rfl
t%o6 (a b:Nat):qb (.int (a:Int)) (.int (b:Int))=decide (a=b):=by
 show decide ((a:Int)=(b:Int))=_;by_cases z:a=b
 .rw[z];simp
 .rw[decide_eq_false z,decide_eq_false g%]
n%uF:FM:=fun O xs P _=>∃(A:List Int) (Pu:List Rat) (W:List (List Int)) (d:PyData),xs=[.im (io A Pu W),.im d]/\bv d=true/\(∃N,N<=1000000/\ln N d=true)/\P (.im (.bool (lV Pu.length A.length d))) O
m%VN:List Str:=["market","thing","row"]
n%IV:MS:=(aC (dX (kE (iO (bH (n9 p6 (ag 1)))) (bH (aG (j2 true) (cL cV (ae (ag 1) ah)) (cL cV (ae (aG bL (ag 0) (mC (.int 1))) ah))))) (bT (mC (.bool false))) cf)
 (aC (kF (bV (ag 1)) (aW 2) (aC (dX (kE (iO (bH (n9 p6 (ag 2)))) (bH (aG (j2 true) (cL cV (ae (ag 2) ah)) (cL cV (ae (aG bL (ag 0) (mC (.int 0))) ah))))) (bT (mC (.bool false))) cf)
 (dX (bH (aG (j2 true) (bo 1 [] (bV (ag 2)) (aW 0) (kE (iO (bH (ay (Sb aO) cm (ae (ag 0) ah)))) (bH (aG Ue (aG bL (ag 0) (mC (.int 0))) (mC (.int 0))))) (ag 0)) (iu ah))) (bT (mC (.bool false))) cf)))
 (bT (mC (.bool true)))))
t%GJ:∀O xs Pq QX,uF O xs Pq QX->IV { nx:=fun _ O'=>Pq (.im .none) O',rt:=Pq } (bf VN xs) O:=by
 intro O xs Pq QX h;o%⟨A,Pu,W,d,rfl,sd,⟨N,hN,Bc⟩,h⟩:=h;by_cases ht:p6 d=true
 .obtain⟨ds,rfl⟩:∃ds,d=.tuple ds:=by cases d<;>first |e%⟨_,rfl⟩ |cases ht
  o%⟨hl,RU⟩:=kG.mp Bc;r%⟨fun z=>(by cases z),fun _=>⟨_,rfl,dI,?_⟩⟩;rw[o6,Zb];have hA:lV Pu.length A.length (.tuple ds)=(decide (ds.length=Pu.length)&&ds.all (cx A.length)):=rfl;rw[hA] at h;by_cases lP:ds.length=Pu.length
  .rw[decide_eq_true lP] at h ⊢;r%⟨fun z=>(by cases z),fun _=>⟨?_⟩⟩;conv=>whnf
   r%⟨fun i sl O'=>O'=O/\(∃y2,sl=[some (.im (io A Pu W)),some (.im (.tuple ds)),y2])/\(ds.take i).all (cx A.length)=true,⟨rfl,⟨none,rfl⟩,rfl⟩,?_,?_⟩
   .rintro i x sl O' hx ⟨rfl,⟨y2,rfl⟩,lZ⟩;have hi:i<ds.length:=by have:=(Zd.mp hx).1;simpa using this
    rw[eF (d:=.none) hi] at hx;cases Option.some.inj hx;have j6:ds.getD i .none∈ds:=by rw[gj (Zc hi)];e%Zv hi
    have Il:cx A.length (ds.getD i .none)=false->Pq (.im (.bool false)) O':=fun z=>by
     have:ds.all (cx A.length)=false:=by
      rw[Ym];intro y;have:=Zu.mp y _ j6;rw[z] at this;cases this
     rw[this] at h;e%h
    have good:cx A.length (ds.getD i .none)=true->(ds.take (i+1)).all (cx A.length)=true:=fun z=>by
     rw[List.take_add_one,Zc hi,List.all_append,lZ];rw[gj (Zc hi)] at z;simp[z]
    have sr:=gg sd _ j6;have lr:=RU _ j6;generalize ds.getD i .none=r at Il good sr lr ⊢;by_cases hr:p6 r=true
    .obtain⟨rs,rfl⟩:∃rs,r=.tuple rs:=by cases r<;>first |e%⟨_,rfl⟩ |cases hr
     o%⟨A9,_⟩:=kG.mp lr;r%⟨⟨fun z=>(by cases z),fun _=>⟨_,rfl,dI,?_⟩⟩⟩;rw[o6,Zb];have hR:cx A.length (.tuple rs)=(decide (rs.length=A.length)&&rs.all cK):=rfl;rw[hR] at Il good;by_cases Oy:rs.length=A.length
     .rw[decide_eq_true Oy] at Il good ⊢;r%⟨fun z=>(by cases z),fun _=>⟨?_⟩⟩;conv=>whnf
      r%fk (fun i=>!cK (rs.getD i .none)) (fun i=>rs.getD i .none) (by rw[Zb];omega) (fun i x Z hx hZ=>?_) (fun i x Z hx _ hZ=>?_) ?_
      .have hi:i<rs.length:=by have:=(Zd.mp hx).1;simpa using this
       rw[eF (d:=.none) hi] at hx;cases Option.some.inj hx;r%⟨gg sr _ (by rw[gj (Zc hi)];e%Zv hi),?_⟩;by_cases hf:aO (rs.getD i .none)=true
       .obtain⟨t,u,e⟩:=iB hf;rw[e] at hf hZ ⊢;rw[hf];r%⟨fun z=>(by cases z),fun _=>⟨_,rfl,?_⟩⟩;rw[part_of hf] at hZ;have e3:decide (t<0)=!decide (0<=t):=by by_cases z:0<=t<;>simp[z]<;>omega
        show Z (decide (t<0)) O';rw[e3];e%hZ
       .have hf:=Ym.mpr hf;rw[qS hf] at hZ;rw[hf];e%⟨fun _=>hZ,fun z=>(by cases z)⟩
      .have hi:i<rs.length:=by have:=(Zd.mp hx).1;simpa using this
       rw[eF (d:=.none) hi] at hx;cases Option.some.inj hx;e%hZ
      .refine⟨by decide,zi _,?_⟩;rw[zf,Zb,vg (p:=cK) (fun i _=>rfl)];cases hp:rs.all cK with
       |true=>rw[hp] at good;e%⟨fun z=>(by cases z),fun _=>⟨rfl,⟨_,rfl⟩,good rfl⟩⟩
       |false=>rw[hp] at Il;e%⟨fun _=>Il rfl,fun z=>(by cases z)⟩
     .rw[decide_eq_false Oy] at Il ⊢;e%⟨fun _=>Il rfl,fun z=>(by cases z)⟩
    .have hr:=Ym.mpr hr;r%⟨⟨fun _=>⟨fun _=>Il (qY hr),fun z=>(by cases z)⟩,fun z=>?_⟩⟩;rw[hr] at z;cases z
   .rintro sl O' ⟨rfl,⟨y2,rfl⟩,lZ⟩;rw[Zb,List.take_length] at lZ;rw[lZ] at h;e%⟨h⟩
  .rw[decide_eq_false lP] at h ⊢;e%⟨fun _=>h,fun z=>(by cases z)⟩
 .have ht:=Ym.mpr ht;rw[yY ht] at h;r%⟨fun _=>⟨fun _=>h,fun z=>(by cases z)⟩,fun z=>?_⟩;rw[ht] at z;cases z
n%kH (g:Nat)(W:List (List Int)):List Int:=((List.range g).filter (has W)).map fun j:Nat=>(j:Int)
n%BU:FM:=fun O xs P _=>∃(A:List Int) (Pu:List Rat) (W:List (List Int)),xs=[.im (io A Pu W)]/\A.length<=6/\1<=W.length/\W.length<=6/\(∀i,i<W.length->(W.getD i []).length=A.length)/\P (.im (.list ((kH A.length W).map .int))) O
m%VG:List Str:=["market"]
n%PN:MS:=(bT (bo 1 [0] (gQ (ae (cL cV (ae (aG bL (ag 0) (mC (.int 0))) ah)) ah)) (aW 0) (bH (aG OT (cL KD (ae (bo 1 [0] (bV (aG bL (ag 1) (mC (.int 2)))) (aW 0) cb (aG bL (ag 0) (ag 1))) ah)) (mC (.int 0)))) (ag 0)))
t%jC {W:List (List Int)}{i:Nat}{x:AV}(h:((W.map bU).map AV.im)[i]?=some x):i<W.length/\x=.im (.tuple ((W.getD i []).map .int)):=by
 have hi:i<W.length:=by have:=(Zd.mp h).1;simpa using this
 rw[Zg,eF (d:=[]) hi] at h;e%⟨hi,(Option.some.inj h).symm⟩
t%HJ {W:List (List Int)}{j:Nat}{m:Int}(h1:m∈W.map fun r=>r.getD j 0)(h2:∀n∈W.map fun r=>r.getD j 0,n<=m):decide (0<m)=has W j:=by
 unfold has;rw[Bool.eq_iff_iff,decide_eq_true_eq,List.any_eq_true];constructor
 .intro z;o%⟨r,hr,rfl⟩:=Zh.mp h1;e%⟨r,hr,decide_eq_true z⟩
 .rintro⟨r,hr,z⟩;have:=h2 _ (Zh.mpr ⟨r,hr,rfl⟩);have:=of_decide_eq_true z;omega
t%LC:∀O xs Pq QX,BU O xs Pq QX->PN { nx:=fun _ O'=>Pq (.im .none) O',rt:=Pq } (bf VG xs) O:=by
 intro O xs Pq QX h;o%⟨A,Pu,W,rfl,g6,n1,n6,hr,h⟩:=h;r%⟨_,rfl,⟨by rw[Zb];omega,by rw[Zb];omega⟩,fk (has W) (fun j=>.int (j:Int)) (by rw[lN,Zb];omega) (fun j x Z hx hZ=>?_) (fun j x Z hx _ hZ=>?_) ?_⟩
 .obtain⟨hj,rfl⟩:=qy hx;rw[Zb,Zj] at hj;r%⟨_,rfl,?_⟩;conv=>whnf
  r%lK (fun i=>.int ((W.getD i []).getD j 0)) (by simp;omega) (fun i x Z hx hZ=>?_) ?_
  .obtain⟨hi,rfl⟩:=jC hx;e%⟨_,aI (eF (f:=PyData.int) (d:=0) (by rw[hr i hi];omega)),hZ⟩
  .refine⟨W.map fun r=>r.getD j 0,?_,fun z=>?_,fun m m1 m2=>?_⟩
   .rw[Zb,Zb,nS (fun r:List Int=>PyData.int (r.getD j 0)) W [],Zi];rfl
   .rw[List.map_eq_nil_iff] at z;rw[z] at n1;e%absurd n1 d%
   .show Z (decide (0<m)) O;rw[HJ m1 m2];e%hZ
 .obtain⟨hj,rfl⟩:=qy hx;e%hZ
 .rw[lN,Zb,Zj];unfold kH at h;rw[Zi] at h;e%h
t%One.app {O O':aN}{k:Nat}{ks:List Nat}{W:List (List Int)}(h:One O O' k ks W)(c:Option (List AV)):One O (O'++[c]) k ks W:=⟨h.ma.app c,h.ge,h.nd,h.t.app c⟩
t%One.lt {O O':aN}{k:Nat}{ks:List Nat}{W:List (List Int)}(h:One O O' k ks W):∀x∈k::ks,x<O'.length:=fun x hx=>by
 rcases Zf.mp hx with rfl |hx
 .exact(Zd.mp h.t.hd).1
 .obtain⟨i,hi,rfl⟩:=List.getElem_of_mem hx;have:=h.t.row i (by rw[<- h.t.len];e%hi);rw[gj (Zc hi)] at this;e%(Zd.mp this).1
t%One.push {O O':aN}{k m:Nat}{ks:List Nat}{W:List (List Int)}(h:One O O' k ks W){r:List Int}(hm:O'[m]?=some (cI r))(hO:O.length<=m)(hn:m∉k::ks):One O (O'.set k (some (ks.map AV.own++[AV.own m]))) k (ks++[m]) (W++[r]):=by
 have p7:=hn;have nd:=Yh.mp h.nd;simp only[Zf,not_or] at p7;r%⟨h.ma.set (h.ge k Zo) _,fun x hx=>?_,?_,h.t.push hm h.nd p7.1⟩
 .simp only[Zf,Zp,List.not_mem_nil,or_false] at hx;rcases hx with e |e |e
  .subst e;e%h.ge _ Zo
  .exact h.ge _ (Zk _ e)
  .subst e;e%hO
 .refine Yh.mpr ⟨fun z=>?_,List.nodup_append.mpr ⟨nd.2,by simp,fun a ha b hb e=>?_⟩⟩
  .rcases Zp.mp z with z |z
   .exact nd.1 z
   .exact p7.1 (Yi.mp z).symm
  .subst e;rw[Yi.mp hb] at ha;e%p7.2 ha
t%DJ {row:List Int}{qs:List Rat}{g o:Nat}:worse row qs g o=(decide (0<row.getD o 0)&&decide (row.getD g 0*(qs.getD o 0).num*((qs.getD g 0).den:Int)<row.getD o 0*(qs.getD g 0).num*((qs.getD o 0).den:Int))):=by
 unfold worse
 congr 1
 e%decide_eq_decide.mpr Ab
n%iw (row:List Int)(qs:List Rat)(g n:Nat):Bool:=decide (row.getD g 0=0)||(List.range n).any (worse row qs g)
n%B9:FM:=fun O xs P _=>∃(A:List Int) (Pu:List Rat) (W:List (List Int)) (qs:List Rat),xs=[.im (io A Pu W),.im (.tuple (qs.map qD))]/\qs.length<=6/\W.length<=6/\(∀i,i<W.length->(W.getD i []).length=qs.length)/\(∀i j,i<W.length->j<qs.length->0<=eI W i j/\eI W i j<=100)/\(∀z∈qs,Rb 280 z)/\∀O',cW O O'->P (.im (.list ((bA W qs).map fun r=>.list (r.map .int)))) O'
m%NBe:List Str:=["market","prices","found","row","best","good","top","bottom","worse","other","there"]
n%P4:MS:=(aC (aY (wg ah) (aW 2))
 (aC (kF (bV (aG bL (ag 0) (mC (.int 2)))) (aW 3) (aC (aY (wg ah) (aW 4))
 (aC (kF (gQ (ae (cL cV (ae (ag 3) ah)) ah)) (aW 5) (aC (aY (aG bL (ag 1) (ag 5)) (vV 2 (bD (aW 6) (bD (aW 7) gv))))
 (aC (aY (aG (j2 false) (aG bL (ag 3) (ag 5)) (mC (.int 0))) (aW 8))
 (aC (kF (gQ (ae (cL cV (ae (ag 3) ah)) ah)) (aW 9) (aC (aY (aG rT (aG rT (aG bL (ag 3) (ag 9)) (ag 6)) (aG bL (aG bL (ag 1) (ag 9)) (mC (.int 1)))) (aW 10))
 (dX (uz (bH (aG OT (aG bL (ag 3) (ag 9)) (mC (.int 0)))) (bH (aG Ue (aG rT (aG rT (aG bL (ag 3) (ag 5)) (aG bL (aG bL (ag 1) (ag 9)) (mC (.int 0)))) (ag 7)) (ag 10)))) (aY (mC (.bool true)) (aW 8)) cf)))
 (dX (iO (PP (ag 8))) (i8 (rX (ag 4) (ae (ag 5) ah))) cf)))))
 (i8 (rX (ag 2) (ae (ag 4) ah))))))
 (qH 2 (bT (ag 2)))))
t%DE {a b c:Nat}{x y:Int}(hx:Bd a x)(hy:Bd b y)(h:a+b<=c):Bd c (x*y):=(hx.mul hy).mono h
t%bd7 {x:Int}(h0:0<=x)(h1:x<=100):Bd 7 x:=by unfold Bd;omega
t%LO:∀O xs Pq QX,B9 O xs Pq QX->P4 { nx:=fun _ O'=>Pq (.im .none) O',rt:=Pq } (bf NBe xs) O:=by
 intro O xs Pq QX h;o%⟨A,Pu,W,qs,rfl,g6,n6,hr,hw,hz,h⟩:=h;have Ie:∀j,j<qs.length->iT (qs.map qD) (j:Int)=some (qD (qs.getD j 0)):=fun j hj=>aI (eF hj)
 have nc:∀j,j<qs.length->Rb 280 (qs.getD j 0):=fun j hj=>hz _ (by rw[gj (Zc hj)];e%Zv _)
 r%⟨by decide,⟨_,rfl,?_⟩⟩;conv=>whnf
 r%⟨fun i sl O'=>∃(ks:List Nat) (y3 y4 y5 y6 y7 y8 y9 m6:Option AV),sl=[some (.im (io A Pu W)),some (.im (.tuple (qs.map qD))),some (.own O.length),y3,y4,y5,y6,y7,y8,y9,m6]/\One O O' O.length ks ((bA W qs).take i),⟨[],none,none,none,none,none,none,none,none,rfl,⟨⟨_,rfl⟩,fun x hx=>by rw[Yi.mp hx];e%Ze _,by simp,⟨tY _ _,rfl,fun i hi=>absurd hi i%⟩⟩⟩,?_,?_⟩
 .rintro i x sl O' hx ⟨ks,y3,y4,y5,y6,y7,y8,y9,m6,rfl,T⟩;o%⟨hi,rfl⟩:=jC hx;have A9:=hr i hi;have Ia:∀j,j<qs.length->iT ((W.getD i []).map PyData.int) (j:Int)=some (.int (eI W i j)):=fun j hj=>aI (eF (by rw[A9];e%hj))
  have U7:O.length<=O'.length:=by o%⟨t,rfl⟩:=T.ma;simp
  r%⟨⟨by decide,?_⟩⟩;show Go _ _ [some (.im (io A Pu W)),some (.im (.tuple (qs.map qD))),some (.own O.length),some (.im (.tuple ((W.getD i []).map .int))),some (.own O'.length),y5,y6,y7,y8,y9,m6] (O'++[some []]);r%⟨⟨by rw[Zb];omega,by rw[Zb];omega⟩,fun j sl O2=>∃(y5 y6 y7 y8 y9 m6:Option AV),sl=[some (.im (io A Pu W)),some (.im (.tuple (qs.map qD))),some (.own O.length),some (.im (.tuple ((W.getD i []).map .int))),some (.own O'.length),y5,y6,y7,y8,y9,m6]/\O2=O'++[cI (((List.range j).filter (eJ (W.getD i []) qs)).map fun g:Nat=>(g:Int))],⟨_,_,_,_,_,_,rfl,rfl⟩,?_,?_⟩
  .rintro j x sl O2 hx ⟨y5,y6,y7,y8,y9,m6,rfl,rfl⟩;o%⟨hj,rfl⟩:=qy hx;rw[Zb,Zj,A9] at hj;r%⟨_,Ie j hj,rfl,⟨_,Ia j hj,dI,?_⟩⟩;o%⟨bw0,bw1⟩:=hw i j hi hj;o%⟨bn,bd⟩:=nc j hj;have Uu:qb (.int (eI W i j)) (.int 0)=iw (W.getD i []) qs j 0:=by
    unfold iw eI;show decide _=_;simp
   rw[Uu];r%⟨⟨by rw[Zb];omega,by rw[Zb];omega⟩,fun o sl O3=>O3=O'++[cI (((List.range j).filter (eJ (W.getD i []) qs)).map fun g:Nat=>(g:Int))]/\∃(y9 m6:Option AV),sl=[some (.im (io A Pu W)),some (.im (.tuple (qs.map qD))),some (.own O.length),some (.im (.tuple ((W.getD i []).map .int))),some (.own O'.length),some (.im (.int j)),some (.im (.int (qs.getD j 0).num)),some (.im (.int ((qs.getD j 0).den:Int))),some (.im (.bool (iw (W.getD i []) qs j o))),y9,m6],⟨rfl,_,_,rfl⟩,?_,?_⟩
   .rintro o x sl O3 hx ⟨rfl,y9,m6,rfl⟩;o%⟨ho,rfl⟩:=qy hx;rw[Zb,Zj,A9] at ho;o%⟨bo0,bo1⟩:=hw i o hi ho;o%⟨bon,bod⟩:=nc o ho;have b7:=bd7 bo0 bo1;have b7':=bd7 bw0 bw1;r%⟨_,Ia o ho,⟨b7.mono d%,bn.mono d%⟩,_,Ie o ho,_,rfl,⟨DE b7 bn d%,bod.mono d%⟩,⟨_,Ia o ho,?_⟩⟩;have ew:iw (W.getD i []) qs j (o+1)=(iw (W.getD i []) qs j o||worse (W.getD i []) qs j o):=by
     unfold iw;rw[Yn,List.any_append,Bool.or_assoc];simp
    rw[DJ] at ew;by_cases ee:0<eI W i o
    .refine⟨fun _=>?_,fun z=>absurd z (by show ¬ decide (0<eI W i o)=false;rw[decide_eq_true ee];decide)⟩;r%⟨_,Ia j hj,_,Ie o ho,_,rfl,⟨b7'.mono d%,bon.mono d%⟩,⟨DE b7' bon d%,bd.mono d%⟩,?_⟩;have Fe:decide (0<(W.getD i []).getD o 0)=true:=decide_eq_true ee;rw[Fe] at ew;cases hc:decide ((W.getD i []).getD j 0*(qs.getD o 0).num*((qs.getD j 0).den:Int)<(W.getD i []).getD o 0*(qs.getD j 0).num*((qs.getD o 0).den:Int)) with
     |true =>
      r%⟨fun _=>?_,fun z=>absurd (hc.symm.trans z) d%⟩;rw[hc,Bool.true_and,Bool.or_true] at ew;e%⟨rfl,_,_,by rw[ew];rfl⟩
     |false =>
      r%⟨fun z=>absurd (hc.symm.trans z) d%,fun _=>?_⟩;rw[hc,Bool.and_false,Bool.or_false] at ew;e%⟨rfl,_,_,by rw[ew];rfl⟩
    .have Fe:decide (0<(W.getD i []).getD o 0)=false:=decide_eq_false ee;r%⟨fun z=>absurd (Fe.symm.trans z) d%,fun _=>⟨fun z=>(by cases z),fun _=>?_⟩⟩;rw[Fe,Bool.false_and,Bool.or_false] at ew;e%⟨rfl,_,_,by rw[ew];rfl⟩
   .rintro sl O3 ⟨rfl,y9,m6,rfl⟩;rw[lN,Zb,Zj];have hb:eJ (W.getD i []) qs j=!iw (W.getD i []) qs j (W.getD i []).length:=by
     unfold eJ iw;rw[Bool.not_or,List.not_any_eq_all_not];simp
    have Uw:((List.range (j+1)).filter (eJ (W.getD i []) qs)).map (fun g:Nat=>(g:Int))=((List.range j).filter (eJ (W.getD i []) qs)).map (fun g:Nat=>(g:Int))++(if eJ (W.getD i []) qs j=true then [(j:Int)] else []):=by
     e%zz _ _ _
    cases hc:iw (W.getD i []) qs j (W.getD i []).length with
    |true =>
     rw[hc] at hb;r%⟨⟨rfl,⟨fun z=>(by cases z),fun _=>?_⟩⟩⟩;rw[if_neg (by rw[hb];decide),Yg] at Uw;e%⟨_,_,_,_,_,_,rfl,by rw[Uw]⟩
    |false =>
     rw[hc] at hb;r%⟨⟨rfl,⟨fun _=>⟨⟨_,tY _ _⟩,_,tY _ _,?_,_,_,_,_,_,_,rfl,?_⟩,fun z=>(by cases z)⟩⟩⟩
     .rw[Zb,Zb];have:=List.length_filter_le (eJ (W.getD i []) qs) (List.range j);rw[List.length_range] at this;rw[sz];omega
     .rw[jA,Uw,if_pos (by rw[hb];rfl)];unfold cI;rw[Zs];rfl
  .rintro sl O2 ⟨y5,y6,y7,y8,y9,m6,rfl,rfl⟩;rw[lN,Zb,Zj];have T1:=T.app (cI (((List.range (W.getD i []).length).filter (eJ (W.getD i []) qs)).map fun g:Nat=>(g:Int)));r%⟨⟨⟨_,T1.t.hd⟩,_,T1.t.hd,?_,ks++[O'.length],_,_,_,_,_,_,_,_,rfl,?_⟩⟩
   .have:=T.t.len;rw[Yk] at this;rw[Zb,this,sz];omega
   .have T2:=T1.push (m:=O'.length) (r:=((List.range (W.getD i []).length).filter (eJ (W.getD i []) qs)).map fun g:Nat=>(g:Int)) (tY _ _) U7 (fun z=>by have:=T.lt _ z;omega);have e:(bA W qs).take (i+1)=(bA W qs).take i++[((List.range (W.getD i []).length).filter (eJ (W.getD i []) qs)).map fun g:Nat=>(g:Int)]:=by
     have e0:(bA W qs)[i]?=some (((List.range (W.getD i []).length).filter (eJ (W.getD i []) qs)).map fun g:Nat=>(g:Int)):=by
      unfold bA jc;e%eF hi
     rw[List.take_add_one,e0];rfl
    rw[e];e%T2
 .rintro sl O' ⟨ks,y3,y4,y5,y6,y7,y8,y9,m6,rfl,T⟩;have hl:((W.map bU).map AV.im).length=(bA W qs).length:=by unfold bA;simp
  rw[hl,List.take_length] at T;e%⟨T.jU rfl fun O2 hG=>h O2 hG⟩
section
variable {A:List Int}{Pu qs:List Rat}{W:List (List Int)}{D:List (List Rat)}{g:Nat}
n%kI (A:List Int)(W:List (List Int))(D:List (List Rat))(j:Nat):Bool:=decide (qj D j=if has W j=true then ((A.getD j 0:Int):Rat) else 0)
t%Lr {j:Nat}(hj:j<g)(h:kI A W D j=false):dq A Pu qs W D g=false:=by
 have:oS A W D g=false:=by
  rw[Ym];intro z;have:=Zu.mp z j (Zm.mpr hj);e%absurd (this.symm.trans h) d%
 unfold dq;rw[this];rfl
t%Lq {i j:Nat}(hi:i<D.length)(hj:j<g)(h:fX (bA W qs) D i j=false):dq A Pu qs W D g=false:=by
 have:ji (bA W qs) D g=false:=by
  rw[Ym];intro z;have:=Zu.mp (Zu.mp z i (Zm.mpr hi)) j (Zm.mpr hj);e%absurd (this.symm.trans h) d%
 unfold dq;rw[this,Bool.false_and,Bool.and_false]
t%Lp {i:Nat}(hi:i<D.length)(h:jb (D.getD i []) qs g≠Pu.getD i 0):dq A Pu qs W D g=false:=by
 have:nt Pu D qs g=false:=by
  rw[Ym];intro z;have:=Zu.mp z i (Zm.mpr hi);e%h (of_decide_eq_true this)
 unfold dq;rw[this,Bool.and_false,Bool.and_false]
t%CV (h1:∀j,j<g->kI A W D j=true)(h2:∀i,i<D.length->(∀j,j<g->fX (bA W qs) D i j=true)/\jb (D.getD i []) qs g=Pu.getD i 0):dq A Pu qs W D g=true:=by
 have a:oS A W D g=true:=Zu.mpr fun j hj=>h1 j (Zm.mp hj)
 have b:ji (bA W qs) D g=true:=Zu.mpr fun i hi=>Zu.mpr fun j hj=>(h2 i (Zm.mp hi)).1 j (Zm.mp hj)
 have c:nt Pu D qs g=true:=Zu.mpr fun i hi=>decide_eq_true (h2 i (Zm.mp hi)).2
 unfold dq;rw[a,b,c];rfl
end
t%pe {g j:Nat}{W:List (List Int)}(hj:j<g):(kH g W).contains (j:Int)=has W j:=by
 unfold kH;rw[Bool.eq_iff_iff,List.contains_iff_mem,Zh];constructor
 .rintro⟨k,hk,e⟩;have:k=j:=by omega
  subst this;e%(Yb.mp hk).2
 .intro z;e%⟨j,Yb.mpr ⟨Zm.mpr hj,z⟩,rfl⟩
t%w8 (q:Rat)(x:Int):qb (qD q) (.tuple [.int x,.int 1])=decide (q=(x:Rat)):=by
 have e:PyData.tuple [.int x,.int 1]=qD (x:Rat):=rfl;rw[e,jj,sx]
t%Dy (p q:Rat):qb (qD p) (qD q)=decide (p=q):=by rw[jj,sx]
t%dQ {p q:Rat}:min (qD p).depth (qD q).depth<=60:=by show min 1 1<=60;decide
n%BX:FM:=fun O xs P _=>∃(A:List Int) (Pu:List Rat) (W:List (List Int)) (qs:List Rat) (D:List (List Rat)) (g n:Nat),xs=[.im (io A Pu W),.im (.tuple (qs.map qD)),.im (bC D)]/\(qs.length=g/\A.length=g/\g<=6)/\(W.length=n/\Pu.length=n/\D.length=n/\1<=n/\n<=6)/\(∀i,i<n->(W.getD i []).length=g)/\(∀i j,i<n->j<g->0<=eI W i j/\eI W i j<=100)/\(∀j,j<g->0<=A.getD j 0/\A.getD j 0<=100)/\(∀z∈qs,Rb 280 z)/\(∀i,i<n->(D.getD i []).length=g)/\(∀i j,Rb 40 (eQ D i j))/\∀O',cW O O'->P (.im (.bool (dq A Pu qs W D g))) O'
m%VI:List Str:=["market","prices","dealing","best","good","got","buyer","row","cost"]
n%PR:MS:=(aC (aY (ay B9 cm (ae (ag 0) (ae (ag 1) ah))) (aW 3))
 (aC (kF (gQ (ae (cL cV (ae (ag 1) ah)) ah)) (aW 4) (aC (aY (ay K1 cm (ae (bo 1 [4] (bV (ag 2)) (aW 0) cb (aG bL (ag 0) (ag 1))) ah)) (aW 5))
 (dX (bH (aG (j2 true) (ag 5) (fw (ae (aG rT (aG bL (aG bL (ag 0) (mC (.int 0))) (ag 4)) (cL Gf (ae (aG (NH false) (ag 4) (ay BU cm (ae (ag 0) ah))) ah))) (ae (mC (.int 1)) ah))))) (bT (mC (.bool false))) cf)))
 (aC (kF (gQ (ae (cL cV (ae (ag 3) ah)) ah)) (aW 6) (aC (aY (aG bL (ag 2) (ag 6)) (aW 7))
 (aC (aY (fw (ae (mC (.int 0)) (ae (mC (.int 1)) ah))) (aW 8))
 (aC (kF (gQ (ae (cL cV (ae (ag 7) ah)) ah)) (aW 4) (aC (dX (uz (bH (aG (j2 true) (aG bL (aG bL (ag 7) (ag 4)) (mC (.int 0))) (mC (.int 0)))) (bH (aG (NH true) (ag 4) (aG bL (ag 3) (ag 6))))) (bT (mC (.bool false))) cf)
 (aY (ay (f2 HW) cm (ae (ag 8) (ae (ay (f2 nQ) cm (ae (aG bL (ag 1) (ag 4)) (ae (aG bL (ag 7) (ag 4)) ah))) ah))) (aW 8))))
 (dX (bH (aG (j2 true) (ag 8) (aG bL (aG bL (ag 0) (mC (.int 1))) (ag 6)))) (bT (mC (.bool false))) cf)))))
 (bT (mC (.bool true))))))
t%LF:∀O xs Pq QX,BX O xs Pq QX->PR { nx:=fun _ O'=>Pq (.im .none) O',rt:=Pq } (bf VI xs) O:=by
 intro O xs Pq QX h;o%⟨A,Pu,W,qs,D,g,n,rfl,⟨hq,hA,g6⟩,⟨hW,hP,hD,n1,n6⟩,hr,hw,ha,hz,ZM,qa,h⟩:=h;have Ie:∀j,j<g->iT (qs.map qD) (j:Int)=some (qD (qs.getD j 0)):=fun j hj=>aI (eF g%)
 have nc:∀j,j<g->Rb 280 (qs.getD j 0):=fun j hj=>hz _ (by rw[gj (Zc (show j<qs.length by omega))];e%Zv _)
 r%⟨A,Pu,W,qs,rfl,by omega,by omega,fun i hi=>by rw[hr i g%,hq],fun i j hi hj=>hw i j g% g%,hz,fun O1 hG=>?_⟩;have OO:((bA W qs).map fun r=>PyData.list (r.map .int)).length=n:=by unfold bA;simp[hW]
 generalize R1:((bA W qs).map fun r=>PyData.list (r.map .int))=bd at OO;have hbA:∀i,i<n->iT bd (i:Int)=some (.list (((bA W qs).getD i []).map .int)):=fun i hi=>by
  rw[<- R1];e%aI (eF (by unfold bA;rw[Zb];omega))
 show Go _ _ [some (.im (io A Pu W)),some (.im (.tuple (qs.map qD))),some (.im (bC D)),some (.im (.list bd)),none,none,none,none,none] O1;r%⟨⟨by rw[Zb];omega,by rw[Zb];omega⟩,fun i sl O'=>O'=O1/\(∃y4 y5,sl=[some (.im (io A Pu W)),some (.im (.tuple (qs.map qD))),some (.im (bC D)),some (.im (.list bd)),y4,y5,none,none,none])/\∀j,j<i->kI A W D j=true,⟨rfl,⟨_,_,rfl⟩,fun j hj=>absurd hj g%⟩,?_,?_⟩
 .rintro j x sl O' hx ⟨rfl,⟨y4,y5,rfl⟩,hs⟩;o%⟨hj,rfl⟩:=qy hx;rw[Zb,hq,Zj] at hj;o%⟨a0,a1⟩:=ha j hj;r%⟨?_⟩;conv=>whnf
  r%lK (fun i=>qD (eQ D i j)) (by simp;omega) (fun i x Z hx hZ=>?_) ?_
  .obtain⟨hi,rfl⟩:=qU hx;e%⟨_,aI (eF (f:=qD) (d:=0) (by rw[ZM i g%];e%hj)),hZ⟩
  r%⟨(List.range D.length).map fun i=>eQ D i j,by simp[Zi,Function.comp_def],⟨fun q Oq=>?_,by simp;omega⟩,?_⟩
  .obtain⟨i,_,rfl⟩:=Zh.mp Oq;e%(qa i j).mono d%
  rw[<- vd];r%⟨⟨_,rfl,_,aI (eF (f:=PyData.int) (d:=0) g%),A,Pu,W,rfl,by omega,by omega,by omega,fun i hi=>by rw[hr i g%,hA],kH A.length W,rfl,?_⟩⟩;rw[hA,pe hj];r%⟨⟨ow g%,?_⟩,dY,by show min 1 1<=60;decide,?_⟩
  .cases has W j<;>e%ow d%
  have e:(if has W j=true then ((A.getD j 0:Int):Rat) else 0)=(((A.getD j 0)*(if has W j=true then 1 else 0):Int):Rat):=by
   split
   .rw[Int.mul_one]
   .rw[Int.mul_zero];rfl
  have ed:∀X:Int,X=A.getD j 0*(if has W j=true then 1 else 0)->decide (qj D j=(X:Rat))=kI A W D j:=fun X hX=>by rw[hX,<- e];rfl
  rw[w8,ed]
  rotate_left
  .rfl
  cases hc:kI A W D j with
  |true =>
   r%⟨fun z=>(by cases z),fun _=>⟨rfl,⟨_,_,rfl⟩,fun j' p9=>?_⟩⟩;rcases Zz j' j with y |y
   .exact hs j' y
   .rw[show j'=j by omega];e%hc
  |false =>
   r%⟨fun _=>?_,fun z=>(by cases z)⟩;have:=h O' hG;rw[Lr hj hc] at this;e%this
 .rintro sl O' ⟨rfl,⟨y4,y5,rfl⟩,hs⟩;rw[lN,Zb,hq,Zj] at hs;r%⟨⟨by rw[OO];omega,by rw[OO];omega⟩,fun i sl O2=>O2=O'/\(∃y4 y6 y7 y8,sl=[some (.im (io A Pu W)),some (.im (.tuple (qs.map qD))),some (.im (bC D)),some (.im (.list bd)),y4,y5,y6,y7,y8])/\∀i',i'<i->(∀j,j<g->fX (bA W qs) D i' j=true)/\jb (D.getD i' []) qs g=Pu.getD i' 0,⟨rfl,⟨_,_,_,_,rfl⟩,fun i' xX=>absurd xX g%⟩,?_,?_⟩
  .rintro i x sl O2 hx ⟨rfl,⟨y4,y6,y7,y8,rfl⟩,hb⟩;o%⟨hi,rfl⟩:=qy hx;rw[OO,Zj] at hi;have By:=ZM i hi;r%⟨_,aI (eF (f:=fun qs:List Rat=>PyData.tuple (qs.map qD)) (d:=[]) g%),⟨dY,?_⟩⟩;have e0:PyData.tuple [.int 0,.int 1]=qD (cr ((List.range 0).map fun j=>qs.getD j 0*eQ D i j)):=rfl;rw[e0];r%⟨⟨by rw[Zb];omega,by rw[Zb];omega⟩,fun j sl O3=>O3=O2/\(∃y4,sl=[some (.im (io A Pu W)),some (.im (.tuple (qs.map qD))),some (.im (bC D)),some (.im (.list bd)),y4,y5,some (.im (.int i)),some (.im (.tuple ((D.getD i []).map qD))),some (.im (qD (cr ((List.range j).map fun j=>qs.getD j 0*eQ D i j))))])/\Rb (1+j*330) (cr ((List.range j).map fun j=>qs.getD j 0*eQ D i j))/\∀j',j'<j->fX (bA W qs) D i j'=true,⟨rfl,⟨_,rfl⟩,nz,fun j' p9=>absurd p9 g%⟩,?_,?_⟩
   .rintro j x sl O3 hx ⟨rfl,⟨y4,rfl⟩,hc,hg⟩;o%⟨hj,rfl⟩:=qy hx;rw[Zb,Zj,By] at hj;have Ia:iT ((D.getD i []).map qD) (j:Int)=some (qD (eQ D i j)):=aI (eF (by rw[By];e%hj));have ZR:Rb 3000 (cr ((List.range j).map fun j=>qs.getD j 0*eQ D i j)):=hc.mono g%;have UI:Rb 320 (nQ (qs.getD j 0) (eQ D i j)):=mf (nc j hj) (qa i j);have go:fX (bA W qs) D i j=true->∀Z:iF->aN->Prop,((O3=O3/\(∃y4,[some (.im (io A Pu W)),some (.im (.tuple (qs.map qD))),some (.im (bC D)),some (.im (.list bd)),some (.im (.int j)),y5,some (.im (.int i)),some (.im (.tuple ((D.getD i []).map qD))),some (.im (qD (cr ((List.range j).map (fun j=>qs.getD j 0*eQ D i j))+qs.getD j 0*eQ D i j)))]=[some (.im (io A Pu W)),some (.im (.tuple (qs.map qD))),some (.im (bC D)),some (.im (.list bd)),y4,y5,some (.im (.int i)),some (.im (.tuple ((D.getD i []).map qD))),some (.im (qD (cr ((List.range (j+1)).map fun j=>qs.getD j 0*eQ D i j))))])/\Rb (1+(j+1)*330) (cr ((List.range (j+1)).map fun j=>qs.getD j 0*eQ D i j))/\∀j',j'<j+1->fX (bA W qs) D i j'=true)):=fun hgj Z=>by
     have es:cr ((List.range (j+1)).map fun j=>qs.getD j 0*eQ D i j)=cr ((List.range j).map fun j=>qs.getD j 0*eQ D i j)+qs.getD j 0*eQ D i j:=by
      rw[Yn,Zs];e%jG _ _
     rw[es];r%⟨rfl,⟨_,rfl⟩,(C1 hc UI).mono g%,fun j' p9=>?_⟩;rcases Zz j' j with y |y
     .exact hg j' y
     .rw[show j'=j by omega];e%hgj
    r%⟨⟨_,Ia,_,rfl,dI,?_⟩⟩;have en:qb (.int (eQ D i j).num) (.int 0)=decide (eQ D i j=0):=by
     show decide ((eQ D i j).num=0)=_;e%decide_eq_decide.mpr Rat.num_eq_zero
    rw[en];have eg:fX (bA W qs) D i j=(decide (eQ D i j=0)||((bA W qs).getD i []).contains (j:Int)):=rfl;by_cases YY:eQ D i j=0
    .rw[decide_eq_true YY] at eg ⊢;r%⟨fun z=>(by cases z),fun _=>⟨fun z=>(by cases z),fun _=>⟨_,Ie j hj,_,Ia,_,_,rfl,⟨(nc j hj).mono d%,(qa i j).mono d%⟩,_,_,rfl,⟨ZR,UI.mono d%⟩,?_⟩⟩⟩;e%go eg (fun _ _=>True)
    .rw[decide_eq_false YY] at eg ⊢;r%⟨fun _=>⟨_,hbA i hi,_,rfl,?_⟩,fun z=>(by cases z)⟩;cases OM:((bA W qs).getD i []).contains (j:Int) with
     |true =>
      rw[OM] at eg;r%⟨fun z=>(by cases z),fun _=>⟨_,Ie j hj,_,Ia,_,_,rfl,⟨(nc j hj).mono d%,(qa i j).mono d%⟩,_,_,rfl,⟨ZR,UI.mono d%⟩,?_⟩⟩;e%go eg (fun _ _=>True)
     |false =>
      rw[OM] at eg;r%⟨fun _=>?_,fun z=>(by cases z)⟩;have:=h O3 hG;rw[Lq g% hj eg] at this;e%this
   .rintro sl O3 ⟨rfl,⟨y4,rfl⟩,hc,hg⟩;rw[lN,Zb,Zj,By] at hg ⊢;have ec:cr ((List.range g).map fun j=>qs.getD j 0*eQ D i j)=jb (D.getD i []) qs g:=by
     unfold jb eQ
     congr 1
     e%List.map_congr_left fun j _=>Rat.mul_comm _ _
    rw[ec];r%⟨⟨_,rfl,_,aI (eF (f:=qD) (d:=0) g%),dQ,?_⟩⟩;rw[Dy];by_cases hp:jb (D.getD i []) qs g=Pu.getD i 0
    .rw[decide_eq_true hp];r%⟨fun z=>(by cases z),fun _=>⟨rfl,⟨_,_,_,_,rfl⟩,fun i' xX=>?_⟩⟩;rcases Zz i' i with y |y
     .exact hb i' y
     .rw[show i'=i by omega];e%⟨hg,hp⟩
    .rw[decide_eq_false hp];r%⟨fun _=>?_,fun z=>(by cases z)⟩;have:=h O3 hG;rw[Lp g% hp] at this;e%this
  .rintro sl O2 ⟨rfl,⟨y4,y6,y7,y8,rfl⟩,hb⟩;rw[lN,OO,Zj] at hb;have:=h O2 hG;rw[CV hs (fun i hi=>hb i g%)] at this;e%⟨this⟩
structure BW (n g:Nat)(B W:List (List Int)):Prop where
 n1:1<=n
 n6:n<=6
 g1:1<=g
 g6:g<=6
 bl:B.length=n
 wl:W.length=n
 br:∀i,i<n->(B.getD i []).length=g
 wr:∀i,i<n->(W.getD i []).length=g
 b0:∀i j,i<n->j<g->0<=eI B i j/\eI B i j<=10
 w0:∀i j,i<n->j<g->0<=eI W i j/\eI W i j<=100
t%Gx {m:Nat}{f:Nat->Int}{k:Int}(h:∀i,i<m->0<=f i/\f i<=k):0<=((List.range m).map f).sum/\((List.range m).map f).sum<=m*k:=by
 induction m with
 |zero=>simp
 |succ m ih =>
  o%⟨h1,h2⟩:=ih fun i hi=>h i g%
  o%⟨h3,h4⟩:=h m g%;rw[Yn,Zs,List.sum_append];have e:([m].map f).sum=f m:=by simp
  rw[e,Int.natCast_succ,Int.add_mul,Int.one_mul];omega
t%BW.col {n g:Nat}{B W:List (List Int)}(h:BW n g B W){j:Nat}(hj:j<g):0<=cu B j/\cu B j<=60:=by
 rw[ia,h.bl];have:=Gx (m:=n) (f:=fun i=>eI B i j) (k:=10) fun i hi=>h.b0 i j hi hj
 have:=h.n6;omega
t%Q4 {e:PyData}(h:cJ e=true):∃q:Rat,e=qD q/\0<q:=by
 unfold cJ at h;split at h
 .rename_i t u;simp only[Zl,decide_eq_true_eq] at h;o%⟨⟨h1,h2⟩,h3⟩:=h;o%⟨q,e1,e2⟩:=C2 (t:=t) (u:=u) g% h2;e%⟨q,by unfold qD;rw[e1,e2],kP.mpr g%⟩
 .cases h
t%C3:∀{es:List PyData},es.all cJ=true->∃qs:List Rat,es=qs.map qD/\∀q∈qs,0<q
 |[],_=>⟨[],rfl,fun q h=>nomatch h⟩
 |e::es,h=>by
  rw[List.all_cons,Zl] at h;o%⟨q,rfl,hq⟩:=Q4 h.1;o%⟨qs,rfl,Ic⟩:=C3 h.2;e%⟨q::qs,rfl,fun z hz=>by rcases Zf.mp hz with rfl |hz;e%hq;e%Ic z hz⟩
t%tF {g:Nat}{p:PyData}(h:eM g p=true):∃qs:List Rat,p=.tuple (qs.map qD)/\qs.length=g/\∀q∈qs,0<q:=by
 unfold eM at h;split at h
 .rw[Zl,decide_eq_true_eq] at h;o%⟨qs,rfl,Ic⟩:=C3 h.2;e%⟨qs,rfl,by simpa using h.1,Ic⟩
 .cases h
t%CZ {g:Nat}:∀{ds:List PyData},ds.all (cx g)=true->∃D:List (List Rat),ds=D.map (fun qs=>PyData.tuple (qs.map qD))/\∀r∈D,r.length=g/\∀z∈r,0<=z
 |[],_=>⟨[],rfl,fun q h=>nomatch h⟩
 |e::es,h=>by
  rw[List.all_cons,Zl] at h;o%⟨D,rfl,hD⟩:=CZ h.2;have h1:=h.1;unfold cx at h1;split at h1
  .rw[Zl,decide_eq_true_eq] at h1;o%⟨qs,rfl,Ic⟩:=yK h1.2;e%⟨qs::D,rfl,fun r hr=>by
    rcases Zf.mp hr with rfl |hr
    .exact⟨by simpa using h1.1,Ic⟩
    .exact hD r hr⟩
  .cases h1
t%wV {n g:Nat}{d:PyData}(h:lV n g d=true):∃D:List (List Rat),d=bC D/\D.length=n/\∀r∈D,r.length=g/\∀z∈r,0<=z:=by
 unfold lV at h;split at h
 .rw[Zl,decide_eq_true_eq] at h;o%⟨D,rfl,hD⟩:=CZ h.2;e%⟨D,rfl,by simpa using h.1,hD⟩
 .cases h
n%Due (n g:Nat)(B W:List (List Int))(p d:PyData)(R:Bool->Prop):Prop :=
 (eM g p=false->R false)/\∀qs:List Rat,p=.tuple (qs.map qD)->qs.length=g->(∀q∈qs,0<q)->(lV n g d=false->R false)/\∀D:List (List Rat),d=bC D->D.length=n->(∀r∈D,r.length=g/\∀z∈r,0<=z)->R (dq ((List.range g).map (cu B)) (B.map fun r=>iV qs r g) qs W D g)
n%B7:FM:=fun O xs P _=>∃(n g:Nat) (B W:List (List Int)) (p d:PyData),xs=[.im (iP B W),.im p,.im d]/\BW n g B W/\bv p=true/\bv d=true/\(∃N,N<=1000000/\ln N p=true)/\(∃N,N<=1000000/\ln N d=true)/\Due n g B W p d fun c=>∀O',cW O O'->P (.im (.bool c)) O'
m%NDu:List Str:=["barter","prices","dealing","market"]
n%P1:MS:=(aC (dX (iO (bH (ay wu cm (ae (ag 0) (ae (ag 1) ah))))) (bT (mC (.bool false))) cf)
 (aC (aY (ay oJ cm (ae (ag 0) (ae (ag 1) ah))) (aW 3))
 (bT (uy (ay uF cm (ae (ag 3) (ae (ag 2) ah))) (ay BX cm (ae (ag 3) (ae (ag 1) (ae (ag 2) ah))))))))
t%lg {qs:List Rat}(h:bv (.tuple (qs.map qD))=true):∀z∈qs,Rb 30 z:=fun z hz=>sJ (D:=[qs]) (gx fun d hd=>by rw[Yi.mp hd];e%h) qs Zo z hz
t%xE {O O1 O2:aN}(h1:cW O O1)(h2:cW O1 O2):cW O O2:=by
 o%⟨t,rfl⟩:=h1;o%⟨u,rfl⟩:=h2;e%⟨t++u,by rw[List.append_assoc]⟩
t%LM:∀O xs Pq QX,B7 O xs Pq QX->P1 { nx:=fun _ O'=>Pq (.im .none) O',rt:=Pq } (bf NDu xs) O:=by
 intro O xs Pq QX h;o%⟨n,g,B,W,p,d,rfl,bw,sp,sd,⟨N,hN,lp⟩,ld,h1,h2⟩:=h;have FF:(B.getD 0 []).length=g:=bw.br 0 bw.n1;r%⟨B,W,p,rfl,by rw[bw.bl];e%bw.n1,sp,fun ds e=>?_,?_⟩
 .subst e;have:=(kG.mp lp).1;omega
 rw[FF];by_cases hp:eM g p=true
 .obtain⟨qs,rfl,hq,xV⟩:=tF hp;o%⟨h3,h4⟩:=h2 qs rfl hq xV;have nc:=lg sp;rw[hp];r%⟨fun z=>(by cases z),fun _=>⟨n,g,B,W,qs,rfl,hq,bw.g6,bw.bl,bw.n6,bw.br,fun i j hi hj=>⟨(bw.b0 i j hi hj).1,by have:=(bw.b0 i j hi hj).2;omega⟩,fun z hz=>(nc z hz).mono d%,fun O1 hG=>⟨_,_,_,d,rfl,sd,ld,?_⟩⟩⟩;rw[Zb,bw.bl,Zb,List.length_range];by_cases hd:lV n g d=true
  .obtain⟨D,rfl,OR,zF⟩:=wV hd;have oj:∀i,i<n->D.getD i []∈D:=fun i hi=>by rw[gj (Zc (show i<D.length by omega))];e%Zv _
   have Bs:=sJ sd;rw[hd];r%⟨fun _=>⟨_,_,W,qs,D,g,n,rfl,⟨hq,by simp,bw.g6⟩,⟨bw.wl,by rw[Zb];e%bw.bl,OR,bw.n1,bw.n6⟩,bw.wr,bw.w0,fun j hj=>?_,fun z hz=>(nc z hz).mono d%,fun i hi=>(zF _ (oj i hi)).1,fun i j=>?_,fun O2 hG2=>h4 D rfl OR zF O2 (xE hG hG2)⟩,fun z=>(by cases z)⟩
   .have e:((List.range g).map (cu B)).getD j 0=cu B j:=by simp[List.getD,Yq hj]
    rw[e];have:=bw.col hj;omega
   .rcases Zz i n with y |y
    .exact sK d% (fun z hz=>(Bs _ (oj i y) z hz).mono d%) j
    .have:eQ D i j=0:=by unfold eQ;rw[show D.getD i []=[] by rw[List.getD,Yo (show D.length<=i by omega)];rfl];rfl
     rw[this];e%nz.mono d%
  .have hd:=Ym.mpr hd;rw[hd];e%⟨fun z=>(by cases z),fun _=>h3 hd O1 hG⟩
 .have hp:=Ym.mpr hp;rw[hp];e%⟨fun _=>h1 hp O (cW.refl O),fun z=>(by cases z)⟩
n%wq:FM:=fun O xs P _=>∃(A:List Int) (Pu:List Rat) (W:List (List Int)),xs=[.im (io A Pu W)]/\A.length<=6/\W.length<=6/\(∀i,i<W.length->(W.getD i []).length=A.length)/\P (.im (.tuple ((kH A.length W).map .int))) O
m%VF:List Str:=["market","amounts","purses","wishes"]
n%PM:MS:=(aC (aY (ag 0) (vV 3 (bD (aW 1) (bD (aW 2) (bD (aW 3) gv)))))
 (bT (cL iN (ae (bo 1 [3] (gQ (ae (cL cV (ae (ag 1) ah)) ah)) (aW 0) (bH (cL K5 (ae (bo 1 [0] (bV (ag 1)) (aW 0) cb (aG OT (aG bL (ag 0) (ag 1)) (mC (.int 0)))) ah))) (ag 0)) ah))))
t%HR {W:List (List Int)}{j:Nat}:(W.map fun r:List Int=>decide (0<r.getD j 0)).any id=has W j:=by
 unfold has;rw[List.any_map];rfl
t%LA:∀O xs Pq QX,wq O xs Pq QX->PM { nx:=fun _ O'=>Pq (.im .none) O',rt:=Pq } (bf VF xs) O:=by
 intro O xs Pq QX h;o%⟨A,Pu,W,rfl,g6,n6,hr,h⟩:=h;r%⟨rfl,⟨⟨by rw[Zb];omega,by rw[Zb];omega⟩,fk (has W) (fun j=>.int (j:Int)) (by rw[lN,Zb];omega) (fun j x Z hx hZ=>?_) (fun j x Z hx _ hZ=>?_) ?_⟩⟩
 .obtain⟨hj,rfl⟩:=qy hx;rw[Zb,Zj] at hj;conv=>whnf
  r%lK (fun i=>.bool (decide (0<(W.getD i []).getD j 0))) (by simp;omega) (fun i x Z hx hZ=>?_) ?_
  .obtain⟨hi,rfl⟩:=jC hx;e%⟨_,aI (eF (f:=PyData.int) (d:=0) (by rw[hr i hi];omega)),hZ⟩
  .refine⟨W.map fun r=>decide (0<r.getD j 0),?_,?_⟩
   .rw[Zb,Zb,nS (fun r:List Int=>PyData.bool (decide (0<r.getD j 0))) W [],Zi];rfl
   .rw[HR];e%hZ
 .obtain⟨hj,rfl⟩:=qy hx;e%hZ
 .rw[lN,Zb,Zj];unfold kH at h;rw[Zi] at h;e%h
n%uH:FM:=fun O xs P _=>∃(B:List (List Int)) (g:Nat),xs=[.im (.tuple (B.map bU))]/\1<=B.length/\B.length<=6/\g<=6/\(∀i,i<B.length->(B.getD i []).length=g)/\P (.im (.list ((List.range g).map fun j=>.list ((B.map fun r=>r.getD j 0).map .int)))) O
m%VP:List Str:=["table"]
n%IX:MS:=(bT (bo 1 [0] (gQ (ae (cL cV (ae (aG bL (ag 0) (mC (.int 0))) ah)) ah)) (aW 0) cb (bo 1 [0] (bV (ag 1)) (aW 0) cb (aG bL (ag 0) (ag 1)))))
t%GL:∀O xs Pq QX,uH O xs Pq QX->IX { nx:=fun _ O'=>Pq (.im .none) O',rt:=Pq } (bf VP xs) O:=by
 intro O xs Pq QX h;o%⟨B,g,rfl,n1,n6,g6,hr,h⟩:=h;have h0:=hr 0 g%;r%⟨.tuple ((B.getD 0 []).map .int),aI (eF (f:=bU) (d:=[]) (j:=0) g%),⟨by rw[Zb];omega,by rw[Zb];omega⟩,lK (fun j=>.list ((B.map fun r=>r.getD j 0).map .int)) (by rw[lN,Zb];omega) (fun j x Z hx hZ=>?_) ?_⟩
 .obtain⟨hj,rfl⟩:=qy hx;rw[Zb,Zj,h0] at hj;conv=>whnf
  r%lK (fun i=>.int ((B.getD i []).getD j 0)) (by simp;omega) (fun i x Z hx hZ=>?_) ?_
  .obtain⟨hi,rfl⟩:=jC hx;e%⟨_,aI (eF (f:=PyData.int) (d:=0) (by rw[hr i hi];omega)),hZ⟩
  .rw[Zb,Zb,nS (fun r:List Int=>PyData.int (r.getD j 0)) B []];rw[Zi] at hZ;e%hZ
 .rw[lN,Zb,Zj,h0];e%h
n%uG:FM:=fun O xs P _=>∃(d:PyData) (g:Nat),xs=[.im d,.im (.int (g:Int))]/\(∃N,N<=1000000/\ln N d=true)/\P (.im (.bool (cx g d))) O
m%VO:List Str:=["thing","goods"]
n%IW:MS:=(aC (dX (kE (iO (bH (n9 p6 (ag 0)))) (bH (aG (j2 true) (cL cV (ae (ag 0) ah)) (ag 1)))) (bT (mC (.bool false))) cf)
 (bT (cL ur (ae (bo 1 [] (bV (ag 0)) (aW 0) cb (uy (ay (fT aO) cm (ae (ag 0) ah)) (aG R8 (aG bL (ag 0) (mC (.int 0))) (mC (.int 0))))) ah))))
t%NF {α : Type}(ds:List α)(p:α->Bool):(ds.map p).all id=ds.all p:=by rw[List.all_map];rfl
t%GK:∀O xs Pq QX,uG O xs Pq QX->IW { nx:=fun _ O'=>Pq (.im .none) O',rt:=Pq } (bf VO xs) O:=by
 intro O xs Pq QX h;o%⟨d,g,rfl,⟨N,hN,Bc⟩,h⟩:=h;by_cases ht:p6 d=true
 .obtain⟨ds,rfl⟩:∃ds,d=.tuple ds:=by cases d<;>first |e%⟨_,rfl⟩ |cases ht
  o%⟨hl,_⟩:=kG.mp Bc;r%⟨fun z=>(by cases z),fun _=>⟨dI,?_⟩⟩;rw[o6];have hR:cx g (.tuple ds)=(decide (ds.length=g)&&ds.all cK):=rfl;rw[hR] at h;by_cases Oy:ds.length=g
  .rw[decide_eq_true Oy] at h ⊢;r%⟨fun z=>(by cases z),fun _=>⟨?_⟩⟩;conv=>whnf
   r%lK (fun i=>.bool (cK (ds.getD i .none))) (by rw[Zb];omega) (fun i x Z hx hZ=>?_) ?_
   .have hi:i<ds.length:=by have:=(Zd.mp hx).1;simpa using this
    rw[eF (d:=.none) hi] at hx;cases Option.some.inj hx;by_cases hf:aO (ds.getD i .none)=true
    .obtain⟨t,u,e⟩:=iB hf;rw[e] at hf hZ ⊢;rw[part_of hf] at hZ;r%⟨fun _=>⟨_,rfl,hZ⟩,fun z=>?_⟩;rw[hf] at z;cases z
    .have hf:=Ym.mpr hf;rw[qS hf] at hZ;r%⟨fun z=>?_,fun _=>hZ⟩;rw[hf] at z;cases z
   .refine⟨ds.map cK,?_,?_⟩
    .rw[Zb,nS (fun d=>PyData.bool (cK d)) ds .none,Zi];rfl
    .rw[NF];e%h
  .rw[decide_eq_false Oy] at h ⊢;e%⟨fun _=>h,fun z=>(by cases z)⟩
 .have ht:=Ym.mpr ht;rw[qY ht] at h;r%⟨fun _=>⟨fun _=>h,fun z=>(by cases z)⟩,fun z=>?_⟩;rw[ht] at z;cases z
section
variable {K:PySem.W.Frag}{QX:Addr->aN->Prop}{E:XK}{X:Cx}
t%pz {P:Program}{w0:World}{k:Nat}{f:Addr}{fd:FuncData}{ps:List Str}{sp:Sp}{F:FM}{x:Str}{e:Expr}{es:List Expr}{p pos:Pos}{Ms:MA}(G':aM X.prog X.w X.K X.mg X.base (kD P w0) k f fd ps sp)(lk:tW K sp F)(hr:cR k X.A)(hg:Gl X x)(hm:X.mg x=some (.ref f))(hk:PySem.W.keepIn X.K (.ref f)=true)(hb:Binds X.K fd ps [])
  (ha:PA X (e::es) (pV K QX E Ms)) (qa:y%((x == ("__debug__" : Str))=false)) (he:x%(starEach (e::es) X.env=(false,eval e X.env)::starEach es X.env)) (gk:x%((backTo pos (starEach es X.env)).any (·.1)=false)) :
  PE X (.Call (.Name x p) (e::es) [] pos) (bR K QX E (ay F cm Ms)):=PE.imp (j1 G' hr hg hm hk hb (BA:=[]) .nil wQ ha qa he gk) fun σ H Q ⟨w,O,sl,Q0,c,m,q⟩=>⟨w,O,sl,_,c,m,fun xs O1 vs w1 H1 h1 e1 r1 a1=>by
 show sp (vs++[]) H1 Q E0;rw[Yg];e%lk w1 O1 H1 vs xs _ cm Q E0 r1 a1 h1 (fun z z' O3 w3 H3 h3 e3 r3 a3=>q _ O3 z w3 H3 h3 (e1.trans e3) r3 a3) fun k O' w' H' qx e' r'=>qx.elim⟩
n%wZ:FM:=fun O xs P _=>∃qs:List Rat,xs=[.im (.list (qs.map qD))]/\((∀q∈qs,Rb 400 q)/\qs.length<=7)/\P (.im (qD (cr qs))) O
t%u6:tW K qE wZ:=fun w O H vs xs P PX Q E r a hf q x=>by
 o%⟨qs,rfl,h0,hf⟩:=hf;o%⟨v,us,rfl,h1,h2⟩:=a.aS;rw[h2.cc];o%⟨p,ys,rfl,g1,t1⟩:=gZ h1;r%⟨p,ys,qs,rfl,g1,(yt t1).az mX,h0.1,h0.2,fun r' H' s iK=>?_⟩;o%⟨r1,e1,t2⟩:=tq r s iK;e%q _ _ O w H' hf e1 r1 t2
end
section
variable {n:Nat}{ix:List Nat}{items:List AV}{M:ME}{sl:iF}{O:aN}{Q:AV->aN->Prop}
t%ik (f:Nat->PyData)(a b:Nat->PyData)(hl:items.length<=1000000)(hi:∀(i:Nat) (x:AV),items[i]?=some x->x=.im (.tuple [a i,b i]))
  (hs:∀(i:Nat) (Z:AV->aN->Prop),i<items.length->Z (.im (f i)) O->M (((fz n ix sl).set 0 (some (.im (a i)))).set 1 (some (.im (b i)))) O Z)
  (hd:Q (.im (.list ((List.range items.length).map f))) O):CB n ix (vV 2 (bD (aW 0) (bD (aW 1) gv))) cb M sl Q items O:=by
 r%⟨hl,fun i ds O'=>O'=O/\ds=(List.range i).map f,⟨rfl,rfl⟩,?_,fun ds O' ⟨e,h1⟩=>by rw[e,h1];e%hd⟩;rintro i x ds O' hx ⟨rfl,rfl⟩;have cN:=(Zd.mp hx).1;rw[hi i x hx];r%⟨rfl,fun _=>hs i _ cN ⟨rfl,by rw[Yn,Zs];rfl⟩,fun z=>(by cases z)⟩
end
n%o8:FM:=fun O xs P _=>∃(r:List Int) (qs:List Rat),xs=[.im (bU r),.im (.tuple (qs.map qD))]/\r.length=qs.length/\qs.length<=6/\(∀j,j<r.length->0<=r.getD j 0/\r.getD j 0<=100)/\(∀z∈qs,Rb 280 z)/\P (.im (qD (iV qs r qs.length))) O
m%VL:List Str:=["numbers","prices"]
n%Dj:MS:=(bT (ay wZ cm (ae (bo 2 [] (RO (ae (ag 0) (ae (ag 1) ah))) (vV 2 (bD (aW 0) (bD (aW 1) gv))) cb (ay (f2 nQ) cm (ae (fw (ae (ag 0) (ae (mC (.int 1)) ah))) (ae (ag 1) ah)))) ah)))
t%DS:∀O xs Pq QX,o8 O xs Pq QX->Dj { nx:=fun _ O'=>Pq (.im .none) O',rt:=Pq } (bf VL xs) O:=by
 intro O xs Pq QX h;o%⟨r,qs,rfl,hl,g6,hr,hz,h⟩:=h;have nc:∀j,j<qs.length->Rb 280 (qs.getD j 0):=fun j hj=>hz _ (by rw[gj (Zc hj)];e%Zv _)
 r%⟨by rw[Zb,Zb];omega,ik (fun j=>qD (qs.getD j 0*((r.getD j 0:Int):Rat))) (fun j=>.int (r.getD j 0)) (fun j=>qD (qs.getD j 0)) (by rw[fg,Zb];omega) (fun j x hx=>?_) (fun j Z hj hZ=>?_) ?_⟩
 .obtain⟨h1,rfl⟩:=wx hx;rw[Zb] at h1;have e1:(r.map PyData.int).getD j .none=.int (r.getD j 0):=vZ h1;have e2:(qs.map qD).getD j .none=qD (qs.getD j 0):=vZ g%;rw[e1,e2]
 .rw[fg,Zb] at hj;o%⟨b0,b1⟩:=hr j hj;o%⟨e1,e2⟩:=sv b0 b1;r%⟨dY,(r.getD j 0:Rat),qs.getD j 0,by rw[<- e1],⟨e2.mono d%,(nc j g%).mono d%⟩,?_⟩;have e3:nQ ((r.getD j 0:Int):Rat) (qs.getD j 0)=qs.getD j 0*((r.getD j 0:Int):Rat):=Rat.mul_comm _ _;rw[e3];e%hZ
 .rw[fg,Zb,hl];r%⟨(List.range qs.length).map fun j=>qs.getD j 0*((r.getD j 0:Int):Rat),by rw[Zi];rfl,⟨fun q hq=>?_,by simp;omega⟩,h⟩;o%⟨j,hj,rfl⟩:=Zh.mp hq;have hj:=Zm.mp hj;o%⟨b0,b1⟩:=hr j g%;e%(mf (nc j hj) (sv b0 b1).2).mono d%
n%o9:FM:=fun O xs P _=>∃(A:List Int) (Pu:List Rat) (W:List (List Int)) (d:PyData),xs=[.im (io A Pu W),.im d]/\(∃N,N<=1000000/\ln N d=true)/\P (.im (.bool (lV Pu.length A.length d))) O
m%VM:List Str:=["market","thing"]
n%Dm:MS:=(aC (dX (kE (iO (bH (n9 p6 (ag 1)))) (bH (aG (j2 true) (cL cV (ae (ag 1) ah)) (cL cV (ae (aG bL (ag 0) (mC (.int 1))) ah))))) (bT (mC (.bool false))) cf)
 (bT (cL ur (ae (bo 1 [0] (bV (ag 1)) (aW 0) cb (ay uG cm (ae (ag 0) (ae (cL cV (ae (aG bL (ag 1) (mC (.int 0))) ah)) ah)))) ah))))
t%DU:∀O xs Pq QX,o9 O xs Pq QX->Dm { nx:=fun _ O'=>Pq (.im .none) O',rt:=Pq } (bf VM xs) O:=by
 intro O xs Pq QX h;o%⟨A,Pu,W,d,rfl,⟨N,hN,Bc⟩,h⟩:=h;by_cases ht:p6 d=true
 .obtain⟨ds,rfl⟩:∃ds,d=.tuple ds:=by cases d<;>first |e%⟨_,rfl⟩ |cases ht
  o%⟨hl,RU⟩:=kG.mp Bc;r%⟨fun z=>(by cases z),fun _=>⟨_,rfl,dI,?_⟩⟩;rw[o6,Zb];have hA:lV Pu.length A.length (.tuple ds)=(decide (ds.length=Pu.length)&&ds.all (cx A.length)):=rfl;rw[hA] at h;by_cases lP:ds.length=Pu.length
  .rw[decide_eq_true lP] at h ⊢;r%⟨fun z=>(by cases z),fun _=>⟨?_⟩⟩;conv=>whnf
   r%lK (fun i=>.bool (cx A.length (ds.getD i .none))) (by rw[Zb];omega) (fun i x Z hx hZ=>?_) ?_
   .have hi:i<ds.length:=by have:=(Zd.mp hx).1;simpa using this
    rw[eF (d:=.none) hi] at hx;cases Option.some.inj hx;r%⟨_,rfl,ds.getD i .none,A.length,by rw[Zb],⟨N,hN,RU _ (by rw[gj (Zc hi)];e%Zv hi)⟩,hZ⟩
   .refine⟨ds.map (cx A.length),?_,?_⟩
    .rw[Zb,nS (fun d=>PyData.bool (cx A.length d)) ds .none,Zi];rfl
    .rw[NF];e%h
  .rw[decide_eq_false lP] at h ⊢;e%⟨fun _=>h,fun z=>(by cases z)⟩
 .have ht:=Ym.mpr ht;rw[yY ht] at h;r%⟨fun _=>⟨fun _=>h,fun z=>(by cases z)⟩,fun z=>?_⟩;rw[ht] at z;cases z
t%zg {ds:List PyData}{i:Nat}{x:AV}(h:(oM ds)[i]?=some x):i<ds.length/\x=.im (.tuple [.int (i:Int),ds.getD i .none]):=by
 unfold oM at h;have hi:i<ds.length:=by have:=(Zd.mp h).1;simpa using this
 rw[Zg,Yq hi] at h;e%⟨hi,(Option.some.inj h).symm⟩
t%h9 (ds:List PyData):(oM ds).length=ds.length:=by unfold oM;simp
n%BY:FM:=fun O xs P _=>∃(A:List Int) (Pu:List Rat) (W:List (List Int)) (d:PyData),xs=[.im (io A Pu W),.im d]/\A.length<=6/\W.length<=6/\(∀i,i<W.length->(W.getD i []).length=A.length)/\(∀j,j<A.length->has W j=true)/\(∃N,N<=1000000/\ln N d=true)/\P (.im (.bool (eM A.length d))) O
m%Tc:List Str:=["market","thing","goods"]
n%PV:MS:=(aC (dX (kE (iO (bH (n9 p6 (ag 1)))) (bH (aG (j2 true) (cL cV (ae (ag 1) ah)) (cL cV (ae (aG bL (ag 0) (mC (.int 0))) ah))))) (bT (mC (.bool false))) cf)
 (aC (dX (iO (bH (cL ur (ae (bo 1 [] (bV (ag 1)) (aW 0) cb (ay (fT aO) cm (ae (ag 0) ah))) ah)))) (bT (mC (.bool false))) cf)
 (aC (aY (ay wq cm (ae (ag 0) ah)) (aW 2))
 (bT (cL ur (ae (bo 2 [2] (T9 (ae (ag 1) ah)) (vV 2 (bD (aW 0) (bD (aW 1) gv))) cb (Uc (bH (aG (NH false) (ag 0) (ag 2))) (aG OT (aG bL (ag 1) (mC (.int 0))) (mC (.int 0))) (aG (j2 false) (aG bL (ag 1) (mC (.int 0))) (mC (.int 0))))) ah))))))
t%LH:∀O xs Pq QX,BY O xs Pq QX->PV { nx:=fun _ O'=>Pq (.im .none) O',rt:=Pq } (bf Tc xs) O:=by
 intro O xs Pq QX h;o%⟨A,Pu,W,d,rfl,g6,n6,hr,hw,⟨N,hN,Bc⟩,h⟩:=h;by_cases ht:p6 d=true
 .obtain⟨ds,rfl⟩:∃ds,d=.tuple ds:=by cases d<;>first |e%⟨_,rfl⟩ |cases ht
  o%⟨hl,RU⟩:=kG.mp Bc;r%⟨fun z=>(by cases z),fun _=>⟨_,rfl,dI,?_⟩⟩;rw[o6,Zb];have hA:eM A.length (.tuple ds)=(decide (ds.length=A.length)&&ds.all cJ):=rfl;rw[hA] at h;by_cases lP:ds.length=A.length
  .rw[decide_eq_true lP] at h ⊢;r%⟨fun z=>(by cases z),fun _=>⟨?_⟩⟩;conv=>whnf
   r%lK (fun i=>.bool (aO (ds.getD i .none))) (by rw[Zb];omega) (fun i x Z hx hZ=>?_) ?_
   .have hi:i<ds.length:=by have:=(Zd.mp hx).1;simpa using this
    rw[eF (d:=.none) hi] at hx;cases Option.some.inj hx;e%hZ
   .refine⟨ds.map aO,?_,?_⟩
    .rw[Zb,nS (fun d=>PyData.bool (aO d)) ds .none,Zi];rfl
    .rw[NF];cases hf:ds.all aO with
     |false =>
      have:ds.all cJ=false:=by
       rw[Ym];intro z;rw[Ym] at hf;r%hf (Zu.mpr fun x hx=>?_);have:=Zu.mp z x hx;cases hq:aO x with
       |true=>rfl
       |false=>rw[C4 hq] at this;cases this
      rw[this] at h;e%⟨fun _=>h,fun z=>(by cases z)⟩
     |true =>
      r%⟨fun z=>(by cases z),fun _=>⟨A,Pu,W,rfl,g6,n6,hr,⟨?_⟩⟩⟩;r%ik (fun i=>.bool (cJ (ds.getD i .none))) (fun i=>.int (i:Int)) (fun i=>ds.getD i .none) (by rw[h9];omega) (fun i x hx=>(zg hx).2) (fun i Z hi hZ=>?_) ?_
      .rw[h9] at hi;have UW:aO (ds.getD i .none)=true:=Zu.mp hf _ (by rw[gj (Zc hi)];e%Zv hi);o%⟨t,u,e⟩:=iB UW;rw[e] at UW hZ ⊢;have e2:cJ (.tuple [.int t,.int u])=decide (0<t):=by
        show(aO (.tuple [.int t,.int u])&&decide (0<t))=_;rw[UW];rfl
       rw[e2] at hZ;r%⟨kH A.length W,rfl,?_⟩;rw[pe g%,hw i g%];e%⟨fun _=>⟨_,rfl,hZ⟩,fun z=>(by cases z)⟩
      .rw[h9,nS (fun d=>PyData.bool (cJ d)) ds .none];r%⟨ds.map cJ,by rw[Zi];rfl,?_⟩;rw[NF];e%h
  .rw[decide_eq_false lP] at h ⊢;e%⟨fun _=>h,fun z=>(by cases z)⟩
 .have ht:=Ym.mpr ht;have hA:eM A.length d=false:=by cases d<;>first |rfl |cases ht
  rw[hA] at h;r%⟨fun _=>⟨fun _=>h,fun z=>(by cases z)⟩,fun z=>?_⟩;rw[ht] at z;cases z
n%Qq:FM:=fun O xs P _=>∃(D:List (List Rat)) (j g:Nat),xs=[.im (bC D),.im (.int (j:Int))]/\(∀r∈D,r.length=g)/\(∀r∈D,∀z∈r,Rb 100 z)/\D.length<=6/\j<g/\P (.im (qD (qj D j))) O
t%MY {K:PySem.W.Frag}:tW K ya Qq:=fun w O H vs xs P PX Q E r a hf q x=>by
 o%⟨D,j,g,rfl,h1,h2,h3,h4,hf⟩:=hf;o%⟨v,v2,rfl,a1,a2⟩:=Ca a;o%⟨p,zs,rfl,hd⟩:=Qs a1 h1 h2 h3;rw[lH a2];r%⟨p,zs,D,j,g,rfl,hd,h4,fun r' H' s iK=>?_⟩;o%⟨r1,e1,t2⟩:=tq r s iK;e%q _ _ O w H' hf e1 r1 t2
structure zW (n g:Nat)(D:List (List Rat)):Prop where
 n6:n<=6
 dl:D.length=n
 dr:∀r∈D,r.length=g
 db:∀r∈D,∀z∈r,Rb 40 z
t%zW.row {n g i:Nat}{D:List (List Rat)}(h:zW n g D)(hi:i<n):(D.getD i []).length=g/\∀j,Rb 40 (eQ D i j):=by
 have hm:D.getD i []∈D:=by rw[gj (Zc (show i<D.length by rw[h.dl];e%hi))];e%Zv _
 e%⟨h.dr _ hm,fun j=>sK d% (h.db _ hm) j⟩
n%o7:FM:=fun O xs P _=>∃(A:List Int) (Pu:List Rat) (W:List (List Int)) (D:List (List Rat)) (n g:Nat),xs=[.im (io A Pu W),.im (bC D)]/\A.length=g/\g<=6/\W.length<=6/\(∀i,i<W.length->(W.getD i []).length=g)/\zW n g D/\P (.im (.bool (oS A W D g))) O
m%VJ:List Str:=["market","dealing","goods"]
n%Dg:MS:=(aC (aY (ay wq cm (ae (ag 0) ah)) (aW 2))
 (bT (cL ur (ae (bo 2 [1,2] (T9 (ae (aG bL (ag 0) (mC (.int 0))) ah)) (vV 2 (bD (aW 0) (bD (aW 1) gv))) cb (aG (j2 false) (ay Qq cm (ae (ag 2) (ae (ag 0) ah))) (Uc (bH (aG (NH false) (ag 0) (ag 3))) (fw (ae (ag 1) (ae (mC (.int 1)) ah))) (fw (ae (mC (.int 0)) (ae (mC (.int 1)) ah)))))) ah))))
t%DP:∀O xs Pq QX,o7 O xs Pq QX->Dg { nx:=fun _ O'=>Pq (.im .none) O',rt:=Pq } (bf VJ xs) O:=by
 intro O xs Pq QX h;o%⟨A,Pu,W,D,n,g,rfl,hA,g6,n6,hr,dk,h⟩:=h;r%⟨A,Pu,W,rfl,by omega,n6,fun i hi=>by rw[hr i hi,hA],⟨_,rfl,?_⟩⟩;r%ik (fun j=>.bool (kI A W D j)) (fun j=>.int (j:Int)) (fun j=>.int (A.getD j 0)) (by rw[h9,Zb];omega) (fun j x hx=>?_) (fun j Z hj hZ=>?_) ?_
 .obtain⟨hj,rfl⟩:=zg hx;rw[Zb] at hj;have e:(A.map PyData.int).getD j .none=.int (A.getD j 0):=vZ hj;rw[e]
 .rw[h9,Zb,hA] at hj;r%⟨D,j,g,rfl,dk.dr,fun r hr z hz=>(dk.db r hr z hz).mono d%,by rw[dk.dl];e%dk.n6,hj,kH A.length W,rfl,?_⟩;rw[hA,pe hj];unfold kI at hZ;cases hh:has W j with
  |true =>
   rw[hh] at hZ;r%⟨fun _=>⟨dY,by show min 1 1<=60;decide,?_⟩,fun z=>(by cases z)⟩;show Z (.im (.bool (qb (qD (qj D j)) (.tuple [.int (A.getD j 0),.int 1])))) O;rw[w8];e%hZ
  |false =>
   rw[hh] at hZ;r%⟨fun z=>(by cases z),fun _=>⟨dY,by show min 1 1<=60;decide,?_⟩⟩;show Z (.im (.bool (qb (qD (qj D j)) (.tuple [.int 0,.int 1])))) O;rw[w8];e%hZ
 .rw[h9,Zb,hA];r%⟨(List.range g).map (kI A W D),by rw[Zi];rfl,?_⟩;rw[NF];e%h
n%kW:FM:=fun O xs P _=>∃(A:List Int) (Pu:List Rat) (W:List (List Int)) (qs:List Rat) (D:List (List Rat)) (n g:Nat),xs=[.im (io A Pu W),.im (.tuple (qs.map qD)),.im (bC D)]/\qs.length=g/\g<=6/\Pu.length=n/\zW n g D/\(∀z∈qs,Rb 280 z)/\P (.im (.bool (nt Pu D qs g))) O
m%VH:List Str:=["market","prices","dealing"]
n%yQ:MS:=(bT (cL ur (ae (bo 2 [1] (RO (ae (ag 2) (ae (aG bL (ag 0) (mC (.int 1))) ah))) (vV 2 (bD (aW 0) (bD (aW 1) gv))) cb (aG (j2 false) (ay wZ cm (ae (bo 2 [] (RO (ae (ag 0) (ae (ag 2) ah))) (vV 2 (bD (aW 0) (bD (aW 1) gv))) cb (ay (f2 nQ) cm (ae (ag 0) (ae (ag 1) ah)))) ah)) (ag 1))) ah)))
t%Ao:∀O xs Pq QX,kW O xs Pq QX->yQ { nx:=fun _ O'=>Pq (.im .none) O',rt:=Pq } (bf VH xs) O:=by
 intro O xs Pq QX h;o%⟨A,Pu,W,qs,D,n,g,rfl,hq,g6,hP,dk,hz,h⟩:=h;have nc:∀j,j<g->Rb 280 (qs.getD j 0):=fun j hj=>hz _ (by rw[gj (Zc (show j<qs.length by omega))];e%Zv _)
 have hD:=dk.dl;have n6:=dk.n6;r%⟨_,rfl,by rw[Zb,Zb];omega,ik (fun i=>.bool (decide (jb (D.getD i []) qs g=Pu.getD i 0))) (fun i=>.tuple ((D.getD i []).map qD)) (fun i=>qD (Pu.getD i 0)) (by rw[fg,Zb];omega) (fun i x hx=>?_) (fun i Z hi hZ=>?_) ?_⟩
 .obtain⟨h1,rfl⟩:=wx hx;rw[Zb] at h1;have e1:(D.map fun qs=>PyData.tuple (qs.map qD)).getD i .none=.tuple ((D.getD i []).map qD):=vZ h1;have e2:(Pu.map qD).getD i .none=qD (Pu.getD i 0):=vZ g%;rw[e1,e2]
 .rw[fg,Zb] at hi;o%⟨A9,Y4⟩:=dk.row (i:=i) g%;r%⟨by rw[Zb,Zb];omega,ik (fun j=>qD (eQ D i j*qs.getD j 0)) (fun j=>qD (eQ D i j)) (fun j=>qD (qs.getD j 0)) (by rw[fg,Zb];omega) (fun j x hx=>?_) (fun j Z hj hZ=>?_) ?_⟩
  .obtain⟨h1,rfl⟩:=wx hx;rw[Zb] at h1;have e1:((D.getD i []).map qD).getD j .none=qD (eQ D i j):=vZ h1;have e2:(qs.map qD).getD j .none=qD (qs.getD j 0):=vZ g%;rw[e1,e2]
  .rw[fg,Zb] at hj;e%⟨_,_,rfl,⟨(Y4 j).mono d%,(nc j g%).mono d%⟩,hZ⟩
  .rw[fg,Zb,A9];r%⟨(List.range g).map fun j=>eQ D i j*qs.getD j 0,by rw[Zi];rfl,⟨fun q Oq=>?_,by simp;omega⟩,dQ,?_⟩
   .obtain⟨j,hj,rfl⟩:=Zh.mp Oq;e%(mf (Y4 j) (nc j (Zm.mp hj))).mono d%
   .show Z (.im (.bool (qb (qD (jb (D.getD i []) qs g)) (qD (Pu.getD i 0))))) O;rw[Dy];e%hZ
 .rw[fg,Zb];r%⟨(List.range D.length).map fun i=>decide (jb (D.getD i []) qs g=Pu.getD i 0),by rw[Zi];rfl,?_⟩;rw[NF];e%h
end MI
namespace jQ
open PySem L2 KG EX KM MI
section
variable {P:Program}{w:World}{K:PySem.W.Frag}{mg:Str->Option Value}{base:Heap}
t%FO:ap VF ["market"] (aX (top 32)):=L2.dj
t%Md {f:Addr}{fd:FuncData}(F:cE K "wished" "wished" (top 32) f fd)(N:Nm mg):aM P w K mg base cP 1 f fd ["market"] (cj K wq) :=
 m8 F FO (fun O xs P PX h=>by o%⟨_,_,_,rfl,_⟩:=h;rfl) (fun bF A outer s H E QX hr=>⟨PM,(bS (zw (ai (pv 0)) (gL rfl (pZ (cD (bG (i:=1) FO.nd rfl l%)) (pZ (cD (bG (i:=2) FO.nd rfl l%)) (pZ (cD (bG (i:=3) FO.nd rfl (Or.inr rfl))) E2)))))
 (cS (fo (qz d8 vO f% N.tuple m9 (au (iQ (own:=["good"]) (cap:=["wishes"]) (ix:=[3]) (aA.of (aX (top 32)).names VF) rfl (rJ rfl N.range (au (ft aV kw f% N.len PySem.boot_len (au (ai (pv 1)) aB)) aB)) (iR d%)
 (fun C fp s H=>⟨(cD (bG (i:=0) (show List.Nodup (["good","wishes"]:List Str) by decide+kernel) rfl (Or.inr rfl))),(ss (tR (ft (qM rfl) M1 f% N.any boot_any (au (iQ (own:=["row"]) (cap:=["good"]) (ix:=[0]) (aA.of [(".0",.local),("good",.cell),("any",.globalImplicit),("wishes",.cell)] ["good","wishes"]) rfl (kz (ai (pv 1))) (iR d%)
 (fun C fp s H=>⟨(cD (bG (i:=0) (show List.Nodup (["row","good"]:List Str) by decide+kernel) rfl l%)),iJ,(eU i0 yn (bQ (ai (pv 0)) (ai (pv 1))) bJ (ax _))⟩)) aB)))),(ai (pv 0))⟩)) aB))))),fun O xs Pq h=>LA O xs Pq QX h⟩)
t%Wu:ap VP ["table"] (aX (top 50)):=L2.dj
t%sQ {f:Addr}{fd:FuncData}(F:cE K "columns" "columns" (top 50) f fd)(N:Nm mg):aM P w K mg base cP 1 f fd ["table"] (cj K uH) :=
 m8 F Wu (fun O xs P PX h=>by o%⟨_,_,rfl,_⟩:=h;rfl) (fun bF A outer s H E QX hr=>⟨IX,(cS (fo (iQ (own:=["good"]) (cap:=["table"]) (ix:=[0]) (aA.of (aX (top 50)).names VP) rfl (rJ rfl N.range (au (ft aV kw f% N.len PySem.boot_len (au (bQ (ai (pv 0)) bJ) aB)) aB)) (iR d%)
 (fun C fp s H=>⟨(cD (bG (i:=0) (show List.Nodup (["good","table"]:List Str) by decide+kernel) rfl (Or.inr rfl))),iJ,(iQ (own:=["row"]) (cap:=["good"]) (ix:=[0]) (aA.of [(".0",.local),("good",.cell),("table",.cell)] ["good","table"]) rfl (kz (ai (pv 1))) (iR d%)
 (fun C fp s H=>⟨(cD (bG (i:=0) (show List.Nodup (["row","good"]:List Str) by decide+kernel) rfl l%)),iJ,(bQ (ai (pv 0)) (ai (pv 1)))⟩))⟩)))),fun O xs Pq h=>GL O xs Pq QX h⟩)
t%Wq:ap VL ["numbers","prices"] (aX (top 52)):=L2.dj
t%Eh {f fM fS:Addr}{fd dM dS:FuncData}(F:cE K "money_for" "money_for" (top 52) f fd)(N:Nm mg)(mz:mg "zip"=none)(Ti:mY K mg P w base "times" 3 ["one","other"] (tX nQ) fM dM)(To:cC K mg P w base "total" 4 ["parts"] qE fS dS):aM P w K mg base cP 5 f fd ["numbers","prices"] (cj K o8) :=
 m8 F Wq (fun O xs P PX h=>by o%⟨_,_,rfl,_⟩:=h;rfl) (fun bF A outer s H E QX hr=>⟨Dj,(cS (fo (cA To.ok u6 (hr.mono d%) rfl To.mg To.kp To.bd (au (iQ (own:=["number","price"]) (cap:=[]) (ix:=[]) (aA.of (aX (top 52)).names VL) rfl (wT rfl mz boot_zip (au (ai (pv 0)) (au (ai (pv 1)) aB))) (ic (E9 d% (E9 d% ii)))
 (fun C fp s H=>⟨(gL rfl (pZ (cD (bG (i:=0) (show List.Nodup (["number","price"]:List Str) by decide+kernel) rfl l%)) (pZ (cD (bG (i:=1) (show List.Nodup (["number","price"]:List Str) by decide+kernel) rfl l%)) E2))),iJ,(pz Ti.ok wj (hr.mono d%) rfl Ti.mg Ti.kp Ti.bd (au (nR (au (ai (pv 0)) (au bJ aB))) (au (ai (pv 1)) aB)))⟩)) aB)))),fun O xs Pq h=>DS O xs Pq QX h⟩)
t%Wt:ap VO ["thing","goods"] (aX (top 26)):=L2.dj
t%Hk {f fI:Addr}{fd dI:FuncData}(F:cE K "is_dealt_row" "is_dealt_row" (top 26) f fd)(N:Nm mg)(Z:rM K)(I:cC K mg P w base "is_fraction" 2 ["thing"] (spT aO) fI dI):aM P w K mg base cP 3 f fd ["thing","goods"] (cj K uG) :=
 m8 F Wt (fun O xs P PX h=>by o%⟨_,_,rfl,_⟩:=h;rfl) (fun bF A outer s H E QX hr=>⟨IW,(bS (lL (PW.pt (gX (tZ (tR (Jw Z (ai (pv 0)) rfl N.isinstance rfl N.tuple))) (gc (j0 (gU hr.units) gY (ft aV kw f% N.len PySem.boot_len (au (ai (pv 0)) aB)) (ai (pv 1)) (ax _))))) (cS (fo pX)) lM)
 (cS (fo (ft (iI rfl) mm f% N.all A6 (au (iQ (own:=["part"]) (cap:=[]) (ix:=[]) (aA.of (aX (top 26)).names VO) rfl (kz (ai (pv 0))) (iR d%)
 (fun C fp s H=>⟨(cD (bG (i:=0) (show List.Nodup (["part"]:List Str) by decide+kernel) rfl l%)),iJ,(su (cA I.ok KR (hr.mono d%) rfl I.mg I.kp I.bd (au (ai (pv 0)) aB)) (wU (eU yi CH (bQ (ai (pv 0)) bJ) bJ (ax _))))⟩)) aB))))),fun O xs Pq h=>GK O xs Pq QX h⟩)
t%Wr:ap VM ["market","thing"] (aX (top 25)):=L2.dj
t%Ej {f fI:Addr}{fd dI:FuncData}(F:cE K "is_dealing" "is_dealing" (top 25) f fd)(N:Nm mg)(Z:rM K)(Dr:cC K mg P w base "is_dealt_row" 3 ["thing","goods"] (cj K uG) fI dI):aM P w K mg base cP 4 f fd ["market","thing"] (cj K o9) :=
 m8 F Wr (fun O xs P PX h=>by o%⟨_,_,_,_,rfl,_⟩:=h;rfl) (fun bF A outer s H E QX hr=>⟨Dm,(bS (lL (PW.pt (gX (tZ (tR (Jw Z (ai (pv 1)) rfl N.isinstance rfl N.tuple))) (gc (j0 (gU hr.units) gY (ft aV kw f% N.len PySem.boot_len (au (ai (pv 1)) aB)) (ft aV kw f% N.len PySem.boot_len (au (bQ (ai (pv 0)) bJ) aB)) (ax _))))) (cS (fo pX)) lM)
 (cS (fo (ft (iI rfl) mm f% N.all A6 (au (iQ (own:=["row"]) (cap:=["market"]) (ix:=[0]) (aA.of (aX (top 25)).names VM) rfl (kz (ai (pv 1))) (iR d%)
 (fun C fp s H=>⟨(cD (bG (i:=0) (show List.Nodup (["row","market"]:List Str) by decide+kernel) rfl l%)),iJ,(cA Dr.ok iS (hr.mono d%) rfl Dr.mg Dr.kp Dr.bd (au (ai (pv 0)) (au (ft aV kw f% N.len PySem.boot_len (au (bQ (ai (pv 1)) bJ) aB)) aB)))⟩)) aB))))),fun O xs Pq h=>DU O xs Pq QX h⟩)
t%Px:ap Tc ["market","thing"] (aX (top 34)):=L2.dj
t%Mp {f fI fW:Addr}{fd dI dW:FuncData}(F:cE K "are_prices" "are_prices" (top 34) f fd)(N:Nm mg)(Z:rM K)(I:cC K mg P w base "is_fraction" 2 ["thing"] (spT aO) fI dI)(Wi:cC K mg P w base "wished" 1 ["market"] (cj K wq) fW dW):aM P w K mg base cP 3 f fd ["market","thing"] (cj K BY) :=
 m8 F Px (fun O xs P PX h=>by o%⟨_,_,_,_,rfl,_⟩:=h;rfl) (fun bF A outer s H E QX hr=>⟨PV,(bS (lL (PW.pt (gX (tZ (tR (Jw Z (ai (pv 1)) rfl N.isinstance rfl N.tuple))) (gc (j0 (gU hr.units) gY (ft aV kw f% N.len PySem.boot_len (au (ai (pv 1)) aB)) (ft aV kw f% N.len PySem.boot_len (au (bQ (ai (pv 0)) bJ) aB)) (ax _))))) (cS (fo pX)) lM)
 (bS (lL (tZ (tR (ft (iI rfl) mm f% N.all A6 (au (iQ (own:=["part"]) (cap:=[]) (ix:=[]) (aA.of (aX (top 34)).names Tc) rfl (kz (ai (pv 1))) (iR d%)
 (fun C fp s H=>⟨(cD (bG (i:=0) (show List.Nodup (["part"]:List Str) by decide+kernel) rfl l%)),iJ,(cA I.ok KR (hr.mono d%) rfl I.mg I.kp I.bd (au (ai (pv 0)) aB))⟩)) aB)))) (cS (fo pX)) lM)
 (bS (gn (i:=2) Px.nd rfl (Or.inr rfl) (cA Wi.ok iS (hr.mono d%) rfl Wi.mg Wi.kp Wi.bd (au (ai (pv 0)) aB)))
 (cS (fo (ft (iI rfl) mm f% N.all A6 (au (iQ (own:=["good","price"]) (cap:=["goods"]) (ix:=[2]) (aA.of (aX (top 34)).names Tc) rfl (yP rfl N.enumerate NG (au (ai (pv 1)) aB)) (ic (E9 d% (E9 d% ii)))
 (fun C fp s H=>⟨(gL rfl (pZ (cD (bG (i:=0) (show List.Nodup (["good","price","goods"]:List Str) by decide+kernel) rfl l%)) (pZ (cD (bG (i:=1) (show List.Nodup (["good","price","goods"]:List Str) by decide+kernel) rfl l%)) E2))),iJ,(IN (j0 yl (ym false) (ai (pv 0)) (ai (pv 2)) f%) (eU i0 yn (bQ (ai (pv 1)) bJ) bJ (ax _)) (eU (gr hr.units) gw (bQ (ai (pv 1)) bJ) bJ (ax _)))⟩)) aB))))))),fun O xs Pq h=>LH O xs Pq QX h⟩)
t%Pw:ap VJ ["market","dealing"] (aX (top 41)):=L2.dj
t%Ax {f fG fW:Addr}{fd dG dW:FuncData}(F:cE K "sells_all" "sells_all" (top 41) f fd)(N:Nm mg)(Go:cC K mg P w base "got_in_all" 5 ["dealing","good"] ya fG dG)(Wi:cC K mg P w base "wished" 1 ["market"] (cj K wq) fW dW):aM P w K mg base cP 6 f fd ["market","dealing"] (cj K o7) :=
 m8 F Pw (fun O xs P PX h=>by o%⟨_,_,_,_,_,_,rfl,_⟩:=h;rfl) (fun bF A outer s H E QX hr=>⟨Dg,(bS (gn (i:=2) Pw.nd rfl (Or.inr rfl) (cA Wi.ok iS (hr.mono d%) rfl Wi.mg Wi.kp Wi.bd (au (ai (pv 0)) aB)))
 (cS (fo (ft (iI rfl) mm f% N.all A6 (au (iQ (own:=["good","amount"]) (cap:=["dealing","goods"]) (ix:=[1,2]) (aA.of (aX (top 41)).names VJ) rfl (yP rfl N.enumerate NG (au (bQ (ai (pv 0)) bJ) aB)) (ic (E9 d% (E9 d% ii)))
 (fun C fp s H=>⟨(gL rfl (pZ (cD (bG (i:=0) (show List.Nodup (["good","amount","dealing","goods"]:List Str) by decide+kernel) rfl l%)) (pZ (cD (bG (i:=1) (show List.Nodup (["good","amount","dealing","goods"]:List Str) by decide+kernel) rfl l%)) E2))),iJ,(eU (gr hr.units) gw (cA Go.ok MY (hr.mono d%) rfl Go.mg Go.kp Go.bd (au (ai (pv 2)) (au (ai (pv 0)) aB))) (IN (j0 yl (ym false) (ai (pv 0)) (ai (pv 3)) f%) (nR (au (ai (pv 1)) (au bJ aB))) (nR (au bJ (au bJ aB)))) (ax _))⟩)) aB))))),fun O xs Pq h=>DP O xs Pq QX h⟩)
t%Wn:ap VH ["market","prices","dealing"] (aX (top 43)):=L2.dj
t%xp {f fM fS:Addr}{fd dM dS:FuncData}(F:cE K "spends_all" "spends_all" (top 43) f fd)(N:Nm mg)(mz:mg "zip"=none)(Ti:mY K mg P w base "times" 3 ["one","other"] (tX nQ) fM dM)(To:cC K mg P w base "total" 4 ["parts"] qE fS dS):aM P w K mg base cP 5 f fd ["market","prices","dealing"] (cj K kW) :=
 m8 F Wn (fun O xs P PX h=>by o%⟨_,_,_,_,_,_,_,rfl,_⟩:=h;rfl) (fun bF A outer s H E QX hr=>⟨yQ,(cS (fo (ft (iI rfl) mm f% N.all A6 (au (iQ (own:=["row","purse"]) (cap:=["prices"]) (ix:=[1]) (aA.of (aX (top 43)).names VH) rfl (wT rfl mz boot_zip (au (ai (pv 2)) (au (bQ (ai (pv 0)) bJ) aB))) (ic (E9 d% (E9 d% ii)))
 (fun C fp s H=>⟨(gL rfl (pZ (cD (bG (i:=0) (show List.Nodup (["row","purse","prices"]:List Str) by decide+kernel) rfl l%)) (pZ (cD (bG (i:=1) (show List.Nodup (["row","purse","prices"]:List Str) by decide+kernel) rfl l%)) E2))),iJ,(eU (gr hr.units) gw (cA To.ok u6 (hr.mono d%) rfl To.mg To.kp To.bd (au (iQ (own:=["part","price"]) (cap:=[]) (ix:=[]) (aA.of [(".0",.local),("row",.local),("purse",.local),("total",.globalImplicit),("zip",.globalImplicit),("prices",.cell)] ["row","purse","prices"]) rfl (wT rfl mz boot_zip (au (ai (pv 0)) (au (ai (pv 2)) aB))) (ic (E9 d% (E9 d% ii)))
 (fun C fp s H=>⟨(gL rfl (pZ (cD (bG (i:=0) (show List.Nodup (["part","price"]:List Str) by decide+kernel) rfl l%)) (pZ (cD (bG (i:=1) (show List.Nodup (["part","price"]:List Str) by decide+kernel) rfl l%)) E2))),iJ,(pz Ti.ok wj (hr.mono d%) rfl Ti.mg Ti.kp Ti.bd (au (ai (pv 0)) (au (ai (pv 1)) aB)))⟩)) aB)) (ai (pv 1)) (ax _))⟩)) aB)))),fun O xs Pq h=>Ao O xs Pq QX h⟩)
end
end jQ
namespace MI
open PySem L2 KG EX KM
n%Dh (QX:Addr->aN->Prop)(C:Addr)(Ms:MA):MS:=fun D sl O=>Ms sl O fun xs O1=>xs.length<=sizeLine/\QX C O1
t%Ep {P:Program}{w:World}{K:PySem.W.Frag}{mg:Str->Option Value}{base:Heap}{N:List Str}{qual:Str}{scope:Scope}{f:Addr}{cd:Value}{A:Around}{outer:List Env}{aT:Shared}{aE:Hp}{E:XK}{QX:Addr->aN->Prop}{K':PySem.W.Frag}
  {x:Str}{C:Addr}{e:Expr}{es:List Expr}{Ms:MA}{np bW pos:Pos}{OY:List Value}{B ux wW:String}(FB:ExcBaseFacts B ux wW OY) (hg:Gl (gR (kD P w) P w K mg base N qual scope f cd A outer aT aE E) x) (hm:mg x=some (.ref C)) (hx:PySem.W.excIn K C OY ux=true)
  (ha:PA (gR (kD P w) P w K mg base N qual scope f cd A outer aT aE E) (e::es) (pV K' QX E Ms)) (hd:y%((x == ("__debug__" : Str))=false))
  (he:x%(starEach (e::es) (PyProof.Rows.envOfC qual scope aT.heap.objs.size f cd)=(false,eval e (PyProof.Rows.envOfC qual scope aT.heap.objs.size f cd))::starEach es (PyProof.Rows.envOfC qual scope aT.heap.objs.size f cd)))
  (gk:x%((backTo bW (starEach es (PyProof.Rows.envOfC qual scope aT.heap.objs.size f cd))).any (·.1)=false)) :
  PS (gR (kD P w) P w K mg base N qual scope f cd A outer aT aE E) (.Raise (some (.Call (.Name x np) (e::es) [] bW)) none pos) (kA K' QX E (Dh QX C Ms)) :=
 PS.imp (uU FB hg hm hx ha hd he gk) fun D σ H ⟨w,O,sl,D0,c,m,hn,hb,hc,hr⟩=>⟨w,O,sl,_,c,m,fun xs O1 vs w1 H1 h1 e1 r1 a1=>⟨by rw[a1.1];e%h1.1,c.3 C O1 w1 H1 h1.2 e1.ex r1⟩⟩
n%ke (Pr:Addr):FM:=fun O xs P PX=>∃(A:List Int) (Pu:List Rat) (W:List (List Int)) (d:PyData),xs=[.im (io A Pu W),.im d]/\A.length<=6/\W.length<=6/\(∀i,i<W.length->(W.getD i []).length=A.length)/\(∀j,j<A.length->has W j=true)/\(∃N,N<=1000000/\ln N d=true)/\(eM A.length d=true->P (.im .none) O)/\(eM A.length d=false->PX Pr O)
m%NNe:List Str:=["market","thing"]
n%Di (QX:Addr->aN->Prop)(Pr:Addr):MS:=(dX (iO (bH (ay BY cm (ae (ag 0) (ae (ag 1) ah))))) (Dh QX Pr (ae (mC (.str "these are no prices of the market")) ah)) cf)
t%GF (Pr:Addr):∀O xs Pq QX,ke Pr O xs Pq QX->Di QX Pr { nx:=fun _ O'=>Pq (.im .none) O',rt:=Pq } (bf NNe xs) O:=by
 intro O xs Pq QX h;o%⟨A,Pu,W,d,rfl,g6,n6,hr,hw,hn,h1,h2⟩:=h;r%⟨A,Pu,W,d,rfl,g6,n6,hr,hw,hn,?_⟩;cases hp:eM A.length d with
 |true=>e%⟨fun z=>(by cases z),fun _=>h1 hp⟩
 |false=>e%⟨fun _=>⟨BO,h2 hp⟩,fun z=>(by cases z)⟩
n%oK (Pr:Addr):FM:=fun O xs P PX=>∃(n g:Nat) (B W:List (List Int)) (p:PyData),xs=[.im (iP B W),.im p]/\BW n g B W/\(∀j,j<g->has W j=true)/\bv p=true/\(∃N,N<=1000000/\ln N p=true)/\(eM g p=false->PX Pr O)/\∀qs:List Rat,p=.tuple (qs.map qD)->qs.length=g->(∀q∈qs,0<q)->P (.im (io ((List.range g).map (cu B)) (B.map fun r=>iV qs r g) W)) O
m%Tf:List Str:=["barter","prices","brought","wishes","amounts"]
n%IT (QX:Addr->aN->Prop)(Pr:Addr):MS:=(aC (aY (ag 0) (vV 2 (bD (aW 2) (bD (aW 3) gv))))
 (aC (aY (cL iN (ae (bo 1 [] (bV (ay uH cm (ae (ag 2) ah))) (aW 0) cb (cL wd (ae (ag 0) ah))) ah)) (aW 4))
 (aC (i8 (ay (ke Pr) QX (ae (fw (ae (ag 4) (ae (fw ah) (ae (ag 3) ah)))) (ae (ag 1) ah))))
 (bT (fw (ae (ag 4) (ae (cL iN (ae (bo 1 [1] (bV (ag 2)) (aW 0) cb (ay o8 cm (ae (ag 0) (ae (ag 1) ah)))) ah)) (ae (ag 3) ah))))))))
t%GH (Pr:Addr):∀O xs Pq QX,oK Pr O xs Pq QX->IT QX Pr { nx:=fun _ O'=>Pq (.im .none) O',rt:=Pq } (bf Tf xs) O:=by
 intro O xs Pq QX h;o%⟨n,g,B,W,p,rfl,bw,hh,sp,lp,h1,h2⟩:=h;have n1:=bw.n1;have n6:=bw.n6;have g6:=bw.g6;r%⟨rfl,⟨B,g,rfl,by rw[bw.bl];omega,by rw[bw.bl];omega,g6,fun i hi=>bw.br i (by rw[<- bw.bl];e%hi),?_⟩⟩;r%lK (fun j=>.int (cu B j)) (by simp;omega) (fun j x Z hx hZ=>?_) ?_
 .have hj:j<g:=by have:=(Zd.mp hx).1;simpa using this
  rw[Zg,Zg,Yq hj] at hx;cases Option.some.inj hx;e%⟨B.map fun r:List Int=>r.getD j 0,rfl,hZ⟩
 have hl:((((List.range g).map fun j=>PyData.list ((B.map fun r=>r.getD j 0).map .int))).map AV.im).length=g:=by simp
 rw[hl];have Vc:((List.range g).map (cu B)).length=g:=by simp
 have hAd:((List.range g).map fun j=>PyData.int (cu B j))=((List.range g).map (cu B)).map .int:=by rw[Zi];rfl
 rw[hAd];r%⟨by decide,BN,(List.range g).map (cu B),[],W,p,rfl,by omega,by rw[bw.wl];omega,fun i hi=>by rw[bw.wr i (by rw[<- bw.wl];e%hi),Vc],fun j hj=>hh j g%,lp,fun hp=>?_,fun hp=>h1 (by rw[Vc] at hp;e%hp)⟩;rw[Vc] at hp;o%⟨qs,rfl,hq,xV⟩:=tF hp;have nc:=lg sp;r%⟨?_⟩;conv=>whnf
 r%lK (fun i=>qD (iV qs (B.getD i []) g)) (by simp;rw[bw.bl];omega) (fun i x Z hx hZ=>?_) ?_
 .obtain⟨hi,rfl⟩:=jC hx;rw[bw.bl] at hi;have A9:=bw.br i hi;r%⟨B.getD i [],qs,rfl,by omega,by omega,fun j hj=>⟨(bw.b0 i j hi g%).1,by have:=(bw.b0 i j hi g%).2;unfold eI at this;omega⟩,fun z hz=>(nc z hz).mono d%,?_⟩;rw[hq];e%hZ
 .refine⟨BN,?_⟩;rw[Zb,Zb,nS (fun r:List Int=>qD (iV qs r g)) B []];have:=h2 qs rfl hq xV;unfold io at this;rw[Zi (g:=qD)] at this;e%this
end MI
namespace jQ
open PySem L2 KG EX KM MI
section
variable {P:Program}{w:World}{K:PySem.W.Frag}{mg:Str->Option Value}{base:Heap}
t%Wp:ap NNe ["market","thing"] (aX (top 35)):=L2.dj
t%Eg {f fA Pr:Addr}{fd dA:FuncData}(F:cE K "need_prices" "need_prices" (top 35) f fd)(Ua:mg "NoPrices"=some (.ref Pr))(exP:PySem.W.excIn K Pr [.type "ValueError",.type "Exception",.type "BaseException",.type "object"] "ValueError.__new__"=true)(Ap:cC K mg P w base "are_prices" 3 ["market","thing"] (cj K BY) fA dA):aM P w K mg base (kD P w) 4 f fd ["market","thing"] (cj K (ke Pr)) :=
 PJ F Wp (fun O xs P PX h=>by o%⟨_,_,_,_,rfl,_⟩:=h;rfl) (fun bF A outer s H E QX hr=>⟨Di QX Pr,(cS (lL (tZ (tR (cA Ap.ok iS (hr.mono d%) rfl Ap.mg Ap.kp Ap.bd (au (ai (pv 0)) (au (ai (pv 1)) aB))))) (cS (Ep PySem.F.excBase_ValueError rfl Ua exP (au oW aB))) lM)),fun O xs Pq h=>GF Pr O xs Pq QX h⟩)
t%FQ:ap Tf ["barter","prices"] (aX (top 51)):=L2.dj
t%He {f fC fN fM Pr:Addr}{fd dC dN dM:FuncData}(F:cE K "market_at" "market_at" (top 51) f fd)(N:Nm mg)(Co:cC K mg P w base "columns" 1 ["table"] (cj K uH) fC dC)(Ne:mY K mg P w base "need_prices" 4 ["market","thing"] (cj K (ke Pr)) fN dN)(My:cC K mg P w base "money_for" 5 ["numbers","prices"] (cj K o8) fM dM):aM P w K mg base (kD P w) 6 f fd ["barter","prices"] (cj K (oK Pr)) :=
 PJ F FQ (fun O xs P PX h=>by o%⟨_,_,_,_,_,rfl,_⟩:=h;rfl) (fun bF A outer s H E QX hr=>⟨IT QX Pr,(bS (zw (ai (pv 0)) (gL rfl (pZ (cD (bG (i:=2) FQ.nd rfl l%)) (pZ (cD (bG (i:=3) FQ.nd rfl l%)) E2))))
 (bS (gn (i:=4) FQ.nd rfl l% (qz d8 vO f% N.tuple m9 (au (iQ (own:=["column"]) (cap:=[]) (ix:=[]) (aA.of (aX (top 51)).names Tf) rfl (kz (cA Co.ok iS (hr.mono d%) rfl Co.mg Co.kp Co.bd (au (ai (pv 2)) aB))) (iR d%)
 (fun C fp s H=>⟨(cD (bG (i:=0) (show List.Nodup (["column"]:List Str) by decide+kernel) rfl l%)),iJ,(ft (uI rfl) oY f% N.sum boot_sum (au (ai (pv 0)) aB))⟩)) aB)))
 (bS (E5 (Hu Ne.ok iS (hr.mono d%) rfl Ne.mg Ne.kp Ne.bd yh (au (nR (au (ai (pv 4)) (au (nR aB) (au (ai (pv 3)) aB)))) (au (ai (pv 1)) aB))))
 (cS (fo (nR (au (ai (pv 4)) (au (qz d8 vO f% N.tuple m9 (au (iQ (own:=["row"]) (cap:=["prices"]) (ix:=[1]) (aA.of (aX (top 51)).names Tf) rfl (kz (ai (pv 2))) (iR d%)
 (fun C fp s H=>⟨(cD (bG (i:=0) (show List.Nodup (["row","prices"]:List Str) by decide+kernel) rfl l%)),iJ,(cA My.ok iS (hr.mono d%) rfl My.mg My.kp My.bd (au (ai (pv 0)) (au (ai (pv 1)) aB)))⟩)) aB)) (au (ai (pv 3)) aB))))))))),fun O xs Pq h=>GH Pr O xs Pq QX h⟩)
end
end jQ
namespace MI
open PySem L2 KG EX KM
n%Kr (gs:List Nat):PyData:=.tuple (gs.map fun g:Nat=>.int (g:Int))
n%Z6:FM:=fun O xs P _=>∃(ns:List Int) (qs:List Rat),xs=[.im (bU ns),.im (.tuple (qs.map qD))]/\ns.length=qs.length/\ns.length<=6/\(∀k∈ns,0<=k/\k<=100)/\(∀z∈qs,Rb 300 z)/\(∀j,0<ns.getD j 0->0<qs.getD j 0)/\P (.im (Kr (jc ns qs))) O
t%uN {g:Hp}:∀gs:List Nat,aP g (oB gs) (gs.map fun g:Nat=>.int (g:Int))
 |[]=>.nil
 |a::gs=>.cons (.int _) (uN gs)
t%Rn {K:PySem.W.Frag}:tW K FN Z6:=fun w O H vs xs P PX Q E r a hf q x=>by
 o%⟨ns,qs,rfl,h1,h2,h3,h4,h5,hf⟩:=hf;o%⟨v,v2,rfl,a1,a2⟩:=Ca a;o%⟨p1,Tq,rfl,g1,t1⟩:=d7 a1;o%⟨p2,Xp,rfl,g2,t2⟩:=d7 a2;rw[ka t1] at g1;r%⟨p1,p2,ns,Xp,qs,rfl,g1,g2,(yt t2).az mX,h1,h2,h3,h4,h5,fun t H' s ht=>?_⟩;o%⟨r1,e1,tt⟩:=jM r s ht (uN _);e%q _ _ O w H' hf e1 r1 tt
n%B8:FM:=fun O xs P _=>∃(A:List Int) (Pu:List Rat) (W:List (List Int)) (qs:List Rat) (g:Nat),xs=[.im (io A Pu W),.im (.tuple (qs.map qD))]/\(A.length=g/\qs.length=g/\g<=6/\W.length<=6)/\(∀i,i<W.length->(W.getD i []).length=g)/\(∀i j,i<W.length->j<g->0<=eI W i j/\eI W i j<=100)/\(∀j,j<g->has W j=true)/\(∀z∈qs,0<z/\Rb 280 z)/\P (.im (.tuple ((bA W qs).map bU))) O
m%VQ:List Str:=["market","prices"]
n%P2 (Pr:Addr):MS:=(aC (i8 (ay (ke Pr) cm (ae (ag 0) (ae (ag 1) ah))))
 (bT (cL iN (ae (bo 1 [1] (bV (aG bL (ag 0) (mC (.int 2)))) (aW 0) cb (ay Z6 cm (ae (ag 0) (ae (ag 1) ah)))) ah))))
t%nA {qs:List Rat}(h:∀z∈qs,0<z):eM qs.length (.tuple (qs.map qD))=true:=by
 show(decide ((qs.map qD).length=qs.length)&&(qs.map qD).all cJ)=true;rw[Zb,decide_eq_true rfl,Bool.true_and,Zu];intro d hd;o%⟨z,hz,rfl⟩:=Zh.mp hd;have h1:=Ex z;show(aO (qD z)&&decide (0<z.num))=true;rw[h1,decide_eq_true (kP.mp (h z hz))];rfl
t%IZ {qs:List Rat}(h:qs.length<=6):∃N,N<=1000000/\ln N (.tuple (qs.map qD))=true:=⟨6,by decide,kG.mpr ⟨by rw[Zb];e%h,fun d hd=>by
 o%⟨z,_,rfl⟩:=Zh.mp hd;e%KQ d% z⟩⟩
t%LN (Pr:Addr):∀O xs Pq QX,B8 O xs Pq QX->P2 Pr { nx:=fun _ O'=>Pq (.im .none) O',rt:=Pq } (bf VQ xs) O:=by
 intro O xs Pq QX h;o%⟨A,Pu,W,qs,g,rfl,⟨hA,hq,g6,n6⟩,hr,hw,hh,hz,h⟩:=h;r%⟨A,Pu,W,_,rfl,by omega,n6,fun i hi=>by rw[hr i hi,hA],fun j hj=>hh j g%,IZ g%,fun _=>⟨_,rfl,?_⟩,fun z=>?_⟩
 .conv=>whnf
  r%lK (fun i=>bU ((bA W qs).getD i [])) (by simp;omega) (fun i x Z hx hZ=>?_) ?_
  .obtain⟨hi,rfl⟩:=jC hx;have A9:=hr i hi;r%⟨W.getD i [],qs,rfl,by omega,by omega,fun k hk=>?_,fun z A8=>(hz z A8).2.mono d%,fun j hj=>?_,?_⟩
   .obtain⟨j,hj,rfl⟩:=List.getElem_of_mem hk;have:=hw i j hi g%;unfold eI at this;rw[gj (Zc hj)] at this;e%this
   .have UN:j<g:=by
     rcases Zz j g with y |y
     .exact y
     .rw[List.getD,Yo g%] at hj;e%absurd hj d%
    e%(hz _ (by rw[gj (Zc (show j<qs.length by omega))];e%Zv _)).1
   .have e:(bA W qs).getD i []=(jc (W.getD i []) qs).map fun g:Nat=>(g:Int):=by
     unfold bA;e%vZ hi
    have e2:bU ((bA W qs).getD i [])=Kr (jc (W.getD i []) qs):=by
     rw[e];unfold bU Kr;rw[Zi];rfl
    rw[<- e2];e%hZ
  .have el:((W.map bU).map AV.im).length=(bA W qs).length:=by unfold bA;simp
   rw[el,nS bU (bA W qs) []];e%h
 .have:=nA (qs:=qs) fun z A8=>(hz z A8).1
  rw[hq,<- hA] at this;rw[this] at z;cases z
n%Dx:FM:=fun O xs P _=>∃(B:List (List Int)) (D:List (List Rat)) (n g:Nat),xs=[.im (.tuple (B.map bU)),.im (bC D)]/\g<=6/\B.length=n/\zW n g D/\P (.im (.bool (ji B D g))) O
t%uL {w:Wd}{O:aN}{H:Hp}:∀{B:List (List Int)}{xs:List V},aP (G w O H) xs (B.map bU)->rK H xs B
 |[],_,h=>by cases h;e%.nil
 |r::B,_,h=>by
  cases h with |cons h1 h2=>?_
  o%⟨a,ys,rfl,g1,t1⟩:=d7 h1;rw[ka t1] at g1;e%.cons ⟨a,rfl,g1⟩ (uL h2)
t%Es {K:PySem.W.Frag}:tW K nv Dx:=fun w O H vs xs P PX Q E r a hf q x=>by
 o%⟨B,D,n,g,rfl,h1,h2,dk,hf⟩:=hf;o%⟨v,v2,rfl,a1,a2⟩:=Ca a;o%⟨p1,Tq,rfl,g1,t1⟩:=d7 a1;o%⟨p2,zs,rfl,hd⟩:=Qs a2 dk.dr (fun r hr z hz=>(dk.db r hr z hz).mono d%) (by rw[dk.dl];e%dk.n6);r%⟨p1,p2,Tq,zs,B,D,g,rfl,g1,uL t1,hd,h1,by rw[h2,dk.dl],fun H' s=>?_⟩;o%⟨r1,e1,_⟩:=r.az s;e%q _ _ O w H' hf e1 r1 (.bl _)
n%BV:FM:=fun O xs P _=>∃(A:List Int) (Pu:List Rat) (W:List (List Int)) (qs:List Rat) (d:PyData) (n g:Nat),xs=[.im (io A Pu W),.im (.tuple (qs.map qD)),.im d]/\(A.length=g/\qs.length=g/\g<=6/\W.length=n/\Pu.length=n/\n<=6)/\(∀i,i<n->(W.getD i []).length=g)/\(∀i j,i<n->j<g->0<=eI W i j/\eI W i j<=100)/\(∀j,j<g->has W j=true)/\(∀z∈qs,0<z/\Rb 280 z)/\bv d=true/\(∃N,N<=1000000/\ln N d=true)/\(lV n g d=false->P (.im (.bool false)) O)/\∀D:List (List Rat),d=bC D->D.length=n->(∀r∈D,r.length=g/\∀z∈r,0<=z)->P (.im (.bool (dq A Pu qs W D g))) O
m%Pd:List Str:=["market","prices","dealing","best"]
n%PQ:MS:=(aC (aY (ay B8 cm (ae (ag 0) (ae (ag 1) ah))) (aW 3))
 (aC (dX (iO (bH (ay o9 cm (ae (ag 0) (ae (ag 2) ah))))) (bT (mC (.bool false))) cf)
 (bT (uy (ay o7 cm (ae (ag 0) (ae (ag 2) ah))) (uy (ay Dx cm (ae (ag 3) (ae (ag 2) ah))) (ay kW cm (ae (ag 0) (ae (ag 1) (ae (ag 2) ah)))))))))
t%LD:∀O xs Pq QX,BV O xs Pq QX->PQ { nx:=fun _ O'=>Pq (.im .none) O',rt:=Pq } (bf Pd xs) O:=by
 intro O xs Pq QX h;o%⟨A,Pu,W,qs,d,n,g,rfl,⟨hA,hq,g6,hW,hP,n6⟩,hr,hw,hh,hz,sd,ld,h1,h2⟩:=h;r%⟨A,Pu,W,qs,g,rfl,⟨hA,hq,g6,by omega⟩,fun i hi=>hr i g%,fun i j hi hj=>hw i j g% hj,hh,hz,⟨A,Pu,W,d,rfl,ld,?_⟩⟩;rw[hA,hP];by_cases hd:lV n g d=true
 .obtain⟨D,rfl,OR,zF⟩:=wV hd;have Bs:=sJ sd;have dk:zW n g D:=⟨n6,OR,fun r hr=>(zF r hr).1,fun r hr z hz=>(Bs r hr z hz).mono d%⟩;have hs:=h2 D rfl OR zF;rw[hd];r%⟨fun z=>(by cases z),fun _=>⟨A,Pu,W,D,n,g,rfl,hA,g6,by omega,fun i hi=>hr i g%,dk,?_⟩⟩;unfold dq at hs;cases c1:oS A W D g with
  |false =>
   rw[c1] at hs;e%⟨fun z=>(by cases z),fun _=>hs⟩
  |true =>
   rw[c1,Bool.true_and] at hs;r%⟨fun _=>⟨bA W qs,D,n,g,rfl,g6,by unfold bA;rw[Zb];e%hW,dk,?_⟩,fun z=>(by cases z)⟩;cases c2:ji (bA W qs) D g with
   |false =>
    rw[c2] at hs;e%⟨fun z=>(by cases z),fun _=>hs⟩
   |true =>
    rw[c2,Bool.true_and] at hs;e%⟨fun _=>⟨A,Pu,W,qs,D,n,g,rfl,hq,g6,hP,dk,fun z A8=>(hz z A8).2,hs⟩,fun z=>(by cases z)⟩
 .have hd:=Ym.mpr hd;rw[hd];e%⟨fun _=>h1 hd,fun z=>(by cases z)⟩
end MI
namespace jQ
open PySem L2 KG EX KM MI
section
variable {P:Program}{w:World}{K:PySem.W.Frag}{mg:Str->Option Value}{base:Heap}
t%Ww:ap VQ ["market","prices"] (aX (top 36)):=L2.dj
t%MB {f fN fB Pr:Addr}{fd dN dB:FuncData}(F:cE K "best_goods" "best_goods" (top 36) f fd)(N:Nm mg)(Ne:mY K mg P w base "need_prices" 4 ["market","thing"] (cj K (ke Pr)) fN dN)(BB:cC K mg P w base "best_by_wishes" 5 ["row","prices"] FN fB dB):aM P w K mg base cP 6 f fd ["market","prices"] (cj K B8) :=
 m8 F Ww (fun O xs P PX h=>by o%⟨_,_,_,_,_,rfl,_⟩:=h;rfl) (fun bF A outer s H E QX hr=>⟨P2 Pr,(bS (E5 (pz Ne.ok iS (hr.mono d%) rfl Ne.mg Ne.kp Ne.bd (au (ai (pv 0)) (au (ai (pv 1)) aB))))
 (cS (fo (qz d8 vO f% N.tuple m9 (au (iQ (own:=["row"]) (cap:=["prices"]) (ix:=[1]) (aA.of (aX (top 36)).names VQ) rfl (kz (bQ (ai (pv 0)) bJ)) (iR d%)
 (fun C fp s H=>⟨(cD (bG (i:=0) (show List.Nodup (["row","prices"]:List Str) by decide+kernel) rfl l%)),iJ,(cA BB.ok Rn (hr.mono d%) rfl BB.mg BB.kp BB.bd (au (ai (pv 0)) (au (ai (pv 1)) aB)))⟩)) aB))))),fun O xs Pq h=>LN Pr O xs Pq QX h⟩)
t%qg:ap Pd ["market","prices","dealing"] (aX (top 40)):=L2.dj
t%Ml {f fB fI fS fG fP:Addr}{fd dB dI dS dG dP:FuncData}(F:cE K "shows" "shows" (top 40) f fd)(N:Nm mg)(Bg:cC K mg P w base "best_goods" 6 ["market","prices"] (cj K B8) fB dB)(Id:cC K mg P w base "is_dealing" 4 ["market","thing"] (cj K o9) fI dI)(Sa:cC K mg P w base "sells_all" 6 ["market","dealing"] (cj K o7) fS dS)(Gb:cC K mg P w base "gives_best" 1 ["best","dealing"] nv fG dG)(Sp:cC K mg P w base "spends_all" 5 ["market","prices","dealing"] (cj K kW) fP dP):aM P w K mg base cP 7 f fd ["market","prices","dealing"] (cj K BV) :=
 m8 F qg (fun O xs P PX h=>by o%⟨_,_,_,_,_,_,_,rfl,_⟩:=h;rfl) (fun bF A outer s H E QX hr=>⟨PQ,(bS (gn (i:=3) qg.nd rfl l% (cA Bg.ok iS (hr.mono d%) rfl Bg.mg Bg.kp Bg.bd (au (ai (pv 0)) (au (ai (pv 1)) aB))))
 (bS (lL (tZ (tR (cA Id.ok iS (hr.mono d%) rfl Id.mg Id.kp Id.bd (au (ai (pv 0)) (au (ai (pv 2)) aB))))) (cS (fo pX)) lM)
 (cS (fo (su (cA Sa.ok iS (hr.mono d%) rfl Sa.mg Sa.kp Sa.bd (au (ai (pv 0)) (au (ai (pv 2)) aB))) (su (cA Gb.ok Es (hr.mono d%) rfl Gb.mg Gb.kp Gb.bd (au (ai (pv 3)) (au (ai (pv 2)) aB))) (wU (cA Sp.ok iS (hr.mono d%) rfl Sp.mg Sp.kp Sp.bd (au (ai (pv 0)) (au (ai (pv 1)) (au (ai (pv 2)) aB))))))))))),fun O xs Pq h=>LD O xs Pq QX h⟩)
end
end jQ
namespace L2
open PySem PySem.Spec PyProof.Rows EX
n%QF (K:PySem.W.Frag)(sp:Sp)(M:Addr)(i:Nat)(b:Bool)(ta:TA):TS:=fun D σ H=>ta σ H fun vs H1=>sp vs H1 (fun v H2=>D.nx (σ.set i (some v)) H2)
 (fun c _ H2=>∃Dc,c=.ref Dc/\PySem.W.mroIn K Dc (.ref M)=some true/\D.rt (.bl b) H2)
t%GS {X:Cx}{k:Nat}{f M:Addr}{fd:FuncData}{ps:List Str}{sp:Sp}{x fn Cl:Str}{i:Nat}{b:Bool}{e:Expr}{es:List Expr}{ta:TA}{px fp bW fE np ee cp rp pos:Pos}{kc:Nat}
  (F:aM X.prog X.w X.K X.mg X.base (kD X.prog X.w) k f fd ps sp) (hr:cR k X.A) (JH:Gl X fn) (JE:X.mg fn=some (.ref f)) (JG:PySem.W.keepIn X.K (.ref f)=true) (JN:Binds X.K fd ps [])
  (JI:Gl X Cl) (JF:X.mg Cl=some (.ref M)) (Fm:PySem.W.typeIn X.K (.ref M)=some (.type "type")) (bM:PySem.W.mroIn X.K M (.type "BaseException")=some true)
  (lO:X.stack=X.env::X.outer) (ng:X.env.frame=some X.env.locals) (hN:X.N.Nodup) (hi:X.N[i]?=some x)
  (kx:X.env.scope.names.lookup x=some .local)
  (ha:∀E,PA (X.wish E) (e::es) ta)
  (JB:x%(swapsWith (.Call (.Name fn fp) (e::es) [] bW) (some (.Name x px)) fE.line X.env=pure false))
  (d1:y%((fn == ("__debug__" : Str))=false)) (d3:y%((Cl == ("__debug__" : Str))=false))
  (he:x%(starEach (e::es) X.env=(false,eval e X.env)::starEach es X.env)) (gk:x%((backTo bW (starEach es X.env)).any (·.1)=false)) :
  PS X (.Try [.Assign [.Name x px] (.Call (.Name fn fp) (e::es) [] bW) fE] [.ExceptHandler (some (.Name Cl np)) none [.Return (some (.Constant (.bool b) kc cp)) rp] ee] [] [] pos) (QF X.K sp M i b ta):=by
 intro aa s σ H D I h;r%wpAny_Try_except (wpAny_execs_cons ?_);r%wpAny_Assign_Name ?_ JB;r%wpAny_Call_Name_kw (fi I JH JE ?_ d1);generalize U8:(fun(e:Value) (bh:Shared)=>wpAny (model X.prog X.w) X.A (noteFrame e X.env) (fun _ eZ=>wpAny (model X.prog X.w) X.A (setFlight e none) (fun _ cU=>wpAny (model X.prog X.w) X.A (handleBy e X.env [.ExceptHandler (some (.Name Cl np)) none [.Return (some (.Constant (.bool b) kc cp)) rp] ee]) (SP X aa D) X.xe cU) X.xe eZ) X.xe bh)=EE;r%PySem.W.callWith_K (h₀:=X.base) I.ok.mod.HY JG (bi (ha EE bW aa s σ H _ (I.wish EE) h) fun us s1 ⟨vs,H1,VV,r,q⟩=>?_) he gk;have I1:Inv X aa σ H1 s1:=VV.gE;r%⟨I1.my,?_⟩;have bN:us.length=ps.length:=by rw[<- r.length];e%F.len _ _ _ _ q
 have xY:=JN s1 us I1.my (by rw[Yg];e%bN);rw[Yg] at xY;r%wpAny_call (codeAny_mono (F.run X.A X.stack s1 H1 ⟨us,[]⟩ us vs _ _ hr I1.Gj xY r q) fun res s' hq=>?_);cases res with
 |ok fl =>
  cases fl with
  |ret u =>
   o%⟨v,H2,I2,rv,q2⟩:=I1.after hq;r%Fu I2 hN hi (.inl kx) rv (fun s3 I3=>?_) (.inr kx);e%wpAny_execs_nil (wpAny_execs_nil ⟨_,H2,I3,q2⟩)
  |next=>e%False.elim hq
  |brk=>e%False.elim hq
  |cont=>e%False.elim hq
 |error ev =>
  o%⟨a,C,t,B,H2,rfl,os,bare,un,bp,gS,uf,na,A4,Dc,eC,BR,hk⟩:=hq;cases eC;rw[<- U8];have ff:=uf.ff;rw[lO] at uf;r%pG (L:=X.env.locals) uf (by rw[<- lO];e%I.ok.frames) ng fun h3 K6 Tv=>?_
  r%jw (s:={ s' with heap:=h3 }) K6 fun h4 wv Tu=>?_
  have BE:=Tv.trans Tu;have ht:∀b o,s1.heap.get? b=some o->b≠a:=fun b o q z=>by rw[z,na] at q;cases q
  have aL:a≠X.env.locals:=by
   o%⟨m,⟨oL,_,_,Ou,_⟩,_⟩:=I1.loc;e%(ht _ _ Ou).symm
  have aF:a∉X.fs:=fun z=>by
   o%⟨_,o,ho,_⟩:=I1.iW.mem z;e%ht _ _ ho rfl
  have inv:∀(h':Heap) (tk:Nat),rN B (X.env::X.outer) a C t h'->s'.heap.UpToSlots h'->Inv X aa σ H2 { s' with heap:=h' }:=fun h' tk r8 Tw =>
   I1.qL (s':={ s' with heap:=h' }) (ch:=[]) os (Ir un gS ff (by rw[lO];e%r8) Tw) (bp.kept r8.st) bare (fun b z=>absurd z i%)
  o%⟨hd4,OI,_⟩:=wv.ob;have J4:=(inv h4 0 wv BE).x9 OI A4 aL aF;r%wpAny_handleBy_cons (codeAny_handlers_test (fi J4 JI JF ?_ d3)) (by intro z;cases z);r%rc (K:=X.K) J4.my OI Fm bM BR ?_;r%codeAny_handlers_suite ?_;r%jw (s:={ s' with heap:=h4 }) wv fun h5 Cb Tt=>?_
  o%⟨JL,UZ,_⟩:=Cb.ob;have J5:=(inv h5 0 Cb (BE.trans Tt)).x9 UZ A4 aL aF;have body:iM (JX X a C t JL) [.Return (some (.Constant (.bool b) kc cp)) rp] _:=de (eY iG);have run:=body aa _ σ H2 { nx:=fun _ _=>False,rt:=D.rt } J5 hk;r%wpAny_mono run (fun fl s7 Fz=>?_) fun _ _ z=>False.elim z
  cases fl with
  |ret u =>
   o%⟨v,vL,H7,J7,rv,q7⟩:=Fz;e%⟨v,vL,H7,Inv.yz I.ok J7,rv,q7⟩
  |brk=>o%⟨_,_,_,z⟩:=Fz;e%False.elim z
  |cont=>o%⟨_,_,_,z⟩:=Fz;e%False.elim z
  |next=>o%⟨_,_,_,z⟩:=Fz;e%False.elim z
end L2
namespace MI
open PySem L2 KG EX KM
t%r9 {K:PySem.W.Frag}{w w':Wd}{O O':aN}{H H':Hp}(e:mB w O H w' O' H')(r:aJ K w' O' H'):aJ K { w' with cn:=w.cn } O' H'/\ck w O H { w' with cn:=w.cn } O' H':=by
 o%⟨t,ht⟩:=e.hs;have sub:∀p∈w.cn,p∈w'.cn:=fun p hp=>by rw[ht];e%Zq _ hp
 have st:ak (G w' O' H') (G { w' with cn:=w.cn } O' H'):=fun a o h=>by
  o%⟨h1,h2⟩:=gD h;rw[iY]
  .exact h1
  .rintro(z |⟨o',z⟩ |z)
   .exact h2 (.inl z)
   .exact h2 (.inr (.inl ⟨o',sub _ z⟩))
   .exact h2 (.inr (.inr z))
 r%⟨⟨r.len,r.nd,r.al,r.nb,?_,fun p hp=>r.nh p (sub p hp),r.bg,fun k c hk=>?_⟩,⟨⟨e.bs,e.cM,⟨[],rfl⟩,e.az.trans st⟩,rfl⟩⟩
 .have:=r.hn;rw[ht,Zs] at this;e%(List.nodup_append.mp this).2.1
 .obtain⟨a,vs,h1,h2,h3⟩:=r.qe k c hk;r%⟨a,vs,h1,h2,?_⟩;r%⟨h3.1,fun i v x hv hx=>?_⟩;have q:=h3.2 i v x hv hx;cases x with
  |im d=>e%cB.az st q
  |own k=>e%q
  |bag j=>e%q
  |rF ns =>
   o%⟨a,e1,e2⟩:=q;e%⟨a,e1,KG.bz.az e2 st⟩
n%IP (F:FM)(i:Nat)(b:Bool)(C:Addr)(Ms:MA):MS:=fun D sl O=>Ms sl O fun xs O1=>F O1 xs (fun x O2=>D.nx (sl.set i (some x)) O2) (fun c O2=>c=C/\D.rt (.im (.bool b)) O2)
t%Hr {X:Cx}{K:PySem.W.Frag}{QX:Addr->aN->Prop}{E:XK}{k:Nat}{f M:Addr}{fd:FuncData}{ps:List Str}{sp:Sp}{F:FM}{x fn Cl:Str}{i:Nat}{b:Bool}{e:Expr}{es:List Expr}{Ms:MA}{px fp bW fE np ee cp rp pos:Pos}{kc:Nat}
  (F':aM X.prog X.w X.K X.mg X.base (kD X.prog X.w) k f fd ps sp) (lk:tW K sp F) (hr:cR k X.A) (JH:Gl X fn) (JE:X.mg fn=some (.ref f)) (JG:PySem.W.keepIn X.K (.ref f)=true) (JN:Binds X.K fd ps [])
  (JI:Gl X Cl) (JF:X.mg Cl=some (.ref M)) (Fm:PySem.W.typeIn X.K (.ref M)=some (.type "type")) (bM:PySem.W.mroIn X.K M (.type "BaseException")=some true) (mM:PySem.W.mroIn X.K M (.ref M)=some true)
  (lO:X.stack=X.env::X.outer) (ng:X.env.frame=some X.env.locals) (hN:X.N.Nodup) (hi:X.N[i]?=some x)
  (kx:X.env.scope.names.lookup x=some .local)
  (ha:∀E',PA (X.wish E') (e::es) (pV K QX E Ms))
  (JB:x%(swapsWith (.Call (.Name fn fp) (e::es) [] bW) (some (.Name x px)) fE.line X.env=pure false))
  (d1:y%((fn == ("__debug__" : Str))=false)) (d3:y%((Cl == ("__debug__" : Str))=false))
  (he:x%(starEach (e::es) X.env=(false,eval e X.env)::starEach es X.env)) (gk:x%((backTo bW (starEach es X.env)).any (·.1)=false)) :
  PS X (.Try [.Assign [.Name x px] (.Call (.Name fn fp) (e::es) [] bW) fE] [.ExceptHandler (some (.Name Cl np)) none [.Return (some (.Constant (.bool b) kc cp)) rp] ee] [] [] pos) (kA K QX E (IP F i b M Ms)) :=
 PS.imp (GS F' hr JH JE JG JN JI JF Fm bM lO ng hN hi kx ha JB d1 d3 he gk) fun D σ H ⟨w,O,sl,D0,c,m,hn,hb,hc,Qb⟩=>⟨w,O,sl,_,c,m,fun xs O1 vs w1 H1 h1 e1 r1 a1 =>
  lk w1 O1 H1 vs xs _ _ _ _ r1 a1 h1 (fun z x' O3 w3 H3 h3 e3 r3 a3=>hn _ O3 w3 H3 _ h3 ((c.ex (e1.trans e3).ex r3).put a3 i) (e1.trans e3)) fun c' O3 w3 H3 h3 e3 r3=>by
   o%⟨r4,e4⟩:=r9 e3 r3;e%⟨M,by rw[h3.1],mM,Qb _ O3 _ H3 _ h3.2 (e1.trans e4) r4 (.bl _)⟩⟩
n%qJ (Pr:Addr):FM:=fun O xs P _=>∃(n g:Nat) (B W:List (List Int)) (p d:PyData),xs=[.im (iP B W),.im p,.im d]/\BW n g B W/\(∀j,j<g->has W j=true)/\bv p=true/\bv d=true/\(∃N,N<=1000000/\ln N p=true)/\(∃N,N<=1000000/\ln N d=true)/\Due n g B W p d fun c=>P (.im (.bool c)) O
m%NLe:List Str:=["barter","prices","dealing","market"]
n%IU (Pr:Addr):MS:=aC (IP (oK Pr) 3 false Pr (ae (ag 0) (ae (ag 1) ah))) (bT (ay BV cm (ae (ag 3) (ae (ag 1) (ae (ag 2) ah)))))
t%GI (Pr:Addr):∀O xs Pq QX,qJ Pr O xs Pq QX->IU Pr { nx:=fun _ O'=>Pq (.im .none) O',rt:=Pq } (bf NLe xs) O:=by
 intro O xs Pq QX h;o%⟨n,g,B,W,p,d,rfl,bw,hh,sp,sd,lp,ld,h1,h2⟩:=h;r%⟨n,g,B,W,p,rfl,bw,hh,sp,lp,fun hp=>⟨rfl,h1 hp⟩,fun qs e hq xV=>?_⟩;subst e;o%⟨h3,h4⟩:=h2 qs rfl hq xV;have nc:=lg sp;e%⟨_,_,W,qs,d,n,g,rfl,⟨by simp,hq,bw.g6,bw.wl,by rw[Zb];e%bw.bl,bw.n6⟩,bw.wr,bw.w0,hh,fun z hz=>⟨xV z hz,(nc z hz).mono d%⟩,sd,ld,h3,h4⟩
end MI
namespace jQ
open PySem L2 KG EX KM MI
section
variable {P:Program}{w:World}{K:PySem.W.Frag}{mg:Str->Option Value}{base:Heap}
t%Py:ap NLe ["barter","prices","dealing"] (aX (top 53)):=L2.dj
t%Hf {f fM fS Pr:Addr}{fd dM dS:FuncData}(F:cE K "lets_by" "lets_by" (top 53) f fd)(N:Nm mg)(Ua:mg "NoPrices"=some (.ref Pr))(tyP:PySem.W.typeIn K (.ref Pr)=some (.type "type"))(bP:PySem.W.mroIn K Pr (.type "BaseException")=some true)(mP:PySem.W.mroIn K Pr (.ref Pr)=some true)(Ma:mY K mg P w base "market_at" 6 ["barter","prices"] (cj K (oK Pr)) fM dM)(Sh:cC K mg P w base "shows" 7 ["market","prices","dealing"] (cj K BV) fS dS):aM P w K mg base cP 8 f fd ["barter","prices","dealing"] (cj K (qJ Pr)) :=
 m8 F Py (fun O xs P PX h=>by o%⟨_,_,_,_,_,_,rfl,_⟩:=h;rfl) (fun bF A outer s H E QX hr=>⟨IU Pr,(bS (Hr Ma.ok iS (hr.mono d%) rfl Ma.mg Ma.kp Ma.bd rfl Ua tyP bP mP rfl rfl Py.nd rfl rfl (fun E'=>(au (ai (pv 0)) (au (ai (pv 1)) aB)))) (cS (fo (cA Sh.ok iS (hr.mono d%) rfl Sh.mg Sh.kp Sh.bd (au (ai (pv 3)) (au (ai (pv 1)) (au (ai (pv 2)) aB))))))),fun O xs Pq h=>GI Pr O xs Pq QX h⟩)
end
end jQ
namespace jQ
open PySem L2 KG EX KM
section
variable {P:Program}{w:World}{K:PySem.W.Frag}{mg:Str->Option Value}{base:Heap}
end
section
variable {P:Program}{w:World}{K:PySem.W.Frag}{mg:Str->Option Value}{base:Heap}
t%ye:ap ["some","found","one"] ["some"] (aX (top 67)):=L2.dj
t%Mj {f fA:Addr}{fd dA:FuncData}(F:cE K "_law_sum" "_law_sum" (top 67) f fd)(A:cC K mg P w base "_law_add" 2 ["one","other"] (tX HW) fA dA):aM P w K mg base cP 3 f fd ["some"] uv:=by
 r%F.ok ye (fun vs H Q E h=>?_) (fun bF A' outer s H vs Q E hr h=>?_)
 .obtain⟨l,ys,qs,rfl,_⟩:=h;rfl
 .obtain⟨l,ys,qs,rfl,hl,hf,hb,hn,k⟩:=h;r%⟨_,d9 (lI (i:=1) ye.nd rfl l% (gG (aR bE (aR bE bK))))
   (d9 (oV PassesOwn.never rfl (FX (pv 0)) (bG (i:=2) ye.nd rfl l%) (de (lI (i:=1) ye.nd rfl l% (j1 A.ok hr rfl A.mg A.kp A.bd .nil cz (aR (pv 1) (aR (pv 2) bK))))))
   (de (eY (pv 1)))),?_⟩
  r%⟨by show 2<=sizeLine;decide,fun p0 Ot=>?_⟩;have s0:=(ak.refl H).new (o:=.tup [.int 0,.int 1]) Ot;r%⟨_,rfl,l,rfl,⟨ys,bz.of (s0 _ _ hl)⟩,?_⟩;r%pE (xs:=ys) (fun i σ H'=>(∃r y2,σ=[some (.ref l),some (.ref r),y2]/\H' r=some (qO (cr (qs.take i))))/\ak H H') ⟨⟨p0,_,rfl,cQ⟩,s0⟩ (fun j σ H' _ q=>bz.of (q.2 _ _ hl)) ?_ ?_
  .rintro i y σ H1 hy ⟨⟨r,y2,rfl,FA⟩,s1⟩;o%⟨a,rfl,ha⟩:=(hf.az s1).2 i y hy;have hi:i<qs.length:=by have:=(Zd.mp hy).1;rw[hf.1] at this;e%this
   have eq:qs[i]?=some (qs.getD i 0):=by simp[List.getD,Zc hi]
   have b1:Rb 3000 (cr (qs.take i)):=(sF hb i).mono g%;have b2:Rb 3000 (qs.getD i 0):=(hb _ (Yc eq)).mono d%;r%⟨_,rfl,_,rfl,r,a,_,_,rfl,FA,ha,b1,b2,fun r2 tV=>?_⟩;e%⟨⟨r2,_,rfl,by rw[HZ eq,jG];e%cQ⟩,s1.new tV⟩
  .rintro σ H1 ⟨⟨r,y2,rfl,FA⟩,s1⟩;rw[List.take_of_length_le (by rw[hf.1];e%Ze _)] at FA;e%⟨_,rfl,k r H1 s1 FA⟩
end
end jQ
namespace jQ
open PySem L2 KG EX KM MI
section
variable {P:Program}{w:World}{K:PySem.W.Frag}{mg:Str->Option Value}{base:Heap}
t%j5:ap Fj ["bag"] (aX (top 77)):=L2.dj
t%El {f fT:Addr}{fd dT:FuncData}(F:cE K "_law_dealt" "_law_dealt" (top 77) f fd)(N:Nm mg)(T:cC K mg P w base "_law_take" 1 ["bag","many"] jd fT dT):aM P w K mg base cP 2 f fd ["bag"] (cj K pd) :=
 m8 F j5 (fun O xs P PX h=>by o%⟨⟨j,rfl⟩,_⟩:=h;rfl) (fun bF A outer s H E QX hr=>⟨Dn,(bS (gn (i:=1) j5.nd rfl (Or.inr rfl) (pY bJ (cA T.ok qd (hr.mono d%) rfl T.mg T.kp T.bd (au (ai (pv 0)) (au bJ aB)))))
 (bS (gn (i:=2) j5.nd rfl l% (pY bJ (cA T.ok qd (hr.mono d%) rfl T.mg T.kp T.bd (au (ai (pv 0)) (au bJ aB)))))
 (bS (gn (i:=3) j5.nd rfl (Or.inr rfl) (iQ (own:=["good"]) (cap:=["bag"]) (ix:=[0]) (aA.of (aX (top 77)).names Fj) rfl (rJ rfl N.range (au (ai (pv 1)) aB)) (iR d%)
 (fun C fp s H=>⟨(cD (bG (i:=0) (show List.Nodup (["good","bag"]:List Str) by decide+kernel) rfl l%)),iJ,(pY bJ (cA T.ok qd (hr.mono d%) rfl T.mg T.kp T.bd (au (ai (pv 1)) (au (bQ (rG (au bJ (au bJ aB))) (cA T.ok qd (hr.mono d%) rfl T.mg T.kp T.bd (au (ai (pv 1)) (au bJ aB)))) aB))))⟩)))
 (bS (gn (i:=4) j5.nd rfl l% (mj aB))
 (bS (gn (i:=5) j5.nd rfl (Or.inr rfl) (mj aB))
 (bS (zy PassesOwn.never rfl (rJ rfl N.range (au (ai (pv 2)) aB)) (cD (bG (i:=6) j5.nd rfl l%)) (bS (gn (i:=7) j5.nd rfl (Or.inr rfl) (uY (own:=["top"]) (cap:=["bag"]) (ix:=[0]) (aA.of (aX (top 77)).names Fj) rfl (kz (ai (pv 3))) (iR d%)
 (fun C fp s H=>⟨(cD (bG (i:=0) (show List.Nodup (["top","bag"]:List Str) by decide+kernel) rfl l%)),iJ,(ft (rm rfl) yS f% N.max boot_max (au bJ (au (mh (ai (pv 0)) (jf (cA T.ok qd (hr.mono d%) rfl T.mg T.kp T.bd (au (ai (pv 1)) (au bJ aB))) (pY bJ (cA T.ok qd (hr.mono d%) rfl T.mg T.kp T.bd (au (ai (pv 1)) (au (ai (pv 0)) aB)))))) aB)))⟩)))
 (bS (gn (i:=8) j5.nd rfl l% (cA T.ok qd (hr.mono d%) rfl T.mg T.kp T.bd (au (ai (pv 0)) (au (ai (pv 1)) aB))))
 (bS (zw (bQ (ai (pv 3)) (ai (pv 8))) (jg (ai (pv 7)) (ai (pv 8))))
 (bS (E5 (jh (ai (pv 4)) (au (ai (pv 7)) aB)))
 (bS (E5 (jh (ai (pv 5)) (au (uY (own:=["good"]) (cap:=["bag","row","tops"]) (ix:=[0,7,3]) (aA.of (aX (top 77)).names Fj) rfl (rJ rfl N.range (au (ai (pv 1)) aB)) (iR d%)
 (fun C fp s H=>⟨(cD (bG (i:=0) (show List.Nodup (["good","bag","row","tops"]:List Str) by decide+kernel) rfl l%)),iJ,(jf (cA T.ok qd (hr.mono d%) rfl T.mg T.kp T.bd (au (ai (pv 1)) (au bJ aB))) (qz jO yT f% N.int boot_int (au (eU (gr hr.units) gw (bQ (ai (pv 2)) (ai (pv 0))) (bQ (ai (pv 3)) (ai (pv 0))) (ax _)) aB)))⟩)) aB)))
 (cS (zw (pY bJ (cA T.ok qd (hr.mono d%) rfl T.mg T.kp T.bd (au (ai (pv 0)) (au bJ aB)))) (jg (bQ (ai (pv 5)) (Dd bJ)) (ai (pv 8)))))))))))
 (bS (zy PassesOwn.never rfl (rJ rfl N.range (au (ai (pv 1)) aB)) (cD (bG (i:=9) j5.nd rfl l%)) (bS (gn (i:=6) j5.nd rfl l% (cA T.ok qd (hr.mono d%) rfl T.mg T.kp T.bd (au (ai (pv 0)) (au (ai (pv 2)) aB))))
 (bS (zw (bQ (ai (pv 3)) (ai (pv 9))) (jg (bQ (ai (pv 4)) (ai (pv 6))) (ai (pv 9))))
 (cS (zw (ft (rm rfl) yS f% N.max boot_max (au bJ (au (bQ (bQ (ai (pv 5)) (ai (pv 6))) (ai (pv 9))) aB))) (jg (bQ (ai (pv 5)) (ai (pv 6))) (ai (pv 9))))))))
 (nH 4 (nH 5 (bS (gn (i:=10) j5.nd rfl l% (qz d8 vO f% N.tuple m9 (au (iQ (own:=["top"]) (cap:=[]) (ix:=[]) (aA.of (aX (top 77)).names Fj) rfl (kz (ai (pv 3))) (iR d%)
 (fun C fp s H=>⟨(cD (bG (i:=0) (show List.Nodup (["top"]:List Str) by decide+kernel) rfl l%)),iJ,(nR (au (ai (pv 0)) (au bJ aB)))⟩)) aB)))
 (bS (gn (i:=11) j5.nd rfl l% (qz d8 vO f% N.tuple m9 (au (iQ (own:=["good"]) (cap:=["dealing"]) (ix:=[5]) (aA.of (aX (top 77)).names Fj) rfl (rJ rfl N.range (au (ai (pv 1)) aB)) (iR d%)
 (fun C fp s H=>⟨(cD (bG (i:=0) (show List.Nodup (["good","dealing"]:List Str) by decide+kernel) rfl (Or.inr rfl))),iJ,(ft (uI rfl) oY f% N.sum boot_sum (au (iQ (own:=["row"]) (cap:=["good"]) (ix:=[0]) (aA.of [(".0",.local),("good",.cell),("sum",.globalImplicit),("dealing",.cell)] ["good","dealing"]) rfl (kz (ai (pv 1))) (iR d%)
 (fun C fp s H=>⟨(cD (bG (i:=0) (show List.Nodup (["row","good"]:List Str) by decide+kernel) rfl l%)),iJ,(bQ (ai (pv 0)) (ai (pv 1)))⟩)) aB))⟩)) aB)))
 (bS (gn (i:=12) j5.nd rfl l% (qz d8 vO f% N.tuple m9 (au (iQ (own:=["row"]) (cap:=["goods","tops"]) (ix:=[1,3]) (aA.of (aX (top 77)).names Fj) rfl (kz (ai (pv 5))) (iR d%)
 (fun C fp s H=>⟨(cD (bG (i:=0) (show List.Nodup (["row","goods","tops"]:List Str) by decide+kernel) rfl (Or.inr rfl))),iJ,(nR (au (ft (uI rfl) oY f% N.sum boot_sum (au (iQ (own:=["good"]) (cap:=["row","tops"]) (ix:=[0,2]) (aA.of [(".0",.local),("row",.cell),("sum",.globalImplicit),("range",.globalImplicit),("goods",.cell),("tops",.cell)] ["row","goods","tops"]) rfl (rJ rfl N.range (au (ai (pv 1)) aB)) (iR d%)
 (fun C fp s H=>⟨(cD (bG (i:=0) (show List.Nodup (["good","row","tops"]:List Str) by decide+kernel) rfl l%)),iJ,(jf (bQ (ai (pv 1)) (ai (pv 0))) (bQ (ai (pv 2)) (ai (pv 0))))⟩)) aB)) (au bJ aB)))⟩)) aB)))
 (bS (gn (i:=13) j5.nd rfl l% (qz d8 vO f% N.tuple m9 (au (iQ (own:=["row"]) (cap:=[]) (ix:=[]) (aA.of (aX (top 77)).names Fj) rfl (kz (ai (pv 5))) (iR d%)
 (fun C fp s H=>⟨(cD (bG (i:=0) (show List.Nodup (["row"]:List Str) by decide+kernel) rfl l%)),iJ,(qz d8 vO f% N.tuple m9 (au (iQ (own:=["much"]) (cap:=[]) (ix:=[]) (aA.of [(".0",.local),("row",.local),("tuple",.globalImplicit)] ["row"]) rfl (kz (ai (pv 0))) (iR d%)
 (fun C fp s H=>⟨(cD (bG (i:=0) (show List.Nodup (["much"]:List Str) by decide+kernel) rfl l%)),iJ,(nR (au (ai (pv 0)) (au bJ aB)))⟩)) aB))⟩)) aB)))
 (cS (fo (rG (au (nR (au (ai (pv 11)) (au (ai (pv 12)) (au (qz d8 vO f% N.tuple m9 (au (iQ (own:=["row"]) (cap:=[]) (ix:=[]) (aA.of (aX (top 77)).names Fj) rfl (kz (ai (pv 4))) (iR d%)
 (fun C fp s H=>⟨(cD (bG (i:=0) (show List.Nodup (["row"]:List Str) by decide+kernel) rfl l%)),iJ,(qz d8 vO f% N.tuple m9 (au (ai (pv 0)) aB))⟩)) aB)) aB)))) (au (ai (pv 10)) (au (ai (pv 13)) aB))))))))))))))))))),fun O xs Pq h=>DV O xs Pq QX h⟩)
end
section
variable {P:Program}{w:World}{K:PySem.W.Frag}{mg:Str->Option Value}{base:Heap}
t%MZ:tW K yb Qr:=fun w O H vs xs P PX Q E r a hf q x=>by
 o%⟨a1,b1,rfl,h0,hf⟩:=hf;o%⟨v,v2,rfl,h1,h3⟩:=Ca a;o%⟨p1,rfl,g1⟩:=R9 h1;o%⟨p2,rfl,g2⟩:=R9 h3;r%⟨p1,p2,a1,b1,rfl,g1,g2,h0.1,h0.2.1,h0.2.2,fun p hp=>?_⟩;o%⟨r1,e1,t1⟩:=IL r hp;e%q _ _ O w _ hf e1 r1 t1
t%ui:ap NP ["bag","market","prices","dealing"] (aX (top 76)):=L2.dj
t%Mv {f fT fD:Addr}{fd dT dD:FuncData}(F:cE K "_law_known_barter" "_law_known_barter" (top 76) f fd)(N:Nm mg)(T:cC K mg P w base "_law_take" 1 ["bag","many"] jd fT dT)(Dv:cC K mg P w base "_law_div" 2 ["one","other"] yb fD dD):aM P w K mg base cP 3 f fd ["bag","market","prices","dealing"] (cj K B5) :=
 m8 F ui (fun O xs P PX h=>by o%⟨_,_,_,_,_,_,_,rfl,_⟩:=h;rfl) (fun bF A outer s H E QX hr=>⟨KN,(bS (gn (i:=4) ui.nd rfl (Or.inr rfl) (iQ (own:=["row"]) (cap:=[]) (ix:=[]) (aA.of (aX (top 76)).names NP) rfl (kz (ai (pv 3))) (iR d%)
 (fun C fp s H=>⟨(cD (bG (i:=0) (show List.Nodup (["row"]:List Str) by decide+kernel) rfl l%)),iJ,(iQ (own:=["much"]) (cap:=[]) (ix:=[]) (aA.of [(".0",.local),("row",.local)] ["row"]) rfl (kz (ai (pv 0))) (iR d%)
 (fun C fp s H=>⟨(cD (bG (i:=0) (show List.Nodup (["much"]:List Str) by decide+kernel) rfl l%)),iJ,(MQ (bQ (ai (pv 0)) bJ) (bQ (ai (pv 0)) bJ))⟩))⟩)))
 (bS (yO (i:=5) ui.nd rfl rfl (own:=["good"]) (cap:=["brought","market"]) (ix:=[4,1]) (aA.of (aX (top 76)).names NP) rfl (rJ rfl N.range (au (ft aV kw f% N.len PySem.boot_len (au (ai (pv 2)) aB)) aB)) (iR d%)
 (fun C fp s H=>⟨(cD (bG (i:=0) (show List.Nodup (["good","brought","market"]:List Str) by decide+kernel) rfl (Or.inr rfl))),iJ,(mh (bQ (bQ (ai (pv 2)) bJ) (ai (pv 0))) (ft (uI rfl) oY f% N.sum boot_sum (au (iQ (own:=["row"]) (cap:=["good"]) (ix:=[0]) (aA.of [(".0",.local),("good",.cell),("sum",.globalImplicit),("brought",.cell),("market",.cell)] ["good","brought","market"]) rfl (kz (ai (pv 1))) (iR d%)
 (fun C fp s H=>⟨(cD (bG (i:=0) (show List.Nodup (["row","good"]:List Str) by decide+kernel) rfl l%)),iJ,(bQ (ai (pv 0)) (ai (pv 1)))⟩)) aB)))⟩))
 (bS (lL (j0 (gU hr.units) gY (ai (pv 5)) (MN (rG (au bJ aB)) (ft aV kw f% N.len PySem.boot_len (au (ai (pv 2)) aB))) (ax _)) (cS (fo oX)) lM)
 (bS (Eo (i:=6) ui.nd rfl rfl (own:=["row"]) (cap:=[]) (ix:=[]) (aA.of (aX (top 76)).names NP) rfl (kz (ai (pv 4))) (iR d%)
 (fun C fp s H=>⟨(cD (bG (i:=0) (show List.Nodup (["row"]:List Str) by decide+kernel) rfl l%)),iJ,(qz Jq HA f% N.list boot_list (au (ai (pv 0)) aB))⟩))
 (bS (zy PassesOwn.never rfl (rJ rfl N.range (au (cA T.ok qd (hr.mono d%) rfl T.mg T.kp T.bd (au (ai (pv 0)) (au bJ aB))) aB)) (cD (bG (i:=7) ui.nd rfl l%)) (bS (C9 (i:=8) (j:=9) rfl ui.nd rfl rfl d% rfl rfl (au (cA T.ok qd (hr.mono d%) rfl T.mg T.kp T.bd (au (ai (pv 0)) (au (ft aV kw f% N.len PySem.boot_len (au (ai (pv 6)) aB)) aB))) (au (cA T.ok qd (hr.mono d%) rfl T.mg T.kp T.bd (au (ai (pv 0)) (au (ft aV kw f% N.len PySem.boot_len (au (ai (pv 6)) aB)) aB))) aB)) rfl)
 (bS (C9 (i:=10) (j:=11) rfl ui.nd rfl rfl d% rfl rfl (au (cA T.ok qd (hr.mono d%) rfl T.mg T.kp T.bd (au (ai (pv 0)) (au (ft aV kw f% N.len PySem.boot_len (au (ai (pv 2)) aB)) aB))) (au (cA T.ok qd (hr.mono d%) rfl T.mg T.kp T.bd (au (ai (pv 0)) (au (ft aV kw f% N.len PySem.boot_len (au (ai (pv 2)) aB)) aB))) aB)) rfl)
 (bS (gn (i:=12) ui.nd rfl l% (cA Dv.ok MZ (hr.mono d%) rfl Dv.mg Dv.kp Dv.bd (au (bQ (ai (pv 2)) (ai (pv 10))) (au (bQ (ai (pv 2)) (ai (pv 11))) aB))))
 (cS (lL (PW.pt (sq (j0 (gU hr.units) gY (ai (pv 8)) (ai (pv 9)) (ax _)) (sq (j0 yi CH (bQ (bQ (ai (pv 6)) (ai (pv 8))) (ai (pv 10))) (bQ (ai (pv 12)) bJ) (ax _)) (sS (j0 yi CH (bQ (bQ (ai (pv 6)) (ai (pv 9))) (ai (pv 11))) (bQ (ai (pv 12)) bJ) (ax _)))))) (bS (zw (mh (bQ (bQ (ai (pv 6)) (ai (pv 8))) (ai (pv 10))) (bQ (ai (pv 12)) bJ)) (jg (bQ (ai (pv 6)) (ai (pv 8))) (ai (pv 10))))
 (bS (zw (pY (bQ (bQ (ai (pv 6)) (ai (pv 9))) (ai (pv 10))) (bQ (ai (pv 12)) bJ)) (jg (bQ (ai (pv 6)) (ai (pv 9))) (ai (pv 10))))
 (bS (zw (mh (bQ (bQ (ai (pv 6)) (ai (pv 9))) (ai (pv 11))) (bQ (ai (pv 12)) bJ)) (jg (bQ (ai (pv 6)) (ai (pv 9))) (ai (pv 11))))
 (cS (zw (pY (bQ (bQ (ai (pv 6)) (ai (pv 8))) (ai (pv 11))) (bQ (ai (pv 12)) bJ)) (jg (bQ (ai (pv 6)) (ai (pv 8))) (ai (pv 11)))))))) lM))))))
 (nH 6 (cS (fo (nR (au (qz d8 vO f% N.tuple m9 (au (iQ (own:=["row"]) (cap:=[]) (ix:=[]) (aA.of (aX (top 76)).names NP) rfl (kz (ai (pv 6))) (iR d%)
 (fun C fp s H=>⟨(cD (bG (i:=0) (show List.Nodup (["row"]:List Str) by decide+kernel) rfl l%)),iJ,(qz d8 vO f% N.tuple m9 (au (ai (pv 0)) aB))⟩)) aB)) (au (bQ (ai (pv 1)) bJ) aB))))))))))),fun O xs Pq h=>LL O xs Pq QX h⟩)
t%we:ap Td ["barter","prices"] (aX (top 78)):=L2.dj
t%Hc {f fM fS:Addr}{fd dM dS:FuncData}(F:cE K "_law_market_of" "_law_market_of" (top 78) f fd)(N:Nm mg)(Mu:cC K mg P w base "_law_mul" 2 ["one","other"] (tX nQ) fM dM)(Su:cC K mg P w base "_law_sum" 3 ["some"] uv fS dS):aM P w K mg base cP 4 f fd ["barter","prices"] (cj K oJ) :=
 m8 F we (fun O xs P PX h=>by o%⟨_,_,_,_,_,rfl,_⟩:=h;rfl) (fun bF A outer s H E QX hr=>⟨IS,(bS (zw (ai (pv 0)) (gL rfl (pZ (cD (bG (i:=2) we.nd rfl (Or.inr rfl))) (pZ (cD (bG (i:=3) we.nd rfl l%)) E2))))
 (bS (gn (i:=4) we.nd rfl l% (qz d8 vO f% N.tuple m9 (au (iQ (own:=["good"]) (cap:=["brought"]) (ix:=[2]) (aA.of (aX (top 78)).names Td) rfl (rJ rfl N.range (au (ft aV kw f% N.len PySem.boot_len (au (ai (pv 1)) aB)) aB)) (iR d%)
 (fun C fp s H=>⟨(cD (bG (i:=0) (show List.Nodup (["good","brought"]:List Str) by decide+kernel) rfl (Or.inr rfl))),iJ,(ft (uI rfl) oY f% N.sum boot_sum (au (iQ (own:=["row"]) (cap:=["good"]) (ix:=[0]) (aA.of [(".0",.local),("good",.cell),("sum",.globalImplicit),("brought",.cell)] ["good","brought"]) rfl (kz (ai (pv 1))) (iR d%)
 (fun C fp s H=>⟨(cD (bG (i:=0) (show List.Nodup (["row","good"]:List Str) by decide+kernel) rfl l%)),iJ,(bQ (ai (pv 0)) (ai (pv 1)))⟩)) aB))⟩)) aB)))
 (bS (gn (i:=5) we.nd rfl l% (mj aB))
 (bS (zy PassesOwn.never rfl (kz (ai (pv 2))) (cD (bG (i:=6) we.nd rfl (Or.inr rfl))) (bS (yO (i:=7) we.nd rfl rfl (own:=["good"]) (cap:=["prices","row"]) (ix:=[1,6]) (aA.of (aX (top 78)).names Td) rfl (rJ rfl N.range (au (ft aV kw f% N.len PySem.boot_len (au (ai (pv 1)) aB)) aB)) (iR d%)
 (fun C fp s H=>⟨(cD (bG (i:=0) (show List.Nodup (["good","prices","row"]:List Str) by decide+kernel) rfl l%)),iJ,(cA Mu.ok wj (hr.mono d%) rfl Mu.mg Mu.kp Mu.bd (au (bQ (ai (pv 1)) (ai (pv 0))) (au (nR (au (bQ (ai (pv 2)) (ai (pv 0))) (au bJ aB))) aB)))⟩))
 (cS (E5 (jh (ai (pv 5)) (au (cA Su.ok yR (hr.mono d%) rfl Su.mg Su.kp Su.bd (au (ai (pv 7)) aB)) aB))))))
 (Db 5 (cS (fo (nR (au (ai (pv 4)) (au (qz d8 vO f% N.tuple m9 (au (ai (pv 5)) aB)) (au (ai (pv 3)) aB))))))))))),fun O xs Pq h=>GG O xs Pq QX h⟩)
end
section
variable {P:Program}{w:World}{K:PySem.W.Frag}{mg:Str->Option Value}{base:Heap}
t%Wx:ap VS ["barter","thing"] (aX (top 79)):=L2.dj
t%MF {f fI:Addr}{fd dI:FuncData}(F:cE K "_law_are_prices" "_law_are_prices" (top 79) f fd)(N:Nm mg)(Z:rM K)(I:cC K mg P w base "_law_is_fraction" 2 ["thing"] (BG aO) fI dI):aM P w K mg base cP 3 f fd ["barter","thing"] (cj K wu) :=
 m8 F Wx (fun O xs P PX h=>by o%⟨_,_,_,rfl,_⟩:=h;rfl) (fun bF A outer s H E QX hr=>⟨P5,(bS (lL (PW.pt (gX (tZ (tR (Jw Z (ai (pv 1)) rfl N.isinstance rfl N.tuple))) (gc (j0 (gU hr.units) gY (ft aV kw f% N.len PySem.boot_len (au (ai (pv 1)) aB)) (ft aV kw f% N.len PySem.boot_len (au (bQ (bQ (ai (pv 0)) bJ) bJ) aB)) (ax _))))) (cS (fo pX)) lM)
 (cS (fo (eU (gr hr.units) gw (iQ (own:=["one"]) (cap:=[]) (ix:=[]) (aA.of (aX (top 79)).names VS) rfl (kz (ai (pv 1))) (iR d%)
 (fun C fp s H=>⟨(cD (bG (i:=0) (show List.Nodup (["one"]:List Str) by decide+kernel) rfl l%)),(ss (PW.pt (gX (tZ (tR (cA I.ok Ja (hr.mono d%) rfl I.mg I.kp I.bd (au (ai (pv 0)) aB)))) (gc (j0 oA Rl (bQ (ai (pv 0)) bJ) bJ (ax _)))))),(ai (pv 0))⟩)) (rG aB) (ax _))))),fun O xs Pq h=>LP O xs Pq QX h⟩)
t%Pz:ap VN ["market","thing"] (aX (top 70)):=L2.dj
t%Hh {f fI:Addr}{fd dI:FuncData}(F:cE K "_law_is_dealing" "_law_is_dealing" (top 70) f fd)(N:Nm mg)(Z:rM K)(I:cC K mg P w base "_law_is_fraction" 2 ["thing"] (BG aO) fI dI):aM P w K mg base cP 3 f fd ["market","thing"] (cj K uF) :=
 m8 F Pz (fun O xs P PX h=>by o%⟨_,_,_,_,rfl,_⟩:=h;rfl) (fun bF A outer s H E QX hr=>⟨IV,(bS (lL (PW.pt (gX (tZ (tR (Jw Z (ai (pv 1)) rfl N.isinstance rfl N.tuple))) (gc (j0 (gU hr.units) gY (ft aV kw f% N.len PySem.boot_len (au (ai (pv 1)) aB)) (ft aV kw f% N.len PySem.boot_len (au (bQ (ai (pv 0)) bJ) aB)) (ax _))))) (cS (fo pX)) lM)
 (bS (zy PassesOwn.never rfl (kz (ai (pv 1))) (cD (bG (i:=2) Pz.nd rfl l%)) (bS (lL (PW.pt (gX (tZ (tR (Jw Z (ai (pv 2)) rfl N.isinstance rfl N.tuple))) (gc (j0 (gU hr.units) gY (ft aV kw f% N.len PySem.boot_len (au (ai (pv 2)) aB)) (ft aV kw f% N.len PySem.boot_len (au (bQ (ai (pv 0)) bJ) aB)) (ax _))))) (cS (fo pX)) lM)
 (cS (lL (j0 (gU hr.units) gY (iQ (own:=["one"]) (cap:=[]) (ix:=[]) (aA.of (aX (top 70)).names VN) rfl (kz (ai (pv 2))) (iR d%)
 (fun C fp s H=>⟨(cD (bG (i:=0) (show List.Nodup (["one"]:List Str) by decide+kernel) rfl l%)),(ss (PW.pt (gX (tZ (tR (cA I.ok Ja (hr.mono d%) rfl I.mg I.kp I.bd (au (ai (pv 0)) aB)))) (gc (j0 kK I0 (bQ (ai (pv 0)) bJ) bJ (ax _)))))),(ai (pv 0))⟩)) (rG aB) (ax _)) (cS (fo pX)) lM))))
 (cS (fo pX)))),fun O xs Pq h=>GJ O xs Pq QX h⟩)
t%Wm:ap VG ["market"] (aX (top 71)):=L2.dj
t%Mg {f:Addr}{fd:FuncData}(F:cE K "_law_wished" "_law_wished" (top 71) f fd)(N:Nm mg):aM P w K mg base cP 1 f fd ["market"] (cj K BU) :=
 m8 F Wm (fun O xs P PX h=>by o%⟨_,_,_,rfl,_⟩:=h;rfl) (fun bF A outer s H E QX hr=>⟨PN,(cS (fo (iQ (own:=["good"]) (cap:=["market"]) (ix:=[0]) (aA.of (aX (top 71)).names VG) rfl (rJ rfl N.range (au (ft aV kw f% N.len PySem.boot_len (au (bQ (ai (pv 0)) bJ) aB)) aB)) (iR d%)
 (fun C fp s H=>⟨(cD (bG (i:=0) (show List.Nodup (["good","market"]:List Str) by decide+kernel) rfl (Or.inr rfl))),(ss (j0 i0 yn (ft (RA rfl) MW f% N.max boot_max (au (iQ (own:=["row"]) (cap:=["good"]) (ix:=[0]) (aA.of [(".0",.local),("good",.cell),("max",.globalImplicit),("market",.cell)] ["good","market"]) rfl (kz (bQ (ai (pv 1)) bJ)) (iR d%)
 (fun C fp s H=>⟨(cD (bG (i:=0) (show List.Nodup (["row","good"]:List Str) by decide+kernel) rfl l%)),iJ,(bQ (ai (pv 0)) (ai (pv 1)))⟩)) aB)) bJ (ax _))),(ai (pv 0))⟩)))),fun O xs Pq h=>LC O xs Pq QX h⟩)
t%nX:ap NBe ["market","prices"] (aX (top 69)):=L2.dj
t%MC {f:Addr}{fd:FuncData}(F:cE K "_law_best" "_law_best" (top 69) f fd)(N:Nm mg):aM P w K mg base cP 1 f fd ["market","prices"] (cj K B9) :=
 m8 F nX (fun O xs P PX h=>by o%⟨_,_,_,_,rfl,_⟩:=h;rfl) (fun bF A outer s H E QX hr=>⟨P4,(bS (gn (i:=2) nX.nd rfl l% (mj aB))
 (bS (zy PassesOwn.never rfl (kz (bQ (ai (pv 0)) bJ)) (cD (bG (i:=3) nX.nd rfl l%)) (bS (gn (i:=4) nX.nd rfl l% (mj aB))
 (bS (zy PassesOwn.never rfl (rJ rfl N.range (au (ft aV kw f% N.len PySem.boot_len (au (ai (pv 3)) aB)) aB)) (cD (bG (i:=5) nX.nd rfl l%)) (bS (zw (bQ (ai (pv 1)) (ai (pv 5))) (gL rfl (pZ (cD (bG (i:=6) nX.nd rfl l%)) (pZ (cD (bG (i:=7) nX.nd rfl l%)) E2))))
 (bS (gn (i:=8) nX.nd rfl l% (eU (gr hr.units) gw (bQ (ai (pv 3)) (ai (pv 5))) bJ (ax _)))
 (bS (zy PassesOwn.never rfl (rJ rfl N.range (au (ft aV kw f% N.len PySem.boot_len (au (ai (pv 3)) aB)) aB)) (cD (bG (i:=9) nX.nd rfl l%)) (bS (gn (i:=10) nX.nd rfl l% (jf (jf (bQ (ai (pv 3)) (ai (pv 9))) (ai (pv 6))) (bQ (bQ (ai (pv 1)) (ai (pv 9))) bJ)))
 (cS (lL (PW.pt (sq (j0 i0 yn (bQ (ai (pv 3)) (ai (pv 9))) bJ (ax _)) (sS (j0 kK I0 (jf (jf (bQ (ai (pv 3)) (ai (pv 5))) (bQ (bQ (ai (pv 1)) (ai (pv 9))) bJ)) (ai (pv 7))) (ai (pv 10)) (ax _))))) (cS (gn (i:=8) nX.nd rfl l% pX)) lM))))
 (cS (lL (tZ (MM (ai (pv 8)))) (cS (E5 (jh (ai (pv 4)) (au (ai (pv 5)) aB)))) lM))))))
 (cS (E5 (jh (ai (pv 2)) (au (ai (pv 4)) aB)))))))
 (nH 2 (cS (fo (ai (pv 2))))))),fun O xs Pq h=>LO O xs Pq QX h⟩)
t%rQ:ap VI ["market","prices","dealing"] (aX (top 72)):=L2.dj
t%Mm {f fB fS fW fA fM:Addr}{fd dB dS dW dA dM:FuncData}(F:cE K "_law_shows" "_law_shows" (top 72) f fd)(N:Nm mg)(Be:cC K mg P w base "_law_best" 1 ["market","prices"] (cj K B9) fB dB)(Su:cC K mg P w base "_law_sum" 3 ["some"] uv fS dS)(Wi:cC K mg P w base "_law_wished" 1 ["market"] (cj K BU) fW dW)(Ad:cC K mg P w base "_law_add" 2 ["one","other"] (tX HW) fA dA)(Mu:cC K mg P w base "_law_mul" 2 ["one","other"] (tX nQ) fM dM):aM P w K mg base cP 4 f fd ["market","prices","dealing"] (cj K BX) :=
 m8 F rQ (fun O xs P PX h=>by o%⟨_,_,_,_,_,_,_,rfl,_⟩:=h;rfl) (fun bF A outer s H E QX hr=>⟨PR,(bS (gn (i:=3) rQ.nd rfl l% (cA Be.ok iS (hr.mono d%) rfl Be.mg Be.kp Be.bd (au (ai (pv 0)) (au (ai (pv 1)) aB))))
 (bS (zy PassesOwn.never rfl (rJ rfl N.range (au (ft aV kw f% N.len PySem.boot_len (au (ai (pv 1)) aB)) aB)) (cD (bG (i:=4) rQ.nd rfl (Or.inr rfl))) (bS (gn (i:=5) rQ.nd rfl l% (cA Su.ok yR (hr.mono d%) rfl Su.mg Su.kp Su.bd (au (iQ (own:=["row"]) (cap:=["good"]) (ix:=[4]) (aA.of (aX (top 72)).names VI) rfl (kz (ai (pv 2))) (iR d%)
 (fun C fp s H=>⟨(cD (bG (i:=0) (show List.Nodup (["row","good"]:List Str) by decide+kernel) rfl l%)),iJ,(bQ (ai (pv 0)) (ai (pv 1)))⟩)) aB)))
 (cS (lL (j0 (gU hr.units) gY (ai (pv 5)) (nR (au (jf (bQ (bQ (ai (pv 0)) bJ) (ai (pv 4))) (qz jO yT f% N.int boot_int (au (eU yl (ym false) (ai (pv 4)) (cA Wi.ok iS (hr.mono d%) rfl Wi.mg Wi.kp Wi.bd (au (ai (pv 0)) aB)) f%) aB))) (au bJ aB))) (ax _)) (cS (fo pX)) lM))))
 (bS (zy PassesOwn.never rfl (rJ rfl N.range (au (ft aV kw f% N.len PySem.boot_len (au (ai (pv 3)) aB)) aB)) (cD (bG (i:=6) rQ.nd rfl l%)) (bS (gn (i:=7) rQ.nd rfl l% (bQ (ai (pv 2)) (ai (pv 6))))
 (bS (gn (i:=8) rQ.nd rfl l% (nR (au bJ (au bJ aB))))
 (bS (zy PassesOwn.never rfl (rJ rfl N.range (au (ft aV kw f% N.len PySem.boot_len (au (ai (pv 7)) aB)) aB)) (cD (bG (i:=4) rQ.nd rfl (Or.inr rfl))) (bS (lL (PW.pt (sq (j0 (gU hr.units) gY (bQ (bQ (ai (pv 7)) (ai (pv 4))) bJ) bJ (ax _)) (sS (j0 C7 (ym true) (ai (pv 4)) (bQ (ai (pv 3)) (ai (pv 6))) f%)))) (cS (fo pX)) lM)
 (cS (gn (i:=8) rQ.nd rfl l% (cA Ad.ok wj (hr.mono d%) rfl Ad.mg Ad.kp Ad.bd (au (ai (pv 8)) (au (cA Mu.ok wj (hr.mono d%) rfl Mu.mg Mu.kp Mu.bd (au (bQ (ai (pv 1)) (ai (pv 4))) (au (bQ (ai (pv 7)) (ai (pv 4))) aB))) aB)))))))
 (cS (lL (j0 (gU hr.units) gY (ai (pv 8)) (bQ (bQ (ai (pv 0)) bJ) (ai (pv 6))) (ax _)) (cS (fo pX)) lM))))))
 (cS (fo pX))))),fun O xs Pq h=>LF O xs Pq QX h⟩)
t%PB:ap NDu ["barter","prices","dealing"] (aX (top 80)):=L2.dj
t%Mz {f fA fM fI fS:Addr}{fd dA dM dI dS:FuncData}(F:cE K "_law_due" "_law_due" (top 80) f fd)(N:Nm mg)(Ap:cC K mg P w base "_law_are_prices" 3 ["barter","thing"] (cj K wu) fA dA)(Mf:cC K mg P w base "_law_market_of" 4 ["barter","prices"] (cj K oJ) fM dM)(Id:cC K mg P w base "_law_is_dealing" 3 ["market","thing"] (cj K uF) fI dI)(Sh:cC K mg P w base "_law_shows" 4 ["market","prices","dealing"] (cj K BX) fS dS):aM P w K mg base cP 5 f fd ["barter","prices","dealing"] (cj K B7) :=
 m8 F PB (fun O xs P PX h=>by o%⟨_,_,_,_,_,_,rfl,_⟩:=h;rfl) (fun bF A outer s H E QX hr=>⟨P1,(bS (lL (tZ (tR (cA Ap.ok iS (hr.mono d%) rfl Ap.mg Ap.kp Ap.bd (au (ai (pv 0)) (au (ai (pv 1)) aB))))) (cS (fo pX)) lM)
 (bS (gn (i:=3) PB.nd rfl l% (cA Mf.ok iS (hr.mono d%) rfl Mf.mg Mf.kp Mf.bd (au (ai (pv 0)) (au (ai (pv 1)) aB))))
 (cS (fo (su (cA Id.ok iS (hr.mono d%) rfl Id.mg Id.kp Id.bd (au (ai (pv 3)) (au (ai (pv 2)) aB))) (wU (cA Sh.ok iS (hr.mono d%) rfl Sh.mg Sh.kp Sh.bd (au (ai (pv 3)) (au (ai (pv 1)) (au (ai (pv 2)) aB)))))))))),fun O xs Pq h=>LM O xs Pq QX h⟩)
end
end jQ
namespace jQ
open PySem L2 KG EX KM
section
variable {P:Program}{w:World}{K:PySem.W.Frag}{mg:Str->Option Value}{base:Heap}
t%jB:ap ["e","some","words"] ["e"] (aX (top 75)):=L2.dj
t%Ei {f M De Bu Dl Go Mk Nn Pr Ro Tx No Un:Addr}{fd:FuncData}(F:cE K "_law_kinds" "_law_kinds" (top 75) f fd)(N:Nm mg)(C:V1 K mg M De Bu Dl Go Mk Nn Pr Ro Tx No Un):NR P w K mg base 1 f fd ["e"] (nu K M De Bu Dl Go Mk Nn Pr Ro Tx No Un):=by
 r%F.okH jB (fun ea D vs H Q E h=>?_) (fun bF A outer s H vs Q E ea D t hd hr h=>?_)
 .obtain⟨_,_,_,rfl,_⟩:=h;rfl
 .obtain⟨ci,ZP,R,rfl,k⟩:=h;have hp:(ea,eH D t hd)∈(OX P w K mg base ["e","some","words"] "_law_kinds" (aX (top 75)) f bF A outer s H ea D t hd).pn:=Zo;have qt:Qt (OX P w K mg base ["e","some","words"] "_law_kinds" (aX (top 75)) f bF A outer s H ea D t hd):=.inr ⟨ea,D,t,hd,hr.hd,hp⟩;r%⟨_,d9 (lI (i:=1) jB.nd rfl (Or.inr rfl) (gI (aR (Bo R.ek hp (pv 0) rfl N.isinstance rfl C.KA nU) (aR (Bo R.ek hp (pv 0) rfl N.isinstance rfl C.KC nU) (aR (Bo R.ek hp (pv 0) rfl N.isinstance rfl C.Kz nU) (aR (Bo R.ek hp (pv 0) rfl N.isinstance rfl C.Ky nU) bK))))))
   (d9 (lI (i:=1) jB.nd rfl (Or.inr rfl) (cT sk (pv 1) (gI (aR (Bo R.ek hp (pv 0) rfl N.isinstance rfl C.Kx nU) (aR (Bo R.ek hp (pv 0) rfl N.isinstance rfl C.zQ nU) (aR (Bo R.ek hp (pv 0) rfl N.isinstance rfl C.BL nU) (aR (Bo R.ek hp (pv 0) rfl N.isinstance rfl C.Kv nU) bK)))))))
   (d9 (lI (i:=1) jB.nd rfl (Or.inr rfl) (cT sk (pv 1) (gI (aR (Bo R.ek hp (pv 0) rfl N.isinstance rfl C.Ku nU) (aR (Bo R.ek hp (pv 0) rfl N.isinstance rfl C.Kw nU) (aR (Bo R.ek hp (pv 0) rfl N.isinstance rfl C.Kt nU) (aR (G1 R.ek hp (pv 0) rfl N.isinstance rfl N.xf xM nU) bK)))))))
   (d9 (lI (i:=2) jB.nd rfl (Or.inr rfl) (C6 3 _ (.list ((cv.take 8).map PyData.str)) (by kernel_rfl)))
   (d9 (lI (i:=2) jB.nd rfl (Or.inr rfl) (cT sk (pv 2) (C6 3 _ (.list ((cv.drop 8).map PyData.str)) (by kernel_rfl))))
   (de (eY (CF PySem.F.plainAttrs_str PySem.F.slot_str_join PySem.F.type_str_join (Hq K) sh (aR (D6 (own:=["k"]) (cap:=["some","words"]) (ix:=[1,2]) (aA.of (aX (top 75)).names ["e","some","words"]) qt (xo rfl N.range (aR bE bK))
    (fun C fp s H=>⟨bG (i:=0) (show List.Nodup (["k","some","words"]:List Str) by decide+kernel) rfl l%,gh (t8 (cZ mW (pv 1) (pv 0) (fun _ _=>rfl))),cZ mW (pv 2) (pv 0) (fun _ _=>rfl)⟩)) bK)))))))),?_⟩
  have H0:∃(L1 L2 L3:List V),L1=[.bl (decide (ci=0)),.bl (decide (ci=1)),.bl (decide (ci=2)),.bl (decide (ci=3))]/\L2=[.bl (decide (ci=4)),.bl (decide (ci=5)),.bl (decide (ci=6)),.bl (decide (ci=7))]/\L3=[.bl (decide (ci=8)),.bl (decide (ci=9)),.bl (decide (ci=10)),.bl true]/\L1++L2++L3=(gf ci).map V.bl:=⟨_,_,_,rfl,rfl,rfl,rfl⟩;o%⟨L1,L2,L3,Vw,Vv,eL3,eL⟩:=H0;r%⟨_,rfl,rfl,_,R.kDe,_,rfl,rfl,_,R.kBu,_,rfl,rfl,_,R.kDl,_,rfl,rfl,_,R.kGo,by show 4<=sizeLine;decide,fun p1 h1=>?_⟩;rw[<- Vw];r%⟨_,rfl,_,rfl,rfl,_,R.kMk,_,rfl,rfl,_,R.kNn,_,rfl,rfl,_,R.kPr,_,rfl,rfl,_,R.kRo,by show 4<=sizeLine;decide,fun p2 h2=>?_⟩;rw[<- Vv];have vN:=(ak.refl (aK H p1 (.lst L1))).new (o:=.lst L2) h2;r%⟨p1,p2,_,_,rfl,rfl,vN _ _ cQ,cQ,by rw[Vw,Vv,sz];show 4+4<=16777216;decide,fun p3 h3=>?_⟩;have s3:ak H (aK (aK (aK H p1 (.lst L1)) p2 (.lst L2)) p3 (.lst (L1++L2))):=(((ak.refl H).new h1).new h2).new h3;have e3:(aK (aK (aK H p1 (.lst L1)) p2 (.lst L2)) p3 (.lst (L1++L2))) p3=some (.lst (L1++L2)):=cQ;generalize aK (aK (aK H p1 (.lst L1)) p2 (.lst L2)) p3 (.lst (L1++L2))=H3 at s3 e3;r%⟨_,rfl,_,rfl,rfl,_,R.kTx,_,rfl,rfl,_,R.kNo,_,rfl,rfl,_,R.kUn,_,rfl,rfl,_,R.kVa,by show 4<=sizeLine;decide,fun p4 h4=>?_⟩;rw[<- eL3];r%⟨p3,p4,_,_,rfl,rfl,((ak.refl H3).new h4) _ _ e3,cQ,by rw[Vw,Vv,eL3,sz];show 8+4<=16777216;decide,fun p5 h5=>?_⟩;rw[eL];have s5:ak H (aK (aK H3 p4 (.lst L3)) p5 (.lst ((gf ci).map V.bl))):=(s3.new h4).new h5;have e5:(aK (aK H3 p4 (.lst L3)) p5 (.lst ((gf ci).map V.bl))) p5=some (.lst ((gf ci).map V.bl)):=cQ;generalize aK (aK H3 p4 (.lst L3)) p5 (.lst ((gf ci).map V.bl))=H5 at s5 e5;have XH:H5 p5≠none:=by rw[e5];simp
  intro v6 H6 s6 t6 _;have t6':=t6 p5 XH;cases t6' with
  |@lst q6 xs6 _ n6 e6 l6 =>
  r%⟨_,rfl,?_⟩;intro v7 H7 s7 t7 _;cases t7 p5 (sR s6 XH) with
  |@lst q7 xs7 _ n7 e7 l7 =>
  have z6:=wA l6;have z7:=wA l7;subst z6 z7;r%⟨q6,q7,_,_,rfl,rfl,s7 _ _ e6,e7,?_,fun p8 h8=>?_⟩
  .rw[Zb,Zb,sz];decide
  have e8:(aK H7 p8 (.lst ((cv.take 8).map V.str++(cv.drop 8).map V.str))) p8=some (.lst (cv.map V.str)):=by
   rw[cQ,<- Zs,List.take_append_drop]
  have s8:ak H5 (aK H7 p8 (.lst ((cv.take 8).map V.str++(cv.drop 8).map V.str))):=(s6.trans s7).new h8;generalize aK H7 p8 (.lst ((cv.take 8).map V.str++(cv.drop 8).map V.str))=H8 at e8 s8;have e58:=s8 _ _ e5;r%⟨rfl,12,rfl,by decide,by decide,fun acc bt=>?_⟩;r%kr (fun i ys H'=>ak H8 H'/\ys=(oz ci i).map V.str) ⟨(ak.refl H8).acc bt,rfl⟩ ?_ ?_
  .rintro i ys H' hi hy ⟨st,rfl⟩;have xX:i<12:=hi;have ef:((gf ci).map V.bl)[i]?=some (V.bl ((gf ci).getD i false)):=by
    rw[Zg];have hl:i<(gf ci).length:=xX;rw[Zc hl];simp[List.getD,Zc hl]
   have ew:(cv.map V.str)[i]?=some (V.str (cv.getD i "")):=by
    rw[Zg];have hl:i<cv.length:=xX;rw[Zc hl];simp[List.getD,Zc hl]
   have af:=fj ef;have aw:=fj ew;have e0:(0+(i:Int))=((i:Nat):Int):=by omega
   rw[<- e0] at af aw;r%⟨_,rfl,_,rfl,p5,_,_,_,rfl,rfl,bz.of (st _ _ e58),af,_,rfl,?_⟩;cases hf:(gf ci).getD i false with
   |true =>
    r%aU ⟨_,rfl,_,rfl,p8,_,_,_,rfl,rfl,bz.of (st _ _ e8),aw,_,hy,?_,Cn.of cQ ⟨st.acc bt,?_⟩⟩
    .rw[Zb,sz];have:=Ah ci i;omega
    .rw[pJ,hf,Zs];rfl
   |false =>
    r%bB (Cn.of hy ⟨st,?_⟩);rw[pJ,hf];simp
  .rintro ys H' hy ⟨st,rfl⟩;o%⟨te,tb⟩:=Ai ⟨ci,ZP⟩;dsimp only at te tb;rw[show(12:Int).toNat=12 from rfl,te] at hy;e%⟨"",acc,[cv.getD ci "","+"],rfl,rfl,bz.of hy,tb,by decide,by show 2<=1000;decide,k _ (s5.trans (s8.trans st))⟩
end
end jQ
namespace MI
open PySem L2 KG EX KM
n%IQ (F:FM)(i j l:Nat)(nm:Addr->Str->Prop)(Ms:MA):MS:=fun D sl O=>Ms sl O fun xs O1=>F O1 xs (fun x O2=>D.nx (sl.set i (some x)) O2) (fun c O2=>∃s,nm c s/\D.nx (((sl.set j none).set l (some (.im (.str s)))).set j none) O2)
n%Kd (K:PySem.W.Frag)(M De Bu Dl Go Mk Nn Pr Ro Tx No Un c:Addr)(s:Str):Prop:=∃i,i<11/\yx K M De Bu Dl Go Mk Nn Pr Ro Tx No Un c i/\s=uA i
t%Ew:∀i:Fin 11,(PyData.str (uA i.1)).canLay0=true:=by decide+kernel
t%Hs {X:Cx}{K:PySem.W.Frag}{QX:Addr->aN->Prop}{E:XK}{k kk:Nat}{f fK M De Bu Dl Go Mk Nn Pr Ro Tx No Un:Addr}{fd OW:FuncData}{ps N7:List Str}{sp:Sp}{F:FM}{x n y fn kf Cl:Str}{i j l:Nat}{e:Expr}{es:List Expr}{Ms:MA}{px fp bW fE np py kp Bl ul wb ee pos:Pos}
  (F':aM X.prog X.w X.K X.mg X.base (kD X.prog X.w) k f fd ps sp) (lk:tW K sp F) (hr:cR k X.A) (JH:Gl X fn) (JE:X.mg fn=some (.ref f)) (JG:PySem.W.keepIn X.K (.ref f)=true) (JN:Binds X.K fd ps [])
  (G:NR X.prog X.w X.K X.mg X.base kk fK OW N7 (nu X.K M De Bu Dl Go Mk Nn Pr Ro Tx No Un)) (tV:cR kk X.A) (UR:Gl X kf) (UH:X.mg kf=some (.ref fK)) (OA:PySem.W.keepIn X.K (.ref fK)=true) (R0:Binds X.K OW N7 [])
  (JI:Gl X Cl) (JF:X.mg Cl=some (.ref M)) (Fm:PySem.W.typeIn X.K (.ref M)=some (.type "type")) (bM:PySem.W.mroIn X.K M (.type "BaseException")=some true)
  (lO:X.stack=X.env::X.outer) (ng:X.env.frame=some X.env.locals) (hN:X.N.Nodup) (hi:X.N[i]?=some x) (hj:X.N[j]?=some n) (hl:X.N[l]?=some y)
  (kx:X.env.scope.names.lookup x=some .local) (kn:X.env.scope.names.lookup n=some .local) (ky:X.env.scope.names.lookup y=some .local)
  (ha:∀E',PA (X.wish E') (e::es) (pV K QX E Ms))
  (JB:x%(swapsWith (.Call (.Name fn fp) (e::es) [] bW) (some (.Name x px)) fE.line X.env=pure false))
  (tU:x%(swapsWith (.Call (.Name kf kp) [.Name n Bl] [] ul) (some (.Name y py)) wb.line X.env=pure false))
  (d1:y%((fn == ("__debug__" : Str))=false)) (d2:y%((kf == ("__debug__" : Str))=false)) (d3:y%((Cl == ("__debug__" : Str))=false)) (d4:y%((n == ("__debug__" : Str))=false)) (d5:y%((n == ("__classdict__" : Str))=false))
  (he:x%(starEach (e::es) X.env=(false,eval e X.env)::starEach es X.env)) (gk:x%((backTo bW (starEach es X.env)).any (·.1)=false))
  (NN:x%(starEach [.Name n Bl] X.env=[(false,eval (.Name n Bl) X.env)])) :
  PS X (.Try [.Assign [.Name x px] (.Call (.Name fn fp) (e::es) [] bW) fE] [.ExceptHandler (some (.Name Cl np)) (some n) [.Assign [.Name y py] (.Call (.Name kf kp) [.Name n Bl] [] ul) wb] ee] [] [] pos) (kA K QX E (IQ F i j l (Kd X.K M De Bu Dl Go Mk Nn Pr Ro Tx No Un) Ms)) :=
 PS.imp (xl F' hr JH JE JG JN G tV UR UH OA R0 JI JF Fm bM lO ng hN hi hj hl kx kn ky ha JB tU d1 d2 d3 d4 d5 he gk NN) fun D σ H ⟨w,O,sl,D0,c,m,hn,hb,hc,Qb⟩=>⟨w,O,sl,_,c,m,fun xs O1 vs w1 H1 h1 e1 r1 a1 =>
  lk w1 O1 H1 vs xs _ _ _ _ r1 a1 h1 (fun z x' O3 w3 H3 h3 e3 r3 a3=>hn _ O3 w3 H3 _ h3 ((c.ex (e1.trans e3).ex r3).put a3 i) (e1.trans e3)) fun c' O3 w3 H3 h3 e3 r3=>by
   o%⟨r4,e4⟩:=r9 e3 r3;o%⟨s,⟨q,hq,er,rfl⟩,h3⟩:=h3;r%⟨c',rfl,er.sub,fun ea hea=>⟨q,hq,er,rfl,fun H5 s5=>?_⟩⟩;o%⟨r5,e5,_⟩:=r4.az s5;have e15:=(e1.trans e4).trans e5;have c5:=c.ex e15.ex r5;e%hn _ O3 _ H5 _ h3 ⟨c5.ro,((c5.so.forget j).set (x:=.im (.str (uA q))) (cB.str _ (Ew ⟨q,hq⟩)) l).forget j,c5.zx⟩ e15⟩
mutual
theorem vh:∀d:PyData,tP d=true->PyData.eqv d d=true
 |.none,_=>by simp[PyData.eqv]
 |.bool b,_=>by simp[PyData.eqv]
 |.int i,_=>by simp[PyData.eqv]
 |.str x,_=>by simp[PyData.eqv]
 |.list ds,h=>by cases h
 |.dict ds,h=>by cases h
 |.tuple ds,h=>by
  rw[PyData.eqv];e%rd ds h
theorem rd:∀ds:List PyData,mU ds=true->PyData.eqvAll ds ds=true
 |[],_=>by simp[PyData.eqvAll]
 |d::ds,h=>by
  have h':=(Zl _ _).mp h;rw[PyData.eqvAll,vh d h'.1,rd ds h'.2];rfl
end
t%Ni (A:List Int)(Pu:List Rat)(W:List (List Int)):(io A Pu W).depth<=4:=by
 unfold io;have h1:=Nh Pu;have h2:=HM W;have h3:(PyData.tuple (A.map .int)).depth<=1:=zh A;simp only[PyData.depth,PyData.depthAll] at h1 h2 h3 ⊢;omega
n%BZ:FM:=fun O xs P _=>∃(n g:Nat) (B W:List (List Int)) (p:PyData),xs=[.im (iP B W),.im p]/\BW n g B W/\(∀j,j<g->has W j=true)/\bv p=true/\(∃N,N<=1000000/\ln N p=true)/\∀O',cW O O'->P (.im (.bool true)) O'
m%NMr:List Str:=["barter","prices","kind","found","e"]
n%P0 (Pr:Addr)(nm:Addr->Str->Prop):MS:=(aC (aY (mC (.str "")) (aW 2))
 (aC (aY (mC .none) (aW 3))
 (aC (IQ (oK Pr) 3 4 2 nm (ae (ag 0) (ae (ag 1) ah)))
 (aC (dX (iO (bH (ay wu cm (ae (ag 0) (ae (ag 1) ah))))) (bT (aG (j2 false) (iu (ae (ag 2) (ae (ag 3) ah))) (iu (ae (mC (.str "NoPrices+")) (ae (mC .none) ah))))) cf)
 (bT (aG (j2 false) (iu (ae (ag 2) (ae (ag 3) ah))) (iu (ae (mC (.str "")) (ae (ay oJ cm (ae (ag 0) (ae (ag 1) ah))) ah)))))))))
t%LK (Pr:Addr)(nm:Addr->Str->Prop)(UE:nm Pr "NoPrices+"):∀O xs Pq QX,BZ O xs Pq QX->P0 Pr nm { nx:=fun _ O'=>Pq (.im .none) O',rt:=Pq } (bf NMr xs) O:=by
 intro O xs Pq QX h;o%⟨n,g,B,W,p,rfl,bw,hh,sp,⟨N,hN,lp⟩,h⟩:=h;have FF:(B.getD 0 []).length=g:=bw.br 0 bw.n1;have Bc:∀ds,p=.tuple ds->ds.length<=1000000:=fun ds e=>by subst e;have:=(kG.mp lp).1;omega
 r%⟨⟨⟨n,g,B,W,p,rfl,bw,hh,sp,⟨N,hN,lp⟩,fun hp=>⟨"NoPrices+",UE,?_⟩,fun qs e hq xV=>?_⟩⟩⟩
 .show Go _ _ [some (.im (iP B W)),some (.im p),some (.im (.str "NoPrices+")),some (.im .none),none] O;r%⟨B,W,p,rfl,by rw[bw.bl];e%bw.n1,sp,Bc,?_⟩;rw[FF,hp];r%⟨fun _=>⟨dY,dY,by show min _ 1<=60;omega,?_⟩,fun z=>(by cases z)⟩;have e:qb (.list [.str "NoPrices+",.none]) (.list [.str "NoPrices+",.none])=true:=by rw[jj];simp[PyData.eqv,PyData.eqvAll]
  show Pq (.im (.bool (qb (.list [.str "NoPrices+",.none]) (.list [.str "NoPrices+",.none])))) O;rw[e];e%h O (cW.refl O)
 .subst e;have hp:eM g (.tuple (qs.map qD))=true:=(by rw[<- hq];e%nA xV);have nc:=lg sp;show Go _ _ [some (.im (iP B W)),some (.im (.tuple (qs.map qD))),some (.im (.str "")),some (.im (io ((List.range g).map (cu B)) (B.map fun r=>iV qs r g) W)),none] O;r%⟨B,W,_,rfl,by rw[bw.bl];e%bw.n1,sp,Bc,?_⟩;rw[FF,hp];r%⟨fun z=>(by cases z),fun _=>⟨dY,n,g,B,W,qs,rfl,hq,bw.g6,bw.bl,bw.n6,bw.br,fun i j hi hj=>⟨(bw.b0 i j hi hj).1,by have:=(bw.b0 i j hi hj).2;omega⟩,fun z hz=>(nc z hz).mono d%,fun O1 hG=>⟨dY,?_,?_⟩⟩⟩
  .have hd:=Ni ((List.range g).map (cu B)) (B.map fun r=>iV qs r g) W;r%Ye (Nat.min_le_left _ _) ?_;rw[PyData.depth,PyData.depthAll,PyData.depthAll,PyData.depthAll,PyData.depth];omega
  .have e:∀m,tP m=true->qb (.list [.str "",m]) (.list [.str "",m])=true:=fun m hm=>by rw[jj,PyData.eqv,PyData.eqvAll,PyData.eqvAll,PyData.eqvAll,vh m hm];simp[PyData.eqv]
   show Pq (.im (.bool (qb (.list [.str "",_]) (.list [.str "",_])))) O1;rw[e _ (ML _ _ _)];e%h O1 hG
end MI
namespace jQ
open PySem L2 KG EX KM MI
section
variable {P:Program}{w:World}{K:PySem.W.Frag}{mg:Str->Option Value}{base:Heap}
t%FP:ap NMr ["barter","prices"] (aX (top 81)):=L2.dj
t%Mq {f fM fK fA fF M De Bu Dl Go Mk Nn Pr Ro Tx No Un:Addr}{fd dM dK dA dF:FuncData}(F:cE K "_law_market_right" "_law_market_right" (top 81) f fd)(N:Nm mg)(R:V1 K mg M De Bu Dl Go Mk Nn Pr Ro Tx No Un)(EP:yx K M De Bu Dl Go Mk Nn Pr Ro Tx No Un Pr 6)(Ma:mY K mg P w base "market_at" 6 ["barter","prices"] (cj K (oK Pr)) fM dM)(Ki:QB K mg P w base "_law_kinds" 1 ["e"] (nu K M De Bu Dl Go Mk Nn Pr Ro Tx No Un) fK dK)(Ap:cC K mg P w base "_law_are_prices" 3 ["barter","thing"] (cj K wu) fA dA)(Mf:cC K mg P w base "_law_market_of" 4 ["barter","prices"] (cj K oJ) fF dF):aM P w K mg base cP 7 f fd ["barter","prices"] (cj K BZ) :=
 m8 F FP (fun O xs P PX h=>by o%⟨_,_,_,_,_,rfl,_⟩:=h;rfl) (fun bF A outer s H E QX hr=>⟨P0 Pr (Kd K M De Bu Dl Go Mk Nn Pr Ro Tx No Un),(bS (gn (i:=2) FP.nd rfl l% oW)
 (bS (gn (i:=3) FP.nd rfl l% oX)
 (bS (Hs (i:=3) (j:=4) (l:=2) Ma.ok iS (hr.mono d%) rfl Ma.mg Ma.kp Ma.bd Ki.ok (hr.mono d%) rfl Ki.mg Ki.kp Ki.bd rfl R.Ub R.Fm R.bM rfl rfl FP.nd rfl rfl rfl rfl rfl rfl (fun E'=>(au (ai (pv 0)) (au (ai (pv 1)) aB))))
 (bS (lL (tZ (tR (cA Ap.ok iS (hr.mono d%) rfl Ap.mg Ap.kp Ap.bd (au (ai (pv 0)) (au (ai (pv 1)) aB))))) (cS (fo (eU (gr hr.units) gw (rG (au (ai (pv 2)) (au (ai (pv 3)) aB))) (rG (au oW (au oX aB))) (ax _)))) lM)
 (cS (fo (eU (gr hr.units) gw (rG (au (ai (pv 2)) (au (ai (pv 3)) aB))) (rG (au oW (au (cA Mf.ok iS (hr.mono d%) rfl Mf.mg Mf.kp Mf.bd (au (ai (pv 0)) (au (ai (pv 1)) aB))) aB))) (ax _)))))))),fun O xs Pq h=>LK Pr _ ⟨6,by decide,EP,vD.symm⟩ O xs Pq QX h⟩)
end
end jQ
namespace MI
open PySem L2 KG EX KM
n%uo:FM:=fun O xs P _=>(∃j,xs=[.bag j])/\∀d∈lU,P (.im d) O
n%wt (m:Nat):FM:=fun O xs P _=>∃(j deep n:Nat) (d:PyData),xs=[.bag j,.im d,.im (.int deep)]/\deep<m/\bv d=true/\ln n d=true/\3<=n/\n<=50/\∀d',bv d'=true->ln (n+1) d'=true->P (.im d') O
n%PY:MS:=(aC (aY (mC (.list (lU.take 18))) (aW 1))
 (bT (aG bL (aG fe (ag 1) (mC (.list (lU.drop 18)))) (ay cG cm (ae (ag 0) (ae (mC (.int 24)) ah))))))
t%LJ:∀O xs Pq QX,uo O xs Pq QX->PY { nx:=fun _ O'=>Pq (.im .none) O',rt:=Pq } (bf ["bag","some"] xs) O:=by
 intro O xs Pq QX h;o%⟨⟨j,rfl⟩,h⟩:=h;have hl:(lU.take 18++lU.drop 18).length=24:=by decide
 r%⟨by decide,⟨by decide,by decide⟩,fun r r0 r1=>?_⟩;obtain⟨r,rfl⟩:∃a':Nat,r=(a':Int):=⟨r.toNat,by omega⟩;r%⟨_,aI (Zc g%),h _ ?_⟩;have:∀x,x∈lU.take 18++lU.drop 18->x∈lU:=fun x hx=>by rwa [List.take_append_drop] at hx
 e%this _ (Zv _)
n%PU (m:Nat):MS:=(aC (dX (kE (bH (aG (j2 false) (ag 2) (mC (.int 0)))) (kE (iO (bH (n9 p6 (ag 1)))) (kE (bH (aG (j2 false) (ag 1) (fw ah))) (bH (aG (j2 false) (ay cG cm (ae (ag 0) (ae (mC (.int 5)) ah))) (mC (.int 0))))))) (bT (ay uo cm (ae (ag 0) ah))) cf)
 (aC (aY (ay cG cm (ae (ag 0) (ae (cL cV (ae (ag 1) ah)) ah))) (aW 3))
 (aC (aY (ay cG cm (ae (ag 0) (ae (mC (.int 9)) ah))) (aW 4))
 (aC (dX (bH (aG (j2 false) (ag 4) (mC (.int 0)))) (bT (aG fe (Bm (ag 1) n8 (nZ (ag 3))) (Bm (ag 1) (nZ (aG fe (ag 3) (mC (.int 1)))) n8))) cf)
 (aC (dX (bH (aG (j2 false) (ag 4) (mC (.int 1)))) (bT (aG fe (aG fe (Bm (ag 1) n8 (nZ (ag 3))) (fw (ae (aG bL (ag 1) (ag 3)) ah))) (Bm (ag 1) (nZ (ag 3)) n8))) cf)
 (aC (dX (bH (aG (j2 false) (ag 4) (mC (.int 2)))) (bT (cL KP (ae (ag 1) ah))) cf)
 (bT (aG fe (aG fe (Bm (ag 1) n8 (nZ (ag 3))) (fw (ae (ay (wt m) cm (ae (ag 0) (ae (aG bL (ag 1) (ag 3)) (ae (aG zO (ag 2) (mC (.int 1))) ah)))) ah))) (Bm (ag 1) (nZ (aG fe (ag 3) (mC (.int 1)))) n8)))))))))
t%LG (m:Nat):∀O xs Pq QX,wt (m+1) O xs Pq QX->PU m { nx:=fun _ O'=>Pq (.im .none) O',rt:=Pq } (bf ["bag","thing","deep","at","way"] xs) O:=by
 intro O xs Pq QX h;o%⟨j,deep,n,d,rfl,RY,Bs,Bc,h3,h50,h⟩:=h;have Gh:∀d∈lU,Pq (.im d) O:=fun d hd=>by
  o%⟨_,o2,o3⟩:=kS d hd;e%h d o2 (sV g% o3)
 have hT:∀ds:List PyData,ds.length<=n+1->(∀x∈ds,bv x=true/\ln (n+1) x=true)->Pq (.im (.tuple ds)) O:=fun ds h1 h2=>h _ (gx fun d hd=>(h2 d hd).1) (kG.mpr ⟨h1,fun d hd=>(h2 d hd).2⟩)
 r%⟨dI,⟨fun _=>?_,fun ZN=>⟨fun _=>?_,fun NJ=>?_⟩⟩⟩
 .exact⟨fun _=>⟨⟨_,rfl⟩,Gh⟩,fun z=>by cases z⟩
 .exact⟨fun _=>⟨⟨_,rfl⟩,Gh⟩,fun z=>by cases z⟩
 have NJ:p6 d=true:=by cases h:p6 d with
  |true=>rfl
  |false=>rw[h] at NJ;cases NJ
 have ZN:deep≠0:=fun z=>by subst z;e%absurd ZN d%
 obtain⟨ds,rfl⟩:∃ds,d=.tuple ds:=by cases d<;>first |e%⟨_,rfl⟩ |cases NJ
 o%⟨ln1,XM⟩:=kG.mp Bc;have smd:=gg Bs;have j6:∀x∈ds,bv x=true/\ln (n+1) x=true:=fun x hx=>⟨smd x hx,sV g% (XM x hx)⟩
 r%⟨by decide,by show min _ 1<=60;omega,⟨fun _=>?_,fun OH=>?_⟩⟩
 .exact⟨fun _=>⟨⟨_,rfl⟩,Gh⟩,fun z=>by cases z⟩
 have ee:0<ds.length:=by
  cases ds with
  |nil=>e%absurd (OH:qb (.tuple []) (.tuple [])=false) d%
  |cons _ _=>simp
 r%⟨⟨by decide,by decide⟩,fun r1 _ _=>⟨dI,⟨fun _=>⟨⟨_,rfl⟩,Gh⟩,fun _=>?_⟩⟩⟩;r%⟨⟨by omega,by omega⟩,fun r r0 rl=>⟨⟨⟨by decide,by decide⟩,fun wy _ _=>?_⟩⟩⟩;have zA:=zo (xs:=ds) r0 rl;have ng:=jN (xs:=ds) (r:=r+1) g% g%;have Qj:=jN (xs:=ds) r0 g%;have er1:(r+1).toNat=r.toNat+1:=by omega
 rw[er1] at ng;have cN:r.toNat<ds.length:=by omega
 have zE:iT ds r=some ds[r.toNat]:=by
  have:=aI (Zc cN)
  rwa [Int.toNat_of_nonneg r0] at this
 have ZA:=j6 _ (Zv cN);show Go _ _ [some (.bag j),some (.im (.tuple ds)),some (.im (.int deep)),some (.im (.int r)),some (.im (.int wy))] O;r%⟨dI,⟨fun _=>?_,fun _=>⟨dI,⟨fun _=>?_,fun _=>⟨dI,⟨fun _=>?_,fun _=>?_⟩⟩⟩⟩⟩⟩
 .refine⟨by rw[zA,ng,Yk,List.length_drop,sz];omega,?_⟩;rw[zA,ng];e%hT _ (by rw[Zn,Yk,List.length_drop];omega) fun x hx=>by
   rcases Zp.mp hx with z |z
   .exact j6 x (List.mem_of_mem_take z)
   .exact j6 x (List.mem_of_mem_drop z)
 .refine⟨_,zE,BO,by rw[zA,Yk,sz];simp;omega,?_⟩;r%⟨by rw[zA,Qj,Zn,Yk,List.length_drop,sz];simp;omega,?_⟩;rw[zA,Qj];e%hT _ (by rw[Zn,Zn,Yk,List.length_drop];simp;omega) fun x hx=>by
   rcases Zp.mp hx with z |z
   .rcases Zp.mp z with z |z
    .exact j6 x (List.mem_of_mem_take z)
    .rw[Yi.mp z];e%ZA
   .exact j6 x (List.mem_of_mem_drop z)
 .exact h _ (Gz fun d hd=>(j6 d hd).1) (WH.mpr ⟨by omega,fun d hd=>(j6 d hd).2⟩)
 .refine⟨_,zE,j,deep-1,n,ds[r.toNat],?_,by omega,ZA.1,XM _ (Zv cN),h3,h50,fun d' s' l'=>?_⟩
  .show[AV.bag j,AV.im ds[r.toNat],AV.im (.int ((deep:Int)-1))]=_;rw[show((deep:Int)-1)=((deep-1:Nat):Int) by omega]
  r%⟨BO,by rw[zA,Yk,sz];simp;omega,?_⟩;r%⟨by rw[zA,ng,Zn,Yk,List.length_drop,sz];simp;omega,?_⟩;rw[zA,ng];e%hT _ (by rw[Zn,Zn,Yk,List.length_drop];simp;omega) fun x hx=>by
   rcases Zp.mp hx with z |z
   .rcases Zp.mp z with z |z
    .exact j6 x (List.mem_of_mem_take z)
    .rw[Yi.mp z];e%⟨s',l'⟩
   .exact j6 x (List.mem_of_mem_drop z)
end MI
namespace jQ
open PySem L2 KG EX KM MI
section
variable {P:Program}{w:World}{K:PySem.W.Frag}{mg:Str->Option Value}{base:Heap}
t%G7 {f fT:Addr}{fd dT:FuncData}(F:cE K "_law_odd" "_law_odd" (top 73) f fd)(T:cC K mg P w base "_law_take" 1 ["bag","many"] jd fT dT):aM P w K mg base cP 2 f fd ["bag"] (cj K uo):=by
 e%m8 F Ix (fun O xs P PX h=>by o%⟨⟨j,rfl⟩,_⟩:=h;rfl) (fun bF A outer s H E QX hr=>⟨PY,(bS (gn (i:=1) Ix.nd rfl l% (Df 5 _ (.list (lU.take 18)) (by kernel_rfl)))
 (cS (fo (bQ (pY (ai (pv 1)) (Df 5 _ (.list (lU.drop 18)) (by kernel_rfl))) (cA T.ok qd (hr.mono d%) rfl T.mg T.kp T.bd (au (ai (pv 0)) (au bJ aB))))))),fun O xs Pq h=>LJ O xs Pq QX h⟩)
t%yM {f fT fO:Addr}{fd dT dO:FuncData}(F:cE K "_law_replaced" "_law_replaced" (top 74) f fd)(N:Nm mg)(Z:rM K)(T:cC K mg P w base "_law_take" 1 ["bag","many"] jd fT dT)(Od:cC K mg P w base "_law_odd" 2 ["bag"] (cj K uo) fO dO)
  (Ig:mg "_law_replaced"=some (.ref f)) (ZD:PySem.W.keepIn K (.ref f)=true) (R1:Binds K fd ["bag","thing","deep"] []):∀m:Nat,aM P w K mg base cP (m+2) f fd ["bag","thing","deep"] (cj K (wt m))
 |0=>⟨fun vs H Q E h=>(by o%⟨w,O,xs,P,PX,r,a,⟨j,deep,n,d,_,h,_⟩,_⟩:=h;omega),fun A outer s H args us vs Q E hr he hb hv h=>(by o%⟨w,O,xs,P,PX,r,a,⟨j,deep,n,d,_,h,_⟩,_⟩:=h;omega)⟩
 |m+1=>by
  have Rc:=yM F N Z T Od Ig ZD R1 m;e%m8 F Ck (fun O xs P PX h=>by o%⟨j,deep,n,d,rfl,_⟩:=h;rfl) (fun bF A outer s H E QX hr=>⟨PU m,(bS (lL (PW.pt (gX (j0 (gr hr.units) gw (ai (pv 2)) bJ (ax _)) (gX (tZ (tR (Jw Z (ai (pv 1)) rfl N.isinstance rfl N.tuple))) (gX (j0 (gr hr.units) gw (ai (pv 1)) (nR aB) (ax _)) (gc (j0 (gr hr.units) gw (cA T.ok qd (hr.mono g%) rfl T.mg T.kp T.bd (au (ai (pv 0)) (au bJ aB))) bJ (ax _))))))) (cS (fo (cA Od.ok iS (hr.mono g%) rfl Od.mg Od.kp Od.bd (au (ai (pv 0)) aB)))) lM)
 (bS (gn (i:=3) Ck.nd rfl l% (cA T.ok qd (hr.mono g%) rfl T.mg T.kp T.bd (au (ai (pv 0)) (au (ft aV kw f% N.len PySem.boot_len (au (ai (pv 1)) aB)) aB))))
 (bS (gn (i:=4) Ck.nd rfl l% (cA T.ok qd (hr.mono g%) rfl T.mg T.kp T.bd (au (ai (pv 0)) (au bJ aB))))
 (bS (lL (j0 (gr hr.units) gw (ai (pv 4)) bJ (ax _)) (cS (fo (pY (E7 (ai (pv 1)) E3 (E4 (ai (pv 3)))) (E7 (ai (pv 1)) (E4 (pY (ai (pv 3)) bJ)) E3)))) lM)
 (bS (lL (j0 (gr hr.units) gw (ai (pv 4)) bJ (ax _)) (cS (fo (pY (pY (E7 (ai (pv 1)) E3 (E4 (ai (pv 3)))) (nR (au (bQ (ai (pv 1)) (ai (pv 3))) aB))) (E7 (ai (pv 1)) (E4 (ai (pv 3))) E3)))) lM)
 (bS (lL (j0 (gr hr.units) gw (ai (pv 4)) bJ (ax _)) (cS (fo (qz Jq MX f% N.list boot_list (au (ai (pv 1)) aB)))) lM)
 (cS (fo (pY (pY (E7 (ai (pv 1)) E3 (E4 (ai (pv 3)))) (nR (au (cA Rc iS (hr.mono g%) rfl Ig ZD R1 (au (ai (pv 0)) (au (bQ (ai (pv 1)) (ai (pv 3))) (au (mh (ai (pv 2)) bJ) aB)))) aB))) (E7 (ai (pv 1)) (E4 (pY (ai (pv 3)) bJ)) E3)))))))))),fun O xs Pq h=>LG m O xs Pq QX h⟩)
end
end jQ
namespace Cd
open PySem L2 KG EX KM jQ
section
variable {P:Program}{w:World}{K:PySem.W.Frag}{mg:Str->Option Value}{base:Heap}
t%Wv:ap ["brought","wishes"] ["brought","wishes"] (aX (top 56)):=L2.dj
t%Rg {f:Addr}{fd:FuncData}(F:cE K "brings_wished" "brings_wished" (top 56) f fd)(N:Nm mg)(mz:mg "zip"=none):aM P w K mg base cP 1 f fd ["brought","wishes"] sI:=by
 r%F.ok Wv (fun vs H Q E h=>?_) (fun bF A' outer s H vs Q E hr h=>?_)
 .obtain⟨a,c,r,t,rfl,_⟩:=h;rfl
 .obtain⟨a,c,r,t,rfl,ha,hc,hl,h6,k⟩:=h;r%⟨_,de (eY (jP (qM rfl) f% N.any boot_any (aR (ua (own:=["number","wish"]) (cap:=[]) (ix:=[]) (aA.of (aX (top 56)).names ["brought","wishes"]) rfl (yJ rfl mz boot_zip (aR (pv 0) (aR (pv 1) bK)))
   (fun C fp s H=>⟨gF (n:=2) rfl (rH (bG (i:=0) (show List.Nodup (["number","wish"]:List Str) by decide+kernel) rfl l%) (rH (bG (i:=1) (show List.Nodup (["number","wish"]:List Str) by decide+kernel) rfl l%) E6)),xU,
    iy (vY i0 (pv 0) bE (ax _)) (gH (vY i0 (pv 1) bE (ax _)))⟩)) bK))),?_⟩
  r%⟨_,rfl,_,rfl,a,c,rfl,⟨_,aH.of ha⟩,⟨_,aH.of hc⟩,fun acc bt=>?_⟩;r%LV (xs:=r.map V.int) (ys:=t.map V.int) (fun _=>true) (fun j=>V.bl (decide (0<r.getD j 0)&&decide (0<t.getD j 0))) (by rw[Zb,Zb];e%hl) bt (by rw[Zb];omega) ha hc (fun i x y H' Z _ _ _ h=>h H' (ak.refl H')) (fun i x y H' Z hx hy _ st h=>?_) (fun H1 s1 h1=>?_)
  .obtain⟨_,rfl⟩:=ints_get hx;o%⟨_,rfl⟩:=ints_get hy;r%⟨_,rfl,_,_,rfl,rfl,_,rfl,?_⟩;have h':=h H' (ak.refl H');cases hz:decide (0<r.getD i 0) with
   |true =>
    rw[hz] at h';e%aU ⟨_,rfl,_,_,rfl,rfl,by simpa using h'⟩
   |false =>
    rw[hz] at h';e%bB (by simpa using h')
  .rw[Zb,List.filter_eq_self.mpr (fun _ _=>rfl)] at h1;r%⟨acc,_,rfl,.inl (bz.of h1),g9 _ _,?_⟩;rw[xa];e%k H1 s1
m%NOb:List Str:=["barter","hands","brought","wishes"]
t%Kl:ap NOb ["barter","hands"] (aX (top 57)):=L2.dj
t%Q7 {f:Addr}{fd:FuncData}(F:cE K "goods_only_brought" "goods_only_brought" (top 57) f fd)(N:Nm mg):aM P w K mg base cP 1 f fd ["barter","hands"] wE:=by
 r%F.ok Kl (fun vs H Q E h=>?_) (fun bF A' outer s H vs Q E hr h=>?_)
 .obtain⟨p,pB,pW,l,xB,xW,B,W,g,s,rfl,_⟩:=h;rfl
 .obtain⟨p,pB,pW,l,xB,xW,B,W,g,s,rfl,m,hl,h6,hs,k⟩:=h;r%⟨_,d9 (j8 (pv 0) (gF (n:=2) rfl (rH (bG (i:=2) Kl.nd rfl (Or.inr rfl)) (rH (bG (i:=3) Kl.nd rfl (Or.inr rfl)) E6))))
   (de (eY (ua (own:=["good"]) (cap:=["brought","hands","wishes"]) (ix:=[2,1,3]) (aA.of (aX (top 57)).names NOb) rfl (jJ rfl N.range (aR (jP aV f% N.len PySem.boot_len (aR (cZ bI (pv 2) bE (fun _ _=>rfl)) bK)) bK))
    (fun C fp s H=>⟨bG (i:=0) (show List.Nodup (["good","brought","hands","wishes"]:List Str) by decide+kernel) rfl (Or.inr rfl),gh (PW.pt (pw_and (t8 (jP (qM rfl) f% N.any boot_any (aR (ua (own:=["hand"]) (cap:=["brought","good"]) (ix:=[1,0]) (aA.of [(".0",.local),("good",.cell),("any",.globalImplicit),("brought",.cell),("hands",.cell),("wishes",.cell)] ["good","brought","hands","wishes"]) rfl (rS (pv 2)) (fun C fp s H=>⟨bG (i:=0) (show List.Nodup (["hand","brought","good"]:List Str) by decide+kernel) rfl l%,xU,vY i0 (cZ bI (cZ bI (pv 1) (pv 0) (fun _ _=>rfl)) (pv 2) (fun _ _=>rfl)) bE (ax _)⟩)) bK))) (pw_and1 (vW (t8 (jP (qM rfl) f% N.any boot_any (aR (ua (own:=["hand"]) (cap:=["wishes","good"]) (ix:=[3,0]) (aA.of [(".0",.local),("good",.cell),("any",.globalImplicit),("brought",.cell),("hands",.cell),("wishes",.cell)] ["good","brought","hands","wishes"]) rfl (rS (pv 2)) (fun C fp s H=>⟨bG (i:=0) (show List.Nodup (["hand","wishes","good"]:List Str) by decide+kernel) rfl l%,xU,vY i0 (cZ bI (cZ bI (pv 1) (pv 0) (fun _ _=>rfl)) (pv 2) (fun _ _=>rfl)) bE (ax _)⟩)) bK))))))),pv 0⟩)))),?_⟩
  r%⟨_,rfl,p,_,rfl,aH.of m.hp,rfl,_,_,rfl,_,_,rfl,rfl,?_⟩;o%⟨a0,_,JU,JP⟩:=fh m.rB (i:=0) m.n1;have UL:=gy m.lB (i:=0) m.n1;r%⟨_,rfl,pB,_,_,_,rfl,rfl,aH.of m.hB,JU,a0,_,rfl,.inr (aH.of JP),(g:Int),by rw[Zb,UL],by omega,by have:=m.g6;omega,fun acc bt=>?_⟩;rw[Zj];r%DY (fun j=>(s.any fun h=>lS B h j)&&!(s.any fun h=>lS W h j)) (fun j=>V.int ((j:Nat):Int)) bt (by have:=m.g6;omega) (fun j H1 Z hj s1 h=>?_) (fun j H1 Z hj _ s1 h=>⟨_,rfl,h H1 (ak.refl H1)⟩) (fun H1 s1 h1=>k acc H1 s1 h1);have m1:=m.az s1;r%⟨_,rfl,l,rfl,⟨_,aH.of (s1 _ _ hl)⟩,fun a1 R6=>?_⟩;r%PL (fun x=>V.bl (lS B x j)) R6 g% (s1 _ _ hl) (fun x H2 Z hx s2 hZ=>?_) (fun H2 s2 h2=>?_)
  .have m2:=m1.az s2;e%vb m2.hB m2.rB (hs x hx).1 (hs x hx).2 m2.lB hj rfl rfl rfl ⟨_,_,rfl,rfl,hZ H2 (ak.refl H2)⟩
  r%⟨a1,_,rfl,.inl (bz.of h2),g9 _ _,_,rfl,?_⟩;rw[xa];cases hc:s.any fun h=>lS B h j with
  |false =>
   rw[hc] at h;e%bB (h H2 s2)
  |true =>
   rw[hc] at h;have m2:=m1.az s2;have lP:=s2 _ _ (s1 _ _ hl);r%aU ⟨_,rfl,l,rfl,⟨_,aH.of lP⟩,fun a2 R5=>?_⟩;r%PL (fun x=>V.bl (lS W x j)) R5 g% lP (fun x H3 Z hx s3 hZ=>?_) (fun H3 s3 h3=>?_)
   .have m3:=m2.az s3;e%vb m3.hW m3.rW (hs x hx).1 (by rw[m3.len];e%(hs x hx).2) m3.lW hj rfl rfl rfl ⟨_,_,rfl,rfl,hZ H3 (ak.refl H3)⟩
   r%⟨a2,_,rfl,.inl (bz.of h3),g9 _ _,_,rfl,?_⟩;rw[xa];e%h H3 (s2.trans s3)
m%Pd:List Str:=["barter","hand","brought","wishes","found","at","needed"]
t%qg:ap Pd ["barter","hand"] (aX (top 55)):=L2.dj
t%Q6 {f fB:Addr}{fd dB:FuncData}(F:cE K "shut_in_with" "shut_in_with" (top 55) f fd)(N:Nm mg)(mS:mg "sorted"=none)(Bw:cC K mg P w base "brings_wished" 1 ["brought","wishes"] sI fB dB):aM P w K mg base cP 2 f fd ["barter","hand"] kg:=by
 r%F.ok qg (fun vs H Q E h=>?_) (fun bF A' outer s H vs Q E hr h=>?_)
 .obtain⟨p,pB,pW,xB,xW,B,W,g,h,rfl,_⟩:=h;rfl
 .obtain⟨p,pB,pW,xB,xW,B,W,g,h,rfl,m,hh,k⟩:=h;r%⟨_,d9 (j8 (pv 0) (gF (n:=2) rfl (rH (bG (i:=2) qg.nd rfl l%) (rH (bG (i:=3) qg.nd rfl l%) E6))))
   (d9 (lI (i:=4) qg.nd rfl (Or.inr rfl) (gI (aR (pv 1) bK)))
   (d9 (lI (i:=5) qg.nd rfl l% bE)
   (d9 (jq PassesOwn.never (qw kK (pv 5) (jP aV f% N.len PySem.boot_len (aR (pv 4) bK)) (ax _))
    (d9 (lI (i:=6) qg.nd rfl (Or.inr rfl) (cZ bI (pv 3) (cZ mW (pv 4) (pv 5) (fun _ _=>rfl)) (fun _ _=>rfl)))
    (d9 (yI (CF PySem.F.plainAttrs_list PySem.F.slot_list_extend PySem.F.type_list_extend AB (pv 4) (aR (ua (own:=["other","row"]) (cap:=["found","needed"]) (ix:=[4,6]) (aA.of (aX (top 55)).names Pd) rfl (kQ rfl N.enumerate NG (aR (pv 2) bK))
     (fun C fp s H=>⟨gF (n:=2) rfl (rH (bG (i:=0) (show List.Nodup (["other","row","found","needed"]:List Str) by decide+kernel) rfl l%) (rH (bG (i:=1) (show List.Nodup (["other","row","found","needed"]:List Str) by decide+kernel) rfl l%) E6)),
      gh (PW.pt (pw_and (qw C7 (pv 0) (pv 2) (by with_unfolding_all rfl)) (pw_and1 (t8 (j1 Bw.ok hr rfl Bw.mg Bw.kp Bw.bd .nil cz (aR (pv 1) (aR (pv 3) bK))))))),pv 0⟩)) bK)))
    (de (LU (i:=5) qg.nd rfl l% bE Nb)))))
   (de (eY (NE d8 f% N.tuple m9 (aR (jP tN f% mS boot_sorted (aR (pv 4) bK)) bK))))))),?_⟩
  r%⟨_,rfl,p,_,rfl,aH.of m.hp,rfl,_,_,rfl,_,_,rfl,rfl,?_⟩;r%⟨_,rfl,by show 1<=sizeLine;decide,fun pf Y7=>?_⟩;have s0:=(ak.refl H).new (o:=.lst [.int (h:Nat)]) Y7;have e0:(aK H pf (.lst [.int (h:Nat)])) pf=some (.lst (([(h:Int)]:List Int).map V.int)):=cQ;generalize aK H pf (.lst [.int (h:Nat)])=H0 at s0 e0 ⊢;r%jm (fun σ H'=>ak H H'/\∃(Fs:List Int) (at':Nat) (y6:Option V),σ=[some (.ref p),some (.int h),some (.ref pB),some (.ref pW),some (.ref pf),some (.int at'),y6]/\H' pf=some (.lst (Fs.map V.int))/\Fs.Nodup/\(∀x∈Fs,x∈lQ B W g (h:Nat))/\(h:Int)∈Fs/\at'<=Fs.length/\∀i,i<at'->∀o,0<=o->o<(B.length:Int)->gW B W g (Fs.getD i 0) o=true->o∈Fs)
   (fun σ _=>match σ with |[_,_,_,_,_,some (.int a),_]=>6-a.toNat |_=>0) ⟨s0,[(h:Int)],0,_,rfl,e0,by simp,?_,by simp,by simp,fun i hi=>absurd hi g%⟩ ?step ?mono
  .intro x hx;rw[Yi] at hx;subst hx;e%eG.mpr ⟨by omega,fun s hs=>(hJ.mp hs).2.2⟩
  case mono =>
   rintro σ H' Q1 Q2 rY ⟨v,e,u,e2,pp,ys,e3,hq,i,j,e4,e5,c,e6,q⟩;e%⟨v,e,u,e2,pp,ys,e3,hq,i,j,e4,e5,c,e6,rY _ _ q⟩
  case step =>
   rintro σ H1 ⟨s1,Fs,at',y6,rfl,hF,nd,Bz,ZG,zE,Jh⟩;have m1:=m.az s1;have RW:∀x∈Fs,0<=x/\x<(B.length:Int):=fun x hx=>(eG.mp (Bz x hx)).1
   have hF6:=En nd RW;have UF:=m.n6;r%⟨_,rfl,_,rfl,pf,_,rfl,.inl (bz.of hF),_,_,rfl,rfl,_,rfl,?_⟩;rw[Zb];r%Ge (fun cN=>?_) (fun cN=>?_)
   .have Qe:at'<Fs.length:=by simpa using of_decide_eq_true cN
    o%⟨ea,_,_⟩:=pF (ns:=Fs) (r:=(at':Int)) g% g%;rw[Zj] at ea;have Us:=mem_getD Qe;have hx:=RW _ Us;generalize hxe:Fs.getD at' 0=x at ea Us hx;o%⟨a,_,eaw,ha⟩:=fh m1.rW (i:=x.toNat) (by rw[m1.len];omega);rw[show((x.toNat:Nat):Int)=x by omega] at eaw;r%⟨_,rfl,_,rfl,_,rfl,pf,_,_,_,rfl,rfl,bz.of hF,ea,pW,_,_,_,rfl,rfl,aH.of m1.hW,eaw,?_⟩;have hlw:=gy m1.lW (i:=x.toNat) (by rw[m1.len];omega);r%⟨_,rfl,.inl ⟨rfl,_,bz.of hF⟩,_,rfl,pB,rfl,⟨_,aH.of m1.hB⟩,fun a1 R6=>?_⟩;have npf:pf≠a1:=fun z=>by rw[z,R6] at hF;cases hF
    r%GV (xs:=xB) (fun o=>!Fs.contains ((o:Nat):Int)&&gW B W g x (o:Nat)) (fun o=>V.int ((o:Nat):Int)) R6 (by rw[m1.rB.len];omega) m1.hB (fun i y H2 Z hy s2 hZ=>?_) (fun i y H2 Z hy _ s2 hZ=>⟨_,rfl,hZ H2 (ak.refl H2)⟩) (fun H2 s2 h2=>?_)
    .have hi:i<B.length:=by rw[<- m1.rB.len];e%(Zd.mp hy).1
     o%⟨c,ec,_,hc⟩:=fh m1.rB hi;obtain rfl:y=.ref c:=by rw[hy] at ec;simpa using ec
     r%⟨_,rfl,_,rfl,pf,_,rfl,.inl (bz.of (s2 _ _ hF)),rfl,ij Fs,_,rfl,?_⟩;have Vu:(if true=true then !Bq (V.int ((i:Nat):Int)) (Fs.map V.int) else Bq (V.int ((i:Nat):Int)) (Fs.map V.int))=!Fs.contains ((i:Nat):Int):=by rw[if_pos rfl,sZ]
     rw[Vu];cases OM:Fs.contains ((i:Nat):Int) with
     |true=>rw[OM] at hZ;e%bB (hZ H2 (ak.refl H2))
     |false =>
      rw[OM] at hZ;have ZC:=gy m1.lB hi;r%aU ⟨_,rfl,_,rfl,c,a,_,_,rfl,s2 _ _ hc,s2 _ _ ha,by rw[ZC,hlw],by have:=m.g6;omega,fun H3 s3=>⟨_,rfl,?_⟩⟩;rw[ZC];e%hZ H3 s3
    .refine⟨pf,a1,_,_,rfl,rfl,s2 _ _ hF,h2,?_,?_⟩
     .have:=hV (fun o=>!Fs.contains ((o:Nat):Int)&&gW B W g x (o:Nat)) (fun o=>V.int ((o:Nat):Int)) xB.length;have YZ:=m1.rB.len;rw[Zb,sz];omega
     r%⟨_,rfl,_,_,rfl,rfl,?_⟩;o%⟨p1,p2,p3⟩:=DL nd Bz Us;have YZ:=m1.rB.len;r%⟨⟨(s1.trans s2).acc Y7,_,at'+1,_,rfl,?_,p1,p2,Yr _ ZG,by rw[Zn];omega,fun i hi o o0 o1 hn=>?_⟩,?_⟩
     .rw[cQ,Zs,Zi,<- YZ];rfl
     .rcases Zz i at' with z |z
      .have eg:(Fs++(((List.range B.length).filter fun o=>!Fs.contains ((o:Nat):Int)&&gW B W g x (o:Nat)).map fun o:Nat=>(o:Int))).getD i 0=Fs.getD i 0:=by simp only[List.getD];rw[Zr g%]
       rw[eg] at hn;e%Yr _ (Jh i z o o0 o1 hn)
      .obtain rfl:i=at':=by omega
       have eg:(Fs++(((List.range B.length).filter fun o=>!Fs.contains ((o:Nat):Int)&&gW B W g x (o:Nat)).map fun o:Nat=>(o:Int))).getD i 0=Fs.getD i 0:=by simp only[List.getD];rw[Zr g%]
       rw[eg,hxe] at hn;e%p3 o o0 o1 hn
     .show 6-((at':Int)+1).toNat<6-((at':Int)).toNat;omega
   .have UT:Fs.length<=at':=by
     have:¬ ((at':Int)<(Fs.length:Int)):=fun z=>cN (decide_eq_true z)
     omega
    r%⟨_,rfl,pf,Fs,rfl,bz.of hF,by omega,fun Fp l hp hs hl=>?_⟩;r%⟨l,_,rfl,.inl ⟨bz.of cQ,fun l2 lP=>?_⟩⟩;have eS:Fp=lQ B W g (h:Nat):=Nj nd Bz ZG (fun x hx o o0 o1 hn=>by
     o%⟨i,hi,e⟩:=List.getElem_of_mem hx;e%Jh i g% o o0 o1 (by rw[gj (Zc hi),e];e%hn)) hp hs
    rw[eS] at lP ⊢;e%k l2 _ ((s1.new hl).new lP) cQ
m%NBd:List Str:=["barter","hand","hands","goods"]
t%FS:ap NBd ["barter"] (aX (top 54)):=L2.dj
t%Rh {f fS fO:Addr}{fd dS dO:FuncData}(F:cE K "barred" "barred" (top 54) f fd)(N:Nm mg)(Sw:cC K mg P w base "shut_in_with" 2 ["barter","hand"] kg fS dS)(Ob:cC K mg P w base "goods_only_brought" 1 ["barter","hands"] wE fO dO):aM P w K mg base cP 3 f fd ["barter"] lc:=by
 r%F.ok FS (fun vs H Q E h=>?_) (fun bF A' outer s H vs Q E hr h=>?_)
 .obtain⟨p,pB,pW,xB,xW,B,W,g,rfl,_⟩:=h;rfl
 .obtain⟨p,pB,pW,xB,xW,B,W,g,rfl,m,k⟩:=h;have FA:cR 1 _:=hr.mono d%;r%⟨_,d9 (oV PassesOwn.never rfl (jJ rfl N.range (aR (jP aV f% N.len PySem.boot_len (aR (cZ bI (pv 0) bE (fun _ _=>rfl)) bK)) bK)) (bG (i:=1) FS.nd rfl l%)
    (d9 (lI (i:=2) FS.nd rfl l% (j1 Sw.ok hr rfl Sw.mg Sw.kp Sw.bd .nil cz (aR (pv 0) (aR (pv 1) bK))))
    (d9 (lI (i:=3) FS.nd rfl l% (j1 Ob.ok FA rfl Ob.mg Ob.kp Ob.bd .nil cz (aR (pv 0) (aR (pv 2) bK))))
    (de (d6 (pr (pv 3) (fun _=>rfl)) (de (eY (gG (aR (pv 2) (aR (cZ mW (pv 3) bE (fun _ _=>rfl)) bK))))) tT)))))
   (de (eY wP)),?_⟩
  r%⟨_,rfl,p,_,_,_,rfl,rfl,aH.of m.hp,rfl,pB,_,rfl,.inr (aH.of m.hB),(B.length:Int),by rw[m.rB.len],by omega,by have:=m.n6;omega,?_⟩;rw[Zj];r%AM (fun i σ H'=>ak H H'/\(∃y1 y2 y3,σ=[some (.ref p),y1,y2,y3])/\∀h,h<i->qk B W g (lQ B W g (h:Nat))=[]) ⟨ak.refl H,⟨_,_,_,rfl⟩,fun h hh=>absurd hh g%⟩ ?_ ?_
  .rintro i σ H1 hi ⟨s1,⟨y1,y2,y3,rfl⟩,FC⟩;rw[Int.zero_add];r%⟨_,rfl,_,rfl,p,pB,pW,xB,xW,B,W,g,i,rfl,m.az s1,hi,fun r H2 s2 tV=>?_⟩;have hb6:=Nk (B:=B) (W:=W) (g:=g) (h:=(i:Int));have UF:=m.n6;r%⟨_,rfl,_,rfl,p,pB,pW,r,xB,xW,B,W,g,_,rfl,m.az (s1.trans s2),tV,by omega,fun x hx=>(eG.mp hx).1,fun q H3 s3 hq=>?_⟩;have NC:=(s1.trans s2).trans s3;r%⟨_,rfl,_,.inl ⟨_,bz.of hq,rfl⟩,?_⟩;cases hg:qk B W g (lQ B W g (i:Nat)) with
   |nil =>
    r%bB ⟨NC,⟨_,_,_,rfl⟩,fun h hh=>?_⟩;rcases Zz h i with z |z
    .exact FC h z
    .obtain rfl:h=i:=by omega
     e%hg
   |cons j js =>
    rw[hg] at hq;r%aU ⟨_,rfl,_,rfl,q,_,_,_,rfl,rfl,bz.of hq,(show iT (oB (j::js)) ((0:Nat):Int)=some (V.int ((j:Nat):Int)) from fj rfl),by show 2<=sizeLine;decide,fun t ht=>?_⟩;r%k _ _ (NC.new ht) fun b=>?_
    have ed:oq B W g=.tuple [.tuple ((lQ B W g (i:Nat)).map PyData.int),.int ((j:Nat):Int)]:=by
     unfold oq;have ef:(List.range B.length).find? (fun h=>!(qk B W g (lQ B W g (h:Nat))).isEmpty)=some i:=by
      rw[List.find?_range_eq_some];r%⟨by rw[hg];rfl,Zm.mpr hi,fun h hh=>by rw[FC h hh];rfl⟩
     rw[ef];show PyData.tuple [_,.int (((qk B W g (lQ B W g (i:Nat))).getD 0 0:Nat):Int)]=_;rw[hg];rfl
    rw[ed];have s4:=(ak.refl H3).new (o:=.tup [.ref r,.int ((j:Nat):Int)]) ht;e%.tup cQ (.cons (.tup ((s3.trans s4) _ _ tV) (CS _)) (.cons (.int _) .nil))
  .rintro σ H1 ⟨s1,⟨y1,y2,y3,rfl⟩,FC⟩;r%k _ _ s1 fun b=>?_
   have ed:oq B W g=.none:=by
    unfold oq;have ef:(List.range B.length).find? (fun h=>!(qk B W g (lQ B W g (h:Nat))).isEmpty)=none:=by
     rw[List.find?_eq_none];intro h hh;rw[FC h (Zm.mp hh)];simp
    rw[ef]
   rw[ed];e%.bO
end
end Cd
namespace KM
open PySem L2 KG EX
noncomputable def dec (p:Prop):Bool:=@decide p (Classical.propDecidable p)
t%qK {p:Prop}(h:p):dec p=true:=@decide_eq_true p (Classical.propDecidable p) h
t%jZ {p:Prop}(h:¬ p):dec p=false:=@decide_eq_false p (Classical.propDecidable p) h
t%zm {p:Prop}:dec p=true↔p:=⟨fun h=>@of_decide_eq_true p (Classical.propDecidable p) h,qK⟩
t%re (p:Prop):(dec p=true/\p)\/(dec p=false/\¬ p):=by
 rcases Classical.em p with h |h
 .exact .inl ⟨qK h,h⟩
 .exact .inr ⟨jZ h,h⟩
t%yZ:∀{r t:List Int},r.map PyData.int=t.map PyData.int->r=t
 |[],[],_=>rfl
 |[],_::_,h=>by simp at h
 |_::_,[],h=>by simp at h
 |x::r,y::t,h=>by
  rw[Yj,Yj] at h;injection h with h1 h2
  injection h1 with h1
  rw[h1,yZ h2]
t%DO {r t:List Int}(h:bU r=bU t):r=t:=by
 unfold bU at h;injection h with h
 e%yZ h
n%pU (M:List (List Int)):PyData:=.tuple (M.map bU)
t%uR:∀{M N:List (List Int)},M.map bU=N.map bU->M=N
 |[],[],_=>rfl
 |[],_::_,h=>by simp at h
 |_::_,[],h=>by simp at h
 |x::r,y::t,h=>by
  rw[Yj,Yj] at h;injection h with h1 h2
  rw[DO h1,uR h2]
t%kO {M N:List (List Int)}(h:pU M=pU N):M=N:=by
 unfold pU at h;injection h with h
 e%uR h
n%Iq (most:Int)(r:List Int):Prop:=∀x∈r,0<=x/\x<=most
n%BJ (most:Int)(d:PyData):Prop:=∃r:List Int,d=bU r/\1<=r.length/\r.length<=6/\Iq most r
n%wc (most:Int)(d:PyData):Prop:=∃(M:List (List Int)) (g:Nat),d=pU M/\1<=M.length/\M.length<=6/\1<=g/\g<=6/\∀r∈M,r.length=g/\Iq most r
n%i7 (M:List (List Int))(g:Nat):Bool:=(M.all fun r=>r.any fun x=>x != 0)&&(List.range g).all fun j=>M.any fun r=>r.getD j 0 != 0
n%Sg (d:PyData):Prop:=∃(B W:List (List Int)) (g:Nat),d=.tuple [pU B,pU W]/\W.length=B.length/\1<=B.length/\B.length<=6/\1<=g/\g<=6/\(∀r∈B,r.length=g/\Iq 10 r)/\(∀r∈W,r.length=g/\Iq 100 r)/\i7 B g=true/\i7 W g=true
t%mF:∀{ds:List PyData}{lo hi:Int},ds.all (within lo hi)=true->∃r:List Int,ds=r.map PyData.int/\∀x∈r,lo<=x/\x<=hi
 |[],_,_,_=>⟨[],rfl,fun x h=>nomatch h⟩
 |d::ds,lo,hi,h=>by
  rw[List.all_cons,Zl] at h;o%⟨r,rfl,hr⟩:=mF h.2;cases d with
  |int i =>
   have h1:(decide (lo<=i)&&decide (i<=hi))=true:=h.1;simp only[Zl,decide_eq_true_eq] at h1;r%⟨i::r,rfl,fun x hx=>?_⟩;rcases Zf.mp hx with rfl |hx
   .exact h1
   .exact hr x hx
  |_=>cases h.1
t%vE {r:List Int}{lo hi:Int}(h:∀x∈r,lo<=x/\x<=hi):(r.map PyData.int).all (within lo hi)=true:=xO h
t%DN {ds:List PyData}{most:Int}(h1:1<=ds.length)(h2:ds.length<=6):dec (BJ most (.tuple ds))=ds.all (within 0 most):=by
 cases h:ds.all (within 0 most) with
 |true =>
  o%⟨r,rfl,hr⟩:=mF h;rw[Zb] at h1 h2;e%qK ⟨r,rfl,h1,h2,hr⟩
 |false =>
  r%jZ fun⟨r,e,_,_,hr⟩=>?_
  unfold bU at e;injection e with e
  rw[e,vE hr] at h;cases h
t%uS:∀{ds:List PyData}{most:Int},(ds.all fun d=>dec (BJ most d))=true->∃M:List (List Int),ds=M.map bU/\∀r∈M,1<=r.length/\r.length<=6/\Iq most r
 |[],_,_=>⟨[],rfl,fun x h=>nomatch h⟩
 |d::ds,most,h=>by
  rw[List.all_cons,Zl] at h;o%⟨M,rfl,hM⟩:=uS h.2;o%⟨r,rfl,h1,h2,h3⟩:=zm.mp h.1;r%⟨r::M,rfl,fun x hx=>?_⟩;rcases Zf.mp hx with rfl |hx
  .exact⟨h1,h2,h3⟩
  .exact hM x hx
t%yD {b:Addr}{H:Hp}:∀{xs:List V}{r:List Int},bX b H xs (r.map PyData.int)->xs=r.map V.int
 |[],[],_=>rfl
 |_,_::_,.cons h t=>by cases h;rw[yD t];rfl
t%se {b:Addr}{H:Hp}:∀{xs:List V}{M:List (List Int)},bX b H xs (M.map bU)->rK H xs M
 |[],[],_=>.nil
 |_,_::_,.cons (x:=x) h t=>by
  unfold bU at h;cases h with
  |tup ha hs=>rw[yD hs] at ha;e%.cons ⟨_,rfl,ha⟩ (se t)
t%j9 {M:List (List Int)}{i:Nat}(h:i<M.length):M.getD i []∈M:=by rw[gj (Zc h)];e%Zv h
t%Gv {M:List (List Int)}{most:Int}(h1:1<=M.length)(h6:M.length<=6)(h:∀r∈M,1<=r.length/\r.length<=6/\Iq most r):dec (wc most (pU M))=(List.range M.length).all fun i=>decide ((M.getD i []).length=(M.getD 0 []).length):=by
 have h0:=h _ (j9 (i:=0) h1);cases e:(List.range M.length).all fun i=>decide ((M.getD i []).length=(M.getD 0 []).length) with
 |true =>
  r%qK ⟨M,(M.getD 0 []).length,rfl,h1,h6,h0.1,h0.2.1,fun r hr=>⟨?_,(h r hr).2.2⟩⟩;o%⟨i,hi,er⟩:=List.getElem_of_mem hr;have:=Zu.mp e i (Zm.mpr hi);rw[gj (Zc hi),er] at this;e%of_decide_eq_true this
 |false =>
  r%jZ fun⟨N,g,eN,_,_,_,_,hN⟩=>?_
  obtain rfl:=kO eN;o%⟨i,hi,dh⟩:=List.all_eq_false.mp e;have xX:=Zm.mp hi;e%dh (decide_eq_true ((hN _ (j9 xX)).1.trans (hN _ (j9 h1)).1.symm))
t%Gu {most:Int}{d:PyData}(h:wc most d):p6 d=true:=by o%⟨M,_,rfl,_⟩:=h;rfl
t%lw {d:PyData}(h:Sg d):∃x y,d=.tuple [x,y]/\wc 10 x/\wc 100 y:=by
 o%⟨B,W,g,rfl,hl,h1,h6,g1,g6,hB,hW,_,_⟩:=h;e%⟨_,_,rfl,⟨B,g,rfl,h1,h6,g1,g6,hB⟩,⟨W,g,rfl,by omega,by omega,g1,g6,hW⟩⟩
t%Nl {B W:List (List Int)}{g g':Nat}(Vb:1<=B.length)(hB6:B.length<=6)(ZX:1<=W.length)(g1:1<=g)(g6:g<=6)(hB:∀r∈B,r.length=g/\Iq 10 r)(hW:∀r∈W,r.length=g'/\Iq 100 r) :
  dec (Sg (.tuple [pU B,pU W]))=(decide (W.length=B.length)&&decide (g'=g)&&i7 B g&&i7 W g):=by
 cases e:(decide (W.length=B.length)&&decide (g'=g)&&i7 B g&&i7 W g) with
 |true =>
  simp only[Zl,decide_eq_true_eq] at e;o%⟨⟨⟨e1,e2⟩,e3⟩,e4⟩:=e;subst e2;e%qK ⟨B,W,g',rfl,e1,Vb,hB6,g1,g6,hB,hW,e3,e4⟩
 |false =>
  r%jZ fun⟨B',W',h,eq,hl,_,_,_,_,hB',hW',hn1,UG⟩=>?_
  injection eq with eq
  injection eq with e1 e2
  injection e2 with e2 _
  obtain rfl:=kO e1;obtain rfl:=kO e2;have a1:=(hB _ (j9 Vb)).1;have a2:=(hB' _ (j9 Vb)).1;have a3:=(hW _ (j9 ZX)).1;have a4:=(hW' _ (j9 ZX)).1;have eg:h=g:=by omega
  have eg':g'=g:=by omega
  subst eg;rw[decide_eq_true hl,decide_eq_true eg',hn1,UG] at e;cases e
n%wB:Sp:=fun vs H Q _=>∃(b:Addr) (v:V) (d:PyData) (most:Int),vs=[v,.int most]/\iU b H v d/\∀H',ak H H'->Q (.bl (dec (BJ most d))) H'
n%Cg:Sp:=fun vs H Q _=>∃(b:Addr) (v:V) (d:PyData) (most:Int),vs=[v,.int most]/\iU b H v d/\∀H',ak H H'->Q (.bl (dec (wc most d))) H'
n%sH:Sp:=fun vs H Q _=>∃(a:Addr) (xs:List V) (M:List (List Int)) (g:Nat),vs=[.ref a]/\H a=some (.tup xs)/\rK H xs M/\1<=M.length/\M.length<=6/\g<=6/\(∀r∈M,r.length=g)/\∀H',ak H H'->Q (.bl (i7 M g)) H'
n%eV (M:List (List Int))(g:Nat):List (List Int):=(List.range g).map fun j=>M.map fun r=>r.getD j 0
n%wI:Sp:=fun vs H Q _=>∃(a:Addr) (xs:List V) (M:List (List Int)) (g:Nat),vs=[.ref a]/\H a=some (.tup xs)/\rK H xs M/\1<=M.length/\M.length<=6/\g<=6/\(∀r∈M,r.length=g)/\∀(r:Addr) (ys:List V) (H':Hp),ak H H'->H' r=some (.lst ys)->NQ H' ys (eV M g)->Q (.ref r) H'
noncomputable def JZ (d:PyData):Bool:=dec (Sg d)
t%pL (ns:List Int):(ns.map V.int).all du=true:=by rw[List.all_map];simp[Function.comp_def,du]
t%any_ints (ns:List Int):(ns.map V.int).any tv=ns.any fun x=>x != 0:=by rw[List.any_map];rfl
t%wL {H:Hp}{xs:List V}{M:List (List Int)}{i:Nat}{x:V}(r:rK H xs M)(h:xs[i]?=some x):i<M.length/\∃a,x=.ref a/\H a=some (.tup ((M.getD i []).map V.int)):=by
 have hi:i<M.length:=by rw[<- r.len];e%(Zd.mp h).1
 o%⟨a,e,_,ha⟩:=fh r hi;rw[h] at e;e%⟨hi,a,by simpa using e,ha⟩
end KM
namespace zU
open PySem L2 KG EX KM jQ
section
variable {P:Program}{w:World}{K:PySem.W.Frag}{mg:Str->Option Value}{base:Heap}
t%QR:ap ["thing","most"] ["thing","most"] (aX (top 48)):=L2.dj
t%Mn {f fW:Addr}{fd dW:FuncData}{tk:Tok}(F:cE K "is_row" "is_row" (top 48) f fd)(N:Nm mg)(Z:rM K)(hc:mg "MOST_GOODS"=some (.int 6 tk))(W:cC K mg P w base "is_whole" 1 ["thing"] (spT E1) fW dW):aM P w K mg base cP 2 f fd ["thing","most"] wB:=by
 r%F.ok QR (fun vs H Q E h=>?_) (fun bF A outer s H vs Q E hr h=>?_)
 .obtain⟨b,v,d,most,rfl,_⟩:=h;rfl
 .obtain⟨b,v,d,most,rfl,hT,k⟩:=h;r%⟨_,d9 (d6 (PW.pt (pw_or (vW (t8 (nY K (pv 0) rfl N.isinstance rfl N.tuple m9 nU))) (pw_or1 (vW (uT oA oA bE (jP aV f% N.len PySem.boot_len (aR (pv 0) bK)) (nB (v:=.int 6) rfl hc ⟨_,rfl⟩)))))) (de (eY iG)) tT)
   (de (eY (jP (iI rfl) f% N.all A6 (aR (ua (own:=["number"]) (cap:=["most"]) (ix:=[1]) (aA.of (aX (top 48)).names ["thing","most"]) rfl (rS (pv 0))
    (fun C fp s H=>⟨bG (i:=0) (show List.Nodup (["number","most"]:List Str) by decide+kernel) rfl l%,xU,iy (j1 W.ok hr rfl W.mg W.kp W.bd .nil cz (aR (pv 0) bK)) (gH (D8 oA oA bE (pv 0) (pv 1)))⟩)) bK)))),?_⟩
  o%⟨t1,xR,e1⟩:=Oj Z hT;r%⟨_,rfl,t1,_,xR,e1,_,rfl,?_⟩;have hk:=k H (ak.refl H);rcases kN hT with hn |⟨a,xs,ds,rfl,rfl,ha,hs⟩
  .rw[hn];rw[jZ fun⟨r,e,_⟩=>by rw[e] at hn;cases hn] at hk;e%aU (aU hk)
  r%bB ?_;have bN:=hs.len;r%⟨_,rfl,a,xs,rfl,.inr (aH.of ha),_,_,rfl,rfl,_,rfl,?_⟩;have no:¬ (1<=ds.length/\ds.length<=6)->Q (.bl false) H:=fun hz=>by
   rw[jZ fun⟨r,e,h1,h2,_⟩=>by unfold bU at e;injection e with e;rw[e,Zb] at hz;e%hz ⟨h1,h2⟩] at hk;e%hk
  by_cases h1:(1:Int)<=(xs.length:Int)
  case neg =>
   rw[decide_eq_false h1];e%bB ⟨_,rfl,aU (no g%)⟩
  rw[decide_eq_true h1];r%aU ⟨_,_,rfl,rfl,_,rfl,?_⟩;by_cases h2:(xs.length:Int)<=6
  case neg =>
   rw[decide_eq_false h2];e%aU (no g%)
  rw[decide_eq_true h2];r%bB ?_;r%⟨_,rfl,a,rfl,⟨xs,aH.of ha⟩,fun acc bt=>?_⟩;r%pS (within 0 most) hs ha bt g% (fun x d H' st hx _ Z hZ=>⟨_,rfl,b,x,d,rfl,hx,fun H5 s5=>⟨_,rfl,?_⟩⟩) (fun H' st hy=>?_)
  .have hz:=hZ H5 s5;rcases kU hx with hn |⟨i,rfl,rfl⟩
   .rw[hn];rw[Ac hn] at hz;e%bB hz
   .refine aU ⟨_,rfl,_,_,rfl,rfl,_,rfl,?_⟩;have zD:Z (.bl (decide ((0:Int)<=i)&&decide (i<=most))) H5:=hz;cases h1:decide ((0:Int)<=i) with
    |true=>rw[h1] at zD;e%aU ⟨_,rfl,_,_,rfl,rfl,zD⟩
    |false=>rw[h1] at zD;e%bB zD
  r%⟨acc,_,rfl,.inl (bz.of hy),mI,?_⟩;rw[rC,<- DN g% g%];e%k H' st
t%QQ:ap ["thing","most"] ["thing","most"] (aX (top 47)):=L2.dj
t%Mh {f fW:Addr}{fd dW:FuncData}{tk:Tok}(F:cE K "is_table" "is_table" (top 47) f fd)(N:Nm mg)(Z:rM K)(hc:mg "MOST_BUYERS"=some (.int 6 tk))(W:cC K mg P w base "is_row" 2 ["thing","most"] wB fW dW):aM P w K mg base cP 3 f fd ["thing","most"] Cg:=by
 r%F.ok QQ (fun vs H Q E h=>?_) (fun bF A outer s H vs Q E hr h=>?_)
 .obtain⟨b,v,d,most,rfl,_⟩:=h;rfl
 .obtain⟨b,v,d,most,rfl,hT,k⟩:=h;r%⟨_,d9 (d6 (PW.pt (pw_or (vW (t8 (nY K (pv 0) rfl N.isinstance rfl N.tuple m9 nU))) (pw_or1 (vW (uT oA oA bE (jP aV f% N.len PySem.boot_len (aR (pv 0) bK)) (nB (v:=.int 6) rfl hc ⟨_,rfl⟩)))))) (de (eY iG)) tT)
   (de (eY (iy (jP (iI rfl) f% N.all A6 (aR (ua (own:=["row"]) (cap:=["most"]) (ix:=[1]) (aA.of (aX (top 47)).names ["thing","most"]) rfl (rS (pv 0))
    (fun C fp s H=>⟨bG (i:=0) (show List.Nodup (["row","most"]:List Str) by decide+kernel) rfl l%,xU,j1 W.ok hr rfl W.mg W.kp W.bd .nil cz (aR (pv 0) (aR (pv 1) bK))⟩)) bK))
    (gH (jP (iI rfl) f% N.all A6 (aR (ua (own:=["row"]) (cap:=["thing"]) (ix:=[0]) (aA.of (aX (top 47)).names ["thing","most"]) rfl (rS (pv 0))
    (fun C fp s H=>⟨bG (i:=0) (show List.Nodup (["row","thing"]:List Str) by decide+kernel) rfl l%,xU,vY yj (jP aV f% N.len PySem.boot_len (aR (pv 0) bK)) (jP aV f% N.len PySem.boot_len (aR (cZ bI (pv 1) bE (fun _ _=>rfl)) bK)) (ax _)⟩)) bK)))))),?_⟩
  o%⟨t1,xR,e1⟩:=Oj Z hT;r%⟨_,rfl,t1,_,xR,e1,_,rfl,?_⟩;have hk:=k H (ak.refl H);rcases kN hT with hn |⟨a,xs,ds,rfl,rfl,ha,hs⟩
  .rw[hn];rw[jZ fun h=>by rw[Gu h] at hn;cases hn] at hk;e%aU (aU hk)
  r%bB ?_;have bN:=hs.len;r%⟨_,rfl,a,xs,rfl,.inr (aH.of ha),_,_,rfl,rfl,_,rfl,?_⟩;have no:¬ (1<=ds.length/\ds.length<=6)->Q (.bl false) H:=fun hz=>by
   rw[jZ fun⟨M,g,e,h1,h2,_⟩=>by unfold pU at e;injection e with e;rw[e,Zb] at hz;e%hz ⟨h1,h2⟩] at hk;e%hk
  by_cases h1:(1:Int)<=(xs.length:Int)
  case neg =>
   rw[decide_eq_false h1];e%bB ⟨_,rfl,aU (no g%)⟩
  rw[decide_eq_true h1];r%aU ⟨_,_,rfl,rfl,_,rfl,?_⟩;by_cases h2:(xs.length:Int)<=6
  case neg =>
   rw[decide_eq_false h2];e%aU (no g%)
  rw[decide_eq_true h2];r%bB ?_;r%⟨_,rfl,a,rfl,⟨xs,aH.of ha⟩,fun acc bt=>?_⟩;r%pS (fun d=>dec (BJ most d)) hs ha bt g% (fun x d H' st hx _ Z hZ=>⟨_,rfl,_,rfl,b,x,d,most,rfl,hx,hZ⟩) (fun H' st hy=>?_);r%⟨acc,_,rfl,.inl (bz.of hy),mI,_,rfl,?_⟩;rw[rC];cases lZ:ds.all fun d=>dec (BJ most d) with
  |false =>
   have zD:=k H' st;rw[jZ fun⟨M,g,e,_,_,g1,g6,hM⟩=>by
    unfold pU at e;injection e with e
    rw[e,List.all_map] at lZ;o%⟨r,iK,hn⟩:=List.all_eq_false.mp lZ;e%hn (qK ⟨r,rfl,by rw[(hM r iK).1];e%g1,by rw[(hM r iK).1];e%g6,(hM r iK).2⟩)] at zD
   e%bB zD
  |true =>
   o%⟨M,rfl,hM⟩:=uS lZ;rw[Zb] at bN;have XB:=se hs;r%aU ⟨_,rfl,a,rfl,⟨xs,aH.of (st _ _ ha)⟩,fun ox fV=>?_⟩;o%⟨a0,_,JU,JP⟩:=fh XB (i:=0) g%;r%sf (xs:=xs) (fun _=>true) (fun i=>V.bl (decide ((M.getD i []).length=(M.getD 0 []).length))) fV g% (st _ _ ha) (fun i x H2 Z _ _ h=>h H2 (ak.refl H2)) (fun i x H2 Z hx _ s2 h=>?_) (fun H2 s2 h2=>?_)
   .obtain⟨hi,c,rfl,jT⟩:=wL XB hx;have gP:=st.trans s2;r%⟨_,rfl,c,_,rfl,.inr (aH.of (gP _ _ jT)),_,rfl,a,_,_,_,rfl,rfl,aH.of (gP _ _ ha),JU,a0,_,rfl,.inr (aH.of (gP _ _ JP)),rfl,?_⟩;rw[Zb,Zb];have e:decide (V.int ((M.getD i []).length:Int)=V.int ((M.getD 0 []).length:Int))=decide ((M.getD i []).length=(M.getD 0 []).length):=by
     rw[decide_eq_decide];constructor
     .intro h;injection h with h;omega
     .intro h;rw[h]
    rw[e];e%h H2 (ak.refl H2)
   .rw[List.filter_eq_self.mpr (fun _ _=>rfl)] at h2;r%⟨ox,_,rfl,.inl (bz.of h2),g9 _ _,?_⟩;rw[xc,bN,<- Gv (most:=most) g% g% hM];e%k H2 (st.trans s2)
t%Lw:ap ["table"] ["table"] (aX (top 50)):=L2.dj
t%sQ {f:Addr}{fd:FuncData}(F:cE K "columns" "columns" (top 50) f fd)(N:Nm mg):aM P w K mg base cP 1 f fd ["table"] wI:=by
 r%F.ok Lw (fun vs H Q E h=>?_) (fun bF A outer s H vs Q E hr h=>?_)
 .obtain⟨a,xs,M,g,rfl,_⟩:=h;rfl
 .obtain⟨a,xs,M,g,rfl,ha,r,n1,n6,g6,hl,k⟩:=h;r%⟨_,de (eY (ua (own:=["good"]) (cap:=["table"]) (ix:=[0]) (aA.of (aX (top 50)).names ["table"]) rfl (jJ rfl N.range (aR (jP aV f% N.len PySem.boot_len (aR (cZ bI (pv 0) bE (fun _ _=>rfl)) bK)) bK))
   (fun C fp s H=>⟨bG (i:=0) (show List.Nodup (["good","table"]:List Str) by decide+kernel) rfl (Or.inr rfl),xU,ua (own:=["row"]) (cap:=["good"]) (ix:=[0]) (aA.of [(".0",.local),("good",.cell),("table",.cell)] ["good","table"]) rfl (rS (pv 1))
    (fun C fp s H=>⟨bG (i:=0) (show List.Nodup (["row","good"]:List Str) by decide+kernel) rfl l%,xU,cZ bI (pv 0) (pv 1) (fun _ _=>rfl)⟩)⟩))),?_⟩
  o%⟨a0,_,JU,JP⟩:=fh r (i:=0) n1;have UL:=gy hl (i:=0) n1;r%⟨_,rfl,a,_,_,_,rfl,rfl,aH.of ha,JU,a0,_,rfl,.inr (aH.of JP),(g:Int),by rw[Zb,UL],by omega,by omega,fun acc bt=>?_⟩;rw[Zj];r%kr (fun i ys H'=>ak H H'/\NQ H' ys (eV M i)) ⟨(ak.refl H).acc bt,⟨rfl,fun j x hx=>by simp at hx⟩⟩ ?_ (fun ys H' hy ⟨s,l⟩=>k acc ys H' s hy l);rintro i ys H1 hi hy ⟨s1,l1⟩;rw[Int.zero_add];r%ut ⟨_,rfl,a,rfl,⟨_,aH.of (s1 _ _ ha)⟩,fun ox fV=>?_⟩;have WG:ox≠acc:=fun z=>by rw[z,hy] at fV;cases fV
  r%sf (xs:=xs) (fun _=>true) (fun j=>V.int ((M.getD j []).getD i 0)) fV (by rw[r.len];omega) (s1 _ _ ha) (fun j x H2 Z _ _ h=>h H2 (ak.refl H2)) (fun j x H2 Z hx _ s2 h=>?_) (fun H2 s2 h2=>?_)
  .obtain⟨hj,c,rfl,jT⟩:=wL r hx;have hlj:=gy hl hj;o%⟨eb,_,_⟩:=pF (ns:=M.getD j []) (r:=(i:Int)) g% g%;rw[Zj] at eb;e%⟨_,rfl,_,rfl,c,_,_,_,rfl,rfl,aH.of ((s1.trans s2) _ _ jT),eb,h H2 (ak.refl H2)⟩
  .have e2:((List.range xs.length).filter fun _=>true).map (fun j=>V.int ((M.getD j []).getD i 0))=(M.map fun r=>r.getD i 0).map V.int:=by
    rw[List.filter_eq_self.mpr (fun _ _=>rfl),r.len,Zi];conv=>rhs;rw[<- nI M [],Zi]
    rfl
   rw[e2] at h2;have hl1:=l1.1;have Bz:(eV M i).length=i:=by unfold eV;rw[Zb,List.length_range]
   r%⟨ys,s2 _ _ hy,by rw[sz];omega,Cn.of cQ ⟨(s1.trans s2).acc bt,?_⟩⟩;have e3:eV M (i+1)=eV M i++[M.map fun r=>r.getD i 0]:=by
    unfold eV;rw[Yn,Zs];rfl
   rw[e3];have Jf:∀(u:Addr) (zs:List V),H2 u=some (.lst zs)->u≠acc->(aK H2 acc (.lst (ys++[.ref ox]))) u=some (.lst zs):=fun u zs hu hn=>by rw[dH hn];e%hu
   r%NQ.app ⟨hl1,fun j x hx=>?_⟩ (Jf ox _ h2 WG);o%⟨u,e,hu⟩:=l1.2 j x hx;r%⟨u,e,Jf u _ (s2 _ _ hu) fun z=>?_⟩;rw[z,hy] at hu;injection hu with hu
   injection hu with hu
   have UN:=(Zd.mp hx).1;have:ys[j]?=some (V.int (((eV M i).getD j []).getD j 0))\/False:=by
    left
    rw[hu,Zg];have ZO:j<((eV M i).getD j []).length:=by
     have:=congrArg List.length hu;rw[Zb] at this;omega
    rw[Zc ZO,gj (Zc ZO)];rfl
   rcases this with y |y
   .rw[hx,e] at y;cases y
   .exact y
t%Wo:ap ["table"] ["table"] (aX (top 49)):=L2.dj
t%Q8 {f fC:Addr}{fd dC:FuncData}(F:cE K "leaves_none_out" "leaves_none_out" (top 49) f fd)(N:Nm mg)(Co:cC K mg P w base "columns" 1 ["table"] wI fC dC):aM P w K mg base cP 2 f fd ["table"] sH:=by
 r%F.ok Wo (fun vs H Q E h=>?_) (fun bF A outer s H vs Q E hr h=>?_)
 .obtain⟨a,xs,M,g,rfl,_⟩:=h;rfl
 .obtain⟨a,xs,M,g,rfl,ha,r,n1,n6,g6,hl,k⟩:=h;r%⟨_,de (eY (iy (jP (iI rfl) f% N.all A6 (aR (ua (own:=["row"]) (cap:=[]) (ix:=[]) (aA.of (aX (top 49)).names ["table"]) rfl (rS (pv 0))
    (fun C fp s H=>⟨bG (i:=0) (show List.Nodup (["row"]:List Str) by decide+kernel) rfl l%,xU,jP (qM rfl) f% N.any boot_any (aR (pv 0) bK)⟩)) bK))
   (gH (jP (iI rfl) f% N.all A6 (aR (ua (own:=["column"]) (cap:=[]) (ix:=[]) (aA.of (aX (top 49)).names ["table"]) rfl (FX (j1 Co.ok hr rfl Co.mg Co.kp Co.bd .nil cz (aR (pv 0) bK)))
    (fun C fp s H=>⟨bG (i:=0) (show List.Nodup (["column"]:List Str) by decide+kernel) rfl l%,xU,jP (qM rfl) f% N.any boot_any (aR (pv 0) bK)⟩)) bK))))),?_⟩
  r%⟨_,rfl,a,rfl,⟨_,aH.of ha⟩,fun acc bt=>?_⟩;r%sf (xs:=xs) (fun _=>true) (fun i=>V.bl ((M.getD i []).any fun x=>x != 0)) bt (by rw[r.len];omega) ha (fun j x H2 Z _ _ h=>h H2 (ak.refl H2)) (fun j x H2 Z hx _ s2 h=>?_) (fun H1 s1 h1=>?_)
  .obtain⟨hj,c,rfl,jT⟩:=wL r hx;r%⟨_,rfl,c,_,rfl,.inr (aH.of (s2 _ _ jT)),pL _,?_⟩;rw[KM.any_ints];e%h H2 (ak.refl H2)
  rw[List.filter_eq_self.mpr (fun _ _=>rfl),r.len] at h1;r%⟨acc,_,rfl,.inl (bz.of h1),g9 _ _,_,rfl,?_⟩;rw[xc];have e1:(List.range M.length).all (fun i=>(M.getD i []).any fun x=>x != 0)=M.all fun r=>r.any fun x=>x != 0:=by
   conv=>rhs;rw[<- nI M [],List.all_map]
   rfl
  rw[e1];have eno:i7 M g=((M.all fun r=>r.any fun x=>x != 0)&&(List.range g).all fun j=>M.any fun r=>r.getD j 0 != 0):=rfl;cases hA:M.all fun r=>r.any fun x=>x != 0 with
  |false =>
   have hk:=k H1 s1;rw[eno,hA] at hk;e%bB hk
  |true =>
   r%aU ⟨_,rfl,a,xs,M,g,rfl,s1 _ _ ha,r.keep s1.tm,n1,n6,g6,hl,fun q ys H2 s2 hq lq=>?_⟩;have RT:=lq.1;have Bz:(eV M g).length=g:=by unfold eV;rw[Zb,List.length_range]
   r%⟨q,rfl,⟨_,bz.of hq⟩,fun ox fV=>?_⟩;r%GU (xs:=ys) (fun _=>true) (fun i=>V.bl (((eV M g).getD i []).any fun x=>x != 0)) fV g% hq (fun j x H3 Z _ _ h=>h H3 (ak.refl H3)) (fun j x H3 Z hx _ s3 h=>?_) (fun H3 s3 h3=>?_)
   .obtain⟨c,rfl,jT⟩:=lq.2 j x hx;r%⟨_,rfl,c,_,rfl,.inl (bz.of (s3 _ _ jT)),pL _,?_⟩;rw[KM.any_ints];e%h H3 (ak.refl H3)
   .rw[List.filter_eq_self.mpr (fun _ _=>rfl),RT,Bz] at h3;r%⟨ox,_,rfl,.inl (bz.of h3),g9 _ _,?_⟩;rw[xc];have e2:(List.range g).all (fun i=>((eV M g).getD i []).any fun x=>x != 0)=(List.range g).all fun j=>M.any fun r=>r.getD j 0 != 0:=by
     rw[Bool.eq_iff_iff,Zu,Zu];have xX:∀j∈List.range g,((eV M g).getD j []).any (fun x=>x != 0)=M.any fun r=>r.getD j 0 != 0:=fun j hj=>by
      have hjg:=Zm.mp hj;have:(eV M g).getD j []=M.map fun r=>r.getD j 0:=by
       unfold eV;simp[List.getD,hjg]
      rw[this,List.any_map];rfl
     e%⟨fun h j hj=>by rw[<- xX j hj];e%h j hj,fun h j hj=>by rw[xX j hj];e%h j hj⟩
    rw[e2];have hk:=k H3 ((s1.trans s2).trans s3);rw[eno,hA,Bool.true_and] at hk;e%hk
m%NIb:List Str:=["thing","brought","wishes"]
t%Km:ap NIb ["thing"] (aX (top 46)):=L2.dj
t%Rf {f fW fN:Addr}{fd dW dN:FuncData}{tk TF:Tok}(F:cE K "is_barter" "is_barter" (top 46) f fd)(N:Nm mg)(Z:rM K)(hc:mg "MOST_BROUGHT"=some (.int 10 tk))(JM:mg "MOST_WISH"=some (.int 100 TF))(W:cC K mg P w base "is_table" 3 ["thing","most"] Cg fW dW)(No:cC K mg P w base "leaves_none_out" 2 ["table"] sH fN dN):aM P w K mg base cP 4 f fd ["thing"] (spT JZ):=by
 r%F.ok Km (fun vs H Q E h=>?_) (fun bF A outer s H vs Q E hr h=>?_)
 .obtain⟨b,v,d,rfl,_⟩:=h;rfl
 .obtain⟨b,v,d,rfl,hT,k⟩:=h;have tV:cR 2 _:=hr.mono d%;r%⟨_,d9 (d6 (PW.pt (pw_or (vW (t8 (nY K (pv 0) rfl N.isinstance rfl N.tuple m9 nU))) (pw_or1 (qw kJ (jP aV f% N.len PySem.boot_len (aR (pv 0) bK)) bE (ax _))))) (de (eY iG)) tT)
   (d9 (j8 (pv 0) (gF (n:=2) rfl (rH (bG (i:=1) Km.nd rfl l%) (rH (bG (i:=2) Km.nd rfl l%) E6))))
   (d9 (d6 (PW.pt (pw_or (vW (t8 (j1 W.ok hr rfl W.mg W.kp W.bd .nil cz (aR (pv 1) (aR (nB (v:=.int 10) rfl hc ⟨_,rfl⟩) bK))))) (pw_or1 (vW (t8 (j1 W.ok hr rfl W.mg W.kp W.bd .nil cz (aR (pv 2) (aR (nB (v:=.int 100) rfl JM ⟨_,rfl⟩) bK)))))))) (de (eY iG)) tT)
   (d9 (d6 (PW.pt (pw_or (qw kJ (jP aV f% N.len PySem.boot_len (aR (pv 1) bK)) (jP aV f% N.len PySem.boot_len (aR (pv 2) bK)) (ax _)) (pw_or1 (qw kJ (jP aV f% N.len PySem.boot_len (aR (cZ bI (pv 1) bE (fun _ _=>rfl)) bK)) (jP aV f% N.len PySem.boot_len (aR (cZ bI (pv 2) bE (fun _ _=>rfl)) bK)) (ax _))))) (de (eY iG)) tT)
   (de (eY (iy (j1 No.ok tV rfl No.mg No.kp No.bd .nil cz (aR (pv 1) bK)) (gH (j1 No.ok tV rfl No.mg No.kp No.bd .nil cz (aR (pv 2) bK))))))))),?_⟩
  o%⟨t1,xR,e1⟩:=Oj Z hT;r%⟨_,rfl,t1,_,xR,e1,_,rfl,?_⟩;have no:∀H',ak H H'->¬ Sg d->Q (.bl false) H':=fun H' st hz=>by
   have hk:=k H' st;unfold JZ at hk;rw[jZ hz] at hk;e%hk
  rcases kN hT with hn |⟨a,xs,ds,rfl,rfl,ha,hs⟩
  .rw[hn];e%aU (aU (no H (ak.refl H) fun h=>by o%⟨x,y,e,_⟩:=lw h;rw[e] at hn;cases hn))
  r%bB ?_;have bN:=hs.len;r%⟨_,rfl,a,xs,rfl,.inr (aH.of ha),rfl,_,rfl,?_⟩;by_cases hl:xs.length=2
  case neg =>
   have e2:(!decide (V.int (xs.length:Int)=V.int 2))=true:=kL (b:=2) hl;rw[e2];e%aU (no H (ak.refl H) fun h=>by o%⟨x,y,e,_⟩:=lw h;injection e with e;rw[e] at bN;simp at bN;omega)
  have e2:(!decide (V.int (xs.length:Int)=V.int 2))=false:=by rw[hl];rfl
  rw[e2];r%bB ?_
  match xs,ds,hl,hs with
  |[x,y],_,_,.cons (d:=dx) hx (.cons (d:=dy) hy .nil) =>
  r%⟨_,rfl,a,_,rfl,aH.of ha,rfl,_,_,rfl,_,_,rfl,rfl,?_⟩;r%⟨_,rfl,b,x,dx,10,rfl,hx,fun H1 s1=>⟨_,rfl,?_⟩⟩;rcases re (wc 10 dx) with ⟨e,hB⟩ |⟨e,hB⟩
  case inr =>
   rw[e];e%aU (aU (no H1 s1 fun h=>by o%⟨x',y',e',h1,_⟩:=lw h;injection e' with e';injection e' with e' _;rw[e'] at hB;e%hB h1))
  rw[e];r%bB ⟨_,rfl,b,y,dy,100,rfl,hy.az s1,fun H2 s2=>⟨_,rfl,?_⟩⟩;rcases re (wc 100 dy) with ⟨e,hW⟩ |⟨e,hW⟩
  case inr =>
   rw[e];e%aU (no H2 (s1.trans s2) fun h=>by o%⟨x',y',e',_,h1⟩:=lw h;injection e' with e';injection e' with _ e';injection e' with e' _;rw[e'] at hW;e%hW h1)
  rw[e];r%bB ?_;have vN:=s1.trans s2;o%⟨B,g,rfl,B1,B6,g1,g6,hB⟩:=hB;o%⟨W',g',rfl,W1,W6,Z3,g6',hW⟩:=hW;have hx2:=hx.az vN;have NI:=hy.az vN;cases hx2 with
  |@tup pB xB _ UA hsB =>
  cases NI with
  |@tup pW xW _ Uz hsW =>
  have rB:=se hsB;have rW:=se hsW;have kk:∀H',ak H H'->Q (.bl (decide (W'.length=B.length)&&decide (g'=g)&&i7 B g&&i7 W' g)) H':=fun H' st=>by
   have hk:=k H' st;have:JZ (.tuple [pU B,pU W'])=_:=Nl B1 B6 W1 g1 g6 hB hW;rw[this] at hk;e%hk
  o%⟨b0,_,eb0,FF⟩:=fh rB (i:=0) B1;o%⟨w0,_,ew0,Uu⟩:=fh rW (i:=0) W1;have lb0:=gy (fun r iK=>(hB r iK).1) (i:=0) B1;have lw0:=gy (fun r iK=>(hW r iK).1) (i:=0) W1;r%⟨_,rfl,pB,_,rfl,.inr (aH.of UA),_,rfl,pW,_,rfl,.inr (aH.of Uz),rfl,_,rfl,?_⟩;rw[rB.len,rW.len];by_cases ON:B.length=W'.length
  case neg =>
   rw[kL ON];r%aU (aU ?_);have:=kk H2 vN;rw[decide_eq_false (fun z=>ON z.symm)] at this;e%this
  rw[ON,yy];r%bB ⟨_,rfl,pB,_,_,_,rfl,rfl,aH.of UA,eb0,b0,_,rfl,.inr (aH.of FF),_,rfl,pW,_,_,_,rfl,rfl,aH.of Uz,ew0,w0,_,rfl,.inr (aH.of Uu),rfl,_,rfl,?_⟩;rw[Zb,Zb,lb0,lw0];by_cases US:g=g'
  case neg =>
   rw[kL US];r%aU ?_;have:=kk H2 vN;rw[decide_eq_false (p:=g'=g) (fun z=>US z.symm),Bool.and_false] at this;e%this
  subst US;rw[yy];r%bB ⟨_,rfl,pB,xB,B,g,rfl,UA,rB,B1,B6,g6,fun r iK=>(hB r iK).1,fun H3 s3=>⟨_,rfl,?_⟩⟩;have Uj:=kk H3 (vN.trans s3);rw[decide_eq_true ON.symm,decide_eq_true (rfl:g=g),Bool.true_and,Bool.true_and] at Uj;cases FC:i7 B g with
  |false=>rw[FC] at Uj;e%bB Uj
  |true =>
   r%aU ⟨_,rfl,pW,xW,W',g,rfl,s3 _ _ Uz,rW.keep s3.tm,W1,W6,g6,fun r iK=>(hW r iK).1,fun H4 s4=>?_⟩;have XQ:=kk H4 ((vN.trans s3).trans s4);rw[decide_eq_true ON.symm,decide_eq_true (rfl:g=g),FC,Bool.true_and,Bool.true_and,Bool.true_and] at XQ;e%XQ
end
end zU
namespace KM
open PySem L2 KG EX
end KM
namespace MI
open PySem L2 KG EX KM
t%ints_of {b:Addr}{H:Hp}:∀{ns:List Int}{vs:List V},bX b H vs (ns.map PyData.int)->vs=ns.map V.int
 |[],_,h=>by cases h;rfl
 |n::ns,_,h=>by
  cases h with |cons h1 h2=>?_
  cases h1
  rw[ints_of h2];rfl
t%wK {b:Addr}{H:Hp}:∀{M:List (List Int)}{zs:List V},bX b H zs (M.map bU)->rK H zs M
 |[],_,h=>by cases h;e%.nil
 |r::M,_,h=>by
  cases h with |cons h1 h2=>?_
  cases h1 with |tup h3 h4=>?_
  rw[ints_of h4] at h3;e%.cons ⟨_,rfl,h3⟩ (wK h2)
n%Jk:FM:=fun O xs P _=>∃(B W:List (List Int)) (g:Nat),xs=[.im (iP B W)]/\W.length=B.length/\1<=B.length/\B.length<=6/\1<=g/\g<=6/\(∀r∈B,r.length=g)/\(∀r∈W,r.length=g)/\P (.im (oq B W g)) O
t%Hn (B W:List (List Int))(g:Nat):tP (oq B W g)=true:=by
 unfold oq;split
 .rfl
 .show(tP (PyData.tuple _)&&(true&&true))=true;rw[show tP (PyData.tuple ((lQ B W g _).map PyData.int))=true from nD _];rfl
t%Ho (B W:List (List Int)):tP (iP B W)=true:=by
 show(mU (B.map bU)&&(mU (W.map bU)&&true))=true;rw[Ft nD,Ft nD];rfl
t%HC {K:PySem.W.Frag}:tW K lc Jk:=fun w O H vs xs P PX Q E r a hf q x=>by
 o%⟨B,W,g,rfl,h1,h2,h3,h4,h5,h6,h7,hf⟩:=hf;o%⟨v,rfl,hv⟩:=Gm a;cases Xr 0 hv (Ho B W) with |tup e1 e2=>?_
 cases e2 with |cons e3 e4=>?_
 cases e4 with |cons e5 e6=>?_
 cases e6
 cases e3 with |tup e7 e8=>?_
 cases e5 with |tup e9 e10=>?_
 r%⟨_,_,_,_,_,B,W,g,rfl,⟨e1,e7,e9,wK e8,wK e10,h1,h2,h3,h4,h5,h6,h7⟩,fun z H' s t=>?_⟩;o%⟨r1,Vy,_⟩:=r.az s;e%q _ _ O w H' hf Vy r1 (toG r1 (t 0) (Hn B W g))
end MI
namespace NB
n%SI (n:Nat)(f:Nat->Int):Int:=((List.range n).map f).sum
t%A5 (n:Nat)(f:Nat->Int):SI (n+1) f=SI n f+f n:=by unfold SI;rw[Yn,Zs,List.sum_append];simp
t%tH (f:Nat->Int):SI 0 f=0:=rfl
t%Nv (n:Nat)(f g:Nat->Int):SI n (fun i=>f i+g i)=SI n f+SI n g:=by
 induction n with
 |zero=>rfl
 |succ n ih=>rw[A5,A5,A5,ih];omega
t%DH (n:Nat):SI n (fun _=>0)=0:=by
 induction n with
 |zero=>rfl
 |succ n ih=>rw[A5,ih];rfl
t%HS (n g:Nat)(F:Nat->Nat->Int):SI n (fun i=>SI g (fun j=>F i j))=SI g (fun j=>SI n (fun i=>F i j)):=by
 induction n with
 |zero=>rw[tH];e%(DH g).symm
 |succ n ih =>
  rw[A5,ih,<- Nv]
  congr 1
  funext j
  rw[A5]
t%uJ {n:Nat}{f g:Nat->Int}(h:∀i,i<n->f i<=g i):SI n f<=SI n g:=by
 induction n with
 |zero=>e%Int.le_refl _
 |succ n ih=>rw[A5,A5];have:=ih fun i hi=>h i g%;have:=h n g%;omega
t%Jr {n k:Nat}{f g:Nat->Int}(h:∀i,i<n->f i<=g i)(hk:k<n)(hs:f k<g k):SI n f<SI n g:=by
 induction n with
 |zero=>e%absurd hk g%
 |succ n ih =>
  rw[A5,A5];by_cases e:k=n
  .subst e;have:=uJ (n:=k) (f:=f) (g:=g) fun i hi=>h i g%
   omega
  .have:=ih (fun i hi=>h i g%) g%;have:=h n g%;omega
t%ib {n:Nat}{f g:Nat->Int}(h:∀i,i<n->f i=g i):SI n f=SI n g :=
 Int.le_antisymm (uJ fun i hi=>Int.le_of_eq (h i hi)) (uJ fun i hi=>Int.le_of_eq (h i hi).symm)
t%Nu (n:Nat)(f:Nat->Int)(c:Int):SI n (fun i=>f i*c)=SI n f*c:=by
 induction n with
 |zero=>rw[tH,tH,Int.zero_mul]
 |succ n ih=>rw[A5,A5,ih,Int.add_mul]
t%xv {n g:Nat}{B D W:Nat->Nat->Int}{t:Nat->Int}{m:Nat->Bool}(ht:∀j,j<g->1<=t j)(hB:∀i j,i<n->j<g->0<=B i j)(hD:∀i j,i<n->j<g->0<=D i j)
  (zT:∀j,j<g->SI n (fun i=>B i j)=SI n (fun i=>D i j)) (WU:∀i,i<n->SI g (fun j=>B i j*t j)=SI g (fun j=>D i j*t j)) (ZL:∀i j,i<n->j<g->D i j≠0->0<W i j)
  (Bz:∀j,j<g->(∃i,i<n/\m i=true/\0<W i j)->∀i,i<n->0<B i j->m i=true) {k:Nat}(hk:k<g) (h1:∃i,i<n/\m i=true/\0<B i k) (h2:∀i,i<n->m i=true->¬ 0<W i k):False:=by
 have e:SI n (fun i=>if m i=true then SI g (fun j=>B i j*t j) else 0)=SI n (fun i=>if m i=true then SI g (fun j=>D i j*t j) else 0):=ib fun i hi=>by rw[WU i hi]
 have sw:∀X:Nat->Nat->Int,SI n (fun i=>if m i=true then SI g (fun j=>X i j*t j) else 0)=SI g (fun j=>SI n (fun i=>if m i=true then X i j else 0)*t j):=fun X=>by
  have a:SI n (fun i=>if m i=true then SI g (fun j=>X i j*t j) else 0)=SI n (fun i=>SI g (fun j=>(if m i=true then X i j else 0)*t j)):=ib fun i _=>by
   split
   .rfl
   .simp only[Int.zero_mul];e%(DH g).symm
  rw[a,HS];e%ib fun j _=>Nu n _ _
 rw[sw,sw] at e;have le:∀j,j<g->SI n (fun i=>if m i=true then D i j else 0)<=SI n (fun i=>if m i=true then B i j else 0):=fun j hj=>by
  by_cases w:∃i,i<n/\m i=true/\0<W i j
  .have b:SI n (fun i=>if m i=true then B i j else 0)=SI n (fun i=>B i j):=ib fun i hi=>by
    by_cases mi:m i=true
    .rw[if_pos mi]
    .rw[if_neg mi];by_cases z:0<B i j
     .exact absurd (Bz j hj w i hi z) mi
     .have:=hB i j hi hj;omega
   rw[b,zT j hj];e%uJ fun i hi=>by have:=hD i j hi hj;split<;>omega
  .have d:SI n (fun i=>if m i=true then D i j else 0)=SI n (fun _=>0):=ib fun i hi=>by
    by_cases mi:m i=true
    .rw[if_pos mi];by_cases z:D i j=0
     .exact z
     .exact absurd ⟨i,hi,mi,ZL i j hi hj z⟩ w
    .rw[if_neg mi]
   rw[d];e%uJ fun i hi=>by have:=hB i j hi hj;split<;>omega
 have d0:SI n (fun i=>if m i=true then D i k else 0)=SI n (fun _=>0):=ib fun i hi=>by
  by_cases mi:m i=true
  .rw[if_pos mi];by_cases z:D i k=0
   .exact z
   .exact absurd (ZL i k hi hk z) (h2 i hi mi)
  .rw[if_neg mi]
 have lt:SI n (fun i=>if m i=true then D i k else 0)<SI n (fun i=>if m i=true then B i k else 0):=by
  rw[d0];o%⟨i,hi,mi,hb⟩:=h1;e%Jr (k:=i) (fun i hi=>by have:=hB i k hi hk;split<;>omega) hi (by rw[if_pos mi];e%hb)
 have:=Jr (n:=g) (k:=k) (f:=fun j=>SI n (fun i=>if m i=true then D i j else 0)*t j) (g:=fun j=>SI n (fun i=>if m i=true then B i j else 0)*t j) (fun j hj=>Int.mul_le_mul_of_nonneg_right (le j hj) (by have:=ht j hj;omega)) hk (Int.mul_lt_mul_of_pos_right lt (by have:=ht k hk;omega));omega
end NB
namespace MI
open PySem L2 KG EX KM NB
t%ES {n g:Nat}{ts:List Int}{W D B:List (List Int)}(dl:qN n g ts W D)(b:ql n g ts D B):oq B W g=.none:=by
 r%EF fun s hs=>?_
 have Fy:qF B W g s=true:=by
  have:=(Yb.mp hs).2;rw[Zl] at this;e%this.2
 have Bs:=(Ak hs).2;rw[b.bl] at Bs;have Bz:=jn.mp Fy;rw[b.bl] at Bz;rw[List.eq_nil_iff_forall_not_mem];intro k hk;o%⟨hk1,zC⟩:=Yb.mp hk;have hkg:=Zm.mp hk1;rw[Zl,List.any_eq_true,Bool.not_eq_true'] at zC;o%⟨⟨h,hh,hb⟩,hw⟩:=zC;have hb:0<Vt B h.toNat k:=of_decide_eq_true hb;r%xv (n:=n) (g:=g) (B:=fun i j=>eI B i j) (D:=fun i j=>eI D i j) (W:=fun i j=>eI W i j) (t:=fun j=>ts.getD j 0) (m:=fun i=>s.contains (i:Int)) (fun j hj=>(dl.t0 j hj).1) b.b0 (fun i j hi hj=>(dl.d0 i j hi hj).1) (fun j hj=>?_) (fun i hi=>?_) (fun i j hi hj z=>?_) (fun j hj w i hi z=>?_) hkg ⟨h.toNat,?_,?_,hb⟩ (fun i hi mi z=>?_)
 .have:=b.col j hj;rw[ia,ia,b.bl,dl.dl] at this;e%this
 .exact b.T8 i hi
 .have e:=dl.dw i j hi hj z;have:=(dl.t0 j hj).1;show 0<(W.getD i []).getD j 0;rw[e];omega
 .obtain⟨i',xX,XI,wi'⟩:=w;rw[List.contains_iff_mem] at XI ⊢;r%Bz _ XI (i:Int) g% g% ?_;unfold gW;rw[List.any_eq_true];r%⟨j,Zm.mpr hj,?_⟩;rw[Zl];e%⟨decide_eq_true z,decide_eq_true wi'⟩
 .have:=Bs h hh;omega
 .have:=Bs h hh;rw[List.contains_iff_mem,show((h.toNat:Nat):Int)=h by omega];e%hh
 .rw[List.contains_iff_mem] at mi;have:(s.any fun h=>lS W h k)=true:=List.any_eq_true.mpr ⟨_,mi,decide_eq_true z⟩;rw[this] at hw;cases hw
t%pj (n:Nat)(f:Nat->Int):cr ((List.range n).map fun i=>((f i:Int):Rat))=((((List.range n).map f).sum:Int):Rat):=by
 induction n with
 |zero=>rfl
 |succ n ih =>
  rw[Yn,Zs,Zs,List.sum_append,uO,ih];have e1:cr ([n].map fun i=>((f i:Int):Rat))=((f n:Int):Rat):=by show cr [_]=_;rw[mq];show _+(0:Rat)=_;rw[Rat.add_zero]
  have e2:([n].map f).sum=f n:=by simp
  rw[e1,e2,Rat.intCast_add]
t%oR (r:List Int)(j:Nat):(di r).getD j 0=((r.getD j 0:Int):Rat):=by
 unfold di;rcases Zz j r.length with y |y
 .exact vZ y
 .rw[List.getD,Yo (by simpa using y),List.getD,Yo y];rfl
t%sB {D:List (List Int)}{i j:Nat}(hi:i<D.length):eQ (D.map di) i j=((eI D i j:Int):Rat):=by
 unfold eQ eI;rw[show(D.map di).getD i []=di (D.getD i []) from vZ hi,oR]
t%Ea (ts r:List Int)(g:Nat):iV (di ts) r g=((lT ts r g:Int):Rat):=by
 unfold iV lT;rw[<- pj]
 congr 1
 e%List.map_congr_left fun j _=>by rw[oR,Rat.intCast_mul,Rat.mul_comm]
t%EC {D:List (List Int)}{j:Nat}:qj (D.map di) j=((cu D j:Int):Rat):=by
 rw[vd,ia,<- pj,Zb]
 congr 1
 e%List.map_congr_left fun i hi=>sB (Zm.mp hi)
t%xN {n g:Nat}{ts:List Int}{W D B:List (List Int)}(dl:qN n g ts W D)(b:ql n g ts D B):(∀j,j<g->has W j=true)/\dq ((List.range g).map (cu B)) (B.map fun r=>iV (di ts) r g) (di ts) W (D.map di) g=true:=by
 have hh:∀j,j<g->has W j=true:=fun j hj=>by
  o%⟨i,hi,hd⟩:=dl.cols j hj;have e:=dl.dw i j hi hj g%;have:=(dl.t0 j hj).1;unfold has;rw[List.any_eq_true];e%⟨W.getD i [],by rw[gj (Zc (show i<W.length by rw[dl.wl];e%hi))];e%Zv _,decide_eq_true (by rw[e];omega)⟩
 r%⟨hh,CV (fun j hj=>?_) (fun i hi=>?_)⟩
 .unfold kI;rw[hh j hj,if_pos rfl,EC];have e:((List.range g).map (cu B)).getD j 0=cu B j:=by simp[List.getD,Yq hj]
  rw[e,b.col j hj];e%decide_eq_true rfl
 .rw[Zb,dl.dl] at hi;have hiW:i<W.length:=by rw[dl.wl];e%hi
  r%⟨fun j hj=>?_,?_⟩
  .unfold fX;by_cases z:eI D i j=0
   .have e:=sB (D:=D) (i:=i) (j:=j) (by rw[dl.dl];e%hi);rw[z] at e;have e':((D.map di).getD i []).getD j 0=0:=e;rw[decide_eq_true e'];rfl
   .have hw:=dl.dw i j hi hj z;have tj:=(dl.t0 j hj).1;have hb:eJ (W.getD i []) (di ts) j=true:=by
     unfold eJ;rw[Zl,decide_eq_true_eq,Zu];r%⟨by rw[hw];omega,fun o ho=>?_⟩;have ho:=Zm.mp ho;rw[dl.wr i hi] at ho;have hwo:=(dl.w0 i o hi ho).2;unfold worse;rw[Bool.not_eq_true',Bool.and_eq_false_iff]
     right
     rw[decide_eq_false_iff_not,hw,oR,oR,<- Rat.intCast_mul,<- Rat.intCast_mul];intro cN;have Qe:ts.getD j 0*ts.getD o 0<(W.getD i []).getD o 0*ts.getD j 0:=by exact_mod_cast cN
     have:=Int.mul_le_mul_of_nonneg_right hwo (show 0<=ts.getD j 0 by omega);rw[Int.mul_comm (ts.getD o 0)] at this;omega
    rw[Bool.or_eq_true]
    right
    have e:(bA W (di ts)).getD i []=(jc (W.getD i []) (di ts)).map fun g:Nat=>(g:Int):=by unfold bA;e%vZ hiW
    rw[e,List.contains_iff_mem];e%Zh.mpr ⟨j,Yb.mpr ⟨Zm.mpr (by rw[dl.wr i hi];e%hj),hb⟩,rfl⟩
  .have e1:(B.map fun r=>iV (di ts) r g).getD i 0=iV (di ts) (B.getD i []) g:=vZ (by rw[b.bl];e%hi);rw[e1,Ea,b.T8 i hi];unfold jb lT;rw[<- pj]
   congr 1
   e%List.map_congr_left fun j _=>by
    have e:=sB (D:=D) (i:=i) (j:=j) (by rw[dl.dl];e%hi);have e':((D.map di).getD i []).getD j 0=((eI D i j:Int):Rat):=e;rw[e',oR,<- Rat.intCast_mul];rfl
end MI
namespace MI
open PySem L2 KG EX KM
t%LS {p q:Rat}(h:qD p=qD q):p=q:=by
 have:PyData.eqv (qD p) (qD q)=true:=by rw[h];e%Rx q
 rw[sx] at this;e%of_decide_eq_true this
t%sL:∀{p q:List Rat},p.map qD=q.map qD->p=q
 |[],[],_=>rfl
 |[],_::_,h=>by cases h
 |_::_,[],h=>by cases h
 |a::p,b::q,h=>by
  injection h with h1 h2
  rw[LS h1,sL h2]
t%uZ:∀{p q:List (List Rat)},(p.map fun qs:List Rat=>PyData.tuple (qs.map qD))=(q.map fun qs:List Rat=>PyData.tuple (qs.map qD))->p=q
 |[],[],_=>rfl
 |[],_::_,h=>by cases h
 |_::_,[],h=>by cases h
 |a::p,b::q,h=>by
  injection h with h1 h2
  injection h1 with h1
  rw[sL h1,uZ h2]
t%DA {n g:Nat}{B W:List (List Int)}{qs:List Rat}{D:List (List Rat)}{R:Bool->Prop}(hq:qs.length=g)(xV:∀q∈qs,0<q)(hD:D.length=n)(zF:∀r∈D,r.length=g/\∀z∈r,0<=z)(r:R (dq ((List.range g).map (cu B)) (B.map fun r=>iV qs r g) qs W D g)):Due n g B W (.tuple (qs.map qD)) (bC D) R:=by
 r%⟨fun z=>?_,fun qs' e _ _=>⟨fun z=>?_,fun D' e' _ _=>?_⟩⟩
 .rw[<- hq,nA xV] at z;cases z
 .rw[vc hD (fun r hr=>(zF r hr).1) (fun r hr=>(zF r hr).2)] at z;cases z
 .injection e with e
  injection e' with e'
  rw[<- sL e,<- uZ e'];e%r
t%Nd (n g:Nat)(B W:List (List Int))(p d:PyData):∃c,∀R:Bool->Prop,R c->Due n g B W p d R:=by
 cases hp:eM g p with
 |false=>e%⟨false,fun R r=>⟨fun _=>r,fun qs e hq xV=>by rw[e,<- hq,nA xV] at hp;cases hp⟩⟩
 |true =>
  o%⟨qs,rfl,hq,xV⟩:=tF hp;cases hd:lV n g d with
  |false =>
   e%⟨false,fun R r=>⟨fun z=>(by rw[hp] at z;cases z),fun qs' e _ _=>⟨fun _=>r,fun D e' hD zF=>by rw[e',vc hD (fun r hr=>(zF r hr).1) (fun r hr=>(zF r hr).2)] at hd;cases hd⟩⟩⟩
  |true =>
   o%⟨D,rfl,hD,zF⟩:=wV hd;e%⟨_,fun R r=>DA hq xV hD zF r⟩
m%Lb:List Str:=["script","k","bag","market","prices","dealing","barter","at","price","higher","alike","some","one","found"]
n%Dk (Pr:Addr):MS:=(aC (kF (gQ (ae (aG fe (cL (oE fun i j=>if j<i then j else i) (ae (cL CI (ae (ag 0) ah)) (ae (mC (.int 40)) ah))) (mC (.int 2))) ah)) (aW 1) (aC (aY (ay K2 cm (ae (ag 0) (ae (ag 1) ah))) (aW 2))
 (aC (aY (ay pd cm (ae (ag 2) ah)) (vV 3 (bD (aW 3) (bD (aW 4) (bD (aW 5) gv)))))
 (aC (aY (ay B5 cm (ae (ag 2) (ae (ag 3) (ae (ag 4) (ae (ag 5) ah))))) (aW 6))
 (dX (bH (ay (fT JZ) cm (ae (ag 6) ah))) (aC (dX (kE (bH (aG CG (ay (qJ Pr) cm (ae (ag 6) (ae (ag 4) (ae (ag 5) ah)))) (mC (.bool true)))) (bH (aG (sX true) (ay Jk cm (ae (ag 6) ah)) (mC .none)))) (bT (mC (.bool false))) cf)
 (aC (aY (ay cG cm (ae (ag 2) (ae (cL cV (ae (ag 4) ah)) ah))) (aW 7))
 (aC (aY (ay (f2 nQ) cm (ae (aG bL (ag 4) (ag 7)) (ae (aG bL (iu (ae (fw (ae (mC (.int 2)) (ae (mC (.int 1)) ah))) (ae (fw (ae (mC (.int 9)) (ae (mC (.int 10)) ah))) ah))) (ay cG cm (ae (ag 2) (ae (mC (.int 2)) ah)))) ah))) (aW 8))
 (aC (aY (aG fe (aG fe (Bm (ag 4) n8 (nZ (ag 7))) (fw (ae (ag 8) ah))) (Bm (ag 4) (nZ (aG fe (ag 7) (mC (.int 1)))) n8)) (aW 9))
 (aC (aY (cL iN (ae (bo 1 [] (bV (ag 4)) (aW 0) cb (ay (f2 nQ) cm (ae (ag 0) (ae (fw (ae (mC (.int 3)) (ae (mC (.int 7)) ah))) ah)))) ah)) (aW 10))
 (aC (aY (wg (ae (iu (ae (ag 10) (ae (ag 5) ah))) (ae (iu (ae (ag 9) (ae (ag 5) ah))) ah))) (aW 11))
 (aC (i8 (rX (ag 11) (ae (iu (ae (ay (wt 4) cm (ae (ag 2) (ae (ag 4) (ae (mC (.int 2)) ah)))) (ae (ag 5) ah))) ah)))
 (aC (i8 (rX (ag 11) (ae (iu (ae (ag 4) (ae (ay (wt 4) cm (ae (ag 2) (ae (ag 5) (ae (mC (.int 3)) ah)))) ah))) ah)))
 (aC (i8 (rX (ag 11) (ae (iu (ae (ag 4) (ae (aG fe (Bm (ag 5) (nZ (mC (.int 1))) n8) (Bm (ag 5) n8 (nZ (mC (.int 1))))) ah))) ah)))
 (KO 11 (aC (aY (aG fe (ag 11) (iu (ae (iu (ae (ay uo cm (ae (ag 2) ah)) (ae (ag 5) ah))) (ae (iu (ae (ag 4) (ae (ay uo cm (ae (ag 2) ah)) ah))) ah)))) (aW 11))
 (kF (bV (ag 11)) (aW 12) (aC (aY (ay (qJ Pr) cm (ae (ag 6) (ae (aG bL (ag 12) (mC (.int 0))) (ae (aG bL (ag 12) (mC (.int 1))) ah)))) (aW 13))
 (aC (dX (kE (iO (bH (n9 RS (ag 13)))) (bH (aG (j2 true) (ag 13) (ay B7 cm (ae (ag 6) (ae (aG bL (ag 12) (mC (.int 0))) (ae (aG bL (ag 12) (mC (.int 1))) ah))))))) (bT (mC (.bool false))) cf)
 (dX (iO (bH (ay BZ cm (ae (ag 6) (ae (aG bL (ag 12) (mC (.int 0))) ah))))) (bT (mC (.bool false))) cf))))))))))))))) cf)))))
 (bT (mC (.bool true))))
t%yE (r:List Int):(di r).length=r.length:=by unfold di;simp
t%RB {n g:Nat}{ts:List Int}{W D B:List (List Int)}(n1:1<=n)(n6:n<=6)(g1:1<=g)(g6:g<=6)(dl:qN n g ts W D)(b:ql n g ts D B)(h:JZ (iP B W)=true):BW n g B W/\W.length=B.length/\(∀r∈B,r.length=g)/\∀r∈W,r.length=g:=by
 have h:=zm.mp h;o%⟨B',W',g',e,hl,_,_,_,_,hB,hW,_,_⟩:=h;injection e with e
 injection e with e1 e2
 injection e2 with e2 _
 obtain rfl:=kO (M:=B) (N:=B') e1;obtain rfl:=kO (M:=W) (N:=W') e2;have bu:∀i,i<n->B.getD i []∈B:=fun i hi=>by rw[gj (Zc (show i<B.length by rw[b.bl];e%hi))];e%Zv _
 have hwm:∀i,i<n->W.getD i []∈W:=fun i hi=>by rw[gj (Zc (show i<W.length by rw[dl.wl];e%hi))];e%Zv _
 have hg:g'=g:=by rw[<- (hB _ (bu 0 n1)).1,b.br 0 n1]
 subst hg;r%⟨⟨n1,n6,g1,g6,b.bl,dl.wl,b.br,dl.wr,fun i j hi hj=>?_,fun i j hi hj=>?_⟩,hl,fun r hr=>(hB r hr).1,fun r hr=>(hW r hr).1⟩
 .have p9:j<(B.getD i []).length:=by rw[b.br i hi];e%hj
  have:=(hB _ (bu i hi)).2 ((B.getD i []).getD j 0) (by rw[gj (Zc p9)];e%Zv _);e%this
 .have:=dl.w0 i j hi hj;have:=dl.t0 j hj;unfold eI;omega
t%DT (Pr:Addr):∀O xs Pq QX,Qp O xs Pq QX->Dk Pr { nx:=fun _ O'=>Pq (.im .none) O',rt:=Pq } (bf Lb xs) O:=by
 intro O xs Pq QX h;o%⟨ns,rfl,UD,h⟩:=h;have bN:(if (40:Int)<(ns.length:Int) then (40:Int) else (ns.length:Int))+2<=42:=by split<;>omega
 have abt:0<=(if (40:Int)<(ns.length:Int) then (40:Int) else (ns.length:Int))+2:=by split<;>omega
 r%⟨⟨by dsimp only;omega,by dsimp only;omega⟩,fun i sl O'=>∃y1 y2 y3 y4 y5 y6 y7 y8 y9 m6 Bh vM EV,sl=[some (.rF ns),y1,y2,y3,y4,y5,y6,y7,y8,y9,m6,Bh,vM,EV],⟨_,_,_,_,_,_,_,_,_,_,_,_,_,rfl⟩,?_,?_⟩
 rotate_left
 .rintro sl O' _;e%⟨h O'⟩
 rintro i x sl O' hx ⟨y1,y2,y3,y4,y5,y6,y7,y8,y9,m6,Bh,vM,EV,rfl⟩;o%⟨hi,rfl⟩:=qy hx;have agY:i<42:=by dsimp only at hi;omega
 r%⟨⟨by omega,by omega⟩,fun bj=>⟨⟨bj,rfl⟩,fun n g ts W D O2 hG g1 g6 n1 n6 dl=>⟨rfl,?_⟩⟩⟩;show Go _ _ [some (.rF ns),some (.im (.int i)),some (.bag bj),some (.im (io ((List.range g).map (cu D)) (di (D.map fun r=>lT ts r g)) W)),some (.im (.tuple ((di ts).map qD))),some (.im (bC (D.map di))),y6,y7,y8,y9,m6,Bh,vM,EV] O2;r%⟨⟨bj,n,g,ts,W,D,_,rfl,g1,g6,n1,n6,dl,fun B O3 hG3 b=>?_⟩⟩;generalize io ((List.range g).map (cu D)) (di (D.map fun r=>lT ts r g)) W=mk;show Go _ _ [some (.rF ns),some (.im (.int i)),some (.bag bj),some (.im mk),some (.im (.tuple ((di ts).map qD))),some (.im (bC (D.map di))),some (.im (iP B W)),y7,y8,y9,m6,Bh,vM,EV] O3;r%⟨fun hm=>?_,fun _=>⟨_,_,_,_,_,_,_,_,_,_,_,_,_,rfl⟩⟩;o%⟨bw,bl2,hBr,hWr⟩:=RB n1 n6 g1 g6 dl b hm;o%⟨hh,Fy⟩:=xN dl b;have W5:=ES dl b;have RT:(di ts).length=g:=by rw[yE,dl.tl]
 have ue:∀z∈di ts,0<z/\Rb 4 z:=fun z hz=>by
  o%⟨t,ht,rfl⟩:=Zh.mp hz;o%⟨j,hj,rfl⟩:=List.getElem_of_mem ht;have:=dl.t0 j (by rw[<- dl.tl];e%hj);rw[gj (Zc hj)] at this;e%⟨(by have h0:(0:Int)<ts[j]:=g%;exact_mod_cast h0),wM (by unfold Bd;omega) d%⟩
 have U9:(D.map di).length=n:=by rw[Zb,dl.dl]
 have JR:∀r∈D.map di,r.length=g/\∀z∈r,0<=z/\Rb 4 z:=fun r hr=>by
  o%⟨r',iK,rfl⟩:=Zh.mp hr;o%⟨k,hk,rfl⟩:=List.getElem_of_mem iK;have UM:k<n:=by rw[<- dl.dl];e%hk
  have e:D.getD k []=D[k]:=gj (Zc hk);r%⟨by rw[yE,<- e];e%dl.dr k UM,fun z hz=>?_⟩;o%⟨t,ht,rfl⟩:=Zh.mp hz;o%⟨j,hj,rfl⟩:=List.getElem_of_mem ht;have:=dl.d0 k j UM (by rw[<- dl.dr k UM,e];e%hj);rw[e,gj (Zc hj)] at this;e%⟨(by have h0:(0:Int)<=D[k][j]:=g%;exact_mod_cast h0),wM (by unfold Bd;omega) d%⟩
 generalize Ic:di ts=qs at Fy RT ue ⊢;generalize hDD:D.map di=DQ at Fy U9 JR ⊢;have sp:bv (.tuple (qs.map qD))=true:=gx fun d hd=>by o%⟨z,hz,rfl⟩:=Zh.mp hd;e%jH ((ue z hz).2.mono d%)
 have sd:bv (bC DQ)=true:=qR fun r hr z hz=>((JR r hr).2 z hz).2.mono d%
 have XJ:ln 6 (.tuple (qs.map qD))=true:=kG.mpr ⟨by rw[Zb];omega,fun d hd=>by o%⟨z,_,rfl⟩:=Zh.mp hd;e%KQ d% z⟩;have Ui:ln 6 (bC DQ)=true:=Dp d% g% (fun r hr=>by rw[(JR r hr).1];omega);r%⟨n,g,B,W,_,_,rfl,bw,hh,sp,sd,⟨6,by decide,XJ⟩,⟨6,by decide,Ui⟩,DA RT (fun z hz=>(ue z hz).1) U9 (fun r hr=>⟨(JR r hr).1,fun z hz=>((JR r hr).2 z hz).1⟩) ?_⟩;rw[Fy];r%⟨fun z=>(by cases z),fun _=>⟨B,W,g,rfl,bl2,by rw[b.bl];e%n1,by rw[b.bl];e%n6,g1,g6,hBr,hWr,?_⟩⟩;rw[W5];r%⟨fun z=>(by cases z),fun _=>?_⟩;r%⟨⟨by rw[Zb];omega,by rw[Zb];omega⟩,fun a a0 a1=>?_⟩;rw[Zb] at a1;obtain⟨a,rfl⟩:∃a':Nat,a=(a':Int):=⟨a.toNat,by omega⟩;have ha:a<qs.length:=by omega
 have zA:=zo (xs:=qs.map qD) (r:=(a:Int)) g% (by rw[Zb];omega);have ng:=jN (xs:=qs.map qD) (r:=(a:Int)+1) g% (by rw[Zb];omega);rw[Zj] at zA;rw[show((a:Int)+1).toNat=a+1 by omega] at ng;have Y5:=ue (qs.getD a 0) (by rw[gj (Zc ha)];e%Zv ha);r%⟨_,aI (eF (f:=qD) (d:=0) ha),dY,dY,dY,⟨by decide,by decide⟩,fun c c0 c1=>?_⟩;obtain⟨f,hf,f0,fb⟩:∃f:Rat,iT [PyData.tuple [.int 2,.int 1],.tuple [.int 9,.int 10]] c=some (qD f)/\0<f/\Rb 4 f:=by
  rcases(show c=0\/c=1 by omega) with rfl |rfl
  .exact⟨2,rfl,by decide+kernel,by unfold Rb Bd;decide+kernel⟩
  .exact⟨Rat.divInt 9 10,rfl,by decide+kernel,by unfold Rb Bd;decide+kernel⟩
 r%⟨_,hf,qs.getD a 0,f,rfl,⟨Y5.2.mono d%,fb.mono d%⟩,?_⟩;r%⟨BO,by rw[zA,Yk,sz];simp;omega,by rw[zA,ng,Zn,Yk,List.length_drop,Zb,sz];simp;omega,?_⟩;rw[zA,ng];have hhi:(qs.map qD).take a++[qD (nQ (qs.getD a 0) f)]++(qs.map qD).drop (a+1)=(KM.put qs a (qs.getD a 0*f)).map qD:=by
  unfold KM.put nQ;rw[Zs,Zs,List.map_take,List.map_drop];rfl
 rw[hhi];have Y6:∀z∈KM.put qs a (qs.getD a 0*f),Rb 8 z:=fun z hz=>by
  unfold KM.put at hz;rcases Zp.mp hz with hz |hz
  .rcases Zp.mp hz with hz |hz
   .exact(ue z (List.mem_of_mem_take hz)).2.mono d%
   .rw[Yi.mp hz];e%mf Y5.2 fb
  .exact(ue z (List.mem_of_mem_drop hz)).2.mono d%
 have gk:(KM.put qs a (qs.getD a 0*f)).length=qs.length:=GR ha;generalize KM.put qs a (qs.getD a 0*f)=EW at Y6 gk ⊢;generalize qD (nQ (qs.getD a 0) f)=RL;show Go _ _ [some (.rF ns),some (.im (.int i)),some (.bag bj),some (.im mk),some (.im (.tuple (qs.map qD))),some (.im (bC DQ)),some (.im (iP B W)),some (.im (.int a)),some (.im RL),some (.im (.tuple (EW.map qD))),m6,Bh,vM,EV] O3;r%⟨?_⟩;conv=>whnf
 have OZ:Rb 3 (Rat.divInt 3 7):=by unfold Rb Bd;decide+kernel
 r%lK (fun j=>qD (nQ (qs.getD j 0) (Rat.divInt 3 7))) (by simp;omega) (fun j x Z hx hZ=>?_) ?_
 .have hj:j<qs.length:=by have:=(Zd.mp hx).1;simpa using this
  rw[Zg,eF (f:=qD) (d:=0) hj] at hx;cases Option.some.inj hx;e%⟨dY,qs.getD j 0,Rat.divInt 3 7,rfl,⟨(ue _ (by rw[gj (Zc hj)];e%Zv hj)).2.mono d%,OZ.mono d%⟩,hZ⟩
 rw[Zb,Zb,nS (fun q:Rat=>qD (nQ q (Rat.divInt 3 7))) qs 0];have hal:qs.map (fun q:Rat=>qD (nQ q (Rat.divInt 3 7)))=(qs.map fun q=>q*Rat.divInt 3 7).map qD:=by rw[Zi];rfl
 have OQ:∀z∈qs.map (fun q=>q*Rat.divInt 3 7),Rb 7 z:=fun z hz=>by
  o%⟨q,hq,rfl⟩:=Zh.mp hz;e%mf (ue q hq).2 OZ
 rw[hal];have lZ:(qs.map fun q=>q*Rat.divInt 3 7).length=qs.length:=by simp
 generalize (qs.map fun q=>q*Rat.divInt 3 7)=Fo at OQ lZ ⊢;r%⟨⟨dY,dY,dY,?_⟩⟩;have ext:∀(l:List AV) (x:AV),(O3++[some l]).set O3.length (some (l++[x]))=O3++[some (l++[x])]:=fun l x=>jA _ _ _
 have ssp:bv (.tuple (Fo.map qD))=true:=gx fun d hd=>by o%⟨z,hz,rfl⟩:=Zh.mp hd;e%jH ((OQ z hz).mono d%)
 have Wk:bv (.tuple (EW.map qD))=true:=gx fun d hd=>by o%⟨z,hz,rfl⟩:=Zh.mp hd;e%jH ((Y6 z hz).mono d%)
 have Uf:∀q:List Rat,q.length=qs.length->∃N,N<=1000000/\ln N (.tuple (q.map qD))=true:=fun q hq=>IZ g%
 r%⟨⟨⟨_,tY _ _⟩,bj,2,6,.tuple (qs.map qD),rfl,by decide,sp,XJ,by decide,by decide,fun d1 s1 l1=>⟨dY,_,tY _ _,by show 2<sizeLine;decide,?_⟩⟩⟩;rw[ext];r%⟨⟨⟨_,tY _ _⟩,bj,3,6,bC DQ,rfl,by decide,sd,Ui,by decide,by decide,fun d2 s2 l2=>⟨dY,_,tY _ _,by show 3<sizeLine;decide,?_⟩⟩⟩;rw[ext];have hDm:(DQ.map fun qs:List Rat=>PyData.tuple (qs.map qD)).length=n:=by rw[Zb];e%U9
 have Qa:=EH (xs:=DQ.map fun qs:List Rat=>PyData.tuple (qs.map qD)) g%;have Qi:=jN (xs:=DQ.map fun qs:List Rat=>PyData.tuple (qs.map qD)) (r:=(1:Int)) g% g%;r%⟨⟨⟨_,tY _ _⟩,by rw[Qa,Qi,Yk,List.length_drop,sz];simp;omega,dY,_,tY _ _,by show 4<sizeLine;decide,?_⟩⟩;rw[ext,Qa,Qi];have e1:(1:Int).toNat=1:=rfl;rw[e1];have WT:(DQ.map fun qs:List Rat=>PyData.tuple (qs.map qD)).drop 1++(DQ.map fun qs:List Rat=>PyData.tuple (qs.map qD)).take 1=(DQ.drop 1++DQ.take 1).map fun qs:List Rat=>PyData.tuple (qs.map qD):=by rw[Zs,List.map_drop,List.map_take]
 rw[WT];have Ux:∀r∈DQ.drop 1++DQ.take 1,r∈DQ:=fun r hr=>by
  rcases Zp.mp hr with z |z
  .exact List.mem_of_mem_drop z
  .exact List.mem_of_mem_take z
 have A9:(DQ.drop 1++DQ.take 1).length=n:=by rw[Zn,List.length_drop,Yk];omega
 generalize DQ.drop 1++DQ.take 1=DR at Ux A9 ⊢;r%⟨O3.length,[.list [.tuple (Fo.map qD),bC DQ],.list [.tuple (EW.map qD),bC DQ],.list [d1,bC DQ],.list [.tuple (qs.map qD),d2],.list [.tuple (qs.map qD),bC DR]],rfl,tY _ _,?_⟩;r%⟨⟨bj,rfl⟩,fun d3 h3=>⟨dY,⟨bj,rfl⟩,fun d4 h4=>⟨dY,dY,by show 5+2<=sizeLine;decide,?_⟩⟩⟩;have good:∀e∈[PyData.list [.tuple (Fo.map qD),bC DQ],.list [.tuple (EW.map qD),bC DQ],.list [d1,bC DQ],.list [.tuple (qs.map qD),d2],.list [.tuple (qs.map qD),bC DR],.list [d3,bC DQ],.list [.tuple (qs.map qD),d4]],∃p d,e=.list [p,d]/\bv p=true/\bv d=true/\(∃N,N<=1000000/\ln N p=true)/\∃N,N<=1000000/\ln N d=true:=by
  have lq:=Uf qs rfl;have lD:∃N,N<=1000000/\ln N (bC DQ)=true:=⟨6,by decide,Ui⟩;intro e he;simp only[Zf,List.not_mem_nil,or_false] at he;rcases he with rfl |rfl |rfl |rfl |rfl |rfl |rfl
  .exact⟨_,_,rfl,ssp,sd,Uf Fo lZ,lD⟩
  .exact⟨_,_,rfl,Wk,sd,Uf EW gk,lD⟩
  .exact⟨_,_,rfl,s1,sd,⟨7,by decide,l1⟩,lD⟩
  .exact⟨_,_,rfl,sp,s2,lq,⟨7,by decide,l2⟩⟩
  .exact⟨_,_,rfl,sp,qR fun r hr z hz=>((JR r (Ux r hr)).2 z hz).2.mono d%,lq,⟨6,by decide,Dp d% g% (fun r hr=>by rw[(JR r (Ux r hr)).1];omega)⟩⟩
  .exact⟨_,_,rfl,(kS d3 h3).2.1,sd,⟨3,by decide,(kS d3 h3).2.2⟩,lD⟩
  .exact⟨_,_,rfl,sp,(kS d4 h4).2.1,lq,⟨3,by decide,(kS d4 h4).2.2⟩⟩
 show Go _ _ [some (.rF ns),some (.im (.int i)),some (.bag bj),some (.im mk),some (.im (.tuple (qs.map qD))),some (.im (bC DQ)),some (.im (iP B W)),some (.im (.int a)),some (.im RL),some (.im (.tuple (EW.map qD))),some (.im (.tuple (Fo.map qD))),some (.im (.list [PyData.list [.tuple (Fo.map qD),bC DQ],.list [.tuple (EW.map qD),bC DQ],.list [d1,bC DQ],.list [.tuple (qs.map qD),d2],.list [.tuple (qs.map qD),bC DR],.list [d3,bC DQ],.list [.tuple (qs.map qD),d4]])),vM,EV] _;generalize [PyData.list [.tuple (Fo.map qD),bC DQ],.list [.tuple (EW.map qD),bC DQ],.list [d1,bC DQ],.list [.tuple (qs.map qD),d2],.list [.tuple (qs.map qD),bC DR],.list [d3,bC DQ],.list [.tuple (qs.map qD),d4]]=TY at good ⊢;r%⟨?_⟩;conv=>whnf
 r%⟨fun m sl O'=>∃vM EV,sl=[some (.rF ns),some (.im (.int i)),some (.bag bj),some (.im mk),some (.im (.tuple (qs.map qD))),some (.im (bC DQ)),some (.im (iP B W)),some (.im (.int a)),some (.im RL),some (.im (.tuple (EW.map qD))),some (.im (.tuple (Fo.map qD))),some (.im (.list TY)),vM,EV],⟨_,_,rfl⟩,?_,?_⟩
 .rintro m x sl O' hx ⟨vM,EV,rfl⟩;rw[Zg] at hx;cases he:TY[m]? with
  |none=>rw[he] at hx;cases hx
  |some e =>
   rw[he] at hx;cases Option.some.inj hx;o%⟨p,d,rfl,NA,Xz,Ug,XO⟩:=good e (Yc he);o%⟨v,hv⟩:=Nd n g B W p d;r%⟨_,rfl,_,rfl,n,g,B,W,p,d,rfl,bw,hh,NA,Xz,Ug,XO,hv _ ?_⟩;show Go _ _ [some (.rF ns),some (.im (.int i)),some (.bag bj),some (.im mk),some (.im (.tuple (qs.map qD))),some (.im (bC DQ)),some (.im (iP B W)),some (.im (.int a)),some (.im RL),some (.im (.tuple (EW.map qD))),some (.im (.tuple (Fo.map qD))),some (.im (.list TY)),some (.im (.list [p,d])),some (.im (.bool v))] O';r%⟨⟨fun z=>(by cases z),fun _=>⟨_,rfl,_,rfl,n,g,B,W,p,d,rfl,bw,NA,Xz,Ug,XO,hv _ fun O5 hG5=>⟨by show min 0 0<=60;decide,?_⟩⟩⟩⟩;have ev:qb (.bool v) (.bool v)=true:=by rw[jj];simp[PyData.eqv]
   rw[ev];r%⟨fun z=>(by cases z),fun _=>⟨⟨_,rfl,n,g,B,W,p,rfl,bw,hh,NA,Ug,fun O6 hG6=>⟨fun z=>(by cases z),fun _=>⟨_,_,rfl⟩⟩⟩⟩⟩
 .rintro sl O' ⟨vM,EV,rfl⟩;e%⟨_,_,_,_,_,_,_,_,_,_,_,_,_,rfl⟩
end MI
namespace jQ
open PySem L2 KG EX KM MI
section
variable {P:Program}{w:World}{K:PySem.W.Frag}{mg:Str->Option Value}{base:Heap}
t%fQ:ap Lb ["script"] (aX (top 82)):=L2.dj
t%Mt {f fB fT fD fK fI fL fA fM fR fO fU fG Pr:Addr}{fd dB dT dD dK dI dL dA dM dR dO dU dG:FuncData}(F:cE K "law" "law" (top 82) f fd)(N:Nm mg)(Z:rM K)
  (Bg:cC K mg P w base "_law_bag" 1 ["script","k"] (yc K) fB dB) (T:cC K mg P w base "_law_take" 1 ["bag","many"] jd fT dT) (Dl:cC K mg P w base "_law_dealt" 2 ["bag"] (cj K pd) fD dD) (Kb:cC K mg P w base "_law_known_barter" 3 ["bag","market","prices","dealing"] (cj K B5) fK dK) (Ib:cC K mg P w base "is_barter" 4 ["thing"] (spT JZ) fI dI) (Le:cC K mg P w base "lets_by" 8 ["barter","prices","dealing"] (cj K (qJ Pr)) fL dL)
  (Ba:cC K mg P w base "barred" 3 ["barter"] lc fA dA) (Mu:cC K mg P w base "_law_mul" 2 ["one","other"] (tX nQ) fM dM) (Re:cC K mg P w base "_law_replaced" 6 ["bag","thing","deep"] (cj K (wt 4)) fR dR) (Od:cC K mg P w base "_law_odd" 2 ["bag"] (cj K uo) fO dO) (Du:cC K mg P w base "_law_due" 5 ["barter","prices","dealing"] (cj K B7) fU dU) (Mr:cC K mg P w base "_law_market_right" 7 ["barter","prices"] (cj K BZ) fG dG):aM P w K mg base cP 10 f fd ["script"] (uw K):=by
 e%M4 (m8 F fQ (fun O xs P PX h=>by o%⟨ns,rfl,_⟩:=h;rfl) (fun bF A outer s H E QX hr=>⟨Dk Pr,(bS (zy PassesOwn.never rfl (rJ rfl N.range (au (pY (ft (AY rfl) Hz f% N.min boot_min (au (ft (Xh K) HB f% N.len PySem.boot_len (au (ai (pv 0)) aB)) (au bJ aB))) bJ) aB)) (cD (bG (i:=1) fQ.nd rfl l%)) (bS (gn (i:=2) fQ.nd rfl l% (cA Bg.ok M0 (hr.mono d%) rfl Bg.mg Bg.kp Bg.bd (au (ai (pv 0)) (au (ai (pv 1)) aB))))
 (bS (zw (cA Dl.ok iS (hr.mono d%) rfl Dl.mg Dl.kp Dl.bd (au (ai (pv 2)) aB)) (gL rfl (pZ (cD (bG (i:=3) fQ.nd rfl l%)) (pZ (cD (bG (i:=4) fQ.nd rfl l%)) (pZ (cD (bG (i:=5) fQ.nd rfl l%)) E2)))))
 (bS (gn (i:=6) fQ.nd rfl l% (cA Kb.ok iS (hr.mono d%) rfl Kb.mg Kb.kp Kb.bd (au (ai (pv 2)) (au (ai (pv 3)) (au (ai (pv 4)) (au (ai (pv 5)) aB))))))
 (cS (lL (tR (cA Ib.ok KR (hr.mono d%) rfl Ib.mg Ib.kp Ib.bd (au (ai (pv 6)) aB))) (bS (lL (PW.pt (gX (j0 Av Hy (cA Le.ok iS (hr.mono d%) rfl Le.mg Le.kp Le.bd (au (ai (pv 6)) (au (ai (pv 4)) (au (ai (pv 5)) aB)))) pX (ax _)) (gc (j0 G4 Hx (cA Ba.ok HC (hr.mono d%) rfl Ba.mg Ba.kp Ba.bd (au (ai (pv 6)) aB)) oX (ax _))))) (cS (fo pX)) lM)
 (bS (gn (i:=7) fQ.nd rfl l% (cA T.ok qd (hr.mono d%) rfl T.mg T.kp T.bd (au (ai (pv 2)) (au (ft aV kw f% N.len PySem.boot_len (au (ai (pv 4)) aB)) aB))))
 (bS (gn (i:=8) fQ.nd rfl l% (cA Mu.ok wj (hr.mono d%) rfl Mu.mg Mu.kp Mu.bd (au (bQ (ai (pv 4)) (ai (pv 7))) (au (bQ (rG (au (nR (au bJ (au bJ aB))) (au (nR (au bJ (au bJ aB))) aB))) (cA T.ok qd (hr.mono d%) rfl T.mg T.kp T.bd (au (ai (pv 2)) (au bJ aB)))) aB))))
 (bS (gn (i:=9) fQ.nd rfl l% (pY (pY (E7 (ai (pv 4)) E3 (E4 (ai (pv 7)))) (nR (au (ai (pv 8)) aB))) (E7 (ai (pv 4)) (E4 (pY (ai (pv 7)) bJ)) E3)))
 (bS (gn (i:=10) fQ.nd rfl l% (qz d8 vO f% N.tuple m9 (au (iQ (own:=["price"]) (cap:=[]) (ix:=[]) (aA.of (aX (top 82)).names Lb) rfl (kz (ai (pv 4))) (iR d%)
 (fun C fp s H=>⟨(cD (bG (i:=0) (show List.Nodup (["price"]:List Str) by decide+kernel) rfl l%)),iJ,(cA Mu.ok wj (hr.mono d%) rfl Mu.mg Mu.kp Mu.bd (au (ai (pv 0)) (au (nR (au bJ (au bJ aB))) aB)))⟩)) aB)))
 (bS (gn (i:=11) fQ.nd rfl l% (mj (au (rG (au (ai (pv 10)) (au (ai (pv 5)) aB))) (au (rG (au (ai (pv 9)) (au (ai (pv 5)) aB))) aB))))
 (bS (E5 (jh (ai (pv 11)) (au (rG (au (cA Re.ok iS (hr.mono d%) rfl Re.mg Re.kp Re.bd (au (ai (pv 2)) (au (ai (pv 4)) (au bJ aB)))) (au (ai (pv 5)) aB))) aB)))
 (bS (E5 (jh (ai (pv 11)) (au (rG (au (ai (pv 4)) (au (cA Re.ok iS (hr.mono d%) rfl Re.mg Re.kp Re.bd (au (ai (pv 2)) (au (ai (pv 5)) (au bJ aB)))) aB))) aB)))
 (bS (E5 (jh (ai (pv 11)) (au (rG (au (ai (pv 4)) (au (pY (E7 (ai (pv 5)) (E4 bJ) E3) (E7 (ai (pv 5)) E3 (E4 bJ))) aB))) aB)))
 (Db 11 (bS (gn (i:=11) fQ.nd rfl l% (pY (ai (pv 11)) (rG (au (rG (au (cA Od.ok iS (hr.mono d%) rfl Od.mg Od.kp Od.bd (au (ai (pv 2)) aB)) (au (ai (pv 5)) aB))) (au (rG (au (ai (pv 4)) (au (cA Od.ok iS (hr.mono d%) rfl Od.mg Od.kp Od.bd (au (ai (pv 2)) aB)) aB))) aB)))))
 (cS (zy PassesOwn.never rfl (kz (ai (pv 11))) (cD (bG (i:=12) fQ.nd rfl l%)) (bS (gn (i:=13) fQ.nd rfl l% (cA Le.ok iS (hr.mono d%) rfl Le.mg Le.kp Le.bd (au (ai (pv 6)) (au (bQ (ai (pv 12)) bJ) (au (bQ (ai (pv 12)) bJ) aB)))))
 (bS (lL (PW.pt (gX (tZ (tR (xx Z (ai (pv 13)) rfl N.isinstance rfl N.bool))) (gc (j0 (gU hr.units) gY (ai (pv 13)) (cA Du.ok iS (hr.mono d%) rfl Du.mg Du.kp Du.bd (au (ai (pv 6)) (au (bQ (ai (pv 12)) bJ) (au (bQ (ai (pv 12)) bJ) aB)))) (ax _))))) (cS (fo pX)) lM)
 (cS (lL (tZ (tR (cA Mr.ok iS (hr.mono d%) rfl Mr.mg Mr.kp Mr.bd (au (ai (pv 6)) (au (bQ (ai (pv 12)) bJ) aB))))) (cS (fo pX)) lM))))))))))))))))) lM))))))
 (cS (fo pX))),fun O xs Pq h=>DT Pr O xs Pq QX h⟩))
end
end jQ
namespace jQ
open PySem L2 KG EX KM
section
variable {P:Program}{w:World}{K:PySem.W.Frag}{mg:Str->Option Value}{base:Heap}
t%xj:ap ["one","other"] ["one","other"] (aX (top 65)):=L2.dj
t%xt {f fF:Addr}{fd dF:FuncData}(F:cE K "_law_div" "_law_div" (top 65) f fd)(G:cC K mg P w base "_law_frac" 1 ["top","bottom"] BH fF dF):aM P w K mg base cP 2 f fd ["one","other"] yb:=by
 r%F.ok xj (fun vs H Q E h=>?_) (fun bF A outer s H vs Q E hr h=>?_)
 .obtain⟨p,q,a,b,rfl,_⟩:=h;rfl
 .obtain⟨p,q,a,b,rfl,hp,hq,⟨ba,bb⟩,⟨bc,bd⟩,FF,k⟩:=h;have hb:=lJ a;have hn:=kP.mp FF;r%⟨_,de (eY (j1 G.ok hr rfl G.mg G.kp G.bd .nil cz (aR (cT t9 (cZ bI (pv 0) bE (fun _ _=>rfl)) (cZ bI (pv 1) bE (fun _ _=>rfl))) (aR (cT t9 (cZ bI (pv 0) bE (fun _ _=>rfl)) (cZ bI (pv 1) bE (fun _ _=>rfl))) bK)))),?_⟩;r%⟨_,rfl,p,_,_,_,rfl,rfl,aH.of hp,rfl,_,rfl,q,_,_,_,rfl,rfl,aH.of hq,rfl,_,_,rfl,rfl,⟨b3 ba,b3 bd⟩,_,rfl,p,_,_,_,rfl,rfl,aH.of hp,rfl,_,rfl,q,_,_,_,rfl,rfl,aH.of hq,rfl,_,_,rfl,rfl,⟨b3 bb,b3 bc⟩,?_⟩;e%⟨_,_,rfl,Int.mul_pos hb hn,b6 (bb.mul bc),fun r iK=>by rw[tu g%];e%k r iK⟩
end
section
variable {P:Program}{w:World}{K:PySem.W.Frag}{mg:Str->Option Value}{base:Heap}
m%VR:List Str:=["row","prices","rates","most"]
t%Ko:ap VR ["row","prices"] (aX (top 37)):=L2.dj
t%Ri {f fR fG:Addr}{fd dR dG:FuncData}(F:cE K "best_by_wishes" "best_by_wishes" (top 37) f fd)(N:Nm mg)(R:cC K mg P w base "rate" 4 ["wish","price"] wC fR dR)(G:cC K mg P w base "greatest" 2 ["parts"] Ch fG dG):aM P w K mg base cP 5 f fd ["row","prices"] FN:=by
 r%F.ok Ko (fun vs H Q E h=>?_) (fun bF A' outer s H vs Q E hr h=>?_)
 .obtain⟨r,q,ns,ys,qs,rfl,_⟩:=h;rfl
 .obtain⟨r,q,ns,ys,qs,rfl,Y3,hq,hf,bN,h6,U5,ZS,ee,k⟩:=h;have tV:cR 2 _:=hr.mono d%;have hu:=hr.units;have hu1:=Rt hr;r%⟨_,d9 (lI (i:=2) Ko.nd rfl (Or.inr rfl) (D5 (own:=["good","wish"]) (cap:=["prices"]) (ix:=[1]) (aA.of (aX (top 37)).names VR) rfl (kQ rfl N.enumerate NG (aR (pv 0) bK))
    (fun C fp s H=>⟨gF (n:=2) rfl (rH (bG (i:=0) (show List.Nodup (["good","wish","prices"]:List Str) by decide+kernel) rfl l%) (rH (bG (i:=1) (show List.Nodup (["good","wish","prices"]:List Str) by decide+kernel) rfl l%) E6)),
     gh (qw i0 (pv 1) bE (ax _)),pv 0,j1 R.ok hr rfl R.mg R.kp R.bd .nil cz (aR (pv 1) (aR (cZ bI (pv 2) (pv 0) (fun _ _=>rfl)) bK))⟩)))
   (d9 (d6 (vW (pr (pv 2) (fun _=>rfl))) (de (eY (gG bK))) tT)
   (d9 (lI (i:=3) Ko.nd rfl (Or.inr rfl) (j1 G.ok tV rfl G.mg G.kp G.bd .nil cz (aR (NE (mx rfl) f% N.list boot_list (aR (L6 PySem.F.plainAttrs_dict PySem.F.slot_dict_values PySem.F.type_dict_values AA (pv 2)) bK)) bK)))
   (de (eY (NE d8 f% N.tuple m9 (aR (ua (own:=["good"]) (cap:=["most","rates"]) (ix:=[3,2]) (aA.of (aX (top 37)).names VR) rfl (GY (pv 2))
    (fun C fp s H=>⟨bG (i:=0) (show List.Nodup (["good","most","rates"]:List Str) by decide+kernel) rfl l%,gh (qw (wR hu) (G2 hu1 (pv 2) (pv 0) (fun _ _=>rfl)) (pv 1) (ax _)),pv 0⟩)) bK)))))),?_⟩
  have NL:∀j,0<=ns.getD j 0:=fun j=>by
   by_cases hj:j<ns.length
   .have:ns.getD j 0∈ns:=by simp[List.getD,Zc hj]
    e%(U5 _ this).1
   .simp[List.getD,Yo (Nat.le_of_not_lt hj)]
  r%⟨_,rfl,r,rfl,⟨_,aH.of Y3⟩,fun acc bt=>?_⟩;r%xI (xs:=ns.map V.int) (fun i kvs H'=>ak H H'/\ug ns qs i kvs H') ⟨(ak.refl H).acc bt,⟨rfl,⟨rfl,fun j y z=>by simp at z⟩⟩⟩ (fun i zs H' _ _ z=>aH.of (z.1 _ _ Y3)) ?_ ?_
  .rintro i x kvs H1 H2 hx hy ⟨s1,rt⟩ s2;obtain⟨n,hn,rfl⟩:∃n:Int,ns[i]?=some n/\x=V.int n:=by
    rw[Zg] at hx;cases e:ns[i]? with
    |none=>rw[e] at hx;cases hx
    |some n=>rw[e] at hx;e%⟨n,rfl,by simpa using hx.symm⟩
   have hi:i<ns.length:=(Zd.mp hn).1;have Sd:ns.getD i 0=n:=by simp[List.getD,hn]
   have vN:=s1.trans s2;r%⟨_,rfl,_,_,rfl,rfl,_,rfl,?_⟩;by_cases h0:0<n
   .rw[decide_eq_true h0];o%⟨aq,eq1,ue⟩:=hf.at (g:=i) g%;have bn:=U5 n (Yc hn);have x0:=ee i (by rw[Sd];e%h0);have bx:Rb 300 (qs.getD i 0):=by
     have:qs.getD i 0∈qs:=by simp[List.getD,Zc (show i<qs.length by omega)]
     e%ZS _ this
    r%aU ⟨_,rfl,_,rfl,_,rfl,_,rfl,q,_,_,_,rfl,rfl,aH.of (vN _ _ hq),eq1,n,aq,_,rfl,vN _ _ ue,bx,x0,bn.1,bn.2,fun t H3 s3 ht=>?_⟩;have Om:=s3 _ _ (s2 _ _ hy);have ki:(V.int (i:Int))=kV (oh i):=rfl;have N1:=(rt.az s2).az s3;have tm3:Tm H3 (aK H3 acc (.dK (mT kvs (oh i) (.ref t)))):=fun a xs ha=>by rw[dH (IM ha Om (by intro z;cases z))];e%ha
    r%⟨kvs,oh i,Om,ki,?_,Io.of cQ ⟨(vN.trans s3).acc bt,(N1.put (by rw[Sd];e%h0) ?_).tm tm3⟩⟩
    .have:=rt.len;have:=uV ns i;rw[sz];omega
    .unfold dZ;rw[Sd];e%ht
   .rw[decide_eq_false h0];r%bB (Io.of (s2 _ _ hy) ⟨vN,(rt.skip (by rw[Sd];e%h0)).az s2⟩)
  .rintro kvs H1 hy ⟨s1,rt⟩;rw[Zb] at rt;have Ih:=rt.len;have gk:=uV ns ns.length;r%⟨_,rfl,_,.inr (.inr ⟨kvs,hy,rfl⟩),?_⟩;cases OH:kvs.isEmpty with
   |true =>
    have KW:kvs=[]:=List.isEmpty_iff.mp OH;subst KW;have Ot:fc ns ns.length=[]:=List.length_eq_zero_iff.mp Ih.symm;r%aU ⟨by show 0<=sizeLine;decide,fun t ht=>k t _ (s1.new ht) ?_⟩;rw[A0 NL Ot];e%cQ
   |false =>
   have KW:kvs≠[]:=fun z=>by rw[z] at OH;cases OH
   r%bB ?_;r%⟨_,rfl,.inr (.inr (.inl ⟨rfl,.inl ⟨_,hy⟩⟩)),acc,kvs,rfl,rfl,hy,fun v hv=>?_⟩;have s2:=(ak.refl H1).new (o:=oQ v acc) hv;r%⟨v,acc,kvs,rfl,cQ,.inl (s2 _ _ hy),fun l hl=>?_⟩;have s3:=s2.new (o:=.lst (kvs.map (·.2))) hl;have N1:=rt.az s3;r%⟨l,_,_,rfl,cQ,N1.fr,?_,?_,fun a m ha hm qi=>?_⟩
   .intro z;have:=congrArg List.length z;rw[Zb,<- Ih] at this;e%KW (List.length_eq_zero_iff.mp this)
   .intro z hz;o%⟨j,hj,rfl⟩:=Zh.mp hz;o%⟨jl,jp⟩:=sM hj;unfold dZ;have bq:Rb 300 (qs.getD j 0):=by
     have:qs.getD j 0∈qs:=by simp[List.getD,Zc (show j<qs.length by omega)]
     e%ZS _ this
    have bn:Bd 300 (ns.getD j 0):=by
     have:ns.getD j 0∈ns:=by simp[List.getD,Zc jl]
     have:=U5 _ this;e%Bd.mono (j:=7) (by unfold Bd;omega) d%
    e%(GN bn bq (ee j jp)).mono d%
   generalize aK (aK H1 v (oQ v acc)) l (.lst (kvs.map (·.2)))=H3 at s3 N1 ha ⊢;have Om:=s3 _ _ hy;r%⟨_,rfl,acc,kvs,rfl,Om,fun o ox fV=>?_⟩;have abu:H acc=none:=bt;have dh:ox≠acc:=fun z=>by rw[z,cQ] at fV;cases fV
   have h3n:H3 ox=none:=by rw[dH dh] at fV;e%fV
   have NC:=s1.trans s3;have Xt:Tm H3 (aK H3 acc (.jU o (.dK kvs))):=fun a xs ha=>by rw[dH (IM ha Om (by intro z;cases z))];e%ha
   have s4:ak H (aK H3 acc (.jU o (.dK kvs))):=NC.acc bt;have XC:=N1.tm Xt;have ZW:=Xt _ _ ha;have UU:(aK H3 acc (.jU o (.dK kvs))) acc=some (.jU o (.dK kvs)):=cQ;generalize aK H3 acc (.jU o (.dK kvs))=H4 at s4 XC ZW UU fV ⊢;r%AW (kvs:=kvs) (fun i zs H'=>ak H4 H'/\zs=oB (((fc ns ns.length).take i).filter fun j=>decide (dZ ns qs j=m))) ⟨(ak.refl H4).acc fV,rfl⟩ (fun i zs H' _ _ z=>z.1 _ _ UU) ?_ ?_
   .rintro i kk vv zs H5 RV hz ⟨s5,rfl⟩;o%⟨j,aj,hj,rfl,rfl,haj,WR⟩:=XC.at RV;have hjm:=Yc hj;r%⟨_,rfl,_,rfl,acc,_,rfl,.inl ⟨kvs,oh j,.inr ⟨o,s5 _ _ UU⟩,rfl,WR.symm⟩,_,rfl,?_⟩;r%⟨qD (dZ ns qs j),qD m,II (s5 _ _ haj),II (s5 _ _ ZW),Ye (Nat.min_le_left _ _) (Ye (Jm _) d%),_,rfl,?_⟩;rw[sx];have hil:i<(fc ns ns.length).length:=(Zd.mp hj).1;cases hd:decide (dZ ns qs j=m) with
    |true =>
     r%aU ⟨_,rfl,_,hz,?_,Cn.of cQ ⟨s5.acc fV,?_⟩⟩
     .unfold oB;have:=List.length_filter_le (fun j=>decide (dZ ns qs j=m)) ((fc ns ns.length).take i);have h3:((fc ns ns.length).take i).length<=i:=List.length_take_le _ _;rw[Zb,sz];omega
     .rw[HZ hj,List.filter_append];have e1:[j].filter (fun j=>decide (dZ ns qs j=m))=[j]:=by simp only[List.filter,hd]
      rw[e1];unfold oB;rw[Zs];rfl
    |false =>
     r%bB (Cn.of hz ⟨s5,?_⟩);rw[HZ hj,List.filter_append];have e1:[j].filter (fun j=>decide (dZ ns qs j=m))=[]:=by simp only[List.filter,hd]
     rw[e1,Yg]
   .rintro zs H5 hz ⟨s5,rfl⟩;rw[Ih,List.take_length] at hz;r%⟨ox,_,rfl,.inl ⟨bz.of hz,fun t ht=>?_⟩⟩;r%k t _ ((s4.trans s5).new ht) ?_;rw[ER ee NL hm qi];e%cQ
end
section
variable {P:Program}{w:World}{K:PySem.W.Frag}{mg:Str->Option Value}{base:Heap}
t%QT:ap ["dealing","good"] ["dealing","good"] (aX (top 27)):=L2.dj
t%Mw {f fT:Addr}{fd dT:FuncData}(F:cE K "got_in_all" "got_in_all" (top 27) f fd)(T:cC K mg P w base "total" 4 ["parts"] qE fT dT):aM P w K mg base cP 5 f fd ["dealing","good"] ya:=by
 r%F.ok QT (fun vs H Q E h=>?_) (fun bF A' outer s H vs Q E hr h=>?_)
 .obtain⟨q,zs,D,g,n,rfl,_⟩:=h;rfl
 .obtain⟨q,zs,D,g,n,rfl,dl,hg,k⟩:=h;r%⟨_,de (eY (j1 T.ok hr rfl T.mg T.kp T.bd .nil cz (aR (ua (own:=["row"]) (cap:=["good"]) (ix:=[1]) (aA.of (aX (top 27)).names ["dealing","good"]) rfl (rS (pv 0))
   (fun C fp s H=>⟨bG (i:=0) (show List.Nodup (["row","good"]:List Str) by decide+kernel) rfl l%,xU,cZ bI (pv 0) (pv 1) (fun _ _=>rfl)⟩)) bK))),?_⟩
  r%⟨_,rfl,q,rfl,⟨_,aH.of dl.hq⟩,fun acc bt=>?_⟩;r%lm (xs:=zs) (fun i ws H'=>ak H H'/\lR H' ws ((D.take i).map fun qs=>qs.getD g 0)) ⟨(ak.refl H).acc bt,rfl,fun j y hy=>by simp at hy⟩ (fun i ws H' _ _ z=>aH.of (z.1 _ _ dl.hq)) ?_ ?_
  .rintro i x ws H1 hx hz ⟨s1,OU⟩;o%⟨a,ys,qs,hD,rfl,ha,fq⟩:=(dl.fr.az s1).2 i x hx;have hqn:=dl.len qs (Yc hD);o%⟨c,ec,U4⟩:=fq.at (g:=g) g%;have hi:i<D.length:=(Zd.mp hD).1;have zS:=dl.Vo;r%ut ⟨_,rfl,_,rfl,a,_,_,_,rfl,rfl,aH.of ha,ec,ws,hz,by rw[OU.1,Zb,Yk,sz];omega,Cn.of cQ ⟨s1.acc bt,?_⟩⟩;rw[HZ hD,Zs];e%(OU.app (a:=c) U4).tm (Tm.lst hz)
  .rintro ws H1 hz ⟨s1,OU⟩;rw[dl.fr.1,List.take_length] at OU;have zS:=dl.Vo;r%⟨acc,ws,_,rfl,hz,OU,fun z A8=>?_,by rw[Zb];omega,fun r H2 s2 e2=>k r H2 (s1.trans s2) e2⟩;o%⟨qs,Ic,rfl⟩:=Zh.mp A8;e%(sK d% (dl.bd qs Ic) g).mono d%
t%Ws:ap ["best","dealing"] ["best","dealing"] (aX (top 42)):=L2.dj
t%Ek {f:Addr}{fd:FuncData}(F:cE K "gives_best" "gives_best" (top 42) f fd)(N:Nm mg):aM P w K mg base cP 1 f fd ["best","dealing"] nv:=by
 r%F.ok Ws (fun vs H Q E h=>?_) (fun bF A' outer s H vs Q E hr h=>?_)
 .obtain⟨pb,q,xb,zs,B,D,n,rfl,_⟩:=h;rfl
 .obtain⟨pb,q,xb,zs,B,D,n,rfl,hb,rb,dl,UF,hBD,k⟩:=h;have nd:List.Nodup (["buyer","row","good","part","best"]:List Str):=by decide+kernel
  r%⟨_,de (eY (jP (iI rfl) f% N.all A6 (aR (D7 (own:=["buyer","row","good","part"]) (cap:=["best"]) (ix:=[0]) (aA.of (aX (top 42)).names ["best","dealing"]) rfl (kQ rfl N.enumerate NG (aR (pv 1) bK))
    (fun C fp s H=>⟨gF (n:=2) rfl (rH (bG (i:=0) nd rfl l%) (rH (bG (i:=1) nd rfl l%) E6)),xU,(kQ rfl N.enumerate NG (aR (pv 1) bK)),
     gF (n:=2) rfl (rH (bG (i:=2) nd rfl l%) (rH (bG (i:=3) nd rfl l%) E6)),xU,
     Q5 (vY yj (cZ bI (pv 3) bE (fun _ _=>rfl)) bE (ax _)) (gH (vY yl (pv 2) (cZ bI (pv 4) (pv 0) (fun _ _=>rfl)) (by with_unfolding_all rfl)))⟩)) bK))),?_⟩
  have zS:=dl.Vo;have Ur:zs.length=D.length:=dl.fr.1;r%⟨_,rfl,q,rfl,⟨_,aH.of dl.hq⟩,fun acc bt=>?_⟩;have oj:∀i,i<zs.length->∃(a:Addr) (ys:List V),zs[i]?=some (.ref a)/\H a=some (.tup ys)/\lR H ys (D.getD i [])/\ys.length=n:=fun i hi=>by
   o%⟨a,ys,qs,hD,e,ha,fr⟩:=dl.fr.2 i zs[i] (Zc hi);have eD:D.getD i []=qs:=by simp[List.getD,hD]
   e%⟨a,ys,by rw[Zc hi,e],ha,by rw[eD];e%fr,by rw[fr.1];e%dl.len qs (Yc hD)⟩
  let c:Nat->Addr:=fun i=>if h:i<zs.length then (oj i h).choose else 0
  let yr:Nat->List V:=fun i=>if h:i<zs.length then (oj i h).choose_spec.choose else []
  have hc:∀i,i<zs.length->zs[i]?=some (.ref (c i))/\H (c i)=some (.tup (yr i))/\lR H (yr i) (D.getD i [])/\(yr i).length=n:=fun i hi=>by
   have:=(oj i hi).choose_spec.choose_spec;show zs[i]?=some (.ref (if h:i<zs.length then (oj i h).choose else 0))/\H (if h:i<zs.length then (oj i h).choose else 0)=some (.tup (if h:i<zs.length then (oj i h).choose_spec.choose else []))/\lR H (if h:i<zs.length then (oj i h).choose_spec.choose else []) (D.getD i [])/\(if h:i<zs.length then (oj i h).choose_spec.choose else []).length=n;simp only[dif_pos hi];e%this
  clear_value c yr
  r%EK (xs:=zs) (cs:=[some (.ref pb)]) (x0:=none) (x1:=none) (x2:=none) (x3:=none) c yr (fun i j ws H'=>ak H H'/\ws=fZ B D n i j) (fun i hi=>(hc i hi).1) ⟨(ak.refl H).acc bt,rfl⟩ (fun i j ws H' _ z=>⟨aH.of (z.1 _ _ dl.hq),fun hi=>aH.of (z.1 _ _ (hc i hi).2.1)⟩) (fun i j ws H' H1 z s=>⟨z.1.trans s,z.2⟩) ?_ (fun i ws H' hi z=>⟨z.1,by rw[z.2,(hc i hi).2.2.2];e%xG B D n i⟩) ?_
  .rintro i j y ws H1 hi hy hz ⟨s1,rfl⟩;o%⟨_,ZP,fri,Fx⟩:=hc i hi;o%⟨cq,qq,rfl,U4,hqq⟩:=nJ fri hy;have hj:j<n:=by rw[<- Fx];e%(Zd.mp hy).1
   have eq:(D.getD i []).getD j 0=qq:=by rw[List.getD_eq_getElem?_getD,hqq];rfl
   have hfl:=AN B D n i j;have hsz:(fZ B D n i j).length<sizeLine:=by
    rw[hfl,sz];have:i*n<=6*6:=Nat.mul_le_mul g% UF;omega
   have ZT:i<xb.length:=by rw[rb.len,hBD];omega
   o%⟨row,ar,hBi,er,R3⟩:=rb.at (Zc ZT);have eB:B.getD i []=row:=by simp[List.getD,hBi]
   r%⟨_,rfl,cq,_,_,_,rfl,rfl,aH.of (s1 _ _ U4),rfl,rfl,_,rfl,?_⟩;rw[Em];have kB:∀v,v=fX B D i j->∃us,H1 acc=some (.lst us)/\us.length<sizeLine/\NS (some (.int (i:Int))) (some (.ref (c i))) [some (.ref pb)] acc (fun ws H'=>ak H H'/\ws=fZ B D n i (j+1)) [some (.int (i:Int)),some (.ref (c i)),some (.int (j:Int)),some (.ref cq),some (.ref pb)] (aK H1 acc (.lst (us++[V.bl v]))):=fun v ev =>
    ⟨_,hz,hsz,NS.of cQ ⟨s1.acc bt,by rw[xF,ev]⟩⟩
   by_cases h0:qq=0
   .rw[decide_eq_true h0];e%aU (kB true (by unfold fX;rw[eq,decide_eq_true h0];rfl))
   .rw[decide_eq_false h0];have ea:xb[i]?=some (.ref ar):=by rw[Zc ZT,er]
    r%bB ⟨_,rfl,_,rfl,_,rfl,pb,_,_,_,rfl,rfl,aH.of (s1 _ _ hb),fj ea,ar,_,rfl,.inr (aH.of (s1 _ _ R3)),rfl,ij row,?_⟩;have Vu:(if false=true then !Bq (V.int (j:Int)) (row.map V.int) else Bq (V.int (j:Int)) (row.map V.int))=row.contains (j:Int):=by rw[if_neg d%,Ey]
    rw[Vu];e%kB _ (by unfold fX;rw[eq,decide_eq_false h0,eB];rfl)
  .rintro ws H1 hz ⟨s1,rfl⟩;rw[Ur] at hz;r%⟨acc,_,rfl,.inl (bz.of hz),vF _ _ _ _ _,?_⟩;rw[AO];e%k H1 s1
end
end jQ
namespace MI
open PySem L2 KG EX KM
n%dJ (K:PySem.W.Frag)(nm:Str)(st:Stmt)(f:Addr):Prop:=∃(oc:Value) (od:Option Addr) (kV dc pm:Value) (an:Option Addr) (cd ct:Value) (sl:Array (Option Value)),PySem.W.nsIn K mainGlobals nm=some (some (.ref f))/\K.lookup f=some ⟨oc,od,.func (PySem.W.fnOf nm nm (jE st) (Bn st) (aX st) .none kV dc pm an cd ct),sl⟩/\PySem.W.codeIn K cd nm=true/\PySem.W.keepIn K (.ref f)=true
t%el1 {P:List Value->Prop}(h:∀a,P [a]):∀us:List Value,us.length=1->P us
 |[a],_=>h a
t%el2 {P:List Value->Prop}(h:∀a b,P [a,b]):∀us:List Value,us.length=2->P us
 |[a,b],_=>h a b
t%el3 {P:List Value->Prop}(h:∀a b c,P [a,b,c]):∀us:List Value,us.length=3->P us
 |[a,b,c],_=>h a b c
t%el4 {P:List Value->Prop}(h:∀a b c d,P [a,b,c,d]):∀us:List Value,us.length=4->P us
 |[a,b,c,d],_=>h a b c d
end MI
namespace jQ
open PySem L2 KG EX KM MI
macro "b1%" : term=>`(fun _ _ _ _ _ _ us hl=>el1 (P:=fun us=>bindArgs _ ⟨us,[]⟩=pure (List.zip _ us)) (fun _=>rfl) us hl)
macro "b2%" : term=>`(fun _ _ _ _ _ _ us hl=>el2 (P:=fun us=>bindArgs _ ⟨us,[]⟩=pure (List.zip _ us)) (fun _ _=>rfl) us hl)
macro "b3%" : term=>`(fun _ _ _ _ _ _ us hl=>el3 (P:=fun us=>bindArgs _ ⟨us,[]⟩=pure (List.zip _ us)) (fun _ _ _=>rfl) us hl)
macro "b4%" : term=>`(fun _ _ _ _ _ _ us hl=>el4 (P:=fun us=>bindArgs _ ⟨us,[]⟩=pure (List.zip _ us)) (fun _ _ _ _=>rfl) us hl)
macro "b5%" : term=>`(fun _ _ _ _ _ _ us hl=>el5 (P:=fun us=>bindArgs _ ⟨us,[]⟩=pure (List.zip _ us)) (fun _ _ _ _ _=>rfl) us hl)
macro "a%" a:ident l:ident c:ident k:ident : tactic=>`(tactic| o%⟨_,_,_,_,_,_,_,_,_,$a,$l,$c,$k⟩:=$a)
syntax "a%" : term
syntax "c%" : term
syntax "cX%" : term
syntax "cH%" : term
set_option hygiene false in
macro "c%" v:ident n:str k:num ps:term:max s:term:max f:ident t:term:max a:ident kk:ident b:ident : tactic=>`(tactic| have $v : cC K mg l.prog w base $n $k $ps $s $f _:=⟨$t,PySem.W.mg_of X G $a,$kk,$b⟩)
set_option hygiene false in
macro "cX%" v:ident n:str k:num ps:term:max s:term:max f:ident t:term:max a:ident kk:ident b:ident : tactic=>`(tactic| have $v : mY K mg l.prog w base $n $k $ps $s $f _:=⟨$t,PySem.W.mg_of X G $a,$kk,$b⟩)
set_option hygiene false in
macro "cH%" v:ident n:str k:num ps:term:max s:term:max f:ident t:term:max a:ident kk:ident b:ident : tactic=>`(tactic| have $v : QB K mg l.prog w base $n $k $ps $s $f _:=⟨$t,PySem.W.mg_of X G $a,$kk,$b⟩)
t%all_mk {l:PySem.W.OpenLaw}{w:World}{K:PySem.W.Frag}{h:Heap}{mg:Str->Option Value}{fa:Addr}(X:K.In h)(G:h.Ns mainGlobals mg)(hfa:mg "law"=some (.ref fa))
  {f0 f1 f2 f3 f4 f5 f6 f7 f8 f9 f10 f11 f12 f13 f14 f15 f16 Ω Ψ Φ Ξ Λ Θ Δ Γ ω ψ Vq χ υ τ ρ π ο ξ ν ι Vp θ η ζ ε δ γ Z' Y' V' U' T' S' R' N' L' Z9 Z8 Z7 f56 M Nn Mk Pr De Un Bu Go No Dl Tx Ro:Addr}{tk0:Tok}{tk1:Tok}{TF:Tok}{tk3:Tok}
  (a0:dJ K "is_whole" (top 14) f0)
  (a1:dJ K "is_fraction" (top 15) f1)
  (a2:dJ K "common_divisor" (top 16) f2)
  (a3:dJ K "fraction" (top 17) f3)
  (a4:dJ K "plus" (top 18) f4)
  (a5:dJ K "times" (top 19) f5)
  (a6:dJ K "over" (top 20) f6)
  (a7:dJ K "less" (top 21) f7)
  (a8:dJ K "total" (top 22) f8)
  (a9:dJ K "greatest" (top 23) f9)
  (Ta:dJ K "is_dealing" (top 25) f10)
  (S9:dJ K "is_dealt_row" (top 26) f11)
  (S8:dJ K "got_in_all" (top 27) f12)
  (S7:dJ K "wished" (top 32) f13)
  (S6:dJ K "are_prices" (top 34) f14)
  (S5:dJ K "need_prices" (top 35) f15)
  (S4:dJ K "best_goods" (top 36) f16)
  (S3:dJ K "best_by_wishes" (top 37) Ω)
  (S1:dJ K "rate" (top 38) Ψ)
  (S0:dJ K "shows" (top 40) Φ)
  (SY:dJ K "sells_all" (top 41) Ξ)
  (SX:dJ K "gives_best" (top 42) Λ)
  (SW:dJ K "spends_all" (top 43) Θ)
  (SV:dJ K "is_barter" (top 46) Δ)
  (SU:dJ K "is_table" (top 47) Γ)
  (SS:dJ K "is_row" (top 48) ω)
  (SR:dJ K "leaves_none_out" (top 49) ψ)
  (Pb:dJ K "columns" (top 50) Vq)
  (SQ:dJ K "market_at" (top 51) χ)
  (SO:dJ K "money_for" (top 52) υ)
  (SN:dJ K "lets_by" (top 53) τ)
  (SM:dJ K "barred" (top 54) ρ)
  (a32:dJ K "shut_in_with" (top 55) π)
  (SK:dJ K "brings_wished" (top 56) ο)
  (SJ:dJ K "goods_only_brought" (top 57) ξ)
  (SH:dJ K "_law_bag" (top 59) ν)
  (SG:dJ K "_law_take" (top 60) ι)
  (Pa:dJ K "_law_frac" (top 61) Vp)
  (SF:dJ K "_law_add" (top 62) θ)
  (SE:dJ K "_law_mul" (top 64) η)
  (SD:dJ K "_law_div" (top 65) ζ)
  (SA:dJ K "_law_sum" (top 67) ε)
  (Sz:dJ K "_law_is_fraction" (top 68) δ)
  (Sy:dJ K "_law_best" (top 69) γ)
  (Sx:dJ K "_law_is_dealing" (top 70) Z')
  (Sv:dJ K "_law_wished" (top 71) Y')
  (Ss:dJ K "_law_shows" (top 72) V')
  (Sr:dJ K "_law_odd" (top 73) U')
  (O9:dJ K "_law_replaced" (top 74) T')
  (So:dJ K "_law_kinds" (top 75) S')
  (Sn:dJ K "_law_known_barter" (top 76) R')
  (Sm:dJ K "_law_dealt" (top 77) N')
  (Sl:dJ K "_law_market_of" (top 78) L')
  (Sk:dJ K "_law_are_prices" (top 79) Z9)
  (Sj:dJ K "_law_due" (top 80) Z8)
  (Si:dJ K "_law_market_right" (top 81) Z7)
  (O7:dJ K "law" (top 82) f56)
  (z0:PySem.W.nsIn K mainGlobals "len"=some none)
  (z1:PySem.W.nsIn K mainGlobals "range"=some none)
  (z2:PySem.W.nsIn K mainGlobals "tuple"=some none)
  (z3:PySem.W.nsIn K mainGlobals "list"=some none)
  (z4:PySem.W.nsIn K mainGlobals "all"=some none)
  (z5:PySem.W.nsIn K mainGlobals "any"=some none)
  (z6:PySem.W.nsIn K mainGlobals "max"=some none)
  (z7:PySem.W.nsIn K mainGlobals "min"=some none)
  (z8:PySem.W.nsIn K mainGlobals "sum"=some none)
  (z9:PySem.W.nsIn K mainGlobals "abs"=some none)
  (Tp:PySem.W.nsIn K mainGlobals "int"=some none)
  (Tn:PySem.W.nsIn K mainGlobals "isinstance"=some none)
  (Tl:PySem.W.nsIn K mainGlobals "bool"=some none)
  (Tk:PySem.W.nsIn K mainGlobals "enumerate"=some none)
  (Tj:PySem.W.nsIn K mainGlobals "ValueError"=some none)
  (J3:PySem.W.nsIn K mainGlobals "zip"=some none)
  (sA:PySem.W.nsIn K mainGlobals "sorted"=some none)
  (jx:PySem.W.nsIn K mainGlobals "MOST_GOODS"=some (some (.int 6 tk0)))
  (iD:PySem.W.nsIn K mainGlobals "MOST_BUYERS"=some (some (.int 6 tk1)))
  (gN:PySem.W.nsIn K mainGlobals "MOST_BROUGHT"=some (some (.int 10 TF)))
  (kq:PySem.W.nsIn K mainGlobals "MOST_WISH"=some (some (.int 100 tk3)))
  (gM:PySem.W.nsIn K mainGlobals "MartError"=some (some (.ref M)))
  (Vi:PySem.W.nsIn K mainGlobals "NoNumber"=some (some (.ref Nn)))
  (Vj:PySem.W.nsIn K mainGlobals "NoMarket"=some (some (.ref Mk)))
  (Vg:PySem.W.nsIn K mainGlobals "NoPrices"=some (some (.ref Pr)))
  (Vm:PySem.W.nsIn K mainGlobals "Dear"=some (some (.ref De)))
  (Vd:PySem.W.nsIn K mainGlobals "Unwished"=some (some (.ref Un)))
  (Vn:PySem.W.nsIn K mainGlobals "NoBuyer"=some (some (.ref Bu)))
  (Vk:PySem.W.nsIn K mainGlobals "NoGood"=some (some (.ref Go)))
  (Vh:PySem.W.nsIn K mainGlobals "Nothing"=some (some (.ref No)))
  (Vl:PySem.W.nsIn K mainGlobals "NoDealing"=some (some (.ref Dl)))
  (Ve:PySem.W.nsIn K mainGlobals "NoText"=some (some (.ref Tx)))
  (Vf:PySem.W.nsIn K mainGlobals "NoRow"=some (some (.ref Ro)))
  (ti1:PySem.W.kitOne K (.type "NoneType") (.type "int")=some false)
  (ti2:PySem.W.kitOne K (.type "bool") (.type "int")=some true)
  (TL:PySem.W.kitOne K (.type "int") (.type "int")=some true)
  (TK:PySem.W.kitOne K (.type "str") (.type "int")=some false)
  (TJ:PySem.W.kitOne K (.type "list") (.type "int")=some false)
  (TH:PySem.W.kitOne K (.type "tuple") (.type "int")=some false)
  (TV:PySem.W.kitOne K (.type "NoneType") (.type "bool")=some false)
  (TU:PySem.W.kitOne K (.type "bool") (.type "bool")=some true)
  (TR:PySem.W.kitOne K (.type "int") (.type "bool")=some false)
  (TQ:PySem.W.kitOne K (.type "str") (.type "bool")=some false)
  (TN:PySem.W.kitOne K (.type "list") (.type "bool")=some false)
  (TM:PySem.W.kitOne K (.type "tuple") (.type "bool")=some false)
  (A2:PySem.W.kitOne K (.type "NoneType") (.type "tuple")=some false)
  (A1:PySem.W.kitOne K (.type "bool") (.type "tuple")=some false)
  (TD:PySem.W.kitOne K (.type "int") (.type "tuple")=some false)
  (TC:PySem.W.kitOne K (.type "str") (.type "tuple")=some false)
  (TB:PySem.W.kitOne K (.type "list") (.type "tuple")=some false)
  (Tz:PySem.W.kitOne K (.type "tuple") (.type "tuple")=some true)
  (K3:PySem.W.excIn K Nn [.type "ValueError",.type "Exception",.type "BaseException",.type "object"] "ValueError.__new__"=true)
  (Gk:PySem.W.excIn K Pr [.type "ValueError",.type "Exception",.type "BaseException",.type "object"] "ValueError.__new__"=true)
  (eT:PySem.W.typeIn K (.ref M)=some (.type "type")) (eB:PySem.W.mroIn K M (.type "BaseException")=some true)
  (e4:PySem.W.specialIn K (.builtin "object.__class__") "__get__"=some (some (.builtin "getset_descriptor.__get__"))) (e5:PySem.W.takesIn K (.builtin "object.__class__")=some true)
  (CA:PySem.W.kitOne K (.ref Pr) (.ref De)=some false)
  (CC:PySem.W.kitOne K (.ref Pr) (.ref Bu)=some false)
  (Cz:PySem.W.kitOne K (.ref Pr) (.ref Dl)=some false)
  (Cy:PySem.W.kitOne K (.ref Pr) (.ref Go)=some false)
  (Cw:PySem.W.kitOne K (.ref Pr) (.ref Mk)=some false)
  (Cv:PySem.W.kitOne K (.ref Pr) (.ref Nn)=some false)
  (Ct:PySem.W.kitOne K (.ref Pr) (.ref Pr)=some true)
  (Cs:PySem.W.kitOne K (.ref Pr) (.ref Ro)=some false)
  (Cr:PySem.W.kitOne K (.ref Pr) (.ref Tx)=some false)
  (Cu:PySem.W.kitOne K (.ref Pr) (.ref No)=some false)
  (Cq:PySem.W.kitOne K (.ref Pr) (.ref Un)=some false)
  (Cp:PySem.W.kitOne K (.ref Pr) (.type "ValueError")=some true)
  (TZ:PySem.W.mroIn K Pr (.ref M)=some true) (Ke:PySem.W.findIn K (.ref Pr) "__getattribute__"=some (some (.builtin "BaseException.__getattribute__"))) (Kc:PySem.W.findIn K (.ref Pr) "__getattr__"=some none) (Ka:PySem.W.findIn K (.ref Pr) "__class__"=some (some (.builtin "object.__class__"))) (J9:PySem.W.mroIn K Pr (.type "object")=some true) (FK:PySem.W.mroIn K Pr (.type "BaseException")=some true)
  (Kf:PySem.W.typeIn K (.ref Pr)=some (.type "type")) (KJ:PySem.W.mroIn K Pr (.ref Pr)=some true) :
  ∃fd:FuncData,(∀(s:Shared) (v:Value),BindsTo s fd ⟨[v],[]⟩ [("script",v)])/\∀base:Heap,K.In base->base.Ns mainGlobals mg->aM l.prog w K mg base cP 10 fa fd ["script"] (uw K):=by
 a% a0 l0 c0 k0
 a% a1 l1 c1 k1
 a% a2 l2 c2 k2
 a% a3 l3 c3 k3
 a% a4 l4 c4 k4
 a% a5 l5 c5 k5
 a% a6 l6 c6 k6
 a% a7 l7 c7 k7
 a% a8 l8 c8 k8
 a% a9 l9 c9 k9
 a% Ta l10 c10 YQ
 a% S9 l11 c11 YO
 a% S8 l12 c12 YN
 a% S7 l13 c13 YM
 a% S6 l14 c14 YL
 a% S5 l15 c15 YK
 a% S4 l16 c16 YJ
 a% S3 l17 c17 YI
 a% S1 l18 c18 YH
 a% S0 l19 c19 YG
 a% SY l20 c20 YF
 a% SX l21 c21 YE
 a% SW l22 c22 YD
 a% SV l23 c23 YC
 a% SU l24 c24 YB
 a% SS l25 c25 YA
 a% SR l26 c26 Yz
 a% Pb l27 c27 Uo
 a% SQ l28 c28 Yy
 a% SO l29 c29 Yx
 a% SN l30 c30 Yw
 a% SM l31 c31 Yv
 a% a32 l32 c32 Yu
 a% SK l33 c33 Yt
 a% SJ l34 c34 Ys
 a% SH l35 c35 X9
 a% SG l36 c36 X8
 a% Pa l37 c37 Um
 a% SF l38 c38 X7
 a% SE l39 c39 X6
 a% SD l40 c40 X5
 a% SA l41 c41 X4
 a% Sz l42 c42 X3
 a% Sy l43 c43 X2
 a% Sx l44 c44 X1
 a% Sv l45 c45 X0
 a% Ss l46 c46 XZ
 a% Sr l47 c47 XY
 a% O9 l48 c48 Ul
 a% So l49 c49 XX
 a% Sn l50 c50 XW
 a% Sm l51 c51 XV
 a% Sl l52 c52 XU
 a% Sk l53 c53 XT
 a% Sj l54 c54 XS
 a% Si l55 c55 XR
 o%⟨agU,agT,WK,Xb,WD,Xi,Xf,Xc,agS,O7,l56,c56,k56⟩:=O7;have e:=hfa.symm.trans (PySem.W.mg_of X G O7);cases e;have N:Nm mg:=⟨PySem.W.mg_none_of X G z0,PySem.W.mg_none_of X G z1,PySem.W.mg_none_of X G z2,PySem.W.mg_none_of X G z3,PySem.W.mg_none_of X G z4,PySem.W.mg_none_of X G z5,PySem.W.mg_none_of X G z6,PySem.W.mg_none_of X G z7,PySem.W.mg_none_of X G z8,PySem.W.mg_none_of X G z9,PySem.W.mg_none_of X G Tp,PySem.W.mg_none_of X G Tn,PySem.W.mg_none_of X G Tl,PySem.W.mg_none_of X G Tk,PySem.W.mg_none_of X G Tj⟩;have KI:=PySem.W.mg_none_of X G J3;have Hw:=PySem.W.mg_none_of X G sA;have Z:rM K:=⟨ti1,ti2,TL,TK,TJ,TH,TV,TU,TR,TQ,TN,TM,A2,A1,TD,TC,TB,Tz⟩;have vB:=PySem.W.mg_of X G jx;have tM:=PySem.W.mg_of X G iD;have qp:=PySem.W.mg_of X G gN;have xz:=PySem.W.mg_of X G kq;have Ub:=PySem.W.mg_of X G gM;have zQ:=PySem.W.mg_of X G Vi;have Kx:=PySem.W.mg_of X G Vj;have BL:=PySem.W.mg_of X G Vg;have KA:=PySem.W.mg_of X G Vm;have Kt:=PySem.W.mg_of X G Vd;have KC:=PySem.W.mg_of X G Vn;have Ky:=PySem.W.mg_of X G Vk;have Kw:=PySem.W.mg_of X G Vh;have Kz:=PySem.W.mg_of X G Vl;have Ku:=PySem.W.mg_of X G Ve;have Kv:=PySem.W.mg_of X G Vf;have R:V1 K mg M De Bu Dl Go Mk Nn Pr Ro Tx No Un:=⟨Ub,KA,KC,Kz,Ky,Kx,zQ,BL,Kv,Ku,Kw,Kt,eT,eB⟩;have EPr:yx K M De Bu Dl Go Mk Nn Pr Ro Tx No Un Pr 6:=⟨CA,CC,Cz,Cy,Cw,Cv,Ct,Cs,Cr,Cu,Cq,Cp,Gk,TZ,⟨Ke,Kc,Ka,e4,e5,J9,FK⟩⟩;have F0:=dE (st:=top 14) l0 c0 k0;have b0:=F0.binds (ps:=["thing"]) b1%;have F1:=dE (st:=top 15) l1 c1 k1;have b1:=F1.binds (ps:=["thing"]) b1%;have F2:=dE (st:=top 16) l2 c2 k2;have b2:=F2.binds (ps:=["one","other"]) b2%;have F3:=dE (st:=top 17) l3 c3 k3;have b3:=F3.binds (ps:=["top","bottom"]) b2%;have F4:=dE (st:=top 18) l4 c4 k4;have b4:=F4.binds (ps:=["one","other"]) b2%;have F5:=dE (st:=top 19) l5 c5 k5;have b5:=F5.binds (ps:=["one","other"]) b2%;have F6:=dE (st:=top 20) l6 c6 k6;have b6:=F6.binds (ps:=["one","other"]) b2%;have F7:=dE (st:=top 21) l7 c7 k7;have b7:=F7.binds (ps:=["one","other"]) b2%;have F8:=dE (st:=top 22) l8 c8 k8;have b8:=F8.binds (ps:=["parts"]) b1%;have F9:=dE (st:=top 23) l9 c9 k9;have b9:=F9.binds (ps:=["parts"]) b1%;have F10:=dE (st:=top 25) l10 c10 YQ;have b10:=F10.binds (ps:=["market","thing"]) b2%;have F11:=dE (st:=top 26) l11 c11 YO;have b11:=F11.binds (ps:=["thing","goods"]) b2%;have F12:=dE (st:=top 27) l12 c12 YN;have b12:=F12.binds (ps:=["dealing","good"]) b2%;have F13:=dE (st:=top 32) l13 c13 YM;have b13:=F13.binds (ps:=["market"]) b1%;have F14:=dE (st:=top 34) l14 c14 YL;have b14:=F14.binds (ps:=["market","thing"]) b2%;have F15:=dE (st:=top 35) l15 c15 YK;have b15:=F15.binds (ps:=["market","thing"]) b2%;have F16:=dE (st:=top 36) l16 c16 YJ;have b16:=F16.binds (ps:=["market","prices"]) b2%;have F17:=dE (st:=top 37) l17 c17 YI;have b17:=F17.binds (ps:=["row","prices"]) b2%;have F18:=dE (st:=top 38) l18 c18 YH;have b18:=F18.binds (ps:=["wish","price"]) b2%;have F19:=dE (st:=top 40) l19 c19 YG;have b19:=F19.binds (ps:=["market","prices","dealing"]) b3%;have F20:=dE (st:=top 41) l20 c20 YF;have b20:=F20.binds (ps:=["market","dealing"]) b2%;have F21:=dE (st:=top 42) l21 c21 YE;have b21:=F21.binds (ps:=["best","dealing"]) b2%;have F22:=dE (st:=top 43) l22 c22 YD;have b22:=F22.binds (ps:=["market","prices","dealing"]) b3%;have F23:=dE (st:=top 46) l23 c23 YC;have b23:=F23.binds (ps:=["thing"]) b1%;have F24:=dE (st:=top 47) l24 c24 YB;have b24:=F24.binds (ps:=["thing","most"]) b2%;have F25:=dE (st:=top 48) l25 c25 YA;have b25:=F25.binds (ps:=["thing","most"]) b2%;have F26:=dE (st:=top 49) l26 c26 Yz;have b26:=F26.binds (ps:=["table"]) b1%;have V0:=dE (st:=top 50) l27 c27 Uo;have b27:=V0.binds (ps:=["table"]) b1%;have F28:=dE (st:=top 51) l28 c28 Yy;have b28:=F28.binds (ps:=["barter","prices"]) b2%;have F29:=dE (st:=top 52) l29 c29 Yx;have b29:=F29.binds (ps:=["numbers","prices"]) b2%;have F30:=dE (st:=top 53) l30 c30 Yw;have b30:=F30.binds (ps:=["barter","prices","dealing"]) b3%;have F31:=dE (st:=top 54) l31 c31 Yv;have b31:=F31.binds (ps:=["barter"]) b1%;have F32:=dE (st:=top 55) l32 c32 Yu;have b32:=F32.binds (ps:=["barter","hand"]) b2%;have F33:=dE (st:=top 56) l33 c33 Yt;have b33:=F33.binds (ps:=["brought","wishes"]) b2%;have F34:=dE (st:=top 57) l34 c34 Ys;have b34:=F34.binds (ps:=["barter","hands"]) b2%;have F35:=dE (st:=top 59) l35 c35 X9;have b35:=F35.binds (ps:=["script","k"]) b2%;have F36:=dE (st:=top 60) l36 c36 X8;have b36:=F36.binds (ps:=["bag","many"]) b2%;have VZ:=dE (st:=top 61) l37 c37 Um;have OZ:=VZ.binds (ps:=["top","bottom"]) b2%;have F38:=dE (st:=top 62) l38 c38 X7;have b38:=F38.binds (ps:=["one","other"]) b2%;have F39:=dE (st:=top 64) l39 c39 X6;have b39:=F39.binds (ps:=["one","other"]) b2%;have F40:=dE (st:=top 65) l40 c40 X5;have b40:=F40.binds (ps:=["one","other"]) b2%;have F41:=dE (st:=top 67) l41 c41 X4;have b41:=F41.binds (ps:=["some"]) b1%;have F42:=dE (st:=top 68) l42 c42 X3;have b42:=F42.binds (ps:=["thing"]) b1%;have F43:=dE (st:=top 69) l43 c43 X2;have b43:=F43.binds (ps:=["market","prices"]) b2%;have F44:=dE (st:=top 70) l44 c44 X1;have b44:=F44.binds (ps:=["market","thing"]) b2%;have F45:=dE (st:=top 71) l45 c45 X0;have b45:=F45.binds (ps:=["market"]) b1%;have F46:=dE (st:=top 72) l46 c46 XZ;have b46:=F46.binds (ps:=["market","prices","dealing"]) b3%;have F47:=dE (st:=top 73) l47 c47 XY;have b47:=F47.binds (ps:=["bag"]) b1%;have F48:=dE (st:=top 74) l48 c48 Ul;have b48:=F48.binds (ps:=["bag","thing","deep"]) b3%;have F49:=dE (st:=top 75) l49 c49 XX;have b49:=F49.binds (ps:=["e"]) b1%;have F50:=dE (st:=top 76) l50 c50 XW;have b50:=F50.binds (ps:=["bag","market","prices","dealing"]) b4%;have F51:=dE (st:=top 77) l51 c51 XV;have b51:=F51.binds (ps:=["bag"]) b1%;have F52:=dE (st:=top 78) l52 c52 XU;have b52:=F52.binds (ps:=["barter","prices"]) b2%;have F53:=dE (st:=top 79) l53 c53 XT;have b53:=F53.binds (ps:=["barter","thing"]) b2%;have F54:=dE (st:=top 80) l54 c54 XS;have b54:=F54.binds (ps:=["barter","prices","dealing"]) b3%;have F55:=dE (st:=top 81) l55 c55 XR;have b55:=F55.binds (ps:=["barter","prices"]) b2%
 have F56:=dE (st:=top 82) l56 c56 k56;r%⟨PySem.W.fnOf "law" "law" (jE (top 82)) (Bn (top 82)) (aX (top 82)) .none WK Xb WD Xi Xf Xc,fun s v=>.of_eq rfl,fun base _ _=>?_⟩
 c% W "is_whole" 1 ["thing"] (spT E1) f0 (Ed F0 N Z) a0 k0 b0
 c% Gc "common_divisor" 1 ["one","other"] Ci f2 (Mx F2 N) a2 k2 b2
 c% Gn "common_divisor" 1 ["one","other"] wG f2 (Hi F2 N) a2 k2 b2
 c% IF "is_fraction" 2 ["thing"] (spT aO) f1 (Ay F1 N Z W Gc) a1 k1 b1
 cX% Fr "fraction" 2 ["top","bottom"] (BI Nn) f3 (vy F3 zQ K3 Gn) a3 k3 b3
 cX% Pl "plus" 3 ["one","other"] (tX HW) f4 (Ha F4 Fr) a4 k4 b4
 cX% Ti "times" 3 ["one","other"] (tX nQ) f5 (Ef F5 Fr) a5 k5 b5
 cX% Ov "over" 3 ["one","other"] (wD Nn) f6 (Hb F6 Fr) a6 k6 b6
 c% Ls "less" 1 ["one","other"] wF f7 (Hg F7) a7 k7 b7
 c% To "total" 4 ["parts"] qE f8 (Ee F8 Pl) a8 k8 b8
 c% Gr "greatest" 2 ["parts"] Ch f9 (vw F9 Ls) a9 k9 b9
 c% Ra "rate" 4 ["wish","price"] wC Ψ (G9 F18 Ov) S1 YH b18
 c% Bb "best_by_wishes" 5 ["row","prices"] FN Ω (Ri F17 N Ra Gr) S3 YI b17
 c% Wi "wished" 1 ["market"] (MI.cj K MI.wq) f13 (Md F13 N) S7 YM b13
 c% Ar "are_prices" 3 ["market","thing"] (MI.cj K MI.BY) f14 (Mp F14 N Z IF Wi) S6 YL b14
 cX% Ne "need_prices" 4 ["market","thing"] (MI.cj K (MI.ke Pr)) f15 (Eg F15 BL Gk Ar) S5 YK b15
 c% Be "best_goods" 6 ["market","prices"] (MI.cj K MI.B8) f16 (MB F16 N Ne Bb) S4 YJ b16
 c% Dr "is_dealt_row" 3 ["thing","goods"] (MI.cj K MI.uG) f11 (Hk F11 N Z IF) S9 YO b11
 c% IDl "is_dealing" 4 ["market","thing"] (MI.cj K MI.o9) f10 (Ej F10 N Z Dr) Ta YQ b10
 c% Gia "got_in_all" 5 ["dealing","good"] ya f12 (Mw F12 To) S8 YN b12
 c% Sel "sells_all" 6 ["market","dealing"] (MI.cj K MI.o7) Ξ (Ax F20 N Gia Wi) SY YF b20
 c% Spe "spends_all" 5 ["market","prices","dealing"] (MI.cj K MI.kW) Θ (xp F22 N KI Ti To) SW YD b22
 c% Giv "gives_best" 1 ["best","dealing"] nv Λ (Ek F21 N) SX YE b21
 c% Sh "shows" 7 ["market","prices","dealing"] (MI.cj K MI.BV) Φ (Ml F19 N Be IDl Sel Giv Spe) S0 YG b19
 c% Rw "is_row" 2 ["thing","most"] wB ω (zU.Mn F25 N Z vB W) SS YA b25
 c% Tbl "is_table" 3 ["thing","most"] Cg Γ (zU.Mh F24 N Z tM Rw) SU YB b24
 c% Cl1 "columns" 1 ["table"] wI Vq (zU.sQ V0 N) Pb Uo b27
 c% Cl2 "columns" 1 ["table"] (MI.cj K MI.uH) Vq (sQ V0 N) Pb Uo b27
 c% Nou "leaves_none_out" 2 ["table"] sH ψ (zU.Q8 F26 N Cl1) SR Yz b26
 c% Ib "is_barter" 4 ["thing"] (spT JZ) Δ (zU.Rf F23 N Z qp xz Tbl Nou) SV YC b23
 c% Mny "money_for" 5 ["numbers","prices"] (MI.cj K MI.o8) υ (Eh F29 N KI Ti To) SO Yx b29
 cX% Ma "market_at" 6 ["barter","prices"] (MI.cj K (MI.oK Pr)) χ (He F28 N Cl2 Ne Mny) SQ Yy b28
 c% Le "lets_by" 8 ["barter","prices","dealing"] (MI.cj K (MI.qJ Pr)) τ (Hf F30 N BL Kf FK KJ Ma Sh) SN Yw b30
 c% Bw "brings_wished" 1 ["brought","wishes"] sI ο (Cd.Rg F33 N KI) SK Yt b33
 c% Ob "goods_only_brought" 1 ["barter","hands"] wE ξ (Cd.Q7 F34 N) SJ Ys b34
 c% Sw "shut_in_with" 2 ["barter","hand"] kg π (Cd.Q6 F32 N Hw Bw) a32 Yu b32
 c% Bd "barred" 3 ["barter"] lc ρ (Cd.Rh F31 N Sw Ob) SM Yv b31
 c% Bg "_law_bag" 1 ["script","k"] (yc K) ν (MD F35 N) SH X9 b35
 c% T "_law_take" 1 ["bag","many"] jd ι (G8 F36) SG X8 b36
 c% Lf "_law_frac" 1 ["top","bottom"] wH Vp (Hj VZ N) Pa Um OZ
 c% VU "_law_frac" 1 ["top","bottom"] BH Vp (Q9 VZ N) Pa Um OZ
 c% VT "_law_mul" 2 ["one","other"] (tX nQ) η (xr F39 VU) SE X6 b39
 c% La "_law_add" 2 ["one","other"] (tX HW) θ (xu F38 VU) SF X7 b38
 c% Ld "_law_div" 2 ["one","other"] yb ζ (xt F40 VU) SD X5 b40
 c% Su "_law_sum" 3 ["some"] uv ε (Mj F41 La) SA X4 b41
 c% Li "_law_is_fraction" 2 ["thing"] (BG aO) δ (xq F42 N Z Lf) Sz X3 b42
 c% LB "_law_best" 1 ["market","prices"] (MI.cj K MI.B9) γ (MC F43 N) Sy X2 b43
 c% LDl "_law_is_dealing" 3 ["market","thing"] (MI.cj K MI.uF) Z' (Hh F44 N Z Li) Sx X1 b44
 c% Lws "_law_wished" 1 ["market"] (MI.cj K MI.BU) Y' (Mg F45 N) Sv X0 b45
 c% LSh "_law_shows" 4 ["market","prices","dealing"] (MI.cj K MI.BX) V' (Mm F46 N LB Su Lws La VT) Ss XZ b46
 c% Od "_law_odd" 2 ["bag"] (MI.cj K MI.uo) U' (G7 F47 T) Sr XY b47
 c% Re "_law_replaced" 6 ["bag","thing","deep"] (MI.cj K (MI.wt 4)) T' (yM F48 N Z T Od (PySem.W.mg_of X G O9) Ul b48 4) O9 Ul b48
 cH% Ki "_law_kinds" 1 ["e"] (nu K M De Bu Dl Go Mk Nn Pr Ro Tx No Un) S' (Ei F49 N R) So XX b49
 c% Kb "_law_known_barter" 3 ["bag","market","prices","dealing"] (MI.cj K MI.B5) R' (Mv F50 N T Ld) Sn XW b50
 c% Dea "_law_dealt" 2 ["bag"] (MI.cj K MI.pd) N' (El F51 N T) Sm XV b51
 c% Mof "_law_market_of" 4 ["barter","prices"] (MI.cj K MI.oJ) L' (Hc F52 N VT Su) Sl XU b52
 c% Apr "_law_are_prices" 3 ["barter","thing"] (MI.cj K MI.wu) Z9 (MF F53 N Z Li) Sk XT b53
 c% Du "_law_due" 5 ["barter","prices","dealing"] (MI.cj K MI.B7) Z8 (Mz F54 N Apr Mof LDl LSh) Sj XS b54
 c% Mr "_law_market_right" 7 ["barter","prices"] (MI.cj K MI.BZ) Z7 (Mq F55 N R EPr Ma Ki Apr Mof) Si XR b55
 e%Mt F56 N Z Bg T Dea Kb Ib Le Bd VT Re Od Du Mr
t%walk {l:PySem.W.OpenLaw}{q:Program}{qI:List Str}{XP:(Str->Option Value)->Heap->Prop}{YP:World->Heap->Prop}{d:DefRec}{K:Params->PySem.W.Frag}(hn:l.most=some 63)(OK:d.params.defaults=[])
  (hY:∀(w:World) (h:Heap),YP w h->(K w.params).In h)
  (F:∀(w:World) (mg:Str->Option Value) (fa:Addr) (h:Heap),(K w.params).In h->h.Ns mainGlobals mg->mg d.name=some (.ref fa) ->
   ∃fd:FuncData,(∀(s:Shared) (u:Value),BindsTo s fd ⟨[u],[]⟩ [("script",u)])/\∀base:Heap,(K w.params).In base->base.Ns mainGlobals mg->aM l.prog w (K w.params) mg base cP 10 fa fd ["script"] (uw (K w.params))) :
  PySem.W.WalkO q qI XP YP l.row.toRowW d [] (fun f vs=>PySem.call f vs) :=
 L2.Gp (n:=63) (k:=10) (x:="script") (CX:=fun _=>cP) (sp:=fun w=>uw (K w.params)) hn d% OK ⟨rfl,by decide,by decide⟩ hY F (fun _ _ a ns hl _ hS=>⟨a,ns,rfl,hS,hl,fun _=>rfl⟩) fun _ _ _ _ _ z=>z
end jQ
open PySem PySem.W PyProof.Rows
macro "w%" n:ident : command=>`(noncomputable def $n : Nat:=0)
namespace PySem.W.Fast
w%tw1019206987574379528
w%tw10208204756616048554
w%tw10247740856628813091
w%tw10279114334349374291
w%tw10453955214528097953
w%tw10461002276833488611
w%tw10478723318607448748
w%tw10673043907149361114
w%tw10681668445598000235
w%tw10763183012503314445
w%tw10795914125295575668
w%tw10888468422295933282
w%tw10897572189245282303
w%tw10903206700822317531
w%tw10995561369507628811
w%tw11044264529516912345
w%tw11060119477523133756
w%tw11336000710924072167
w%tw11360809133663264137
w%tw11480229090714538467
w%tw11512893484087043056
w%tw11543071249233171912
w%tw11684839007273846055
w%tw11720599161779413727
w%tw11772642725535103222
w%tw11807881254569928630
w%tw11807961157479577296
w%tw11839600059896642493
w%tw12036352622964063480
w%tw12056423147014944317
w%tw12065529312372670083
w%tw12239356890171746429
w%tw12293927597914347988
w%tw12429993454964475914
w%tw124730706368324534
w%tw12593782439733061469
w%tw12836130335315529319
w%tw12922348440435213958
w%tw12931707026436448554
w%tw13005430233620642116
w%tw13078526044111011611
w%tw13097691006273651227
w%tw13175875857649282551
w%tw13244779449049381784
w%tw13422584367147530025
w%tw13754712353965018226
w%tw1396949151647573060
w%tw13971090128220345933
w%tw13987714167614091645
w%tw14093915873571792094
w%tw14112862231249204903
w%tw14185211274144245209
w%tw14219841758241910706
w%tw14241121986745265019
w%tw14276717502919363362
w%tw1442640176372512004
w%tw14509855416048758587
w%tw14541116725372673752
w%tw14564797136180743553
w%tw14576103202819339848
w%tw14617311549816293394
w%tw1462746274497334068
w%tw14741000063550136796
w%tw14742167910443346331
w%tw14795246721313173626
w%tw14908918130651794808
w%tw15039688032339950679
w%tw1514983428161185911
w%tw15239346191155788663
w%tw15291675564321812606
w%tw15340577179398837405
w%tw15402131940239114347
w%tw15478491858440407266
w%tw15556930276072842268
w%tw15670228369058809720
w%tw15713673538388778655
w%tw1571990980558542703
w%tw15722796332642274906
w%tw15738647930646648734
w%tw15865219750602472194
w%tw15870624619512270854
w%tw15996908376874583865
w%tw16069986775431541930
w%tw160827637329451998
w%tw16224670990874735501
w%tw16309209042731928876
w%tw16327347471409355197
w%tw1642396119224023454
w%tw16436643455843830577
w%tw16454016885126941832
w%tw165204494252349328
w%tw16547563868010443161
w%tw16567477094517071883
w%tw16591417469924729980
w%tw16616263444517534076
w%tw16692536479960229325
w%tw16976775265501943052
w%tw17064510316469881068
w%tw1707857840685600753
w%tw17162912789410288041
w%tw17252633418665617147
w%tw17473187193379525759
w%tw17484680731535291111
w%tw17590131127363445627
w%tw17598048694480481420
w%tw17731178020891980829
w%tw17806148263099007691
w%tw17819112147560496152
w%tw17901080513991753942
w%tw18030503426526502562
w%tw18240528782849961264
w%tw2147660367515994582
w%tw2293763427000120513
w%tw2372150176386633953
w%tw2519015450904559822
w%tw2629190561423420902
w%tw2672419525611192437
w%tw2912909822318271681
w%tw3219023956431504496
w%tw3245390021303210902
w%tw3287242301083795802
w%tw3302633242125396154
w%tw3438725179012626306
w%tw3594879662843137604
w%tw3612402789950454722
w%tw3639487261780132059
w%tw3757126409465081085
w%tw3900978083776489323
w%tw3960563414610901365
w%tw3968249807496215503
w%tw3985945078360178339
w%tw3996882340584375449
w%tw4034866991395997291
w%tw4064306873774347633
w%tw4157030599648407527
w%tw4168210164591008874
w%tw4194002180655044147
w%tw420304078258572717
w%tw4222938039541424165
w%tw4299667406042369740
w%tw4445068507287475148
w%tw444663109761343773
w%tw4448431324854247164
w%tw455040403584299244
w%tw4579794804672325608
w%tw4580858160596147226
w%tw4743928396769166427
w%tw4768222165626466937
w%tw4820367391360367308
w%tw4865464279109471501
w%tw5064266169530051628
w%tw5068723904146940748
w%tw5162916028859804101
w%tw5190701689724367014
w%tw5275228471152324141
w%tw5383809364629134701
w%tw5452998822491078054
w%tw5510321783647675791
w%tw5619423625492876083
w%tw5623230474954357417
w%tw5726596415866113770
w%tw5768855393527065091
w%tw5812616886067970556
w%tw5846089230325847721
w%tw5940422917194897259
w%tw5989761639548125379
w%tw610401176503214300
w%tw6146317604226150947
w%tw614878964177415293
w%tw6310303483473524369
w%tw6517585442406411865
w%tw6605419698110488371
w%tw6903113387549169678
w%tw700213729637151108
w%tw7123189841281198890
w%tw733565056387517867
w%tw7362378844977283442
w%tw7477066927109455528
w%tw7524688359219661838
w%tw7544194493351750015
w%tw7552955526326338557
w%tw7742042350596600847
w%tw7748069935192497278
w%tw791547973604885106
w%tw8006410180742069764
w%tw808041454207250957
w%tw8080928413041590764
w%tw8142897827226344281
w%tw8262241363662569684
w%tw8290183938802127232
w%tw8461312148209373801
w%tw8492560367473147316
w%tw8530828871639929575
w%tw8616452560970115731
w%tw8617296712781206646
w%tw8681997561293623270
w%tw8709774338519498100
w%tw8779554231352547541
w%tw8806591980172940818
w%tw8855817611353654291
w%tw8920677044708664057
w%tw9024545265293144242
w%tw9079718287542804705
w%tw9158591164054533137
w%tw9173897088580455911
w%tw9183275008463490271
w%tw9187802565945812948
w%tw9316736161796238865
w%tw9368281486623937017
w%tw9413457258113049499
w%tw9415496717912677773
w%tw9470002539792848525
w%tw9699895582430272751
w%tw9721453978304014596
w%tw980277230875443317
w%tw9859491200301350209
w%tw9924781081298990929
end PySem.W.Fast
set_option maxRecDepth 100000 in
set_option maxHeartbeats 0 in
theorem PySem.Challenge.cw_wishmart_k30_whole_barters_let_by_holds : PySem.Challenge.rw_wishmart_k30_whole_barters_let_by.Holds := by
 w_on;o_law;k_head;(case hw=>w_witness2)
 k_fill
 r%jQ.walk (l:=PySem.Challenge.rw_wishmart_k30_whole_barters_let_by) rfl rfl (fun w h Y=>PySem.W.kIn_of Y) ?F
 case F =>
  intro w mg fa h KX G Ig;refine' jQ.all_mk KX G Ig ?a0 ?a1 ?a2 ?a3 ?a4 ?a5 ?a6 ?a7 ?a8 ?a9 ?Ta ?S9 ?S8 ?S7 ?S6 ?S5 ?S4 ?S3 ?S1 ?S0 ?SY ?SX ?SW ?SV ?SU ?SS ?SR ?Pb ?SQ ?SO ?SN ?SM ?a32 ?SK ?SJ ?SH ?SG ?Pa ?SF ?SE ?SD ?SA ?Sz ?Sy ?Sx ?Sv ?Ss ?Sr ?O9 ?So ?Sn ?Sm ?Sl ?Sk ?Sj ?Si ?O7 ?z0 ?z1 ?z2 ?z3 ?z4 ?z5 ?z6 ?z7 ?z8 ?z9 ?Tp ?Tn ?Tl ?Tk ?Tj ?J3 ?sA ?jx ?iD ?gN ?kq ?gM ?Vi ?Vj ?Vg ?Vm ?Vd ?Vn ?Vk ?Vh ?Vl ?Ve ?Vf ?ti1 ?ti2 ?TL ?TK ?TJ ?TH ?TV ?TU ?TR ?TQ ?TN ?TM ?A2 ?A1 ?TD ?TC ?TB ?Tz ?K3 ?Gk ?eT ?eB ?e4 ?e5 ?CA ?CC ?Cz ?Cy ?Cw ?Cv ?Ct ?Cs ?Cr ?Cu ?Cq ?Cp ?TZ ?Ke ?Kc ?Ka ?J9 ?FK ?Kf ?KJ
  (case a0 |a1 |a2 |a3 |a4 |a5 |a6 |a7 |a8 |a9 |Ta |S9 |S8 |S7 |S6 |S5 |S4 |S3 |S1 |S0 |SY |SX |SW |SV |SU |SS |SR |Pb |SQ |SO |SN |SM |a32 |SK |SJ |SH |SG |Pa |SF |SE |SD |SA |Sz |Sy |Sx |Sv |Ss |Sr |O9 |So |Sn |Sm |Sl |Sk |Sj |Si |O7=>e%⟨_,_,_,_,_,_,_,_,_,by k_is,by k_is,by k_is,by k_is⟩)
  (case z0 |z1 |z2 |z3 |z4 |z5 |z6 |z7 |z8 |z9 |Tp |Tn |Tl |Tk |Tj |J3 |sA |jx |iD |gN |kq |gM |Vi |Vj |Vg |Vm |Vd |Vn |Vk |Vh |Vl |Ve |Vf=>k_is)
  (case ti1 |ti2 |TL |TK |TJ |TH |TV |TU |TR |TQ |TN |TM |A2 |A1 |TD |TC |TB |Tz |CA |CC |Cz |Cy |Cw |Cv |Ct |Cs |Cr |Cu |Cq |Cp=>first |rfl |kit_is |k_is)
  (case K3 |Gk |eT |eB |e4 |e5 |TZ |Ke |Kc |Ka |J9 |FK |Kf |KJ=>first |k_is |kit_is |rfl |kernel_rfl |decide+kernel)
